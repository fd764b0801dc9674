import PyProof.Rows.All
import Wide.All
import OpenK.AllK
import Wide.FinOn
import Lean
import PyProof.EqAt
import PyProof.EqKinds
import PyProof.TupleCall
import PyProof.NeKinds
import KE.KRevSl
import KE.KRevIter
import PyProof.ConsumeWalk
import KE.KSortAsk
import KE.KLam
import KE.KSortTup
import PyProof.AttrMissSeq
import PyProof.Rows.SetFrom
import KE.KDictOf
import KE.KDictSum
import PyProof.DictWalks
import KE.KUnpack
import PyProof.Rows.SumAny
import PyProof.EnumStmt
import PyProof.EnumMake
import PyProof.Rows.EnumRows
import PyProof.Rows.FactsN_abs
import PyProof.ListRange
import PyProof.FitsBits
import PyProof.Rows.IntMath
import PySem.Challenge.RW_lackstretch_k23_least_and_greatest_of_le
set_option Elab.async false
set_option linter.all false
set_option maxRecDepth 100000
namespace L2
open PySem PySem.Spec PyProof.Rows
abbrev Key := Sum Int Str
def V6 : Key → Value → Bool
  | .inl k, v => Value.isInt k v
  | .inr x, v => Value.isStrOf x v
def zeo (w : World) : Key → Int
  | .inl k => hashInt k
  | .inr x => hashStr w x
theorem yQ : ∀ {k : Key} {v : Value}, V6 k v = true → (∃ i t, k = Sum.inl i ∧ v = Value.int i t) ∨ (∃ x t, k = Sum.inr x ∧ v = Value.str x t)
  | .inl i, v, h => by
    obtain ⟨t, e⟩ := Value.isInt_shape (k := i) (v := v) h
    exact .inl ⟨i, t, rfl, e⟩
  | .inr x, v, h => by
    obtain ⟨t, e⟩ := Value.isStrOf_shape (x := x) (v := v) h
    exact .inr ⟨x, t, rfl, e⟩
theorem zat (i : Int) (t : Tok) : V6 (.inl i) (.int i t) = true := by simp [V6, Value.isInt]
theorem zaM (x : Str) (t : Tok) : V6 (.inr x) (.str x t) = true := by simp [V6, Value.isStrOf]
theorem zcV (a b : Int) : decide ((Sum.inl a : Key) = Sum.inl b) = (a == b) := by
  by_cases e : a = b
  · subst e; simp
  · have h : ¬ (Sum.inl a : Key) = Sum.inl b := fun q => e (Sum.inl.inj q)
    rw [decide_eq_false h]
    exact (beq_eq_false_iff_ne.mpr e).symm
theorem zdl (a b : Str) : decide ((Sum.inr a : Key) = Sum.inr b) = decide (a = b) := by
  by_cases e : a = b
  · subst e; simp
  · have h : ¬ (Sum.inr a : Key) = Sum.inr b := fun q => e (Sum.inr.inj q)
    rw [decide_eq_false h, decide_eq_false e]
theorem zdm (a : Int) (b : Str) : decide ((Sum.inl a : Key) = Sum.inr b) = false := decide_eq_false (fun q => nomatch q)
theorem zdn (a : Str) (b : Int) : decide ((Sum.inr a : Key) = Sum.inl b) = false := decide_eq_false (fun q => nomatch q)
def zX (prog : Program) (w : World) : PySem.KeyKind prog w Key where
  is := V6
  hash := zeo w
  inj := fun v a b ha hb => by
    rcases yQ ha with ⟨i, t, rfl, rfl⟩ | ⟨x, t, rfl, rfl⟩
    · rcases yQ hb with ⟨j, u, rfl, e⟩ | ⟨y, u, rfl, e⟩
      · injection e with e1 _; rw [e1]
      · exact nomatch e
    · rcases yQ hb with ⟨j, u, rfl, e⟩ | ⟨y, u, rfl, e⟩
      · exact nomatch e
      · injection e with e1 _; rw [e1]
  byValue := fun k v h => by
    rcases yQ h with ⟨i, t, rfl, rfl⟩ | ⟨x, t, rfl, rfl⟩ <;> rfl
  pyHash := fun hv h => by
    rcases yQ hv with ⟨i, t, rfl, rfl⟩ | ⟨x, t, rfl, rfl⟩
    · exact wpAny_pyHash_int h
    · exact wpAny_pyHash_str h
  eqBool := fun hu hv h => by
    rcases yQ hu with ⟨i, t, rfl, rfl⟩ | ⟨x, t, rfl, rfl⟩
    · rcases yQ hv with ⟨j, u, rfl, rfl⟩ | ⟨y, u, rfl, rfl⟩
      · rw [zcV] at h; exact wpAny_eqBool_int h
      · rw [zdm] at h; exact SeqAt.EqAt.int_str i t y u _ _ _ _ h
    · rcases yQ hv with ⟨j, u, rfl, rfl⟩ | ⟨y, u, rfl, rfl⟩
      · rw [zdn] at h; exact SeqAt.EqAt.str_int x t j u _ _ _ _ h
      · rw [zdl] at h; exact wpAny_eqBool_str h
  «strs» := fun k x t v h => by
    rcases yQ h with ⟨i, u, rfl, e⟩ | ⟨y, u, rfl, e⟩
    · exact nomatch e
    · injection e with e1 _
      subst e1
      cases v <;> rfl
theorem Jd (prog : Program) (w : World) (i : Int) (t : Tok) : (zX prog w).is (.inl i) (.int i t) = true := zat i t
theorem Qx (prog : Program) (w : World) (x : Str) (t : Tok) : (zX prog w).is (.inr x) (.str x t) = true := zaM x t
inductive V where
  | non | bl (b : Bool) | int (i : Int) | str (x : Str) | byt (b : Array UInt8) | flt (b : UInt64) | ref (a : Addr) | ty (n : String)
  deriving DecidableEq
def RelV : V → Value → Prop
  | .non, u => u = Value.none
  | .bl b, u => u = Value.bool b
  | .int i, u => ∃ t, u = Value.int i t
  | .str x, u => ∃ t, u = Value.str x t
  | .byt b, u => ∃ t, u = Value.bytes b t
  | .flt b, u => ∃ t, u = Value.float b t
  | .ref a, u => u = Value.ref a
  | .ty n, u => u = Value.type n
abbrev Vals : List V → List Value → Prop := Paired RelV
theorem Vals.length {xs : List V} {us : List Value} (r : Vals xs us) : xs.length = us.length := Paired.length r
theorem Vals.get : ∀ {xs : List V} {us : List Value} {i : Nat} {x : V}, Vals xs us → xs[i]? = some x → ∃ u, us[i]? = some u ∧ RelV x u
  | _, _, _, _, .nil, e => by simp at e
  | _, _, 0, _, .cons r _, e => by simp at e; subst e; exact ⟨_, rfl, r⟩
  | _, _, i + 1, x, .cons _ t, e => by
    obtain ⟨u, h1, h2⟩ := Vals.get (i := i) (x := x) t (by simpa using e)
    exact ⟨u, by simpa using h1, h2⟩
theorem Vals.set {x : V} {u : Value} (r : RelV x u) : ∀ {xs : List V} {us : List Value} (i : Nat), Vals xs us → Vals (xs.set i x) (us.set i u)
  | _, _, _, .nil => .nil
  | _, _, 0, .cons _ t => .cons r t
  | _, _, i + 1, .cons q t => .cons q (Vals.set r i t)
theorem Vals.append : ∀ {xs ys : List V} {us ws : List Value}, Vals xs us → Vals ys ws → Vals (xs ++ ys) (us ++ ws)
  | _, _, _, _, .nil, s => s
  | _, _, _, _, .cons r t, s => .cons r (Vals.append t s)
theorem Vals.take : ∀ {xs : List V} {us : List Value} (n : Nat), Vals xs us → Vals (xs.take n) (us.take n)
  | _, _, 0, _ => .nil
  | _, _, _ + 1, .nil => .nil
  | _, _, n + 1, .cons r t => .cons r (Vals.take n t)
theorem Vals.drop : ∀ {xs : List V} {us : List Value} (n : Nat), Vals xs us → Vals (xs.drop n) (us.drop n)
  | _, _, 0, r => r
  | _, _, _ + 1, .nil => .nil
  | _, _, n + 1, .cons _ t => Vals.drop n t
theorem Vals.none_of : ∀ {xs : List V} {us : List Value} {i : Nat}, Vals xs us → xs[i]? = none → us[i]? = none := fun {xs us i} r e => by
  have h1 := r.length
  have h2 : xs.length ≤ i := List.getElem?_eq_none_iff.mp e
  exact List.getElem?_eq_none_iff.mpr (by omega)
def RelO : Option V → Option Value → Prop
  | some v, some u => RelV v u
  | none, none => True
  | _, _ => False
def KV {κ : Type} : List (κ × V) → List (κ × Value) → Prop := Paired fun (p : κ × V) (q : κ × Value) => p.1 = q.1 ∧ RelV p.2 q.2
def kV : Key → V
  | .inl i => .int i
  | .inr x => .str x
inductive HO where
  | lst (xs : List V)
  | tup (xs : List V)
  | dK (kvs : List (Key × V)) | dT (kvs : List (List Key × V))
  | set (S : Int → Bool) (n : Nat)
  | ins (C dx : Addr) (fs : List (Str × V))
  | own (x : Addr)
  | xd (fs : List (Str × V))
  | met (f x : Addr)
  | rng (lo hi : Int)
  | frz (o : Obj) (u : HO)
  | tbl (ps : Array Value)
  | ext (φ : Heap → Prop)
abbrev Hp := Addr → Option HO
def upd (H : Hp) (a : Addr) (o : HO) : Hp := fun b => if b = a then some o else H b
theorem zf {H : Hp} {a : Addr} {o : HO} : upd H a o a = some o := by unfold upd; rw [if_pos rfl]
theorem zr {H : Hp} {a b : Addr} {o : HO} (h : b ≠ a) : upd H a o b = H b := by unfold upd; rw [if_neg h]
theorem zcr {H : Hp} {a : Addr} {o u : HO} : upd (upd H a o) a u = upd H a u := by
  funext b; unfold upd; split <;> rfl
theorem ZR {H : Hp} {a b : Addr} {o u : HO} (h : H a = some o) (h' : H b = some u) (d : o ≠ u) : a ≠ b := by
  intro e; subst e; rw [h] at h'; exact d (Option.some.inj h')
theorem zx {H : Hp} {a b : Addr} {o : HO} (h : H a = some o) (h' : H b = none) : a ≠ b := by
  intro e; subst e; rw [h] at h'; cases h'
section
variable (P : Program) (w : World)
def ObjOk (H : Hp) (h : Heap) (a : Addr) : HO → Prop
  | .lst xs => xs.length ≤ sizeLine ∧ ∃ (its : List Value) (n : Nat), Vals xs its ∧ h.get? a = some { cls := .type "list", data := .seq its.toArray n }
  | .tup xs => xs.length ≤ sizeLine ∧ ∃ its : List Value, Vals xs its ∧ IsTup h a its.toArray
  | .dK kvs => kvs.length ≤ sizeLine ∧ (a == sysModules) = false ∧ ∃ vs, KV kvs vs ∧ h.DictOf (zX P w) a vs
  | .dT kvs => kvs.length ≤ sizeLine ∧ (a == sysModules) = false ∧ ∃ xs : List (List Key × Addr × Value),
      Paired (fun (p : List Key × V) (q : List Key × Addr × Value) => p.1 = q.1 ∧ H q.2.1 = some (.tup (p.1.map kV)) ∧ RelV p.2 q.2.2) kvs xs ∧
      ∃ o es ep, h.get? a = some o ∧ o.ExactDict ∧ o.data = .dict es ep ∧ es.toList = xs.map (entryOfKey (tupleKind (zX P w))) ∧ (xs.map (·.1)).Nodup
  | .set S n => h.SetOf (intKind P w) a S n
  | .ins C dx fs => H dx = some (.own a) ∧ fs.length ≤ 1000 ∧ dx ≠ a ∧ h.get? a = some (PySem.W.instObj C dx) ∧
      ∃ mA, h.Ns1 dx mA ∧ (∀ f, RelO (fs.lookup f) (mA f)) ∧ PySem.Within mA (fs.map (·.1))
  | .own _ => ∃ o, h.get? a = some o
  | .xd fs => ∃ mA, h.Ns1 a mA ∧ ∀ f, RelO (fs.lookup f) (mA f)
  | .rng lo hi => ∃ t u v, h.get? a = some { cls := .type "range", data := .fields #[.int lo t, .int hi u, .int 1 v] }
  | .frz o u => h.get? a = some o ∧ ObjOk H h a u
  | .tbl ps => h.get? a = some { cls := .none, data := .fields ps }
  | .met f x => h.get? a = some (PySem.W.methodObj (.ref f) (.ref x))
  | .ext φ => φ h ∧ (∃ o, h.get? a = some o) ∧ ∀ h1 h2 : Heap, φ h1 → (∀ o, h1.get? a = some o → h2.get? a = some o) → φ h2
def HOk (H : Hp) (h : Heap) : Prop := ∀ a o, H a = some o → ObjOk P w H h a o
end
section
variable {P : Program} {w : World} {H H' : Hp} {h h' : Heap} {a : Addr} {o : HO}
theorem ObjOk.lt (x : ObjOk P w H h a o) : a < h.objs.size := by
  cases o with
  | lst xs => obtain ⟨_, _, _, _, e⟩ := x; exact Heap.lt_size e
  | tup xs => obtain ⟨_, _, _, p⟩ := x; exact p.lt
  | dK kvs => obtain ⟨_, _, _, _, o, _, _, e, _⟩ := x; exact Heap.lt_size e
  | dT kvs => obtain ⟨_, _, _, _, o, _, _, e, _⟩ := x; exact Heap.lt_size e
  | set S n => obtain ⟨o, _, _, _, e, _⟩ := x; exact Heap.lt_size e
  | ins C dx fs => obtain ⟨_, _, _, e, _⟩ := x; exact Heap.lt_size e
  | own y => obtain ⟨_, e⟩ := x; exact Heap.lt_size e
  | xd fs => obtain ⟨_, ⟨_, _, _, e, _⟩, _⟩ := x; exact Heap.lt_size e
  | rng lo hi => obtain ⟨_, _, _, e⟩ := x; exact Heap.lt_size e
  | frz ob u => obtain ⟨e, _⟩ := x; exact Heap.lt_size e
  | tbl ps => exact Heap.lt_size (show h.get? a = some _ from x)
  | met f y => exact Heap.lt_size (show h.get? a = some _ from x)
  | ext φ => obtain ⟨_, ⟨_, e⟩, _⟩ := x; exact Heap.lt_size e
theorem Paired.mapP {α β : Type} {F G : α → β → Prop} : ∀ {l₁ : List α} {l₂ : List β}, Paired F l₁ l₂ → (∀ a b, F a b → G a b) → Paired G l₁ l₂
  | _, _, .nil, _ => .nil
  | _, _, .cons r t, f => .cons (f _ _ r) (Paired.mapP t f)
theorem ObjOk.stay (x : ObjOk P w H h a o) (k : ∀ b u, (b = a ∨ H b = some (.own a)) → h.get? b = some u → h'.get? b = some u)
    (ho : ∀ b, H b = some (.own a) → H' b = some (.own a)) (ht : ∀ b xs, H b = some (.tup xs) → H' b = some (.tup xs)) : ObjOk P w H' h' a o := by
  induction o with
  | lst xs => obtain ⟨z, its, n, r, e⟩ := x; exact ⟨z, its, n, r, k _ _ (.inl rfl) e⟩
  | tup xs => obtain ⟨z, its, r, ob, e, c⟩ := x; exact ⟨z, its, r, ob, k _ _ (.inl rfl) e, c⟩
  | dK kvs => obtain ⟨z, y, vs, r, ob, es, ep, e, c⟩ := x; exact ⟨z, y, vs, r, ob, es, ep, k _ _ (.inl rfl) e, c⟩
  | dT kvs =>
    obtain ⟨z, y, xs, r, ob, es, ep, e, c⟩ := x
    exact ⟨z, y, xs, Paired.mapP r fun p q z => ⟨z.1, ht _ _ z.2.1, z.2.2⟩, ob, es, ep, k _ _ (.inl rfl) e, c⟩
  | set S n => obtain ⟨ob, es, ep, t, e, c⟩ := x; exact ⟨ob, es, ep, t, k _ _ (.inl rfl) e, c⟩
  | ins C dx fs =>
    obtain ⟨d, z, ne, e, mA, ⟨od, es, ep, e2, c⟩, r⟩ := x
    exact ⟨ho _ d, z, ne, k _ _ (.inl rfl) e, mA, ⟨od, es, ep, k _ _ (.inr d) e2, c⟩, r⟩
  | own y => obtain ⟨ob, e⟩ := x; exact ⟨ob, k _ _ (.inl rfl) e⟩
  | xd fs => obtain ⟨mA, ⟨od, es, ep, e, c⟩, r⟩ := x; exact ⟨mA, ⟨od, es, ep, k _ _ (.inl rfl) e, c⟩, r⟩
  | rng lo hi => obtain ⟨t, u, v, e⟩ := x; exact ⟨t, u, v, k _ _ (.inl rfl) e⟩
  | frz ob u ih => obtain ⟨e, q⟩ := x; exact ⟨k _ _ (.inl rfl) e, ih q⟩
  | tbl ps =>
    have e : h.get? a = some { cls := .none, data := .fields ps } := x
    show h'.get? a = some { cls := .none, data := .fields ps }
    exact k a _ (.inl rfl) e
  | met f y =>
    have e : h.get? a = some (PySem.W.methodObj (.ref f) (.ref y)) := x
    show h'.get? a = some (PySem.W.methodObj (.ref f) (.ref y))
    exact k a _ (.inl rfl) e
  | ext φ => obtain ⟨p, ⟨o, e⟩, st⟩ := x; exact ⟨st _ _ p fun o q => k _ _ (.inl rfl) q, ⟨o, k _ _ (.inl rfl) e⟩, st⟩
theorem HOk.lt (x : HOk P w H h) (e : H a = some o) : a < h.objs.size := (x a o e).lt
theorem HOk.fresh (x : HOk P w H h) (e : h.objs.size ≤ a) : H a = none := by
  cases q : H a with
  | none => rfl
  | some u => exact absurd (Nat.lt_of_lt_of_le (x.lt q) e) (Nat.lt_irrefl _)
theorem HOk.kept (x : HOk P w H h) (k : ∀ b u, h.get? b = some u → h'.get? b = some u) : HOk P w H h' := fun a o e =>
  (x a o e).stay (fun b u _ q => k b u q) (fun _ q => q) fun _ _ q => q
theorem HOk.laid (x : HOk P w H h) (k : ∀ b u, h.get? b = some u → h'.get? b = some u) (hp : h.objs.size ≤ a) (new : ObjOk P w (upd H a o) h' a o) : HOk P w (upd H a o) h' := fun b u e => by
  have hn := x.fresh hp
  by_cases hb : b = a
  · subst hb; rw [zf] at e; cases e; exact new
  · rw [zr hb] at e
    exact (x b u e).stay (fun c v _ q => k c v q) (fun c q => by rw [zr (zx q hn)]; exact q) fun c xs q => by rw [zr (zx q hn)]; exact q
end
def Rd (H : Hp) (a : Addr) (u : HO) : Prop := H a = some u ∨ ∃ o, H a = some (.frz o u)
theorem Rd.of {H : Hp} {a : Addr} {u : HO} (h : H a = some u) : Rd H a u := .inl h
theorem Rd.ok {P : Program} {w : World} {H : Hp} {h : Heap} {a : Addr} {u : HO} (r : Rd H a u) (x : HOk P w H h) : ObjOk P w H h a u := by
  rcases r with r | ⟨o, r⟩
  · exact x a u r
  · obtain ⟨_, q⟩ := x a _ r
    exact q
def Mut : Option HO → Prop
  | some (.lst _) => True
  | some (.dK _) => True
  | some (.dT _) => True
  | some (.set _ _) => True
  | some (.ins _ _ _) => True
  | some (.ext _) => True
  | _ => False
section
variable {P : Program} {w : World} {H : Hp} {h h' : Heap} {x e : Addr} {o' : HO}
theorem HOk.write (ok : HOk P w H h) (mu : Mut (H x)) (he : e = x ∨ H e = some (.own x)) (k : ∀ b u, b ≠ e → h.get? b = some u → h'.get? b = some u) (heo : ∃ u, h'.get? e = some u)
    (new : ObjOk P w (upd H x o') h' x o') : HOk P w (upd H x o') h' := fun b u q => by
  have nown : ∀ c y, H c = some (.own y) → c ≠ x := fun c y r z => by subst z; rw [r] at mu; exact mu
  have ntup : ∀ c xs, H c = some (.tup xs) → c ≠ x := fun c xs r z => by subst z; rw [r] at mu; exact mu
  by_cases hb : b = x
  · subst hb; rw [zf] at q; cases q; exact new
  · rw [zr hb] at q
    by_cases hbe : b = e
    · have q' : H b = some (.own x) := by
        rcases he with z | z
        · exact absurd (hbe.trans z) hb
        · rw [hbe]; exact z
      rw [q] at q'; cases q'
      obtain ⟨v, hv⟩ := heo
      exact ⟨v, by rw [hbe]; exact hv⟩
    · refine (ok b u q).stay (fun c v hc r => k c v ?_ r) (fun c r => by rw [zr (nown c b r)]; exact r) fun c xs r => by rw [zr (ntup c xs r)]; exact r
      rcases hc with rfl | hc
      · exact hbe
      · rintro rfl
        rcases he with z | z
        · exact nown c b hc z
        · rw [hc] at z; cases z; exact hb rfl
end
structure Un (fs ex : List Addr) (H H' : Hp) (h h' : Heap) : Prop where
  keep : ∀ b o, h.get? b = some o → H b = none → b ∉ fs → b ∉ ex → h'.get? b = some o
  slot : ∀ b o, h.get? b = some o → H b = none → b ∈ fs → b ∉ ex → ∃ sl, h'.get? b = some { o with slots := sl }
  free : ∀ b o, h.get? b = some o → H b = none → b ∉ ex → H' b = none
  there : ∀ b o, h.get? b = some o → b ∉ ex → ∃ o', h'.get? b = some o'
  tups : ∀ b xs, H b = some (.tup xs) → H' b = some (.tup xs)
  frzs : ∀ b o u, H b = some (.frz o u) → H' b = some (.frz o u)
  tbls : ∀ b ps, H b = some (.tbl ps) → ∃ more, H' b = some (.tbl (ps ++ more))
section
variable {fs fs' ex ex' : List Addr} {H H1 H2 : Hp} {h h1 h2 h' : Heap} {a x e : Addr} {o : HO}
theorem Un.any (u : Un fs ex H H1 h h1) {b : Addr} {ob : Obj} (q : h.get? b = some ob) (n : H b = none) (hx : b ∉ ex) : ∃ sl, h1.get? b = some { ob with slots := sl } := by
  by_cases hb : b ∈ fs
  · exact u.slot b ob q n hb hx
  · exact ⟨ob.slots, u.keep b ob q n hb hx⟩
theorem Un.trans (a : Un fs ex H H1 h h1) (b : Un fs ex H1 H2 h1 h2) : Un fs ex H H2 h h2 where
  keep := fun c ob q n hc hx => b.keep c ob (a.keep c ob q n hc hx) (a.free c ob q n hx) hc hx
  slot := fun c ob q n hc hx => by
    obtain ⟨sl, e1⟩ := a.slot c ob q n hc hx
    obtain ⟨sl', e2⟩ := b.slot c _ e1 (a.free c ob q n hx) hc hx
    exact ⟨sl', e2⟩
  free := fun c ob q n hx => by
    obtain ⟨o', e1⟩ := a.there c ob q hx
    exact b.free c o' e1 (a.free c ob q n hx) hx
  there := fun c ob q hx => by
    obtain ⟨o', e1⟩ := a.there c ob q hx
    exact b.there c o' e1 hx
  tups := fun c xs q => b.tups c xs (a.tups c xs q)
  frzs := fun c ob xs q => b.frzs c ob xs (a.frzs c ob xs q)
  tbls := fun c ps q => by
    obtain ⟨m1, e1⟩ := a.tbls c ps q
    obtain ⟨m2, e2⟩ := b.tbls c _ e1
    exact ⟨m1 ++ m2, by rw [e2, Array.append_assoc]⟩
theorem Un.kept (k : ∀ b u, h.get? b = some u → h'.get? b = some u) : Un fs ex H H h h' :=
  ⟨fun b ob q _ _ _ => k b ob q, fun b ob q _ _ _ => ⟨ob.slots, k b ob q⟩, fun _ _ _ n _ => n, fun b ob q _ => ⟨ob, k b ob q⟩, fun _ _ q => q, fun _ _ _ q => q, fun _ ps q => ⟨#[], by rw [q]; simp⟩⟩
theorem Un.refl : Un fs ex H H h h := Un.kept fun _ _ q => q
theorem Un.laid (k : ∀ b u, h.get? b = some u → h'.get? b = some u) (hp : h.objs.size ≤ a) (hn : H a = none) : Un fs ex H (upd H a o) h h' where
  keep := fun b u q _ _ _ => k b u q
  slot := fun b u q _ _ _ => ⟨u.slots, k b u q⟩
  free := fun b u q n _ => by rw [zr (Nat.ne_of_lt (Nat.lt_of_lt_of_le (Heap.lt_size q) hp))]; exact n
  there := fun b u q _ => ⟨u, k b u q⟩
  tups := fun b xs q => by rw [zr (zx q hn)]; exact q
  frzs := fun b u xs q => by rw [zr (zx q hn)]; exact q
  tbls := fun b ps q => ⟨#[], by rw [zr (zx q hn), q]; simp⟩
theorem Un.write (mu : Mut (H x)) (he : e = x ∨ H e = some (.own x)) (k : ∀ b u, b ≠ e → h.get? b = some u → h'.get? b = some u) (heo : ∃ u, h'.get? e = some u) : Un fs ex H (upd H x o) h h' := by
  have hx : ∀ b, H b = none → b ≠ x := fun b n z => by subst z; rw [n] at mu; exact mu
  have hb : ∀ b, H b = none → b ≠ e := fun b n z => by
    subst z
    rcases he with r | r
    · exact hx b n r
    · rw [n] at r; cases r
  have hm : ∀ b u, H b = some u → ¬ Mut (some u) → b ≠ x := fun b u q nm z => by subst z; rw [q] at mu; exact nm mu
  refine ⟨fun b u q n _ _ => k b u (hb b n) q, fun b u q n _ _ => ⟨u.slots, k b u (hb b n) q⟩, fun b u q n _ => by rw [zr (hx b n)]; exact n, fun b u q _ => ?_,
    fun b xs q => by rw [zr (hm b _ q fun z => z)]; exact q, fun b u xs q => by rw [zr (hm b _ q fun z => z)]; exact q, fun b ps q => ⟨#[], by rw [zr (hm b _ q fun z => z), q]; simp⟩⟩
  by_cases hbe : b = e
  · subst hbe; exact heo
  · exact ⟨u, k b u hbe q⟩
theorem Un.mono (u : Un fs ex H H1 h h1) (hs : ∀ b ∈ fs, b ∈ fs') (hx : ∀ b ∈ ex, b ∈ ex') : Un fs' ex' H H1 h h1 :=
  ⟨fun b ob q n hb he => u.keep b ob q n (fun z => hb (hs b z)) fun z => he (hx b z), fun _ _ q n _ he => u.any q n fun z => he (hx _ z), fun b ob q n he => u.free b ob q n fun z => he (hx b z), fun b ob q he => u.there b ob q fun z => he (hx b z), u.tups, u.frzs, u.tbls⟩
end
def trk (h : Heap) (H : Hp) : List Addr := (List.range h.objs.size).filter fun a => (H a).isSome
def Vw (h : Heap) (H : Hp) : Heap := PySem.W.hideAll h (trk h H)
theorem zaX (h : Heap) (H : Hp) : (Vw h H).objs.size = h.objs.size := PySem.W.hideAll_size _ _
theorem za8 {h : Heap} {H : Hp} {b : Addr} {o : Obj} (e : h.get? b = some o) (n : H b = none) : (Vw h H).get? b = some o :=
  PySem.W.hideAll_get _ e fun hm => by
    have q : (H b).isSome = true := (List.mem_filter.mp hm).2
    rw [n] at q; simp at q
theorem zch {h : Heap} {H : Hp} {b : Addr} {o : Obj} (e : (Vw h H).get? b = some o) : h.get? b = some o ∧ H b = none := by
  have e' : h.get? b = some o := PySem.W.of_hideAll (trk h H) e
  refine ⟨e', ?_⟩
  cases q : H b with
  | none => rfl
  | some x =>
    have hm : b ∈ trk h H := List.mem_filter.mpr ⟨List.mem_range.mpr (Heap.lt_size e'), by simp [q]⟩
    have z : (Vw h H).get? b = none := PySem.W.hideAll_none (trk h H) hm
    rw [z] at e; cases e
def zb3 (g h : Heap) (L : Addr) : List (Addr × Obj) := (List.range h.objs.size).filterMap fun a => if a = L ∨ (g.get? a).isSome = true then none else (h.get? a).map fun o => (a, o)
def rest (g h : Heap) (L d : Addr) : List (Addr × Obj) := (zb3 g h L).filter fun p => decide (p.1 ≠ d)
structure Mod (K : PySem.W.Frag) (mg : Str → Option Value) (base : Heap) : Prop where
  kin : K.In base
  glob : base.Ns mainGlobals mg
  blt : ∃ mb, base.Ns builtinsNs mb ∧ ∀ x : Str, x ≠ "__name__" → mb x = bootBuiltins x
  nolimit : base.NoLimit
structure Cx where
  prog : Program
  w : World
  K : PySem.W.Frag
  mg : Str → Option Value
  base : Heap
  A : Around
  N : List Str
  s₀ : Shared
  H₀ : Hp
  env : Env
  outer : List Env
  stack : List Env
  ex : List Addr
  fn : Str → Bool
  calm : Bool
  pn : List (Addr × Obj)
  xe : Value → Shared → Prop
def frs (l : List Env) : List Addr := l.filterMap (·.frame)
abbrev Cx.fs (X : Cx) : List Addr := frs X.outer
def Vis (sc : Scope) (x : Str) : Prop := sc.names.lookup x = some .local ∨ sc.names.lookup x = some .cell ∨ sc.names.lookup x = some .free
def Loc (sc : Scope) (x : Str) : Prop := sc.names.lookup x = some .local ∨ sc.names.lookup x = some .cell
def Look (env : Env) (h : Heap) (m : Str → Option Value) (x : Str) (u : Value) : Prop :=
  (env.kindOf x = some .local ∧ m x = some u) ∨ ((env.kindOf x = some .cell ∨ env.kindOf x = some .free) ∧ ∃ c, env.cells.lookup x = some c ∧ h.IsCell c (some u))
structure Cx.Ok (X : Cx) : Prop where
  mod : Mod X.K X.mg X.base
  kind : X.env.scope.kind = .function
  glob : X.env.globals = mainGlobals
  blt : X.env.builtins = builtinsNs
  above : X.s₀.heap.objs.size ≤ X.env.locals
  inj : ∀ x y c, X.env.cells.lookup x = some c → X.env.cells.lookup y = some c → x = y
  has : ∀ x, (X.env.kindOf x = some .cell ∨ X.env.kindOf x = some .free) → ∃ c, X.env.cells.lookup x = some c
  cab : ∀ x c, X.fn x = true → X.env.cells.lookup x = some c → X.s₀.heap.objs.size ≤ c
  hd : X.calm = true → X.A.handled = none
  frames : X.A.frames = some X.stack
  stk : X.stack = X.outer ∨ (X.stack = X.env :: X.outer ∧ X.env.frame = some X.env.locals)
  exf : ∀ b ∈ X.ex, b ≠ X.env.locals ∧ ∀ x c, X.env.cells.lookup x = some c → c ≠ b
  bs : ∀ b o, X.base.get? b = some o → X.s₀.heap.get? b = some o ∧ X.H₀ b = none
  bsz : X.base.objs.size ≤ X.s₀.heap.objs.size
  noex : ∀ b o, X.base.get? b = some o → b ∉ X.ex
  exfs : ∀ b ∈ X.ex, b ∉ X.fs
  funs : X.s₀.heap.FunFrames X.base X.outer
  frf : ∀ b ∈ X.fs, X.H₀ b = none
structure Inv (X : Cx) (pins : List (Addr × Obj)) (σ : List (Option V)) (H : Hp) (s : Shared) : Prop where
  ok : X.Ok
  os : s.os = X.s₀.os
  bare : AllBare s.gens
  base : Un X.fs X.ex X.H₀ H X.s₀.heap s.heap
  loc : ∃ m, s.heap.Ns X.env.locals m ∧ ∀ (i : Nat) (x : Str) (v : V), X.N[i]? = some x → σ[i]? = some (some v) → Vis X.env.scope x → ∃ u, RelV v u ∧ Look X.env s.heap m x u
  cell : ∀ x c, X.env.cells.lookup x = some c → ∃ v, s.heap.IsCell c v
  free : H X.env.locals = none
  freeC : ∀ x c, X.env.cells.lookup x = some c → H c = none
  pin : ∀ p ∈ X.pn ++ pins, s.heap.get? p.1 = some p.2 ∧ H p.1 = none ∧ p.1 ≠ X.env.locals ∧ p.1 ∉ X.fs ∧ ∀ v, p.2.data ≠ .cell v
  hok : HOk X.prog X.w H s.heap
  len : σ.length = X.N.length
section
variable {X : Cx} {pins : List (Addr × Obj)} {σ : List (Option V)} {H H' : Hp} {s : Shared} {h' : Heap}
theorem Cx.Ok.nofr (ok : X.Ok) {b : Addr} {o : Obj} (e : X.base.get? b = some o) : b ∉ X.fs := fun hb => by
  have := (ok.funs.mem hb).1
  rw [e] at this; cases this
theorem Inv.bs (I : Inv X pins σ H s) : ∀ b o, X.base.get? b = some o → s.heap.get? b = some o ∧ H b = none := fun b o e =>
  ⟨I.base.keep b o (I.ok.bs b o e).1 (I.ok.bs b o e).2 (I.ok.nofr e) (I.ok.noex b o e), I.base.free b o (I.ok.bs b o e).1 (I.ok.bs b o e).2 (I.ok.noex b o e)⟩
theorem Inv.bk (I : Inv X pins σ H s) : ∀ b o, X.base.get? b = some o → s.heap.get? b = some o := fun b o e => (I.bs b o e).1
theorem Inv.mod (I : Inv X pins σ H s) : Mod X.K X.mg X.base := I.ok.mod
theorem Inv.kIn (I : Inv X pins σ H s) : X.K.In s.heap := I.ok.mod.kin.keeps I.bk
theorem Inv.nolimit (I : Inv X pins σ H s) : s.heap.NoLimit := I.ok.mod.nolimit.keeps I.bk
theorem Inv.fr (I : Inv X pins σ H s) : ∃ m, Fr X.base X.env.locals s.heap m :=
  let ⟨m, hn, _⟩ := I.loc
  ⟨m, hn, I.bk, Nat.le_trans I.ok.bsz I.ok.above⟩
theorem Inv.lt (I : Inv X pins σ H s) : X.env.locals < s.heap.objs.size := let ⟨_, hn, _⟩ := I.loc; hn.lt
theorem Inv.sz (I : Inv X pins σ H s) : X.s₀.heap.objs.size ≤ s.heap.objs.size := Nat.le_trans I.ok.above (Nat.le_of_lt I.lt)
theorem Inv.nofs (I : Inv X pins σ H s) {a : Addr} (h : s.heap.objs.size ≤ a) : a ∉ X.fs := fun hb => by
  obtain ⟨_, o, ho, _⟩ := I.ok.funs.mem hb
  exact absurd (Nat.lt_of_lt_of_le (Heap.lt_size ho) (Nat.le_trans I.sz h)) (Nat.lt_irrefl _)
theorem Inv.cne (I : Inv X pins σ H s) : ∀ x c, X.env.cells.lookup x = some c → c ≠ X.env.locals := fun x c e z => by
  obtain ⟨v, o, ho, hd⟩ := I.cell x c e
  obtain ⟨m, ⟨o', es, ep, ho', hd', _⟩, _⟩ := I.loc
  rw [z, ho'] at ho; cases ho; rw [hd'] at hd; cases hd
theorem Inv.funs (I : Inv X pins σ H s) : s.heap.FunFrames X.base X.outer := by
  have all : ∀ (l : List Env), (∀ b ∈ frs l, b ∈ X.fs) → X.s₀.heap.FunFrames X.base l → s.heap.FunFrames X.base l := by
    intro l
    induction l with
    | nil => intro _ _; trivial
    | cons env r ih =>
      intro hs hl
      obtain ⟨hk, ⟨L, o, hf, hn, ho, hd⟩, hr⟩ := hl
      have hL : L ∈ X.fs := hs L (by unfold frs; rw [List.filterMap_cons, hf]; exact List.mem_cons_self)
      obtain ⟨sl, e⟩ := I.base.slot L o ho (I.ok.frf L hL) hL fun z => I.ok.exfs L z hL
      exact ⟨hk, ⟨L, _, hf, hn, e, hd⟩, ih (fun b hb => hs b (by unfold frs; rw [List.filterMap_cons, hf]; exact List.mem_cons_of_mem _ hb)) hr⟩
  exact all X.outer (fun _ hb => hb) I.ok.funs
theorem Inv.stack (I : Inv X pins σ H s) : s.heap.FunFrames X.base X.stack := by
  rcases I.ok.stk with e | ⟨e, hf⟩
  · rw [e]; exact I.funs
  · rw [e]
    obtain ⟨m, hn, _⟩ := I.loc
    refine .cons (by rw [I.ok.kind]; decide) hf hn ?_ I.funs
    exact Heap.get?_none_of_le (Nat.le_trans I.ok.bsz I.ok.above)
theorem Inv.stkSub (I : Inv X pins σ H s) : ∀ b ∈ frs X.stack, b ∈ X.env.locals :: X.fs := fun b hb => by
  rcases I.ok.stk with e | ⟨e, hf⟩
  · rw [e] at hb; exact List.mem_cons_of_mem _ hb
  · rw [e] at hb
    unfold frs at hb
    rw [List.filterMap_cons, hf] at hb
    exact hb
theorem Inv.stkFree (I : Inv X pins σ H s) : ∀ b ∈ frs X.stack, H b = none := fun b hb => by
  rcases List.mem_cons.mp (I.stkSub b hb) with e | hb
  · rw [e]; exact I.free
  · obtain ⟨_, o, ho, _⟩ := I.ok.funs.mem hb
    exact I.base.free b o ho (I.ok.frf b hb) fun z => I.ok.exfs b z hb
theorem Inv.step {g' : Array GenState} {t' : Nat} {d' : Drawn} {ch : List Addr} (I : Inv X pins σ H s)
    (hch : ∀ b ∈ ch, (b ∈ X.ex ∨ X.s₀.heap.objs.size ≤ b) ∧ b ≠ X.env.locals ∧ (∀ x c, X.env.cells.lookup x = some c → c ≠ b) ∧ ∀ p ∈ X.pn ++ pins, p.1 ≠ b)
    (keep : ∀ b o, b ≠ X.env.locals → b ∉ X.fs → b ∉ ch → s.heap.get? b = some o → H b = none → h'.get? b = some o)
    (slot : ∀ b o, b ≠ X.env.locals → b ∈ X.fs → b ∉ ch → s.heap.get? b = some o → H b = none → ∃ sl, h'.get? b = some { o with slots := sl }) (free : ∀ b o, b ∉ ch → s.heap.get? b = some o → H b = none → H' b = none)
    (there : ∀ b o, b ∉ ch → s.heap.get? b = some o → ∃ o', h'.get? b = some o')
    (tups : ∀ b xs, H b = some (.tup xs) → H' b = some (.tup xs)) (frzs : ∀ b o u, H b = some (.frz o u) → H' b = some (.frz o u)) (tbls : ∀ b ps, H b = some (.tbl ps) → ∃ more, H' b = some (.tbl (ps ++ more)))
    (ns : ∀ m, s.heap.Ns X.env.locals m → h'.Ns X.env.locals m) (hok : HOk X.prog X.w H' h') (hg : AllBare g') :
    Inv X pins σ H' { s with heap := h', gens := g', drawn := d', toks := t' } := by
  have neL : ∀ b o, X.s₀.heap.get? b = some o → b ≠ X.env.locals := fun b o e => Nat.ne_of_lt (Nat.lt_of_lt_of_le (Heap.lt_size e) I.ok.above)
  have neC : ∀ b o, X.s₀.heap.get? b = some o → b ∉ X.ex → b ∉ ch := fun b o e hx hb => by
    rcases (hch b hb).1 with z | z
    · exact hx z
    · exact absurd (Nat.lt_of_lt_of_le (Heap.lt_size e) z) (Nat.lt_irrefl _)
  have cellK : ∀ x c, X.env.cells.lookup x = some c → ∀ v, s.heap.IsCell c v → h'.IsCell c v := fun x c e v ⟨o, ho, hd⟩ => by
    have nch : c ∉ ch := fun z => (hch c z).2.2.1 x c e rfl
    by_cases hc : c ∈ X.fs
    · obtain ⟨sl, q⟩ := slot c o (I.cne x c e) hc nch ho (I.freeC x c e)
      exact ⟨_, q, hd⟩
    · exact ⟨o, keep c o (I.cne x c e) hc nch ho (I.freeC x c e), hd⟩
  refine ⟨I.ok, I.os, hg, ⟨fun b o e n hb hx => ?_, fun b o e n hb hx => ?_, fun b o e n hx => ?_, fun b o e hx => ?_, fun b xs e => tups b xs (I.base.tups b xs e), fun b o xs e => frzs b o xs (I.base.frzs b o xs e), fun b ps e => ?_⟩, ?_, fun x c e => ?_, ?_, fun x c e => ?_, fun p hp => ?_, hok, I.len⟩
  · exact keep b o (neL b o e) hb (neC b o e hx) (I.base.keep b o e n hb hx) (I.base.free b o e n hx)
  · obtain ⟨sl, e1⟩ := I.base.slot b o e n hb hx
    obtain ⟨sl', e2⟩ := slot b _ (neL b o e) hb (neC b o e hx) e1 (I.base.free b o e n hx)
    exact ⟨sl', e2⟩
  · obtain ⟨o', e1⟩ := I.base.there b o e hx
    exact free b o' (neC b o e hx) e1 (I.base.free b o e n hx)
  · obtain ⟨o', e1⟩ := I.base.there b o e hx
    exact there b o' (neC b o e hx) e1
  · obtain ⟨m1, e1⟩ := I.base.tbls b ps e
    obtain ⟨m2, e2⟩ := tbls b _ e1
    exact ⟨m1 ++ m2, by rw [e2, Array.append_assoc]⟩
  · obtain ⟨m, hn, hl⟩ := I.loc
    refine ⟨m, ns m hn, fun i x v e1 e2 e3 => ?_⟩
    obtain ⟨u, r, l⟩ := hl i x v e1 e2 e3
    refine ⟨u, r, ?_⟩
    rcases l with l | ⟨k, c, e, z⟩
    · exact .inl l
    · exact .inr ⟨k, c, e, cellK x c e _ z⟩
  · obtain ⟨v, z⟩ := I.cell x c e
    exact ⟨v, cellK x c e v z⟩
  · obtain ⟨m, ⟨o, _, _, ho, _⟩, _⟩ := I.loc
    exact free _ o (fun z => (hch _ z).2.1 rfl) ho I.free
  · obtain ⟨v, o, ho, hd⟩ := I.cell x c e
    exact free c o (fun z => (hch c z).2.2.1 x c e rfl) ho (I.freeC x c e)
  · obtain ⟨e, n, ne, nf, d⟩ := I.pin p hp
    have nch : p.1 ∉ ch := fun z => (hch p.1 z).2.2.2 p hp rfl
    exact ⟨keep p.1 p.2 ne nf nch e n, free p.1 p.2 nch e n, ne, nf, d⟩
theorem Inv.un {t' : Nat} (I : Inv X pins σ H s) (u : Un X.fs [] H H' s.heap h') (hok : HOk X.prog X.w H' h') : Inv X pins σ H' { s with heap := h', toks := t' } := by
  obtain ⟨m, ⟨o, es, ep, ho, r⟩, _⟩ := id I.loc
  obtain ⟨sl, hL⟩ := u.any ho I.free (by simp)
  exact I.step (g' := s.gens) (d' := s.drawn) (ch := []) (fun _ z => nomatch z) (fun b o _ hb _ e n => u.keep b o e n hb (by simp)) (fun b o _ hb _ e n => u.slot b o e n hb (by simp)) (fun b o _ e n => u.free b o e n (by simp)) (fun b o _ e => u.there b o e (by simp)) u.tups u.frzs u.tbls (fun m' hm => by
    obtain ⟨o', es', ep', ho', r'⟩ := hm
    rw [ho] at ho'; cases ho'
    exact ⟨_, es', ep', hL, r'⟩) hok I.bare
theorem Inv.call {g' : Array GenState} {t' : Nat} {d' : Drawn} {ch : List Addr} (I : Inv X pins σ H s) (u : Un (frs X.stack) ch H H' s.heap h') (hok : HOk X.prog X.w H' h') (hg : AllBare g')
    (hch : ∀ b ∈ ch, (b ∈ X.ex ∨ X.s₀.heap.objs.size ≤ b) ∧ b ≠ X.env.locals ∧ (∀ x c, X.env.cells.lookup x = some c → c ≠ b) ∧ ∀ p ∈ X.pn ++ pins, p.1 ≠ b) :
    Inv X pins σ H' { s with heap := h', gens := g', drawn := d', toks := t' } := by
  obtain ⟨m, ⟨o, es, ep, ho, r⟩, _⟩ := id I.loc
  obtain ⟨sl, hL⟩ := u.any ho I.free fun z => (hch _ z).2.1 rfl
  exact I.step (ch := ch) hch (fun b o hL hb hc e n => u.keep b o e n (fun z => (List.mem_cons.mp (I.stkSub b z)).elim hL hb) hc) (fun b o _ _ hc e n => u.any e n hc) (fun b o hc e n => u.free b o e n hc) (fun b o hc e => u.there b o e hc) u.tups u.frzs u.tbls (fun m' hm => by
    obtain ⟨o', es', ep', ho', r'⟩ := hm
    rw [ho] at ho'; cases ho'
    exact ⟨_, es', ep', hL, r'⟩) hok hg
theorem Inv.turned {t' : Nat} {it : Addr} (I : Inv X pins σ H s) (k : ∀ b o, b ≠ it → s.heap.get? b = some o → h'.get? b = some o) (hn : H it = none) (hL : it ≠ X.env.locals)
    (h1 : it ∈ X.ex ∨ X.s₀.heap.objs.size ≤ it) (h2 : ∀ x c, X.env.cells.lookup x = some c → c ≠ it) (h3 : ∀ p ∈ X.pn ++ pins, p.1 ≠ it) : Inv X pins σ H { s with heap := h', toks := t' } := by
  have nit : ∀ b u, H b = some u → b ≠ it := fun b u e z => by rw [z, hn] at e; cases e
  refine I.step (g' := s.gens) (d' := s.drawn) (ch := [it]) (fun b hb => ?_) (fun b o _ _ hc e _ => k b o (fun z => hc (by simp [z])) e) (fun b o _ _ hc e _ => ⟨o.slots, k b o (fun z => hc (by simp [z])) e⟩) (fun _ _ _ _ n => n)
    (fun b o hc e => ⟨o, k b o (fun z => hc (by simp [z])) e⟩) (fun _ _ e => e) (fun _ _ _ e => e) (fun b ps e => ⟨#[], by rw [e]; simp⟩) (fun m hm => ?_) (fun b u e => ?_) I.bare
  · have e : b = it := by simpa using hb
    subst e
    exact ⟨h1, hL, h2, h3⟩
  · obtain ⟨o, es, ep, ho, r⟩ := hm
    exact ⟨o, es, ep, k _ o (Ne.symm hL) ho, r⟩
  · refine (I.hok b u e).stay (fun c v hc q => k c v ?_ q) (fun _ q => q) fun _ _ q => q
    rcases hc with z | z
    · rw [z]; exact nit b u e
    · exact nit c _ z
theorem Inv.tok (I : Inv X pins σ H s) (t : Nat) : Inv X pins σ H { s with toks := t } := I.un (h' := s.heap) (t' := t) Un.refl I.hok
theorem Inv.kept {t' : Nat} (I : Inv X pins σ H s) (k : ∀ b u, s.heap.get? b = some u → h'.get? b = some u) : Inv X pins σ H { s with heap := h', toks := t' } := I.un (Un.kept k) (I.hok.kept k)
theorem Inv.laid {a : Addr} {o : HO} {t' : Nat} (I : Inv X pins σ H s) (k : ∀ b u, s.heap.get? b = some u → h'.get? b = some u) (hp : s.heap.objs.size ≤ a) (new : ObjOk X.prog X.w (upd H a o) h' a o) :
    Inv X pins σ (upd H a o) { s with heap := h', toks := t' } := I.un (Un.laid k hp (I.hok.fresh hp)) (I.hok.laid k hp new)
theorem Inv.write {x e : Addr} {o : HO} {t' : Nat} (I : Inv X pins σ H s) (mu : Mut (H x)) (he : e = x ∨ H e = some (.own x)) (k : ∀ b u, b ≠ e → s.heap.get? b = some u → h'.get? b = some u) (heo : ∃ u, h'.get? e = some u)
    (new : ObjOk X.prog X.w (upd H x o) h' x o) : Inv X pins σ (upd H x o) { s with heap := h', toks := t' } := I.un (Un.write mu he k heo) (I.hok.write mu he k heo new)
theorem Inv.weak {σ' : List (Option V)} (I : Inv X pins σ H s) (hl : σ'.length = σ.length) (w : ∀ (i : Nat) v, σ'[i]? = some (some v) → σ[i]? = some (some v)) : Inv X pins σ' H s :=
  ⟨I.ok, I.os, I.bare, I.base, let ⟨m, hn, hl'⟩ := I.loc; ⟨m, hn, fun i x v e1 e2 e3 => hl' i x v e1 (w i v e2) e3⟩, I.cell, I.free, I.freeC, I.pin, I.hok, hl.trans I.len⟩
theorem Inv.pins_of {pins' : List (Addr × Obj)} (I : Inv X pins σ H s) (h : ∀ p ∈ pins', s.heap.get? p.1 = some p.2 ∧ H p.1 = none ∧ p.1 ≠ X.env.locals ∧ p.1 ∉ X.fs ∧ ∀ v, p.2.data ≠ .cell v) : Inv X pins' σ H s :=
  ⟨I.ok, I.os, I.bare, I.base, I.loc, I.cell, I.free, I.freeC, fun p hp => (List.mem_append.mp hp).elim (fun z => I.pin p (List.mem_append_left _ z)) (h p), I.hok, I.len⟩
theorem Qu {N : List Str} (hN : N.Nodup) {i j : Nat} {x : Str} (a : N[i]? = some x) (b : N[j]? = some x) : i = j := by
  obtain ⟨h1, e1⟩ := List.getElem?_eq_some_iff.mp a
  obtain ⟨h2, e2⟩ := List.getElem?_eq_some_iff.mp b
  exact (List.getElem_inj hN).mp (e1.trans e2.symm)
theorem V1 {M : Model} {A : Around} {E : Value → Shared → Prop} {i : Nat} {x : Str} {v : V} {u : Value} {Q : Unit → Shared → Prop} (I : Inv X pins σ H s) (hN : X.N.Nodup) (hi : X.N[i]? = some x) (hx : Loc X.env.scope x) (r : RelV v u)
    (h : ∀ s', Inv X pins (σ.set i (some v)) H s' → (∃ a, Heap.SameBut a s.heap s'.heap ∧ (a = X.env.locals ∨ X.env.cells.lookup x = some a)) → Q () s') (hf : X.fn x = true ∨ X.env.scope.names.lookup x = some .local := by first | exact .inl rfl | exact .inr rfl | assumption) : wpAny M A (storeName X.env x u) Q E s := by
  obtain ⟨m, hn, hl⟩ := id I.loc
  have hcls : (X.env.scope.kind == .class || (X.env.scope.kind == .module && X.env.locals != X.env.globals)) = false := by rw [I.ok.kind]; rfl
  have hiσ : i < σ.length := by rw [I.len]; exact (List.getElem?_eq_some_iff.mp hi).1
  have cne := I.cne
  have tracked : ∀ {a : Addr} {h' : Heap}, (∃ o, s.heap.get? a = some o ∧ H a = none) → Heap.SameBut a s.heap h' → HOk X.prog X.w H h' := fun {a h'} ha hs b ob e => by
    obtain ⟨_, _, hfree⟩ := ha
    refine (I.hok b ob e).stay (fun c w' hc q => (hs.2 c ?_).trans q) (fun _ q => q) fun _ _ q => q
    rintro rfl
    rcases hc with rfl | hc
    · rw [hfree] at e; cases e
    · rw [hfree] at hc; cases hc
  rcases hx with hk | hk
  · refine wpAny_storeName_local hk hn (fun h' hn' hs => ?_) hcls
    obtain ⟨oL, _, _, hoL, _⟩ := id hn
    refine h _ ⟨I.ok, I.os, I.bare, ⟨fun b o e n hb hx => ?_, fun b o e n hb hx => ?_, I.base.free, fun b o e hx => ?_, I.base.tups, I.base.frzs, I.base.tbls⟩, ⟨_, hn', fun j y v' e1 e2 e3 => ?_⟩, fun y c e => ?_, I.free, I.freeC, fun p hp => ?_, tracked ⟨oL, hoL, I.free⟩ hs, by simpa using I.len⟩ ⟨_, hs, .inl rfl⟩
    · exact (hs.2 b (Nat.ne_of_lt (Nat.lt_of_lt_of_le (Heap.lt_size e) I.ok.above))).trans (I.base.keep b o e n hb hx)
    · obtain ⟨sl, e1⟩ := I.base.slot b o e n hb hx
      exact ⟨sl, (hs.2 b (Nat.ne_of_lt (Nat.lt_of_lt_of_le (Heap.lt_size e) I.ok.above))).trans e1⟩
    · obtain ⟨o', e1⟩ := I.base.there b o e hx
      exact ⟨o', (hs.2 b (Nat.ne_of_lt (Nat.lt_of_lt_of_le (Heap.lt_size e) I.ok.above))).trans e1⟩
    · by_cases hj : j = i
      · subst hj
        rw [hi] at e1; cases e1
        rw [List.getElem?_set_self hiσ] at e2
        cases e2
        exact ⟨u, r, .inl ⟨hk, by simp⟩⟩
      · rw [List.getElem?_set_ne (Ne.symm hj)] at e2
        obtain ⟨u', r', q⟩ := hl j y v' e1 e2 e3
        refine ⟨u', r', ?_⟩
        rcases q with ⟨k, e⟩ | ⟨k, c, e, z⟩
        · refine .inl ⟨k, ?_⟩
          have : y ≠ x := fun e => hj (Qu hN e1 (e ▸ hi))
          simp [this, e]
        · exact .inr ⟨k, c, e, z.sameBut hs (cne y c e)⟩
    · obtain ⟨w', z⟩ := I.cell y c e
      exact ⟨w', z.sameBut hs (cne y c e)⟩
    · obtain ⟨e, n, ne, nf, d⟩ := I.pin p hp
      exact ⟨(hs.2 p.1 ne).trans e, n, ne, nf, d⟩
  · have hfn : X.fn x = true := by
      rcases hf with z | z
      · exact z
      · rw [z] at hk; cases hk
    obtain ⟨c, hc⟩ := I.ok.has x (.inl hk)
    obtain ⟨w', z⟩ := I.cell x c hc
    refine wpAny_storeName_cell I.ok.kind hk hc z (fun h' hc' hs => ?_)
    obtain ⟨oc, hoc, hocd⟩ := id z
    refine h { s with heap := h' } ⟨I.ok, I.os, I.bare, ⟨fun b o e n hb hx => ?_, fun b o e n hb hx => ?_, I.base.free, fun b o e hx => ?_, I.base.tups, I.base.frzs, I.base.tbls⟩, ⟨m, hn.sameBut hs (Ne.symm (cne x c hc)), fun j y v' e1 e2 e3 => ?_⟩, fun y c' e => ?_, I.free, I.freeC, fun p hp => ?_, tracked ⟨oc, hoc, I.freeC x c hc⟩ hs, by simpa using I.len⟩ ⟨c, hs, .inr hc⟩
    · exact (hs.2 b (Nat.ne_of_lt (Nat.lt_of_lt_of_le (Heap.lt_size e) (I.ok.cab x c hfn hc)))).trans (I.base.keep b o e n hb hx)
    · obtain ⟨sl, e1⟩ := I.base.slot b o e n hb hx
      exact ⟨sl, (hs.2 b (Nat.ne_of_lt (Nat.lt_of_lt_of_le (Heap.lt_size e) (I.ok.cab x c hfn hc)))).trans e1⟩
    · obtain ⟨o', e1⟩ := I.base.there b o e hx
      exact ⟨o', (hs.2 b (Nat.ne_of_lt (Nat.lt_of_lt_of_le (Heap.lt_size e) (I.ok.cab x c hfn hc)))).trans e1⟩
    · by_cases hj : j = i
      · subst hj
        rw [hi] at e1; cases e1
        rw [List.getElem?_set_self hiσ] at e2
        cases e2
        exact ⟨u, r, .inr ⟨.inl hk, c, hc, hc'⟩⟩
      · rw [List.getElem?_set_ne (Ne.symm hj)] at e2
        obtain ⟨u', r', q⟩ := hl j y v' e1 e2 e3
        refine ⟨u', r', ?_⟩
        rcases q with q | ⟨k, c', e, z'⟩
        · exact .inl q
        · refine .inr ⟨k, c', e, z'.sameBut hs ?_⟩
          rintro rfl
          exact hj (Qu hN e1 (I.ok.inj _ _ _ e hc ▸ hi))
    · by_cases hcc : c' = c
      · subst hcc; exact ⟨_, hc'⟩
      · obtain ⟨w2, z2⟩ := I.cell y c' e
        exact ⟨w2, z2.sameBut hs hcc⟩
    · obtain ⟨e, n, ne, nf, d⟩ := I.pin p hp
      refine ⟨(hs.2 p.1 ?_).trans e, n, ne, nf, d⟩
      intro q
      rw [q, hoc] at e
      have q' : oc = p.2 := Option.some.inj e
      exact d w' (by rw [← q']; exact hocd)
theorem Wz {M : Model} {A : Around} {E : Value → Shared → Prop} {i : Nat} {x : Str} {v : V} {u : Value} {Q : Unit → Shared → Prop} (I : Inv X pins σ H s) (hN : X.N.Nodup) (hi : X.N[i]? = some x) (hx : Loc X.env.scope x) (r : RelV v u)
    (h : ∀ s', Inv X pins (σ.set i (some v)) H s' → Q () s') (hf : X.fn x = true ∨ X.env.scope.names.lookup x = some .local := by first | exact .inl rfl | exact .inr rfl | assumption) : wpAny M A (storeName X.env x u) Q E s :=
  V1 I hN hi hx r (fun s' I' _ => h s' I') hf
theorem Inv.call' {s' : Shared} {ch : List Addr} (I : Inv X pins σ H s) (ho : s'.os = s.os) (u : Un (frs X.stack) ch H H' s.heap s'.heap) (hok : HOk X.prog X.w H' s'.heap) (hg : AllBare s'.gens)
    (hch : ∀ b ∈ ch, (b ∈ X.ex ∨ X.s₀.heap.objs.size ≤ b) ∧ b ≠ X.env.locals ∧ (∀ x c, X.env.cells.lookup x = some c → c ≠ b) ∧ ∀ p ∈ X.pn ++ pins, p.1 ≠ b) : Inv X pins σ H' s' := by
  obtain ⟨h', g', d', t', o'⟩ := s'
  have e : o' = s.os := ho
  subst e
  exact I.call (g' := g') (t' := t') (d' := d') u hok hg hch
end
abbrev XK := Value → Option Addr → Hp → Prop
abbrev St := List (Option V)
abbrev VK := V → Hp → Prop
abbrev TE := St → Hp → VK → Prop
abbrev TT := St → Hp → (Bool → Hp → Prop) → Prop
abbrev TA := St → Hp → (List V → Hp → Prop) → Prop
structure Ends where
  nx : St → Hp → Prop
  rt : VK
  bk : St → Hp → Prop := fun _ _ => False
  ct : St → Hp → Prop := fun _ _ => False
abbrev TS := Ends → St → Hp → Prop
def EP (X : Cx) (pins : List (Addr × Obj)) (σ : St) (Q : VK) (u : Value) (s' : Shared) : Prop := ∃ v H', Inv X pins σ H' s' ∧ RelV v u ∧ Q v H'
def TP (X : Cx) (pins : List (Addr × Obj)) (σ : St) (Q : Bool → Hp → Prop) (b : Bool) (s' : Shared) : Prop := ∃ H', Inv X pins σ H' s' ∧ Q b H'
def AP (X : Cx) (pins : List (Addr × Obj)) (σ : St) (Q : List V → Hp → Prop) (us : List Value) (s' : Shared) : Prop := ∃ vs H', Inv X pins σ H' s' ∧ Vals vs us ∧ Q vs H'
def SP (X : Cx) (pins : List (Addr × Obj)) (D : Ends) (f : Flow) (s' : Shared) : Prop :=
  match f with
  | .next => ∃ σ' H', Inv X pins σ' H' s' ∧ D.nx σ' H'
  | .brk => ∃ σ' H', Inv X pins σ' H' s' ∧ D.bk σ' H'
  | .cont => ∃ σ' H', Inv X pins σ' H' s' ∧ D.ct σ' H'
  | .ret u => ∃ v σ' H', Inv X pins σ' H' s' ∧ RelV v u ∧ D.rt v H'
def PE (X : Cx) (e : Expr) (t : TE) : Prop :=
  ∀ (pins : List (Addr × Obj)) (s : Shared) (σ : St) (H : Hp) (Q : VK), Inv X pins σ H s → t σ H Q → wpAny (model X.prog X.w) X.A (eval e X.env) (EP X pins σ Q) X.xe s
def PT (X : Cx) (e : Expr) (t : TT) : Prop :=
  ∀ (pins : List (Addr × Obj)) (s : Shared) (σ : St) (H : Hp) (Q : Bool → Hp → Prop), Inv X pins σ H s → t σ H Q → wpAny (model X.prog X.w) X.A (isTrue e X.env (eval e X.env)) (TP X pins σ Q) X.xe s
def PW (X : Cx) (e : Expr) (t : TT) : Prop :=
  ∀ (whole : Sem Value) (pins : List (Addr × Obj)) (s : Shared) (σ : St) (H : Hp) (Q : Bool → Hp → Prop), Inv X pins σ H s → t σ H Q → wpAny (model X.prog X.w) X.A (isTrue e X.env whole) (TP X pins σ Q) X.xe s
theorem PW.pt {X : Cx} {e : Expr} {t : TT} (h : PW X e t) : PT X e t := h _
def PA (X : Cx) (es : List Expr) (t : TA) : Prop :=
  ∀ (pos : Pos) (pins : List (Addr × Obj)) (s : Shared) (σ : St) (H : Hp) (Q : List V → Hp → Prop), Inv X pins σ H s → t σ H Q → wpAny (model X.prog X.w) X.A (spliced (backTo pos (starEach es X.env))) (AP X pins σ Q) X.xe s
def PS (X : Cx) (st : Stmt) (t : TS) : Prop :=
  ∀ (pins : List (Addr × Obj)) (s : Shared) (σ : St) (H : Hp) (D : Ends), Inv X pins σ H s → t D σ H → wpAny (model X.prog X.w) X.A (exec st X.env) (SP X pins D) X.xe s
def PSs (X : Cx) (st : List Stmt) (t : TS) : Prop :=
  ∀ (pins : List (Addr × Obj)) (s : Shared) (σ : St) (H : Hp) (D : Ends), Inv X pins σ H s → t D σ H → wpAny (model X.prog X.w) X.A (execs st X.env) (SP X pins D) X.xe s
theorem thn {α : Type} {t : Sem α} {Q Q' : α → Shared → Prop} {M : Model} {A : Around} {E : Value → Shared → Prop} {s : Shared} (h : wpAny M A t Q E s) (hQ : ∀ a s, Q a s → Q' a s) : wpAny M A t Q' E s := wpAny_mono h hQ fun _ _ x => x
section
variable {X : Cx}
def Xc (i : Nat) : TE := fun σ H Q => ∃ v, σ[i]? = some (some v) ∧ Q v H
def tC (v : V) : TE := fun _ H Q => Q v H
theorem zc1 {i : Nat} {x : Str} {pos : Pos} (hN : X.N[i]? = some x) (hv : Vis X.env.scope x) (hd : (x == ("__debug__" : Str)) = false := by decide) (hcd : (x == ("__classdict__" : Str)) = false := by decide) : PE X (.Name x pos) (Xc i) := by
  intro pins s σ H Q I h
  obtain ⟨v, e, h⟩ := h
  obtain ⟨m, hn, hl⟩ := I.loc
  obtain ⟨u, r, l⟩ := hl i x v hN e hv
  have fin : EP X pins σ Q u s := ⟨v, H, I, r, h⟩
  rcases l with ⟨hk, hm⟩ | ⟨hk, c, hc, hcell⟩
  · exact wpAny_Name (wpAny_loadName_local I.ok.kind hk hn hm fin) hd
  · rcases hk with hk | hk
    · exact wpAny_Name (wpAny_loadName_cell I.ok.kind hk hc hcell fin) hd
    · exact wpAny_Name (wpAny_loadName_free I.ok.kind hk hc hcell fin hcd) hd
theorem zm {i j pos} : PE X (.Constant (.int i) j pos) (tC (.int i)) := fun _ _ _ H _ I h => wpAny_Constant_int ⟨.int i, H, I.tok _, ⟨_, rfl⟩, h⟩
theorem WP {b j pos} : PE X (.Constant (.bool b) j pos) (tC (.bl b)) := fun _ _ _ H _ I h => Constant_bool ⟨.bl b, H, I, rfl, h⟩
theorem tR {j pos} : PE X (.Constant .none j pos) (tC .non) := fun _ _ _ H _ I h => Constant_none ⟨.non, H, I, rfl, h⟩
def Gl (X : Cx) (x : Str) : Prop := X.env.kindOf x = some .globalImplicit
theorem Qg {E : Value → Shared → Prop} {pins : List (Addr × Obj)} {s : Shared} {σ : St} {H : Hp} {x : Str} {u : Value} {pos : Pos} {Q : Value → Shared → Prop} (I : Inv X pins σ H s) (hg : Gl X x) (hm : X.mg x = some u) (h : Q u s)
    (hd : (x == ("__debug__" : Str)) = false := by decide) : wpAny (model X.prog X.w) X.A (eval (.Name x pos) X.env) Q E s :=
  Calls.Name_function_global I.ok.kind hg (Calls.loadGlobal_global (by rw [I.ok.glob]; exact I.mod.glob.keeps I.bk) hm h) hd
theorem Z9 {E : Value → Shared → Prop} {pins : List (Addr × Obj)} {s : Shared} {σ : St} {H : Hp} {x : Str} {u : Value} {pos : Pos} {Q : Value → Shared → Prop} (I : Inv X pins σ H s) (hg : Gl X x) (hm : X.mg x = none) (hv : bootBuiltins x = some u) (h : Q u s)
    (hn : x ≠ "__name__" := by decide) (hd : (x == ("__debug__" : Str)) = false := by decide) : wpAny (model X.prog X.w) X.A (eval (.Name x pos) X.env) Q E s := by
  obtain ⟨mb, h1, h2⟩ := I.mod.blt
  exact Calls.Name_function_global I.ok.kind hg (Calls.loadGlobal_builtin (by rw [I.ok.glob]; exact I.mod.glob.keeps I.bk) hm (by rw [I.ok.blt]; exact h1.keeps I.bk) ((h2 x hn).trans hv) h) hd
theorem YQ {x : Str} {v : V} {u : Value} {pos : Pos} (hg : Gl X x) (hm : X.mg x = some u) (r : RelV v u) (hd : (x == ("__debug__" : Str)) = false := by decide) : PE X (.Name x pos) (tC v) :=
  fun _ _ _ H _ I h => Qg I hg hm ⟨v, H, I, r, h⟩ hd
theorem jl {x : Str} {v : V} {u : Value} {pos : Pos} (hg : Gl X x) (hm : X.mg x = none) (hv : bootBuiltins x = some u) (r : RelV v u) (hn : x ≠ "__name__" := by decide) (hd : (x == ("__debug__" : Str)) = false := by decide) : PE X (.Name x pos) (tC v) :=
  fun _ _ _ H _ I h => Z9 I hg hm hv ⟨v, H, I, r, h⟩ hn hd
variable {a b : Expr} {ta tb : TE} {pos : Pos}
def PC (X : Cx) (op : CmpOp) (a b : Expr) (t : TE) : Prop :=
  ∀ (pins : List (Addr × Obj)) (s : Shared) (σ : St) (H : Hp) (Q : VK), Inv X pins σ H s → t σ H Q →
    wpAny (model X.prog X.w) X.A (eval a X.env) (fun v s₁ => wpAny (model X.prog X.w) X.A (eval b X.env) (fun u s₂ => wpAny (model X.prog X.w) X.A (compareOp op v u) (EP X pins σ Q) X.xe s₂) X.xe s₁) X.xe s
theorem zbA (b : Expr) {op : CmpOp} (h : op ≠ .In) (h2 : op ≠ .NotIn) : behindInMarks op b = false := by
  have e1 : (op == CmpOp.In) = false := by cases op <;> first | rfl | exact absurd rfl h
  have e2 : (op == CmpOp.NotIn) = false := by cases op <;> first | rfl | exact absurd rfl h2
  cases b <;> simp [behindInMarks, e1, e2]
def tB (t : TE) : TT := fun σ H Q => t σ H fun x H1 => ∃ c, x = .bl c ∧ Q c H1
theorem zdc {op : CmpOp} {t : TE} (h : PC X op a b t) (h1 : behindInMarks op b = false := by first | exact zbA _ (by decide) (by decide) | rfl) : PT X (.Compare a [op] [b] pos) (tB t) := by
  intro pins s σ H Q I hw
  refine wpAny_isTrue_Compare1 (thn (h pins s σ H _ I hw) fun v s1 h1 => thn h1 fun u s2 h2 => thn h2 fun c s3 ⟨x, H1, I1, r1, q1⟩ => ?_) h1
  obtain ⟨d, rfl, q⟩ := q1
  cases r1
  exact wpAny_truthy_bool ⟨H1, I1, q⟩
theorem tL {e : Expr} {t : TE} (h : PE X e t) (he : ∀ whole, isTrue e X.env whole = (do let v ← whole; standAt e.pos; holding [v] (truthy v)) := by intro _; rfl) : PT X e (tB t) := by
  intro pins s σ H Q I hw
  refine isTrue_plain (thn (h pins s σ H _ I hw) fun v s1 ⟨x, H1, I1, r1, q1⟩ => ?_) (he _)
  obtain ⟨d, rfl, q⟩ := q1
  cases r1
  exact wpAny_truthy_bool ⟨H1, I1, q⟩
variable {tA tB' : TT} {rest : List Expr}
def zee (t u : TT) : TT := fun σ H Q => t σ H fun c H1 => if c = true then u σ H1 Q else Q false H1
def tOr (t u : TT) : TT := fun σ H Q => t σ H fun c H1 => if c = true then Q true H1 else u σ H1 Q
def zen (t : TT) : TT := fun σ H Q => t σ H fun c H1 => Q (!c) H1
theorem Wc (ha : PT X a tA) : PW X (.BoolOp .And [a] pos) tA := by
  intro wh pins s σ H Q I h
  refine isTrue_and (thn (ha pins s σ H Q I h) fun c s1 e => ?_)
  cases c with
  | true => exact isTrue_and_nil e
  | false => exact e
theorem Xd (ha : PT X a tA) : PW X (.BoolOp .Or [a] pos) tA := by
  intro wh pins s σ H Q I h
  refine isTrue_or (thn (ha pins s σ H Q I h) fun c s1 e => ?_)
  cases c with
  | false => exact isTrue_or_nil e
  | true => exact e
theorem Qo (ha : PT X a tA) (hb : PW X (.BoolOp .And (b :: rest) pos) tB') : PW X (.BoolOp .And (a :: b :: rest) pos) (zee tA tB') := by
  intro wh pins s σ H Q I h
  refine isTrue_and (thn (ha pins s σ H _ I h) fun c s1 ⟨H1, I1, q1⟩ => ?_)
  cases c with
  | true => exact hb wh pins s1 σ H1 Q I1 q1
  | false => exact ⟨H1, I1, q1⟩
theorem VR (ha : PT X a tA) (hb : PW X (.BoolOp .Or (b :: rest) pos) tB') : PW X (.BoolOp .Or (a :: b :: rest) pos) (tOr tA tB') := by
  intro wh pins s σ H Q I h
  refine isTrue_or (thn (ha pins s σ H _ I h) fun c s1 ⟨H1, I1, q1⟩ => ?_)
  cases c with
  | true => exact ⟨H1, I1, q1⟩
  | false => exact hb wh pins s1 σ H1 Q I1 q1
theorem Zo (ha : PT X a tA) : PT X (.UnaryOp .Not a pos) (zen tA) := by
  intro pins s σ H Q I h
  exact isTrue_not (ha pins s σ H (fun c H1 => Q (!c) H1) I h)
def zd2 (ta tb : TE) : TE := fun σ H Q => ta σ H fun x H1 => ∃ c, x = .bl c ∧ if c = true then tb σ H1 Q else Q (.bl false) H1
def zd0 (ta : TE) : TE := fun σ H Q => ta σ H fun x H1 => ∃ c, x = .bl c ∧ Q (.bl (!c)) H1
theorem jm {op} {t : TE} (h : PE X a t) : PE X (.BoolOp op [a] pos) t := fun pins s σ H Q I hw => BoolOp_one (h pins s σ H Q I hw)
theorem jN (ha : PE X a ta) (hb : PE X (.BoolOp .And (b :: rest) pos) tb) : PE X (.BoolOp .And (a :: b :: rest) pos) (zd2 ta tb) := by
  intro pins s σ H Q I h
  refine BoolOp_and (thn (ha pins s σ H _ I h) fun v s1 ⟨x, H1, I1, r1, q1⟩ => ?_)
  obtain ⟨c, rfl, q1⟩ := q1
  cases r1
  refine wpAny_truthy_bool ?_
  cases c with
  | true => exact hb pins s1 σ H1 Q I1 q1
  | false => exact ⟨.bl false, H1, I1, rfl, q1⟩
theorem zbx (ha : PE X a ta) : PE X (.UnaryOp .Not a pos) (zd0 ta) := by
  intro pins s σ H Q I h
  refine UnaryOp_ (thn (ha pins s σ H _ I h) fun v s1 ⟨x, H1, I1, r1, q1⟩ => ?_)
  obtain ⟨c, rfl, q1⟩ := q1
  cases r1
  exact not_of (wpAny_truthy_bool ⟨.bl (!c), H1, I1, rfl, q1⟩)
def tIf (t : TT) (ta tb : TE) : TE := fun σ H Q => t σ H fun c H1 => if c = true then ta σ H1 Q else tb σ H1 Q
theorem za0 {c : Expr} (hc : PT X c tA) (ha : PE X a ta) (hb : PE X b tb) : PE X (.IfExp c a b pos) (tIf tA ta tb) := by
  intro pins s σ H Q I h
  refine wpAny_IfExp (thn (hc pins s σ H _ I h) fun d s1 ⟨H1, I1, q1⟩ => ?_)
  cases d with
  | true => exact ha pins s1 σ H1 Q I1 q1
  | false => exact hb pins s1 σ H1 Q I1 q1
end
def SqL (K : PySem.W.Frag) (H : Hp) (a : Addr) (xs : List V) : Prop :=
  Rd H a (.lst xs) ∨
    ∃ (o : Obj) (its : Array Value) (n : Nat), K.lookup a = some o ∧ o.cls = .type "list" ∧ o.dict = none ∧ o.data = .seq its n ∧ its.size ≤ sizeLine ∧ Vals xs its.toList
def SqT (K : PySem.W.Frag) (H : Hp) (a : Addr) (xs : List V) : Prop :=
  Rd H a (.tup xs) ∨
    ∃ (o : Obj) (its : Array Value) (n : Nat), K.lookup a = some o ∧ o.cls = .type "tuple" ∧ o.data = .seq its n ∧ its.size ≤ sizeLine ∧ Vals xs its.toList
def zei : Value → Option V
  | .none => some .non
  | .bool b => some (.bl b)
  | .int i _ => some (.int i)
  | .str x _ => some (.str x)
  | .bytes b _ => some (.byt b)
  | .float b _ => some (.flt b)
  | .ref a => some (.ref a)
  | .type n => some (.ty n)
  | _ => none
theorem RelV.abs {x : V} {u : Value} (r : RelV x u) : zei u = some x := by
  cases x with
  | non => cases r; rfl
  | bl _ => cases r; rfl
  | int _ => obtain ⟨t, rfl⟩ := r; rfl
  | str _ => obtain ⟨t, rfl⟩ := r; rfl
  | byt _ => obtain ⟨t, rfl⟩ := r; rfl
  | flt _ => obtain ⟨t, rfl⟩ := r; rfl
  | ref _ => cases r; rfl
  | ty _ => cases r; rfl
theorem RelV.inj {x y : V} {u : Value} (r : RelV x u) (q : RelV y u) : x = y := Option.some.inj (r.abs.symm.trans q.abs)
theorem Vals.inj : ∀ {xs ys : List V} {us : List Value}, Vals xs us → Vals ys us → xs = ys
  | _, _, _, .nil, .nil => rfl
  | _, _, _, .cons r t, .cons r' t' => by rw [r.inj r', Vals.inj t t']
section
variable {X : Cx} {pins : List (Addr × Obj)} {σ : St} {H : Hp} {s : Shared} {a : Addr} {xs ys : List V}
theorem SqL.of {K : PySem.W.Frag} (h : H a = some (.lst xs)) : SqL K H a xs := .inl (.inl h)
theorem SqT.of {K : PySem.W.Frag} (h : H a = some (.tup xs)) : SqT K H a xs := .inl (.inl h)
theorem Inv.list (I : Inv X pins σ H s) (h : SqL X.K H a xs) : ∃ its : List Value, Vals xs its ∧ PlainL s.heap a its.toArray ∧ xs.length ≤ sizeLine := by
  rcases h with h | ⟨o, its, n, hk, hc, hd, hs, hz, r⟩
  · obtain ⟨z, its, n, r, e⟩ := h.ok I.hok
    exact ⟨its, r, ⟨_, n, e, rfl, rfl, rfl⟩, z⟩
  · refine ⟨its.toList, r, ⟨o, n, I.kIn a o hk, hc, hd, by simpa using hs⟩, ?_⟩
    have e := r.length
    simp only [Array.length_toList] at e
    omega
theorem Inv.tuple (I : Inv X pins σ H s) (h : SqT X.K H a xs) : ∃ its : List Value, Vals xs its ∧ IsTup s.heap a its.toArray ∧ xs.length ≤ sizeLine := by
  rcases h with h | ⟨o, its, n, hk, hc, hs, hz, r⟩
  · obtain ⟨z, its, r, p⟩ := h.ok I.hok
    exact ⟨its, r, p, z⟩
  · refine ⟨its.toList, r, ⟨o, I.kIn a o hk, hc, n, by simpa using hs⟩, ?_⟩
    have e := r.length
    simp only [Array.length_toList] at e
    omega
theorem Inv.list_inj (I : Inv X pins σ H s) (h : SqL X.K H a xs) (h' : SqL X.K H a ys) : xs = ys := by
  obtain ⟨its, r, ⟨o, n, e, _, _, d⟩, _⟩ := I.list h
  obtain ⟨its', r', ⟨o', n', e', _, _, d'⟩, _⟩ := I.list h'
  rw [e] at e'; cases e'
  rw [d] at d'
  injection d' with d1 _
  have : its = its' := by simpa using congrArg Array.toList d1
  subst this
  exact r.inj r'
theorem Inv.tuple_inj (I : Inv X pins σ H s) (h : SqT X.K H a xs) (h' : SqT X.K H a ys) : xs = ys := by
  obtain ⟨its, r, ⟨o, e, _, n, d⟩, _⟩ := I.tuple h
  obtain ⟨its', r', ⟨o', e', _, n', d'⟩, _⟩ := I.tuple h'
  rw [e] at e'; cases e'
  rw [d] at d'
  injection d' with d1 _
  have : its = its' := by simpa using congrArg Array.toList d1
  subst this
  exact r.inj r'
end
abbrev Cx.wish (X : Cx) (E : Value → Shared → Prop) : Cx := { X with xe := E }
abbrev Cx.nox (X : Cx) : Cx := X.wish fun _ _ => False
theorem Cx.Ok.wish {X : Cx} (ok : X.Ok) (E : Value → Shared → Prop) : (X.wish E).Ok :=
  ⟨ok.mod, ok.kind, ok.glob, ok.blt, ok.above, ok.inj, ok.has, ok.cab, ok.hd, ok.frames, ok.stk, ok.exf, ok.bs, ok.bsz, ok.noex, ok.exfs, ok.funs, ok.frf⟩
theorem Cx.Ok.unwish {X : Cx} {E : Value → Shared → Prop} (ok : (X.wish E).Ok) : X.Ok :=
  ⟨ok.mod, ok.kind, ok.glob, ok.blt, ok.above, ok.inj, ok.has, ok.cab, ok.hd, ok.frames, ok.stk, ok.exf, ok.bs, ok.bsz, ok.noex, ok.exfs, ok.funs, ok.frf⟩
section
variable {X : Cx} {pins : List (Addr × Obj)} {σ : St} {H : Hp} {s : Shared} {E : Value → Shared → Prop}
theorem Inv.wish (I : Inv X pins σ H s) (E : Value → Shared → Prop) : Inv (X.wish E) pins σ H s := ⟨I.ok.wish E, I.os, I.bare, I.base, I.loc, I.cell, I.free, I.freeC, I.pin, I.hok, I.len⟩
theorem Inv.unwish (I : Inv (X.wish E) pins σ H s) : Inv X pins σ H s := ⟨I.ok.unwish, I.os, I.bare, I.base, I.loc, I.cell, I.free, I.freeC, I.pin, I.hok, I.len⟩
theorem SP.unwish {D : Ends} {f : Flow} {s' : Shared} (h : SP (X.wish E) pins D f s') : SP X pins D f s' := by
  cases f with
  | next => obtain ⟨σ', H', I, q⟩ := h; exact ⟨σ', H', I.unwish, q⟩
  | brk => obtain ⟨σ', H', I, q⟩ := h; exact ⟨σ', H', I.unwish, q⟩
  | cont => obtain ⟨σ', H', I, q⟩ := h; exact ⟨σ', H', I.unwish, q⟩
  | ret u => obtain ⟨v, σ', H', I, r, q⟩ := h; exact ⟨v, σ', H', I.unwish, r, q⟩
theorem PE.nox {e : Expr} {t : TE} (h : PE X.nox e t) : PE X e t := fun pins s σ H Q I hw =>
  wpAny_mono (h pins s σ H Q (I.wish _) hw) (fun _ _ ⟨v, H', I', r, q⟩ => ⟨v, H', I'.unwish, r, q⟩) fun _ _ z => False.elim z
theorem PT.nox {e : Expr} {t : TT} (h : PT X.nox e t) : PT X e t := fun pins s σ H Q I hw =>
  wpAny_mono (h pins s σ H Q (I.wish _) hw) (fun _ _ ⟨H', I', q⟩ => ⟨H', I'.unwish, q⟩) fun _ _ z => False.elim z
theorem PSs.nox {st : List Stmt} {t : TS} (h : PSs X.nox st t) : PSs X st t := fun pins s σ H D I hw =>
  wpAny_mono (h pins s σ H D (I.wish _) hw) (fun _ _ q => q.unwish) fun _ _ z => False.elim z
end
section
variable {X : Cx} {st : Stmt} {rest : List Stmt} {t u : TS} {e : Expr} {te : TE} {pos : Pos}
def zdt : TS := fun D σ H => D.nx σ H
def zaS (t u : TS) : TS := fun D σ H => t { D with nx := u D } σ H
theorem yg : PSs X [] zdt := fun _ _ σ H _ I h => wpAny_execs_nil ⟨σ, H, I, h⟩
theorem zp (h1 : PS X st t) (h2 : PSs X rest u) : PSs X (st :: rest) (zaS t u) := by
  intro pins s σ H D I h
  refine wpAny_execs_cons (thn (h1 pins s σ H { D with nx := u D } I h) fun f s1 q => ?_)
  cases f with
  | next =>
    obtain ⟨σ', H', I', q⟩ := q
    exact h2 pins s1 σ' H' D I' q
  | ret v => exact q
  | brk => exact q
  | cont => exact q
theorem zu (h1 : PS X st t) : PSs X [st] t := by
  intro pins s σ H D I h
  refine wpAny_execs_cons (thn (h1 pins s σ H D I h) fun f s1 q => ?_)
  cases f with
  | next => exact wpAny_execs_nil q
  | ret v => exact q
  | brk => exact q
  | cont => exact q
theorem Inv.quiet {pins : List (Addr × Obj)} {σ : St} {H : Hp} {s : Shared} (I : Inv X pins σ H s) : interactive X.env = false := by simp [interactive, I.ok.kind]
def zdr (te : TE) : TS := fun D σ H => te σ H fun _ H1 => D.nx σ H1
theorem vO (he : PE X e te) (hs : swapsWith e none pos.line X.env = pure false := by rfl) : PS X (.Expr e pos) (zdr te) := by
  intro pins s σ H D I h
  exact wpAny_Expr_any (thn (he pins s σ H _ I h) fun v s1 ⟨x, H1, I1, r1, q1⟩ => ⟨σ, H1, I1, q1⟩) I.quiet hs
def zdP (te : TE) : TS := fun D σ H => te σ H D.rt
theorem zH (he : PE X e te) : PS X (.Return (some e) pos) (zdP te) := by
  intro pins s σ H D I h
  exact wpAny_Return_some (thn (he pins s σ H _ I h) fun v s1 ⟨x, H1, I1, r1, q1⟩ => ⟨x, σ, H1, I1, r1, q1⟩)
def zds (c : TT) (t u : TS) : TS := fun D σ H => c σ H fun b H1 => if b = true then t D σ H1 else u D σ H1
theorem xX {c : Expr} {a b : List Stmt} {tc : TT} (hc : PT X c tc) (ha : PSs X a t) (hb : PSs X b u) : PS X (.If c a b pos) (zds tc t u) := by
  intro pins s σ H D I h
  refine wpAny_If (thn (hc pins s σ H _ I h) fun d s1 ⟨H1, I1, q1⟩ => ?_)
  cases d with
  | true => exact ha pins s1 σ H1 D I1 q1
  | false => exact hb pins s1 σ H1 D I1 q1
def zcX : TS := fun _ _ _ => False
theorem Qt : PS X st zcX := fun _ _ _ _ _ _ h => h.elim
end
abbrev TG := V → St → Hp → (St → Hp → Prop) → Prop
abbrev TGs := List V → St → Hp → (St → Hp → Prop) → Prop
def PG (X : Cx) (target : Expr) (t : TG) : Prop :=
  ∀ (pins : List (Addr × Obj)) (s : Shared) (σ : St) (H : Hp) (v : V) (u : Value) (Q : St → Hp → Prop), Inv X pins σ H s → RelV v u → t v σ H Q →
    wpAny (model X.prog X.w) X.A (assign target X.env u) (fun _ s' => ∃ σ' H', Inv X pins σ' H' s' ∧ Q σ' H') X.xe s
def PGs (X : Cx) (ts : List Expr) (t : TGs) : Prop :=
  ∀ (pins : List (Addr × Obj)) (s : Shared) (σ : St) (H : Hp) (vs : List V) (us : List Value) (Q : St → Hp → Prop), Inv X pins σ H s → Vals vs us → t vs σ H Q →
    wpAny (model X.prog X.w) X.A (assignInOrder ((assignEach ts X.env).map (·.2)) us) (fun _ s' => ∃ σ' H', Inv X pins σ' H' s' ∧ Q σ' H') X.xe s
abbrev zcT := V → V → V → Hp → (Hp → Prop) → Prop
def zdo (X : Cx) (t : zcT) : Prop :=
  ∀ (pins : List (Addr × Obj)) (s : Shared) (σ : St) (H : Hp) (o i v : V) (ov iv u : Value) (Q : Hp → Prop), Inv X pins σ H s → RelV o ov → RelV i iv → RelV v u → t o i v H Q →
    wpAny (model X.prog X.w) X.A (setItem ov iv u) (fun _ s' => ∃ H', Inv X pins σ H' s' ∧ Q H') X.xe s
abbrev TIp := V → V → Hp → VK → Prop
def PIp (X : Cx) (op : Operator) (t : TIp) : Prop :=
  ∀ (pins : List (Addr × Obj)) (s : Shared) (σ : St) (H : Hp) (x y : V) (v u : Value) (Q : VK), Inv X pins σ H s → RelV x v → RelV y u → t x y H Q →
    wpAny (model X.prog X.w) X.A (inplaceOp op v u) (EP X pins σ Q) X.xe s
section
variable {X : Cx} {pos : Pos}
def Wf (i : Nat) : TG := fun v σ H Q => Q (σ.set i (some v)) H
theorem zY {i : Nat} {x : Str} (hN : X.N.Nodup) (hi : X.N[i]? = some x) (hx : Loc X.env.scope x) (hf : X.fn x = true ∨ X.env.scope.names.lookup x = some .local := by first | exact .inl rfl | exact .inr rfl | assumption) : PG X (.Name x pos) (Wf i) := by
  intro pins s σ H v u Q I r h
  exact wpAny_assign_Name (Wz I hN hi hx r (fun s' I' => ⟨_, H, I', h⟩) hf)
def zek : TGs := fun vs σ H Q => vs = [] ∧ Q σ H
def zdZ (t : TG) (u : TGs) : TGs := fun vs σ H Q => ∃ v r, vs = v :: r ∧ t v σ H fun σ' H' => u r σ' H' Q
theorem ZK : PGs X [] zek := by
  intro pins s σ H vs us Q I r h
  obtain ⟨e, h⟩ := h
  subst e
  cases r
  exact assignInOrder_nil ⟨σ, H, I, h⟩
theorem xO {e : Expr} {es : List Expr} {t : TG} {u : TGs} (h1 : PG X e t) (h2 : PGs X es u)
    (hs : (assignEach (e :: es) X.env).map (·.2) = assign e X.env :: (assignEach es X.env).map (·.2) := by rfl) : PGs X (e :: es) (zdZ t u) := by
  intro pins s σ H vs us Q I r h
  obtain ⟨v, vr, e1, h⟩ := h
  subst e1
  cases r with
  | cons r rr =>
    rw [hs]
    refine assignInOrder_cons (thn (h1 pins s σ H _ _ _ I r h) fun _ s1 ⟨σ1, H1, I1, q1⟩ => ?_)
    exact h2 pins s1 σ1 H1 _ _ Q I1 rr q1
def zdN (K : PySem.W.Frag) (n : Nat) (t : TGs) : TG := fun v σ H Q => ∃ a xs, v = .ref a ∧ SqT K H a xs ∧ xs.length = n ∧ t xs σ H Q
theorem Jq {es : List Expr} {k : Nat} {t : TGs} {n : Nat} (hc : X.calm = true) (h : PGs X es t)
    (hn : (assignEach es X.env).length = n := by rfl) (hst : (assignEach es X.env).findIdx? (·.1) = none := by rfl) : PG X (.Tuple es k pos) (zdN X.K n t) := by
  intro pins s σ H v u Q I r hw
  obtain ⟨a, xs, e1, hq, hl, hw⟩ := hw
  subst e1
  cases r
  obtain ⟨its, rv, ht, hz⟩ := I.tuple hq
  refine assign_Tuple_tuple (I.ok.hd hc) ht (by simp [hn, ← hl, rv.length]) hst fun h' hx => ?_
  have I1 : Inv X pins σ H { s with heap := h' } := I.kept (t' := s.toks) fun b o e => hx b o (Nat.ne_of_lt (Heap.lt_size e)) e
  exact h pins _ σ H xs _ Q I1 (by simpa using rv) hw
def zdQ (to ti : TE) (t : zcT) : TG := fun v σ H Q => to σ H fun o H1 => ti σ H1 fun i H2 => t o i v H2 fun H3 => Q σ H3
theorem Jk {o i : Expr} {to ti : TE} {t : zcT} (ho : PE X o to) (hi : PE X i ti) (hs : zdo X t)
    (ha : ∀ v, assign (.Subscript o i pos) X.env v = (do
      let ov ← holding [v] (eval o X.env)
      let iv ← holding [v, ov] (eval i X.env)
      standAt pos
      holding [v, ov, iv] (setItem ov iv v)
      release [v, ov, iv] []) := by intro _; rfl) : PG X (.Subscript o i pos) (zdQ to ti t) := by
  intro pins s σ H v u Q I r h
  rw [ha]
  refine wpAny_bind (wpAny_holding (thn (ho pins s σ H _ I h) fun ov s1 ⟨x, H1, I1, r1, q1⟩ => ?_))
  refine wpAny_bind (wpAny_holding (thn (hi pins s1 σ H1 _ I1 q1) fun iv s2 ⟨y, H2, I2, r2, q2⟩ => ?_))
  refine wpAny_bind (wpAny_standAt (wpAny_bind (wpAny_holding (thn (hs pins s2 σ H2 x y v ov iv u _ I2 r1 r2 r q2) fun _ s3 ⟨H3, I3, q3⟩ => ?_))))
  exact wpAny_release ⟨σ, H3, I3, q3⟩
def JB (te : TE) (g : TG) : TS := fun D σ H => te σ H fun x H1 => g x σ H1 D.nx
theorem Wd {tg e : Expr} {te : TE} {g : TG} (he : PE X e te) (hg : PG X tg g) (hs : swapsWithSole [tg] e pos.line X.env = pure false := by rfl) (hw : swappedStores [tg] e X.env = pure none := by rfl)
    (h1 : (assignEach [tg] X.env).map (·.2) = [assign tg X.env] := by rfl) : PS X (.Assign [tg] e pos) (JB te g) := by
  intro pins s σ H D I h
  refine wpAny_Assign_stores (thn (he pins s σ H _ I h) fun v s1 ⟨x, H1, I1, r1, q1⟩ => ?_) hs hw
  rw [h1]
  exact thn (hg pins s1 σ H1 x v _ I1 r1 q1) fun _ s2 q => q
theorem zF {i : Nat} {x : Str} {e : Expr} {te : TE} {pos' : Pos} (hN : X.N.Nodup) (hi : X.N[i]? = some x) (hx : Loc X.env.scope x) (he : PE X e te) (hs : swapsWith e (some (.Name x pos')) pos.line X.env = pure false := by rfl) (hf : X.fn x = true ∨ X.env.scope.names.lookup x = some .local := by first | exact .inl rfl | exact .inr rfl | assumption) :
    PS X (.Assign [.Name x pos'] e pos) (JB te (Wf i)) := by
  intro pins s σ H D I h
  refine wpAny_Assign_Name (thn (he pins s σ H _ I h) fun v s1 ⟨y, H1, I1, r1, q1⟩ => ?_) hs
  exact Wz I1 hN hi hx r1 (fun s2 I2 => ⟨_, H1, I2, q1⟩) hf
def zeb (i : Nat) (te : TE) (ti : TIp) : TS := fun D σ H => ∃ x, σ[i]? = some (some x) ∧ te σ H fun y H1 => ti x y H1 fun z H2 => D.nx (σ.set i (some z)) H2
theorem zbr {i : Nat} {x : Str} {e : Expr} {te : TE} {op : Operator} {ti : TIp} {pos' : Pos} (hN : X.N.Nodup) (hi : X.N[i]? = some x) (hx : Loc X.env.scope x) (he : PE X e te) (ho : PIp X op ti) (hf : X.fn x = true ∨ X.env.scope.names.lookup x = some .local := by first | exact .inl rfl | exact .inr rfl | assumption) :
    PS X (.AugAssign (.Name x pos') op e pos) (zeb i te ti) := by
  intro pins s σ H D I h
  obtain ⟨v, e1, h⟩ := h
  obtain ⟨m, hn, hl⟩ := I.loc
  have vis : Vis X.env.scope x := by rcases hx with k | k; exact .inl k; exact .inr (.inl k)
  obtain ⟨u, r, l⟩ := hl i x v hi e1 vis
  refine wpAny_AugAssign_Name ?_
  have go : wpAny (model X.prog X.w) X.A (eval e X.env) (fun w s₂ => wpAny (model X.prog X.w) X.A (inplaceOp op u w) (fun r s₃ => wpAny (model X.prog X.w) X.A (storeName X.env x r) (fun _ => SP X pins D .next) X.xe s₃) X.xe s₂) X.xe s := by
    refine thn (he pins s σ H _ I h) fun w s1 ⟨y, H1, I1, r1, q1⟩ => ?_
    refine thn (ho pins s1 σ H1 v y u w _ I1 r r1 q1) fun z s2 ⟨zv, H2, I2, r2, q2⟩ => ?_
    exact Wz I2 hN hi hx r2 (fun s3 I3 => ⟨_, H2, I3, q2⟩) hf
  rcases l with ⟨hk, hm⟩ | ⟨hk, c, hc, hcell⟩
  · exact wpAny_loadName_local I.ok.kind hk hn hm go
  · rcases hk with hk | hk
    · exact wpAny_loadName_cell I.ok.kind hk hc hcell go
    · rcases hx with k | k
      · have : X.env.scope.names.lookup x = some .free := hk
        rw [k] at this; cases this
      · have : X.env.scope.names.lookup x = some .free := hk
        rw [k] at this; cases this
def ipI (f : Int → Int → Int) : TIp := fun x y H Q => ∃ i j, x = .int i ∧ y = .int j ∧ Q (.int (f i j)) H
theorem zdj : PIp X .Add (ipI fun i j => i + j) := by
  intro pins s σ H x y v u Q I r1 r2 h
  obtain ⟨i, j, e1, e2, q⟩ := h
  subst e1; subst e2
  obtain ⟨t, rfl⟩ := r1
  obtain ⟨t', rfl⟩ := r2
  exact iadd_int ⟨.int _, H, I.tok _, ⟨_, rfl⟩, q⟩
theorem zdk : PIp X .Sub (ipI fun i j => i - j) := by
  intro pins s σ H x y v u Q I r1 r2 h
  obtain ⟨i, j, e1, e2, q⟩ := h
  subst e1; subst e2
  obtain ⟨t, rfl⟩ := r1
  obtain ⟨t', rfl⟩ := r2
  exact isub_int ⟨.int _, H, I.tok _, ⟨_, rfl⟩, q⟩
end
section
variable {X : Cx} {pos : Pos}
def Jx (c : TT) (tb : TS) : TS := fun D σ H => ∃ W : Nat → St → Hp → Prop, (∃ m, W m σ H) ∧ ∀ m σ H, W m σ H →
  c σ H fun b H1 => if b = true then ∃ N : St → Hp → Prop, (∀ σ' H', N σ' H' → ∃ m', m' < m ∧ W m' σ' H') ∧ tb { D with nx := N, ct := N, bk := D.nx } σ H1 else D.nx σ H1
theorem YT {c : Expr} {body : List Stmt} {tc : TT} {tb : TS} (hp : PassesOwn (model X.prog X.w) X.A X.env X.xe) (hc : PT X c tc) (hb : PSs X body tb) : PS X (.While c body [] pos) (Jx tc tb) := by
  intro pins s σ H D I h
  obtain ⟨W, ⟨m0, w0⟩, turn⟩ := h
  refine wpAny_While (codeAny_whileLoop (fun n s' => ∃ σ' H', Inv X pins σ' H' s' ∧ W n σ' H') ?_ m0 ⟨σ, H, I, w0⟩)
  rintro n s1 ⟨σ1, H1, I1, w1⟩
  refine wpAny_passesOwn hp (thn (hc pins s1 σ1 H1 _ I1 (turn n σ1 H1 w1)) fun b s2 ⟨H2, I2, q2⟩ => ?_)
  cases b with
  | true =>
    obtain ⟨N, hN, q2⟩ := q2
    rw [if_pos rfl]
    refine wpAny_passesOwn hp (thn (hb pins s2 σ1 H2 _ I2 q2) fun f s3 q3 => ?_)
    cases f with
    | next =>
      obtain ⟨σ3, H3, I3, n3⟩ := q3
      obtain ⟨m', hm, w3⟩ := hN σ3 H3 n3
      exact ⟨m', hm, σ3, H3, I3, w3⟩
    | cont =>
      obtain ⟨σ3, H3, I3, n3⟩ := q3
      obtain ⟨m', hm, w3⟩ := hN σ3 H3 n3
      exact ⟨m', hm, σ3, H3, I3, w3⟩
    | brk => exact q3
    | ret v => exact q3
  | false =>
    rw [if_neg Bool.false_ne_true]
    exact wpAny_execs_nil ⟨σ1, H2, I2, q2⟩
end
structure It where
  go : Nat → Hp → Prop
  yld : Nat → Hp → V → Hp → Prop
  stop : Nat → Hp → Prop
def XM (X : Cx) (pins : List (Addr × Obj)) (H : Hp) (b : Addr) : Prop :=
  H b = none ∧ b ≠ X.env.locals ∧ b ∉ X.fs ∧ (b ∈ X.ex ∨ X.s₀.heap.objs.size ≤ b) ∧ (∀ x c, X.env.cells.lookup x = some c → c ≠ b) ∧ ∀ p ∈ X.pn ++ pins, p.1 ≠ b
theorem Inv.fpOk {X : Cx} {pins : List (Addr × Obj)} {σ : St} {H H' : Hp} {s : Shared} {b : Addr} (I : Inv X pins σ H s) (hb : s.heap.objs.size ≤ b) (hn : H' b = none) : XM X pins H' b := by
  refine ⟨hn, Nat.ne_of_gt (Nat.lt_of_lt_of_le I.lt hb), I.nofs hb, .inr (Nat.le_trans I.sz hb), fun x c e z => ?_, fun p hp z => ?_⟩
  · obtain ⟨v, q⟩ := I.cell x c e
    exact absurd (Nat.lt_of_lt_of_le q.lt (by rw [z]; exact hb)) (Nat.lt_irrefl _)
  · exact absurd (Nat.lt_of_lt_of_le (Heap.lt_size (I.pin p hp).1) (by rw [z]; exact hb)) (Nat.lt_irrefl _)
structure Turn (P : Program) (w : World) (K : PySem.W.Frag) (tg : Expr) (J : It) (fp : List Addr) (it : Addr) (tn : Nat → Heap → Prop) : Prop where
  mem : it ∈ fp
  obj : ∀ i h, tn i h → ∀ b ∈ fp, ∃ o, h.get? b = some o ∧ ∀ v, o.data ≠ .cell v
  keep : ∀ i h h', tn i h → (∀ b ∈ fp, ∀ o, h.get? b = some o → h'.get? b = some o) → tn i h'
  item : ∀ (X : Cx), X.prog = P → X.w = w → X.K = K → X.calm = true → ∀ (i : Nat) (pins : List (Addr × Obj)) (s : Shared) (σ : St) (H : Hp) (E : Value → Shared → Prop), Inv X pins σ H s → (∀ b ∈ fp, XM X pins H b) → tn i s.heap → J.go i H →
    wpAny (model P w) X.A (pyNext (.ref it)) (fun r s1 => ∃ u, r = some u ∧
      wpAny (model P w) X.A (letOwnedTupleGo tg (.ref it) u) (fun _ s2 => ∃ x H', Inv X pins σ H' s2 ∧ RelV x u ∧ J.yld i H x H' ∧ tn (i + 1) s2.heap ∧ ∀ b ∈ fp, H' b = none) E s1) E s
  done : ∀ (X : Cx), X.prog = P → X.w = w → X.K = K → X.calm = true → ∀ (i : Nat) (pins : List (Addr × Obj)) (s : Shared) (σ : St) (H : Hp) (E : Value → Shared → Prop), Inv X pins σ H s → (∀ b ∈ fp, XM X pins H b) → tn i s.heap → J.stop i H →
    wpAny (model P w) X.A (pyNext (.ref it)) (fun r s1 => r = none ∧ Inv X pins σ H s1) E s
  self : ∀ (A : Around) (i : Nat) (s : Shared) (Q : Value → Shared → Prop) (E : Value → Shared → Prop), tn i s.heap → Q (.ref it) s → wpAny (model P w) A (pyIter (.ref it)) Q E s
abbrev TI := St → Hp → (It → Hp → Prop) → Prop
def PIE (X : Cx) (pins : List (Addr × Obj)) (σ : St) (tg : Expr) (R : It → Hp → Prop) (itv : Value) (s2 : Shared) : Prop :=
  ∃ (it : Addr) (fp : List Addr) (tn : Nat → Heap → Prop) (J : It) (H' : Hp), itv = .ref it ∧ Inv X pins σ H' s2 ∧ Turn X.prog X.w X.K tg J fp it tn ∧ tn 0 s2.heap ∧ (∀ b ∈ fp, XM X pins H' b) ∧ R J H'
def PI (X : Cx) (tg iter : Expr) (wi : TI) : Prop :=
  ∀ (pins : List (Addr × Obj)) (s : Shared) (σ : St) (H : Hp) (R : It → Hp → Prop), Inv X pins σ H s → wi σ H R →
    wpAny (model X.prog X.w) X.A (eval iter X.env) (fun v s1 => wpAny (model X.prog X.w) X.A (pyIter v) (PIE X pins σ tg R) X.xe s1) X.xe s
theorem zai {M : Model} {A : Around} {E : Value → Shared → Prop} {s : Shared} {tg : Expr} {it : Addr} {u : Value} {o : Obj} {n : String} {vs : Array Value} {Q : Unit → Shared → Prop} (ho : s.heap.get? it = some o) (hc : o.cls = .type n) (hd : o.data = .fields vs)
    (hn : ["enumerate", "zip", "dict_itemiterator", "dict_reverseitemiterator", "odict_iterator", "itertools.zip_longest", "itertools.pairwise"].contains n = false) (hQ : Q () s) : wpAny M A (letOwnedTupleGo tg (.ref it) u) Q E s := by
  unfold letOwnedTupleGo
  cases tg <;> first
    | exact wpAny_pure hQ
    | (cases u <;> first
        | exact wpAny_pure hQ
        | (refine wpAny_bind (wpAny_load ho ?_)
           rw [hc, hd]
           show wpAny M A (if (["enumerate", "zip", "dict_itemiterator", "dict_reverseitemiterator", "odict_iterator", "itertools.zip_longest", "itertools.pairwise"].contains n && vs[0]? == some (rawInt _)) = true then _ else _) Q E s
           rw [if_neg (by intro h; rw [hn, Bool.false_and] at h; cases h)]
           exact wpAny_pure hQ))
def Itl (K : PySem.W.Frag) (a : Addr) : It :=
  ⟨fun i H => ∃ xs x, SqL K H a xs ∧ xs[i]? = some x, fun i H x H' => H' = H ∧ ∀ xs, SqL K H a xs → xs[i]? = some x, fun i H => ∃ xs, SqL K H a xs ∧ xs.length ≤ i⟩
def Itr (lo : Int) (n : Nat) : It := ⟨fun i _ => i < n, fun i H x H' => H' = H ∧ x = .int (lo + i), fun i _ => n ≤ i⟩
theorem zaP {P : Program} {w : World} {K : PySem.W.Frag} {tg : Expr} (a it : Addr) : Turn P w K tg (Itl K a) [it] it (fun i h => h.IsListIter it a i) where
  mem := by simp
  obj := fun i h st b hb => by
    have e : b = it := by simpa using hb
    subst e
    obtain ⟨o, e, c, d⟩ := st
    exact ⟨o, e, fun v z => by rw [d] at z; cases z⟩
  keep := fun i h h' st k => st.at fun o e => k it (by simp) o e
  item := by
    intro X hP hw hK hc i pins s σ H E I hf st hg
    subst hP hw hK
    obtain ⟨xs, x, hq, hx⟩ := hg
    obtain ⟨its, rv, p, hz⟩ := I.list hq
    obtain ⟨u, hu, ru⟩ := rv.get hx
    obtain ⟨f0, f1, f2, f3, f4, f5⟩ := hf it (by simp)
    refine wpAny_pyNext_list_item st p.isList (x := u) (by simpa using hu) fun h' st' sb => ?_
    have I1 : Inv X pins σ H { s with heap := h' } := I.turned (t' := s.toks) (fun b o hb e => (sb.2 b hb).trans e) f0 f1 f3 f4 f5
    obtain ⟨o, e, c, d⟩ := id st'
    exact ⟨u, rfl, zai (s := { s with heap := h' }) e c d (by decide) ⟨x, H, I1, ru, ⟨rfl, fun ys hy => by rw [I.list_inj hy hq]; exact hx⟩, st', fun b hb => (hf b hb).1⟩⟩
  done := by
    intro X hP hw hK hc i pins s σ H E I hf st hg
    subst hP hw hK
    obtain ⟨xs, hq, hx⟩ := hg
    obtain ⟨its, rv, p, hz⟩ := I.list hq
    obtain ⟨f0, f1, f2, f3, f4, f5⟩ := hf it (by simp)
    have hl := rv.length
    exact wpAny_pyNext_list_end (I.ok.hd hc) st p.isList (by simp; omega) fun h' eb => ⟨rfl, I.turned (t' := s.toks) (fun b o hb e => eb b o hb e) f0 f1 f3 f4 f5⟩
  self := fun _ _ _ _ _ st h => wpAny_pyIter_listiter st h
theorem Jw {P : Program} {w : World} {K : PySem.W.Frag} {tg : Expr} (it : Addr) (lo : Int) (n : Nat) : Turn P w K tg (Itr lo n) [it] it (fun i h => IsRangeIter h it (lo + (i : Nat) * 1) ((n : Int) - (i : Nat)) 1) where
  mem := by simp
  obj := fun i h st b hb => by
    have e : b = it := by simpa using hb
    subst e
    exact ⟨_, st, fun v z => by
      have z' : Data.fields _ = Data.cell v := z
      cases z'⟩
  keep := fun i h h' st k => k it (by simp) _ st
  item := by
    intro X hP hw hK hc i pins s σ H E I hf st hg
    subst hP hw hK
    obtain ⟨f0, f1, f2, f3, f4, f5⟩ := hf it (by simp)
    have W := Walks.range (prog := X.prog) (w := X.w) (I.ok.hd hc) it lo 1 n
    refine W.item i s _ _ hg st fun v h' tk hv st' kk => ?_
    obtain ⟨t, rfl⟩ := hv
    have I1 : Inv X pins σ H { s with heap := h', toks := tk } := I.turned (fun b o hb e => kk b o (by simpa using hb) e) f0 f1 f3 f4 f5
    refine ⟨_, rfl, zai (s := { s with heap := h', toks := tk }) (n := "range_iterator") st' rfl rfl (by decide) ⟨.int (lo + i), H, I1, ⟨t, ?_⟩, ⟨rfl, rfl⟩, st', fun b hb => (hf b hb).1⟩⟩
    rw [Int.mul_one]
  done := by
    intro X hP hw hK hc i pins s σ H E I hf st hg
    subst hP hw hK
    obtain ⟨f0, f1, f2, f3, f4, f5⟩ := hf it (by simp)
    exact wpAny_pyNext_range_end (I.ok.hd hc) st (by have : n ≤ i := hg; omega) fun h' eb => ⟨rfl, I.turned (t' := s.toks) (fun b o hb e => eb b o hb e) f0 f1 f3 f4 f5⟩
  self := fun _ _ _ _ _ st h => wpAny_pyIter_rangeiter st h
section
variable {X : Cx} {tg : Expr}
def zcD (K : PySem.W.Frag) (tl : TE) : TI := fun σ H R => tl σ H fun x H1 => ∃ a, x = .ref a ∧ (∃ xs, SqL K H1 a xs) ∧ R (Itl K a) H1
theorem zcb {l : Expr} {tl : TE} (hl : PE X l tl) : PI X tg l (zcD X.K tl) := by
  intro pins s σ H R I h
  refine thn (hl pins s σ H _ I h) fun v s1 ⟨x, H1, I1, r1, q1⟩ => ?_
  obtain ⟨a, e, ⟨xs, hq⟩, q⟩ := q1
  subst e
  cases r1
  obtain ⟨its, rv, p, hz⟩ := I1.list hq
  refine wpAny_pyIter_list p.isList ?_
  refine ⟨s1.heap.objs.size, [s1.heap.objs.size], _, _, H1, rfl, I1.kept (t' := s1.toks) fun b o e => Heap.get?_push_of_some _ e, zaP a _, ⟨_, Heap.get?_push_size _ rfl, rfl, rfl⟩, fun b hb => ?_, q⟩
  have e : b = s1.heap.objs.size := by simpa using hb
  subst e
  exact I1.fpOk (Nat.le_refl _) (I1.hok.fresh (Nat.le_refl _))
theorem QW {pins : List (Addr × Obj)} {σ : St} {H : Hp} {s : Shared} {R : It → Hp → Prop} {E : Value → Shared → Prop} {lo hi : Int} {t u v : Tok} {tk : Nat} (I : Inv X pins σ H s) (h1 : -(2 ^ 62) ≤ lo) (h2 : lo < 2 ^ 62) (h3 : -(2 ^ 62) ≤ hi) (h4 : hi < 2 ^ 62)
    (q : R (Itr lo (hi - lo).toNat) H) : wpAny (model X.prog X.w) X.A (pyIter (.ref s.heap.objs.size)) (PIE X pins σ tg R) E { s with heap := s.heap.push { cls := .type "range", data := .fields #[.int lo t, .int hi u, .int 1 v] }, toks := tk } := by
  refine wpAny_pyIter_range (IsRange.new ..) (small_one h1 h2 h3 h4) ?_
  have I1 : Inv X pins σ H { s with heap := s.heap.push { cls := .type "range", data := .fields #[.int lo t, .int hi u, .int 1 v] }, toks := tk } := I.kept fun b o e => Heap.get?_push_of_some _ e
  refine ⟨(s.heap.push { cls := .type "range", data := .fields #[.int lo t, .int hi u, .int 1 v] }).objs.size, [(s.heap.push { cls := .type "range", data := .fields #[.int lo t, .int hi u, .int 1 v] }).objs.size], _, _, H, rfl,
    I1.kept (t' := tk) fun b o e => Heap.get?_push_of_some _ e, Jw _ lo (hi - lo).toNat, ?_, fun b hb => ?_, q⟩
  · have e1 : lo + ((0 : Nat) : Int) * 1 = lo := by simp
    have e2 : (((hi - lo).toNat : Nat) : Int) - ((0 : Nat) : Int) = Builtin.Range.rangeSize lo hi 1 := by rw [rangeSize_one]; split <;> omega
    show IsRangeIter _ _ (lo + ((0 : Nat) : Int) * 1) ((((hi - lo).toNat : Nat) : Int) - ((0 : Nat) : Int)) 1
    rw [e1, e2]
    exact Heap.get?_push_size _ rfl
  · have e : b = (s.heap.push { cls := .type "range", data := .fields #[.int lo t, .int hi u, .int 1 v] }).objs.size := by simpa using hb
    subst e
    exact I1.fpOk (Nat.le_refl _) (I1.hok.fresh (Nat.le_refl _))
def zdO (ta : TA) : TI := fun σ H R => ta σ H fun vs H1 => ∃ j : Int, vs = [.int j] ∧ -(2 ^ 62) ≤ j ∧ j < 2 ^ 62 ∧ R (Itr 0 j.toNat) H1
def zdU (ta : TA) : TI := fun σ H R => ta σ H fun vs H1 => ∃ i j : Int, vs = [.int i, .int j] ∧ (-(2 ^ 62) ≤ i ∧ i < 2 ^ 62 ∧ -(2 ^ 62) ≤ j ∧ j < 2 ^ 62) ∧ R (Itr i (j - i).toNat) H1
theorem yp {a : Expr} {ta : TA} {p pos : Pos} (hg : Gl X "range") (hm : X.mg "range" = none) (ha : PA X [a] ta) (hs : starEach [a] X.env = [(false, eval a X.env)] := by rfl) : PI X tg (.Call (.Name "range" p) [a] [] pos) (zdO ta) := by
  intro pins s σ H R I h
  refine Call_ (Z9 I hg hm boot_range (PyProof.Rows.callWith_type1 (thn (ha pos pins s σ H _ I h) fun us s1 ⟨vs, H1, I1, r1, q1⟩ => ?_) hs rfl))
  obtain ⟨j, e, q1, q2, q⟩ := q1
  subst e
  cases r1 with
  | cons r rr =>
    cases rr
    obtain ⟨t, rfl⟩ := r
    exact call_range_1 (QW I1 (by omega) (by omega) q1 q2 (by simpa using q))
theorem V9 {a b : Expr} {ta : TA} {p pos : Pos} (hg : Gl X "range") (hm : X.mg "range" = none) (ha : PA X [a, b] ta) (hs : starEach [a, b] X.env = [(false, eval a X.env), (false, eval b X.env)] := by rfl) (hs2 : starEach [b] X.env = [(false, eval b X.env)] := by rfl) :
    PI X tg (.Call (.Name "range" p) [a, b] [] pos) (zdU ta) := by
  intro pins s σ H R I h
  refine Call_ (Z9 I hg hm boot_range (PyProof.Rows.callWith_type1 (thn (ha pos pins s σ H _ I h) fun us s1 ⟨vs, H1, I1, r1, q1⟩ => ?_) (by rw [hs, hs2]) (by rw [hs2]; rfl)))
  obtain ⟨i, j, e, ⟨q1, q2, q3, q4⟩, q⟩ := q1
  subst e
  cases r1 with
  | cons r rr =>
    cases rr with
    | cons r' rr =>
      cases rr
      obtain ⟨t, rfl⟩ := r
      obtain ⟨t', rfl⟩ := r'
      exact call_range_2 (QW I1 q1 q2 q3 q4 q)
def zd9 (wi : TI) (g : TG) (tb : TS) : TS := fun D σ H => wi σ H fun J H1 => ∃ W : Nat → Nat → St → Hp → Prop, (∃ m, W 0 m σ H1) ∧ ∀ i m σ H, W i m σ H →
  (J.stop i H ∧ D.nx σ H) ∨ (J.go i H ∧ ∃ N : St → Hp → Prop, (∀ σ' H', N σ' H' → ∃ m', m' < m ∧ W (i + 1) m' σ' H') ∧ ∀ x H', J.yld i H x H' → g x σ H' fun σ2 H2 => tb { D with nx := N, ct := N, bk := D.nx } σ2 H2)
def Zd (fp : List Addr) (h : Heap) : List (Addr × Obj) := fp.filterMap fun b => (h.get? b).map fun o => (b, o)
theorem jM {fp : List Addr} {h : Heap} {b : Addr} {o : Obj} (hb : b ∈ fp) (e : h.get? b = some o) : (b, o) ∈ Zd fp h := List.mem_filterMap.mpr ⟨b, hb, by rw [e]; rfl⟩
theorem zaK {fp : List Addr} {h : Heap} {p : Addr × Obj} (hp : p ∈ Zd fp h) : p.1 ∈ fp ∧ h.get? p.1 = some p.2 := by
  obtain ⟨b, hb, e⟩ := List.mem_filterMap.mp hp
  cases q : h.get? b with
  | none => rw [q] at e; cases e
  | some o =>
    rw [q] at e
    have e' : (b, o) = p := Option.some.inj e
    subst e'
    exact ⟨hb, q⟩
theorem Inv.pinned {pins : List (Addr × Obj)} {σ : St} {H : Hp} {s : Shared} {fp : List Addr} (I : Inv X pins σ H s) (hf : ∀ b ∈ fp, XM X pins H b) (ho : ∀ b ∈ fp, ∃ o, s.heap.get? b = some o ∧ ∀ v, o.data ≠ .cell v) : Inv X (pins ++ Zd fp s.heap) σ H s :=
  I.pins_of fun p hp => (List.mem_append.mp hp).elim (fun z => I.pin p (List.mem_append_right _ z)) fun z => by
    obtain ⟨hb, e⟩ := zaK z
    obtain ⟨f0, f1, f2, _⟩ := hf p.1 hb
    obtain ⟨o, e', d⟩ := ho p.1 hb
    rw [e] at e'; cases e'
    exact ⟨e, f0, f1, f2, d⟩
theorem Inv.unpinned {pins pl : List (Addr × Obj)} {σ : St} {H : Hp} {s : Shared} (I : Inv X (pins ++ pl) σ H s) : Inv X pins σ H s := I.pins_of fun p hp => I.pin p (List.mem_append_right _ (List.mem_append_left _ hp))
theorem vY {iter : Expr} {body : List Stmt} {wi : TI} {g : TG} {tb : TS} {pos : Pos} (hp : PassesOwn (model X.prog X.w) X.A X.env X.xe) (hc : X.calm = true) (hi : PI X tg iter wi) (hg : PG X tg g) (hb : PSs X body tb)
    (hs : ∀ x, foldedSetIterable iter X.env x = pure x := by intro _; rfl) : PS X (.For tg iter body [] pos) (zd9 wi g tb) := by
  intro pins s σ H D I h
  refine wpAny_For (thn (hi pins s σ H _ I h) fun v s1 h1 => thn h1 fun itv s2 h2 => ?_) hs
  obtain ⟨it, fp, tn, J, H2, e, I2, T, st2, f2, W, ⟨m0, w0⟩, turn⟩ := h2
  subst e
  have stat : ∀ {H' : Hp}, (∀ b ∈ fp, H' b = none) → ∀ b ∈ fp, XM X pins H' b := fun hn b hb => ⟨hn b hb, (f2 b hb).2⟩
  refine codeAny_forLoop_any (fun n s' => ∃ i σ' H', Inv X pins σ' H' s' ∧ tn i s'.heap ∧ (∀ b ∈ fp, H' b = none) ∧ W i n σ' H') ?_ m0 ⟨0, σ, H2, I2, st2, fun b hb => (f2 b hb).1, w0⟩
  rintro n s3 ⟨i, σ3, H3, I3, st3, fr3, w3⟩
  rcases turn i n σ3 H3 w3 with ⟨stop, qn⟩ | ⟨go, N, hN, step⟩
  · refine wpAny_passesOwn hp (thn (T.done X rfl rfl rfl hc i pins s3 σ3 H3 X.xe I3 (stat fr3) st3 stop) fun r s4 ⟨hr, I4⟩ => ?_)
    subst hr
    exact wpAny_execs_nil ⟨σ3, H3, I4, qn⟩
  · refine wpAny_passesOwn hp (thn (T.item X rfl rfl rfl hc i pins s3 σ3 H3 X.xe I3 (stat fr3) st3 go) fun r s4 ⟨u, hr, h4⟩ => ?_)
    subst hr
    refine wpAny_passesOwn hp (thn h4 fun _ s5 ⟨x, H5, I5, r5, y5, st5, fr5⟩ => ?_)
    have I5' := I5.pinned (stat fr5) (T.obj _ _ st5)
    refine wpAny_passesOwn hp (thn (hg _ s5 σ3 H5 x u _ I5' r5 (step x H5 y5)) fun _ s6 ⟨σ6, H6, I6, q6⟩ => ?_)
    refine wpAny_passesOwn hp (thn (hb _ s6 σ6 H6 _ I6 q6) fun f s7 q7 => ?_)
    have again : ∀ {σ7 : St} {H7 : Hp}, Inv X (pins ++ Zd fp s5.heap) σ7 H7 s7 → N σ7 H7 → ∃ m, m < n ∧ ∃ i σ' H', Inv X pins σ' H' s7 ∧ tn i s7.heap ∧ (∀ b ∈ fp, H' b = none) ∧ W i m σ' H' := fun {σ7 H7} I7 n7 => by
      obtain ⟨m', hm, w7⟩ := hN σ7 H7 n7
      refine ⟨m', hm, i + 1, σ7, H7, I7.unpinned, T.keep _ _ _ st5 fun b hb o e => (I7.pin (b, o) (List.mem_append_right _ (List.mem_append_right _ (jM hb e)))).1, fun b hb => ?_, w7⟩
      obtain ⟨o, e, d⟩ := T.obj _ _ st5 b hb
      exact (I7.pin (b, o) (List.mem_append_right _ (List.mem_append_right _ (jM hb e)))).2.1
    cases f with
    | next => obtain ⟨σ7, H7, I7, n7⟩ := q7; exact again I7 n7
    | cont => obtain ⟨σ7, H7, I7, n7⟩ := q7; exact again I7 n7
    | brk => obtain ⟨σ7, H7, I7, q7⟩ := q7; exact ⟨σ7, H7, I7.unpinned, q7⟩
    | ret v => obtain ⟨x7, σ7, H7, I7, r7, q7⟩ := q7; exact ⟨x7, σ7, H7, I7.unpinned, r7, q7⟩
end
theorem Qy {K : PySem.W.Frag} {a : Addr} {xs : List V} {g : TG} {tb : TS} {D : Ends} {σ : St} {H : Hp} (Pv : Nat → St → Hp → Prop) (h0 : Pv 0 σ H) (hl : ∀ i σ H, i ≤ xs.length → Pv i σ H → SqL K H a xs)
    (hs : ∀ i x σ H, xs[i]? = some x → Pv i σ H → g x σ H fun σ2 H2 => tb { D with nx := Pv (i + 1), ct := Pv (i + 1), bk := D.nx } σ2 H2) (hd : ∀ σ H, Pv xs.length σ H → D.nx σ H) :
    ∃ W : Nat → Nat → St → Hp → Prop, (∃ m, W 0 m σ H) ∧ ∀ i m σ H, W i m σ H →
      ((Itl K a).stop i H ∧ D.nx σ H) ∨ ((Itl K a).go i H ∧ ∃ N : St → Hp → Prop, (∀ σ' H', N σ' H' → ∃ m', m' < m ∧ W (i + 1) m' σ' H') ∧ ∀ x H', (Itl K a).yld i H x H' → g x σ H' fun σ2 H2 => tb { D with nx := N, ct := N, bk := D.nx } σ2 H2) := by
  refine ⟨fun i m σ H => m = xs.length - i ∧ i ≤ xs.length ∧ Pv i σ H, ⟨xs.length, by simp, Nat.zero_le _, h0⟩, ?_⟩
  rintro i m σ H ⟨rfl, hi, p⟩
  have q := hl i σ H hi p
  by_cases hlt : i < xs.length
  · refine .inr ⟨⟨xs, xs[i], q, by simp [hlt]⟩, Pv (i + 1), fun σ' H' p' => ⟨xs.length - (i + 1), by omega, rfl, hlt, p'⟩, fun x H' y => ?_⟩
    obtain ⟨e, y⟩ := y
    subst e
    exact hs i x σ _ (y xs q) p
  · have e : i = xs.length := by omega
    subst e
    exact .inl ⟨⟨xs, q, Nat.le_refl _⟩, hd σ H p⟩
theorem wF {lo : Int} {n : Nat} {g : TG} {tb : TS} {D : Ends} {σ : St} {H : Hp} (Pv : Nat → St → Hp → Prop) (h0 : Pv 0 σ H)
    (hs : ∀ i σ H, i < n → Pv i σ H → g (.int (lo + i)) σ H fun σ2 H2 => tb { D with nx := Pv (i + 1), ct := Pv (i + 1), bk := D.nx } σ2 H2) (hd : ∀ σ H, Pv n σ H → D.nx σ H) :
    ∃ W : Nat → Nat → St → Hp → Prop, (∃ m, W 0 m σ H) ∧ ∀ i m σ H, W i m σ H →
      ((Itr lo n).stop i H ∧ D.nx σ H) ∨ ((Itr lo n).go i H ∧ ∃ N : St → Hp → Prop, (∀ σ' H', N σ' H' → ∃ m', m' < m ∧ W (i + 1) m' σ' H') ∧ ∀ x H', (Itr lo n).yld i H x H' → g x σ H' fun σ2 H2 => tb { D with nx := N, ct := N, bk := D.nx } σ2 H2) := by
  refine ⟨fun i m σ H => m = n - i ∧ i ≤ n ∧ Pv i σ H, ⟨n, by simp, Nat.zero_le _, h0⟩, ?_⟩
  rintro i m σ H ⟨rfl, hi, p⟩
  by_cases hlt : i < n
  · refine .inr ⟨hlt, Pv (i + 1), fun σ' H' p' => ⟨n - (i + 1), by omega, rfl, hlt, p'⟩, fun x H' y => ?_⟩
    obtain ⟨e, y⟩ := y
    subst e y
    exact hs i σ _ hlt p
  · have e : i = n := by omega
    subst e
    exact .inl ⟨Nat.le_refl _, hd σ H p⟩
theorem W3 {c : TT} {tb : TS} {D : Ends} {σ : St} {H : Hp} (Pv : St → Hp → Prop) (μ : St → Hp → Nat) (h0 : Pv σ H)
    (hs : ∀ σ H, Pv σ H → c σ H fun b H1 => if b = true then tb { D with nx := fun σ' H' => Pv σ' H' ∧ μ σ' H' < μ σ H, ct := fun σ' H' => Pv σ' H' ∧ μ σ' H' < μ σ H, bk := D.nx } σ H1 else D.nx σ H1)
    (mono : ∀ σ H Q Q', (∀ b H1, Q b H1 → Q' b H1) → c σ H Q → c σ H Q') : Jx c tb D σ H := by
  refine ⟨fun m σ H => m = μ σ H ∧ Pv σ H, ⟨_, rfl, h0⟩, ?_⟩
  rintro m σ H ⟨rfl, p⟩
  refine mono σ H _ _ (fun b H1 q => ?_) (hs σ H p)
  cases b with
  | true => exact ⟨_, fun σ' H' ⟨p', l⟩ => ⟨_, l, rfl, p'⟩, q⟩
  | false => exact q
abbrev R2 := V → V → Hp → VK → Prop
def OpR (X : Cx) (f : Value → Value → Sem Value) (r : R2) : Prop :=
  ∀ (pins : List (Addr × Obj)) (s : Shared) (σ : St) (H : Hp) (x y : V) (v u : Value) (Q : VK), Inv X pins σ H s → RelV x v → RelV y u → r x y H Q →
    wpAny (model X.prog X.w) X.A (f v u) (EP X pins σ Q) X.xe s
def UnR (X : Cx) (f : Value → Sem Value) (r : V → Hp → VK → Prop) : Prop :=
  ∀ (pins : List (Addr × Obj)) (s : Shared) (σ : St) (H : Hp) (x : V) (v : Value) (Q : VK), Inv X pins σ H s → RelV x v → r x H Q →
    wpAny (model X.prog X.w) X.A (f v) (EP X pins σ Q) X.xe s
def wM (X : Cx) (f : Value) (r : List V → Hp → VK → Prop) : Prop :=
  ∀ (pins : List (Addr × Obj)) (s : Shared) (σ : St) (H : Hp) (xs : List V) (us : List Value) (Q : VK), Inv X pins σ H s → Vals xs us → r xs H Q →
    wpAny (model X.prog X.w) X.A (call f us) (EP X pins σ Q) X.xe s
def tOp (r : R2) (ta tb : TE) : TE := fun σ H Q => ta σ H fun x H1 => tb σ H1 fun y H2 => r x y H2 Q
def tUn (r : V → Hp → VK → Prop) (ta : TE) : TE := fun σ H Q => ta σ H fun x H1 => r x H1 Q
def rI (C : Int → Int → Prop) (g : Int → Int → V) : R2 := fun x y H Q => ∃ i j, x = .int i ∧ y = .int j ∧ C i j ∧ Q (g i j) H
def rI0 (g : Int → Int → V) : R2 := fun x y H Q => ∃ i j, x = .int i ∧ y = .int j ∧ Q (g i j) H
def rU (g : Int → V) : V → Hp → VK → Prop := fun x H Q => ∃ i, x = .int i ∧ Q (g i) H
section
variable {X : Cx} {a b c : Expr} {ta tb tc : TE} {pos : Pos}
theorem zc9 (ha : PE X a ta) (hb : PE X b tb) {pins : List (Addr × Obj)} {s : Shared} {σ : St} {H : Hp} {R : V → V → Hp → Prop} (I : Inv X pins σ H s)
    (h : ta σ H fun x H1 => tb σ H1 fun y H2 => R x y H2) {Q : Value → Shared → Prop} {f : Value → Value → Sem Value}
    (hf : ∀ v u s2 x y H2, Inv X pins σ H2 s2 → RelV x v → RelV y u → R x y H2 → wpAny (model X.prog X.w) X.A (f v u) Q X.xe s2) :
    wpAny (model X.prog X.w) X.A (eval a X.env) (fun v s₁ => wpAny (model X.prog X.w) X.A (eval b X.env) (fun u s₂ => wpAny (model X.prog X.w) X.A (f v u) Q X.xe s₂) X.xe s₁) X.xe s := by
  refine thn (ha pins s σ H _ I h) fun v s1 ⟨x, H1, I1, r1, q1⟩ => ?_
  refine thn (hb pins s1 σ H1 _ I1 q1) fun u s2 ⟨y, H2, I2, r2, q2⟩ => ?_
  exact hf v u s2 x y H2 I2 r1 r2 q2
theorem zK {op : Operator} {r : R2} (ho : OpR X (binaryOp op) r) (ha : PE X a ta) (hb : PE X b tb) : PE X (.BinOp a op b pos) (tOp r ta tb) := by
  intro pins s σ H Q I h
  exact wpAny_BinOp (zc9 ha hb I h fun v u s2 x y H2 I2 rx ry q => ho pins s2 σ H2 x y v u Q I2 rx ry q)
theorem Xp {op : UnaryOp} {r : V → Hp → VK → Prop} (ho : UnR X (unaryOp op) r) (ha : PE X a ta) : PE X (.UnaryOp op a pos) (tUn r ta) := by
  intro pins s σ H Q I h
  exact UnaryOp_ (thn (ha pins s σ H _ I h) fun v s1 ⟨x, H1, I1, r1, q1⟩ => ho pins s1 σ H1 x v Q I1 r1 q1)
theorem opI {f : Value → Value → Sem Value} {C : Int → Int → Prop} {g : Int → Int → Int}
    (rule : ∀ (i j : Int) (t u : Tok) (s : Shared) (Q : Value → Shared → Prop) (E : Value → Shared → Prop), C i j → Q (.int (g i j) s.toks) { s with toks := s.toks + 1 } → wpAny (model X.prog X.w) X.A (f (.int i t) (.int j u)) Q E s) :
    OpR X f (rI C fun i j => .int (g i j)) := by
  intro pins s σ H x y v u Q I rx ry h
  obtain ⟨i, j, rfl, rfl, hc, q⟩ := h
  obtain ⟨t, rfl⟩ := rx
  obtain ⟨t', rfl⟩ := ry
  exact rule i j t t' s _ _ hc ⟨.int (g i j), H, I.tok _, ⟨_, rfl⟩, q⟩
theorem zdY {f : Value → Value → Sem Value} {g : Int → Int → Int}
    (rule : ∀ (i j : Int) (t u : Tok) (s : Shared) (Q : Value → Shared → Prop) (E : Value → Shared → Prop), Q (.int (g i j) s.toks) { s with toks := s.toks + 1 } → wpAny (model X.prog X.w) X.A (f (.int i t) (.int j u)) Q E s) :
    OpR X f (rI0 fun i j => .int (g i j)) := by
  intro pins s σ H x y v u Q I rx ry h
  obtain ⟨i, j, rfl, rfl, q⟩ := h
  obtain ⟨t, rfl⟩ := rx
  obtain ⟨t', rfl⟩ := ry
  exact rule i j t t' s _ _ ⟨.int (g i j), H, I.tok _, ⟨_, rfl⟩, q⟩
theorem zbW {f : Value → Value → Sem Value} {g : Int → Int → Bool}
    (rule : ∀ (i j : Int) (t u : Tok) (s : Shared) (Q : Value → Shared → Prop) (E : Value → Shared → Prop), Q (.bool (g i j)) s → wpAny (model X.prog X.w) X.A (f (.int i t) (.int j u)) Q E s) :
    OpR X f (rI0 fun i j => .bl (g i j)) := by
  intro pins s σ H x y v u Q I rx ry h
  obtain ⟨i, j, rfl, rfl, q⟩ := h
  obtain ⟨t, rfl⟩ := rx
  obtain ⟨t', rfl⟩ := ry
  exact rule i j t t' s _ _ ⟨.bl (g i j), H, I, rfl, q⟩
def zec (i j : Int) : Prop := 0 ≤ j ∧ j ≤ 1000000 ∧ i.natAbs < 2 ^ 64
def CMul (i j : Int) : Prop := (-(2 ^ 64) < i ∧ i < 2 ^ 64) ∨ (-(2 ^ 64) < j ∧ j < 2 ^ 64)
theorem CMul.ok {i j : Int} (h : CMul i j) : IntMulOk i j := by
  rcases h with ⟨h1, h2⟩ | ⟨h1, h2⟩
  · exact .of_left (intBits_le_64 h1 h2)
  · exact .of_right (intBits_le_64 h1 h2)
theorem yz : OpR X (binaryOp .Add) (rI0 fun i j => .int (i + j)) := zdY fun _ _ _ _ _ _ _ q => add_int q
theorem Zk : OpR X (binaryOp .Sub) (rI0 fun i j => .int (i - j)) := zdY fun _ _ _ _ _ _ _ q => sub_int q
theorem jZ : OpR X (binaryOp .Mult) (rI CMul fun i j => .int (i * j)) := opI fun _ _ _ _ _ _ _ hc q => mul_int q hc.ok
theorem Ym : OpR X (binaryOp .Mod) (rI (fun _ j => 0 < j) fun i j => .int (i % j)) := opI fun i j _ _ _ _ _ hc q => by
  have h1 : (0 : Int) < j := hc
  exact mod_int' (by omega) (by rw [Int.fmod_eq_emod_of_nonneg i (by omega)]; exact q)
theorem zdg : OpR X (binaryOp .Pow) (rI zec fun i j => .int (i ^ j.toNat)) := opI fun _ _ _ _ _ _ _ hc q => pow_int_small hc.1 hc.2.1 hc.2.2 q
theorem unI {f : Value → Sem Value} {g : Int → Int}
    (rule : ∀ (i : Int) (t : Tok) (s : Shared) (Q : Value → Shared → Prop) (E : Value → Shared → Prop), Q (.int (g i) s.toks) { s with toks := s.toks + 1 } → wpAny (model X.prog X.w) X.A (f (.int i t)) Q E s) :
    UnR X f (rU fun i => .int (g i)) := by
  intro pins s σ H x v Q I rx h
  obtain ⟨i, rfl, q⟩ := h
  obtain ⟨t, rfl⟩ := rx
  exact rule i t s _ _ ⟨.int (g i), H, I.tok _, ⟨_, rfl⟩, q⟩
theorem Zn : UnR X (unaryOp .USub) (rU fun i => .int (-i)) := unI fun _ _ _ _ _ q => neg_int q
end
def zdR : V → V → Bool
  | .non, .non => true | .non, .int _ => true | .int _, .non => true | .non, .bl _ => true | .bl _, .non => true | .non, .str _ => true | .str _, .non => true
  | .int _, .int _ => true | .bl _, .bl _ => true | .str _, .str _ => true | .byt _, .byt _ => true
  | .int _, .str _ => true | .str _, .int _ => true | .bl _, .str _ => true | .str _, .bl _ => true
  | _, _ => false
def rEq : R2 := fun x y H Q => zdR x y = true ∧ Q (.bl (decide (x = y))) H
def rNe : R2 := fun x y H Q => zdR x y = true ∧ Q (.bl (!decide (x = y))) H
theorem JV {i j : Int} : decide (V.int i = V.int j) = (i == j) := by
  rw [Bool.eq_iff_iff]
  simp
theorem zbz {i j : Bool} : decide (V.bl i = V.bl j) = (i == j) := by
  rw [Bool.eq_iff_iff]
  simp
theorem JX {i j : Str} : decide (V.str i = V.str j) = (i == j) := by
  rw [Bool.eq_iff_iff]
  simp
theorem J6 {i j : Array UInt8} : decide (V.byt i = V.byt j) = (i.toList == j.toList) := by
  rw [Bool.eq_iff_iff]
  cases i
  cases j
  simp
section
variable {X : Cx} {a b c : Expr} {ta tb tc : TE} {pos : Pos}
theorem yf {pins : List (Addr × Obj)} {σ : St} {H : Hp} {s : Shared} {Q : VK} {k k' : Bool} (I : Inv X pins σ H s) (q : Q (.bl k) H) (e : k = k') : EP X pins σ Q (.bool k') s := by
  subst e
  exact ⟨.bl k, H, I, rfl, q⟩
theorem ZX : OpR X (compareOp .Eq) rEq := by
  intro pins s σ H x y v u Q I rx ry h
  obtain ⟨hs, q⟩ := h
  cases x with
  | non =>
    cases rx
    cases y with
    | non => cases ry; exact PySem.EqNone.eq_none_none (yf I q (by simp))
    | bl j => cases ry; exact PySem.EqNone.eq_none_bool (yf I q (by simp))
    | int j => obtain ⟨t', rfl⟩ := ry; exact PySem.EqNone.eq_none_int (yf I q (by simp))
    | str j => obtain ⟨t', rfl⟩ := ry; exact PySem.EqNone.eq_none_str (yf I q (by simp))
    | _ => exact absurd (show false = true from hs) Bool.false_ne_true
  | bl i =>
    cases rx
    cases y with
    | non => cases ry; exact PySem.EqNone.eq_bool_none (yf I q (by simp))
    | bl j => cases ry; exact eq_bool (yf I q zbz)
    | str j => obtain ⟨t', rfl⟩ := ry; exact PySem.EqMixed.eq_bool_str (yf I q (by simp))
    | _ => exact absurd (show false = true from hs) Bool.false_ne_true
  | int i =>
    obtain ⟨t, rfl⟩ := rx
    cases y with
    | non => cases ry; exact PySem.EqNone.eq_int_none (yf I q (by simp))
    | int j => obtain ⟨t', rfl⟩ := ry; exact eq_int (yf I q JV)
    | str j => obtain ⟨t', rfl⟩ := ry; exact PySem.EqMixed.eq_int_str (yf I q (by simp))
    | _ => exact absurd (show false = true from hs) Bool.false_ne_true
  | str i =>
    obtain ⟨t, rfl⟩ := rx
    cases y with
    | non => cases ry; exact PySem.EqNone.eq_str_none (yf I q (by simp))
    | bl j => cases ry; exact PySem.EqMixed.eq_str_bool (yf I q (by simp))
    | int j => obtain ⟨t', rfl⟩ := ry; exact PySem.EqMixed.eq_str_int (yf I q (by simp))
    | str j => obtain ⟨t', rfl⟩ := ry; exact eq_str (yf I q JX)
    | _ => exact absurd (show false = true from hs) Bool.false_ne_true
  | byt i =>
    obtain ⟨t, rfl⟩ := rx
    cases y with
    | byt j => obtain ⟨t', rfl⟩ := ry; exact PySem.W.eq_bytes (yf I q J6)
    | _ => exact absurd (show false = true from hs) Bool.false_ne_true
  | _ => cases y <;> exact absurd (show false = true from hs) Bool.false_ne_true
theorem zdG : OpR X (compareOp .NotEq) rNe := by
  intro pins s σ H x y v u Q I rx ry h
  obtain ⟨hs, q⟩ := h
  cases x with
  | non =>
    cases rx
    cases y with
    | non => cases ry; exact PySem.EqNone.ne_none_none (yf I q (by simp))
    | bl j => cases ry; exact PySem.EqNone.ne_none_bool (yf I q (by simp))
    | int j => obtain ⟨t', rfl⟩ := ry; exact PySem.EqNone.ne_none_int (yf I q (by simp))
    | str j => obtain ⟨t', rfl⟩ := ry; exact PySem.EqNone.ne_none_str (yf I q (by simp))
    | _ => exact absurd (show false = true from hs) Bool.false_ne_true
  | bl i =>
    cases rx
    cases y with
    | non => cases ry; exact PySem.EqNone.ne_bool_none (yf I q (by simp))
    | bl j => cases ry; exact ne_bool (yf I q (congrArg not zbz))
    | str j => obtain ⟨t', rfl⟩ := ry; exact PySem.EqMixed.ne_bool_str (yf I q (by simp))
    | _ => exact absurd (show false = true from hs) Bool.false_ne_true
  | int i =>
    obtain ⟨t, rfl⟩ := rx
    cases y with
    | non => cases ry; exact PySem.EqNone.ne_int_none (yf I q (by simp))
    | int j => obtain ⟨t', rfl⟩ := ry; exact ne_int (yf I q (congrArg not JV))
    | str j => obtain ⟨t', rfl⟩ := ry; exact PySem.EqMixed.ne_int_str (yf I q (by simp))
    | _ => exact absurd (show false = true from hs) Bool.false_ne_true
  | str i =>
    obtain ⟨t, rfl⟩ := rx
    cases y with
    | non => cases ry; exact PySem.EqNone.ne_str_none (yf I q (by simp))
    | bl j => cases ry; exact PySem.EqMixed.ne_str_bool (yf I q (by simp))
    | int j => obtain ⟨t', rfl⟩ := ry; exact PySem.EqMixed.ne_str_int (yf I q (by simp))
    | str j => obtain ⟨t', rfl⟩ := ry; exact ne_str (yf I q (congrArg not JX))
    | _ => exact absurd (show false = true from hs) Bool.false_ne_true
  | byt i =>
    obtain ⟨t, rfl⟩ := rx
    cases y with
    | byt j => obtain ⟨t', rfl⟩ := ry; exact PySem.W.ne_bytes (yf I q (congrArg not J6))
    | _ => exact absurd (show false = true from hs) Bool.false_ne_true
  | _ => cases y <;> exact absurd (show false = true from hs) Bool.false_ne_true
theorem zcJ : OpR X (compareOp .Lt) (rI0 fun i j => .bl (decide (i < j))) := zbW fun _ _ _ _ _ _ _ q => lt_int q
theorem Yw : OpR X (compareOp .LtE) (rI0 fun i j => .bl (decide (i ≤ j))) := zbW fun _ _ _ _ _ _ _ q => le_int q
theorem JZ : OpR X (compareOp .Gt) (rI0 fun i j => .bl (decide (j < i))) := zbW fun _ _ _ _ _ _ _ q => gt_int q
theorem zcF : OpR X (compareOp .GtE) (rI0 fun i j => .bl (decide (j ≤ i))) := zbW fun _ _ _ _ _ _ _ q => ge_int q
theorem zcS : OpR X (compareOp .Is) (fun x y H Q => y = .non ∧ Q (.bl (decide (x = .non))) H) := by
  intro pins s σ H x y v u Q I rx ry h
  obtain ⟨rfl, q⟩ := h
  cases ry
  refine is_none_gen (yf I q ?_)
  cases x <;> first
    | (cases rx; rfl)
    | (obtain ⟨t, rfl⟩ := rx; rfl)
theorem Wb : OpR X (compareOp .IsNot) (fun x y H Q => y = .non ∧ Q (.bl (!decide (x = .non))) H) := by
  intro pins s σ H x y v u Q I rx ry h
  obtain ⟨rfl, q⟩ := h
  cases ry
  refine isnot_none_gen (yf I q ?_)
  cases x <;> first
    | (cases rx; rfl)
    | (obtain ⟨t, rfl⟩ := rx; rfl)
theorem zT (b : Expr) {op : CmpOp} (h : op ≠ .In := by decide) (h2 : op ≠ .NotIn := by decide) : behindInMarks op b = false := by
  have e1 : (op == CmpOp.In) = false := by cases op <;> first | rfl | exact absurd rfl h
  have e2 : (op == CmpOp.NotIn) = false := by cases op <;> first | rfl | exact absurd rfl h2
  cases b <;> simp [behindInMarks, e1, e2]
theorem qu {op : CmpOp} {r : R2} (ho : OpR X (compareOp op) r) (ha : PE X a ta) (hb : PE X b tb) (hm : behindInMarks op b = false) : PE X (.Compare a [op] [b] pos) (tOp r ta tb) := by
  intro pins s σ H Q I h
  exact wpAny_Compare1 (zc9 ha hb I h fun v u s2 x y H2 I2 rx ry q => ho pins s2 σ H2 x y v u Q I2 rx ry q) hm
def zcH (t : TE) : TT := fun σ H Q => t σ H fun x H' => ∃ k, x = .bl k ∧ Q k H'
theorem zO {op : CmpOp} {r : R2} (ho : OpR X (compareOp op) r) (ha : PE X a ta) (hb : PE X b tb) (hm : behindInMarks op b = false) : PT X (.Compare a [op] [b] pos) (zcH (tOp r ta tb)) := by
  intro pins s σ H Q I h
  refine wpAny_isTrue_Compare1 (thn (ha pins s σ H _ I h) fun v s1 ⟨x, H1, I1, r1, q1⟩ => thn (hb pins s1 σ H1 _ I1 q1) fun u s2 ⟨y, H2, I2, r2, q2⟩ =>
    thn (ho pins s2 σ H2 x y v u _ I2 r1 r2 q2) fun c s3 ⟨z, H3, I3, r3, k, e, q3⟩ => ?_) hm
  subst e
  cases r3
  exact wpAny_truthy_bool ⟨H3, I3, q3⟩
def zbR (r r' : R2) (ta tb tc : TE) : TE := fun σ H Q => ta σ H fun x H1 => tb σ H1 fun y H2 => r x y H2 fun z H3 => ∃ k, z = .bl k ∧
  (if k = true then tc σ H3 fun w' H4 => r' y w' H4 Q else Q (.bl false) H3)
theorem Vd {op op' : CmpOp} {r r' : R2} (ho : OpR X (compareOp op) r) (ho' : OpR X (compareOp op') r') (ha : PE X a ta) (hb : PE X b tb) (hc : PE X c tc)
    (hm : lastMarks [op, op'] [b, c] = false := by with_unfolding_all rfl) : PE X (.Compare a [op, op'] [b, c] pos) (zbR r r' ta tb tc) := by
  intro pins s σ H Q I h
  refine Compare_chain (thn (ha pins s σ H _ I h) fun v s1 ⟨x, H1, I1, r1, q1⟩ => chain_link (thn (hb pins s1 σ H1 _ I1 q1) fun u s2 ⟨y, H2, I2, r2, q2⟩ =>
    thn (ho pins s2 σ H2 x y v u _ I2 r1 r2 q2) fun d s3 ⟨z, H3, I3, r3, k, e, q3⟩ => ?_)) hm
  subst e
  cases r3
  refine wpAny_truthy_bool ?_
  cases k with
  | false => exact ite_ff ⟨.bl false, H3, I3, rfl, q3⟩
  | true => exact ite_tt (chain_last (thn (hc pins s3 σ H3 _ I3 q3) fun w' s4 ⟨z', H4, I4, r4, q4⟩ => ho' pins s4 σ H4 y z' u w' Q I4 r2 r4 q4))
theorem zbq {op op' : CmpOp} {r r' : R2} (ho : OpR X (compareOp op) r) (ho' : OpR X (compareOp op') r') (ha : PE X a ta) (hb : PE X b tb) (hc : PE X c tc)
    (hm : lastMarks [op, op'] [b, c] = false := by with_unfolding_all rfl) : PT X (.Compare a [op, op'] [b, c] pos) (zcH (zbR r r' ta tb tc)) := by
  intro pins s σ H Q I h
  refine isTrue_chain (thn (ha pins s σ H _ I h) fun v s1 ⟨x, H1, I1, r1, q1⟩ => test_link (thn (hb pins s1 σ H1 _ I1 q1) fun u s2 ⟨y, H2, I2, r2, q2⟩ =>
    thn (ho pins s2 σ H2 x y v u _ I2 r1 r2 q2) fun d s3 ⟨z, H3, I3, r3, k, e, q3⟩ => ?_)) hm
  subst e
  cases r3
  refine wpAny_truthy_bool ?_
  cases k with
  | false =>
    obtain ⟨k', e', q'⟩ := q3
    cases e'
    exact ite_ff ⟨H3, I3, q'⟩
  | true =>
    refine ite_tt (test_last (thn (hc pins s3 σ H3 _ I3 q3) fun w' s4 ⟨z', H4, I4, r4, q4⟩ => thn (ho' pins s4 σ H4 y z' u w' _ I4 r2 r4 q4) fun d' s5 ⟨z2, H5, I5, r5, k2, e2, q5⟩ => ?_))
    subst e2
    cases r5
    exact wpAny_truthy_bool ⟨H5, I5, q5⟩
theorem UV : (sizeLine : Nat) < 2 ^ 63 := by rw [sizeLine_eq]; decide
theorem vals1 {x : V} {us : List Value} (r : Vals [x] us) : ∃ u, us = [u] ∧ RelV x u := by
  cases r with
  | cons r1 r2 => cases r2; exact ⟨_, rfl, r1⟩
theorem vals2 {x y : V} {us : List Value} (r : Vals [x, y] us) : ∃ u w', us = [u, w'] ∧ RelV x u ∧ RelV y w' := by
  cases r with
  | cons r1 r2 =>
    cases r2 with
    | cons r3 r4 => cases r4; exact ⟨_, _, rfl, r1, r3⟩
theorem zaU (hc : X.calm = true) : wM X (.builtin "max") (fun xs H Q => ∃ i j, xs = [.int i, .int j] ∧ Q (.int (if j > i then j else i)) H) := by
  intro pins s σ H xs us Q I r h
  obtain ⟨i, j, rfl, q⟩ := h
  obtain ⟨u, w', rfl, ⟨t, rfl⟩, ⟨t', rfl⟩⟩ := vals2 r
  refine max_two_ints (I.ok.hd hc) fun h' tk k => ⟨_, H, I.kept k, ?_, q⟩
  by_cases hj : j > i
  · rw [if_pos hj, if_pos hj]; exact ⟨_, rfl⟩
  · rw [if_neg hj, if_neg hj]; exact ⟨_, rfl⟩
theorem VP (hc : X.calm = true) : wM X (.builtin "min") (fun xs H Q => ∃ i j, xs = [.int i, .int j] ∧ Q (.int (if j < i then j else i)) H) := by
  intro pins s σ H xs us Q I r h
  obtain ⟨i, j, rfl, q⟩ := h
  obtain ⟨u, w', rfl, ⟨t, rfl⟩, ⟨t', rfl⟩⟩ := vals2 r
  refine min_two_ints (I.ok.hd hc) fun h' tk k => ⟨_, H, I.kept k, ?_, q⟩
  by_cases hj : j < i
  · rw [if_pos hj, if_pos hj]; exact ⟨_, rfl⟩
  · rw [if_neg hj, if_neg hj]; exact ⟨_, rfl⟩
theorem VJ : wM X (.type "int") (fun xs H Q => (∃ i, xs = [.int i] ∧ Q (.int i) H) ∨ ∃ k, xs = [.bl k] ∧ Q (.int (if k then 1 else 0)) H) := by
  intro pins s σ H xs us Q I r h
  rcases h with ⟨i, rfl, q⟩ | ⟨k, rfl, q⟩
  · obtain ⟨u, rfl, t, rfl⟩ := vals1 r
    exact call_int_int ⟨.int i, H, I, ⟨_, rfl⟩, q⟩
  · obtain ⟨u, rfl, r1⟩ := vals1 r
    cases r1
    exact call_int_bool ⟨.int (if k then 1 else 0), H, I.tok _, ⟨_, rfl⟩, q⟩
end
structure ObjM (h : Heap) (x dx C : Addr) (mA : Str → Option Value) : Prop where
  obj : h.get? x = some (PySem.W.instObj C dx)
  ns : h.Ns1 dx mA
  ne : dx ≠ x
theorem zaF {h : Heap} {dx : Addr} {mA : Str → Option Value} (n : h.Ns1 dx mA) : ∃ od, h.get? dx = some od ∧ ∀ name, PySem.W.lookIn name od = some (mA name) := by
  obtain ⟨o, es, ep, ho, hd, hk, _, hm⟩ := n
  refine ⟨o, ho, fun name => ?_⟩
  have e := hm name
  unfold nsFind findBy at e
  rw [← Array.find?_toList] at e
  unfold PySem.W.lookIn
  rw [hd]
  dsimp only
  split
  · rename_i y q
    rw [q] at e
    exact congrArg some e
  · rename_i q
    rw [q] at e
    have a : es.toList.any (·.refKey) = false := by
      rw [List.any_eq_false]
      intro y hy
      obtain ⟨z, t, hkey⟩ := hk y (Array.mem_toList_iff.mp hy)
      simp [DictEntry.refKey, hkey]
    have a' : ¬ es.toList.any (·.refKey) = true := by rw [a]; exact Bool.false_ne_true
    rw [if_neg a']
    exact congrArg some e
theorem ObjM.look {h : Heap} {x dx C : Addr} {mA : Str → Option Value} (I : ObjM h x dx C mA) : ∃ od, PySem.W.InstAt h x (PySem.W.instObj C dx) C (some od) ∧ ∀ name, PySem.W.lookIn name od = some (mA name) :=
  let ⟨od, ho, hl⟩ := zaF I.ns
  ⟨od, ⟨I.obj, rfl, rfl, ho⟩, hl⟩
section
variable {prog : Program} {w : World} {A : Around} {E : Value → Shared → Prop} {s : Shared} {K : PySem.W.Frag} {x dx C f : Addr} {mA : Str → Option Value} {name : Str} {v : Value}
theorem zcw {expr : Bool} {Q : Value → Shared → Prop} (X : K.In s.heap) (I : ObjM s.heap x dx C mA) (hg : PySem.W.plainGet K C name = true) (hh : PySem.W.hasDictIn K C = true)
    (ha : PySem.W.findIn K (.ref C) name = some none) (hv : mA name = some v) (hv' : PySem.W.handedIn v = true) (h : Q v { s with toks := s.toks + 1 }) :
    wpAny (model prog w) A (getAttr (.ref x) name expr) Q E s := by
  obtain ⟨od, J, hl⟩ := I.look
  exact PySem.W.get_value X J (PySem.W.plainGet_of hg).1 (PySem.W.findObj_own hh ha rfl (by rw [hl, hv])) hv' h
theorem za7 {pl : Sem Bool} {Q : Value × List Value → Shared → Prop} (X : K.In s.heap) (I : ObjM s.heap x dx C mA) (hg : PySem.W.plainGet K C name = true)
    (hf : PySem.W.findIn K (.ref C) name = some (some (.ref f))) (ht : PySem.W.isFn K (.ref f) = true) (hv : mA name = none) (h : Q (.ref f, [.ref x]) s) :
    wpAny (model prog w) A (getMethod (.ref x) name pl) Q E s := by
  obtain ⟨od, J, hl⟩ := I.look
  exact PySem.W.method_fn X J (PySem.W.plainGet_of hg).1 (PySem.W.plainGet_of hg).2 hf (beq_iff_eq.mp ht) (by show (PySem.W.lookIn name od).map (·.isSome) = some false; rw [hl, hv]; rfl) h
theorem zcx {ns : List Str} {Q : Unit → Shared → Prop} (X : K.In s.heap) (I : ObjM s.heap x dx C mA)
    (hs : PySem.W.findIn K (.ref C) "__setattr__" = some (some (.builtin "object.__setattr__"))) (hp : PySem.W.plainOver K C = true) (ht : PySem.W.takerIn K C name = some none) (hh : PySem.W.hasDictIn K C = true)
    (hw : PySem.Within mA ns) (hsz : ns.length ≤ sizeLine)
    (h : ∀ h', ObjM h' x dx C (fun y => if y = name then some v else mA y) → Heap.SameBut dx s.heap h' → Q () { s with heap := h', toks := s.toks + 2 }) :
    wpAny (model prog w) A (setAttr (.ref x) name v) Q E s := by
  obtain ⟨od, J, hl⟩ := I.look
  refine PySem.W.set_plain X J hs (PySem.W.osa_open (s := { s with toks := s.toks + 1 }) (r := none) X J hp ht fun b => ?_)
  obtain ⟨cd, hc, hd'⟩ := PySem.W.any_some hh
  have hx : s.heap.get? x = some ⟨.ref C, some dx, .plain, #[]⟩ := I.obj
  refine wpAny_bind (wpAny_pure (wpAny_bind (wpAny_bind (wpAny_loadPart hx (wpAny_bind (PySem.W.Looks.here (s := { s with toks := s.toks + 1 }) (PySem.W.looks_clsIn X hc) ?_))))))
  rw [hd']
  refine wpAny_pure (a := some dx) (wpAny_bind (wpAny_pure (wpAny_bind ?_)))
  refine wpAny_nsSet1 (s := { s with toks := s.toks + 1 }) I.ns fun h' hn2 hs2 => ?_
  obtain ⟨oD, esD, epD, hoD, hdD, hcD⟩ := hn2.count (PySem.Within.cons name v hw)
  refine wpAny_bind (wpAny_lookBehind hoD (by rw [hdD]; exact pastItsLine_dict (Nat.le_trans hcD (by rw [List.length_cons]; omega))) ?_)
  exact wpAny_pure (h _ ⟨(hs2.2 _ (Ne.symm I.ne)).trans I.obj, hn2, I.ne⟩ hs2)
theorem za2 {R : Result → Shared → Prop} {vs : List Value} {kw : List (Str × Value)} (X : K.In s.heap) (hm : PySem.W.makesIn K C = true)
    (hi : PySem.W.findIn K (.ref C) "__init__" = some (some (.ref f))) (hf : PySem.W.typeIn K (.ref f) = some (.type "function"))
    (h : codeAny (model prog w) (A.under (.builtin "type.__call__" ⟨.ref C :: vs, kw⟩)) (.call (.ref f) ⟨.ref (s.heap.objs.size + 1) :: vs, kw⟩) (PySem.W.InitBack (s.heap.objs.size + 1) R)
      { s with heap := (s.heap.push PySem.W.emptyDict).push (PySem.W.instObj C s.heap.objs.size) }) :
    codeAny (model prog w) A (.call (.ref C) ⟨vs, kw⟩) R s := by
  obtain ⟨hh, g, d, t, os⟩ := s
  exact PySem.W.make_core (PySem.W.makes_of X hm) (PySem.W.looks_findIn X hi) (fun self => PySem.W.bind_fn X self hf) (.inl rfl) h
end
def xu (f : Str) (v : V) : List (Str × V) → List (Str × V)
  | [] => [(f, v)]
  | (g, x) :: r => if g = f then (g, v) :: r else (g, x) :: xu f v r
theorem zR (f g : Str) (v : V) : ∀ fs : List (Str × V), (xu f v fs).lookup g = if g = f then some v else fs.lookup g
  | [] => by
    show List.lookup g [(f, v)] = _
    by_cases h : g = f
    · have hb : (g == f) = true := beq_iff_eq.mpr h
      simp only [List.lookup, hb, if_pos h]
    · have hb : (g == f) = false := beq_eq_false_iff_ne.mpr h
      simp only [List.lookup, hb, if_neg h]
  | (k, x) :: r => by
    have ih := zR f g v r
    rw [show xu f v ((k, x) :: r) = (if k = f then (k, v) :: r else (k, x) :: xu f v r) from rfl]
    by_cases hk : k = f
    · rw [if_pos hk]
      by_cases h : g = k
      · have hb : (g == k) = true := beq_iff_eq.mpr h
        simp only [List.lookup, hb, if_pos (h.trans hk)]
      · have hb : (g == k) = false := beq_eq_false_iff_ne.mpr h
        simp only [List.lookup, hb, if_neg (fun e : g = f => h (e.trans hk.symm))]
    · rw [if_neg hk]
      by_cases h : g = k
      · have hb : (g == k) = true := beq_iff_eq.mpr h
        simp only [List.lookup, hb, if_neg (fun e : g = f => hk (h.symm.trans e))]
      · have hb : (g == k) = false := beq_eq_false_iff_ne.mpr h
        simp only [List.lookup, hb]
        exact ih
theorem Xh (f : Str) (v : V) : ∀ fs : List (Str × V), f ∈ (xu f v fs).map (·.1) ∧ ∀ g, g ∈ fs.map (·.1) → g ∈ (xu f v fs).map (·.1)
  | [] => ⟨by simp [xu], fun g h => by simp at h⟩
  | (k, x) :: r => by
    obtain ⟨i1, i2⟩ := Xh f v r
    rw [show xu f v ((k, x) :: r) = (if k = f then (k, v) :: r else (k, x) :: xu f v r) from rfl]
    by_cases hk : k = f
    · rw [if_pos hk]
      subst hk
      exact ⟨by simp, fun g h => by simpa using h⟩
    · rw [if_neg hk]
      refine ⟨?_, fun g h => ?_⟩
      · rw [List.map_cons]
        exact List.mem_cons_of_mem _ i1
      · rw [List.map_cons] at h ⊢
        rcases List.mem_cons.mp h with e | e
        · exact List.mem_cons.mpr (.inl e)
        · exact List.mem_cons_of_mem _ (i2 g e)
theorem uC (f : Str) (v : V) : ∀ fs : List (Str × V), (xu f v fs).length ≤ fs.length + 1
  | [] => by simp [xu]
  | (k, x) :: r => by
    have ih := uC f v r
    rw [show xu f v ((k, x) :: r) = (if k = f then (k, v) :: r else (k, x) :: xu f v r) from rfl]
    by_cases hk : k = f
    · rw [if_pos hk, List.length_cons, List.length_cons]; omega
    · rw [if_neg hk, List.length_cons, List.length_cons]; omega
theorem RelO.some_of {v : V} {o : Option Value} (r : RelO (some v) o) : ∃ u, o = some u ∧ RelV v u := by
  cases o with
  | none => exact (show False from r).elim
  | some u => exact ⟨u, rfl, r⟩
theorem RelO.none_of {o : Option Value} (r : RelO none o) : o = none := by
  cases o with
  | none => rfl
  | some u => exact (show False from r).elim
theorem zan {v : V} {u : Value} (r : RelV v u) : PySem.W.handedIn u = true := by
  cases v with
  | non => cases (show u = Value.none from r); rfl
  | bl b => cases (show u = Value.bool b from r); rfl
  | int i => obtain ⟨t, e⟩ := (show ∃ t, u = Value.int i t from r); cases e; rfl
  | str x => obtain ⟨t, e⟩ := (show ∃ t, u = Value.str x t from r); cases e; rfl
  | byt b => obtain ⟨t, e⟩ := (show ∃ t, u = Value.bytes b t from r); cases e; rfl
  | flt b => obtain ⟨t, e⟩ := (show ∃ t, u = Value.float b t from r); cases e; rfl
  | ref a => cases (show u = Value.ref a from r); rfl
  | ty n => cases (show u = Value.type n from r); rfl
section
variable {P : Program} {w : World} {H H' : Hp} {h h' : Heap} {a C dx : Addr} {fs fs' : List (Str × V)}
theorem X7 (hok : HOk P w H h) (e : H a = some (.ins C dx fs)) : ∃ mA, ObjM h a dx C mA ∧ (∀ f, RelO (fs.lookup f) (mA f)) ∧ PySem.Within mA (fs.map (·.1)) ∧ fs.length ≤ 1000 ∧ H dx = some (.own a) := by
  obtain ⟨d, z, ne, ob, mA, n, r, q⟩ := (show ObjOk P w H h a (.ins C dx fs) from hok a _ e)
  exact ⟨mA, ⟨ob, n, ne⟩, r, q, z, d⟩
end
structure Cls (K : PySem.W.Frag) (C : Addr) : Prop where
  pg : PySem.W.plainGet K C Str.empty = true
  hd : PySem.W.hasDictIn K C = true
  po : PySem.W.plainOver K C = true
  sa : PySem.W.findIn K (.ref C) "__setattr__" = some (some (.builtin "object.__setattr__"))
theorem Cls.get {K : PySem.W.Frag} {C : Addr} (c : Cls K C) (f : Str) : PySem.W.plainGet K C f = true := c.pg
def NoAttr (K : PySem.W.Frag) (C : Addr) (f : Str) : Prop := PySem.W.findIn K (.ref C) f = some none
theorem NoAttr.taker {K : PySem.W.Frag} {C : Addr} {f : Str} (n : NoAttr K C f) : PySem.W.takerIn K C f = some none := by
  unfold PySem.W.takerIn
  rw [show PySem.W.findIn K (.ref C) f = some none from n]
  rfl
structure Con (K : PySem.W.Frag) (C : Addr) (f : Str) (v : V) (u : Value) : Prop where
  at_ : PySem.W.findIn K (.ref C) f = some (some u)
  rel : RelV v u
  get : PySem.W.specialIn K u "__get__" = some none
  cp : PySem.W.copiedNames.contains f = false
structure Meth (K : PySem.W.Frag) (C : Addr) (m : Str) (f : Addr) : Prop where
  at_ : PySem.W.findIn K (.ref C) m = some (some (.ref f))
  fn : PySem.W.isFn K (.ref f) = true
  kp : PySem.W.keepIn K (.ref f) = true
section
variable {X : Cx} {pins : List (Addr × Obj)} {σ : St} {H : Hp} {s : Shared} {a C dx : Addr} {fs : List (Str × V)} {f : Str} {v : V} {A : Around} {E : Value → Shared → Prop}
theorem JQ {b : Bool} {Q : Value → Shared → Prop} (I : Inv X pins σ H s) (e : H a = some (.ins C dx fs)) (c : Cls X.K C) (n : NoAttr X.K C f) (l : fs.lookup f = some v)
    (h : ∀ u s', Inv X pins σ H s' → RelV v u → Q u s') : wpAny (model X.prog X.w) A (getAttr (.ref a) f b) Q E s := by
  obtain ⟨mA, O, r, _, _, _⟩ := X7 I.hok e
  obtain ⟨u, hu, ru⟩ := RelO.some_of (v := v) (o := mA f) (by rw [← l]; exact r f)
  exact zcw I.kIn O (c.get f) c.hd n hu (zan ru) (h u _ (I.tok _) ru)
theorem JF {m : Str} {g : Addr} {pl : Sem Bool} {Q : Value × List Value → Shared → Prop} (I : Inv X pins σ H s) (e : H a = some (.ins C dx fs)) (c : Cls X.K C) (k : Meth X.K C m g) (l : fs.lookup m = none)
    (h : Q (.ref g, [.ref a]) s) : wpAny (model X.prog X.w) A (getMethod (.ref a) m pl) Q E s := by
  obtain ⟨mA, O, r, _, _, _⟩ := X7 I.hok e
  have hn : mA m = none := RelO.none_of (by rw [← l]; exact r m)
  exact za7 I.kIn O (c.get m) k.at_ k.fn hn h
theorem Ju {y : V} {u : Value} {Q : Unit → Shared → Prop} (I : Inv X pins σ H s) (e : H a = some (.ins C dx fs)) (c : Cls X.K C) (n : NoAttr X.K C f) (hl : fs.length < 1000) (ry : RelV y u)
    (h : ∀ s', Inv X pins σ (upd H a (.ins C dx (xu f y fs))) s' → Q () s') : wpAny (model X.prog X.w) A (setAttr (.ref a) f u) Q E s := by
  obtain ⟨mA, O, r, wi, _, ho⟩ := X7 I.hok e
  have hz : (fs.map (·.1)).length ≤ sizeLine := by rw [List.length_map, sizeLine_eq]; omega
  refine zcx I.kIn O c.sa c.po n.taker c.hd wi hz fun h' O' sb => h _ ?_
  have hd : ∃ o, h'.get? dx = some o := let ⟨o, _, _, e', _⟩ := O'.ns; ⟨o, e'⟩
  refine I.write (x := a) (e := dx) (by rw [e]; exact True.intro) (.inr ho) (fun b q hb z => (sb.2 b hb).trans z) hd ?_
  refine ⟨by rw [zr O.ne]; exact ho, ?_, O.ne, O'.obj, _, O'.ns, fun g => ?_, fun g hg => ?_⟩
  · have := uC f y fs; omega
  · show RelO ((xu f y fs).lookup g) (if g = f then some u else mA g)
    rw [zR]
    by_cases q : g = f
    · rw [if_pos q, if_pos q]; exact ry
    · rw [if_neg q, if_neg q]; exact r g
  · by_cases q : g = f
    · rw [q]; exact (Xh f y fs).1
    · refine (Xh f y fs).2 g (wi g fun z => hg ?_)
      show (if g = f then some u else mA g) = none
      rw [if_neg q]; exact z
theorem Inv.made (I : Inv X pins σ H s) : Inv X pins σ (upd (upd H s.heap.objs.size (.own (s.heap.objs.size + 1))) (s.heap.objs.size + 1) (.ins C s.heap.objs.size []))
    { s with heap := (s.heap.push PySem.W.emptyDict).push (PySem.W.instObj C s.heap.objs.size) } := by
  have e1 : (s.heap.push PySem.W.emptyDict).get? s.heap.objs.size = some PySem.W.emptyDict := Heap.get?_push_size s.heap rfl
  have e2 : ((s.heap.push PySem.W.emptyDict).push (PySem.W.instObj C s.heap.objs.size)).get? (s.heap.objs.size + 1) = some (PySem.W.instObj C s.heap.objs.size) := by
    have := Heap.get?_push_size (s.heap.push PySem.W.emptyDict) (o := PySem.W.instObj C s.heap.objs.size) rfl
    rwa [Heap.size_push] at this
  have e3 : (s.heap.push PySem.W.emptyDict).Ns s.heap.objs.size (fun _ => none) := ⟨PySem.W.emptyDict, #[], _, e1, rfl, (fun e he => absurd he (by simp)), fun _ => rfl⟩
  have I1 := I.laid (a := s.heap.objs.size) (o := .own (s.heap.objs.size + 1)) (h' := s.heap.push PySem.W.emptyDict) (t' := s.toks) (fun b u q => Heap.get?_push_of_some _ q) (Nat.le_refl _) ⟨_, e1⟩
  refine I1.laid (a := s.heap.objs.size + 1) (o := .ins C s.heap.objs.size []) (t' := s.toks) (fun b u q => Heap.get?_push_of_some _ q) (Nat.le_of_eq (Heap.size_push _ _)) ?_
  have ne : s.heap.objs.size ≠ s.heap.objs.size + 1 := Nat.ne_of_lt (Nat.lt_succ_self _)
  refine ⟨by rw [zr ne, zf], Nat.zero_le _, ne, e2, fun _ => none, (Heap.Ns1.of_empty e3).at fun o q => Heap.get?_push_of_some _ q, fun _ => True.intro, fun y hy => absurd rfl hy⟩
theorem zcz {prog : Program} {w : World} {env : Env} {e : Expr} {f : Str} {pos : Pos} {s : Shared} {Q : Value → Shared → Prop} (hb : attributeBase e f env (eval e env) = eval e env)
    (h : wpAny (model prog w) A (eval e env) (fun o s₁ => wpAny (model prog w) A (getAttr o f true) Q E s₁) E s) : wpAny (model prog w) A (eval (.Attribute e f pos) env) Q E s :=
  Attribute_any_ h (by rw [arm_eval_Attribute, hb])
end
def zd1 (K : PySem.W.Frag) (ta : TE) (f : Str) : TE := fun σ H Q => ta σ H fun x H1 => ∃ a C dx fs v, x = .ref a ∧ H1 a = some (.ins C dx fs) ∧ Cls K C ∧ NoAttr K C f ∧ fs.lookup f = some v ∧ Q v H1
def zem (K : PySem.W.Frag) (ta tv : TE) (f : Str) : TS := fun D σ H => tv σ H fun y H1 => ta σ H1 fun x H2 => ∃ a C dx fs, x = .ref a ∧ H2 a = some (.ins C dx fs) ∧ Cls K C ∧ NoAttr K C f ∧ fs.length < 1000 ∧
  D.nx σ (upd H2 a (.ins C dx (xu f y fs)))
section
variable {X : Cx} {o e value : Expr} {f : Str} {pos pos' tpos : Pos} {ta tv : TE}
theorem zde (he : PE X e ta) (hb : attributeBase e f X.env (eval e X.env) = eval e X.env) : PE X (.Attribute e f pos) (zd1 X.K ta f) := by
  intro pins s σ H Q I h
  refine zcz hb (thn (he pins s σ H _ I h) fun u s1 ⟨x, H1, I1, rx, a, C, dx, fs, v, ex, ea, c, n, l, q⟩ => ?_)
  subst ex
  obtain rfl : u = Value.ref a := rx
  exact JQ I1 ea c n l fun u' s2 I2 ru => ⟨v, H1, I2, ru, q⟩
theorem Qm (ha : PE X o ta) (hv : PE X value tv) (hs : swapsWith value (some (.Attribute o f pos')) pos.line X.env = pure false) : PS X (.Assign [.Attribute o f pos'] value pos) (zem X.K ta tv f) := by
  intro pins s σ H D I h
  refine plainObj_wpAny_Assign_Attribute (thn (hv pins s σ H _ I h) fun u s1 ⟨y, H1, I1, ry, q⟩ => thn (ha pins s1 σ H1 _ I1 q) fun ov s2 ⟨x, H2, I2, rx, a, C, dx, fs, ex, ea, c, n, l, q2⟩ => ?_) hs
  subst ex
  obtain rfl : ov = Value.ref a := rx
  exact Ju I2 ea c n l ry fun s3 I3 => ⟨σ, _, I3, q2⟩
end
section
variable {X : Cx} {pins : List (Addr × Obj)} {σ : St} {H : Hp} {s : Shared} {A : Around} {E : Value → Shared → Prop} {Q : Value → Shared → Prop} {c : Value} {b : Bool}
inductive Y9 (K : PySem.W.Frag) (H : Hp) : V → Value → Prop where
  | non : Y9 K H .non (.type "NoneType")
  | bl (x : Bool) : Y9 K H (.bl x) (.type "bool")
  | int (i : Int) : Y9 K H (.int i) (.type "int")
  | str (x : Str) : Y9 K H (.str x) (.type "str")
  | flt (x : UInt64) : Y9 K H (.flt x) (.type "float")
  | lst {a : Addr} {xs : List V} (e : H a = some (.lst xs)) : Y9 K H (.ref a) (.type "list")
  | frz {a : Addr} {o : Obj} {xs : List V} (e : H a = some (.frz o (.lst xs))) : Y9 K H (.ref a) (.type "list")
  | tup {a : Addr} {xs : List V} (e : H a = some (.tup xs)) : Y9 K H (.ref a) (.type "tuple")
  | dK {a : Addr} {kvs : List (Key × V)} (e : H a = some (.dK kvs)) : Y9 K H (.ref a) (.type "dict")
  | dT {a : Addr} {kvs : List (List Key × V)} (e : H a = some (.dT kvs)) : Y9 K H (.ref a) (.type "dict")
  | ins {a C dx : Addr} {fs : List (Str × V)} (e : H a = some (.ins C dx fs)) (cl : Cls K C) (ha : PySem.W.findIn K (.ref C) "__class__" = some (some (.builtin "object.__class__")))
      (hn : PySem.W.specialIn K (.builtin "object.__class__") "__get__" = some (some (.builtin "getset_descriptor.__get__"))) (htk : PySem.W.takesIn K (.builtin "object.__class__") = some true)
      (hm : PySem.W.mroIn K C (.type "object") = some true) : Y9 K H (.ref a) (.ref C)
theorem zaH {x : V} {u t : Value} (I : Inv X pins σ H s) (rx : RelV x u) (ty : Y9 X.K H x t) (e : PySem.W.kitOne X.K t c = some b) (h : ∀ tk, Q (.bool b) { s with toks := tk }) :
    wpAny (model X.prog X.w) A (call (.builtin "isinstance") [u, c]) Q E s := by
  cases ty with
  | non => cases (show u = Value.none from rx); exact PySem.W.kia_one PySem.W.kitx_none I.kIn True.intro e (fun z => nomatch z) h
  | bl y => cases (show u = Value.bool y from rx); exact PySem.W.kia_one PySem.W.kitx_bool I.kIn True.intro e (fun z => nomatch z) h
  | int i => obtain ⟨t, q⟩ := (show ∃ t, u = Value.int i t from rx); cases q; exact PySem.W.kia_one PySem.W.kitx_int I.kIn True.intro e (fun z => nomatch z) h
  | str y => obtain ⟨t, q⟩ := (show ∃ t, u = Value.str y t from rx); cases q; exact PySem.W.kia_one PySem.W.kitx_str I.kIn True.intro e (fun z => nomatch z) h
  | flt y => obtain ⟨t, q⟩ := (show ∃ t, u = Value.float y t from rx); cases q; exact PySem.W.kia_one PySem.W.kitx_float I.kIn True.intro e (fun z => nomatch z) h
  | @lst a xs ea =>
    cases (show u = Value.ref a from rx)
    obtain ⟨_, _, n, _, h1⟩ := (show ObjOk X.prog X.w H s.heap a (.lst xs) from I.hok a _ ea)
    exact PySem.W.kia_one PySem.W.kitx_list I.kIn ⟨_, h1, rfl⟩ e (fun z => nomatch z) h
  | @frz a ob xs ea =>
    cases (show u = Value.ref a from rx)
    obtain ⟨_, _, _, n, _, h1⟩ := (show ObjOk X.prog X.w H s.heap a (.frz ob (.lst xs)) from I.hok a _ ea)
    exact PySem.W.kia_one PySem.W.kitx_list I.kIn ⟨_, h1, rfl⟩ e (fun z => nomatch z) h
  | @tup a xs ea =>
    cases (show u = Value.ref a from rx)
    obtain ⟨_, _, _, p⟩ := (show ObjOk X.prog X.w H s.heap a (.tup xs) from I.hok a _ ea)
    obtain ⟨o, h1, h2, _⟩ := p
    exact PySem.W.kia_one PySem.W.kitx_tuple I.kIn ⟨o, h1, h2⟩ e (fun z => nomatch z) h
  | @dK a kvs ea =>
    cases (show u = Value.ref a from rx)
    obtain ⟨_, _, vs, _, p⟩ := (show ObjOk X.prog X.w H s.heap a (.dK kvs) from I.hok a _ ea)
    obtain ⟨o, es, ep, h1, h2, _⟩ := p
    exact PySem.W.kia_one PySem.W.kitx_dict I.kIn ⟨o, h1, h2.1⟩ e (fun z => nomatch z) h
  | @dT a kvs ea =>
    cases (show u = Value.ref a from rx)
    obtain ⟨_, _, xs, _, o, es, ep, h1, h2, _⟩ := (show ObjOk X.prog X.w H s.heap a (.dT kvs) from I.hok a _ ea)
    exact PySem.W.kia_one PySem.W.kitx_dict I.kIn ⟨o, h1, h2.1⟩ e (fun z => nomatch z) h
  | @ins a C dx fs ea cl ha hn htk hm =>
    cases (show u = Value.ref a from rx)
    obtain ⟨mA, O, _⟩ := X7 I.hok ea
    obtain ⟨od, J, _⟩ := O.look
    exact PySem.W.kia_one (PySem.W.kitx_own (cl.get _) cl.hd ha hn htk hm) I.kIn J e (fun z => nomatch z) h
end
structure Room (k : Nat) (A : Around) : Prop where
  hd : A.handled = none
  dp : A.depth + k + 5 < recursionLimit
  un : A.units + 16 * k + 200 < cLine
  gd : A.guards = some []
theorem Room.mono {j k : Nat} {A : Around} (r : Room k A) (h : j ≤ k) : Room j A := ⟨r.hd, by have := r.dp; omega, by have := r.un; omega, r.gd⟩
theorem Room.deeper {k : Nat} {A : Around} (r : Room (k + 1) A) (env : Env) : Room k (A.deeper env) :=
  ⟨r.hd, by have := r.dp; show A.depth + 1 + k + 5 < _; omega, by have := r.un; show A.units + 3 + 16 * k + 200 < _; omega, r.gd⟩
theorem Room.in1 {k : Nat} {A : Around} (r : Room (k + 1) A) : Room k A.in1 :=
  ⟨r.hd, by have := r.dp; show A.depth + k + 5 < _; omega, by have := r.un; show A.units + 1 + 16 * k + 200 < _; omega, r.gd⟩
theorem JK {A : Around} {C : Addr} {us : List Value} {kw : List (Str × Value)} : (A.under (.builtin "type.__call__" ⟨.ref C :: us, kw⟩)).depth = A.depth + 1 := by
  first | rfl | simp [Around.under, Code.weight, Code.isCreation, Code.isGuard, Code.isCaller, Code.frames, Code.isFrame, guardIds]
theorem JH {A : Around} {C : Addr} {us : List Value} {kw : List (Str × Value)} : (A.under (.builtin "type.__call__" ⟨.ref C :: us, kw⟩)).units = A.units + 1 := by
  first | rfl | simp [Around.under, Code.cUnits, Code.frames, Code.isFrame]
theorem Room.make {k : Nat} {A : Around} (r : Room (k + 1) A) (C : Addr) (us : List Value) (kw : List (Str × Value)) : Room k (A.under (.builtin "type.__call__" ⟨.ref C :: us, kw⟩)) :=
  ⟨r.hd, by have := r.dp; rw [JK]; omega, by have := r.un; rw [JH]; omega, by first | exact r.gd | (simp [Around.under, Code.guards, Code.isGuard, guardIds]; exact r.gd)⟩
theorem Room.depth {k : Nat} {A : Around} (r : Room k A) : A.depth < recursionLimit := by have := r.dp; omega
theorem Room.units {k : Nat} {A : Around} (r : Room k A) : A.units + 64 < cLine := by have := r.un; omega
def zdA : TA := fun _ H Q => Q [] H
def zcO (ta : TE) (tr : TA) : TA := fun σ H Q => ta σ H fun x H1 => tr σ H1 fun xs H2 => Q (x :: xs) H2
section
variable {X : Cx} {e : Expr} {es : List Expr} {te : TE} {t : TA} {pos : Pos}
theorem zg : PA X [] zdA := fun _ _ _ _ H Q I h => Calls.spliced_nil ⟨[], H, I, .nil, h⟩
theorem zc (ha : PE X e te) (hr : PA X es t) (hs : starEach (e :: es) X.env = (false, eval e X.env) :: starEach es X.env := by rfl) : PA X (e :: es) (zcO te t) := by
  intro pos pins s σ H Q I h
  rw [hs]
  show wpAny _ _ (spliced ((false, eval e X.env) :: backTo pos (starEach es X.env))) _ _ s
  refine Calls.spliced_cons (thn (ha pins s σ H _ I h) fun u s1 ⟨x, H1, I1, r1, q1⟩ => ?_)
  exact thn (hr pos pins s1 σ H1 _ I1 q1) fun us s2 ⟨xs, H2, I2, r2, q2⟩ => ⟨x :: xs, H2, I2, .cons r1 r2, q2⟩
def zd8 (t : TA) : TE := fun σ H Q => t σ H fun xs H1 => xs.length ≤ sizeLine ∧ ∀ p, H1 p = none → Q (.ref p) (upd H1 p (.tup xs))
def zea (t : TA) : TE := fun σ H Q => t σ H fun xs H1 => xs.length ≤ sizeLine ∧ ∀ p, H1 p = none → Q (.ref p) (upd H1 p (.lst xs))
theorem ue {x1} (h : PA X es t) : PE X (.Tuple es x1 pos) (zd8 t) := by
  intro pins s σ H Q I hq
  refine wpAny_Tuple_spliced (thn (h pos pins s σ H _ I hq) fun us s1 ⟨xs, H1, I1, r, z, q⟩ => ⟨by rw [← r.length]; exact z, ?_⟩)
  have hf : H1 s1.heap.objs.size = none := I1.hok.fresh (Nat.le_refl _)
  refine ⟨.ref s1.heap.objs.size, upd H1 s1.heap.objs.size (.tup xs), I1.laid (t' := s1.toks) (fun b u e => Heap.get?_push_of_some _ e) (Nat.le_refl _) ?_, rfl, q _ hf⟩
  exact ⟨z, us, r, ⟨_, Heap.get?_push_size _ rfl, rfl, _, rfl⟩⟩
theorem zM (h : PA X es t) : PE X (.List es pos) (zea t) := by
  intro pins s σ H Q I hq
  refine wpAny_List_spliced (thn (h pos pins s σ H _ I hq) fun us s1 ⟨xs, H1, I1, r, z, q⟩ => ⟨by rw [← r.length]; exact z, ?_⟩)
  have hf : H1 s1.heap.objs.size = none := I1.hok.fresh (Nat.le_refl _)
  refine ⟨.ref s1.heap.objs.size, upd H1 s1.heap.objs.size (.lst xs), I1.laid (t' := s1.toks) (fun b u e => Heap.get?_push_of_some _ e) (Nat.le_refl _) ?_, rfl, q _ hf⟩
  exact ⟨z, us, 0, r, Heap.get?_push_size _ rfl⟩
end
abbrev Sp := List V → Hp → VK → XK → Prop
abbrev CXT := List Env → Hp → Shared → XK → Value → Shared → Prop
structure Env0 (P : Program) (w : World) (K : PySem.W.Frag) (mg : Str → Option Value) (base : Heap) (A : Around) (outer : List Env) (s : Shared) (H : Hp) : Prop where
  frames : A.frames = some outer
  mod : Mod K mg base
  bs : ∀ b o, base.get? b = some o → s.heap.get? b = some o ∧ H b = none
  bsz : base.objs.size ≤ s.heap.objs.size
  funs : s.heap.FunFrames base outer
  frf : ∀ b ∈ frs outer, H b = none
  hok : HOk P w H s.heap
  bare : AllBare s.gens
def CE (outer : List Env) (P : Program) (w : World) (H : Hp) (s : Shared) (Q : VK) (u : Value) (s' : Shared) : Prop :=
  ∃ v H', s'.os = s.os ∧ AllBare s'.gens ∧ Un (frs outer) [] H H' s.heap s'.heap ∧ HOk P w H' s'.heap ∧ RelV v u ∧ Q v H'
def CR (CX : CXT) (outer : List Env) (P : Program) (w : World) (H : Hp) (s : Shared) (Q : VK) (E : XK) (r : Result) (s' : Shared) : Prop :=
  match r with
  | .ok (.ret u) => CE outer P w H s Q u s'
  | .ok _ => False
  | .error e => CX outer H s E e s'
structure FnOk (P : Program) (w : World) (K : PySem.W.Frag) (mg : Str → Option Value) (base : Heap) (CX : CXT) (k : Nat) (f : Addr) (fd : FuncData) (ps : List Str) (sp : Sp) : Prop where
  len : ∀ vs H Q E, sp vs H Q E → vs.length = ps.length
  run : ∀ (A : Around) (outer : List Env) (s : Shared) (H : Hp) (args : Args) (us : List Value) (vs : List V) (Q : VK) (E : XK), Room k A → Env0 P w K mg base A outer s H → BindsTo s fd args (ps.zip us) → Vals vs us → sp vs H Q E →
    codeAny (model P w) A (.call (.ref f) args) (CR CX outer P w H s Q E) s
theorem FnOk.mono {P : Program} {w : World} {K : PySem.W.Frag} {mg : Str → Option Value} {base : Heap} {CX : CXT} {j k : Nat} {f : Addr} {fd : FuncData} {ps : List Str} {sp : Sp} (F : FnOk P w K mg base CX j f fd ps sp) (h : j ≤ k) :
    FnOk P w K mg base CX k f fd ps sp := ⟨F.len, fun A outer s H args us vs Q E hr => F.run A outer s H args us vs Q E (hr.mono h)⟩
theorem FnOk.imp {P : Program} {w : World} {K : PySem.W.Frag} {mg : Str → Option Value} {base : Heap} {CX : CXT} {k : Nat} {f : Addr} {fd : FuncData} {ps : List Str} {sp sp' : Sp} (F : FnOk P w K mg base CX k f fd ps sp)
    (h : ∀ vs H Q E, sp' vs H Q E → sp vs H Q E) : FnOk P w K mg base CX k f fd ps sp' :=
  ⟨fun vs H Q E q => F.len vs H Q E (h _ _ _ _ q), fun A outer s H args us vs Q E hr he hb hv hs => F.run A outer s H args us vs Q E hr he hb hv (h _ _ _ _ hs)⟩
theorem Env0.make {P : Program} {w : World} {K : PySem.W.Frag} {mg : Str → Option Value} {base : Heap} {A : Around} {outer : List Env} {s : Shared} {H : Hp} (e : Env0 P w K mg base A outer s H) (C : Addr) (us : List Value) (kw : List (Str × Value)) :
    Env0 P w K mg base (A.under (.builtin "type.__call__" ⟨.ref C :: us, kw⟩)) outer s H := ⟨by first | exact e.frames | (simpa [Around.under, Code.envs, Code.isFrame, pushEnvs] using e.frames), e.mod, e.bs, e.bsz, e.funs, e.frf, e.hok, e.bare⟩
theorem Env0.in1 {P : Program} {w : World} {K : PySem.W.Frag} {mg : Str → Option Value} {base : Heap} {A : Around} {outer : List Env} {s : Shared} {H : Hp} (e : Env0 P w K mg base A outer s H) :
    Env0 P w K mg base A.in1 outer s H := ⟨e.frames, e.mod, e.bs, e.bsz, e.funs, e.frf, e.hok, e.bare⟩
section
variable {X : Cx} {pins : List (Addr × Obj)} {σ : St} {H : Hp} {s s' : Shared}
theorem Inv.env0 (I : Inv X pins σ H s) : Env0 X.prog X.w X.K X.mg X.base X.A X.stack s H :=
  ⟨I.ok.frames, I.ok.mod, I.bs, Nat.le_trans I.ok.bsz I.sz, I.stack, I.stkFree, I.hok, I.bare⟩
theorem Inv.after {Q : VK} {u : Value} (I : Inv X pins σ H s) (h : CE X.stack X.prog X.w H s Q u s') : EP X pins σ Q u s' := by
  obtain ⟨v, H', os, bare, un, hok, r, q⟩ := h
  obtain ⟨hh, g, d, t, os'⟩ := s'
  obtain rfl : os' = s.os := os
  exact ⟨v, H', I.call (h' := hh) (g' := g) (d' := d) (t' := t) (ch := []) un hok bare (fun b z => absurd z (by simp)), r, q⟩
end
def zcG (sp : Sp) (dvs : List V) (E : XK) (t : TA) : TE := fun σ H Q => t σ H fun vs H1 => sp (vs ++ dvs) H1 Q E
def zcL (C : Addr) (m : Str) (sp : Sp) (dvs : List V) (E : XK) (ta : TE) (t : TA) : TE := fun σ H Q => ta σ H fun x H1 => ∃ a dx fs, x = .ref a ∧ H1 a = some (.ins C dx fs) ∧ fs.lookup m = none ∧
  t σ H1 fun vs H2 => sp (x :: (vs ++ dvs)) H2 Q E
def zdw (C : Addr) (sp : Sp) (dvs : List V) (E : XK) (t : TA) : TE := fun σ H Q => t σ H fun vs H1 => ∀ x dx, H1 x = none → H1 dx = none → dx ≠ x →
  sp (.ref x :: (vs ++ dvs)) (upd (upd H1 dx (.own x)) x (.ins C dx [])) (fun v H2 => v = .non ∧ Q (.ref x) H2) E
def Binds (K : PySem.W.Frag) (fd : FuncData) (ps : List Str) (ds : List Value) : Prop :=
  ∀ (s : Shared) (us : List Value), K.In s.heap → (us ++ ds).length = ps.length → BindsTo s fd ⟨us, []⟩ (ps.zip (us ++ ds))
theorem Binds.all {K : PySem.W.Frag} {fd : FuncData} {ps : List Str} (h : ∀ us : List Value, us.length = ps.length → bindArgs fd ⟨us, []⟩ = pure (ps.zip us)) : Binds K fd ps [] := fun s us _ hl => by
  rw [List.append_nil] at hl ⊢
  exact .of_eq (h us hl)
def Y7 (CX : CXT) (X : Cx) (E : XK) : Prop := ∀ (pins : List (Addr × Obj)) (σ : St) (H : Hp) (s : Shared) (e : Value) (s' : Shared), Inv X pins σ H s → CX X.stack H s E e s' → X.xe e s'
section
variable {X : Cx} {CX : CXT} {k : Nat} {f C : Addr} {fd : FuncData} {ps : List Str} {sp : Sp} {dvs : List V} {ds : List Value} {E : XK} {x m : Str} {p pos apos : Pos} {e o : Expr} {es : List Expr} {ta : TE} {t : TA}
theorem zbQ {pins : List (Addr × Obj)} {σ : St} {H : Hp} {s : Shared} {Q : VK} {us : List Value} {vs : List V} (F : FnOk X.prog X.w X.K X.mg X.base CX k f fd ps sp) (hr : Room k X.A) (hb : Binds X.K fd ps ds) (hd : Vals dvs ds) (hx : Y7 CX X E)
    (I : Inv X pins σ H s) (r : Vals vs us) (h : sp (vs ++ dvs) H Q E) : wpAny (model X.prog X.w) X.A (call (.ref f) us) (EP X pins σ Q) X.xe s := by
  have r2 : Vals (vs ++ dvs) (us ++ ds) := r.append hd
  have hl : (us ++ ds).length = ps.length := by rw [← r2.length]; exact F.len _ _ _ _ h
  refine wpAny_call (codeAny_mono (F.run X.A X.stack s H ⟨us, []⟩ (us ++ ds) (vs ++ dvs) Q E hr I.env0 (hb s us I.kIn hl) r2 h) fun r s' hq => ?_)
  cases r with
  | error e => exact hx pins σ H s e s' I hq
  | ok fl =>
    cases fl with
    | ret u => exact I.after hq
    | next => exact False.elim hq
    | brk => exact False.elim hq
    | cont => exact False.elim hq
theorem zb7 (F : FnOk X.prog X.w X.K X.mg X.base CX k f fd ps sp) (hr : Room k X.A) (hg : Gl X x) (hm : X.mg x = some (.ref f)) (hk : PySem.W.keepIn X.K (.ref f) = true) (hb : Binds X.K fd ps ds) (hd : Vals dvs ds) (hx : Y7 CX X E)
    (ha : PA X (e :: es) t) (hdb : (x == ("__debug__" : Str)) = false := by decide) (he : starEach (e :: es) X.env = (false, eval e X.env) :: starEach es X.env := by rfl) (hpl : (backTo pos (starEach es X.env)).any (·.1) = false := by rfl) :
    PE X (.Call (.Name x p) (e :: es) [] pos) (zcG sp dvs E t) := by
  intro pins s σ H Q I h
  refine wpAny_Call_Name_kw (Qg I hg hm ?_ hdb)
  refine PySem.W.callWith_K (h₀ := X.base) I.ok.mod.kin hk (thn (ha pos pins s σ H _ I h) fun us s1 ⟨vs, H1, I1, r, q⟩ => ⟨I1.kIn, ?_⟩) he hpl
  exact zbQ F hr hb hd hx I1 r q
theorem zcd {pl : Sem Bool} (he : PE X o ta) (c : Cls X.K C) (hm : Meth X.K C m f) (F : FnOk X.prog X.w X.K X.mg X.base CX k f fd ps sp) (hr : Room k X.A) (hb : Binds X.K fd ps ds) (hd : Vals dvs ds) (hx : Y7 CX X E) (ha : PA X (e :: es) t)
    (hst : starEach (e :: es) X.env = (false, eval e X.env) :: starEach es X.env := by rfl) (hpl : (backTo pos (starEach es X.env)).any (·.1) = false := by rfl)
    (ht : eval (.Call (.Attribute o m apos) (e :: es) [] pos) X.env = (do
      let ov ← eval o X.env
      standAt apos.atName
      let (f, first) ← holding [ov] (getMethod ov m pl)
      callWith pos f first (backTo pos (starEach (e :: es) X.env)) (backToKw pos (keywordEach [] X.env))) := by rfl) :
    PE X (.Call (.Attribute o m apos) (e :: es) [] pos) (zcL C m sp dvs E ta t) := by
  intro pins s σ H Q I h
  refine PySem.W.methodCall_KW (pl := pl) (thn (he pins s σ H _ I h) fun u s1 ⟨x, H1, I1, rx, a, dx, fs, ex, ea, l, q⟩ => ?_) ht
  subst ex
  obtain rfl : u = Value.ref a := rx
  refine JF I1 ea c hm l ?_
  refine PySem.W.callWith_K (first := [.ref a]) (h₀ := X.base) I.ok.mod.kin hm.kp (thn (ha pos pins s1 σ H1 _ I1 q) fun us s2 ⟨vs, H2, I2, r, q2⟩ => ⟨I2.kIn, ?_⟩) hst hpl
  exact zbQ (us := .ref a :: us) (vs := .ref a :: vs) F hr hb hd hx I2 (.cons rfl r) q2
structure Mk (K : PySem.W.Frag) (C f : Addr) : Prop where
  makes : PySem.W.makesIn K C = true
  init : PySem.W.findIn K (.ref C) "__init__" = some (some (.ref f))
  fn : PySem.W.isFn K (.ref f) = true
  kp : PySem.W.keepIn K (.ref C) = true
theorem zby {pins : List (Addr × Obj)} {σ : St} {H : Hp} {s : Shared} {Q : VK} {us : List Value} {vs : List V} (M : Mk X.K C f) (F : FnOk X.prog X.w X.K X.mg X.base CX k f fd ps sp) (hr : Room (k + 1) X.A) (hb : Binds X.K fd ps ds) (hd : Vals dvs ds)
    (hx : Y7 CX X E) (I : Inv X pins σ H s) (r : Vals vs us)
    (h : ∀ x dx, H x = none → H dx = none → dx ≠ x → sp (.ref x :: (vs ++ dvs)) (upd (upd H dx (.own x)) x (.ins C dx [])) (fun v H2 => v = .non ∧ Q (.ref x) H2) E) :
    wpAny (model X.prog X.w) X.A (call (.ref C) us) (EP X pins σ Q) X.xe s := by
  have hq := h (s.heap.objs.size + 1) s.heap.objs.size (I.hok.fresh (Nat.le_succ _)) (I.hok.fresh (Nat.le_refl _)) (Nat.ne_of_lt (Nat.lt_succ_self _))
  have I2 := Inv.made (C := C) I
  have r2 : Vals (V.ref (s.heap.objs.size + 1) :: (vs ++ dvs)) (Value.ref (s.heap.objs.size + 1) :: (us ++ ds)) := .cons rfl (r.append hd)
  have hl : (Value.ref (s.heap.objs.size + 1) :: us ++ ds).length = ps.length := by
    have e := r2.length
    rw [F.len _ _ _ _ hq] at e
    exact e.symm
  refine wpAny_call (za2 (f := f) I.kIn M.makes M.init (beq_iff_eq.mp M.fn) (codeAny_mono (F.run _ X.stack _ _ ⟨Value.ref (s.heap.objs.size + 1) :: us, []⟩ (Value.ref (s.heap.objs.size + 1) :: (us ++ ds)) _ _ E (hr.make C us [])
    (I2.env0.make C us []) (hb _ (Value.ref (s.heap.objs.size + 1) :: us) I2.kIn hl) r2 hq) fun r s' hq' => ?_))
  cases r with
  | error e => exact hx pins σ _ _ e s' I2 hq'
  | ok fl =>
    cases fl with
    | ret u =>
      obtain ⟨v, H', I3, rv, ev, q3⟩ := I2.after hq'
      subst ev
      exact ⟨rv, ⟨V.ref (s.heap.objs.size + 1), H', I3, rfl, q3⟩⟩
    | next => exact False.elim hq'
    | brk => exact False.elim hq'
    | cont => exact False.elim hq'
theorem zad (M : Mk X.K C f) (F : FnOk X.prog X.w X.K X.mg X.base CX k f fd ps sp) (hr : Room (k + 1) X.A) (hg : Gl X x) (hm : X.mg x = some (.ref C)) (hb : Binds X.K fd ps ds) (hd : Vals dvs ds) (hx : Y7 CX X E)
    (ha : PA X (e :: es) t) (hdb : (x == ("__debug__" : Str)) = false := by decide) (he : starEach (e :: es) X.env = (false, eval e X.env) :: starEach es X.env := by rfl) (hpl : (backTo pos (starEach es X.env)).any (·.1) = false := by rfl) :
    PE X (.Call (.Name x p) (e :: es) [] pos) (zdw C sp dvs E t) := by
  intro pins s σ H Q I h
  refine wpAny_Call_Name_kw (Qg I hg hm ?_ hdb)
  refine PySem.W.callWith_K (h₀ := X.base) I.ok.mod.kin M.kp (thn (ha pos pins s σ H _ I h) fun us s1 ⟨vs, H1, I1, r, q⟩ => ⟨I1.kIn, ?_⟩) he hpl
  exact zby M F hr hb hd hx I1 r q
end
section
variable {X : Cx} {CX : CXT} {k : Nat} {f C : Addr} {fd : FuncData} {ps ks : List Str} {sp : Sp} {E : XK} {x m : Str} {p pos apos kpos : Pos} {e o : Expr} {es : List Expr} {kws : List Keyword} {te ta : TE} {t tk : TA} {nm : Option Str}
structure zeg (K : PySem.W.Frag) (fd : FuncData) (ps ks : List Str) (g : List Value → List Value → List Value) (gV : List V → List V → List V) : Prop where
  to : ∀ (s : Shared) (us ws : List Value), K.In s.heap → (g us ws).length = ps.length → BindsTo s fd ⟨us, ks.zip ws⟩ (ps.zip (g us ws))
  rel : ∀ {vs : List V} {us : List Value} {zs : List V} {ws : List Value}, Vals vs us → Vals zs ws → Vals (gV vs zs) (g us ws)
variable {g : List Value → List Value → List Value} {gV : List V → List V → List V}
end
structure zB (N P : List Str) (sc : Scope) : Prop where
  kind : sc.kind = .function
  co : sc.isCoroutine = false
  gen : sc.isGenerator = false
  nd : N.Nodup
  pre : N.take P.length = P
  par : ∀ x ∈ P, sc.names.lookup x = some .local ∨ sc.names.lookup x = some .cell
  nofree : ∀ y ∈ sc.names, y.2 ≠ .free
theorem Ui {kindOf : Str → Option NameKind} {x : Str} : ∀ {binds : List (Str × Value)} {m : Str → Option Value}, (∀ v, (x, v) ∉ binds) → bindL kindOf binds m x = m x
  | [], _, _ => rfl
  | (n, v) :: r, m, h => by
    unfold bindL
    rw [Ui fun w hw => h w (List.mem_cons_of_mem _ hw)]
    split
    · have : x ≠ n := by rintro rfl; exact h v List.mem_cons_self
      simp [this]
    · rfl
theorem VN {kindOf : Str → Option NameKind} {x : Str} : ∀ {binds : List (Str × Value)} {m : Str → Option Value}, (∀ v, (x, v) ∉ binds) → bindC kindOf binds m x = m x
  | [], _, _ => rfl
  | (n, v) :: r, m, h => by
    unfold bindC
    rw [VN fun w hw => h w (List.mem_cons_of_mem _ hw)]
    split
    · rfl
    · have : x ≠ n := by rintro rfl; exact h v List.mem_cons_self
      simp [this]
theorem VD {kindOf : Str → Option NameKind} {x : Str} {v : Value} : ∀ {P : List Str} {vs : List Value} {i : Nat} {m : Str → Option Value}, P.Nodup → P[i]? = some x → vs[i]? = some v → kindOf x = some .local →
    bindL kindOf (P.zip vs) m x = some v
  | [], _, _, _, _, h, _, _ => by simp at h
  | _ :: _, [], _, _, _, _, h, _ => by simp at h
  | p :: P, w :: vs, 0, m, nd, h1, h2, hk => by
    simp at h1 h2; subst h1; subst h2
    show bindL kindOf ((p, w) :: P.zip vs) m p = _
    unfold bindL
    rw [Ui fun v hv => (List.nodup_cons.mp nd).1 (List.of_mem_zip hv).1, if_pos hk]
    simp
  | p :: P, w :: vs, i + 1, m, nd, h1, h2, hk => by
    show bindL kindOf ((p, w) :: P.zip vs) m x = _
    unfold bindL
    exact VD (i := i) (List.nodup_cons.mp nd).2 (by simpa using h1) (by simpa using h2) hk
theorem VF {kindOf : Str → Option NameKind} {x : Str} {v : Value} : ∀ {P : List Str} {vs : List Value} {i : Nat} {m : Str → Option Value}, P.Nodup → P[i]? = some x → vs[i]? = some v → kindOf x ≠ some .local →
    bindC kindOf (P.zip vs) m x = some v
  | [], _, _, _, _, h, _, _ => by simp at h
  | _ :: _, [], _, _, _, _, h, _ => by simp at h
  | p :: P, w :: vs, 0, m, nd, h1, h2, hk => by
    simp at h1 h2; subst h1; subst h2
    show bindC kindOf ((p, w) :: P.zip vs) m p = _
    unfold bindC
    rw [VN fun v hv => (List.nodup_cons.mp nd).1 (List.of_mem_zip hv).1, if_neg hk]
    simp
  | p :: P, w :: vs, i + 1, m, nd, h1, h2, hk => by
    show bindC kindOf ((p, w) :: P.zip vs) m x = _
    unfold bindC
    exact VF (i := i) (List.nodup_cons.mp nd).2 (by simpa using h1) (by simpa using h2) hk
def start (N : List Str) (vs : List V) : St := vs.map some ++ List.replicate (N.length - vs.length) none
def XN (CX : CXT) (P : Program) (w : World) (K : PySem.W.Frag) (mg : Str → Option Value) (base : Heap) (N : List Str) (qual : Str) (scope : Scope) (f : Addr) (cd : Value) (A : Around) (outer : List Env) (s : Shared) (H : Hp) (E : XK) : Cx where
  prog := P
  w := w
  K := K
  mg := mg
  base := base
  A := A.deeper (envOfC qual scope s.heap.objs.size f cd)
  N := N
  s₀ := s
  H₀ := H
  env := envOfC qual scope s.heap.objs.size f cd
  outer := outer
  stack := envOfC qual scope s.heap.objs.size f cd :: outer
  ex := []
  calm := true
  fn := fun _ => true
  pn := []
  xe := fun e s' => wpAny (model P w) (A.deeper (envOfC qual scope s.heap.objs.size f cd)) (leaving (envOfC qual scope s.heap.objs.size f cd) e) (fun _ s'' => CX outer H s E e s'') (fun e' s'' => CX outer H s E e' s'') s'
theorem QQ {sc : Scope} {n : Nat} {x : Str} (h : sc.names.lookup x = some .cell) : ∃ c, (cellsFrom n sc.names []).lookup x = some c := by
  have q := PySem.W.cellsFrom_some sc.names n [] (.inl h)
  exact Option.isSome_iff_exists.mp q
theorem Ue {CX : CXT} {P : Program} {w : World} {K : PySem.W.Frag} {mg : Str → Option Value} {base : Heap} {N ps : List Str} {qual : Str} {scope : Scope} {f : Addr} {cd : Value} {A : Around} {outer : List Env} {s s1 : Shared} {H : Hp} {E : XK} {us : List Value} {vs : List V}
    (S : zB N ps scope) (hd : A.handled = none) (e0 : Env0 P w K mg base A outer s H) (hl : vs.length = ps.length) (r : Vals vs us)
    (x : InCallC s s.heap.objs.size (bindL (envOfC qual scope s.heap.objs.size f cd).kindOf (ps.zip us) fun _ => none) (cellsFrom (s.heap.objs.size + 1) scope.names []) (bindC (envOfC qual scope s.heap.objs.size f cd).kindOf (ps.zip us) fun _ => none) s1) :
    Inv (XN CX P w K mg base N qual scope f cd A outer s H E) [] (start N vs) H s1 := by
  have hpl : ps.length ≤ N.length := by have := congrArg List.length S.pre; rw [List.length_take] at this; omega
  obtain ⟨h1, tk, rfl, hk⟩ := x.done
  have noA : ∀ b : Addr, b ∉ (XN CX P w K mg base N qual scope f cd A outer s H E).ex := fun b z => absurd (show b ∈ ([] : List Addr) from z) (by simp)
  refine ⟨⟨e0.mod, S.kind, rfl, rfl, Nat.le_refl _, fun y z c h1 h2 => ?_, fun y hy => ?_, fun y c _ h => ?_, fun _ => hd, Around.frames_deeper e0.frames, .inr ⟨rfl, rfl⟩, fun b z => absurd z (noA b), e0.bs, e0.bsz, fun b _ _ => noA b, fun b z => absurd z (noA b), e0.funs, e0.frf⟩,
    rfl, e0.bare, Un.kept hk, ⟨_, x.toInCall.ns, fun i y v h1 h2 h3 => ?_⟩, fun y c h => ⟨_, x.cell y c h⟩, e0.hok.fresh (Nat.le_refl _), fun y c h => ?_, fun p hp => absurd (show p ∈ ([] : List (Addr × Obj)) from hp) (by simp), e0.hok.kept hk, ?_⟩
  · exact name_of_addr x.apart (PySem.mem_of_lookup h1) (PySem.mem_of_lookup h2)
  · have hy : scope.names.lookup y = some .cell ∨ scope.names.lookup y = some .free := hy
    rcases hy with hy | hy
    · exact QQ hy
    · exact absurd rfl (S.nofree _ (PySem.mem_of_lookup hy))
  · exact Nat.le_of_lt (x.above y c (PySem.mem_of_lookup h))
  · have hi : i < vs.length := by
      unfold start at h2
      by_cases hi : i < vs.length
      · exact hi
      · rw [List.getElem?_append_right (by simpa using hi)] at h2
        rw [List.getElem?_replicate] at h2
        split at h2 <;> cases h2
    have ha : vs[i]? = some v := by
      unfold start at h2
      rw [List.getElem?_append_left (by simpa using hi), List.getElem?_map] at h2
      cases e : vs[i]? with
      | none => rw [e] at h2; cases h2
      | some a => rw [e] at h2; cases h2; rfl
    obtain ⟨u, hu, rv⟩ := r.get ha
    have hp : ps[i]? = some y := by
      rw [← S.pre, List.getElem?_take_of_lt (by omega)]; exact h1
    have ndP : ps.Nodup := by rw [← S.pre]; exact S.nd.sublist (List.take_sublist _ _)
    refine ⟨u, rv, ?_⟩
    rcases S.par y (List.mem_of_getElem? hp) with k | k
    · exact .inl ⟨k, VD ndP hp hu k⟩
    · obtain ⟨c, e⟩ := QQ (n := s.heap.objs.size + 1) k
      refine .inr ⟨.inl k, c, e, ?_⟩
      have q := x.cell y c e
      rw [VF ndP hp hu (by show scope.names.lookup y ≠ _; rw [k]; decide)] at q
      exact q
  · exact e0.hok.fresh (Nat.le_of_lt (x.above y c (PySem.mem_of_lookup h)))
  · unfold start
    show _ = N.length
    rw [List.length_append, List.length_map, List.length_replicate]
    omega
theorem zcC {CX : CXT} {P : Program} {w : World} {K : PySem.W.Frag} {mg : Str → Option Value} {base : Heap} {k : Nat} {f : Addr} {name qual : Str} {params : Arguments} {body : List Stmt} {scope : Scope} {dV kV doc pm cdv ct oc : Value} {an od : Option Addr}
    {osl : Array (Option Value)} {N ps : List Str} {sp : Sp} (lk : K.lookup f = some ⟨oc, od, .func (PySem.W.fnOf name qual params body scope dV kV doc pm an cdv ct), osl⟩) (hcd : PySem.W.codeIn K cdv qual = true) (S : zB N ps scope)
    (len : ∀ vs H Q E, sp vs H Q E → vs.length = ps.length)
    (hbody : ∀ (A : Around) (outer : List Env) (s : Shared) (H : Hp) (vs : List V) (Q : VK) (E : XK), Room k (A.deeper (envOfC qual scope s.heap.objs.size f cdv)) → sp vs H Q E →
      ∃ t, PSs (XN CX P w K mg base N qual scope f cdv A outer s H E) body t ∧ t { nx := fun _ H' => Q .non H', rt := Q } (start N vs) H) :
    FnOk P w K mg base CX (k + 1) f (PySem.W.fnOf name qual params body scope dV kV doc pm an cdv ct) ps sp := by
  refine ⟨len, fun A outer s H args us vs Q E hr e0 hb r hsp => ?_⟩
  have hl := len _ _ _ _ hsp
  have KX : K.In s.heap := e0.mod.kin.keeps fun b o e => (e0.bs b o e).1
  have lim : s.heap.NoLimit := e0.mod.nolimit.keeps fun b o e => (e0.bs b o e).1
  have hkind : ∀ y ∈ ps.zip us, scope.names.lookup y.1 = some .local ∨ (scope.names.lookup y.1 = some .cell ∧ ((cellsFrom (s.heap.objs.size + 1) scope.names []).lookup y.1).isSome = true) := fun ⟨n, v⟩ hy => by
    rcases S.par n (List.of_mem_zip hy).1 with q | q
    · exact .inl q
    · exact .inr ⟨q, PySem.W.cellsFrom_some _ _ _ (.inl q)⟩
  refine codeAny_call_function hr.depth (KX _ _ lk) rfl S.co S.gen rfl (PySem.W.codeRec_of KX hcd) (hb _ _ _ _ ?_)
  refine wpAny_newFunctionEnv_cells S.kind hkind fun env he s1 x => ?_
  subst he
  refine ⟨lim.keeps x.toInCall.keep, codeAny_func ?_⟩
  obtain ⟨t, ht, hq⟩ := hbody A outer s H vs Q E (hr.deeper _) hsp
  have I : Inv (XN CX P w K mg base N qual scope f cdv A outer s H E) [] (start N vs) H s1 := Ue S hr.hd e0 hl r x
  refine wpAny_mono (ht [] s1 (start N vs) H _ I hq) (fun fl s' hs => ?_) fun e s' hs => hs
  have fin : ∀ {σ' : St} {H' : Hp} {v : V} {u : Value}, Inv (XN CX P w K mg base N qual scope f cdv A outer s H E) [] σ' H' s' → RelV v u → Q v H' → CE outer P w H s Q u s' :=
    fun {σ' H' v u} J rv q => ⟨v, H', J.os, J.bare, J.base, J.hok, rv, q⟩
  cases fl with
  | ret u =>
    obtain ⟨v, σ', H', J, rv, q⟩ := hs
    exact fin J rv q
  | next =>
    obtain ⟨σ', H', J, q⟩ := hs
    exact fin (v := V.non) (u := Value.none) J rfl q
  | brk =>
    obtain ⟨_, _, _, q⟩ := hs
    exact False.elim q
  | cont =>
    obtain ⟨_, _, _, q⟩ := hs
    exact False.elim q
section
variable {X : Cx} {x : Str} {p pos : Pos} {e : Expr} {es : List Expr} {t : TA} {id T : String} {r : List V → Hp → VK → Prop}
def tCB (r : List V → Hp → VK → Prop) (t : TA) : TE := fun σ H Q => t σ H fun vs H1 => r vs H1 Q
theorem zA (hc : wM X (.builtin id) r) (hg : Gl X x) (hm : X.mg x = none) (hv : bootBuiltins x = some (.builtin id)) (ha : PA X (e :: es) t) (hn : x ≠ "__name__" := by decide) (hdb : (x == ("__debug__" : Str)) = false := by decide)
    (he : starEach (e :: es) X.env = (false, eval e X.env) :: starEach es X.env := by rfl) (hpl : (backTo pos (starEach es X.env)).any (·.1) = false := by rfl) : PE X (.Call (.Name x p) (e :: es) [] pos) (tCB r t) := by
  intro pins s σ H Q I h
  refine wpAny_Call_Name_kw (Z9 I hg hm hv ?_ hn hdb)
  exact PyProof.Rows.callWith_builtin1 (thn (ha pos pins s σ H _ I h) fun us s1 ⟨vs, H1, I1, r1, q1⟩ => hc pins s1 σ H1 vs us Q I1 r1 q1) he hpl
theorem uW (hc : wM X (.type T) r) (hg : Gl X x) (hm : X.mg x = none) (hv : bootBuiltins x = some (.type T)) (ha : PA X (e :: es) t) (hn : x ≠ "__name__" := by decide) (hdb : (x == ("__debug__" : Str)) = false := by decide)
    (he : starEach (e :: es) X.env = (false, eval e X.env) :: starEach es X.env := by rfl) (hpl : (backTo pos (starEach es X.env)).any (·.1) = false := by rfl) : PE X (.Call (.Name x p) (e :: es) [] pos) (tCB r t) := by
  intro pins s σ H Q I h
  refine wpAny_Call_Name_kw (Z9 I hg hm hv ?_ hn hdb)
  exact PyProof.Rows.callWith_type1 (thn (ha pos pins s σ H _ I h) fun us s1 ⟨vs, H1, I1, r1, q1⟩ => hc pins s1 σ H1 vs us Q I1 r1 q1) he hpl
end
end L2
namespace HT
open PySem PyProof.Rows
def lexLt : List Int → List Int → Bool
  | [], [] => false
  | [], _ :: _ => true
  | _ :: _, [] => false
  | x :: xs, y :: ys => if x = y then lexLt xs ys else decide (x < y)
theorem uZ (x y : Int) (xs ys : List Int) : lexLt (x :: xs) (y :: ys) = if x = y then lexLt xs ys else decide (x < y) := rfl
theorem Z3 : lexLt [] [] = false := rfl
theorem Vh (y : Int) (ys : List Int) : lexLt [] (y :: ys) = true := rfl
theorem vP (x : Int) (xs : List Int) : lexLt (x :: xs) [] = false := rfl
theorem zbc (A : Around) (s : Shared) (a : Int) (t : Tok) (c : Int) (u : Tok) : ∃ e, SeqAt.EqAt A s (.int a t) (.int c u) e ∧ (e = true ↔ a = c) :=
  ⟨(a == c), SeqAt.EqAt.int_int a t c u, by simp⟩
theorem zbu (A : Around) (s : Shared) (a : Int) (t : Tok) (c : Int) (u : Tok) (prog : Program) (w : World) (E : Value → Shared → Prop) (Q : Value → Shared → Prop) (h : Q (.bool (decide (a < c))) s) :
    wpAny (model prog w) A (richCompare .Lt (.int a t) (.int c u)) Q E s :=
  (PyProof.Rows.lt_int h : wpAny (model prog w) A (compareOp .Lt (.int a t) (.int c u)) Q E s)
section
open PySem.SeqAt
open PySem.AutoSeq1 (wpAny_loadPart')
open PySem.MeetsSeq PySem.MeetsSeq2 PySem.MeetsSeq3
end
section
variable {prog : Program} {w : World} {A : Around} {E : Value → Shared → Prop} {s : Shared}
def sIx (n d : Nat) : Option Int → Nat
  | none => d
  | some v => if v < 0 then (v + (n : Int)).toNat else min v.toNat n
theorem QB (n d : Nat) : sIx n d none = d := rfl
theorem X8 (n d k : Nat) : sIx n d (some (k : Int)) = min k n := by
  show (if (k : Int) < 0 then ((k : Int) + (n : Int)).toNat else min (k : Int).toNat n) = min k n
  rw [if_neg (by omega), Int.toNat_natCast]
end
end HT
namespace L2
open PySem PySem.Spec PyProof.Rows
abbrev TO := St → Hp → (Option Int → Hp → Prop) → Prop
def PO (X : Cx) (e : Option Expr) (t : TO) : Prop :=
  ∀ (pins : List (Addr × Obj)) (s : Shared) (σ : St) (H : Hp) (Q : Option Int → Hp → Prop), Inv X pins σ H s → t σ H Q →
    wpAny (model X.prog X.w) X.A (evalPart e X.env) (fun u s' => ∃ o H', Inv X pins σ H' s' ∧ IsPart u o ∧ Q o H') X.xe s
def zcu : TO := fun _ H Q => Q none H
def zdy (t : TE) : TO := fun σ H Q => t σ H fun x H1 => ∃ i, x = .int i ∧ Q (some i) H1
theorem intsAre_of {ns : List Int} : ∀ {us : List Value}, Vals (ns.map V.int) us → IntsAre us ns := by
  induction ns with
  | nil => intro us r; rw [List.map_nil] at r; cases r; exact .nil
  | cons n ns ih =>
    intro us r
    rw [List.map_cons] at r
    cases r with
    | cons r1 r2 =>
      obtain ⟨t, e⟩ := r1
      subst e
      exact .cons n t (ih r2)
section
variable {X : Cx} {e : Expr} {te : TE} {lo hi : Option Expr} {tl th : TO} {pos p2 : Pos}
theorem uv : PO X none zcu := by
  intro pins s σ H Q I h
  rw [evalPart_none]
  exact wpAny_pure ⟨none, H, I, .none, h⟩
theorem wX (h : PE X e te) : PO X (some e) (zdy te) := by
  intro pins s σ H Q I hw
  rw [evalPart_some]
  refine thn (h pins s σ H _ I hw) fun u s1 ⟨x, H1, I1, r1, q1⟩ => ?_
  obtain ⟨i, rfl, q⟩ := q1
  obtain ⟨t, rfl⟩ := r1
  exact ⟨some i, H1, I1, .int i t, q⟩
def SlR (X : Cx) (r : V → Option Int → Option Int → Hp → VK → Prop) : Prop :=
  ∀ (pins : List (Addr × Obj)) (s : Shared) (σ : St) (H : Hp) (x : V) (v vl vu : Value) (lo hi : Option Int) (sl : Addr) (Q : VK), Inv X pins σ H s → RelV x v → s.heap.IsSliceOf sl vl vu .none → IsPart vl lo → IsPart vu hi → r x lo hi H Q →
    ∃ T id, typeLookup (.type T) "__getitem__" = pure (some (.builtin id)) ∧ s.TypeIs v T ∧ wpAny (model X.prog X.w) X.A (getItem v (.ref sl)) (EP X pins σ Q) X.xe s
def tSl (r : V → Option Int → Option Int → Hp → VK → Prop) (te : TE) (tl th : TO) : TE := fun σ H Q => te σ H fun x H1 => tl σ H1 fun l H2 => th σ H2 fun u H3 => r x l u H3 Q
theorem wk {r : V → Option Int → Option Int → Hp → VK → Prop} (hr : SlR X r) (he : PE X e te) (hl : PO X lo tl) (hu : PO X hi th) : PE X (.Subscript e (.Slice lo hi none p2) pos) (tSl r te tl th) := by
  intro pins s σ H Q I h
  refine Subscript_ (thn (he pins s σ H _ I h) fun v s1 ⟨x, H1, I1, r1, q1⟩ => ?_)
  refine wpAny_Slice (thn (hl pins s1 σ H1 _ I1 q1) fun vl s2 ⟨l, H2, I2, pl, q2⟩ => thn (hu pins s2 σ H2 _ I2 q2) fun vu s3 ⟨u, H3, I3, pu, q3⟩ => ?_)
  rw [evalPart_none]
  refine wpAny_pure ?_
  have I4 : Inv X pins σ H3 { s3 with heap := s3.heap.push { cls := .type "slice", data := .fields #[vl, vu, .none] } } := I3.kept (t' := s3.toks) fun b ob q => Heap.get?_push_of_some _ q
  obtain ⟨T, id, hT, ht, hg⟩ := hr pins { s3 with heap := s3.heap.push { cls := .type "slice", data := .fields #[vl, vu, .none] } } σ H3 x v vl vu l u s3.heap.objs.size Q I4 r1 (Heap.IsSliceOf.new ..) pl pu q3
  show wpAny (model X.prog X.w) X.A (subscriptTail e (.Slice lo hi none p2) v (.ref s3.heap.objs.size)) (EP X pins σ Q) X.xe { s3 with heap := s3.heap.push { cls := .type "slice", data := .fields #[vl, vu, .none] } }
  exact tail_any (ops := [.ref s3.heap.objs.size, v]) ht hT hg (by with_unfolding_all rfl)
def jc (xs : List V) (lo hi : Option Int) : List V := (xs.drop (HT.sIx xs.length 0 lo)).take (HT.sIx xs.length xs.length hi - HT.sIx xs.length 0 lo)
theorem Qz (xs : List V) (lo hi : Option Int) : (jc xs lo hi).length ≤ xs.length := by
  unfold jc
  rw [List.length_take, List.length_drop]
  omega
end
def ixN (n : Nat) (i : Int) : Option Nat := if 0 ≤ i then (if i < n then some i.toNat else none) else if -(n : Int) ≤ i then some (i + n).toNat else none
def atI {α : Type} (xs : List α) (i : Int) : Option α := (ixN xs.length i).bind fun j => xs[j]?
theorem zal {n : Nat} {i : Int} {j : Nat} (h : ixN n i = some j) : seqIndex? i n = some j ∧ j < n ∧ -(n : Int) ≤ i ∧ i < n := by
  unfold ixN at h
  by_cases h0 : 0 ≤ i
  · rw [if_pos h0] at h
    by_cases h1 : i < n
    · rw [if_pos h1] at h
      have e : i.toNat = j := Option.some.inj h
      exact ⟨by rw [seqIndex_of h0 h1, e], by omega, by omega, h1⟩
    · rw [if_neg h1] at h; cases h
  · rw [if_neg h0] at h
    by_cases h1 : -(n : Int) ≤ i
    · rw [if_pos h1] at h
      have e : (i + n).toNat = j := Option.some.inj h
      exact ⟨by rw [seqIndex_neg (by omega) h1, e], by omega, h1, by omega⟩
    · rw [if_neg h1] at h; cases h
theorem zae {α : Type} {xs : List α} {i : Int} {v : α} (h : atI xs i = some v) : ∃ j, seqIndex? i xs.length = some j ∧ xs[j]? = some v ∧ j < xs.length ∧ -(xs.length : Int) ≤ i ∧ i < xs.length := by
  unfold atI at h
  cases e : ixN xs.length i with
  | none => rw [e] at h; cases h
  | some j =>
    rw [e] at h
    obtain ⟨h1, h2, h3, h4⟩ := zal e
    exact ⟨j, h1, h, h2, h3, h4⟩
theorem wH {α : Type} {xs : List α} {j : Nat} {v : α} (h : xs[j]? = some v) : atI xs (j : Int) = some v := by
  have hj : j < xs.length := (List.getElem?_eq_some_iff.mp h).1
  have e : ixN xs.length (j : Int) = some j := by
    unfold ixN
    rw [if_pos (by omega), if_pos (by omega)]; simp
  unfold atI; rw [e]; exact h
theorem zbJ {α : Type} (xs : List α) (v : α) : atI (xs ++ [v]) (-1) = some v := by
  have hl : (xs ++ [v]).length = xs.length + 1 := by simp
  have e : ixN (xs ++ [v]).length (-1) = some xs.length := by
    unfold ixN
    rw [hl, if_neg (by decide), if_pos (by omega)]
    congr 1
    omega
  unfold atI
  rw [e]
  show (xs ++ [v])[xs.length]? = some v
  simp
def zcf (b : Expr) : Prop := ∀ o i, subscripted b false o i = operate [o, i] (getItem o i)
def IxR (X : Cx) (r : R2) : Prop :=
  ∀ (value slice : Expr) (pins : List (Addr × Obj)) (s : Shared) (σ : St) (H : Hp) (x y : V) (v u : Value) (Q : VK), Inv X pins σ H s → RelV x v → RelV y u → r x y H Q →
    subscripted slice false v u = operate [v, u] (getItem v u) → wpAny (model X.prog X.w) X.A (subscriptTail value slice v u) (EP X pins σ Q) X.xe s
def MtR (X : Cx) (id : String) (r : V → List V → Hp → VK → Prop) : Prop :=
  ∀ (pins : List (Addr × Obj)) (s : Shared) (σ : St) (H : Hp) (x : V) (xs : List V) (v : Value) (us : List Value) (Q : VK), Inv X pins σ H s → RelV x v → Vals xs us → r x xs H Q →
    wpAny (model X.prog X.w) X.A (call (.builtin id) (v :: us)) (EP X pins σ Q) X.xe s
section
variable {X : Cx} {a b : Expr} {ta tb : TE} {pos : Pos}
theorem zP {r : R2} (hr : IxR X r) (ha : PE X a ta) (hb : PE X b tb) (hs : zcf b) : PE X (.Subscript a b pos) (tOp r ta tb) := by
  intro pins s σ H Q I h
  exact Subscript_ (zc9 ha hb I h fun v u s2 x y H2 I2 rx ry q => hr a b pins s2 σ H2 x y v u Q I2 rx ry q (hs _ _))
def zbN (K : PySem.W.Frag) : R2 := fun x y H Q => ∃ p xs i v, x = .ref p ∧ y = .int i ∧ SqL K H p xs ∧ atI xs i = some v ∧ Q v H
def zdV (K : PySem.W.Frag) : R2 := fun x y H Q => ∃ p xs i v, x = .ref p ∧ y = .int i ∧ SqT K H p xs ∧ atI xs i = some v ∧ Q v H
theorem xU : IxR X (zbN X.K) := by
  intro value slice pins s σ H x y v u Q I rx ry h hs
  obtain ⟨p, xs, i, z, rfl, rfl, hq, he, q⟩ := h
  cases rx
  obtain ⟨t, rfl⟩ := ry
  obtain ⟨its, r, pl, hz⟩ := I.list hq
  obtain ⟨j, h1, h2, h3, h4, h5⟩ := zae he
  obtain ⟨w, ew, rw'⟩ := r.get h2
  have hl := r.length
  have hn := UV
  have fin : EP X pins σ Q w s := ⟨z, H, I, rw', q⟩
  by_cases h0 : 0 ≤ i
  · have hj : i.toNat = j := by
      rw [seqIndex_of h0 h5] at h1
      exact Option.some.inj h1
    exact item_listR pl.isList h0 (by omega) (by rw [hj]; simpa using ew) fin hs
  · have hj : (i + (its.toArray.size : Int)).toNat = j := by
      rw [seqIndex_neg (by omega) h4] at h1
      rw [List.size_toArray, ← hl]
      exact Option.some.inj h1
    exact subscriptTail_builtinR (x := w) pl.isList.typeIs slot_list_getitem.lookup
      (wpAny_getItem_list_neg (Q := fun r s' => r = w ∧ EP X pins σ Q r s') pl.isList (by omega) (by rw [List.size_toArray] <;> omega) (by omega) (by rw [hj]; simpa using ew) ⟨rfl, fin⟩) hs
theorem zdb : IxR X (zdV X.K) := by
  intro value slice pins s σ H x y v u Q I rx ry h hs
  obtain ⟨p, xs, i, z, rfl, rfl, hq, he, q⟩ := h
  cases rx
  obtain ⟨t, rfl⟩ := ry
  obtain ⟨its, r, pl, hz⟩ := I.tuple hq
  obtain ⟨j, h1, h2, h3, h4, h5⟩ := zae he
  obtain ⟨w, ew, rw'⟩ := r.get h2
  have hl := r.length
  have hn := UV
  have fin : EP X pins σ Q w s := ⟨z, H, I, rw', q⟩
  exact subscriptTail_builtinR (x := w) pl.typeIs slot_tuple_getitem.lookup
    (getItem_tuple (j := j) (Q := fun r s' => r = w ∧ EP X pins σ Q r s') pl (by omega) (by omega) (by rw [List.size_toArray, ← hl]; exact h1) (by simpa using ew) ⟨rfl, fin⟩) hs
theorem Jy (its : List Value) (n j : Nat) (u : Value) : Obj.mapSeq (·.setIfInBounds j u) { cls := .type "list", data := .seq its.toArray n } = { cls := .type "list", data := .seq (its.set j u).toArray n } := by
  simp [Obj.mapSeq]
theorem Inv.lst {pins : List (Addr × Obj)} {σ : St} {H : Hp} {s : Shared} {p : Addr} {xs : List V} (I : Inv X pins σ H s) (h : H p = some (.lst xs)) :
    ∃ (its : List Value) (n : Nat), Vals xs its ∧ s.heap.get? p = some { cls := .type "list", data := .seq its.toArray n } ∧ xs.length ≤ sizeLine := by
  obtain ⟨z, its, n, r, e⟩ := I.hok p _ h
  exact ⟨its, n, r, e, z⟩
theorem Inv.lstUpd {pins : List (Addr × Obj)} {σ : St} {H : Hp} {s : Shared} {p : Addr} {xs ys : List V} {its its' : List Value} {n n' : Nat} {f : Obj → Obj} (I : Inv X pins σ H s) (h : H p = some (.lst xs))
    (ho : s.heap.get? p = some { cls := .type "list", data := .seq its.toArray n }) (hf : f { cls := .type "list", data := .seq its.toArray n } = { cls := .type "list", data := .seq its'.toArray n' }) (r : Vals ys its') (hz : ys.length ≤ sizeLine) (t : Nat) :
    Inv X pins σ (upd H p (.lst ys)) { s with heap := s.heap.update p f, toks := t } := by
  have e : (s.heap.update p f).get? p = some { cls := .type "list", data := .seq its'.toArray n' } := by
    rw [Heap.get?_update_self f ho (by rw [hf] <;> rfl), hf]
  refine I.write (x := p) (e := p) (by rw [h]; trivial) (.inl rfl) (fun b u hb q => (Heap.get?_update_other _ _ (Ne.symm hb)).trans q) ⟨_, e⟩ ?_
  exact ⟨hz, its', n', r, e⟩
def zcM : V → V → V → Hp → (Hp → Prop) → Prop := fun o i v H Q => ∃ p xs k j, o = .ref p ∧ i = .int k ∧ H p = some (.lst xs) ∧ ixN xs.length k = some j ∧ Q (upd H p (.lst (xs.set j v)))
theorem set_list : zdo X zcM := by
  intro pins s σ H o i v ov iv u Q I ro ri rv h
  obtain ⟨p, xs, k, j, rfl, rfl, hp, hj, q⟩ := h
  cases ro
  obtain ⟨t, rfl⟩ := ri
  obtain ⟨its, n, r, ho, hz⟩ := I.lst hp
  obtain ⟨h1, h2, h3, h4⟩ := zal hj
  have hl := r.length
  have hn := UV
  have I' : Inv X pins σ (upd H p (.lst (xs.set j v))) { s with heap := s.heap.update p (Obj.mapSeq (·.setIfInBounds j u)) } :=
    I.lstUpd hp ho (Jy its n j u) (r.set rv j) (by rw [List.length_set]; exact hz) s.toks
  by_cases h0 : 0 ≤ k
  · have hk : k.toNat = j := by
      rw [seqIndex_of h0 h4] at h1
      exact Option.some.inj h1
    exact PySem.W.ki_setAt ho h0 (by omega) (by rw [List.size_toArray, ← hl]; exact h4) (by rw [hk]; exact ⟨_, I', q⟩)
  · have hk : (k + (its.toArray.size : Int)).toNat = j := by
      rw [seqIndex_neg (by omega) h3] at h1
      rw [List.size_toArray, ← hl]
      exact Option.some.inj h1
    exact PySem.W.ki_setBack ho (by omega) (by rw [List.size_toArray, ← hl]; exact h3) (by omega) (by rw [hk]; exact ⟨_, I', q⟩)
theorem UJ (lo hi : Option Int) (n : Nat) : (sliceBounds lo hi none n).1 = ((HT.sIx n 0 lo : Nat) : Int) ∧ (sliceBounds lo hi none n).2.1 = ((HT.sIx n n hi : Nat) : Int) ∧ (sliceBounds lo hi none n).2.2 = 1 := by
  refine ⟨?_, ?_, rfl⟩
  · cases lo with
    | none => simp [sliceBounds, HT.sIx]
    | some i =>
      simp only [sliceBounds, HT.sIx, Option.getD_none, show (1 : Int) > 0 by decide, if_true]
      by_cases h : i < 0
      · simp only [h, if_true] <;> omega
      · simp only [h, if_false] <;> omega
  · cases hi with
    | none => simp [sliceBounds, HT.sIx]
    | some i =>
      simp only [sliceBounds, HT.sIx, Option.getD_none, show (1 : Int) > 0 by decide, if_true]
      by_cases h : i < 0
      · simp only [h, if_true] <;> omega
      · simp only [h, if_false] <;> omega
theorem Vp (its : List Value) (lo hi : Option Int) : slicePick its.toArray lo hi none = ((its.drop (HT.sIx its.length 0 lo)).take (HT.sIx its.length its.length hi - HT.sIx its.length 0 lo)).toArray := by
  obtain ⟨h1, h2, h3⟩ := UJ lo hi its.toArray.size
  unfold slicePick
  rw [h1, h2, h3]
  simp only [sliceRange_one, pick_run, List.size_toArray] <;> rfl
def zd6 (K : PySem.W.Frag) : V → Option Int → Option Int → Hp → VK → Prop := fun x lo hi H Q => ∃ a xs, x = .ref a ∧ SqL K H a xs ∧ ∀ p, H p = none → Q (.ref p) (upd H p (.lst (jc xs lo hi)))
theorem zce : SlR X (zd6 X.K) := by
  intro pins s σ H x v vl vu lo hi sl Q I rx hs pl pu h
  obtain ⟨a, xs, rfl, hx, q⟩ := h
  cases rx
  obtain ⟨its, r, ht, hz⟩ := I.list hx
  have hlen := r.length
  refine ⟨"list", _, slot_list_getitem.lookup, ht.isList.typeIs, ?_⟩
  refine wpAny_getItem_list_slice ht.isList hs pl pu .none (by simp) ?_ (by rw [List.size_toArray] <;> omega)
  rw [Vp, ← hlen]
  refine ⟨.ref s.heap.objs.size, _, I.laid (t' := s.toks) (o := .lst (jc xs lo hi)) (fun b ob q => Heap.get?_push_of_some _ q) (Nat.le_refl _) ?_, rfl, q _ (I.hok.fresh (Nat.le_refl _))⟩
  exact ⟨Nat.le_trans (Qz xs lo hi) hz, _, 0, (r.drop (HT.sIx xs.length 0 lo)).take (HT.sIx xs.length xs.length hi - HT.sIx xs.length 0 lo), Heap.get?_push_size _ rfl⟩
theorem uP : wM X (.builtin "len") (fun xs H Q => ∃ p ys, xs = [.ref p] ∧ (SqL X.K H p ys ∨ SqT X.K H p ys) ∧ Q (.int ys.length) H) := by
  intro pins s σ H xs us Q I r h
  obtain ⟨p, ys, rfl, hq, q⟩ := h
  obtain ⟨u, rfl, rx⟩ := vals1 r
  cases rx
  have hn := UV
  rcases hq with hq | hq
  · obtain ⟨its, r', pl, hz⟩ := I.list hq
    have hlen := r'.length
    exact Calls.call_len_list pl.isList (by simp only [List.size_toArray] <;> omega) ⟨.int ys.length, H, I.tok _, ⟨s.toks + 1, by rw [List.size_toArray, hlen]⟩, q⟩
  · obtain ⟨its, r', pl, hz⟩ := I.tuple hq
    have hlen := r'.length
    exact len_tuple pl (by simp only [List.size_toArray] <;> omega) ⟨.int ys.length, H, I.tok _, ⟨s.toks + 1, by rw [List.size_toArray, hlen]⟩, q⟩
theorem U8 : wM X (.type "list") (fun xs H Q => ∃ p ys, xs = [.ref p] ∧ (SqL X.K H p ys ∨ SqT X.K H p ys) ∧ ∀ l, H l = none → Q (.ref l) (upd H l (.lst ys))) := by
  intro pins s σ H xs us Q I r h
  obtain ⟨p, ys, rfl, hq, q⟩ := h
  obtain ⟨u, rfl, rx⟩ := vals1 r
  cases rx
  have fin : ∀ (its : List Value), Vals ys its → ys.length ≤ sizeLine → ∀ (h' : Heap) (c' : Nat), (∀ b o', s.heap.get? b = some o' → h'.get? b = some o') →
      h'.get? s.heap.objs.size = some { cls := .type "list", dict := none, data := .seq its.toArray c', slots := #[] } → EP X pins σ Q (.ref s.heap.objs.size) { s with heap := h' } := fun its r' hz h' c' kp e =>
    ⟨.ref s.heap.objs.size, _, I.laid (t' := s.toks) kp (Nat.le_refl _) (show ObjOk X.prog X.w _ h' _ (.lst ys) from ⟨hz, its, c', r', e⟩), rfl, q _ (I.hok.fresh (Nat.le_refl _))⟩
  rcases hq with hq | hq
  · obtain ⟨its, r', pl, hz⟩ := I.list hq
    have hlen := r'.length
    obtain ⟨o, ho, hc, n, hd⟩ := pl.isList
    exact call_list_seq p (.inl rfl) ho hc hd (fun h' c' kp e => fin its r' hz h' c' kp e) (by simp only [List.size_toArray] <;> omega)
  · obtain ⟨its, r', pl, hz⟩ := I.tuple hq
    have hlen := r'.length
    obtain ⟨o, ho, hc, n, hd⟩ := pl
    exact call_list_seq p (.inr rfl) ho hc hd (fun h' c' kp e => fin its r' hz h' c' kp e) (by simp only [List.size_toArray] <;> omega)
theorem Vj : wM X (.type "tuple") (fun xs H Q => ∃ p ys, xs = [.ref p] ∧ ((SqL X.K H p ys ∧ ∀ l, H l = none → Q (.ref l) (upd H l (.tup ys))) ∨ (SqT X.K H p ys ∧ Q (.ref p) H))) := by
  intro pins s σ H xs us Q I r h
  obtain ⟨p, ys, rfl, h⟩ := h
  obtain ⟨u, rfl, rx⟩ := vals1 r
  cases rx
  rcases h with ⟨hq, q⟩ | ⟨hq, q⟩
  · obtain ⟨its, r', pl, hz⟩ := I.list hq
    have hlen := r'.length
    refine call_tuple_list pl.isList (fun h' kp => ?_) (by simp only [List.size_toArray] <;> omega)
    have I1 : Inv X pins σ H { s with heap := h' } := I.kept (t' := s.toks) kp
    have I2 : Inv X pins σ (upd H h'.objs.size (.tup ys)) { s with heap := h'.push { cls := .type "tuple", data := .seq its.toArray } } :=
      I1.laid (t' := s.toks) (fun b o e => Heap.get?_push_of_some _ e) (Nat.le_refl _) (show ObjOk X.prog X.w _ _ _ (.tup ys) from ⟨hz, its, r', IsTup.new _ _⟩)
    exact ⟨.ref h'.objs.size, _, I2, rfl, q _ (I1.hok.fresh (Nat.le_refl _))⟩
  · obtain ⟨its, r', pl, hz⟩ := I.tuple hq
    exact call_tuple_same pl ⟨.ref p, H, I, rfl, q⟩
def tyV (K : PySem.W.Frag) (T : String) (x : V) (H : Hp) : Prop := match x with
  | .str _ => T = "str"
  | .int _ => T = "int"
  | .ref p => (T = "list" ∧ ∃ xs, SqL K H p xs) ∨ (T = "tuple" ∧ ∃ o, K.lookup p = some o ∧ o.cls = .type "tuple" ∧ o.dict = none) ∨
      (T = "dict" ∧ ((∃ kvs, H p = some (.dK kvs)) ∨ ∃ kvs, H p = some (.dT kvs))) ∨ (T = "set" ∧ ∃ S n, H p = some (.set S n))
  | _ => False
theorem zbD {pins : List (Addr × Obj)} {σ : St} {H : Hp} {s : Shared} {T : String} {x : V} {v : Value} (I : Inv X pins σ H s) (r : RelV x v) (ty : tyV X.K T x H) :
    s.TypeIs v T ∧ ∀ a, v = .ref a → ∃ ob, s.heap.get? a = some ob ∧ ob.dict = none := by
  cases x with
  | str z =>
    obtain ⟨t, rfl⟩ := r
    cases (show T = "str" from ty)
    exact ⟨typeIs_str s z t, fun _ e => nomatch e⟩
  | int i =>
    obtain ⟨t, rfl⟩ := r
    cases (show T = "int" from ty)
    exact ⟨typeIs_int s i t, fun _ e => nomatch e⟩
  | ref p =>
    cases r
    rcases ty with ⟨rfl, xs, hq⟩ | ⟨rfl, o, hk, hc, hd⟩ | ⟨rfl, hk⟩ | ⟨rfl, S, n, hk⟩
    · obtain ⟨its, _, pl, _⟩ := I.list hq
      refine ⟨pl.isList.typeIs, fun a e => ?_⟩
      cases e
      obtain ⟨o, n, e, c, hd, _⟩ := pl
      exact ⟨o, e, hd⟩
    · refine ⟨⟨o, I.kIn p o hk, hc⟩, fun a e => ?_⟩
      cases e
      exact ⟨o, I.kIn _ o hk, hd⟩
    · have z : ∃ o, s.heap.get? p = some o ∧ o.ExactDict := by
        rcases hk with ⟨kvs, hk⟩ | ⟨kvs, hk⟩
        · obtain ⟨_, _, _, _, o, _, _, e, ex, _⟩ := I.hok p _ hk
          exact ⟨o, e, ex⟩
        · obtain ⟨_, _, _, _, o, _, _, e, ex, _⟩ := I.hok p _ hk
          exact ⟨o, e, ex⟩
      obtain ⟨o, e, ex⟩ := z
      refine ⟨⟨o, e, ex.1⟩, fun a e2 => ?_⟩
      cases e2
      exact ⟨o, e, ex.2.1⟩
    · obtain ⟨o, _, _, _, e, ex, _⟩ := I.hok p _ hk
      refine ⟨⟨o, e, ex.1⟩, fun a e2 => ?_⟩
      cases e2
      exact ⟨o, e, ex.2.1⟩
  | _ => exact False.elim ty
def zer (K : PySem.W.Frag) (T : String) (r : V → List V → Hp → VK → Prop) (to : TE) : TE := fun σ H Q => to σ H fun x H1 => tyV K T x H1 ∧ r x [] H1 Q
def tBM (K : PySem.W.Frag) (T : String) (r : V → List V → Hp → VK → Prop) (to : TE) (t : TA) : TE := fun σ H Q => to σ H fun x H1 => tyV K T x H1 ∧ t σ H1 fun xs H2 => r x xs H2 Q
variable {o e : Expr} {es : List Expr} {to : TE} {t : TA} {name : Str} {apos cpos : Pos} {T id : String} {r : V → List V → Hp → VK → Prop}
theorem zcQ (pa : PlainAttrs T) (slot : Slot T name id) (hty : typeOf (.builtin id) = pure (.type "method_descriptor")) (hm : MtR X id r) (ho : PE X o to)
    (hbase : attributeBase o name X.env (eval o X.env) = eval o X.env := by rfl) (hline : (apos.endLine == cpos.line) = true := by rfl) : PE X (.Call (.Attribute o name apos) [] [] cpos) (zer X.K T r to) := by
  intro pins s σ H Q I h
  refine wpAny_Call_method0_late hbase hline (thn (ho pins s σ H _ I h) fun v s1 ⟨x, H1, I1, r1, ty, q1⟩ => ?_)
  obtain ⟨h1, h2⟩ := zbD I1 r1 ty
  exact ⟨T, id, pa, slot, hty, h1, h2, Calls.callWith_builtin rfl (PySem.evalArgs_none (hm pins s1 σ H1 x [] v [] Q I1 r1 .nil q1))⟩
theorem XH (pa : PlainAttrs T) (slot : Slot T name id) (hty : typeOf (.builtin id) = pure (.type "method_descriptor")) (hm : MtR X id r) (ho : PE X o to) (ha : PA X (e :: es) t)
    (hbase : attributeBase o name X.env (eval o X.env) = eval o X.env := by rfl)
    (hfew : ((backTo cpos (starEach (e :: es) X.env)).all (fun x => !x.1) && (backToKw cpos (keywordEach [] X.env)).all (fun x => x.1.isSome)
      && decide ((e :: es).length + ([] : List Keyword).length + (if ([] : List Keyword).isEmpty then 0 else 1) < 30)) = true := by rfl)
    (hline : (apos.endLine == cpos.line) = true := by rfl) (hs : starEach (e :: es) X.env = (false, eval e X.env) :: starEach es X.env := by rfl) (hplain : (backTo cpos (starEach es X.env)).any (·.1) = false := by rfl) :
    PE X (.Call (.Attribute o name apos) (e :: es) [] cpos) (tBM X.K T r to t) := by
  intro pins s σ H Q I h
  refine wpAny_Call_method_late hbase hfew hline rfl (thn (ho pins s σ H _ I h) fun v s1 ⟨x, H1, I1, r1, ty, q1⟩ => ?_)
  obtain ⟨h1, h2⟩ := zbD I1 r1 ty
  refine ⟨T, id, pa, slot, hty, h1, h2, ?_⟩
  have hA := ha cpos pins s1 σ H1 _ I1 q1
  rw [hs] at hA ⊢
  refine Calls.callWith_builtin (by show (false || (backTo cpos (starEach es X.env)).any (·.1)) = false; rw [hplain] <;> rfl) (Calls.evalArgs_plain ?_)
  exact thn hA fun us s2 ⟨vs, H2, I2, r2, q2⟩ => hm pins s2 σ H2 x vs v us Q I2 r1 r2 q2
end
def MtM (X : Cx) (id : String) (r : V → List V → Hp → VK → Prop) : Prop :=
  ∀ (pins : List (Addr × Obj)) (s : Shared) (σ : St) (H : Hp) (x : V) (xs : List V) (v : Value) (us : List Value) (Q : VK), Inv X pins σ H s → RelV x v → Vals xs us → r x xs H Q →
    wpAny (model X.prog X.w) X.A (call (.builtin id) (v :: us)) (EP X pins σ Q) X.xe s
theorem Vals.one : ∀ {x : V} {us : List Value}, Vals [x] us → ∃ u, us = [u] ∧ RelV x u
  | _, _, .cons r .nil => ⟨_, rfl, r⟩
theorem Vals.zero : ∀ {us : List Value}, Vals [] us → us = []
  | _, .nil => rfl
theorem Vals.dropLast {xs : List V} {us : List Value} (h : Vals xs us) : Vals xs.dropLast us.dropLast := by
  induction h with
  | nil => exact .nil
  | cons r t ih =>
    cases t with
    | nil => exact .nil
    | cons q t' => exact .cons r ih
theorem Vals.eraseIdx : ∀ {xs : List V} {us : List Value} (i : Nat), Vals xs us → Vals (xs.eraseIdx i) (us.eraseIdx i)
  | _, _, _, .nil => .nil
  | _, _, 0, .cons _ t => t
  | _, _, i + 1, .cons r t => .cons r (Vals.eraseIdx i t)
theorem Vals.rep {xs : List V} {us : List Value} (h : Vals xs us) : ∀ k : Nat, Vals (List.replicate k xs).flatten (List.replicate k us).flatten
  | 0 => .nil
  | k + 1 => by
    rw [List.replicate_succ, List.replicate_succ, List.flatten_cons, List.flatten_cons]
    exact Vals.append h (Vals.rep h k)
theorem Jr {α : Type} (l : List α) : l.eraseIdx (l.length - 1) = l.dropLast := by
  induction l with
  | nil => rfl
  | cons a r ih =>
    cases r with
    | nil => rfl
    | cons b r =>
      have e : (a :: b :: r).length - 1 = ((b :: r).length - 1) + 1 := by
        have h1 : (a :: b :: r).length = r.length + 2 := rfl
        have h2 : (b :: r).length = r.length + 1 := rfl
        omega
      rw [e, List.eraseIdx_cons_succ, ih]
      all_goals rfl
theorem foldl_rep (its : List Value) : ∀ (k : Nat) (acc : List Value),
    List.foldl (fun x1 x2 => x1 ++ x2) acc.toArray (List.replicate k its.toArray) = (acc ++ (List.replicate k its).flatten).toArray
  | 0, acc => by simp
  | k + 1, acc => by
    have e : acc.toArray ++ its.toArray = (acc ++ its).toArray := by simp
    have e2 : (acc ++ its) ++ (List.replicate k its).flatten = acc ++ (List.replicate (k + 1) its).flatten := by
      rw [List.replicate_succ, List.flatten_cons, List.append_assoc]
    rw [← e2, ← foldl_rep its k (acc ++ its), ← e, List.replicate_succ, List.foldl_cons]
section
variable {X : Cx} {pins : List (Addr × Obj)} {σ : St} {H : Hp} {s : Shared} {l b : Addr} {xs ys zs : List V}
theorem Inv.lset {its its' : List Value} {n : Nat} {f : Array Value → Array Value} {t' : Nat} (I : Inv X pins σ H s) (hH : H l = some (.lst xs))
    (e : s.heap.get? l = some { cls := .type "list", data := .seq its.toArray n }) (hf : f its.toArray = its'.toArray) (hv : Vals ys its') (hz : ys.length ≤ sizeLine) :
    Inv X pins σ (upd H l (.lst ys)) { s with heap := s.heap.update l (Obj.mapSeq f), toks := t' } := by
  have q := PySem.IsL.update e f
  rw [hf] at q
  refine I.write (x := l) (e := l) (by rw [hH]; exact trivial) (.inl rfl) (fun b' u hb hu => (Heap.get?_update_other s.heap (Obj.mapSeq f) (Ne.symm hb)).trans hu) ⟨_, q⟩ ?_
  exact ⟨hz, its', _, hv, q⟩
theorem Inv.lnew {its : List Value} {t' : Nat} (I : Inv X pins σ H s) (hv : Vals ys its) (hz : ys.length ≤ sizeLine) :
    Inv X pins σ (upd H s.heap.objs.size (.lst ys)) { s with heap := s.heap.push { cls := .type "list", data := .seq its.toArray }, toks := t' } :=
  I.laid (fun _ _ q => Heap.get?_push_of_some _ q) (Nat.le_refl _) ⟨hz, its, 0, hv, Heap.get?_push_size _ rfl⟩
theorem Inv.fresh (I : Inv X pins σ H s) : H s.heap.objs.size = none := I.hok.fresh (Nat.le_refl _)
theorem Inv.lstM (I : Inv X pins σ H s) (hH : H l = some (.lst xs)) : xs.length ≤ sizeLine ∧ ∃ (its : List Value) (n : Nat), Vals xs its ∧ xs.length = its.length ∧ s.heap.get? l = some { cls := .type "list", data := .seq its.toArray n } := by
  obtain ⟨z, its, n, r, e⟩ := I.hok l _ hH
  exact ⟨z, its, n, r, r.length, e⟩
theorem QK {n : Nat} (h : n ≤ sizeLine) : Builtin.List.listTooLong n = false := by
  unfold Builtin.List.listTooLong
  exact decide_eq_false (by omega)
end
section
variable {X : Cx}
def zbX : V → List V → Hp → VK → Prop := fun x vs H Q => ∃ l xs y, x = .ref l ∧ vs = [y] ∧ H l = some (.lst xs) ∧ xs.length < sizeLine ∧ Q .non (upd H l (.lst (xs ++ [y])))
theorem uX : MtM X "list.append" zbX := by
  intro pins s σ H x vs v us Q I rx rv h
  obtain ⟨l, xs, y, rfl, rfl, hH, hz, q⟩ := h
  cases rx
  obtain ⟨u, rfl, ru⟩ := rv.one
  obtain ⟨z, its, n, r, hl, e⟩ := I.lstM hH
  refine call_meets F.slot_list_append ⟨_, e, rfl⟩ F.entry_list_append (F.args_list_append_2 _ _) (PySem.list_append l its.toArray n u (by rw [List.size_toArray]; omega)) ⟨e, ?_⟩
  refine ⟨.non, _, I.lset (its' := its ++ [u]) hH e (by simp) (r.append (.cons ru .nil)) ?_, rfl, q⟩
  rw [List.length_append, List.length_singleton]
  omega
def zb1 : V → List V → Hp → VK → Prop := fun x vs H Q => ∃ l b xs zs, x = .ref l ∧ vs = [.ref b] ∧ H l = some (.lst xs) ∧ H b = some (.lst zs) ∧ xs.length + zs.length ≤ sizeLine ∧ Q .non (upd H l (.lst (xs ++ zs)))
theorem zas : MtM X "list.extend" zb1 := by
  intro pins s σ H x vs v us Q I rx rv h
  obtain ⟨l, b, xs, zs, rfl, rfl, hH, hB, hz, q⟩ := h
  cases rx
  obtain ⟨u, rfl, ru⟩ := rv.one
  cases ru
  obtain ⟨z, its, n, r, hl, e⟩ := I.lstM hH
  obtain ⟨z2, its2, n2, r2, hl2, e2⟩ := I.lstM hB
  have hsz : its.toArray.size + its2.toArray.size ≤ sizeLine := by rw [List.size_toArray, List.size_toArray]; omega
  have hlong : ¬ (!its.toArray.isEmpty && Builtin.List.listTooLong (its.toArray.size + its2.toArray.size)) = true := by
    rw [QK hsz, Bool.and_false]
    exact Bool.false_ne_true
  refine call_meets F.slot_list_extend ⟨_, e, rfl⟩ F.entry_list_extend (F.args_list_extend_2 _ _)
    (AutoSeq1.list_extend_list_list_0 l its.toArray n b its2.toArray n2 hlong (by rw [List.size_toArray]; omega) (by omega)) ⟨e, e2, ?_⟩
  refine ⟨.non, _, I.lset (its' := its ++ its2) hH e (by simp) (r.append r2) ?_, rfl, q⟩
  rw [List.length_append]
  omega
def zeq : V → List V → Hp → VK → Prop := fun x vs H Q => ∃ l xs y, x = .ref l ∧ vs = [] ∧ H l = some (.lst xs) ∧ xs[xs.length - 1]? = some y ∧ Q y (upd H l (.lst xs.dropLast))
theorem zc0 : MtM X "list.pop" zeq := by
  intro pins s σ H x vs v us Q I rx rv h
  obtain ⟨l, xs, y, rfl, rfl, hH, hy, q⟩ := h
  cases rx
  have hus := rv.zero
  subst hus
  obtain ⟨z, its, n, r, hl, e⟩ := I.lstM hH
  obtain ⟨u, hu, ru⟩ := r.get hy
  have hy' : its.toArray[its.toArray.size - 1]? = some u := by
    show its.toArray[its.length - 1]? = some u
    rw [← Array.getElem?_toList, ← hl]
    exact hu
  refine call_meets F.slot_list_pop ⟨_, e, rfl⟩ F.entry_list_pop (F.args_list_pop_1 _) (MeetsSeq.list_pop_last l its.toArray n u hy' (by rw [List.size_toArray]; omega)) ⟨e, ?_⟩
  refine ⟨y, _, I.lset (its' := its.dropLast) hH e ?_ r.dropLast ?_, ru, q⟩
  · show its.toArray.eraseIdxIfInBounds (its.toArray.size - 1) = its.dropLast.toArray
    rw [List.size_toArray, List.eraseIdxIfInBounds_toArray, Jr]
  · rw [List.length_dropLast]
    omega
def zeh : R2 := fun x y H Q => ∃ l b xs zs, x = .ref l ∧ y = .ref b ∧ H l = some (.lst xs) ∧ H b = some (.lst zs) ∧ xs.length + zs.length ≤ sizeLine ∧ ∀ p, H p = none → Q (.ref p) (upd H p (.lst (xs ++ zs)))
theorem Xi : OpR X (binaryOp .Add) zeh := by
  intro pins s σ H x y v u Q I rx ry h
  obtain ⟨l, b, xs, zs, rfl, rfl, hH, hB, hz, q⟩ := h
  cases rx
  cases ry
  obtain ⟨z, its, n, r, hl, e⟩ := I.lstM hH
  obtain ⟨z2, its2, n2, r2, hl2, e2⟩ := I.lstM hB
  refine PySem.P.add_list e e2 ?_ (by rw [List.size_toArray, List.size_toArray]; omega)
  have ea : its.toArray ++ its2.toArray = (its ++ its2).toArray := by simp
  rw [ea]
  exact ⟨.ref _, _, I.lnew (t' := s.toks) (r.append r2) (by rw [List.length_append]; omega), rfl, q _ I.fresh⟩
def zej : R2 := fun x y H Q => ∃ l k xs, x = .ref l ∧ y = .int k ∧ H l = some (.lst xs) ∧ -(2 ^ 63) ≤ k ∧ k < 2 ^ 63 ∧ xs.length * k.toNat ≤ sizeLine ∧
  ∀ p, H p = none → Q (.ref p) (upd H p (.lst (List.replicate k.toNat xs).flatten))
theorem len_rep {α : Type} (xs : List α) (k : Nat) : (List.replicate k xs).flatten.length = k * xs.length := by
  induction k with
  | zero => simp
  | succ k ih => rw [List.replicate_succ, List.flatten_cons, List.length_append, ih, Nat.succ_mul, Nat.add_comm]
theorem zc8 : OpR X (binaryOp .Mult) zej := by
  intro pins s σ H x y v u Q I rx ry h
  obtain ⟨l, k, xs, rfl, rfl, hH, h1, h2, hz, q⟩ := h
  cases rx
  obtain ⟨t, rfl⟩ := ry
  obtain ⟨z, its, n, r, hl, e⟩ := I.lstM hH
  have hlen : its.toArray.size * k.toNat ≤ sizeLine := by rw [List.size_toArray, ← hl]; exact hz
  have hcap : ¬ its.toArray.size * k.toNat > (2 ^ 63 - 1) / 8 := by
    have : (sizeLine : Nat) ≤ (2 ^ 63 - 1) / 8 := by decide
    omega
  have hfit : ¬ (!Builtin.List.listFitsIndex k) = true := by
    rw [fitsIndex_both h1 h2]
    exact Bool.false_ne_true
  have hlong : ¬ Builtin.List.listTooLong (its.toArray.size * k.toNat) = true := by
    rw [QK hlen]
    exact Bool.false_ne_true
  have hnew : List.foldl (fun x1 x2 => x1 ++ x2) #[] (List.replicate (if its.toArray.isEmpty = true then 0 else k.toNat) its.toArray) = (List.replicate k.toNat its).flatten.toArray := by
    have f0 : ∀ m : Nat, List.foldl (fun x1 x2 => x1 ++ x2) #[] (List.replicate m its.toArray) = (List.replicate m its).flatten.toArray := fun m => by
      have := foldl_rep its m []
      rw [List.nil_append] at this
      exact this
    rw [f0]
    cases its with
    | nil => simp
    | cons a r' => rw [if_neg (by simp)]
  refine wpAny_binaryOp_repeat_ref (T := "list") (U := "int") (by decide) ⟨_, e, rfl⟩ (fun s' => typeIs_int s' k t) noFill_list_mul F.fills_int_mul F.slot_int_rmul repeat_list F.slot_int_index.lookup
    (call_meets F.slot_int_rmul (typeIs_int s k t) F.entry_int_rmul (F.args_int_rmul_2 _ _) (int___rmul___int_list k t l its.toArray n)
      ⟨e, rfl, ⟨_, e, rfl⟩, call_meets F.slot_list_mul ⟨_, e, rfl⟩ F.entry_list_mul (F.args_list_mul_2 _ _) (AutoListH.list___mul___list_int_3 l its.toArray n k t hfit hcap hlong) ⟨e, ?_⟩⟩)
  rw [hnew]
  exact ⟨.ref _, _, I.lnew (t' := s.toks) (r.rep k.toNat) (by rw [len_rep, Nat.mul_comm]; exact hz), rfl, q _ I.fresh⟩
end
section
variable {prog : Program} {w : World} {A : Around} {E : Value → Shared → Prop} {s : Shared}
end
section
variable {X : Cx}
end
end L2
namespace Att
open PySem PySem.W PySem.Calls PyProof.Rows
theorem XQ {P : Params} {h : Heap} : ∀ (ns : List Int) (vs : List Value), WellAll P h vs (ns.map WData.int) → IntsAre vs ns := by
  intro ns
  induction ns with
  | nil =>
    intro vs w
    rw [List.map_nil] at w
    cases w
    exact .nil
  | cons n ns ih =>
    intro vs w
    rw [List.map_cons] at w
    cases w with
    | cons a b =>
      cases a
      exact .cons _ _ (ih _ b)
theorem zaL {l : OpenLaw} {n : Nat} (hn : l.most = some n) {P : Params} {h : Heap} {args : List WData} {vals : List Value}
    (hpre : l.row.toRowW.claim.pre args = true) (hwl : WellAll P h vals args) :
    ∃ a vs ns, vals = [Value.ref a] ∧ args = [WData.list (ns.map WData.int)] ∧ h.get? a = some { cls := .type "list", data := .seq vs.toArray } ∧ IntsAre vs ns ∧ ns.length ≤ n := by
  have hsh : WShape.hasAll [] args [.list .int] = true := (pre_splitW hpre).1
  have hc : l.pre.holds [] { args := args } = true := (pre_splitW hpre).2
  obtain ⟨d, r, rfl, h1, h2⟩ := hasAllW_cons hsh
  obtain rfl := hasAllW_nil h2
  obtain ⟨xs, rfl, h3⟩ := hasW_list h1
  obtain ⟨ns, rfl⟩ := items_int h3
  have hlen : ns.length ≤ n := by
    unfold OpenLaw.pre at hc
    have h4 : (WTm.not (.lt (.lit (.int (n : Int))) (.len (.arg 0)))).holds [] { args := [.list (ns.map .int)] } = true := by
      have h4 := (holds_andW hc).1
      rw [hn] at h4
      exact h4
    have h5 := condW_of h4 (w_not (w_lt w_lit (w_len_list (w_arg rfl))))
    rw [List.length_map] at h5
    refine Nat.le_of_not_lt fun q => ?_
    have q' : (n : Int) < ((ns.length : Nat) : Int) := by omega
    first
      | (rw [decide_eq_true q'] at h5; exact absurd h5 (by decide))
      | (simp at h5; omega)
  cases hwl with
  | cons w1 w2 =>
    cases w2
    cases w1 with
    | list ho hall => exact ⟨_, _, ns, rfl, rfl, ho, XQ ns _ hall, hlen⟩
theorem zaB (l : OpenLaw) (args : List WData) : l.row.toRowW.claim.post args (.bool true) args = true :=
  postW_of (r := l.row.toRowW) (X := (true == true))
    (show WShape.has [] (.bool true) .bool = true by first | rfl | decide | simp [WShape.has, WShape.arms, WShape.armsAll])
    (show (WTm.eq .res (.lit (.bool true))).value [] { args := args, res := some (.bool true), after := args } = some (.bool (true == true)) from w_eq_bool (w_res rfl) w_lit) rfl
theorem Jb {l : OpenLaw} {n : Nat} {q : Program} {loose : List Str} {XP : (Str → Option Value) → Heap → Prop} {YP : World → Heap → Prop} {d : DefRec}
    (hn : l.most = some n) (hdf : d.params.defaults = [])
    (call : ∀ (w : World) (s₀ s₁ : Shared) (mg mb : Str → Option Value) (fa : Addr) (o : Obj) (pm cd doc : Value) (a : Addr) (vs : List Value) (ns : List Int),
      Ground q loose [] XP w s₀ mg mb s₁.heap → YP w s₁.heap →
      s₁.heap.get? fa = some o → o.data = .func (docDef d.name d.params d.body d.scope pm cd doc) → s₁.heap.CodeRec cd d.name → mg d.name = some (.ref fa) →
      s₁.heap.get? a = some { cls := .type "list", data := .seq vs.toArray } → IntsAre vs ns → ns.length ≤ n → s₁.gens = #[] →
      codeAny (model l.prog w) callerA (.call (.ref fa) ⟨[.ref a], []⟩) (fun r s' => r = .ok (.ret (.bool true)) ∧ OldK s₁.heap s'.heap ∧ s'.os = s₁.os ∧ AllBare s'.gens) s₁) :
    WalkO q loose XP YP l.row.toRowW d [] (fun f vs => PySem.call f vs) := by
  intro w s₀ s₁ mg mb G Y fa o pm cd doc dV kV ho hd hcd hD hmg hg args vals as hpre hlay hrd hwl hlo
  obtain rfl : dV = .none := Dflts.none hD hdf
  obtain rfl : kV = .none := Dflts.noKw hD
  obtain ⟨a, vs, ns, rfl, rfl, hobj, hints, hlen⟩ := zaL hn hpre hwl
  refine enter_call (codeAny_mono (call w s₀ s₁ mg mb fa o pm cd doc a vs ns G Y ho (fd_plain hd) hcd hmg hobj hints hlen hg) fun r s' hq => ?_)
  obtain ⟨rfl, h2, h3, h4⟩ := hq
  exact ⟨.inl ⟨.bool true, .bool true, [], rfl, fun _ => rfl, .bool true, zaB l _, fun _ => ⟨List.Pairwise.nil, fun _ hm => (nomatch hm)⟩⟩, h2, h3, h4⟩
section
variable {prog : Program} {w : World} {A : Around} {E : Value → Shared → Prop} {s : Shared} {K : Frag}
end
end Att
namespace L2
open PySem PySem.Spec PyProof.Rows
theorem V3 : ∀ {vs : List Value} {ns : List Int}, IntsAre vs ns → Vals (ns.map V.int) vs
  | _, _, .nil => .nil
  | _, _, .cons n t h => .cons ⟨t, rfl⟩ (V3 h)
def inClass (s : Stmt) (j : Nat) : Stmt := match s with
  | .ClassDef _ _ _ body _ _ _ _ _ _ _ => body.getD j (.Pass ⟨0, 0, 0, 0⟩)
  | _ => .Pass ⟨0, 0, 0, 0⟩
def wJ (s : Stmt) : Arguments := match s with
  | .FunctionDef _ a _ _ _ _ _ _ _ _ => a
  | _ => { posonlyargs := [], args := [], vararg := none, kwonlyargs := [], kw_defaults := [], kwarg := none, defaults := [] }
def yS (s : Stmt) : List Stmt := match s with
  | .FunctionDef _ _ b _ _ _ _ _ _ _ => b
  | _ => []
def zq (s : Stmt) : Scope := match s with
  | .FunctionDef _ _ _ _ _ _ sc _ _ _ => sc
  | _ => { kind := .function, names := [], isGenerator := false, isCoroutine := false }
abbrev CX0 : CXT := fun _ _ _ _ _ _ => False
abbrev E0 : XK := fun _ _ _ => False
theorem zah {X : Cx} : Y7 CX0 X E0 := fun _ _ _ _ _ _ _ h => h.elim
structure Fun (K : PySem.W.Frag) (x qual : Str) (st : Stmt) (f : Addr) (fd : FuncData) : Prop where
  ex : ∃ (oc : Value) (od : Option Addr) (kV doc pm : Value) (an : Option Addr) (cdv ct : Value) (osl : Array (Option Value)),
    fd = PySem.W.fnOf x qual (wJ st) (yS st) (zq st) .none kV doc pm an cdv ct ∧ K.lookup f = some ⟨oc, od, .func fd, osl⟩ ∧ PySem.W.codeIn K cdv qual = true
  kp : PySem.W.keepIn K (.ref f) = true
section
variable {P : Program} {w : World} {K : PySem.W.Frag} {mg : Str → Option Value} {base : Heap}
theorem Fun.ok {x qual : Str} {st : Stmt} {f : Addr} {fd : FuncData} {N ps : List Str} {k : Nat} {sp : Sp} (F : Fun K x qual st f fd) (S : zB N ps (zq st)) (len : ∀ vs H Q E, sp vs H Q E → vs.length = ps.length)
    (hbody : ∀ (cdv : Value) (A : Around) (outer : List Env) (s : Shared) (H : Hp) (vs : List V) (Q : VK) (E : XK), Room k (A.deeper (envOfC qual (zq st) s.heap.objs.size f cdv)) → sp vs H Q E →
      ∃ t, PSs (XN CX0 P w K mg base N qual (zq st) f cdv A outer s H E).nox (yS st) t ∧ t { nx := fun _ H' => Q .non H', rt := Q } (start N vs) H) : FnOk P w K mg base CX0 (k + 1) f fd ps sp := by
  obtain ⟨oc, od, kV, doc, pm, an, cdv, ct, osl, rfl, lk, hcd⟩ := F.ex
  refine zcC lk hcd S len fun A outer s H vs Q E hr hsp => ?_
  obtain ⟨t, h, q⟩ := hbody cdv A outer s H vs Q E hr hsp
  exact ⟨t, h.nox, q⟩
theorem Fun.binds {x qual : Str} {st : Stmt} {f : Addr} {fd : FuncData} {ps : List Str} (F : Fun K x qual st f fd)
    (h : ∀ (kV doc pm : Value) (an : Option Addr) (cdv ct : Value) (us : List Value), us.length = ps.length → bindArgs (PySem.W.fnOf x qual (wJ st) (yS st) (zq st) .none kV doc pm an cdv ct) ⟨us, []⟩ = pure (ps.zip us)) : Binds K fd ps [] := by
  obtain ⟨oc, od, kV, doc, pm, an, cdv, ct, osl, rfl, lk, hcd⟩ := F.ex
  exact .all (h kV doc pm an cdv ct)
theorem Ql {x qual : Str} {st : Stmt} {f : Addr} {oc : Value} {od an : Option Addr} {osl : Array (Option Value)} {kV doc pm cdv ct : Value} (l : K.lookup f = some ⟨oc, od, .func (PySem.W.fnOf x qual (wJ st) (yS st) (zq st) .none kV doc pm an cdv ct), osl⟩)
    (c : PySem.W.codeIn K cdv qual = true) (k : PySem.W.keepIn K (.ref f) = true) : Fun K x qual st f (PySem.W.fnOf x qual (wJ st) (yS st) (zq st) .none kV doc pm an cdv ct) := ⟨⟨oc, od, kV, doc, pm, an, cdv, ct, osl, rfl, l, c⟩, k⟩
end
section
variable {X : Cx}
theorem pv (i : Nat) {x : Str} {pos : Pos} (hN : X.N[i]? = some x := by rfl) (hv : Vis X.env.scope x := by first | exact Or.inl rfl | exact Or.inr (Or.inl rfl) | exact Or.inr (Or.inr rfl)) (hd : (x == ("__debug__" : Str)) = false := by decide)
    (hcd : (x == ("__classdict__" : Str)) = false := by decide) : PE X (.Name x pos) (Xc i) := zc1 hN hv hd hcd
end
theorem xT {A B : Prop} (h : B) : if false = true then A else B := by
  rw [if_neg Bool.false_ne_true]
  exact h
theorem wO {A B : Prop} (h : A) : if true = true then A else B := by
  rw [if_pos rfl]
  exact h
theorem X6 {c A B : Prop} [Decidable c] (h1 : c → A) (h2 : ¬ c → B) : if c then A else B := by
  by_cases h : c
  · rw [if_pos h]
    exact h1 h
  · rw [if_neg h]
    exact h2 h
def Same (H H' : Hp) : Prop := ∀ b o, H b = some o → H' b = some o
theorem Same.refl (H : Hp) : Same H H := fun _ _ h => h
theorem Same.trans {H H1 H2 : Hp} (a : Same H H1) (b : Same H1 H2) : Same H H2 := fun c o h => b c o (a c o h)
theorem Same.free {H H' : Hp} (e : Same H H') {l : Addr} (h : H' l = Option.none) : H l = Option.none := by
  cases q : H l with
  | none => rfl
  | some o =>
    rw [e l o q] at h
    cases h
theorem Same.seq {K : PySem.W.Frag} {H H' : Hp} {a : Addr} {xs : List V} (e : Same H H') (h : SqL K H a xs) : SqL K H' a xs := by
  rcases h with (h | ⟨o, h⟩) | h
  · exact .inl (.inl (e _ _ h))
  · exact .inl (.inr ⟨o, e _ _ h⟩)
  · exact .inr h
def xq (cells : List (Str × Addr)) : List (Str × NameKind) → List (Str × Addr) → List (Str × Addr)
  | [], cs => cs
  | (n, k) :: r, cs => xq cells r (if k = .free then (match cells.lookup n with | some c => (n, c) :: cs | none => cs) else cs)
theorem jP {env : Env} : ∀ (names : List (Str × NameKind)) (cs : List (Str × Addr)), (∀ x ∈ names, x.2 = .free → ∃ c, env.cells.lookup x.1 = some c) →
    (forIn names cs fun (x : Str × NameKind) (r : List (Str × Addr)) => if (x.2 == .free) = true then (do let c ← cellOf env x.1; pure (ForInStep.yield ((x.1, c) :: r)) : Sem _) else pure (ForInStep.yield r)) = pure (xq env.cells names cs)
  | [], cs, _ => rfl
  | (n, k) :: r, cs, h => by
    have ih := fun cs' => jP (env := env) r cs' fun x hx => h x (List.mem_cons_of_mem _ hx)
    rw [List.forIn_cons]
    by_cases hk : k = .free
    · subst hk
      obtain ⟨c, hc⟩ := h (n, .free) List.mem_cons_self rfl
      have e : cellOf env n = pure c := by unfold cellOf; rw [hc]
      simp only [beq_self_eq_true, if_true, e, pure_bind, xq, hc]
      exact ih _
    · have hb : (k == NameKind.free) = false := by simpa using hk
      simp only [hb, Bool.false_eq_true, if_false, pure_bind, xq, hk]
      exact ih _
theorem qW {scope : Scope} {env : Env} (h : ∀ x ∈ scope.names, x.2 = .free → ∃ c, env.cells.lookup x.1 = some c) : closureFor scope env = pure (xq env.cells scope.names []) := by
  have e := jP scope.names [] h
  unfold closureFor
  first
    | (simp only [bind_pure]; exact e)
    | (show (forIn scope.names [] _ >>= fun r => pure r) = _
       rw [show (forIn scope.names ([] : List (Str × Addr)) _ : Sem _) = _ from e]
       rfl)
theorem vf {cells : List (Str × Addr)} {y : Str} {c : Addr} : ∀ {names : List (Str × NameKind)} {cs : List (Str × Addr)}, (∀ y c, cs.lookup y = some c → cells.lookup y = some c) → (xq cells names cs).lookup y = some c → cells.lookup y = some c
  | [], cs, h, e => h y c e
  | (n, k) :: r, cs, h, e => by
    refine vf (names := r) ?_ e
    intro y' c' e'
    by_cases hk : k = .free
    · rw [if_pos hk] at e'
      cases q : cells.lookup n with
      | none => rw [q] at e'; exact h _ _ e'
      | some d =>
        rw [q] at e'
        simp only [List.lookup_cons] at e'
        cases hb : y' == n with
        | true =>
          rw [hb] at e'
          cases e'
          have : y' = n := by simpa using hb
          rw [this]; exact q
        | false => rw [hb] at e'; exact h _ _ e'
    · rw [if_neg hk] at e'; exact h _ _ e'
theorem Z5 {cells : List (Str × Addr)} {y : Str} : ∀ {names : List (Str × NameKind)} {cs : List (Str × Addr)}, ((∃ c, cs.lookup y = some c) ∨ ((y, NameKind.free) ∈ names ∧ ∃ c, cells.lookup y = some c)) → ∃ c, (xq cells names cs).lookup y = some c
  | [], cs, h => by
    rcases h with h | ⟨h, _⟩
    · exact h
    · cases h
  | (n, k) :: r, cs, h => by
    refine Z5 (names := r) ?_
    rcases h with ⟨c, h⟩ | ⟨h, c, hc⟩
    · left
      by_cases hk : k = .free
      · rw [if_pos hk]
        cases q : cells.lookup n with
        | none => exact ⟨c, h⟩
        | some d =>
          simp only [List.lookup_cons]
          cases hb : y == n with
          | true => exact ⟨d, rfl⟩
          | false => exact ⟨c, h⟩
      · rw [if_neg hk]; exact ⟨c, h⟩
    · rcases List.mem_cons.mp h with e | h
      · cases e
        left
        rw [if_pos rfl, hc]
        exact ⟨c, by simp⟩
      · exact .inr ⟨h, c, hc⟩
theorem yL {env : Env} : ∀ {names : List (Str × NameKind)} {x : Str} {k : NameKind},
    (names.map fun (n, k) => if (k == NameKind.free && env.scope.kind == .function && env.kindOf n == some .cell) then (n, NameKind.cell) else (n, k)).lookup x = some k → names.lookup x = some k ∨ (k = .cell ∧ names.lookup x = some .free)
  | [], _, _, h => by simp at h
  | (n, k0) :: r, x, k, h => by
    have ih := @yL env r x k
    rw [List.map_cons] at h
    by_cases hc : (k0 == NameKind.free && env.scope.kind == .function && env.kindOf n == some .cell) = true
    · simp only [hc, if_true, List.lookup_cons] at h
      have hk0 : k0 = .free := by
        simp only [Bool.and_eq_true] at hc
        simpa using hc.1.1
      cases hx : x == n with
      | true => rw [hx] at h; cases h; right; simp [List.lookup_cons, hx, hk0]
      | false => rw [hx] at h; simp only [List.lookup_cons, hx]; exact ih h
    · have hc' : (k0 == NameKind.free && env.scope.kind == .function && env.kindOf n == some .cell) = false := by simpa using hc
      simp only [hc', Bool.false_eq_true, if_false, List.lookup_cons] at h
      cases hx : x == n with
      | true => rw [hx] at h; cases h; left; simp [List.lookup_cons, hx]
      | false => rw [hx] at h; simp only [List.lookup_cons, hx]; exact ih h
def cxC (X : Cx) (N : List Str) (scope : Scope) (C : Addr) (s₀ : Shared) (H₀ : Hp) (ex : List Addr) : Cx where
  prog := X.prog
  w := X.w
  K := X.K
  mg := X.mg
  base := X.base
  A := X.A
  N := N
  s₀ := s₀
  H₀ := H₀
  env := compEnvC scope (xq X.env.cells scope.names []) C X.env
  outer := X.stack
  stack := X.stack
  ex := ex
  fn := fun _ => false
  calm := X.calm
  pn := []
  xe := fun _ _ => False
def yN (js : List Nat) (σ : St) : St := js.map fun j => (σ[j]?).join
theorem QV {js : List Nat} {σ : St} {i : Nat} {v : V} (h : (yN js σ)[i]? = some (some v)) : ∃ j, js[i]? = some j ∧ σ[j]? = some (some v) := by
  unfold yN at h
  rw [List.getElem?_map] at h
  cases e : js[i]? with
  | none => rw [e] at h; cases h
  | some j =>
    rw [e] at h
    have h' : (σ[j]?).join = some v := Option.some.inj h
    refine ⟨j, rfl, ?_⟩
    cases q : σ[j]? with
    | none => rw [q] at h'; cases h'
    | some z => rw [q] at h'; exact congrArg some h'
structure CScope (sc : Scope) (scope : Scope) (x : Str) (M : List Str) (ys : List Str) (js : List Nat) : Prop where
  kind : scope.kind = .function
  cell : ∀ y ∈ scope.names, y.2 ≠ .cell
  loc : ∀ y ∈ scope.names, y.2 = .local → scope.names.lookup y.1 = some .local
  var : scope.names.lookup x = some .local
  free : ∀ y ∈ scope.names, y.2 = .free → sc.names.lookup y.1 = some .cell ∨ sc.names.lookup y.1 = some .free
  caps : js.map (M[·]?) = ys.map some
  fr : ∀ y ∈ ys, scope.names.lookup y = some .free
  nd : (x :: ys).Nodup
section
variable {X : Cx} {pins : List (Addr × Obj)} {σ : St} {H : Hp} {s : Shared}
theorem za1 {scope : Scope} {x : Str} {ys : List Str} {js : List Nat} {fp : List Addr} {h₁ : Heap} {tk : Nat} {C : Addr} (I : Inv X pins σ H s) (S : CScope X.env.scope scope x X.N ys js) (hf : ∀ b ∈ fp, XM X pins H b) (ho : ∀ b ∈ fp, ∃ o, s.heap.get? b = some o)
    (hC : s.heap.objs.size ≤ C) (hk : ∀ b o, s.heap.get? b = some o → h₁.get? b = some o) (hn : h₁.Ns C fun _ => none) :
    Inv (cxC X (x :: ys) scope C s H fp) [] (none :: yN js σ) H { s with heap := h₁, toks := tk } := by
  have sub : ∀ y c, (xq X.env.cells scope.names []).lookup y = some c → X.env.cells.lookup y = some c := fun y c e => vf (fun _ _ z => by simp at z) e
  have has : ∀ y, scope.names.lookup y = some .free → ∃ c, (xq X.env.cells scope.names []).lookup y = some c := fun y e => by
    have m : (y, NameKind.free) ∈ scope.names := PySem.mem_of_lookup e
    exact Z5 (.inr ⟨m, I.ok.has y (S.free _ m rfl)⟩)
  have lt : ∀ b ∈ fp, b < s.heap.objs.size := fun b hb => by obtain ⟨o, e⟩ := ho b hb; exact Heap.lt_size e
  have ok : (cxC X (x :: ys) scope C s H fp).Ok := by
    refine ⟨I.ok.mod, S.kind, I.ok.glob, I.ok.blt, hC, fun y z c e1 e2 => I.ok.inj y z c (sub _ _ e1) (sub _ _ e2), fun y hy => ?_, fun y c z => ?_, I.ok.hd, I.ok.frames, .inl rfl, fun b hb => ?_, I.bs, Nat.le_trans I.ok.bsz I.sz, fun b o e hb => ?_, fun b hb z => ?_, I.stack, I.stkFree⟩
    · have hy' : (relabel scope X.env).names.lookup y = some .cell ∨ (relabel scope X.env).names.lookup y = some .free := hy
      have nocell : scope.names.lookup y ≠ some .cell := fun z => S.cell _ (PySem.mem_of_lookup z) rfl
      rcases hy' with e | e
      · rcases yL e with z | ⟨_, z⟩
        · exact absurd z nocell
        · exact has y z
      · rcases yL e with z | ⟨z, _⟩
        · exact has y z
        · cases z
    · exact absurd (show false = true from z) Bool.false_ne_true
    · refine ⟨Nat.ne_of_lt (Nat.lt_of_lt_of_le (lt b hb) hC), fun y c e => (hf b hb).2.2.2.2.1 y c (sub y c e)⟩
    · rcases (hf b hb).2.2.2.1 with z | z
      · exact I.ok.noex b o e z
      · exact absurd (Nat.lt_of_lt_of_le (Heap.lt_size e) (Nat.le_trans I.ok.bsz z)) (Nat.lt_irrefl _)
    · rcases List.mem_cons.mp (I.stkSub b z) with e | e
      · exact (hf b hb).2.1 e
      · exact (hf b hb).2.2.1 e
  refine ⟨ok, rfl, I.bare, Un.kept hk, ⟨_, hn, fun i y v e1 e2 e3 => ?_⟩, fun y c e => ?_, I.hok.fresh hC, fun y c e => I.freeC y c (sub y c e), fun p hp => absurd (show p ∈ ([] : List (Addr × Obj)) from hp) (by simp), I.hok.kept hk, ?_⟩
  · cases i with
    | zero => simp at e2
    | succ i =>
      have e1' : ys[i]? = some y := by simpa [cxC] using e1
      have e2' : (yN js σ)[i]? = some (some v) := by simpa using e2
      obtain ⟨j, hj, hσ⟩ := QV e2'
      have hN : X.N[j]? = some y := by
        have z := congrArg (fun l => l[i]?) S.caps
        simp only [List.getElem?_map, hj, e1', Option.map_some] at z
        exact Option.some.inj z
      have hfr := S.fr y (List.mem_of_getElem? e1')
      have m : (y, NameKind.free) ∈ scope.names := PySem.mem_of_lookup hfr
      have hkind := S.free _ m rfl
      obtain ⟨m', hns, hl⟩ := I.loc
      obtain ⟨u, r, lk⟩ := hl j y v hN hσ (by rcases hkind with z | z; exact .inr (.inl z); exact .inr (.inr z))
      refine ⟨u, r, .inr ⟨?_, ?_⟩⟩
      · have e3' : (relabel scope X.env).names.lookup y = some .local ∨ (relabel scope X.env).names.lookup y = some .cell ∨ (relabel scope X.env).names.lookup y = some .free := e3
        rcases e3' with z | z | z
        · rcases yL z with q | ⟨q, _⟩
          · rw [hfr] at q; cases q
          · cases q
        · exact .inl z
        · exact .inr z
      · obtain ⟨c, hc⟩ := has y hfr
        refine ⟨c, hc, ?_⟩
        rcases lk with ⟨z, _⟩ | ⟨_, c', hc', cell⟩
        · rcases hkind with q | q
          · have q' : X.env.kindOf y = some .cell := q
            rw [show X.env.kindOf y = some .local from z] at q'; cases q'
          · have q' : X.env.kindOf y = some .free := q
            rw [show X.env.kindOf y = some .local from z] at q'; cases q'
        · rw [sub y c hc] at hc'
          cases hc'
          obtain ⟨o, e, d⟩ := cell
          exact ⟨o, hk _ _ e, d⟩
  · obtain ⟨v, o, e', d⟩ := I.cell y c (sub y c e)
    exact ⟨v, o, hk _ _ e', d⟩
  · have z := congrArg List.length S.caps
    simp only [List.length_map] at z
    show (none :: yN js σ).length = (x :: ys).length
    simp [yN, z]
end
theorem zaT {α β : Type} {M : Model} {A : Around} {a : α} {Q : α → Shared → Prop} {E E' : Value → Shared → Prop} {s : Shared} {t : Sem β} {Q' : β → Shared → Prop} (h : wpAny M A (pure a) Q E s) (k : Q a s → wpAny M A t Q' E' s) : wpAny M A t Q' E' s :=
  fun Γ p hΓ => k (h Γ p hΓ) Γ p hΓ
def PTs (X : Cx) (ifs : List Expr) (t : TT) : Prop :=
  ∀ (pins : List (Addr × Obj)) (s : Shared) (σ : St) (H : Hp) (Q : Bool → Hp → Prop), Inv X pins σ H s → t σ H Q →
    wpAny (model X.prog X.w) X.A (forIn ifs true fun c r => if r = true then do let ok ← isTrue c X.env (eval c X.env); pure (ForInStep.yield ok) else pure (ForInStep.yield r)) (TP X pins σ Q) X.xe s
def jf : TT := fun _ H Q => Q true H
theorem yD {X : Cx} : PTs X [] jf := fun pins s σ H Q I h => wpAny_tests_nil ⟨H, I, h⟩
theorem Zy {X : Cx} {c : Expr} {t : TT} (h : PT X c t) : PTs X [c] t := fun pins s σ H Q I hw => wpAny_tests_one (h pins s σ H Q I hw)
def CompLoop (J : It) (js : List Nat) (tt : TT) (te : TE) (σ : St) (Q : VK) (H : Hp) : Prop := ∃ W : Nat → Nat → List V → Hp → Prop, (∃ m, W 0 m [] H) ∧ ∀ i m ys H, W i m ys H →
  (J.stop i H ∧ ∀ D, H D = none → Q (.ref D) (upd H D (.lst ys))) ∨
  (J.go i H ∧ ys.length < sizeLine ∧ ∃ N : List V → Hp → Prop, (∀ ys' H', N ys' H' → ∃ m', m' < m ∧ W (i + 1) m' ys' H') ∧ ∀ x H', J.yld i H x H' → tt (some x :: yN js σ) H' fun b H2 => if b = true then te (some x :: yN js σ) H2 fun v H3 => N (ys ++ [v]) H3 else N ys H2)
def zcE (wi : TI) (js : List Nat) (tt : TT) (te : TE) : TE := fun σ H Q => wi σ H fun J H1 => CompLoop J js tt te σ Q H1
theorem HOk.track {P : Program} {w : World} {H : Hp} {h : Heap} {a : Addr} {o : HO} (x : HOk P w H h) (hn : H a = none) (new : ObjOk P w (upd H a o) h a o) : HOk P w (upd H a o) h := fun b u e => by
  by_cases hb : b = a
  · subst hb; rw [zf] at e; cases e; exact new
  · rw [zr hb] at e
    exact (x b u e).stay (fun _ _ _ q => q) (fun c q => by rw [zr (zx q hn)]; exact q) fun c xs q => by rw [zr (zx q hn)]; exact q
section
variable {X : Cx} {elt iter : Expr} {ifs : List Expr} {x : Str} {px pos : Pos} {scope : Scope} {ys : List Str} {js : List Nat} {wi : TI} {tt : TT} {te : TE}
theorem WX {pins : List (Addr × Obj)} {σ : St} {H : Hp} {s : Shared} {J : It} {fp : List Addr} {it : Addr} {tn : Nat → Heap → Prop} {Q : VK} {E : Value → Shared → Prop} {R : Value → Addr → Result → Shared → Prop}
    (S : CScope X.env.scope scope x X.N ys js) (hc : X.calm = true) (ht : ∀ C s₀ H₀ ex, PTs (cxC X (x :: ys) scope C s₀ H₀ ex) ifs tt) (he : ∀ C s₀ H₀ ex, PE (cxC X (x :: ys) scope C s₀ H₀ ex) elt te)
    (I : Inv X pins σ H s) (T : Turn X.prog X.w X.K (.Name x px) J fp it tn) (st : tn 0 s.heap) (hf : ∀ b ∈ fp, XM X pins H b)
    (hw : ∃ W : Nat → Nat → List V → Hp → Prop, (∃ m, W 0 m [] H) ∧ ∀ i m zs H, W i m zs H →
      (J.stop i H ∧ ∀ D, H D = none → Q (.ref D) (upd H D (.lst zs))) ∨
      (J.go i H ∧ zs.length < sizeLine ∧ ∃ N : List V → Hp → Prop, (∀ ys' H', N ys' H' → ∃ m', m' < m ∧ W (i + 1) m' ys' H') ∧ ∀ x H', J.yld i H x H' → tt (some x :: yN js σ) H' fun b H2 => if b = true then te (some x :: yN js σ) H2 fun v H3 => N (zs ++ [v]) H3 else N zs H2))
    (hR : ∀ D C s' H' m', Inv X pins σ H' s' → Q (.ref D) H' → s.heap.objs.size ≤ C → H' C = none → s'.heap.Ns C m' → R (.ref D) C (.ok .next) s') :
    wpAny (model X.prog X.w) X.A (newList []) (fun acc s₃ => wpAny (model X.prog X.w) X.A (newFunctionEnv scope X.env.globals (xq X.env.cells scope.names []) [] X.env.qual none .none (some X.env)) (fun cenv s₄ =>
      codeAny (model X.prog X.w) X.A (.compStart (.ListComp elt [⟨.Name x px, iter, ifs, 0⟩] scope pos) 0 (.ref it) acc { cenv with scope := relabel scope X.env }) (R acc cenv.locals) s₄) E s₃) E s := by
  obtain ⟨W, ⟨m0, w0⟩, turn⟩ := hw
  refine wpAny_newObj_type (wpAny_newFunctionEnv S.cell (by intro y hy; simp at hy) (fun h₁ hns₁ hsb₁ => ?_) S.kind)
  dsimp only at hns₁ hsb₁ ⊢
  generalize hH2 : s.heap.push { cls := .type "list", dict := none, data := .seq ([] : List Value).toArray } = G at hns₁ hsb₁ ⊢
  generalize hD : s.heap.objs.size = D at *
  generalize hCe : G.objs.size = C at *
  have hC : C = D + 1 := by rw [← hCe, ← hH2, Heap.size_push, hD]
  have hDlt : D < C := by rw [hC]; exact Nat.lt_succ_self D
  have hDC : D ≠ C := Nat.ne_of_lt hDlt
  have old : ∀ b o, s.heap.get? b = some o → h₁.get? b = some o := fun b o e => by
    have hb : b < D := hD ▸ Heap.lt_size e
    exact (hsb₁.2 b (Nat.ne_of_lt (Nat.lt_trans hb hDlt))).trans (Heap.get?_push_of_some _ (hH2 ▸ Heap.get?_push_of_some _ e))
  have hacc : h₁.get? D = some { cls := .type "list", data := .seq ([] : List Value).toArray 0 } := by
    refine (hsb₁.2 D hDC).trans (Heap.get?_push_of_some _ ?_)
    rw [← hH2, ← hD]
    exact Heap.get?_push_size _ rfl
  have obj0 := T.obj 0 _ st
  have fplt : ∀ b ∈ fp, b < D := fun b hb => by obtain ⟨o, e, _⟩ := obj0 b hb; exact hD ▸ Heap.lt_size e
  generalize hX : cxC X (x :: ys) scope C s H fp = X'
  have I1 : Inv X' [] (none :: yN js σ) H { s with heap := h₁, toks := s.toks + ([] : List (Str × Value)).length } := by
    subst hX
    exact za1 I S hf (fun b hb => by obtain ⟨o, e, _⟩ := obj0 b hb; exact ⟨o, e⟩) (by omega) old (by simpa using hns₁)
  have eP : X'.prog = X.prog := by subst hX; rfl
  have eW : X'.w = X.w := by subst hX; rfl
  have eK : X'.K = X.K := by subst hX; rfl
  have eA : X'.A = X.A := by subst hX; rfl
  have eC : X'.calm = true := by subst hX; exact hc
  have eL : X'.env.locals = C := by subst hX; rfl
  have eS : X'.s₀ = s := by subst hX; rfl
  have eN : X'.N = x :: ys := by subst hX; rfl
  have eE : X'.env = compEnvC scope (xq X.env.cells scope.names []) C X.env := by subst hX; rfl
  have eXe : X'.xe = fun _ _ => False := by subst hX; rfl
  have eX : X'.ex = fp := by subst hX; rfl
  have ePn : X'.pn = [] := by subst hX; rfl
  have efs : ∀ b, b ∈ X'.fs → b ∈ frs X.stack := fun b z => by subst hX; exact z
  have cellLt : ∀ y c, X'.env.cells.lookup y = some c → c < D := fun y c e => by
    have e' : (xq X.env.cells scope.names []).lookup y = some c := by rw [eE] at e; exact e
    obtain ⟨v, o, e2, _⟩ := I.cell y c (vf (fun _ _ z => by simp at z) e')
    exact hD ▸ Heap.lt_size e2
  have frLt : ∀ b, b ∈ X'.fs → b < D := fun b z => by
    rcases List.mem_cons.mp (I.stkSub b (efs b z)) with e | e
    · rw [e]; exact hD ▸ I.lt
    · exact Nat.lt_of_not_le fun h => I.nofs (hD ▸ h) e
  have fpOk : ∀ (p : List (Addr × Obj)) (H' : Hp), (∀ b ∈ fp, H' b = none) → (∀ q ∈ p, q.1 = D) → ∀ b ∈ fp, XM X' p H' b := fun p H' hn hp b hb => by
    refine ⟨hn b hb, ?_, fun z => ?_, .inl (eX ▸ hb), fun y c e => ?_, fun q hq => ?_⟩
    · rw [eL]; exact Nat.ne_of_lt (Nat.lt_trans (fplt b hb) hDlt)
    · rcases List.mem_cons.mp (I.stkSub b (efs b z)) with e | e
      · exact (hf b hb).2.1 e
      · exact (hf b hb).2.2.1 e
    · have e' : (xq X.env.cells scope.names []).lookup y = some c := by rw [eE] at e; exact e
      exact (hf b hb).2.2.2.2.1 y c (vf (fun _ _ z => by simp at z) e')
    · rw [ePn, List.nil_append] at hq
      rw [hp q hq]; exact Nat.ne_of_gt (fplt b hb)
  have noCell : ∀ (its : List Value) (k : Nat) v, ({ cls := .type "list", data := .seq its.toArray k } : Obj).data ≠ .cell v := fun its k v z => by cases z
  have done : ∀ {zs : List V} {its : List Value} {k : Nat} {H' : Hp} {s' : Shared}, Inv X' [] (none :: yN js σ) H' s' → s'.heap.get? D = some { cls := .type "list", data := .seq its.toArray k } → Vals zs its → H' D = none → zs.length ≤ sizeLine →
      (∀ D, H' D = none → Q (.ref D) (upd H' D (.lst zs))) → R (.ref D) C (.ok .next) s' := fun {zs its k H' s'} I' hd hv hn hz q => by
    have un := I'.base
    obtain ⟨m', hns, _⟩ := I'.loc
    rw [eL] at hns
    have hCn : H' C = none := by have := I'.free; rw [eL] at this; exact this
    have hH0 : X'.H₀ = H := by subst hX; rfl
    rw [hH0, eS, eX] at un
    have un2 : Un (frs X.stack) fp H (upd H' D (.lst zs)) s.heap s'.heap := by
      have ne : ∀ b o, s.heap.get? b = some o → b ≠ D := fun b o e => Nat.ne_of_lt (hD ▸ Heap.lt_size e)
      have un' : Un (frs X.stack) fp H H' s.heap s'.heap := by subst hX; exact un
      exact ⟨un'.keep, un'.slot, fun b o e n hx => by rw [zr (ne b o e)]; exact un'.free b o e n hx, un'.there, fun b xs e => by rw [zr (zx (un'.tups b xs e) hn)]; exact un'.tups b xs e,
        fun b o u e => by rw [zr (zx (un'.frzs b o u e) hn)]; exact un'.frzs b o u e, fun b ps e => by
          obtain ⟨more, z⟩ := un'.tbls b ps e
          exact ⟨more, by rw [zr (zx z hn)]; exact z⟩⟩
    have hok : HOk X.prog X.w (upd H' D (.lst zs)) s'.heap := by
      have h0 := I'.hok
      rw [eP, eW] at h0
      exact h0.track hn ⟨hz, its, k, hv, hd⟩
    have I2 : Inv X pins σ (upd H' D (.lst zs)) s' := I.call' (by have := I'.os; rw [eS] at this; exact this) un2 hok I'.bare fun b hb => ⟨(hf b hb).2.2.2.1, (hf b hb).2.1, (hf b hb).2.2.2.2.1, (hf b hb).2.2.2.2.2⟩
    exact hR D C s' _ m' I2 (q D hn) (by omega) (by rw [zr (Ne.symm hDC)]; exact hCn) hns
  have loop : codeAny (model X.prog X.w) X.A (.compLoop (.ListComp elt [⟨.Name x px, iter, ifs, 0⟩] scope pos) 0 (.ref it) (.ref D) X'.env) (R (.ref D) C) { s with heap := h₁, toks := s.toks + ([] : List (Str × Value)).length } := by
    refine codeAny_compLoop_tests (fun n s' => ∃ i zs its k H', Inv X' [] (none :: yN js σ) H' s' ∧ tn i s'.heap ∧ (∀ b ∈ fp, H' b = none) ∧ s'.heap.get? D = some { cls := .type "list", data := .seq its.toArray k } ∧ Vals zs its ∧ H' D = none ∧ zs.length ≤ sizeLine ∧ W i n zs H')
      ?_ m0 ⟨0, [], [], 0, H, I1, T.keep _ _ _ st (fun b hb o e => old b o e), fun b hb => (hf b hb).1, hacc, .nil, I.hok.fresh (by omega), Nat.zero_le _, w0⟩ (fun _ => rfl)
    rintro n s3 ⟨i, zs, its, k, H3, I3, st3, fr3, d3, v3, n3, z3, w3⟩
    have pinD : Inv X' [(D, { cls := .type "list", data := .seq its.toArray k })] (none :: yN js σ) H3 s3 := I3.pins_of fun p hp => by
      have e : p = (D, { cls := .type "list", data := .seq its.toArray k }) := by simpa using hp
      subst e
      exact ⟨d3, n3, by rw [eL]; exact hDC, fun z => Nat.lt_irrefl _ (frLt D z), noCell its k⟩
    have hpD : ∀ q ∈ [(D, ({ cls := .type "list", data := .seq its.toArray k } : Obj))], q.1 = D := fun q hq => by
      have e : q = (D, { cls := .type "list", data := .seq its.toArray k }) := by simpa using hq
      rw [e]
    rcases turn i n zs H3 w3 with ⟨stop, qn⟩ | ⟨go, hzl, NN, hNN, step⟩
    · refine thn (eA ▸ T.done X' eP eW eK eC i _ s3 _ H3 _ pinD (fpOk _ _ fr3 hpD) st3 stop) fun r s4 ⟨hr, I4⟩ => ?_
      subst hr
      exact done (I4.pins_of fun p hp => absurd hp (by simp)) (I4.pin (D, { cls := .type "list", data := .seq its.toArray k }) (List.mem_append_right _ (by simp))).1 v3 n3 z3 qn
    · refine thn (eA ▸ T.item X' eP eW eK eC i _ s3 _ H3 _ pinD (fpOk _ _ fr3 hpD) st3 go) fun r s4 ⟨u, hr, h4⟩ => ?_
      subst hr
      refine zaT (a := ()) h4 fun ⟨v, H5, I5, r5, y5, st5, fr5⟩ => ?_
      have I5' := I5.pinned (fpOk _ _ fr5 hpD) (T.obj _ _ st5)
      have ev : ∀ {α : Type} {t : Sem α} {Q' : α → Shared → Prop} {E' : Value → Shared → Prop} {s' : Shared}, wpAny (model X'.prog X'.w) X'.A t Q' X'.xe s' → wpAny (model X.prog X.w) X.A t Q' E' s' := fun {α t Q' E' s'} hh => by
        rw [eP, eW, eA, eXe] at hh
        exact wpAny_mono hh (fun _ _ q => q) fun _ _ z => z.elim
      refine ev (thn (zY (X := X') (i := 0) (by rw [eN]; exact S.nd) (by rw [eN]; rfl) (.inl (by rw [eE]; exact lookup_relabel_local S.var)) (.inr (by rw [eE]; exact lookup_relabel_local S.var)) _ s4 _ H5 v u (fun σ' H' => σ' = some v :: yN js σ ∧ H' = H5) I5' r5 ⟨rfl, rfl⟩) fun _ s6 ⟨σ6, H6, I6, e6, e6'⟩ => ?_)
      subst e6 e6'
      have back : ∀ {σ' : St} {H7 : Hp} {s7 : Shared}, Inv X' ([(D, { cls := .type "list", data := .seq its.toArray k })] ++ Zd fp s4.heap) (some v :: yN js σ) H7 s7 → Inv X' [] (none :: yN js σ) H7 s7 := fun {_ H7 s7} I7 => by
        refine (I7.pins_of fun p hp => absurd hp (by simp)).weak rfl fun i v' e => ?_
        cases i with
        | zero => simp at e
        | succ i => simpa using e
      have fps : ∀ {σ' : St} {H7 : Hp} {s7 : Shared}, Inv X' ([(D, { cls := .type "list", data := .seq its.toArray k })] ++ Zd fp s4.heap) σ' H7 s7 → (∀ b ∈ fp, H7 b = none) ∧ (∀ b ∈ fp, ∀ o, s4.heap.get? b = some o → s7.heap.get? b = some o) ∧ s7.heap.get? D = some { cls := .type "list", data := .seq its.toArray k } ∧ H7 D = none := fun {σ' H7 s7} I7 => by
        have g : ∀ b ∈ fp, ∀ o, s4.heap.get? b = some o → s7.heap.get? b = some o ∧ H7 b = none := fun b hb o e => by
          have z := I7.pin (b, o) (List.mem_append_right _ (List.mem_append_right _ (jM hb e)))
          exact ⟨z.1, z.2.1⟩
        refine ⟨fun b hb => ?_, fun b hb o e => (g b hb o e).1, (I7.pin (D, { cls := .type "list", data := .seq its.toArray k }) (List.mem_append_right _ (by simp))).1, (I7.pin (D, { cls := .type "list", data := .seq its.toArray k }) (List.mem_append_right _ (by simp))).2.1⟩
        obtain ⟨o, e, _⟩ := T.obj _ _ st5 b hb
        exact (g b hb o e).2
      have hte : PTs X' ifs tt := hX ▸ ht C s H fp
      have hee : PE X' elt te := hX ▸ he C s H fp
      refine ev (thn (hte _ s6 _ H6 _ I6 (step v H6 y5)) fun b s7 ⟨H7, I7, q7⟩ => ?_)
      cases b with
      | false =>
        rw [if_neg Bool.false_ne_true]
        rw [if_neg Bool.false_ne_true] at q7
        obtain ⟨m', hm, w7⟩ := hNN _ _ q7
        obtain ⟨g1, g2, g3, g4⟩ := fps I7
        exact ⟨m', hm, i + 1, zs, its, k, H7, back (σ' := []) I7, T.keep _ _ _ st5 g2, g1, g3, v3, g4, z3, w7⟩
      | true =>
        rw [if_pos rfl]
        rw [if_pos rfl] at q7
        refine ev (thn (hee _ s7 _ H7 _ I7 q7) fun u8 s8 ⟨v8, H8, I8, r8, q8⟩ => ?_)
        obtain ⟨m', hm, w8⟩ := hNN _ _ q8
        obtain ⟨g1, g2, g3, g4⟩ := fps I8
        have hil := v3.length
        refine call_meets F.slot_list_append ⟨_, g3, rfl⟩ F.entry_list_append (F.args_list_append_2 _ _) (PySem.list_append D its.toArray k u8 (by rw [List.size_toArray]; omega)) ⟨g3, ?_⟩
        have q := PySem.IsL.update g3 (fun a => a.push u8)
        have ea : its.toArray.push u8 = (its ++ [u8]).toArray := by simp
        rw [ea] at q
        have kk : ∀ b o, b ≠ D → s8.heap.get? b = some o → (s8.heap.update D (Obj.mapSeq fun a => a.push u8)).get? b = some o := fun b o hb e => (Heap.get?_update_other _ _ (Ne.symm hb)).trans e
        have I9 : Inv X' [] (none :: yN js σ) H8 { s8 with heap := s8.heap.update D (Obj.mapSeq fun a => a.push u8), toks := s8.toks } := by
          refine (back (σ' := []) I8).turned kk g4 (by rw [eL]; exact hDC) (.inr (by rw [eS]; omega)) (fun y c e => Nat.ne_of_lt (cellLt y c e)) fun p hp => ?_
          rw [ePn] at hp
          exact absurd hp (by simp)
        refine ⟨m', hm, i + 1, zs ++ [v8], its ++ [u8], _, H8, I9, T.keep _ _ _ st5 (fun b hb o e => kk b o (Nat.ne_of_lt (fplt b hb)) (g2 b hb o e)), g1, q, v3.append (.cons r8 .nil), g4, ?_, w8⟩
        rw [List.length_append, List.length_singleton]
        omega
  rw [eE] at loop
  exact codeAny_compStart_list loop (T.self _ 0 _ _ _ (T.keep _ _ _ st (fun b hb o e => old b o e)) loop)
theorem xV (S : CScope X.env.scope scope x X.N ys js) (hc : X.calm = true) (hi : PI X (.Name x px) iter wi) (ht : ∀ C s₀ H₀ ex, PTs (cxC X (x :: ys) scope C s₀ H₀ ex) ifs tt) (he : ∀ C s₀ H₀ ex, PE (cxC X (x :: ys) scope C s₀ H₀ ex) elt te)
    (hs : ∀ x, foldedSetIterable iter X.env x = pure x := by intro _; rfl) : PE X (.ListComp elt [⟨.Name x px, iter, ifs, 0⟩] scope pos) (zcE wi js tt te) := by
  intro pins s σ H Q I h
  rw [eval_ListComp]
  refine wpAny_comprehension_free (use := none) rfl hs (qW fun y hy e => I.ok.has _ (S.free y hy e)) S.kind S.loc (thn (hi pins s σ H _ I h) fun v s1 h1 => thn h1 fun itv s2 h2 => ?_)
  obtain ⟨it, fp, tn, J, H2, e, I2, T, st2, f2, hw⟩ := h2
  subst e
  refine WX (Q := Q) (R := fun acc C => compPost (model X.prog X.w) X.A X.xe none (EP X pins σ Q) acc C) S hc ht he I2 T st2 f2 hw ?_
  intro D C s' H' m' I' q hC hn hns
  refine ⟨m', hns, fun h' hs' => ⟨.ref D, H', ?_, rfl, q⟩⟩
  have e := I2.fpOk hC hn
  exact I'.turned (t' := s'.toks) (fun b o hb e => (hs'.2 b hb).trans e) hn e.2.1 e.2.2.2.1 e.2.2.2.2.1 e.2.2.2.2.2
theorem vg {i : Nat} {y : Str} {py spos : Pos} (S : CScope X.env.scope scope x X.N ys js) (hc : X.calm = true) (hN : X.N.Nodup) (hy : X.N[i]? = some y) (hl : Loc X.env.scope y) (hi : PI X (.Name x px) iter wi) (ht : ∀ C s₀ H₀ ex, PTs (cxC X (x :: ys) scope C s₀ H₀ ex) ifs tt) (he : ∀ C s₀ H₀ ex, PE (cxC X (x :: ys) scope C s₀ H₀ ex) elt te)
    (hf : X.fn y = true ∨ X.env.scope.names.lookup y = some .local := by first | exact .inl rfl | exact .inr rfl | assumption)
    (hsw : swapsWith (.ListComp elt [⟨.Name x px, iter, ifs, 0⟩] scope pos) (some (.Name y py)) spos.line X.env = pure true := by rfl)
    (hs : ∀ x, foldedSetIterable iter X.env x = pure x := by intro _; rfl) : PS X (.Assign [.Name y py] (.ListComp elt [⟨.Name x px, iter, ifs, 0⟩] scope pos) spos) (JB (zcE wi js tt te) (Wf i)) := by
  intro pins s σ H D I h
  rw [exec_Assign_Name_used _ _ _ _ hsw]
  refine wpAny_bind (wpAny_standAt (wpAny_bind ?_))
  show wpAny _ X.A (do let _ ← comprehension (.ListComp elt [⟨.Name x px, iter, ifs, 0⟩] scope pos) scope X.env _ (newList []) false (eval iter X.env) (some (assign (.Name y py) X.env))) _ _ s
  refine wpAny_bind (wpAny_mono (wpAny_comprehension_free (use := some (assign (.Name y py) X.env)) (Q := fun _ s' => SP X pins D .next s') rfl hs (qW fun y hy e => I.ok.has _ (S.free y hy e)) S.kind S.loc
    (thn (hi pins s σ H _ I h) fun v s1 h1 => thn h1 fun itv s2 h2 => ?_)) (fun _ s' hq => wpAny_pure (wpAny_pure hq)) fun _ _ e => e)
  obtain ⟨it, fp, tn, J, H2, e, I2, T, st2, f2, hw⟩ := h2
  subst e
  refine WX (Q := fun v H' => Wf i v σ H' D.nx) (R := fun acc C => compPost (model X.prog X.w) X.A X.xe (some (assign (.Name y py) X.env)) (fun _ s' => SP X pins D .next s') acc C) S hc ht he I2 T st2 f2 hw ?_
  intro Da C s' H' m' I' q hC hn hns
  have e := I2.fpOk hC hn
  show wpAny _ X.A (assign (.Name y py) X.env (.ref Da)) _ _ _
  refine wpAny_assign_Name (V1 I' hN hy hl (show RelV (.ref Da) (.ref Da) from rfl) (fun s2' I3 ⟨a, sb, ha⟩ => ?_) hf)
  have hCa : C ≠ a := by
    rcases ha with z | z
    · rw [z]; exact e.2.1
    · intro w; exact e.2.2.2.2.1 _ _ z w.symm
  refine ⟨m', hns.sameBut sb hCa, fun h' hs' => ⟨_, H', ?_, q⟩⟩
  exact I3.turned (t' := s2'.toks) (fun b o hb e => (hs'.2 b hb).trans e) hn e.2.1 e.2.2.2.1 e.2.2.2.2.1 e.2.2.2.2.2
end
theorem yO {K : PySem.W.Frag} {a : Addr} {xs : List V} {js : List Nat} {tt : TT} {te : TE} {σ : St} {H : Hp} {Q : VK} (Pv : Nat → List V → Hp → Prop) (h0 : Pv 0 [] H) (hl : ∀ i ys H, i ≤ xs.length → Pv i ys H → SqL K H a xs)
    (hs : ∀ i x ys H, xs[i]? = some x → Pv i ys H → ys.length < sizeLine ∧ tt (some x :: yN js σ) H fun b H2 => if b = true then te (some x :: yN js σ) H2 fun v H3 => Pv (i + 1) (ys ++ [v]) H3 else Pv (i + 1) ys H2)
    (hd : ∀ ys H, Pv xs.length ys H → ∀ D, H D = none → Q (.ref D) (upd H D (.lst ys))) :
    CompLoop (Itl K a) js tt te σ Q H := by
  refine ⟨fun i m ys H => m = xs.length - i ∧ i ≤ xs.length ∧ Pv i ys H, ⟨xs.length, by simp, Nat.zero_le _, h0⟩, ?_⟩
  rintro i m ys H ⟨rfl, hi, p⟩
  have q := hl i ys H hi p
  by_cases hlt : i < xs.length
  · have hx : xs[i]? = some xs[i] := List.getElem?_eq_getElem hlt
    obtain ⟨hz, hst⟩ := hs i xs[i] ys H hx p
    refine .inr ⟨⟨xs, xs[i], q, hx⟩, hz, Pv (i + 1), fun ys' H' p' => ⟨xs.length - (i + 1), by omega, rfl, hlt, p'⟩, fun x H' y => ?_⟩
    obtain ⟨e, y⟩ := y
    subst e
    have e2 := y xs q
    rw [hx] at e2
    cases e2
    exact hst
  · have e : i = xs.length := by omega
    subst e
    exact .inl ⟨⟨xs, q, Nat.le_refl _⟩, hd ys H p⟩
theorem wC {lo : Int} {n : Nat} {js : List Nat} {tt : TT} {te : TE} {σ : St} {H : Hp} {Q : VK} (Pv : Nat → List V → Hp → Prop) (h0 : Pv 0 [] H)
    (hs : ∀ i ys H, i < n → Pv i ys H → ys.length < sizeLine ∧ tt (some (.int (lo + i)) :: yN js σ) H fun b H2 => if b = true then te (some (.int (lo + i)) :: yN js σ) H2 fun v H3 => Pv (i + 1) (ys ++ [v]) H3 else Pv (i + 1) ys H2)
    (hd : ∀ ys H, Pv n ys H → ∀ D, H D = none → Q (.ref D) (upd H D (.lst ys))) :
    CompLoop (Itr lo n) js tt te σ Q H := by
  refine ⟨fun i m ys H => m = n - i ∧ i ≤ n ∧ Pv i ys H, ⟨n, by simp, Nat.zero_le _, h0⟩, ?_⟩
  rintro i m ys H ⟨rfl, hi, p⟩
  by_cases hlt : i < n
  · obtain ⟨hz, hst⟩ := hs i ys H hlt p
    refine .inr ⟨hlt, hz, Pv (i + 1), fun ys' H' p' => ⟨n - (i + 1), by omega, rfl, hlt, p'⟩, fun x H' y => ?_⟩
    obtain ⟨e, y⟩ := y
    subst e y
    exact hst
  · have e : i = n := by omega
    subst e
    exact .inl ⟨Nat.le_refl _, hd ys H p⟩
open PySem PySem.Spec PyProof.Rows PySem.SeqAt
inductive Tr where
  | non | bl (b : Bool) | int (i : Int) | str (x : Str) | lst (ts : List Tr) | tup (ts : List Tr)
mutual
def TrAt (K : PySem.W.Frag) (H : Hp) : Tr → V → Prop
  | .non, v => v = .non
  | .bl b, v => v = .bl b
  | .int i, v => v = .int i
  | .str x, v => v = .str x
  | .lst ts, v => ∃ a xs, v = .ref a ∧ SqL K H a xs ∧ TrsAt K H ts xs
  | .tup ts, v => ∃ a xs, v = .ref a ∧ SqT K H a xs ∧ TrsAt K H ts xs
def TrsAt (K : PySem.W.Frag) (H : Hp) : List Tr → List V → Prop
  | [], xs => xs = []
  | t :: ts, xs => ∃ y ys, xs = y :: ys ∧ TrAt K H t y ∧ TrsAt K H ts ys
end
mutual
def teq : Tr → Tr → Bool
  | .non, .non => true
  | .bl a, .bl b => a == b
  | .bl a, .int b => (if a then 1 else 0) == b
  | .int a, .bl b => a == (if b then 1 else 0)
  | .int a, .int b => a == b
  | .str a, .str b => a == b
  | .lst a, .lst b => qg a b
  | .tup a, .tup b => qg a b
  | _, _ => false
def qg : List Tr → List Tr → Bool
  | [], [] => true
  | t :: ts, u :: us => teq t u && qg ts us
  | _, _ => false
end
mutual
def wj : Tr → Nat
  | .lst ts => yr ts + 1
  | .tup ts => yr ts + 1
  | _ => 0
def yr : List Tr → Nat
  | [] => 0
  | t :: ts => max (wj t) (yr ts)
end
theorem Zi {t : Tr} : ∀ {ts : List Tr}, t ∈ ts → wj t ≤ yr ts
  | u :: ts, h => by
    rw [yr]
    rcases List.mem_cons.mp h with e | h
    · rw [e]; exact Nat.le_max_left _ _
    · exact Nat.le_trans (Zi h) (Nat.le_max_right _ _)
section
variable {K : PySem.W.Frag} {H : Hp}
theorem TrsAt.length : ∀ {ts : List Tr} {xs : List V}, TrsAt K H ts xs → ts.length = xs.length
  | [], xs, h => by rw [TrsAt] at h; subst h; rfl
  | t :: ts, xs, h => by
    rw [TrsAt] at h
    obtain ⟨y, ys, rfl, _, h⟩ := h
    rw [List.length_cons, List.length_cons, TrsAt.length h]
theorem TrsAt.get : ∀ {ts : List Tr} {xs : List V} {j : Nat} {t : Tr}, TrsAt K H ts xs → ts[j]? = some t → ∃ x, xs[j]? = some x ∧ TrAt K H t x
  | [], xs, j, t, h, e => by simp at e
  | u :: ts, xs, 0, t, h, e => by
    rw [TrsAt] at h
    obtain ⟨y, ys, rfl, hy, h⟩ := h
    simp at e
    subst e
    exact ⟨y, rfl, hy⟩
  | u :: ts, xs, j + 1, t, h, e => by
    rw [TrsAt] at h
    obtain ⟨y, ys, rfl, hy, h⟩ := h
    obtain ⟨x, e1, e2⟩ := TrsAt.get (j := j) h (by simpa using e)
    exact ⟨x, by simpa using e1, e2⟩
theorem TrsAt.mk : ∀ {ts : List Tr} {xs : List V}, ts.length = xs.length → (∀ (j : Nat) (t : Tr) (x : V), ts[j]? = some t → xs[j]? = some x → TrAt K H t x) → TrsAt K H ts xs
  | [], [], _, _ => by rw [TrsAt]
  | [], _ :: _, h, _ => by simp at h
  | _ :: _, [], h, _ => by simp at h
  | t :: ts, x :: xs, h, f => by
    rw [TrsAt]
    exact ⟨x, xs, rfl, f 0 t x rfl rfl, TrsAt.mk (by simpa using h) fun j t x e1 e2 => f (j + 1) t x (by simpa using e1) (by simpa using e2)⟩
theorem TrsAt.ints : ∀ {ns : List Int}, TrsAt K H (ns.map Tr.int) (ns.map V.int)
  | [] => by rw [List.map_nil, TrsAt]; rfl
  | n :: ns => by rw [List.map_cons, TrsAt]; exact ⟨_, _, rfl, by rw [TrAt], TrsAt.ints⟩
def yt (ns : List Int) : Tr := .lst (ns.map Tr.int)
theorem TrAt.ints {a : Addr} {ns : List Int} (h : SqL K H a (ns.map V.int)) : TrAt K H (yt ns) (.ref a) := by
  unfold yt; rw [TrAt]; exact ⟨a, _, rfl, h, TrsAt.ints⟩
end
mutual
theorem jd : ∀ t : Tr, teq t t = true
  | .non => by rw [teq]
  | .bl b => by rw [teq]; simp
  | .int i => by rw [teq]; simp
  | .str x => by rw [teq]; simp
  | .lst ts => by rw [teq]; exact jb ts
  | .tup ts => by rw [teq]; exact jb ts
theorem jb : ∀ ts : List Tr, qg ts ts = true
  | [] => by rw [qg]
  | t :: ts => by rw [qg, jd t, jb ts]; rfl
end
theorem Q5 {α : Type} [DecidableEq α] {f : α → Tr} (h : ∀ a b, teq (f a) (f b) = decide (a = b)) : ∀ (xs ys : List α), qg (xs.map f) (ys.map f) = decide (xs = ys)
  | [], [] => by simp [qg]
  | [], _ :: _ => by simp [qg]
  | _ :: _, [] => by simp [qg]
  | x :: xs, y :: ys => by
    rw [List.map_cons, List.map_cons, qg, h, Q5 h xs ys, Bool.eq_iff_iff]
    simp
theorem zck (a b : Int) : teq (.int a) (.int b) = decide (a = b) := by rw [teq, Bool.eq_iff_iff]; simp
theorem uA (a b : List Int) : teq (yt a) (yt b) = decide (a = b) := by unfold yt; rw [teq]; exact Q5 zck a b
theorem Yh : ∀ ns : List Int, yr (ns.map Tr.int) = 0
  | [] => by simp [yr]
  | n :: ns => by rw [List.map_cons, yr, Yh ns, wj] <;> simp
theorem uh (ns : List Int) : wj (yt ns) = 1 := by unfold yt; rw [wj, Yh]
theorem qy : ∀ {ts us : List Tr}, ts.length ≠ us.length → qg ts us = false
  | [], [], h => absurd rfl h
  | [], _ :: _, _ => by simp [qg]
  | _ :: _, [], _ => by simp [qg]
  | t :: ts, u :: us, h => by rw [qg, qy (by simpa using h), Bool.and_false]
def eAt (ts us : List Tr) (j : Nat) : Bool := match ts[j]?, us[j]? with
  | some t, some u => teq t u
  | _, _ => true
theorem Qj : ∀ {ts us : List Tr}, ts.length = us.length → (List.range ts.length).all (eAt ts us) = qg ts us
  | [], [], _ => by simp [qg]
  | [], _ :: _, h => by simp at h
  | _ :: _, [], h => by simp at h
  | t :: ts, u :: us, h => by
    rw [List.length_cons, List.range_succ_eq_map, List.all_cons, List.all_map, qg, ← Qj (ts := ts) (us := us) (by simpa using h)]
    rfl
section
variable {X : Cx} {pins : List (Addr × Obj)} {σ : St} {H : Hp} {s : Shared}
theorem Wx (I : Inv X pins σ H s) : ∀ (n : Nat) {t u : Tr} {v : V}, wj t ≤ n → TrAt X.K H t v → TrAt X.K H u v → t = u := by
  intro n
  induction n with
  | zero =>
    intro t u v hd ht hu
    cases t with
    | lst ts => rw [wj] at hd; omega
    | tup ts => rw [wj] at hd; omega
    | _ => (rw [TrAt] at ht; subst ht; cases u <;> (rw [TrAt] at hu) <;> first | rfl | (obtain ⟨_, _, z, _⟩ := hu; cases z) | (cases hu; rfl) | cases hu)
  | succ n ih =>
    intro t u v hd ht hu
    have lists : ∀ {ts us : List Tr} {xs : List V}, yr ts ≤ n → TrsAt X.K H ts xs → TrsAt X.K H us xs → ts = us := by
      intro ts us xs hd h1 h2
      apply List.ext_getElem?
      intro j
      have l1 := h1.length
      have l2 := h2.length
      by_cases hj : j < ts.length
      · obtain ⟨t, e⟩ : ∃ t, ts[j]? = some t := ⟨_, List.getElem?_eq_getElem hj⟩
        obtain ⟨u, e'⟩ : ∃ u, us[j]? = some u := ⟨_, List.getElem?_eq_getElem (by omega)⟩
        obtain ⟨x, ex, hx⟩ := h1.get e
        obtain ⟨y, ey, hy⟩ := h2.get e'
        rw [ex] at ey
        cases ey
        rw [e, e', ih (Nat.le_trans (Zi (List.mem_of_getElem? e)) hd) hx hy]
      · rw [List.getElem?_eq_none (by omega), List.getElem?_eq_none (by omega)]
    cases t with
    | lst ts =>
      rw [TrAt] at ht
      obtain ⟨a, xs, rfl, q, h1⟩ := ht
      cases u with
      | lst us =>
        rw [TrAt] at hu
        obtain ⟨b, ys, e, q', h2⟩ := hu
        cases e
        rw [I.list_inj q' q] at h2
        rw [lists (by rw [wj] at hd; omega) h1 h2]
      | tup us =>
        rw [TrAt] at hu
        obtain ⟨b, ys, e, q', h2⟩ := hu
        cases e
        obtain ⟨_, _, pl, _⟩ := I.list q
        obtain ⟨_, _, pt, _⟩ := I.tuple q'
        exact absurd rfl (ne_of_list_tuple pl.isList pt)
      | _ => rw [TrAt] at hu; cases hu
    | tup ts =>
      rw [TrAt] at ht
      obtain ⟨a, xs, rfl, q, h1⟩ := ht
      cases u with
      | tup us =>
        rw [TrAt] at hu
        obtain ⟨b, ys, e, q', h2⟩ := hu
        cases e
        rw [I.tuple_inj q' q] at h2
        rw [lists (by rw [wj] at hd; omega) h1 h2]
      | lst us =>
        rw [TrAt] at hu
        obtain ⟨b, ys, e, q', h2⟩ := hu
        cases e
        obtain ⟨_, _, pl, _⟩ := I.list q'
        obtain ⟨_, _, pt, _⟩ := I.tuple q
        exact absurd rfl (ne_of_list_tuple pl.isList pt)
      | _ => rw [TrAt] at hu; cases hu
    | _ => (rw [TrAt] at ht; subst ht; cases u <;> (rw [TrAt] at hu) <;> first | rfl | (obtain ⟨_, _, z, _⟩ := hu; cases z) | (cases hu; rfl) | cases hu)
structure zep (A : Around) (s : Shared) (a b : Value) (r : Bool) : Prop where
  rc : RcAt A s a b r
  ne : RcNeAt A s a b (!r)
  eq : EqAt A s a b r
theorem units_in1 (A : Around) : A.in1.units = A.units + 1 := rfl
theorem Wa (I : Inv X pins σ H s) : ∀ (n : Nat) {t u : Tr} {v w : V} {a b : Value} {A : Around}, wj t ≤ n → TrAt X.K H t v → TrAt X.K H u w → RelV v a → RelV w b → A.units + n < cLine → zep A s a b (teq t u) := by
  intro n
  induction n with
  | zero =>
    intro t u v w a b A hd ht hu ra rb hA
    have hA' : A.units < cLine := by omega
    cases t with
    | lst ts => rw [wj] at hd; omega
    | tup ts => rw [wj] at hd; omega
    | non =>
      rw [TrAt] at ht; subst ht; cases ra
      cases u with
      | non => rw [TrAt] at hu; subst hu; cases rb; rw [teq]; exact ⟨.none_none, .none_none, .same _⟩
      | bl b => rw [TrAt] at hu; subst hu; cases rb; simp only [teq]; exact ⟨.none_bool _, .none_bool _, .none_bool _⟩
      | int b => rw [TrAt] at hu; subst hu; obtain ⟨_, rfl⟩ := rb; simp only [teq]; exact ⟨.none_int _ _, .none_int _ _, .none_int _ _⟩
      | str b => rw [TrAt] at hu; subst hu; obtain ⟨_, rfl⟩ := rb; simp only [teq]; exact ⟨.none_str _ _, .none_str _ _, .none_str _ _⟩
      | lst us => rw [TrAt] at hu; obtain ⟨p, ys, rfl, q, _⟩ := hu; cases rb; obtain ⟨_, _, pl, _⟩ := I.list q; simp only [teq]; exact ⟨.none_list pl.isList hA', .none_list pl.isList hA', .none_list pl.isList hA'⟩
      | tup us => rw [TrAt] at hu; obtain ⟨p, ys, rfl, q, _⟩ := hu; cases rb; obtain ⟨_, _, pl, _⟩ := I.tuple q; simp only [teq]; exact ⟨.none_tuple pl hA', .none_tuple pl hA', .none_tuple pl hA'⟩
    | bl c =>
      rw [TrAt] at ht; subst ht; cases ra
      cases u with
      | non => rw [TrAt] at hu; subst hu; cases rb; simp only [teq]; exact ⟨.bool_none _, .bool_none _, .bool_none _⟩
      | bl b => rw [TrAt] at hu; subst hu; cases rb; rw [teq]; exact ⟨.bool_bool _ _, .bool_bool _ _, .bool_bool _ _⟩
      | int b => rw [TrAt] at hu; subst hu; obtain ⟨_, rfl⟩ := rb; rw [teq]; exact ⟨.bool_int _ _ _, .bool_int _ _ _, .bool_int _ _ _⟩
      | str b => rw [TrAt] at hu; subst hu; obtain ⟨_, rfl⟩ := rb; simp only [teq]; exact ⟨.bool_str _ _ _, .bool_str _ _ _, .bool_str _ _ _⟩
      | lst us => rw [TrAt] at hu; obtain ⟨p, ys, rfl, q, _⟩ := hu; cases rb; obtain ⟨_, _, pl, _⟩ := I.list q; simp only [teq]; exact ⟨.bool_list _ pl.isList hA', .bool_list _ pl.isList hA', .bool_list _ pl.isList hA'⟩
      | tup us => rw [TrAt] at hu; obtain ⟨p, ys, rfl, q, _⟩ := hu; cases rb; obtain ⟨_, _, pl, _⟩ := I.tuple q; simp only [teq]; exact ⟨.bool_tuple _ pl hA', .bool_tuple _ pl hA', .bool_tuple _ pl hA'⟩
    | int c =>
      rw [TrAt] at ht; subst ht; obtain ⟨_, rfl⟩ := ra
      cases u with
      | non => rw [TrAt] at hu; subst hu; cases rb; simp only [teq]; exact ⟨.int_none _ _, .int_none _ _, .int_none _ _⟩
      | bl b => rw [TrAt] at hu; subst hu; cases rb; rw [teq]; exact ⟨.int_bool _ _ _, .int_bool _ _ _, .int_bool _ _ _⟩
      | int b => rw [TrAt] at hu; subst hu; obtain ⟨_, rfl⟩ := rb; rw [teq]; exact ⟨.int_int _ _ _ _, .int_int _ _ _ _, .int_int _ _ _ _⟩
      | str b => rw [TrAt] at hu; subst hu; obtain ⟨_, rfl⟩ := rb; simp only [teq]; exact ⟨.int_str _ _ _ _, .int_str _ _ _ _, .int_str _ _ _ _⟩
      | lst us => rw [TrAt] at hu; obtain ⟨p, ys, rfl, q, _⟩ := hu; cases rb; obtain ⟨_, _, pl, _⟩ := I.list q; simp only [teq]; exact ⟨.int_list _ _ pl.isList hA', .int_list _ _ pl.isList hA', .int_list _ _ pl.isList hA'⟩
      | tup us => rw [TrAt] at hu; obtain ⟨p, ys, rfl, q, _⟩ := hu; cases rb; obtain ⟨_, _, pl, _⟩ := I.tuple q; simp only [teq]; exact ⟨.int_tuple _ _ pl hA', .int_tuple _ _ pl hA', .int_tuple _ _ pl hA'⟩
    | str c =>
      rw [TrAt] at ht; subst ht; obtain ⟨_, rfl⟩ := ra
      cases u with
      | non => rw [TrAt] at hu; subst hu; cases rb; simp only [teq]; exact ⟨.str_none _ _, .str_none _ _, .str_none _ _⟩
      | bl b => rw [TrAt] at hu; subst hu; cases rb; simp only [teq]; exact ⟨.str_bool _ _ _, .str_bool _ _ _, .str_bool _ _ _⟩
      | int b => rw [TrAt] at hu; subst hu; obtain ⟨_, rfl⟩ := rb; simp only [teq]; exact ⟨.str_int _ _ _ _, .str_int _ _ _ _, .str_int _ _ _ _⟩
      | str b => rw [TrAt] at hu; subst hu; obtain ⟨_, rfl⟩ := rb; rw [teq]; exact ⟨.str_str _ _ _ _, .str_str _ _ _ _, .str_str _ _ _ _⟩
      | lst us => rw [TrAt] at hu; obtain ⟨p, ys, rfl, q, _⟩ := hu; cases rb; obtain ⟨_, _, pl, _⟩ := I.list q; simp only [teq]; exact ⟨.str_list _ _ pl.isList hA', .str_list _ _ pl.isList hA', .str_list _ _ pl.isList hA'⟩
      | tup us => rw [TrAt] at hu; obtain ⟨p, ys, rfl, q, _⟩ := hu; cases rb; obtain ⟨_, _, pl, _⟩ := I.tuple q; simp only [teq]; exact ⟨.str_tuple _ _ pl hA', .str_tuple _ _ pl hA', .str_tuple _ _ pl hA'⟩
  | succ n ih =>
    intro t u v w a b A hd ht hu ra rb hA
    have hA' : A.units < cLine := by omega
    have items : ∀ {ts us : List Tr} {xs ys : List V} {its its2 : List Value}, yr ts ≤ n → TrsAt X.K H ts xs → TrsAt X.K H us ys → Vals xs its → Vals ys its2 →
        ∀ j (h1 : j < its.toArray.size) (h2 : j < its2.toArray.size), EqAt A.in1 s its.toArray[j] its2.toArray[j] (eAt ts us j) := by
      intro ts us xs ys its its2 hdn h1 h2 r1 r2 j hj1 hj2
      have l1 := h1.length
      have l2 := h2.length
      have m1 := r1.length
      have m2 := r2.length
      rw [List.size_toArray] at hj1 hj2
      obtain ⟨t, e⟩ : ∃ t, ts[j]? = some t := ⟨_, List.getElem?_eq_getElem (by omega)⟩
      obtain ⟨u, e'⟩ : ∃ u, us[j]? = some u := ⟨_, List.getElem?_eq_getElem (by omega)⟩
      obtain ⟨x, ex, hx⟩ := h1.get e
      obtain ⟨y, ey, hy⟩ := h2.get e'
      obtain ⟨vx, fx, rx⟩ := r1.get ex
      obtain ⟨vy, fy, ry⟩ := r2.get ey
      have g1 : its.toArray[j]'(by simpa using hj1) = vx := by
        have z : its[j] = vx := Option.some.inj ((List.getElem?_eq_getElem hj1).symm.trans fx)
        simpa using z
      have g2 : its2.toArray[j]'(by simpa using hj2) = vy := by
        have z : its2[j] = vy := Option.some.inj ((List.getElem?_eq_getElem hj2).symm.trans fy)
        simpa using z
      rw [g1, g2]
      have q := (ih (A := A.in1) (Nat.le_trans (Zi (List.mem_of_getElem? e)) hdn) hx hy rx ry (by rw [units_in1]; omega)).eq
      unfold eAt
      rw [e, e']
      exact q
    by_cases hz : wj t ≤ n
    · exact ih hz ht hu ra rb (by omega)
    cases t with
    | lst ts =>
      rw [TrAt] at ht; obtain ⟨p, xs, rfl, q, h1⟩ := ht; cases ra
      obtain ⟨its, r1, pl, _⟩ := I.list q
      cases u with
      | non => rw [TrAt] at hu; subst hu; cases rb; simp only [teq]; exact ⟨.list_none pl.isList hA', .list_none pl.isList hA', .list_none pl.isList hA'⟩
      | bl b => rw [TrAt] at hu; subst hu; cases rb; simp only [teq]; exact ⟨.list_bool _ pl.isList hA', .list_bool _ pl.isList hA', .list_bool _ pl.isList hA'⟩
      | int b => rw [TrAt] at hu; subst hu; obtain ⟨_, rfl⟩ := rb; simp only [teq]; exact ⟨.list_int _ _ pl.isList hA', .list_int _ _ pl.isList hA', .list_int _ _ pl.isList hA'⟩
      | str b => rw [TrAt] at hu; subst hu; obtain ⟨_, rfl⟩ := rb; simp only [teq]; exact ⟨.list_str _ _ pl.isList hA', .list_str _ _ pl.isList hA', .list_str _ _ pl.isList hA'⟩
      | tup us => rw [TrAt] at hu; obtain ⟨p', ys, rfl, q', _⟩ := hu; cases rb; obtain ⟨_, _, pl', _⟩ := I.tuple q'; simp only [teq]; exact ⟨.list_tuple pl.isList pl' hA', .list_tuple pl.isList pl' hA', .list_tuple pl.isList pl' hA'⟩
      | lst us =>
        have hu0 := hu
        rw [TrAt] at hu; obtain ⟨p', ys, rfl, q', h2⟩ := hu; cases rb
        obtain ⟨its2, r2, pl', _⟩ := I.list q'
        have l1 := h1.length
        have l2 := h2.length
        have m1 := r1.length
        have m2 := r2.length
        have hdn : yr ts ≤ n := by rw [wj] at hd; omega
        have both : RcAt A s (.ref p) (.ref p') (qg ts us) ∧ RcNeAt A s (.ref p) (.ref p') (!qg ts us) := by
          by_cases hsz : ts.length = us.length
          · have hs : its.toArray.size = its2.toArray.size := by rw [List.size_toArray, List.size_toArray]; omega
            have it := items hdn h1 h2 r1 r2
            have e1 : (List.range its.toArray.size).all (eAt ts us) = qg ts us := by
              rw [List.size_toArray, ← m1, ← l1]; exact Qj hsz
            have a1 := RcAt.lists pl.isList pl'.isList hs hA' it
            have a2 := RcNeAt.lists pl.isList pl'.isList hs hA' it
            rw [e1] at a1 a2
            exact ⟨a1, a2⟩
          · have hs : (its.toArray.size != its2.toArray.size) = true := by
              rw [List.size_toArray, List.size_toArray, bne_iff_ne]; omega
            rw [qy hsz]
            exact ⟨.lists_lengths pl.isList pl'.isList hs hA', .lists_lengths pl.isList pl'.isList hs hA'⟩
        rw [teq]
        refine ⟨both.1, both.2, ?_⟩
        by_cases hpp : p = p'
        · subst hpp
          have e : Tr.lst ts = Tr.lst us := Wx I (n + 1) hd (show TrAt X.K H (.lst ts) (.ref p) by rw [TrAt]; exact ⟨p, xs, rfl, q, h1⟩) hu0
          cases e
          rw [jb]
          exact .same _
        · exact .of_refs hpp both.1
    | tup ts =>
      rw [TrAt] at ht; obtain ⟨p, xs, rfl, q, h1⟩ := ht; cases ra
      obtain ⟨its, r1, pl, _⟩ := I.tuple q
      cases u with
      | non => rw [TrAt] at hu; subst hu; cases rb; simp only [teq]; exact ⟨.tuple_none pl hA', .tuple_none pl hA', .tuple_none pl hA'⟩
      | bl b => rw [TrAt] at hu; subst hu; cases rb; simp only [teq]; exact ⟨.tuple_bool _ pl hA', .tuple_bool _ pl hA', .tuple_bool _ pl hA'⟩
      | int b => rw [TrAt] at hu; subst hu; obtain ⟨_, rfl⟩ := rb; simp only [teq]; exact ⟨.tuple_int _ _ pl hA', .tuple_int _ _ pl hA', .tuple_int _ _ pl hA'⟩
      | str b => rw [TrAt] at hu; subst hu; obtain ⟨_, rfl⟩ := rb; simp only [teq]; exact ⟨.tuple_str _ _ pl hA', .tuple_str _ _ pl hA', .tuple_str _ _ pl hA'⟩
      | lst us => rw [TrAt] at hu; obtain ⟨p', ys, rfl, q', _⟩ := hu; cases rb; obtain ⟨_, _, pl', _⟩ := I.list q'; simp only [teq]; exact ⟨.tuple_list pl pl'.isList hA', .tuple_list pl pl'.isList hA', .tuple_list pl pl'.isList hA'⟩
      | tup us =>
        have hu0 := hu
        rw [TrAt] at hu; obtain ⟨p', ys, rfl, q', h2⟩ := hu; cases rb
        obtain ⟨its2, r2, pl', _⟩ := I.tuple q'
        have l1 := h1.length
        have l2 := h2.length
        have m1 := r1.length
        have m2 := r2.length
        have hdn : yr ts ≤ n := by rw [wj] at hd; omega
        have e1 : ((List.range (min its.toArray.size its2.toArray.size)).all (eAt ts us) && its.toArray.size == its2.toArray.size) = qg ts us := by
          rw [List.size_toArray, List.size_toArray, ← m1, ← l1, ← m2, ← l2]
          by_cases hsz : ts.length = us.length
          · rw [← hsz, Nat.min_self, beq_self_eq_true, Bool.and_true]; exact Qj hsz
          · rw [qy hsz, beq_eq_false_iff_ne.mpr hsz, Bool.and_false]
        have it := items hdn h1 h2 r1 r2
        have a1 := RcAt.tuples pl pl' hA' it
        have a2 := RcNeAt.tuples pl pl' hA' it
        rw [e1] at a1 a2
        rw [teq]
        refine ⟨a1, a2, ?_⟩
        by_cases hpp : p = p'
        · subst hpp
          have e : Tr.tup ts = Tr.tup us := Wx I (n + 1) hd (show TrAt X.K H (.tup ts) (.ref p) by rw [TrAt]; exact ⟨p, xs, rfl, q, h1⟩) hu0
          cases e
          rw [jb]
          exact .same _
        · exact .of_refs hpp a1
    | non => exact absurd (Nat.zero_le _) hz
    | bl b => exact absurd (Nat.zero_le _) hz
    | int b => exact absurd (Nat.zero_le _) hz
    | str b => exact absurd (Nat.zero_le _) hz
end
section
variable {X : Cx}
def zcm (K : PySem.W.Frag) (neg : Bool) : R2 := fun x y H Q => ∃ t u, TrAt K H t x ∧ TrAt K H u y ∧ wj t ≤ 8 ∧ Q (.bl (if neg then !teq t u else teq t u)) H
theorem zc2 (hu : X.A.units + 64 < cLine) : OpR X (compareOp .Eq) (zcm X.K false) := by
  intro pins s σ H x y v u Q I rx ry h
  obtain ⟨t, t', h1, h2, hd, q⟩ := h
  exact (Wa I 8 hd h1 h2 rx ry (by omega)).rc _ _ _ _ ⟨.bl _, H, I, rfl, q⟩
theorem zc5 (hu : X.A.units + 64 < cLine) : OpR X (compareOp .NotEq) (zcm X.K true) := by
  intro pins s σ H x y v u Q I rx ry h
  obtain ⟨t, t', h1, h2, hd, q⟩ := h
  exact (Wa I 8 hd h1 h2 rx ry (by omega)).ne _ _ _ _ ⟨.bl _, H, I, rfl, q⟩
open Classical in
def zco (K : PySem.W.Frag) (neg : Bool) : R2 := fun x y H Q => ∃ p xs ts u, y = .ref p ∧ SqL K H p xs ∧ TrsAt K H ts xs ∧ TrAt K H u x ∧ yr ts ≤ 8 ∧ Q (.bl (if neg then !(ts.any fun t => teq t u) else ts.any fun t => teq t u)) H
open Classical in
theorem Jt {pins : List (Addr × Obj)} {σ : St} {H : Hp} {s : Shared} (I : Inv X pins σ H s) {u : Tr} : ∀ {ts : List Tr} {xs : List V} {its : List Value}, yr ts ≤ 8 → TrsAt X.K H ts xs → Vals xs its →
    its.any (fun y => decide (∃ t x, RelV x y ∧ TrAt X.K H t x ∧ teq t u = true)) = ts.any fun t => teq t u
  | [], xs, its, _, h, r => by rw [TrsAt] at h; subst h; cases r; rfl
  | t :: ts, xs, its, hd, h, r => by
    rw [TrsAt] at h
    obtain ⟨y, ys, rfl, hy, h⟩ := h
    cases r with
    | cons r1 r2 =>
      rw [yr] at hd
      rw [List.any_cons, List.any_cons, Jt I (by omega) h r2]
      congr 1
      rw [Bool.eq_iff_iff, decide_eq_true_iff]
      constructor
      · rintro ⟨t', x', r', h', e⟩
        rw [r1.inj r'] at hy
        rw [Wx I 8 (by omega) hy h']; exact e
      · intro e
        exact ⟨t, y, r1, hy, e⟩
open Classical in
theorem Uo {pins : List (Addr × Obj)} {σ : St} {H : Hp} {s : Shared} (I : Inv X pins σ H s) (hu : X.A.units + 64 < cLine) {u : Tr} {x : V} {v : Value} (hx : TrAt X.K H u x) (rx : RelV x v) {ts : List Tr} {xs : List V} {its : List Value} (hd : yr ts ≤ 8) (h : TrsAt X.K H ts xs) (r : Vals xs its) :
    ∀ y, y ∈ its.toArray → SeqAt.EqAt X.A.in1 s y v (decide (∃ t x, RelV x y ∧ TrAt X.K H t x ∧ teq t u = true)) := by
  intro y hy
  have hy' : y ∈ its := by simpa using hy
  obtain ⟨j, hj, e⟩ := List.getElem_of_mem hy'
  have l1 := h.length
  have m1 := r.length
  obtain ⟨t, et⟩ : ∃ t, ts[j]? = some t := ⟨_, List.getElem?_eq_getElem (by omega)⟩
  obtain ⟨z, ez, hz⟩ := h.get et
  obtain ⟨w, ew, rw'⟩ := r.get ez
  have e' : y = w := by
    rw [List.getElem?_eq_getElem hj] at ew
    exact e.symm.trans (Option.some.inj ew)
  subst e'
  have hd' : wj t ≤ 8 := Nat.le_trans (Zi (List.mem_of_getElem? et)) hd
  have q := (Wa I 8 (A := X.A.in1) hd' hz hx rw' rx (by rw [units_in1]; omega)).eq
  have e2 : decide (∃ t x, RelV x y ∧ TrAt X.K H t x ∧ teq t u = true) = teq t u := by
    rw [Bool.eq_iff_iff, decide_eq_true_iff]
    constructor
    · rintro ⟨t', x', r', h', e3⟩
      rw [rw'.inj r'] at hz
      rw [Wx I 8 hd' hz h']; exact e3
    · intro e3
      exact ⟨t, z, rw', hz, e3⟩
  rw [e2]
  exact q
open Classical in
theorem zdi (hu : X.A.units + 64 < cLine) : OpR X (compareOp .In) (zco X.K false) := by
  intro pins s σ H x y v u Q I rx ry h
  obtain ⟨p, xs, ts, t, rfl, hq, hts, ht, hd, q⟩ := h
  cases ry
  obtain ⟨its, r, pl, hz⟩ := I.list hq
  refine SeqAt.in_listAt _ pl.isList (Uo I hu ht rx hd hts r) ⟨.bl _, H, I, rfl, ?_⟩
  simp only [List.any_toArray]
  rw [Jt I hd hts r]
  exact q
open Classical in
theorem zaQ (hu : X.A.units + 64 < cLine) : OpR X (compareOp .NotIn) (zco X.K true) := by
  intro pins s σ H x y v u Q I rx ry h
  obtain ⟨p, xs, ts, t, rfl, hq, hts, ht, hd, q⟩ := h
  cases ry
  obtain ⟨its, r, pl, hz⟩ := I.list hq
  refine SeqAt.notIn_listAt _ pl.isList (Uo I hu ht rx hd hts r) ⟨.bl _, H, I, rfl, ?_⟩
  simp only [List.any_toArray]
  rw [Jt I hd hts r]
  exact q
end
end L2
namespace L2
open PySem PySem.Spec PyProof.Rows
theorem YW {K : PySem.W.Frag} {T U : String} {b : Bool} (h1 : PySem.W.kitMeta U = true) (h2 : (fastBuiltinMro T).map (·.contains (Value.type U)) = some b) (hb : T = U → b = true) : PySem.W.kitOne K (.type T) (.type U) = some b := by
  unfold PySem.W.kitOne
  by_cases e : T = U
  · subst e
    rw [if_pos (by simp), hb rfl]
  · rw [if_neg (by simpa using e)]
    show (if PySem.W.kitMeta U = true then PySem.W.subIn K (.type T) (.type U) else none) = some b
    rw [if_pos h1]
    exact h2
section
variable {K : PySem.W.Frag}
theorem Xr : PySem.W.kitOne K (.type "int") (.type "int") = some true := YW (by decide +kernel) (by decide +kernel) (fun _ => rfl)
theorem YG : PySem.W.kitOne K (.type "int") (.type "bool") = some false := YW (by decide +kernel) (by decide +kernel) (fun e => absurd e (by decide))
theorem Z0 : PySem.W.kitOne K (.type "list") (.type "list") = some true := YW (by decide +kernel) (by decide +kernel) (fun _ => rfl)
theorem X5 : PySem.W.kitOne K (.type "tuple") (.type "tuple") = some true := YW (by decide +kernel) (by decide +kernel) (fun _ => rfl)
end
section
variable {X : Cx}
def zdu (K : PySem.W.Frag) : List V → Hp → VK → Prop := fun xs H Q => ∃ x T t b, xs = [x, .ty T] ∧ Y9 K H x t ∧ PySem.W.kitOne K t (.type T) = some b ∧ Q (.bl b) H
theorem Wv : wM X (.builtin "isinstance") (zdu X.K) := by
  intro pins s σ H xs us Q I r h
  obtain ⟨x, T, t, b, rfl, ty, e, q⟩ := h
  obtain ⟨u, v, rfl, rx, rt⟩ := vals2 r
  cases rt
  exact zaH I rx ty e fun tk => ⟨.bl b, H, I.tok tk, rfl, q⟩
def zcK (i j : Int) : Prop := 0 < j ∧ j < 2 ^ 200
theorem Je : OpR X (binaryOp .FloorDiv) (rI zcK fun i j => .int (i / j)) := opI fun i j _ _ _ _ _ hc q => by
  have h1 : (0 : Int) < j := hc.1
  have h2 : j < 2 ^ 200 := hc.2
  refine floordiv_int (by omega) (by rw [Int.fdiv_eq_ediv_of_nonneg i (by omega)]; exact q) (.inl (PyProof.noPylong_of_log2 ?_))
  have h3 : j.natAbs < 2 ^ 200 := by omega
  have h4 : j.natAbs.log2 < 200 := (Nat.log2_lt (by omega)).mpr h3
  omega
theorem XF {P : Program} {w : World} {A : Around} {its : List Value} {bs : List Bool} (r : Vals (bs.map V.bl) its) : TruthOf P w A (fun i v => its.toArray[i]? = some v) (fun i => bs.getD i false) := by
  intro i v s Q E hP hQ
  have hl := r.length
  rw [List.length_map] at hl
  have e : its[i]? = some v := by simpa using hP
  have hi : i < its.length := (List.getElem?_eq_some_iff.mp e).1
  have e2 : (bs.map V.bl)[i]? = some (.bl (bs[i]'(by omega))) := by rw [List.getElem?_map, List.getElem?_eq_getElem (by omega)]; rfl
  obtain ⟨u, e3, r3⟩ := r.get e2
  rw [e] at e3
  cases e3
  cases r3
  have e4 : bs.getD i false = bs[i] := by rw [List.getD_eq_getElem?_getD, List.getElem?_eq_getElem (by omega)]; rfl
  exact wpAny_truthy_bool (e4 ▸ hQ)
theorem QX : ∀ bs : List Bool, (List.range bs.length).all (fun i => bs.getD i false) = bs.all id
  | [] => rfl
  | b :: bs => by
    rw [List.length_cons, List.range_succ_eq_map, List.all_cons, List.all_map, List.all_cons, ← QX bs]
    rfl
theorem Qq : ∀ bs : List Bool, (List.range bs.length).any (fun i => bs.getD i false) = bs.any id
  | [] => rfl
  | b :: bs => by
    rw [List.length_cons, List.range_succ_eq_map, List.any_cons, List.any_map, List.any_cons, ← Qq bs]
    rfl
def zdX (K : PySem.W.Frag) : List V → Hp → VK → Prop := fun xs H Q => ∃ (a : Addr) (bs : List Bool), xs = [.ref a] ∧ SqL K H a (bs.map V.bl) ∧ Q (.bl (bs.all id)) H
def zdH (K : PySem.W.Frag) : List V → Hp → VK → Prop := fun xs H Q => ∃ (a : Addr) (bs : List Bool), xs = [.ref a] ∧ SqL K H a (bs.map V.bl) ∧ Q (.bl (bs.any id)) H
theorem zba (hc : X.calm = true) : wM X (.builtin "all") (zdX X.K) := by
  intro pins s σ H xs us Q I r h
  obtain ⟨a, bs, rfl, hq, q⟩ := h
  obtain ⟨u, rfl, rx⟩ := vals1 r
  cases rx
  obtain ⟨its, rv, pl, hz⟩ := I.list hq
  have hl := rv.length
  rw [List.length_map] at hl
  obtain ⟨o, n, eo, _⟩ := id pl
  have hne : a ≠ s.heap.objs.size := Nat.ne_of_lt (Heap.lt_size eo)
  refine call_all_walk (wpAny_pyIter_list pl.isList ?_)
  refine ⟨_, _, _, _, _, _, _, rfl, Walks.list (A := X.A.in1) (show X.A.in1.handled = none from I.ok.hd hc) s.heap.objs.size a hne its.toArray, ⟨⟨_, Heap.get?_push_size _ rfl, rfl, rfl⟩, pl.isList.at fun o e => Heap.get?_push_of_some _ e⟩, XF rv, fun h' tk hk => ?_⟩
  have I1 : Inv X pins σ H { s with heap := h', toks := tk } := I.kept fun b o e => hk b o (by have := Heap.lt_size e; simp; exact Nat.ne_of_lt this) (Heap.get?_push_of_some _ e)
  refine ⟨.bl _, H, I1, rfl, ?_⟩
  rw [List.size_toArray, ← hl, QX]
  exact q
theorem za3 (hc : X.calm = true) : wM X (.builtin "any") (zdH X.K) := by
  intro pins s σ H xs us Q I r h
  obtain ⟨a, bs, rfl, hq, q⟩ := h
  obtain ⟨u, rfl, rx⟩ := vals1 r
  cases rx
  obtain ⟨its, rv, pl, hz⟩ := I.list hq
  have hl := rv.length
  rw [List.length_map] at hl
  obtain ⟨o, n, eo, _⟩ := id pl
  have hne : a ≠ s.heap.objs.size := Nat.ne_of_lt (Heap.lt_size eo)
  refine call_any_walk (wpAny_pyIter_list pl.isList ?_)
  refine ⟨_, _, _, _, _, _, _, rfl, Walks.list (A := X.A.in1) (show X.A.in1.handled = none from I.ok.hd hc) s.heap.objs.size a hne its.toArray, ⟨⟨_, Heap.get?_push_size _ rfl, rfl, rfl⟩, pl.isList.at fun o e => Heap.get?_push_of_some _ e⟩, XF rv, fun h' tk hk => ?_⟩
  have I1 : Inv X pins σ H { s with heap := h', toks := tk } := I.kept fun b o e => hk b o (by have := Heap.lt_size e; simp; exact Nat.ne_of_lt this) (Heap.get?_push_of_some _ e)
  refine ⟨.bl _, H, I1, rfl, ?_⟩
  rw [List.size_toArray, ← hl, Qq]
  exact q
section
variable {prog : Program} {w : World} {A : Around} {E : Value → Shared → Prop} {s : Shared}
end
end
section
variable {X : Cx} (K : PySem.W.Frag)
theorem Q6 (e : X.K = K := by rfl) : wM X (.builtin "isinstance") (zdu K) := by subst e; exact Wv
theorem uL (e : X.K = K := by rfl) : wM X (.builtin "len") (fun xs H Q => ∃ p ys, xs = [.ref p] ∧ (SqL K H p ys ∨ SqT K H p ys) ∧ Q (.int ys.length) H) := by subst e; exact uP
theorem wL (e : X.K = K := by rfl) : IxR X (zbN K) := by subst e; exact xU
theorem vD (e : X.K = K := by rfl) : IxR X (zdV K) := by subst e; exact zdb
theorem Zt (e : X.K = K := by rfl) : SlR X (zd6 K) := by subst e; exact zce
theorem k_all (hc : X.calm = true) (e : X.K = K := by rfl) : wM X (.builtin "all") (zdX K) := by subst e; exact zba hc
theorem zbi (hc : X.calm = true) (e : X.K = K := by rfl) : wM X (.builtin "any") (zdH K) := by subst e; exact za3 hc
theorem Qw (e : X.K = K := by rfl) : wM X (.type "list") (fun xs H Q => ∃ p ys, xs = [.ref p] ∧ (SqL K H p ys ∨ SqT K H p ys) ∧ ∀ l, H l = none → Q (.ref l) (upd H l (.lst ys))) := by subst e; exact U8
theorem QT (hu : X.A.units + 64 < cLine) (e : X.K = K := by rfl) : OpR X (compareOp .Eq) (zcm K false) := by subst e; exact zc2 hu
theorem Jc (hu : X.A.units + 64 < cLine) (e : X.K = K := by rfl) : OpR X (compareOp .NotEq) (zcm K true) := by subst e; exact zc5 hu
theorem zdT (hu : X.A.units + 64 < cLine) (e : X.K = K := by rfl) : OpR X (compareOp .In) (zco K false) := by subst e; exact zdi hu
theorem WN (hu : X.A.units + 64 < cLine) (e : X.K = K := by rfl) : OpR X (compareOp .NotIn) (zco K true) := by subst e; exact zaQ hu
theorem jX {tg l : Expr} {tl : TE} (hl : PE X l tl) (e : X.K = K := by rfl) : PI X tg l (zcD K tl) := by subst e; exact zcb hl
end
structure Df (K : PySem.W.Frag) (mg : Str → Option Value) (x : Str) (st : Stmt) (ps : List Str) (f : Addr) (fd : FuncData) : Prop where
  fn : Fun K x x st f fd
  b : Binds K fd ps []
  g : mg x = some (.ref f)
theorem zJ {X : Cx} {x : Str} {st : Stmt} {ps : List Str} {f : Addr} {fd : FuncData} {k : Nat} {sp : Sp} {e : Expr} {es : List Expr} {t : TA} {p pos : Pos} (D : Df X.K X.mg x st ps f fd) (G : FnOk X.prog X.w X.K X.mg X.base CX0 k f fd ps sp) (hr : Room k X.A) (ha : PA X (e :: es) t) (hg : Gl X x := by rfl)
    (hdb : (x == ("__debug__" : Str)) = false := by decide) (he : starEach (e :: es) X.env = (false, eval e X.env) :: starEach es X.env := by rfl) (hpl : (backTo pos (starEach es X.env)).any (·.1) = false := by rfl) : PE X (.Call (.Name x p) (e :: es) [] pos) (zcG sp [] E0 t) :=
  zb7 G hr hg D.g D.fn.kp D.b .nil zah ha hdb he hpl
theorem za4 {K : PySem.W.Frag} {h : Heap} {mg : Str → Option Value} {x : Str} {st : Stmt} {ps : List Str} {f : Addr} {oc : Value} {od an : Option Addr} {osl : Array (Option Value)} {kV doc pm cdv ct : Value} (X : K.In h) (G : h.Ns mainGlobals mg)
    (a : PySem.W.nsIn K mainGlobals x = some (some (.ref f))) (l : K.lookup f = some ⟨oc, od, .func (PySem.W.fnOf x x (wJ st) (yS st) (zq st) .none kV doc pm an cdv ct), osl⟩) (c : PySem.W.codeIn K cdv x = true) (k : PySem.W.keepIn K (.ref f) = true)
    (hb : ∀ (kV doc pm : Value) (an : Option Addr) (cdv ct : Value) (us : List Value), us.length = ps.length → bindArgs (PySem.W.fnOf x x (wJ st) (yS st) (zq st) .none kV doc pm an cdv ct) ⟨us, []⟩ = pure (ps.zip us)) :
    Df K mg x st ps f (PySem.W.fnOf x x (wJ st) (yS st) (zq st) .none kV doc pm an cdv ct) :=
  ⟨Ql l c k, (Ql (st := st) l c k).binds hb, PySem.W.mg_of X G a⟩
structure Blt (mg : Str → Option Value) : Prop where
  n_isinstance : mg "isinstance" = none
  n_int : mg "int" = none
  n_bool : mg "bool" = none
  n_list : mg "list" = none
  n_tuple : mg "tuple" = none
  n_reversed : mg "reversed" = none
  n_len : mg "len" = none
  n_max : mg "max" = none
  n_min : mg "min" = none
  n_range : mg "range" = none
  n_all : mg "all" = none
  n_any : mg "any" = none
  n_sorted : mg "sorted" = none
  n_enumerate : mg "enumerate" = none
  n_repr : mg "repr" = none
theorem Ww {A : Around} {k : Nat} (hr : Room k A) : A.units + 64 < cLine := hr.units
def aw (fp : List Addr) (H : Hp) : Hp := fun b => if b ∈ fp then none else H b
theorem Zr {fp : List Addr} {H : Hp} {b : Addr} (h : b ∈ fp) : aw fp H b = none := by unfold aw; rw [if_pos h]
theorem zV {fp : List Addr} {H : Hp} {b : Addr} (h : b ∉ fp) : aw fp H b = H b := by unfold aw; rw [if_neg h]
theorem xf (fp : List Addr) (H : Hp) : Same (aw fp H) H := fun b o e => by
  by_cases h : b ∈ fp
  · rw [Zr h] at e; cases e
  · rw [zV h] at e; exact e
theorem Same.aw {H H' : Hp} (h : Same H H') (fp : List Addr) : Same (aw fp H) (aw fp H') := fun b o e => by
  by_cases hb : b ∈ fp
  · rw [Zr hb] at e; cases e
  · rw [zV hb] at e ⊢; exact h b o e
theorem zj {H : Hp} {p : Addr} {o : HO} (h : H p = none) : Same H (upd H p o) := fun b u e => by rw [zr (zx e h)]; exact e
end L2
namespace HT
open PySem PyProof.Rows
section
open PySem.SeqAt
open PySem.AutoSeq1 (wpAny_loadPart')
open PySem.MeetsSeq PySem.MeetsSeq2 PySem.MeetsSeq3 PySem.SeqRoads2
theorem zag {vs : List Value} {ns : List Int} (h : IntsAre vs ns) {i : Nat} (hi : i < ns.length) : ∃ t, vs[i]? = some (.int (ns[i]) t) := by
  induction h generalizing i with
  | nil => simp at hi
  | cons a t h ih =>
    cases i with
    | zero => exact ⟨t, rfl⟩
    | succ i =>
      obtain ⟨t', e⟩ := ih (i := i) (by simpa using hi)
      exact ⟨t', by simpa using e⟩
theorem zcp (l b : Addr) (items items2 : Array Value) (n n2 : Nat) (dd dd2 : Option Addr) (sl sl2 : Array (Option Value)) (ns ms : List Int) (hi : IntsAre items.toList ns) (hj : IntsAre items2.toList ms) (k : Nat) :
    ∀ i : Nat, ns.length - i = k → i ≤ ns.length → i ≤ ms.length → Meets (Builtin.«list.__eq__.loop» ⟨[.ref l, .ref b, rawInt i, rawInt 0], []⟩)
      (fun _ R s => s.heap.get? l = some { cls := .type "list", dict := dd, data := .seq items n, slots := sl } ∧ s.heap.get? b = some { cls := .type "list", dict := dd2, data := .seq items2 n2, slots := sl2 } ∧
        R (.ok (.ret (.bool (lexLt (ns.drop i) (ms.drop i))))) s) := by
  have z1 : items.size = ns.length := by rw [← hi.length]; simp
  have z2 : items2.size = ms.length := by rw [← hj.length]; simp
  induction k with
  | zero =>
    intro i hk h1 h2 prog w A R s h
    obtain ⟨hp, g, d, tk, os⟩ := s; obtain ⟨hl, hb, h⟩ := h
    have hin : i = ns.length := by omega
    wp_walk using wpAny_loadPart' hl, wpAny_loadPart' hb
    have hi1 : items[((i : Nat) : Int).toNat]? = none := by simp; omega
    have hd : ns.drop i = [] := by simp; omega
    rw [hd] at h
    rw [hi1]
    wp_walk using wpAny_loadPart' hl, wpAny_loadPart' hb
    show R (.ok (.ret (.bool (decide (items.size < items2.size))))) _
    have e : lexLt [] (ms.drop i) = decide (items.size < items2.size) := by
      cases q : ms.drop i with
      | nil =>
        rw [Z3]
        have : ms.length ≤ i := by simpa using List.drop_eq_nil_iff.mp q
        exact (decide_eq_false (by omega)).symm
      | cons x y =>
        rw [Vh]
        have : i < ms.length := by
          by_cases z : i < ms.length
          · exact z
          · rw [List.drop_of_length_le (by omega)] at q; cases q
        exact (decide_eq_true (by omega)).symm
    rw [← e]
    exact h
  | succ k ih =>
    intro i hk h1 h2 prog w A R s h
    obtain ⟨hp, g, d, tk, os⟩ := s; obtain ⟨hl, hb, h⟩ := h
    have hlt : i < ns.length := by omega
    obtain ⟨t, et⟩ := zag hi hlt
    have hi1 : items[((i : Nat) : Int).toNat]? = some (.int (ns[i]) t) := by simpa using et
    by_cases hm : i < ms.length
    · obtain ⟨u, eu⟩ := zag hj hm
      have hi2 : items2[((i : Nat) : Int).toNat]? = some (.int (ms[i]) u) := by simpa using eu
      wp_walk using wpAny_loadPart' hl, wpAny_loadPart' hb
      rw [List.drop_eq_getElem_cons hlt, List.drop_eq_getElem_cons hm, uZ] at h
      have hc : ((i : Int) + 1) = ((i + 1 : Nat) : Int) := by push_cast; rfl
      rw [hi1, hi2]
      obtain ⟨e, he, hiff⟩ := zbc A.in1 ⟨hp, g, d, tk, os⟩ (ns[i]) t (ms[i]) u
      refine wpAny_bind (he prog w _ _ ?_)
      cases e with
      | true =>
        rw [if_pos (hiff.mp rfl)] at h
        wp_walk
        rw [hc]
        exact ⟨plainId_quiet plain_eq_loop _, codeAny_builtin entry_eq_loop (by
          rw [Around.under_plainId plain_eq_loop _]
          exact ih (i + 1) (by omega) (by omega) (by omega) prog w A R _ ⟨hl, hb, h⟩)⟩
      | false =>
        rw [if_neg (fun q => absurd (hiff.mpr q) Bool.false_ne_true)] at h
        have hri := zbu A.in1 ⟨hp, g, d, tk, os⟩ (ns[i]) t (ms[i]) u prog w
        wp_walk using wpAny_loadPart' hl, wpAny_loadPart' hb
        rw [hi1, hi2]
        wp_walk using hri
        simpa using h
    · have hi2 : items2[((i : Nat) : Int).toNat]? = none := by simp; omega
      wp_walk using wpAny_loadPart' hl, wpAny_loadPart' hb
      rw [List.drop_eq_getElem_cons hlt, List.drop_of_length_le (show ms.length ≤ i by omega), vP] at h
      rw [hi1, hi2]
      wp_walk using wpAny_loadPart' hl, wpAny_loadPart' hb
      show R (.ok (.ret (.bool (decide (items.size < items2.size))))) _
      rw [decide_eq_false (by omega)]
      exact h
theorem Yv (l b : Addr) (items items2 : Array Value) (n n2 : Nat) (dd dd2 : Option Addr) (sl sl2 : Array (Option Value)) (ns ms : List Int) (hi : IntsAre items.toList ns) (hj : IntsAre items2.toList ms) :
    Meets (Builtin.«list.__lt__» ⟨[.ref l, .ref b], []⟩)
      (fun _ R s => s.heap.get? l = some { cls := .type "list", dict := dd, data := .seq items n, slots := sl } ∧ s.heap.get? b = some { cls := .type "list", dict := dd2, data := .seq items2 n2, slots := sl2 } ∧
        R (.ok (.ret (.bool (lexLt ns ms)))) s) := by
  intro prog w A R s h
  obtain ⟨hp, g, d, tk, os⟩ := s; obtain ⟨hl, hb, h⟩ := h
  have f3 := AutoSeq1.sub_list_list
  wp_walk using wpAny_loadPart' hl, wpAny_loadPart' hb
  exact ⟨plainId_quiet plain_eq_loop _, codeAny_builtin entry_eq_loop (by
    rw [Around.under_plainId plain_eq_loop _]
    exact zcp l b items items2 n n2 dd dd2 sl sl2 ns ms hi hj _ 0 rfl (Nat.zero_le _) (Nat.zero_le _) prog w A R _ ⟨hl, hb, by simpa using h⟩)⟩
end
section
variable {prog : Program} {w : World} {A : Around} {E : Value → Shared → Prop} {s : Shared}
theorem Xy {l b : Addr} {items items2 : Array Value} {ns ms : List Int} {Q : Value → Shared → Prop} (hl : s.heap.IsList l items) (hb : s.heap.IsList b items2) (hi : IntsAre items.toList ns) (hj : IntsAre items2.toList ms)
    (hu : A.units < cLine) (h : Q (.bool (lexLt ns ms)) s) : wpAny (model prog w) A (richCompare .Lt (.ref l) (.ref b)) Q E s := by
  obtain ⟨⟨cls, dd, data, sl⟩, ho, hc, n, hd⟩ := id hl
  obtain ⟨⟨cls2, dd2, data2, sl2⟩, ho2, hc2, n2, hd2⟩ := id hb
  simp only at hc hd hc2 hd2
  subst hc hd hc2 hd2
  exact richCompare_meets_room (op := .Lt) ⟨_, ho, rfl⟩ ⟨_, ho2, rfl⟩ PySem.F.slot_list_lt PySem.F.entry_list_lt (PySem.F.args_list_lt_2 _ _) (Yv l b items items2 n n2 dd dd2 sl sl2 ns ms hi hj)
    ⟨ho, ho2, show Value.bool (lexLt ns ms) ≠ Value.notImplemented ∧ Q (.bool (lexLt ns ms)) s from ⟨(fun x => nomatch x), h⟩⟩ hu
end
open PySem PyProof.Rows PySem.W
def Xe {α : Type} (c : Nat → Nat → Bool) : KasT α → α
  | .ret a => a
  | .ask i j k => Xe c (k (c i j))
def kin {α : Type} (n : Nat) : KasT α → Bool
  | .ret _ => true
  | .ask i j k => decide (i < n) && decide (j < n) && kin n (k true) && kin n (k false)
theorem U0 {α : Type} {n : Nat} {c : Nat → Nat → Bool} {cmp : Nat → Nat → (Bool → Shared → Prop) → Shared → Prop} {s : Shared} {Q : α → Shared → Prop} (hc : ∀ i j C, i < n → j < n → C (c i j) s → cmp i j C s) :
    ∀ t : KasT α, kin n t = true → Q (Xe c t) s → t.kasWp cmp Q s
  | .ret a, _, q => q
  | .ask i j k, h, q => by
    unfold kin at h
    simp only [Bool.and_eq_true, decide_eq_true_eq] at h
    refine hc i j _ h.1.1.1 h.1.1.2 ?_
    have q' : Q (Xe c (k (c i j))) s := q
    cases e : c i j with
    | true => rw [e] at q'; exact U0 hc (k true) h.1.2 q'
    | false => rw [e] at q'; exact U0 hc (k false) h.2 q'
theorem tM {α : Type} {n : Nat} {c d : Nat → Nat → Bool} (h : ∀ i j, i < n → j < n → c i j = d i j) : ∀ t : KasT α, kin n t = true → Xe c t = Xe d t
  | .ret a, _ => rfl
  | .ask i j k, hk => by
    unfold kin at hk
    simp only [Bool.and_eq_true, decide_eq_true_eq] at hk
    unfold Xe
    rw [h i j hk.1.1.1 hk.1.1.2]
    cases d i j with
    | true => exact tM h (k true) hk.1.2
    | false => exact tM h (k false) hk.2
def tab (b : Nat → Nat → Bool) (i j : Nat) : Bool := if i < j then b i j else if j < i then !b j i else false
def ZZ (n : Nat) (c : Nat → Nat → Bool) (p : List Nat) : Bool := p.isPerm (List.range n) && (List.range n).all fun i => (List.range n).all fun j => !decide (i < j) || c (p.getD i 0) (p.getD j 0)
def tr3 (n : Nat) (c : Nat → Nat → Bool) : Bool := (List.range n).all fun i => (List.range n).all fun j => (List.range n).all fun k => !c i j || !c j k || c i k
def half (b01 b02 b03 b12 b13 b23 : Bool) (i j : Nat) : Bool := match i, j with
  | 0, 1 => b01 | 0, 2 => b02 | 0, 3 => b03 | 1, 2 => b12 | 1, 3 => b13 | 2, 3 => b23 | _, _ => false
theorem zdv : kin 2 (kas_sort 2) = true := by decide +kernel
theorem zdz : kin 3 (kas_sort 3) = true := by decide +kernel
theorem zdW : kin 4 (kas_sort 4) = true := by decide +kernel
theorem zdM : ∀ b01 : Bool, ZZ 2 (tab (half b01 true true true true true)) (Xe (tab (half b01 true true true true true)) (kas_sort 2)).toList = true := by decide +kernel
theorem zdI : ∀ b01 b02 b12 : Bool, tr3 3 (tab (half b01 b02 true b12 true true)) = true → ZZ 3 (tab (half b01 b02 true b12 true true)) (Xe (tab (half b01 b02 true b12 true true)) (kas_sort 3)).toList = true := by decide +kernel
theorem zdx : ∀ b01 b02 b03 b12 b13 b23 : Bool, tr3 4 (tab (half b01 b02 b03 b12 b13 b23)) = true → ZZ 4 (tab (half b01 b02 b03 b12 b13 b23)) (Xe (tab (half b01 b02 b03 b12 b13 b23)) (kas_sort 4)).toList = true := by decide +kernel
theorem uR : ∀ a : List Int, lexLt a a = false
  | [] => rfl
  | x :: a => by rw [uZ, if_pos rfl, uR a]
theorem Ye : ∀ a b : List Int, a ≠ b → lexLt b a = !lexLt a b
  | [], [], h => absurd rfl h
  | [], _ :: _, _ => rfl
  | _ :: _, [], _ => rfl
  | x :: a, y :: b, h => by
    rw [uZ, uZ]
    by_cases e : x = y
    · subst e
      rw [if_pos rfl, if_pos rfl]
      exact Ye a b fun z => h (by rw [z])
    · rw [if_neg e, if_neg (Ne.symm e), Bool.eq_iff_iff]
      simp
      omega
theorem j0 : ∀ a b c : List Int, lexLt a b = true → lexLt b c = true → lexLt a c = true
  | [], [], _, h, _ => by rw [Z3] at h; cases h
  | [], _ :: _, [], _, h => by rw [vP] at h; cases h
  | [], _ :: _, _ :: _, _, _ => rfl
  | _ :: _, [], _, h, _ => by rw [vP] at h; cases h
  | _ :: _, _ :: _, [], _, h => by rw [vP] at h; cases h
  | x :: a, y :: b, z :: c, h1, h2 => by
    rw [uZ] at h1 h2 ⊢
    by_cases e1 : x = y
    · subst e1
      rw [if_pos rfl] at h1
      by_cases e2 : x = z
      · subst e2
        rw [if_pos rfl] at h2 ⊢
        exact j0 a b c h1 h2
      · rw [if_neg e2] at h2 ⊢; exact h2
    · rw [if_neg e1] at h1
      have h1' := of_decide_eq_true h1
      by_cases e2 : y = z
      · subst e2
        rw [if_neg e1]; exact h1
      · rw [if_neg e2] at h2
        have h2' := of_decide_eq_true h2
        rw [if_neg (show x ≠ z by omega)]
        exact decide_eq_true (by omega)
theorem Us {n : Nat} (hn : n ≤ 4) {c : Nat → Nat → Bool} {b01 b02 b03 b12 b13 b23 : Bool} (h01 : 1 < n → b01 = c 0 1) (h02 : 2 < n → b02 = c 0 2) (h03 : 3 < n → b03 = c 0 3) (h12 : 2 < n → b12 = c 1 2) (h13 : 3 < n → b13 = c 1 3) (h23 : 3 < n → b23 = c 2 3) :
    ∀ i j, i < j → j < n → half b01 b02 b03 b12 b13 b23 i j = c i j := by
  intro i j h1 h2
  have hh : (i = 0 ∧ j = 1) ∨ (i = 0 ∧ j = 2) ∨ (i = 0 ∧ j = 3) ∨ (i = 1 ∧ j = 2) ∨ (i = 1 ∧ j = 3) ∨ (i = 2 ∧ j = 3) := by omega
  rcases hh with ⟨rfl, rfl⟩ | ⟨rfl, rfl⟩ | ⟨rfl, rfl⟩ | ⟨rfl, rfl⟩ | ⟨rfl, rfl⟩ | ⟨rfl, rfl⟩
  · exact h01 h2
  · exact h02 h2
  · exact h03 h2
  · exact h12 h2
  · exact h13 h2
  · exact h23 h2
theorem zbV {ls : List (List Int)} (nd : ls.Nodup) (h2 : 2 ≤ ls.length) (h4 : ls.length ≤ 4) :
    kin ls.length (kas_sort ls.length) = true ∧ ZZ ls.length (fun i j => lexLt (ls.getD i []) (ls.getD j [])) (Xe (fun i j => lexLt (ls.getD i []) (ls.getD j [])) (kas_sort ls.length)).toList = true := by
  generalize hc : (fun i j => lexLt (ls.getD i []) (ls.getD j [])) = c
  have cd : ∀ i j, c i j = lexLt (ls.getD i []) (ls.getD j []) := fun i j => by rw [← hc]
  have flip : ∀ i j, i < ls.length → j < ls.length → i ≠ j → c j i = !c i j := fun i j hi hj hij => by
    rw [cd, cd]
    refine Ye _ _ fun e => hij ?_
    have e1 : ls.getD i [] = ls[i] := by rw [List.getD_eq_getElem?_getD, List.getElem?_eq_getElem hi]; rfl
    have e2 : ls.getD j [] = ls[j] := by rw [List.getD_eq_getElem?_getD, List.getElem?_eq_getElem hj]; rfl
    rw [e1, e2] at e
    exact (List.getElem_inj nd).mp e
  have tabc : ∀ b : Nat → Nat → Bool, (∀ i j, i < j → j < ls.length → b i j = c i j) → ∀ i j, i < ls.length → j < ls.length → tab b i j = c i j := fun b hb i j hi hj => by
    unfold tab
    by_cases h : i < j
    · rw [if_pos h, hb i j h hj]
    · rw [if_neg h]
      by_cases h' : j < i
      · rw [if_pos h', hb j i h' hi, flip j i hj hi (by omega)]
      · rw [if_neg h']
        have : i = j := by omega
        subst this
        rw [cd, uR]
  have outc : ∀ (b : Nat → Nat → Bool) (p : List Nat), (∀ i j, i < ls.length → j < ls.length → tab b i j = c i j) → ZZ ls.length (tab b) p = true → ZZ ls.length c p = true := fun b p hb h => by
    unfold ZZ at h ⊢
    rw [Bool.and_eq_true] at h ⊢
    refine ⟨h.1, ?_⟩
    have pm := List.isPerm_iff.mp h.1
    have hl : p.length = ls.length := by rw [pm.length_eq, List.length_range]
    rw [List.all_eq_true] at h ⊢
    intro i hi
    have q := h.2 i hi
    rw [List.all_eq_true] at q ⊢
    intro j hj
    have q2 := q j hj
    have hi' := List.mem_range.mp hi
    have hj' := List.mem_range.mp hj
    have m : ∀ k, k < ls.length → p.getD k 0 < ls.length := fun k hk => by
      have e : p.getD k 0 = p[k]'(by omega) := by rw [List.getD_eq_getElem?_getD, List.getElem?_eq_getElem (by omega)]; rfl
      rw [e]
      exact List.mem_range.mp (pm.mem_iff.mp (List.getElem_mem _))
    rw [hb _ _ (m i hi') (m j hj')] at q2
    exact q2
  have trc : ∀ (b : Nat → Nat → Bool), (∀ i j, i < ls.length → j < ls.length → tab b i j = c i j) → tr3 ls.length (tab b) = true := fun b hb => by
    unfold tr3
    simp only [List.all_eq_true, List.mem_range]
    intro i hi j hj k hk
    rw [hb i j hi hj, hb j k hj hk, hb i k hi hk]
    cases e1 : c i j
    · rfl
    · cases e2 : c j k
      · rfl
      · rw [cd] at e1 e2
        rw [cd, j0 _ _ _ e1 e2]; rfl
  have hn : ls.length = 2 ∨ ls.length = 3 ∨ ls.length = 4 := by omega
  rcases hn with hn | hn | hn
  · rw [hn] at tabc outc trc ⊢
    have t := tabc (half (c 0 1) true true true true true) (Us (by decide) (fun _ => rfl) (fun z => by omega) (fun z => by omega) (fun z => by omega) (fun z => by omega) (fun z => by omega))
    refine ⟨zdv, ?_⟩
    rw [tM (fun i j hi hj => (t i j hi hj).symm) _ zdv]
    exact outc _ _ t (zdM _)
  · rw [hn] at tabc outc trc ⊢
    have t := tabc (half (c 0 1) (c 0 2) true (c 1 2) true true) (Us (by decide) (fun _ => rfl) (fun _ => rfl) (fun z => by omega) (fun _ => rfl) (fun z => by omega) (fun z => by omega))
    refine ⟨zdz, ?_⟩
    rw [tM (fun i j hi hj => (t i j hi hj).symm) _ zdz]
    exact outc _ _ t (zdI _ _ _ (trc _ t))
  · rw [hn] at tabc outc trc ⊢
    have t := tabc (half (c 0 1) (c 0 2) (c 0 3) (c 1 2) (c 1 3) (c 2 3)) (Us (by decide) (fun _ => rfl) (fun _ => rfl) (fun _ => rfl) (fun _ => rfl) (fun _ => rfl) (fun _ => rfl))
    refine ⟨zdW, ?_⟩
    rw [tM (fun i j hi hj => (t i j hi hj).symm) _ zdW]
    exact outc _ _ t (zdx _ _ _ _ _ _ (trc _ t))
end HT
namespace L2
open PySem PySem.Spec PyProof.Rows
section
variable {X : Cx}
def zed (K : PySem.W.Frag) : R2 := fun x y H Q => ∃ (a b : Addr) (ns ms : List Int), x = .ref a ∧ y = .ref b ∧ SqL K H a (ns.map V.int) ∧ SqL K H b (ms.map V.int) ∧ Q (.bl (HT.lexLt ns ms)) H
theorem zdK (K : PySem.W.Frag) (hu : X.A.units + 64 < cLine) (e : X.K = K := by rfl) : OpR X (compareOp .Lt) (zed K) := by
  subst e
  intro pins s σ H x y v u Q I rx ry h
  obtain ⟨a, b, ns, ms, rfl, rfl, ha, hb, q⟩ := h
  cases rx
  cases ry
  obtain ⟨its, r1, p1, _⟩ := I.list ha
  obtain ⟨its2, r2, p2, _⟩ := I.list hb
  exact HT.Xy p1.isList p2.isList (intsAre_of r1) (intsAre_of r2) (by omega) ⟨.bl (HT.lexLt ns ms), H, I, rfl, q⟩
end
end L2
namespace HT
open PySem PyProof.Rows PySem.W
section
variable {prog : Program} {w : World} {A : Around} {E : Value → Shared → Prop} {s : Shared}
theorem zdh {l b : Addr} {items items2 : Array Value} {ns ms : List Int} {Q : Bool → Shared → Prop} (hl : s.heap.IsList l items) (hb : s.heap.IsList b items2) (hi : IntsAre items.toList ns) (hj : IntsAre items2.toList ms) (hu : A.units + 1 < cLine)
    (h : Q (lexLt ns ms) s) : wpAny (model prog w) A (keyLt' oneType' (.ref l) (.ref b)) Q E s := by
  obtain ⟨⟨cls, dd, data, sl⟩, ho, hc, n, hd⟩ := id hl
  obtain ⟨⟨cls2, dd2, data2, sl2⟩, ho2, hc2, n2, hd2⟩ := id hb
  simp only at hc hd hc2 hd2
  subst hc hd hc2 hd2
  rw [keyLt'_oneType, oneLt'_eq]
  simp only [if_true]
  refine wpAny_bind (wpAny_cRoomFor (by omega) (wpAny_bind (wpAny_callSpecialIfBound?_slot (T := "list") (name := "__lt__") ⟨_, ho, rfl⟩ PySem.F.slot_list_lt
    (call_meets PySem.F.slot_list_lt ⟨_, ho, rfl⟩ PySem.F.entry_list_lt (PySem.F.args_list_lt_2 _ _) (Yv l b items items2 n n2 dd dd2 sl sl2 ns ms hi hj) ⟨ho, ho2, ?_⟩))))
  exact wpAny_truthy_bool h
theorem V0 {α : Type} (d : α) (zs : List α) {p : List Nat} (h : p.Perm (List.range zs.length)) : (p.map fun i => zs.getD i d).Perm zs := by
  have e : (List.range zs.length).map (fun i => zs.getD i d) = zs := by
    apply List.ext_getElem?
    intro i
    rw [List.getElem?_map]
    by_cases hi : i < zs.length
    · rw [List.getElem?_range hi, Option.map_some, List.getD_eq_getElem?_getD, List.getElem?_eq_getElem hi]; rfl
    · rw [List.getElem?_eq_none (by simpa using hi), List.getElem?_eq_none (by omega)]; rfl
  have q := h.map fun i => zs.getD i d
  rw [e] at q
  exact q
theorem JN {a : Addr} {zs : List (Addr × List Int)} {n0 : Nat} {P : Fin → Shared → Prop} (ho : s.heap.get? a = some (seqObj "list" (zs.map fun z => Value.ref z.1).toArray n0))
    (hz : ∀ z ∈ zs, z.1 ≠ a ∧ ∃ its : List Value, s.heap.IsList z.1 its.toArray ∧ IntsAre its z.2) (nd : (zs.map (·.2)).Nodup) (h4 : zs.length ≤ 4) (hu : A.units + 1 < cLine)
    (h : ∀ zs' : List (Addr × List Int), zs'.Perm zs → zs'.Pairwise (fun x y => lexLt x.2 y.2 = true) → P (.done (.ret .none)) { s with heap := sortedHeap s.heap a (zs.map fun z => Value.ref z.1) (zs'.map fun z => Value.ref z.1).toArray }) :
    wpAny (model prog w) A (Builtin.«list.sort» ⟨[.ref a], []⟩) P E s := by
  rw [list_sort_plain]
  generalize hvs : (zs.map fun z => Value.ref z.1) = vs at ho h ⊢
  have hvl : vs.length = zs.length := by rw [← hvs, List.length_map]
  have hsl : vs.length ≤ sizeLine := by rw [hvl, sizeLine_eq]; omega
  have ha : a < s.heap.objs.size := Heap.lt_size ho
  obtain ⟨e1, ho1⟩ : ∃ e1, (s.heap.update a (Obj.mapSeq fun _ => #[])).get? a = some (seqObj "list" #[] e1) := ⟨_, get?_update_seq ho (fun _ => #[])⟩
  refine wpAny_bind (listItems_at ho rfl (wpAny_bind (listUpdate_at ho rfl (wpAny_bind (seqEpoch_at ho1 rfl (wpAny_bind (wpAny_newTuple (wpAny_bind (wpAny_newList (wpAny_holding ?_) (Nat.zero_le _))) (by show vs.length ≤ _; exact hsl))))) (by rw [List.size_toArray]; exact hsl) (Nat.zero_le _))))
  generalize hG : (((s.heap.update a (Obj.mapSeq fun _ => (#[] : Array Value))).push (seqObj "tuple" vs.toArray 0)).push (seqObj "list" #[] 0)) = G
  have ho6 : G.get? a = some (seqObj "list" #[] e1) := by
    rw [← hG, Heap.get?_push_ne _ _ _ (by rw [size_push', Heap.size_update]; exact Nat.ne_of_lt (Nat.lt_succ_of_lt ha)), Heap.get?_push_ne _ _ _ (by rw [Heap.size_update]; exact Nat.ne_of_lt ha)]; exact ho1
  have keep : ∀ b o, b ≠ a → s.heap.get? b = some o → G.get? b = some o := fun b o hb e => by
    have hlt := Heap.lt_size e
    rw [← hG, Heap.get?_push_ne _ _ _ (by rw [size_push', Heap.size_update]; exact Nat.ne_of_lt (Nat.lt_succ_of_lt hlt)), Heap.get?_push_ne _ _ _ (by rw [Heap.size_update]; exact Nat.ne_of_lt hlt), Heap.get?_update_other _ _ (Ne.symm hb)]; exact e
  show wpAny (model prog w) A _ P E { s with heap := G }
  dsimp only
  by_cases h2 : vs.toArray.size < 2
  · rw [if_pos h2, if_pos h2]
    refine wpAny_bind (wpAny_pure ?_)
    rw [StateT.run_pure]
    refine wpAny_bind (wpAny_pure ?_)
    dsimp only
    have hout : (arrOf (SortSt.mk' general' (vs.toArray.zip vs.toArray) #[] 7 none)).map (·.2) = vs.toArray := by
      show (vs.toArray.zip vs.toArray).map (·.2) = vs.toArray
      apply Array.toList_inj.mp
      rw [Array.toList_map, Array.toList_zip, List.map_snd_zip (by simp)]
    rw [hout]
    refine wpAny_bind (seqEpoch_at ho6 rfl (wpAny_bind (listUpdate_at ho6 rfl ?_ (Nat.zero_le _) (by rw [List.size_toArray]; exact Nat.le_succ_of_le hsl))))
    have q := h zs (List.Perm.refl _) (by
      rw [List.size_toArray, hvl] at h2
      match zs, h2 with
      | [], _ => exact .nil
      | [_], _ => exact List.pairwise_singleton _ _)
    rw [hvs] at q
    simp only [bne_self_eq_false, Bool.false_eq_true, if_false]
    have e2 : G.update a (Obj.mapSeq fun _ => vs.toArray) = sortedHeap s.heap a vs vs.toArray := by rw [← hG]; rfl
    rw [e2]
    exact wpAny_pure q
  · rw [if_neg h2, if_neg h2]
    rw [List.size_toArray, hvl] at h2
    have ls2 : (zs.map (·.2)).length = zs.length := List.length_map ..
    obtain ⟨hkin, hok⟩ := zbV nd (by rw [ls2]; omega) (by rw [ls2]; exact h4)
    rw [ls2] at hkin hok
    generalize hcd : (fun i j => lexLt ((zs.map (·.2)).getD i []) ((zs.map (·.2)).getD j [])) = c at hok
    have gz : ∀ i, i < zs.length → vs.getD i Value.none = .ref (zs.getD i (0, [])).1 ∧ (zs.map (·.2)).getD i [] = (zs.getD i (0, [])).2 ∧ zs.getD i (0, []) ∈ zs := fun i hi => by
      have e : zs.getD i (0, []) = zs[i] := by rw [List.getD_eq_getElem?_getD, List.getElem?_eq_getElem hi]; rfl
      rw [e]
      refine ⟨?_, ?_, List.getElem_mem _⟩
      · rw [← hvs, List.getD_eq_getElem?_getD, List.getElem?_map, List.getElem?_eq_getElem hi]; rfl
      · rw [List.getD_eq_getElem?_getD, List.getElem?_map, List.getElem?_eq_getElem hi]; rfl
    refine wpAny_bind (kas_kind (T := .type "list") (by rw [hvl]; omega) (fun v hv => ?_) (by decide) (by decide) ?_)
    · rw [← hvs] at hv
      obtain ⟨z, hzm, rfl⟩ := List.mem_map.mp hv
      obtain ⟨hza, its, hl, _⟩ := hz z hzm
      obtain ⟨o, e, hcl, _⟩ := hl
      intro A' Q' E' s' k q
      exact wpAny_typeOf (T := "list") ⟨o, k _ _ (keep _ _ hza e), hcl⟩ q
    have est : SortSt.mk' oneType' (vs.toArray.zip vs.toArray) #[] 7 none = kas_st oneType' (pairsOf vs) (List.toArray (List.range vs.length)) := by
      have e := kas_range (pairsOf vs)
      rw [pairsOf_size] at e
      unfold kas_st; rw [e]; rfl
    have ask : (kas_sort vs.length).kasWp (kas_cmp prog w A oneType' (pairsOf vs)) (fun p s' => s' = { s with heap := G } ∧ p = Xe c (kas_sort zs.length)) { s with heap := G } := by
      rw [hvl, ← kas_ask_eq]
      refine U0 (n := zs.length) (c := c) (fun i j C hi hj hC => ?_) _ hkin ⟨rfl, rfl⟩
      obtain ⟨a1, a2, a3⟩ := gz i hi
      obtain ⟨b1, b2, b3⟩ := gz j hj
      obtain ⟨hza, its, hl, hI⟩ := hz _ a3
      obtain ⟨hzb, its2, hl2, hI2⟩ := hz _ b3
      unfold kas_ask
      rw [a1, b1]
      refine zdh (s := { s with heap := G }) (hl.at fun o e => keep _ o hza e) (hl2.at fun o e => keep _ o hzb e) (by simpa using hI) (by simpa using hI2) hu ?_
      rw [← hcd] at hC
      simp only [a2, b2] at hC
      exact hC
    have run := kas_runs (E := E) (Q := fun _ st' s' => s' = { s with heap := G } ∧ arrOf st' = (Xe c (kas_sort zs.length)).map (kas_item (pairsOf vs)) ∧ failedOf st' = none) (by rw [hvl]; omega) (by rw [hvl]; omega)
      (fun p' st' s' a1 a2 a3 a4 => ⟨a4.1, by rw [a2, a4.2], a3⟩) ask
    rw [← est] at run
    refine wpAny_bind (wpAny_mono run ?_ fun _ _ e => e)
    rintro ⟨⟨⟩, st'⟩ s' ⟨rfl, har, hf⟩
    dsimp only
    generalize hp : Xe c (kas_sort zs.length) = p at har hok
    have hout : (arrOf st').map (·.2) = ((p.toList.map fun i => zs.getD i (0, [])).map fun z => Value.ref z.1).toArray := by
      apply Array.toList_inj.mp
      rw [har, Array.map_map, Array.toList_map, List.map_map]
      refine List.map_congr_left fun i hi => ?_
      show (kas_item (pairsOf vs) i).2 = _
      rw [kas_item_eq]
      unfold ZZ at hok
      rw [Bool.and_eq_true] at hok
      exact (gz i (List.mem_range.mp ((List.isPerm_iff.mp hok.1).mem_iff.mp hi))).1
    rw [hout]
    have pm : p.toList.Perm (List.range zs.length) := by
      unfold ZZ at hok
      rw [Bool.and_eq_true] at hok
      exact List.isPerm_iff.mp hok.1
    have q := h (p.toList.map fun i => zs.getD i (0, [])) (V0 _ zs pm) (by
      rw [List.pairwise_map, List.pairwise_iff_getElem]
      intro i j hi hj hij
      have hpl : p.toList.length = zs.length := by rw [pm.length_eq, List.length_range]
      unfold ZZ at hok
      simp only [Bool.and_eq_true, List.all_eq_true, List.mem_range] at hok
      have q1 := hok.2 i (by omega) j (by omega)
      rw [decide_eq_true hij] at q1
      have e1 : p.toList.getD i 0 = p.toList[i] := by rw [List.getD_eq_getElem?_getD, List.getElem?_eq_getElem hi]; rfl
      have e2 : p.toList.getD j 0 = p.toList[j] := by rw [List.getD_eq_getElem?_getD, List.getElem?_eq_getElem hj]; rfl
      rw [e1, e2, ← hcd] at q1
      have m1 := List.mem_range.mp (pm.mem_iff.mp (List.getElem_mem hi))
      have m2 := List.mem_range.mp (pm.mem_iff.mp (List.getElem_mem hj))
      rw [← (gz _ m1).2.1, ← (gz _ m2).2.1]
      simpa using q1)
    have hol : ((p.toList.map fun i => zs.getD i (0, [])).map fun z => Value.ref z.1).length = zs.length := by rw [List.length_map, List.length_map, pm.length_eq, List.length_range]
    refine wpAny_bind (seqEpoch_at ho6 rfl (wpAny_bind (listUpdate_at ho6 rfl ?_ (Nat.zero_le _) (by rw [List.size_toArray, hol]; rw [hvl] at hsl; exact Nat.le_succ_of_le hsl))))
    rw [hf]
    simp only [bne_self_eq_false, Bool.false_eq_true, if_false]
    have e2 : ∀ out : Array Value, G.update a (Obj.mapSeq fun _ => out) = sortedHeap s.heap a vs out := fun out => by rw [← hG]; rfl
    rw [e2]
    exact wpAny_pure q
theorem zca {l : Addr} {zs : List (Addr × List Int)} {Q : Value → Shared → Prop} (hl : s.heap.IsList l (zs.map fun z => Value.ref z.1).toArray) (hz : ∀ z ∈ zs, ∃ its : List Value, s.heap.IsList z.1 its.toArray ∧ IntsAre its z.2) (nd : (zs.map (·.2)).Nodup) (h4 : zs.length ≤ 4) (hu : A.units + 8 < cLine)
    (h : ∀ zs' : List (Addr × List Int), zs'.Perm zs → zs'.Pairwise (fun x y => lexLt x.2 y.2 = true) → Q (.ref (s.heap.objs.size + 1)) { s with heap := sortedAll s.heap (zs.map fun z => Value.ref z.1) (zs'.map fun z => Value.ref z.1).toArray }) :
    wpAny (model prog w) A (call (.builtin "sorted") [.ref l]) Q E s := by
  have hsl : (zs.map fun z => Value.ref z.1).length ≤ sizeLine := by rw [List.length_map, sizeLine_eq]; omega
  refine Calls.call_function_entry kind_sorted plain_sorted entry_sorted (args_sorted1 _) ?_
  unfold Builtin.«sorted»
  refine wpAny_bind (m := checkCount "sorted" 1 1 _) (wpAny_pure (wpAny_bind (collect_list hl (wpAny_bind (wpAny_newList ?_ hsl)) hsl)))
  generalize hB : (s.heap.push (seqObj "list" #[] 0)).update s.heap.objs.size (Obj.mapSeq (· ++ (zs.map fun z => Value.ref z.1).toArray)) = B
  have hsz : B.objs.size = s.heap.objs.size + 1 := by rw [← hB, Heap.size_update, size_push']
  have keep : ∀ b o, s.heap.get? b = some o → (B.push (seqObj "list" (zs.map fun z => Value.ref z.1).toArray 0)).get? b = some o := fun b o q => by
    have hlt : b < s.heap.objs.size := Heap.lt_size q
    rw [Heap.get?_push_ne _ _ _ (by rw [hsz]; exact Nat.ne_of_lt (Nat.lt_succ_of_lt hlt)), ← hB, Heap.get?_update_ne _ _ _ _ (Nat.ne_of_lt hlt), Heap.get?_push_ne _ _ _ (Nat.ne_of_lt hlt)]; exact q
  have hoL : (B.push (seqObj "list" (zs.map fun z => Value.ref z.1).toArray 0)).get? (s.heap.objs.size + 1) = some (seqObj "list" (zs.map fun z => Value.ref z.1).toArray 0) := by
    rw [← hsz]; exact Heap.get?_push_size _ rfl
  show wpAny _ _ _ _ _ { s with heap := B.push (seqObj "list" (zs.map fun z => Value.ref z.1).toArray 0) }
  dsimp only
  rw [hsz]
  refine wpAny_bind (wpAny_holding (wpAny_call_entry slot_list_sort ⟨_, hoL, rfl⟩ entry_list_sort (JN (A := A.in1.in1) (s := { s with heap := B.push (seqObj "list" (zs.map fun z => Value.ref z.1).toArray 0) }) hoL (fun z hzm => ?_) nd h4 (by show A.units + 1 + 1 + 1 < cLine; omega) fun zs' a1 a2 => ⟨_, rfl, ?_⟩) (args_list_sort _)))
  · obtain ⟨its, hl', hI⟩ := hz z hzm
    obtain ⟨o, e, _⟩ := id hl'
    exact ⟨Nat.ne_of_lt (Nat.lt_succ_of_lt (Heap.lt_size e)), its, hl'.at fun o e => keep _ o e, hI⟩
  · have q := h zs' a1 a2
    have e2 : sortedHeap (B.push (seqObj "list" (zs.map fun z => Value.ref z.1).toArray 0)) (s.heap.objs.size + 1) (zs.map fun z => Value.ref z.1) (zs'.map fun z => Value.ref z.1).toArray = sortedAll s.heap (zs.map fun z => Value.ref z.1) (zs'.map fun z => Value.ref z.1).toArray := by rw [← hB]; rfl
    show wpAny _ _ _ _ _ { s with heap := sortedHeap (B.push (seqObj "list" (zs.map fun z => Value.ref z.1).toArray 0)) (s.heap.objs.size + 1) (zs.map fun z => Value.ref z.1) (zs'.map fun z => Value.ref z.1).toArray }
    rw [e2]
    exact wpAny_pure ⟨_, rfl, q⟩
end
end HT
namespace L2
open PySem PySem.Spec PyProof.Rows
section
variable {X : Cx}
def zcY (K : PySem.W.Frag) : List V → Hp → VK → Prop := fun xs H Q => ∃ (a : Addr) (zs : List (Addr × List Int)), xs = [.ref a] ∧ SqL K H a (zs.map fun z => V.ref z.1) ∧ zs.length ≤ 4 ∧ (∀ z ∈ zs, SqL K H z.1 (z.2.map V.int)) ∧ (zs.map (·.2)).Nodup ∧
  ∀ (p : Addr) (zs' : List (Addr × List Int)), H p = none → zs'.Perm zs → zs'.Pairwise (fun x y => HT.lexLt x.2 y.2 = true) → Q (.ref p) (upd H p (.lst (zs'.map fun z => V.ref z.1)))
theorem Xj : ∀ {zs : List (Addr × List Int)} {its : List Value}, Vals (zs.map fun z => V.ref z.1) its → its = zs.map fun z => Value.ref z.1
  | [], its, h => by cases h; rfl
  | z :: zs, its, h => by
    cases h with
    | cons r t => rw [Xj t]; cases r; rfl
theorem Y4 : ∀ (zs : List (Addr × List Int)), Vals (zs.map fun z => V.ref z.1) (zs.map fun z => Value.ref z.1)
  | [] => .nil
  | z :: zs => .cons rfl (Y4 zs)
theorem J4 (K : PySem.W.Frag) (hu : X.A.units + 64 < cLine) (e : X.K = K := by rfl) : wM X (.builtin "sorted") (zcY K) := by
  subst e
  intro pins s σ H xs us Q I r h
  obtain ⟨a, zs, rfl, ha, h4, hz, nd, q⟩ := h
  obtain ⟨u, rfl, rx⟩ := vals1 r
  cases rx
  obtain ⟨its, r1, p1, _⟩ := I.list ha
  have e1 := Xj r1
  subst e1
  refine HT.zca p1.isList (fun z hzm => ?_) nd h4 (by omega) fun zs' pm pw => ?_
  · obtain ⟨its, r2, p2, _⟩ := I.list (hz z hzm)
    exact ⟨its, p2.isList, by simpa using intsAre_of r2⟩
  · obtain ⟨c, hat⟩ := sortedAll_at s.heap (zs.map fun z => Value.ref z.1) (zs'.map fun z => Value.ref z.1).toArray
    have hfree : H (s.heap.objs.size + 1) = none := I.hok.fresh (Nat.le_succ _)
    refine ⟨.ref (s.heap.objs.size + 1), _, I.laid (t' := s.toks) (o := .lst (zs'.map fun z => V.ref z.1)) (fun b o e => sortedAll_old e) (Nat.le_succ _) ?_, rfl, q _ zs' hfree pm pw⟩
    exact ⟨by rw [List.length_map, pm.length_eq]; exact Nat.le_trans h4 (by decide), _, c, Y4 zs', hat⟩
end
end L2
namespace HT
open PySem PyProof.Rows PySem.W
def KW {α : Type} (c : Nat → Nat → Bool) (n : Nat) : KasT α → (α → Prop) → Prop
  | .ret a, Q => Q a
  | .ask i j k, Q => i < n ∧ j < n ∧ KW c n (k (c i j)) Q
theorem KW.bind {α β : Type} {c : Nat → Nat → Bool} {n : Nat} {f : α → KasT β} {Q : β → Prop} : ∀ {t : KasT α}, KW c n t (fun a => KW c n (f a) Q) → KW c n (t.bind f) Q
  | .ret _, h => h
  | .ask _ _ k, h => ⟨h.1, h.2.1, KW.bind (t := k _) h.2.2⟩
theorem KW.mono {α : Type} {c : Nat → Nat → Bool} {n : Nat} {Q Q' : α → Prop} (hq : ∀ a, Q a → Q' a) : ∀ {t : KasT α}, KW c n t Q → KW c n t Q'
  | .ret a, h => hq a h
  | .ask _ _ k, h => ⟨h.1, h.2.1, KW.mono hq (t := k _) h.2.2⟩
theorem KW.wp {α : Type} {n : Nat} {c : Nat → Nat → Bool} {cmp : Nat → Nat → (Bool → Shared → Prop) → Shared → Prop} {s : Shared} {Q : α → Prop} (hc : ∀ i j C, i < n → j < n → C (c i j) s → cmp i j C s) :
    ∀ t : KasT α, KW c n t Q → t.kasWp cmp (fun a s' => s' = s ∧ Q a) s
  | .ret _, h => ⟨rfl, h⟩
  | .ask i j k, h => hc i j _ h.1 h.2.1 (KW.wp hc (k (c i j)) h.2.2)
structure Ord (c : Nat → Nat → Bool) (n : Nat) : Prop where
  tr : ∀ i j k, i < n → j < n → k < n → c i j = true → c j k = true → c i k = true
  tot : ∀ i j, i < n → j < n → i ≠ j → c i j = false → c j i = true
  asy : ∀ i j, i < n → j < n → c i j = true → c j i = false
structure Pm (n : Nat) (p : Array Nat) : Prop where
  sz : p.size = n
  pm : p.toList.Perm (List.range n)
theorem Pm.lt {n : Nat} {p : Array Nat} (h : Pm n p) (i : Nat) (hi : i < n) : p.getD i 0 < n := by
  have hs := h.sz
  have e : p.getD i 0 = p[i] := by simp [Array.getD, hs, hi]
  rw [e]
  exact List.mem_range.mp (h.pm.mem_iff.mp (by simp))
theorem Pm.ne {n : Nat} {p : Array Nat} (h : Pm n p) {i j : Nat} (hi : i < n) (hj : j < n) (hij : i ≠ j) : p.getD i 0 ≠ p.getD j 0 := by
  have hs := h.sz
  have e1 : p.getD i 0 = p.toList[i]'(by simp [hs, hi]) := by simp [Array.getD, hs, hi]
  have e2 : p.getD j 0 = p.toList[j]'(by simp [hs, hj]) := by simp [Array.getD, hs, hj]
  rw [e1, e2]
  have nd : p.toList.Nodup := h.pm.nodup_iff.mpr List.nodup_range
  intro z
  exact hij ((List.getElem_inj nd).mp z)
theorem Pm.of {n : Nat} {p q : Array Nat} (h : Pm n p) (z : q.Perm p) : Pm n q := ⟨by rw [z.size_eq]; exact h.sz, (Array.perm_iff_toList_perm.mp z).trans h.pm⟩
def Up (c : Nat → Nat → Bool) (p : Array Nat) (m : Nat) : Prop := ∀ i j, i < j → j < m → c (p.getD i 0) (p.getD j 0) = true
def Dn (c : Nat → Nat → Bool) (p : Array Nat) (m : Nat) : Prop := ∀ i j, i < j → j < m → c (p.getD j 0) (p.getD i 0) = true
section
variable {c : Nat → Nat → Bool} {n : Nat}
theorem Jz (O : Ord c n) {p : Array Nat} (hp : Pm n p) : ∀ (f m : Nat), 1 ≤ m → m + f ≤ n → Up c p m → KW c n (kas_asc p f m) (fun r => m ≤ r ∧ r ≤ m + f ∧ Up c p r ∧ (r < m + f → c (p.getD r 0) (p.getD (r - 1) 0) = true))
  | 0, m, _, _, u => ⟨Nat.le_refl _, Nat.le_refl _, u, fun z => absurd z (Nat.lt_irrefl _)⟩
  | f + 1, m, h1, h2, u => by
    refine ⟨hp.lt m (by omega), hp.lt (m - 1) (by omega), ?_⟩
    cases e : c (p.getD m 0) (p.getD (m - 1) 0) with
    | true => exact ⟨Nat.le_refl _, by omega, u, fun _ => e⟩
    | false =>
      have hs : c (p.getD (m - 1) 0) (p.getD m 0) = true := O.tot _ _ (hp.lt m (by omega)) (hp.lt (m - 1) (by omega)) (hp.ne (by omega) (by omega) (by omega)) e
      have u' : Up c p (m + 1) := fun i j hij hj => by
        by_cases hjm : j < m
        · exact u i j hij hjm
        · have ej : j = m := by omega
          subst ej
          by_cases hi : i = j - 1
          · rw [hi]; exact hs
          · exact O.tr _ _ _ (hp.lt i (by omega)) (hp.lt (j - 1) (by omega)) (hp.lt j (by omega)) (u i (j - 1) (by omega) (by omega)) hs
      refine KW.mono (fun r h => ?_) (Jz O hp f (m + 1) (by omega) (by omega) u')
      exact ⟨by omega, by omega, h.2.2.1, fun z => h.2.2.2 (by omega)⟩
theorem JS (O : Ord c n) {p : Array Nat} (hp : Pm n p) : ∀ (f m : Nat), 1 ≤ m → m + f ≤ n → Dn c p m → KW c n (kas_desc f p m 0) (fun r => r.1 = p ∧ r.2.2 = 0 ∧ m ≤ r.2.1 ∧ r.2.1 ≤ m + f ∧ Dn c p r.2.1)
  | 0, m, _, _, u => ⟨rfl, rfl, Nat.le_refl _, Nat.le_refl _, u⟩
  | f + 1, m, h1, h2, u => by
    refine ⟨hp.lt m (by omega), hp.lt (m - 1) (by omega), ?_⟩
    cases e : c (p.getD m 0) (p.getD (m - 1) 0) with
    | true =>
      have u' : Dn c p (m + 1) := fun i j hij hj => by
        by_cases hjm : j < m
        · exact u i j hij hjm
        · have ej : j = m := by omega
          subst ej
          by_cases hi : i = j - 1
          · rw [hi]; exact e
          · exact O.tr _ _ _ (hp.lt j (by omega)) (hp.lt (j - 1) (by omega)) (hp.lt i (by omega)) e (u i (j - 1) (by omega) (by omega))
      refine KW.mono (fun r h => ?_) (JS O hp f (m + 1) (by omega) (by omega) u')
      exact ⟨h.1, h.2.1, by omega, by omega, h.2.2.2.2⟩
    | false =>
      have hs : c (p.getD (m - 1) 0) (p.getD m 0) = true := O.tot _ _ (hp.lt m (by omega)) (hp.lt (m - 1) (by omega)) (hp.ne (by omega) (by omega) (by omega)) e
      refine ⟨hp.lt (m - 1) (by omega), hp.lt m (by omega), ?_⟩
      rw [hs]
      exact ⟨rfl, rfl, Nat.le_refl _, (show m ≤ m + (f + 1) by omega), u⟩
theorem rev_getD {p : Array Nat} {m : Nat} (hm : m ≤ p.size) (k : Nat) : (kas_rev p 0 m).getD k 0 = if k < m then p.getD (m - 1 - k) 0 else p.getD k 0 := by
  have q := getElem?_mirror_all (xs := p) (i := 0) hm k
  have e : ∀ (a : Array Nat) (j : Nat), a.getD j 0 = (a[j]?).getD 0 := fun a j => by simp [Array.getD_eq_getD_getElem?]
  unfold kas_rev
  rw [e, q]
  by_cases h : k < m
  · rw [if_pos ⟨Nat.zero_le _, h⟩, if_pos h, e, Nat.zero_add]
  · rw [if_neg (by omega), if_neg h, e]
theorem zbM (O : Ord c n) {p : Array Nat} (hp : Pm n p) {m : Nat} (h1 : 1 ≤ m) (h2 : m ≤ n) (u : Dn c p m) : KW c n (kas_tail3 m n p) (fun r => 1 ≤ r.1 ∧ r.1 ≤ n ∧ Pm n r.2 ∧ Up c r.2 r.1) := by
  have hr : Pm n (kas_rev p 0 m) := hp.of (mirror_perm _ _ _ _)
  have hsz : m ≤ p.size := by rw [hp.sz]; exact h2
  have u' : Up c (kas_rev p 0 m) m := fun i j hij hj => by
    rw [rev_getD hsz, rev_getD hsz, if_pos (by omega), if_pos hj]
    exact u _ _ (by omega) (by omega)
  refine KW.bind (KW.mono (fun r h => ?_) (Jz O hr (n - m) m h1 (by omega) u'))
  exact ⟨by omega, by omega, hr, h.2.2.1⟩
theorem zbk (O : Ord c n) {p : Array Nat} (hp : Pm n p) (h2 : 2 ≤ n) : KW c n (kas_count n p) (fun r => 1 ≤ r.1 ∧ r.1 ≤ n ∧ Pm n r.2 ∧ Up c r.2 r.1) := by
  refine KW.bind (KW.mono (fun r h => ?_) (Jz O hp (n - 1) 1 (Nat.le_refl _) (by omega) (fun i j hij hj => by omega)))
  obtain ⟨h1, h3, u, st⟩ := h
  by_cases e : r = n
  · subst e
    rw [if_pos (by simp)]
    exact ⟨h1, Nat.le_refl _, hp, u⟩
  · rw [if_neg (by simpa using e)]
    by_cases hr : r > 1
    · rw [if_pos hr]
      refine ⟨hp.lt 0 (by omega), hp.lt (r - 1) (by omega), ?_⟩
      rw [u 0 (r - 1) (by omega) (by omega)]
      exact ⟨h1, by omega, hp, u⟩
    · rw [if_neg hr]
      have er : r = 1 := by omega
      subst er
      have s1 := st (by omega)
      have d : Dn c p 2 := fun i j hij hj => by
        have ei : i = 0 := by omega
        have ej : j = 1 := by omega
        subst ei; subst ej
        exact s1
      refine KW.bind (KW.mono (fun r h => ?_) (JS O hp (n - 2) 2 (by omega) (by omega) d))
      obtain ⟨a1, a2, a3, a4, a5⟩ := h
      obtain ⟨q, m, z⟩ := r
      simp only at a1 a2 a3 a4 a5
      subst a1; subst a2
      show KW c n (if 0 > 0 then _ else _) _
      rw [if_neg (Nat.lt_irrefl 0)]
      exact zbM O hp (show 1 ≤ m by omega) (show m ≤ n by omega) a5
theorem W8 (O : Ord c n) {p : Array Nat} (hp : Pm n p) {k : Nat} (hk : k < n) (u : Up c p k) : ∀ (f l r : Nat), l ≤ r → r ≤ k → r - l ≤ f → (∀ i, i < l → c (p.getD i 0) (p.getD k 0) = true) → (∀ i, r ≤ i → i < k → c (p.getD k 0) (p.getD i 0) = true) →
    KW c n (kas_place p k f l r) (fun l => l ≤ k ∧ (∀ i, i < l → c (p.getD i 0) (p.getD k 0) = true) ∧ (∀ i, l ≤ i → i < k → c (p.getD k 0) (p.getD i 0) = true))
  | 0, l, r, h1, h2, h3, lo, hi => ⟨by omega, lo, fun i a b => hi i (by omega) b⟩
  | f + 1, l, r, h1, h2, h3, lo, hi => by
    unfold kas_place
    by_cases hlr : l ≥ r
    · rw [if_pos hlr]
      exact ⟨by omega, lo, fun i a b => hi i (by omega) b⟩
    · rw [if_neg hlr]
      have hm : (l + r) / 2 < k := by omega
      refine ⟨hp.lt k hk, hp.lt _ (by omega), ?_⟩
      cases e : c (p.getD k 0) (p.getD ((l + r) / 2) 0) with
      | true =>
        dsimp only
        rw [if_pos rfl]
        refine W8 O hp hk u f l ((l + r) / 2) (by omega) (by omega) (by omega) lo fun i a b => ?_
        by_cases ei : i = (l + r) / 2
        · rw [ei]; exact e
        · exact O.tr _ _ _ (hp.lt k hk) (hp.lt _ (by omega)) (hp.lt i (by omega)) e (u _ _ (by omega) b)
      | false =>
        dsimp only
        rw [if_neg Bool.false_ne_true]
        have hs : c (p.getD ((l + r) / 2) 0) (p.getD k 0) = true := O.tot _ _ (hp.lt k hk) (hp.lt _ (by omega)) (hp.ne hk (by omega) (by omega)) e
        refine W8 O hp hk u f ((l + r) / 2 + 1) r (by omega) h2 (by omega) (fun i a => ?_) hi
        by_cases ei : i = (l + r) / 2
        · rw [ei]; exact hs
        · exact O.tr _ _ _ (hp.lt i (by omega)) (hp.lt _ (by omega)) (hp.lt k hk) (u _ _ (by omega) (by omega)) hs
theorem QG {p : Array Nat} {k l : Nat} (hk : k < p.size) (hl : l ≤ k) (i : Nat) : (bubble p k (k - l)).getD i 0 = if i = l then p.getD k 0 else if l < i ∧ i ≤ k then p.getD (i - 1) 0 else p.getD i 0 := by
  have q := getElem?_bubble hk (k - l) (by omega) i
  have e : ∀ (a : Array Nat) (j : Nat), a.getD j 0 = (a[j]?).getD 0 := fun a j => by simp [Array.getD_eq_getD_getElem?]
  rw [show k - (k - l) = l by omega] at q
  rw [e, e p k, e p (i - 1), e p i, q]
  split
  · rfl
  · split
    · rfl
    · rfl
theorem zbn (O : Ord c n) : ∀ (f : Nat) {p : Array Nat} {k : Nat}, Pm n p → 1 ≤ k → k + f = n → Up c p k → KW c n (kas_bin f p k) (fun q => Pm n q ∧ Up c q n)
  | 0, p, k, hp, h1, h2, u => by
    have : k = n := by omega
    subst this
    exact ⟨hp, u⟩
  | f + 1, p, k, hp, h1, h2, u => by
    refine KW.bind (KW.mono (fun l h => ?_) (W8 O hp (show k < n by omega) u k 0 k (Nat.zero_le _) (Nat.le_refl _) (by omega) (fun i hi => by omega) (fun i a b => by omega)))
    obtain ⟨hlk, lo, hi⟩ := h
    have hks : k < p.size := by rw [hp.sz]; omega
    refine zbn O f (hp.of (bubble_perm _ _ _)) (by omega) (by omega) fun i j hij hj => ?_
    rw [QG hks hlk, QG hks hlk]
    by_cases hi1 : i = l
    · rw [if_pos hi1, if_neg (by omega), if_pos (by omega)]
      exact hi _ (by omega) (by omega)
    · rw [if_neg hi1]
      by_cases hi2 : l < i ∧ i ≤ k
      · rw [if_pos hi2, if_neg (by omega), if_pos (by omega)]
        exact u _ _ (by omega) (by omega)
      · rw [if_neg hi2]
        by_cases hj1 : j = l
        · rw [if_pos hj1]
          exact lo _ (by omega)
        · rw [if_neg hj1]
          by_cases hj2 : l < j ∧ j ≤ k
          · rw [if_pos hj2]
            exact u _ _ (by omega) (by omega)
          · rw [if_neg hj2]
            exact u _ _ (by omega) (by omega)
theorem zdS (O : Ord c n) (h2 : 2 ≤ n) : KW c n (kas_sort n) (fun p => Pm n p ∧ Up c p n) := by
  have h0 : Pm n (List.toArray (List.range n)) := ⟨by simp, by simp⟩
  refine KW.bind (KW.mono (fun r h => ?_) (zbk O h0 h2))
  obtain ⟨h1, h3, hp, u⟩ := h
  by_cases hr : r.1 < n
  · rw [if_pos hr, Nat.max_eq_left h1]
    exact zbn O _ hp h1 (by omega) u
  · rw [if_neg hr]
    have : r.1 = n := by omega
    rw [this] at u
    exact ⟨hp, u⟩
end
end HT
namespace L2
open PySem PySem.Spec PyProof.Rows PySem.W
def Qp (c : Addr) (q : Str) : HO := .ext fun h => h.CodeRec (.ref c) q
def J5 (P : Addr) (pos : Pos) (q : Str) (H : Hp) (c : Addr) : Prop := H P = some (.tbl #[rawInt pos.line, rawInt pos.col, .ref c]) ∧ H c = some (Qp c q)
def Y0 (P : Addr) (pos : Pos) (q : Str) (H : Hp) : Prop := H P = some (.tbl #[]) ∨ ∃ c, J5 P pos q H c
section
variable {P : Program} {w : World} {K : Frag} {mg : Str → Option Value} {base : Heap} {N ps : List Str} {k : Nat} {A : Around} {outer : List Env} {s : Shared} {H : Hp} {us : List Value} {vs : List V} {Q : VK} {E : XK} {f : Addr} {o : Obj}
  {name qual : Str} {params : Arguments} {body : Expr} {scope : Scope} {pm cdv ct : Value} {args : Args}
theorem zb2 (ho : s.heap.get? f = some o) (hd : o.data = .func (kla_fn name qual params body scope [] pm cdv ct)) (hcd : s.heap.CodeRec cdv qual) (S : zB N ps scope) (hr : Room (k + 1) A) (e0 : Env0 P w K mg base A outer s H)
    (hb : BindsTo s (kla_fn name qual params body scope [] pm cdv ct) args (ps.zip us)) (hl : vs.length = ps.length) (r : Vals vs us)
    (hbody : ∃ t, PE (XN CX0 P w K mg base N qual scope f cdv A outer s H E) body t ∧ t (start N vs) H Q) : codeAny (model P w) A (.call (.ref f) args) (CR CX0 outer P w H s Q E) s := by
  have lim : s.heap.NoLimit := e0.mod.nolimit.keeps fun b o e => (e0.bs b o e).1
  have hkind : ∀ y ∈ ps.zip us, scope.names.lookup y.1 = some .local ∨ (scope.names.lookup y.1 = some .cell ∧ ((cellsFrom (s.heap.objs.size + 1) scope.names []).lookup y.1).isSome = true) := fun ⟨n, v⟩ hy => by
    rcases S.par n (List.of_mem_zip hy).1 with q | q
    · exact .inl q
    · exact .inr ⟨q, PySem.W.cellsFrom_some _ _ _ (.inl q)⟩
  refine kla_callFunE hr.depth ho hd S.co S.gen rfl hcd (hb _ _ _ _ ?_)
  refine wpAny_newFunctionEnv_cells S.kind hkind fun env he s1 x => ?_
  subst he
  refine ⟨lim.keeps x.toInCall.keep, kla_codeExpr ?_⟩
  obtain ⟨t, ht, hq⟩ := hbody
  have I : Inv (XN CX0 P w K mg base N qual scope f cdv A outer s H E) [] (start N vs) H s1 := Ue S hr.hd e0 hl r x
  refine wpAny_mono (ht [] s1 (start N vs) H _ I hq) (fun u s' hs => ?_) fun e s' hs => hs
  obtain ⟨v, H', J, rv, q⟩ := hs
  exact ⟨v, H', J.os, J.bare, J.base, J.hok, rv, q⟩
end
section
variable {X : Cx} {pins : List (Addr × Obj)} {σ : St} {H : Hp} {s : Shared} {params : Arguments} {body : Expr} {scope : Scope} {pos : Pos} {c P : Addr} {Q : Value → Shared → Prop}
theorem zbE (I : Inv X pins σ H s) (hdef : defaultsOf params X.env = ([], [])) (hcl : closureFor scope X.env = pure []) (hcode : X.env.code = .ref c) (hK : codeHdIn X.K c P = true) (hB : X.base.BuiltinsAt X.mg P) (hgP : mainGlobals ≠ P)
    (hT : Y0 P pos (X.env.qual ++ "<lambda>") H)
    (h : ∀ (f c' : Addr) (H' : Hp) (s' : Shared) (pm ct : Value), Inv X pins σ H' s' → J5 P pos (X.env.qual ++ "<lambda>") H' c' → s'.heap.get? f = some (kla_obj "<lambda>" (X.env.qual ++ "<lambda>") params body scope [] pm c' ct) → H' f = none → s.heap.objs.size ≤ f →
      (∀ b u, b ≠ P → H b = some u → H' b = some u) → Q (.ref f) s') :
    wpAny (model X.prog X.w) X.A (eval (.Lambda params body scope pos) X.env) Q X.xe s := by
  have C : CodeHd s.heap c P := codeHd_of_K I.kIn hK
  have hg : s.heap.Ns mainGlobals X.mg := I.mod.glob.keeps I.bk
  have hb : s.heap.BuiltinsAt X.mg P := by
    obtain ⟨bm, o, b1, b2, b3, b4, b5, b6, b7, b8⟩ := hB
    exact ⟨bm, o, b1, b2, b3, b4, I.bk _ _ b5, b6, b7, b8⟩
  refine kla_eval hdef ?_
  rcases hT with hP | ⟨c', hP, hc'⟩
  · have hPo : s.heap.get? P = some (tabObj #[]) := I.hok P _ hP
    refine kla_makeFunction hcl I.ok.glob hg hcode C hPo (show TriplesOk [] from trivial) rfl hgP hb fun c' ct h' tk hx hge hlt hrec htb => ?_
    have htb' : h'.get? P = some (tabObj #[rawInt pos.line, rawInt pos.col, .ref c']) := htb
    have hPc : P ≠ c' := fun z => by
      have := Heap.lt_size hPo
      rw [z] at this
      exact absurd (Nat.lt_of_lt_of_le this hge) (Nat.lt_irrefl _)
    have hHc : H c' = none := I.hok.fresh hge
    have old : ∀ b o, b ≠ P → s.heap.get? b = some o → (h'.push (kla_obj "<lambda>" (X.env.qual ++ "<lambda>") params body scope [] ((X.mg "__name__").getD .none) c' ct)).get? b = some o := fun b o hb e => Heap.get?_push_of_some _ (hx b o hb e)
    have nP : ∀ b, H b = none → b ≠ P := fun b n z => by rw [z, hP] at n; cases n
    have up : ∀ b u, b ≠ P → H b = some u → upd (upd H P (.tbl #[rawInt pos.line, rawInt pos.col, .ref c'])) c' (Qp c' (X.env.qual ++ "<lambda>")) b = some u := fun b u hb e => by
      rw [zr (fun z => by rw [z, hHc] at e; cases e), zr hb]; exact e
    have upn : ∀ b, b ≠ P → b ≠ c' → H b = none → upd (upd H P (.tbl #[rawInt pos.line, rawInt pos.col, .ref c'])) c' (Qp c' (X.env.qual ++ "<lambda>")) b = none := fun b h1 h2 e => by
      rw [zr h2, zr h1]; exact e
    have J : Inv X pins σ (upd (upd H P (.tbl #[rawInt pos.line, rawInt pos.col, .ref c'])) c' (Qp c' (X.env.qual ++ "<lambda>"))) { s with heap := h'.push (kla_obj "<lambda>" (X.env.qual ++ "<lambda>") params body scope [] ((X.mg "__name__").getD .none) c' ct), toks := tk } := by
      refine I.un ⟨fun b o e n _ _ => old b o (nP b n) e, fun b o e n _ _ => ⟨o.slots, old b o (nP b n) e⟩, fun b o e n _ => upn b (nP b n) (Nat.ne_of_lt (Nat.lt_of_lt_of_le (Heap.lt_size e) hge)) n, fun b o e _ => ?_, fun b xs e => up b _ (fun z => by rw [z, hP] at e; cases e) e, fun b o u e => up b _ (fun z => by rw [z, hP] at e; cases e) e, fun b ps e => ?_⟩ ?_
      · by_cases hb : b = P
        · rw [hb]; exact ⟨_, Heap.get?_push_of_some _ htb'⟩
        · exact ⟨o, old b o hb e⟩
      · by_cases hb : b = P
        · rw [hb] at e ⊢
          rw [hP] at e
          cases e
          exact ⟨#[rawInt pos.line, rawInt pos.col, .ref c'], by rw [zr hPc, zf]; rfl⟩
        · exact ⟨#[], by rw [up b _ hb e]; simp⟩
      · intro b u e
        by_cases hbc : b = c'
        · subst hbc
          rw [zf] at e
          cases e
          obtain ⟨c2, oc, vs, t, e1, e2, e3, e4⟩ := id hrec
          cases e1
          have q := Heap.get?_push_of_some (kla_obj "<lambda>" (X.env.qual ++ "<lambda>") params body scope [] ((X.mg "__name__").getD .none) b ct) e2
          refine ⟨⟨b, oc, vs, t, rfl, q, e3, e4⟩, ⟨oc, q⟩, fun h1 h2 ⟨c3, o3, v3, t3, a1, a2, a3, a4⟩ k => ?_⟩
          cases a1
          exact ⟨b, o3, v3, t3, rfl, k _ a2, a3, a4⟩
        · rw [zr hbc] at e
          by_cases hbP : b = P
          · rw [hbP] at e ⊢
            rw [zf] at e
            cases e
            exact Heap.get?_push_of_some _ htb'
          · rw [zr hbP] at e
            refine (I.hok b u e).stay (fun d v hd q => old d v ?_ q) (fun d q => ?_) fun d xs q => ?_
            · rcases hd with rfl | hd
              · exact hbP
              · intro z; rw [z, hP] at hd; cases hd
            · exact up d _ (fun z => by rw [z, hP] at q; cases q) q
            · exact up d _ (fun z => by rw [z, hP] at q; cases q) q
    have hsz : s.heap.objs.size ≤ h'.objs.size := Nat.le_of_lt (Nat.lt_of_le_of_lt hge hlt)
    refine h _ c' _ _ _ ct J ⟨by rw [zr hPc, zf], zf⟩ (Heap.get?_push_size _ rfl) ?_ hsz up
    exact upn _ (Nat.ne_of_gt (Nat.lt_of_lt_of_le (Heap.lt_size hPo) hsz)) (Nat.ne_of_gt hlt) (I.hok.fresh hsz)
  · have hPo : s.heap.get? P = some (tabObj #[rawInt pos.line, rawInt pos.col, .ref c']) := I.hok P _ hP
    refine kla_makeFunctionHit hcl I.ok.glob hg hcode C hPo (show TriplesOk [rawInt pos.line, rawInt pos.col, .ref c'] from trivial) (cv := .ref c') ?_ hb fun ct h' tk hk hsz => ?_
    · have := codeAmong_snoc (pos := pos) (c := .ref c') [] trivial rfl
      exact this
    · exact h _ c' H _ _ ct (I.kept (t' := tk) fun b u e => Heap.get?_push_of_some _ (hk b u e)) ⟨hP, hc'⟩ (Heap.get?_push_size _ rfl) (I.hok.fresh hsz) hsz (fun b u _ e => e)
end
end L2
namespace HT
def wN (a b : List Int) : Bool := if a.length = b.length then lexLt a b else decide (a.length < b.length)
theorem Uq (a : List Int) : wN a a = false := by unfold wN; rw [if_pos rfl, uR]
theorem Xu (a b c : List Int) (h1 : wN a b = true) (h2 : wN b c = true) : wN a c = true := by
  unfold wN at *
  by_cases e1 : a.length = b.length
  · rw [if_pos e1] at h1
    by_cases e2 : b.length = c.length
    · rw [if_pos e2] at h2
      rw [if_pos (e1.trans e2)]
      exact j0 a b c h1 h2
    · rw [if_neg e2] at h2
      rw [if_neg (by omega)]
      have := of_decide_eq_true h2
      exact decide_eq_true (by omega)
  · rw [if_neg e1] at h1
    have h1' := of_decide_eq_true h1
    by_cases e2 : b.length = c.length
    · rw [if_neg (by omega)]
      exact decide_eq_true (by omega)
    · rw [if_neg e2] at h2
      have := of_decide_eq_true h2
      rw [if_neg (by omega)]
      exact decide_eq_true (by omega)
theorem Jp (a b : List Int) (h : a ≠ b) : wN b a = !wN a b := by
  unfold wN
  by_cases e : a.length = b.length
  · rw [if_pos e, if_pos e.symm, Ye a b h]
  · rw [if_neg e, if_neg (Ne.symm e), Bool.eq_iff_iff]
    simp
    omega
theorem zet {ls : List (List Int)} (nd : ls.Nodup) : Ord (fun i j => wN (ls.getD i []) (ls.getD j [])) ls.length := by
  have ge : ∀ i, (h : i < ls.length) → ls.getD i [] = ls[i] := fun i h => by rw [List.getD_eq_getElem?_getD, List.getElem?_eq_getElem h]; rfl
  refine ⟨fun i j k _ _ _ h1 h2 => Xu _ _ _ h1 h2, fun i j hi hj hij h => ?_, fun i j hi hj h => ?_⟩
  · have ne : ls.getD i [] ≠ ls.getD j [] := fun z => by
      rw [ge i hi, ge j hj] at z
      exact hij ((List.getElem_inj nd).mp z)
    have := Jp _ _ ne
    rw [h] at this
    exact this
  · cases e : wN (ls.getD j []) (ls.getD i []) with
    | false => rfl
    | true =>
      have := Xu _ _ _ h e
      rw [Uq] at this
      cases this
end HT
namespace L2
open PySem PySem.Spec PyProof.Rows PySem.W
section
variable {X : Cx} {pins : List (Addr × Obj)} {σ : St} {H : Hp} {s : Shared}
theorem Jg (I : Inv X pins σ H s) {p z : Addr} {n : Int} (h : H p = some (.tup [.int n, .ref z])) : ∃ (t : Tok) (o : Obj) (m : Nat), s.heap.get? p = some o ∧ o.cls = .type "tuple" ∧ o.data = .seq #[.int n t, .ref z] m := by
  obtain ⟨_, its, r, o, e, hc, m, hd⟩ := I.hok p _ h
  cases r with
  | cons r1 r2 =>
    cases r2 with
    | cons r3 r4 =>
      cases r4
      obtain ⟨t, rfl⟩ := r1
      cases r3
      exact ⟨t, o, m, e, hc, hd⟩
theorem zdf (I : Inv X pins σ H s) {A : Around} {p q za zb : Addr} {as bs : List Int} (hp : H p = some (.tup [.int as.length, .ref za])) (hq : H q = some (.tup [.int bs.length, .ref zb])) (ha : H za = some (.lst (as.map V.int))) (hb : H zb = some (.lst (bs.map V.int)))
    (hu : A.units + 2 < cLine) {Q : Bool → Shared → Prop} {E : Value → Shared → Prop} (h : Q (HT.wN as bs) s) : wpAny (model X.prog X.w) A (keyLt' (tuples' true) (.ref p) (.ref q)) Q E s := by
  obtain ⟨t, o, m, e, _, hd⟩ := Jg I hp
  obtain ⟨t', o', m', e', _, hd'⟩ := Jg I hq
  refine kat_lt e hd e' hd' ?_
  refine kat_cons (wpAny_eqBool_int ?_)
  unfold HT.wN at h
  by_cases hl : as.length = bs.length
  · rw [if_pos hl] at h
    have e1 : ((as.length : Int) == (bs.length : Int)) = true := by rw [hl]; simp
    rw [e1]
    refine kat_yes (kat_cons ?_)
    refine (Wa I (A := A) 1 (t := yt as) (u := yt bs) (v := .ref za) (w := .ref zb) (by rw [uh]; exact Nat.le_refl _) (TrAt.ints (SqL.of ha)) (TrAt.ints (SqL.of hb)) rfl rfl (by omega)).eq _ _ _ _ ?_
    rw [uA]
    by_cases hab : as = bs
    · rw [decide_eq_true hab]
      refine kat_yes (kat_nil ?_)
      rw [hab, HT.uR] at h
      exact h
    · rw [decide_eq_false hab]
      refine kat_no (kat_one _ _ ?_)
      obtain ⟨its, r1, p1, _⟩ := I.list (SqL.of ha)
      obtain ⟨its2, r2, p2, _⟩ := I.list (SqL.of hb)
      exact HT.Xy p1.isList p2.isList (by simpa using intsAre_of r1) (by simpa using intsAre_of r2) (by omega) h
  · rw [if_neg hl] at h
    have e1 : ((as.length : Int) == (bs.length : Int)) = false := by simp; omega
    rw [e1]
    refine kat_no ?_
    refine oneLt_int ?_
    have : decide ((as.length : Int) < (bs.length : Int)) = decide (as.length < bs.length) := by
      rw [Bool.eq_iff_iff]; simp
    rw [this]
    exact h
end
end L2
set_option maxHeartbeats 4000000
namespace L2
open PySem PySem.Spec PyProof.Rows PySem.W
section
variable {X : Cx} {pins : List (Addr × Obj)} {σ : St} {H : Hp} {s : Shared}
structure zaw (X : Cx) (pins : List (Addr × Obj)) (n : Nat) (a : Addr) : Prop where
  s0 : X.s₀.heap.objs.size ≤ a
  lo : a ≠ X.env.locals
  ce : ∀ x c, X.env.cells.lookup x = some c → c ≠ a
  fs : a ∉ X.fs
  pn : ∀ p ∈ X.pn ++ pins, p.1 ≠ a
  ge : n ≤ a
theorem Inv.late (I : Inv X pins σ H s) {a : Addr} (h : s.heap.objs.size ≤ a) : zaw X pins s.heap.objs.size a :=
  ⟨Nat.le_trans I.sz h, Nat.ne_of_gt (Nat.lt_of_lt_of_le I.lt h), fun x c e z => by
    obtain ⟨v, o, ho, _⟩ := I.cell x c e
    rw [z] at ho
    exact absurd (Nat.lt_of_lt_of_le (Heap.lt_size ho) h) (Nat.lt_irrefl _), I.nofs h, fun p hp z => by
    obtain ⟨e, _⟩ := I.pin p hp
    rw [z] at e
    exact absurd (Nat.lt_of_lt_of_le (Heap.lt_size e) h) (Nat.lt_irrefl _), h⟩
theorem Inv.tell {a : Addr} {xs : List V} {its : List Value} {n : Nat} {h' : Heap} {t' : Nat} (I : Inv X pins σ H s) {m : Nat} (L : zaw X pins m a) (hn : H a = none) (k : ∀ b o, b ≠ a → s.heap.get? b = some o → h'.get? b = some o)
    (hv : Vals xs its) (hz : xs.length ≤ sizeLine) (ha : h'.get? a = some (seqObj "list" its.toArray n)) : Inv X pins σ (upd H a (.lst xs)) { s with heap := h', toks := t' } := by
  have na : ∀ b u, H b = some u → b ≠ a := fun b u e z => by rw [z, hn] at e; cases e
  refine I.step (g' := s.gens) (d' := s.drawn) (ch := [a]) (fun b hb => ?_) (fun b o _ _ hc e _ => k b o (fun z => hc (by simp [z])) e) (fun b o _ _ hc e _ => ⟨o.slots, k b o (fun z => hc (by simp [z])) e⟩) (fun b o hc e n => by rw [zr (fun z => hc (by simp [z]))]; exact n)
    (fun b o hc e => ⟨o, k b o (fun z => hc (by simp [z])) e⟩) (fun b xs e => by rw [zr (na b _ e)]; exact e) (fun b o u e => by rw [zr (na b _ e)]; exact e) (fun b ps e => ⟨#[], by rw [zr (na b _ e), e]; simp⟩) (fun m hm => ?_) (fun b u e => ?_) I.bare
  · have e : b = a := by simpa using hb
    subst e
    exact ⟨.inr L.s0, L.lo, L.ce, L.pn⟩
  · obtain ⟨o, es, ep, ho, r⟩ := hm
    exact ⟨o, es, ep, k _ o (Ne.symm L.lo) ho, r⟩
  · by_cases hb : b = a
    · subst hb
      rw [zf] at e
      cases e
      exact ⟨hz, its, n, hv, ha⟩
    · rw [zr hb] at e
      refine (I.hok b u e).stay (fun c v hc q => k c v ?_ q) (fun c q => by rw [zr (na c _ q)]; exact q) fun c xs q => by rw [zr (na c _ q)]; exact q
      rcases hc with rfl | hc
      · exact hb
      · exact na c _ hc
def zda (H : Hp) (zs : List (Addr × List Int)) (pl : List Addr) : Prop := ∀ j z, zs[j]? = some z → j < pl.length → ∃ p, pl[j]? = some p ∧ H p = some (.tup [.int z.2.length, .ref z.1])
theorem kat_tups (I : Inv X pins σ H s) : ∀ pl : List Addr, (∀ p ∈ pl, ∃ (n : Int) (z : Addr), H p = some (.tup [.int n, .ref z])) → ∃ fs : List Value, KatTups s.heap (pl.map Value.ref) fs ∧ fs.length = pl.length ∧ ∀ v ∈ fs, ∃ n t, v = Value.int n t
  | [], _ => ⟨[], KatTups.nil, rfl, fun v hv => by cases hv⟩
  | p :: pl, h => by
    obtain ⟨fs, h1, h2, h3⟩ := kat_tups I pl fun q hq => h q (.tail _ hq)
    obtain ⟨n, z, e⟩ := h p (.head _)
    obtain ⟨t, o, m, e1, e2, e3⟩ := Jg I e
    refine ⟨.int n t :: fs, KatTups.cons e1 e2 e3 rfl h1, by simp [h2], fun v hv => ?_⟩
    rcases List.mem_cons.mp hv with rfl | hv
    · exact ⟨n, t, rfl⟩
    · exact h3 v hv
theorem zbt {zs : List (Addr × List Int)} {f kS a : Addr} {fo : Obj} {e1 : Nat} {A : Around} {P : PySem.Fin → Shared → Prop} {E : Value → Shared → Prop} {n : Nat}
    (I : Inv X ((f, fo) :: (a, seqObj "list" #[] e1) :: pins) σ H s) (La : zaw X pins n a) (Lk : zaw X ((f, fo) :: (a, seqObj "list" #[] e1) :: pins) n kS) (hkS : s.heap.get? kS = some (seqObj "list" #[] 0)) (hkn : H kS = none)
    (hz : ∀ z ∈ zs, H z.1 = some (.lst (z.2.map V.int))) (nd : (zs.map (·.2)).Nodup) (h60 : zs.length ≤ 60) (hu : A.units + 2 < cLine)
    (turn : ∀ (H' : Hp) (s' : Shared) (pins' : List (Addr × Obj)) (z : Addr × List Int), Inv X pins' σ H' s' → (f, fo) ∈ pins' → Same H H' → z ∈ zs →
      wpAny (model X.prog X.w) A (call (.ref f) [.ref z.1]) (EP X pins' σ fun v H2 => ∃ p, v = .ref p ∧ H' p = none ∧ H2 = upd H' p (.tup [.int z.2.length, .ref z.1])) (fun _ _ => False) s')
    (done : ∀ (H' : Hp) (s' : Shared) (zs' : List (Addr × List Int)), Inv X pins σ (upd H' a (.lst (zs'.map fun z => V.ref z.1))) s' → Same H H' → H' a = none → zs'.Perm zs → zs'.Pairwise (fun x y => HT.wN x.2 y.2 = true) → P (.done (.ret .none)) s') :
    wpAny (model X.prog X.w) A (ksk_rest a (.ref f) false (zs.map fun z => Value.ref z.1).toArray e1 (.ref kS)) P E s := by
  unfold ksk_rest
  refine wpAny_bind (wpAny_rule ?_)
  first
    | rw [List.forIn_toArray]
    | (rw [← Array.forIn_toList]; simp only [List.toList_toArray])
    | rw [← Array.forIn_toList]
  refine wpAny_bind (ksk_fold (fun i s' => ∃ (H' : Hp) (pl : List Addr) (e : Nat), Inv X ((f, fo) :: (a, seqObj "list" #[] e1) :: pins) σ H' s' ∧ s'.heap.get? kS = some (seqObj "list" (pl.map Value.ref).toArray e) ∧ H' kS = none ∧ pl.length = i ∧ zda H' zs pl ∧ Same H H') (zs.map fun z => Value.ref z.1) 0 s
    ⟨H, [], 0, I, hkS, hkn, rfl, fun j z _ h => by simp at h, Same.refl _⟩ ?step ?fin)
  case step =>
    rintro j x s' hx ⟨H', pl, e, I', hk', hkn', hpl, hkeys, sm⟩
    rw [Nat.zero_add] at hpl ⊢
    rw [List.getElem?_map] at hx
    obtain ⟨z, hzj, ez⟩ := Option.map_eq_some_iff.mp hx
    subst ez
    have hzm := List.mem_of_getElem? hzj
    have hj : j < zs.length := (List.getElem?_eq_some_iff.mp hzj).1
    have I2 : Inv X ((kS, seqObj "list" (pl.map Value.ref).toArray e) :: (f, fo) :: (a, seqObj "list" #[] e1) :: pins) σ H' s' := I'.pins_of fun p hp => by
      rcases List.mem_cons.mp hp with rfl | hp
      · exact ⟨hk', hkn', Lk.lo, Lk.fs, fun v z => by cases z⟩
      · exact I'.pin p (List.mem_append_right _ hp)
    refine wpAny_bind (wpAny_attempt (wpAny_mono (turn H' s' _ z I2 (by simp) sm hzm) (fun v s'' he => ?_) fun _ _ hF => hF.elim))
    obtain ⟨v', H2, I3, rv, p, rfl, hpf, rfl⟩ := he
    cases rv
    have pk := I3.pin (kS, seqObj "list" (pl.map Value.ref).toArray e) (List.mem_append_right _ (.head _))
    have I4 : Inv X ((f, fo) :: (a, seqObj "list" #[] e1) :: pins) σ (upd H' p (.tup [.int z.2.length, .ref z.1])) s'' := I3.pins_of fun q hq => I3.pin q (List.mem_append_right _ (.tail _ hq))
    obtain ⟨c2, hc2⟩ : ∃ c2, (s''.heap.update kS (Obj.mapSeq (·.push (.ref p)))).get? kS = some (seqObj "list" ((pl.map Value.ref).toArray.push (.ref p)) c2) := ⟨_, get?_update_seq pk.1 (·.push (.ref p))⟩
    have hsl : (pl.map Value.ref).toArray.size ≤ 60 := by rw [List.size_toArray, List.length_map]; omega
    dsimp only
    refine wpAny_bind (listUpdate_at pk.1 rfl ?_ (Nat.le_trans hsl (by decide)) (by rw [Array.size_push]; exact Nat.le_trans (Nat.succ_le_succ hsl) (by decide)))
    refine wpAny_pure ⟨rfl, _, pl ++ [p], c2, I4.turned (t' := s''.toks) (fun b o hb q => ?_) pk.2.1 Lk.lo (.inr Lk.s0) Lk.ce Lk.pn, ?_, pk.2.1, by rw [List.length_append, List.length_singleton, hpl], fun i y hy hi => ?_, sm.trans (zj hpf)⟩
    · rw [Heap.get?_update_other _ _ (Ne.symm hb)]; exact q
    · rw [hc2]; simp
    · by_cases hlt : i < pl.length
      · obtain ⟨p', e1', e2'⟩ := hkeys i y hy hlt
        exact ⟨p', by rw [List.getElem?_append_left hlt]; exact e1', by rw [zr (zx e2' hpf)]; exact e2'⟩
      · have ei : i = pl.length := by rw [List.length_append, List.length_singleton] at hi; omega
        have ej : i = j := by omega
        rw [ej, hzj] at hy
        cases hy
        exact ⟨p, by rw [ei]; simp, zf⟩
  case fin =>
    rintro s' ⟨H', pl, e, I', hk', hkn', hpl, hkeys, sm⟩
    rw [Nat.zero_add, List.length_map] at hpl
    try dsimp only
    refine wpAny_bind (listItems_at hk' rfl ?_)
    have ga := I'.pin (a, seqObj "list" #[] e1) (List.mem_append_right _ (.tail _ (.head _)))
    have Ip : Inv X pins σ H' s' := I'.pins_of fun q hq => I'.pin q (by
      rcases List.mem_append.mp (List.mem_append_right X.pn hq) with h | h
      · exact List.mem_append_left _ h
      · exact List.mem_append_right _ (.tail _ (.tail _ h)))
    have nka : kS ≠ a := fun z => Lk.pn (a, seqObj "list" #[] e1) (List.mem_append_right _ (.tail _ (.head _))) z.symm
    have tail : ∀ (st : SortSt) (zs' : List (Addr × List Int)), (arrOf st).map (·.2) = (zs'.map fun z => Value.ref z.1).toArray → failedOf st = none → zs'.Perm zs → zs'.Pairwise (fun x y => HT.wN x.2 y.2 = true) →
        wpAny (model X.prog X.w) A (ksk_tail a false e1 (.ref kS) st) P E s' := by
      intro st zs' hout hfl pm pw
      have hlen : zs'.length ≤ 60 := by rw [pm.length_eq]; exact h60
      have s1 := Heap.SameBut.update s'.heap kS (Obj.mapSeq fun _ => (#[] : Array Value))
      have na1 : (s'.heap.update kS (Obj.mapSeq fun _ => (#[] : Array Value))).get? a = some (seqObj "list" #[] e1) := (s1.2 a nka.symm).trans ga.1
      obtain ⟨c2, hc2⟩ : ∃ c2, ((s'.heap.update kS (Obj.mapSeq fun _ => (#[] : Array Value))).update a (Obj.mapSeq fun _ => (zs'.map fun z => Value.ref z.1).toArray)).get? a = some (seqObj "list" (zs'.map fun z => Value.ref z.1).toArray c2) :=
        ⟨_, get?_update_seq na1 fun _ => (zs'.map fun z => Value.ref z.1).toArray⟩
      have I5 : Inv X pins σ H' { s' with heap := s'.heap.update kS (Obj.mapSeq fun _ => (#[] : Array Value)), toks := s'.toks } := Ip.turned (fun b o hb q => by rw [Heap.get?_update_other _ _ (Ne.symm hb)]; exact q) hkn' Lk.lo (.inr Lk.s0) Lk.ce (fun q hq => Lk.pn q (by
        rcases List.mem_append.mp hq with h | h
        · exact List.mem_append_left _ h
        · exact List.mem_append_right _ (.tail _ (.tail _ h))))
      have I6 := I5.tell (t' := s'.toks) (h' := (s'.heap.update kS (Obj.mapSeq fun _ => (#[] : Array Value))).update a (Obj.mapSeq fun _ => (zs'.map fun z => Value.ref z.1).toArray)) La ga.2.1 (fun b o hb q => by rw [Heap.get?_update_other _ _ (Ne.symm hb)]; exact q) (Y4 zs') (by rw [List.length_map]; exact Nat.le_trans hlen (by decide)) hc2
      unfold ksk_tail
      try dsimp only
      refine wpAny_bind (listUpdate_at hk' rfl ?_ (by rw [List.size_toArray, List.length_map, hpl]; exact Nat.le_trans h60 (by decide)) (Nat.zero_le _))
      refine wpAny_bind (wpAny_letGo ?_)
      refine wpAny_bind (seqEpoch_at na1 rfl ?_)
      simp only [Bool.false_eq_true, if_false]
      rw [hout]
      refine wpAny_bind (listUpdate_at na1 rfl ?_ (Nat.zero_le _) (by rw [List.size_toArray, List.length_map]; exact Nat.le_trans hlen (by decide)))
      rw [hfl]
      simp only [bne_self_eq_false, Bool.false_eq_true, if_false]
      exact wpAny_pure (done H' _ zs' I6 sm ga.2.1 pm pw)
    unfold ksk_end
    try dsimp only
    simp only [Bool.false_eq_true, if_false]
    have hvl : (zs.map fun z => Value.ref z.1).toArray.size = zs.length := by rw [List.size_toArray, List.length_map]
    by_cases h2 : (zs.map fun z => Value.ref z.1).toArray.size < 2
    · rw [if_pos h2, if_pos h2]
      refine wpAny_bind (wpAny_pure ?_)
      rw [StateT.run_pure]
      refine wpAny_bind (wpAny_pure ?_)
      try dsimp only
      refine tail _ zs ?_ rfl (List.Perm.refl _) ?_
      · show (((pl.map Value.ref).toArray.zip (zs.map fun z => Value.ref z.1).toArray).map (·.2)) = _
        apply Array.toList_inj.mp
        rw [Array.toList_map, Array.toList_zip, List.map_snd_zip (by simp [hpl])]
      · rw [hvl] at h2
        match zs, h2 with
        | [], _ => exact .nil
        | [_], _ => exact List.pairwise_singleton _ _
    · rw [if_neg h2, if_neg h2]
      rw [hvl] at h2
      have hkl : (pl.map Value.ref).length = (zs.map fun z => Value.ref z.1).length := by rw [List.length_map, List.length_map, hpl]
      have hk2 : ∀ j, j < zs.length → ∃ p, pl[j]? = some p ∧ H' p = some (.tup [.int (zs.getD j (0, [])).2.length, .ref (zs.getD j (0, [])).1]) ∧ zs.getD j (0, []) ∈ zs := fun j hj => by
        have e : zs.getD j (0, []) = zs[j] := by rw [List.getD_eq_getElem?_getD, List.getElem?_eq_getElem hj]; rfl
        rw [e]
        obtain ⟨p, e1, e2⟩ := hkeys j zs[j] (List.getElem?_eq_getElem hj) (by omega)
        exact ⟨p, e1, e2, List.getElem_mem hj⟩
      obtain ⟨fs, ht, hfl, hfi⟩ := kat_tups I' pl fun p hp => by
        obtain ⟨j, hj, rfl⟩ := List.getElem_of_mem hp
        obtain ⟨p', e1, e2, _⟩ := hk2 j (by omega)
        rw [List.getElem?_eq_getElem hj] at e1
        cases e1
        exact ⟨_, _, e2⟩
      refine wpAny_bind (kat_kind (T := .type "int") ht (by omega) (fun v hv => ?_) (by decide) ?_)
      · obtain ⟨n, t, rfl⟩ := hfi v hv
        exact Looks.of_pure rfl
      have ls2 : (zs.map (·.2)).length = zs.length := List.length_map ..
      have ask : (kas_sort (zs.map fun z => Value.ref z.1).length).kasWp (kas_ask X.prog X.w A (tuples' true) (pl.map Value.ref)) (fun p s'' => s'' = s' ∧ (HT.Pm zs.length p ∧ HT.Up (fun i j => HT.wN ((zs.map (·.2)).getD i []) ((zs.map (·.2)).getD j [])) p zs.length)) s' := by
        rw [List.length_map]
        have O := HT.zet nd
        rw [ls2] at O
        refine HT.KW.wp (n := zs.length) (fun i j C hi hj hC => ?_) _ (HT.zdS O (by omega))
        obtain ⟨p, e1, e2, e3⟩ := hk2 i hi
        obtain ⟨q, d1, d2, d3⟩ := hk2 j hj
        have ei : (zs.map (·.2)).getD i [] = (zs.getD i (0, [])).2 := by rw [List.getD_eq_getElem?_getD, List.getD_eq_getElem?_getD, List.getElem?_map, List.getElem?_eq_getElem hi]; rfl
        have ej : (zs.map (·.2)).getD j [] = (zs.getD j (0, [])).2 := by rw [List.getD_eq_getElem?_getD, List.getD_eq_getElem?_getD, List.getElem?_map, List.getElem?_eq_getElem hj]; rfl
        have gi : (pl.map Value.ref).getD i Value.none = .ref p := by rw [List.getD_eq_getElem?_getD, List.getElem?_map, e1]; rfl
        have gj : (pl.map Value.ref).getD j Value.none = .ref q := by rw [List.getD_eq_getElem?_getD, List.getElem?_map, d1]; rfl
        unfold kas_ask
        rw [gi, gj]
        refine zdf I' e2 d2 (sm _ _ (hz _ e3)) (sm _ _ (hz _ d3)) hu ?_
        try dsimp only at hC
        rw [ei, ej] at hC
        exact hC
      have eT : (Value.type "int" != Value.type "tuple") = true := by decide
      rw [eT]
      refine wpAny_bind (wpAny_mono (kat_run (ks := pl.map Value.ref) (vs := zs.map fun z => Value.ref z.1) (Q := fun st' s'' => ∃ p : Array Nat, s'' = s' ∧ arrOf st' = p.map (kas_item ((pl.map Value.ref).toArray.zip (zs.map fun z => Value.ref z.1).toArray)) ∧ failedOf st' = none ∧ HT.Pm zs.length p ∧ HT.Up (fun i j => HT.wN ((zs.map (·.2)).getD i []) ((zs.map (·.2)).getD j [])) p zs.length)
        hkl (by rw [List.length_map]; omega) (by rw [List.length_map]; omega) (fun p st' s'' _ a2 a3 a4 => ⟨p, a4.1, a2, a3, a4.2⟩) ask) ?_ fun _ _ e => e)
      rintro ⟨⟨⟩, st'⟩ s'' ⟨p, rfl, har, hfl2, hpm, hup⟩
      try dsimp only
      have hout := kat_snds hkl har
      have hpl2 : p.toList.length = zs.length := by rw [hpm.pm.length_eq, List.length_range]
      refine tail st' (p.toList.map fun i => zs.getD i (0, [])) ?_ hfl2 (HT.V0 _ zs hpm.pm) ?_
      · rw [hout, List.map_map]
        congr 1
        refine List.map_congr_left fun i hi => ?_
        have hi' := List.mem_range.mp (hpm.pm.mem_iff.mp hi)
        show _ = Value.ref (zs.getD i (0, [])).1
        rw [List.getD_eq_getElem?_getD, List.getD_eq_getElem?_getD, List.getElem?_map, List.getElem?_eq_getElem hi']; rfl
      · rw [List.pairwise_map, List.pairwise_iff_getElem]
        intro i j hi hj hij
        have q1 := hup i j hij (by omega)
        have e1 : p.getD i 0 = p.toList[i] := by
          have : i < p.size := by rw [hpm.sz]; omega
          simp [Array.getD, this]
        have e2 : p.getD j 0 = p.toList[j] := by
          have : j < p.size := by rw [hpm.sz]; omega
          simp [Array.getD, this]
        rw [e1, e2] at q1
        have m1 := List.mem_range.mp (hpm.pm.mem_iff.mp (List.getElem_mem hi))
        have m2 := List.mem_range.mp (hpm.pm.mem_iff.mp (List.getElem_mem hj))
        have ei : (zs.map (·.2)).getD p.toList[i] [] = (zs.getD p.toList[i] (0, [])).2 := by rw [List.getD_eq_getElem?_getD, List.getD_eq_getElem?_getD, List.getElem?_map, List.getElem?_eq_getElem m1]; rfl
        have ej : (zs.map (·.2)).getD p.toList[j] [] = (zs.getD p.toList[j] (0, [])).2 := by rw [List.getD_eq_getElem?_getD, List.getD_eq_getElem?_getD, List.getElem?_map, List.getElem?_eq_getElem m2]; rfl
        try dsimp only at q1
        rw [ei, ej] at q1
        exact q1
end
section
variable {X : Cx} {pins : List (Addr × Obj)} {σ : St} {H : Hp} {s : Shared}
theorem QF {zs : List (Addr × List Int)} {f l : Addr} {fo : Obj} {Q : VK} (I : Inv X ((f, fo) :: pins) σ H s) (hl : H l = some (.lst (zs.map fun z => V.ref z.1))) (hz : ∀ z ∈ zs, H z.1 = some (.lst (z.2.map V.int))) (nd : (zs.map (·.2)).Nodup) (h60 : zs.length ≤ 60)
    (hu : X.A.in1.in1.units + 2 < cLine)
    (turn : ∀ (H' : Hp) (s' : Shared) (pins' : List (Addr × Obj)) (z : Addr × List Int), Inv X pins' σ H' s' → (f, fo) ∈ pins' → Same H H' → z ∈ zs →
      wpAny (model X.prog X.w) X.A.in1.in1 (call (.ref f) [.ref z.1]) (EP X pins' σ fun v H2 => ∃ p, v = .ref p ∧ H' p = none ∧ H2 = upd H' p (.tup [.int z.2.length, .ref z.1])) (fun _ _ => False) s')
    (q : ∀ (D : Addr) (H' : Hp) (zs' : List (Addr × List Int)), H D = none → Same H H' → H' D = none → zs'.Perm zs → zs'.Pairwise (fun x y => HT.wN x.2 y.2 = true) → Q (.ref D) (upd H' D (.lst (zs'.map fun z => V.ref z.1)))) :
    wpAny (model X.prog X.w) X.A (call (.builtin "sorted") [.ref l] [(Str.ofString "key", .ref f)]) (EP X pins σ Q) X.xe s := by
  obtain ⟨its, r1, p1, _⟩ := I.list (SqL.of hl)
  have e1 := Xj r1
  subst e1
  have hvl : (zs.map fun z => Value.ref z.1).length = zs.length := List.length_map ..
  have hsl : (zs.map fun z => Value.ref z.1).length ≤ sizeLine := by rw [hvl, sizeLine_eq]; omega
  refine call_function_entry_kw kind_sorted plain_sorted entry_sorted (ksk_s1 _ _) ?_
  unfold Builtin.«sorted»
  refine wpAny_bind (m := checkCount "sorted" 1 1 _) (wpAny_pure (wpAny_bind (collect_list p1.isList (wpAny_bind (wpAny_newList ?_ hsl)) hsl)))
  generalize hB : (s.heap.push (seqObj "list" #[] 0)).update s.heap.objs.size (Obj.mapSeq (· ++ (zs.map fun z => Value.ref z.1).toArray)) = B
  have hsz : B.objs.size = s.heap.objs.size + 1 := by rw [← hB, Heap.size_update, size_push']
  have keep : ∀ b o, s.heap.get? b = some o → (B.push (seqObj "list" (zs.map fun z => Value.ref z.1).toArray 0)).get? b = some o := fun b o q => by
    have hlt : b < s.heap.objs.size := Heap.lt_size q
    rw [Heap.get?_push_ne _ _ _ (by rw [hsz]; exact Nat.ne_of_lt (Nat.lt_succ_of_lt hlt)), ← hB, Heap.get?_update_ne _ _ _ _ (Nat.ne_of_lt hlt), Heap.get?_push_ne _ _ _ (Nat.ne_of_lt hlt)]; exact q
  have hoL : (B.push (seqObj "list" (zs.map fun z => Value.ref z.1).toArray 0)).get? (s.heap.objs.size + 1) = some (seqObj "list" (zs.map fun z => Value.ref z.1).toArray 0) := by
    rw [← hsz]; exact Heap.get?_push_size _ rfl
  have hszB : (B.push (seqObj "list" (zs.map fun z => Value.ref z.1).toArray 0)).objs.size = s.heap.objs.size + 2 := by rw [size_push', hsz]
  show wpAny _ _ _ _ _ { s with heap := B.push (seqObj "list" (zs.map fun z => Value.ref z.1).toArray 0) }
  dsimp only
  rw [hsz]
  refine wpAny_bind (wpAny_holding (wpAny_call_entry_kw slot_list_sort ⟨_, hoL, rfl⟩ entry_list_sort ?body (ksk_l1 _ _)))
  case body =>
    show wpAny (model X.prog X.w) X.A.in1.in1 (Builtin.«list.sort» ⟨[.ref (s.heap.objs.size + 1)], [(Str.ofString "key", .ref f)]⟩) _ _ _
    rw [ksk_t1]
    unfold ksk_tree
    generalize hG : B.push (seqObj "list" (zs.map fun z => Value.ref z.1).toArray 0) = G at keep hoL hszB
    generalize hLd : s.heap.objs.size + 1 = L at hoL
    have hLG : L < G.objs.size := Heap.lt_size hoL
    obtain ⟨e1, ho1⟩ : ∃ e1, (G.update L (Obj.mapSeq fun _ => (#[] : Array Value))).get? L = some (seqObj "list" #[] e1) := ⟨_, get?_update_seq hoL fun _ => #[]⟩
    refine wpAny_bind (listItems_at (s := { s with heap := G }) hoL rfl ?_)
    refine wpAny_bind (listUpdate_at (s := { s with heap := G }) hoL rfl ?_ (by rw [List.size_toArray]; exact hsl) (Nat.zero_le _))
    refine wpAny_bind (seqEpoch_at ho1 rfl ?_)
    refine wpAny_bind (wpAny_newTuple ?_ (by show (zs.map fun z => Value.ref z.1).length ≤ _; exact hsl))
    refine wpAny_bind (wpAny_newList ?_ (Nat.zero_le _))
    refine wpAny_holding ?_
    generalize hM : (G.update L (Obj.mapSeq fun _ => (#[] : Array Value))).push (seqObj "tuple" (zs.map fun z => Value.ref z.1).toArray 0) = M
    have hMs : M.objs.size = s.heap.objs.size + 3 := by rw [← hM, size_push', Heap.size_update, hszB]
    have hkS : (M.push (seqObj "list" #[] 0)).get? (s.heap.objs.size + 3) = some (seqObj "list" #[] 0) := by rw [← hMs]; exact Heap.get?_push_size _ rfl
    have hL2 : (M.push (seqObj "list" #[] 0)).get? L = some (seqObj "list" #[] e1) := Heap.get?_push_of_some _ (by rw [← hM]; exact Heap.get?_push_of_some _ ho1)
    have keep2 : ∀ b o, s.heap.get? b = some o → (M.push (seqObj "list" #[] 0)).get? b = some o := fun b o q => by
      have hlt : b < s.heap.objs.size := Heap.lt_size q
      refine Heap.get?_push_of_some _ ?_
      rw [← hM]
      refine Heap.get?_push_of_some _ ?_
      rw [Heap.get?_update_ne _ _ _ _ (by rw [← hLd]; exact Nat.ne_of_lt (Nat.lt_succ_of_lt hlt))]
      exact keep b o q
    have La0 := I.late (a := L) (by rw [← hLd]; exact Nat.le_succ _)
    have Lk0 := I.late (a := s.heap.objs.size + 3) (by omega)
    have I1 : Inv X ((f, fo) :: pins) σ H { s with heap := M.push (seqObj "list" #[] 0), toks := s.toks } := I.kept keep2
    have hLn : H L = none := I.hok.fresh (by rw [← hLd]; exact Nat.le_succ _)
    have I2 : Inv X ((f, fo) :: (L, seqObj "list" #[] e1) :: pins) σ H { s with heap := M.push (seqObj "list" #[] 0), toks := s.toks } := I1.pins_of fun p hp => by
      rcases List.mem_cons.mp hp with rfl | hp
      · exact I1.pin _ (List.mem_append_right _ (.head _))
      · rcases List.mem_cons.mp hp with rfl | hp
        · exact ⟨hL2, hLn, La0.lo, La0.fs, fun v z => by cases z⟩
        · exact I1.pin p (List.mem_append_right _ (.tail _ hp))
    have La : zaw X pins s.heap.objs.size L := ⟨La0.s0, La0.lo, La0.ce, La0.fs, fun p hp => La0.pn p (by
      rcases List.mem_append.mp hp with h | h
      · exact List.mem_append_left _ h
      · exact List.mem_append_right _ (.tail _ h)), La0.ge⟩
    have Lk : zaw X ((f, fo) :: (L, seqObj "list" #[] e1) :: pins) s.heap.objs.size (s.heap.objs.size + 3) := ⟨Lk0.s0, Lk0.lo, Lk0.ce, Lk0.fs, fun p hp => by
      rcases List.mem_append.mp hp with h | h
      · exact Lk0.pn p (List.mem_append_left _ h)
      · rcases List.mem_cons.mp h with rfl | h
        · exact Lk0.pn _ (List.mem_append_right _ (.head _))
        · rcases List.mem_cons.mp h with rfl | h
          · show L ≠ _
            rw [← hLd]; omega
          · exact Lk0.pn p (List.mem_append_right _ (.tail _ h)), Lk0.ge⟩
    rw [hMs]
    refine zbt (s := { s with heap := M.push (seqObj "list" #[] 0) }) I2 La Lk hkS (I.hok.fresh (by omega)) hz nd h60 hu turn fun H' s' zs' I' sm hn pm pw => ⟨_, rfl, ?_⟩
    exact wpAny_pure ⟨_, rfl, .ref L, _, I', rfl, q L H' zs' hLn sm hn pm pw⟩
end
section
variable {X : Cx} {σ : St} {H : Hp} {s : Shared} {params : Arguments} {body : Expr} {scope : Scope} {pos lpos kpos p : Pos} {c P : Addr} {y : Str} {e : Expr} {te : TE}
theorem zbo {pins : List (Addr × Obj)} {f c' : Addr} {q : Str} {pm ct : Value} {k : Nat} {v : V} {u : Value} {Q : VK} (I : Inv X pins σ H s) (hf : (f, kla_obj "<lambda>" q params body scope [] pm c' ct) ∈ pins) (hL : J5 P lpos q H c') (S : zB [y] [y] scope) (hr : Room (k + 1) X.A.in1.in1)
    (hb : ∀ (pm ct : Value) (u : Value), bindArgs (kla_fn "<lambda>" q params body scope [] pm (.ref c') ct) ⟨[u], []⟩ = pure [(y, u)]) (rv : RelV v u)
    (hbody : ∃ t, PE (XN CX0 X.prog X.w X.K X.mg X.base [y] q scope f (.ref c') X.A.in1.in1 X.stack s H E0) body t ∧ t (start [y] [v]) H Q) :
    wpAny (model X.prog X.w) X.A.in1.in1 (call (.ref f) [u]) (EP X pins σ Q) (fun _ _ => False) s := by
  have pf := I.pin _ (List.mem_append_right X.pn hf)
  have hcd : s.heap.CodeRec (.ref c') q := (I.hok c' _ hL.2).1
  refine wpAny_call (codeAny_mono (zb2 (k := k) (N := [y]) (ps := [y]) (us := [u]) (vs := [v]) (E := E0) pf.1 rfl hcd S hr I.env0.in1.in1 (BindsTo.of_eq (hb pm ct u)) rfl (.cons rv .nil) hbody) fun r s' hq => ?_)
  cases r with
  | error e => exact hq
  | ok fl =>
    cases fl with
    | ret u => exact I.after hq
    | next => exact False.elim hq
    | brk => exact False.elim hq
    | cont => exact False.elim hq
def zbU (P : Addr) (lpos : Pos) (q : Str) (te : TE) : TE := fun σ H Q => te σ H fun x H1 => ∃ (l : Addr) (zs : List (Addr × List Int)), x = .ref l ∧ H1 l = some (.lst (zs.map fun z => V.ref z.1)) ∧ (∀ z ∈ zs, H1 z.1 = some (.lst (z.2.map V.int))) ∧ (zs.map (·.2)).Nodup ∧ zs.length ≤ 60 ∧ Y0 P lpos q H1 ∧
  ∀ (D : Addr) (zs' : List (Addr × List Int)) (H2 : Hp), H1 D = none → H2 D = none → (∀ b u, b ≠ P → H1 b = some u → H2 b = some u) → Y0 P lpos q H2 → zs'.Perm zs → zs'.Pairwise (fun x y => HT.wN x.2 y.2 = true) → Q (.ref D) (upd H2 D (.lst (zs'.map fun z => V.ref z.1)))
theorem Jj {k : Nat} (he : PE X e te) (hg : Gl X "sorted") (hm : X.mg "sorted" = none) (hr : Room (k + 3) X.A) (hdef : defaultsOf params X.env = ([], [])) (hcl : closureFor scope X.env = pure []) (hcode : X.env.code = .ref c) (hK : codeHdIn X.K c P = true) (hB : X.base.BuiltinsAt X.mg P) (hgP : mainGlobals ≠ P)
    (S : zB [y] [y] scope) (hb : ∀ (pm cd ct : Value) (u : Value), bindArgs (kla_fn "<lambda>" (X.env.qual ++ "<lambda>") params body scope [] pm cd ct) ⟨[u], []⟩ = pure [(y, u)])
    (hbody : ∀ (f c' : Addr) (s : Shared) (H : Hp) (z : Addr × List Int), H z.1 = some (.lst (z.2.map V.int)) → ∃ t, PE (XN CX0 X.prog X.w X.K X.mg X.base [y] (X.env.qual ++ "<lambda>") scope f (.ref c') X.A.in1.in1 X.stack s H E0) body t ∧
      t (start [y] [.ref z.1]) H fun v H2 => ∃ p, v = .ref p ∧ H p = none ∧ H2 = upd H p (.tup [.int z.2.length, .ref z.1]))
    (hs1 : starEach [e] X.env = [(false, eval e X.env)] := by rfl) :
    PE X (.Call (.Name "sorted" p) [e] [⟨some "key", .Lambda params body scope lpos, kpos⟩] pos) (zbU P lpos (X.env.qual ++ "<lambda>") te) := by
  intro pins s σ H Q I h
  refine wpAny_Call_Name_kw (Z9 I hg hm boot_sorted ?_ (by decide) (by decide))
  have ha : PA X [e] (zcO te zdA) := zc he zg hs1
  refine callWith_kw (thn (ha pos pins s σ H (fun vs H1 => match vs with
    | [x] => ∃ (l : Addr) (zs : List (Addr × List Int)), x = .ref l ∧ H1 l = some (.lst (zs.map fun z => V.ref z.1)) ∧ (∀ z ∈ zs, H1 z.1 = some (.lst (z.2.map V.int))) ∧ (zs.map (·.2)).Nodup ∧ zs.length ≤ 60 ∧ Y0 P lpos (X.env.qual ++ "<lambda>") H1 ∧
      ∀ (D : Addr) (zs' : List (Addr × List Int)) (H2 : Hp), H1 D = none → H2 D = none → (∀ b u, b ≠ P → H1 b = some u → H2 b = some u) → Y0 P lpos (X.env.qual ++ "<lambda>") H2 → zs'.Perm zs → zs'.Pairwise (fun x y => HT.wN x.2 y.2 = true) → Q (.ref D) (upd H2 D (.lst (zs'.map fun z => V.ref z.1)))
    | _ => False) I h) fun us s1 ⟨vs, H1, I1, r1, q1⟩ => ?_) (by rw [hs1]; rfl) (by rw [hs1]; rfl)
  match vs, q1 with
  | [x], q1 =>
    obtain ⟨l, zs, rfl, hl, hz, nd, h60, hT, q⟩ := q1
    obtain ⟨u, rfl, rx⟩ := vals1 r1
    cases rx
    show wpAny _ _ (evalAll ((do let v ← eval (.Lambda params body scope lpos) X.env; standAt pos; pure v) :: [])) _ _ s1
    refine wpAny_evalAll_cons (wpAny_bind (zbE I1 hdef hcl hcode hK hB hgP hT fun f c' H2 s2 pm ct I2 hL hfo hfn hsz up => wpAny_bind (wpAny_standAt (wpAny_pure ?_))))
    refine wpAny_evalAll_nil ?_
    have Lf := I1.late hsz
    have I3 : Inv X ((f, kla_obj "<lambda>" (X.env.qual ++ "<lambda>") params body scope [] pm c' ct) :: pins) σ H2 s2 := I2.pins_of fun p hp => by
      rcases List.mem_cons.mp hp with rfl | hp
      · exact ⟨hfo, hfn, Lf.lo, Lf.fs, fun v z => by cases z⟩
      · exact I2.pin p (List.mem_append_right _ hp)
    have hPl : ∀ b xs, H1 b = some (.lst xs) → b ≠ P := fun b xs e z => by
      rw [z] at e
      rcases hT with t | ⟨c2, t, _⟩
      · rw [t] at e; cases e
      · rw [t] at e; cases e
    have hr2 : Room (k + 1) X.A.in1.in1 := (hr.in1).in1
    show wpAny _ _ (call (.builtin "sorted") [.ref l] [(Str.ofString "key", .ref f)]) _ _ s2
    refine QF I3 (up _ _ (hPl _ _ hl) hl) (fun z hzm => up _ _ (hPl _ _ (hz z hzm)) (hz z hzm)) nd h60 (by have := hr2.units; omega) (fun H' s' pins' z I' hf sm hzm => ?_) fun D H' zs' hD sm hn pm pw => ?_
    · have hL' : J5 P lpos (X.env.qual ++ "<lambda>") H' c' := ⟨sm _ _ hL.1, sm _ _ hL.2⟩
      exact zbo (v := .ref z.1) I' hf hL' S hr2 (fun pm ct u => hb pm (.ref c') ct u) rfl (hbody f c' s' H' z (sm _ _ (up _ _ (hPl _ _ (hz z hzm)) (hz z hzm))))
    · refine q D zs' H' ?_ hn (fun b u hb e => sm _ _ (up b u hb e)) (.inr ⟨c', sm _ _ hL.1, sm _ _ hL.2⟩) pm pw
      cases e : H1 D with
      | none => rfl
      | some u =>
        by_cases hDP : D = P
        · rw [hDP, hL.1] at hD; cases hD
        · rw [up D u hDP e] at hD; cases hD
end
theorem zap {P : Program} {w : World} {K : Frag} {mg mb : Str → Option Value} {CX : CXT} {k : Nat} {fa a c T : Addr} {fd : FuncData} {x : Str} {sp : Sp} {s₁ : Shared} {vs : List Value} {ns : List Int}
    (KX : K.In s₁.heap) (hns : s₁.heap.Ns mainGlobals mg) (hb : s₁.heap.Ns builtinsNs mb) (hbb : ∀ x : Str, x ≠ "__name__" → mb x = bootBuiltins x) (hlim : s₁.heap.NoLimit) (hg : s₁.gens = #[])
    (hBM : ∃ bm ob, mg "__builtins__" = some (.ref bm) ∧ bm ≠ builtinsNs ∧ s₁.heap.get? bm = some ob ∧ ob.cls = .type "module" ∧ ob.dict = some builtinsNs ∧ ob.data = .plain)
    (hT : s₁.heap.get? T = some (tabObj #[])) (hKT : K.lookup T = none) (hcT : codeHdIn K c T = true)
    (ha : s₁.heap.get? a = some { cls := .type "list", data := .seq vs.toArray }) (hi : IntsAre vs ns) (hl : ns.length ≤ sizeLine) (hr : Room k callerA)
    (F : ∀ base : Heap, K.In base → base.Ns mainGlobals mg → base.BuiltinsAt mg T → FnOk P w K mg base CX k fa fd [x] sp) (hbind : ∀ (s : Shared) (u : Value), BindsTo s fd ⟨[u], []⟩ [(x, u)])
    (hsp : ∀ H : Hp, H T = some (.tbl #[]) → SqL K H a (ns.map V.int) → sp [.ref a] H (fun v _ => v = .bl true) fun _ _ _ => False)
    (hCX : ∀ H e s', CX [] H s₁ (fun _ _ _ => False) e s' → False) :
    codeAny (model P w) callerA (.call (.ref fa) ⟨[.ref a], []⟩) (fun r s' => r = .ok (.ret (.bool true)) ∧ OldK s₁.heap s'.heap ∧ s'.os = s₁.os ∧ AllBare s'.gens) s₁ := by
  have rv := V3 hi
  have lenV := hi.length
  have tabT : s₁.heap.TableAt c T #[] := (codeHd_of_K KX hcT).tab hT
  have core : ∀ H : Hp, H T = some (.tbl #[]) → SqL K H a (ns.map V.int) → HOk P w H s₁.heap → (∀ b, H b ≠ none → b = a ∨ b = T) → (∀ b, b ≠ T → H b = none ∨ ∃ o xs, H b = some (.frz o (.lst xs))) → (∀ b, H b ≠ none → K.lookup b = none) →
      codeAny (model P w) callerA (.call (.ref fa) ⟨[.ref a], []⟩) (fun r s' => r = .ok (.ret (.bool true)) ∧ OldK s₁.heap s'.heap ∧ s'.os = s₁.os ∧ AllBare s'.gens) s₁ := by
    intro H hHT hS hok hA hO hK
    have base_of : ∀ {b : Addr} {o : Obj}, s₁.heap.get? b = some o → H b = none → (Vw s₁.heap H).get? b = some o := fun e n => za8 e n
    have noA : ∀ {b : Addr} {o : Obj}, s₁.heap.get? b = some o → (∀ xs n, o.data ≠ .seq xs n) → (∀ ps, o.data ≠ .fields ps) → H b = none := fun {b o} e d1 d2 => by
      cases q : H b with
      | none => rfl
      | some u =>
        rcases hA b (by rw [q]; simp) with e' | e'
        · subst e'
          rw [ha] at e; cases e
          exact absurd rfl (d1 _ _)
        · subst e'
          rw [hT] at e; cases e
          exact absurd rfl (d2 _)
    have nsK : ∀ {b : Addr} {m : Str → Option Value}, s₁.heap.Ns b m → (Vw s₁.heap H).Ns b m := fun {b m} ⟨o, es, ep, e, d, r⟩ => ⟨o, es, ep, base_of e (noA e (fun xs n z => by rw [d] at z; cases z) (fun ps z => by rw [d] at z; cases z)), d, r⟩
    have hKb : K.In (Vw s₁.heap H) := fun b o e => base_of (KX b o e) (by
      cases q : H b with
      | none => rfl
      | some u => rw [hK b (by rw [q]; simp)] at e; cases e)
    have hM : Mod K mg (Vw s₁.heap H) := ⟨hKb, nsK hns, ⟨mb, nsK hb, hbb⟩, let ⟨mc, h1, h2⟩ := hlim; ⟨mc, nsK h1, h2⟩⟩
    have hBA : (Vw s₁.heap H).BuiltinsAt mg T := by
      obtain ⟨bm, ob, b1, b2, b3, b4, b5, b6⟩ := hBM
      refine ⟨bm, ob, b1, b2, fun z => ?_, fun z => ?_, base_of b3 (noA b3 (fun xs n z => by rw [b6] at z; cases z) (fun ps z => by rw [b6] at z; cases z)), b4, b5, b6⟩
      · obtain ⟨o, es, ep, e, hd, _⟩ := hns
        rw [z, e] at b3; cases b3
        rw [hd] at b6; cases b6
      · rw [z, hT] at b3; cases b3; cases b4
    have e0 : Env0 P w K mg (Vw s₁.heap H) callerA [] s₁ H := ⟨rfl, hM, fun b o e => zch e, Nat.le_of_eq (zaX _ _), trivial, fun b hb => absurd (show b ∈ ([] : List Addr) from hb) (by simp), hok, .of_eq hg⟩
    refine codeAny_mono ((F _ hKb (nsK hns) hBA).run callerA [] s₁ H ⟨[.ref a], []⟩ [.ref a] [.ref a] _ _ hr e0 (hbind s₁ (.ref a)) (.cons rfl .nil) (hsp H hHT hS)) fun r s' h => ?_
    cases r with
    | error e => exact (hCX H e s' h).elim
    | ok fl =>
      cases fl with
      | next => exact False.elim h
      | brk => exact False.elim h
      | cont => exact False.elim h
      | ret u =>
        obtain ⟨v, H', os, bare, un, hok', r', q⟩ := h
        have q' : v = .bl true := q
        subst q'
        obtain rfl : u = Value.bool true := r'
        have oth : ∀ b o, b ≠ T → s₁.heap.get? b = some o → s'.heap.get? b = some o := fun b o hbT e => by
          cases q : H b with
          | none => exact un.keep b o e q (by intro z; exact absurd (show b ∈ ([] : List Addr) from z) (by simp)) (by simp)
          | some u =>
            rcases hO b hbT with z | ⟨ob, xs, z⟩
            · rw [q] at z; cases z
            · have z2 := un.frzs b ob _ z
              obtain ⟨e1, _⟩ := hok b _ z
              obtain ⟨e2, _⟩ := hok' b _ z2
              rw [e] at e1; cases e1
              exact e2
        obtain ⟨more, hm⟩ := un.tbls T _ hHT
        have hTm : s'.heap.get? T = some { cls := .none, data := .fields (#[] ++ more) } := hok' T _ hm
        refine ⟨rfl, ⟨fun b o e => ?_, fun b o e => ?_⟩, os, bare⟩
        · by_cases hbT : b = T
          · subst hbT
            rw [hT] at e; cases e
            exact .inr (.inl ⟨tabT.isCodeTable, rfl, #[], more, rfl, hTm⟩)
          · exact .inl (oth b o hbT e)
        · by_cases hbT : b = T
          · subst hbT; exact ⟨_, hTm⟩
          · exact ⟨o, oth b o hbT e⟩
  have hTa : T ≠ a := fun z => by rw [z, ha] at hT; cases hT
  cases hk : K.lookup a with
  | some o =>
    have e := KX a o hk
    rw [ha] at e
    cases e
    refine core (fun b => if b = T then some (.tbl #[]) else none) (if_pos rfl) (.inr ⟨_, vs.toArray, _, hk, rfl, rfl, rfl, by rw [List.size_toArray, lenV]; exact hl, by simpa using rv⟩) (fun b u z => ?_) (fun b z => ?_) (fun b hb => .inl (if_neg hb)) fun b z => ?_
    · by_cases hb : b = T
      · have z' := (if_pos hb).symm.trans z
        cases z'
        subst hb
        exact hT
      · have z' := (if_neg hb).symm.trans z
        cases z'
    · by_cases hb : b = T
      · exact .inr hb
      · exact absurd (if_neg hb) z
    · by_cases hb : b = T
      · rw [hb]; exact hKT
      · exact absurd (if_neg hb) z
  | none =>
    refine core (fun b => if b = a then some (.frz { cls := .type "list", data := .seq vs.toArray } (.lst (ns.map V.int))) else if b = T then some (.tbl #[]) else none) (by rw [if_neg hTa, if_pos rfl]) (.inl (.inr ⟨{ cls := .type "list", data := .seq vs.toArray }, if_pos rfl⟩)) (fun b u z => ?_) (fun b z => ?_) (fun b hb => ?_) fun b z => ?_
    · by_cases hb : b = a
      · have z' := (if_pos hb).symm.trans z
        cases z'
        subst hb
        exact ⟨ha, by rw [List.length_map]; exact hl, vs, _, rv, ha⟩
      · have z' := (if_neg hb).symm.trans z
        by_cases hb2 : b = T
        · have z2 := (if_pos hb2).symm.trans z'
          cases z2
          subst hb2
          exact hT
        · have z2 := (if_neg hb2).symm.trans z'
          cases z2
    · by_cases hb : b = a
      · exact .inl hb
      · by_cases hb2 : b = T
        · exact .inr hb2
        · exact absurd (by rw [if_neg hb, if_neg hb2]) z
    · by_cases hba : b = a
      · exact .inr ⟨_, _, if_pos hba⟩
      · exact .inl (by rw [if_neg hba, if_neg hb])
    · by_cases hb : b = a
      · rw [hb]; exact hk
      · by_cases hb2 : b = T
        · rw [hb2]; exact hKT
        · exact absurd (by rw [if_neg hb, if_neg hb2]) z
theorem zd5 {l : PySem.W.OpenLaw} {n k : Nat} {q : Program} {loose : List Str} {XP : (Str → Option Value) → Heap → Prop} {YP : World → Heap → Prop} {d : DefRec} {K : Params → PySem.W.Frag} {sp : World → Sp} {x : Str} {c T : Addr}
    (hn : l.most = some n) (hn2 : n ≤ sizeLine) (hdf : d.params.defaults = []) (hr : Room k callerA)
    (hY : ∀ (w : World) (h : Heap), YP w h → (K w.params).In h) (hYT : ∀ (w : World) (h : Heap), YP w h → h.get? T = some (tabObj #[])) (hKT : ∀ w : World, (K w.params).lookup T = none) (hcT : ∀ w : World, codeHdIn (K w.params) c T = true)
    (F : ∀ (w : World) (mg : Str → Option Value) (fa : Addr) (h : Heap), (K w.params).In h → h.Ns mainGlobals mg → mg d.name = some (.ref fa) →
      ∃ fd : FuncData, (∀ (s : Shared) (u : Value), BindsTo s fd ⟨[u], []⟩ [(x, u)]) ∧
        ∀ base : Heap, (K w.params).In base → base.Ns mainGlobals mg → base.BuiltinsAt mg T → FnOk l.prog w (K w.params) mg base CX0 k fa fd [x] (sp w))
    (hsp : ∀ (w : World) (H : Hp) (a : Addr) (ns : List Int), ns.length ≤ n → H T = some (.tbl #[]) → SqL (K w.params) H a (ns.map V.int) → sp w [.ref a] H (fun v _ => v = .bl true) fun _ _ _ => False) :
    PySem.W.WalkO q loose XP YP l.row.toRowW d [] (fun f vs => PySem.call f vs) := by
  refine Att.Jb hn hdf fun w s₀ s₁ mg mb fa o pm cd doc a vs ns G Y ho hd hcd hmg hobj hints hlen hg => ?_
  have KX := hY w _ Y
  obtain ⟨fd, hb, hF⟩ := F w mg fa _ KX G.T.g hmg
  exact zap KX G.T.g G.T.b G.T.builtins G.T.nolimit hg G.T.bmain (hYT w _ Y) (hKT w) (hcT w) hobj hints (Nat.le_trans hlen hn2) hr hF hb (fun H hO hS => hsp w H a ns hlen hO hS) fun H e s' h => h
end L2
namespace Lw
def yZ (b n : Nat) : List Int := if h : 2 ≤ b ∧ b ≤ n then yZ b (n / b) ++ [((n % b : Nat) : Int)] else [(n : Int)]
termination_by n
decreasing_by exact Nat.div_lt_self (by omega) (by omega)
theorem jq {b n : Nat} (h : n < b) : yZ b n = [(n : Int)] := by
  rw [yZ, dif_neg (by omega)]
theorem zaa {b n : Nat} (h2 : 2 ≤ b) (h : b ≤ n) : yZ b n = yZ b (n / b) ++ [((n % b : Nat) : Int)] := by
  rw [yZ, dif_pos ⟨h2, h⟩]
theorem zcv {b n : Nat} : yZ b n ≠ [] := by
  rw [yZ]
  split
  · simp
  · simp
def tops (b : Nat) : Nat → Nat → List Int
  | 0, n => [((n / b ^ 0 : Nat) : Int)]
  | k + 1, n => ((n / b ^ (k + 1) : Nat) : Int) :: tops b k (n % b ^ (k + 1))
theorem Uc {b : Nat} : ∀ (k n : Nat), tops b (k + 1) n = tops b k (n / b) ++ [((n % b : Nat) : Int)]
  | 0, n => by simp [tops]
  | k + 1, n => by
    rw [tops, Uc k (n % b ^ (k + 2)), tops, List.cons_append]
    have e : b ^ (k + 1 + 1) = b * b ^ (k + 1) := by rw [Nat.pow_succ, Nat.mul_comm]
    have e1 : n % b ^ (k + 1 + 1) / b = n / b % b ^ (k + 1) := by rw [e, Nat.mod_mul_right_div_self]
    have e2 : n % b ^ (k + 1 + 1) % b = n % b := by rw [e, Nat.mod_mul_right_mod]
    have e3 : n / b ^ (k + 1 + 1) = n / b / b ^ (k + 1) := by rw [e, Nat.div_div_eq_div_mul]
    rw [e1, e2, e3]
theorem ZF {b : Nat} (h2 : 2 ≤ b) : ∀ (k n : Nat), n < b ^ (k + 1) → (k = 0 ∨ b ^ k ≤ n) → tops b k n = yZ b n
  | 0, n, h, _ => by
    rw [jq (by simpa using h)]; simp [tops]
  | k + 1, n, h, hk => by
    have hge : b ^ (k + 1) ≤ n := by
      rcases hk with z | z
      · omega
      · exact z
    have hb : b ≤ n := Nat.le_trans (by rw [Nat.pow_succ]; exact Nat.le_mul_of_pos_left b (Nat.pow_pos (by omega))) hge
    rw [Uc, zaa h2 hb]
    have h3 : n / b < b ^ (k + 1) := by
      rw [Nat.div_lt_iff_lt_mul (by omega), ← Nat.pow_succ]; exact h
    have h4 : b ^ k ≤ n / b := by
      rw [Nat.le_div_iff_mul_le (by omega), ← Nat.pow_succ]; exact hge
    rw [ZF h2 k (n / b) h3 (.inr h4)]
theorem Q8 {b : Nat} : ∀ (k n : Nat), (tops b k n).length = k + 1
  | 0, n => rfl
  | k + 1, n => by rw [tops, List.length_cons, Q8 k]
structure zef (b : Nat) (ns : List Int) : Prop where
  ne : ns ≠ []
  len : ns.length ≤ 200
  fig : ∀ f ∈ ns, 0 ≤ f ∧ f < b
  first : ns.head? ≠ some 0 ∨ ns.length = 1
def ZP (st fs : List Int) : Bool := (List.range fs.length).any fun k => decide ((fs.drop k).take st.length = st)
theorem wU {st fs : List Int} (h : st ≠ []) : ZP st fs = true ↔ ∃ k, (fs.drop k).take st.length = st := by
  unfold ZP
  simp only [List.any_eq_true, List.mem_range, decide_eq_true_eq]
  constructor
  · rintro ⟨k, _, e⟩; exact ⟨k, e⟩
  · rintro ⟨k, e⟩
    refine ⟨k, ?_, e⟩
    have hl := congrArg List.length e
    rw [List.length_take, List.length_drop] at hl
    have : 0 < st.length := List.length_pos_iff.mpr h
    omega
theorem Jo {st fs : List Int} (h : st ≠ []) : ZP st fs = (List.range ((fs.length : Int) - st.length + 1).toNat).any fun k => decide ((fs.drop k).take st.length = st) := by
  rw [Bool.eq_iff_iff, wU h]
  simp only [List.any_eq_true, List.mem_range, decide_eq_true_eq]
  constructor
  · rintro ⟨k, e⟩
    refine ⟨k, ?_, e⟩
    have hl := congrArg List.length e
    rw [List.length_take, List.length_drop] at hl
    have : 0 < st.length := List.length_pos_iff.mpr h
    omega
  · rintro ⟨k, _, e⟩; exact ⟨k, e⟩
def lacks (ls : List (List Int)) (fs : List Int) : Bool := !ls.any fun st => ZP st fs
theorem zbC {st fs gs : List Int} (h : st ≠ []) (q : ZP st fs = true) : ZP st (fs ++ gs) = true := by
  rw [wU h] at q ⊢
  obtain ⟨k, e⟩ := q
  refine ⟨k, ?_⟩
  have hl := congrArg List.length e
  rw [List.length_take, List.length_drop] at hl
  have hp : 0 < st.length := List.length_pos_iff.mpr h
  rw [List.drop_append_of_le_length (by omega), List.take_append_of_le_length (by rw [List.length_drop]; omega)]
  exact e
theorem Xn {ls : List (List Int)} {fs gs : List Int} (ne : ∀ l ∈ ls, l ≠ []) (h : lacks ls (fs ++ gs) = true) : lacks ls fs = true := by
  unfold lacks at *
  rw [Bool.not_eq_true', List.any_eq_false] at h ⊢
  intro l hl q
  exact h l hl (zbC (ne l hl) q)
theorem Vc {ls : List (List Int)} {st : List Int} (h : st ∈ ls) (ne : st ≠ []) (pre : List Int) : lacks ls (pre ++ st) = false := by
  unfold lacks
  rw [Bool.not_eq_false', List.any_eq_true]
  refine ⟨st, h, (wU ne).mpr ⟨pre.length, ?_⟩⟩
  rw [List.drop_left, List.take_of_length_le (Nat.le_refl _)]
def tX (ls : List (List Int)) (fs : List Int) : Bool := ls.any fun st => decide (st.take fs.length = fs)
def zG (ls : List (List Int)) : List Int → List Int
  | [] => []
  | x :: fs => if tX ls (x :: fs) then x :: fs else zG ls fs
theorem jB {ls : List (List Int)} : ∀ (i : Nat) (fs : List Int), i ≤ fs.length → (∀ k, k < i → tX ls (fs.drop k) = false) → zG ls fs = zG ls (fs.drop i)
  | 0, _, _, _ => rfl
  | i + 1, [], h, _ => by simp at h
  | i + 1, x :: fs, h, q => by
    have h0 := q 0 (by omega)
    rw [List.drop_zero] at h0
    rw [zG, if_neg (by rw [h0]; decide), List.drop_succ_cons]
    exact jB i fs (by simpa using h) fun k hk => by have := q (k + 1) (by omega); rwa [List.drop_succ_cons] at this
theorem W4 {ls : List (List Int)} {fs : List Int} (h : tX ls fs = true) : zG ls fs = fs := by
  cases fs with
  | nil => rfl
  | cons x fs => rw [zG, if_pos h]
theorem QJ {ls : List (List Int)} {fs : List Int} {i : Nat} (hi : i ≤ fs.length) (h : ∀ k, k < i → tX ls (fs.drop k) = false) (q : tX ls (fs.drop i) = true) : zG ls fs = fs.drop i := by
  rw [jB i fs hi h, W4 q]
theorem W7 {ls : List (List Int)} {fs : List Int} (h : ∀ k, k < fs.length → tX ls (fs.drop k) = false) : zG ls fs = [] := by
  rw [jB fs.length fs (Nat.le_refl _) h, List.drop_length]; rfl
def jW (ls : List (List Int)) (x : List Int) : Prop := x = [] ∨ ∃ st ∈ ls, ∃ k, 1 ≤ k ∧ k < st.length ∧ x = st.take k ∧ lacks ls x = true
structure StandsL (ls : List (List Int)) (xs : List (List Int)) : Prop where
  mem : ∀ x, x ∈ xs ↔ jW ls x
  up : xs.Pairwise fun x y => HT.wN x y = true
theorem Q0 {ls : List (List Int)} (h : ∀ st ∈ ls, st.length ≤ 4) {x : List Int} (q : jW ls x) : x.length ≤ 3 := by
  rcases q with rfl | ⟨st, hst, k, h1, h2, rfl, _⟩
  · decide
  · have := h st hst
    rw [List.length_take]; omega
theorem zaW {ls : List (List Int)} {y : List Int} {x : Int} (h : tX ls (y ++ [x]) = true) : tX ls y = true := by
  unfold tX at *
  rw [List.any_eq_true] at h ⊢
  obtain ⟨st, hst, q⟩ := h
  refine ⟨st, hst, decide_eq_true ?_⟩
  have q := of_decide_eq_true q
  have e := congrArg (List.take y.length) q
  rw [List.take_left, List.take_take, List.length_append] at e
  rw [Nat.min_eq_left (by omega)] at e
  exact e
theorem jk {ls : List (List Int)} : ∀ fs : List Int, ∃ j, j ≤ fs.length ∧ zG ls fs = fs.drop j ∧ (∀ k, k < j → tX ls (fs.drop k) = false) ∧ (j < fs.length → tX ls (fs.drop j) = true)
  | [] => ⟨0, Nat.le_refl _, rfl, fun k hk => by omega, fun h => by simp at h⟩
  | x :: fs => by
    by_cases h : tX ls (x :: fs) = true
    · exact ⟨0, Nat.zero_le _, by rw [zG, if_pos h]; rfl, fun k hk => by omega, fun _ => h⟩
    · obtain ⟨j, h1, h2, h3, h4⟩ := jk (ls := ls) fs
      refine ⟨j + 1, by rw [List.length_cons]; omega, by rw [zG, if_neg h, h2, List.drop_succ_cons], fun k hk => ?_, fun hj => by rw [List.drop_succ_cons]; exact h4 (by rw [List.length_cons] at hj; omega)⟩
      cases k with
      | zero => rw [List.drop_zero]; simpa using h
      | succ k => rw [List.drop_succ_cons]; exact h3 k (by omega)
theorem tW {ls : List (List Int)} (fs : List Int) (x : Int) : zG ls (zG ls fs ++ [x]) = zG ls (fs ++ [x]) := by
  obtain ⟨j, h1, h2, h3, _⟩ := jk (ls := ls) fs
  rw [h2, jB j (fs ++ [x]) (by rw [List.length_append]; omega) (fun k hk => ?_), List.drop_append_of_le_length h1]
  rw [List.drop_append_of_le_length (by omega)]
  cases e : tX ls (fs.drop k ++ [x]) with
  | false => rfl
  | true => rw [← h3 k hk, zaW e]
theorem zao {st fs : List Int} (ne : st ≠ []) {j : Nat} (h : ZP st (fs.drop j) = true) : ZP st fs = true := by
  rw [wU ne] at h ⊢
  obtain ⟨k, e⟩ := h
  exact ⟨j + k, by rw [← List.drop_drop]; exact e⟩
theorem W6 {ls : List (List Int)} (ne : ∀ l ∈ ls, l ≠ []) {fs : List Int} (j : Nat) (h : lacks ls fs = true) : lacks ls (fs.drop j) = true := by
  unfold lacks at *
  rw [Bool.not_eq_true', List.any_eq_false] at h ⊢
  intro st hst q
  exact h st hst (zao (ne st hst) q)
theorem qd {ls : List (List Int)} (ne : ∀ l ∈ ls, l ≠ []) {fs : List Int} (x : Int) (h : lacks ls fs = true) : lacks ls (zG ls fs ++ [x]) = lacks ls (fs ++ [x]) := by
  obtain ⟨j, h1, h2, h3, _⟩ := jk (ls := ls) fs
  rw [h2, ← List.drop_append_of_le_length h1]
  rw [Bool.eq_iff_iff]
  constructor
  · intro q
    unfold lacks at *
    rw [Bool.not_eq_true', List.any_eq_false] at h q ⊢
    intro st hst hs
    rw [wU (ne st hst)] at hs
    obtain ⟨k, e⟩ := hs
    have hp : 0 < st.length := List.length_pos_iff.mpr (ne st hst)
    have hl := congrArg List.length e
    rw [List.length_take, List.length_drop, List.length_append, List.length_singleton] at hl
    by_cases hin : k + st.length ≤ fs.length
    · refine h st hst ((wU (ne st hst)).mpr ⟨k, ?_⟩)
      rw [List.drop_append_of_le_length (by omega), List.take_append_of_le_length (by rw [List.length_drop]; omega)] at e
      exact e
    · have hk : k + st.length = fs.length + 1 := by omega
      rw [List.take_of_length_le (by rw [List.length_drop, List.length_append, List.length_singleton]; omega)] at e
      by_cases hkj : j ≤ k
      · refine q st hst ((wU (ne st hst)).mpr ⟨k - j, ?_⟩)
        rw [List.drop_drop, show j + (k - j) = k by omega, e, List.take_of_length_le (Nat.le_refl _)]
      · have h3k := h3 k (by omega)
        rw [List.drop_append_of_le_length (by omega)] at e
        unfold tX at h3k
        rw [List.any_eq_false] at h3k
        refine h3k st hst (decide_eq_true ?_)
        rw [← e, List.take_left]
  · intro q
    exact W6 ne j q
theorem jG {ls : List (List Int)} (ne : ∀ l ∈ ls, l ≠ []) {fs : List Int} (h : lacks ls fs = true) : jW ls (zG ls fs) := by
  obtain ⟨j, h1, h2, _, h4⟩ := jk (ls := ls) fs
  rw [h2]
  by_cases hj : j < fs.length
  · have q := h4 hj
    unfold tX at q
    rw [List.any_eq_true] at q
    obtain ⟨st, hst, q⟩ := q
    have q := of_decide_eq_true q
    have hl := congrArg List.length q
    rw [List.length_take] at hl
    have hlen : (fs.drop j).length = fs.length - j := List.length_drop ..
    have hlk := W6 ne j h
    refine .inr ⟨st, hst, (fs.drop j).length, by omega, ?_, q.symm, hlk⟩
    by_cases hlt : (fs.drop j).length < st.length
    · exact hlt
    · exfalso
      have hle : st.length ≤ (fs.drop j).length := by omega
      rw [List.take_of_length_le hle] at q
      unfold lacks at hlk
      rw [Bool.not_eq_true', List.any_eq_false] at hlk
      refine hlk st hst ((wU (ne st hst)).mpr ⟨0, ?_⟩)
      rw [List.drop_zero, ← q, List.take_of_length_le (Nat.le_refl _)]
  · left
    exact List.drop_of_length_le (by omega)
theorem StandsL.first {ls xs : List (List Int)} (a : StandsL ls xs) : ∃ r, xs = [] :: r := by
  have h0 : ([] : List Int) ∈ xs := (a.mem []).mpr (.inl rfl)
  cases xs with
  | nil => cases h0
  | cons x r =>
    rcases List.mem_cons.mp h0 with e | e
    · exact ⟨r, by rw [e]⟩
    · have := (List.pairwise_cons.mp a.up).1 [] e
      unfold HT.wN at this
      by_cases hl : x.length = ([] : List Int).length
      · have : x = [] := List.eq_nil_of_length_eq_zero hl
        exact ⟨r, by rw [this]⟩
      · rw [if_neg hl] at this
        have := of_decide_eq_true this
        simp at this
def cnt (ls : List (List Int)) (b : Nat) : Nat → List Int → Nat
  | 0, _ => 1
  | t + 1, x => ((List.range b).map fun (c : Nat) => if lacks ls (x ++ [(c : Int)]) = true then cnt ls b t (zG ls (x ++ [(c : Int)])) else 0).sum
def qI (b : Nat) : Nat → Nat → List Int
  | 0, _ => []
  | t + 1, r => ((r / b ^ t : Nat) : Int) :: qI b t (r % b ^ t)
def many (p : Nat → Bool) : Nat → Nat
  | 0 => 0
  | n + 1 => many p n + (if p n = true then 1 else 0)
theorem uq {p q : Nat → Bool} : ∀ {N : Nat}, (∀ n, n < N → p n = q n) → many p N = many q N
  | 0, _ => rfl
  | N + 1, h => by rw [many, many, uq (N := N) fun n hn => h n (by omega), h N (by omega)]
theorem Xk {p : Nat → Bool} : ∀ {N : Nat}, (∀ n, n < N → p n = false) → many p N = 0
  | 0, _ => rfl
  | N + 1, h => by rw [many, Xk (N := N) fun n hn => h n (by omega), h N (by omega)]; rfl
theorem tG (p : Nat → Bool) (A : Nat) : ∀ B : Nat, many p (A + B) = many p A + many (fun n => p (A + n)) B
  | 0 => rfl
  | B + 1 => by rw [← Nat.add_assoc, many, many, tG p A B, Nat.add_assoc]
theorem WM (p : Nat → Bool) (B : Nat) : ∀ A : Nat, many p (A * B) = ((List.range A).map fun c => many (fun r => p (c * B + r)) B).sum
  | 0 => by simp [many]
  | A + 1 => by
    rw [Nat.succ_mul, tG, WM p B A, List.range_succ, List.map_append, List.sum_append]
    simp
theorem je (p : Nat → Bool) {A B : Nat} (h : A ≤ B) : many p A ≤ many p B := by
  obtain ⟨k, rfl⟩ := Nat.exists_eq_add_of_le h
  rw [tG]; omega
theorem YM (p : Nat → Bool) {A B : Nat} (h : A < B) (q : p A = true) : many p A < many p B := by
  have e : many p (A + 1) = many p A + 1 := by rw [many, if_pos q]
  have := je p (A := A + 1) (B := B) h
  omega
theorem YC {b t c r : Nat} (hr : r < b ^ t) : qI b (t + 1) (c * b ^ t + r) = (c : Int) :: qI b t r := by
  have h0 : 0 < b ^ t := by omega
  rw [qI, Nat.add_comm, Nat.add_mul_div_right _ _ h0, Nat.div_eq_of_lt hr, Nat.zero_add, Nat.add_mul_mod_self_right, Nat.mod_eq_of_lt hr]
theorem ZS {f g : Nat → Nat} : ∀ {N : Nat}, (∀ c, c < N → f c = g c) → ((List.range N).map f).sum = ((List.range N).map g).sum := by
  intro N h
  congr 1
  apply List.map_congr_left
  intro c hc
  exact h c (List.mem_range.mp hc)
theorem WL {ls : List (List Int)} (ne : ∀ l ∈ ls, l ≠ []) {b t : Nat} (ih : ∀ x, lacks ls x = true → many (fun r => lacks ls (x ++ qI b t r)) (b ^ t) = cnt ls b t (zG ls x)) {x : List Int} (c : Nat) :
    many (fun r => lacks ls (x ++ qI b (t + 1) (c * b ^ t + r))) (b ^ t) = if lacks ls (x ++ [(c : Int)]) = true then cnt ls b t (zG ls (x ++ [(c : Int)])) else 0 := by
  have e1 : many (fun r => lacks ls (x ++ qI b (t + 1) (c * b ^ t + r))) (b ^ t) = many (fun r => lacks ls (x ++ [(c : Int)] ++ qI b t r)) (b ^ t) := by
    apply uq
    intro r hr
    show lacks ls _ = lacks ls _
    rw [YC hr, List.append_assoc]
    rfl
  rw [e1]
  by_cases h : lacks ls (x ++ [(c : Int)]) = true
  · rw [if_pos h, ih _ h]
  · rw [if_neg h]
    apply Xk
    intro r _
    cases hc : lacks ls (x ++ [(c : Int)] ++ qI b t r) with
    | false => rfl
    | true => exact absurd (Xn ne hc) h
theorem Ur {ls : List (List Int)} (ne : ∀ l ∈ ls, l ≠ []) {b : Nat} : ∀ (t : Nat) (x : List Int), lacks ls x = true → many (fun r => lacks ls (x ++ qI b t r)) (b ^ t) = cnt ls b t (zG ls x)
  | 0, x, h => by
    rw [Nat.pow_zero, many, many, cnt, qI, List.append_nil, if_pos h]
  | t + 1, x, h => by
    rw [Nat.pow_succ', WM, cnt]
    apply ZS
    intro c _
    rw [WL ne (Ur ne t), qd ne _ h, tW]
def gd (ls : List (List Int)) (b n : Nat) : Bool := lacks ls (yZ b n)
theorem Wo {b : Nat} : ∀ (t n : Nat), qI b (t + 1) n = tops b t n
  | 0, n => by simp [qI, tops]
  | t + 1, n => by rw [qI, Wo t, tops]
theorem zbe {b t c r : Nat} (h2 : 2 ≤ b) (h1 : 1 ≤ c) (hc : c < b) (hr : r < b ^ t) : yZ b (c * b ^ t + r) = (c : Int) :: qI b t r := by
  rw [← YC hr, Wo]
  refine (ZF h2 t _ ?_ (.inr ?_)).symm
  · rw [Nat.pow_succ']
    have : (c + 1) * b ^ t ≤ b * b ^ t := Nat.mul_le_mul_right _ hc
    rw [Nat.succ_mul] at this
    omega
  · have : 1 * b ^ t ≤ c * b ^ t := Nat.mul_le_mul_right _ h1
    omega
def jy (ls : List (List Int)) (b : Nat) : Nat → Nat
  | 0 => if lacks ls [0] = true then 1 else 0
  | t + 1 => ((List.range b).map fun (c : Nat) => if c = 0 then jy ls b t else if lacks ls [(c : Int)] = true then cnt ls b t (zG ls [(c : Int)]) else 0).sum
theorem Uk {ls : List (List Int)} (ne : ∀ l ∈ ls, l ≠ []) {b t c : Nat} (h2 : 2 ≤ b) (h1 : 1 ≤ c) (hc : c < b) : many (fun r => gd ls b (c * b ^ t + r)) (b ^ t) = if lacks ls [(c : Int)] = true then cnt ls b t (zG ls [(c : Int)]) else 0 := by
  have e := WL (x := []) ne (b := b) (t := t) (Ur ne t) c
  rw [List.nil_append] at e
  rw [← e]
  apply uq
  intro r hr
  show gd ls b _ = lacks ls _
  rw [gd, zbe h2 h1 hc hr, List.nil_append, YC hr]
theorem ug {ls : List (List Int)} (ne : ∀ l ∈ ls, l ≠ []) {b : Nat} (h2 : 2 ≤ b) : ∀ t : Nat, jy ls b t = many (gd ls b) (b ^ t)
  | 0 => by
    rw [Nat.pow_zero, many, many, jy, Nat.zero_add]
    unfold gd
    rw [jq (show 0 < b by omega)]
    rfl
  | t + 1 => by
    rw [Nat.pow_succ', WM, jy]
    apply ZS
    intro c hc
    by_cases h0 : c = 0
    · subst h0
      rw [if_pos rfl, ug ne h2 t]
      apply uq
      intro r _
      rw [Nat.zero_mul, Nat.zero_add]
    · rw [if_neg h0, Uk ne h2 (by omega) hc]
theorem Jl {α : Type} [DecidableEq α] : ∀ (xs ws : List α), (∀ x ∈ xs, x ∈ ws) → ws.length < xs.length → ∃ (i j : Nat) (x : α), i < j ∧ xs[i]? = some x ∧ xs[j]? = some x
  | [], ws, _, h => by simp at h
  | x :: xs, ws, hm, h => by
    by_cases hx : x ∈ xs
    · obtain ⟨j, hj⟩ := List.getElem?_of_mem hx
      exact ⟨0, j + 1, x, by omega, rfl, by simpa using hj⟩
    · have hxw := hm x List.mem_cons_self
      obtain ⟨i, j, z, hij, h1, h2⟩ := Jl xs (ws.erase x) (fun y hy => (List.mem_erase_of_ne (fun e : y = x => hx (by rw [← e]; exact hy))).mpr (hm y (List.mem_cons_of_mem _ hy))) (by
        rw [List.length_erase_of_mem hxw]
        rw [List.length_cons] at h
        have : 0 < ws.length := List.length_pos_of_mem hxw
        omega)
      exact ⟨i + 1, j + 1, z, by omega, by simpa using h1, by simpa using h2⟩
theorem VG {b n k : Nat} (h2 : 2 ≤ b) (hn : n < b ^ (k + 1)) (h : k = 0 ∨ b ^ k ≤ n) : (yZ b n).length = k + 1 := by
  rw [← ZF h2 k n hn h, Q8]
theorem zcA {b : Nat} (h2 : 2 ≤ b) (n : Nat) : ∃ k, n < b ^ (k + 1) ∧ (k = 0 ∨ b ^ k ≤ n) := by
  have key : ∀ K : Nat, n < b ^ (K + 1) → ∃ k, n < b ^ (k + 1) ∧ (k = 0 ∨ b ^ k ≤ n) := by
    intro K
    induction K with
    | zero => intro h; exact ⟨0, h, .inl rfl⟩
    | succ K ih =>
      intro h
      by_cases q : n < b ^ (K + 1)
      · exact ih q
      · exact ⟨K + 1, h, .inr (by omega)⟩
  refine key n ?_
  have : n < 2 ^ n := Nat.lt_two_pow_self
  have h3 : 2 ^ n ≤ b ^ n := Nat.pow_le_pow_left h2 n
  have h4 : b ^ n ≤ b ^ (n + 1) := Nat.pow_le_pow_right (by omega) (Nat.le_succ n)
  omega
theorem Yu {b n k : Nat} (h2 : 2 ≤ b) : (yZ b n).length = k + 1 ↔ n < b ^ (k + 1) ∧ (k = 0 ∨ b ^ k ≤ n) := by
  refine ⟨fun h => ?_, fun h => VG h2 h.1 h.2⟩
  obtain ⟨m, h1, h3⟩ := zcA h2 n
  have e := VG h2 h1 h3
  rw [h] at e
  obtain rfl : k = m := by omega
  exact ⟨h1, h3⟩
def ZW (ls : List (List Int)) (b t : Nat) : Option (List Int) → Nat → Nat
  | some x, c => if lacks ls (x ++ [(c : Int)]) = true then cnt ls b t (zG ls (x ++ [(c : Int)])) else 0
  | none, c => if c = 0 then jy ls b t else if lacks ls [(c : Int)] = true then cnt ls b t (zG ls [(c : Int)]) else 0
def under (ls : List (List Int)) (b t : Nat) (o : Option (List Int)) (s : Nat) : Nat := ((List.range s).map (ZW ls b t o)).sum
theorem Yi (ls : List (List Int)) (b t : Nat) (o : Option (List Int)) : under ls b t o 0 = 0 := rfl
theorem u6 (ls : List (List Int)) (b t : Nat) (o : Option (List Int)) (s : Nat) : under ls b t o (s + 1) = under ls b t o s + ZW ls b t o s := by
  unfold under
  rw [List.range_succ, List.map_append, List.sum_append]
  simp
def Rep (ls : List (List Int)) (b m : Nat) (o : Option (List Int)) : Prop := (m = 0 ∧ o = none) ∨ (1 ≤ m ∧ gd ls b m = true ∧ o = some (zG ls (yZ b m)))
theorem wy {b m c : Nat} (h2 : 2 ≤ b) (h1 : 1 ≤ m) (hc : c < b) : yZ b (m * b + c) = yZ b m ++ [(c : Int)] := by
  have hge : b ≤ m * b + c := by
    have : 1 * b ≤ m * b := Nat.mul_le_mul_right b h1
    omega
  rw [zaa h2 hge]
  have e1 : (m * b + c) / b = m := by rw [Nat.add_comm, Nat.add_mul_div_right _ _ (by omega), Nat.div_eq_of_lt hc, Nat.zero_add]
  have e2 : (m * b + c) % b = c := by rw [Nat.add_comm, Nat.add_mul_mod_self_right, Nat.mod_eq_of_lt hc]
  rw [e1, e2]
theorem zaf {b m c : Nat} (h2 : 2 ≤ b) (h1 : 1 ≤ m) : 1 ≤ m * b + c := by
  have : 1 * b ≤ m * b := Nat.mul_le_mul_right b h1
  omega
theorem Xm {b m : Nat} (h2 : 2 ≤ b) (h1 : 1 ≤ m) : ∀ (t r : Nat), r < b ^ t → yZ b (m * b ^ t + r) = yZ b m ++ qI b t r
  | 0, r, hr => by
    have : r = 0 := by rw [Nat.pow_zero] at hr; omega
    subst this
    rw [Nat.pow_zero, Nat.mul_one, Nat.add_zero, qI, List.append_nil]
  | t + 1, r, hr => by
    have hp : 0 < b ^ t := Nat.pow_pos (by omega)
    have hc : r / b ^ t < b := by
      rw [Nat.div_lt_iff_lt_mul hp]
      rw [Nat.pow_succ', ] at hr
      exact hr
    have hm : r % b ^ t < b ^ t := Nat.mod_lt _ hp
    have e : m * b ^ (t + 1) + r = (m * b + r / b ^ t) * b ^ t + r % b ^ t := by
      have h := Nat.div_add_mod r (b ^ t)
      rw [Nat.pow_succ', Nat.add_mul, Nat.mul_assoc, Nat.add_assoc, Nat.mul_comm (r / b ^ t), h]
    have h1' : 1 ≤ m * b + r / b ^ t := zaf h2 h1
    rw [e, Xm h2 h1' t _ hm, wy h2 h1 hc, qI, List.append_assoc]
    rfl
theorem Yg {ls : List (List Int)} (ne : ∀ l ∈ ls, l ≠ []) {b m : Nat} {o : Option (List Int)} (h2 : 2 ≤ b) (R : Rep ls b m o) (t : Nat) {c : Nat} (hc : c < b) : ZW ls b t o c = many (fun r => gd ls b ((m * b + c) * b ^ t + r)) (b ^ t) := by
  rcases R with ⟨rfl, rfl⟩ | ⟨h1, hg, rfl⟩
  · rw [Nat.zero_mul, Nat.zero_add]
    show (if c = 0 then _ else _) = _
    by_cases h0 : c = 0
    · subst h0
      rw [if_pos rfl, ug ne h2]
      apply uq
      intro r _
      rw [Nat.zero_mul, Nat.zero_add]
    · rw [if_neg h0, Uk ne h2 (by omega) hc]
  · have e := WL (x := yZ b m) ne (b := b) (t := t) (Ur ne t) c
    show (if lacks ls (zG ls (yZ b m) ++ [(c : Int)]) = true then cnt ls b t (zG ls (zG ls (yZ b m) ++ [(c : Int)])) else 0) = _
    rw [qd ne _ hg, tW, ← e]
    apply uq
    intro r hr
    show lacks ls _ = gd ls b _
    rw [gd, Xm h2 (zaf h2 h1) t r hr, wy h2 h1 hc, YC hr, List.append_assoc]
    rfl
theorem tD {ls : List (List Int)} (ne : ∀ l ∈ ls, l ≠ []) {b m : Nat} {o : Option (List Int)} (h2 : 2 ≤ b) (R : Rep ls b m o) (t : Nat) : ∀ {s : Nat}, s ≤ b → many (gd ls b) (m * b ^ (t + 1)) + under ls b t o s = many (gd ls b) ((m * b + s) * b ^ t)
  | 0, _ => by rw [Yi, Nat.add_zero, Nat.pow_succ', show (m * b + 0) * b ^ t = m * (b * b ^ t) by rw [Nat.add_zero, Nat.mul_assoc]]
  | s + 1, hs => by
    rw [u6, ← Nat.add_assoc, tD ne h2 R t (s := s) (by omega), Yg ne h2 R t (show s < b by omega), ← Nat.add_assoc, Nat.succ_mul (m * b + s), tG]
theorem Rep.step {ls : List (List Int)} (ne : ∀ l ∈ ls, l ≠ []) {b m : Nat} {o : Option (List Int)} (h2 : 2 ≤ b) (R : Rep ls b m o) {c : Nat} (hc : c < b) :
    (o = none ∧ c = 0 ∧ Rep ls b (m * b + c) none) ∨ (¬ (o = none ∧ c = 0) ∧ ((lacks ls (o.getD [] ++ [(c : Int)]) = true ∧ Rep ls b (m * b + c) (some (zG ls (o.getD [] ++ [(c : Int)])))) ∨ (lacks ls (o.getD [] ++ [(c : Int)]) = false ∧ 1 ≤ m * b + c ∧ gd ls b (m * b + c) = false))) := by
  rcases R with ⟨rfl, rfl⟩ | ⟨h1, hg, rfl⟩
  · by_cases h0 : c = 0
    · left; exact ⟨rfl, h0, .inl ⟨by rw [h0]; omega, rfl⟩⟩
    · right
      refine ⟨fun z => h0 z.2, ?_⟩
      rw [Nat.zero_mul, Nat.zero_add]
      show (lacks ls [(c : Int)] = true ∧ _) ∨ (lacks ls [(c : Int)] = false ∧ _)
      have eg : gd ls b c = lacks ls [(c : Int)] := by unfold gd; rw [jq hc]
      cases hl : lacks ls [(c : Int)] with
      | true => left; exact ⟨rfl, .inr ⟨by omega, by rw [eg]; exact hl, by rw [jq hc]; rfl⟩⟩
      | false => right; exact ⟨rfl, by omega, by rw [eg]; exact hl⟩
  · right
    refine ⟨fun z => (nomatch z.1), ?_⟩
    have hm : 1 ≤ m * b + c := zaf h2 h1
    show (lacks ls (zG ls (yZ b m) ++ [(c : Int)]) = true ∧ Rep ls b (m * b + c) (some (zG ls (zG ls (yZ b m) ++ [(c : Int)])))) ∨ (lacks ls (zG ls (yZ b m) ++ [(c : Int)]) = false ∧ _)
    rw [qd ne _ hg, tW]
    have eg : gd ls b (m * b + c) = lacks ls (yZ b m ++ [(c : Int)]) := by unfold gd; rw [wy h2 h1 hc]
    cases hl : lacks ls (yZ b m ++ [(c : Int)]) with
    | true => left; exact ⟨rfl, .inr ⟨hm, by rw [eg]; exact hl, by rw [wy h2 h1 hc]⟩⟩
    | false => right; exact ⟨rfl, hm, by rw [eg]; exact hl⟩
theorem zbv {ls : List (List Int)} (ne : ∀ l ∈ ls, l ≠ []) {b m : Nat} (h2 : 2 ≤ b) (h1 : 1 ≤ m) (hg : gd ls b m = false) (t : Nat) {r : Nat} (hr : r ≤ b ^ t) : many (gd ls b) (m * b ^ t + r) = many (gd ls b) (m * b ^ t) := by
  rw [tG, Xk (N := r)]
  · omega
  intro k hk
  show gd ls b _ = false
  cases hc : gd ls b (m * b ^ t + k) with
  | false => rfl
  | true =>
    unfold gd at hc hg
    rw [Xm h2 h1 t k (by omega)] at hc
    rw [Xn ne hc] at hg
    cases hg
theorem QL {b : Nat} : ∀ {t n k : Nat}, k < t → n < b ^ t → (qI b t n)[k]? = some (((n / b ^ (t - 1 - k)) % b : Nat) : Int)
  | 0, _, _, hk, _ => by omega
  | t + 1, n, 0, _, hn => by
    have : n / b ^ t < b := by
      rw [Nat.pow_succ'] at hn
      rcases Nat.eq_zero_or_pos (b ^ t) with h | h
      · rw [h] at hn; omega
      · rw [Nat.div_lt_iff_lt_mul h]; exact hn
    rw [qI, List.getElem?_cons_zero, show t + 1 - 1 - 0 = t by omega, Nat.mod_eq_of_lt this]
  | t + 1, n, k + 1, hk, hn => by
    have hb : 0 < b := by
      rcases Nat.eq_zero_or_pos b with h | h
      · subst h; rw [Nat.zero_pow (by omega)] at hn; omega
      · exact h
    rw [qI, List.getElem?_cons_succ, QL (by omega) (Nat.mod_lt _ (Nat.pow_pos hb))]
    have e : t + 1 - 1 - (k + 1) = t - 1 - k := by omega
    rw [e]
    generalize hj : t - 1 - k = j
    obtain ⟨q, hq⟩ : ∃ q, t = j + (q + 1) := ⟨t - j - 1, by omega⟩
    rw [hq, Nat.pow_add, Nat.mod_mul_right_div_self, Nat.pow_succ', Nat.mod_mul_right_mod]
theorem zbs {b n N k : Nat} (h2 : 2 ≤ b) (hN : (yZ b n).length = N) (hk : k < N) : (yZ b n)[k]? = some (((n / b ^ (N - 1 - k)) % b : Nat) : Int) := by
  obtain ⟨K, rfl⟩ : ∃ K, N = K + 1 := ⟨N - 1, by omega⟩
  obtain ⟨h1, h3⟩ := (Yu h2).mp hN
  rw [← ZF h2 K n h1 h3, ← Wo]
  exact QL hk h1
theorem qp {b n N : Nat} (h2 : 2 ≤ b) (hN : (yZ b n).length = N) : n < b ^ N := by
  cases N with
  | zero => exact absurd (List.length_eq_zero_iff.mp hN) zcv
  | succ K => exact ((Yu h2).mp hN).1
theorem zbO {b n t : Nat} (hb : 0 < b) : n / b ^ t = n / b ^ (t + 1) * b + (n / b ^ t) % b := by
  have h := Nat.div_add_mod (n / b ^ t) b
  rw [Nat.div_div_eq_div_mul, ← Nat.pow_succ, Nat.mul_comm] at h
  exact h.symm
def tot (p : Nat → Bool) (f : Nat → Nat) : Nat → Nat
  | 0 => 0
  | n + 1 => tot p f n + (if p n = true then f n else 0)
def tt (ls : List (List Int)) (b : Nat) (w : Nat → Nat) (sc : Nat) : Nat → List Int → Nat
  | 0, _ => 0
  | t + 1, x => ((List.range b).map fun (c : Nat) => if lacks ls (x ++ [(c : Int)]) = true then sc ^ t * w c * cnt ls b t (zG ls (x ++ [(c : Int)])) + tt ls b w sc t (zG ls (x ++ [(c : Int)])) else 0).sum
def JC (b m : Nat) : Nat := if m = 1 then 0 else b ^ (m - 1)
end Lw
namespace L2
open PySem PySem.Spec PyProof.Rows
section
variable {κ : Type} [DecidableEq κ]
def yh (kvs : List (κ × V)) (k : κ) : Option V := (kvs.find? fun kv => decide (kv.1 = k)).map (·.2)
def putK (kvs : List (κ × V)) (k : κ) (v : V) : List (κ × V) :=
  if (kvs.any fun kv => decide (kv.1 = k)) = true then kvs.map (fun kv => if kv.1 = k then (kv.1, v) else kv) else kvs ++ [(k, v)]
def zcI (kvs : List (κ × V)) (k : κ) : List (κ × V) := kvs.filter fun kv => decide (kv.1 ≠ k)
theorem yH {p : κ × V} {r : List (κ × V)} {k : κ} (e : p.1 = k) : yh (p :: r) k = some p.2 := by simp [yh, List.find?_cons, e]
theorem yK {p : κ × V} {r : List (κ × V)} {k : κ} (e : ¬ p.1 = k) : yh (p :: r) k = yh r k := by simp [yh, List.find?_cons, e]
theorem uF (k : κ) : ∀ kvs : List (κ × V), (kvs.any fun kv => decide (kv.1 = k)) = (yh kvs k).isSome
  | [] => rfl
  | p :: r => by
    rw [List.any_cons]
    by_cases e : p.1 = k
    · simp only [yH e, decide_eq_true e, Bool.true_or, Option.isSome_some]
    · rw [yK e, decide_eq_false e, Bool.false_or]; exact uF k r
theorem QR (k j : κ) (y : V) : ∀ kvs : List (κ × V), yh (kvs.map fun kv => if kv.1 = k then (kv.1, y) else kv) j = (yh kvs j).map fun x => if j = k then y else x
  | [] => rfl
  | p :: r => by
    have ih := QR k j y r
    rw [List.map_cons]
    by_cases h : p.1 = k
    · rw [if_pos h]
      by_cases e : p.1 = j
      · rw [yH (p := (p.1, y)) e, yH e, Option.map_some, if_pos (e.symm.trans h)]
      · rw [yK (p := (p.1, y)) e, yK e, ih]
    · rw [if_neg h]
      by_cases e : p.1 = j
      · rw [yH (p := p) e, yH e, Option.map_some, if_neg (fun z => h (e.trans z))]
      · rw [yK (p := p) e, yK e, ih]
theorem V7 (k j : κ) (y : V) : ∀ kvs : List (κ × V), yh kvs k = none → yh (kvs ++ [(k, y)]) j = if j = k then some y else yh kvs j
  | [], _ => by
    by_cases e : k = j
    · rw [if_pos e.symm]; exact yH (p := (k, y)) e
    · rw [if_neg (fun z => e z.symm)]; exact yK (p := (k, y)) e
  | p :: r, hn => by
    rw [List.cons_append]
    have hk : ¬ p.1 = k := fun z => by rw [yH z] at hn; cases hn
    rw [yK hk] at hn
    have ih := V7 k j y r hn
    by_cases e : p.1 = j
    · rw [yH e, yH e, if_neg (fun z => hk (e.trans z))]
    · rw [yK e, yK e, ih]
theorem Yr (kvs : List (κ × V)) (k j : κ) (y : V) : yh (putK kvs k y) j = if j = k then some y else yh kvs j := by
  unfold putK
  by_cases a : (kvs.any fun kv => decide (kv.1 = k)) = true
  · rw [if_pos a, QR]
    rw [uF] at a
    by_cases e : j = k
    · obtain ⟨x, hx⟩ := Option.isSome_iff_exists.mp a
      rw [if_pos e, e, hx, Option.map_some, if_pos rfl]
    · rw [if_neg e]
      cases yh kvs j with
      | none => rfl
      | some x => rw [Option.map_some, if_neg e]
  · rw [if_neg a]
    refine V7 k j y kvs ?_
    rw [uF] at a
    cases q : yh kvs k with
    | none => rfl
    | some x => rw [q] at a; exact (a rfl).elim
theorem Zg (kvs : List (κ × V)) (k : κ) (v : V) : (putK kvs k v).length ≤ kvs.length + 1 := by
  unfold putK
  split
  · rw [List.length_map]; omega
  · rw [List.length_append, List.length_cons, List.length_nil]; omega
theorem qZ {kvs : List (κ × V)} {k : κ} (v : V) (h : yh kvs k = none) : putK kvs k v = kvs ++ [(k, v)] := by
  unfold putK
  rw [uF, h]
  exact if_neg (by decide)
theorem RelO.isSome_eq {o : Option V} {u : Option Value} (r : RelO o u) : o.isSome = u.isSome := by
  cases o with
  | none => cases u with
    | none => rfl
    | some _ => exact (show False from r).elim
  | some _ => cases u with
    | none => exact (show False from r).elim
    | some _ => rfl
theorem RelO.getD {o : Option V} {u : Option Value} {d : V} {d' : Value} (r : RelO o u) (rd : RelV d d') : RelV (o.getD d) (u.getD d') := by
  cases o with
  | none => cases u with
    | none => exact rd
    | some _ => exact (show False from r).elim
  | some _ => cases u with
    | none => exact (show False from r).elim
    | some _ => exact r
theorem KV.val {kvs : List (κ × V)} {vs : List (κ × Value)} (r : KV kvs vs) (k : κ) : RelO (yh kvs k) (valueAt vs k) := by
  unfold KV at r
  induction r with
  | nil => exact True.intro
  | @cons p q ps qs h t ih =>
    obtain ⟨h1, h2⟩ := h
    by_cases e : p.1 = k
    · have e' : q.1 = k := h1.symm.trans e
      have b : valueAt (q :: qs) k = some q.2 := by simp [valueAt, List.find?_cons, e']
      rw [yH e, b]; exact h2
    · have e' : ¬ q.1 = k := fun z => e (h1.trans z)
      have b : valueAt (q :: qs) k = valueAt qs k := by simp [valueAt, List.find?_cons, e']
      rw [yK e, b]; exact ih
theorem KV.any {kvs : List (κ × V)} {vs : List (κ × Value)} (r : KV kvs vs) (k : κ) : (kvs.any fun kv => decide (kv.1 = k)) = vs.any fun kv => decide (kv.1 = k) := by
  unfold KV at r
  induction r with
  | nil => rfl
  | cons h t ih => rw [List.any_cons, List.any_cons, ih, h.1]
theorem KV.repl {kvs : List (κ × V)} {vs : List (κ × Value)} (r : KV kvs vs) (k : κ) {y : V} {u : Value} (ry : RelV y u) :
    KV (kvs.map fun kv => if kv.1 = k then (kv.1, y) else kv) (vs.map fun kv => if kv.1 = k then (kv.1, u) else kv) := by
  unfold KV at r ⊢
  induction r with
  | nil => exact .nil
  | @cons p q ps qs h t ih =>
    rw [List.map_cons, List.map_cons]
    refine .cons ?_ ih
    obtain ⟨h1, h2⟩ := h
    by_cases e : p.1 = k
    · rw [if_pos e, if_pos (h1.symm.trans e)]; exact ⟨h1, ry⟩
    · rw [if_neg e, if_neg (fun z => e (h1.trans z))]; exact ⟨h1, h2⟩
theorem KV.put {kvs : List (κ × V)} {vs : List (κ × Value)} (r : KV kvs vs) (k : κ) {y : V} {u : Value} (ry : RelV y u) : KV (putK kvs k y) (stored vs k u) := by
  unfold putK stored
  rw [r.any k]
  by_cases e : (vs.any fun kv => decide (kv.1 = k)) = true
  · rw [if_pos e, if_pos e]; exact r.repl k ry
  · rw [if_neg e, if_neg e]; exact Paired.snoc r ⟨rfl, ry⟩
theorem KV.drop {kvs : List (κ × V)} {vs : List (κ × Value)} (r : KV kvs vs) (k : κ) : KV (zcI kvs k) (without vs k) := by
  unfold KV at r ⊢
  unfold zcI without
  induction r with
  | nil => exact .nil
  | @cons p q ps qs h t ih =>
    obtain ⟨h1, h2⟩ := h
    rw [List.filter_cons, List.filter_cons]
    by_cases e : p.1 = k
    · have a : ¬ decide (p.1 ≠ k) = true := by simp [e]
      have b : ¬ decide (q.1 ≠ k) = true := by simp [h1.symm.trans e]
      rw [if_neg a, if_neg b]; exact ih
    · have e' : ¬ q.1 = k := fun z => e (h1.trans z)
      have a : decide (p.1 ≠ k) = true := by simp [e]
      have b : decide (q.1 ≠ k) = true := by simp [e']
      rw [if_pos a, if_pos b]; exact .cons ⟨h1, h2⟩ ih
theorem KV.keys {kvs : List (κ × V)} {vs : List (κ × Value)} (r : KV kvs vs) : kvs.map (·.1) = vs.map (·.1) := by
  unfold KV at r
  induction r with
  | nil => rfl
  | cons h t ih => rw [List.map_cons, List.map_cons, ih, h.1]
theorem KV.length {kvs : List (κ × V)} {vs : List (κ × Value)} (r : KV kvs vs) : kvs.length = vs.length := Paired.length r
end
theorem zd3 {P : Program} {w : World} {k : Key} {u : Value} (r : RelV (kV k) u) : (zX P w).is k u = true := by
  cases k with
  | inl i => obtain ⟨t, e⟩ := (show ∃ t, u = Value.int i t from r); subst e; exact Jd P w i t
  | inr x => obtain ⟨t, e⟩ := (show ∃ t, u = Value.str x t from r); subst e; exact Qx P w x t
theorem V2 {P : Program} {w : World} : ∀ {ks : List Key} {us : List Value}, Vals (ks.map kV) us → ItemsAre (zX P w) ks us
  | [], _, r => by rw [List.map_nil] at r; cases r; exact .nil
  | k :: ks, _, r => by
    rw [List.map_cons] at r
    cases r with
    | cons h t => exact .cons (zd3 h) (V2 t)
abbrev KT (H : Hp) : List (List Key × V) → List (List Key × Addr × Value) → Prop := Paired fun p q => p.1 = q.1 ∧ H q.2.1 = some (.tup (p.1.map kV)) ∧ RelV p.2 q.2.2
theorem KT.val {H : Hp} {kvs : List (List Key × V)} {xs : List (List Key × Addr × Value)} (r : KT H kvs xs) (k : List Key) : RelO (yh kvs k) ((atKey xs k).map (·.2)) := by
  induction r with
  | nil => exact True.intro
  | @cons p q ps qs h t ih =>
    obtain ⟨h1, _, h2⟩ := h
    by_cases e : p.1 = k
    · have e' : q.1 = k := h1.symm.trans e
      have b : atKey (q :: qs) k = some q.2 := by simp [atKey, List.find?_cons, e']
      rw [yH e, b]; exact h2
    · have e' : ¬ q.1 = k := fun z => e (h1.trans z)
      have b : atKey (q :: qs) k = atKey qs k := by simp [atKey, List.find?_cons, e']
      rw [yK e, b]; exact ih
theorem KT.repl {H : Hp} {kvs : List (List Key × V)} {xs : List (List Key × Addr × Value)} (r : KT H kvs xs) (k : List Key) {y : V} {u : Value} (ry : RelV y u) :
    KT H (kvs.map fun kv => if kv.1 = k then (kv.1, y) else kv) (xs.map (putAt k u)) := by
  induction r with
  | nil => exact .nil
  | @cons p q ps qs h t ih =>
    rw [List.map_cons, List.map_cons]
    refine .cons ?_ ih
    obtain ⟨h1, h2, h3⟩ := h
    unfold putAt
    by_cases e : p.1 = k
    · rw [if_pos e, if_pos (h1.symm.trans e)]; exact ⟨h1, h2, ry⟩
    · rw [if_neg e, if_neg (fun z => e (h1.trans z))]; exact ⟨h1, h2, h3⟩
theorem KT.put {H : Hp} {kvs : List (List Key × V)} {xs : List (List Key × Addr × Value)} (r : KT H kvs xs) (k : List Key) {b : Addr} {y : V} {u : Value} (hb : H b = some (.tup (k.map kV))) (ry : RelV y u) :
    KT H (putK kvs k y) (storedH xs k b u) := by
  have e : (kvs.any fun kv => decide (kv.1 = k)) = (atKey xs k).isSome := by
    rw [uF, (r.val k).isSome_eq, Option.isSome_map]
  unfold putK storedH
  rw [e]
  by_cases q : (atKey xs k).isSome = true
  · rw [if_pos q, if_pos q]; exact r.repl k ry
  · rw [if_neg q, if_neg q]; exact Paired.snoc r ⟨rfl, hb, ry⟩
theorem KT.keeps {H H' : Hp} {kvs : List (List Key × V)} {xs : List (List Key × Addr × Value)} (r : KT H kvs xs) (ht : ∀ b ys, H b = some (.tup ys) → H' b = some (.tup ys)) : KT H' kvs xs :=
  Paired.mapP r fun _ _ z => ⟨z.1, ht _ _ z.2.1, z.2.2⟩
section
variable {P : Program} {w : World} {H : Hp} {h : Heap} {a : Addr}
theorem W0 {ks : List Key} (ok : HOk P w H h) (e : H a = some (.tup (ks.map kV))) : (tupleKind (zX P w)).is h ks a := by
  obtain ⟨_, its, r, o, h1, h2, n, h3⟩ := (show ObjOk P w H h a (.tup (ks.map kV)) from ok a _ e)
  exact ⟨o, its.toArray, n, h1, h2, h3, by simpa using V2 r⟩
end
def DGet (H : Hp) (a : Addr) (y : V) (r : Option V) : Prop :=
  (∃ kvs k, Rd H a (.dK kvs) ∧ y = kV k ∧ r = yh kvs k) ∨ ∃ kvs k b, Rd H a (.dT kvs) ∧ y = .ref b ∧ H b = some (.tup (k.map kV)) ∧ r = yh kvs k
def DPut (H : Hp) (a : Addr) (y v : V) (H' : Hp) : Prop :=
  (∃ kvs k, H a = some (.dK kvs) ∧ y = kV k ∧ kvs.length < sizeLine ∧ H' = upd H a (.dK (putK kvs k v))) ∨
  ∃ kvs k b, H a = some (.dT kvs) ∧ y = .ref b ∧ H b = some (.tup (k.map kV)) ∧ kvs.length < sizeLine ∧ H' = upd H a (.dT (putK kvs k v))
theorem DGet.k {H : Hp} {a : Addr} {kvs : List (Key × V)} {k : Key} (e : H a = some (.dK kvs)) : DGet H a (kV k) (yh kvs k) := .inl ⟨kvs, k, .inl e, rfl, rfl⟩
theorem DGet.t {H : Hp} {a b : Addr} {kvs : List (List Key × V)} {k : List Key} (e : H a = some (.dT kvs)) (eb : H b = some (.tup (k.map kV))) : DGet H a (.ref b) (yh kvs k) := .inr ⟨kvs, k, b, .inl e, rfl, eb, rfl⟩
theorem DPut.k {H : Hp} {a : Addr} {kvs : List (Key × V)} {k : Key} {v : V} (e : H a = some (.dK kvs)) (hl : kvs.length < sizeLine) : DPut H a (kV k) v (upd H a (.dK (putK kvs k v))) := .inl ⟨kvs, k, e, rfl, hl, rfl⟩
theorem DPut.t {H : Hp} {a b : Addr} {kvs : List (List Key × V)} {k : List Key} {v : V} (e : H a = some (.dT kvs)) (eb : H b = some (.tup (k.map kV))) (hl : kvs.length < sizeLine) :
    DPut H a (.ref b) v (upd H a (.dT (putK kvs k v))) := .inr ⟨kvs, k, b, e, rfl, eb, hl, rfl⟩
section
variable {X : Cx} {pins : List (Addr × Obj)} {σ : St} {H : Hp} {s : Shared} {a : Addr} {y v : V} {u r : Value} {o : Option V} {A : Around} {E : Value → Shared → Prop}
theorem Inv.big (I : Inv X pins σ H s) : sysModules < s.heap.objs.size := by
  have h : mainGlobals < s.heap.objs.size := (I.mod.glob.keeps I.bk).lt
  exact Nat.lt_trans (by decide) h
theorem zcg {h' : Heap} {t' : Nat} {ob : HO} (I : Inv X pins σ H s) (mu : Mut (H a)) (hs : Heap.SameBut a s.heap h') (he : ∃ q, h'.get? a = some q) (new : ObjOk X.prog X.w (upd H a ob) h' a ob) :
    Inv X pins σ (upd H a ob) { s with heap := h', toks := t' } :=
  I.write (x := a) (e := a) mu (.inl rfl) (fun b q hb z => (hs.2 b hb).trans z) he new
end
section
variable {X : Cx} {pins : List (Addr × Obj)} {σ : St} {H : Hp} {s : Shared} {a : Addr} {kvs : List (Key × V)} {k : Key} {u : Value} {A : Around} {E : Value → Shared → Prop}
end
def zcP (i : Expr) : Prop := ∀ ov iv, subscripted i false ov iv = operate [ov, iv] (getItem ov iv)
theorem zcc {prog : Program} {w : World} {A : Around} {E : Value → Shared → Prop} {s : Shared} {env : Env} {value slice : Expr} {pos : Pos} {T id : String} {Q : Value → Shared → Prop}
    (hl : typeLookup (.type T) "__getitem__" = pure (some (.builtin id))) (hs : zcP slice)
    (h : wpAny (model prog w) A (eval value env) (fun o s₁ => wpAny (model prog w) A (eval slice env) (fun i s₂ => s₂.TypeIs o T ∧ wpAny (model prog w) A (getItem o i) Q E s₂) E s₁) E s) :
    wpAny (model prog w) A (eval (.Subscript value slice pos) env) Q E s := by
  refine Subscript_ (wpAny_mono h (fun o s₁ h₁ => wpAny_mono h₁ (fun i s₂ h₂ => ?_) fun _ _ x => x) fun _ _ x => x)
  obtain ⟨hT, h₂⟩ := h₂
  unfold subscriptTail
  refine wpAny_bind ?_
  rw [getitemInPython_of_ne hT.not_modules]
  refine wpAny_bind (wpAny_specialOf hT hl ?_)
  have fin : wpAny (model prog w) A (subscripted slice false o i) (fun r s₃ => wpAny (model prog w) A (letTemporaryGo value o r >>= fun _ => pure r) Q E s₃) E s₂ := by
    rw [hs o i]
    exact wpAny_operating (wpAny_mono h₂ (fun r s₃ h₃ => wpAny_bind (wpAny_letTemporaryGo (wpAny_pure h₃))) fun _ _ x => x)
  first
    | exact wpAny_pure (wpAny_bind fin)
    | exact wpAny_bind (wpAny_pure (wpAny_bind fin))
    | exact wpAny_bind fin
section
variable {X : Cx} {o i e value : Expr} {pos pos' tpos : Pos} {td ty tv : TE}
end
section
variable {X : Cx} {pos : Pos}
end
def zc3 (kvs more : List (Key × V)) : List (Key × V) := more.foldl (fun acc kv => putK acc kv.1 kv.2) kvs
theorem KV.merge : ∀ {more : List (Key × V)} {rs : List (Key × Value)} {kvs : List (Key × V)} {vs : List (Key × Value)}, KV more rs → KV kvs vs → KV (zc3 kvs more) (merged vs rs) := by
  intro more rs kvs vs r
  unfold KV at r
  induction r generalizing kvs vs with
  | nil => intro q; exact q
  | @cons p q ps qs h t ih =>
    intro r0
    have e : KV (putK kvs p.1 p.2) (stored vs q.1 q.2) := by
      have := r0.put p.1 h.2
      rw [← h.1]; exact this
    exact ih e
structure M1 (X : Cx) (o : Expr) (m : Str) (apos : Pos) (e : Expr) (cpos : Pos) : Prop where
  base : attributeBase o m X.env (eval o X.env) = eval o X.env
  few : ((backTo cpos (starEach [e] X.env)).all (fun x => !x.1) && (backToKw cpos (keywordEach [] X.env)).all (fun x => x.1.isSome)
    && decide (([e] : List Expr).length + ([] : List Keyword).length + (if ([] : List Keyword).isEmpty then 0 else 1) < 30)) = true
  line : (apos.endLine == cpos.line) = true
  trees : backTo cpos (starEach [e] X.env) = [(false, eval e X.env)]
structure M2 (X : Cx) (o : Expr) (m : Str) (apos : Pos) (e f : Expr) (cpos : Pos) : Prop where
  base : attributeBase o m X.env (eval o X.env) = eval o X.env
  few : ((backTo cpos (starEach [e, f] X.env)).all (fun x => !x.1) && (backToKw cpos (keywordEach [] X.env)).all (fun x => x.1.isSome)
    && decide (([e, f] : List Expr).length + ([] : List Keyword).length + (if ([] : List Keyword).isEmpty then 0 else 1) < 30)) = true
  line : (apos.endLine == cpos.line) = true
  trees : backTo cpos (starEach [e, f] X.env) = [(false, eval e X.env), (false, eval f X.env)]
section
variable {X : Cx} {pins : List (Addr × Obj)} {σ : St} {H : Hp} {s : Shared} {a : Addr} {y d : V} {u r : Value} {o : Option V} {A : Around} {E : Value → Shared → Prop}
end
section
variable {X : Cx} {o e f : Expr} {apos cpos : Pos} {td ty tx : TE}
end
section
variable {X : Cx} {pins : List (Addr × Obj)} {σ : St} {H : Hp} {s : Shared} {a : Addr} {kvs : List (Key × V)} {A : Around} {E : Value → Shared → Prop}
end
section
variable {X : Cx} {pins : List (Addr × Obj)} {σ : St} {H : Hp} {s : Shared} {a : Addr} {y : V} {u : Value} {A : Around} {E : Value → Shared → Prop}
end
section
variable {X : Cx}
end
section
variable {κ : Type} [DecidableEq κ]
theorem zbh {kvs : List (κ × V)} {k : κ} (h : yh kvs k = none) : ¬ k ∈ kvs.map (·.1) := by
  intro m
  obtain ⟨p, hp, e⟩ := List.mem_map.mp m
  have q : (kvs.any fun kv => decide (kv.1 = k)) = true := List.any_eq_true.mpr ⟨p, hp, decide_eq_true e⟩
  rw [uF, h] at q
  exact absurd q (by simp)
theorem U9 {kvs : List (κ × V)} {k : κ} {v : V} (h : yh kvs k = some v) : k ∈ kvs.map (·.1) := by
  have q : (kvs.any fun kv => decide (kv.1 = k)) = true := by
    rw [uF, h]
    all_goals rfl
  obtain ⟨p, hp, e⟩ := List.any_eq_true.mp q
  exact List.mem_map.mpr ⟨p, hp, of_decide_eq_true e⟩
theorem J1 : ∀ {l : List κ} {k : κ}, l.Nodup → ¬ k ∈ l → (l ++ [k]).Nodup
  | [], k, _, _ => by simp
  | a :: r, k, h, hk => by
    obtain ⟨h1, h2⟩ := List.nodup_cons.mp h
    show (a :: (r ++ [k])).Nodup
    refine List.nodup_cons.mpr ⟨fun m => ?_, J1 h2 fun m => hk (List.mem_cons.mpr (Or.inr m))⟩
    rcases List.mem_append.mp m with q | q
    · exact h1 q
    · exact hk (List.mem_cons.mpr (Or.inl (List.mem_singleton.mp q).symm))
theorem J7 {kvs : List (κ × V)} {k : κ} (v : V) (hn : (kvs.map (·.1)).Nodup) (h : yh kvs k = none) : ((putK kvs k v).map (·.1)).Nodup := by
  rw [qZ v h, List.map_append]
  exact J1 hn (zbh h)
end
end L2
namespace PySem
open Sem (wp)
theorem UT : typeLookup (.type "list") "keys" = pure none := am_miss_of_fast (by decide +kernel)
set_option maxHeartbeats 0 in
theorem WR {prog : Program} {w : World} {A : Around} {E : Value → Shared → Prop} {s : Shared} {a : Addr} {o : Obj} {xs : Array Value} {k : Nat} {Q : Option Value → Shared → Prop}
    (hx : s.heap.get? a = some o) (hc : o.cls = .type "list") (hdat : o.data = .seq xs k) (hd : o.dict = none) (hA : A.handled = none)
    (h : ∀ h' tk, (∀ b o, s.heap.get? b = some o → h'.get? b = some o) → Q none { s with heap := h', toks := tk }) :
    wpAny (model prog w) A (getAttr? (.ref a) "keys") Q E s := by
  obtain ⟨c, dct, dat, sl⟩ := o
  simp only at hc hdat hd
  subst hc hdat hd
  obtain ⟨hp, g, d, tk, os⟩ := s
  have hT : ∀ tk', (⟨hp, g, d, tk', os⟩ : Shared).TypeIs (.ref a) "list" := fun _ => ⟨_, hx, rfl⟩
  have f1 := sub_AttributeError
  have f3 := F.slot_list_getattribute.lookup
  have f4 := F.slot_list_getattribute.bind (.ref a)
  have f5 := am_list_getattr_none
  unfold getAttr? getAttrBy? getAttrBy
  repeat (any_goals (first | assumption | exact hT _ | ((with_reducible show wpAny _ _ (call (Value.builtin "list.__getattribute__") _ _) _ _ _); refine call_meets F.slot_list_getattribute (hT _) am_entry_list_getattribute (F.args_list_getattribute_2 _ _) (meets_getattribute_miss_list a xs k sl "keys" _ UT (by decide +kernel) (by decide +kernel)) ⟨hx, hA, fun h' tk' e hx' => ?_⟩) | wp_step))
  obtain ⟨t', u', he⟩ := hx'.there
  show wpAny _ _ (getattributeRaised _ _ _ _ _ _ _) _ _ _
  unfold getattributeRaised
  repeat (any_goals (first | assumption | wp_step))
  exact h _ _ hx'.of.keeps
namespace F
theorem vG : entryFor table "dict.update.loop" = some Builtin.«dict.update.loop» := entryFor_of_tree (by kernel_rfl)
theorem yE : plainId "dict.update.loop" = true := by decide +kernel
end F
section
variable {prog : Program} {w : World} {A : Around} {R : Result → Shared → Prop} {I : Addr} {fp wr : List Addr} {G : Array GenState → Array GenState → Prop} {n : Nat} {P : Nat → Value → Prop} {St : Nat → Shared → Prop}
variable {K : Type} [DecidableEq K] {knd : KeyKind prog w K}
end
section
variable {prog : Program} {w : World} {K : Type} [DecidableEq K] {knd : KeyKind prog w K} {A : Around} {E : Value → Shared → Prop} {s : Shared}
end
end PySem
namespace HT
open PySem PyProof.Rows PySem.W
section
variable {prog : Program} {w : World} {A : Around} {E : Value → Shared → Prop} {s : Shared}
end
def RawD (h : Heap) (d : Addr) (ks : List Value) (ep : Nat) : Prop := ∃ (o : Obj) (es : Array DictEntry), h.get? d = some o ∧ o.ExactDict ∧ o.data = .dict es ep ∧ es.toList.map (·.key) = ks
theorem RawD.at {h h' : Heap} {d : Addr} {ks : List Value} {ep : Nat} (x : RawD h d ks ep) (e : ∀ o, h.get? d = some o → h'.get? d = some o) : RawD h' d ks ep := let ⟨o, es, ho, r⟩ := x; ⟨o, es, e _ ho, r⟩
theorem RawD.lt {h : Heap} {d : Addr} {ks : List Value} {ep : Nat} (x : RawD h d ks ep) : d < h.objs.size := let ⟨_, _, ho, _⟩ := x; Heap.lt_size ho
theorem RawD.ty {s : Shared} {d : Addr} {ks : List Value} {ep : Nat} (x : RawD s.heap d ks ep) : s.TypeIs (.ref d) "dict" := let ⟨o, _, ho, hc, _⟩ := x; ⟨o, ho, hc.1⟩
section
variable {prog : Program} {w : World} {A : Around} {E : Value → Shared → Prop} {s : Shared} {d it : Addr} {ks : List Value} {ep i : Nat}
theorem zbZ {Q : Value → Shared → Prop} (hd : (d == sysModules) = false) (hm : RawD s.heap d ks ep) (hQ : Q (.ref s.heap.objs.size) { s with heap := s.heap.push { cls := .type "dict_keyiterator", data := .fields #[.ref d, .int 0 0, .int ks.length 0, .int ep 0] } }) :
    wpAny (model prog w) A (pyIter (.ref d)) Q E s := by
  obtain ⟨o, es, ho, hc, hdat, hk⟩ := id hm
  refine wpAny_pyIter_slot hm.ty F.slot_dict_iter (wpAny_call_entry F.slot_dict_iter hm.ty F.entry_dict_iter ?_ (F.args_dict_iter_1 _))
  unfold Builtin.«dict.__iter__» Builtin.Dict.dictSlotNone
  refine wpAny_bind (wpAny_bind (wpAny_notOrdered_dict hm.ty ?_))
  show wpAny _ _ (pure (Value.ref d)) _ _ s
  refine wpAny_pure ?_
  show wpAny _ _ (Builtin.Dict.showsAll d >>= _) _ _ s
  unfold Builtin.Dict.showsAll
  rw [hd, if_neg Bool.false_ne_true]
  have hsz : es.size = ks.length := by rw [← hk]; simp
  refine wpAny_bind (wpAny_pure (wpAny_bind (wpAny_dictEntries ho hdat (wpAny_bind (wpAny_dictEpoch ho hdat (wpAny_bind (wpAny_newObj_type (wpAny_pure ⟨_, rfl, "dict_keyiterator", _, ⟨_, Heap.get?_push_size _ rfl, rfl⟩, F.slot_dict_keyiterator_next.lookup, ?_⟩))))))))
  simpa [rawInt, hsz] using hQ
theorem zcs {v : Value} {Q : Option Value → Shared → Prop} (hit : s.heap.IsKeyIter it d i ks.length ep) (hm : RawD s.heap d ks ep) (hx : ks[i]? = some v)
    (hQ : ∀ h', h'.IsKeyIter it d (i + 1) ks.length ep → Heap.SameBut it s.heap h' → Q (some v) { s with heap := h' }) : wpAny (model prog w) A (pyNext (.ref it)) Q E s := by
  obtain ⟨o, ho, hc, hd⟩ := id hit
  obtain ⟨od, es, hod, hcd, hdd, hk⟩ := id hm
  have hsz : es.size = ks.length := by rw [← hk]; simp
  have hlt : i < es.size := by rw [hsz]; exact (List.getElem?_eq_some_iff.mp hx).1
  have hkey : es[i].key = v := by
    rw [← hk, List.getElem?_map] at hx
    simpa [hlt] using hx
  have hown : Builtin.Dict_items.ownsTuple "dict_keyiterator" = false := by decide
  unfold pyNext
  refine wpAny_bind (wpAny_attempt (wpAny_callSpecial?_slot (name := Str.ofString "__next__") hit.typeIs F.slot_dict_keyiterator_next (wpAny_call_entry F.slot_dict_keyiterator_next hit.typeIs F.entry_dict_keyiterator_next ?_ (F.args_dict_keyiterator_next_1 _))))
  refine wpAny_bind (wpAny_pure (wpAny_bind (wpAny_bind ?_)))
  first | refine wpAny_bind (wpAny_typeNameOfWhole_keyiter hit.typeIs (wpAny_pure (wpAny_bind (wpAny_fieldsOf ho hd ?_)))) | refine wpAny_bind (wpAny_typeNameOf_keyiter hit.typeIs (wpAny_pure (wpAny_bind (wpAny_fieldsOf ho hd ?_))))
  simp only [hown, Bool.false_eq_true, if_false]
  show wpAny _ _ (if (Value.ref d == Value.none) = true then _ else _) _ _ s
  rw [if_neg (show ¬ ((Value.ref d == Value.none) = true) from Bool.false_ne_true)]
  refine wpAny_bind (wpAny_pure (wpAny_bind (wpAny_dictEntries hod hdd ?_)))
  rw [if_neg (by rw [hsz]; simp)]
  refine wpAny_bind (wpAny_pure (wpAny_bind (wpAny_dictEpoch hod hdd ?_)))
  rw [if_neg (by simp)]
  refine wpAny_pure ?_
  simp only [show ¬ ((i : Int) < 0) from by omega, if_false, Int.toNat_natCast, Array.getElem?_eq_getElem hlt]
  refine wpAny_bind ?_
  first | refine wpAny_bind (wpAny_typeNameOfWhole_keyiter hit.typeIs (wpAny_pure (wpAny_bind (wpAny_isOneOf_keyiter hit.typeIs ?_)))) | refine wpAny_bind (wpAny_typeNameOf_keyiter hit.typeIs (wpAny_pure (wpAny_bind (wpAny_isOneOf_keyiter hit.typeIs ?_))))
  show wpAny _ _ (setField (.ref it) 1 (rawInt ((i : Int) + 1)) >>= _) _ _ s
  refine wpAny_bind (wpAny_setField ho hd (by simp) ?_)
  have hit' : (s.heap.update it (Obj.mapFields (·.setIfInBounds 1 (rawInt ((i : Int) + 1))))).IsKeyIter it d (i + 1) ks.length ep :=
    ⟨_, Heap.get?_update_self _ ho (Obj.isFreed_of_fields (Obj.data_mapFields hd _)), (Obj.cls_mapFields ..).trans hc, by rw [Obj.data_mapFields hd]; simp [rawInt]⟩
  refine wpAny_bind (wpAny_holding (wpAny_bind (wpAny_isOneOf_keyiter (s := { s with heap := s.heap.update it (Obj.mapFields (·.setIfInBounds 1 (rawInt ((i : Int) + 1)))) }) hit'.typeIs ?_)))
  show wpAny _ _ (pure es[i].key) _ _ _
  rw [hkey]
  exact wpAny_pure (wpAny_pure ⟨_, rfl, wpAny_pure (hQ _ hit' (Heap.SameBut.update ..))⟩)
theorem zc4 {Q : Option Value → Shared → Prop} (hh : A.handled = none) (hit : s.heap.IsKeyIter it d ks.length ks.length ep) (hm : RawD s.heap d ks ep) (hQ : ∀ h', Heap.ExtBut it s.heap h' → Q none { s with heap := h' }) : wpAny (model prog w) A (pyNext (.ref it)) Q E s := by
  obtain ⟨o, ho, hc, hd⟩ := id hit
  obtain ⟨od, es, hod, hcd, hdd, hk⟩ := id hm
  have hsz : es.size = ks.length := by rw [← hk]; simp
  have hge : es.size ≤ ks.length := Nat.le_of_eq hsz
  have hown : Builtin.Dict_items.ownsTuple "dict_keyiterator" = false := by decide
  unfold pyNext
  refine wpAny_bind (wpAny_attempt (wpAny_callSpecial?_slot (name := Str.ofString "__next__") hit.typeIs F.slot_dict_keyiterator_next (wpAny_call_entry F.slot_dict_keyiterator_next hit.typeIs F.entry_dict_keyiterator_next ?_ (F.args_dict_keyiterator_next_1 _))))
  refine wpAny_bind (wpAny_pure (wpAny_bind (wpAny_bind ?_)))
  first | refine wpAny_bind (wpAny_typeNameOfWhole_keyiter hit.typeIs (wpAny_pure (wpAny_bind (wpAny_fieldsOf ho hd ?_)))) | refine wpAny_bind (wpAny_typeNameOf_keyiter hit.typeIs (wpAny_pure (wpAny_bind (wpAny_fieldsOf ho hd ?_))))
  simp only [hown, Bool.false_eq_true, if_false]
  show wpAny _ _ (if (Value.ref d == Value.none) = true then _ else _) _ _ s
  rw [if_neg (show ¬ ((Value.ref d == Value.none) = true) from Bool.false_ne_true)]
  refine wpAny_bind (wpAny_pure (wpAny_bind (wpAny_dictEntries hod hdd ?_)))
  rw [if_neg (by rw [hsz]; simp)]
  refine wpAny_bind (wpAny_pure (wpAny_bind (wpAny_dictEpoch hod hdd ?_)))
  rw [if_neg (by simp)]
  refine wpAny_pure ?_
  simp only [show ¬ ((ks.length : Int) < 0) from by omega, if_false, Int.toNat_natCast, Array.getElem?_eq_none hge]
  refine wpAny_bind ?_
  first | refine wpAny_bind (wpAny_typeNameOfWhole_keyiter hit.typeIs (wpAny_pure ?_)) | refine wpAny_bind (wpAny_typeNameOf_keyiter hit.typeIs (wpAny_pure ?_))
  show wpAny _ _ (setField (.ref it) 0 .none >>= _) _ _ s
  refine wpAny_bind (wpAny_setField ho hd (by simp) ?_)
  show wpAny _ _ (newExc (.type "StopIteration") [] >>= _) _ _ _
  refine wpAny_bind ?_
  simp only [newExc, newTuple]
  refine wpAny_bind (wpAny_newObj_type (wpAny_bind (m := firstArgMember _ _) (wpAny_of_eq (a := Value.none) (by first | rfl | (simp only [firstArgMember]; rfl)) (wpAny_newObj_type ?_ (by size_fits)))) (by size_fits))
  simp only [raiseNew]
  refine wpAny_bind (wpAny_handled ?_)
  rw [show A.in1.handled = none from hh]
  refine wpAny_bind (wpAny_pure (wpAny_throw ?_))
  refine wpAny_bind (wpAny_isInstance (T := "StopIteration") (b := true) ⟨_, Heap.get?_push_size _ rfl, rfl⟩ isSubtype_stop ?_)
  exact wpAny_pure (hQ _ (((Heap.SameBut.update ..).extBut.push _).push _))
end
end HT
namespace L2
open PySem PySem.Spec PyProof.Rows PySem.W
def kI (ns : List Int) : List Key := ns.map Sum.inl
theorem Vm (ns : List Int) : (kI ns).map kV = ns.map V.int := by unfold kI; rw [List.map_map]; rfl
theorem Ve {a b : List Int} (e : kI a = kI b) : a = b := by
  unfold kI at e
  exact List.map_inj_right (fun x y h => by cases h; rfl) |>.mp e
section
variable {X : Cx} {pins : List (Addr × Obj)} {σ : St} {H : Hp} {s : Shared}
end
section
variable {X : Cx} {pins : List (Addr × Obj)} {σ : St} {H : Hp} {s : Shared}
end
section
variable {X : Cx}
end
end L2
namespace PySem
open Sem (wp)
section
variable {prog : Program} {w : World} {κ : Type} [DecidableEq κ] {knd : KeyKind prog w κ}
theorem IsTupleKey.get {h h' : Heap} {k : List κ} {a : Addr} (x : IsTupleKey knd h k a) (e : ∀ o, h.get? a = some o → h'.get? a = some o) : IsTupleKey knd h' k a := by
  obtain ⟨o, its, n, h1, r⟩ := x
  exact ⟨o, its, n, e _ h1, r⟩
end
def xH {K : Type} [DecidableEq K] (xs more : List (K × Addr × Value)) : List (K × Addr × Value) := more.foldl (fun acc x => storedH acc x.1 x.2.1 x.2.2) xs
section
variable {K : Type} [DecidableEq K]
theorem UL (xs more : List (K × Addr × Value)) (x : K × Addr × Value) : xH xs (more ++ [x]) = storedH (xH xs more) x.1 x.2.1 x.2.2 := by
  unfold xH
  rw [List.foldl_append]
  rfl
theorem UW {xs : List (K × Addr × Value)} {k : K} {a : Addr} {v : Value} {x : K × Addr × Value} (h : x ∈ storedH xs k a v) : x.2.1 = a ∨ ∃ y ∈ xs, y.2.1 = x.2.1 := by
  unfold storedH at h
  split at h
  · obtain ⟨y, hy, rfl⟩ := List.mem_map.mp h
    refine .inr ⟨y, hy, ?_⟩
    unfold putAt
    split <;> rfl
  · rcases List.mem_append.mp h with h | h
    · exact .inr ⟨x, h, rfl⟩
    · rw [List.mem_singleton.mp h]; exact .inl rfl
theorem YS : ∀ {more xs : List (K × Addr × Value)} {x : K × Addr × Value}, x ∈ xH xs more → (∃ y ∈ more, y.2.1 = x.2.1) ∨ ∃ y ∈ xs, y.2.1 = x.2.1
  | [], xs, x, h => .inr ⟨x, h, rfl⟩
  | m :: more, xs, x, h => by
    rcases YS (more := more) (xs := storedH xs m.1 m.2.1 m.2.2) h with ⟨y, hy, e⟩ | ⟨y, hy, e⟩
    · exact .inl ⟨y, List.mem_cons_of_mem _ hy, e⟩
    · rcases UW hy with e2 | ⟨z, hz, e2⟩
      · exact .inl ⟨m, List.mem_cons_self, by rw [← e2, e]⟩
      · exact .inr ⟨z, hz, by rw [e2, e]⟩
theorem Jf (xs : List (K × Addr × Value)) (k : K) (a : Addr) (v : Value) : (storedH xs k a v).length ≤ xs.length + 1 := by
  unfold storedH
  split
  · rw [List.length_map]; omega
  · rw [List.length_append]; exact Nat.le_refl _
theorem Xq : ∀ (more xs : List (K × Addr × Value)), (xH xs more).length ≤ xs.length + more.length
  | [], xs => Nat.le_refl _
  | m :: more, xs => by
    have h1 := Xq more (storedH xs m.1 m.2.1 m.2.2)
    have h2 := Jf xs m.1 m.2.1 m.2.2
    show (xH (storedH xs m.1 m.2.1 m.2.2) more).length ≤ _
    rw [List.length_cons]
    omega
end
def j5 {prog : Program} {w : World} {κ : Type} [DecidableEq κ] (knd : KeyKind prog w κ) (h : Heap) (n : Nat) (P : Nat → Value → Prop) (kvs : List (List κ × Addr × Value)) (bad : List Addr) : Prop :=
  (∀ x ∈ kvs, x.2.1 ∉ bad ∧ IsTupleKey knd h x.1 x.2.1) ∧ ∀ i v, i < n → P i v → ∃ T kv, kvs[i]? = some kv ∧ v = .ref T ∧ T ∉ bad ∧ PyProof.Rows.IsTup h T #[.ref kv.2.1, kv.2.2]
section
variable {prog : Program} {w : World} {A : Around} {R : Result → Shared → Prop} {I : Addr} {fp wr : List Addr} {G : Array GenState → Array GenState → Prop} {n : Nat} {P : Nat → Value → Prop} {St : Nat → Shared → Prop}
variable {κ : Type} [DecidableEq κ] {knd : KeyKind prog w κ}
set_option maxHeartbeats 0 in
theorem qi (hu : A.units + 8 < cLine) (W : WalksS prog w A.in1 I fp wr G n P St) (D : Addr) (hDf : D ∉ fp) (kvs : List (List κ × Addr × Value)) (hn : kvs.length = n) (hz : n ≤ sizeLine) :
    ∀ (k i : Nat) (s : Shared), n - i = k → i ≤ n → St i s → j5 knd s.heap n P kvs (D :: wr) →
      s.heap.DictOfH (tupleKind knd) D (xH [] (kvs.take i)) →
      (∀ s', Moved (D :: wr) G s s' → s'.heap.DictOfH (tupleKind knd) D (xH [] kvs) → R (.ok (.ret .none)) s') →
      codeAny (model prog w) A (.builtin "dict.update.loop" ⟨[.ref D, .ref I, rawInt i, .none], []⟩) R s := by
  have hDw : D ∉ wr := fun h => hDf (W.sub _ h)
  have hsub : ∀ b ∈ wr, b ∈ D :: wr := fun b hb => List.mem_cons_of_mem _ hb
  have keepD : ∀ {s s' : Shared} {i : Nat}, j5 knd s.heap n P kvs (D :: wr) → Moved wr G s s' → s.heap.DictOfH (tupleKind knd) D (xH [] (kvs.take i)) → s'.heap.DictOfH (tupleKind knd) D (xH [] (kvs.take i)) := fun hP hm hS => by
    obtain ⟨o, es, ep, ho, h2, h3, h4, h5, h6⟩ := hS
    refine ⟨o, es, ep, hm.heap D _ hDw ho, h2, h3, h4, fun x hx => ?_, h6⟩
    rcases YS hx with ⟨y, hy, e⟩ | ⟨y, hy, _⟩
    · have hb := (hP.1 y (List.mem_of_mem_take hy)).1
      exact IsTupleKey.get (h5 x hx) fun o q => hm.heap _ o (by rw [← e]; exact fun z => hb (hsub _ z)) q
    · exact nomatch hy
  have keepP : ∀ {h h' : Heap}, (∀ b o, b ∉ D :: wr → h.get? b = some o → h'.get? b = some o) → j5 knd h n P kvs (D :: wr) → j5 knd h' n P kvs (D :: wr) := fun hk hP => by
    refine ⟨fun x hx => ⟨(hP.1 x hx).1, IsTupleKey.get (hP.1 x hx).2 fun o q => hk _ o (hP.1 x hx).1 q⟩, fun i v hi hv => ?_⟩
    obtain ⟨T, kv, e1, e2, e3, ⟨o, ho, r⟩⟩ := hP.2 i v hi hv
    exact ⟨T, kv, e1, e2, e3, ⟨o, hk T o e3 ho, r⟩⟩
  intro k
  induction k with
  | zero =>
    intro i s hk hi hst hP hS hR
    have hin : i = n := by omega
    subst hin
    refine codeAny_builtin F.vG ?_
    rw [Around.under_plainId F.yE _]
    show wpAny _ A.in1 (pyNext (.ref I) >>= _) _ _ s
    refine wpAny_bind (W.done s _ _ hst fun s' hm => ?_)
    show wpAny _ A.in1 (Builtin.Dict.addKeywords D [] >>= _) _ _ s'
    refine wpAny_bind (wpAny_pure ?_)
    show wpAny _ A.in1 (ret Value.none) _ _ s'
    refine wpAny_pure (hR s' (hm.mono hsub) ?_)
    have := keepD hP hm hS
    rwa [← hn, List.take_length] at this
  | succ k ih =>
    intro i s hk hi hst hP hS hR
    have hlt : i < n := by omega
    refine codeAny_builtin F.vG ?_
    rw [Around.under_plainId F.yE _]
    show wpAny _ A.in1 (pyNext (.ref I) >>= _) _ _ s
    refine wpAny_bind (W.item i s _ _ hlt hst fun v s' hPv hst' hm => ?_)
    have hP' : j5 knd s'.heap n P kvs (D :: wr) := keepP (fun b o hb e => hm.heap b o (fun z => hb (hsub b z)) e) hP
    obtain ⟨T, kv, e1, rfl, e3, ⟨o, ho, hc, m, hd⟩⟩ := hP'.2 i v hlt hPv
    have hS' := keepD hP hm hS
    have hkv := hP'.1 kv (List.mem_of_getElem? e1)
    show wpAny _ A.in1 (holding [Value.ref T] _ >>= _) _ _ s'
    refine wpAny_bind (wpAny_holding ?_)
    refine wpAny_bind (wpAny_tryCatch ?_)
    unfold Builtin.Dict.pairItems
    refine wpAny_bind (wpAny_typeOf (show s'.TypeIs (.ref T) "tuple" from ⟨o, ho, hc⟩) ?_)
    rw [if_pos (by decide)]
    refine wpAny_bind (wpAny_seqItems ho hd ?_)
    refine wpAny_pure ?_
    show wpAny _ _ (holding [Value.ref kv.2.1, kv.2.2] (dictSet D (.ref kv.2.1) kv.2.2)) _ _ _
    refine wpAny_holding ?_
    have hlen : (xH [] (kvs.take i)).length ≤ sizeLine := by
      have := Xq (kvs.take i) []
      rw [List.length_take, List.length_nil] at this
      omega
    refine wpAny_dictSet_heap (knd := tupleKind knd) (show (tupleKind knd).room _ from ?room) hkv.2 hS' (fun h' hd' hsb => ?_) hlen
    case room => show Around.units _ < cLine; simp; omega
    have et : kvs.take (i + 1) = kvs.take i ++ [kv] := by rw [List.take_succ, e1]; rfl
    rw [← UL, ← et] at hd'
    refine wpAny_pure ⟨plainId_quiet F.yE _, ?_⟩
    have hsz : ((i : Int) + 1) = ((i + 1 : Nat) : Int) := by omega
    show codeAny _ _ (.builtin "dict.update.loop" ⟨[.ref D, .ref I, rawInt ((i : Int) + 1), .none], []⟩) _ _
    rw [hsz]
    refine ih (i + 1) _ (by omega) hlt (W.frame _ s' _ _ hst' (Nat.le_add_right _ _) fun b hb o e => ?_) (keepP (fun b o hb e => ?_) hP') hd' fun s'' hm'' hS'' => ?_
    · rw [hsb.2 b (fun h : b = D => hDf (by rw [← h]; exact hb))]; exact e
    · rw [hsb.2 b (fun h : b = D => hb (by rw [h]; exact List.mem_cons_self))]; exact e
    · refine hR s'' (Moved.trans W.gtrans ((hm.mono hsub).then_heap (Nat.le_add_right _ _) fun b o hb e => ?_) hm'') hS''
      rw [hsb.2 b (fun h : b = D => hb (by rw [h]; exact List.mem_cons_self))]; exact e
end
section
variable {prog : Program} {w : World} {κ : Type} [DecidableEq κ] {knd : KeyKind prog w κ} {A : Around} {E : Value → Shared → Prop} {s : Shared}
set_option maxHeartbeats 0 in
theorem Xa {l : Addr} {o : Obj} {items : Array Value} {k : Nat} {kvs : List (List κ × Addr × Value)} {Q : Value → Shared → Prop} (hu : A.units + 16 < cLine) (hh : A.handled = none) (ho : s.heap.get? l = some o) (hc : o.cls = .type "list") (hdat : o.data = .seq items k) (hd : o.dict = none)
    (hlen : kvs.length = items.size) (hz : items.size ≤ sizeLine) (hK : ∀ x ∈ kvs, IsTupleKey knd s.heap x.1 x.2.1) (hP : ∀ (i : Nat) (v : Value), items[i]? = some v → ∃ (T : Addr) (kv : List κ × Addr × Value), kvs[i]? = some kv ∧ v = .ref T ∧ PyProof.Rows.IsTup s.heap T #[.ref kv.2.1, kv.2.2])
    (h : ∀ h' tk, h'.DictOfH (tupleKind knd) s.heap.objs.size (xH [] kvs) → (∀ b o, s.heap.get? b = some o → h'.get? b = some o) → Q (.ref s.heap.objs.size) { s with heap := h', toks := tk }) :
    wpAny (model prog w) A (call (.type "dict") [.ref l]) Q E s := by
  refine callType_codes (Q₁ := fun obj s₁ => obj = .ref s.heap.objs.size ∧ s₁ = { s with heap := s.heap.push { cls := .type "dict", data := .dict #[] } }) F.kt_called_dict (F.kt_typeCall_dict_1 _) F.entry_dict_init (kt_code_dict_new _ ⟨rfl, rfl⟩) ?_
  rintro obj s₁ ⟨rfl, rfl⟩
  have hnew : (s.heap.push { cls := .type "dict", data := .dict #[] }).DictOf knd s.heap.objs.size [] := Heap.DictOf.new s.heap
  have hnewH : (s.heap.push { cls := .type "dict", data := .dict #[] }).DictOfH (tupleKind knd) s.heap.objs.size [] := Heap.DictOfH.new s.heap
  have ho1 : (s.heap.push { cls := .type "dict", data := .dict #[] }).get? l = some o := Heap.get?_push_of_some _ ho
  refine ⟨hnew.typeIs, F.args_dict_init_2 _ _, ?_⟩
  unfold Builtin.«dict.__init__»
  refine wpAny_bind ?_
  unfold Builtin.Dict.selfAndRest
  refine wpAny_bind (wpAny_notOrdered_dict hnew.typeIs ?_)
  show wpAny _ _ (pure (s.heap.objs.size, [Value.ref l])) _ _ _
  refine wpAny_pure ?_
  show wpAny _ _ (Builtin.Dict.updateFrom "dict.__init__" s.heap.objs.size (.ref l) [] .none) _ _ _
  unfold Builtin.Dict.updateFrom
  refine wpAny_bind (wpAny_typeOf (show Shared.TypeIs { s with heap := s.heap.push { cls := .type "dict", data := .dict #[] } } (.ref l) "list" from ⟨o, ho1, hc⟩) ?_)
  rw [if_pos (by decide)]
  refine wpAny_bind ?_
  refine WR ho1 hc hdat hd ?_ fun h1 tk1 k1 => ?_
  · simp [hh]
  rw [if_pos (show (none : Option Value).isNone = true from rfl)]
  refine wpAny_bind (wpAny_rule ?_)
  have ho2 : h1.get? l = some o := k1 _ _ ho1
  have hl1 : h1.IsList l items := ⟨o, ho2, hc, k, hdat⟩
  refine wpAny_bind (wpAny_pyIter_list hl1 ?_)
  refine wpAny_pure ⟨plainId_quiet F.yE _, ?_⟩
  have hlS : l < s.heap.objs.size := Heap.lt_size ho
  have hh3 : A.in1.in1.handled = none := by simp [hh]
  have hneI : l ≠ h1.objs.size := Nat.ne_of_lt (Heap.lt_size ho2)
  have hD1 : h1.get? s.heap.objs.size = some { cls := .type "dict", data := .dict #[] } := k1 _ _ (Heap.get?_push_size _ rfl)
  have hDI : s.heap.objs.size ≠ h1.objs.size := Nat.ne_of_lt (Heap.lt_size hD1)
  have hSf : s.heap.objs.size ∉ [h1.objs.size, l] := by
    simp only [List.mem_cons, List.not_mem_nil, or_false, not_or]
    exact ⟨hDI, Nat.ne_of_gt hlS⟩
  have hold : ∀ b o, s.heap.get? b = some o → h1.get? b = some o := fun b o e => k1 _ _ (Heap.get?_push_of_some _ e)
  refine qi (knd := knd) ?hu0 ((Walks.list hh3 h1.objs.size l hneI items).toS) s.heap.objs.size hSf kvs hlen hz (items.size - 0) 0 _ (by omega) (Nat.zero_le _)
    ⟨⟨_, Heap.get?_push_size _ rfl, rfl, rfl⟩, (hl1.push _)⟩ ?hP0 ?hS0 ?hR
  case hP0 =>
    refine ⟨fun x hx => ?_, fun i v hi hv => ?_⟩
    · have kx := hK x hx
      refine ⟨?_, IsTupleKey.get kx fun o q => Heap.get?_push_of_some _ (hold _ _ q)⟩
      obtain ⟨ot, _, _, ht, _⟩ := kx
      simp only [List.mem_cons, List.not_mem_nil, or_false, not_or]
      exact ⟨Nat.ne_of_lt (Heap.lt_size ht), Nat.ne_of_lt (Heap.lt_size (hold _ _ ht))⟩
    · obtain ⟨T, kv, e1, e2, ⟨ot, ht, r⟩⟩ := hP i v hv
      have ht1 := hold _ _ ht
      refine ⟨T, kv, e1, e2, ?_, ⟨ot, Heap.get?_push_of_some _ ht1, r⟩⟩
      simp only [List.mem_cons, List.not_mem_nil, or_false, not_or]
      exact ⟨Nat.ne_of_lt (Heap.lt_size ht), Nat.ne_of_lt (Heap.lt_size ht1)⟩
  case hS0 =>
    obtain ⟨od, es, ep, hod, h2, h3, h4, _, h6⟩ := hnewH
    exact ⟨od, es, ep, Heap.get?_push_of_some _ (k1 _ _ hod), h2, h3, h4, (fun x hx => nomatch hx), h6⟩
  case hu0 => simp; omega
  case hR =>
    intro s' hm hS'
    obtain ⟨h', g', d', tk', os'⟩ := s'
    have eg : g' = s.gens := hm.gens
    have ed : d' = s.drawn := hm.drawn
    have eo : os' = s.os := hm.os
    subst eg; subst ed; subst eo
    refine ⟨rfl, h h' tk' hS' fun b q e => ?_⟩
    have hb1 : b ≠ s.heap.objs.size := Nat.ne_of_lt (Heap.lt_size e)
    have hb2 : b ≠ h1.objs.size := Nat.ne_of_lt (Heap.lt_size (hold _ _ e))
    exact hm.heap b q (by simp only [List.mem_cons, List.not_mem_nil, or_false, not_or]; exact ⟨hb1, hb2⟩) (Heap.get?_push_of_some _ (hold _ _ e))
end
end PySem
namespace HT
open PySem PySem.Spec PyProof.Rows
section
variable {prog : Program} {w : World} {A : Around} {E : Value → Shared → Prop} {s : Shared}
end
end HT
namespace L2
open PySem PySem.Spec PyProof.Rows
section
variable {X : Cx}
theorem zb6 (K : PySem.W.Frag) (e : X.K = K := by rfl) : wM X (.type "tuple") (fun xs H Q => ∃ p ys, xs = [.ref p] ∧ ((SqL K H p ys ∧ ∀ l, H l = none → Q (.ref l) (upd H l (.tup ys))) ∨ (SqT K H p ys ∧ Q (.ref p) H))) := by subst e; exact Vj
end
abbrev NK := List Key × List Key
section
variable {P : Program} {w : World}
def IsNK (P : Program) (w : World) (h : Heap) (k : NK) (a : Addr) : Prop :=
  ∃ ob its n c us, h.get? a = some ob ∧ ob.cls = .type "tuple" ∧ ob.data = .seq its n ∧ its.toList = .ref c :: us ∧ IsTupleKey (zX P w) h k.1 c ∧ ItemsAre (zX P w) k.2 us
def j6 (P : Program) (w : World) (k : NK) : List Int := tupleKeyHash (zX P w) k.1 :: k.2.map (zX P w).hash
theorem IsNK.ty {s : Shared} {k : NK} {a : Addr} (x : IsNK P w s.heap k a) : s.TypeIs (.ref a) "tuple" := let ⟨ob, _, _, _, _, e, c, _⟩ := x; ⟨ob, e, c⟩
theorem IsNK.one {h : Heap} {a : Addr} {x y : NK} (p : IsNK P w h x a) (q : IsNK P w h y a) : x = y := by
  obtain ⟨ob, its, n, c, us, e1, _, e2, e3, e4, e5⟩ := p
  obtain ⟨ob', its', n', c', us', f1, _, f2, f3, f4, f5⟩ := q
  rw [e1] at f1; cases f1
  rw [e2] at f2; cases f2
  rw [e3] at f3; cases f3
  exact Prod.ext (e4.inj f4) (e5.inj f5)
theorem IsNK.kept {h h' : Heap} {k : NK} {a d : Addr} {o : Obj} {es ep} (x : IsNK P w h k a) (ho : h.get? d = some o) (hd : o.data = .dict es ep) (hs : Heap.SameBut d h h') : IsNK P w h' k a := by
  obtain ⟨ob, its, n, c, us, e1, ec, e2, e3, e4, e5⟩ := x
  have ne : a ≠ d := fun z => by
    subst z
    rw [e1] at ho; cases ho
    rw [hd] at e2; cases e2
  exact ⟨ob, its, n, c, us, (hs.2 a ne).trans e1, ec, e2, e3, e4.keeps ho hd hs, e5⟩
variable {A : Around} {E : Value → Shared → Prop} {s : Shared}
theorem zcq {k : NK} {a : Addr} {Q : Int → Shared → Prop} (hu : A.units + 1 < cLine) (hk : IsNK P w s.heap k a) (h : Q (reduceHash (Builtin.Tuple.tupleHashOf (j6 P w k))) { s with toks := s.toks + (k.1.length + 1 + k.2.length + 1) }) :
    wpAny (model P w) A (pyHash (.ref a)) Q E s := by
  have tY := hk.ty
  obtain ⟨ob, its, n, c, us, e1, ec, e2, e3, e4, e5⟩ := hk
  unfold pyHash
  first | unfold pyHashByItsType | skip
  first | refine wpAny_bind (wpAny_cRoomFor_or (.inr (Nat.lt_of_succ_lt hu)) ?_) | skip
  refine wpAny_bind (wpAny_specialOf tY F.slot_tuple_hash.lookup ?_)
  show wpAny _ _ (if (some (Value.builtin "tuple.__hash__") == some Value.none) = true then _ else _) Q E s; rw [if_neg (by rw [beq_builtin_none]; exact Bool.false_ne_true)]
  refine wpAny_bind (wpAny_specialOf tY F.slot_tuple_hash.lookup ?_)
  show wpAny _ _ (callSpecialIfBoundUnlessNone? (.ref a) "__hash__" _ >>= _) Q E s
  refine wpAny_bind (wpAny_callSpecialIfBoundUnlessNone?_slot tY F.slot_tuple_hash (wpAny_call_entry F.slot_tuple_hash tY F.entry_tuple_hash ?_ (F.args_tuple_hash_1 _)))
  show wpAny _ _ (Builtin.Tuple.tupleItemsOf (.ref a) >>= _) _ _ s
  refine wpAny_bind (wpAny_tupleItemsOf e1 e2 ?_)
  refine wpAny_bind ?_
  rw [← Array.forIn_toList, e3]
  refine wpAny_forIn_list _
    (fun rest (b : Array Int) s' => (rest = .ref c :: us ∧ b = #[] ∧ s' = s) ∨ ∃ done left, k.2 = done ++ left ∧ ItemsAre (zX P w) left rest ∧ b.toList = tupleKeyHash (zX P w) k.1 :: done.map (zX P w).hash ∧ s' = { s with toks := s.toks + (k.1.length + 1) + done.length })
    _ ?_ ?_ _ _ (.inl ⟨rfl, rfl, rfl⟩)
  · rintro x rest b s' (⟨z1, rfl, rfl⟩ | ⟨done, left, z1, hl, hb, rfl⟩)
    · cases z1
      refine wpAny_bind (wpAny_pyHash_tuple (A := A.in1) hu e4 ?_)
      first
        | exact wpAny_pure (.inr ⟨[], k.2, rfl, e5, rfl, rfl⟩)
        | exact wpAny_bind (wpAny_pure (wpAny_pure (.inr ⟨[], k.2, rfl, e5, rfl, rfl⟩)))
    · cases hl with
      | @cons i _ is _ h1 hl' =>
        refine wpAny_bind ((zX P w).pyHash h1 ?_)
        first
          | exact wpAny_pure (.inr ⟨done ++ [i], is, by rw [z1]; simp, hl', by simp [hb], by simp [Nat.add_assoc]⟩)
          | exact wpAny_bind (wpAny_pure (wpAny_pure (.inr ⟨done ++ [i], is, by rw [z1]; simp, hl', by simp [hb], by simp [Nat.add_assoc]⟩)))
  · rintro b s' (⟨z1, _, _⟩ | ⟨done, left, z1, hl, hb, rfl⟩)
    · cases z1
    · cases hl
      rw [List.append_nil] at z1
      show wpAny _ _ (retInt (Builtin.Tuple.tupleHashOf b.toList)) _ _ _
      have eH : b.toList = j6 P w k := by rw [hb]; unfold j6; rw [z1]
      rw [eH]
      refine wpAny_ret_mkInt ?_
      generalize Builtin.Tuple.tupleHashOf (j6 P w k) = m at h
      show wpAny _ _ (if (decide (-(2 : Int) ^ 63 ≤ m) && decide (m < 2 ^ 63)) = true then _ else _) Q E _
      unfold reduceHash at h
      have et : ∀ t : Nat, t + (k.1.length + 1) + done.length + 1 = t + (k.1.length + 1 + k.2.length + 1) := fun t => by rw [z1]; omega
      by_cases hr : (decide (-(2 : Int) ^ 63 ≤ m) && decide (m < 2 ^ 63)) = true
      · rw [if_pos hr] at h ⊢
        refine wpAny_pure ?_
        first | (rw [← et] at h; exact h) | (simp only [Nat.add_assoc] at et ⊢; rw [← et] at h; exact h)
      · rw [if_neg hr] at h ⊢
        refine wpAny_bind (wpAny_rule (wpAny_pure ?_))
        first | (rw [← et] at h; exact h) | (simp only [Nat.add_assoc] at et ⊢; rw [← et] at h; exact h)
theorem JM {x y : NK} {a b : Addr} {R : Fin → Shared → Prop} (hu : A.units < cLine) (hx : IsNK P w s.heap x a) (hy : IsNK P w s.heap y b) (h : R (.done (.ret (.bool (decide (x = y))))) s) :
    wpAny (model P w) A (Builtin.«tuple.__eq__» ⟨[.ref a, .ref b], []⟩) R E s := by
  have tY := hy.ty
  obtain ⟨oa, ia, na, ca, ua, a1, ac, a2, a3, a4, a5⟩ := hx
  obtain ⟨ob, ib, nb, cb, ub, b1, bc, b2, b3, b4, b5⟩ := hy
  have eD : decide (x = y) = (decide (x.1 = y.1) && decide (x.2 = y.2)) := by
    rw [← Bool.decide_and]; exact decide_eq_decide.mpr Prod.ext_iff
  have eS : (ia.size == ib.size) = (ua.length == ub.length) := by
    rw [← Array.length_toList, ← Array.length_toList, a3, b3, List.length_cons, List.length_cons]; simp
  show wpAny _ _ (isInstance (.ref b) (.type "tuple") >>= _) _ _ s
  refine wpAny_bind (wpAny_isInstance tY isSubtype_tuple_tuple ?_)
  simp only [Bool.not_true, Bool.false_eq_true, if_false]
  refine wpAny_bind (wpAny_tupleItemsOf a1 a2 ?_)
  refine wpAny_bind (wpAny_tupleItemsOf b1 b2 ?_)
  refine wpAny_bind ?_
  refine wpAny_forIn_list _
    (fun rest r s' => r.1 = none ∧ s' = s ∧ (rest = List.zip (.ref ca :: ua) (.ref cb :: ub) ∨ (x.1 = y.1 ∧ ∃ x' y' xs' ys', rest = List.zip xs' ys' ∧ ItemsAre (zX P w) x' xs' ∧ ItemsAre (zX P w) y' ys' ∧ decide (x' = y') = decide (x.2 = y.2) ∧ (xs'.length == ys'.length) = (ua.length == ub.length))))
    _ ?_ ?_ _ _ ⟨rfl, rfl, .inl (by rw [← a3, ← b3])⟩
  · rintro ⟨u, v⟩ rest r s' ⟨hr, rfl, hz | ⟨hE, x', y', xs', ys', hz, hx', hy', hdec, hlen⟩⟩
    · simp only [List.zip_cons_cons, List.cons.injEq, Prod.mk.injEq] at hz
      obtain ⟨⟨rfl, rfl⟩, rfl⟩ := hz
      refine wpAny_bind (wpAny_eqBool_tuple hu a4 b4 ?_)
      by_cases hk : x.1 = y.1
      · rw [decide_eq_true hk]
        simp only [Bool.not_true, Bool.false_eq_true, if_false]
        exact wpAny_pure ⟨rfl, rfl, .inr ⟨hk, x.2, y.2, ua, ub, rfl, a5, b5, rfl, rfl⟩⟩
      · rw [decide_eq_false hk]
        simp only [Bool.not_false, if_true]
        rw [eD, decide_eq_false hk, Bool.false_and] at h
        exact wpAny_bind (wpAny_pure (wpAny_pure (wpAny_pure h)))
    · cases hx' with
      | nil => simp at hz
      | @cons k1 u' x'' xs'' h1 hx'' =>
        cases hy' with
        | nil => simp at hz
        | @cons k2 v' y'' ys'' h2 hy'' =>
          simp only [List.zip_cons_cons, List.cons.injEq, Prod.mk.injEq] at hz
          obtain ⟨⟨rfl, rfl⟩, rfl⟩ := hz
          refine wpAny_bind ((zX P w).eqBool (a := k1) (b := k2) h1 h2 ?_)
          by_cases hk : k1 = k2
          · subst hk
            rw [decide_eq_true rfl]
            simp only [Bool.not_true, Bool.false_eq_true, if_false]
            exact wpAny_pure ⟨rfl, rfl, .inr ⟨hE, x'', y'', xs'', ys'', rfl, hx'', hy'', by rw [← hdec]; by_cases q : x'' = y'' <;> simp [q], by simpa using hlen⟩⟩
          · rw [decide_eq_false hk]
            simp only [Bool.not_false, if_true]
            have hf : decide (x.2 = y.2) = false := by rw [← hdec]; simp [hk]
            rw [eD, hf, Bool.and_false] at h
            exact wpAny_bind (wpAny_pure (wpAny_pure (wpAny_pure h)))
  · rintro ⟨r1, r2⟩ s' ⟨hr, rfl, hz | ⟨hE, x', y', xs', ys', hz, hx', hy', hdec, hlen⟩⟩
    · simp at hz
    simp only at hr
    subst hr
    refine wpAny_pure ?_
    have fin : (ia.size == ib.size) = decide (x = y) := by
      rw [eS, eD, decide_eq_true hE, Bool.true_and, ← hdec, ← hlen]
      cases hx' with
      | nil =>
        cases hy' with
        | nil => simp
        | cons _ _ => simp
      | cons _ _ =>
        cases hy' with
        | nil => simp
        | cons _ _ => simp at hz
    show R (.done (.ret (.bool (ia.size == ib.size)))) s'
    rw [fin]; exact h
theorem zdE {x y : NK} {a b : Addr} {Q : Bool → Shared → Prop} (hu : A.units + 1 < cLine) (hx : IsNK P w s.heap x a) (hy : IsNK P w s.heap y b) (h : Q (decide (x = y)) s) : wpAny (model P w) A (eqBool (.ref a) (.ref b)) Q E s := by
  unfold eqBool
  try with_reducible refine wpAny_holding ?_
  show wpAny _ _ (if (Value.ref a == Value.ref b) = true then _ else _) Q E s
  by_cases hab : (Value.ref a == Value.ref b) = true
  · rw [if_pos hab]
    have e : a = b := by have := eq_of_beq hab; injection this
    subst e
    obtain rfl := hx.one hy
    exact wpAny_bind (wpAny_rule (wpAny_pure (by simpa using h)))
  · rw [if_neg hab]
    exact wpAny_bind (wpAny_richCompare_same_room (op := .Eq) hx.ty hy.ty F.slot_tuple_eq (wpAny_call_entry F.slot_tuple_eq hx.ty F.entry_tuple_eq (JM (A := A.in1) hu hx hy ⟨_, rfl, (fun e => nomatch e), wpAny_truthy_bool h⟩) (F.args_tuple_eq_2 _ _)) (Nat.lt_of_succ_lt hu))
theorem Xz {n : Nat} {a : Addr} {ob : Obj} {its m} {Q : Bool → Shared → Prop} (e1 : s.heap.get? a = some ob) (ec : ob.cls = .type "tuple") (e2 : ob.data = .seq its m) (hq : ∀ v ∈ its.toList, ∀ {Q : Bool → Shared → Prop}, Q true s → wpAny (model P w) A (eqIsQuiet n v) Q E s) (h : Q true s) : wpAny (model P w) A (eqIsQuiet (n + 1) (.ref a)) Q E s := by
  have tY : s.TypeIs (.ref a) "tuple" := ⟨ob, e1, ec⟩
  unfold eqIsQuiet
  refine wpAny_bind (wpAny_specialOf tY F.slot_tuple_eq.lookup ?_)
  show wpAny _ _ (isInstance (.ref a) (.type "tuple") >>= _) _ _ s
  refine wpAny_bind (wpAny_isInstance tY isSubtype_tuple_tuple ?_)
  simp only [Bool.not_true, Bool.false_eq_true, if_false]
  refine wpAny_bind (wpAny_seqItems e1 e2 ?_)
  refine wpAny_bind ?_
  show wpAny _ _ (forIn its _ _) _ _ s
  rw [← Array.forIn_toList]
  refine wpAny_forIn_list _ (fun rest r s' => r.1 = none ∧ s' = s ∧ ∀ v ∈ rest, v ∈ its.toList) _ ?_ ?_ _ _ ⟨rfl, rfl, fun _ z => z⟩
  · rintro v rest r s' ⟨hr, rfl, hall⟩
    refine wpAny_bind (hq v (hall v List.mem_cons_self) ?_)
    simp only [Bool.not_true, Bool.false_eq_true, if_false]
    exact wpAny_pure ⟨rfl, rfl, fun u hu' => hall u (List.mem_cons_of_mem _ hu')⟩
  · rintro ⟨r1, r2⟩ s' ⟨hr, rfl, _⟩
    simp only at hr
    subst hr
    exact wpAny_pure h
theorem Vb {n : Nat} {ks : List Key} {us : List Value} (hi : ItemsAre (zX P w) ks us) : ∀ v ∈ us, ∀ {Q : Bool → Shared → Prop}, Q true s → wpAny (model P w) A (eqIsQuiet n v) Q E s := fun v hv Q q => by
  rw [eqIsQuiet_byValue _ (hi.byValue v hv)]; exact wpAny_pure q
theorem zbF {k : NK} {a : Addr} {Q : Bool → Shared → Prop} (hk : IsNK P w s.heap k a) (h : Q true s) : wpAny (model P w) A (eqIsQuiet 8 (.ref a)) Q E s := by
  obtain ⟨ob, its, n, c, us, e1, ec, e2, e3, ⟨oc, jts, m, c1, cc, c2, c3⟩, e5⟩ := hk
  refine Xz e1 ec e2 (fun v hv => ?_) h
  rw [e3] at hv
  rcases List.mem_cons.mp hv with rfl | hv
  · exact fun q => Xz c1 cc c2 (Vb c3) q
  · exact Vb e5 v hv
end
def zbp (P : Program) (w : World) : HeapKind P w NK where
  is := IsNK P w
  hash := fun k => reduceHash (Builtin.Tuple.tupleHashOf (j6 P w k))
  draws := fun k => k.1.length + 1 + k.2.length + 1
  room := fun A => A.units + 1 < cLine
  inj := fun p q => p.one q
  keeps := fun x ho hd hs => x.kept ho hd hs
  pyHash := fun hu hk h => zcq hu hk h
  eqBool := fun hu hx hy h => zdE hu hx hy h
  quiet := fun hk h => zbF hk h
def zes (P : Program) (w : World) (a : Addr) (xs : List (NK × Addr × Value)) : Heap → Prop := fun h => ∃ o es ep, h.get? a = some o ∧ o.ExactDict ∧ o.data = .dict es ep ∧ es.toList = xs.map (entryOfKey (zbp P w)) ∧ (xs.map (·.1)).Nodup
def NTup (H : Hp) (k : NK) (b : Addr) : Prop := ∃ c, H b = some (.tup (.ref c :: k.2.map kV)) ∧ H c = some (.tup (k.1.map kV))
theorem NTup.same {H H' : Hp} {k : NK} {b : Addr} (h : NTup H k b) (s : ∀ b xs, H b = some (.tup xs) → H' b = some (.tup xs)) : NTup H' k b := let ⟨c, h1, h2⟩ := h; ⟨c, s _ _ h1, s _ _ h2⟩
abbrev KN (H : Hp) : List (NK × V) → List (NK × Addr × Value) → Prop := Paired fun p q => p.1 = q.1 ∧ NTup H p.1 q.2.1 ∧ RelV p.2 q.2.2
theorem KN.val {H : Hp} {kvs : List (NK × V)} {xs : List (NK × Addr × Value)} (r : KN H kvs xs) (k : NK) : RelO (yh kvs k) ((atKey xs k).map (·.2)) := by
  induction r with
  | nil => exact True.intro
  | @cons p q ps qs h t ih =>
    obtain ⟨h1, _, h2⟩ := h
    by_cases e : p.1 = k
    · have e' : q.1 = k := h1.symm.trans e
      rw [yH e, show atKey (q :: qs) k = some q.2 by simp [atKey, List.find?_cons, e']]; exact h2
    · have e' : ¬ q.1 = k := fun z => e (h1.trans z)
      rw [yK e, show atKey (q :: qs) k = atKey qs k by simp [atKey, List.find?_cons, e']]; exact ih
theorem KN.put {H : Hp} {kvs : List (NK × V)} {xs : List (NK × Addr × Value)} (r : KN H kvs xs) (k : NK) {b : Addr} {y : V} {u : Value} (hb : NTup H k b) (ry : RelV y u) : KN H (putK kvs k y) (storedH xs k b u) := by
  have e : (kvs.any fun kv => decide (kv.1 = k)) = (atKey xs k).isSome := by
    rw [uF, (r.val k).isSome_eq, Option.isSome_map]
  have rep : ∀ {kvs : List (NK × V)} {xs : List (NK × Addr × Value)}, KN H kvs xs → KN H (kvs.map fun kv => if kv.1 = k then (kv.1, y) else kv) (xs.map (putAt k u)) := fun {kvs xs} r => by
    induction r with
    | nil => exact .nil
    | @cons p q ps qs h t ih =>
      rw [List.map_cons, List.map_cons]
      refine .cons ?_ ih
      obtain ⟨h1, h2, h3⟩ := h
      unfold putAt
      by_cases e : p.1 = k
      · rw [if_pos e, if_pos (h1.symm.trans e)]; exact ⟨h1, h2, ry⟩
      · rw [if_neg e, if_neg (fun z => e (h1.trans z))]; exact ⟨h1, h2, h3⟩
  unfold putK storedH
  rw [e]
  by_cases q : (atKey xs k).isSome = true
  · rw [if_pos q, if_pos q]; exact rep r
  · rw [if_neg q, if_neg q]; exact Paired.snoc r ⟨rfl, hb, ry⟩
theorem KN.keeps {H H' : Hp} {kvs : List (NK × V)} {xs : List (NK × Addr × Value)} (r : KN H kvs xs) (s : ∀ b xs, H b = some (.tup xs) → H' b = some (.tup xs)) : KN H' kvs xs := Paired.mapP r fun _ _ z => ⟨z.1, z.2.1.same s, z.2.2⟩
def DN (P : Program) (w : World) (H : Hp) (a : Addr) (kvs : List (NK × V)) : Prop := ∃ xs, H a = some (.ext (zes P w a xs)) ∧ KN H kvs xs ∧ kvs.length ≤ sizeLine ∧ (a == sysModules) = false
theorem DN.same {P : Program} {w : World} {H H' : Hp} {a : Addr} {kvs : List (NK × V)} (h : DN P w H a kvs) (s : Same H H') : DN P w H' a kvs := let ⟨xs, h1, h2, h3⟩ := h; ⟨xs, s _ _ h1, h2.keeps fun b xs e => s _ _ e, h3⟩
theorem DN.stay {P : Program} {w : World} {H H' : Hp} {a : Addr} {kvs : List (NK × V)} (h : DN P w H a kvs) (e : H' a = H a) (s : ∀ b xs, H b = some (.tup xs) → H' b = some (.tup xs)) : DN P w H' a kvs := let ⟨xs, h1, h2, h3⟩ := h; ⟨xs, by rw [e]; exact h1, h2.keeps s, h3⟩
theorem DN.ne {P : Program} {w : World} {H : Hp} {a b : Addr} {kvs : List (NK × V)} {xs : List V} (h : DN P w H a kvs) (e : H b = some (.tup xs)) : b ≠ a := let ⟨_, h1, _⟩ := h; ZR e h1 (fun z => nomatch z)
section
variable {P : Program} {w : World} {H : Hp} {h : Heap} {a b : Addr} {k : NK}
end
section
variable {X : Cx} {pins : List (Addr × Obj)} {σ : St} {H : Hp} {s : Shared} {a b : Addr} {v : V} {u r : Value} {A : Around} {E : Value → Shared → Prop} {kvs : List (NK × V)} {k : NK}
end
theorem ud {A : Around} {k : Nat} (hr : Room k A) : A.units + 2 < cLine := by have := hr.units; omega
section
variable {X : Cx} {o i value : Expr} {pos pos' : Pos} {td ty tv : TE}
end
def YH (P : Program) (w : World) (a : Addr) (xs : List (List Key × Addr × Value)) (ep : Nat) : Heap → Prop := fun h => ∃ o es, h.get? a = some o ∧ o.ExactDict ∧ o.data = .dict es ep ∧ es.toList = xs.map (entryOfKey (tupleKind (zX P w))) ∧ (xs.map (·.1)).Nodup
def DE (P : Program) (w : World) (H : Hp) (a : Addr) (kvs : List (List Key × V)) : Prop := ∃ xs ep, H a = some (.ext (YH P w a xs ep)) ∧ KT H kvs xs ∧ kvs.length ≤ sizeLine ∧ (a == sysModules) = false
theorem DE.same {P : Program} {w : World} {H H' : Hp} {a : Addr} {kvs : List (List Key × V)} (h : DE P w H a kvs) (s : Same H H') : DE P w H' a kvs := let ⟨xs, ep, h1, h2, h3⟩ := h; ⟨xs, ep, s _ _ h1, h2.keeps fun b xs e => s _ _ e, h3⟩
theorem DE.stay {P : Program} {w : World} {H H' : Hp} {a : Addr} {kvs : List (List Key × V)} (h : DE P w H a kvs) (e : H' a = H a) (s : ∀ b xs, H b = some (.tup xs) → H' b = some (.tup xs)) : DE P w H' a kvs := let ⟨xs, ep, h1, h2, h3⟩ := h; ⟨xs, ep, by rw [e]; exact h1, h2.keeps s, h3⟩
theorem DE.ne {P : Program} {w : World} {H : Hp} {a b : Addr} {kvs : List (List Key × V)} {xs : List V} (h : DE P w H a kvs) (e : H b = some (.tup xs)) : b ≠ a := let ⟨_, _, h1, _⟩ := h; ZR e h1 (fun z => nomatch z)
section
variable {P : Program} {w : World} {H : Hp} {h : Heap} {a b : Addr} {k : List Key}
theorem J2 {kvs : List (List Key × V)} (ok : HOk P w H h) (d : DE P w H a kvs) : ∃ xs, KT H kvs xs ∧ h.DictOfH (tupleKind (zX P w)) a xs := by
  obtain ⟨xs, ep, e, r, _, _⟩ := d
  obtain ⟨⟨o, es, h1, h2, h3, h4, h5⟩, _⟩ := (show ObjOk P w H h a (.ext (YH P w a xs ep)) from ok a _ e)
  refine ⟨xs, r, o, es, ep, h1, h2, h3, h4, ?_, h5⟩
  have all : ∀ {l : List (List Key × V)} {m : List (List Key × Addr × Value)}, KT H l m → ∀ x ∈ m, (tupleKind (zX P w)).is h x.1 x.2.1 := fun {l m} q => by
    induction q with
    | nil => intro x hx; exact nomatch hx
    | @cons p q ps qs hq t ih =>
      intro x hx
      rcases List.mem_cons.mp hx with e | hx
      · subst e
        exact W0 ok (by rw [← hq.1]; exact hq.2.1)
      · exact ih x hx
  exact all r
theorem Qn {xs : List (List Key × Addr × Value)} {ep : Nat} {h' : Heap} {H' : Hp} (p : YH P w a xs ep h') : ObjOk P w H' h' a (.ext (YH P w a xs ep)) :=
  ⟨p, let ⟨o, _, e, _⟩ := p; ⟨o, e⟩, fun h1 h2 ⟨o, es, e, c⟩ k => ⟨o, es, k _ e, c⟩⟩
end
section
variable {X : Cx} {pins : List (Addr × Obj)} {σ : St} {H : Hp} {s : Shared} {a b : Addr} {v : V} {u r : Value} {A : Around} {E : Value → Shared → Prop} {kvs : List (List Key × V)} {k : List Key}
theorem zaD {Q : Value → Shared → Prop} (hu : A.units + 2 < cLine) (I : Inv X pins σ H s) (d : DE X.prog X.w H a kvs) (t : H b = some (.tup (k.map kV))) (l : yh kvs k = some v) (h : ∀ w' s', Inv X pins σ H s' → RelV v w' → Q w' s') : wpAny (model X.prog X.w) A (getItem (.ref a) (.ref b)) Q E s := by
  obtain ⟨xs, rel, dd⟩ := J2 I.hok d
  obtain ⟨w', hw, rw'⟩ := RelO.some_of (v := v) (o := (atKey xs k).map (·.2)) (by rw [← l]; exact rel.val k)
  obtain ⟨p, hp, hp2⟩ := Option.map_eq_some_iff.mp hw
  refine wpAny_getItem_heap (knd := tupleKind (zX X.prog X.w)) (A := A) (tupleKind_room_in1 (by omega)) (W0 I.hok t) dd hp ?_
  rw [hp2]
  exact h w' _ (I.tok _) rw'
theorem zci {Q : Value → Shared → Prop} (hu : A.units + 2 < cLine) (I : Inv X pins σ H s) (d : DE X.prog X.w H a kvs) (t : H b = some (.tup (k.map kV))) (h : ∀ s', Inv X pins σ H s' → Q (.bool (!(yh kvs k).isSome)) s') : wpAny (model X.prog X.w) A (compareOp .NotIn (.ref b) (.ref a)) Q E s := by
  obtain ⟨xs, rel, dd⟩ := J2 I.hok d
  obtain ⟨_, _, _, _, _, hd⟩ := d
  refine wpAny_notIn_heap (knd := tupleKind (zX X.prog X.w)) (A := A) (tupleKind_room_in1 (by omega)) (W0 I.hok t) hd dd ?_
  have q := (rel.val k).isSome_eq
  rw [Option.isSome_map] at q
  rw [← q]
  exact h _ (I.tok _)
theorem zav {Q : Unit → Shared → Prop} (hu : A.units + 2 < cLine) (I : Inv X pins σ H s) (d : DE X.prog X.w H a kvs) (t : H b = some (.tup (k.map kV))) (hl : kvs.length < sizeLine) (rv : RelV v r)
    (h : ∀ s' H', DE X.prog X.w H' a (putK kvs k v) → (∀ b, b ≠ a → H' b = H b) → Inv X pins σ H' s' → Q () s') : wpAny (model X.prog X.w) A (setItem (.ref a) (.ref b) r) Q E s := by
  obtain ⟨xs, rel, dd⟩ := J2 I.hok d
  have nt := fun b ys => d.ne (b := b) (xs := ys)
  obtain ⟨ys, ep0, e, _, z, hd⟩ := d
  have hz : xs.length ≤ sizeLine := by rw [← Paired.length rel]; exact z
  refine wpAny_setItem_heap (knd := tupleKind (zX X.prog X.w)) (A := A) (hsz := hz) (tupleKind_room_in1 (by omega)) (W0 I.hok t) dd fun h' dd' hs => ?_
  obtain ⟨q, es, ep, hq, h2, h3, h4, _, h5⟩ := dd'
  have sm : ∀ c, c ≠ a → upd H a (.ext (YH X.prog X.w a (storedH xs k b r) ep)) c = H c := fun c hc => zr hc
  refine h _ _ ⟨storedH xs k b r, ep, zf, (rel.put k t rv).keeps fun c zs ec => by rw [zr (nt c zs ec)]; exact ec, by have := Zg kvs k v; omega, hd⟩ sm (zcg I (by rw [e]; exact True.intro) hs ⟨q, hq⟩ (Qn ⟨q, es, hq, h2, h3, h4, h5⟩))
theorem za9 (I : Inv X pins σ H s) (d : DE X.prog X.w H a kvs) : s.TypeIs (.ref a) "dict" := let ⟨_, _, dd⟩ := J2 I.hok d; dd.typeIs
end
def zcN (P : Program) (w : World) (td ty : TE) : TE := fun σ H Q => td σ H fun x H1 => ty σ H1 fun y H2 => ∃ a kvs k b v, x = .ref a ∧ DE P w H2 a kvs ∧ y = .ref b ∧ H2 b = some (.tup (k.map kV)) ∧ yh kvs k = some v ∧ Q v H2
def zbY (P : Program) (w : World) (ty td : TE) : TE := fun σ H Q => ty σ H fun y H1 => td σ H1 fun x H2 => ∃ a kvs k b, x = .ref a ∧ DE P w H2 a kvs ∧ y = .ref b ∧ H2 b = some (.tup (k.map kV)) ∧ Q (.bl (!(yh kvs k).isSome)) H2
def zdB (P : Program) (w : World) (td ty tv : TE) : TS := fun D σ H => tv σ H fun v H1 => td σ H1 fun x H2 => ty σ H2 fun y H3 => ∃ a kvs k b, x = .ref a ∧ DE P w H3 a kvs ∧ y = .ref b ∧ H3 b = some (.tup (k.map kV)) ∧ kvs.length < sizeLine ∧ ∀ H4, DE P w H4 a (putK kvs k v) → (∀ c, c ≠ a → H4 c = H3 c) → D.nx σ H4
def zdJ (P : Program) (w : World) : TE := fun _ H Q => ∀ p H', H p = none → DE P w H' p [] → (∀ c, c ≠ p → H' c = H c) → Q (.ref p) H'
section
variable {X : Cx} {o i value : Expr} {pos pos' : Pos} {td ty tv : TE}
theorem zb8 (hu : X.A.units + 2 < cLine) (ho : PE X o td) (hi : PE X i ty) (hs : zcP i) : PE X (.Subscript o i pos) (zcN X.prog X.w td ty) := by
  intro pins s σ H Q I h
  refine zcc PySem.F.slot_dict_getitem.lookup hs (thn (ho pins s σ H _ I h) fun u s1 ⟨x, H1, I1, rx, q1⟩ => thn (hi pins s1 σ H1 _ I1 q1) fun iv s2 ⟨y, H2, I2, ry, a, kvs, k, b, v, ex, d, ey, t, l, q2⟩ => ?_)
  subst ex ey
  obtain rfl : u = Value.ref a := rx
  obtain rfl : iv = Value.ref b := ry
  exact ⟨za9 I2 d, zaD hu I2 d t l fun w' s3 I3 rw' => ⟨v, H2, I3, rw', q2⟩⟩
theorem zaI (hu : X.A.units + 2 < cLine) (hi : PE X i ty) (ho : PE X o td) : PC X .NotIn i o (zbY X.prog X.w ty td) := by
  intro pins s σ H Q I h
  refine thn (hi pins s σ H _ I h) fun iv s1 ⟨y, H1, I1, ry, q1⟩ => thn (ho pins s1 σ H1 _ I1 q1) fun u s2 ⟨x, H2, I2, rx, a, kvs, k, b, ex, d, ey, t, q2⟩ => ?_
  subst ex ey
  obtain rfl : u = Value.ref a := rx
  obtain rfl : iv = Value.ref b := ry
  exact zci hu I2 d t fun s3 I3 => ⟨.bl _, H2, I3, rfl, q2⟩
theorem JT (hu : X.A.units + 2 < cLine) (ho : PE X o td) (hi : PE X i ty) (hv : PE X value tv) (hs : swapsWith value (some (.Subscript o i pos')) pos.line X.env = pure false) :
    PS X (.Assign [.Subscript o i pos'] value pos) (zdB X.prog X.w td ty tv) := by
  intro pins s σ H D I h
  refine wpAny_Assign_Subscript (thn (hv pins s σ H _ I h) fun r s1 ⟨v, H1, I1, rv, q1⟩ => thn (ho pins s1 σ H1 _ I1 q1) fun u s2 ⟨x, H2, I2, rx, q2⟩ => thn (hi pins s2 σ H2 _ I2 q2) fun iv s3 ⟨y, H3, I3, ry, a, kvs, k, b, ex, d, ey, t, hl, q3⟩ => ?_) hs
  subst ex ey
  obtain rfl : u = Value.ref a := rx
  obtain rfl : iv = Value.ref b := ry
  exact zav hu I3 d t hl rv fun s4 H4 d4 c4 I4 => ⟨σ, H4, I4, q3 H4 d4 c4⟩
theorem zac : PE X (.Dict [] [] pos) (zdJ X.prog X.w) := fun pins s σ H Q I h => by
  have p0 : YH X.prog X.w s.heap.objs.size [] 0 (s.heap.push { cls := .type "dict", data := .dict #[] }) := ⟨_, #[], Heap.get?_push_size _ rfl, ⟨rfl, rfl, rfl⟩, rfl, rfl, List.nodup_nil⟩
  have fr := I.hok.fresh (Nat.le_refl s.heap.objs.size)
  exact wpAny_Dict_empty ⟨.ref s.heap.objs.size, _, I.laid (a := s.heap.objs.size) (o := .ext (YH X.prog X.w s.heap.objs.size [] 0)) (t' := s.toks) (fun _ _ q => Heap.get?_push_of_some _ q) (Nat.le_refl _) (Qn p0), rfl, h _ _ fr ⟨[], 0, zf, .nil, Nat.zero_le _, beq_eq_false_iff_ne.mpr (Ne.symm (Nat.ne_of_lt I.big))⟩ fun c hc => zr hc⟩
end
theorem qK {X : Cx} {o i : Expr} {pos : Pos} {td ty : TE} (P : Program) (w : World) (hu : X.A.units + 2 < cLine) (ho : PE X o td) (hi : PE X i ty) (hs : zcP i) (e1 : X.prog = P := by rfl) (e2 : X.w = w := by rfl) : PE X (.Subscript o i pos) (zcN P w td ty) := by subst e1 e2; exact zb8 hu ho hi hs
section
variable {X : Cx}
abbrev zbd (K : PySem.W.Frag) (H : Hp) : List Addr → List (List Key × V) → Prop := Paired fun t kv => ∃ b, SqT K H t [.ref b, kv.2] ∧ H b = some (.tup (kv.1.map kV))
def qU (kvs more : List (List Key × V)) : List (List Key × V) := more.foldl (fun acc kv => putK acc kv.1 kv.2) kvs
theorem KT.merge {H : Hp} : ∀ {more : List (List Key × V)} {rs : List (List Key × Addr × Value)} {kvs : List (List Key × V)} {xs : List (List Key × Addr × Value)}, KT H more rs → KT H kvs xs → KT H (qU kvs more) (xH xs rs)
  | _, _, _, _, .nil, r => r
  | _, _, _, _, .cons (a := p) (b := q) h t, r => by
    show KT H (qU (putK _ p.1 p.2) _) (xH (storedH _ q.1 q.2.1 q.2.2) _)
    rw [← h.1]
    exact KT.merge t (r.put p.1 h.2.1 h.2.2)
theorem Xw {pins : List (Addr × Obj)} {s : Shared} {σ : St} {H : Hp} (I : Inv X pins σ H s) : ∀ {ts : List Addr} {kvs : List (List Key × V)} {its : List Value}, zbd X.K H ts kvs → Vals (ts.map V.ref) its →
    ∃ rs : List (List Key × Addr × Value), KT H kvs rs ∧ rs.length = its.length ∧ ∀ (i : Nat) (v : Value), its[i]? = some v → ∃ (T : Addr) (kv : List Key × Addr × Value), rs[i]? = some kv ∧ v = .ref T ∧ IsTup s.heap T #[.ref kv.2.1, kv.2.2]
  | _, _, _, .nil, r => by
    rw [List.map_nil] at r; cases r
    exact ⟨[], .nil, rfl, fun i v e => by cases e⟩
  | _, _, _, .cons (a := t) (b := kv) ⟨b, h, hb⟩ q, r => by
    rw [List.map_cons] at r
    cases r with
    | cons r1 r2 =>
      obtain ⟨rs, k1, k2, k3⟩ := Xw I q r2
      obtain ⟨its2, rv, it, _⟩ := I.tuple h
      obtain ⟨u, w', e, ru, rw'⟩ := vals2 rv
      subst e
      cases r1
      obtain rfl : u = .ref b := ru
      refine ⟨(kv.1, b, w') :: rs, .cons ⟨rfl, hb, rw'⟩ k1, by simp [k2], fun i v e => ?_⟩
      cases i with
      | zero => cases e; exact ⟨t, (kv.1, b, w'), rfl, rfl, it⟩
      | succ i => exact k3 i v e
def zbw (P : Program) (w : World) (K : PySem.W.Frag) : List V → Hp → VK → Prop := fun xs H Q => ∃ (a : Addr) (ts : List Addr) (kvs : List (List Key × V)), xs = [.ref a] ∧ SqL K H a (ts.map V.ref) ∧ zbd K H ts kvs ∧ ∀ p H', H p = none → DE P w H' p (qU [] kvs) → (∀ c, c ≠ p → H' c = H c) → Q (.ref p) H'
theorem Z1 : ∀ (more kvs : List (List Key × V)), (qU kvs more).length ≤ kvs.length + more.length
  | [], kvs => Nat.le_refl _
  | m :: more, kvs => by
    have h1 := Z1 more (putK kvs m.1 m.2)
    have h2 := Zg kvs m.1 m.2
    show (qU (putK kvs m.1 m.2) more).length ≤ _
    rw [List.length_cons]
    omega
theorem Js (hc : X.calm = true) (hu : X.A.units + 64 < cLine) : wM X (.type "dict") (zbw X.prog X.w X.K) := by
  intro pins s σ H xs us Q I r h
  obtain ⟨a, ts, kvs, rfl, hq, hp, q⟩ := h
  obtain ⟨u, rfl, rx⟩ := vals1 r
  cases rx
  obtain ⟨its, rv, ⟨o, n, e, c, d, dat⟩, hz⟩ := I.list hq
  obtain ⟨rs, k1, k2, k3⟩ := Xw I hp rv
  have hl := rv.length
  rw [hl] at hz
  have hk := Paired.length k1
  have hm : (qU [] kvs).length ≤ sizeLine := by
    have h1 := Z1 kvs []
    rw [List.length_nil] at h1
    omega
  have all : ∀ {l : List (List Key × V)} {m : List (List Key × Addr × Value)}, KT H l m → ∀ x ∈ m, IsTupleKey (zX X.prog X.w) s.heap x.1 x.2.1 := fun {l m} q => by
    induction q with
    | nil => intro x hx; exact nomatch hx
    | @cons p q ps qs hq t ih =>
      intro x hx
      rcases List.mem_cons.mp hx with e | hx
      · subst e
        exact W0 I.hok (by rw [← hq.1]; exact hq.2.1)
      · exact ih x hx
  refine Xa (knd := zX X.prog X.w) (kvs := rs) (by omega) (I.ok.hd hc) e c dat d (by simpa using k2) (by simpa using hz) (all k1) (fun i v hv => k3 i v (by simpa using hv)) fun h' tk dd k => ?_
  obtain ⟨q0, es, ep, hq0, h2, h3, h4, _, h5⟩ := dd
  have fr := I.hok.fresh (Nat.le_refl s.heap.objs.size)
  refine ⟨.ref s.heap.objs.size, _, I.laid (a := s.heap.objs.size) (o := .ext (YH X.prog X.w s.heap.objs.size (xH [] rs) ep)) (t' := tk) k (Nat.le_refl _) (Qn ⟨q0, es, hq0, h2, h3, h4, h5⟩), rfl, q _ _ fr ⟨_, ep, zf, ((k1.merge .nil).keeps fun c zs ec => by rw [zr (zx ec fr)]; exact ec), hm, beq_eq_false_iff_ne.mpr (Ne.symm (Nat.ne_of_lt I.big))⟩ fun c hc => zr hc⟩
theorem zcl (P : Program) (w : World) (K : PySem.W.Frag) (hc : X.calm = true) (hu : X.A.units + 64 < cLine) (e1 : X.prog = P := by rfl) (e2 : X.w = w := by rfl) (e : X.K = K := by rfl) : wM X (.type "dict") (zbw P w K) := by subst e e1 e2; exact Js hc hu
end
def zaC (P : Program) (w : World) (a : Addr) (xs : List (List Key × Addr × Value)) (ep : Nat) : It :=
  ⟨fun i H => H a = some (.ext (YH P w a xs ep)) ∧ i < xs.length, fun i H v H' => H' = H ∧ ∃ x, xs[i]? = some x ∧ v = .ref x.2.1, fun i H => H a = some (.ext (YH P w a xs ep)) ∧ xs.length = i⟩
theorem U3 {P : Program} {w : World} {a : Addr} {xs : List (List Key × Addr × Value)} {ep : Nat} {h : Heap} (p : YH P w a xs ep h) : HT.RawD h a (xs.map fun x => Value.ref x.2.1) ep := by
  obtain ⟨o, es, h1, h2, h3, h4, _⟩ := p
  refine ⟨o, es, h1, h2, h3, ?_⟩
  rw [h4, List.map_map]
  apply List.map_congr_left
  intro x _
  rfl
theorem zaA {P : Program} {w : World} {K : PySem.W.Frag} {tg : Expr} (a it : Addr) (xs : List (List Key × Addr × Value)) (ep : Nat) : Turn P w K tg (zaC P w a xs ep) [it] it (fun i h => h.IsKeyIter it a i xs.length ep) where
  mem := by simp
  obj := fun i h st b hb => by
    have e : b = it := by simpa using hb
    subst e
    obtain ⟨o, e, c, d⟩ := st
    exact ⟨o, e, fun v z => by rw [d] at z; cases z⟩
  keep := fun i h h' st k => by
    obtain ⟨o, e, r⟩ := st
    exact ⟨o, k it (by simp) o e, r⟩
  item := by
    intro X hP hw hK hc i pins s σ H E I hf st hg
    subst hP hw hK
    obtain ⟨ha, hi⟩ := hg
    have hr := U3 (I.hok a _ ha).1
    have hx : xs[i]? = some xs[i] := List.getElem?_eq_getElem hi
    obtain ⟨f0, f1, f2, f3, f4, f5⟩ := hf it (by simp)
    have hlen : (xs.map fun x => Value.ref x.2.1).length = xs.length := List.length_map _
    refine HT.zcs (ks := xs.map fun x => Value.ref x.2.1) (by rw [hlen]; exact st) hr (v := .ref xs[i].2.1) (by rw [List.getElem?_map, hx]; rfl) fun h' st' sb => ?_
    rw [hlen] at st'
    have I1 : Inv X pins σ H { s with heap := h' } := I.turned (t' := s.toks) (fun b o hb e => (sb.2 b hb).trans e) f0 f1 f3 f4 f5
    obtain ⟨o, e, c, d⟩ := id st'
    exact ⟨_, rfl, zai (s := { s with heap := h' }) e c d (by decide) ⟨.ref xs[i].2.1, H, I1, rfl, ⟨rfl, xs[i], hx, rfl⟩, st', fun b hb => (hf b hb).1⟩⟩
  done := by
    intro X hP hw hK hc i pins s σ H E I hf st hg
    subst hP hw hK
    obtain ⟨ha, hi⟩ := hg
    subst hi
    have hr := U3 (I.hok a _ ha).1
    obtain ⟨f0, f1, f2, f3, f4, f5⟩ := hf it (by simp)
    have hlen : (xs.map fun x => Value.ref x.2.1).length = xs.length := List.length_map _
    refine HT.zc4 (ks := xs.map fun x => Value.ref x.2.1) (I.ok.hd hc) (by rw [hlen]; exact st) hr fun h' sb => ⟨rfl, I.turned (t' := s.toks) (fun b o hb e => sb b o hb e) f0 f1 f3 f4 f5⟩
  self := fun _ _ _ _ _ st h => wpAny_pyIter_keyiter st h
def zdF (P : Program) (w : World) (tl : TE) : TI := fun σ H R => tl σ H fun x H1 => ∃ a xs ep, x = .ref a ∧ H1 a = some (.ext (YH P w a xs ep)) ∧ (a == sysModules) = false ∧ R (zaC P w a xs ep) H1
theorem Q3 {X : Cx} {tg : Expr} (P : Program) (w : World) {l : Expr} {tl : TE} (hl : PE X l tl) (e1 : X.prog = P := by rfl) (e2 : X.w = w := by rfl) : PI X tg l (zdF P w tl) := by
  subst e1 e2
  intro pins s σ H R I h
  refine thn (hl pins s σ H _ I h) fun v s1 ⟨x, H1, I1, r1, q1⟩ => ?_
  obtain ⟨a, xs, ep, e, ha, hd, q⟩ := q1
  subst e
  obtain rfl : v = .ref a := r1
  have hr := U3 (I1.hok a _ ha).1
  have hlen : (xs.map fun x => Value.ref x.2.1).length = xs.length := List.length_map _
  refine HT.zbZ hd hr ?_
  rw [hlen]
  refine ⟨s1.heap.objs.size, [s1.heap.objs.size], _, _, H1, rfl, I1.kept (t' := s1.toks) fun b o e => Heap.get?_push_of_some _ e, zaA a _ xs ep, ⟨_, Heap.get?_push_size _ rfl, rfl, rfl⟩, fun b hb => ?_, q⟩
  have e : b = s1.heap.objs.size := by simpa using hb
  subst e
  exact I1.fpOk (Nat.le_refl _) (I1.hok.fresh (Nat.le_refl _))
theorem kt_key {H : Hp} : ∀ {kvs : List (List Key × V)} {xs : List (List Key × Addr × Value)}, KT H kvs xs → ∀ {i : Nat} {x : List Key × Addr × Value}, xs[i]? = some x → ∃ kv, kvs[i]? = some kv ∧ H x.2.1 = some (.tup (kv.1.map kV))
  | _, _, .nil, i, x, e => by cases e
  | _, _, .cons (a := p) (b := q) h t, i, x, e => by
    cases i with
    | zero => cases e; exact ⟨p, rfl, h.2.1⟩
    | succ i => exact kt_key t e
theorem zbG {P : Program} {w : World} {a : Addr} {kvs : List (List Key × V)} {g : TG} {tb : TS} {D : Ends} {σ : St} {H : Hp} (d : DE P w H a kvs) (Pv : Nat → St → Hp → Prop) (h0 : Pv 0 σ H) (hl : ∀ i σ' H', i ≤ kvs.length → Pv i σ' H' → H' a = H a ∧ ∀ c zs, H c = some (.tup zs) → H' c = some (.tup zs))
    (hs : ∀ i kv p σ' H', kvs[i]? = some kv → H' p = some (.tup (kv.1.map kV)) → Pv i σ' H' → g (.ref p) σ' H' fun σ2 H2 => tb { D with nx := Pv (i + 1), ct := Pv (i + 1), bk := D.nx } σ2 H2) (hd : ∀ σ' H', Pv kvs.length σ' H' → D.nx σ' H') :
    ∃ a' xs ep, V.ref a = .ref a' ∧ H a' = some (.ext (YH P w a' xs ep)) ∧ (a' == sysModules) = false ∧ ∃ W : Nat → Nat → St → Hp → Prop, (∃ m, W 0 m σ H) ∧ ∀ i m σ H, W i m σ H →
      ((zaC P w a' xs ep).stop i H ∧ D.nx σ H) ∨ ((zaC P w a' xs ep).go i H ∧ ∃ N : St → Hp → Prop, (∀ σ' H', N σ' H' → ∃ m', m' < m ∧ W (i + 1) m' σ' H') ∧ ∀ x H', (zaC P w a' xs ep).yld i H x H' → g x σ H' fun σ2 H2 => tb { D with nx := N, ct := N, bk := D.nx } σ2 H2) := by
  obtain ⟨xs, ep, ha, kt, hz, hs0⟩ := d
  have hlen := Paired.length kt
  refine ⟨a, xs, ep, rfl, ha, hs0, fun i m σ H => m = kvs.length - i ∧ i ≤ kvs.length ∧ Pv i σ H, ⟨kvs.length, by simp, Nat.zero_le _, h0⟩, ?_⟩
  rintro i m σ' H' ⟨rfl, hi, p⟩
  obtain ⟨q1, q2⟩ := hl i σ' H' hi p
  by_cases hlt : i < kvs.length
  · refine .inr ⟨⟨by rw [q1]; exact ha, by omega⟩, Pv (i + 1), fun σ' H' p' => ⟨kvs.length - (i + 1), by omega, rfl, hlt, p'⟩, fun x H2 y => ?_⟩
    obtain ⟨e, z, hz, rfl⟩ := y
    subst e
    obtain ⟨kv, h1, h2⟩ := kt_key kt hz
    exact hs i kv _ σ' _ h1 (q2 _ _ h2) p
  · have e : i = kvs.length := by omega
    subst e
    exact .inl ⟨⟨by rw [q1]; exact ha, hlen.symm⟩, hd σ' H' p⟩
theorem zar {P : Program} {w : World} {a : Addr} {kvs : List (List Key × V)} {js : List Nat} {tt : TT} {te : TE} {σ : St} {H : Hp} {Q : VK} (d : DE P w H a kvs) (Pv : Nat → List V → Hp → Prop) (h0 : Pv 0 [] H) (hl : ∀ i ys H', i ≤ kvs.length → Pv i ys H' → H' a = H a ∧ ∀ c zs, H c = some (.tup zs) → H' c = some (.tup zs))
    (hs : ∀ i kv p ys H', kvs[i]? = some kv → H' p = some (.tup (kv.1.map kV)) → Pv i ys H' → ys.length < sizeLine ∧ tt (some (.ref p) :: yN js σ) H' fun b H2 => if b = true then te (some (.ref p) :: yN js σ) H2 fun v H3 => Pv (i + 1) (ys ++ [v]) H3 else Pv (i + 1) ys H2)
    (hd : ∀ ys H', Pv kvs.length ys H' → ∀ D, H' D = none → Q (.ref D) (upd H' D (.lst ys))) :
    ∃ a' xs ep, V.ref a = .ref a' ∧ H a' = some (.ext (YH P w a' xs ep)) ∧ (a' == sysModules) = false ∧ CompLoop (zaC P w a' xs ep) js tt te σ Q H := by
  obtain ⟨xs, ep, ha, kt, hz, hs0⟩ := d
  have hlen := Paired.length kt
  refine ⟨a, xs, ep, rfl, ha, hs0, fun i m ys H => m = kvs.length - i ∧ i ≤ kvs.length ∧ Pv i ys H, ⟨kvs.length, by simp, Nat.zero_le _, h0⟩, ?_⟩
  rintro i m ys H' ⟨rfl, hi, p⟩
  obtain ⟨q1, q2⟩ := hl i ys H' hi p
  by_cases hlt : i < kvs.length
  · have hx : xs[i]? = some (xs[i]'(by omega)) := List.getElem?_eq_getElem (by omega)
    obtain ⟨kv, h1, h2⟩ := kt_key kt hx
    obtain ⟨hz, hst⟩ := hs i kv _ ys H' h1 (q2 _ _ h2) p
    refine .inr ⟨⟨by rw [q1]; exact ha, by omega⟩, hz, Pv (i + 1), fun ys' H' p' => ⟨kvs.length - (i + 1), by omega, rfl, hlt, p'⟩, fun x H2 y => ?_⟩
    obtain ⟨e, z, hz, rfl⟩ := y
    subst e
    rw [hx] at hz
    cases hz
    exact hst
  · have e : i = kvs.length := by omega
    subst e
    exact .inl ⟨⟨by rw [q1]; exact ha, hlen.symm⟩, hd ys H' p⟩
open PySem PySem.Spec PyProof.Rows PySem.SeqAt
section
variable {X : Cx}
def zdC (K : PySem.W.Frag) : List V → Hp → VK → Prop := fun xs H Q => ∃ (a : Addr) (ns : List Int), xs = [.ref a] ∧ SqL K H a (ns.map V.int) ∧ Q (.int ns.sum) H
theorem zbg (hc : X.calm = true) : wM X (.builtin "sum") (zdC X.K) := by
  intro pins s σ H xs us Q I r h
  obtain ⟨a, ns, rfl, hq, q⟩ := h
  obtain ⟨u, rfl, rx⟩ := vals1 r
  cases rx
  obtain ⟨its, rv, pl, hz⟩ := I.list hq
  have hi := intsAre_of rv
  obtain ⟨ys, hy⟩ := hi.allInts.items
  have hn : (ys.toList.map (·.1)).sum = ns.sum := by
    have e := hi.numsOf
    have e2 := nums_intItems ys
    rw [← hy] at e2
    rw [← e, ← e2]
  refine sum_intListG (xs := ys) (I.ok.hd hc) (by rw [← hy]; exact pl.isList) fun h' tk t' hk => ?_
  refine ⟨.int ns.sum, H, I.kept fun b o e => hk b o e, ?_, q⟩
  refine ⟨t', ?_⟩
  rw [preSum_eq, List.take_of_length_le (by simp), hn]
theorem J3 (K : PySem.W.Frag) (hc : X.calm = true) (e : X.K = K := by rfl) : wM X (.builtin "sum") (zdC K) := by subst e; exact zbg hc
end
structure jo (sc : Scope) (scope : Scope) (xs : List Str) (M : List Str) (ys : List Str) (js : List Nat) : Prop where
  kind : scope.kind = .function
  cell : ∀ y ∈ scope.names, y.2 ≠ .cell
  loc : ∀ y ∈ scope.names, y.2 = .local → scope.names.lookup y.1 = some .local
  var : ∀ x ∈ xs, scope.names.lookup x = some .local
  free : ∀ y ∈ scope.names, y.2 = .free → sc.names.lookup y.1 = some .cell ∨ sc.names.lookup y.1 = some .free
  caps : js.map (M[·]?) = ys.map some
  fr : ∀ y ∈ ys, scope.names.lookup y = some .free
  nd : (xs ++ ys).Nodup
def nones (xs : List Str) : St := xs.map fun _ => none
theorem CScope.nofree {sc scope : Scope} {x : Str} {M : List Str} (kind : scope.kind = .function) (cell : ∀ y ∈ scope.names, y.2 ≠ .cell) (loc : ∀ y ∈ scope.names, y.2 = .local → scope.names.lookup y.1 = some .local) (var : scope.names.lookup x = some .local) (free : ∀ y ∈ scope.names, y.2 ≠ .free) : CScope sc scope x M [] [] :=
  ⟨kind, cell, loc, var, fun y hy e => absurd e (free y hy), rfl, by simp, by simp⟩
section
variable {X : Cx} {pins : List (Addr × Obj)} {σ : St} {H : Hp} {s : Shared}
theorem zay {scope : Scope} {xs ys : List Str} {js : List Nat} {fp : List Addr} {h₁ : Heap} {tk : Nat} {C : Addr} (I : Inv X pins σ H s) (S : jo X.env.scope scope xs X.N ys js) (hf : ∀ b ∈ fp, XM X pins H b) (ho : ∀ b ∈ fp, ∃ o, s.heap.get? b = some o)
    (hC : s.heap.objs.size ≤ C) (hk : ∀ b o, s.heap.get? b = some o → h₁.get? b = some o) (hn : h₁.Ns C fun _ => none) :
    Inv (cxC X (xs ++ ys) scope C s H fp) [] (nones xs ++ yN js σ) H { s with heap := h₁, toks := tk } := by
  have sub : ∀ y c, (xq X.env.cells scope.names []).lookup y = some c → X.env.cells.lookup y = some c := fun y c e => vf (fun _ _ z => by simp at z) e
  have has : ∀ y, scope.names.lookup y = some .free → ∃ c, (xq X.env.cells scope.names []).lookup y = some c := fun y e => by
    have m : (y, NameKind.free) ∈ scope.names := PySem.mem_of_lookup e
    exact Z5 (.inr ⟨m, I.ok.has y (S.free _ m rfl)⟩)
  have lt : ∀ b ∈ fp, b < s.heap.objs.size := fun b hb => by obtain ⟨o, e⟩ := ho b hb; exact Heap.lt_size e
  have ok : (cxC X (xs ++ ys) scope C s H fp).Ok := by
    refine ⟨I.ok.mod, S.kind, I.ok.glob, I.ok.blt, hC, fun y z c e1 e2 => I.ok.inj y z c (sub _ _ e1) (sub _ _ e2), fun y hy => ?_, fun y c z => ?_, I.ok.hd, I.ok.frames, .inl rfl, fun b hb => ?_, I.bs, Nat.le_trans I.ok.bsz I.sz, fun b o e hb => ?_, fun b hb z => ?_, I.stack, I.stkFree⟩
    · have hy' : (relabel scope X.env).names.lookup y = some .cell ∨ (relabel scope X.env).names.lookup y = some .free := hy
      have nocell : scope.names.lookup y ≠ some .cell := fun z => S.cell _ (PySem.mem_of_lookup z) rfl
      rcases hy' with e | e
      · rcases yL e with z | ⟨_, z⟩
        · exact absurd z nocell
        · exact has y z
      · rcases yL e with z | ⟨z, _⟩
        · exact has y z
        · cases z
    · exact absurd (show false = true from z) Bool.false_ne_true
    · refine ⟨Nat.ne_of_lt (Nat.lt_of_lt_of_le (lt b hb) hC), fun y c e => (hf b hb).2.2.2.2.1 y c (sub y c e)⟩
    · rcases (hf b hb).2.2.2.1 with z | z
      · exact I.ok.noex b o e z
      · exact absurd (Nat.lt_of_lt_of_le (Heap.lt_size e) (Nat.le_trans I.ok.bsz z)) (Nat.lt_irrefl _)
    · rcases List.mem_cons.mp (I.stkSub b z) with e | e
      · exact (hf b hb).2.1 e
      · exact (hf b hb).2.2.1 e
  refine ⟨ok, rfl, I.bare, Un.kept hk, ⟨_, hn, fun i y v e1 e2 e3 => ?_⟩, fun y c e => ?_, I.hok.fresh hC, fun y c e => I.freeC y c (sub y c e), fun p hp => absurd (show p ∈ ([] : List (Addr × Obj)) from hp) (by simp), I.hok.kept hk, ?_⟩
  · by_cases hix : i < xs.length
    · have z : (nones xs ++ yN js σ)[i]? = some none := by
        rw [List.getElem?_append_left (by unfold nones; rw [List.length_map]; exact hix)]
        unfold nones
        rw [List.getElem?_map, List.getElem?_eq_getElem hix]; rfl
      rw [z] at e2; cases e2
    · obtain ⟨k, rfl⟩ : ∃ k, i = xs.length + k := ⟨i - xs.length, by omega⟩
      have e1' : ys[k]? = some y := by
        have e1 : (xs ++ ys)[xs.length + k]? = some y := e1
        rw [List.getElem?_append_right (by omega), Nat.add_sub_cancel_left] at e1; exact e1
      have e2' : (yN js σ)[k]? = some (some v) := by
        rw [List.getElem?_append_right (by unfold nones; rw [List.length_map]; omega)] at e2
        unfold nones at e2
        rw [List.length_map, Nat.add_sub_cancel_left] at e2; exact e2
      obtain ⟨j, hj, hσ⟩ := QV e2'
      have hN : X.N[j]? = some y := by
        have z := congrArg (fun l => l[k]?) S.caps
        simp only [List.getElem?_map, hj, e1', Option.map_some] at z
        exact Option.some.inj z
      have hfr := S.fr y (List.mem_of_getElem? e1')
      have m : (y, NameKind.free) ∈ scope.names := PySem.mem_of_lookup hfr
      have hkind := S.free _ m rfl
      obtain ⟨m', hns, hl⟩ := I.loc
      obtain ⟨u, r, lk⟩ := hl j y v hN hσ (by rcases hkind with z | z; exact .inr (.inl z); exact .inr (.inr z))
      refine ⟨u, r, .inr ⟨?_, ?_⟩⟩
      · have e3' : (relabel scope X.env).names.lookup y = some .local ∨ (relabel scope X.env).names.lookup y = some .cell ∨ (relabel scope X.env).names.lookup y = some .free := e3
        rcases e3' with z | z | z
        · rcases yL z with q | ⟨q, _⟩
          · rw [hfr] at q; cases q
          · cases q
        · exact .inl z
        · exact .inr z
      · obtain ⟨c, hc⟩ := has y hfr
        refine ⟨c, hc, ?_⟩
        rcases lk with ⟨z, _⟩ | ⟨_, c', hc', cell⟩
        · rcases hkind with q | q
          · have q' : X.env.kindOf y = some .cell := q
            rw [show X.env.kindOf y = some .local from z] at q'; cases q'
          · have q' : X.env.kindOf y = some .free := q
            rw [show X.env.kindOf y = some .local from z] at q'; cases q'
        · rw [sub y c hc] at hc'
          cases hc'
          obtain ⟨o, e, d⟩ := cell
          exact ⟨o, hk _ _ e, d⟩
  · obtain ⟨v, o, e', d⟩ := I.cell y c (sub y c e)
    exact ⟨v, o, hk _ _ e', d⟩
  · have z := congrArg List.length S.caps
    simp only [List.length_map] at z
    show (nones xs ++ yN js σ).length = (xs ++ ys).length
    simp [yN, nones, z]
end
section
variable {prog : Program} {w : World} {A : Around} {R : Result → Shared → Prop} {s : Shared}
theorem zaz {elt target iter : Expr} {ifs : List Expr} {scope : Scope} {pos : Pos} {it acc : Value} {env : Env} {N : Value → Shared → Prop} (hN : N = notedBy (model prog w) A env fun e s' => R (.error e) s') (I : Nat → Shared → Prop)
    (turn : ∀ n s, I n s → wpAny (model prog w) A (pyNext it) (fun r s₁ => match r with
      | none => R (.ok .next) s₁
      | some v => wpAny (model prog w) A (letOwnedTupleGo target it v) (fun _ s₅ => wpAny (model prog w) A (assign target env v) (fun _ s₂ =>
          wpAny (model prog w) A (forIn ifs true fun c r => if r = true then do let ok ← isTrue c env (eval c env); pure (ForInStep.yield ok) else pure (ForInStep.yield r)) (fun ok s₃ => if ok = true then wpAny (model prog w) A (eval elt env) (fun x s₄ => wpAny (model prog w) A (call (.builtin "list.append") [acc, x]) (fun _ s₅ => ∃ m, m < n ∧ I m s₅) N s₄) N s₃ else ∃ m, m < n ∧ I m s₃) N s₂) N s₅) N s₁) N s)
    (n : Nat) (h : I n s) : codeAny (model prog w) A (.compLoop (.ListComp elt [⟨target, iter, ifs, 0⟩] scope pos) 0 it acc env) R s := by
  subst hN
  refine codeAny_loop rfl I (fun n s hI => ?_) n h
  show wpAny _ A ((compTurn (.ListComp elt [⟨target, iter, ifs, 0⟩] scope pos) 0 it acc env).onRaise (fun x => do noteFrame x env; theTreesLotGoes x)) _ _ s
  rw [compTurn_list]
  refine wpAny_noted (wpAny_bind (wpAny_standAt (wpAny_bind (wpAny_mono (turn n s hI) (fun r s₁ h₁ => ?_) fun _ _ h' => h'))))
  cases r with
  | none => exact wpAny_pure h₁
  | some v =>
    refine wpAny_bind (wpAny_mono h₁ (fun _ s₅ h₅ => wpAny_bind (wpAny_mono h₅ (fun _ s₂ h₂ => wpAny_bind (wpAny_mono h₂ (fun ok s₃ h₃ => ?_) fun _ _ h' => h')) fun _ _ h' => h')) fun _ _ h' => h')
    cases ok with
    | false => exact wpAny_pure ⟨rfl, h₃⟩
    | true => exact wpAny_bind (wpAny_bind (wpAny_mono h₃ (fun x s₄ h₄ => wpAny_bind (wpAny_mono h₄ (fun _ s₆ h₆ => wpAny_pure (wpAny_pure ⟨rfl, h₆⟩)) fun _ _ h' => h')) fun _ _ h' => h'))
end
def Y5 (J : It) (xs : List Str) (js : List Nat) (g : TG) (tt : TT) (te : TE) (σ : St) (Q : VK) (H : Hp) : Prop := ∃ W : Nat → Nat → List V → Hp → Prop, (∃ m, W 0 m [] H) ∧ ∀ i m ys H, W i m ys H →
  (J.stop i H ∧ ∀ D, H D = none → Q (.ref D) (upd H D (.lst ys))) ∨
  (J.go i H ∧ ys.length < sizeLine ∧ ∃ N : List V → Hp → Prop, (∀ ys' H', N ys' H' → ∃ m', m' < m ∧ W (i + 1) m' ys' H') ∧ ∀ x H', J.yld i H x H' → g x (nones xs ++ yN js σ) H' fun σ' H1 => (∃ vs : St, vs.length = xs.length ∧ σ' = vs ++ yN js σ) ∧ tt σ' H1 fun b H2 => if b = true then te σ' H2 fun v H3 => N (ys ++ [v]) H3 else N ys H2)
def zcR (wi : TI) (xs : List Str) (js : List Nat) (g : TG) (tt : TT) (te : TE) : TE := fun σ H Q => wi σ H fun J H1 => Y5 J xs js g tt te σ Q H1
section
variable {X : Cx} {elt iter : Expr} {ifs : List Expr} {tg : Expr} {xs : List Str} {pos : Pos} {g : TG} {scope : Scope} {ys : List Str} {js : List Nat} {wi : TI} {tt : TT} {te : TE}
theorem Q9 {pins : List (Addr × Obj)} {σ : St} {H : Hp} {s : Shared} {J : It} {fp : List Addr} {it : Addr} {tn : Nat → Heap → Prop} {Q : VK} {E : Value → Shared → Prop} {R : Value → Addr → Result → Shared → Prop}
    (S : jo X.env.scope scope xs X.N ys js) (hc : X.calm = true) (hg : ∀ C s₀ H₀ ex, PG (cxC X (xs ++ ys) scope C s₀ H₀ ex) tg g) (ht : ∀ C s₀ H₀ ex, PTs (cxC X (xs ++ ys) scope C s₀ H₀ ex) ifs tt) (he : ∀ C s₀ H₀ ex, PE (cxC X (xs ++ ys) scope C s₀ H₀ ex) elt te)
    (I : Inv X pins σ H s) (T : Turn X.prog X.w X.K tg J fp it tn) (st : tn 0 s.heap) (hf : ∀ b ∈ fp, XM X pins H b)
    (hw : ∃ W : Nat → Nat → List V → Hp → Prop, (∃ m, W 0 m [] H) ∧ ∀ i m zs H, W i m zs H →
      (J.stop i H ∧ ∀ D, H D = none → Q (.ref D) (upd H D (.lst zs))) ∨
      (J.go i H ∧ zs.length < sizeLine ∧ ∃ N : List V → Hp → Prop, (∀ ys' H', N ys' H' → ∃ m', m' < m ∧ W (i + 1) m' ys' H') ∧ ∀ x H', J.yld i H x H' → g x (nones xs ++ yN js σ) H' fun σ' H1 => (∃ vs : St, vs.length = xs.length ∧ σ' = vs ++ yN js σ) ∧ tt σ' H1 fun b H2 => if b = true then te σ' H2 fun v H3 => N (zs ++ [v]) H3 else N zs H2))
    (hR : ∀ D C s' H' m', Inv X pins σ H' s' → Q (.ref D) H' → s.heap.objs.size ≤ C → H' C = none → s'.heap.Ns C m' → R (.ref D) C (.ok .next) s') :
    wpAny (model X.prog X.w) X.A (newList []) (fun acc s₃ => wpAny (model X.prog X.w) X.A (newFunctionEnv scope X.env.globals (xq X.env.cells scope.names []) [] X.env.qual none .none (some X.env)) (fun cenv s₄ =>
      codeAny (model X.prog X.w) X.A (.compStart (.ListComp elt [⟨tg, iter, ifs, 0⟩] scope pos) 0 (.ref it) acc { cenv with scope := relabel scope X.env }) (R acc cenv.locals) s₄) E s₃) E s := by
  obtain ⟨W, ⟨m0, w0⟩, turn⟩ := hw
  refine wpAny_newObj_type (wpAny_newFunctionEnv S.cell (by intro y hy; simp at hy) (fun h₁ hns₁ hsb₁ => ?_) S.kind)
  dsimp only at hns₁ hsb₁ ⊢
  generalize hH2 : s.heap.push { cls := .type "list", dict := none, data := .seq ([] : List Value).toArray } = G at hns₁ hsb₁ ⊢
  generalize hD : s.heap.objs.size = D at *
  generalize hCe : G.objs.size = C at *
  have hC : C = D + 1 := by rw [← hCe, ← hH2, Heap.size_push, hD]
  have hDlt : D < C := by rw [hC]; exact Nat.lt_succ_self D
  have hDC : D ≠ C := Nat.ne_of_lt hDlt
  have old : ∀ b o, s.heap.get? b = some o → h₁.get? b = some o := fun b o e => by
    have hb : b < D := hD ▸ Heap.lt_size e
    exact (hsb₁.2 b (Nat.ne_of_lt (Nat.lt_trans hb hDlt))).trans (Heap.get?_push_of_some _ (hH2 ▸ Heap.get?_push_of_some _ e))
  have hacc : h₁.get? D = some { cls := .type "list", data := .seq ([] : List Value).toArray 0 } := by
    refine (hsb₁.2 D hDC).trans (Heap.get?_push_of_some _ ?_)
    rw [← hH2, ← hD]
    exact Heap.get?_push_size _ rfl
  have obj0 := T.obj 0 _ st
  have fplt : ∀ b ∈ fp, b < D := fun b hb => by obtain ⟨o, e, _⟩ := obj0 b hb; exact hD ▸ Heap.lt_size e
  generalize hX : cxC X (xs ++ ys) scope C s H fp = X'
  have I1 : Inv X' [] (nones xs ++ yN js σ) H { s with heap := h₁, toks := s.toks + ([] : List (Str × Value)).length } := by
    subst hX
    exact zay I S hf (fun b hb => by obtain ⟨o, e, _⟩ := obj0 b hb; exact ⟨o, e⟩) (by omega) old (by simpa using hns₁)
  have eP : X'.prog = X.prog := by subst hX; rfl
  have eW : X'.w = X.w := by subst hX; rfl
  have eK : X'.K = X.K := by subst hX; rfl
  have eA : X'.A = X.A := by subst hX; rfl
  have eC : X'.calm = true := by subst hX; exact hc
  have eL : X'.env.locals = C := by subst hX; rfl
  have eS : X'.s₀ = s := by subst hX; rfl
  have eN : X'.N = xs ++ ys := by subst hX; rfl
  have eE : X'.env = compEnvC scope (xq X.env.cells scope.names []) C X.env := by subst hX; rfl
  have eXe : X'.xe = fun _ _ => False := by subst hX; rfl
  have eX : X'.ex = fp := by subst hX; rfl
  have ePn : X'.pn = [] := by subst hX; rfl
  have efs : ∀ b, b ∈ X'.fs → b ∈ frs X.stack := fun b z => by subst hX; exact z
  have cellLt : ∀ y c, X'.env.cells.lookup y = some c → c < D := fun y c e => by
    have e' : (xq X.env.cells scope.names []).lookup y = some c := by rw [eE] at e; exact e
    obtain ⟨v, o, e2, _⟩ := I.cell y c (vf (fun _ _ z => by simp at z) e')
    exact hD ▸ Heap.lt_size e2
  have frLt : ∀ b, b ∈ X'.fs → b < D := fun b z => by
    rcases List.mem_cons.mp (I.stkSub b (efs b z)) with e | e
    · rw [e]; exact hD ▸ I.lt
    · exact Nat.lt_of_not_le fun h => I.nofs (hD ▸ h) e
  have fpOk : ∀ (p : List (Addr × Obj)) (H' : Hp), (∀ b ∈ fp, H' b = none) → (∀ q ∈ p, q.1 = D) → ∀ b ∈ fp, XM X' p H' b := fun p H' hn hp b hb => by
    refine ⟨hn b hb, ?_, fun z => ?_, .inl (eX ▸ hb), fun y c e => ?_, fun q hq => ?_⟩
    · rw [eL]; exact Nat.ne_of_lt (Nat.lt_trans (fplt b hb) hDlt)
    · rcases List.mem_cons.mp (I.stkSub b (efs b z)) with e | e
      · exact (hf b hb).2.1 e
      · exact (hf b hb).2.2.1 e
    · have e' : (xq X.env.cells scope.names []).lookup y = some c := by rw [eE] at e; exact e
      exact (hf b hb).2.2.2.2.1 y c (vf (fun _ _ z => by simp at z) e')
    · rw [ePn, List.nil_append] at hq
      rw [hp q hq]; exact Nat.ne_of_gt (fplt b hb)
  have noCell : ∀ (its : List Value) (k : Nat) v, ({ cls := .type "list", data := .seq its.toArray k } : Obj).data ≠ .cell v := fun its k v z => by cases z
  have done : ∀ {zs : List V} {its : List Value} {k : Nat} {H' : Hp} {s' : Shared}, Inv X' [] (nones xs ++ yN js σ) H' s' → s'.heap.get? D = some { cls := .type "list", data := .seq its.toArray k } → Vals zs its → H' D = none → zs.length ≤ sizeLine →
      (∀ D, H' D = none → Q (.ref D) (upd H' D (.lst zs))) → R (.ref D) C (.ok .next) s' := fun {zs its k H' s'} I' hd hv hn hz q => by
    have un := I'.base
    obtain ⟨m', hns, _⟩ := I'.loc
    rw [eL] at hns
    have hCn : H' C = none := by have := I'.free; rw [eL] at this; exact this
    have hH0 : X'.H₀ = H := by subst hX; rfl
    rw [hH0, eS, eX] at un
    have un2 : Un (frs X.stack) fp H (upd H' D (.lst zs)) s.heap s'.heap := by
      have ne : ∀ b o, s.heap.get? b = some o → b ≠ D := fun b o e => Nat.ne_of_lt (hD ▸ Heap.lt_size e)
      have un' : Un (frs X.stack) fp H H' s.heap s'.heap := by subst hX; exact un
      exact ⟨un'.keep, un'.slot, fun b o e n hx => by rw [zr (ne b o e)]; exact un'.free b o e n hx, un'.there, fun b xs e => by rw [zr (zx (un'.tups b xs e) hn)]; exact un'.tups b xs e,
        fun b o u e => by rw [zr (zx (un'.frzs b o u e) hn)]; exact un'.frzs b o u e, fun b ps e => by
          obtain ⟨more, z⟩ := un'.tbls b ps e
          exact ⟨more, by rw [zr (zx z hn)]; exact z⟩⟩
    have hok : HOk X.prog X.w (upd H' D (.lst zs)) s'.heap := by
      have h0 := I'.hok
      rw [eP, eW] at h0
      exact h0.track hn ⟨hz, its, k, hv, hd⟩
    have I2 : Inv X pins σ (upd H' D (.lst zs)) s' := I.call' (by have := I'.os; rw [eS] at this; exact this) un2 hok I'.bare fun b hb => ⟨(hf b hb).2.2.2.1, (hf b hb).2.1, (hf b hb).2.2.2.2.1, (hf b hb).2.2.2.2.2⟩
    exact hR D C s' _ m' I2 (q D hn) (by omega) (by rw [zr (Ne.symm hDC)]; exact hCn) hns
  have loop : codeAny (model X.prog X.w) X.A (.compLoop (.ListComp elt [⟨tg, iter, ifs, 0⟩] scope pos) 0 (.ref it) (.ref D) X'.env) (R (.ref D) C) { s with heap := h₁, toks := s.toks + ([] : List (Str × Value)).length } := by
    refine zaz rfl (fun n s' => ∃ i zs its k H', Inv X' [] (nones xs ++ yN js σ) H' s' ∧ tn i s'.heap ∧ (∀ b ∈ fp, H' b = none) ∧ s'.heap.get? D = some { cls := .type "list", data := .seq its.toArray k } ∧ Vals zs its ∧ H' D = none ∧ zs.length ≤ sizeLine ∧ W i n zs H')
      ?_ m0 ⟨0, [], [], 0, H, I1, T.keep _ _ _ st (fun b hb o e => old b o e), fun b hb => (hf b hb).1, hacc, .nil, I.hok.fresh (by omega), Nat.zero_le _, w0⟩
    rintro n s3 ⟨i, zs, its, k, H3, I3, st3, fr3, d3, v3, n3, z3, w3⟩
    have pinD : Inv X' [(D, { cls := .type "list", data := .seq its.toArray k })] (nones xs ++ yN js σ) H3 s3 := I3.pins_of fun p hp => by
      have e : p = (D, { cls := .type "list", data := .seq its.toArray k }) := by simpa using hp
      subst e
      exact ⟨d3, n3, by rw [eL]; exact hDC, fun z => Nat.lt_irrefl _ (frLt D z), noCell its k⟩
    have hpD : ∀ q ∈ [(D, ({ cls := .type "list", data := .seq its.toArray k } : Obj))], q.1 = D := fun q hq => by
      have e : q = (D, { cls := .type "list", data := .seq its.toArray k }) := by simpa using hq
      rw [e]
    rcases turn i n zs H3 w3 with ⟨stop, qn⟩ | ⟨go, hzl, NN, hNN, step⟩
    · refine thn (eA ▸ T.done X' eP eW eK eC i _ s3 _ H3 _ pinD (fpOk _ _ fr3 hpD) st3 stop) fun r s4 ⟨hr, I4⟩ => ?_
      subst hr
      exact done (I4.pins_of fun p hp => absurd hp (by simp)) (I4.pin (D, { cls := .type "list", data := .seq its.toArray k }) (List.mem_append_right _ (by simp))).1 v3 n3 z3 qn
    · refine thn (eA ▸ T.item X' eP eW eK eC i _ s3 _ H3 _ pinD (fpOk _ _ fr3 hpD) st3 go) fun r s4 ⟨u, hr, h4⟩ => ?_
      subst hr
      refine thn h4 fun _ s4 ⟨v, H5, I5, r5, y5, st5, fr5⟩ => ?_
      have I5' := I5.pinned (fpOk _ _ fr5 hpD) (T.obj _ _ st5)
      have ev : ∀ {α : Type} {t : Sem α} {Q' : α → Shared → Prop} {E' : Value → Shared → Prop} {s' : Shared}, wpAny (model X'.prog X'.w) X'.A t Q' X'.xe s' → wpAny (model X.prog X.w) X.A t Q' E' s' := fun {α t Q' E' s'} hh => by
        rw [eP, eW, eA, eXe] at hh
        exact wpAny_mono hh (fun _ _ q => q) fun _ _ z => z.elim
      have hgg : PG X' tg g := hX ▸ hg C s H fp
      refine ev (thn (hgg _ s4 _ H5 v u _ I5' r5 (step v H5 y5)) fun _ s6 ⟨σ6, H6, I6, ⟨vs6, hvl, e6⟩, q6⟩ => ?_)
      subst e6
      have back : ∀ {σ' : St} {H7 : Hp} {s7 : Shared}, Inv X' ([(D, { cls := .type "list", data := .seq its.toArray k })] ++ Zd fp s4.heap) (vs6 ++ yN js σ) H7 s7 → Inv X' [] (nones xs ++ yN js σ) H7 s7 := fun {_ H7 s7} I7 => by
        refine (I7.pins_of fun p hp => absurd hp (by simp)).weak (by rw [List.length_append, List.length_append, hvl]; unfold nones; rw [List.length_map]) fun i v' e => ?_
        by_cases hix : i < xs.length
        · have z : (nones xs ++ yN js σ)[i]? = some none := by
            rw [List.getElem?_append_left (by unfold nones; rw [List.length_map]; exact hix)]
            unfold nones
            rw [List.getElem?_map, List.getElem?_eq_getElem hix]; rfl
          rw [z] at e; cases e
        · have hn : (nones xs).length = xs.length := by unfold nones; rw [List.length_map]
          rw [List.getElem?_append_right (by omega), hn] at e
          rw [List.getElem?_append_right (by omega), hvl]
          exact e
      have fps : ∀ {σ' : St} {H7 : Hp} {s7 : Shared}, Inv X' ([(D, { cls := .type "list", data := .seq its.toArray k })] ++ Zd fp s4.heap) σ' H7 s7 → (∀ b ∈ fp, H7 b = none) ∧ (∀ b ∈ fp, ∀ o, s4.heap.get? b = some o → s7.heap.get? b = some o) ∧ s7.heap.get? D = some { cls := .type "list", data := .seq its.toArray k } ∧ H7 D = none := fun {σ' H7 s7} I7 => by
        have g : ∀ b ∈ fp, ∀ o, s4.heap.get? b = some o → s7.heap.get? b = some o ∧ H7 b = none := fun b hb o e => by
          have z := I7.pin (b, o) (List.mem_append_right _ (List.mem_append_right _ (jM hb e)))
          exact ⟨z.1, z.2.1⟩
        refine ⟨fun b hb => ?_, fun b hb o e => (g b hb o e).1, (I7.pin (D, { cls := .type "list", data := .seq its.toArray k }) (List.mem_append_right _ (by simp))).1, (I7.pin (D, { cls := .type "list", data := .seq its.toArray k }) (List.mem_append_right _ (by simp))).2.1⟩
        obtain ⟨o, e, _⟩ := T.obj _ _ st5 b hb
        exact (g b hb o e).2
      have hte : PTs X' ifs tt := hX ▸ ht C s H fp
      have hee : PE X' elt te := hX ▸ he C s H fp
      refine ev (thn (hte _ s6 _ H6 _ I6 q6) fun b s7 ⟨H7, I7, q7⟩ => ?_)
      cases b with
      | false =>
        rw [if_neg Bool.false_ne_true]
        rw [if_neg Bool.false_ne_true] at q7
        obtain ⟨m', hm, w7⟩ := hNN _ _ q7
        obtain ⟨g1, g2, g3, g4⟩ := fps I7
        exact ⟨m', hm, i + 1, zs, its, k, H7, back (σ' := []) I7, T.keep _ _ _ st5 g2, g1, g3, v3, g4, z3, w7⟩
      | true =>
        rw [if_pos rfl]
        rw [if_pos rfl] at q7
        refine ev (thn (hee _ s7 _ H7 _ I7 q7) fun u8 s8 ⟨v8, H8, I8, r8, q8⟩ => ?_)
        obtain ⟨m', hm, w8⟩ := hNN _ _ q8
        obtain ⟨g1, g2, g3, g4⟩ := fps I8
        have hil := v3.length
        refine call_meets F.slot_list_append ⟨_, g3, rfl⟩ F.entry_list_append (F.args_list_append_2 _ _) (PySem.list_append D its.toArray k u8 (by rw [List.size_toArray]; omega)) ⟨g3, ?_⟩
        have q := PySem.IsL.update g3 (fun a => a.push u8)
        have ea : its.toArray.push u8 = (its ++ [u8]).toArray := by simp
        rw [ea] at q
        have kk : ∀ b o, b ≠ D → s8.heap.get? b = some o → (s8.heap.update D (Obj.mapSeq fun a => a.push u8)).get? b = some o := fun b o hb e => (Heap.get?_update_other _ _ (Ne.symm hb)).trans e
        have I9 : Inv X' [] (nones xs ++ yN js σ) H8 { s8 with heap := s8.heap.update D (Obj.mapSeq fun a => a.push u8), toks := s8.toks } := by
          refine (back (σ' := []) I8).turned kk g4 (by rw [eL]; exact hDC) (.inr (by rw [eS]; omega)) (fun y c e => Nat.ne_of_lt (cellLt y c e)) fun p hp => ?_
          rw [ePn] at hp
          exact absurd hp (by simp)
        refine ⟨m', hm, i + 1, zs ++ [v8], its ++ [u8], _, H8, I9, T.keep _ _ _ st5 (fun b hb o e => kk b o (Nat.ne_of_lt (fplt b hb)) (g2 b hb o e)), g1, q, v3.append (.cons r8 .nil), g4, ?_, w8⟩
        rw [List.length_append, List.length_singleton]
        omega
  rw [eE] at loop
  exact codeAny_compStart_list loop (T.self _ 0 _ _ _ (T.keep _ _ _ st (fun b hb o e => old b o e)) loop)
theorem Yx (S : jo X.env.scope scope xs X.N ys js) (hc : X.calm = true) (hi : PI X tg iter wi) (hg : ∀ C s₀ H₀ ex, PG (cxC X (xs ++ ys) scope C s₀ H₀ ex) tg g) (ht : ∀ C s₀ H₀ ex, PTs (cxC X (xs ++ ys) scope C s₀ H₀ ex) ifs tt) (he : ∀ C s₀ H₀ ex, PE (cxC X (xs ++ ys) scope C s₀ H₀ ex) elt te)
    (hs : ∀ x, foldedSetIterable iter X.env x = pure x := by intro _; rfl) : PE X (.ListComp elt [⟨tg, iter, ifs, 0⟩] scope pos) (zcR wi xs js g tt te) := by
  intro pins s σ H Q I h
  rw [eval_ListComp]
  refine wpAny_comprehension_free (use := none) rfl hs (qW fun y hy e => I.ok.has _ (S.free y hy e)) S.kind S.loc (thn (hi pins s σ H _ I h) fun v s1 h1 => thn h1 fun itv s2 h2 => ?_)
  obtain ⟨it, fp, tn, J, H2, e, I2, T, st2, f2, hw⟩ := h2
  subst e
  refine Q9 (Q := Q) (R := fun acc C => compPost (model X.prog X.w) X.A X.xe none (EP X pins σ Q) acc C) S hc hg ht he I2 T st2 f2 hw ?_
  intro D C s' H' m' I' q hC hn hns
  refine ⟨m', hns, fun h' hs' => ⟨.ref D, H', ?_, rfl, q⟩⟩
  have e := I2.fpOk hC hn
  exact I'.turned (t' := s'.toks) (fun b o hb e => (hs'.2 b hb).trans e) hn e.2.1 e.2.2.2.1 e.2.2.2.2.1 e.2.2.2.2.2
end
theorem WF {K : PySem.W.Frag} {a : Addr} {xs : List V} {ns : List Str} {js : List Nat} {g : TG} {tt : TT} {te : TE} {σ : St} {H : Hp} {Q : VK} (Pv : Nat → List V → Hp → Prop) (h0 : Pv 0 [] H) (hl : ∀ i ys H, i ≤ xs.length → Pv i ys H → SqL K H a xs)
    (hs : ∀ i x ys H, xs[i]? = some x → Pv i ys H → ys.length < sizeLine ∧ g x (nones ns ++ yN js σ) H fun σ' H1 => (∃ vs : St, vs.length = ns.length ∧ σ' = vs ++ yN js σ) ∧ tt σ' H1 fun b H2 => if b = true then te σ' H2 fun v H3 => Pv (i + 1) (ys ++ [v]) H3 else Pv (i + 1) ys H2)
    (hd : ∀ ys H, Pv xs.length ys H → ∀ D, H D = none → Q (.ref D) (upd H D (.lst ys))) :
    Y5 (Itl K a) ns js g tt te σ Q H := by
  refine ⟨fun i m ys H => m = xs.length - i ∧ i ≤ xs.length ∧ Pv i ys H, ⟨xs.length, by simp, Nat.zero_le _, h0⟩, ?_⟩
  rintro i m ys H ⟨rfl, hi, p⟩
  have q := hl i ys H hi p
  by_cases hlt : i < xs.length
  · have hx : xs[i]? = some xs[i] := List.getElem?_eq_getElem hlt
    obtain ⟨hz, hst⟩ := hs i xs[i] ys H hx p
    refine .inr ⟨⟨xs, xs[i], q, hx⟩, hz, Pv (i + 1), fun ys' H' p' => ⟨xs.length - (i + 1), by omega, rfl, hlt, p'⟩, fun x H' y => ?_⟩
    obtain ⟨e, y⟩ := y
    subst e
    have e2 := y xs q
    rw [hx] at e2
    cases e2
    exact hst
  · have e : i = xs.length := by omega
    subst e
    exact .inl ⟨⟨xs, q, Nat.le_refl _⟩, hd ys H p⟩
theorem U4 {X : Cx} (K : PySem.W.Frag) {es : List Expr} {k : Nat} {t : TGs} {pos : Pos} (n : Nat) (hc : X.calm = true) (h : PGs X es t) (e : X.K = K := by rfl)
    (hn : (assignEach es X.env).length = n := by rfl) (hst : (assignEach es X.env).findIdx? (·.1) = none := by rfl) : PG X (.Tuple es k pos) (zdN K n t) := by subst e; exact Jq hc h hn hst
structure zd7 (sc : Scope) (scope : Scope) (x : Str) (M : List Str) (ys : List Str) (js : List Nat) : Prop where
  kind : scope.kind = .function
  cell : ∀ y ∈ scope.names, y.2 = .cell → y.1 = x
  loc : ∀ y ∈ scope.names, y.2 = .local → scope.names.lookup y.1 = some .local
  var : scope.names.lookup x = some .cell
  free : ∀ y ∈ scope.names, y.2 = .free → sc.names.lookup y.1 = some .cell ∨ sc.names.lookup y.1 = some .free
  caps : js.map (M[·]?) = ys.map some
  fr : ∀ y ∈ ys, scope.names.lookup y = some .free
  nd : (x :: ys).Nodup
  own : ∀ n acc, cellsFrom n scope.names acc = (x, n) :: acc
  psh : ∀ h : Heap, pushCells h scope.names = h.push { cls := .type "cell", data := .cell none }
section
variable {X : Cx} {pins : List (Addr × Obj)} {σ : St} {H : Hp} {s : Shared}
end
section
variable {X : Cx} {elt iter : Expr} {ifs : List Expr} {x : Str} {px pos : Pos} {scope : Scope} {ys : List Str} {js : List Nat} {wi : TI} {tt : TT} {te : TE}
end
def zaY (lo c : Int) (n : Nat) : It := ⟨fun i _ => i < n, fun i H x H' => H' = H ∧ x = .int (lo + i * c), fun i _ => n ≤ i⟩
theorem QC {P : Program} {w : World} {K : PySem.W.Frag} {tg : Expr} (it : Addr) (lo c : Int) (n : Nat) : Turn P w K tg (zaY lo c n) [it] it (fun i h => IsRangeIter h it (lo + (i : Nat) * c) ((n : Int) - (i : Nat)) c) where
  mem := by simp
  obj := fun i h st b hb => by
    have e : b = it := by simpa using hb
    subst e
    exact ⟨_, st, fun v z => by
      have z' : Data.fields _ = Data.cell v := z
      cases z'⟩
  keep := fun i h h' st k => k it (by simp) _ st
  item := by
    intro X hP hw hK hc i pins s σ H E I hf st hg
    subst hP hw hK
    obtain ⟨f0, f1, f2, f3, f4, f5⟩ := hf it (by simp)
    have W := Walks.range (prog := X.prog) (w := X.w) (I.ok.hd hc) it lo c n
    refine W.item i s _ _ hg st fun v h' tk hv st' kk => ?_
    obtain ⟨t, rfl⟩ := hv
    have I1 : Inv X pins σ H { s with heap := h', toks := tk } := I.turned (fun b o hb e => kk b o (by simpa using hb) e) f0 f1 f3 f4 f5
    exact ⟨_, rfl, zai (s := { s with heap := h', toks := tk }) (n := "range_iterator") st' rfl rfl (by decide) ⟨.int (lo + i * c), H, I1, ⟨t, rfl⟩, ⟨rfl, rfl⟩, st', fun b hb => (hf b hb).1⟩⟩
  done := by
    intro X hP hw hK hc i pins s σ H E I hf st hg
    subst hP hw hK
    obtain ⟨f0, f1, f2, f3, f4, f5⟩ := hf it (by simp)
    exact wpAny_pyNext_range_end (I.ok.hd hc) st (by have : n ≤ i := hg; omega) fun h' eb => ⟨rfl, I.turned (t' := s.toks) (fun b o hb e => eb b o hb e) f0 f1 f3 f4 f5⟩
  self := fun _ _ _ _ _ st h => wpAny_pyIter_rangeiter st h
section
variable {X : Cx} {tg : Expr}
theorem WT {lo c : Int} {n : Nat} {g : TG} {tb : TS} {D : Ends} {σ : St} {H : Hp} (Pv : Nat → St → Hp → Prop) (h0 : Pv 0 σ H)
    (hs : ∀ i σ H, i < n → Pv i σ H → g (.int (lo + i * c)) σ H fun σ2 H2 => tb { D with nx := Pv (i + 1), ct := Pv (i + 1), bk := D.nx } σ2 H2) (hd : ∀ σ H, Pv n σ H → D.nx σ H) :
    ∃ W : Nat → Nat → St → Hp → Prop, (∃ m, W 0 m σ H) ∧ ∀ i m σ H, W i m σ H →
      ((zaY lo c n).stop i H ∧ D.nx σ H) ∨ ((zaY lo c n).go i H ∧ ∃ N : St → Hp → Prop, (∀ σ' H', N σ' H' → ∃ m', m' < m ∧ W (i + 1) m' σ' H') ∧ ∀ x H', (zaY lo c n).yld i H x H' → g x σ H' fun σ2 H2 => tb { D with nx := N, ct := N, bk := D.nx } σ2 H2) := by
  refine ⟨fun i m σ H => m = n - i ∧ i ≤ n ∧ Pv i σ H, ⟨n, by simp, Nat.zero_le _, h0⟩, ?_⟩
  rintro i m σ H ⟨rfl, hi, p⟩
  by_cases hlt : i < n
  · refine .inr ⟨hlt, Pv (i + 1), fun σ' H' p' => ⟨n - (i + 1), by omega, rfl, hlt, p'⟩, fun x H' y => ?_⟩
    obtain ⟨e, y⟩ := y
    subst e y
    exact hs i σ _ hlt p
  · have e : i = n := by omega
    subst e
    exact .inl ⟨Nat.le_refl _, hd σ H p⟩
end
section
variable {X : Cx}
def J8 (K : PySem.W.Frag) : V → List V → Hp → VK → Prop := fun x vs H Q => ∃ l xs y ts u j, x = .ref l ∧ vs = [y] ∧ SqL K H l xs ∧ TrsAt K H ts xs ∧ TrAt K H u y ∧ yr ts ≤ 8 ∧ j < ts.length ∧
  (∀ t, ts[j]? = some t → teq t u = true) ∧ (∀ m t, m < j → ts[m]? = some t → teq t u = false) ∧ Q (.int (j : Nat)) H
open Classical in
theorem zaZ (hu : X.A.units + 64 < cLine) : MtM X "list.index" (J8 X.K) := by
  intro pins s σ H x vs v us Q I rx rv h
  obtain ⟨l, xs, y, ts, u, j, rfl, rfl, hq, hts, ht, hd, hj, hit, hno, q⟩ := h
  cases rx
  obtain ⟨u0, rfl, ru⟩ := Vals.one rv
  obtain ⟨its, r, pl, hz⟩ := I.list hq
  obtain ⟨⟨cls, dd, data, sl⟩, ho, hc, n, hdat⟩ := id pl.isList
  simp only at hc hdat
  subst hc hdat
  have l1 := hts.length
  have m1 := r.length
  have val : ∀ (m : Nat) (hm : m < its.length) (t : Tr), ts[m]? = some t → decide (∃ t x, RelV x its[m] ∧ TrAt X.K H t x ∧ teq t u = true) = teq t u := by
    intro m hm t et
    obtain ⟨z, ez, hz'⟩ := hts.get et
    obtain ⟨w, ew, rw'⟩ := r.get ez
    have e' : its[m] = w := by
      rw [List.getElem?_eq_getElem hm] at ew
      exact Option.some.inj ew
    rw [e', Bool.eq_iff_iff, decide_eq_true_iff]
    constructor
    · rintro ⟨t', x', r', h', e3⟩
      rw [rw'.inj r'] at hz'
      rw [Wx I 8 (Nat.le_trans (Zi (List.mem_of_getElem? et)) hd) hz' h']; exact e3
    · intro e3
      exact ⟨t, z, rw', hz', e3⟩
  have hjs : j < its.length := by omega
  have hsl : (sizeLine : Int) < 2 ^ 63 - 1 := by decide
  refine call_meets PySem.F.slot_list_index ⟨_, ho, rfl⟩ PySem.F.entry_list_index (PySem.F.args_list_index_2 _ _)
    (list_indexAt l its.toArray n dd sl u0 (fun y => decide (∃ t x, RelV x y ∧ TrAt X.K H t x ∧ teq t u = true)) j (by simpa using hjs) (by omega) ?_ ?_) ⟨ho, Uo I hu ht ru hd hts r, ?_⟩
  · have q := val j hjs _ (List.getElem?_eq_getElem hj)
    rw [hit _ (List.getElem?_eq_getElem hj)] at q
    simpa using q
  · intro m hm hlt
    have hm' : m < ts.length := by omega
    have q := val m (by omega) _ (List.getElem?_eq_getElem hm')
    rw [hno m _ hlt (List.getElem?_eq_getElem hm')] at q
    simpa using q
  · exact ⟨.int (j : Nat), H, I.kept fun b o e => e, ⟨_, rfl⟩, q⟩
theorem zbb (K : PySem.W.Frag) (hu : X.A.units + 64 < cLine) (e : X.K = K := by rfl) : MtM X "list.index" (J8 K) := by subst e; exact zaZ hu
end
theorem Zf {X : Cx} (K : PySem.W.Frag) {e : Expr} {f : Str} {pos : Pos} {ta : TE} (he : PE X e ta) (hb : attributeBase e f X.env (eval e X.env) = eval e X.env := by rfl) (ek : X.K = K := by rfl) : PE X (.Attribute e f pos) (zd1 K ta f) := by subst ek; exact zde he hb
structure Mt (K : PySem.W.Frag) (C : Addr) (q x : Str) (st : Stmt) (ps : List Str) (f : Addr) (fd : FuncData) : Prop where
  fn : Fun K x q st f fd
  b : Binds K fd ps []
  m : Meth K C x f
theorem jT {X : Cx} {C : Addr} {q x : Str} {st : Stmt} {ps : List Str} {f : Addr} {fd : FuncData} {k : Nat} {sp : Sp} {o e : Expr} {es : List Expr} {ta : TE} {t : TA} {apos pos : Pos} {pl : Sem Bool} (D : Mt X.K C q x st ps f fd) (c : Cls X.K C) (G : FnOk X.prog X.w X.K X.mg X.base CX0 k f fd ps sp) (hr : Room k X.A) (he : PE X o ta) (ha : PA X (e :: es) t)
    (hst : starEach (e :: es) X.env = (false, eval e X.env) :: starEach es X.env := by rfl) (hpl : (backTo pos (starEach es X.env)).any (·.1) = false := by rfl)
    (ht : eval (.Call (.Attribute o x apos) (e :: es) [] pos) X.env = (do
      let ov ← eval o X.env
      standAt apos.atName
      let (f, first) ← holding [ov] (getMethod ov x pl)
      callWith pos f first (backTo pos (starEach (e :: es) X.env)) (backToKw pos (keywordEach [] X.env))) := by rfl) : PE X (.Call (.Attribute o x apos) (e :: es) [] pos) (zcL C x sp [] E0 ta t) :=
  zcd he c D.m G hr D.b .nil zah ha hst hpl ht
structure zaG (mg : Str → Option Value) : Prop where
  n_sum : mg "sum" = none
  n_abs : mg "abs" = none
  n_zip : mg "zip" = none
  n_str : mg "str" = none
theorem zbl {a : Int} (h : -1 ≤ a) : Builtin.Range.rangeSize a (-1) (-1) = a + 1 := by
  unfold Builtin.Range.rangeSize
  rw [if_neg (by omega)]
  by_cases h1 : -1 < a
  · rw [if_pos h1, show (a - -1 - 1) = a by omega, show (- -1 : Int) = 1 from rfl, Int.ediv_one]
  · rw [if_neg h1]
    omega
theorem zcn {a : Int} (h : -1 ≤ a) (h2 : a ≤ 1000) : Builtin.Range.small a (-1) (-1) = true := by
  unfold Builtin.Range.small
  rw [zbl h]
  simp only [Builtin.Range.rangeFitsLong, Bool.and_eq_true, Bool.or_eq_true, decide_eq_true_eq, beq_iff_eq]
  first
    | omega
    | (simp; omega)
def zdD (ta : TA) : TI := fun σ H R => ta σ H fun vs H1 => ∃ i : Int, vs = [.int i, .int (-1), .int (-1)] ∧ -1 ≤ i ∧ i ≤ 1000 ∧ R (zaY i (-1) (i + 1).toNat) H1
section
variable {X : Cx} {tg : Expr}
theorem zaO {pins : List (Addr × Obj)} {σ : St} {H : Hp} {s : Shared} {R : It → Hp → Prop} {E : Value → Shared → Prop} {lo : Int} {t u v : Tok} {tk : Nat} (I : Inv X pins σ H s) (h1 : -1 ≤ lo) (h2 : lo ≤ 1000)
    (q : R (zaY lo (-1) (lo + 1).toNat) H) : wpAny (model X.prog X.w) X.A (pyIter (.ref s.heap.objs.size)) (PIE X pins σ tg R) E { s with heap := s.heap.push { cls := .type "range", data := .fields #[.int lo t, .int (-1) u, .int (-1) v] }, toks := tk } := by
  refine wpAny_pyIter_range (IsRange.new ..) (zcn h1 h2) ?_
  have I1 : Inv X pins σ H { s with heap := s.heap.push { cls := .type "range", data := .fields #[.int lo t, .int (-1) u, .int (-1) v] }, toks := tk } := I.kept fun b o e => Heap.get?_push_of_some _ e
  refine ⟨_, [(s.heap.push { cls := .type "range", data := .fields #[.int lo t, .int (-1) u, .int (-1) v] }).objs.size], _, _, H, rfl,
    I1.kept (t' := tk) fun b o e => Heap.get?_push_of_some _ e, QC _ lo (-1) (lo + 1).toNat, ?_, fun b hb => ?_, q⟩
  · have e1 : lo + ((0 : Nat) : Int) * (-1) = lo := by simp
    have e2 : (((lo + 1).toNat : Nat) : Int) - ((0 : Nat) : Int) = Builtin.Range.rangeSize lo (-1) (-1) := by rw [zbl h1]; omega
    show IsRangeIter _ _ (lo + ((0 : Nat) : Int) * (-1)) ((((lo + 1).toNat : Nat) : Int) - ((0 : Nat) : Int)) (-1)
    rw [e1, e2]
    exact Heap.get?_push_size _ rfl
  · have e : b = (s.heap.push { cls := .type "range", data := .fields #[.int lo t, .int (-1) u, .int (-1) v] }).objs.size := by simpa using hb
    subst e
    exact I1.fpOk (Nat.le_refl _) (I1.hok.fresh (Nat.le_refl _))
theorem VB {a b d : Expr} {ta : TA} {p pos : Pos} (hg : Gl X "range") (hm : X.mg "range" = none) (ha : PA X [a, b, d] ta) (hs : starEach [a, b, d] X.env = [(false, eval a X.env), (false, eval b X.env), (false, eval d X.env)] := by rfl) (hs2 : starEach [b, d] X.env = [(false, eval b X.env), (false, eval d X.env)] := by rfl) :
    PI X tg (.Call (.Name "range" p) [a, b, d] [] pos) (zdD ta) := by
  intro pins s σ H R I h
  refine Call_ (Z9 I hg hm boot_range (PyProof.Rows.callWith_type1 (thn (ha pos pins s σ H _ I h) fun us s1 ⟨vs, H1, I1, r1, q1⟩ => ?_) (by rw [hs, hs2]) (by rw [hs2]; rfl)))
  obtain ⟨i, e, q1, q2, q⟩ := q1
  subst e
  cases r1 with
  | cons r rr =>
    cases rr with
    | cons r' rr =>
      cases rr with
      | cons r'' rr =>
        cases rr
        obtain ⟨t, rfl⟩ := r
        obtain ⟨t', rfl⟩ := r'
        obtain ⟨t'', rfl⟩ := r''
        exact call_range_3 (by omega) (zaO I1 q1 q2 q) (Or.inl (PyProof.noPylong_small (by omega)))
end
section
variable {X : Cx}
end
end L2
namespace PySem.W.Fast
def tw12733840140765823545:=0
def tw11509389625229227371:=0
def tw641295295799589643:=0
def tw16968721961922101143:=0
def tw15579006780114523712:=0
def tw16301101577053851673:=0
def tw13287053636730821382:=0
def tw18142981232369763214:=0
def tw2321588459996013812:=0
def tw2776989571472973519:=0
def tw1504607515595662550:=0
def tw573790079002754409:=0
def tw1570628015707462291:=0
def tw6372609260002026631:=0
def tw3473069237983719670:=0
def tw15508892637311757488:=0
def tw2243969422592687563:=0
def tw2674519938550899498:=0
def tw4790093717230353912:=0
def tw1404128514113921176:=0
def tw16931267933855699014:=0
def tw7011456881941808253:=0
def tw8671077978218014253:=0
def tw9019461559664241147:=0
def tw16320052644991789310:=0
def tw10717288767734471475:=0
def tw18204946413841424966:=0
def tw5053009443701709206:=0
def tw5943028526954143718:=0
def tw14989422275644758187:=0
def tw1829592528948136392:=0
def tw391796510292199365:=0
def tw1971059168024815853:=0
def tw6391811162016025087:=0
def tw15553332852307539813:=0
def tw16296809667541374415:=0
def tw11181161340857155105:=0
def tw10503231082325126794:=0
def tw17290198284878058182:=0
def tw1170954586195862494:=0
def tw3974878317223827267:=0
def tw9215445409720862552:=0
def tw9527003385226625501:=0
def tw4750643370521527576:=0
def tw2864656009271528721:=0
def tw1681693818813871761:=0
def tw10557179603880867872:=0
def tw10918530241332097675:=0
def tw6866673244330447429:=0
def tw9002662795874113088:=0
def tw7372147881283684587:=0
def tw6337757786069344071:=0
def tw11523847043173131804:=0
def tw8572063121182846627:=0
def tw10127724255987281284:=0
def tw5629922310744309369:=0
def tw13546505049187172318:=0
def tw10989337524587978047:=0
def tw14310412780575302376:=0
def tw12550023628511935529:=0
def tw1101044159867282549:=0
def tw4050919928101714997:=0
def tw14484909595545799129:=0
def tw9241959511831158570:=0
def tw5917357355350929053:=0
def tw14605484631590399024:=0
def tw5282018026313629664:=0
def tw8237244402089658126:=0
def tw12143019029320994676:=0
def tw17897127951383433249:=0
def tw7443765704750821581:=0
def tw10294239218580090431:=0
def tw13898949537487550946:=0
def tw16164509526258560523:=0
def tw8758594674490328913:=0
def tw9736514286572208120:=0
def tw15168088075428844190:=0
def tw11856322989970509933:=0
def tw1428098359634363180:=0
def tw2485744539853535520:=0
def tw13511264986820789726:=0
def tw1769422792229724953:=0
def tw7103303038191626339:=0
def tw12758964931531588422:=0
def tw13547257564382128703:=0
def tw1475055564814874045:=0
def tw4386072967952196634:=0
def tw6961791955087869450:=0
def tw310739214712637881:=0
def tw12654574919967784120:=0
def tw324932799346374705:=0
def tw17147254523683109351:=0
def tw6601676896787312337:=0
def tw2120340402859755265:=0
def tw5338007223725176786:=0
def tw4818189360902082796:=0
def tw1235282488076460652:=0
def tw6735575617423254956:=0
def tw12613472927223495783:=0
def tw9520679896570183910:=0
def tw6979482045765524585:=0
def tw4955234625462864824:=0
def tw5976463792303545368:=0
def tw11105325776174787192:=0
def tw6750208477838801911:=0
def tw12177071570203792698:=0
def tw11743261980761451369:=0
def tw1207618659784506467:=0
def tw4472912157809468783:=0
def tw578039465249974529:=0
def tw1592132728522162588:=0
def tw9321184606483860102:=0
def tw14509292721222588340:=0
def tw9872335083211129446:=0
def tw240755395354150793:=0
def tw6636885509375419391:=0
def tw7073205871528168215:=0
def tw11873179758307169435:=0
def tw3152018201935315632:=0
def tw2157294404674885477:=0
def tw10150678975803109362:=0
def tw2789484717233022281:=0
def tw11569693745561326028:=0
def tw15555123856959612038:=0
def tw12805926971887745340:=0
def tw4414261937026376494:=0
def tw101794554225134200:=0
def tw5007227311594603599:=0
def tw10841557903358506115:=0
def tw3683264072417997752:=0
def tw1050841049507244460:=0
def tw10238338494445971507:=0
def tw12869098296045898950:=0
def tw11583173178981533890:=0
def tw9580184925595370565:=0
def tw14087104574847189889:=0
def tw16478927294637241290:=0
def tw9397625188033994412:=0
def tw17764998588313594134:=0
def tw17942329383693405494:=0
def tw654196208104130072:=0
def tw1569494216023710539:=0
def tw11706003208580337701:=0
def tw16250859094545100318:=0
def tw14467947820500103674:=0
def tw13751689529238151964:=0
def tw2102849934087216459:=0
def tw15471607184763871472:=0
def tw17219448911952184366:=0
def tw2161422473184565676:=0
def tw12495392763291700254:=0
def tw12905469942231257478:=0
def tw9441447392452189376:=0
def tw8294562496441384107:=0
def tw1372829754597144458:=0
def tw17163771812481219:=0
def tw495784825076481137:=0
def tw11956596804977722431:=0
def tw17560230018373975613:=0
def tw16388799251172851745:=0
def tw15570604423101930603:=0
def tw5464391290663037456:=0
def tw6074529761240937332:=0
def tw1157065113001283569:=0
def tw12426484084080002388:=0
def tw8548491616507907980:=0
def tw13042697584551687687:=0
def tw5326567611763273516:=0
def tw12686442081218499325:=0
def tw17034924547450457555:=0
def tw8305418106289992597:=0
def tw5403720533054631004:=0
def tw6027242810728547265:=0
def tw12565235324289939303:=0
def tw11876643959543159483:=0
def tw8271765651296502407:=0
def tw3088253348266472170:=0
def tw10518520682913661157:=0
def tw5457006347191573126:=0
def tw7978990268460035875:=0
def tw10183916922918427176:=0
def tw4037001767570687814:=0
def tw10906414225243297970:=0
def tw16920850191572676066:=0
def tw14075575958565549933:=0
def tw16030526365543783066:=0
def tw8288086497653628200:=0
def tw15603969082257728314:=0
def tw14664954175692405622:=0
def tw15321783763738164377:=0
def tw15667377691205391156:=0
def tw11298749350766879255:=0
def tw12982738648730860163:=0
def tw9478473212531193104:=0
def tw3322360979346775461:=0
def tw1391183715264621315:=0
def tw12944625277885789736:=0
def tw12334328101173688772:=0
def tw4485506574838555858:=0
def tw14421309151227551902:=0
def tw1078679491332601498:=0
def tw4031697530460242182:=0
def tw6597239778034349349:=0
def tw7380971223755663400:=0
def tw363750659271845865:=0
def tw4518462983970162971:=0
def tw8553086640870845661:=0
def tw17106864974594362360:=0
def tw16488024355076336467:=0
def tw10641276172121648188:=0
def tw5753259415903304253:=0
def tw10205954869241473995:=0
def tw2517736600301058273:=0
def tw402258659547963257:=0
def tw8680729615847764934:=0
def tw10739754412526446175:=0
def tw15053569206650189162:=0
def tw2407955098466172542:=0
def tw6824870167961973778:=0
def tw947311029531421425:=0
def tw7922104229437907629:=0
def tw3713674459202767878:=0
def tw17421098894769697198:=0
def tw2685589199859813204:=0
def tw5488498646523282099:=0
def tw7734590833050171672:=0
def tw16143648063932391488:=0
def tw2951201780099890066:=0
def tw16415634511299738930:=0
def tw13704162105949121776:=0
def tw1090623668667202024:=0
def tw16798285130629543064:=0
def tw8951673318915754985:=0
def tw4432740586881685959:=0
def tw5391208515019527192:=0
def tw12255304446886314938:=0
def tw7453564206130923563:=0
def tw11928572234451290925:=0
def tw16974417994385848799:=0
def tw6480780285880413280:=0
def tw7430599245926239859:=0
def tw10194841352594373097:=0
def tw11118039373618906227:=0
def tw2834433949698811778:=0
def tw1225025875336578516:=0
def tw2728617699467752694:=0
def tw3268251928956334163:=0
def tw12068339867876956221:=0
def tw14665259655758614881:=0
def tw15549990457026791423:=0
def tw7291658754470971715:=0
def tw4855155450756644530:=0
def tw92761221656899734:=0
def tw12028070549839863952:=0
def tw4459434237018327218:=0
def tw2990421724512192235:=0
def tw11602952261353625714:=0
def tw2383558278851429516:=0
def tw9524306805331627660:=0
def tw13414995393488473569:=0
def tw3167183163609963960:=0
def tw14791695251955381708:=0
def tw16413506374992566766:=0
def tw13837717597388202624:=0
def tw2627841984640963579:=0
def tw15080411067627478429:=0
def tw16075218504728017460:=0
def tw8646554125485654510:=0
def tw16048517841754873214:=0
def tw10333238732123352353:=0
def tw6747121554572716605:=0
def tw496879512350724365:=0
def tw11779231640896939917:=0
def tw3602513220455579291:=0
def tw1503719893402905196:=0
def tw1661922750997309193:=0
def tw10953886635676687634:=0
def tw2227741120700941247:=0
def tw9994991649114752972:=0
def tw11833442215014226249:=0
def tw10790658251593502096:=0
def tw5642832153834713435:=0
def tw6208717422067786181:=0
def tw11501874863170420459:=0
def tw18259243007471677430:=0
def tw6839633451072282180:=0
def tw14901068906187525781:=0
def tw7982164241447678917:=0
def tw4910551420995806416:=0
def tw10155430107513569710:=0
def tw480327304522693777:=0
def tw3111270437394989484:=0
def tw17032708063348091435:=0
def tw15160436174128819139:=0
def tw17156834518365412400:=0
def tw625370864864227690:=0
def tw5199693693965714713:=0
def tw3690356155500612809:=0
def tw18225760579249200662:=0
def tw6074880105681932037:=0
def tw6738766940684330018:=0
def tw8592449125996616877:=0
def tw16504342260187135705:=0
def tw7644341569218641546:=0
def tw5384533912492698911:=0
def tw18195696410598488225:=0
def tw17668662610827209370:=0
def tw5472282868482104259:=0
def tw10004593262690433381:=0
def tw8163411943706981859:=0
def tw8583140184482988533:=0
def tw3273936282606436091:=0
end PySem.W.Fast
namespace Lw
open PySem L2 PyProof.Rows
def top (i : Nat) : Stmt := PySem.Challenge.pw_lackstretch_k23_least_and_greatest_of_le.main.body.getD i (.Pass ⟨0, 0, 0, 0⟩)
abbrev zcj : Stmt := top 0
abbrev vZ : Stmt := top 10
abbrev qx : Stmt := top 11
abbrev ZG : Stmt := top 12
abbrev qt : Stmt := top 13
abbrev wR : Stmt := top 14
abbrev uN : Stmt := top 15
abbrev uG : Stmt := top 16
abbrev wV : Stmt := top 17
abbrev ZD : Stmt := top 18
abbrev vM : Stmt := top 19
abbrev xK : Stmt := top 20
abbrev wz : Stmt := top 21
abbrev vH : Stmt := top 23
abbrev w5 : Stmt := top 24
abbrev yc : Stmt := top 25
abbrev vI : Stmt := top 28
abbrev vL : Stmt := top 29
abbrev uD : Stmt := top 30
abbrev ur : Stmt := inClass (top 31) 0
abbrev xQ : Stmt := inClass (top 31) 1
abbrev yx : Stmt := inClass (top 31) 2
abbrev yJ : Stmt := inClass (top 31) 3
abbrev Yk : Stmt := inClass (top 31) 4
abbrev yo : Stmt := inClass (top 31) 5
abbrev xW : Stmt := inClass (top 31) 6
abbrev yP : Stmt := inClass (top 31) 7
abbrev ZM : Stmt := inClass (top 31) 8
abbrev wB : Stmt := top 33
abbrev xJ : Stmt := top 34
abbrev vN : Stmt := top 35
abbrev xN : Stmt := top 36
abbrev qG : Stmt := top 38
abbrev wu : Stmt := top 39
abbrev xg : Stmt := top 40
abbrev u9 : Stmt := top 41
abbrev wQ : Stmt := top 42
abbrev yR : Stmt := top 43
abbrev yU : Stmt := top 44
abbrev vq : Stmt := top 45
abbrev yw : Stmt := top 46
abbrev vp : Stmt := top 47
abbrev vB : Stmt := top 48
abbrev WQ : Stmt := top 49
section
variable {P : Program} {w : World} {K : PySem.W.Frag} {mg : Str → Option Value} {base : Heap}
def uE : Sp := fun vs H Q _ => ∃ i : Int, vs = [.int i] ∧ Q (.bl true) H
theorem Q4 : zB ["thing"] ["thing"] (zq vZ) := ⟨rfl, rfl, rfl, by decide +kernel, rfl, by decide +kernel, by decide +kernel⟩
theorem qz {f : Addr} {fd : FuncData} (D : Df K mg "is_whole" vZ ["thing"] f fd) (T : Blt mg) : FnOk P w K mg base CX0 1 f fd ["thing"] uE := by
  refine D.fn.ok Q4 (fun vs H Q E h => ?_) (fun cdv A outer s H vs Q E hr h => ?_)
  · obtain ⟨i, rfl, _⟩ := h; rfl
  · obtain ⟨i, rfl, q⟩ := h
    refine ⟨_, (zu (zH (jN (zA Wv (by rfl) T.n_isinstance boot_isinstance (zc (pv 0) (zc (jl (v := .ty "int") rfl T.n_int boot_int rfl) zg))) (jm (zbx (zA Wv (by rfl) T.n_isinstance boot_isinstance (zc (pv 0) (zc (jl (v := .ty "bool") rfl T.n_bool boot_bool rfl) zg)))))))), ?_⟩
    refine ⟨_, rfl, _, _, _, _, rfl, .int i, Xr, _, rfl, wO ?_⟩
    refine ⟨_, rfl, _, _, _, _, rfl, .int i, YG, _, rfl, ?_⟩
    exact q
def Yc : Sp := fun vs H Q _ => ∃ i : Int, vs = [.int i] ∧ Q (.bl (decide (2 ≤ i ∧ i ≤ 16))) H
theorem JG : zB ["thing"] ["thing"] (zq ZG) := ⟨rfl, rfl, rfl, by decide +kernel, rfl, by decide +kernel, by decide +kernel⟩
theorem Jv {f f1 : Addr} {fd fd1 : FuncData} {t1 t2 : Tok} (D : Df K mg "is_base" ZG ["thing"] f fd) (yF : Df K mg "is_whole" vZ ["thing"] f1 fd1) (T : Blt mg) (jw : mg "LEAST_BASE" = some (.int 2 t1)) (uI : mg "GREATEST_BASE" = some (.int 16 t2)) :
    FnOk P w K mg base CX0 2 f fd ["thing"] Yc := by
  have uV : FnOk P w K mg base CX0 1 f1 fd1 ["thing"] uE := qz yF T
  refine D.fn.ok JG (fun vs H Q E h => ?_) (fun cdv A outer s H vs Q E hr h => ?_)
  · obtain ⟨i, rfl, _⟩ := h; rfl
  · obtain ⟨i, rfl, q⟩ := h
    refine ⟨_, (zu (zH (jN (zJ yF uV (hr.mono (by decide)) (zc (pv 0) zg)) (jm (Vd Yw Yw (YQ (v := .int 2) rfl jw ⟨_, rfl⟩) (pv 0) (YQ (v := .int 16) rfl uI ⟨_, rfl⟩)))))), ?_⟩
    refine ⟨_, rfl, i, rfl, _, rfl, wO ?_⟩
    refine ⟨_, rfl, _, _, rfl, rfl, _, rfl, ?_⟩
    refine X6 (fun h1 => ?_) (fun h1 => ?_)
    · have h1' : (2 : Int) ≤ i := of_decide_eq_true h1
      refine ⟨_, _, rfl, rfl, ?_⟩
      rw [show decide (2 ≤ i ∧ i ≤ 16) = decide (i ≤ 16) by simp [h1']] at q
      exact q
    · have h1' : ¬ (2 : Int) ≤ i := fun z => h1 (decide_eq_true z)
      rw [show decide (2 ≤ i ∧ i ≤ 16) = false by simp [h1']] at q
      exact q
end
section
variable {P : Program} {w : World} {K : PySem.W.Frag} {mg : Str → Option Value} {base : Heap}
def ju : Sp := fun vs H Q _ => ∃ i : Int, vs = [.int i] ∧ Q (.bl (decide (0 ≤ i))) H
theorem Qe : zB ["thing"] ["thing"] (zq qx) := ⟨rfl, rfl, rfl, by decide +kernel, rfl, by decide +kernel, by decide +kernel⟩
theorem Qh {f f1 : Addr} {fd fd1 : FuncData} (D : Df K mg "is_number" qx ["thing"] f fd) (yF : Df K mg "is_whole" vZ ["thing"] f1 fd1) (T : Blt mg) :
    FnOk P w K mg base CX0 2 f fd ["thing"] ju := by
  have uV : FnOk P w K mg base CX0 1 f1 fd1 ["thing"] uE := qz yF T
  refine D.fn.ok Qe (fun vs H Q E h => ?_) (fun cdv A outer s H vs Q E hr h => ?_)
  · obtain ⟨i, rfl, _⟩ := h; rfl
  · obtain ⟨i, rfl, q⟩ := h
    refine ⟨_, (zu (zH (jN (zJ yF uV (hr.mono (by decide)) (zc (pv 0) zg)) (jm (qu zcF (pv 0) zm (zT _)))))), ?_⟩
    refine ⟨_, rfl, i, rfl, _, rfl, wO ?_⟩
    exact ⟨_, rfl, _, _, rfl, rfl, q⟩
end
structure Deck (H : Hp) (d : Addr) (fp : List Addr) : Prop where
  ex : ∃ (pp : Addr) (qs : List Addr) (i : Int), fp = d :: pp :: qs ∧ H d = some (.lst [.ref pp, .int i]) ∧ H pp = some (.lst (qs.map V.ref)) ∧ qs ≠ [] ∧ qs.length ≤ 63 ∧ ∀ q ∈ qs, ∃ a b c : Int, H q = some (.lst [.int a, .int b, .int c])
theorem Deck.there {H : Hp} {d : Addr} {fp : List Addr} (D : Deck H d fp) : ∀ b ∈ fp, H b ≠ none := by
  obtain ⟨pp, qs, i, rfl, h1, h2, _, _, h3⟩ := D.ex
  intro b hb
  rcases List.mem_cons.mp hb with e | hb
  · rw [e, h1]; simp
  · rcases List.mem_cons.mp hb with e | hb
    · rw [e, h2]; simp
    · obtain ⟨x, y, z, e⟩ := h3 b hb
      rw [e]; simp
theorem Deck.fresh {H : Hp} {d b : Addr} {fp : List Addr} (D : Deck H d fp) (h : H b = none) : b ∉ fp := fun z => D.there b z h
theorem Deck.same {H H' : Hp} {d : Addr} {fp : List Addr} (D : Deck H d fp) (s : Same H H') : Deck H' d fp := by
  obtain ⟨pp, qs, i, rfl, h1, h2, h3, h4, h5⟩ := D.ex
  exact ⟨pp, qs, i, rfl, s _ _ h1, s _ _ h2, h3, h4, fun q hq => by obtain ⟨x, y, z, e⟩ := h5 q hq; exact ⟨x, y, z, s _ _ e⟩⟩
theorem Deck.upd {H : Hp} {d l : Addr} {o : HO} {fp : List Addr} (D : Deck H d fp) (h : l ∉ fp) : Deck (L2.upd H l o) d fp := by
  obtain ⟨pp, qs, i, rfl, h1, h2, h3, h4, h5⟩ := D.ex
  have ne : ∀ b ∈ d :: pp :: qs, b ≠ l := fun b hb z => h (z ▸ hb)
  refine ⟨pp, qs, i, rfl, ?_, ?_, h3, h4, fun q hq => ?_⟩
  · rw [zr (ne d (by simp))]; exact h1
  · rw [zr (ne pp (by simp))]; exact h2
  · obtain ⟨x, y, z, e⟩ := h5 q hq
    exact ⟨x, y, z, by rw [zr (ne q (by simp [hq]))]; exact e⟩
section
variable {P : Program} {w : World} {K : PySem.W.Frag} {mg : Str → Option Value} {base : Heap}
def jz (K : PySem.W.Frag) : Sp := fun vs H Q _ => ∃ (a : Addr) (ns : List Int), vs = [.ref a] ∧ SqL K H a (ns.map V.int) ∧ ns.length ≤ 63 ∧
  ∀ d fp H', Deck H' d fp → Same H H' → (∀ b ∈ fp, H b = none) → Q (.ref d) H'
theorem vQ : zB ["script", "pools", "k", "cell"] ["script"] (zq qG) := ⟨rfl, rfl, rfl, by decide +kernel, rfl, by decide +kernel, by decide +kernel⟩
theorem Ys {f : Addr} {fd : FuncData} (D : Df K mg "_law_deck" qG ["script"] f fd) (T : Blt mg) : FnOk P w K mg base CX0 1 f fd ["script"] (jz K) := by
  refine D.fn.ok vQ (fun vs H Q E h => ?_) (fun cdv A outer s H vs Q E hr h => ?_)
  · obtain ⟨a, ns, rfl, _⟩ := h; rfl
  · obtain ⟨a, ns, rfl, hS, hlen, k⟩ := h
    refine ⟨_, (zp (zF (i := 1) vQ.nd rfl (Or.inl rfl) (zM zg))
      (zp (vY PassesOwn.never rfl (yp rfl T.n_range (zc (zA (zaU rfl) (by rfl) T.n_max boot_max (zc zm (zc (zA (VP rfl) (by rfl) T.n_min boot_min (zc zm (zc (zA uP (by rfl) T.n_len PySem.boot_len (zc (pv 0) zg)) zg))) zg))) zg)) (zY (i := 2) vQ.nd rfl (Or.inl rfl))
        (zp (zF (i := 3) vQ.nd rfl (Or.inl rfl) zm)
        (zp (xX (zO zcJ (pv 2) (zA uP (by rfl) T.n_len PySem.boot_len (zc (pv 0) zg)) (zT _))
          (zu (zF (i := 3) vQ.nd rfl (Or.inl rfl) (zP xU (pv 0) (pv 2) (fun _ _ => rfl))))
          yg)
        (zu (vO (XH PySem.F.plainAttrs_list PySem.F.slot_list_append PySem.F.type_list_append uX (pv 1) (zc (zM (zc (pv 3) (zc (uW VJ (by rfl) T.n_int boot_int (zc (qu zcF (pv 3) (zK zdg zm zm) (zT _)) zg)) (zc (zK jZ zm (pv 2)) zg)))) zg)))))))
      (zu (zH (zM (zc (pv 1) (zc zm zg))))))), ?_⟩
    refine ⟨(by decide : 0 ≤ sizeLine), fun pp hpp => ?_⟩
    have s0 : Same H (upd H pp (.lst [])) := zj hpp
    refine ⟨_, rfl, a, _, rfl, .inl (s0.seq hS), 63, (ns.length : Int), by simp, 1, _, rfl, ?_⟩
    generalize hM : (if (if (ns.length : Int) < 63 then (ns.length : Int) else 63) > 1 then (if (ns.length : Int) < 63 then (ns.length : Int) else 63) else 1) = M
    have hM1 : 1 ≤ M ∧ M ≤ 63 := by
      rw [← hM]; split <;> split <;> omega
    refine ⟨M, rfl, by omega, by omega, wF (lo := 0) (n := M.toNat) (fun i σ H2 => ∃ (qs : List Addr) (v1 v2 : Option V), σ = [some (.ref a), some (.ref pp), v1, v2] ∧ qs.length = i ∧ H2 pp = some (.lst (qs.map V.ref)) ∧ Same H H2 ∧
        (∀ q ∈ qs, H q = none ∧ ∃ a b c : Int, H2 q = some (.lst [.int a, .int b, .int c]))) ?_ ?_ ?_⟩
    · exact ⟨[], none, none, rfl, rfl, zf, s0, fun q hq => by cases hq⟩
    · rintro i σ H2 hi ⟨qs, v1, v2, rfl, hl, h1, sH, h2⟩
      have hS2 := sH.seq hS
      have put : ∀ (cell : Int) (p : Addr), H2 p = none → ∀ y z : Int, ∃ (qs' : List Addr) (v1 v2 : Option V), ([some (.ref a), some (.ref pp), some (.int (0 + (i : Int))), some (.int cell)] : L2.St) = [some (.ref a), some (.ref pp), v1, v2] ∧ qs'.length = i + 1 ∧ (upd (upd H2 p (.lst [.int cell, .int y, .int z])) pp (.lst (qs.map V.ref ++ [.ref p]))) pp = some (.lst (qs'.map V.ref)) ∧
          Same H (upd (upd H2 p (.lst [.int cell, .int y, .int z])) pp (.lst (qs.map V.ref ++ [.ref p]))) ∧ (∀ q ∈ qs', H q = none ∧ ∃ a b c : Int, (upd (upd H2 p (.lst [.int cell, .int y, .int z])) pp (.lst (qs.map V.ref ++ [.ref p]))) q = some (.lst [.int a, .int b, .int c])) := by
        intro cell p hp y z
        have npp : p ≠ pp := fun e => by rw [e, h1] at hp; cases hp
        refine ⟨qs ++ [p], _, _, rfl, by simp [hl], by rw [zf]; simp, fun b o e => ?_, fun q hq => ?_⟩
        · rw [zr (zx e hpp), zr (fun z => by have := sH b o e; rw [z, hp] at this; cases this)]; exact sH b o e
        · rcases List.mem_append.mp hq with hq | hq
          · obtain ⟨hn, a', b', c', e⟩ := h2 q hq
            have n1 : q ≠ pp := fun z => by
              rw [z, h1] at e
              have e' := Option.some.inj e
              injection e' with e'
              cases qs with
              | nil => cases hq
              | cons q0 qr => rw [List.map_cons] at e'; injection e' with e1 _; cases e1
            exact ⟨hn, a', b', c', by rw [zr n1, zr (zx e hp)]; exact e⟩
          · have e : q = p := by simpa using hq
            subst e
            exact ⟨sH.free hp, cell, y, z, by rw [zr npp, zf]⟩
      have rest : ∀ cell : Int, ∀ D : Ends, (∀ (p : Addr), H2 p = none → ∀ y z : Int, D.nx [some (.ref a), some (.ref pp), some (.int (0 + (i : Int))), some (.int cell)] (upd (upd H2 p (.lst [.int cell, .int y, .int z])) pp (.lst (qs.map V.ref ++ [.ref p])))) → True := fun _ _ _ => trivial
      refine ⟨_, rfl, _, rfl, a, _, rfl, .inl hS2, _, _, rfl, rfl, _, rfl, ?_⟩
      have fin : ∀ (cell : Int) (p : Addr), H2 p = none → True := fun _ _ _ => trivial
      refine X6 (fun hlt => ?_) (fun hge => ?_)
      · have hlt' : i < ns.length := by
          have := of_decide_eq_true hlt
          rw [List.length_map] at this
          omega
        refine ⟨_, rfl, _, rfl, a, _, _, .int (ns[i]), rfl, rfl, hS2, ?_, ?_⟩
        · rw [Int.zero_add]; exact wH (by rw [List.getElem?_map, List.getElem?_eq_getElem hlt']; rfl)
        · refine ⟨_, rfl, .inl ⟨rfl, _, SqL.of h1⟩, _, rfl, _, rfl, _, _, rfl, rfl, ⟨by decide, by decide, by decide⟩, _, _, rfl, rfl, .inr ⟨_, rfl, _, rfl, _, _, rfl, rfl, .inl ⟨by decide, by decide⟩, (by decide : 3 ≤ sizeLine), fun p hp => ?_⟩⟩
          refine ⟨pp, _, _, rfl, rfl, ?_, ?_, put _ p hp _ _⟩
          · rw [zr (fun z => by rw [← z, h1] at hp; cases hp)]; exact h1
          · rw [List.length_map, hl]; exact Nat.lt_of_lt_of_le (show i < 64 by omega) (by decide)
      · refine ⟨_, rfl, .inl ⟨rfl, _, SqL.of h1⟩, _, rfl, _, rfl, _, _, rfl, rfl, ⟨by decide, by decide, by decide⟩, _, _, rfl, rfl, .inr ⟨_, rfl, _, rfl, _, _, rfl, rfl, .inl ⟨by decide, by decide⟩, (by decide : 3 ≤ sizeLine), fun p hp => ?_⟩⟩
        refine ⟨pp, _, _, rfl, rfl, ?_, ?_, put _ p hp _ _⟩
        · rw [zr (fun z => by rw [← z, h1] at hp; cases hp)]; exact h1
        · rw [List.length_map, hl]; exact Nat.lt_of_lt_of_le (show i < 64 by omega) (by decide)
    · rintro σ H2 ⟨qs, v1, v2, rfl, hl, h1, sH, h2⟩
      refine ⟨_, rfl, (by decide : 2 ≤ sizeLine), fun d hd => ?_⟩
      have nd : ∀ b o, H2 b = some o → b ≠ d := fun b o e => zx e hd
      refine k d (d :: pp :: qs) _ ⟨pp, qs, 0, rfl, zf, ?_, ?_, by omega, fun q hq => ?_⟩ (sH.trans (zj hd)) (fun b hb => ?_)
      · rw [zr (nd _ _ h1)]; exact h1
      · intro z; rw [z] at hl; simp at hl; omega
      · obtain ⟨_, x, y, z, e⟩ := h2 q hq
        exact ⟨x, y, z, by rw [zr (nd _ _ e)]; exact e⟩
      · rcases List.mem_cons.mp hb with e | hb
        · rw [e]; exact sH.free hd
        · rcases List.mem_cons.mp hb with e | hb
          · rw [e]; exact hpp
          · exact (h2 b hb).1
end
structure Stp (fp : List Addr) (d : Addr) (H H' : Hp) : Prop where
  dk : Deck H' d fp
  sm : Same (aw fp H) (aw fp H')
theorem Stp.refl {fp : List Addr} {d : Addr} {H : Hp} (D : Deck H d fp) : Stp fp d H H := ⟨D, Same.refl _⟩
theorem Stp.trans {fp : List Addr} {d : Addr} {H H1 H2 : Hp} (a : Stp fp d H H1) (b : Stp fp d H1 H2) : Stp fp d H H2 := ⟨b.dk, a.sm.trans b.sm⟩
theorem Stp.of {fp : List Addr} {d : Addr} {H H' : Hp} (D : Deck H d fp) (s : Same H H') : Stp fp d H H' := ⟨D.same s, s.aw fp⟩
theorem Stp.free {fp : List Addr} {d p : Addr} {H H' : Hp} (a : Stp fp d H H') (h : H' p = none) : H p = none := by
  cases e : H p with
  | none => rfl
  | some o =>
    by_cases hp : p ∈ fp
    · exact absurd h (a.dk.there p hp)
    · have z := a.sm p o (by rw [zV hp]; exact e)
      rw [zV hp, h] at z; cases z
theorem Stp.get {fp : List Addr} {d p : Addr} {H H' : Hp} {o : HO} (a : Stp fp d H H') (hp : p ∉ fp) (h : H p = some o) : H' p = some o := by
  have z := a.sm p o (by rw [zV hp]; exact h)
  rw [zV hp] at z; exact z
theorem Stp.new {fp : List Addr} {d p : Addr} {H H' : Hp} {o : HO} (a : Stp fp d H H') (h : H' p = none) : Stp fp d H (upd H' p o) := a.trans (.of a.dk (zj h))
section
variable {P : Program} {w : World} {K : PySem.W.Frag} {mg : Str → Option Value} {base : Heap}
def wD : Sp := fun vs H Q _ => ∃ (d : Addr) (m : Int) (fp : List Addr), vs = [.ref d, .int m] ∧ Deck H d fp ∧ 0 < m ∧ m < 2 ^ 200 ∧
  ∀ (r : Nat) (H' : Hp), (r : Int) < m → Stp fp d H H' → Q (.int r) H'
theorem wK : zB ["deck", "many", "pool", "found", "number"] ["deck", "many"] (zq wu) := ⟨rfl, rfl, rfl, by decide +kernel, rfl, by decide +kernel, by decide +kernel⟩
theorem VV {fp : List Addr} {H : Hp} {b : Addr} {o : HO} (h : b ∈ fp) : aw fp (upd H b o) = aw fp H := by
  funext c
  by_cases hc : c ∈ fp
  · rw [Zr hc, Zr hc]
  · rw [zV hc, zV hc, zr (fun z : c = b => hc (by rw [z]; exact h))]
theorem vU {f : Addr} {fd : FuncData} (D : Df K mg "_law_draw" wu ["deck", "many"] f fd) (T : Blt mg) : FnOk P w K mg base CX0 1 f fd ["deck", "many"] wD := by
  refine D.fn.ok wK (fun vs H Q E h => ?_) (fun cdv A outer s H vs Q E hr h => ?_)
  · obtain ⟨d, m, fp, rfl, _⟩ := h; rfl
  · obtain ⟨d, m, fp, rfl, DK, hm0, hm1, k⟩ := h
    obtain ⟨pp, qs, i, rfl, h1, h2, h3, h4, h5⟩ := DK.ex
    refine ⟨_, (zp (zF (i := 2) wK.nd rfl (Or.inl rfl) (zP xU (zP xU (pv 0) zm (fun _ _ => rfl)) (zK Ym (zP xU (pv 0) zm (fun _ _ => rfl)) (zA uP (by rfl) T.n_len PySem.boot_len (zc (zP xU (pv 0) zm (fun _ _ => rfl)) zg))) (fun _ _ => rfl)))
      (zp (Wd (zK yz (zP xU (pv 0) zm (fun _ _ => rfl)) zm) (Jk (pv 0) zm set_list))
      (zp (xX (PW.pt (Qo (zO ZX (zP xU (pv 2) zm (fun _ _ => rfl)) zm (zT _)) (Wc (zO JZ (zP xU (pv 2) zm (fun _ _ => rfl)) zm (zT _)))))
        (zp (zF (i := 3) wK.nd rfl (Or.inl rfl) (zK Ym (zP xU (pv 2) zm (fun _ _ => rfl)) (pv 1)))
        (zp (Wd (zK Je (zP xU (pv 2) zm (fun _ _ => rfl)) (pv 1)) (Jk (pv 2) zm set_list))
        (zu (zH (pv 3)))))
        yg)
      (zp (Wd (zK yz (zP xU (pv 2) zm (fun _ _ => rfl)) zm) (Jk (pv 2) zm set_list))
      (zp (zF (i := 4) wK.nd rfl (Or.inl rfl) (zK Ym (zK yz (zK Ym (zP xU (pv 2) zm (fun _ _ => rfl)) zm) (zK jZ zm (zP xU (pv 2) zm (fun _ _ => rfl)))) zm))
      (zp (zF (i := 4) wK.nd rfl (Or.inl rfl) (zK Ym (zK jZ (pv 4) (pv 4)) zm))
      (zp (zF (i := 4) wK.nd rfl (Or.inl rfl) (zK Ym (zK jZ (pv 4) (zK yz (pv 4) zm)) zm))
      (zu (zH (zK Ym (zK Je (pv 4) zm) (pv 1))))))))))), ?_⟩
    have hql : 0 < qs.length := by cases qs with | nil => exact absurd rfl h3 | cons _ _ => simp
    have hj0 : 0 ≤ i % (qs.length : Int) := Int.emod_nonneg _ (by omega)
    have hj1 : i % (qs.length : Int) < qs.length := Int.emod_lt_of_pos _ (by omega)
    obtain ⟨j, hj⟩ : ∃ j : Nat, i % (qs.length : Int) = (j : Int) := ⟨(i % (qs.length : Int)).toNat, by omega⟩
    have hjl : j < qs.length := by omega
    have hq : qs[j] ∈ qs := List.getElem_mem hjl
    generalize hqe : qs[j] = q at hq
    obtain ⟨a, b, c, hqv⟩ := h5 q hq
    have e0 : atI [V.ref pp, V.int i] 0 = some (V.ref pp) := rfl
    have e1 : atI [V.ref pp, V.int i] 1 = some (V.int i) := rfl
    refine ⟨_, rfl, d, _, _, _, rfl, rfl, SqL.of h1, e0, ?_⟩
    refine ⟨_, rfl, d, _, _, _, rfl, rfl, SqL.of h1, e1, ?_⟩
    refine ⟨_, rfl, d, _, _, _, rfl, rfl, SqL.of h1, e0, pp, _, rfl, .inl (SqL.of h2), _, _, rfl, rfl, (by rw [List.length_map]; omega), ?_⟩
    refine ⟨pp, _, _, V.ref q, rfl, rfl, SqL.of h2, ?_, ?_⟩
    · rw [List.length_map, hj]
      exact wH (by rw [List.getElem?_map, List.getElem?_eq_getElem hjl, hqe]; rfl)
    refine ⟨_, rfl, d, _, _, _, rfl, rfl, SqL.of h1, e1, _, _, rfl, rfl, _, rfl, d, _, _, 1, rfl, rfl, h1, rfl, ?_⟩
    have nqd : q ≠ d := fun z => by rw [z, h1] at hqv; cases hqv
    have nqp : q ≠ pp := fun z => by
      rw [z, h2] at hqv
      injection hqv with hqv
      injection hqv with hqv
      cases qs with
      | nil => cases hq
      | cons x y => rw [List.map_cons] at hqv; injection hqv with z1 _; cases z1
    have npd : pp ≠ d := fun z => by
      rw [z, h1] at h2
      injection h2 with h2
      injection h2 with h2
      cases qs with
      | nil => cases hq
      | cons x y =>
        rw [List.map_cons] at h2
        injection h2 with _ z2
        cases y with
        | nil => cases z2
        | cons y z => rw [List.map_cons] at z2; injection z2 with z3 _; cases z3
    have hqv1 : (upd H d (.lst [V.ref pp, V.int (i + 1)])) q = some (.lst [.int a, .int b, .int c]) := by rw [zr nqd]; exact hqv
    have back : ∀ a' b' c' : Int, Deck (upd (upd H d (.lst [V.ref pp, V.int (i + 1)])) q (.lst [.int a', .int b', .int c'])) d (d :: pp :: qs) := fun a' b' c' => by
      refine ⟨pp, qs, i + 1, rfl, ?_, ?_, h3, h4, fun q' hq' => ?_⟩
      · rw [zr (Ne.symm nqd), zf]
      · rw [zr (Ne.symm nqp), zr npd]; exact h2
      · by_cases z : q' = q
        · subst z; exact ⟨a', b', c', zf⟩
        · obtain ⟨x, y, z', e⟩ := h5 q' hq'
          have n1 : q' ≠ d := fun w => by rw [w, h1] at e; cases e
          exact ⟨x, y, z', by rw [zr z, zr n1]; exact e⟩
    have kept : ∀ o, Same (aw (d :: pp :: qs) H) (aw (d :: pp :: qs) (upd (upd H d (.lst [V.ref pp, V.int (i + 1)])) q o)) := fun o => by
      rw [VV (by simp [hq]), VV (by simp)]; exact Same.refl _
    have fin : ∀ (x a' b' c' : Int), Q (.int (x % m)) (upd (upd H d (.lst [V.ref pp, V.int (i + 1)])) q (.lst [.int a', .int b', .int c'])) := fun x a' b' c' => by
      obtain ⟨r, hr⟩ := Int.eq_ofNat_of_zero_le (Int.emod_nonneg x (show m ≠ 0 by omega))
      rw [hr]
      exact k r _ (hr ▸ Int.emod_lt_of_pos x hm0) ⟨back _ _ _, kept _⟩
    refine ⟨_, rfl, q, _, _, V.int b, rfl, rfl, SqL.of hqv1, rfl, rfl, _, rfl, ?_⟩
    have rest : ∀ D : Ends, (∀ v H', D.rt v H' = Q v H') → zaS (JB (tOp (rI0 fun i j => .int (i + j)) (tOp (zbN K) (Xc 2) (tC (.int 2))) (tC (.int 1))) (zdQ (Xc 2) (tC (.int 2)) zcM))
        (zaS (JB (tOp (rI (fun _ j => 0 < j) fun i j => .int (i % j)) (tOp (rI0 fun i j => .int (i + j)) (tOp (rI (fun _ j => 0 < j) fun i j => .int (i % j)) (tOp (zbN K) (Xc 2) (tC (.int 0))) (tC (.int 99999999977))) (tOp (rI CMul fun i j => .int (i * j)) (tC (.int 700001)) (tOp (zbN K) (Xc 2) (tC (.int 2))))) (tC (.int 99999999947))) (Wf 4))
        (zaS (JB (tOp (rI (fun _ j => 0 < j) fun i j => .int (i % j)) (tOp (rI CMul fun i j => .int (i * j)) (Xc 4) (Xc 4)) (tC (.int 99999999821))) (Wf 4))
        (zaS (JB (tOp (rI (fun _ j => 0 < j) fun i j => .int (i % j)) (tOp (rI CMul fun i j => .int (i * j)) (Xc 4) (tOp (rI0 fun i j => .int (i + j)) (Xc 4) (tC (.int 19)))) (tC (.int 9999999967))) (Wf 4))
        (zdP (tOp (rI (fun _ j => 0 < j) fun i j => .int (i % j)) (tOp (rI zcK fun i j => .int (i / j)) (Xc 4) (tC (.int 13))) (Xc 1)))))) D [some (.ref d), some (.int m), some (.ref q), none, none] (upd H d (.lst [V.ref pp, V.int (i + 1)])) := by
      intro D hD
      refine ⟨_, rfl, q, _, _, V.int c, rfl, rfl, SqL.of hqv1, rfl, _, _, rfl, rfl, _, rfl, q, _, _, 2, rfl, rfl, hqv1, rfl, ?_⟩
      have hqv2 : (upd (upd H d (.lst [V.ref pp, V.int (i + 1)])) q (.lst [.int a, .int b, .int (c + 1)])) q = some (.lst [.int a, .int b, .int (c + 1)]) := zf
      refine ⟨_, rfl, q, _, _, V.int a, rfl, rfl, SqL.of hqv2, rfl, _, _, rfl, rfl, (by decide : (0 : Int) < 99999999977), ?_⟩
      refine ⟨_, rfl, q, _, _, V.int (c + 1), rfl, rfl, SqL.of hqv2, rfl, _, _, rfl, rfl, .inl ⟨by decide, by decide⟩, _, _, rfl, rfl, _, _, rfl, rfl, (by decide : (0 : Int) < 99999999947), ?_⟩
      generalize hn1 : (a % 99999999977 + 700001 * (c + 1)) % 99999999947 = n1
      have n1b : 0 ≤ n1 ∧ n1 < 99999999947 := by rw [← hn1]; exact ⟨Int.emod_nonneg _ (by decide), Int.emod_lt_of_pos _ (by decide)⟩
      refine ⟨_, rfl, _, rfl, _, _, rfl, rfl, .inl ⟨by omega, by omega⟩, _, _, rfl, rfl, (by decide : (0 : Int) < 99999999821), ?_⟩
      generalize hn2 : n1 * n1 % 99999999821 = n2
      have n2b : 0 ≤ n2 ∧ n2 < 99999999821 := by rw [← hn2]; exact ⟨Int.emod_nonneg _ (by decide), Int.emod_lt_of_pos _ (by decide)⟩
      refine ⟨_, rfl, _, rfl, _, _, rfl, rfl, _, _, rfl, rfl, .inl ⟨by omega, by omega⟩, _, _, rfl, rfl, (by decide : (0 : Int) < 9999999967), ?_⟩
      generalize hn3 : n2 * (n2 + 19) % 9999999967 = n3
      refine ⟨_, rfl, _, _, rfl, rfl, ⟨by decide, by decide⟩, _, rfl, _, _, rfl, rfl, hm0, ?_⟩
      rw [hD]
      exact fin _ _ _ _
    refine X6 (fun _ => ?_) (fun _ => ?_)
    · refine ⟨_, rfl, q, _, _, V.int a, rfl, rfl, SqL.of hqv1, rfl, _, _, rfl, rfl, _, rfl, ?_⟩
      refine X6 (fun _ => ?_) (fun _ => ?_)
      · refine ⟨_, rfl, q, _, _, V.int a, rfl, rfl, SqL.of hqv1, rfl, _, rfl, _, _, rfl, rfl, hm0, ?_⟩
        refine ⟨_, rfl, q, _, _, V.int a, rfl, rfl, SqL.of hqv1, rfl, _, rfl, _, _, rfl, rfl, ⟨hm0, hm1⟩, _, rfl, q, _, _, 0, rfl, rfl, hqv1, rfl, ?_⟩
        refine ⟨_, rfl, ?_⟩
        exact fin _ _ _ _
      · exact rest _ (fun _ _ => rfl)
    · exact rest _ (fun _ _ => rfl)
end
section
variable {P : Program} {w : World} {K : PySem.W.Frag} {mg : Str → Option Value} {base : Heap}
def jK : Sp := fun vs H Q _ => ∃ b i : Int, vs = [.int b, .int i] ∧ Q (.bl (decide (0 ≤ i ∧ i < b))) H
theorem Qf : zB ["base", "thing"] ["base", "thing"] (zq qt) := ⟨rfl, rfl, rfl, by decide +kernel, rfl, by decide +kernel, by decide +kernel⟩
theorem Qk {f f1 : Addr} {fd fd1 : FuncData} (D : Df K mg "is_figure" qt ["base", "thing"] f fd) (yF : Df K mg "is_whole" vZ ["thing"] f1 fd1) (T : Blt mg) : FnOk P w K mg base CX0 2 f fd ["base", "thing"] jK := by
  have uV : FnOk P w K mg base CX0 1 f1 fd1 ["thing"] uE := qz yF T
  refine D.fn.ok Qf (fun vs H Q E h => ?_) (fun cdv A outer s H vs Q E hr h => ?_)
  · obtain ⟨b, i, rfl, _⟩ := h; rfl
  · obtain ⟨b, i, rfl, q⟩ := h
    refine ⟨_, (zu (zH (jN (zJ yF uV (hr.mono (by decide)) (zc (pv 1) zg)) (jm (Vd Yw zcJ zm (pv 1) (pv 0)))))), ?_⟩
    refine ⟨_, rfl, i, rfl, _, rfl, wO ?_⟩
    refine ⟨_, rfl, _, _, rfl, rfl, _, rfl, ?_⟩
    refine X6 (fun h1 => ?_) (fun h1 => ?_)
    · have h1' : (0 : Int) ≤ i := of_decide_eq_true h1
      refine ⟨_, rfl, _, _, rfl, rfl, ?_⟩
      rw [show decide (0 ≤ i ∧ i < b) = decide (i < b) by simp [h1']] at q
      exact q
    · have h1' : ¬ (0 : Int) ≤ i := fun z => h1 (decide_eq_true z)
      rw [show decide (0 ≤ i ∧ i < b) = false by simp [h1']] at q
      exact q
def tQ : Sp := fun vs H Q _ => ∃ (b : Int) (a : Addr) (ns : List Int), vs = [.int b, .ref a] ∧ H a = some (.lst (ns.map V.int)) ∧ ns.length ≤ 1000 ∧ ∀ H', Same H H' → Q (.bl (ns.all fun i => decide (0 ≤ i ∧ i < b))) H'
theorem Wy : zB ["base", "thing"] ["base", "thing"] (zq wR) := ⟨rfl, rfl, rfl, by decide +kernel, rfl, by decide +kernel, by decide +kernel⟩
theorem Wn {f f1 : Addr} {fd fd1 : FuncData} (D : Df K mg "are_figures" wR ["base", "thing"] f fd) (jO : Df K mg "is_figure" qt ["base", "thing"] f1 fd1) (Yp : FnOk P w K mg base CX0 2 f1 fd1 ["base", "thing"] jK) (T : Blt mg) :
    FnOk P w K mg base CX0 3 f fd ["base", "thing"] tQ := by
  refine D.fn.ok Wy (fun vs H Q E h => ?_) (fun cdv A outer s H vs Q E hr h => ?_)
  · obtain ⟨b, a, ns, rfl, _⟩ := h; rfl
  · obtain ⟨b, a, ns, rfl, ha, hlen, kk⟩ := h
    refine ⟨_, (zu (zH (jN (zA (Q6 K) (by rfl) T.n_isinstance boot_isinstance (zc (pv 1) (zc (jl (v := .ty "list") rfl T.n_list boot_list rfl) zg))) (jm (zA (k_all K rfl) (by rfl) T.n_all boot_all (zc (xV (show CScope (zq wR) _ "each" ["base", "thing"] ["base"] [0] from ⟨rfl, by decide +kernel, by decide +kernel, rfl, by decide +kernel, rfl, by decide +kernel, by decide +kernel⟩) rfl (jX K (pv 1)) (fun _ _ _ _ => yD) (fun _ _ _ _ => (zJ jO Yp (hr.mono (by decide)) (zc (pv 1) (zc (pv 0) zg))))) zg)))))), ?_⟩
    refine ⟨_, rfl, _, _, _, _, rfl, .lst ha, Z0, _, rfl, wO ?_⟩
    refine ⟨_, rfl, a, rfl, ⟨_, SqL.of ha⟩, yO (K := K) (a := a) (xs := ns.map V.int) (fun i ys H4 => ys = ((ns.take i).map fun i => decide (0 ≤ i ∧ i < b)).map V.bl ∧ H4 = H) ⟨by simp, rfl⟩ (fun i ys H4 _ ⟨_, e⟩ => by rw [e]; exact SqL.of ha) ?_ ?_⟩
    · rintro j x ys H4 hx ⟨rfl, rfl⟩
      refine ⟨?_, ?_⟩
      · rw [List.length_map, List.length_map, List.length_take]
        exact Nat.lt_of_le_of_lt (Nat.le_trans (Nat.min_le_right _ _) hlen) (by decide)
      obtain ⟨z, hz, rfl⟩ : ∃ z, ns[j]? = some z ∧ x = V.int z := by
        rw [List.getElem?_map] at hx
        obtain ⟨z, h, e⟩ := Option.map_eq_some_iff.mp hx
        exact ⟨z, h, e.symm⟩
      unfold jf
      dsimp only
      rw [if_pos rfl]
      refine ⟨_, rfl, _, rfl, b, z, rfl, ?_, rfl⟩
      rw [List.take_succ, hz]
      simp
    · rintro ys H4 ⟨rfl, rfl⟩ Dd hD
      refine ⟨Dd, _, rfl, SqL.of zf, ?_⟩
      have q := kk _ (zj hD (o := .lst (((ns.take (ns.map V.int).length).map fun i => decide (0 ≤ i ∧ i < b)).map V.bl)))
      rw [List.length_map, List.take_length] at q ⊢
      rw [List.all_map]
      exact q
end
section
variable {P : Program} {w : World} {K : PySem.W.Frag} {mg : Str → Option Value} {base : Heap}
structure RuleAt (H : Hp) (r : Addr) (b : Nat) (bl : Addr) (zs : List (Addr × List Int)) : Prop where
  tu : H r = some (.tup [.int b, .ref bl])
  li : H bl = some (.lst (zs.map fun z => V.ref z.1))
  st : ∀ z ∈ zs, H z.1 = some (.lst (z.2.map V.int))
theorem RuleAt.same {H H' : Hp} {r bl : Addr} {b : Nat} {zs : List (Addr × List Int)} (R : RuleAt H r b bl zs) (s : Same H H') : RuleAt H' r b bl zs := ⟨s _ _ R.tu, s _ _ R.li, fun z hz => s _ _ (R.st z hz)⟩
structure Xo (b : Nat) (l : List Int) : Prop where
  ne : l ≠ []
  len : l.length ≤ 4
  fig : ∀ f ∈ l, 0 ≤ f ∧ f < b
structure yl (b : Nat) (ls : List (List Int)) : Prop where
  b2 : 2 ≤ b
  b16 : b ≤ 16
  len : ls.length ≤ 4
  st : ∀ l ∈ ls, Xo b l
  up : ls.Pairwise fun x y => HT.lexLt x y = true
theorem zaR {b : Nat} {ns : List Int} (h : ∀ f ∈ ns, 0 ≤ f ∧ f < (b : Int)) : (ns.all fun i => decide (0 ≤ i ∧ i < (b : Int))) = true := by
  rw [List.all_eq_true]; intro x hx; exact decide_eq_true (h x hx)
def qO : Sp := fun vs H Q _ => ∃ (b : Nat) (a : Addr) (ns : List Int), vs = [.int b, .ref a] ∧ H a = some (.lst (ns.map V.int)) ∧ Xo b ns ∧ ∀ H', Same H H' → Q (.bl true) H'
theorem Vt : zB ["base", "thing"] ["base", "thing"] (zq uN) := ⟨rfl, rfl, rfl, by decide +kernel, rfl, by decide +kernel, by decide +kernel⟩
theorem Vk {f f1 : Addr} {fd fd1 : FuncData} {t1 : Tok} (D : Df K mg "is_stretch" uN ["base", "thing"] f fd) (uM : Df K mg "are_figures" wR ["base", "thing"] f1 fd1) (jj : FnOk P w K mg base CX0 3 f1 fd1 ["base", "thing"] tQ) (vR : mg "LONGEST_STRETCH" = some (.int 4 t1)) (T : Blt mg) :
    FnOk P w K mg base CX0 4 f fd ["base", "thing"] qO := by
  refine D.fn.ok Vt (fun vs H Q E h => ?_) (fun cdv A outer s H vs Q E hr h => ?_)
  · obtain ⟨b, a, ns, rfl, _⟩ := h; rfl
  · obtain ⟨b, a, ns, rfl, ha, g, kk⟩ := h
    refine ⟨_, (zu (zH (jN (zJ uM jj (hr.mono (by decide)) (zc (pv 0) (zc (pv 1) zg))) (jm (Vd Yw Yw zm (zA (uL K) (by rfl) T.n_len PySem.boot_len (zc (pv 1) zg)) (YQ (v := .int 4) rfl vR ⟨_, rfl⟩)))))), ?_⟩
    have hlen := g.len
    refine ⟨_, rfl, _, rfl, b, a, ns, rfl, ha, Nat.le_trans hlen (by decide), fun H1 s1 => ?_⟩
    rw [zaR g.fig]
    refine ⟨_, rfl, wO ?_⟩
    have hpos : 0 < ns.length := List.length_pos_iff.mpr g.ne
    refine ⟨_, rfl, a, _, rfl, .inl (SqL.of (s1 _ _ ha)), _, _, rfl, rfl, _, rfl, ?_⟩
    rw [List.length_map, decide_eq_true (show (1 : Int) ≤ (ns.length : Int) by omega)]
    refine wO ?_
    refine ⟨_, _, rfl, rfl, ?_⟩
    dsimp only
    rw [decide_eq_true (show (ns.length : Int) ≤ 4 by omega)]
    exact kk H1 s1
def jt : Sp := fun vs H Q _ => ∃ (bl : Addr) (zs : List (Addr × List Int)), vs = [.ref bl] ∧ H bl = some (.lst (zs.map fun z => V.ref z.1)) ∧ (∀ z ∈ zs, H z.1 = some (.lst (z.2.map V.int))) ∧ zs.length ≤ 4 ∧ (zs.map (·.2)).Pairwise (fun x y => HT.lexLt x y = true) ∧ ∀ H', Same H H' → Q (.bl true) H'
theorem U6 : zB ["stretches"] ["stretches"] (zq uG) := ⟨rfl, rfl, rfl, by decide +kernel, rfl, by decide +kernel, by decide +kernel⟩
theorem zak {n : Nat} : (List.replicate n true).all id = true := by
  rw [List.all_eq_true]; intro x hx; exact (List.mem_replicate.mp hx).2
theorem YL {f : Addr} {fd : FuncData} (D : Df K mg "is_rising" uG ["stretches"] f fd) (T : Blt mg) : FnOk P w K mg base CX0 1 f fd ["stretches"] jt := by
  refine D.fn.ok U6 (fun vs H Q E h => ?_) (fun cdv A outer s H vs Q E hr h => ?_)
  · obtain ⟨bl, zs, rfl, _⟩ := h; rfl
  · obtain ⟨bl, zs, rfl, hb, hz, h4, up, kk⟩ := h
    have HU := Ww hr
    refine ⟨_, (zu (zH (zA (k_all K rfl) (by rfl) T.n_all boot_all (zc (xV (show CScope (zq uG) _ "k" ["stretches"] ["stretches"] [0] from ⟨rfl, by decide +kernel, by decide +kernel, rfl, by decide +kernel, rfl, by decide +kernel, by decide +kernel⟩) rfl (yp rfl T.n_range (zc (zK Zk (zA (uL K) (by rfl) T.n_len PySem.boot_len (zc (pv 0) zg)) zm) zg)) (fun _ _ _ _ => yD) (fun _ _ _ _ => (qu (zdK K HU) (zP (wL K) (pv 1) (pv 0) (fun _ _ => rfl)) (zP (wL K) (pv 1) (zK yz (pv 0) zm) (fun _ _ => rfl)) (zT _)))) zg)))), ?_⟩
    refine ⟨_, rfl, bl, _, rfl, .inl (SqL.of hb), _, _, rfl, rfl, _, rfl, ?_⟩
    rw [List.length_map]
    refine ⟨by omega, by omega, wC (lo := 0) (n := ((zs.length : Int) - 1).toNat) (fun i ys H4 => ys = (List.replicate i true).map V.bl ∧ H4 = H) ⟨by simp, rfl⟩ ?_ ?_⟩
    · rintro i ys H4 hi ⟨rfl, rfl⟩
      refine ⟨by rw [List.length_map, List.length_replicate]; exact Nat.lt_of_lt_of_le (show i < 5 by omega) (by decide), ?_⟩
      unfold jf
      dsimp only
      rw [if_pos rfl]
      have hi0 : i < zs.length := by omega
      have hi1 : i + 1 < zs.length := by omega
      have g0 : atI (zs.map fun z => V.ref z.1) (0 + (i : Int)) = some (.ref (zs[i]).1) := by rw [Int.zero_add]; exact wH (by rw [List.getElem?_map, List.getElem?_eq_getElem hi0]; rfl)
      have g1 : atI (zs.map fun z => V.ref z.1) (0 + (i : Int) + 1) = some (.ref (zs[i + 1]).1) := by rw [Int.zero_add]; exact wH (j := i + 1) (by rw [List.getElem?_map, List.getElem?_eq_getElem hi1]; rfl)
      refine ⟨_, rfl, _, rfl, bl, _, _, _, rfl, rfl, SqL.of hb, g0, ?_⟩
      refine ⟨_, rfl, _, rfl, _, _, rfl, rfl, bl, _, _, _, rfl, rfl, SqL.of hb, g1, ?_⟩
      refine ⟨_, _, _, _, rfl, rfl, SqL.of (hz _ (List.getElem_mem hi0)), SqL.of (hz _ (List.getElem_mem hi1)), ?_, rfl⟩
      rw [List.pairwise_map, List.pairwise_iff_getElem] at up
      rw [up i (i + 1) hi0 hi1 (by omega), List.replicate_succ']
      simp
    · rintro ys H4 ⟨rfl, rfl⟩ Dd hD
      refine ⟨Dd, _, rfl, SqL.of zf, ?_⟩
      rw [zak]
      exact kk _ (zj hD)
def tV : Sp := fun vs H Q _ => ∃ (b : Nat) (bl : Addr) (zs : List (Addr × List Int)), vs = [.int b, .ref bl] ∧ H bl = some (.lst (zs.map fun z => V.ref z.1)) ∧ (∀ z ∈ zs, H z.1 = some (.lst (z.2.map V.int))) ∧ yl b (zs.map (·.2)) ∧ ∀ H', Same H H' → Q (.bl true) H'
theorem Wg : zB ["base", "thing"] ["base", "thing"] (zq wV) := ⟨rfl, rfl, rfl, by decide +kernel, rfl, by decide +kernel, by decide +kernel⟩
theorem Vf {f f1 f2 : Addr} {fd fd1 fd2 : FuncData} {t1 : Tok} (D : Df K mg "is_bad_list" wV ["base", "thing"] f fd) (ql : Df K mg "is_stretch" uN ["base", "thing"] f1 fd1) (Zb : FnOk P w K mg base CX0 4 f1 fd1 ["base", "thing"] qO) (tO : Df K mg "is_rising" uG ["stretches"] f2 fd2) (ul : mg "MOST_STRETCHES" = some (.int 4 t1)) (T : Blt mg) :
    FnOk P w K mg base CX0 5 f fd ["base", "thing"] tV := by
  have Wl : FnOk P w K mg base CX0 1 f2 fd2 ["stretches"] jt := YL tO T
  refine D.fn.ok Wg (fun vs H Q E h => ?_) (fun cdv A outer s H vs Q E hr h => ?_)
  · obtain ⟨b, bl, zs, rfl, _⟩ := h; rfl
  · obtain ⟨b, bl, zs, rfl, hb, hz, g, kk⟩ := h
    have h4 : zs.length ≤ 4 := by have := g.len; rwa [List.length_map] at this
    refine ⟨_, (zp (xX (PW.pt (VR (Zo (tL (zA (Q6 K) (by rfl) T.n_isinstance boot_isinstance (zc (pv 1) (zc (jl (v := .ty "list") rfl T.n_list boot_list rfl) zg))))) (Xd (zO JZ (zA (uL K) (by rfl) T.n_len PySem.boot_len (zc (pv 1) zg)) (YQ (v := .int 4) rfl ul ⟨_, rfl⟩) (zT _)))))
        (zu (zH WP))
        yg)
      (zu (zH (jN (zA (k_all K rfl) (by rfl) T.n_all boot_all (zc (xV (show CScope (zq wV) _ "each" ["base", "thing"] ["base"] [0] from ⟨rfl, by decide +kernel, by decide +kernel, rfl, by decide +kernel, rfl, by decide +kernel, by decide +kernel⟩) rfl (jX K (pv 1)) (fun _ _ _ _ => yD) (fun _ _ _ _ => (zJ ql Zb (hr.mono (by decide)) (zc (pv 1) (zc (pv 0) zg))))) zg)) (jm (zJ tO Wl (hr.mono (by decide)) (zc (pv 1) zg))))))), ?_⟩
    refine ⟨_, rfl, _, _, _, _, rfl, .lst hb, Z0, _, rfl, xT ?_⟩
    refine ⟨_, rfl, bl, _, rfl, .inl (SqL.of hb), _, _, rfl, rfl, _, rfl, ?_⟩
    rw [List.length_map, decide_eq_false (show ¬ (4 : Int) < (zs.length : Int) by omega)]
    refine xT ?_
    refine ⟨_, rfl, bl, rfl, ⟨_, SqL.of hb⟩, yO (K := K) (a := bl) (xs := zs.map fun z => V.ref z.1) (fun i ys H4 => ys = (List.replicate i true).map V.bl ∧ Same H H4) ⟨by simp, Same.refl _⟩ (fun i ys H4 _ ⟨_, e⟩ => SqL.of (e _ _ hb)) ?_ ?_⟩
    · rintro j x ys H4 hx ⟨rfl, s4⟩
      rw [List.getElem?_map] at hx
      obtain ⟨z, hzj, e⟩ := Option.map_eq_some_iff.mp hx
      subst e
      have hzm := List.mem_of_getElem? hzj
      have hj : j < zs.length := (List.getElem?_eq_some_iff.mp hzj).1
      refine ⟨by rw [List.length_map, List.length_replicate]; exact Nat.lt_of_lt_of_le (show j < 5 by omega) (by decide), ?_⟩
      unfold jf
      dsimp only
      rw [if_pos rfl]
      refine ⟨_, rfl, _, rfl, b, z.1, z.2, rfl, s4 _ _ (hz z hzm), g.st _ (List.mem_map.mpr ⟨z, hzm, rfl⟩), fun H5 s5 => ⟨?_, s4.trans s5⟩⟩
      rw [List.replicate_succ']; simp
    · rintro ys H4 ⟨rfl, s4⟩ Dd hD
      refine ⟨Dd, _, rfl, SqL.of zf, ?_⟩
      rw [zak]
      have s5 := s4.trans (zj hD (o := .lst ((List.replicate (zs.map fun z => V.ref z.1).length true).map V.bl)))
      refine ⟨_, rfl, wO ?_⟩
      exact ⟨_, rfl, bl, zs, rfl, s5 _ _ hb, fun z hzm => s5 _ _ (hz z hzm), h4, g.up, fun H6 s6 => kk H6 (s5.trans s6)⟩
def Yl : Sp := fun vs H Q _ => ∃ (r : Addr) (b : Nat) (bl : Addr) (zs : List (Addr × List Int)), vs = [.ref r] ∧ RuleAt H r b bl zs ∧ yl b (zs.map (·.2)) ∧ ∀ H', Same H H' → Q (.bl true) H'
theorem JR : zB ["thing"] ["thing"] (zq ZD) := ⟨rfl, rfl, rfl, by decide +kernel, rfl, by decide +kernel, by decide +kernel⟩
theorem JP {f f1 f2 : Addr} {fd fd1 fd2 : FuncData} (D : Df K mg "is_rule" ZD ["thing"] f fd) (Yy : Df K mg "is_base" ZG ["thing"] f1 fd1) (WY : FnOk P w K mg base CX0 2 f1 fd1 ["thing"] Yc) (uQ : Df K mg "is_bad_list" wV ["base", "thing"] f2 fd2) (jJ : FnOk P w K mg base CX0 5 f2 fd2 ["base", "thing"] tV) (T : Blt mg) :
    FnOk P w K mg base CX0 6 f fd ["thing"] Yl := by
  refine D.fn.ok JR (fun vs H Q E h => ?_) (fun cdv A outer s H vs Q E hr h => ?_)
  · obtain ⟨r, b, bl, zs, rfl, _⟩ := h; rfl
  · obtain ⟨r, b, bl, zs, rfl, R, g, kk⟩ := h
    have b2 := g.b2
    have b16 := g.b16
    refine ⟨_, (zp (xX (PW.pt (VR (Zo (tL (zA (Q6 K) (by rfl) T.n_isinstance boot_isinstance (zc (pv 0) (zc (jl (v := .ty "tuple") rfl T.n_tuple boot_tuple rfl) zg))))) (Xd (zO zdG (zA (uL K) (by rfl) T.n_len PySem.boot_len (zc (pv 0) zg)) zm (zT _)))))
        (zu (zH WP))
        yg)
      (zu (zH (jN (zJ Yy WY (hr.mono (by decide)) (zc (zP (vD K) (pv 0) zm (fun _ _ => rfl)) zg)) (jm (zJ uQ jJ (hr.mono (by decide)) (zc (zP (vD K) (pv 0) zm (fun _ _ => rfl)) (zc (zP (vD K) (pv 0) zm (fun _ _ => rfl)) zg)))))))), ?_⟩
    refine ⟨_, rfl, _, _, _, _, rfl, .tup R.tu, X5, _, rfl, xT ?_⟩
    refine ⟨_, rfl, r, _, rfl, .inr (SqT.of R.tu), rfl, _, rfl, ?_⟩
    refine xT ?_
    refine ⟨_, rfl, r, _, _, V.int b, rfl, rfl, SqT.of R.tu, rfl, (b : Int), rfl, ?_⟩
    rw [decide_eq_true (show (2 : Int) ≤ b ∧ (b : Int) ≤ 16 from ⟨by omega, by omega⟩)]
    refine ⟨_, rfl, wO ?_⟩
    refine ⟨_, rfl, r, _, _, V.int b, rfl, rfl, SqT.of R.tu, rfl, _, rfl, r, _, _, V.ref bl, rfl, rfl, SqT.of R.tu, rfl, b, bl, zs, rfl, R.li, R.st, g, kk⟩
def uy : Sp := fun vs H Q _ => ∃ (r : Addr) (b : Nat) (bl : Addr) (zs : List (Addr × List Int)), vs = [.ref r] ∧ RuleAt H r b bl zs ∧ yl b (zs.map (·.2)) ∧ ∀ H', Same H H' → Q .non H'
theorem Vi : zB ["thing"] ["thing"] (zq vM) := ⟨rfl, rfl, rfl, by decide +kernel, rfl, by decide +kernel, by decide +kernel⟩
theorem Vr {f f1 : Addr} {fd fd1 : FuncData} (D : Df K mg "check_rule" vM ["thing"] f fd) (YJ : Df K mg "is_rule" ZD ["thing"] f1 fd1) (We : FnOk P w K mg base CX0 6 f1 fd1 ["thing"] Yl) : FnOk P w K mg base CX0 7 f fd ["thing"] uy := by
  refine D.fn.ok Vi (fun vs H Q E h => ?_) (fun cdv A outer s H vs Q E hr h => ?_)
  · obtain ⟨r, b, bl, zs, rfl, _⟩ := h; rfl
  · obtain ⟨r, b, bl, zs, rfl, R, g, kk⟩ := h
    refine ⟨_, (zu (xX (Zo (tL (zJ YJ We (hr.mono (by decide)) (zc (pv 0) zg))))
        (zu Qt)
        yg)), ?_⟩
    exact ⟨_, rfl, r, b, bl, zs, rfl, R, g, fun H1 s1 => ⟨_, rfl, xT (kk H1 s1)⟩⟩
end
section
variable {P : Program} {w : World} {K : PySem.W.Frag} {mg : Str → Option Value} {base : Heap}
theorem za5 (xs : List V) (k m : Nat) : jc xs (some (k : Int)) (some (m : Int)) = (xs.drop k).take (m - k) := by
  unfold jc
  rw [HT.X8, HT.X8]
  by_cases hk : k ≤ xs.length
  · rw [Nat.min_eq_left hk]
    by_cases hm : m ≤ xs.length
    · rw [Nat.min_eq_left hm]
    · rw [Nat.min_eq_right (by omega), List.take_of_length_le (by rw [List.length_drop]; omega), List.take_of_length_le (by rw [List.length_drop]; omega)]
  · rw [List.drop_of_length_le (show xs.length ≤ k by omega), Nat.min_eq_right (show xs.length ≤ k by omega), List.drop_of_length_le (Nat.le_refl _)]
    simp
def uf : Sp := fun vs H Q _ => ∃ (sa fa : Addr) (st fs : List Int), vs = [.ref sa, .ref fa] ∧ H sa = some (.lst (st.map V.int)) ∧ H fa = some (.lst (fs.map V.int)) ∧ st ≠ [] ∧ st.length ≤ 1000 ∧ fs.length ≤ 1000 ∧ ∀ H', Same H H' → Q (.bl (ZP st fs)) H'
theorem qY : zB ["stretch", "figures", "size"] ["stretch", "figures"] (zq xK) := ⟨rfl, rfl, rfl, by decide +kernel, rfl, by decide +kernel, by decide +kernel⟩
theorem jh {f : Addr} {fd : FuncData} (D : Df K mg "stands_within" xK ["stretch", "figures"] f fd) (T : Blt mg) : FnOk P w K mg base CX0 1 f fd ["stretch", "figures"] uf := by
  refine D.fn.ok qY (fun vs H Q E h => ?_) (fun cdv A outer s H vs Q E hr h => ?_)
  · obtain ⟨sa, fa, st, fs, rfl, _⟩ := h; rfl
  · obtain ⟨sa, fa, st, fs, rfl, hs, hf, ne, hl1, hl2, kk⟩ := h
    have HU := Ww hr
    refine ⟨_, (zp (zF (i := 2) qY.nd rfl (Or.inr rfl) (zA (uL K) (by rfl) T.n_len PySem.boot_len (zc (pv 0) zg)))
      (zu (zH (zA (zbi K rfl) (by rfl) T.n_any boot_any (zc (xV (show CScope (zq xK) _ "k" ["stretch", "figures", "size"] ["stretch", "figures", "size"] [0, 1, 2] from ⟨rfl, by decide +kernel, by decide +kernel, rfl, by decide +kernel, rfl, by decide +kernel, by decide +kernel⟩) rfl (yp rfl T.n_range (zc (zK yz (zK Zk (zA (uL K) (by rfl) T.n_len PySem.boot_len (zc (pv 1) zg)) (pv 2)) zm) zg)) (fun _ _ _ _ => yD) (fun _ _ _ _ => (qu (QT K HU) (wk (Zt K) (pv 2) (wX (pv 0)) (wX (zK yz (pv 0) (pv 3)))) (pv 1) (zT _)))) zg))))), ?_⟩
    refine ⟨_, rfl, sa, _, rfl, .inl (SqL.of hs), ?_⟩
    rw [List.length_map]
    refine ⟨_, rfl, fa, _, rfl, .inl (SqL.of hf), _, rfl, _, _, rfl, rfl, _, _, rfl, rfl, _, rfl, ?_⟩
    rw [List.length_map]
    refine ⟨by omega, by omega, wC (lo := 0) (n := ((fs.length : Int) - st.length + 1).toNat) (fun i ys H4 => ys = ((List.range i).map fun k => decide ((fs.drop k).take st.length = st)).map V.bl ∧ Same H H4) ⟨by simp, Same.refl _⟩ ?_ ?_⟩
    · rintro i ys H4 hi ⟨rfl, s4⟩
      refine ⟨by rw [List.length_map, List.length_map, List.length_range]; exact Nat.lt_of_lt_of_le (show i < 2000 by omega) (by decide), ?_⟩
      unfold jf
      dsimp only
      rw [if_pos rfl]
      refine ⟨_, rfl, _, rfl, _, rfl, _, rfl, _, rfl, _, _, rfl, rfl, _, rfl, fa, _, rfl, SqL.of (s4 _ _ hf), fun p hp => ?_⟩
      have e1 : jc (fs.map V.int) (some (0 + (i : Int))) (some (0 + (i : Int) + (st.length : Int))) = ((fs.drop i).take st.length).map V.int := by
        have e : (0 + (i : Int) + (st.length : Int)) = ((i + st.length : Nat) : Int) := by omega
        rw [e, Int.zero_add, za5, List.map_take, List.map_drop, Nat.add_sub_cancel_left]
      rw [e1]
      refine ⟨_, rfl, yt ((fs.drop i).take st.length), yt st, TrAt.ints (a := p) (SqL.of zf), TrAt.ints (a := sa) (SqL.of (zj hp _ _ (s4 _ _ hs))), (by rw [uh]; decide), ?_, s4.trans (zj hp)⟩
      rw [List.range_succ, List.map_append, List.map_append]
      have e2 := uA ((fs.drop i).take st.length) st
      show _ = _ ++ [V.bl (decide ((fs.drop i).take st.length = st))]
      rw [← e2]; rfl
    · rintro ys H4 ⟨rfl, s4⟩ Dd hD
      refine ⟨Dd, _, rfl, SqL.of zf, ?_⟩
      have q := kk _ (s4.trans (zj hD (o := .lst (((List.range ((fs.length : Int) - st.length + 1).toNat).map fun k => decide ((fs.drop k).take st.length = st)).map V.bl))))
      rw [Jo ne] at q
      rw [List.any_map]
      exact q
def vW : Sp := fun vs H Q _ => ∃ (bl fa : Addr) (zs : List (Addr × List Int)) (fs : List Int), vs = [.ref bl, .ref fa] ∧ H bl = some (.lst (zs.map fun z => V.ref z.1)) ∧ (∀ z ∈ zs, H z.1 = some (.lst (z.2.map V.int))) ∧ H fa = some (.lst (fs.map V.int)) ∧ zs.length ≤ 100 ∧ fs.length ≤ 1000 ∧ (∀ z ∈ zs, z.2 ≠ [] ∧ z.2.length ≤ 1000) ∧ ∀ H', Same H H' → Q (.bl (lacks (zs.map (·.2)) fs)) H'
theorem Qd : zB ["bad", "figures"] ["bad", "figures"] (zq wz) := ⟨rfl, rfl, rfl, by decide +kernel, rfl, by decide +kernel, by decide +kernel⟩
theorem U7 {f f1 : Addr} {fd fd1 : FuncData} (D : Df K mg "lacks_all" wz ["bad", "figures"] f fd) (xY : Df K mg "stands_within" xK ["stretch", "figures"] f1 fd1) (T : Blt mg) : FnOk P w K mg base CX0 2 f fd ["bad", "figures"] vW := by
  have Ze : FnOk P w K mg base CX0 1 f1 fd1 ["stretch", "figures"] uf := jh xY T
  refine D.fn.ok Qd (fun vs H Q E h => ?_) (fun cdv A outer s H vs Q E hr h => ?_)
  · obtain ⟨bl, fa, zs, fs, rfl, _⟩ := h; rfl
  · obtain ⟨bl, fa, zs, fs, rfl, hb, hz, hf, hl1, hl2, ne, kk⟩ := h
    refine ⟨_, (zu (zH (zbx (zA (zbi K rfl) (by rfl) T.n_any boot_any (zc (xV (show CScope (zq wz) _ "stretch" ["bad", "figures"] ["figures"] [1] from ⟨rfl, by decide +kernel, by decide +kernel, rfl, by decide +kernel, rfl, by decide +kernel, by decide +kernel⟩) rfl (jX K (pv 0)) (fun _ _ _ _ => yD) (fun _ _ _ _ => (zJ xY Ze (hr.mono (by decide)) (zc (pv 0) (zc (pv 1) zg))))) zg))))), ?_⟩
    refine ⟨_, rfl, bl, rfl, ⟨_, SqL.of hb⟩, yO (K := K) (a := bl) (xs := zs.map fun z => V.ref z.1) (fun i ys H4 => ys = ((zs.take i).map fun z => ZP z.2 fs).map V.bl ∧ Same H H4) ⟨by simp, Same.refl _⟩ (fun i ys H4 _ ⟨_, e⟩ => SqL.of (e _ _ hb)) ?_ ?_⟩
    · rintro j x ys H4 hx ⟨rfl, s4⟩
      rw [List.getElem?_map] at hx
      obtain ⟨z, hzj, e⟩ := Option.map_eq_some_iff.mp hx
      subst e
      have hzm := List.mem_of_getElem? hzj
      refine ⟨?_, ?_⟩
      · rw [List.length_map, List.length_map, List.length_take]
        exact Nat.lt_of_le_of_lt (Nat.le_trans (Nat.min_le_right _ _) hl1) (by decide)
      unfold jf
      dsimp only
      rw [if_pos rfl]
      refine ⟨_, rfl, _, rfl, z.1, fa, z.2, fs, rfl, s4 _ _ (hz z hzm), s4 _ _ hf, (ne z hzm).1, (ne z hzm).2, hl2, fun H5 s5 => ⟨?_, s4.trans s5⟩⟩
      rw [List.take_succ, hzj]
      simp
    · rintro ys H4 ⟨rfl, s4⟩ Dd hD
      refine ⟨Dd, _, rfl, SqL.of zf, _, rfl, ?_⟩
      have q := kk _ (s4.trans (zj hD (o := .lst (((zs.take (zs.map fun z => V.ref z.1).length).map fun z => ZP z.2 fs).map V.bl))))
      rw [List.length_map, List.take_length] at q ⊢
      unfold lacks at q
      rw [List.any_map] at q ⊢
      exact q
end
theorem ZJ (xs : List V) (m : Nat) : jc xs none (some (m : Int)) = xs.take m := by
  unfold jc
  rw [HT.X8, HT.QB, List.drop_zero, Nat.sub_zero]
  by_cases h : m ≤ xs.length
  · rw [Nat.min_eq_left h]
  · rw [Nat.min_eq_right (by omega), List.take_of_length_le (Nat.le_refl _), List.take_of_length_le (by omega)]
theorem uc (xs : List V) (m : Nat) : jc xs (some (m : Int)) none = xs.drop m := by
  unfold jc
  rw [HT.X8, HT.QB]
  by_cases h : m ≤ xs.length
  · rw [Nat.min_eq_left h, List.take_of_length_le (by rw [List.length_drop]; omega)]
  · rw [Nat.min_eq_right (by omega), List.drop_of_length_le (Nat.le_refl _), List.drop_of_length_le (by omega)]; simp
theorem RuleAt.all {fp : List Addr} {r bl : Addr} {H : Hp} {b : Nat} {zs : List (Addr × List Int)} (R : RuleAt (aw fp H) r b bl zs) : RuleAt H r b bl zs := R.same (xf fp H)
theorem Zz {ls : List (List Int)} {x : List Int} : ((ls.map yt).any fun t => teq t (yt x)) = decide (x ∈ ls) := by
  rw [Bool.eq_iff_iff]
  simp only [List.any_eq_true, List.mem_map, decide_eq_true_eq]
  constructor
  · rintro ⟨t, ⟨l, hl, rfl⟩, e⟩
    rw [uA] at e
    rw [← of_decide_eq_true e]; exact hl
  · intro h
    exact ⟨yt x, ⟨x, h, rfl⟩, jd _⟩
theorem xF : ∀ ls : List (List Int), yr (ls.map yt) ≤ 1
  | [] => by simp [yr]
  | l :: ls => by rw [List.map_cons, yr, uh]; have := xF ls; omega
theorem TrsAt.lists {K : PySem.W.Frag} {H : Hp} : ∀ {zs : List (Addr × List Int)}, (∀ z ∈ zs, H z.1 = some (.lst (z.2.map V.int))) → TrsAt K H ((zs.map (·.2)).map yt) (zs.map fun z => V.ref z.1)
  | [], _ => by rw [List.map_nil, List.map_nil, TrsAt]; rfl
  | z :: zs, h => by
    rw [List.map_cons, List.map_cons, TrsAt]
    exact ⟨_, _, rfl, TrAt.ints (SqL.of (h z List.mem_cons_self)), TrsAt.lists fun z hz => h z (List.mem_cons_of_mem _ hz)⟩
theorem Jm {ls : List (List Int)} {x : List Int} (h : jW ls x) : lacks ls x = true ∧ zG ls x = x := by
  rcases h with rfl | ⟨st, hst, k, h1, h2, rfl, h3⟩
  · refine ⟨?_, rfl⟩
    unfold lacks
    rw [Bool.not_eq_true', List.any_eq_false]
    intro st _ h
    simp [ZP] at h
  · refine ⟨h3, W4 ?_⟩
    unfold tX
    rw [List.any_eq_true]
    refine ⟨st, hst, decide_eq_true ?_⟩
    rw [List.length_take, Nat.min_eq_left (by omega)]
def aft (ls : List (List Int)) (x : List Int) (f : Int) : Option (List Int) := if lacks ls (x ++ [f]) = true then some (zG ls (x ++ [f])) else none
def ends (fs : List Int) : List (List Int) := (List.range (fs.length + 1)).map fs.drop
theorem zab {ls : List (List Int)} (ne : ∀ l ∈ ls, l ≠ []) {x : List Int} (f : Int) (h : lacks ls x = true) : (∃ e ∈ ends (x ++ [f]), e ∈ ls) ↔ lacks ls (x ++ [f]) = false := by
  constructor
  · rintro ⟨e, he, hl⟩
    obtain ⟨i, _, rfl⟩ := List.mem_map.mp he
    have := Vc hl (ne _ hl) ((x ++ [f]).take i)
    rwa [List.take_append_drop] at this
  · intro hf
    obtain ⟨st, hst, hs⟩ : ∃ st ∈ ls, ZP st (x ++ [f]) = true := by
      unfold lacks at hf
      have hf : (ls.any fun st => ZP st (x ++ [f])) = true := by simpa using hf
      exact List.any_eq_true.mp hf
    obtain ⟨k, hk⟩ := (wU (ne st hst)).mp hs
    have hlen := congrArg List.length hk
    rw [List.length_take, List.length_drop, List.length_append, List.length_singleton] at hlen
    have hpos : 0 < st.length := List.length_pos_iff.mpr (ne st hst)
    by_cases hx : k + st.length ≤ x.length
    · exfalso
      have : ZP st x = true := by
        rw [wU (ne st hst)]
        refine ⟨k, ?_⟩
        rw [List.drop_append_of_le_length (by omega), List.take_append_of_le_length (by rw [List.length_drop]; omega)] at hk
        exact hk
      unfold lacks at h
      have h : (ls.any fun st => ZP st x) = false := by simpa using h
      rw [List.any_eq_false] at h
      exact h st hst this
    · refine ⟨(x ++ [f]).drop k, List.mem_map.mpr ⟨k, List.mem_range.mpr (by rw [List.length_append, List.length_singleton]; omega), rfl⟩, ?_⟩
      rw [List.take_of_length_le (by rw [List.length_drop, List.length_append, List.length_singleton]; omega)] at hk
      rw [hk]; exact hst
def Qi (ls : List (List Int)) (x : List Int) (a n : Nat) : List Nat := ((List.range n).map (a + ·)).filter fun (c : Nat) => lacks ls (x ++ [(c : Int)])
def Wt (ls : List (List Int)) (b t : Nat) (x : List Int) (a n : Nat) : Nat := ((Qi ls x a n).map fun (c : Nat) => cnt ls b t (zG ls (x ++ [(c : Int)]))).sum
theorem QD (ls : List (List Int)) (x : List Int) (a n : Nat) : Qi ls x a (n + 1) = Qi ls x a n ++ (if lacks ls (x ++ [((a + n : Nat) : Int)]) = true then [a + n] else []) := by
  unfold Qi
  rw [List.range_succ, List.map_append, List.filter_append]
  congr 1
  rw [List.map_cons, List.map_nil, List.filter_cons]
  split <;> rfl
theorem Vg (ls : List (List Int)) (b t : Nat) (x : List Int) (a n : Nat) : Wt ls b t x a (n + 1) = Wt ls b t x a n + ZW ls b t (some x) (a + n) := by
  unfold Wt
  rw [QD, List.map_append, List.sum_append]
  congr 1
  show _ = if lacks ls (x ++ [((a + n : Nat) : Int)]) = true then _ else 0
  split <;> simp
theorem XC (ls : List (List Int)) (b t : Nat) (x : List Int) : ∀ n, Wt ls b t x 0 n = under ls b t (some x) n
  | 0 => rfl
  | n + 1 => by rw [Vg, XC, u6, Nat.zero_add]
theorem YB (ls : List (List Int)) (b t : Nat) : ∀ n, jy ls b t + Wt ls b t [] 1 n = under ls b t none (n + 1)
  | 0 => by
    rw [u6, Yi]
    show jy ls b t + 0 = 0 + (if (0 : Nat) = 0 then jy ls b t else if lacks ls [((0 : Nat) : Int)] = true then cnt ls b t (zG ls [((0 : Nat) : Int)]) else 0)
    rw [if_pos rfl]
    omega
  | n + 1 => by
    rw [Vg, ← Nat.add_assoc, YB, u6 ls b t none (n + 1)]
    congr 1
    show (if lacks ls ([] ++ [((1 + n : Nat) : Int)]) = true then cnt ls b t (zG ls ([] ++ [((1 + n : Nat) : Int)])) else 0) = if n + 1 = 0 then jy ls b t else if lacks ls [((n + 1 : Nat) : Int)] = true then cnt ls b t (zG ls [((n + 1 : Nat) : Int)]) else 0
    rw [if_neg (by omega : ¬ n + 1 = 0), Nat.add_comm 1 n]
    rfl
def PartN (ls : List (List Int)) (b n L k : Nat) (o : Option (List Int)) (tot : Nat) : Prop :=
  (k = 0 ∧ o = some [] ∧ tot = jy ls b (L - 1)) ∨ (1 ≤ k ∧ gd ls b (n / b ^ (L - k)) = true ∧ o = some (zG ls (yZ b (n / b ^ (L - k)))) ∧ tot = many (gd ls b) (n / b ^ (L - k) * b ^ (L - k))) ∨ (1 ≤ k ∧ o = none ∧ tot = many (gd ls b) n)
theorem PartN.rep {ls : List (List Int)} {b n L k : Nat} {x : List Int} {tot : Nat} (h2 : 2 ≤ b) (hn : 0 < n) (hL : (yZ b n).length = L) (hk : k < L) (p : PartN ls b n L k (some x) tot) :
    ∃ o, Rep ls b (n / b ^ (L - k)) o ∧ ((k = 0 ∧ x = [] ∧ o = none ∧ tot = jy ls b (L - 1)) ∨ (1 ≤ k ∧ o = some x ∧ tot = many (gd ls b) (n / b ^ (L - k) * b ^ (L - k)))) := by
  rcases p with ⟨rfl, e, t⟩ | ⟨h1, g, e, t⟩ | ⟨h1, e, _⟩
  · cases e
    have : n / b ^ (L - 0) = 0 := Nat.div_eq_of_lt (qp h2 hL)
    exact ⟨none, .inl ⟨this, rfl⟩, .inl ⟨rfl, rfl, rfl, t⟩⟩
  · cases e
    refine ⟨_, .inr ⟨?_, g, rfl⟩, .inr ⟨h1, rfl, t⟩⟩
    have hs := (Yu (k := L - 1) h2).mp (by rw [hL]; omega)
    have hp : 0 < b ^ (L - k) := Nat.pow_pos (by omega)
    have : b ^ (L - k) ≤ n := by
      rcases hs.2 with z | z
      · omega
      · exact Nat.le_trans (Nat.pow_le_pow_right (by omega) (by omega)) z
    exact Nat.div_pos this hp
  · cases e
theorem PartN.next {ls : List (List Int)} (ne : ∀ l ∈ ls, l ≠ []) {b n L k : Nat} {x : List Int} {tot : Nat} (h2 : 2 ≤ b) (hn : 0 < n) (hL : (yZ b n).length = L) (hk : k < L) (p : PartN ls b n L k (some x) tot) {c : Nat} (hc : (yZ b n)[k]? = some (c : Int)) :
    c < b ∧ (k = 0 → 1 ≤ c) ∧ PartN ls b n L (k + 1) (aft ls x c) (tot + Wt ls b (L - 1 - k) x (if k = 0 then 1 else 0) (c - (if k = 0 then 1 else 0))) := by
  have ec : c = (n / b ^ (L - 1 - k)) % b := by
    rw [zbs h2 hL hk] at hc
    have hc : ((n / b ^ (L - 1 - k) % b : Nat) : Int) = (c : Int) := by simpa using hc
    omega
  have hcb : c < b := by rw [ec]; exact Nat.mod_lt _ (by omega)
  have et : L - k = L - 1 - k + 1 := by omega
  have htop : n / b ^ (L - 1 - k) = n / b ^ (L - k) * b + c := by rw [et, ec]; exact zbO (by omega)
  obtain ⟨o, R, hor⟩ := p.rep h2 hn hL hk
  have hu := tD ne h2 R (L - 1 - k) (s := c) (by omega)
  have hs := R.step ne h2 hcb
  rw [← et, ← htop] at hu
  have hstep : c ≠ 0 ∨ k ≠ 0 := by
    by_cases hk0 : k = 0
    · left
      intro hc0
      have hs := (Yu (k := L - 1) h2).mp (by rw [hL]; omega)
      have z : n / b ^ (L - k) = 0 := by rw [hk0]; exact Nat.div_eq_of_lt (qp h2 hL)
      rw [z, hc0, hk0] at htop
      have hlt : n < b ^ (L - 1) := by
        have hp : 0 < b ^ (L - 1) := Nat.pow_pos (by omega)
        have : n / b ^ (L - 1) = 0 := by simpa using htop
        rcases Nat.div_eq_zero_iff.mp this with q | q
        · omega
        · exact q
      rcases hs.2 with q | q
      · rw [q, Nat.pow_zero] at hlt; omega
      · omega
    · exact .inr hk0
  have hm1 : 1 ≤ n / b ^ (L - 1 - k) := by
    rcases hor with ⟨rfl, _, _, _⟩ | ⟨h1, rfl, _⟩
    · rw [htop]; rcases hstep with q | q
      · omega
      · exact absurd rfl q
    · rcases R with ⟨_, z⟩ | ⟨z, _⟩
      · cases z
      · rw [htop]; exact zaf h2 z
  refine ⟨hcb, fun z => by rcases hstep with q | q; omega; exact absurd z q, ?_⟩
  have etot : tot + Wt ls b (L - 1 - k) x (if k = 0 then 1 else 0) (c - (if k = 0 then 1 else 0)) = many (gd ls b) (n / b ^ (L - 1 - k) * b ^ (L - 1 - k)) := by
    rcases hor with ⟨rfl, rfl, rfl, rfl⟩ | ⟨h1, rfl, rfl⟩
    · rw [if_pos rfl]
      have q := YB ls b (L - 1) (c - 1)
      have hc1 : 1 ≤ c := by rcases hstep with q | q; omega; exact absurd rfl q
      rw [show c - 1 + 1 = c by omega] at q
      have e0 : L - 1 - 0 = L - 1 := Nat.sub_zero _
      rw [e0] at hu ⊢
      rw [q, ← hu]
      have z : n / b ^ (L - 0) = 0 := Nat.div_eq_of_lt (qp h2 hL)
      rw [z, Nat.zero_mul]
      simp [many]
    · rw [if_neg (by omega), Nat.sub_zero, XC, hu]
  rw [etot]
  have eL : L - (k + 1) = L - 1 - k := by omega
  have key : (lacks ls (x ++ [(c : Int)]) = true → gd ls b (n / b ^ (L - 1 - k)) = true ∧ zG ls (x ++ [(c : Int)]) = zG ls (yZ b (n / b ^ (L - 1 - k)))) ∧ (lacks ls (x ++ [(c : Int)]) = false → gd ls b (n / b ^ (L - 1 - k)) = false) := by
    rcases hor with ⟨rfl, rfl, rfl, _⟩ | ⟨h1, rfl, _⟩
    · have z : n / b ^ (L - 0) = 0 := Nat.div_eq_of_lt (qp h2 hL)
      rw [z, Nat.zero_mul, Nat.zero_add] at htop
      rw [htop]
      unfold gd
      rw [jq hcb]
      exact ⟨fun h => ⟨h, rfl⟩, fun h => h⟩
    · rcases R with ⟨_, z⟩ | ⟨z1, z2, z3⟩
      · cases z
      · cases z3
        rw [htop]
        unfold gd at z2 ⊢
        rw [wy h2 z1 hcb, ← qd ne (c : Int) z2, tW]
        exact ⟨fun h => ⟨h, rfl⟩, fun h => h⟩
  unfold aft
  cases hl : lacks ls (x ++ [(c : Int)]) with
  | true =>
    obtain ⟨g, e⟩ := key.1 hl
    rw [if_pos rfl]
    exact .inr (.inl ⟨by omega, by rw [eL]; exact g, by rw [eL, e], by rw [eL]⟩)
  | false =>
    have g := key.2 hl
    rw [if_neg Bool.false_ne_true]
    refine .inr (.inr ⟨by omega, rfl, ?_⟩)
    have hb := zbv ne h2 hm1 g (L - 1 - k) (r := n % b ^ (L - 1 - k)) (Nat.le_of_lt (Nat.mod_lt _ (Nat.pow_pos (by omega))))
    have en : n / b ^ (L - 1 - k) * b ^ (L - 1 - k) + n % b ^ (L - 1 - k) = n := by rw [Nat.mul_comm]; exact Nat.div_add_mod n _
    rw [en] at hb
    exact hb.symm
theorem PartN.done {ls : List (List Int)} {b n L : Nat} {o : Option (List Int)} {tot : Nat} (hL : 1 ≤ L) (p : PartN ls b n L L o tot) : tot = many (gd ls b) n := by
  rcases p with ⟨z, _⟩ | ⟨_, _, _, t⟩ | ⟨_, _, t⟩
  · omega
  · rw [t, Nat.sub_self, Nat.pow_zero, Nat.div_one, Nat.mul_one]
  · exact t
def za6 (ls F : List (List Int)) (x : List Int) : List (List Int) := if x ∈ F then F else if lacks ls x = true then F ++ [x] else F
def ZQ (ls : List (List Int)) (st : List Int) : Nat → List (List Int) → List (List Int)
  | 0, F => F
  | j + 1, F => za6 ls (ZQ ls st j F) (st.take (j + 1))
def Vn (ls xs : List (List Int)) : List (List Int) := xs.foldl (fun F st => ZQ ls st (st.length - 1) F) [[]]
theorem zbI {ls F : List (List Int)} {x y : List Int} : y ∈ za6 ls F x ↔ y ∈ F ∨ (y = x ∧ lacks ls y = true) := by
  unfold za6
  by_cases h : x ∈ F
  · rw [if_pos h]
    exact ⟨.inl, fun z => z.elim id fun z => by rw [z.1]; exact h⟩
  · rw [if_neg h]
    by_cases h2 : lacks ls x = true
    · rw [if_pos h2, List.mem_append, List.mem_singleton]
      exact ⟨fun z => z.imp id fun z => ⟨z, by rw [z]; exact h2⟩, fun z => z.imp id fun z => z.1⟩
    · rw [if_neg h2]
      exact ⟨.inl, fun z => z.elim id fun z => absurd (by rw [← z.1]; exact z.2) h2⟩
theorem Ud {ls F : List (List Int)} {st y : List Int} : ∀ {j : Nat}, y ∈ ZQ ls st j F ↔ y ∈ F ∨ ∃ k, 1 ≤ k ∧ k ≤ j ∧ y = st.take k ∧ lacks ls y = true
  | 0 => ⟨.inl, fun z => z.elim id fun ⟨k, h1, h2, _⟩ => by omega⟩
  | j + 1 => by
    rw [ZQ, zbI, Ud]
    constructor
    · rintro ((h | ⟨k, h1, h2, h3⟩) | ⟨h1, h2⟩)
      · exact .inl h
      · exact .inr ⟨k, h1, by omega, h3⟩
      · exact .inr ⟨j + 1, by omega, by omega, h1, h2⟩
    · rintro (h | ⟨k, h1, h2, h3, h4⟩)
      · exact .inl (.inl h)
      · by_cases hk : k ≤ j
        · exact .inl (.inr ⟨k, h1, hk, h3, h4⟩)
        · exact .inr ⟨by rw [h3]; congr 1; omega, h4⟩
theorem Ua {ls : List (List Int)} {y : List Int} : ∀ {xs F : List (List Int)}, y ∈ xs.foldl (fun F st => ZQ ls st (st.length - 1) F) F ↔ y ∈ F ∨ ∃ st ∈ xs, ∃ k, 1 ≤ k ∧ k < st.length ∧ y = st.take k ∧ lacks ls y = true
  | [], F => by simp
  | st :: xs, F => by
    rw [List.foldl_cons, Ua, Ud]
    constructor
    · rintro ((h | ⟨k, h1, h2, h3⟩) | ⟨s, hs, h⟩)
      · exact .inl h
      · exact .inr ⟨st, by simp, k, h1, by omega, h3⟩
      · exact .inr ⟨s, by simp [hs], h⟩
    · rintro (h | ⟨s, hs, k, h1, h2, h3⟩)
      · exact .inl (.inl h)
      · rcases List.mem_cons.mp hs with rfl | hs
        · exact .inl (.inr ⟨k, h1, by omega, h3⟩)
        · exact .inr ⟨s, hs, k, h1, h2, h3⟩
theorem Wh {ls : List (List Int)} {y : List Int} : y ∈ Vn ls ls ↔ jW ls y := by
  unfold Vn jW
  rw [Ua, List.mem_singleton]
theorem zbB (ls F : List (List Int)) (x : List Int) : (za6 ls F x).length ≤ F.length + 1 := by
  unfold za6
  split
  · omega
  · split
    · rw [List.length_append, List.length_singleton]; omega
    · omega
theorem Ug (ls : List (List Int)) (st : List Int) (F : List (List Int)) : ∀ j, (ZQ ls st j F).length ≤ F.length + j
  | 0 => Nat.le_refl _
  | j + 1 => by rw [ZQ]; have := zbB ls (ZQ ls st j F) (st.take (j + 1)); have := Ug ls st F j; omega
theorem VH {ls : List (List Int)} : ∀ {xs F : List (List Int)}, (∀ st ∈ xs, st.length ≤ 4) → (xs.foldl (fun F st => ZQ ls st (st.length - 1) F) F).length ≤ F.length + 3 * xs.length
  | [], F, _ => by simp
  | st :: xs, F, h => by
    rw [List.foldl_cons, List.length_cons]
    have := VH (ls := ls) (xs := xs) (F := ZQ ls st (st.length - 1) F) fun s hs => h s (List.mem_cons_of_mem _ hs)
    have := Ug ls st F (st.length - 1)
    have := h st List.mem_cons_self
    omega
theorem Q7 {ls : List (List Int)} (h4 : ls.length ≤ 4) (h : ∀ st ∈ ls, st.length ≤ 4) : (Vn ls ls).length ≤ 13 := by
  have := VH (ls := ls) (xs := ls) (F := [[]]) h
  unfold Vn
  rw [List.length_singleton] at this
  omega
def kI (x : List Int) : List Key := x.map Sum.inl
theorem Vm (x : List Int) : (kI x).map kV = x.map V.int := by unfold kI; rw [List.map_map]; rfl
theorem Ve {x y : List Int} (h : kI x = kI y) : x = y := by
  unfold kI at h
  exact (List.map_inj_right (fun a b e => by injection e)).mp h
def AftV (H : Hp) : Option (List Int) → V → Prop
  | none, v => v = .non
  | some y, v => ∃ c, v = .ref c ∧ H c = some (.tup (y.map V.int))
theorem AftV.same {H H' : Hp} {o : Option (List Int)} {v : V} (h : AftV H o v) (s : ∀ b xs, H b = some (.tup xs) → H' b = some (.tup xs)) : AftV H' o v := by
  cases o with
  | none => exact h
  | some y => obtain ⟨c, e, q⟩ := h; exact ⟨c, e, s _ _ q⟩
def kA (x : List Int) (f : Nat) : NK := (kI x, [.inl (f : Int), .inl 0])
def kW (x : List Int) (t : Nat) : NK := (kI x, [.inl (t : Int)])
def Ent (ls : List (List Int)) (b : Nat) (H : Hp) (k : NK) (v : V) : Prop :=
  (∃ (x : List Int) (f : Nat), jW ls x ∧ f < b ∧ k = kA x f ∧ AftV H (aft ls x f) v) ∨ ∃ (x : List Int) (t : Nat), jW ls x ∧ 1 ≤ t ∧ t ≤ 1000 ∧ k = kW x t ∧ v = .int (cnt ls b t x : Nat)
structure Tab (ls : List (List Int)) (b : Nat) (H : Hp) (kvs : List (NK × V)) : Prop where
  nd : (kvs.map (·.1)).Nodup
  ok : ∀ p ∈ kvs, Ent ls b H p.1 p.2
section
variable {ls : List (List Int)} {b : Nat} {H H' : Hp} {kvs : List (NK × V)}
theorem Tab.nil : Tab ls b H [] := ⟨List.nodup_nil, fun p hp => nomatch hp⟩
theorem Tab.same (t : Tab ls b H kvs) (s : ∀ b xs, H b = some (.tup xs) → H' b = some (.tup xs)) : Tab ls b H' kvs := ⟨t.nd, fun p hp => by
  rcases t.ok p hp with ⟨x, f, h1, h2, h3, h4⟩ | h
  · exact .inl ⟨x, f, h1, h2, h3, h4.same s⟩
  · exact .inr h⟩
theorem Ws {k : NK} {v : V} : ∀ {kvs : List (NK × V)}, yh kvs k = some v → (k, v) ∈ kvs
  | [], h => by cases h
  | p :: kvs, h => by
    by_cases e : p.1 = k
    · rw [yH e] at h
      cases h
      exact List.mem_cons.mpr (.inl (by rw [← e]))
    · rw [yK e] at h
      exact List.mem_cons_of_mem _ (Ws h)
theorem Tab.aft (t : Tab ls b H kvs) {x : List Int} {f : Nat} {v : V} (h : yh kvs (kA x f) = some v) : AftV H (aft ls x f) v := by
  rcases t.ok _ (Ws h) with ⟨y, g, _, _, e, q⟩ | ⟨y, n, _, _, _, e, _⟩
  · unfold kA at e
    injection e with e1 e2
    injection e2 with e2 e3
    injection e2 with e2
    have e1 := Ve e1
    have e2 : f = g := by omega
    subst e1 e2
    exact q
  · exfalso
    have e := congrArg (fun z : NK => z.2.length) e
    simp [kA, kW] at e
theorem Tab.put (t : Tab ls b H kvs) {k : NK} {v : V} (h : yh kvs k = none) (e : Ent ls b H k v) : Tab ls b H (putK kvs k v) := by
  refine ⟨J7 v t.nd h, fun p hp => ?_⟩
  rw [qZ v h] at hp
  rcases List.mem_append.mp hp with hp | hp
  · exact t.ok p hp
  · rw [List.mem_singleton.mp hp]; exact e
def QM (ls : List (List Int)) (b : Nat) : List NK := ((Vn ls ls).map fun x => (List.range b).map fun f => kA x f).flatten ++ ((Vn ls ls).map fun x => (List.range 1001).map fun t => kW x t).flatten
theorem Wq {α β : Type} {f : α → List β} {n : Nat} (h : ∀ a, (f a).length ≤ n) : ∀ l : List α, ((l.map f).flatten).length ≤ n * l.length
  | [] => by simp
  | a :: l => by
    rw [List.map_cons, List.flatten_cons, List.length_append, List.length_cons, Nat.mul_succ]
    have := Wq h l
    have := h a
    omega
theorem Tab.len (t : Tab ls b H kvs) (h4 : ls.length ≤ 4) (h : ∀ st ∈ ls, st.length ≤ 4) (hb : b ≤ 16) : kvs.length ≤ 20000 := by
  have hk : (QM ls b).length ≤ 20000 := by
    have h1 := Wq (f := fun x => (List.range b).map fun f => kA x f) (n := 16) (fun x => by rw [List.length_map, List.length_range]; exact hb) (Vn ls ls)
    have h2 := Wq (f := fun x => (List.range 1001).map fun t => kW x t) (n := 1001) (fun x => by rw [List.length_map, List.length_range]; exact Nat.le_refl _) (Vn ls ls)
    have h3 := Q7 h4 h
    unfold QM
    rw [List.length_append]
    omega
  by_cases hc : kvs.length ≤ (QM ls b).length
  · omega
  · exfalso
    obtain ⟨i, j, x, hij, h1, h2⟩ := Jl (kvs.map (·.1)) (QM ls b) (fun k hk => by
      obtain ⟨p, hp, rfl⟩ := List.mem_map.mp hk
      unfold QM
      rw [List.mem_append]
      rcases t.ok p hp with ⟨x, f, q1, q2, q3, _⟩ | ⟨x, n, q1, q2, q3, q4, _⟩
      · exact .inl (List.mem_flatten.mpr ⟨_, List.mem_map.mpr ⟨x, Wh.mpr q1, rfl⟩, List.mem_map.mpr ⟨f, List.mem_range.mpr q2, q3.symm⟩⟩)
      · exact .inr (List.mem_flatten.mpr ⟨_, List.mem_map.mpr ⟨x, Wh.mpr q1, rfl⟩, List.mem_map.mpr ⟨n, List.mem_range.mpr (by omega), q4.symm⟩⟩)) (by rw [List.length_map]; omega)
    have hj := (List.getElem?_eq_some_iff.mp h2).1
    have := (List.getElem?_inj (by omega) t.nd).mp (h1.trans h2.symm)
    omega
end
structure RdS (G : Hp) (rd tl dd : Addr) (b : Nat) (ts : List (Addr × List Int)) : Prop where
  hd : G rd = some (.lst [.int b, .ref tl, .ref dd])
  li : G tl = some (.lst (ts.map fun t => V.ref t.1))
  st : ∀ t ∈ ts, G t.1 = some (.tup (t.2.map V.int))
def RdD (P : Program) (w : World) (H : Hp) (dd : Addr) (ls : List (List Int)) (b : Nat) : Prop := ∃ kvs, DN P w H dd kvs ∧ Tab ls b H kvs
theorem RdS.same {G G' : Hp} {rd tl dd : Addr} {b : Nat} {ts : List (Addr × List Int)} (R : RdS G rd tl dd b ts) (s : Same G G') : RdS G' rd tl dd b ts := ⟨s _ _ R.hd, s _ _ R.li, fun t ht => s _ _ (R.st t ht)⟩
theorem RdD.same {P : Program} {w : World} {H H' : Hp} {dd : Addr} {ls : List (List Int)} {b : Nat} (R : RdD P w H dd ls b) (s : Same H H') : RdD P w H' dd ls b := let ⟨kvs, h1, h2⟩ := R; ⟨kvs, h1.same s, h2.same fun b xs e => s _ _ e⟩
def SameD (d : Addr) (H H' : Hp) : Prop := ∀ b u, b ≠ d → H b = some u → H' b = some u
theorem SameD.of {d : Addr} {H H' : Hp} (s : Same H H') : SameD d H H' := fun b u _ e => s b u e
theorem SameD.trans {d : Addr} {H H1 H2 : Hp} (a : SameD d H H1) (b : SameD d H1 H2) : SameD d H H2 := fun c u h e => b c u h (a c u h e)
theorem RdD.ne {P : Program} {w : World} {H : Hp} {dd : Addr} {ls : List (List Int)} {b : Nat} (R : RdD P w H dd ls b) {c : Addr} {u : HO} (h : H c = some u) (hu : ∀ φ, u ≠ .ext φ) : c ≠ dd := let ⟨_, ⟨_, e, _⟩, _⟩ := R; fun z => by
  rw [z, e] at h; cases h; exact hu _ rfl
def XJ (x : List Int) : Tr := .tup (x.map Tr.int)
theorem TrAt.tupI {K : PySem.W.Frag} {H : Hp} {a : Addr} {x : List Int} (h : H a = some (.tup (x.map V.int))) : TrAt K H (XJ x) (.ref a) := by
  unfold XJ; rw [TrAt]; exact ⟨a, _, rfl, SqT.of h, TrsAt.ints⟩
theorem V8 (x : List Int) : wj (XJ x) = 1 := by unfold XJ; rw [wj, Yh]
theorem W5 : ∀ ls : List (List Int), yr (ls.map XJ) ≤ 1
  | [] => by rw [List.map_nil, yr]; omega
  | x :: ls => by rw [List.map_cons, yr, V8]; have := W5 ls; omega
theorem TrsAt.tups {K : PySem.W.Frag} {H : Hp} : ∀ {zs : List (Addr × List Int)}, (∀ z ∈ zs, H z.1 = some (.tup (z.2.map V.int))) → TrsAt K H ((zs.map (·.2)).map XJ) (zs.map fun z => V.ref z.1)
  | [], _ => by rw [List.map_nil, List.map_nil, List.map_nil, TrsAt]
  | z :: zs, h => by
    rw [List.map_cons, List.map_cons, List.map_cons, TrsAt]
    exact ⟨_, _, rfl, TrAt.tupI (h z List.mem_cons_self), TrsAt.tups fun y hy => h y (List.mem_cons_of_mem _ hy)⟩
theorem ZC (ts : List Tr) : teq (.lst ts) (.lst []) = ts.isEmpty := by
  cases ts with
  | nil => rfl
  | cons t ts => rw [teq, qy (by simp)]; rfl
theorem CompLoop.mono {J : It} {js : List Nat} {tt : TT} {te : TE} {σ : L2.St} {Q Q' : VK} {H : Hp} (h : CompLoop J js tt te σ Q H) (hq : ∀ v H, Q v H → Q' v H) : CompLoop J js tt te σ Q' H := by
  obtain ⟨W, h0, hs⟩ := h
  refine ⟨W, h0, fun i m ys H hw => ?_⟩
  rcases hs i m ys H hw with ⟨a, b⟩ | ⟨a, b, c⟩
  · exact .inl ⟨a, fun D hD => hq _ _ (b D hD)⟩
  · exact .inr ⟨a, b, c⟩
theorem zb0 {c : Bool} {A B : Prop} (hc : c = false) (h : B) : if c = true then A else B := by rw [hc]; exact xT h
theorem zdq {c : Bool} {A B : Prop} (hc : c = true) (h : A) : if c = true then A else B := by rw [hc]; exact wO h
theorem Jh {ls : List (List Int)} (ne : ∀ l ∈ ls, l ≠ []) {x : List Int} {f : Int} (h : lacks ls x = true) (q : ∀ k, k < (x ++ [f]).length → (x ++ [f]).drop k ∉ ls) : lacks ls (x ++ [f]) = true := by
  cases e : lacks ls (x ++ [f]) with
  | true => rfl
  | false =>
    obtain ⟨y, hy, hl⟩ := (zab ne f h).mpr e
    obtain ⟨i, hi, rfl⟩ := List.mem_map.mp hy
    have hi := List.mem_range.mp hi
    by_cases z : i < (x ++ [f]).length
    · exact absurd hl (q i z)
    · rw [List.drop_of_length_le (by omega)] at hl
      exact absurd rfl (ne _ hl)
section
variable {P : Program} {w : World} {K : PySem.W.Frag} {mg : Str → Option Value} {base : Heap}
def BadAt (H : Hp) (bl : Addr) (zs : List (Addr × List Int)) : Prop := H bl = some (.lst (zs.map fun z => V.ref z.1)) ∧ ∀ z ∈ zs, H z.1 = some (.lst (z.2.map V.int))
theorem BadAt.same {H H' : Hp} {bl : Addr} {zs : List (Addr × List Int)} (h : BadAt H bl zs) (s : Same H H') : BadAt H' bl zs := ⟨s _ _ h.1, fun z hz => s _ _ (h.2 z hz)⟩
def uY : Sp := fun vs H Q _ => ∃ (bl : Addr) (zs : List (Addr × List Int)) (ea : Addr) (x : List Int) (c : Nat) (b : Nat), vs = [.ref bl, .ref ea, .int c] ∧ BadAt H bl zs ∧ H ea = some (.tup (x.map V.int)) ∧ yl b (zs.map (·.2)) ∧ jW (zs.map (·.2)) x ∧ ∀ v H', Same H H' → AftV H' (aft (zs.map (·.2)) x c) v → Q v H'
theorem vC : zB ["bad", "end", "figure", "figures", "at"] ["bad", "end", "figure"] (zq wQ) := ⟨rfl, rfl, rfl, by decide +kernel, rfl, by decide +kernel, by decide +kernel⟩
set_option maxHeartbeats 0 in
theorem j9 {f : Addr} {fd : FuncData} (D : Df K mg "_law_behind" wQ ["bad", "end", "figure"] f fd) (T : Blt mg) : FnOk P w K mg base CX0 1 f fd ["bad", "end", "figure"] uY := by
  refine D.fn.ok vC (fun vs H Q E h => ?_) (fun cdv A outer s H vs Q E hr h => ?_)
  · obtain ⟨bl, zs, ea, x, c, b, rfl, _⟩ := h; rfl
  · obtain ⟨bl, zs, ea, x, c, b, rfl, B, hea, g, hx, kk⟩ := h
    have HU := Ww hr
    have h4 : zs.length ≤ 4 := by have := g.len; rwa [List.length_map] at this
    have hst4 : ∀ st ∈ zs.map (·.2), st.length ≤ 4 := fun st h => (g.st st h).len
    have ne : ∀ st ∈ zs.map (·.2), st ≠ [] := fun st h => (g.st st h).ne
    have hx3 := Q0 hst4 hx
    have hLx : lacks (zs.map (·.2)) x = true := (Jm hx).1
    refine ⟨_, (zp (zF (i := 3) vC.nd rfl (Or.inr rfl) (zK Xi (uW (Qw K) (by rfl) T.n_list boot_list (zc (pv 1) zg)) (zM (zc (pv 2) zg))))
      (zp (vY PassesOwn.never rfl (yp rfl T.n_range (zc (zA (uL K) (by rfl) T.n_len PySem.boot_len (zc (pv 3) zg)) zg)) (zY (i := 4) vC.nd rfl (Or.inl rfl))
        (zu (xX (zO (zdT K HU) (wk (Zt K) (pv 3) (wX (pv 4)) uv) (pv 0) (by with_unfolding_all rfl))
          (zu (zH tR))
          yg)))
      (zp (YT PassesOwn.never (PW.pt (Qo (zO (Jc K HU) (pv 3) (zM zg) (zT _)) (Wc (zO (QT K HU) (xV (show CScope (zq wQ) _ "one" ["bad", "end", "figure", "figures", "at"] ["figures"] [3] from ⟨rfl, by decide +kernel, by decide +kernel, rfl, by decide +kernel, rfl, by decide +kernel, by decide +kernel⟩) rfl (jX K (pv 0)) (fun _ _ _ _ => (Zy (zO (QT K HU) (wk (Zt K) (pv 0) uv (wX (zA (uL K) (by rfl) T.n_len PySem.boot_len (zc (pv 1) zg)))) (pv 1) (zT _)))) (fun _ _ _ _ => (pv 0))) (zM zg) (zT _)))))
        (zu (zF (i := 3) vC.nd rfl (Or.inr rfl) (wk (Zt K) (pv 3) (wX zm) uv))))
      (zu (zH (uW (zb6 K) (by rfl) T.n_tuple boot_tuple (zc (pv 3) zg))))))), ?_⟩
    refine ⟨_, rfl, ea, _, rfl, .inr (SqT.of hea), fun l1 hl1 => ?_⟩
    have m1 := zj hl1 (o := .lst (x.map V.int))
    refine ⟨_, rfl, (by show 1 ≤ sizeLine; decide), fun l2 hl2 => ?_⟩
    have m2 := zj hl2 (o := .lst [.int c])
    refine ⟨l1, l2, _, _, rfl, rfl, m2 _ _ zf, zf, by rw [List.length_map]; exact Nat.le_trans (show x.length + 1 ≤ 100 by omega) (by decide), fun fa hfa => ?_⟩
    have m3 := zj hfa (o := .lst (x.map V.int ++ [.int c]))
    have s1 := (m1.trans m2).trans m3
    obtain ⟨fs, efs⟩ : ∃ fs : List Int, fs = x ++ [(c : Int)] := ⟨_, rfl⟩
    have hfl : fs.length ≤ 4 := by rw [efs, List.length_append, List.length_singleton]; omega
    have hf1 : (upd (upd (upd H l1 (.lst (x.map V.int))) l2 (.lst [.int c])) fa (.lst (x.map V.int ++ [.int c]))) fa = some (.lst (fs.map V.int)) := by rw [zf, efs, List.map_append]; rfl
    generalize upd (upd (upd H l1 (.lst (x.map V.int))) l2 (.lst [.int c])) fa (.lst (x.map V.int ++ [.int c])) = H1 at s1 hf1
    have B1 := B.same s1
    refine ⟨_, rfl, fa, _, rfl, .inl (SqL.of hf1), _, rfl, by rw [List.length_map]; omega, by rw [List.length_map]; omega, ?_⟩
    rw [List.length_map, Int.toNat_natCast]
    refine wF (lo := 0) (n := fs.length) (fun i σ Hc => ∃ v4 : Option V, σ = [some (.ref bl), some (.ref ea), some (.int c), some (.ref fa), v4] ∧ Same H1 Hc ∧ ∀ k, k < i → fs.drop k ∉ zs.map (·.2)) ⟨_, rfl, Same.refl _, fun k hk => by omega⟩ ?_ ?_
    · rintro i σ Hc hi ⟨v4, rfl, sc, hno⟩
      refine ⟨_, rfl, _, rfl, _, rfl, fa, _, rfl, SqL.of (sc _ _ hf1), fun p hp => ?_⟩
      have ec : jc (fs.map V.int) (some (0 + (i : Int))) none = (fs.drop i).map V.int := by rw [Int.zero_add, uc, List.map_drop]
      rw [ec]
      have mp := zj hp (o := .lst ((fs.drop i).map V.int))
      have Bp := (B1.same sc).same mp
      refine ⟨_, rfl, bl, _, (zs.map (·.2)).map yt, yt (fs.drop i), rfl, SqL.of Bp.1, TrsAt.lists Bp.2, TrAt.ints (a := p) (SqL.of zf), Nat.le_trans (xF _) (by decide), _, rfl, ?_⟩
      rw [if_neg Bool.false_ne_true, Zz]
      by_cases hin : fs.drop i ∈ zs.map (·.2)
      · rw [decide_eq_true hin]
        refine wO (kk .non _ ((s1.trans sc).trans mp) ?_)
        have hf : lacks (zs.map (·.2)) (x ++ [(c : Int)]) = false := by
          rw [← zab ne _ hLx, ← efs]
          exact ⟨_, List.mem_map.mpr ⟨i, List.mem_range.mpr (by omega), rfl⟩, hin⟩
        unfold aft
        rw [if_neg (by rw [hf]; exact Bool.false_ne_true)]
        rfl
      · rw [decide_eq_false hin]
        refine xT ⟨_, rfl, sc.trans mp, fun k hk => ?_⟩
        by_cases z : k < i
        · exact hno k z
        · rw [show k = i by omega]; exact hin
    rintro σ Hc ⟨v4, rfl, sc, hno⟩
    have hL : lacks (zs.map (·.2)) (x ++ [(c : Int)]) = true := Jh ne hLx (by rw [← efs]; exact hno)
    have haft : aft (zs.map (·.2)) x c = some (zG (zs.map (·.2)) fs) := by unfold aft; rw [if_pos hL, efs]
    refine W3 (fun σ H2 => ∃ (j : Nat) (ga : Addr), σ = [some (.ref bl), some (.ref ea), some (.int c), some (.ref ga), v4] ∧ H2 ga = some (.lst ((fs.drop j).map V.int)) ∧ j ≤ fs.length ∧ Same H1 H2 ∧ ∀ k, k < j → tX (zs.map (·.2)) (fs.drop k) = false)
      (fun σ H2 => match σ with | [_, _, _, some (.ref ga), _] => (match H2 ga with | some (.lst xs) => xs.length | _ => 0) | _ => 0) ⟨0, fa, rfl, sc _ _ hf1, Nat.zero_le _, sc, fun k hk => by omega⟩ ?_ ?_
    · rintro σ H2 ⟨j, ga, rfl, hga, hj, s2, hb⟩
      refine ⟨_, rfl, (by decide : 0 ≤ sizeLine), fun e0 he0 => ?_⟩
      have me := zj he0 (o := .lst [])
      refine ⟨yt (fs.drop j), yt [], TrAt.ints (a := ga) (SqL.of (me _ _ hga)), TrAt.ints (a := e0) (SqL.of zf), (by rw [uh]; decide), _, rfl, ?_⟩
      rw [if_pos rfl, uA]
      by_cases hz : fs.drop j = []
      · rw [decide_eq_true hz]
        have hjl : j = fs.length := by
          have := congrArg List.length hz
          rw [List.length_drop, List.length_nil] at this
          omega
        refine xT ?_
        refine ⟨_, rfl, ga, _, rfl, .inl ⟨SqL.of (me _ _ hga), fun q hq => ?_⟩⟩
        refine kk (.ref q) _ (((s1.trans s2).trans me).trans (zj hq)) ?_
        rw [haft]
        refine ⟨q, rfl, ?_⟩
        rw [zf, W7 (fun k hk => hb k (by omega)), hz]
      · rw [decide_eq_false hz]
        refine wO ?_
        have B2 := (B1.same s2).same me
        refine ⟨_, rfl, bl, rfl, ⟨_, SqL.of B2.1⟩, yO (K := K) (a := bl) (xs := zs.map fun t => V.ref t.1) (fun i us Hd => us = ((zs.take i).filter fun z => decide (z.2.take (fs.drop j).length = fs.drop j)).map (fun z => V.ref z.1) ∧ Same (upd H2 e0 (.lst [])) Hd) ⟨by simp, Same.refl _⟩ (fun i us Hd _ ⟨_, e⟩ => SqL.of (e _ _ B2.1)) ?_ ?_⟩
        · rintro i u us Hd hi ⟨rfl, sd⟩
          rw [List.getElem?_map] at hi
          obtain ⟨z, hzj, e⟩ := Option.map_eq_some_iff.mp hi
          subst e
          have hzm := List.mem_of_getElem? hzj
          refine ⟨by rw [List.length_map]; exact Nat.lt_of_le_of_lt (Nat.le_trans (List.length_filter_le _ _) (by rw [List.length_take]; exact show min i zs.length ≤ 10 by omega)) (by decide), ?_⟩
          have hgd := sd _ _ (me _ _ hga)
          refine ⟨_, rfl, _, rfl, ga, _, rfl, .inl (SqL.of hgd), _, rfl, z.1, _, rfl, SqL.of (sd _ _ (B2.2 z hzm)), fun p4 hp4 => ?_⟩
          rw [List.length_map, ZJ, ← List.map_take]
          have m4 := zj hp4 (o := .lst ((z.2.take (fs.drop j).length).map V.int))
          refine ⟨_, rfl, yt (z.2.take (fs.drop j).length), yt (fs.drop j), TrAt.ints (a := p4) (SqL.of zf), TrAt.ints (a := ga) (SqL.of (m4 _ _ hgd)), (by rw [uh]; decide), _, rfl, ?_⟩
          rw [if_neg Bool.false_ne_true, uA]
          by_cases hq : z.2.take (fs.drop j).length = fs.drop j
          · rw [decide_eq_true hq]
            refine wO ⟨_, rfl, ?_, sd.trans m4⟩
            rw [List.take_succ, hzj, Option.toList_some, List.filter_append, List.filter_cons, if_pos (decide_eq_true hq), List.map_append]; rfl
          · rw [decide_eq_false hq]
            refine xT ⟨?_, sd.trans m4⟩
            rw [List.take_succ, hzj, Option.toList_some, List.filter_append, List.filter_cons, if_neg (by rw [decide_eq_false hq]; exact Bool.false_ne_true), List.filter_nil, List.append_nil]
        rintro us Hd ⟨rfl, sd⟩ D4 hD4
        rw [List.length_map, List.take_length]
        refine ⟨(by decide : 0 ≤ sizeLine), fun p0 hp0 => ?_⟩
        generalize hks : (zs.filter fun z => decide (z.2.take (fs.drop j).length = fs.drop j)) = ks at hD4 hp0
        have m4 := zj hD4 (o := .lst (ks.map fun z => V.ref z.1))
        have m5 := zj hp0 (o := .lst [])
        have hkt : ∀ z ∈ ks, (upd (upd Hd D4 (.lst (ks.map fun z => V.ref z.1))) p0 (.lst [])) z.1 = some (.lst (z.2.map V.int)) := fun z hz => m5 _ _ (m4 _ _ (sd _ _ (B2.2 z (by rw [← hks] at hz; exact (List.mem_filter.mp hz).1))))
        refine ⟨.lst ((ks.map (·.2)).map yt), .lst [], ?_, ?_, (by rw [wj]; have := xF (ks.map (·.2)); omega), _, rfl, ?_⟩
        · rw [TrAt]; exact ⟨D4, _, rfl, SqL.of (m5 _ _ zf), TrsAt.lists hkt⟩
        · rw [TrAt]; exact ⟨p0, _, rfl, SqL.of zf, by rw [TrsAt]⟩
        have sE := s2.trans (me.trans (sd.trans (m4.trans m5)))
        have hgE := m5 _ _ (m4 _ _ (sd _ _ (me _ _ hga)))
        rw [if_neg Bool.false_ne_true, ZC]
        have hbb : tX (zs.map (·.2)) (fs.drop j) = !((ks.map (·.2)).map yt).isEmpty := by
          unfold tX
          rw [List.any_map, ← hks, Bool.eq_iff_iff]
          simp [List.any_eq_true, List.isEmpty_iff]
        cases hbe : ((ks.map (·.2)).map yt).isEmpty with
        | true =>
          rw [hbe] at hbb
          refine wO ?_
          have hjl : j < fs.length := by
            by_cases z : j < fs.length
            · exact z
            · exact absurd (List.drop_of_length_le (by omega)) hz
          refine ⟨_, rfl, _, rfl, ga, _, rfl, SqL.of hgE, fun q hq => ?_⟩
          have ec : jc ((fs.drop j).map V.int) (some 1) none = (fs.drop (j + 1)).map V.int := by
            rw [show (some (1 : Int)) = some ((1 : Nat) : Int) from rfl, uc, ← List.map_drop, List.drop_drop]
          rw [ec]
          refine ⟨⟨j + 1, q, rfl, zf, hjl, sE.trans (zj hq), fun k hk => ?_⟩, ?_⟩
          · by_cases z : k < j
            · exact hb k z
            · rw [show k = j by omega, hbb]; rfl
          · show (match (upd _ q _) q with | some (.lst xs) => xs.length | _ => 0) < (match H2 ga with | some (.lst xs) => xs.length | _ => 0)
            rw [zf, hga]
            show ((fs.drop (j + 1)).map V.int).length < ((fs.drop j).map V.int).length
            rw [List.length_map, List.length_map, List.length_drop, List.length_drop]
            omega
        | false =>
          rw [hbe] at hbb
          refine xT ?_
          refine ⟨_, rfl, ga, _, rfl, .inl ⟨SqL.of hgE, fun q hq => ?_⟩⟩
          refine kk (.ref q) _ ((s1.trans sE).trans (zj hq)) ?_
          rw [haft]
          refine ⟨q, rfl, ?_⟩
          rw [zf, QJ hj hb hbb]
    · intro σ H2 Q Q' hq
      rintro ⟨v, e, sz, h⟩
      refine ⟨v, e, sz, fun p hp => ?_⟩
      obtain ⟨t1, t2, a1, a2, dep, c1, ec, q⟩ := h p hp
      refine ⟨t1, t2, a1, a2, dep, c1, ec, ?_⟩
      cases c1 with
      | false => exact xT (hq _ _ (by simpa using q))
      | true =>
        refine wO ?_
        have q := (show _ from (by simpa only [if_true] using q))
        obtain ⟨v2, e2, a, ea', hs, q⟩ := q
        refine ⟨v2, e2, a, ea', hs, CompLoop.mono q fun v3 H3 q3 => ?_⟩
        obtain ⟨sz2, h2⟩ := q3
        refine ⟨sz2, fun p2 hp2 => ?_⟩
        obtain ⟨t3, t4, a3, a4, dep2, c2, ec2, q4⟩ := h2 p2 hp2
        exact ⟨t3, t4, a3, a4, dep2, c2, ec2, hq _ _ q4⟩
end
theorem Qv {ls : List (List Int)} (ne : ∀ l ∈ ls, l ≠ []) {x y : List Int} {c : Int} (h : aft ls x c = some y) : lacks ls (x ++ [c]) = true ∧ y = zG ls (x ++ [c]) ∧ jW ls y := by
  unfold aft at h
  by_cases hl : lacks ls (x ++ [c]) = true
  · rw [if_pos hl] at h
    cases h
    exact ⟨hl, rfl, jG ne hl⟩
  · rw [if_neg hl] at h; cases h
theorem QH {κ : Type} [DecidableEq κ] {k : κ} {v : V} : ∀ {kvs : List (κ × V)}, yh kvs k = some v → (k, v) ∈ kvs
  | [], h => by cases h
  | p :: r, h => by
    by_cases e : p.1 = k
    · rw [yH e] at h
      cases h
      rw [← e]
      exact List.mem_cons_self
    · rw [yK e] at h
      exact List.mem_cons_of_mem _ (QH h)
def ye (ls : List (List Int)) (x : List Int) (n : Nat) : List (Nat × List Int) := (List.range n).filterMap fun (c : Nat) => (aft ls x (c : Int)).map fun y => (c, y)
theorem qD (ls : List (List Int)) (x : List Int) (n : Nat) : ye ls x (n + 1) = ye ls x n ++ ((aft ls x (n : Int)).map fun y => (n, y)).toList := by
  unfold ye
  rw [List.range_succ, List.filterMap_append]
  congr 1
theorem qe {ls : List (List Int)} {x : List Int} {n : Nat} {p : Nat × List Int} (h : p ∈ ye ls x n) : p.1 < n ∧ aft ls x (p.1 : Int) = some p.2 := by
  obtain ⟨c, hc, e⟩ := List.mem_filterMap.mp h
  obtain ⟨y, hy, rfl⟩ := Option.map_eq_some_iff.mp e
  exact ⟨List.mem_range.mp hc, hy⟩
theorem Z6 (ls : List (List Int)) (x : List Int) (n : Nat) : (ye ls x n).length ≤ n := by
  unfold ye
  exact Nat.le_trans (List.length_filterMap_le ..) (by rw [List.length_range]; exact Nat.le_refl _)
abbrev StL := List (Addr × Nat × Addr × List Int)
structure StepAt (H : Hp) (ls : List (List Int)) (n : Nat) (x : List Int) (la : Addr) (ss : StL) : Prop where
  li : H la = some (.lst (ss.map fun s => V.ref s.1))
  tu : ∀ s ∈ ss, H s.1 = some (.tup [.int ((s.2.1 : Nat) : Int), .ref s.2.2.1]) ∧ H s.2.2.1 = some (.tup (s.2.2.2.map V.int))
  eq : ss.map (fun s => (s.2.1, s.2.2.2)) = ye ls x n
theorem StepAt.keep {H H' : Hp} {ls : List (List Int)} {n : Nat} {x : List Int} {la : Addr} {ss : StL} (h : StepAt H ls n x la ss) (hl : H' la = H la) (ht : ∀ c zs, H c = some (.tup zs) → H' c = some (.tup zs)) : StepAt H' ls n x la ss :=
  ⟨by rw [hl]; exact h.li, fun s hs => ⟨ht _ _ (h.tu s hs).1, ht _ _ (h.tu s hs).2⟩, h.eq⟩
theorem StepAt.len {H : Hp} {ls : List (List Int)} {n : Nat} {x : List Int} {la : Addr} {ss : StL} (h : StepAt H ls n x la ss) : ss.length ≤ n := by
  have := congrArg List.length h.eq
  rw [List.length_map] at this
  rw [this]
  exact Z6 ls x n
structure StepsD (P : Program) (w : World) (H : Hp) (fo : Addr) (ls : List (List Int)) (b : Nat) (kvs : List (List Key × V)) : Prop where
  d : DE P w H fo kvs
  nd : (kvs.map (·.1)).Nodup
  ok : ∀ kv ∈ kvs, ∃ x la ss, kv.1 = kI x ∧ jW ls x ∧ kv.2 = .ref la ∧ StepAt H ls b x la ss
section
variable {P : Program} {w : World} {H H' : Hp} {fo : Addr} {ls : List (List Int)} {b : Nat} {kvs : List (List Key × V)}
theorem StepsD.get (s : StepsD P w H fo ls b kvs) {x : List Int} {v : V} (h : yh kvs (kI x) = some v) : ∃ la ss, v = .ref la ∧ jW ls x ∧ StepAt H ls b x la ss := by
  obtain ⟨y, la, ss, h1, h2, h3, h4⟩ := s.ok _ (QH h)
  obtain rfl := Ve h1
  exact ⟨la, ss, h3, h2, h4⟩
theorem StepsD.len (s : StepsD P w H fo ls b kvs) (h4 : ls.length ≤ 4) (h : ∀ st ∈ ls, st.length ≤ 4) : kvs.length ≤ 13 := by
  have hk := Q7 h4 h
  by_cases hc : kvs.length ≤ ((Vn ls ls).map kI).length
  · rw [List.length_map] at hc; omega
  · exfalso
    obtain ⟨i, j, x, hij, h1, h2⟩ := Jl (kvs.map (·.1)) ((Vn ls ls).map kI) (fun k hk => by
      obtain ⟨p, hp, rfl⟩ := List.mem_map.mp hk
      obtain ⟨x, la, ss, q1, q2, _⟩ := s.ok p hp
      exact List.mem_map.mpr ⟨x, Wh.mpr q2, q1.symm⟩) (by rw [List.length_map (f := fun x : List Key × V => x.1)]; omega)
    have hj := (List.getElem?_eq_some_iff.mp h2).1
    have := (List.getElem?_inj (by omega) s.nd).mp (h1.trans h2.symm)
    omega
theorem StepsD.keep (s : StepsD P w H fo ls b kvs) (hf : H' fo = H fo) (hl : ∀ kv ∈ kvs, ∀ la, kv.2 = .ref la → H' la = H la) (ht : ∀ c zs, H c = some (.tup zs) → H' c = some (.tup zs)) : StepsD P w H' fo ls b kvs :=
  ⟨s.d.stay hf ht, s.nd, fun kv hk => let ⟨x, la, ss, h1, h2, h3, h4⟩ := s.ok kv hk; ⟨x, la, ss, h1, h2, h3, h4.keep (hl kv hk la h3) ht⟩⟩
theorem StepsD.same (s : StepsD P w H fo ls b kvs) (m : Same H H') : StepsD P w H' fo ls b kvs := by
  have d := s.d
  obtain ⟨_, _, e, _⟩ := d
  exact s.keep (by rw [e]; exact m _ _ e) (fun kv hk la e => by
    obtain ⟨x, la', ss, _, _, h3, h4⟩ := s.ok kv hk
    rw [e] at h3
    cases h3
    rw [h4.li]
    exact m _ _ h4.li) fun c zs h => m _ _ h
theorem StepsD.new (h : DE P w H fo []) : StepsD P w H fo ls b [] := ⟨h, List.nodup_nil, fun kv hk => nomatch hk⟩
theorem StepsD.put {x : List Int} {la : Addr} {ss : StL} (s : StepsD P w H fo ls b kvs) (hn : yh kvs (kI x) = none) (hd : DE P w H' fo (putK kvs (kI x) (.ref la))) (ho : ∀ c, c ≠ fo → H' c = H c) (hx : jW ls x) (hs : StepAt H ls b x la ss) : StepsD P w H' fo ls b (putK kvs (kI x) (.ref la)) := by
  have nt : ∀ {c : Addr} {u : HO}, H c = some u → (∀ φ, u ≠ .ext φ) → c ≠ fo := fun {c u} h hu z => by
    have d := s.d
    obtain ⟨_, _, e, _⟩ := d
    rw [z, e] at h
    cases h
    exact hu _ rfl
  have kt : ∀ c zs, H c = some (.tup zs) → H' c = some (.tup zs) := fun c zs h => by rw [ho c (nt h fun _ z => nomatch z)]; exact h
  refine ⟨hd, J7 _ s.nd hn, fun kv hk => ?_⟩
  rw [qZ _ hn] at hk
  rcases List.mem_append.mp hk with hk | hk
  · obtain ⟨y, la', ss', h1, h2, h3, h4⟩ := s.ok kv hk
    exact ⟨y, la', ss', h1, h2, h3, h4.keep (ho _ (nt h4.li fun _ z => nomatch z)) kt⟩
  · rw [List.mem_singleton.mp hk]
    exact ⟨x, la, ss, rfl, hx, rfl, hs.keep (ho _ (nt hs.li fun _ z => nomatch z)) kt⟩
end
theorem zb9 {c : TT} {tb : TS} {D : Ends} {σ : L2.St} {H : Hp} (W : Nat → L2.St → Hp → Prop) (m : Nat) (h0 : W m σ H)
    (hs : ∀ m σ H, W m σ H → c σ H fun b H1 => if b = true then tb { D with nx := fun σ' H' => ∃ m', m' < m ∧ W m' σ' H', ct := fun σ' H' => ∃ m', m' < m ∧ W m' σ' H', bk := D.nx } σ H1 else D.nx σ H1)
    (mono : ∀ σ H Q Q', (∀ b H1, Q b H1 → Q' b H1) → c σ H Q → c σ H Q') : Jx c tb D σ H := by
  refine ⟨W, ⟨m, h0⟩, fun m σ H hw => mono σ H _ _ (fun b H1 q => ?_) (hs m σ H hw)⟩
  cases b with
  | true => exact wO ⟨_, fun _ _ h => h, by simpa using q⟩
  | false => exact xT (by simpa using q)
section
variable {P : Program} {w : World} {K : PySem.W.Frag} {mg : Str → Option Value} {base : Heap}
def zdd (ls : List (List Int)) (b : Nat) (kvs : List (List Key × V)) : Prop := ∀ x, yh kvs (kI x) ≠ none → ∀ p ∈ ye ls x b, yh kvs (kI p.2) ≠ none
def ux (P : Program) (w : World) : Sp := fun vs H Q _ => ∃ (r : Addr) (b : Nat) (bl : Addr) (zs : List (Addr × List Int)), vs = [.ref r] ∧ RuleAt H r b bl zs ∧ yl b (zs.map (·.2)) ∧ ∀ fo kvs H', H fo = none → Same H H' → StepsD P w H' fo (zs.map (·.2)) b kvs → zdd (zs.map (·.2)) b kvs → yh kvs (kI []) ≠ none → Q (.ref fo) H'
theorem yW : zB ["rule", "base", "bad", "found", "waiting", "end", "both"] ["rule"] (zq yR) := ⟨rfl, rfl, rfl, by decide +kernel, rfl, by decide +kernel, by decide +kernel⟩
set_option maxHeartbeats 0 in
theorem Vq {f f1 : Addr} {fd fd1 : FuncData} (D : Df K mg "_law_steps" yR ["rule"] f fd) (vX : Df K mg "_law_behind" wQ ["bad", "end", "figure"] f1 fd1) (T : Blt mg) : FnOk P w K mg base CX0 2 f fd ["rule"] (ux P w) := by
  have YK : FnOk P w K mg base CX0 1 f1 fd1 ["bad", "end", "figure"] uY := j9 vX T
  refine D.fn.ok yW (fun vs H Q E h => ?_) (fun cdv A outer s H vs Q E hr h => ?_)
  · obtain ⟨r, b, bl, zs, rfl, _⟩ := h; rfl
  · obtain ⟨r, b, bl, zs, rfl, R, g, kk⟩ := h
    have HU := Ww hr
    have b2 := g.b2
    have b16 := g.b16
    have h4 : zs.length ≤ 4 := by have := g.len; rwa [List.length_map] at this
    have hst4 : ∀ st ∈ zs.map (·.2), st.length ≤ 4 := fun st h => (g.st st h).len
    have ne : ∀ st ∈ zs.map (·.2), st ≠ [] := fun st h => (g.st st h).ne
    refine ⟨_, (zp (Wd (pv 0) (Jq rfl (xO (zY (i := 1) yW.nd rfl (Or.inl rfl)) (xO (zY (i := 2) yW.nd rfl (Or.inr rfl)) ZK))))
      (zp (zF (i := 3) yW.nd rfl (Or.inl rfl) zac)
      (zp (zF (i := 4) yW.nd rfl (Or.inl rfl) (zM (zc (ue zg) zg)))
      (zp (YT PassesOwn.never (zO (Jc K HU) (pv 4) (zM zg) (zT _))
        (zp (zF (i := 5) yW.nd rfl (Or.inr rfl) (zcQ PySem.F.plainAttrs_list PySem.F.slot_list_pop PySem.F.type_list_pop zc0 (pv 4)))
        (zu (xX (zdc (zaI (ud hr) (pv 5) (pv 3)) (by with_unfolding_all rfl))
          (zp (vg (i := 6) (show CScope (zq yR) _ "figure" ["rule", "base", "bad", "found", "waiting", "end", "both"] ["bad", "end"] [2, 5] from ⟨rfl, by decide +kernel, by decide +kernel, rfl, by decide +kernel, rfl, by decide +kernel, by decide +kernel⟩) rfl yW.nd rfl (Or.inl rfl) (yp rfl T.n_range (zc (pv 1) zg)) (fun _ _ _ _ => yD) (fun _ _ _ _ => (ue (zc (pv 0) (zc (zJ vX YK (hr.mono (by decide)) (zc (pv 1) (zc (pv 2) (zc (pv 0) zg)))) zg)))))
          (zp (JT (ud hr) (pv 3) (pv 5) (xV (show CScope (zq yR) _ "one" ["rule", "base", "bad", "found", "waiting", "end", "both"] [] [] from ⟨rfl, by decide +kernel, by decide +kernel, rfl, by decide +kernel, rfl, by decide +kernel, by decide +kernel⟩) rfl (jX K (pv 6)) (fun _ _ _ _ => (Zy (zO Wb (zP (vD K) (pv 0) zm (fun _ _ => rfl)) tR (zT _)))) (fun _ _ _ _ => (pv 0))) rfl)
          (zu (vO (XH PySem.F.plainAttrs_list PySem.F.slot_list_extend PySem.F.type_list_extend zas (pv 4) (zc (Yx (show jo (zq yR) _ ["figure", "there"] ["rule", "base", "bad", "found", "waiting", "end", "both"] [] [] from ⟨rfl, by decide +kernel, by decide +kernel, by decide +kernel, by decide +kernel, rfl, by decide +kernel, by decide +kernel⟩) rfl (jX K (qK P w (ud hr) (pv 3) (pv 5) (fun _ _ => rfl))) (fun _ _ _ _ => (U4 K 2 rfl (xO (zY (i := 0) (show List.Nodup (α := Str) ["figure", "there"] by decide) rfl (.inl (lookup_relabel_local rfl)) (.inr (lookup_relabel_local rfl))) (xO (zY (i := 1) (show List.Nodup (α := Str) ["figure", "there"] by decide) rfl (.inl (lookup_relabel_local rfl)) (.inr (lookup_relabel_local rfl))) ZK)))) (fun _ _ _ _ => yD) (fun _ _ _ _ => (pv 1))) zg))))))
          yg))))
      (zu (zH (pv 3))))))), ?_⟩
    refine ⟨_, rfl, r, _, rfl, SqT.of R.tu, rfl, _, _, rfl, _, _, rfl, rfl, ?_⟩
    refine fun fo H1 hfo d1 c1 => ?_
    have s1 : Same H H1 := fun c u e => by rw [c1 c (zx e hfo)]; exact e
    refine ⟨(by decide : 0 ≤ sizeLine), fun e0 he0 => ⟨(by show 1 ≤ sizeLine; decide), fun wa hwa => ?_⟩⟩
    have m2 := zj he0 (o := .tup [])
    have m3 := zj hwa (o := .lst [.ref e0])
    have hwa0 : H wa = none := s1.free (m2.free hwa)
    have S2 : StepsD P w (upd (upd H1 e0 (.tup [])) wa (.lst [.ref e0])) fo (zs.map (·.2)) b [] := .new ((d1.same m2).same m3)
    have s2 := (s1.trans m2).trans m3
    have hw2 : (upd (upd H1 e0 (.tup [])) wa (.lst [.ref e0])) wa = some (.lst (([(e0, ([] : List Int))] : List (Addr × List Int)).map fun z => V.ref z.1)) := zf
    have he2 : (upd (upd H1 e0 (.tup [])) wa (.lst [.ref e0])) e0 = some (.tup (([] : List Int).map V.int)) := m3 _ _ zf
    generalize upd (upd H1 e0 (.tup [])) wa (.lst [.ref e0]) = H2 at S2 s2 hw2 he2
    refine zb9 (fun m σ Hc => ∃ (kvs : List (List Key × V)) (ws : List (Addr × List Int)) (v5 v6 : Option V), σ = [some (.ref r), some (.int b), some (.ref bl), some (.ref fo), some (.ref wa), v5, v6] ∧ StepsD P w Hc fo (zs.map (·.2)) b kvs ∧ (∀ kv ∈ kvs, kv.2 ≠ .ref wa) ∧ Hc wa = some (.lst (ws.map fun z => V.ref z.1)) ∧ (∀ z ∈ ws, Hc z.1 = some (.tup (z.2.map V.int)) ∧ jW (zs.map (·.2)) z.2) ∧ (∀ x, yh kvs (kI x) ≠ none → ∀ p ∈ ye (zs.map (·.2)) x b, yh kvs (kI p.2) ≠ none ∨ p.2 ∈ ws.map (·.2)) ∧ (yh kvs (kI []) ≠ none ∨ [] ∈ ws.map (·.2)) ∧ Same H Hc ∧ ws.length ≤ 1 + 16 * kvs.length ∧ m = (13 - kvs.length) * 17 + ws.length) _ ⟨[], [(e0, [])], none, none, rfl, S2, (fun kv hk => nomatch hk), hw2, (fun z hz => by rw [List.mem_singleton.mp hz]; exact ⟨he2, .inl rfl⟩), (fun x h => absurd rfl h), .inr (by simp), s2, by simp, rfl⟩ ?_ ?_
    · rintro m σ Hc ⟨kvs, ws, v5, v6, rfl, S, hkw, hwl, hws, hcl, hrt, sc, hwn, rfl⟩
      have hk13 := S.len (by rw [List.length_map]; exact h4) hst4
      refine ⟨_, rfl, (by decide : 0 ≤ sizeLine), fun p0 hp0 => ?_⟩
      have mp := zj hp0 (o := .lst [])
      refine ⟨.lst ((ws.map (·.2)).map XJ), .lst [], ?_, ?_, (by rw [wj]; have := W5 (ws.map (·.2)); omega), _, rfl, ?_⟩
      · rw [TrAt]; exact ⟨wa, _, rfl, SqL.of (mp _ _ hwl), TrsAt.tups fun z hz => mp _ _ (hws z hz).1⟩
      · rw [TrAt]; exact ⟨p0, _, rfl, SqL.of zf, by rw [TrsAt]⟩
      rw [if_pos rfl, ZC]
      have Sp := S.same mp
      have hwp := mp _ _ hwl
      have scp := sc.trans mp
      have hwsp : ∀ z ∈ ws, (upd Hc p0 (.lst [])) z.1 = some (.tup (z.2.map V.int)) ∧ jW (zs.map (·.2)) z.2 := fun z hz => ⟨mp _ _ (hws z hz).1, (hws z hz).2⟩
      generalize upd Hc p0 (.lst []) = Hp at Sp hwp scp hwsp
      rcases (show ws = [] ∨ ∃ (ws' : List (Addr × List Int)) (z : Addr × List Int), ws = ws' ++ [z] by
        rcases List.eq_nil_or_concat ws with h | ⟨a, b, h⟩
        · exact .inl h
        · exact .inr ⟨a, b, by rw [h, List.concat_eq_append]⟩) with rfl | ⟨ws', z, rfl⟩
      · refine xT ⟨_, rfl, ?_⟩
        exact kk fo kvs Hp hfo scp Sp (fun x hx p hp => (hcl x hx p hp).resolve_right (by simp)) (hrt.resolve_right (by simp))
      · have hzst := (hwsp z (by simp)).2
        have hz1 := (hwsp z (by simp)).1
        have hfowa : fo ≠ wa := fun e => by
          have d := Sp.d
          obtain ⟨_, _, e2, _⟩ := d
          rw [e, hwp] at e2; cases e2
        refine zdq (by simp) ?_
        refine ⟨_, rfl, .inl ⟨rfl, _, SqL.of hwp⟩, wa, _, .ref z.1, rfl, rfl, hwp, by simp, ?_⟩
        rw [show ((ws' ++ [z]).map fun z => V.ref z.1).dropLast = ws'.map fun z => V.ref z.1 by simp]
        have kt : ∀ c us, Hp c = some (.tup us) → (upd Hp wa (.lst (ws'.map fun z => V.ref z.1))) c = some (.tup us) := fun c us h => by
          rw [zr (fun q => by rw [q, hwp] at h; cases h)]; exact h
        have S3 : StepsD P w (upd Hp wa (.lst (ws'.map fun z => V.ref z.1))) fo (zs.map (·.2)) b kvs := Sp.keep (zr hfowa) (fun kv hk la e => zr fun q => hkw kv hk (by rw [e, q])) kt
        have sc3 : Same H (upd Hp wa (.lst (ws'.map fun z => V.ref z.1))) := fun c u e => by rw [zr (zx e hwa0)]; exact scp _ _ e
        have hw3 : (upd Hp wa (.lst (ws'.map fun z => V.ref z.1))) wa = some (.lst (ws'.map fun z => V.ref z.1)) := zf
        have hws3 : ∀ y ∈ ws', (upd Hp wa (.lst (ws'.map fun z => V.ref z.1))) y.1 = some (.tup (y.2.map V.int)) ∧ jW (zs.map (·.2)) y.2 := fun y hy => ⟨kt _ _ (hwsp y (by simp [hy])).1, (hwsp y (by simp [hy])).2⟩
        have hz3 := kt _ _ hz1
        generalize upd Hp wa (.lst (ws'.map fun z => V.ref z.1)) = H3 at S3 sc3 hw3 hws3 hz3
        rw [List.length_append, List.length_singleton] at hwn
        refine ⟨_, rfl, _, rfl, fo, kvs, kI z.2, z.1, rfl, S3.d, rfl, by rw [Vm]; exact hz3, _, rfl, ?_⟩
        cases hv : yh kvs (kI z.2) with
        | some v =>
          refine xT ⟨_, ?_, kvs, ws', _, _, rfl, S3, hkw, hw3, hws3, fun x hx p hp => ?_, ?_, sc3, by omega, rfl⟩
          · rw [List.length_append, List.length_singleton]; omega
          · rcases hcl x hx p hp with h | h
            · exact .inl h
            · rw [List.map_append, List.mem_append] at h
              rcases h with h | h
              · exact .inr h
              · rw [List.mem_singleton.mp h, hv]; exact .inl (by simp)
          · rcases hrt with h | h
            · exact .inl h
            · rw [List.map_append, List.mem_append] at h
              rcases h with h | h
              · exact .inr h
              · rw [List.mem_singleton.mp h, hv]; exact .inl (by simp)
        | none =>
          refine wO ?_
          have B3 : BadAt H3 bl zs := ⟨sc3 _ _ R.li, fun z hz => sc3 _ _ (R.st z hz)⟩
          refine ⟨_, rfl, _, rfl, by omega, by omega, ?_⟩
          rw [Int.toNat_natCast]
          refine wC (lo := 0) (n := b) (fun i ys Hd => ∃ bs : List (Addr × Nat × V), ys = bs.map (fun t => V.ref t.1) ∧ bs.map (·.2.1) = List.range i ∧ (∀ t ∈ bs, Hd t.1 = some (.tup [.int ((t.2.1 : Nat) : Int), t.2.2]) ∧ AftV Hd (aft (zs.map (·.2)) z.2 (t.2.1 : Int)) t.2.2) ∧ Same H3 Hd) ⟨[], rfl, rfl, (fun t h => nomatch h), Same.refl _⟩ ?_ ?_
          · rintro i ys Hd hi ⟨bs, rfl, e1, hbs, sd⟩
            have hbl : bs.length = i := by have := congrArg List.length e1; rwa [List.length_map, List.length_range] at this
            refine ⟨by rw [List.length_map, hbl]; exact Nat.lt_of_le_of_lt (show i ≤ 100 by omega) (by decide), ?_⟩
            unfold jf
            dsimp only
            rw [if_pos rfl]
            refine ⟨_, rfl, _, rfl, _, rfl, _, rfl, bl, zs, z.1, z.2, i, b, by rw [Int.zero_add]; rfl, B3.same sd, sd _ _ hz3, g, hzst, fun v He se av => ⟨(by show 2 ≤ sizeLine; decide), fun q hq => ?_⟩⟩
            have mq := zj hq (o := .tup [.int (0 + (i : Int)), v])
            have sq := se.trans mq
            refine ⟨bs ++ [(q, i, v)], by rw [List.map_append]; rfl, by rw [List.map_append, e1, List.range_succ]; rfl, fun t ht => ?_, sd.trans sq⟩
            rcases List.mem_append.mp ht with h | h
            · exact ⟨sq _ _ (hbs t h).1, (hbs t h).2.same fun c us e => sq _ _ e⟩
            · rw [List.mem_singleton.mp h]
              exact ⟨by rw [zf, Int.zero_add], av.same fun c us e => mq _ _ e⟩
          rintro ys H4 ⟨bs, rfl, e1, hbs, s34⟩ bo hbo
          have hbl : bs.length = b := by have := congrArg List.length e1; rwa [List.length_map, List.length_range] at this
          have m4 := zj hbo (o := .lst (bs.map fun t => V.ref t.1))
          have s35 := s34.trans m4
          have hbo5 : (upd H4 bo (.lst (bs.map fun t => V.ref t.1))) bo = some (.lst (bs.map fun t => V.ref t.1)) := zf
          have hbs5 : ∀ t ∈ bs, (upd H4 bo (.lst (bs.map fun t => V.ref t.1))) t.1 = some (.tup [.int ((t.2.1 : Nat) : Int), t.2.2]) ∧ AftV (upd H4 bo (.lst (bs.map fun t => V.ref t.1))) (aft (zs.map (·.2)) z.2 (t.2.1 : Int)) t.2.2 := fun t h => ⟨m4 _ _ (hbs t h).1, (hbs t h).2.same fun c us e => m4 _ _ e⟩
          generalize upd H4 bo (.lst (bs.map fun t => V.ref t.1)) = H5 at s35 hbo5 hbs5
          refine ⟨_, rfl, bo, rfl, ⟨_, SqL.of hbo5⟩, yO (K := K) (a := bo) (xs := bs.map fun t => V.ref t.1) (fun i ys Hd => ∃ ss : StL, ys = ss.map (fun s => V.ref s.1) ∧ (∀ s ∈ ss, Hd s.1 = some (.tup [.int ((s.2.1 : Nat) : Int), .ref s.2.2.1]) ∧ Hd s.2.2.1 = some (.tup (s.2.2.2.map V.int))) ∧ ss.map (fun s => (s.2.1, s.2.2.2)) = ye (zs.map (·.2)) z.2 i ∧ Same H5 Hd) ⟨[], rfl, (fun s h => nomatch h), rfl, Same.refl _⟩ (fun i ys Hd _ ⟨_, _, _, _, e⟩ => SqL.of (e _ _ hbo5)) ?_ ?_⟩
          · rintro i u ys Hd hi ⟨ss, rfl, hss, ess, sd⟩
            rw [List.getElem?_map] at hi
            obtain ⟨t, hti, e⟩ := Option.map_eq_some_iff.mp hi
            subst e
            have hil : i < b := by rw [← hbl]; exact (List.getElem?_eq_some_iff.mp hti).1
            have hti1 : t.2.1 = i := by
              have := congrArg (fun l : List Nat => l[i]?) e1
              simp only [List.getElem?_map, hti, List.getElem?_range hil, Option.map_some] at this
              exact Option.some.inj this
            obtain ⟨ht1, ht2⟩ := hbs5 t (List.mem_of_getElem? hti)
            have hsl : ss.length ≤ i := by have := congrArg List.length ess; rw [List.length_map] at this; rw [this]; exact Z6 _ _ _
            refine ⟨by rw [List.length_map]; exact Nat.lt_of_le_of_lt (show ss.length ≤ 100 by omega) (by decide), ?_⟩
            refine ⟨_, rfl, t.1, _, _, t.2.2, rfl, rfl, SqT.of (sd _ _ ht1), rfl, rfl, _, rfl, ?_⟩
            rw [hti1] at ht1 ht2
            cases ha : aft (zs.map (·.2)) z.2 (i : Int) with
            | none =>
              rw [ha] at ht2
              have ht2 : t.2.2 = .non := ht2
              rw [ht2]
              refine zb0 (by rw [decide_eq_true rfl]; rfl) ⟨ss, rfl, hss, ?_, sd⟩
              rw [ess, qD, ha]; simp
            | some y =>
              rw [ha] at ht2
              obtain ⟨ya, eya, hya⟩ := ht2
              rw [eya] at ht1 ⊢
              refine zdq (by rw [decide_eq_false (fun z => by cases z)]; rfl) ⟨_, rfl, ss ++ [(t.1, i, ya, y)], by rw [List.map_append]; rfl, fun s hs => ?_, ?_, sd⟩
              · rcases List.mem_append.mp hs with h | h
                · exact hss s h
                · rw [List.mem_singleton.mp h]; exact ⟨sd _ _ ht1, sd _ _ hya⟩
              · rw [List.map_append, ess, qD, ha]; rfl
          rintro ys H6 ⟨ss, rfl, hss, ess, s56⟩ la hla
          rw [List.length_map, hbl] at ess
          have m6 := zj hla (o := .lst (ss.map fun s => V.ref s.1))
          have s37 := (s35.trans s56).trans m6
          have St7 : StepAt (upd H6 la (.lst (ss.map fun s => V.ref s.1))) (zs.map (·.2)) b z.2 la ss := ⟨zf, fun s h => ⟨m6 _ _ (hss s h).1, m6 _ _ (hss s h).2⟩, ess⟩
          have hlawa : la ≠ wa := fun e => by have := s56 _ _ (s35 _ _ hw3); rw [← e, hla] at this; cases this
          generalize upd H6 la (.lst (ss.map fun s => V.ref s.1)) = H7 at s37 St7
          have S7 := S3.same s37
          have hz7 := s37 _ _ hz3
          have hssl := St7.len
          refine ⟨_, rfl, _, rfl, fo, kvs, kI z.2, z.1, rfl, S7.d, rfl, by rw [Vm]; exact hz7, Nat.lt_of_le_of_lt (show kvs.length ≤ 100 by omega) (by decide), fun H8 d8 c8 => ?_⟩
          have S8 := S7.put hv d8 c8 hzst St7
          have nfo : ∀ {c : Addr} {u : HO}, H7 c = some u → (∀ φ, u ≠ .ext φ) → c ≠ fo := fun {c u} h hu z => by
            have d := S7.d
            obtain ⟨_, _, e, _⟩ := d
            rw [z, e] at h
            cases h
            exact hu _ rfl
          have k8 : ∀ {c : Addr} {u : HO}, H7 c = some u → (∀ φ, u ≠ .ext φ) → H8 c = some u := fun {c u} h hu => by rw [c8 c (nfo h hu)]; exact h
          have hw8 := k8 (s37 _ _ hw3) (fun _ z => nomatch z)
          have hz8 := k8 hz7 (fun _ z => nomatch z)
          have hws8 : ∀ y ∈ ws', H8 y.1 = some (.tup (y.2.map V.int)) ∧ jW (zs.map (·.2)) y.2 := fun y hy => ⟨k8 (s37 _ _ (hws3 y hy).1) (fun _ z => nomatch z), (hws3 y hy).2⟩
          have sc8 : Same H H8 := fun c u e => by rw [c8 c (zx e hfo)]; exact s37 _ _ (sc3 _ _ e)
          have vz : yh (putK kvs (kI z.2) (.ref la)) (kI z.2) = some (.ref la) := by rw [Yr, if_pos rfl]
          obtain ⟨la', ss', ela, _, St8⟩ := S8.get vz
          cases ela
          have hkw8 : ∀ kv ∈ putK kvs (kI z.2) (.ref la), kv.2 ≠ .ref wa := fun kv hk => by
            rw [qZ _ hv] at hk
            rcases List.mem_append.mp hk with hk | hk
            · exact hkw kv hk
            · rw [List.mem_singleton.mp hk]
              exact fun e => hlawa (by injection e)
          have hss8l := St8.len
          have hl8 : (putK kvs (kI z.2) (.ref la)).length = kvs.length + 1 := by rw [qZ _ hv, List.length_append]; rfl
          have h813 := S8.len (by rw [List.length_map]; exact h4) hst4
          refine ⟨_, rfl, .inl ⟨rfl, _, SqL.of hw8⟩, _, rfl, _, rfl, fo, _, kI z.2, z.1, .ref la, rfl, S8.d, rfl, by rw [Vm]; exact hz8, vz, la, rfl, ⟨_, SqL.of St8.li⟩, WF (K := K) (a := la) (xs := ss'.map fun s => V.ref s.1) (fun i ys Hd => ys = (ss'.take i).map (fun s => V.ref s.2.2.1) ∧ Hd = H8) ⟨rfl, rfl⟩ (fun i ys Hd _ ⟨_, e⟩ => by rw [e]; exact SqL.of St8.li) ?_ ?_⟩
          · rintro i u ys Hd hi ⟨rfl, rfl⟩
            rw [List.getElem?_map] at hi
            obtain ⟨t, hti, e⟩ := Option.map_eq_some_iff.mp hi
            subst e
            obtain ⟨q1, q2⟩ := St8.tu t (List.mem_of_getElem? hti)
            refine ⟨by rw [List.length_map, List.length_take]; exact Nat.lt_of_le_of_lt (show min i ss'.length ≤ 100 by omega) (by decide), ?_⟩
            refine ⟨t.1, _, rfl, SqT.of q1, rfl, _, _, rfl, _, _, rfl, rfl, ⟨[_, _], rfl, rfl⟩, ?_⟩
            unfold jf
            dsimp only
            rw [if_pos rfl]
            refine ⟨_, rfl, ?_, rfl⟩
            rw [List.take_succ, hti, List.map_append]; rfl
          rintro ys Hd ⟨rfl, rfl⟩ ex hex
          rw [List.length_map, List.take_length]
          have me := zj hex (o := .lst (ss'.map fun s => V.ref s.2.2.1))
          refine ⟨wa, ex, _, _, rfl, rfl, me _ _ hw8, zf, ?_, ?_⟩
          · rw [List.length_map, List.length_map]
            exact Nat.le_trans (show ws'.length + ss'.length ≤ 10000 by omega) (by decide)
          have hwa9 := me _ _ hw8
          have S9 := S8.same me
          have sc9 := sc8.trans me
          have hws9 : ∀ y ∈ ws' ++ ss'.map (fun s => (s.2.2.1, s.2.2.2)), (upd Hd ex (.lst (ss'.map fun s => V.ref s.2.2.1))) y.1 = some (.tup (y.2.map V.int)) ∧ jW (zs.map (·.2)) y.2 := fun y hy => by
            rcases List.mem_append.mp hy with h | h
            · exact ⟨me _ _ (hws8 y h).1, (hws8 y h).2⟩
            · obtain ⟨t, ht, rfl⟩ := List.mem_map.mp h
              refine ⟨me _ _ (St8.tu t ht).2, ?_⟩
              have hm : (t.2.1, t.2.2.2) ∈ ye (zs.map (·.2)) z.2 b := by rw [← St8.eq]; exact List.mem_map.mpr ⟨t, ht, rfl⟩
              exact (Qv ne (qe hm).2).2.2
          generalize upd Hd ex (.lst (ss'.map fun s => V.ref s.2.2.1)) = H9 at hwa9 S9 sc9 hws9
          rw [show (ws'.map fun z => V.ref z.1) ++ (ss'.map fun s => V.ref s.2.2.1) = (ws' ++ ss'.map (fun s => (s.2.2.1, s.2.2.2))).map fun z => V.ref z.1 by rw [List.map_append, List.map_map]; rfl]
          have kt9 : ∀ c us, H9 c = some (.tup us) → (upd H9 wa (.lst ((ws' ++ ss'.map (fun s => (s.2.2.1, s.2.2.2))).map fun z => V.ref z.1))) c = some (.tup us) := fun c us h => by
            rw [zr (fun q => by rw [q, hwa9] at h; cases h)]; exact h
          have hin : ∀ {y : List Int}, y ∈ (ws' ++ [z]).map (·.2) → yh (putK kvs (kI z.2) (.ref la)) (kI y) ≠ none ∨ y ∈ (ws' ++ ss'.map (fun s => (s.2.2.1, s.2.2.2))).map (·.2) := fun {y} h => by
            rw [List.map_append, List.mem_append] at h
            rcases h with h | h
            · exact .inr (by rw [List.map_append]; exact List.mem_append_left _ h)
            · rw [List.mem_singleton.mp h, vz]; exact .inl (by simp)
          have hup : ∀ {y : List Int}, yh kvs (kI y) ≠ none → yh (putK kvs (kI z.2) (.ref la)) (kI y) ≠ none := fun {y} h => by
            rw [Yr]
            split
            · simp
            · exact h
          refine ⟨_, ?_, putK kvs (kI z.2) (.ref la), ws' ++ ss'.map (fun s => (s.2.2.1, s.2.2.2)), _, _, rfl, S9.keep (zr hfowa) (fun kv hk la e => zr fun q => hkw8 kv hk (by rw [e, q])) kt9, hkw8, zf, (fun y hy => ⟨kt9 _ _ (hws9 y hy).1, (hws9 y hy).2⟩), fun x hx p hp => ?_, ?_, (fun c u e => by rw [zr (zx e hwa0)]; exact sc9 _ _ e), ?_, rfl⟩
          · rw [hl8, List.length_append, List.length_append, List.length_map, List.length_singleton]
            omega
          · rw [Yr] at hx
            by_cases hxz : kI x = kI z.2
            · obtain rfl := Ve hxz
              refine .inr ?_
              rw [← St8.eq] at hp
              obtain ⟨t, ht, rfl⟩ := List.mem_map.mp hp
              rw [List.map_append, List.mem_append, List.map_map]
              exact .inr (List.mem_map.mpr ⟨t, ht, rfl⟩)
            · rw [if_neg hxz] at hx
              rcases hcl x hx p hp with h | h
              · exact .inl (hup h)
              · exact hin h
          · rcases hrt with h | h
            · exact .inl (hup h)
            · exact hin h
          · rw [hl8, List.length_append, List.length_map]
            omega
    · intro σ H2 Q Q' hq
      rintro ⟨v, e, sz, h⟩
      refine ⟨v, e, sz, fun p hp => ?_⟩
      obtain ⟨t1, t2, a1, a2, dep, c1, ec, q⟩ := h p hp
      exact ⟨t1, t2, a1, a2, dep, c1, ec, hq _ _ q⟩
end
end Lw
namespace L2
open PySem PySem.Spec PyProof.Rows
section
variable {X : Cx}
end
def zdL (i j : Int) : Prop := i.natAbs < 2 ^ 100000 ∧ j.natAbs < 2 ^ 100000
theorem zb4 {X : Cx} : OpR X (binaryOp .Mult) (rI zdL fun i j => .int (i * j)) := opI fun i j _ _ _ _ _ hc q => by
  have h : (100000 : Nat) ≤ 2 ^ 20 := by decide
  exact mul_int q (IntMulOk.of_bits (Nat.le_trans (intBits_le hc.1) h) (Nat.le_trans (intBits_le hc.2) h))
end L2
namespace Lw
open PySem L2 PyProof.Rows
theorem zbK (ls : List (List Int)) (b : Nat) : ∀ (t : Nat) (x : List Int), cnt ls b t x ≤ b ^ t
  | 0, _ => by simp [cnt]
  | t + 1, x => by
    rw [cnt, Nat.pow_succ']
    have : ∀ (n : Nat), ((List.range n).map fun (c : Nat) => if lacks ls (x ++ [(c : Int)]) = true then cnt ls b t (zG ls (x ++ [(c : Int)])) else 0).sum ≤ n * b ^ t := by
      intro n
      induction n with
      | zero => simp
      | succ n ih =>
        rw [List.range_succ, List.map_append, List.sum_append, Nat.succ_mul]
        simp only [List.map_cons, List.map_nil, List.sum_cons, List.sum_nil, Nat.add_zero]
        have : (if lacks ls (x ++ [(n : Int)]) = true then cnt ls b t (zG ls (x ++ [(n : Int)])) else 0) ≤ b ^ t := by
          split
          · exact zbK ls b t _
          · exact Nat.zero_le _
        omega
    exact this b
theorem Y8 (ls : List (List Int)) (x : List Int) (F : Nat → List Int → Nat) : ∀ n : Nat, ((ye ls x n).map fun p => F p.1 p.2).sum = ((List.range n).map fun (c : Nat) => if lacks ls (x ++ [(c : Int)]) = true then F c (zG ls (x ++ [(c : Int)])) else 0).sum
  | 0 => rfl
  | n + 1 => by
    rw [qD, List.map_append, List.sum_append, Y8 ls x F n, List.range_succ, List.map_append, List.sum_append]
    congr 1
    unfold aft
    by_cases h : lacks ls (x ++ [(n : Int)]) = true
    · rw [if_pos h]
      simp [h]
    · rw [if_neg h]
      simp [h]
theorem zau (ls : List (List Int)) (b t : Nat) (x : List Int) : ((ye ls x b).map fun p => cnt ls b t p.2).sum = cnt ls b (t + 1) x := Y8 ls x (fun _ y => cnt ls b t y) b
theorem zbL (ls : List (List Int)) (b t : Nat) (x : List Int) : ((ye ls x b).map fun p => tt ls b (fun c => c) b t p.2).sum + b ^ t * ((ye ls x b).map fun p => p.1 * cnt ls b t p.2).sum = tt ls b (fun c => c) b (t + 1) x := by
  have h := Y8 ls x (fun c y => b ^ t * c * cnt ls b t y + tt ls b (fun c => c) b t y) b
  show _ = ((List.range b).map fun (c : Nat) => if lacks ls (x ++ [(c : Int)]) = true then b ^ t * c * cnt ls b t (zG ls (x ++ [(c : Int)])) + tt ls b (fun c => c) b t (zG ls (x ++ [(c : Int)])) else 0).sum
  rw [← h]
  have lin : ∀ l : List (Nat × List Int), (l.map fun p => tt ls b (fun c => c) b t p.2).sum + b ^ t * (l.map fun p => p.1 * cnt ls b t p.2).sum = (l.map fun p => b ^ t * p.1 * cnt ls b t p.2 + tt ls b (fun c => c) b t p.2).sum := fun l => by
    induction l with
    | nil => simp
    | cons p l ih =>
      rw [List.map_cons, List.map_cons, List.map_cons, List.sum_cons, List.sum_cons, List.sum_cons, ← ih, Nat.mul_add, ← Nat.mul_assoc]
      omega
  exact lin _
theorem Zx {α : Type} (f : α → Nat) : ∀ l : List α, (l.map fun r => ((f r : Nat) : Int)).sum = (((l.map f).sum : Nat) : Int)
  | [] => rfl
  | a :: l => by rw [List.map_cons, List.sum_cons, List.map_cons, List.sum_cons, Zx f l, Int.natCast_add]
theorem Wi {α : Type} {f : α → Nat} {B : Nat} : ∀ {l : List α}, (∀ p ∈ l, f p ≤ B) → (l.map f).sum ≤ l.length * B
  | [], _ => by simp
  | a :: l, h => by
    rw [List.map_cons, List.sum_cons, List.length_cons, Nat.succ_mul, Nat.add_comm]
    exact Nat.add_le_add (Wi fun p hp => h p (List.mem_cons_of_mem _ hp)) (h a List.mem_cons_self)
theorem Z8 {K : PySem.W.Frag} {H : Hp} {ls : List (List Int)} {n : Nat} {x : List Int} {la : Addr} {ss : StL} (St : StepAt H ls n x la ss) (hn : n ≤ 100) {ns : List Str} {js : List Nat} {g : TG} {tt : TT} {te : TE} {σ : L2.St} {Q : VK} (F : Nat → List Int → Nat)
    (hs : ∀ s ∈ ss, ∀ (R : V → Hp → Prop) (E : Hp → Prop), R (.int ((F s.2.1 s.2.2.2 : Nat) : Int)) H → g (.ref s.1) (nones ns ++ yN js σ) H fun σ' H1 => (∃ vs : L2.St, vs.length = ns.length ∧ σ' = vs ++ yN js σ) ∧ tt σ' H1 fun c H2 => if c = true then te σ' H2 fun v H3 => R v H3 else E H2)
    (hd : ∀ D, H D = none → Q (.ref D) (upd H D (.lst (((ye ls x n).map fun p => ((F p.1 p.2 : Nat) : Int)).map V.int)))) : Y5 (Itl K la) ns js g tt te σ Q H := by
  have hl := St.len
  refine WF (K := K) (a := la) (xs := ss.map fun s => V.ref s.1) (fun i ys Hd => ys = ((ss.take i).map fun s => V.int ((F s.2.1 s.2.2.2 : Nat) : Int)) ∧ Hd = H) ⟨rfl, rfl⟩ (fun i ys Hd _ ⟨_, e⟩ => by rw [e]; exact SqL.of St.li) ?_ ?_
  · rintro i u ys Hd hi ⟨rfl, rfl⟩
    rw [List.getElem?_map] at hi
    obtain ⟨t, hti, e⟩ := Option.map_eq_some_iff.mp hi
    subst e
    refine ⟨by rw [List.length_map, List.length_take]; exact Nat.lt_of_le_of_lt (show min i ss.length ≤ 100 by omega) (by decide), ?_⟩
    refine hs t (List.mem_of_getElem? hti) _ _ ⟨?_, rfl⟩
    rw [List.take_succ, hti, List.map_append]; rfl
  · rintro ys Hd ⟨rfl, rfl⟩ D hD
    rw [List.length_map, List.take_length, show (ss.map fun s => V.int ((F s.2.1 s.2.2.2 : Nat) : Int)) = ((ye ls x n).map fun p => ((F p.1 p.2 : Nat) : Int)).map V.int by rw [← St.eq, List.map_map, List.map_map]; rfl]
    exact hd D hD
def RowD (P : Program) (w : World) (H : Hp) (a : Addr) (ls : List (List Int)) (b t : Nat) (M : List Int → Prop) : Prop := ∃ kr, DE P w H a kr ∧ ∀ x, M x → ∃ p, yh kr (kI x) = some (.ref p) ∧ H p = some (.tup [.int ((cnt ls b t x : Nat) : Int), .int ((tt ls b (fun c => c) b t x : Nat) : Int)])
theorem RowD.keep {P : Program} {w : World} {H H' : Hp} {a : Addr} {ls : List (List Int)} {b t : Nat} {M : List Int → Prop} (h : RowD P w H a ls b t M) (ha : H' a = H a) (ht : ∀ c zs, H c = some (.tup zs) → H' c = some (.tup zs)) : RowD P w H' a ls b t M :=
  let ⟨kr, d, k⟩ := h; ⟨kr, d.stay ha ht, fun x hx => let ⟨p, e, q⟩ := k x hx; ⟨p, e, ht _ _ q⟩⟩
theorem RowD.ext {P : Program} {w : World} {H : Hp} {a : Addr} {ls : List (List Int)} {b t : Nat} {M : List Int → Prop} (h : RowD P w H a ls b t M) : ∃ φ, H a = some (.ext φ) := let ⟨_, ⟨_, _, e, _⟩, _⟩ := h; ⟨_, e⟩
theorem RowD.same {P : Program} {w : World} {H H' : Hp} {a : Addr} {ls : List (List Int)} {b t : Nat} {M : List Int → Prop} (h : RowD P w H a ls b t M) (m : Same H H') : RowD P w H' a ls b t M := by
  obtain ⟨φ, e⟩ := h.ext
  exact h.keep (by rw [e]; exact m _ _ e) fun c zs q => m _ _ q
structure RowsD (P : Program) (w : World) (H : Hp) (ra : Addr) (rs : List Addr) (ls : List (List Int)) (b : Nat) (M : List Int → Prop) : Prop where
  li : H ra = some (.lst (rs.map V.ref))
  ok : ∀ (t : Nat) (a : Addr), rs[t]? = some a → RowD P w H a ls b t M
theorem RowsD.same {P : Program} {w : World} {H H' : Hp} {ra : Addr} {rs : List Addr} {ls : List (List Int)} {b : Nat} {M : List Int → Prop} (h : RowsD P w H ra rs ls b M) (m : Same H H') : RowsD P w H' ra rs ls b M := ⟨m _ _ h.li, fun t a e => (h.ok t a e).same m⟩
theorem Um : ∀ (more kvs : List (List Key × V)), ((kvs ++ more).map (·.1)).Nodup → qU kvs more = kvs ++ more
  | [], kvs, _ => by simp [qU]
  | m :: more, kvs, h => by
    have hn : yh kvs m.1 = none := by
      cases e : yh kvs m.1 with
      | none => rfl
      | some v =>
        exfalso
        have h1 := U9 e
        rw [List.map_append, List.map_cons] at h
        exact (List.nodup_append.mp h).2.2 m.1 h1 m.1 List.mem_cons_self rfl
    show qU (putK kvs m.1 m.2) more = _
    rw [qZ _ hn, Um more _ (by rw [List.append_assoc]; exact h), List.append_assoc]
    rfl
theorem W2 {κ : Type} [DecidableEq κ] {k : κ} : ∀ {kvs : List (κ × V)}, k ∈ kvs.map (·.1) → ∃ v, yh kvs k = some v ∧ (k, v) ∈ kvs
  | [], h => nomatch h
  | p :: r, h => by
    by_cases e : p.1 = k
    · exact ⟨p.2, yH e, by rw [← e]; exact List.mem_cons_self⟩
    · rw [List.map_cons, List.mem_cons] at h
      obtain ⟨v, h1, h2⟩ := W2 (h.resolve_left fun z => e z.symm)
      exact ⟨v, by rw [yK e]; exact h1, List.mem_cons_of_mem _ h2⟩
section
variable {P : Program} {w : World} {K : PySem.W.Frag} {mg : Str → Option Value} {base : Heap}
def JW (ls : List (List Int)) (b : Nat) (M : List Int → Prop) : Prop := M [] ∧ ∀ x, M x → ∀ p ∈ ye ls x b, M p.2
def qT (P : Program) (w : World) : Sp := fun vs H Q _ => ∃ (r : Addr) (b : Nat) (bl : Addr) (zs : List (Addr × List Int)) (m : Nat), vs = [.ref r, .int m] ∧ RuleAt H r b bl zs ∧ yl b (zs.map (·.2)) ∧ m ≤ 60 ∧ ∀ ra rs M H', H ra = none → Same H H' → RowsD P w H' ra rs (zs.map (·.2)) b M → rs.length = m + 1 → JW (zs.map (·.2)) b M → Q (.ref ra) H'
theorem yd : zB ["rule", "m", "steps", "rows", "whole", "turn", "row", "end", "many", "total", "more"] ["rule", "m"] (zq yU) := ⟨rfl, rfl, rfl, by decide +kernel, rfl, by decide +kernel, by decide +kernel⟩
set_option maxHeartbeats 0 in
theorem Vz {f f1 : Addr} {fd fd1 : FuncData} (D : Df K mg "_law_table" yU ["rule", "m"] f fd) (xZ : Df K mg "_law_steps" yR ["rule"] f1 fd1) (vm : FnOk P w K mg base CX0 2 f1 fd1 ["rule"] (ux P w)) (n_dict : mg "dict" = none) (T : Blt mg) (U : zaG mg) : FnOk P w K mg base CX0 3 f fd ["rule", "m"] (qT P w) := by
  refine D.fn.ok yd (fun vs H Q E h => ?_) (fun cdv A outer s H vs Q E hr h => ?_)
  · obtain ⟨r, b, bl, zs, m, rfl, _⟩ := h; rfl
  · obtain ⟨r, b, bl, zs, m, rfl, R, g, hm, kk⟩ := h
    have b2 := g.b2
    have b16 := g.b16
    have h4 : zs.length ≤ 4 := by have := g.len; rwa [List.length_map] at this
    have hst4 : ∀ st ∈ zs.map (·.2), st.length ≤ 4 := fun st h => (g.st st h).len
    refine ⟨_, (zp (zF (i := 2) yd.nd rfl (Or.inl rfl) (zJ xZ vm (hr.mono (by decide)) (zc (pv 0) zg)))
      (zp (zF (i := 3) yd.nd rfl (Or.inr rfl) (zM (zc (uW (zcl P w K rfl hr.units) (by rfl) n_dict PyProof.Rows.boot_dict (zc (xV (show CScope (zq yU) _ "end" ["rule", "m", "steps", "rows", "whole", "turn", "row", "end", "many", "total", "more"] [] [] from ⟨rfl, by decide +kernel, by decide +kernel, rfl, by decide +kernel, rfl, by decide +kernel, by decide +kernel⟩) rfl (Q3 P w (pv 2)) (fun _ _ _ _ => yD) (fun _ _ _ _ => (ue (zc (pv 0) (zc (ue (zc zm (zc zm zg))) zg))))) zg)) zg)))
      (zp (zF (i := 4) yd.nd rfl (Or.inl rfl) zm)
      (zp (vY PassesOwn.never rfl (yp rfl T.n_range (zc (pv 1) zg)) (zY (i := 5) yd.nd rfl (Or.inl rfl))
        (zp (zF (i := 6) yd.nd rfl (Or.inl rfl) zac)
        (zp (vY PassesOwn.never rfl (Q3 P w (pv 2)) (zY (i := 7) yd.nd rfl (Or.inl rfl))
          (zp (zF (i := 8) yd.nd rfl (Or.inl rfl) (zA (J3 K rfl) (by rfl) U.n_sum boot_sum (zc (Yx (show jo (zq yU) _ ["figure", "there"] ["rule", "m", "steps", "rows", "whole", "turn", "row", "end", "many", "total", "more"] ["rows"] [3] from ⟨rfl, by decide +kernel, by decide +kernel, by decide +kernel, by decide +kernel, rfl, by decide +kernel, by decide +kernel⟩) rfl (jX K (qK P w (ud hr) (pv 2) (pv 7) (fun _ _ => rfl))) (fun _ _ _ _ => (U4 K 2 rfl (xO (zY (i := 0) (show List.Nodup (α := Str) ["figure", "there", "rows"] by decide) rfl (.inl (lookup_relabel_local rfl)) (.inr (lookup_relabel_local rfl))) (xO (zY (i := 1) (show List.Nodup (α := Str) ["figure", "there", "rows"] by decide) rfl (.inl (lookup_relabel_local rfl)) (.inr (lookup_relabel_local rfl))) ZK)))) (fun _ _ _ _ => yD) (fun _ _ _ _ => (zP (vD K) (qK P w (ud hr) (zP (wL K) (pv 2) (Xp Zn zm) (fun _ _ => rfl)) (pv 1) (fun _ _ => rfl)) zm (fun _ _ => rfl)))) zg)))
          (zp (zF (i := 9) yd.nd rfl (Or.inl rfl) (zA (J3 K rfl) (by rfl) U.n_sum boot_sum (zc (Yx (show jo (zq yU) _ ["figure", "there"] ["rule", "m", "steps", "rows", "whole", "turn", "row", "end", "many", "total", "more"] ["rows"] [3] from ⟨rfl, by decide +kernel, by decide +kernel, by decide +kernel, by decide +kernel, rfl, by decide +kernel, by decide +kernel⟩) rfl (jX K (qK P w (ud hr) (pv 2) (pv 7) (fun _ _ => rfl))) (fun _ _ _ _ => (U4 K 2 rfl (xO (zY (i := 0) (show List.Nodup (α := Str) ["figure", "there", "rows"] by decide) rfl (.inl (lookup_relabel_local rfl)) (.inr (lookup_relabel_local rfl))) (xO (zY (i := 1) (show List.Nodup (α := Str) ["figure", "there", "rows"] by decide) rfl (.inl (lookup_relabel_local rfl)) (.inr (lookup_relabel_local rfl))) ZK)))) (fun _ _ _ _ => yD) (fun _ _ _ _ => (zP (vD K) (qK P w (ud hr) (zP (wL K) (pv 2) (Xp Zn zm) (fun _ _ => rfl)) (pv 1) (fun _ _ => rfl)) zm (fun _ _ => rfl)))) zg)))
          (zp (zF (i := 10) yd.nd rfl (Or.inl rfl) (zA (J3 K rfl) (by rfl) U.n_sum boot_sum (zc (Yx (show jo (zq yU) _ ["figure", "there"] ["rule", "m", "steps", "rows", "whole", "turn", "row", "end", "many", "total", "more"] ["rows"] [3] from ⟨rfl, by decide +kernel, by decide +kernel, by decide +kernel, by decide +kernel, rfl, by decide +kernel, by decide +kernel⟩) rfl (jX K (qK P w (ud hr) (pv 2) (pv 7) (fun _ _ => rfl))) (fun _ _ _ _ => (U4 K 2 rfl (xO (zY (i := 0) (show List.Nodup (α := Str) ["figure", "there", "rows"] by decide) rfl (.inl (lookup_relabel_local rfl)) (.inr (lookup_relabel_local rfl))) (xO (zY (i := 1) (show List.Nodup (α := Str) ["figure", "there", "rows"] by decide) rfl (.inl (lookup_relabel_local rfl)) (.inr (lookup_relabel_local rfl))) ZK)))) (fun _ _ _ _ => yD) (fun _ _ _ _ => (zK jZ (pv 0) (zP (vD K) (qK P w (ud hr) (zP (wL K) (pv 2) (Xp Zn zm) (fun _ _ => rfl)) (pv 1) (fun _ _ => rfl)) zm (fun _ _ => rfl))))) zg)))
          (zu (JT (ud hr) (pv 6) (pv 7) (ue (zc (pv 8) (zc (zK yz (pv 9) (zK zb4 (pv 4) (pv 10))) zg))) rfl))))))
        (zp (vO (XH PySem.F.plainAttrs_list PySem.F.slot_list_append PySem.F.type_list_append uX (pv 3) (zc (pv 6) zg)))
        (zu (zF (i := 4) yd.nd rfl (Or.inl rfl) (zK jZ (pv 4) (zP (vD K) (pv 0) zm (fun _ _ => rfl)))))))))
      (zu (zH (pv 3))))))), ?_⟩
    refine ⟨_, rfl, r, b, bl, zs, rfl, R, g, fun fo kvs H1 hfo s1 S1 hcl hrt => ?_⟩
    have hk13 := S1.len (by rw [List.length_map]; exact h4) hst4
    obtain ⟨M, eM⟩ : ∃ M : List Int → Prop, M = fun x => yh kvs (kI x) ≠ none := ⟨_, rfl⟩
    have CM : JW (zs.map (·.2)) b M := by rw [eM]; exact ⟨hrt, hcl⟩
    refine ⟨_, rfl, zar S1.d (fun i ys Hc => ∃ (ts : List Addr) (ks : List (List Key × V)), ys = ts.map V.ref ∧ Paired (fun t (kv : List Key × V) => ∃ b, Hc t = some (.tup [.ref b, kv.2]) ∧ Hc b = some (.tup (kv.1.map kV))) ts ks ∧ ks.map (·.1) = (kvs.map (·.1)).take i ∧ (∀ kv ∈ ks, ∃ p, kv.2 = .ref p ∧ Hc p = some (.tup [.int 1, .int 0])) ∧ Same H1 Hc) ⟨[], [], rfl, .nil, rfl, (fun kv h => nomatch h), Same.refl _⟩ (fun i ys Hc _ ⟨_, _, _, _, _, _, e⟩ => ?_) ?_ ?_⟩
    · have d := S1.d
      obtain ⟨_, _, e1, _⟩ := d
      exact ⟨by rw [e1]; exact e _ _ e1, fun c us q => e _ _ q⟩
    · rintro i kv p ys Hc hkv hp ⟨ts, ks, rfl, hpt, ek, hks, sc⟩
      have hi : i < kvs.length := (List.getElem?_eq_some_iff.mp hkv).1
      have hlen : ts.length = ks.length := Paired.length hpt
      have hkl : ks.length ≤ 13 := by have := congrArg List.length ek; rw [List.length_map, List.length_take, List.length_map] at this; omega
      refine ⟨by rw [List.length_map, hlen]; exact Nat.lt_of_le_of_lt (show ks.length ≤ 100 by omega) (by decide), ?_⟩
      unfold jf
      dsimp only
      rw [if_pos rfl]
      refine ⟨_, rfl, (by show 2 ≤ sizeLine; decide), fun t1 ht1 => ⟨(by show 2 ≤ sizeLine; decide), fun t2 ht2 => ?_⟩⟩
      have m1 := zj ht1 (o := .tup [.int 1, .int 0])
      have m2 := zj ht2 (o := .tup [.ref p, .ref t1])
      have m12 := m1.trans m2
      refine ⟨ts ++ [t2], ks ++ [(kv.1, .ref t1)], by rw [List.map_append]; rfl, Paired.snoc (Paired.mapP hpt fun t kv ⟨b, q1, q2⟩ => ⟨b, m12 _ _ q1, m12 _ _ q2⟩) ⟨p, zf, m12 _ _ hp⟩, ?_, fun kv' h => ?_, sc.trans m12⟩
      · rw [List.map_append, ek, List.take_succ, List.getElem?_map, hkv]; rfl
      · rcases List.mem_append.mp h with h | h
        · obtain ⟨p', e1, e2⟩ := hks kv' h
          exact ⟨p', e1, m12 _ _ e2⟩
        · rw [List.mem_singleton.mp h]; exact ⟨t1, rfl, m2 _ _ zf⟩
    rintro ys Hc ⟨ts, ks, rfl, hpt, ek, hks, sc⟩ D0 hD0
    have mD := zj hD0 (o := .lst (ts.map V.ref))
    have sD := sc.trans mD
    rw [← List.length_map (f := fun x : List Key × V => x.1), List.take_length] at ek
    have eK : qU [] ks = ks := by rw [Um ks [] (by rw [List.nil_append, ek]; exact S1.nd)]; rfl
    refine ⟨D0, ts, ks, rfl, SqL.of zf, Paired.mapP hpt fun t kv ⟨b, q1, q2⟩ => ⟨b, SqT.of (mD _ _ q1), mD _ _ q2⟩, fun r0 H3 hr0 d3 c3 => ?_⟩
    rw [eK] at d3
    have m3 : Same (upd Hc D0 (.lst (ts.map V.ref))) H3 := fun c u e => by rw [c3 c (zx e hr0)]; exact e
    have s13 := sD.trans m3
    have Row3 : RowD P w H3 r0 (zs.map (·.2)) b 0 M := ⟨ks, d3, fun x hx => by
      rw [eM] at hx
      have hin : kI x ∈ ks.map (·.1) := by
        rw [ek]
        cases e : yh kvs (kI x) with
        | none => exact absurd e hx
        | some v => exact U9 e
      obtain ⟨v, e1, e2⟩ := W2 hin
      obtain ⟨p, e3, e4⟩ := hks _ e2
      exact ⟨p, by rw [e1]; exact congrArg some e3, m3 _ _ (mD _ _ e4)⟩⟩
    refine ⟨(by show 1 ≤ sizeLine; decide), fun ra hra => ?_⟩
    have m4 := zj hra (o := .lst [.ref r0])
    have s14 := s13.trans m4
    have hra0 : H ra = none := (s1.trans s13).free hra
    have hkr : ∀ kv ∈ kvs, kv.2 ≠ .ref ra := fun kv hk e => by
      obtain ⟨x, la, ss, _, _, h3, h4⟩ := S1.ok kv hk
      rw [e] at h3
      cases h3
      have := s13 _ _ h4.li
      rw [hra] at this; cases this
    have Rows4 : RowsD P w (upd H3 ra (.lst [.ref r0])) ra [r0] (zs.map (·.2)) b M := ⟨zf, fun t a e => by
      cases t with
      | zero => cases e; exact Row3.same m4
      | succ t => cases e⟩
    have S4 := S1.same s14
    have s04 := s1.trans s14
    generalize upd H3 ra (.lst [.ref r0]) = H4 at Rows4 S4 s04
    refine ⟨_, rfl, _, rfl, by omega, by omega, ?_⟩
    rw [Int.toNat_natCast]
    refine wF (lo := 0) (n := m) (fun i σ Hc => ∃ (rs : List Addr) (v5 v6 v7 v8 v9 v10 : Option V), σ = [some (.ref r), some (.int m), some (.ref fo), some (.ref ra), some (.int ((b ^ i : Nat) : Int)), v5, v6, v7, v8, v9, v10] ∧ rs.length = i + 1 ∧ RowsD P w Hc ra rs (zs.map (·.2)) b M ∧ StepsD P w Hc fo (zs.map (·.2)) b kvs ∧ Same H Hc) ⟨[r0], none, none, none, none, none, none, rfl, rfl, Rows4, S4, s04⟩ ?_ ?_
    · rintro i σ Hc hi ⟨rs, v5, v6, v7, v8, v9, v10, rfl, hrl, Rw, S, sc⟩
      refine fun rw0 H5 hrw d5 c5 => ?_
      have m5 : Same Hc H5 := fun c u e => by rw [c5 c (zx e hrw)]; exact e
      have S5 := S.same m5
      have Rw5 := Rw.same m5
      obtain ⟨lr, hlr2⟩ : ∃ lr, rs[i]? = some lr := ⟨_, List.getElem?_eq_getElem (by omega)⟩
      have hlast : atI (rs.map V.ref) (-1) = some (.ref lr) := by
        unfold atI
        rw [List.length_map, hrl]
        unfold ixN
        rw [if_neg (by omega), if_pos (by omega)]
        show (rs.map V.ref)[(-1 + ((i + 1 : Nat) : Int)).toNat]? = _
        rw [show (-1 + ((i + 1 : Nat) : Int)).toNat = i by omega, List.getElem?_map, hlr2]
        rfl
      have hrwfo : fo ≠ rw0 := fun e => by
        have d := S.d
        obtain ⟨_, _, e2, _⟩ := d
        rw [e, hrw] at e2; cases e2
      have hrwlr : lr ≠ rw0 := fun e => by
        obtain ⟨φ, e2⟩ := (Rw.ok i lr hlr2).ext
        rw [e, hrw] at e2; cases e2
      refine ⟨_, rfl, zbG S5.d (fun j σ Hd => ∃ (kr : List (List Key × V)) (v7 v8 v9 v10 : Option V), σ = [some (.ref r), some (.int m), some (.ref fo), some (.ref ra), some (.int ((b ^ i : Nat) : Int)), some (.int (0 + (i : Int))), some (.ref rw0), v7, v8, v9, v10] ∧ DE P w Hd rw0 kr ∧ kr.length ≤ j ∧ (∀ kv ∈ kvs.take j, ∀ x, kv.1 = kI x → ∃ p, yh kr (kI x) = some (.ref p) ∧ Hd p = some (.tup [.int ((cnt (zs.map (·.2)) b (i + 1) x : Nat) : Int), .int ((tt (zs.map (·.2)) b (fun c => c) b (i + 1) x : Nat) : Int)])) ∧ (∀ c u, c ≠ rw0 → H5 c = some u → Hd c = some u)) ⟨[], v7, v8, v9, v10, rfl, d5, Nat.zero_le _, (fun kv h => by simp at h), fun c u _ e => e⟩ (fun j σ Hd _ ⟨_, _, _, _, _, _, _, _, _, e⟩ => ?_) ?_ ?_⟩
      · have d := S5.d
        obtain ⟨_, _, e1, _⟩ := d
        exact ⟨by rw [e1]; exact e _ _ hrwfo e1, fun c us q => e _ _ (d5.ne q) q⟩
      · rintro j kv p σ Hd hkv hp ⟨kr, v7, v8, v9, v10, rfl, dd, hkrl, hkr', sd⟩
        have hj : j < kvs.length := (List.getElem?_eq_some_iff.mp hkv).1
        have kt : ∀ c us, H5 c = some (.tup us) → Hd c = some (.tup us) := fun c us q => sd _ _ (d5.ne q) q
        have nlst : ∀ {c : Addr} {us : List V}, H5 c = some (.lst us) → c ≠ rw0 := fun {c us} h z => by
          obtain ⟨_, _, e, _⟩ := d5
          rw [z, e] at h; cases h
        obtain ⟨x, la, ss, ex, hx, ela, St⟩ := S5.ok kv (List.mem_of_getElem? hkv)
        have hv : yh kvs (kI x) = some (.ref la) := by
          obtain ⟨v, e1, e2⟩ := W2 (k := kI x) (kvs := kvs) (List.mem_map.mpr ⟨kv, List.mem_of_getElem? hkv, ex⟩)
          obtain ⟨i1, hi1⟩ := List.getElem?_of_mem e2
          have h1 : (kvs.map (·.1))[i1]? = some (kI x) := by rw [List.getElem?_map, hi1]; rfl
          have h2 : (kvs.map (·.1))[j]? = some (kI x) := by rw [List.getElem?_map, hkv]; exact congrArg some ex
          have := (List.getElem?_inj (by rw [List.length_map]; exact (List.getElem?_eq_some_iff.mp hi1).1) S5.nd).mp (h1.trans h2.symm)
          rw [this, hkv] at hi1
          cases hi1
          exact e1.trans (congrArg some ela)
        rw [ex] at hp
        have hp' : Hd p = some (.tup (x.map V.int)) := by rw [← Vm]; exact hp
        have Mx : M x := by rw [eM]; show yh kvs (kI x) ≠ none; rw [hv]; simp
        have Sd : StepsD P w Hd fo (zs.map (·.2)) b kvs := by
          have d := S5.d
          obtain ⟨_, _, e1, _⟩ := d
          exact S5.keep (by rw [e1]; exact sd _ _ hrwfo e1) (fun kv hk la e => by
            obtain ⟨x, la', ss, _, _, h3, h4⟩ := S5.ok kv hk
            rw [e] at h3
            cases h3
            rw [h4.li]
            exact sd _ _ (nlst h4.li) h4.li) kt
        have Std : StepAt Hd (zs.map (·.2)) b x la ss := St.keep (by rw [St.li]; exact sd _ _ (nlst St.li) St.li) kt
        have hrd : Hd ra = some (.lst (rs.map V.ref)) := sd _ _ (nlst Rw5.li) Rw5.li
        have Lr : RowD P w Hd lr (zs.map (·.2)) b i M := by
          have L5 := Rw5.ok i lr hlr2
          obtain ⟨φ, e1⟩ := L5.ext
          exact L5.keep (by rw [e1]; exact sd _ _ hrwlr e1) kt
        have ent : ∀ {Hx : Hp}, Same Hd Hx → ∀ s ∈ ss, ∃ kr' q, DE P w Hx lr kr' ∧ yh kr' (kI s.2.2.2) = some (.ref q) ∧ Hx q = some (.tup [.int ((cnt (zs.map (·.2)) b i s.2.2.2 : Nat) : Int), .int ((tt (zs.map (·.2)) b (fun c => c) b i s.2.2.2 : Nat) : Int)]) := fun {Hx} sx s hs => by
          obtain ⟨kr', d', k'⟩ := Lr.same sx
          have hm : (s.2.1, s.2.2.2) ∈ ye (zs.map (·.2)) x b := by rw [← St.eq]; exact List.mem_map.mpr ⟨s, hs, rfl⟩
          obtain ⟨q, e1, e2⟩ := k' _ (CM.2 x Mx _ hm)
          exact ⟨kr', q, d', e1, e2⟩
        refine ⟨_, rfl, _, rfl, fo, kvs, kI x, p, .ref la, rfl, Sd.d, rfl, hp, hv, la, rfl, ⟨_, SqL.of Std.li⟩, Z8 Std (by omega) (fun _ y => cnt (zs.map (·.2)) b i y) ?_ ?_⟩
        · intro s hs R' E' r
          obtain ⟨kr', q, d', e1, e2⟩ := ent (Same.refl _) s hs
          obtain ⟨q1, q2⟩ := Std.tu s hs
          refine ⟨s.1, _, rfl, SqT.of q1, rfl, _, _, rfl, _, _, rfl, rfl, ⟨[_, _], rfl, rfl⟩, ?_⟩
          unfold jf
          dsimp only
          rw [if_pos rfl]
          exact ⟨_, rfl, _, rfl, ra, _, _, .ref lr, rfl, rfl, SqL.of hrd, hlast, _, rfl, lr, kr', kI s.2.2.2, s.2.2.1, .ref q, rfl, d', rfl, by rw [Vm]; exact q2, e1, q, _, _, _, rfl, rfl, SqT.of e2, rfl, r⟩
        intro D1 hD1
        refine ⟨D1, _, rfl, SqL.of zf, ?_⟩
        rw [Zx (fun p : Nat × List Int => cnt (zs.map (·.2)) b i p.2), zau]
        have n1 := zj hD1 (o := .lst (((ye (zs.map (·.2)) x b).map fun p => ((cnt (zs.map (·.2)) b i p.2 : Nat) : Int)).map V.int))
        generalize upd Hd D1 (.lst (((ye (zs.map (·.2)) x b).map fun p => ((cnt (zs.map (·.2)) b i p.2 : Nat) : Int)).map V.int)) = He at n1
        have Ste : StepAt He (zs.map (·.2)) b x la ss := Std.keep (by rw [Std.li]; exact n1 _ _ Std.li) fun c us q => n1 _ _ q
        have hre := n1 _ _ hrd
        refine ⟨_, rfl, _, rfl, fo, kvs, kI x, p, .ref la, rfl, (Sd.same n1).d, rfl, n1 _ _ hp, hv, la, rfl, ⟨_, SqL.of Ste.li⟩, Z8 Ste (by omega) (fun _ y => tt (zs.map (·.2)) b (fun c => c) b i y) ?_ ?_⟩
        · intro s hs R' E' r
          obtain ⟨kr', q, d', e1, e2⟩ := ent n1 s hs
          obtain ⟨q1, q2⟩ := Ste.tu s hs
          refine ⟨s.1, _, rfl, SqT.of q1, rfl, _, _, rfl, _, _, rfl, rfl, ⟨[_, _], rfl, rfl⟩, ?_⟩
          unfold jf
          dsimp only
          rw [if_pos rfl]
          exact ⟨_, rfl, _, rfl, ra, _, _, .ref lr, rfl, rfl, SqL.of hre, hlast, _, rfl, lr, kr', kI s.2.2.2, s.2.2.1, .ref q, rfl, d', rfl, by rw [Vm]; exact q2, e1, q, _, _, _, rfl, rfl, SqT.of e2, rfl, r⟩
        intro D2 hD2
        refine ⟨D2, _, rfl, SqL.of zf, ?_⟩
        rw [Zx (fun p : Nat × List Int => tt (zs.map (·.2)) b (fun c => c) b i p.2)]
        have n2 := n1.trans (zj hD2 (o := .lst (((ye (zs.map (·.2)) x b).map fun p => ((tt (zs.map (·.2)) b (fun c => c) b i p.2 : Nat) : Int)).map V.int)))
        generalize upd He D2 (.lst (((ye (zs.map (·.2)) x b).map fun p => ((tt (zs.map (·.2)) b (fun c => c) b i p.2 : Nat) : Int)).map V.int)) = Hf at n2
        have Stf : StepAt Hf (zs.map (·.2)) b x la ss := Std.keep (by rw [Std.li]; exact n2 _ _ Std.li) fun c us q => n2 _ _ q
        have hrf := n2 _ _ hrd
        refine ⟨_, rfl, _, rfl, fo, kvs, kI x, p, .ref la, rfl, (Sd.same n2).d, rfl, n2 _ _ hp, hv, la, rfl, ⟨_, SqL.of Stf.li⟩, Z8 Stf (by omega) (fun c y => c * cnt (zs.map (·.2)) b i y) ?_ ?_⟩
        · intro s hs R' E' r
          obtain ⟨kr', q, d', e1, e2⟩ := ent n2 s hs
          obtain ⟨q1, q2⟩ := Stf.tu s hs
          refine ⟨s.1, _, rfl, SqT.of q1, rfl, _, _, rfl, _, _, rfl, rfl, ⟨[_, _], rfl, rfl⟩, ?_⟩
          unfold jf
          dsimp only
          rw [if_pos rfl]
          have hsb : s.2.1 < b := (qe (by rw [← Stf.eq]; exact List.mem_map.mpr ⟨s, hs, rfl⟩ : (s.2.1, s.2.2.2) ∈ ye (zs.map (·.2)) x b)).1
          refine ⟨_, rfl, _, rfl, _, rfl, ra, _, _, .ref lr, rfl, rfl, SqL.of hrf, hlast, _, rfl, lr, kr', kI s.2.2.2, s.2.2.1, .ref q, rfl, d', rfl, by rw [Vm]; exact q2, e1, q, _, _, _, rfl, rfl, SqT.of e2, rfl, _, _, rfl, rfl, .inl ⟨by omega, by omega⟩, ?_⟩
          dsimp only
          rw [← Int.natCast_mul]
          exact r
        intro D3 hD3
        refine ⟨D3, _, rfl, SqL.of zf, ?_⟩
        rw [Zx (fun p : Nat × List Int => p.1 * cnt (zs.map (·.2)) b i p.2)]
        have n3 := n2.trans (zj hD3 (o := .lst (((ye (zs.map (·.2)) x b).map fun p => ((p.1 * cnt (zs.map (·.2)) b i p.2 : Nat) : Int)).map V.int)))
        generalize upd Hf D3 (.lst (((ye (zs.map (·.2)) x b).map fun p => ((p.1 * cnt (zs.map (·.2)) b i p.2 : Nat) : Int)).map V.int)) = Hg at n3
        have hpw : b ^ i ≤ 2 ^ (4 * 60) := by
          have h3 : b ^ i ≤ 16 ^ 60 := Nat.le_trans (Nat.pow_le_pow_left b16 _) (Nat.pow_le_pow_right (by decide) (by omega))
          rwa [show (16 : Nat) = 2 ^ 4 from rfl, ← Nat.pow_mul] at h3
        have hmore : ((ye (zs.map (·.2)) x b).map fun p => p.1 * cnt (zs.map (·.2)) b i p.2).sum ≤ 2 ^ 8 * 2 ^ (4 * 60) := by
          refine Nat.le_trans (Wi (B := 16 * 2 ^ (4 * 60)) fun p hp => Nat.mul_le_mul (by have := (qe hp).1; omega) (Nat.le_trans (zbK _ _ _ _) hpw)) ?_
          rw [← Nat.mul_assoc]
          exact Nat.mul_le_mul (by have := Z6 (zs.map (·.2)) x b; omega) (Nat.le_refl _)
        refine ⟨_, rfl, _, rfl, _, rfl, _, rfl, _, _, rfl, rfl, ⟨?_, ?_⟩, _, _, rfl, rfl, (by show 2 ≤ sizeLine; decide), fun tq htq => ?_⟩
        · rw [Int.natAbs_natCast]
          exact Nat.lt_of_le_of_lt hpw (Nat.pow_lt_pow_right (by decide) (by decide))
        · rw [Int.natAbs_natCast]
          exact Nat.lt_of_le_of_lt hmore (by rw [← Nat.pow_add]; exact Nat.pow_lt_pow_right (by decide) (by decide))
        dsimp only
        rw [← Int.natCast_mul, ← Int.natCast_add, zbL]
        have n4 := n3.trans (zj htq (o := .tup [.int ((cnt (zs.map (·.2)) b (i + 1) x : Nat) : Int), .int ((tt (zs.map (·.2)) b (fun c => c) b (i + 1) x : Nat) : Int)]))
        have htv : (upd Hg tq (.tup [.int ((cnt (zs.map (·.2)) b (i + 1) x : Nat) : Int), .int ((tt (zs.map (·.2)) b (fun c => c) b (i + 1) x : Nat) : Int)])) tq = some (.tup [.int ((cnt (zs.map (·.2)) b (i + 1) x : Nat) : Int), .int ((tt (zs.map (·.2)) b (fun c => c) b (i + 1) x : Nat) : Int)]) := zf
        generalize upd Hg tq (.tup [.int ((cnt (zs.map (·.2)) b (i + 1) x : Nat) : Int), .int ((tt (zs.map (·.2)) b (fun c => c) b (i + 1) x : Nat) : Int)]) = Hh at n4 htv
        refine ⟨_, rfl, _, rfl, rw0, kr, kI x, p, rfl, dd.same n4, rfl, n4 _ _ hp, Nat.lt_of_le_of_lt (show kr.length ≤ 100 by omega) (by decide), fun Hk dk ck => ?_⟩
        have ktk : ∀ c us, Hh c = some (.tup us) → Hk c = some (.tup us) := fun c us q => by rw [ck c ((dd.same n4).ne q)]; exact q
        refine ⟨_, _, _, _, _, rfl, dk, by have := Zg kr (kI x) (.ref tq); omega, fun kv' hkv' x' ex' => ?_, fun c u hc e => by rw [ck c hc]; exact n4 _ _ (sd c u hc e)⟩
        rw [Yr]
        by_cases hxx : kI x' = kI x
        · obtain rfl := Ve hxx
          rw [if_pos rfl]
          exact ⟨tq, rfl, ktk _ _ htv⟩
        · rw [if_neg hxx]
          rw [List.take_succ, hkv] at hkv'
          rcases List.mem_append.mp hkv' with h | h
          · obtain ⟨p', e1, e2⟩ := hkr' kv' h x' ex'
            exact ⟨p', e1, ktk _ _ (n4 _ _ e2)⟩
          · have h : kv' = kv := by simpa using h
            rw [h] at ex'
            exact absurd (ex'.symm.trans ex) hxx
      · rintro σ Hd ⟨kr, v7, v8, v9, v10, rfl, dd, hkrl, hkr', sd⟩
        have kt : ∀ c us, H5 c = some (.tup us) → Hd c = some (.tup us) := fun c us q => sd _ _ (d5.ne q) q
        have nlst : ∀ {c : Addr} {us : List V}, H5 c = some (.lst us) → c ≠ rw0 := fun {c us} h z => by
          obtain ⟨_, _, e, _⟩ := d5
          rw [z, e] at h; cases h
        have hrd : Hd ra = some (.lst (rs.map V.ref)) := sd _ _ (nlst Rw5.li) Rw5.li
        refine ⟨_, rfl, .inl ⟨rfl, _, SqL.of hrd⟩, _, rfl, ra, _, _, rfl, rfl, hrd, by rw [List.length_map]; exact Nat.lt_of_le_of_lt (show rs.length ≤ 100 by omega) (by decide), ?_⟩
        have ktr : ∀ c us, Hd c = some (.tup us) → (upd Hd ra (.lst (rs.map V.ref ++ [.ref rw0]))) c = some (.tup us) := fun c us q => by rw [zr (fun z => by rw [z, hrd] at q; cases q)]; exact q
        have ker : ∀ {c : Addr} {φ}, Hd c = some (.ext φ) → (upd Hd ra (.lst (rs.map V.ref ++ [.ref rw0]))) c = Hd c := fun {c φ} q => zr fun z => by rw [z, hrd] at q; cases q
        have s6 : Same H (upd Hd ra (.lst (rs.map V.ref ++ [.ref rw0]))) := fun c u e => by
          rw [zr (zx e hra0)]
          exact sd c u (zx (sc _ _ e) hrw) (m5 _ _ (sc _ _ e))
        have Row6 : ∀ t a, (rs ++ [rw0])[t]? = some a → RowD P w (upd Hd ra (.lst (rs.map V.ref ++ [.ref rw0]))) a (zs.map (·.2)) b t M := fun t a e => by
          by_cases ht : t < rs.length
          · rw [List.getElem?_append_left ht] at e
            have L5 := Rw5.ok t a e
            obtain ⟨φ, e1⟩ := L5.ext
            have hne : a ≠ rw0 := fun z => by
              obtain ⟨φ, e2⟩ := (Rw.ok t a e).ext
              rw [z, hrw] at e2; cases e2
            have Ld := L5.keep (by rw [e1]; exact sd _ _ hne e1) kt
            obtain ⟨φ2, e3⟩ := Ld.ext
            exact Ld.keep (ker e3) ktr
          · have hl := (List.getElem?_eq_some_iff.mp e).1
            rw [List.length_append, List.length_singleton] at hl
            have et : t = rs.length := by omega
            subst et
            rw [List.getElem?_concat_length] at e
            cases e
            have d := dd
            obtain ⟨_, _, e3, _⟩ := d
            refine ⟨kr, dd.stay (ker e3) ktr, fun x hx => ?_⟩
            rw [eM] at hx
            have hin : kI x ∈ kvs.map (·.1) := by
              cases e : yh kvs (kI x) with
              | none => exact absurd e hx
              | some v => exact U9 e
            obtain ⟨kv, hkv, ekv⟩ := List.mem_map.mp hin
            obtain ⟨p, e1, e2⟩ := hkr' kv (by rw [List.take_length]; exact hkv) x ekv
            rw [hrl]
            exact ⟨p, e1, ktr _ _ e2⟩
        have S6 : StepsD P w (upd Hd ra (.lst (rs.map V.ref ++ [.ref rw0]))) fo (zs.map (·.2)) b kvs := by
          have d := S5.d
          obtain ⟨_, _, e1, _⟩ := d
          have e2 := sd _ _ hrwfo e1
          refine S5.keep (by rw [ker e2, e2, e1]) (fun kv hk la e => ?_) fun c us q => ktr _ _ (kt c us q)
          obtain ⟨x, la', ss, _, _, h3, h4⟩ := S5.ok kv hk
          rw [e] at h3
          cases h3
          rw [zr (fun z => hkr kv hk (by rw [e, z])), h4.li]
          exact sd _ _ (nlst h4.li) h4.li
        have hr6 : (upd Hd ra (.lst (rs.map V.ref ++ [.ref rw0]))) ra = some (.lst ((rs ++ [rw0]).map V.ref)) := by rw [zf, List.map_append]; rfl
        generalize upd Hd ra (.lst (rs.map V.ref ++ [.ref rw0])) = H6 at s6 Row6 S6 hr6
        refine ⟨_, rfl, _, rfl, r, _, _, .int b, rfl, rfl, SqT.of (s6 _ _ R.tu), rfl, _, _, rfl, rfl, .inr ⟨by omega, by omega⟩, rs ++ [rw0], some (.int (0 + (i : Int))), some (.ref rw0), v7, v8, v9, v10, ?_, by rw [List.length_append, hrl]; rfl, ⟨hr6, Row6⟩, S6, s6⟩
        dsimp only
        rw [show ((b ^ i : Nat) : Int) * (b : Int) = ((b ^ (i + 1) : Nat) : Int) by rw [Nat.pow_succ, Int.natCast_mul]]
        rfl
    · rintro σ Hc ⟨rs, v5, v6, v7, v8, v9, v10, rfl, hrl, Rw, S, sc⟩
      exact ⟨_, rfl, kk ra rs M Hc hra0 sc Rw hrl CM⟩
end
section
variable {P : Program} {w : World} {K : PySem.W.Frag} {mg : Str → Option Value} {base : Heap}
def qR : Sp := fun vs H Q _ => ∃ (bl fa : Addr) (zs : List (Addr × List Int)) (fs : List Int), vs = [.ref bl, .ref fa] ∧ H bl = some (.lst (zs.map fun z => V.ref z.1)) ∧ (∀ z ∈ zs, H z.1 = some (.lst (z.2.map V.int))) ∧ H fa = some (.lst (fs.map V.int)) ∧ zs.length ≤ 100 ∧ ∀ H', Same H H' → Q (.bl (tX (zs.map (·.2)) fs)) H'
theorem Vo : zB ["bad", "figures"] ["bad", "figures"] (zq vH) := ⟨rfl, rfl, rfl, by decide +kernel, rfl, by decide +kernel, by decide +kernel⟩
theorem Z2 {f : Addr} {fd : FuncData} (D : Df K mg "begins_one" vH ["bad", "figures"] f fd) (T : Blt mg) : FnOk P w K mg base CX0 1 f fd ["bad", "figures"] qR := by
  refine D.fn.ok Vo (fun vs H Q E h => ?_) (fun cdv A outer s H vs Q E hr h => ?_)
  · obtain ⟨bl, fa, zs, fs, rfl, _⟩ := h; rfl
  · obtain ⟨bl, fa, zs, fs, rfl, hb, hz, hf, hl1, kk⟩ := h
    have HU := Ww hr
    refine ⟨_, (zu (zH (zA (zbi K rfl) (by rfl) T.n_any boot_any (zc (xV (show CScope (zq vH) _ "stretch" ["bad", "figures"] ["figures"] [1] from ⟨rfl, by decide +kernel, by decide +kernel, rfl, by decide +kernel, rfl, by decide +kernel, by decide +kernel⟩) rfl (jX K (pv 0)) (fun _ _ _ _ => yD) (fun _ _ _ _ => (qu (QT K HU) (wk (Zt K) (pv 0) uv (wX (zA (uL K) (by rfl) T.n_len PySem.boot_len (zc (pv 1) zg)))) (pv 1) (zT _)))) zg)))), ?_⟩
    refine ⟨_, rfl, bl, rfl, ⟨_, SqL.of hb⟩, yO (K := K) (a := bl) (xs := zs.map fun z => V.ref z.1) (fun i ys H4 => ys = ((zs.take i).map fun z => decide (z.2.take fs.length = fs)).map V.bl ∧ Same H H4) ⟨by simp, Same.refl _⟩ (fun i ys H4 _ ⟨_, e⟩ => SqL.of (e _ _ hb)) ?_ ?_⟩
    · rintro j x ys H4 hx ⟨rfl, s4⟩
      rw [List.getElem?_map] at hx
      obtain ⟨z, hzj, e⟩ := Option.map_eq_some_iff.mp hx
      subst e
      have hzm := List.mem_of_getElem? hzj
      refine ⟨?_, ?_⟩
      · rw [List.length_map, List.length_map, List.length_take]
        exact Nat.lt_of_le_of_lt (Nat.le_trans (Nat.min_le_right _ _) hl1) (by decide)
      unfold jf
      dsimp only
      rw [if_pos rfl]
      refine ⟨_, rfl, _, rfl, fa, _, rfl, .inl (SqL.of (s4 _ _ hf)), _, rfl, z.1, _, rfl, SqL.of (s4 _ _ (hz z hzm)), fun p hp => ?_⟩
      rw [List.length_map, ZJ, ← List.map_take]
      refine ⟨_, rfl, yt (z.2.take fs.length), yt fs, TrAt.ints (a := p) (SqL.of zf), TrAt.ints (a := fa) (SqL.of (zj hp _ _ (s4 _ _ hf))), (by rw [uh]; decide), ?_, s4.trans (zj hp)⟩
      rw [List.take_succ, hzj]
      have e2 := uA (z.2.take fs.length) fs
      show _ ++ [V.bl (teq _ _)] = _
      rw [e2]
      simp
    · rintro ys H4 ⟨rfl, s4⟩ Dd hD
      refine ⟨Dd, _, rfl, SqL.of zf, ?_⟩
      have q := kk _ (s4.trans (zj hD (o := .lst (((zs.take (zs.map fun z => V.ref z.1).length).map fun z => decide (z.2.take fs.length = fs)).map V.bl))))
      rw [List.length_map, List.take_length] at q ⊢
      unfold tX at q
      rw [List.any_map] at q ⊢
      exact q
def zc6 (ls : List (List Int)) (fs : List Int) (H H' : Hp) (v : V) : Prop := (lacks ls fs = false ∧ v = .non) ∨ (lacks ls fs = true ∧ ∃ l, v = .ref l ∧ H l = none ∧ H' l = some (.lst ((zG ls fs).map V.int)))
def ut : Sp := fun vs H Q _ => ∃ (bl fa : Addr) (zs : List (Addr × List Int)) (fs : List Int), vs = [.ref bl, .ref fa] ∧ H bl = some (.lst (zs.map fun z => V.ref z.1)) ∧ (∀ z ∈ zs, H z.1 = some (.lst (z.2.map V.int))) ∧ H fa = some (.lst (fs.map V.int)) ∧ zs.length ≤ 100 ∧ fs.length ≤ 1000 ∧ (∀ z ∈ zs, z.2 ≠ [] ∧ z.2.length ≤ 1000) ∧
  ∀ v H', zc6 (zs.map (·.2)) fs H H' v → Same H H' → Q v H'
theorem jg : zB ["bad", "figures", "start"] ["bad", "figures"] (zq w5) := ⟨rfl, rfl, rfl, by decide +kernel, rfl, by decide +kernel, by decide +kernel⟩
theorem Xf {f f1 f2 : Addr} {fd fd1 fd2 : FuncData} (D : Df K mg "longest_stand" w5 ["bad", "figures"] f fd) (yX : Df K mg "lacks_all" wz ["bad", "figures"] f1 fd1) (xG : FnOk P w K mg base CX0 2 f1 fd1 ["bad", "figures"] vW)
    (uB : Df K mg "begins_one" vH ["bad", "figures"] f2 fd2) (T : Blt mg) : FnOk P w K mg base CX0 3 f fd ["bad", "figures"] ut := by
  have XD : FnOk P w K mg base CX0 1 f2 fd2 ["bad", "figures"] qR := Z2 uB T
  refine D.fn.ok jg (fun vs H Q E h => ?_) (fun cdv A outer s H vs Q E hr h => ?_)
  · obtain ⟨bl, fa, zs, fs, rfl, _⟩ := h; rfl
  · obtain ⟨bl, fa, zs, fs, rfl, hb, hz, hf, hl1, hl2, ne, kk⟩ := h
    refine ⟨_, (zp (xX (Zo (tL (zJ yX xG (hr.mono (by decide)) (zc (pv 0) (zc (pv 1) zg)))))
        (zu (zH tR))
        yg)
      (zp (vY PassesOwn.never rfl (yp rfl T.n_range (zc (zA (uL K) (by rfl) T.n_len PySem.boot_len (zc (pv 1) zg)) zg)) (zY (i := 2) jg.nd rfl (Or.inl rfl))
        (zu (xX (tL (zJ uB XD (hr.mono (by decide)) (zc (pv 0) (zc (wk (Zt K) (pv 1) (wX (pv 2)) uv) zg))))
          (zu (zH (wk (Zt K) (pv 1) (wX (pv 2)) uv)))
          yg)))
      (zu (zH (zM zg))))), ?_⟩
    refine ⟨_, rfl, _, rfl, bl, fa, zs, fs, rfl, hb, hz, hf, hl1, hl2, ne, fun H1 s1 => ⟨_, rfl, ?_⟩⟩
    cases hL : lacks (zs.map (·.2)) fs with
    | false => exact wO (kk _ _ (.inl ⟨hL, rfl⟩) s1)
    | true =>
      refine xT ?_
      refine ⟨_, rfl, fa, _, rfl, .inl (SqL.of (s1 _ _ hf)), (((fs.map V.int).length : Nat) : Int), rfl, by rw [List.length_map]; omega, by rw [List.length_map]; omega, wF (lo := 0) (n := (((fs.map V.int).length : Nat) : Int).toNat) (fun i σ H2 => ∃ v1 : Option V, σ = [some (.ref bl), some (.ref fa), v1] ∧ Same H H2 ∧ ∀ k, k < i → tX (zs.map (·.2)) (fs.drop k) = false) ⟨none, rfl, s1, fun k hk => by omega⟩ ?_ ?_⟩
      · rintro i σ H2 hi ⟨v1, rfl, s2, hno⟩
        have hi' : i < fs.length := by rw [List.length_map] at hi; omega
        refine ⟨_, rfl, _, rfl, _, rfl, _, rfl, fa, _, rfl, SqL.of (s2 _ _ hf), fun p hp => ?_⟩
        rw [Int.zero_add, uc, ← List.map_drop]
        have t := s2.trans (zj hp (o := .lst ((fs.drop i).map V.int)))
        refine ⟨bl, p, zs, fs.drop i, rfl, t _ _ hb, fun z hzm => t _ _ (hz z hzm), zf, hl1, fun H3 s3 => ⟨_, rfl, ?_⟩⟩
        have t3 := t.trans s3
        cases hB : tX (zs.map (·.2)) (fs.drop i) with
        | true =>
          refine wO ⟨_, rfl, _, rfl, _, rfl, fa, _, rfl, SqL.of (t3 _ _ hf), fun q hq => ?_⟩
          rw [uc, ← List.map_drop]
          refine kk _ _ (.inr ⟨hL, q, rfl, t3.free hq, ?_⟩) (t3.trans (zj hq))
          rw [zf, QJ (by omega) hno hB]
        | false =>
          refine xT ⟨_, rfl, t3, fun k hk => ?_⟩
          by_cases e : k < i
          · exact hno k e
          · have : k = i := by omega
            rw [this]; exact hB
      · rintro σ H2 ⟨v1, rfl, s2, hno⟩
        refine ⟨(by decide : 0 ≤ sizeLine), fun q hq => kk _ _ (.inr ⟨hL, q, rfl, s2.free hq, ?_⟩) (s2.trans (zj hq))⟩
        rw [zf, W7 (fun k hk => hno k (by rw [List.length_map]; omega))]
        rfl
end
section
variable {P : Program} {w : World} {K : PySem.W.Frag} {mg : Str → Option Value} {base : Heap} {T0 : Addr}
def lamP : Pos := ⟨63, 29, 63, 59⟩
def zcB : Scope := match (yS yc).getLast? with
  | some (.Return (some (.Call _ _ [⟨_, .Lambda _ _ sc _, _⟩] _)) _) => sc
  | _ => zq yc
theorem zcW : zB ["each"] ["each"] zcB := ⟨rfl, rfl, rfl, by decide +kernel, rfl, by decide +kernel, by decide +kernel⟩
theorem zbj {H H' : Hp} {p : Addr} {o : HO} (s : Same H H') (h : H p = none) : Same H (upd H' p o) := fun b u e => by rw [zr (zx e h)]; exact s b u e
def SameL (T : Addr) (H H' : Hp) : Prop := ∀ b u, b ≠ T → H b = some u → H' b = some u
abbrev LT (T : Addr) (H : Hp) : Prop := Y0 T lamP ((("stands_of" : Str) ++ (".<locals>." : Str)) ++ ("<lambda>" : Str)) H
theorem SameL.of {T : Addr} {H H' : Hp} (s : Same H H') : SameL T H H' := fun b u _ e => s b u e
theorem SameL.trans {T : Addr} {H H1 H2 : Hp} (a : SameL T H H1) (b : SameL T H1 H2) : SameL T H H2 := fun c u h e => b c u h (a c u h e)
theorem LT.same {T : Addr} {H H' : Hp} (h : LT T H) (s : Same H H') : LT T H' := by
  rcases h with h | ⟨c, h1, h2⟩
  · exact .inl (s _ _ h)
  · exact .inr ⟨c, s _ _ h1, s _ _ h2⟩
theorem LT.lst {T : Addr} {H : Hp} (h : LT T H) {b : Addr} {xs : List V} (e : H b = some (.lst xs)) : b ≠ T := fun z => by
  rw [z] at e
  rcases h with h | ⟨c, h, _⟩
  · rw [h] at e; cases e
  · rw [h] at e; cases e
theorem LT.tup {T : Addr} {H : Hp} (h : LT T H) {b : Addr} {xs : List V} (e : H b = some (.tup xs)) : b ≠ T := fun z => by
  rw [z] at e
  rcases h with h | ⟨c, h, _⟩
  · rw [h] at e; cases e
  · rw [h] at e; cases e
theorem LT.none {T : Addr} {H : Hp} (h : LT T H) {b : Addr} (e : H b = none) : b ≠ T := fun z => by
  rw [z] at e
  rcases h with h | ⟨c, h, _⟩
  · rw [h] at e; cases e
  · rw [h] at e; cases e
def jF (T : Addr) : Sp := fun vs H Q _ => ∃ (bl : Addr) (zs : List (Addr × List Int)), vs = [.ref bl] ∧ H bl = some (.lst (zs.map fun z => V.ref z.1)) ∧ (∀ z ∈ zs, H z.1 = some (.lst (z.2.map V.int))) ∧ zs.length ≤ 4 ∧ (∀ z ∈ zs, z.2 ≠ [] ∧ z.2.length ≤ 4) ∧ LT T H ∧
  ∀ (D : Addr) (ws : List (Addr × List Int)) (H' : Hp), H D = none → H' D = some (.lst (ws.map fun z => V.ref z.1)) → (∀ z ∈ ws, H z.1 = none ∧ H' z.1 = some (.lst (z.2.map V.int)) ∧ z.1 ≠ D) → StandsL (zs.map (·.2)) (ws.map (·.2)) → ws.length ≤ 13 → SameL T H H' → LT T H' → Q (.ref D) H'
theorem vJ : zB ["bad", "found", "stretch", "size", "stand"] ["bad"] (zq yc) := ⟨rfl, rfl, rfl, by decide +kernel, rfl, by decide +kernel, by decide +kernel⟩
theorem U5 {f f1 c : Addr} {fd fd1 : FuncData} (D : Df K mg "stands_of" yc ["bad"] f fd) (hc : fd.code = .ref c) (hcT : PySem.W.codeHdIn K c T0 = true) (hBM : base.BuiltinsAt mg T0) (hgT : mainGlobals ≠ T0) (yX : Df K mg "lacks_all" wz ["bad", "figures"] f1 fd1) (xG : FnOk P w K mg base CX0 2 f1 fd1 ["bad", "figures"] vW) (T : Blt mg) :
    FnOk P w K mg base CX0 6 f fd ["bad"] (jF T0) := by
  obtain ⟨oc, od, kV, doc, pm, an, cdv, ct, osl, rfl, lk, hcd⟩ := D.fn.ex
  obtain rfl : cdv = .ref c := hc
  refine zcC lk hcd vJ (fun vs H Q E h => ?_) (fun A outer s H vs Q E hr h => ?_)
  · obtain ⟨bl, zs, rfl, _⟩ := h; rfl
  · obtain ⟨bl, zs, rfl, hb, hz, h4, hst, hLT, kk⟩ := h
    have HU := Ww hr
    have lam_body : ∀ (f' c' : Addr) (s' : Shared) (H' : Hp) (z : Addr × List Int), H' z.1 = some (.lst (z.2.map V.int)) → ∃ t, PE (XN CX0 P w K mg base ["each"] ((("stands_of" : Str) ++ (".<locals>." : Str)) ++ ("<lambda>" : Str)) zcB f' (.ref c') (A.deeper (envOfC "stands_of" (zq yc) s.heap.objs.size f (.ref c))).in1.in1 (envOfC "stands_of" (zq yc) s.heap.objs.size f (.ref c) :: outer) s' H' E0)
        (match (yS yc).getLast? with
          | some (.Return (some (.Call _ _ [⟨_, .Lambda _ b _ _, _⟩] _)) _) => b
          | _ => .Constant .none 0 ⟨0, 0, 0, 0⟩) t ∧
        t (start ["each"] [.ref z.1]) H' fun v H2 => ∃ p, v = .ref p ∧ H' p = none ∧ H2 = upd H' p (.tup [.int z.2.length, .ref z.1]) := by
      intro f' c' s' H' z hz'
      refine ⟨_, (ue (zc (zA (uL K) (by rfl) T.n_len PySem.boot_len (zc (pv 0) zg)) (zc (pv 0) zg))), ?_⟩
      refine ⟨_, rfl, z.1, _, rfl, .inl (SqL.of hz'), _, rfl, (by show 2 ≤ sizeLine; decide), fun p hp => ⟨p, rfl, hp, ?_⟩⟩
      rw [List.length_map]
    refine Exists.elim (?key : ∃ t, PSs (XN CX0 P w K mg base ["bad", "found", "stretch", "size", "stand"] "stands_of" (zq yc) f (.ref c) A outer s H E).nox (yS yc) t ∧ t { nx := fun _ H' => Q .non H', rt := Q } (start ["bad", "found", "stretch", "size", "stand"] [.ref bl]) H) fun t h => ⟨t, h.1.nox, h.2⟩
    refine ⟨_, (zp (zF (i := 1) vJ.nd rfl (Or.inl rfl) (zM (zc (zM zg) zg)))
      (zp (vY PassesOwn.never rfl (jX K (pv 0)) (zY (i := 2) vJ.nd rfl (Or.inl rfl))
        (zu (vY PassesOwn.never rfl (V9 rfl T.n_range (zc zm (zc (zA (uL K) (by rfl) T.n_len PySem.boot_len (zc (pv 2) zg)) zg))) (zY (i := 3) vJ.nd rfl (Or.inl rfl))
          (zp (zF (i := 4) vJ.nd rfl (Or.inl rfl) (wk (Zt K) (pv 2) uv (wX (pv 3))))
          (zu (xX (PW.pt (Qo (zO (WN K HU) (pv 4) (pv 1) (by with_unfolding_all rfl)) (Wc (tL (zJ yX xG (hr.mono (by decide)) (zc (pv 0) (zc (pv 4) zg)))))))
            (zu (vO (XH PySem.F.plainAttrs_list PySem.F.slot_list_append PySem.F.type_list_append uX (pv 1) (zc (pv 4) zg))))
            yg))))))
      (zu (zH (Jj (k := 1) (pv 1) rfl T.n_sorted (hr.mono (by decide)) rfl rfl rfl hcT hBM hgT zcW (fun _ _ _ _ => rfl) lam_body))))), ?_⟩
    have hls : ∀ st ∈ zs.map (·.2), st ≠ [] ∧ st.length ≤ 4 := fun st h => by obtain ⟨z, hz, rfl⟩ := List.mem_map.mp h; exact hst z hz
    refine ⟨(by decide : 0 ≤ sizeLine), fun e0 he0 => ⟨(by show 1 ≤ sizeLine; decide), fun fo hfo => ?_⟩⟩
    have hfoH : H fo = none := (zj he0).free hfo
    have nef : e0 ≠ fo := fun z => by rw [← z, zf] at hfo; cases hfo
    let Inv1 : List (Addr × List Int) → (List Int → Prop) → Hp → Prop := fun ws M H2 => H2 fo = some (.lst (ws.map fun z => V.ref z.1)) ∧ (∀ z ∈ ws, H z.1 = none ∧ H2 z.1 = some (.lst (z.2.map V.int)) ∧ z.1 ≠ fo) ∧ (ws.map (·.2)).Nodup ∧ (∀ x, x ∈ ws.map (·.2) ↔ M x) ∧ Same H H2
    let M1 : Nat → List Int → Prop := fun i x => x = [] ∨ ∃ z ∈ zs.take i, ∃ k, 1 ≤ k ∧ k < z.2.length ∧ x = z.2.take k ∧ lacks (zs.map (·.2)) x = true
    refine ⟨_, rfl, bl, rfl, ⟨_, SqL.of ((zj he0).trans (zj hfo) _ _ hb)⟩, Qy (K := K) (a := bl) (xs := zs.map fun z => V.ref z.1) (fun i σ H2 => ∃ (v2 v3 v4 : Option V) (ws : List (Addr × List Int)), σ = [some (.ref bl), some (.ref fo), v2, v3, v4] ∧ Inv1 ws (M1 i) H2 ∧ ws.length ≤ 1 + 3 * i)
      ⟨none, none, none, [(e0, [])], rfl, ⟨zf, fun z hz' => ?_, by simp, fun x => ?_, (zj he0).trans (zj hfo)⟩, by simp⟩ (fun i σ H2 _ ⟨_, _, _, _, _, ⟨_, _, _, _, e⟩, _⟩ => SqL.of (e _ _ hb)) ?_ ?_⟩
    · have e : z = (e0, []) := by simpa using hz'
      subst e
      exact ⟨he0, by rw [zr nef, zf]; rfl, nef⟩
    · constructor
      · intro hx
        exact .inl (by simpa using hx)
      · rintro (rfl | ⟨z, hz', _⟩)
        · simp
        · simp at hz'
    · rintro i x σ H2 hx ⟨v2, v3, v4, ws, rfl, ⟨hF, hW, ndW, hM, sm⟩, hlen⟩
      rw [List.getElem?_map] at hx
      obtain ⟨z, hzj, e⟩ := Option.map_eq_some_iff.mp hx
      subst e
      have hzm := List.mem_of_getElem? hzj
      have hi4 : i < zs.length := (List.getElem?_eq_some_iff.mp hzj).1
      obtain ⟨hne, hz4⟩ := hst z hzm
      have hpos : 0 < z.2.length := List.length_pos_iff.mpr hne
      refine ⟨_, rfl, z.1, _, rfl, .inl (SqL.of (sm _ _ (hz z hzm))), 1, _, rfl, ?_, ?_⟩
      · rw [List.length_map]; omega
      rw [List.length_map]
      refine wF (lo := 1) (n := ((z.2.length : Int) - 1).toNat) (fun j σ H3 => ∃ (v3 v4 : Option V) (ws : List (Addr × List Int)), σ = [some (.ref bl), some (.ref fo), some (.ref z.1), v3, v4] ∧ Inv1 ws (fun x => M1 i x ∨ ∃ k, 1 ≤ k ∧ k ≤ j ∧ x = z.2.take k ∧ lacks (zs.map (·.2)) x = true) H3 ∧ ws.length ≤ 1 + 3 * i + j)
        ⟨_, _, ws, rfl, ⟨hF, hW, ndW, fun x => ?_, sm⟩, hlen⟩ ?_ ?_
      · rw [hM]
        constructor
        · exact .inl
        · rintro (h | ⟨k, h1, h2, _⟩)
          · exact h
          · omega
      · rintro j σ H3 hj ⟨v3, v4, ws, rfl, ⟨hF, hW, ndW, hM, sm⟩, hlen⟩
        have hj' : j + 1 < z.2.length := by omega
        refine ⟨_, rfl, _, rfl, _, rfl, z.1, _, rfl, SqL.of (sm _ _ (hz z hzm)), fun p hp => ?_⟩
        rw [show (1 : Int) + (j : Int) = ((j + 1 : Nat) : Int) by omega, ZJ, ← List.map_take]
        have sm2 := sm.trans (zj hp (o := .lst ((z.2.take (j + 1)).map V.int)))
        have hF2 : (upd H3 p (.lst ((z.2.take (j + 1)).map V.int))) fo = some (.lst (ws.map fun z => V.ref z.1)) := zj hp _ _ hF
        have hW2 : ∀ y ∈ ws, H y.1 = none ∧ (upd H3 p (.lst ((z.2.take (j + 1)).map V.int))) y.1 = some (.lst (y.2.map V.int)) ∧ y.1 ≠ fo := fun y hy => ⟨(hW y hy).1, zj hp _ _ (hW y hy).2.1, (hW y hy).2.2⟩
        have npf : p ≠ fo := fun y => by rw [y, hF] at hp; cases hp
        have hpH : H p = none := sm.free hp
        generalize hx : z.2.take (j + 1) = x at *
        have hxl : x.length ≤ 4 := by rw [← hx, List.length_take]; omega
        have stay : (x ∈ ws.map (·.2) ∨ lacks (zs.map (·.2)) x = false) → ∀ y, y ∈ ws.map (·.2) ↔ (M1 i y ∨ ∃ k, 1 ≤ k ∧ k ≤ j + 1 ∧ y = z.2.take k ∧ lacks (zs.map (·.2)) y = true) := fun hor y => by
          constructor
          · intro hy
            rcases (hM y).mp hy with h | ⟨k, h1, h2, h3⟩
            · exact .inl h
            · exact .inr ⟨k, h1, by omega, h3⟩
          · rintro (h | ⟨k, h1, h2, h3, h4⟩)
            · exact (hM y).mpr (.inl h)
            · by_cases hk : k ≤ j
              · exact (hM y).mpr (.inr ⟨k, h1, hk, h3, h4⟩)
              · have : k = j + 1 := by omega
                rw [this, hx] at h3
                rw [h3] at h4 ⊢
                rcases hor with h | h
                · exact h
                · rw [h] at h4; cases h4
        refine ⟨_, rfl, _, rfl, fo, _, (ws.map (·.2)).map yt, yt x, rfl, SqL.of hF2, TrsAt.lists (fun y hy => (hW2 y hy).2.1), TrAt.ints (a := p) (SqL.of zf), Nat.le_trans (xF _) (by decide), _, rfl, ?_⟩
        rw [if_pos rfl, Zz]
        by_cases hin : x ∈ ws.map (·.2)
        · rw [decide_eq_true hin]
          refine xT ?_
          exact xT ⟨_, _, ws, rfl, ⟨hF2, hW2, ndW, stay (.inl hin), sm2⟩, by omega⟩
        · rw [decide_eq_false hin]
          refine wO ?_
          refine ⟨_, rfl, _, rfl, bl, p, zs, x, rfl, sm2 _ _ hb, fun y hy => sm2 _ _ (hz y hy), zf, by omega, by omega, fun y hy => ⟨(hst y hy).1, Nat.le_trans (hst y hy).2 (by decide)⟩, fun H4 s4 => ⟨_, rfl, ?_⟩⟩
          have sm4 := sm2.trans s4
          have hF4 := s4 _ _ hF2
          have hW4 : ∀ y ∈ ws, H y.1 = none ∧ H4 y.1 = some (.lst (y.2.map V.int)) ∧ y.1 ≠ fo := fun y hy => ⟨(hW2 y hy).1, s4 _ _ (hW2 y hy).2.1, (hW2 y hy).2.2⟩
          have hp4 := s4 _ _ (zf (H := H3) (a := p) (o := .lst (x.map V.int)))
          cases hLk : lacks (zs.map (·.2)) x with
          | false => exact xT ⟨_, _, ws, rfl, ⟨hF4, hW4, ndW, stay (.inr hLk), sm4⟩, by omega⟩
          | true =>
            refine wO ⟨_, rfl, .inl ⟨rfl, _, SqL.of hF4⟩, _, rfl, fo, _, _, rfl, rfl, hF4, by rw [List.length_map]; exact Nat.lt_of_le_of_lt (show ws.length ≤ 100 by omega) (by decide), ?_⟩
            refine ⟨_, _, ws ++ [(p, x)], rfl, ⟨by rw [zf, List.map_append]; rfl, fun y hy => ?_, ?_, fun y => ?_, zbj sm4 hfoH⟩, by rw [List.length_append, List.length_singleton]; omega⟩
            · rcases List.mem_append.mp hy with hy | hy
              · obtain ⟨a1, a2, a3⟩ := hW4 y hy
                exact ⟨a1, by rw [zr a3]; exact a2, a3⟩
              · rw [List.mem_singleton.mp hy]
                exact ⟨hpH, by rw [zr npf]; exact hp4, npf⟩
            · rw [List.map_append]
              refine List.nodup_append.mpr ⟨ndW, by simp, fun a ha b hb' => ?_⟩
              have e : b = x := by simpa using hb'
              rw [e]
              exact fun q => hin (q ▸ ha)
            · rw [List.map_append, List.mem_append]
              constructor
              · rintro (h | h)
                · rcases (hM y).mp h with h | ⟨k, h1, h2, h3⟩
                  · exact .inl h
                  · exact .inr ⟨k, h1, by omega, h3⟩
                · have e : y = x := by simpa using h
                  rw [e]
                  exact .inr ⟨j + 1, by omega, Nat.le_refl _, hx.symm, hLk⟩
              · rintro (h | ⟨k, h1, h2, h3, h4⟩)
                · exact .inl ((hM y).mpr (.inl h))
                · by_cases hk : k ≤ j
                  · exact .inl ((hM y).mpr (.inr ⟨k, h1, hk, h3, h4⟩))
                  · have : k = j + 1 := by omega
                    rw [this, hx] at h3
                    exact .inr (by simp [h3])
      · rintro σ H3 ⟨v3, v4, ws, rfl, ⟨hF, hW, ndW, hM, sm⟩, hlen⟩
        refine ⟨_, _, _, ws, rfl, ⟨hF, hW, ndW, fun x => ?_, sm⟩, by omega⟩
        rw [hM]
        constructor
        · rintro ((h | ⟨y, hy, h⟩) | ⟨k, h1, h2, h3⟩)
          · exact .inl h
          · exact .inr ⟨y, by rw [List.take_succ]; exact List.mem_append_left _ hy, h⟩
          · exact .inr ⟨z, by rw [List.take_succ, hzj]; simp, k, h1, by omega, h3⟩
        · rintro (h | ⟨y, hy, k, h1, h2, h3⟩)
          · exact .inl (.inl h)
          · rw [List.take_succ, hzj] at hy
            rcases List.mem_append.mp hy with hy | hy
            · exact .inl (.inr ⟨y, hy, k, h1, h2, h3⟩)
            · have e : y = z := by simpa using hy
              rw [e] at h2 h3
              exact .inr ⟨k, h1, by omega, h3⟩
    · rintro σ H2 ⟨v2, v3, v4, ws, rfl, ⟨hF, hW, ndW, hM, sm⟩, hlen⟩
      rw [List.length_map] at hM hlen
      refine ⟨_, rfl, fo, ws, rfl, hF, fun z hz' => (hW z hz').2.1, ndW, by omega, hLT.same sm, fun D ws' H3 hD hD3 up lt pm pw => ?_⟩
      have lt2 := hLT.same sm
      have inw : ∀ z ∈ ws', z ∈ ws := fun z hz' => pm.mem_iff.mp hz'
      refine kk D ws' _ (sm.free hD) zf (fun z hz' => ?_) ⟨fun x => ?_, by rw [List.pairwise_map]; exact pw⟩ (by rw [pm.length_eq]; omega) (fun b u hb' e => ?_) ?_
      · obtain ⟨a1, a2, a3⟩ := hW z (inw z hz')
        have n1 : z.1 ≠ D := zx a2 hD
        exact ⟨a1, by rw [zr n1]; exact up _ _ (lt2.lst a2) a2, n1⟩
      · have e : x ∈ ws'.map (·.2) ↔ x ∈ ws.map (·.2) := (pm.map (·.2)).mem_iff
        rw [e, hM]
        show (x = [] ∨ _) ↔ (x = [] ∨ _)
        constructor
        · rintro (h | ⟨z, hz', k, h1, h2, h3, h4⟩)
          · exact .inl h
          · rw [List.take_length] at hz'
            exact .inr ⟨z.2, List.mem_map.mpr ⟨z, hz', rfl⟩, k, h1, h2, h3, h4⟩
        · rintro (h | ⟨st, hst', k, h1, h2, h3, h4⟩)
          · exact .inl h
          · obtain ⟨z, hz', rfl⟩ := List.mem_map.mp hst'
            exact .inr ⟨z, by rw [List.take_length]; exact hz', k, h1, h2, h3, h4⟩
      · have q := up b u hb' (sm _ _ e)
        rw [zr (zx q hD3)]; exact q
      · exact LT.same (show LT T0 H3 from lt) (zj hD3)
end
section
variable {P : Program} {w : World} {K : PySem.W.Frag} {mg : Str → Option Value} {base : Heap} {T0 : Addr}
def plc (ls ws : List (List Int)) (fs : List Int) : V := if lacks ls fs = true then .int ((ws.idxOf (zG ls fs) : Nat) : Int) else .non
theorem jQ {x : List Int} : ∀ {xs : List (List Int)} {m : Nat}, m < xs.idxOf x → ∀ h : m < xs.length, xs[m] ≠ x
  | [], m, h, h' => by simp at h'
  | y :: ys, m, h, h' => by
    rw [List.idxOf_cons] at h
    by_cases e : y = x
    · subst e; simp at h
    · have e' : (y == x) = false := by simpa using e
      rw [e'] at h
      cases m with
      | zero => simpa using e
      | succ m => simpa using jQ (x := x) (xs := ys) (m := m) (by simpa using h) (by simpa using h')
def uJ : Sp := fun vs H Q _ => ∃ (bl Dd fa : Addr) (zs ws : List (Addr × List Int)) (fs : List Int), vs = [.ref bl, .ref Dd, .ref fa] ∧ H bl = some (.lst (zs.map fun z => V.ref z.1)) ∧ (∀ z ∈ zs, H z.1 = some (.lst (z.2.map V.int))) ∧ H Dd = some (.lst (ws.map fun z => V.ref z.1)) ∧ (∀ z ∈ ws, H z.1 = some (.lst (z.2.map V.int))) ∧ H fa = some (.lst (fs.map V.int)) ∧ zs.length ≤ 4 ∧ ws.length ≤ 13 ∧ fs.length ≤ 1000 ∧ (∀ z ∈ zs, z.2 ≠ [] ∧ z.2.length ≤ 4) ∧
  (lacks (zs.map (·.2)) fs = true → zG (zs.map (·.2)) fs ∈ ws.map (·.2)) ∧ ∀ H', Same H H' → Q (plc (zs.map (·.2)) (ws.map (·.2)) fs) H'
theorem jU : zB ["bad", "stands", "figures", "stand"] ["bad", "stands", "figures"] (zq vI) := ⟨rfl, rfl, rfl, by decide +kernel, rfl, by decide +kernel, by decide +kernel⟩
theorem X4 {f f1 : Addr} {fd fd1 : FuncData} (D : Df K mg "place_behind" vI ["bad", "stands", "figures"] f fd) (vA : Df K mg "longest_stand" w5 ["bad", "figures"] f1 fd1) (tU : FnOk P w K mg base CX0 3 f1 fd1 ["bad", "figures"] ut) : FnOk P w K mg base CX0 4 f fd ["bad", "stands", "figures"] uJ := by
  refine D.fn.ok jU (fun vs H Q E h => ?_) (fun cdv A outer s H vs Q E hr h => ?_)
  · obtain ⟨bl, Dd, fa, zs, ws, fs, rfl, _⟩ := h; rfl
  · obtain ⟨bl, Dd, fa, zs, ws, fs, rfl, hb, hz, hD, hw, hf, h4, h13, hl, hst, hin, kk⟩ := h
    have HU := Ww hr
    refine ⟨_, (zp (zF (i := 3) jU.nd rfl (Or.inl rfl) (zJ vA tU (hr.mono (by decide)) (zc (pv 0) (zc (pv 2) zg))))
      (zp (xX (zO zcS (pv 3) tR (zT _))
        (zu (zH tR))
        yg)
      (zu (zH (XH PySem.F.plainAttrs_list PySem.F.slot_list_index PySem.F.type_list_index (zbb K HU) (pv 1) (zc (pv 3) zg)))))), ?_⟩
    refine ⟨_, rfl, _, rfl, bl, fa, zs, fs, rfl, hb, hz, hf, by omega, hl, fun z hz => ⟨(hst z hz).1, Nat.le_trans (hst z hz).2 (by decide)⟩, fun v H1 sv s1 => ?_⟩
    have q := kk H1 s1
    unfold plc at q
    rcases sv with ⟨hL, rfl⟩ | ⟨hL, l, rfl, hn, hv⟩
    · rw [hL, if_neg (by decide)] at q
      exact ⟨_, rfl, rfl, _, rfl, wO q⟩
    · rw [if_pos hL] at q
      have hm := hin hL
      have hlt := List.idxOf_lt_length_iff.mpr hm
      refine ⟨_, rfl, rfl, _, rfl, xT ?_⟩
      refine ⟨_, rfl, .inl ⟨rfl, _, SqL.of (s1 _ _ hD)⟩, _, rfl, Dd, _, _, (ws.map (·.2)).map yt, yt (zG (zs.map (·.2)) fs), (ws.map (·.2)).idxOf (zG (zs.map (·.2)) fs), rfl, rfl, SqL.of (s1 _ _ hD), TrsAt.lists (fun z hz => s1 _ _ (hw z hz)), TrAt.ints (a := l) (SqL.of hv), Nat.le_trans (xF _) (by decide), by rw [List.length_map]; exact hlt, ?_, ?_, q⟩
      · intro t ht
        rw [List.getElem?_map, List.getElem?_eq_getElem hlt, Option.map_some] at ht
        rw [← Option.some.inj ht, List.getElem_idxOf hlt, uA, decide_eq_true rfl]
      · intro m t hm' ht
        rw [List.getElem?_map, List.getElem?_eq_getElem (Nat.lt_trans hm' hlt), Option.map_some] at ht
        rw [← Option.some.inj ht, uA, decide_eq_false]
        intro e
        have q3 := jQ hm' (Nat.lt_trans hm' hlt)
        exact q3 e
def X3 (ls ws : List (List Int)) (b : Nat) (x : List Int) : List V := (List.range b).map fun (c : Nat) => plc ls ws (x ++ [(c : Int)])
def qN : Sp := fun vs H Q _ => ∃ (r : Addr) (b : Nat) (bl : Addr) (zs : List (Addr × List Int)) (Dd : Addr) (ws : List (Addr × List Int)) (sa : Addr) (xs : List Int), vs = [.ref r, .ref Dd, .ref sa] ∧ RuleAt H r b bl zs ∧ yl b (zs.map (·.2)) ∧ H Dd = some (.lst (ws.map fun z => V.ref z.1)) ∧ (∀ z ∈ ws, H z.1 = some (.lst (z.2.map V.int))) ∧ StandsL (zs.map (·.2)) (ws.map (·.2)) ∧ ws.length ≤ 13 ∧ H sa = some (.lst (xs.map V.int)) ∧ xs.length ≤ 100 ∧
  ∀ p H', H p = none → Same H H' → H' p = some (.lst (X3 (zs.map (·.2)) (ws.map (·.2)) b xs)) → Q (.ref p) H'
theorem Vy : zB ["rule", "stands", "stand"] ["rule", "stands", "stand"] (zq vL) := ⟨rfl, rfl, rfl, by decide +kernel, rfl, by decide +kernel, by decide +kernel⟩
theorem Vv {f f1 : Addr} {fd fd1 : FuncData} (D : Df K mg "steps_from" vL ["rule", "stands", "stand"] f fd) (uz : Df K mg "place_behind" vI ["bad", "stands", "figures"] f1 fd1) (qJ : FnOk P w K mg base CX0 4 f1 fd1 ["bad", "stands", "figures"] uJ) (T : Blt mg) : FnOk P w K mg base CX0 5 f fd ["rule", "stands", "stand"] qN := by
  refine D.fn.ok Vy (fun vs H Q E h => ?_) (fun cdv A outer s H vs Q E hr h => ?_)
  · obtain ⟨r, b, bl, zs, Dd, ws, sa, xs, rfl, _⟩ := h; rfl
  · obtain ⟨r, b, bl, zs, Dd, ws, sa, xs, rfl, R, g, hD, hw, SL, h13, hs, hl, kk⟩ := h
    have h4 : zs.length ≤ 4 := by have := g.len; rwa [List.length_map] at this
    have ne : ∀ l ∈ zs.map (·.2), l ≠ [] := fun l hl => (g.st l hl).ne
    refine ⟨_, (zu (zH (xV (show CScope (zq vL) _ "figure" ["rule", "stands", "stand"] ["stands", "rule", "stand"] [1, 0, 2] from ⟨rfl, by decide +kernel, by decide +kernel, rfl, by decide +kernel, rfl, by decide +kernel, by decide +kernel⟩) rfl (yp rfl T.n_range (zc (zP (vD K) (pv 0) zm (fun _ _ => rfl)) zg)) (fun _ _ _ _ => yD) (fun _ _ _ _ => (zJ uz qJ (hr.mono (by decide)) (zc (zP (vD K) (pv 2) zm (fun _ _ => rfl)) (zc (pv 1) (zc (zK Xi (pv 3) (zM (zc (pv 0) zg))) zg)))))))), ?_⟩
    have b16 := g.b16
    refine ⟨_, rfl, r, _, _, V.int b, rfl, rfl, SqT.of R.tu, rfl, (b : Int), rfl, by omega, by omega, wC (lo := 0) (n := (b : Int).toNat) (fun i ys H4 => ys = X3 (zs.map (·.2)) (ws.map (·.2)) i xs ∧ Same H H4) ⟨rfl, Same.refl _⟩ ?_ ?_⟩
    · rintro i ys H4 hi ⟨rfl, s4⟩
      have hi' : i < b := by omega
      refine ⟨?_, ?_⟩
      · unfold X3
        rw [List.length_map, List.length_range]
        exact Nat.lt_of_lt_of_le (show i < 16 by omega) (by decide)
      unfold jf
      dsimp only
      rw [if_pos rfl]
      have R4 := R.same s4
      have hs4 := s4 _ _ hs
      refine ⟨_, rfl, r, _, _, V.ref bl, rfl, rfl, SqT.of R4.tu, rfl, _, rfl, _, rfl, _, rfl, (by show 1 ≤ sizeLine; decide), fun p1 q1 => ?_⟩
      have n1 : sa ≠ p1 := zx hs4 q1
      refine ⟨sa, p1, _, _, rfl, rfl, by rw [zr n1]; exact hs4, zf, by rw [List.length_map]; exact Nat.le_trans (show xs.length + 1 ≤ 101 by omega) (by decide), fun p2 q2 => ?_⟩
      have t2 := s4.trans ((zj q1 (o := .lst [V.int (0 + (i : Int))])).trans (zj q2 (o := .lst (xs.map V.int ++ [V.int (0 + (i : Int))]))))
      have R5 := R.same t2
      refine ⟨bl, Dd, p2, zs, ws, xs ++ [0 + (i : Int)], rfl, R5.li, R5.st, t2 _ _ hD, fun z hz => t2 _ _ (hw z hz), by rw [zf, List.map_append]; rfl, h4, h13, by rw [List.length_append, List.length_singleton]; omega, fun z hz => ⟨(g.st _ (List.mem_map.mpr ⟨z, hz, rfl⟩)).ne, (g.st _ (List.mem_map.mpr ⟨z, hz, rfl⟩)).len⟩, fun h => (SL.mem _).mpr (jG ne h), fun H5 s5 => ⟨?_, t2.trans s5⟩⟩
      unfold X3
      rw [List.range_succ, List.map_append, Int.zero_add]
      rfl
    · rintro ys H4 ⟨rfl, s4⟩ p hp
      refine kk p _ (s4.free hp) (s4.trans (zj hp)) ?_
      rw [zf, Int.toNat_natCast]
def WD (ls ws : List (List Int)) (b : Nat) : List (List V) := ws.map (X3 ls ws b) ++ [V.int (ws.length : Nat) :: (X3 ls ws b []).drop 1]
def jn : Sp := fun vs H Q _ => ∃ (r : Addr) (b : Nat) (bl : Addr) (zs : List (Addr × List Int)) (Dd : Addr) (ws : List (Addr × List Int)), vs = [.ref r, .ref Dd] ∧ RuleAt H r b bl zs ∧ yl b (zs.map (·.2)) ∧ H Dd = some (.lst (ws.map fun z => V.ref z.1)) ∧ (∀ z ∈ ws, H z.1 = some (.lst (z.2.map V.int))) ∧ StandsL (zs.map (·.2)) (ws.map (·.2)) ∧ ws.length ≤ 13 ∧
  ∀ (p : Addr) (rs : List (Addr × List V)) (H' : Hp), H p = none → Same H H' → H' p = some (.lst (rs.map fun z => V.ref z.1)) → (∀ z ∈ rs, H z.1 = none ∧ H' z.1 = some (.lst z.2)) → rs.map (·.2) = WD (zs.map (·.2)) (ws.map (·.2)) b → Q (.ref p) H'
theorem YD : zB ["rule", "stands", "steps"] ["rule", "stands"] (zq uD) := ⟨rfl, rfl, rfl, by decide +kernel, rfl, by decide +kernel, by decide +kernel⟩
theorem Uy {f f1 : Addr} {fd fd1 : FuncData} (D : Df K mg "all_steps" uD ["rule", "stands"] f fd) (qj : Df K mg "steps_from" vL ["rule", "stands", "stand"] f1 fd1) (Zw : FnOk P w K mg base CX0 5 f1 fd1 ["rule", "stands", "stand"] qN) (T : Blt mg) : FnOk P w K mg base CX0 6 f fd ["rule", "stands"] jn := by
  refine D.fn.ok YD (fun vs H Q E h => ?_) (fun cdv A outer s H vs Q E hr h => ?_)
  · obtain ⟨r, b, bl, zs, Dd, ws, rfl, _⟩ := h; rfl
  · obtain ⟨r, b, bl, zs, Dd, ws, rfl, R, g, hD, hw, SL, h13, kk⟩ := h
    have l3 : ∀ z ∈ ws, z.2.length ≤ 3 := fun z hz => Q0 (fun st h => (g.st st h).len) ((SL.mem _).mp (List.mem_map.mpr ⟨z, hz, rfl⟩))
    obtain ⟨w1, hw1⟩ := SL.first
    refine ⟨_, (zp (vg (i := 2) (show CScope (zq uD) _ "stand" ["rule", "stands", "steps"] ["rule", "stands"] [0, 1] from ⟨rfl, by decide +kernel, by decide +kernel, rfl, by decide +kernel, rfl, by decide +kernel, by decide +kernel⟩) rfl YD.nd rfl (Or.inl rfl) (jX K (pv 1)) (fun _ _ _ _ => yD) (fun _ _ _ _ => (zJ qj Zw (hr.mono (by decide)) (zc (pv 1) (zc (pv 2) (zc (pv 0) zg))))))
      (zu (zH (zK Xi (pv 2) (zM (zc (zK Xi (zM (zc (zA (uL K) (by rfl) T.n_len PySem.boot_len (zc (pv 1) zg)) zg)) (wk (Zt K) (zP (wL K) (pv 2) zm (fun _ _ => rfl)) (wX zm) uv)) zg)))))), ?_⟩
    refine ⟨_, rfl, Dd, rfl, ⟨_, SqL.of hD⟩, yO (K := K) (a := Dd) (xs := ws.map fun z => V.ref z.1) (fun i ys H4 => ∃ rs : List (Addr × List V), ys = (rs.map fun z => V.ref z.1) ∧ (∀ z ∈ rs, H z.1 = none ∧ H4 z.1 = some (.lst z.2)) ∧ rs.map (·.2) = (ws.take i).map (fun z => X3 (zs.map (·.2)) (ws.map (·.2)) b z.2) ∧ Same H H4) ⟨[], rfl, fun z hz => (by cases hz), rfl, Same.refl _⟩ (fun i ys H4 _ ⟨_, _, _, _, e⟩ => SqL.of (e _ _ hD)) ?_ ?_⟩
    · rintro j x ys H4 hx ⟨rs, rfl, hrs, hr2, s4⟩
      rw [List.getElem?_map] at hx
      obtain ⟨z, hzj, e⟩ := Option.map_eq_some_iff.mp hx
      subst e
      have hzm := List.mem_of_getElem? hzj
      refine ⟨?_, ?_⟩
      · have e1 := congrArg List.length hr2
        rw [List.length_map, List.length_map, List.length_take] at e1
        rw [List.length_map, e1]
        exact Nat.lt_of_le_of_lt (Nat.le_trans (Nat.min_le_right _ _) h13) (by decide)
      unfold jf
      dsimp only
      rw [if_pos rfl]
      refine ⟨_, rfl, _, rfl, _, rfl, r, b, bl, zs, Dd, ws, z.1, z.2, rfl, R.same s4, g, s4 _ _ hD, fun z hz => s4 _ _ (hw z hz), SL, h13, s4 _ _ (hw z hzm), Nat.le_trans (l3 z hzm) (by decide), fun p H5 hp s5 hv => ?_⟩
      refine ⟨rs ++ [(p, X3 (zs.map (·.2)) (ws.map (·.2)) b z.2)], by simp, fun y hy => ?_, ?_, s4.trans s5⟩
      · rcases List.mem_append.mp hy with h | h
        · exact ⟨(hrs y h).1, s5 _ _ (hrs y h).2⟩
        · rw [List.mem_singleton] at h
          subst h
          exact ⟨s4.free hp, hv⟩
      · rw [List.map_append, hr2, List.take_succ, hzj]
        simp
    · rintro ys H4 ⟨rs, rfl, hrs, hr2, s4⟩ p hp
      have hl2 := congrArg List.length hr2
      rw [List.length_map, List.take_length] at hr2
      rw [List.length_map, List.length_map, List.length_take, List.length_map, Nat.min_self] at hl2
      obtain ⟨w0, ws', rfl⟩ : ∃ w0 ws', ws = w0 :: ws' := by
        cases ws with
        | nil => simp at hw1
        | cons a b => exact ⟨a, b, rfl⟩
      have hw0 : w0.2 = [] := by
        rw [List.map_cons] at hw1
        exact (List.cons.inj hw1).1
      obtain ⟨r0, rs', rfl⟩ : ∃ r0 rs', rs = r0 :: rs' := by
        cases rs with
        | nil => simp at hl2
        | cons a b => exact ⟨a, b, rfl⟩
      have hr0 : r0.2 = X3 (zs.map (·.2)) ((w0 :: ws').map (·.2)) b [] := by
        have e := (List.cons.inj hr2).1
        rw [← hw0]
        exact e
      have t4 := s4.trans (zj hp (o := .lst ((r0 :: rs').map fun z => V.ref z.1)))
      have hr04 : ∀ z ∈ r0 :: rs', upd H4 p (.lst ((r0 :: rs').map fun z => V.ref z.1)) z.1 = some (.lst z.2) := fun z hz => zj hp _ _ (hrs z hz).2
      refine ⟨_, rfl, _, rfl, Dd, _, rfl, .inl (SqL.of (t4 _ _ hD)), (by show 1 ≤ sizeLine; decide), fun p1 q1 => ?_⟩
      have u1 := zj q1 (o := .lst [V.int (((w0 :: ws').map fun z => V.ref z.1).length : Nat)])
      refine ⟨_, rfl, p, _, _, V.ref r0.1, rfl, rfl, SqL.of (u1 _ _ zf), wH (j := 0) rfl, _, rfl, r0.1, _, rfl, SqL.of (u1 _ _ (hr04 r0 List.mem_cons_self)), fun p2 q2 => ?_⟩
      have hb1 : r0.2.length ≤ 16 := by
        rw [hr0]
        unfold X3
        rw [List.length_map, List.length_range]
        exact g.b16
      have u2 := u1.trans (zj q2 (o := .lst (jc r0.2 (some 1) none)))
      refine ⟨p1, p2, _, _, rfl, rfl, zj q2 _ _ zf, zf, ?_, fun p3 q3 => ?_⟩
      · rw [show (1 : Int) = ((1 : Nat) : Int) from rfl, uc, List.length_drop, List.length_singleton]
        exact Nat.le_trans (show 1 + (r0.2.length - 1) ≤ 100 by omega) (by decide)
      have ev : ([V.int (((w0 :: ws').map fun z => V.ref z.1).length : Nat)] ++ jc r0.2 (some 1) none) = V.int (((w0 :: ws').map (·.2)).length : Nat) :: (X3 (zs.map (·.2)) ((w0 :: ws').map (·.2)) b []).drop 1 := by
        rw [show (1 : Int) = ((1 : Nat) : Int) from rfl, uc, hr0, List.length_map, List.length_map]
        rfl
      have u3 := u2.trans (zj q3 (o := .lst ([V.int (((w0 :: ws').map fun z => V.ref z.1).length : Nat)] ++ jc r0.2 (some 1) none)))
      refine ⟨(by show 1 ≤ sizeLine; decide), fun p4 q4 => ?_⟩
      have u4 := u3.trans (zj q4 (o := .lst [V.ref p3]))
      refine ⟨p, p4, _, _, rfl, rfl, u4 _ _ zf, zf, ?_, fun p5 q5 => ?_⟩
      · rw [List.length_map, List.length_singleton]
        exact Nat.le_trans (show (r0 :: rs').length + 1 ≤ 100 by omega) (by decide)
      have u5 := u4.trans (zj q5 (o := .lst ((r0 :: rs').map (fun z => V.ref z.1) ++ [V.ref p3])))
      refine kk p5 (r0 :: rs' ++ [(p3, [V.int (((w0 :: ws').map fun z => V.ref z.1).length : Nat)] ++ jc r0.2 (some 1) none)]) _ (t4.free (u4.free q5)) (t4.trans u5) ?_ ?_ ?_
      · rw [zf, List.map_append]
        rfl
      · intro z hz
        rcases List.mem_append.mp hz with h | h
        · exact ⟨(hrs z h).1, u5 _ _ (hr04 z h)⟩
        · rw [List.mem_singleton] at h
          subst h
          exact ⟨t4.free (u2.free q3), zj q5 _ _ (zj q4 _ _ zf)⟩
      · rw [List.map_append, hr2, ev]
        unfold WD
        rw [List.map_map]
        rfl
end
structure ClT (K : PySem.W.Frag) (mg : Str → Option Value) (C : Addr) : Prop where
  cl : Cls K C
  nm : mg "Tails" = some (.ref C)
  n_base : NoAttr K C "base"
  n_outset : NoAttr K C "outset"
  n_steps : NoAttr K C "steps"
  n_layers : NoAttr K C "layers"
def Yz (b n : Nat) (sa la : Addr) : List (Str × V) := xu "layers" (.ref la) (xu "steps" (.ref sa) (xu "outset" (.int n) (xu "base" (.int b) [])))
theorem Ul (b n : Nat) (sa la : Addr) : (Yz b n sa la).lookup ("base" : Str) = some (.int b) := by
  unfold Yz
  rw [zR, if_neg (by decide +kernel), zR, if_neg (by decide +kernel), zR, if_neg (by decide +kernel), zR, if_pos rfl]
theorem Zq (b n : Nat) (sa la : Addr) : (Yz b n sa la).lookup ("outset" : Str) = some (.int n) := by
  unfold Yz
  rw [zR, if_neg (by decide +kernel), zR, if_neg (by decide +kernel), zR, if_pos rfl]
theorem Wu (b n : Nat) (sa la : Addr) : (Yz b n sa la).lookup ("steps" : Str) = some (.ref sa) := by
  unfold Yz
  rw [zR, if_neg (by decide +kernel), zR, if_pos rfl]
theorem qH (b n : Nat) (sa la : Addr) : (Yz b n sa la).lookup ("layers" : Str) = some (.ref la) := by
  unfold Yz
  rw [zR, if_pos rfl]
theorem wY (b n : Nat) (sa la : Addr) {m : Str} (h1 : ¬ m = "layers" := by decide +kernel) (h2 : ¬ m = "steps" := by decide +kernel) (h3 : ¬ m = "outset" := by decide +kernel) (h4 : ¬ m = "base" := by decide +kernel) : (Yz b n sa la).lookup m = none := by
  unfold Yz
  rw [zR, if_neg h1, zR, if_neg h2, zR, if_neg h3, zR, if_neg h4]
  rfl
def xm (ls ws : List (List Int)) (b t : Nat) : List Int := (ws.map fun x => ((cnt ls b t x : Nat) : Int)) ++ [((jy ls b t : Nat) : Int)]
def stepV (ls ws : List (List Int)) : Option (List Int) → Nat → V
  | some x, c => plc ls ws (x ++ [(c : Int)])
  | none, c => if c = 0 then .int (ws.length : Nat) else plc ls ws [(c : Int)]
theorem tZ (ls ws : List (List Int)) (c : Nat) : stepV ls ws none c = if c = 0 then .int (ws.length : Nat) else plc ls ws [(c : Int)] := rfl
theorem JL (ls : List (List Int)) (b t : Nat) (x : List Int) (c : Nat) : ZW ls b t (some x) c = if lacks ls (x ++ [(c : Int)]) = true then cnt ls b t (zG ls (x ++ [(c : Int)])) else 0 := rfl
theorem Yd (ls : List (List Int)) (b t : Nat) (c : Nat) : ZW ls b t none c = if c = 0 then jy ls b t else if lacks ls [(c : Int)] = true then cnt ls b t (zG ls [(c : Int)]) else 0 := rfl
theorem Wm {ls ws : List (List Int)} {b i : Nat} (hb : 1 ≤ b) (hi : i ≤ ws.length) : (WD ls ws b)[i]? = some ((List.range b).map (stepV ls ws ws[i]?)) := by
  unfold WD
  by_cases h : i < ws.length
  · rw [List.getElem?_append_left (by rw [List.length_map]; exact h), List.getElem?_map, List.getElem?_eq_getElem h]
    rfl
  · have e : i = ws.length := by omega
    subst e
    rw [List.getElem?_append_right (by rw [List.length_map]; exact Nat.le_refl _), List.length_map, Nat.sub_self, List.getElem?_eq_none (Nat.le_refl _)]
    show some _ = some _
    congr 1
    obtain ⟨k, rfl⟩ : ∃ k, b = k + 1 := ⟨b - 1, by omega⟩
    unfold X3
    rw [List.range_succ_eq_map, List.map_cons, List.map_cons, List.drop_succ_cons, List.drop_zero]
    rw [List.map_map, List.map_map]
    rfl
structure TailsAt (C : Addr) (H : Hp) (p la : Addr) (b : Nat) (ls ws : List (List Int)) (L : Nat) : Prop where
  ob : ∃ (dx sa : Addr) (srs : List (Addr × List V)), aw [la] H p = some (.ins C dx (Yz b ws.length sa la)) ∧ aw [la] H sa = some (.lst (srs.map fun z => V.ref z.1)) ∧ (∀ z ∈ srs, aw [la] H z.1 = some (.lst z.2)) ∧ srs.map (·.2) = WD ls ws b
  ly : ∃ lrs : List (Addr × List Int), H la = some (.lst (lrs.map fun z => V.ref z.1)) ∧ (∀ z ∈ lrs, aw [la] H z.1 = some (.lst (z.2.map V.int))) ∧ lrs.map (·.2) = (List.range L).map (xm ls ws b)
  l1 : 1 ≤ L
structure GoodT (b : Nat) (ls ws : List (List Int)) : Prop where
  g : yl b ls
  s : StandsL ls ws
  h13 : ws.length ≤ 13
theorem GoodT.ne {b : Nat} {ls ws : List (List Int)} (G : GoodT b ls ws) : ∀ l ∈ ls, l ≠ [] := fun l hl => (G.g.st l hl).ne
theorem TailsAt.same {C p la b : Nat} {H H' : Hp} {ls ws : List (List Int)} {L : Nat} (A : TailsAt C H p la b ls ws L) (m : Same H H') : TailsAt C H' p la b ls ws L := by
  obtain ⟨dx, sa, srs, h1, h2, h3, h4⟩ := A.ob
  obtain ⟨lrs, g1, g2, g3⟩ := A.ly
  have m' := m.aw [la]
  exact ⟨⟨dx, sa, srs, m' _ _ h1, m' _ _ h2, fun z hz => m' _ _ (h3 z hz), h4⟩, ⟨lrs, m _ _ g1, fun z hz => m' _ _ (g2 z hz), g3⟩, A.l1⟩
theorem Qs {ls ws : List (List Int)} {b t : Nat} (G : GoodT b ls ws) {i c : Nat} (hi : i ≤ ws.length) :
    (stepV ls ws ws[i]? c = .non ∧ ZW ls b t ws[i]? c = 0) ∨ ∃ j : Nat, stepV ls ws ws[i]? c = .int j ∧ j ≤ ws.length ∧ (xm ls ws b t)[j]? = some ((ZW ls b t ws[i]? c : Nat) : Int) := by
  have at_ : ∀ fs : List Int, lacks ls fs = true → ∃ j : Nat, plc ls ws fs = .int j ∧ j ≤ ws.length ∧ (xm ls ws b t)[j]? = some ((cnt ls b t (zG ls fs) : Nat) : Int) := by
    intro fs h
    have hm : zG ls fs ∈ ws := (G.s.mem _).mpr (jG G.ne h)
    have hlt := List.idxOf_lt_length_iff.mpr hm
    refine ⟨ws.idxOf (zG ls fs), by unfold plc; rw [if_pos h], Nat.le_of_lt hlt, ?_⟩
    unfold xm
    rw [List.getElem?_append_left (by rw [List.length_map]; exact hlt), List.getElem?_map, List.getElem?_eq_getElem hlt, List.getElem_idxOf hlt]
    rfl
  cases hw : ws[i]? with
  | some x =>
    show (plc ls ws (x ++ [(c : Int)]) = .non ∧ (if lacks ls (x ++ [(c : Int)]) = true then _ else 0) = 0) ∨ _
    by_cases h : lacks ls (x ++ [(c : Int)]) = true
    · right
      obtain ⟨j, h1, h2, h3⟩ := at_ _ h
      refine ⟨j, h1, h2, ?_⟩
      rw [h3, JL, if_pos h]
    · left
      exact ⟨by unfold plc; rw [if_neg h], by rw [if_neg h]⟩
  | none =>
    by_cases h0 : c = 0
    · right
      refine ⟨ws.length, by rw [tZ, if_pos h0], Nat.le_refl _, ?_⟩
      unfold xm
      rw [Yd, if_pos h0, List.getElem?_append_right (by rw [List.length_map]; exact Nat.le_refl _), List.length_map, Nat.sub_self]
      rfl
    · by_cases h : lacks ls [(c : Int)] = true
      · right
        obtain ⟨j, h1, h2, h3⟩ := at_ _ h
        refine ⟨j, by rw [tZ, if_neg h0]; exact h1, h2, ?_⟩
        rw [h3, Yd, if_neg h0, if_pos h]
      · left
        refine ⟨?_, ?_⟩
        · rw [tZ, if_neg h0]; unfold plc; rw [if_neg h]
        · rw [Yd, if_neg h0, if_neg h]
theorem Wr {fp : List Addr} {H : Hp} {b : Addr} {o : HO} (h : b ∈ fp) : aw fp (upd H b o) = aw fp H := by
  funext c
  by_cases hc : c ∈ fp
  · rw [Zr hc, Zr hc]
  · rw [zV hc, zV hc, zr (fun z : c = b => hc (by rw [z]; exact h))]
section
variable {P : Program} {w : World} {K : PySem.W.Frag} {mg : Str → Option Value} {base : Heap} {T0 C : Addr}
def jH (C : Addr) : Sp := fun vs H Q _ => ∃ (p la : Addr) (b : Nat) (ls ws : List (List Int)) (L t : Nat) (lay : Addr) (i s : Nat), vs = [.ref p, .ref lay, .int i, .int s] ∧ TailsAt C H p la b ls ws L ∧ GoodT b ls ws ∧ H lay = some (.lst ((xm ls ws b t).map V.int)) ∧ i ≤ ws.length ∧ s ≤ b ∧
  ∀ H', Same H H' → Q (.int (under ls b t ws[i]? s : Nat)) H'
theorem Xb : zB ["self", "layer", "place", "stop"] ["self", "layer", "place", "stop"] (zq yx) := ⟨rfl, rfl, rfl, by decide +kernel, rfl, by decide +kernel, by decide +kernel⟩
theorem Yn {f : Addr} {fd : FuncData} (D : Mt K C "Tails.many_by" "many_by" yx ["self", "layer", "place", "stop"] f fd) (zz : ClT K mg C) (T : Blt mg) (U : zaG mg) : FnOk P w K mg base CX0 1 f fd ["self", "layer", "place", "stop"] (jH C) := by
  refine D.fn.ok Xb (fun vs H Q E h => ?_) (fun cdv A outer s H vs Q E hr h => ?_)
  · obtain ⟨p, la, b, ls, ws, L, t, lay, i, s, rfl, _⟩ := h; rfl
  · obtain ⟨p, la, b, ls, ws, L, t, lay, i, s, rfl, TA, G, hlay, hi, hs, kk⟩ := h
    obtain ⟨dx, sa, srs, h1, h2, h3, h4⟩ := TA.ob
    have b16 := G.g.b16
    have b2 := G.g.b2
    refine ⟨_, (zu (zH (zA (J3 K rfl) (by rfl) U.n_sum boot_sum (zc (xV (show CScope (zq yx) _ "behind" ["self", "layer", "place", "stop"] ["layer"] [1] from ⟨rfl, by decide +kernel, by decide +kernel, rfl, by decide +kernel, rfl, by decide +kernel, by decide +kernel⟩) rfl (jX K (wk (Zt K) (zP (wL K) (Zf K (pv 0)) (pv 2) (fun _ _ => rfl)) uv (wX (pv 3)))) (fun _ _ _ _ => (Zy (zO Wb (pv 0) tR (zT _)))) (fun _ _ _ _ => (zP (wL K) (pv 1) (pv 0) (fun _ _ => rfl)))) zg)))), ?_⟩
    have hrow := Wm (ls := ls) (b := b) (by omega) hi
    rw [← h4, List.getElem?_map] at hrow
    obtain ⟨z, hz, ez⟩ := Option.map_eq_some_iff.mp hrow
    have hzm := List.mem_of_getElem? hz
    have hz3 := xf _ _ _ _ (h3 z hzm)
    refine ⟨_, rfl, p, C, dx, _, _, rfl, xf _ _ _ _ h1, zz.cl, zz.n_steps, Wu _ _ _ _, _, rfl, sa, _, _, V.ref z.1, rfl, rfl, SqL.of (xf _ _ _ _ h2), wH (by rw [List.getElem?_map, hz]; rfl), ?_⟩
    refine ⟨_, rfl, _, rfl, z.1, _, rfl, SqL.of hz3, fun q hq => ?_⟩
    have m1 := zj hq (o := .lst (jc z.2 none (some (s : Int))))
    have ecut : jc z.2 none (some (s : Int)) = (List.range s).map (stepV ls ws ws[i]?) := by
      rw [ZJ, ez, ← List.map_take, List.take_range, Nat.min_eq_left hs]
    rw [ecut] at m1 ⊢
    refine ⟨q, rfl, ⟨_, SqL.of zf⟩, yO (K := K) (a := q) (xs := (List.range s).map (stepV ls ws ws[i]?)) (fun k ys H4 => H4 = upd H q (.lst ((List.range s).map (stepV ls ws ws[i]?))) ∧ ∃ ms : List Int, ys = ms.map V.int ∧ ms.length ≤ k ∧ ms.sum = ((under ls b t ws[i]? k : Nat) : Int)) ⟨rfl, [], rfl, Nat.le_refl _, by simp [under]⟩ (fun k ys H4 _ ⟨e, _⟩ => by rw [e]; exact SqL.of zf) ?_ ?_⟩
    · rintro k x ys H4 hx ⟨rfl, ms, rfl, hml, hms⟩
      rw [List.getElem?_map] at hx
      obtain ⟨c, hc, e⟩ := Option.map_eq_some_iff.mp hx
      have hk : k < s := by have := (List.getElem?_eq_some_iff.mp hc).1; rwa [List.length_range] at this
      have ec : c = k := by
        rw [List.getElem?_range hk] at hc
        exact (Option.some.inj hc).symm
      subst ec
      subst e
      refine ⟨by rw [List.length_map]; exact Nat.lt_of_le_of_lt (show ms.length ≤ 16 by omega) (by decide), ?_⟩
      have hus := u6 ls b t ws[i]? c
      rcases Qs (t := t) G (c := c) hi with ⟨e1, e2⟩ | ⟨j, e1, e2, e3⟩
      · rw [e1]
        refine ⟨_, rfl, rfl, _, rfl, xT ⟨rfl, ms, rfl, by omega, ?_⟩⟩
        rw [hus, e2, hms]
        omega
      · rw [e1]
        refine ⟨_, rfl, rfl, _, rfl, wO ?_⟩
        refine ⟨_, rfl, _, rfl, lay, _, _, V.int ((ZW ls b t ws[i]? c : Nat) : Int), rfl, rfl, SqL.of (m1 _ _ hlay), wH (by rw [List.getElem?_map, e3]; rfl), rfl, ms ++ [((ZW ls b t ws[i]? c : Nat) : Int)], by simp, by rw [List.length_append, List.length_singleton]; omega, ?_⟩
        rw [List.sum_append, hms, hus]
        simp
    · rintro ys H4 ⟨rfl, ms, rfl, hml, hms⟩ Dd hD
      refine ⟨Dd, ms, rfl, SqL.of zf, ?_⟩
      rw [hms, List.length_map, List.length_range]
      exact kk _ (m1.trans (zj hD))
def TQ (C : Addr) (H : Hp) (p la : Addr) (b : Nat) (ls ws : List (List Int)) (L : Nat) (R : Nat → Hp → Prop) : Prop := ∀ (L' : Nat) (H' : Hp), L ≤ L' → TailsAt C H' p la b ls ws L' → Same (aw [la] H) (aw [la] H') → R L' H'
def YF (C : Addr) : Sp := fun vs H Q _ => ∃ (p la : Addr) (b : Nat) (ls ws : List (List Int)) (L t : Nat), vs = [.ref p, .int t] ∧ TailsAt C H p la b ls ws L ∧ GoodT b ls ws ∧ L ≤ 1000 ∧ t < 1000 ∧
  ∀ lay : Addr, TQ C H p la b ls ws L fun L' H' => L' ≤ max L (t + 1) → aw [la] H' lay = some (.lst ((xm ls ws b t).map V.int)) → Q (.ref lay) H'
theorem Zj : zB ["self", "left", "shorter"] ["self", "left"] (zq xQ) := ⟨rfl, rfl, rfl, by decide +kernel, rfl, by decide +kernel, by decide +kernel⟩
theorem QZ {ls ws : List (List Int)} {b t : Nat} : ((List.range (ws.length + 1)).map fun i => ((under ls b t ws[i]? b : Nat) : Int)) = xm ls ws b (t + 1) := by
  unfold xm
  apply List.ext_getElem?
  intro i
  rw [List.getElem?_map]
  by_cases h : i < ws.length
  · rw [List.getElem?_range (by omega), List.getElem?_append_left (by rw [List.length_map]; exact h), List.getElem?_map, Option.map_some, List.getElem?_eq_getElem h]
    rfl
  · by_cases h2 : i = ws.length
    · subst h2
      rw [List.getElem?_range (by omega), List.getElem?_append_right (by rw [List.length_map]; exact Nat.le_refl _), List.length_map, Nat.sub_self, Option.map_some, List.getElem?_eq_none (Nat.le_refl _)]
      rfl
    · rw [List.getElem?_eq_none (by rw [List.length_range]; omega), List.getElem?_eq_none (by rw [List.length_append, List.length_map, List.length_singleton]; omega)]
      rfl
theorem WK {f f1 : Addr} {fd fd1 : FuncData} (D : Mt K C "Tails.layer" "layer" xQ ["self", "left"] f fd) (zN : Mt K C "Tails.many_by" "many_by" yx ["self", "layer", "place", "stop"] f1 fd1) (zz : ClT K mg C) (T : Blt mg) (U : zaG mg) : FnOk P w K mg base CX0 2 f fd ["self", "left"] (YF C) := by
  have vK : FnOk P w K mg base CX0 1 f1 fd1 ["self", "layer", "place", "stop"] (jH C) := Yn zN zz T U
  refine D.fn.ok Zj (fun vs H Q E h => ?_) (fun cdv A outer s H vs Q E hr h => ?_)
  · obtain ⟨p, la, b, ls, ws, L, t, rfl, _⟩ := h; rfl
  · obtain ⟨p, la, b, ls, ws, L, t, rfl, TA, G, hL, ht, kk⟩ := h
    have h13 := G.h13
    refine ⟨_, (zp (YT PassesOwn.never (zO Yw (zA (uL K) (by rfl) T.n_len PySem.boot_len (zc (Zf K (pv 0)) zg)) (pv 1) (zT _))
        (zp (zF (i := 2) Zj.nd rfl (Or.inr rfl) (zP (wL K) (Zf K (pv 0)) (Xp Zn zm) (fun _ _ => rfl)))
        (zu (vO (XH PySem.F.plainAttrs_list PySem.F.slot_list_append PySem.F.type_list_append uX (Zf K (pv 0)) (zc (xV (show CScope (zq xQ) _ "place" ["self", "left", "shorter"] ["shorter", "self"] [2, 0] from ⟨rfl, by decide +kernel, by decide +kernel, rfl, by decide +kernel, rfl, by decide +kernel, by decide +kernel⟩) rfl (yp rfl T.n_range (zc (zK yz (Zf K (pv 0)) zm) zg)) (fun _ _ _ _ => yD) (fun _ _ _ _ => (jT zN zz.cl vK (hr.mono (by decide)) (pv 2) (zc (pv 1) (zc (pv 0) (zc (Zf K (pv 2)) zg)))))) zg))))))
      (zu (zH (zP (wL K) (Zf K (pv 0)) (pv 1) (fun _ _ => rfl))))), ?_⟩
    refine W3 (fun σ H2 => ∃ (v : Option V) (L' : Nat), σ = [some (.ref p), some (.int t), v] ∧ L ≤ L' ∧ L' ≤ max L (t + 1) ∧ TailsAt C H2 p la b ls ws L' ∧ Same (aw [la] H) (aw [la] H2))
      (fun σ H2 => match H2 la with | some (.lst xs) => t + 1 - xs.length | _ => 0) ⟨none, L, rfl, Nat.le_refl _, Nat.le_max_left _ _, TA, Same.refl _⟩ ?_ ?_
    · rintro σ H2 ⟨v, L', rfl, hLL, hLm, TA2, m2⟩
      obtain ⟨dx, sa, srs, h1, h2, h3, h4⟩ := TA2.ob
      obtain ⟨lrs, g1, g2, g3⟩ := TA2.ly
      have hl : lrs.length = L' := by have := congrArg List.length g3; rwa [List.length_map, List.length_map, List.length_range] at this
      have hp := xf _ _ _ _ h1
      have l1 := TA2.l1
      refine ⟨_, rfl, p, C, dx, _, _, rfl, hp, zz.cl, zz.n_layers, qH _ _ _ _, la, _, rfl, .inl (SqL.of g1), _, rfl, _, _, rfl, rfl, _, rfl, ?_⟩
      rw [List.length_map, hl]
      refine X6 (fun hc => ?_) (fun hc => ?_)
      · have hc' : L' ≤ t := by have := of_decide_eq_true hc; omega
        have hlast : lrs[L' - 1]? = some lrs[L' - 1] := List.getElem?_eq_getElem (by omega)
        generalize hz : lrs[L' - 1] = z at hlast
        have hzm : z ∈ lrs := List.mem_of_getElem? hlast
        have hz2 : z.2 = xm ls ws b (L' - 1) := by
          have e := congrArg (fun l => l[L' - 1]?) g3
          simp only [List.getElem?_map, hlast, List.getElem?_range (show L' - 1 < L' by omega), Option.map_some] at e
          exact Option.some.inj e
        have elr : lrs = lrs.take (L' - 1) ++ [z] := by
          have e := (List.take_append_drop (L' - 1) lrs).symm
          rw [List.drop_eq_getElem_cons (show L' - 1 < lrs.length by omega), hz, List.drop_of_length_le (by omega)] at e
          exact e
        have eat : atI (lrs.map fun z => V.ref z.1) (-1) = some (V.ref z.1) := by
          rw [elr, List.map_append]
          exact zbJ _ _
        refine ⟨_, rfl, p, C, dx, _, _, rfl, hp, zz.cl, zz.n_layers, qH _ _ _ _, _, rfl, la, _, _, V.ref z.1, rfl, rfl, SqL.of g1, eat, ?_⟩
        refine ⟨_, rfl, p, C, dx, _, _, rfl, hp, zz.cl, zz.n_layers, qH _ _ _ _, .inl ⟨rfl, _, SqL.of g1⟩, ?_⟩
        refine ⟨_, rfl, p, C, dx, _, _, rfl, hp, zz.cl, zz.n_outset, Zq _ _ _ _, _, _, rfl, rfl, ((ws.length : Int) + 1), rfl, by omega, by omega, wC (lo := 0) (n := ((ws.length : Int) + 1).toNat) (fun i ys H4 => ys = (((List.range i).map fun i => ((under ls b (L' - 1) ws[i]? b : Nat) : Int))).map V.int ∧ Same H2 H4) ⟨rfl, Same.refl _⟩ ?_ ?_⟩
        · rintro i ys H4 hi ⟨rfl, m4⟩
          refine ⟨by rw [List.length_map, List.length_map, List.length_range]; exact Nat.lt_of_lt_of_le (show i < 20 by omega) (by decide), ?_⟩
          unfold jf
          dsimp only
          rw [if_pos rfl]
          have TA4 := TA2.same m4
          have hp4 := m4 _ _ hp
          refine ⟨_, rfl, p, dx, _, rfl, hp4, wY _ _ _ _, _, rfl, _, rfl, _, rfl, p, C, dx, _, _, rfl, hp4, zz.cl, zz.n_base, Ul _ _ _ _, ?_⟩
          refine ⟨p, la, b, ls, ws, L', L' - 1, z.1, i, b, by rw [Int.zero_add]; rfl, TA4, G, ?_, by omega, Nat.le_refl _, fun H5 m5 => ⟨?_, m4.trans m5⟩⟩
          · rw [← hz2]; exact m4 _ _ (xf _ _ _ _ (g2 z hzm))
          · rw [List.range_succ, List.map_append, List.map_append]
            rfl
        rintro ys H4 ⟨rfl, m4⟩ q hq
        rw [show ((ws.length : Int) + 1).toNat = ws.length + 1 by omega, QZ, show L' - 1 + 1 = L' by omega]
        have m5 := zj hq (o := .lst ((xm ls ws b L').map V.int))
        have gla := m5 _ _ (m4 _ _ g1)
        have nq : q ≠ la := fun e => by rw [e, m4 _ _ g1] at hq; cases hq
        refine ⟨la, _, _, rfl, rfl, gla, by rw [List.length_map, hl]; exact Nat.lt_of_le_of_lt (show L' ≤ 1000 by omega) (by decide), ?_⟩
        have m25 : Same (aw [la] H2) (aw [la] (upd (upd H4 q (.lst ((xm ls ws b L').map V.int))) la (.lst (lrs.map (fun z => V.ref z.1) ++ [.ref q])))) := by
          rw [Wr (by simp)]
          exact (m4.trans m5).aw [la]
        refine ⟨⟨_, L' + 1, rfl, by omega, by omega, ⟨⟨dx, sa, srs, m25 _ _ h1, m25 _ _ h2, fun y hy => m25 _ _ (h3 y hy), h4⟩, ⟨lrs ++ [(q, xm ls ws b L')], by rw [zf]; simp, fun y hy => ?_, ?_⟩, by omega⟩, m2.trans m25⟩, ?_⟩
        · rcases List.mem_append.mp hy with hy | hy
          · exact m25 _ _ (g2 y hy)
          · have e : y = (q, xm ls ws b L') := by simpa using hy
            subst e
            rw [Wr (by simp), zV (by simp [nq]), zf]
        · rw [List.map_append, g3, List.range_succ, List.map_append]
          rfl
        · show (match (upd (upd H4 q (.lst ((xm ls ws b L').map V.int))) la (.lst (lrs.map (fun z => V.ref z.1) ++ [.ref q]))) la with | some (.lst xs) => t + 1 - xs.length | _ => 0) < (match H2 la with | some (.lst xs) => t + 1 - xs.length | _ => 0)
          rw [zf, g1]
          show t + 1 - (lrs.map (fun z => V.ref z.1) ++ [V.ref q]).length < t + 1 - (lrs.map fun z => V.ref z.1).length
          rw [List.length_append, List.length_map, List.length_singleton]
          omega
      · have hc' : t < L' := by
          by_cases z : t < L'
          · exact z
          · exact absurd (decide_eq_true (by omega : (L' : Int) ≤ t)) hc
        have hlast : lrs[t]? = some lrs[t] := List.getElem?_eq_getElem (by omega)
        generalize hz : lrs[t] = z at hlast
        have hzm : z ∈ lrs := List.mem_of_getElem? hlast
        have hz2 : z.2 = xm ls ws b t := by
          have e := congrArg (fun l => l[t]?) g3
          simp only [List.getElem?_map, hlast, List.getElem?_range hc', Option.map_some] at e
          exact Option.some.inj e
        refine ⟨_, rfl, p, C, dx, _, _, rfl, hp, zz.cl, zz.n_layers, qH _ _ _ _, _, rfl, la, _, _, V.ref z.1, rfl, rfl, SqL.of g1, wH (by rw [List.getElem?_map, hlast]; rfl), ?_⟩
        exact kk z.1 L' H2 hLL TA2 m2 hLm (by rw [← hz2]; exact g2 z hzm)
    · intro σ H2 Q Q' hq
      rintro ⟨v0, e0, a, C', dx, fs, v, h1, h2, h3, h4, h5, p', ys, h6, h7, v1, e1, i, j, e3, e4, k, e5, q⟩
      exact ⟨v0, e0, a, C', dx, fs, v, h1, h2, h3, h4, h5, p', ys, h6, h7, v1, e1, i, j, e3, e4, k, e5, hq _ _ q⟩
def uw (C : Addr) : Sp := fun vs H Q _ => ∃ (p la : Addr) (b : Nat) (ls ws : List (List Int)) (L i s t : Nat), vs = [.ref p, .int i, .int s, .int t] ∧ TailsAt C H p la b ls ws L ∧ GoodT b ls ws ∧ L ≤ 1000 ∧ t < 1000 ∧ i ≤ ws.length ∧ s ≤ b ∧ TQ C H p la b ls ws L fun L' H' => L' ≤ max L (t + 1) → Q (.int (under ls b t ws[i]? s : Nat)) H'
theorem ZL : zB ["self", "place", "stop", "left"] ["self", "place", "stop", "left"] (zq yJ) := ⟨rfl, rfl, rfl, by decide +kernel, rfl, by decide +kernel, by decide +kernel⟩
theorem Vx {f f1 f2 : Addr} {fd fd1 fd2 : FuncData} (D : Mt K C "Tails.many_under" "many_under" yJ ["self", "place", "stop", "left"] f fd) (yC : Mt K C "Tails.layer" "layer" xQ ["self", "left"] f1 fd1) (zN : Mt K C "Tails.many_by" "many_by" yx ["self", "layer", "place", "stop"] f2 fd2) (zz : ClT K mg C) (T : Blt mg) (U : zaG mg) : FnOk P w K mg base CX0 3 f fd ["self", "place", "stop", "left"] (uw C) := by
  have vK : FnOk P w K mg base CX0 1 f2 fd2 ["self", "layer", "place", "stop"] (jH C) := Yn zN zz T U
  have uO : FnOk P w K mg base CX0 2 f1 fd1 ["self", "left"] (YF C) := WK yC zN zz T U
  refine D.fn.ok ZL (fun vs H Q E h => ?_) (fun cdv A outer s H vs Q E hr h => ?_)
  · obtain ⟨p, la, b, ls, ws, L, i, s, t, rfl, _⟩ := h; rfl
  · obtain ⟨p, la, b, ls, ws, L, i, s, t, rfl, TA, G, hL, ht, hi, hs, kk⟩ := h
    obtain ⟨dx, sa, srs, h1, h2, h3, h4⟩ := TA.ob
    have hp := xf _ _ _ _ h1
    refine ⟨_, (zu (zH (jT zN zz.cl vK (hr.mono (by decide)) (pv 0) (zc (jT yC zz.cl uO (hr.mono (by decide)) (pv 0) (zc (pv 3) zg)) (zc (pv 1) (zc (pv 2) zg)))))), ?_⟩
    refine ⟨_, rfl, p, dx, _, rfl, hp, wY _ _ _ _, ?_⟩
    refine ⟨_, rfl, p, dx, _, rfl, hp, wY _ _ _ _, _, rfl, p, la, b, ls, ws, L, t, rfl, TA, G, hL, ht, fun lay L' H' hLL TA' m' hm hlay => ?_⟩
    exact ⟨_, rfl, _, rfl, p, la, b, ls, ws, L', t, lay, i, s, rfl, TA', G, xf _ _ _ _ hlay, hi, hs, fun H2 m2 => kk L' H2 hLL (TA'.same m2) (m'.trans (m2.aw [la])) hm⟩
def wg (C : Addr) : Sp := fun vs H Q _ => ∃ (p la : Addr) (b : Nat) (ls ws : List (List Int)) (L t : Nat), vs = [.ref p, .int t] ∧ TailsAt C H p la b ls ws L ∧ GoodT b ls ws ∧ L ≤ 1000 ∧ t < 1000 ∧ TQ C H p la b ls ws L fun L' H' => L' ≤ max L (t + 1) → Q (.int (jy ls b t : Nat)) H'
theorem Zu : zB ["self", "size"] ["self", "size"] (zq yo) := ⟨rfl, rfl, rfl, by decide +kernel, rfl, by decide +kernel, by decide +kernel⟩
theorem WW {f f1 f2 : Addr} {fd fd1 fd2 : FuncData} (D : Mt K C "Tails.many_within" "many_within" yo ["self", "size"] f fd) (yC : Mt K C "Tails.layer" "layer" xQ ["self", "left"] f1 fd1) (zN : Mt K C "Tails.many_by" "many_by" yx ["self", "layer", "place", "stop"] f2 fd2) (zz : ClT K mg C) (T : Blt mg) (U : zaG mg) : FnOk P w K mg base CX0 3 f fd ["self", "size"] (wg C) := by
  have uO : FnOk P w K mg base CX0 2 f1 fd1 ["self", "left"] (YF C) := WK yC zN zz T U
  refine D.fn.ok Zu (fun vs H Q E h => ?_) (fun cdv A outer s H vs Q E hr h => ?_)
  · obtain ⟨p, la, b, ls, ws, L, t, rfl, _⟩ := h; rfl
  · obtain ⟨p, la, b, ls, ws, L, t, rfl, TA, G, hL, ht, kk⟩ := h
    obtain ⟨dx, sa, srs, h1, h2, h3, h4⟩ := TA.ob
    have hp := xf _ _ _ _ h1
    refine ⟨_, (zu (zH (zP (wL K) (jT yC zz.cl uO (hr.mono (by decide)) (pv 0) (zc (pv 1) zg)) (Zf K (pv 0)) (fun _ _ => rfl)))), ?_⟩
    refine ⟨_, rfl, p, dx, _, rfl, hp, wY _ _ _ _, _, rfl, p, la, b, ls, ws, L, t, rfl, TA, G, hL, ht, fun lay L' H' hLL TA' m' hm hlay => ?_⟩
    obtain ⟨dx', sa', srs', h1', h2', h3', h4'⟩ := TA'.ob
    refine ⟨_, rfl, p, C, dx', _, _, rfl, xf _ _ _ _ h1', zz.cl, zz.n_outset, Zq _ _ _ _, lay, _, _, V.int ((jy ls b t : Nat) : Int), rfl, rfl, SqL.of (xf _ _ _ _ hlay), wH ?_, kk L' H' hLL TA' m' hm⟩
    unfold xm
    rw [List.map_append, List.getElem?_append_right (by rw [List.length_map, List.length_map]; exact Nat.le_refl _), List.length_map, List.length_map, Nat.sub_self]
    rfl
end
theorem zaN {ls ws : List (List Int)} {b m : Nat} (G : GoodT b ls ws) {i c : Nat} (hi : i ≤ ws.length) (R : Rep ls b m ws[i]?) (hc : c < b) :
    (∃ j : Nat, stepV ls ws ws[i]? c = .int j ∧ j ≤ ws.length ∧ Rep ls b (m * b + c) ws[j]?) ∨ (stepV ls ws ws[i]? c = .non ∧ 1 ≤ m * b + c ∧ gd ls b (m * b + c) = false) := by
  have b2 := G.g.b2
  have ep : ∀ h : ¬ (ws[i]? = none ∧ c = 0), stepV ls ws ws[i]? c = plc ls ws (ws[i]?.getD [] ++ [(c : Int)]) := by
    intro h
    cases hw : ws[i]? with
    | some x => rfl
    | none =>
      rw [tZ, if_neg (fun z => h ⟨hw, z⟩)]
      rfl
  rcases R.step G.ne b2 hc with ⟨h1, h2, h3⟩ | ⟨h0, ⟨h1, h2⟩ | ⟨h1, h2, h3⟩⟩
  · left
    refine ⟨ws.length, by rw [h1, tZ, if_pos h2], Nat.le_refl _, by rw [List.getElem?_eq_none (Nat.le_refl _)]; exact h3⟩
  · left
    have hm : zG ls (ws[i]?.getD [] ++ [(c : Int)]) ∈ ws := (G.s.mem _).mpr (jG G.ne h1)
    have hlt := List.idxOf_lt_length_iff.mpr hm
    refine ⟨ws.idxOf (zG ls (ws[i]?.getD [] ++ [(c : Int)])), by rw [ep h0]; unfold plc; rw [if_pos h1], Nat.le_of_lt hlt, ?_⟩
    rw [List.getElem?_eq_getElem hlt, List.getElem_idxOf hlt]
    exact h2
  · right
    exact ⟨by rw [ep h0]; unfold plc; rw [if_neg (by rw [h1]; exact Bool.false_ne_true)], h2, h3⟩
section
variable {P : Program} {w : World} {K : PySem.W.Frag} {mg : Str → Option Value} {base : Heap} {T0 C : Addr}
theorem zbP {H : Hp} {p la b : Nat} {ls ws : List (List Int)} {L i c : Nat} (TA : TailsAt C H p la b ls ws L) (G : GoodT b ls ws) (hi : i ≤ ws.length) (hc : c < b) :
    ∃ (dx sa : Addr) (srs : List (Addr × List V)) (z : Addr × List V), H p = some (.ins C dx (Yz b ws.length sa la)) ∧ H sa = some (.lst (srs.map fun z => V.ref z.1)) ∧ atI (srs.map fun z => V.ref z.1) (i : Int) = some (V.ref z.1) ∧ H z.1 = some (.lst z.2) ∧ atI z.2 (c : Int) = some (stepV ls ws ws[i]? c) := by
  obtain ⟨dx, sa, srs, h1, h2, h3, h4⟩ := TA.ob
  have hrow := Wm (ls := ls) (b := b) (by have := G.g.b2; omega) hi
  rw [← h4, List.getElem?_map] at hrow
  obtain ⟨z, hz, ez⟩ := Option.map_eq_some_iff.mp hrow
  refine ⟨dx, sa, srs, z, xf _ _ _ _ h1, xf _ _ _ _ h2, wH (by rw [List.getElem?_map, hz]; rfl), xf _ _ _ _ (h3 z (List.mem_of_getElem? hz)), wH ?_⟩
  rw [ez, List.getElem?_map, List.getElem?_range hc]
  rfl
theorem TailsAt.obj {H : Hp} {p la b : Nat} {ls ws : List (List Int)} {L : Nat} (TA : TailsAt C H p la b ls ws L) : ∃ dx sa, H p = some (.ins C dx (Yz b ws.length sa la)) := by
  obtain ⟨dx, sa, srs, h1, _⟩ := TA.ob
  exact ⟨dx, sa, xf _ _ _ _ h1⟩
def jL (C : Addr) : Sp := fun vs H Q _ => ∃ (p la : Addr) (b : Nat) (ls ws : List (List Int)) (L i k t : Nat), vs = [.ref p, .int i, .int k, .int t] ∧ TailsAt C H p la b ls ws L ∧ GoodT b ls ws ∧ L ≤ 1000 ∧ t < 1000 ∧ i ≤ ws.length ∧ k < under ls b t ws[i]? b ∧
  ∀ c : Nat, c < b → under ls b t ws[i]? c ≤ k → k < under ls b t ws[i]? (c + 1) → TQ C H p la b ls ws L fun L' H' => L' ≤ 1000 → Q (.int c) H'
theorem vd : zB ["self", "place", "k", "left", "figure"] ["self", "place", "k", "left"] (zq xW) := ⟨rfl, rfl, rfl, by decide +kernel, rfl, by decide +kernel, by decide +kernel⟩
theorem Uv {f f1 : Addr} {fd fd1 : FuncData} (D : Mt K C "Tails.figure_at" "figure_at" xW ["self", "place", "k", "left"] f fd) (ym : Mt K C "Tails.many_under" "many_under" yJ ["self", "place", "stop", "left"] f1 fd1) (yu : FnOk P w K mg base CX0 3 f1 fd1 ["self", "place", "stop", "left"] (uw C)) (zz : ClT K mg C) (T : Blt mg) : FnOk P w K mg base CX0 4 f fd ["self", "place", "k", "left"] (jL C) := by
  refine D.fn.ok vd (fun vs H Q E h => ?_) (fun cdv A outer s H vs Q E hr h => ?_)
  · obtain ⟨p, la, b, ls, ws, L, i, k, t, rfl, _⟩ := h; rfl
  · obtain ⟨p, la, b, ls, ws, L, i, k, t, rfl, TA, G, hL, ht, hi, hk, kk⟩ := h
    refine ⟨_, (zp (zF (i := 4) vd.nd rfl (Or.inl rfl) zm)
      (zp (YT PassesOwn.never (zO Yw (jT ym zz.cl yu (hr.mono (by decide)) (pv 0) (zc (pv 1) (zc (zK yz (pv 4) zm) (zc (pv 3) zg)))) (pv 2) (zT _))
        (zu (zbr (i := 4) vd.nd rfl (Or.inl rfl) zm zdj)))
      (zu (zH (pv 4))))), ?_⟩
    refine W3 (fun σ H2 => ∃ (c L' : Nat), σ = [some (.ref p), some (.int i), some (.int k), some (.int t), some (.int c)] ∧ c < b ∧ under ls b t ws[i]? c ≤ k ∧ L ≤ L' ∧ L' ≤ 1000 ∧ TailsAt C H2 p la b ls ws L' ∧ Same (aw [la] H) (aw [la] H2))
      (fun σ _ => match σ with | [_, _, _, _, some (.int c)] => b - c.toNat | _ => 0) ⟨0, L, rfl, by have := G.g.b2; omega, by rw [Yi]; exact Nat.zero_le _, Nat.le_refl _, hL, TA, Same.refl _⟩ ?_ ?_
    · rintro σ H2 ⟨c, L', rfl, hc, hu, hLL, hL', TA2, m2⟩
      obtain ⟨dx2, sa2, hp2⟩ := TA2.obj
      refine ⟨_, rfl, p, dx2, _, rfl, hp2, wY _ _ _ _, _, rfl, _, rfl, _, _, rfl, rfl, _, rfl, p, la, b, ls, ws, L', i, c + 1, t, rfl, TA2, G, hL', ht, hi, by omega, fun L3 H3 hL3 TA3 m3 hmx => ?_⟩
      refine ⟨_, rfl, _, _, rfl, rfl, _, rfl, ?_⟩
      refine X6 (fun h1 => ?_) (fun h1 => ?_)
      · have h1' : under ls b t ws[i]? (c + 1) ≤ k := by have := of_decide_eq_true h1; omega
        have hcb : c + 1 < b := by
          by_cases z : c + 1 < b
          · exact z
          · rw [show c + 1 = b by omega] at h1'; omega
        refine ⟨_, rfl, _, _, rfl, rfl, ⟨c + 1, L3, rfl, hcb, h1', by omega, by omega, TA3, m2.trans m3⟩, ?_⟩
        show b - ((c : Int) + 1).toNat < b - (c : Int).toNat
        omega
      · have h1' : k < under ls b t ws[i]? (c + 1) := by
          by_cases z : k < under ls b t ws[i]? (c + 1)
          · exact z
          · exact absurd (decide_eq_true (by omega : ((under ls b t ws[i]? (c + 1) : Nat) : Int) ≤ k)) h1
        exact ⟨_, rfl, kk c hc hu h1' L3 H3 (by omega) TA3 (m2.trans m3) (by omega)⟩
    · intro σ H2 Q Q' hq
      rintro ⟨v0, e0, a, dx, fs, h1, h2, h3, v1, e1, v4, e4, i4, j4, e5, e6, v3, e3, p', la', b', ls', ws', L', i', s', t', g1, g2, g3, g4, g5, g6, g7, g8⟩
      exact ⟨v0, e0, a, dx, fs, h1, h2, h3, v1, e1, v4, e4, i4, j4, e5, e6, v3, e3, p', la', b', ls', ws', L', i', s', t', g1, g2, g3, g4, g5, g6, g7, fun L2 H3 a1 a2 a3 a4 => by
        obtain ⟨v2, e2, i2, j2, e7, e8, k2, e9, q⟩ := g8 L2 H3 a1 a2 a3 a4
        exact ⟨v2, e2, i2, j2, e7, e8, k2, e9, hq _ _ q⟩⟩
def uT (C : Addr) : Sp := fun vs H Q _ => ∃ (p la : Addr) (b : Nat) (ls ws : List (List Int)) (L sz k : Nat), vs = [.ref p, .int sz, .int k] ∧ TailsAt C H p la b ls ws L ∧ GoodT b ls ws ∧ L ≤ 1000 ∧ sz < 1000 ∧ k < many (gd ls b) (b ^ sz) ∧
  ∀ n : Nat, gd ls b n = true → many (gd ls b) n = k → n < b ^ sz → TQ C H p la b ls ws L fun L' H' => L' ≤ 1000 → Q (.int n) H'
theorem zU : zB ["self", "size", "k", "place", "n", "left", "figure"] ["self", "size", "k"] (zq yP) := ⟨rfl, rfl, rfl, by decide +kernel, rfl, by decide +kernel, by decide +kernel⟩
theorem Uw {f f1 f2 : Addr} {fd fd1 fd2 : FuncData} (D : Mt K C "Tails.number_at" "number_at" yP ["self", "size", "k"] f fd) (ym : Mt K C "Tails.many_under" "many_under" yJ ["self", "place", "stop", "left"] f1 fd1) (yu : FnOk P w K mg base CX0 3 f1 fd1 ["self", "place", "stop", "left"] (uw C))
    (wG : Mt K C "Tails.figure_at" "figure_at" xW ["self", "place", "k", "left"] f2 fd2) (uo : FnOk P w K mg base CX0 4 f2 fd2 ["self", "place", "k", "left"] (jL C)) (zz : ClT K mg C) (T : Blt mg) : FnOk P w K mg base CX0 5 f fd ["self", "size", "k"] (uT C) := by
  refine D.fn.ok zU (fun vs H Q E h => ?_) (fun cdv A outer s H vs Q E hr h => ?_)
  · obtain ⟨p, la, b, ls, ws, L, sz, k, rfl, _⟩ := h; rfl
  · obtain ⟨p, la, b, ls, ws, L, sz, k, rfl, TA, G, hL, hsz, hk, kk⟩ := h
    have b2 := G.g.b2
    have b16 := G.g.b16
    obtain ⟨dx0, sa0, hp0⟩ := TA.obj
    refine ⟨_, (zp (zF (i := 3) zU.nd rfl (Or.inl rfl) (Zf K (pv 0)))
      (zp (zF (i := 4) zU.nd rfl (Or.inl rfl) zm)
      (zp (vY PassesOwn.never rfl (VB rfl T.n_range (zc (zK Zk (pv 1) zm) (zc (Xp Zn zm) (zc (Xp Zn zm) zg)))) (zY (i := 5) zU.nd rfl (Or.inl rfl))
        (zp (zF (i := 6) zU.nd rfl (Or.inl rfl) (jT wG zz.cl uo (hr.mono (by decide)) (pv 0) (zc (pv 3) (zc (pv 2) (zc (pv 5) zg)))))
        (zp (zbr (i := 2) zU.nd rfl (Or.inl rfl) (jT ym zz.cl yu (hr.mono (by decide)) (pv 0) (zc (pv 3) (zc (pv 6) (zc (pv 5) zg)))) zdk)
        (zp (zF (i := 3) zU.nd rfl (Or.inl rfl) (zP (wL K) (zP (wL K) (Zf K (pv 0)) (pv 3) (fun _ _ => rfl)) (pv 6) (fun _ _ => rfl)))
        (zu (zF (i := 4) zU.nd rfl (Or.inl rfl) (zK yz (zK jZ (pv 4) (Zf K (pv 0))) (pv 6))))))))
      (zu (zH (pv 4)))))), ?_⟩
    refine ⟨_, rfl, p, C, dx0, _, _, rfl, hp0, zz.cl, zz.n_outset, Zq _ _ _ _, ?_⟩
    refine ⟨_, rfl, _, _, rfl, rfl, _, rfl, _, rfl, ((sz : Int) - 1), rfl, by omega, by omega, ?_⟩
    rw [show ((sz : Int) - 1 + 1).toNat = sz by omega]
    refine WT (lo := (sz : Int) - 1) (c := -1) (n := sz) (fun j σ H2 => ∃ (v5 v6 : Option V) (i m L' : Nat), σ = [some (.ref p), some (.int sz), some (.int ((k : Int) - (many (gd ls b) (m * b ^ (sz - j)) : Nat))), some (.int i), some (.int m), v5, v6] ∧ i ≤ ws.length ∧ Rep ls b m ws[i]? ∧ many (gd ls b) (m * b ^ (sz - j)) ≤ k ∧ k < many (gd ls b) ((m + 1) * b ^ (sz - j)) ∧ L ≤ L' ∧ L' ≤ 1000 ∧ TailsAt C H2 p la b ls ws L' ∧ Same (aw [la] H) (aw [la] H2)) ⟨none, none, ws.length, 0, L, ?_, Nat.le_refl _, ?_, ?_, ?_, Nat.le_refl _, hL, TA, Same.refl _⟩ ?_ ?_
    · rw [Nat.zero_mul]
      show [_, _, some (V.int k), _, _, _, _] = [_, _, some (V.int ((k : Int) - ((0 : Nat) : Int))), _, _, _, _]
      rw [Int.natCast_zero, Int.sub_zero]
    · rw [List.getElem?_eq_none (Nat.le_refl _)]; exact .inl ⟨rfl, rfl⟩
    · rw [Nat.zero_mul]; exact Nat.zero_le _
    · rw [Nat.sub_zero, Nat.zero_add, Nat.one_mul]; exact hk
    · rintro j σ H2 hj ⟨v5, v6, i, m, L', rfl, hi, R, hlo, hhi, hLL, hL', TA2, m2⟩
      obtain ⟨t, ht⟩ : ∃ t, sz - j = t + 1 := ⟨sz - j - 1, by omega⟩
      rw [ht] at hlo hhi ⊢
      have elft : ((sz : Int) - 1 + (j : Int) * (-1)) = (t : Int) := by omega
      rw [elft]
      have eb := tD G.ne b2 R t (s := b) (Nat.le_refl _)
      have eb2 : (m * b + b) * b ^ t = (m + 1) * b ^ (t + 1) := by rw [Nat.pow_succ', ← Nat.mul_assoc, Nat.succ_mul]
      rw [eb2] at eb
      obtain ⟨k', hk'⟩ : ∃ k', k = many (gd ls b) (m * b ^ (t + 1)) + k' := ⟨k - many (gd ls b) (m * b ^ (t + 1)), by omega⟩
      have ek : ((k : Int) - (many (gd ls b) (m * b ^ (t + 1)) : Nat)) = (k' : Int) := by omega
      rw [ek]
      obtain ⟨dx2, sa2, hp2⟩ := TA2.obj
      refine ⟨_, rfl, p, dx2, _, rfl, hp2, wY _ _ _ _, _, rfl, _, rfl, _, rfl, p, la, b, ls, ws, L', i, k', t, rfl, TA2, G, hL', by omega, hi, by omega, fun c hc hu1 hu2 L3 H3 hL3 TA3 m3 hL3' => ?_⟩
      obtain ⟨dx3, sa3, hp3⟩ := TA3.obj
      refine ⟨_, rfl, _, rfl, p, dx3, _, rfl, hp3, wY _ _ _ _, _, rfl, _, rfl, _, rfl, p, la, b, ls, ws, L3, i, c, t, rfl, TA3, G, hL3', by omega, hi, by omega, fun L4 H4 hL4 TA4 m4 hmx => ⟨_, _, rfl, rfl, ?_⟩⟩
      have m24 := m2.trans (m3.trans m4)
      obtain ⟨dx4, sa4, srs4, z4, q1, q2, q3, q4, q5⟩ := zbP TA4 G hi hc
      refine ⟨_, rfl, p, C, dx4, _, _, rfl, q1, zz.cl, zz.n_steps, Wu _ _ _ _, _, rfl, sa4, _, _, _, rfl, rfl, SqL.of q2, q3, _, rfl, z4.1, _, _, _, rfl, rfl, SqL.of q4, q5, ?_⟩
      refine ⟨_, rfl, _, rfl, p, C, dx4, _, _, rfl, q1, zz.cl, zz.n_base, Ul _ _ _ _, _, _, rfl, rfl, .inr ⟨by omega, by omega⟩, _, rfl, _, _, rfl, rfl, ?_⟩
      have e1 := tD G.ne b2 R t (s := c) (by omega)
      have e2 := tD G.ne b2 R t (s := c + 1) (by omega)
      have hlo' : many (gd ls b) ((m * b + c) * b ^ t) ≤ k := by omega
      have hhi' : k < many (gd ls b) ((m * b + c + 1) * b ^ t) := by
        rw [show m * b + c + 1 = m * b + (c + 1) by omega]; omega
      rcases zaN G hi R hc with ⟨j', f1, f2, f3⟩ | ⟨f1, f2, f3⟩
      · rw [f1]
        refine ⟨some (.int t), some (.int c), j', m * b + c, L4, ?_, f2, f3, ?_, ?_, by omega, by omega, TA4, m24⟩
        · rw [show sz - (j + 1) = t by omega]
          show [_, _, some (V.int ((k' : Int) - (under ls b t ws[i]? c : Nat))), some (V.int (j' : Nat)), some (V.int ((m : Int) * b + c)), _, _] = [_, _, some (V.int ((k : Int) - (many (gd ls b) ((m * b + c) * b ^ t) : Nat))), some (V.int (j' : Nat)), some (V.int ((m * b + c : Nat) : Int)), _, _]
          rw [show ((k' : Int) - (under ls b t ws[i]? c : Nat)) = ((k : Int) - (many (gd ls b) ((m * b + c) * b ^ t) : Nat)) by omega, Int.natCast_add, Int.natCast_mul]
        · rw [show sz - (j + 1) = t by omega]; exact hlo'
        · rw [show sz - (j + 1) = t by omega]; exact hhi'
      · exfalso
        have eb3 := zbv G.ne b2 f2 f3 t (r := b ^ t) (Nat.le_refl _)
        rw [← Nat.succ_mul] at eb3
        have : (m * b + c).succ = m * b + c + 1 := rfl
        rw [this] at eb3
        omega
    · rintro σ H2 ⟨v5, v6, i, m, L', rfl, hi, R, hlo, hhi, hLL, hL', TA2, m2⟩
      rw [Nat.sub_self, Nat.pow_zero, Nat.mul_one] at hlo hhi
      have hg : gd ls b m = true := by
        cases e : gd ls b m with
        | true => rfl
        | false =>
          have : many (gd ls b) (m + 1) = many (gd ls b) m := by rw [many, e]; rfl
          omega
      have em : many (gd ls b) m = k := by
        have : many (gd ls b) (m + 1) = many (gd ls b) m + 1 := by rw [many, if_pos hg]
        omega
      refine ⟨_, rfl, kk m hg em ?_ L' H2 hLL TA2 m2 hL'⟩
      by_cases z : m < b ^ sz
      · exact z
      · have := je (gd ls b) (show b ^ sz ≤ m by omega)
        omega
end
theorem LT.off {T la : Addr} {H H' : Hp} {xs : List V} (h : LT T H) (hla : H la = some (.lst xs)) (m : Same (aw [la] H) (aw [la] H')) : LT T H' := by
  have go : ∀ c o, c ≠ la → H c = some o → H' c = some o := fun c o hc e => by
    have hc' : c ∉ [la] := by simpa using hc
    have := m c o (by rw [zV hc']; exact e)
    rwa [zV hc'] at this
  have n0 : T ≠ la := Ne.symm (h.lst hla)
  rcases h with h | ⟨c, h1, h2⟩
  · exact .inl (go _ _ n0 h)
  · refine .inr ⟨c, go _ _ n0 h1, go _ _ (fun z => ?_) h2⟩
    rw [z, hla] at h2
    cases h2
theorem Qa {α : Type} {f : α → V} (h : ∀ a, f a = V.int 1) : ∀ l : List α, (List.replicate l.length [V.int 1]).flatten = l.map f
  | [] => rfl
  | a :: l => by rw [List.length_cons, List.replicate_succ, List.flatten_cons, Qa h l, List.map_cons, h a]; rfl
section
variable {P : Program} {w : World} {K : PySem.W.Frag} {mg : Str → Option Value} {base : Heap} {T0 C : Addr}
def j8 (T0 C : Addr) : Sp := fun vs H Q _ => ∃ (p dx r : Addr) (b : Nat) (bl : Addr) (zs : List (Addr × List Int)), vs = [.ref p, .ref r] ∧ H p = some (.ins C dx []) ∧ RuleAt H r b bl zs ∧ yl b (zs.map (·.2)) ∧ LT T0 H ∧
  ∀ (la : Addr) (ws : List (List Int)) (H' : Hp), TailsAt C H' p la b (zs.map (·.2)) ws 1 → GoodT b (zs.map (·.2)) ws → (∀ c o, c ≠ p → c ≠ T0 → H c = some o → H' c = some o) → LT T0 H' → H la = none → Q .non H'
theorem qF : zB ["self", "rule", "stands"] ["self", "rule"] (zq ur) := ⟨rfl, rfl, rfl, by decide +kernel, rfl, by decide +kernel, by decide +kernel⟩
theorem zbf {f f1 f2 f3 : Addr} {fd fd1 fd2 fd3 : FuncData} (D : Mt K C "Tails.__init__" "__init__" ur ["self", "rule"] f fd) (jr : Df K mg "stands_of" yc ["bad"] f1 fd1) (Yo : FnOk P w K mg base CX0 6 f1 fd1 ["bad"] (jF T0)) (jA : Df K mg "all_steps" uD ["rule", "stands"] f2 fd2) (Yj : FnOk P w K mg base CX0 6 f2 fd2 ["rule", "stands"] jn)
    (yX : Df K mg "lacks_all" wz ["bad", "figures"] f3 fd3) (xG : FnOk P w K mg base CX0 2 f3 fd3 ["bad", "figures"] vW) (zz : ClT K mg C) (T : Blt mg) : FnOk P w K mg base CX0 7 f fd ["self", "rule"] (j8 T0 C) := by
  refine D.fn.ok qF (fun vs H Q E h => ?_) (fun cdv A outer s H vs Q E hr h => ?_)
  · obtain ⟨p, dx, r, b, bl, zs, rfl, _⟩ := h; rfl
  · obtain ⟨p, dx, r, b, bl, zs, rfl, hp, R, g, hT, kk⟩ := h
    have h4 : zs.length ≤ 4 := by have := g.len; rwa [List.length_map] at this
    have gz : ∀ z ∈ zs, z.2 ≠ [] ∧ z.2.length ≤ 4 := fun z hz => ⟨(g.st _ (List.mem_map.mpr ⟨z, hz, rfl⟩)).ne, (g.st _ (List.mem_map.mpr ⟨z, hz, rfl⟩)).len⟩
    have npT : p ≠ T0 := fun z => by
      rw [z] at hp
      rcases hT with h | ⟨c, h, _⟩
      · rw [h] at hp; cases hp
      · rw [h] at hp; cases hp
    refine ⟨_, (zp (zF (i := 2) qF.nd rfl (Or.inl rfl) (zJ jr Yo (hr.mono (by decide)) (zc (zP (vD K) (pv 1) zm (fun _ _ => rfl)) zg)))
      (zp (Qm (pv 0) (zP (vD K) (pv 1) zm (fun _ _ => rfl)) rfl)
      (zp (Qm (pv 0) (zA (uL K) (by rfl) T.n_len PySem.boot_len (zc (pv 2) zg)) rfl)
      (zp (Qm (pv 0) (zJ jA Yj (hr.mono (by decide)) (zc (pv 1) (zc (pv 2) zg))) rfl)
      (zu (Qm (pv 0) (zM (zc (zK Xi (zK zc8 (zM (zc zm zg)) (zA (uL K) (by rfl) T.n_len PySem.boot_len (zc (pv 2) zg))) (zM (zc (za0 (tL (zJ yX xG (hr.mono (by decide)) (zc (zP (vD K) (pv 1) zm (fun _ _ => rfl)) (zc (zM (zc zm zg)) zg)))) zm zm) zg))) zg)) rfl)))))), ?_⟩
    refine ⟨_, rfl, r, _, _, V.ref bl, rfl, rfl, SqT.of R.tu, rfl, bl, zs, rfl, R.li, R.st, h4, gz, hT, fun Dd ws H1 hDn hD hws SL h13 mL hT1 => ?_⟩
    have R1 : RuleAt H1 r b bl zs := ⟨mL _ _ (hT.tup R.tu) R.tu, mL _ _ (hT.lst R.li) R.li, fun z hz => mL _ _ (hT.lst (R.st z hz)) (R.st z hz)⟩
    have hp1 := mL _ _ npT hp
    have rp : r ≠ p := ZR R1.tu hp1 (fun z => nomatch z)
    have lp : ∀ {c : Addr} {xs : List V}, H1 c = some (.lst xs) → c ≠ p := fun h => ZR h hp1 (fun z => nomatch z)
    refine ⟨_, rfl, r, _, _, V.int b, rfl, rfl, SqT.of R1.tu, rfl, _, rfl, p, C, dx, _, rfl, hp1, zz.cl, zz.n_base, (by show 0 < 1000; decide), ?_⟩
    refine ⟨_, rfl, Dd, _, rfl, .inl (SqL.of (by rw [zr (lp hD)]; exact hD)), _, rfl, p, C, dx, _, rfl, zf, zz.cl, zz.n_outset, (by show 1 < 1000; decide), ?_⟩
    rw [zcr, List.length_map]
    generalize hH3 : upd H1 p (.ins C dx (xu "outset" (.int (ws.length : Nat)) (xu "base" (.int b) []))) = H3
    have m3 : ∀ c o, c ≠ p → H1 c = some o → H3 c = some o := fun c o hc e => by rw [← hH3, zr hc]; exact e
    have hp3 : H3 p = some (.ins C dx (xu "outset" (.int (ws.length : Nat)) (xu "base" (.int b) []))) := by rw [← hH3, zf]
    have R3 : RuleAt H3 r b bl zs := ⟨m3 _ _ rp R1.tu, m3 _ _ (lp R1.li) R1.li, fun z hz => m3 _ _ (lp (R1.st z hz)) (R1.st z hz)⟩
    refine ⟨_, rfl, _, rfl, r, b, bl, zs, Dd, ws, rfl, R3, g, m3 _ _ (lp hD) hD, fun z hz => m3 _ _ (lp (hws z hz).2.1) (hws z hz).2.1, SL, h13, fun sa srs H4 hsa m4 hsal hsrs hsr2 => ?_⟩
    have hp4 := m4 _ _ hp3
    have len2 : (xu "outset" (.int (ws.length : Nat)) (xu "base" (.int b) [])).length ≤ 2 := Nat.le_trans (uC _ _ _) (Nat.succ_le_succ (uC _ _ _))
    refine ⟨_, rfl, p, C, dx, _, rfl, hp4, zz.cl, zz.n_steps, by omega, ?_⟩
    generalize hH5 : upd H4 p (.ins C dx (xu "steps" (.ref sa) (xu "outset" (.int (ws.length : Nat)) (xu "base" (.int b) [])))) = H5
    have m5 : ∀ c o, c ≠ p → H4 c = some o → H5 c = some o := fun c o hc e => by rw [← hH5, zr hc]; exact e
    have hp5 : H5 p = some (.ins C dx (xu "steps" (.ref sa) (xu "outset" (.int (ws.length : Nat)) (xu "base" (.int b) [])))) := by rw [← hH5, zf]
    have lp4 : ∀ {c : Addr} {xs : List V}, H4 c = some (.lst xs) → c ≠ p := fun h => ZR h hp4 (fun z => nomatch z)
    have R4 := R3.same m4
    have R5 : RuleAt H5 r b bl zs := ⟨m5 _ _ (ZR R4.tu hp4 (fun z => nomatch z)) R4.tu, m5 _ _ (lp4 R4.li) R4.li, fun z hz => m5 _ _ (lp4 (R4.st z hz)) (R4.st z hz)⟩
    have hD5 : H5 Dd = some (.lst (ws.map fun z => V.ref z.1)) := m5 _ _ (lp4 (m4 _ _ (m3 _ _ (lp hD) hD))) (m4 _ _ (m3 _ _ (lp hD) hD))
    refine ⟨(by show 1 ≤ sizeLine; decide), fun q1 n1 => ?_⟩
    refine ⟨_, rfl, Dd, _, rfl, .inl (SqL.of (zj n1 _ _ hD5)), ?_⟩
    rw [List.length_map]
    refine ⟨q1, _, _, rfl, rfl, zf, by omega, by omega, ?_, fun q2 n2 => ?_⟩
    · show 1 * (ws.length : Int).toNat ≤ sizeLine
      exact Nat.le_trans (show 1 * (ws.length : Int).toNat ≤ 13 by omega) (by decide)
    have s1 := zj n1 (o := .lst [V.int 1])
    have s2 := s1.trans (zj n2 (o := .lst (List.replicate (ws.length : Int).toNat [V.int 1]).flatten))
    have R6 := R5.same s2
    refine ⟨_, rfl, r, _, _, V.ref bl, rfl, rfl, SqT.of R6.tu, rfl, (by show 1 ≤ sizeLine; decide), fun q3 n3 => ?_⟩
    have s3 := s2.trans (zj n3 (o := .lst [V.int 0]))
    have R7 := R5.same s3
    refine ⟨bl, q3, zs, [0], rfl, R7.li, R7.st, zf, by omega, by decide, fun z hz => ⟨(gz z hz).1, Nat.le_trans (gz z hz).2 (by decide)⟩, fun H8 s8 => ⟨_, rfl, ?_⟩⟩
    have s38 := s3.trans s8
    have fin : ∀ x : Int, x = ((jy (zs.map (·.2)) b 0 : Nat) : Int) → ∀ q4, H8 q4 = none → q2 ≠ q4 → ∀ q5, upd H8 q4 (.lst [V.int x]) q5 = none → ∀ q6, upd (upd H8 q4 (.lst [V.int x])) q5 (.lst ((List.replicate (ws.length : Int).toNat [V.int 1]).flatten ++ [V.int x])) q6 = none →
        Q .non (upd (upd (upd (upd H8 q4 (.lst [V.int x])) q5 (.lst ((List.replicate (ws.length : Int).toNat [V.int 1]).flatten ++ [V.int x]))) q6 (.lst [V.ref q5])) p (.ins C dx (xu "layers" (.ref q6) (xu "steps" (.ref sa) (xu "outset" (.int (ws.length : Nat)) (xu "base" (.int b) [])))))) := by
      intro x hx q4 n4 _ q5 n5 q6 n6
      have t4 := zj n4 (o := .lst [V.int x])
      have t5 := zj n5 (o := .lst ((List.replicate (ws.length : Int).toNat [V.int 1]).flatten ++ [V.int x]))
      have t6 := zj n6 (o := .lst [V.ref q5])
      have t46 := t4.trans (t5.trans t6)
      have s56 := s38.trans t46
      have hp9 := s56 _ _ hp5
      have f5 : ∀ c, H5 c = none → H c = none := fun c hc => by
        have h5 : H4 c = none := by
          rw [← hH5] at hc
          by_cases z : c = p
          · subst z; rw [zf] at hc; cases hc
          · rwa [zr z] at hc
        have h3' : H3 c = none := m4.free h5
        have h1' : H1 c = none := by
          rw [← hH3] at h3'
          by_cases z : c = p
          · subst z; rw [zf] at h3'; cases h3'
          · rwa [zr z] at h3'
        cases e : H c with
        | none => rfl
        | some o =>
          by_cases z : c = T0
          · subst z
            exact absurd h1' (by
              rcases hT1 with h | ⟨d, h, _⟩
              · rw [h]; simp
              · rw [h]; simp)
          · rw [mL c o z e] at h1'; cases h1'
      have q6H5 : H5 q6 = none := (s38.trans (t4.trans t5)).free n6
      have q6p : q6 ≠ p := fun z => by rw [z, hp5] at q6H5; cases q6H5
      have np5 : q5 ≠ q6 := fun z => by rw [← z, zf] at n6; cases n6
      generalize hH9 : upd (upd (upd H8 q4 (.lst [V.int x])) q5 (.lst ((List.replicate (ws.length : Int).toNat [V.int 1]).flatten ++ [V.int x]))) q6 (.lst [V.ref q5]) = H9 at t6 t46 s56 hp9
      have hq6 : H9 q6 = some (.lst [V.ref q5]) := by rw [← hH9, zf]
      have hq5 : H9 q5 = some (.lst ((List.replicate (ws.length : Int).toNat [V.int 1]).flatten ++ [V.int x])) := by rw [← hH9, zr np5, zf]
      have q5p : q5 ≠ p := ZR hq5 hp9 (fun z => nomatch z)
      have off : ∀ c o, c ≠ p → H5 c = some o → aw [q6] (upd H9 p (.ins C dx (Yz b ws.length sa q6))) c = some o := fun c o hc e => by
        have hcq : c ≠ q6 := zx e q6H5
        rw [zV (by simpa using hcq), zr hc]
        exact s56 c o e
      have sa4 : H4 sa = some (.lst (srs.map fun z => V.ref z.1)) := hsal
      have l1 : ∀ {c : Addr} {xs : List V}, H4 c = some (.lst xs) → H5 c = some (.lst xs) ∧ c ≠ p := fun h => ⟨m5 _ _ (lp4 h) h, lp4 h⟩
      refine kk q6 (ws.map (·.2)) _ ⟨⟨dx, sa, srs, ?_, off _ _ (l1 hsal).2 (l1 hsal).1, fun z hz => off _ _ (l1 (hsrs z hz).2).2 (l1 (hsrs z hz).2).1, hsr2⟩, ⟨[(q5, xm (zs.map (·.2)) (ws.map (·.2)) b 0)], by rw [zr q6p]; exact hq6, fun z hz => ?_, rfl⟩, Nat.le_refl _⟩ ⟨g, SL, by rw [List.length_map]; exact h13⟩ (fun c o hc hcT e => ?_) ?_ (f5 _ q6H5)
      · rw [zV (by simpa using Ne.symm q6p), List.length_map]
        exact zf
      · have e : z = (q5, xm (zs.map (·.2)) (ws.map (·.2)) b 0) := by simpa using hz
        subst e
        rw [zV (by simpa using np5), zr q5p, hq5]
        congr 2
        unfold xm
        rw [List.map_append, hx, Int.toNat_natCast, List.map_map, List.map_map]
        rw [Qa (fun _ => rfl) ws]
        rfl
      · rw [zr hc]
        have h1 := mL c o hcT e
        exact s56 c o (m5 c o hc (m4 c o (m3 c o hc h1)))
      · have a1 : LT T0 H3 := by
          rcases hT1 with h | ⟨d, h1, h2⟩
          · exact .inl (m3 _ _ (Ne.symm npT) h)
          · exact .inr ⟨d, m3 _ _ (Ne.symm npT) h1, m3 _ _ (ZR h2 hp1 (fun z => nomatch z)) h2⟩
        have a2 := a1.same m4
        have a3 : LT T0 H5 := by
          rcases a2 with h | ⟨d, h1, h2⟩
          · exact .inl (m5 _ _ (Ne.symm npT) h)
          · exact .inr ⟨d, m5 _ _ (Ne.symm npT) h1, m5 _ _ (ZR h2 hp4 (fun z => nomatch z)) h2⟩
        have a4 := a3.same s56
        rcases a4 with h | ⟨d, h1, h2⟩
        · exact .inl (by rw [zr (Ne.symm npT)]; exact h)
        · exact .inr ⟨d, by rw [zr (Ne.symm npT)]; exact h1, by rw [zr (ZR h2 hp9 (fun z => nomatch z))]; exact h2⟩
    have hq2 : H8 q2 = some (.lst (List.replicate (ws.length : Int).toNat [V.int 1]).flatten) := s8 _ _ (zj n3 _ _ zf)
    have lenr : (List.replicate (ws.length : Int).toNat [V.int 1]).flatten.length ≤ 13 := by rw [Int.toNat_natCast, Qa (f := fun _ => V.int 1) (fun _ => rfl) ws, List.length_map]; exact h13
    have len3 : (xu "steps" (.ref sa) (xu "outset" (.int (ws.length : Nat)) (xu "base" (.int b) []))).length ≤ 3 := Nat.le_trans (uC _ _ _) (Nat.succ_le_succ len2)
    have tail : ∀ x : Int, x = ((jy (zs.map (·.2)) b 0 : Nat) : Int) → ∀ q4, H8 q4 = none → ∃ l b' xs zs', V.ref q2 = V.ref l ∧ V.ref q4 = V.ref b' ∧ upd H8 q4 (.lst [V.int x]) l = some (.lst xs) ∧ upd H8 q4 (.lst [V.int x]) b' = some (.lst zs') ∧ xs.length + zs'.length ≤ sizeLine ∧ ∀ q5, upd H8 q4 (.lst [V.int x]) q5 = none →
        1 ≤ sizeLine ∧ ∀ q6, upd (upd H8 q4 (.lst [V.int x])) q5 (.lst (xs ++ zs')) q6 = none → ∃ v, some (some (V.ref p)) = some (some v) ∧ ∃ a C' dx' fs, v = .ref a ∧ upd (upd (upd H8 q4 (.lst [V.int x])) q5 (.lst (xs ++ zs'))) q6 (.lst [V.ref q5]) a = some (.ins C' dx' fs) ∧ Cls K C' ∧ NoAttr K C' "layers" ∧ fs.length < 1000 ∧ Q .non (upd (upd (upd (upd H8 q4 (.lst [V.int x])) q5 (.lst (xs ++ zs'))) q6 (.lst [V.ref q5])) a (.ins C' dx' (xu "layers" (.ref q6) fs))) := by
      intro x hx q4 n4
      have nq : q2 ≠ q4 := zx hq2 n4
      refine ⟨q2, q4, _, _, rfl, rfl, by rw [zr nq]; exact hq2, zf, Nat.le_trans (Nat.add_le_add lenr (Nat.le_refl 1)) (by decide), fun q5 n5 => ⟨(by decide), fun q6 n6 => ?_⟩⟩
      have hp8 := s38 _ _ hp5
      exact ⟨_, rfl, p, C, dx, _, rfl, (zj n4).trans ((zj n5).trans (zj n6)) _ _ hp8, zz.cl, zz.n_layers, by omega, fin x hx q4 n4 nq q5 n5 q6 n6⟩
    cases hlk : lacks (zs.map (·.2)) [0] with
    | true =>
      refine wO ?_
      refine ⟨(by show 1 ≤ sizeLine; decide), fun q4 n4 => ?_⟩
      exact tail 1 (by unfold jy; rw [hlk]; rfl) q4 n4
    | false =>
      refine xT ?_
      refine ⟨(by show 1 ≤ sizeLine; decide), fun q4 n4 => ?_⟩
      exact tail 0 (by unfold jy; rw [hlk]; rfl) q4 n4
end
theorem zct {H : Hp} {x dx : Addr} {C : Addr} (nx : H x = none) (ndx : H dx = none) : Same H (upd (upd H dx (.own x)) x (.ins C dx [])) := fun b o e => by
  rw [zr (zx e nx), zr (zx e ndx)]
  exact e
theorem RuleAt.sameL {T0 r bl : Addr} {H H' : Hp} {b : Nat} {zs : List (Addr × List Int)} (R : RuleAt H r b bl zs) (hT : LT T0 H) (m : SameL T0 H H') : RuleAt H' r b bl zs :=
  ⟨m _ _ (hT.tup R.tu) R.tu, m _ _ (hT.lst R.li) R.li, fun z hz => m _ _ (hT.lst (R.st z hz)) (R.st z hz)⟩
theorem VM {T0 la : Addr} {H H1 H2 : Hp} (m : SameL T0 H H1) (hla : H la = none) (a : Same (aw [la] H1) (aw [la] H2)) : SameL T0 H H2 := fun c o hc e => by
  have hcl : c ∉ [la] := by simpa using zx e hla
  have := a c o (by rw [zV hcl]; exact m c o hc e)
  rwa [zV hcl] at this
theorem TailsAt.la {C p la b : Nat} {H : Hp} {ls ws : List (List Int)} {L : Nat} (TA : TailsAt C H p la b ls ws L) : ∃ xs, H la = some (.lst xs) := let ⟨_, h, _⟩ := TA.ly; ⟨_, h⟩
section
variable {P : Program} {w : World} {K : PySem.W.Frag} {mg : Str → Option Value} {base : Heap} {T0 C : Addr}
def zdp (T0 C : Addr) (b : Nat) (ls : List (List Int)) (H : Hp) (x : Addr) (H' : Hp) : Prop := ∃ (la : Addr) (ws : List (List Int)), TailsAt C H' x la b ls ws 1 ∧ GoodT b ls ws ∧ SameL T0 H H' ∧ LT T0 H' ∧ H la = none
theorem J9 {r : Addr} {b : Nat} {bl : Addr} {zs : List (Addr × List Int)} {H : Hp} (R : RuleAt H r b bl zs) (g : yl b (zs.map (·.2))) (hT : LT T0 H) {R' : Addr → Hp → Prop} (k : ∀ x H', zdp T0 C b (zs.map (·.2)) H x H' → R' x H') :
    ∀ x dx, H x = none → H dx = none → dx ≠ x → j8 T0 C (.ref x :: ([.ref r] ++ [])) (upd (upd H dx (.own x)) x (.ins C dx [])) (fun v H2 => v = .non ∧ R' x H2) E0 := by
  intro x dx nx ndx nex
  have s0 := zct (C := C) nx ndx
  refine ⟨x, dx, r, b, bl, zs, rfl, zf, R.same s0, g, hT.same s0, fun la ws H' TA G fr hT' hla => ⟨rfl, k x H' ⟨la, ws, TA, G, fun c o hc e => fr c o (zx e nx) hc (s0 c o e), hT', s0.free hla⟩⟩⟩
def Zv (T0 : Addr) (pre : List (List Int) → Nat → Nat → Prop) (R : List (List Int) → Nat → Nat → V → Prop) : Sp := fun vs H Q _ => ∃ (r : Addr) (b : Nat) (bl : Addr) (zs : List (Addr × List Int)) (n : Nat), vs = [.ref r, .int n] ∧ RuleAt H r b bl zs ∧ yl b (zs.map (·.2)) ∧ pre (zs.map (·.2)) b n ∧ LT T0 H ∧ ∀ v H', R (zs.map (·.2)) b n v → SameL T0 H H' → LT T0 H' → Q v H'
end
section
variable {P : Program} {w : World} {K : PySem.W.Frag} {mg : Str → Option Value} {base : Heap} {T0 C : Addr}
def wZ : Sp := fun vs H Q _ => ∃ m : Nat, vs = [.int m] ∧ 1 ≤ m ∧ m ≤ 60 ∧ Q .non H
theorem XS : zB ["thing"] ["thing"] (zq wB) := ⟨rfl, rfl, rfl, by decide +kernel, rfl, by decide +kernel, by decide +kernel⟩
theorem XR {f f1 : Addr} {fd fd1 : FuncData} {t1 : Tok} (D : Df K mg "check_length" wB ["thing"] f fd) (jx : Df K mg "is_number" qx ["thing"] f1 fd1) (Yq : FnOk P w K mg base CX0 2 f1 fd1 ["thing"] ju) (tH : mg "MOST_FIGURES" = some (.int 60 t1)) : FnOk P w K mg base CX0 3 f fd ["thing"] wZ := by
  refine D.fn.ok XS (fun vs H Q E h => ?_) (fun cdv A outer s H vs Q E hr h => ?_)
  · obtain ⟨m, rfl, _⟩ := h; rfl
  · obtain ⟨m, rfl, h1, h2, kk⟩ := h
    refine ⟨_, (zu (xX (PW.pt (VR (Zo (tL (zJ jx Yq (hr.mono (by decide)) (zc (pv 0) zg)))) (Xd (Zo (zbq Yw Yw zm (pv 0) (YQ (v := .int 60) rfl tH ⟨_, rfl⟩))))))
        (zu Qt)
        yg)), ?_⟩
    refine ⟨_, rfl, (m : Int), rfl, _, rfl, ?_⟩
    rw [decide_eq_true (show (0 : Int) ≤ m by omega)]
    refine xT ?_
    refine ⟨_, rfl, _, _, rfl, rfl, _, rfl, ?_⟩
    rw [decide_eq_true (show (1 : Int) ≤ m by omega)]
    refine wO ?_
    refine ⟨_, _, rfl, rfl, _, rfl, ?_⟩
    rw [decide_eq_true (show (m : Int) ≤ 60 by omega)]
    exact xT kk
def low (ls : List (List Int)) (b m : Nat) : Nat := if m = 1 then 0 else many (gd ls b) (b ^ (m - 1))
def wI (C : Addr) : Sp := fun vs H Q _ => ∃ (p la : Addr) (b : Nat) (ls ws : List (List Int)) (L m : Nat), vs = [.ref p, .int m] ∧ TailsAt C H p la b ls ws L ∧ GoodT b ls ws ∧ L ≤ 1000 ∧ 1 ≤ m ∧ m ≤ 60 ∧ TQ C H p la b ls ws L fun L' H' => L' ≤ 1000 → Q (.int (low ls b m : Nat)) H'
theorem Xg : zB ["tails", "m"] ["tails", "m"] (zq xJ) := ⟨rfl, rfl, rfl, by decide +kernel, rfl, by decide +kernel, by decide +kernel⟩
theorem Xl {f f1 : Addr} {fd fd1 : FuncData} (D : Df K mg "count_shorter" xJ ["tails", "m"] f fd) (zL : Mt K C "Tails.many_within" "many_within" yo ["self", "size"] f1 fd1) (zQ : FnOk P w K mg base CX0 3 f1 fd1 ["self", "size"] (wg C)) (zz : ClT K mg C) : FnOk P w K mg base CX0 4 f fd ["tails", "m"] (wI C) := by
  refine D.fn.ok Xg (fun vs H Q E h => ?_) (fun cdv A outer s H vs Q E hr h => ?_)
  · obtain ⟨p, la, b, ls, ws, L, m, rfl, _⟩ := h; rfl
  · obtain ⟨p, la, b, ls, ws, L, m, rfl, TA, G, hL, h1, h2, kk⟩ := h
    obtain ⟨dx, sa, hp⟩ := TA.obj
    refine ⟨_, (zp (xX (zO ZX (pv 1) zm (zT _))
        (zu (zH zm))
        yg)
      (zu (zH (jT zL zz.cl zQ (hr.mono (by decide)) (pv 0) (zc (zK Zk (pv 1) zm) zg))))), ?_⟩
    refine ⟨_, rfl, rfl, _, rfl, ?_⟩
    refine X6 (fun hz => ?_) (fun hz => ?_)
    · have e : m = 1 := by
        have z := of_decide_eq_true hz
        injection z with z
        omega
      have q := kk L H (Nat.le_refl _) TA (Same.refl _) hL
      unfold low at q
      rw [if_pos e] at q
      exact q
    · have e : ¬ m = 1 := fun z => hz (decide_eq_true (by rw [z]; rfl))
      refine ⟨_, rfl, p, dx, _, rfl, hp, wY _ _ _ _, _, rfl, _, _, rfl, rfl, p, la, b, ls, ws, L, m - 1, ?_, TA, G, hL, by omega, fun L2 H2 hL2 TA2 m2 hmx => ?_⟩
      · show [V.ref p, V.int ((m : Int) - 1)] = _
        rw [show ((m : Int) - 1) = ((m - 1 : Nat) : Int) by omega]
      · have q := kk L2 H2 hL2 TA2 m2 (by omega)
        unfold low at q
        rw [if_neg e, ← ug G.ne G.g.b2] at q
        exact q
abbrev j7 : List (List Int) → Nat → Nat → Prop := fun _ _ m => 1 ≤ m ∧ m ≤ 60
def LeastL (ls : List (List Int)) (b m : Nat) (v : V) : Prop := (v = .non ∧ many (gd ls b) (b ^ m) = low ls b m) ∨ ∃ g : Nat, v = .int g ∧ gd ls b g = true ∧ many (gd ls b) g = low ls b m ∧ g < b ^ m
def GreatestL (ls : List (List Int)) (b m : Nat) (v : V) : Prop := (v = .non ∧ many (gd ls b) (b ^ m) = low ls b m) ∨ ∃ g : Nat, v = .int g ∧ gd ls b g = true ∧ many (gd ls b) g + 1 = many (gd ls b) (b ^ m) ∧ g < b ^ m ∧ low ls b m < many (gd ls b) (b ^ m)
theorem zbm {ls : List (List Int)} {b m : Nat} (hb : 1 ≤ b) : low ls b m ≤ many (gd ls b) (b ^ m) := by
  unfold low
  split
  · exact Nat.zero_le _
  · exact je _ (Nat.pow_le_pow_right hb (by omega))
theorem qL : zB ["rule", "m", "tails", "k"] ["rule", "m"] (zq vN) := ⟨rfl, rfl, rfl, by decide +kernel, rfl, by decide +kernel, by decide +kernel⟩
theorem Vu {f f1 f2 f3 f4 f5 f6 : Addr} {fd fd1 fd2 fd3 fd4 fd5 fd6 : FuncData} (D : Df K mg "least_long" vN ["rule", "m"] f fd) (ww : Df K mg "check_rule" vM ["thing"] f1 fd1) (vo : FnOk P w K mg base CX0 7 f1 fd1 ["thing"] uy) (yV : Df K mg "check_length" wB ["thing"] f2 fd2) (xR : FnOk P w K mg base CX0 3 f2 fd2 ["thing"] wZ)
    (Y6 : Mk K C f3) (YZ : Binds K fd3 ["self", "rule"] []) (vh : FnOk P w K mg base CX0 7 f3 fd3 ["self", "rule"] (j8 T0 C)) (zL : Mt K C "Tails.many_within" "many_within" yo ["self", "size"] f4 fd4) (zQ : FnOk P w K mg base CX0 3 f4 fd4 ["self", "size"] (wg C)) (yI : Df K mg "count_shorter" xJ ["tails", "m"] f5 fd5) (xn : FnOk P w K mg base CX0 4 f5 fd5 ["tails", "m"] (wI C))
    (yq : Mt K C "Tails.number_at" "number_at" yP ["self", "size", "k"] f6 fd6) (yG : FnOk P w K mg base CX0 5 f6 fd6 ["self", "size", "k"] (uT C)) (zz : ClT K mg C) : FnOk P w K mg base CX0 9 f fd ["rule", "m"] (Zv T0 j7 LeastL) := by
  refine D.fn.ok qL (fun vs H Q E h => ?_) (fun cdv A outer s H vs Q E hr h => ?_)
  · obtain ⟨r, b, bl, zs, n, rfl, _⟩ := h; rfl
  · obtain ⟨r, b, bl, zs, m, rfl, R, g, ⟨hm1, hm2⟩, hT, kk⟩ := h
    refine ⟨_, (zp (vO (zJ ww vo (hr.mono (by decide)) (zc (pv 0) zg)))
      (zp (vO (zJ yV xR (hr.mono (by decide)) (zc (pv 1) zg)))
      (zp (zF (i := 2) qL.nd rfl (Or.inl rfl) (zad Y6 vh (hr.mono (by decide)) rfl zz.nm YZ .nil zah (zc (pv 0) zg)))
      (zp (zF (i := 3) qL.nd rfl (Or.inl rfl) (zJ yI xn (hr.mono (by decide)) (zc (pv 2) (zc (pv 1) zg))))
      (zp (xX (zO ZX (jT zL zz.cl zQ (hr.mono (by decide)) (pv 2) (zc (pv 1) zg)) (pv 3) (zT _))
        (zu (zH tR))
        yg)
      (zu (zH (jT yq zz.cl yG (hr.mono (by decide)) (pv 2) (zc (pv 1) (zc (pv 3) zg)))))))))), ?_⟩
    refine ⟨_, rfl, r, b, bl, zs, rfl, R, g, fun H1 m1 => ?_⟩
    refine ⟨_, rfl, m, rfl, hm1, hm2, ?_⟩
    refine ⟨_, rfl, ?_⟩
    refine J9 (R.same m1) g (hT.same m1) ?_
    rintro x H3 ⟨la, ws, TA, G, mL, hT3, hla⟩
    obtain ⟨xs, hla3⟩ := TA.la
    have hle := zbm (ls := zs.map (·.2)) (m := m) (show 1 ≤ b by have := g.b2; omega)
    refine ⟨_, rfl, _, rfl, x, la, b, _, ws, 1, m, rfl, TA, G, by decide, hm1, hm2, fun L4 H4 hL4 TA4 m4 hL4' => ?_⟩
    obtain ⟨dx4, sa4, hp4⟩ := TA4.obj
    refine ⟨_, rfl, x, dx4, _, rfl, hp4, wY _ _ _ _, _, rfl, x, la, b, _, ws, L4, m, rfl, TA4, G, hL4', by omega, fun L5 H5 hL5 TA5 m5 hmx => ?_⟩
    rw [ug G.ne g.b2]
    have m45 := m4.trans m5
    have fin : ∀ H', Same (aw [la] H5) (aw [la] H') → SameL T0 H H' ∧ LT T0 H' := fun H' m' => ⟨VM ((SameL.of m1).trans mL) (m1.free hla) (m45.trans m'), hT3.off hla3 (m45.trans m')⟩
    refine ⟨_, rfl, rfl, _, rfl, ?_⟩
    refine X6 (fun hz => ?_) (fun hz => ?_)
    · have e : many (gd (zs.map (·.2)) b) (b ^ m) = low (zs.map (·.2)) b m := by
        have z := of_decide_eq_true hz
        injection z with z
        omega
      obtain ⟨a1, a2⟩ := fin H5 (Same.refl _)
      exact kk _ H5 (.inl ⟨rfl, e⟩) a1 a2
    · have e : ¬ many (gd (zs.map (·.2)) b) (b ^ m) = low (zs.map (·.2)) b m := fun z => hz (decide_eq_true (by rw [z]))
      obtain ⟨dx5, sa5, hp5⟩ := TA5.obj
      refine ⟨_, rfl, x, dx5, _, rfl, hp5, wY _ _ _ _, _, rfl, _, rfl, x, la, b, _, ws, L5, m, low (zs.map (·.2)) b m, rfl, TA5, G, by omega, by omega, by omega, fun q hg hm hq L6 H6 hL6 TA6 m6 hL6' => ?_⟩
      obtain ⟨a1, a2⟩ := fin H6 m6
      exact kk _ H6 (.inr ⟨q, rfl, hg, hm, hq⟩) a1 a2
theorem um : zB ["rule", "m", "tails", "many"] ["rule", "m"] (zq xN) := ⟨rfl, rfl, rfl, by decide +kernel, rfl, by decide +kernel, by decide +kernel⟩
theorem YX {f f1 f2 f3 f4 f5 f6 : Addr} {fd fd1 fd2 fd3 fd4 fd5 fd6 : FuncData} (D : Df K mg "greatest_long" xN ["rule", "m"] f fd) (ww : Df K mg "check_rule" vM ["thing"] f1 fd1) (vo : FnOk P w K mg base CX0 7 f1 fd1 ["thing"] uy) (yV : Df K mg "check_length" wB ["thing"] f2 fd2) (xR : FnOk P w K mg base CX0 3 f2 fd2 ["thing"] wZ)
    (Y6 : Mk K C f3) (YZ : Binds K fd3 ["self", "rule"] []) (vh : FnOk P w K mg base CX0 7 f3 fd3 ["self", "rule"] (j8 T0 C)) (zL : Mt K C "Tails.many_within" "many_within" yo ["self", "size"] f4 fd4) (zQ : FnOk P w K mg base CX0 3 f4 fd4 ["self", "size"] (wg C)) (yI : Df K mg "count_shorter" xJ ["tails", "m"] f5 fd5) (xn : FnOk P w K mg base CX0 4 f5 fd5 ["tails", "m"] (wI C))
    (yq : Mt K C "Tails.number_at" "number_at" yP ["self", "size", "k"] f6 fd6) (yG : FnOk P w K mg base CX0 5 f6 fd6 ["self", "size", "k"] (uT C)) (zz : ClT K mg C) : FnOk P w K mg base CX0 9 f fd ["rule", "m"] (Zv T0 j7 GreatestL) := by
  refine D.fn.ok um (fun vs H Q E h => ?_) (fun cdv A outer s H vs Q E hr h => ?_)
  · obtain ⟨r, b, bl, zs, n, rfl, _⟩ := h; rfl
  · obtain ⟨r, b, bl, zs, m, rfl, R, g, ⟨hm1, hm2⟩, hT, kk⟩ := h
    refine ⟨_, (zp (vO (zJ ww vo (hr.mono (by decide)) (zc (pv 0) zg)))
      (zp (vO (zJ yV xR (hr.mono (by decide)) (zc (pv 1) zg)))
      (zp (zF (i := 2) um.nd rfl (Or.inl rfl) (zad Y6 vh (hr.mono (by decide)) rfl zz.nm YZ .nil zah (zc (pv 0) zg)))
      (zp (zF (i := 3) um.nd rfl (Or.inl rfl) (jT zL zz.cl zQ (hr.mono (by decide)) (pv 2) (zc (pv 1) zg)))
      (zp (xX (zO ZX (pv 3) (zJ yI xn (hr.mono (by decide)) (zc (pv 2) (zc (pv 1) zg))) (zT _))
        (zu (zH tR))
        yg)
      (zu (zH (jT yq zz.cl yG (hr.mono (by decide)) (pv 2) (zc (pv 1) (zc (zK Zk (pv 3) zm) zg)))))))))), ?_⟩
    refine ⟨_, rfl, r, b, bl, zs, rfl, R, g, fun H1 m1 => ?_⟩
    refine ⟨_, rfl, m, rfl, hm1, hm2, ?_⟩
    refine ⟨_, rfl, ?_⟩
    refine J9 (R.same m1) g (hT.same m1) ?_
    rintro x H3 ⟨la, ws, TA, G, mL, hT3, hla⟩
    obtain ⟨xs, hla3⟩ := TA.la
    have hle := zbm (ls := zs.map (·.2)) (m := m) (show 1 ≤ b by have := g.b2; omega)
    obtain ⟨dx3, sa3, hp3⟩ := TA.obj
    refine ⟨_, rfl, x, dx3, _, rfl, hp3, wY _ _ _ _, _, rfl, x, la, b, _, ws, 1, m, rfl, TA, G, by decide, by omega, fun L4 H4 hL4 TA4 m4 hmx => ?_⟩
    rw [ug G.ne g.b2]
    refine ⟨_, rfl, _, rfl, _, rfl, x, la, b, _, ws, L4, m, rfl, TA4, G, by omega, hm1, hm2, fun L5 H5 hL5 TA5 m5 hL5' => ?_⟩
    have m45 := m4.trans m5
    have fin : ∀ H', Same (aw [la] H5) (aw [la] H') → SameL T0 H H' ∧ LT T0 H' := fun H' m' => ⟨VM ((SameL.of m1).trans mL) (m1.free hla) (m45.trans m'), hT3.off hla3 (m45.trans m')⟩
    refine ⟨rfl, _, rfl, ?_⟩
    refine X6 (fun hz => ?_) (fun hz => ?_)
    · have e : many (gd (zs.map (·.2)) b) (b ^ m) = low (zs.map (·.2)) b m := by
        have z := of_decide_eq_true hz
        injection z with z
        omega
      obtain ⟨a1, a2⟩ := fin H5 (Same.refl _)
      exact kk _ H5 (.inl ⟨rfl, e⟩) a1 a2
    · have e : ¬ many (gd (zs.map (·.2)) b) (b ^ m) = low (zs.map (·.2)) b m := fun z => hz (decide_eq_true (by rw [z]))
      obtain ⟨dx5, sa5, hp5⟩ := TA5.obj
      refine ⟨_, rfl, x, dx5, _, rfl, hp5, wY _ _ _ _, _, rfl, _, rfl, _, _, rfl, rfl, x, la, b, _, ws, L5, m, many (gd (zs.map (·.2)) b) (b ^ m) - 1, ?_, TA5, G, by omega, by omega, by omega, fun q hg hm hq L6 H6 hL6 TA6 m6 hL6' => ?_⟩
      · show [V.ref x, V.int m, V.int ((many (gd (zs.map (·.2)) b) (b ^ m) : Nat) - 1 : Int)] = _
        rw [show (((many (gd (zs.map (·.2)) b) (b ^ m) : Nat) : Int) - 1) = ((many (gd (zs.map (·.2)) b) (b ^ m) - 1 : Nat) : Int) by omega]
      · obtain ⟨a1, a2⟩ := fin H6 m6
        exact kk _ H6 (.inr ⟨q, rfl, hg, by omega, hq, by omega⟩) a1 a2
end
section
variable {P : Program} {w : World} {K : PySem.W.Frag} {mg : Str → Option Value} {base : Heap}
def vV : Sp := fun vs H Q _ => ∃ (d : Addr) (fp : List Addr), vs = [.ref d] ∧ Deck H d fp ∧
  ∀ (r : Addr) (b : Nat) (bl : Addr) (zs : List (Addr × List Int)) (H' : Hp), Stp fp d H H' → RuleAt (aw fp H') r b bl zs → yl b (zs.map (·.2)) → Q (.ref r) H'
theorem zZ : zB ["deck", "base", "few", "first", "most", "bad", "k", "one"] ["deck"] (zq xg) := ⟨rfl, rfl, rfl, by decide +kernel, rfl, by decide +kernel, by decide +kernel⟩
theorem Qc {fp : List Addr} {d l : Addr} {H H' : Hp} (S : Stp fp d H H') : Same (aw (l :: fp) H) (aw (l :: fp) H') := fun c o e => by
  by_cases hc : c ∈ l :: fp
  · rw [Zr hc] at e; cases e
  · rw [zV hc] at e ⊢
    exact S.get (fun z => hc (List.mem_cons_of_mem _ z)) e
theorem Wj {fp : List Addr} {l : Addr} {H : Hp} {o : HO} : Same (aw (l :: fp) H) (aw (l :: fp) (upd H l o)) := fun c u e => by
  by_cases hc : c ∈ l :: fp
  · rw [Zr hc] at e; cases e
  · rw [zV hc] at e ⊢
    rw [zr (fun z => hc (by rw [z]; simp))]; exact e
theorem qw {f f1 : Addr} {fd fd1 : FuncData} (D : Df K mg "_law_some_rule" xg ["deck"] f fd) (zy : Df K mg "_law_draw" wu ["deck", "many"] f1 fd1) (T : Blt mg) : FnOk P w K mg base CX0 2 f fd ["deck"] vV := by
  have zE : FnOk P w K mg base CX0 1 f1 fd1 ["deck", "many"] wD := vU zy T
  refine D.fn.ok zZ (fun vs H Q E h => ?_) (fun cdv A outer s H vs Q E hr h => ?_)
  · obtain ⟨d, fp, rfl, _⟩ := h; rfl
  · obtain ⟨d, fp, rfl, DK, kk⟩ := h
    have HU := Ww hr
    refine ⟨_, (zp (zF (i := 1) zZ.nd rfl (Or.inl rfl) (zP (wL K) (zM (zc (zK yz zm (zJ zy zE (hr.mono (by decide)) (zc (pv 0) (zc zm zg)))) (zc zm (zc zm (zc zm (zc zm (zc (zK yz zm (zJ zy zE (hr.mono (by decide)) (zc (pv 0) (zc zm zg)))) zg))))))) (zJ zy zE (hr.mono (by decide)) (zc (pv 0) (zc zm zg))) (fun _ _ => rfl)))
      (zp (zF (i := 2) zZ.nd rfl (Or.inr rfl) (zA (VP rfl) (by rfl) T.n_min boot_min (zc (pv 1) (zc (zP (wL K) (zM (zc zm (zc zm (zc zm zg)))) (zJ zy zE (hr.mono (by decide)) (zc (pv 0) (zc zm zg))) (fun _ _ => rfl)) zg))))
      (zp (zF (i := 3) zZ.nd rfl (Or.inr rfl) (zJ zy zE (hr.mono (by decide)) (zc (pv 0) (zc (zK yz (zK Zk (pv 1) (pv 2)) zm) zg))))
      (zp (zF (i := 4) zZ.nd rfl (Or.inl rfl) (zP (wL K) (zM (zc (zK yz zm (zJ zy zE (hr.mono (by decide)) (zc (pv 0) (zc zm zg)))) (zc zm (zc zm (zc zm zg))))) (zJ zy zE (hr.mono (by decide)) (zc (pv 0) (zc zm zg))) (fun _ _ => rfl)))
      (zp (zF (i := 5) zZ.nd rfl (Or.inl rfl) (zM zg))
      (zp (vY PassesOwn.never rfl (yp rfl T.n_range (zc (zP (wL K) (zM (zc (zJ zy zE (hr.mono (by decide)) (zc (pv 0) (zc zm zg))) (zc zm (zc zm (zc zm zg))))) (zJ zy zE (hr.mono (by decide)) (zc (pv 0) (zc zm zg))) (fun _ _ => rfl)) zg)) (zY (i := 6) zZ.nd rfl (Or.inl rfl))
        (zp (vg (i := 7) (show CScope (zq xg) _ "at" ["deck", "base", "few", "first", "most", "bad", "k", "one"] ["first", "deck", "few"] [3, 0, 2] from ⟨rfl, by decide +kernel, by decide +kernel, rfl, by decide +kernel, rfl, by decide +kernel, by decide +kernel⟩) rfl zZ.nd rfl (Or.inl rfl) (yp rfl T.n_range (zc (zK yz zm (zJ zy zE (hr.mono (by decide)) (zc (pv 0) (zc (pv 4) zg)))) zg)) (fun _ _ _ _ => yD) (fun _ _ _ _ => (zK yz (pv 1) (zJ zy zE (hr.mono (by decide)) (zc (pv 2) (zc (pv 3) zg))))))
        (zu (xX (zO (WN K HU) (pv 7) (pv 5) (by with_unfolding_all rfl))
          (zu (vO (XH PySem.F.plainAttrs_list PySem.F.slot_list_append PySem.F.type_list_append uX (pv 5) (zc (pv 7) zg))))
          yg))))
      (zu (zH (ue (zc (pv 1) (zc (zA (J4 K HU) (by rfl) T.n_sorted boot_sorted (zc (pv 5) zg)) zg))))))))))), ?_⟩
    refine ⟨_, rfl, d, _, fp, rfl, DK, (by decide), (by decide), fun x1 H1 hx1 S1 => ⟨_, _, rfl, rfl, ?_⟩⟩
    refine ⟨_, rfl, d, _, fp, rfl, S1.dk, (by decide), (by decide), fun x2 H2 hx2 S2 => ⟨_, _, rfl, rfl, (by show 6 ≤ sizeLine; decide), fun l1 hl1 => ?_⟩⟩
    have S12 := S1.trans S2
    have f1 := S12.dk.fresh hl1
    have S3 := S12.new hl1 (o := .lst [.int (2 + (x1 : Int)), .int 2, .int 3, .int 10, .int 16, .int (2 + (x2 : Int))])
    refine ⟨_, rfl, d, _, fp, rfl, S3.dk, (by decide), (by decide), fun x3 H4 hx3 S4 => ?_⟩
    obtain ⟨b, hb, hb2, hb16⟩ : ∃ b : Nat, atI [V.int (2 + (x1 : Int)), V.int 2, V.int 3, V.int 10, V.int 16, V.int (2 + (x2 : Int))] (x3 : Int) = some (.int b) ∧ 2 ≤ b ∧ b ≤ 16 := by
      have h6 : x3 < 6 := by omega
      match x3, h6 with
      | 0, _ => exact ⟨2 + x1, rfl, by omega, by omega⟩
      | 1, _ => exact ⟨2, rfl, by omega, by omega⟩
      | 2, _ => exact ⟨3, rfl, by omega, by omega⟩
      | 3, _ => exact ⟨10, rfl, by omega, by omega⟩
      | 4, _ => exact ⟨16, rfl, by omega, by omega⟩
      | 5, _ => exact ⟨2 + x2, rfl, by omega, by omega⟩
    refine ⟨l1, _, _, _, rfl, rfl, SqL.of (S4.get f1 zf), hb, ?_⟩
    have S34 := S3.trans S4
    refine ⟨_, rfl, (by show 3 ≤ sizeLine; decide), fun l2 hl2 => ?_⟩
    have f2 := S34.dk.fresh hl2
    have S5 := S34.new hl2 (o := .lst [.int 2, .int 3, .int 16])
    refine ⟨_, rfl, d, _, fp, rfl, S5.dk, (by decide), (by decide), fun x4 H6 hx4 S6 => ?_⟩
    obtain ⟨m, hm, hm2⟩ : ∃ m : Nat, atI [V.int 2, V.int 3, V.int 16] (x4 : Int) = some (.int m) ∧ 2 ≤ m := by
      have h3 : x4 < 3 := by omega
      match x4, h3 with
      | 0, _ => exact ⟨2, rfl, by omega⟩
      | 1, _ => exact ⟨3, rfl, by omega⟩
      | 2, _ => exact ⟨16, rfl, by omega⟩
    refine ⟨l2, _, _, _, rfl, rfl, SqL.of (S6.get f2 zf), hm, _, _, rfl, ?_⟩
    obtain ⟨few, hfew, hfew1, hfew2⟩ : ∃ few : Nat, (if (m : Int) < (b : Int) then (m : Int) else (b : Int)) = (few : Int) ∧ 2 ≤ few ∧ few ≤ b := by
      by_cases z : m < b
      · exact ⟨m, by rw [if_pos (by omega)], by omega, by omega⟩
      · exact ⟨b, by rw [if_neg (by omega)], by omega, by omega⟩
    rw [hfew]
    have S56 := S5.trans S6
    refine ⟨_, rfl, _, rfl, _, rfl, _, _, rfl, rfl, _, _, rfl, rfl, d, _, fp, rfl, S56.dk, by omega, by omega, fun x5 H7 hx5 S7 => ?_⟩
    have S57 := S56.trans S7
    refine ⟨_, rfl, d, _, fp, rfl, S57.dk, (by decide), (by decide), fun x6 H8 hx6 S8 => ⟨_, _, rfl, rfl, (by show 4 ≤ sizeLine; decide), fun l3 hl3 => ?_⟩⟩
    have S58 := S57.trans S8
    have f3 := S58.dk.fresh hl3
    have S9 := S58.new hl3 (o := .lst [.int (1 + (x6 : Int)), .int 2, .int 3, .int 4])
    refine ⟨_, rfl, d, _, fp, rfl, S9.dk, (by decide), (by decide), fun x7 H10 hx7 S10 => ?_⟩
    obtain ⟨most, hmost, hmost1, hmost2⟩ : ∃ most : Nat, atI [V.int (1 + (x6 : Int)), V.int 2, V.int 3, V.int 4] (x7 : Int) = some (.int most) ∧ 1 ≤ most ∧ most ≤ 4 := by
      have h4 : x7 < 4 := by omega
      match x7, h4 with
      | 0, _ => exact ⟨1 + x6, rfl, by omega, by omega⟩
      | 1, _ => exact ⟨2, rfl, by omega, by omega⟩
      | 2, _ => exact ⟨3, rfl, by omega, by omega⟩
      | 3, _ => exact ⟨4, rfl, by omega, by omega⟩
    refine ⟨l3, _, _, _, rfl, rfl, SqL.of (S10.get f3 zf), hmost, ?_⟩
    have S910 := S9.trans S10
    refine ⟨(by decide : 0 ≤ sizeLine), fun bl hbl => ?_⟩
    have fbl := S910.dk.fresh hbl
    have S11 := S910.new hbl (o := .lst [])
    refine ⟨_, rfl, d, _, fp, rfl, S11.dk, (by decide), (by decide), fun x8 H12 hx8 S12' => ⟨(by show 4 ≤ sizeLine; decide), fun l4 hl4 => ?_⟩⟩
    have S112 := S11.trans S12'
    have f4 := S112.dk.fresh hl4
    have S13 := S112.new hl4 (o := .lst [.int x8, .int 4, .int 3, .int 1])
    refine ⟨_, rfl, d, _, fp, rfl, S13.dk, (by decide), (by decide), fun x9 H14 hx9 S14 => ?_⟩
    obtain ⟨N, hN, hN4⟩ : ∃ N : Nat, atI [V.int x8, V.int 4, V.int 3, V.int 1] (x9 : Int) = some (.int N) ∧ N ≤ 4 := by
      have h4 : x9 < 4 := by omega
      match x9, h4 with
      | 0, _ => exact ⟨x8, rfl, by omega⟩
      | 1, _ => exact ⟨4, rfl, by omega⟩
      | 2, _ => exact ⟨3, rfl, by omega⟩
      | 3, _ => exact ⟨1, rfl, by omega⟩
    have S1314 := S13.trans S14
    refine ⟨l4, _, _, _, rfl, rfl, SqL.of (S14.get f4 zf), hN, (N : Int), rfl, by omega, by omega, wF (lo := 0) (n := (N : Int).toNat) (fun i σ H15 => ∃ (v1 v2 : Option V) (zs : List (Addr × List Int)),
      σ = [some (.ref d), some (.int b), some (.int few), some (.int x5), some (.int most), some (.ref bl), v1, v2] ∧ zs.length ≤ i ∧ Deck H15 d fp ∧ H15 bl = some (.lst (zs.map fun z => V.ref z.1)) ∧ (∀ z ∈ zs, H15 z.1 = some (.lst (z.2.map V.int)) ∧ z.1 ∉ fp ∧ z.1 ≠ bl) ∧ (∀ l ∈ zs.map (·.2), Xo b l) ∧ (zs.map (·.2)).Nodup ∧ Same (aw (bl :: fp) H) (aw (bl :: fp) H15)) ⟨none, none, [], rfl, Nat.le_refl _, S1314.dk, ?_, (by simp), (by simp), (by simp), ?_⟩ ?_ ?_⟩
    · exact S14.get fbl (zj hl4 _ _ (S12'.get fbl zf))
    · exact Qc S1314
    · rintro i σ H15 hi ⟨v1, v2, zs, rfl, hzl, D15, hB, hZ, hG, nd, sm⟩
      refine ⟨_, rfl, _, rfl, d, _, fp, rfl, D15, by omega, by omega, fun y1 H16 hy1 S16 => ⟨_, _, rfl, rfl, (1 + (y1 : Int)), rfl, by omega, by omega, wC (lo := 0) (n := (1 + (y1 : Int)).toNat) (fun j ys Hc => Stp fp d H15 Hc ∧ ∃ ms : List Int, ys = ms.map V.int ∧ ms.length = j ∧ ∀ f ∈ ms, 0 ≤ f ∧ f < (b : Int)) ⟨S16, [], rfl, rfl, by simp⟩ ?_ ?_⟩⟩
      · rintro j ys Hc hj ⟨Sc, ms, rfl, hml, hmf⟩
        refine ⟨by rw [List.length_map, hml]; exact Nat.lt_of_lt_of_le (show j < 5 by omega) (by decide), ?_⟩
        unfold jf
        dsimp only
        rw [if_pos rfl]
        refine ⟨_, rfl, _, rfl, _, rfl, d, _, fp, rfl, Sc.dk, by omega, by omega, fun y2 H17 hy2 S17 => ⟨_, _, rfl, rfl, Sc.trans S17, ms ++ [(x5 : Int) + y2], by simp, by simp [hml], fun f hf => ?_⟩⟩
        rcases List.mem_append.mp hf with hf | hf
        · exact hmf f hf
        · have e : f = (x5 : Int) + y2 := by simpa using hf
          omega
      · rintro ys Hc ⟨Sc, ms, rfl, hml, hmf⟩ p hp
        have hBc := Sc.get fbl hB
        have nbp : bl ≠ p := zx hBc hp
        have hZc : ∀ z ∈ zs, Hc z.1 = some (.lst (z.2.map V.int)) := fun z hz => Sc.get (hZ z hz).2.1 (hZ z hz).1
        have fpp := Sc.dk.fresh hp
        refine ⟨_, rfl, _, rfl, bl, _, (zs.map (·.2)).map yt, yt ms, rfl, SqL.of (zj hp _ _ hBc), TrsAt.lists (fun z hz => zj hp _ _ (hZc z hz)), TrAt.ints (a := p) (SqL.of zf), Nat.le_trans (xF _) (by decide), _, rfl, ?_⟩
        have sm2 : Same (aw (bl :: fp) H) (aw (bl :: fp) (upd Hc p (.lst (ms.map V.int)))) := sm.trans ((Qc Sc).trans ((zj hp).aw _))
        have D18 := Sc.dk.upd fpp (o := .lst (ms.map V.int))
        rw [if_pos rfl, Zz]
        by_cases hin : ms ∈ zs.map (·.2)
        · rw [decide_eq_true hin]
          refine xT ?_
          exact ⟨_, _, zs, rfl, by omega, D18, zj hp _ _ hBc, fun z hz => ⟨zj hp _ _ (hZc z hz), (hZ z hz).2⟩, hG, nd, sm2⟩
        · rw [decide_eq_false hin]
          refine wO ?_
          refine ⟨_, rfl, .inl ⟨rfl, _, SqL.of (zj hp _ _ hBc)⟩, _, rfl, bl, _, _, rfl, rfl, zj hp _ _ hBc, by rw [List.length_map]; exact Nat.lt_of_le_of_lt (show zs.length ≤ 4 by omega) (by decide), ?_⟩
          refine ⟨_, _, zs ++ [(p, ms)], rfl, by rw [List.length_append, List.length_singleton]; omega, D18.upd fbl, by rw [zf]; simp, fun z hz => ?_, fun l hl => ?_, ?_, sm2.trans Wj⟩
          · rcases List.mem_append.mp hz with hz | hz
            · rw [zr (hZ z hz).2.2]
              exact ⟨zj hp _ _ (hZc z hz), (hZ z hz).2⟩
            · have e : z = (p, ms) := by simpa using hz
              subst e
              exact ⟨by rw [zr (Ne.symm nbp), zf], fpp, Ne.symm nbp⟩
          · rw [List.map_append] at hl
            rcases List.mem_append.mp hl with hl | hl
            · exact hG l hl
            · have e : l = ms := by simpa using hl
              subst e
              exact ⟨fun z => by rw [z] at hml; simp at hml; omega, by omega, hmf⟩
          · rw [List.map_append]
            refine List.nodup_append.mpr ⟨nd, by simp, fun x hx y hy => ?_⟩
            have e : y = ms := by simpa using hy
            rw [e]
            exact fun z => hin (z ▸ hx)
    · rintro σ H15 ⟨v1, v2, zs, rfl, hzl, D15, hB, hZ, hG, nd, sm⟩
      refine ⟨_, rfl, _, rfl, bl, zs, rfl, SqL.of hB, by omega, fun z hz => SqL.of (hZ z hz).1, nd, fun p zs' hp pm pw => ⟨(by show 2 ≤ sizeLine; decide), fun r hr => ?_⟩⟩
      have D16 := D15.same (zj hp (o := .lst (zs'.map fun z => V.ref z.1)))
      have npr : p ≠ r := fun z => by rw [← z, zf] at hr; cases hr
      refine kk r b p zs' _ ⟨D16.same (zj hr), fun c o e => ?_⟩ ⟨?_, ?_, fun z hz => ?_⟩ ⟨hb2, hb16, by rw [List.length_map, pm.length_eq]; omega, fun l hl => ?_, by rw [List.pairwise_map]; exact pw⟩
      · have hc : c ∉ fp := fun hc => by rw [Zr hc] at e; cases e
        have hcb : c ≠ bl := fun z => by
          rw [zV hc, z, S910.free hbl] at e; cases e
        have hc2 : c ∉ bl :: fp := fun z => by
          rcases List.mem_cons.mp z with z | z
          · exact hcb z
          · exact hc z
        rw [zV hc] at e ⊢
        have z := sm c o (by rw [zV hc2]; exact e)
        rw [zV hc2] at z
        exact zj hr _ _ (zj hp _ _ z)
      · rw [zV (D16.fresh hr), zf]
      · rw [zV (D15.fresh hp), zr npr, zf]
      · have hzm := pm.mem_iff.mp hz
        rw [zV (hZ z hzm).2.1]
        exact zj hr _ _ (zj hp _ _ (hZ z hzm).1)
      · obtain ⟨z, hz, rfl⟩ := List.mem_map.mp hl
        exact hG _ (List.mem_map.mpr ⟨z, pm.mem_iff.mp hz, rfl⟩)
end
theorem RuleAt.step {fp : List Addr} {d r bl : Addr} {H H' : Hp} {b : Nat} {zs : List (Addr × List Int)} (R : RuleAt (aw fp H) r b bl zs) (S : Stp fp d H H') : RuleAt (aw fp H') r b bl zs := R.same S.sm
section
variable {T : Addr}
theorem Deck.sameL {H H' : Hp} {d : Addr} {fp : List Addr} (D : Deck H d fp) (lt : LT T H) (s : SameL T H H') : Deck H' d fp := by
  obtain ⟨pp, qs, i, rfl, h1, h2, h3, h4, h5⟩ := D.ex
  exact ⟨pp, qs, i, rfl, s _ _ (lt.lst h1) h1, s _ _ (lt.lst h2) h2, h3, h4, fun q hq => by obtain ⟨x, y, z, e⟩ := h5 q hq; exact ⟨x, y, z, s _ _ (lt.lst e) e⟩⟩
theorem Deck.lst {H : Hp} {d : Addr} {fp : List Addr} (D : Deck H d fp) {b : Addr} (hb : b ∈ fp) : ∃ xs, H b = some (.lst xs) := by
  obtain ⟨pp, qs, i, rfl, h1, h2, h3, h4, h5⟩ := D.ex
  rcases List.mem_cons.mp hb with e | hb
  · rw [e]; exact ⟨_, h1⟩
  · rcases List.mem_cons.mp hb with e | hb
    · rw [e]; exact ⟨_, h2⟩
    · obtain ⟨x, y, z, e⟩ := h5 b hb
      exact ⟨_, e⟩
theorem LT.away {H : Hp} {d : Addr} {fp : List Addr} (h : LT T H) (D : Deck H d fp) : LT T (aw fp H) := by
  have out : ∀ b o, H b = some o → (∀ xs, o ≠ .lst xs) → aw fp H b = some o := fun b o e n => by
    rw [zV (fun hb => by
      obtain ⟨xs, q⟩ := D.lst hb
      rw [e] at q
      cases q
      exact n _ rfl)]
    exact e
  rcases h with h | ⟨c, h1, h2⟩
  · exact .inl (out _ _ h (fun xs z => by cases z))
  · exact .inr ⟨c, out _ _ h1 (fun xs z => by cases z), out _ _ h2 (fun xs z => by unfold Qp at z; cases z)⟩
theorem Stp.lt {H H' : Hp} {d : Addr} {fp : List Addr} (S : Stp fp d H H') (D : Deck H d fp) (h : LT T H) : LT T H' := ((h.away D).same S.sm).same (xf fp H')
theorem RuleAt.awL {fp : List Addr} {H H' : Hp} {r bl : Addr} {b : Nat} {zs : List (Addr × List Int)} (R : RuleAt (aw fp H) r b bl zs) (lt : LT T H) (s : SameL T H H') : RuleAt (aw fp H') r b bl zs := by
  have g : ∀ x o, x ≠ T → aw fp H x = some o → aw fp H' x = some o := fun x o hx e => by
    have hi : x ∉ fp := fun z => by rw [Zr z] at e; cases e
    rw [zV hi] at e ⊢
    exact s _ _ hx e
  have R0 := R.all
  exact ⟨g _ _ (lt.tup R0.tu) R.tu, g _ _ (lt.lst R0.li) R.li, fun z hz => g _ _ (lt.lst (R0.st z hz)) (R.st z hz)⟩
end
section
variable {P : Program} {w : World} {K : PySem.W.Frag} {mg : Str → Option Value} {base : Heap}
def uH : Sp := fun vs H Q _ => ∃ (d : Addr) (fp : List Addr), vs = [.ref d] ∧ Deck H d fp ∧ ∀ (m : Nat) (H' : Hp), 1 ≤ m → m ≤ 60 → Stp fp d H H' → Q (.int m) H'
theorem XX : zB ["deck"] ["deck"] (zq vq) := ⟨rfl, rfl, rfl, by decide +kernel, rfl, by decide +kernel, by decide +kernel⟩
theorem jR {f f1 : Addr} {fd fd1 : FuncData} (D : Df K mg "_law_lengths" vq ["deck"] f fd) (zy : Df K mg "_law_draw" wu ["deck", "many"] f1 fd1) (T : Blt mg) : FnOk P w K mg base CX0 2 f fd ["deck"] uH := by
  have zE : FnOk P w K mg base CX0 1 f1 fd1 ["deck", "many"] wD := vU zy T
  refine D.fn.ok XX (fun vs H Q E h => ?_) (fun cdv A outer s H vs Q E hr h => ?_)
  · obtain ⟨d, fp, rfl, _⟩ := h; rfl
  · obtain ⟨d, fp, rfl, DK, kk⟩ := h
    refine ⟨_, (zu (zH (zP (wL K) (zM (zc (zK yz zm (zJ zy zE (hr.mono (by decide)) (zc (pv 0) (zc zm zg)))) (zc (zK yz zm (zJ zy zE (hr.mono (by decide)) (zc (pv 0) (zc zm zg)))) (zc (zK yz zm (zJ zy zE (hr.mono (by decide)) (zc (pv 0) (zc zm zg)))) (zc zm (zc zm zg)))))) (zJ zy zE (hr.mono (by decide)) (zc (pv 0) (zc zm zg))) (fun _ _ => rfl)))), ?_⟩
    refine ⟨_, rfl, d, _, fp, rfl, DK, (by decide), (by decide), fun x1 H1 hx1 S1 => ⟨_, _, rfl, rfl, ?_⟩⟩
    refine ⟨_, rfl, d, _, fp, rfl, S1.dk, (by decide), (by decide), fun x2 H2 hx2 S2 => ⟨_, _, rfl, rfl, ?_⟩⟩
    refine ⟨_, rfl, d, _, fp, rfl, S2.dk, (by decide), (by decide), fun x3 H3 hx3 S3 => ⟨_, _, rfl, rfl, (by show 5 ≤ sizeLine; decide), fun l1 hl1 => ?_⟩⟩
    have f1 := S3.dk.fresh hl1
    have S4 := ((S1.trans S2).trans S3).new hl1 (o := .lst [.int (1 + (x1 : Int)), .int (1 + (x2 : Int)), .int (1 + (x3 : Int)), .int 60, .int 1])
    refine ⟨_, rfl, d, _, fp, rfl, S4.dk, (by decide), (by decide), fun x4 H5 hx4 S5 => ?_⟩
    obtain ⟨m, hm, hm1, hm2⟩ : ∃ m : Nat, atI [V.int (1 + (x1 : Int)), V.int (1 + (x2 : Int)), V.int (1 + (x3 : Int)), V.int 60, V.int 1] (x4 : Int) = some (.int m) ∧ 1 ≤ m ∧ m ≤ 60 := by
      have h5 : x4 < 5 := by omega
      match x4, h5 with
      | 0, _ => exact ⟨1 + x1, rfl, by omega, by omega⟩
      | 1, _ => exact ⟨1 + x2, rfl, by omega, by omega⟩
      | 2, _ => exact ⟨1 + x3, rfl, by omega, by omega⟩
      | 3, _ => exact ⟨60, rfl, by omega, by omega⟩
      | 4, _ => exact ⟨1, rfl, by omega, by omega⟩
    exact ⟨l1, _, _, _, rfl, rfl, SqL.of (S5.get f1 zf), hm, kk m H5 hm1 hm2 (S4.trans S5)⟩
def w6 : Sp := fun vs H Q _ => ∃ (d : Addr) (fp : List Addr), vs = [.ref d] ∧ Deck H d fp ∧
  ∀ (r : Addr) (b : Nat) (bl : Addr) (zs : List (Addr × List Int)) (H' : Hp), Stp fp d H H' → RuleAt (aw fp H') r b bl zs → yl b (zs.map (·.2)) → Q (.ref r) H'
theorem zbH {fp : List Addr} {bl : Addr} {H H' : Hp} (sm : Same (aw (bl :: fp) H) (aw (bl :: fp) H')) (hb : H bl = none) : Same (aw fp H) (aw fp H') := fun c o e => by
  have hc : c ∉ fp := fun hc => by rw [Zr hc] at e; cases e
  rw [zV hc] at e ⊢
  have hc2 : c ∉ bl :: fp := fun z => by
    rcases List.mem_cons.mp z with z | z
    · exact zx e hb z
    · exact hc z
  have z := sm c o (by rw [zV hc2]; exact e)
  rwa [zV hc2] at z
theorem zW : zB ["deck", "base", "bad", "k", "one"] ["deck"] (zq yw) := ⟨rfl, rfl, rfl, by decide +kernel, rfl, by decide +kernel, by decide +kernel⟩
set_option maxHeartbeats 0 in
theorem tK {f f1 : Addr} {fd fd1 : FuncData} (D : Df K mg "_law_tight_rule" yw ["deck"] f fd) (zy : Df K mg "_law_draw" wu ["deck", "many"] f1 fd1) (T : Blt mg) : FnOk P w K mg base CX0 2 f fd ["deck"] w6 := by
  have zE : FnOk P w K mg base CX0 1 f1 fd1 ["deck", "many"] wD := vU zy T
  refine D.fn.ok zW (fun vs H Q E h => ?_) (fun cdv A outer s H vs Q E hr h => ?_)
  · obtain ⟨d, fp, rfl, _⟩ := h; rfl
  · obtain ⟨d, fp, rfl, DK, kk⟩ := h
    have HU := Ww hr
    refine ⟨_, (zp (zF (i := 1) zW.nd rfl (Or.inr rfl) (zK yz zm (zJ zy zE (hr.mono (by decide)) (zc (pv 0) (zc zm zg)))))
      (zp (zF (i := 2) zW.nd rfl (Or.inl rfl) (zM zg))
      (zp (vY PassesOwn.never rfl (yp rfl T.n_range (zc zm zg)) (zY (i := 3) zW.nd rfl (Or.inl rfl))
        (zp (vg (i := 4) (show CScope (zq yw) _ "at" ["deck", "base", "bad", "k", "one"] ["deck", "base"] [0, 1] from ⟨rfl, by decide +kernel, by decide +kernel, rfl, by decide +kernel, rfl, by decide +kernel, by decide +kernel⟩) rfl zW.nd rfl (Or.inl rfl) (yp rfl T.n_range (zc (zP (wL K) (zM (zc (zK yz zm (zJ zy zE (hr.mono (by decide)) (zc (pv 0) (zc zm zg)))) (zc zm (zc zm zg)))) (zJ zy zE (hr.mono (by decide)) (zc (pv 0) (zc zm zg))) (fun _ _ => rfl)) zg)) (fun _ _ _ _ => yD) (fun _ _ _ _ => (zJ zy zE (hr.mono (by decide)) (zc (pv 1) (zc (pv 2) zg)))))
        (zu (xX (zO (WN K HU) (pv 4) (pv 2) (by with_unfolding_all rfl))
          (zu (vO (XH PySem.F.plainAttrs_list PySem.F.slot_list_append PySem.F.type_list_append uX (pv 2) (zc (pv 4) zg))))
          yg))))
      (zp (xX (zO ZX (zJ zy zE (hr.mono (by decide)) (zc (pv 0) (zc zm zg))) zm (zT _))
        (zp (zF (i := 1) zW.nd rfl (Or.inr rfl) (zK yz zm (zJ zy zE (hr.mono (by decide)) (zc (pv 0) (zc zm zg)))))
        (zp (vg (i := 2) (show CScope (zq yw) _ "figure" ["deck", "base", "bad", "k", "one"] [] [] from ⟨rfl, by decide +kernel, by decide +kernel, rfl, by decide +kernel, rfl, by decide +kernel, by decide +kernel⟩) rfl zW.nd rfl (Or.inl rfl) (V9 rfl T.n_range (zc zm (zc (pv 1) zg))) (fun _ _ _ _ => yD) (fun _ _ _ _ => (zM (zc (pv 0) zg))))
        (zu (xX (zO ZX (zJ zy zE (hr.mono (by decide)) (zc (pv 0) (zc zm zg))) zm (zT _))
          (zu (zF (i := 2) zW.nd rfl (Or.inl rfl) (zK Xi (wk (Zt K) (pv 2) (wX zm) uv) (zM (zc (zM (zc zm zg)) zg)))))
          yg))))
        yg)
      (zu (zH (ue (zc (pv 1) (zc (zA (J4 K HU) (by rfl) T.n_sorted boot_sorted (zc (pv 2) zg)) zg))))))))), ?_⟩
    refine ⟨_, rfl, d, _, fp, rfl, DK, (by decide), (by decide), fun x1 H1 hx1 S1 => ⟨_, _, rfl, rfl, ?_⟩⟩
    obtain ⟨b, hb, hb2, hb3⟩ : ∃ b : Nat, (2 + (x1 : Int)) = (b : Int) ∧ 2 ≤ b ∧ b ≤ 3 := ⟨2 + x1, by omega, by omega, by omega⟩
    dsimp only
    rw [hb]
    refine ⟨(by decide : 0 ≤ sizeLine), fun bl hbl => ?_⟩
    have fbl := S1.dk.fresh hbl
    have blH := S1.free hbl
    have S2 := S1.new hbl (o := .lst [])
    refine ⟨4, rfl, by decide, by decide, wF (lo := 0) (n := 4) (fun i σ H15 => ∃ (v1 v2 : Option V) (zs : List (Addr × List Int)),
      σ = [some (.ref d), some (.int b), some (.ref bl), v1, v2] ∧ zs.length ≤ i ∧ Deck H15 d fp ∧ H15 bl = some (.lst (zs.map fun z => V.ref z.1)) ∧ (∀ z ∈ zs, H15 z.1 = some (.lst (z.2.map V.int)) ∧ z.1 ∉ fp ∧ z.1 ≠ bl) ∧ (∀ l ∈ zs.map (·.2), Xo b l) ∧ (zs.map (·.2)).Nodup ∧ Same (aw (bl :: fp) H) (aw (bl :: fp) H15)) ⟨none, none, [], rfl, Nat.le_refl _, S2.dk, zf, (by simp), (by simp), (by simp), Qc S2⟩ ?_ ?_⟩
    · rintro i σ H15 hi ⟨v1, v2, zs, rfl, hzl, D15, hB, hZ, hG, nd, sm⟩
      refine ⟨_, rfl, d, _, fp, rfl, D15, by decide, by decide, fun y1 H16 hy1 S16 => ⟨_, _, rfl, rfl, (by show 3 ≤ sizeLine; decide), fun l4 hl4 => ?_⟩⟩
      have f4 := S16.dk.fresh hl4
      have S17 := S16.new hl4 (o := .lst [.int (1 + (y1 : Int)), .int 2, .int 3])
      refine ⟨_, rfl, d, _, fp, rfl, S17.dk, by decide, by decide, fun y2 H18 hy2 S18 => ?_⟩
      obtain ⟨N, hN, hN1, hN3⟩ : ∃ N : Nat, atI [V.int (1 + (y1 : Int)), V.int 2, V.int 3] (y2 : Int) = some (.int N) ∧ 1 ≤ N ∧ N ≤ 3 := by
        have h3 : y2 < 3 := by omega
        match y2, h3 with
        | 0, _ => exact ⟨1 + y1, rfl, by omega, by omega⟩
        | 1, _ => exact ⟨2, rfl, by omega, by omega⟩
        | 2, _ => exact ⟨3, rfl, by omega, by omega⟩
      refine ⟨l4, _, _, _, rfl, rfl, SqL.of (S18.get f4 zf), hN, (N : Int), rfl, by omega, by omega, wC (lo := 0) (n := (N : Int).toNat) (fun j ys Hc => Stp fp d H15 Hc ∧ ∃ ms : List Int, ys = ms.map V.int ∧ ms.length = j ∧ ∀ f ∈ ms, 0 ≤ f ∧ f < (b : Int)) ⟨S17.trans S18, [], rfl, rfl, by simp⟩ ?_ ?_⟩
      · rintro j ys Hc hj ⟨Sc, ms, rfl, hml, hmf⟩
        refine ⟨by rw [List.length_map, hml]; exact Nat.lt_of_lt_of_le (show j < 5 by omega) (by decide), ?_⟩
        unfold jf
        dsimp only
        rw [if_pos rfl]
        refine ⟨_, rfl, _, rfl, d, _, fp, rfl, Sc.dk, by omega, by omega, fun y3 H19 hy3 S19 => ⟨Sc.trans S19, ms ++ [(y3 : Int)], by simp, by simp [hml], fun f hf => ?_⟩⟩
        rcases List.mem_append.mp hf with hf | hf
        · exact hmf f hf
        · have e : f = (y3 : Int) := by simpa using hf
          omega
      · rintro ys Hc ⟨Sc, ms, rfl, hml, hmf⟩ p hp
        have hBc := Sc.get fbl hB
        have nbp : bl ≠ p := zx hBc hp
        have hZc : ∀ z ∈ zs, Hc z.1 = some (.lst (z.2.map V.int)) := fun z hz => Sc.get (hZ z hz).2.1 (hZ z hz).1
        have fpp := Sc.dk.fresh hp
        refine ⟨_, rfl, _, rfl, bl, _, (zs.map (·.2)).map yt, yt ms, rfl, SqL.of (zj hp _ _ hBc), TrsAt.lists (fun z hz => zj hp _ _ (hZc z hz)), TrAt.ints (a := p) (SqL.of zf), Nat.le_trans (xF _) (by decide), _, rfl, ?_⟩
        have sm2 : Same (aw (bl :: fp) H) (aw (bl :: fp) (upd Hc p (.lst (ms.map V.int)))) := sm.trans ((Qc Sc).trans ((zj hp).aw _))
        have D18 := Sc.dk.upd fpp (o := .lst (ms.map V.int))
        rw [if_pos rfl, Zz]
        by_cases hin : ms ∈ zs.map (·.2)
        · rw [decide_eq_true hin]
          refine xT ?_
          exact ⟨_, _, zs, rfl, by omega, D18, zj hp _ _ hBc, fun z hz => ⟨zj hp _ _ (hZc z hz), (hZ z hz).2⟩, hG, nd, sm2⟩
        · rw [decide_eq_false hin]
          refine wO ?_
          refine ⟨_, rfl, .inl ⟨rfl, _, SqL.of (zj hp _ _ hBc)⟩, _, rfl, bl, _, _, rfl, rfl, zj hp _ _ hBc, by rw [List.length_map]; exact Nat.lt_of_le_of_lt (show zs.length ≤ 4 by omega) (by decide), ?_⟩
          refine ⟨_, _, zs ++ [(p, ms)], rfl, by rw [List.length_append, List.length_singleton]; omega, D18.upd fbl, by rw [zf]; simp, fun z hz => ?_, fun l hl => ?_, ?_, sm2.trans Wj⟩
          · rcases List.mem_append.mp hz with hz | hz
            · rw [zr (hZ z hz).2.2]
              exact ⟨zj hp _ _ (hZc z hz), (hZ z hz).2⟩
            · have e : z = (p, ms) := by simpa using hz
              subst e
              exact ⟨by rw [zr (Ne.symm nbp), zf], fpp, Ne.symm nbp⟩
          · rw [List.map_append] at hl
            rcases List.mem_append.mp hl with hl | hl
            · exact hG l hl
            · have e : l = ms := by simpa using hl
              subst e
              exact ⟨fun z => by rw [z] at hml; simp at hml; omega, by omega, hmf⟩
          · rw [List.map_append]
            refine List.nodup_append.mpr ⟨nd, by simp, fun x hx y hy => ?_⟩
            have e : y = ms := by simpa using hy
            rw [e]
            exact fun z => hin (z ▸ hx)
    rintro σ H15 ⟨v1, v2, zs0, rfl, hzl, D15, hB, hZ, hG, nd, sm⟩
    have sm0 := zbH sm blH
    dsimp only [zaS]
    refine (?key : ∀ D : Ends, (∀ (b : Nat) (bl : Addr) (zs : List (Addr × List Int)) (H2 : Hp) (v3 v4 : Option V), 2 ≤ b → b ≤ 16 → zs.length ≤ 4 → Deck H2 d fp → H2 bl = some (.lst (zs.map fun z => V.ref z.1)) → (∀ z ∈ zs, H2 z.1 = some (.lst (z.2.map V.int)) ∧ z.1 ∉ fp) → (∀ l ∈ zs.map (·.2), Xo b l) → (zs.map (·.2)).Nodup → Same (aw fp H) (aw fp H2) → D.nx [some (.ref d), some (.int b), some (.ref bl), v3, v4] H2) → (zds _ _ _) D _ H15) _ ?_
    · intro D hnx
      refine ⟨_, rfl, d, _, fp, rfl, D15, by decide, by decide, fun x6 H16 hx6 S16 => ⟨rfl, _, rfl, ?_⟩⟩
      refine X6 (fun _ => ?_) (fun _ => ?_)
      · refine ⟨_, rfl, d, _, fp, rfl, S16.dk, by decide, by decide, fun x7 H17 hx7 S17 => ⟨_, _, rfl, rfl, ?_⟩⟩
        obtain ⟨c, hc, hc2, hc5⟩ : ∃ c : Nat, (2 + (x7 : Int)) = (c : Int) ∧ 2 ≤ c ∧ c ≤ 5 := ⟨2 + x7, by omega, by omega, by omega⟩
        dsimp only
        rw [hc]
        refine ⟨_, rfl, 1, (c : Int), rfl, ⟨by omega, by omega, by omega, by omega⟩, wC (lo := 1) (n := ((c : Int) - 1).toNat) (fun j ys Hc => Stp fp d H15 Hc ∧ ∃ zs : List (Addr × List Int), ys = (zs.map fun z => V.ref z.1) ∧ zs.map (·.2) = (List.range j).map (fun (i : Nat) => [(i : Int) + 1]) ∧ ∀ z ∈ zs, Hc z.1 = some (.lst (z.2.map V.int)) ∧ z.1 ∉ fp) ⟨S16.trans S17, [], rfl, rfl, by simp⟩ ?_ ?_⟩
        · rintro j ys Hc hj ⟨Sc, zs, rfl, hzs, hz⟩
          have hzl : zs.length = j := by have := congrArg List.length hzs; rwa [List.length_map, List.length_map, List.length_range] at this
          refine ⟨by rw [List.length_map, hzl]; exact Nat.lt_of_lt_of_le (show j < 5 by omega) (by decide), ?_⟩
          unfold jf
          dsimp only
          rw [if_pos rfl]
          refine ⟨_, rfl, (by show 1 ≤ sizeLine; decide), fun p hp => ⟨Sc.new hp, zs ++ [(p, [(j : Int) + 1])], by simp, ?_, fun z hzm => ?_⟩⟩
          · rw [List.map_append, hzs, List.range_succ, List.map_append]; rfl
          · rcases List.mem_append.mp hzm with hzm | hzm
            · exact ⟨zj hp _ _ (hz z hzm).1, (hz z hzm).2⟩
            · have e : z = (p, [(j : Int) + 1]) := by simpa using hzm
              subst e
              exact ⟨by rw [zf, show (1 : Int) + (j : Int) = (j : Int) + 1 by omega]; rfl, Sc.dk.fresh hp⟩
        · rintro ys Hc ⟨Sc, zs, rfl, hzs, hz⟩ q hq
          have fq := Sc.dk.fresh hq
          have Sq := Sc.new hq (o := .lst (zs.map fun z => V.ref z.1))
          have hq1 : upd Hc q (.lst (zs.map fun z => V.ref z.1)) q = some (.lst (zs.map fun z => V.ref z.1)) := zf
          have hzq : ∀ z ∈ zs, upd Hc q (.lst (zs.map fun z => V.ref z.1)) z.1 = some (.lst (z.2.map V.int)) ∧ z.1 ∉ fp := fun z hm => ⟨zj hq _ _ (hz z hm).1, (hz z hm).2⟩
          generalize upd Hc q (.lst (zs.map fun z => V.ref z.1)) = Hq at Sq hq1 hzq
          have hcn : ((c : Int) - 1).toNat = c - 1 := by omega
          rw [hcn] at hzs
          have hzl : zs.length = c - 1 := by have := congrArg List.length hzs; rwa [List.length_map, List.length_map, List.length_range] at this
          have gst : ∀ l ∈ zs.map (·.2), Xo c l ∧ l ≠ [0] := fun l hl => by
            rw [hzs] at hl
            obtain ⟨i, hi, rfl⟩ := List.mem_map.mp hl
            have hi := List.mem_range.mp hi
            refine ⟨⟨by simp, (by show 1 ≤ 4; decide), fun f hf => ?_⟩, fun z => ?_⟩
            · have e : f = (i : Int) + 1 := by simpa using hf
              omega
            · injection z with z; omega
          have ndz : (zs.map (·.2)).Nodup := by
            rw [hzs]
            refine List.Pairwise.map _ (fun i j hij => ?_) (List.nodup_range (n := c - 1))
            intro z; injection z with z; omega
          refine ⟨_, rfl, d, _, fp, rfl, Sq.dk, by decide, by decide, fun x8 H18 hx8 S18 => ⟨rfl, _, rfl, ?_⟩⟩
          have hq8 := S18.get fq hq1
          have hz8 : ∀ z ∈ zs, H18 z.1 = some (.lst (z.2.map V.int)) ∧ z.1 ∉ fp := fun z hm => ⟨S18.get (hzq z hm).2 (hzq z hm).1, (hzq z hm).2⟩
          have S8 := Sq.trans S18
          have D8 := S8.dk
          refine X6 (fun _ => ?_) (fun _ => ?_)
          · refine ⟨_, rfl, _, rfl, q, _, rfl, SqL.of hq8, fun q2 k2 => ?_⟩
            rw [show jc (zs.map fun z => V.ref z.1) (some 1) none = (zs.map fun z => V.ref z.1).drop 1 from uc _ 1]
            refine ⟨(by show 1 ≤ sizeLine; decide), fun q3 k3 => ⟨(by show 1 ≤ sizeLine; decide), fun q4 k4 => ?_⟩⟩
            have t3 := (zj k3 (o := .lst [V.int 0])).trans (zj k4 (o := .lst [V.ref q3]))
            have t4 := (zj k2 (o := .lst ((zs.map fun z => V.ref z.1).drop 1))).trans t3
            refine ⟨q2, q4, _, _, rfl, rfl, t3 _ _ zf, zf, ?_, fun q5 k5 => ?_⟩
            · rw [List.length_drop, List.length_map, hzl]
              exact Nat.le_trans (show c - 1 - 1 + 1 ≤ 10 by omega) (by decide)
            have t5 := t4.trans (zj k5 (o := .lst ((zs.map fun z => V.ref z.1).drop 1 ++ [V.ref q3])))
            have D9 := D8.same (zj k2 (o := .lst ((zs.map fun z => V.ref z.1).drop 1)))
            have S9 := S8.trans (.of D8 t5)
            have h3 := zj k5 (o := .lst ((zs.map fun z => V.ref z.1).drop 1 ++ [V.ref q3])) _ _ (zj k4 (o := .lst [V.ref q3]) _ _ (zf (H := upd H18 q2 (.lst ((zs.map fun z => V.ref z.1).drop 1))) (a := q3) (o := .lst [V.int 0])))
            refine hnx c q5 (zs.drop 1 ++ [(q3, [0])]) _ _ _ (by omega) (by omega) (by rw [List.length_append, List.length_drop, hzl]; simp; omega) S9.dk (by rw [zf, List.map_append, List.map_drop]; rfl) (fun z hm => ?_) (fun l hl => ?_) ?_ (sm0.trans S9.sm)
            · rcases List.mem_append.mp hm with hm | hm
              · have hm := List.mem_of_mem_drop hm
                exact ⟨t5 _ _ (hz8 z hm).1, (hz8 z hm).2⟩
              · have e : z = (q3, [0]) := by simpa using hm
                subst e
                exact ⟨h3, D9.fresh k3⟩
            · rw [List.map_append] at hl
              rcases List.mem_append.mp hl with hl | hl
              · obtain ⟨z, hm, rfl⟩ := List.mem_map.mp hl
                exact (gst _ (List.mem_map.mpr ⟨z, List.mem_of_mem_drop hm, rfl⟩)).1
              · have e : l = [0] := by simpa using hl
                subst e
                exact ⟨by simp, (by show 1 ≤ 4; decide), fun f hf => by
                  have e : f = 0 := by simpa using hf
                  omega⟩
            · rw [List.map_append, List.map_drop]
              refine List.nodup_append.mpr ⟨ndz.sublist (List.drop_sublist _ _), by simp, fun x hx y hy => ?_⟩
              have e : y = [0] := by simpa using hy
              rw [e]
              exact (gst x (List.mem_of_mem_drop hx)).2
          · exact hnx c q zs _ _ _ (by omega) (by omega) (by omega) D8 hq8 hz8 (fun l hl => (gst l hl).1) ndz (sm0.trans S8.sm)
      · exact hnx b bl zs0 _ _ _ hb2 (by omega) (by omega) S16.dk (S16.get fbl hB) (fun z hz => ⟨S16.get (hZ z hz).2.1 (hZ z hz).1, (hZ z hz).2.1⟩) hG nd (sm0.trans S16.sm)
    · intro b bl zs H2 v3 v4 hb2 hb16 hzl D2 hB hZ hG nd sm
      refine ⟨_, rfl, _, rfl, bl, zs, rfl, SqL.of hB, by omega, fun z hz => SqL.of (hZ z hz).1, nd, fun p zs' hp pm pw => ⟨(by show 2 ≤ sizeLine; decide), fun r hr => ?_⟩⟩
      have D16 := D2.same (zj hp (o := .lst (zs'.map fun z => V.ref z.1)))
      have npr : p ≠ r := fun z => by rw [← z, zf] at hr; cases hr
      have t2 := (zj hp (o := .lst (zs'.map fun z => V.ref z.1))).trans (zj hr (o := .tup [V.int b, V.ref p]))
      refine kk r b p zs' _ ⟨D16.same (zj hr), sm.trans (t2.aw fp)⟩ ⟨?_, ?_, fun z hz => ?_⟩ ⟨hb2, hb16, by rw [List.length_map, pm.length_eq]; omega, fun l hl => ?_, by rw [List.pairwise_map]; exact pw⟩
      · rw [zV (D16.fresh hr), zf]
      · rw [zV (D2.fresh hp), zr npr, zf]
      · have hzm := pm.mem_iff.mp hz
        rw [zV (hZ z hzm).2]
        exact t2 _ _ (hZ z hzm).1
      · obtain ⟨z, hz, rfl⟩ := List.mem_map.mp hl
        exact hG _ (List.mem_map.mpr ⟨z, pm.mem_iff.mp hz, rfl⟩)
end
theorem zd4 {ls : List (List Int)} {b m : Nat} : low ls b m = many (gd ls b) (JC b m) := by
  unfold low JC
  split
  · rfl
  · rfl
theorem zaq (ls : List (List Int)) (x : List Int) (n : Nat) : (ye ls x n).Pairwise fun p q => p.1 < q.1 := by
  induction n with
  | zero => exact List.Pairwise.nil
  | succ n ih =>
    rw [qD, List.pairwise_append]
    refine ⟨ih, ?_, fun p hp q hq => ?_⟩
    · cases aft ls x (n : Int) with
      | none => exact List.Pairwise.nil
      | some y => exact List.pairwise_singleton _ _
    · have h1 := (qe hp).1
      cases h : aft ls x (n : Int) with
      | none => rw [h] at hq; cases hq
      | some y => rw [h] at hq; rw [List.mem_singleton.mp hq]; exact h1
theorem JD {ls : List (List Int)} {x y : List Int} {n c : Nat} (hc : c < n) (h : aft ls x (c : Int) = some y) : (c, y) ∈ ye ls x n := List.mem_filterMap.mpr ⟨c, List.mem_range.mpr hc, by rw [h]; rfl⟩
def Uz (ls : List (List Int)) (b t : Nat) (x : List Int) (c : Nat) : Nat := match aft ls x (c : Int) with | some y => cnt ls b t y | none => 0
def Stg (ls : List (List Int)) (b m n t : Nat) (x : List Int) : Prop := (n = 0 ∧ x = [] ∧ t + 1 = m) ∨ (1 ≤ n ∧ gd ls b n = true ∧ x = zG ls (yZ b n) ∧ JC b m ≤ n * b ^ (t + 1) ∧ (n + 1) * b ^ (t + 1) ≤ b ^ m)
def allow (n m c : Nat) : Prop := 1 ≤ n ∨ 0 < c ∨ m = 1
theorem Va {ls : List (List Int)} (ne : ∀ l ∈ ls, l ≠ []) {b m n t : Nat} {x : List Int} (h2 : 2 ≤ b) (S : Stg ls b m n t x) {c : Nat} (hc : c < b) (ha : allow n m c) : Uz ls b t x c = many (fun r => gd ls b ((n * b + c) * b ^ t + r)) (b ^ t) := by
  rcases S with ⟨rfl, rfl, hm⟩ | ⟨h1, hg, rfl, _⟩
  · rw [← Yg ne h2 (.inl ⟨rfl, rfl⟩) t hc]
    unfold Uz aft
    by_cases hz : c = 0
    · subst hz
      have hm1 : m = 1 := by rcases ha with h | h | h <;> omega
      have ht : t = 0 := by omega
      subst ht
      show (match (if lacks ls [((0 : Nat) : Int)] = true then some _ else none) with | some y => cnt ls b 0 y | none => 0) = if lacks ls [0] = true then 1 else 0
      by_cases hl : lacks ls [((0 : Nat) : Int)] = true
      · rw [if_pos hl, if_pos (show lacks ls [0] = true from hl)]; rfl
      · rw [if_neg hl, if_neg (show ¬ lacks ls [0] = true from hl)]
    · show (match (if lacks ls [(c : Int)] = true then some (zG ls [(c : Int)]) else none) with | some y => cnt ls b t y | none => 0) = if c = 0 then _ else if lacks ls [(c : Int)] = true then cnt ls b t (zG ls [(c : Int)]) else 0
      rw [if_neg hz]
      by_cases hl : lacks ls [(c : Int)] = true
      · rw [if_pos hl, if_pos hl]
      · rw [if_neg hl, if_neg hl]
  · rw [← Yg ne h2 (.inr ⟨h1, hg, rfl⟩) t hc]
    unfold Uz aft
    show _ = if lacks ls (zG ls (yZ b n) ++ [(c : Int)]) = true then cnt ls b t (zG ls (zG ls (yZ b n) ++ [(c : Int)])) else 0
    by_cases hl : lacks ls (zG ls (yZ b n) ++ [(c : Int)]) = true
    · rw [if_pos hl, if_pos hl]
    · rw [if_neg hl, if_neg hl]
theorem zaE {ls : List (List Int)} (ne : ∀ l ∈ ls, l ≠ []) {b m n t : Nat} {x y : List Int} (h2 : 2 ≤ b) (S : Stg ls b m n t x) {c : Nat} (hc : c < b) (h : aft ls x (c : Int) = some y) : gd ls b (n * b + c) = true ∧ y = zG ls (yZ b (n * b + c)) := by
  obtain ⟨h1, h3, _⟩ := Qv ne h
  unfold gd
  rcases S with ⟨rfl, rfl, _⟩ | ⟨hn, hg, rfl, _⟩
  · rw [Nat.zero_mul, Nat.zero_add, jq hc]
    exact ⟨h1, h3⟩
  · rw [wy h2 hn hc]
    have hl : lacks ls (yZ b n) = true := hg
    rw [qd ne _ hl] at h1
    exact ⟨h1, by rw [h3, tW]⟩
theorem Zc {p : Nat → Bool} {B : Nat} (n : Nat) : ∀ {c0 c : Nat}, c0 ≤ c → (∀ c', c0 ≤ c' → c' < c → many (fun r => p ((n + c') * B + r)) B = 0) → many p ((n + c) * B) = many p ((n + c0) * B)
  | c0, c, h, q => by
    obtain ⟨k, rfl⟩ := Nat.exists_eq_add_of_le h
    induction k with
    | zero => rfl
    | succ k ih =>
      rw [← ih (by omega) fun c' h1 h2 => q c' h1 (by omega), show (n + (c0 + (k + 1))) * B = (n + (c0 + k)) * B + B by rw [show n + (c0 + (k + 1)) = n + (c0 + k) + 1 by omega, Nat.succ_mul], tG, q (c0 + k) (by omega) (by omega), Nat.add_zero]
def Ja (ls : List (List Int)) (b m n T last : Nat) : Prop := (last = 0 → many (gd ls b) (n * b ^ T) = low ls b m) ∧ (last = 1 → many (gd ls b) ((n + 1) * b ^ T) = many (gd ls b) (b ^ m))
def Za (n m : Nat) : Nat := if n = 0 ∧ m ≠ 1 then 1 else 0
theorem uU {n m c : Nat} (h : Za n m ≤ c) : allow n m c := by
  unfold Za at h
  unfold allow
  split at h <;> omega
theorem V5 {ls : List (List Int)} {b m n t : Nat} {x : List Int} (hm : 1 ≤ m) (S : Stg ls b m n t x) (h0 : n ≠ 0 → many (gd ls b) (n * b ^ (t + 1)) = low ls b m) : many (gd ls b) ((n * b + Za n m) * b ^ t) = low ls b m := by
  unfold Za
  rcases S with ⟨rfl, rfl, hmt⟩ | ⟨h1, _⟩
  · by_cases hm1 : m = 1
    · rw [if_neg (by omega), Nat.zero_mul, Nat.zero_add, Nat.zero_mul]
      unfold low
      rw [if_pos hm1]
      rfl
    · rw [if_pos ⟨rfl, hm1⟩, Nat.zero_mul, Nat.zero_add, Nat.one_mul]
      unfold low
      rw [if_neg hm1, show t = m - 1 by omega]
  · rw [if_neg (by omega), Nat.add_zero, Nat.mul_assoc, Nat.mul_comm b, ← Nat.pow_succ]
    exact h0 (by omega)
theorem Xv : ∀ n : Nat, ((List.range n).map fun _ => 0).sum = 0
  | 0 => rfl
  | n + 1 => by rw [List.range_succ, List.map_append, List.sum_append, Xv n]; rfl
theorem zam {ls : List (List Int)} (ne : ∀ l ∈ ls, l ≠ []) {b m n t : Nat} {x : List Int} (h2 : 2 ≤ b) (hm : 1 ≤ m) (S : Stg ls b m n t x) (hpos : n ≠ 0 → 0 < cnt ls b (t + 1) x) (hz : ∀ c, c < b → allow n m c → Uz ls b t x c = 0) : many (gd ls b) (b ^ m) = low ls b m := by
  by_cases hn : n = 0
  · subst hn
    have e := V5 hm S (fun h => absurd rfl h)
    have hmt : t + 1 = m := by rcases S with ⟨_, _, h⟩ | ⟨h, _⟩ <;> omega
    rw [← e, ← Zc (p := gd ls b) (B := b ^ t) (0 * b) (c0 := Za 0 m) (c := b) (by unfold Za; split <;> omega) fun c' h1 h3 => by rw [← Va ne h2 S h3 (uU h1)]; exact hz c' h3 (uU h1), Nat.zero_mul, Nat.zero_add, ← hmt, Nat.pow_succ, Nat.mul_comm]
  · exfalso
    have h1 := hpos hn
    have : cnt ls b (t + 1) x = 0 := by
      have e : ((List.range b).map fun (c : Nat) => if lacks ls (x ++ [(c : Int)]) = true then cnt ls b t (zG ls (x ++ [(c : Int)])) else 0) = (List.range b).map fun _ => 0 := List.map_congr_left fun c hc => by
        have q := hz c (List.mem_range.mp hc) (.inl (by omega))
        unfold Uz aft at q
        by_cases hl : lacks ls (x ++ [(c : Int)]) = true
        · rw [if_pos hl] at q ⊢; exact q
        · rw [if_neg hl]
      show ((List.range b).map fun (c : Nat) => if lacks ls (x ++ [(c : Int)]) = true then cnt ls b t (zG ls (x ++ [(c : Int)])) else 0).sum = 0
      rw [e, Xv]
    omega
theorem zaV {ls : List (List Int)} (ne : ∀ l ∈ ls, l ≠ []) {b m n t last : Nat} {x y : List Int} (h2 : 2 ≤ b) (hm : 1 ≤ m) (S : Stg ls b m n t x) (hE : n ≠ 0 → Ja ls b m n (t + 1) last) {c : Nat} (hc : c < b) (ha : allow n m c) (h : aft ls x (c : Int) = some y) (hp : 0 < cnt ls b t y)
    (hlo : last = 0 → ∀ c', c' < c → allow n m c' → Uz ls b t x c' = 0) (hhi : last = 1 → ∀ c', c < c' → c' < b → Uz ls b t x c' = 0) :
    gd ls b (n * b + c) = true ∧ y = zG ls (yZ b (n * b + c)) ∧ Ja ls b m (n * b + c) t last ∧ JC b m ≤ (n * b + c) * b ^ t ∧ (n * b + c + 1) * b ^ t ≤ b ^ m ∧ (0 < t → 1 ≤ n * b + c) := by
  obtain ⟨g1, g2⟩ := zaE ne h2 S hc h
  have hbt : 0 < b ^ t := Nat.pow_pos (by omega)
  refine ⟨g1, g2, ⟨fun h0 => ?_, fun h0 => ?_⟩, ?_, ?_, ?_⟩
  · rw [← V5 hm S fun hn => (hE hn).1 h0]
    have hf : Za n m ≤ c := by unfold Za; unfold allow at ha; split <;> omega
    exact Zc (n * b) hf fun c' h1 h3 => by rw [← Va ne h2 S (by omega) (uU h1)]; exact hlo h0 c' h3 (uU h1)
  · have e := Zc (p := gd ls b) (B := b ^ t) (n * b) (c0 := c + 1) (c := b) (by omega) fun c' h1 h3 => by rw [← Va ne h2 S h3 (.inr (.inl (by omega)))]; exact hhi h0 c' (by omega) h3
    rw [Nat.add_assoc, ← e, show (n * b + b) * b ^ t = (n + 1) * b ^ (t + 1) by rw [← Nat.succ_mul, Nat.mul_assoc, Nat.mul_comm b, ← Nat.pow_succ]]
    by_cases hn : n = 0
    · subst hn
      have hmt : t + 1 = m := by rcases S with ⟨_, _, h⟩ | ⟨h, _⟩ <;> omega
      rw [hmt, Nat.zero_add, Nat.one_mul]
    · exact (hE hn).2 h0
  · rcases S with ⟨rfl, _, hmt⟩ | ⟨_, _, _, h5, _⟩
    · unfold JC
      by_cases hm1 : m = 1
      · rw [if_pos hm1]; exact Nat.zero_le _
      · rw [if_neg hm1, Nat.zero_mul, Nat.zero_add, show m - 1 = t by omega]
        have hc1 : 1 ≤ c := by rcases ha with h | h | h <;> omega
        exact Nat.le_trans (by rw [Nat.one_mul]; exact Nat.le_refl _) (Nat.mul_le_mul_right (b ^ t) hc1)
    · refine Nat.le_trans h5 ?_
      rw [Nat.pow_succ, Nat.mul_comm (b ^ t), ← Nat.mul_assoc]
      exact Nat.mul_le_mul_right _ (by omega)
  · have h7 : (n * b + c + 1) * b ^ t ≤ (n + 1) * b ^ (t + 1) := by
      rw [Nat.pow_succ, Nat.mul_comm (b ^ t), ← Nat.mul_assoc]
      refine Nat.mul_le_mul_right _ ?_
      rw [Nat.succ_mul]
      omega
    rcases S with ⟨rfl, _, hmt⟩ | ⟨_, _, _, _, h6⟩
    · rw [hmt, Nat.zero_add, Nat.one_mul] at h7
      exact h7
    · exact Nat.le_trans h7 h6
  · intro ht
    rcases S with ⟨rfl, _, hmt⟩ | ⟨h5, _⟩
    · rcases ha with h | h | h <;> omega
    · have : 1 * b ≤ n * b := Nat.mul_le_mul_right b h5
      omega
theorem zbS {ls : List (List Int)} {b m g last : Nat} (h : gd ls b g = true) (hE : Ja ls b m g 0 last) (h1 : JC b m ≤ g) (h3 : g + 1 ≤ b ^ m) : (last = 0 → LeastL ls b m (.int g)) ∧ (last = 1 → GreatestL ls b m (.int g)) := by
  obtain ⟨e1, e2⟩ := hE
  rw [Nat.pow_zero, Nat.mul_one] at e1 e2
  refine ⟨fun h0 => .inr ⟨g, rfl, h, e1 h0, h3⟩, fun h0 => .inr ⟨g, rfl, h, ?_, h3, ?_⟩⟩
  · rw [← e2 h0, many, if_pos h]
  · have h4 : low ls b m ≤ many (gd ls b) g := by
      rw [zd4]
      exact je _ h1
    have h5 : many (gd ls b) (g + 1) = many (gd ls b) g + 1 := by rw [many, if_pos h]
    have := e2 h0
    omega
structure SomeAt (H : Hp) (la : Addr) (ss : StL) : Prop where
  li : H la = some (.lst (ss.map fun s => V.ref s.1))
  tu : ∀ s ∈ ss, H s.1 = some (.tup [.int ((s.2.1 : Nat) : Int), .ref s.2.2.1]) ∧ H s.2.2.1 = some (.tup (s.2.2.2.map V.int))
theorem SomeAt.same {H H' : Hp} {la : Addr} {ss : StL} (h : SomeAt H la ss) (m : Same H H') : SomeAt H' la ss := ⟨m _ _ h.li, fun s hs => ⟨m _ _ (h.tu s hs).1, m _ _ (h.tu s hs).2⟩⟩
def zax (s : Addr × Nat × Addr × List Int) : Tr := .tup [.int ((s.2.1 : Nat) : Int), XJ s.2.2.2]
theorem TrsAt.steps {K : PySem.W.Frag} {H : Hp} : ∀ {ss : StL}, (∀ s ∈ ss, H s.1 = some (.tup [.int ((s.2.1 : Nat) : Int), .ref s.2.2.1]) ∧ H s.2.2.1 = some (.tup (s.2.2.2.map V.int))) → TrsAt K H (ss.map zax) (ss.map fun s => V.ref s.1)
  | [], _ => by rw [List.map_nil, TrsAt]; rfl
  | s :: ss, h => by
    rw [List.map_cons, TrsAt]
    refine ⟨_, _, rfl, ?_, TrsAt.steps fun t ht => h t (List.mem_cons_of_mem _ ht)⟩
    obtain ⟨h1, h2⟩ := h s List.mem_cons_self
    unfold zax
    rw [TrAt]
    refine ⟨s.1, _, rfl, SqT.of h1, ?_⟩
    rw [TrsAt]
    refine ⟨_, _, rfl, by rw [TrAt], ?_⟩
    rw [TrsAt]
    exact ⟨_, _, rfl, TrAt.tupI h2, by rw [TrsAt]⟩
theorem zbT (s : Addr × Nat × Addr × List Int) : wj (zax s) ≤ 3 := by
  unfold zax
  rw [wj, yr, yr, yr, V8, wj]
  · omega
  all_goals (intros; rename_i z; cases z)
theorem Uj : ∀ ss : StL, yr (ss.map zax) ≤ 4
  | [] => by rw [List.map_nil, yr]; omega
  | s :: ss => by
    rw [List.map_cons, yr]
    have h1 := zbT s
    have h2 := Uj ss
    omega
theorem zcy {α : Type} {f : α → Nat} {a : α} {l : List α} (h : (a :: l).Pairwise fun p q => f p < f q) : ∀ x ∈ a :: l, f a ≤ f x := fun x hx => by
  rcases List.mem_cons.mp hx with rfl | hx
  · exact Nat.le_refl _
  · exact Nat.le_of_lt ((List.pairwise_cons.mp h).1 x hx)
theorem zb5 {α : Type} {f : α → Nat} {a : α} {l : List α} (h : (l ++ [a]).Pairwise fun p q => f p < f q) : ∀ x ∈ l ++ [a], f x ≤ f a := fun x hx => by
  rcases List.mem_append.mp hx with hx | hx
  · exact Nat.le_of_lt ((List.pairwise_append.mp h).2.2 x hx a (by simp))
  · rw [List.mem_singleton.mp hx]; exact Nat.le_refl _
theorem pick {gs : StL} (hne : gs ≠ []) (hup : gs.Pairwise fun p q => p.2.1 < q.2.1) {last : Nat} (hl : last ≤ 1) : ∃ s ∈ gs, atI (gs.map fun s => V.ref s.1) ((0 : Int) - (last : Int)) = some (.ref s.1) ∧ (last = 0 → ∀ t ∈ gs, s.2.1 ≤ t.2.1) ∧ (last = 1 → ∀ t ∈ gs, t.2.1 ≤ s.2.1) := by
  by_cases h0 : last = 0
  · subst h0
    cases gs with
    | nil => exact absurd rfl hne
    | cons s gs => exact ⟨s, List.mem_cons_self, by rw [show (0 : Int) - ((0 : Nat) : Int) = ((0 : Nat) : Int) from rfl]; exact wH rfl, fun _ => zcy (f := fun s : Addr × Nat × Addr × List Int => s.2.1) hup, fun h => by omega⟩
  · have h1 : last = 1 := by omega
    subst h1
    obtain ⟨l, s, rfl⟩ : ∃ l s, gs = l ++ [s] := by
      rcases List.eq_nil_or_concat gs with h | ⟨a, b, h⟩
      · exact absurd h hne
      · exact ⟨a, b, by rw [h, List.concat_eq_append]⟩
    refine ⟨s, by simp, ?_, fun h => by omega, fun _ => zb5 (f := fun s : Addr × Nat × Addr × List Int => s.2.1) hup⟩
    unfold atI ixN
    rw [List.length_map, List.length_append, List.length_singleton, if_neg (by omega), if_pos (by omega)]
    show (((l ++ [s]).map fun s => V.ref s.1))[(0 - ((1 : Nat) : Int) + ((l.length + 1 : Nat) : Int)).toNat]? = _
    rw [show (0 - ((1 : Nat) : Int) + ((l.length + 1 : Nat) : Int)).toNat = l.length by omega, List.getElem?_map, List.getElem?_concat_length]
    rfl
section
variable {P : Program} {w : World} {K : PySem.W.Frag} {mg : Str → Option Value} {base : Heap}
def jD : Sp := fun vs H Q _ => ∃ (r : Addr) (b : Nat) (bl : Addr) (zs : List (Addr × List Int)) (m last : Nat), vs = [.ref r, .int m, .int last] ∧ RuleAt H r b bl zs ∧ yl b (zs.map (·.2)) ∧ 1 ≤ m ∧ m ≤ 60 ∧ last ≤ 1 ∧ ∀ v H', Same H H' → (last = 0 → LeastL (zs.map (·.2)) b m v) → (last = 1 → GreatestL (zs.map (·.2)) b m v) → Q v H'
theorem yj : zB ["rule", "m", "last", "steps", "rows", "found", "some", "left", "good", "figure", "there"] ["rule", "m", "last"] (zq vp) := ⟨rfl, rfl, rfl, by decide +kernel, rfl, by decide +kernel, by decide +kernel⟩
set_option maxHeartbeats 0 in
theorem Ux {f f1 f2 : Addr} {fd fd1 fd2 : FuncData} (D : Df K mg "_law_edge" vp ["rule", "m", "last"] f fd) (xZ : Df K mg "_law_steps" yR ["rule"] f2 fd2) (vm : FnOk P w K mg base CX0 2 f2 fd2 ["rule"] (ux P w)) (qm : Df K mg "_law_table" yU ["rule", "m"] f1 fd1) (Zm : FnOk P w K mg base CX0 3 f1 fd1 ["rule", "m"] (qT P w)) (T : Blt mg) : FnOk P w K mg base CX0 4 f fd ["rule", "m", "last"] jD := by
  refine D.fn.ok yj (fun vs H Q E h => ?_) (fun cdv A outer s H vs Q E hr h => ?_)
  · obtain ⟨r, b, bl, zs, m, last, rfl, _⟩ := h; rfl
  · obtain ⟨r, b, bl, zs, m, last, rfl, R, g, hm1, hm, hla1, kk⟩ := h
    have HU := Ww hr
    have b2 := g.b2
    have b16 := g.b16
    have ne : ∀ st ∈ zs.map (·.2), st ≠ [] := fun st h => (g.st st h).ne
    refine ⟨_, (zp (zF (i := 3) yj.nd rfl (Or.inl rfl) (zJ xZ vm (hr.mono (by decide)) (zc (pv 0) zg)))
      (zp (zF (i := 4) yj.nd rfl (Or.inr rfl) (zJ qm Zm (hr.mono (by decide)) (zc (pv 0) (zc (pv 1) zg))))
      (zp (zF (i := 5) yj.nd rfl (Or.inl rfl) zm)
      (zp (vg (i := 6) (show CScope (zq vp) _ "one" ["rule", "m", "last", "steps", "rows", "found", "some", "left", "good", "figure", "there"] ["m"] [1] from ⟨rfl, by decide +kernel, by decide +kernel, rfl, by decide +kernel, rfl, by decide +kernel, by decide +kernel⟩) rfl yj.nd rfl (Or.inl rfl) (jX K (qK P w (ud hr) (pv 3) (ue zg) (fun _ _ => rfl))) (fun _ _ _ _ => (Zy (PW.pt (VR (zO JZ (zP (vD K) (pv 0) zm (fun _ _ => rfl)) zm (zT _)) (Xd (zO ZX (pv 1) zm (zT _))))))) (fun _ _ _ _ => (pv 0)))
      (zp (vY PassesOwn.never rfl (VB rfl T.n_range (zc (zK Zk (pv 1) zm) (zc (Xp Zn zm) (zc (Xp Zn zm) zg)))) (zY (i := 7) yj.nd rfl (Or.inr rfl))
        (zp (vg (i := 8) (show CScope (zq vp) _ "one" ["rule", "m", "last", "steps", "rows", "found", "some", "left", "good", "figure", "there"] ["rows", "left"] [4, 7] from ⟨rfl, by decide +kernel, by decide +kernel, rfl, by decide +kernel, rfl, by decide +kernel, by decide +kernel⟩) rfl yj.nd rfl (Or.inl rfl) (jX K (pv 6)) (fun _ _ _ _ => (Zy (zO JZ (zP (vD K) (qK P w (ud hr) (zP (wL K) (pv 1) (pv 2) (fun _ _ => rfl)) (zP (vD K) (pv 0) zm (fun _ _ => rfl)) (fun _ _ => rfl)) zm (fun _ _ => rfl)) zm (zT _)))) (fun _ _ _ _ => (pv 0)))
        (zp (xX (zO (QT K HU) (pv 8) (zM zg) (zT _))
          (zu (zH tR))
          yg)
        (zp (Wd (zP (wL K) (pv 8) (zK Zk zm (pv 2)) (fun _ _ => rfl)) (Jq rfl (xO (zY (i := 9) yj.nd rfl (Or.inl rfl)) (xO (zY (i := 10) yj.nd rfl (Or.inl rfl)) ZK))))
        (zp (zF (i := 5) yj.nd rfl (Or.inl rfl) (zK yz (zK jZ (pv 5) (zP (vD K) (pv 0) zm (fun _ _ => rfl))) (pv 9)))
        (zu (zF (i := 6) yj.nd rfl (Or.inl rfl) (qK P w (ud hr) (pv 3) (pv 10) (fun _ _ => rfl)))))))))
      (zu (zH (pv 5)))))))), ?_⟩
    refine ⟨_, rfl, r, b, bl, zs, rfl, R, g, fun fo kvs H1 hfo s1 S1 hcl hrt => ?_⟩
    refine ⟨_, rfl, _, rfl, r, b, bl, zs, m, rfl, R.same s1, g, hm, fun ra rs M H2 hra s2 Rw hrl CM => ?_⟩
    have S2 := S1.same s2
    refine ⟨_, rfl, (by decide : 0 ≤ sizeLine), fun e0 he0 => ?_⟩
    have m3 := zj he0 (o := .tup [])
    cases hv : yh kvs (kI []) with
    | none => exact absurd hv hrt
    | some v =>
    have S3 := S2.same m3
    have Rw3 := Rw.same m3
    have s3 := (s1.trans s2).trans m3
    have he3 : (upd H2 e0 (.tup [])) e0 = some (.tup ((kI []).map kV)) := zf
    generalize upd H2 e0 (.tup []) = H3 at S3 Rw3 s3 he3
    obtain ⟨la, ss, rfl, _, St⟩ := S3.get hv
    have hssl := St.len
    refine ⟨fo, kvs, kI [], e0, .ref la, rfl, S3.d, rfl, he3, hv, la, rfl, ⟨_, SqL.of St.li⟩, yO (K := K) (a := la) (xs := ss.map fun s => V.ref s.1) (fun i ys Hd => ys = ((ss.take i).filter fun s => decide (0 < s.2.1 ∨ m = 1)).map (fun s => V.ref s.1) ∧ Hd = H3) ⟨by simp, rfl⟩ (fun i ys Hd _ ⟨_, e⟩ => by rw [e]; exact SqL.of St.li) ?_ ?_⟩
    · rintro i u ys Hd hi ⟨rfl, rfl⟩
      rw [List.getElem?_map] at hi
      obtain ⟨t, hti, e⟩ := Option.map_eq_some_iff.mp hi
      subst e
      obtain ⟨q1, _⟩ := St.tu t (List.mem_of_getElem? hti)
      refine ⟨by rw [List.length_map]; exact Nat.lt_of_le_of_lt (Nat.le_trans (List.length_filter_le _ _) (by rw [List.length_take]; exact show min i ss.length ≤ 100 by omega)) (by decide), ?_⟩
      have fin : ∀ (c : Bool), c = decide (0 < t.2.1 ∨ m = 1) → if c = true then (Xc 0 (some (V.ref t.1) :: [some (V.int m)]) Hd fun v H3 => (((ss.take i).filter fun s => decide (0 < s.2.1 ∨ m = 1)).map (fun s => V.ref s.1) ++ [v] = ((ss.take (i + 1)).filter fun s => decide (0 < s.2.1 ∨ m = 1)).map (fun s => V.ref s.1)) ∧ H3 = Hd) else ((ss.take i).filter fun s => decide (0 < s.2.1 ∨ m = 1)).map (fun s => V.ref s.1) = ((ss.take (i + 1)).filter fun s => decide (0 < s.2.1 ∨ m = 1)).map (fun s => V.ref s.1) ∧ Hd = Hd := fun c hc => by
        rw [List.take_succ, hti, Option.toList_some, List.filter_append, List.filter_cons, ← hc]
        cases c with
        | true => exact wO ⟨_, rfl, by rw [if_pos rfl, List.map_append]; rfl, rfl⟩
        | false => exact xT ⟨by rw [if_neg Bool.false_ne_true, List.filter_nil, List.append_nil], rfl⟩
      refine ⟨_, rfl, t.1, _, _, .int ((t.2.1 : Nat) : Int), rfl, rfl, SqT.of q1, rfl, _, _, rfl, rfl, _, rfl, ?_⟩
      by_cases h1 : 0 < t.2.1
      · rw [decide_eq_true (show (0 : Int) < ((t.2.1 : Nat) : Int) by omega)]
        exact wO (fin true (decide_eq_true (.inl h1)).symm)
      · rw [decide_eq_false (show ¬ (0 : Int) < ((t.2.1 : Nat) : Int) by omega)]
        refine xT ⟨_, rfl, rfl, _, rfl, ?_⟩
        refine fin _ ?_
        by_cases h2 : m = 1
        · rw [decide_eq_true (show (V.int ((m : Nat) : Int) = V.int 1) by rw [h2]; rfl), decide_eq_true (.inr h2)]
        · rw [decide_eq_false (show ¬ (V.int ((m : Nat) : Int) = V.int 1) from fun z => by injection z with z; omega), decide_eq_false (by omega)]
    rintro ys Hd ⟨rfl, rfl⟩ sa hsa
    rw [List.length_map, List.take_length]
    generalize hS0 : (ss.filter fun s => decide (0 < s.2.1 ∨ m = 1)) = ss0 at hsa
    have m4 := zj hsa (o := .lst (ss0.map fun s => V.ref s.1))
    have So4 : SomeAt (upd Hd sa (.lst (ss0.map fun s => V.ref s.1))) sa ss0 := ⟨zf, fun s hs => by
      have hs' : s ∈ ss := by rw [← hS0] at hs; exact (List.mem_filter.mp hs).1
      exact ⟨m4 _ _ (St.tu s hs').1, m4 _ _ (St.tu s hs').2⟩⟩
    have hup : ∀ {x : List Int} {ss : StL}, ss.map (fun s => (s.2.1, s.2.2.2)) = ye (zs.map (·.2)) x b → ss.Pairwise fun p q => p.2.1 < q.2.1 := fun {x ss} e => by
      have := zaq (zs.map (·.2)) x b
      rw [← e, List.pairwise_map] at this
      exact this
    have hup0 : ss0.Pairwise fun p q => p.2.1 < q.2.1 := by rw [← hS0]; exact (hup St.eq).filter _
    have S4 := S3.same m4
    have Rw4 := Rw3.same m4
    have s4 := s3.trans m4
    have hL0 : ∀ p, p ∈ ss0.map (fun s => (s.2.1, s.2.2.2)) ↔ p ∈ ye (zs.map (·.2)) [] b ∧ allow 0 m p.1 := fun p => by
      rw [← St.eq, ← hS0]
      constructor
      · intro h
        obtain ⟨s, hs, rfl⟩ := List.mem_map.mp h
        obtain ⟨h1, h2⟩ := List.mem_filter.mp hs
        exact ⟨List.mem_map.mpr ⟨s, h1, rfl⟩, .inr (of_decide_eq_true h2)⟩
      · rintro ⟨h, ha⟩
        obtain ⟨s, hs, rfl⟩ := List.mem_map.mp h
        exact List.mem_map.mpr ⟨s, List.mem_filter.mpr ⟨hs, decide_eq_true (by rcases ha with h | h; omega; exact h)⟩, rfl⟩
    have hsl0 : ss0.length ≤ 16 := by rw [← hS0]; exact Nat.le_trans (List.length_filter_le _ _) (by omega)
    generalize upd Hd sa (.lst (ss0.map fun s => V.ref s.1)) = H4 at So4 S4 Rw4 s4
    refine ⟨_, rfl, _, _, rfl, rfl, _, rfl, _, rfl, ((m : Int) - 1), rfl, by omega, by omega, ?_⟩
    rw [show ((m : Int) - 1 + 1).toNat = m by omega]
    refine WT (lo := (m : Int) - 1) (c := -1) (n := m) (fun i σ Hc => ∃ (n : Nat) (sa : Addr) (v7 v8 v9 v10 : Option V), σ = [some (.ref r), some (.int m), some (.int last), some (.ref fo), some (.ref ra), some (.int (n : Int)), some (.ref sa), v7, v8, v9, v10] ∧ Same H4 Hc ∧
      ((i < m ∧ ∃ (x : List Int) (ss : StL), Stg (zs.map (·.2)) b m n (m - 1 - i) x ∧ SomeAt Hc sa ss ∧ ss.length ≤ 16 ∧ (∀ p, p ∈ ss.map (fun s => (s.2.1, s.2.2.2)) ↔ p ∈ ye (zs.map (·.2)) x b ∧ allow n m p.1) ∧ (ss.Pairwise fun p q => p.2.1 < q.2.1) ∧ M x ∧ yh kvs (kI x) ≠ none ∧ (n ≠ 0 → Ja (zs.map (·.2)) b m n (m - i) last ∧ 0 < cnt (zs.map (·.2)) b (m - i) x)) ∨ (i = m ∧ gd (zs.map (·.2)) b n = true ∧ Ja (zs.map (·.2)) b m n 0 last ∧ JC b m ≤ n ∧ n + 1 ≤ b ^ m)))
      ⟨0, sa, _, _, _, _, rfl, Same.refl _, .inl ⟨by omega, [], ss0, .inl ⟨rfl, rfl, by omega⟩, So4, hsl0, hL0, hup0, CM.1, hrt, fun h => absurd rfl h⟩⟩ ?_ ?_
    · rintro i σ Hc hi ⟨n, sa, v7, v8, v9, v10, rfl, sc, hinv⟩
      obtain ⟨_, x, ss, Sg, So, hsl, hL, hup', Mx, hkx, hE⟩ := hinv.resolve_right (by omega)
      have Rc := Rw4.same sc
      have Sc := S4.same sc
      obtain ⟨t, ht⟩ : ∃ t, t = m - 1 - i := ⟨_, rfl⟩
      rw [← ht] at Sg
      rw [show m - i = t + 1 by omega] at hE
      have hlt : (m : Int) - 1 + (i : Int) * -1 = (t : Int) := by omega
      obtain ⟨lr, hlr⟩ : ∃ lr, rs[t]? = some lr := ⟨_, List.getElem?_eq_getElem (by omega)⟩
      have hat : atI (rs.map V.ref) ((m : Int) - 1 + (i : Int) * -1) = some (.ref lr) := by
        rw [hlt]
        exact wH (by rw [List.getElem?_map, hlr]; rfl)
      obtain ⟨kr, dr, kq⟩ := Rc.ok t lr hlr
      refine ⟨_, rfl, sa, rfl, ⟨_, SqL.of So.li⟩, yO (K := K) (a := sa) (xs := ss.map fun s => V.ref s.1) (fun j ys Hd => ys = ((ss.take j).filter fun s => decide (0 < cnt (zs.map (·.2)) b t s.2.2.2)).map (fun s => V.ref s.1) ∧ Hd = Hc) ⟨by simp, rfl⟩ (fun j ys Hd _ ⟨_, e⟩ => by rw [e]; exact SqL.of So.li) ?_ ?_⟩
      · rintro j u ys Hd hj ⟨rfl, rfl⟩
        rw [List.getElem?_map] at hj
        obtain ⟨z, hzj, e⟩ := Option.map_eq_some_iff.mp hj
        subst e
        have hzm := List.mem_of_getElem? hzj
        obtain ⟨q1, q2⟩ := So.tu z hzm
        have hzs := ((hL (z.2.1, z.2.2.2)).mp (List.mem_map.mpr ⟨z, hzm, rfl⟩)).1
        obtain ⟨q, hq1, hq2⟩ := kq z.2.2.2 (CM.2 x Mx (z.2.1, z.2.2.2) hzs)
        refine ⟨by rw [List.length_map]; exact Nat.lt_of_le_of_lt (Nat.le_trans (List.length_filter_le _ _) (by rw [List.length_take]; exact show min j ss.length ≤ 100 by omega)) (by decide), ?_⟩
        refine ⟨_, rfl, _, rfl, ra, _, _, .ref lr, rfl, rfl, SqL.of Rc.li, hat, _, rfl, z.1, _, _, .ref z.2.2.1, rfl, rfl, SqT.of q1, rfl, lr, kr, kI z.2.2.2, z.2.2.1, .ref q, rfl, dr, rfl, by rw [Vm]; exact q2, hq1, q, _, _, .int ((cnt (zs.map (·.2)) b t z.2.2.2 : Nat) : Int), rfl, rfl, SqT.of hq2, rfl, _, _, rfl, rfl, _, rfl, ?_⟩
        rw [List.take_succ, hzj, Option.toList_some, List.filter_append, List.filter_cons]
        by_cases hp : 0 < cnt (zs.map (·.2)) b t z.2.2.2
        · rw [decide_eq_true (show (0 : Int) < ((cnt (zs.map (·.2)) b t z.2.2.2 : Nat) : Int) by omega), decide_eq_true hp]
          exact wO ⟨_, rfl, by rw [if_pos rfl, List.map_append]; rfl, rfl⟩
        · rw [decide_eq_false (show ¬ (0 : Int) < ((cnt (zs.map (·.2)) b t z.2.2.2 : Nat) : Int) by omega), decide_eq_false hp]
          exact xT ⟨by rw [if_neg Bool.false_ne_true, List.filter_nil, List.append_nil], rfl⟩
      rintro ys Hd ⟨rfl, rfl⟩ ga hga
      rw [List.length_map, List.take_length]
      generalize hG : (ss.filter fun s => decide (0 < cnt (zs.map (·.2)) b t s.2.2.2)) = gs at hga
      have mg := zj hga (o := .lst (gs.map fun s => V.ref s.1))
      have Go : SomeAt (upd Hd ga (.lst (gs.map fun s => V.ref s.1))) ga gs := ⟨zf, fun s hs => by
        have hs' : s ∈ ss := by rw [← hG] at hs; exact (List.mem_filter.mp hs).1
        exact ⟨mg _ _ (So.tu s hs').1, mg _ _ (So.tu s hs').2⟩⟩
      have scg := sc.trans mg
      generalize upd Hd ga (.lst (gs.map fun s => V.ref s.1)) = H5 at Go scg
      refine ⟨_, rfl, (by decide : 0 ≤ sizeLine), fun p0 hp0 => ?_⟩
      have mp := zj hp0 (o := .lst [])
      refine ⟨.lst (gs.map zax), .lst [], ?_, ?_, ?_, _, rfl, ?_⟩
      · rw [TrAt]; exact ⟨ga, _, rfl, SqL.of (mp _ _ Go.li), TrsAt.steps fun s hs => ⟨mp _ _ (Go.tu s hs).1, mp _ _ (Go.tu s hs).2⟩⟩
      · rw [TrAt]; exact ⟨p0, _, rfl, SqL.of zf, by rw [TrsAt]⟩
      · rw [wj]; have := Uj gs; omega
      rw [if_neg Bool.false_ne_true, ZC]
      have Go6 := Go.same mp
      have sc6 := scg.trans mp
      generalize upd H5 p0 (.lst []) = H6 at Go6 sc6
      have hzero : ∀ c, c < b → allow n m c → (∀ y, aft (zs.map (·.2)) x (c : Int) = some y → ¬ 0 < cnt (zs.map (·.2)) b t y) → Uz (zs.map (·.2)) b t x c = 0 := fun c hc ha h => by
        unfold Uz
        cases e : aft (zs.map (·.2)) x (c : Int) with
        | none => rfl
        | some y => have := h y e; show cnt _ _ _ _ = 0; omega
      have hin : ∀ c y, c < b → allow n m c → aft (zs.map (·.2)) x (c : Int) = some y → 0 < cnt (zs.map (·.2)) b t y → ∃ s ∈ gs, s.2.1 = c := fun c y hc ha h hp => by
        obtain ⟨s, hs, e⟩ := List.mem_map.mp ((hL (c, y)).mpr ⟨JD hc h, ha⟩)
        injection e with e1 e2
        exact ⟨s, by rw [← hG]; exact List.mem_filter.mpr ⟨hs, decide_eq_true (by rw [e2]; exact hp)⟩, e1⟩
      by_cases hgs : gs = []
      · subst hgs
        refine wO ?_
        have hnone := zam ne b2 hm1 Sg (fun hn => (hE hn).2) fun c hc ha => hzero c hc ha fun y hy hp => by
          obtain ⟨s, hs, _⟩ := hin c y hc ha hy hp
          exact nomatch hs
        exact kk .non _ (s4.trans sc6) (fun _ => .inl ⟨rfl, hnone⟩) (fun _ => .inl ⟨rfl, hnone⟩)
      refine zb0 (by cases gs with | nil => exact absurd rfl hgs | cons _ _ => rfl) ?_
      have hupg : gs.Pairwise fun p q => p.2.1 < q.2.1 := by rw [← hG]; exact hup'.filter _
      obtain ⟨s, hs, hpk, hlo, hhi⟩ := pick hgs hupg hla1
      obtain ⟨q1, q2⟩ := Go6.tu s hs
      have hs' : s ∈ ss := by rw [← hG] at hs; exact (List.mem_filter.mp hs).1
      have hsp : 0 < cnt (zs.map (·.2)) b t s.2.2.2 := by rw [← hG] at hs; exact of_decide_eq_true (List.mem_filter.mp hs).2
      obtain ⟨hst, hal⟩ := (hL (s.2.1, s.2.2.2)).mp (List.mem_map.mpr ⟨s, hs', rfl⟩)
      obtain ⟨hcb, haft⟩ := qe hst
      obtain ⟨g1, g2, g3, g4, g5, g6⟩ := zaV ne b2 hm1 (last := last) Sg (fun hn => (hE hn).1) hcb hal haft hsp
        (fun h0 c' hc' ha' => hzero c' (Nat.lt_trans hc' hcb) ha' fun y hy hp => by
          obtain ⟨u, hu, e⟩ := hin c' y (Nat.lt_trans hc' hcb) ha' hy hp
          have := hlo h0 u hu
          have hc' : c' < s.2.1 := hc'
          omega)
        (fun h0 c' hc' hb' => hzero c' hb' (.inr (.inl (by omega))) fun y hy hp => by
          obtain ⟨u, hu, e⟩ := hin c' y hb' (.inr (.inl (by omega))) hy hp
          have := hhi h0 u hu
          have hc' : s.2.1 < c' := hc'
          omega)
      refine ⟨_, rfl, _, rfl, _, _, rfl, rfl, ga, _, _, .ref s.1, rfl, rfl, SqL.of Go6.li, hpk, s.1, _, rfl, SqT.of q1, rfl, _, _, rfl, _, _, rfl, rfl, ?_⟩
      have s06 := s4.trans sc6
      refine ⟨_, rfl, _, rfl, r, _, _, .int b, rfl, rfl, SqT.of (s06 _ _ R.tu), rfl, _, _, rfl, rfl, .inr ⟨by omega, by omega⟩, _, rfl, _, _, rfl, rfl, ?_⟩
      have hky := hcl x hkx (s.2.1, s.2.2.2) hst
      cases hvy : yh kvs (kI s.2.2.2) with
      | none => exact absurd hvy hky
      | some v =>
      have S6 := S4.same sc6
      obtain ⟨ly, sy, rfl, _, Sty⟩ := S6.get hvy
      refine ⟨_, rfl, _, rfl, fo, kvs, kI s.2.2.2, s.2.2.1, .ref ly, rfl, S6.d, rfl, by rw [Vm]; exact q2, hvy, ?_⟩
      dsimp only
      rw [show ((n : Int) * (b : Int) + ((s.2.1 : Nat) : Int)) = ((n * b + s.2.1 : Nat) : Int) by rw [Int.natCast_add, Int.natCast_mul]]
      have hSyl := Sty.len
      refine ⟨n * b + s.2.1, ly, _, _, _, _, rfl, sc6, ?_⟩
      by_cases ht0 : t = 0
      · refine .inr ⟨by omega, g1, ?_, ?_, ?_⟩
        · rw [ht0] at g3; exact g3
        · rw [ht0, Nat.pow_zero, Nat.mul_one] at g4; exact g4
        · rw [ht0, Nat.pow_zero, Nat.mul_one] at g5; exact g5
      · have hn1 := g6 (by omega)
        refine .inl ⟨by omega, s.2.2.2, sy, .inr ⟨hn1, g1, g2, ?_, ?_⟩, ⟨Sty.li, Sty.tu⟩, by omega, fun p => ?_, hup Sty.eq, CM.2 x Mx (s.2.1, s.2.2.2) hst, hky, fun _ => ?_⟩
        · rw [show m - 1 - (i + 1) + 1 = t by omega]; exact g4
        · rw [show m - 1 - (i + 1) + 1 = t by omega]; exact g5
        · rw [Sty.eq]
          exact ⟨fun h => ⟨h, .inl hn1⟩, fun h => h.1⟩
        · rw [show m - (i + 1) = t by omega]; exact ⟨g3, hsp⟩
    · rintro σ Hc ⟨n, sa, v7, v8, v9, v10, rfl, sc, hinv⟩
      obtain ⟨_, h1, h3, h4, h5⟩ := hinv.resolve_left (by omega)
      obtain ⟨e1, e2⟩ := zbS h1 h3 h4 h5
      exact ⟨_, rfl, kk _ Hc (s4.trans sc) e1 e2⟩
end
section
variable {P : Program} {w : World} {K : PySem.W.Frag} {mg : Str → Option Value} {base : Heap}
def jY : Sp := fun vs H Q _ => ∃ (r : Addr) (b : Nat) (bl : Addr) (zs : List (Addr × List Int)), vs = [.ref r] ∧ RuleAt H r b bl zs ∧ zs.length ≤ 100 ∧
  ∀ (r' bl' : Addr) (zs' : List (Addr × List Int)) (H' : Hp), Same H H' → RuleAt H' r' b bl' zs' → zs'.map (·.2) = zs.map (·.2) → H bl' = none → H r' = none → (∀ z ∈ zs', H z.1 = none ∧ z.1 ≠ bl') → Q (.ref r') H'
theorem QS : zB ["rule"] ["rule"] (zq u9) := ⟨rfl, rfl, rfl, by decide +kernel, rfl, by decide +kernel, by decide +kernel⟩
theorem Xx {f : Addr} {fd : FuncData} (D : Df K mg "_law_own" u9 ["rule"] f fd) (T : Blt mg) : FnOk P w K mg base CX0 1 f fd ["rule"] jY := by
  refine D.fn.ok QS (fun vs H Q E h => ?_) (fun cdv A outer s H vs Q E hr h => ?_)
  · obtain ⟨r, b, bl, zs, rfl, _⟩ := h; rfl
  · obtain ⟨r, b, bl, zs, rfl, R, hl, kk⟩ := h
    refine ⟨_, (zu (zH (ue (zc (zP (vD K) (pv 0) zm (fun _ _ => rfl)) (zc (xV (show CScope (zq u9) _ "one" ["rule"] [] [] from ⟨rfl, by decide +kernel, by decide +kernel, rfl, by decide +kernel, rfl, by decide +kernel, by decide +kernel⟩) rfl (jX K (zP (vD K) (pv 0) zm (fun _ _ => rfl))) (fun _ _ _ _ => yD) (fun _ _ _ _ => (uW (Qw K) (by rfl) T.n_list boot_list (zc (pv 0) zg)))) zg))))), ?_⟩
    refine ⟨_, rfl, r, _, _, V.int b, rfl, rfl, SqT.of R.tu, rfl, ?_⟩
    refine ⟨_, rfl, r, _, _, V.ref bl, rfl, rfl, SqT.of R.tu, rfl, bl, rfl, ⟨_, SqL.of R.li⟩, yO (K := K) (a := bl) (xs := zs.map fun z => V.ref z.1) (fun i ys H4 => Same H H4 ∧ ∃ ws : List (Addr × List Int), ys = ws.map (fun z => V.ref z.1) ∧ ws.length = i ∧ ws.map (·.2) = (zs.take i).map (·.2) ∧ ∀ z ∈ ws, H z.1 = none ∧ H4 z.1 = some (.lst (z.2.map V.int))) ⟨Same.refl _, [], rfl, rfl, rfl, by simp⟩ (fun i ys H4 _ ⟨e, _⟩ => SqL.of (e _ _ R.li)) ?_ ?_⟩
    · rintro j x ys H4 hx ⟨s4, ws, rfl, hwl, hw2, hws⟩
      rw [List.getElem?_map] at hx
      obtain ⟨z, hzj, e⟩ := Option.map_eq_some_iff.mp hx
      subst e
      have hzm := List.mem_of_getElem? hzj
      have hj : j < zs.length := (List.getElem?_eq_some_iff.mp hzj).1
      refine ⟨by rw [List.length_map, hwl]; exact Nat.lt_of_lt_of_le (show j < 101 by omega) (by decide), ?_⟩
      unfold jf
      dsimp only
      rw [if_pos rfl]
      refine ⟨_, rfl, z.1, _, rfl, .inl (SqL.of (s4 _ _ (R.st z hzm))), fun p hp => ⟨s4.trans (zj hp), ws ++ [(p, z.2)], by simp, by simp [hwl], ?_, fun y hy => ?_⟩⟩
      · rw [List.map_append, hw2, List.take_succ, hzj]; simp
      · rcases List.mem_append.mp hy with hy | hy
        · exact ⟨(hws y hy).1, zj hp _ _ (hws y hy).2⟩
        · have e : y = (p, z.2) := by simpa using hy
          subst e
          exact ⟨s4.free hp, zf⟩
    · rintro ys H4 ⟨s4, ws, rfl, hwl, hw2, hws⟩ bl' hbl'
      refine ⟨(by show 2 ≤ sizeLine; decide), fun r' hr' => ?_⟩
      have s5 := zj hbl' (o := .lst (ws.map fun z => V.ref z.1))
      have s6 := zj hr' (o := .tup [.int b, .ref bl'])
      refine kk r' bl' ws _ (s4.trans (s5.trans s6)) ⟨zf, s6 _ _ zf, fun z hz => s6 _ _ (s5 _ _ (hws z hz).2)⟩ ?_ (s4.free hbl') (s4.free (s5.free hr')) fun z hz => ⟨(hws z hz).1, zx (hws z hz).2 hbl'⟩
      rw [hw2, List.length_map, List.take_length]
def VL (b : Nat) (ls : List (List Int)) : Tr := .tup [.int b, .lst (ls.map yt)]
theorem zaJ (b : Nat) (ls : List (List Int)) : wj (VL b ls) ≤ 8 := by
  unfold VL
  rw [wj, yr, yr, yr, wj, wj]
  · have := xF ls; omega
  all_goals (intros; rename_i z; cases z)
theorem TrAt.rule {H : Hp} {r bl : Addr} {b : Nat} {zs : List (Addr × List Int)} (R : RuleAt H r b bl zs) : TrAt K H (VL b (zs.map (·.2))) (.ref r) := by
  unfold VL
  rw [TrAt]
  refine ⟨r, _, rfl, SqT.of R.tu, ?_⟩
  rw [TrsAt]
  refine ⟨_, _, rfl, by rw [TrAt], ?_⟩
  rw [TrsAt]
  refine ⟨_, _, rfl, ?_, by rw [TrsAt]⟩
  rw [TrAt]
  exact ⟨bl, _, rfl, SqL.of R.li, TrsAt.lists R.st⟩
end
theorem V4 {p : Nat → Bool} {g g' : Nat} (h : p g = true) (h' : p g' = true) (e : many p g = many p g') : g = g' := by
  rcases Nat.lt_trichotomy g g' with z | z | z
  · have := YM p z h; omega
  · exact z
  · have := YM p z h'; omega
theorem Z4 {ls : List (List Int)} {b m : Nat} {v u : V} (h : LeastL ls b m v) (k : LeastL ls b m u) : v = u := by
  rcases h with ⟨rfl, h1⟩ | ⟨g, rfl, h1, h2, h3⟩ <;> rcases k with ⟨rfl, k1⟩ | ⟨g', rfl, k1, k2, k3⟩
  · rfl
  · have := YM (gd ls b) k3 k1; omega
  · have := YM (gd ls b) h3 h1; omega
  · rw [V4 h1 k1 (h2.trans k2.symm)]
theorem ZV {ls : List (List Int)} {b m : Nat} {v u : V} (h : GreatestL ls b m v) (k : GreatestL ls b m u) : v = u := by
  rcases h with ⟨rfl, h1⟩ | ⟨g, rfl, h1, h2, h3, h4⟩ <;> rcases k with ⟨rfl, k1⟩ | ⟨g', rfl, k1, k2, k3, k4⟩
  · rfl
  · omega
  · omega
  · rw [V4 h1 k1 (by omega)]
def NumV (v : V) : Prop := v = .non ∨ ∃ g : Nat, v = .int g
theorem LeastL.num {ls : List (List Int)} {b m : Nat} {v : V} (h : LeastL ls b m v) : NumV v := by
  rcases h with ⟨rfl, _⟩ | ⟨g, rfl, _⟩
  · exact .inl rfl
  · exact .inr ⟨g, rfl⟩
theorem GreatestL.num {ls : List (List Int)} {b m : Nat} {v : V} (h : GreatestL ls b m v) : NumV v := by
  rcases h with ⟨rfl, _⟩ | ⟨g, rfl, _⟩
  · exact .inl rfl
  · exact .inr ⟨g, rfl⟩
theorem NumV.tr {v : V} (h : NumV v) : ∃ t, (∀ (K : PySem.W.Frag) (H : Hp), TrAt K H t v) ∧ wj t ≤ 1 ∧ teq t t = true := by
  rcases h with rfl | ⟨g, rfl⟩
  · exact ⟨.non, fun K H => by rw [TrAt], by rw [wj] <;> first | omega | (intros; rename_i z; cases z), jd _⟩
  · exact ⟨.int g, fun K H => by rw [TrAt], by rw [wj] <;> first | omega | (intros; rename_i z; cases z), jd _⟩
theorem Vl {K : PySem.W.Frag} : PySem.W.kitOne K (.type "NoneType") (.type "bool") = some false := YW (by decide +kernel) (by decide +kernel) (fun e => absurd e (by decide))
theorem UG {K : PySem.W.Frag} : PySem.W.kitOne K (.type "NoneType") (.type "int") = some false := YW (by decide +kernel) (by decide +kernel) (fun e => absurd e (by decide))
section
variable {P : Program} {w : World} {K : PySem.W.Frag} {mg : Str → Option Value} {base : Heap} {T0 : Addr}
def qM (T0 : Addr) : Sp := fun vs H Q _ => ∃ (r : Addr) (b : Nat) (bl : Addr) (zs : List (Addr × List Int)) (m : Nat), vs = [.ref r, .int m] ∧ RuleAt H r b bl zs ∧ yl b (zs.map (·.2)) ∧ 1 ≤ m ∧ m ≤ 60 ∧ LT T0 H ∧ ∀ H', SameL T0 H H' → LT T0 H' → Q (.bl true) H'
theorem wW : zB ["rule", "m", "handed", "dues", "turn", "found"] ["rule", "m"] (zq vB) := ⟨rfl, rfl, rfl, by decide +kernel, rfl, by decide +kernel, by decide +kernel⟩
set_option maxHeartbeats 0 in
theorem Vs {f f1 f2 f3 f4 : Addr} {fd fd1 fd2 fd3 fd4 : FuncData} (D : Df K mg "_law_right" vB ["rule", "m"] f fd) (ji : Df K mg "_law_own" u9 ["rule"] f1 fd1) (qb : Df K mg "_law_edge" vp ["rule", "m", "last"] f2 fd2) (jC : FnOk P w K mg base CX0 4 f2 fd2 ["rule", "m", "last"] jD) (xx : Df K mg "least_long" vN ["rule", "m"] f3 fd3) (wA : FnOk P w K mg base CX0 9 f3 fd3 ["rule", "m"] (Zv T0 j7 LeastL)) (yM : Df K mg "greatest_long" xN ["rule", "m"] f4 fd4) (xr : FnOk P w K mg base CX0 9 f4 fd4 ["rule", "m"] (Zv T0 j7 GreatestL)) (T : Blt mg) : FnOk P w K mg base CX0 10 f fd ["rule", "m"] (qM T0) := by
  have Ub : FnOk P w K mg base CX0 1 f1 fd1 ["rule"] jY := Xx ji T
  refine D.fn.ok wW (fun vs H Q E h => ?_) (fun cdv A outer s H vs Q E hr h => ?_)
  · obtain ⟨r, b, bl, zs, m, rfl, _⟩ := h; rfl
  · obtain ⟨r, b, bl, zs, m, rfl, R, g, hm1, hm, lt, kk⟩ := h
    have HU := Ww hr
    have hz4 : zs.length ≤ 4 := by have := g.len; rwa [List.length_map] at this
    refine ⟨_, (zp (zF (i := 2) wW.nd rfl (Or.inl rfl) (zJ ji Ub (hr.mono (by decide)) (zc (pv 0) zg)))
      (zp (zF (i := 3) wW.nd rfl (Or.inl rfl) (zM (zc (zJ qb jC (hr.mono (by decide)) (zc (pv 0) (zc (pv 1) (zc zm zg)))) (zc (zJ qb jC (hr.mono (by decide)) (zc (pv 0) (zc (pv 1) (zc zm zg)))) zg))))
      (zp (vY PassesOwn.never rfl (yp rfl T.n_range (zc zm zg)) (zY (i := 4) wW.nd rfl (Or.inl rfl))
        (zp (zF (i := 5) wW.nd rfl (Or.inl rfl) (zM (zc (zJ xx wA (hr.mono (by decide)) (zc (pv 2) (zc (pv 1) zg))) (zc (zJ yM xr (hr.mono (by decide)) (zc (pv 2) (zc (pv 1) zg))) zg))))
        (zp (xX (PW.pt (VR (zO (Jc K HU) (pv 5) (pv 3) (zT _)) (Xd (zO (Jc K HU) (pv 2) (pv 0) (zT _)))))
          (zu (zH WP))
          yg)
        (zu (xX (zO (Jc K HU) (xV (show CScope (zq vB) _ "one" ["rule", "m", "handed", "dues", "turn", "found"] [] [] from ⟨rfl, by decide +kernel, by decide +kernel, rfl, by decide +kernel, rfl, by decide +kernel, by decide +kernel⟩) rfl (jX K (pv 5)) (fun _ _ _ _ => (Zy (PW.pt (VR (tL (zA (Q6 K) (by rfl) T.n_isinstance boot_isinstance (zc (pv 0) (zc (jl (v := .ty "bool") rfl T.n_bool boot_bool rfl) zg)))) (Xd (PW.pt (Qo (Zo (tL (zA (Q6 K) (by rfl) T.n_isinstance boot_isinstance (zc (pv 0) (zc (jl (v := .ty "int") rfl T.n_int boot_int rfl) zg))))) (Wc (zO Wb (pv 0) tR (zT _)))))))))) (fun _ _ _ _ => (pv 0))) (zM zg) (zT _))
          (zu (zH WP))
          yg)))))
      (zu (zH WP))))), ?_⟩
    refine ⟨_, rfl, r, b, bl, zs, rfl, R, by omega, fun r' bl' zs' H1 s1 R1 e1 _ _ _ => ?_⟩
    have g' : yl b (zs'.map (·.2)) := by rw [e1]; exact g
    refine ⟨_, rfl, _, rfl, r, b, bl, zs, m, 0, rfl, R.same s1, g, hm1, hm, by omega, fun u1 H2 s2 hl _ => ?_⟩
    have hu1 := hl rfl
    refine ⟨_, rfl, _, rfl, r, b, bl, zs, m, 1, rfl, (R.same s1).same s2, g, hm1, hm, by omega, fun u2 H3 s3 _ hg => ?_⟩
    have hu2 := hg rfl
    refine ⟨(by show 2 ≤ sizeLine; decide), fun da hda => ?_⟩
    have m4 := zj hda (o := .lst [u1, u2])
    have s04 := ((s1.trans s2).trans s3).trans m4
    have R4 := R.same s04
    have R4' := ((R1.same s2).same s3).same m4
    have hd4 : (upd H3 da (.lst [u1, u2])) da = some (.lst [u1, u2]) := zf
    generalize upd H3 da (.lst [u1, u2]) = H4 at s04 R4 R4' hd4
    obtain ⟨t1, tr1, td1, te1⟩ := hu1.num.tr
    obtain ⟨t2, tr2, td2, te2⟩ := hu2.num.tr
    refine ⟨2, rfl, by decide, by decide, wF (lo := 0) (n := 2) (fun i σ Hc => ∃ v4 v5 : Option V, σ = [some (.ref r), some (.int m), some (.ref r'), some (.ref da), v4, v5] ∧ RuleAt Hc r b bl zs ∧ RuleAt Hc r' b bl' zs' ∧ Hc da = some (.lst [u1, u2]) ∧ LT T0 Hc ∧ SameL T0 H Hc) ⟨_, _, rfl, R4, R4', hd4, lt.same s04, SameL.of s04⟩ ?_ ?_⟩
    · rintro i σ Hc hi ⟨v4, v5, rfl, Rc, Rc', hdc, ltc, sc⟩
      refine ⟨_, rfl, _, rfl, r', b, bl', zs', m, rfl, Rc', g', ⟨hm1, hm⟩, ltc, fun w1 H5 hw1 s5 lt5 => ?_⟩
      rw [e1] at hw1
      obtain rfl := Z4 hw1 hu1
      refine ⟨_, rfl, _, rfl, r', b, bl', zs', m, rfl, Rc'.sameL ltc s5, g', ⟨hm1, hm⟩, lt5, fun w2 H6 hw2 s6 lt6 => ?_⟩
      rw [e1] at hw2
      obtain rfl := ZV hw2 hu2
      refine ⟨(by show 2 ≤ sizeLine; decide), fun fa hfa => ?_⟩
      have m7 := zj hfa (o := .lst [w1, w2])
      have R7 := ((Rc.sameL ltc s5).sameL lt5 s6).same m7
      have R7' := ((Rc'.sameL ltc s5).sameL lt5 s6).same m7
      have hd5 := s5 _ _ (ltc.lst hdc) hdc
      have hd7 := m7 _ _ (s6 _ _ (lt5.lst hd5) hd5)
      have lt7 := lt6.same m7
      have s07 : SameL T0 H (upd H6 fa (.lst [w1, w2])) := ((sc.trans s5).trans s6).trans (SameL.of m7)
      have hf7 : (upd H6 fa (.lst [w1, w2])) fa = some (.lst [w1, w2]) := zf
      generalize upd H6 fa (.lst [w1, w2]) = H7 at R7 R7' hd7 lt7 s07 hf7
      have trl : ∀ {a : Addr}, H7 a = some (.lst [w1, w2]) → TrAt K H7 (.lst [t1, t2]) (.ref a) := fun {a} h => by
        rw [TrAt]
        refine ⟨a, _, rfl, SqL.of h, ?_⟩
        rw [TrsAt]
        refine ⟨_, _, rfl, tr1 _ _, ?_⟩
        rw [TrsAt]
        exact ⟨_, _, rfl, tr2 _ _, by rw [TrsAt]⟩
      refine ⟨_, rfl, _, rfl, .lst [t1, t2], .lst [t1, t2], trl hf7, trl hd7, (by rw [wj, yr, yr, yr]; omega), _, rfl, ?_⟩
      rw [if_pos rfl, jd]
      refine xT ⟨_, rfl, _, rfl, VL b (zs'.map (·.2)), VL b (zs.map (·.2)), TrAt.rule R7', TrAt.rule R7, zaJ _ _, _, rfl, ?_⟩
      rw [if_pos rfl, e1, jd]
      refine xT ?_
      refine ⟨_, rfl, fa, rfl, ⟨_, SqL.of hf7⟩, yO (K := K) (a := fa) (xs := [w1, w2]) (fun j ys Hd => ys = [] ∧ Hd = H7) ⟨rfl, rfl⟩ (fun j ys Hd _ ⟨_, e⟩ => by rw [e]; exact SqL.of hf7) ?_ ?_⟩
      · rintro j u ys Hd hj ⟨rfl, rfl⟩
        have hnu : NumV u := by
          match j, hj with
          | 0, hj => rw [← Option.some.inj hj]; exact hu1.num
          | 1, hj => rw [← Option.some.inj hj]; exact hu2.num
          | j + 2, hj => simp at hj
        refine ⟨by decide, ?_⟩
        rcases hnu with rfl | ⟨g, rfl⟩
        · refine ⟨_, rfl, _, _, _, _, rfl, .non, Vl, _, rfl, xT ?_⟩
          refine ⟨_, rfl, _, _, _, _, rfl, .non, UG, _, rfl, wO ?_⟩
          exact ⟨_, rfl, rfl, _, rfl, zb0 (by rw [decide_eq_true rfl]; rfl) ⟨rfl, rfl⟩⟩
        · refine ⟨_, rfl, _, _, _, _, rfl, .int _, YG, _, rfl, xT ?_⟩
          exact ⟨_, rfl, _, _, _, _, rfl, .int _, Xr, _, rfl, xT (xT ⟨rfl, rfl⟩)⟩
      rintro ys Hd ⟨rfl, rfl⟩ ea hea
      have me := zj hea (o := .lst [])
      refine ⟨(by decide : 0 ≤ sizeLine), fun p0 hp0 => ?_⟩
      have mp := zj hp0 (o := .lst [])
      refine ⟨.lst [], .lst [], ?_, ?_, (by rw [wj, yr]; omega), _, rfl, ?_⟩
      · rw [TrAt]; exact ⟨ea, _, rfl, SqL.of (mp _ _ zf), by rw [TrsAt]⟩
      · rw [TrAt]; exact ⟨p0, _, rfl, SqL.of zf, by rw [TrsAt]⟩
      rw [if_pos rfl, ZC]
      have m8 := me.trans mp
      exact xT ⟨_, _, rfl, R7.same m8, R7'.same m8, m8 _ _ hd7, lt7.same m8, s07.trans (SameL.of m8)⟩
    · rintro σ Hc ⟨v4, v5, rfl, Rc, Rc', hdc, ltc, sc⟩
      exact kk Hc sc ltc
end
theorem Ut {b : Nat} {c : Nat} (h2 : 2 ≤ b) (h16 : b ≤ 16) (hc : c < b) : yl b [[(c : Int)]] := ⟨h2, h16, (by show 1 ≤ 4; decide), fun l hl => by rw [List.mem_singleton.mp hl]; exact ⟨by simp, (by show 1 ≤ 4; decide), fun f hf => by rw [List.mem_singleton.mp hf]; omega⟩, by simp⟩
theorem zaj {p : Nat → Bool} {a k : Nat} (h : ∀ r, r < k → p (a + r) = false) : many p (a + k) = many p a := by
  rw [tG]
  have : ∀ j, j ≤ k → many (fun r => p (a + r)) j = 0 := fun j hj => by
    induction j with
    | zero => rfl
    | succ j ih => rw [many, ih (by omega), if_neg (by rw [h j (by omega)]; exact Bool.false_ne_true)]
  rw [this k (Nat.le_refl _), Nat.add_zero]
theorem Yt {a c : Nat} (h1 : 1 ≤ a) (ha : a < 10) (hc : c < 10) : yZ 10 (a * 10 + c) = [(a : Int), (c : Int)] := by
  rw [wy (by decide) h1 hc, jq ha]; rfl
theorem Z7 {a d c : Nat} (h1 : 1 ≤ a) (ha : a < 10) (hd : d < 10) (hc : c < 10) : yZ 10 ((a * 10 + d) * 10 + c) = [(a : Int), (d : Int), (c : Int)] := by
  rw [wy (by decide) (by omega) hc, Yt h1 ha hd]; rfl
theorem Uh {c : Int} : ∀ {fs : List Int}, c ∈ fs → lacks [[c]] fs = false := fun {fs} h => by
  obtain ⟨l1, l2, rfl⟩ := List.append_of_mem h
  have := Vc (ls := [[c]]) (st := [c]) (by simp) (by simp) l1
  cases e : lacks [[c]] (l1 ++ c :: l2) with
  | false => rfl
  | true =>
    rw [show l1 ++ c :: l2 = (l1 ++ [c]) ++ l2 by simp] at e
    rw [Xn (by simp) e] at this; cases this
theorem zcZ : LeastL [[1]] 2 2 .non := .inl ⟨rfl, by
  have ne : ∀ l ∈ ([[1]] : List (List Int)), l ≠ [] := by decide
  unfold low
  rw [if_neg (by decide), ← ug ne (by decide), ← ug ne (by decide)]
  decide +kernel⟩
theorem zel : LeastL [[0]] 10 3 (.int (111 : Nat)) := .inr ⟨111, rfl, by unfold gd; rw [show (111 : Nat) = (1 * 10 + 1) * 10 + 1 from rfl, Z7 (by decide) (by decide) (by decide) (by decide)]; decide, by
  unfold low
  rw [if_neg (by decide)]
  show many (gd [[0]] 10) (100 + 11) = many (gd [[0]] 10) 100
  refine zaj fun r hr => ?_
  unfold gd
  apply Uh
  by_cases h : r < 10
  · rw [show 100 + r = (1 * 10 + 0) * 10 + r by omega, Z7 (by decide) (by decide) (by decide) h]; simp
  · rw [show 100 + r = (1 * 10 + 1) * 10 + 0 by omega, Z7 (by decide) (by decide) (by decide) (by decide)]; simp, by decide⟩
theorem v88 : GreatestL [[9]] 10 2 (.int (88 : Nat)) := by
  have g : gd [[9]] 10 88 = true := by unfold gd; rw [show (88 : Nat) = 8 * 10 + 8 from rfl, Yt (by decide) (by decide) (by decide)]; decide
  have e : many (gd [[9]] 10) (89 + 11) = many (gd [[9]] 10) 89 := zaj fun r hr => by
    unfold gd
    apply Uh
    by_cases h : r = 0
    · rw [show 89 + r = 8 * 10 + 9 by omega, Yt (by decide) (by decide) (by decide)]; simp
    · rw [show 89 + r = 9 * 10 + (r - 1) by omega, Yt (by decide) (by decide) (by omega)]; simp
  have e2 : many (gd [[9]] 10) (88 + 1) = many (gd [[9]] 10) 88 + 1 := by rw [many, if_pos g]
  refine .inr ⟨88, rfl, g, ?_, by decide, ?_⟩
  · rw [← e2]; exact e.symm
  · unfold low
    rw [if_neg (by decide)]
    exact Nat.lt_of_le_of_lt (je _ (show 10 ^ (2 - 1) ≤ 88 by decide)) (YM _ (by decide) g)
section
variable {P : Program} {w : World} {K : PySem.W.Frag} {mg : Str → Option Value} {base : Heap} {T0 : Addr}
def Uu (K : PySem.W.Frag) (T : Addr) : Sp := fun vs H Q _ => ∃ (a : Addr) (ns : List Int), vs = [.ref a] ∧ SqL K H a (ns.map V.int) ∧ ns.length ≤ 63 ∧ LT T H ∧ ∀ H', Q (.bl true) H'
theorem Wk : zB ["script", "deck", "k", "rule", "m"] ["script"] (zq WQ) := ⟨rfl, rfl, rfl, by decide +kernel, rfl, by decide +kernel, by decide +kernel⟩
set_option maxHeartbeats 0 in
theorem zcU {f f1 f2 f3 f4 f5 f7 f8 f9 : Addr} {fd fd1 fd2 fd3 fd4 fd5 fd7 fd8 fd9 : FuncData} (D : Df K mg "law" WQ ["script"] f fd) (tE : Df K mg "_law_deck" qG ["script"] f1 fd1) (xM : Df K mg "_law_some_rule" xg ["deck"] f2 fd2) (xj : Df K mg "_law_tight_rule" yw ["deck"] f3 fd3) (xP : Df K mg "_law_lengths" vq ["deck"] f4 fd4)
    (qC : Df K mg "_law_right" vB ["rule", "m"] f5 fd5) (Zh : FnOk P w K mg base CX0 10 f5 fd5 ["rule", "m"] (qM T0)) (xx : Df K mg "least_long" vN ["rule", "m"] f7 fd7) (wA : FnOk P w K mg base CX0 9 f7 fd7 ["rule", "m"] (Zv T0 j7 LeastL)) (yM : Df K mg "greatest_long" xN ["rule", "m"] f9 fd9) (xr : FnOk P w K mg base CX0 9 f9 fd9 ["rule", "m"] (Zv T0 j7 GreatestL)) (zy : Df K mg "_law_draw" wu ["deck", "many"] f8 fd8) (T : Blt mg) : FnOk P w K mg base CX0 11 f fd ["script"] (Uu K T0) := by
  have W9 : FnOk P w K mg base CX0 1 f1 fd1 ["script"] (jz K) := Ys tE T
  have zE : FnOk P w K mg base CX0 1 f8 fd8 ["deck", "many"] wD := vU zy T
  have jV : FnOk P w K mg base CX0 2 f2 fd2 ["deck"] vV := qw xM zy T
  have qX : FnOk P w K mg base CX0 2 f3 fd3 ["deck"] w6 := tK xj zy T
  have qP : FnOk P w K mg base CX0 2 f4 fd4 ["deck"] uH := jR xP zy T
  refine D.fn.ok Wk (fun vs H Q E h => ?_) (fun cdv A outer s H vs Q E hr h => ?_)
  · obtain ⟨a, ns, rfl, _⟩ := h; rfl
  · obtain ⟨a, ns, rfl, hS, hlen, lt, kk⟩ := h
    refine ⟨_, (zp (zF (i := 1) Wk.nd rfl (Or.inl rfl) (zJ tE W9 (hr.mono (by decide)) (zc (pv 0) zg)))
      (zp (vY PassesOwn.never rfl (yp rfl T.n_range (zc zm zg)) (zY (i := 2) Wk.nd rfl (Or.inl rfl))
        (zp (zF (i := 3) Wk.nd rfl (Or.inl rfl) (zP (wL K) (zM (zc (zJ xM jV (hr.mono (by decide)) (zc (pv 1) zg)) (zc (zJ xj qX (hr.mono (by decide)) (zc (pv 1) zg)) zg))) (uW VJ (by rfl) T.n_int boot_int (zc (qu ZX (zJ zy zE (hr.mono (by decide)) (zc (pv 1) (zc zm zg))) zm (zT _)) zg)) (fun _ _ => rfl)))
        (zu (vY PassesOwn.never rfl (jX K (zM (zc (zJ xP qP (hr.mono (by decide)) (zc (pv 1) zg)) (zc (zJ xP qP (hr.mono (by decide)) (zc (pv 1) zg)) (zc (zK yz zm (zJ zy zE (hr.mono (by decide)) (zc (pv 1) (zc zm zg)))) (zc zm (zc zm zg))))))) (zY (i := 4) Wk.nd rfl (Or.inl rfl))
          (zu (xX (Zo (tL (zJ qC Zh (hr.mono (by decide)) (zc (pv 3) (zc (pv 4) zg)))))
            (zu (zH WP))
            yg))))))
      (zp (xX (zO Wb (zJ xx wA (hr.mono (by decide)) (zc (ue (zc zm (zc (zM (zc (zM (zc zm zg)) zg)) zg))) (zc zm zg))) tR (zT _))
        (zu (zH WP))
        yg)
      (zu (zH (jN (qu ZX (zJ xx wA (hr.mono (by decide)) (zc (ue (zc zm (zc (zM (zc (zM (zc zm zg)) zg)) zg))) (zc zm zg))) zm (zT _)) (jm (qu ZX (zJ yM xr (hr.mono (by decide)) (zc (ue (zc zm (zc (zM (zc (zM (zc zm zg)) zg)) zg))) (zc zm zg))) zm (zT _))))))))), ?_⟩
    refine ⟨_, rfl, a, ns, rfl, hS, hlen, fun d fp H0 D0 s0 _ => ?_⟩
    refine ⟨10, rfl, by decide, by decide, wF (lo := 0) (n := 10) (fun i σ H2 => ∃ v2 v3 v4 : Option V, σ = [some (.ref a), some (.ref d), v2, v3, v4] ∧ Deck H2 d fp ∧ LT T0 H2) ⟨none, none, none, rfl, D0, lt.same s0⟩ ?_ ?_⟩
    · rintro i σ H2 hi ⟨v2, v3, v4, rfl, D2, lt2⟩
      refine ⟨_, rfl, d, fp, rfl, D2, fun r1 b1 bl1 zs1 H3 S3 RA3 g1 => ?_⟩
      refine ⟨_, rfl, d, fp, rfl, S3.dk, fun r2 b2 bl2 zs2 H4 S4 RA4 g2 => ⟨(by show 2 ≤ sizeLine; decide), fun q hq => ?_⟩⟩
      have fq := S4.dk.fresh hq
      have S5 := (S3.trans S4).new hq (o := .lst [V.ref r1, V.ref r2])
      have hq5 : upd H4 q (.lst [V.ref r1, V.ref r2]) q = some (.lst [V.ref r1, V.ref r2]) := zf
      have RB := (RA3.step S4).same ((zj hq (o := .lst [V.ref r1, V.ref r2])).aw fp)
      have RC := RA4.same ((zj hq (o := .lst [V.ref r1, V.ref r2])).aw fp)
      generalize upd H4 q (.lst [V.ref r1, V.ref r2]) = H5 at S5 hq5 RB RC
      refine ⟨_, rfl, d, _, fp, rfl, S5.dk, by decide, by decide, fun x H6 hx S6 => ⟨rfl, .inr ⟨_, rfl, ?_⟩⟩⟩
      have RB6 := RB.step S6
      have RC6 := RC.step S6
      obtain ⟨r, b, bl, zs, hat, RA6, g⟩ : ∃ (r : Addr) (b : Nat) (bl : Addr) (zs : List (Addr × List Int)), atI [V.ref r1, V.ref r2] (if decide (V.int (x : Int) = V.int 0) = true then 1 else 0) = some (.ref r) ∧ RuleAt (aw fp H6) r b bl zs ∧ yl b (zs.map (·.2)) := by
        generalize decide (V.int (x : Int) = V.int 0) = kb
        cases kb with
        | false => exact ⟨r1, b1, bl1, zs1, rfl, RB6, g1⟩
        | true => exact ⟨r2, b2, bl2, zs2, rfl, RC6, g2⟩
      refine ⟨q, _, _, _, rfl, rfl, SqL.of (S6.get fq hq5), hat, ?_⟩
      have lt6 := (S5.trans S6).lt D2 lt2
      have hz4 : zs.length ≤ 4 := by have := g.len; rwa [List.length_map] at this
      refine ⟨_, rfl, d, fp, rfl, S6.dk, fun m1 H7 a1 a2 S7 => ?_⟩
      refine ⟨_, rfl, d, fp, rfl, S7.dk, fun m2 H8 a3 a4 S8 => ?_⟩
      refine ⟨_, rfl, d, _, fp, rfl, S8.dk, by decide, by decide, fun x3 H8' hx3 S8' => ⟨_, _, rfl, rfl, (by show 5 ≤ sizeLine; decide), fun q2 hq2 => ?_⟩⟩
      have fq2 := S8'.dk.fresh hq2
      have S9 := ((S7.trans S8).trans S8').new hq2 (o := .lst [V.int (m1 : Int), V.int (m2 : Int), V.int ((1 : Int) + (x3 : Int)), V.int 60, V.int 1])
      have hq9 : upd H8' q2 (.lst [V.int (m1 : Int), V.int (m2 : Int), V.int ((1 : Int) + (x3 : Int)), V.int 60, V.int 1]) q2 = some (.lst [V.int (m1 : Int), V.int (m2 : Int), V.int ((1 : Int) + (x3 : Int)), V.int 60, V.int 1]) := zf
      have RA9 := RA6.step S9
      have lt9 := S9.lt S6.dk lt6
      refine ⟨q2, rfl, ⟨_, SqL.of hq9⟩, Qy (K := K) (a := q2) (xs := [V.int (m1 : Int), V.int (m2 : Int), V.int ((1 : Int) + (x3 : Int)), V.int 60, V.int 1]) (fun j σ H10 => ∃ v2 v4 : Option V, σ = [some (.ref a), some (.ref d), v2, some (.ref r), v4] ∧ Deck H10 d fp ∧ RuleAt (aw fp H10) r b bl zs ∧ LT T0 H10 ∧ H10 q2 = some (.lst [V.int (m1 : Int), V.int (m2 : Int), V.int ((1 : Int) + (x3 : Int)), V.int 60, V.int 1])) ⟨_, _, rfl, S9.dk, RA9, lt9, hq9⟩ (fun j σ H10 _ ⟨_, _, _, _, _, _, e⟩ => SqL.of e) ?_ ?_⟩
      · rintro j y σ H10 hy ⟨v2, v4, rfl, D10, RA10, lt10, hq10⟩
        obtain ⟨m, rfl, hm1, hm2⟩ : ∃ m : Nat, y = .int m ∧ 1 ≤ m ∧ m ≤ 60 := by
          match j, hy with
          | 0, hy => exact ⟨m1, (Option.some.inj hy).symm, a1, a2⟩
          | 1, hy => exact ⟨m2, (Option.some.inj hy).symm, a3, a4⟩
          | 2, hy => exact ⟨1 + x3, (Option.some.inj hy).symm.trans (by rw [Int.natCast_add]; rfl), by omega, by omega⟩
          | 3, hy => exact ⟨60, (Option.some.inj hy).symm, by omega, by omega⟩
          | 4, hy => exact ⟨1, (Option.some.inj hy).symm, by omega, by omega⟩
          | j + 5, hy => simp at hy
        refine ⟨_, rfl, _, rfl, r, b, bl, zs, m, rfl, RA10.all, g, hm1, hm2, lt10, fun H11 s11 lt11 => ⟨_, rfl, xT ?_⟩⟩
        exact ⟨_, _, rfl, D10.sameL lt10 s11, RA10.awL lt10 s11, lt11, s11 _ _ (lt10.lst hq10) hq10⟩
      · rintro σ H10 ⟨v2, v4, rfl, D10, RA10, lt10, hq10⟩
        exact ⟨_, _, _, rfl, D10, lt10⟩
    · rintro σ H2 ⟨v2, v3, v4, rfl, D2, lt2⟩
      refine ⟨(by show 1 ≤ sizeLine; decide), fun p1 q1 => ⟨(by show 1 ≤ sizeLine; decide), fun p2 q2 => ⟨(by show 2 ≤ sizeLine; decide), fun p3 q3 => ?_⟩⟩⟩
      have t1 := zj q1 (o := .lst [.int 1])
      have t2 := zj q2 (o := .lst [.ref p1])
      have t3 := zj q3 (o := .tup [.int 2, .ref p2])
      refine ⟨p3, 2, p2, [(p1, [1])], 2, rfl, ⟨zf, t3 _ _ zf, fun z hz => by rw [List.mem_singleton.mp hz]; exact t3 _ _ (t2 _ _ zf)⟩, Ut (c := 1) (by decide) (by decide) (by decide), ⟨by decide, by decide⟩, ((lt2.same t1).same t2).same t3, fun v H3 hv s3 lt3 => ?_⟩
      obtain rfl := Z4 hv zcZ
      refine ⟨rfl, _, rfl, zb0 (by rw [decide_eq_true rfl]; rfl) ?_⟩
      refine ⟨(by show 1 ≤ sizeLine; decide), fun p4 q4 => ⟨(by show 1 ≤ sizeLine; decide), fun p5 q5 => ⟨(by show 2 ≤ sizeLine; decide), fun p6 q6 => ?_⟩⟩⟩
      have t4 := zj q4 (o := .lst [.int 0])
      have t5 := zj q5 (o := .lst [.ref p4])
      have t6 := zj q6 (o := .tup [.int 10, .ref p5])
      refine ⟨p6, 10, p5, [(p4, [0])], 3, rfl, ⟨zf, t6 _ _ zf, fun z hz => by rw [List.mem_singleton.mp hz]; exact t6 _ _ (t5 _ _ zf)⟩, Ut (c := 0) (by decide) (by decide) (by decide), ⟨by decide, by decide⟩, ((lt3.same t4).same t5).same t6, fun v H4 hv s4 lt4 => ?_⟩
      obtain rfl := Z4 hv zel
      refine ⟨rfl, _, rfl, wO ?_⟩
      refine ⟨(by show 1 ≤ sizeLine; decide), fun p7 q7 => ⟨(by show 1 ≤ sizeLine; decide), fun p8 q8 => ⟨(by show 2 ≤ sizeLine; decide), fun p9 q9 => ?_⟩⟩⟩
      have t7 := zj q7 (o := .lst [.int 9])
      have t8 := zj q8 (o := .lst [.ref p7])
      have t9 := zj q9 (o := .tup [.int 10, .ref p8])
      refine ⟨p9, 10, p8, [(p7, [9])], 2, rfl, ⟨zf, t9 _ _ zf, fun z hz => by rw [List.mem_singleton.mp hz]; exact t9 _ _ (t8 _ _ zf)⟩, Ut (c := 9) (by decide) (by decide) (by decide), ⟨by decide, by decide⟩, ((lt4.same t7).same t8).same t9, fun v H5 hv s5 lt5 => ?_⟩
      obtain rfl := ZV hv v88
      exact ⟨rfl, kk H5⟩
end
open PySem L2
theorem fb1 {P : List Value → Prop} (h : ∀ a, P [a]) : ∀ us : List Value, us.length = 1 → P us
  | [a], _ => h a
theorem fb2 {P : List Value → Prop} (h : ∀ a b, P [a, b]) : ∀ us : List Value, us.length = 2 → P us
  | [a, b], _ => h a b
theorem fb3 {P : List Value → Prop} (h : ∀ a b c, P [a, b, c]) : ∀ us : List Value, us.length = 3 → P us
  | [a, b, c], _ => h a b c
def FF (K : PySem.W.Frag) (n q : Str) (st : Stmt) (f : Addr) (cd : Value) : Prop := ∃ (od an : Option Addr) (sl : Array (Option Value)) (oc kV dc pm ct : Value), K.lookup f = some ⟨oc, od, .func (PySem.W.fnOf n q (wJ st) (yS st) (zq st) .none kV dc pm an cd ct), sl⟩ ∧ PySem.W.codeIn K cd q = true ∧ PySem.W.keepIn K (.ref f) = true
def FD (K : PySem.W.Frag) (n : Str) (st : Stmt) : Prop := ∃ (f : Addr) (cd : Value), PySem.W.nsIn K mainGlobals n = some (some (.ref f)) ∧ FF K n n st f cd
def FM (K : PySem.W.Frag) (C : Addr) (n q : Str) (st : Stmt) : Prop := ∃ (f : Addr) (cd : Value), PySem.W.findIn K (.ref C) n = some (some (.ref f)) ∧ PySem.W.isFn K (.ref f) = true ∧ FF K n q st f cd
section
variable {K : PySem.W.Frag} {n q : Str} {st : Stmt} {f C : Addr} {cd : Value} {od an : Option Addr} {sl : Array (Option Value)} {oc kV dc pm ct : Value}
theorem fdm (a : PySem.W.nsIn K mainGlobals n = some (some (.ref f))) (l : K.lookup f = some ⟨oc, od, .func (PySem.W.fnOf n n (wJ st) (yS st) (zq st) .none kV dc pm an cd ct), sl⟩) (e : PySem.W.codeIn K cd n = true) (k : PySem.W.keepIn K (.ref f) = true) : FD K n st := ⟨f, cd, a, od, an, sl, oc, kV, dc, pm, ct, l, e, k⟩
theorem fmm (a : PySem.W.findIn K (.ref C) n = some (some (.ref f))) (i : PySem.W.isFn K (.ref f) = true) (l : K.lookup f = some ⟨oc, od, .func (PySem.W.fnOf n q (wJ st) (yS st) (zq st) .none kV dc pm an cd ct), sl⟩) (e : PySem.W.codeIn K cd q = true) (k : PySem.W.keepIn K (.ref f) = true) : FM K C n q st := ⟨f, cd, a, i, od, an, sl, oc, kV, dc, pm, ct, l, e, k⟩
def FB (n q : Str) (st : Stmt) (ps : List Str) : Prop := ∀ (kV doc pm : Value) (an : Option Addr) (cdv ct : Value) (us : List Value), us.length = ps.length → bindArgs (PySem.W.fnOf n q (wJ st) (yS st) (zq st) .none kV doc pm an cdv ct) ⟨us, []⟩ = pure (ps.zip us)
theorem FD.df {h : Heap} {mg : Str → Option Value} {ps : List Str} (x : FD K n st) (X : K.In h) (G : h.Ns mainGlobals mg) (b : FB n n st ps) : ∃ f fd, Df K mg n st ps f fd := by
  obtain ⟨f, cd, a, od, an, sl, oc, kV, dc, pm, ct, l, e, k⟩ := x
  exact ⟨_, _, za4 X G a l e k b⟩
theorem FM.mt {ps : List Str} (x : FM K C n q st) (b : FB n q st ps) : ∃ f fd, Mt K C q n st ps f fd := by
  obtain ⟨f, cd, a, i, od, an, sl, oc, kV, dc, pm, ct, l, e, k⟩ := x
  exact ⟨_, _, ⟨Ql (st := st) l e k, (Ql (st := st) l e k).binds b, ⟨a, i, k⟩⟩⟩
end
set_option maxHeartbeats 0 in
theorem zc7 {l : PySem.W.OpenLaw} {w : World} {K : PySem.W.Frag} {h : Heap} {mg : Str → Option Value} {fa T0 c0 : Addr} (X : K.In h) (G : h.Ns mainGlobals mg) (hfa : mg "law" = some (.ref fa)) (hcT : PySem.W.codeHdIn K c0 T0 = true) (hgT : mainGlobals ≠ T0)
    (x0 : FD K "_wall" zcj)
    (x1 : FD K "is_whole" vZ)
    (x2 : FD K "is_number" qx)
    (x3 : FD K "is_base" ZG)
    (x4 : FD K "is_figure" qt)
    (x5 : FD K "are_figures" wR)
    (x6 : FD K "is_stretch" uN)
    (x7 : FD K "is_rising" uG)
    (x8 : FD K "is_bad_list" wV)
    (x9 : FD K "is_rule" ZD)
    (x10 : FD K "check_rule" vM)
    (x11 : FD K "stands_within" xK)
    (x12 : FD K "lacks_all" wz)
    (x13 : FD K "begins_one" vH)
    (x14 : FD K "longest_stand" w5)
    {f15 : Addr} {od15 an15 : Option Addr} {sl15 : Array (Option Value)} {oc15 kV15 dc15 pm15 ct15 : Value} (a15 : PySem.W.nsIn K mainGlobals "stands_of" = some (some (.ref f15)))
    (l15 : K.lookup f15 = some ⟨oc15, od15, .func (PySem.W.fnOf "stands_of" "stands_of" (wJ yc) (yS yc) (zq yc) .none kV15 dc15 pm15 an15 (.ref c0) ct15), sl15⟩) (e15 : PySem.W.codeIn K (.ref c0) "stands_of" = true) (k15 : PySem.W.keepIn K (.ref f15) = true)
    (x16 : FD K "place_behind" vI)
    (x17 : FD K "steps_from" vL)
    (x18 : FD K "all_steps" uD)
    (x19 : FD K "check_length" wB)
    (x20 : FD K "count_shorter" xJ)
    (x21 : FD K "least_long" vN)
    (x22 : FD K "greatest_long" xN)
    (x23 : FD K "_law_deck" qG)
    (x24 : FD K "_law_draw" wu)
    (x25 : FD K "_law_some_rule" xg)
    (x26 : FD K "_law_own" u9)
    (x27 : FD K "_law_behind" wQ)
    (x28 : FD K "_law_steps" yR)
    (x29 : FD K "_law_table" yU)
    (x30 : FD K "_law_lengths" vq)
    (x31 : FD K "_law_tight_rule" yw)
    (x32 : FD K "_law_edge" vp)
    (x33 : FD K "_law_right" vB)
    (x34 : FD K "law" WQ)
    {C : Addr} (aC : PySem.W.nsIn K mainGlobals "Tails" = some (some (.ref C)))
    (yC0 : FM K C "__init__" "Tails.__init__" ur)
    (yC1 : FM K C "layer" "Tails.layer" xQ)
    (yC2 : FM K C "many_by" "Tails.many_by" yx)
    (yC3 : FM K C "many_under" "Tails.many_under" yJ)
    (yC4 : FM K C "many_below" "Tails.many_below" Yk)
    (yC5 : FM K C "many_within" "Tails.many_within" yo)
    (yC6 : FM K C "figure_at" "Tails.figure_at" xW)
    (yC7 : FM K C "number_at" "Tails.number_at" yP)
    (yC8 : FM K C "are_endless" "Tails.are_endless" ZM)
    (pgC : PySem.W.plainGet K C Str.empty = true) (hdC : PySem.W.hasDictIn K C = true) (poC : PySem.W.plainOver K C = true) (saC : PySem.W.findIn K (.ref C) "__setattr__" = some (some (.builtin "object.__setattr__"))) (mkC : PySem.W.makesIn K C = true) (kcC : PySem.W.keepIn K (.ref C) = true)
    (nC_base : PySem.W.findIn K (.ref C) "base" = some none)
    (nC_outset : PySem.W.findIn K (.ref C) "outset" = some none)
    (nC_steps : PySem.W.findIn K (.ref C) "steps" = some none)
    (nC_layers : PySem.W.findIn K (.ref C) "layers" = some none)
    {t0 : Tok} (g0 : PySem.W.nsIn K mainGlobals "LEAST_BASE" = some (some (.int 2 t0)))
    {t1 : Tok} (g1 : PySem.W.nsIn K mainGlobals "GREATEST_BASE" = some (some (.int 16 t1)))
    {t2 : Tok} (g2 : PySem.W.nsIn K mainGlobals "MOST_STRETCHES" = some (some (.int 4 t2)))
    {t3 : Tok} (g3 : PySem.W.nsIn K mainGlobals "LONGEST_STRETCH" = some (some (.int 4 t3)))
    {t4 : Tok} (g4 : PySem.W.nsIn K mainGlobals "MOST_FIGURES" = some (some (.int 60 t4)))
    (z0 : PySem.W.nsIn K mainGlobals "isinstance" = some none)
    (z1 : PySem.W.nsIn K mainGlobals "int" = some none)
    (z2 : PySem.W.nsIn K mainGlobals "bool" = some none)
    (z3 : PySem.W.nsIn K mainGlobals "list" = some none)
    (z4 : PySem.W.nsIn K mainGlobals "tuple" = some none)
    (z5 : PySem.W.nsIn K mainGlobals "reversed" = some none)
    (z6 : PySem.W.nsIn K mainGlobals "len" = some none)
    (z7 : PySem.W.nsIn K mainGlobals "max" = some none)
    (z8 : PySem.W.nsIn K mainGlobals "min" = some none)
    (z9 : PySem.W.nsIn K mainGlobals "range" = some none)
    (z10 : PySem.W.nsIn K mainGlobals "all" = some none)
    (z11 : PySem.W.nsIn K mainGlobals "any" = some none)
    (z12 : PySem.W.nsIn K mainGlobals "sorted" = some none)
    (z13 : PySem.W.nsIn K mainGlobals "enumerate" = some none)
    (z14 : PySem.W.nsIn K mainGlobals "repr" = some none)
    (z15 : PySem.W.nsIn K mainGlobals "sum" = some none)
    (z16 : PySem.W.nsIn K mainGlobals "abs" = some none)
    (z17 : PySem.W.nsIn K mainGlobals "zip" = some none)
    (z18 : PySem.W.nsIn K mainGlobals "str" = some none)
    (zD : PySem.W.nsIn K mainGlobals "dict" = some none)
    : ∃ fd : FuncData, (∀ (s : Shared) (v : Value), BindsTo s fd ⟨[v], []⟩ [("script", v)]) ∧ ∀ base : Heap, K.In base → base.Ns mainGlobals mg → base.BuiltinsAt mg T0 → FnOk l.prog w K mg base CX0 11 fa fd ["script"] (Uu K T0) := by
  obtain ⟨fL, cd34, aL, od34, an34, sl34, oc34, kV34, dc34, pm34, ct34, lL, eL, kL⟩ := x34
  have e := hfa.symm.trans (PySem.W.mg_of X G aL)
  cases e
  have T : Blt mg := ⟨PySem.W.mg_none_of X G z0, PySem.W.mg_none_of X G z1, PySem.W.mg_none_of X G z2, PySem.W.mg_none_of X G z3, PySem.W.mg_none_of X G z4, PySem.W.mg_none_of X G z5, PySem.W.mg_none_of X G z6, PySem.W.mg_none_of X G z7, PySem.W.mg_none_of X G z8, PySem.W.mg_none_of X G z9, PySem.W.mg_none_of X G z10, PySem.W.mg_none_of X G z11, PySem.W.mg_none_of X G z12, PySem.W.mg_none_of X G z13, PySem.W.mg_none_of X G z14⟩
  have U : zaG mg := ⟨PySem.W.mg_none_of X G z15, PySem.W.mg_none_of X G z16, PySem.W.mg_none_of X G z17, PySem.W.mg_none_of X G z18⟩
  have n_dict : mg "dict" = none := PySem.W.mg_none_of X G zD
  have jw := PySem.W.mg_of X G g0
  have uI := PySem.W.mg_of X G g1
  have ul := PySem.W.mg_of X G g2
  have vR := PySem.W.mg_of X G g3
  have tH := PySem.W.mg_of X G g4
  obtain ⟨_, _, D_wall⟩ := x0.df (ps := ["k"]) X G fun _ _ _ _ _ _ => fb1 fun _ => rfl
  obtain ⟨_, _, yF⟩ := x1.df (ps := ["thing"]) X G fun _ _ _ _ _ _ => fb1 fun _ => rfl
  obtain ⟨_, _, jx⟩ := x2.df (ps := ["thing"]) X G fun _ _ _ _ _ _ => fb1 fun _ => rfl
  obtain ⟨_, _, Yy⟩ := x3.df (ps := ["thing"]) X G fun _ _ _ _ _ _ => fb1 fun _ => rfl
  obtain ⟨_, _, jO⟩ := x4.df (ps := ["base", "thing"]) X G fun _ _ _ _ _ _ => fb2 fun _ _ => rfl
  obtain ⟨_, _, uM⟩ := x5.df (ps := ["base", "thing"]) X G fun _ _ _ _ _ _ => fb2 fun _ _ => rfl
  obtain ⟨_, _, ql⟩ := x6.df (ps := ["base", "thing"]) X G fun _ _ _ _ _ _ => fb2 fun _ _ => rfl
  obtain ⟨_, _, tO⟩ := x7.df (ps := ["stretches"]) X G fun _ _ _ _ _ _ => fb1 fun _ => rfl
  obtain ⟨_, _, uQ⟩ := x8.df (ps := ["base", "thing"]) X G fun _ _ _ _ _ _ => fb2 fun _ _ => rfl
  obtain ⟨_, _, YJ⟩ := x9.df (ps := ["thing"]) X G fun _ _ _ _ _ _ => fb1 fun _ => rfl
  obtain ⟨_, _, ww⟩ := x10.df (ps := ["thing"]) X G fun _ _ _ _ _ _ => fb1 fun _ => rfl
  obtain ⟨_, _, xY⟩ := x11.df (ps := ["stretch", "figures"]) X G fun _ _ _ _ _ _ => fb2 fun _ _ => rfl
  obtain ⟨_, _, yX⟩ := x12.df (ps := ["bad", "figures"]) X G fun _ _ _ _ _ _ => fb2 fun _ _ => rfl
  obtain ⟨_, _, uB⟩ := x13.df (ps := ["bad", "figures"]) X G fun _ _ _ _ _ _ => fb2 fun _ _ => rfl
  obtain ⟨_, _, vA⟩ := x14.df (ps := ["bad", "figures"]) X G fun _ _ _ _ _ _ => fb2 fun _ _ => rfl
  have jr : Df K mg "stands_of" yc ["bad"] _ _ := za4 X G a15 l15 e15 k15 fun _ _ _ _ _ _ => fb1 fun _ => rfl
  obtain ⟨_, _, uz⟩ := x16.df (ps := ["bad", "stands", "figures"]) X G fun _ _ _ _ _ _ => fb3 fun _ _ _ => rfl
  obtain ⟨_, _, qj⟩ := x17.df (ps := ["rule", "stands", "stand"]) X G fun _ _ _ _ _ _ => fb3 fun _ _ _ => rfl
  obtain ⟨_, _, jA⟩ := x18.df (ps := ["rule", "stands"]) X G fun _ _ _ _ _ _ => fb2 fun _ _ => rfl
  obtain ⟨_, _, yV⟩ := x19.df (ps := ["thing"]) X G fun _ _ _ _ _ _ => fb1 fun _ => rfl
  obtain ⟨_, _, yI⟩ := x20.df (ps := ["tails", "m"]) X G fun _ _ _ _ _ _ => fb2 fun _ _ => rfl
  obtain ⟨_, _, xx⟩ := x21.df (ps := ["rule", "m"]) X G fun _ _ _ _ _ _ => fb2 fun _ _ => rfl
  obtain ⟨_, _, yM⟩ := x22.df (ps := ["rule", "m"]) X G fun _ _ _ _ _ _ => fb2 fun _ _ => rfl
  obtain ⟨_, _, tE⟩ := x23.df (ps := ["script"]) X G fun _ _ _ _ _ _ => fb1 fun _ => rfl
  obtain ⟨_, _, zy⟩ := x24.df (ps := ["deck", "many"]) X G fun _ _ _ _ _ _ => fb2 fun _ _ => rfl
  obtain ⟨_, _, xM⟩ := x25.df (ps := ["deck"]) X G fun _ _ _ _ _ _ => fb1 fun _ => rfl
  obtain ⟨_, _, ji⟩ := x26.df (ps := ["rule"]) X G fun _ _ _ _ _ _ => fb1 fun _ => rfl
  obtain ⟨_, _, vX⟩ := x27.df (ps := ["bad", "end", "figure"]) X G fun _ _ _ _ _ _ => fb3 fun _ _ _ => rfl
  obtain ⟨_, _, xZ⟩ := x28.df (ps := ["rule"]) X G fun _ _ _ _ _ _ => fb1 fun _ => rfl
  obtain ⟨_, _, qm⟩ := x29.df (ps := ["rule", "m"]) X G fun _ _ _ _ _ _ => fb2 fun _ _ => rfl
  obtain ⟨_, _, xP⟩ := x30.df (ps := ["deck"]) X G fun _ _ _ _ _ _ => fb1 fun _ => rfl
  obtain ⟨_, _, xj⟩ := x31.df (ps := ["deck"]) X G fun _ _ _ _ _ _ => fb1 fun _ => rfl
  obtain ⟨_, _, qb⟩ := x32.df (ps := ["rule", "m", "last"]) X G fun _ _ _ _ _ _ => fb3 fun _ _ _ => rfl
  obtain ⟨_, _, qC⟩ := x33.df (ps := ["rule", "m"]) X G fun _ _ _ _ _ _ => fb2 fun _ _ => rfl
  have Dlaw : Df K mg "law" WQ ["script"] _ _ := za4 X G aL lL eL kL fun _ _ _ _ _ _ => fb1 fun _ => rfl
  obtain ⟨_, _, uK⟩ := yC0.mt (ps := ["self", "rule"]) fun _ _ _ _ _ _ => fb2 fun _ _ => rfl
  have Y6 : Mk K C _ := let ⟨a, i, _⟩ := uK.m; ⟨mkC, a, i, kcC⟩
  have YZ := uK.b
  obtain ⟨_, _, yC⟩ := yC1.mt (ps := ["self", "left"]) fun _ _ _ _ _ _ => fb2 fun _ _ => rfl
  obtain ⟨_, _, zN⟩ := yC2.mt (ps := ["self", "layer", "place", "stop"]) fun _ _ _ _ _ _ us hl => match us, hl with | [_, _, _, _], _ => rfl
  obtain ⟨_, _, ym⟩ := yC3.mt (ps := ["self", "place", "stop", "left"]) fun _ _ _ _ _ _ us hl => match us, hl with | [_, _, _, _], _ => rfl
  obtain ⟨_, _, J0⟩ := yC4.mt (ps := ["self", "figures"]) fun _ _ _ _ _ _ => fb2 fun _ _ => rfl
  obtain ⟨_, _, zL⟩ := yC5.mt (ps := ["self", "size"]) fun _ _ _ _ _ _ => fb2 fun _ _ => rfl
  obtain ⟨_, _, wG⟩ := yC6.mt (ps := ["self", "place", "k", "left"]) fun _ _ _ _ _ _ us hl => match us, hl with | [_, _, _, _], _ => rfl
  obtain ⟨_, _, yq⟩ := yC7.mt (ps := ["self", "size", "k"]) fun _ _ _ _ _ _ => fb3 fun _ _ _ => rfl
  obtain ⟨_, _, Ji⟩ := yC8.mt (ps := ["self"]) fun _ _ _ _ _ _ => fb1 fun _ => rfl
  have zz : ClT K mg C := ⟨⟨pgC, hdC, poC, saC⟩, PySem.W.mg_of X G aC, nC_base, nC_outset, nC_steps, nC_layers⟩
  refine ⟨PySem.W.fnOf "law" "law" (wJ WQ) (yS WQ) (zq WQ) .none kV34 dc34 pm34 an34 cd34 ct34, fun s v => .of_eq rfl, fun base _ _ hBM => ?_⟩
  have uV : FnOk l.prog w K mg base CX0 1 _ _ ["thing"] uE := qz yF T
  have WY : FnOk l.prog w K mg base CX0 2 _ _ ["thing"] Yc := Jv Yy yF T jw uI
  have Yq : FnOk l.prog w K mg base CX0 2 _ _ ["thing"] ju := Qh jx yF T
  have W9 : FnOk l.prog w K mg base CX0 1 _ _ ["script"] (jz K) := Ys tE T
  have zE : FnOk l.prog w K mg base CX0 1 _ _ ["deck", "many"] wD := vU zy T
  have Yp : FnOk l.prog w K mg base CX0 2 _ _ ["base", "thing"] jK := Qk jO yF T
  have jj : FnOk l.prog w K mg base CX0 3 _ _ ["base", "thing"] tQ := Wn uM jO Yp T
  have Zb : FnOk l.prog w K mg base CX0 4 _ _ ["base", "thing"] qO := Vk ql uM jj vR T
  have Wl : FnOk l.prog w K mg base CX0 1 _ _ ["stretches"] jt := YL tO T
  have jJ : FnOk l.prog w K mg base CX0 5 _ _ ["base", "thing"] tV := Vf uQ ql Zb tO ul T
  have We : FnOk l.prog w K mg base CX0 6 _ _ ["thing"] Yl := JP YJ Yy WY uQ jJ T
  have vo : FnOk l.prog w K mg base CX0 7 _ _ ["thing"] uy := Vr ww YJ We
  have Ze : FnOk l.prog w K mg base CX0 1 _ _ ["stretch", "figures"] uf := jh xY T
  have xG : FnOk l.prog w K mg base CX0 2 _ _ ["bad", "figures"] vW := U7 yX xY T
  have XD : FnOk l.prog w K mg base CX0 1 _ _ ["bad", "figures"] qR := Z2 uB T
  have tU : FnOk l.prog w K mg base CX0 3 _ _ ["bad", "figures"] ut := Xf vA yX xG uB T
  have Yo : FnOk l.prog w K mg base CX0 6 _ _ ["bad"] (jF T0) := U5 jr rfl hcT hBM hgT yX xG T
  have qJ : FnOk l.prog w K mg base CX0 4 _ _ ["bad", "stands", "figures"] uJ := X4 uz vA tU
  have Zw : FnOk l.prog w K mg base CX0 5 _ _ ["rule", "stands", "stand"] qN := Vv qj uz qJ T
  have Yj : FnOk l.prog w K mg base CX0 6 _ _ ["rule", "stands"] jn := Uy jA qj Zw T
  have vK : FnOk l.prog w K mg base CX0 1 _ _ ["self", "layer", "place", "stop"] (jH C) := Yn zN zz T U
  have uO : FnOk l.prog w K mg base CX0 2 _ _ ["self", "left"] (YF C) := WK yC zN zz T U
  have yu : FnOk l.prog w K mg base CX0 3 _ _ ["self", "place", "stop", "left"] (uw C) := Vx ym yC zN zz T U
  have zQ : FnOk l.prog w K mg base CX0 3 _ _ ["self", "size"] (wg C) := WW zL yC zN zz T U
  have uo : FnOk l.prog w K mg base CX0 4 _ _ ["self", "place", "k", "left"] (jL C) := Uv wG ym yu zz T
  have yG : FnOk l.prog w K mg base CX0 5 _ _ ["self", "size", "k"] (uT C) := Uw yq ym yu wG uo zz T
  have vh : FnOk l.prog w K mg base CX0 7 _ _ ["self", "rule"] (j8 T0 C) := zbf uK jr Yo jA Yj yX xG zz T
  have xR : FnOk l.prog w K mg base CX0 3 _ _ ["thing"] wZ := XR yV jx Yq tH
  have xn : FnOk l.prog w K mg base CX0 4 _ _ ["tails", "m"] (wI C) := Xl yI zL zQ zz
  have wA : FnOk l.prog w K mg base CX0 9 _ _ ["rule", "m"] (Zv T0 j7 LeastL) := Vu xx ww vo yV xR Y6 YZ vh zL zQ yI xn yq yG zz
  have xr : FnOk l.prog w K mg base CX0 9 _ _ ["rule", "m"] (Zv T0 j7 GreatestL) := YX yM ww vo yV xR Y6 YZ vh zL zQ yI xn yq yG zz
  have jV : FnOk l.prog w K mg base CX0 2 _ _ ["deck"] vV := qw xM zy T
  have qP : FnOk l.prog w K mg base CX0 2 _ _ ["deck"] uH := jR xP zy T
  have qX : FnOk l.prog w K mg base CX0 2 _ _ ["deck"] w6 := tK xj zy T
  have YK : FnOk l.prog w K mg base CX0 1 _ _ ["bad", "end", "figure"] uY := j9 vX T
  have vm : FnOk l.prog w K mg base CX0 2 _ _ ["rule"] (ux l.prog w) := Vq xZ vX T
  have Zm : FnOk l.prog w K mg base CX0 3 _ _ ["rule", "m"] (qT l.prog w) := Vz qm xZ vm n_dict T U
  have jC : FnOk l.prog w K mg base CX0 4 _ _ ["rule", "m", "last"] jD := Ux qb xZ vm qm Zm T
  have Ub : FnOk l.prog w K mg base CX0 1 _ _ ["rule"] jY := Xx ji T
  have Zh : FnOk l.prog w K mg base CX0 10 _ _ ["rule", "m"] (qM T0) := Vs qC ji qb jC xx wA yM xr T
  exact zcU Dlaw tE xM xj xP qC Zh xx wA yM xr zy T
theorem walk2 {l : PySem.W.OpenLaw} {q : Program} {loose : List Str} {XP : (Str → Option Value) → Heap → Prop} {YP : World → Heap → Prop} {d : DefRec} {K : Params → PySem.W.Frag} {c T0 : Addr} (hn : l.most = some 63) (hdf : d.params.defaults = [])
    (hY : ∀ (w : World) (h : Heap), YP w h → (K w.params).In h) (hYT : ∀ (w : World) (h : Heap), YP w h → h.get? T0 = some (PySem.W.tabObj #[])) (hKT : ∀ w : World, (K w.params).lookup T0 = none) (hcT : ∀ w : World, PySem.W.codeHdIn (K w.params) c T0 = true)
    (F : ∀ (w : World) (mg : Str → Option Value) (fa : Addr) (h : Heap), (K w.params).In h → h.Ns mainGlobals mg → mg d.name = some (.ref fa) →
      ∃ fd : FuncData, (∀ (s : Shared) (u : Value), BindsTo s fd ⟨[u], []⟩ [("script", u)]) ∧ ∀ base : Heap, (K w.params).In base → base.Ns mainGlobals mg → base.BuiltinsAt mg T0 → FnOk l.prog w (K w.params) mg base CX0 11 fa fd ["script"] (Uu (K w.params) T0)) :
    PySem.W.WalkO q loose XP YP l.row.toRowW d [] (fun f vs => PySem.call f vs) :=
  L2.zd5 (n := 63) (k := 11) (x := "script") (sp := fun w => Uu (K w.params) T0) hn (by decide) hdf ⟨rfl, by decide, by decide, rfl⟩ hY hYT hKT hcT F (fun w H a ns hl hT hS => ⟨a, ns, rfl, hS, hl, .inl hT, fun _ => rfl⟩)
end Lw
open PySem PySem.W PyProof.Rows
set_option maxRecDepth 100000 in
set_option maxHeartbeats 0 in
theorem PySem.Challenge.cw_lackstretch_k23_least_and_greatest_of_le_holds : PySem.Challenge.rw_lackstretch_k23_least_and_greatest_of_le.Holds := by
  w_on; o_law; k_head; (case hw => w_witness2)
  k_fill
  refine Lw.walk2 (l := PySem.Challenge.rw_lackstretch_k23_least_and_greatest_of_le) (c := 150) (T0 := 146) rfl rfl (fun w h Y => PySem.W.km_in_of Y) (fun w h Y => PySem.W.km_tabs_of Y 146 (by decide)) (fun w => by kernel_rfl) (fun w => by kernel_rfl) ?F
  case F =>
    intro w mg fa h KX G hmg
    refine' Lw.zc7 (c0 := 150) (T0 := 146) KX G hmg (by kernel_rfl) (by decide) ?yyx0 ?yyx1 ?yyx2 ?yyx3 ?yyx4 ?yyx5 ?yyx6 ?yyx7 ?yyx8 ?yyx9 ?yyx10 ?yyx11 ?yyx12 ?yyx13 ?yyx14 ?yya15 ?yyl15 ?yye15 ?yyk15 ?yyx16 ?yyx17 ?yyx18 ?yyx19 ?yyx20 ?yyx21 ?yyx22 ?yyx23 ?yyx24 ?yyx25 ?yyx26 ?yyx27 ?yyx28 ?yyx29 ?yyx30 ?yyx31 ?yyx32 ?yyx33 ?yyx34 ?yyaC ?yyyC0 ?yyyC1 ?yyyC2 ?yyyC3 ?yyyC4 ?yyyC5 ?yyyC6 ?yyyC7 ?yyyC8 ?yypgC ?yyhdC ?yypoC ?yysaC ?yymkC ?yykcC ?yynC_base ?yynC_outset ?yynC_steps ?yynC_layers ?yyg0 ?yyg1 ?yyg2 ?yyg3 ?yyg4 ?yyz0 ?yyz1 ?yyz2 ?yyz3 ?yyz4 ?yyz5 ?yyz6 ?yyz7 ?yyz8 ?yyz9 ?yyz10 ?yyz11 ?yyz12 ?yyz13 ?yyz14 ?yyz15 ?yyz16 ?yyz17 ?yyz18 ?yyzD
    (case yyx0 => refine' Lw.fdm ?_ ?_ ?_ ?_ <;> try k_is)
    (case yyx1 => refine' Lw.fdm ?_ ?_ ?_ ?_ <;> try k_is)
    (case yyx2 => refine' Lw.fdm ?_ ?_ ?_ ?_ <;> try k_is)
    (case yyx3 => refine' Lw.fdm ?_ ?_ ?_ ?_ <;> try k_is)
    (case yyx4 => refine' Lw.fdm ?_ ?_ ?_ ?_ <;> try k_is)
    (case yyx5 => refine' Lw.fdm ?_ ?_ ?_ ?_ <;> try k_is)
    (case yyx6 => refine' Lw.fdm ?_ ?_ ?_ ?_ <;> try k_is)
    (case yyx7 => refine' Lw.fdm ?_ ?_ ?_ ?_ <;> try k_is)
    (case yyx8 => refine' Lw.fdm ?_ ?_ ?_ ?_ <;> try k_is)
    (case yyx9 => refine' Lw.fdm ?_ ?_ ?_ ?_ <;> try k_is)
    (case yyx10 => refine' Lw.fdm ?_ ?_ ?_ ?_ <;> try k_is)
    (case yyx11 => refine' Lw.fdm ?_ ?_ ?_ ?_ <;> try k_is)
    (case yyx12 => refine' Lw.fdm ?_ ?_ ?_ ?_ <;> try k_is)
    (case yyx13 => refine' Lw.fdm ?_ ?_ ?_ ?_ <;> try k_is)
    (case yyx14 => refine' Lw.fdm ?_ ?_ ?_ ?_ <;> try k_is)
    (case yya15 => k_is)
    (case yyl15 => k_is)
    (case yye15 => k_is)
    (case yyk15 => k_is)
    (case yyx16 => refine' Lw.fdm ?_ ?_ ?_ ?_ <;> try k_is)
    (case yyx17 => refine' Lw.fdm ?_ ?_ ?_ ?_ <;> try k_is)
    (case yyx18 => refine' Lw.fdm ?_ ?_ ?_ ?_ <;> try k_is)
    (case yyx19 => refine' Lw.fdm ?_ ?_ ?_ ?_ <;> try k_is)
    (case yyx20 => refine' Lw.fdm ?_ ?_ ?_ ?_ <;> try k_is)
    (case yyx21 => refine' Lw.fdm ?_ ?_ ?_ ?_ <;> try k_is)
    (case yyx22 => refine' Lw.fdm ?_ ?_ ?_ ?_ <;> try k_is)
    (case yyx23 => refine' Lw.fdm ?_ ?_ ?_ ?_ <;> try k_is)
    (case yyx24 => refine' Lw.fdm ?_ ?_ ?_ ?_ <;> try k_is)
    (case yyx25 => refine' Lw.fdm ?_ ?_ ?_ ?_ <;> try k_is)
    (case yyx26 => refine' Lw.fdm ?_ ?_ ?_ ?_ <;> try k_is)
    (case yyx27 => refine' Lw.fdm ?_ ?_ ?_ ?_ <;> try k_is)
    (case yyx28 => refine' Lw.fdm ?_ ?_ ?_ ?_ <;> try k_is)
    (case yyx29 => refine' Lw.fdm ?_ ?_ ?_ ?_ <;> try k_is)
    (case yyx30 => refine' Lw.fdm ?_ ?_ ?_ ?_ <;> try k_is)
    (case yyx31 => refine' Lw.fdm ?_ ?_ ?_ ?_ <;> try k_is)
    (case yyx32 => refine' Lw.fdm ?_ ?_ ?_ ?_ <;> try k_is)
    (case yyx33 => refine' Lw.fdm ?_ ?_ ?_ ?_ <;> try k_is)
    (case yyx34 => refine' Lw.fdm ?_ ?_ ?_ ?_ <;> try k_is)
    (case yyaC => k_is)
    (case yyyC0 => refine' Lw.fmm ?_ ?_ ?_ ?_ ?_ <;> try k_is)
    (case yyyC1 => refine' Lw.fmm ?_ ?_ ?_ ?_ ?_ <;> try k_is)
    (case yyyC2 => refine' Lw.fmm ?_ ?_ ?_ ?_ ?_ <;> try k_is)
    (case yyyC3 => refine' Lw.fmm ?_ ?_ ?_ ?_ ?_ <;> try k_is)
    (case yyyC4 => refine' Lw.fmm ?_ ?_ ?_ ?_ ?_ <;> try k_is)
    (case yyyC5 => refine' Lw.fmm ?_ ?_ ?_ ?_ ?_ <;> try k_is)
    (case yyyC6 => refine' Lw.fmm ?_ ?_ ?_ ?_ ?_ <;> try k_is)
    (case yyyC7 => refine' Lw.fmm ?_ ?_ ?_ ?_ ?_ <;> try k_is)
    (case yyyC8 => refine' Lw.fmm ?_ ?_ ?_ ?_ ?_ <;> try k_is)
    (case yypgC => k_is)
    (case yyhdC => k_is)
    (case yypoC => k_is)
    (case yysaC => k_is)
    (case yymkC => k_is)
    (case yykcC => k_is)
    (case yynC_base => k_is)
    (case yynC_outset => k_is)
    (case yynC_steps => k_is)
    (case yynC_layers => k_is)
    (case yyg0 => k_is)
    (case yyg1 => k_is)
    (case yyg2 => k_is)
    (case yyg3 => k_is)
    (case yyg4 => k_is)
    (case yyz0 => k_is)
    (case yyz1 => k_is)
    (case yyz2 => k_is)
    (case yyz3 => k_is)
    (case yyz4 => k_is)
    (case yyz5 => k_is)
    (case yyz6 => k_is)
    (case yyz7 => k_is)
    (case yyz8 => k_is)
    (case yyz9 => k_is)
    (case yyz10 => k_is)
    (case yyz11 => k_is)
    (case yyz12 => k_is)
    (case yyz13 => k_is)
    (case yyz14 => k_is)
    (case yyz15 => k_is)
    (case yyz16 => k_is)
    (case yyz17 => k_is)
    (case yyz18 => k_is)
    (case yyzD => k_is)
