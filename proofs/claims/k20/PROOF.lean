import PyProof.Rows.All
import Wide.All
import OpenK.AllK
import Wide.FinOn
import Lean
import PyProof.EqAt
import PyProof.EqKinds
import PyProof.TupleCall
import PyProof.NeKinds
import KE.KRevSl
import KE.KRevIter
import PyProof.ConsumeWalk
import PyProof.ReprRoads
import PyProof.CallFns
import KE.KSortAsk
import KE.KSortTup
import KE.KDictSum
import PyProof.Rows.SumAny
import PyProof.EnumStmt
import PyProof.EnumMake
import PyProof.Rows.EnumRows
import PyProof.Rows.FactsN_abs
import PyProof.ListRange
import PyProof.FitsBits
import PyProof.Rows.IntMath
import PyProof.Rows.SeqMore
import KE.KLam
import PyProof.ReprLen
import PySem.Challenge.RW_lackstretch_k20_no_rules_no_numbers_no_f
set_option Elab.async false
set_option linter.all false
set_option maxRecDepth 100000
namespace L2
open PySem PySem.Spec PyProof.Rows
abbrev Key:=Sum Int Str
def U4 : Key->Value->Bool
 | .inl k,v=>Value.isInt k v
 | .inr x,v=>Value.isStrOf x v
def zf1 (w : World) : Key->Int
 | .inl k=>hashInt k
 | .inr x=>hashStr w x
theorem xm : ∀ {k : Key} {v : Value},U4 k v = true->(∃ i t,k = Sum.inl i∧v = Value.int i t)∨(∃ x t,k = Sum.inr x∧v = Value.str x t)
 | .inl i,v,h=>by
  obtain ⟨t,e⟩:=Value.isInt_shape (k:=i) (v:=v) h
  exact .inl ⟨i,t,rfl,e⟩
 | .inr x,v,h=>by
  obtain ⟨t,e⟩:=Value.isStrOf_shape (x:=x) (v:=v) h
  exact .inr ⟨x,t,rfl,e⟩
theorem zb1 (i : Int) (t : Tok) : U4 (.inl i) (.int i t) = true:=by simp [U4,Value.isInt]
theorem zbX (x : Str) (t : Tok) : U4 (.inr x) (.str x t) = true:=by simp [U4,Value.isStrOf]
theorem zeF (a b : Int) : decide ((Sum.inl a : Key) = Sum.inl b) = (a == b):=by
 by_cases e : a = b
 ·subst e; simp
 ·have h : ¬ (Sum.inl a : Key) = Sum.inl b:=fun q=>e (Sum.inl.inj q)
  rw [decide_eq_false h]
  exact (beq_eq_false_iff_ne.mpr e).symm
theorem ze4 (a b : Str) : decide ((Sum.inr a : Key) = Sum.inr b) = decide (a = b):=by
 by_cases e : a = b
 ·subst e; simp
 ·have h : ¬ (Sum.inr a : Key) = Sum.inr b:=fun q=>e (Sum.inr.inj q)
  rw [decide_eq_false h,decide_eq_false e]
theorem zeX (a : Int) (b : Str) : decide ((Sum.inl a : Key) = Sum.inr b) = false:=decide_eq_false (fun q=>nomatch q)
theorem zeY (a : Str) (b : Int) : decide ((Sum.inr a : Key) = Sum.inl b) = false:=decide_eq_false (fun q=>nomatch q)
def wD (prog : Program) (w : World) : PySem.KeyKind prog w Key where
 is:=U4
 hash:=zf1 w
 inj:=fun v a b ha hb=>by
  rcases xm ha with ⟨i,t,rfl,rfl⟩ | ⟨x,t,rfl,rfl⟩
  ·rcases xm hb with ⟨j,u,rfl,e⟩ | ⟨y,u,rfl,e⟩
   ·injection e with e1 _; rw [e1]
   ·exact nomatch e
  ·rcases xm hb with ⟨j,u,rfl,e⟩ | ⟨y,u,rfl,e⟩
   ·exact nomatch e
   ·injection e with e1 _; rw [e1]
 byValue:=fun k v h=>by
  rcases xm h with ⟨i,t,rfl,rfl⟩ | ⟨x,t,rfl,rfl⟩ <;> rfl
 pyHash:=fun hv h=>by
  rcases xm hv with ⟨i,t,rfl,rfl⟩ | ⟨x,t,rfl,rfl⟩
  ·exact wpAny_pyHash_int h
  ·exact wpAny_pyHash_str h
 eqBool:=fun hu hv h=>by
  rcases xm hu with ⟨i,t,rfl,rfl⟩ | ⟨x,t,rfl,rfl⟩
  ·rcases xm hv with ⟨j,u,rfl,rfl⟩ | ⟨y,u,rfl,rfl⟩
   ·rw [zeF] at h; exact wpAny_eqBool_int h
   ·rw [zeX] at h; exact SeqAt.EqAt.int_str i t y u _ _ _ _ h
  ·rcases xm hv with ⟨j,u,rfl,rfl⟩ | ⟨y,u,rfl,rfl⟩
   ·rw [zeY] at h; exact SeqAt.EqAt.str_int x t j u _ _ _ _ h
   ·rw [ze4] at h; exact wpAny_eqBool_str h
 «strs»:=fun k x t v h=>by
  rcases xm h with ⟨i,u,rfl,e⟩ | ⟨y,u,rfl,e⟩
  ·exact nomatch e
  ·injection e with e1 _
   subst e1
   cases v <;> rfl
theorem J1 (prog : Program) (w : World) (i : Int) (t : Tok) : (wD prog w).is (.inl i) (.int i t) = true:=zb1 i t
theorem JN (prog : Program) (w : World) (x : Str) (t : Tok) : (wD prog w).is (.inr x) (.str x t) = true:=zbX x t
inductive V where
 | non | bl (b : Bool) | int (i : Int) | str (x : Str) | byt (b : Array UInt8) | flt (b : UInt64) | ref (a : Addr) | ty (n : String)
 deriving DecidableEq
def RelV : V->Value->Prop
 | .non,u=>u = Value.none
 | .bl b,u=>u = Value.bool b
 | .int i,u=>∃ t,u = Value.int i t
 | .str x,u=>∃ t,u = Value.str x t
 | .byt b,u=>∃ t,u = Value.bytes b t
 | .flt b,u=>∃ t,u = Value.float b t
 | .ref a,u=>u = Value.ref a
 | .ty n,u=>u = Value.type n
abbrev Vals : List V->List Value->Prop:=Paired RelV
theorem Vals.length {xs : List V} {us : List Value} (r : Vals xs us) : xs.length = us.length:=Paired.length r
theorem Vals.get : ∀ {xs : List V} {us : List Value} {i : Nat} {x : V},Vals xs us->xs[i]? = some x->∃ u,us[i]? = some u∧RelV x u
 | _,_,_,_,.nil,e=>by simp at e
 | _,_,0,_,.cons r _,e=>by simp at e; subst e; exact ⟨_,rfl,r⟩
 | _,_,i + 1,x,.cons _ t,e=>by
  obtain ⟨u,h1,h2⟩:=Vals.get (i:=i) (x:=x) t (by simpa using e)
  exact ⟨u,by simpa using h1,h2⟩
theorem Vals.set {x : V} {u : Value} (r : RelV x u) : ∀ {xs : List V} {us : List Value} (i : Nat),Vals xs us->Vals (xs.set i x) (us.set i u)
 | _,_,_,.nil=>.nil
 | _,_,0,.cons _ t=>.cons r t
 | _,_,i + 1,.cons q t=>.cons q (Vals.set r i t)
theorem Vals.append : ∀ {xs ys : List V} {us ws : List Value},Vals xs us->Vals ys ws->Vals (xs ++ ys) (us ++ ws)
 | _,_,_,_,.nil,s=>s
 | _,_,_,_,.cons r t,s=>.cons r (Vals.append t s)
theorem Vals.take : ∀ {xs : List V} {us : List Value} (n : Nat),Vals xs us->Vals (xs.take n) (us.take n)
 | _,_,0,_=>.nil
 | _,_,_ + 1,.nil=>.nil
 | _,_,n + 1,.cons r t=>.cons r (Vals.take n t)
theorem Vals.drop : ∀ {xs : List V} {us : List Value} (n : Nat),Vals xs us->Vals (xs.drop n) (us.drop n)
 | _,_,0,r=>r
 | _,_,_ + 1,.nil=>.nil
 | _,_,n + 1,.cons _ t=>Vals.drop n t
theorem Vals.none_of : ∀ {xs : List V} {us : List Value} {i : Nat},Vals xs us->xs[i]? = none->us[i]? = none:=fun {xs us i} r e=>by
 have h1:=r.length
 have h2 : xs.length≤i:=List.getElem?_eq_none_iff.mp e
 exact List.getElem?_eq_none_iff.mpr (by omega)
def RelO : Option V->Option Value->Prop
 | some v,some u=>RelV v u
 | none,none=>True
 | _,_=>False
def KV {κ : Type} : List (κ × V)->List (κ × Value)->Prop:=Paired fun (p : κ × V) (q : κ × Value)=>p.1 = q.1∧RelV p.2 q.2
def kV : Key->V
 | .inl i=>.int i
 | .inr x=>.str x
inductive HO where
 | lst (xs : List V)
 | tup (xs : List V)
 | dK (kvs : List (Key × V)) | dT (kvs : List (List Key × V))
 | set (S : Int->Bool) (n : Nat)
 | ins (C dx : Addr) (fs : List (Str × V))
 | own (x : Addr)
 | xd (fs : List (Str × V))
 | met (f x : Addr)
 | rng (lo hi : Int)
 | frz (o : Obj) (u : HO)
 | tbl (ps : Array Value)
 | ext (φ : Heap->Prop)
abbrev Hp:=Addr->Option HO
def upd (H : Hp) (a : Addr) (o : HO) : Hp:=fun b=>if b = a then some o else H b
theorem zj {H : Hp} {a : Addr} {o : HO} : upd H a o a = some o:=by unfold upd; rw [if_pos rfl]
theorem zy {H : Hp} {a b : Addr} {o : HO} (h : b ≠ a) : upd H a o b = H b:=by unfold upd; rw [if_neg h]
theorem zej {H : Hp} {a : Addr} {o u : HO} : upd (upd H a o) a u = upd H a u:=by
 funext b; unfold upd; split <;> rfl
theorem jz {H : Hp} {a b : Addr} {o u : HO} (h : H a = some o) (h' : H b = some u) (d : o ≠ u) : a ≠ b:=by
 intro e; subst e; rw [h] at h'; exact d (Option.some.inj h')
theorem zB {H : Hp} {a b : Addr} {o : HO} (h : H a = some o) (h' : H b = none) : a ≠ b:=by
 intro e; subst e; rw [h] at h'; cases h'
section
variable (P : Program) (w : World)
def ObjOk (H : Hp) (h : Heap) (a : Addr) : HO->Prop
 | .lst xs=>xs.length≤sizeLine∧∃ (its : List Value) (n : Nat),Vals xs its∧h.get? a = some { cls:=.type "list",data:=.seq its.toArray n }
 | .tup xs=>xs.length≤sizeLine∧∃ its : List Value,Vals xs its∧IsTup h a its.toArray
 | .dK kvs=>kvs.length≤sizeLine∧(a == sysModules) = false∧∃ vs,KV kvs vs∧h.DictOf (wD P w) a vs
 | .dT kvs=>kvs.length≤sizeLine∧(a == sysModules) = false∧∃ xs : List (List Key × Addr × Value),
   Paired (fun (p : List Key × V) (q : List Key × Addr × Value)=>p.1 = q.1∧H q.2.1 = some (.tup (p.1.map kV))∧RelV p.2 q.2.2) kvs xs ∧
   ∃ o es ep,h.get? a = some o∧o.ExactDict∧o.data = .dict es ep∧es.toList = xs.map (entryOfKey (tupleKind (wD P w)))∧(xs.map (·.1)).Nodup
 | .set S n=>h.SetOf (intKind P w) a S n
 | .ins C dx fs=>H dx = some (.own a)∧fs.length≤1000∧dx ≠ a∧h.get? a = some (PySem.W.instObj C dx) ∧
   ∃ mA,h.Ns1 dx mA∧(∀ f,RelO (fs.lookup f) (mA f))∧PySem.Within mA (fs.map (·.1))
 | .own _=>∃ o,h.get? a = some o
 | .xd fs=>∃ mA,h.Ns1 a mA∧∀ f,RelO (fs.lookup f) (mA f)
 | .rng lo hi=>∃ t u v,h.get? a = some { cls:=.type "range",data:=.fields #[.int lo t,.int hi u,.int 1 v] }
 | .frz o u=>h.get? a = some o∧ObjOk H h a u
 | .tbl ps=>h.get? a = some { cls:=.none,data:=.fields ps }
 | .met f x=>h.get? a = some (PySem.W.methodObj (.ref f) (.ref x))
 | .ext φ=>φ h∧(∃ o,h.get? a = some o)∧∀ h1 h2 : Heap,φ h1->(∀ o,h1.get? a = some o->h2.get? a = some o)->φ h2
def HOk (H : Hp) (h : Heap) : Prop:=∀ a o,H a = some o->ObjOk P w H h a o
end
section
variable {P : Program} {w : World} {H H' : Hp} {h h' : Heap} {a : Addr} {o : HO}
theorem ObjOk.lt (x : ObjOk P w H h a o) : a < h.objs.size:=by
 cases o with
 | lst xs=>obtain ⟨_,_,_,_,e⟩:=x; exact Heap.lt_size e
 | tup xs=>obtain ⟨_,_,_,p⟩:=x; exact p.lt
 | dK kvs=>obtain ⟨_,_,_,_,o,_,_,e,_⟩:=x; exact Heap.lt_size e
 | dT kvs=>obtain ⟨_,_,_,_,o,_,_,e,_⟩:=x; exact Heap.lt_size e
 | set S n=>obtain ⟨o,_,_,_,e,_⟩:=x; exact Heap.lt_size e
 | ins C dx fs=>obtain ⟨_,_,_,e,_⟩:=x; exact Heap.lt_size e
 | own y=>obtain ⟨_,e⟩:=x; exact Heap.lt_size e
 | xd fs=>obtain ⟨_,⟨_,_,_,e,_⟩,_⟩:=x; exact Heap.lt_size e
 | rng lo hi=>obtain ⟨_,_,_,e⟩:=x; exact Heap.lt_size e
 | frz ob u=>obtain ⟨e,_⟩:=x; exact Heap.lt_size e
 | tbl ps=>exact Heap.lt_size (show h.get? a = some _ from x)
 | met f y=>exact Heap.lt_size (show h.get? a = some _ from x)
 | ext φ=>obtain ⟨_,⟨_,e⟩,_⟩:=x; exact Heap.lt_size e
theorem Paired.mapP {α β : Type} {F G : α->β->Prop} : ∀ {l₁ : List α} {l₂ : List β},Paired F l₁ l₂->(∀ a b,F a b->G a b)->Paired G l₁ l₂
 | _,_,.nil,_=>.nil
 | _,_,.cons r t,f=>.cons (f _ _ r) (Paired.mapP t f)
theorem ObjOk.stay (x : ObjOk P w H h a o) (k : ∀ b u,(b = a∨H b = some (.own a))->h.get? b = some u->h'.get? b = some u)
  (ho : ∀ b,H b = some (.own a)->H' b = some (.own a)) (ht : ∀ b xs,H b = some (.tup xs)->H' b = some (.tup xs)) : ObjOk P w H' h' a o:=by
 induction o with
 | lst xs=>obtain ⟨z,its,n,r,e⟩:=x; exact ⟨z,its,n,r,k _ _ (.inl rfl) e⟩
 | tup xs=>obtain ⟨z,its,r,ob,e,c⟩:=x; exact ⟨z,its,r,ob,k _ _ (.inl rfl) e,c⟩
 | dK kvs=>obtain ⟨z,y,vs,r,ob,es,ep,e,c⟩:=x; exact ⟨z,y,vs,r,ob,es,ep,k _ _ (.inl rfl) e,c⟩
 | dT kvs =>
  obtain ⟨z,y,xs,r,ob,es,ep,e,c⟩:=x
  exact ⟨z,y,xs,Paired.mapP r fun p q z=>⟨z.1,ht _ _ z.2.1,z.2.2⟩,ob,es,ep,k _ _ (.inl rfl) e,c⟩
 | set S n=>obtain ⟨ob,es,ep,t,e,c⟩:=x; exact ⟨ob,es,ep,t,k _ _ (.inl rfl) e,c⟩
 | ins C dx fs =>
  obtain ⟨d,z,ne,e,mA,⟨od,es,ep,e2,c⟩,r⟩:=x
  exact ⟨ho _ d,z,ne,k _ _ (.inl rfl) e,mA,⟨od,es,ep,k _ _ (.inr d) e2,c⟩,r⟩
 | own y=>obtain ⟨ob,e⟩:=x; exact ⟨ob,k _ _ (.inl rfl) e⟩
 | xd fs=>obtain ⟨mA,⟨od,es,ep,e,c⟩,r⟩:=x; exact ⟨mA,⟨od,es,ep,k _ _ (.inl rfl) e,c⟩,r⟩
 | rng lo hi=>obtain ⟨t,u,v,e⟩:=x; exact ⟨t,u,v,k _ _ (.inl rfl) e⟩
 | frz ob u ih=>obtain ⟨e,q⟩:=x; exact ⟨k _ _ (.inl rfl) e,ih q⟩
 | tbl ps =>
  have e : h.get? a = some { cls:=.none,data:=.fields ps }:=x
  show h'.get? a = some { cls:=.none,data:=.fields ps }
  exact k a _ (.inl rfl) e
 | met f y =>
  have e : h.get? a = some (PySem.W.methodObj (.ref f) (.ref y)):=x
  show h'.get? a = some (PySem.W.methodObj (.ref f) (.ref y))
  exact k a _ (.inl rfl) e
 | ext φ=>obtain ⟨p,⟨o,e⟩,st⟩:=x; exact ⟨st _ _ p fun o q=>k _ _ (.inl rfl) q,⟨o,k _ _ (.inl rfl) e⟩,st⟩
theorem HOk.lt (x : HOk P w H h) (e : H a = some o) : a < h.objs.size:=(x a o e).lt
theorem HOk.fresh (x : HOk P w H h) (e : h.objs.size≤a) : H a = none:=by
 cases q : H a with
 | none=>rfl
 | some u=>exact absurd (Nat.lt_of_lt_of_le (x.lt q) e) (Nat.lt_irrefl _)
theorem HOk.kept (x : HOk P w H h) (k : ∀ b u,h.get? b = some u->h'.get? b = some u) : HOk P w H h':=fun a o e =>
 (x a o e).stay (fun b u _ q=>k b u q) (fun _ q=>q) fun _ _ q=>q
theorem HOk.laid (x : HOk P w H h) (k : ∀ b u,h.get? b = some u->h'.get? b = some u) (hp : h.objs.size≤a) (new : ObjOk P w (upd H a o) h' a o) : HOk P w (upd H a o) h':=fun b u e=>by
 have hn:=x.fresh hp
 by_cases hb : b = a
 ·subst hb; rw [zj] at e; cases e; exact new
 ·rw [zy hb] at e
  exact (x b u e).stay (fun c v _ q=>k c v q) (fun c q=>by rw [zy (zB q hn)]; exact q) fun c xs q=>by rw [zy (zB q hn)]; exact q
end
def Rd (H : Hp) (a : Addr) (u : HO) : Prop:=H a = some u∨∃ o,H a = some (.frz o u)
theorem Rd.of {H : Hp} {a : Addr} {u : HO} (h : H a = some u) : Rd H a u:=.inl h
theorem Rd.ok {P : Program} {w : World} {H : Hp} {h : Heap} {a : Addr} {u : HO} (r : Rd H a u) (x : HOk P w H h) : ObjOk P w H h a u:=by
 rcases r with r | ⟨o,r⟩
 ·exact x a u r
 ·obtain ⟨_,q⟩:=x a _ r
  exact q
def Mut : Option HO->Prop
 | some (.lst _)=>True
 | some (.dK _)=>True
 | some (.dT _)=>True
 | some (.set _ _)=>True
 | some (.ins _ _ _)=>True
 | some (.ext _)=>True
 | _=>False
section
variable {P : Program} {w : World} {H : Hp} {h h' : Heap} {x e : Addr} {o' : HO}
theorem HOk.write (ok : HOk P w H h) (mu : Mut (H x)) (he : e = x∨H e = some (.own x)) (k : ∀ b u,b ≠ e->h.get? b = some u->h'.get? b = some u) (heo : ∃ u,h'.get? e = some u)
  (new : ObjOk P w (upd H x o') h' x o') : HOk P w (upd H x o') h':=fun b u q=>by
 have nown : ∀ c y,H c = some (.own y)->c ≠ x:=fun c y r z=>by subst z; rw [r] at mu; exact mu
 have ntup : ∀ c xs,H c = some (.tup xs)->c ≠ x:=fun c xs r z=>by subst z; rw [r] at mu; exact mu
 by_cases hb : b = x
 ·subst hb; rw [zj] at q; cases q; exact new
 ·rw [zy hb] at q
  by_cases hbe : b = e
  ·have q' : H b = some (.own x):=by
    rcases he with z | z
    ·exact absurd (hbe.trans z) hb
    ·rw [hbe]; exact z
   rw [q] at q'; cases q'
   obtain ⟨v,hv⟩:=heo
   exact ⟨v,by rw [hbe]; exact hv⟩
  ·refine (ok b u q).stay (fun c v hc r=>k c v ?_ r) (fun c r=>by rw [zy (nown c b r)]; exact r) fun c xs r=>by rw [zy (ntup c xs r)]; exact r
   rcases hc with rfl | hc
   ·exact hbe
   ·rintro rfl
    rcases he with z | z
    ·exact nown c b hc z
    ·rw [hc] at z; cases z; exact hb rfl
end
structure Un (fs ex : List Addr) (H H' : Hp) (h h' : Heap) : Prop where
 keep : ∀ b o,h.get? b = some o->H b = none->b ∉ fs->b ∉ ex->h'.get? b = some o
 slot : ∀ b o,h.get? b = some o->H b = none->b ∈ fs->b ∉ ex->∃ sl,h'.get? b = some { o with slots:=sl }
 free : ∀ b o,h.get? b = some o->H b = none->b ∉ ex->H' b = none
 there : ∀ b o,h.get? b = some o->b ∉ ex->∃ o',h'.get? b = some o'
 tups : ∀ b xs,H b = some (.tup xs)->H' b = some (.tup xs)
 frzs : ∀ b o u,H b = some (.frz o u)->H' b = some (.frz o u)
 tbls : ∀ b ps,H b = some (.tbl ps)->∃ more,H' b = some (.tbl (ps ++ more))
section
variable {fs fs' ex ex' : List Addr} {H H1 H2 : Hp} {h h1 h2 h' : Heap} {a x e : Addr} {o : HO}
theorem Un.any (u : Un fs ex H H1 h h1) {b : Addr} {ob : Obj} (q : h.get? b = some ob) (n : H b = none) (hx : b ∉ ex) : ∃ sl,h1.get? b = some { ob with slots:=sl }:=by
 by_cases hb : b ∈ fs
 ·exact u.slot b ob q n hb hx
 ·exact ⟨ob.slots,u.keep b ob q n hb hx⟩
theorem Un.trans (a : Un fs ex H H1 h h1) (b : Un fs ex H1 H2 h1 h2) : Un fs ex H H2 h h2 where
 keep:=fun c ob q n hc hx=>b.keep c ob (a.keep c ob q n hc hx) (a.free c ob q n hx) hc hx
 slot:=fun c ob q n hc hx=>by
  obtain ⟨sl,e1⟩:=a.slot c ob q n hc hx
  obtain ⟨sl',e2⟩:=b.slot c _ e1 (a.free c ob q n hx) hc hx
  exact ⟨sl',e2⟩
 free:=fun c ob q n hx=>by
  obtain ⟨o',e1⟩:=a.there c ob q hx
  exact b.free c o' e1 (a.free c ob q n hx) hx
 there:=fun c ob q hx=>by
  obtain ⟨o',e1⟩:=a.there c ob q hx
  exact b.there c o' e1 hx
 tups:=fun c xs q=>b.tups c xs (a.tups c xs q)
 frzs:=fun c ob xs q=>b.frzs c ob xs (a.frzs c ob xs q)
 tbls:=fun c ps q=>by
  obtain ⟨m1,e1⟩:=a.tbls c ps q
  obtain ⟨m2,e2⟩:=b.tbls c _ e1
  exact ⟨m1 ++ m2,by rw [e2,Array.append_assoc]⟩
theorem Un.kept (k : ∀ b u,h.get? b = some u->h'.get? b = some u) : Un fs ex H H h h' :=
 ⟨fun b ob q _ _ _=>k b ob q,fun b ob q _ _ _=>⟨ob.slots,k b ob q⟩,fun _ _ _ n _=>n,fun b ob q _=>⟨ob,k b ob q⟩,fun _ _ q=>q,fun _ _ _ q=>q,fun _ ps q=>⟨#[],by rw [q]; simp⟩⟩
theorem Un.refl : Un fs ex H H h h:=Un.kept fun _ _ q=>q
theorem Un.laid (k : ∀ b u,h.get? b = some u->h'.get? b = some u) (hp : h.objs.size≤a) (hn : H a = none) : Un fs ex H (upd H a o) h h' where
 keep:=fun b u q _ _ _=>k b u q
 slot:=fun b u q _ _ _=>⟨u.slots,k b u q⟩
 free:=fun b u q n _=>by rw [zy (Nat.ne_of_lt (Nat.lt_of_lt_of_le (Heap.lt_size q) hp))]; exact n
 there:=fun b u q _=>⟨u,k b u q⟩
 tups:=fun b xs q=>by rw [zy (zB q hn)]; exact q
 frzs:=fun b u xs q=>by rw [zy (zB q hn)]; exact q
 tbls:=fun b ps q=>⟨#[],by rw [zy (zB q hn),q]; simp⟩
theorem Un.write (mu : Mut (H x)) (he : e = x∨H e = some (.own x)) (k : ∀ b u,b ≠ e->h.get? b = some u->h'.get? b = some u) (heo : ∃ u,h'.get? e = some u) : Un fs ex H (upd H x o) h h':=by
 have hx : ∀ b,H b = none->b ≠ x:=fun b n z=>by subst z; rw [n] at mu; exact mu
 have hb : ∀ b,H b = none->b ≠ e:=fun b n z=>by
  subst z
  rcases he with r | r
  ·exact hx b n r
  ·rw [n] at r; cases r
 have hm : ∀ b u,H b = some u->¬ Mut (some u)->b ≠ x:=fun b u q nm z=>by subst z; rw [q] at mu; exact nm mu
 refine ⟨fun b u q n _ _=>k b u (hb b n) q,fun b u q n _ _=>⟨u.slots,k b u (hb b n) q⟩,fun b u q n _=>by rw [zy (hx b n)]; exact n,fun b u q _=>?_,
  fun b xs q=>by rw [zy (hm b _ q fun z=>z)]; exact q,fun b u xs q=>by rw [zy (hm b _ q fun z=>z)]; exact q,fun b ps q=>⟨#[],by rw [zy (hm b _ q fun z=>z),q]; simp⟩⟩
 by_cases hbe : b = e
 ·subst hbe; exact heo
 ·exact ⟨u,k b u hbe q⟩
theorem Un.mono (u : Un fs ex H H1 h h1) (hs : ∀ b ∈ fs,b ∈ fs') (hx : ∀ b ∈ ex,b ∈ ex') : Un fs' ex' H H1 h h1 :=
 ⟨fun b ob q n hb he=>u.keep b ob q n (fun z=>hb (hs b z)) fun z=>he (hx b z),fun _ _ q n _ he=>u.any q n fun z=>he (hx _ z),fun b ob q n he=>u.free b ob q n fun z=>he (hx b z),fun b ob q he=>u.there b ob q fun z=>he (hx b z),u.tups,u.frzs,u.tbls⟩
end
def trk (h : Heap) (H : Hp) : List Addr:=(List.range h.objs.size).filter fun a=>(H a).isSome
def Ux (h : Heap) (H : Hp) : Heap:=PySem.W.hideAll h (trk h H)
theorem zce (h : Heap) (H : Hp) : (Ux h H).objs.size = h.objs.size:=PySem.W.hideAll_size _ _
theorem zdm {h : Heap} {H : Hp} {b : Addr} {o : Obj} (e : h.get? b = some o) (n : H b = none) : (Ux h H).get? b = some o :=
 PySem.W.hideAll_get _ e fun hm=>by
  have q : (H b).isSome = true:=(List.mem_filter.mp hm).2
  rw [n] at q; simp at q
theorem zd8 {h : Heap} {H : Hp} {b : Addr} {o : Obj} (e : (Ux h H).get? b = some o) : h.get? b = some o∧H b = none:=by
 have e' : h.get? b = some o:=PySem.W.of_hideAll (trk h H) e
 refine ⟨e',?_⟩
 cases q : H b with
 | none=>rfl
 | some x =>
  have hm : b ∈ trk h H:=List.mem_filter.mpr ⟨List.mem_range.mpr (Heap.lt_size e'),by simp [q]⟩
  have z : (Ux h H).get? b = none:=PySem.W.hideAll_none (trk h H) hm
  rw [z] at e; cases e
def zeh (g h : Heap) (L : Addr) : List (Addr × Obj):=(List.range h.objs.size).filterMap fun a=>if a = L∨(g.get? a).isSome = true then none else (h.get? a).map fun o=>(a,o)
def rest (g h : Heap) (L d : Addr) : List (Addr × Obj):=(zeh g h L).filter fun p=>decide (p.1 ≠ d)
structure Mod (K : PySem.W.Frag) (mg : Str->Option Value) (base : Heap) : Prop where
 kin : K.In base
 glob : base.Ns mainGlobals mg
 blt : ∃ mb,base.Ns builtinsNs mb∧∀ x : Str,x ≠ "__name__"->mb x = bootBuiltins x
 nolimit : base.NoLimit
structure Cx where
 prog : Program
 w : World
 K : PySem.W.Frag
 mg : Str->Option Value
 base : Heap
 A : Around
 N : List Str
 s₀ : Shared
 H₀ : Hp
 env : Env
 outer : List Env
 stack : List Env
 ex : List Addr
 fn : Str->Bool
 calm : Bool
 pn : List (Addr × Obj)
 xe : Value->Shared->Prop
def frs (l : List Env) : List Addr:=l.filterMap (·.frame)
abbrev Cx.fs (X : Cx) : List Addr:=frs X.outer
def Vis (sc : Scope) (x : Str) : Prop:=sc.names.lookup x = some .local∨sc.names.lookup x = some .cell∨sc.names.lookup x = some .free
def Loc (sc : Scope) (x : Str) : Prop:=sc.names.lookup x = some .local∨sc.names.lookup x = some .cell
def Look (env : Env) (h : Heap) (m : Str->Option Value) (x : Str) (u : Value) : Prop :=
 (env.kindOf x = some .local∧m x = some u)∨((env.kindOf x = some .cell∨env.kindOf x = some .free)∧∃ c,env.cells.lookup x = some c∧h.IsCell c (some u))
structure Cx.Ok (X : Cx) : Prop where
 mod : Mod X.K X.mg X.base
 kind : X.env.scope.kind = .function
 glob : X.env.globals = mainGlobals
 blt : X.env.builtins = builtinsNs
 above : X.s₀.heap.objs.size≤X.env.locals
 inj : ∀ x y c,X.env.cells.lookup x = some c->X.env.cells.lookup y = some c->x = y
 has : ∀ x,(X.env.kindOf x = some .cell∨X.env.kindOf x = some .free)->∃ c,X.env.cells.lookup x = some c
 cab : ∀ x c,X.fn x = true->X.env.cells.lookup x = some c->X.s₀.heap.objs.size≤c
 hd : X.calm = true->X.A.handled = none
 frames : X.A.frames = some X.stack
 stk : X.stack = X.outer∨(X.stack = X.env :: X.outer∧X.env.frame = some X.env.locals)
 exf : ∀ b ∈ X.ex,b ≠ X.env.locals∧∀ x c,X.env.cells.lookup x = some c->c ≠ b
 bs : ∀ b o,X.base.get? b = some o->X.s₀.heap.get? b = some o∧X.H₀ b = none
 bsz : X.base.objs.size≤X.s₀.heap.objs.size
 noex : ∀ b o,X.base.get? b = some o->b ∉ X.ex
 exfs : ∀ b ∈ X.ex,b ∉ X.fs
 funs : X.s₀.heap.FunFrames X.base X.outer
 frf : ∀ b ∈ X.fs,X.H₀ b = none
structure Inv (X : Cx) (pins : List (Addr × Obj)) (σ : List (Option V)) (H : Hp) (s : Shared) : Prop where
 ok : X.Ok
 os : s.os = X.s₀.os
 bare : AllBare s.gens
 base : Un X.fs X.ex X.H₀ H X.s₀.heap s.heap
 loc : ∃ m,s.heap.Ns X.env.locals m∧∀ (i : Nat) (x : Str) (v : V),X.N[i]? = some x->σ[i]? = some (some v)->Vis X.env.scope x->∃ u,RelV v u∧Look X.env s.heap m x u
 cell : ∀ x c,X.env.cells.lookup x = some c->∃ v,s.heap.IsCell c v
 free : H X.env.locals = none
 freeC : ∀ x c,X.env.cells.lookup x = some c->H c = none
 pin : ∀ p ∈ X.pn ++ pins,s.heap.get? p.1 = some p.2∧H p.1 = none∧p.1 ≠ X.env.locals∧p.1 ∉ X.fs∧∀ v,p.2.data ≠ .cell v
 hok : HOk X.prog X.w H s.heap
 len : σ.length = X.N.length
section
variable {X : Cx} {pins : List (Addr × Obj)} {σ : List (Option V)} {H H' : Hp} {s : Shared} {h' : Heap}
theorem Cx.Ok.nofr (ok : X.Ok) {b : Addr} {o : Obj} (e : X.base.get? b = some o) : b ∉ X.fs:=fun hb=>by
 have:=(ok.funs.mem hb).1
 rw [e] at this; cases this
theorem Inv.bs (I : Inv X pins σ H s) : ∀ b o,X.base.get? b = some o->s.heap.get? b = some o∧H b = none:=fun b o e =>
 ⟨I.base.keep b o (I.ok.bs b o e).1 (I.ok.bs b o e).2 (I.ok.nofr e) (I.ok.noex b o e),I.base.free b o (I.ok.bs b o e).1 (I.ok.bs b o e).2 (I.ok.noex b o e)⟩
theorem Inv.bk (I : Inv X pins σ H s) : ∀ b o,X.base.get? b = some o->s.heap.get? b = some o:=fun b o e=>(I.bs b o e).1
theorem Inv.mod (I : Inv X pins σ H s) : Mod X.K X.mg X.base:=I.ok.mod
theorem Inv.kIn (I : Inv X pins σ H s) : X.K.In s.heap:=I.ok.mod.kin.keeps I.bk
theorem Inv.nolimit (I : Inv X pins σ H s) : s.heap.NoLimit:=I.ok.mod.nolimit.keeps I.bk
theorem Inv.fr (I : Inv X pins σ H s) : ∃ m,Fr X.base X.env.locals s.heap m :=
 let ⟨m,hn,_⟩:=I.loc
 ⟨m,hn,I.bk,Nat.le_trans I.ok.bsz I.ok.above⟩
theorem Inv.lt (I : Inv X pins σ H s) : X.env.locals < s.heap.objs.size:=let ⟨_,hn,_⟩:=I.loc; hn.lt
theorem Inv.sz (I : Inv X pins σ H s) : X.s₀.heap.objs.size≤s.heap.objs.size:=Nat.le_trans I.ok.above (Nat.le_of_lt I.lt)
theorem Inv.nofs (I : Inv X pins σ H s) {a : Addr} (h : s.heap.objs.size≤a) : a ∉ X.fs:=fun hb=>by
 obtain ⟨_,o,ho,_⟩:=I.ok.funs.mem hb
 exact absurd (Nat.lt_of_lt_of_le (Heap.lt_size ho) (Nat.le_trans I.sz h)) (Nat.lt_irrefl _)
theorem Inv.cne (I : Inv X pins σ H s) : ∀ x c,X.env.cells.lookup x = some c->c ≠ X.env.locals:=fun x c e z=>by
 obtain ⟨v,o,ho,hd⟩:=I.cell x c e
 obtain ⟨m,⟨o',es,ep,ho',hd',_⟩,_⟩:=I.loc
 rw [z,ho'] at ho; cases ho; rw [hd'] at hd; cases hd
theorem Inv.funs (I : Inv X pins σ H s) : s.heap.FunFrames X.base X.outer:=by
 have all : ∀ (l : List Env),(∀ b ∈ frs l,b ∈ X.fs)->X.s₀.heap.FunFrames X.base l->s.heap.FunFrames X.base l:=by
  intro l
  induction l with
  | nil=>intro _ _; trivial
  | cons env r ih =>
   intro hs hl
   obtain ⟨hk,⟨L,o,hf,hn,ho,hd⟩,hr⟩:=hl
   have hL : L ∈ X.fs:=hs L (by unfold frs; rw [List.filterMap_cons,hf]; exact List.mem_cons_self)
   obtain ⟨sl,e⟩:=I.base.slot L o ho (I.ok.frf L hL) hL fun z=>I.ok.exfs L z hL
   exact ⟨hk,⟨L,_,hf,hn,e,hd⟩,ih (fun b hb=>hs b (by unfold frs; rw [List.filterMap_cons,hf]; exact List.mem_cons_of_mem _ hb)) hr⟩
 exact all X.outer (fun _ hb=>hb) I.ok.funs
theorem Inv.stack (I : Inv X pins σ H s) : s.heap.FunFrames X.base X.stack:=by
 rcases I.ok.stk with e | ⟨e,hf⟩
 ·rw [e]; exact I.funs
 ·rw [e]
  obtain ⟨m,hn,_⟩:=I.loc
  refine .cons (by rw [I.ok.kind]; decide) hf hn ?_ I.funs
  exact Heap.get?_none_of_le (Nat.le_trans I.ok.bsz I.ok.above)
theorem Inv.stkSub (I : Inv X pins σ H s) : ∀ b ∈ frs X.stack,b ∈ X.env.locals :: X.fs:=fun b hb=>by
 rcases I.ok.stk with e | ⟨e,hf⟩
 ·rw [e] at hb; exact List.mem_cons_of_mem _ hb
 ·rw [e] at hb
  unfold frs at hb
  rw [List.filterMap_cons,hf] at hb
  exact hb
theorem Inv.stkFree (I : Inv X pins σ H s) : ∀ b ∈ frs X.stack,H b = none:=fun b hb=>by
 rcases List.mem_cons.mp (I.stkSub b hb) with e | hb
 ·rw [e]; exact I.free
 ·obtain ⟨_,o,ho,_⟩:=I.ok.funs.mem hb
  exact I.base.free b o ho (I.ok.frf b hb) fun z=>I.ok.exfs b z hb
theorem Inv.step {g' : Array GenState} {t' : Nat} {d' : Drawn} {ch : List Addr} (I : Inv X pins σ H s)
  (hch : ∀ b ∈ ch,(b ∈ X.ex∨X.s₀.heap.objs.size≤b)∧b ≠ X.env.locals∧(∀ x c,X.env.cells.lookup x = some c->c ≠ b)∧∀ p ∈ X.pn ++ pins,p.1 ≠ b)
  (keep : ∀ b o,b ≠ X.env.locals->b ∉ X.fs->b ∉ ch->s.heap.get? b = some o->H b = none->h'.get? b = some o)
  (slot : ∀ b o,b ≠ X.env.locals->b ∈ X.fs->b ∉ ch->s.heap.get? b = some o->H b = none->∃ sl,h'.get? b = some { o with slots:=sl }) (free : ∀ b o,b ∉ ch->s.heap.get? b = some o->H b = none->H' b = none)
  (there : ∀ b o,b ∉ ch->s.heap.get? b = some o->∃ o',h'.get? b = some o')
  (tups : ∀ b xs,H b = some (.tup xs)->H' b = some (.tup xs)) (frzs : ∀ b o u,H b = some (.frz o u)->H' b = some (.frz o u)) (tbls : ∀ b ps,H b = some (.tbl ps)->∃ more,H' b = some (.tbl (ps ++ more)))
  (ns : ∀ m,s.heap.Ns X.env.locals m->h'.Ns X.env.locals m) (hok : HOk X.prog X.w H' h') (hg : AllBare g') :
  Inv X pins σ H' { s with heap:=h',gens:=g',drawn:=d',toks:=t' }:=by
 have neL : ∀ b o,X.s₀.heap.get? b = some o->b ≠ X.env.locals:=fun b o e=>Nat.ne_of_lt (Nat.lt_of_lt_of_le (Heap.lt_size e) I.ok.above)
 have neC : ∀ b o,X.s₀.heap.get? b = some o->b ∉ X.ex->b ∉ ch:=fun b o e hx hb=>by
  rcases (hch b hb).1 with z | z
  ·exact hx z
  ·exact absurd (Nat.lt_of_lt_of_le (Heap.lt_size e) z) (Nat.lt_irrefl _)
 have cellK : ∀ x c,X.env.cells.lookup x = some c->∀ v,s.heap.IsCell c v->h'.IsCell c v:=fun x c e v ⟨o,ho,hd⟩=>by
  have nch : c ∉ ch:=fun z=>(hch c z).2.2.1 x c e rfl
  by_cases hc : c ∈ X.fs
  ·obtain ⟨sl,q⟩:=slot c o (I.cne x c e) hc nch ho (I.freeC x c e)
   exact ⟨_,q,hd⟩
  ·exact ⟨o,keep c o (I.cne x c e) hc nch ho (I.freeC x c e),hd⟩
 refine ⟨I.ok,I.os,hg,⟨fun b o e n hb hx=>?_,fun b o e n hb hx=>?_,fun b o e n hx=>?_,fun b o e hx=>?_,fun b xs e=>tups b xs (I.base.tups b xs e),fun b o xs e=>frzs b o xs (I.base.frzs b o xs e),fun b ps e=>?_⟩,?_,fun x c e=>?_,?_,fun x c e=>?_,fun p hp=>?_,hok,I.len⟩
 ·exact keep b o (neL b o e) hb (neC b o e hx) (I.base.keep b o e n hb hx) (I.base.free b o e n hx)
 ·obtain ⟨sl,e1⟩:=I.base.slot b o e n hb hx
  obtain ⟨sl',e2⟩:=slot b _ (neL b o e) hb (neC b o e hx) e1 (I.base.free b o e n hx)
  exact ⟨sl',e2⟩
 ·obtain ⟨o',e1⟩:=I.base.there b o e hx
  exact free b o' (neC b o e hx) e1 (I.base.free b o e n hx)
 ·obtain ⟨o',e1⟩:=I.base.there b o e hx
  exact there b o' (neC b o e hx) e1
 ·obtain ⟨m1,e1⟩:=I.base.tbls b ps e
  obtain ⟨m2,e2⟩:=tbls b _ e1
  exact ⟨m1 ++ m2,by rw [e2,Array.append_assoc]⟩
 ·obtain ⟨m,hn,hl⟩:=I.loc
  refine ⟨m,ns m hn,fun i x v e1 e2 e3=>?_⟩
  obtain ⟨u,r,l⟩:=hl i x v e1 e2 e3
  refine ⟨u,r,?_⟩
  rcases l with l | ⟨k,c,e,z⟩
  ·exact .inl l
  ·exact .inr ⟨k,c,e,cellK x c e _ z⟩
 ·obtain ⟨v,z⟩:=I.cell x c e
  exact ⟨v,cellK x c e v z⟩
 ·obtain ⟨m,⟨o,_,_,ho,_⟩,_⟩:=I.loc
  exact free _ o (fun z=>(hch _ z).2.1 rfl) ho I.free
 ·obtain ⟨v,o,ho,hd⟩:=I.cell x c e
  exact free c o (fun z=>(hch c z).2.2.1 x c e rfl) ho (I.freeC x c e)
 ·obtain ⟨e,n,ne,nf,d⟩:=I.pin p hp
  have nch : p.1 ∉ ch:=fun z=>(hch p.1 z).2.2.2 p hp rfl
  exact ⟨keep p.1 p.2 ne nf nch e n,free p.1 p.2 nch e n,ne,nf,d⟩
theorem Inv.un {t' : Nat} (I : Inv X pins σ H s) (u : Un X.fs [] H H' s.heap h') (hok : HOk X.prog X.w H' h') : Inv X pins σ H' { s with heap:=h',toks:=t' }:=by
 obtain ⟨m,⟨o,es,ep,ho,r⟩,_⟩:=id I.loc
 obtain ⟨sl,hL⟩:=u.any ho I.free (by simp)
 exact I.step (g':=s.gens) (d':=s.drawn) (ch:=[]) (fun _ z=>nomatch z) (fun b o _ hb _ e n=>u.keep b o e n hb (by simp)) (fun b o _ hb _ e n=>u.slot b o e n hb (by simp)) (fun b o _ e n=>u.free b o e n (by simp)) (fun b o _ e=>u.there b o e (by simp)) u.tups u.frzs u.tbls (fun m' hm=>by
  obtain ⟨o',es',ep',ho',r'⟩:=hm
  rw [ho] at ho'; cases ho'
  exact ⟨_,es',ep',hL,r'⟩) hok I.bare
theorem Inv.call {g' : Array GenState} {t' : Nat} {d' : Drawn} {ch : List Addr} (I : Inv X pins σ H s) (u : Un (frs X.stack) ch H H' s.heap h') (hok : HOk X.prog X.w H' h') (hg : AllBare g')
  (hch : ∀ b ∈ ch,(b ∈ X.ex∨X.s₀.heap.objs.size≤b)∧b ≠ X.env.locals∧(∀ x c,X.env.cells.lookup x = some c->c ≠ b)∧∀ p ∈ X.pn ++ pins,p.1 ≠ b) :
  Inv X pins σ H' { s with heap:=h',gens:=g',drawn:=d',toks:=t' }:=by
 obtain ⟨m,⟨o,es,ep,ho,r⟩,_⟩:=id I.loc
 obtain ⟨sl,hL⟩:=u.any ho I.free fun z=>(hch _ z).2.1 rfl
 exact I.step (ch:=ch) hch (fun b o hL hb hc e n=>u.keep b o e n (fun z=>(List.mem_cons.mp (I.stkSub b z)).elim hL hb) hc) (fun b o _ _ hc e n=>u.any e n hc) (fun b o hc e n=>u.free b o e n hc) (fun b o hc e=>u.there b o e hc) u.tups u.frzs u.tbls (fun m' hm=>by
  obtain ⟨o',es',ep',ho',r'⟩:=hm
  rw [ho] at ho'; cases ho'
  exact ⟨_,es',ep',hL,r'⟩) hok hg
theorem Inv.turned {t' : Nat} {it : Addr} (I : Inv X pins σ H s) (k : ∀ b o,b ≠ it->s.heap.get? b = some o->h'.get? b = some o) (hn : H it = none) (hL : it ≠ X.env.locals)
  (h1 : it ∈ X.ex∨X.s₀.heap.objs.size≤it) (h2 : ∀ x c,X.env.cells.lookup x = some c->c ≠ it) (h3 : ∀ p ∈ X.pn ++ pins,p.1 ≠ it) : Inv X pins σ H { s with heap:=h',toks:=t' }:=by
 have nit : ∀ b u,H b = some u->b ≠ it:=fun b u e z=>by rw [z,hn] at e; cases e
 refine I.step (g':=s.gens) (d':=s.drawn) (ch:=[it]) (fun b hb=>?_) (fun b o _ _ hc e _=>k b o (fun z=>hc (by simp [z])) e) (fun b o _ _ hc e _=>⟨o.slots,k b o (fun z=>hc (by simp [z])) e⟩) (fun _ _ _ _ n=>n)
  (fun b o hc e=>⟨o,k b o (fun z=>hc (by simp [z])) e⟩) (fun _ _ e=>e) (fun _ _ _ e=>e) (fun b ps e=>⟨#[],by rw [e]; simp⟩) (fun m hm=>?_) (fun b u e=>?_) I.bare
 ·have e : b = it:=by simpa using hb
  subst e
  exact ⟨h1,hL,h2,h3⟩
 ·obtain ⟨o,es,ep,ho,r⟩:=hm
  exact ⟨o,es,ep,k _ o (Ne.symm hL) ho,r⟩
 ·refine (I.hok b u e).stay (fun c v hc q=>k c v ?_ q) (fun _ q=>q) fun _ _ q=>q
  rcases hc with z | z
  ·rw [z]; exact nit b u e
  ·exact nit c _ z
theorem Inv.tok (I : Inv X pins σ H s) (t : Nat) : Inv X pins σ H { s with toks:=t }:=I.un (h':=s.heap) (t':=t) Un.refl I.hok
theorem Inv.kept {t' : Nat} (I : Inv X pins σ H s) (k : ∀ b u,s.heap.get? b = some u->h'.get? b = some u) : Inv X pins σ H { s with heap:=h',toks:=t' }:=I.un (Un.kept k) (I.hok.kept k)
theorem Inv.laid {a : Addr} {o : HO} {t' : Nat} (I : Inv X pins σ H s) (k : ∀ b u,s.heap.get? b = some u->h'.get? b = some u) (hp : s.heap.objs.size≤a) (new : ObjOk X.prog X.w (upd H a o) h' a o) :
  Inv X pins σ (upd H a o) { s with heap:=h',toks:=t' }:=I.un (Un.laid k hp (I.hok.fresh hp)) (I.hok.laid k hp new)
theorem Inv.write {x e : Addr} {o : HO} {t' : Nat} (I : Inv X pins σ H s) (mu : Mut (H x)) (he : e = x∨H e = some (.own x)) (k : ∀ b u,b ≠ e->s.heap.get? b = some u->h'.get? b = some u) (heo : ∃ u,h'.get? e = some u)
  (new : ObjOk X.prog X.w (upd H x o) h' x o) : Inv X pins σ (upd H x o) { s with heap:=h',toks:=t' }:=I.un (Un.write mu he k heo) (I.hok.write mu he k heo new)
theorem Inv.weak {σ' : List (Option V)} (I : Inv X pins σ H s) (hl : σ'.length = σ.length) (w : ∀ (i : Nat) v,σ'[i]? = some (some v)->σ[i]? = some (some v)) : Inv X pins σ' H s :=
 ⟨I.ok,I.os,I.bare,I.base,let ⟨m,hn,hl'⟩:=I.loc; ⟨m,hn,fun i x v e1 e2 e3=>hl' i x v e1 (w i v e2) e3⟩,I.cell,I.free,I.freeC,I.pin,I.hok,hl.trans I.len⟩
theorem Inv.pins_of {pins' : List (Addr × Obj)} (I : Inv X pins σ H s) (h : ∀ p ∈ pins',s.heap.get? p.1 = some p.2∧H p.1 = none∧p.1 ≠ X.env.locals∧p.1 ∉ X.fs∧∀ v,p.2.data ≠ .cell v) : Inv X pins' σ H s :=
 ⟨I.ok,I.os,I.bare,I.base,I.loc,I.cell,I.free,I.freeC,fun p hp=>(List.mem_append.mp hp).elim (fun z=>I.pin p (List.mem_append_left _ z)) (h p),I.hok,I.len⟩
theorem V2 {N : List Str} (hN : N.Nodup) {i j : Nat} {x : Str} (a : N[i]? = some x) (b : N[j]? = some x) : i = j:=by
 obtain ⟨h1,e1⟩:=List.getElem?_eq_some_iff.mp a
 obtain ⟨h2,e2⟩:=List.getElem?_eq_some_iff.mp b
 exact (List.getElem_inj hN).mp (e1.trans e2.symm)
theorem U5 {M : Model} {A : Around} {E : Value->Shared->Prop} {i : Nat} {x : Str} {v : V} {u : Value} {Q : Unit->Shared->Prop} (I : Inv X pins σ H s) (hN : X.N.Nodup) (hi : X.N[i]? = some x) (hx : Loc X.env.scope x) (r : RelV v u)
  (h : ∀ s',Inv X pins (σ.set i (some v)) H s'->(∃ a,Heap.SameBut a s.heap s'.heap∧(a = X.env.locals∨X.env.cells.lookup x = some a))->Q () s') (hf : X.fn x = true∨X.env.scope.names.lookup x = some .local:=by first | exact .inl rfl | exact .inr rfl | assumption) : wpAny M A (storeName X.env x u) Q E s:=by
 obtain ⟨m,hn,hl⟩:=id I.loc
 have hcls : (X.env.scope.kind == .class || (X.env.scope.kind == .module && X.env.locals != X.env.globals)) = false:=by rw [I.ok.kind]; rfl
 have hiσ : i < σ.length:=by rw [I.len]; exact (List.getElem?_eq_some_iff.mp hi).1
 have cne:=I.cne
 have tracked : ∀ {a : Addr} {h' : Heap},(∃ o,s.heap.get? a = some o∧H a = none)->Heap.SameBut a s.heap h'->HOk X.prog X.w H h':=fun {a h'} ha hs b ob e=>by
  obtain ⟨_,_,hfree⟩:=ha
  refine (I.hok b ob e).stay (fun c w' hc q=>(hs.2 c ?_).trans q) (fun _ q=>q) fun _ _ q=>q
  rintro rfl
  rcases hc with rfl | hc
  ·rw [hfree] at e; cases e
  ·rw [hfree] at hc; cases hc
 rcases hx with hk | hk
 ·refine wpAny_storeName_local hk hn (fun h' hn' hs=>?_) hcls
  obtain ⟨oL,_,_,hoL,_⟩:=id hn
  refine h _ ⟨I.ok,I.os,I.bare,⟨fun b o e n hb hx=>?_,fun b o e n hb hx=>?_,I.base.free,fun b o e hx=>?_,I.base.tups,I.base.frzs,I.base.tbls⟩,⟨_,hn',fun j y v' e1 e2 e3=>?_⟩,fun y c e=>?_,I.free,I.freeC,fun p hp=>?_,tracked ⟨oL,hoL,I.free⟩ hs,by simpa using I.len⟩ ⟨_,hs,.inl rfl⟩
  ·exact (hs.2 b (Nat.ne_of_lt (Nat.lt_of_lt_of_le (Heap.lt_size e) I.ok.above))).trans (I.base.keep b o e n hb hx)
  ·obtain ⟨sl,e1⟩:=I.base.slot b o e n hb hx
   exact ⟨sl,(hs.2 b (Nat.ne_of_lt (Nat.lt_of_lt_of_le (Heap.lt_size e) I.ok.above))).trans e1⟩
  ·obtain ⟨o',e1⟩:=I.base.there b o e hx
   exact ⟨o',(hs.2 b (Nat.ne_of_lt (Nat.lt_of_lt_of_le (Heap.lt_size e) I.ok.above))).trans e1⟩
  ·by_cases hj : j = i
   ·subst hj
    rw [hi] at e1; cases e1
    rw [List.getElem?_set_self hiσ] at e2
    cases e2
    exact ⟨u,r,.inl ⟨hk,by simp⟩⟩
   ·rw [List.getElem?_set_ne (Ne.symm hj)] at e2
    obtain ⟨u',r',q⟩:=hl j y v' e1 e2 e3
    refine ⟨u',r',?_⟩
    rcases q with ⟨k,e⟩ | ⟨k,c,e,z⟩
    ·refine .inl ⟨k,?_⟩
     have : y ≠ x:=fun e=>hj (V2 hN e1 (e ▸ hi))
     simp [this,e]
    ·exact .inr ⟨k,c,e,z.sameBut hs (cne y c e)⟩
  ·obtain ⟨w',z⟩:=I.cell y c e
   exact ⟨w',z.sameBut hs (cne y c e)⟩
  ·obtain ⟨e,n,ne,nf,d⟩:=I.pin p hp
   exact ⟨(hs.2 p.1 ne).trans e,n,ne,nf,d⟩
 ·have hfn : X.fn x = true:=by
   rcases hf with z | z
   ·exact z
   ·rw [z] at hk; cases hk
  obtain ⟨c,hc⟩:=I.ok.has x (.inl hk)
  obtain ⟨w',z⟩:=I.cell x c hc
  refine wpAny_storeName_cell I.ok.kind hk hc z (fun h' hc' hs=>?_)
  obtain ⟨oc,hoc,hocd⟩:=id z
  refine h { s with heap:=h' } ⟨I.ok,I.os,I.bare,⟨fun b o e n hb hx=>?_,fun b o e n hb hx=>?_,I.base.free,fun b o e hx=>?_,I.base.tups,I.base.frzs,I.base.tbls⟩,⟨m,hn.sameBut hs (Ne.symm (cne x c hc)),fun j y v' e1 e2 e3=>?_⟩,fun y c' e=>?_,I.free,I.freeC,fun p hp=>?_,tracked ⟨oc,hoc,I.freeC x c hc⟩ hs,by simpa using I.len⟩ ⟨c,hs,.inr hc⟩
  ·exact (hs.2 b (Nat.ne_of_lt (Nat.lt_of_lt_of_le (Heap.lt_size e) (I.ok.cab x c hfn hc)))).trans (I.base.keep b o e n hb hx)
  ·obtain ⟨sl,e1⟩:=I.base.slot b o e n hb hx
   exact ⟨sl,(hs.2 b (Nat.ne_of_lt (Nat.lt_of_lt_of_le (Heap.lt_size e) (I.ok.cab x c hfn hc)))).trans e1⟩
  ·obtain ⟨o',e1⟩:=I.base.there b o e hx
   exact ⟨o',(hs.2 b (Nat.ne_of_lt (Nat.lt_of_lt_of_le (Heap.lt_size e) (I.ok.cab x c hfn hc)))).trans e1⟩
  ·by_cases hj : j = i
   ·subst hj
    rw [hi] at e1; cases e1
    rw [List.getElem?_set_self hiσ] at e2
    cases e2
    exact ⟨u,r,.inr ⟨.inl hk,c,hc,hc'⟩⟩
   ·rw [List.getElem?_set_ne (Ne.symm hj)] at e2
    obtain ⟨u',r',q⟩:=hl j y v' e1 e2 e3
    refine ⟨u',r',?_⟩
    rcases q with q | ⟨k,c',e,z'⟩
    ·exact .inl q
    ·refine .inr ⟨k,c',e,z'.sameBut hs ?_⟩
     rintro rfl
     exact hj (V2 hN e1 (I.ok.inj _ _ _ e hc ▸ hi))
  ·by_cases hcc : c' = c
   ·subst hcc; exact ⟨_,hc'⟩
   ·obtain ⟨w2,z2⟩:=I.cell y c' e
    exact ⟨w2,z2.sameBut hs hcc⟩
  ·obtain ⟨e,n,ne,nf,d⟩:=I.pin p hp
   refine ⟨(hs.2 p.1 ?_).trans e,n,ne,nf,d⟩
   intro q
   rw [q,hoc] at e
   have q' : oc = p.2:=Option.some.inj e
   exact d w' (by rw [← q']; exact hocd)
theorem XX {M : Model} {A : Around} {E : Value->Shared->Prop} {i : Nat} {x : Str} {v : V} {u : Value} {Q : Unit->Shared->Prop} (I : Inv X pins σ H s) (hN : X.N.Nodup) (hi : X.N[i]? = some x) (hx : Loc X.env.scope x) (r : RelV v u)
  (h : ∀ s',Inv X pins (σ.set i (some v)) H s'->Q () s') (hf : X.fn x = true∨X.env.scope.names.lookup x = some .local:=by first | exact .inl rfl | exact .inr rfl | assumption) : wpAny M A (storeName X.env x u) Q E s :=
 U5 I hN hi hx r (fun s' I' _=>h s' I') hf
theorem Inv.call' {s' : Shared} {ch : List Addr} (I : Inv X pins σ H s) (ho : s'.os = s.os) (u : Un (frs X.stack) ch H H' s.heap s'.heap) (hok : HOk X.prog X.w H' s'.heap) (hg : AllBare s'.gens)
  (hch : ∀ b ∈ ch,(b ∈ X.ex∨X.s₀.heap.objs.size≤b)∧b ≠ X.env.locals∧(∀ x c,X.env.cells.lookup x = some c->c ≠ b)∧∀ p ∈ X.pn ++ pins,p.1 ≠ b) : Inv X pins σ H' s':=by
 obtain ⟨h',g',d',t',o'⟩:=s'
 have e : o' = s.os:=ho
 subst e
 exact I.call (g':=g') (t':=t') (d':=d') u hok hg hch
end
abbrev XK:=Value->Option Addr->Hp->Prop
abbrev St:=List (Option V)
abbrev VK:=V->Hp->Prop
abbrev TE:=St->Hp->VK->Prop
abbrev TT:=St->Hp->(Bool->Hp->Prop)->Prop
abbrev TA:=St->Hp->(List V->Hp->Prop)->Prop
structure Ends where
 nx : St->Hp->Prop
 rt : VK
 bk : St->Hp->Prop:=fun _ _=>False
 ct : St->Hp->Prop:=fun _ _=>False
abbrev TS:=Ends->St->Hp->Prop
def EP (X : Cx) (pins : List (Addr × Obj)) (σ : St) (Q : VK) (u : Value) (s' : Shared) : Prop:=∃ v H',Inv X pins σ H' s'∧RelV v u∧Q v H'
def TP (X : Cx) (pins : List (Addr × Obj)) (σ : St) (Q : Bool->Hp->Prop) (b : Bool) (s' : Shared) : Prop:=∃ H',Inv X pins σ H' s'∧Q b H'
def AP (X : Cx) (pins : List (Addr × Obj)) (σ : St) (Q : List V->Hp->Prop) (us : List Value) (s' : Shared) : Prop:=∃ vs H',Inv X pins σ H' s'∧Vals vs us∧Q vs H'
def SP (X : Cx) (pins : List (Addr × Obj)) (D : Ends) (f : Flow) (s' : Shared) : Prop :=
 match f with
 | .next=>∃ σ' H',Inv X pins σ' H' s'∧D.nx σ' H'
 | .brk=>∃ σ' H',Inv X pins σ' H' s'∧D.bk σ' H'
 | .cont=>∃ σ' H',Inv X pins σ' H' s'∧D.ct σ' H'
 | .ret u=>∃ v σ' H',Inv X pins σ' H' s'∧RelV v u∧D.rt v H'
def PE (X : Cx) (e : Expr) (t : TE) : Prop :=
 ∀ (pins : List (Addr × Obj)) (s : Shared) (σ : St) (H : Hp) (Q : VK),Inv X pins σ H s->t σ H Q->wpAny (model X.prog X.w) X.A (eval e X.env) (EP X pins σ Q) X.xe s
def PT (X : Cx) (e : Expr) (t : TT) : Prop :=
 ∀ (pins : List (Addr × Obj)) (s : Shared) (σ : St) (H : Hp) (Q : Bool->Hp->Prop),Inv X pins σ H s->t σ H Q->wpAny (model X.prog X.w) X.A (isTrue e X.env (eval e X.env)) (TP X pins σ Q) X.xe s
def PW (X : Cx) (e : Expr) (t : TT) : Prop :=
 ∀ (whole : Sem Value) (pins : List (Addr × Obj)) (s : Shared) (σ : St) (H : Hp) (Q : Bool->Hp->Prop),Inv X pins σ H s->t σ H Q->wpAny (model X.prog X.w) X.A (isTrue e X.env whole) (TP X pins σ Q) X.xe s
theorem PW.pt {X : Cx} {e : Expr} {t : TT} (h : PW X e t) : PT X e t:=h _
def PA (X : Cx) (es : List Expr) (t : TA) : Prop :=
 ∀ (pos : Pos) (pins : List (Addr × Obj)) (s : Shared) (σ : St) (H : Hp) (Q : List V->Hp->Prop),Inv X pins σ H s->t σ H Q->wpAny (model X.prog X.w) X.A (spliced (backTo pos (starEach es X.env))) (AP X pins σ Q) X.xe s
def PS (X : Cx) (st : Stmt) (t : TS) : Prop :=
 ∀ (pins : List (Addr × Obj)) (s : Shared) (σ : St) (H : Hp) (D : Ends),Inv X pins σ H s->t D σ H->wpAny (model X.prog X.w) X.A (exec st X.env) (SP X pins D) X.xe s
def PSs (X : Cx) (st : List Stmt) (t : TS) : Prop :=
 ∀ (pins : List (Addr × Obj)) (s : Shared) (σ : St) (H : Hp) (D : Ends),Inv X pins σ H s->t D σ H->wpAny (model X.prog X.w) X.A (execs st X.env) (SP X pins D) X.xe s
theorem thn {α : Type} {t : Sem α} {Q Q' : α->Shared->Prop} {M : Model} {A : Around} {E : Value->Shared->Prop} {s : Shared} (h : wpAny M A t Q E s) (hQ : ∀ a s,Q a s->Q' a s) : wpAny M A t Q' E s:=wpAny_mono h hQ fun _ _ x=>x
section
variable {X : Cx}
def Um (i : Nat) : TE:=fun σ H Q=>∃ v,σ[i]? = some (some v)∧Q v H
def tC (v : V) : TE:=fun _ H Q=>Q v H
theorem ze1 {i : Nat} {x : Str} {pos : Pos} (hN : X.N[i]? = some x) (hv : Vis X.env.scope x) (hd : (x == ("__debug__" : Str)) = false:=by decide) (hcd : (x == ("__classdict__" : Str)) = false:=by decide) : PE X (.Name x pos) (Um i):=by
 intro pins s σ H Q I h
 obtain ⟨v,e,h⟩:=h
 obtain ⟨m,hn,hl⟩:=I.loc
 obtain ⟨u,r,l⟩:=hl i x v hN e hv
 have fin : EP X pins σ Q u s:=⟨v,H,I,r,h⟩
 rcases l with ⟨hk,hm⟩ | ⟨hk,c,hc,hcell⟩
 ·exact wpAny_Name (wpAny_loadName_local I.ok.kind hk hn hm fin) hd
 ·rcases hk with hk | hk
  ·exact wpAny_Name (wpAny_loadName_cell I.ok.kind hk hc hcell fin) hd
  ·exact wpAny_Name (wpAny_loadName_free I.ok.kind hk hc hcell fin hcd) hd
theorem zm {i j pos} : PE X (.Constant (.int i) j pos) (tC (.int i)):=fun _ _ _ H _ I h=>wpAny_Constant_int ⟨.int i,H,I.tok _,⟨_,rfl⟩,h⟩
theorem tW {b j pos} : PE X (.Constant (.bool b) j pos) (tC (.bl b)):=fun _ _ _ H _ I h=>Constant_bool ⟨.bl b,H,I,rfl,h⟩
theorem vp {j pos} : PE X (.Constant .none j pos) (tC .non):=fun _ _ _ H _ I h=>Constant_none ⟨.non,H,I,rfl,h⟩
theorem V9 {x j pos} : PE X (.Constant (.str x) j pos) (tC (.str x)):=fun _ _ _ H _ I h=>Calls.Constant_str ⟨.str x,H,I.tok _,⟨_,rfl⟩,h⟩
def Gl (X : Cx) (x : Str) : Prop:=X.env.kindOf x = some .globalImplicit
theorem YG {E : Value->Shared->Prop} {pins : List (Addr × Obj)} {s : Shared} {σ : St} {H : Hp} {x : Str} {u : Value} {pos : Pos} {Q : Value->Shared->Prop} (I : Inv X pins σ H s) (hg : Gl X x) (hm : X.mg x = some u) (h : Q u s)
  (hd : (x == ("__debug__" : Str)) = false:=by decide) : wpAny (model X.prog X.w) X.A (eval (.Name x pos) X.env) Q E s :=
 Calls.Name_function_global I.ok.kind hg (Calls.loadGlobal_global (by rw [I.ok.glob]; exact I.mod.glob.keeps I.bk) hm h) hd
theorem jh {E : Value->Shared->Prop} {pins : List (Addr × Obj)} {s : Shared} {σ : St} {H : Hp} {x : Str} {u : Value} {pos : Pos} {Q : Value->Shared->Prop} (I : Inv X pins σ H s) (hg : Gl X x) (hm : X.mg x = none) (hv : bootBuiltins x = some u) (h : Q u s)
  (hn : x ≠ "__name__":=by decide) (hd : (x == ("__debug__" : Str)) = false:=by decide) : wpAny (model X.prog X.w) X.A (eval (.Name x pos) X.env) Q E s:=by
 obtain ⟨mb,h1,h2⟩:=I.mod.blt
 exact Calls.Name_function_global I.ok.kind hg (Calls.loadGlobal_builtin (by rw [I.ok.glob]; exact I.mod.glob.keeps I.bk) hm (by rw [I.ok.blt]; exact h1.keeps I.bk) ((h2 x hn).trans hv) h) hd
theorem xq {x : Str} {v : V} {u : Value} {pos : Pos} (hg : Gl X x) (hm : X.mg x = some u) (r : RelV v u) (hd : (x == ("__debug__" : Str)) = false:=by decide) : PE X (.Name x pos) (tC v) :=
 fun _ _ _ H _ I h=>YG I hg hm ⟨v,H,I,r,h⟩ hd
theorem Yz {x : Str} {v : V} {u : Value} {pos : Pos} (hg : Gl X x) (hm : X.mg x = none) (hv : bootBuiltins x = some u) (r : RelV v u) (hn : x ≠ "__name__":=by decide) (hd : (x == ("__debug__" : Str)) = false:=by decide) : PE X (.Name x pos) (tC v) :=
 fun _ _ _ H _ I h=>jh I hg hm hv ⟨v,H,I,r,h⟩ hn hd
variable {a b : Expr} {ta tb : TE} {pos : Pos}
def tB (t : TE) : TT:=fun σ H Q=>t σ H fun x H1=>∃ c,x = .bl c∧Q c H1
theorem uA {e : Expr} {t : TE} (h : PE X e t) (he : ∀ whole,isTrue e X.env whole = (do let v ← whole; standAt e.pos; holding [v] (truthy v)):=by intro _; rfl) : PT X e (tB t):=by
 intro pins s σ H Q I hw
 refine isTrue_plain (thn (h pins s σ H _ I hw) fun v s1 ⟨x,H1,I1,r1,q1⟩=>?_) (he _)
 obtain ⟨d,rfl,q⟩:=q1
 cases r1
 exact wpAny_truthy_bool ⟨H1,I1,q⟩
variable {tA tB' : TT} {rest : List Expr}
def zf8 (t u : TT) : TT:=fun σ H Q=>t σ H fun c H1=>if c = true then u σ H1 Q else Q false H1
def tOr (t u : TT) : TT:=fun σ H Q=>t σ H fun c H1=>if c = true then Q true H1 else u σ H1 Q
def zf5 (t : TT) : TT:=fun σ H Q=>t σ H fun c H1=>Q (!c) H1
theorem zbx (ha : PT X a tA) : PW X (.BoolOp .And [a] pos) tA:=by
 intro wh pins s σ H Q I h
 refine isTrue_and (thn (ha pins s σ H Q I h) fun c s1 e=>?_)
 cases c with
 | true=>exact isTrue_and_nil e
 | false=>exact e
theorem Qv (ha : PT X a tA) : PW X (.BoolOp .Or [a] pos) tA:=by
 intro wh pins s σ H Q I h
 refine isTrue_or (thn (ha pins s σ H Q I h) fun c s1 e=>?_)
 cases c with
 | false=>exact isTrue_or_nil e
 | true=>exact e
theorem zcu (ha : PT X a tA) (hb : PW X (.BoolOp .And (b :: rest) pos) tB') : PW X (.BoolOp .And (a :: b :: rest) pos) (zf8 tA tB'):=by
 intro wh pins s σ H Q I h
 refine isTrue_and (thn (ha pins s σ H _ I h) fun c s1 ⟨H1,I1,q1⟩=>?_)
 cases c with
 | true=>exact hb wh pins s1 σ H1 Q I1 q1
 | false=>exact ⟨H1,I1,q1⟩
theorem zbj (ha : PT X a tA) (hb : PW X (.BoolOp .Or (b :: rest) pos) tB') : PW X (.BoolOp .Or (a :: b :: rest) pos) (tOr tA tB'):=by
 intro wh pins s σ H Q I h
 refine isTrue_or (thn (ha pins s σ H _ I h) fun c s1 ⟨H1,I1,q1⟩=>?_)
 cases c with
 | true=>exact ⟨H1,I1,q1⟩
 | false=>exact hb wh pins s1 σ H1 Q I1 q1
theorem je (ha : PT X a tA) : PT X (.UnaryOp .Not a pos) (zf5 tA):=by
 intro pins s σ H Q I h
 exact isTrue_not (ha pins s σ H (fun c H1=>Q (!c) H1) I h)
def zfJ (ta tb : TE) : TE:=fun σ H Q=>ta σ H fun x H1=>∃ c,x = .bl c∧if c = true then tb σ H1 Q else Q (.bl false) H1
def zfH (ta : TE) : TE:=fun σ H Q=>ta σ H fun x H1=>∃ c,x = .bl c∧Q (.bl (!c)) H1
theorem Zo {op} {t : TE} (h : PE X a t) : PE X (.BoolOp op [a] pos) t:=fun pins s σ H Q I hw=>BoolOp_one (h pins s σ H Q I hw)
theorem ZR (ha : PE X a ta) (hb : PE X (.BoolOp .And (b :: rest) pos) tb) : PE X (.BoolOp .And (a :: b :: rest) pos) (zfJ ta tb):=by
 intro pins s σ H Q I h
 refine BoolOp_and (thn (ha pins s σ H _ I h) fun v s1 ⟨x,H1,I1,r1,q1⟩=>?_)
 obtain ⟨c,rfl,q1⟩:=q1
 cases r1
 refine wpAny_truthy_bool ?_
 cases c with
 | true=>exact hb pins s1 σ H1 Q I1 q1
 | false=>exact ⟨.bl false,H1,I1,rfl,q1⟩
theorem zdA (ha : PE X a ta) : PE X (.UnaryOp .Not a pos) (zfH ta):=by
 intro pins s σ H Q I h
 refine UnaryOp_ (thn (ha pins s σ H _ I h) fun v s1 ⟨x,H1,I1,r1,q1⟩=>?_)
 obtain ⟨c,rfl,q1⟩:=q1
 cases r1
 exact not_of (wpAny_truthy_bool ⟨.bl (!c),H1,I1,rfl,q1⟩)
def tIf (t : TT) (ta tb : TE) : TE:=fun σ H Q=>t σ H fun c H1=>if c = true then ta σ H1 Q else tb σ H1 Q
theorem JT {c : Expr} (hc : PT X c tA) (ha : PE X a ta) (hb : PE X b tb) : PE X (.IfExp c a b pos) (tIf tA ta tb):=by
 intro pins s σ H Q I h
 refine wpAny_IfExp (thn (hc pins s σ H _ I h) fun d s1 ⟨H1,I1,q1⟩=>?_)
 cases d with
 | true=>exact ha pins s1 σ H1 Q I1 q1
 | false=>exact hb pins s1 σ H1 Q I1 q1
end
def SqL (K : PySem.W.Frag) (H : Hp) (a : Addr) (xs : List V) : Prop :=
 Rd H a (.lst xs) ∨
  ∃ (o : Obj) (its : Array Value) (n : Nat),K.lookup a = some o∧o.cls = .type "list"∧o.dict = none∧o.data = .seq its n∧its.size≤sizeLine∧Vals xs its.toList
def SqT (K : PySem.W.Frag) (H : Hp) (a : Addr) (xs : List V) : Prop :=
 Rd H a (.tup xs) ∨
  ∃ (o : Obj) (its : Array Value) (n : Nat),K.lookup a = some o∧o.cls = .type "tuple"∧o.data = .seq its n∧its.size≤sizeLine∧Vals xs its.toList
def zf3 : Value->Option V
 | .none=>some .non
 | .bool b=>some (.bl b)
 | .int i _=>some (.int i)
 | .str x _=>some (.str x)
 | .bytes b _=>some (.byt b)
 | .float b _=>some (.flt b)
 | .ref a=>some (.ref a)
 | .type n=>some (.ty n)
 | _=>none
theorem RelV.abs {x : V} {u : Value} (r : RelV x u) : zf3 u = some x:=by
 cases x with
 | non=>cases r; rfl
 | bl _=>cases r; rfl
 | int _=>obtain ⟨t,rfl⟩:=r; rfl
 | str _=>obtain ⟨t,rfl⟩:=r; rfl
 | byt _=>obtain ⟨t,rfl⟩:=r; rfl
 | flt _=>obtain ⟨t,rfl⟩:=r; rfl
 | ref _=>cases r; rfl
 | ty _=>cases r; rfl
theorem RelV.inj {x y : V} {u : Value} (r : RelV x u) (q : RelV y u) : x = y:=Option.some.inj (r.abs.symm.trans q.abs)
theorem Vals.inj : ∀ {xs ys : List V} {us : List Value},Vals xs us->Vals ys us->xs = ys
 | _,_,_,.nil,.nil=>rfl
 | _,_,_,.cons r t,.cons r' t'=>by rw [r.inj r',Vals.inj t t']
section
variable {X : Cx} {pins : List (Addr × Obj)} {σ : St} {H : Hp} {s : Shared} {a : Addr} {xs ys : List V}
theorem SqL.of {K : PySem.W.Frag} (h : H a = some (.lst xs)) : SqL K H a xs:=.inl (.inl h)
theorem SqT.of {K : PySem.W.Frag} (h : H a = some (.tup xs)) : SqT K H a xs:=.inl (.inl h)
theorem Inv.list (I : Inv X pins σ H s) (h : SqL X.K H a xs) : ∃ its : List Value,Vals xs its∧PlainL s.heap a its.toArray∧xs.length≤sizeLine:=by
 rcases h with h | ⟨o,its,n,hk,hc,hd,hs,hz,r⟩
 ·obtain ⟨z,its,n,r,e⟩:=h.ok I.hok
  exact ⟨its,r,⟨_,n,e,rfl,rfl,rfl⟩,z⟩
 ·refine ⟨its.toList,r,⟨o,n,I.kIn a o hk,hc,hd,by simpa using hs⟩,?_⟩
  have e:=r.length
  simp only [Array.length_toList] at e
  omega
theorem Inv.tuple (I : Inv X pins σ H s) (h : SqT X.K H a xs) : ∃ its : List Value,Vals xs its∧IsTup s.heap a its.toArray∧xs.length≤sizeLine:=by
 rcases h with h | ⟨o,its,n,hk,hc,hs,hz,r⟩
 ·obtain ⟨z,its,r,p⟩:=h.ok I.hok
  exact ⟨its,r,p,z⟩
 ·refine ⟨its.toList,r,⟨o,I.kIn a o hk,hc,n,by simpa using hs⟩,?_⟩
  have e:=r.length
  simp only [Array.length_toList] at e
  omega
theorem Inv.list_inj (I : Inv X pins σ H s) (h : SqL X.K H a xs) (h' : SqL X.K H a ys) : xs = ys:=by
 obtain ⟨its,r,⟨o,n,e,_,_,d⟩,_⟩:=I.list h
 obtain ⟨its',r',⟨o',n',e',_,_,d'⟩,_⟩:=I.list h'
 rw [e] at e'; cases e'
 rw [d] at d'
 injection d' with d1 _
 have : its = its':=by simpa using congrArg Array.toList d1
 subst this
 exact r.inj r'
theorem Inv.tuple_inj (I : Inv X pins σ H s) (h : SqT X.K H a xs) (h' : SqT X.K H a ys) : xs = ys:=by
 obtain ⟨its,r,⟨o,e,_,n,d⟩,_⟩:=I.tuple h
 obtain ⟨its',r',⟨o',e',_,n',d'⟩,_⟩:=I.tuple h'
 rw [e] at e'; cases e'
 rw [d] at d'
 injection d' with d1 _
 have : its = its':=by simpa using congrArg Array.toList d1
 subst this
 exact r.inj r'
end
abbrev Cx.wish (X : Cx) (E : Value->Shared->Prop) : Cx:={ X with xe:=E }
abbrev Cx.nox (X : Cx) : Cx:=X.wish fun _ _=>False
theorem Cx.Ok.wish {X : Cx} (ok : X.Ok) (E : Value->Shared->Prop) : (X.wish E).Ok :=
 ⟨ok.mod,ok.kind,ok.glob,ok.blt,ok.above,ok.inj,ok.has,ok.cab,ok.hd,ok.frames,ok.stk,ok.exf,ok.bs,ok.bsz,ok.noex,ok.exfs,ok.funs,ok.frf⟩
theorem Cx.Ok.unwish {X : Cx} {E : Value->Shared->Prop} (ok : (X.wish E).Ok) : X.Ok :=
 ⟨ok.mod,ok.kind,ok.glob,ok.blt,ok.above,ok.inj,ok.has,ok.cab,ok.hd,ok.frames,ok.stk,ok.exf,ok.bs,ok.bsz,ok.noex,ok.exfs,ok.funs,ok.frf⟩
section
variable {X : Cx} {pins : List (Addr × Obj)} {σ : St} {H : Hp} {s : Shared} {E : Value->Shared->Prop}
theorem Inv.wish (I : Inv X pins σ H s) (E : Value->Shared->Prop) : Inv (X.wish E) pins σ H s:=⟨I.ok.wish E,I.os,I.bare,I.base,I.loc,I.cell,I.free,I.freeC,I.pin,I.hok,I.len⟩
theorem Inv.unwish (I : Inv (X.wish E) pins σ H s) : Inv X pins σ H s:=⟨I.ok.unwish,I.os,I.bare,I.base,I.loc,I.cell,I.free,I.freeC,I.pin,I.hok,I.len⟩
theorem SP.unwish {D : Ends} {f : Flow} {s' : Shared} (h : SP (X.wish E) pins D f s') : SP X pins D f s':=by
 cases f with
 | next=>obtain ⟨σ',H',I,q⟩:=h; exact ⟨σ',H',I.unwish,q⟩
 | brk=>obtain ⟨σ',H',I,q⟩:=h; exact ⟨σ',H',I.unwish,q⟩
 | cont=>obtain ⟨σ',H',I,q⟩:=h; exact ⟨σ',H',I.unwish,q⟩
 | ret u=>obtain ⟨v,σ',H',I,r,q⟩:=h; exact ⟨v,σ',H',I.unwish,r,q⟩
theorem PE.nox {e : Expr} {t : TE} (h : PE X.nox e t) : PE X e t:=fun pins s σ H Q I hw =>
 wpAny_mono (h pins s σ H Q (I.wish _) hw) (fun _ _ ⟨v,H',I',r,q⟩=>⟨v,H',I'.unwish,r,q⟩) fun _ _ z=>False.elim z
theorem PT.nox {e : Expr} {t : TT} (h : PT X.nox e t) : PT X e t:=fun pins s σ H Q I hw =>
 wpAny_mono (h pins s σ H Q (I.wish _) hw) (fun _ _ ⟨H',I',q⟩=>⟨H',I'.unwish,q⟩) fun _ _ z=>False.elim z
theorem PSs.nox {st : List Stmt} {t : TS} (h : PSs X.nox st t) : PSs X st t:=fun pins s σ H D I hw =>
 wpAny_mono (h pins s σ H D (I.wish _) hw) (fun _ _ q=>q.unwish) fun _ _ z=>False.elim z
end
section
variable {X : Cx} {st : Stmt} {rest : List Stmt} {t u : TS} {e : Expr} {te : TE} {pos : Pos}
def zep : TS:=fun D σ H=>D.nx σ H
def Ud (t u : TS) : TS:=fun D σ H=>t { D with nx:=u D } σ H
theorem yM : PSs X [] zep:=fun _ _ σ H _ I h=>wpAny_execs_nil ⟨σ,H,I,h⟩
theorem zp (h1 : PS X st t) (h2 : PSs X rest u) : PSs X (st :: rest) (Ud t u):=by
 intro pins s σ H D I h
 refine wpAny_execs_cons (thn (h1 pins s σ H { D with nx:=u D } I h) fun f s1 q=>?_)
 cases f with
 | next =>
  obtain ⟨σ',H',I',q⟩:=q
  exact h2 pins s1 σ' H' D I' q
 | ret v=>exact q
 | brk=>exact q
 | cont=>exact q
theorem zA (h1 : PS X st t) : PSs X [st] t:=by
 intro pins s σ H D I h
 refine wpAny_execs_cons (thn (h1 pins s σ H D I h) fun f s1 q=>?_)
 cases f with
 | next=>exact wpAny_execs_nil q
 | ret v=>exact q
 | brk=>exact q
 | cont=>exact q
theorem Inv.quiet {pins : List (Addr × Obj)} {σ : St} {H : Hp} {s : Shared} (I : Inv X pins σ H s) : interactive X.env = false:=by simp [interactive,I.ok.kind]
def zen (te : TE) : TS:=fun D σ H=>te σ H fun _ H1=>D.nx σ H1
theorem yQ (he : PE X e te) (hs : swapsWith e none pos.line X.env = pure false:=by rfl) : PS X (.Expr e pos) (zen te):=by
 intro pins s σ H D I h
 exact wpAny_Expr_any (thn (he pins s σ H _ I h) fun v s1 ⟨x,H1,I1,r1,q1⟩=>⟨σ,H1,I1,q1⟩) I.quiet hs
def zfN (te : TE) : TS:=fun D σ H=>te σ H D.rt
theorem zQ (he : PE X e te) : PS X (.Return (some e) pos) (zfN te):=by
 intro pins s σ H D I h
 exact wpAny_Return_some (thn (he pins s σ H _ I h) fun v s1 ⟨x,H1,I1,r1,q1⟩=>⟨x,σ,H1,I1,r1,q1⟩)
def zeR (c : TT) (t u : TS) : TS:=fun D σ H=>c σ H fun b H1=>if b = true then t D σ H1 else u D σ H1
theorem wK {c : Expr} {a b : List Stmt} {tc : TT} (hc : PT X c tc) (ha : PSs X a t) (hb : PSs X b u) : PS X (.If c a b pos) (zeR tc t u):=by
 intro pins s σ H D I h
 refine wpAny_If (thn (hc pins s σ H _ I h) fun d s1 ⟨H1,I1,q1⟩=>?_)
 cases d with
 | true=>exact ha pins s1 σ H1 D I1 q1
 | false=>exact hb pins s1 σ H1 D I1 q1
end
abbrev TG:=V->St->Hp->(St->Hp->Prop)->Prop
abbrev TGs:=List V->St->Hp->(St->Hp->Prop)->Prop
def PG (X : Cx) (target : Expr) (t : TG) : Prop :=
 ∀ (pins : List (Addr × Obj)) (s : Shared) (σ : St) (H : Hp) (v : V) (u : Value) (Q : St->Hp->Prop),Inv X pins σ H s->RelV v u->t v σ H Q ->
  wpAny (model X.prog X.w) X.A (assign target X.env u) (fun _ s'=>∃ σ' H',Inv X pins σ' H' s'∧Q σ' H') X.xe s
def PGs (X : Cx) (ts : List Expr) (t : TGs) : Prop :=
 ∀ (pins : List (Addr × Obj)) (s : Shared) (σ : St) (H : Hp) (vs : List V) (us : List Value) (Q : St->Hp->Prop),Inv X pins σ H s->Vals vs us->t vs σ H Q ->
  wpAny (model X.prog X.w) X.A (assignInOrder ((assignEach ts X.env).map (·.2)) us) (fun _ s'=>∃ σ' H',Inv X pins σ' H' s'∧Q σ' H') X.xe s
abbrev zeJ:=V->V->V->Hp->(Hp->Prop)->Prop
def zfO (X : Cx) (t : zeJ) : Prop :=
 ∀ (pins : List (Addr × Obj)) (s : Shared) (σ : St) (H : Hp) (o i v : V) (ov iv u : Value) (Q : Hp->Prop),Inv X pins σ H s->RelV o ov->RelV i iv->RelV v u->t o i v H Q ->
  wpAny (model X.prog X.w) X.A (setItem ov iv u) (fun _ s'=>∃ H',Inv X pins σ H' s'∧Q H') X.xe s
abbrev TIp:=V->V->Hp->VK->Prop
def PIp (X : Cx) (op : Operator) (t : TIp) : Prop :=
 ∀ (pins : List (Addr × Obj)) (s : Shared) (σ : St) (H : Hp) (x y : V) (v u : Value) (Q : VK),Inv X pins σ H s->RelV x v->RelV y u->t x y H Q ->
  wpAny (model X.prog X.w) X.A (inplaceOp op v u) (EP X pins σ Q) X.xe s
section
variable {X : Cx} {pos : Pos}
def YS (i : Nat) : TG:=fun v σ H Q=>Q (σ.set i (some v)) H
theorem yK {i : Nat} {x : Str} (hN : X.N.Nodup) (hi : X.N[i]? = some x) (hx : Loc X.env.scope x) (hf : X.fn x = true∨X.env.scope.names.lookup x = some .local:=by first | exact .inl rfl | exact .inr rfl | assumption) : PG X (.Name x pos) (YS i):=by
 intro pins s σ H v u Q I r h
 exact wpAny_assign_Name (XX I hN hi hx r (fun s' I'=>⟨_,H,I',h⟩) hf)
def zft : TGs:=fun vs σ H Q=>vs = []∧Q σ H
def zc8 (t : TG) (u : TGs) : TGs:=fun vs σ H Q=>∃ v r,vs = v :: r∧t v σ H fun σ' H'=>u r σ' H' Q
theorem Qw : PGs X [] zft:=by
 intro pins s σ H vs us Q I r h
 obtain ⟨e,h⟩:=h
 subst e
 cases r
 exact assignInOrder_nil ⟨σ,H,I,h⟩
theorem Zh {e : Expr} {es : List Expr} {t : TG} {u : TGs} (h1 : PG X e t) (h2 : PGs X es u)
  (hs : (assignEach (e :: es) X.env).map (·.2) = assign e X.env :: (assignEach es X.env).map (·.2):=by rfl) : PGs X (e :: es) (zc8 t u):=by
 intro pins s σ H vs us Q I r h
 obtain ⟨v,vr,e1,h⟩:=h
 subst e1
 cases r with
 | cons r rr =>
  rw [hs]
  refine assignInOrder_cons (thn (h1 pins s σ H _ _ _ I r h) fun _ s1 ⟨σ1,H1,I1,q1⟩=>?_)
  exact h2 pins s1 σ1 H1 _ _ Q I1 rr q1
def zfy (K : PySem.W.Frag) (n : Nat) (t : TGs) : TG:=fun v σ H Q=>∃ a xs,v = .ref a∧SqT K H a xs∧xs.length = n∧t xs σ H Q
theorem zaN {es : List Expr} {k : Nat} {t : TGs} {n : Nat} (hc : X.calm = true) (h : PGs X es t)
  (hn : (assignEach es X.env).length = n:=by rfl) (hst : (assignEach es X.env).findIdx? (·.1) = none:=by rfl) : PG X (.Tuple es k pos) (zfy X.K n t):=by
 intro pins s σ H v u Q I r hw
 obtain ⟨a,xs,e1,hq,hl,hw⟩:=hw
 subst e1
 cases r
 obtain ⟨its,rv,ht,hz⟩:=I.tuple hq
 refine assign_Tuple_tuple (I.ok.hd hc) ht (by simp [hn,← hl,rv.length]) hst fun h' hx=>?_
 have I1 : Inv X pins σ H { s with heap:=h' }:=I.kept (t':=s.toks) fun b o e=>hx b o (Nat.ne_of_lt (Heap.lt_size e)) e
 exact h pins _ σ H xs _ Q I1 (by simpa using rv) hw
def zf0 (to ti : TE) (t : zeJ) : TG:=fun v σ H Q=>to σ H fun o H1=>ti σ H1 fun i H2=>t o i v H2 fun H3=>Q σ H3
theorem zeI {o i : Expr} {to ti : TE} {t : zeJ} (ho : PE X o to) (hi : PE X i ti) (hs : zfO X t)
  (ha : ∀ v,assign (.Subscript o i pos) X.env v = (do
   let ov ← holding [v] (eval o X.env)
   let iv ← holding [v,ov] (eval i X.env)
   standAt pos
   holding [v,ov,iv] (setItem ov iv v)
   release [v,ov,iv] []):=by intro _; rfl) : PG X (.Subscript o i pos) (zf0 to ti t):=by
 intro pins s σ H v u Q I r h
 rw [ha]
 refine wpAny_bind (wpAny_holding (thn (ho pins s σ H _ I h) fun ov s1 ⟨x,H1,I1,r1,q1⟩=>?_))
 refine wpAny_bind (wpAny_holding (thn (hi pins s1 σ H1 _ I1 q1) fun iv s2 ⟨y,H2,I2,r2,q2⟩=>?_))
 refine wpAny_bind (wpAny_standAt (wpAny_bind (wpAny_holding (thn (hs pins s2 σ H2 x y v ov iv u _ I2 r1 r2 r q2) fun _ s3 ⟨H3,I3,q3⟩=>?_))))
 exact wpAny_release ⟨σ,H3,I3,q3⟩
def zam (te : TE) (g : TG) : TS:=fun D σ H=>te σ H fun x H1=>g x σ H1 D.nx
theorem zcH {tg e : Expr} {te : TE} {g : TG} (he : PE X e te) (hg : PG X tg g) (hs : swapsWithSole [tg] e pos.line X.env = pure false:=by rfl) (hw : swappedStores [tg] e X.env = pure none:=by rfl)
  (h1 : (assignEach [tg] X.env).map (·.2) = [assign tg X.env]:=by rfl) : PS X (.Assign [tg] e pos) (zam te g):=by
 intro pins s σ H D I h
 refine wpAny_Assign_stores (thn (he pins s σ H _ I h) fun v s1 ⟨x,H1,I1,r1,q1⟩=>?_) hs hw
 rw [h1]
 exact thn (hg pins s1 σ H1 x v _ I1 r1 q1) fun _ s2 q=>q
theorem zJ {i : Nat} {x : Str} {e : Expr} {te : TE} {pos' : Pos} (hN : X.N.Nodup) (hi : X.N[i]? = some x) (hx : Loc X.env.scope x) (he : PE X e te) (hs : swapsWith e (some (.Name x pos')) pos.line X.env = pure false:=by rfl) (hf : X.fn x = true∨X.env.scope.names.lookup x = some .local:=by first | exact .inl rfl | exact .inr rfl | assumption) :
  PS X (.Assign [.Name x pos'] e pos) (zam te (YS i)):=by
 intro pins s σ H D I h
 refine wpAny_Assign_Name (thn (he pins s σ H _ I h) fun v s1 ⟨y,H1,I1,r1,q1⟩=>?_) hs
 exact XX I1 hN hi hx r1 (fun s2 I2=>⟨_,H1,I2,q1⟩) hf
def zf7 (i : Nat) (te : TE) (ti : TIp) : TS:=fun D σ H=>∃ x,σ[i]? = some (some x)∧te σ H fun y H1=>ti x y H1 fun z H2=>D.nx (σ.set i (some z)) H2
theorem za7 {i : Nat} {x : Str} {e : Expr} {te : TE} {op : Operator} {ti : TIp} {pos' : Pos} (hN : X.N.Nodup) (hi : X.N[i]? = some x) (hx : Loc X.env.scope x) (he : PE X e te) (ho : PIp X op ti) (hf : X.fn x = true∨X.env.scope.names.lookup x = some .local:=by first | exact .inl rfl | exact .inr rfl | assumption) :
  PS X (.AugAssign (.Name x pos') op e pos) (zf7 i te ti):=by
 intro pins s σ H D I h
 obtain ⟨v,e1,h⟩:=h
 obtain ⟨m,hn,hl⟩:=I.loc
 have vis : Vis X.env.scope x:=by rcases hx with k | k; exact .inl k; exact .inr (.inl k)
 obtain ⟨u,r,l⟩:=hl i x v hi e1 vis
 refine wpAny_AugAssign_Name ?_
 have go : wpAny (model X.prog X.w) X.A (eval e X.env) (fun w s₂=>wpAny (model X.prog X.w) X.A (inplaceOp op u w) (fun r s₃=>wpAny (model X.prog X.w) X.A (storeName X.env x r) (fun _=>SP X pins D .next) X.xe s₃) X.xe s₂) X.xe s:=by
  refine thn (he pins s σ H _ I h) fun w s1 ⟨y,H1,I1,r1,q1⟩=>?_
  refine thn (ho pins s1 σ H1 v y u w _ I1 r r1 q1) fun z s2 ⟨zv,H2,I2,r2,q2⟩=>?_
  exact XX I2 hN hi hx r2 (fun s3 I3=>⟨_,H2,I3,q2⟩) hf
 rcases l with ⟨hk,hm⟩ | ⟨hk,c,hc,hcell⟩
 ·exact wpAny_loadName_local I.ok.kind hk hn hm go
 ·rcases hk with hk | hk
  ·exact wpAny_loadName_cell I.ok.kind hk hc hcell go
  ·rcases hx with k | k
   ·have : X.env.scope.names.lookup x = some .free:=hk
    rw [k] at this; cases this
   ·have : X.env.scope.names.lookup x = some .free:=hk
    rw [k] at this; cases this
def ipI (f : Int->Int->Int) : TIp:=fun x y H Q=>∃ i j,x = .int i∧y = .int j∧Q (.int (f i j)) H
theorem zba : PIp X .Add (ipI fun i j=>i + j):=by
 intro pins s σ H x y v u Q I r1 r2 h
 obtain ⟨i,j,e1,e2,q⟩:=h
 subst e1; subst e2
 obtain ⟨t,rfl⟩:=r1
 obtain ⟨t',rfl⟩:=r2
 exact iadd_int ⟨.int _,H,I.tok _,⟨_,rfl⟩,q⟩
end
section
variable {X : Cx} {pos : Pos}
def zda (c : TT) (tb : TS) : TS:=fun D σ H=>∃ W : Nat->St->Hp->Prop,(∃ m,W m σ H)∧∀ m σ H,W m σ H ->
 c σ H fun b H1=>if b = true then ∃ N : St->Hp->Prop,(∀ σ' H',N σ' H'->∃ m',m' < m∧W m' σ' H')∧tb { D with nx:=N,ct:=N,bk:=D.nx } σ H1 else D.nx σ H1
theorem V3 {c : Expr} {body : List Stmt} {tc : TT} {tb : TS} (hp : PassesOwn (model X.prog X.w) X.A X.env X.xe) (hc : PT X c tc) (hb : PSs X body tb) : PS X (.While c body [] pos) (zda tc tb):=by
 intro pins s σ H D I h
 obtain ⟨W,⟨m0,w0⟩,turn⟩:=h
 refine wpAny_While (codeAny_whileLoop (fun n s'=>∃ σ' H',Inv X pins σ' H' s'∧W n σ' H') ?_ m0 ⟨σ,H,I,w0⟩)
 rintro n s1 ⟨σ1,H1,I1,w1⟩
 refine wpAny_passesOwn hp (thn (hc pins s1 σ1 H1 _ I1 (turn n σ1 H1 w1)) fun b s2 ⟨H2,I2,q2⟩=>?_)
 cases b with
 | true =>
  obtain ⟨N,hN,q2⟩:=q2
  rw [if_pos rfl]
  refine wpAny_passesOwn hp (thn (hb pins s2 σ1 H2 _ I2 q2) fun f s3 q3=>?_)
  cases f with
  | next =>
   obtain ⟨σ3,H3,I3,n3⟩:=q3
   obtain ⟨m',hm,w3⟩:=hN σ3 H3 n3
   exact ⟨m',hm,σ3,H3,I3,w3⟩
  | cont =>
   obtain ⟨σ3,H3,I3,n3⟩:=q3
   obtain ⟨m',hm,w3⟩:=hN σ3 H3 n3
   exact ⟨m',hm,σ3,H3,I3,w3⟩
  | brk=>exact q3
  | ret v=>exact q3
 | false =>
  rw [if_neg Bool.false_ne_true]
  exact wpAny_execs_nil ⟨σ1,H2,I2,q2⟩
end
structure It where
 go : Nat->Hp->Prop
 yld : Nat->Hp->V->Hp->Prop
 stop : Nat->Hp->Prop
def V0 (X : Cx) (pins : List (Addr × Obj)) (H : Hp) (b : Addr) : Prop :=
 H b = none∧b ≠ X.env.locals∧b ∉ X.fs∧(b ∈ X.ex∨X.s₀.heap.objs.size≤b)∧(∀ x c,X.env.cells.lookup x = some c->c ≠ b)∧∀ p ∈ X.pn ++ pins,p.1 ≠ b
theorem Inv.fpOk {X : Cx} {pins : List (Addr × Obj)} {σ : St} {H H' : Hp} {s : Shared} {b : Addr} (I : Inv X pins σ H s) (hb : s.heap.objs.size≤b) (hn : H' b = none) : V0 X pins H' b:=by
 refine ⟨hn,Nat.ne_of_gt (Nat.lt_of_lt_of_le I.lt hb),I.nofs hb,.inr (Nat.le_trans I.sz hb),fun x c e z=>?_,fun p hp z=>?_⟩
 ·obtain ⟨v,q⟩:=I.cell x c e
  exact absurd (Nat.lt_of_lt_of_le q.lt (by rw [z]; exact hb)) (Nat.lt_irrefl _)
 ·exact absurd (Nat.lt_of_lt_of_le (Heap.lt_size (I.pin p hp).1) (by rw [z]; exact hb)) (Nat.lt_irrefl _)
structure Turn (P : Program) (w : World) (K : PySem.W.Frag) (tg : Expr) (J : It) (fp : List Addr) (it : Addr) (tn : Nat->Heap->Prop) : Prop where
 mem : it ∈ fp
 obj : ∀ i h,tn i h->∀ b ∈ fp,∃ o,h.get? b = some o∧∀ v,o.data ≠ .cell v
 keep : ∀ i h h',tn i h->(∀ b ∈ fp,∀ o,h.get? b = some o->h'.get? b = some o)->tn i h'
 item : ∀ (X : Cx),X.prog = P->X.w = w->X.K = K->X.calm = true->∀ (i : Nat) (pins : List (Addr × Obj)) (s : Shared) (σ : St) (H : Hp) (E : Value->Shared->Prop),Inv X pins σ H s->(∀ b ∈ fp,V0 X pins H b)->tn i s.heap->J.go i H ->
  wpAny (model P w) X.A (pyNext (.ref it)) (fun r s1=>∃ u,r = some u ∧
   wpAny (model P w) X.A (letOwnedTupleGo tg (.ref it) u) (fun _ s2=>∃ x H',Inv X pins σ H' s2∧RelV x u∧J.yld i H x H'∧tn (i + 1) s2.heap∧∀ b ∈ fp,H' b = none) E s1) E s
 done : ∀ (X : Cx),X.prog = P->X.w = w->X.K = K->X.calm = true->∀ (i : Nat) (pins : List (Addr × Obj)) (s : Shared) (σ : St) (H : Hp) (E : Value->Shared->Prop),Inv X pins σ H s->(∀ b ∈ fp,V0 X pins H b)->tn i s.heap->J.stop i H ->
  wpAny (model P w) X.A (pyNext (.ref it)) (fun r s1=>r = none∧Inv X pins σ H s1) E s
 self : ∀ (A : Around) (i : Nat) (s : Shared) (Q : Value->Shared->Prop) (E : Value->Shared->Prop),tn i s.heap->Q (.ref it) s->wpAny (model P w) A (pyIter (.ref it)) Q E s
abbrev TI:=St->Hp->(It->Hp->Prop)->Prop
def PIE (X : Cx) (pins : List (Addr × Obj)) (σ : St) (tg : Expr) (R : It->Hp->Prop) (itv : Value) (s2 : Shared) : Prop :=
 ∃ (it : Addr) (fp : List Addr) (tn : Nat->Heap->Prop) (J : It) (H' : Hp),itv = .ref it∧Inv X pins σ H' s2∧Turn X.prog X.w X.K tg J fp it tn∧tn 0 s2.heap∧(∀ b ∈ fp,V0 X pins H' b)∧R J H'
def PI (X : Cx) (tg iter : Expr) (wi : TI) : Prop :=
 ∀ (pins : List (Addr × Obj)) (s : Shared) (σ : St) (H : Hp) (R : It->Hp->Prop),Inv X pins σ H s->wi σ H R ->
  wpAny (model X.prog X.w) X.A (eval iter X.env) (fun v s1=>wpAny (model X.prog X.w) X.A (pyIter v) (PIE X pins σ tg R) X.xe s1) X.xe s
theorem zeC {M : Model} {A : Around} {E : Value->Shared->Prop} {s : Shared} {tg : Expr} {it : Addr} {u : Value} {o : Obj} {n : String} {vs : Array Value} {Q : Unit->Shared->Prop} (ho : s.heap.get? it = some o) (hc : o.cls = .type n) (hd : o.data = .fields vs)
    (hn : ["enumerate","zip","dict_itemiterator","dict_reverseitemiterator","odict_iterator","itertools.zip_longest","itertools.pairwise"].contains n = false) (hQ : Q () s) : wpAny M A (letOwnedTupleGo tg (.ref it) u) Q E s:=by
  unfold letOwnedTupleGo
  cases tg <;> first
    | exact wpAny_pure hQ
    | (cases u <;> first
        | exact wpAny_pure hQ
        | (refine wpAny_bind (wpAny_load ho ?_)
           rw [hc,hd]
           show wpAny M A (if (["enumerate","zip","dict_itemiterator","dict_reverseitemiterator","odict_iterator","itertools.zip_longest","itertools.pairwise"].contains n && vs[0]? == some (rawInt _)) = true then _ else _) Q E s
           rw [if_neg (by intro h; rw [hn,Bool.false_and] at h; cases h)]
           exact wpAny_pure hQ))
def Itl (K : PySem.W.Frag) (a : Addr) : It :=
 ⟨fun i H=>∃ xs x,SqL K H a xs∧xs[i]? = some x,fun i H x H'=>H' = H∧∀ xs,SqL K H a xs->xs[i]? = some x,fun i H=>∃ xs,SqL K H a xs∧xs.length≤i⟩
def Itr (lo : Int) (n : Nat) : It:=⟨fun i _=>i < n,fun i H x H'=>H' = H∧x = .int (lo + i),fun i _=>n≤i⟩
theorem zbU {P : Program} {w : World} {K : PySem.W.Frag} {tg : Expr} (a it : Addr) : Turn P w K tg (Itl K a) [it] it (fun i h=>h.IsListIter it a i) where
 mem:=by simp
 obj:=fun i h st b hb=>by
  have e : b = it:=by simpa using hb
  subst e
  obtain ⟨o,e,c,d⟩:=st
  exact ⟨o,e,fun v z=>by rw [d] at z; cases z⟩
 keep:=fun i h h' st k=>st.at fun o e=>k it (by simp) o e
 item:=by
  intro X hP hw hK hc i pins s σ H E I hf st hg
  subst hP hw hK
  obtain ⟨xs,x,hq,hx⟩:=hg
  obtain ⟨its,rv,p,hz⟩:=I.list hq
  obtain ⟨u,hu,ru⟩:=rv.get hx
  obtain ⟨f0,f1,f2,f3,f4,f5⟩:=hf it (by simp)
  refine wpAny_pyNext_list_item st p.isList (x:=u) (by simpa using hu) fun h' st' sb=>?_
  have I1 : Inv X pins σ H { s with heap:=h' }:=I.turned (t':=s.toks) (fun b o hb e=>(sb.2 b hb).trans e) f0 f1 f3 f4 f5
  obtain ⟨o,e,c,d⟩:=id st'
  exact ⟨u,rfl,zeC (s:={ s with heap:=h' }) e c d (by decide) ⟨x,H,I1,ru,⟨rfl,fun ys hy=>by rw [I.list_inj hy hq]; exact hx⟩,st',fun b hb=>(hf b hb).1⟩⟩
 done:=by
  intro X hP hw hK hc i pins s σ H E I hf st hg
  subst hP hw hK
  obtain ⟨xs,hq,hx⟩:=hg
  obtain ⟨its,rv,p,hz⟩:=I.list hq
  obtain ⟨f0,f1,f2,f3,f4,f5⟩:=hf it (by simp)
  have hl:=rv.length
  exact wpAny_pyNext_list_end (I.ok.hd hc) st p.isList (by simp; omega) fun h' eb=>⟨rfl,I.turned (t':=s.toks) (fun b o hb e=>eb b o hb e) f0 f1 f3 f4 f5⟩
 self:=fun _ _ _ _ _ st h=>wpAny_pyIter_listiter st h
theorem zaF {P : Program} {w : World} {K : PySem.W.Frag} {tg : Expr} (it : Addr) (lo : Int) (n : Nat) : Turn P w K tg (Itr lo n) [it] it (fun i h=>IsRangeIter h it (lo + (i : Nat) * 1) ((n : Int) - (i : Nat)) 1) where
 mem:=by simp
 obj:=fun i h st b hb=>by
  have e : b = it:=by simpa using hb
  subst e
  exact ⟨_,st,fun v z=>by
   have z' : Data.fields _ = Data.cell v:=z
   cases z'⟩
 keep:=fun i h h' st k=>k it (by simp) _ st
 item:=by
  intro X hP hw hK hc i pins s σ H E I hf st hg
  subst hP hw hK
  obtain ⟨f0,f1,f2,f3,f4,f5⟩:=hf it (by simp)
  have W:=Walks.range (prog:=X.prog) (w:=X.w) (I.ok.hd hc) it lo 1 n
  refine W.item i s _ _ hg st fun v h' tk hv st' kk=>?_
  obtain ⟨t,rfl⟩:=hv
  have I1 : Inv X pins σ H { s with heap:=h',toks:=tk }:=I.turned (fun b o hb e=>kk b o (by simpa using hb) e) f0 f1 f3 f4 f5
  refine ⟨_,rfl,zeC (s:={ s with heap:=h',toks:=tk }) (n:="range_iterator") st' rfl rfl (by decide) ⟨.int (lo + i),H,I1,⟨t,?_⟩,⟨rfl,rfl⟩,st',fun b hb=>(hf b hb).1⟩⟩
  rw [Int.mul_one]
 done:=by
  intro X hP hw hK hc i pins s σ H E I hf st hg
  subst hP hw hK
  obtain ⟨f0,f1,f2,f3,f4,f5⟩:=hf it (by simp)
  exact wpAny_pyNext_range_end (I.ok.hd hc) st (by have : n≤i:=hg; omega) fun h' eb=>⟨rfl,I.turned (t':=s.toks) (fun b o hb e=>eb b o hb e) f0 f1 f3 f4 f5⟩
 self:=fun _ _ _ _ _ st h=>wpAny_pyIter_rangeiter st h
section
variable {X : Cx} {tg : Expr}
def zey (K : PySem.W.Frag) (tl : TE) : TI:=fun σ H R=>tl σ H fun x H1=>∃ a,x = .ref a∧(∃ xs,SqL K H1 a xs)∧R (Itl K a) H1
theorem zea {l : Expr} {tl : TE} (hl : PE X l tl) : PI X tg l (zey X.K tl):=by
 intro pins s σ H R I h
 refine thn (hl pins s σ H _ I h) fun v s1 ⟨x,H1,I1,r1,q1⟩=>?_
 obtain ⟨a,e,⟨xs,hq⟩,q⟩:=q1
 subst e
 cases r1
 obtain ⟨its,rv,p,hz⟩:=I1.list hq
 refine wpAny_pyIter_list p.isList ?_
 refine ⟨s1.heap.objs.size,[s1.heap.objs.size],_,_,H1,rfl,I1.kept (t':=s1.toks) fun b o e=>Heap.get?_push_of_some _ e,zbU a _,⟨_,Heap.get?_push_size _ rfl,rfl,rfl⟩,fun b hb=>?_,q⟩
 have e : b = s1.heap.objs.size:=by simpa using hb
 subst e
 exact I1.fpOk (Nat.le_refl _) (I1.hok.fresh (Nat.le_refl _))
theorem JD {pins : List (Addr × Obj)} {σ : St} {H : Hp} {s : Shared} {R : It->Hp->Prop} {E : Value->Shared->Prop} {lo hi : Int} {t u v : Tok} {tk : Nat} (I : Inv X pins σ H s) (h1 : -(2 ^ 62)≤lo) (h2 : lo < 2 ^ 62) (h3 : -(2 ^ 62)≤hi) (h4 : hi < 2 ^ 62)
  (q : R (Itr lo (hi - lo).toNat) H) : wpAny (model X.prog X.w) X.A (pyIter (.ref s.heap.objs.size)) (PIE X pins σ tg R) E { s with heap:=s.heap.push { cls:=.type "range",data:=.fields #[.int lo t,.int hi u,.int 1 v] },toks:=tk }:=by
 refine wpAny_pyIter_range (IsRange.new ..) (small_one h1 h2 h3 h4) ?_
 have I1 : Inv X pins σ H { s with heap:=s.heap.push { cls:=.type "range",data:=.fields #[.int lo t,.int hi u,.int 1 v] },toks:=tk }:=I.kept fun b o e=>Heap.get?_push_of_some _ e
 refine ⟨(s.heap.push { cls:=.type "range",data:=.fields #[.int lo t,.int hi u,.int 1 v] }).objs.size,[(s.heap.push { cls:=.type "range",data:=.fields #[.int lo t,.int hi u,.int 1 v] }).objs.size],_,_,H,rfl,
  I1.kept (t':=tk) fun b o e=>Heap.get?_push_of_some _ e,zaF _ lo (hi - lo).toNat,?_,fun b hb=>?_,q⟩
 ·have e1 : lo + ((0 : Nat) : Int) * 1 = lo:=by simp
  have e2 : (((hi - lo).toNat : Nat) : Int) - ((0 : Nat) : Int) = Builtin.Range.rangeSize lo hi 1:=by rw [rangeSize_one]; split <;> omega
  show IsRangeIter _ _ (lo + ((0 : Nat) : Int) * 1) ((((hi - lo).toNat : Nat) : Int) - ((0 : Nat) : Int)) 1
  rw [e1,e2]
  exact Heap.get?_push_size _ rfl
 ·have e : b = (s.heap.push { cls:=.type "range",data:=.fields #[.int lo t,.int hi u,.int 1 v] }).objs.size:=by simpa using hb
  subst e
  exact I1.fpOk (Nat.le_refl _) (I1.hok.fresh (Nat.le_refl _))
def zeo (ta : TA) : TI:=fun σ H R=>ta σ H fun vs H1=>∃ j : Int,vs = [.int j]∧-(2 ^ 62)≤j∧j < 2 ^ 62∧R (Itr 0 j.toNat) H1
def zfB (ta : TA) : TI:=fun σ H R=>ta σ H fun vs H1=>∃ i j : Int,vs = [.int i,.int j]∧(-(2 ^ 62)≤i∧i < 2 ^ 62∧-(2 ^ 62)≤j∧j < 2 ^ 62)∧R (Itr i (j - i).toNat) H1
theorem yg {a : Expr} {ta : TA} {p pos : Pos} (hg : Gl X "range") (hm : X.mg "range" = none) (ha : PA X [a] ta) (hs : starEach [a] X.env = [(false,eval a X.env)]:=by rfl) : PI X tg (.Call (.Name "range" p) [a] [] pos) (zeo ta):=by
 intro pins s σ H R I h
 refine Call_ (jh I hg hm boot_range (PyProof.Rows.callWith_type1 (thn (ha pos pins s σ H _ I h) fun us s1 ⟨vs,H1,I1,r1,q1⟩=>?_) hs rfl))
 obtain ⟨j,e,q1,q2,q⟩:=q1
 subst e
 cases r1 with
 | cons r rr =>
  cases rr
  obtain ⟨t,rfl⟩:=r
  exact call_range_1 (JD I1 (by omega) (by omega) q1 q2 (by simpa using q))
theorem zca {a b : Expr} {ta : TA} {p pos : Pos} (hg : Gl X "range") (hm : X.mg "range" = none) (ha : PA X [a,b] ta) (hs : starEach [a,b] X.env = [(false,eval a X.env),(false,eval b X.env)]:=by rfl) (hs2 : starEach [b] X.env = [(false,eval b X.env)]:=by rfl) :
  PI X tg (.Call (.Name "range" p) [a,b] [] pos) (zfB ta):=by
 intro pins s σ H R I h
 refine Call_ (jh I hg hm boot_range (PyProof.Rows.callWith_type1 (thn (ha pos pins s σ H _ I h) fun us s1 ⟨vs,H1,I1,r1,q1⟩=>?_) (by rw [hs,hs2]) (by rw [hs2]; rfl)))
 obtain ⟨i,j,e,⟨q1,q2,q3,q4⟩,q⟩:=q1
 subst e
 cases r1 with
 | cons r rr =>
  cases rr with
  | cons r' rr =>
   cases rr
   obtain ⟨t,rfl⟩:=r
   obtain ⟨t',rfl⟩:=r'
   exact call_range_2 (JD I1 q1 q2 q3 q4 q)
def zfX (wi : TI) (g : TG) (tb : TS) : TS:=fun D σ H=>wi σ H fun J H1=>∃ W : Nat->Nat->St->Hp->Prop,(∃ m,W 0 m σ H1)∧∀ i m σ H,W i m σ H ->
 (J.stop i H∧D.nx σ H)∨(J.go i H∧∃ N : St->Hp->Prop,(∀ σ' H',N σ' H'->∃ m',m' < m∧W (i + 1) m' σ' H')∧∀ x H',J.yld i H x H'->g x σ H' fun σ2 H2=>tb { D with nx:=N,ct:=N,bk:=D.nx } σ2 H2)
def Wt (fp : List Addr) (h : Heap) : List (Addr × Obj):=fp.filterMap fun b=>(h.get? b).map fun o=>(b,o)
theorem Y6 {fp : List Addr} {h : Heap} {b : Addr} {o : Obj} (hb : b ∈ fp) (e : h.get? b = some o) : (b,o) ∈ Wt fp h:=List.mem_filterMap.mpr ⟨b,hb,by rw [e]; rfl⟩
theorem zbZ {fp : List Addr} {h : Heap} {p : Addr × Obj} (hp : p ∈ Wt fp h) : p.1 ∈ fp∧h.get? p.1 = some p.2:=by
 obtain ⟨b,hb,e⟩:=List.mem_filterMap.mp hp
 cases q : h.get? b with
 | none=>rw [q] at e; cases e
 | some o =>
  rw [q] at e
  have e' : (b,o) = p:=Option.some.inj e
  subst e'
  exact ⟨hb,q⟩
theorem Inv.pinned {pins : List (Addr × Obj)} {σ : St} {H : Hp} {s : Shared} {fp : List Addr} (I : Inv X pins σ H s) (hf : ∀ b ∈ fp,V0 X pins H b) (ho : ∀ b ∈ fp,∃ o,s.heap.get? b = some o∧∀ v,o.data ≠ .cell v) : Inv X (pins ++ Wt fp s.heap) σ H s :=
 I.pins_of fun p hp=>(List.mem_append.mp hp).elim (fun z=>I.pin p (List.mem_append_right _ z)) fun z=>by
  obtain ⟨hb,e⟩:=zbZ z
  obtain ⟨f0,f1,f2,_⟩:=hf p.1 hb
  obtain ⟨o,e',d⟩:=ho p.1 hb
  rw [e] at e'; cases e'
  exact ⟨e,f0,f1,f2,d⟩
theorem Inv.unpinned {pins pl : List (Addr × Obj)} {σ : St} {H : Hp} {s : Shared} (I : Inv X (pins ++ pl) σ H s) : Inv X pins σ H s:=I.pins_of fun p hp=>I.pin p (List.mem_append_right _ (List.mem_append_left _ hp))
theorem vM {iter : Expr} {body : List Stmt} {wi : TI} {g : TG} {tb : TS} {pos : Pos} (hp : PassesOwn (model X.prog X.w) X.A X.env X.xe) (hc : X.calm = true) (hi : PI X tg iter wi) (hg : PG X tg g) (hb : PSs X body tb)
  (hs : ∀ x,foldedSetIterable iter X.env x = pure x:=by intro _; rfl) : PS X (.For tg iter body [] pos) (zfX wi g tb):=by
 intro pins s σ H D I h
 refine wpAny_For (thn (hi pins s σ H _ I h) fun v s1 h1=>thn h1 fun itv s2 h2=>?_) hs
 obtain ⟨it,fp,tn,J,H2,e,I2,T,st2,f2,W,⟨m0,w0⟩,turn⟩:=h2
 subst e
 have stat : ∀ {H' : Hp},(∀ b ∈ fp,H' b = none)->∀ b ∈ fp,V0 X pins H' b:=fun hn b hb=>⟨hn b hb,(f2 b hb).2⟩
 refine codeAny_forLoop_any (fun n s'=>∃ i σ' H',Inv X pins σ' H' s'∧tn i s'.heap∧(∀ b ∈ fp,H' b = none)∧W i n σ' H') ?_ m0 ⟨0,σ,H2,I2,st2,fun b hb=>(f2 b hb).1,w0⟩
 rintro n s3 ⟨i,σ3,H3,I3,st3,fr3,w3⟩
 rcases turn i n σ3 H3 w3 with ⟨stop,qn⟩ | ⟨go,N,hN,step⟩
 ·refine wpAny_passesOwn hp (thn (T.done X rfl rfl rfl hc i pins s3 σ3 H3 X.xe I3 (stat fr3) st3 stop) fun r s4 ⟨hr,I4⟩=>?_)
  subst hr
  exact wpAny_execs_nil ⟨σ3,H3,I4,qn⟩
 ·refine wpAny_passesOwn hp (thn (T.item X rfl rfl rfl hc i pins s3 σ3 H3 X.xe I3 (stat fr3) st3 go) fun r s4 ⟨u,hr,h4⟩=>?_)
  subst hr
  refine wpAny_passesOwn hp (thn h4 fun _ s5 ⟨x,H5,I5,r5,y5,st5,fr5⟩=>?_)
  have I5':=I5.pinned (stat fr5) (T.obj _ _ st5)
  refine wpAny_passesOwn hp (thn (hg _ s5 σ3 H5 x u _ I5' r5 (step x H5 y5)) fun _ s6 ⟨σ6,H6,I6,q6⟩=>?_)
  refine wpAny_passesOwn hp (thn (hb _ s6 σ6 H6 _ I6 q6) fun f s7 q7=>?_)
  have again : ∀ {σ7 : St} {H7 : Hp},Inv X (pins ++ Wt fp s5.heap) σ7 H7 s7->N σ7 H7->∃ m,m < n∧∃ i σ' H',Inv X pins σ' H' s7∧tn i s7.heap∧(∀ b ∈ fp,H' b = none)∧W i m σ' H':=fun {σ7 H7} I7 n7=>by
   obtain ⟨m',hm,w7⟩:=hN σ7 H7 n7
   refine ⟨m',hm,i + 1,σ7,H7,I7.unpinned,T.keep _ _ _ st5 fun b hb o e=>(I7.pin (b,o) (List.mem_append_right _ (List.mem_append_right _ (Y6 hb e)))).1,fun b hb=>?_,w7⟩
   obtain ⟨o,e,d⟩:=T.obj _ _ st5 b hb
   exact (I7.pin (b,o) (List.mem_append_right _ (List.mem_append_right _ (Y6 hb e)))).2.1
  cases f with
  | next=>obtain ⟨σ7,H7,I7,n7⟩:=q7; exact again I7 n7
  | cont=>obtain ⟨σ7,H7,I7,n7⟩:=q7; exact again I7 n7
  | brk=>obtain ⟨σ7,H7,I7,q7⟩:=q7; exact ⟨σ7,H7,I7.unpinned,q7⟩
  | ret v=>obtain ⟨x7,σ7,H7,I7,r7,q7⟩:=q7; exact ⟨x7,σ7,H7,I7.unpinned,r7,q7⟩
end
theorem zcC {K : PySem.W.Frag} {a : Addr} {xs : List V} {g : TG} {tb : TS} {D : Ends} {σ : St} {H : Hp} (Pv : Nat->St->Hp->Prop) (h0 : Pv 0 σ H) (hl : ∀ i σ H,i≤xs.length->Pv i σ H->SqL K H a xs)
  (hs : ∀ i x σ H,xs[i]? = some x->Pv i σ H->g x σ H fun σ2 H2=>tb { D with nx:=Pv (i + 1),ct:=Pv (i + 1),bk:=D.nx } σ2 H2) (hd : ∀ σ H,Pv xs.length σ H->D.nx σ H) :
  ∃ W : Nat->Nat->St->Hp->Prop,(∃ m,W 0 m σ H)∧∀ i m σ H,W i m σ H ->
   ((Itl K a).stop i H∧D.nx σ H)∨((Itl K a).go i H∧∃ N : St->Hp->Prop,(∀ σ' H',N σ' H'->∃ m',m' < m∧W (i + 1) m' σ' H')∧∀ x H',(Itl K a).yld i H x H'->g x σ H' fun σ2 H2=>tb { D with nx:=N,ct:=N,bk:=D.nx } σ2 H2):=by
 refine ⟨fun i m σ H=>m = xs.length - i∧i≤xs.length∧Pv i σ H,⟨xs.length,by simp,Nat.zero_le _,h0⟩,?_⟩
 rintro i m σ H ⟨rfl,hi,p⟩
 have q:=hl i σ H hi p
 by_cases hlt : i < xs.length
 ·refine .inr ⟨⟨xs,xs[i],q,by simp [hlt]⟩,Pv (i + 1),fun σ' H' p'=>⟨xs.length - (i + 1),by omega,rfl,hlt,p'⟩,fun x H' y=>?_⟩
  obtain ⟨e,y⟩:=y
  subst e
  exact hs i x σ _ (y xs q) p
 ·have e : i = xs.length:=by omega
  subst e
  exact .inl ⟨⟨xs,q,Nat.le_refl _⟩,hd σ H p⟩
theorem xg {lo : Int} {n : Nat} {g : TG} {tb : TS} {D : Ends} {σ : St} {H : Hp} (Pv : Nat->St->Hp->Prop) (h0 : Pv 0 σ H)
  (hs : ∀ i σ H,i < n->Pv i σ H->g (.int (lo + i)) σ H fun σ2 H2=>tb { D with nx:=Pv (i + 1),ct:=Pv (i + 1),bk:=D.nx } σ2 H2) (hd : ∀ σ H,Pv n σ H->D.nx σ H) :
  ∃ W : Nat->Nat->St->Hp->Prop,(∃ m,W 0 m σ H)∧∀ i m σ H,W i m σ H ->
   ((Itr lo n).stop i H∧D.nx σ H)∨((Itr lo n).go i H∧∃ N : St->Hp->Prop,(∀ σ' H',N σ' H'->∃ m',m' < m∧W (i + 1) m' σ' H')∧∀ x H',(Itr lo n).yld i H x H'->g x σ H' fun σ2 H2=>tb { D with nx:=N,ct:=N,bk:=D.nx } σ2 H2):=by
 refine ⟨fun i m σ H=>m = n - i∧i≤n∧Pv i σ H,⟨n,by simp,Nat.zero_le _,h0⟩,?_⟩
 rintro i m σ H ⟨rfl,hi,p⟩
 by_cases hlt : i < n
 ·refine .inr ⟨hlt,Pv (i + 1),fun σ' H' p'=>⟨n - (i + 1),by omega,rfl,hlt,p'⟩,fun x H' y=>?_⟩
  obtain ⟨e,y⟩:=y
  subst e y
  exact hs i σ _ hlt p
 ·have e : i = n:=by omega
  subst e
  exact .inl ⟨Nat.le_refl _,hd σ H p⟩
theorem Vg {c : TT} {tb : TS} {D : Ends} {σ : St} {H : Hp} (Pv : St->Hp->Prop) (μ : St->Hp->Nat) (h0 : Pv σ H)
  (hs : ∀ σ H,Pv σ H->c σ H fun b H1=>if b = true then tb { D with nx:=fun σ' H'=>Pv σ' H'∧μ σ' H' < μ σ H,ct:=fun σ' H'=>Pv σ' H'∧μ σ' H' < μ σ H,bk:=D.nx } σ H1 else D.nx σ H1)
  (mono : ∀ σ H Q Q',(∀ b H1,Q b H1->Q' b H1)->c σ H Q->c σ H Q') : zda c tb D σ H:=by
 refine ⟨fun m σ H=>m = μ σ H∧Pv σ H,⟨_,rfl,h0⟩,?_⟩
 rintro m σ H ⟨rfl,p⟩
 refine mono σ H _ _ (fun b H1 q=>?_) (hs σ H p)
 cases b with
 | true=>exact ⟨_,fun σ' H' ⟨p',l⟩=>⟨_,l,rfl,p'⟩,q⟩
 | false=>exact q
abbrev R2:=V->V->Hp->VK->Prop
def OpR (X : Cx) (f : Value->Value->Sem Value) (r : R2) : Prop :=
 ∀ (pins : List (Addr × Obj)) (s : Shared) (σ : St) (H : Hp) (x y : V) (v u : Value) (Q : VK),Inv X pins σ H s->RelV x v->RelV y u->r x y H Q ->
  wpAny (model X.prog X.w) X.A (f v u) (EP X pins σ Q) X.xe s
def UnR (X : Cx) (f : Value->Sem Value) (r : V->Hp->VK->Prop) : Prop :=
 ∀ (pins : List (Addr × Obj)) (s : Shared) (σ : St) (H : Hp) (x : V) (v : Value) (Q : VK),Inv X pins σ H s->RelV x v->r x H Q ->
  wpAny (model X.prog X.w) X.A (f v) (EP X pins σ Q) X.xe s
def vm (X : Cx) (f : Value) (r : List V->Hp->VK->Prop) : Prop :=
 ∀ (pins : List (Addr × Obj)) (s : Shared) (σ : St) (H : Hp) (xs : List V) (us : List Value) (Q : VK),Inv X pins σ H s->Vals xs us->r xs H Q ->
  wpAny (model X.prog X.w) X.A (call f us) (EP X pins σ Q) X.xe s
def tOp (r : R2) (ta tb : TE) : TE:=fun σ H Q=>ta σ H fun x H1=>tb σ H1 fun y H2=>r x y H2 Q
def tUn (r : V->Hp->VK->Prop) (ta : TE) : TE:=fun σ H Q=>ta σ H fun x H1=>r x H1 Q
def rI (C : Int->Int->Prop) (g : Int->Int->V) : R2:=fun x y H Q=>∃ i j,x = .int i∧y = .int j∧C i j∧Q (g i j) H
def rI0 (g : Int->Int->V) : R2:=fun x y H Q=>∃ i j,x = .int i∧y = .int j∧Q (g i j) H
def rU (g : Int->V) : V->Hp->VK->Prop:=fun x H Q=>∃ i,x = .int i∧Q (g i) H
section
variable {X : Cx} {a b c : Expr} {ta tb tc : TE} {pos : Pos}
theorem zfd (ha : PE X a ta) (hb : PE X b tb) {pins : List (Addr × Obj)} {s : Shared} {σ : St} {H : Hp} {R : V->V->Hp->Prop} (I : Inv X pins σ H s)
  (h : ta σ H fun x H1=>tb σ H1 fun y H2=>R x y H2) {Q : Value->Shared->Prop} {f : Value->Value->Sem Value}
  (hf : ∀ v u s2 x y H2,Inv X pins σ H2 s2->RelV x v->RelV y u->R x y H2->wpAny (model X.prog X.w) X.A (f v u) Q X.xe s2) :
  wpAny (model X.prog X.w) X.A (eval a X.env) (fun v s₁=>wpAny (model X.prog X.w) X.A (eval b X.env) (fun u s₂=>wpAny (model X.prog X.w) X.A (f v u) Q X.xe s₂) X.xe s₁) X.xe s:=by
 refine thn (ha pins s σ H _ I h) fun v s1 ⟨x,H1,I1,r1,q1⟩=>?_
 refine thn (hb pins s1 σ H1 _ I1 q1) fun u s2 ⟨y,H2,I2,r2,q2⟩=>?_
 exact hf v u s2 x y H2 I2 r1 r2 q2
theorem zE {op : Operator} {r : R2} (ho : OpR X (binaryOp op) r) (ha : PE X a ta) (hb : PE X b tb) : PE X (.BinOp a op b pos) (tOp r ta tb):=by
 intro pins s σ H Q I h
 exact wpAny_BinOp (zfd ha hb I h fun v u s2 x y H2 I2 rx ry q=>ho pins s2 σ H2 x y v u Q I2 rx ry q)
theorem Xx {op : UnaryOp} {r : V->Hp->VK->Prop} (ho : UnR X (unaryOp op) r) (ha : PE X a ta) : PE X (.UnaryOp op a pos) (tUn r ta):=by
 intro pins s σ H Q I h
 exact UnaryOp_ (thn (ha pins s σ H _ I h) fun v s1 ⟨x,H1,I1,r1,q1⟩=>ho pins s1 σ H1 x v Q I1 r1 q1)
theorem opI {f : Value->Value->Sem Value} {C : Int->Int->Prop} {g : Int->Int->Int}
  (rule : ∀ (i j : Int) (t u : Tok) (s : Shared) (Q : Value->Shared->Prop) (E : Value->Shared->Prop),C i j->Q (.int (g i j) s.toks) { s with toks:=s.toks + 1 }->wpAny (model X.prog X.w) X.A (f (.int i t) (.int j u)) Q E s) :
  OpR X f (rI C fun i j=>.int (g i j)):=by
 intro pins s σ H x y v u Q I rx ry h
 obtain ⟨i,j,rfl,rfl,hc,q⟩:=h
 obtain ⟨t,rfl⟩:=rx
 obtain ⟨t',rfl⟩:=ry
 exact rule i j t t' s _ _ hc ⟨.int (g i j),H,I.tok _,⟨_,rfl⟩,q⟩
theorem zfv {f : Value->Value->Sem Value} {g : Int->Int->Int}
  (rule : ∀ (i j : Int) (t u : Tok) (s : Shared) (Q : Value->Shared->Prop) (E : Value->Shared->Prop),Q (.int (g i j) s.toks) { s with toks:=s.toks + 1 }->wpAny (model X.prog X.w) X.A (f (.int i t) (.int j u)) Q E s) :
  OpR X f (rI0 fun i j=>.int (g i j)):=by
 intro pins s σ H x y v u Q I rx ry h
 obtain ⟨i,j,rfl,rfl,q⟩:=h
 obtain ⟨t,rfl⟩:=rx
 obtain ⟨t',rfl⟩:=ry
 exact rule i j t t' s _ _ ⟨.int (g i j),H,I.tok _,⟨_,rfl⟩,q⟩
theorem zei {f : Value->Value->Sem Value} {g : Int->Int->Bool}
  (rule : ∀ (i j : Int) (t u : Tok) (s : Shared) (Q : Value->Shared->Prop) (E : Value->Shared->Prop),Q (.bool (g i j)) s->wpAny (model X.prog X.w) X.A (f (.int i t) (.int j u)) Q E s) :
  OpR X f (rI0 fun i j=>.bl (g i j)):=by
 intro pins s σ H x y v u Q I rx ry h
 obtain ⟨i,j,rfl,rfl,q⟩:=h
 obtain ⟨t,rfl⟩:=rx
 obtain ⟨t',rfl⟩:=ry
 exact rule i j t t' s _ _ ⟨.bl (g i j),H,I,rfl,q⟩
def zfb (i j : Int) : Prop:=0≤j∧j≤1000000∧i.natAbs < 2 ^ 64
def CMul (i j : Int) : Prop:=(-(2 ^ 64) < i∧i < 2 ^ 64)∨(-(2 ^ 64) < j∧j < 2 ^ 64)
theorem CMul.ok {i j : Int} (h : CMul i j) : IntMulOk i j:=by
 rcases h with ⟨h1,h2⟩ | ⟨h1,h2⟩
 ·exact .of_left (intBits_le_64 h1 h2)
 ·exact .of_right (intBits_le_64 h1 h2)
theorem yO : OpR X (binaryOp .Add) (rI0 fun i j=>.int (i + j)):=zfv fun _ _ _ _ _ _ _ q=>add_int q
theorem qd : OpR X (binaryOp .Sub) (rI0 fun i j=>.int (i - j)):=zfv fun _ _ _ _ _ _ _ q=>sub_int q
theorem qg : OpR X (binaryOp .Mult) (rI CMul fun i j=>.int (i * j)):=opI fun _ _ _ _ _ _ _ hc q=>mul_int q hc.ok
theorem yu : OpR X (binaryOp .Mod) (rI (fun _ j=>0 < j) fun i j=>.int (i % j)):=opI fun i j _ _ _ _ _ hc q=>by
 have h1 : (0 : Int) < j:=hc
 exact mod_int' (by omega) (by rw [Int.fmod_eq_emod_of_nonneg i (by omega)]; exact q)
theorem Vq : OpR X (binaryOp .Pow) (rI zfb fun i j=>.int (i ^ j.toNat)):=opI fun _ _ _ _ _ _ _ hc q=>pow_int_small hc.1 hc.2.1 hc.2.2 q
theorem unI {f : Value->Sem Value} {g : Int->Int}
  (rule : ∀ (i : Int) (t : Tok) (s : Shared) (Q : Value->Shared->Prop) (E : Value->Shared->Prop),Q (.int (g i) s.toks) { s with toks:=s.toks + 1 }->wpAny (model X.prog X.w) X.A (f (.int i t)) Q E s) :
  UnR X f (rU fun i=>.int (g i)):=by
 intro pins s σ H x v Q I rx h
 obtain ⟨i,rfl,q⟩:=h
 obtain ⟨t,rfl⟩:=rx
 exact rule i t s _ _ ⟨.int (g i),H,I.tok _,⟨_,rfl⟩,q⟩
theorem Z3 : UnR X (unaryOp .USub) (rU fun i=>.int (-i)):=unI fun _ _ _ _ _ q=>neg_int q
end
def zfA : V->V->Bool
 | .non,.non=>true | .non,.int _=>true | .int _,.non=>true | .non,.bl _=>true | .bl _,.non=>true | .non,.str _=>true | .str _,.non=>true
 | .int _,.int _=>true | .bl _,.bl _=>true | .str _,.str _=>true | .byt _,.byt _=>true
 | .int _,.str _=>true | .str _,.int _=>true | .bl _,.str _=>true | .str _,.bl _=>true
 | _,_=>false
def rEq : R2:=fun x y H Q=>zfA x y = true∧Q (.bl (decide (x = y))) H
def rNe : R2:=fun x y H Q=>zfA x y = true∧Q (.bl (!decide (x = y))) H
theorem zbr {i j : Int} : decide (V.int i = V.int j) = (i == j):=by
 rw [Bool.eq_iff_iff]
 simp
theorem zcZ {i j : Bool} : decide (V.bl i = V.bl j) = (i == j):=by
 rw [Bool.eq_iff_iff]
 simp
theorem zbk {i j : Str} : decide (V.str i = V.str j) = (i == j):=by
 rw [Bool.eq_iff_iff]
 simp
theorem zbi {i j : Array UInt8} : decide (V.byt i = V.byt j) = (i.toList == j.toList):=by
 rw [Bool.eq_iff_iff]
 cases i
 cases j
 simp
section
variable {X : Cx} {a b c : Expr} {ta tb tc : TE} {pos : Pos}
theorem ym {pins : List (Addr × Obj)} {σ : St} {H : Hp} {s : Shared} {Q : VK} {k k' : Bool} (I : Inv X pins σ H s) (q : Q (.bl k) H) (e : k = k') : EP X pins σ Q (.bool k') s:=by
 subst e
 exact ⟨.bl k,H,I,rfl,q⟩
theorem Vn : OpR X (compareOp .Eq) rEq:=by
 intro pins s σ H x y v u Q I rx ry h
 obtain ⟨hs,q⟩:=h
 cases x with
 | non =>
  cases rx
  cases y with
  | non=>cases ry; exact PySem.EqNone.eq_none_none (ym I q (by simp))
  | bl j=>cases ry; exact PySem.EqNone.eq_none_bool (ym I q (by simp))
  | int j=>obtain ⟨t',rfl⟩:=ry; exact PySem.EqNone.eq_none_int (ym I q (by simp))
  | str j=>obtain ⟨t',rfl⟩:=ry; exact PySem.EqNone.eq_none_str (ym I q (by simp))
  | _=>exact absurd (show false = true from hs) Bool.false_ne_true
 | bl i =>
  cases rx
  cases y with
  | non=>cases ry; exact PySem.EqNone.eq_bool_none (ym I q (by simp))
  | bl j=>cases ry; exact eq_bool (ym I q zcZ)
  | str j=>obtain ⟨t',rfl⟩:=ry; exact PySem.EqMixed.eq_bool_str (ym I q (by simp))
  | _=>exact absurd (show false = true from hs) Bool.false_ne_true
 | int i =>
  obtain ⟨t,rfl⟩:=rx
  cases y with
  | non=>cases ry; exact PySem.EqNone.eq_int_none (ym I q (by simp))
  | int j=>obtain ⟨t',rfl⟩:=ry; exact eq_int (ym I q zbr)
  | str j=>obtain ⟨t',rfl⟩:=ry; exact PySem.EqMixed.eq_int_str (ym I q (by simp))
  | _=>exact absurd (show false = true from hs) Bool.false_ne_true
 | str i =>
  obtain ⟨t,rfl⟩:=rx
  cases y with
  | non=>cases ry; exact PySem.EqNone.eq_str_none (ym I q (by simp))
  | bl j=>cases ry; exact PySem.EqMixed.eq_str_bool (ym I q (by simp))
  | int j=>obtain ⟨t',rfl⟩:=ry; exact PySem.EqMixed.eq_str_int (ym I q (by simp))
  | str j=>obtain ⟨t',rfl⟩:=ry; exact eq_str (ym I q zbk)
  | _=>exact absurd (show false = true from hs) Bool.false_ne_true
 | byt i =>
  obtain ⟨t,rfl⟩:=rx
  cases y with
  | byt j=>obtain ⟨t',rfl⟩:=ry; exact PySem.W.eq_bytes (ym I q zbi)
  | _=>exact absurd (show false = true from hs) Bool.false_ne_true
 | _=>cases y <;> exact absurd (show false = true from hs) Bool.false_ne_true
theorem zfE : OpR X (compareOp .NotEq) rNe:=by
 intro pins s σ H x y v u Q I rx ry h
 obtain ⟨hs,q⟩:=h
 cases x with
 | non =>
  cases rx
  cases y with
  | non=>cases ry; exact PySem.EqNone.ne_none_none (ym I q (by simp))
  | bl j=>cases ry; exact PySem.EqNone.ne_none_bool (ym I q (by simp))
  | int j=>obtain ⟨t',rfl⟩:=ry; exact PySem.EqNone.ne_none_int (ym I q (by simp))
  | str j=>obtain ⟨t',rfl⟩:=ry; exact PySem.EqNone.ne_none_str (ym I q (by simp))
  | _=>exact absurd (show false = true from hs) Bool.false_ne_true
 | bl i =>
  cases rx
  cases y with
  | non=>cases ry; exact PySem.EqNone.ne_bool_none (ym I q (by simp))
  | bl j=>cases ry; exact ne_bool (ym I q (congrArg not zcZ))
  | str j=>obtain ⟨t',rfl⟩:=ry; exact PySem.EqMixed.ne_bool_str (ym I q (by simp))
  | _=>exact absurd (show false = true from hs) Bool.false_ne_true
 | int i =>
  obtain ⟨t,rfl⟩:=rx
  cases y with
  | non=>cases ry; exact PySem.EqNone.ne_int_none (ym I q (by simp))
  | int j=>obtain ⟨t',rfl⟩:=ry; exact ne_int (ym I q (congrArg not zbr))
  | str j=>obtain ⟨t',rfl⟩:=ry; exact PySem.EqMixed.ne_int_str (ym I q (by simp))
  | _=>exact absurd (show false = true from hs) Bool.false_ne_true
 | str i =>
  obtain ⟨t,rfl⟩:=rx
  cases y with
  | non=>cases ry; exact PySem.EqNone.ne_str_none (ym I q (by simp))
  | bl j=>cases ry; exact PySem.EqMixed.ne_str_bool (ym I q (by simp))
  | int j=>obtain ⟨t',rfl⟩:=ry; exact PySem.EqMixed.ne_str_int (ym I q (by simp))
  | str j=>obtain ⟨t',rfl⟩:=ry; exact ne_str (ym I q (congrArg not zbk))
  | _=>exact absurd (show false = true from hs) Bool.false_ne_true
 | byt i =>
  obtain ⟨t,rfl⟩:=rx
  cases y with
  | byt j=>obtain ⟨t',rfl⟩:=ry; exact PySem.W.ne_bytes (ym I q (congrArg not zbi))
  | _=>exact absurd (show false = true from hs) Bool.false_ne_true
 | _=>cases y <;> exact absurd (show false = true from hs) Bool.false_ne_true
theorem zel : OpR X (compareOp .Lt) (rI0 fun i j=>.bl (decide (i < j))):=zei fun _ _ _ _ _ _ _ q=>lt_int q
theorem Qa : OpR X (compareOp .LtE) (rI0 fun i j=>.bl (decide (i≤j))):=zei fun _ _ _ _ _ _ _ q=>le_int q
theorem zal : OpR X (compareOp .Gt) (rI0 fun i j=>.bl (decide (j < i))):=zei fun _ _ _ _ _ _ _ q=>gt_int q
theorem zek : OpR X (compareOp .GtE) (rI0 fun i j=>.bl (decide (j≤i))):=zei fun _ _ _ _ _ _ _ q=>ge_int q
theorem zbd : OpR X (compareOp .Is) (fun x y H Q=>y = .non∧Q (.bl (decide (x = .non))) H):=by
 intro pins s σ H x y v u Q I rx ry h
 obtain ⟨rfl,q⟩:=h
 cases ry
 refine is_none_gen (ym I q ?_)
 cases x <;> first
  | (cases rx; rfl)
  | (obtain ⟨t,rfl⟩:=rx; rfl)
theorem Jl : OpR X (compareOp .IsNot) (fun x y H Q=>y = .non∧Q (.bl (!decide (x = .non))) H):=by
 intro pins s σ H x y v u Q I rx ry h
 obtain ⟨rfl,q⟩:=h
 cases ry
 refine isnot_none_gen (ym I q ?_)
 cases x <;> first
  | (cases rx; rfl)
  | (obtain ⟨t,rfl⟩:=rx; rfl)
theorem yw (b : Expr) {op : CmpOp} (h : op ≠ .In:=by decide) (h2 : op ≠ .NotIn:=by decide) : behindInMarks op b = false:=by
 have e1 : (op == CmpOp.In) = false:=by cases op <;> first | rfl | exact absurd rfl h
 have e2 : (op == CmpOp.NotIn) = false:=by cases op <;> first | rfl | exact absurd rfl h2
 cases b <;> simp [behindInMarks,e1,e2]
theorem jN {op : CmpOp} {r : R2} (ho : OpR X (compareOp op) r) (ha : PE X a ta) (hb : PE X b tb) (hm : behindInMarks op b = false) : PE X (.Compare a [op] [b] pos) (tOp r ta tb):=by
 intro pins s σ H Q I h
 exact wpAny_Compare1 (zfd ha hb I h fun v u s2 x y H2 I2 rx ry q=>ho pins s2 σ H2 x y v u Q I2 rx ry q) hm
def zcV (t : TE) : TT:=fun σ H Q=>t σ H fun x H'=>∃ k,x = .bl k∧Q k H'
theorem yE {op : CmpOp} {r : R2} (ho : OpR X (compareOp op) r) (ha : PE X a ta) (hb : PE X b tb) (hm : behindInMarks op b = false) : PT X (.Compare a [op] [b] pos) (zcV (tOp r ta tb)):=by
 intro pins s σ H Q I h
 refine wpAny_isTrue_Compare1 (thn (ha pins s σ H _ I h) fun v s1 ⟨x,H1,I1,r1,q1⟩=>thn (hb pins s1 σ H1 _ I1 q1) fun u s2 ⟨y,H2,I2,r2,q2⟩ =>
  thn (ho pins s2 σ H2 x y v u _ I2 r1 r2 q2) fun c s3 ⟨z,H3,I3,r3,k,e,q3⟩=>?_) hm
 subst e
 cases r3
 exact wpAny_truthy_bool ⟨H3,I3,q3⟩
def zeG (r r' : R2) (ta tb tc : TE) : TE:=fun σ H Q=>ta σ H fun x H1=>tb σ H1 fun y H2=>r x y H2 fun z H3=>∃ k,z = .bl k ∧
 (if k = true then tc σ H3 fun w' H4=>r' y w' H4 Q else Q (.bl false) H3)
theorem Uk {op op' : CmpOp} {r r' : R2} (ho : OpR X (compareOp op) r) (ho' : OpR X (compareOp op') r') (ha : PE X a ta) (hb : PE X b tb) (hc : PE X c tc)
  (hm : lastMarks [op,op'] [b,c] = false:=by with_unfolding_all rfl) : PE X (.Compare a [op,op'] [b,c] pos) (zeG r r' ta tb tc):=by
 intro pins s σ H Q I h
 refine Compare_chain (thn (ha pins s σ H _ I h) fun v s1 ⟨x,H1,I1,r1,q1⟩=>chain_link (thn (hb pins s1 σ H1 _ I1 q1) fun u s2 ⟨y,H2,I2,r2,q2⟩ =>
  thn (ho pins s2 σ H2 x y v u _ I2 r1 r2 q2) fun d s3 ⟨z,H3,I3,r3,k,e,q3⟩=>?_)) hm
 subst e
 cases r3
 refine wpAny_truthy_bool ?_
 cases k with
 | false=>exact ite_ff ⟨.bl false,H3,I3,rfl,q3⟩
 | true=>exact ite_tt (chain_last (thn (hc pins s3 σ H3 _ I3 q3) fun w' s4 ⟨z',H4,I4,r4,q4⟩=>ho' pins s4 σ H4 y z' u w' Q I4 r2 r4 q4))
theorem Qu : (sizeLine : Nat) < 2 ^ 63:=by rw [sizeLine_eq]; decide
theorem vals1 {x : V} {us : List Value} (r : Vals [x] us) : ∃ u,us = [u]∧RelV x u:=by
 cases r with
 | cons r1 r2=>cases r2; exact ⟨_,rfl,r1⟩
theorem vals2 {x y : V} {us : List Value} (r : Vals [x,y] us) : ∃ u w',us = [u,w']∧RelV x u∧RelV y w':=by
 cases r with
 | cons r1 r2 =>
  cases r2 with
  | cons r3 r4=>cases r4; exact ⟨_,_,rfl,r1,r3⟩
theorem zc7 : vm X (.builtin "abs") (fun xs H Q=>∃ i,xs = [.int i]∧Q (.int (if i < 0 then -i else i)) H):=by
 intro pins s σ H xs us Q I r h
 obtain ⟨i,rfl,q⟩:=h
 obtain ⟨u,rfl,t,rfl⟩:=vals1 r
 exact call_abs_int fun u tk=>⟨.int (if i < 0 then -i else i),H,I.tok _,⟨_,rfl⟩,q⟩
theorem zbR (hc : X.calm = true) : vm X (.builtin "min") (fun xs H Q=>∃ i j,xs = [.int i,.int j]∧Q (.int (if j < i then j else i)) H):=by
 intro pins s σ H xs us Q I r h
 obtain ⟨i,j,rfl,q⟩:=h
 obtain ⟨u,w',rfl,⟨t,rfl⟩,⟨t',rfl⟩⟩:=vals2 r
 refine min_two_ints (I.ok.hd hc) fun h' tk k=>⟨_,H,I.kept k,?_,q⟩
 by_cases hj : j < i
 ·rw [if_pos hj,if_pos hj]; exact ⟨_,rfl⟩
 ·rw [if_neg hj,if_neg hj]; exact ⟨_,rfl⟩
theorem zbN : vm X (.type "int") (fun xs H Q=>(∃ i,xs = [.int i]∧Q (.int i) H)∨∃ k,xs = [.bl k]∧Q (.int (if k then 1 else 0)) H):=by
 intro pins s σ H xs us Q I r h
 rcases h with ⟨i,rfl,q⟩ | ⟨k,rfl,q⟩
 ·obtain ⟨u,rfl,t,rfl⟩:=vals1 r
  exact call_int_int ⟨.int i,H,I,⟨_,rfl⟩,q⟩
 ·obtain ⟨u,rfl,r1⟩:=vals1 r
  cases r1
  exact call_int_bool ⟨.int (if k then 1 else 0),H,I.tok _,⟨_,rfl⟩,q⟩
end
structure ObjM (h : Heap) (x dx C : Addr) (mA : Str->Option Value) : Prop where
 obj : h.get? x = some (PySem.W.instObj C dx)
 ns : h.Ns1 dx mA
 ne : dx ≠ x
theorem zb0 {h : Heap} {dx : Addr} {mA : Str->Option Value} (n : h.Ns1 dx mA) : ∃ od,h.get? dx = some od∧∀ name,PySem.W.lookIn name od = some (mA name):=by
 obtain ⟨o,es,ep,ho,hd,hk,_,hm⟩:=n
 refine ⟨o,ho,fun name=>?_⟩
 have e:=hm name
 unfold nsFind findBy at e
 rw [← Array.find?_toList] at e
 unfold PySem.W.lookIn
 rw [hd]
 dsimp only
 split
 ·rename_i y q
  rw [q] at e
  exact congrArg some e
 ·rename_i q
  rw [q] at e
  have a : es.toList.any (·.refKey) = false:=by
   rw [List.any_eq_false]
   intro y hy
   obtain ⟨z,t,hkey⟩:=hk y (Array.mem_toList_iff.mp hy)
   simp [DictEntry.refKey,hkey]
  have a' : ¬ es.toList.any (·.refKey) = true:=by rw [a]; exact Bool.false_ne_true
  rw [if_neg a']
  exact congrArg some e
theorem ObjM.look {h : Heap} {x dx C : Addr} {mA : Str->Option Value} (I : ObjM h x dx C mA) : ∃ od,PySem.W.InstAt h x (PySem.W.instObj C dx) C (some od)∧∀ name,PySem.W.lookIn name od = some (mA name) :=
 let ⟨od,ho,hl⟩:=zb0 I.ns
 ⟨od,⟨I.obj,rfl,rfl,ho⟩,hl⟩
section
variable {prog : Program} {w : World} {A : Around} {E : Value->Shared->Prop} {s : Shared} {K : PySem.W.Frag} {x dx C f : Addr} {mA : Str->Option Value} {name : Str} {v : Value}
theorem zdK {expr : Bool} {Q : Value->Shared->Prop} (X : K.In s.heap) (I : ObjM s.heap x dx C mA) (hg : PySem.W.plainGet K C name = true) (hh : PySem.W.hasDictIn K C = true)
  (ha : PySem.W.findIn K (.ref C) name = some none) (hv : mA name = some v) (hv' : PySem.W.handedIn v = true) (h : Q v { s with toks:=s.toks + 1 }) :
  wpAny (model prog w) A (getAttr (.ref x) name expr) Q E s:=by
 obtain ⟨od,J,hl⟩:=I.look
 exact PySem.W.get_value X J (PySem.W.plainGet_of hg).1 (PySem.W.findObj_own hh ha rfl (by rw [hl,hv])) hv' h
theorem zcO {pl : Sem Bool} {Q : Value × List Value->Shared->Prop} (X : K.In s.heap) (I : ObjM s.heap x dx C mA) (hg : PySem.W.plainGet K C name = true)
  (hf : PySem.W.findIn K (.ref C) name = some (some (.ref f))) (ht : PySem.W.isFn K (.ref f) = true) (hv : mA name = none) (h : Q (.ref f,[.ref x]) s) :
  wpAny (model prog w) A (getMethod (.ref x) name pl) Q E s:=by
 obtain ⟨od,J,hl⟩:=I.look
 exact PySem.W.method_fn X J (PySem.W.plainGet_of hg).1 (PySem.W.plainGet_of hg).2 hf (beq_iff_eq.mp ht) (by show (PySem.W.lookIn name od).map (·.isSome) = some false; rw [hl,hv]; rfl) h
theorem zee {ns : List Str} {Q : Unit->Shared->Prop} (X : K.In s.heap) (I : ObjM s.heap x dx C mA)
  (hs : PySem.W.findIn K (.ref C) "__setattr__" = some (some (.builtin "object.__setattr__"))) (hp : PySem.W.plainOver K C = true) (ht : PySem.W.takerIn K C name = some none) (hh : PySem.W.hasDictIn K C = true)
  (hw : PySem.Within mA ns) (hsz : ns.length≤sizeLine)
  (h : ∀ h',ObjM h' x dx C (fun y=>if y = name then some v else mA y)->Heap.SameBut dx s.heap h'->Q () { s with heap:=h',toks:=s.toks + 2 }) :
  wpAny (model prog w) A (setAttr (.ref x) name v) Q E s:=by
 obtain ⟨od,J,hl⟩:=I.look
 refine PySem.W.set_plain X J hs (PySem.W.osa_open (s:={ s with toks:=s.toks + 1 }) (r:=none) X J hp ht fun b=>?_)
 obtain ⟨cd,hc,hd'⟩:=PySem.W.any_some hh
 have hx : s.heap.get? x = some ⟨.ref C,some dx,.plain,#[]⟩:=I.obj
 refine wpAny_bind (wpAny_pure (wpAny_bind (wpAny_bind (wpAny_loadPart hx (wpAny_bind (PySem.W.Looks.here (s:={ s with toks:=s.toks + 1 }) (PySem.W.looks_clsIn X hc) ?_))))))
 rw [hd']
 refine wpAny_pure (a:=some dx) (wpAny_bind (wpAny_pure (wpAny_bind ?_)))
 refine wpAny_nsSet1 (s:={ s with toks:=s.toks + 1 }) I.ns fun h' hn2 hs2=>?_
 obtain ⟨oD,esD,epD,hoD,hdD,hcD⟩:=hn2.count (PySem.Within.cons name v hw)
 refine wpAny_bind (wpAny_lookBehind hoD (by rw [hdD]; exact pastItsLine_dict (Nat.le_trans hcD (by rw [List.length_cons]; omega))) ?_)
 exact wpAny_pure (h _ ⟨(hs2.2 _ (Ne.symm I.ne)).trans I.obj,hn2,I.ne⟩ hs2)
theorem zcT {R : Result->Shared->Prop} {vs : List Value} {kw : List (Str × Value)} (X : K.In s.heap) (hm : PySem.W.makesIn K C = true)
  (hi : PySem.W.findIn K (.ref C) "__init__" = some (some (.ref f))) (hf : PySem.W.typeIn K (.ref f) = some (.type "function"))
  (h : codeAny (model prog w) (A.under (.builtin "type.__call__" ⟨.ref C :: vs,kw⟩)) (.call (.ref f) ⟨.ref (s.heap.objs.size + 1) :: vs,kw⟩) (PySem.W.InitBack (s.heap.objs.size + 1) R)
   { s with heap:=(s.heap.push PySem.W.emptyDict).push (PySem.W.instObj C s.heap.objs.size) }) :
  codeAny (model prog w) A (.call (.ref C) ⟨vs,kw⟩) R s:=by
 obtain ⟨hh,g,d,t,os⟩:=s
 exact PySem.W.make_core (PySem.W.makes_of X hm) (PySem.W.looks_findIn X hi) (fun self=>PySem.W.bind_fn X self hf) (.inl rfl) h
end
def yf (f : Str) (v : V) : List (Str × V)->List (Str × V)
 | []=>[(f,v)]
 | (g,x) :: r=>if g = f then (g,v) :: r else (g,x) :: yf f v r
theorem zM (f g : Str) (v : V) : ∀ fs : List (Str × V),(yf f v fs).lookup g = if g = f then some v else fs.lookup g
 | []=>by
  show List.lookup g [(f,v)] = _
  by_cases h : g = f
  ·have hb : (g == f) = true:=beq_iff_eq.mpr h
   simp only [List.lookup,hb,if_pos h]
  ·have hb : (g == f) = false:=beq_eq_false_iff_ne.mpr h
   simp only [List.lookup,hb,if_neg h]
 | (k,x) :: r=>by
  have ih:=zM f g v r
  rw [show yf f v ((k,x) :: r) = (if k = f then (k,v) :: r else (k,x) :: yf f v r) from rfl]
  by_cases hk : k = f
  ·rw [if_pos hk]
   by_cases h : g = k
   ·have hb : (g == k) = true:=beq_iff_eq.mpr h
    simp only [List.lookup,hb,if_pos (h.trans hk)]
   ·have hb : (g == k) = false:=beq_eq_false_iff_ne.mpr h
    simp only [List.lookup,hb,if_neg (fun e : g = f=>h (e.trans hk.symm))]
  ·rw [if_neg hk]
   by_cases h : g = k
   ·have hb : (g == k) = true:=beq_iff_eq.mpr h
    simp only [List.lookup,hb,if_neg (fun e : g = f=>hk (h.symm.trans e))]
   ·have hb : (g == k) = false:=beq_eq_false_iff_ne.mpr h
    simp only [List.lookup,hb]
    exact ih
theorem Wg (f : Str) (v : V) : ∀ fs : List (Str × V),f ∈ (yf f v fs).map (·.1)∧∀ g,g ∈ fs.map (·.1)->g ∈ (yf f v fs).map (·.1)
 | []=>⟨by simp [yf],fun g h=>by simp at h⟩
 | (k,x) :: r=>by
  obtain ⟨i1,i2⟩:=Wg f v r
  rw [show yf f v ((k,x) :: r) = (if k = f then (k,v) :: r else (k,x) :: yf f v r) from rfl]
  by_cases hk : k = f
  ·rw [if_pos hk]
   subst hk
   exact ⟨by simp,fun g h=>by simpa using h⟩
  ·rw [if_neg hk]
   refine ⟨?_,fun g h=>?_⟩
   ·rw [List.map_cons]
    exact List.mem_cons_of_mem _ i1
   ·rw [List.map_cons] at h ⊢
    rcases List.mem_cons.mp h with e | e
    ·exact List.mem_cons.mpr (.inl e)
    ·exact List.mem_cons_of_mem _ (i2 g e)
theorem tG (f : Str) (v : V) : ∀ fs : List (Str × V),(yf f v fs).length≤fs.length + 1
 | []=>by simp [yf]
 | (k,x) :: r=>by
  have ih:=tG f v r
  rw [show yf f v ((k,x) :: r) = (if k = f then (k,v) :: r else (k,x) :: yf f v r) from rfl]
  by_cases hk : k = f
  ·rw [if_pos hk,List.length_cons,List.length_cons]; omega
  ·rw [if_neg hk,List.length_cons,List.length_cons]; omega
theorem RelO.some_of {v : V} {o : Option Value} (r : RelO (some v) o) : ∃ u,o = some u∧RelV v u:=by
 cases o with
 | none=>exact (show False from r).elim
 | some u=>exact ⟨u,rfl,r⟩
theorem RelO.none_of {o : Option Value} (r : RelO none o) : o = none:=by
 cases o with
 | none=>rfl
 | some u=>exact (show False from r).elim
theorem zb7 {v : V} {u : Value} (r : RelV v u) : PySem.W.handedIn u = true:=by
 cases v with
 | non=>cases (show u = Value.none from r); rfl
 | bl b=>cases (show u = Value.bool b from r); rfl
 | int i=>obtain ⟨t,e⟩:=(show ∃ t,u = Value.int i t from r); cases e; rfl
 | str x=>obtain ⟨t,e⟩:=(show ∃ t,u = Value.str x t from r); cases e; rfl
 | byt b=>obtain ⟨t,e⟩:=(show ∃ t,u = Value.bytes b t from r); cases e; rfl
 | flt b=>obtain ⟨t,e⟩:=(show ∃ t,u = Value.float b t from r); cases e; rfl
 | ref a=>cases (show u = Value.ref a from r); rfl
 | ty n=>cases (show u = Value.type n from r); rfl
section
variable {P : Program} {w : World} {H H' : Hp} {h h' : Heap} {a C dx : Addr} {fs fs' : List (Str × V)}
theorem Va (hok : HOk P w H h) (e : H a = some (.ins C dx fs)) : ∃ mA,ObjM h a dx C mA∧(∀ f,RelO (fs.lookup f) (mA f))∧PySem.Within mA (fs.map (·.1))∧fs.length≤1000∧H dx = some (.own a):=by
 obtain ⟨d,z,ne,ob,mA,n,r,q⟩:=(show ObjOk P w H h a (.ins C dx fs) from hok a _ e)
 exact ⟨mA,⟨ob,n,ne⟩,r,q,z,d⟩
end
structure Cls (K : PySem.W.Frag) (C : Addr) : Prop where
 pg : PySem.W.plainGet K C Str.empty = true
 hd : PySem.W.hasDictIn K C = true
 po : PySem.W.plainOver K C = true
 sa : PySem.W.findIn K (.ref C) "__setattr__" = some (some (.builtin "object.__setattr__"))
theorem Cls.get {K : PySem.W.Frag} {C : Addr} (c : Cls K C) (f : Str) : PySem.W.plainGet K C f = true:=c.pg
def NoAttr (K : PySem.W.Frag) (C : Addr) (f : Str) : Prop:=PySem.W.findIn K (.ref C) f = some none
theorem NoAttr.taker {K : PySem.W.Frag} {C : Addr} {f : Str} (n : NoAttr K C f) : PySem.W.takerIn K C f = some none:=by
 unfold PySem.W.takerIn
 rw [show PySem.W.findIn K (.ref C) f = some none from n]
 rfl
structure Con (K : PySem.W.Frag) (C : Addr) (f : Str) (v : V) (u : Value) : Prop where
 at_ : PySem.W.findIn K (.ref C) f = some (some u)
 rel : RelV v u
 get : PySem.W.specialIn K u "__get__" = some none
 cp : PySem.W.copiedNames.contains f = false
structure Meth (K : PySem.W.Frag) (C : Addr) (m : Str) (f : Addr) : Prop where
 at_ : PySem.W.findIn K (.ref C) m = some (some (.ref f))
 fn : PySem.W.isFn K (.ref f) = true
 kp : PySem.W.keepIn K (.ref f) = true
section
variable {X : Cx} {pins : List (Addr × Obj)} {σ : St} {H : Hp} {s : Shared} {a C dx : Addr} {fs : List (Str × V)} {f : Str} {v : V} {A : Around} {E : Value->Shared->Prop}
theorem zaI {b : Bool} {Q : Value->Shared->Prop} (I : Inv X pins σ H s) (e : H a = some (.ins C dx fs)) (c : Cls X.K C) (n : NoAttr X.K C f) (l : fs.lookup f = some v)
  (h : ∀ u s',Inv X pins σ H s'->RelV v u->Q u s') : wpAny (model X.prog X.w) A (getAttr (.ref a) f b) Q E s:=by
 obtain ⟨mA,O,r,_,_,_⟩:=Va I.hok e
 obtain ⟨u,hu,ru⟩:=RelO.some_of (v:=v) (o:=mA f) (by rw [← l]; exact r f)
 exact zdK I.kIn O (c.get f) c.hd n hu (zb7 ru) (h u _ (I.tok _) ru)
theorem za2 {m : Str} {g : Addr} {pl : Sem Bool} {Q : Value × List Value->Shared->Prop} (I : Inv X pins σ H s) (e : H a = some (.ins C dx fs)) (c : Cls X.K C) (k : Meth X.K C m g) (l : fs.lookup m = none)
  (h : Q (.ref g,[.ref a]) s) : wpAny (model X.prog X.w) A (getMethod (.ref a) m pl) Q E s:=by
 obtain ⟨mA,O,r,_,_,_⟩:=Va I.hok e
 have hn : mA m = none:=RelO.none_of (by rw [← l]; exact r m)
 exact zcO I.kIn O (c.get m) k.at_ k.fn hn h
theorem zaw {y : V} {u : Value} {Q : Unit->Shared->Prop} (I : Inv X pins σ H s) (e : H a = some (.ins C dx fs)) (c : Cls X.K C) (n : NoAttr X.K C f) (hl : fs.length < 1000) (ry : RelV y u)
  (h : ∀ s',Inv X pins σ (upd H a (.ins C dx (yf f y fs))) s'->Q () s') : wpAny (model X.prog X.w) A (setAttr (.ref a) f u) Q E s:=by
 obtain ⟨mA,O,r,wi,_,ho⟩:=Va I.hok e
 have hz : (fs.map (·.1)).length≤sizeLine:=by rw [List.length_map,sizeLine_eq]; omega
 refine zee I.kIn O c.sa c.po n.taker c.hd wi hz fun h' O' sb=>h _ ?_
 have hd : ∃ o,h'.get? dx = some o:=let ⟨o,_,_,e',_⟩:=O'.ns; ⟨o,e'⟩
 refine I.write (x:=a) (e:=dx) (by rw [e]; exact True.intro) (.inr ho) (fun b q hb z=>(sb.2 b hb).trans z) hd ?_
 refine ⟨by rw [zy O.ne]; exact ho,?_,O.ne,O'.obj,_,O'.ns,fun g=>?_,fun g hg=>?_⟩
 ·have:=tG f y fs; omega
 ·show RelO ((yf f y fs).lookup g) (if g = f then some u else mA g)
  rw [zM]
  by_cases q : g = f
  ·rw [if_pos q,if_pos q]; exact ry
  ·rw [if_neg q,if_neg q]; exact r g
 ·by_cases q : g = f
  ·rw [q]; exact (Wg f y fs).1
  ·refine (Wg f y fs).2 g (wi g fun z=>hg ?_)
   show (if g = f then some u else mA g) = none
   rw [if_neg q]; exact z
theorem Inv.made (I : Inv X pins σ H s) : Inv X pins σ (upd (upd H s.heap.objs.size (.own (s.heap.objs.size + 1))) (s.heap.objs.size + 1) (.ins C s.heap.objs.size []))
  { s with heap:=(s.heap.push PySem.W.emptyDict).push (PySem.W.instObj C s.heap.objs.size) }:=by
 have e1 : (s.heap.push PySem.W.emptyDict).get? s.heap.objs.size = some PySem.W.emptyDict:=Heap.get?_push_size s.heap rfl
 have e2 : ((s.heap.push PySem.W.emptyDict).push (PySem.W.instObj C s.heap.objs.size)).get? (s.heap.objs.size + 1) = some (PySem.W.instObj C s.heap.objs.size):=by
  have:=Heap.get?_push_size (s.heap.push PySem.W.emptyDict) (o:=PySem.W.instObj C s.heap.objs.size) rfl
  rwa [Heap.size_push] at this
 have e3 : (s.heap.push PySem.W.emptyDict).Ns s.heap.objs.size (fun _=>none):=⟨PySem.W.emptyDict,#[],_,e1,rfl,(fun e he=>absurd he (by simp)),fun _=>rfl⟩
 have I1:=I.laid (a:=s.heap.objs.size) (o:=.own (s.heap.objs.size + 1)) (h':=s.heap.push PySem.W.emptyDict) (t':=s.toks) (fun b u q=>Heap.get?_push_of_some _ q) (Nat.le_refl _) ⟨_,e1⟩
 refine I1.laid (a:=s.heap.objs.size + 1) (o:=.ins C s.heap.objs.size []) (t':=s.toks) (fun b u q=>Heap.get?_push_of_some _ q) (Nat.le_of_eq (Heap.size_push _ _)) ?_
 have ne : s.heap.objs.size ≠ s.heap.objs.size + 1:=Nat.ne_of_lt (Nat.lt_succ_self _)
 refine ⟨by rw [zy ne,zj],Nat.zero_le _,ne,e2,fun _=>none,(Heap.Ns1.of_empty e3).at fun o q=>Heap.get?_push_of_some _ q,fun _=>True.intro,fun y hy=>absurd rfl hy⟩
theorem zdM {prog : Program} {w : World} {env : Env} {e : Expr} {f : Str} {pos : Pos} {s : Shared} {Q : Value->Shared->Prop} (hb : attributeBase e f env (eval e env) = eval e env)
  (h : wpAny (model prog w) A (eval e env) (fun o s₁=>wpAny (model prog w) A (getAttr o f true) Q E s₁) E s) : wpAny (model prog w) A (eval (.Attribute e f pos) env) Q E s :=
 Attribute_any_ h (by rw [arm_eval_Attribute,hb])
end
def zfT (K : PySem.W.Frag) (ta : TE) (f : Str) : TE:=fun σ H Q=>ta σ H fun x H1=>∃ a C dx fs v,x = .ref a∧H1 a = some (.ins C dx fs)∧Cls K C∧NoAttr K C f∧fs.lookup f = some v∧Q v H1
def zfY (K : PySem.W.Frag) (ta tv : TE) (f : Str) : TS:=fun D σ H=>tv σ H fun y H1=>ta σ H1 fun x H2=>∃ a C dx fs,x = .ref a∧H2 a = some (.ins C dx fs)∧Cls K C∧NoAttr K C f∧fs.length < 1000 ∧
 D.nx σ (upd H2 a (.ins C dx (yf f y fs)))
section
variable {X : Cx} {o e value : Expr} {f : Str} {pos pos' tpos : Pos} {ta tv : TE}
theorem zeD (he : PE X e ta) (hb : attributeBase e f X.env (eval e X.env) = eval e X.env) : PE X (.Attribute e f pos) (zfT X.K ta f):=by
 intro pins s σ H Q I h
 refine zdM hb (thn (he pins s σ H _ I h) fun u s1 ⟨x,H1,I1,rx,a,C,dx,fs,v,ex,ea,c,n,l,q⟩=>?_)
 subst ex
 obtain rfl : u = Value.ref a:=rx
 exact zaI I1 ea c n l fun u' s2 I2 ru=>⟨v,H1,I2,ru,q⟩
theorem Xc (ha : PE X o ta) (hv : PE X value tv) (hs : swapsWith value (some (.Attribute o f pos')) pos.line X.env = pure false) : PS X (.Assign [.Attribute o f pos'] value pos) (zfY X.K ta tv f):=by
 intro pins s σ H D I h
 refine plainObj_wpAny_Assign_Attribute (thn (hv pins s σ H _ I h) fun u s1 ⟨y,H1,I1,ry,q⟩=>thn (ha pins s1 σ H1 _ I1 q) fun ov s2 ⟨x,H2,I2,rx,a,C,dx,fs,ex,ea,c,n,l,q2⟩=>?_) hs
 subst ex
 obtain rfl : ov = Value.ref a:=rx
 exact zaw I2 ea c n l ry fun s3 I3=>⟨σ,_,I3,q2⟩
end
section
variable {X : Cx} {pins : List (Addr × Obj)} {σ : St} {H : Hp} {s : Shared} {A : Around} {E : Value->Shared->Prop} {Q : Value->Shared->Prop} {c : Value} {b : Bool}
inductive Xr (K : PySem.W.Frag) (H : Hp) : V->Value->Prop where
 | non : Xr K H .non (.type "NoneType")
 | bl (x : Bool) : Xr K H (.bl x) (.type "bool")
 | int (i : Int) : Xr K H (.int i) (.type "int")
 | str (x : Str) : Xr K H (.str x) (.type "str")
 | flt (x : UInt64) : Xr K H (.flt x) (.type "float")
 | lst {a : Addr} {xs : List V} (e : H a = some (.lst xs)) : Xr K H (.ref a) (.type "list")
 | frz {a : Addr} {o : Obj} {xs : List V} (e : H a = some (.frz o (.lst xs))) : Xr K H (.ref a) (.type "list")
 | tup {a : Addr} {xs : List V} (e : H a = some (.tup xs)) : Xr K H (.ref a) (.type "tuple")
 | dK {a : Addr} {kvs : List (Key × V)} (e : H a = some (.dK kvs)) : Xr K H (.ref a) (.type "dict")
 | dT {a : Addr} {kvs : List (List Key × V)} (e : H a = some (.dT kvs)) : Xr K H (.ref a) (.type "dict")
 | ins {a C dx : Addr} {fs : List (Str × V)} (e : H a = some (.ins C dx fs)) (cl : Cls K C) (ha : PySem.W.findIn K (.ref C) "__class__" = some (some (.builtin "object.__class__")))
   (hn : PySem.W.specialIn K (.builtin "object.__class__") "__get__" = some (some (.builtin "getset_descriptor.__get__"))) (htk : PySem.W.takesIn K (.builtin "object.__class__") = some true)
   (hm : PySem.W.mroIn K C (.type "object") = some true) : Xr K H (.ref a) (.ref C)
theorem zbQ {x : V} {u t : Value} (I : Inv X pins σ H s) (rx : RelV x u) (ty : Xr X.K H x t) (e : PySem.W.kitOne X.K t c = some b) (h : ∀ tk,Q (.bool b) { s with toks:=tk }) :
  wpAny (model X.prog X.w) A (call (.builtin "isinstance") [u,c]) Q E s:=by
 cases ty with
 | non=>cases (show u = Value.none from rx); exact PySem.W.kia_one PySem.W.kitx_none I.kIn True.intro e (fun z=>nomatch z) h
 | bl y=>cases (show u = Value.bool y from rx); exact PySem.W.kia_one PySem.W.kitx_bool I.kIn True.intro e (fun z=>nomatch z) h
 | int i=>obtain ⟨t,q⟩:=(show ∃ t,u = Value.int i t from rx); cases q; exact PySem.W.kia_one PySem.W.kitx_int I.kIn True.intro e (fun z=>nomatch z) h
 | str y=>obtain ⟨t,q⟩:=(show ∃ t,u = Value.str y t from rx); cases q; exact PySem.W.kia_one PySem.W.kitx_str I.kIn True.intro e (fun z=>nomatch z) h
 | flt y=>obtain ⟨t,q⟩:=(show ∃ t,u = Value.float y t from rx); cases q; exact PySem.W.kia_one PySem.W.kitx_float I.kIn True.intro e (fun z=>nomatch z) h
 | @lst a xs ea =>
  cases (show u = Value.ref a from rx)
  obtain ⟨_,_,n,_,h1⟩:=(show ObjOk X.prog X.w H s.heap a (.lst xs) from I.hok a _ ea)
  exact PySem.W.kia_one PySem.W.kitx_list I.kIn ⟨_,h1,rfl⟩ e (fun z=>nomatch z) h
 | @frz a ob xs ea =>
  cases (show u = Value.ref a from rx)
  obtain ⟨_,_,_,n,_,h1⟩:=(show ObjOk X.prog X.w H s.heap a (.frz ob (.lst xs)) from I.hok a _ ea)
  exact PySem.W.kia_one PySem.W.kitx_list I.kIn ⟨_,h1,rfl⟩ e (fun z=>nomatch z) h
 | @tup a xs ea =>
  cases (show u = Value.ref a from rx)
  obtain ⟨_,_,_,p⟩:=(show ObjOk X.prog X.w H s.heap a (.tup xs) from I.hok a _ ea)
  obtain ⟨o,h1,h2,_⟩:=p
  exact PySem.W.kia_one PySem.W.kitx_tuple I.kIn ⟨o,h1,h2⟩ e (fun z=>nomatch z) h
 | @dK a kvs ea =>
  cases (show u = Value.ref a from rx)
  obtain ⟨_,_,vs,_,p⟩:=(show ObjOk X.prog X.w H s.heap a (.dK kvs) from I.hok a _ ea)
  obtain ⟨o,es,ep,h1,h2,_⟩:=p
  exact PySem.W.kia_one PySem.W.kitx_dict I.kIn ⟨o,h1,h2.1⟩ e (fun z=>nomatch z) h
 | @dT a kvs ea =>
  cases (show u = Value.ref a from rx)
  obtain ⟨_,_,xs,_,o,es,ep,h1,h2,_⟩:=(show ObjOk X.prog X.w H s.heap a (.dT kvs) from I.hok a _ ea)
  exact PySem.W.kia_one PySem.W.kitx_dict I.kIn ⟨o,h1,h2.1⟩ e (fun z=>nomatch z) h
 | @ins a C dx fs ea cl ha hn htk hm =>
  cases (show u = Value.ref a from rx)
  obtain ⟨mA,O,_⟩:=Va I.hok ea
  obtain ⟨od,J,_⟩:=O.look
  exact PySem.W.kia_one (PySem.W.kitx_own (cl.get _) cl.hd ha hn htk hm) I.kIn J e (fun z=>nomatch z) h
end
structure Room (k : Nat) (A : Around) : Prop where
 hd : A.handled = none
 dp : A.depth + 3 * k + 5 < recursionLimit
 un : A.units + 16 * k + 200 < cLine
 gd : A.guards = some []
theorem Room.mono {j k : Nat} {A : Around} (r : Room k A) (h : j≤k) : Room j A:=⟨r.hd,by have:=r.dp; omega,by have:=r.un; omega,r.gd⟩
theorem Room.deeper {k : Nat} {A : Around} (r : Room (k + 1) A) (env : Env) : Room k (A.deeper env) :=
 ⟨r.hd,by have:=r.dp; show A.depth + 1 + 3 * k + 5 < _; omega,by have:=r.un; show A.units + 3 + 16 * k + 200 < _; omega,r.gd⟩
theorem Room.in1 {k : Nat} {A : Around} (r : Room (k + 1) A) : Room k A.in1 :=
 ⟨r.hd,by have:=r.dp; show A.depth + 3 * k + 5 < _; omega,by have:=r.un; show A.units + 1 + 16 * k + 200 < _; omega,r.gd⟩
theorem zaL {A : Around} {C : Addr} {us : List Value} {kw : List (Str × Value)} : (A.under (.builtin "type.__call__" ⟨.ref C :: us,kw⟩)).depth = A.depth + 1:=by
 first | rfl | simp [Around.under,Code.weight,Code.isCreation,Code.isGuard,Code.isCaller,Code.frames,Code.isFrame,guardIds]
theorem zaM {A : Around} {C : Addr} {us : List Value} {kw : List (Str × Value)} : (A.under (.builtin "type.__call__" ⟨.ref C :: us,kw⟩)).units = A.units + 1:=by
 first | rfl | simp [Around.under,Code.cUnits,Code.frames,Code.isFrame]
theorem Room.make {k : Nat} {A : Around} (r : Room (k + 1) A) (C : Addr) (us : List Value) (kw : List (Str × Value)) : Room k (A.under (.builtin "type.__call__" ⟨.ref C :: us,kw⟩)) :=
 ⟨r.hd,by have:=r.dp; rw [zaL]; omega,by have:=r.un; rw [zaM]; omega,by first | exact r.gd | (simp [Around.under,Code.guards,Code.isGuard,guardIds]; exact r.gd)⟩
theorem Room.depth {k : Nat} {A : Around} (r : Room k A) : A.depth < recursionLimit:=by have:=r.dp; omega
theorem Room.units {k : Nat} {A : Around} (r : Room k A) : A.units + 64 < cLine:=by have:=r.un; omega
def YJ : TA:=fun _ H Q=>Q [] H
def wI (ta : TE) (tr : TA) : TA:=fun σ H Q=>ta σ H fun x H1=>tr σ H1 fun xs H2=>Q (x :: xs) H2
section
variable {X : Cx} {e : Expr} {es : List Expr} {te : TE} {t : TA} {pos : Pos}
theorem zg : PA X [] YJ:=fun _ _ _ _ H Q I h=>Calls.spliced_nil ⟨[],H,I,.nil,h⟩
theorem zf (ha : PE X e te) (hr : PA X es t) (hs : starEach (e :: es) X.env = (false,eval e X.env) :: starEach es X.env:=by rfl) : PA X (e :: es) (wI te t):=by
 intro pos pins s σ H Q I h
 rw [hs]
 show wpAny _ _ (spliced ((false,eval e X.env) :: backTo pos (starEach es X.env))) _ _ s
 refine Calls.spliced_cons (thn (ha pins s σ H _ I h) fun u s1 ⟨x,H1,I1,r1,q1⟩=>?_)
 exact thn (hr pos pins s1 σ H1 _ I1 q1) fun us s2 ⟨xs,H2,I2,r2,q2⟩=>⟨x :: xs,H2,I2,.cons r1 r2,q2⟩
def zb8 (t : TA) : TE:=fun σ H Q=>t σ H fun xs H1=>xs.length≤sizeLine∧∀ p,H1 p = none->Q (.ref p) (upd H1 p (.tup xs))
def JS (t : TA) : TE:=fun σ H Q=>t σ H fun xs H1=>xs.length≤sizeLine∧∀ p,H1 p = none->Q (.ref p) (upd H1 p (.lst xs))
theorem Yl {x1} (h : PA X es t) : PE X (.Tuple es x1 pos) (zb8 t):=by
 intro pins s σ H Q I hq
 refine wpAny_Tuple_spliced (thn (h pos pins s σ H _ I hq) fun us s1 ⟨xs,H1,I1,r,z,q⟩=>⟨by rw [← r.length]; exact z,?_⟩)
 have hf : H1 s1.heap.objs.size = none:=I1.hok.fresh (Nat.le_refl _)
 refine ⟨.ref s1.heap.objs.size,upd H1 s1.heap.objs.size (.tup xs),I1.laid (t':=s1.toks) (fun b u e=>Heap.get?_push_of_some _ e) (Nat.le_refl _) ?_,rfl,q _ hf⟩
 exact ⟨z,us,r,⟨_,Heap.get?_push_size _ rfl,rfl,_,rfl⟩⟩
theorem zO (h : PA X es t) : PE X (.List es pos) (JS t):=by
 intro pins s σ H Q I hq
 refine wpAny_List_spliced (thn (h pos pins s σ H _ I hq) fun us s1 ⟨xs,H1,I1,r,z,q⟩=>⟨by rw [← r.length]; exact z,?_⟩)
 have hf : H1 s1.heap.objs.size = none:=I1.hok.fresh (Nat.le_refl _)
 refine ⟨.ref s1.heap.objs.size,upd H1 s1.heap.objs.size (.lst xs),I1.laid (t':=s1.toks) (fun b u e=>Heap.get?_push_of_some _ e) (Nat.le_refl _) ?_,rfl,q _ hf⟩
 exact ⟨z,us,0,r,Heap.get?_push_size _ rfl⟩
end
abbrev Sp:=List V->Hp->VK->XK->Prop
abbrev CXT:=List Env->Hp->Shared->XK->Value->Shared->Prop
structure Env0 (P : Program) (w : World) (K : PySem.W.Frag) (mg : Str->Option Value) (base : Heap) (A : Around) (outer : List Env) (s : Shared) (H : Hp) : Prop where
 frames : A.frames = some outer
 mod : Mod K mg base
 bs : ∀ b o,base.get? b = some o->s.heap.get? b = some o∧H b = none
 bsz : base.objs.size≤s.heap.objs.size
 funs : s.heap.FunFrames base outer
 frf : ∀ b ∈ frs outer,H b = none
 hok : HOk P w H s.heap
 bare : AllBare s.gens
def CE (outer : List Env) (P : Program) (w : World) (H : Hp) (s : Shared) (Q : VK) (u : Value) (s' : Shared) : Prop :=
 ∃ v H',s'.os = s.os∧AllBare s'.gens∧Un (frs outer) [] H H' s.heap s'.heap∧HOk P w H' s'.heap∧RelV v u∧Q v H'
def CR (CX : CXT) (outer : List Env) (P : Program) (w : World) (H : Hp) (s : Shared) (Q : VK) (E : XK) (r : Result) (s' : Shared) : Prop :=
 match r with
 | .ok (.ret u)=>CE outer P w H s Q u s'
 | .ok _=>False
 | .error e=>CX outer H s E e s'
structure FnOk (P : Program) (w : World) (K : PySem.W.Frag) (mg : Str->Option Value) (base : Heap) (CX : CXT) (k : Nat) (f : Addr) (fd : FuncData) (ps : List Str) (sp : Sp) : Prop where
 len : ∀ vs H Q E,sp vs H Q E->vs.length = ps.length
 run : ∀ (A : Around) (outer : List Env) (s : Shared) (H : Hp) (args : Args) (us : List Value) (vs : List V) (Q : VK) (E : XK),Room k A->Env0 P w K mg base A outer s H->BindsTo s fd args (ps.zip us)->Vals vs us->sp vs H Q E ->
  codeAny (model P w) A (.call (.ref f) args) (CR CX outer P w H s Q E) s
theorem FnOk.mono {P : Program} {w : World} {K : PySem.W.Frag} {mg : Str->Option Value} {base : Heap} {CX : CXT} {j k : Nat} {f : Addr} {fd : FuncData} {ps : List Str} {sp : Sp} (F : FnOk P w K mg base CX j f fd ps sp) (h : j≤k) :
  FnOk P w K mg base CX k f fd ps sp:=⟨F.len,fun A outer s H args us vs Q E hr=>F.run A outer s H args us vs Q E (hr.mono h)⟩
theorem FnOk.imp {P : Program} {w : World} {K : PySem.W.Frag} {mg : Str->Option Value} {base : Heap} {CX : CXT} {k : Nat} {f : Addr} {fd : FuncData} {ps : List Str} {sp sp' : Sp} (F : FnOk P w K mg base CX k f fd ps sp)
  (h : ∀ vs H Q E,sp' vs H Q E->sp vs H Q E) : FnOk P w K mg base CX k f fd ps sp' :=
 ⟨fun vs H Q E q=>F.len vs H Q E (h _ _ _ _ q),fun A outer s H args us vs Q E hr he hb hv hs=>F.run A outer s H args us vs Q E hr he hb hv (h _ _ _ _ hs)⟩
theorem Env0.make {P : Program} {w : World} {K : PySem.W.Frag} {mg : Str->Option Value} {base : Heap} {A : Around} {outer : List Env} {s : Shared} {H : Hp} (e : Env0 P w K mg base A outer s H) (C : Addr) (us : List Value) (kw : List (Str × Value)) :
  Env0 P w K mg base (A.under (.builtin "type.__call__" ⟨.ref C :: us,kw⟩)) outer s H:=⟨by first | exact e.frames | (simpa [Around.under,Code.envs,Code.isFrame,pushEnvs] using e.frames),e.mod,e.bs,e.bsz,e.funs,e.frf,e.hok,e.bare⟩
theorem Env0.in1 {P : Program} {w : World} {K : PySem.W.Frag} {mg : Str->Option Value} {base : Heap} {A : Around} {outer : List Env} {s : Shared} {H : Hp} (e : Env0 P w K mg base A outer s H) :
  Env0 P w K mg base A.in1 outer s H:=⟨e.frames,e.mod,e.bs,e.bsz,e.funs,e.frf,e.hok,e.bare⟩
section
variable {X : Cx} {pins : List (Addr × Obj)} {σ : St} {H : Hp} {s s' : Shared}
theorem Inv.env0 (I : Inv X pins σ H s) : Env0 X.prog X.w X.K X.mg X.base X.A X.stack s H :=
 ⟨I.ok.frames,I.ok.mod,I.bs,Nat.le_trans I.ok.bsz I.sz,I.stack,I.stkFree,I.hok,I.bare⟩
theorem Inv.after {Q : VK} {u : Value} (I : Inv X pins σ H s) (h : CE X.stack X.prog X.w H s Q u s') : EP X pins σ Q u s':=by
 obtain ⟨v,H',os,bare,un,hok,r,q⟩:=h
 obtain ⟨hh,g,d,t,os'⟩:=s'
 obtain rfl : os' = s.os:=os
 exact ⟨v,H',I.call (h':=hh) (g':=g) (d':=d) (t':=t) (ch:=[]) un hok bare (fun b z=>absurd z (by simp)),r,q⟩
end
def zcQ (sp : Sp) (dvs : List V) (E : XK) (t : TA) : TE:=fun σ H Q=>t σ H fun vs H1=>sp (vs ++ dvs) H1 Q E
def zet (C : Addr) (m : Str) (sp : Sp) (dvs : List V) (E : XK) (ta : TE) (t : TA) : TE:=fun σ H Q=>ta σ H fun x H1=>∃ a dx fs,x = .ref a∧H1 a = some (.ins C dx fs)∧fs.lookup m = none ∧
 t σ H1 fun vs H2=>sp (x :: (vs ++ dvs)) H2 Q E
def zfu (C : Addr) (sp : Sp) (dvs : List V) (E : XK) (t : TA) : TE:=fun σ H Q=>t σ H fun vs H1=>∀ x dx,H1 x = none->H1 dx = none->dx ≠ x ->
 sp (.ref x :: (vs ++ dvs)) (upd (upd H1 dx (.own x)) x (.ins C dx [])) (fun v H2=>v = .non∧Q (.ref x) H2) E
def Binds (K : PySem.W.Frag) (fd : FuncData) (ps : List Str) (ds : List Value) : Prop :=
 ∀ (s : Shared) (us : List Value),K.In s.heap->(us ++ ds).length = ps.length->BindsTo s fd ⟨us,[]⟩ (ps.zip (us ++ ds))
theorem Binds.all {K : PySem.W.Frag} {fd : FuncData} {ps : List Str} (h : ∀ us : List Value,us.length = ps.length->bindArgs fd ⟨us,[]⟩ = pure (ps.zip us)) : Binds K fd ps []:=fun s us _ hl=>by
 rw [List.append_nil] at hl ⊢
 exact .of_eq (h us hl)
def Wc (CX : CXT) (X : Cx) (E : XK) : Prop:=∀ (pins : List (Addr × Obj)) (σ : St) (H : Hp) (s : Shared) (e : Value) (s' : Shared),Inv X pins σ H s->CX X.stack H s E e s'->X.xe e s'
section
variable {X : Cx} {CX : CXT} {k : Nat} {f C : Addr} {fd : FuncData} {ps : List Str} {sp : Sp} {dvs : List V} {ds : List Value} {E : XK} {x m : Str} {p pos apos : Pos} {e o : Expr} {es : List Expr} {ta : TE} {t : TA}
theorem zdd {pins : List (Addr × Obj)} {σ : St} {H : Hp} {s : Shared} {Q : VK} {us : List Value} {vs : List V} (F : FnOk X.prog X.w X.K X.mg X.base CX k f fd ps sp) (hr : Room k X.A) (hb : Binds X.K fd ps ds) (hd : Vals dvs ds) (hx : Wc CX X E)
  (I : Inv X pins σ H s) (r : Vals vs us) (h : sp (vs ++ dvs) H Q E) : wpAny (model X.prog X.w) X.A (call (.ref f) us) (EP X pins σ Q) X.xe s:=by
 have r2 : Vals (vs ++ dvs) (us ++ ds):=r.append hd
 have hl : (us ++ ds).length = ps.length:=by rw [← r2.length]; exact F.len _ _ _ _ h
 refine wpAny_call (codeAny_mono (F.run X.A X.stack s H ⟨us,[]⟩ (us ++ ds) (vs ++ dvs) Q E hr I.env0 (hb s us I.kIn hl) r2 h) fun r s' hq=>?_)
 cases r with
 | error e=>exact hx pins σ H s e s' I hq
 | ok fl =>
  cases fl with
  | ret u=>exact I.after hq
  | next=>exact False.elim hq
  | brk=>exact False.elim hq
  | cont=>exact False.elim hq
theorem zed (F : FnOk X.prog X.w X.K X.mg X.base CX k f fd ps sp) (hr : Room k X.A) (hg : Gl X x) (hm : X.mg x = some (.ref f)) (hk : PySem.W.keepIn X.K (.ref f) = true) (hb : Binds X.K fd ps ds) (hd : Vals dvs ds) (hx : Wc CX X E)
  (ha : PA X (e :: es) t) (hdb : (x == ("__debug__" : Str)) = false:=by decide) (he : starEach (e :: es) X.env = (false,eval e X.env) :: starEach es X.env:=by rfl) (hpl : (backTo pos (starEach es X.env)).any (·.1) = false:=by rfl) :
  PE X (.Call (.Name x p) (e :: es) [] pos) (zcQ sp dvs E t):=by
 intro pins s σ H Q I h
 refine wpAny_Call_Name_kw (YG I hg hm ?_ hdb)
 refine PySem.W.callWith_K (h₀:=X.base) I.ok.mod.kin hk (thn (ha pos pins s σ H _ I h) fun us s1 ⟨vs,H1,I1,r,q⟩=>⟨I1.kIn,?_⟩) he hpl
 exact zdd F hr hb hd hx I1 r q
theorem zd6 {pl : Sem Bool} (he : PE X o ta) (c : Cls X.K C) (hm : Meth X.K C m f) (F : FnOk X.prog X.w X.K X.mg X.base CX k f fd ps sp) (hr : Room k X.A) (hb : Binds X.K fd ps ds) (hd : Vals dvs ds) (hx : Wc CX X E) (ha : PA X (e :: es) t)
  (hst : starEach (e :: es) X.env = (false,eval e X.env) :: starEach es X.env:=by rfl) (hpl : (backTo pos (starEach es X.env)).any (·.1) = false:=by rfl)
  (ht : eval (.Call (.Attribute o m apos) (e :: es) [] pos) X.env = (do
   let ov ← eval o X.env
   standAt apos.atName
   let (f,first) ← holding [ov] (getMethod ov m pl)
   callWith pos f first (backTo pos (starEach (e :: es) X.env)) (backToKw pos (keywordEach [] X.env))):=by rfl) :
  PE X (.Call (.Attribute o m apos) (e :: es) [] pos) (zet C m sp dvs E ta t):=by
 intro pins s σ H Q I h
 refine PySem.W.methodCall_KW (pl:=pl) (thn (he pins s σ H _ I h) fun u s1 ⟨x,H1,I1,rx,a,dx,fs,ex,ea,l,q⟩=>?_) ht
 subst ex
 obtain rfl : u = Value.ref a:=rx
 refine za2 I1 ea c hm l ?_
 refine PySem.W.callWith_K (first:=[.ref a]) (h₀:=X.base) I.ok.mod.kin hm.kp (thn (ha pos pins s1 σ H1 _ I1 q) fun us s2 ⟨vs,H2,I2,r,q2⟩=>⟨I2.kIn,?_⟩) hst hpl
 exact zdd (us:=.ref a :: us) (vs:=.ref a :: vs) F hr hb hd hx I2 (.cons rfl r) q2
structure Mk (K : PySem.W.Frag) (C f : Addr) : Prop where
 makes : PySem.W.makesIn K C = true
 init : PySem.W.findIn K (.ref C) "__init__" = some (some (.ref f))
 fn : PySem.W.isFn K (.ref f) = true
 kp : PySem.W.keepIn K (.ref C) = true
theorem zdF {pins : List (Addr × Obj)} {σ : St} {H : Hp} {s : Shared} {Q : VK} {us : List Value} {vs : List V} (M : Mk X.K C f) (F : FnOk X.prog X.w X.K X.mg X.base CX k f fd ps sp) (hr : Room (k + 1) X.A) (hb : Binds X.K fd ps ds) (hd : Vals dvs ds)
  (hx : Wc CX X E) (I : Inv X pins σ H s) (r : Vals vs us)
  (h : ∀ x dx,H x = none->H dx = none->dx ≠ x->sp (.ref x :: (vs ++ dvs)) (upd (upd H dx (.own x)) x (.ins C dx [])) (fun v H2=>v = .non∧Q (.ref x) H2) E) :
  wpAny (model X.prog X.w) X.A (call (.ref C) us) (EP X pins σ Q) X.xe s:=by
 have hq:=h (s.heap.objs.size + 1) s.heap.objs.size (I.hok.fresh (Nat.le_succ _)) (I.hok.fresh (Nat.le_refl _)) (Nat.ne_of_lt (Nat.lt_succ_self _))
 have I2:=Inv.made (C:=C) I
 have r2 : Vals (V.ref (s.heap.objs.size + 1) :: (vs ++ dvs)) (Value.ref (s.heap.objs.size + 1) :: (us ++ ds)):=.cons rfl (r.append hd)
 have hl : (Value.ref (s.heap.objs.size + 1) :: us ++ ds).length = ps.length:=by
  have e:=r2.length
  rw [F.len _ _ _ _ hq] at e
  exact e.symm
 refine wpAny_call (zcT (f:=f) I.kIn M.makes M.init (beq_iff_eq.mp M.fn) (codeAny_mono (F.run _ X.stack _ _ ⟨Value.ref (s.heap.objs.size + 1) :: us,[]⟩ (Value.ref (s.heap.objs.size + 1) :: (us ++ ds)) _ _ E (hr.make C us [])
  (I2.env0.make C us []) (hb _ (Value.ref (s.heap.objs.size + 1) :: us) I2.kIn hl) r2 hq) fun r s' hq'=>?_))
 cases r with
 | error e=>exact hx pins σ _ _ e s' I2 hq'
 | ok fl =>
  cases fl with
  | ret u =>
   obtain ⟨v,H',I3,rv,ev,q3⟩:=I2.after hq'
   subst ev
   exact ⟨rv,⟨V.ref (s.heap.objs.size + 1),H',I3,rfl,q3⟩⟩
  | next=>exact False.elim hq'
  | brk=>exact False.elim hq'
  | cont=>exact False.elim hq'
theorem Vd (M : Mk X.K C f) (F : FnOk X.prog X.w X.K X.mg X.base CX k f fd ps sp) (hr : Room (k + 1) X.A) (hg : Gl X x) (hm : X.mg x = some (.ref C)) (hb : Binds X.K fd ps ds) (hd : Vals dvs ds) (hx : Wc CX X E)
  (ha : PA X (e :: es) t) (hdb : (x == ("__debug__" : Str)) = false:=by decide) (he : starEach (e :: es) X.env = (false,eval e X.env) :: starEach es X.env:=by rfl) (hpl : (backTo pos (starEach es X.env)).any (·.1) = false:=by rfl) :
  PE X (.Call (.Name x p) (e :: es) [] pos) (zfu C sp dvs E t):=by
 intro pins s σ H Q I h
 refine wpAny_Call_Name_kw (YG I hg hm ?_ hdb)
 refine PySem.W.callWith_K (h₀:=X.base) I.ok.mod.kin M.kp (thn (ha pos pins s σ H _ I h) fun us s1 ⟨vs,H1,I1,r,q⟩=>⟨I1.kIn,?_⟩) he hpl
 exact zdF M F hr hb hd hx I1 r q
end
section
variable {X : Cx} {CX : CXT} {k : Nat} {f C : Addr} {fd : FuncData} {ps ks : List Str} {sp : Sp} {E : XK} {x m : Str} {p pos apos kpos : Pos} {e o : Expr} {es : List Expr} {kws : List Keyword} {te ta : TE} {t tk : TA} {nm : Option Str}
structure zfZ (K : PySem.W.Frag) (fd : FuncData) (ps ks : List Str) (g : List Value->List Value->List Value) (gV : List V->List V->List V) : Prop where
 to : ∀ (s : Shared) (us ws : List Value),K.In s.heap->(g us ws).length = ps.length->BindsTo s fd ⟨us,ks.zip ws⟩ (ps.zip (g us ws))
 rel : ∀ {vs : List V} {us : List Value} {zs : List V} {ws : List Value},Vals vs us->Vals zs ws->Vals (gV vs zs) (g us ws)
variable {g : List Value->List Value->List Value} {gV : List V->List V->List V}
end
structure zK (N P : List Str) (sc : Scope) : Prop where
 kind : sc.kind = .function
 co : sc.isCoroutine = false
 gen : sc.isGenerator = false
 nd : N.Nodup
 pre : N.take P.length = P
 par : ∀ x ∈ P,sc.names.lookup x = some .local∨sc.names.lookup x = some .cell
 nofree : ∀ y ∈ sc.names,y.2 ≠ .free
theorem Ql {kindOf : Str->Option NameKind} {x : Str} : ∀ {binds : List (Str × Value)} {m : Str->Option Value},(∀ v,(x,v) ∉ binds)->bindL kindOf binds m x = m x
 | [],_,_=>rfl
 | (n,v) :: r,m,h=>by
  unfold bindL
  rw [Ql fun w hw=>h w (List.mem_cons_of_mem _ hw)]
  split
  ·have : x ≠ n:=by rintro rfl; exact h v List.mem_cons_self
   simp [this]
  ·rfl
theorem Qk {kindOf : Str->Option NameKind} {x : Str} : ∀ {binds : List (Str × Value)} {m : Str->Option Value},(∀ v,(x,v) ∉ binds)->bindC kindOf binds m x = m x
 | [],_,_=>rfl
 | (n,v) :: r,m,h=>by
  unfold bindC
  rw [Qk fun w hw=>h w (List.mem_cons_of_mem _ hw)]
  split
  ·rfl
  ·have : x ≠ n:=by rintro rfl; exact h v List.mem_cons_self
   simp [this]
theorem UV {kindOf : Str->Option NameKind} {x : Str} {v : Value} : ∀ {P : List Str} {vs : List Value} {i : Nat} {m : Str->Option Value},P.Nodup->P[i]? = some x->vs[i]? = some v->kindOf x = some .local ->
  bindL kindOf (P.zip vs) m x = some v
 | [],_,_,_,_,h,_,_=>by simp at h
 | _ :: _,[],_,_,_,_,h,_=>by simp at h
 | p :: P,w :: vs,0,m,nd,h1,h2,hk=>by
  simp at h1 h2; subst h1; subst h2
  show bindL kindOf ((p,w) :: P.zip vs) m p = _
  unfold bindL
  rw [Ql fun v hv=>(List.nodup_cons.mp nd).1 (List.of_mem_zip hv).1,if_pos hk]
  simp
 | p :: P,w :: vs,i + 1,m,nd,h1,h2,hk=>by
  show bindL kindOf ((p,w) :: P.zip vs) m x = _
  unfold bindL
  exact UV (i:=i) (List.nodup_cons.mp nd).2 (by simpa using h1) (by simpa using h2) hk
theorem U9 {kindOf : Str->Option NameKind} {x : Str} {v : Value} : ∀ {P : List Str} {vs : List Value} {i : Nat} {m : Str->Option Value},P.Nodup->P[i]? = some x->vs[i]? = some v->kindOf x ≠ some .local ->
  bindC kindOf (P.zip vs) m x = some v
 | [],_,_,_,_,h,_,_=>by simp at h
 | _ :: _,[],_,_,_,_,h,_=>by simp at h
 | p :: P,w :: vs,0,m,nd,h1,h2,hk=>by
  simp at h1 h2; subst h1; subst h2
  show bindC kindOf ((p,w) :: P.zip vs) m p = _
  unfold bindC
  rw [Qk fun v hv=>(List.nodup_cons.mp nd).1 (List.of_mem_zip hv).1,if_neg hk]
  simp
 | p :: P,w :: vs,i + 1,m,nd,h1,h2,hk=>by
  show bindC kindOf ((p,w) :: P.zip vs) m x = _
  unfold bindC
  exact U9 (i:=i) (List.nodup_cons.mp nd).2 (by simpa using h1) (by simpa using h2) hk
def start (N : List Str) (vs : List V) : St:=vs.map some ++ List.replicate (N.length - vs.length) none
def YH (CX : CXT) (P : Program) (w : World) (K : PySem.W.Frag) (mg : Str->Option Value) (base : Heap) (N : List Str) (qual : Str) (scope : Scope) (f : Addr) (cd : Value) (A : Around) (outer : List Env) (s : Shared) (H : Hp) (E : XK) : Cx where
 prog:=P
 w:=w
 K:=K
 mg:=mg
 base:=base
 A:=A.deeper (envOfC qual scope s.heap.objs.size f cd)
 N:=N
 s₀:=s
 H₀:=H
 env:=envOfC qual scope s.heap.objs.size f cd
 outer:=outer
 stack:=envOfC qual scope s.heap.objs.size f cd :: outer
 ex:=[]
 calm:=true
 fn:=fun _=>true
 pn:=[]
 xe:=fun e s'=>wpAny (model P w) (A.deeper (envOfC qual scope s.heap.objs.size f cd)) (leaving (envOfC qual scope s.heap.objs.size f cd) e) (fun _ s''=>CX outer H s E e s'') (fun e' s''=>CX outer H s E e' s'') s'
theorem Jz {sc : Scope} {n : Nat} {x : Str} (h : sc.names.lookup x = some .cell) : ∃ c,(cellsFrom n sc.names []).lookup x = some c:=by
 have q:=PySem.W.cellsFrom_some sc.names n [] (.inl h)
 exact Option.isSome_iff_exists.mp q
theorem Qn {CX : CXT} {P : Program} {w : World} {K : PySem.W.Frag} {mg : Str->Option Value} {base : Heap} {N ps : List Str} {qual : Str} {scope : Scope} {f : Addr} {cd : Value} {A : Around} {outer : List Env} {s s1 : Shared} {H : Hp} {E : XK} {us : List Value} {vs : List V}
  (S : zK N ps scope) (hd : A.handled = none) (e0 : Env0 P w K mg base A outer s H) (hl : vs.length = ps.length) (r : Vals vs us)
  (x : InCallC s s.heap.objs.size (bindL (envOfC qual scope s.heap.objs.size f cd).kindOf (ps.zip us) fun _=>none) (cellsFrom (s.heap.objs.size + 1) scope.names []) (bindC (envOfC qual scope s.heap.objs.size f cd).kindOf (ps.zip us) fun _=>none) s1) :
  Inv (YH CX P w K mg base N qual scope f cd A outer s H E) [] (start N vs) H s1:=by
 have hpl : ps.length≤N.length:=by have:=congrArg List.length S.pre; rw [List.length_take] at this; omega
 obtain ⟨h1,tk,rfl,hk⟩:=x.done
 have noA : ∀ b : Addr,b ∉ (YH CX P w K mg base N qual scope f cd A outer s H E).ex:=fun b z=>absurd (show b ∈ ([] : List Addr) from z) (by simp)
 refine ⟨⟨e0.mod,S.kind,rfl,rfl,Nat.le_refl _,fun y z c h1 h2=>?_,fun y hy=>?_,fun y c _ h=>?_,fun _=>hd,Around.frames_deeper e0.frames,.inr ⟨rfl,rfl⟩,fun b z=>absurd z (noA b),e0.bs,e0.bsz,fun b _ _=>noA b,fun b z=>absurd z (noA b),e0.funs,e0.frf⟩,
  rfl,e0.bare,Un.kept hk,⟨_,x.toInCall.ns,fun i y v h1 h2 h3=>?_⟩,fun y c h=>⟨_,x.cell y c h⟩,e0.hok.fresh (Nat.le_refl _),fun y c h=>?_,fun p hp=>absurd (show p ∈ ([] : List (Addr × Obj)) from hp) (by simp),e0.hok.kept hk,?_⟩
 ·exact name_of_addr x.apart (PySem.mem_of_lookup h1) (PySem.mem_of_lookup h2)
 ·have hy : scope.names.lookup y = some .cell∨scope.names.lookup y = some .free:=hy
  rcases hy with hy | hy
  ·exact Jz hy
  ·exact absurd rfl (S.nofree _ (PySem.mem_of_lookup hy))
 ·exact Nat.le_of_lt (x.above y c (PySem.mem_of_lookup h))
 ·have hi : i < vs.length:=by
   unfold start at h2
   by_cases hi : i < vs.length
   ·exact hi
   ·rw [List.getElem?_append_right (by simpa using hi)] at h2
    rw [List.getElem?_replicate] at h2
    split at h2 <;> cases h2
  have ha : vs[i]? = some v:=by
   unfold start at h2
   rw [List.getElem?_append_left (by simpa using hi),List.getElem?_map] at h2
   cases e : vs[i]? with
   | none=>rw [e] at h2; cases h2
   | some a=>rw [e] at h2; cases h2; rfl
  obtain ⟨u,hu,rv⟩:=r.get ha
  have hp : ps[i]? = some y:=by
   rw [← S.pre,List.getElem?_take_of_lt (by omega)]; exact h1
  have ndP : ps.Nodup:=by rw [← S.pre]; exact S.nd.sublist (List.take_sublist _ _)
  refine ⟨u,rv,?_⟩
  rcases S.par y (List.mem_of_getElem? hp) with k | k
  ·exact .inl ⟨k,UV ndP hp hu k⟩
  ·obtain ⟨c,e⟩:=Jz (n:=s.heap.objs.size + 1) k
   refine .inr ⟨.inl k,c,e,?_⟩
   have q:=x.cell y c e
   rw [U9 ndP hp hu (by show scope.names.lookup y ≠ _; rw [k]; decide)] at q
   exact q
 ·exact e0.hok.fresh (Nat.le_of_lt (x.above y c (PySem.mem_of_lookup h)))
 ·unfold start
  show _ = N.length
  rw [List.length_append,List.length_map,List.length_replicate]
  omega
theorem zcG {CX : CXT} {P : Program} {w : World} {K : PySem.W.Frag} {mg : Str->Option Value} {base : Heap} {k : Nat} {f : Addr} {name qual : Str} {params : Arguments} {body : List Stmt} {scope : Scope} {dV kV doc pm cdv ct oc : Value} {an od : Option Addr}
  {osl : Array (Option Value)} {N ps : List Str} {sp : Sp} (lk : K.lookup f = some ⟨oc,od,.func (PySem.W.fnOf name qual params body scope dV kV doc pm an cdv ct),osl⟩) (hcd : PySem.W.codeIn K cdv qual = true) (S : zK N ps scope)
  (len : ∀ vs H Q E,sp vs H Q E->vs.length = ps.length)
  (hbody : ∀ (A : Around) (outer : List Env) (s : Shared) (H : Hp) (vs : List V) (Q : VK) (E : XK),Room k (A.deeper (envOfC qual scope s.heap.objs.size f cdv))->sp vs H Q E ->
   ∃ t,PSs (YH CX P w K mg base N qual scope f cdv A outer s H E) body t∧t { nx:=fun _ H'=>Q .non H',rt:=Q } (start N vs) H) :
  FnOk P w K mg base CX (k + 1) f (PySem.W.fnOf name qual params body scope dV kV doc pm an cdv ct) ps sp:=by
 refine ⟨len,fun A outer s H args us vs Q E hr e0 hb r hsp=>?_⟩
 have hl:=len _ _ _ _ hsp
 have KX : K.In s.heap:=e0.mod.kin.keeps fun b o e=>(e0.bs b o e).1
 have lim : s.heap.NoLimit:=e0.mod.nolimit.keeps fun b o e=>(e0.bs b o e).1
 have hkind : ∀ y ∈ ps.zip us,scope.names.lookup y.1 = some .local∨(scope.names.lookup y.1 = some .cell∧((cellsFrom (s.heap.objs.size + 1) scope.names []).lookup y.1).isSome = true):=fun ⟨n,v⟩ hy=>by
  rcases S.par n (List.of_mem_zip hy).1 with q | q
  ·exact .inl q
  ·exact .inr ⟨q,PySem.W.cellsFrom_some _ _ _ (.inl q)⟩
 refine codeAny_call_function hr.depth (KX _ _ lk) rfl S.co S.gen rfl (PySem.W.codeRec_of KX hcd) (hb _ _ _ _ ?_)
 refine wpAny_newFunctionEnv_cells S.kind hkind fun env he s1 x=>?_
 subst he
 refine ⟨lim.keeps x.toInCall.keep,codeAny_func ?_⟩
 obtain ⟨t,ht,hq⟩:=hbody A outer s H vs Q E (hr.deeper _) hsp
 have I : Inv (YH CX P w K mg base N qual scope f cdv A outer s H E) [] (start N vs) H s1:=Qn S hr.hd e0 hl r x
 refine wpAny_mono (ht [] s1 (start N vs) H _ I hq) (fun fl s' hs=>?_) fun e s' hs=>hs
 have fin : ∀ {σ' : St} {H' : Hp} {v : V} {u : Value},Inv (YH CX P w K mg base N qual scope f cdv A outer s H E) [] σ' H' s'->RelV v u->Q v H'->CE outer P w H s Q u s' :=
  fun {σ' H' v u} J rv q=>⟨v,H',J.os,J.bare,J.base,J.hok,rv,q⟩
 cases fl with
 | ret u =>
  obtain ⟨v,σ',H',J,rv,q⟩:=hs
  exact fin J rv q
 | next =>
  obtain ⟨σ',H',J,q⟩:=hs
  exact fin (v:=V.non) (u:=Value.none) J rfl q
 | brk =>
  obtain ⟨_,_,_,q⟩:=hs
  exact False.elim q
 | cont =>
  obtain ⟨_,_,_,q⟩:=hs
  exact False.elim q
section
variable {X : Cx} {x : Str} {p pos : Pos} {e : Expr} {es : List Expr} {t : TA} {id T : String} {r : List V->Hp->VK->Prop}
def tCB (r : List V->Hp->VK->Prop) (t : TA) : TE:=fun σ H Q=>t σ H fun vs H1=>r vs H1 Q
theorem zF (hc : vm X (.builtin id) r) (hg : Gl X x) (hm : X.mg x = none) (hv : bootBuiltins x = some (.builtin id)) (ha : PA X (e :: es) t) (hn : x ≠ "__name__":=by decide) (hdb : (x == ("__debug__" : Str)) = false:=by decide)
  (he : starEach (e :: es) X.env = (false,eval e X.env) :: starEach es X.env:=by rfl) (hpl : (backTo pos (starEach es X.env)).any (·.1) = false:=by rfl) : PE X (.Call (.Name x p) (e :: es) [] pos) (tCB r t):=by
 intro pins s σ H Q I h
 refine wpAny_Call_Name_kw (jh I hg hm hv ?_ hn hdb)
 exact PyProof.Rows.callWith_builtin1 (thn (ha pos pins s σ H _ I h) fun us s1 ⟨vs,H1,I1,r1,q1⟩=>hc pins s1 σ H1 vs us Q I1 r1 q1) he hpl
theorem qR (hc : vm X (.type T) r) (hg : Gl X x) (hm : X.mg x = none) (hv : bootBuiltins x = some (.type T)) (ha : PA X (e :: es) t) (hn : x ≠ "__name__":=by decide) (hdb : (x == ("__debug__" : Str)) = false:=by decide)
  (he : starEach (e :: es) X.env = (false,eval e X.env) :: starEach es X.env:=by rfl) (hpl : (backTo pos (starEach es X.env)).any (·.1) = false:=by rfl) : PE X (.Call (.Name x p) (e :: es) [] pos) (tCB r t):=by
 intro pins s σ H Q I h
 refine wpAny_Call_Name_kw (jh I hg hm hv ?_ hn hdb)
 exact PyProof.Rows.callWith_type1 (thn (ha pos pins s σ H _ I h) fun us s1 ⟨vs,H1,I1,r1,q1⟩=>hc pins s1 σ H1 vs us Q I1 r1 q1) he hpl
end
end L2
namespace HT
open PySem PyProof.Rows
def lexLt : List Int->List Int->Bool
 | [],[]=>false
 | [],_ :: _=>true
 | _ :: _,[]=>false
 | x :: xs,y :: ys=>if x = y then lexLt xs ys else decide (x < y)
theorem vL (x y : Int) (xs ys : List Int) : lexLt (x :: xs) (y :: ys) = if x = y then lexLt xs ys else decide (x < y):=rfl
theorem YT : lexLt [] [] = false:=rfl
theorem Vp (y : Int) (ys : List Int) : lexLt [] (y :: ys) = true:=rfl
theorem uG (x : Int) (xs : List Int) : lexLt (x :: xs) [] = false:=rfl
theorem zcW (A : Around) (s : Shared) (a : Int) (t : Tok) (c : Int) (u : Tok) : ∃ e,SeqAt.EqAt A s (.int a t) (.int c u) e∧(e = true ↔ a = c) :=
 ⟨(a == c),SeqAt.EqAt.int_int a t c u,by simp⟩
theorem zab (A : Around) (s : Shared) (a : Int) (t : Tok) (c : Int) (u : Tok) (prog : Program) (w : World) (E : Value->Shared->Prop) (Q : Value->Shared->Prop) (h : Q (.bool (decide (a < c))) s) :
  wpAny (model prog w) A (richCompare .Lt (.int a t) (.int c u)) Q E s :=
 (PyProof.Rows.lt_int h : wpAny (model prog w) A (compareOp .Lt (.int a t) (.int c u)) Q E s)
section
open PySem.SeqAt
open PySem.AutoSeq1 (wpAny_loadPart')
open PySem.MeetsSeq PySem.MeetsSeq2 PySem.MeetsSeq3
end
section
variable {prog : Program} {w : World} {A : Around} {E : Value->Shared->Prop} {s : Shared}
def sIx (n d : Nat) : Option Int->Nat
 | none=>d
 | some v=>if v < 0 then (v + (n : Int)).toNat else min v.toNat n
theorem VJ (n d : Nat) : sIx n d none = d:=rfl
theorem XC (n d k : Nat) : sIx n d (some (k : Int)) = min k n:=by
 show (if (k : Int) < 0 then ((k : Int) + (n : Int)).toNat else min (k : Int).toNat n) = min k n
 rw [if_neg (by omega),Int.toNat_natCast]
end
end HT
namespace L2
open PySem PySem.Spec PyProof.Rows
abbrev TO:=St->Hp->(Option Int->Hp->Prop)->Prop
def PO (X : Cx) (e : Option Expr) (t : TO) : Prop :=
 ∀ (pins : List (Addr × Obj)) (s : Shared) (σ : St) (H : Hp) (Q : Option Int->Hp->Prop),Inv X pins σ H s->t σ H Q ->
  wpAny (model X.prog X.w) X.A (evalPart e X.env) (fun u s'=>∃ o H',Inv X pins σ H' s'∧IsPart u o∧Q o H') X.xe s
def Q8 : TO:=fun _ H Q=>Q none H
def zdt (t : TE) : TO:=fun σ H Q=>t σ H fun x H1=>∃ i,x = .int i∧Q (some i) H1
theorem intsAre_of {ns : List Int} : ∀ {us : List Value},Vals (ns.map V.int) us->IntsAre us ns:=by
 induction ns with
 | nil=>intro us r; rw [List.map_nil] at r; cases r; exact .nil
 | cons n ns ih =>
  intro us r
  rw [List.map_cons] at r
  cases r with
  | cons r1 r2 =>
   obtain ⟨t,e⟩:=r1
   subst e
   exact .cons n t (ih r2)
section
variable {X : Cx} {e : Expr} {te : TE} {lo hi : Option Expr} {tl th : TO} {pos p2 : Pos}
theorem xO : PO X none Q8:=by
 intro pins s σ H Q I h
 rw [evalPart_none]
 exact wpAny_pure ⟨none,H,I,.none,h⟩
theorem xf (h : PE X e te) : PO X (some e) (zdt te):=by
 intro pins s σ H Q I hw
 rw [evalPart_some]
 refine thn (h pins s σ H _ I hw) fun u s1 ⟨x,H1,I1,r1,q1⟩=>?_
 obtain ⟨i,rfl,q⟩:=q1
 obtain ⟨t,rfl⟩:=r1
 exact ⟨some i,H1,I1,.int i t,q⟩
def SlR (X : Cx) (r : V->Option Int->Option Int->Hp->VK->Prop) : Prop :=
 ∀ (pins : List (Addr × Obj)) (s : Shared) (σ : St) (H : Hp) (x : V) (v vl vu : Value) (lo hi : Option Int) (sl : Addr) (Q : VK),Inv X pins σ H s->RelV x v->s.heap.IsSliceOf sl vl vu .none->IsPart vl lo->IsPart vu hi->r x lo hi H Q ->
  ∃ T id,typeLookup (.type T) "__getitem__" = pure (some (.builtin id))∧s.TypeIs v T∧wpAny (model X.prog X.w) X.A (getItem v (.ref sl)) (EP X pins σ Q) X.xe s
def tSl (r : V->Option Int->Option Int->Hp->VK->Prop) (te : TE) (tl th : TO) : TE:=fun σ H Q=>te σ H fun x H1=>tl σ H1 fun l H2=>th σ H2 fun u H3=>r x l u H3 Q
theorem yG {r : V->Option Int->Option Int->Hp->VK->Prop} (hr : SlR X r) (he : PE X e te) (hl : PO X lo tl) (hu : PO X hi th) : PE X (.Subscript e (.Slice lo hi none p2) pos) (tSl r te tl th):=by
 intro pins s σ H Q I h
 refine Subscript_ (thn (he pins s σ H _ I h) fun v s1 ⟨x,H1,I1,r1,q1⟩=>?_)
 refine wpAny_Slice (thn (hl pins s1 σ H1 _ I1 q1) fun vl s2 ⟨l,H2,I2,pl,q2⟩=>thn (hu pins s2 σ H2 _ I2 q2) fun vu s3 ⟨u,H3,I3,pu,q3⟩=>?_)
 rw [evalPart_none]
 refine wpAny_pure ?_
 have I4 : Inv X pins σ H3 { s3 with heap:=s3.heap.push { cls:=.type "slice",data:=.fields #[vl,vu,.none] } }:=I3.kept (t':=s3.toks) fun b ob q=>Heap.get?_push_of_some _ q
 obtain ⟨T,id,hT,ht,hg⟩:=hr pins { s3 with heap:=s3.heap.push { cls:=.type "slice",data:=.fields #[vl,vu,.none] } } σ H3 x v vl vu l u s3.heap.objs.size Q I4 r1 (Heap.IsSliceOf.new ..) pl pu q3
 show wpAny (model X.prog X.w) X.A (subscriptTail e (.Slice lo hi none p2) v (.ref s3.heap.objs.size)) (EP X pins σ Q) X.xe { s3 with heap:=s3.heap.push { cls:=.type "slice",data:=.fields #[vl,vu,.none] } }
 exact tail_any (ops:=[.ref s3.heap.objs.size,v]) ht hT hg (by with_unfolding_all rfl)
def qw (xs : List V) (lo hi : Option Int) : List V:=(xs.drop (HT.sIx xs.length 0 lo)).take (HT.sIx xs.length xs.length hi - HT.sIx xs.length 0 lo)
theorem JL (xs : List V) (lo hi : Option Int) : (qw xs lo hi).length≤xs.length:=by
 unfold qw
 rw [List.length_take,List.length_drop]
 omega
end
def ixN (n : Nat) (i : Int) : Option Nat:=if 0≤i then (if i < n then some i.toNat else none) else if -(n : Int)≤i then some (i + n).toNat else none
def atI {α : Type} (xs : List α) (i : Int) : Option α:=(ixN xs.length i).bind fun j=>xs[j]?
theorem zbB {n : Nat} {i : Int} {j : Nat} (h : ixN n i = some j) : seqIndex? i n = some j∧j < n∧-(n : Int)≤i∧i < n:=by
 unfold ixN at h
 by_cases h0 : 0≤i
 ·rw [if_pos h0] at h
  by_cases h1 : i < n
  ·rw [if_pos h1] at h
   have e : i.toNat = j:=Option.some.inj h
   exact ⟨by rw [seqIndex_of h0 h1,e],by omega,by omega,h1⟩
  ·rw [if_neg h1] at h; cases h
 ·rw [if_neg h0] at h
  by_cases h1 : -(n : Int)≤i
  ·rw [if_pos h1] at h
   have e : (i + n).toNat = j:=Option.some.inj h
   exact ⟨by rw [seqIndex_neg (by omega) h1,e],by omega,h1,by omega⟩
  ·rw [if_neg h1] at h; cases h
theorem zbn {α : Type} {xs : List α} {i : Int} {v : α} (h : atI xs i = some v) : ∃ j,seqIndex? i xs.length = some j∧xs[j]? = some v∧j < xs.length∧-(xs.length : Int)≤i∧i < xs.length:=by
 unfold atI at h
 cases e : ixN xs.length i with
 | none=>rw [e] at h; cases h
 | some j =>
  rw [e] at h
  obtain ⟨h1,h2,h3,h4⟩:=zbB e
  exact ⟨j,h1,h,h2,h3,h4⟩
theorem yx {α : Type} {xs : List α} {j : Nat} {v : α} (h : xs[j]? = some v) : atI xs (j : Int) = some v:=by
 have hj : j < xs.length:=(List.getElem?_eq_some_iff.mp h).1
 have e : ixN xs.length (j : Int) = some j:=by
  unfold ixN
  rw [if_pos (by omega),if_pos (by omega)]; simp
 unfold atI; rw [e]; exact h
theorem zdx {α : Type} (xs : List α) (v : α) : atI (xs ++ [v]) (-1) = some v:=by
 have hl : (xs ++ [v]).length = xs.length + 1:=by simp
 have e : ixN (xs ++ [v]).length (-1) = some xs.length:=by
  unfold ixN
  rw [hl,if_neg (by decide),if_pos (by omega)]
  congr 1
  omega
 unfold atI
 rw [e]
 show (xs ++ [v])[xs.length]? = some v
 simp
def zbG (b : Expr) : Prop:=∀ o i,subscripted b false o i = operate [o,i] (getItem o i)
def IxR (X : Cx) (r : R2) : Prop :=
 ∀ (value slice : Expr) (pins : List (Addr × Obj)) (s : Shared) (σ : St) (H : Hp) (x y : V) (v u : Value) (Q : VK),Inv X pins σ H s->RelV x v->RelV y u->r x y H Q ->
  subscripted slice false v u = operate [v,u] (getItem v u)->wpAny (model X.prog X.w) X.A (subscriptTail value slice v u) (EP X pins σ Q) X.xe s
def MtR (X : Cx) (id : String) (r : V->List V->Hp->VK->Prop) : Prop :=
 ∀ (pins : List (Addr × Obj)) (s : Shared) (σ : St) (H : Hp) (x : V) (xs : List V) (v : Value) (us : List Value) (Q : VK),Inv X pins σ H s->RelV x v->Vals xs us->r x xs H Q ->
  wpAny (model X.prog X.w) X.A (call (.builtin id) (v :: us)) (EP X pins σ Q) X.xe s
section
variable {X : Cx} {a b : Expr} {ta tb : TE} {pos : Pos}
theorem zY {r : R2} (hr : IxR X r) (ha : PE X a ta) (hb : PE X b tb) (hs : zbG b) : PE X (.Subscript a b pos) (tOp r ta tb):=by
 intro pins s σ H Q I h
 exact Subscript_ (zfd ha hb I h fun v u s2 x y H2 I2 rx ry q=>hr a b pins s2 σ H2 x y v u Q I2 rx ry q (hs _ _))
def zdS (K : PySem.W.Frag) : R2:=fun x y H Q=>∃ p xs i v,x = .ref p∧y = .int i∧SqL K H p xs∧atI xs i = some v∧Q v H
def zfD (K : PySem.W.Frag) : R2:=fun x y H Q=>∃ p xs i v,x = .ref p∧y = .int i∧SqT K H p xs∧atI xs i = some v∧Q v H
theorem zdR : IxR X (zdS X.K):=by
 intro value slice pins s σ H x y v u Q I rx ry h hs
 obtain ⟨p,xs,i,z,rfl,rfl,hq,he,q⟩:=h
 cases rx
 obtain ⟨t,rfl⟩:=ry
 obtain ⟨its,r,pl,hz⟩:=I.list hq
 obtain ⟨j,h1,h2,h3,h4,h5⟩:=zbn he
 obtain ⟨w,ew,rw'⟩:=r.get h2
 have hl:=r.length
 have hn:=Qu
 have fin : EP X pins σ Q w s:=⟨z,H,I,rw',q⟩
 by_cases h0 : 0≤i
 ·have hj : i.toNat = j:=by
   rw [seqIndex_of h0 h5] at h1
   exact Option.some.inj h1
  exact item_listR pl.isList h0 (by omega) (by rw [hj]; simpa using ew) fin hs
 ·have hj : (i + (its.toArray.size : Int)).toNat = j:=by
   rw [seqIndex_neg (by omega) h4] at h1
   rw [List.size_toArray,← hl]
   exact Option.some.inj h1
  exact subscriptTail_builtinR (x:=w) pl.isList.typeIs slot_list_getitem.lookup
   (wpAny_getItem_list_neg (Q:=fun r s'=>r = w∧EP X pins σ Q r s') pl.isList (by omega) (by rw [List.size_toArray] <;> omega) (by omega) (by rw [hj]; simpa using ew) ⟨rfl,fin⟩) hs
theorem zeP : IxR X (zfD X.K):=by
 intro value slice pins s σ H x y v u Q I rx ry h hs
 obtain ⟨p,xs,i,z,rfl,rfl,hq,he,q⟩:=h
 cases rx
 obtain ⟨t,rfl⟩:=ry
 obtain ⟨its,r,pl,hz⟩:=I.tuple hq
 obtain ⟨j,h1,h2,h3,h4,h5⟩:=zbn he
 obtain ⟨w,ew,rw'⟩:=r.get h2
 have hl:=r.length
 have hn:=Qu
 have fin : EP X pins σ Q w s:=⟨z,H,I,rw',q⟩
 exact subscriptTail_builtinR (x:=w) pl.typeIs slot_tuple_getitem.lookup
  (getItem_tuple (j:=j) (Q:=fun r s'=>r = w∧EP X pins σ Q r s') pl (by omega) (by omega) (by rw [List.size_toArray,← hl]; exact h1) (by simpa using ew) ⟨rfl,fin⟩) hs
theorem za1 (its : List Value) (n j : Nat) (u : Value) : Obj.mapSeq (·.setIfInBounds j u) { cls:=.type "list",data:=.seq its.toArray n } = { cls:=.type "list",data:=.seq (its.set j u).toArray n }:=by
 simp [Obj.mapSeq]
theorem Inv.lst {pins : List (Addr × Obj)} {σ : St} {H : Hp} {s : Shared} {p : Addr} {xs : List V} (I : Inv X pins σ H s) (h : H p = some (.lst xs)) :
  ∃ (its : List Value) (n : Nat),Vals xs its∧s.heap.get? p = some { cls:=.type "list",data:=.seq its.toArray n }∧xs.length≤sizeLine:=by
 obtain ⟨z,its,n,r,e⟩:=I.hok p _ h
 exact ⟨its,n,r,e,z⟩
theorem Inv.lstUpd {pins : List (Addr × Obj)} {σ : St} {H : Hp} {s : Shared} {p : Addr} {xs ys : List V} {its its' : List Value} {n n' : Nat} {f : Obj->Obj} (I : Inv X pins σ H s) (h : H p = some (.lst xs))
  (ho : s.heap.get? p = some { cls:=.type "list",data:=.seq its.toArray n }) (hf : f { cls:=.type "list",data:=.seq its.toArray n } = { cls:=.type "list",data:=.seq its'.toArray n' }) (r : Vals ys its') (hz : ys.length≤sizeLine) (t : Nat) :
  Inv X pins σ (upd H p (.lst ys)) { s with heap:=s.heap.update p f,toks:=t }:=by
 have e : (s.heap.update p f).get? p = some { cls:=.type "list",data:=.seq its'.toArray n' }:=by
  rw [Heap.get?_update_self f ho (by rw [hf] <;> rfl),hf]
 refine I.write (x:=p) (e:=p) (by rw [h]; trivial) (.inl rfl) (fun b u hb q=>(Heap.get?_update_other _ _ (Ne.symm hb)).trans q) ⟨_,e⟩ ?_
 exact ⟨hz,its',n',r,e⟩
def zfL : V->V->V->Hp->(Hp->Prop)->Prop:=fun o i v H Q=>∃ p xs k j,o = .ref p∧i = .int k∧H p = some (.lst xs)∧ixN xs.length k = some j∧Q (upd H p (.lst (xs.set j v)))
theorem set_list : zfO X zfL:=by
 intro pins s σ H o i v ov iv u Q I ro ri rv h
 obtain ⟨p,xs,k,j,rfl,rfl,hp,hj,q⟩:=h
 cases ro
 obtain ⟨t,rfl⟩:=ri
 obtain ⟨its,n,r,ho,hz⟩:=I.lst hp
 obtain ⟨h1,h2,h3,h4⟩:=zbB hj
 have hl:=r.length
 have hn:=Qu
 have I' : Inv X pins σ (upd H p (.lst (xs.set j v))) { s with heap:=s.heap.update p (Obj.mapSeq (·.setIfInBounds j u)) } :=
  I.lstUpd hp ho (za1 its n j u) (r.set rv j) (by rw [List.length_set]; exact hz) s.toks
 by_cases h0 : 0≤k
 ·have hk : k.toNat = j:=by
   rw [seqIndex_of h0 h4] at h1
   exact Option.some.inj h1
  exact PySem.W.ki_setAt ho h0 (by omega) (by rw [List.size_toArray,← hl]; exact h4) (by rw [hk]; exact ⟨_,I',q⟩)
 ·have hk : (k + (its.toArray.size : Int)).toNat = j:=by
   rw [seqIndex_neg (by omega) h3] at h1
   rw [List.size_toArray,← hl]
   exact Option.some.inj h1
  exact PySem.W.ki_setBack ho (by omega) (by rw [List.size_toArray,← hl]; exact h3) (by omega) (by rw [hk]; exact ⟨_,I',q⟩)
theorem QH (lo hi : Option Int) (n : Nat) : (sliceBounds lo hi none n).1 = ((HT.sIx n 0 lo : Nat) : Int)∧(sliceBounds lo hi none n).2.1 = ((HT.sIx n n hi : Nat) : Int)∧(sliceBounds lo hi none n).2.2 = 1:=by
 refine ⟨?_,?_,rfl⟩
 ·cases lo with
  | none=>simp [sliceBounds,HT.sIx]
  | some i =>
   simp only [sliceBounds,HT.sIx,Option.getD_none,show (1 : Int) > 0 by decide,if_true]
   by_cases h : i < 0
   ·simp only [h,if_true] <;> omega
   ·simp only [h,if_false] <;> omega
 ·cases hi with
  | none=>simp [sliceBounds,HT.sIx]
  | some i =>
   simp only [sliceBounds,HT.sIx,Option.getD_none,show (1 : Int) > 0 by decide,if_true]
   by_cases h : i < 0
   ·simp only [h,if_true] <;> omega
   ·simp only [h,if_false] <;> omega
theorem Ur (its : List Value) (lo hi : Option Int) : slicePick its.toArray lo hi none = ((its.drop (HT.sIx its.length 0 lo)).take (HT.sIx its.length its.length hi - HT.sIx its.length 0 lo)).toArray:=by
 obtain ⟨h1,h2,h3⟩:=QH lo hi its.toArray.size
 unfold slicePick
 rw [h1,h2,h3]
 simp only [sliceRange_one,pick_run,List.size_toArray] <;> rfl
def zd9 (K : PySem.W.Frag) : V->Option Int->Option Int->Hp->VK->Prop:=fun x lo hi H Q=>∃ a xs,x = .ref a∧SqL K H a xs∧∀ p,H p = none->Q (.ref p) (upd H p (.lst (qw xs lo hi)))
theorem zdQ : SlR X (zd9 X.K):=by
 intro pins s σ H x v vl vu lo hi sl Q I rx hs pl pu h
 obtain ⟨a,xs,rfl,hx,q⟩:=h
 cases rx
 obtain ⟨its,r,ht,hz⟩:=I.list hx
 have hlen:=r.length
 refine ⟨"list",_,slot_list_getitem.lookup,ht.isList.typeIs,?_⟩
 refine wpAny_getItem_list_slice ht.isList hs pl pu .none (by simp) ?_ (by rw [List.size_toArray] <;> omega)
 rw [Ur,← hlen]
 refine ⟨.ref s.heap.objs.size,_,I.laid (t':=s.toks) (o:=.lst (qw xs lo hi)) (fun b ob q=>Heap.get?_push_of_some _ q) (Nat.le_refl _) ?_,rfl,q _ (I.hok.fresh (Nat.le_refl _))⟩
 exact ⟨Nat.le_trans (JL xs lo hi) hz,_,0,(r.drop (HT.sIx xs.length 0 lo)).take (HT.sIx xs.length xs.length hi - HT.sIx xs.length 0 lo),Heap.get?_push_size _ rfl⟩
theorem Jy : vm X (.builtin "len") (fun xs H Q=>∃ p ys,xs = [.ref p]∧(SqL X.K H p ys∨SqT X.K H p ys)∧Q (.int ys.length) H):=by
 intro pins s σ H xs us Q I r h
 obtain ⟨p,ys,rfl,hq,q⟩:=h
 obtain ⟨u,rfl,rx⟩:=vals1 r
 cases rx
 have hn:=Qu
 rcases hq with hq | hq
 ·obtain ⟨its,r',pl,hz⟩:=I.list hq
  have hlen:=r'.length
  exact Calls.call_len_list pl.isList (by simp only [List.size_toArray] <;> omega) ⟨.int ys.length,H,I.tok _,⟨s.toks + 1,by rw [List.size_toArray,hlen]⟩,q⟩
 ·obtain ⟨its,r',pl,hz⟩:=I.tuple hq
  have hlen:=r'.length
  exact len_tuple pl (by simp only [List.size_toArray] <;> omega) ⟨.int ys.length,H,I.tok _,⟨s.toks + 1,by rw [List.size_toArray,hlen]⟩,q⟩
theorem Q5 : vm X (.type "list") (fun xs H Q=>∃ p ys,xs = [.ref p]∧(SqL X.K H p ys∨SqT X.K H p ys)∧∀ l,H l = none->Q (.ref l) (upd H l (.lst ys))):=by
 intro pins s σ H xs us Q I r h
 obtain ⟨p,ys,rfl,hq,q⟩:=h
 obtain ⟨u,rfl,rx⟩:=vals1 r
 cases rx
 have fin : ∀ (its : List Value),Vals ys its->ys.length≤sizeLine->∀ (h' : Heap) (c' : Nat),(∀ b o',s.heap.get? b = some o'->h'.get? b = some o') ->
   h'.get? s.heap.objs.size = some { cls:=.type "list",dict:=none,data:=.seq its.toArray c',slots:=#[] }->EP X pins σ Q (.ref s.heap.objs.size) { s with heap:=h' }:=fun its r' hz h' c' kp e =>
  ⟨.ref s.heap.objs.size,_,I.laid (t':=s.toks) kp (Nat.le_refl _) (show ObjOk X.prog X.w _ h' _ (.lst ys) from ⟨hz,its,c',r',e⟩),rfl,q _ (I.hok.fresh (Nat.le_refl _))⟩
 rcases hq with hq | hq
 ·obtain ⟨its,r',pl,hz⟩:=I.list hq
  have hlen:=r'.length
  obtain ⟨o,ho,hc,n,hd⟩:=pl.isList
  exact call_list_seq p (.inl rfl) ho hc hd (fun h' c' kp e=>fin its r' hz h' c' kp e) (by simp only [List.size_toArray] <;> omega)
 ·obtain ⟨its,r',pl,hz⟩:=I.tuple hq
  have hlen:=r'.length
  obtain ⟨o,ho,hc,n,hd⟩:=pl
  exact call_list_seq p (.inr rfl) ho hc hd (fun h' c' kp e=>fin its r' hz h' c' kp e) (by simp only [List.size_toArray] <;> omega)
theorem jZ : vm X (.type "tuple") (fun xs H Q=>∃ p ys,xs = [.ref p]∧((SqL X.K H p ys∧∀ l,H l = none->Q (.ref l) (upd H l (.tup ys)))∨(SqT X.K H p ys∧Q (.ref p) H))):=by
 intro pins s σ H xs us Q I r h
 obtain ⟨p,ys,rfl,h⟩:=h
 obtain ⟨u,rfl,rx⟩:=vals1 r
 cases rx
 rcases h with ⟨hq,q⟩ | ⟨hq,q⟩
 ·obtain ⟨its,r',pl,hz⟩:=I.list hq
  have hlen:=r'.length
  refine call_tuple_list pl.isList (fun h' kp=>?_) (by simp only [List.size_toArray] <;> omega)
  have I1 : Inv X pins σ H { s with heap:=h' }:=I.kept (t':=s.toks) kp
  have I2 : Inv X pins σ (upd H h'.objs.size (.tup ys)) { s with heap:=h'.push { cls:=.type "tuple",data:=.seq its.toArray } } :=
   I1.laid (t':=s.toks) (fun b o e=>Heap.get?_push_of_some _ e) (Nat.le_refl _) (show ObjOk X.prog X.w _ _ _ (.tup ys) from ⟨hz,its,r',IsTup.new _ _⟩)
  exact ⟨.ref h'.objs.size,_,I2,rfl,q _ (I1.hok.fresh (Nat.le_refl _))⟩
 ·obtain ⟨its,r',pl,hz⟩:=I.tuple hq
  exact call_tuple_same pl ⟨.ref p,H,I,rfl,q⟩
def tyV (K : PySem.W.Frag) (T : String) (x : V) (H : Hp) : Prop:=match x with
 | .str _=>T = "str"
 | .int _=>T = "int"
 | .ref p=>(T = "list"∧∃ xs,SqL K H p xs)∨(T = "tuple"∧∃ o,K.lookup p = some o∧o.cls = .type "tuple"∧o.dict = none) ∨
   (T = "dict"∧((∃ kvs,H p = some (.dK kvs))∨∃ kvs,H p = some (.dT kvs)))∨(T = "set"∧∃ S n,H p = some (.set S n))
 | _=>False
theorem ze9 {pins : List (Addr × Obj)} {σ : St} {H : Hp} {s : Shared} {T : String} {x : V} {v : Value} (I : Inv X pins σ H s) (r : RelV x v) (ty : tyV X.K T x H) :
  s.TypeIs v T∧∀ a,v = .ref a->∃ ob,s.heap.get? a = some ob∧ob.dict = none:=by
 cases x with
 | str z =>
  obtain ⟨t,rfl⟩:=r
  cases (show T = "str" from ty)
  exact ⟨typeIs_str s z t,fun _ e=>nomatch e⟩
 | int i =>
  obtain ⟨t,rfl⟩:=r
  cases (show T = "int" from ty)
  exact ⟨typeIs_int s i t,fun _ e=>nomatch e⟩
 | ref p =>
  cases r
  rcases ty with ⟨rfl,xs,hq⟩ | ⟨rfl,o,hk,hc,hd⟩ | ⟨rfl,hk⟩ | ⟨rfl,S,n,hk⟩
  ·obtain ⟨its,_,pl,_⟩:=I.list hq
   refine ⟨pl.isList.typeIs,fun a e=>?_⟩
   cases e
   obtain ⟨o,n,e,c,hd,_⟩:=pl
   exact ⟨o,e,hd⟩
  ·refine ⟨⟨o,I.kIn p o hk,hc⟩,fun a e=>?_⟩
   cases e
   exact ⟨o,I.kIn _ o hk,hd⟩
  ·have z : ∃ o,s.heap.get? p = some o∧o.ExactDict:=by
    rcases hk with ⟨kvs,hk⟩ | ⟨kvs,hk⟩
    ·obtain ⟨_,_,_,_,o,_,_,e,ex,_⟩:=I.hok p _ hk
     exact ⟨o,e,ex⟩
    ·obtain ⟨_,_,_,_,o,_,_,e,ex,_⟩:=I.hok p _ hk
     exact ⟨o,e,ex⟩
   obtain ⟨o,e,ex⟩:=z
   refine ⟨⟨o,e,ex.1⟩,fun a e2=>?_⟩
   cases e2
   exact ⟨o,e,ex.2.1⟩
  ·obtain ⟨o,_,_,_,e,ex,_⟩:=I.hok p _ hk
   refine ⟨⟨o,e,ex.1⟩,fun a e2=>?_⟩
   cases e2
   exact ⟨o,e,ex.2.1⟩
 | _=>exact False.elim ty
def tBM (K : PySem.W.Frag) (T : String) (r : V->List V->Hp->VK->Prop) (to : TE) (t : TA) : TE:=fun σ H Q=>to σ H fun x H1=>tyV K T x H1∧t σ H1 fun xs H2=>r x xs H2 Q
variable {o e : Expr} {es : List Expr} {to : TE} {t : TA} {name : Str} {apos cpos : Pos} {T id : String} {r : V->List V->Hp->VK->Prop}
theorem Z6 (pa : PlainAttrs T) (slot : Slot T name id) (hty : typeOf (.builtin id) = pure (.type "method_descriptor")) (hm : MtR X id r) (ho : PE X o to) (ha : PA X (e :: es) t)
  (hbase : attributeBase o name X.env (eval o X.env) = eval o X.env:=by rfl)
  (hfew : ((backTo cpos (starEach (e :: es) X.env)).all (fun x=>!x.1) && (backToKw cpos (keywordEach [] X.env)).all (fun x=>x.1.isSome)
   && decide ((e :: es).length + ([] : List Keyword).length + (if ([] : List Keyword).isEmpty then 0 else 1) < 30)) = true:=by rfl)
  (hline : (apos.endLine == cpos.line) = true:=by rfl) (hs : starEach (e :: es) X.env = (false,eval e X.env) :: starEach es X.env:=by rfl) (hplain : (backTo cpos (starEach es X.env)).any (·.1) = false:=by rfl) :
  PE X (.Call (.Attribute o name apos) (e :: es) [] cpos) (tBM X.K T r to t):=by
 intro pins s σ H Q I h
 refine wpAny_Call_method_late hbase hfew hline rfl (thn (ho pins s σ H _ I h) fun v s1 ⟨x,H1,I1,r1,ty,q1⟩=>?_)
 obtain ⟨h1,h2⟩:=ze9 I1 r1 ty
 refine ⟨T,id,pa,slot,hty,h1,h2,?_⟩
 have hA:=ha cpos pins s1 σ H1 _ I1 q1
 rw [hs] at hA ⊢
 refine Calls.callWith_builtin (by show (false || (backTo cpos (starEach es X.env)).any (·.1)) = false; rw [hplain] <;> rfl) (Calls.evalArgs_plain ?_)
 exact thn hA fun us s2 ⟨vs,H2,I2,r2,q2⟩=>hm pins s2 σ H2 x vs v us Q I2 r1 r2 q2
end
def MtM (X : Cx) (id : String) (r : V->List V->Hp->VK->Prop) : Prop :=
 ∀ (pins : List (Addr × Obj)) (s : Shared) (σ : St) (H : Hp) (x : V) (xs : List V) (v : Value) (us : List Value) (Q : VK),Inv X pins σ H s->RelV x v->Vals xs us->r x xs H Q ->
  wpAny (model X.prog X.w) X.A (call (.builtin id) (v :: us)) (EP X pins σ Q) X.xe s
theorem Vals.one : ∀ {x : V} {us : List Value},Vals [x] us->∃ u,us = [u]∧RelV x u
 | _,_,.cons r .nil=>⟨_,rfl,r⟩
theorem Vals.two : ∀ {x y : V} {us : List Value},Vals [x,y] us->∃ u v,us = [u,v]∧RelV x u∧RelV y v
 | _,_,_,.cons r (.cons q .nil)=>⟨_,_,rfl,r,q⟩
theorem Vals.zero : ∀ {us : List Value},Vals [] us->us = []
 | _,.nil=>rfl
theorem Vals.reverse {xs : List V} {us : List Value} (h : Vals xs us) : Vals xs.reverse us.reverse:=by
 induction h with
 | nil=>exact .nil
 | cons r t ih=>rw [List.reverse_cons,List.reverse_cons]; exact Vals.append ih (.cons r .nil)
theorem Vals.rep {xs : List V} {us : List Value} (h : Vals xs us) : ∀ k : Nat,Vals (List.replicate k xs).flatten (List.replicate k us).flatten
 | 0=>.nil
 | k + 1=>by
  rw [List.replicate_succ,List.replicate_succ,List.flatten_cons,List.flatten_cons]
  exact Vals.append h (Vals.rep h k)
theorem foldl_rep (its : List Value) : ∀ (k : Nat) (acc : List Value),
  List.foldl (fun x1 x2=>x1 ++ x2) acc.toArray (List.replicate k its.toArray) = (acc ++ (List.replicate k its).flatten).toArray
 | 0,acc=>by simp
 | k + 1,acc=>by
  have e : acc.toArray ++ its.toArray = (acc ++ its).toArray:=by simp
  have e2 : (acc ++ its) ++ (List.replicate k its).flatten = acc ++ (List.replicate (k + 1) its).flatten:=by
   rw [List.replicate_succ,List.flatten_cons,List.append_assoc]
  rw [← e2,← foldl_rep its k (acc ++ its),← e,List.replicate_succ,List.foldl_cons]
section
variable {X : Cx} {pins : List (Addr × Obj)} {σ : St} {H : Hp} {s : Shared} {l b : Addr} {xs ys zs : List V}
theorem Inv.lset {its its' : List Value} {n : Nat} {f : Array Value->Array Value} {t' : Nat} (I : Inv X pins σ H s) (hH : H l = some (.lst xs))
  (e : s.heap.get? l = some { cls:=.type "list",data:=.seq its.toArray n }) (hf : f its.toArray = its'.toArray) (hv : Vals ys its') (hz : ys.length≤sizeLine) :
  Inv X pins σ (upd H l (.lst ys)) { s with heap:=s.heap.update l (Obj.mapSeq f),toks:=t' }:=by
 have q:=PySem.IsL.update e f
 rw [hf] at q
 refine I.write (x:=l) (e:=l) (by rw [hH]; exact trivial) (.inl rfl) (fun b' u hb hu=>(Heap.get?_update_other s.heap (Obj.mapSeq f) (Ne.symm hb)).trans hu) ⟨_,q⟩ ?_
 exact ⟨hz,its',_,hv,q⟩
theorem Inv.lnew {its : List Value} {t' : Nat} (I : Inv X pins σ H s) (hv : Vals ys its) (hz : ys.length≤sizeLine) :
  Inv X pins σ (upd H s.heap.objs.size (.lst ys)) { s with heap:=s.heap.push { cls:=.type "list",data:=.seq its.toArray },toks:=t' } :=
 I.laid (fun _ _ q=>Heap.get?_push_of_some _ q) (Nat.le_refl _) ⟨hz,its,0,hv,Heap.get?_push_size _ rfl⟩
theorem Inv.fresh (I : Inv X pins σ H s) : H s.heap.objs.size = none:=I.hok.fresh (Nat.le_refl _)
theorem Inv.lstM (I : Inv X pins σ H s) (hH : H l = some (.lst xs)) : xs.length≤sizeLine∧∃ (its : List Value) (n : Nat),Vals xs its∧xs.length = its.length∧s.heap.get? l = some { cls:=.type "list",data:=.seq its.toArray n }:=by
 obtain ⟨z,its,n,r,e⟩:=I.hok l _ hH
 exact ⟨z,its,n,r,r.length,e⟩
theorem zcL {n : Nat} (h : n≤sizeLine) : Builtin.List.listTooLong n = false:=by
 unfold Builtin.List.listTooLong
 exact decide_eq_false (by omega)
end
section
variable {X : Cx}
def zbw : V->List V->Hp->VK->Prop:=fun x vs H Q=>∃ l xs y,x = .ref l∧vs = [y]∧H l = some (.lst xs)∧xs.length < sizeLine∧Q .non (upd H l (.lst (xs ++ [y])))
theorem xR : MtM X "list.append" zbw:=by
 intro pins s σ H x vs v us Q I rx rv h
 obtain ⟨l,xs,y,rfl,rfl,hH,hz,q⟩:=h
 cases rx
 obtain ⟨u,rfl,ru⟩:=rv.one
 obtain ⟨z,its,n,r,hl,e⟩:=I.lstM hH
 refine call_meets F.slot_list_append ⟨_,e,rfl⟩ F.entry_list_append (F.args_list_append_2 _ _) (PySem.list_append l its.toArray n u (by rw [List.size_toArray]; omega)) ⟨e,?_⟩
 refine ⟨.non,_,I.lset (its':=its ++ [u]) hH e (by simp) (r.append (.cons ru .nil)) ?_,rfl,q⟩
 rw [List.length_append,List.length_singleton]
 omega
def QT : R2:=fun x y H Q=>∃ l b xs zs,x = .ref l∧y = .ref b∧H l = some (.lst xs)∧H b = some (.lst zs)∧xs.length + zs.length≤sizeLine∧∀ p,H p = none->Q (.ref p) (upd H p (.lst (xs ++ zs)))
theorem yD : OpR X (binaryOp .Add) QT:=by
 intro pins s σ H x y v u Q I rx ry h
 obtain ⟨l,b,xs,zs,rfl,rfl,hH,hB,hz,q⟩:=h
 cases rx
 cases ry
 obtain ⟨z,its,n,r,hl,e⟩:=I.lstM hH
 obtain ⟨z2,its2,n2,r2,hl2,e2⟩:=I.lstM hB
 refine PySem.P.add_list e e2 ?_ (by rw [List.size_toArray,List.size_toArray]; omega)
 have ea : its.toArray ++ its2.toArray = (its ++ its2).toArray:=by simp
 rw [ea]
 exact ⟨.ref _,_,I.lnew (t':=s.toks) (r.append r2) (by rw [List.length_append]; omega),rfl,q _ I.fresh⟩
def zfe : R2:=fun x y H Q=>∃ l k xs,x = .ref l∧y = .int k∧H l = some (.lst xs)∧-(2 ^ 63)≤k∧k < 2 ^ 63∧xs.length * k.toNat≤sizeLine ∧
 ∀ p,H p = none->Q (.ref p) (upd H p (.lst (List.replicate k.toNat xs).flatten))
theorem len_rep {α : Type} (xs : List α) (k : Nat) : (List.replicate k xs).flatten.length = k * xs.length:=by
 induction k with
 | zero=>simp
 | succ k ih=>rw [List.replicate_succ,List.flatten_cons,List.length_append,ih,Nat.succ_mul,Nat.add_comm]
theorem QD : OpR X (binaryOp .Mult) zfe:=by
 intro pins s σ H x y v u Q I rx ry h
 obtain ⟨l,k,xs,rfl,rfl,hH,h1,h2,hz,q⟩:=h
 cases rx
 obtain ⟨t,rfl⟩:=ry
 obtain ⟨z,its,n,r,hl,e⟩:=I.lstM hH
 have hlen : its.toArray.size * k.toNat≤sizeLine:=by rw [List.size_toArray,← hl]; exact hz
 have hcap : ¬ its.toArray.size * k.toNat > (2 ^ 63 - 1) / 8:=by
  have : (sizeLine : Nat)≤(2 ^ 63 - 1) / 8:=by decide
  omega
 have hfit : ¬ (!Builtin.List.listFitsIndex k) = true:=by
  rw [fitsIndex_both h1 h2]
  exact Bool.false_ne_true
 have hlong : ¬ Builtin.List.listTooLong (its.toArray.size * k.toNat) = true:=by
  rw [zcL hlen]
  exact Bool.false_ne_true
 have hnew : List.foldl (fun x1 x2=>x1 ++ x2) #[] (List.replicate (if its.toArray.isEmpty = true then 0 else k.toNat) its.toArray) = (List.replicate k.toNat its).flatten.toArray:=by
  have f0 : ∀ m : Nat,List.foldl (fun x1 x2=>x1 ++ x2) #[] (List.replicate m its.toArray) = (List.replicate m its).flatten.toArray:=fun m=>by
   have:=foldl_rep its m []
   rw [List.nil_append] at this
   exact this
  rw [f0]
  cases its with
  | nil=>simp
  | cons a r'=>rw [if_neg (by simp)]
 refine wpAny_binaryOp_repeat_ref (T:="list") (U:="int") (by decide) ⟨_,e,rfl⟩ (fun s'=>typeIs_int s' k t) noFill_list_mul F.fills_int_mul F.slot_int_rmul repeat_list F.slot_int_index.lookup
  (call_meets F.slot_int_rmul (typeIs_int s k t) F.entry_int_rmul (F.args_int_rmul_2 _ _) (int___rmul___int_list k t l its.toArray n)
   ⟨e,rfl,⟨_,e,rfl⟩,call_meets F.slot_list_mul ⟨_,e,rfl⟩ F.entry_list_mul (F.args_list_mul_2 _ _) (AutoListH.list___mul___list_int_3 l its.toArray n k t hfit hcap hlong) ⟨e,?_⟩⟩)
 rw [hnew]
 exact ⟨.ref _,_,I.lnew (t':=s.toks) (r.rep k.toNat) (by rw [len_rep,Nat.mul_comm]; exact hz),rfl,q _ I.fresh⟩
end
section
variable {prog : Program} {w : World} {A : Around} {E : Value->Shared->Prop} {s : Shared}
end
section
variable {X : Cx}
end
end L2
namespace Att
open PySem PySem.W PySem.Calls PyProof.Rows
theorem WY {P : Params} {h : Heap} : ∀ (ns : List Int) (vs : List Value),WellAll P h vs (ns.map WData.int)->IntsAre vs ns:=by
 intro ns
 induction ns with
 | nil =>
  intro vs w
  rw [List.map_nil] at w
  cases w
  exact .nil
 | cons n ns ih =>
  intro vs w
  rw [List.map_cons] at w
  cases w with
  | cons a b =>
   cases a
   exact .cons _ _ (ih _ b)
theorem zbL {l : OpenLaw} {n : Nat} (hn : l.most = some n) {P : Params} {h : Heap} {args : List WData} {vals : List Value}
  (hpre : l.row.toRowW.claim.pre args = true) (hwl : WellAll P h vals args) :
  ∃ a vs ns,vals = [Value.ref a]∧args = [WData.list (ns.map WData.int)]∧h.get? a = some { cls:=.type "list",data:=.seq vs.toArray }∧IntsAre vs ns∧ns.length≤n:=by
 have hsh : WShape.hasAll [] args [.list .int] = true:=(pre_splitW hpre).1
 have hc : l.pre.holds [] { args:=args } = true:=(pre_splitW hpre).2
 obtain ⟨d,r,rfl,h1,h2⟩:=hasAllW_cons hsh
 obtain rfl:=hasAllW_nil h2
 obtain ⟨xs,rfl,h3⟩:=hasW_list h1
 obtain ⟨ns,rfl⟩:=items_int h3
 have hlen : ns.length≤n:=by
  unfold OpenLaw.pre at hc
  have h4 : (WTm.not (.lt (.lit (.int (n : Int))) (.len (.arg 0)))).holds [] { args:=[.list (ns.map .int)] } = true:=by
   have h4:=(holds_andW hc).1
   rw [hn] at h4
   exact h4
  have h5:=condW_of h4 (w_not (w_lt w_lit (w_len_list (w_arg rfl))))
  rw [List.length_map] at h5
  refine Nat.le_of_not_lt fun q=>?_
  have q' : (n : Int) < ((ns.length : Nat) : Int):=by omega
  first
   | (rw [decide_eq_true q'] at h5; exact absurd h5 (by decide))
   | (simp at h5; omega)
 cases hwl with
 | cons w1 w2 =>
  cases w2
  cases w1 with
  | list ho hall=>exact ⟨_,_,ns,rfl,rfl,ho,WY ns _ hall,hlen⟩
theorem zbM (l : OpenLaw) (args : List WData) : l.row.toRowW.claim.post args (.bool true) args = true :=
 postW_of (r:=l.row.toRowW) (X:=(true == true))
  (show WShape.has [] (.bool true) .bool = true by first | rfl | decide | simp [WShape.has,WShape.arms,WShape.armsAll])
  (show (WTm.eq .res (.lit (.bool true))).value [] { args:=args,res:=some (.bool true),after:=args } = some (.bool (true == true)) from w_eq_bool (w_res rfl) w_lit) rfl
theorem J4 {l : OpenLaw} {n : Nat} {q : Program} {loose : List Str} {XP : (Str->Option Value)->Heap->Prop} {YP : World->Heap->Prop} {d : DefRec}
  (hn : l.most = some n) (hdf : d.params.defaults = [])
  (call : ∀ (w : World) (s₀ s₁ : Shared) (mg mb : Str->Option Value) (fa : Addr) (o : Obj) (pm cd doc : Value) (a : Addr) (vs : List Value) (ns : List Int),
   Ground q loose [] XP w s₀ mg mb s₁.heap->YP w s₁.heap ->
   s₁.heap.get? fa = some o->o.data = .func (docDef d.name d.params d.body d.scope pm cd doc)->s₁.heap.CodeRec cd d.name->mg d.name = some (.ref fa) ->
   s₁.heap.get? a = some { cls:=.type "list",data:=.seq vs.toArray }->IntsAre vs ns->ns.length≤n->s₁.gens = #[] ->
   codeAny (model l.prog w) callerA (.call (.ref fa) ⟨[.ref a],[]⟩) (fun r s'=>r = .ok (.ret (.bool true))∧OldK s₁.heap s'.heap∧s'.os = s₁.os∧AllBare s'.gens) s₁) :
  WalkO q loose XP YP l.row.toRowW d [] (fun f vs=>PySem.call f vs):=by
 intro w s₀ s₁ mg mb G Y fa o pm cd doc dV kV ho hd hcd hD hmg hg args vals as hpre hlay hrd hwl hlo
 obtain rfl : dV = .none:=Dflts.none hD hdf
 obtain rfl : kV = .none:=Dflts.noKw hD
 obtain ⟨a,vs,ns,rfl,rfl,hobj,hints,hlen⟩:=zbL hn hpre hwl
 refine enter_call (codeAny_mono (call w s₀ s₁ mg mb fa o pm cd doc a vs ns G Y ho (fd_plain hd) hcd hmg hobj hints hlen hg) fun r s' hq=>?_)
 obtain ⟨rfl,h2,h3,h4⟩:=hq
 exact ⟨.inl ⟨.bool true,.bool true,[],rfl,fun _=>rfl,.bool true,zbM l _,fun _=>⟨List.Pairwise.nil,fun _ hm=>(nomatch hm)⟩⟩,h2,h3,h4⟩
section
variable {prog : Program} {w : World} {A : Around} {E : Value->Shared->Prop} {s : Shared} {K : Frag}
end
end Att
namespace L2
open PySem PySem.Spec PyProof.Rows
theorem Qg : ∀ {vs : List Value} {ns : List Int},IntsAre vs ns->Vals (ns.map V.int) vs
 | _,_,.nil=>.nil
 | _,_,.cons n t h=>.cons ⟨t,rfl⟩ (Qg h)
def inClass (s : Stmt) (j : Nat) : Stmt:=match s with
 | .ClassDef _ _ _ body _ _ _ _ _ _ _=>body.getD j (.Pass ⟨0,0,0,0⟩)
 | _=>.Pass ⟨0,0,0,0⟩
def w6 (s : Stmt) : Arguments:=match s with
 | .FunctionDef _ a _ _ _ _ _ _ _ _=>a
 | _=>{ posonlyargs:=[],args:=[],vararg:=none,kwonlyargs:=[],kw_defaults:=[],kwarg:=none,defaults:=[] }
def yZ (s : Stmt) : List Stmt:=match s with
 | .FunctionDef _ _ b _ _ _ _ _ _ _=>b
 | _=>[]
def zx (s : Stmt) : Scope:=match s with
 | .FunctionDef _ _ _ _ _ _ sc _ _ _=>sc
 | _=>{ kind:=.function,names:=[],isGenerator:=false,isCoroutine:=false }
abbrev CX0 : CXT:=fun _ _ _ _ _ _=>False
abbrev E0 : XK:=fun _ _ _=>False
theorem Qp {X : Cx} : Wc CX0 X E0:=fun _ _ _ _ _ _ _ h=>h.elim
structure Fun (K : PySem.W.Frag) (x qual : Str) (st : Stmt) (f : Addr) (fd : FuncData) : Prop where
 ex : ∃ (oc : Value) (od : Option Addr) (kV doc pm : Value) (an : Option Addr) (cdv ct : Value) (osl : Array (Option Value)),
  fd = PySem.W.fnOf x qual (w6 st) (yZ st) (zx st) .none kV doc pm an cdv ct∧K.lookup f = some ⟨oc,od,.func fd,osl⟩∧PySem.W.codeIn K cdv qual = true
 kp : PySem.W.keepIn K (.ref f) = true
section
variable {P : Program} {w : World} {K : PySem.W.Frag} {mg : Str->Option Value} {base : Heap}
theorem Fun.ok {x qual : Str} {st : Stmt} {f : Addr} {fd : FuncData} {N ps : List Str} {k : Nat} {sp : Sp} (F : Fun K x qual st f fd) (S : zK N ps (zx st)) (len : ∀ vs H Q E,sp vs H Q E->vs.length = ps.length)
  (hbody : ∀ (cdv : Value) (A : Around) (outer : List Env) (s : Shared) (H : Hp) (vs : List V) (Q : VK) (E : XK),Room k (A.deeper (envOfC qual (zx st) s.heap.objs.size f cdv))->sp vs H Q E ->
   ∃ t,PSs (YH CX0 P w K mg base N qual (zx st) f cdv A outer s H E).nox (yZ st) t∧t { nx:=fun _ H'=>Q .non H',rt:=Q } (start N vs) H) : FnOk P w K mg base CX0 (k + 1) f fd ps sp:=by
 obtain ⟨oc,od,kV,doc,pm,an,cdv,ct,osl,rfl,lk,hcd⟩:=F.ex
 refine zcG lk hcd S len fun A outer s H vs Q E hr hsp=>?_
 obtain ⟨t,h,q⟩:=hbody cdv A outer s H vs Q E hr hsp
 exact ⟨t,h.nox,q⟩
theorem Fun.binds {x qual : Str} {st : Stmt} {f : Addr} {fd : FuncData} {ps : List Str} (F : Fun K x qual st f fd)
  (h : ∀ (kV doc pm : Value) (an : Option Addr) (cdv ct : Value) (us : List Value),us.length = ps.length->bindArgs (PySem.W.fnOf x qual (w6 st) (yZ st) (zx st) .none kV doc pm an cdv ct) ⟨us,[]⟩ = pure (ps.zip us)) : Binds K fd ps []:=by
 obtain ⟨oc,od,kV,doc,pm,an,cdv,ct,osl,rfl,lk,hcd⟩:=F.ex
 exact .all (h kV doc pm an cdv ct)
theorem Qy {x qual : Str} {st : Stmt} {f : Addr} {oc : Value} {od an : Option Addr} {osl : Array (Option Value)} {kV doc pm cdv ct : Value} (l : K.lookup f = some ⟨oc,od,.func (PySem.W.fnOf x qual (w6 st) (yZ st) (zx st) .none kV doc pm an cdv ct),osl⟩)
  (c : PySem.W.codeIn K cdv qual = true) (k : PySem.W.keepIn K (.ref f) = true) : Fun K x qual st f (PySem.W.fnOf x qual (w6 st) (yZ st) (zx st) .none kV doc pm an cdv ct):=⟨⟨oc,od,kV,doc,pm,an,cdv,ct,osl,rfl,l,c⟩,k⟩
end
theorem zfF {A : Around} {k : Nat} (hr : Room k A) : A.units + 1 < cLine:=Nat.lt_of_le_of_lt (Nat.add_le_add_left (by decide : 1≤64) _) hr.units
section
variable {X : Cx}
theorem pv (i : Nat) {x : Str} {pos : Pos} (hN : X.N[i]? = some x:=by rfl) (hv : Vis X.env.scope x:=by first | exact Or.inl rfl | exact Or.inr (Or.inl rfl) | exact Or.inr (Or.inr rfl)) (hd : (x == ("__debug__" : Str)) = false:=by decide)
  (hcd : (x == ("__classdict__" : Str)) = false:=by decide) : PE X (.Name x pos) (Um i):=ze1 hN hv hd hcd
end
theorem wO {A B : Prop} (h : B) : if false = true then A else B:=by
 rw [if_neg Bool.false_ne_true]
 exact h
theorem wR {A B : Prop} (h : A) : if true = true then A else B:=by
 rw [if_pos rfl]
 exact h
theorem zaQ {c A B : Prop} [Decidable c] (h1 : c->A) (h2 : ¬ c->B) : if c then A else B:=by
 by_cases h : c
 ·rw [if_pos h]
  exact h1 h
 ·rw [if_neg h]
  exact h2 h
def Same (H H' : Hp) : Prop:=∀ b o,H b = some o->H' b = some o
theorem Same.refl (H : Hp) : Same H H:=fun _ _ h=>h
theorem Same.trans {H H1 H2 : Hp} (a : Same H H1) (b : Same H1 H2) : Same H H2:=fun c o h=>b c o (a c o h)
theorem Same.free {H H' : Hp} (e : Same H H') {l : Addr} (h : H' l = Option.none) : H l = Option.none:=by
 cases q : H l with
 | none=>rfl
 | some o =>
  rw [e l o q] at h
  cases h
theorem Same.seq {K : PySem.W.Frag} {H H' : Hp} {a : Addr} {xs : List V} (e : Same H H') (h : SqL K H a xs) : SqL K H' a xs:=by
 rcases h with (h | ⟨o,h⟩) | h
 ·exact .inl (.inl (e _ _ h))
 ·exact .inl (.inr ⟨o,e _ _ h⟩)
 ·exact .inr h
def uc (cells : List (Str × Addr)) : List (Str × NameKind)->List (Str × Addr)->List (Str × Addr)
 | [],cs=>cs
 | (n,k) :: r,cs=>uc cells r (if k = .free then (match cells.lookup n with | some c=>(n,c) :: cs | none=>cs) else cs)
theorem Z8 {env : Env} : ∀ (names : List (Str × NameKind)) (cs : List (Str × Addr)),(∀ x ∈ names,x.2 = .free->∃ c,env.cells.lookup x.1 = some c) ->
  (forIn names cs fun (x : Str × NameKind) (r : List (Str × Addr))=>if (x.2 == .free) = true then (do let c ← cellOf env x.1; pure (ForInStep.yield ((x.1,c) :: r)) : Sem _) else pure (ForInStep.yield r)) = pure (uc env.cells names cs)
 | [],cs,_=>rfl
 | (n,k) :: r,cs,h=>by
  have ih:=fun cs'=>Z8 (env:=env) r cs' fun x hx=>h x (List.mem_cons_of_mem _ hx)
  rw [List.forIn_cons]
  by_cases hk : k = .free
  ·subst hk
   obtain ⟨c,hc⟩:=h (n,.free) List.mem_cons_self rfl
   have e : cellOf env n = pure c:=by unfold cellOf; rw [hc]
   simp only [beq_self_eq_true,if_true,e,pure_bind,uc,hc]
   exact ih _
  ·have hb : (k == NameKind.free) = false:=by simpa using hk
   simp only [hb,Bool.false_eq_true,if_false,pure_bind,uc,hk]
   exact ih _
theorem YZ {scope : Scope} {env : Env} (h : ∀ x ∈ scope.names,x.2 = .free->∃ c,env.cells.lookup x.1 = some c) : closureFor scope env = pure (uc env.cells scope.names []):=by
  have e:=Z8 scope.names [] h
  unfold closureFor
  first
    | (simp only [bind_pure]; exact e)
    | (show (forIn scope.names [] _ >>= fun r=>pure r) = _
       rw [show (forIn scope.names ([] : List (Str × Addr)) _ : Sem _) = _ from e]
       rfl)
theorem Zx {cells : List (Str × Addr)} {y : Str} {c : Addr} : ∀ {names : List (Str × NameKind)} {cs : List (Str × Addr)},(∀ y c,cs.lookup y = some c->cells.lookup y = some c)->(uc cells names cs).lookup y = some c->cells.lookup y = some c
 | [],cs,h,e=>h y c e
 | (n,k) :: r,cs,h,e=>by
  refine Zx (names:=r) ?_ e
  intro y' c' e'
  by_cases hk : k = .free
  ·rw [if_pos hk] at e'
   cases q : cells.lookup n with
   | none=>rw [q] at e'; exact h _ _ e'
   | some d =>
    rw [q] at e'
    simp only [List.lookup_cons] at e'
    cases hb : y' == n with
    | true =>
     rw [hb] at e'
     cases e'
     have : y' = n:=by simpa using hb
     rw [this]; exact q
    | false=>rw [hb] at e'; exact h _ _ e'
  ·rw [if_neg hk] at e'; exact h _ _ e'
theorem Vz {cells : List (Str × Addr)} {y : Str} : ∀ {names : List (Str × NameKind)} {cs : List (Str × Addr)},((∃ c,cs.lookup y = some c)∨((y,NameKind.free) ∈ names∧∃ c,cells.lookup y = some c))->∃ c,(uc cells names cs).lookup y = some c
 | [],cs,h=>by
  rcases h with h | ⟨h,_⟩
  ·exact h
  ·cases h
 | (n,k) :: r,cs,h=>by
  refine Vz (names:=r) ?_
  rcases h with ⟨c,h⟩ | ⟨h,c,hc⟩
  ·left
   by_cases hk : k = .free
   ·rw [if_pos hk]
    cases q : cells.lookup n with
    | none=>exact ⟨c,h⟩
    | some d =>
     simp only [List.lookup_cons]
     cases hb : y == n with
     | true=>exact ⟨d,rfl⟩
     | false=>exact ⟨c,h⟩
   ·rw [if_neg hk]; exact ⟨c,h⟩
  ·rcases List.mem_cons.mp h with e | h
   ·cases e
    left
    rw [if_pos rfl,hc]
    exact ⟨c,by simp⟩
   ·exact .inr ⟨h,c,hc⟩
theorem uv {env : Env} : ∀ {names : List (Str × NameKind)} {x : Str} {k : NameKind},
  (names.map fun (n,k)=>if (k == NameKind.free && env.scope.kind == .function && env.kindOf n == some .cell) then (n,NameKind.cell) else (n,k)).lookup x = some k->names.lookup x = some k∨(k = .cell∧names.lookup x = some .free)
 | [],_,_,h=>by simp at h
 | (n,k0) :: r,x,k,h=>by
  have ih:=@uv env r x k
  rw [List.map_cons] at h
  by_cases hc : (k0 == NameKind.free && env.scope.kind == .function && env.kindOf n == some .cell) = true
  ·simp only [hc,if_true,List.lookup_cons] at h
   have hk0 : k0 = .free:=by
    simp only [Bool.and_eq_true] at hc
    simpa using hc.1.1
   cases hx : x == n with
   | true=>rw [hx] at h; cases h; right; simp [List.lookup_cons,hx,hk0]
   | false=>rw [hx] at h; simp only [List.lookup_cons,hx]; exact ih h
  ·have hc' : (k0 == NameKind.free && env.scope.kind == .function && env.kindOf n == some .cell) = false:=by simpa using hc
   simp only [hc',Bool.false_eq_true,if_false,List.lookup_cons] at h
   cases hx : x == n with
   | true=>rw [hx] at h; cases h; left; simp [List.lookup_cons,hx]
   | false=>rw [hx] at h; simp only [List.lookup_cons,hx]; exact ih h
def cxC (X : Cx) (N : List Str) (scope : Scope) (C : Addr) (s₀ : Shared) (H₀ : Hp) (ex : List Addr) : Cx where
 prog:=X.prog
 w:=X.w
 K:=X.K
 mg:=X.mg
 base:=X.base
 A:=X.A
 N:=N
 s₀:=s₀
 H₀:=H₀
 env:=compEnvC scope (uc X.env.cells scope.names []) C X.env
 outer:=X.stack
 stack:=X.stack
 ex:=ex
 fn:=fun _=>false
 calm:=X.calm
 pn:=[]
 xe:=fun _ _=>False
def qm (js : List Nat) (σ : St) : St:=js.map fun j=>(σ[j]?).join
theorem zc3 {js : List Nat} {σ : St} {i : Nat} {v : V} (h : (qm js σ)[i]? = some (some v)) : ∃ j,js[i]? = some j∧σ[j]? = some (some v):=by
 unfold qm at h
 rw [List.getElem?_map] at h
 cases e : js[i]? with
 | none=>rw [e] at h; cases h
 | some j =>
  rw [e] at h
  have h' : (σ[j]?).join = some v:=Option.some.inj h
  refine ⟨j,rfl,?_⟩
  cases q : σ[j]? with
  | none=>rw [q] at h'; cases h'
  | some z=>rw [q] at h'; exact congrArg some h'
structure CScope (sc : Scope) (scope : Scope) (x : Str) (M : List Str) (ys : List Str) (js : List Nat) : Prop where
 kind : scope.kind = .function
 cell : ∀ y ∈ scope.names,y.2 ≠ .cell
 loc : ∀ y ∈ scope.names,y.2 = .local->scope.names.lookup y.1 = some .local
 var : scope.names.lookup x = some .local
 free : ∀ y ∈ scope.names,y.2 = .free->sc.names.lookup y.1 = some .cell∨sc.names.lookup y.1 = some .free
 caps : js.map (M[·]?) = ys.map some
 fr : ∀ y ∈ ys,scope.names.lookup y = some .free
 nd : (x :: ys).Nodup
section
variable {X : Cx} {pins : List (Addr × Obj)} {σ : St} {H : Hp} {s : Shared}
theorem zcY {scope : Scope} {x : Str} {ys : List Str} {js : List Nat} {fp : List Addr} {h₁ : Heap} {tk : Nat} {C : Addr} (I : Inv X pins σ H s) (S : CScope X.env.scope scope x X.N ys js) (hf : ∀ b ∈ fp,V0 X pins H b) (ho : ∀ b ∈ fp,∃ o,s.heap.get? b = some o)
  (hC : s.heap.objs.size≤C) (hk : ∀ b o,s.heap.get? b = some o->h₁.get? b = some o) (hn : h₁.Ns C fun _=>none) :
  Inv (cxC X (x :: ys) scope C s H fp) [] (none :: qm js σ) H { s with heap:=h₁,toks:=tk }:=by
 have sub : ∀ y c,(uc X.env.cells scope.names []).lookup y = some c->X.env.cells.lookup y = some c:=fun y c e=>Zx (fun _ _ z=>by simp at z) e
 have has : ∀ y,scope.names.lookup y = some .free->∃ c,(uc X.env.cells scope.names []).lookup y = some c:=fun y e=>by
  have m : (y,NameKind.free) ∈ scope.names:=PySem.mem_of_lookup e
  exact Vz (.inr ⟨m,I.ok.has y (S.free _ m rfl)⟩)
 have lt : ∀ b ∈ fp,b < s.heap.objs.size:=fun b hb=>by obtain ⟨o,e⟩:=ho b hb; exact Heap.lt_size e
 have ok : (cxC X (x :: ys) scope C s H fp).Ok:=by
  refine ⟨I.ok.mod,S.kind,I.ok.glob,I.ok.blt,hC,fun y z c e1 e2=>I.ok.inj y z c (sub _ _ e1) (sub _ _ e2),fun y hy=>?_,fun y c z=>?_,I.ok.hd,I.ok.frames,.inl rfl,fun b hb=>?_,I.bs,Nat.le_trans I.ok.bsz I.sz,fun b o e hb=>?_,fun b hb z=>?_,I.stack,I.stkFree⟩
  ·have hy' : (relabel scope X.env).names.lookup y = some .cell∨(relabel scope X.env).names.lookup y = some .free:=hy
   have nocell : scope.names.lookup y ≠ some .cell:=fun z=>S.cell _ (PySem.mem_of_lookup z) rfl
   rcases hy' with e | e
   ·rcases uv e with z | ⟨_,z⟩
    ·exact absurd z nocell
    ·exact has y z
   ·rcases uv e with z | ⟨z,_⟩
    ·exact has y z
    ·cases z
  ·exact absurd (show false = true from z) Bool.false_ne_true
  ·refine ⟨Nat.ne_of_lt (Nat.lt_of_lt_of_le (lt b hb) hC),fun y c e=>(hf b hb).2.2.2.2.1 y c (sub y c e)⟩
  ·rcases (hf b hb).2.2.2.1 with z | z
   ·exact I.ok.noex b o e z
   ·exact absurd (Nat.lt_of_lt_of_le (Heap.lt_size e) (Nat.le_trans I.ok.bsz z)) (Nat.lt_irrefl _)
  ·rcases List.mem_cons.mp (I.stkSub b z) with e | e
   ·exact (hf b hb).2.1 e
   ·exact (hf b hb).2.2.1 e
 refine ⟨ok,rfl,I.bare,Un.kept hk,⟨_,hn,fun i y v e1 e2 e3=>?_⟩,fun y c e=>?_,I.hok.fresh hC,fun y c e=>I.freeC y c (sub y c e),fun p hp=>absurd (show p ∈ ([] : List (Addr × Obj)) from hp) (by simp),I.hok.kept hk,?_⟩
 ·cases i with
  | zero=>simp at e2
  | succ i =>
   have e1' : ys[i]? = some y:=by simpa [cxC] using e1
   have e2' : (qm js σ)[i]? = some (some v):=by simpa using e2
   obtain ⟨j,hj,hσ⟩:=zc3 e2'
   have hN : X.N[j]? = some y:=by
    have z:=congrArg (fun l=>l[i]?) S.caps
    simp only [List.getElem?_map,hj,e1',Option.map_some] at z
    exact Option.some.inj z
   have hfr:=S.fr y (List.mem_of_getElem? e1')
   have m : (y,NameKind.free) ∈ scope.names:=PySem.mem_of_lookup hfr
   have hkind:=S.free _ m rfl
   obtain ⟨m',hns,hl⟩:=I.loc
   obtain ⟨u,r,lk⟩:=hl j y v hN hσ (by rcases hkind with z | z; exact .inr (.inl z); exact .inr (.inr z))
   refine ⟨u,r,.inr ⟨?_,?_⟩⟩
   ·have e3' : (relabel scope X.env).names.lookup y = some .local∨(relabel scope X.env).names.lookup y = some .cell∨(relabel scope X.env).names.lookup y = some .free:=e3
    rcases e3' with z | z | z
    ·rcases uv z with q | ⟨q,_⟩
     ·rw [hfr] at q; cases q
     ·cases q
    ·exact .inl z
    ·exact .inr z
   ·obtain ⟨c,hc⟩:=has y hfr
    refine ⟨c,hc,?_⟩
    rcases lk with ⟨z,_⟩ | ⟨_,c',hc',cell⟩
    ·rcases hkind with q | q
     ·have q' : X.env.kindOf y = some .cell:=q
      rw [show X.env.kindOf y = some .local from z] at q'; cases q'
     ·have q' : X.env.kindOf y = some .free:=q
      rw [show X.env.kindOf y = some .local from z] at q'; cases q'
    ·rw [sub y c hc] at hc'
     cases hc'
     obtain ⟨o,e,d⟩:=cell
     exact ⟨o,hk _ _ e,d⟩
 ·obtain ⟨v,o,e',d⟩:=I.cell y c (sub y c e)
  exact ⟨v,o,hk _ _ e',d⟩
 ·have z:=congrArg List.length S.caps
  simp only [List.length_map] at z
  show (none :: qm js σ).length = (x :: ys).length
  simp [qm,z]
end
theorem zcj {α β : Type} {M : Model} {A : Around} {a : α} {Q : α->Shared->Prop} {E E' : Value->Shared->Prop} {s : Shared} {t : Sem β} {Q' : β->Shared->Prop} (h : wpAny M A (pure a) Q E s) (k : Q a s->wpAny M A t Q' E' s) : wpAny M A t Q' E' s :=
 fun Γ p hΓ=>k (h Γ p hΓ) Γ p hΓ
def PTs (X : Cx) (ifs : List Expr) (t : TT) : Prop :=
 ∀ (pins : List (Addr × Obj)) (s : Shared) (σ : St) (H : Hp) (Q : Bool->Hp->Prop),Inv X pins σ H s->t σ H Q ->
  wpAny (model X.prog X.w) X.A (forIn ifs true fun c r=>if r = true then do let ok ← isTrue c X.env (eval c X.env); pure (ForInStep.yield ok) else pure (ForInStep.yield r)) (TP X pins σ Q) X.xe s
def Ye : TT:=fun _ H Q=>Q true H
theorem xM {X : Cx} : PTs X [] Ye:=fun pins s σ H Q I h=>wpAny_tests_nil ⟨H,I,h⟩
theorem zeb {X : Cx} {c : Expr} {t : TT} (h : PT X c t) : PTs X [c] t:=fun pins s σ H Q I hw=>wpAny_tests_one (h pins s σ H Q I hw)
def Ug (J : It) (js : List Nat) (tt : TT) (te : TE) (σ : St) (Q : VK) (H : Hp) : Prop:=∃ W : Nat->Nat->List V->Hp->Prop,(∃ m,W 0 m [] H)∧∀ i m ys H,W i m ys H ->
 (J.stop i H∧∀ D,H D = none->Q (.ref D) (upd H D (.lst ys))) ∨
 (J.go i H∧ys.length < sizeLine∧∃ N : List V->Hp->Prop,(∀ ys' H',N ys' H'->∃ m',m' < m∧W (i + 1) m' ys' H')∧∀ x H',J.yld i H x H'->tt (some x :: qm js σ) H' fun b H2=>if b = true then te (some x :: qm js σ) H2 fun v H3=>N (ys ++ [v]) H3 else N ys H2)
def zc0 (wi : TI) (js : List Nat) (tt : TT) (te : TE) : TE:=fun σ H Q=>wi σ H fun J H1=>Ug J js tt te σ Q H1
theorem HOk.track {P : Program} {w : World} {H : Hp} {h : Heap} {a : Addr} {o : HO} (x : HOk P w H h) (hn : H a = none) (new : ObjOk P w (upd H a o) h a o) : HOk P w (upd H a o) h:=fun b u e=>by
 by_cases hb : b = a
 ·subst hb; rw [zj] at e; cases e; exact new
 ·rw [zy hb] at e
  exact (x b u e).stay (fun _ _ _ q=>q) (fun c q=>by rw [zy (zB q hn)]; exact q) fun c xs q=>by rw [zy (zB q hn)]; exact q
section
variable {X : Cx} {elt iter : Expr} {ifs : List Expr} {x : Str} {px pos : Pos} {scope : Scope} {ys : List Str} {js : List Nat} {wi : TI} {tt : TT} {te : TE}
theorem V7 {pins : List (Addr × Obj)} {σ : St} {H : Hp} {s : Shared} {J : It} {fp : List Addr} {it : Addr} {tn : Nat->Heap->Prop} {Q : VK} {E : Value->Shared->Prop} {R : Value->Addr->Result->Shared->Prop}
  (S : CScope X.env.scope scope x X.N ys js) (hc : X.calm = true) (ht : ∀ C s₀ H₀ ex,PTs (cxC X (x :: ys) scope C s₀ H₀ ex) ifs tt) (he : ∀ C s₀ H₀ ex,PE (cxC X (x :: ys) scope C s₀ H₀ ex) elt te)
  (I : Inv X pins σ H s) (T : Turn X.prog X.w X.K (.Name x px) J fp it tn) (st : tn 0 s.heap) (hf : ∀ b ∈ fp,V0 X pins H b)
  (hw : ∃ W : Nat->Nat->List V->Hp->Prop,(∃ m,W 0 m [] H)∧∀ i m zs H,W i m zs H ->
   (J.stop i H∧∀ D,H D = none->Q (.ref D) (upd H D (.lst zs))) ∨
   (J.go i H∧zs.length < sizeLine∧∃ N : List V->Hp->Prop,(∀ ys' H',N ys' H'->∃ m',m' < m∧W (i + 1) m' ys' H')∧∀ x H',J.yld i H x H'->tt (some x :: qm js σ) H' fun b H2=>if b = true then te (some x :: qm js σ) H2 fun v H3=>N (zs ++ [v]) H3 else N zs H2))
  (hR : ∀ D C s' H' m',Inv X pins σ H' s'->Q (.ref D) H'->s.heap.objs.size≤C->H' C = none->s'.heap.Ns C m'->R (.ref D) C (.ok .next) s') :
  wpAny (model X.prog X.w) X.A (newList []) (fun acc s₃=>wpAny (model X.prog X.w) X.A (newFunctionEnv scope X.env.globals (uc X.env.cells scope.names []) [] X.env.qual none .none (some X.env)) (fun cenv s₄ =>
   codeAny (model X.prog X.w) X.A (.compStart (.ListComp elt [⟨.Name x px,iter,ifs,0⟩] scope pos) 0 (.ref it) acc { cenv with scope:=relabel scope X.env }) (R acc cenv.locals) s₄) E s₃) E s:=by
 obtain ⟨W,⟨m0,w0⟩,turn⟩:=hw
 refine wpAny_newObj_type (wpAny_newFunctionEnv S.cell (by intro y hy; simp at hy) (fun h₁ hns₁ hsb₁=>?_) S.kind)
 dsimp only at hns₁ hsb₁ ⊢
 generalize hH2 : s.heap.push { cls:=.type "list",dict:=none,data:=.seq ([] : List Value).toArray } = G at hns₁ hsb₁ ⊢
 generalize hD : s.heap.objs.size = D at *
 generalize hCe : G.objs.size = C at *
 have hC : C = D + 1:=by rw [← hCe,← hH2,Heap.size_push,hD]
 have hDlt : D < C:=by rw [hC]; exact Nat.lt_succ_self D
 have hDC : D ≠ C:=Nat.ne_of_lt hDlt
 have old : ∀ b o,s.heap.get? b = some o->h₁.get? b = some o:=fun b o e=>by
  have hb : b < D:=hD ▸ Heap.lt_size e
  exact (hsb₁.2 b (Nat.ne_of_lt (Nat.lt_trans hb hDlt))).trans (Heap.get?_push_of_some _ (hH2 ▸ Heap.get?_push_of_some _ e))
 have hacc : h₁.get? D = some { cls:=.type "list",data:=.seq ([] : List Value).toArray 0 }:=by
  refine (hsb₁.2 D hDC).trans (Heap.get?_push_of_some _ ?_)
  rw [← hH2,← hD]
  exact Heap.get?_push_size _ rfl
 have obj0:=T.obj 0 _ st
 have fplt : ∀ b ∈ fp,b < D:=fun b hb=>by obtain ⟨o,e,_⟩:=obj0 b hb; exact hD ▸ Heap.lt_size e
 generalize hX : cxC X (x :: ys) scope C s H fp = X'
 have I1 : Inv X' [] (none :: qm js σ) H { s with heap:=h₁,toks:=s.toks + ([] : List (Str × Value)).length }:=by
  subst hX
  exact zcY I S hf (fun b hb=>by obtain ⟨o,e,_⟩:=obj0 b hb; exact ⟨o,e⟩) (by omega) old (by simpa using hns₁)
 have eP : X'.prog = X.prog:=by subst hX; rfl
 have eW : X'.w = X.w:=by subst hX; rfl
 have eK : X'.K = X.K:=by subst hX; rfl
 have eA : X'.A = X.A:=by subst hX; rfl
 have eC : X'.calm = true:=by subst hX; exact hc
 have eL : X'.env.locals = C:=by subst hX; rfl
 have eS : X'.s₀ = s:=by subst hX; rfl
 have eN : X'.N = x :: ys:=by subst hX; rfl
 have eE : X'.env = compEnvC scope (uc X.env.cells scope.names []) C X.env:=by subst hX; rfl
 have eXe : X'.xe = fun _ _=>False:=by subst hX; rfl
 have eX : X'.ex = fp:=by subst hX; rfl
 have ePn : X'.pn = []:=by subst hX; rfl
 have efs : ∀ b,b ∈ X'.fs->b ∈ frs X.stack:=fun b z=>by subst hX; exact z
 have cellLt : ∀ y c,X'.env.cells.lookup y = some c->c < D:=fun y c e=>by
  have e' : (uc X.env.cells scope.names []).lookup y = some c:=by rw [eE] at e; exact e
  obtain ⟨v,o,e2,_⟩:=I.cell y c (Zx (fun _ _ z=>by simp at z) e')
  exact hD ▸ Heap.lt_size e2
 have frLt : ∀ b,b ∈ X'.fs->b < D:=fun b z=>by
  rcases List.mem_cons.mp (I.stkSub b (efs b z)) with e | e
  ·rw [e]; exact hD ▸ I.lt
  ·exact Nat.lt_of_not_le fun h=>I.nofs (hD ▸ h) e
 have fpOk : ∀ (p : List (Addr × Obj)) (H' : Hp),(∀ b ∈ fp,H' b = none)->(∀ q ∈ p,q.1 = D)->∀ b ∈ fp,V0 X' p H' b:=fun p H' hn hp b hb=>by
  refine ⟨hn b hb,?_,fun z=>?_,.inl (eX ▸ hb),fun y c e=>?_,fun q hq=>?_⟩
  ·rw [eL]; exact Nat.ne_of_lt (Nat.lt_trans (fplt b hb) hDlt)
  ·rcases List.mem_cons.mp (I.stkSub b (efs b z)) with e | e
   ·exact (hf b hb).2.1 e
   ·exact (hf b hb).2.2.1 e
  ·have e' : (uc X.env.cells scope.names []).lookup y = some c:=by rw [eE] at e; exact e
   exact (hf b hb).2.2.2.2.1 y c (Zx (fun _ _ z=>by simp at z) e')
  ·rw [ePn,List.nil_append] at hq
   rw [hp q hq]; exact Nat.ne_of_gt (fplt b hb)
 have noCell : ∀ (its : List Value) (k : Nat) v,({ cls:=.type "list",data:=.seq its.toArray k } : Obj).data ≠ .cell v:=fun its k v z=>by cases z
 have done : ∀ {zs : List V} {its : List Value} {k : Nat} {H' : Hp} {s' : Shared},Inv X' [] (none :: qm js σ) H' s'->s'.heap.get? D = some { cls:=.type "list",data:=.seq its.toArray k }->Vals zs its->H' D = none->zs.length≤sizeLine ->
   (∀ D,H' D = none->Q (.ref D) (upd H' D (.lst zs)))->R (.ref D) C (.ok .next) s':=fun {zs its k H' s'} I' hd hv hn hz q=>by
  have un:=I'.base
  obtain ⟨m',hns,_⟩:=I'.loc
  rw [eL] at hns
  have hCn : H' C = none:=by have:=I'.free; rw [eL] at this; exact this
  have hH0 : X'.H₀ = H:=by subst hX; rfl
  rw [hH0,eS,eX] at un
  have un2 : Un (frs X.stack) fp H (upd H' D (.lst zs)) s.heap s'.heap:=by
   have ne : ∀ b o,s.heap.get? b = some o->b ≠ D:=fun b o e=>Nat.ne_of_lt (hD ▸ Heap.lt_size e)
   have un' : Un (frs X.stack) fp H H' s.heap s'.heap:=by subst hX; exact un
   exact ⟨un'.keep,un'.slot,fun b o e n hx=>by rw [zy (ne b o e)]; exact un'.free b o e n hx,un'.there,fun b xs e=>by rw [zy (zB (un'.tups b xs e) hn)]; exact un'.tups b xs e,
    fun b o u e=>by rw [zy (zB (un'.frzs b o u e) hn)]; exact un'.frzs b o u e,fun b ps e=>by
     obtain ⟨more,z⟩:=un'.tbls b ps e
     exact ⟨more,by rw [zy (zB z hn)]; exact z⟩⟩
  have hok : HOk X.prog X.w (upd H' D (.lst zs)) s'.heap:=by
   have h0:=I'.hok
   rw [eP,eW] at h0
   exact h0.track hn ⟨hz,its,k,hv,hd⟩
  have I2 : Inv X pins σ (upd H' D (.lst zs)) s':=I.call' (by have:=I'.os; rw [eS] at this; exact this) un2 hok I'.bare fun b hb=>⟨(hf b hb).2.2.2.1,(hf b hb).2.1,(hf b hb).2.2.2.2.1,(hf b hb).2.2.2.2.2⟩
  exact hR D C s' _ m' I2 (q D hn) (by omega) (by rw [zy (Ne.symm hDC)]; exact hCn) hns
 have loop : codeAny (model X.prog X.w) X.A (.compLoop (.ListComp elt [⟨.Name x px,iter,ifs,0⟩] scope pos) 0 (.ref it) (.ref D) X'.env) (R (.ref D) C) { s with heap:=h₁,toks:=s.toks + ([] : List (Str × Value)).length }:=by
  refine codeAny_compLoop_tests (fun n s'=>∃ i zs its k H',Inv X' [] (none :: qm js σ) H' s'∧tn i s'.heap∧(∀ b ∈ fp,H' b = none)∧s'.heap.get? D = some { cls:=.type "list",data:=.seq its.toArray k }∧Vals zs its∧H' D = none∧zs.length≤sizeLine∧W i n zs H')
   ?_ m0 ⟨0,[],[],0,H,I1,T.keep _ _ _ st (fun b hb o e=>old b o e),fun b hb=>(hf b hb).1,hacc,.nil,I.hok.fresh (by omega),Nat.zero_le _,w0⟩ (fun _=>rfl)
  rintro n s3 ⟨i,zs,its,k,H3,I3,st3,fr3,d3,v3,n3,z3,w3⟩
  have pinD : Inv X' [(D,{ cls:=.type "list",data:=.seq its.toArray k })] (none :: qm js σ) H3 s3:=I3.pins_of fun p hp=>by
   have e : p = (D,{ cls:=.type "list",data:=.seq its.toArray k }):=by simpa using hp
   subst e
   exact ⟨d3,n3,by rw [eL]; exact hDC,fun z=>Nat.lt_irrefl _ (frLt D z),noCell its k⟩
  have hpD : ∀ q ∈ [(D,({ cls:=.type "list",data:=.seq its.toArray k } : Obj))],q.1 = D:=fun q hq=>by
   have e : q = (D,{ cls:=.type "list",data:=.seq its.toArray k }):=by simpa using hq
   rw [e]
  rcases turn i n zs H3 w3 with ⟨stop,qn⟩ | ⟨go,hzl,NN,hNN,step⟩
  ·refine thn (eA ▸ T.done X' eP eW eK eC i _ s3 _ H3 _ pinD (fpOk _ _ fr3 hpD) st3 stop) fun r s4 ⟨hr,I4⟩=>?_
   subst hr
   exact done (I4.pins_of fun p hp=>absurd hp (by simp)) (I4.pin (D,{ cls:=.type "list",data:=.seq its.toArray k }) (List.mem_append_right _ (by simp))).1 v3 n3 z3 qn
  ·refine thn (eA ▸ T.item X' eP eW eK eC i _ s3 _ H3 _ pinD (fpOk _ _ fr3 hpD) st3 go) fun r s4 ⟨u,hr,h4⟩=>?_
   subst hr
   refine zcj (a:=()) h4 fun ⟨v,H5,I5,r5,y5,st5,fr5⟩=>?_
   have I5':=I5.pinned (fpOk _ _ fr5 hpD) (T.obj _ _ st5)
   have ev : ∀ {α : Type} {t : Sem α} {Q' : α->Shared->Prop} {E' : Value->Shared->Prop} {s' : Shared},wpAny (model X'.prog X'.w) X'.A t Q' X'.xe s'->wpAny (model X.prog X.w) X.A t Q' E' s':=fun {α t Q' E' s'} hh=>by
    rw [eP,eW,eA,eXe] at hh
    exact wpAny_mono hh (fun _ _ q=>q) fun _ _ z=>z.elim
   refine ev (thn (yK (X:=X') (i:=0) (by rw [eN]; exact S.nd) (by rw [eN]; rfl) (.inl (by rw [eE]; exact lookup_relabel_local S.var)) (.inr (by rw [eE]; exact lookup_relabel_local S.var)) _ s4 _ H5 v u (fun σ' H'=>σ' = some v :: qm js σ∧H' = H5) I5' r5 ⟨rfl,rfl⟩) fun _ s6 ⟨σ6,H6,I6,e6,e6'⟩=>?_)
   subst e6 e6'
   have back : ∀ {σ' : St} {H7 : Hp} {s7 : Shared},Inv X' ([(D,{ cls:=.type "list",data:=.seq its.toArray k })] ++ Wt fp s4.heap) (some v :: qm js σ) H7 s7->Inv X' [] (none :: qm js σ) H7 s7:=fun {_ H7 s7} I7=>by
    refine (I7.pins_of fun p hp=>absurd hp (by simp)).weak rfl fun i v' e=>?_
    cases i with
    | zero=>simp at e
    | succ i=>simpa using e
   have fps : ∀ {σ' : St} {H7 : Hp} {s7 : Shared},Inv X' ([(D,{ cls:=.type "list",data:=.seq its.toArray k })] ++ Wt fp s4.heap) σ' H7 s7->(∀ b ∈ fp,H7 b = none)∧(∀ b ∈ fp,∀ o,s4.heap.get? b = some o->s7.heap.get? b = some o)∧s7.heap.get? D = some { cls:=.type "list",data:=.seq its.toArray k }∧H7 D = none:=fun {σ' H7 s7} I7=>by
    have g : ∀ b ∈ fp,∀ o,s4.heap.get? b = some o->s7.heap.get? b = some o∧H7 b = none:=fun b hb o e=>by
     have z:=I7.pin (b,o) (List.mem_append_right _ (List.mem_append_right _ (Y6 hb e)))
     exact ⟨z.1,z.2.1⟩
    refine ⟨fun b hb=>?_,fun b hb o e=>(g b hb o e).1,(I7.pin (D,{ cls:=.type "list",data:=.seq its.toArray k }) (List.mem_append_right _ (by simp))).1,(I7.pin (D,{ cls:=.type "list",data:=.seq its.toArray k }) (List.mem_append_right _ (by simp))).2.1⟩
    obtain ⟨o,e,_⟩:=T.obj _ _ st5 b hb
    exact (g b hb o e).2
   have hte : PTs X' ifs tt:=hX ▸ ht C s H fp
   have hee : PE X' elt te:=hX ▸ he C s H fp
   refine ev (thn (hte _ s6 _ H6 _ I6 (step v H6 y5)) fun b s7 ⟨H7,I7,q7⟩=>?_)
   cases b with
   | false =>
    rw [if_neg Bool.false_ne_true]
    rw [if_neg Bool.false_ne_true] at q7
    obtain ⟨m',hm,w7⟩:=hNN _ _ q7
    obtain ⟨g1,g2,g3,g4⟩:=fps I7
    exact ⟨m',hm,i + 1,zs,its,k,H7,back (σ':=[]) I7,T.keep _ _ _ st5 g2,g1,g3,v3,g4,z3,w7⟩
   | true =>
    rw [if_pos rfl]
    rw [if_pos rfl] at q7
    refine ev (thn (hee _ s7 _ H7 _ I7 q7) fun u8 s8 ⟨v8,H8,I8,r8,q8⟩=>?_)
    obtain ⟨m',hm,w8⟩:=hNN _ _ q8
    obtain ⟨g1,g2,g3,g4⟩:=fps I8
    have hil:=v3.length
    refine call_meets F.slot_list_append ⟨_,g3,rfl⟩ F.entry_list_append (F.args_list_append_2 _ _) (PySem.list_append D its.toArray k u8 (by rw [List.size_toArray]; omega)) ⟨g3,?_⟩
    have q:=PySem.IsL.update g3 (fun a=>a.push u8)
    have ea : its.toArray.push u8 = (its ++ [u8]).toArray:=by simp
    rw [ea] at q
    have kk : ∀ b o,b ≠ D->s8.heap.get? b = some o->(s8.heap.update D (Obj.mapSeq fun a=>a.push u8)).get? b = some o:=fun b o hb e=>(Heap.get?_update_other _ _ (Ne.symm hb)).trans e
    have I9 : Inv X' [] (none :: qm js σ) H8 { s8 with heap:=s8.heap.update D (Obj.mapSeq fun a=>a.push u8),toks:=s8.toks }:=by
     refine (back (σ':=[]) I8).turned kk g4 (by rw [eL]; exact hDC) (.inr (by rw [eS]; omega)) (fun y c e=>Nat.ne_of_lt (cellLt y c e)) fun p hp=>?_
     rw [ePn] at hp
     exact absurd hp (by simp)
    refine ⟨m',hm,i + 1,zs ++ [v8],its ++ [u8],_,H8,I9,T.keep _ _ _ st5 (fun b hb o e=>kk b o (Nat.ne_of_lt (fplt b hb)) (g2 b hb o e)),g1,q,v3.append (.cons r8 .nil),g4,?_,w8⟩
    rw [List.length_append,List.length_singleton]
    omega
 rw [eE] at loop
 exact codeAny_compStart_list loop (T.self _ 0 _ _ _ (T.keep _ _ _ st (fun b hb o e=>old b o e)) loop)
theorem vd (S : CScope X.env.scope scope x X.N ys js) (hc : X.calm = true) (hi : PI X (.Name x px) iter wi) (ht : ∀ C s₀ H₀ ex,PTs (cxC X (x :: ys) scope C s₀ H₀ ex) ifs tt) (he : ∀ C s₀ H₀ ex,PE (cxC X (x :: ys) scope C s₀ H₀ ex) elt te)
  (hs : ∀ x,foldedSetIterable iter X.env x = pure x:=by intro _; rfl) : PE X (.ListComp elt [⟨.Name x px,iter,ifs,0⟩] scope pos) (zc0 wi js tt te):=by
 intro pins s σ H Q I h
 rw [eval_ListComp]
 refine wpAny_comprehension_free (use:=none) rfl hs (YZ fun y hy e=>I.ok.has _ (S.free y hy e)) S.kind S.loc (thn (hi pins s σ H _ I h) fun v s1 h1=>thn h1 fun itv s2 h2=>?_)
 obtain ⟨it,fp,tn,J,H2,e,I2,T,st2,f2,hw⟩:=h2
 subst e
 refine V7 (Q:=Q) (R:=fun acc C=>compPost (model X.prog X.w) X.A X.xe none (EP X pins σ Q) acc C) S hc ht he I2 T st2 f2 hw ?_
 intro D C s' H' m' I' q hC hn hns
 refine ⟨m',hns,fun h' hs'=>⟨.ref D,H',?_,rfl,q⟩⟩
 have e:=I2.fpOk hC hn
 exact I'.turned (t':=s'.toks) (fun b o hb e=>(hs'.2 b hb).trans e) hn e.2.1 e.2.2.2.1 e.2.2.2.2.1 e.2.2.2.2.2
theorem Zr {i : Nat} {y : Str} {py spos : Pos} (S : CScope X.env.scope scope x X.N ys js) (hc : X.calm = true) (hN : X.N.Nodup) (hy : X.N[i]? = some y) (hl : Loc X.env.scope y) (hi : PI X (.Name x px) iter wi) (ht : ∀ C s₀ H₀ ex,PTs (cxC X (x :: ys) scope C s₀ H₀ ex) ifs tt) (he : ∀ C s₀ H₀ ex,PE (cxC X (x :: ys) scope C s₀ H₀ ex) elt te)
  (hf : X.fn y = true∨X.env.scope.names.lookup y = some .local:=by first | exact .inl rfl | exact .inr rfl | assumption)
  (hsw : swapsWith (.ListComp elt [⟨.Name x px,iter,ifs,0⟩] scope pos) (some (.Name y py)) spos.line X.env = pure true:=by rfl)
  (hs : ∀ x,foldedSetIterable iter X.env x = pure x:=by intro _; rfl) : PS X (.Assign [.Name y py] (.ListComp elt [⟨.Name x px,iter,ifs,0⟩] scope pos) spos) (zam (zc0 wi js tt te) (YS i)):=by
 intro pins s σ H D I h
 rw [exec_Assign_Name_used _ _ _ _ hsw]
 refine wpAny_bind (wpAny_standAt (wpAny_bind ?_))
 show wpAny _ X.A (do let _ ← comprehension (.ListComp elt [⟨.Name x px,iter,ifs,0⟩] scope pos) scope X.env _ (newList []) false (eval iter X.env) (some (assign (.Name y py) X.env))) _ _ s
 refine wpAny_bind (wpAny_mono (wpAny_comprehension_free (use:=some (assign (.Name y py) X.env)) (Q:=fun _ s'=>SP X pins D .next s') rfl hs (YZ fun y hy e=>I.ok.has _ (S.free y hy e)) S.kind S.loc
  (thn (hi pins s σ H _ I h) fun v s1 h1=>thn h1 fun itv s2 h2=>?_)) (fun _ s' hq=>wpAny_pure (wpAny_pure hq)) fun _ _ e=>e)
 obtain ⟨it,fp,tn,J,H2,e,I2,T,st2,f2,hw⟩:=h2
 subst e
 refine V7 (Q:=fun v H'=>YS i v σ H' D.nx) (R:=fun acc C=>compPost (model X.prog X.w) X.A X.xe (some (assign (.Name y py) X.env)) (fun _ s'=>SP X pins D .next s') acc C) S hc ht he I2 T st2 f2 hw ?_
 intro Da C s' H' m' I' q hC hn hns
 have e:=I2.fpOk hC hn
 show wpAny _ X.A (assign (.Name y py) X.env (.ref Da)) _ _ _
 refine wpAny_assign_Name (U5 I' hN hy hl (show RelV (.ref Da) (.ref Da) from rfl) (fun s2' I3 ⟨a,sb,ha⟩=>?_) hf)
 have hCa : C ≠ a:=by
  rcases ha with z | z
  ·rw [z]; exact e.2.1
  ·intro w; exact e.2.2.2.2.1 _ _ z w.symm
 refine ⟨m',hns.sameBut sb hCa,fun h' hs'=>⟨_,H',?_,q⟩⟩
 exact I3.turned (t':=s2'.toks) (fun b o hb e=>(hs'.2 b hb).trans e) hn e.2.1 e.2.2.2.1 e.2.2.2.2.1 e.2.2.2.2.2
end
theorem vf {K : PySem.W.Frag} {a : Addr} {xs : List V} {js : List Nat} {tt : TT} {te : TE} {σ : St} {H : Hp} {Q : VK} (Pv : Nat->List V->Hp->Prop) (h0 : Pv 0 [] H) (hl : ∀ i ys H,i≤xs.length->Pv i ys H->SqL K H a xs)
  (hs : ∀ i x ys H,xs[i]? = some x->Pv i ys H->ys.length < sizeLine∧tt (some x :: qm js σ) H fun b H2=>if b = true then te (some x :: qm js σ) H2 fun v H3=>Pv (i + 1) (ys ++ [v]) H3 else Pv (i + 1) ys H2)
  (hd : ∀ ys H,Pv xs.length ys H->∀ D,H D = none->Q (.ref D) (upd H D (.lst ys))) :
  Ug (Itl K a) js tt te σ Q H:=by
 refine ⟨fun i m ys H=>m = xs.length - i∧i≤xs.length∧Pv i ys H,⟨xs.length,by simp,Nat.zero_le _,h0⟩,?_⟩
 rintro i m ys H ⟨rfl,hi,p⟩
 have q:=hl i ys H hi p
 by_cases hlt : i < xs.length
 ·have hx : xs[i]? = some xs[i]:=List.getElem?_eq_getElem hlt
  obtain ⟨hz,hst⟩:=hs i xs[i] ys H hx p
  refine .inr ⟨⟨xs,xs[i],q,hx⟩,hz,Pv (i + 1),fun ys' H' p'=>⟨xs.length - (i + 1),by omega,rfl,hlt,p'⟩,fun x H' y=>?_⟩
  obtain ⟨e,y⟩:=y
  subst e
  have e2:=y xs q
  rw [hx] at e2
  cases e2
  exact hst
 ·have e : i = xs.length:=by omega
  subst e
  exact .inl ⟨⟨xs,q,Nat.le_refl _⟩,hd ys H p⟩
theorem wL {lo : Int} {n : Nat} {js : List Nat} {tt : TT} {te : TE} {σ : St} {H : Hp} {Q : VK} (Pv : Nat->List V->Hp->Prop) (h0 : Pv 0 [] H)
  (hs : ∀ i ys H,i < n->Pv i ys H->ys.length < sizeLine∧tt (some (.int (lo + i)) :: qm js σ) H fun b H2=>if b = true then te (some (.int (lo + i)) :: qm js σ) H2 fun v H3=>Pv (i + 1) (ys ++ [v]) H3 else Pv (i + 1) ys H2)
  (hd : ∀ ys H,Pv n ys H->∀ D,H D = none->Q (.ref D) (upd H D (.lst ys))) :
  Ug (Itr lo n) js tt te σ Q H:=by
 refine ⟨fun i m ys H=>m = n - i∧i≤n∧Pv i ys H,⟨n,by simp,Nat.zero_le _,h0⟩,?_⟩
 rintro i m ys H ⟨rfl,hi,p⟩
 by_cases hlt : i < n
 ·obtain ⟨hz,hst⟩:=hs i ys H hlt p
  refine .inr ⟨hlt,hz,Pv (i + 1),fun ys' H' p'=>⟨n - (i + 1),by omega,rfl,hlt,p'⟩,fun x H' y=>?_⟩
  obtain ⟨e,y⟩:=y
  subst e y
  exact hst
 ·have e : i = n:=by omega
  subst e
  exact .inl ⟨Nat.le_refl _,hd ys H p⟩
open PySem PySem.Spec PyProof.Rows PySem.SeqAt
inductive Tr where
 | non | bl (b : Bool) | int (i : Int) | str (x : Str) | lst (ts : List Tr) | tup (ts : List Tr)
mutual
def TrAt (K : PySem.W.Frag) (H : Hp) : Tr->V->Prop
 | .non,v=>v = .non
 | .bl b,v=>v = .bl b
 | .int i,v=>v = .int i
 | .str x,v=>v = .str x
 | .lst ts,v=>∃ a xs,v = .ref a∧SqL K H a xs∧TrsAt K H ts xs
 | .tup ts,v=>∃ a xs,v = .ref a∧SqT K H a xs∧TrsAt K H ts xs
def TrsAt (K : PySem.W.Frag) (H : Hp) : List Tr->List V->Prop
 | [],xs=>xs = []
 | t :: ts,xs=>∃ y ys,xs = y :: ys∧TrAt K H t y∧TrsAt K H ts ys
end
mutual
def teq : Tr->Tr->Bool
 | .non,.non=>true
 | .bl a,.bl b=>a == b
 | .bl a,.int b=>(if a then 1 else 0) == b
 | .int a,.bl b=>a == (if b then 1 else 0)
 | .int a,.int b=>a == b
 | .str a,.str b=>a == b
 | .lst a,.lst b=>qe a b
 | .tup a,.tup b=>qe a b
 | _,_=>false
def qe : List Tr->List Tr->Bool
 | [],[]=>true
 | t :: ts,u :: us=>teq t u && qe ts us
 | _,_=>false
end
mutual
def jg : Tr->Nat
 | .lst ts=>xW ts + 1
 | .tup ts=>xW ts + 1
 | _=>0
def xW : List Tr->Nat
 | []=>0
 | t :: ts=>max (jg t) (xW ts)
end
theorem Yg {t : Tr} : ∀ {ts : List Tr},t ∈ ts->jg t≤xW ts
 | u :: ts,h=>by
  rw [xW]
  rcases List.mem_cons.mp h with e | h
  ·rw [e]; exact Nat.le_max_left _ _
  ·exact Nat.le_trans (Yg h) (Nat.le_max_right _ _)
section
variable {K : PySem.W.Frag} {H : Hp}
theorem TrsAt.length : ∀ {ts : List Tr} {xs : List V},TrsAt K H ts xs->ts.length = xs.length
 | [],xs,h=>by rw [TrsAt] at h; subst h; rfl
 | t :: ts,xs,h=>by
  rw [TrsAt] at h
  obtain ⟨y,ys,rfl,_,h⟩:=h
  rw [List.length_cons,List.length_cons,TrsAt.length h]
theorem TrsAt.get : ∀ {ts : List Tr} {xs : List V} {j : Nat} {t : Tr},TrsAt K H ts xs->ts[j]? = some t->∃ x,xs[j]? = some x∧TrAt K H t x
 | [],xs,j,t,h,e=>by simp at e
 | u :: ts,xs,0,t,h,e=>by
  rw [TrsAt] at h
  obtain ⟨y,ys,rfl,hy,h⟩:=h
  simp at e
  subst e
  exact ⟨y,rfl,hy⟩
 | u :: ts,xs,j + 1,t,h,e=>by
  rw [TrsAt] at h
  obtain ⟨y,ys,rfl,hy,h⟩:=h
  obtain ⟨x,e1,e2⟩:=TrsAt.get (j:=j) h (by simpa using e)
  exact ⟨x,by simpa using e1,e2⟩
theorem TrsAt.mk : ∀ {ts : List Tr} {xs : List V},ts.length = xs.length->(∀ (j : Nat) (t : Tr) (x : V),ts[j]? = some t->xs[j]? = some x->TrAt K H t x)->TrsAt K H ts xs
 | [],[],_,_=>by rw [TrsAt]
 | [],_ :: _,h,_=>by simp at h
 | _ :: _,[],h,_=>by simp at h
 | t :: ts,x :: xs,h,f=>by
  rw [TrsAt]
  exact ⟨x,xs,rfl,f 0 t x rfl rfl,TrsAt.mk (by simpa using h) fun j t x e1 e2=>f (j + 1) t x (by simpa using e1) (by simpa using e2)⟩
theorem TrsAt.ints : ∀ {ns : List Int},TrsAt K H (ns.map Tr.int) (ns.map V.int)
 | []=>by rw [List.map_nil,TrsAt]; rfl
 | n :: ns=>by rw [List.map_cons,TrsAt]; exact ⟨_,_,rfl,by rw [TrAt],TrsAt.ints⟩
def wG (ns : List Int) : Tr:=.lst (ns.map Tr.int)
theorem TrAt.ints {a : Addr} {ns : List Int} (h : SqL K H a (ns.map V.int)) : TrAt K H (wG ns) (.ref a):=by
 unfold wG; rw [TrAt]; exact ⟨a,_,rfl,h,TrsAt.ints⟩
end
mutual
theorem Vk : ∀ t : Tr,teq t t = true
 | .non=>by rw [teq]
 | .bl b=>by rw [teq]; simp
 | .int i=>by rw [teq]; simp
 | .str x=>by rw [teq]; simp
 | .lst ts=>by rw [teq]; exact Zd ts
 | .tup ts=>by rw [teq]; exact Zd ts
theorem Zd : ∀ ts : List Tr,qe ts ts = true
 | []=>by rw [qe]
 | t :: ts=>by rw [qe,Vk t,Zd ts]; rfl
end
theorem JB {α : Type} [DecidableEq α] {f : α->Tr} (h : ∀ a b,teq (f a) (f b) = decide (a = b)) : ∀ (xs ys : List α),qe (xs.map f) (ys.map f) = decide (xs = ys)
 | [],[]=>by simp [qe]
 | [],_ :: _=>by simp [qe]
 | _ :: _,[]=>by simp [qe]
 | x :: xs,y :: ys=>by
  rw [List.map_cons,List.map_cons,qe,h,JB h xs ys,Bool.eq_iff_iff]
  simp
theorem zdY (a b : Int) : teq (.int a) (.int b) = decide (a = b):=by rw [teq,Bool.eq_iff_iff]; simp
theorem Zf (a b : List Int) : teq (wG a) (wG b) = decide (a = b):=by unfold wG; rw [teq]; exact JB zdY a b
theorem Uh : ∀ ns : List Int,xW (ns.map Tr.int) = 0
 | []=>by simp [xW]
 | n :: ns=>by rw [List.map_cons,xW,Uh ns,jg] <;> simp
theorem ZQ (ns : List Int) : jg (wG ns) = 1:=by unfold wG; rw [jg,Uh]
theorem Yj : ∀ {ts us : List Tr},ts.length ≠ us.length->qe ts us = false
 | [],[],h=>absurd rfl h
 | [],_ :: _,_=>by simp [qe]
 | _ :: _,[],_=>by simp [qe]
 | t :: ts,u :: us,h=>by rw [qe,Yj (by simpa using h),Bool.and_false]
def eAt (ts us : List Tr) (j : Nat) : Bool:=match ts[j]?,us[j]? with
 | some t,some u=>teq t u
 | _,_=>true
theorem Jf : ∀ {ts us : List Tr},ts.length = us.length->(List.range ts.length).all (eAt ts us) = qe ts us
 | [],[],_=>by simp [qe]
 | [],_ :: _,h=>by simp at h
 | _ :: _,[],h=>by simp at h
 | t :: ts,u :: us,h=>by
  rw [List.length_cons,List.range_succ_eq_map,List.all_cons,List.all_map,qe,← Jf (ts:=ts) (us:=us) (by simpa using h)]
  rfl
section
variable {X : Cx} {pins : List (Addr × Obj)} {σ : St} {H : Hp} {s : Shared}
theorem VF (I : Inv X pins σ H s) : ∀ (n : Nat) {t u : Tr} {v : V},jg t≤n->TrAt X.K H t v->TrAt X.K H u v->t = u:=by
 intro n
 induction n with
 | zero =>
  intro t u v hd ht hu
  cases t with
  | lst ts=>rw [jg] at hd; omega
  | tup ts=>rw [jg] at hd; omega
  | _=>(rw [TrAt] at ht; subst ht; cases u <;> (rw [TrAt] at hu) <;> first | rfl | (obtain ⟨_,_,z,_⟩:=hu; cases z) | (cases hu; rfl) | cases hu)
 | succ n ih =>
  intro t u v hd ht hu
  have lists : ∀ {ts us : List Tr} {xs : List V},xW ts≤n->TrsAt X.K H ts xs->TrsAt X.K H us xs->ts = us:=by
   intro ts us xs hd h1 h2
   apply List.ext_getElem?
   intro j
   have l1:=h1.length
   have l2:=h2.length
   by_cases hj : j < ts.length
   ·obtain ⟨t,e⟩ : ∃ t,ts[j]? = some t:=⟨_,List.getElem?_eq_getElem hj⟩
    obtain ⟨u,e'⟩ : ∃ u,us[j]? = some u:=⟨_,List.getElem?_eq_getElem (by omega)⟩
    obtain ⟨x,ex,hx⟩:=h1.get e
    obtain ⟨y,ey,hy⟩:=h2.get e'
    rw [ex] at ey
    cases ey
    rw [e,e',ih (Nat.le_trans (Yg (List.mem_of_getElem? e)) hd) hx hy]
   ·rw [List.getElem?_eq_none (by omega),List.getElem?_eq_none (by omega)]
  cases t with
  | lst ts =>
   rw [TrAt] at ht
   obtain ⟨a,xs,rfl,q,h1⟩:=ht
   cases u with
   | lst us =>
    rw [TrAt] at hu
    obtain ⟨b,ys,e,q',h2⟩:=hu
    cases e
    rw [I.list_inj q' q] at h2
    rw [lists (by rw [jg] at hd; omega) h1 h2]
   | tup us =>
    rw [TrAt] at hu
    obtain ⟨b,ys,e,q',h2⟩:=hu
    cases e
    obtain ⟨_,_,pl,_⟩:=I.list q
    obtain ⟨_,_,pt,_⟩:=I.tuple q'
    exact absurd rfl (ne_of_list_tuple pl.isList pt)
   | _=>rw [TrAt] at hu; cases hu
  | tup ts =>
   rw [TrAt] at ht
   obtain ⟨a,xs,rfl,q,h1⟩:=ht
   cases u with
   | tup us =>
    rw [TrAt] at hu
    obtain ⟨b,ys,e,q',h2⟩:=hu
    cases e
    rw [I.tuple_inj q' q] at h2
    rw [lists (by rw [jg] at hd; omega) h1 h2]
   | lst us =>
    rw [TrAt] at hu
    obtain ⟨b,ys,e,q',h2⟩:=hu
    cases e
    obtain ⟨_,_,pl,_⟩:=I.list q'
    obtain ⟨_,_,pt,_⟩:=I.tuple q
    exact absurd rfl (ne_of_list_tuple pl.isList pt)
   | _=>rw [TrAt] at hu; cases hu
  | _=>(rw [TrAt] at ht; subst ht; cases u <;> (rw [TrAt] at hu) <;> first | rfl | (obtain ⟨_,_,z,_⟩:=hu; cases z) | (cases hu; rfl) | cases hu)
structure zf2 (A : Around) (s : Shared) (a b : Value) (r : Bool) : Prop where
 rc : RcAt A s a b r
 ne : RcNeAt A s a b (!r)
 eq : EqAt A s a b r
theorem units_in1 (A : Around) : A.in1.units = A.units + 1:=rfl
theorem Vb (I : Inv X pins σ H s) : ∀ (n : Nat) {t u : Tr} {v w : V} {a b : Value} {A : Around},jg t≤n->TrAt X.K H t v->TrAt X.K H u w->RelV v a->RelV w b->A.units + n < cLine->zf2 A s a b (teq t u):=by
 intro n
 induction n with
 | zero =>
  intro t u v w a b A hd ht hu ra rb hA
  have hA' : A.units < cLine:=by omega
  cases t with
  | lst ts=>rw [jg] at hd; omega
  | tup ts=>rw [jg] at hd; omega
  | non =>
   rw [TrAt] at ht; subst ht; cases ra
   cases u with
   | non=>rw [TrAt] at hu; subst hu; cases rb; rw [teq]; exact ⟨.none_none,.none_none,.same _⟩
   | bl b=>rw [TrAt] at hu; subst hu; cases rb; simp only [teq]; exact ⟨.none_bool _,.none_bool _,.none_bool _⟩
   | int b=>rw [TrAt] at hu; subst hu; obtain ⟨_,rfl⟩:=rb; simp only [teq]; exact ⟨.none_int _ _,.none_int _ _,.none_int _ _⟩
   | str b=>rw [TrAt] at hu; subst hu; obtain ⟨_,rfl⟩:=rb; simp only [teq]; exact ⟨.none_str _ _,.none_str _ _,.none_str _ _⟩
   | lst us=>rw [TrAt] at hu; obtain ⟨p,ys,rfl,q,_⟩:=hu; cases rb; obtain ⟨_,_,pl,_⟩:=I.list q; simp only [teq]; exact ⟨.none_list pl.isList hA',.none_list pl.isList hA',.none_list pl.isList hA'⟩
   | tup us=>rw [TrAt] at hu; obtain ⟨p,ys,rfl,q,_⟩:=hu; cases rb; obtain ⟨_,_,pl,_⟩:=I.tuple q; simp only [teq]; exact ⟨.none_tuple pl hA',.none_tuple pl hA',.none_tuple pl hA'⟩
  | bl c =>
   rw [TrAt] at ht; subst ht; cases ra
   cases u with
   | non=>rw [TrAt] at hu; subst hu; cases rb; simp only [teq]; exact ⟨.bool_none _,.bool_none _,.bool_none _⟩
   | bl b=>rw [TrAt] at hu; subst hu; cases rb; rw [teq]; exact ⟨.bool_bool _ _,.bool_bool _ _,.bool_bool _ _⟩
   | int b=>rw [TrAt] at hu; subst hu; obtain ⟨_,rfl⟩:=rb; rw [teq]; exact ⟨.bool_int _ _ _,.bool_int _ _ _,.bool_int _ _ _⟩
   | str b=>rw [TrAt] at hu; subst hu; obtain ⟨_,rfl⟩:=rb; simp only [teq]; exact ⟨.bool_str _ _ _,.bool_str _ _ _,.bool_str _ _ _⟩
   | lst us=>rw [TrAt] at hu; obtain ⟨p,ys,rfl,q,_⟩:=hu; cases rb; obtain ⟨_,_,pl,_⟩:=I.list q; simp only [teq]; exact ⟨.bool_list _ pl.isList hA',.bool_list _ pl.isList hA',.bool_list _ pl.isList hA'⟩
   | tup us=>rw [TrAt] at hu; obtain ⟨p,ys,rfl,q,_⟩:=hu; cases rb; obtain ⟨_,_,pl,_⟩:=I.tuple q; simp only [teq]; exact ⟨.bool_tuple _ pl hA',.bool_tuple _ pl hA',.bool_tuple _ pl hA'⟩
  | int c =>
   rw [TrAt] at ht; subst ht; obtain ⟨_,rfl⟩:=ra
   cases u with
   | non=>rw [TrAt] at hu; subst hu; cases rb; simp only [teq]; exact ⟨.int_none _ _,.int_none _ _,.int_none _ _⟩
   | bl b=>rw [TrAt] at hu; subst hu; cases rb; rw [teq]; exact ⟨.int_bool _ _ _,.int_bool _ _ _,.int_bool _ _ _⟩
   | int b=>rw [TrAt] at hu; subst hu; obtain ⟨_,rfl⟩:=rb; rw [teq]; exact ⟨.int_int _ _ _ _,.int_int _ _ _ _,.int_int _ _ _ _⟩
   | str b=>rw [TrAt] at hu; subst hu; obtain ⟨_,rfl⟩:=rb; simp only [teq]; exact ⟨.int_str _ _ _ _,.int_str _ _ _ _,.int_str _ _ _ _⟩
   | lst us=>rw [TrAt] at hu; obtain ⟨p,ys,rfl,q,_⟩:=hu; cases rb; obtain ⟨_,_,pl,_⟩:=I.list q; simp only [teq]; exact ⟨.int_list _ _ pl.isList hA',.int_list _ _ pl.isList hA',.int_list _ _ pl.isList hA'⟩
   | tup us=>rw [TrAt] at hu; obtain ⟨p,ys,rfl,q,_⟩:=hu; cases rb; obtain ⟨_,_,pl,_⟩:=I.tuple q; simp only [teq]; exact ⟨.int_tuple _ _ pl hA',.int_tuple _ _ pl hA',.int_tuple _ _ pl hA'⟩
  | str c =>
   rw [TrAt] at ht; subst ht; obtain ⟨_,rfl⟩:=ra
   cases u with
   | non=>rw [TrAt] at hu; subst hu; cases rb; simp only [teq]; exact ⟨.str_none _ _,.str_none _ _,.str_none _ _⟩
   | bl b=>rw [TrAt] at hu; subst hu; cases rb; simp only [teq]; exact ⟨.str_bool _ _ _,.str_bool _ _ _,.str_bool _ _ _⟩
   | int b=>rw [TrAt] at hu; subst hu; obtain ⟨_,rfl⟩:=rb; simp only [teq]; exact ⟨.str_int _ _ _ _,.str_int _ _ _ _,.str_int _ _ _ _⟩
   | str b=>rw [TrAt] at hu; subst hu; obtain ⟨_,rfl⟩:=rb; rw [teq]; exact ⟨.str_str _ _ _ _,.str_str _ _ _ _,.str_str _ _ _ _⟩
   | lst us=>rw [TrAt] at hu; obtain ⟨p,ys,rfl,q,_⟩:=hu; cases rb; obtain ⟨_,_,pl,_⟩:=I.list q; simp only [teq]; exact ⟨.str_list _ _ pl.isList hA',.str_list _ _ pl.isList hA',.str_list _ _ pl.isList hA'⟩
   | tup us=>rw [TrAt] at hu; obtain ⟨p,ys,rfl,q,_⟩:=hu; cases rb; obtain ⟨_,_,pl,_⟩:=I.tuple q; simp only [teq]; exact ⟨.str_tuple _ _ pl hA',.str_tuple _ _ pl hA',.str_tuple _ _ pl hA'⟩
 | succ n ih =>
  intro t u v w a b A hd ht hu ra rb hA
  have hA' : A.units < cLine:=by omega
  have items : ∀ {ts us : List Tr} {xs ys : List V} {its its2 : List Value},xW ts≤n->TrsAt X.K H ts xs->TrsAt X.K H us ys->Vals xs its->Vals ys its2 ->
    ∀ j (h1 : j < its.toArray.size) (h2 : j < its2.toArray.size),EqAt A.in1 s its.toArray[j] its2.toArray[j] (eAt ts us j):=by
   intro ts us xs ys its its2 hdn h1 h2 r1 r2 j hj1 hj2
   have l1:=h1.length
   have l2:=h2.length
   have m1:=r1.length
   have m2:=r2.length
   rw [List.size_toArray] at hj1 hj2
   obtain ⟨t,e⟩ : ∃ t,ts[j]? = some t:=⟨_,List.getElem?_eq_getElem (by omega)⟩
   obtain ⟨u,e'⟩ : ∃ u,us[j]? = some u:=⟨_,List.getElem?_eq_getElem (by omega)⟩
   obtain ⟨x,ex,hx⟩:=h1.get e
   obtain ⟨y,ey,hy⟩:=h2.get e'
   obtain ⟨vx,fx,rx⟩:=r1.get ex
   obtain ⟨vy,fy,ry⟩:=r2.get ey
   have g1 : its.toArray[j]'(by simpa using hj1) = vx:=by
    have z : its[j] = vx:=Option.some.inj ((List.getElem?_eq_getElem hj1).symm.trans fx)
    simpa using z
   have g2 : its2.toArray[j]'(by simpa using hj2) = vy:=by
    have z : its2[j] = vy:=Option.some.inj ((List.getElem?_eq_getElem hj2).symm.trans fy)
    simpa using z
   rw [g1,g2]
   have q:=(ih (A:=A.in1) (Nat.le_trans (Yg (List.mem_of_getElem? e)) hdn) hx hy rx ry (by rw [units_in1]; omega)).eq
   unfold eAt
   rw [e,e']
   exact q
  by_cases hz : jg t≤n
  ·exact ih hz ht hu ra rb (by omega)
  cases t with
  | lst ts =>
   rw [TrAt] at ht; obtain ⟨p,xs,rfl,q,h1⟩:=ht; cases ra
   obtain ⟨its,r1,pl,_⟩:=I.list q
   cases u with
   | non=>rw [TrAt] at hu; subst hu; cases rb; simp only [teq]; exact ⟨.list_none pl.isList hA',.list_none pl.isList hA',.list_none pl.isList hA'⟩
   | bl b=>rw [TrAt] at hu; subst hu; cases rb; simp only [teq]; exact ⟨.list_bool _ pl.isList hA',.list_bool _ pl.isList hA',.list_bool _ pl.isList hA'⟩
   | int b=>rw [TrAt] at hu; subst hu; obtain ⟨_,rfl⟩:=rb; simp only [teq]; exact ⟨.list_int _ _ pl.isList hA',.list_int _ _ pl.isList hA',.list_int _ _ pl.isList hA'⟩
   | str b=>rw [TrAt] at hu; subst hu; obtain ⟨_,rfl⟩:=rb; simp only [teq]; exact ⟨.list_str _ _ pl.isList hA',.list_str _ _ pl.isList hA',.list_str _ _ pl.isList hA'⟩
   | tup us=>rw [TrAt] at hu; obtain ⟨p',ys,rfl,q',_⟩:=hu; cases rb; obtain ⟨_,_,pl',_⟩:=I.tuple q'; simp only [teq]; exact ⟨.list_tuple pl.isList pl' hA',.list_tuple pl.isList pl' hA',.list_tuple pl.isList pl' hA'⟩
   | lst us =>
    have hu0:=hu
    rw [TrAt] at hu; obtain ⟨p',ys,rfl,q',h2⟩:=hu; cases rb
    obtain ⟨its2,r2,pl',_⟩:=I.list q'
    have l1:=h1.length
    have l2:=h2.length
    have m1:=r1.length
    have m2:=r2.length
    have hdn : xW ts≤n:=by rw [jg] at hd; omega
    have both : RcAt A s (.ref p) (.ref p') (qe ts us)∧RcNeAt A s (.ref p) (.ref p') (!qe ts us):=by
     by_cases hsz : ts.length = us.length
     ·have hs : its.toArray.size = its2.toArray.size:=by rw [List.size_toArray,List.size_toArray]; omega
      have it:=items hdn h1 h2 r1 r2
      have e1 : (List.range its.toArray.size).all (eAt ts us) = qe ts us:=by
       rw [List.size_toArray,← m1,← l1]; exact Jf hsz
      have a1:=RcAt.lists pl.isList pl'.isList hs hA' it
      have a2:=RcNeAt.lists pl.isList pl'.isList hs hA' it
      rw [e1] at a1 a2
      exact ⟨a1,a2⟩
     ·have hs : (its.toArray.size != its2.toArray.size) = true:=by
       rw [List.size_toArray,List.size_toArray,bne_iff_ne]; omega
      rw [Yj hsz]
      exact ⟨.lists_lengths pl.isList pl'.isList hs hA',.lists_lengths pl.isList pl'.isList hs hA'⟩
    rw [teq]
    refine ⟨both.1,both.2,?_⟩
    by_cases hpp : p = p'
    ·subst hpp
     have e : Tr.lst ts = Tr.lst us:=VF I (n + 1) hd (show TrAt X.K H (.lst ts) (.ref p) by rw [TrAt]; exact ⟨p,xs,rfl,q,h1⟩) hu0
     cases e
     rw [Zd]
     exact .same _
    ·exact .of_refs hpp both.1
  | tup ts =>
   rw [TrAt] at ht; obtain ⟨p,xs,rfl,q,h1⟩:=ht; cases ra
   obtain ⟨its,r1,pl,_⟩:=I.tuple q
   cases u with
   | non=>rw [TrAt] at hu; subst hu; cases rb; simp only [teq]; exact ⟨.tuple_none pl hA',.tuple_none pl hA',.tuple_none pl hA'⟩
   | bl b=>rw [TrAt] at hu; subst hu; cases rb; simp only [teq]; exact ⟨.tuple_bool _ pl hA',.tuple_bool _ pl hA',.tuple_bool _ pl hA'⟩
   | int b=>rw [TrAt] at hu; subst hu; obtain ⟨_,rfl⟩:=rb; simp only [teq]; exact ⟨.tuple_int _ _ pl hA',.tuple_int _ _ pl hA',.tuple_int _ _ pl hA'⟩
   | str b=>rw [TrAt] at hu; subst hu; obtain ⟨_,rfl⟩:=rb; simp only [teq]; exact ⟨.tuple_str _ _ pl hA',.tuple_str _ _ pl hA',.tuple_str _ _ pl hA'⟩
   | lst us=>rw [TrAt] at hu; obtain ⟨p',ys,rfl,q',_⟩:=hu; cases rb; obtain ⟨_,_,pl',_⟩:=I.list q'; simp only [teq]; exact ⟨.tuple_list pl pl'.isList hA',.tuple_list pl pl'.isList hA',.tuple_list pl pl'.isList hA'⟩
   | tup us =>
    have hu0:=hu
    rw [TrAt] at hu; obtain ⟨p',ys,rfl,q',h2⟩:=hu; cases rb
    obtain ⟨its2,r2,pl',_⟩:=I.tuple q'
    have l1:=h1.length
    have l2:=h2.length
    have m1:=r1.length
    have m2:=r2.length
    have hdn : xW ts≤n:=by rw [jg] at hd; omega
    have e1 : ((List.range (min its.toArray.size its2.toArray.size)).all (eAt ts us) && its.toArray.size == its2.toArray.size) = qe ts us:=by
     rw [List.size_toArray,List.size_toArray,← m1,← l1,← m2,← l2]
     by_cases hsz : ts.length = us.length
     ·rw [← hsz,Nat.min_self,beq_self_eq_true,Bool.and_true]; exact Jf hsz
     ·rw [Yj hsz,beq_eq_false_iff_ne.mpr hsz,Bool.and_false]
    have it:=items hdn h1 h2 r1 r2
    have a1:=RcAt.tuples pl pl' hA' it
    have a2:=RcNeAt.tuples pl pl' hA' it
    rw [e1] at a1 a2
    rw [teq]
    refine ⟨a1,a2,?_⟩
    by_cases hpp : p = p'
    ·subst hpp
     have e : Tr.tup ts = Tr.tup us:=VF I (n + 1) hd (show TrAt X.K H (.tup ts) (.ref p) by rw [TrAt]; exact ⟨p,xs,rfl,q,h1⟩) hu0
     cases e
     rw [Zd]
     exact .same _
    ·exact .of_refs hpp a1
  | non=>exact absurd (Nat.zero_le _) hz
  | bl b=>exact absurd (Nat.zero_le _) hz
  | int b=>exact absurd (Nat.zero_le _) hz
  | str b=>exact absurd (Nat.zero_le _) hz
end
section
variable {X : Cx}
def zeg (K : PySem.W.Frag) (neg : Bool) : R2:=fun x y H Q=>∃ t u,TrAt K H t x∧TrAt K H u y∧jg t≤8∧Q (.bl (if neg then !teq t u else teq t u)) H
theorem zeK (hu : X.A.units + 64 < cLine) : OpR X (compareOp .Eq) (zeg X.K false):=by
 intro pins s σ H x y v u Q I rx ry h
 obtain ⟨t,t',h1,h2,hd,q⟩:=h
 exact (Vb I 8 hd h1 h2 rx ry (by omega)).rc _ _ _ _ ⟨.bl _,H,I,rfl,q⟩
theorem zeO (hu : X.A.units + 64 < cLine) : OpR X (compareOp .NotEq) (zeg X.K true):=by
 intro pins s σ H x y v u Q I rx ry h
 obtain ⟨t,t',h1,h2,hd,q⟩:=h
 exact (Vb I 8 hd h1 h2 rx ry (by omega)).ne _ _ _ _ ⟨.bl _,H,I,rfl,q⟩
open Classical in
def zfs (K : PySem.W.Frag) (neg : Bool) : R2:=fun x y H Q=>∃ p xs ts u,y = .ref p∧SqL K H p xs∧TrsAt K H ts xs∧TrAt K H u x∧xW ts≤8∧Q (.bl (if neg then !(ts.any fun t=>teq t u) else ts.any fun t=>teq t u)) H
open Classical in
theorem zcB {pins : List (Addr × Obj)} {σ : St} {H : Hp} {s : Shared} (I : Inv X pins σ H s) {u : Tr} : ∀ {ts : List Tr} {xs : List V} {its : List Value},xW ts≤8->TrsAt X.K H ts xs->Vals xs its ->
  its.any (fun y=>decide (∃ t x,RelV x y∧TrAt X.K H t x∧teq t u = true)) = ts.any fun t=>teq t u
 | [],xs,its,_,h,r=>by rw [TrsAt] at h; subst h; cases r; rfl
 | t :: ts,xs,its,hd,h,r=>by
  rw [TrsAt] at h
  obtain ⟨y,ys,rfl,hy,h⟩:=h
  cases r with
  | cons r1 r2 =>
   rw [xW] at hd
   rw [List.any_cons,List.any_cons,zcB I (by omega) h r2]
   congr 1
   rw [Bool.eq_iff_iff,decide_eq_true_iff]
   constructor
   ·rintro ⟨t',x',r',h',e⟩
    rw [r1.inj r'] at hy
    rw [VF I 8 (by omega) hy h']; exact e
   ·intro e
    exact ⟨t,y,r1,hy,e⟩
open Classical in
theorem zbs {pins : List (Addr × Obj)} {σ : St} {H : Hp} {s : Shared} (I : Inv X pins σ H s) (hu : X.A.units + 64 < cLine) {u : Tr} {x : V} {v : Value} (hx : TrAt X.K H u x) (rx : RelV x v) {ts : List Tr} {xs : List V} {its : List Value} (hd : xW ts≤8) (h : TrsAt X.K H ts xs) (r : Vals xs its) :
  ∀ y,y ∈ its.toArray->SeqAt.EqAt X.A.in1 s y v (decide (∃ t x,RelV x y∧TrAt X.K H t x∧teq t u = true)):=by
 intro y hy
 have hy' : y ∈ its:=by simpa using hy
 obtain ⟨j,hj,e⟩:=List.getElem_of_mem hy'
 have l1:=h.length
 have m1:=r.length
 obtain ⟨t,et⟩ : ∃ t,ts[j]? = some t:=⟨_,List.getElem?_eq_getElem (by omega)⟩
 obtain ⟨z,ez,hz⟩:=h.get et
 obtain ⟨w,ew,rw'⟩:=r.get ez
 have e' : y = w:=by
  rw [List.getElem?_eq_getElem hj] at ew
  exact e.symm.trans (Option.some.inj ew)
 subst e'
 have hd' : jg t≤8:=Nat.le_trans (Yg (List.mem_of_getElem? et)) hd
 have q:=(Vb I 8 (A:=X.A.in1) hd' hz hx rw' rx (by rw [units_in1]; omega)).eq
 have e2 : decide (∃ t x,RelV x y∧TrAt X.K H t x∧teq t u = true) = teq t u:=by
  rw [Bool.eq_iff_iff,decide_eq_true_iff]
  constructor
  ·rintro ⟨t',x',r',h',e3⟩
   rw [rw'.inj r'] at hz
   rw [VF I 8 hd' hz h']; exact e3
  ·intro e3
   exact ⟨t,z,rw',hz,e3⟩
 rw [e2]
 exact q
open Classical in
theorem zb3 (hu : X.A.units + 64 < cLine) : OpR X (compareOp .NotIn) (zfs X.K true):=by
 intro pins s σ H x y v u Q I rx ry h
 obtain ⟨p,xs,ts,t,rfl,hq,hts,ht,hd,q⟩:=h
 cases ry
 obtain ⟨its,r,pl,hz⟩:=I.list hq
 refine SeqAt.notIn_listAt _ pl.isList (zbs I hu ht rx hd hts r) ⟨.bl _,H,I,rfl,?_⟩
 simp only [List.any_toArray]
 rw [zcB I hd hts r]
 exact q
end
end L2
namespace L2
open PySem PySem.Spec PyProof.Rows
theorem zcU {K : PySem.W.Frag} {T U : String} {b : Bool} (h1 : PySem.W.kitMeta U = true) (h2 : (fastBuiltinMro T).map (·.contains (Value.type U)) = some b) (hb : T = U->b = true) : PySem.W.kitOne K (.type T) (.type U) = some b:=by
 unfold PySem.W.kitOne
 by_cases e : T = U
 ·subst e
  rw [if_pos (by simp),hb rfl]
 ·rw [if_neg (by simpa using e)]
  show (if PySem.W.kitMeta U = true then PySem.W.subIn K (.type T) (.type U) else none) = some b
  rw [if_pos h1]
  exact h2
section
variable {K : PySem.W.Frag}
end
section
variable {X : Cx}
def zfo (K : PySem.W.Frag) : List V->Hp->VK->Prop:=fun xs H Q=>∃ x T t b,xs = [x,.ty T]∧Xr K H x t∧PySem.W.kitOne K t (.type T) = some b∧Q (.bl b) H
theorem zcD : vm X (.builtin "isinstance") (zfo X.K):=by
 intro pins s σ H xs us Q I r h
 obtain ⟨x,T,t,b,rfl,ty,e,q⟩:=h
 obtain ⟨u,v,rfl,rx,rt⟩:=vals2 r
 cases rt
 exact zbQ I rx ty e fun tk=>⟨.bl b,H,I.tok tk,rfl,q⟩
def zfM (i j : Int) : Prop:=0 < j∧j < 2 ^ 200
theorem vB : OpR X (binaryOp .FloorDiv) (rI zfM fun i j=>.int (i / j)):=opI fun i j _ _ _ _ _ hc q=>by
 have h1 : (0 : Int) < j:=hc.1
 have h2 : j < 2 ^ 200:=hc.2
 refine floordiv_int (by omega) (by rw [Int.fdiv_eq_ediv_of_nonneg i (by omega)]; exact q) (.inl (PyProof.noPylong_of_log2 ?_))
 have h3 : j.natAbs < 2 ^ 200:=by omega
 have h4 : j.natAbs.log2 < 200:=(Nat.log2_lt (by omega)).mpr h3
 omega
theorem WD {P : Program} {w : World} {A : Around} {its : List Value} {bs : List Bool} (r : Vals (bs.map V.bl) its) : TruthOf P w A (fun i v=>its.toArray[i]? = some v) (fun i=>bs.getD i false):=by
 intro i v s Q E hP hQ
 have hl:=r.length
 rw [List.length_map] at hl
 have e : its[i]? = some v:=by simpa using hP
 have hi : i < its.length:=(List.getElem?_eq_some_iff.mp e).1
 have e2 : (bs.map V.bl)[i]? = some (.bl (bs[i]'(by omega))):=by rw [List.getElem?_map,List.getElem?_eq_getElem (by omega)]; rfl
 obtain ⟨u,e3,r3⟩:=r.get e2
 rw [e] at e3
 cases e3
 cases r3
 have e4 : bs.getD i false = bs[i]:=by rw [List.getD_eq_getElem?_getD,List.getElem?_eq_getElem (by omega)]; rfl
 exact wpAny_truthy_bool (e4 ▸ hQ)
theorem J6 : ∀ bs : List Bool,(List.range bs.length).all (fun i=>bs.getD i false) = bs.all id
 | []=>rfl
 | b :: bs=>by
  rw [List.length_cons,List.range_succ_eq_map,List.all_cons,List.all_map,List.all_cons,← J6 bs]
  rfl
theorem JQ : ∀ bs : List Bool,(List.range bs.length).any (fun i=>bs.getD i false) = bs.any id
 | []=>rfl
 | b :: bs=>by
  rw [List.length_cons,List.range_succ_eq_map,List.any_cons,List.any_map,List.any_cons,← JQ bs]
  rfl
def zfn (K : PySem.W.Frag) : List V->Hp->VK->Prop:=fun xs H Q=>∃ (a : Addr) (bs : List Bool),xs = [.ref a]∧SqL K H a (bs.map V.bl)∧Q (.bl (bs.all id)) H
def zfR (K : PySem.W.Frag) : List V->Hp->VK->Prop:=fun xs H Q=>∃ (a : Addr) (bs : List Bool),xs = [.ref a]∧SqL K H a (bs.map V.bl)∧Q (.bl (bs.any id)) H
theorem zdz (hc : X.calm = true) : vm X (.builtin "all") (zfn X.K):=by
 intro pins s σ H xs us Q I r h
 obtain ⟨a,bs,rfl,hq,q⟩:=h
 obtain ⟨u,rfl,rx⟩:=vals1 r
 cases rx
 obtain ⟨its,rv,pl,hz⟩:=I.list hq
 have hl:=rv.length
 rw [List.length_map] at hl
 obtain ⟨o,n,eo,_⟩:=id pl
 have hne : a ≠ s.heap.objs.size:=Nat.ne_of_lt (Heap.lt_size eo)
 refine call_all_walk (wpAny_pyIter_list pl.isList ?_)
 refine ⟨_,_,_,_,_,_,_,rfl,Walks.list (A:=X.A.in1) (show X.A.in1.handled = none from I.ok.hd hc) s.heap.objs.size a hne its.toArray,⟨⟨_,Heap.get?_push_size _ rfl,rfl,rfl⟩,pl.isList.at fun o e=>Heap.get?_push_of_some _ e⟩,WD rv,fun h' tk hk=>?_⟩
 have I1 : Inv X pins σ H { s with heap:=h',toks:=tk }:=I.kept fun b o e=>hk b o (by have:=Heap.lt_size e; simp; exact Nat.ne_of_lt this) (Heap.get?_push_of_some _ e)
 refine ⟨.bl _,H,I1,rfl,?_⟩
 rw [List.size_toArray,← hl,J6]
 exact q
theorem zdl (hc : X.calm = true) : vm X (.builtin "any") (zfR X.K):=by
 intro pins s σ H xs us Q I r h
 obtain ⟨a,bs,rfl,hq,q⟩:=h
 obtain ⟨u,rfl,rx⟩:=vals1 r
 cases rx
 obtain ⟨its,rv,pl,hz⟩:=I.list hq
 have hl:=rv.length
 rw [List.length_map] at hl
 obtain ⟨o,n,eo,_⟩:=id pl
 have hne : a ≠ s.heap.objs.size:=Nat.ne_of_lt (Heap.lt_size eo)
 refine call_any_walk (wpAny_pyIter_list pl.isList ?_)
 refine ⟨_,_,_,_,_,_,_,rfl,Walks.list (A:=X.A.in1) (show X.A.in1.handled = none from I.ok.hd hc) s.heap.objs.size a hne its.toArray,⟨⟨_,Heap.get?_push_size _ rfl,rfl,rfl⟩,pl.isList.at fun o e=>Heap.get?_push_of_some _ e⟩,WD rv,fun h' tk hk=>?_⟩
 have I1 : Inv X pins σ H { s with heap:=h',toks:=tk }:=I.kept fun b o e=>hk b o (by have:=Heap.lt_size e; simp; exact Nat.ne_of_lt this) (Heap.get?_push_of_some _ e)
 refine ⟨.bl _,H,I1,rfl,?_⟩
 rw [List.size_toArray,← hl,JQ]
 exact q
def zcX (K : PySem.W.Frag) (te : TE) : TE:=fun σ H Q=>te σ H fun x H1=>∃ a xs,x = .ref a∧SqL K H1 a xs∧∀ p,H1 p = none->Q (.ref p) (upd H1 p (.lst xs.reverse))
theorem JK {e : Expr} {te : TE} {j : Nat} {p1 p2 p3 pos : Pos} (he : PE X e te) : PE X (.Subscript e (.Slice none none (some (.UnaryOp .USub (.Constant (.int 1) j p1) p2)) p3) pos) (zcX X.K te):=by
 intro pins s σ H Q I h
 refine Subscript_ (thn (he pins s σ H _ I h) fun v s1 ⟨x,H1,I1,r1,q1⟩=>?_)
 obtain ⟨a,xs,rfl,hx,q⟩:=q1
 cases r1
 refine wpAny_Slice ?_
 rw [evalPart_none]
 refine wpAny_pure (wpAny_pure ?_)
 rw [evalPart_some]
 refine thn (Xx Z3 (zm (X:=X)) pins s1 σ H1 (fun v H2=>v = .int (-1)∧H2 = H1) I1 ⟨1,rfl,rfl,rfl⟩) fun u s2 ⟨y,H2,I2,r2,e1,e2⟩=>?_
 subst e1 e2
 obtain ⟨t,rfl⟩:=r2
 obtain ⟨its,r,ht,hz⟩:=I2.list hx
 have hlen:=r.length
 have I3 : Inv X pins σ H2 { s2 with heap:=s2.heap.push { cls:=.type "slice",data:=.fields #[.none,.none,.int (-1) t] } }:=I2.kept (t':=s2.toks) fun b ob q=>Heap.get?_push_of_some _ q
 obtain ⟨its',r',ht',hz'⟩:=I3.list hx
 have hlen':=r'.length
 show wpAny (model X.prog X.w) X.A (subscriptTail e (.Slice none none (some _) p3) (.ref a) (.ref s2.heap.objs.size)) (EP X pins σ Q) X.xe { s2 with heap:=s2.heap.push { cls:=.type "slice",data:=.fields #[.none,.none,.int (-1) t] } }
 refine tail_any (ops:=[.ref a,.ref s2.heap.objs.size]) ht'.isList.typeIs slot_list_getitem.lookup ?_ (by with_unfolding_all rfl)
 refine wpAny_getItem_list_slice ht'.isList (Heap.IsSliceOf.new ..) .none .none (.int (-1) t) (by simp) ?_ (by rw [List.size_toArray] <;> omega)
 rw [PySem.W.krv_pick]
 refine ⟨.ref _,_,I3.laid (t':=s2.toks) (o:=.lst xs.reverse) (fun b ob q=>Heap.get?_push_of_some _ q) (Nat.le_refl _) ?_,rfl,q _ (I3.hok.fresh (Nat.le_refl _))⟩
 exact ⟨by rw [List.length_reverse]; exact hz,_,0,r'.reverse,Heap.get?_push_size _ rfl⟩
theorem zcR : typeLookup (.type "list_reverseiterator") "__len__" = pure none:=by rw [typeLookup_type,builtinLookup_eq_fast]; kernel_rfl
theorem zdT : typeLookup (.type "list_reverseiterator") "__length_hint__" = pure (some (.builtin "list_reverseiterator.__length_hint__")):=by rw [typeLookup_type,builtinLookup_eq_fast]; kernel_rfl
section
variable {prog : Program} {w : World} {A : Around} {E : Value->Shared->Prop} {s : Shared}
theorem zbc {R : Result->Shared->Prop} (hh : A.handled = none) {I l : Addr} {items : Array Value} (hit : s.heap.IsRevIter I l ((items.size : Int) - 1)) (hL : s.heap.IsList l items) (S : Addr) (res : Value) (c₀ : Nat) (hS : s.heap.get? S = some { cls:=.type "list",data:=.seq #[] c₀ })
  (hSl : S ≠ l) (hR : ∀ s' acc' c',Moved [S,I] (fun a b=>b = a) s s'->s'.heap.get? S = some { cls:=.type "list",dict:=none,data:=.seq acc' c',slots:=#[] } ->
   ItemsOf (fun i v=>items[items.size - 1 - i]? = some v) acc' items.size->R (.ok (.ret res)) s') (hn : items.size≤sizeLine) :
  wpAny (model prog w) A.in1 (Builtin.List.listExtendWith (.ref S) (.ref I) res)
   (fun fin s'=>match fin with | .done f=>R (.ok f) s' | .again c'=>c'.quiet = true∧codeAny (model prog w) A c' R s') (fun e s'=>R (.error e) s') s:=by
 obtain ⟨oi,hoi,hci,hdi⟩:=id hit
 obtain ⟨ol,hol,hcl,nl,hdl⟩:=id hL
 have hSI : S ≠ I:=by
  rintro rfl
  rw [hS] at hoi; cases hoi; exact absurd (show Value.type "list" = Value.type "list_reverseiterator" from hci) (by decide)
 have hne : l ≠ I:=by
  rintro rfl
  rw [hol] at hoi; cases hoi; rw [hcl] at hci; exact absurd hci (by decide)
 have hSf : S ∉ [I,l]:=fun hm=>by
  rcases List.mem_cons.mp hm with e | hm
  ·exact hSI e
  ·exact hSl (List.mem_singleton.mp hm)
 unfold Builtin.List.listExtendWith
 refine wpAny_bind (wpAny_typeOf (T:="list_reverseiterator") hit.typeIs ?_)
 have h1 : Builtin.List.listSameRef (.ref S) (.ref I) = false:=by simp [Builtin.List.listSameRef,hSI]
 have h2 : (Value.type "list_reverseiterator" == Value.type "list") = false:=by decide
 have h3 : (Value.type "list_reverseiterator" == Value.type "tuple") = false:=by decide
 simp only [h1,h2,h3,Bool.or_false,Bool.false_eq_true,if_false]
 refine wpAny_bind (wpAny_pyIter_revIter hit ?_)
 refine wpAny_bind (wpAny_holding ?_)
 unfold Builtin.List.listLengthHint
 refine wpAny_bind (wpAny_specialOf hit.typeIs zcR ?_)
 show wpAny _ A.in1 (specialOf (Value.ref I) (Str.ofString "__length_hint__") >>= _) _ _ _
 refine wpAny_bind (wpAny_specialOf hit.typeIs zdT ?_)
 generalize hid : ("list_reverseiterator.__length_hint__" : String) = id0
 wp_delta
 rw [show splitId id0 = some ("list_reverseiterator","__length_hint__") from by subst hid; decide +kernel]
 subst hid
 refine wpAny_bind (wpAny_isInstance (b:=true) hit.typeIs (by rw [isSubtype_type]; kernel_rfl) ?_)
 refine wpAny_pure ?_
 rw [if_neg (by decide)]
 have W:=Walks.listRev (prog:=prog) (w:=w) (A:=A.in1) hh I l hne items
 refine wpAny_pure ⟨plainId_quiet F.plain_extend_loop _,codeAny_extend_loopS W.toS hn _ hSf _ items.size 0 _ _ _ rfl (Nat.zero_le _) ⟨Nat.zero_le _,by simpa using hit,hL⟩ hS (ItemsOf.nil _) fun s' acc' c' hm hS' hacc=>?_⟩
 exact hR s' acc' c' hm hS' hacc
theorem zcz {R : Result->Shared->Prop} (hh : A.handled = none) {I l : Addr} {items : Array Value} (hit : s.heap.IsRevIter I l ((items.size : Int) - 1)) (hL : s.heap.IsList l items) (S : Addr) (hS : s.heap.get? S = some { cls:=.type "list",data:=.seq #[] }) (hSl : S ≠ l) (hSI : S ≠ I)
  (hR : ∀ s' acc' c',s'.gens = s.gens->s'.os = s.os->(∀ b o,b ≠ S->b ≠ I->s.heap.get? b = some o->s'.heap.get? b = some o)->s'.heap.get? S = some { cls:=.type "list",dict:=none,data:=.seq acc' c',slots:=#[] } ->
   ItemsOf (fun i v=>items[items.size - 1 - i]? = some v) acc' items.size->R (.ok (.ret .none)) s') (hn : items.size≤sizeLine) :
  wpAny (model prog w) A.in1 (Builtin.«list.__init__» ⟨[.ref S,.ref I],[]⟩)
   (fun fin s'=>match fin with | .done f=>R (.ok f) s' | .again c'=>c'.quiet = true∧codeAny (model prog w) A c' R s') (fun e s'=>R (.error e) s') s:=by
 show wpAny _ _ (do let old ← Builtin.List.listItems (.ref S); Builtin.List.listUpdate (.ref S) (fun _=>#[]); letGo old.toList.reverse; Builtin.List.listExtendWith (.ref S) (.ref I) .none) _ _ s
 refine wpAny_bind ?_
 unfold Builtin.List.listItems
 refine wpAny_bind (wpAny_seqItems hS rfl (wpAny_pure ?_))
 show wpAny _ _ (updateSeq S (fun _=>#[]) >>= fun _=>letGo (#[] : Array Value).toList.reverse >>= fun _=>Builtin.List.listExtendWith (.ref S) (.ref I) .none) _ _ s
 refine wpAny_bind (wpAny_updateSeq hS rfl ?_)
 have hS₂:=Heap.get?_update_self (Obj.mapSeq (fun _=>(#[] : Array Value))) hS rfl
 have oth : ∀ b o,b ≠ S->s.heap.get? b = some o->(s.heap.update S (Obj.mapSeq (fun _=>(#[] : Array Value)))).get? b = some o :=
  fun b o hb e=>(Heap.get?_update_other _ _ (Ne.symm hb)).trans e
 refine wpAny_bind (wpAny_letGo ?_)
 refine zbc (hn:=hn) hh (hit.at fun o e=>oth I o (Ne.symm hSI) e) (hL.at fun o e=>oth l o (Ne.symm hSl) e) S .none _ hS₂ hSl fun s' acc' c' hm hS' hacc=>?_
 refine hR s' acc' c' hm.gens hm.os (fun b o hb hi e=>hm.heap b o (fun z=>?_) (oth b o hb e)) hS' hacc
 rcases List.mem_cons.mp z with e' | z
 ·exact hb e'
 ·exact hi (List.mem_singleton.mp z)
theorem Xm {Q : Value->Shared->Prop} (hh : A.handled = none) {I l : Addr} {items : Array Value} (hit : s.heap.IsRevIter I l ((items.size : Int) - 1)) (hL : s.heap.IsList l items)
  (hQ : ∀ s' acc' c',s'.gens = s.gens->s'.os = s.os->(∀ b o,b ≠ I->s.heap.get? b = some o->s'.heap.get? b = some o) ->
   s'.heap.get? s.heap.objs.size = some { cls:=.type "list",dict:=none,data:=.seq acc' c',slots:=#[] }->ItemsOf (fun i v=>items[items.size - 1 - i]? = some v) acc' items.size->Q (.ref s.heap.objs.size) s') (hn : items.size≤sizeLine) :
  wpAny (model prog w) A (call (.type "list") [.ref I]) Q E s:=by
 refine callType_codes (Q₁:=fun obj s₁=>obj = .ref s.heap.objs.size∧s₁ = { s with heap:=s.heap.push { cls:=.type "list",data:=.seq #[] } }) F.called_list (F.typeCall_list_1 _) F.entry_list_init
  (code_list_new _ ⟨rfl,rfl⟩) fun obj s₁ h₁=>?_
 obtain ⟨rfl,rfl⟩:=h₁
 have hS : (s.heap.push { cls:=.type "list",data:=.seq #[] }).get? s.heap.objs.size = some { cls:=.type "list",data:=.seq #[] }:=Heap.get?_push_size _ rfl
 obtain ⟨oi,hoi,_⟩:=id hit
 obtain ⟨ol,hol,_⟩:=id hL
 refine ⟨⟨_,hS,rfl⟩,F.args_list_init_2 _ _,zcz (A:=A.in1) (hn:=hn) hh (hit.at fun o e=>Heap.get?_push_of_some _ e) (hL.at fun o e=>Heap.get?_push_of_some _ e) _ hS (Nat.ne_of_gt (Heap.lt_size hol)) (Nat.ne_of_gt (Heap.lt_size hoi)) fun s' acc' c' hg ho hk hS' hacc=>?_⟩
 exact ⟨rfl,hQ s' acc' c' hg ho (fun b o hI e=>hk b o (Nat.ne_of_lt (Heap.lt_size e)) hI (Heap.get?_push_of_some _ e)) hS' hacc⟩
end
theorem zcp {items acc : Array Value} (h : ItemsOf (fun i v=>items[items.size - 1 - i]? = some v) acc items.size) : acc = items.toList.reverse.toArray:=by
 apply Array.ext_getElem?
 intro i
 by_cases hi : i < items.size
 ·have e : acc[i]? = some (acc[i]'(by rw [h.1]; exact hi)):=Array.getElem?_eq_getElem _
  have q:=h.2 i _ e
  rw [e,← q]
  simp [List.getElem?_reverse,hi]
 ·rw [Array.getElem?_eq_none (by rw [h.1]; omega),Array.getElem?_eq_none (by simp; omega)]
def zc5 (K : PySem.W.Frag) (te : TE) : TE:=fun σ H Q=>te σ H fun x H1=>∃ (l : Addr) (ys : List V),x = .ref l∧SqL K H1 l ys∧∀ q,H1 q = none->Q (.ref q) (upd H1 q (.lst ys.reverse))
theorem zaO {e : Expr} {te : TE} {p1 p2 pos1 pos2 : Pos} (hc : X.calm = true) (hg1 : Gl X "list") (hm1 : X.mg "list" = none) (hg2 : Gl X "reversed") (hm2 : X.mg "reversed" = none) (he : PE X e te)
  (hs : starEach [e] X.env = [(false,eval e X.env)]:=by rfl) (hs2 : starEach [.Call (.Name "reversed" p2) [e] [] pos2] X.env = [(false,eval (.Call (.Name "reversed" p2) [e] [] pos2) X.env)]:=by rfl) :
  PE X (.Call (.Name "list" p1) [.Call (.Name "reversed" p2) [e] [] pos2] [] pos1) (zc5 X.K te):=by
 intro pins s σ H Q I h
 refine wpAny_Call_Name_kw (jh I hg1 hm1 boot_list ?_)
 refine PyProof.Rows.callWith_type1 ?_ hs2 rfl
 rw [hs2]
 show wpAny _ _ (spliced ((false,eval (.Call (.Name "reversed" p2) [e] [] pos2) X.env) :: backTo pos1 [])) _ _ s
 refine Calls.spliced_cons ?_
 refine wpAny_Call_Name_kw (jh I hg2 hm2 boot_reversed ?_)
 refine PyProof.Rows.callWith_type1 ?_ hs rfl
 rw [hs]
 show wpAny _ _ (spliced ((false,eval e X.env) :: backTo pos2 [])) _ _ s
 refine Calls.spliced_cons (thn (he pins s σ H _ I h) fun v s1 ⟨x,H1,I1,r1,q1⟩=>Calls.spliced_nil ?_)
 obtain ⟨l,ys,rfl,hq,q⟩:=q1
 cases r1
 obtain ⟨its,rv,pl,hz⟩:=I1.list hq
 have hl:=rv.length
 refine call_reversed_list pl.isList (Calls.spliced_nil ?_)
 have hsz : (its.toArray.size : Int) = (ys.length : Int):=by rw [List.size_toArray,hl]
 refine Xm (s:={ s1 with heap:=s1.heap.push (revObj l ((its.toArray.size : Int) - 1)) }) (I1.ok.hd hc) (I:=s1.heap.objs.size) (l:=l) (items:=its.toArray) ⟨_,Heap.get?_push_size _ rfl,rfl,rfl⟩ (pl.isList.at fun o e=>Heap.get?_push_of_some _ e) (fun s' acc c hgn ho hk hS hacc=>?_) (by rw [List.size_toArray,← hl]; exact hz)
 have e1 : (s1.heap.push (revObj l ((its.toArray.size : Int) - 1))).objs.size = s1.heap.objs.size + 1:=Heap.size_push _ _
 rw [show ({ s1 with heap:=s1.heap.push (revObj l ((its.toArray.size : Int) - 1)) } : Shared).heap.objs.size = s1.heap.objs.size + 1 from e1] at hS ⊢
 have kept : ∀ b o,s1.heap.get? b = some o->s'.heap.get? b = some o:=fun b o e=>hk b o (Nat.ne_of_lt (Heap.lt_size e)) (Heap.get?_push_of_some _ e)
 have hokL:=I1.laid (a:=s1.heap.objs.size + 1) (o:=.lst ys.reverse) (h':=s'.heap) (t':=s'.toks) kept (Nat.le_succ _) ⟨by rw [List.length_reverse]; exact hz,its.reverse,c,rv.reverse,by rw [hS,zcp hacc]⟩
 have I2 : Inv X pins σ (upd H1 (s1.heap.objs.size + 1) (.lst ys.reverse)) s':=by
  refine I1.call' (ch:=[]) (by rw [ho]) ?_ hokL.hok (by rw [hgn]; exact I1.bare) fun b z=>absurd z (by simp)
  exact Un.laid kept (Nat.le_succ _) (I1.hok.fresh (Nat.le_succ _))
 exact ⟨.ref _,_,I2,rfl,q _ (I1.hok.fresh (Nat.le_succ _))⟩
end
section
variable {X : Cx} (K : PySem.W.Frag)
theorem zaa (e : X.K = K:=by rfl) : vm X (.builtin "isinstance") (zfo K):=by subst e; exact zcD
theorem xX (e : X.K = K:=by rfl) : vm X (.builtin "len") (fun xs H Q=>∃ p ys,xs = [.ref p]∧(SqL K H p ys∨SqT K H p ys)∧Q (.int ys.length) H):=by subst e; exact Jy
theorem yl (e : X.K = K:=by rfl) : IxR X (zdS K):=by subst e; exact zdR
theorem ux (e : X.K = K:=by rfl) : IxR X (zfD K):=by subst e; exact zeP
theorem tV (e : X.K = K:=by rfl) : SlR X (zd9 K):=by subst e; exact zdQ
theorem k_all (hc : X.calm = true) (e : X.K = K:=by rfl) : vm X (.builtin "all") (zfn K):=by subst e; exact zdz hc
theorem zcN (hc : X.calm = true) (e : X.K = K:=by rfl) : vm X (.builtin "any") (zfR K):=by subst e; exact zdl hc
theorem zad (e : X.K = K:=by rfl) : vm X (.type "list") (fun xs H Q=>∃ p ys,xs = [.ref p]∧(SqL K H p ys∨SqT K H p ys)∧∀ l,H l = none->Q (.ref l) (upd H l (.lst ys))):=by subst e; exact Q5
theorem zcw (hu : X.A.units + 64 < cLine) (e : X.K = K:=by rfl) : OpR X (compareOp .Eq) (zeg K false):=by subst e; exact zeK hu
theorem zfP (hu : X.A.units + 64 < cLine) (e : X.K = K:=by rfl) : OpR X (compareOp .NotEq) (zeg K true):=by subst e; exact zeO hu
theorem zds (hu : X.A.units + 64 < cLine) (e : X.K = K:=by rfl) : OpR X (compareOp .NotIn) (zfs K true):=by subst e; exact zb3 hu
theorem Uw {tg l : Expr} {tl : TE} (hl : PE X l tl) (e : X.K = K:=by rfl) : PI X tg l (zey K tl):=by subst e; exact zea hl
end
structure Df (K : PySem.W.Frag) (mg : Str->Option Value) (x : Str) (st : Stmt) (ps : List Str) (f : Addr) (fd : FuncData) : Prop where
 fn : Fun K x x st f fd
 b : Binds K fd ps []
 g : mg x = some (.ref f)
theorem yc {X : Cx} {x : Str} {st : Stmt} {ps : List Str} {f : Addr} {fd : FuncData} {k : Nat} {sp : Sp} {e : Expr} {es : List Expr} {t : TA} {p pos : Pos} (D : Df X.K X.mg x st ps f fd) (G : FnOk X.prog X.w X.K X.mg X.base CX0 k f fd ps sp) (hr : Room k X.A) (ha : PA X (e :: es) t) (hg : Gl X x:=by rfl)
  (hdb : (x == ("__debug__" : Str)) = false:=by decide) (he : starEach (e :: es) X.env = (false,eval e X.env) :: starEach es X.env:=by rfl) (hpl : (backTo pos (starEach es X.env)).any (·.1) = false:=by rfl) : PE X (.Call (.Name x p) (e :: es) [] pos) (zcQ sp [] E0 t) :=
 zed G hr hg D.g D.fn.kp D.b .nil Qp ha hdb he hpl
theorem zdp {K : PySem.W.Frag} {h : Heap} {mg : Str->Option Value} {x : Str} {st : Stmt} {ps : List Str} {f : Addr} {oc : Value} {od an : Option Addr} {osl : Array (Option Value)} {kV doc pm cdv ct : Value} (X : K.In h) (G : h.Ns mainGlobals mg)
  (a : PySem.W.nsIn K mainGlobals x = some (some (.ref f))) (l : K.lookup f = some ⟨oc,od,.func (PySem.W.fnOf x x (w6 st) (yZ st) (zx st) .none kV doc pm an cdv ct),osl⟩) (c : PySem.W.codeIn K cdv x = true) (k : PySem.W.keepIn K (.ref f) = true)
  (hb : ∀ (kV doc pm : Value) (an : Option Addr) (cdv ct : Value) (us : List Value),us.length = ps.length->bindArgs (PySem.W.fnOf x x (w6 st) (yZ st) (zx st) .none kV doc pm an cdv ct) ⟨us,[]⟩ = pure (ps.zip us)) :
  Df K mg x st ps f (PySem.W.fnOf x x (w6 st) (yZ st) (zx st) .none kV doc pm an cdv ct) :=
 ⟨Qy l c k,(Qy (st:=st) l c k).binds hb,PySem.W.mg_of X G a⟩
structure Blt (mg : Str->Option Value) : Prop where
 n_isinstance : mg "isinstance" = none
 n_int : mg "int" = none
 n_bool : mg "bool" = none
 n_list : mg "list" = none
 n_tuple : mg "tuple" = none
 n_reversed : mg "reversed" = none
 n_len : mg "len" = none
 n_max : mg "max" = none
 n_min : mg "min" = none
 n_range : mg "range" = none
 n_all : mg "all" = none
 n_any : mg "any" = none
 n_sorted : mg "sorted" = none
 n_enumerate : mg "enumerate" = none
 n_repr : mg "repr" = none
theorem Js {A : Around} {k : Nat} (hr : Room k A) : A.units + 64 < cLine:=hr.units
def aw (fp : List Addr) (H : Hp) : Hp:=fun b=>if b ∈ fp then none else H b
theorem jG {fp : List Addr} {H : Hp} {b : Addr} (h : b ∈ fp) : aw fp H b = none:=by unfold aw; rw [if_pos h]
theorem zX {fp : List Addr} {H : Hp} {b : Addr} (h : b ∉ fp) : aw fp H b = H b:=by unfold aw; rw [if_neg h]
theorem zN (fp : List Addr) (H : Hp) : Same (aw fp H) H:=fun b o e=>by
 by_cases h : b ∈ fp
 ·rw [jG h] at e; cases e
 ·rw [zX h] at e; exact e
theorem Same.aw {H H' : Hp} (h : Same H H') (fp : List Addr) : Same (aw fp H) (aw fp H'):=fun b o e=>by
 by_cases hb : b ∈ fp
 ·rw [jG hb] at e; cases e
 ·rw [zX hb] at e ⊢; exact h b o e
theorem zq {H : Hp} {p : Addr} {o : HO} (h : H p = none) : Same H (upd H p o):=fun b u e=>by rw [zy (zB e h)]; exact e
open PySem PyProof.Rows
mutual
def ThAt (H : Hp) : PyData->V->Prop
 | .none,v=>v = .non
 | .bool b,v=>v = .bl b
 | .int i,v=>v = .int i
 | .str x,v=>v = .str x
 | .list xs,v=>∃ a ys,v = .ref a∧H a = some (.lst ys)∧ThsAt H xs ys
 | .tuple xs,v=>∃ a ys,v = .ref a∧H a = some (.tup ys)∧ThsAt H xs ys
 | .dict kvs,v=>kvs = []∧∃ a,v = .ref a∧H a = some (.dK [])
def ThsAt (H : Hp) : List PyData->List V->Prop
 | [],ys=>ys = []
 | d :: ds,ys=>∃ y zs,ys = y :: zs∧ThAt H d y∧ThsAt H ds zs
end
mutual
theorem ThAt.same {H H' : Hp} (m : Same H H') : ∀ {d : PyData} {v : V},ThAt H d v->ThAt H' d v
 | .none,v,h=>by rw [ThAt] at h ⊢; exact h
 | .bool b,v,h=>by rw [ThAt] at h ⊢; exact h
 | .int i,v,h=>by rw [ThAt] at h ⊢; exact h
 | .str x,v,h=>by rw [ThAt] at h ⊢; exact h
 | .list xs,v,h=>by
  rw [ThAt] at h ⊢
  obtain ⟨a,ys,h1,h2,h3⟩:=h
  exact ⟨a,ys,h1,m _ _ h2,ThsAt.same m h3⟩
 | .tuple xs,v,h=>by
  rw [ThAt] at h ⊢
  obtain ⟨a,ys,h1,h2,h3⟩:=h
  exact ⟨a,ys,h1,m _ _ h2,ThsAt.same m h3⟩
 | .dict kvs,v,h=>by
  rw [ThAt] at h ⊢
  obtain ⟨h0,a,h1,h2⟩:=h
  exact ⟨h0,a,h1,m _ _ h2⟩
theorem ThsAt.same {H H' : Hp} (m : Same H H') : ∀ {ds : List PyData} {ys : List V},ThsAt H ds ys->ThsAt H' ds ys
 | [],ys,h=>by rw [ThsAt] at h ⊢; exact h
 | d :: ds,ys,h=>by
  rw [ThsAt] at h ⊢
  obtain ⟨y,zs,h1,h2,h3⟩:=h
  exact ⟨y,zs,h1,ThAt.same m h2,ThsAt.same m h3⟩
end
theorem ThsAt.len {H : Hp} : ∀ {ds : List PyData} {ys : List V},ThsAt H ds ys->ys.length = ds.length
 | [],ys,h=>by rw [ThsAt] at h; rw [h]; rfl
 | d :: ds,ys,h=>by
  rw [ThsAt] at h
  obtain ⟨y,zs,h1,h2,h3⟩:=h
  rw [h1,List.length_cons,List.length_cons,ThsAt.len h3]
theorem ThsAt.get {H : Hp} : ∀ {ds : List PyData} {ys : List V} {k : Nat} {v : V},ThsAt H ds ys->ys[k]? = some v->∃ d,ds[k]? = some d∧ThAt H d v
 | [],ys,k,v,h,e=>by rw [ThsAt] at h; rw [h] at e; simp at e
 | d :: ds,ys,k,v,h,e=>by
  rw [ThsAt] at h
  obtain ⟨y,zs,h1,h2,h3⟩:=h
  rw [h1] at e
  cases k with
  | zero =>
   have e' : y = v:=by simpa using e
   exact ⟨d,rfl,by rw [← e']; exact h2⟩
  | succ k=>exact ThsAt.get (ds:=ds) (k:=k) h3 (by simpa using e)
theorem ThsAt.app {H : Hp} : ∀ {ds es : List PyData} {ys zs : List V},ThsAt H ds ys->ThsAt H es zs->ThsAt H (ds ++ es) (ys ++ zs)
 | [],es,ys,zs,h,q=>by rw [ThsAt] at h; rw [h]; exact q
 | d :: ds,es,ys,zs,h,q=>by
  rw [ThsAt] at h
  obtain ⟨y,us,h1,h2,h3⟩:=h
  rw [h1,List.cons_append,List.cons_append,ThsAt]
  exact ⟨y,us ++ zs,rfl,h2,ThsAt.app h3 q⟩
def tyT : PyData->String
 | .none=>"NoneType" | .bool _=>"bool" | .int _=>"int" | .str _=>"str" | .list _=>"list" | .tuple _=>"tuple" | .dict _=>"dict"
theorem ThAt.ty {K : PySem.W.Frag} {H : Hp} {d : PyData} {v : V} (h : ThAt H d v) : Xr K H v (.type (tyT d)):=by
 cases d with
 | none=>rw [ThAt] at h; rw [h]; exact .non
 | bool b=>rw [ThAt] at h; rw [h]; exact .bl b
 | int i=>rw [ThAt] at h; rw [h]; exact .int i
 | str x=>rw [ThAt] at h; rw [h]; exact .str x
 | list xs=>rw [ThAt] at h; obtain ⟨a,ys,rfl,h2,_⟩:=h; exact .lst h2
 | tuple xs=>rw [ThAt] at h; obtain ⟨a,ys,rfl,h2,_⟩:=h; exact .tup h2
 | dict kvs=>rw [ThAt] at h; obtain ⟨_,a,rfl,h2⟩:=h; exact .dK h2
def isS (T t : String) : Bool:=t == T || (t == "bool" && T == "int")
def isT (T : String) (d : PyData) : Bool:=isS T (tyT d)
section
variable {K : PySem.W.Frag}
theorem QK {T t : String} (hT : T = "int"∨T = "bool"∨T = "list"∨T = "tuple"∨T = "str") (ht : t = "NoneType"∨t = "bool"∨t = "int"∨t = "str"∨t = "list"∨t = "tuple"∨t = "dict") : PySem.W.kitOne K (.type t) (.type T) = some (isS T t):=by
 rcases hT with rfl | rfl | rfl | rfl | rfl <;> rcases ht with rfl | rfl | rfl | rfl | rfl | rfl | rfl <;>
  first
  | exact zcU (by decide +kernel) (by decide +kernel) (fun _=>rfl)
  | exact zcU (by decide +kernel) (by decide +kernel) (fun e=>absurd e (by decide))
theorem W8 (d : PyData) : tyT d = "NoneType"∨tyT d = "bool"∨tyT d = "int"∨tyT d = "str"∨tyT d = "list"∨tyT d = "tuple"∨tyT d = "dict":=by
 cases d <;> simp [tyT]
theorem zdX (d : PyData) : PySem.W.kitOne K (.type (tyT d)) (.type "int") = some (isT "int" d):=QK (by simp) (W8 d)
theorem zcK (d : PyData) : PySem.W.kitOne K (.type (tyT d)) (.type "bool") = some (isT "bool" d):=QK (by simp) (W8 d)
theorem J2 (d : PyData) : PySem.W.kitOne K (.type (tyT d)) (.type "list") = some (isT "list" d):=QK (by simp) (W8 d)
theorem kit_tuple (d : PyData) : PySem.W.kitOne K (.type (tyT d)) (.type "tuple") = some (isT "tuple" d):=QK (by simp) (W8 d)
end
end L2
namespace L2
open PySem PyProof.Rows
section
variable {P : Program} {w : World} {H : Hp} {h : Heap}
theorem Q4 {a : Addr} {ys : List V} (ok : HOk P w H h) (e : H a = some (.lst ys)) : ∃ (its : List Value) (n : Nat),Vals ys its∧h.get? a = some { cls:=.type "list",data:=.seq its.toArray n }:=(ok a _ e).2
theorem QB {a : Addr} {ys : List V} (ok : HOk P w H h) (e : H a = some (.tup ys)) : ∃ (its : List Value) (o : Obj) (n : Nat),Vals ys its∧h.get? a = some o∧o.cls = .type "tuple"∧o.data = .seq its.toArray n:=by
 obtain ⟨_,its,r,o,h1,h2,n,h3⟩:=ok a _ e
 exact ⟨its,o,n,r,h1,h2,h3⟩
theorem Ju {a : Addr} (ok : HOk P w H h) (e : H a = some (.dK [])) : (a == sysModules) = false∧∃ (o : Obj) (n : Nat),h.get? a = some o∧o.cls = .type "dict"∧o.data = .dict #[] n:=by
 obtain ⟨_,hs,vs,r,o,es,ep,e1,ex,ed,_,pr,_⟩:=ok a _ e
 cases r
 refine ⟨hs,o,ep,e1,ex.1,?_⟩
 obtain ⟨l⟩:=es
 have pr' : Pairs (wD P w) l []:=pr
 cases pr'
 exact ed
mutual
theorem Yu (ok : HOk P w H h) : ∀ {d : PyData} {v : V} {u : Value},ThAt H d v->RelV v u->∃ as,Reads h u d as
 | .none,v,u,t,r=>by
  rw [ThAt] at t; subst t
  have e : u = Value.none:=r
  subst e; exact ⟨_,.none⟩
 | .bool b,v,u,t,r=>by
  rw [ThAt] at t; subst t
  have e : u = Value.bool b:=r
  subst e; exact ⟨_,.bool b⟩
 | .int i,v,u,t,r=>by
  rw [ThAt] at t; subst t
  obtain ⟨k,rfl⟩ : ∃ k,u = Value.int i k:=r
  exact ⟨_,.int i k⟩
 | .str x,v,u,t,r=>by
  rw [ThAt] at t; subst t
  obtain ⟨k,rfl⟩ : ∃ k,u = Value.str x k:=r
  exact ⟨_,.str x k⟩
 | .list xs,v,u,t,r=>by
  rw [ThAt] at t
  obtain ⟨a,ys,rfl,ha,hx⟩:=t
  have e : u = Value.ref a:=r
  subst e
  obtain ⟨its,n,rv,ho⟩:=Q4 ok ha
  obtain ⟨as,q⟩:=Wi ok hx rv
  exact ⟨_,.list ho rfl rfl q⟩
 | .tuple xs,v,u,t,r=>by
  rw [ThAt] at t
  obtain ⟨a,ys,rfl,ha,hx⟩:=t
  have e : u = Value.ref a:=r
  subst e
  obtain ⟨its,o,n,rv,h1,h2,h3⟩:=QB ok ha
  obtain ⟨as,q⟩:=Wi ok hx rv
  exact ⟨_,.tuple h1 h2 h3 q⟩
 | .dict kvs,v,u,t,r=>by
  rw [ThAt] at t
  obtain ⟨rfl,a,rfl,ha⟩:=t
  have e : u = Value.ref a:=r
  subst e
  obtain ⟨_,o,n,h1,h2,h3⟩:=Ju ok ha
  exact ⟨_,.dict h1 h2 h3 .nil .nil⟩
theorem Wi (ok : HOk P w H h) : ∀ {ds : List PyData} {ys : List V} {us : List Value},ThsAt H ds ys->Vals ys us->∃ as,ReadsAll h us ds as
 | [],ys,us,t,r=>by
  rw [ThsAt] at t; subst t
  cases r
  exact ⟨_,.nil⟩
 | d :: ds,ys,us,t,r=>by
  rw [ThsAt] at t
  obtain ⟨y,zs,rfl,h1,h2⟩:=t
  cases r with
  | cons r1 r2 =>
   obtain ⟨as,q⟩:=Yu ok h1 r1
   obtain ⟨bs,q2⟩:=Wi ok h2 r2
   exact ⟨_,.cons q q2⟩
end
mutual
theorem zdy (ok : HOk P w H h) : ∀ {d : PyData} {v : V} {u : Value},ThAt H d v->RelV v u->d.showable = true->d.shown.length≤sizeLine->∃ bs,ReadAtMost h d.depth bs∧ReprK P w bs h d.depth u d.shown
 | .none,v,u,t,r,_,_=>by
  rw [ThAt] at t; subst t
  have e : u = Value.none:=r
  subst e
  exact ⟨[],by simp [ReadAtMost],by rw [PyData.shown]; exact .of_is ReprIs.none _ _ _⟩
 | .bool b,v,u,t,r,_,_=>by
  rw [ThAt] at t; subst t
  have e : u = Value.bool b:=r
  subst e
  exact ⟨[],by simp [ReadAtMost],by rw [PyData.shown]; exact .of_is (ReprIs.bool b) _ _ _⟩
 | .int i,v,u,t,r,hs,_=>by
  rw [ThAt] at t; subst t
  obtain ⟨k,rfl⟩ : ∃ k,u = Value.int i k:=r
  rw [PyData.showable] at hs
  exact ⟨[],by simp [ReadAtMost],by rw [PyData.shown]; exact .of_is (ReprIs.int k (of_decide_eq_true hs)) _ _ _⟩
 | .str x,v,u,t,r,_,hz=>by
  rw [ThAt] at t; subst t
  obtain ⟨k,rfl⟩ : ∃ k,u = Value.str x k:=r
  rw [PyData.shown] at hz
  exact ⟨[],by simp [ReadAtMost],by rw [PyData.shown]; exact .of_is (ReprIs.str x k hz) _ _ _⟩
 | .list xs,v,u,t,r,hs,hz=>by
  obtain ⟨as,rd⟩:=Yu ok t r
  rw [ThAt] at t
  obtain ⟨a,ys,rfl,ha,hx⟩:=t
  have e : u = Value.ref a:=r
  subst e
  obtain ⟨its,n,rv,ho⟩:=Q4 ok ha
  rw [PyData.showable] at hs
  rw [PyData.shown] at hz
  obtain ⟨bs,hb,hk⟩:=j8 ok hx rv hs fun s hsm=>Nat.le_trans (listText_mem_le hsm) hz
  have dd : (PyData.list xs).depth = PyData.depthAll xs + 1:=by rw [PyData.depth]
  refine ⟨a :: bs,ReadAtMost.cons rd (by omega) hb,?_⟩
  rw [dd,PyData.shown]
  cases its with
  | nil =>
   cases rv
   cases xs with
   | nil=>rw [PyData.shownAll,listText_nil]; exact ReprK.listEmpty ho rfl rfl
   | cons _ _=>rw [ThsAt] at hx; obtain ⟨_,_,z,_⟩:=hx; cases z
  | cons x l=>exact ReprK.list ho rfl rfl (not_mem_of_deeper rd (by omega) hb) (by rw [hk.length_eq]; simp) fun i y q=>hk.item i y (by simpa using q)
 | .tuple xs,v,u,t,r,hs,hz=>by
  obtain ⟨as,rd⟩:=Yu ok t r
  rw [ThAt] at t
  obtain ⟨a,ys,rfl,ha,hx⟩:=t
  have e : u = Value.ref a:=r
  subst e
  obtain ⟨its,o,n,rv,h1,h2,h3⟩:=QB ok ha
  rw [PyData.showable] at hs
  rw [PyData.shown] at hz
  obtain ⟨bs,hb,hk⟩:=j8 ok hx rv hs fun s hsm=>Nat.le_trans (tupleText_mem_le hsm) hz
  have dd : (PyData.tuple xs).depth = PyData.depthAll xs + 1:=by rw [PyData.depth]
  refine ⟨a :: bs,ReadAtMost.cons rd (by omega) hb,?_⟩
  rw [dd,PyData.shown]
  exact ReprK.tuple h1 h2 h3 (not_mem_of_deeper rd (by omega) hb) hk
 | .dict kvs,v,u,t,r,hs,hz=>by
  obtain ⟨as,rd⟩:=Yu ok t r
  rw [ThAt] at t
  obtain ⟨rfl,a,rfl,ha⟩:=t
  have e : u = Value.ref a:=r
  subst e
  obtain ⟨sy,o,n,h1,h2,h3⟩:=Ju ok ha
  have dd : (PyData.dict []).depth = 0 + 1:=by rw [PyData.depth,PyData.depthKv]
  refine ⟨[a],ReadAtMost.cons rd (Nat.zero_le _) (by simp [ReadAtMost]),?_⟩
  rw [dd,PyData.shown,PyData.shownKv]
  exact ReprK.dict h1 h2 h3 sy (by simp) .nil
theorem j8 (ok : HOk P w H h) : ∀ {ds : List PyData} {ys : List V} {us : List Value},ThsAt H ds ys->Vals ys us->PyData.showableAll ds = true->(∀ s ∈ PyData.shownAll ds,s.length≤sizeLine)->∃ bs,ReadAtMost h (PyData.depthAll ds) bs∧ReprAllK P w bs h (PyData.depthAll ds) us (PyData.shownAll ds)
 | [],ys,us,t,r,_,_=>by
  rw [ThsAt] at t; subst t
  cases r
  exact ⟨[],by simp [ReadAtMost],by rw [PyData.shownAll]; exact .nil⟩
 | d :: ds,ys,us,t,r,hs,hz=>by
  rw [ThsAt] at t
  obtain ⟨y,zs,rfl,h1,h2⟩:=t
  rw [PyData.showableAll,Bool.and_eq_true] at hs
  rw [PyData.shownAll] at hz
  cases r with
  | cons r1 r2 =>
   obtain ⟨b1,q1,k1⟩:=zdy ok h1 r1 hs.1 (hz _ (.head _))
   obtain ⟨b2,q2,k2⟩:=j8 ok h2 r2 hs.2 fun s hsm=>hz s (.tail _ hsm)
   have dd : PyData.depthAll (d :: ds) = max d.depth (PyData.depthAll ds):=by rw [PyData.depthAll]
   refine ⟨b1 ++ b2,(q1.mono (by omega)).append (q2.mono (by omega)),?_⟩
   rw [PyData.shownAll]
   exact .cons ((k1.more fun b hb=>List.mem_append_left _ hb).level_le (by omega)) (k2.more_le (fun b hb=>List.mem_append_right _ hb) (by omega))
end
end
def zeL : List V->Hp->VK->Prop:=fun xs H Q=>∃ v d,xs = [v]∧ThAt H d v∧d.showable = true∧d.shown.length≤sizeLine∧d.depth≤40∧Q (.str d.shown) H
theorem VN {X : Cx} (hg : X.A.guards = some []) (hu : X.A.units + 64 < cLine) : vm X (.builtin "repr") zeL:=by
 intro pins s σ H xs us Q I r hq
 obtain ⟨v,d,rfl,t,hs,hz,hd,q⟩:=hq
 obtain ⟨u,rfl,ru⟩:=vals1 r
 obtain ⟨as,rd⟩:=Yu I.hok t ru
 cases d with
 | none =>
  rw [ThAt] at t; subst t
  have e : u = Value.none:=ru
  subst e
  rw [PyData.shown] at q
  exact P.repr_of_none ⟨.str "None",H,I.tok _,⟨_,rfl⟩,q⟩
 | bool b =>
  rw [ThAt] at t; subst t
  have e : u = Value.bool b:=ru
  subst e
  rw [PyData.shown] at q
  exact P.repr_of_bool ⟨.str _,H,I.tok _,⟨_,rfl⟩,q⟩
 | int i =>
  rw [ThAt] at t; subst t
  obtain ⟨k,rfl⟩ : ∃ k,u = Value.int i k:=ru
  rw [PyData.shown] at q
  rw [PyData.showable] at hs
  exact P.repr_of_int (of_decide_eq_true hs) ⟨.str _,H,I.tok _,⟨_,rfl⟩,q⟩
 | str x =>
  rw [ThAt] at t; subst t
  obtain ⟨k,rfl⟩ : ∃ k,u = Value.str x k:=ru
  rw [PyData.shown] at q hz
  exact P.repr_of_str ⟨.str _,H,I.tok _,⟨_,rfl⟩,q⟩ hz
 | list xs =>
  rw [ThAt] at t
  obtain ⟨a,ys,rfl,ha,hx⟩:=t
  have e : u = Value.ref a:=ru
  subst e
  obtain ⟨its,n,rv,ho⟩:=Q4 I.hok ha
  rw [PyData.showable] at hs
  rw [PyData.shown] at hz q
  obtain ⟨bs,hb,hk⟩:=j8 I.hok hx rv hs fun s hsm=>Nat.le_trans (listText_mem_le hsm) hz
  have dd : (PyData.list xs).depth = PyData.depthAll xs + 1:=by rw [PyData.depth]
  refine call_repr_slot (by omega) ⟨_,ho,rfl⟩ PySem.F.slot_list_repr.toG ?_
  cases its with
  | nil =>
   cases rv
   cases xs with
   | nil =>
    rw [PyData.shownAll,listText_nil] at q
    exact call_list_repr_empty ⟨_,ho,rfl⟩ ho rfl ⟨_,_,rfl,.str "[]",H,I.tok _,⟨_,rfl⟩,q⟩
   | cons _ _=>rw [ThsAt] at hx; obtain ⟨_,_,z,_⟩:=hx; cases z
  | cons x l =>
   exact call_list_reprK ho rfl rfl (not_mem_of_deeper rd (by omega) hb) (by rw [hk.length_eq]; simp) (fun i y q=>hk.item i y (by simpa using q)) (A:=X.A.in1) hg (fun b _=>Clear.nil b) (by show X.A.units + 1 + (PyData.depthAll xs + 1) < cLine; omega) (fun _ _ e=>e) (fun h' u tk hk=>⟨_,_,rfl,.str _,H,I.kept hk,⟨_,rfl⟩,q⟩) hz
 | tuple xs =>
  rw [ThAt] at t
  obtain ⟨a,ys,rfl,ha,hx⟩:=t
  have e : u = Value.ref a:=ru
  subst e
  obtain ⟨its,o,n,rv,h1,h2,h3⟩:=QB I.hok ha
  rw [PyData.showable] at hs
  rw [PyData.shown] at hz q
  obtain ⟨bs,hb,hk⟩:=j8 I.hok hx rv hs fun s hsm=>Nat.le_trans (tupleText_mem_le hsm) hz
  have dd : (PyData.tuple xs).depth = PyData.depthAll xs + 1:=by rw [PyData.depth]
  exact call_repr_slot (by omega) ⟨_,h1,h2⟩ PySem.F.slot_tuple_repr (call_tuple_reprK h1 h2 h3 (not_mem_of_deeper rd (by omega) hb) hk (A:=X.A.in1) hg (fun b _=>Clear.nil b) (by show X.A.units + 1 + (PyData.depthAll xs + 1) < cLine; omega) (fun _ _ e=>e) (fun h' u tk hk=>⟨_,_,rfl,.str _,H,I.kept hk,⟨_,rfl⟩,q⟩) hz)
 | dict kvs =>
  rw [ThAt] at t
  obtain ⟨rfl,a,rfl,ha⟩:=t
  have e : u = Value.ref a:=ru
  subst e
  obtain ⟨sy,o,n,h1,h2,h3⟩:=Ju I.hok ha
  rw [PyData.shown,PyData.shownKv] at q hz
  exact call_repr_slot (by omega) ⟨_,h1,h2⟩ PySem.F.slot_dict_repr (call_dict_reprK (as:=[]) (d:=0) (ps:=[]) h1 h2 h3 sy (by simp) .nil (A:=X.A.in1) hg (fun b _=>Clear.nil b) (by show X.A.units + 1 + (0 + 1) < cLine; omega) (fun _ _ e=>e) (fun h' u tk hk=>⟨_,_,rfl,.str _,H,I.kept hk,⟨_,rfl⟩,q⟩) hz)
end L2
namespace HT
open PySem PyProof.Rows
section
open PySem.SeqAt
open PySem.AutoSeq1 (wpAny_loadPart')
open PySem.MeetsSeq PySem.MeetsSeq2 PySem.MeetsSeq3 PySem.SeqRoads2
theorem zbD {vs : List Value} {ns : List Int} (h : IntsAre vs ns) {i : Nat} (hi : i < ns.length) : ∃ t,vs[i]? = some (.int (ns[i]) t):=by
 induction h generalizing i with
 | nil=>simp at hi
 | cons a t h ih =>
  cases i with
  | zero=>exact ⟨t,rfl⟩
  | succ i =>
   obtain ⟨t',e⟩:=ih (i:=i) (by simpa using hi)
   exact ⟨t',by simpa using e⟩
theorem zdP (l b : Addr) (items items2 : Array Value) (n n2 : Nat) (dd dd2 : Option Addr) (sl sl2 : Array (Option Value)) (ns ms : List Int) (hi : IntsAre items.toList ns) (hj : IntsAre items2.toList ms) (k : Nat) :
  ∀ i : Nat,ns.length - i = k->i≤ns.length->i≤ms.length->Meets (Builtin.«list.__eq__.loop» ⟨[.ref l,.ref b,rawInt i,rawInt 0],[]⟩)
   (fun _ R s=>s.heap.get? l = some { cls:=.type "list",dict:=dd,data:=.seq items n,slots:=sl }∧s.heap.get? b = some { cls:=.type "list",dict:=dd2,data:=.seq items2 n2,slots:=sl2 } ∧
    R (.ok (.ret (.bool (lexLt (ns.drop i) (ms.drop i))))) s):=by
 have z1 : items.size = ns.length:=by rw [← hi.length]; simp
 have z2 : items2.size = ms.length:=by rw [← hj.length]; simp
 induction k with
 | zero =>
  intro i hk h1 h2 prog w A R s h
  obtain ⟨hp,g,d,tk,os⟩:=s; obtain ⟨hl,hb,h⟩:=h
  have hin : i = ns.length:=by omega
  wp_walk using wpAny_loadPart' hl,wpAny_loadPart' hb
  have hi1 : items[((i : Nat) : Int).toNat]? = none:=by simp; omega
  have hd : ns.drop i = []:=by simp; omega
  rw [hd] at h
  rw [hi1]
  wp_walk using wpAny_loadPart' hl,wpAny_loadPart' hb
  show R (.ok (.ret (.bool (decide (items.size < items2.size))))) _
  have e : lexLt [] (ms.drop i) = decide (items.size < items2.size):=by
   cases q : ms.drop i with
   | nil =>
    rw [YT]
    have : ms.length≤i:=by simpa using List.drop_eq_nil_iff.mp q
    exact (decide_eq_false (by omega)).symm
   | cons x y =>
    rw [Vp]
    have : i < ms.length:=by
     by_cases z : i < ms.length
     ·exact z
     ·rw [List.drop_of_length_le (by omega)] at q; cases q
    exact (decide_eq_true (by omega)).symm
  rw [← e]
  exact h
 | succ k ih =>
  intro i hk h1 h2 prog w A R s h
  obtain ⟨hp,g,d,tk,os⟩:=s; obtain ⟨hl,hb,h⟩:=h
  have hlt : i < ns.length:=by omega
  obtain ⟨t,et⟩:=zbD hi hlt
  have hi1 : items[((i : Nat) : Int).toNat]? = some (.int (ns[i]) t):=by simpa using et
  by_cases hm : i < ms.length
  ·obtain ⟨u,eu⟩:=zbD hj hm
   have hi2 : items2[((i : Nat) : Int).toNat]? = some (.int (ms[i]) u):=by simpa using eu
   wp_walk using wpAny_loadPart' hl,wpAny_loadPart' hb
   rw [List.drop_eq_getElem_cons hlt,List.drop_eq_getElem_cons hm,vL] at h
   have hc : ((i : Int) + 1) = ((i + 1 : Nat) : Int):=by push_cast; rfl
   rw [hi1,hi2]
   obtain ⟨e,he,hiff⟩:=zcW A.in1 ⟨hp,g,d,tk,os⟩ (ns[i]) t (ms[i]) u
   refine wpAny_bind (he prog w _ _ ?_)
   cases e with
   | true =>
    rw [if_pos (hiff.mp rfl)] at h
    wp_walk
    rw [hc]
    exact ⟨plainId_quiet plain_eq_loop _,codeAny_builtin entry_eq_loop (by
     rw [Around.under_plainId plain_eq_loop _]
     exact ih (i + 1) (by omega) (by omega) (by omega) prog w A R _ ⟨hl,hb,h⟩)⟩
   | false =>
    rw [if_neg (fun q=>absurd (hiff.mpr q) Bool.false_ne_true)] at h
    have hri:=zab A.in1 ⟨hp,g,d,tk,os⟩ (ns[i]) t (ms[i]) u prog w
    wp_walk using wpAny_loadPart' hl,wpAny_loadPart' hb
    rw [hi1,hi2]
    wp_walk using hri
    simpa using h
  ·have hi2 : items2[((i : Nat) : Int).toNat]? = none:=by simp; omega
   wp_walk using wpAny_loadPart' hl,wpAny_loadPart' hb
   rw [List.drop_eq_getElem_cons hlt,List.drop_of_length_le (show ms.length≤i by omega),uG] at h
   rw [hi1,hi2]
   wp_walk using wpAny_loadPart' hl,wpAny_loadPart' hb
   show R (.ok (.ret (.bool (decide (items.size < items2.size))))) _
   rw [decide_eq_false (by omega)]
   exact h
theorem Ja (l b : Addr) (items items2 : Array Value) (n n2 : Nat) (dd dd2 : Option Addr) (sl sl2 : Array (Option Value)) (ns ms : List Int) (hi : IntsAre items.toList ns) (hj : IntsAre items2.toList ms) :
  Meets (Builtin.«list.__lt__» ⟨[.ref l,.ref b],[]⟩)
   (fun _ R s=>s.heap.get? l = some { cls:=.type "list",dict:=dd,data:=.seq items n,slots:=sl }∧s.heap.get? b = some { cls:=.type "list",dict:=dd2,data:=.seq items2 n2,slots:=sl2 } ∧
    R (.ok (.ret (.bool (lexLt ns ms)))) s):=by
 intro prog w A R s h
 obtain ⟨hp,g,d,tk,os⟩:=s; obtain ⟨hl,hb,h⟩:=h
 have f3:=AutoSeq1.sub_list_list
 wp_walk using wpAny_loadPart' hl,wpAny_loadPart' hb
 exact ⟨plainId_quiet plain_eq_loop _,codeAny_builtin entry_eq_loop (by
  rw [Around.under_plainId plain_eq_loop _]
  exact zdP l b items items2 n n2 dd dd2 sl sl2 ns ms hi hj _ 0 rfl (Nat.zero_le _) (Nat.zero_le _) prog w A R _ ⟨hl,hb,by simpa using h⟩)⟩
end
section
variable {prog : Program} {w : World} {A : Around} {E : Value->Shared->Prop} {s : Shared}
theorem WN {l b : Addr} {items items2 : Array Value} {ns ms : List Int} {Q : Value->Shared->Prop} (hl : s.heap.IsList l items) (hb : s.heap.IsList b items2) (hi : IntsAre items.toList ns) (hj : IntsAre items2.toList ms)
  (hu : A.units < cLine) (h : Q (.bool (lexLt ns ms)) s) : wpAny (model prog w) A (richCompare .Lt (.ref l) (.ref b)) Q E s:=by
 obtain ⟨⟨cls,dd,data,sl⟩,ho,hc,n,hd⟩:=id hl
 obtain ⟨⟨cls2,dd2,data2,sl2⟩,ho2,hc2,n2,hd2⟩:=id hb
 simp only at hc hd hc2 hd2
 subst hc hd hc2 hd2
 exact richCompare_meets_room (op:=.Lt) ⟨_,ho,rfl⟩ ⟨_,ho2,rfl⟩ PySem.F.slot_list_lt PySem.F.entry_list_lt (PySem.F.args_list_lt_2 _ _) (Ja l b items items2 n n2 dd dd2 sl sl2 ns ms hi hj)
  ⟨ho,ho2,show Value.bool (lexLt ns ms) ≠ Value.notImplemented∧Q (.bool (lexLt ns ms)) s from ⟨(fun x=>nomatch x),h⟩⟩ hu
end
open PySem PyProof.Rows PySem.W
def kin {α : Type} (n : Nat) : KasT α->Bool
 | .ret _=>true
 | .ask i j k=>decide (i < n) && decide (j < n) && kin n (k true) && kin n (k false)
def tab (b : Nat->Nat->Bool) (i j : Nat) : Bool:=if i < j then b i j else if j < i then !b j i else false
theorem wY : ∀ a : List Int,lexLt a a = false
 | []=>rfl
 | x :: a=>by rw [vL,if_pos rfl,wY a]
theorem Xh : ∀ a b : List Int,a ≠ b->lexLt b a = !lexLt a b
 | [],[],h=>absurd rfl h
 | [],_ :: _,_=>rfl
 | _ :: _,[],_=>rfl
 | x :: a,y :: b,h=>by
  rw [vL,vL]
  by_cases e : x = y
  ·subst e
   rw [if_pos rfl,if_pos rfl]
   exact Xh a b fun z=>h (by rw [z])
  ·rw [if_neg e,if_neg (Ne.symm e),Bool.eq_iff_iff]
   simp
   omega
theorem vW : ∀ a b c : List Int,lexLt a b = true->lexLt b c = true->lexLt a c = true
 | [],[],_,h,_=>by rw [YT] at h; cases h
 | [],_ :: _,[],_,h=>by rw [uG] at h; cases h
 | [],_ :: _,_ :: _,_,_=>rfl
 | _ :: _,[],_,h,_=>by rw [uG] at h; cases h
 | _ :: _,_ :: _,[],_,h=>by rw [uG] at h; cases h
 | x :: a,y :: b,z :: c,h1,h2=>by
  rw [vL] at h1 h2 ⊢
  by_cases e1 : x = y
  ·subst e1
   rw [if_pos rfl] at h1
   by_cases e2 : x = z
   ·subst e2
    rw [if_pos rfl] at h2 ⊢
    exact vW a b c h1 h2
   ·rw [if_neg e2] at h2 ⊢; exact h2
  ·rw [if_neg e1] at h1
   have h1':=of_decide_eq_true h1
   by_cases e2 : y = z
   ·subst e2
    rw [if_neg e1]; exact h1
   ·rw [if_neg e2] at h2
    have h2':=of_decide_eq_true h2
    rw [if_neg (show x ≠ z by omega)]
    exact decide_eq_true (by omega)
end HT
namespace L2
open PySem PySem.Spec PyProof.Rows
section
variable {X : Cx}
def zf4 (K : PySem.W.Frag) : R2:=fun x y H Q=>∃ (a b : Addr) (ns ms : List Int),x = .ref a∧y = .ref b∧SqL K H a (ns.map V.int)∧SqL K H b (ms.map V.int)∧Q (.bl (HT.lexLt ns ms)) H
theorem zfl (K : PySem.W.Frag) (hu : X.A.units + 64 < cLine) (e : X.K = K:=by rfl) : OpR X (compareOp .Lt) (zf4 K):=by
 subst e
 intro pins s σ H x y v u Q I rx ry h
 obtain ⟨a,b,ns,ms,rfl,rfl,ha,hb,q⟩:=h
 cases rx
 cases ry
 obtain ⟨its,r1,p1,_⟩:=I.list ha
 obtain ⟨its2,r2,p2,_⟩:=I.list hb
 exact HT.WN p1.isList p2.isList (intsAre_of r1) (intsAre_of r2) (by omega) ⟨.bl (HT.lexLt ns ms),H,I,rfl,q⟩
end
end L2
namespace HT
open PySem PyProof.Rows PySem.W
def KW {α : Type} (c : Nat->Nat->Bool) (n : Nat) : KasT α->(α->Prop)->Prop
 | .ret a,Q=>Q a
 | .ask i j k,Q=>i < n∧j < n∧KW c n (k (c i j)) Q
theorem KW.bind {α β : Type} {c : Nat->Nat->Bool} {n : Nat} {f : α->KasT β} {Q : β->Prop} : ∀ {t : KasT α},KW c n t (fun a=>KW c n (f a) Q)->KW c n (t.bind f) Q
 | .ret _,h=>h
 | .ask _ _ k,h=>⟨h.1,h.2.1,KW.bind (t:=k _) h.2.2⟩
theorem KW.mono {α : Type} {c : Nat->Nat->Bool} {n : Nat} {Q Q' : α->Prop} (hq : ∀ a,Q a->Q' a) : ∀ {t : KasT α},KW c n t Q->KW c n t Q'
 | .ret a,h=>hq a h
 | .ask _ _ k,h=>⟨h.1,h.2.1,KW.mono hq (t:=k _) h.2.2⟩
theorem KW.wp {α : Type} {n : Nat} {c : Nat->Nat->Bool} {cmp : Nat->Nat->(Bool->Shared->Prop)->Shared->Prop} {s : Shared} {Q : α->Prop} (hc : ∀ i j C,i < n->j < n->C (c i j) s->cmp i j C s) :
  ∀ t : KasT α,KW c n t Q->t.kasWp cmp (fun a s'=>s' = s∧Q a) s
 | .ret _,h=>⟨rfl,h⟩
 | .ask i j k,h=>hc i j _ h.1 h.2.1 (KW.wp hc (k (c i j)) h.2.2)
structure Ord (c : Nat->Nat->Bool) (n : Nat) : Prop where
 tr : ∀ i j k,i < n->j < n->k < n->c i j = true->c j k = true->c i k = true
 tot : ∀ i j,i < n->j < n->i ≠ j->c i j = false->c j i = true
 asy : ∀ i j,i < n->j < n->c i j = true->c j i = false
structure Pm (n : Nat) (p : Array Nat) : Prop where
 sz : p.size = n
 pm : p.toList.Perm (List.range n)
theorem Pm.lt {n : Nat} {p : Array Nat} (h : Pm n p) (i : Nat) (hi : i < n) : p.getD i 0 < n:=by
 have hs:=h.sz
 have e : p.getD i 0 = p[i]:=by simp [Array.getD,hs,hi]
 rw [e]
 exact List.mem_range.mp (h.pm.mem_iff.mp (by simp))
theorem Pm.ne {n : Nat} {p : Array Nat} (h : Pm n p) {i j : Nat} (hi : i < n) (hj : j < n) (hij : i ≠ j) : p.getD i 0 ≠ p.getD j 0:=by
 have hs:=h.sz
 have e1 : p.getD i 0 = p.toList[i]'(by simp [hs,hi]):=by simp [Array.getD,hs,hi]
 have e2 : p.getD j 0 = p.toList[j]'(by simp [hs,hj]):=by simp [Array.getD,hs,hj]
 rw [e1,e2]
 have nd : p.toList.Nodup:=h.pm.nodup_iff.mpr List.nodup_range
 intro z
 exact hij ((List.getElem_inj nd).mp z)
theorem Pm.of {n : Nat} {p q : Array Nat} (h : Pm n p) (z : q.Perm p) : Pm n q:=⟨by rw [z.size_eq]; exact h.sz,(Array.perm_iff_toList_perm.mp z).trans h.pm⟩
def Up (c : Nat->Nat->Bool) (p : Array Nat) (m : Nat) : Prop:=∀ i j,i < j->j < m->c (p.getD i 0) (p.getD j 0) = true
def Dn (c : Nat->Nat->Bool) (p : Array Nat) (m : Nat) : Prop:=∀ i j,i < j->j < m->c (p.getD j 0) (p.getD i 0) = true
section
variable {c : Nat->Nat->Bool} {n : Nat}
theorem zax (O : Ord c n) {p : Array Nat} (hp : Pm n p) : ∀ (f m : Nat),1≤m->m + f≤n->Up c p m->KW c n (kas_asc p f m) (fun r=>m≤r∧r≤m + f∧Up c p r∧(r < m + f->c (p.getD r 0) (p.getD (r - 1) 0) = true))
 | 0,m,_,_,u=>⟨Nat.le_refl _,Nat.le_refl _,u,fun z=>absurd z (Nat.lt_irrefl _)⟩
 | f + 1,m,h1,h2,u=>by
  refine ⟨hp.lt m (by omega),hp.lt (m - 1) (by omega),?_⟩
  cases e : c (p.getD m 0) (p.getD (m - 1) 0) with
  | true=>exact ⟨Nat.le_refl _,by omega,u,fun _=>e⟩
  | false =>
   have hs : c (p.getD (m - 1) 0) (p.getD m 0) = true:=O.tot _ _ (hp.lt m (by omega)) (hp.lt (m - 1) (by omega)) (hp.ne (by omega) (by omega) (by omega)) e
   have u' : Up c p (m + 1):=fun i j hij hj=>by
    by_cases hjm : j < m
    ·exact u i j hij hjm
    ·have ej : j = m:=by omega
     subst ej
     by_cases hi : i = j - 1
     ·rw [hi]; exact hs
     ·exact O.tr _ _ _ (hp.lt i (by omega)) (hp.lt (j - 1) (by omega)) (hp.lt j (by omega)) (u i (j - 1) (by omega) (by omega)) hs
   refine KW.mono (fun r h=>?_) (zax O hp f (m + 1) (by omega) (by omega) u')
   exact ⟨by omega,by omega,h.2.2.1,fun z=>h.2.2.2 (by omega)⟩
theorem zbF (O : Ord c n) {p : Array Nat} (hp : Pm n p) : ∀ (f m : Nat),1≤m->m + f≤n->Dn c p m->KW c n (kas_desc f p m 0) (fun r=>r.1 = p∧r.2.2 = 0∧m≤r.2.1∧r.2.1≤m + f∧Dn c p r.2.1)
 | 0,m,_,_,u=>⟨rfl,rfl,Nat.le_refl _,Nat.le_refl _,u⟩
 | f + 1,m,h1,h2,u=>by
  refine ⟨hp.lt m (by omega),hp.lt (m - 1) (by omega),?_⟩
  cases e : c (p.getD m 0) (p.getD (m - 1) 0) with
  | true =>
   have u' : Dn c p (m + 1):=fun i j hij hj=>by
    by_cases hjm : j < m
    ·exact u i j hij hjm
    ·have ej : j = m:=by omega
     subst ej
     by_cases hi : i = j - 1
     ·rw [hi]; exact e
     ·exact O.tr _ _ _ (hp.lt j (by omega)) (hp.lt (j - 1) (by omega)) (hp.lt i (by omega)) e (u i (j - 1) (by omega) (by omega))
   refine KW.mono (fun r h=>?_) (zbF O hp f (m + 1) (by omega) (by omega) u')
   exact ⟨h.1,h.2.1,by omega,by omega,h.2.2.2.2⟩
  | false =>
   have hs : c (p.getD (m - 1) 0) (p.getD m 0) = true:=O.tot _ _ (hp.lt m (by omega)) (hp.lt (m - 1) (by omega)) (hp.ne (by omega) (by omega) (by omega)) e
   refine ⟨hp.lt (m - 1) (by omega),hp.lt m (by omega),?_⟩
   rw [hs]
   exact ⟨rfl,rfl,Nat.le_refl _,(show m≤m + (f + 1) by omega),u⟩
theorem rev_getD {p : Array Nat} {m : Nat} (hm : m≤p.size) (k : Nat) : (kas_rev p 0 m).getD k 0 = if k < m then p.getD (m - 1 - k) 0 else p.getD k 0:=by
 have q:=getElem?_mirror_all (xs:=p) (i:=0) hm k
 have e : ∀ (a : Array Nat) (j : Nat),a.getD j 0 = (a[j]?).getD 0:=fun a j=>by simp [Array.getD_eq_getD_getElem?]
 unfold kas_rev
 rw [e,q]
 by_cases h : k < m
 ·rw [if_pos ⟨Nat.zero_le _,h⟩,if_pos h,e,Nat.zero_add]
 ·rw [if_neg (by omega),if_neg h,e]
theorem zc4 (O : Ord c n) {p : Array Nat} (hp : Pm n p) {m : Nat} (h1 : 1≤m) (h2 : m≤n) (u : Dn c p m) : KW c n (kas_tail3 m n p) (fun r=>1≤r.1∧r.1≤n∧Pm n r.2∧Up c r.2 r.1):=by
 have hr : Pm n (kas_rev p 0 m):=hp.of (mirror_perm _ _ _ _)
 have hsz : m≤p.size:=by rw [hp.sz]; exact h2
 have u' : Up c (kas_rev p 0 m) m:=fun i j hij hj=>by
  rw [rev_getD hsz,rev_getD hsz,if_pos (by omega),if_pos hj]
  exact u _ _ (by omega) (by omega)
 refine KW.bind (KW.mono (fun r h=>?_) (zax O hr (n - m) m h1 (by omega) u'))
 exact ⟨by omega,by omega,hr,h.2.2.1⟩
theorem zdk (O : Ord c n) {p : Array Nat} (hp : Pm n p) (h2 : 2≤n) : KW c n (kas_count n p) (fun r=>1≤r.1∧r.1≤n∧Pm n r.2∧Up c r.2 r.1):=by
 refine KW.bind (KW.mono (fun r h=>?_) (zax O hp (n - 1) 1 (Nat.le_refl _) (by omega) (fun i j hij hj=>by omega)))
 obtain ⟨h1,h3,u,st⟩:=h
 by_cases e : r = n
 ·subst e
  rw [if_pos (by simp)]
  exact ⟨h1,Nat.le_refl _,hp,u⟩
 ·rw [if_neg (by simpa using e)]
  by_cases hr : r > 1
  ·rw [if_pos hr]
   refine ⟨hp.lt 0 (by omega),hp.lt (r - 1) (by omega),?_⟩
   rw [u 0 (r - 1) (by omega) (by omega)]
   exact ⟨h1,by omega,hp,u⟩
  ·rw [if_neg hr]
   have er : r = 1:=by omega
   subst er
   have s1:=st (by omega)
   have d : Dn c p 2:=fun i j hij hj=>by
    have ei : i = 0:=by omega
    have ej : j = 1:=by omega
    subst ei; subst ej
    exact s1
   refine KW.bind (KW.mono (fun r h=>?_) (zbF O hp (n - 2) 2 (by omega) (by omega) d))
   obtain ⟨a1,a2,a3,a4,a5⟩:=h
   obtain ⟨q,m,z⟩:=r
   simp only at a1 a2 a3 a4 a5
   subst a1; subst a2
   show KW c n (if 0 > 0 then _ else _) _
   rw [if_neg (Nat.lt_irrefl 0)]
   exact zc4 O hp (show 1≤m by omega) (show m≤n by omega) a5
theorem Vs (O : Ord c n) {p : Array Nat} (hp : Pm n p) {k : Nat} (hk : k < n) (u : Up c p k) : ∀ (f l r : Nat),l≤r->r≤k->r - l≤f->(∀ i,i < l->c (p.getD i 0) (p.getD k 0) = true)->(∀ i,r≤i->i < k->c (p.getD k 0) (p.getD i 0) = true) ->
  KW c n (kas_place p k f l r) (fun l=>l≤k∧(∀ i,i < l->c (p.getD i 0) (p.getD k 0) = true)∧(∀ i,l≤i->i < k->c (p.getD k 0) (p.getD i 0) = true))
 | 0,l,r,h1,h2,h3,lo,hi=>⟨by omega,lo,fun i a b=>hi i (by omega) b⟩
 | f + 1,l,r,h1,h2,h3,lo,hi=>by
  unfold kas_place
  by_cases hlr : l ≥ r
  ·rw [if_pos hlr]
   exact ⟨by omega,lo,fun i a b=>hi i (by omega) b⟩
  ·rw [if_neg hlr]
   have hm : (l + r) / 2 < k:=by omega
   refine ⟨hp.lt k hk,hp.lt _ (by omega),?_⟩
   cases e : c (p.getD k 0) (p.getD ((l + r) / 2) 0) with
   | true =>
    dsimp only
    rw [if_pos rfl]
    refine Vs O hp hk u f l ((l + r) / 2) (by omega) (by omega) (by omega) lo fun i a b=>?_
    by_cases ei : i = (l + r) / 2
    ·rw [ei]; exact e
    ·exact O.tr _ _ _ (hp.lt k hk) (hp.lt _ (by omega)) (hp.lt i (by omega)) e (u _ _ (by omega) b)
   | false =>
    dsimp only
    rw [if_neg Bool.false_ne_true]
    have hs : c (p.getD ((l + r) / 2) 0) (p.getD k 0) = true:=O.tot _ _ (hp.lt k hk) (hp.lt _ (by omega)) (hp.ne hk (by omega) (by omega)) e
    refine Vs O hp hk u f ((l + r) / 2 + 1) r (by omega) h2 (by omega) (fun i a=>?_) hi
    by_cases ei : i = (l + r) / 2
    ·rw [ei]; exact hs
    ·exact O.tr _ _ _ (hp.lt i (by omega)) (hp.lt _ (by omega)) (hp.lt k hk) (u _ _ (by omega) (by omega)) hs
theorem zap {p : Array Nat} {k l : Nat} (hk : k < p.size) (hl : l≤k) (i : Nat) : (bubble p k (k - l)).getD i 0 = if i = l then p.getD k 0 else if l < i∧i≤k then p.getD (i - 1) 0 else p.getD i 0:=by
 have q:=getElem?_bubble hk (k - l) (by omega) i
 have e : ∀ (a : Array Nat) (j : Nat),a.getD j 0 = (a[j]?).getD 0:=fun a j=>by simp [Array.getD_eq_getD_getElem?]
 rw [show k - (k - l) = l by omega] at q
 rw [e,e p k,e p (i - 1),e p i,q]
 split
 ·rfl
 ·split
  ·rfl
  ·rfl
theorem zdr (O : Ord c n) : ∀ (f : Nat) {p : Array Nat} {k : Nat},Pm n p->1≤k->k + f = n->Up c p k->KW c n (kas_bin f p k) (fun q=>Pm n q∧Up c q n)
 | 0,p,k,hp,h1,h2,u=>by
  have : k = n:=by omega
  subst this
  exact ⟨hp,u⟩
 | f + 1,p,k,hp,h1,h2,u=>by
  refine KW.bind (KW.mono (fun l h=>?_) (Vs O hp (show k < n by omega) u k 0 k (Nat.zero_le _) (Nat.le_refl _) (by omega) (fun i hi=>by omega) (fun i a b=>by omega)))
  obtain ⟨hlk,lo,hi⟩:=h
  have hks : k < p.size:=by rw [hp.sz]; omega
  refine zdr O f (hp.of (bubble_perm _ _ _)) (by omega) (by omega) fun i j hij hj=>?_
  rw [zap hks hlk,zap hks hlk]
  by_cases hi1 : i = l
  ·rw [if_pos hi1,if_neg (by omega),if_pos (by omega)]
   exact hi _ (by omega) (by omega)
  ·rw [if_neg hi1]
   by_cases hi2 : l < i∧i≤k
   ·rw [if_pos hi2,if_neg (by omega),if_pos (by omega)]
    exact u _ _ (by omega) (by omega)
   ·rw [if_neg hi2]
    by_cases hj1 : j = l
    ·rw [if_pos hj1]
     exact lo _ (by omega)
    ·rw [if_neg hj1]
     by_cases hj2 : l < j∧j≤k
     ·rw [if_pos hj2]
      exact u _ _ (by omega) (by omega)
     ·rw [if_neg hj2]
      exact u _ _ (by omega) (by omega)
theorem zew (O : Ord c n) (h2 : 2≤n) : KW c n (kas_sort n) (fun p=>Pm n p∧Up c p n):=by
 have h0 : Pm n (List.toArray (List.range n)):=⟨by simp,by simp⟩
 refine KW.bind (KW.mono (fun r h=>?_) (zdk O h0 h2))
 obtain ⟨h1,h3,hp,u⟩:=h
 by_cases hr : r.1 < n
 ·rw [if_pos hr,Nat.max_eq_left h1]
  exact zdr O _ hp h1 (by omega) u
 ·rw [if_neg hr]
  have : r.1 = n:=by omega
  rw [this] at u
  exact ⟨hp,u⟩
end
section
variable {prog : Program} {w : World} {A : Around} {E : Value->Shared->Prop} {s : Shared}
theorem Qh {α : Type} (d : α) (zs : List α) {p : List Nat} (h : p.Perm (List.range zs.length)) : (p.map fun i=>zs.getD i d).Perm zs:=by
 have e : (List.range zs.length).map (fun i=>zs.getD i d) = zs:=by
  apply List.ext_getElem?
  intro i
  rw [List.getElem?_map]
  by_cases hi : i < zs.length
  ·rw [List.getElem?_range hi,Option.map_some,List.getD_eq_getElem?_getD,List.getElem?_eq_getElem hi]; rfl
  ·rw [List.getElem?_eq_none (by simpa using hi),List.getElem?_eq_none (by omega)]; rfl
 have q:=h.map fun i=>zs.getD i d
 rw [e] at q
 exact q
end
end HT
namespace L2
open PySem PySem.Spec PyProof.Rows
section
variable {X : Cx}
theorem Qm : ∀ {zs : List (Addr × List Int)} {its : List Value},Vals (zs.map fun z=>V.ref z.1) its->its = zs.map fun z=>Value.ref z.1
 | [],its,h=>by cases h; rfl
 | z :: zs,its,h=>by
  cases h with
  | cons r t=>rw [Qm t]; cases r; rfl
theorem Wo : ∀ (zs : List (Addr × List Int)),Vals (zs.map fun z=>V.ref z.1) (zs.map fun z=>Value.ref z.1)
 | []=>.nil
 | z :: zs=>.cons rfl (Wo zs)
end
section
variable {κ : Type} [DecidableEq κ]
def WT (kvs : List (κ × V)) (k : κ) : Option V:=(kvs.find? fun kv=>decide (kv.1 = k)).map (·.2)
def putK (kvs : List (κ × V)) (k : κ) (v : V) : List (κ × V) :=
 if (kvs.any fun kv=>decide (kv.1 = k)) = true then kvs.map (fun kv=>if kv.1 = k then (kv.1,v) else kv) else kvs ++ [(k,v)]
def zes (kvs : List (κ × V)) (k : κ) : List (κ × V):=kvs.filter fun kv=>decide (kv.1 ≠ k)
theorem V1 {p : κ × V} {r : List (κ × V)} {k : κ} (e : p.1 = k) : WT (p :: r) k = some p.2:=by simp [WT,List.find?_cons,e]
theorem Ua {p : κ × V} {r : List (κ × V)} {k : κ} (e : ¬ p.1 = k) : WT (p :: r) k = WT r k:=by simp [WT,List.find?_cons,e]
theorem zak (k : κ) : ∀ kvs : List (κ × V),(kvs.any fun kv=>decide (kv.1 = k)) = (WT kvs k).isSome
 | []=>rfl
 | p :: r=>by
  rw [List.any_cons]
  by_cases e : p.1 = k
  ·simp only [V1 e,decide_eq_true e,Bool.true_or,Option.isSome_some]
  ·rw [Ua e,decide_eq_false e,Bool.false_or]; exact zak k r
theorem WL (kvs : List (κ × V)) (k : κ) (v : V) : (putK kvs k v).length≤kvs.length + 1:=by
 unfold putK
 split
 ·rw [List.length_map]; omega
 ·rw [List.length_append,List.length_cons,List.length_nil]; omega
theorem RelO.isSome_eq {o : Option V} {u : Option Value} (r : RelO o u) : o.isSome = u.isSome:=by
 cases o with
 | none=>cases u with
  | none=>rfl
  | some _=>exact (show False from r).elim
 | some _=>cases u with
  | none=>exact (show False from r).elim
  | some _=>rfl
theorem RelO.getD {o : Option V} {u : Option Value} {d : V} {d' : Value} (r : RelO o u) (rd : RelV d d') : RelV (o.getD d) (u.getD d'):=by
 cases o with
 | none=>cases u with
  | none=>exact rd
  | some _=>exact (show False from r).elim
 | some _=>cases u with
  | none=>exact (show False from r).elim
  | some _=>exact r
theorem KV.val {kvs : List (κ × V)} {vs : List (κ × Value)} (r : KV kvs vs) (k : κ) : RelO (WT kvs k) (valueAt vs k):=by
 unfold KV at r
 induction r with
 | nil=>exact True.intro
 | @cons p q ps qs h t ih =>
  obtain ⟨h1,h2⟩:=h
  by_cases e : p.1 = k
  ·have e' : q.1 = k:=h1.symm.trans e
   have b : valueAt (q :: qs) k = some q.2:=by simp [valueAt,List.find?_cons,e']
   rw [V1 e,b]; exact h2
  ·have e' : ¬ q.1 = k:=fun z=>e (h1.trans z)
   have b : valueAt (q :: qs) k = valueAt qs k:=by simp [valueAt,List.find?_cons,e']
   rw [Ua e,b]; exact ih
theorem KV.any {kvs : List (κ × V)} {vs : List (κ × Value)} (r : KV kvs vs) (k : κ) : (kvs.any fun kv=>decide (kv.1 = k)) = vs.any fun kv=>decide (kv.1 = k):=by
 unfold KV at r
 induction r with
 | nil=>rfl
 | cons h t ih=>rw [List.any_cons,List.any_cons,ih,h.1]
theorem KV.repl {kvs : List (κ × V)} {vs : List (κ × Value)} (r : KV kvs vs) (k : κ) {y : V} {u : Value} (ry : RelV y u) :
  KV (kvs.map fun kv=>if kv.1 = k then (kv.1,y) else kv) (vs.map fun kv=>if kv.1 = k then (kv.1,u) else kv):=by
 unfold KV at r ⊢
 induction r with
 | nil=>exact .nil
 | @cons p q ps qs h t ih =>
  rw [List.map_cons,List.map_cons]
  refine .cons ?_ ih
  obtain ⟨h1,h2⟩:=h
  by_cases e : p.1 = k
  ·rw [if_pos e,if_pos (h1.symm.trans e)]; exact ⟨h1,ry⟩
  ·rw [if_neg e,if_neg (fun z=>e (h1.trans z))]; exact ⟨h1,h2⟩
theorem KV.put {kvs : List (κ × V)} {vs : List (κ × Value)} (r : KV kvs vs) (k : κ) {y : V} {u : Value} (ry : RelV y u) : KV (putK kvs k y) (stored vs k u):=by
 unfold putK stored
 rw [r.any k]
 by_cases e : (vs.any fun kv=>decide (kv.1 = k)) = true
 ·rw [if_pos e,if_pos e]; exact r.repl k ry
 ·rw [if_neg e,if_neg e]; exact Paired.snoc r ⟨rfl,ry⟩
theorem KV.drop {kvs : List (κ × V)} {vs : List (κ × Value)} (r : KV kvs vs) (k : κ) : KV (zes kvs k) (without vs k):=by
 unfold KV at r ⊢
 unfold zes without
 induction r with
 | nil=>exact .nil
 | @cons p q ps qs h t ih =>
  obtain ⟨h1,h2⟩:=h
  rw [List.filter_cons,List.filter_cons]
  by_cases e : p.1 = k
  ·have a : ¬ decide (p.1 ≠ k) = true:=by simp [e]
   have b : ¬ decide (q.1 ≠ k) = true:=by simp [h1.symm.trans e]
   rw [if_neg a,if_neg b]; exact ih
  ·have e' : ¬ q.1 = k:=fun z=>e (h1.trans z)
   have a : decide (p.1 ≠ k) = true:=by simp [e]
   have b : decide (q.1 ≠ k) = true:=by simp [e']
   rw [if_pos a,if_pos b]; exact .cons ⟨h1,h2⟩ ih
theorem KV.length {kvs : List (κ × V)} {vs : List (κ × Value)} (r : KV kvs vs) : kvs.length = vs.length:=Paired.length r
end
theorem zeu {P : Program} {w : World} {k : Key} {u : Value} (r : RelV (kV k) u) : (wD P w).is k u = true:=by
 cases k with
 | inl i=>obtain ⟨t,e⟩:=(show ∃ t,u = Value.int i t from r); subst e; exact J1 P w i t
 | inr x=>obtain ⟨t,e⟩:=(show ∃ t,u = Value.str x t from r); subst e; exact JN P w x t
theorem Qc {P : Program} {w : World} : ∀ {ks : List Key} {us : List Value},Vals (ks.map kV) us->ItemsAre (wD P w) ks us
 | [],_,r=>by rw [List.map_nil] at r; cases r; exact .nil
 | k :: ks,_,r=>by
  rw [List.map_cons] at r
  cases r with
  | cons h t=>exact .cons (zeu h) (Qc t)
abbrev KT (H : Hp) : List (List Key × V)->List (List Key × Addr × Value)->Prop:=Paired fun p q=>p.1 = q.1∧H q.2.1 = some (.tup (p.1.map kV))∧RelV p.2 q.2.2
theorem KT.val {H : Hp} {kvs : List (List Key × V)} {xs : List (List Key × Addr × Value)} (r : KT H kvs xs) (k : List Key) : RelO (WT kvs k) ((atKey xs k).map (·.2)):=by
 induction r with
 | nil=>exact True.intro
 | @cons p q ps qs h t ih =>
  obtain ⟨h1,_,h2⟩:=h
  by_cases e : p.1 = k
  ·have e' : q.1 = k:=h1.symm.trans e
   have b : atKey (q :: qs) k = some q.2:=by simp [atKey,List.find?_cons,e']
   rw [V1 e,b]; exact h2
  ·have e' : ¬ q.1 = k:=fun z=>e (h1.trans z)
   have b : atKey (q :: qs) k = atKey qs k:=by simp [atKey,List.find?_cons,e']
   rw [Ua e,b]; exact ih
theorem KT.repl {H : Hp} {kvs : List (List Key × V)} {xs : List (List Key × Addr × Value)} (r : KT H kvs xs) (k : List Key) {y : V} {u : Value} (ry : RelV y u) :
  KT H (kvs.map fun kv=>if kv.1 = k then (kv.1,y) else kv) (xs.map (putAt k u)):=by
 induction r with
 | nil=>exact .nil
 | @cons p q ps qs h t ih =>
  rw [List.map_cons,List.map_cons]
  refine .cons ?_ ih
  obtain ⟨h1,h2,h3⟩:=h
  unfold putAt
  by_cases e : p.1 = k
  ·rw [if_pos e,if_pos (h1.symm.trans e)]; exact ⟨h1,h2,ry⟩
  ·rw [if_neg e,if_neg (fun z=>e (h1.trans z))]; exact ⟨h1,h2,h3⟩
theorem KT.put {H : Hp} {kvs : List (List Key × V)} {xs : List (List Key × Addr × Value)} (r : KT H kvs xs) (k : List Key) {b : Addr} {y : V} {u : Value} (hb : H b = some (.tup (k.map kV))) (ry : RelV y u) :
  KT H (putK kvs k y) (storedH xs k b u):=by
 have e : (kvs.any fun kv=>decide (kv.1 = k)) = (atKey xs k).isSome:=by
  rw [zak,(r.val k).isSome_eq,Option.isSome_map]
 unfold putK storedH
 rw [e]
 by_cases q : (atKey xs k).isSome = true
 ·rw [if_pos q,if_pos q]; exact r.repl k ry
 ·rw [if_neg q,if_neg q]; exact Paired.snoc r ⟨rfl,hb,ry⟩
theorem KT.keeps {H H' : Hp} {kvs : List (List Key × V)} {xs : List (List Key × Addr × Value)} (r : KT H kvs xs) (ht : ∀ b ys,H b = some (.tup ys)->H' b = some (.tup ys)) : KT H' kvs xs :=
 Paired.mapP r fun _ _ z=>⟨z.1,ht _ _ z.2.1,z.2.2⟩
section
variable {P : Program} {w : World} {H : Hp} {h : Heap} {a : Addr}
theorem zeq {u : HO} (ok : HOk P w H h) (e : Rd H a u) : ObjOk P w H h a u:=e.ok ok
theorem zfC {kvs : List (Key × V)} (ok : HOk P w H h) (e : Rd H a (.dK kvs)) : kvs.length≤sizeLine∧(a == sysModules) = false∧∃ vs,KV kvs vs∧h.DictOf (wD P w) a vs :=
 show ObjOk P w H h a (.dK kvs) from zeq ok e
theorem zfx {kvs : List (Key × V)} (ok : HOk P w H h) (e : H a = some (.dK kvs)) : kvs.length≤sizeLine∧(a == sysModules) = false∧∃ vs,KV kvs vs∧h.DictOf (wD P w) a vs:=zfC ok (.inl e)
theorem zcA {ks : List Key} (ok : HOk P w H h) (e : H a = some (.tup (ks.map kV))) : (tupleKind (wD P w)).is h ks a:=by
 obtain ⟨_,its,r,o,h1,h2,n,h3⟩:=(show ObjOk P w H h a (.tup (ks.map kV)) from ok a _ e)
 exact ⟨o,its.toArray,n,h1,h2,h3,by simpa using Qc r⟩
theorem zfq {kvs : List (List Key × V)} (ok : HOk P w H h) (e : Rd H a (.dT kvs)) : kvs.length≤sizeLine∧(a == sysModules) = false ∧
  ∃ xs,KT H kvs xs∧h.DictOfH (tupleKind (wD P w)) a xs:=by
 obtain ⟨z,y,xs,r,o,es,ep,h1,h2,h3,h4,h5⟩:=(show ObjOk P w H h a (.dT kvs) from zeq ok e)
 refine ⟨z,y,xs,r,o,es,ep,h1,h2,h3,h4,fun x hx=>?_,h5⟩
 have all : ∀ {l : List (List Key × V)} {m : List (List Key × Addr × Value)},KT H l m->∀ x ∈ m,(tupleKind (wD P w)).is h x.1 x.2.1:=by
  intro l m q
  induction q with
  | nil=>intro x hx; exact nomatch hx
  | @cons p q ps qs hq t ih =>
   intro x hx
   rcases List.mem_cons.mp hx with e | hx
   ·subst e
    exact zcA ok (by rw [← hq.1]; exact hq.2.1)
   ·exact ih x hx
 exact all r x hx
theorem zer {kvs : List (List Key × V)} (ok : HOk P w H h) (e : H a = some (.dT kvs)) : kvs.length≤sizeLine∧(a == sysModules) = false ∧
  ∃ xs,KT H kvs xs∧h.DictOfH (tupleKind (wD P w)) a xs:=zfq ok (.inl e)
end
def DGet (H : Hp) (a : Addr) (y : V) (r : Option V) : Prop :=
 (∃ kvs k,Rd H a (.dK kvs)∧y = kV k∧r = WT kvs k)∨∃ kvs k b,Rd H a (.dT kvs)∧y = .ref b∧H b = some (.tup (k.map kV))∧r = WT kvs k
def DPut (H : Hp) (a : Addr) (y v : V) (H' : Hp) : Prop :=
 (∃ kvs k,H a = some (.dK kvs)∧y = kV k∧kvs.length < sizeLine∧H' = upd H a (.dK (putK kvs k v))) ∨
 ∃ kvs k b,H a = some (.dT kvs)∧y = .ref b∧H b = some (.tup (k.map kV))∧kvs.length < sizeLine∧H' = upd H a (.dT (putK kvs k v))
theorem DGet.k {H : Hp} {a : Addr} {kvs : List (Key × V)} {k : Key} (e : H a = some (.dK kvs)) : DGet H a (kV k) (WT kvs k):=.inl ⟨kvs,k,.inl e,rfl,rfl⟩
theorem DGet.t {H : Hp} {a b : Addr} {kvs : List (List Key × V)} {k : List Key} (e : H a = some (.dT kvs)) (eb : H b = some (.tup (k.map kV))) : DGet H a (.ref b) (WT kvs k):=.inr ⟨kvs,k,b,.inl e,rfl,eb,rfl⟩
theorem DPut.k {H : Hp} {a : Addr} {kvs : List (Key × V)} {k : Key} {v : V} (e : H a = some (.dK kvs)) (hl : kvs.length < sizeLine) : DPut H a (kV k) v (upd H a (.dK (putK kvs k v))):=.inl ⟨kvs,k,e,rfl,hl,rfl⟩
theorem DPut.t {H : Hp} {a b : Addr} {kvs : List (List Key × V)} {k : List Key} {v : V} (e : H a = some (.dT kvs)) (eb : H b = some (.tup (k.map kV))) (hl : kvs.length < sizeLine) :
  DPut H a (.ref b) v (upd H a (.dT (putK kvs k v))):=.inr ⟨kvs,k,b,e,rfl,eb,hl,rfl⟩
section
variable {X : Cx} {pins : List (Addr × Obj)} {σ : St} {H : Hp} {s : Shared} {a : Addr} {y v : V} {u r : Value} {o : Option V} {A : Around} {E : Value->Shared->Prop}
theorem Inv.big (I : Inv X pins σ H s) : sysModules < s.heap.objs.size:=by
 have h : mainGlobals < s.heap.objs.size:=(I.mod.glob.keeps I.bk).lt
 exact Nat.lt_trans (by decide) h
theorem zbl {h' : Heap} {t' : Nat} {ob : HO} (I : Inv X pins σ H s) (mu : Mut (H a)) (hs : Heap.SameBut a s.heap h') (he : ∃ q,h'.get? a = some q) (new : ObjOk X.prog X.w (upd H a ob) h' a ob) :
  Inv X pins σ (upd H a ob) { s with heap:=h',toks:=t' } :=
 I.write (x:=a) (e:=a) mu (.inl rfl) (fun b q hb z=>(hs.2 b hb).trans z) he new
theorem zfk {P : Program} {w : World} {H' : Hp} {h' : Heap} {kvs : List (Key × V)} {vs : List (Key × Value)} (z : kvs.length≤sizeLine) (hd : (a == sysModules) = false) (rel : KV kvs vs) (dd : h'.DictOf (wD P w) a vs) :
  ObjOk P w H' h' a (.dK kvs):=⟨z,hd,vs,rel,dd⟩
theorem zb4 {H' : Hp} {Q : Unit->Shared->Prop} (hu : A.units + 1 < cLine) (I : Inv X pins σ H s) (g : DPut H a y v H') (ry : RelV y u) (rv : RelV v r) (h : ∀ s',Inv X pins σ H' s'->Q () s') :
  wpAny (model X.prog X.w) A (setItem (.ref a) u r) Q E s:=by
 rcases g with ⟨kvs,k,e,ey,l,eH⟩ | ⟨kvs,k,b,e,ey,eb,l,eH⟩
 ·subst ey eH
  obtain ⟨z,hd,vs,rel,dd⟩:=zfx I.hok e
  have hz : vs.length≤sizeLine:=by rw [← rel.length]; exact z
  have hl : (putK kvs k v).length≤sizeLine:=by have:=WL kvs k v; omega
  refine wpAny_setItem_pairs (hsz:=hz) (zeu ry) dd fun h' dd' hs=>h _ ?_
  have he : ∃ q,h'.get? a = some q:=let ⟨q,_,_,hq,_⟩:=dd'; ⟨q,hq⟩
  exact zbl I (by rw [e]; exact True.intro) hs he (zfk hl hd (rel.put k rv) dd')
 ·subst ey eH
  cases (show u = Value.ref b from ry)
  obtain ⟨z,hd,xs,rel,dd⟩:=zer I.hok e
  have hz : xs.length≤sizeLine:=by rw [← Paired.length rel]; exact z
  have hl : (putK kvs k v).length≤sizeLine:=by have:=WL kvs k v; omega
  refine wpAny_setItem_heap (hsz:=hz) (tupleKind_room_in1 hu) (zcA I.hok eb) dd fun h' dd' hs=>h _ ?_
  obtain ⟨q,es,ep,hq,h2,h3,h4,_,h5⟩:=dd'
  refine zbl I (by rw [e]; exact True.intro) hs ⟨q,hq⟩ ⟨hl,hd,_,(rel.put k eb rv).keeps fun c ys ec=>?_,q,es,ep,hq,h2,h3,h4,h5⟩
  rw [zy (jz ec e (fun z=>nomatch z))]
  exact ec
end
section
variable {X : Cx} {pins : List (Addr × Obj)} {σ : St} {H : Hp} {s : Shared} {a : Addr} {kvs : List (Key × V)} {k : Key} {u : Value} {A : Around} {E : Value->Shared->Prop}
end
def zfV (td ty tv : TE) : TS:=fun D σ H=>tv σ H fun v H1=>td σ H1 fun x H2=>ty σ H2 fun y H3=>∃ a H4,x = .ref a∧DPut H3 a y v H4∧D.nx σ H4
section
variable {X : Cx} {o i e value : Expr} {pos pos' tpos : Pos} {td ty tv : TE}
theorem zd3 (hu : X.A.units + 1 < cLine) (ho : PE X o td) (hi : PE X i ty) (hv : PE X value tv) (hs : swapsWith value (some (.Subscript o i pos')) pos.line X.env = pure false) :
  PS X (.Assign [.Subscript o i pos'] value pos) (zfV td ty tv):=by
 intro pins s σ H D I h
 refine wpAny_Assign_Subscript (thn (hv pins s σ H _ I h) fun r s1 ⟨v,H1,I1,rv,q1⟩=>thn (ho pins s1 σ H1 _ I1 q1) fun u s2 ⟨x,H2,I2,rx,q2⟩=>thn (hi pins s2 σ H2 _ I2 q2) fun iv s3 ⟨y,H3,I3,ry,a,H4,ex,g,q3⟩=>?_) hs
 subst ex
 obtain rfl : u = Value.ref a:=rx
 exact zb4 hu I3 g ry rv fun s4 I4=>⟨σ,H4,I4,q3⟩
end
theorem zcx {P : Program} {w : World} {H : Hp} (h : Heap) (hb : sysModules < h.objs.size) : ObjOk P w H (h.push { cls:=.type "dict",data:=.dict #[] }) h.objs.size (.dK []) :=
 ⟨Nat.zero_le _,beq_eq_false_iff_ne.mpr (Ne.symm (Nat.ne_of_lt hb)),[],.nil,Heap.DictOf.new h⟩
theorem zdq {P : Program} {w : World} {H : Hp} (h : Heap) (hb : sysModules < h.objs.size) : ObjOk P w H (h.push { cls:=.type "dict",data:=.dict #[] }) h.objs.size (.dT []) :=
 ⟨Nat.zero_le _,beq_eq_false_iff_ne.mpr (Ne.symm (Nat.ne_of_lt hb)),[],.nil,_,#[],0,Heap.get?_push_size _ rfl,⟨rfl,rfl,rfl⟩,rfl,rfl,List.nodup_nil⟩
def Jk : TE:=fun _ H Q=>∀ p,H p = none->Q (.ref p) (upd H p (.dK []))
def zeU : TE:=fun _ H Q=>∀ p,H p = none->Q (.ref p) (upd H p (.dT []))
section
variable {X : Cx} {pos : Pos}
theorem jd : PE X (.Dict [] [] pos) Jk:=fun pins s σ H Q I h =>
 wpAny_Dict_empty ⟨.ref s.heap.objs.size,_,I.laid (a:=s.heap.objs.size) (o:=.dK []) (t':=s.toks) (fun _ _ q=>Heap.get?_push_of_some _ q) (Nat.le_refl _) (zcx s.heap I.big),rfl,h _ (I.hok.fresh (Nat.le_refl _))⟩
theorem zdn : PE X (.Dict [] [] pos) zeU:=fun pins s σ H Q I h =>
 wpAny_Dict_empty ⟨.ref s.heap.objs.size,_,I.laid (a:=s.heap.objs.size) (o:=.dT []) (t':=s.toks) (fun _ _ q=>Heap.get?_push_of_some _ q) (Nat.le_refl _) (zdq s.heap I.big),rfl,h _ (I.hok.fresh (Nat.le_refl _))⟩
end
structure M1 (X : Cx) (o : Expr) (m : Str) (apos : Pos) (e : Expr) (cpos : Pos) : Prop where
 base : attributeBase o m X.env (eval o X.env) = eval o X.env
 few : ((backTo cpos (starEach [e] X.env)).all (fun x=>!x.1) && (backToKw cpos (keywordEach [] X.env)).all (fun x=>x.1.isSome)
  && decide (([e] : List Expr).length + ([] : List Keyword).length + (if ([] : List Keyword).isEmpty then 0 else 1) < 30)) = true
 line : (apos.endLine == cpos.line) = true
 trees : backTo cpos (starEach [e] X.env) = [(false,eval e X.env)]
structure M2 (X : Cx) (o : Expr) (m : Str) (apos : Pos) (e f : Expr) (cpos : Pos) : Prop where
 base : attributeBase o m X.env (eval o X.env) = eval o X.env
 few : ((backTo cpos (starEach [e,f] X.env)).all (fun x=>!x.1) && (backToKw cpos (keywordEach [] X.env)).all (fun x=>x.1.isSome)
  && decide (([e,f] : List Expr).length + ([] : List Keyword).length + (if ([] : List Keyword).isEmpty then 0 else 1) < 30)) = true
 line : (apos.endLine == cpos.line) = true
 trees : backTo cpos (starEach [e,f] X.env) = [(false,eval e X.env),(false,eval f X.env)]
section
variable {X : Cx} {pins : List (Addr × Obj)} {σ : St} {H : Hp} {s : Shared} {a : Addr} {y d : V} {u r : Value} {o : Option V} {A : Around} {E : Value->Shared->Prop}
end
section
variable {X : Cx} {o e f : Expr} {apos cpos : Pos} {td ty tx : TE}
end
section
variable {X : Cx} {pins : List (Addr × Obj)} {σ : St} {H : Hp} {s : Shared} {a : Addr} {kvs : List (Key × V)} {A : Around} {E : Value->Shared->Prop}
end
section
variable {X : Cx} {pins : List (Addr × Obj)} {σ : St} {H : Hp} {s : Shared} {a : Addr} {y : V} {u : Value} {A : Around} {E : Value->Shared->Prop}
end
section
variable {X : Cx}
end
section
variable {κ : Type} [DecidableEq κ]
end
end L2
namespace HT
open PySem PyProof.Rows PySem.W
section
variable {prog : Program} {w : World} {A : Around} {E : Value->Shared->Prop} {s : Shared}
theorem zaB {a : Addr} {vs : List Value} {n0 : Nat} {κ : SortKind} {c : Nat->Nat->Bool} {P : PySem.Fin->Shared->Prop} (ho : s.heap.get? a = some (seqObj "list" vs.toArray n0)) (h60 : vs.length≤60) (O : Ord c vs.length)
  (hkind : ∀ G : Heap,(∀ b o,b ≠ a->s.heap.get? b = some o->G.get? b = some o)->2≤vs.length->∀ Q : SortKind->Shared->Prop,Q κ { s with heap:=G }->wpAny (model prog w) A (keyKind' vs.toArray) Q E { s with heap:=G })
  (hcmp : ∀ G : Heap,(∀ b o,b ≠ a->s.heap.get? b = some o->G.get? b = some o)->∀ i j (C : Bool->Shared->Prop),i < vs.length->j < vs.length->C (c i j) { s with heap:=G }->kas_ask prog w A κ vs i j C { s with heap:=G })
  (h : ∀ p : List Nat,p.Perm (List.range vs.length)->p.Pairwise (fun i j=>c i j = true)->P (.done (.ret .none)) { s with heap:=sortedHeap s.heap a vs (p.map fun i=>vs.getD i Value.none).toArray }) :
  wpAny (model prog w) A (Builtin.«list.sort» ⟨[.ref a],[]⟩) P E s:=by
 rw [list_sort_plain]
 have hsl : vs.length≤sizeLine:=Nat.le_trans h60 (by decide)
 have ha : a < s.heap.objs.size:=Heap.lt_size ho
 obtain ⟨e1,ho1⟩ : ∃ e1,(s.heap.update a (Obj.mapSeq fun _=>#[])).get? a = some (seqObj "list" #[] e1):=⟨_,get?_update_seq ho (fun _=>#[])⟩
 refine wpAny_bind (listItems_at ho rfl (wpAny_bind (listUpdate_at ho rfl (wpAny_bind (seqEpoch_at ho1 rfl (wpAny_bind (wpAny_newTuple (wpAny_bind (wpAny_newList (wpAny_holding ?_) (Nat.zero_le _))) (by show vs.length≤_; exact hsl))))) (by rw [List.size_toArray]; exact hsl) (Nat.zero_le _))))
 generalize hG : (((s.heap.update a (Obj.mapSeq fun _=>(#[] : Array Value))).push (seqObj "tuple" vs.toArray 0)).push (seqObj "list" #[] 0)) = G
 have ho6 : G.get? a = some (seqObj "list" #[] e1):=by
  rw [← hG,Heap.get?_push_ne _ _ _ (by rw [size_push',Heap.size_update]; exact Nat.ne_of_lt (Nat.lt_succ_of_lt ha)),Heap.get?_push_ne _ _ _ (by rw [Heap.size_update]; exact Nat.ne_of_lt ha)]; exact ho1
 have keep : ∀ b o,b ≠ a->s.heap.get? b = some o->G.get? b = some o:=fun b o hb e=>by
  have hlt:=Heap.lt_size e
  rw [← hG,Heap.get?_push_ne _ _ _ (by rw [size_push',Heap.size_update]; exact Nat.ne_of_lt (Nat.lt_succ_of_lt hlt)),Heap.get?_push_ne _ _ _ (by rw [Heap.size_update]; exact Nat.ne_of_lt hlt),Heap.get?_update_other _ _ (Ne.symm hb)]; exact e
 show wpAny (model prog w) A _ P E { s with heap:=G }
 dsimp only
 have e2 : ∀ out : Array Value,G.update a (Obj.mapSeq fun _=>out) = sortedHeap s.heap a vs out:=fun out=>by rw [← hG]; rfl
 by_cases h2 : vs.toArray.size < 2
 ·rw [if_pos h2,if_pos h2]
  refine wpAny_bind (wpAny_pure ?_)
  rw [StateT.run_pure]
  refine wpAny_bind (wpAny_pure ?_)
  dsimp only
  rw [List.size_toArray] at h2
  have hout : (arrOf (SortSt.mk' general' (vs.toArray.zip vs.toArray) #[] 7 none)).map (·.2) = ((List.range vs.length).map fun i=>vs.getD i Value.none).toArray:=by
   show ((vs.toArray.zip vs.toArray).map (·.2)) = _
   apply Array.toList_inj.mp
   rw [Array.toList_map,Array.toList_zip,List.map_snd_zip (by simp)]
   apply List.ext_getElem?
   intro i
   rw [List.getElem?_map]
   by_cases hi : i < vs.length
   ·rw [List.getElem?_range hi,Option.map_some,List.getD_eq_getElem?_getD,List.getElem?_eq_getElem hi]; rfl
   ·rw [List.getElem?_eq_none (by simpa using hi),List.getElem?_eq_none (by simpa using hi)]; rfl
  rw [hout]
  refine wpAny_bind (seqEpoch_at ho6 rfl (wpAny_bind (listUpdate_at ho6 rfl ?_ (Nat.zero_le _) (by rw [List.size_toArray,List.length_map,List.length_range]; exact Nat.le_succ_of_le hsl))))
  simp only [bne_self_eq_false,Bool.false_eq_true,if_false]
  rw [e2]
  refine wpAny_pure (h _ (List.Perm.refl _) ?_)
  rw [List.pairwise_iff_getElem]
  intro i j hi hj hij
  rw [List.length_range] at hj
  omega
 ·rw [if_neg h2,if_neg h2]
  rw [List.size_toArray] at h2
  refine wpAny_bind (hkind G keep (by omega) _ ?_)
  have ask : (kas_sort vs.length).kasWp (kas_ask prog w A κ vs) (fun p s'=>s' = { s with heap:=G }∧(Pm vs.length p∧Up c p vs.length)) { s with heap:=G } :=
   KW.wp (n:=vs.length) (fun i j C hi hj hC=>hcmp G keep i j C hi hj hC) _ (zew O (by omega))
  refine wpAny_bind (wpAny_mono (kat_run (E:=E) (ks:=vs) (vs:=vs) (Q:=fun st' s'=>∃ p : Array Nat,s' = { s with heap:=G }∧arrOf st' = p.map (kas_item (vs.toArray.zip vs.toArray))∧failedOf st' = none∧Pm vs.length p∧Up c p vs.length)
   rfl (by omega) (by omega) (fun p st' s' _ a2 a3 a4=>⟨p,a4.1,a2,a3,a4.2⟩) ask) ?_ fun _ _ e=>e)
  rintro ⟨⟨⟩,st'⟩ s' ⟨p,rfl,har,hfl,hpm,hup⟩
  dsimp only
  have hpl : p.toList.length = vs.length:=by rw [hpm.pm.length_eq,List.length_range]
  have hol : (p.toList.map fun i=>vs.getD i Value.none).length = vs.length:=by rw [List.length_map,hpl]
  rw [kat_snds rfl har]
  refine wpAny_bind (seqEpoch_at ho6 rfl (wpAny_bind (listUpdate_at ho6 rfl ?_ (Nat.zero_le _) (by rw [List.size_toArray,hol]; exact Nat.le_succ_of_le hsl))))
  rw [hfl]
  simp only [bne_self_eq_false,Bool.false_eq_true,if_false]
  rw [e2]
  refine wpAny_pure (h _ hpm.pm ?_)
  rw [List.pairwise_iff_getElem]
  intro i j hi hj hij
  have q1:=hup i j hij (by omega)
  have g1 : p.getD i 0 = p.toList[i]:=by
   have : i < p.size:=by rw [hpm.sz]; omega
   simp [Array.getD,this]
  have g2 : p.getD j 0 = p.toList[j]:=by
   have : j < p.size:=by rw [hpm.sz]; omega
   simp [Array.getD,this]
  rw [g1,g2] at q1
  exact q1
theorem zdU {r : Addr} {n : Nat} {κ : SortKind} {Pv : List Value->Prop} {Q : Value->Shared->Prop} (h60 : n≤60)
  (hcol : ∀ R : List Value->Shared->Prop,(∀ h' tk vs,(∀ b o,s.heap.get? b = some o->h'.get? b = some o)->vs.length = n->Pv vs->R vs { s with heap:=h',toks:=tk })->wpAny (model prog w) A.in1 (collect (.ref r)) R E s)
  (hord : ∀ vs,vs.length = n->Pv vs->∃ c : Nat->Nat->Bool,Ord c n ∧
   (∀ (G : Heap) (tk : Nat),(∀ b o,s.heap.get? b = some o->G.get? b = some o)->2≤n->∀ Q : SortKind->Shared->Prop,Q κ { s with heap:=G,toks:=tk }->wpAny (model prog w) A.in1.in1 (keyKind' vs.toArray) Q E { s with heap:=G,toks:=tk }) ∧
   (∀ (G : Heap) (tk : Nat),(∀ b o,s.heap.get? b = some o->G.get? b = some o)->∀ i j (C : Bool->Shared->Prop),i < n->j < n->C (c i j) { s with heap:=G,toks:=tk }->kas_ask prog w A.in1.in1 κ vs i j C { s with heap:=G,toks:=tk }) ∧
   ∀ (p : List Nat) (h' h'' : Heap) (tk e : Nat),p.Perm (List.range n)->p.Pairwise (fun i j=>c i j = true)->(∀ b o,s.heap.get? b = some o->h'.get? b = some o)->(∀ b o,h'.get? b = some o->h''.get? b = some o)->h''.get? h'.objs.size = some (seqObj "list" (p.map fun i=>vs.getD i Value.none).toArray e)->Q (.ref h'.objs.size) { s with heap:=h'',toks:=tk }) :
  wpAny (model prog w) A (call (.builtin "sorted") [.ref r]) Q E s:=by
 refine Calls.call_function_entry kind_sorted plain_sorted entry_sorted (args_sorted1 _) ?_
 unfold Builtin.«sorted»
 refine wpAny_bind (m:=checkCount "sorted" 1 1 _) (wpAny_pure (wpAny_bind (hcol _ fun h' tk vs hk hl pv=>?_)))
 obtain ⟨c,O,hkind,hcmp,fin⟩:=hord vs hl pv
 subst hl
 have hsl : vs.length≤sizeLine:=Nat.le_trans h60 (by decide)
 refine wpAny_bind (wpAny_newList ?_ hsl)
 have hoL : (h'.push (seqObj "list" vs.toArray 0)).get? h'.objs.size = some (seqObj "list" vs.toArray 0):=Heap.get?_push_size _ rfl
 have ne : ∀ b o,s.heap.get? b = some o->b ≠ h'.objs.size:=fun b o q=>Nat.ne_of_lt (Heap.lt_size (hk b o q))
 show wpAny _ _ _ _ _ { s with heap:=h'.push (seqObj "list" vs.toArray 0),toks:=tk }
 dsimp only
 refine wpAny_bind (wpAny_holding (wpAny_call_entry slot_list_sort ⟨_,hoL,rfl⟩ entry_list_sort (zaB (A:=A.in1.in1) (s:={ s with heap:=h'.push (seqObj "list" vs.toArray 0),toks:=tk }) (κ:=κ) (c:=c) hoL h60 O (fun G kG h2 Q' hq=>hkind G tk (fun b o q=>kG b o (ne b o q) (Heap.get?_push_of_some _ (hk b o q))) h2 Q' hq)
  (fun G kG i j C hi hj hC=>hcmp G tk (fun b o q=>kG b o (ne b o q) (Heap.get?_push_of_some _ (hk b o q))) i j C hi hj hC) fun p hp hw=>⟨_,rfl,?_⟩) (args_list_sort _)))
 refine wpAny_pure ⟨_,rfl,?_⟩
 obtain ⟨e,he⟩:=sortedHeap_at (out:=(p.map fun i=>vs.getD i Value.none).toArray) hoL
 refine fin p h' _ tk e hp hw hk (fun b o q=>?_) he
 have hlt:=Heap.lt_size q
 rw [sortedHeap_old (Nat.ne_of_lt hlt) (by rw [size_push']; exact Nat.lt_succ_of_lt hlt)]
 exact Heap.get?_push_of_some _ q
end
def RawD (h : Heap) (d : Addr) (ks : List Value) (ep : Nat) : Prop:=∃ (o : Obj) (es : Array DictEntry),h.get? d = some o∧o.ExactDict∧o.data = .dict es ep∧es.toList.map (·.key) = ks
theorem RawD.at {h h' : Heap} {d : Addr} {ks : List Value} {ep : Nat} (x : RawD h d ks ep) (e : ∀ o,h.get? d = some o->h'.get? d = some o) : RawD h' d ks ep:=let ⟨o,es,ho,r⟩:=x; ⟨o,es,e _ ho,r⟩
theorem RawD.lt {h : Heap} {d : Addr} {ks : List Value} {ep : Nat} (x : RawD h d ks ep) : d < h.objs.size:=let ⟨_,_,ho,_⟩:=x; Heap.lt_size ho
theorem RawD.ty {s : Shared} {d : Addr} {ks : List Value} {ep : Nat} (x : RawD s.heap d ks ep) : s.TypeIs (.ref d) "dict":=let ⟨o,_,ho,hc,_⟩:=x; ⟨o,ho,hc.1⟩
section
variable {prog : Program} {w : World} {A : Around} {E : Value->Shared->Prop} {s : Shared} {d it : Addr} {ks : List Value} {ep i : Nat}
theorem zdO {Q : Value->Shared->Prop} (hd : (d == sysModules) = false) (hm : RawD s.heap d ks ep) (hQ : Q (.ref s.heap.objs.size) { s with heap:=s.heap.push { cls:=.type "dict_keyiterator",data:=.fields #[.ref d,.int 0 0,.int ks.length 0,.int ep 0] } }) :
  wpAny (model prog w) A (pyIter (.ref d)) Q E s:=by
 obtain ⟨o,es,ho,hc,hdat,hk⟩:=id hm
 refine wpAny_pyIter_slot hm.ty F.slot_dict_iter (wpAny_call_entry F.slot_dict_iter hm.ty F.entry_dict_iter ?_ (F.args_dict_iter_1 _))
 unfold Builtin.«dict.__iter__» Builtin.Dict.dictSlotNone
 refine wpAny_bind (wpAny_bind (wpAny_notOrdered_dict hm.ty ?_))
 show wpAny _ _ (pure (Value.ref d)) _ _ s
 refine wpAny_pure ?_
 show wpAny _ _ (Builtin.Dict.showsAll d >>= _) _ _ s
 unfold Builtin.Dict.showsAll
 rw [hd,if_neg Bool.false_ne_true]
 have hsz : es.size = ks.length:=by rw [← hk]; simp
 refine wpAny_bind (wpAny_pure (wpAny_bind (wpAny_dictEntries ho hdat (wpAny_bind (wpAny_dictEpoch ho hdat (wpAny_bind (wpAny_newObj_type (wpAny_pure ⟨_,rfl,"dict_keyiterator",_,⟨_,Heap.get?_push_size _ rfl,rfl⟩,F.slot_dict_keyiterator_next.lookup,?_⟩))))))))
 simpa [rawInt,hsz] using hQ
theorem zd5 {v : Value} {Q : Option Value->Shared->Prop} (hit : s.heap.IsKeyIter it d i ks.length ep) (hm : RawD s.heap d ks ep) (hx : ks[i]? = some v)
  (hQ : ∀ h',h'.IsKeyIter it d (i + 1) ks.length ep->Heap.SameBut it s.heap h'->Q (some v) { s with heap:=h' }) : wpAny (model prog w) A (pyNext (.ref it)) Q E s:=by
 obtain ⟨o,ho,hc,hd⟩:=id hit
 obtain ⟨od,es,hod,hcd,hdd,hk⟩:=id hm
 have hsz : es.size = ks.length:=by rw [← hk]; simp
 have hlt : i < es.size:=by rw [hsz]; exact (List.getElem?_eq_some_iff.mp hx).1
 have hkey : es[i].key = v:=by
  rw [← hk,List.getElem?_map] at hx
  simpa [hlt] using hx
 have hown : Builtin.Dict_items.ownsTuple "dict_keyiterator" = false:=by decide
 unfold pyNext
 refine wpAny_bind (wpAny_attempt (wpAny_callSpecial?_slot (name:=Str.ofString "__next__") hit.typeIs F.slot_dict_keyiterator_next (wpAny_call_entry F.slot_dict_keyiterator_next hit.typeIs F.entry_dict_keyiterator_next ?_ (F.args_dict_keyiterator_next_1 _))))
 refine wpAny_bind (wpAny_pure (wpAny_bind (wpAny_bind ?_)))
 first | refine wpAny_bind (wpAny_typeNameOfWhole_keyiter hit.typeIs (wpAny_pure (wpAny_bind (wpAny_fieldsOf ho hd ?_)))) | refine wpAny_bind (wpAny_typeNameOf_keyiter hit.typeIs (wpAny_pure (wpAny_bind (wpAny_fieldsOf ho hd ?_))))
 simp only [hown,Bool.false_eq_true,if_false]
 show wpAny _ _ (if (Value.ref d == Value.none) = true then _ else _) _ _ s
 rw [if_neg (show ¬ ((Value.ref d == Value.none) = true) from Bool.false_ne_true)]
 refine wpAny_bind (wpAny_pure (wpAny_bind (wpAny_dictEntries hod hdd ?_)))
 rw [if_neg (by rw [hsz]; simp)]
 refine wpAny_bind (wpAny_pure (wpAny_bind (wpAny_dictEpoch hod hdd ?_)))
 rw [if_neg (by simp)]
 refine wpAny_pure ?_
 simp only [show ¬ ((i : Int) < 0) from by omega,if_false,Int.toNat_natCast,Array.getElem?_eq_getElem hlt]
 refine wpAny_bind ?_
 first | refine wpAny_bind (wpAny_typeNameOfWhole_keyiter hit.typeIs (wpAny_pure (wpAny_bind (wpAny_isOneOf_keyiter hit.typeIs ?_)))) | refine wpAny_bind (wpAny_typeNameOf_keyiter hit.typeIs (wpAny_pure (wpAny_bind (wpAny_isOneOf_keyiter hit.typeIs ?_))))
 show wpAny _ _ (setField (.ref it) 1 (rawInt ((i : Int) + 1)) >>= _) _ _ s
 refine wpAny_bind (wpAny_setField ho hd (by simp) ?_)
 have hit' : (s.heap.update it (Obj.mapFields (·.setIfInBounds 1 (rawInt ((i : Int) + 1))))).IsKeyIter it d (i + 1) ks.length ep :=
  ⟨_,Heap.get?_update_self _ ho (Obj.isFreed_of_fields (Obj.data_mapFields hd _)),(Obj.cls_mapFields ..).trans hc,by rw [Obj.data_mapFields hd]; simp [rawInt]⟩
 refine wpAny_bind (wpAny_holding (wpAny_bind (wpAny_isOneOf_keyiter (s:={ s with heap:=s.heap.update it (Obj.mapFields (·.setIfInBounds 1 (rawInt ((i : Int) + 1)))) }) hit'.typeIs ?_)))
 show wpAny _ _ (pure es[i].key) _ _ _
 rw [hkey]
 exact wpAny_pure (wpAny_pure ⟨_,rfl,wpAny_pure (hQ _ hit' (Heap.SameBut.update ..))⟩)
theorem zff {Q : Option Value->Shared->Prop} (hh : A.handled = none) (hit : s.heap.IsKeyIter it d ks.length ks.length ep) (hm : RawD s.heap d ks ep) (hQ : ∀ h',Heap.ExtBut it s.heap h'->Q none { s with heap:=h' }) : wpAny (model prog w) A (pyNext (.ref it)) Q E s:=by
 obtain ⟨o,ho,hc,hd⟩:=id hit
 obtain ⟨od,es,hod,hcd,hdd,hk⟩:=id hm
 have hsz : es.size = ks.length:=by rw [← hk]; simp
 have hge : es.size≤ks.length:=Nat.le_of_eq hsz
 have hown : Builtin.Dict_items.ownsTuple "dict_keyiterator" = false:=by decide
 unfold pyNext
 refine wpAny_bind (wpAny_attempt (wpAny_callSpecial?_slot (name:=Str.ofString "__next__") hit.typeIs F.slot_dict_keyiterator_next (wpAny_call_entry F.slot_dict_keyiterator_next hit.typeIs F.entry_dict_keyiterator_next ?_ (F.args_dict_keyiterator_next_1 _))))
 refine wpAny_bind (wpAny_pure (wpAny_bind (wpAny_bind ?_)))
 first | refine wpAny_bind (wpAny_typeNameOfWhole_keyiter hit.typeIs (wpAny_pure (wpAny_bind (wpAny_fieldsOf ho hd ?_)))) | refine wpAny_bind (wpAny_typeNameOf_keyiter hit.typeIs (wpAny_pure (wpAny_bind (wpAny_fieldsOf ho hd ?_))))
 simp only [hown,Bool.false_eq_true,if_false]
 show wpAny _ _ (if (Value.ref d == Value.none) = true then _ else _) _ _ s
 rw [if_neg (show ¬ ((Value.ref d == Value.none) = true) from Bool.false_ne_true)]
 refine wpAny_bind (wpAny_pure (wpAny_bind (wpAny_dictEntries hod hdd ?_)))
 rw [if_neg (by rw [hsz]; simp)]
 refine wpAny_bind (wpAny_pure (wpAny_bind (wpAny_dictEpoch hod hdd ?_)))
 rw [if_neg (by simp)]
 refine wpAny_pure ?_
 simp only [show ¬ ((ks.length : Int) < 0) from by omega,if_false,Int.toNat_natCast,Array.getElem?_eq_none hge]
 refine wpAny_bind ?_
 first | refine wpAny_bind (wpAny_typeNameOfWhole_keyiter hit.typeIs (wpAny_pure ?_)) | refine wpAny_bind (wpAny_typeNameOf_keyiter hit.typeIs (wpAny_pure ?_))
 show wpAny _ _ (setField (.ref it) 0 .none >>= _) _ _ s
 refine wpAny_bind (wpAny_setField ho hd (by simp) ?_)
 show wpAny _ _ (newExc (.type "StopIteration") [] >>= _) _ _ _
 refine wpAny_bind ?_
 simp only [newExc,newTuple]
 refine wpAny_bind (wpAny_newObj_type (wpAny_bind (m:=firstArgMember _ _) (wpAny_of_eq (a:=Value.none) (by first | rfl | (simp only [firstArgMember]; rfl)) (wpAny_newObj_type ?_ (by size_fits)))) (by size_fits))
 simp only [raiseNew]
 refine wpAny_bind (wpAny_handled ?_)
 rw [show A.in1.handled = none from hh]
 refine wpAny_bind (wpAny_pure (wpAny_throw ?_))
 refine wpAny_bind (wpAny_isInstance (T:="StopIteration") (b:=true) ⟨_,Heap.get?_push_size _ rfl,rfl⟩ isSubtype_stop ?_)
 exact wpAny_pure (hQ _ (((Heap.SameBut.update ..).extBut.push _).push _))
theorem zcs (hh : A.handled = none) (I d : Addr) (hne : d ≠ I) (ks : List Value) (ep : Nat) : Walks prog w A I [I,d] [I] ks.length (fun i v=>ks[i]? = some v) (fun i h=>h.IsKeyIter I d i ks.length ep∧RawD h d ks ep) where
 sub:=fun b hb=>by simp at hb; simp [hb]
 frame:=fun _ _ _ st hk=>⟨st.1.at fun o e=>hk I (by simp) o e,st.2.at fun o e=>hk d (by simp) o e⟩
 item:=fun i s Q E hi st hQ=>by
  refine zd5 (v:=ks[i]) st.1 st.2 (List.getElem?_eq_getElem hi) fun h' hit' hs'=>hQ _ h' s.toks (List.getElem?_eq_getElem hi) ⟨hit',st.2.at fun o e=>hs'.extBut _ _ hne e⟩ fun b o hb e=>hs'.extBut b o (fun h=>hb (by simp [h])) e
 done:=fun s Q E st hQ=>zff hh st.1 st.2 fun h' he'=>hQ h' s.toks fun b o hb e=>he' b o (fun h=>hb (by simp [h])) e
 self:=fun _ _ _ _ st hQ=>wpAny_pyIter_keyiter st.1 hQ
theorem zeE (lo : (d == sysModules) = false) : KdlSrc prog w "dict" d d ks.length (fun i v=>ks[i]? = some v) (fun h=>RawD h d ks ep) where
 type:=fun _ hm=>hm.ty
 there:=fun _ hm=>⟨hm.lt,hm.lt⟩
 keep:=fun _ _ hm hk=>hm.at fun o e=>hk d (.inl rfl) o e
 notList:=by decide
 notTuple:=by decide
 hint:=fun _ _ _ _ hm hq=>kdl_hint_dict hm.ty hq
 iter:=fun _ _ hh hm=>⟨_,_,(fun _ _ hq=>zdO lo hm hq),zcs hh _ d (Nat.ne_of_lt hm.lt) ks ep,⟨⟨_,Heap.get?_push_size _ rfl,rfl,rfl⟩,hm.at fun o e=>Heap.get?_push_of_some _ e⟩⟩
end
end HT
namespace L2
open PySem PySem.Spec PyProof.Rows PySem.W
def kI (ns : List Int) : List Key:=ns.map Sum.inl
theorem zfm (ns : List Int) : (kI ns).map kV = ns.map V.int:=by unfold kI; rw [List.map_map]; rfl
theorem zeT {a b : List Int} (e : kI a = kI b) : a = b:=by
 unfold kI at e
 exact List.map_inj_right (fun x y h=>by cases h; rfl) |>.mp e
section
variable {X : Cx} {pins : List (Addr × Obj)} {σ : St} {H : Hp} {s : Shared}
theorem Ji (I : Inv X pins σ H s) {p : Addr} {ns : List Int} (h : H p = some (.tup (ns.map V.int))) : ∃ (its : List Value) (o : Obj) (m : Nat),IntsAre its ns∧s.heap.get? p = some o∧o.cls = .type "tuple"∧o.data = .seq its.toArray m:=by
 obtain ⟨_,its,r,o,e,hc,m,hd⟩:=I.hok p _ h
 exact ⟨its,o,m,by simpa using intsAre_of r,e,hc,hd⟩
end
theorem zac {prog : Program} {w : World} {A : Around} {Q : Bool->Shared->Prop} {s : Shared} {f : Bool} : ∀ {xs ys : List Value} {as bs : List Int} (i : Nat),IntsAre xs as->IntsAre ys bs->f = decide (as.length < bs.length)->Q (HT.lexLt as bs) s->KatLex prog w A true f Q (xs.zip ys) i s
 | [],_,_,_,i,.nil,.nil,hf,h=>by subst hf; exact kat_nil h
 | [],_,_,_,i,.nil,.cons m u hj,hf,h=>by subst hf; exact kat_nil h
 | _,[],_,_,i,.cons n t hi,.nil,hf,h=>by subst hf; exact kat_nil h
 | _,_,_,_,i,.cons n t (ns:=as) hi,.cons m u (ns:=bs) hj,hf,h=>by
  rw [List.zip_cons_cons]
  refine kat_cons (wpAny_eqBool_int ?_)
  rw [HT.vL] at h
  by_cases e : n = m
  ·rw [if_pos e] at h
   rw [show (n == m) = true by simp [e]]
   exact kat_yes (zac (i + 1) hi hj (by rw [hf]; simp) h)
  ·rw [if_neg e] at h
   rw [show (n == m) = false by simp [e]]
   refine kat_no ?_
   by_cases hi0 : i = 0
   ·subst hi0
    exact oneLt_int h
   ·rw [show (true && i == 0) = false by simp [hi0]]
    exact kat_one _ _ (HT.zab A s n t m u prog w _ _ h)
section
variable {X : Cx} {pins : List (Addr × Obj)} {σ : St} {H : Hp} {s : Shared}
theorem zd7 (I : Inv X pins σ H s) {A : Around} {p q : Addr} {as bs : List Int} (hp : H p = some (.tup (as.map V.int))) (hq : H q = some (.tup (bs.map V.int))) {Q : Bool->Shared->Prop} {E : Value->Shared->Prop} (h : Q (HT.lexLt as bs) s) :
  wpAny (model X.prog X.w) A (keyLt' (tuples' true) (.ref p) (.ref q)) Q E s:=by
 obtain ⟨its,o,m,hi,e,_,hd⟩:=Ji I hp
 obtain ⟨its',o',m',hi',e',_,hd'⟩:=Ji I hq
 refine kat_lt e hd e' hd' ?_
 rw [List.size_toArray,List.size_toArray,hi.length,hi'.length]
 exact zac 0 (by simpa using hi) (by simpa using hi') rfl h
end
theorem U3 {X : Cx} {pins : List (Addr × Obj)} {σ : St} {H : Hp} {s : Shared} (I : Inv X pins σ H s) : ∀ zs : List (Addr × List Int),(∀ z ∈ zs,H z.1 = some (.tup (z.2.map V.int))∧z.2 ≠ [])->∃ fs : List Value,KatTups s.heap (zs.map fun z=>Value.ref z.1) fs∧fs.length = zs.length∧∀ v ∈ fs,∃ n t,v = Value.int n t
 | [],_=>⟨[],KatTups.nil,rfl,fun v hv=>by cases hv⟩
 | z :: zs,h=>by
  obtain ⟨fs,h1,h2,h3⟩:=U3 I zs fun q hq=>h q (.tail _ hq)
  obtain ⟨za,zl⟩:=z
  obtain ⟨hz,hne⟩:=h (za,zl) (.head _)
  obtain ⟨its,o,m,hi,e,hc,hd⟩:=Ji I hz
  simp only at hi hne
  cases hi with
  | nil=>exact absurd rfl hne
  | cons n t hi =>
   refine ⟨.int n t :: fs,KatTups.cons e hc hd (by simp) h1,by simp [h2],fun v hv=>?_⟩
   rcases List.mem_cons.mp hv with rfl | hv
   ·exact ⟨n,t,rfl⟩
   ·exact h3 v hv
theorem ze8 {ls : List (List Int)} (nd : ls.Nodup) : HT.Ord (fun i j=>HT.lexLt (ls.getD i []) (ls.getD j [])) ls.length:=by
 have ge : ∀ i,(h : i < ls.length)->ls.getD i [] = ls[i]:=fun i h=>by rw [List.getD_eq_getElem?_getD,List.getElem?_eq_getElem h]; rfl
 refine ⟨fun i j k _ _ _ h1 h2=>HT.vW _ _ _ h1 h2,fun i j hi hj hij h=>?_,fun i j hi hj h=>?_⟩
 ·have ne : ls.getD i [] ≠ ls.getD j []:=fun z=>by
   rw [ge i hi,ge j hj] at z
   exact hij ((List.getElem_inj nd).mp z)
  have:=HT.Xh _ _ ne
  rw [h] at this
  exact this
 ·cases e : HT.lexLt (ls.getD j []) (ls.getD i []) with
  | false=>rfl
  | true =>
   have:=HT.vW _ _ _ h e
   rw [HT.wY] at this
   cases this
theorem zct {zs : List (Addr × List Int)} {p : List Nat} (hp : p.Perm (List.range zs.length)) (hw : p.Pairwise (fun i j=>HT.lexLt ((zs.map (·.2)).getD i []) ((zs.map (·.2)).getD j []) = true)) :
  ∃ zs' : List (Addr × List Int),zs'.Perm zs∧zs'.Pairwise (fun x y=>HT.lexLt x.2 y.2 = true)∧(p.map fun i=>(zs.map fun z=>Value.ref z.1).getD i Value.none) = zs'.map fun z=>Value.ref z.1:=by
 have g : ∀ i ∈ p,(zs.map (·.2)).getD i [] = (zs.getD i (0,[])).2∧(zs.map fun z=>Value.ref z.1).getD i Value.none = Value.ref (zs.getD i (0,[])).1:=fun i hi=>by
  have hi':=List.mem_range.mp (hp.mem_iff.mp hi)
  constructor
  ·rw [List.getD_eq_getElem?_getD,List.getD_eq_getElem?_getD,List.getElem?_map,List.getElem?_eq_getElem hi']; rfl
  ·rw [List.getD_eq_getElem?_getD,List.getD_eq_getElem?_getD,List.getElem?_map,List.getElem?_eq_getElem hi']; rfl
 refine ⟨p.map fun i=>zs.getD i (0,[]),HT.Qh _ zs hp,?_,?_⟩
 ·rw [List.pairwise_map]
  refine List.Pairwise.imp_of_mem ?_ hw
  intro i j hi hj h
  rw [(g i hi).1,(g j hj).1] at h
  exact h
 ·rw [List.map_map]
  exact List.map_congr_left fun i hi=>(g i hi).2
theorem JX {H : Hp} : ∀ {kvs : List (List Key × V)} {xs : List (List Key × Addr × Value)} {ls : List (List Int)},KT H kvs xs->kvs.map (·.1) = ls.map kI->∃ zs : List (Addr × List Int),zs.map (·.2) = ls∧(xs.map fun x=>Value.ref x.2.1) = zs.map (fun z=>Value.ref z.1)∧(∀ z ∈ zs,H z.1 = some (.tup (z.2.map V.int)))∧xs.map (·.1) = ls.map kI
 | [],[],ls,.nil,e=>by
  cases ls with
  | nil=>exact ⟨[],rfl,rfl,by simp,rfl⟩
  | cons _ _=>simp at e
 | p :: kvs,q :: xs,ls,.cons h t,e=>by
  cases ls with
  | nil=>simp at e
  | cons l ls =>
   rw [List.map_cons,List.map_cons] at e
   injection e with e1 e2
   obtain ⟨zs,h1,h2,h3,h4⟩:=JX t e2
   refine ⟨(q.2.1,l) :: zs,by simp [h1],by simp [h2],fun z hz=>?_,?_⟩
   ·rcases List.mem_cons.mp hz with rfl | hz
    ·have:=h.2.1
     rw [e1,zfm] at this
     exact this
    ·exact h3 z hz
   ·rw [List.map_cons,List.map_cons,h4,← h.1,e1]
section
variable {X : Cx}
def zeZ : List V->Hp->VK->Prop:=fun xs H Q=>∃ (a : Addr) (kvs : List (List Key × V)) (ls : List (List Int)),xs = [.ref a]∧H a = some (.dT kvs)∧kvs.map (·.1) = ls.map kI∧ls.length≤60∧(∀ l ∈ ls,l ≠ []) ∧
 ∀ (p : Addr) (zs' : List (Addr × List Int)),H p = none->(zs'.map (·.2)).Perm ls->zs'.Pairwise (fun x y=>HT.lexLt x.2 y.2 = true)->(∀ z ∈ zs',H z.1 = some (.tup (z.2.map V.int)))->Q (.ref p) (upd H p (.lst (zs'.map fun z=>V.ref z.1)))
theorem zd0 (hcalm : X.calm = true:=by rfl) : vm X (.builtin "sorted") zeZ:=by
 intro pins s σ H xs us Q I r h
 obtain ⟨a,kvs,ls,rfl,ha,hks,h60,hne,q⟩:=h
 obtain ⟨u,rfl,rx⟩:=vals1 r
 cases rx
 obtain ⟨z,hd,xs,rel,o,es,ep,h1,h2,h3,h4,h5,h6⟩:=zer I.hok ha
 obtain ⟨zs,hz2,hzr,hzt,hx1⟩:=JX rel hks
 have hzl : zs.length = ls.length:=by rw [← hz2,List.length_map]
 have nd : (zs.map (·.2)).Nodup:=by
  rw [hz2]
  rw [hx1] at h6
  exact (List.pairwise_map.mp h6).imp fun hab e=>hab (by rw [e])
 have hraw : HT.RawD s.heap a (zs.map fun z=>Value.ref z.1) ep:=⟨o,es,h1,h2,h3,by rw [h4,List.map_map,← hzr]; rfl⟩
 have hkl : (zs.map fun z=>Value.ref z.1).length = zs.length:=List.length_map ..
 have hO:=ze8 nd
 rw [List.length_map] at hO
 have hzt' : ∀ z ∈ zs,H z.1 = some (.tup (z.2.map V.int))∧z.2 ≠ []:=fun z hz=>⟨hzt z hz,hne _ (by rw [← hz2]; exact List.mem_map.mpr ⟨z,hz,rfl⟩)⟩
 refine HT.zdU (n:=zs.length) (κ:=tuples' true) (Pv:=fun vs=>vs = zs.map fun z=>Value.ref z.1) (by omega) (fun R hR=>?_) fun vs hl hv=>?_
 ·refine kdu_collect (A:=X.A.in1) (HT.zeE (ks:=zs.map fun z=>Value.ref z.1) (ep:=ep) hd) (I.ok.hd hcalm) hraw (by rw [hkl]; exact Nat.le_trans (show zs.length≤60 by omega) (by decide)) fun h' tk acc hk hacc=>?_
  have hal : acc.toList.length = zs.length:=by rw [Array.length_toList,hacc.1,hkl]
  refine hR h' tk acc.toList hk hal ?_
  apply List.ext_getElem?
  intro i
  cases e : acc.toList[i]? with
  | some v=>exact (hacc.2 i v (by rw [← Array.getElem?_toList]; exact e)).symm
  | none=>rw [List.getElem?_eq_none (by rw [hkl,← hal]; exact List.getElem?_eq_none_iff.mp e)]
 ·subst hv
  have gr : ∀ i,i < zs.length->(zs.map fun z=>Value.ref z.1).getD i Value.none = .ref (zs.getD i (0,[])).1∧(zs.map (·.2)).getD i [] = (zs.getD i (0,[])).2∧zs.getD i (0,[]) ∈ zs:=fun i hi=>by
   have e : zs.getD i (0,[]) = zs[i]:=by rw [List.getD_eq_getElem?_getD,List.getElem?_eq_getElem hi]; rfl
   rw [e]
   refine ⟨?_,?_,List.getElem_mem _⟩
   ·rw [List.getD_eq_getElem?_getD,List.getElem?_map,List.getElem?_eq_getElem hi]; rfl
   ·rw [List.getD_eq_getElem?_getD,List.getElem?_map,List.getElem?_eq_getElem hi]; rfl
  refine ⟨_,hO,fun G tk kG hn2 Q' hq=>?_,fun G tk kG i j C hi hj hC=>?_,fun p h' h'' tk e hp hw k1 k2 hat=>?_⟩
  ·obtain ⟨fs,ht,hfl,hfi⟩:=U3 (I.kept (t':=tk) kG) zs hzt'
   refine kat_kind (T:=.type "int") ht (by omega) (fun v hv=>?_) (by decide) (by rw [show (Value.type "int" != Value.type "tuple") = true by decide]; exact hq)
   obtain ⟨n,t,rfl⟩:=hfi v hv
   exact Looks.of_pure rfl
  ·obtain ⟨a1,a2,a3⟩:=gr i hi
   obtain ⟨b1,b2,b3⟩:=gr j hj
   unfold kas_ask
   rw [a1,b1]
   refine zd7 (I.kept (t':=tk) kG) (hzt _ a3) (hzt _ b3) ?_
   rw [a2,b2] at hC
   exact hC
  ·obtain ⟨zs',pm,pw,hm⟩:=zct hp hw
   rw [hm] at hat
   have I1:=I.kept (t':=tk) k1
   have hfree : H h'.objs.size = none:=I1.hok.fresh (Nat.le_refl _)
   have hl' : zs'.length = zs.length:=pm.length_eq
   refine ⟨.ref h'.objs.size,_,I1.laid (t':=tk) (o:=.lst (zs'.map fun z=>V.ref z.1)) k2 (Nat.le_refl _) ⟨by rw [List.length_map]; exact Nat.le_trans (show zs'.length≤60 by omega) (by decide),_,e,Wo zs',hat⟩,rfl,q _ zs' hfree (by rw [← hz2]; exact pm.map _) pw fun z hz=>hzt z (pm.mem_iff.mp hz)⟩
end
open PySem PySem.Spec PyProof.Rows
section
variable {X : Cx} {tg : Expr}
end
open PySem PySem.Spec PyProof.Rows PySem.SeqAt
section
variable {X : Cx}
def zfp (K : PySem.W.Frag) : List V->Hp->VK->Prop:=fun xs H Q=>∃ (a : Addr) (ns : List Int),xs = [.ref a]∧SqL K H a (ns.map V.int)∧Q (.int ns.sum) H
theorem zcE (hc : X.calm = true) : vm X (.builtin "sum") (zfp X.K):=by
 intro pins s σ H xs us Q I r h
 obtain ⟨a,ns,rfl,hq,q⟩:=h
 obtain ⟨u,rfl,rx⟩:=vals1 r
 cases rx
 obtain ⟨its,rv,pl,hz⟩:=I.list hq
 have hi:=intsAre_of rv
 obtain ⟨ys,hy⟩:=hi.allInts.items
 have hn : (ys.toList.map (·.1)).sum = ns.sum:=by
  have e:=hi.numsOf
  have e2:=nums_intItems ys
  rw [← hy] at e2
  rw [← e,← e2]
 refine sum_intListG (xs:=ys) (I.ok.hd hc) (by rw [← hy]; exact pl.isList) fun h' tk t' hk=>?_
 refine ⟨.int ns.sum,H,I.kept fun b o e=>hk b o e,?_,q⟩
 refine ⟨t',?_⟩
 rw [preSum_eq,List.take_of_length_le (by simp),hn]
theorem zfr (K : PySem.W.Frag) (hc : X.calm = true) (e : X.K = K:=by rfl) : vm X (.builtin "sum") (zfp K):=by subst e; exact zcE hc
end
section
variable {X : Cx}
def zbA (K : PySem.W.Frag) : V->List V->Hp->VK->Prop:=fun x vs H Q=>∃ l xs y ts u j,x = .ref l∧vs = [y]∧SqL K H l xs∧TrsAt K H ts xs∧TrAt K H u y∧xW ts≤8∧j < ts.length ∧
 (∀ t,ts[j]? = some t->teq t u = true)∧(∀ m t,m < j->ts[m]? = some t->teq t u = false)∧Q (.int (j : Nat)) H
open Classical in
theorem zbY (hu : X.A.units + 64 < cLine) : MtM X "list.index" (zbA X.K):=by
 intro pins s σ H x vs v us Q I rx rv h
 obtain ⟨l,xs,y,ts,u,j,rfl,rfl,hq,hts,ht,hd,hj,hit,hno,q⟩:=h
 cases rx
 obtain ⟨u0,rfl,ru⟩:=Vals.one rv
 obtain ⟨its,r,pl,hz⟩:=I.list hq
 obtain ⟨⟨cls,dd,data,sl⟩,ho,hc,n,hdat⟩:=id pl.isList
 simp only at hc hdat
 subst hc hdat
 have l1:=hts.length
 have m1:=r.length
 have val : ∀ (m : Nat) (hm : m < its.length) (t : Tr),ts[m]? = some t->decide (∃ t x,RelV x its[m]∧TrAt X.K H t x∧teq t u = true) = teq t u:=by
  intro m hm t et
  obtain ⟨z,ez,hz'⟩:=hts.get et
  obtain ⟨w,ew,rw'⟩:=r.get ez
  have e' : its[m] = w:=by
   rw [List.getElem?_eq_getElem hm] at ew
   exact Option.some.inj ew
  rw [e',Bool.eq_iff_iff,decide_eq_true_iff]
  constructor
  ·rintro ⟨t',x',r',h',e3⟩
   rw [rw'.inj r'] at hz'
   rw [VF I 8 (Nat.le_trans (Yg (List.mem_of_getElem? et)) hd) hz' h']; exact e3
  ·intro e3
   exact ⟨t,z,rw',hz',e3⟩
 have hjs : j < its.length:=by omega
 have hsl : (sizeLine : Int) < 2 ^ 63 - 1:=by decide
 refine call_meets PySem.F.slot_list_index ⟨_,ho,rfl⟩ PySem.F.entry_list_index (PySem.F.args_list_index_2 _ _)
  (list_indexAt l its.toArray n dd sl u0 (fun y=>decide (∃ t x,RelV x y∧TrAt X.K H t x∧teq t u = true)) j (by simpa using hjs) (by omega) ?_ ?_) ⟨ho,zbs I hu ht ru hd hts r,?_⟩
 ·have q:=val j hjs _ (List.getElem?_eq_getElem hj)
  rw [hit _ (List.getElem?_eq_getElem hj)] at q
  simpa using q
 ·intro m hm hlt
  have hm' : m < ts.length:=by omega
  have q:=val m (by omega) _ (List.getElem?_eq_getElem hm')
  rw [hno m _ hlt (List.getElem?_eq_getElem hm')] at q
  simpa using q
 ·exact ⟨.int (j : Nat),H,I.kept fun b o e=>e,⟨_,rfl⟩,q⟩
theorem zcS (K : PySem.W.Frag) (hu : X.A.units + 64 < cLine) (e : X.K = K:=by rfl) : MtM X "list.index" (zbA K):=by subst e; exact zbY hu
end
structure zfW (sc : Scope) (scope : Scope) (xs : List Str) (M : List Str) (ys : List Str) (js : List Nat) : Prop where
 kind : scope.kind = .function
 cell : ∀ y ∈ scope.names,y.2 ≠ .cell
 loc : ∀ y ∈ scope.names,y.2 = .local->scope.names.lookup y.1 = some .local
 var : ∀ x ∈ xs,scope.names.lookup x = some .local
 free : ∀ y ∈ scope.names,y.2 = .free->sc.names.lookup y.1 = some .cell∨sc.names.lookup y.1 = some .free
 caps : js.map (M[·]?) = ys.map some
 fr : ∀ y ∈ ys,scope.names.lookup y = some .free
 nd : (xs ++ ys).Nodup
theorem CScope.nofree {sc scope : Scope} {x : Str} {M : List Str} (kind : scope.kind = .function) (cell : ∀ y ∈ scope.names,y.2 ≠ .cell) (loc : ∀ y ∈ scope.names,y.2 = .local->scope.names.lookup y.1 = some .local) (var : scope.names.lookup x = some .local) (free : ∀ y ∈ scope.names,y.2 ≠ .free) : CScope sc scope x M [] [] :=
 ⟨kind,cell,loc,var,fun y hy e=>absurd e (free y hy),rfl,by simp,by simp⟩
section
variable {X : Cx} {pins : List (Addr × Obj)} {σ : St} {H : Hp} {s : Shared}
end
section
variable {prog : Program} {w : World} {A : Around} {R : Result->Shared->Prop} {s : Shared}
end
section
variable {X : Cx} {elt iter : Expr} {ifs : List Expr} {tg : Expr} {xs : List Str} {pos : Pos} {g : TG} {scope : Scope} {ys : List Str} {js : List Nat} {wi : TI} {tt : TT} {te : TE}
end
theorem xQ {X : Cx} (K : PySem.W.Frag) {e : Expr} {f : Str} {pos : Pos} {ta : TE} (he : PE X e ta) (hb : attributeBase e f X.env (eval e X.env) = eval e X.env:=by rfl) (ek : X.K = K:=by rfl) : PE X (.Attribute e f pos) (zfT K ta f):=by subst ek; exact zeD he hb
structure Mt (K : PySem.W.Frag) (C : Addr) (q x : Str) (st : Stmt) (ps : List Str) (f : Addr) (fd : FuncData) : Prop where
 fn : Fun K x q st f fd
 b : Binds K fd ps []
 m : Meth K C x f
theorem Yb {X : Cx} {C : Addr} {q x : Str} {st : Stmt} {ps : List Str} {f : Addr} {fd : FuncData} {k : Nat} {sp : Sp} {o e : Expr} {es : List Expr} {ta : TE} {t : TA} {apos pos : Pos} {pl : Sem Bool} (D : Mt X.K C q x st ps f fd) (c : Cls X.K C) (G : FnOk X.prog X.w X.K X.mg X.base CX0 k f fd ps sp) (hr : Room k X.A) (he : PE X o ta) (ha : PA X (e :: es) t)
  (hst : starEach (e :: es) X.env = (false,eval e X.env) :: starEach es X.env:=by rfl) (hpl : (backTo pos (starEach es X.env)).any (·.1) = false:=by rfl)
  (ht : eval (.Call (.Attribute o x apos) (e :: es) [] pos) X.env = (do
   let ov ← eval o X.env
   standAt apos.atName
   let (f,first) ← holding [ov] (getMethod ov x pl)
   callWith pos f first (backTo pos (starEach (e :: es) X.env)) (backToKw pos (keywordEach [] X.env))):=by rfl) : PE X (.Call (.Attribute o x apos) (e :: es) [] pos) (zet C x sp [] E0 ta t) :=
 zd6 he c D.m G hr D.b .nil Qp ha hst hpl ht
structure zb2 (mg : Str->Option Value) : Prop where
 n_sum : mg "sum" = none
 n_abs : mg "abs" = none
 n_zip : mg "zip" = none
 n_str : mg "str" = none
section
variable {X : Cx} {tg : Expr}
end
theorem Inv.turned2 {X : Cx} {pins : List (Addr × Obj)} {σ : St} {H : Hp} {s : Shared} {h' : Heap} {e it T : Addr} {o : HO} {t' : Nat} (I : Inv X pins σ H s) (k : ∀ b o,b ≠ e->b ≠ it->s.heap.get? b = some o->h'.get? b = some o) (fe : V0 X pins H e) (fi : V0 X pins H it) (hT : s.heap.objs.size≤T)
  (new : ObjOk X.prog X.w (upd H T o) h' T o) : Inv X pins σ (upd H T o) { s with heap:=h',toks:=t' }:=by
 have hn : H T = none:=I.hok.fresh hT
 have na : ∀ b u,H b = some u->b ≠ T:=fun b u e z=>by rw [z,hn] at e; cases e
 have ne : ∀ b u,H b = some u->b ≠ e:=fun b u q z=>by rw [z,fe.1] at q; cases q
 have ni : ∀ b u,H b = some u->b ≠ it:=fun b u q z=>by rw [z,fi.1] at q; cases q
 have k' : ∀ b o,b ∉ [e,it]->s.heap.get? b = some o->h'.get? b = some o:=fun b o hb q=>k b o (fun z=>hb (by simp [z])) (fun z=>hb (by simp [z])) q
 refine I.step (g':=s.gens) (d':=s.drawn) (ch:=[e,it]) (fun b hb=>?_) (fun b o _ _ hc q _=>k' b o hc q) (fun b o _ _ hc q _=>⟨o.slots,k' b o hc q⟩) (fun b o hc q n=>by rw [zy (Nat.ne_of_lt (Nat.lt_of_lt_of_le (Heap.lt_size q) hT))]; exact n)
  (fun b o hc q=>⟨o,k' b o hc q⟩) (fun b xs q=>by rw [zy (na b _ q)]; exact q) (fun b o u q=>by rw [zy (na b _ q)]; exact q) (fun b ps q=>⟨#[],by rw [zy (na b _ q),q]; simp⟩) (fun m hm=>?_) (fun b u q=>?_) I.bare
 ·rcases List.mem_cons.mp hb with z | hb
  ·subst z; exact ⟨fe.2.2.2.1,fe.2.1,fe.2.2.2.2.1,fe.2.2.2.2.2⟩
  ·have z : b = it:=by simpa using hb
   subst z; exact ⟨fi.2.2.2.1,fi.2.1,fi.2.2.2.2.1,fi.2.2.2.2.2⟩
 ·obtain ⟨o,es,ep,ho,r⟩:=hm
  exact ⟨o,es,ep,k _ o (Ne.symm fe.2.1) (Ne.symm fi.2.1) ho,r⟩
 ·by_cases hb : b = T
  ·subst hb
   rw [zj] at q
   cases q
   exact new
  ·rw [zy hb] at q
   refine (I.hok b u q).stay (fun c v hc z=>k c v ?_ ?_ z) (fun c z=>by rw [zy (na c _ z)]; exact z) fun c xs z=>by rw [zy (na c _ z)]; exact z
   ·rcases hc with rfl | hc
    ·exact ne _ _ q
    ·exact ne _ _ hc
   ·rcases hc with rfl | hc
    ·exact ni _ _ q
    ·exact ni _ _ hc
def Ite (K : PySem.W.Frag) (a : Addr) : It :=
 ⟨fun i H=>∃ xs x,SqL K H a xs∧xs[i]? = some x,fun i H v H'=>∃ T x,v = .ref T∧H T = none∧H' = upd H T (.tup [.int (i : Nat),x])∧∀ xs,SqL K H a xs->xs[i]? = some x,fun i H=>∃ xs,SqL K H a xs∧xs.length≤i⟩
theorem zbP {P : Program} {w : World} {K : PySem.W.Frag} {elts : List Expr} {k : Nat} {tp : Pos} (a e it : Addr) (hei : e ≠ it) : Turn P w K (.Tuple elts k tp) (Ite K a) [e,it] e (fun i h=>(∃ old,IsEnum h e it i old)∧h.IsListIter it a i) where
 mem:=by simp
 obj:=fun i h st b hb=>by
  obtain ⟨⟨old,he⟩,o,hi,c,d⟩:=st
  rcases List.mem_cons.mp hb with z | hb
  ·subst z
   exact ⟨_,he,fun v z=>by
    have z' : Data.fields _ = Data.cell v:=z
    cases z'⟩
  ·have z : b = it:=by simpa using hb
   subst z
   exact ⟨o,hi,fun v z=>by rw [d] at z; cases z⟩
 keep:=fun i h h' st k=>by
  obtain ⟨⟨old,he⟩,hi⟩:=st
  exact ⟨⟨old,k e (by simp) _ he⟩,hi.at fun o q=>k it (by simp) o q⟩
 item:=by
  intro X hP hw hK hc i pins s σ H E I hf st hg
  subst hP hw hK
  obtain ⟨xs,x,hq,hx⟩:=hg
  obtain ⟨its,rv,p,hz⟩:=I.list hq
  obtain ⟨u,hu,ru⟩:=rv.get hx
  obtain ⟨⟨old,he⟩,hi⟩:=st
  refine wpAny_pyNext_enum_item he hi p.isList (x:=u) (by simpa using hu) hei fun h' ho hi' hT hsz hk=>?_
  refine ⟨_,rfl,?_⟩
  refine wpAny_letOwnedTupleGo_enum (s:={ s with heap:=h',toks:=s.toks + 1 }) ho fun h'' he' hs'=>?_
  have helt : e < s.heap.objs.size:=Heap.lt_size he
  have hT2 : h''.get? s.heap.objs.size = some { cls:=.type "tuple",data:=.seq #[.int i s.toks,u] }:=(hs'.2 _ (Nat.ne_of_gt helt)).trans hT
  have fe:=hf e (by simp)
  have fi:=hf it (by simp)
  have I1 : Inv X pins σ (upd H s.heap.objs.size (.tup [.int (i : Nat),x])) { s with heap:=h'',toks:=s.toks + 1 }:=by
   refine I.turned2 (fun b o hb1 hb2 q=>(hs'.2 b hb1).trans (hk b o hb1 hb2 q)) fe fi (Nat.le_refl _) ⟨by show 2≤sizeLine; decide,[.int i s.toks,u],.cons ⟨_,rfl⟩ (.cons ru .nil),_,hT2,rfl,0,rfl⟩
  refine ⟨.ref s.heap.objs.size,_,I1,rfl,⟨s.heap.objs.size,x,rfl,I.hok.fresh (Nat.le_refl _),rfl,fun ys hy=>by rw [I.list_inj hy hq]; exact hx⟩,⟨⟨_,by simpa using he'⟩,hi'.at fun o q=>(hs'.2 it (Ne.symm hei)).trans q⟩,fun b hb=>?_⟩
  have hbl : b < s.heap.objs.size:=by
   rcases List.mem_cons.mp hb with z | hb
   ·rw [z]; exact helt
   ·have z : b = it:=by simpa using hb
    obtain ⟨o,q,_⟩:=hi
    rw [z]; exact Heap.lt_size q
  rw [zy (Nat.ne_of_lt hbl)]
  exact (hf b hb).1
 done:=by
  intro X hP hw hK hc i pins s σ H E I hf st hg
  subst hP hw hK
  obtain ⟨xs,hq,hx⟩:=hg
  obtain ⟨its,rv,p,hz⟩:=I.list hq
  obtain ⟨⟨old,he⟩,hi⟩:=st
  obtain ⟨f0,f1,f2,f3,f4,f5⟩:=hf it (by simp)
  have hl:=rv.length
  exact wpAny_pyNext_enum_end (I.ok.hd hc) he hi p.isList (by simp; omega) fun h' eb=>⟨rfl,I.turned (t':=s.toks) (fun b o hb q=>eb b o hb q) f0 f1 f3 f4 f5⟩
 self:=fun _ _ _ _ _ st h=>by
  obtain ⟨⟨old,he⟩,_⟩:=st
  exact wpAny_pyIter_enum he h
section
variable {X : Cx}
def zfS (K : PySem.W.Frag) (tl : TA) : TI:=fun σ H R=>tl σ H fun vs H1=>∃ a,vs = [.ref a]∧(∃ xs,SqL K H1 a xs)∧R (Ite K a) H1
theorem zbf (K : PySem.W.Frag) {elts : List Expr} {k : Nat} {tp : Pos} {a : Expr} {ta : TA} {p pos : Pos} (hg : Gl X "enumerate") (hm : X.mg "enumerate" = none) (ha : PA X [a] ta) (hs : starEach [a] X.env = [(false,eval a X.env)]:=by rfl) (ek : X.K = K:=by rfl) :
  PI X (.Tuple elts k tp) (.Call (.Name "enumerate" p) [a] [] pos) (zfS K ta):=by
 subst ek
 intro pins s σ H R I h
 refine Call_ (jh I hg hm boot_enumerate (PyProof.Rows.callWith_type1 (thn (ha pos pins s σ H _ I h) fun us s1 ⟨vs,H1,I1,r1,q1⟩=>?_) (by rw [hs]; rfl) (by rfl)))
 obtain ⟨l,e,⟨xs,hq⟩,q⟩:=q1
 subst e
 cases r1 with
 | cons r rr =>
  cases rr
  cases r
  obtain ⟨its,rv,pl,hz⟩:=I1.list hq
  refine call_enumerate_list pl.isList fun h' he hi hsz hk=>?_
  refine wpAny_pyIter_enum (s:={ s1 with heap:=h' }) he ?_
  have I2 : Inv X pins σ H1 { s1 with heap:=h' }:=I1.kept (t':=s1.toks) fun b o q=>hk b o q
  refine ⟨s1.heap.objs.size + 1,[s1.heap.objs.size + 1,s1.heap.objs.size],_,_,H1,rfl,I2,zbP l _ _ (Nat.succ_ne_self _),⟨⟨_,he⟩,hi⟩,fun b hb=>?_,q⟩
  have hb2 : s1.heap.objs.size≤b:=by
   rcases List.mem_cons.mp hb with z | hb
   ·rw [z]; exact Nat.le_succ _
   ·have z : b = s1.heap.objs.size:=by simpa using hb
    rw [z]; exact Nat.le_refl _
  exact I1.fpOk hb2 (I1.hok.fresh hb2)
theorem J3 {K : PySem.W.Frag} {a : Addr} {xs : List V} {g : TG} {tb : TS} {D : Ends} {σ : St} {H : Hp} (Pv : Nat->St->Hp->Prop) (h0 : Pv 0 σ H) (hl : ∀ i σ H,i≤xs.length->Pv i σ H->SqL K H a xs)
  (hs : ∀ i x σ H T,xs[i]? = some x->Pv i σ H->H T = none->g (.ref T) σ (upd H T (.tup [.int (i : Nat),x])) fun σ2 H2=>tb { D with nx:=Pv (i + 1),ct:=Pv (i + 1),bk:=D.nx } σ2 H2) (hd : ∀ σ H,Pv xs.length σ H->D.nx σ H) :
  ∃ W : Nat->Nat->St->Hp->Prop,(∃ m,W 0 m σ H)∧∀ i m σ H,W i m σ H ->
   ((Ite K a).stop i H∧D.nx σ H)∨((Ite K a).go i H∧∃ N : St->Hp->Prop,(∀ σ' H',N σ' H'->∃ m',m' < m∧W (i + 1) m' σ' H')∧∀ x H',(Ite K a).yld i H x H'->g x σ H' fun σ2 H2=>tb { D with nx:=N,ct:=N,bk:=D.nx } σ2 H2):=by
 refine ⟨fun i m σ H=>m = xs.length - i∧i≤xs.length∧Pv i σ H,⟨xs.length,by simp,Nat.zero_le _,h0⟩,?_⟩
 rintro i m σ H ⟨rfl,hi,p⟩
 have q:=hl i σ H hi p
 by_cases hlt : i < xs.length
 ·have hx : xs[i]? = some xs[i]:=List.getElem?_eq_getElem hlt
  refine .inr ⟨⟨xs,xs[i],q,hx⟩,Pv (i + 1),fun σ' H' p'=>⟨xs.length - (i + 1),by omega,rfl,hlt,p'⟩,fun v H' y=>?_⟩
  obtain ⟨T,x,rfl,hT,rfl,hy⟩:=y
  have e2:=hy xs q
  rw [hx] at e2
  cases e2
  exact hs i xs[i] σ H T hx p hT
 ·have e : i = xs.length:=by omega
  subst e
  exact .inl ⟨⟨xs,q,Nat.le_refl _⟩,hd σ H p⟩
end
section
variable {X : Cx}
def zaY (te : TE) : TE:=fun σ H Q=>te σ H fun x H1=>∃ n : Nat,x = .int n∧n≤1000∧∀ q,H1 q = none->Q (.ref q) (upd H1 q (.lst ((List.range n).map fun (c : Nat)=>V.int c)))
theorem zaP : ∀ {n : Nat} {its : List Value},its.length = n->(∀ (i : Nat) v,its[i]? = some v->∃ t,v = Value.int (0 + (i : Int) * 1) t)->Vals ((List.range n).map fun (c : Nat)=>V.int c) its:=by
 intro n its hl h
 have key : ∀ (k : Nat) (its : List Value),(∀ (i : Nat) v,its[i]? = some v->∃ t,v = Value.int ((k : Int) + (i : Int)) t)->Vals ((List.range' k its.length).map fun (c : Nat)=>V.int c) its:=by
  intro k its
  induction its generalizing k with
  | nil=>intro _; exact .nil
  | cons x l ih =>
   intro h
   rw [List.length_cons,List.range'_succ,List.map_cons]
   refine .cons ?_ (ih (k + 1) fun i v e=>?_)
   ·obtain ⟨t,e⟩:=h 0 x rfl
    exact ⟨t,by rw [e]; simp⟩
   ·obtain ⟨t,e'⟩:=h (i + 1) v (by simpa using e)
    exact ⟨t,by rw [e']; congr 1; omega⟩
 subst hl
 rw [List.range_eq_range']
 exact key 0 its fun i v e=>by
  obtain ⟨t,e'⟩:=h i v e
  exact ⟨t,by rw [e']; congr 1; omega⟩
theorem XF {e : Expr} {te : TE} {p1 p2 pos1 pos2 : Pos} (hc : X.calm = true) (hg1 : Gl X "list") (hm1 : X.mg "list" = none) (hg2 : Gl X "range") (hm2 : X.mg "range" = none) (he : PE X e te)
  (hs : starEach [e] X.env = [(false,eval e X.env)]:=by rfl) (hs2 : starEach [.Call (.Name "range" p2) [e] [] pos2] X.env = [(false,eval (.Call (.Name "range" p2) [e] [] pos2) X.env)]:=by rfl) :
  PE X (.Call (.Name "list" p1) [.Call (.Name "range" p2) [e] [] pos2] [] pos1) (zaY te):=by
 intro pins s σ H Q I h
 refine wpAny_Call_Name_kw (jh I hg1 hm1 boot_list ?_)
 refine PyProof.Rows.callWith_type1 ?_ hs2 rfl
 rw [hs2]
 show wpAny _ _ (spliced ((false,eval (.Call (.Name "range" p2) [e] [] pos2) X.env) :: backTo pos1 [])) _ _ s
 refine Calls.spliced_cons ?_
 refine wpAny_Call_Name_kw (jh I hg2 hm2 boot_range ?_)
 refine PyProof.Rows.callWith_type1 ?_ hs rfl
 rw [hs]
 show wpAny _ _ (spliced ((false,eval e X.env) :: backTo pos2 [])) _ _ s
 refine Calls.spliced_cons (thn (he pins s σ H _ I h) fun v s1 ⟨x,H1,I1,r1,q1⟩=>Calls.spliced_nil ?_)
 obtain ⟨n,rfl,hn,q⟩:=q1
 obtain ⟨t,rfl⟩:=r1
 refine call_range_1 (Calls.spliced_nil ?_)
 have hsz : Builtin.Range.rangeSize 0 (n : Int) 1 = (n : Nat):=by rw [rangeSize_one]; split <;> omega
 refine call_list_range (n:=n) (I1.ok.hd hc) (IsRange.new ..) (small_one (by decide) (by decide) (by omega) (by omega)) hsz (Nat.le_trans hn (by decide)) fun h' tk acc' c' hk hS hacc=>?_
 simp only [Heap.size_push] at hS ⊢
 have kept : ∀ b o,s1.heap.get? b = some o->h'.get? b = some o:=fun b o e=>hk b o (Heap.get?_push_of_some _ e)
 have rv : Vals ((List.range n).map fun (c : Nat)=>V.int c) acc'.toList:=zaP (by rw [Array.length_toList]; exact hacc.1) fun i v e=>hacc.2 i v (by rw [← Array.getElem?_toList]; exact e)
 have hokL:=I1.laid (a:=s1.heap.objs.size + 1) (o:=.lst ((List.range n).map fun (c : Nat)=>V.int c)) (h':=h') (t':=tk) kept (Nat.le_succ _) ⟨by rw [List.length_map,List.length_range]; exact Nat.le_trans hn (by decide),acc'.toList,c',rv,by rw [hS]⟩
 exact ⟨.ref _,_,hokL,rfl,q _ (I1.hok.fresh (Nat.le_succ _))⟩
end
def CMulB (i j : Int) : Prop:=i.natAbs < 2 ^ 100000∧j.natAbs < 2 ^ 100000
theorem zd4 {X : Cx} : OpR X (binaryOp .Mult) (rI CMulB fun i j=>.int (i * j)):=opI fun i j _ _ _ _ _ hc q=>by
 have h : (100000 : Nat)≤2 ^ 20:=by decide
 exact mul_int q (IntMulOk.of_bits (Nat.le_trans (intBits_le hc.1) h) (Nat.le_trans (intBits_le hc.2) h))
theorem CMulB.nat {i j k l : Nat} (h1 : i < 2 ^ k) (h2 : j < 2 ^ l) (hk : k≤100000) (hl : l≤100000) : CMulB (i : Int) (j : Int) :=
 ⟨by rw [Int.natAbs_natCast]; exact Nat.lt_of_lt_of_le h1 (Nat.pow_le_pow_right (Nat.le_succ 1) hk),by rw [Int.natAbs_natCast]; exact Nat.lt_of_lt_of_le h2 (Nat.pow_le_pow_right (Nat.le_succ 1) hl)⟩
section
variable {X : Cx}
end
def zbt (c : Addr) (q : Str) : HO:=.ext fun h=>h.CodeRec (.ref c) q
def zbg (P : Addr) (pos : Pos) (q : Str) (H : Hp) (c : Addr) : Prop:=H P = some (.tbl #[rawInt pos.line,rawInt pos.col,.ref c])∧H c = some (zbt c q)
def Ws (P : Addr) (pos : Pos) (q : Str) (H : Hp) : Prop:=H P = some (.tbl #[])∨∃ c,zbg P pos q H c
section
variable {P : Program} {w : World} {K : Frag} {mg : Str->Option Value} {base : Heap} {N ps : List Str} {k : Nat} {A : Around} {outer : List Env} {s : Shared} {H : Hp} {us : List Value} {vs : List V} {Q : VK} {E : XK} {f : Addr} {o : Obj}
 {name qual : Str} {params : Arguments} {body : Expr} {scope : Scope} {pm cdv ct : Value} {args : Args}
theorem zef (ho : s.heap.get? f = some o) (hd : o.data = .func (kla_fn name qual params body scope [] pm cdv ct)) (hcd : s.heap.CodeRec cdv qual) (S : zK N ps scope) (hr : Room (k + 1) A) (e0 : Env0 P w K mg base A outer s H)
  (hb : BindsTo s (kla_fn name qual params body scope [] pm cdv ct) args (ps.zip us)) (hl : vs.length = ps.length) (r : Vals vs us)
  (hbody : ∃ t,PE (YH CX0 P w K mg base N qual scope f cdv A outer s H E) body t∧t (start N vs) H Q) : codeAny (model P w) A (.call (.ref f) args) (CR CX0 outer P w H s Q E) s:=by
 have lim : s.heap.NoLimit:=e0.mod.nolimit.keeps fun b o e=>(e0.bs b o e).1
 have hkind : ∀ y ∈ ps.zip us,scope.names.lookup y.1 = some .local∨(scope.names.lookup y.1 = some .cell∧((cellsFrom (s.heap.objs.size + 1) scope.names []).lookup y.1).isSome = true):=fun ⟨n,v⟩ hy=>by
  rcases S.par n (List.of_mem_zip hy).1 with q | q
  ·exact .inl q
  ·exact .inr ⟨q,PySem.W.cellsFrom_some _ _ _ (.inl q)⟩
 refine kla_callFunE hr.depth ho hd S.co S.gen rfl hcd (hb _ _ _ _ ?_)
 refine wpAny_newFunctionEnv_cells S.kind hkind fun env he s1 x=>?_
 subst he
 refine ⟨lim.keeps x.toInCall.keep,kla_codeExpr ?_⟩
 obtain ⟨t,ht,hq⟩:=hbody
 have I : Inv (YH CX0 P w K mg base N qual scope f cdv A outer s H E) [] (start N vs) H s1:=Qn S hr.hd e0 hl r x
 refine wpAny_mono (ht [] s1 (start N vs) H _ I hq) (fun u s' hs=>?_) fun e s' hs=>hs
 obtain ⟨v,H',J,rv,q⟩:=hs
 exact ⟨v,H',J.os,J.bare,J.base,J.hok,rv,q⟩
end
section
variable {X : Cx} {pins : List (Addr × Obj)} {σ : St} {H : Hp} {s : Shared} {params : Arguments} {body : Expr} {scope : Scope} {pos : Pos} {c P : Addr} {Q : Value->Shared->Prop}
theorem zdc (I : Inv X pins σ H s) (hdef : defaultsOf params X.env = ([],[])) (hcl : closureFor scope X.env = pure []) (hcode : X.env.code = .ref c) (hK : codeHdIn X.K c P = true) (hB : X.base.BuiltinsAt X.mg P) (hgP : mainGlobals ≠ P)
  (hT : Ws P pos (X.env.qual ++ "<lambda>") H)
  (h : ∀ (f c' : Addr) (H' : Hp) (s' : Shared) (pm ct : Value),Inv X pins σ H' s'->zbg P pos (X.env.qual ++ "<lambda>") H' c'->s'.heap.get? f = some (kla_obj "<lambda>" (X.env.qual ++ "<lambda>") params body scope [] pm c' ct)->H' f = none->s.heap.objs.size≤f ->
   (∀ b u,b ≠ P->H b = some u->H' b = some u)->Q (.ref f) s') :
  wpAny (model X.prog X.w) X.A (eval (.Lambda params body scope pos) X.env) Q X.xe s:=by
 have C : CodeHd s.heap c P:=codeHd_of_K I.kIn hK
 have hg : s.heap.Ns mainGlobals X.mg:=I.mod.glob.keeps I.bk
 have hb : s.heap.BuiltinsAt X.mg P:=by
  obtain ⟨bm,o,b1,b2,b3,b4,b5,b6,b7,b8⟩:=hB
  exact ⟨bm,o,b1,b2,b3,b4,I.bk _ _ b5,b6,b7,b8⟩
 refine kla_eval hdef ?_
 rcases hT with hP | ⟨c',hP,hc'⟩
 ·have hPo : s.heap.get? P = some (tabObj #[]):=I.hok P _ hP
  refine kla_makeFunction hcl I.ok.glob hg hcode C hPo (show TriplesOk [] from trivial) rfl hgP hb fun c' ct h' tk hx hge hlt hrec htb=>?_
  have htb' : h'.get? P = some (tabObj #[rawInt pos.line,rawInt pos.col,.ref c']):=htb
  have hPc : P ≠ c':=fun z=>by
   have:=Heap.lt_size hPo
   rw [z] at this
   exact absurd (Nat.lt_of_lt_of_le this hge) (Nat.lt_irrefl _)
  have hHc : H c' = none:=I.hok.fresh hge
  have old : ∀ b o,b ≠ P->s.heap.get? b = some o->(h'.push (kla_obj "<lambda>" (X.env.qual ++ "<lambda>") params body scope [] ((X.mg "__name__").getD .none) c' ct)).get? b = some o:=fun b o hb e=>Heap.get?_push_of_some _ (hx b o hb e)
  have nP : ∀ b,H b = none->b ≠ P:=fun b n z=>by rw [z,hP] at n; cases n
  have up : ∀ b u,b ≠ P->H b = some u->upd (upd H P (.tbl #[rawInt pos.line,rawInt pos.col,.ref c'])) c' (zbt c' (X.env.qual ++ "<lambda>")) b = some u:=fun b u hb e=>by
   rw [zy (fun z=>by rw [z,hHc] at e; cases e),zy hb]; exact e
  have upn : ∀ b,b ≠ P->b ≠ c'->H b = none->upd (upd H P (.tbl #[rawInt pos.line,rawInt pos.col,.ref c'])) c' (zbt c' (X.env.qual ++ "<lambda>")) b = none:=fun b h1 h2 e=>by
   rw [zy h2,zy h1]; exact e
  have J : Inv X pins σ (upd (upd H P (.tbl #[rawInt pos.line,rawInt pos.col,.ref c'])) c' (zbt c' (X.env.qual ++ "<lambda>"))) { s with heap:=h'.push (kla_obj "<lambda>" (X.env.qual ++ "<lambda>") params body scope [] ((X.mg "__name__").getD .none) c' ct),toks:=tk }:=by
   refine I.un ⟨fun b o e n _ _=>old b o (nP b n) e,fun b o e n _ _=>⟨o.slots,old b o (nP b n) e⟩,fun b o e n _=>upn b (nP b n) (Nat.ne_of_lt (Nat.lt_of_lt_of_le (Heap.lt_size e) hge)) n,fun b o e _=>?_,fun b xs e=>up b _ (fun z=>by rw [z,hP] at e; cases e) e,fun b o u e=>up b _ (fun z=>by rw [z,hP] at e; cases e) e,fun b ps e=>?_⟩ ?_
   ·by_cases hb : b = P
    ·rw [hb]; exact ⟨_,Heap.get?_push_of_some _ htb'⟩
    ·exact ⟨o,old b o hb e⟩
   ·by_cases hb : b = P
    ·rw [hb] at e ⊢
     rw [hP] at e
     cases e
     exact ⟨#[rawInt pos.line,rawInt pos.col,.ref c'],by rw [zy hPc,zj]; rfl⟩
    ·exact ⟨#[],by rw [up b _ hb e]; simp⟩
   ·intro b u e
    by_cases hbc : b = c'
    ·subst hbc
     rw [zj] at e
     cases e
     obtain ⟨c2,oc,vs,t,e1,e2,e3,e4⟩:=id hrec
     cases e1
     have q:=Heap.get?_push_of_some (kla_obj "<lambda>" (X.env.qual ++ "<lambda>") params body scope [] ((X.mg "__name__").getD .none) b ct) e2
     refine ⟨⟨b,oc,vs,t,rfl,q,e3,e4⟩,⟨oc,q⟩,fun h1 h2 ⟨c3,o3,v3,t3,a1,a2,a3,a4⟩ k=>?_⟩
     cases a1
     exact ⟨b,o3,v3,t3,rfl,k _ a2,a3,a4⟩
    ·rw [zy hbc] at e
     by_cases hbP : b = P
     ·rw [hbP] at e ⊢
      rw [zj] at e
      cases e
      exact Heap.get?_push_of_some _ htb'
     ·rw [zy hbP] at e
      refine (I.hok b u e).stay (fun d v hd q=>old d v ?_ q) (fun d q=>?_) fun d xs q=>?_
      ·rcases hd with rfl | hd
       ·exact hbP
       ·intro z; rw [z,hP] at hd; cases hd
      ·exact up d _ (fun z=>by rw [z,hP] at q; cases q) q
      ·exact up d _ (fun z=>by rw [z,hP] at q; cases q) q
  have hsz : s.heap.objs.size≤h'.objs.size:=Nat.le_of_lt (Nat.lt_of_le_of_lt hge hlt)
  refine h _ c' _ _ _ ct J ⟨by rw [zy hPc,zj],zj⟩ (Heap.get?_push_size _ rfl) ?_ hsz up
  exact upn _ (Nat.ne_of_gt (Nat.lt_of_lt_of_le (Heap.lt_size hPo) hsz)) (Nat.ne_of_gt hlt) (I.hok.fresh hsz)
 ·have hPo : s.heap.get? P = some (tabObj #[rawInt pos.line,rawInt pos.col,.ref c']):=I.hok P _ hP
  refine kla_makeFunctionHit hcl I.ok.glob hg hcode C hPo (show TriplesOk [rawInt pos.line,rawInt pos.col,.ref c'] from trivial) (cv:=.ref c') ?_ hb fun ct h' tk hk hsz=>?_
  ·have:=codeAmong_snoc (pos:=pos) (c:=.ref c') [] trivial rfl
   exact this
  ·exact h _ c' H _ _ ct (I.kept (t':=tk) fun b u e=>Heap.get?_push_of_some _ (hk b u e)) ⟨hP,hc'⟩ (Heap.get?_push_size _ rfl) (I.hok.fresh hsz) hsz (fun b u _ e=>e)
end
end L2
namespace HT
def vh (a b : List Int) : Bool:=if a.length = b.length then lexLt a b else decide (a.length < b.length)
theorem Q9 (a : List Int) : vh a a = false:=by unfold vh; rw [if_pos rfl,wY]
theorem Wx (a b c : List Int) (h1 : vh a b = true) (h2 : vh b c = true) : vh a c = true:=by
 unfold vh at *
 by_cases e1 : a.length = b.length
 ·rw [if_pos e1] at h1
  by_cases e2 : b.length = c.length
  ·rw [if_pos e2] at h2
   rw [if_pos (e1.trans e2)]
   exact vW a b c h1 h2
  ·rw [if_neg e2] at h2
   rw [if_neg (by omega)]
   have:=of_decide_eq_true h2
   exact decide_eq_true (by omega)
 ·rw [if_neg e1] at h1
  have h1':=of_decide_eq_true h1
  by_cases e2 : b.length = c.length
  ·rw [if_neg (by omega)]
   exact decide_eq_true (by omega)
  ·rw [if_neg e2] at h2
   have:=of_decide_eq_true h2
   rw [if_neg (by omega)]
   exact decide_eq_true (by omega)
theorem zaR (a b : List Int) (h : a ≠ b) : vh b a = !vh a b:=by
 unfold vh
 by_cases e : a.length = b.length
 ·rw [if_pos e,if_pos e.symm,Xh a b h]
 ·rw [if_neg e,if_neg (Ne.symm e),Bool.eq_iff_iff]
  simp
  omega
theorem zf6 {ls : List (List Int)} (nd : ls.Nodup) : Ord (fun i j=>vh (ls.getD i []) (ls.getD j [])) ls.length:=by
 have ge : ∀ i,(h : i < ls.length)->ls.getD i [] = ls[i]:=fun i h=>by rw [List.getD_eq_getElem?_getD,List.getElem?_eq_getElem h]; rfl
 refine ⟨fun i j k _ _ _ h1 h2=>Wx _ _ _ h1 h2,fun i j hi hj hij h=>?_,fun i j hi hj h=>?_⟩
 ·have ne : ls.getD i [] ≠ ls.getD j []:=fun z=>by
   rw [ge i hi,ge j hj] at z
   exact hij ((List.getElem_inj nd).mp z)
  have:=zaR _ _ ne
  rw [h] at this
  exact this
 ·cases e : vh (ls.getD j []) (ls.getD i []) with
  | false=>rfl
  | true =>
   have:=Wx _ _ _ h e
   rw [Q9] at this
   cases this
end HT
namespace L2
open PySem PySem.Spec PyProof.Rows PySem.W
section
variable {X : Cx} {pins : List (Addr × Obj)} {σ : St} {H : Hp} {s : Shared}
theorem zaD (I : Inv X pins σ H s) {p z : Addr} {n : Int} (h : H p = some (.tup [.int n,.ref z])) : ∃ (t : Tok) (o : Obj) (m : Nat),s.heap.get? p = some o∧o.cls = .type "tuple"∧o.data = .seq #[.int n t,.ref z] m:=by
 obtain ⟨_,its,r,o,e,hc,m,hd⟩:=I.hok p _ h
 cases r with
 | cons r1 r2 =>
  cases r2 with
  | cons r3 r4 =>
   cases r4
   obtain ⟨t,rfl⟩:=r1
   cases r3
   exact ⟨t,o,m,e,hc,hd⟩
theorem ze0 (I : Inv X pins σ H s) {A : Around} {p q za zb : Addr} {as bs : List Int} (hp : H p = some (.tup [.int as.length,.ref za])) (hq : H q = some (.tup [.int bs.length,.ref zb])) (ha : H za = some (.lst (as.map V.int))) (hb : H zb = some (.lst (bs.map V.int)))
  (hu : A.units + 2 < cLine) {Q : Bool->Shared->Prop} {E : Value->Shared->Prop} (h : Q (HT.vh as bs) s) : wpAny (model X.prog X.w) A (keyLt' (tuples' true) (.ref p) (.ref q)) Q E s:=by
 obtain ⟨t,o,m,e,_,hd⟩:=zaD I hp
 obtain ⟨t',o',m',e',_,hd'⟩:=zaD I hq
 refine kat_lt e hd e' hd' ?_
 refine kat_cons (wpAny_eqBool_int ?_)
 unfold HT.vh at h
 by_cases hl : as.length = bs.length
 ·rw [if_pos hl] at h
  have e1 : ((as.length : Int) == (bs.length : Int)) = true:=by rw [hl]; simp
  rw [e1]
  refine kat_yes (kat_cons ?_)
  refine (Vb I (A:=A) 1 (t:=wG as) (u:=wG bs) (v:=.ref za) (w:=.ref zb) (by rw [ZQ]; exact Nat.le_refl _) (TrAt.ints (SqL.of ha)) (TrAt.ints (SqL.of hb)) rfl rfl (by omega)).eq _ _ _ _ ?_
  rw [Zf]
  by_cases hab : as = bs
  ·rw [decide_eq_true hab]
   refine kat_yes (kat_nil ?_)
   rw [hab,HT.wY] at h
   exact h
  ·rw [decide_eq_false hab]
   refine kat_no (kat_one _ _ ?_)
   obtain ⟨its,r1,p1,_⟩:=I.list (SqL.of ha)
   obtain ⟨its2,r2,p2,_⟩:=I.list (SqL.of hb)
   exact HT.WN p1.isList p2.isList (by simpa using intsAre_of r1) (by simpa using intsAre_of r2) (by omega) h
 ·rw [if_neg hl] at h
  have e1 : ((as.length : Int) == (bs.length : Int)) = false:=by simp; omega
  rw [e1]
  refine kat_no ?_
  refine oneLt_int ?_
  have : decide ((as.length : Int) < (bs.length : Int)) = decide (as.length < bs.length):=by
   rw [Bool.eq_iff_iff]; simp
  rw [this]
  exact h
end
end L2
set_option maxHeartbeats 4000000
namespace L2
open PySem PySem.Spec PyProof.Rows PySem.W
section
variable {X : Cx} {pins : List (Addr × Obj)} {σ : St} {H : Hp} {s : Shared}
structure zci (X : Cx) (pins : List (Addr × Obj)) (n : Nat) (a : Addr) : Prop where
 s0 : X.s₀.heap.objs.size≤a
 lo : a ≠ X.env.locals
 ce : ∀ x c,X.env.cells.lookup x = some c->c ≠ a
 fs : a ∉ X.fs
 pn : ∀ p ∈ X.pn ++ pins,p.1 ≠ a
 ge : n≤a
theorem Inv.late (I : Inv X pins σ H s) {a : Addr} (h : s.heap.objs.size≤a) : zci X pins s.heap.objs.size a :=
 ⟨Nat.le_trans I.sz h,Nat.ne_of_gt (Nat.lt_of_lt_of_le I.lt h),fun x c e z=>by
  obtain ⟨v,o,ho,_⟩:=I.cell x c e
  rw [z] at ho
  exact absurd (Nat.lt_of_lt_of_le (Heap.lt_size ho) h) (Nat.lt_irrefl _),I.nofs h,fun p hp z=>by
  obtain ⟨e,_⟩:=I.pin p hp
  rw [z] at e
  exact absurd (Nat.lt_of_lt_of_le (Heap.lt_size e) h) (Nat.lt_irrefl _),h⟩
theorem Inv.tell {a : Addr} {xs : List V} {its : List Value} {n : Nat} {h' : Heap} {t' : Nat} (I : Inv X pins σ H s) {m : Nat} (L : zci X pins m a) (hn : H a = none) (k : ∀ b o,b ≠ a->s.heap.get? b = some o->h'.get? b = some o)
  (hv : Vals xs its) (hz : xs.length≤sizeLine) (ha : h'.get? a = some (seqObj "list" its.toArray n)) : Inv X pins σ (upd H a (.lst xs)) { s with heap:=h',toks:=t' }:=by
 have na : ∀ b u,H b = some u->b ≠ a:=fun b u e z=>by rw [z,hn] at e; cases e
 refine I.step (g':=s.gens) (d':=s.drawn) (ch:=[a]) (fun b hb=>?_) (fun b o _ _ hc e _=>k b o (fun z=>hc (by simp [z])) e) (fun b o _ _ hc e _=>⟨o.slots,k b o (fun z=>hc (by simp [z])) e⟩) (fun b o hc e n=>by rw [zy (fun z=>hc (by simp [z]))]; exact n)
  (fun b o hc e=>⟨o,k b o (fun z=>hc (by simp [z])) e⟩) (fun b xs e=>by rw [zy (na b _ e)]; exact e) (fun b o u e=>by rw [zy (na b _ e)]; exact e) (fun b ps e=>⟨#[],by rw [zy (na b _ e),e]; simp⟩) (fun m hm=>?_) (fun b u e=>?_) I.bare
 ·have e : b = a:=by simpa using hb
  subst e
  exact ⟨.inr L.s0,L.lo,L.ce,L.pn⟩
 ·obtain ⟨o,es,ep,ho,r⟩:=hm
  exact ⟨o,es,ep,k _ o (Ne.symm L.lo) ho,r⟩
 ·by_cases hb : b = a
  ·subst hb
   rw [zj] at e
   cases e
   exact ⟨hz,its,n,hv,ha⟩
  ·rw [zy hb] at e
   refine (I.hok b u e).stay (fun c v hc q=>k c v ?_ q) (fun c q=>by rw [zy (na c _ q)]; exact q) fun c xs q=>by rw [zy (na c _ q)]; exact q
   rcases hc with rfl | hc
   ·exact hb
   ·exact na c _ hc
def zeN (H : Hp) (zs : List (Addr × List Int)) (pl : List Addr) : Prop:=∀ j z,zs[j]? = some z->j < pl.length->∃ p,pl[j]? = some p∧H p = some (.tup [.int z.2.length,.ref z.1])
theorem kat_tups (I : Inv X pins σ H s) : ∀ pl : List Addr,(∀ p ∈ pl,∃ (n : Int) (z : Addr),H p = some (.tup [.int n,.ref z]))->∃ fs : List Value,KatTups s.heap (pl.map Value.ref) fs∧fs.length = pl.length∧∀ v ∈ fs,∃ n t,v = Value.int n t
 | [],_=>⟨[],KatTups.nil,rfl,fun v hv=>by cases hv⟩
 | p :: pl,h=>by
  obtain ⟨fs,h1,h2,h3⟩:=kat_tups I pl fun q hq=>h q (.tail _ hq)
  obtain ⟨n,z,e⟩:=h p (.head _)
  obtain ⟨t,o,m,e1,e2,e3⟩:=zaD I e
  refine ⟨.int n t :: fs,KatTups.cons e1 e2 e3 rfl h1,by simp [h2],fun v hv=>?_⟩
  rcases List.mem_cons.mp hv with rfl | hv
  ·exact ⟨n,t,rfl⟩
  ·exact h3 v hv
theorem zdE {zs : List (Addr × List Int)} {f kS a : Addr} {fo : Obj} {e1 : Nat} {A : Around} {P : PySem.Fin->Shared->Prop} {E : Value->Shared->Prop} {n : Nat}
  (I : Inv X ((f,fo) :: (a,seqObj "list" #[] e1) :: pins) σ H s) (La : zci X pins n a) (Lk : zci X ((f,fo) :: (a,seqObj "list" #[] e1) :: pins) n kS) (hkS : s.heap.get? kS = some (seqObj "list" #[] 0)) (hkn : H kS = none)
  (hz : ∀ z ∈ zs,H z.1 = some (.lst (z.2.map V.int))) (nd : (zs.map (·.2)).Nodup) (h60 : zs.length≤60) (hu : A.units + 2 < cLine)
  (turn : ∀ (H' : Hp) (s' : Shared) (pins' : List (Addr × Obj)) (z : Addr × List Int),Inv X pins' σ H' s'->(f,fo) ∈ pins'->Same H H'->z ∈ zs ->
   wpAny (model X.prog X.w) A (call (.ref f) [.ref z.1]) (EP X pins' σ fun v H2=>∃ p,v = .ref p∧H' p = none∧H2 = upd H' p (.tup [.int z.2.length,.ref z.1])) (fun _ _=>False) s')
  (done : ∀ (H' : Hp) (s' : Shared) (zs' : List (Addr × List Int)),Inv X pins σ (upd H' a (.lst (zs'.map fun z=>V.ref z.1))) s'->Same H H'->H' a = none->zs'.Perm zs->zs'.Pairwise (fun x y=>HT.vh x.2 y.2 = true)->P (.done (.ret .none)) s') :
  wpAny (model X.prog X.w) A (ksk_rest a (.ref f) false (zs.map fun z=>Value.ref z.1).toArray e1 (.ref kS)) P E s:=by
 unfold ksk_rest
 refine wpAny_bind (wpAny_rule ?_)
 first
  | rw [List.forIn_toArray]
  | (rw [← Array.forIn_toList]; simp only [List.toList_toArray])
  | rw [← Array.forIn_toList]
 refine wpAny_bind (ksk_fold (fun i s'=>∃ (H' : Hp) (pl : List Addr) (e : Nat),Inv X ((f,fo) :: (a,seqObj "list" #[] e1) :: pins) σ H' s'∧s'.heap.get? kS = some (seqObj "list" (pl.map Value.ref).toArray e)∧H' kS = none∧pl.length = i∧zeN H' zs pl∧Same H H') (zs.map fun z=>Value.ref z.1) 0 s
  ⟨H,[],0,I,hkS,hkn,rfl,fun j z _ h=>by simp at h,Same.refl _⟩ ?step ?fin)
 case step =>
  rintro j x s' hx ⟨H',pl,e,I',hk',hkn',hpl,hkeys,sm⟩
  rw [Nat.zero_add] at hpl ⊢
  rw [List.getElem?_map] at hx
  obtain ⟨z,hzj,ez⟩:=Option.map_eq_some_iff.mp hx
  subst ez
  have hzm:=List.mem_of_getElem? hzj
  have hj : j < zs.length:=(List.getElem?_eq_some_iff.mp hzj).1
  have I2 : Inv X ((kS,seqObj "list" (pl.map Value.ref).toArray e) :: (f,fo) :: (a,seqObj "list" #[] e1) :: pins) σ H' s':=I'.pins_of fun p hp=>by
   rcases List.mem_cons.mp hp with rfl | hp
   ·exact ⟨hk',hkn',Lk.lo,Lk.fs,fun v z=>by cases z⟩
   ·exact I'.pin p (List.mem_append_right _ hp)
  refine wpAny_bind (wpAny_attempt (wpAny_mono (turn H' s' _ z I2 (by simp) sm hzm) (fun v s'' he=>?_) fun _ _ hF=>hF.elim))
  obtain ⟨v',H2,I3,rv,p,rfl,hpf,rfl⟩:=he
  cases rv
  have pk:=I3.pin (kS,seqObj "list" (pl.map Value.ref).toArray e) (List.mem_append_right _ (.head _))
  have I4 : Inv X ((f,fo) :: (a,seqObj "list" #[] e1) :: pins) σ (upd H' p (.tup [.int z.2.length,.ref z.1])) s'':=I3.pins_of fun q hq=>I3.pin q (List.mem_append_right _ (.tail _ hq))
  obtain ⟨c2,hc2⟩ : ∃ c2,(s''.heap.update kS (Obj.mapSeq (·.push (.ref p)))).get? kS = some (seqObj "list" ((pl.map Value.ref).toArray.push (.ref p)) c2):=⟨_,get?_update_seq pk.1 (·.push (.ref p))⟩
  have hsl : (pl.map Value.ref).toArray.size≤60:=by rw [List.size_toArray,List.length_map]; omega
  dsimp only
  refine wpAny_bind (listUpdate_at pk.1 rfl ?_ (Nat.le_trans hsl (by decide)) (by rw [Array.size_push]; exact Nat.le_trans (Nat.succ_le_succ hsl) (by decide)))
  refine wpAny_pure ⟨rfl,_,pl ++ [p],c2,I4.turned (t':=s''.toks) (fun b o hb q=>?_) pk.2.1 Lk.lo (.inr Lk.s0) Lk.ce Lk.pn,?_,pk.2.1,by rw [List.length_append,List.length_singleton,hpl],fun i y hy hi=>?_,sm.trans (zq hpf)⟩
  ·rw [Heap.get?_update_other _ _ (Ne.symm hb)]; exact q
  ·rw [hc2]; simp
  ·by_cases hlt : i < pl.length
   ·obtain ⟨p',e1',e2'⟩:=hkeys i y hy hlt
    exact ⟨p',by rw [List.getElem?_append_left hlt]; exact e1',by rw [zy (zB e2' hpf)]; exact e2'⟩
   ·have ei : i = pl.length:=by rw [List.length_append,List.length_singleton] at hi; omega
    have ej : i = j:=by omega
    rw [ej,hzj] at hy
    cases hy
    exact ⟨p,by rw [ei]; simp,zj⟩
 case fin =>
  rintro s' ⟨H',pl,e,I',hk',hkn',hpl,hkeys,sm⟩
  rw [Nat.zero_add,List.length_map] at hpl
  try dsimp only
  refine wpAny_bind (listItems_at hk' rfl ?_)
  have ga:=I'.pin (a,seqObj "list" #[] e1) (List.mem_append_right _ (.tail _ (.head _)))
  have Ip : Inv X pins σ H' s':=I'.pins_of fun q hq=>I'.pin q (by
   rcases List.mem_append.mp (List.mem_append_right X.pn hq) with h | h
   ·exact List.mem_append_left _ h
   ·exact List.mem_append_right _ (.tail _ (.tail _ h)))
  have nka : kS ≠ a:=fun z=>Lk.pn (a,seqObj "list" #[] e1) (List.mem_append_right _ (.tail _ (.head _))) z.symm
  have tail : ∀ (st : SortSt) (zs' : List (Addr × List Int)),(arrOf st).map (·.2) = (zs'.map fun z=>Value.ref z.1).toArray->failedOf st = none->zs'.Perm zs->zs'.Pairwise (fun x y=>HT.vh x.2 y.2 = true) ->
    wpAny (model X.prog X.w) A (ksk_tail a false e1 (.ref kS) st) P E s':=by
   intro st zs' hout hfl pm pw
   have hlen : zs'.length≤60:=by rw [pm.length_eq]; exact h60
   have s1:=Heap.SameBut.update s'.heap kS (Obj.mapSeq fun _=>(#[] : Array Value))
   have na1 : (s'.heap.update kS (Obj.mapSeq fun _=>(#[] : Array Value))).get? a = some (seqObj "list" #[] e1):=(s1.2 a nka.symm).trans ga.1
   obtain ⟨c2,hc2⟩ : ∃ c2,((s'.heap.update kS (Obj.mapSeq fun _=>(#[] : Array Value))).update a (Obj.mapSeq fun _=>(zs'.map fun z=>Value.ref z.1).toArray)).get? a = some (seqObj "list" (zs'.map fun z=>Value.ref z.1).toArray c2) :=
    ⟨_,get?_update_seq na1 fun _=>(zs'.map fun z=>Value.ref z.1).toArray⟩
   have I5 : Inv X pins σ H' { s' with heap:=s'.heap.update kS (Obj.mapSeq fun _=>(#[] : Array Value)),toks:=s'.toks }:=Ip.turned (fun b o hb q=>by rw [Heap.get?_update_other _ _ (Ne.symm hb)]; exact q) hkn' Lk.lo (.inr Lk.s0) Lk.ce (fun q hq=>Lk.pn q (by
    rcases List.mem_append.mp hq with h | h
    ·exact List.mem_append_left _ h
    ·exact List.mem_append_right _ (.tail _ (.tail _ h))))
   have I6:=I5.tell (t':=s'.toks) (h':=(s'.heap.update kS (Obj.mapSeq fun _=>(#[] : Array Value))).update a (Obj.mapSeq fun _=>(zs'.map fun z=>Value.ref z.1).toArray)) La ga.2.1 (fun b o hb q=>by rw [Heap.get?_update_other _ _ (Ne.symm hb)]; exact q) (Wo zs') (by rw [List.length_map]; exact Nat.le_trans hlen (by decide)) hc2
   unfold ksk_tail
   try dsimp only
   refine wpAny_bind (listUpdate_at hk' rfl ?_ (by rw [List.size_toArray,List.length_map,hpl]; exact Nat.le_trans h60 (by decide)) (Nat.zero_le _))
   refine wpAny_bind (wpAny_letGo ?_)
   refine wpAny_bind (seqEpoch_at na1 rfl ?_)
   simp only [Bool.false_eq_true,if_false]
   rw [hout]
   refine wpAny_bind (listUpdate_at na1 rfl ?_ (Nat.zero_le _) (by rw [List.size_toArray,List.length_map]; exact Nat.le_trans hlen (by decide)))
   rw [hfl]
   simp only [bne_self_eq_false,Bool.false_eq_true,if_false]
   exact wpAny_pure (done H' _ zs' I6 sm ga.2.1 pm pw)
  unfold ksk_end
  try dsimp only
  simp only [Bool.false_eq_true,if_false]
  have hvl : (zs.map fun z=>Value.ref z.1).toArray.size = zs.length:=by rw [List.size_toArray,List.length_map]
  by_cases h2 : (zs.map fun z=>Value.ref z.1).toArray.size < 2
  ·rw [if_pos h2,if_pos h2]
   refine wpAny_bind (wpAny_pure ?_)
   rw [StateT.run_pure]
   refine wpAny_bind (wpAny_pure ?_)
   try dsimp only
   refine tail _ zs ?_ rfl (List.Perm.refl _) ?_
   ·show (((pl.map Value.ref).toArray.zip (zs.map fun z=>Value.ref z.1).toArray).map (·.2)) = _
    apply Array.toList_inj.mp
    rw [Array.toList_map,Array.toList_zip,List.map_snd_zip (by simp [hpl])]
   ·rw [hvl] at h2
    match zs,h2 with
    | [],_=>exact .nil
    | [_],_=>exact List.pairwise_singleton _ _
  ·rw [if_neg h2,if_neg h2]
   rw [hvl] at h2
   have hkl : (pl.map Value.ref).length = (zs.map fun z=>Value.ref z.1).length:=by rw [List.length_map,List.length_map,hpl]
   have hk2 : ∀ j,j < zs.length->∃ p,pl[j]? = some p∧H' p = some (.tup [.int (zs.getD j (0,[])).2.length,.ref (zs.getD j (0,[])).1])∧zs.getD j (0,[]) ∈ zs:=fun j hj=>by
    have e : zs.getD j (0,[]) = zs[j]:=by rw [List.getD_eq_getElem?_getD,List.getElem?_eq_getElem hj]; rfl
    rw [e]
    obtain ⟨p,e1,e2⟩:=hkeys j zs[j] (List.getElem?_eq_getElem hj) (by omega)
    exact ⟨p,e1,e2,List.getElem_mem hj⟩
   obtain ⟨fs,ht,hfl,hfi⟩:=kat_tups I' pl fun p hp=>by
    obtain ⟨j,hj,rfl⟩:=List.getElem_of_mem hp
    obtain ⟨p',e1,e2,_⟩:=hk2 j (by omega)
    rw [List.getElem?_eq_getElem hj] at e1
    cases e1
    exact ⟨_,_,e2⟩
   refine wpAny_bind (kat_kind (T:=.type "int") ht (by omega) (fun v hv=>?_) (by decide) ?_)
   ·obtain ⟨n,t,rfl⟩:=hfi v hv
    exact Looks.of_pure rfl
   have ls2 : (zs.map (·.2)).length = zs.length:=List.length_map ..
   have ask : (kas_sort (zs.map fun z=>Value.ref z.1).length).kasWp (kas_ask X.prog X.w A (tuples' true) (pl.map Value.ref)) (fun p s''=>s'' = s'∧(HT.Pm zs.length p∧HT.Up (fun i j=>HT.vh ((zs.map (·.2)).getD i []) ((zs.map (·.2)).getD j [])) p zs.length)) s':=by
    rw [List.length_map]
    have O:=HT.zf6 nd
    rw [ls2] at O
    refine HT.KW.wp (n:=zs.length) (fun i j C hi hj hC=>?_) _ (HT.zew O (by omega))
    obtain ⟨p,e1,e2,e3⟩:=hk2 i hi
    obtain ⟨q,d1,d2,d3⟩:=hk2 j hj
    have ei : (zs.map (·.2)).getD i [] = (zs.getD i (0,[])).2:=by rw [List.getD_eq_getElem?_getD,List.getD_eq_getElem?_getD,List.getElem?_map,List.getElem?_eq_getElem hi]; rfl
    have ej : (zs.map (·.2)).getD j [] = (zs.getD j (0,[])).2:=by rw [List.getD_eq_getElem?_getD,List.getD_eq_getElem?_getD,List.getElem?_map,List.getElem?_eq_getElem hj]; rfl
    have gi : (pl.map Value.ref).getD i Value.none = .ref p:=by rw [List.getD_eq_getElem?_getD,List.getElem?_map,e1]; rfl
    have gj : (pl.map Value.ref).getD j Value.none = .ref q:=by rw [List.getD_eq_getElem?_getD,List.getElem?_map,d1]; rfl
    unfold kas_ask
    rw [gi,gj]
    refine ze0 I' e2 d2 (sm _ _ (hz _ e3)) (sm _ _ (hz _ d3)) hu ?_
    try dsimp only at hC
    rw [ei,ej] at hC
    exact hC
   have eT : (Value.type "int" != Value.type "tuple") = true:=by decide
   rw [eT]
   refine wpAny_bind (wpAny_mono (kat_run (ks:=pl.map Value.ref) (vs:=zs.map fun z=>Value.ref z.1) (Q:=fun st' s''=>∃ p : Array Nat,s'' = s'∧arrOf st' = p.map (kas_item ((pl.map Value.ref).toArray.zip (zs.map fun z=>Value.ref z.1).toArray))∧failedOf st' = none∧HT.Pm zs.length p∧HT.Up (fun i j=>HT.vh ((zs.map (·.2)).getD i []) ((zs.map (·.2)).getD j [])) p zs.length)
    hkl (by rw [List.length_map]; omega) (by rw [List.length_map]; omega) (fun p st' s'' _ a2 a3 a4=>⟨p,a4.1,a2,a3,a4.2⟩) ask) ?_ fun _ _ e=>e)
   rintro ⟨⟨⟩,st'⟩ s'' ⟨p,rfl,har,hfl2,hpm,hup⟩
   try dsimp only
   have hout:=kat_snds hkl har
   have hpl2 : p.toList.length = zs.length:=by rw [hpm.pm.length_eq,List.length_range]
   refine tail st' (p.toList.map fun i=>zs.getD i (0,[])) ?_ hfl2 (HT.Qh _ zs hpm.pm) ?_
   ·rw [hout,List.map_map]
    congr 1
    refine List.map_congr_left fun i hi=>?_
    have hi':=List.mem_range.mp (hpm.pm.mem_iff.mp hi)
    show _ = Value.ref (zs.getD i (0,[])).1
    rw [List.getD_eq_getElem?_getD,List.getD_eq_getElem?_getD,List.getElem?_map,List.getElem?_eq_getElem hi']; rfl
   ·rw [List.pairwise_map,List.pairwise_iff_getElem]
    intro i j hi hj hij
    have q1:=hup i j hij (by omega)
    have e1 : p.getD i 0 = p.toList[i]:=by
     have : i < p.size:=by rw [hpm.sz]; omega
     simp [Array.getD,this]
    have e2 : p.getD j 0 = p.toList[j]:=by
     have : j < p.size:=by rw [hpm.sz]; omega
     simp [Array.getD,this]
    rw [e1,e2] at q1
    have m1:=List.mem_range.mp (hpm.pm.mem_iff.mp (List.getElem_mem hi))
    have m2:=List.mem_range.mp (hpm.pm.mem_iff.mp (List.getElem_mem hj))
    have ei : (zs.map (·.2)).getD p.toList[i] [] = (zs.getD p.toList[i] (0,[])).2:=by rw [List.getD_eq_getElem?_getD,List.getD_eq_getElem?_getD,List.getElem?_map,List.getElem?_eq_getElem m1]; rfl
    have ej : (zs.map (·.2)).getD p.toList[j] [] = (zs.getD p.toList[j] (0,[])).2:=by rw [List.getD_eq_getElem?_getD,List.getD_eq_getElem?_getD,List.getElem?_map,List.getElem?_eq_getElem m2]; rfl
    try dsimp only at q1
    rw [ei,ej] at q1
    exact q1
end
section
variable {X : Cx} {pins : List (Addr × Obj)} {σ : St} {H : Hp} {s : Shared}
theorem J0 {zs : List (Addr × List Int)} {f l : Addr} {fo : Obj} {Q : VK} (I : Inv X ((f,fo) :: pins) σ H s) (hl : H l = some (.lst (zs.map fun z=>V.ref z.1))) (hz : ∀ z ∈ zs,H z.1 = some (.lst (z.2.map V.int))) (nd : (zs.map (·.2)).Nodup) (h60 : zs.length≤60)
  (hu : X.A.in1.in1.units + 2 < cLine)
  (turn : ∀ (H' : Hp) (s' : Shared) (pins' : List (Addr × Obj)) (z : Addr × List Int),Inv X pins' σ H' s'->(f,fo) ∈ pins'->Same H H'->z ∈ zs ->
   wpAny (model X.prog X.w) X.A.in1.in1 (call (.ref f) [.ref z.1]) (EP X pins' σ fun v H2=>∃ p,v = .ref p∧H' p = none∧H2 = upd H' p (.tup [.int z.2.length,.ref z.1])) (fun _ _=>False) s')
  (q : ∀ (D : Addr) (H' : Hp) (zs' : List (Addr × List Int)),H D = none->Same H H'->H' D = none->zs'.Perm zs->zs'.Pairwise (fun x y=>HT.vh x.2 y.2 = true)->Q (.ref D) (upd H' D (.lst (zs'.map fun z=>V.ref z.1)))) :
  wpAny (model X.prog X.w) X.A (call (.builtin "sorted") [.ref l] [(Str.ofString "key",.ref f)]) (EP X pins σ Q) X.xe s:=by
 obtain ⟨its,r1,p1,_⟩:=I.list (SqL.of hl)
 have e1:=Qm r1
 subst e1
 have hvl : (zs.map fun z=>Value.ref z.1).length = zs.length:=List.length_map ..
 have hsl : (zs.map fun z=>Value.ref z.1).length≤sizeLine:=by rw [hvl,sizeLine_eq]; omega
 refine call_function_entry_kw kind_sorted plain_sorted entry_sorted (ksk_s1 _ _) ?_
 unfold Builtin.«sorted»
 refine wpAny_bind (m:=checkCount "sorted" 1 1 _) (wpAny_pure (wpAny_bind (collect_list p1.isList (wpAny_bind (wpAny_newList ?_ hsl)) hsl)))
 generalize hB : (s.heap.push (seqObj "list" #[] 0)).update s.heap.objs.size (Obj.mapSeq (· ++ (zs.map fun z=>Value.ref z.1).toArray)) = B
 have hsz : B.objs.size = s.heap.objs.size + 1:=by rw [← hB,Heap.size_update,size_push']
 have keep : ∀ b o,s.heap.get? b = some o->(B.push (seqObj "list" (zs.map fun z=>Value.ref z.1).toArray 0)).get? b = some o:=fun b o q=>by
  have hlt : b < s.heap.objs.size:=Heap.lt_size q
  rw [Heap.get?_push_ne _ _ _ (by rw [hsz]; exact Nat.ne_of_lt (Nat.lt_succ_of_lt hlt)),← hB,Heap.get?_update_ne _ _ _ _ (Nat.ne_of_lt hlt),Heap.get?_push_ne _ _ _ (Nat.ne_of_lt hlt)]; exact q
 have hoL : (B.push (seqObj "list" (zs.map fun z=>Value.ref z.1).toArray 0)).get? (s.heap.objs.size + 1) = some (seqObj "list" (zs.map fun z=>Value.ref z.1).toArray 0):=by
  rw [← hsz]; exact Heap.get?_push_size _ rfl
 have hszB : (B.push (seqObj "list" (zs.map fun z=>Value.ref z.1).toArray 0)).objs.size = s.heap.objs.size + 2:=by rw [size_push',hsz]
 show wpAny _ _ _ _ _ { s with heap:=B.push (seqObj "list" (zs.map fun z=>Value.ref z.1).toArray 0) }
 dsimp only
 rw [hsz]
 refine wpAny_bind (wpAny_holding (wpAny_call_entry_kw slot_list_sort ⟨_,hoL,rfl⟩ entry_list_sort ?body (ksk_l1 _ _)))
 case body =>
  show wpAny (model X.prog X.w) X.A.in1.in1 (Builtin.«list.sort» ⟨[.ref (s.heap.objs.size + 1)],[(Str.ofString "key",.ref f)]⟩) _ _ _
  rw [ksk_t1]
  unfold ksk_tree
  generalize hG : B.push (seqObj "list" (zs.map fun z=>Value.ref z.1).toArray 0) = G at keep hoL hszB
  generalize hLd : s.heap.objs.size + 1 = L at hoL
  have hLG : L < G.objs.size:=Heap.lt_size hoL
  obtain ⟨e1,ho1⟩ : ∃ e1,(G.update L (Obj.mapSeq fun _=>(#[] : Array Value))).get? L = some (seqObj "list" #[] e1):=⟨_,get?_update_seq hoL fun _=>#[]⟩
  refine wpAny_bind (listItems_at (s:={ s with heap:=G }) hoL rfl ?_)
  refine wpAny_bind (listUpdate_at (s:={ s with heap:=G }) hoL rfl ?_ (by rw [List.size_toArray]; exact hsl) (Nat.zero_le _))
  refine wpAny_bind (seqEpoch_at ho1 rfl ?_)
  refine wpAny_bind (wpAny_newTuple ?_ (by show (zs.map fun z=>Value.ref z.1).length≤_; exact hsl))
  refine wpAny_bind (wpAny_newList ?_ (Nat.zero_le _))
  refine wpAny_holding ?_
  generalize hM : (G.update L (Obj.mapSeq fun _=>(#[] : Array Value))).push (seqObj "tuple" (zs.map fun z=>Value.ref z.1).toArray 0) = M
  have hMs : M.objs.size = s.heap.objs.size + 3:=by rw [← hM,size_push',Heap.size_update,hszB]
  have hkS : (M.push (seqObj "list" #[] 0)).get? (s.heap.objs.size + 3) = some (seqObj "list" #[] 0):=by rw [← hMs]; exact Heap.get?_push_size _ rfl
  have hL2 : (M.push (seqObj "list" #[] 0)).get? L = some (seqObj "list" #[] e1):=Heap.get?_push_of_some _ (by rw [← hM]; exact Heap.get?_push_of_some _ ho1)
  have keep2 : ∀ b o,s.heap.get? b = some o->(M.push (seqObj "list" #[] 0)).get? b = some o:=fun b o q=>by
   have hlt : b < s.heap.objs.size:=Heap.lt_size q
   refine Heap.get?_push_of_some _ ?_
   rw [← hM]
   refine Heap.get?_push_of_some _ ?_
   rw [Heap.get?_update_ne _ _ _ _ (by rw [← hLd]; exact Nat.ne_of_lt (Nat.lt_succ_of_lt hlt))]
   exact keep b o q
  have La0:=I.late (a:=L) (by rw [← hLd]; exact Nat.le_succ _)
  have Lk0:=I.late (a:=s.heap.objs.size + 3) (by omega)
  have I1 : Inv X ((f,fo) :: pins) σ H { s with heap:=M.push (seqObj "list" #[] 0),toks:=s.toks }:=I.kept keep2
  have hLn : H L = none:=I.hok.fresh (by rw [← hLd]; exact Nat.le_succ _)
  have I2 : Inv X ((f,fo) :: (L,seqObj "list" #[] e1) :: pins) σ H { s with heap:=M.push (seqObj "list" #[] 0),toks:=s.toks }:=I1.pins_of fun p hp=>by
   rcases List.mem_cons.mp hp with rfl | hp
   ·exact I1.pin _ (List.mem_append_right _ (.head _))
   ·rcases List.mem_cons.mp hp with rfl | hp
    ·exact ⟨hL2,hLn,La0.lo,La0.fs,fun v z=>by cases z⟩
    ·exact I1.pin p (List.mem_append_right _ (.tail _ hp))
  have La : zci X pins s.heap.objs.size L:=⟨La0.s0,La0.lo,La0.ce,La0.fs,fun p hp=>La0.pn p (by
   rcases List.mem_append.mp hp with h | h
   ·exact List.mem_append_left _ h
   ·exact List.mem_append_right _ (.tail _ h)),La0.ge⟩
  have Lk : zci X ((f,fo) :: (L,seqObj "list" #[] e1) :: pins) s.heap.objs.size (s.heap.objs.size + 3):=⟨Lk0.s0,Lk0.lo,Lk0.ce,Lk0.fs,fun p hp=>by
   rcases List.mem_append.mp hp with h | h
   ·exact Lk0.pn p (List.mem_append_left _ h)
   ·rcases List.mem_cons.mp h with rfl | h
    ·exact Lk0.pn _ (List.mem_append_right _ (.head _))
    ·rcases List.mem_cons.mp h with rfl | h
     ·show L ≠ _
      rw [← hLd]; omega
     ·exact Lk0.pn p (List.mem_append_right _ (.tail _ h)),Lk0.ge⟩
  rw [hMs]
  refine zdE (s:={ s with heap:=M.push (seqObj "list" #[] 0) }) I2 La Lk hkS (I.hok.fresh (by omega)) hz nd h60 hu turn fun H' s' zs' I' sm hn pm pw=>⟨_,rfl,?_⟩
  exact wpAny_pure ⟨_,rfl,.ref L,_,I',rfl,q L H' zs' hLn sm hn pm pw⟩
end
section
variable {X : Cx} {σ : St} {H : Hp} {s : Shared} {params : Arguments} {body : Expr} {scope : Scope} {pos lpos kpos p : Pos} {c P : Addr} {y : Str} {e : Expr} {te : TE}
theorem zdo {pins : List (Addr × Obj)} {f c' : Addr} {q : Str} {pm ct : Value} {k : Nat} {v : V} {u : Value} {Q : VK} (I : Inv X pins σ H s) (hf : (f,kla_obj "<lambda>" q params body scope [] pm c' ct) ∈ pins) (hL : zbg P lpos q H c') (S : zK [y] [y] scope) (hr : Room (k + 1) X.A.in1.in1)
  (hb : ∀ (pm ct : Value) (u : Value),bindArgs (kla_fn "<lambda>" q params body scope [] pm (.ref c') ct) ⟨[u],[]⟩ = pure [(y,u)]) (rv : RelV v u)
  (hbody : ∃ t,PE (YH CX0 X.prog X.w X.K X.mg X.base [y] q scope f (.ref c') X.A.in1.in1 X.stack s H E0) body t∧t (start [y] [v]) H Q) :
  wpAny (model X.prog X.w) X.A.in1.in1 (call (.ref f) [u]) (EP X pins σ Q) (fun _ _=>False) s:=by
 have pf:=I.pin _ (List.mem_append_right X.pn hf)
 have hcd : s.heap.CodeRec (.ref c') q:=(I.hok c' _ hL.2).1
 refine wpAny_call (codeAny_mono (zef (k:=k) (N:=[y]) (ps:=[y]) (us:=[u]) (vs:=[v]) (E:=E0) pf.1 rfl hcd S hr I.env0.in1.in1 (BindsTo.of_eq (hb pm ct u)) rfl (.cons rv .nil) hbody) fun r s' hq=>?_)
 cases r with
 | error e=>exact hq
 | ok fl =>
  cases fl with
  | ret u=>exact I.after hq
  | next=>exact False.elim hq
  | brk=>exact False.elim hq
  | cont=>exact False.elim hq
def zcv (P : Addr) (lpos : Pos) (q : Str) (te : TE) : TE:=fun σ H Q=>te σ H fun x H1=>∃ (l : Addr) (zs : List (Addr × List Int)),x = .ref l∧H1 l = some (.lst (zs.map fun z=>V.ref z.1))∧(∀ z ∈ zs,H1 z.1 = some (.lst (z.2.map V.int)))∧(zs.map (·.2)).Nodup∧zs.length≤60∧Ws P lpos q H1 ∧
 ∀ (D : Addr) (zs' : List (Addr × List Int)) (H2 : Hp),H1 D = none->H2 D = none->(∀ b u,b ≠ P->H1 b = some u->H2 b = some u)->Ws P lpos q H2->zs'.Perm zs->zs'.Pairwise (fun x y=>HT.vh x.2 y.2 = true)->Q (.ref D) (upd H2 D (.lst (zs'.map fun z=>V.ref z.1)))
theorem za3 {k : Nat} (he : PE X e te) (hg : Gl X "sorted") (hm : X.mg "sorted" = none) (hr : Room (k + 3) X.A) (hdef : defaultsOf params X.env = ([],[])) (hcl : closureFor scope X.env = pure []) (hcode : X.env.code = .ref c) (hK : codeHdIn X.K c P = true) (hB : X.base.BuiltinsAt X.mg P) (hgP : mainGlobals ≠ P)
  (S : zK [y] [y] scope) (hb : ∀ (pm cd ct : Value) (u : Value),bindArgs (kla_fn "<lambda>" (X.env.qual ++ "<lambda>") params body scope [] pm cd ct) ⟨[u],[]⟩ = pure [(y,u)])
  (hbody : ∀ (f c' : Addr) (s : Shared) (H : Hp) (z : Addr × List Int),H z.1 = some (.lst (z.2.map V.int))->∃ t,PE (YH CX0 X.prog X.w X.K X.mg X.base [y] (X.env.qual ++ "<lambda>") scope f (.ref c') X.A.in1.in1 X.stack s H E0) body t ∧
   t (start [y] [.ref z.1]) H fun v H2=>∃ p,v = .ref p∧H p = none∧H2 = upd H p (.tup [.int z.2.length,.ref z.1]))
  (hs1 : starEach [e] X.env = [(false,eval e X.env)]:=by rfl) :
  PE X (.Call (.Name "sorted" p) [e] [⟨some "key",.Lambda params body scope lpos,kpos⟩] pos) (zcv P lpos (X.env.qual ++ "<lambda>") te):=by
 intro pins s σ H Q I h
 refine wpAny_Call_Name_kw (jh I hg hm boot_sorted ?_ (by decide) (by decide))
 have ha : PA X [e] (wI te YJ):=zf he zg hs1
 refine callWith_kw (thn (ha pos pins s σ H (fun vs H1=>match vs with
  | [x]=>∃ (l : Addr) (zs : List (Addr × List Int)),x = .ref l∧H1 l = some (.lst (zs.map fun z=>V.ref z.1))∧(∀ z ∈ zs,H1 z.1 = some (.lst (z.2.map V.int)))∧(zs.map (·.2)).Nodup∧zs.length≤60∧Ws P lpos (X.env.qual ++ "<lambda>") H1 ∧
   ∀ (D : Addr) (zs' : List (Addr × List Int)) (H2 : Hp),H1 D = none->H2 D = none->(∀ b u,b ≠ P->H1 b = some u->H2 b = some u)->Ws P lpos (X.env.qual ++ "<lambda>") H2->zs'.Perm zs->zs'.Pairwise (fun x y=>HT.vh x.2 y.2 = true)->Q (.ref D) (upd H2 D (.lst (zs'.map fun z=>V.ref z.1)))
  | _=>False) I h) fun us s1 ⟨vs,H1,I1,r1,q1⟩=>?_) (by rw [hs1]; rfl) (by rw [hs1]; rfl)
 match vs,q1 with
 | [x],q1 =>
  obtain ⟨l,zs,rfl,hl,hz,nd,h60,hT,q⟩:=q1
  obtain ⟨u,rfl,rx⟩:=vals1 r1
  cases rx
  show wpAny _ _ (evalAll ((do let v ← eval (.Lambda params body scope lpos) X.env; standAt pos; pure v) :: [])) _ _ s1
  refine wpAny_evalAll_cons (wpAny_bind (zdc I1 hdef hcl hcode hK hB hgP hT fun f c' H2 s2 pm ct I2 hL hfo hfn hsz up=>wpAny_bind (wpAny_standAt (wpAny_pure ?_))))
  refine wpAny_evalAll_nil ?_
  have Lf:=I1.late hsz
  have I3 : Inv X ((f,kla_obj "<lambda>" (X.env.qual ++ "<lambda>") params body scope [] pm c' ct) :: pins) σ H2 s2:=I2.pins_of fun p hp=>by
   rcases List.mem_cons.mp hp with rfl | hp
   ·exact ⟨hfo,hfn,Lf.lo,Lf.fs,fun v z=>by cases z⟩
   ·exact I2.pin p (List.mem_append_right _ hp)
  have hPl : ∀ b xs,H1 b = some (.lst xs)->b ≠ P:=fun b xs e z=>by
   rw [z] at e
   rcases hT with t | ⟨c2,t,_⟩
   ·rw [t] at e; cases e
   ·rw [t] at e; cases e
  have hr2 : Room (k + 1) X.A.in1.in1:=(hr.in1).in1
  show wpAny _ _ (call (.builtin "sorted") [.ref l] [(Str.ofString "key",.ref f)]) _ _ s2
  refine J0 I3 (up _ _ (hPl _ _ hl) hl) (fun z hzm=>up _ _ (hPl _ _ (hz z hzm)) (hz z hzm)) nd h60 (by have:=hr2.units; omega) (fun H' s' pins' z I' hf sm hzm=>?_) fun D H' zs' hD sm hn pm pw=>?_
  ·have hL' : zbg P lpos (X.env.qual ++ "<lambda>") H' c':=⟨sm _ _ hL.1,sm _ _ hL.2⟩
   exact zdo (v:=.ref z.1) I' hf hL' S hr2 (fun pm ct u=>hb pm (.ref c') ct u) rfl (hbody f c' s' H' z (sm _ _ (up _ _ (hPl _ _ (hz z hzm)) (hz z hzm))))
  ·refine q D zs' H' ?_ hn (fun b u hb e=>sm _ _ (up b u hb e)) (.inr ⟨c',sm _ _ hL.1,sm _ _ hL.2⟩) pm pw
   cases e : H1 D with
   | none=>rfl
   | some u =>
    by_cases hDP : D = P
    ·rw [hDP,hL.1] at hD; cases hD
    ·rw [up D u hDP e] at hD; cases hD
end
theorem zcq {P : Program} {w : World} {K : Frag} {mg mb : Str->Option Value} {CX : CXT} {k : Nat} {fa a c T : Addr} {fd : FuncData} {x : Str} {sp : Sp} {s₁ : Shared} {vs : List Value} {ns : List Int}
  (KX : K.In s₁.heap) (hns : s₁.heap.Ns mainGlobals mg) (hb : s₁.heap.Ns builtinsNs mb) (hbb : ∀ x : Str,x ≠ "__name__"->mb x = bootBuiltins x) (hlim : s₁.heap.NoLimit) (hg : s₁.gens = #[])
  (hBM : ∃ bm ob,mg "__builtins__" = some (.ref bm)∧bm ≠ builtinsNs∧s₁.heap.get? bm = some ob∧ob.cls = .type "module"∧ob.dict = some builtinsNs∧ob.data = .plain)
  (hT : s₁.heap.get? T = some (tabObj #[])) (hKT : K.lookup T = none) (hcT : codeHdIn K c T = true)
  (ha : s₁.heap.get? a = some { cls:=.type "list",data:=.seq vs.toArray }) (hi : IntsAre vs ns) (hl : ns.length≤sizeLine) (hr : Room k callerA)
  (F : ∀ base : Heap,K.In base->base.Ns mainGlobals mg->base.BuiltinsAt mg T->FnOk P w K mg base CX k fa fd [x] sp) (hbind : ∀ (s : Shared) (u : Value),BindsTo s fd ⟨[u],[]⟩ [(x,u)])
  (hsp : ∀ H : Hp,H T = some (.tbl #[])->SqL K H a (ns.map V.int)->sp [.ref a] H (fun v _=>v = .bl true) fun _ _ _=>False)
  (hCX : ∀ H e s',CX [] H s₁ (fun _ _ _=>False) e s'->False) :
  codeAny (model P w) callerA (.call (.ref fa) ⟨[.ref a],[]⟩) (fun r s'=>r = .ok (.ret (.bool true))∧OldK s₁.heap s'.heap∧s'.os = s₁.os∧AllBare s'.gens) s₁:=by
 have rv:=Qg hi
 have lenV:=hi.length
 have tabT : s₁.heap.TableAt c T #[]:=(codeHd_of_K KX hcT).tab hT
 have core : ∀ H : Hp,H T = some (.tbl #[])->SqL K H a (ns.map V.int)->HOk P w H s₁.heap->(∀ b,H b ≠ none->b = a∨b = T)->(∀ b,b ≠ T->H b = none∨∃ o xs,H b = some (.frz o (.lst xs)))->(∀ b,H b ≠ none->K.lookup b = none) ->
   codeAny (model P w) callerA (.call (.ref fa) ⟨[.ref a],[]⟩) (fun r s'=>r = .ok (.ret (.bool true))∧OldK s₁.heap s'.heap∧s'.os = s₁.os∧AllBare s'.gens) s₁:=by
  intro H hHT hS hok hA hO hK
  have Xw : ∀ {b : Addr} {o : Obj},s₁.heap.get? b = some o->H b = none->(Ux s₁.heap H).get? b = some o:=fun e n=>zdm e n
  have noA : ∀ {b : Addr} {o : Obj},s₁.heap.get? b = some o->(∀ xs n,o.data ≠ .seq xs n)->(∀ ps,o.data ≠ .fields ps)->H b = none:=fun {b o} e d1 d2=>by
   cases q : H b with
   | none=>rfl
   | some u =>
    rcases hA b (by rw [q]; simp) with e' | e'
    ·subst e'
     rw [ha] at e; cases e
     exact absurd rfl (d1 _ _)
    ·subst e'
     rw [hT] at e; cases e
     exact absurd rfl (d2 _)
  have nsK : ∀ {b : Addr} {m : Str->Option Value},s₁.heap.Ns b m->(Ux s₁.heap H).Ns b m:=fun {b m} ⟨o,es,ep,e,d,r⟩=>⟨o,es,ep,Xw e (noA e (fun xs n z=>by rw [d] at z; cases z) (fun ps z=>by rw [d] at z; cases z)),d,r⟩
  have hKb : K.In (Ux s₁.heap H):=fun b o e=>Xw (KX b o e) (by
   cases q : H b with
   | none=>rfl
   | some u=>rw [hK b (by rw [q]; simp)] at e; cases e)
  have hM : Mod K mg (Ux s₁.heap H):=⟨hKb,nsK hns,⟨mb,nsK hb,hbb⟩,let ⟨mc,h1,h2⟩:=hlim; ⟨mc,nsK h1,h2⟩⟩
  have hBA : (Ux s₁.heap H).BuiltinsAt mg T:=by
   obtain ⟨bm,ob,b1,b2,b3,b4,b5,b6⟩:=hBM
   refine ⟨bm,ob,b1,b2,fun z=>?_,fun z=>?_,Xw b3 (noA b3 (fun xs n z=>by rw [b6] at z; cases z) (fun ps z=>by rw [b6] at z; cases z)),b4,b5,b6⟩
   ·obtain ⟨o,es,ep,e,hd,_⟩:=hns
    rw [z,e] at b3; cases b3
    rw [hd] at b6; cases b6
   ·rw [z,hT] at b3; cases b3; cases b4
  have e0 : Env0 P w K mg (Ux s₁.heap H) callerA [] s₁ H:=⟨rfl,hM,fun b o e=>zd8 e,Nat.le_of_eq (zce _ _),trivial,fun b hb=>absurd (show b ∈ ([] : List Addr) from hb) (by simp),hok,.of_eq hg⟩
  refine codeAny_mono ((F _ hKb (nsK hns) hBA).run callerA [] s₁ H ⟨[.ref a],[]⟩ [.ref a] [.ref a] _ _ hr e0 (hbind s₁ (.ref a)) (.cons rfl .nil) (hsp H hHT hS)) fun r s' h=>?_
  cases r with
  | error e=>exact (hCX H e s' h).elim
  | ok fl =>
   cases fl with
   | next=>exact False.elim h
   | brk=>exact False.elim h
   | cont=>exact False.elim h
   | ret u =>
    obtain ⟨v,H',os,bare,un,hok',r',q⟩:=h
    have q' : v = .bl true:=q
    subst q'
    obtain rfl : u = Value.bool true:=r'
    have oth : ∀ b o,b ≠ T->s₁.heap.get? b = some o->s'.heap.get? b = some o:=fun b o hbT e=>by
     cases q : H b with
     | none=>exact un.keep b o e q (by intro z; exact absurd (show b ∈ ([] : List Addr) from z) (by simp)) (by simp)
     | some u =>
      rcases hO b hbT with z | ⟨ob,xs,z⟩
      ·rw [q] at z; cases z
      ·have z2:=un.frzs b ob _ z
       obtain ⟨e1,_⟩:=hok b _ z
       obtain ⟨e2,_⟩:=hok' b _ z2
       rw [e] at e1; cases e1
       exact e2
    obtain ⟨more,hm⟩:=un.tbls T _ hHT
    have hTm : s'.heap.get? T = some { cls:=.none,data:=.fields (#[] ++ more) }:=hok' T _ hm
    refine ⟨rfl,⟨fun b o e=>?_,fun b o e=>?_⟩,os,bare⟩
    ·by_cases hbT : b = T
     ·subst hbT
      rw [hT] at e; cases e
      exact .inr (.inl ⟨tabT.isCodeTable,rfl,#[],more,rfl,hTm⟩)
     ·exact .inl (oth b o hbT e)
    ·by_cases hbT : b = T
     ·subst hbT; exact ⟨_,hTm⟩
     ·exact ⟨o,oth b o hbT e⟩
 have hTa : T ≠ a:=fun z=>by rw [z,ha] at hT; cases hT
 cases hk : K.lookup a with
 | some o =>
  have e:=KX a o hk
  rw [ha] at e
  cases e
  refine core (fun b=>if b = T then some (.tbl #[]) else none) (if_pos rfl) (.inr ⟨_,vs.toArray,_,hk,rfl,rfl,rfl,by rw [List.size_toArray,lenV]; exact hl,by simpa using rv⟩) (fun b u z=>?_) (fun b z=>?_) (fun b hb=>.inl (if_neg hb)) fun b z=>?_
  ·by_cases hb : b = T
   ·have z':=(if_pos hb).symm.trans z
    cases z'
    subst hb
    exact hT
   ·have z':=(if_neg hb).symm.trans z
    cases z'
  ·by_cases hb : b = T
   ·exact .inr hb
   ·exact absurd (if_neg hb) z
  ·by_cases hb : b = T
   ·rw [hb]; exact hKT
   ·exact absurd (if_neg hb) z
 | none =>
  refine core (fun b=>if b = a then some (.frz { cls:=.type "list",data:=.seq vs.toArray } (.lst (ns.map V.int))) else if b = T then some (.tbl #[]) else none) (by rw [if_neg hTa,if_pos rfl]) (.inl (.inr ⟨{ cls:=.type "list",data:=.seq vs.toArray },if_pos rfl⟩)) (fun b u z=>?_) (fun b z=>?_) (fun b hb=>?_) fun b z=>?_
  ·by_cases hb : b = a
   ·have z':=(if_pos hb).symm.trans z
    cases z'
    subst hb
    exact ⟨ha,by rw [List.length_map]; exact hl,vs,_,rv,ha⟩
   ·have z':=(if_neg hb).symm.trans z
    by_cases hb2 : b = T
    ·have z2:=(if_pos hb2).symm.trans z'
     cases z2
     subst hb2
     exact hT
    ·have z2:=(if_neg hb2).symm.trans z'
     cases z2
  ·by_cases hb : b = a
   ·exact .inl hb
   ·by_cases hb2 : b = T
    ·exact .inr hb2
    ·exact absurd (by rw [if_neg hb,if_neg hb2]) z
  ·by_cases hba : b = a
   ·exact .inr ⟨_,_,if_pos hba⟩
   ·exact .inl (by rw [if_neg hba,if_neg hb])
  ·by_cases hb : b = a
   ·rw [hb]; exact hk
   ·by_cases hb2 : b = T
    ·rw [hb2]; exact hKT
    ·exact absurd (by rw [if_neg hb,if_neg hb2]) z
theorem zfz {l : PySem.W.OpenLaw} {n k : Nat} {q : Program} {loose : List Str} {XP : (Str->Option Value)->Heap->Prop} {YP : World->Heap->Prop} {d : DefRec} {K : Params->PySem.W.Frag} {sp : World->Sp} {x : Str} {c T : Addr}
  (hn : l.most = some n) (hn2 : n≤sizeLine) (hdf : d.params.defaults = []) (hr : Room k callerA)
  (hY : ∀ (w : World) (h : Heap),YP w h->(K w.params).In h) (hYT : ∀ (w : World) (h : Heap),YP w h->h.get? T = some (tabObj #[])) (hKT : ∀ w : World,(K w.params).lookup T = none) (hcT : ∀ w : World,codeHdIn (K w.params) c T = true)
  (F : ∀ (w : World) (mg : Str->Option Value) (fa : Addr) (h : Heap),(K w.params).In h->h.Ns mainGlobals mg->mg d.name = some (.ref fa) ->
   ∃ fd : FuncData,(∀ (s : Shared) (u : Value),BindsTo s fd ⟨[u],[]⟩ [(x,u)]) ∧
    ∀ base : Heap,(K w.params).In base->base.Ns mainGlobals mg->base.BuiltinsAt mg T->FnOk l.prog w (K w.params) mg base CX0 k fa fd [x] (sp w))
  (hsp : ∀ (w : World) (H : Hp) (a : Addr) (ns : List Int),ns.length≤n->H T = some (.tbl #[])->SqL (K w.params) H a (ns.map V.int)->sp w [.ref a] H (fun v _=>v = .bl true) fun _ _ _=>False) :
  PySem.W.WalkO q loose XP YP l.row.toRowW d [] (fun f vs=>PySem.call f vs):=by
 refine Att.J4 hn hdf fun w s₀ s₁ mg mb fa o pm cd doc a vs ns G Y ho hd hcd hmg hobj hints hlen hg=>?_
 have KX:=hY w _ Y
 obtain ⟨fd,hb,hF⟩:=F w mg fa _ KX G.T.g hmg
 exact zcq KX G.T.g G.T.b G.T.builtins G.T.nolimit hg G.T.bmain (hYT w _ Y) (hKT w) (hcT w) hobj hints (Nat.le_trans hlen hn2) hr hF hb (fun H hO hS=>hsp w H a ns hlen hO hS) fun H e s' h=>h
end L2
namespace Lw
def figs (b n : Nat) : List Int:=if h : 2≤b∧b≤n then figs b (n / b) ++ [((n % b : Nat) : Int)] else [(n : Int)]
termination_by n
decreasing_by exact Nat.div_lt_self (by omega) (by omega)
theorem uY {b n : Nat} (h : n < b) : figs b n = [(n : Int)]:=by
 rw [figs,dif_neg (by omega)]
theorem XH {b n : Nat} (h2 : 2≤b) (h : b≤n) : figs b n = figs b (n / b) ++ [((n % b : Nat) : Int)]:=by
 rw [figs,dif_pos ⟨h2,h⟩]
def ahead (b r : Nat) : List Int:=if r = 0 then [] else figs b r
theorem Qj {b n : Nat} (h2 : 2≤b) : figs b n = ahead b (n / b) ++ [((n % b : Nat) : Int)]:=by
 unfold ahead
 by_cases h : n < b
 ·rw [uY h,if_pos (Nat.div_eq_of_lt h),Nat.mod_eq_of_lt h]; rfl
 ·rw [XH h2 (by omega),if_neg]
  have:=Nat.div_pos (a:=n) (b:=b) (by omega) (by omega)
  omega
theorem za0 {b r : Nat} (h2 : 2≤b) (hr : 0 < r) : ahead b r = ahead b (r / b) ++ [((r % b : Nat) : Int)]:=by
 rw [← Qj h2]
 unfold ahead
 rw [if_neg (by omega)]
theorem j7 {b : Nat} (h2 : 2≤b) : ∀ (m n : Nat),n < 2 ^ m->(figs b n).length≤m + 1
 | 0,n,h=>by rw [uY (by simp at h; omega)]; simp
 | m + 1,n,h=>by
  by_cases hn : n < b
  ·rw [uY hn]; simp
  ·rw [XH h2 (by omega),List.length_append,List.length_singleton]
   have h3 : n / b≤n / 2:=Nat.div_le_div_left h2 (by omega)
   have h4 : n / 2 < 2 ^ m:=by rw [Nat.pow_succ] at h; omega
   have:=j7 h2 m (n / b) (by omega)
   omega
theorem zc9 {b : Nat} (h2 : 2≤b) : ∀ (n : Nat),∀ f ∈ figs b n,0≤f∧f < b:=by
 intro n
 induction n using Nat.strongRecOn with
 | _ n ih =>
  intro f hf
  by_cases hn : n < b
  ·rw [uY hn] at hf
   have : f = (n : Int):=by simpa using hf
   omega
  ·rw [XH h2 (by omega)] at hf
   rcases List.mem_append.mp hf with hf | hf
   ·exact ih (n / b) (Nat.div_lt_self (by omega) (by omega)) f hf
   ·have e : f = ((n % b : Nat) : Int):=by simpa using hf
    have:=Nat.mod_lt n (show 0 < b by omega)
    omega
theorem zdN {b n : Nat} : figs b n ≠ []:=by
 rw [figs]
 split
 ·simp
 ·simp
def tops (b : Nat) : Nat->Nat->List Int
 | 0,n=>[((n / b ^ 0 : Nat) : Int)]
 | k + 1,n=>((n / b ^ (k + 1) : Nat) : Int) :: tops b k (n % b ^ (k + 1))
theorem Qf {b : Nat} : ∀ (k n : Nat),tops b (k + 1) n = tops b k (n / b) ++ [((n % b : Nat) : Int)]
 | 0,n=>by simp [tops]
 | k + 1,n=>by
  rw [tops,Qf k (n % b ^ (k + 2)),tops,List.cons_append]
  have e : b ^ (k + 1 + 1) = b * b ^ (k + 1):=by rw [Nat.pow_succ,Nat.mul_comm]
  have e1 : n % b ^ (k + 1 + 1) / b = n / b % b ^ (k + 1):=by rw [e,Nat.mod_mul_right_div_self]
  have e2 : n % b ^ (k + 1 + 1) % b = n % b:=by rw [e,Nat.mod_mul_right_mod]
  have e3 : n / b ^ (k + 1 + 1) = n / b / b ^ (k + 1):=by rw [e,Nat.div_div_eq_div_mul]
  rw [e1,e2,e3]
theorem Yx {b : Nat} (h2 : 2≤b) : ∀ (k n : Nat),n < b ^ (k + 1)->(k = 0∨b ^ k≤n)->tops b k n = figs b n
 | 0,n,h,_=>by
  rw [uY (by simpa using h)]; simp [tops]
 | k + 1,n,h,hk=>by
  have hge : b ^ (k + 1)≤n:=by
   rcases hk with z | z
   ·omega
   ·exact z
  have hb : b≤n:=Nat.le_trans (by rw [Nat.pow_succ]; exact Nat.le_mul_of_pos_left b (Nat.pow_pos (by omega))) hge
  rw [Qf,XH h2 hb]
  have h3 : n / b < b ^ (k + 1):=by
   rw [Nat.div_lt_iff_lt_mul (by omega),← Nat.pow_succ]; exact h
  have h4 : b ^ k≤n / b:=by
   rw [Nat.le_div_iff_mul_le (by omega),← Nat.pow_succ]; exact hge
  rw [Yx h2 k (n / b) h3 (.inr h4)]
theorem zas {b : Nat} : ∀ (k n : Nat),(tops b k n).length = k + 1
 | 0,n=>rfl
 | k + 1,n=>by rw [tops,List.length_cons,zas k]
structure zf9 (b : Nat) (ns : List Int) : Prop where
 ne : ns ≠ []
 len : ns.length≤200
 fig : ∀ f ∈ ns,0≤f∧f < b
 first : ns.head? ≠ some 0∨ns.length = 1
def Vm (st fs : List Int) : Bool:=(List.range fs.length).any fun k=>decide ((fs.drop k).take st.length = st)
theorem ji {st fs : List Int} (h : st ≠ []) : Vm st fs = true ↔ ∃ k,(fs.drop k).take st.length = st:=by
 unfold Vm
 simp only [List.any_eq_true,List.mem_range,decide_eq_true_eq]
 constructor
 ·rintro ⟨k,_,e⟩; exact ⟨k,e⟩
 ·rintro ⟨k,e⟩
  refine ⟨k,?_,e⟩
  have hl:=congrArg List.length e
  rw [List.length_take,List.length_drop] at hl
  have : 0 < st.length:=List.length_pos_iff.mpr h
  omega
theorem zaV {st fs : List Int} (h : st ≠ []) : Vm st fs = (List.range ((fs.length : Int) - st.length + 1).toNat).any fun k=>decide ((fs.drop k).take st.length = st):=by
 rw [Bool.eq_iff_iff,ji h]
 simp only [List.any_eq_true,List.mem_range,decide_eq_true_eq]
 constructor
 ·rintro ⟨k,e⟩
  refine ⟨k,?_,e⟩
  have hl:=congrArg List.length e
  rw [List.length_take,List.length_drop] at hl
  have : 0 < st.length:=List.length_pos_iff.mpr h
  omega
 ·rintro ⟨k,_,e⟩; exact ⟨k,e⟩
def lacks (ls : List (List Int)) (fs : List Int) : Bool:=!ls.any fun st=>Vm st fs
theorem zcM {st fs gs : List Int} (h : st ≠ []) (q : Vm st fs = true) : Vm st (fs ++ gs) = true:=by
 rw [ji h] at q ⊢
 obtain ⟨k,e⟩:=q
 refine ⟨k,?_⟩
 have hl:=congrArg List.length e
 rw [List.length_take,List.length_drop] at hl
 have hp : 0 < st.length:=List.length_pos_iff.mpr h
 rw [List.drop_append_of_le_length (by omega),List.take_append_of_le_length (by rw [List.length_drop]; omega)]
 exact e
theorem Wd {ls : List (List Int)} {fs gs : List Int} (ne : ∀ l ∈ ls,l ≠ []) (h : lacks ls (fs ++ gs) = true) : lacks ls fs = true:=by
 unfold lacks at *
 rw [Bool.not_eq_true',List.any_eq_false] at h ⊢
 intro l hl q
 exact h l hl (zcM (ne l hl) q)
def ZK (ls : List (List Int)) (fs : List Int) : Bool:=ls.any fun st=>decide (st.take fs.length = fs)
def zR (ls : List (List Int)) : List Int->List Int
 | []=>[]
 | x :: fs=>if ZK ls (x :: fs) then x :: fs else zR ls fs
theorem ZZ {ls : List (List Int)} : ∀ (i : Nat) (fs : List Int),i≤fs.length->(∀ k,k < i->ZK ls (fs.drop k) = false)->zR ls fs = zR ls (fs.drop i)
 | 0,_,_,_=>rfl
 | i + 1,[],h,_=>by simp at h
 | i + 1,x :: fs,h,q=>by
  have h0:=q 0 (by omega)
  rw [List.drop_zero] at h0
  rw [zR,if_neg (by rw [h0]; decide),List.drop_succ_cons]
  exact ZZ i fs (by simpa using h) fun k hk=>by have:=q (k + 1) (by omega); rwa [List.drop_succ_cons] at this
theorem za9 {ls : List (List Int)} {fs : List Int} (h : ZK ls fs = true) : zR ls fs = fs:=by
 cases fs with
 | nil=>rfl
 | cons x fs=>rw [zR,if_pos h]
theorem zdf {ls : List (List Int)} {fs : List Int} {i : Nat} (hi : i≤fs.length) (h : ∀ k,k < i->ZK ls (fs.drop k) = false) (q : ZK ls (fs.drop i) = true) : zR ls fs = fs.drop i:=by
 rw [ZZ i fs hi h,za9 q]
theorem zay {ls : List (List Int)} {fs : List Int} (h : ∀ k,k < fs.length->ZK ls (fs.drop k) = false) : zR ls fs = []:=by
 rw [ZZ fs.length fs (Nat.le_refl _) h,List.drop_length]; rfl
def zeV (ls : List (List Int)) (x : List Int) : Prop:=x = []∨∃ st ∈ ls,∃ k,1≤k∧k < st.length∧x = st.take k∧lacks ls x = true
structure StandsL (ls : List (List Int)) (xs : List (List Int)) : Prop where
 mem : ∀ x,x ∈ xs ↔ zeV ls x
 up : xs.Pairwise fun x y=>HT.vh x y = true
theorem zde {ls : List (List Int)} (h : ∀ st ∈ ls,st.length≤4) {x : List Int} (q : zeV ls x) : x.length≤3:=by
 rcases q with rfl | ⟨st,hst,k,h1,h2,rfl,_⟩
 ·decide
 ·have:=h st hst
  rw [List.length_take]; omega
theorem zb6 {ls : List (List Int)} {y : List Int} {x : Int} (h : ZK ls (y ++ [x]) = true) : ZK ls y = true:=by
 unfold ZK at *
 rw [List.any_eq_true] at h ⊢
 obtain ⟨st,hst,q⟩:=h
 refine ⟨st,hst,decide_eq_true ?_⟩
 have q:=of_decide_eq_true q
 have e:=congrArg (List.take y.length) q
 rw [List.take_left,List.take_take,List.length_append] at e
 rw [Nat.min_eq_left (by omega)] at e
 exact e
theorem Zt {ls : List (List Int)} : ∀ fs : List Int,∃ j,j≤fs.length∧zR ls fs = fs.drop j∧(∀ k,k < j->ZK ls (fs.drop k) = false)∧(j < fs.length->ZK ls (fs.drop j) = true)
 | []=>⟨0,Nat.le_refl _,rfl,fun k hk=>by omega,fun h=>by simp at h⟩
 | x :: fs=>by
  by_cases h : ZK ls (x :: fs) = true
  ·exact ⟨0,Nat.zero_le _,by rw [zR,if_pos h]; rfl,fun k hk=>by omega,fun _=>h⟩
  ·obtain ⟨j,h1,h2,h3,h4⟩:=Zt (ls:=ls) fs
   refine ⟨j + 1,by rw [List.length_cons]; omega,by rw [zR,if_neg h,h2,List.drop_succ_cons],fun k hk=>?_,fun hj=>by rw [List.drop_succ_cons]; exact h4 (by rw [List.length_cons] at hj; omega)⟩
   cases k with
   | zero=>rw [List.drop_zero]; simpa using h
   | succ k=>rw [List.drop_succ_cons]; exact h3 k (by omega)
theorem jo {ls : List (List Int)} (fs : List Int) (x : Int) : zR ls (zR ls fs ++ [x]) = zR ls (fs ++ [x]):=by
 obtain ⟨j,h1,h2,h3,_⟩:=Zt (ls:=ls) fs
 rw [h2,ZZ j (fs ++ [x]) (by rw [List.length_append]; omega) (fun k hk=>?_),List.drop_append_of_le_length h1]
 rw [List.drop_append_of_le_length (by omega)]
 cases e : ZK ls (fs.drop k ++ [x]) with
 | false=>rfl
 | true=>rw [← h3 k hk,zb6 e]
theorem zbI {st fs : List Int} (ne : st ≠ []) {j : Nat} (h : Vm st (fs.drop j) = true) : Vm st fs = true:=by
 rw [ji ne] at h ⊢
 obtain ⟨k,e⟩:=h
 exact ⟨j + k,by rw [← List.drop_drop]; exact e⟩
theorem V5 {ls : List (List Int)} (ne : ∀ l ∈ ls,l ≠ []) {fs : List Int} (j : Nat) (h : lacks ls fs = true) : lacks ls (fs.drop j) = true:=by
 unfold lacks at *
 rw [Bool.not_eq_true',List.any_eq_false] at h ⊢
 intro st hst q
 exact h st hst (zbI (ne st hst) q)
theorem qW {ls : List (List Int)} (ne : ∀ l ∈ ls,l ≠ []) {fs : List Int} (x : Int) (h : lacks ls fs = true) : lacks ls (zR ls fs ++ [x]) = lacks ls (fs ++ [x]):=by
 obtain ⟨j,h1,h2,h3,_⟩:=Zt (ls:=ls) fs
 rw [h2,← List.drop_append_of_le_length h1]
 rw [Bool.eq_iff_iff]
 constructor
 ·intro q
  unfold lacks at *
  rw [Bool.not_eq_true',List.any_eq_false] at h q ⊢
  intro st hst hs
  rw [ji (ne st hst)] at hs
  obtain ⟨k,e⟩:=hs
  have hp : 0 < st.length:=List.length_pos_iff.mpr (ne st hst)
  have hl:=congrArg List.length e
  rw [List.length_take,List.length_drop,List.length_append,List.length_singleton] at hl
  by_cases hin : k + st.length≤fs.length
  ·refine h st hst ((ji (ne st hst)).mpr ⟨k,?_⟩)
   rw [List.drop_append_of_le_length (by omega),List.take_append_of_le_length (by rw [List.length_drop]; omega)] at e
   exact e
  ·have hk : k + st.length = fs.length + 1:=by omega
   rw [List.take_of_length_le (by rw [List.length_drop,List.length_append,List.length_singleton]; omega)] at e
   by_cases hkj : j≤k
   ·refine q st hst ((ji (ne st hst)).mpr ⟨k - j,?_⟩)
    rw [List.drop_drop,show j + (k - j) = k by omega,e,List.take_of_length_le (Nat.le_refl _)]
   ·have h3k:=h3 k (by omega)
    rw [List.drop_append_of_le_length (by omega)] at e
    unfold ZK at h3k
    rw [List.any_eq_false] at h3k
    refine h3k st hst (decide_eq_true ?_)
    rw [← e,List.take_left]
 ·intro q
  exact V5 ne j q
theorem ZS {ls : List (List Int)} (ne : ∀ l ∈ ls,l ≠ []) {fs : List Int} (h : lacks ls fs = true) : zeV ls (zR ls fs):=by
 obtain ⟨j,h1,h2,_,h4⟩:=Zt (ls:=ls) fs
 rw [h2]
 by_cases hj : j < fs.length
 ·have q:=h4 hj
  unfold ZK at q
  rw [List.any_eq_true] at q
  obtain ⟨st,hst,q⟩:=q
  have q:=of_decide_eq_true q
  have hl:=congrArg List.length q
  rw [List.length_take] at hl
  have hlen : (fs.drop j).length = fs.length - j:=List.length_drop ..
  have hlk:=V5 ne j h
  refine .inr ⟨st,hst,(fs.drop j).length,by omega,?_,q.symm,hlk⟩
  by_cases hlt : (fs.drop j).length < st.length
  ·exact hlt
  ·exfalso
   have hle : st.length≤(fs.drop j).length:=by omega
   rw [List.take_of_length_le hle] at q
   unfold lacks at hlk
   rw [Bool.not_eq_true',List.any_eq_false] at hlk
   refine hlk st hst ((ji (ne st hst)).mpr ⟨0,?_⟩)
   rw [List.drop_zero,← q,List.take_of_length_le (Nat.le_refl _)]
 ·left
  exact List.drop_of_length_le (by omega)
theorem StandsL.first {ls xs : List (List Int)} (a : StandsL ls xs) : ∃ r,xs = [] :: r:=by
 have h0 : ([] : List Int) ∈ xs:=(a.mem []).mpr (.inl rfl)
 cases xs with
 | nil=>cases h0
 | cons x r =>
  rcases List.mem_cons.mp h0 with e | e
  ·exact ⟨r,by rw [e]⟩
  ·have:=(List.pairwise_cons.mp a.up).1 [] e
   unfold HT.vh at this
   by_cases hl : x.length = ([] : List Int).length
   ·have : x = []:=List.eq_nil_of_length_eq_zero hl
    exact ⟨r,by rw [this]⟩
   ·rw [if_neg hl] at this
    have:=of_decide_eq_true this
    simp at this
def cnt (ls : List (List Int)) (b : Nat) : Nat->List Int->Nat
 | 0,_=>1
 | t + 1,x=>((List.range b).map fun (c : Nat)=>if lacks ls (x ++ [(c : Int)]) = true then cnt ls b t (zR ls (x ++ [(c : Int)])) else 0).sum
def xT (b : Nat) : Nat->Nat->List Int
 | 0,_=>[]
 | t + 1,r=>((r / b ^ t : Nat) : Int) :: xT b t (r % b ^ t)
def many (p : Nat->Bool) : Nat->Nat
 | 0=>0
 | n + 1=>many p n + (if p n = true then 1 else 0)
theorem vR {p q : Nat->Bool} : ∀ {N : Nat},(∀ n,n < N->p n = q n)->many p N = many q N
 | 0,_=>rfl
 | N + 1,h=>by rw [many,many,vR (N:=N) fun n hn=>h n (by omega),h N (by omega)]
theorem YF {p : Nat->Bool} : ∀ {N : Nat},(∀ n,n < N->p n = false)->many p N = 0
 | 0,_=>rfl
 | N + 1,h=>by rw [many,YF (N:=N) fun n hn=>h n (by omega),h N (by omega)]; rfl
theorem XJ (p : Nat->Bool) (A : Nat) : ∀ B : Nat,many p (A + B) = many p A + many (fun n=>p (A + n)) B
 | 0=>rfl
 | B + 1=>by rw [← Nat.add_assoc,many,many,XJ p A B,Nat.add_assoc]
theorem Vx (p : Nat->Bool) (B : Nat) : ∀ A : Nat,many p (A * B) = ((List.range A).map fun c=>many (fun r=>p (c * B + r)) B).sum
 | 0=>by simp [many]
 | A + 1=>by
  rw [Nat.succ_mul,XJ,Vx p B A,List.range_succ,List.map_append,List.sum_append]
  simp
theorem Qd (p : Nat->Bool) {A B : Nat} (h : A≤B) : many p A≤many p B:=by
 obtain ⟨k,rfl⟩:=Nat.exists_eq_add_of_le h
 rw [XJ]; omega
theorem zd1 (p : Nat->Bool) {A B : Nat} (h : A < B) (q : p A = true) : many p A < many p B:=by
 have e : many p (A + 1) = many p A + 1:=by rw [many,if_pos q]
 have:=Qd p (A:=A + 1) (B:=B) h
 omega
theorem uq {b t c r : Nat} (hr : r < b ^ t) : xT b (t + 1) (c * b ^ t + r) = (c : Int) :: xT b t r:=by
 have h0 : 0 < b ^ t:=by omega
 rw [xT,Nat.add_comm,Nat.add_mul_div_right _ _ h0,Nat.div_eq_of_lt hr,Nat.zero_add,Nat.add_mul_mod_self_right,Nat.mod_eq_of_lt hr]
theorem tD {f g : Nat->Nat} : ∀ {N : Nat},(∀ c,c < N->f c = g c)->((List.range N).map f).sum = ((List.range N).map g).sum:=by
 intro N h
 congr 1
 apply List.map_congr_left
 intro c hc
 exact h c (List.mem_range.mp hc)
theorem Ui {ls : List (List Int)} (ne : ∀ l ∈ ls,l ≠ []) {b t : Nat} (ih : ∀ x,lacks ls x = true->many (fun r=>lacks ls (x ++ xT b t r)) (b ^ t) = cnt ls b t (zR ls x)) {x : List Int} (c : Nat) :
  many (fun r=>lacks ls (x ++ xT b (t + 1) (c * b ^ t + r))) (b ^ t) = if lacks ls (x ++ [(c : Int)]) = true then cnt ls b t (zR ls (x ++ [(c : Int)])) else 0:=by
 have e1 : many (fun r=>lacks ls (x ++ xT b (t + 1) (c * b ^ t + r))) (b ^ t) = many (fun r=>lacks ls (x ++ [(c : Int)] ++ xT b t r)) (b ^ t):=by
  apply vR
  intro r hr
  show lacks ls _ = lacks ls _
  rw [uq hr,List.append_assoc]
  rfl
 rw [e1]
 by_cases h : lacks ls (x ++ [(c : Int)]) = true
 ·rw [if_pos h,ih _ h]
 ·rw [if_neg h]
  apply YF
  intro r _
  cases hc : lacks ls (x ++ [(c : Int)] ++ xT b t r) with
  | false=>rfl
  | true=>exact absurd (Wd ne hc) h
theorem Ve {ls : List (List Int)} (ne : ∀ l ∈ ls,l ≠ []) {b : Nat} : ∀ (t : Nat) (x : List Int),lacks ls x = true->many (fun r=>lacks ls (x ++ xT b t r)) (b ^ t) = cnt ls b t (zR ls x)
 | 0,x,h=>by
  rw [Nat.pow_zero,many,many,cnt,xT,List.append_nil,if_pos h]
 | t + 1,x,h=>by
  rw [Nat.pow_succ',Vx,cnt]
  apply tD
  intro c _
  rw [Ui ne (Ve ne t),qW ne _ h,jo]
def gd (ls : List (List Int)) (b n : Nat) : Bool:=lacks ls (figs b n)
theorem Vu {b : Nat} : ∀ (t n : Nat),xT b (t + 1) n = tops b t n
 | 0,n=>by simp [xT,tops]
 | t + 1,n=>by rw [xT,Vu t,tops]
theorem Vv {b t c r : Nat} (h2 : 2≤b) (h1 : 1≤c) (hc : c < b) (hr : r < b ^ t) : figs b (c * b ^ t + r) = (c : Int) :: xT b t r:=by
 rw [← uq hr,Vu]
 refine (Yx h2 t _ ?_ (.inr ?_)).symm
 ·rw [Nat.pow_succ']
  have : (c + 1) * b ^ t≤b * b ^ t:=Nat.mul_le_mul_right _ hc
  rw [Nat.succ_mul] at this
  omega
 ·have : 1 * b ^ t≤c * b ^ t:=Nat.mul_le_mul_right _ h1
  omega
def qt (ls : List (List Int)) (b : Nat) : Nat->Nat
 | 0=>if lacks ls [0] = true then 1 else 0
 | t + 1=>((List.range b).map fun (c : Nat)=>if c = 0 then qt ls b t else if lacks ls [(c : Int)] = true then cnt ls b t (zR ls [(c : Int)]) else 0).sum
theorem U6 {ls : List (List Int)} (ne : ∀ l ∈ ls,l ≠ []) {b t c : Nat} (h2 : 2≤b) (h1 : 1≤c) (hc : c < b) : many (fun r=>gd ls b (c * b ^ t + r)) (b ^ t) = if lacks ls [(c : Int)] = true then cnt ls b t (zR ls [(c : Int)]) else 0:=by
 have e:=Ui (x:=[]) ne (b:=b) (t:=t) (Ve ne t) c
 rw [List.nil_append] at e
 rw [← e]
 apply vR
 intro r hr
 show gd ls b _ = lacks ls _
 rw [gd,Vv h2 h1 hc hr,List.nil_append,uq hr]
theorem Ww {ls : List (List Int)} (ne : ∀ l ∈ ls,l ≠ []) {b : Nat} (h2 : 2≤b) : ∀ t : Nat,qt ls b t = many (gd ls b) (b ^ t)
 | 0=>by
  rw [Nat.pow_zero,many,many,qt,Nat.zero_add]
  unfold gd
  rw [uY (show 0 < b by omega)]
  rfl
 | t + 1=>by
  rw [Nat.pow_succ',Vx,qt]
  apply tD
  intro c hc
  by_cases h0 : c = 0
  ·subst h0
   rw [if_pos rfl,Ww ne h2 t]
   apply vR
   intro r _
   rw [Nat.zero_mul,Nat.zero_add]
  ·rw [if_neg h0,U6 ne h2 (by omega) hc]
theorem Wv {b n k : Nat} (h2 : 2≤b) (hn : n < b ^ (k + 1)) (h : k = 0∨b ^ k≤n) : (figs b n).length = k + 1:=by
 rw [← Yx h2 k n hn h,zas]
theorem zbC {b : Nat} (h2 : 2≤b) (n : Nat) : ∃ k,n < b ^ (k + 1)∧(k = 0∨b ^ k≤n):=by
 have key : ∀ K : Nat,n < b ^ (K + 1)->∃ k,n < b ^ (k + 1)∧(k = 0∨b ^ k≤n):=by
  intro K
  induction K with
  | zero=>intro h; exact ⟨0,h,.inl rfl⟩
  | succ K ih =>
   intro h
   by_cases q : n < b ^ (K + 1)
   ·exact ih q
   ·exact ⟨K + 1,h,.inr (by omega)⟩
 refine key n ?_
 have : n < 2 ^ n:=Nat.lt_two_pow_self
 have h3 : 2 ^ n≤b ^ n:=Nat.pow_le_pow_left h2 n
 have h4 : b ^ n≤b ^ (n + 1):=Nat.pow_le_pow_right (by omega) (Nat.le_succ n)
 omega
theorem JH {b n k : Nat} (h2 : 2≤b) : (figs b n).length = k + 1 ↔ n < b ^ (k + 1)∧(k = 0∨b ^ k≤n):=by
 refine ⟨fun h=>?_,fun h=>Wv h2 h.1 h.2⟩
 obtain ⟨m,h1,h3⟩:=zbC h2 n
 have e:=Wv h2 h1 h3
 rw [h] at e
 obtain rfl : k = m:=by omega
 exact ⟨h1,h3⟩
def jH (ls : List (List Int)) (b t : Nat) : Option (List Int)->Nat->Nat
 | some x,c=>if lacks ls (x ++ [(c : Int)]) = true then cnt ls b t (zR ls (x ++ [(c : Int)])) else 0
 | none,c=>if c = 0 then qt ls b t else if lacks ls [(c : Int)] = true then cnt ls b t (zR ls [(c : Int)]) else 0
def under (ls : List (List Int)) (b t : Nat) (o : Option (List Int)) (s : Nat) : Nat:=((List.range s).map (jH ls b t o)).sum
theorem zaH (ls : List (List Int)) (b t : Nat) (o : Option (List Int)) : under ls b t o 0 = 0:=rfl
theorem Y7 (ls : List (List Int)) (b t : Nat) (o : Option (List Int)) (s : Nat) : under ls b t o (s + 1) = under ls b t o s + jH ls b t o s:=by
 unfold under
 rw [List.range_succ,List.map_append,List.sum_append]
 simp
def Rep (ls : List (List Int)) (b m : Nat) (o : Option (List Int)) : Prop:=(m = 0∧o = none)∨(1≤m∧gd ls b m = true∧o = some (zR ls (figs b m)))
theorem uT {b m c : Nat} (h2 : 2≤b) (h1 : 1≤m) (hc : c < b) : figs b (m * b + c) = figs b m ++ [(c : Int)]:=by
 have hge : b≤m * b + c:=by
  have : 1 * b≤m * b:=Nat.mul_le_mul_right b h1
  omega
 rw [XH h2 hge]
 have e1 : (m * b + c) / b = m:=by rw [Nat.add_comm,Nat.add_mul_div_right _ _ (by omega),Nat.div_eq_of_lt hc,Nat.zero_add]
 have e2 : (m * b + c) % b = c:=by rw [Nat.add_comm,Nat.add_mul_mod_self_right,Nat.mod_eq_of_lt hc]
 rw [e1,e2]
theorem JR {b m c : Nat} (h2 : 2≤b) (h1 : 1≤m) : 1≤m * b + c:=by
 have : 1 * b≤m * b:=Nat.mul_le_mul_right b h1
 omega
theorem Yy {b m : Nat} (h2 : 2≤b) (h1 : 1≤m) : ∀ (t r : Nat),r < b ^ t->figs b (m * b ^ t + r) = figs b m ++ xT b t r
 | 0,r,hr=>by
  have : r = 0:=by rw [Nat.pow_zero] at hr; omega
  subst this
  rw [Nat.pow_zero,Nat.mul_one,Nat.add_zero,xT,List.append_nil]
 | t + 1,r,hr=>by
  have hp : 0 < b ^ t:=Nat.pow_pos (by omega)
  have hc : r / b ^ t < b:=by
   rw [Nat.div_lt_iff_lt_mul hp]
   rw [Nat.pow_succ',] at hr
   exact hr
  have hm : r % b ^ t < b ^ t:=Nat.mod_lt _ hp
  have e : m * b ^ (t + 1) + r = (m * b + r / b ^ t) * b ^ t + r % b ^ t:=by
   have h:=Nat.div_add_mod r (b ^ t)
   rw [Nat.pow_succ',Nat.add_mul,Nat.mul_assoc,Nat.add_assoc,Nat.mul_comm (r / b ^ t),h]
  have h1' : 1≤m * b + r / b ^ t:=JR h2 h1
  rw [e,Yy h2 h1' t _ hm,uT h2 h1 hc,xT,List.append_assoc]
  rfl
theorem zaZ {ls : List (List Int)} (ne : ∀ l ∈ ls,l ≠ []) {b m : Nat} {o : Option (List Int)} (h2 : 2≤b) (R : Rep ls b m o) (t : Nat) {c : Nat} (hc : c < b) : jH ls b t o c = many (fun r=>gd ls b ((m * b + c) * b ^ t + r)) (b ^ t):=by
 rcases R with ⟨rfl,rfl⟩ | ⟨h1,hg,rfl⟩
 ·rw [Nat.zero_mul,Nat.zero_add]
  show (if c = 0 then _ else _) = _
  by_cases h0 : c = 0
  ·subst h0
   rw [if_pos rfl,Ww ne h2]
   apply vR
   intro r _
   rw [Nat.zero_mul,Nat.zero_add]
  ·rw [if_neg h0,U6 ne h2 (by omega) hc]
 ·have e:=Ui (x:=figs b m) ne (b:=b) (t:=t) (Ve ne t) c
  show (if lacks ls (zR ls (figs b m) ++ [(c : Int)]) = true then cnt ls b t (zR ls (zR ls (figs b m) ++ [(c : Int)])) else 0) = _
  rw [qW ne _ hg,jo,← e]
  apply vR
  intro r hr
  show lacks ls _ = gd ls b _
  rw [gd,Yy h2 (JR h2 h1) t r hr,uT h2 h1 hc,uq hr,List.append_assoc]
  rfl
theorem Rep.step {ls : List (List Int)} (ne : ∀ l ∈ ls,l ≠ []) {b m : Nat} {o : Option (List Int)} (h2 : 2≤b) (R : Rep ls b m o) {c : Nat} (hc : c < b) :
  (o = none∧c = 0∧Rep ls b (m * b + c) none)∨(¬ (o = none∧c = 0)∧((lacks ls (o.getD [] ++ [(c : Int)]) = true∧Rep ls b (m * b + c) (some (zR ls (o.getD [] ++ [(c : Int)]))))∨(lacks ls (o.getD [] ++ [(c : Int)]) = false∧1≤m * b + c∧gd ls b (m * b + c) = false))):=by
 rcases R with ⟨rfl,rfl⟩ | ⟨h1,hg,rfl⟩
 ·by_cases h0 : c = 0
  ·left; exact ⟨rfl,h0,.inl ⟨by rw [h0]; omega,rfl⟩⟩
  ·right
   refine ⟨fun z=>h0 z.2,?_⟩
   rw [Nat.zero_mul,Nat.zero_add]
   show (lacks ls [(c : Int)] = true∧_)∨(lacks ls [(c : Int)] = false∧_)
   have eg : gd ls b c = lacks ls [(c : Int)]:=by unfold gd; rw [uY hc]
   cases hl : lacks ls [(c : Int)] with
   | true=>left; exact ⟨rfl,.inr ⟨by omega,by rw [eg]; exact hl,by rw [uY hc]; rfl⟩⟩
   | false=>right; exact ⟨rfl,by omega,by rw [eg]; exact hl⟩
 ·right
  refine ⟨fun z=>(nomatch z.1),?_⟩
  have hm : 1≤m * b + c:=JR h2 h1
  show (lacks ls (zR ls (figs b m) ++ [(c : Int)]) = true∧Rep ls b (m * b + c) (some (zR ls (zR ls (figs b m) ++ [(c : Int)]))))∨(lacks ls (zR ls (figs b m) ++ [(c : Int)]) = false∧_)
  rw [qW ne _ hg,jo]
  have eg : gd ls b (m * b + c) = lacks ls (figs b m ++ [(c : Int)]):=by unfold gd; rw [uT h2 h1 hc]
  cases hl : lacks ls (figs b m ++ [(c : Int)]) with
  | true=>left; exact ⟨rfl,.inr ⟨hm,by rw [eg]; exact hl,by rw [uT h2 h1 hc]⟩⟩
  | false=>right; exact ⟨rfl,hm,by rw [eg]; exact hl⟩
theorem zfh {ls : List (List Int)} (ne : ∀ l ∈ ls,l ≠ []) {b m : Nat} (h2 : 2≤b) (h1 : 1≤m) (hg : gd ls b m = false) (t : Nat) {r : Nat} (hr : r≤b ^ t) : many (gd ls b) (m * b ^ t + r) = many (gd ls b) (m * b ^ t):=by
 rw [XJ,YF (N:=r)]
 ·omega
 intro k hk
 show gd ls b _ = false
 cases hc : gd ls b (m * b ^ t + k) with
 | false=>rfl
 | true =>
  unfold gd at hc hg
  rw [Yy h2 h1 t k (by omega)] at hc
  rw [Wd ne hc] at hg
  cases hg
theorem zaj {b : Nat} : ∀ {t n k : Nat},k < t->n < b ^ t->(xT b t n)[k]? = some (((n / b ^ (t - 1 - k)) % b : Nat) : Int)
 | 0,_,_,hk,_=>by omega
 | t + 1,n,0,_,hn=>by
  have : n / b ^ t < b:=by
   rw [Nat.pow_succ'] at hn
   rcases Nat.eq_zero_or_pos (b ^ t) with h | h
   ·rw [h] at hn; omega
   ·rw [Nat.div_lt_iff_lt_mul h]; exact hn
  rw [xT,List.getElem?_cons_zero,show t + 1 - 1 - 0 = t by omega,Nat.mod_eq_of_lt this]
 | t + 1,n,k + 1,hk,hn=>by
  have hb : 0 < b:=by
   rcases Nat.eq_zero_or_pos b with h | h
   ·subst h; rw [Nat.zero_pow (by omega)] at hn; omega
   ·exact h
  rw [xT,List.getElem?_cons_succ,zaj (by omega) (Nat.mod_lt _ (Nat.pow_pos hb))]
  have e : t + 1 - 1 - (k + 1) = t - 1 - k:=by omega
  rw [e]
  generalize hj : t - 1 - k = j
  obtain ⟨q,hq⟩ : ∃ q,t = j + (q + 1):=⟨t - j - 1,by omega⟩
  rw [hq,Nat.pow_add,Nat.mod_mul_right_div_self,Nat.pow_succ',Nat.mod_mul_right_mod]
theorem zcF {b n N k : Nat} (h2 : 2≤b) (hN : (figs b n).length = N) (hk : k < N) : (figs b n)[k]? = some (((n / b ^ (N - 1 - k)) % b : Nat) : Int):=by
 obtain ⟨K,rfl⟩ : ∃ K,N = K + 1:=⟨N - 1,by omega⟩
 obtain ⟨h1,h3⟩:=(JH h2).mp hN
 rw [← Yx h2 K n h1 h3,← Vu]
 exact zaj hk h1
theorem zao {b n N : Nat} (h2 : 2≤b) (hN : (figs b n).length = N) : n < b ^ N:=by
 cases N with
 | zero=>exact absurd (List.length_eq_zero_iff.mp hN) zdN
 | succ K=>exact ((JH h2).mp hN).1
theorem zcP {b n t : Nat} (hb : 0 < b) : n / b ^ t = n / b ^ (t + 1) * b + (n / b ^ t) % b:=by
 have h:=Nat.div_add_mod (n / b ^ t) b
 rw [Nat.div_div_eq_div_mul,← Nat.pow_succ,Nat.mul_comm] at h
 exact h.symm
def wsum (w : Nat->Nat) (sc : Nat) : List Int->Nat
 | []=>0
 | c :: l=>sc ^ l.length * w c.toNat + wsum w sc l
def tot (p : Nat->Bool) (f : Nat->Nat) : Nat->Nat
 | 0=>0
 | n + 1=>tot p f n + (if p n = true then f n else 0)
theorem qO {p q : Nat->Bool} {f g : Nat->Nat} : ∀ {N : Nat},(∀ n,n < N->p n = q n)->(∀ n,n < N->f n = g n)->tot p f N = tot q g N
 | 0,_,_=>rfl
 | N + 1,h,k=>by rw [tot,tot,qO (N:=N) (fun n hn=>h n (by omega)) (fun n hn=>k n (by omega)),h N (by omega),k N (by omega)]
theorem VP {p : Nat->Bool} {f : Nat->Nat} : ∀ {N : Nat},(∀ n,n < N->p n = false)->tot p f N = 0
 | 0,_=>rfl
 | N + 1,h=>by rw [tot,VP (N:=N) fun n hn=>h n (by omega),h N (by omega)]; rfl
theorem W9 (p : Nat->Bool) (f : Nat->Nat) (A : Nat) : ∀ B : Nat,tot p f (A + B) = tot p f A + tot (fun n=>p (A + n)) (fun n=>f (A + n)) B
 | 0=>rfl
 | B + 1=>by rw [← Nat.add_assoc,tot,tot,W9 p f A B,Nat.add_assoc]
theorem QZ (p : Nat->Bool) (f : Nat->Nat) (B : Nat) : ∀ A : Nat,tot p f (A * B) = ((List.range A).map fun c=>tot (fun r=>p (c * B + r)) (fun r=>f (c * B + r)) B).sum
 | 0=>by simp [tot]
 | A + 1=>by
  rw [Nat.succ_mul,W9,QZ p f B A,List.range_succ,List.map_append,List.sum_append]
  simp
theorem Vi (p : Nat->Bool) (f : Nat->Nat) (a : Nat) : ∀ N : Nat,tot p (fun n=>a + f n) N = a * many p N + tot p f N
 | 0=>by simp [tot,many]
 | N + 1=>by
  rw [tot,tot,many,Vi p f a N]
  by_cases h : p N = true
  ·rw [if_pos h,if_pos h,if_pos h,Nat.mul_add]; omega
  ·rw [if_neg h,if_neg h,if_neg h,Nat.add_zero,Nat.add_zero,Nat.add_zero]
theorem Vf (b : Nat) : ∀ t r : Nat,(xT b t r).length = t
 | 0,_=>rfl
 | t + 1,r=>by rw [xT,List.length_cons,Vf b t]
def tt (ls : List (List Int)) (b : Nat) (w : Nat->Nat) (sc : Nat) : Nat->List Int->Nat
 | 0,_=>0
 | t + 1,x=>((List.range b).map fun (c : Nat)=>if lacks ls (x ++ [(c : Int)]) = true then sc ^ t * w c * cnt ls b t (zR ls (x ++ [(c : Int)])) + tt ls b w sc t (zR ls (x ++ [(c : Int)])) else 0).sum
def ttO (ls : List (List Int)) (b : Nat) (w : Nat->Nat) (sc : Nat) : Nat->Nat
 | 0=>w 0 * qt ls b 0
 | t + 1=>((List.range b).map fun (c : Nat)=>if c = 0 then ttO ls b w sc t else if lacks ls [(c : Int)] = true then sc ^ t * w c * cnt ls b t (zR ls [(c : Int)]) + tt ls b w sc t (zR ls [(c : Int)]) else 0).sum
theorem Jo {ls : List (List Int)} (ne : ∀ l ∈ ls,l ≠ []) {b t sc : Nat} {w : Nat->Nat} (ih : ∀ x,lacks ls x = true->tot (fun r=>lacks ls (x ++ xT b t r)) (fun r=>wsum w sc (xT b t r)) (b ^ t) = tt ls b w sc t (zR ls x)) {x : List Int} (c : Nat) :
  tot (fun r=>lacks ls (x ++ xT b (t + 1) (c * b ^ t + r))) (fun r=>wsum w sc (xT b (t + 1) (c * b ^ t + r))) (b ^ t) = if lacks ls (x ++ [(c : Int)]) = true then sc ^ t * w c * cnt ls b t (zR ls (x ++ [(c : Int)])) + tt ls b w sc t (zR ls (x ++ [(c : Int)])) else 0:=by
 have e1 : tot (fun r=>lacks ls (x ++ xT b (t + 1) (c * b ^ t + r))) (fun r=>wsum w sc (xT b (t + 1) (c * b ^ t + r))) (b ^ t) = tot (fun r=>lacks ls (x ++ [(c : Int)] ++ xT b t r)) (fun r=>sc ^ t * w c + wsum w sc (xT b t r)) (b ^ t):=by
  apply qO
  ·intro r hr
   show lacks ls _ = lacks ls _
   rw [uq hr,List.append_assoc]
   rfl
  ·intro r hr
   show wsum w sc _ = _
   rw [uq hr,wsum,Vf]
   rfl
 rw [e1,Vi]
 by_cases h : lacks ls (x ++ [(c : Int)]) = true
 ·rw [if_pos h,ih _ h,Ve ne t _ h]
 ·rw [if_neg h]
  have hn : ∀ r,r < b ^ t->lacks ls (x ++ [(c : Int)] ++ xT b t r) = false:=by
   intro r _
   cases hc : lacks ls (x ++ [(c : Int)] ++ xT b t r) with
   | false=>rfl
   | true=>exact absurd (Wd ne hc) h
  rw [YF hn,VP hn]
  simp
theorem zbb {ls : List (List Int)} (ne : ∀ l ∈ ls,l ≠ []) {b sc : Nat} {w : Nat->Nat} : ∀ (t : Nat) (x : List Int),lacks ls x = true->tot (fun r=>lacks ls (x ++ xT b t r)) (fun r=>wsum w sc (xT b t r)) (b ^ t) = tt ls b w sc t (zR ls x)
 | 0,x,h=>by
  rw [Nat.pow_zero,tot,tot,tt,xT,wsum]
  simp
 | t + 1,x,h=>by
  rw [Nat.pow_succ',QZ,tt]
  apply tD
  intro c _
  rw [Jo ne (zbb ne t),qW ne _ h,jo]
theorem zaf {ls : List (List Int)} (ne : ∀ l ∈ ls,l ≠ []) {b t c sc : Nat} {w : Nat->Nat} (h2 : 2≤b) (h1 : 1≤c) (hc : c < b) : tot (fun r=>gd ls b (c * b ^ t + r)) (fun r=>wsum w sc (figs b (c * b ^ t + r))) (b ^ t) = if lacks ls [(c : Int)] = true then sc ^ t * w c * cnt ls b t (zR ls [(c : Int)]) + tt ls b w sc t (zR ls [(c : Int)]) else 0:=by
 have e:=Jo (x:=[]) ne (b:=b) (t:=t) (w:=w) (sc:=sc) (zbb ne t) c
 rw [List.nil_append] at e
 rw [← e]
 apply qO
 ·intro r hr
  show gd ls b _ = lacks ls _
  rw [gd,Vv h2 h1 hc hr,List.nil_append,uq hr]
 ·intro r hr
  show wsum w sc _ = wsum w sc _
  rw [Vv h2 h1 hc hr,uq hr]
theorem zbu {ls : List (List Int)} (ne : ∀ l ∈ ls,l ≠ []) {b sc : Nat} {w : Nat->Nat} (h2 : 2≤b) : ∀ t : Nat,ttO ls b w sc t = tot (gd ls b) (fun n=>wsum w sc (figs b n)) (b ^ t)
 | 0=>by
  rw [Nat.pow_zero,tot,tot,ttO,Nat.zero_add]
  unfold gd
  rw [uY (show 0 < b by omega),qt]
  show w 0 * (if lacks ls [0] = true then 1 else 0) = if lacks ls [0] = true then wsum w sc [0] else 0
  split <;> simp [wsum]
 | t + 1=>by
  rw [Nat.pow_succ',QZ,ttO]
  apply tD
  intro c hc
  by_cases h0 : c = 0
  ·subst h0
   rw [if_pos rfl,zbu ne h2 t]
   apply qO <;> intro r _ <;> simp
  ·rw [if_neg h0,zaf ne h2 (by omega) hc]
theorem wsum_snoc (w : Nat->Nat) (sc : Nat) (c : Int) : ∀ l : List Int,wsum w sc (l ++ [c]) = sc * wsum w sc l + w c.toNat
 | []=>by simp [wsum]
 | d :: l=>by
  rw [List.cons_append,wsum,wsum,wsum_snoc w sc c l,List.length_append,List.length_singleton,Nat.pow_succ',Nat.mul_add,Nat.mul_assoc]
  omega
theorem zdu {p : Nat->Bool} {f : Nat->Nat} {A B : Nat} (hAB : A≤B) (h : many p A = many p B) : tot p f B = tot p f A:=by
 obtain ⟨k,rfl⟩:=Nat.exists_eq_add_of_le hAB
 rw [W9,VP (p:=fun n=>p (A + n)) (f:=fun n=>f (A + n)) (N:=k) fun n hn=>?_]
 ·rfl
 ·show p (A + n) = false
  cases hp : p (A + n) with
  | false=>rfl
  | true =>
   have:=zd1 p (show A + n < A + k by omega) hp
   have:=Qd p (show A≤A + n by omega)
   omega
theorem Wz (w : Nat->Nat) (sc : Nat) (k : List Int) : ∀ l : List Int,wsum w sc (l ++ k) = sc ^ k.length * wsum w sc l + wsum w sc k
 | []=>by simp [wsum]
 | c :: l=>by
  rw [List.cons_append,wsum,wsum,Wz w sc k l,List.length_append,Nat.pow_add,Nat.mul_add,← Nat.add_assoc]
  congr 2
  rw [Nat.mul_comm (sc ^ l.length),Nat.mul_assoc]
def ahd (w : Nat->Nat) (sc b m : Nat) : Nat:=if m = 0 then 0 else wsum w sc (figs b m)
theorem zdh {w : Nat->Nat} {sc b m c : Nat} (h2 : 2≤b) (hc : c < b) (h : 1≤m * b + c) : ahd w sc b (m * b + c) = sc * ahd w sc b m + w c:=by
 unfold ahd
 rw [if_neg (by omega)]
 by_cases hm : m = 0
 ·subst hm
  rw [if_pos rfl,Nat.zero_mul,Nat.zero_add,uY hc]
  simp [wsum]
 ·rw [if_neg hm,uT h2 (by omega) hc,wsum_snoc]
  rfl
def fw (w : Nat->Nat) (sc b n : Nat) : Nat:=wsum w sc (figs b n)
def one (c : Nat) : Nat->Nat:=fun d=>if d = c then 1 else 0
end Lw
namespace L2
open PySem PySem.Spec PyProof.Rows
def zdj (n : Addr->Prop) (h : Heap) (e : Addr) (c : Value) : Prop :=
 ∃ (oe oT : Obj) (vs ts : Array Value) (a0 : Value) (T : Addr),h.get? e = some oe∧oe.cls = c∧oe.data = .fields vs∧vs[0]? = some a0∧vs[1]? = some (.ref T)∧n T∧T ≠ e∧h.get? T = some oT∧oT.data = .fields ts∧ts[3]? = some .none
def CX1 (P : Program) (w : World) : CXT:=fun outer H s E e s' =>
 ∃ (ea : Addr) (c : Value) (H' : Hp),e = .ref ea∧s'.os = s.os∧AllBare s'.gens∧Un (frs outer) [] H H' s.heap s'.heap∧HOk P w H' s'.heap∧s.heap.get? ea = none∧H' ea = none ∧
  zdj (fun T=>s.heap.get? T = none∧H' T = none) s'.heap ea c∧E c none H'
def zeA (X : Cx) (Ex : St->XK) : Prop:=∀ (pins : List (Addr × Obj)) (σ : St) (H : Hp) (s : Shared) (h' : Heap) (ea : Addr) (c : Value) (vs : List Value),Inv X pins σ H s->Heap.MadeExcOf s.heap h' ea c vs->Ex σ c none H->X.xe (.ref ea) { s with heap:=h' }
def zbp (X : Cx) (Ex : St->XK) : Prop:=∀ (pins : List (Addr × Obj)) (σ : St) (H : Hp) (s : Shared) (e : Value) (s' : Shared),Inv X pins σ H s->CX1 X.prog X.w X.stack H s (Ex σ) e s'->X.xe e s'
theorem FnOk.up {P : Program} {w : World} {K : PySem.W.Frag} {mg : Str->Option Value} {base : Heap} {CX : CXT} {k : Nat} {f : Addr} {fd : FuncData} {ps : List Str} {sp : Sp} (F : FnOk P w K mg base CX0 k f fd ps sp) : FnOk P w K mg base CX k f fd ps sp :=
 ⟨F.len,fun A outer s H args us vs Q E hr e0 hb hv hs=>codeAny_mono (F.run A outer s H args us vs Q E hr e0 hb hv hs) fun r s' q=>by
  cases r with
  | error e=>exact False.elim q
  | ok fl=>cases fl <;> exact q⟩
theorem ObjOk.thereO {P : Program} {w : World} {H : Hp} {h : Heap} {a : Addr} {o : HO} (x : ObjOk P w H h a o) : ∃ u,h.get? a = some u:=by
 cases o with
 | lst xs=>obtain ⟨_,_,_,_,e⟩:=x; exact ⟨_,e⟩
 | tup xs=>obtain ⟨_,_,_,o,e,_⟩:=x; exact ⟨_,e⟩
 | dK kvs=>obtain ⟨_,_,_,_,o,_,_,e,_⟩:=x; exact ⟨_,e⟩
 | dT kvs=>obtain ⟨_,_,_,_,o,_,_,e,_⟩:=x; exact ⟨_,e⟩
 | set S n=>obtain ⟨o,_,_,_,e,_⟩:=x; exact ⟨_,e⟩
 | ins C dx fs=>obtain ⟨_,_,_,e,_⟩:=x; exact ⟨_,e⟩
 | own y=>exact x
 | xd fs=>obtain ⟨_,⟨_,_,_,e,_⟩,_⟩:=x; exact ⟨_,e⟩
 | rng lo hi=>obtain ⟨_,_,_,e⟩:=x; exact ⟨_,e⟩
 | frz ob u=>obtain ⟨e,_⟩:=x; exact ⟨_,e⟩
 | tbl ps=>exact ⟨_,(show h.get? a = some _ from x)⟩
 | met f y=>exact ⟨_,(show h.get? a = some _ from x)⟩
 | ext φ=>obtain ⟨_,e,_⟩:=x; exact e
theorem HOk.off {P : Program} {w : World} {H : Hp} {h : Heap} {a : Addr} (x : HOk P w H h) (e : h.get? a = none) : H a = none:=by
 cases q : H a with
 | none=>rfl
 | some o=>obtain ⟨u,z⟩:=(x a o q).thereO; rw [e] at z; cases z
section
variable {X : Cx} {pins : List (Addr × Obj)} {σ : St} {H H' : Hp} {s s' : Shared} {h' B : Heap} {ea : Addr} {c a0 : Value}
def VG (X : Cx) (H' : Hp) (s s' : Shared) (B : Heap) : Prop:=∀ b o,s'.heap.get? b = some o->((∃ u,s.heap.get? b = some u)∨H' b ≠ none)->b ∉ frs X.stack->B.get? b = some o
theorem JW (I : Inv X pins σ H s) (un : Un (frs X.stack) [] H H' s.heap s'.heap) : ∀ b ∈ frs X.stack,H' b = none:=fun b hb=>by
 obtain ⟨_,o,ho,_⟩:=I.stack.mem hb
 exact un.free b o ho (I.stkFree b hb) (by simp)
theorem zat (I : Inv X pins σ H s) (un : Un (frs X.stack) [] H H' s.heap s'.heap) (hok : HOk X.prog X.w H' s'.heap) (hB : VG X H' s s' B) (st : B.StaysIn h') (up : s'.heap.UpToSlots h') :
  Un (frs X.stack) [] H H' s.heap h'∧HOk X.prog X.w H' h':=by
 have fr:=JW I un
 have sl : ∀ b o,s.heap.get? b = some o->b ∈ frs X.stack->∃ q,h'.get? b = some { o with slots:=q }:=fun b o e hb=>by
  obtain ⟨_,o2,ho,hd⟩:=I.stack.mem hb
  rw [e] at ho; cases ho
  obtain ⟨q,e1⟩:=un.slot b o e (I.stkFree b hb) hb (by simp)
  obtain ⟨q2,e2⟩:=up b _ e1 hd
  exact ⟨q2,e2⟩
 refine ⟨⟨fun b o e n hb _=>?_,fun b o e _ hb _=>sl b o e hb,fun b o e n _=>un.free b o e n (by simp),fun b o e _=>?_,un.tups,un.frzs,un.tbls⟩,fun a o e=>?_⟩
 ·exact st b o (hB b o (un.keep b o e n hb (by simp)) (.inl ⟨o,e⟩) hb)
 ·by_cases hb : b ∈ frs X.stack
  ·obtain ⟨q,e1⟩:=sl b o e hb
   exact ⟨_,e1⟩
  ·obtain ⟨o1,e1⟩:=un.there b o e (by simp)
   exact ⟨o1,st b o1 (hB b o1 e1 (.inl ⟨o,e⟩) hb)⟩
 ·refine (hok a o e).stay (fun b u hc q=>?_) (fun _ q=>q) fun _ _ q=>q
  have nb : H' b ≠ none:=by
   rcases hc with z | z
   ·rw [z,e]; intro z2; cases z2
   ·rw [z]; intro z2; cases z2
  exact st b u (hB b u q (.inr nb) fun hb=>nb (fr b hb))
theorem zfw (I : Inv X pins σ H s) (un : Un (frs X.stack) [] H H' s.heap s'.heap) (hok : HOk X.prog X.w H' s'.heap) (hB : VG X H' s s' B) (st : B.StaysIn h') (up : s'.heap.UpToSlots h') (t : h'.TracedW B ea c a0) :
  zdj (fun T=>s.heap.get? T = none∧H' T = none) h' ea c:=by
 have fr:=JW I un
 obtain ⟨oe,vs,T,oT,ts,he,⟨hc,h0⟩,hd,h1,hnT,hTe,hT,hdT,h3⟩:=t
 have nF : T ∉ frs X.stack:=fun hb=>by
  obtain ⟨_,o,ho,hd⟩:=I.stack.mem hb
  obtain ⟨q,e1⟩:=un.slot T o ho (I.stkFree T hb) hb (by simp)
  obtain ⟨q2,e2⟩:=up T _ e1 hd
  rw [hT] at e2; cases e2
  exact hd _ hdT
 refine ⟨oe,oT,vs,ts,a0,T,he,hc,hd,h0,h1,⟨?_,?_⟩,hTe,hT,hdT,h3⟩
 ·cases q : s.heap.get? T with
  | none=>rfl
  | some o =>
   obtain ⟨o1,e1⟩:=un.there T o q (by simp)
   have:=hB T o1 e1 (.inl ⟨o,q⟩) nF
   rw [hnT] at this; cases this
 ·cases q : H' T with
  | none=>rfl
  | some o =>
   obtain ⟨o1,e1⟩:=(hok T o q).thereO
   have:=hB T o1 e1 (.inr (by rw [q]; intro z; cases z)) nF
   rw [hnT] at this; cases this
theorem zbE {E : XK} (I : Inv X pins σ H s) (hx : X.ex = []) (os : s'.os = s.os) (bare : AllBare s'.gens) (un : Un (frs X.stack) [] H H' s.heap s'.heap) (hok : HOk X.prog X.w H' s'.heap) (n0 : s.heap.get? ea = none) (n1 : H' ea = none)
  (hB : VG X H' s s' B) (st : B.StaysIn h') (t : h'.TracedW B ea c a0) (up : s'.heap.UpToSlots h') (hE : E c none H') : CX1 X.prog X.w X.outer X.H₀ X.s₀ E (.ref ea) { s' with heap:=h' }:=by
 obtain ⟨u1,k1⟩:=zat I un hok hB st up
 have J : Inv X pins σ H' { s' with heap:=h' }:=I.call' (ch:=[]) os u1 k1 bare fun b z=>absurd z (by simp)
 have off : ∀ b,s.heap.get? b = none->X.s₀.heap.get? b = none:=fun b e=>by
  cases q : X.s₀.heap.get? b with
  | none=>rfl
  | some o =>
   obtain ⟨o1,e1⟩:=I.base.there b o q (by rw [hx]; simp)
   rw [e] at e1; cases e1
 have ub:=J.base
 rw [hx] at ub
 obtain ⟨oe,oT,vs,ts,a1,T,he,hc,hd,h0,h1,⟨hn,hm⟩,r⟩:=zfw I un hok hB st up t
 exact ⟨ea,c,H',rfl,J.os,J.bare,ub,k1,off ea n0,n1,⟨oe,oT,vs,ts,a1,T,he,hc,hd,h0,h1,⟨off T hn,hm⟩,r⟩,hE⟩
theorem zav {Ts : List Addr} (n0 : s.heap.get? ea = none) (n1 : H' ea = none) (nT : ∀ T ∈ Ts,s.heap.get? T = none∧H' T = none) : VG X H' s s' (PySem.W.hideAll s'.heap (ea :: (Ts ++ frs X.stack))):=fun b o e hb hf=>by
 refine PySem.W.hideAll_get _ e fun hm=>?_
 have bad : ∀ a,s.heap.get? a = none->H' a = none->b ≠ a:=fun a h1 h2 z=>by
  subst z
  rcases hb with ⟨u,q⟩ | q
  ·rw [h1] at q; cases q
  ·exact q h2
 rcases List.mem_cons.mp hm with z | hm
 ·exact bad ea n0 n1 z
 ·rcases List.mem_append.mp hm with z | z
  ·exact bad b (nT b z).1 (nT b z).2 rfl
  ·exact hf z
theorem Uo (I : Inv X pins σ H s) (os : s'.os = s.os) (bare : AllBare s'.gens) (un : Un (frs X.stack) [] H H' s.heap s'.heap) (hok : HOk X.prog X.w H' s'.heap) {as : List Addr} (ha : ∀ b ∈ frs X.stack,b ∈ as) : s'.heap.FunFrames (PySem.W.hideAll s'.heap as) X.stack:=by
 have J : Inv X pins σ H' s':=I.call' (ch:=[]) os un hok bare fun b z=>absurd z (by simp)
 exact PySem.W.funFrames_hide J.stack fun env he b hb=>ha b (List.mem_filterMap.mpr ⟨env,he,hb⟩)
theorem zbm (I : Inv X pins σ H s) (os : s'.os = s.os) (bare : AllBare s'.gens) (un : Un (frs X.stack) [] H H' s.heap s'.heap) (hok : HOk X.prog X.w H' s'.heap) (n0 : s.heap.get? ea = none) (n1 : H' ea = none)
  (t : zdj (fun T=>s.heap.get? T = none∧H' T = none) s'.heap ea c) : ∃ B a0,VG X H' s s' B∧Heap.FlyingW B X.stack ea c a0 s'.heap:=by
 obtain ⟨oe,oT,vs,ts,a0,T,he,hc,hd,h0,h1,⟨hn,hm⟩,hTe,hT,hdT,h3⟩:=t
 refine ⟨PySem.W.hideAll s'.heap (ea :: ([T] ++ frs X.stack)),a0,zav n0 n1 (fun b hb=>by rw [List.mem_singleton.mp hb]; exact ⟨hn,hm⟩),fun b o q=>PySem.W.of_hideAll _ q,PySem.W.hideAll_none _ (by simp),Uo I os bare un hok (by intro b hb; simp [hb]),?_⟩
 exact ⟨oe,vs,T,oT,ts,he,⟨hc,h0⟩,hd,h1,PySem.W.hideAll_none _ (by simp),hTe,hT,hdT,h3⟩
end
theorem vU {P : Program} {w : World} {K : PySem.W.Frag} {mg : Str->Option Value} {base : Heap} {N : List Str} {qual : Str} {scope : Scope} {f : Addr} {cd : Value} {A : Around} {outer : List Env} {s₀ : Shared} {H₀ : Hp} {E : XK} :
  zbp (YH (CX1 P w) P w K mg base N qual scope f cd A outer s₀ H₀ E) fun _=>E:=by
 intro pins σ H s e s' I hcx
 obtain ⟨ea,c,H',rfl,os,bare,un,hok,n0,n1,t,hE⟩:=hcx
 obtain ⟨B,a0,hB,fl⟩:=zbm I os bare un hok n0 n1 t
 show wpAny _ _ (leaving (envOfC qual scope s₀.heap.objs.size f cd) (.ref ea)) _ _ s'
 refine wpAny_leaves_onW I.ok.frames rfl fl fun h2 fl2 up=>?_
 exact zbE I rfl os bare un hok n0 n1 hB fl2.1 fl2.2.2.2 up hE
theorem Xu {P : Program} {w : World} {K : PySem.W.Frag} {mg : Str->Option Value} {base : Heap} {N : List Str} {qual : Str} {scope : Scope} {f : Addr} {cd : Value} {A : Around} {outer : List Env} {s₀ : Shared} {H₀ : Hp} {E : XK} :
  zeA (YH (CX1 P w) P w K mg base N qual scope f cd A outer s₀ H₀ E) fun _=>E:=by
 intro pins σ H s h' ea c vs I hm hE
 show wpAny _ _ (leaving (envOfC qual scope s₀.heap.objs.size f cd) (.ref ea)) _ _ _
 refine wpAny_leaves_madeW (s:={ s with heap:=h' }) (base:=PySem.W.hideAll s.heap (frs (YH (CX1 P w) P w K mg base N qual scope f cd A outer s₀ H₀ E).stack)) I.ok.frames rfl (fun b o q=>PySem.W.of_hideAll _ q)
  (Uo I rfl I.bare Un.refl I.hok fun b hb=>hb) hm fun h2 t fl _ _ up=>?_
 refine zbE (s':={ s with heap:=h' }) I rfl rfl I.bare (Un.kept hm.keeps) (I.hok.kept hm.keeps) hm.new (I.hok.off hm.new) (fun b o e hb hf=>?_) fl.1 fl.2.2.2 up hE
 refine PySem.W.hideAll_get _ ?_ hf
 rcases hb with ⟨u,q⟩ | q
 ·have z:=hm.keeps b u q
  rw [show h'.get? b = some o from e] at z; cases z; exact q
 ·cases r : H b with
  | none=>exact absurd r q
  | some x =>
   obtain ⟨u,q⟩:=(I.hok b x r).thereO
   have z:=hm.keeps b u q
   rw [show h'.get? b = some o from e] at z; cases z; exact q
abbrev veT : List Value:=[.type "ValueError",.type "Exception",.type "BaseException",.type "object"]
structure Q3 (K : PySem.W.Frag) (mg : Str->Option Value) (x : Str) (C : Addr) : Prop where
 g : mg x = some (.ref C)
 ok : PySem.W.excIn K C veT "ValueError.__new__" = true
theorem zdG {K : PySem.W.Frag} {h : Heap} {C : Addr} {bmB : List Value} {newId : String} (X : K.In h) (q : PySem.W.excIn K C bmB newId = true) :
  ∃ (bm bs : List Value) (N : Addr) (nm qn : Str) (hd ab : Bool) (sn : List Str) (sub : List Value) (col : Option Bool) (dd : Option Addr) (k0 k1 k2 k3 k5 : Option Value) (mN : Str->Option Value),
   h.get? C = some (excClassObj nm qn C N bs bm hd sn sub ab col dd k0 k1 k2 k3 k5 newId)∧h.Ns N mN∧mN "__init__" = none∧OwnTail h bmB bm:=by
 unfold PySem.W.excIn at q
 split at q
 ·rename_i dd cd sl e
  split at q
  ·rename_i C2 bm k0 k1 k2 k3 n k5 hm hs
   rw [Bool.and_eq_true,Bool.and_eq_true,Bool.and_eq_true,Bool.and_eq_true,Bool.and_eq_true] at q
   have z1:=eq_of_beq q.1.1.1.1.1
   have z2:=eq_of_beq q.1.1.1.1.2
   have z3 : cd.hasDel = false:=by simpa using q.1.1.1.2
   cases cd with
   | mk nm bs mro ns qn hd sn sub ab col del =>
    cases sl with
    | mk l =>
     have hs' : l = _:=hs
     have hm' : mro = _:=hm
     have z3' : del = false:=z3
     subst hs' hm' z3' z1 z2
     exact ⟨bm,bs,ns,nm,qn,hd,ab,sn,sub,col,dd,k0,k1,k2,k3,k5,_,X _ _ e,Heap.Ns.of_isNs (PySem.W.isNs_of_in X q.1.2),PySem.W.nsMap_none_of_in X q.1.2 (eq_of_beq q.2),PySem.W.tail_of_in X q.1.1.2⟩
  ·cases q
 ·cases q
def ze3 (c : Value) (Ex : St->XK) (t : TA) : TS:=fun _ σ H=>t σ H fun vs H1=>vs.length≤sizeLine∧Ex σ c none H1
theorem XD {X : Cx} {x : Str} {C : Addr} {Ex : St->XK} {e : Expr} {es : List Expr} {t : TA} {np cpos pos : Pos} (O : Q3 X.K X.mg x C) (hx : zeA X Ex) (hc : X.calm = true) (ha : PA X (e :: es) t) (hg : Gl X x:=by rfl) (hdb : (x == ("__debug__" : Str)) = false:=by decide)
  (he : starEach (e :: es) X.env = (false,eval e X.env) :: starEach es X.env:=by rfl) (hpl : (backTo cpos (starEach (e :: es) X.env)).any (·.1) = false:=by rfl) : PS X (.Raise (some (.Call (.Name x np) (e :: es) [] cpos)) none pos) (ze3 (.ref C) Ex t):=by
 intro pins s σ H D I h
 obtain ⟨bm,bs,N,nm,qn,hd,ab,sn,sub,col,dd,k0,k1,k2,k3,k5,mN,hC,hN,hni,T⟩:=zdG (h:=X.base) I.ok.mod.kin O.ok
 refine wpAny_Raise_call_subT (C:=C) (nm:=nm) (q:=qn) (N:=N) (bs:=bs) (bm:=bm) (hdct:=hd) (sn:=sn) (sub:=sub) (ab:=ab) (col:=col) (dd:=dd) (k0:=k0) (k1:=k1) (k2:=k2) (k3:=k3) (k5:=k5)
  PySem.F.excBase_ValueError (mN:=mN) (T.hasType PySem.F.excBase_ValueError.hasBase) (I.ok.hd hc) hpl hni (YG I hg O.g ⟨rfl,?_⟩ hdb)
 have ha':=ha cpos pins s σ H _ I h
 rw [he] at ha' ⊢
 refine Calls.evalArgs_plain (thn ha' fun us s1 ⟨vs,H1,I1,r,hz,q⟩=>?_)
 exact ⟨rfl,by rw [← r.length]; exact hz,I1.bk _ _ hC,hN.keeps I1.bk,T.keeps I1.bk,fun h' ea hm=>hx pins σ H1 s1 h' ea (.ref C) us I1 hm q⟩
def zeH (sp : Sp) (Ex : St->XK) (t : TA) : TE:=fun σ H Q=>t σ H fun vs H1=>sp vs H1 Q (Ex σ)
theorem zdV {X : Cx} {k : Nat} {f : Addr} {fd : FuncData} {ps : List Str} {sp : Sp} {Ex : St->XK} {pins : List (Addr × Obj)} {σ : St} {H : Hp} {s : Shared} {Q : VK} {us : List Value} {vs : List V} (F : FnOk X.prog X.w X.K X.mg X.base (CX1 X.prog X.w) k f fd ps sp) (hr : Room k X.A) (hb : Binds X.K fd ps []) (hx : zbp X Ex)
  (I : Inv X pins σ H s) (r : Vals vs us) (h : sp vs H Q (Ex σ)) : wpAny (model X.prog X.w) X.A (call (.ref f) us) (EP X pins σ Q) X.xe s:=by
 have hl : us.length = ps.length:=by rw [← r.length]; exact F.len _ _ _ _ h
 have hb':=hb s us I.kIn (by rw [List.append_nil]; exact hl)
 rw [List.append_nil] at hb'
 refine wpAny_call (codeAny_mono (F.run X.A X.stack s H ⟨us,[]⟩ us vs Q (Ex σ) hr I.env0 hb' r h) fun r s' hq=>?_)
 cases r with
 | error e=>exact hx pins σ H s e s' I hq
 | ok fl =>
  cases fl with
  | ret u=>exact I.after hq
  | next=>exact False.elim hq
  | brk=>exact False.elim hq
  | cont=>exact False.elim hq
theorem qZ {X : Cx} {x : Str} {st : Stmt} {ps : List Str} {f : Addr} {fd : FuncData} {k : Nat} {sp : Sp} {Ex : St->XK} {e : Expr} {es : List Expr} {t : TA} {p pos : Pos} (D : Df X.K X.mg x st ps f fd) (G : FnOk X.prog X.w X.K X.mg X.base (CX1 X.prog X.w) k f fd ps sp) (hr : Room k X.A) (hx : zbp X Ex) (ha : PA X (e :: es) t) (hg : Gl X x:=by rfl)
  (hdb : (x == ("__debug__" : Str)) = false:=by decide) (he : starEach (e :: es) X.env = (false,eval e X.env) :: starEach es X.env:=by rfl) (hpl : (backTo pos (starEach es X.env)).any (·.1) = false:=by rfl) : PE X (.Call (.Name x p) (e :: es) [] pos) (zeH sp Ex t):=by
 intro pins s σ H Q I h
 refine wpAny_Call_Name_kw (YG I hg D.g ?_ hdb)
 refine PySem.W.callWith_K (h₀:=X.base) I.ok.mod.kin D.fn.kp (thn (ha pos pins s σ H _ I h) fun us s1 ⟨vs,H1,I1,r,q⟩=>⟨I1.kIn,?_⟩) he hpl
 exact zdV G hr D.b hx I1 r q
theorem Fun.ok1 {P : Program} {w : World} {K : PySem.W.Frag} {mg : Str->Option Value} {base : Heap} {x qual : Str} {st : Stmt} {f : Addr} {fd : FuncData} {N ps : List Str} {k : Nat} {sp : Sp} (F : Fun K x qual st f fd) (S : zK N ps (zx st)) (len : ∀ vs H Q E,sp vs H Q E->vs.length = ps.length)
  (hbody : ∀ (cdv : Value) (A : Around) (outer : List Env) (s : Shared) (H : Hp) (vs : List V) (Q : VK) (E : XK),Room k (A.deeper (envOfC qual (zx st) s.heap.objs.size f cdv))->sp vs H Q E ->
   ∃ t,PSs (YH (CX1 P w) P w K mg base N qual (zx st) f cdv A outer s H E) (yZ st) t∧t { nx:=fun _ H'=>Q .non H',rt:=Q } (start N vs) H) : FnOk P w K mg base (CX1 P w) (k + 1) f fd ps sp:=by
 obtain ⟨oc,od,kV,doc,pm,an,cdv,ct,osl,rfl,lk,hcd⟩:=F.ex
 exact zcG lk hcd S len fun A outer s H vs Q E hr hsp=>hbody cdv A outer s H vs Q E hr hsp
open PySem PySem.Spec PyProof.Rows Builtin Builtin.ObjectAttr Builtin.Getset_descriptor
structure W4 (K : PySem.W.Frag) (C : Addr) : Prop where
 ga : PySem.W.findIn K (.ref C) "__getattribute__" = some (some (.builtin "BaseException.__getattribute__"))
 hk : PySem.W.findIn K (.ref C) "__getattr__" = some none
 at_ : PySem.W.findIn K (.ref C) "__class__" = some (some (.builtin "object.__class__"))
 sp : PySem.W.specialIn K (.builtin "object.__class__") "__get__" = some (some (.builtin "getset_descriptor.__get__"))
 tk : PySem.W.takesIn K (.builtin "object.__class__") = some true
 mo : PySem.W.mroIn K C (.type "object") = some true
 mb : PySem.W.mroIn K C (.type "BaseException") = some true
def ExcAt (e C : Addr) (h : Heap) : Prop:=∃ o,h.get? e = some o∧o.cls = .ref C
section
variable {prog : Program} {w : World} {A : Around} {K : PySem.W.Frag} {e C : Addr} {h : Heap}
theorem ExcAt.ty {M : Model} (x : ExcAt e C h) : PySem.W.Looks M h (typeOf (.ref e)) (.ref C):=by
 obtain ⟨o,h1,h2⟩:=x
 have L : PySem.W.Looks M h (typeOf (.ref e)) o.cls:=(PySem.W.Looks.ld h1).andThen .now
 rw [h2] at L
 exact L
theorem JV {M : Model} (X : K.In h) (F : W4 K C) : PySem.W.Looks M h (find (.ref e) (.ref C) "__class__") (.bind (.builtin "getset_descriptor.__get__") (.builtin "object.__class__")):=by
 have q3 : PySem.W.Looks M h (dataDescriptor? (some (.builtin "object.__class__")) (some (.builtin "getset_descriptor.__get__"))) (some (.builtin "getset_descriptor.__get__",.builtin "object.__class__")):=(PySem.W.looks_takesIn X F.tk).andThen .now
 have q2 : PySem.W.Looks M h (getOf (some (.builtin "object.__class__"))) (some (.builtin "getset_descriptor.__get__")):=PySem.W.looks_specialIn X F.sp
 exact (PySem.W.looks_findIn X F.at_).andThen (q2.andThen (q3.andThen (PySem.W.Looks.tag .now)))
theorem QM {R : Result->Shared->Prop} {s : Shared} {tp : Value} (X : K.In s.heap) (x : ExcAt e C s.heap) (F : W4 K C) (q : R (.ok (.ret (.ref C))) s) : codeAny (model prog w) A (.call (.builtin "getset_descriptor.__get__") ⟨[.builtin "object.__class__",.ref e,tp],[]⟩) R s:=by
 cases s with
 | mk hp gn dr tk os =>
  have y0:=x.ty (M:=model prog w)
  have y1:=PySem.W.looks_mroIn (M:=model prog w) X F.mo
  refine codeAny_call_builtin PySem.W.KF.slot_gs.plain PySem.W.KF.entry_gs (PySem.W.KF.slot_gs.check _ _ _ _ _ _ _ _ PySem.W.KF.type_class (PySem.W.KF.args_gs _ _ _) ?_)
  unfold «getset_descriptor.__get__» descrGet
  rw [PySem.W.dga_obj]
  refine wpAny_bind (wpAny_pure ?_)
  unfold descrGetter descrCheckInstance descrNameAndClass isInstance
  simp only [PySem.W.KF.owner_class]
  repeat lk
  refine ⟨Code.quiet_builtin _ (by decide +kernel),codeAny_builtin PySem.W.KF.entry_class ?_⟩
  unfold «object.__class__» shownTypeOf
  repeat lk
  exact q
theorem zeS {R : Result->Shared->Prop} {s : Shared} {t : Tok} (X : K.In s.heap) (x : ExcAt e C s.heap) (F : W4 K C) (q : R (.ok (.ret (.ref C))) s) : codeAny (model prog w) A (.call (.builtin "BaseException.__getattribute__") ⟨[.ref e,.str "__class__" t],[]⟩) R s:=by
 cases s with
 | mk hp gn dr tk os =>
  have y0:=x.ty (M:=model prog w)
  have y3:=JV (M:=model prog w) (e:=e) X F
  have y4:=PySem.W.looks_mroIn (M:=model prog w) X F.mb
  refine codeAny_call_builtin PySem.F.attr_ValueError.ga.plain PySem.F.entry_bexc_ga ?_
  have z1 : builtinKind "BaseException.__getattribute__" = some .slot:=by decide +kernel
  have z2 : splitId "BaseException.__getattribute__" = some ("BaseException","__getattribute__"):=by decide +kernel
  have z3:=PySem.F.args_bexc_ga (.ref e) (.str "__class__" t)
  simp only [checkBuiltinCall,z1,z2]
  refine wpAny_bind ?_
  unfold isInstance
  refine wpAny_bind (y0.at (y4.at ?_))
  repeat (any_goals (first | assumption | wp_step))
  obtain ⟨o,h1,h2⟩:=id x
  refine wpAny_loadPart h1 (wpAny_pure ?_)
  rw [h2]
  refine wpAny_bind (y3.at ?_)
  dsimp only
  repeat (any_goals (first | assumption | with_reducible refine wpAny_holding ?_ | wp_step))
  exact QM (s:=⟨hp,gn,dr,tk,os⟩) X x F (wpAny_pure q)
theorem zcl {E : Value->Shared->Prop} {Q : Option Value->Shared->Prop} {s : Shared} (X : K.In s.heap) (x : ExcAt e C s.heap) (F : W4 K C) (q : Q (some (.ref C)) { s with toks:=s.toks + 1 }) : wpAny (model prog w) A (getAttr? (.ref e) "__class__") Q E s:=by
 cases s with
 | mk hp gn dr tk os =>
  have y0:=x.ty (M:=model prog w)
  have y1:=PySem.W.looks_findIn (M:=model prog w) X F.ga
  have y2:=PySem.W.looks_findIn (M:=model prog w) X F.hk
  have y3:=JV (M:=model prog w) (e:=e) X F
  have y4:=PySem.W.looks_mroIn (M:=model prog w) X F.mb
  unfold getAttr? getAttrBy? getAttrBy
  refine wpAny_bind (wpAny_mkText (wpAny_bind (wpAny_attempt (wpAny_holding (wpAny_bind (y0.at (wpAny_bind (y1.at ?_))))))))
  show wpAny _ _ (if (onTheHeap (.ref C) && (Value.builtin "BaseException.__getattribute__" == Value.builtin "object.__getattribute__")) = true then _ else _) _ _ _
  rw [show (Value.builtin "BaseException.__getattribute__" == Value.builtin "object.__getattribute__") = false from by decide +kernel,Bool.and_false,if_neg (by decide)]
  unfold getAttrByItsOwn hookBefore
  refine wpAny_bind ?_
  rw [if_pos (show onTheHeap (.ref C) = true from rfl)]
  refine y2.at (wpAny_bind (wpAny_attempt (wpAny_holding ?_)))
  unfold callGetattribute boundAndCalled
  rw [if_neg (by intro z; cases z)]
  refine wpAny_bind (wpAny_of_eq (PySem.F.attr_ValueError.ga.bind (.ref e)) ?_)
  exact wpAny_call (zeS (s:=⟨hp,gn,dr,tk + 1,os⟩) X x F (wpAny_pure (wpAny_pure q)))
theorem zdw (F : W4 K C) : PySem.W.KitX K (.ref e) (.ref C) (ExcAt e C) where
 ty:=fun _ _ _ x=>x.ty
 it:=fun _ _ X _=>by
  have z:=F.mo
  unfold PySem.W.mroIn PySem.W.clsIn at z
  split at z
  ·rename_i ho
   intro A1 Q1 E1 s1 k q
   unfold isType loadHead
   exact wpAny_bind (wpAny_loadPart (k _ _ (X _ _ ho)) (wpAny_pure q))
  ·cases z
 ne:=fun h tp dd its n sl X htp=>by
  have z:=F.mo
  refine Bool.eq_false_iff.mpr fun q=>?_
  have ec : C = tp:=Value.ref.inj (beq_iff_eq.mp q)
  subst ec
  unfold PySem.W.mroIn PySem.W.clsIn at z
  split at z
  ·rename_i ho
   have z2:=X _ _ ho
   rw [htp] at z2
   cases z2
  ·cases z
 ca:=fun X x q=>zcl X x F q
def Vw (e C : Addr) : HO:=.ext fun h=>ExcAt e C h
def zdB (K : PySem.W.Frag) : List V->Hp->VK->Prop:=fun xs H Q=>∃ e C c cu b,xs = [.ref e,c]∧RelV c cu∧(∀ u,RelV c u->u = cu)∧H e = some (Vw e C)∧W4 K C∧PySem.W.kitOne K (.ref C) cu = some b∧Q (.bl b) H
theorem zbO {X : Cx} : vm X (.builtin "isinstance") (zdB X.K):=by
 intro pins s σ H xs us Q I r h
 obtain ⟨e,C,c,cu,b,rfl,_,un,he,F,k,q⟩:=h
 obtain ⟨u,v,rfl,rx,rt⟩:=vals2 r
 cases (show u = Value.ref e from rx)
 cases un v rt
 have o : ObjOk X.prog X.w H s.heap e (Vw e C):=I.hok e _ he
 exact PySem.W.kia_one (zdw F) I.kIn o.1 k (fun z=>nomatch z) fun tk=>⟨.bl b,H,I.tok tk,rfl,q⟩
theorem uh {X : Cx} (K : PySem.W.Frag) (e : X.K = K:=by rfl) : vm X (.builtin "isinstance") (zdB K):=by subst e; exact zbO
end
structure zaX (K : PySem.W.Frag) (mg : Str->Option Value) (y : Str) (Ch : Addr) : Prop where
 g : mg y = some (.ref Ch)
 mb : PySem.W.mroIn K Ch (.type "BaseException") = some true
theorem zb5 {prog : Program} {w : World} {A : Around} {E : Value->Shared->Prop} {K : PySem.W.Frag} {e C Ch : Addr} {s : Shared} {b : Bool} {Q : Bool->Shared->Prop} (X : K.In s.heap) (x : ExcAt e C s.heap) (m : PySem.W.kitCls K (.ref C) (.ref Ch) = some b)
  (hb : PySem.W.mroIn K Ch (.type "BaseException") = some true) (q : Q b s) : wpAny (model prog w) A (excMatches (.ref e) (.ref Ch)) Q E s:=by
 cases s with
 | mk hp gn dr tk os =>
  obtain ⟨y1,y2,y3⟩:=PySem.W.kit_cls (M:=model prog w) X m
  have y0:=x.ty (M:=model prog w)
  have y4:=PySem.W.looks_mroIn (M:=model prog w) X hb
  have y5:=tc_notTuple
  unfold excMatches isInstance isExcClass
  repeat (first | with_reducible refine PySem.W.Looks.at (by assumption) ?_ | (with_reducible refine wpAny_of_eq y5 ?_) | with_reducible refine wpAny_bind ?_ | wp_step)
  cases b
  ·exact wpAny_pure (wpAny_pure (wpAny_pure q))
  ·exact wpAny_pure (wpAny_pure (wpAny_pure q))
section
variable {X : Cx} {pins : List (Addr × Obj)} {σ : St} {H H' : Hp} {s s' : Shared}
abbrev Cx.sui (X : Cx) (e : Addr) : Cx:={ X with A:=X.A.mark (some (.ref e)),calm:=false,xe:=fun _ _=>False }
theorem Inv.toSui (I : Inv X pins σ H s) (e : Addr) : Inv (X.sui e) pins σ H s :=
 ⟨⟨I.ok.mod,I.ok.kind,I.ok.glob,I.ok.blt,I.ok.above,I.ok.inj,I.ok.has,I.ok.cab,(fun z=>nomatch z),I.ok.frames,I.ok.stk,I.ok.exf,I.ok.bs,I.ok.bsz,I.ok.noex,I.ok.exfs,I.ok.funs,I.ok.frf⟩,I.os,I.bare,I.base,I.loc,I.cell,I.free,I.freeC,I.pin,I.hok,I.len⟩
theorem Inv.ofSui {e : Addr} (ok : X.Ok) (I : Inv (X.sui e) pins σ H s) : Inv X pins σ H s:=⟨ok,I.os,I.bare,I.base,I.loc,I.cell,I.free,I.freeC,I.pin,I.hok,I.len⟩
abbrev Cx.body (X : Cx) (E : Value->Shared->Prop) (pn : List (Addr × Obj)) : Cx:={ X with xe:=E,pn:=pn }
theorem Inv.toBody (I : Inv X pins σ H s) (E : Value->Shared->Prop) : Inv (X.body E (X.pn ++ pins)) [] σ H s :=
 ⟨⟨I.ok.mod,I.ok.kind,I.ok.glob,I.ok.blt,I.ok.above,I.ok.inj,I.ok.has,I.ok.cab,I.ok.hd,I.ok.frames,I.ok.stk,I.ok.exf,I.ok.bs,I.ok.bsz,I.ok.noex,I.ok.exfs,I.ok.funs,I.ok.frf⟩,I.os,I.bare,I.base,I.loc,I.cell,I.free,I.freeC,fun p hp=>I.pin p (by rw [List.append_nil] at hp; exact hp),I.hok,I.len⟩
theorem Inv.ofBody {E : Value->Shared->Prop} {pins' : List (Addr × Obj)} (ok : X.Ok) (I : Inv (X.body E (X.pn ++ pins)) pins' σ H s) : Inv X pins σ H s:=⟨ok,I.os,I.bare,I.base,I.loc,I.cell,I.free,I.freeC,fun p hp=>I.pin p (List.mem_append_left _ hp),I.hok,I.len⟩
theorem SP.ofBody {E : Value->Shared->Prop} {D : Ends} {f : Flow} (ok : X.Ok) (h : SP (X.body E (X.pn ++ pins)) [] D f s') : SP X pins D f s':=by
 cases f with
 | next=>obtain ⟨σ',H',I,q⟩:=h; exact ⟨σ',H',I.ofBody ok,q⟩
 | brk=>obtain ⟨σ',H',I,q⟩:=h; exact ⟨σ',H',I.ofBody ok,q⟩
 | cont=>obtain ⟨σ',H',I,q⟩:=h; exact ⟨σ',H',I.ofBody ok,q⟩
 | ret u=>obtain ⟨v,σ',H',I,r,q⟩:=h; exact ⟨v,σ',H',I.ofBody ok,r,q⟩
theorem zbS {e C : Addr} {h' : Heap} (un : Un (frs X.stack) [] H H' s.heap h') (hok : HOk X.prog X.w H' h') (n0 : s.heap.get? e = none) (n1 : H' e = none) (x : ExcAt e C h') :
  Un (frs X.stack) [] H (upd H' e (Vw e C)) s.heap h'∧HOk X.prog X.w (upd H' e (Vw e C)) h':=by
 have ne : ∀ b o,s.heap.get? b = some o->b ≠ e:=fun b o q z=>by rw [z,n0] at q; cases q
 refine ⟨⟨un.keep,un.slot,fun b o q n hx=>by rw [zy (ne b o q)]; exact un.free b o q n hx,un.there,fun b xs q=>?_,fun b o u q=>?_,fun b ps q=>?_⟩,fun b o q=>?_⟩
 ·have z:=un.tups b xs q
  rw [zy (zB z n1)]; exact z
 ·have z:=un.frzs b o u q
  rw [zy (zB z n1)]; exact z
 ·obtain ⟨more,z⟩:=un.tbls b ps q
  exact ⟨more,by rw [zy (zB z n1)]; exact z⟩
 ·by_cases hb : b = e
  ·subst hb
   rw [zj] at q
   cases q
   obtain ⟨o,h1,h2⟩:=id x
   exact ⟨x,⟨o,h1⟩,fun ha hb' xa ka=>let ⟨o,h1,h2⟩:=xa; ⟨o,ka o h1,h2⟩⟩
  ·rw [zy hb] at q
   exact (hok b o q).stay (fun c u _ z=>z) (fun c z=>by rw [zy (zB z n1)]; exact z) fun c xs z=>by rw [zy (zB z n1)]; exact z
theorem Inv.gone {i t : Nat} {n : Str} {h' : Heap} (I : Inv X pins σ H s) (hN : X.N.Nodup) (hi : X.N[i]? = some n) (hs : Heap.SameBut X.env.locals s.heap h') (hn : ∀ m,s.heap.Ns X.env.locals m->∃ v,h'.Ns X.env.locals fun x=>if x = n then v else m x) :
  Inv X pins (σ.set i none) H { s with heap:=h',toks:=t }:=by
 have nl : ∀ b o,X.s₀.heap.get? b = some o->b ≠ X.env.locals:=fun b o e=>Nat.ne_of_lt (Nat.lt_of_lt_of_le (Heap.lt_size e) I.ok.above)
 have tr : ∀ b u,H b = some u->b ≠ X.env.locals:=fun b u e z=>by rw [z,I.free] at e; cases e
 obtain ⟨m,hm,hl⟩:=id I.loc
 obtain ⟨v,hv⟩:=hn m hm
 refine ⟨I.ok,I.os,I.bare,⟨fun b o e n hb hx=>(hs.2 b (nl b o e)).trans (I.base.keep b o e n hb hx),fun b o e n hb hx=>?_,I.base.free,fun b o e hx=>?_,I.base.tups,I.base.frzs,I.base.tbls⟩,⟨_,hv,fun j y w e1 e2 e3=>?_⟩,fun y c e=>?_,I.free,I.freeC,fun p hp=>?_,fun b u e=>?_,by rw [List.length_set]; exact I.len⟩
 ·obtain ⟨sl,q⟩:=I.base.slot b o e n hb hx
  exact ⟨sl,(hs.2 b (nl b o e)).trans q⟩
 ·obtain ⟨o1,q⟩:=I.base.there b o e hx
  exact ⟨o1,(hs.2 b (nl b o e)).trans q⟩
 ·have hj : j ≠ i:=fun z=>by
   subst z
   rw [List.getElem?_set] at e2
   split at e2
   ·split at e2 <;> cases e2
   ·exact absurd rfl (by assumption)
  rw [List.getElem?_set_ne (Ne.symm hj)] at e2
  obtain ⟨u,r,q⟩:=hl j y w e1 e2 e3
  refine ⟨u,r,?_⟩
  rcases q with ⟨k,z⟩ | ⟨k,c,z,zc⟩
  ·refine .inl ⟨k,?_⟩
   have ny : y ≠ n:=fun z=>hj (V2 hN e1 (z ▸ hi))
   show (if y = n then v else m y) = some u
   rw [if_neg ny]; exact z
  ·exact .inr ⟨k,c,z,zc.sameBut hs (I.cne y c z)⟩
 ·obtain ⟨w,z⟩:=I.cell y c e
  exact ⟨w,z.sameBut hs (I.cne y c e)⟩
 ·obtain ⟨e,n,ne,nf,d⟩:=I.pin p hp
  exact ⟨(hs.2 p.1 ne).trans e,n,ne,nf,d⟩
 ·refine (I.hok b u e).stay (fun c z hc q=>(hs.2 c ?_).trans q) (fun _ q=>q) fun _ _ q=>q
  rcases hc with z | z
  ·rw [z]; exact tr b u e
  ·exact tr c _ z
end
def zez (i : Nat) (D : Ends) : Ends:={ nx:=fun σ H=>D.nx (σ.set i none) H,rt:=D.rt,bk:=fun σ H=>D.bk (σ.set i none) H,ct:=fun σ H=>D.ct (σ.set i none) H }
def xAs (K : PySem.W.Frag) (Ch : Addr) (i : Nat) (ts : TS) (D : Ends) : St->XK:=fun σ c _ H=>∃ C,c = .ref C∧PySem.W.kitCls K (.ref C) (.ref Ch) = some true∧∀ e,H e = none->ts (zez i D) (σ.set i (some (.ref e))) (upd H e (Vw e C))
def zeM (K : PySem.W.Frag) (Ch : Addr) (i : Nat) (tb : (St->XK)->TS) (ts : TS) : TS:=fun D σ H=>tb (xAs K Ch i ts D) D σ H
section
variable {X : Cx} {y n : Str} {Ch : Addr} {i : Nat} {body suite : List Stmt} {b₀ : Stmt} {tb : (St->XK)->TS} {ts : TS} {np hpos pos : Pos}
theorem zcI (O : zaX X.K X.mg y Ch) (hstk : X.stack = X.env :: X.outer) (hfr : X.env.frame = some X.env.locals) (nd : X.N.Nodup) (hi : X.N[i]? = some n) (hloc : X.env.scope.names.lookup n = some .local)
  (hb : ∀ (E : Value->Shared->Prop) (pn : List (Addr × Obj)) (Ex : St->XK),zbp (X.body E pn) Ex->PSs (X.body E pn) body (tb Ex)) (hs : ∀ e,PSs (X.sui e) (b₀ :: suite) ts) (hg : Gl X y:=by rfl) (hdb : (y == ("__debug__" : Str)) = false:=by decide) :
  PS X (.Try body [.ExceptHandler (some (.Name y np)) (some n) (b₀ :: suite) hpos] [] [] pos) (zeM X.K Ch i tb ts):=by
 intro pins s σ H D I h
 have ok:=I.ok
 refine wpAny_Try_except (wpAny_mono (hb (fun e s₁=>wpAny (model X.prog X.w) X.A (noteFrame e X.env) (fun _ s₂=>wpAny (model X.prog X.w) X.A (setFlight e none) (fun _ s₃=>wpAny (model X.prog X.w) X.A (handleBy e X.env [.ExceptHandler (some (.Name y np)) (some n) (b₀ :: suite) hpos]) (SP X pins D) X.xe s₃) X.xe s₂) X.xe s₁)
  (X.pn ++ pins) (xAs X.K Ch i ts D) ?_ [] s σ H D (I.toBody _) h) (fun f s1 q=>?_) fun _ _ z=>z)
 ·intro pins2 σ2 H2 s2 e s3 I2 hcx
  have I2:=I2.ofBody ok
  obtain ⟨ea,c,H3,rfl,os,bare,un,hok,n0,n1,t,C,rfl,hk,hq⟩:=hcx
  obtain ⟨B,a0,hB,fl⟩:=zbm I2 os bare un hok n0 n1 t
  have fl' : Heap.FlyingW B (X.env :: X.outer) ea (.ref C) a0 s3.heap:=by rw [← hstk]; exact fl
  refine wpAny_looks_onW (by rw [ok.frames,hstk]) hfr fl' fun h4 held up4=>wpAny_landsW held fun h5 fl5 up5=>?_
  obtain ⟨u5,k5⟩:=zat I2 un hok hB fl5.1 (up4.trans up5)
  have J5 : Inv X pins σ2 H3 { s3 with heap:=h5 }:=I2.call' (ch:=[]) os u5 k5 bare fun b z=>absurd z (by simp)
  have x5 : ExcAt ea C h5:=fl5.there
  refine wpAny_handleBy_cons (codeAny_handlers_test (YG (X:=X.sui ea) (J5.toSui ea) hg O.g ?_ hdb)) (by intro z; cases z)
  refine zb5 J5.kIn x5 hk O.mb (codeAny_handlers_suite_as (lands_againW fl5 fun h6 fl6 up6=>?_))
  obtain ⟨u6,k6⟩:=zat I2 un hok hB fl6.1 ((up4.trans up5).trans up6)
  obtain ⟨u7,k7⟩:=zbS u6 k6 n0 n1 fl6.there
  have J7 : Inv X pins σ2 (upd H3 ea (Vw ea C)) { s3 with heap:=h6 }:=I2.call' (ch:=[]) os u7 k7 bare fun b z=>absurd z (by simp)
  refine XX (X:=X.sui ea) (v:=.ref ea) (J7.toSui ea) nd hi (.inl hloc) rfl (fun s8 J8=>?_) (.inr hloc)
  refine wpAny_mono (hs ea pins s8 _ _ (zez i D) J8 (hq ea n1)) (fun f s9 q=>?_) fun _ _ z=>False.elim z
  have fin : ∀ {σ9 : St} {H9 : Hp},Inv (X.sui ea) pins σ9 H9 s9->(∀ s10,Inv X pins (σ9.set i none) H9 s10->SP X pins D f s10)->wpAny (model X.prog X.w) X.A (do bindName X.env n .none; unbindBehindTheSuite X.env n hpos) (fun _ s10=>SP X pins D f s10) X.xe s9:=fun {σ9 H9} J k=>by
   have J':=J.ofSui ok
   obtain ⟨m,hm,_⟩:=id J'.loc
   refine wpAny_nameGoes_keeps hloc hm (by rw [ok.kind]; rfl) fun h10 v hn hsb=>k _ (J'.gone nd hi hsb fun m2 hm2=>?_)
   refine ⟨v,?_⟩
   have e : m2 = m:=by
    obtain ⟨o1,es1,ep1,a1,b1,c1,d1⟩:=hm
    obtain ⟨o2,es2,ep2,a2,b2,c2,d2⟩:=hm2
    rw [a1] at a2; cases a2
    rw [b1] at b2; cases b2
    funext z
    rw [← d1,← d2]
   rw [e]; exact hn
  cases f with
  | next=>obtain ⟨σ9,H9,J,q⟩:=q; exact fin J fun s10 K10=>⟨_,_,K10,q⟩
  | brk=>obtain ⟨σ9,H9,J,q⟩:=q; exact fin J fun s10 K10=>⟨_,_,K10,q⟩
  | cont=>obtain ⟨σ9,H9,J,q⟩:=q; exact fin J fun s10 K10=>⟨_,_,K10,q⟩
  | ret u=>obtain ⟨v,σ9,H9,J,r,q⟩:=q; exact fin J fun s10 K10=>⟨v,_,_,K10,r,q⟩
 ·cases f with
  | next=>exact wpAny_execs_nil (SP.ofBody ok q)
  | ret u=>exact SP.ofBody ok q
  | brk=>exact SP.ofBody ok q
  | cont=>exact SP.ofBody ok q
end
open PySem PyProof.Rows
structure Fit (k n : Nat) (d : PyData) : Prop where
 ls : d.leavesShort 40 = true
 sh : d.showable = true
 dp : d.depth≤k
 wt : d.weight≤n
theorem Fit.shown {k n : Nat} {d : PyData} (f : Fit k n d) (hn : n≤100000) : d.shown.length≤sizeLine:=by
 have h:=PyData.shown_le 40 (by decide) d f.ls
 have:=f.wt
 rw [sizeLine_eq]
 omega
def Th (H : Hp) (k n : Nat) (v : V) : Prop:=∃ d,ThAt H d v∧Fit k n d
theorem Th.same {H H' : Hp} {k n : Nat} {v : V} (t : Th H k n v) (m : Same H H') : Th H' k n v:=let ⟨d,h,f⟩:=t; ⟨d,h.same m,f⟩
theorem Th.le {H : Hp} {k n k' n' : Nat} {v : V} (t : Th H k n v) (hk : k≤k') (hn : n≤n') : Th H k' n' v:=let ⟨d,h,f⟩:=t; ⟨d,h,f.ls,f.sh,Nat.le_trans f.dp hk,Nat.le_trans f.wt hn⟩
section
variable {H : Hp} {k n : Nat}
theorem Th.non : Th H k n .non:=⟨.none,by rw [ThAt],by rw [PyData.leavesShort],by rw [PyData.showable],by rw [PyData.depth]; exact Nat.zero_le _,by rw [PyData.weight]; exact Nat.zero_le _⟩
theorem Th.bl {b : Bool} : Th H k n (.bl b):=⟨.bool b,by rw [ThAt],by rw [PyData.leavesShort],by rw [PyData.showable],by rw [PyData.depth]; exact Nat.zero_le _,by rw [PyData.weight]; exact Nat.zero_le _⟩
theorem log2_small {m : Nat} (h : m < 10 ^ 30) : m.log2 < 100:=by
 by_cases z : m = 0
 ·subst z; decide
 ·exact (Nat.log2_lt z).mpr (Nat.lt_trans h (by decide))
theorem Th.int {i : Int} (h : i.natAbs < 10 ^ 30) (hn : 100≤n) : Th H k n (.int i):=by
 refine ⟨.int i,by rw [ThAt],?_,?_,by rw [PyData.depth]; exact Nat.zero_le _,?_⟩
 ·rw [PyData.leavesShort,PyData.shown]
  refine decide_eq_true ?_
  have:=int_text_length_le10 (a:=i) (k:=30) (by decide) h
  rw [PySem.ofString_length]
  omega
 ·rw [PyData.showable]
  exact decide_eq_true (Nat.lt_trans (log2_small h) (by decide))
 ·rw [PyData.weight]
  have:=log2_small h
  split <;> omega
theorem Th.str {x : Str} (h : (x.cps.toList.all fun c=>decide (c < 16 ^ 8)) = true) (hn : x.cps.size≤n) : Th H k n (.str x):=⟨.str x,by rw [ThAt],by rw [PyData.leavesShort]; exact h,by rw [PyData.showable],by rw [PyData.depth]; exact Nat.zero_le _,by rw [PyData.weight]; exact hn⟩
theorem Th.emp {a : Addr} (h : H a = some (.dK [])) (hk : 1≤k) : Th H k n (.ref a):=⟨.dict [],by rw [ThAt]; exact ⟨rfl,a,rfl,h⟩,by rw [PyData.leavesShort,PyData.leavesShortKv],by rw [PyData.showable,PyData.showableKv],by rw [PyData.depth,PyData.depthKv]; exact hk,by rw [PyData.weight,PyData.weightKv]; exact Nat.zero_le _⟩
theorem Ths.of : ∀ {vs : List V},(∀ v ∈ vs,Th H k n v)->∃ ds,ThsAt H ds vs∧PyData.leavesShortAll 40 ds = true∧PyData.showableAll ds = true∧PyData.depthAll ds≤k∧PyData.weightAll ds≤(n + 1) * vs.length
 | [],_=>⟨[],by rw [ThsAt],by rw [PyData.leavesShortAll],by rw [PyData.showableAll],by rw [PyData.depthAll]; exact Nat.zero_le _,by rw [PyData.weightAll]; exact Nat.zero_le _⟩
 | v :: vs,h=>by
  obtain ⟨d,h1,f⟩:=h v (.head _)
  obtain ⟨ds,g1,g2,g3,g4,g5⟩:=Ths.of fun v hv=>h v (.tail _ hv)
  refine ⟨d :: ds,by rw [ThsAt]; exact ⟨_,_,rfl,h1,g1⟩,by rw [PyData.leavesShortAll,f.ls,g2]; rfl,by rw [PyData.showableAll,f.sh,g3]; rfl,?_,?_⟩
  ·rw [PyData.depthAll]; have:=f.dp; omega
  ·rw [PyData.weightAll,List.length_cons,Nat.mul_succ]; have:=f.wt; omega
theorem Th.lst {a : Addr} {vs : List V} {n' : Nat} (h : H a = some (.lst vs)) (t : ∀ v ∈ vs,Th H k n v) (hn : (n + 1) * vs.length≤n') : Th H (k + 1) n' (.ref a):=by
 obtain ⟨ds,g1,g2,g3,g4,g5⟩:=Ths.of t
 exact ⟨.list ds,by rw [ThAt]; exact ⟨a,vs,rfl,h,g1⟩,by rw [PyData.leavesShort]; exact g2,by rw [PyData.showable]; exact g3,by rw [PyData.depth]; omega,by rw [PyData.weight]; omega⟩
theorem Th.tup {a : Addr} {vs : List V} {n' : Nat} (h : H a = some (.tup vs)) (t : ∀ v ∈ vs,Th H k n v) (hn : (n + 1) * vs.length≤n') : Th H (k + 1) n' (.ref a):=by
 obtain ⟨ds,g1,g2,g3,g4,g5⟩:=Ths.of t
 exact ⟨.tuple ds,by rw [ThAt]; exact ⟨a,vs,rfl,h,g1⟩,by rw [PyData.leavesShort]; exact g2,by rw [PyData.showable]; exact g3,by rw [PyData.depth]; omega,by rw [PyData.weight]; omega⟩
theorem Th.ints {a : Addr} {ns : List Int} {n' : Nat} (h : H a = some (.lst (ns.map V.int))) (t : ∀ i ∈ ns,i.natAbs < 10 ^ 30) (hn : 101 * ns.length≤n') : Th H (k + 1) n' (.ref a) :=
 Th.lst (n:=100) h (fun v hv=>by
  obtain ⟨i,hi,rfl⟩:=List.mem_map.mp hv
  exact Th.int (t i hi) (Nat.le_refl _)) (by rw [List.length_map]; exact hn)
end
theorem zfg {X : Cx} {x : Str} {j} {pos : Pos} {es : List Expr} {t : TA} (h : PA X es t) : PA X (.Constant (.str x) j pos :: es) (wI (tC (.str x)) t):=zf V9 h rfl
theorem zec (xs : List V) (m : Nat) : qw xs none (some (m : Int)) = xs.take m:=by
 unfold qw
 rw [HT.XC,HT.VJ,List.drop_zero,Nat.sub_zero]
 by_cases h : m≤xs.length
 ·rw [Nat.min_eq_left h]
 ·rw [Nat.min_eq_right (by omega),List.take_of_length_le (Nat.le_refl _),List.take_of_length_le (by omega)]
@[irreducible] def PEI (X : Cx) (e : Expr) (t : TE) : Prop:=PE X e t
@[irreducible] def PAI (X : Cx) (es : List Expr) (t : TA) : Prop:=PA X es t
@[irreducible] def PSsI (X : Cx) (st : List Stmt) (t : TS) : Prop:=PSs X st t
theorem PEI.o {X : Cx} {e : Expr} {t : TE} (h : PEI X e t) : PE X e t:=by unfold PEI at h; exact h
theorem PAI.o {X : Cx} {es : List Expr} {t : TA} (h : PAI X es t) : PA X es t:=by unfold PAI at h; exact h
theorem PSsI.o {X : Cx} {l : List Stmt} {t : TS} (h : PSsI X l t) : PSs X l t:=by unfold PSsI at h; exact h
theorem pei {X : Cx} {e : Expr} {t : TE} (h : PE X e t) : PEI X e t:=by unfold PEI; exact h
theorem pai {X : Cx} {es : List Expr} {t : TA} (h : PA X es t) : PAI X es t:=by unfold PAI; exact h
theorem yF {X : Cx} {i j pos} : PEI X (.Constant (.int i) j pos) (tC (.int i)):=pei zm
theorem yN {X : Cx} {es : List Expr} {t : TA} {pos : Pos} (h : PAI X es t) : PEI X (.List es pos) (JS t):=pei (zO h.o)
theorem XQ {X : Cx} {es : List Expr} {t : TA} {x1} {pos : Pos} (h : PAI X es t) : PEI X (.Tuple es x1 pos) (zb8 t):=pei (Yl h.o)
theorem yo {X : Cx} : PAI X [] YJ:=pai zg
theorem tE {X : Cx} {x : Str} {j} {pos : Pos} {es : List Expr} {t : TA} (h : PAI X es t) : PAI X (.Constant (.str x) j pos :: es) (wI (tC (.str x)) t):=pai (zfg h.o)
theorem zu {X : Cx} {e : Expr} {es : List Expr} {te : TE} {t : TA} (ha : PEI X e te) (hr : PAI X es t) (hs : starEach (e :: es) X.env = (false,eval e X.env) :: starEach es X.env:=by rfl) : PAI X (e :: es) (wI te t):=pai (zf ha.o hr.o hs)
theorem zdi {X : Cx} {e : Expr} {es : List Expr} {te : TE} {t : TA} (ha : PEI X e te) (hr : PA X es t) (hs : starEach (e :: es) X.env = (false,eval e X.env) :: starEach es X.env:=by rfl) : PA X (e :: es) (wI te t):=zf ha.o hr hs
theorem zaA {X : Cx} {a b : Expr} {ta tb : TE} {pos : Pos} {r : R2} (hr : IxR X r) (ha : PEI X a ta) (hb : PE X b tb) (hs : zbG b) : PE X (.Subscript a b pos) (tOp r ta tb):=zY hr ha.o hb hs
theorem Qx {X : Cx} {i : Nat} {x : Str} {e : Expr} {te : TE} {pos' pos : Pos} (hN : X.N.Nodup) (hi : X.N[i]? = some x) (hx : Loc X.env.scope x) (he : PEI X e te) (hs : swapsWith e (some (.Name x pos')) pos.line X.env = pure false:=by rfl) (hf : X.fn x = true∨X.env.scope.names.lookup x = some .local:=by first | exact .inl rfl | exact .inr rfl | assumption) :
  PS X (.Assign [.Name x pos'] e pos) (zam te (YS i)):=zJ hN hi hx he.o hs hf
theorem zdC {X : Cx} {a b : Expr} {ta tb : TE} {pos : Pos} {op : Operator} {r : R2} (ho : OpR X (binaryOp op) r) (ha : PE X a ta) (hb : PEI X b tb) : PE X (.BinOp a op b pos) (tOp r ta tb):=zE ho ha hb.o
structure Ty where
 p : Hp->V->Prop
 mo : ∀ {G G' : Hp} {v : V},Same G G'->p G v->p G' v
structure View where
 v : Hp->Hp
 ok : Hp->Prop
 out : ∀ {H : Hp} {a : Addr} {o : HO},v H a = some o->H a = some o
 new : ∀ {H : Hp} {p : Addr} (o : HO),ok H->H p = none->ok (upd H p o)∧Same (v H) (v (upd H p o))∧v (upd H p o) p = some o
abbrev Cxt:=List (Option Ty)
def Fits (Γ : Cxt) (G : Hp) (σ : St) : Prop:=σ.length = Γ.length∧∀ (i : Nat) (T : Ty),Γ[i]? = some (some T)->∃ v : V,σ[i]? = some (some v)∧T.p G v
theorem Fits.same {Γ : Cxt} {G G' : Hp} {σ : St} (f : Fits Γ G σ) (s : Same G G') : Fits Γ G' σ:=⟨f.1,fun i T h=>let ⟨v,e,q⟩:=f.2 i T h; ⟨v,e,T.mo s q⟩⟩
theorem Fits.set {Γ : Cxt} {G : Hp} {σ : St} {i : Nat} {T : Ty} {v : V} (f : Fits Γ G σ) (q : T.p G v) : Fits (Γ.set i (some T)) G (σ.set i (some v)):=by
 refine ⟨by rw [List.length_set,List.length_set,f.1],fun j T' h=>?_⟩
 rw [List.getElem?_set] at h ⊢
 by_cases e : i = j
 ·rw [if_pos e] at h ⊢
  by_cases l : i < Γ.length
  ·rw [if_pos l] at h
   rw [if_pos (by rw [f.1]; exact l)]
   cases h
   exact ⟨v,rfl,q⟩
  ·rw [if_neg l] at h; cases h
 ·rw [if_neg e] at h ⊢
  exact f.2 j T' h
theorem Fits.nil {G : Hp} : Fits [] G []:=⟨rfl,fun i T h=>by simp at h⟩
theorem Fits.cons {Γ : Cxt} {G : Hp} {σ : St} {T : Ty} {v : V} (q : T.p G v) (f : Fits Γ G σ) : Fits (some T :: Γ) G (some v :: σ):=by
 refine ⟨by rw [List.length_cons,List.length_cons,f.1],fun i T' h=>?_⟩
 cases i with
 | zero=>cases h; exact ⟨v,rfl,q⟩
 | succ i=>exact f.2 i T' h
theorem Fits.skip {Γ : Cxt} {G : Hp} {σ : St} {v : Option V} (f : Fits Γ G σ) : Fits (none :: Γ) G (v :: σ):=by
 refine ⟨by rw [List.length_cons,List.length_cons,f.1],fun i T' h=>?_⟩
 cases i with
 | zero=>cases h
 | succ i=>exact f.2 i T' h
def Tp (w : View) (Γ : Cxt) (te : TE) (T : Ty) : Prop:=∀ (σ : St) (H : Hp) (Q : VK),w.ok H->Fits Γ (w.v H) σ->(∀ v H',w.ok H'->Same (w.v H) (w.v H')->T.p (w.v H') v->Q v H')->te σ H Q
def V6 (k n : Nat) : Ty:=⟨fun G v=>Th G k n v,fun s h=>h.same s⟩
def tyI (lo hi : Int) : Ty:=⟨fun _ v=>∃ i,v = .int i∧lo≤i∧i≤hi,fun _ h=>h⟩
def yI (T : Ty) (lo hi : Nat) : Ty:=⟨fun G v=>∃ a vs,v = .ref a∧G a = some (.lst vs)∧lo≤vs.length∧vs.length≤hi∧∀ u ∈ vs,T.p G u,fun s ⟨a,vs,h1,h2,h3,h4,h5⟩=>⟨a,vs,h1,s _ _ h2,h3,h4,fun u hu=>T.mo s (h5 u hu)⟩⟩
abbrev tyL (k n lo hi : Nat) : Ty:=yI (V6 k n) lo hi
def QQ (v : V) : Ty:=⟨fun _ u=>u = v,fun _ h=>h⟩
def TpA (w : View) (Γ : Cxt) (ta : TA) (k n m : Nat) : Prop:=∀ (σ : St) (H : Hp) (Q : List V->Hp->Prop),w.ok H->Fits Γ (w.v H) σ->(∀ vs H',w.ok H'->Same (w.v H) (w.v H')->vs.length = m->(∀ u ∈ vs,Th (w.v H') k n u)->Q vs H')->ta σ H Q
def TpB (w : View) (Γ : Cxt) (ta : TA) (T : Ty) (m : Nat) : Prop:=∀ (σ : St) (H : Hp) (Q : List V->Hp->Prop),w.ok H->Fits Γ (w.v H) σ->(∀ vs H',w.ok H'->Same (w.v H) (w.v H')->vs.length = m->(∀ u ∈ vs,T.p (w.v H') u)->Q vs H')->ta σ H Q
def TpO (w : View) (Γ : Cxt) (to : TO) : Prop:=∀ (σ : St) (H : Hp) (Q : Option Int->Hp->Prop),w.ok H->Fits Γ (w.v H) σ->(∀ o H',w.ok H'->Same (w.v H) (w.v H')->Q o H')->to σ H Q
section
variable {w : View} {Γ : Cxt} {te ta tb : TE} {K : PySem.W.Frag} {k n m k' n' m' lo hi lo' hi' : Nat} {i j i' j' : Int}
theorem Tp.sub {T T' : Ty} (h : Tp w Γ te T) (s : ∀ G v,T.p G v->T'.p G v) : Tp w Γ te T':=fun σ H Q o f q=>h σ H Q o f fun v H' o' s' t=>q v H' o' s' (s _ _ t)
theorem Tp.var {x : Nat} {T : Ty} (h : Γ[x]? = some (some T)) : Tp w Γ (Um x) T:=fun σ H Q o f q=>let ⟨v,e,t⟩:=f.2 x T h; ⟨v,e,q v H o (Same.refl _) t⟩
theorem Tp.non : Tp w Γ (tC .non) (V6 0 0):=fun σ H Q o f q=>q _ H o (Same.refl _) Th.non
theorem Tp.bl {b : Bool} : Tp w Γ (tC (.bl b)) (V6 0 0):=fun σ H Q o f q=>q _ H o (Same.refl _) Th.bl
theorem Tp.str {x : Str} (h : (x.cps.toList.all fun c=>decide (c < 16 ^ 8)) = true) (hn : x.cps.size≤100) : Tp w Γ (tC (.str x)) (V6 0 100):=fun σ H Q o f q=>q _ H o (Same.refl _) (Th.str h hn)
theorem Tp.int : Tp w Γ (tC (.int i)) (tyI i i):=fun σ H Q o f q=>q _ H o (Same.refl _) ⟨i,rfl,Int.le_refl _,Int.le_refl _⟩
theorem Tp.wide (h : Tp w Γ te (tyI i j)) (h1 : i'≤i) (h2 : j≤j') : Tp w Γ te (tyI i' j'):=h.sub fun G v ⟨x,e,a,b⟩=>⟨x,e,Int.le_trans h1 a,Int.le_trans b h2⟩
theorem Tp.add (ha : Tp w Γ ta (tyI i j)) (hb : Tp w Γ tb (tyI i' j')) : Tp w Γ (tOp (rI0 fun x y=>.int (x + y)) ta tb) (tyI (i + i') (j + j')):=fun σ H Q o f q=>ha σ H _ o f fun v H1 o1 s1 ⟨x,e1,a1,b1⟩=>hb σ H1 _ o1 (f.same s1) fun u H2 o2 s2 ⟨y,e2,a2,b2⟩=>⟨x,y,e1,e2,q _ H2 o2 (s1.trans s2) ⟨_,rfl,by omega,by omega⟩⟩
theorem Tp.subI (ha : Tp w Γ ta (tyI i j)) (hb : Tp w Γ tb (tyI i' j')) : Tp w Γ (tOp (rI0 fun x y=>.int (x - y)) ta tb) (tyI (i - j') (j - i')):=fun σ H Q o f q=>ha σ H _ o f fun v H1 o1 s1 ⟨x,e1,a1,b1⟩=>hb σ H1 _ o1 (f.same s1) fun u H2 o2 s2 ⟨y,e2,a2,b2⟩=>⟨x,y,e1,e2,q _ H2 o2 (s1.trans s2) ⟨_,rfl,by omega,by omega⟩⟩
theorem Tp.neg (ha : Tp w Γ ta (tyI i j)) : Tp w Γ (tUn (rU fun x=>.int (-x)) ta) (tyI (-j) (-i)):=fun σ H Q o f q=>ha σ H _ o f fun v H1 o1 s1 ⟨x,e1,a1,b1⟩=>⟨x,e1,q _ H1 o1 s1 ⟨_,rfl,by omega,by omega⟩⟩
theorem Tp.pow {x y : Int} (c : zfb x y) : Tp w Γ (tOp (rI zfb fun i j=>.int (i ^ j.toNat)) (tC (.int x)) (tC (.int y))) (tyI (x ^ y.toNat) (x ^ y.toNat)):=fun σ H Q o f q=>⟨x,y,rfl,rfl,c,q _ H o (Same.refl _) ⟨_,rfl,Int.le_refl _,Int.le_refl _⟩⟩
theorem Tp.ofI (h : Tp w Γ te (tyI i j)) (h1 : -(10 ^ 29)≤i:=by decide) (h2 : j≤10 ^ 29:=by decide) : Tp w Γ te (V6 0 100):=h.sub fun G v ⟨x,e,a,b⟩=>by
 rw [e]; exact Th.int (by omega) (Nat.le_refl _)
theorem Tp.ofL (h : Tp w Γ te (tyL k n lo hi)) : Tp w Γ te (V6 (k + 1) ((n + 1) * hi)):=h.sub fun G v ⟨a,vs,e,h1,_,h2,h3⟩=>by
 rw [e]; exact Th.lst h1 h3 (Nat.mul_le_mul_left _ h2)
theorem Tp.le (h : Tp w Γ te (V6 k n)) (hk : k≤k') (hn : n≤n') : Tp w Γ te (V6 k' n'):=h.sub fun G v t=>t.le hk hn
theorem TpA.nil : TpA w Γ YJ 0 0 0:=fun σ H Q o f q=>q [] H o (Same.refl _) rfl (by simp)
theorem TpA.cons {t : TA} (h : Tp w Γ te (V6 k n)) (ht : TpA w Γ t k' n' m) : TpA w Γ (wI te t) (max k k') (max n n') (m + 1):=fun σ H Q o f q=>h σ H _ o f fun v H1 o1 s1 t1=>ht σ H1 _ o1 (f.same s1) fun vs H2 o2 s2 e2 t2=>q (v :: vs) H2 o2 (s1.trans s2) (by rw [List.length_cons,e2]) fun u hu=>by
 rcases List.mem_cons.mp hu with rfl | hu
 ·exact (t1.same s2).le (Nat.le_max_left _ _) (Nat.le_max_left _ _)
 ·exact (t2 u hu).le (Nat.le_max_right _ _) (Nat.le_max_right _ _)
theorem zZ {x : Nat} (h : x≤10000) : x≤sizeLine:=Nat.le_trans h (by decide)
theorem Tp.lst {t : TA} (h : TpA w Γ t k n m) (hm : m≤10000:=by decide) : Tp w Γ (JS t) (tyL k n m m):=fun σ H Q o f q=>h σ H _ o f fun vs H1 o1 s1 e1 t1=>⟨zZ (by rw [e1]; exact hm),fun p hp=>by
 obtain ⟨o2,s2,e2⟩:=w.new (.lst vs) o1 hp
 exact q (.ref p) _ o2 (s1.trans s2) ⟨p,vs,rfl,e2,Nat.le_of_eq e1.symm,Nat.le_of_eq e1,fun u hu=>(t1 u hu).same s2⟩⟩
theorem Tp.tup {t : TA} (h : TpA w Γ t k n m) (hm : m≤10000:=by decide) : Tp w Γ (zb8 t) (V6 (k + 1) ((n + 1) * m)):=fun σ H Q o f q=>h σ H _ o f fun vs H1 o1 s1 e1 t1=>⟨zZ (by rw [e1]; exact hm),fun p hp=>by
 obtain ⟨o2,s2,e2⟩:=w.new (.tup vs) o1 hp
 exact q (.ref p) _ o2 (s1.trans s2) (Th.tup e2 (fun u hu=>(t1 u hu).same s2) (by rw [e1]; exact Nat.le_refl _))⟩
theorem Tp.emp : Tp w Γ Jk (V6 1 0):=fun σ H Q o f q p hp=>by
 obtain ⟨o2,s2,e2⟩:=w.new (.dK []) o hp
 exact q (.ref p) _ o2 s2 (Th.emp e2 (Nat.le_refl _))
theorem Tp.cat (ha : Tp w Γ ta (tyL k n lo hi)) (hb : Tp w Γ tb (tyL k' n' lo' hi')) (hm : hi + hi'≤10000:=by decide) : Tp w Γ (tOp QT ta tb) (tyL (max k k') (max n n') (lo + lo') (hi + hi')):=fun σ H Q o f q=>ha σ H _ o f fun v H1 o1 s1 t1=>hb σ H1 _ o1 (f.same s1) fun u H2 o2 s2 t2=>by
 obtain ⟨a,vs,e1,g1,l1,m1,r1⟩:=(tyL k n lo hi).mo s2 t1
 obtain ⟨b,us,e2,g2,l2,m2,r2⟩:=t2
 refine ⟨a,b,vs,us,e1,e2,w.out g1,w.out g2,zZ (Nat.le_trans (Nat.add_le_add m1 m2) hm),fun p hp=>?_⟩
 obtain ⟨o3,s3,e3⟩:=w.new (.lst (vs ++ us)) o2 hp
 refine q (.ref p) _ o3 (s1.trans (s2.trans s3)) ⟨p,_,rfl,e3,by rw [List.length_append]; omega,by rw [List.length_append]; omega,fun x hx=>?_⟩
 rcases List.mem_append.mp hx with hx | hx
 ·exact ((r1 x hx).same s3).le (Nat.le_max_left _ _) (Nat.le_max_left _ _)
 ·exact ((r2 x hx).same s3).le (Nat.le_max_right _ _) (Nat.le_max_right _ _)
theorem zdL {xs : List V} {c : Nat} {x : V} (h : x ∈ (List.replicate c xs).flatten) : x ∈ xs:=by
 obtain ⟨l,hl,hx⟩:=List.mem_flatten.mp h
 rw [(List.mem_replicate.mp hl).2] at hx; exact hx
theorem Tp.rep {c c' : Nat} (ha : Tp w Γ ta (tyL k n lo hi)) (hb : Tp w Γ tb (tyI c c')) (hm : hi * c'≤10000:=by decide) (hc : c'≤10000:=by decide) : Tp w Γ (tOp zfe ta tb) (tyL k n (lo * c) (hi * c')):=fun σ H Q o f q=>ha σ H _ o f fun v H1 o1 s1 t1=>hb σ H1 _ o1 (f.same s1) fun u H2 o2 s2 ⟨y,e2,a2,b2⟩=>by
 obtain ⟨a,vs,e1,g1,l1,m1,r1⟩:=(tyL k n lo hi).mo s2 t1
 have hy : y.toNat≤c':=by omega
 have hz : c≤y.toNat:=by omega
 refine ⟨a,y,vs,e1,e2,w.out g1,by omega,by omega,zZ (Nat.le_trans (Nat.mul_le_mul m1 hy) hm),fun p hp=>?_⟩
 obtain ⟨o3,s3,e3⟩:=w.new (.lst (List.replicate y.toNat vs).flatten) o2 hp
 refine q (.ref p) _ o3 (s1.trans (s2.trans s3)) ⟨p,_,rfl,e3,by rw [len_rep,Nat.mul_comm lo]; exact Nat.mul_le_mul hz l1,by rw [len_rep,Nat.mul_comm hi]; exact Nat.mul_le_mul hy m1,fun x hx=>(r1 x (zdL hx)).same s3⟩
theorem TpO.none : TpO w Γ Q8:=fun σ H Q o f q=>q _ H o (Same.refl _)
theorem TpO.some (h : Tp w Γ te (tyI i j)) : TpO w Γ (zdt te):=fun σ H Q o f q=>h σ H _ o f fun v H1 o1 s1 ⟨x,e,_⟩=>⟨x,e,q _ H1 o1 s1⟩
theorem zai (vs : List V) (lo hi : Option Int) : (∀ v ∈ qw vs lo hi,v ∈ vs)∧(qw vs lo hi).length≤vs.length:=by
 unfold qw
 refine ⟨fun v hv=>List.mem_of_mem_drop (List.mem_of_mem_take hv),?_⟩
 rw [List.length_take,List.length_drop]
 omega
theorem Tp.sl {tl tu : TO} {T : Ty} (h : Tp w Γ te (yI T lo hi)) (hl : TpO w Γ tl) (hu : TpO w Γ tu) : Tp w Γ (tSl (zd9 K) te tl tu) (yI T 0 hi):=fun σ H Q o f q=>h σ H _ o f fun v H1 o1 s1 t1=>hl σ H1 _ o1 (f.same s1) fun x H2 o2 s2=>hu σ H2 _ o2 ((f.same s1).same s2) fun y H3 o3 s3=>by
 obtain ⟨a,vs,e1,g1,l1,m1,r1⟩:=(yI T lo hi).mo (s2.trans s3) t1
 refine ⟨a,vs,e1,SqL.of (w.out g1),fun p hp=>?_⟩
 obtain ⟨o4,s4,e4⟩:=w.new (.lst (qw vs x y)) o3 hp
 exact q (.ref p) _ o4 (s1.trans (s2.trans (s3.trans s4))) ⟨p,_,rfl,e4,Nat.zero_le _,Nat.le_trans (zai vs x y).2 m1,fun u hu=>T.mo s4 (r1 u ((zai vs x y).1 u hu))⟩
theorem Tp.rev {T : Ty} (h : Tp w Γ te (yI T lo hi)) : Tp w Γ (zcX K te) (yI T lo hi):=fun σ H Q o f q=>h σ H _ o f fun v H1 o1 s1 ⟨a,vs,e1,g1,l1,m1,r1⟩=>⟨a,vs,e1,SqL.of (w.out g1),fun p hp=>by
 obtain ⟨o4,s4,e4⟩:=w.new (.lst vs.reverse) o1 hp
 exact q (.ref p) _ o4 (s1.trans s4) ⟨p,_,rfl,e4,by rw [List.length_reverse]; exact l1,by rw [List.length_reverse]; exact m1,fun u hu=>T.mo s4 (r1 u (List.mem_reverse.mp hu))⟩⟩
theorem Tp.ix {T : Ty} (ha : Tp w Γ ta (yI T lo hi)) (hb : Tp w Γ tb (tyI 0 j)) (hj : j < lo:=by decide) : Tp w Γ (tOp (zdS K) ta tb) T:=fun σ H Q o f q=>ha σ H _ o f fun v H1 o1 s1 t1=>hb σ H1 _ o1 (f.same s1) fun u H2 o2 s2 ⟨y,e2,a2,b2⟩=>by
 obtain ⟨a,vs,e1,g1,l1,m1,r1⟩:=(yI T lo hi).mo s2 t1
 have hy : y.toNat < vs.length:=by omega
 refine ⟨a,vs,y,vs[y.toNat],e1,e2,SqL.of (w.out g1),?_,q _ H2 o2 (s1.trans s2) (r1 _ (List.getElem_mem hy))⟩
 have:=yx (List.getElem?_eq_getElem hy)
 rwa [show ((y.toNat : Nat) : Int) = y by omega] at this
theorem Tp.len {T : Ty} (h : Tp w Γ te (yI T lo hi)) : Tp w Γ (tCB (fun xs H Q=>∃ p ys,xs = [.ref p]∧(SqL K H p ys∨SqT K H p ys)∧Q (.int ys.length) H) (wI te YJ)) (tyI lo hi):=fun σ H Q o f q=>h σ H _ o f fun v H1 o1 s1 ⟨a,vs,e1,g1,l1,m1,r1⟩=>⟨a,vs,by rw [e1],.inl (SqL.of (w.out g1)),q _ H1 o1 s1 ⟨_,rfl,by omega,by omega⟩⟩
theorem Tp.catT {T : Ty} (ha : Tp w Γ ta (yI T lo hi)) (hb : Tp w Γ tb (yI T lo' hi')) (hm : hi + hi'≤10000:=by first | decide | omega) : Tp w Γ (tOp QT ta tb) (yI T (lo + lo') (hi + hi')):=fun σ H Q o f q=>ha σ H _ o f fun v H1 o1 s1 t1=>hb σ H1 _ o1 (f.same s1) fun u H2 o2 s2 t2=>by
 obtain ⟨a,vs,e1,g1,l1,m1,r1⟩:=(yI T lo hi).mo s2 t1
 obtain ⟨b,us,e2,g2,l2,m2,r2⟩:=t2
 refine ⟨a,b,vs,us,e1,e2,w.out g1,w.out g2,zZ (Nat.le_trans (Nat.add_le_add m1 m2) hm),fun p hp=>?_⟩
 obtain ⟨o3,s3,e3⟩:=w.new (.lst (vs ++ us)) o2 hp
 refine q (.ref p) _ o3 (s1.trans (s2.trans s3)) ⟨p,_,rfl,e3,by rw [List.length_append]; omega,by rw [List.length_append]; omega,fun x hx=>?_⟩
 rcases List.mem_append.mp hx with hx | hx
 ·exact T.mo s3 (r1 x hx)
 ·exact T.mo s3 (r2 x hx)
theorem TpB.nil {T : Ty} : TpB w Γ YJ T 0:=fun σ H Q o f q=>q [] H o (Same.refl _) rfl (by simp)
theorem TpB.cons {T : Ty} {t : TA} (h : Tp w Γ te T) (ht : TpB w Γ t T m) : TpB w Γ (wI te t) T (m + 1):=fun σ H Q o f q=>h σ H _ o f fun v H1 o1 s1 t1=>ht σ H1 _ o1 (f.same s1) fun vs H2 o2 s2 e2 t2=>q (v :: vs) H2 o2 (s1.trans s2) (by rw [List.length_cons,e2]) fun u hu=>by
 rcases List.mem_cons.mp hu with rfl | hu
 ·exact T.mo s2 t1
 ·exact t2 u hu
theorem Tp.lstT {T : Ty} {t : TA} (h : TpB w Γ t T m) (hm : m≤10000:=by decide) : Tp w Γ (JS t) (yI T m m):=fun σ H Q o f q=>h σ H _ o f fun vs H1 o1 s1 e1 t1=>⟨zZ (by rw [e1]; exact hm),fun p hp=>by
 obtain ⟨o2,s2,e2⟩:=w.new (.lst vs) o1 hp
 exact q (.ref p) _ o2 (s1.trans s2) ⟨p,vs,rfl,e2,Nat.le_of_eq e1.symm,Nat.le_of_eq e1,fun u hu=>T.mo s2 (t1 u hu)⟩⟩
theorem Tp.wideL {T T' : Ty} (h : Tp w Γ te (yI T lo hi)) (s : ∀ G v,T.p G v->T'.p G v) (h1 : lo'≤lo) (h2 : hi≤hi') : Tp w Γ te (yI T' lo' hi'):=h.sub fun G v ⟨a,vs,e,g,l,m,r⟩=>⟨a,vs,e,g,Nat.le_trans h1 l,Nat.le_trans m h2,fun u hu=>s G u (r u hu)⟩
theorem Tp.ofLI (h : Tp w Γ te (yI (tyI i j) lo' hi')) (h1 : -(10 ^ 29)≤i:=by decide) (h2 : j≤10 ^ 29:=by decide) : Tp w Γ te (tyL 0 100 lo' hi'):=h.wideL (fun G v ⟨x,e,a,b⟩=>by rw [e]; exact Th.int (by omega) (Nat.le_refl _)) (Nat.le_refl _) (Nat.le_refl _)
end
def TpS (w : View) (Γ : Cxt) (ts : TS) (Γ' : Cxt) (T : Ty) : Prop:=∀ (D : Ends) (σ : St) (H : Hp),w.ok H->Fits Γ (w.v H) σ->(∀ σ' H',w.ok H'->Same (w.v H) (w.v H')->Fits Γ' (w.v H') σ'->D.nx σ' H')->(∀ v H',w.ok H'->Same (w.v H) (w.v H')->T.p (w.v H') v->D.rt v H')->ts D σ H
section
variable {w : View} {Γ Γ1 Γ2 : Cxt} {te : TE} {t u : TS} {T T1 : Ty}
theorem TpS.seq (h1 : TpS w Γ t Γ1 T) (h2 : TpS w Γ1 u Γ2 T) : TpS w Γ (Ud t u) Γ2 T:=fun D σ H o f qn qr=>h1 _ σ H o f (fun σ1 H1 o1 s1 f1=>h2 D σ1 H1 o1 f1 (fun σ2 H2 o2 s2 f2=>qn σ2 H2 o2 (s1.trans s2) f2) (fun v H2 o2 s2 r2=>qr v H2 o2 (s1.trans s2) r2)) qr
theorem TpS.asg {i : Nat} (h : Tp w Γ te T1) : TpS w Γ (zam te (YS i)) (Γ.set i (some T1)) T:=fun D σ H o f qn qr=>h σ H _ o f fun v H1 o1 s1 t1=>qn _ H1 o1 s1 ((f.same s1).set t1)
theorem TpS.weak {Γ' : Cxt} (f : ∀ G σ,Fits Γ G σ->Fits Γ' G σ) (h : TpS w Γ' t Γ2 T) : TpS w Γ t Γ2 T:=fun D σ H o g qn qr=>h D σ H o (f _ _ g) qn qr
theorem TpS.sub {T' : Ty} (h : TpS w Γ t Γ2 T) (s : ∀ G v,T.p G v->T'.p G v) : TpS w Γ t Γ2 T':=fun D σ H o g qn qr=>h D σ H o g qn fun v H1 o1 s1 t1=>qr v H1 o1 s1 (s _ _ t1)
theorem TpS.ret (h : Tp w Γ te T) : TpS w Γ (zfN te) Γ2 T:=fun D σ H o f qn qr=>h σ H _ o f qr
end
theorem TpS.go {w : View} {Γ Γ' : Cxt} {ts : TS} {T : Ty} {D : Ends} {σ : St} {H : Hp} (h : TpS w Γ ts Γ' T) (o : w.ok H) (f : Fits Γ (w.v H) σ) (qn : ∀ σ' H',w.ok H'->Same (w.v H) (w.v H')->Fits Γ' (w.v H') σ'->D.nx σ' H') (qr : ∀ v H',w.ok H'->Same (w.v H) (w.v H')->T.p (w.v H') v->D.rt v H') : ts D σ H:=h D σ H o f qn qr
theorem Tp.asg2 {w : View} {Γ : Cxt} {te : TE} {T1 : Ty} {u : TS} {i : Nat} {D : Ends} {σ : St} {H : Hp} (h : Tp w Γ te T1) (o : w.ok H) (f : Fits Γ (w.v H) σ) (q : ∀ v H',w.ok H'->Same (w.v H) (w.v H')->T1.p (w.v H') v->u D (σ.set i (some v)) H') : Ud (zam te (YS i)) u D σ H:=h σ H _ o f q
theorem Fits.any : ∀ {G : Hp} (σ : St),Fits (σ.map fun _=>none) G σ:=fun {G} σ=>⟨by rw [List.length_map],fun i T h=>by rw [List.getElem?_map] at h; cases e : σ[i]? with | none=>rw [e] at h; cases h | some x=>rw [e] at h; cases h⟩
def zc1 : Ty:=⟨fun _ _=>False,fun _ h=>h⟩
theorem Fits.no {G : Hp} {σ : St} (f : Fits [some zc1] G σ) : False:=let ⟨_,_,h⟩:=f.2 0 zc1 rfl; h
def CSub : Cxt->Cxt->Prop
 | [],[]=>True
 | _ :: Γ,none :: Γ'=>CSub Γ Γ'
 | some T :: Γ,some T' :: Γ'=>(∀ G v,T.p G v->T'.p G v)∧CSub Γ Γ'
 | _,_=>False
theorem CSub.fits : ∀ {Γ Γ' : Cxt} {G : Hp} {σ : St},CSub Γ Γ'->Fits Γ G σ->Fits Γ' G σ
 | [],[],_,_,_,f=>f
 | [],_ :: _,_,_,h,_=>by simp [CSub] at h
 | _ :: _,[],_,_,h,_=>by simp [CSub] at h
 | a :: Γ,none :: Γ',G,[],h,f=>by have:=f.1; simp at this
 | a :: Γ,none :: Γ',G,v :: σ,h,f=>Fits.skip (CSub.fits (Γ:=Γ) (by rw [CSub] at h; exact h) ⟨by simpa using f.1,fun i T e=>f.2 (i + 1) T e⟩)
 | none :: Γ,some T' :: Γ',G,σ,h,f=>by simp [CSub] at h
 | some T :: Γ,some T' :: Γ',G,[],h,f=>by have:=f.1; simp at this
 | some T :: Γ,some T' :: Γ',G,v :: σ,h,f=>by
  obtain ⟨u,e,q⟩:=f.2 0 T rfl
  have e : v = some u:=by simpa using e
  subst e
  exact Fits.cons (h.1 _ _ q) (CSub.fits (Γ:=Γ) h.2 ⟨by simpa using f.1,fun i T e=>f.2 (i + 1) T e⟩)
def jQ (vs : List V) : Ty:=⟨fun G v=>∃ a,v = .ref a∧G a = some (.lst vs),fun s ⟨a,e,h⟩=>⟨a,e,s _ _ h⟩⟩
def tyX (e C : Addr) : Ty:=⟨fun G v=>v = .ref e∧G e = some (Vw e C),fun s h=>⟨h.1,s _ _ h.2⟩⟩
def idV : View:=⟨id,fun _=>True,fun h=>h,fun o _ h=>⟨trivial,zq h,zj⟩⟩
def TpE (w : View) (Γ : Cxt) (ta : TA) (vs : List V) : Prop:=∀ (σ : St) (H : Hp) (Q : List V->Hp->Prop),w.ok H->Fits Γ (w.v H) σ->(∀ H',w.ok H'->Same (w.v H) (w.v H')->Q vs H')->ta σ H Q
section
variable {w : View} {Γ : Cxt} {te ta tb : TE} {K : PySem.W.Frag} {vs us : List V}
theorem TpE.nil : TpE w Γ YJ []:=fun σ H Q o f q=>q H o (Same.refl _)
theorem TpE.cons {t : TA} {v : V} (h : Tp w Γ te (QQ v)) (ht : TpE w Γ t vs) : TpE w Γ (wI te t) (v :: vs):=fun σ H Q o f q=>h σ H _ o f fun u H1 o1 s1 e1=>ht σ H1 _ o1 (f.same s1) fun H2 o2 s2=>by
 rw [show u = v from e1]; exact q H2 o2 (s1.trans s2)
theorem Tp.lstE {t : TA} (h : TpE w Γ t vs) (hm : vs.length≤10000:=by first | decide | simp) : Tp w Γ (JS t) (jQ vs):=fun σ H Q o f q=>h σ H _ o f fun H1 o1 s1=>⟨zZ hm,fun p hp=>by
 obtain ⟨o2,s2,e2⟩:=w.new (.lst vs) o1 hp
 exact q (.ref p) _ o2 (s1.trans s2) ⟨p,rfl,e2⟩⟩
theorem Tp.catE (ha : Tp w Γ ta (jQ vs)) (hb : Tp w Γ tb (jQ us)) (hm : vs.length + us.length≤10000:=by first | decide | simp) : Tp w Γ (tOp QT ta tb) (jQ (vs ++ us)):=fun σ H Q o f q=>ha σ H _ o f fun v H1 o1 s1 t1=>hb σ H1 _ o1 (f.same s1) fun u H2 o2 s2 t2=>by
 obtain ⟨a,e1,g1⟩:=(jQ vs).mo s2 t1
 obtain ⟨b,e2,g2⟩:=t2
 refine ⟨a,b,vs,us,e1,e2,w.out g1,w.out g2,zZ hm,fun p hp=>?_⟩
 obtain ⟨o3,s3,e3⟩:=w.new (.lst (vs ++ us)) o2 hp
 exact q (.ref p) _ o3 (s1.trans (s2.trans s3)) ⟨p,rfl,e3⟩
theorem Tp.isiC {x : Nat} {e C N : Addr} {b : Bool} (hx : Γ[x]? = some (some (tyX e C))) (i : W4 K C) (k : PySem.W.kitOne K (.ref C) (.ref N) = some b) : Tp w Γ (tCB (zdB K) (wI (Um x) (wI (tC (.ref N)) YJ))) (QQ (.bl b)):=fun σ H Q o f q=>by
 obtain ⟨v,ev,rfl,he⟩:=f.2 x _ hx
 exact ⟨_,ev,e,C,_,_,_,rfl,rfl,(fun _ h=>h),w.out he,i,k,q _ H o (Same.refl _) rfl⟩
end
def tyQ (k n : Nat) (P : PyData->Bool) : Ty:=⟨fun G v=>∃ d,ThAt G d v∧Fit k n d∧P d = true,fun s ⟨d,h,f,p⟩=>⟨d,h.same s,f,p⟩⟩
def noInt : PyData->Bool
 | .int _=>false
 | _=>true
section
variable {w : View} {Γ : Cxt} {te ta tb : TE} {K : PySem.W.Frag} {k n m k' n' m' lo hi : Nat} {i j : Int} {P P' : PyData->Bool}
theorem Fit.le {d : PyData} (f : Fit k n d) (hk : k≤k') (hn : n≤n') : Fit k' n' d:=⟨f.ls,f.sh,Nat.le_trans f.dp hk,Nat.le_trans f.wt hn⟩
theorem Th.q {G : Hp} {v : V} (t : Th G k n v) (h : ∀ d,ThAt G d v->P d = true) : (tyQ k n P).p G v:=let ⟨d,a,f⟩:=t; ⟨d,a,f,h d a⟩
theorem tyQ.th {G : Hp} {v : V} (t : (tyQ k n P).p G v) : Th G k n v:=let ⟨d,a,f,_⟩:=t; ⟨d,a,f⟩
theorem Tp.qN (h : Tp w Γ te (tyQ k n noInt)) (hP : ∀ d,noInt d = true->P d = true) (hk : k≤k':=by decide) (hn : n≤n':=by decide) : Tp w Γ te (tyQ k' n' P):=h.sub fun G v ⟨d,a,f,p⟩=>⟨d,a,f.le hk hn,hP d p⟩
theorem Tp.qI (h : Tp w Γ te (tyI i j)) (hP : ∀ x,i≤x->x≤j->P (.int x) = true) (h1 : -(10 ^ 29)≤i:=by decide) (h2 : j≤10 ^ 29:=by decide) (hn : 100≤n':=by decide) : Tp w Γ te (tyQ k' n' P):=h.sub fun G v ⟨x,e,a,b⟩=>by
 rw [e]
 exact (Th.int (by omega) hn).q fun d t=>by
  cases d <;> rw [ThAt] at t <;> first | (obtain ⟨_,_,z,_⟩:=t; cases z; done) | (obtain ⟨_,_,z,_⟩:=t; cases z; done) | (cases t; done) | (injection t with t; rw [← t]; exact hP x a b)
theorem Tp.nonN : Tp w Γ (tC .non) (tyQ 0 0 noInt):=fun σ H Q o f q=>q _ H o (Same.refl _) (Th.non.q fun d t=>by cases d <;> rw [ThAt] at t <;> first | rfl | cases t)
theorem Tp.blN {b : Bool} : Tp w Γ (tC (.bl b)) (tyQ 0 0 noInt):=fun σ H Q o f q=>q _ H o (Same.refl _) (Th.bl.q fun d t=>by cases d <;> rw [ThAt] at t <;> first | rfl | cases t)
theorem Tp.strN {x : Str} (h : (x.cps.toList.all fun c=>decide (c < 16 ^ 8)) = true) (hn : x.cps.size≤100) : Tp w Γ (tC (.str x)) (tyQ 0 100 noInt):=fun σ H Q o f q=>q _ H o (Same.refl _) ((Th.str h hn).q fun d t=>by cases d <;> rw [ThAt] at t <;> first | rfl | cases t)
theorem We {G : Hp} {a : Addr} {d : PyData} (t : ThAt G d (.ref a)) : noInt d = true:=by cases d <;> first | rfl | (rw [ThAt] at t; cases t)
theorem Tp.lN (h : Tp w Γ te (tyL k n lo hi)) : Tp w Γ te (tyQ (k + 1) ((n + 1) * hi) noInt):=h.sub fun G v ⟨a,vs,e,h1,_,h2,h3⟩=>by
 rw [e]; exact (Th.lst h1 h3 (Nat.mul_le_mul_left _ h2)).q fun d t=>We t
theorem Tp.tupN {t : TA} (h : TpA w Γ t k n m) (hm : m≤10000:=by decide) : Tp w Γ (zb8 t) (tyQ (k + 1) ((n + 1) * m) noInt):=fun σ H Q o f q=>h σ H _ o f fun vs H1 o1 s1 e1 t1=>⟨zZ (by rw [e1]; exact hm),fun p hp=>by
 obtain ⟨o2,s2,e2⟩:=w.new (.tup vs) o1 hp
 exact q (.ref p) _ o2 (s1.trans s2) ((Th.tup e2 (fun u hu=>(t1 u hu).same s2) (by rw [e1]; exact Nat.le_refl _)).q fun d t=>We t)⟩
theorem Tp.empN : Tp w Γ Jk (tyQ 1 0 noInt):=fun σ H Q o f q p hp=>by
 obtain ⟨o2,s2,e2⟩:=w.new (.dK []) o hp
 exact q (.ref p) _ o2 s2 ((Th.emp e2 (Nat.le_refl _)).q fun d t=>We t)
end
mutual
theorem ThAt.uniq {H : Hp} : ∀ {d e : PyData} {v : V},ThAt H d v->ThAt H e v->d = e
 | .none,e,v,h,g=>by rw [ThAt] at h; subst h; cases e <;> rw [ThAt] at g <;> first | (obtain ⟨a,ys,z,_⟩:=g; cases z; done) | (obtain ⟨_,a,z,_⟩:=g; cases z; done) | rfl | (cases g; done)
 | .bool b,e,v,h,g=>by rw [ThAt] at h; subst h; cases e <;> rw [ThAt] at g <;> first | (obtain ⟨a,ys,z,_⟩:=g; cases z; done) | (obtain ⟨_,a,z,_⟩:=g; cases z; done) | (cases g; rfl) | (cases g; done)
 | .int i,e,v,h,g=>by rw [ThAt] at h; subst h; cases e <;> rw [ThAt] at g <;> first | (obtain ⟨a,ys,z,_⟩:=g; cases z; done) | (obtain ⟨_,a,z,_⟩:=g; cases z; done) | (cases g; rfl) | (cases g; done)
 | .str x,e,v,h,g=>by rw [ThAt] at h; subst h; cases e <;> rw [ThAt] at g <;> first | (obtain ⟨a,ys,z,_⟩:=g; cases z; done) | (obtain ⟨_,a,z,_⟩:=g; cases z; done) | (cases g; rfl) | (cases g; done)
 | .list xs,e,v,h,g=>by
  rw [ThAt] at h
  obtain ⟨a,ys,rfl,h2,h3⟩:=h
  cases e with
  | list xs' =>
   rw [ThAt] at g
   obtain ⟨b,zs,z,g2,g3⟩:=g
   cases z
   rw [h2] at g2; cases g2
   rw [ThsAt.uniq h3 g3]
  | tuple xs'=>rw [ThAt] at g; obtain ⟨b,zs,z,g2,g3⟩:=g; cases z; rw [h2] at g2; cases g2
  | dict kvs=>rw [ThAt] at g; obtain ⟨_,b,z,g2⟩:=g; cases z; rw [h2] at g2; cases g2
  | none=>rw [ThAt] at g; cases g
  | bool _=>rw [ThAt] at g; cases g
  | int _=>rw [ThAt] at g; cases g
  | str _=>rw [ThAt] at g; cases g
 | .tuple xs,e,v,h,g=>by
  rw [ThAt] at h
  obtain ⟨a,ys,rfl,h2,h3⟩:=h
  cases e with
  | tuple xs' =>
   rw [ThAt] at g
   obtain ⟨b,zs,z,g2,g3⟩:=g
   cases z
   rw [h2] at g2; cases g2
   rw [ThsAt.uniq h3 g3]
  | list xs'=>rw [ThAt] at g; obtain ⟨b,zs,z,g2,g3⟩:=g; cases z; rw [h2] at g2; cases g2
  | dict kvs=>rw [ThAt] at g; obtain ⟨_,b,z,g2⟩:=g; cases z; rw [h2] at g2; cases g2
  | none=>rw [ThAt] at g; cases g
  | bool _=>rw [ThAt] at g; cases g
  | int _=>rw [ThAt] at g; cases g
  | str _=>rw [ThAt] at g; cases g
 | .dict kvs,e,v,h,g=>by
  rw [ThAt] at h
  obtain ⟨rfl,a,rfl,h2⟩:=h
  cases e with
  | dict kvs'=>rw [ThAt] at g; obtain ⟨rfl,b,z,g2⟩:=g; rfl
  | list xs'=>rw [ThAt] at g; obtain ⟨b,zs,z,g2,g3⟩:=g; cases z; rw [h2] at g2; cases g2
  | tuple xs'=>rw [ThAt] at g; obtain ⟨b,zs,z,g2,g3⟩:=g; cases z; rw [h2] at g2; cases g2
  | none=>rw [ThAt] at g; cases g
  | bool _=>rw [ThAt] at g; cases g
  | int _=>rw [ThAt] at g; cases g
  | str _=>rw [ThAt] at g; cases g
theorem ThsAt.uniq {H : Hp} : ∀ {ds es : List PyData} {ys : List V},ThsAt H ds ys->ThsAt H es ys->ds = es
 | [],es,ys,h,g=>by
  rw [ThsAt] at h; subst h
  cases es with
  | nil=>rfl
  | cons e es=>rw [ThsAt] at g; obtain ⟨y,zs,z,_⟩:=g; cases z
 | d :: ds,es,ys,h,g=>by
  rw [ThsAt] at h
  obtain ⟨y,zs,rfl,h2,h3⟩:=h
  cases es with
  | nil=>rw [ThsAt] at g; cases g
  | cons e es =>
   rw [ThsAt] at g
   obtain ⟨y',zs',z,g2,g3⟩:=g
   cases z
   rw [ThAt.uniq h2 g2,ThsAt.uniq h3 g3]
end
theorem Th.fit {H : Hp} {k n : Nat} {v : V} {d : PyData} (t : Th H k n v) (h : ThAt H d v) : Fit k n d:=by
 obtain ⟨e,g,f⟩:=t
 rw [h.uniq g]; exact f
theorem ThsAt.map {α : Type} {H : Hp} {f : α->PyData} {g : α->V} : ∀ {xs : List α},(∀ x ∈ xs,ThAt H (f x) (g x))->ThsAt H (xs.map f) (xs.map g)
 | [],_=>by rw [List.map_nil,List.map_nil,ThsAt]
 | x :: xs,h=>by
  rw [List.map_cons,List.map_cons,ThsAt]
  exact ⟨_,_,rfl,h x (.head _),ThsAt.map fun y hy=>h y (.tail _ hy)⟩
theorem ThAt.ints {H : Hp} {a : Addr} {ns : List Int} (h : H a = some (.lst (ns.map V.int))) : ThAt H (.list (ns.map .int)) (.ref a):=by
 rw [ThAt]
 exact ⟨a,_,rfl,h,ThsAt.map fun i _=>by rw [ThAt]⟩
end L2
namespace L2
open PySem PyProof.Rows
def shT : PyData->Nat
 | .none=>0 | .bool _=>1 | .int _=>2 | .str _=>3 | .list _=>4 | .tuple _=>5 | .dict _=>6
def tyS (k n s : Nat) : Ty:=⟨fun G v=>∃ d,ThAt G d v∧Fit k n d∧shT d = s,fun s ⟨d,h,f,p⟩=>⟨d,h.same s,f,p⟩⟩
def tyD (d : PyData) : Ty:=⟨fun G v=>ThAt G d v,fun s h=>h.same s⟩
def zaT (k n lo hi : Nat) (P : PyData->Bool) : Ty:=⟨fun G v=>∃ a vs,v = .ref a∧G a = some (.lst vs)∧lo≤vs.length∧vs.length≤hi∧(∀ u ∈ vs,Th G k n u)∧∃ u ∈ vs,(tyQ k n P).p G u,
 fun s ⟨a,vs,h1,h2,h3,h4,h5,u,h6,h7⟩=>⟨a,vs,h1,s _ _ h2,h3,h4,fun u hu=>(h5 u hu).same s,u,h6,(tyQ _ _ P).mo s h7⟩⟩
theorem Ths.ofL {H : Hp} {vs : List V} {ds : List PyData} (h : ThsAt H ds vs) : ∀ {j : Nat} {v : V},vs[j]? = some v->∃ d,ds[j]? = some d∧ThAt H d v:=fun e=>h.get e
theorem ThsAt.mem {H : Hp} {vs : List V} {ds : List PyData} (h : ThsAt H ds vs) {v : V} (hv : v ∈ vs) : ∃ d ∈ ds,ThAt H d v:=by
 obtain ⟨j,hj,rfl⟩:=List.mem_iff_getElem.mp hv
 obtain ⟨d,hd,t⟩:=h.get (List.getElem?_eq_getElem hj)
 exact ⟨d,List.mem_of_getElem? hd,t⟩
theorem ThsAt.back {H : Hp} : ∀ {ds : List PyData} {vs : List V},ThsAt H ds vs->∀ d ∈ ds,∃ v ∈ vs,ThAt H d v
 | [],_,_,d,hd=>by cases hd
 | e :: ds,vs,h,d,hd=>by
  rw [ThsAt] at h
  obtain ⟨y,zs,rfl,h1,h2⟩:=h
  rcases List.mem_cons.mp hd with rfl | hd
  ·exact ⟨y,.head _,h1⟩
  ·obtain ⟨v,hv,t⟩:=ThsAt.back h2 d hd
   exact ⟨v,.tail _ hv,t⟩
theorem ThsAt.drop {H : Hp} : ∀ (k : Nat) {ds : List PyData} {vs : List V},ThsAt H ds vs->ThsAt H (ds.drop k) (vs.drop k)
 | 0,_,_,h=>h
 | k + 1,[],vs,h=>by rw [ThsAt] at h; subst h; rw [List.drop_nil,List.drop_nil,ThsAt]
 | k + 1,d :: ds,vs,h=>by
  rw [ThsAt] at h
  obtain ⟨y,zs,rfl,h1,h2⟩:=h
  exact ThsAt.drop k h2
theorem ThsAt.take {H : Hp} : ∀ (k : Nat) {ds : List PyData} {vs : List V},ThsAt H ds vs->ThsAt H (ds.take k) (vs.take k)
 | 0,_,_,h=>by rw [List.take_zero,List.take_zero,ThsAt]
 | k + 1,[],vs,h=>by rw [ThsAt] at h; subst h; rw [List.take_nil,List.take_nil,ThsAt]
 | k + 1,d :: ds,vs,h=>by
  rw [ThsAt] at h
  obtain ⟨y,zs,rfl,h1,h2⟩:=h
  rw [List.take_succ_cons,List.take_succ_cons,ThsAt]
  exact ⟨_,_,rfl,h1,ThsAt.take k h2⟩
theorem ThsAt.rev {H : Hp} : ∀ {ds : List PyData} {vs : List V},ThsAt H ds vs->ThsAt H ds.reverse vs.reverse
 | [],vs,h=>by rw [ThsAt] at h; subst h; rw [List.reverse_nil,List.reverse_nil,ThsAt]
 | d :: ds,vs,h=>by
  rw [ThsAt] at h
  obtain ⟨y,zs,rfl,h1,h2⟩:=h
  rw [List.reverse_cons,List.reverse_cons]
  exact (ThsAt.rev h2).app (by rw [ThsAt]; exact ⟨_,_,rfl,h1,by rw [ThsAt]⟩)
theorem ThsAt.rep {H : Hp} {ds : List PyData} {vs : List V} : ∀ (c : Nat),ThsAt H ds vs->ThsAt H (List.replicate c ds).flatten (List.replicate c vs).flatten
 | 0,h=>by rw [List.replicate_zero,List.replicate_zero,List.flatten_nil,List.flatten_nil,ThsAt]
 | c + 1,h=>by
  rw [List.replicate_succ,List.replicate_succ,List.flatten_cons,List.flatten_cons]
  exact h.app (ThsAt.rep c h)
theorem ThAt.lst {H : Hp} {a : Addr} {ds : List PyData} {vs : List V} (h : H a = some (.lst vs)) (t : ThsAt H ds vs) : ThAt H (.list ds) (.ref a):=by rw [ThAt]; exact ⟨a,vs,rfl,h,t⟩
theorem ThAt.list_inv {H : Hp} {a : Addr} {ds : List PyData} {vs : List V} (h : H a = some (.lst vs)) (t : ThAt H (.list ds) (.ref a)) : ThsAt H ds vs:=by
 rw [ThAt] at t
 obtain ⟨b,us,e,h1,h2⟩:=t
 cases e
 rw [h] at h1; cases h1
 exact h2
theorem Xv {H : Hp} {a : Addr} {d : PyData} {vs : List V} (h : H a = some (.lst vs)) (t : ThAt H d (.ref a)) : ∃ ds,d = .list ds∧ThsAt H ds vs:=by
 cases d with
 | list ds=>exact ⟨ds,rfl,t.list_inv h⟩
 | tuple ds=>rw [ThAt] at t; obtain ⟨b,us,e,h1,_⟩:=t; cases e; rw [h] at h1; cases h1
 | dict _=>rw [ThAt] at t; obtain ⟨_,b,e,h1⟩:=t; cases e; rw [h] at h1; cases h1
 | none=>rw [ThAt] at t; cases t
 | bool _=>rw [ThAt] at t; cases t
 | int _=>rw [ThAt] at t; cases t
 | str _=>rw [ThAt] at t; cases t
theorem Q7 {H : Hp} {a : Addr} {d : PyData} {vs : List V} (h : H a = some (.tup vs)) (t : ThAt H d (.ref a)) : ∃ ds,d = .tuple ds∧ThsAt H ds vs:=by
 cases d with
 | tuple ds=>rw [ThAt] at t; obtain ⟨b,us,e,h1,h2⟩:=t; cases e; rw [h] at h1; cases h1; exact ⟨ds,rfl,h2⟩
 | list ds=>rw [ThAt] at t; obtain ⟨b,us,e,h1,_⟩:=t; cases e; rw [h] at h1; cases h1
 | dict _=>rw [ThAt] at t; obtain ⟨_,b,e,h1⟩:=t; cases e; rw [h] at h1; cases h1
 | none=>rw [ThAt] at t; cases t
 | bool _=>rw [ThAt] at t; cases t
 | int _=>rw [ThAt] at t; cases t
 | str _=>rw [ThAt] at t; cases t
section
variable {w : View} {Γ : Cxt} {te ta tb : TE} {K : PySem.W.Frag} {k n m k' n' m' lo hi lo' hi' s : Nat} {i j : Int} {P P' : PyData->Bool} {d e : PyData}
theorem Tp.sQ (h : Tp w Γ te (tyS k n s)) (hP : ∀ d,shT d = s->P d = true) (hk : k≤k':=by decide) (hn : n≤n':=by decide) : Tp w Γ te (tyQ k' n' P):=h.sub fun G v ⟨d,a,f,p⟩=>⟨d,a,f.le hk hn,hP d p⟩
theorem Th.sh {G : Hp} {v : V} (t : Th G k n v) (h : ∀ d,ThAt G d v->shT d = s) : (tyS k n s).p G v:=let ⟨d,a,f⟩:=t; ⟨d,a,f,h d a⟩
theorem Tp.nonS : Tp w Γ (tC .non) (tyS 0 0 0):=fun σ H Q o f q=>q _ H o (Same.refl _) (Th.non.sh fun d t=>by rw [t.uniq (e:=.none) (by rw [ThAt])]; rfl)
theorem Tp.blS {b : Bool} : Tp w Γ (tC (.bl b)) (tyS 0 0 1):=fun σ H Q o f q=>q _ H o (Same.refl _) (Th.bl.sh fun d t=>by rw [t.uniq (e:=.bool b) (by rw [ThAt])]; rfl)
theorem Tp.strS {x : Str} (h : (x.cps.toList.all fun c=>decide (c < 16 ^ 8)) = true) (hn : x.cps.size≤100) : Tp w Γ (tC (.str x)) (tyS 0 100 3):=fun σ H Q o f q=>q _ H o (Same.refl _) ((Th.str h hn).sh fun d t=>by rw [t.uniq (e:=.str x) (by rw [ThAt])]; rfl)
theorem Tp.lS (h : Tp w Γ te (tyL k n lo hi)) : Tp w Γ te (tyS (k + 1) ((n + 1) * hi) 4):=h.sub fun G v ⟨a,vs,e,h1,_,h2,h3⟩=>by
 rw [e]; exact (Th.lst h1 h3 (Nat.mul_le_mul_left _ h2)).sh fun d t=>by obtain ⟨_,rfl,_⟩:=Xv h1 t; rfl
theorem Tp.empS : Tp w Γ Jk (tyS 1 0 6):=fun σ H Q o f q p hp=>by
 obtain ⟨o2,s2,e2⟩:=w.new (.dK []) o hp
 exact q (.ref p) _ o2 s2 ⟨.dict [],by rw [ThAt]; exact ⟨rfl,p,rfl,e2⟩,Th.fit (Th.emp e2 (Nat.le_refl _)) (by rw [ThAt]; exact ⟨rfl,p,rfl,e2⟩),rfl⟩
theorem Tp.tupQ {t : TA} (h : TpA w Γ t k n m) (hP : ∀ ds : List PyData,ds.length = m->P (.tuple ds) = true) (hk : k + 1≤k':=by decide) (hn : (n + 1) * m≤n':=by decide) (hm : m≤10000:=by decide) : Tp w Γ (zb8 t) (tyQ k' n' P):=fun σ H Q o f q=>h σ H _ o f fun vs H1 o1 s1 e1 t1=>⟨zZ (by rw [e1]; exact hm),fun p hp=>by
 obtain ⟨o2,s2,e2⟩:=w.new (.tup vs) o1 hp
 exact q (.ref p) _ o2 (s1.trans s2) (((Th.tup e2 (fun u hu=>(t1 u hu).same s2) (by rw [e1]; exact Nat.le_refl _)).le hk hn).q fun d t=>by
  obtain ⟨ds,rfl,hd⟩:=Q7 e2 t
  exact hP ds (by rw [← hd.len,e1]))⟩
theorem Tp.tupOfS (h : Tp w Γ te (tyL k n lo hi)) : Tp w Γ (tCB (fun xs H Q=>∃ p ys,xs = [.ref p]∧((SqL K H p ys∧∀ l,H l = none->Q (.ref l) (upd H l (.tup ys)))∨(SqT K H p ys∧Q (.ref p) H))) (wI te YJ)) (tyS (k + 1) ((n + 1) * hi) 5):=fun σ H Q o f q=>h σ H _ o f fun v H1 o1 s1 ⟨a,vs,e1,g1,l1,m1,r1⟩=>⟨a,vs,by rw [e1],.inl ⟨SqL.of (w.out g1),fun p hp=>by
 obtain ⟨o4,s4,e4⟩:=w.new (.tup vs) o1 hp
 exact q (.ref p) _ o4 (s1.trans s4) ((Th.tup e4 (fun u hu=>(r1 u hu).same s4) (Nat.mul_le_mul_left _ m1)).sh fun d t=>by obtain ⟨_,rfl,_⟩:=Q7 e4 t; rfl)⟩⟩
theorem Tp.lenQ (h : Tp w Γ te (tyL k n lo hi)) (hP : ∀ ds : List PyData,lo≤ds.length->ds.length≤hi->P (.list ds) = true) (hk : k + 1≤k':=by decide) (hn : (n + 1) * hi≤n':=by decide) : Tp w Γ te (tyQ k' n' P):=h.sub fun G v ⟨a,vs,e,h1,l1,h2,h3⟩=>by
 rw [e]; exact ((Th.lst h1 h3 (Nat.mul_le_mul_left _ h2)).le hk hn).q fun d t=>by
  obtain ⟨ds,rfl,hd⟩:=Xv h1 t
  exact hP ds (by rw [← hd.len]; exact l1) (by rw [← hd.len]; exact h2)
theorem Tp.oneX (h : Tp w Γ te (tyQ k n P)) : Tp w Γ (JS (wI te YJ)) (zaT k n 1 1 P):=fun σ H Q o f q=>h σ H _ o f fun v H1 o1 s1 t1=>⟨zZ (by simp),fun p hp=>by
 obtain ⟨o2,s2,e2⟩:=w.new (.lst [v]) o1 hp
 have t2:=(tyQ k n P).mo s2 t1
 exact q (.ref p) _ o2 (s1.trans s2) ⟨p,[v],rfl,e2,Nat.le_refl _,Nat.le_refl _,fun u hu=>by rw [List.mem_singleton.mp hu]; exact tyQ.th t2,v,.head _,t2⟩⟩
theorem Tp.catXr (ha : Tp w Γ ta (tyL k n lo hi)) (hb : Tp w Γ tb (zaT k n lo' hi' P)) (hm : hi + hi'≤10000:=by decide) : Tp w Γ (tOp QT ta tb) (zaT k n (lo + lo') (hi + hi') P):=fun σ H Q o f q=>ha σ H _ o f fun v H1 o1 s1 t1=>hb σ H1 _ o1 (f.same s1) fun u H2 o2 s2 t2=>by
 obtain ⟨a,vs,e1,g1,l1,m1,r1⟩:=(tyL k n lo hi).mo s2 t1
 obtain ⟨b,us,e2,g2,l2,m2,r2,y,hy,ty⟩:=t2
 refine ⟨a,b,vs,us,e1,e2,w.out g1,w.out g2,zZ (Nat.le_trans (Nat.add_le_add m1 m2) hm),fun p hp=>?_⟩
 obtain ⟨o3,s3,e3⟩:=w.new (.lst (vs ++ us)) o2 hp
 refine q (.ref p) _ o3 (s1.trans (s2.trans s3)) ⟨p,_,rfl,e3,by rw [List.length_append]; omega,by rw [List.length_append]; omega,fun x hx=>?_,y,List.mem_append_right _ hy,(tyQ k n P).mo s3 ty⟩
 rcases List.mem_append.mp hx with hx | hx
 ·exact Th.same (r1 x hx) s3
 ·exact (r2 x hx).same s3
theorem Tp.catXl (ha : Tp w Γ ta (zaT k n lo hi P)) (hb : Tp w Γ tb (tyL k n lo' hi')) (hm : hi + hi'≤10000:=by decide) : Tp w Γ (tOp QT ta tb) (zaT k n (lo + lo') (hi + hi') P):=fun σ H Q o f q=>ha σ H _ o f fun v H1 o1 s1 t1=>hb σ H1 _ o1 (f.same s1) fun u H2 o2 s2 t2=>by
 obtain ⟨a,vs,e1,g1,l1,m1,r1,y,hy,ty⟩:=(zaT k n lo hi P).mo s2 t1
 obtain ⟨b,us,e2,g2,l2,m2,r2⟩:=t2
 refine ⟨a,b,vs,us,e1,e2,w.out g1,w.out g2,zZ (Nat.le_trans (Nat.add_le_add m1 m2) hm),fun p hp=>?_⟩
 obtain ⟨o3,s3,e3⟩:=w.new (.lst (vs ++ us)) o2 hp
 refine q (.ref p) _ o3 (s1.trans (s2.trans s3)) ⟨p,_,rfl,e3,by rw [List.length_append]; omega,by rw [List.length_append]; omega,fun x hx=>?_,y,List.mem_append_left _ hy,(tyQ k n P).mo s3 ty⟩
 rcases List.mem_append.mp hx with hx | hx
 ·exact (r1 x hx).same s3
 ·exact Th.same (r2 x hx) s3
theorem Tp.lxQ (h : Tp w Γ te (zaT k n lo hi P)) (hP : ∀ (ds : List PyData) d,d ∈ ds->P d = true->P' (.list ds) = true) (hk : k + 1≤k':=by decide) (hn : (n + 1) * hi≤n':=by decide) : Tp w Γ te (tyQ k' n' P'):=h.sub fun G v ⟨a,vs,e,h1,l1,h2,h3,y,hy,dy,ty,fy,py⟩=>by
 rw [e]; exact ((Th.lst h1 h3 (Nat.mul_le_mul_left _ h2)).le hk hn).q fun d t=>by
  obtain ⟨ds,rfl,hd⟩:=Xv h1 t
  obtain ⟨d2,hd2,t2⟩:=hd.mem hy
  exact hP ds d2 hd2 (by rw [t2.uniq ty]; exact py)
theorem Tp.leL (h : Tp w Γ te (tyL k n lo hi)) (hk : k≤k':=by decide) (hn : n≤n':=by decide) : Tp w Γ te (tyL k' n' lo hi):=h.wideL (fun _ _ t=>Th.le t hk hn) (Nat.le_refl _) (Nat.le_refl _)
theorem Tp.dQ (h : Tp w Γ te (tyD d)) (f : Fit k n d) (hP : P d = true) : Tp w Γ te (tyQ k n P):=h.sub fun G v t=>⟨d,t,f,hP⟩
theorem Tp.intD : Tp w Γ (tC (.int i)) (tyD (.int i)):=fun σ H Q o f q=>q _ H o (Same.refl _) (by show ThAt _ _ _; rw [ThAt])
theorem Tp.ofID (h : Tp w Γ te (tyI i i)) : Tp w Γ te (tyD (.int i)):=h.sub fun G v ⟨x,e,a,b⟩=>by
 show ThAt _ _ _
 rw [ThAt,e,show x = i by omega]
def TpD (w : View) (Γ : Cxt) (ta : TA) (ds : List PyData) : Prop:=∀ (σ : St) (H : Hp) (Q : List V->Hp->Prop),w.ok H->Fits Γ (w.v H) σ->(∀ vs H',w.ok H'->Same (w.v H) (w.v H')->ThsAt (w.v H') ds vs->Q vs H')->ta σ H Q
theorem ThsAt.same' {G G' : Hp} {ds : List PyData} {vs : List V} (h : ThsAt G ds vs) (m : Same G G') : ThsAt G' ds vs:=ThsAt.same m h
theorem TpD.nil : TpD w Γ YJ []:=fun σ H Q o f q=>q [] H o (Same.refl _) (by rw [ThsAt])
theorem TpD.cons {t : TA} {ds : List PyData} (h : Tp w Γ te (tyD d)) (ht : TpD w Γ t ds) : TpD w Γ (wI te t) (d :: ds):=fun σ H Q o f q=>h σ H _ o f fun v H1 o1 s1 t1=>ht σ H1 _ o1 (f.same s1) fun vs H2 o2 s2 t2=>q (v :: vs) H2 o2 (s1.trans s2) (by rw [ThsAt]; exact ⟨_,_,rfl,ThAt.same s2 t1,t2⟩)
theorem Tp.lstD {t : TA} {ds : List PyData} (h : TpD w Γ t ds) (hm : ds.length≤10000:=by first | decide | simp) : Tp w Γ (JS t) (tyD (.list ds)):=fun σ H Q o f q=>h σ H _ o f fun vs H1 o1 s1 t1=>⟨zZ (by rw [t1.len]; exact hm),fun p hp=>by
 obtain ⟨o2,s2,e2⟩:=w.new (.lst vs) o1 hp
 exact q (.ref p) _ o2 (s1.trans s2) (ThAt.lst e2 (t1.same' s2))⟩
theorem Tp.catD {ds es : List PyData} (ha : Tp w Γ ta (tyD (.list ds))) (hb : Tp w Γ tb (tyD (.list es))) (hm : ds.length + es.length≤10000) : Tp w Γ (tOp QT ta tb) (tyD (.list (ds ++ es))):=fun σ H Q o f q=>ha σ H _ o f fun v H1 o1 s1 t1=>hb σ H1 _ o1 (f.same s1) fun u H2 o2 s2 t2=>by
 have t1:=ThAt.same s2 t1
 have t2 : ThAt (w.v H2) (.list es) u:=t2
 rw [ThAt] at t1 t2
 obtain ⟨a,vs,e1,g1,r1⟩:=t1
 obtain ⟨b,us,e2,g2,r2⟩:=t2
 refine ⟨a,b,vs,us,e1,e2,w.out g1,w.out g2,zZ (by rw [r1.len,r2.len]; exact hm),fun p hp=>?_⟩
 obtain ⟨o3,s3,e3⟩:=w.new (.lst (vs ++ us)) o2 hp
 exact q (.ref p) _ o3 (s1.trans (s2.trans s3)) (ThAt.lst e3 ((r1.same' s3).app (r2.same' s3)))
theorem Tp.revD {ds : List PyData} (h : Tp w Γ te (tyD (.list ds))) : Tp w Γ (zcX K te) (tyD (.list ds.reverse)):=fun σ H Q o f q=>h σ H _ o f fun v H1 o1 s1 t1=>by
 have t1 : ThAt (w.v H1) (.list ds) v:=t1
 rw [ThAt] at t1
 obtain ⟨a,vs,e1,g1,r1⟩:=t1
 refine ⟨a,vs,e1,SqL.of (w.out g1),fun p hp=>?_⟩
 obtain ⟨o3,s3,e3⟩:=w.new (.lst vs.reverse) o1 hp
 exact q (.ref p) _ o3 (s1.trans s3) (ThAt.lst e3 (ThsAt.rev (r1.same' s3)))
theorem Tp.takeD {ds : List PyData} {c : Nat} (h : Tp w Γ te (tyD (.list ds))) : Tp w Γ (tSl (zd9 K) te Q8 (zdt (tC (.int c)))) (tyD (.list (ds.take c))):=fun σ H Q o f q=>h σ H _ o f fun v H1 o1 s1 t1=>⟨c,rfl,by
 have t1 : ThAt (w.v H1) (.list ds) v:=t1
 rw [ThAt] at t1
 obtain ⟨a,vs,e1,g1,r1⟩:=t1
 refine ⟨a,vs,e1,SqL.of (w.out g1),fun p hp=>?_⟩
 rw [zec]
 obtain ⟨o3,s3,e3⟩:=w.new (.lst (vs.take c)) o1 hp
 exact q (.ref p) _ o3 (s1.trans s3) (ThAt.lst e3 (ThsAt.take c (r1.same' s3)))⟩
theorem Tp.dL {ds : List PyData} (h : Tp w Γ te (tyD (.list ds))) (f : ∀ d ∈ ds,Fit k n d) : Tp w Γ te (tyL k n ds.length ds.length):=h.sub fun G v t=>by
 have t : ThAt G (.list ds) v:=t
 rw [ThAt] at t
 obtain ⟨a,vs,e,h1,h2⟩:=t
 refine ⟨a,vs,e,h1,by rw [h2.len]; exact Nat.le_refl _,by rw [h2.len]; exact Nat.le_refl _,fun u hu=>?_⟩
 obtain ⟨d,hd,td⟩:=h2.mem hu
 exact ⟨d,td,f d hd⟩
theorem Tp.repD {ds : List PyData} {c : Nat} (h : Tp w Γ te (tyD (.list ds))) (hm : ds.length * c≤10000:=by first | decide | simp) (hc : c≤10000:=by decide) : Tp w Γ (tOp zfe te (tC (.int c))) (tyD (.list (List.replicate c ds).flatten)):=fun σ H Q o f q=>h σ H _ o f fun v H1 o1 s1 t1=>by
 have t1 : ThAt (w.v H1) (.list ds) v:=t1
 rw [ThAt] at t1
 obtain ⟨a,vs,e1,g1,r1⟩:=t1
 refine ⟨a,c,vs,e1,rfl,w.out g1,by omega,by omega,zZ (by rw [r1.len,Int.toNat_natCast]; exact hm),fun p hp=>?_⟩
 rw [Int.toNat_natCast]
 obtain ⟨o3,s3,e3⟩:=w.new (.lst (List.replicate c vs).flatten) o1 hp
 refine q (.ref p) _ o3 (s1.trans s3) (ThAt.lst e3 ?_)
 exact ThsAt.rep c (r1.same' s3)
theorem Tp.end2 (ha : Tp w Γ ta (tyL k n lo hi)) {tx ty : TE} (hx : Tp w Γ tx (tyD d)) (hy : Tp w Γ ty (tyD e)) (fd : Fit k n d) (fe : Fit k n e) (hP : ∀ ds : List PyData,P (.list (ds ++ [d,e])) = true) (hm : hi + 2≤10000:=by decide) (hk : k + 1≤k':=by decide) (hn : (n + 1) * (hi + 2)≤n':=by decide) : Tp w Γ (tOp QT ta (JS (wI tx (wI ty YJ)))) (tyQ k' n' P):=fun σ H Q o f q=>ha σ H _ o f fun v H1 o1 s1 t1=>hx σ H1 _ o1 (f.same s1) fun x H2 o2 s2 t2=>hy σ H2 _ o2 ((f.same s1).same s2) fun y H3 o3 s3 t3=>⟨zZ (by simp),fun p hp=>by
 obtain ⟨o4,s4,e4⟩:=w.new (.lst [x,y]) o3 hp
 obtain ⟨a,vs,e1,g1,l1,m1,r1⟩:=(tyL k n lo hi).mo ((s2.trans s3).trans s4) t1
 refine ⟨a,p,vs,_,e1,rfl,w.out g1,w.out e4,zZ (Nat.le_trans (Nat.add_le_add m1 (Nat.le_refl _)) hm),fun l hl=>?_⟩
 obtain ⟨o5,s5,e5⟩:=w.new (.lst (vs ++ [x,y])) o4 hl
 have tx : ThAt _ d x:=ThAt.same ((s3.trans s4).trans s5) t2
 have ty : ThAt _ e y:=ThAt.same (s4.trans s5) t3
 refine q (.ref l) _ o5 ((s1.trans s2).trans ((s3.trans s4).trans s5)) (((Th.lst (n':=(n + 1) * (hi + 2)) e5 (fun u hu=>?_) (Nat.mul_le_mul_left _ (by rw [List.length_append]; show vs.length + 2≤_; omega))).le hk hn).q fun dd t=>?_)
 ·rcases List.mem_append.mp hu with hu | hu
  ·exact Th.same (r1 u hu) s5
  ·simp only [List.mem_cons,List.not_mem_nil,or_false] at hu
   rcases hu with rfl | rfl
   ·exact ⟨d,tx,fd⟩
   ·exact ⟨e,ty,fe⟩
 ·obtain ⟨ds,rfl,hd⟩:=Xv e5 t
  have h1:=ThsAt.take vs.length hd
  have h2:=ThsAt.drop vs.length hd
  rw [List.drop_left] at h2
  have : ds.drop vs.length = [d,e]:=h2.uniq (by rw [ThsAt]; exact ⟨_,_,rfl,tx,by rw [ThsAt]; exact ⟨_,_,rfl,ty,by rw [ThsAt]⟩⟩)
  rw [← List.take_append_drop vs.length ds,this]
  exact hP _⟩
theorem Tp.tup2 {tx ty : TE} (hx : Tp w Γ tx (tyQ k n P)) (hy : Tp w Γ ty (tyQ k n P')) {R : PyData->Bool} (hP : ∀ d e,P d = true->P' e = true->R (.tuple [d,e]) = true) (hk : k + 1≤k':=by decide) (hn : (n + 1) * 2≤n':=by decide) : Tp w Γ (zb8 (wI tx (wI ty YJ))) (tyQ k' n' R):=fun σ H Q o f q=>hx σ H _ o f fun x H1 o1 s1 t1=>hy σ H1 _ o1 (f.same s1) fun y H2 o2 s2 t2=>⟨zZ (by simp),fun p hp=>by
 obtain ⟨o4,s4,e4⟩:=w.new (.tup [x,y]) o2 hp
 obtain ⟨d,td,fd,pd⟩:=(tyQ k n P).mo (s2.trans s4) t1
 obtain ⟨e,te,fe,pe⟩:=(tyQ k n P').mo s4 t2
 refine q (.ref p) _ o4 ((s1.trans s2).trans s4) (((Th.tup (n':=(n + 1) * 2) e4 (fun u hu=>?_) (Nat.le_refl _)).le hk hn).q fun dd t=>?_)
 ·simp only [List.mem_cons,List.not_mem_nil,or_false] at hu
  rcases hu with rfl | rfl
  ·exact ⟨d,td,fd⟩
  ·exact ⟨e,te,fe⟩
 ·obtain ⟨ds,rfl,hd⟩:=Q7 e4 t
  have : ds = [d,e]:=hd.uniq (by rw [ThsAt]; exact ⟨_,_,rfl,td,by rw [ThsAt]; exact ⟨_,_,rfl,te,by rw [ThsAt]⟩⟩)
  rw [this]; exact hP d e pd pe⟩
theorem U0 {G : Hp} {σ : St} {Γ : Cxt} (f : Fits Γ G σ) : ∀ js : List Nat,Fits (js.map fun j=>(Γ[j]?).join) G (qm js σ)
 | []=>Fits.nil
 | j :: js=>by
  have ih:=U0 f js
  show Fits ((Γ[j]?).join :: js.map fun j=>(Γ[j]?).join) G ((σ[j]?).join :: qm js σ)
  cases e : Γ[j]? with
  | none=>exact Fits.skip ih
  | some T =>
   cases T with
   | none=>exact Fits.skip ih
   | some T =>
    obtain ⟨v,ev,q⟩:=f.2 j T e
    rw [ev]
    exact Fits.cons q ih
theorem Tp.compC {js : List Nat} {ti : TE} {T : Ty} (hi' : Tp w Γ ti (tyI lo hi)) (h : Tp w (some (tyI 0 (hi - 1)) :: js.map fun j=>(Γ[j]?).join) te T) (hc : hi≤10000:=by decide) : Tp w Γ (zc0 (zeo (wI ti YJ)) js Ye te) (yI T lo hi):=fun σ H Q o f q=>hi' σ H _ o f fun v H1 o1 s1 ⟨x,e1,a1,b1⟩=>⟨x,by rw [e1],by omega,by omega,by
 refine wL (lo:=0) (n:=x.toNat) (fun i ys H2=>ys.length = i∧w.ok H2∧Same (w.v H1) (w.v H2)∧∀ u ∈ ys,T.p (w.v H2) u) ⟨rfl,o1,Same.refl _,by simp⟩ ?_ ?_
 ·rintro i ys H2 hi2 ⟨l2,o2,s2,r2⟩
  refine ⟨by rw [l2]; exact Nat.lt_of_lt_of_le (show i < hi by omega) (zZ hc),?_⟩
  show te (some (.int (0 + (i : Int))) :: qm js σ) H2 _
  refine h _ H2 _ o2 (Fits.cons ⟨_,rfl,by omega,by omega⟩ (U0 (f.same (s1.trans s2)) js)) fun v H3 o3 s3 t3=>⟨by rw [List.length_append,l2]; rfl,o3,s2.trans s3,fun u hu=>?_⟩
  rcases List.mem_append.mp hu with hu | hu
  ·exact T.mo s3 (r2 u hu)
  ·rw [List.mem_singleton.mp hu]; exact t3
 ·rintro ys H2 ⟨l2,o2,s2,r2⟩ D hD
  obtain ⟨o4,s4,e4⟩:=w.new (.lst ys) o2 hD
  exact q (.ref D) _ o4 (s1.trans (s2.trans s4)) ⟨D,ys,rfl,e4,by omega,by omega,fun u hu=>T.mo s4 (r2 u hu)⟩⟩
theorem Tp.ixL {T : Ty} {x : Nat} {tb : TE} (ha : Γ[x]? = some (some (yI T lo hi))) (h0 : 1≤lo) (hb : ∀ (m : Nat) (Γ' : Cxt),1≤m->Γ' = Γ.set x (some (yI T m m))->Tp w Γ' tb (tyI 0 (m - 1))) : Tp w Γ (tOp (zdS K) (Um x) tb) T:=fun σ H Q o f q=>by
 obtain ⟨v,ev,a,vs,e,g,l1,m1,r⟩:=f.2 x _ ha
 have f' : Fits (Γ.set x (some (yI T vs.length vs.length))) (w.v H) σ:=by
  have hx : x < Γ.length:=(List.getElem?_eq_some_iff.mp ha).1
  refine ⟨by rw [List.length_set,f.1],fun j T' hj=>?_⟩
  rw [List.getElem?_set] at hj
  by_cases ej : x = j
  ·rw [if_pos ej,if_pos hx] at hj
   cases hj
   subst ej
   exact ⟨v,ev,a,vs,e,g,Nat.le_refl _,Nat.le_refl _,r⟩
  ·rw [if_neg ej] at hj
   exact f.2 j T' hj
 refine ⟨v,ev,hb vs.length _ (by omega) rfl σ H _ o f' fun u H2 o2 s2 ⟨y,e2,a2,b2⟩=>?_⟩
 have hy : y.toNat < vs.length:=by omega
 refine ⟨a,vs,y,vs[y.toNat],e,e2,SqL.of (w.out (s2 _ _ g)),?_,q _ H2 o2 s2 (T.mo s2 (r _ (List.getElem_mem hy)))⟩
 have:=yx (List.getElem?_eq_getElem hy)
 rwa [show ((y.toNat : Nat) : Int) = y by omega] at this
def View.hide (w : View) (p : Addr) (xs : List V) : View:=⟨fun H=>aw [p] (w.v H),fun H=>w.ok H∧w.v H p = some (.lst xs),fun h=>w.out (zN _ _ _ _ h),fun {H q} o ok hq=>by
 obtain ⟨o1,s1,e1⟩:=w.new o ok.1 hq
 have nq : q ≠ p:=fun z=>by rw [z,w.out ok.2] at hq; cases hq
 exact ⟨⟨o1,s1 _ _ ok.2⟩,s1.aw _,by rw [zX (by simpa using nq)]; exact e1⟩⟩
def Puts (w : View) : Prop:=∀ {H0 H : Hp} {p : Addr} {xs : List V} (ys : List V),w.ok H0->H0 p = none->w.ok H->w.v H p = some (.lst xs)->w.ok (upd H p (.lst ys))∧w.v (upd H p (.lst ys)) p = some (.lst ys)∧∀ b,b ≠ p->w.v (upd H p (.lst ys)) b = w.v H b
theorem TpS.catApp {x : Nat} {T TR : Ty} {tc : TE} {rest : TS} {Γ2 : Cxt} (hput : Puts w) (ha : Tp w Γ ta (yI T lo hi)) (hb : Tp w Γ tb (yI T lo' hi')) (hc : ∀ p xs Γ',Tp (w.hide p xs) Γ' tc T) (hr : TpS w (Γ.set x (some (yI T (lo + lo' + 1) (hi + hi' + 1)))) rest Γ2 TR) (hx : x < Γ.length:=by decide) (hm : hi + hi' + 1≤10000:=by decide) :
  TpS w Γ (Ud (zam (tOp QT ta tb) (YS x)) (Ud (zen (tBM K "list" zbw (Um x) (wI tc YJ))) rest)) Γ2 TR:=fun D σ H o f qn qr=>ha σ H _ o f fun v H1 o1 s1 t1=>hb σ H1 _ o1 (f.same s1) fun u H2 o2 s2 t2=>by
 obtain ⟨a,vs,e1,g1,l1,m1,r1⟩:=(yI T lo hi).mo s2 t1
 obtain ⟨b,us,e2,g2,l2,m2,r2⟩:=t2
 refine ⟨a,b,vs,us,e1,e2,w.out g1,w.out g2,zZ (by omega),fun p hp=>?_⟩
 obtain ⟨o3,s3,e3⟩:=w.new (.lst (vs ++ us)) o2 hp
 have hxl : x < σ.length:=by rw [f.1]; exact hx
 refine ⟨.ref p,by rw [List.getElem?_set,if_pos rfl,if_pos hxl],.inl ⟨rfl,_,SqL.of (w.out e3)⟩,?_⟩
 refine hc p (vs ++ us) ((σ.set x (some (.ref p))).map fun _=>none) _ _ _ ⟨o3,e3⟩ (Fits.any _) fun y H4 o4 s4 t4=>?_
 refine ⟨p,_,y,rfl,rfl,w.out o4.2,Nat.lt_of_lt_of_le (show (vs ++ us).length < 10001 by rw [List.length_append]; omega) (by decide),?_⟩
 obtain ⟨o5,e5,k5⟩:=hput (vs ++ us ++ [y]) o2 hp o4.1 o4.2
 have n2 : w.v H2 p = none:=by
  cases z : w.v H2 p with
  | none=>rfl
  | some q=>rw [w.out z] at hp; cases hp
 have s45 : Same (aw [p] (w.v H4)) (w.v (upd H4 p (.lst (vs ++ us ++ [y])))):=fun c q e=>by
  have hcp : c ∉ [p]:=fun z=>by rw [jG z] at e; cases e
  rw [zX hcp] at e
  rw [k5 c (by simpa using hcp)]; exact e
 have s25 : Same (w.v H2) (w.v (upd H4 p (.lst (vs ++ us ++ [y])))):=fun c q e=>by
  have hcp : c ≠ p:=fun z=>by rw [z,n2] at e; cases e
  refine s45 _ _ (s4 _ _ ?_)
  show aw [p] _ c = _
  rw [zX (by simpa using hcp)]; exact s3 _ _ e
 have s05:=(s1.trans s2).trans s25
 refine hr D _ _ o5 ((f.same s05).set ⟨p,_,rfl,e5,by rw [List.length_append,List.length_append,List.length_singleton]; omega,by rw [List.length_append,List.length_append,List.length_singleton]; omega,fun z hz=>?_⟩) (fun σ' H' o' s' f'=>qn σ' H' o' (s05.trans s') f') (fun v' H' o' s' t'=>qr v' H' o' (s05.trans s') t')
 rcases List.mem_append.mp hz with hz | hz
 ·rcases List.mem_append.mp hz with hz | hz
  ·exact T.mo s25 (r1 z hz)
  ·exact T.mo s25 (r2 z hz)
 ·rw [List.mem_singleton.mp hz]; exact T.mo s45 t4
theorem TpS.gtT {tx ty : TE} {t u : TS} {Γ2 : Cxt} {TR : Ty} {i' j' : Int} (hx : Tp w Γ tx (tyI i i')) (hy : Tp w Γ ty (tyI j j')) (h : j' < i) (ht : TpS w Γ t Γ2 TR) : TpS w Γ (zeR (zcV (tOp (rI0 fun x y=>.bl (decide (y < x))) tx ty)) t u) Γ2 TR:=fun D σ H o f qn qr=>hx σ H _ o f fun v H1 o1 s1 ⟨x,e1,a1,b1⟩=>hy σ H1 _ o1 (f.same s1) fun z H2 o2 s2 ⟨y,e2,a2,b2⟩=>⟨x,y,e1,e2,_,rfl,by
 rw [decide_eq_true (show y < x by omega)]
 exact wR (ht D σ H2 o2 ((f.same s1).same s2) (fun σ' H' o' s' f'=>qn σ' H' o' ((s1.trans s2).trans s') f') (fun v' H' o' s' t'=>qr v' H' o' ((s1.trans s2).trans s') t'))⟩
theorem TpS.gtF {tx ty : TE} {t u : TS} {Γ2 : Cxt} {TR : Ty} {i' j' : Int} (hx : Tp w Γ tx (tyI i i')) (hy : Tp w Γ ty (tyI j j')) (h : i'≤j) (hu : TpS w Γ u Γ2 TR) : TpS w Γ (zeR (zcV (tOp (rI0 fun x y=>.bl (decide (y < x))) tx ty)) t u) Γ2 TR:=fun D σ H o f qn qr=>hx σ H _ o f fun v H1 o1 s1 ⟨x,e1,a1,b1⟩=>hy σ H1 _ o1 (f.same s1) fun z H2 o2 s2 ⟨y,e2,a2,b2⟩=>⟨x,y,e1,e2,_,rfl,by
 rw [decide_eq_false (show ¬ y < x by omega)]
 exact wO (hu D σ H2 o2 ((f.same s1).same s2) (fun σ' H' o' s' f'=>qn σ' H' o' ((s1.trans s2).trans s') f') (fun v' H' o' s' t'=>qr v' H' o' ((s1.trans s2).trans s') t'))⟩
theorem TpS.nil {TR : Ty} : TpS w Γ zep Γ TR:=fun D σ H o f qn qr=>qn σ H o (Same.refl _) f
theorem TpS.post {t : TS} {Γ1 Γ2 : Cxt} {TR : Ty} (h : TpS w Γ t Γ1 TR) (c : CSub Γ1 Γ2) : TpS w Γ t Γ2 TR:=fun D σ H o f qn qr=>h D σ H o f (fun σ' H' o' s' f'=>qn σ' H' o' s' (c.fits f')) qr
end
end L2
namespace Lw
open PySem L2 PyProof.Rows
def top (i : Nat) : Stmt:=PySem.Challenge.pw_lackstretch_k20_no_rules_no_numbers_no_f.main.body.getD i (.Pass ⟨0,0,0,0⟩)
abbrev zdI : Stmt:=top 0
abbrev uN : Stmt:=top 21
abbrev jB : Stmt:=top 22
abbrev Zi : Stmt:=top 23
abbrev tO : Stmt:=top 24
abbrev vG : Stmt:=top 25
abbrev qK : Stmt:=top 26
abbrev tU : Stmt:=top 27
abbrev vz : Stmt:=top 28
abbrev YD : Stmt:=top 29
abbrev qC : Stmt:=top 30
abbrev ud : Stmt:=top 31
abbrev wV : Stmt:=top 32
abbrev wu : Stmt:=top 33
abbrev wH : Stmt:=top 34
abbrev wZ : Stmt:=top 35
abbrev ut : Stmt:=top 37
abbrev vK : Stmt:=top 38
abbrev yj : Stmt:=top 39
abbrev ue : Stmt:=top 41
abbrev uD : Stmt:=top 42
abbrev tH : Stmt:=top 43
abbrev uJ : Stmt:=inClass (top 44) 0
abbrev wC : Stmt:=inClass (top 44) 1
abbrev xj : Stmt:=inClass (top 44) 2
abbrev Xl : Stmt:=inClass (top 44) 3
abbrev Xd : Stmt:=inClass (top 44) 4
abbrev xK : Stmt:=inClass (top 44) 5
abbrev Wb : Stmt:=inClass (top 44) 6
abbrev Xo : Stmt:=inClass (top 44) 7
abbrev YL : Stmt:=inClass (top 44) 8
abbrev xn : Stmt:=top 46
abbrev uB : Stmt:=inClass (top 47) 0
abbrev yz : Stmt:=inClass (top 47) 1
abbrev yX : Stmt:=inClass (top 47) 2
abbrev yH : Stmt:=inClass (top 47) 3
abbrev yp : Stmt:=inClass (top 47) 4
abbrev Yd : Stmt:=inClass (top 47) 5
abbrev vI : Stmt:=top 48
abbrev ju : Stmt:=top 49
abbrev vJ : Stmt:=top 50
abbrev vD : Stmt:=top 51
abbrev qL : Stmt:=top 53
abbrev xU : Stmt:=top 54
abbrev tR : Stmt:=top 55
abbrev tQ : Stmt:=top 56
abbrev vX : Stmt:=top 57
abbrev wJ : Stmt:=top 58
abbrev w5 : Stmt:=top 59
abbrev vA : Stmt:=top 60
abbrev uH : Stmt:=top 61
abbrev wX : Stmt:=top 62
abbrev VL : Stmt:=top 63
def Wq : PyData->Bool
 | .int _=>true
 | _=>false
def jk : PyData->Int
 | .int i=>i
 | _=>0
def uI : PyData->Bool
 | .int i=>decide (2≤i∧i≤16)
 | _=>false
def Zj (b : Int) : PyData->Bool
 | .int i=>decide (0≤i∧i < b)
 | _=>false
def Vo (b : Int) : PyData->Bool
 | .list xs=>xs.all (Zj b)
 | _=>false
def Qt : PyData->List PyData
 | .list xs=>xs
 | _=>[]
def wM (d : PyData) : List Int:=(Qt d).map jk
def yq (b : Int) (d : PyData) : Bool:=Vo b d && decide (1≤(Qt d).length∧(Qt d).length≤4)
def xN (ls : List (List Int)) : Bool:=(List.range (ls.length - 1)).all fun k=>HT.lexLt (ls.getD k []) (ls.getD (k + 1) [])
def Jb (b : Int) : PyData->Bool
 | .list xs=>decide (xs.length≤4) && (xs.all (yq b) && xN (xs.map wM))
 | _=>false
def xV : PyData->Bool
 | .tuple [d,l]=>uI d && Jb (jk d) l
 | _=>false
theorem zcf (d : PyData) : Wq d = (isT "int" d && !isT "bool" d):=by cases d <;> rfl
theorem Xg {d : PyData} (h : Wq d = true) : d = .int (jk d):=by cases d <;> first | rfl | cases h
section
variable {P : Program} {w : World} {K : PySem.W.Frag} {mg : Str->Option Value} {base : Heap}
def tM : Sp:=fun vs H Q _=>∃ (v : V) (d : PyData),vs = [v]∧ThAt H d v∧Q (.bl (Wq d)) H
theorem zan : zK ["thing"] ["thing"] (zx uN):=⟨rfl,rfl,rfl,by decide +kernel,rfl,by decide +kernel,by decide +kernel⟩
theorem jD {f : Addr} {fd : FuncData} (D : Df K mg "is_whole" uN ["thing"] f fd) (T : Blt mg) : FnOk P w K mg base CX0 1 f fd ["thing"] tM:=by
 refine D.fn.ok zan (fun vs H Q E h=>?_) (fun cdv A outer s H vs Q E hr h=>?_)
 ·obtain ⟨v,d,rfl,_⟩:=h; rfl
 ·obtain ⟨v,d,rfl,hd,q⟩:=h
  refine ⟨_,(zA (zQ (ZR (zF (zaa K) (by rfl) T.n_isinstance boot_isinstance (zf (pv 0) (zf (Yz (v:=.ty "int") rfl T.n_int boot_int rfl) zg))) (Zo (zdA (zF (zaa K) (by rfl) T.n_isinstance boot_isinstance (zf (pv 0) (zf (Yz (v:=.ty "bool") rfl T.n_bool boot_bool rfl) zg)))))))),?_⟩
  rw [zcf] at q
  refine ⟨_,rfl,_,_,_,_,rfl,hd.ty,zdX d,_,rfl,?_⟩
  cases h1 : isT "int" d with
  | false=>rw [h1] at q; exact wO q
  | true =>
   rw [h1,Bool.true_and] at q
   exact wR ⟨_,rfl,_,_,_,_,rfl,hd.ty,zcK d,_,rfl,q⟩
def Zy : Sp:=fun vs H Q _=>∃ (v : V) (d : PyData),vs = [v]∧ThAt H d v∧Q (.bl (uI d)) H
theorem zaW : zK ["thing"] ["thing"] (zx Zi):=⟨rfl,rfl,rfl,by decide +kernel,rfl,by decide +kernel,by decide +kernel⟩
theorem zaE {f f1 : Addr} {fd fd1 : FuncData} {t1 t2 : Tok} (D : Df K mg "is_base" Zi ["thing"] f fd) (yW : Df K mg "is_whole" uN ["thing"] f1 fd1) (T : Blt mg) (Zq : mg "LEAST_BASE" = some (.int 2 t1)) (t7 : mg "GREATEST_BASE" = some (.int 16 t2)) :
  FnOk P w K mg base CX0 2 f fd ["thing"] Zy:=by
 have qQ : FnOk P w K mg base CX0 1 f1 fd1 ["thing"] tM:=jD yW T
 refine D.fn.ok zaW (fun vs H Q E h=>?_) (fun cdv A outer s H vs Q E hr h=>?_)
 ·obtain ⟨v,d,rfl,_⟩:=h; rfl
 ·obtain ⟨v,d,rfl,hd,q⟩:=h
  refine ⟨_,(zA (zQ (ZR (yc yW qQ (hr.mono (by decide)) (zf (pv 0) zg)) (Zo (Uk Qa Qa (xq (v:=.int 2) rfl Zq ⟨_,rfl⟩) (pv 0) (xq (v:=.int 16) rfl t7 ⟨_,rfl⟩)))))),?_⟩
  refine ⟨_,rfl,v,d,rfl,hd,_,rfl,?_⟩
  cases hw : Wq d with
  | false =>
   have : uI d = false:=by cases d <;> first | rfl | cases hw
   rw [this] at q
   exact wO q
  | true =>
   have e:=Xg hw
   generalize jk d = i at e
   subst e
   rw [ThAt] at hd
   subst hd
   refine wR ⟨_,rfl,_,_,rfl,rfl,_,rfl,?_⟩
   replace q : Q (.bl (decide (2≤i∧i≤16))) H:=q
   refine zaQ (fun h1=>?_) (fun h1=>?_)
   ·have h1' : (2 : Int)≤i:=of_decide_eq_true h1
    refine ⟨_,_,rfl,rfl,?_⟩
    rw [show decide (2≤i∧i≤16) = decide (i≤16) by simp [h1']] at q
    exact q
   ·have h1' : ¬ (2 : Int)≤i:=fun z=>h1 (decide_eq_true z)
    rw [show decide (2≤i∧i≤16) = false by simp [h1']] at q
    exact q
def qJ : Sp:=fun vs H Q _=>∃ (b : Int) (v : V) (d : PyData),vs = [.int b,v]∧ThAt H d v∧Q (.bl (Zj b d)) H
theorem Jv : zK ["base","thing"] ["base","thing"] (zx tO):=⟨rfl,rfl,rfl,by decide +kernel,rfl,by decide +kernel,by decide +kernel⟩
theorem Jj {f f1 : Addr} {fd fd1 : FuncData} (D : Df K mg "is_figure" tO ["base","thing"] f fd) (yW : Df K mg "is_whole" uN ["thing"] f1 fd1) (T : Blt mg) : FnOk P w K mg base CX0 2 f fd ["base","thing"] qJ:=by
 have qQ : FnOk P w K mg base CX0 1 f1 fd1 ["thing"] tM:=jD yW T
 refine D.fn.ok Jv (fun vs H Q E h=>?_) (fun cdv A outer s H vs Q E hr h=>?_)
 ·obtain ⟨b,v,d,rfl,_⟩:=h; rfl
 ·obtain ⟨b,v,d,rfl,hd,q⟩:=h
  refine ⟨_,(zA (zQ (ZR (yc yW qQ (hr.mono (by decide)) (zf (pv 1) zg)) (Zo (Uk Qa zel zm (pv 1) (pv 0)))))),?_⟩
  refine ⟨_,rfl,v,d,rfl,hd,_,rfl,?_⟩
  cases hw : Wq d with
  | false =>
   have : Zj b d = false:=by cases d <;> first | rfl | cases hw
   rw [this] at q
   exact wO q
  | true =>
   have e:=Xg hw
   generalize jk d = i at e
   subst e
   rw [ThAt] at hd
   subst hd
   refine wR ⟨_,rfl,_,_,rfl,rfl,_,rfl,?_⟩
   replace q : Q (.bl (decide (0≤i∧i < b))) H:=q
   refine zaQ (fun h1=>?_) (fun h1=>?_)
   ·have h1' : (0 : Int)≤i:=of_decide_eq_true h1
    refine ⟨_,rfl,_,_,rfl,rfl,?_⟩
    rw [show decide (0≤i∧i < b) = decide (i < b) by simp [h1']] at q
    exact q
   ·have h1' : ¬ (0 : Int)≤i:=fun z=>h1 (decide_eq_true z)
    rw [show decide (0≤i∧i < b) = false by simp [h1']] at q
    exact q
end
mutual
def jY : PyData->Nat
 | .list xs=>max xs.length (Yo xs)
 | .tuple xs=>max xs.length (Yo xs)
 | _=>0
def Yo : List PyData->Nat
 | []=>0
 | d :: ds=>max (jY d) (Yo ds)
end
theorem Qi {d : PyData} : ∀ {ds : List PyData},d ∈ ds->jY d≤Yo ds
 | e :: ds,h=>by
  rw [Yo]
  rcases List.mem_cons.mp h with rfl | h
  ·omega
  ·have:=Qi h; omega
theorem UW {H : Hp} {b : Int} : ∀ {xs : List PyData} {ys : List V},ThsAt H xs ys->xs.all (Zj b) = true->ys = (xs.map jk).map V.int
 | [],ys,h,_=>by rw [ThsAt] at h; rw [h]; rfl
 | d :: ds,ys,h,q=>by
  rw [ThsAt] at h
  obtain ⟨y,zs,h1,h2,h3⟩:=h
  rw [List.all_cons,Bool.and_eq_true] at q
  have e : d = .int (jk d):=by cases d <;> first | rfl | cases q.1
  rw [e,ThAt] at h2
  rw [h1,h2,UW h3 q.2]
  rfl
theorem ThAt.figs {H : Hp} {b : Int} {d : PyData} {v : V} (h : ThAt H d v) (q : Vo b d = true) : ∃ a,v = .ref a∧H a = some (.lst ((wM d).map V.int)):=by
 cases d with
 | list xs =>
  rw [ThAt] at h
  obtain ⟨a,ys,h1,h2,h3⟩:=h
  exact ⟨a,h1,by rw [h2,UW h3 q]; rfl⟩
 | _=>cases q
theorem JM {d : PyData} (h : isT "list" d = true) : ∃ xs,d = .list xs:=by
 cases d <;> first | exact ⟨_,rfl⟩ | cases h
theorem zbK {d : PyData} (h : isT "tuple" d = true) : ∃ xs,d = .tuple xs:=by
 cases d <;> first | exact ⟨_,rfl⟩ | cases h
theorem Wk {α : Type} {p : α->Bool} {l : List α} : (l.map p).all id = l.all p:=by rw [List.all_map]; rfl
section
variable {P : Program} {w : World} {K : PySem.W.Frag} {mg : Str->Option Value} {base : Heap}
def jt : Sp:=fun vs H Q _=>∃ (b : Int) (v : V) (d : PyData),vs = [.int b,v]∧ThAt H d v∧jY d≤100000∧∀ H',Same H H'->Q (.bl (Vo b d)) H'
theorem VV : zK ["base","thing"] ["base","thing"] (zx vG):=⟨rfl,rfl,rfl,by decide +kernel,rfl,by decide +kernel,by decide +kernel⟩
theorem Uj {f f1 : Addr} {fd fd1 : FuncData} (D : Df K mg "are_figures" vG ["base","thing"] f fd) (vN : Df K mg "is_figure" tO ["base","thing"] f1 fd1) (uV : FnOk P w K mg base CX0 2 f1 fd1 ["base","thing"] qJ) (T : Blt mg) :
  FnOk P w K mg base CX0 3 f fd ["base","thing"] jt:=by
 refine D.fn.ok VV (fun vs H Q E h=>?_) (fun cdv A outer s H vs Q E hr h=>?_)
 ·obtain ⟨b,v,d,rfl,_⟩:=h; rfl
 ·obtain ⟨b,v,d,rfl,hd,hs,kk⟩:=h
  refine ⟨_,(zA (zQ (ZR (zF (zaa K) (by rfl) T.n_isinstance boot_isinstance (zf (pv 1) (zf (Yz (v:=.ty "list") rfl T.n_list boot_list rfl) zg))) (Zo (zF (k_all K rfl) (by rfl) T.n_all boot_all (zf (vd (show CScope (zx vG) _ "each" ["base","thing"] ["base"] [0] from ⟨rfl,by decide +kernel,by decide +kernel,rfl,by decide +kernel,rfl,by decide +kernel,by decide +kernel⟩) rfl (Uw K (pv 1)) (fun _ _ _ _=>xM) (fun _ _ _ _=>(yc vN uV (hr.mono (by decide)) (zf (pv 1) (zf (pv 0) zg))))) zg)))))),?_⟩
  refine ⟨_,rfl,_,_,_,_,rfl,hd.ty,J2 d,_,rfl,?_⟩
  cases hl : isT "list" d with
  | false =>
   have q:=kk H (Same.refl _)
   rw [show Vo b d = false by cases d <;> first | rfl | cases hl] at q
   exact wO q
  | true =>
   obtain ⟨xs,rfl⟩:=JM hl
   rw [ThAt] at hd
   obtain ⟨a,ys,rfl,ha,hx⟩:=hd
   rw [jY] at hs
   refine wR ⟨_,rfl,a,rfl,⟨_,SqL.of ha⟩,vf (K:=K) (a:=a) (xs:=ys) (fun i us H4=>us = ((xs.take i).map (Zj b)).map V.bl∧H4 = H) ⟨by simp,rfl⟩ (fun i us H4 _ ⟨_,e⟩=>by rw [e]; exact SqL.of ha) ?_ ?_⟩
   ·rintro j x us H4 hj ⟨rfl,rfl⟩
    obtain ⟨d,hdj,hd⟩:=hx.get hj
    refine ⟨?_,?_⟩
    ·rw [List.length_map,List.length_map,List.length_take]
     exact Nat.lt_of_le_of_lt (show min j xs.length≤100000 by omega) (by decide)
    unfold Ye
    dsimp only
    rw [if_pos rfl]
    refine ⟨_,rfl,_,rfl,b,x,d,rfl,hd,?_,rfl⟩
    rw [List.take_succ,hdj]; simp
   ·rintro us H4 ⟨rfl,rfl⟩ Dd hD
    refine ⟨Dd,_,rfl,SqL.of zj,?_⟩
    rw [hx.len,List.take_length,Wk]
    exact kk _ (zq hD)
def jT : Sp:=fun vs H Q _=>∃ (b : Int) (v : V) (d : PyData),vs = [.int b,v]∧ThAt H d v∧jY d≤100000∧∀ H',Same H H'->Q (.bl (yq b d)) H'
theorem Us : zK ["base","thing"] ["base","thing"] (zx qK):=⟨rfl,rfl,rfl,by decide +kernel,rfl,by decide +kernel,by decide +kernel⟩
theorem UJ {f f1 : Addr} {fd fd1 : FuncData} {t1 : Tok} (D : Df K mg "is_stretch" qK ["base","thing"] f fd) (qy : Df K mg "are_figures" vG ["base","thing"] f1 fd1) (Zu : FnOk P w K mg base CX0 3 f1 fd1 ["base","thing"] jt) (uz : mg "LONGEST_STRETCH" = some (.int 4 t1)) (T : Blt mg) :
  FnOk P w K mg base CX0 4 f fd ["base","thing"] jT:=by
 refine D.fn.ok Us (fun vs H Q E h=>?_) (fun cdv A outer s H vs Q E hr h=>?_)
 ·obtain ⟨b,v,d,rfl,_⟩:=h; rfl
 ·obtain ⟨b,v,d,rfl,hd,hs,kk⟩:=h
  refine ⟨_,(zA (zQ (ZR (yc qy Zu (hr.mono (by decide)) (zf (pv 0) (zf (pv 1) zg))) (Zo (Uk Qa Qa zm (zF (xX K) (by rfl) T.n_len PySem.boot_len (zf (pv 1) zg)) (xq (v:=.int 4) rfl uz ⟨_,rfl⟩)))))),?_⟩
  refine ⟨_,rfl,_,rfl,b,v,d,rfl,hd,hs,fun H1 m1=>⟨_,rfl,?_⟩⟩
  have q:=kk H1 m1
  unfold yq at q
  cases hf : Vo b d with
  | false=>rw [hf] at q; exact wO q
  | true =>
   rw [hf,Bool.true_and] at q
   obtain ⟨a,rfl,ha⟩:=ThAt.figs hd hf
   refine wR ⟨_,rfl,a,_,rfl,.inl (SqL.of (m1 _ _ ha)),_,_,rfl,rfl,_,rfl,?_⟩
   have el : (wM d).length = (Qt d).length:=List.length_map _
   rw [List.length_map,el]
   generalize (Qt d).length = n at q
   by_cases h1 : 1≤n
   ·rw [decide_eq_true (show (1 : Int)≤(n : Int) by omega)]
    refine wR ⟨_,_,rfl,rfl,?_⟩
    rw [show decide (1≤n∧n≤4) = decide ((n : Int)≤4) from decide_eq_decide.mpr ⟨fun z=>by omega,fun z=>⟨h1,by omega⟩⟩] at q
    exact q
   ·rw [decide_eq_false (show ¬ (1 : Int)≤(n : Int) by omega)]
    rw [decide_eq_false (show ¬ (1≤n∧n≤4) from fun z=>h1 z.1)] at q
    exact wO q
def ZF : Sp:=fun vs H Q _=>∃ (bl : Addr) (zs : List (Addr × List Int)),vs = [.ref bl]∧H bl = some (.lst (zs.map fun z=>V.ref z.1))∧(∀ z ∈ zs,H z.1 = some (.lst (z.2.map V.int)))∧zs.length≤4∧∀ H',Same H H'->Q (.bl (xN (zs.map (·.2)))) H'
theorem Jg : zK ["stretches"] ["stretches"] (zx tU):=⟨rfl,rfl,rfl,by decide +kernel,rfl,by decide +kernel,by decide +kernel⟩
theorem X7 {f : Addr} {fd : FuncData} (D : Df K mg "is_rising" tU ["stretches"] f fd) (T : Blt mg) : FnOk P w K mg base CX0 1 f fd ["stretches"] ZF:=by
 refine D.fn.ok Jg (fun vs H Q E h=>?_) (fun cdv A outer s H vs Q E hr h=>?_)
 ·obtain ⟨bl,zs,rfl,_⟩:=h; rfl
 ·obtain ⟨bl,zs,rfl,hb,hz,h4,kk⟩:=h
  have HU:=Js hr
  refine ⟨_,(zA (zQ (zF (k_all K rfl) (by rfl) T.n_all boot_all (zf (vd (show CScope (zx tU) _ "k" ["stretches"] ["stretches"] [0] from ⟨rfl,by decide +kernel,by decide +kernel,rfl,by decide +kernel,rfl,by decide +kernel,by decide +kernel⟩) rfl (yg rfl T.n_range (zf (zE qd (zF (xX K) (by rfl) T.n_len PySem.boot_len (zf (pv 0) zg)) zm) zg)) (fun _ _ _ _=>xM) (fun _ _ _ _=>(jN (zfl K HU) (zY (yl K) (pv 1) (pv 0) (fun _ _=>rfl)) (zY (yl K) (pv 1) (zE yO (pv 0) zm) (fun _ _=>rfl)) (yw _)))) zg)))),?_⟩
  refine ⟨_,rfl,bl,_,rfl,.inl (SqL.of hb),_,_,rfl,rfl,_,rfl,?_⟩
  rw [List.length_map]
  refine ⟨by omega,by omega,wL (lo:=0) (n:=((zs.length : Int) - 1).toNat) (fun i ys H4=>ys = ((List.range i).map fun k=>HT.lexLt ((zs.map (·.2)).getD k []) ((zs.map (·.2)).getD (k + 1) [])).map V.bl∧H4 = H) ⟨by simp,rfl⟩ ?_ ?_⟩
  ·rintro i ys H4 hi ⟨rfl,rfl⟩
   refine ⟨by rw [List.length_map,List.length_map,List.length_range]; exact Nat.lt_of_lt_of_le (show i < 5 by omega) (by decide),?_⟩
   unfold Ye
   dsimp only
   rw [if_pos rfl]
   have hi0 : i < zs.length:=by omega
   have hi1 : i + 1 < zs.length:=by omega
   have g0 : atI (zs.map fun z=>V.ref z.1) (0 + (i : Int)) = some (.ref (zs[i]).1):=by rw [Int.zero_add]; exact yx (by rw [List.getElem?_map,List.getElem?_eq_getElem hi0]; rfl)
   have g1 : atI (zs.map fun z=>V.ref z.1) (0 + (i : Int) + 1) = some (.ref (zs[i + 1]).1):=by rw [Int.zero_add]; exact yx (j:=i + 1) (by rw [List.getElem?_map,List.getElem?_eq_getElem hi1]; rfl)
   refine ⟨_,rfl,_,rfl,bl,_,_,_,rfl,rfl,SqL.of hb,g0,?_⟩
   refine ⟨_,rfl,_,rfl,_,_,rfl,rfl,bl,_,_,_,rfl,rfl,SqL.of hb,g1,?_⟩
   refine ⟨_,_,_,_,rfl,rfl,SqL.of (hz _ (List.getElem_mem hi0)),SqL.of (hz _ (List.getElem_mem hi1)),?_,rfl⟩
   rw [List.range_succ]
   have e0 : (zs.map (·.2)).getD i [] = (zs[i]).2:=by simp [List.getD,List.getElem?_map,List.getElem?_eq_getElem hi0]
   have e1 : (zs.map (·.2)).getD (i + 1) [] = (zs[i + 1]).2:=by simp [List.getD,List.getElem?_map,List.getElem?_eq_getElem hi1]
   rw [List.map_append,List.map_append,List.map_singleton,List.map_singleton,e0,e1]
  ·rintro ys H4 ⟨rfl,rfl⟩ Dd hD
   refine ⟨Dd,_,rfl,SqL.of zj,?_⟩
   rw [Wk]
   have q:=kk _ (zq hD (o:=.lst (((List.range ((zs.length : Int) - 1).toNat).map fun k=>HT.lexLt ((zs.map (·.2)).getD k []) ((zs.map (·.2)).getD (k + 1) [])).map V.bl)))
   unfold xN at q
   rw [List.length_map,show zs.length - 1 = ((zs.length : Int) - 1).toNat by omega] at q
   exact q
end
end Lw
namespace Lw
open PySem L2 PyProof.Rows
theorem X3 {H : Hp} {b : Int} : ∀ {xs : List PyData} {ys : List V},ThsAt H xs ys->xs.all (yq b) = true->∃ zs : List (Addr × List Int),ys = zs.map (fun z=>V.ref z.1)∧zs.map (·.2) = xs.map wM∧∀ z ∈ zs,H z.1 = some (.lst (z.2.map V.int))
 | [],ys,h,_=>by rw [ThsAt] at h; exact ⟨[],h,rfl,by simp⟩
 | d :: ds,ys,h,q=>by
  rw [ThsAt] at h
  obtain ⟨y,us,h1,h2,h3⟩:=h
  rw [List.all_cons,Bool.and_eq_true] at q
  obtain ⟨zs,e1,e2,e3⟩:=X3 h3 q.2
  have qf : Vo b d = true:=by have:=q.1; unfold yq at this; rw [Bool.and_eq_true] at this; exact this.1
  obtain ⟨a,ea,ha⟩:=ThAt.figs h2 qf
  refine ⟨(a,wM d) :: zs,by rw [h1,ea,e1]; rfl,by rw [List.map_cons,List.map_cons,e2],fun z hz=>?_⟩
  rcases List.mem_cons.mp hz with rfl | hz
  ·exact ha
  ·exact e3 z hz
section
variable {P : Program} {w : World} {K : PySem.W.Frag} {mg : Str->Option Value} {base : Heap}
def jq : Sp:=fun vs H Q _=>∃ (b : Int) (v : V) (d : PyData),vs = [.int b,v]∧ThAt H d v∧jY d≤100000∧∀ H',Same H H'->Q (.bl (Jb b d)) H'
theorem Uc : zK ["base","thing"] ["base","thing"] (zx vz):=⟨rfl,rfl,rfl,by decide +kernel,rfl,by decide +kernel,by decide +kernel⟩
theorem VR {f f1 f2 : Addr} {fd fd1 fd2 : FuncData} {t1 : Tok} (D : Df K mg "is_bad_list" vz ["base","thing"] f fd) (jE : Df K mg "is_stretch" qK ["base","thing"] f1 fd1) (Yp : FnOk P w K mg base CX0 4 f1 fd1 ["base","thing"] jT) (jr : Df K mg "is_rising" tU ["stretches"] f2 fd2) (uR : mg "MOST_STRETCHES" = some (.int 4 t1)) (T : Blt mg) :
  FnOk P w K mg base CX0 5 f fd ["base","thing"] jq:=by
 have VH : FnOk P w K mg base CX0 1 f2 fd2 ["stretches"] ZF:=X7 jr T
 refine D.fn.ok Uc (fun vs H Q E h=>?_) (fun cdv A outer s H vs Q E hr h=>?_)
 ·obtain ⟨b,v,d,rfl,_⟩:=h; rfl
 ·obtain ⟨b,v,d,rfl,hd,hs,kk⟩:=h
  refine ⟨_,(zp (wK (PW.pt (zbj (je (uA (zF (zaa K) (by rfl) T.n_isinstance boot_isinstance (zf (pv 1) (zf (Yz (v:=.ty "list") rfl T.n_list boot_list rfl) zg))))) (Qv (yE zal (zF (xX K) (by rfl) T.n_len PySem.boot_len (zf (pv 1) zg)) (xq (v:=.int 4) rfl uR ⟨_,rfl⟩) (yw _)))))
    (zA (zQ tW))
    yM)
   (zA (zQ (ZR (zF (k_all K rfl) (by rfl) T.n_all boot_all (zf (vd (show CScope (zx vz) _ "each" ["base","thing"] ["base"] [0] from ⟨rfl,by decide +kernel,by decide +kernel,rfl,by decide +kernel,rfl,by decide +kernel,by decide +kernel⟩) rfl (Uw K (pv 1)) (fun _ _ _ _=>xM) (fun _ _ _ _=>(yc jE Yp (hr.mono (by decide)) (zf (pv 1) (zf (pv 0) zg))))) zg)) (Zo (yc jr VH (hr.mono (by decide)) (zf (pv 1) zg))))))),?_⟩
  refine ⟨_,rfl,_,_,_,_,rfl,hd.ty,J2 d,_,rfl,?_⟩
  cases hl : isT "list" d with
  | false =>
   have q:=kk H (Same.refl _)
   rw [show Jb b d = false by cases d <;> first | rfl | cases hl] at q
   exact wR (wR q)
  | true =>
   obtain ⟨xs,rfl⟩:=JM hl
   rw [ThAt] at hd
   obtain ⟨a,ys,rfl,ha,hx⟩:=hd
   rw [jY] at hs
   refine wO ⟨_,rfl,a,_,rfl,.inl (SqL.of ha),_,_,rfl,rfl,_,rfl,?_⟩
   rw [hx.len]
   have kk' : ∀ H',Same H H'->Q (.bl (decide (xs.length≤4) && (xs.all (yq b) && xN (xs.map wM)))) H':=kk
   by_cases h4 : xs.length≤4
   case neg =>
    rw [decide_eq_true (show (4 : Int) < (xs.length : Int) by omega)]
    have q:=kk' H (Same.refl _)
    rw [decide_eq_false h4,Bool.false_and] at q
    exact wR q
   rw [decide_eq_false (show ¬ (4 : Int) < (xs.length : Int) by omega)]
   rw [decide_eq_true h4,Bool.true_and] at kk'
   refine wO ⟨_,rfl,a,rfl,⟨_,SqL.of ha⟩,vf (K:=K) (a:=a) (xs:=ys) (fun i us H4=>us = ((xs.take i).map (yq b)).map V.bl∧Same H H4) ⟨by simp,Same.refl _⟩ (fun i us H4 _ ⟨_,e⟩=>SqL.of (e _ _ ha)) ?_ ?_⟩
   ·rintro j x us H4 hj ⟨rfl,m4⟩
    obtain ⟨d,hdj,hd⟩:=hx.get hj
    refine ⟨?_,?_⟩
    ·rw [List.length_map,List.length_map,List.length_take]
     exact Nat.lt_of_le_of_lt (show min j xs.length≤4 by omega) (by decide)
    unfold Ye
    dsimp only
    rw [if_pos rfl]
    have:=Qi (List.mem_of_getElem? hdj)
    refine ⟨_,rfl,_,rfl,b,x,d,rfl,hd.same m4,by omega,fun H5 m5=>⟨?_,m4.trans m5⟩⟩
    rw [List.take_succ,hdj]; simp
   ·rintro us H4 ⟨rfl,m4⟩ Dd hD
    refine ⟨Dd,_,rfl,SqL.of zj,?_⟩
    have m5:=m4.trans (zq hD (o:=.lst (((xs.take ys.length).map (yq b)).map V.bl)))
    rw [hx.len,List.take_length,Wk] at *
    refine ⟨_,rfl,?_⟩
    cases hst : xs.all (yq b) with
    | false =>
     have q:=kk' _ m5
     rw [hst,Bool.false_and] at q
     exact wO q
    | true =>
     rw [hst,Bool.true_and] at kk'
     obtain ⟨zs,e1,e2,e3⟩:=X3 hx hst
     refine wR ⟨_,rfl,a,zs,rfl,by rw [← e1]; exact m5 _ _ ha,fun z hz=>m5 _ _ (e3 z hz),?_,fun H6 m6=>?_⟩
     ·have:=congrArg List.length e2; rw [List.length_map,List.length_map] at this; omega
     ·rw [e2]; exact kk' H6 (m5.trans m6)
def Y4 : Sp:=fun vs H Q _=>∃ (v : V) (d : PyData),vs = [v]∧ThAt H d v∧jY d≤100000∧∀ H',Same H H'->Q (.bl (xV d)) H'
theorem zaS : zK ["thing"] ["thing"] (zx YD):=⟨rfl,rfl,rfl,by decide +kernel,rfl,by decide +kernel,by decide +kernel⟩
theorem zaU {f f1 f2 : Addr} {fd fd1 fd2 : FuncData} (D : Df K mg "is_rule" YD ["thing"] f fd) (jf : Df K mg "is_base" Zi ["thing"] f1 fd1) (Zk : FnOk P w K mg base CX0 2 f1 fd1 ["thing"] Zy) (qx : Df K mg "is_bad_list" vz ["base","thing"] f2 fd2) (ZC : FnOk P w K mg base CX0 5 f2 fd2 ["base","thing"] jq) (T : Blt mg) :
  FnOk P w K mg base CX0 6 f fd ["thing"] Y4:=by
 refine D.fn.ok zaS (fun vs H Q E h=>?_) (fun cdv A outer s H vs Q E hr h=>?_)
 ·obtain ⟨v,d,rfl,_⟩:=h; rfl
 ·obtain ⟨v,d,rfl,hd,hs,kk⟩:=h
  refine ⟨_,(zp (wK (PW.pt (zbj (je (uA (zF (zaa K) (by rfl) T.n_isinstance boot_isinstance (zf (pv 0) (zf (Yz (v:=.ty "tuple") rfl T.n_tuple boot_tuple rfl) zg))))) (Qv (yE zfE (zF (xX K) (by rfl) T.n_len PySem.boot_len (zf (pv 0) zg)) zm (yw _)))))
    (zA (zQ tW))
    yM)
   (zA (zQ (ZR (yc jf Zk (hr.mono (by decide)) (zf (zY (ux K) (pv 0) zm (fun _ _=>rfl)) zg)) (Zo (yc qx ZC (hr.mono (by decide)) (zf (zY (ux K) (pv 0) zm (fun _ _=>rfl)) (zf (zY (ux K) (pv 0) zm (fun _ _=>rfl)) zg)))))))),?_⟩
  refine ⟨_,rfl,_,_,_,_,rfl,hd.ty,kit_tuple d,_,rfl,?_⟩
  cases hl : isT "tuple" d with
  | false =>
   have q:=kk H (Same.refl _)
   rw [show xV d = false by cases d <;> first | rfl | cases hl] at q
   exact wR (wR q)
  | true =>
   obtain ⟨xs,rfl⟩:=zbK hl
   rw [ThAt] at hd
   obtain ⟨a,ys,rfl,ha,hx⟩:=hd
   rw [jY] at hs
   refine wO ⟨_,rfl,a,_,rfl,.inr (SqT.of ha),rfl,_,rfl,?_⟩
   rw [hx.len]
   match xs,hx,hs,kk with
   | [],hx,hs,kk=>exact wR (kk H (Same.refl _))
   | [_],hx,hs,kk=>exact wR (kk H (Same.refl _))
   | _ :: _ :: _ :: t,hx,hs,kk =>
    have q : Q (.bl false) H:=kk H (Same.refl _)
    rename_i d1 d2 d3
    rw [show (!decide (V.int ((d1 :: d2 :: d3 :: t).length : Nat) = V.int 2)) = true by
     rw [decide_eq_false (fun z=>by injection z with z; rw [List.length_cons,List.length_cons,List.length_cons] at z; omega)]; rfl]
    exact wR q
   | [d,e],hx,hs,kk =>
    rw [ThsAt] at hx
    obtain ⟨y,us,rfl,hd,hx⟩:=hx
    rw [ThsAt] at hx
    obtain ⟨z,ws,rfl,he,hx⟩:=hx
    rw [ThsAt] at hx
    subst hx
    rw [Yo,Yo,Yo] at hs
    refine wO ?_
    refine ⟨_,rfl,a,_,_,y,rfl,rfl,SqT.of ha,rfl,y,d,rfl,hd,_,rfl,?_⟩
    have kk' : ∀ H',Same H H'->Q (.bl (uI d && Jb (jk d) e)) H':=kk
    cases hb : uI d with
    | false =>
     have q:=kk' H (Same.refl _)
     rw [hb,Bool.false_and] at q
     exact wO q
    | true =>
     rw [hb,Bool.true_and] at kk'
     have ed : d = .int (jk d):=by cases d <;> first | rfl | cases hb
     have ey : y = .int (jk d):=by rw [ed,ThAt] at hd; exact hd
     subst ey
     exact wR ⟨_,rfl,a,_,_,V.int (jk d),rfl,rfl,SqT.of ha,rfl,_,rfl,a,_,_,z,rfl,rfl,SqT.of ha,rfl,jk d,z,e,rfl,he,by omega,kk'⟩
end
structure RuleAt (H : Hp) (r : Addr) (b : Nat) (bl : Addr) (zs : List (Addr × List Int)) : Prop where
 tu : H r = some (.tup [.int b,.ref bl])
 li : H bl = some (.lst (zs.map fun z=>V.ref z.1))
 st : ∀ z ∈ zs,H z.1 = some (.lst (z.2.map V.int))
theorem RuleAt.same {H H' : Hp} {r bl : Addr} {b : Nat} {zs : List (Addr × List Int)} (R : RuleAt H r b bl zs) (s : Same H H') : RuleAt H' r b bl zs:=⟨s _ _ R.tu,s _ _ R.li,fun z hz=>s _ _ (R.st z hz)⟩
structure zaG (b : Nat) (l : List Int) : Prop where
 ne : l ≠ []
 len : l.length≤4
 fig : ∀ f ∈ l,0≤f∧f < b
structure yC (b : Nat) (ls : List (List Int)) : Prop where
 b2 : 2≤b
 b16 : b≤16
 len : ls.length≤4
 st : ∀ l ∈ ls,zaG b l
 up : ls.Pairwise fun x y=>HT.lexLt x y = true
theorem j9 (xs : List V) (m : Nat) : qw xs none (some (m : Int)) = xs.take m:=by
 unfold qw
 rw [HT.XC,HT.VJ,List.drop_zero,Nat.sub_zero]
 by_cases h : m≤xs.length
 ·rw [Nat.min_eq_left h]
 ·rw [Nat.min_eq_right (by omega),List.take_of_length_le (Nat.le_refl _),List.take_of_length_le (by omega)]
theorem Yv (xs : List V) (m : Nat) : qw xs (some (m : Int)) none = xs.drop m:=by
 unfold qw
 rw [HT.XC,HT.VJ]
 by_cases h : m≤xs.length
 ·rw [Nat.min_eq_left h,List.take_of_length_le (by rw [List.length_drop]; omega)]
 ·rw [Nat.min_eq_right (by omega),List.drop_of_length_le (Nat.le_refl _),List.drop_of_length_le (by omega)]; simp
theorem RuleAt.all {fp : List Addr} {r bl : Addr} {H : Hp} {b : Nat} {zs : List (Addr × List Int)} (R : RuleAt (aw fp H) r b bl zs) : RuleAt H r b bl zs:=R.same (zN fp H)
theorem zbT {ls : List (List Int)} {x : List Int} : ((ls.map wG).any fun t=>teq t (wG x)) = decide (x ∈ ls):=by
 rw [Bool.eq_iff_iff]
 simp only [List.any_eq_true,List.mem_map,decide_eq_true_eq]
 constructor
 ·rintro ⟨t,⟨l,hl,rfl⟩,e⟩
  rw [Zf] at e
  rw [← of_decide_eq_true e]; exact hl
 ·intro h
  exact ⟨wG x,⟨x,h,rfl⟩,Vk _⟩
theorem jw : ∀ ls : List (List Int),xW (ls.map wG)≤1
 | []=>by simp [xW]
 | l :: ls=>by rw [List.map_cons,xW,ZQ]; have:=jw ls; omega
theorem TrsAt.lists {K : PySem.W.Frag} {H : Hp} : ∀ {zs : List (Addr × List Int)},(∀ z ∈ zs,H z.1 = some (.lst (z.2.map V.int)))->TrsAt K H ((zs.map (·.2)).map wG) (zs.map fun z=>V.ref z.1)
 | [],_=>by rw [List.map_nil,List.map_nil,TrsAt]; rfl
 | z :: zs,h=>by
  rw [List.map_cons,List.map_cons,TrsAt]
  exact ⟨_,_,rfl,TrAt.ints (SqL.of (h z List.mem_cons_self)),TrsAt.lists fun z hz=>h z (List.mem_cons_of_mem _ hz)⟩
section
variable {P : Program} {w : World} {K : PySem.W.Frag} {mg : Str->Option Value} {base : Heap}
theorem zdb (xs : List V) (k m : Nat) : qw xs (some (k : Int)) (some (m : Int)) = (xs.drop k).take (m - k):=by
 unfold qw
 rw [HT.XC,HT.XC]
 by_cases hk : k≤xs.length
 ·rw [Nat.min_eq_left hk]
  by_cases hm : m≤xs.length
  ·rw [Nat.min_eq_left hm]
  ·rw [Nat.min_eq_right (by omega),List.take_of_length_le (by rw [List.length_drop]; omega),List.take_of_length_le (by rw [List.length_drop]; omega)]
 ·rw [List.drop_of_length_le (show xs.length≤k by omega),Nat.min_eq_right (show xs.length≤k by omega),List.drop_of_length_le (Nat.le_refl _)]
  simp
def uK : Sp:=fun vs H Q _=>∃ (sa fa : Addr) (st fs : List Int),vs = [.ref sa,.ref fa]∧H sa = some (.lst (st.map V.int))∧H fa = some (.lst (fs.map V.int))∧st ≠ []∧st.length≤1000∧fs.length≤1000∧∀ H',Same H H'->Q (.bl (Vm st fs)) H'
theorem Zg : zK ["stretch","figures","size"] ["stretch","figures"] (zx wu):=⟨rfl,rfl,rfl,by decide +kernel,rfl,by decide +kernel,by decide +kernel⟩
theorem Zc {f : Addr} {fd : FuncData} (D : Df K mg "stands_within" wu ["stretch","figures"] f fd) (T : Blt mg) : FnOk P w K mg base CX0 1 f fd ["stretch","figures"] uK:=by
 refine D.fn.ok Zg (fun vs H Q E h=>?_) (fun cdv A outer s H vs Q E hr h=>?_)
 ·obtain ⟨sa,fa,st,fs,rfl,_⟩:=h; rfl
 ·obtain ⟨sa,fa,st,fs,rfl,hs,hf,ne,hl1,hl2,kk⟩:=h
  have HU:=Js hr
  refine ⟨_,(zp (zJ (i:=2) Zg.nd rfl (Or.inr rfl) (zF (xX K) (by rfl) T.n_len PySem.boot_len (zf (pv 0) zg)))
   (zA (zQ (zF (zcN K rfl) (by rfl) T.n_any boot_any (zf (vd (show CScope (zx wu) _ "k" ["stretch","figures","size"] ["stretch","figures","size"] [0,1,2] from ⟨rfl,by decide +kernel,by decide +kernel,rfl,by decide +kernel,rfl,by decide +kernel,by decide +kernel⟩) rfl (yg rfl T.n_range (zf (zE yO (zE qd (zF (xX K) (by rfl) T.n_len PySem.boot_len (zf (pv 1) zg)) (pv 2)) zm) zg)) (fun _ _ _ _=>xM) (fun _ _ _ _=>(jN (zcw K HU) (yG (tV K) (pv 2) (xf (pv 0)) (xf (zE yO (pv 0) (pv 3)))) (pv 1) (yw _)))) zg))))),?_⟩
  refine ⟨_,rfl,sa,_,rfl,.inl (SqL.of hs),?_⟩
  rw [List.length_map]
  refine ⟨_,rfl,fa,_,rfl,.inl (SqL.of hf),_,rfl,_,_,rfl,rfl,_,_,rfl,rfl,_,rfl,?_⟩
  rw [List.length_map]
  refine ⟨by omega,by omega,wL (lo:=0) (n:=((fs.length : Int) - st.length + 1).toNat) (fun i ys H4=>ys = ((List.range i).map fun k=>decide ((fs.drop k).take st.length = st)).map V.bl∧Same H H4) ⟨by simp,Same.refl _⟩ ?_ ?_⟩
  ·rintro i ys H4 hi ⟨rfl,s4⟩
   refine ⟨by rw [List.length_map,List.length_map,List.length_range]; exact Nat.lt_of_lt_of_le (show i < 2000 by omega) (by decide),?_⟩
   unfold Ye
   dsimp only
   rw [if_pos rfl]
   refine ⟨_,rfl,_,rfl,_,rfl,_,rfl,_,rfl,_,_,rfl,rfl,_,rfl,fa,_,rfl,SqL.of (s4 _ _ hf),fun p hp=>?_⟩
   have e1 : qw (fs.map V.int) (some (0 + (i : Int))) (some (0 + (i : Int) + (st.length : Int))) = ((fs.drop i).take st.length).map V.int:=by
    have e : (0 + (i : Int) + (st.length : Int)) = ((i + st.length : Nat) : Int):=by omega
    rw [e,Int.zero_add,zdb,List.map_take,List.map_drop,Nat.add_sub_cancel_left]
   rw [e1]
   refine ⟨_,rfl,wG ((fs.drop i).take st.length),wG st,TrAt.ints (a:=p) (SqL.of zj),TrAt.ints (a:=sa) (SqL.of (zq hp _ _ (s4 _ _ hs))),(by rw [ZQ]; decide),?_,s4.trans (zq hp)⟩
   rw [List.range_succ,List.map_append,List.map_append]
   have e2:=Zf ((fs.drop i).take st.length) st
   show _ = _ ++ [V.bl (decide ((fs.drop i).take st.length = st))]
   rw [← e2]; rfl
  ·rintro ys H4 ⟨rfl,s4⟩ Dd hD
   refine ⟨Dd,_,rfl,SqL.of zj,?_⟩
   have q:=kk _ (s4.trans (zq hD (o:=.lst (((List.range ((fs.length : Int) - st.length + 1).toNat).map fun k=>decide ((fs.drop k).take st.length = st)).map V.bl))))
   rw [zaV ne] at q
   rw [List.any_map]
   exact q
def uF : Sp:=fun vs H Q _=>∃ (bl fa : Addr) (zs : List (Addr × List Int)) (fs : List Int),vs = [.ref bl,.ref fa]∧H bl = some (.lst (zs.map fun z=>V.ref z.1))∧(∀ z ∈ zs,H z.1 = some (.lst (z.2.map V.int)))∧H fa = some (.lst (fs.map V.int))∧zs.length≤100∧fs.length≤1000∧(∀ z ∈ zs,z.2 ≠ []∧z.2.length≤1000)∧∀ H',Same H H'->Q (.bl (lacks (zs.map (·.2)) fs)) H'
theorem QX : zK ["bad","figures"] ["bad","figures"] (zx wH):=⟨rfl,rfl,rfl,by decide +kernel,rfl,by decide +kernel,by decide +kernel⟩
theorem Jd {f f1 : Addr} {fd fd1 : FuncData} (D : Df K mg "lacks_all" wH ["bad","figures"] f fd) (wN : Df K mg "stands_within" wu ["stretch","figures"] f1 fd1) (T : Blt mg) : FnOk P w K mg base CX0 2 f fd ["bad","figures"] uF:=by
 have Yt : FnOk P w K mg base CX0 1 f1 fd1 ["stretch","figures"] uK:=Zc wN T
 refine D.fn.ok QX (fun vs H Q E h=>?_) (fun cdv A outer s H vs Q E hr h=>?_)
 ·obtain ⟨bl,fa,zs,fs,rfl,_⟩:=h; rfl
 ·obtain ⟨bl,fa,zs,fs,rfl,hb,hz,hf,hl1,hl2,ne,kk⟩:=h
  refine ⟨_,(zA (zQ (zdA (zF (zcN K rfl) (by rfl) T.n_any boot_any (zf (vd (show CScope (zx wH) _ "stretch" ["bad","figures"] ["figures"] [1] from ⟨rfl,by decide +kernel,by decide +kernel,rfl,by decide +kernel,rfl,by decide +kernel,by decide +kernel⟩) rfl (Uw K (pv 0)) (fun _ _ _ _=>xM) (fun _ _ _ _=>(yc wN Yt (hr.mono (by decide)) (zf (pv 0) (zf (pv 1) zg))))) zg))))),?_⟩
  refine ⟨_,rfl,bl,rfl,⟨_,SqL.of hb⟩,vf (K:=K) (a:=bl) (xs:=zs.map fun z=>V.ref z.1) (fun i ys H4=>ys = ((zs.take i).map fun z=>Vm z.2 fs).map V.bl∧Same H H4) ⟨by simp,Same.refl _⟩ (fun i ys H4 _ ⟨_,e⟩=>SqL.of (e _ _ hb)) ?_ ?_⟩
  ·rintro j x ys H4 hx ⟨rfl,s4⟩
   rw [List.getElem?_map] at hx
   obtain ⟨z,hzj,e⟩:=Option.map_eq_some_iff.mp hx
   subst e
   have hzm:=List.mem_of_getElem? hzj
   refine ⟨?_,?_⟩
   ·rw [List.length_map,List.length_map,List.length_take]
    exact Nat.lt_of_le_of_lt (Nat.le_trans (Nat.min_le_right _ _) hl1) (by decide)
   unfold Ye
   dsimp only
   rw [if_pos rfl]
   refine ⟨_,rfl,_,rfl,z.1,fa,z.2,fs,rfl,s4 _ _ (hz z hzm),s4 _ _ hf,(ne z hzm).1,(ne z hzm).2,hl2,fun H5 s5=>⟨?_,s4.trans s5⟩⟩
   rw [List.take_succ,hzj]
   simp
  ·rintro ys H4 ⟨rfl,s4⟩ Dd hD
   refine ⟨Dd,_,rfl,SqL.of zj,_,rfl,?_⟩
   have q:=kk _ (s4.trans (zq hD (o:=.lst (((zs.take (zs.map fun z=>V.ref z.1).length).map fun z=>Vm z.2 fs).map V.bl))))
   rw [List.length_map,List.take_length] at q ⊢
   unfold lacks at q
   rw [List.any_map] at q ⊢
   exact q
end
section
variable {P : Program} {w : World} {K : PySem.W.Frag} {mg : Str->Option Value} {base : Heap}
def jW : Sp:=fun vs H Q _=>∃ (bl fa : Addr) (zs : List (Addr × List Int)) (fs : List Int),vs = [.ref bl,.ref fa]∧H bl = some (.lst (zs.map fun z=>V.ref z.1))∧(∀ z ∈ zs,H z.1 = some (.lst (z.2.map V.int)))∧H fa = some (.lst (fs.map V.int))∧zs.length≤100∧∀ H',Same H H'->Q (.bl (ZK (zs.map (·.2)) fs)) H'
theorem Uq : zK ["bad","figures"] ["bad","figures"] (zx ut):=⟨rfl,rfl,rfl,by decide +kernel,rfl,by decide +kernel,by decide +kernel⟩
theorem Y0 {f : Addr} {fd : FuncData} (D : Df K mg "begins_one" ut ["bad","figures"] f fd) (T : Blt mg) : FnOk P w K mg base CX0 1 f fd ["bad","figures"] jW:=by
 refine D.fn.ok Uq (fun vs H Q E h=>?_) (fun cdv A outer s H vs Q E hr h=>?_)
 ·obtain ⟨bl,fa,zs,fs,rfl,_⟩:=h; rfl
 ·obtain ⟨bl,fa,zs,fs,rfl,hb,hz,hf,hl1,kk⟩:=h
  have HU:=Js hr
  refine ⟨_,(zA (zQ (zF (zcN K rfl) (by rfl) T.n_any boot_any (zf (vd (show CScope (zx ut) _ "stretch" ["bad","figures"] ["figures"] [1] from ⟨rfl,by decide +kernel,by decide +kernel,rfl,by decide +kernel,rfl,by decide +kernel,by decide +kernel⟩) rfl (Uw K (pv 0)) (fun _ _ _ _=>xM) (fun _ _ _ _=>(jN (zcw K HU) (yG (tV K) (pv 0) xO (xf (zF (xX K) (by rfl) T.n_len PySem.boot_len (zf (pv 1) zg)))) (pv 1) (yw _)))) zg)))),?_⟩
  refine ⟨_,rfl,bl,rfl,⟨_,SqL.of hb⟩,vf (K:=K) (a:=bl) (xs:=zs.map fun z=>V.ref z.1) (fun i ys H4=>ys = ((zs.take i).map fun z=>decide (z.2.take fs.length = fs)).map V.bl∧Same H H4) ⟨by simp,Same.refl _⟩ (fun i ys H4 _ ⟨_,e⟩=>SqL.of (e _ _ hb)) ?_ ?_⟩
  ·rintro j x ys H4 hx ⟨rfl,s4⟩
   rw [List.getElem?_map] at hx
   obtain ⟨z,hzj,e⟩:=Option.map_eq_some_iff.mp hx
   subst e
   have hzm:=List.mem_of_getElem? hzj
   refine ⟨?_,?_⟩
   ·rw [List.length_map,List.length_map,List.length_take]
    exact Nat.lt_of_le_of_lt (Nat.le_trans (Nat.min_le_right _ _) hl1) (by decide)
   unfold Ye
   dsimp only
   rw [if_pos rfl]
   refine ⟨_,rfl,_,rfl,fa,_,rfl,.inl (SqL.of (s4 _ _ hf)),_,rfl,z.1,_,rfl,SqL.of (s4 _ _ (hz z hzm)),fun p hp=>?_⟩
   rw [List.length_map,j9,← List.map_take]
   refine ⟨_,rfl,wG (z.2.take fs.length),wG fs,TrAt.ints (a:=p) (SqL.of zj),TrAt.ints (a:=fa) (SqL.of (zq hp _ _ (s4 _ _ hf))),(by rw [ZQ]; decide),?_,s4.trans (zq hp)⟩
   rw [List.take_succ,hzj]
   have e2:=Zf (z.2.take fs.length) fs
   show _ ++ [V.bl (teq _ _)] = _
   rw [e2]
   simp
  ·rintro ys H4 ⟨rfl,s4⟩ Dd hD
   refine ⟨Dd,_,rfl,SqL.of zj,?_⟩
   have q:=kk _ (s4.trans (zq hD (o:=.lst (((zs.take (zs.map fun z=>V.ref z.1).length).map fun z=>decide (z.2.take fs.length = fs)).map V.bl))))
   rw [List.length_map,List.take_length] at q ⊢
   unfold ZK at q
   rw [List.any_map] at q ⊢
   exact q
def zfa (ls : List (List Int)) (fs : List Int) (H H' : Hp) (v : V) : Prop:=(lacks ls fs = false∧v = .non)∨(lacks ls fs = true∧∃ l,v = .ref l∧H l = none∧H' l = some (.lst ((zR ls fs).map V.int)))
def uL : Sp:=fun vs H Q _=>∃ (bl fa : Addr) (zs : List (Addr × List Int)) (fs : List Int),vs = [.ref bl,.ref fa]∧H bl = some (.lst (zs.map fun z=>V.ref z.1))∧(∀ z ∈ zs,H z.1 = some (.lst (z.2.map V.int)))∧H fa = some (.lst (fs.map V.int))∧zs.length≤100∧fs.length≤1000∧(∀ z ∈ zs,z.2 ≠ []∧z.2.length≤1000) ∧
 ∀ v H',zfa (zs.map (·.2)) fs H H' v->Same H H'->Q v H'
theorem Ze : zK ["bad","figures","start"] ["bad","figures"] (zx vK):=⟨rfl,rfl,rfl,by decide +kernel,rfl,by decide +kernel,by decide +kernel⟩
theorem Wn {f f1 f2 : Addr} {fd fd1 fd2 : FuncData} (D : Df K mg "longest_stand" vK ["bad","figures"] f fd) (xH : Df K mg "lacks_all" wH ["bad","figures"] f1 fd1) (xZ : FnOk P w K mg base CX0 2 f1 fd1 ["bad","figures"] uF)
  (tL : Df K mg "begins_one" ut ["bad","figures"] f2 fd2) (T : Blt mg) : FnOk P w K mg base CX0 3 f fd ["bad","figures"] uL:=by
 have WP : FnOk P w K mg base CX0 1 f2 fd2 ["bad","figures"] jW:=Y0 tL T
 refine D.fn.ok Ze (fun vs H Q E h=>?_) (fun cdv A outer s H vs Q E hr h=>?_)
 ·obtain ⟨bl,fa,zs,fs,rfl,_⟩:=h; rfl
 ·obtain ⟨bl,fa,zs,fs,rfl,hb,hz,hf,hl1,hl2,ne,kk⟩:=h
  refine ⟨_,(zp (wK (je (uA (yc xH xZ (hr.mono (by decide)) (zf (pv 0) (zf (pv 1) zg)))))
    (zA (zQ vp))
    yM)
   (zp (vM PassesOwn.never rfl (yg rfl T.n_range (zf (zF (xX K) (by rfl) T.n_len PySem.boot_len (zf (pv 1) zg)) zg)) (yK (i:=2) Ze.nd rfl (Or.inl rfl))
    (zA (wK (uA (yc tL WP (hr.mono (by decide)) (zf (pv 0) (zf (yG (tV K) (pv 1) (xf (pv 2)) xO) zg))))
     (zA (zQ (yG (tV K) (pv 1) (xf (pv 2)) xO)))
     yM)))
   (zA (zQ (zO zg))))),?_⟩
  refine ⟨_,rfl,_,rfl,bl,fa,zs,fs,rfl,hb,hz,hf,hl1,hl2,ne,fun H1 s1=>⟨_,rfl,?_⟩⟩
  cases hL : lacks (zs.map (·.2)) fs with
  | false=>exact wR (kk _ _ (.inl ⟨hL,rfl⟩) s1)
  | true =>
   refine wO ?_
   refine ⟨_,rfl,fa,_,rfl,.inl (SqL.of (s1 _ _ hf)),(((fs.map V.int).length : Nat) : Int),rfl,by rw [List.length_map]; omega,by rw [List.length_map]; omega,xg (lo:=0) (n:=(((fs.map V.int).length : Nat) : Int).toNat) (fun i σ H2=>∃ v1 : Option V,σ = [some (.ref bl),some (.ref fa),v1]∧Same H H2∧∀ k,k < i->ZK (zs.map (·.2)) (fs.drop k) = false) ⟨none,rfl,s1,fun k hk=>by omega⟩ ?_ ?_⟩
   ·rintro i σ H2 hi ⟨v1,rfl,s2,hno⟩
    have hi' : i < fs.length:=by rw [List.length_map] at hi; omega
    refine ⟨_,rfl,_,rfl,_,rfl,_,rfl,fa,_,rfl,SqL.of (s2 _ _ hf),fun p hp=>?_⟩
    rw [Int.zero_add,Yv,← List.map_drop]
    have t:=s2.trans (zq hp (o:=.lst ((fs.drop i).map V.int)))
    refine ⟨bl,p,zs,fs.drop i,rfl,t _ _ hb,fun z hzm=>t _ _ (hz z hzm),zj,hl1,fun H3 s3=>⟨_,rfl,?_⟩⟩
    have t3:=t.trans s3
    cases hB : ZK (zs.map (·.2)) (fs.drop i) with
    | true =>
     refine wR ⟨_,rfl,_,rfl,_,rfl,fa,_,rfl,SqL.of (t3 _ _ hf),fun q hq=>?_⟩
     rw [Yv,← List.map_drop]
     refine kk _ _ (.inr ⟨hL,q,rfl,t3.free hq,?_⟩) (t3.trans (zq hq))
     rw [zj,zdf (by omega) hno hB]
    | false =>
     refine wO ⟨_,rfl,t3,fun k hk=>?_⟩
     by_cases e : k < i
     ·exact hno k e
     ·have : k = i:=by omega
      rw [this]; exact hB
   ·rintro σ H2 ⟨v1,rfl,s2,hno⟩
    refine ⟨(by decide : 0≤sizeLine),fun q hq=>kk _ _ (.inr ⟨hL,q,rfl,s2.free hq,?_⟩) (s2.trans (zq hq))⟩
    rw [zj,zay (fun k hk=>hno k (by rw [List.length_map]; omega))]
    rfl
end
section
variable {P : Program} {w : World} {K : PySem.W.Frag} {mg : Str->Option Value} {base : Heap} {T0 : Addr}
def lamP : Pos:=⟨100,29,100,59⟩
def zex : Scope:=match (yZ yj).getLast? with
 | some (.Return (some (.Call _ _ [⟨_,.Lambda _ _ sc _,_⟩] _)) _)=>sc
 | _=>zx yj
theorem ze7 : zK ["each"] ["each"] zex:=⟨rfl,rfl,rfl,by decide +kernel,rfl,by decide +kernel,by decide +kernel⟩
theorem zdD {H H' : Hp} {p : Addr} {o : HO} (s : Same H H') (h : H p = none) : Same H (upd H' p o):=fun b u e=>by rw [zy (zB e h)]; exact s b u e
def SameL (T : Addr) (H H' : Hp) : Prop:=∀ b u,b ≠ T->H b = some u->H' b = some u
abbrev LT (T : Addr) (H : Hp) : Prop:=Ws T lamP ((("stands_of" : Str) ++ (".<locals>." : Str)) ++ ("<lambda>" : Str)) H
theorem SameL.of {T : Addr} {H H' : Hp} (s : Same H H') : SameL T H H':=fun b u _ e=>s b u e
theorem SameL.trans {T : Addr} {H H1 H2 : Hp} (a : SameL T H H1) (b : SameL T H1 H2) : SameL T H H2:=fun c u h e=>b c u h (a c u h e)
theorem LT.same {T : Addr} {H H' : Hp} (h : LT T H) (s : Same H H') : LT T H':=by
 rcases h with h | ⟨c,h1,h2⟩
 ·exact .inl (s _ _ h)
 ·exact .inr ⟨c,s _ _ h1,s _ _ h2⟩
theorem LT.lst {T : Addr} {H : Hp} (h : LT T H) {b : Addr} {xs : List V} (e : H b = some (.lst xs)) : b ≠ T:=fun z=>by
 rw [z] at e
 rcases h with h | ⟨c,h,_⟩
 ·rw [h] at e; cases e
 ·rw [h] at e; cases e
theorem LT.tup {T : Addr} {H : Hp} (h : LT T H) {b : Addr} {xs : List V} (e : H b = some (.tup xs)) : b ≠ T:=fun z=>by
 rw [z] at e
 rcases h with h | ⟨c,h,_⟩
 ·rw [h] at e; cases e
 ·rw [h] at e; cases e
theorem LT.none {T : Addr} {H : Hp} (h : LT T H) {b : Addr} (e : H b = none) : b ≠ T:=fun z=>by
 rw [z] at e
 rcases h with h | ⟨c,h,_⟩
 ·rw [h] at e; cases e
 ·rw [h] at e; cases e
def Z0 (T : Addr) : Sp:=fun vs H Q _=>∃ (bl : Addr) (zs : List (Addr × List Int)),vs = [.ref bl]∧H bl = some (.lst (zs.map fun z=>V.ref z.1))∧(∀ z ∈ zs,H z.1 = some (.lst (z.2.map V.int)))∧zs.length≤4∧(∀ z ∈ zs,z.2 ≠ []∧z.2.length≤4)∧LT T H ∧
 ∀ (D : Addr) (ws : List (Addr × List Int)) (H' : Hp),H D = none->H' D = some (.lst (ws.map fun z=>V.ref z.1))->(∀ z ∈ ws,H z.1 = none∧H' z.1 = some (.lst (z.2.map V.int))∧z.1 ≠ D)->StandsL (zs.map (·.2)) (ws.map (·.2))->ws.length≤13->SameL T H H'->LT T H'->Q (.ref D) H'
theorem uE : zK ["bad","found","stretch","size","stand"] ["bad"] (zx yj):=⟨rfl,rfl,rfl,by decide +kernel,rfl,by decide +kernel,by decide +kernel⟩
theorem Q6 {f f1 c : Addr} {fd fd1 : FuncData} (D : Df K mg "stands_of" yj ["bad"] f fd) (hc : fd.code = .ref c) (hcT : PySem.W.codeHdIn K c T0 = true) (hBM : base.BuiltinsAt mg T0) (hgT : mainGlobals ≠ T0) (xH : Df K mg "lacks_all" wH ["bad","figures"] f1 fd1) (xZ : FnOk P w K mg base CX0 2 f1 fd1 ["bad","figures"] uF) (T : Blt mg) :
  FnOk P w K mg base CX0 6 f fd ["bad"] (Z0 T0):=by
 obtain ⟨oc,od,kV,doc,pm,an,cdv,ct,osl,rfl,lk,hcd⟩:=D.fn.ex
 obtain rfl : cdv = .ref c:=hc
 refine zcG lk hcd uE (fun vs H Q E h=>?_) (fun A outer s H vs Q E hr h=>?_)
 ·obtain ⟨bl,zs,rfl,_⟩:=h; rfl
 ·obtain ⟨bl,zs,rfl,hb,hz,h4,hst,hLT,kk⟩:=h
  have HU:=Js hr
  have lam_body : ∀ (f' c' : Addr) (s' : Shared) (H' : Hp) (z : Addr × List Int),H' z.1 = some (.lst (z.2.map V.int))->∃ t,PE (YH CX0 P w K mg base ["each"] ((("stands_of" : Str) ++ (".<locals>." : Str)) ++ ("<lambda>" : Str)) zex f' (.ref c') (A.deeper (envOfC "stands_of" (zx yj) s.heap.objs.size f (.ref c))).in1.in1 (envOfC "stands_of" (zx yj) s.heap.objs.size f (.ref c) :: outer) s' H' E0)
    (match (yZ yj).getLast? with
     | some (.Return (some (.Call _ _ [⟨_,.Lambda _ b _ _,_⟩] _)) _)=>b
     | _=>.Constant .none 0 ⟨0,0,0,0⟩) t ∧
    t (start ["each"] [.ref z.1]) H' fun v H2=>∃ p,v = .ref p∧H' p = none∧H2 = upd H' p (.tup [.int z.2.length,.ref z.1]):=by
   intro f' c' s' H' z hz'
   refine ⟨_,(Yl (zf (zF (xX K) (by rfl) T.n_len PySem.boot_len (zf (pv 0) zg)) (zf (pv 0) zg))),?_⟩
   refine ⟨_,rfl,z.1,_,rfl,.inl (SqL.of hz'),_,rfl,(by show 2≤sizeLine; decide),fun p hp=>⟨p,rfl,hp,?_⟩⟩
   rw [List.length_map]
  refine Exists.elim (?key : ∃ t,PSs (YH CX0 P w K mg base ["bad","found","stretch","size","stand"] "stands_of" (zx yj) f (.ref c) A outer s H E).nox (yZ yj) t∧t { nx:=fun _ H'=>Q .non H',rt:=Q } (start ["bad","found","stretch","size","stand"] [.ref bl]) H) fun t h=>⟨t,h.1.nox,h.2⟩
  refine ⟨_,(zp (zJ (i:=1) uE.nd rfl (Or.inl rfl) (zO (zf (zO zg) zg)))
   (zp (vM PassesOwn.never rfl (Uw K (pv 0)) (yK (i:=2) uE.nd rfl (Or.inl rfl))
    (zA (vM PassesOwn.never rfl (zca rfl T.n_range (zf zm (zf (zF (xX K) (by rfl) T.n_len PySem.boot_len (zf (pv 2) zg)) zg))) (yK (i:=3) uE.nd rfl (Or.inl rfl))
     (zp (zJ (i:=4) uE.nd rfl (Or.inl rfl) (yG (tV K) (pv 2) xO (xf (pv 3))))
     (zA (wK (PW.pt (zcu (yE (zds K HU) (pv 4) (pv 1) (by with_unfolding_all rfl)) (zbx (uA (yc xH xZ (hr.mono (by decide)) (zf (pv 0) (zf (pv 4) zg)))))))
      (zA (yQ (Z6 PySem.F.plainAttrs_list PySem.F.slot_list_append PySem.F.type_list_append xR (pv 1) (zf (pv 4) zg))))
      yM))))))
   (zA (zQ (za3 (k:=1) (pv 1) rfl T.n_sorted (hr.mono (by decide)) rfl rfl rfl hcT hBM hgT ze7 (fun _ _ _ _=>rfl) lam_body))))),?_⟩
  have hls : ∀ st ∈ zs.map (·.2),st ≠ []∧st.length≤4:=fun st h=>by obtain ⟨z,hz,rfl⟩:=List.mem_map.mp h; exact hst z hz
  refine ⟨(by decide : 0≤sizeLine),fun e0 he0=>⟨(by show 1≤sizeLine; decide),fun fo hfo=>?_⟩⟩
  have hfoH : H fo = none:=(zq he0).free hfo
  have nef : e0 ≠ fo:=fun z=>by rw [← z,zj] at hfo; cases hfo
  let Inv1 : List (Addr × List Int)->(List Int->Prop)->Hp->Prop:=fun ws M H2=>H2 fo = some (.lst (ws.map fun z=>V.ref z.1))∧(∀ z ∈ ws,H z.1 = none∧H2 z.1 = some (.lst (z.2.map V.int))∧z.1 ≠ fo)∧(ws.map (·.2)).Nodup∧(∀ x,x ∈ ws.map (·.2) ↔ M x)∧Same H H2
  let M1 : Nat->List Int->Prop:=fun i x=>x = []∨∃ z ∈ zs.take i,∃ k,1≤k∧k < z.2.length∧x = z.2.take k∧lacks (zs.map (·.2)) x = true
  refine ⟨_,rfl,bl,rfl,⟨_,SqL.of ((zq he0).trans (zq hfo) _ _ hb)⟩,zcC (K:=K) (a:=bl) (xs:=zs.map fun z=>V.ref z.1) (fun i σ H2=>∃ (v2 v3 v4 : Option V) (ws : List (Addr × List Int)),σ = [some (.ref bl),some (.ref fo),v2,v3,v4]∧Inv1 ws (M1 i) H2∧ws.length≤1 + 3 * i)
   ⟨none,none,none,[(e0,[])],rfl,⟨zj,fun z hz'=>?_,by simp,fun x=>?_,(zq he0).trans (zq hfo)⟩,by simp⟩ (fun i σ H2 _ ⟨_,_,_,_,_,⟨_,_,_,_,e⟩,_⟩=>SqL.of (e _ _ hb)) ?_ ?_⟩
  ·have e : z = (e0,[]):=by simpa using hz'
   subst e
   exact ⟨he0,by rw [zy nef,zj]; rfl,nef⟩
  ·constructor
   ·intro hx
    exact .inl (by simpa using hx)
   ·rintro (rfl | ⟨z,hz',_⟩)
    ·simp
    ·simp at hz'
  ·rintro i x σ H2 hx ⟨v2,v3,v4,ws,rfl,⟨hF,hW,ndW,hM,sm⟩,hlen⟩
   rw [List.getElem?_map] at hx
   obtain ⟨z,hzj,e⟩:=Option.map_eq_some_iff.mp hx
   subst e
   have hzm:=List.mem_of_getElem? hzj
   have hi4 : i < zs.length:=(List.getElem?_eq_some_iff.mp hzj).1
   obtain ⟨hne,hz4⟩:=hst z hzm
   have hpos : 0 < z.2.length:=List.length_pos_iff.mpr hne
   refine ⟨_,rfl,z.1,_,rfl,.inl (SqL.of (sm _ _ (hz z hzm))),1,_,rfl,?_,?_⟩
   ·rw [List.length_map]; omega
   rw [List.length_map]
   refine xg (lo:=1) (n:=((z.2.length : Int) - 1).toNat) (fun j σ H3=>∃ (v3 v4 : Option V) (ws : List (Addr × List Int)),σ = [some (.ref bl),some (.ref fo),some (.ref z.1),v3,v4]∧Inv1 ws (fun x=>M1 i x∨∃ k,1≤k∧k≤j∧x = z.2.take k∧lacks (zs.map (·.2)) x = true) H3∧ws.length≤1 + 3 * i + j)
    ⟨_,_,ws,rfl,⟨hF,hW,ndW,fun x=>?_,sm⟩,hlen⟩ ?_ ?_
   ·rw [hM]
    constructor
    ·exact .inl
    ·rintro (h | ⟨k,h1,h2,_⟩)
     ·exact h
     ·omega
   ·rintro j σ H3 hj ⟨v3,v4,ws,rfl,⟨hF,hW,ndW,hM,sm⟩,hlen⟩
    have hj' : j + 1 < z.2.length:=by omega
    refine ⟨_,rfl,_,rfl,_,rfl,z.1,_,rfl,SqL.of (sm _ _ (hz z hzm)),fun p hp=>?_⟩
    rw [show (1 : Int) + (j : Int) = ((j + 1 : Nat) : Int) by omega,j9,← List.map_take]
    have sm2:=sm.trans (zq hp (o:=.lst ((z.2.take (j + 1)).map V.int)))
    have hF2 : (upd H3 p (.lst ((z.2.take (j + 1)).map V.int))) fo = some (.lst (ws.map fun z=>V.ref z.1)):=zq hp _ _ hF
    have hW2 : ∀ y ∈ ws,H y.1 = none∧(upd H3 p (.lst ((z.2.take (j + 1)).map V.int))) y.1 = some (.lst (y.2.map V.int))∧y.1 ≠ fo:=fun y hy=>⟨(hW y hy).1,zq hp _ _ (hW y hy).2.1,(hW y hy).2.2⟩
    have npf : p ≠ fo:=fun y=>by rw [y,hF] at hp; cases hp
    have hpH : H p = none:=sm.free hp
    generalize hx : z.2.take (j + 1) = x at *
    have hxl : x.length≤4:=by rw [← hx,List.length_take]; omega
    have stay : (x ∈ ws.map (·.2)∨lacks (zs.map (·.2)) x = false)->∀ y,y ∈ ws.map (·.2) ↔ (M1 i y∨∃ k,1≤k∧k≤j + 1∧y = z.2.take k∧lacks (zs.map (·.2)) y = true):=fun hor y=>by
     constructor
     ·intro hy
      rcases (hM y).mp hy with h | ⟨k,h1,h2,h3⟩
      ·exact .inl h
      ·exact .inr ⟨k,h1,by omega,h3⟩
     ·rintro (h | ⟨k,h1,h2,h3,h4⟩)
      ·exact (hM y).mpr (.inl h)
      ·by_cases hk : k≤j
       ·exact (hM y).mpr (.inr ⟨k,h1,hk,h3,h4⟩)
       ·have : k = j + 1:=by omega
        rw [this,hx] at h3
        rw [h3] at h4 ⊢
        rcases hor with h | h
        ·exact h
        ·rw [h] at h4; cases h4
    refine ⟨_,rfl,_,rfl,fo,_,(ws.map (·.2)).map wG,wG x,rfl,SqL.of hF2,TrsAt.lists (fun y hy=>(hW2 y hy).2.1),TrAt.ints (a:=p) (SqL.of zj),Nat.le_trans (jw _) (by decide),_,rfl,?_⟩
    rw [if_pos rfl,zbT]
    by_cases hin : x ∈ ws.map (·.2)
    ·rw [decide_eq_true hin]
     refine wO ?_
     exact wO ⟨_,_,ws,rfl,⟨hF2,hW2,ndW,stay (.inl hin),sm2⟩,by omega⟩
    ·rw [decide_eq_false hin]
     refine wR ?_
     refine ⟨_,rfl,_,rfl,bl,p,zs,x,rfl,sm2 _ _ hb,fun y hy=>sm2 _ _ (hz y hy),zj,by omega,by omega,fun y hy=>⟨(hst y hy).1,Nat.le_trans (hst y hy).2 (by decide)⟩,fun H4 s4=>⟨_,rfl,?_⟩⟩
     have sm4:=sm2.trans s4
     have hF4:=s4 _ _ hF2
     have hW4 : ∀ y ∈ ws,H y.1 = none∧H4 y.1 = some (.lst (y.2.map V.int))∧y.1 ≠ fo:=fun y hy=>⟨(hW2 y hy).1,s4 _ _ (hW2 y hy).2.1,(hW2 y hy).2.2⟩
     have hp4:=s4 _ _ (zj (H:=H3) (a:=p) (o:=.lst (x.map V.int)))
     cases hLk : lacks (zs.map (·.2)) x with
     | false=>exact wO ⟨_,_,ws,rfl,⟨hF4,hW4,ndW,stay (.inr hLk),sm4⟩,by omega⟩
     | true =>
      refine wR ⟨_,rfl,.inl ⟨rfl,_,SqL.of hF4⟩,_,rfl,fo,_,_,rfl,rfl,hF4,by rw [List.length_map]; exact Nat.lt_of_le_of_lt (show ws.length≤100 by omega) (by decide),?_⟩
      refine ⟨_,_,ws ++ [(p,x)],rfl,⟨by rw [zj,List.map_append]; rfl,fun y hy=>?_,?_,fun y=>?_,zdD sm4 hfoH⟩,by rw [List.length_append,List.length_singleton]; omega⟩
      ·rcases List.mem_append.mp hy with hy | hy
       ·obtain ⟨a1,a2,a3⟩:=hW4 y hy
        exact ⟨a1,by rw [zy a3]; exact a2,a3⟩
       ·rw [List.mem_singleton.mp hy]
        exact ⟨hpH,by rw [zy npf]; exact hp4,npf⟩
      ·rw [List.map_append]
       refine List.nodup_append.mpr ⟨ndW,by simp,fun a ha b hb'=>?_⟩
       have e : b = x:=by simpa using hb'
       rw [e]
       exact fun q=>hin (q ▸ ha)
      ·rw [List.map_append,List.mem_append]
       constructor
       ·rintro (h | h)
        ·rcases (hM y).mp h with h | ⟨k,h1,h2,h3⟩
         ·exact .inl h
         ·exact .inr ⟨k,h1,by omega,h3⟩
        ·have e : y = x:=by simpa using h
         rw [e]
         exact .inr ⟨j + 1,by omega,Nat.le_refl _,hx.symm,hLk⟩
       ·rintro (h | ⟨k,h1,h2,h3,h4⟩)
        ·exact .inl ((hM y).mpr (.inl h))
        ·by_cases hk : k≤j
         ·exact .inl ((hM y).mpr (.inr ⟨k,h1,hk,h3,h4⟩))
         ·have : k = j + 1:=by omega
          rw [this,hx] at h3
          exact .inr (by simp [h3])
   ·rintro σ H3 ⟨v3,v4,ws,rfl,⟨hF,hW,ndW,hM,sm⟩,hlen⟩
    refine ⟨_,_,_,ws,rfl,⟨hF,hW,ndW,fun x=>?_,sm⟩,by omega⟩
    rw [hM]
    constructor
    ·rintro ((h | ⟨y,hy,h⟩) | ⟨k,h1,h2,h3⟩)
     ·exact .inl h
     ·exact .inr ⟨y,by rw [List.take_succ]; exact List.mem_append_left _ hy,h⟩
     ·exact .inr ⟨z,by rw [List.take_succ,hzj]; simp,k,h1,by omega,h3⟩
    ·rintro (h | ⟨y,hy,k,h1,h2,h3⟩)
     ·exact .inl (.inl h)
     ·rw [List.take_succ,hzj] at hy
      rcases List.mem_append.mp hy with hy | hy
      ·exact .inl (.inr ⟨y,hy,k,h1,h2,h3⟩)
      ·have e : y = z:=by simpa using hy
       rw [e] at h2 h3
       exact .inr ⟨k,h1,by omega,h3⟩
  ·rintro σ H2 ⟨v2,v3,v4,ws,rfl,⟨hF,hW,ndW,hM,sm⟩,hlen⟩
   rw [List.length_map] at hM hlen
   refine ⟨_,rfl,fo,ws,rfl,hF,fun z hz'=>(hW z hz').2.1,ndW,by omega,hLT.same sm,fun D ws' H3 hD hD3 up lt pm pw=>?_⟩
   have lt2:=hLT.same sm
   have inw : ∀ z ∈ ws',z ∈ ws:=fun z hz'=>pm.mem_iff.mp hz'
   refine kk D ws' _ (sm.free hD) zj (fun z hz'=>?_) ⟨fun x=>?_,by rw [List.pairwise_map]; exact pw⟩ (by rw [pm.length_eq]; omega) (fun b u hb' e=>?_) ?_
   ·obtain ⟨a1,a2,a3⟩:=hW z (inw z hz')
    have n1 : z.1 ≠ D:=zB a2 hD
    exact ⟨a1,by rw [zy n1]; exact up _ _ (lt2.lst a2) a2,n1⟩
   ·have e : x ∈ ws'.map (·.2) ↔ x ∈ ws.map (·.2):=(pm.map (·.2)).mem_iff
    rw [e,hM]
    show (x = []∨_) ↔ (x = []∨_)
    constructor
    ·rintro (h | ⟨z,hz',k,h1,h2,h3,h4⟩)
     ·exact .inl h
     ·rw [List.take_length] at hz'
      exact .inr ⟨z.2,List.mem_map.mpr ⟨z,hz',rfl⟩,k,h1,h2,h3,h4⟩
    ·rintro (h | ⟨st,hst',k,h1,h2,h3,h4⟩)
     ·exact .inl h
     ·obtain ⟨z,hz',rfl⟩:=List.mem_map.mp hst'
      exact .inr ⟨z,by rw [List.take_length]; exact hz',k,h1,h2,h3,h4⟩
   ·have q:=up b u hb' (sm _ _ e)
    rw [zy (zB q hD3)]; exact q
   ·exact LT.same (show LT T0 H3 from lt) (zq hD3)
end
section
variable {P : Program} {w : World} {K : PySem.W.Frag} {mg : Str->Option Value} {base : Heap} {T0 : Addr}
def plc (ls ws : List (List Int)) (fs : List Int) : V:=if lacks ls fs = true then .int ((ws.idxOf (zR ls fs) : Nat) : Int) else .non
theorem Z9 {x : List Int} : ∀ {xs : List (List Int)} {m : Nat},m < xs.idxOf x->∀ h : m < xs.length,xs[m] ≠ x
 | [],m,h,h'=>by simp at h'
 | y :: ys,m,h,h'=>by
  rw [List.idxOf_cons] at h
  by_cases e : y = x
  ·subst e; simp at h
  ·have e' : (y == x) = false:=by simpa using e
   rw [e'] at h
   cases m with
   | zero=>simpa using e
   | succ m=>simpa using Z9 (x:=x) (xs:=ys) (m:=m) (by simpa using h) (by simpa using h')
def tY : Sp:=fun vs H Q _=>∃ (bl Dd fa : Addr) (zs ws : List (Addr × List Int)) (fs : List Int),vs = [.ref bl,.ref Dd,.ref fa]∧H bl = some (.lst (zs.map fun z=>V.ref z.1))∧(∀ z ∈ zs,H z.1 = some (.lst (z.2.map V.int)))∧H Dd = some (.lst (ws.map fun z=>V.ref z.1))∧(∀ z ∈ ws,H z.1 = some (.lst (z.2.map V.int)))∧H fa = some (.lst (fs.map V.int))∧zs.length≤4∧ws.length≤13∧fs.length≤1000∧(∀ z ∈ zs,z.2 ≠ []∧z.2.length≤4) ∧
 (lacks (zs.map (·.2)) fs = true->zR (zs.map (·.2)) fs ∈ ws.map (·.2))∧∀ H',Same H H'->Q (plc (zs.map (·.2)) (ws.map (·.2)) fs) H'
theorem Yc : zK ["bad","stands","figures","stand"] ["bad","stands","figures"] (zx ue):=⟨rfl,rfl,rfl,by decide +kernel,rfl,by decide +kernel,by decide +kernel⟩
theorem W2 {f f1 : Addr} {fd fd1 : FuncData} (D : Df K mg "place_behind" ue ["bad","stands","figures"] f fd) (uo : Df K mg "longest_stand" vK ["bad","figures"] f1 fd1) (qU : FnOk P w K mg base CX0 3 f1 fd1 ["bad","figures"] uL) : FnOk P w K mg base CX0 4 f fd ["bad","stands","figures"] tY:=by
 refine D.fn.ok Yc (fun vs H Q E h=>?_) (fun cdv A outer s H vs Q E hr h=>?_)
 ·obtain ⟨bl,Dd,fa,zs,ws,fs,rfl,_⟩:=h; rfl
 ·obtain ⟨bl,Dd,fa,zs,ws,fs,rfl,hb,hz,hD,hw,hf,h4,h13,hl,hst,hin,kk⟩:=h
  have HU:=Js hr
  refine ⟨_,(zp (zJ (i:=3) Yc.nd rfl (Or.inl rfl) (yc uo qU (hr.mono (by decide)) (zf (pv 0) (zf (pv 2) zg))))
   (zp (wK (yE zbd (pv 3) vp (yw _))
    (zA (zQ vp))
    yM)
   (zA (zQ (Z6 PySem.F.plainAttrs_list PySem.F.slot_list_index PySem.F.type_list_index (zcS K HU) (pv 1) (zf (pv 3) zg)))))),?_⟩
  refine ⟨_,rfl,_,rfl,bl,fa,zs,fs,rfl,hb,hz,hf,by omega,hl,fun z hz=>⟨(hst z hz).1,Nat.le_trans (hst z hz).2 (by decide)⟩,fun v H1 sv s1=>?_⟩
  have q:=kk H1 s1
  unfold plc at q
  rcases sv with ⟨hL,rfl⟩ | ⟨hL,l,rfl,hn,hv⟩
  ·rw [hL,if_neg (by decide)] at q
   exact ⟨_,rfl,rfl,_,rfl,wR q⟩
  ·rw [if_pos hL] at q
   have hm:=hin hL
   have hlt:=List.idxOf_lt_length_iff.mpr hm
   refine ⟨_,rfl,rfl,_,rfl,wO ?_⟩
   refine ⟨_,rfl,.inl ⟨rfl,_,SqL.of (s1 _ _ hD)⟩,_,rfl,Dd,_,_,(ws.map (·.2)).map wG,wG (zR (zs.map (·.2)) fs),(ws.map (·.2)).idxOf (zR (zs.map (·.2)) fs),rfl,rfl,SqL.of (s1 _ _ hD),TrsAt.lists (fun z hz=>s1 _ _ (hw z hz)),TrAt.ints (a:=l) (SqL.of hv),Nat.le_trans (jw _) (by decide),by rw [List.length_map]; exact hlt,?_,?_,q⟩
   ·intro t ht
    rw [List.getElem?_map,List.getElem?_eq_getElem hlt,Option.map_some] at ht
    rw [← Option.some.inj ht,List.getElem_idxOf hlt,Zf,decide_eq_true rfl]
   ·intro m t hm' ht
    rw [List.getElem?_map,List.getElem?_eq_getElem (Nat.lt_trans hm' hlt),Option.map_some] at ht
    rw [← Option.some.inj ht,Zf,decide_eq_false]
    intro e
    have q3:=Z9 hm' (Nat.lt_trans hm' hlt)
    exact q3 e
def W3 (ls ws : List (List Int)) (b : Nat) (x : List Int) : List V:=(List.range b).map fun (c : Nat)=>plc ls ws (x ++ [(c : Int)])
def jR : Sp:=fun vs H Q _=>∃ (r : Addr) (b : Nat) (bl : Addr) (zs : List (Addr × List Int)) (Dd : Addr) (ws : List (Addr × List Int)) (sa : Addr) (xs : List Int),vs = [.ref r,.ref Dd,.ref sa]∧RuleAt H r b bl zs∧yC b (zs.map (·.2))∧H Dd = some (.lst (ws.map fun z=>V.ref z.1))∧(∀ z ∈ ws,H z.1 = some (.lst (z.2.map V.int)))∧StandsL (zs.map (·.2)) (ws.map (·.2))∧ws.length≤13∧H sa = some (.lst (xs.map V.int))∧xs.length≤100 ∧
 ∀ p H',H p = none->Same H H'->H' p = some (.lst (W3 (zs.map (·.2)) (ws.map (·.2)) b xs))->Q (.ref p) H'
theorem Uu : zK ["rule","stands","stand"] ["rule","stands","stand"] (zx uD):=⟨rfl,rfl,rfl,by decide +kernel,rfl,by decide +kernel,by decide +kernel⟩
theorem UG {f f1 : Addr} {fd fd1 : FuncData} (D : Df K mg "steps_from" uD ["rule","stands","stand"] f fd) (uZ : Df K mg "place_behind" ue ["bad","stands","figures"] f1 fd1) (jX : FnOk P w K mg base CX0 4 f1 fd1 ["bad","stands","figures"] tY) (T : Blt mg) : FnOk P w K mg base CX0 5 f fd ["rule","stands","stand"] jR:=by
 refine D.fn.ok Uu (fun vs H Q E h=>?_) (fun cdv A outer s H vs Q E hr h=>?_)
 ·obtain ⟨r,b,bl,zs,Dd,ws,sa,xs,rfl,_⟩:=h; rfl
 ·obtain ⟨r,b,bl,zs,Dd,ws,sa,xs,rfl,R,g,hD,hw,SL,h13,hs,hl,kk⟩:=h
  have h4 : zs.length≤4:=by have:=g.len; rwa [List.length_map] at this
  have ne : ∀ l ∈ zs.map (·.2),l ≠ []:=fun l hl=>(g.st l hl).ne
  refine ⟨_,(zA (zQ (vd (show CScope (zx uD) _ "figure" ["rule","stands","stand"] ["stands","rule","stand"] [1,0,2] from ⟨rfl,by decide +kernel,by decide +kernel,rfl,by decide +kernel,rfl,by decide +kernel,by decide +kernel⟩) rfl (yg rfl T.n_range (zf (zY (ux K) (pv 0) zm (fun _ _=>rfl)) zg)) (fun _ _ _ _=>xM) (fun _ _ _ _=>(yc uZ jX (hr.mono (by decide)) (zf (zY (ux K) (pv 2) zm (fun _ _=>rfl)) (zf (pv 1) (zf (zE yD (pv 3) (zO (zf (pv 0) zg))) zg)))))))),?_⟩
  have b16:=g.b16
  refine ⟨_,rfl,r,_,_,V.int b,rfl,rfl,SqT.of R.tu,rfl,(b : Int),rfl,by omega,by omega,wL (lo:=0) (n:=(b : Int).toNat) (fun i ys H4=>ys = W3 (zs.map (·.2)) (ws.map (·.2)) i xs∧Same H H4) ⟨rfl,Same.refl _⟩ ?_ ?_⟩
  ·rintro i ys H4 hi ⟨rfl,s4⟩
   have hi' : i < b:=by omega
   refine ⟨?_,?_⟩
   ·unfold W3
    rw [List.length_map,List.length_range]
    exact Nat.lt_of_lt_of_le (show i < 16 by omega) (by decide)
   unfold Ye
   dsimp only
   rw [if_pos rfl]
   have R4:=R.same s4
   have hs4:=s4 _ _ hs
   refine ⟨_,rfl,r,_,_,V.ref bl,rfl,rfl,SqT.of R4.tu,rfl,_,rfl,_,rfl,_,rfl,(by show 1≤sizeLine; decide),fun p1 q1=>?_⟩
   have n1 : sa ≠ p1:=zB hs4 q1
   refine ⟨sa,p1,_,_,rfl,rfl,by rw [zy n1]; exact hs4,zj,by rw [List.length_map]; exact Nat.le_trans (show xs.length + 1≤101 by omega) (by decide),fun p2 q2=>?_⟩
   have t2:=s4.trans ((zq q1 (o:=.lst [V.int (0 + (i : Int))])).trans (zq q2 (o:=.lst (xs.map V.int ++ [V.int (0 + (i : Int))]))))
   have R5:=R.same t2
   refine ⟨bl,Dd,p2,zs,ws,xs ++ [0 + (i : Int)],rfl,R5.li,R5.st,t2 _ _ hD,fun z hz=>t2 _ _ (hw z hz),by rw [zj,List.map_append]; rfl,h4,h13,by rw [List.length_append,List.length_singleton]; omega,fun z hz=>⟨(g.st _ (List.mem_map.mpr ⟨z,hz,rfl⟩)).ne,(g.st _ (List.mem_map.mpr ⟨z,hz,rfl⟩)).len⟩,fun h=>(SL.mem _).mpr (ZS ne h),fun H5 s5=>⟨?_,t2.trans s5⟩⟩
   unfold W3
   rw [List.range_succ,List.map_append,Int.zero_add]
   rfl
  ·rintro ys H4 ⟨rfl,s4⟩ p hp
   refine kk p _ (s4.free hp) (s4.trans (zq hp)) ?_
   rw [zj,Int.toNat_natCast]
def ZV (ls ws : List (List Int)) (b : Nat) : List (List V):=ws.map (W3 ls ws b) ++ [V.int (ws.length : Nat) :: (W3 ls ws b []).drop 1]
def Z4 : Sp:=fun vs H Q _=>∃ (r : Addr) (b : Nat) (bl : Addr) (zs : List (Addr × List Int)) (Dd : Addr) (ws : List (Addr × List Int)),vs = [.ref r,.ref Dd]∧RuleAt H r b bl zs∧yC b (zs.map (·.2))∧H Dd = some (.lst (ws.map fun z=>V.ref z.1))∧(∀ z ∈ ws,H z.1 = some (.lst (z.2.map V.int)))∧StandsL (zs.map (·.2)) (ws.map (·.2))∧ws.length≤13 ∧
 ∀ (p : Addr) (rs : List (Addr × List V)) (H' : Hp),H p = none->Same H H'->H' p = some (.lst (rs.map fun z=>V.ref z.1))->(∀ z ∈ rs,H z.1 = none∧H' z.1 = some (.lst z.2))->rs.map (·.2) = ZV (zs.map (·.2)) (ws.map (·.2)) b->Q (.ref p) H'
theorem XR : zK ["rule","stands","steps"] ["rule","stands"] (zx tH):=⟨rfl,rfl,rfl,by decide +kernel,rfl,by decide +kernel,by decide +kernel⟩
theorem Jc {f f1 : Addr} {fd fd1 : FuncData} (D : Df K mg "all_steps" tH ["rule","stands"] f fd) (jJ : Df K mg "steps_from" uD ["rule","stands","stand"] f1 fd1) (Yh : FnOk P w K mg base CX0 5 f1 fd1 ["rule","stands","stand"] jR) (T : Blt mg) : FnOk P w K mg base CX0 6 f fd ["rule","stands"] Z4:=by
 refine D.fn.ok XR (fun vs H Q E h=>?_) (fun cdv A outer s H vs Q E hr h=>?_)
 ·obtain ⟨r,b,bl,zs,Dd,ws,rfl,_⟩:=h; rfl
 ·obtain ⟨r,b,bl,zs,Dd,ws,rfl,R,g,hD,hw,SL,h13,kk⟩:=h
  have l3 : ∀ z ∈ ws,z.2.length≤3:=fun z hz=>zde (fun st h=>(g.st st h).len) ((SL.mem _).mp (List.mem_map.mpr ⟨z,hz,rfl⟩))
  obtain ⟨w1,hw1⟩:=SL.first
  refine ⟨_,(zp (Zr (i:=2) (show CScope (zx tH) _ "stand" ["rule","stands","steps"] ["rule","stands"] [0,1] from ⟨rfl,by decide +kernel,by decide +kernel,rfl,by decide +kernel,rfl,by decide +kernel,by decide +kernel⟩) rfl XR.nd rfl (Or.inl rfl) (Uw K (pv 1)) (fun _ _ _ _=>xM) (fun _ _ _ _=>(yc jJ Yh (hr.mono (by decide)) (zf (pv 1) (zf (pv 2) (zf (pv 0) zg))))))
   (zA (zQ (zE yD (pv 2) (zO (zf (zE yD (zO (zf (zF (xX K) (by rfl) T.n_len PySem.boot_len (zf (pv 1) zg)) zg)) (yG (tV K) (zY (yl K) (pv 2) zm (fun _ _=>rfl)) (xf zm) xO)) zg)))))),?_⟩
  refine ⟨_,rfl,Dd,rfl,⟨_,SqL.of hD⟩,vf (K:=K) (a:=Dd) (xs:=ws.map fun z=>V.ref z.1) (fun i ys H4=>∃ rs : List (Addr × List V),ys = (rs.map fun z=>V.ref z.1)∧(∀ z ∈ rs,H z.1 = none∧H4 z.1 = some (.lst z.2))∧rs.map (·.2) = (ws.take i).map (fun z=>W3 (zs.map (·.2)) (ws.map (·.2)) b z.2)∧Same H H4) ⟨[],rfl,fun z hz=>(by cases hz),rfl,Same.refl _⟩ (fun i ys H4 _ ⟨_,_,_,_,e⟩=>SqL.of (e _ _ hD)) ?_ ?_⟩
  ·rintro j x ys H4 hx ⟨rs,rfl,hrs,hr2,s4⟩
   rw [List.getElem?_map] at hx
   obtain ⟨z,hzj,e⟩:=Option.map_eq_some_iff.mp hx
   subst e
   have hzm:=List.mem_of_getElem? hzj
   refine ⟨?_,?_⟩
   ·have e1:=congrArg List.length hr2
    rw [List.length_map,List.length_map,List.length_take] at e1
    rw [List.length_map,e1]
    exact Nat.lt_of_le_of_lt (Nat.le_trans (Nat.min_le_right _ _) h13) (by decide)
   unfold Ye
   dsimp only
   rw [if_pos rfl]
   refine ⟨_,rfl,_,rfl,_,rfl,r,b,bl,zs,Dd,ws,z.1,z.2,rfl,R.same s4,g,s4 _ _ hD,fun z hz=>s4 _ _ (hw z hz),SL,h13,s4 _ _ (hw z hzm),Nat.le_trans (l3 z hzm) (by decide),fun p H5 hp s5 hv=>?_⟩
   refine ⟨rs ++ [(p,W3 (zs.map (·.2)) (ws.map (·.2)) b z.2)],by simp,fun y hy=>?_,?_,s4.trans s5⟩
   ·rcases List.mem_append.mp hy with h | h
    ·exact ⟨(hrs y h).1,s5 _ _ (hrs y h).2⟩
    ·rw [List.mem_singleton] at h
     subst h
     exact ⟨s4.free hp,hv⟩
   ·rw [List.map_append,hr2,List.take_succ,hzj]
    simp
  ·rintro ys H4 ⟨rs,rfl,hrs,hr2,s4⟩ p hp
   have hl2:=congrArg List.length hr2
   rw [List.length_map,List.take_length] at hr2
   rw [List.length_map,List.length_map,List.length_take,List.length_map,Nat.min_self] at hl2
   obtain ⟨w0,ws',rfl⟩ : ∃ w0 ws',ws = w0 :: ws':=by
    cases ws with
    | nil=>simp at hw1
    | cons a b=>exact ⟨a,b,rfl⟩
   have hw0 : w0.2 = []:=by
    rw [List.map_cons] at hw1
    exact (List.cons.inj hw1).1
   obtain ⟨r0,rs',rfl⟩ : ∃ r0 rs',rs = r0 :: rs':=by
    cases rs with
    | nil=>simp at hl2
    | cons a b=>exact ⟨a,b,rfl⟩
   have hr0 : r0.2 = W3 (zs.map (·.2)) ((w0 :: ws').map (·.2)) b []:=by
    have e:=(List.cons.inj hr2).1
    rw [← hw0]
    exact e
   have t4:=s4.trans (zq hp (o:=.lst ((r0 :: rs').map fun z=>V.ref z.1)))
   have hr04 : ∀ z ∈ r0 :: rs',upd H4 p (.lst ((r0 :: rs').map fun z=>V.ref z.1)) z.1 = some (.lst z.2):=fun z hz=>zq hp _ _ (hrs z hz).2
   refine ⟨_,rfl,_,rfl,Dd,_,rfl,.inl (SqL.of (t4 _ _ hD)),(by show 1≤sizeLine; decide),fun p1 q1=>?_⟩
   have u1:=zq q1 (o:=.lst [V.int (((w0 :: ws').map fun z=>V.ref z.1).length : Nat)])
   refine ⟨_,rfl,p,_,_,V.ref r0.1,rfl,rfl,SqL.of (u1 _ _ zj),yx (j:=0) rfl,_,rfl,r0.1,_,rfl,SqL.of (u1 _ _ (hr04 r0 List.mem_cons_self)),fun p2 q2=>?_⟩
   have hb1 : r0.2.length≤16:=by
    rw [hr0]
    unfold W3
    rw [List.length_map,List.length_range]
    exact g.b16
   have u2:=u1.trans (zq q2 (o:=.lst (qw r0.2 (some 1) none)))
   refine ⟨p1,p2,_,_,rfl,rfl,zq q2 _ _ zj,zj,?_,fun p3 q3=>?_⟩
   ·rw [show (1 : Int) = ((1 : Nat) : Int) from rfl,Yv,List.length_drop,List.length_singleton]
    exact Nat.le_trans (show 1 + (r0.2.length - 1)≤100 by omega) (by decide)
   have ev : ([V.int (((w0 :: ws').map fun z=>V.ref z.1).length : Nat)] ++ qw r0.2 (some 1) none) = V.int (((w0 :: ws').map (·.2)).length : Nat) :: (W3 (zs.map (·.2)) ((w0 :: ws').map (·.2)) b []).drop 1:=by
    rw [show (1 : Int) = ((1 : Nat) : Int) from rfl,Yv,hr0,List.length_map,List.length_map]
    rfl
   have u3:=u2.trans (zq q3 (o:=.lst ([V.int (((w0 :: ws').map fun z=>V.ref z.1).length : Nat)] ++ qw r0.2 (some 1) none)))
   refine ⟨(by show 1≤sizeLine; decide),fun p4 q4=>?_⟩
   have u4:=u3.trans (zq q4 (o:=.lst [V.ref p3]))
   refine ⟨p,p4,_,_,rfl,rfl,u4 _ _ zj,zj,?_,fun p5 q5=>?_⟩
   ·rw [List.length_map,List.length_singleton]
    exact Nat.le_trans (show (r0 :: rs').length + 1≤100 by omega) (by decide)
   have u5:=u4.trans (zq q5 (o:=.lst ((r0 :: rs').map (fun z=>V.ref z.1) ++ [V.ref p3])))
   refine kk p5 (r0 :: rs' ++ [(p3,[V.int (((w0 :: ws').map fun z=>V.ref z.1).length : Nat)] ++ qw r0.2 (some 1) none)]) _ (t4.free (u4.free q5)) (t4.trans u5) ?_ ?_ ?_
   ·rw [zj,List.map_append]
    rfl
   ·intro z hz
    rcases List.mem_append.mp hz with h | h
    ·exact ⟨(hrs z h).1,u5 _ _ (hr04 z h)⟩
    ·rw [List.mem_singleton] at h
     subst h
     exact ⟨t4.free (u2.free q3),zq q5 _ _ (zq q4 _ _ zj)⟩
   ·rw [List.map_append,hr2,ev]
    unfold ZV
    rw [List.map_map]
    rfl
end
structure ClT (K : PySem.W.Frag) (mg : Str->Option Value) (C : Addr) : Prop where
 cl : Cls K C
 nm : mg "Tails" = some (.ref C)
 n_base : NoAttr K C "base"
 n_outset : NoAttr K C "outset"
 n_steps : NoAttr K C "steps"
 n_layers : NoAttr K C "layers"
def YM (b n : Nat) (sa la : Addr) : List (Str × V):=yf "layers" (.ref la) (yf "steps" (.ref sa) (yf "outset" (.int n) (yf "base" (.int b) [])))
theorem Qe (b n : Nat) (sa la : Addr) : (YM b n sa la).lookup ("base" : Str) = some (.int b):=by
 unfold YM
 rw [zM,if_neg (by decide +kernel),zM,if_neg (by decide +kernel),zM,if_neg (by decide +kernel),zM,if_pos rfl]
theorem vV (b n : Nat) (sa la : Addr) : (YM b n sa la).lookup ("outset" : Str) = some (.int n):=by
 unfold YM
 rw [zM,if_neg (by decide +kernel),zM,if_neg (by decide +kernel),zM,if_pos rfl]
theorem uO (b n : Nat) (sa la : Addr) : (YM b n sa la).lookup ("steps" : Str) = some (.ref sa):=by
 unfold YM
 rw [zM,if_neg (by decide +kernel),zM,if_pos rfl]
theorem jA (b n : Nat) (sa la : Addr) : (YM b n sa la).lookup ("layers" : Str) = some (.ref la):=by
 unfold YM
 rw [zM,if_pos rfl]
theorem Vc (b n : Nat) (sa la : Addr) {m : Str} (h1 : ¬ m = "layers":=by decide +kernel) (h2 : ¬ m = "steps":=by decide +kernel) (h3 : ¬ m = "outset":=by decide +kernel) (h4 : ¬ m = "base":=by decide +kernel) : (YM b n sa la).lookup m = none:=by
 unfold YM
 rw [zM,if_neg h1,zM,if_neg h2,zM,if_neg h3,zM,if_neg h4]
 rfl
def yS (ls ws : List (List Int)) (b t : Nat) : List Int:=(ws.map fun x=>((cnt ls b t x : Nat) : Int)) ++ [((qt ls b t : Nat) : Int)]
def stepV (ls ws : List (List Int)) : Option (List Int)->Nat->V
 | some x,c=>plc ls ws (x ++ [(c : Int)])
 | none,c=>if c = 0 then .int (ws.length : Nat) else plc ls ws [(c : Int)]
theorem zaK (ls ws : List (List Int)) (x : List Int) (c : Nat) : stepV ls ws (some x) c = plc ls ws (x ++ [(c : Int)]):=rfl
theorem wQ (ls ws : List (List Int)) (c : Nat) : stepV ls ws none c = if c = 0 then .int (ws.length : Nat) else plc ls ws [(c : Int)]:=rfl
theorem Xi (ls : List (List Int)) (b t : Nat) (x : List Int) (c : Nat) : jH ls b t (some x) c = if lacks ls (x ++ [(c : Int)]) = true then cnt ls b t (zR ls (x ++ [(c : Int)])) else 0:=rfl
theorem uQ (ls : List (List Int)) (b t : Nat) (c : Nat) : jH ls b t none c = if c = 0 then qt ls b t else if lacks ls [(c : Int)] = true then cnt ls b t (zR ls [(c : Int)]) else 0:=rfl
theorem ZD {ls ws : List (List Int)} {b i : Nat} (hb : 1≤b) (hi : i≤ws.length) : (ZV ls ws b)[i]? = some ((List.range b).map (stepV ls ws ws[i]?)):=by
 unfold ZV
 by_cases h : i < ws.length
 ·rw [List.getElem?_append_left (by rw [List.length_map]; exact h),List.getElem?_map,List.getElem?_eq_getElem h]
  rfl
 ·have e : i = ws.length:=by omega
  subst e
  rw [List.getElem?_append_right (by rw [List.length_map]; exact Nat.le_refl _),List.length_map,Nat.sub_self,List.getElem?_eq_none (Nat.le_refl _)]
  show some _ = some _
  congr 1
  obtain ⟨k,rfl⟩ : ∃ k,b = k + 1:=⟨b - 1,by omega⟩
  unfold W3
  rw [List.range_succ_eq_map,List.map_cons,List.map_cons,List.drop_succ_cons,List.drop_zero]
  rw [List.map_map,List.map_map]
  rfl
structure TailsAt (C : Addr) (H : Hp) (p la : Addr) (b : Nat) (ls ws : List (List Int)) (L : Nat) : Prop where
 ob : ∃ (dx sa : Addr) (srs : List (Addr × List V)),aw [la] H p = some (.ins C dx (YM b ws.length sa la))∧aw [la] H sa = some (.lst (srs.map fun z=>V.ref z.1))∧(∀ z ∈ srs,aw [la] H z.1 = some (.lst z.2))∧srs.map (·.2) = ZV ls ws b
 ly : ∃ lrs : List (Addr × List Int),H la = some (.lst (lrs.map fun z=>V.ref z.1))∧(∀ z ∈ lrs,aw [la] H z.1 = some (.lst (z.2.map V.int)))∧lrs.map (·.2) = (List.range L).map (yS ls ws b)
 l1 : 1≤L
structure GoodT (b : Nat) (ls ws : List (List Int)) : Prop where
 g : yC b ls
 s : StandsL ls ws
 h13 : ws.length≤13
theorem GoodT.ne {b : Nat} {ls ws : List (List Int)} (G : GoodT b ls ws) : ∀ l ∈ ls,l ≠ []:=fun l hl=>(G.g.st l hl).ne
theorem TailsAt.same {C p la b : Nat} {H H' : Hp} {ls ws : List (List Int)} {L : Nat} (A : TailsAt C H p la b ls ws L) (m : Same H H') : TailsAt C H' p la b ls ws L:=by
 obtain ⟨dx,sa,srs,h1,h2,h3,h4⟩:=A.ob
 obtain ⟨lrs,g1,g2,g3⟩:=A.ly
 have m':=m.aw [la]
 exact ⟨⟨dx,sa,srs,m' _ _ h1,m' _ _ h2,fun z hz=>m' _ _ (h3 z hz),h4⟩,⟨lrs,m _ _ g1,fun z hz=>m' _ _ (g2 z hz),g3⟩,A.l1⟩
theorem WK {ls ws : List (List Int)} {b t : Nat} (G : GoodT b ls ws) {i c : Nat} (hi : i≤ws.length) :
  (stepV ls ws ws[i]? c = .non∧jH ls b t ws[i]? c = 0)∨∃ j : Nat,stepV ls ws ws[i]? c = .int j∧j≤ws.length∧(yS ls ws b t)[j]? = some ((jH ls b t ws[i]? c : Nat) : Int):=by
 have at_ : ∀ fs : List Int,lacks ls fs = true->∃ j : Nat,plc ls ws fs = .int j∧j≤ws.length∧(yS ls ws b t)[j]? = some ((cnt ls b t (zR ls fs) : Nat) : Int):=by
  intro fs h
  have hm : zR ls fs ∈ ws:=(G.s.mem _).mpr (ZS G.ne h)
  have hlt:=List.idxOf_lt_length_iff.mpr hm
  refine ⟨ws.idxOf (zR ls fs),by unfold plc; rw [if_pos h],Nat.le_of_lt hlt,?_⟩
  unfold yS
  rw [List.getElem?_append_left (by rw [List.length_map]; exact hlt),List.getElem?_map,List.getElem?_eq_getElem hlt,List.getElem_idxOf hlt]
  rfl
 cases hw : ws[i]? with
 | some x =>
  show (plc ls ws (x ++ [(c : Int)]) = .non∧(if lacks ls (x ++ [(c : Int)]) = true then _ else 0) = 0)∨_
  by_cases h : lacks ls (x ++ [(c : Int)]) = true
  ·right
   obtain ⟨j,h1,h2,h3⟩:=at_ _ h
   refine ⟨j,h1,h2,?_⟩
   rw [h3,Xi,if_pos h]
  ·left
   exact ⟨by unfold plc; rw [if_neg h],by rw [if_neg h]⟩
 | none =>
  by_cases h0 : c = 0
  ·right
   refine ⟨ws.length,by rw [wQ,if_pos h0],Nat.le_refl _,?_⟩
   unfold yS
   rw [uQ,if_pos h0,List.getElem?_append_right (by rw [List.length_map]; exact Nat.le_refl _),List.length_map,Nat.sub_self]
   rfl
  ·by_cases h : lacks ls [(c : Int)] = true
   ·right
    obtain ⟨j,h1,h2,h3⟩:=at_ _ h
    refine ⟨j,by rw [wQ,if_neg h0]; exact h1,h2,?_⟩
    rw [h3,uQ,if_neg h0,if_pos h]
   ·left
    refine ⟨?_,?_⟩
    ·rw [wQ,if_neg h0]; unfold plc; rw [if_neg h]
    ·rw [uQ,if_neg h0,if_neg h]
theorem ZX {fp : List Addr} {H : Hp} {b : Addr} {o : HO} (h : b ∈ fp) : aw fp (upd H b o) = aw fp H:=by
 funext c
 by_cases hc : c ∈ fp
 ·rw [jG hc,jG hc]
 ·rw [zX hc,zX hc,zy (fun z : c = b=>hc (by rw [z]; exact h))]
section
variable {P : Program} {w : World} {K : PySem.W.Frag} {mg : Str->Option Value} {base : Heap} {T0 C : Addr}
def Xb (C : Addr) : Sp:=fun vs H Q _=>∃ (p la : Addr) (b : Nat) (ls ws : List (List Int)) (L t : Nat) (lay : Addr) (i s : Nat),vs = [.ref p,.ref lay,.int i,.int s]∧TailsAt C H p la b ls ws L∧GoodT b ls ws∧H lay = some (.lst ((yS ls ws b t).map V.int))∧i≤ws.length∧s≤b ∧
 ∀ H',Same H H'->Q (.int (under ls b t ws[i]? s : Nat)) H'
theorem Wu : zK ["self","layer","place","stop"] ["self","layer","place","stop"] (zx xj):=⟨rfl,rfl,rfl,by decide +kernel,rfl,by decide +kernel,by decide +kernel⟩
theorem Vr {f : Addr} {fd : FuncData} (D : Mt K C "Tails.many_by" "many_by" xj ["self","layer","place","stop"] f fd) (zL : ClT K mg C) (T : Blt mg) (U : zb2 mg) : FnOk P w K mg base CX0 1 f fd ["self","layer","place","stop"] (Xb C):=by
 refine D.fn.ok Wu (fun vs H Q E h=>?_) (fun cdv A outer s H vs Q E hr h=>?_)
 ·obtain ⟨p,la,b,ls,ws,L,t,lay,i,s,rfl,_⟩:=h; rfl
 ·obtain ⟨p,la,b,ls,ws,L,t,lay,i,s,rfl,TA,G,hlay,hi,hs,kk⟩:=h
  obtain ⟨dx,sa,srs,h1,h2,h3,h4⟩:=TA.ob
  have b16:=G.g.b16
  have b2:=G.g.b2
  refine ⟨_,(zA (zQ (zF (zfr K rfl) (by rfl) U.n_sum boot_sum (zf (vd (show CScope (zx xj) _ "behind" ["self","layer","place","stop"] ["layer"] [1] from ⟨rfl,by decide +kernel,by decide +kernel,rfl,by decide +kernel,rfl,by decide +kernel,by decide +kernel⟩) rfl (Uw K (yG (tV K) (zY (yl K) (xQ K (pv 0)) (pv 2) (fun _ _=>rfl)) xO (xf (pv 3)))) (fun _ _ _ _=>(zeb (yE Jl (pv 0) vp (yw _)))) (fun _ _ _ _=>(zY (yl K) (pv 1) (pv 0) (fun _ _=>rfl)))) zg)))),?_⟩
  have hrow:=ZD (ls:=ls) (b:=b) (by omega) hi
  rw [← h4,List.getElem?_map] at hrow
  obtain ⟨z,hz,ez⟩:=Option.map_eq_some_iff.mp hrow
  have hzm:=List.mem_of_getElem? hz
  have hz3:=zN _ _ _ _ (h3 z hzm)
  refine ⟨_,rfl,p,C,dx,_,_,rfl,zN _ _ _ _ h1,zL.cl,zL.n_steps,uO _ _ _ _,_,rfl,sa,_,_,V.ref z.1,rfl,rfl,SqL.of (zN _ _ _ _ h2),yx (by rw [List.getElem?_map,hz]; rfl),?_⟩
  refine ⟨_,rfl,_,rfl,z.1,_,rfl,SqL.of hz3,fun q hq=>?_⟩
  have m1:=zq hq (o:=.lst (qw z.2 none (some (s : Int))))
  have ecut : qw z.2 none (some (s : Int)) = (List.range s).map (stepV ls ws ws[i]?):=by
   rw [j9,ez,← List.map_take,List.take_range,Nat.min_eq_left hs]
  rw [ecut] at m1 ⊢
  refine ⟨q,rfl,⟨_,SqL.of zj⟩,vf (K:=K) (a:=q) (xs:=(List.range s).map (stepV ls ws ws[i]?)) (fun k ys H4=>H4 = upd H q (.lst ((List.range s).map (stepV ls ws ws[i]?)))∧∃ ms : List Int,ys = ms.map V.int∧ms.length≤k∧ms.sum = ((under ls b t ws[i]? k : Nat) : Int)) ⟨rfl,[],rfl,Nat.le_refl _,by simp [under]⟩ (fun k ys H4 _ ⟨e,_⟩=>by rw [e]; exact SqL.of zj) ?_ ?_⟩
  ·rintro k x ys H4 hx ⟨rfl,ms,rfl,hml,hms⟩
   rw [List.getElem?_map] at hx
   obtain ⟨c,hc,e⟩:=Option.map_eq_some_iff.mp hx
   have hk : k < s:=by have:=(List.getElem?_eq_some_iff.mp hc).1; rwa [List.length_range] at this
   have ec : c = k:=by
    rw [List.getElem?_range hk] at hc
    exact (Option.some.inj hc).symm
   subst ec
   subst e
   refine ⟨by rw [List.length_map]; exact Nat.lt_of_le_of_lt (show ms.length≤16 by omega) (by decide),?_⟩
   have hus:=Y7 ls b t ws[i]? c
   rcases WK (t:=t) G (c:=c) hi with ⟨e1,e2⟩ | ⟨j,e1,e2,e3⟩
   ·rw [e1]
    refine ⟨_,rfl,rfl,_,rfl,wO ⟨rfl,ms,rfl,by omega,?_⟩⟩
    rw [hus,e2,hms]
    omega
   ·rw [e1]
    refine ⟨_,rfl,rfl,_,rfl,wR ?_⟩
    refine ⟨_,rfl,_,rfl,lay,_,_,V.int ((jH ls b t ws[i]? c : Nat) : Int),rfl,rfl,SqL.of (m1 _ _ hlay),yx (by rw [List.getElem?_map,e3]; rfl),rfl,ms ++ [((jH ls b t ws[i]? c : Nat) : Int)],by simp,by rw [List.length_append,List.length_singleton]; omega,?_⟩
    rw [List.sum_append,hms,hus]
    simp
  ·rintro ys H4 ⟨rfl,ms,rfl,hml,hms⟩ Dd hD
   refine ⟨Dd,ms,rfl,SqL.of zj,?_⟩
   rw [hms,List.length_map,List.length_range]
   exact kk _ (m1.trans (zq hD))
def TQ (C : Addr) (H : Hp) (p la : Addr) (b : Nat) (ls ws : List (List Int)) (L : Nat) (R : Nat->Hp->Prop) : Prop:=∀ (L' : Nat) (H' : Hp),L≤L'->TailsAt C H' p la b ls ws L'->Same (aw [la] H) (aw [la] H')->R L' H'
def XM (C : Addr) : Sp:=fun vs H Q _=>∃ (p la : Addr) (b : Nat) (ls ws : List (List Int)) (L t : Nat),vs = [.ref p,.int t]∧TailsAt C H p la b ls ws L∧GoodT b ls ws∧L≤1000∧t < 1000 ∧
 ∀ lay : Addr,TQ C H p la b ls ws L fun L' H'=>L'≤max L (t + 1)->aw [la] H' lay = some (.lst ((yS ls ws b t).map V.int))->Q (.ref lay) H'
theorem Ym : zK ["self","left","shorter"] ["self","left"] (zx wC):=⟨rfl,rfl,rfl,by decide +kernel,rfl,by decide +kernel,by decide +kernel⟩
theorem JF {ls ws : List (List Int)} {b t : Nat} : ((List.range (ws.length + 1)).map fun i=>((under ls b t ws[i]? b : Nat) : Int)) = yS ls ws b (t + 1):=by
 unfold yS
 apply List.ext_getElem?
 intro i
 rw [List.getElem?_map]
 by_cases h : i < ws.length
 ·rw [List.getElem?_range (by omega),List.getElem?_append_left (by rw [List.length_map]; exact h),List.getElem?_map,Option.map_some,List.getElem?_eq_getElem h]
  rfl
 ·by_cases h2 : i = ws.length
  ·subst h2
   rw [List.getElem?_range (by omega),List.getElem?_append_right (by rw [List.length_map]; exact Nat.le_refl _),List.length_map,Nat.sub_self,Option.map_some,List.getElem?_eq_none (Nat.le_refl _)]
   rfl
  ·rw [List.getElem?_eq_none (by rw [List.length_range]; omega),List.getElem?_eq_none (by rw [List.length_append,List.length_map,List.length_singleton]; omega)]
   rfl
theorem zag {f f1 : Addr} {fd fd1 : FuncData} (D : Mt K C "Tails.layer" "layer" wC ["self","left"] f fd) (yJ : Mt K C "Tails.many_by" "many_by" xj ["self","layer","place","stop"] f1 fd1) (zL : ClT K mg C) (T : Blt mg) (U : zb2 mg) : FnOk P w K mg base CX0 2 f fd ["self","left"] (XM C):=by
 have Ys : FnOk P w K mg base CX0 1 f1 fd1 ["self","layer","place","stop"] (Xb C):=Vr yJ zL T U
 refine D.fn.ok Ym (fun vs H Q E h=>?_) (fun cdv A outer s H vs Q E hr h=>?_)
 ·obtain ⟨p,la,b,ls,ws,L,t,rfl,_⟩:=h; rfl
 ·obtain ⟨p,la,b,ls,ws,L,t,rfl,TA,G,hL,ht,kk⟩:=h
  have h13:=G.h13
  refine ⟨_,(zp (V3 PassesOwn.never (yE Qa (zF (xX K) (by rfl) T.n_len PySem.boot_len (zf (xQ K (pv 0)) zg)) (pv 1) (yw _))
    (zp (zJ (i:=2) Ym.nd rfl (Or.inr rfl) (zY (yl K) (xQ K (pv 0)) (Xx Z3 zm) (fun _ _=>rfl)))
    (zA (yQ (Z6 PySem.F.plainAttrs_list PySem.F.slot_list_append PySem.F.type_list_append xR (xQ K (pv 0)) (zf (vd (show CScope (zx wC) _ "place" ["self","left","shorter"] ["shorter","self"] [2,0] from ⟨rfl,by decide +kernel,by decide +kernel,rfl,by decide +kernel,rfl,by decide +kernel,by decide +kernel⟩) rfl (yg rfl T.n_range (zf (zE yO (xQ K (pv 0)) zm) zg)) (fun _ _ _ _=>xM) (fun _ _ _ _=>(Yb yJ zL.cl Ys (hr.mono (by decide)) (pv 2) (zf (pv 1) (zf (pv 0) (zf (xQ K (pv 2)) zg)))))) zg))))))
   (zA (zQ (zY (yl K) (xQ K (pv 0)) (pv 1) (fun _ _=>rfl))))),?_⟩
  refine Vg (fun σ H2=>∃ (v : Option V) (L' : Nat),σ = [some (.ref p),some (.int t),v]∧L≤L'∧L'≤max L (t + 1)∧TailsAt C H2 p la b ls ws L'∧Same (aw [la] H) (aw [la] H2))
   (fun σ H2=>match H2 la with | some (.lst xs)=>t + 1 - xs.length | _=>0) ⟨none,L,rfl,Nat.le_refl _,Nat.le_max_left _ _,TA,Same.refl _⟩ ?_ ?_
  ·rintro σ H2 ⟨v,L',rfl,hLL,hLm,TA2,m2⟩
   obtain ⟨dx,sa,srs,h1,h2,h3,h4⟩:=TA2.ob
   obtain ⟨lrs,g1,g2,g3⟩:=TA2.ly
   have hl : lrs.length = L':=by have:=congrArg List.length g3; rwa [List.length_map,List.length_map,List.length_range] at this
   have hp:=zN _ _ _ _ h1
   have l1:=TA2.l1
   refine ⟨_,rfl,p,C,dx,_,_,rfl,hp,zL.cl,zL.n_layers,jA _ _ _ _,la,_,rfl,.inl (SqL.of g1),_,rfl,_,_,rfl,rfl,_,rfl,?_⟩
   rw [List.length_map,hl]
   refine zaQ (fun hc=>?_) (fun hc=>?_)
   ·have hc' : L'≤t:=by have:=of_decide_eq_true hc; omega
    have hlast : lrs[L' - 1]? = some lrs[L' - 1]:=List.getElem?_eq_getElem (by omega)
    generalize hz : lrs[L' - 1] = z at hlast
    have hzm : z ∈ lrs:=List.mem_of_getElem? hlast
    have hz2 : z.2 = yS ls ws b (L' - 1):=by
     have e:=congrArg (fun l=>l[L' - 1]?) g3
     simp only [List.getElem?_map,hlast,List.getElem?_range (show L' - 1 < L' by omega),Option.map_some] at e
     exact Option.some.inj e
    have elr : lrs = lrs.take (L' - 1) ++ [z]:=by
     have e:=(List.take_append_drop (L' - 1) lrs).symm
     rw [List.drop_eq_getElem_cons (show L' - 1 < lrs.length by omega),hz,List.drop_of_length_le (by omega)] at e
     exact e
    have eat : atI (lrs.map fun z=>V.ref z.1) (-1) = some (V.ref z.1):=by
     rw [elr,List.map_append]
     exact zdx _ _
    refine ⟨_,rfl,p,C,dx,_,_,rfl,hp,zL.cl,zL.n_layers,jA _ _ _ _,_,rfl,la,_,_,V.ref z.1,rfl,rfl,SqL.of g1,eat,?_⟩
    refine ⟨_,rfl,p,C,dx,_,_,rfl,hp,zL.cl,zL.n_layers,jA _ _ _ _,.inl ⟨rfl,_,SqL.of g1⟩,?_⟩
    refine ⟨_,rfl,p,C,dx,_,_,rfl,hp,zL.cl,zL.n_outset,vV _ _ _ _,_,_,rfl,rfl,((ws.length : Int) + 1),rfl,by omega,by omega,wL (lo:=0) (n:=((ws.length : Int) + 1).toNat) (fun i ys H4=>ys = (((List.range i).map fun i=>((under ls b (L' - 1) ws[i]? b : Nat) : Int))).map V.int∧Same H2 H4) ⟨rfl,Same.refl _⟩ ?_ ?_⟩
    ·rintro i ys H4 hi ⟨rfl,m4⟩
     refine ⟨by rw [List.length_map,List.length_map,List.length_range]; exact Nat.lt_of_lt_of_le (show i < 20 by omega) (by decide),?_⟩
     unfold Ye
     dsimp only
     rw [if_pos rfl]
     have TA4:=TA2.same m4
     have hp4:=m4 _ _ hp
     refine ⟨_,rfl,p,dx,_,rfl,hp4,Vc _ _ _ _,_,rfl,_,rfl,_,rfl,p,C,dx,_,_,rfl,hp4,zL.cl,zL.n_base,Qe _ _ _ _,?_⟩
     refine ⟨p,la,b,ls,ws,L',L' - 1,z.1,i,b,by rw [Int.zero_add]; rfl,TA4,G,?_,by omega,Nat.le_refl _,fun H5 m5=>⟨?_,m4.trans m5⟩⟩
     ·rw [← hz2]; exact m4 _ _ (zN _ _ _ _ (g2 z hzm))
     ·rw [List.range_succ,List.map_append,List.map_append]
      rfl
    rintro ys H4 ⟨rfl,m4⟩ q hq
    rw [show ((ws.length : Int) + 1).toNat = ws.length + 1 by omega,JF,show L' - 1 + 1 = L' by omega]
    have m5:=zq hq (o:=.lst ((yS ls ws b L').map V.int))
    have gla:=m5 _ _ (m4 _ _ g1)
    have nq : q ≠ la:=fun e=>by rw [e,m4 _ _ g1] at hq; cases hq
    refine ⟨la,_,_,rfl,rfl,gla,by rw [List.length_map,hl]; exact Nat.lt_of_le_of_lt (show L'≤1000 by omega) (by decide),?_⟩
    have m25 : Same (aw [la] H2) (aw [la] (upd (upd H4 q (.lst ((yS ls ws b L').map V.int))) la (.lst (lrs.map (fun z=>V.ref z.1) ++ [.ref q])))):=by
     rw [ZX (by simp)]
     exact (m4.trans m5).aw [la]
    refine ⟨⟨_,L' + 1,rfl,by omega,by omega,⟨⟨dx,sa,srs,m25 _ _ h1,m25 _ _ h2,fun y hy=>m25 _ _ (h3 y hy),h4⟩,⟨lrs ++ [(q,yS ls ws b L')],by rw [zj]; simp,fun y hy=>?_,?_⟩,by omega⟩,m2.trans m25⟩,?_⟩
    ·rcases List.mem_append.mp hy with hy | hy
     ·exact m25 _ _ (g2 y hy)
     ·have e : y = (q,yS ls ws b L'):=by simpa using hy
      subst e
      rw [ZX (by simp),zX (by simp [nq]),zj]
    ·rw [List.map_append,g3,List.range_succ,List.map_append]
     rfl
    ·show (match (upd (upd H4 q (.lst ((yS ls ws b L').map V.int))) la (.lst (lrs.map (fun z=>V.ref z.1) ++ [.ref q]))) la with | some (.lst xs)=>t + 1 - xs.length | _=>0) < (match H2 la with | some (.lst xs)=>t + 1 - xs.length | _=>0)
     rw [zj,g1]
     show t + 1 - (lrs.map (fun z=>V.ref z.1) ++ [V.ref q]).length < t + 1 - (lrs.map fun z=>V.ref z.1).length
     rw [List.length_append,List.length_map,List.length_singleton]
     omega
   ·have hc' : t < L':=by
     by_cases z : t < L'
     ·exact z
     ·exact absurd (decide_eq_true (by omega : (L' : Int)≤t)) hc
    have hlast : lrs[t]? = some lrs[t]:=List.getElem?_eq_getElem (by omega)
    generalize hz : lrs[t] = z at hlast
    have hzm : z ∈ lrs:=List.mem_of_getElem? hlast
    have hz2 : z.2 = yS ls ws b t:=by
     have e:=congrArg (fun l=>l[t]?) g3
     simp only [List.getElem?_map,hlast,List.getElem?_range hc',Option.map_some] at e
     exact Option.some.inj e
    refine ⟨_,rfl,p,C,dx,_,_,rfl,hp,zL.cl,zL.n_layers,jA _ _ _ _,_,rfl,la,_,_,V.ref z.1,rfl,rfl,SqL.of g1,yx (by rw [List.getElem?_map,hlast]; rfl),?_⟩
    exact kk z.1 L' H2 hLL TA2 m2 hLm (by rw [← hz2]; exact g2 z hzm)
  ·intro σ H2 Q Q' hq
   rintro ⟨v0,e0,a,C',dx,fs,v,h1,h2,h3,h4,h5,p',ys,h6,h7,v1,e1,i,j,e3,e4,k,e5,q⟩
   exact ⟨v0,e0,a,C',dx,fs,v,h1,h2,h3,h4,h5,p',ys,h6,h7,v1,e1,i,j,e3,e4,k,e5,hq _ _ q⟩
def qX (C : Addr) : Sp:=fun vs H Q _=>∃ (p la : Addr) (b : Nat) (ls ws : List (List Int)) (L t : Nat),vs = [.ref p,.int t]∧TailsAt C H p la b ls ws L∧GoodT b ls ws∧L≤1000∧t < 1000∧TQ C H p la b ls ws L fun L' H'=>L'≤max L (t + 1)->Q (.int (qt ls b t : Nat)) H'
theorem Yr : zK ["self","size"] ["self","size"] (zx xK):=⟨rfl,rfl,rfl,by decide +kernel,rfl,by decide +kernel,by decide +kernel⟩
theorem Vh {f f1 f2 : Addr} {fd fd1 fd2 : FuncData} (D : Mt K C "Tails.many_within" "many_within" xK ["self","size"] f fd) (xr : Mt K C "Tails.layer" "layer" wC ["self","left"] f1 fd1) (yJ : Mt K C "Tails.many_by" "many_by" xj ["self","layer","place","stop"] f2 fd2) (zL : ClT K mg C) (T : Blt mg) (U : zb2 mg) : FnOk P w K mg base CX0 3 f fd ["self","size"] (qX C):=by
 have uw : FnOk P w K mg base CX0 2 f1 fd1 ["self","left"] (XM C):=zag xr yJ zL T U
 refine D.fn.ok Yr (fun vs H Q E h=>?_) (fun cdv A outer s H vs Q E hr h=>?_)
 ·obtain ⟨p,la,b,ls,ws,L,t,rfl,_⟩:=h; rfl
 ·obtain ⟨p,la,b,ls,ws,L,t,rfl,TA,G,hL,ht,kk⟩:=h
  obtain ⟨dx,sa,srs,h1,h2,h3,h4⟩:=TA.ob
  have hp:=zN _ _ _ _ h1
  refine ⟨_,(zA (zQ (zY (yl K) (Yb xr zL.cl uw (hr.mono (by decide)) (pv 0) (zf (pv 1) zg)) (xQ K (pv 0)) (fun _ _=>rfl)))),?_⟩
  refine ⟨_,rfl,p,dx,_,rfl,hp,Vc _ _ _ _,_,rfl,p,la,b,ls,ws,L,t,rfl,TA,G,hL,ht,fun lay L' H' hLL TA' m' hm hlay=>?_⟩
  obtain ⟨dx',sa',srs',h1',h2',h3',h4'⟩:=TA'.ob
  refine ⟨_,rfl,p,C,dx',_,_,rfl,zN _ _ _ _ h1',zL.cl,zL.n_outset,vV _ _ _ _,lay,_,_,V.int ((qt ls b t : Nat) : Int),rfl,rfl,SqL.of (zN _ _ _ _ hlay),yx ?_,kk L' H' hLL TA' m' hm⟩
  unfold yS
  rw [List.map_append,List.getElem?_append_right (by rw [List.length_map,List.length_map]; exact Nat.le_refl _),List.length_map,List.length_map,Nat.sub_self]
  rfl
end
theorem LT.off {T la : Addr} {H H' : Hp} {xs : List V} (h : LT T H) (hla : H la = some (.lst xs)) (m : Same (aw [la] H) (aw [la] H')) : LT T H':=by
 have go : ∀ c o,c ≠ la->H c = some o->H' c = some o:=fun c o hc e=>by
  have hc' : c ∉ [la]:=by simpa using hc
  have:=m c o (by rw [zX hc']; exact e)
  rwa [zX hc'] at this
 have n0 : T ≠ la:=Ne.symm (h.lst hla)
 rcases h with h | ⟨c,h1,h2⟩
 ·exact .inl (go _ _ n0 h)
 ·refine .inr ⟨c,go _ _ n0 h1,go _ _ (fun z=>?_) h2⟩
  rw [z,hla] at h2
  cases h2
theorem Jh {α : Type} {f : α->V} (h : ∀ a,f a = V.int 1) : ∀ l : List α,(List.replicate l.length [V.int 1]).flatten = l.map f
 | []=>rfl
 | a :: l=>by rw [List.length_cons,List.replicate_succ,List.flatten_cons,Jh h l,List.map_cons,h a]; rfl
section
variable {P : Program} {w : World} {K : PySem.W.Frag} {mg : Str->Option Value} {base : Heap} {T0 C : Addr}
def X4 (T0 C : Addr) : Sp:=fun vs H Q _=>∃ (p dx r : Addr) (b : Nat) (bl : Addr) (zs : List (Addr × List Int)),vs = [.ref p,.ref r]∧H p = some (.ins C dx [])∧RuleAt H r b bl zs∧yC b (zs.map (·.2))∧LT T0 H ∧
 ∀ (la : Addr) (ws : List (List Int)) (H' : Hp),TailsAt C H' p la b (zs.map (·.2)) ws 1->GoodT b (zs.map (·.2)) ws->(∀ c o,c ≠ p->c ≠ T0->H c = some o->H' c = some o)->LT T0 H'->H la = none->Q .non H'
theorem jF : zK ["self","rule","stands"] ["self","rule"] (zx uJ):=⟨rfl,rfl,rfl,by decide +kernel,rfl,by decide +kernel,by decide +kernel⟩
theorem zc6 {f f1 f2 f3 : Addr} {fd fd1 fd2 fd3 : FuncData} (D : Mt K C "Tails.__init__" "__init__" uJ ["self","rule"] f fd) (Zm : Df K mg "stands_of" yj ["bad"] f1 fd1) (Xe : FnOk P w K mg base CX0 6 f1 fd1 ["bad"] (Z0 T0)) (ZL : Df K mg "all_steps" tH ["rule","stands"] f2 fd2) (Xa : FnOk P w K mg base CX0 6 f2 fd2 ["rule","stands"] Z4)
  (xH : Df K mg "lacks_all" wH ["bad","figures"] f3 fd3) (xZ : FnOk P w K mg base CX0 2 f3 fd3 ["bad","figures"] uF) (zL : ClT K mg C) (T : Blt mg) : FnOk P w K mg base CX0 7 f fd ["self","rule"] (X4 T0 C):=by
 refine D.fn.ok jF (fun vs H Q E h=>?_) (fun cdv A outer s H vs Q E hr h=>?_)
 ·obtain ⟨p,dx,r,b,bl,zs,rfl,_⟩:=h; rfl
 ·obtain ⟨p,dx,r,b,bl,zs,rfl,hp,R,g,hT,kk⟩:=h
  have h4 : zs.length≤4:=by have:=g.len; rwa [List.length_map] at this
  have gz : ∀ z ∈ zs,z.2 ≠ []∧z.2.length≤4:=fun z hz=>⟨(g.st _ (List.mem_map.mpr ⟨z,hz,rfl⟩)).ne,(g.st _ (List.mem_map.mpr ⟨z,hz,rfl⟩)).len⟩
  have npT : p ≠ T0:=fun z=>by
   rw [z] at hp
   rcases hT with h | ⟨c,h,_⟩
   ·rw [h] at hp; cases hp
   ·rw [h] at hp; cases hp
  refine ⟨_,(zp (zJ (i:=2) jF.nd rfl (Or.inl rfl) (yc Zm Xe (hr.mono (by decide)) (zf (zY (ux K) (pv 1) zm (fun _ _=>rfl)) zg)))
   (zp (Xc (pv 0) (zY (ux K) (pv 1) zm (fun _ _=>rfl)) rfl)
   (zp (Xc (pv 0) (zF (xX K) (by rfl) T.n_len PySem.boot_len (zf (pv 2) zg)) rfl)
   (zp (Xc (pv 0) (yc ZL Xa (hr.mono (by decide)) (zf (pv 1) (zf (pv 2) zg))) rfl)
   (zA (Xc (pv 0) (zO (zf (zE yD (zE QD (zO (zf zm zg)) (zF (xX K) (by rfl) T.n_len PySem.boot_len (zf (pv 2) zg))) (zO (zf (JT (uA (yc xH xZ (hr.mono (by decide)) (zf (zY (ux K) (pv 1) zm (fun _ _=>rfl)) (zf (zO (zf zm zg)) zg)))) zm zm) zg))) zg)) rfl)))))),?_⟩
  refine ⟨_,rfl,r,_,_,V.ref bl,rfl,rfl,SqT.of R.tu,rfl,bl,zs,rfl,R.li,R.st,h4,gz,hT,fun Dd ws H1 hDn hD hws SL h13 mL hT1=>?_⟩
  have R1 : RuleAt H1 r b bl zs:=⟨mL _ _ (hT.tup R.tu) R.tu,mL _ _ (hT.lst R.li) R.li,fun z hz=>mL _ _ (hT.lst (R.st z hz)) (R.st z hz)⟩
  have hp1:=mL _ _ npT hp
  have rp : r ≠ p:=jz R1.tu hp1 (fun z=>nomatch z)
  have lp : ∀ {c : Addr} {xs : List V},H1 c = some (.lst xs)->c ≠ p:=fun h=>jz h hp1 (fun z=>nomatch z)
  refine ⟨_,rfl,r,_,_,V.int b,rfl,rfl,SqT.of R1.tu,rfl,_,rfl,p,C,dx,_,rfl,hp1,zL.cl,zL.n_base,(by show 0 < 1000; decide),?_⟩
  refine ⟨_,rfl,Dd,_,rfl,.inl (SqL.of (by rw [zy (lp hD)]; exact hD)),_,rfl,p,C,dx,_,rfl,zj,zL.cl,zL.n_outset,(by show 1 < 1000; decide),?_⟩
  rw [zej,List.length_map]
  generalize hH3 : upd H1 p (.ins C dx (yf "outset" (.int (ws.length : Nat)) (yf "base" (.int b) []))) = H3
  have m3 : ∀ c o,c ≠ p->H1 c = some o->H3 c = some o:=fun c o hc e=>by rw [← hH3,zy hc]; exact e
  have hp3 : H3 p = some (.ins C dx (yf "outset" (.int (ws.length : Nat)) (yf "base" (.int b) []))):=by rw [← hH3,zj]
  have R3 : RuleAt H3 r b bl zs:=⟨m3 _ _ rp R1.tu,m3 _ _ (lp R1.li) R1.li,fun z hz=>m3 _ _ (lp (R1.st z hz)) (R1.st z hz)⟩
  refine ⟨_,rfl,_,rfl,r,b,bl,zs,Dd,ws,rfl,R3,g,m3 _ _ (lp hD) hD,fun z hz=>m3 _ _ (lp (hws z hz).2.1) (hws z hz).2.1,SL,h13,fun sa srs H4 hsa m4 hsal hsrs hsr2=>?_⟩
  have hp4:=m4 _ _ hp3
  have len2 : (yf "outset" (.int (ws.length : Nat)) (yf "base" (.int b) [])).length≤2:=Nat.le_trans (tG _ _ _) (Nat.succ_le_succ (tG _ _ _))
  refine ⟨_,rfl,p,C,dx,_,rfl,hp4,zL.cl,zL.n_steps,by omega,?_⟩
  generalize hH5 : upd H4 p (.ins C dx (yf "steps" (.ref sa) (yf "outset" (.int (ws.length : Nat)) (yf "base" (.int b) [])))) = H5
  have m5 : ∀ c o,c ≠ p->H4 c = some o->H5 c = some o:=fun c o hc e=>by rw [← hH5,zy hc]; exact e
  have hp5 : H5 p = some (.ins C dx (yf "steps" (.ref sa) (yf "outset" (.int (ws.length : Nat)) (yf "base" (.int b) [])))):=by rw [← hH5,zj]
  have lp4 : ∀ {c : Addr} {xs : List V},H4 c = some (.lst xs)->c ≠ p:=fun h=>jz h hp4 (fun z=>nomatch z)
  have R4:=R3.same m4
  have R5 : RuleAt H5 r b bl zs:=⟨m5 _ _ (jz R4.tu hp4 (fun z=>nomatch z)) R4.tu,m5 _ _ (lp4 R4.li) R4.li,fun z hz=>m5 _ _ (lp4 (R4.st z hz)) (R4.st z hz)⟩
  have hD5 : H5 Dd = some (.lst (ws.map fun z=>V.ref z.1)):=m5 _ _ (lp4 (m4 _ _ (m3 _ _ (lp hD) hD))) (m4 _ _ (m3 _ _ (lp hD) hD))
  refine ⟨(by show 1≤sizeLine; decide),fun q1 n1=>?_⟩
  refine ⟨_,rfl,Dd,_,rfl,.inl (SqL.of (zq n1 _ _ hD5)),?_⟩
  rw [List.length_map]
  refine ⟨q1,_,_,rfl,rfl,zj,by omega,by omega,?_,fun q2 n2=>?_⟩
  ·show 1 * (ws.length : Int).toNat≤sizeLine
   exact Nat.le_trans (show 1 * (ws.length : Int).toNat≤13 by omega) (by decide)
  have s1:=zq n1 (o:=.lst [V.int 1])
  have s2:=s1.trans (zq n2 (o:=.lst (List.replicate (ws.length : Int).toNat [V.int 1]).flatten))
  have R6:=R5.same s2
  refine ⟨_,rfl,r,_,_,V.ref bl,rfl,rfl,SqT.of R6.tu,rfl,(by show 1≤sizeLine; decide),fun q3 n3=>?_⟩
  have s3:=s2.trans (zq n3 (o:=.lst [V.int 0]))
  have R7:=R5.same s3
  refine ⟨bl,q3,zs,[0],rfl,R7.li,R7.st,zj,by omega,by decide,fun z hz=>⟨(gz z hz).1,Nat.le_trans (gz z hz).2 (by decide)⟩,fun H8 s8=>⟨_,rfl,?_⟩⟩
  have s38:=s3.trans s8
  have fin : ∀ x : Int,x = ((qt (zs.map (·.2)) b 0 : Nat) : Int)->∀ q4,H8 q4 = none->q2 ≠ q4->∀ q5,upd H8 q4 (.lst [V.int x]) q5 = none->∀ q6,upd (upd H8 q4 (.lst [V.int x])) q5 (.lst ((List.replicate (ws.length : Int).toNat [V.int 1]).flatten ++ [V.int x])) q6 = none ->
    Q .non (upd (upd (upd (upd H8 q4 (.lst [V.int x])) q5 (.lst ((List.replicate (ws.length : Int).toNat [V.int 1]).flatten ++ [V.int x]))) q6 (.lst [V.ref q5])) p (.ins C dx (yf "layers" (.ref q6) (yf "steps" (.ref sa) (yf "outset" (.int (ws.length : Nat)) (yf "base" (.int b) [])))))):=by
   intro x hx q4 n4 _ q5 n5 q6 n6
   have t4:=zq n4 (o:=.lst [V.int x])
   have t5:=zq n5 (o:=.lst ((List.replicate (ws.length : Int).toNat [V.int 1]).flatten ++ [V.int x]))
   have t6:=zq n6 (o:=.lst [V.ref q5])
   have t46:=t4.trans (t5.trans t6)
   have s56:=s38.trans t46
   have hp9:=s56 _ _ hp5
   have f5 : ∀ c,H5 c = none->H c = none:=fun c hc=>by
    have h5 : H4 c = none:=by
     rw [← hH5] at hc
     by_cases z : c = p
     ·subst z; rw [zj] at hc; cases hc
     ·rwa [zy z] at hc
    have h3' : H3 c = none:=m4.free h5
    have h1' : H1 c = none:=by
     rw [← hH3] at h3'
     by_cases z : c = p
     ·subst z; rw [zj] at h3'; cases h3'
     ·rwa [zy z] at h3'
    cases e : H c with
    | none=>rfl
    | some o =>
     by_cases z : c = T0
     ·subst z
      exact absurd h1' (by
       rcases hT1 with h | ⟨d,h,_⟩
       ·rw [h]; simp
       ·rw [h]; simp)
     ·rw [mL c o z e] at h1'; cases h1'
   have q6H5 : H5 q6 = none:=(s38.trans (t4.trans t5)).free n6
   have q6p : q6 ≠ p:=fun z=>by rw [z,hp5] at q6H5; cases q6H5
   have np5 : q5 ≠ q6:=fun z=>by rw [← z,zj] at n6; cases n6
   generalize hH9 : upd (upd (upd H8 q4 (.lst [V.int x])) q5 (.lst ((List.replicate (ws.length : Int).toNat [V.int 1]).flatten ++ [V.int x]))) q6 (.lst [V.ref q5]) = H9 at t6 t46 s56 hp9
   have hq6 : H9 q6 = some (.lst [V.ref q5]):=by rw [← hH9,zj]
   have hq5 : H9 q5 = some (.lst ((List.replicate (ws.length : Int).toNat [V.int 1]).flatten ++ [V.int x])):=by rw [← hH9,zy np5,zj]
   have q5p : q5 ≠ p:=jz hq5 hp9 (fun z=>nomatch z)
   have off : ∀ c o,c ≠ p->H5 c = some o->aw [q6] (upd H9 p (.ins C dx (YM b ws.length sa q6))) c = some o:=fun c o hc e=>by
    have hcq : c ≠ q6:=zB e q6H5
    rw [zX (by simpa using hcq),zy hc]
    exact s56 c o e
   have sa4 : H4 sa = some (.lst (srs.map fun z=>V.ref z.1)):=hsal
   have l1 : ∀ {c : Addr} {xs : List V},H4 c = some (.lst xs)->H5 c = some (.lst xs)∧c ≠ p:=fun h=>⟨m5 _ _ (lp4 h) h,lp4 h⟩
   refine kk q6 (ws.map (·.2)) _ ⟨⟨dx,sa,srs,?_,off _ _ (l1 hsal).2 (l1 hsal).1,fun z hz=>off _ _ (l1 (hsrs z hz).2).2 (l1 (hsrs z hz).2).1,hsr2⟩,⟨[(q5,yS (zs.map (·.2)) (ws.map (·.2)) b 0)],by rw [zy q6p]; exact hq6,fun z hz=>?_,rfl⟩,Nat.le_refl _⟩ ⟨g,SL,by rw [List.length_map]; exact h13⟩ (fun c o hc hcT e=>?_) ?_ (f5 _ q6H5)
   ·rw [zX (by simpa using Ne.symm q6p),List.length_map]
    exact zj
   ·have e : z = (q5,yS (zs.map (·.2)) (ws.map (·.2)) b 0):=by simpa using hz
    subst e
    rw [zX (by simpa using np5),zy q5p,hq5]
    congr 2
    unfold yS
    rw [List.map_append,hx,Int.toNat_natCast,List.map_map,List.map_map]
    rw [Jh (fun _=>rfl) ws]
    rfl
   ·rw [zy hc]
    have h1:=mL c o hcT e
    exact s56 c o (m5 c o hc (m4 c o (m3 c o hc h1)))
   ·have a1 : LT T0 H3:=by
     rcases hT1 with h | ⟨d,h1,h2⟩
     ·exact .inl (m3 _ _ (Ne.symm npT) h)
     ·exact .inr ⟨d,m3 _ _ (Ne.symm npT) h1,m3 _ _ (jz h2 hp1 (fun z=>nomatch z)) h2⟩
    have a2:=a1.same m4
    have a3 : LT T0 H5:=by
     rcases a2 with h | ⟨d,h1,h2⟩
     ·exact .inl (m5 _ _ (Ne.symm npT) h)
     ·exact .inr ⟨d,m5 _ _ (Ne.symm npT) h1,m5 _ _ (jz h2 hp4 (fun z=>nomatch z)) h2⟩
    have a4:=a3.same s56
    rcases a4 with h | ⟨d,h1,h2⟩
    ·exact .inl (by rw [zy (Ne.symm npT)]; exact h)
    ·exact .inr ⟨d,by rw [zy (Ne.symm npT)]; exact h1,by rw [zy (jz h2 hp9 (fun z=>nomatch z))]; exact h2⟩
  have hq2 : H8 q2 = some (.lst (List.replicate (ws.length : Int).toNat [V.int 1]).flatten):=s8 _ _ (zq n3 _ _ zj)
  have lenr : (List.replicate (ws.length : Int).toNat [V.int 1]).flatten.length≤13:=by rw [Int.toNat_natCast,Jh (f:=fun _=>V.int 1) (fun _=>rfl) ws,List.length_map]; exact h13
  have len3 : (yf "steps" (.ref sa) (yf "outset" (.int (ws.length : Nat)) (yf "base" (.int b) []))).length≤3:=Nat.le_trans (tG _ _ _) (Nat.succ_le_succ len2)
  have tail : ∀ x : Int,x = ((qt (zs.map (·.2)) b 0 : Nat) : Int)->∀ q4,H8 q4 = none->∃ l b' xs zs',V.ref q2 = V.ref l∧V.ref q4 = V.ref b'∧upd H8 q4 (.lst [V.int x]) l = some (.lst xs)∧upd H8 q4 (.lst [V.int x]) b' = some (.lst zs')∧xs.length + zs'.length≤sizeLine∧∀ q5,upd H8 q4 (.lst [V.int x]) q5 = none ->
    1≤sizeLine∧∀ q6,upd (upd H8 q4 (.lst [V.int x])) q5 (.lst (xs ++ zs')) q6 = none->∃ v,some (some (V.ref p)) = some (some v)∧∃ a C' dx' fs,v = .ref a∧upd (upd (upd H8 q4 (.lst [V.int x])) q5 (.lst (xs ++ zs'))) q6 (.lst [V.ref q5]) a = some (.ins C' dx' fs)∧Cls K C'∧NoAttr K C' "layers"∧fs.length < 1000∧Q .non (upd (upd (upd (upd H8 q4 (.lst [V.int x])) q5 (.lst (xs ++ zs'))) q6 (.lst [V.ref q5])) a (.ins C' dx' (yf "layers" (.ref q6) fs))):=by
   intro x hx q4 n4
   have nq : q2 ≠ q4:=zB hq2 n4
   refine ⟨q2,q4,_,_,rfl,rfl,by rw [zy nq]; exact hq2,zj,Nat.le_trans (Nat.add_le_add lenr (Nat.le_refl 1)) (by decide),fun q5 n5=>⟨(by decide),fun q6 n6=>?_⟩⟩
   have hp8:=s38 _ _ hp5
   exact ⟨_,rfl,p,C,dx,_,rfl,(zq n4).trans ((zq n5).trans (zq n6)) _ _ hp8,zL.cl,zL.n_layers,by omega,fin x hx q4 n4 nq q5 n5 q6 n6⟩
  cases hlk : lacks (zs.map (·.2)) [0] with
  | true =>
   refine wR ?_
   refine ⟨(by show 1≤sizeLine; decide),fun q4 n4=>?_⟩
   exact tail 1 (by unfold qt; rw [hlk]; rfl) q4 n4
  | false =>
   refine wO ?_
   refine ⟨(by show 1≤sizeLine; decide),fun q4 n4=>?_⟩
   exact tail 0 (by unfold qt; rw [hlk]; rfl) q4 n4
end
theorem QV {H : Hp} {x dx : Addr} {C : Addr} (nx : H x = none) (ndx : H dx = none) : Same H (upd (upd H dx (.own x)) x (.ins C dx [])):=fun b o e=>by
 rw [zy (zB e nx),zy (zB e ndx)]
 exact e
theorem RuleAt.sameL {T0 r bl : Addr} {H H' : Hp} {b : Nat} {zs : List (Addr × List Int)} (R : RuleAt H r b bl zs) (hT : LT T0 H) (m : SameL T0 H H') : RuleAt H' r b bl zs :=
 ⟨m _ _ (hT.tup R.tu) R.tu,m _ _ (hT.lst R.li) R.li,fun z hz=>m _ _ (hT.lst (R.st z hz)) (R.st z hz)⟩
theorem zbV {T0 la : Addr} {H H1 H2 : Hp} (m : SameL T0 H H1) (hla : H la = none) (a : Same (aw [la] H1) (aw [la] H2)) : SameL T0 H H2:=fun c o hc e=>by
 have hcl : c ∉ [la]:=by simpa using zB e hla
 have:=a c o (by rw [zX hcl]; exact m c o hc e)
 rwa [zX hcl] at this
theorem TailsAt.la {C p la b : Nat} {H : Hp} {ls ws : List (List Int)} {L : Nat} (TA : TailsAt C H p la b ls ws L) : ∃ xs,H la = some (.lst xs):=let ⟨_,h,_⟩:=TA.ly; ⟨_,h⟩
theorem zcg {ls ws : List (List Int)} {b m : Nat} (G : GoodT b ls ws) {i c : Nat} (hi : i≤ws.length) (R : Rep ls b m ws[i]?) (hc : c < b) :
  (∃ j : Nat,stepV ls ws ws[i]? c = .int j∧j≤ws.length∧Rep ls b (m * b + c) ws[j]?)∨(stepV ls ws ws[i]? c = .non∧1≤m * b + c∧gd ls b (m * b + c) = false):=by
 have b2:=G.g.b2
 have ep : ∀ h : ¬ (ws[i]? = none∧c = 0),stepV ls ws ws[i]? c = plc ls ws (ws[i]?.getD [] ++ [(c : Int)]):=by
  intro h
  cases hw : ws[i]? with
  | some x=>rfl
  | none =>
   rw [wQ,if_neg (fun z=>h ⟨hw,z⟩)]
   rfl
 rcases R.step G.ne b2 hc with ⟨h1,h2,h3⟩ | ⟨h0,⟨h1,h2⟩ | ⟨h1,h2,h3⟩⟩
 ·left
  refine ⟨ws.length,by rw [h1,wQ,if_pos h2],Nat.le_refl _,by rw [List.getElem?_eq_none (Nat.le_refl _)]; exact h3⟩
 ·left
  have hm : zR ls (ws[i]?.getD [] ++ [(c : Int)]) ∈ ws:=(G.s.mem _).mpr (ZS G.ne h1)
  have hlt:=List.idxOf_lt_length_iff.mpr hm
  refine ⟨ws.idxOf (zR ls (ws[i]?.getD [] ++ [(c : Int)])),by rw [ep h0]; unfold plc; rw [if_pos h1],Nat.le_of_lt hlt,?_⟩
  rw [List.getElem?_eq_getElem hlt,List.getElem_idxOf hlt]
  exact h2
 ·right
  exact ⟨by rw [ep h0]; unfold plc; rw [if_neg (by rw [h1]; exact Bool.false_ne_true)],h2,h3⟩
section
variable {C : Addr}
theorem TailsAt.obj {H : Hp} {p la b : Nat} {ls ws : List (List Int)} {L : Nat} (TA : TailsAt C H p la b ls ws L) : ∃ dx sa,H p = some (.ins C dx (YM b ws.length sa la)):=by
 obtain ⟨dx,sa,srs,h1,_⟩:=TA.ob
 exact ⟨dx,sa,zN _ _ _ _ h1⟩
theorem zcr {H : Hp} {p la b : Nat} {ls ws : List (List Int)} {L i c : Nat} (TA : TailsAt C H p la b ls ws L) (G : GoodT b ls ws) (hi : i≤ws.length) (hc : c < b) :
  ∃ (dx sa : Addr) (srs : List (Addr × List V)) (z : Addr × List V),H p = some (.ins C dx (YM b ws.length sa la))∧H sa = some (.lst (srs.map fun z=>V.ref z.1))∧atI (srs.map fun z=>V.ref z.1) (i : Int) = some (V.ref z.1)∧H z.1 = some (.lst z.2)∧atI z.2 (c : Int) = some (stepV ls ws ws[i]? c):=by
 obtain ⟨dx,sa,srs,h1,h2,h3,h4⟩:=TA.ob
 have hrow:=ZD (ls:=ls) (b:=b) (by have:=G.g.b2; omega) hi
 rw [← h4,List.getElem?_map] at hrow
 obtain ⟨z,hz,ez⟩:=Option.map_eq_some_iff.mp hrow
 refine ⟨dx,sa,srs,z,zN _ _ _ _ h1,zN _ _ _ _ h2,yx (by rw [List.getElem?_map,hz]; rfl),zN _ _ _ _ (h3 z (List.mem_of_getElem? hz)),yx ?_⟩
 rw [ez,List.getElem?_map,List.getElem?_range hc]
 rfl
end
section
variable {P : Program} {w : World} {K : PySem.W.Frag} {mg : Str->Option Value} {base : Heap} {T0 C : Addr}
def zfQ (T0 C : Addr) (b : Nat) (ls : List (List Int)) (H : Hp) (x : Addr) (H' : Hp) : Prop:=∃ (la : Addr) (ws : List (List Int)),TailsAt C H' x la b ls ws 1∧GoodT b ls ws∧SameL T0 H H'∧LT T0 H'∧H la = none
theorem zdZ {r : Addr} {b : Nat} {bl : Addr} {zs : List (Addr × List Int)} {H : Hp} (R : RuleAt H r b bl zs) (g : yC b (zs.map (·.2))) (hT : LT T0 H) {R' : Addr->Hp->Prop} (k : ∀ x H',zfQ T0 C b (zs.map (·.2)) H x H'->R' x H') :
  ∀ x dx,H x = none->H dx = none->dx ≠ x->X4 T0 C (.ref x :: ([.ref r] ++ [])) (upd (upd H dx (.own x)) x (.ins C dx [])) (fun v H2=>v = .non∧R' x H2) E0:=by
 intro x dx nx ndx nex
 have s0:=QV (C:=C) nx ndx
 refine ⟨x,dx,r,b,bl,zs,rfl,zj,R.same s0,g,hT.same s0,fun la ws H' TA G fr hT' hla=>⟨rfl,k x H' ⟨la,ws,TA,G,fun c o hc e=>fr c o (zB e nx) hc (s0 c o e),hT',s0.free hla⟩⟩⟩
end
structure ClS (K : PySem.W.Frag) (mg : Str->Option Value) (C : Addr) : Prop where
 cl : Cls K C
 nm : mg "Totals" = some (.ref C)
 n_tails : NoAttr K C "tails"
 n_weights : NoAttr K C "weights"
 n_layers : NoAttr K C "layers"
def Yq (tl wa l2 : Addr) : List (Str × V):=yf "layers" (.ref l2) (yf "weights" (.ref wa) (yf "tails" (.ref tl) []))
theorem vP (tl wa l2 : Addr) : (Yq tl wa l2).lookup ("tails" : Str) = some (.ref tl):=by
 unfold Yq
 rw [zM,if_neg (by decide +kernel),zM,if_neg (by decide +kernel),zM,if_pos rfl]
theorem QS (tl wa l2 : Addr) : (Yq tl wa l2).lookup ("weights" : Str) = some (.ref wa):=by
 unfold Yq
 rw [zM,if_neg (by decide +kernel),zM,if_pos rfl]
theorem Wy (tl wa l2 : Addr) : (Yq tl wa l2).lookup ("layers" : Str) = some (.ref l2):=by
 unfold Yq
 rw [zM,if_pos rfl]
theorem Yw (tl wa l2 : Addr) {m : Str} (h1 : ¬ m = "layers":=by decide +kernel) (h2 : ¬ m = "weights":=by decide +kernel) (h3 : ¬ m = "tails":=by decide +kernel) : (Yq tl wa l2).lookup m = none:=by
 unfold Yq
 rw [zM,if_neg h1,zM,if_neg h2,zM,if_neg h3]
 rfl
def wA (b : Nat) (w : Nat->Nat) (sc k : Nat) : List Int:=(List.range b).map fun (c : Nat)=>((sc ^ k * w c : Nat) : Int)
def Zb (ls ws : List (List Int)) (b : Nat) (w : Nat->Nat) (sc t : Nat) : List Int:=(ws.map fun x=>((tt ls b w sc t x : Nat) : Int)) ++ [((ttO ls b w sc t : Nat) : Int)]
def stepT (ls : List (List Int)) (b : Nat) (w : Nat->Nat) (sc t : Nat) : Option (List Int)->Nat->Nat
 | some x,c=>if lacks ls (x ++ [(c : Int)]) = true then sc ^ t * w c * cnt ls b t (zR ls (x ++ [(c : Int)])) + tt ls b w sc t (zR ls (x ++ [(c : Int)])) else 0
 | none,c=>if c = 0 then ttO ls b w sc t else if lacks ls [(c : Int)] = true then sc ^ t * w c * cnt ls b t (zR ls [(c : Int)]) + tt ls b w sc t (zR ls [(c : Int)]) else 0
def qj (ls : List (List Int)) (b : Nat) (w : Nat->Nat) (sc t : Nat) (o : Option (List Int)) (s : Nat) : Nat:=((List.range s).map (stepT ls b w sc t o)).sum
theorem WR (ls : List (List Int)) (b : Nat) (w : Nat->Nat) (sc t : Nat) (o : Option (List Int)) (s : Nat) : qj ls b w sc t o (s + 1) = qj ls b w sc t o s + stepT ls b w sc t o s:=by
 unfold qj
 rw [List.range_succ,List.map_append,List.sum_append]
 simp
theorem zcm {ls ws : List (List Int)} {b sc t : Nat} {w : Nat->Nat} : ((List.range (ws.length + 1)).map fun i=>((qj ls b w sc t ws[i]? b : Nat) : Int)) = Zb ls ws b w sc (t + 1):=by
 unfold Zb
 apply List.ext_getElem?
 intro i
 rw [List.getElem?_map]
 by_cases h : i < ws.length
 ·rw [List.getElem?_range (by omega),List.getElem?_append_left (by rw [List.length_map]; exact h),List.getElem?_map,Option.map_some,List.getElem?_eq_getElem h]
  rfl
 ·by_cases h2 : i = ws.length
  ·subst h2
   rw [List.getElem?_range (by omega),List.getElem?_append_right (by rw [List.length_map]; exact Nat.le_refl _),List.length_map,Nat.sub_self,Option.map_some,List.getElem?_eq_none (Nat.le_refl _)]
   rfl
  ·rw [List.getElem?_eq_none (by rw [List.length_range]; omega),List.getElem?_eq_none (by rw [List.length_append,List.length_map,List.length_singleton]; omega)]
   rfl
theorem zar {ls ws : List (List Int)} {b sc t : Nat} {w : Nat->Nat} (G : GoodT b ls ws) {i c : Nat} (hi : i≤ws.length) :
  (stepV ls ws ws[i]? c = .non∧stepT ls b w sc t ws[i]? c = 0∧jH ls b t ws[i]? c = 0)∨∃ (j x y z : Nat),stepV ls ws ws[i]? c = .int j∧j≤ws.length∧(yS ls ws b t)[j]? = some ((x : Nat) : Int)∧(Zb ls ws b w sc t)[j]? = some ((y : Nat) : Int)∧z = (if j = ws.length then 0 else sc ^ t * w c)∧stepT ls b w sc t ws[i]? c = z * x + y∧jH ls b t ws[i]? c = x:=by
 have at_ : ∀ fs : List Int,lacks ls fs = true->∃ j : Nat,plc ls ws fs = .int j∧j < ws.length∧(yS ls ws b t)[j]? = some ((cnt ls b t (zR ls fs) : Nat) : Int)∧(Zb ls ws b w sc t)[j]? = some ((tt ls b w sc t (zR ls fs) : Nat) : Int):=by
  intro fs h
  have hm : zR ls fs ∈ ws:=(G.s.mem _).mpr (ZS G.ne h)
  have hlt:=List.idxOf_lt_length_iff.mpr hm
  refine ⟨ws.idxOf (zR ls fs),by unfold plc; rw [if_pos h],hlt,?_,?_⟩
  ·unfold yS
   rw [List.getElem?_append_left (by rw [List.length_map]; exact hlt),List.getElem?_map,List.getElem?_eq_getElem hlt,List.getElem_idxOf hlt]
   rfl
  ·unfold Zb
   rw [List.getElem?_append_left (by rw [List.length_map]; exact hlt),List.getElem?_map,List.getElem?_eq_getElem hlt,List.getElem_idxOf hlt]
   rfl
 cases hw : ws[i]? with
 | some x =>
  by_cases h : lacks ls (x ++ [(c : Int)]) = true
  ·right
   obtain ⟨j,h1,h2,h3,h4⟩:=at_ _ h
   refine ⟨j,_,_,sc ^ t * w c,h1,Nat.le_of_lt h2,h3,h4,by rw [if_neg (by omega)],?_,by rw [Xi,if_pos h]⟩
   show (if lacks ls (x ++ [(c : Int)]) = true then _ else 0) = _
   rw [if_pos h]
  ·left
   refine ⟨by rw [zaK]; unfold plc; rw [if_neg h],?_,by rw [Xi,if_neg h]⟩
   show (if lacks ls (x ++ [(c : Int)]) = true then _ else 0) = _
   rw [if_neg h]
 | none =>
  by_cases h0 : c = 0
  ·right
   refine ⟨ws.length,qt ls b t,ttO ls b w sc t,0,by rw [wQ,if_pos h0],Nat.le_refl _,?_,?_,by rw [if_pos rfl],?_,by rw [uQ,if_pos h0]⟩
   ·unfold yS
    rw [List.getElem?_append_right (by rw [List.length_map]; exact Nat.le_refl _),List.length_map,Nat.sub_self]
    rfl
   ·unfold Zb
    rw [List.getElem?_append_right (by rw [List.length_map]; exact Nat.le_refl _),List.length_map,Nat.sub_self]
    rfl
   ·show (if c = 0 then _ else _) = _
    rw [if_pos h0]; omega
  ·by_cases h : lacks ls [(c : Int)] = true
   ·right
    obtain ⟨j,h1,h2,h3,h4⟩:=at_ _ h
    refine ⟨j,_,_,sc ^ t * w c,by rw [wQ,if_neg h0]; exact h1,Nat.le_of_lt h2,h3,h4,by rw [if_neg (by omega)],?_,by rw [uQ,if_neg h0,if_pos h]⟩
    show (if c = 0 then _ else if lacks ls [(c : Int)] = true then _ else 0) = _
    rw [if_neg h0,if_pos h]
   ·left
    refine ⟨?_,?_,by rw [uQ,if_neg h0,if_neg h]⟩
    ·rw [wQ,if_neg h0]; unfold plc; rw [if_neg h]
    ·show (if c = 0 then _ else if lacks ls [(c : Int)] = true then _ else 0) = _
     rw [if_neg h0,if_neg h]
structure RowsAt (H : Hp) (a : Addr) (rs : List (List Int)) : Prop where
 ex : ∃ zs : List (Addr × List Int),H a = some (.lst (zs.map fun z=>V.ref z.1))∧(∀ z ∈ zs,H z.1 = some (.lst (z.2.map V.int)))∧zs.map (·.2) = rs
theorem RowsAt.same {H H' : Hp} {a : Addr} {rs : List (List Int)} (R : RowsAt H a rs) (m : Same H H') : RowsAt H' a rs:=by
 obtain ⟨zs,h1,h2,h3⟩:=R.ex
 exact ⟨⟨zs,m _ _ h1,fun z hz=>m _ _ (h2 z hz),h3⟩⟩
theorem RowsAt.get {H : Hp} {a : Addr} {rs : List (List Int)} (R : RowsAt H a rs) {k : Nat} {r : List Int} (h : rs[k]? = some r) : ∃ (zs : List V) (q : Addr),H a = some (.lst zs)∧atI zs (k : Int) = some (V.ref q)∧H q = some (.lst (r.map V.int)):=by
 obtain ⟨zs,h1,h2,h3⟩:=R.ex
 rw [← h3,List.getElem?_map] at h
 obtain ⟨z,hz,e⟩:=Option.map_eq_some_iff.mp h
 subst e
 exact ⟨_,z.1,h1,yx (by rw [List.getElem?_map,hz]; rfl),h2 z (List.mem_of_getElem? hz)⟩
section
variable {P : Program} {w : World} {K : PySem.W.Frag} {mg : Str->Option Value} {base : Heap} {T0 C CS : Addr}
def vO : Sp:=fun vs H Q _=>∃ (wl : Addr) (b : Nat) (w : Nat->Nat) (sc sz : Nat),vs = [.ref wl,.int sc,.int sz]∧H wl = some (.lst ((wA b w sc 0).map V.int))∧b≤16∧sc≤16∧sz≤900∧∀ (q : Addr) (H' : Hp),H q = none->RowsAt H' q ((List.range sz).map (wA b w sc))->Same H H'->Q (.ref q) H'
theorem wj : zK ["weights","scale","size","told","left"] ["weights","scale","size"] (zx xn):=⟨rfl,rfl,rfl,by decide +kernel,rfl,by decide +kernel,by decide +kernel⟩
theorem Y9 {f : Addr} {fd : FuncData} (D : Df K mg "weights_by_left" xn ["weights","scale","size"] f fd) (T : Blt mg) : FnOk P w K mg base CX0 1 f fd ["weights","scale","size"] vO:=by
 refine D.fn.ok wj (fun vs H Q E h=>?_) (fun cdv A outer s H vs Q E hr h=>?_)
 ·obtain ⟨wl,b,w,sc,sz,rfl,_⟩:=h; rfl
 ·obtain ⟨wl,b,wt,sc,sz,rfl,hw,hb,hsc,hsz,kk⟩:=h
  refine ⟨_,(zp (zJ (i:=3) wj.nd rfl (Or.inl rfl) (zO zg))
   (zp (vM PassesOwn.never rfl (yg rfl T.n_range (zf (pv 2) zg)) (yK (i:=4) wj.nd rfl (Or.inl rfl))
    (zp (yQ (Z6 PySem.F.plainAttrs_list PySem.F.slot_list_append PySem.F.type_list_append xR (pv 3) (zf (pv 0) zg)))
    (zA (Zr (i:=0) (show CScope (zx xn) _ "weight" ["weights","scale","size","told","left"] ["scale"] [1] from ⟨rfl,by decide +kernel,by decide +kernel,rfl,by decide +kernel,rfl,by decide +kernel,by decide +kernel⟩) rfl wj.nd rfl (Or.inl rfl) (Uw K (pv 0)) (fun _ _ _ _=>xM) (fun _ _ _ _=>(zE qg (pv 1) (pv 0)))))))
   (zA (zQ (pv 3))))),?_⟩
  refine ⟨(by decide : 0≤sizeLine),fun to hto=>?_⟩
  have m1:=zq hto (o:=.lst [])
  refine ⟨_,rfl,_,rfl,by omega,by omega,xg (lo:=0) (n:=(sz : Int).toNat) (fun i σ H2=>∃ (v4 : Option V) (wi : Addr) (zs : List (Addr × List Int)),σ = [some (.ref wi),some (.int sc),some (.int sz),some (.ref to),v4]∧wi ≠ to∧H2 wi = some (.lst ((wA b wt sc i).map V.int))∧H2 to = some (.lst (zs.map fun z=>V.ref z.1))∧(∀ z ∈ zs,z.1 ≠ to∧H2 z.1 = some (.lst (z.2.map V.int)))∧zs.map (·.2) = (List.range i).map (wA b wt sc)∧Same H H2)
   ⟨none,wl,[],rfl,zB hw hto,m1 _ _ hw,zj,by simp,rfl,m1⟩ ?_ ?_⟩
  ·rintro i σ H2 hi ⟨v4,wi,zs,rfl,nw,hwi,hto2,hzs,ezs,m2⟩
   have hzl : zs.length = i:=by have:=congrArg List.length ezs; rwa [List.length_map,List.length_map,List.length_range] at this
   refine ⟨_,rfl,.inl ⟨rfl,_,SqL.of hto2⟩,_,rfl,to,_,_,rfl,rfl,hto2,by rw [List.length_map,hzl]; exact Nat.lt_of_lt_of_le (show i < 1000 by omega) (by decide),?_⟩
   have m3 : Same H (upd H2 to (.lst (zs.map (fun z=>V.ref z.1) ++ [V.ref wi]))):=fun c o e=>by rw [zy (zB e hto)]; exact m2 c o e
   have hwi3 : upd H2 to (.lst (zs.map (fun z=>V.ref z.1) ++ [V.ref wi])) wi = some (.lst ((wA b wt sc i).map V.int)):=by rw [zy nw]; exact hwi
   have hz3 : ∀ z ∈ zs ++ [(wi,wA b wt sc i)],z.1 ≠ to∧upd H2 to (.lst (zs.map (fun z=>V.ref z.1) ++ [V.ref wi])) z.1 = some (.lst (z.2.map V.int)):=fun z hz=>by
    rcases List.mem_append.mp hz with hz | hz
    ·exact ⟨(hzs z hz).1,by rw [zy (hzs z hz).1]; exact (hzs z hz).2⟩
    ·have e : z = (wi,wA b wt sc i):=by simpa using hz
     subst e; exact ⟨nw,hwi3⟩
   have hto3 : upd H2 to (.lst (zs.map (fun z=>V.ref z.1) ++ [V.ref wi])) to = some (.lst ((zs ++ [(wi,wA b wt sc i)]).map fun z=>V.ref z.1)):=by rw [zj]; simp
   generalize upd H2 to (.lst (zs.map (fun z=>V.ref z.1) ++ [V.ref wi])) = H3 at m3 hwi3 hz3 hto3
   refine ⟨_,rfl,wi,rfl,⟨_,SqL.of hwi3⟩,vf (K:=K) (a:=wi) (xs:=(wA b wt sc i).map V.int) (fun k ys H4=>H4 = H3∧ys = ((wA b wt sc (i + 1)).take k).map V.int) ⟨rfl,rfl⟩ (fun k ys H4 _ ⟨e,_⟩=>by rw [e]; exact SqL.of hwi3) ?_ ?_⟩
   ·rintro k x ys H4 hx ⟨rfl,rfl⟩
    unfold wA at hx
    rw [List.getElem?_map,List.getElem?_map] at hx
    obtain ⟨y,hy,e⟩:=Option.map_eq_some_iff.mp hx
    obtain ⟨c,hc,e2⟩:=Option.map_eq_some_iff.mp hy
    subst e2; subst e
    have hk : k < b:=by have:=(List.getElem?_eq_some_iff.mp hc).1; rwa [List.length_range] at this
    have ec : c = k:=by rw [List.getElem?_range hk] at hc; exact (Option.some.inj hc).symm
    subst ec
    refine ⟨by rw [List.length_map]; exact Nat.lt_of_le_of_lt (Nat.le_trans (List.length_take_le' _ _) (by unfold wA; rw [List.length_map,List.length_range]; exact hb)) (by decide),?_⟩
    unfold Ye
    dsimp only
    rw [if_pos rfl]
    refine ⟨_,rfl,_,rfl,_,_,rfl,rfl,.inl ⟨by omega,by omega⟩,rfl,?_⟩
    have e3 : (wA b wt sc (i + 1))[c]? = some ((sc : Int) * ((sc ^ i * wt c : Nat) : Int)):=by
     unfold wA
     rw [List.getElem?_map,List.getElem?_range hk,Option.map_some,Nat.pow_succ',Nat.mul_assoc,Int.natCast_mul]
    rw [List.take_succ,e3,List.map_append]
    rfl
   ·rintro ys H4 ⟨rfl,rfl⟩ q hq
    have m4:=zq hq (o:=.lst (((wA b wt sc (i + 1)).take ((wA b wt sc i).map V.int).length).map V.int))
    have nq : q ≠ to:=Ne.symm (zB hto3 hq)
    have etk : (wA b wt sc (i + 1)).take ((wA b wt sc i).map V.int).length = wA b wt sc (i + 1):=List.take_of_length_le (by unfold wA; simp)
    refine ⟨_,q,zs ++ [(wi,wA b wt sc i)],rfl,nq,by rw [zj,etk],m4 _ _ hto3,fun z hz=>⟨(hz3 z hz).1,m4 _ _ (hz3 z hz).2⟩,?_,m3.trans m4⟩
    rw [List.map_append,ezs,List.range_succ,List.map_append]
    rfl
  ·rintro σ H2 ⟨v4,wi,zs,rfl,nw,hwi,hto2,hzs,ezs,m2⟩
   exact ⟨_,rfl,kk to H2 hto ⟨⟨zs,hto2,fun z hz=>(hzs z hz).2,by rw [ezs,Int.toNat_natCast]⟩⟩ m2⟩
end
structure TotAt (C CS : Addr) (H : Hp) (p tl la wa l2 : Addr) (b : Nat) (ls ws : List (List Int)) (L : Nat) (wt : Nat->Nat) (sc sz M : Nat) : Prop where
 ob : ∃ dx,aw [la,l2] H p = some (.ins CS dx (Yq tl wa l2))
 ta : TailsAt C H tl la b ls ws L
 sa : ∃ dx sa,aw [la,l2] H tl = some (.ins C dx (YM b ws.length sa la))∧sa ≠ l2
 wr : RowsAt (aw [la,l2] H) wa ((List.range sz).map (wA b wt sc))
 ly : ∃ zs : List (Addr × List Int),H l2 = some (.lst (zs.map fun z=>V.ref z.1))∧(∀ z ∈ zs,aw [la,l2] H z.1 = some (.lst (z.2.map V.int)))∧zs.map (·.2) = (List.range M).map (Zb ls ws b wt sc)
 ne : la ≠ l2
theorem zeQ {la l2 : Addr} {H H' : Hp} (m : Same (aw [la] H) (aw [la] H')) : Same (aw [la,l2] H) (aw [la,l2] H'):=fun c o e=>by
 have hc : c ∉ [la,l2]:=fun hc=>by rw [jG hc] at e; cases e
 have hc1 : c ∉ [la]:=fun z=>hc (by simp at z; simp [z])
 rw [zX hc] at e ⊢
 have:=m c o (by rw [zX hc1]; exact e)
 rwa [zX hc1] at this
section
variable {C CS : Addr} {H H' : Hp} {p tl la wa l2 : Addr} {b : Nat} {ls ws : List (List Int)} {L L' : Nat} {wt : Nat->Nat} {sc sz M : Nat}
theorem TotAt.more (A : TotAt C CS H p tl la wa l2 b ls ws L wt sc sz M) (TA : TailsAt C H' tl la b ls ws L') (m : Same (aw [la] H) (aw [la] H')) : TotAt C CS H' p tl la wa l2 b ls ws L' wt sc sz M:=by
 have m2:=zeQ (l2:=l2) m
 obtain ⟨dx,h1⟩:=A.ob
 obtain ⟨dx2,sa,h2,h3⟩:=A.sa
 obtain ⟨zs,g1,g2,g3⟩:=A.ly
 have hn : l2 ∉ [la]:=by simpa using Ne.symm A.ne
 exact ⟨⟨dx,m2 _ _ h1⟩,TA,⟨dx2,sa,m2 _ _ h2,h3⟩,A.wr.same m2,⟨zs,by
  have:=m l2 _ (by rw [zX hn]; exact g1)
  rwa [zX hn] at this,fun z hz=>m2 _ _ (g2 z hz),g3⟩,A.ne⟩
theorem TotAt.same (A : TotAt C CS H p tl la wa l2 b ls ws L wt sc sz M) (m : Same H H') : TotAt C CS H' p tl la wa l2 b ls ws L wt sc sz M:=A.more (A.ta.same m) (m.aw [la])
theorem TotAt.obj (A : TotAt C CS H p tl la wa l2 b ls ws L wt sc sz M) : ∃ dx,H p = some (.ins CS dx (Yq tl wa l2)):=let ⟨dx,h⟩:=A.ob; ⟨dx,zN _ _ _ _ h⟩
theorem TotAt.lay (A : TotAt C CS H p tl la wa l2 b ls ws L wt sc sz M) {t : Nat} (ht : t < M) : ∃ (zs : List V) (q : Addr),H l2 = some (.lst zs)∧atI zs (t : Int) = some (V.ref q)∧aw [la] H q = some (.lst ((Zb ls ws b wt sc t).map V.int)):=by
 obtain ⟨zs,g1,g2,g3⟩:=A.ly
 have h : ((List.range M).map (Zb ls ws b wt sc))[t]? = some (Zb ls ws b wt sc t):=by rw [List.getElem?_map,List.getElem?_range ht]; rfl
 rw [← g3,List.getElem?_map] at h
 obtain ⟨z,hz,e⟩:=Option.map_eq_some_iff.mp h
 refine ⟨_,z.1,g1,yx (by rw [List.getElem?_map,hz]; rfl),?_⟩
 have:=g2 z (List.mem_of_getElem? hz)
 rw [e] at this
 have hc : z.1 ∉ [la,l2]:=fun hc=>by rw [jG hc] at this; cases this
 rw [zX hc] at this
 rw [zX (fun z=>hc (by simp at z; simp [z]))]
 exact this
end
theorem zaz (ls : List (List Int)) (b : Nat) : ∀ (t : Nat) (x : List Int),cnt ls b t x≤b ^ t
 | 0,_=>by simp [cnt]
 | t + 1,x=>by
  rw [cnt,Nat.pow_succ']
  have : ∀ (n : Nat),((List.range n).map fun (c : Nat)=>if lacks ls (x ++ [(c : Int)]) = true then cnt ls b t (zR ls (x ++ [(c : Int)])) else 0).sum≤n * b ^ t:=by
   intro n
   induction n with
   | zero=>simp
   | succ n ih =>
    rw [List.range_succ,List.map_append,List.sum_append,Nat.succ_mul]
    simp only [List.map_cons,List.map_nil,List.sum_cons,List.sum_nil,Nat.add_zero]
    have : (if lacks ls (x ++ [(n : Int)]) = true then cnt ls b t (zR ls (x ++ [(n : Int)])) else 0)≤b ^ t:=by
     split
     ·exact zaz ls b t _
     ·exact Nat.zero_le _
    omega
  exact this b
theorem zbv (p : Nat->Bool) : ∀ N : Nat,many p N≤N
 | 0=>Nat.le_refl _
 | N + 1=>by
  rw [many]
  have:=zbv p N
  split <;> omega
theorem zdv {ls : List (List Int)} (ne : ∀ l ∈ ls,l ≠ []) {b : Nat} (h2 : 2≤b) (t : Nat) (o : Option (List Int)) (c : Nat) : jH ls b t o c≤b ^ t:=by
 cases o with
 | some x =>
  show (if _ then _ else 0)≤_
  split
  ·exact zaz ls b t _
  ·exact Nat.zero_le _
 | none =>
  show (if c = 0 then _ else if _ then _ else 0)≤_
  split
  ·rw [Ww ne h2]; exact zbv _ _
  ·split
   ·exact zaz ls b t _
   ·exact Nat.zero_le _
theorem zem {b t : Nat} (h : b≤16) (ht : t≤1000) : b ^ t < 2 ^ 4001:=by
 have h1 : b ^ t≤16 ^ t:=Nat.pow_le_pow_left h t
 have h2 : (16 : Nat) ^ t = 2 ^ (4 * t):=by rw [show (16 : Nat) = 2 ^ 4 from rfl,← Nat.pow_mul]
 have h3 : 2 ^ (4 * t) < 2 ^ 4001:=Nat.pow_lt_pow_right (Nat.lt_succ_self 1) (by omega)
 omega
section
variable {P : Program} {w : World} {K : PySem.W.Frag} {mg : Str->Option Value} {base : Heap} {T0 C CS : Addr}
def qG (C CS : Addr) : Sp:=fun vs H Q _=>∃ (p tl la wa l2 : Addr) (b : Nat) (ls ws : List (List Int)) (L : Nat) (wt : Nat->Nat) (sc sz M j c t : Nat),vs = [.ref p,.int j,.int c,.int t]∧TotAt C CS H p tl la wa l2 b ls ws L wt sc sz M∧c < b∧t < sz∧Q (.int ((if j = ws.length then 0 else sc ^ t * wt c : Nat) : Int)) H
theorem YK : zK ["self","behind","figure","left"] ["self","behind","figure","left"] (zx yX):=⟨rfl,rfl,rfl,by decide +kernel,rfl,by decide +kernel,by decide +kernel⟩
theorem Jp {f : Addr} {fd : FuncData} (D : Mt K CS "Totals.weight_of" "weight_of" yX ["self","behind","figure","left"] f fd) (zL : ClT K mg C) (zH : ClS K mg CS) : FnOk P w K mg base CX0 1 f fd ["self","behind","figure","left"] (qG C CS):=by
 refine D.fn.ok YK (fun vs H Q E h=>?_) (fun cdv A outer s H vs Q E hr h=>?_)
 ·obtain ⟨p,tl,la,wa,l2,b,ls,ws,L,wt,sc,sz,M,j,c,t,rfl,_⟩:=h; rfl
 ·obtain ⟨p,tl,la,wa,l2,b,ls,ws,L,wt,sc,sz,M,j,c,t,rfl,TT,hc,ht,kk⟩:=h
  obtain ⟨dx,hp⟩:=TT.obj
  obtain ⟨dt,sa,htl⟩:=TT.ta.obj
  obtain ⟨zs,q,w1,w2,w3⟩:=TT.wr.get (k:=t) (r:=wA b wt sc t) (by rw [List.getElem?_map,List.getElem?_range ht]; rfl)
  refine ⟨_,(zp (wK (yE Vn (pv 1) (xQ K (xQ K (pv 0))) (yw _))
    (zA (zQ zm))
    yM)
   (zA (zQ (zY (yl K) (zY (yl K) (xQ K (pv 0)) (pv 3) (fun _ _=>rfl)) (pv 2) (fun _ _=>rfl))))),?_⟩
  refine ⟨_,rfl,_,rfl,p,CS,dx,_,_,rfl,hp,zH.cl,zH.n_tails,vP _ _ _,tl,C,dt,_,_,rfl,htl,zL.cl,zL.n_outset,vV _ _ _ _,rfl,_,rfl,?_⟩
  refine zaQ (fun h=>?_) (fun h=>?_)
  ·have e : j = ws.length:=by have z:=of_decide_eq_true h; injection z with z; omega
   rw [if_pos e] at kk
   exact kk
  ·have e : ¬ j = ws.length:=fun z=>h (decide_eq_true (by rw [z]))
   rw [if_neg e] at kk
   refine ⟨_,rfl,p,CS,dx,_,_,rfl,hp,zH.cl,zH.n_weights,QS _ _ _,_,rfl,wa,_,_,V.ref q,rfl,rfl,SqL.of (zN _ _ _ _ w1),w2,_,rfl,q,_,_,V.int ((sc ^ t * wt c : Nat) : Int),rfl,rfl,SqL.of (zN _ _ _ _ w3),yx ?_,kk⟩
   unfold wA
   rw [List.getElem?_map,List.getElem?_map,List.getElem?_range hc]
   rfl
def SQ (C CS : Addr) (H : Hp) (p tl la wa l2 : Addr) (b : Nat) (ls ws : List (List Int)) (L : Nat) (wt : Nat->Nat) (sc sz M : Nat) (R : Nat->Hp->Prop) : Prop:=∀ (L' : Nat) (H' : Hp),L≤L'->TotAt C CS H' p tl la wa l2 b ls ws L' wt sc sz M->Same (aw [la] H) (aw [la] H')->R L' H'
def um (C CS : Addr) : Sp:=fun vs H Q _=>∃ (p tl la wa l2 : Addr) (b : Nat) (ls ws : List (List Int)) (L : Nat) (wt : Nat->Nat) (sc sz M i s t ah : Nat),vs = [.ref p,.int i,.int s,.int t,.int ah]∧TotAt C CS H p tl la wa l2 b ls ws L wt sc sz M∧GoodT b ls ws∧L≤1000∧t < 900∧t < sz∧t < M∧i≤ws.length∧s≤b∧sc≤16∧(∀ c,c < b->wt c < 2 ^ 64)∧ah < 2 ^ 5000 ∧
 SQ C CS H p tl la wa l2 b ls ws L wt sc sz M fun L' H'=>L'≤max L (t + 1)->Q (.int ((ah * under ls b t ws[i]? s + qj ls b wt sc t ws[i]? s : Nat) : Int)) H'
theorem yd : zK ["self","place","stop","left","ahead","counts","totals","total","figure","behind","weight"] ["self","place","stop","left","ahead"] (zx yH):=⟨rfl,rfl,rfl,by decide +kernel,rfl,by decide +kernel,by decide +kernel⟩
set_option maxHeartbeats 0 in
theorem V4 {f f1 f2 : Addr} {fd fd1 fd2 : FuncData} (D : Mt K CS "Totals.total_under" "total_under" yH ["self","place","stop","left","ahead"] f fd) (xr : Mt K C "Tails.layer" "layer" wC ["self","left"] f1 fd1) (uw : FnOk P w K mg base CX0 2 f1 fd1 ["self","left"] (XM C)) (yr : Mt K CS "Totals.weight_of" "weight_of" yX ["self","behind","figure","left"] f2 fd2) (yL : FnOk P w K mg base CX0 1 f2 fd2 ["self","behind","figure","left"] (qG C CS)) (zL : ClT K mg C) (zH : ClS K mg CS) (T : Blt mg) : FnOk P w K mg base CX0 3 f fd ["self","place","stop","left","ahead"] (um C CS):=by
 refine D.fn.ok yd (fun vs H Q E h=>?_) (fun cdv A outer s H vs Q E hr h=>?_)
 ·obtain ⟨p,tl,la,wa,l2,b,ls,ws,L,wt,sc,sz,M,i,s,t,ah,rfl,_⟩:=h; rfl
 ·obtain ⟨p,tl,la,wa,l2,b,ls,ws,L,wt,sc,sz,M,i,s,t,ah,rfl,TT,G,hL,ht,hts,htM,hi,hs,hsc,hwt,hah,kk⟩:=h
  have b2:=G.g.b2
  have b16:=G.g.b16
  obtain ⟨dx,hp⟩:=TT.obj
  obtain ⟨dt,sa0,htl⟩:=TT.ta.obj
  refine ⟨_,(zp (zJ (i:=5) yd.nd rfl (Or.inl rfl) (Yb xr zL.cl uw (hr.mono (by decide)) (xQ K (pv 0)) (zf (pv 3) zg)))
   (zp (zJ (i:=6) yd.nd rfl (Or.inl rfl) (zY (yl K) (xQ K (pv 0)) (pv 3) (fun _ _=>rfl)))
   (zp (zJ (i:=7) yd.nd rfl (Or.inl rfl) zm)
   (zp (vM PassesOwn.never rfl (zbf K rfl T.n_enumerate (zf (yG (tV K) (zY (yl K) (xQ K (xQ K (pv 0))) (pv 1) (fun _ _=>rfl)) xO (xf (pv 2))) zg)) (zaN rfl (Zh (yK (i:=8) yd.nd rfl (Or.inl rfl)) (Zh (yK (i:=9) yd.nd rfl (Or.inl rfl)) Qw)))
    (zA (wK (yE Jl (pv 9) vp (yw _))
     (zp (zJ (i:=10) yd.nd rfl (Or.inl rfl) (zE yO (pv 4) (Yb yr zH.cl yL (hr.mono (by decide)) (pv 0) (zf (pv 9) (zf (pv 8) (zf (pv 3) zg))))))
     (zA (za7 (i:=7) yd.nd rfl (Or.inl rfl) (zE yO (zE zd4 (pv 10) (zY (yl K) (pv 5) (pv 9) (fun _ _=>rfl))) (zY (yl K) (pv 6) (pv 9) (fun _ _=>rfl))) zba)))
     yM)))
   (zA (zQ (pv 7))))))),?_⟩
  refine ⟨_,rfl,p,CS,dx,_,_,rfl,hp,zH.cl,zH.n_tails,vP _ _ _,tl,dt,_,rfl,htl,Vc _ _ _ _,_,rfl,tl,la,b,ls,ws,L,t,rfl,TT.ta,G,hL,by omega,fun lay L1 H1 hL1 TA1 m1 hmx hlay=>?_⟩
  have TT1:=TT.more TA1 m1
  obtain ⟨dx1,hp1⟩:=TT1.obj
  obtain ⟨zs,tq,g1,g2,g3⟩:=TT1.lay htM
  refine ⟨_,rfl,p,CS,dx1,_,_,rfl,hp1,zH.cl,zH.n_layers,Wy _ _ _,_,rfl,l2,_,_,V.ref tq,rfl,rfl,SqL.of g1,g2,?_⟩
  obtain ⟨dt1,sa,srs,h1,h2,h3,h4⟩:=TA1.ob
  have hrow:=ZD (ls:=ls) (b:=b) (by omega) hi
  rw [← h4,List.getElem?_map] at hrow
  obtain ⟨z,hz,ez⟩:=Option.map_eq_some_iff.mp hrow
  have hz3:=zN _ _ _ _ (h3 z (List.mem_of_getElem? hz))
  refine ⟨_,rfl,p,CS,dx1,_,_,rfl,hp1,zH.cl,zH.n_tails,vP _ _ _,tl,C,dt1,_,_,rfl,zN _ _ _ _ h1,zL.cl,zL.n_steps,uO _ _ _ _,_,rfl,sa,_,_,V.ref z.1,rfl,rfl,SqL.of (zN _ _ _ _ h2),yx (by rw [List.getElem?_map,hz]; rfl),?_⟩
  refine ⟨_,rfl,_,rfl,z.1,_,rfl,SqL.of hz3,fun q hq=>?_⟩
  have ecut : qw z.2 none (some (s : Int)) = (List.range s).map (stepV ls ws ws[i]?):=by
   rw [j9,ez,← List.map_take,List.take_range,Nat.min_eq_left hs]
  rw [ecut]
  have m2:=zq hq (o:=.lst ((List.range s).map (stepV ls ws ws[i]?)))
  have TT2:=TT1.same m2
  have hq2 : upd H1 q (.lst ((List.range s).map (stepV ls ws ws[i]?))) q = some (.lst ((List.range s).map (stepV ls ws ws[i]?))):=zj
  have hlay2:=m2 _ _ (zN _ _ _ _ hlay)
  have htq2:=m2 _ _ (zN _ _ _ _ g3)
  generalize upd H1 q (.lst ((List.range s).map (stepV ls ws ws[i]?))) = H2 at m2 TT2 hq2 hlay2 htq2
  refine ⟨q,rfl,⟨_,SqL.of hq2⟩,J3 (K:=K) (a:=q) (xs:=(List.range s).map (stepV ls ws ws[i]?)) (fun k σ H3=>∃ (v8 v9 v10 : Option V),σ = [some (.ref p),some (.int i),some (.int s),some (.int t),some (.int ah),some (.ref lay),some (.ref tq),some (.int ((ah * under ls b t ws[i]? k + qj ls b wt sc t ws[i]? k : Nat) : Int)),v8,v9,v10]∧Same H2 H3)
   ⟨none,none,none,rfl,Same.refl _⟩ (fun k σ H3 _ ⟨_,_,_,_,m⟩=>SqL.of (m _ _ hq2)) ?_ ?_⟩
  ·rintro k x σ H3 T1 hx ⟨v8,v9,v10,rfl,m3⟩ hT1
   rw [List.getElem?_map] at hx
   obtain ⟨c,hc,e⟩:=Option.map_eq_some_iff.mp hx
   have hk : k < s:=by have:=(List.getElem?_eq_some_iff.mp hc).1; rwa [List.length_range] at this
   have ec : c = k:=by rw [List.getElem?_range hk] at hc; exact (Option.some.inj hc).symm
   subst ec
   subst e
   refine ⟨T1,_,rfl,SqT.of zj,rfl,_,_,rfl,_,_,rfl,rfl,?_⟩
   have m4:=m3.trans (zq hT1 (o:=.tup [.int (c : Nat),stepV ls ws ws[i]? c]))
   generalize upd H3 T1 (.tup [.int (c : Nat),stepV ls ws ws[i]? c]) = H4 at m4
   have hus:=Y7 ls b t ws[i]? c
   have hut:=WR ls b wt sc t ws[i]? c
   rcases zar (t:=t) (w:=wt) (sc:=sc) G (c:=c) hi with ⟨e1,e2,e3⟩ | ⟨j,xx,y,zz,e1,e2,e3,e4,e5,e6,e7⟩
   ·rw [e1]
    refine ⟨_,rfl,rfl,_,rfl,wO ⟨some (.int (c : Nat)),some .non,v10,?_,m4⟩⟩
    rw [hus,hut,e2,e3]
    rfl
   ·rw [e1]
    refine ⟨_,rfl,rfl,_,rfl,wR ?_⟩
    have TT4:=TT2.same m4
    obtain ⟨dx4,hp4⟩:=TT4.obj
    refine ⟨_,rfl,_,rfl,p,dx4,_,rfl,hp4,Yw _ _ _,_,rfl,_,rfl,_,rfl,p,tl,la,wa,l2,b,ls,ws,L1,wt,sc,sz,M,j,c,t,rfl,TT4,by omega,hts,?_⟩
    rw [← e5]
    have hzz : zz < 2 ^ 5000:=by
     rw [e5]
     split
     ·exact Nat.pow_pos (by decide)
     ·have a1:=zem (b:=sc) hsc (show t≤1000 by omega)
      have a2:=hwt c (by omega)
      exact Nat.lt_of_lt_of_le (Nat.mul_lt_mul'' a1 a2) (by rw [← Nat.pow_add]; exact Nat.pow_le_pow_right (Nat.le_succ 1) (by decide))
    have hxx : xx < 2 ^ 4001:=by
     have:=zdv G.ne b2 t ws[i]? c
     rw [e7] at this
     exact Nat.lt_of_le_of_lt this (zem b16 (by omega))
    have haz : ah + zz < 2 ^ 5001:=by rw [Nat.pow_succ]; omega
    refine ⟨_,_,rfl,rfl,?_⟩
    refine ⟨_,rfl,_,rfl,_,rfl,_,rfl,lay,_,_,V.int ((xx : Nat) : Int),rfl,rfl,SqL.of (m4 _ _ hlay2),yx (by rw [List.getElem?_map,e3]; rfl),_,_,rfl,rfl,(CMulB.nat (i:=ah + zz) (j:=xx) haz hxx (by decide) (by decide) : CMulB ((ah + zz : Nat) : Int) (xx : Int)),?_⟩
    refine ⟨_,rfl,_,rfl,tq,_,_,V.int ((y : Nat) : Int),rfl,rfl,SqL.of (m4 _ _ htq2),yx (by rw [List.getElem?_map,e4]; rfl),_,_,rfl,rfl,_,_,rfl,rfl,some (.int (c : Nat)),some (.int (j : Nat)),some (.int ((ah + zz : Nat) : Int)),?_,m4⟩
    have ev : ((ah * under ls b t ws[i]? (c + 1) + qj ls b wt sc t ws[i]? (c + 1) : Nat) : Int) = ((ah * under ls b t ws[i]? c + qj ls b wt sc t ws[i]? c : Nat) : Int) + (((ah + zz : Nat) : Int) * (xx : Int) + (y : Int)):=by
     rw [hus,hut,e6,e7,← Int.natCast_mul,← Int.natCast_add,← Int.natCast_add]
     congr 1
     rw [Nat.mul_add,Nat.add_mul]
     omega
    rw [ev]
    rfl
  ·rintro σ H3 ⟨v8,v9,v10,rfl,m3⟩
   rw [List.length_map,List.length_range]
   exact ⟨_,rfl,kk L1 H3 hL1 (TT2.same m3) (m1.trans ((m2.trans m3).aw [la])) hmx⟩
end
theorem Jw {ls ws : List (List Int)} {b : Nat} (G : GoodT b ls ws) {r : List V} (hr : r ∈ ZV ls ws b) {a : Addr} : V.ref a ∉ r:=by
 obtain ⟨i,hi,e⟩:=List.mem_iff_getElem.mp hr
 have hlen : (ZV ls ws b).length = ws.length + 1:=by unfold ZV; rw [List.length_append,List.length_map,List.length_singleton]
 have hi' : i≤ws.length:=by omega
 have h:=ZD (ls:=ls) (b:=b) (by have:=G.g.b2; omega) hi'
 rw [List.getElem?_eq_getElem hi,e] at h
 have h':=Option.some.inj h
 intro hm
 rw [h'] at hm
 obtain ⟨c,_,hc⟩:=List.mem_map.mp hm
 rcases WK (b:=b) (t:=0) G (c:=c) hi' with ⟨e1,_⟩ | ⟨j,e1,_⟩
 ·rw [e1] at hc; cases hc
 ·rw [e1] at hc; cases hc
theorem TailsAt.updL {C tl la b l2 : Nat} {H : Hp} {ls ws : List (List Int)} {L : Nat} {o : HO} {r0 : Addr} {rest : List V} (TA : TailsAt C H tl la b ls ws L) (G : GoodT b ls ws) (h : H l2 = some (.lst (V.ref r0 :: rest))) (hne : la ≠ l2) (hsa : ∃ dx sa,H tl = some (.ins C dx (YM b ws.length sa la))∧sa ≠ l2) : TailsAt C (upd H l2 o) tl la b ls ws L:=by
 obtain ⟨dx,sa,srs,h1,h2,h3,h4⟩:=TA.ob
 obtain ⟨lrs,g1,g2,g3⟩:=TA.ly
 obtain ⟨dx',sa',k1,k2⟩:=hsa
 have esa : sa' = sa:=by
  have:=zN _ _ _ _ h1
  rw [k1] at this
  injection this with this
  injection this with _ _ this
  have e:=uO b ws.length sa la
  rw [← this,uO] at e
  injection e with e
  injection e
 have go : ∀ c u,c ≠ l2->aw [la] H c = some u->aw [la] (upd H l2 o) c = some u:=fun c u hc e=>by
  have hcl : c ∉ [la]:=fun hz=>by rw [jG hz] at e; cases e
  rw [zX hcl] at e ⊢
  rw [zy hc]; exact e
 refine ⟨⟨dx,sa,srs,go _ _ (fun z=>?_) h1,go _ _ (fun z=>k2 (by rw [esa,z])) h2,fun z hz=>go _ _ (fun y=>?_) (h3 z hz),h4⟩,⟨lrs,by rw [zy hne]; exact g1,fun z hz=>go _ _ (fun y=>?_) (g2 z hz),g3⟩,TA.l1⟩
 ·have:=zN _ _ _ _ h1
  rw [z,h] at this; cases this
 ·have e:=zN _ _ _ _ (h3 z hz)
  rw [y,h] at e
  injection e with e
  injection e with e
  have hm : z.2 ∈ ZV ls ws b:=by rw [← h4]; exact List.mem_map.mpr ⟨z,hz,rfl⟩
  exact Jw G hm (a:=r0) (by rw [← e]; exact List.mem_cons_self)
 ·have e:=zN _ _ _ _ (g2 z hz)
  rw [y,h] at e
  injection e with e
  injection e with e
  cases hz2 : z.2 with
  | nil=>rw [hz2] at e; cases e
  | cons a l=>rw [hz2,List.map_cons] at e; injection e with e _; cases e
theorem TailsAt.updI {C tl la b p CS dxp : Nat} {H : Hp} {ls ws : List (List Int)} {L : Nat} {o : HO} {fs : List (Str × V)} (TA : TailsAt C H tl la b ls ws L) (h : H p = some (.ins CS dxp fs)) (hne : tl ≠ p) : TailsAt C (upd H p o) tl la b ls ws L:=by
 obtain ⟨dx,sa,srs,h1,h2,h3,h4⟩:=TA.ob
 obtain ⟨lrs,g1,g2,g3⟩:=TA.ly
 have nl : ∀ {c : Addr} {xs : List V},H c = some (.lst xs)->c ≠ p:=fun e z=>by rw [z,h] at e; cases e
 have go : ∀ c u,c ≠ p->aw [la] H c = some u->aw [la] (upd H p o) c = some u:=fun c u hc e=>by
  have hcl : c ∉ [la]:=fun hz=>by rw [jG hz] at e; cases e
  rw [zX hcl] at e ⊢
  rw [zy hc]; exact e
 exact ⟨⟨dx,sa,srs,go _ _ hne h1,go _ _ (nl (zN _ _ _ _ h2)) h2,fun z hz=>go _ _ (nl (zN _ _ _ _ (h3 z hz))) (h3 z hz),h4⟩,⟨lrs,by rw [zy (nl g1)]; exact g1,fun z hz=>go _ _ (nl (zN _ _ _ _ (g2 z hz))) (g2 z hz),g3⟩,TA.l1⟩
theorem RowsAt.updI {H : Hp} {a p CS dxp : Addr} {rs : List (List Int)} {o : HO} {fs : List (Str × V)} (R : RowsAt H a rs) (h : H p = some (.ins CS dxp fs)) : RowsAt (upd H p o) a rs:=by
 obtain ⟨zs,h1,h2,h3⟩:=R.ex
 have nl : ∀ {c : Addr} {xs : List V},H c = some (.lst xs)->c ≠ p:=fun e z=>by rw [z,h] at e; cases e
 exact ⟨⟨zs,by rw [zy (nl h1)]; exact h1,fun z hz=>by rw [zy (nl (h2 z hz))]; exact h2 z hz,h3⟩⟩
theorem LT.putI {T p CS dx : Addr} {H : Hp} {o : HO} {fs : List (Str × V)} (h : LT T H) (e : H p = some (.ins CS dx fs)) : LT T (upd H p o):=by
 have nT : p ≠ T:=fun z=>by
  rw [z] at e
  rcases h with h | ⟨c,h,_⟩
  ·rw [h] at e; cases e
  ·rw [h] at e; cases e
 rcases h with h | ⟨c,h1,h2⟩
 ·exact .inl (by rw [zy (Ne.symm nT)]; exact h)
 ·exact .inr ⟨c,by rw [zy (Ne.symm nT)]; exact h1,by rw [zy (fun z=>by rw [z,e] at h2; cases h2)]; exact h2⟩
section
variable {C CS : Addr} {H H' : Hp} {p tl la wa l2 : Addr} {b : Nat} {ls ws : List (List Int)} {L L' : Nat} {wt : Nat->Nat} {sc sz M : Nat}
theorem TotAt.push (A : TotAt C CS H p tl la wa l2 b ls ws L wt sc sz M) (G : GoodT b ls ws) (hM : 1≤M) {q : Addr} {xs : List V} (hx : H l2 = some (.lst xs)) (hq : aw [la,l2] H q = some (.lst ((Zb ls ws b wt sc M).map V.int))) : TotAt C CS (upd H l2 (.lst (xs ++ [.ref q]))) p tl la wa l2 b ls ws L wt sc sz (M + 1):=by
 obtain ⟨dx,h1⟩:=A.ob
 obtain ⟨dx2,sa,h2,h3⟩:=A.sa
 obtain ⟨zs,g1,g2,g3⟩:=A.ly
 have ex : xs = zs.map fun z=>V.ref z.1:=by
  rw [hx] at g1
  injection g1 with g1
  injection g1
 have hzl : zs.length = M:=by have:=congrArg List.length g3; rwa [List.length_map,List.length_map,List.length_range] at this
 have e0:=ZX (fp:=[la,l2]) (H:=H) (b:=l2) (o:=.lst (xs ++ [.ref q])) (by simp)
 obtain ⟨z0,zr,ez⟩ : ∃ z0 zr,zs = z0 :: zr:=by
  cases zs with
  | nil=>simp at hzl; omega
  | cons a l=>exact ⟨a,l,rfl⟩
 refine ⟨⟨dx,by rw [e0]; exact h1⟩,A.ta.updL G (r0:=z0.1) (rest:=zr.map fun z=>V.ref z.1) (by rw [hx,ex,ez]; rfl) A.ne ⟨dx2,sa,zN _ _ _ _ h2,h3⟩,⟨dx2,sa,by rw [e0]; exact h2,h3⟩,by rw [e0]; exact A.wr,⟨zs ++ [(q,Zb ls ws b wt sc M)],by rw [zj,ex]; simp,fun z hz=>?_,?_⟩,A.ne⟩
 ·rw [e0]
  rcases List.mem_append.mp hz with hz | hz
  ·exact g2 z hz
  ·have e : z = (q,Zb ls ws b wt sc M):=by simpa using hz
   subst e; exact hq
 ·rw [List.map_append,g3,List.range_succ,List.map_append]
  rfl
end
section
variable {P : Program} {w : World} {K : PySem.W.Frag} {mg : Str->Option Value} {base : Heap} {T0 C CS : Addr}
def qu (C CS : Addr) : Sp:=fun vs H Q _=>∃ (p tl la wa l2 : Addr) (b : Nat) (ls ws : List (List Int)) (L : Nat) (wt : Nat->Nat) (sc sz M t : Nat),vs = [.ref p,.int t]∧TotAt C CS H p tl la wa l2 b ls ws L wt sc sz M∧GoodT b ls ws∧L≤900∧t < 900∧t < sz∧t < M∧sc≤16∧(∀ c,c < b->wt c < 2 ^ 64) ∧
 ∀ q,SQ C CS H p tl la wa l2 b ls ws L wt sc sz M fun L' H'=>L'≤max L (t + 1)->aw [la,l2] H' q = some (.lst ((Zb ls ws b wt sc (t + 1)).map V.int))->Q (.ref q) H'
theorem Z2 : zK ["self","left"] ["self","left"] (zx yz):=⟨rfl,rfl,rfl,by decide +kernel,rfl,by decide +kernel,by decide +kernel⟩
set_option maxHeartbeats 0 in
theorem W0 {f f1 : Addr} {fd fd1 : FuncData} (D : Mt K CS "Totals.longer_layer" "longer_layer" yz ["self","left"] f fd) (yh : Mt K CS "Totals.total_under" "total_under" yH ["self","place","stop","left","ahead"] f1 fd1) (yt : FnOk P w K mg base CX0 3 f1 fd1 ["self","place","stop","left","ahead"] (um C CS)) (zL : ClT K mg C) (zH : ClS K mg CS) (T : Blt mg) : FnOk P w K mg base CX0 4 f fd ["self","left"] (qu C CS):=by
 refine D.fn.ok Z2 (fun vs H Q E h=>?_) (fun cdv A outer s H vs Q E hr h=>?_)
 ·obtain ⟨p,tl,la,wa,l2,b,ls,ws,L,wt,sc,sz,M,t,rfl,_⟩:=h; rfl
 ·obtain ⟨p,tl,la,wa,l2,b,ls,ws,L,wt,sc,sz,M,t,rfl,TT,G,hL,ht,hts,htM,hsc,hwt,kk⟩:=h
  have h13:=G.h13
  obtain ⟨dx,hp⟩:=TT.obj
  obtain ⟨dt,sa0,htl⟩:=TT.ta.obj
  refine ⟨_,(zA (zQ (vd (show CScope (zx yz) _ "place" ["self","left"] ["left","self"] [1,0] from ⟨rfl,by decide +kernel,by decide +kernel,rfl,by decide +kernel,rfl,by decide +kernel,by decide +kernel⟩) rfl (yg rfl T.n_range (zf (zE yO (xQ K (xQ K (pv 0))) zm) zg)) (fun _ _ _ _=>xM) (fun _ _ _ _=>(Yb yh zH.cl yt (hr.mono (by decide)) (pv 2) (zf (pv 0) (zf (xQ K (xQ K (pv 2))) (zf (pv 1) (zf zm zg))))))))),?_⟩
  refine ⟨_,rfl,p,CS,dx,_,_,rfl,hp,zH.cl,zH.n_tails,vP _ _ _,tl,C,dt,_,_,rfl,htl,zL.cl,zL.n_outset,vV _ _ _ _,_,_,rfl,rfl,((ws.length : Int) + 1),rfl,by omega,by omega,wL (lo:=0) (n:=((ws.length : Int) + 1).toNat) (fun i ys H4=>∃ L',ys = (((List.range i).map fun i=>((qj ls b wt sc t ws[i]? b : Nat) : Int))).map V.int∧L≤L'∧L'≤max L (t + 1)∧TotAt C CS H4 p tl la wa l2 b ls ws L' wt sc sz M∧Same (aw [la] H) (aw [la] H4)) ⟨L,rfl,Nat.le_refl _,Nat.le_max_left _ _,TT,Same.refl _⟩ ?_ ?_⟩
  ·rintro i ys H4 hi ⟨L',rfl,hLL,hLm,TT4,m4⟩
   refine ⟨by rw [List.length_map,List.length_map,List.length_range]; exact Nat.lt_of_lt_of_le (show i < 20 by omega) (by decide),?_⟩
   unfold Ye
   dsimp only
   rw [if_pos rfl]
   obtain ⟨dx4,hp4⟩:=TT4.obj
   obtain ⟨dt4,sa4,htl4⟩:=TT4.ta.obj
   refine ⟨_,rfl,p,dx4,_,rfl,hp4,Yw _ _ _,_,rfl,_,rfl,p,CS,dx4,_,_,rfl,hp4,zH.cl,zH.n_tails,vP _ _ _,tl,C,dt4,_,_,rfl,htl4,zL.cl,zL.n_base,Qe _ _ _ _,_,rfl,p,tl,la,wa,l2,b,ls,ws,L',wt,sc,sz,M,i,b,t,0,by rw [Int.zero_add]; rfl,TT4,G,by omega,ht,hts,htM,by omega,Nat.le_refl _,hsc,hwt,Nat.pow_pos (by decide),fun L5 H5 hL5 TT5 m5 hm5=>⟨L5,?_,by omega,by omega,TT5,m4.trans m5⟩⟩
   rw [List.range_succ,List.map_append,List.map_append,Nat.zero_mul,Nat.zero_add]
   rfl
  ·rintro ys H4 ⟨L',rfl,hLL,hLm,TT4,m4⟩ q hq
   rw [show ((ws.length : Int) + 1).toNat = ws.length + 1 by omega,zcm]
   have m5:=zq hq (o:=.lst ((Zb ls ws b wt sc (t + 1)).map V.int))
   obtain ⟨xs,hla⟩:=TT4.ta.la
   obtain ⟨zs,hl2,_⟩:=TT4.ly
   exact kk q L' _ hLL (TT4.same m5) (m4.trans (m5.aw [la])) hLm (by rw [zX (by simp [Ne.symm (zB hla hq),Ne.symm (zB hl2 hq)]),zj])
end
theorem LT.putL2 {T p : Addr} {H : Hp} {o : HO} {xs : List V} (h : LT T H) (e : H p = some (.lst xs)) : LT T (upd H p o) :=
 h.off e (by rw [ZX (by simp)]; exact Same.refl _)
theorem Xk {α : Type} {f : α->V} (h : ∀ a,f a = V.int 0) : ∀ l : List α,(List.replicate l.length [V.int 0]).flatten = l.map f
 | []=>rfl
 | a :: l=>by rw [List.length_cons,List.replicate_succ,List.flatten_cons,Xk h l,List.map_cons,h a]; rfl
theorem zch {ls ws : List (List Int)} {b sc : Nat} {wt : Nat->Nat} : (Zb ls ws b wt sc 0).map V.int = (List.replicate ws.length [V.int 0]).flatten ++ [V.int ((wt 0 : Nat) * (qt ls b 0 : Nat) : Int)]:=by
 unfold Zb
 rw [List.map_append,List.map_map,Xk (f:=V.int ∘ fun x=>((tt ls b wt sc 0 x : Nat) : Int)) (fun _=>rfl) ws]
 congr 1
section
variable {P : Program} {w : World} {K : PySem.W.Frag} {mg : Str->Option Value} {base : Heap} {T0 C CS : Addr}
def qP (T0 C CS : Addr) : Sp:=fun vs H Q _=>∃ (p dx r : Addr) (b : Nat) (bl : Addr) (zs : List (Addr × List Int)) (wl : Addr) (wt : Nat->Nat) (sc sz : Nat),vs = [.ref p,.ref r,.ref wl,.int sc,.int sz]∧H p = some (.ins CS dx [])∧RuleAt H r b bl zs∧yC b (zs.map (·.2))∧LT T0 H∧H wl = some (.lst ((wA b wt sc 0).map V.int))∧sc≤16∧sz≤800∧(∀ c,c < b->wt c < 2 ^ 64) ∧
 ∀ (tl la wa l2 : Addr) (ws : List (List Int)) (L : Nat) (H' : Hp),TotAt C CS H' p tl la wa l2 b (zs.map (·.2)) ws L wt sc sz (sz + 1)->GoodT b (zs.map (·.2)) ws->L≤801->(∀ c o,c ≠ p->c ≠ T0->H c = some o->H' c = some o)->LT T0 H'->H la = none->H l2 = none->Q .non H'
theorem jn : zK ["self","rule","weights","scale","size","left"] ["self","rule","weights","scale","size"] (zx uB):=⟨rfl,rfl,rfl,by decide +kernel,rfl,by decide +kernel,by decide +kernel⟩
set_option maxHeartbeats 0 in
theorem zco {f f1 f2 f3 f4 : Addr} {fd fd1 fd2 fd3 fd4 : FuncData} (D : Mt K CS "Totals.__init__" "__init__" uB ["self","rule","weights","scale","size"] f fd) (za5 : Mk K C f1) (za4 : Binds K fd1 ["self","rule"] []) (Yn : FnOk P w K mg base CX0 7 f1 fd1 ["self","rule"] (X4 T0 C)) (vg : Df K mg "weights_by_left" xn ["weights","scale","size"] f2 fd2) (uU : FnOk P w K mg base CX0 1 f2 fd2 ["weights","scale","size"] vO)
  (xY : Mt K C "Tails.many_within" "many_within" xK ["self","size"] f3 fd3) (vQ : FnOk P w K mg base CX0 3 f3 fd3 ["self","size"] (qX C)) (xF : Mt K CS "Totals.longer_layer" "longer_layer" yz ["self","left"] f4 fd4) (wU : FnOk P w K mg base CX0 4 f4 fd4 ["self","left"] (qu C CS)) (zL : ClT K mg C) (zH : ClS K mg CS) (T : Blt mg) : FnOk P w K mg base CX0 9 f fd ["self","rule","weights","scale","size"] (qP T0 C CS):=by
 refine D.fn.ok jn (fun vs H Q E h=>?_) (fun cdv A outer s H vs Q E hr h=>?_)
 ·obtain ⟨p,dx,r,b,bl,zs,wl,wt,sc,sz,rfl,_⟩:=h; rfl
 ·obtain ⟨p,dx,r,b,bl,zs,wl,wt,sc,sz,rfl,hp,R,g,hT,hwl,hsc,hsz,hwt,kk⟩:=h
  have b2:=g.b2
  have b16:=g.b16
  have npT : p ≠ T0:=fun z=>by
   rw [z] at hp
   rcases hT with h | ⟨c,h,_⟩
   ·rw [h] at hp; cases hp
   ·rw [h] at hp; cases hp
  have wlp : wl ≠ p:=jz hwl hp (fun z=>nomatch z)
  refine ⟨_,(zp (Xc (pv 0) (Vd za5 Yn (hr.mono (by decide)) rfl zL.nm za4 .nil Qp (zf (pv 1) zg)) rfl)
   (zp (Xc (pv 0) (yc vg uU (hr.mono (by decide)) (zf (pv 2) (zf (pv 3) (zf (pv 4) zg)))) rfl)
   (zp (Xc (pv 0) (zO (zf (zE yD (zE QD (zO (zf zm zg)) (xQ K (xQ K (pv 0)))) (zO (zf (zE qg (zY (yl K) (pv 2) zm (fun _ _=>rfl)) (Yb xY zL.cl vQ (hr.mono (by decide)) (xQ K (pv 0)) (zf zm zg))) zg))) zg)) rfl)
   (zA (vM PassesOwn.never rfl (yg rfl T.n_range (zf (pv 4) zg)) (yK (i:=5) jn.nd rfl (Or.inl rfl))
    (zA (yQ (Z6 PySem.F.plainAttrs_list PySem.F.slot_list_append PySem.F.type_list_append xR (xQ K (pv 0)) (zf (Yb xF zH.cl wU (hr.mono (by decide)) (pv 0) (zf (pv 5) zg)) zg))))))))),?_⟩
  refine ⟨_,rfl,?_⟩
  refine zdZ R g hT ?_
  rintro tl H1 ⟨la,ws,TA1,G,m1,hT1,hla⟩
  have h13:=G.h13
  have hp1:=m1 _ _ npT hp
  have hwl1:=m1 _ _ (hT.lst hwl) hwl
  have tlp : tl ≠ p:=fun z=>by
   obtain ⟨dt,sa,e⟩:=TA1.obj
   rw [z,hp1] at e
   injection e with e
   injection e with _ _ e
   have:=uO b ws.length sa la
   rw [← e] at this
   cases this
  refine ⟨_,rfl,p,CS,dx,_,rfl,hp1,zH.cl,zH.n_tails,(by show 0 < 1000; decide),?_⟩
  have TA2:=TA1.updI (o:=.ins CS dx (yf "tails" (.ref tl) [])) hp1 tlp
  have hT2:=hT1.putI (o:=.ins CS dx (yf "tails" (.ref tl) [])) hp1
  have hp2 : upd H1 p (.ins CS dx (yf "tails" (.ref tl) [])) p = some (.ins CS dx (yf "tails" (.ref tl) [])):=zj
  have hwl2 : upd H1 p (.ins CS dx (yf "tails" (.ref tl) [])) wl = some (.lst ((wA b wt sc 0).map V.int)):=by rw [zy wlp]; exact hwl1
  have n2 : ∀ c o,c ≠ p->c ≠ T0->H c = some o->upd H1 p (.ins CS dx (yf "tails" (.ref tl) [])) c = some o:=fun c o h1 h2 e=>by rw [zy h1]; exact m1 c o h2 e
  generalize upd H1 p (.ins CS dx (yf "tails" (.ref tl) [])) = H2 at TA2 hT2 hp2 hwl2 n2
  refine ⟨_,rfl,_,rfl,_,rfl,wl,b,wt,sc,sz,rfl,hwl2,b16,hsc,by omega,fun wa H3 hwa RW3 m3=>?_⟩
  have hp3:=m3 _ _ hp2
  refine ⟨_,rfl,p,CS,dx,_,rfl,hp3,zH.cl,zH.n_weights,(by show 1 < 1000; decide),?_⟩
  have TA3:=TA2.same m3
  have TA4:=TA3.updI (o:=.ins CS dx (yf "weights" (.ref wa) (yf "tails" (.ref tl) []))) hp3 tlp
  have hT4:=(hT2.same m3).putI (o:=.ins CS dx (yf "weights" (.ref wa) (yf "tails" (.ref tl) []))) hp3
  have RW4:=RW3.updI (o:=.ins CS dx (yf "weights" (.ref wa) (yf "tails" (.ref tl) []))) hp3
  have hp4 : upd H3 p (.ins CS dx (yf "weights" (.ref wa) (yf "tails" (.ref tl) []))) p = some (.ins CS dx (yf "weights" (.ref wa) (yf "tails" (.ref tl) []))):=zj
  have hwl4 : upd H3 p (.ins CS dx (yf "weights" (.ref wa) (yf "tails" (.ref tl) []))) wl = some (.lst ((wA b wt sc 0).map V.int)):=by rw [zy wlp]; exact m3 _ _ hwl2
  have n4 : ∀ c o,c ≠ p->c ≠ T0->H c = some o->upd H3 p (.ins CS dx (yf "weights" (.ref wa) (yf "tails" (.ref tl) []))) c = some o:=fun c o h1 h2 e=>by rw [zy h1]; exact m3 _ _ (n2 c o h1 h2 e)
  generalize upd H3 p (.ins CS dx (yf "weights" (.ref wa) (yf "tails" (.ref tl) []))) = H4 at TA4 hT4 RW4 hp4 hwl4 n4
  have lkt : (yf "weights" (.ref wa) (yf "tails" (.ref tl) [])).lookup ("tails" : Str) = some (V.ref tl):=by rw [zM,if_neg (by decide +kernel),zM,if_pos rfl]
  refine ⟨(by show 1≤sizeLine; decide),fun q1 k1=>?_⟩
  have s1:=zq k1 (o:=.lst [V.int 0])
  obtain ⟨dt,sa,htl⟩:=(TA4.same s1).obj
  refine ⟨_,rfl,p,CS,dx,_,_,rfl,s1 _ _ hp4,zH.cl,zH.n_tails,lkt,tl,C,dt,_,_,rfl,htl,zL.cl,zL.n_outset,vV _ _ _ _,?_⟩
  refine ⟨q1,_,_,rfl,rfl,zj,by omega,by omega,?_,fun q2 k2=>?_⟩
  ·show 1 * (ws.length : Int).toNat≤sizeLine
   exact Nat.le_trans (show 1 * (ws.length : Int).toNat≤13 by omega) (by decide)
  have q2la : q2 ≠ la:=fun z=>by
   obtain ⟨lx,hlx⟩:=TA4.la
   have:=s1 _ _ hlx
   rw [← z,k2] at this; cases this
  have s2:=s1.trans (zq k2 (o:=.lst (List.replicate (ws.length : Int).toNat [V.int 0]).flatten))
  have hq2 : upd (upd H4 q1 (.lst [V.int 0])) q2 (.lst (List.replicate (ws.length : Int).toNat [V.int 0]).flatten) q2 = some (.lst (List.replicate (ws.length : Int).toNat [V.int 0]).flatten):=zj
  generalize upd (upd H4 q1 (.lst [V.int 0])) q2 (.lst (List.replicate (ws.length : Int).toNat [V.int 0]).flatten) = H5 at s2 hq2
  have TA5:=TA4.same s2
  obtain ⟨dt5,sa5,htl5⟩:=TA5.obj
  refine ⟨_,rfl,wl,_,_,V.int ((sc ^ 0 * wt 0 : Nat) : Int),rfl,rfl,SqL.of (s2 _ _ hwl4),?_,?_⟩
  ·refine yx (j:=0) ?_
   unfold wA
   rw [List.getElem?_map,List.getElem?_map,List.getElem?_range (by omega)]
   rfl
  refine ⟨_,rfl,p,CS,dx,_,_,rfl,s2 _ _ hp4,zH.cl,zH.n_tails,lkt,tl,dt5,_,rfl,htl5,Vc _ _ _ _,tl,la,b,_,ws,1,0,rfl,TA5,G,by decide,by decide,fun L6 H6 hL6 TA6 m6 hmx=>?_⟩
  have w0:=hwt 0 (by omega)
  have e00 : sc ^ 0 * wt 0 = wt 0:=by rw [Nat.pow_zero,Nat.one_mul]
  refine ⟨_,_,rfl,rfl,.inl ⟨by omega,by omega⟩,?_⟩
  have hT6 : LT T0 H6:=(hT4.same s2).off (la:=la) (xs:=_) (TA5.la.choose_spec) m6
  have off6 : ∀ c o,c ≠ la->H5 c = some o->H6 c = some o:=fun c o hc e=>by
   have hc' : c ∉ [la]:=by simpa using hc
   have:=m6 c o (by rw [zX hc']; exact e)
   rwa [zX hc'] at this
  obtain ⟨lx,hlx⟩:=TA4.la
  have pla : p ≠ la:=jz hp4 hlx (fun z=>nomatch z)
  have hp6:=off6 _ _ pla (s2 _ _ hp4)
  have hq6':=off6 _ _ q2la hq2
  refine ⟨(by show 1≤sizeLine; decide),fun q4 k4=>?_⟩
  have nq : q2 ≠ q4:=zB hq6' k4
  refine ⟨q2,q4,_,_,rfl,rfl,by rw [zy nq]; exact hq6',zj,?_,fun q5 k5=>⟨(by show 1≤sizeLine; decide),fun q6 k6=>?_⟩⟩
  ·rw [Int.toNat_natCast,Xk (f:=fun _=>V.int 0) (fun _=>rfl) ws,List.length_map]
   exact Nat.le_trans (show ws.length + 1≤14 by omega) (by decide)
  have t4:=zq k4 (o:=.lst [V.int (((sc ^ 0 * wt 0 : Nat) : Int) * ((qt (zs.map (·.2)) b 0 : Nat) : Int))])
  have t5:=t4.trans (zq k5 (o:=.lst ((List.replicate (ws.length : Int).toNat [V.int 0]).flatten ++ [V.int (((sc ^ 0 * wt 0 : Nat) : Int) * ((qt (zs.map (·.2)) b 0 : Nat) : Int))])))
  have t6:=t5.trans (zq k6 (o:=.lst [V.ref q5]))
  have f6:=t5.free k6
  refine ⟨_,rfl,p,CS,dx,_,rfl,t6 _ _ hp6,zH.cl,zH.n_layers,(by show 2 < 1000; decide),?_⟩
  have np5 : q5 ≠ q6:=fun z=>by rw [← z,zj] at k6; cases k6
  have hp9:=t6 _ _ hp6
  have hq6:=(zj : upd (upd (upd H6 q4 (.lst [V.int (((sc ^ 0 * wt 0 : Nat) : Int) * ((qt (zs.map (·.2)) b 0 : Nat) : Int))])) q5 (.lst ((List.replicate (ws.length : Int).toNat [V.int 0]).flatten ++ [V.int (((sc ^ 0 * wt 0 : Nat) : Int) * ((qt (zs.map (·.2)) b 0 : Nat) : Int))]))) q6 (.lst [V.ref q5]) q6 = _)
  have hq5 : upd (upd (upd H6 q4 (.lst [V.int (((sc ^ 0 * wt 0 : Nat) : Int) * ((qt (zs.map (·.2)) b 0 : Nat) : Int))])) q5 (.lst ((List.replicate (ws.length : Int).toNat [V.int 0]).flatten ++ [V.int (((sc ^ 0 * wt 0 : Nat) : Int) * ((qt (zs.map (·.2)) b 0 : Nat) : Int))]))) q6 (.lst [V.ref q5]) q5 = some (.lst ((Zb (zs.map (·.2)) ws b wt sc 0).map V.int)):=by
   rw [zy np5,zj,zch,Int.toNat_natCast,Nat.pow_zero,Nat.one_mul]
  have f5 : H6 q5 = none:=t4.free k5
  generalize upd (upd (upd H6 q4 (.lst [V.int (((sc ^ 0 * wt 0 : Nat) : Int) * ((qt (zs.map (·.2)) b 0 : Nat) : Int))])) q5 (.lst ((List.replicate (ws.length : Int).toNat [V.int 0]).flatten ++ [V.int (((sc ^ 0 * wt 0 : Nat) : Int) * ((qt (zs.map (·.2)) b 0 : Nat) : Int))]))) q6 (.lst [V.ref q5]) = H9 at t6 hp9 hq6 hq5
  have q6p : q6 ≠ p:=fun z=>by rw [z,hp6] at f6; cases f6
  have q5p : q5 ≠ p:=fun z=>by rw [z,hp6] at f5; cases f5
  obtain ⟨lx6,hlx6⟩:=TA6.la
  have q6la : q6 ≠ la:=fun z=>by rw [z,hlx6] at f6; cases f6
  have q5la : q5 ≠ la:=fun z=>by rw [z,hlx6] at f5; cases f5
  have TA9:=(TA6.same t6).updI (o:=.ins CS dx (Yq tl wa q6)) hp9 tlp
  have go : ∀ c o,c ≠ p->c ≠ la->H5 c = some o->aw [la,q6] (upd H9 p (.ins CS dx (Yq tl wa q6))) c = some o:=fun c o h1 h2 e=>by
   have e6:=off6 c o h2 e
   have h3 : c ≠ q6:=zB e6 f6
   rw [zX (by simp [h2,h3]),zy h1]
   exact t6 _ _ e6
  have TT : TotAt C CS (upd H9 p (.ins CS dx (Yq tl wa q6))) p tl la wa q6 b (zs.map (·.2)) ws L6 wt sc sz 1:=by
   refine ⟨⟨dx,by rw [zX (by simp [pla,Ne.symm q6p]),zj]⟩,TA9,?_,?_,⟨[(q5,Zb (zs.map (·.2)) ws b wt sc 0)],by rw [zy q6p]; exact hq6,fun z hz=>?_,rfl⟩,Ne.symm q6la⟩
   ·obtain ⟨dz,sz',srs,e1,e2,_⟩:=TA6.ob
    have e1':=zN _ _ _ _ e1
    have e2':=zN _ _ _ _ e2
    have tla : tl ≠ la:=jz e1' hlx6 (fun z=>nomatch z)
    refine ⟨dz,sz',?_,zB e2' f6⟩
    rw [zX (by simp [tla,zB e1' f6]),zy tlp]
    exact t6 _ _ e1'
   ·obtain ⟨rz,r1,r2,r3⟩:=RW4.ex
    have wane : wa ≠ la:=fun z=>by
     obtain ⟨lx2,h2⟩:=TA2.la
     rw [z,h2] at hwa; cases hwa
    have wap : wa ≠ p:=jz r1 hp4 (fun z=>nomatch z)
    refine ⟨⟨rz,go _ _ wap wane (s2 _ _ r1),fun z hz=>go _ _ (jz (r2 z hz) hp4 (fun z=>nomatch z)) (fun e=>?_) (s2 _ _ (r2 z hz)),r3⟩⟩
    obtain ⟨lrs,y1,_,_⟩:=TA4.ly
    have y2:=r2 z hz
    rw [e,y1] at y2
    have hm : z.2 ∈ (List.range sz).map (wA b wt sc):=by rw [← r3]; exact List.mem_map.mpr ⟨z,hz,rfl⟩
    obtain ⟨k,_,ek⟩:=List.mem_map.mp hm
    have hl : z.2.length = b:=by rw [← ek]; unfold wA; rw [List.length_map,List.length_range]
    injection y2 with y2
    injection y2 with y2
    cases hz2 : z.2 with
    | nil=>rw [hz2] at hl; simp at hl; omega
    | cons a l =>
     rw [hz2] at y2
     cases lrs with
     | nil=>cases y2
     | cons a' l'=>injection y2 with y3 _; cases y3
   ·have e : z = (q5,Zb (zs.map (·.2)) ws b wt sc 0):=by simpa using hz
    subst e
    rw [zX (by simp [q5la,np5]),zy q5p]
    exact hq5
  have hT9:=(hT6.same t6).putI (o:=.ins CS dx (Yq tl wa q6)) hp9
  have hfr : ∀ c o,c ≠ p->c ≠ T0->H c = some o->upd H9 p (.ins CS dx (Yq tl wa q6)) c = some o:=fun c o h1 h2 e=>by
   rw [zy h1]
   exact t6 _ _ (off6 _ _ (zB e hla) (s2 _ _ (n4 c o h1 h2 e)))
  have q6H : H q6 = none:=by
   cases e : H q6 with
   | none=>rfl
   | some o =>
    have:=off6 _ _ (zB e hla) (s2 _ _ (n4 q6 o q6p (hT6.none f6) e))
    rw [f6] at this; cases this
  have eF : Yq tl wa q6 = yf "layers" (.ref q6) (yf "weights" (.ref wa) (yf "tails" (.ref tl) [])):=rfl
  rw [← eF]
  generalize upd H9 p (.ins CS dx (Yq tl wa q6)) = H10 at TT hT9 hfr
  refine ⟨_,rfl,_,rfl,by omega,by omega,xg (lo:=0) (n:=(sz : Int).toNat) (fun i σ H2=>∃ (v5 : Option V) (L : Nat),σ = [some (.ref p),some (.ref r),some (.ref wl),some (.int sc),some (.int sz),v5]∧L≤i + 1∧TotAt C CS H2 p tl la wa q6 b (zs.map (·.2)) ws L wt sc sz (i + 1)∧(∀ c o,c ≠ p->c ≠ T0->H c = some o->H2 c = some o)∧LT T0 H2)
   ⟨none,L6,rfl,by omega,TT,hfr,hT9⟩ ?_ ?_⟩
  ·rintro i σ Hi hi ⟨v5,L,rfl,hL,TTi,fri,hTi⟩
   obtain ⟨dxi,hpi⟩:=TTi.obj
   obtain ⟨zi,hl2,_⟩:=TTi.ly
   refine ⟨_,rfl,p,CS,dxi,_,_,rfl,hpi,zH.cl,zH.n_layers,Wy _ _ _,.inl ⟨rfl,_,SqL.of hl2⟩,_,rfl,p,dxi,_,rfl,hpi,Yw _ _ _,_,rfl,p,tl,la,wa,q6,b,_,ws,L,wt,sc,sz,i + 1,i,by rw [Int.zero_add]; rfl,TTi,G,by omega,by omega,by omega,by omega,hsc,hwt,fun q L' H' hLL TT' m' hLm hq=>?_⟩
   obtain ⟨zi',hl2',_,e3⟩:=TT'.ly
   have hzl : zi'.length = i + 1:=by have:=congrArg List.length e3; rwa [List.length_map,List.length_map,List.length_range] at this
   refine ⟨q6,_,_,rfl,rfl,hl2',by rw [List.length_map,hzl]; exact Nat.lt_of_lt_of_le (show i + 1 < 1000 by omega) (by decide),?_⟩
   refine ⟨_,L',rfl,by omega,TT'.push G (by omega) hl2' hq,fun c o h1 h2 e=>?_,(hTi.off TTi.ta.la.choose_spec m').putL2 hl2'⟩
   have e2:=fri c o h1 h2 e
   have hcl : c ≠ la:=zB e hla
   have hc' : c ∉ [la]:=by simpa using hcl
   have:=m' c o (by rw [zX hc']; exact e2)
   rw [zX hc'] at this
   rw [zy (zB e q6H)]
   exact this
  ·rintro σ Hn ⟨v5,L,rfl,hL,TTn,frn,hTn⟩
   rw [Int.toNat_natCast] at hL TTn
   exact kk tl la wa q6 ws L Hn TTn G (by omega) frn hTn hla q6H
end
theorem zdW (b : Nat) : (wA b (fun c=>c) b 0).map V.int = (List.range b).map fun (c : Nat)=>V.int c:=by
 unfold wA
 rw [List.map_map]
 apply List.map_congr_left
 intro c _
 show V.int ((b ^ 0 * c : Nat) : Int) = V.int (c : Int)
 rw [Nat.pow_zero,Nat.one_mul]
section
variable {P : Program} {w : World} {K : PySem.W.Frag} {mg : Str->Option Value} {base : Heap} {T0 C CS : Addr}
def uM (T0 C CS : Addr) : Sp:=fun vs H Q _=>∃ (r : Addr) (b : Nat) (bl : Addr) (zs : List (Addr × List Int)) (sz : Nat),vs = [.ref r,.int sz]∧RuleAt H r b bl zs∧yC b (zs.map (·.2))∧LT T0 H∧sz≤800 ∧
 ∀ (x tl la wa l2 : Addr) (ws : List (List Int)) (L : Nat) (H' : Hp),TotAt C CS H' x tl la wa l2 b (zs.map (·.2)) ws L (fun c=>c) b sz (sz + 1)->GoodT b (zs.map (·.2)) ws->L≤801->SameL T0 H H'->LT T0 H'->H la = none->H l2 = none->Q (.ref x) H'
theorem Wh : zK ["rule","size"] ["rule","size"] (zx vI):=⟨rfl,rfl,rfl,by decide +kernel,rfl,by decide +kernel,by decide +kernel⟩
theorem Wl {f f1 : Addr} {fd fd1 : FuncData} (D : Df K mg "number_totals" vI ["rule","size"] f fd) (qD : Mk K CS f1) (qF : Binds K fd1 ["self","rule","weights","scale","size"] []) (yP : FnOk P w K mg base CX0 9 f1 fd1 ["self","rule","weights","scale","size"] (qP T0 C CS)) (zH : ClS K mg CS) (T : Blt mg) : FnOk P w K mg base CX0 11 f fd ["rule","size"] (uM T0 C CS):=by
 refine D.fn.ok Wh (fun vs H Q E h=>?_) (fun cdv A outer s H vs Q E hr h=>?_)
 ·obtain ⟨r,b,bl,zs,sz,rfl,_⟩:=h; rfl
 ·obtain ⟨r,b,bl,zs,sz,rfl,R,g,hT,hsz,kk⟩:=h
  have b2:=g.b2
  have b16:=g.b16
  refine ⟨_,(zA (zQ (Vd qD yP (hr.mono (by decide)) rfl zH.nm qF .nil Qp (zf (pv 0) (zf (XF rfl rfl T.n_list rfl T.n_range (zY (ux K) (pv 0) zm (fun _ _=>rfl))) (zf (zY (ux K) (pv 0) zm (fun _ _=>rfl)) (zf (pv 1) zg))))))),?_⟩
  refine ⟨_,rfl,_,rfl,r,_,_,V.int b,rfl,rfl,SqT.of R.tu,rfl,b,rfl,by omega,fun q hq=>?_⟩
  have s1:=zq hq (o:=.lst ((List.range b).map fun (c : Nat)=>V.int c))
  have R1:=R.same s1
  refine ⟨_,rfl,r,_,_,V.int b,rfl,rfl,SqT.of R1.tu,rfl,_,rfl,fun x dx nx ndx nex=>?_⟩
  have s0:=QV (C:=CS) nx ndx
  have hwl : upd H q (.lst ((List.range b).map fun (c : Nat)=>V.int c)) q = some (.lst ((wA b (fun c=>c) b 0).map V.int)):=by rw [zj,zdW]
  refine ⟨x,dx,r,b,bl,zs,q,(fun c=>c),b,sz,rfl,zj,R1.same s0,g,(hT.same s1).same s0,s0 _ _ hwl,b16,hsz,fun c hc=>Nat.lt_of_lt_of_le (show c < 16 by omega) (by decide),fun tl la wa l2 ws L H' TT G hL fr hT' hla hl2=>⟨rfl,?_⟩⟩
  refine kk x tl la wa l2 ws L H' TT G hL (fun c o hc e=>?_) hT' ((s1.trans s0).free hla) ((s1.trans s0).free hl2)
  exact fr c o (zB (s1 _ _ e) nx) hc ((s1.trans s0) c o e)
end
theorem zbJ {ls : List (List Int)} (ne : ∀ l ∈ ls,l ≠ []) {b m : Nat} {o : Option (List Int)} {w : Nat->Nat} {sc : Nat} (h2 : 2≤b) (R : Rep ls b m o) (t : Nat) {c : Nat} (hc : c < b) :
  tot (fun r=>gd ls b ((m * b + c) * b ^ t + r)) (fun r=>fw w sc b ((m * b + c) * b ^ t + r)) (b ^ t) = sc ^ (t + 1) * ahd w sc b m * jH ls b t o c + stepT ls b w sc t o c:=by
 rcases R with ⟨rfl,rfl⟩ | ⟨h1,hg,rfl⟩
 ·have e0 : ahd w sc b 0 = 0:=rfl
  rw [e0,Nat.mul_zero,Nat.zero_mul,Nat.zero_add,Nat.zero_mul,Nat.zero_add]
  by_cases h0 : c = 0
  ·subst h0
   rw [show stepT ls b w sc t none 0 = ttO ls b w sc t from (by unfold stepT; exact if_pos rfl),zbu ne h2]
   apply qO <;> intro r _ <;> rw [Nat.zero_mul,Nat.zero_add] <;> rfl
  ·show _ = if c = 0 then _ else _
   rw [if_neg h0]
   exact zaf ne h2 (by omega) hc
 ·have h1' : 1≤m * b + c:=JR h2 h1
  have ef : ∀ r,r < b ^ t->figs b ((m * b + c) * b ^ t + r) = figs b m ++ xT b (t + 1) (c * b ^ t + r):=fun r hr=>by
   rw [Yy h2 h1' t r hr,uT h2 h1 hc,uq hr,List.append_assoc]
   rfl
  have e1 : tot (fun r=>gd ls b ((m * b + c) * b ^ t + r)) (fun r=>fw w sc b ((m * b + c) * b ^ t + r)) (b ^ t) = tot (fun r=>lacks ls (figs b m ++ xT b (t + 1) (c * b ^ t + r))) (fun r=>sc ^ (t + 1) * ahd w sc b m + wsum w sc (xT b (t + 1) (c * b ^ t + r))) (b ^ t):=by
   apply qO
   ·intro r hr
    show lacks ls (figs b _) = _
    rw [ef r hr]
   ·intro r hr
    show wsum w sc (figs b _) = _
    rw [ef r hr,Wz,Vf]
    unfold ahd
    rw [if_neg (by omega)]
  have e2 : many (fun r=>lacks ls (figs b m ++ xT b (t + 1) (c * b ^ t + r))) (b ^ t) = jH ls b t (some (zR ls (figs b m))) c:=by
   rw [zaZ ne h2 (.inr ⟨h1,hg,rfl⟩) t hc]
   apply vR
   intro r hr
   show _ = lacks ls (figs b _)
   rw [ef r hr]
  rw [e1,Vi,e2,Jo ne (zbb ne t)]
  congr 1
  show _ = if lacks ls (zR ls (figs b m) ++ [(c : Int)]) = true then _ else 0
  rw [qW ne _ hg,jo]
theorem Vy {ls : List (List Int)} (ne : ∀ l ∈ ls,l ≠ []) {b m : Nat} {o : Option (List Int)} {w : Nat->Nat} {sc : Nat} (h2 : 2≤b) (R : Rep ls b m o) (t : Nat) : ∀ {s : Nat},s≤b->tot (gd ls b) (fw w sc b) (m * b ^ (t + 1)) + (sc ^ (t + 1) * ahd w sc b m * under ls b t o s + qj ls b w sc t o s) = tot (gd ls b) (fw w sc b) ((m * b + s) * b ^ t)
 | 0,_=>by
  rw [zaH,Nat.mul_zero,Nat.add_zero,Nat.pow_succ',← Nat.mul_assoc]
  rfl
 | s + 1,hs=>by
  have ih:=Vy ne h2 R t (w:=w) (sc:=sc) (s:=s) (by omega)
  have e : (m * b + (s + 1)) * b ^ t = (m * b + s) * b ^ t + b ^ t:=by rw [← Nat.add_assoc,Nat.succ_mul]
  rw [e,W9,zbJ ne h2 R t (by omega),← ih,Y7,WR,Nat.mul_add]
  omega
section
variable {P : Program} {w : World} {K : PySem.W.Frag} {mg : Str->Option Value} {base : Heap} {T0 C CS : Addr}
def xP (C CS : Addr) : Sp:=fun vs H Q _=>∃ (p tl la wa l2 : Addr) (b : Nat) (ls ws : List (List Int)) (L : Nat) (wt : Nat->Nat) (sc sz M : Nat) (fa : Addr) (n : Nat),vs = [.ref p,.ref fa]∧TotAt C CS H p tl la wa l2 b ls ws L wt sc sz M∧GoodT b ls ws∧L≤801∧sz = (figs b n).length∧M = sz + 1∧sc≤16∧(∀ c,c < b->wt c < 2 ^ 64)∧aw [la] H fa = some (.lst ((figs b n).map V.int))∧n < 2 ^ 800 ∧
 SQ C CS H p tl la wa l2 b ls ws L wt sc sz M fun L' H'=>L'≤1000->Q (.int ((tot (gd ls b) (fw wt sc b) n : Nat) : Int)) H'
theorem zbo {w : Nat->Nat} {sc b : Nat} (hsc : sc≤16) (hw : ∀ c,c < b->w c < 2 ^ 64) : ∀ l : List Int,(∀ f ∈ l,f.toNat < b)->wsum w sc l < 2 ^ (4 * l.length + 64)
 | [],_=>Nat.pow_pos (by decide)
 | c :: l,h=>by
  have ih:=zbo hsc hw l fun x hx=>h x (List.mem_cons_of_mem _ hx)
  rw [wsum,List.length_cons]
  have h1 : sc ^ l.length≤2 ^ (4 * l.length):=by rw [Nat.pow_mul]; exact Nat.pow_le_pow_left hsc _
  have h2:=hw c.toNat (h c List.mem_cons_self)
  have h3 : sc ^ l.length * w c.toNat≤2 ^ (4 * l.length + 64):=by rw [Nat.pow_add]; exact Nat.mul_le_mul h1 (Nat.le_of_lt h2)
  have h4 : 2 ^ (4 * (l.length + 1) + 64) = 16 * 2 ^ (4 * l.length + 64):=by rw [show 4 * (l.length + 1) + 64 = 4 + (4 * l.length + 64) by omega,Nat.pow_add]
  omega
theorem zfc {w : Nat->Nat} {sc b n N k : Nat} (h2 : 2≤b) (hsc : sc≤16) (hw : ∀ c,c < b->w c < 2 ^ 64) (hn : n < b ^ N) (hk : k≤N) (hN : N≤900) : sc ^ (N - k) * ahd w sc b (n / b ^ (N - k)) < 2 ^ 5000:=by
 unfold ahd
 split
 ·rw [Nat.mul_zero]; exact Nat.pow_pos (by decide)
 ·rename_i hz
  have hlt : n / b ^ (N - k) < b ^ k:=by
   rw [Nat.div_lt_iff_lt_mul (Nat.pow_pos (by omega)),← Nat.pow_add,show k + (N - k) = N by omega]
   exact hn
  have hl : (figs b (n / b ^ (N - k))).length≤k:=by
   obtain ⟨j,j1,j2⟩:=zbC h2 (n / b ^ (N - k))
   rw [Wv h2 j1 j2]
   rcases j2 with j2 | j2
   ·subst j2
    cases k with
    | zero=>exact absurd (Nat.lt_one_iff.mp hlt) hz
    | succ k=>omega
   ·exact (Nat.pow_lt_pow_iff_right (show 1 < b by omega)).mp (Nat.lt_of_le_of_lt j2 hlt)
  have hb:=zbo hsc hw (figs b (n / b ^ (N - k))) (fun f hf=>by have:=zc9 h2 _ f hf; omega)
  have h1 : sc ^ (N - k)≤2 ^ (4 * (N - k)):=by rw [Nat.pow_mul]; exact Nat.pow_le_pow_left hsc _
  refine Nat.lt_of_lt_of_le (Nat.mul_lt_mul_of_le_of_lt h1 hb (Nat.pow_pos (by decide))) ?_
  rw [← Nat.pow_add]
  exact Nat.pow_le_pow_right (by decide) (by omega)
theorem zU : zK ["self","figures","place","ahead","total","k","left"] ["self","figures"] (zx yp):=⟨rfl,rfl,rfl,by decide +kernel,rfl,by decide +kernel,by decide +kernel⟩
set_option maxHeartbeats 0 in
theorem V8 {f f1 f2 : Addr} {fd fd1 fd2 : FuncData} (D : Mt K CS "Totals.total_below" "total_below" yp ["self","figures"] f fd) (yh : Mt K CS "Totals.total_under" "total_under" yH ["self","place","stop","left","ahead"] f1 fd1) (yt : FnOk P w K mg base CX0 3 f1 fd1 ["self","place","stop","left","ahead"] (um C CS)) (yr : Mt K CS "Totals.weight_of" "weight_of" yX ["self","behind","figure","left"] f2 fd2) (yL : FnOk P w K mg base CX0 1 f2 fd2 ["self","behind","figure","left"] (qG C CS)) (zL : ClT K mg C) (zH : ClS K mg CS) (T : Blt mg) : FnOk P w K mg base CX0 4 f fd ["self","figures"] (xP C CS):=by
 refine D.fn.ok zU (fun vs H Q E h=>?_) (fun cdv A outer s H vs Q E hr h=>?_)
 ·obtain ⟨p,tl,la,wa,l2,b,ls,ws,L,wt,sc,sz,M,fa,n,rfl,_⟩:=h; rfl
 ·obtain ⟨p,tl,la,wa,l2,b,ls,ws,L,wt,sc,sz,M,fa,n,rfl,TT,G,hL,hsz,hM,hsc,hwt,hf,hn,kk⟩:=h
  have b2:=G.g.b2
  have hlen:=j7 b2 800 n hn
  obtain ⟨dx0,hp0⟩:=TT.obj
  obtain ⟨dt0,sa0,htl0⟩:=TT.ta.obj
  generalize hN : (figs b n).length = N at hlen hsz
  have hnN:=zao b2 hN
  refine ⟨_,(zp (zJ (i:=2) zU.nd rfl (Or.inl rfl) (xQ K (xQ K (pv 0))))
   (zp (zJ (i:=3) zU.nd rfl (Or.inl rfl) zm)
   (zp (zJ (i:=4) zU.nd rfl (Or.inl rfl) zm)
   (zp (vM PassesOwn.never rfl (yg rfl T.n_range (zf (zF (xX K) (by rfl) T.n_len PySem.boot_len (zf (pv 1) zg)) zg)) (yK (i:=5) zU.nd rfl (Or.inl rfl))
    (zp (zJ (i:=6) zU.nd rfl (Or.inl rfl) (zE qd (zE qd (zF (xX K) (by rfl) T.n_len PySem.boot_len (zf (pv 1) zg)) (pv 5)) zm))
    (zp (za7 (i:=4) zU.nd rfl (Or.inl rfl) (Yb yh zH.cl yt (hr.mono (by decide)) (pv 0) (zf (pv 2) (zf (zY (yl K) (pv 1) (pv 5) (fun _ _=>rfl)) (zf (pv 6) (zf (pv 3) zg))))) zba)
    (zp (zJ (i:=2) zU.nd rfl (Or.inl rfl) (zY (yl K) (zY (yl K) (xQ K (xQ K (pv 0))) (pv 2) (fun _ _=>rfl)) (zY (yl K) (pv 1) (pv 5) (fun _ _=>rfl)) (fun _ _=>rfl)))
    (zp (wK (yE zbd (pv 2) vp (yw _))
     (zA (zQ (pv 4)))
     yM)
    (zA (za7 (i:=3) zU.nd rfl (Or.inl rfl) (Yb yr zH.cl yL (hr.mono (by decide)) (pv 0) (zf (pv 2) (zf (zY (yl K) (pv 1) (pv 5) (fun _ _=>rfl)) (zf (pv 6) zg)))) zba)))))))
   (zA (zQ (pv 4))))))),?_⟩
  refine ⟨_,rfl,p,CS,dx0,_,_,rfl,hp0,zH.cl,zH.n_tails,vP _ _ _,tl,C,dt0,_,_,rfl,htl0,zL.cl,zL.n_outset,vV _ _ _ _,?_⟩
  refine ⟨_,rfl,fa,_,rfl,.inl (SqL.of (zN _ _ _ _ hf)),?_⟩
  rw [List.length_map,hN]
  refine ⟨_,rfl,by omega,by omega,xg (lo:=0) (n:=(N : Int).toNat) (fun k σ H2=>∃ (v5 v6 : Option V) (i L' : Nat),σ = [some (.ref p),some (.ref fa),some (.int i),some (.int ((sc ^ (N - k) * ahd wt sc b (n / b ^ (N - k)) : Nat) : Int)),some (.int (tot (gd ls b) (fw wt sc b) (n / b ^ (N - k) * b ^ (N - k)) : Nat)),v5,v6]∧i≤ws.length∧Rep ls b (n / b ^ (N - k)) ws[i]?∧L≤L'∧L'≤1000∧TotAt C CS H2 p tl la wa l2 b ls ws L' wt sc sz M∧Same (aw [la] H) (aw [la] H2)) ⟨none,none,ws.length,L,?_,Nat.le_refl _,?_,Nat.le_refl _,by omega,TT,Same.refl _⟩ ?_ ?_⟩
  ·rw [Nat.sub_zero,Nat.div_eq_of_lt hnN,Nat.zero_mul]
   rfl
  ·rw [Nat.sub_zero,Nat.div_eq_of_lt hnN,List.getElem?_eq_none (Nat.le_refl _)]
   exact .inl ⟨rfl,rfl⟩
  ·rintro k σ H2 hk ⟨v5,v6,i,L',rfl,hi,R,hLL,hL',TT2,m2⟩
   have hkN : k < N:=by omega
   have hah:=zfc (w:=wt) b2 hsc hwt hnN (Nat.le_of_lt hkN) (by omega)
   obtain ⟨t,ht⟩ : ∃ t,N - k = t + 1:=⟨N - k - 1,by omega⟩
   have et : N - 1 - k = t:=by omega
   have hfk:=zcF b2 hN hkN
   rw [et] at hfk
   rw [ht] at R hah ⊢
   have hnx:=zcP (b:=b) (n:=n) (t:=t) (by omega)
   have hcb : n / b ^ t % b < b:=Nat.mod_lt _ (by omega)
   generalize hc : n / b ^ t % b = c at hfk hnx hcb
   have hf2:=m2 _ _ hf
   have hfH2:=zN _ _ _ _ hf2
   obtain ⟨dx2,hp2⟩:=TT2.obj
   have hat : atI ((figs b n).map V.int) (0 + (k : Int)) = some (V.int (c : Nat)):=by rw [Int.zero_add]; exact yx (by rw [List.getElem?_map,hfk]; rfl)
   refine ⟨_,rfl,fa,_,rfl,.inl (SqL.of hfH2),_,rfl,_,_,rfl,rfl,_,_,rfl,rfl,?_⟩
   dsimp only
   rw [List.length_map,hN,show ((N : Int) - (0 + (k : Int)) - 1) = (t : Int) by omega]
   refine ⟨_,rfl,_,rfl,p,dx2,_,rfl,hp2,Yw _ _ _,_,rfl,_,rfl,_,rfl,fa,_,_,_,rfl,rfl,SqL.of hfH2,hat,_,rfl,_,rfl,?_⟩
   refine ⟨p,tl,la,wa,l2,b,ls,ws,L',wt,sc,sz,M,i,c,t,sc ^ (t + 1) * ahd wt sc b (n / b ^ (t + 1)),rfl,TT2,G,hL',by omega,by omega,by omega,hi,by omega,hsc,hwt,hah,fun L3 H3 hL3 TT3 m3 hmx=>?_⟩
   have hL3' : L3≤1000:=by omega
   have m23:=m2.trans m3
   have hf3:=zN _ _ _ _ (m23 _ _ hf)
   refine ⟨_,_,rfl,rfl,?_⟩
   have eum:=Vy G.ne b2 (w:=wt) (sc:=sc) R t (s:=c) (by omega)
   rw [← hnx] at eum
   obtain ⟨dx3,sa3,srs3,z3,q1,q2,q3,q4,q5⟩:=zcr TT3.ta G hi hcb
   obtain ⟨dp3,hp3⟩:=TT3.obj
   refine ⟨_,rfl,p,CS,dp3,_,_,rfl,hp3,zH.cl,zH.n_tails,vP _ _ _,tl,C,dx3,_,_,rfl,q1,zL.cl,zL.n_steps,uO _ _ _ _,_,rfl,sa3,_,_,_,rfl,rfl,SqL.of q2,q3,_,rfl,_,rfl,fa,_,_,_,rfl,rfl,SqL.of hf3,hat,z3.1,_,_,_,rfl,rfl,SqL.of q4,q5,?_⟩
   rcases zcg G hi R hcb with ⟨j,e1,e2,e3⟩ | ⟨e1,e2,e3⟩
   ·rw [e1]
    refine ⟨_,rfl,rfl,_,rfl,wO ?_⟩
    refine ⟨_,rfl,_,rfl,p,dp3,_,rfl,hp3,Yw _ _ _,_,rfl,_,rfl,_,rfl,fa,_,_,_,rfl,rfl,SqL.of hf3,hat,_,rfl,p,tl,la,wa,l2,b,ls,ws,L3,wt,sc,sz,M,j,c,t,rfl,TT3,hcb,by omega,?_⟩
    refine ⟨_,_,rfl,rfl,⟨some (.int (0 + (k : Int))),some (.int t),j,L3,?_,e2,?_,by omega,hL3',TT3,m23⟩⟩
    ·have ea : sc ^ t * ahd wt sc b (n / b ^ t) = sc ^ (t + 1) * ahd wt sc b (n / b ^ (t + 1)) + (if j = ws.length then 0 else sc ^ t * wt c):=by
      by_cases z : j = ws.length
      ·rw [if_pos z]
       rw [z,List.getElem?_eq_none (Nat.le_refl _)] at e3
       rcases e3 with ⟨e3,_⟩ | ⟨_,_,e3⟩
       ·have hm0 : n / b ^ (t + 1) = 0:=by
         by_cases y : n / b ^ (t + 1) = 0
         ·exact y
         ·exact absurd e3 (Nat.ne_of_gt (JR b2 (Nat.pos_of_ne_zero y)))
        rw [hnx,e3,hm0]
        show sc ^ t * 0 = sc ^ (t + 1) * 0 + 0
        simp
       ·cases e3
      ·rw [if_neg z]
       have hjl : j < ws.length:=by omega
       rw [List.getElem?_eq_getElem hjl] at e3
       rcases e3 with ⟨_,e3⟩ | ⟨e3,_,_⟩
       ·cases e3
       ·rw [hnx,zdh b2 hcb e3,Nat.mul_add,← Nat.mul_assoc,show sc ^ (t + 1) = sc ^ t * sc from Nat.pow_succ _ _]
     rw [show N - (k + 1) = t by omega,← eum,ea]
     show [_,_,_,some (V.int (((sc ^ (t + 1) * ahd wt sc b (n / b ^ (t + 1)) : Nat) : Int) + ((if j = ws.length then 0 else sc ^ t * wt c : Nat) : Int))),some (V.int ((tot (gd ls b) (fw wt sc b) (n / b ^ (t + 1) * b ^ (t + 1)) : Nat) + ((sc ^ (t + 1) * ahd wt sc b (n / b ^ (t + 1)) * under ls b t ws[i]? c + qj ls b wt sc t ws[i]? c : Nat) : Int))),_,_] = [_,_,_,some (V.int ((sc ^ (t + 1) * ahd wt sc b (n / b ^ (t + 1)) + (if j = ws.length then 0 else sc ^ t * wt c) : Nat) : Int)),some (V.int ((tot (gd ls b) (fw wt sc b) (n / b ^ (t + 1) * b ^ (t + 1)) + (sc ^ (t + 1) * ahd wt sc b (n / b ^ (t + 1)) * under ls b t ws[i]? c + qj ls b wt sc t ws[i]? c) : Nat) : Int)),_,_]
     rw [← Int.natCast_add,← Int.natCast_add]
    ·rw [show N - (k + 1) = t by omega,hnx]; exact e3
   ·rw [e1]
    refine ⟨_,rfl,rfl,_,rfl,wR ⟨_,rfl,?_⟩⟩
    have q:=kk L3 H3 (by omega) TT3 m23 hL3'
    rw [← hnx] at e2 e3
    have ebad:=zfh G.ne b2 e2 e3 t (r:=n % b ^ t) (Nat.le_of_lt (Nat.mod_lt _ (Nat.pow_pos (by omega))))
    rw [Nat.mul_comm,Nat.div_add_mod,Nat.mul_comm] at ebad
    have et:=zdu (f:=fw wt sc b) (p:=gd ls b) (A:=n / b ^ t * b ^ t) (B:=n) (Nat.div_mul_le_self _ _) ebad.symm
    rw [et,← eum,Int.natCast_add] at q
    exact q
  ·rintro σ H2 ⟨v5,v6,i,L',rfl,hi,R,hLL,hL',TT2,m2⟩
   have q:=kk L' H2 hLL TT2 m2 hL'
   have e : n / b ^ (N - (N : Int).toNat) * b ^ (N - (N : Int).toNat) = n:=by rw [Int.toNat_natCast,Nat.sub_self,Nat.pow_zero,Nat.div_one,Nat.mul_one]
   rw [e]
   exact ⟨_,rfl,q⟩
end
theorem za6 {b : Nat} {ls : List (List Int)} (g : yC b ls) : xV (.tuple [.int b,.list (ls.map fun l=>.list (l.map .int))]) = true:=by
 have hb : uI (.int b) = true:=decide_eq_true (by have:=g.b2; have:=g.b16; omega)
 have hs : ∀ l ∈ ls,yq b (.list (l.map .int)) = true:=fun l hl=>by
  have s:=g.st l hl
  have h1 : Vo b (.list (l.map .int)) = true:=by
   show (l.map PyData.int).all (Zj b) = true
   rw [List.all_eq_true]
   intro x hx
   obtain ⟨i,hi,rfl⟩:=List.mem_map.mp hx
   exact decide_eq_true (s.fig i hi)
  have h2 : (Qt (.list (l.map .int))).length = l.length:=List.length_map ..
  unfold yq
  rw [h1,h2,Bool.true_and]
  exact decide_eq_true ⟨List.length_pos_iff.mpr s.ne,s.len⟩
 have hi : (ls.map fun l=>PyData.list (l.map .int)).map wM = ls:=by
  rw [List.map_map]
  conv=>rhs; rw [← List.map_id ls]
  refine List.map_congr_left fun l _=>?_
  show (l.map PyData.int).map jk = l
  rw [List.map_map]
  conv=>rhs; rw [← List.map_id l]
  rfl
 show (uI (.int b) && Jb b (.list (ls.map fun l=>.list (l.map .int)))) = true
 rw [hb,Bool.true_and]
 show (decide ((ls.map fun l=>PyData.list (l.map .int)).length≤4) && ((ls.map fun l=>PyData.list (l.map .int)).all (yq b) && xN ((ls.map fun l=>PyData.list (l.map .int)).map wM))) = true
 rw [hi,List.length_map,decide_eq_true g.len,Bool.true_and,Bool.and_eq_true]
 refine ⟨?_,?_⟩
 ·rw [List.all_eq_true]
  intro x hx
  obtain ⟨l,hl,rfl⟩:=List.mem_map.mp hx
  exact hs l hl
 ·unfold xN
  rw [List.all_eq_true]
  intro k hk
  have hk:=List.mem_range.mp hk
  rw [List.getD_eq_getElem?_getD,List.getD_eq_getElem?_getD,List.getElem?_eq_getElem (show k < ls.length by omega),List.getElem?_eq_getElem (show k + 1 < ls.length by omega)]
  exact List.pairwise_iff_getElem.mp g.up k (k + 1) (by omega) (by omega) (by omega)
theorem RuleAt.th {H : Hp} {r bl : Addr} {b : Nat} {zs : List (Addr × List Int)} (R : RuleAt H r b bl zs) : ThAt H (.tuple [.int b,.list ((zs.map (·.2)).map fun l=>.list (l.map .int))]) (.ref r):=by
 rw [ThAt]
 refine ⟨r,_,rfl,R.tu,?_⟩
 rw [ThsAt]
 refine ⟨_,_,rfl,by rw [ThAt],?_⟩
 rw [ThsAt]
 refine ⟨_,_,rfl,?_,by rw [ThsAt]⟩
 rw [ThAt]
 refine ⟨bl,_,rfl,R.li,?_⟩
 rw [List.map_map]
 exact ThsAt.map fun z hz=>ThAt.ints (R.st z hz)
theorem zcc {H H' : Hp} {r bl : Addr} {b : Nat} {zs : List (Addr × List Int)} {d d' : PyData} (R : RuleAt H r b bl zs) (R' : RuleAt H' r b bl zs) (t : ThAt H d (.ref r)) (t' : ThAt H' d' (.ref r)) : d' = d:=by
 rw [t.uniq R.th,t'.uniq R'.th]
theorem RuleAt.thing {H : Hp} {r bl : Addr} {b : Nat} {zs : List (Addr × List Int)} (R : RuleAt H r b bl zs) (g : yC b (zs.map (·.2))) : ∃ d,ThAt H d (.ref r)∧xV d = true∧Fit 3 5000 d:=by
 have h:=R.th
 refine ⟨_,h,za6 g,Th.fit ?_ h⟩
 have hl:=g.len
 rw [List.length_map] at hl
 have b16:=g.b16
 have hz : ∀ z ∈ zs,Th H 1 404 (.ref z.1):=fun z hz=>by
  have s:=g.st _ (List.mem_map.mpr ⟨z,hz,rfl⟩)
  refine Th.ints (R.st z hz) (fun i hi=>by have:=s.fig i hi; omega) (by have:=s.len; omega)
 have hb : Th H 2 1620 (.ref bl):=Th.lst R.li (fun v hv=>by
  obtain ⟨z,hz',rfl⟩:=List.mem_map.mp hv
  exact hz z hz') (by rw [List.length_map]; omega)
 refine Th.tup (k:=2) (n:=1620) R.tu (fun v hv=>?_) (by show 1621 * 2≤5000; decide)
 simp only [List.mem_cons,List.not_mem_nil,or_false] at hv
 rcases hv with rfl | rfl
 ·exact Th.int (by omega) (by decide)
 ·exact hb
theorem zbe {b : Int} {d : PyData} (h : yq b d = true) : ∃ l : List Int,d = .list (l.map .int)∧l ≠ []∧l.length≤4∧∀ i ∈ l,0≤i∧i < b:=by
 unfold yq at h
 rw [Bool.and_eq_true] at h
 obtain ⟨h1,h2⟩:=h
 have h2:=of_decide_eq_true h2
 cases d with
 | list xs =>
  have h1 : xs.all (Zj b) = true:=h1
  rw [List.all_eq_true] at h1
  have h2 : 1≤xs.length∧xs.length≤4:=h2
  have hx : ∀ x ∈ xs,x = .int (jk x)∧0≤jk x∧jk x < b:=fun x hx=>by
   have q:=h1 x hx
   cases x with
   | int i=>exact ⟨rfl,of_decide_eq_true q⟩
   | _=>cases q
  refine ⟨xs.map jk,?_,fun z=>?_,by rw [List.length_map]; exact h2.2,fun i hi=>?_⟩
  ·rw [List.map_map]
   conv=>lhs; rw [← List.map_id xs]
   exact congrArg PyData.list (List.map_congr_left fun x hx'=>(hx x hx').1)
  ·have : xs.length = 0:=by rw [← List.length_map (f:=jk),z]; rfl
   omega
  ·obtain ⟨x,hx',rfl⟩:=List.mem_map.mp hi
   exact (hx x hx').2
 | _=>cases h1
theorem Qo {H : Hp} {b : Int} : ∀ {xs : List PyData} {ys : List V},ThsAt H xs ys->xs.all (yq b) = true->∃ zs : List (Addr × List Int),ys = zs.map (fun z=>V.ref z.1)∧xs.map wM = zs.map (·.2)∧(∀ z ∈ zs,H z.1 = some (.lst (z.2.map V.int)))∧∀ z ∈ zs,z.2 ≠ []∧z.2.length≤4∧∀ i ∈ z.2,0≤i∧i < b
 | [],ys,h,_=>by rw [ThsAt] at h; subst h; exact ⟨[],rfl,rfl,by simp,by simp⟩
 | d :: ds,ys,h,g=>by
  rw [ThsAt] at h
  obtain ⟨y,us,rfl,h1,h2⟩:=h
  rw [List.all_cons,Bool.and_eq_true] at g
  obtain ⟨zs,rfl,e,h3,h4⟩:=Qo h2 g.2
  obtain ⟨l,rfl,l1,l2,l3⟩:=zbe g.1
  rw [ThAt] at h1
  obtain ⟨a,vs,rfl,h5,h6⟩:=h1
  have ev : vs = l.map V.int:=by
   clear l1 l2 l3 h5 g
   induction l generalizing vs with
   | nil=>rw [List.map_nil,ThsAt] at h6; exact h6
   | cons i l ih =>
    rw [List.map_cons,ThsAt] at h6
    obtain ⟨y,us,rfl,q1,q2⟩:=h6
    rw [ThAt] at q1
    rw [q1,ih us q2]; rfl
  subst ev
  refine ⟨(a,l) :: zs,rfl,?_,fun z hz=>?_,fun z hz=>?_⟩
  ·rw [List.map_cons,List.map_cons,e]
   congr 1
   show (l.map PyData.int).map jk = l
   rw [List.map_map]
   conv=>rhs; rw [← List.map_id l]
   rfl
  ·rcases List.mem_cons.mp hz with rfl | hz
   ·exact h5
   ·exact h3 z hz
  ·rcases List.mem_cons.mp hz with rfl | hz
   ·exact ⟨l1,l2,l3⟩
   ·exact h4 z hz
theorem zb9 : ∀ {ls : List (List Int)},xN ls = true->ls.Pairwise fun x y=>HT.lexLt x y = true:=by
 intro ls h
 unfold xN at h
 rw [List.all_eq_true] at h
 have nxt : ∀ k,(hk : k + 1 < ls.length)->HT.lexLt (ls[k]'(by omega)) ls[k + 1] = true:=fun k hk=>by
  have q:=h k (List.mem_range.mpr (by omega))
  rwa [List.getD_eq_getElem?_getD,List.getD_eq_getElem?_getD,List.getElem?_eq_getElem (show k < ls.length by omega),List.getElem?_eq_getElem hk] at q
 refine List.pairwise_iff_getElem.mpr fun i j hi hj hij=>?_
 obtain ⟨n,rfl⟩ : ∃ n,j = i + 1 + n:=⟨j - (i + 1),by omega⟩
 induction n with
 | zero=>exact nxt i hj
 | succ n ih=>exact HT.vW _ _ _ (ih (by omega) (by omega)) (nxt (i + 1 + n) hj)
theorem Jt {H : Hp} {d : PyData} {v : V} (h : ThAt H d v) (hr : xV d = true) : ∃ (r : Addr) (b : Nat) (bl : Addr) (zs : List (Addr × List Int)),v = .ref r∧RuleAt H r b bl zs∧yC b (zs.map (·.2)):=by
 have go : ∀ e l,d = .tuple [e,l]->∃ (r : Addr) (b : Nat) (bl : Addr) (zs : List (Addr × List Int)),v = .ref r∧RuleAt H r b bl zs∧yC b (zs.map (·.2)):=by
  rintro e l rfl
  have hr : (uI e && Jb (jk e) l) = true:=hr
  rw [Bool.and_eq_true] at hr
  obtain ⟨h1,h2⟩:=hr
  cases e with
  | int i =>
   have h1 : 2≤i∧i≤16:=of_decide_eq_true h1
   cases l with
   | list xs =>
    have h2 : (decide (xs.length≤4) && (xs.all (yq i) && xN (xs.map wM))) = true:=h2
    rw [Bool.and_eq_true,Bool.and_eq_true] at h2
    obtain ⟨h3,h4,h5⟩:=h2
    have h3:=of_decide_eq_true h3
    rw [ThAt] at h
    obtain ⟨a,ys,rfl,h6,h7⟩:=h
    rw [ThsAt] at h7
    obtain ⟨y,us,rfl,h8,h7⟩:=h7
    rw [ThAt] at h8
    rw [ThsAt] at h7
    obtain ⟨z,ws,rfl,h9,h7⟩:=h7
    rw [ThsAt] at h7
    subst h7 h8
    rw [ThAt] at h9
    obtain ⟨bl,vs,rfl,g1,g2⟩:=h9
    obtain ⟨zs,rfl,e,g3,g4⟩:=Qo g2 h4
    rw [e] at h5
    have hn : ((i.toNat : Nat) : Int) = i:=by omega
    refine ⟨a,i.toNat,bl,zs,rfl,⟨by rw [hn]; exact h6,g1,g3⟩,⟨by omega,by omega,?_,fun l hl=>?_,zb9 h5⟩⟩
    ·rw [← e,List.length_map]; exact h3
    ·obtain ⟨z,hz,rfl⟩:=List.mem_map.mp hl
     obtain ⟨q1,q2,q3⟩:=g4 z hz
     exact ⟨q1,q2,fun f hf=>by rw [hn]; exact q3 f hf⟩
   | _=>cases h2
  | _=>cases h1
 cases d with
 | tuple xs =>
  match xs,hr with
  | [e,l],_=>exact go e l rfl
  | [],hr=>cases hr
  | [_],hr=>cases hr
  | _ :: _ :: _ :: _,hr=>cases hr
 | _=>cases hr
def ZP : PyData->Bool
 | .int i=>decide (0≤i)
 | _=>false
section
variable {P : Program} {w : World} {K : PySem.W.Frag} {mg : Str->Option Value} {base : Heap}
def ZM : Sp:=fun vs H Q _=>∃ (v : V) (d : PyData),vs = [v]∧ThAt H d v∧Q (.bl (ZP d)) H
theorem Q0 : zK ["thing"] ["thing"] (zx jB):=⟨rfl,rfl,rfl,by decide +kernel,rfl,by decide +kernel,by decide +kernel⟩
theorem Je {f f1 : Addr} {fd fd1 : FuncData} (D : Df K mg "is_number" jB ["thing"] f fd) (yW : Df K mg "is_whole" uN ["thing"] f1 fd1) (T : Blt mg) : FnOk P w K mg base CX0 2 f fd ["thing"] ZM:=by
 have qQ : FnOk P w K mg base CX0 1 f1 fd1 ["thing"] tM:=jD yW T
 refine D.fn.ok Q0 (fun vs H Q E h=>?_) (fun cdv A outer s H vs Q E hr h=>?_)
 ·obtain ⟨v,d,rfl,_⟩:=h; rfl
 ·obtain ⟨v,d,rfl,hd,q⟩:=h
  refine ⟨_,(zA (zQ (ZR (yc yW qQ (hr.mono (by decide)) (zf (pv 0) zg)) (Zo (jN zek (pv 0) zm (yw _)))))),?_⟩
  refine ⟨_,rfl,v,d,rfl,hd,_,rfl,?_⟩
  cases hw : Wq d with
  | false =>
   have : ZP d = false:=by cases d <;> first | rfl | cases hw
   rw [this] at q
   exact wO q
  | true =>
   have e:=Xg hw
   generalize jk d = i at e
   subst e
   rw [ThAt] at hd
   subst hd
   exact wR ⟨_,rfl,_,_,rfl,rfl,q⟩
def vC (CNoRule : Addr) : Sp:=fun vs H Q E=>∃ (v : V) (d : PyData),vs = [v]∧ThAt H d v∧jY d≤100000∧(xV d = false->∀ H',Same H H'->E (.ref CNoRule) none H')∧(xV d = true->∀ H',Same H H'->Q .non H')
theorem Uz : zK ["thing"] ["thing"] (zx wV):=⟨rfl,rfl,rfl,by decide +kernel,rfl,by decide +kernel,by decide +kernel⟩
theorem Ut {CNoRule : Addr} {f f1 : Addr} {fd fd1 : FuncData} (D : Df K mg "check_rule" wV ["thing"] f fd) (Xy : Df K mg "is_rule" YD ["thing"] f1 fd1) (Ub : FnOk P w K mg base CX0 6 f1 fd1 ["thing"] Y4) (x_NoRule : Q3 K mg "NoRule" CNoRule) : FnOk P w K mg base (CX1 P w) 7 f fd ["thing"] (vC CNoRule):=by
 refine D.fn.ok1 Uz (fun vs H Q E h=>?_) (fun cdv A outer s H vs Q E hr h=>?_)
 ·obtain ⟨v,d,rfl,_⟩:=h; rfl
 ·obtain ⟨v,d,rfl,hd,hs,kNo,kOk⟩:=h
  refine ⟨_,(zA (wK (je (uA (yc Xy Ub (hr.mono (by decide)) (zf (pv 0) zg))))
    (zA (XD x_NoRule Xu rfl (zf V9 zg)))
    yM)),?_⟩
  refine ⟨_,rfl,v,d,rfl,hd,hs,fun H1 m1=>⟨_,rfl,?_⟩⟩
  cases hr : xV d with
  | false=>exact wR ⟨by show 1≤sizeLine; decide,kNo hr _ m1⟩
  | true=>exact wO (kOk hr _ m1)
end
theorem zaC : ∀ ds : List PyData,ds.length≤PyData.weightAll ds
 | []=>Nat.zero_le _
 | d :: ds=>by rw [PyData.weightAll,List.length_cons]; have:=zaC ds; omega
mutual
theorem za8 : ∀ d : PyData,jY d≤d.weight
 | .none=>by rw [jY.eq_def]; exact Nat.zero_le _
 | .bool _=>by rw [jY.eq_def]; exact Nat.zero_le _
 | .int _=>by rw [jY.eq_def]; exact Nat.zero_le _
 | .str _=>by rw [jY.eq_def]; exact Nat.zero_le _
 | .list xs=>by rw [jY,PyData.weight]; have:=zaC xs; have:=QJ xs; omega
 | .tuple xs=>by rw [jY,PyData.weight]; have:=zaC xs; have:=QJ xs; omega
 | .dict _=>by rw [jY.eq_def]; exact Nat.zero_le _
theorem QJ : ∀ ds : List PyData,Yo ds≤PyData.weightAll ds
 | []=>by rw [Yo]; exact Nat.zero_le _
 | d :: ds=>by rw [Yo,PyData.weightAll]; have:=za8 d; have:=QJ ds; omega
end
end Lw
namespace Lw
open PySem L2 PyProof.Rows
section
variable {P : Program} {w : World} {K : PySem.W.Frag} {mg : Str->Option Value} {base : Heap}
def jU (CNoBase : Addr) : Sp:=fun vs H Q E=>∃ (v : V) (d : PyData),vs = [v]∧ThAt H d v∧(uI d = false->E (.ref CNoBase) none H)∧(uI d = true->Q .non H)
theorem Uv : zK ["thing"] ["thing"] (zx qC):=⟨rfl,rfl,rfl,by decide +kernel,rfl,by decide +kernel,by decide +kernel⟩
theorem Uy {CNoBase : Addr} {f f1 : Addr} {fd fd1 : FuncData} (D : Df K mg "check_base" qC ["thing"] f fd) (jf : Df K mg "is_base" Zi ["thing"] f1 fd1) (Zk : FnOk P w K mg base CX0 2 f1 fd1 ["thing"] Zy) (x_NoBase : Q3 K mg "NoBase" CNoBase) : FnOk P w K mg base (CX1 P w) 3 f fd ["thing"] (jU CNoBase):=by
 refine D.fn.ok1 Uv (fun vs H Q E h=>?_) (fun cdv A outer s H vs Q E hr h=>?_)
 ·obtain ⟨v,d,rfl,_⟩:=h; rfl
 ·obtain ⟨v,d,rfl,hd,kNo,kOk⟩:=h
  refine ⟨_,(zA (wK (je (uA (yc jf Zk (hr.mono (by decide)) (zf (pv 0) zg))))
    (zA (XD x_NoBase Xu rfl (zf V9 zg)))
    yM)),?_⟩
  refine ⟨_,rfl,v,d,rfl,hd,_,rfl,?_⟩
  cases hr : uI d with
  | false=>exact wR ⟨by show 1≤sizeLine; decide,kNo hr⟩
  | true=>exact wO (kOk hr)
def tZ (CNoNumber : Addr) : Sp:=fun vs H Q E=>∃ (v : V) (d : PyData),vs = [v]∧ThAt H d v∧(ZP d = false->E (.ref CNoNumber) none H)∧(ZP d = true->Q .non H)
theorem W6 : zK ["thing"] ["thing"] (zx ud):=⟨rfl,rfl,rfl,by decide +kernel,rfl,by decide +kernel,by decide +kernel⟩
theorem W5 {CNoNumber : Addr} {f f1 : Addr} {fd fd1 : FuncData} (D : Df K mg "check_number" ud ["thing"] f fd) (ZG : Df K mg "is_number" jB ["thing"] f1 fd1) (Y8 : FnOk P w K mg base CX0 2 f1 fd1 ["thing"] ZM) (x_NoNumber : Q3 K mg "NoNumber" CNoNumber) : FnOk P w K mg base (CX1 P w) 3 f fd ["thing"] (tZ CNoNumber):=by
 refine D.fn.ok1 W6 (fun vs H Q E h=>?_) (fun cdv A outer s H vs Q E hr h=>?_)
 ·obtain ⟨v,d,rfl,_⟩:=h; rfl
 ·obtain ⟨v,d,rfl,hd,kNo,kOk⟩:=h
  refine ⟨_,(zA (wK (je (uA (yc ZG Y8 (hr.mono (by decide)) (zf (pv 0) zg))))
    (zA (XD x_NoNumber Xu rfl (zf V9 zg)))
    yM)),?_⟩
  refine ⟨_,rfl,v,d,rfl,hd,_,rfl,?_⟩
  cases hr : ZP d with
  | false=>exact wR ⟨by show 1≤sizeLine; decide,kNo hr⟩
  | true=>exact wO (kOk hr)
theorem Xw {H : Hp} {d : PyData} {v : V} (h : ThAt H d v) (hb : uI d = true) : ∃ b : Nat,d = .int b∧v = .int b∧2≤b∧b≤16:=by
 cases d with
 | int i =>
  have hb : 2≤i∧i≤16:=of_decide_eq_true hb
  rw [ThAt] at h
  have e : ((i.toNat : Nat) : Int) = i:=by omega
  exact ⟨i.toNat,by rw [e],by rw [h,e],by omega,by omega⟩
 | _=>cases hb
theorem ze2 {H : Hp} {d : PyData} {v : V} (h : ThAt H d v) (hb : ZP d = true) : ∃ n : Nat,d = .int n∧v = .int n:=by
 cases d with
 | int i =>
  have hb : 0≤i:=of_decide_eq_true hb
  rw [ThAt] at h
  have e : ((i.toNat : Nat) : Int) = i:=by omega
  exact ⟨i.toNat,by rw [e],by rw [h,e]⟩
 | _=>cases hb
def vq (CNoBase CNoNumber : Addr) : Sp:=fun vs H Q E=>∃ (v u : V) (d e : PyData),vs = [v,u]∧ThAt H d v∧ThAt H e u∧(uI d = false->E (.ref CNoBase) none H)∧(uI d = true->ZP e = false->E (.ref CNoNumber) none H) ∧
 ∀ b n : Nat,d = .int b->2≤b->b≤16->e = .int n->n < 2 ^ 900∧∀ l H',H l = none->H' l = some (.lst ((figs b n).map V.int))->Same H H'->Q (.ref l) H'
theorem u9 : zK ["base","n","backwards","rest"] ["base","n"] (zx wZ):=⟨rfl,rfl,rfl,by decide +kernel,rfl,by decide +kernel,by decide +kernel⟩
theorem UT {CNoBase CNoNumber : Addr} {f f1 f2 : Addr} {fd fd1 fd2 : FuncData} (D : Df K mg "figures_of" wZ ["base","n"] f fd) (jL : Df K mg "check_base" qC ["thing"] f1 fd1) (Yk : FnOk P w K mg base (CX1 P w) 3 f1 fd1 ["thing"] (jU CNoBase))
  (uW : Df K mg "check_number" ud ["thing"] f2 fd2) (j4 : FnOk P w K mg base (CX1 P w) 3 f2 fd2 ["thing"] (tZ CNoNumber)) (T : Blt mg) : FnOk P w K mg base (CX1 P w) 4 f fd ["base","n"] (vq CNoBase CNoNumber):=by
 refine D.fn.ok1 u9 (fun vs H Q E h=>?_) (fun cdv A outer s H vs Q E hr h=>?_)
 ·obtain ⟨v,u,d,e,rfl,_⟩:=h; rfl
 ·obtain ⟨v,u,d,e,rfl,hd,he,kB,kN,kOk⟩:=h
  refine ⟨_,(zp (yQ (qZ jL Yk (hr.mono (by decide)) vU (zf (pv 0) zg)))
   (zp (yQ (qZ uW j4 (hr.mono (by decide)) vU (zf (pv 1) zg)))
   (zp (zJ (i:=2) u9.nd rfl (Or.inl rfl) (zO (zf (zE yu (pv 1) (pv 0)) zg)))
   (zp (zJ (i:=3) u9.nd rfl (Or.inl rfl) (zE vB (pv 1) (pv 0)))
   (zp (V3 PassesOwn.leaving (yE zal (pv 3) zm (yw _))
    (zp (yQ (Z6 PySem.F.plainAttrs_list PySem.F.slot_list_append PySem.F.type_list_append xR (pv 2) (zf (zE yu (pv 3) (pv 0)) zg)))
    (zA (zJ (i:=3) u9.nd rfl (Or.inl rfl) (zE vB (pv 3) (pv 0))))))
   (zA (zQ (zaO rfl rfl T.n_list rfl T.n_reversed (pv 2))))))))),?_⟩
  refine ⟨_,rfl,v,d,rfl,hd,kB,fun hb=>?_⟩
  refine ⟨_,rfl,u,e,rfl,he,kN hb,fun hn'=>?_⟩
  obtain ⟨b,rfl,rfl,h2,h16⟩:=Xw hd hb
  obtain ⟨n,rfl,rfl⟩:=ze2 he hn'
  obtain ⟨hn,k⟩:=kOk b n rfl h2 h16 rfl
  refine ⟨_,rfl,_,rfl,_,_,rfl,rfl,(by omega : (0 : Int) < b),(by decide : 1≤sizeLine),fun l hl=>?_⟩
  refine ⟨_,rfl,_,rfl,_,_,rfl,rfl,⟨by omega,by omega⟩,?_⟩
  have hlen:=j7 h2 900 n hn
  refine Vg (fun σ H2=>∃ (r : Nat) (L : List Int),σ = [some (.int b),some (.int n),some (.ref l),some (.int r)]∧H2 l = some (.lst (L.map V.int))∧Same H H2∧figs b n = ahead b r ++ L.reverse)
   (fun σ _=>match σ with | [_,_,_,some (.int r)]=>r.toNat | _=>0) ?_ ?_ ?_
  ·refine ⟨n / b,[((n % b : Nat) : Int)],?_,?_,zq hl,?_⟩
   ·rfl
   ·rw [zj]; simp
   ·rw [Qj h2]; simp
  ·rintro σ H2 ⟨r,L,rfl,hL,sH,he⟩
   refine ⟨_,rfl,_,_,rfl,rfl,_,rfl,?_⟩
   refine zaQ (fun h1=>?_) (fun h1=>?_)
   ·have hr0 : 0 < r:=by have:=of_decide_eq_true h1; omega
    have hLl : L.length≤901:=by
     have:=congrArg List.length he
     rw [List.length_append,List.length_reverse] at this
     omega
    refine ⟨_,rfl,.inl ⟨rfl,_,SqL.of hL⟩,_,rfl,_,rfl,_,_,rfl,rfl,(by omega : (0 : Int) < b),l,_,_,rfl,rfl,hL,by rw [List.length_map]; exact Nat.lt_of_le_of_lt hLl (by decide),?_⟩
    refine ⟨_,rfl,_,rfl,_,_,rfl,rfl,⟨by omega,by omega⟩,?_⟩
    refine ⟨⟨r / b,L ++ [((r % b : Nat) : Int)],?_,?_,?_,?_⟩,?_⟩
    ·simp
    ·rw [zj]; simp
    ·exact fun b' o e=>by rw [zy (zB e hl)]; exact sH b' o e
    ·rw [he,za0 h2 hr0,List.reverse_append]; simp
    ·show ((r : Int) / (b : Int)).toNat < (r : Int).toNat
     have : r / b < r:=Nat.div_lt_self hr0 (by omega)
     omega
   ·have hr0 : r = 0:=by
     by_cases z : r = 0
     ·exact z
     ·exact absurd (decide_eq_true (by omega : (0 : Int) < r)) h1
    subst hr0
    refine ⟨_,rfl,l,_,rfl,SqL.of hL,fun q hq=>?_⟩
    have hlq : q ≠ l:=fun z=>by rw [z,hL] at hq; cases hq
    refine k q _ (sH.free hq) ?_ (sH.trans (zq hq))
    rw [zj,he]
    simp [ahead]
  ·intro σ H2 Q Q' hq
   rintro ⟨v,e,i,j,e1,e2,k,e3,q⟩
   exact ⟨v,e,i,j,e1,e2,k,e3,hq _ _ q⟩
end
theorem zfI {c : Bool} {A B : Prop} (hc : c = true) (h : A) : if c = true then A else B:=by rw [hc]; exact wR h
theorem zfK {c : Bool} {A B : Prop} (hc : c = false) (h : B) : if c = true then A else B:=by rw [hc]; exact wO h
section
variable {P : Program} {w : World} {K : PySem.W.Frag} {mg : Str->Option Value} {base : Heap} {T0 C CS : Addr}
def zeB (T0 C CS : Addr) (b : Nat) (ls : List (List Int)) (wt : Nat->Nat) (sc sz : Nat) (H : Hp) (x : Addr) (H' : Hp) : Prop:=∃ (tl la wa l2 : Addr) (ws : List (List Int)) (L : Nat),TotAt C CS H' x tl la wa l2 b ls ws L wt sc sz (sz + 1)∧GoodT b ls ws∧L≤801∧SameL T0 H H'∧LT T0 H'∧H la = none∧H l2 = none
theorem Qq {r : Addr} {b : Nat} {bl : Addr} {zs : List (Addr × List Int)} {wl : Addr} {wt : Nat->Nat} {sc sz : Nat} {H : Hp} (R : RuleAt H r b bl zs) (g : yC b (zs.map (·.2))) (hT : LT T0 H) (hwl : H wl = some (.lst ((wA b wt sc 0).map V.int))) (hsc : sc≤16) (hsz : sz≤800) (hwt : ∀ c,c < b->wt c < 2 ^ 64) {R' : Addr->Hp->Prop} (k : ∀ x H',zeB T0 C CS b (zs.map (·.2)) wt sc sz H x H'->R' x H') :
  ∀ x dx,H x = none->H dx = none->dx ≠ x->qP T0 C CS (.ref x :: ([.ref r,.ref wl,.int (sc : Nat),.int (sz : Nat)] ++ [])) (upd (upd H dx (.own x)) x (.ins CS dx [])) (fun v H2=>v = .non∧R' x H2) E0:=by
 intro x dx nx ndx nex
 have s0:=QV (C:=CS) nx ndx
 refine ⟨x,dx,r,b,bl,zs,wl,wt,sc,sz,rfl,zj,R.same s0,g,hT.same s0,s0 _ _ hwl,hsc,hsz,hwt,fun tl la wa l2 ws L H' TT G hL fr hT' hla hl2=>⟨rfl,k x H' ⟨tl,la,wa,l2,ws,L,TT,G,hL,fun c o hc e=>fr c o (zB e nx) hc (s0 c o e),hT',s0.free hla,s0.free hl2⟩⟩⟩
theorem Vt {Q : VK} {b n : Nat} {ls : List (List Int)} {wt : Nat->Nat} {sc : Nat} {H H2 H3 : Hp} {x fa : Addr} (hsc : sc≤16) (hwt : ∀ c,c < b->wt c < 2 ^ 64) (hn : n < 2 ^ 800) (M : zeB T0 C CS b ls wt sc (figs b n).length H2 x H3) (hfa : H2 fa = some (.lst ((figs b n).map V.int))) (hT2 : LT T0 H2) (hs : SameL T0 H H2) (hfr : ∀ c,H2 c = none->H c = none) (kk : ∀ H',SameL T0 H H'->LT T0 H'->Q (.int ((tot (gd ls b) (fw wt sc b) n : Nat) : Int)) H') : ∃ dx fs,H3 x = some (.ins CS dx fs)∧fs.lookup ("total_below" : Str) = none∧xP C CS [.ref x,.ref fa] H3 Q E0:=by
 obtain ⟨tl,la,wa,l2,ws,L,TT,G,hL,sL,hT3,hla,hl2⟩:=M
 obtain ⟨dx,hp⟩:=TT.obj
 have fala : fa ≠ la:=zB hfa hla
 refine ⟨dx,_,hp,Yw _ _ _,x,tl,la,wa,l2,b,ls,ws,L,wt,sc,_,_,fa,n,rfl,TT,G,hL,rfl,rfl,hsc,hwt,?_,hn,fun L' H' hL' TT' m' hL2=>?_⟩
 ·rw [zX (by simpa using fala)]
  exact sL _ _ (hT2.lst hfa) hfa
 ·obtain ⟨xs,hx⟩:=TT.ta.la
  exact kk H' (zbV (hs.trans sL) (hfr la hla) m') (hT3.off hx m')
theorem QG {b : Nat} {ls : List (List Int)} (g : yC b ls) (z : uI (.int b) = false) : False:=by
 have q : decide (2≤(b : Int)∧(b : Int)≤16) = false:=z
 rw [decide_eq_true (by have:=g.b2; have:=g.b16; omega)] at q; cases q
theorem zfj {H : Hp} {d : PyData} {v : V} {b : Nat} (h : ThAt H d v) (hb : Zj b d = true) : ∃ c : Nat,d = .int c∧v = .int c∧c < b:=by
 cases d with
 | int i =>
  have hb : 0≤i∧i < (b : Int):=of_decide_eq_true hb
  rw [ThAt] at h
  have e : ((i.toNat : Nat) : Int) = i:=by omega
  exact ⟨i.toNat,by rw [e],by rw [h,e],by omega⟩
 | _=>cases hb
def YC (T0 CNoRule CNoNumber : Addr) : Sp:=fun vs H Q E=>∃ (v u : V) (d e : PyData),vs = [v,u]∧ThAt H d v∧ThAt H e u∧jY d≤100000∧LT T0 H∧(xV d = false->∀ H',Same H H'->E (.ref CNoRule) none H') ∧
 (xV d = true->ZP e = false->∀ H',Same H H'->E (.ref CNoNumber) none H')∧∀ n : Nat,xV d = true->e = .int n->n < 2 ^ 700∧∀ v H',SameL T0 H H'->LT T0 H'->Q v H'
def Wm (T0 CNoRule CNoNumber CNoFigures : Addr) : Sp:=fun vs H Q E=>∃ (v u y : V) (d e c : PyData),vs = [v,u,y]∧ThAt H d v∧ThAt H e u∧ThAt H c y∧jY d≤100000∧LT T0 H∧(xV d = false->∀ H',Same H H'->E (.ref CNoRule) none H') ∧
 (xV d = true->ZP e = false->∀ H',Same H H'->E (.ref CNoNumber) none H')∧(∀ (n b : Nat) (r bl : Addr) (zs : List (Addr × List Int)),xV d = true->e = .int n->v = .ref r->RuleAt H r b bl zs->Zj b c = false->∀ H',Same H H'->E (.ref CNoFigures) none H') ∧
 ∀ n : Nat,xV d = true->e = .int n->n < 2 ^ 700∧∀ (b : Nat) (r bl : Addr) (zs : List (Addr × List Int)),v = .ref r->RuleAt H r b bl zs->Zj b c = true->∀ v' H',SameL T0 H H'->LT T0 H'->Q v' H'
theorem wid {b : Nat} (b16 : b≤16) : ∀ c,c < b->(fun c : Nat=>c) c < 2 ^ 64:=fun c hc=>Nat.lt_of_lt_of_le (show c < 16 by omega) (by decide)
theorem Xq : zK ["rule","n","figures"] ["rule","n"] (zx ju):=⟨rfl,rfl,rfl,by decide +kernel,rfl,by decide +kernel,by decide +kernel⟩
theorem QW {CNoBase CNoRule CNoNumber : Addr} {f f1 f2 f3 f4 : Addr} {fd fd1 fd2 fd3 fd4 : FuncData} (D : Df K mg "sum_below" ju ["rule","n"] f fd) (yV : Df K mg "check_rule" wV ["thing"] f1 fd1) (xu : FnOk P w K mg base (CX1 P w) 7 f1 fd1 ["thing"] (vC CNoRule)) (yU : Df K mg "figures_of" wZ ["base","n"] f2 fd2) (xG : FnOk P w K mg base (CX1 P w) 4 f2 fd2 ["base","n"] (vq CNoBase CNoNumber))
  (vZ : Df K mg "number_totals" vI ["rule","size"] f3 fd3) (qY : FnOk P w K mg base CX0 11 f3 fd3 ["rule","size"] (uM T0 C CS)) (zW : Mt K CS "Totals.total_below" "total_below" yp ["self","figures"] f4 fd4) (ye : FnOk P w K mg base CX0 4 f4 fd4 ["self","figures"] (xP C CS)) (zH : ClS K mg CS) (T : Blt mg) : FnOk P w K mg base (CX1 P w) 12 f fd ["rule","n"] (YC T0 CNoRule CNoNumber):=by
 refine D.fn.ok1 Xq (fun vs H Q E h=>?_) (fun cdv A outer s H vs Q E hr h=>?_)
 ·obtain ⟨v,u,d,e,rfl,_⟩:=h; rfl
 ·obtain ⟨v,u,d,e,rfl,hd,he,hs,hT,kR,kN,kOk⟩:=h
  refine ⟨_,(zp (yQ (qZ yV xu (hr.mono (by decide)) vU (zf (pv 0) zg)))
   (zp (zJ (i:=2) Xq.nd rfl (Or.inl rfl) (qZ yU xG (hr.mono (by decide)) vU (zf (zY (ux K) (pv 0) zm (fun _ _=>rfl)) (zf (pv 1) zg))))
   (zA (zQ (Yb zW zH.cl ye (hr.mono (by decide)) (yc vZ qY (hr.mono (by decide)) (zf (pv 0) (zf (zF (xX K) (by rfl) T.n_len PySem.boot_len (zf (pv 2) zg)) zg))) (zf (pv 2) zg)))))),?_⟩
  refine ⟨_,rfl,v,d,rfl,hd,hs,kR,fun hr H1 m1=>?_⟩
  obtain ⟨r,b,bl,zs,rfl,R,g⟩:=Jt hd hr
  have b2:=g.b2
  have b16:=g.b16
  have R1:=R.same m1
  refine ⟨_,rfl,r,_,_,V.int b,rfl,rfl,SqT.of R1.tu,rfl,_,rfl,.int b,u,.int b,e,rfl,by rw [ThAt],he.same m1,fun z=>(QG g z).elim,fun _ hn'=>kN hr hn' H1 m1,fun b' n eb h2 h16 en=>?_⟩
  obtain rfl : b = b':=by injection eb with eb; omega
  subst en
  obtain ⟨hn,kk⟩:=kOk n hr rfl
  obtain rfl : u = .int n:=by rw [ThAt] at he; exact he
  have hlen : (figs b n).length≤800:=by have:=j7 b2 700 n hn; omega
  have hn8 : n < 2 ^ 800:=Nat.lt_of_lt_of_le hn (Nat.pow_le_pow_right (by decide) (by decide))
  refine ⟨Nat.lt_of_lt_of_le hn (Nat.pow_le_pow_right (by decide) (by decide)),fun fa H2 hfa hv s2=>?_⟩
  have m2:=m1.trans s2
  refine ⟨_,rfl,_,rfl,fa,_,rfl,.inl (SqL.of hv),r,b,bl,zs,(figs b n).length,by rw [List.length_map]; rfl,R.same m2,g,hT.same m2,hlen,fun x tl la wa l2 ws L H3 TT G hL sL hT3 hla hl2=>?_⟩
  obtain ⟨dx,fs,e1,e2,e3⟩:=Vt (T0:=T0) (Q:=Q) (H:=H) (n:=n) (fa:=fa) b16 (wid b16) hn8 ⟨tl,la,wa,l2,ws,L,TT,G,hL,sL,hT3,hla,hl2⟩ hv (hT.same m2) (SameL.of m2) (fun c hc=>m2.free hc) (fun H' s' hT'=>kk _ H' s' hT')
  exact ⟨x,dx,fs,rfl,e1,e2,_,rfl,e3⟩
theorem JC (b : Nat) (w : Nat->Nat) : (wA b w 1 0).map V.int = (List.range b).map fun (c : Nat)=>V.int (w c : Nat):=by
 unfold wA
 rw [List.map_map]
 apply List.map_congr_left
 intro c _
 show V.int ((1 ^ 0 * w c : Nat) : Int) = V.int (w c : Int)
 rw [Nat.pow_zero,Nat.one_mul]
theorem j5 : zK ["rule","n","figures"] ["rule","n"] (zx vJ):=⟨rfl,rfl,rfl,by decide +kernel,rfl,by decide +kernel,by decide +kernel⟩
theorem Wj {CNoBase CNoRule CNoNumber : Addr} {f f1 f2 f3 f4 : Addr} {fd fd1 fd2 fd3 fd4 : FuncData} (D : Df K mg "figures_below" vJ ["rule","n"] f fd) (yV : Df K mg "check_rule" wV ["thing"] f1 fd1) (xu : FnOk P w K mg base (CX1 P w) 7 f1 fd1 ["thing"] (vC CNoRule)) (yU : Df K mg "figures_of" wZ ["base","n"] f2 fd2) (xG : FnOk P w K mg base (CX1 P w) 4 f2 fd2 ["base","n"] (vq CNoBase CNoNumber))
  (qD : Mk K CS f3) (qF : Binds K fd3 ["self","rule","weights","scale","size"] []) (yP : FnOk P w K mg base CX0 9 f3 fd3 ["self","rule","weights","scale","size"] (qP T0 C CS)) (zW : Mt K CS "Totals.total_below" "total_below" yp ["self","figures"] f4 fd4) (ye : FnOk P w K mg base CX0 4 f4 fd4 ["self","figures"] (xP C CS)) (zH : ClS K mg CS) (T : Blt mg) : FnOk P w K mg base (CX1 P w) 12 f fd ["rule","n"] (YC T0 CNoRule CNoNumber):=by
 refine D.fn.ok1 j5 (fun vs H Q E h=>?_) (fun cdv A outer s H vs Q E hr h=>?_)
 ·obtain ⟨v,u,d,e,rfl,_⟩:=h; rfl
 ·obtain ⟨v,u,d,e,rfl,hd,he,hs,hT,kR,kN,kOk⟩:=h
  refine ⟨_,(zp (yQ (qZ yV xu (hr.mono (by decide)) vU (zf (pv 0) zg)))
   (zp (zJ (i:=2) j5.nd rfl (Or.inl rfl) (qZ yU xG (hr.mono (by decide)) vU (zf (zY (ux K) (pv 0) zm (fun _ _=>rfl)) (zf (pv 1) zg))))
   (zA (zQ (Yb zW zH.cl ye (hr.mono (by decide)) (Vd qD yP (hr.mono (by decide)) rfl zH.nm qF .nil Qp (zf (pv 0) (zf (XF rfl rfl T.n_list rfl T.n_range (zY (ux K) (pv 0) zm (fun _ _=>rfl))) (zf zm (zf (zF (xX K) (by rfl) T.n_len PySem.boot_len (zf (pv 2) zg)) zg))))) (zf (pv 2) zg)))))),?_⟩
  refine ⟨_,rfl,v,d,rfl,hd,hs,kR,fun hr H1 m1=>?_⟩
  obtain ⟨r,b,bl,zs,rfl,R,g⟩:=Jt hd hr
  have b2:=g.b2
  have b16:=g.b16
  have R1:=R.same m1
  refine ⟨_,rfl,r,_,_,V.int b,rfl,rfl,SqT.of R1.tu,rfl,_,rfl,.int b,u,.int b,e,rfl,by rw [ThAt],he.same m1,fun z=>(QG g z).elim,fun _ hn'=>kN hr hn' H1 m1,fun b' n eb h2 h16 en=>?_⟩
  obtain rfl : b = b':=by injection eb with eb; omega
  subst en
  obtain ⟨hn,kk⟩:=kOk n hr rfl
  obtain rfl : u = .int n:=by rw [ThAt] at he; exact he
  have hlen : (figs b n).length≤800:=by have:=j7 b2 700 n hn; omega
  have hn8 : n < 2 ^ 800:=Nat.lt_of_lt_of_le hn (Nat.pow_le_pow_right (by decide) (by decide))
  refine ⟨Nat.lt_of_lt_of_le hn (Nat.pow_le_pow_right (by decide) (by decide)),fun fa H2 hfa hv s2=>?_⟩
  have R2:=R1.same s2
  refine ⟨_,rfl,_,rfl,r,_,_,V.int b,rfl,rfl,SqT.of R2.tu,rfl,b,rfl,by omega,fun q hq=>?_⟩
  have m3:=(m1.trans s2).trans (zq hq (o:=.lst ((List.range b).map fun (c : Nat)=>V.int c)))
  have hv3:=zq hq (o:=.lst ((List.range b).map fun (c : Nat)=>V.int c)) _ _ hv
  have hwl : upd H2 q (.lst ((List.range b).map fun (c : Nat)=>V.int c)) q = some (.lst ((wA b (fun c=>c) 1 0).map V.int)):=by rw [zj,JC]
  generalize upd H2 q (.lst ((List.range b).map fun (c : Nat)=>V.int c)) = H3 at m3 hv3 hwl
  refine ⟨_,rfl,fa,_,rfl,.inl (SqL.of hv3),?_⟩
  rw [List.length_map]
  refine Qq (sc:=1) (R.same m3) g (hT.same m3) hwl (by decide) hlen (wid b16) ?_
  intro x H4 M
  obtain ⟨dx,fs,e1,e2,e3⟩:=Vt (T0:=T0) (Q:=Q) (H:=H) (n:=n) (fa:=fa) (by decide) (wid b16) hn8 M hv3 (hT.same m3) (SameL.of m3) (fun c hc=>m3.free hc) (fun H' s' hT'=>kk _ H' s' hT')
  exact ⟨x,dx,fs,rfl,e1,e2,_,rfl,e3⟩
theorem jm : zK ["rule","n","figure","figures","weights"] ["rule","n","figure"] (zx vD):=⟨rfl,rfl,rfl,by decide +kernel,rfl,by decide +kernel,by decide +kernel⟩
theorem VD {CNoBase CNoRule CNoNumber CNoFigures : Addr} {f f1 f2 f3 f4 f5 : Addr} {fd fd1 fd2 fd3 fd4 fd5 : FuncData} (D : Df K mg "often_below" vD ["rule","n","figure"] f fd) (yV : Df K mg "check_rule" wV ["thing"] f1 fd1) (xu : FnOk P w K mg base (CX1 P w) 7 f1 fd1 ["thing"] (vC CNoRule)) (yU : Df K mg "figures_of" wZ ["base","n"] f2 fd2) (xG : FnOk P w K mg base (CX1 P w) 4 f2 fd2 ["base","n"] (vq CNoBase CNoNumber)) (vN : Df K mg "is_figure" tO ["base","thing"] f5 fd5) (uV : FnOk P w K mg base CX0 2 f5 fd5 ["base","thing"] qJ) (x_NoFigures : Q3 K mg "NoFigures" CNoFigures)
  (qD : Mk K CS f3) (qF : Binds K fd3 ["self","rule","weights","scale","size"] []) (yP : FnOk P w K mg base CX0 9 f3 fd3 ["self","rule","weights","scale","size"] (qP T0 C CS)) (zW : Mt K CS "Totals.total_below" "total_below" yp ["self","figures"] f4 fd4) (ye : FnOk P w K mg base CX0 4 f4 fd4 ["self","figures"] (xP C CS)) (zH : ClS K mg CS) (T : Blt mg) : FnOk P w K mg base (CX1 P w) 12 f fd ["rule","n","figure"] (Wm T0 CNoRule CNoNumber CNoFigures):=by
 refine D.fn.ok1 jm (fun vs H Q E h=>?_) (fun cdv A outer s H vs Q E hr h=>?_)
 ·obtain ⟨v,u,y,d,e,c,rfl,_⟩:=h; rfl
 ·obtain ⟨v,u,y,d,e,dc,rfl,hd,he,hy,hs,hT,kR,kN,kF,kOk⟩:=h
  refine ⟨_,(zp (yQ (qZ yV xu (hr.mono (by decide)) vU (zf (pv 0) zg)))
   (zp (zJ (i:=3) jm.nd rfl (Or.inl rfl) (qZ yU xG (hr.mono (by decide)) vU (zf (zY (ux K) (pv 0) zm (fun _ _=>rfl)) (zf (pv 1) zg))))
   (zp (wK (je (uA (yc vN uV (hr.mono (by decide)) (zf (zY (ux K) (pv 0) zm (fun _ _=>rfl)) (zf (pv 2) zg)))))
    (zA (XD x_NoFigures Xu rfl (zf V9 zg)))
    yM)
   (zp (Zr (i:=4) (show CScope (zx vD) _ "each" ["rule","n","figure","figures","weights"] ["figure"] [2] from ⟨rfl,by decide +kernel,by decide +kernel,rfl,by decide +kernel,rfl,by decide +kernel,by decide +kernel⟩) rfl jm.nd rfl (Or.inl rfl) (yg rfl T.n_range (zf (zY (ux K) (pv 0) zm (fun _ _=>rfl)) zg)) (fun _ _ _ _=>xM) (fun _ _ _ _=>(JT (yE Vn (pv 0) (pv 1) (yw _)) zm zm)))
   (zA (zQ (Yb zW zH.cl ye (hr.mono (by decide)) (Vd qD yP (hr.mono (by decide)) rfl zH.nm qF .nil Qp (zf (pv 0) (zf (pv 4) (zf zm (zf (zF (xX K) (by rfl) T.n_len PySem.boot_len (zf (pv 3) zg)) zg))))) (zf (pv 3) zg)))))))),?_⟩
  refine ⟨_,rfl,v,d,rfl,hd,hs,kR,fun hr H1 m1=>?_⟩
  obtain ⟨r,b,bl,zs,rfl,R,g⟩:=Jt hd hr
  have b2:=g.b2
  have b16:=g.b16
  have R1:=R.same m1
  refine ⟨_,rfl,r,_,_,V.int b,rfl,rfl,SqT.of R1.tu,rfl,_,rfl,.int b,u,.int b,e,rfl,by rw [ThAt],he.same m1,fun z=>(QG g z).elim,fun _ hn'=>kN hr hn' H1 m1,fun b' n eb h2 h16 en=>?_⟩
  obtain rfl : b = b':=by injection eb with eb; omega
  subst en
  have hnum : ZP (.int n) = true:=by show decide (0≤(n : Int)) = true; exact decide_eq_true (by omega)
  have hn : n < 2 ^ 700:=(kOk n hr rfl).1
  obtain rfl : u = .int n:=by rw [ThAt] at he; exact he
  have hlen : (figs b n).length≤800:=by have:=j7 b2 700 n hn; omega
  have hn8 : n < 2 ^ 800:=Nat.lt_of_lt_of_le hn (Nat.pow_le_pow_right (by decide) (by decide))
  refine ⟨Nat.lt_of_lt_of_le hn (Nat.pow_le_pow_right (by decide) (by decide)),fun fa H2 hfa hv s2=>?_⟩
  have R2:=R1.same s2
  have m12:=m1.trans s2
  refine ⟨_,rfl,r,_,_,V.int b,rfl,rfl,SqT.of R2.tu,rfl,_,rfl,(b : Int),y,dc,rfl,hy.same m12,_,rfl,?_⟩
  cases hfc : Zj b dc with
  | false=>exact wR ⟨by show 1≤sizeLine; decide,kF n b r bl zs hr rfl rfl R hfc H2 m12⟩
  | true =>
  obtain ⟨c,rfl,rfl,hcb⟩:=zfj hy hfc
  have kk:=(kOk n hr rfl).2 b r bl zs rfl R hfc
  refine wO ?_
  refine ⟨_,rfl,r,_,_,V.int b,rfl,rfl,SqT.of R2.tu,rfl,(b : Int),rfl,by omega,by omega,wL (lo:=0) (n:=(b : Int).toNat) (fun j ys Hc=>Hc = H2∧ys = (List.range j).map fun (d : Nat)=>V.int (one c d : Nat)) ⟨rfl,rfl⟩ ?_ ?_⟩
  ·rintro j ys Hc hj ⟨rfl,rfl⟩
   refine ⟨by rw [List.length_map,List.length_range]; exact Nat.lt_of_lt_of_le (show j < 17 by omega) (by decide),?_⟩
   unfold Ye
   dsimp only
   rw [if_pos rfl]
   refine ⟨_,rfl,_,rfl,rfl,_,rfl,?_⟩
   by_cases e : j = c
   ·subst e
    refine zfI (by simp) ⟨rfl,?_⟩
    rw [List.range_succ,List.map_append]
    simp [one]
   ·refine zfK (by simp; omega) ⟨rfl,?_⟩
    rw [List.range_succ,List.map_append]
    simp [one,e]
  rintro ys Hc ⟨rfl,rfl⟩ q hq
  have m3:=(m1.trans s2).trans (zq hq (o:=.lst ((List.range (b : Int).toNat).map fun (d : Nat)=>V.int (one c d : Nat))))
  have hv3:=zq hq (o:=.lst ((List.range (b : Int).toNat).map fun (d : Nat)=>V.int (one c d : Nat))) _ _ hv
  have hwl : upd Hc q (.lst ((List.range (b : Int).toNat).map fun (d : Nat)=>V.int (one c d : Nat))) q = some (.lst ((wA b (one c) 1 0).map V.int)):=by rw [zj,JC,Int.toNat_natCast]
  generalize upd Hc q (.lst ((List.range (b : Int).toNat).map fun (d : Nat)=>V.int (one c d : Nat))) = H3 at m3 hv3 hwl
  have hone : ∀ d,d < b->one c d < 2 ^ 64:=fun d _=>by unfold one; split <;> decide
  refine ⟨_,rfl,_,rfl,_,rfl,fa,_,rfl,.inl (SqL.of hv3),?_⟩
  rw [List.length_map]
  refine Qq (sc:=1) (R.same m3) g (hT.same m3) hwl (by decide) hlen hone ?_
  intro x H4 M
  obtain ⟨dx,fs,e1,e2,e3⟩:=Vt (T0:=T0) (Q:=Q) (H:=H) (n:=n) (fa:=fa) (by decide) hone hn8 M hv3 (hT.same m3) (SameL.of m3) (fun c hc=>m3.free hc) (fun H' s' hT'=>kk _ H' s' hT')
  exact ⟨x,dx,fs,rfl,e1,e2,_,rfl,e3⟩
end
theorem zcd {c : Bool} {A B : Prop} (hc : c = false) (h : B) : if c = true then A else B:=by rw [hc]; exact wO h
theorem zfU {c : Bool} {A B : Prop} (hc : c = true) (h : A) : if c = true then A else B:=by rw [hc]; exact wR h
theorem Ul {i j : Int} (h : ¬ i = j) : decide (V.int i = V.int j) = false:=decide_eq_false (fun z=>h (by injection z))
theorem LT.dk {T : Addr} {H : Hp} (h : LT T H) {b : Addr} {kvs : List (Key × V)} (e : H b = some (.dK kvs)) : b ≠ T:=fun z=>by
 rw [z] at e
 rcases h with h | ⟨c,h,_⟩
 ·rw [h] at e; cases e
 ·rw [h] at e; cases e
mutual
theorem JG {T : Addr} {H H' : Hp} (lt : LT T H) (m : SameL T H H') : ∀ {d : PyData} {v : V},ThAt H d v->ThAt H' d v
 | .none,v,h=>by rw [ThAt] at h ⊢; exact h
 | .bool b,v,h=>by rw [ThAt] at h ⊢; exact h
 | .int i,v,h=>by rw [ThAt] at h ⊢; exact h
 | .str x,v,h=>by rw [ThAt] at h ⊢; exact h
 | .list xs,v,h=>by
  rw [ThAt] at h ⊢
  obtain ⟨a,ys,h1,h2,h3⟩:=h
  exact ⟨a,ys,h1,m _ _ (lt.lst h2) h2,Wf lt m h3⟩
 | .tuple xs,v,h=>by
  rw [ThAt] at h ⊢
  obtain ⟨a,ys,h1,h2,h3⟩:=h
  exact ⟨a,ys,h1,m _ _ (lt.tup h2) h2,Wf lt m h3⟩
 | .dict kvs,v,h=>by
  rw [ThAt] at h ⊢
  obtain ⟨h0,a,h1,h2⟩:=h
  exact ⟨h0,a,h1,m _ _ (lt.dk h2) h2⟩
theorem Wf {T : Addr} {H H' : Hp} (lt : LT T H) (m : SameL T H H') : ∀ {ds : List PyData} {ys : List V},ThsAt H ds ys->ThsAt H' ds ys
 | [],ys,h=>by rw [ThsAt] at h ⊢; exact h
 | d :: ds,ys,h=>by
  rw [ThsAt] at h ⊢
  obtain ⟨y,zs,h1,h2,h3⟩:=h
  exact ⟨y,zs,h1,JG lt m h2,Wf lt m h3⟩
end
end Lw
namespace Lw
open PySem L2 PyProof.Rows
structure Sto2 (H : Hp) (s dr : Addr) (ds : List Int) : Prop where
 st : ∃ i : Int,H s = some (.lst [.ref dr,.int i])
 dr : H dr = some (.lst (ds.map V.int))
 ne : ds ≠ []
 len : ds.length≤2000
 nn : ∀ d ∈ ds,0≤d∧d < 10007
theorem Sto2.nes {H : Hp} {s dr p : Addr} {ds : List Int} (S : Sto2 H s dr ds) (h : H p = none) : p ≠ s:=fun z=>by
 obtain ⟨i,e⟩:=S.st
 rw [z,e] at h; cases h
theorem Sto2.ned {H : Hp} {s dr : Addr} {ds : List Int} (S : Sto2 H s dr ds) : dr ≠ s:=fun z=>by
 obtain ⟨i,e⟩:=S.st
 have h:=S.dr
 rw [z,e] at h
 injection h with h
 injection h with h
 cases hd : ds with
 | nil=>exact S.ne hd
 | cons a l=>rw [hd,List.map_cons] at h; injection h with h1 _; cases h1
structure Stq2 (T s dr : Addr) (ds : List Int) (H H' : Hp) : Prop where
 st : Sto2 H' s dr ds
 sm : ∀ b o,b ≠ s->b ≠ T->H b = some o->H' b = some o
section
variable {T s dr p : Addr} {ds : List Int} {H H1 H2 H' : Hp} {o : HO}
theorem Stq2.refl (S : Sto2 H s dr ds) : Stq2 T s dr ds H H:=⟨S,fun _ _ _ _ e=>e⟩
theorem Stq2.trans (a : Stq2 T s dr ds H H1) (b : Stq2 T s dr ds H1 H2) : Stq2 T s dr ds H H2:=⟨b.st,fun c o h t e=>b.sm c o h t (a.sm c o h t e)⟩
theorem Sto2.sameL (S : Sto2 H s dr ds) (hT : LT T H) (m : SameL T H H') : Sto2 H' s dr ds:=by
 obtain ⟨i,e⟩:=S.st
 exact ⟨⟨i,m _ _ (hT.lst e) e⟩,m _ _ (hT.lst S.dr) S.dr,S.ne,S.len,S.nn⟩
theorem Sto2.same (S : Sto2 H s dr ds) (m : Same H H') : Sto2 H' s dr ds:=by
 obtain ⟨i,e⟩:=S.st
 exact ⟨⟨i,m _ _ e⟩,m _ _ S.dr,S.ne,S.len,S.nn⟩
theorem Stq2.same (a : Stq2 T s dr ds H H1) (m : Same H1 H2) : Stq2 T s dr ds H H2:=⟨a.st.same m,fun c o h t e=>m c o (a.sm c o h t e)⟩
theorem Stq2.sameL (a : Stq2 T s dr ds H H1) (hT : LT T H1) (m : SameL T H1 H2) : Stq2 T s dr ds H H2:=⟨a.st.sameL hT m,fun c o h t e=>m c o t (a.sm c o h t e)⟩
theorem Stq2.new (a : Stq2 T s dr ds H H1) (h : H1 p = none) : Stq2 T s dr ds H (upd H1 p o):=a.same (zq h)
theorem Stq2.put (a : Stq2 T s dr ds H H1) (hs : p ≠ s) (hd : p ≠ dr) (h : H p = none) : Stq2 T s dr ds H (upd H1 p o):=⟨by
 obtain ⟨i,e⟩:=a.st.st
 exact ⟨⟨i,by rw [zy (Ne.symm hs)]; exact e⟩,by rw [zy (Ne.symm hd)]; exact a.st.dr,a.st.ne,a.st.len,a.st.nn⟩,fun c u hc ht e=>by
  rw [zy (zB e h)]; exact a.sm c u hc ht e⟩
end
theorem RuleAt.q {T s dr r bl : Addr} {ds : List Int} {H H' : Hp} {b : Nat} {zs : List (Addr × List Int)} (R : RuleAt (aw [s] H) r b bl zs) (hT : LT T H) (S : Stq2 T s dr ds H H') : RuleAt (aw [s] H') r b bl zs:=by
 have go : ∀ c o,c ≠ T->aw [s] H c = some o->aw [s] H' c = some o:=fun c o ht e=>by
  have hc : c ∉ [s]:=fun hc=>by rw [jG hc] at e; cases e
  rw [zX hc] at e ⊢
  exact S.sm c o (fun z=>hc (by simp [z])) ht e
 have f : ∀ {c : Addr} {o : HO},aw [s] H c = some o->H c = some o:=fun e=>zN _ _ _ _ e
 exact ⟨go _ _ (hT.tup (f R.tu)) R.tu,go _ _ (hT.lst (f R.li)) R.li,fun z hz=>go _ _ (hT.lst (f (R.st z hz))) (R.st z hz)⟩
section
variable {P : Program} {w : World} {K : PySem.W.Frag} {mg : Str->Option Value} {base : Heap} {T0 : Addr}
def wk (T0 : Addr) : Sp:=fun vs H Q _=>∃ (s dr : Addr) (ds : List Int) (m : Nat),vs = [.ref s,.int m]∧Sto2 H s dr ds∧0 < m∧LT T0 H∧∀ (r : Nat) (H' : Hp),r < m->r < 10007->Stq2 T0 s dr ds H H'->LT T0 H'->Q (.int r) H'
theorem Jx : zK ["store","many"] ["store","many"] (zx xU):=⟨rfl,rfl,rfl,by decide +kernel,rfl,by decide +kernel,by decide +kernel⟩
theorem vY {f : Addr} {fd : FuncData} (D : Df K mg "_law_take" xU ["store","many"] f fd) (T : Blt mg) : FnOk P w K mg base CX0 1 f fd ["store","many"] (wk T0):=by
 refine D.fn.ok Jx (fun vs H Q E h=>?_) (fun cdv A outer s H vs Q E hr h=>?_)
 ·obtain ⟨s,dr,ds,m,rfl,_⟩:=h; rfl
 ·obtain ⟨sa,dr,ds,m,rfl,S,hm0,hT,kk⟩:=h
  obtain ⟨i,hs⟩:=S.st
  have nd:=S.ned
  refine ⟨_,(zp (zcH (zE yO (zY (yl K) (pv 0) zm (fun _ _=>rfl)) zm) (zeI (pv 0) zm set_list))
   (zA (zQ (zE yu (zY (yl K) (zY (yl K) (pv 0) zm (fun _ _=>rfl)) (zE yu (zE qd (zY (yl K) (pv 0) zm (fun _ _=>rfl)) zm) (zF (xX K) (by rfl) T.n_len PySem.boot_len (zf (zY (yl K) (pv 0) zm (fun _ _=>rfl)) zg))) (fun _ _=>rfl)) (pv 1))))),?_⟩
  refine ⟨_,rfl,sa,_,_,V.int i,rfl,rfl,SqL.of hs,rfl,_,_,rfl,rfl,_,rfl,sa,_,_,1,rfl,rfl,hs,rfl,?_⟩
  have hs1 : upd H sa (.lst [V.ref dr,V.int (i + 1)]) sa = some (.lst [V.ref dr,V.int (i + 1)]):=zj
  have hd1 : upd H sa (.lst [V.ref dr,V.int (i + 1)]) dr = some (.lst (ds.map V.int)):=by rw [zy nd]; exact S.dr
  have hdl : 0 < ds.length:=List.length_pos_iff.mpr S.ne
  refine ⟨_,rfl,sa,_,_,V.ref dr,rfl,rfl,SqL.of hs1,rfl,?_⟩
  refine ⟨_,rfl,sa,_,_,V.int (i + 1),rfl,rfl,SqL.of hs1,rfl,_,_,rfl,rfl,?_⟩
  refine ⟨_,rfl,sa,_,_,V.ref dr,rfl,rfl,SqL.of hs1,rfl,dr,_,rfl,.inl (SqL.of hd1),_,_,rfl,rfl,(by rw [List.length_map]; omega),?_⟩
  rw [List.length_map]
  have hj0 : 0≤(i + 1 - 1) % (ds.length : Int):=Int.emod_nonneg _ (by omega)
  have hj1 : (i + 1 - 1) % (ds.length : Int) < ds.length:=Int.emod_lt_of_pos _ (by omega)
  obtain ⟨j,hj⟩ : ∃ j : Nat,(i + 1 - 1) % (ds.length : Int) = (j : Int):=⟨((i + 1 - 1) % (ds.length : Int)).toNat,by omega⟩
  have hjl : j < ds.length:=by omega
  refine ⟨dr,_,_,V.int ds[j],rfl,rfl,SqL.of hd1,?_,_,rfl,_,_,rfl,rfl,(by omega : (0 : Int) < m),?_⟩
  ·show atI (ds.map V.int) ((i + 1 - 1) % (ds.length : Int)) = _
   rw [hj]
   exact yx (by rw [List.getElem?_map,List.getElem?_eq_getElem hjl]; rfl)
  have hn:=S.nn ds[j] (List.getElem_mem hjl)
  have h0 : 0≤ds[j] % (m : Int):=Int.emod_nonneg _ (by omega)
  have h1 : ds[j] % (m : Int) < m:=Int.emod_lt_of_pos _ (by omega)
  have h2 : ds[j] % (m : Int)≤ds[j]:=by
   have:=Int.mul_ediv_add_emod ds[j] (m : Int)
   have h3:=Int.mul_nonneg (show (0 : Int)≤m by omega) (Int.ediv_nonneg hn.1 (show (0 : Int)≤m by omega))
   omega
  obtain ⟨r,hr'⟩ : ∃ r : Nat,ds[j] % (m : Int) = (r : Int):=⟨(ds[j] % (m : Int)).toNat,by omega⟩
  show Q (V.int (ds[j] % (m : Int))) _
  rw [hr']
  refine kk r _ (by omega) (by omega) ⟨⟨⟨_,hs1⟩,hd1,S.ne,S.len,S.nn⟩,fun b o hb _ e=>by rw [zy hb]; exact e⟩ ?_
  have nT:=hT.lst hs
  rcases hT with h | ⟨c,h1,h2⟩
  ·exact .inl (by rw [zy (Ne.symm nT)]; exact h)
  ·exact .inr ⟨c,by rw [zy (Ne.symm nT)]; exact h1,by rw [zy (fun z=>by rw [z,hs] at h2; cases h2)]; exact h2⟩
structure Drw (H : Hp) (p : Addr) (ds : List Int) : Prop where
 li : H p = some (.lst (ds.map V.int))
 nn : ∀ d ∈ ds,0≤d∧d < 10007
def jV (K : PySem.W.Frag) : Sp:=fun vs H Q _=>∃ (a : Addr) (ns : List Int),vs = [.ref a,.int 900]∧SqL K H a (ns.map V.int)∧ns.length≤63∧∀ (p : Addr) (ds : List Int) (H' : Hp),H p = none->Drw H' p ds->ds ≠ []->ds.length≤2000->Same H H'->Q (.ref p) H'
theorem zV : zK ["script","many","drawn","base","k","cell","number","one"] ["script","many"] (zx qL):=⟨rfl,rfl,rfl,by decide +kernel,rfl,by decide +kernel,by decide +kernel⟩
theorem YX {f : Addr} {fd : FuncData} (D : Df K mg "_law_draws" qL ["script","many"] f fd) (T : Blt mg) (U : zb2 mg) : FnOk P w K mg base CX0 1 f fd ["script","many"] (jV K):=by
 refine D.fn.ok zV (fun vs H Q E h=>?_) (fun cdv A outer s H vs Q E hr h=>?_)
 ·obtain ⟨a,ns,rfl,_⟩:=h; rfl
 ·obtain ⟨a,ns,rfl,hS,hlen,kk⟩:=h
  refine ⟨_,(zp (zJ (i:=2) zV.nd rfl (Or.inl rfl) (zO zg))
   (zp (zJ (i:=3) zV.nd rfl (Or.inl rfl) zm)
   (zp (vM PassesOwn.never rfl (zbf K rfl T.n_enumerate (zf (yG (tV K) (pv 0) xO (xf zm)) zg)) (zaN rfl (Zh (yK (i:=4) zV.nd rfl (Or.inl rfl)) (Zh (yK (i:=5) zV.nd rfl (Or.inl rfl)) Qw)))
    (zp (zJ (i:=6) zV.nd rfl (Or.inl rfl) (zF zc7 (by rfl) U.n_abs boot_abs (zf (pv 5) zg)))
    (zp (zJ (i:=3) zV.nd rfl (Or.inl rfl) (zE yu (zE yO (zE qg (pv 3) zm) (pv 6)) zm))
    (zA (wK (yE zek (pv 6) (zE Vq zm zm) (yw _))
     (zA (V3 PassesOwn.never (PW.pt (zcu (yE zal (pv 6) zm (yw _)) (zbx (yE zel (zF (xX K) (by rfl) T.n_len PySem.boot_len (zf (pv 2) zg)) (pv 1) (yw _)))))
      (zp (yQ (Z6 PySem.F.plainAttrs_list PySem.F.slot_list_append PySem.F.type_list_append xR (pv 2) (zf (zE yu (pv 6) zm) zg)))
      (zA (zJ (i:=6) zV.nd rfl (Or.inl rfl) (zE vB (pv 6) zm))))))
     (zp (zJ (i:=7) zV.nd rfl (Or.inl rfl) (zE yu (zE qg (zE yO (zE yO (zE yu (pv 6) zm) (pv 4)) zm) zm) zm))
     (zp (zJ (i:=7) zV.nd rfl (Or.inl rfl) (zE yu (zE qg (pv 7) (pv 7)) zm))
     (zp (yQ (Z6 PySem.F.plainAttrs_list PySem.F.slot_list_append PySem.F.type_list_append xR (pv 2) (zf (zE yu (zE vB (pv 7) zm) zm) zg)))
     (zp (zJ (i:=7) zV.nd rfl (Or.inl rfl) (zE yu (zE yO (zE yO (zE qg (pv 7) zm) (zE qg zm (pv 4))) zm) zm))
     (zp (zJ (i:=7) zV.nd rfl (Or.inl rfl) (zE yu (zE qg (pv 7) (pv 7)) zm))
     (zA (yQ (Z6 PySem.F.plainAttrs_list PySem.F.slot_list_append PySem.F.type_list_append xR (pv 2) (zf (zE yu (zE vB (pv 7) zm) zm) zg))))))))))))))
   (zp (vM PassesOwn.never rfl (yg rfl T.n_range (zf (zE qd (pv 1) (zF (xX K) (by rfl) T.n_len PySem.boot_len (zf (pv 2) zg))) zg)) (yK (i:=4) zV.nd rfl (Or.inl rfl))
    (zp (zJ (i:=7) zV.nd rfl (Or.inl rfl) (zE yu (zE yO (zE yO (pv 3) (zE qg zm (pv 4))) zm) zm))
    (zp (zJ (i:=7) zV.nd rfl (Or.inl rfl) (zE yu (zE qg (pv 7) (pv 7)) zm))
    (zp (zJ (i:=7) zV.nd rfl (Or.inl rfl) (zE yu (zE yO (zE qg (pv 7) zm) (pv 4)) zm))
    (zA (yQ (Z6 PySem.F.plainAttrs_list PySem.F.slot_list_append PySem.F.type_list_append xR (pv 2) (zf (zE yu (zE vB (zE yu (zE qg (pv 7) (pv 7)) zm) zm) zm) zg))))))))
   (zA (zQ (pv 2))))))),?_⟩
  refine ⟨(by decide : 0≤sizeLine),fun dr hdr=>?_⟩
  have m1 : Same H (upd H dr (.lst [])):=zq hdr
  have add : ∀ {H2 : Hp} {ds : List Int} (y : Int),Drw H2 dr ds->Drw (upd H2 dr (.lst (ds.map V.int ++ [.int (y % 10007)]))) dr (ds ++ [y % 10007]):=fun {H2 ds} y Dr=>⟨by rw [zj]; simp,fun d hd=>by
   rcases List.mem_append.mp hd with hd | hd
   ·exact Dr.nn d hd
   ·have e : d = y % 10007:=by simpa using hd
    rw [e]
    exact ⟨Int.emod_nonneg _ (by decide),Int.emod_lt_of_pos _ (by decide)⟩⟩
  have smp : ∀ {H2 : Hp} {o : HO},Same H H2->Same H (upd H2 dr o):=fun m b o e=>by rw [zy (zB e hdr)]; exact m b o e
  refine ⟨_,rfl,_,rfl,a,_,rfl,m1.seq hS,fun q hq=>?_⟩
  have ecut : qw (ns.map V.int) none (some 63) = ns.map V.int:=by
   rw [show (63 : Int) = ((63 : Nat) : Int) from rfl,j9,List.take_of_length_le (by rw [List.length_map]; exact hlen)]
  rw [ecut]
  have m2:=m1.trans (zq hq (o:=.lst (ns.map V.int)))
  have ndq : dr ≠ q:=fun z=>by rw [← z,zj] at hq; cases hq
  refine ⟨q,rfl,⟨_,SqL.of zj⟩,J3 (K:=K) (a:=q) (xs:=ns.map V.int) (fun i σ H2=>∃ (v4 v5 v6 v7 : Option V) (bs : Int) (ds : List Int),σ = [some (.ref a),some (.int 900),some (.ref dr),some (.int bs),v4,v5,v6,v7]∧0≤bs∧bs < 2147483629∧Drw H2 dr ds∧ds.length≤900 + 2 * i∧Same H H2∧H2 q = some (.lst (ns.map V.int)))
   ⟨none,none,none,none,7,[],rfl,by decide,by decide,⟨by rw [zy ndq,zj]; rfl,by simp⟩,by simp,m2,zj⟩ (fun i σ H2 _ ⟨_,_,_,_,_,_,_,_,_,_,_,_,h⟩=>SqL.of h) ?_ ?_⟩
  ·rintro i x σ H2 T1 hx ⟨v4,v5,v6,v7,bs,ds,rfl,hb0,hb1,Dr,hdl,m,hq2⟩ hT1
   rw [List.getElem?_map] at hx
   obtain ⟨cell,hc,e⟩:=Option.map_eq_some_iff.mp hx
   subst e
   have hi : i < ns.length:=(List.getElem?_eq_some_iff.mp hc).1
   have t1:=zq hT1 (o:=.tup [.int (i : Nat),.int cell])
   refine ⟨T1,_,rfl,SqT.of zj,rfl,_,_,rfl,_,_,rfl,rfl,?_⟩
   have m3:=m.trans t1
   have Dr3 : Drw (upd H2 T1 (.tup [.int (i : Nat),.int cell])) dr ds:=⟨t1 _ _ Dr.li,Dr.nn⟩
   have hq3:=t1 _ _ hq2
   generalize upd H2 T1 (.tup [.int (i : Nat),.int cell]) = H3 at m3 Dr3 hq3
   have ndq3 : dr ≠ q:=ndq
   refine ⟨_,rfl,cell,rfl,?_⟩
   try dsimp only
   generalize hnum : (if cell < 0 then -cell else cell) = num
   have hn0 : 0≤num:=by rw [← hnum]; split <;> omega
   refine ⟨_,rfl,_,_,rfl,rfl,.inr ⟨by decide,by decide⟩,_,rfl,_,_,rfl,rfl,_,_,rfl,rfl,(by decide : (0 : Int) < 2147483629),?_⟩
   try dsimp only
   generalize hbs : (bs * 31 + num) % 2147483629 = bs'
   have hb0' : 0≤bs':=by rw [← hbs]; exact Int.emod_nonneg _ (by decide)
   have hb1' : bs' < 2147483629:=by rw [← hbs]; exact Int.emod_lt_of_pos _ (by decide)
   refine ⟨_,rfl,_,_,rfl,rfl,⟨by decide,by decide,by decide⟩,_,_,rfl,rfl,_,rfl,?_⟩
   generalize decide ((10 : Int) ^ (18 : Int).toNat≤num) = bb
   cases bb with
   | true =>
    refine wR ?_
    refine Vg (fun σ H4=>∃ (ds' : List Int) (nu : Int),σ = [some (.ref a),some (.int 900),some (.ref dr),some (.int bs'),some (.int (i : Nat)),some (.int cell),some (.int nu),v7]∧0≤nu∧Drw H4 dr ds'∧(ds'.length≤900∨ds'.length≤900 + 2 * i)∧Same H H4∧H4 q = some (.lst (ns.map V.int)))
     (fun σ _=>match σ with | [_,_,_,_,_,_,some (.int nu),_]=>nu.toNat | _=>0) ⟨ds,num,rfl,hn0,Dr3,.inr hdl,m3,hq3⟩ ?_ ?_
    ·rintro σ H4 ⟨ds',nu,rfl,hnu,Dr4,hl4,m4,hq4⟩
     refine ⟨_,rfl,_,_,rfl,rfl,_,rfl,?_⟩
     refine zaQ (fun hp=>?_) (fun hp=>?_)
     ·have hp' : 0 < nu:=of_decide_eq_true hp
      refine ⟨_,rfl,dr,_,rfl,.inl (SqL.of Dr4.li),_,rfl,_,_,rfl,rfl,_,rfl,?_⟩
      rw [List.length_map]
      refine zaQ (fun hlt=>?_) (fun hlt=>?_)
      ·have hlt' : ds'.length < 900:=by have:=of_decide_eq_true hlt; omega
       refine ⟨_,rfl,.inl ⟨rfl,_,SqL.of Dr4.li⟩,_,rfl,_,_,rfl,rfl,(by decide : (0 : Int) < 10007),dr,_,_,rfl,rfl,Dr4.li,by rw [List.length_map]; exact Nat.lt_of_lt_of_le hlt' (by decide),?_⟩
       refine ⟨_,rfl,_,_,rfl,rfl,⟨by decide,by decide⟩,⟨ds' ++ [nu % 10007],nu / 10007,rfl,Int.ediv_nonneg hnu (by decide),add nu Dr4,.inl (by rw [List.length_append,List.length_singleton]; omega),smp m4,by rw [zy (Ne.symm ndq)]; exact hq4⟩,?_⟩
       show (nu / 10007).toNat < nu.toNat
       have : nu / 10007 < nu:=Int.ediv_lt_of_lt_mul (by decide) (by omega)
       omega
      ·exact ⟨_,_,_,_,bs',ds',rfl,hb0',hb1',Dr4,by omega,m4,hq4⟩
     ·exact ⟨_,_,_,_,bs',ds',rfl,hb0',hb1',Dr4,by omega,m4,hq4⟩
    ·intro σ H4 Q Q' hq'
     rintro ⟨v0,e0,i0,j0,e1,e2,k0,e3,q0⟩
     refine ⟨v0,e0,i0,j0,e1,e2,k0,e3,?_⟩
     by_cases hk : k0 = true
     ·rw [if_pos hk] at q0 ⊢
      obtain ⟨v1,e4,a1,ys1,e5,s1,v2,e6,i2,j2,e7,e8,k2,e9,q2⟩:=q0
      exact ⟨v1,e4,a1,ys1,e5,s1,v2,e6,i2,j2,e7,e8,k2,e9,hq' _ _ q2⟩
     ·rw [if_neg hk] at q0 ⊢
      exact hq' _ _ q0
   | false =>
    refine wO ?_
    refine ⟨_,rfl,_,_,rfl,rfl,(by decide : (0 : Int) < 2147483647),_,rfl,_,_,rfl,rfl,_,_,rfl,rfl,_,_,rfl,rfl,.inr ⟨by decide,by decide⟩,_,_,rfl,rfl,(by decide : (0 : Int) < 2147483647),?_⟩
    try dsimp only
    generalize ho1 : (num % 2147483647 + (i : Int) + 1) * 48271 % 2147483647 = o1
    have o1b : 0≤o1∧o1 < 2147483647:=by rw [← ho1]; exact ⟨Int.emod_nonneg _ (by decide),Int.emod_lt_of_pos _ (by decide)⟩
    refine ⟨_,rfl,_,rfl,_,_,rfl,rfl,.inl ⟨by omega,by omega⟩,_,_,rfl,rfl,(by decide : (0 : Int) < 2147483629),?_⟩
    try dsimp only
    generalize ho2 : o1 * o1 % 2147483629 = o2
    have o2b : 0≤o2∧o2 < 2147483629:=by rw [← ho2]; exact ⟨Int.emod_nonneg _ (by decide),Int.emod_lt_of_pos _ (by decide)⟩
    refine ⟨_,rfl,.inl ⟨rfl,_,SqL.of Dr3.li⟩,_,rfl,_,_,rfl,rfl,⟨by decide,by decide⟩,_,_,rfl,rfl,(by decide : (0 : Int) < 10007),dr,_,_,rfl,rfl,Dr3.li,by rw [List.length_map]; exact Nat.lt_of_le_of_lt (show ds.length≤1100 by omega) (by decide),?_⟩
    have Dr4:=add (o2 / 8) Dr3
    refine ⟨_,rfl,_,_,rfl,rfl,.inl ⟨by omega,by omega⟩,_,rfl,_,_,rfl,rfl,.inl ⟨by decide,by decide⟩,_,_,rfl,rfl,_,_,rfl,rfl,_,_,rfl,rfl,(by decide : (0 : Int) < 2147483563),?_⟩
    try dsimp only
    generalize ho3 : (o2 * 40692 + 2 * (i : Int) + 1) % 2147483563 = o3
    have o3b : 0≤o3∧o3 < 2147483563:=by rw [← ho3]; exact ⟨Int.emod_nonneg _ (by decide),Int.emod_lt_of_pos _ (by decide)⟩
    refine ⟨_,rfl,_,rfl,_,_,rfl,rfl,.inl ⟨by omega,by omega⟩,_,_,rfl,rfl,(by decide : (0 : Int) < 2147483647),?_⟩
    try dsimp only
    generalize ho4 : o3 * o3 % 2147483647 = o4
    refine ⟨_,rfl,.inl ⟨rfl,_,SqL.of Dr4.li⟩,_,rfl,_,_,rfl,rfl,⟨by decide,by decide⟩,_,_,rfl,rfl,(by decide : (0 : Int) < 10007),dr,_,_,rfl,rfl,Dr4.li,by rw [List.length_map,List.length_append,List.length_singleton]; exact Nat.lt_of_le_of_lt (show ds.length + 1≤1100 by omega) (by decide),?_⟩
    exact ⟨_,_,_,_,bs',ds ++ [o2 / 8 % 10007] ++ [o4 / 8 % 10007],rfl,hb0',hb1',add (o4 / 8) Dr4,by rw [List.length_append,List.length_append,List.length_singleton,List.length_singleton]; omega,smp (smp m3),by rw [zy (Ne.symm ndq),zy (Ne.symm ndq)]; exact hq3⟩
  ·rintro σ H2 ⟨v4,v5,v6,v7,bs,ds,rfl,hb0,hb1,Dr,hdl,m,hq2⟩
   rw [List.length_map] at hdl
   refine ⟨_,rfl,_,rfl,dr,_,rfl,.inl (SqL.of Dr.li),_,_,rfl,rfl,_,rfl,?_⟩
   rw [List.length_map]
   refine ⟨by omega,by omega,xg (lo:=0) (n:=(900 - (ds.length : Int)).toNat) (fun i σ H3=>∃ (v4 v5 v6 v7 : Option V) (ds' : List Int),σ = [some (.ref a),some (.int 900),some (.ref dr),some (.int bs),v4,v5,v6,v7]∧Drw H3 dr ds'∧ds'.length = ds.length + i∧Same H H3) ⟨_,_,_,_,ds,rfl,Dr,rfl,m⟩ ?_ ?_⟩
   ·rintro i σ H3 hi ⟨v4,v5,v6,v7,ds',rfl,Dr3,hl3,m3⟩
    refine ⟨_,rfl,_,rfl,_,_,rfl,rfl,.inl ⟨by decide,by decide⟩,_,_,rfl,rfl,_,_,rfl,rfl,_,_,rfl,rfl,(by decide : (0 : Int) < 2147483629),?_⟩
    try dsimp only
    generalize ho1 : (bs + 7919 * (0 + (i : Int)) + 13) % 2147483629 = o1
    have o1b : 0≤o1∧o1 < 2147483629:=by rw [← ho1]; exact ⟨Int.emod_nonneg _ (by decide),Int.emod_lt_of_pos _ (by decide)⟩
    refine ⟨_,rfl,_,rfl,_,_,rfl,rfl,.inl ⟨by omega,by omega⟩,_,_,rfl,rfl,(by decide : (0 : Int) < 2147483647),?_⟩
    try dsimp only
    generalize ho2 : o1 * o1 % 2147483647 = o2
    have o2b : 0≤o2∧o2 < 2147483647:=by rw [← ho2]; exact ⟨Int.emod_nonneg _ (by decide),Int.emod_lt_of_pos _ (by decide)⟩
    refine ⟨_,rfl,_,_,rfl,rfl,.inl ⟨by omega,by omega⟩,_,rfl,_,_,rfl,rfl,_,_,rfl,rfl,(by decide : (0 : Int) < 2147483563),?_⟩
    try dsimp only
    generalize ho3 : (o2 * 69621 + (0 + (i : Int))) % 2147483563 = o3
    have o3b : 0≤o3∧o3 < 2147483563:=by rw [← ho3]; exact ⟨Int.emod_nonneg _ (by decide),Int.emod_lt_of_pos _ (by decide)⟩
    refine ⟨_,rfl,.inl ⟨rfl,_,SqL.of Dr3.li⟩,_,rfl,_,rfl,_,_,rfl,rfl,.inl ⟨by omega,by omega⟩,_,_,rfl,rfl,(by decide : (0 : Int) < 2147483629),_,_,rfl,rfl,⟨by decide,by decide⟩,_,_,rfl,rfl,(by decide : (0 : Int) < 10007),dr,_,_,rfl,rfl,Dr3.li,by rw [List.length_map,hl3]; exact Nat.lt_of_le_of_lt (show ds.length + i≤1100 by omega) (by decide),?_⟩
    exact ⟨_,_,_,_,ds' ++ [o3 * o3 % 2147483629 / 8 % 10007],rfl,add _ Dr3,by rw [List.length_append,List.length_singleton]; omega,smp m3⟩
   ·rintro σ H3 ⟨v4,v5,v6,v7,ds',rfl,Dr3,hl3,m3⟩
    refine ⟨_,rfl,kk dr ds' H3 hdr Dr3 (fun z=>?_) (by omega) m3⟩
    rw [z] at hl3
    simp at hl3
    omega
end
theorem LT.putL {T p : Addr} {H : Hp} {o : HO} {xs : List V} (h : LT T H) (e : H p = some (.lst xs)) : LT T (upd H p o):=by
 have nT:=h.lst e
 rcases h with h | ⟨c,h1,h2⟩
 ·exact .inl (by rw [zy (Ne.symm nT)]; exact h)
 ·exact .inr ⟨c,by rw [zy (Ne.symm nT)]; exact h1,by rw [zy (fun z=>by rw [z,e] at h2; cases h2)]; exact h2⟩
theorem LT.putD {T p : Addr} {H : Hp} {o : HO} {xs : List (List Key × V)} (h : LT T H) (e : H p = some (.dT xs)) : LT T (upd H p o):=by
 have nT : p ≠ T:=fun z=>by
  rw [z] at e
  rcases h with h | ⟨c,h,_⟩
  ·rw [h] at e; cases e
  ·rw [h] at e; cases e
 rcases h with h | ⟨c,h1,h2⟩
 ·exact .inl (by rw [zy (Ne.symm nT)]; exact h)
 ·exact .inr ⟨c,by rw [zy (Ne.symm nT)]; exact h1,by rw [zy (fun z=>by rw [z,e] at h2; cases h2)]; exact h2⟩
structure Fr (T s dr : Addr) (ds : List Int) (H H' : Hp) : Prop where
 q : Stq2 T s dr ds H H'
 lt : LT T H'
section
variable {T s dr p : Addr} {ds : List Int} {H H1 H2 H' : Hp} {o : HO}
theorem Fr.st (a : Fr T s dr ds H H1) : Sto2 H1 s dr ds:=a.q.st
theorem Fr.refl (S : Sto2 H s dr ds) (h : LT T H) : Fr T s dr ds H H:=⟨.refl S,h⟩
theorem Fr.trans (a : Fr T s dr ds H H1) (b : Fr T s dr ds H1 H2) : Fr T s dr ds H H2:=⟨a.q.trans b.q,b.lt⟩
theorem Fr.same (a : Fr T s dr ds H H1) (m : Same H1 H2) : Fr T s dr ds H H2:=⟨a.q.same m,a.lt.same m⟩
theorem Fr.sameL (a : Fr T s dr ds H H1) (m : SameL T H1 H2) (h : LT T H2) : Fr T s dr ds H H2:=⟨a.q.sameL a.lt m,h⟩
theorem Fr.new (a : Fr T s dr ds H H1) (h : H1 p = none) : Fr T s dr ds H (upd H1 p o):=a.same (zq h)
theorem Fr.free (a : Fr T s dr ds H H1) (h : H1 p = none) : H p = none:=by
 cases e : H p with
 | none=>rfl
 | some u =>
  have:=a.q.sm p u (a.st.nes h) (a.lt.none h) e
  rw [h] at this; cases this
theorem Fr.get (a : Fr T s dr ds H H1) (hs : p ≠ s) (ht : p ≠ T) (e : H p = some o) : H1 p = some o:=a.q.sm p o hs ht e
theorem Sto2.nedn (S : Sto2 H s dr ds) (h : H p = none) : p ≠ dr:=fun z=>by rw [z,S.dr] at h; cases h
theorem Fr.putL {xs : List V} (a : Fr T s dr ds H H1) (hs : p ≠ s) (hd : p ≠ dr) (h : H p = none) (e : H1 p = some (.lst xs)) : Fr T s dr ds H (upd H1 p o):=⟨a.q.put hs hd h,a.lt.putL e⟩
theorem Fr.putD {xs : List (List Key × V)} (a : Fr T s dr ds H H1) (hs : p ≠ s) (hd : p ≠ dr) (h : H p = none) (e : H1 p = some (.dT xs)) : Fr T s dr ds H (upd H1 p o):=⟨a.q.put hs hd h,a.lt.putD e⟩
end
section
variable {P : Program} {w : World} {K : PySem.W.Frag} {mg : Str->Option Value} {base : Heap} {T0 : Addr}
def Z1 (T0 : Addr) : Sp:=fun vs H Q _=>∃ (s dr : Addr) (ds : List Int),vs = [.ref s]∧Sto2 H s dr ds∧LT T0 H∧∀ (r : Addr) (b : Nat) (bl : Addr) (zs : List (Addr × List Int)) (H' : Hp),Fr T0 s dr ds H H'->RuleAt (aw [s] H') r b bl zs->yC b (zs.map (·.2))->Q (.ref r) H'
theorem yR : zK ["store","x","base","found","k","few","stretch","at","y"] ["store"] (zx tR):=⟨rfl,rfl,rfl,by decide +kernel,rfl,by decide +kernel,by decide +kernel⟩
set_option maxHeartbeats 0 in
theorem Jq {f f1 : Addr} {fd fd1 : FuncData} (D : Df K mg "_law_rule" tR ["store"] f fd) (zG : Df K mg "_law_take" xU ["store","many"] f1 fd1) (T : Blt mg) : FnOk P w K mg base CX0 2 f fd ["store"] (Z1 T0):=by
 have zT : FnOk P w K mg base CX0 1 f1 fd1 ["store","many"] (wk T0):=vY zG T
 refine D.fn.ok yR (fun vs H Q E h=>?_) (fun cdv A outer s H vs Q E hr h=>?_)
 ·obtain ⟨s,dr,ds,rfl,_⟩:=h; rfl
 ·obtain ⟨sa,dr,ds,rfl,S,hT,kk⟩:=h
  refine ⟨_,(zp (zJ (i:=1) yR.nd rfl (Or.inl rfl) (yc zG zT (hr.mono (by decide)) (zf (pv 0) (zf zm zg))))
   (zp (zJ (i:=2) yR.nd rfl (Or.inl rfl) (zY (yl K) (zO (zf zm (zf zm (zf zm (zf zm (zf (zE yO zm (zE yu (pv 1) zm)) zg)))))) (yc zG zT (hr.mono (by decide)) (zf (pv 0) (zf zm zg))) (fun _ _=>rfl)))
   (zp (zJ (i:=3) yR.nd rfl (Or.inl rfl) zdn)
   (zp (vM PassesOwn.never rfl (yg rfl T.n_range (zf (zY (yl K) (zO (zf (zE yu (zE vB (pv 1) zm) zm) (zf (zE yO zm (zE yu (zE vB (pv 1) zm) zm)) (zf zm zg)))) (yc zG zT (hr.mono (by decide)) (zf (pv 0) (zf zm zg))) (fun _ _=>rfl)) zg)) (yK (i:=4) yR.nd rfl (Or.inl rfl))
    (zp (zJ (i:=5) yR.nd rfl (Or.inl rfl) (zY (yl K) (zO (zf (pv 2) (zf (zF (zbR rfl) (by rfl) T.n_min boot_min (zf (pv 2) (zf zm zg))) (zf zm zg)))) (yc zG zT (hr.mono (by decide)) (zf (pv 0) (zf zm zg))) (fun _ _=>rfl)))
    (zp (zJ (i:=6) yR.nd rfl (Or.inl rfl) (zO zg))
    (zp (vM PassesOwn.never rfl (yg rfl T.n_range (zf (zE yO zm (yc zG zT (hr.mono (by decide)) (zf (pv 0) (zf zm zg)))) zg)) (yK (i:=7) yR.nd rfl (Or.inl rfl))
     (zp (zJ (i:=8) yR.nd rfl (Or.inl rfl) (yc zG zT (hr.mono (by decide)) (zf (pv 0) (zf zm zg))))
     (zA (yQ (Z6 PySem.F.plainAttrs_list PySem.F.slot_list_append PySem.F.type_list_append xR (pv 6) (zf (zY (yl K) (zO (zf (zE yu (pv 8) (pv 5)) (zf (zE qd (zE qd (pv 2) zm) (zE yu (pv 8) (pv 5))) zg))) (qR zbN (by rfl) T.n_int boot_int (zf (jN Vn (zE yu (zE vB (pv 8) zm) zm) zm (yw _)) zg)) (fun _ _=>rfl)) zg))))))
    (zA (zd3 (zfF hr) (pv 3) (qR jZ (by rfl) T.n_tuple boot_tuple (zf (pv 6) zg)) tW rfl))))))
   (zA (zQ (Yl (zf (pv 2) (zf (vd (show CScope (zx tR) _ "stretch" ["store","x","base","found","k","few","stretch","at","y"] [] [] from ⟨rfl,by decide +kernel,by decide +kernel,rfl,by decide +kernel,rfl,by decide +kernel,by decide +kernel⟩) rfl (Uw K (zF zd0 (by rfl) T.n_sorted boot_sorted (zf (pv 3) zg))) (fun _ _ _ _=>xM) (fun _ _ _ _=>(qR (zad K) (by rfl) T.n_list boot_list (zf (pv 0) zg)))) zg))))))))),?_⟩
  refine ⟨_,rfl,sa,dr,ds,10007,rfl,(Fr.refl S hT : Fr T0 sa dr ds H H).st,(by decide),(Fr.refl S hT : Fr T0 sa dr ds H H).lt,fun x H1 hx _ qf_ tf_=>?_⟩
  have fq_:=Fr.mk qf_ tf_
  have F1:=(Fr.refl S hT : Fr T0 sa dr ds H H).trans fq_
  refine ⟨_,rfl,_,_,rfl,rfl,(by decide : (0 : Int) < 15),_,_,rfl,rfl,(by show 5≤sizeLine; decide),fun l1 hl1=>?_⟩
  have n1:=F1.st.nes hl1
  have t1:=F1.lt.none hl1
  have F2:=F1.new hl1 (o:=.lst [.int 2,.int 3,.int 10,.int 16,.int (2 + (x : Int) % 15)])
  refine ⟨_,rfl,sa,dr,ds,5,rfl,F2.st,(by decide),F2.lt,fun x2 H3 hx2 _ qf_ tf_=>?_⟩
  have f3:=Fr.mk qf_ tf_
  have F3:=F2.trans f3
  obtain ⟨b,hb,hb2,hb16⟩ : ∃ b : Nat,atI [V.int 2,V.int 3,V.int 10,V.int 16,V.int (2 + (x : Int) % 15)] (x2 : Int) = some (.int b)∧2≤b∧b≤16:=by
   match x2,hx2 with
   | 0,_=>exact ⟨2,rfl,by omega,by omega⟩
   | 1,_=>exact ⟨3,rfl,by omega,by omega⟩
   | 2,_=>exact ⟨10,rfl,by omega,by omega⟩
   | 3,_=>exact ⟨16,rfl,by omega,by omega⟩
   | 4,_=>exact ⟨2 + x % 15,rfl,by omega,by omega⟩
  refine ⟨l1,_,_,_,rfl,rfl,SqL.of (f3.get n1 t1 zj),hb,?_⟩
  intro kd hkd
  have nkd:=F3.st.nes hkd
  have ndk:=F3.st.nedn hkd
  have tkd:=F3.lt.none hkd
  have hkd0:=F3.free hkd
  have F4:=F3.new hkd (o:=.dT [])
  refine ⟨_,rfl,_,_,rfl,rfl,⟨by decide,by decide⟩,_,_,rfl,rfl,(by decide : (0 : Int) < 5),_,rfl,_,_,rfl,rfl,⟨by decide,by decide⟩,_,_,rfl,rfl,(by decide : (0 : Int) < 2),_,_,rfl,rfl,(by show 3≤sizeLine; decide),fun l2 hl2=>?_⟩
  have n2:=F4.st.nes hl2
  have t2:=F4.lt.none hl2
  have hk5:=zq hl2 (o:=.lst [.int ((x : Int) / 15 % 5),.int (1 + (x : Int) / 15 % 2),.int 4]) kd _ zj
  have F5:=F4.new hl2 (o:=.lst [.int ((x : Int) / 15 % 5),.int (1 + (x : Int) / 15 % 2),.int 4])
  refine ⟨_,rfl,sa,dr,ds,3,rfl,F5.st,(by decide),F5.lt,fun x3 H6 hx3 _ qf_ tf_=>?_⟩
  have f6:=Fr.mk qf_ tf_
  have F6:=F5.trans f6
  obtain ⟨mm,hmm,hm4⟩ : ∃ m : Nat,atI [V.int ((x : Int) / 15 % 5),V.int (1 + (x : Int) / 15 % 2),V.int 4] (x3 : Int) = some (.int m)∧m≤4:=by
   match x3,hx3 with
   | 0,_=>exact ⟨x / 15 % 5,rfl,by omega⟩
   | 1,_=>exact ⟨1 + x / 15 % 2,rfl,by omega⟩
   | 2,_=>exact ⟨4,rfl,by omega⟩
  refine ⟨l2,_,_,_,rfl,rfl,SqL.of (f6.get n2 t2 zj),hmm,?_⟩
  refine ⟨_,rfl,by omega,by omega,xg (lo:=0) (n:=(mm : Int).toNat) (fun i σ H5=>∃ (v4 v5 v6 v7 v8 : Option V) (kvs : List (List Key × V)) (ls : List (List Int)),σ = [some (.ref sa),some (.int x),some (.int b),some (.ref kd),v4,v5,v6,v7,v8]∧Fr T0 sa dr ds H H5∧H5 kd = some (.dT kvs)∧kvs.map (·.1) = ls.map kI∧ls.length≤i∧∀ l ∈ ls,zaG b l)
   ⟨none,none,none,none,none,[],[],rfl,F6,f6.get nkd tkd hk5,rfl,Nat.le_refl _,by simp⟩ ?_ ?_⟩
  ·rintro i σ H7 hi ⟨v4,v5,v6,v7,v8,kvs,ls,rfl,F7,hk7,hks,hll,hgd⟩
   refine ⟨_,rfl,_,rfl,_,_,rfl,(by show 3≤sizeLine; decide),fun l3 hl3=>?_⟩
   have n3:=F7.st.nes hl3
   have t3:=F7.lt.none hl3
   have hk8:=zq hl3 (o:=.lst [.int b,.int (if (3 : Int) < (b : Int) then 3 else (b : Int)),.int 2]) kd _ hk7
   have F8:=F7.new hl3 (o:=.lst [.int b,.int (if (3 : Int) < (b : Int) then 3 else (b : Int)),.int 2])
   refine ⟨_,rfl,sa,dr,ds,3,rfl,F8.st,(by decide),F8.lt,fun x4 H9 hx4 _ qf_ tf_=>?_⟩
   have f9:=Fr.mk qf_ tf_
   have F9:=F8.trans f9
   obtain ⟨few,hfew,hfew1,hfew2⟩ : ∃ m : Nat,atI [V.int b,V.int (if (3 : Int) < (b : Int) then 3 else (b : Int)),V.int 2] (x4 : Int) = some (.int m)∧2≤m∧m≤b:=by
    match x4,hx4 with
    | 0,_=>exact ⟨b,rfl,by omega,by omega⟩
    | 1,_ =>
     by_cases z : 3 < b
     ·exact ⟨3,by rw [if_pos (by omega)]; rfl,by omega,by omega⟩
     ·exact ⟨b,by rw [if_neg (by omega)]; rfl,by omega,by omega⟩
    | 2,_=>exact ⟨2,rfl,by omega,by omega⟩
   refine ⟨l3,_,_,_,rfl,rfl,SqL.of (f9.get n3 t3 zj),hfew,?_⟩
   have hk9:=f9.get nkd tkd hk8
   refine ⟨(by decide : 0≤sizeLine),fun sl hsl=>?_⟩
   have nsl:=F9.st.nes hsl
   have dsl:=F9.st.nedn hsl
   have tsl:=F9.lt.none hsl
   have hsl0:=F9.free hsl
   have nks : kd ≠ sl:=fun z=>by rw [z,hsl] at hk9; cases hk9
   have hk10:=zq hsl (o:=.lst []) kd _ hk9
   have F10:=F9.new hsl (o:=.lst [])
   refine ⟨_,rfl,sa,dr,ds,4,rfl,F10.st,(by decide),F10.lt,fun x5 H11 hx5 _ qf_ tf_=>?_⟩
   have f11:=Fr.mk qf_ tf_
   have F11:=F10.trans f11
   refine ⟨_,_,rfl,rfl,?_⟩
   refine ⟨_,rfl,by omega,by omega,xg (lo:=0) (n:=(1 + (x5 : Int)).toNat) (fun j σ Hc=>∃ (v4 v7 v8 : Option V) (ms : List Int),σ = [some (.ref sa),some (.int x),some (.int b),some (.ref kd),v4,some (.int few),some (.ref sl),v7,v8]∧Fr T0 sa dr ds H Hc∧Hc kd = some (.dT kvs)∧Hc sl = some (.lst (ms.map V.int))∧ms.length = j∧∀ f ∈ ms,0≤f∧f < (b : Int))
    ⟨_,_,_,[],rfl,F11,f11.get nkd tkd hk10,f11.get nsl tsl zj,rfl,by simp⟩ ?_ ?_⟩
   ·rintro j σ Hc hj ⟨v4,v7,v8,ms,rfl,Fc,hkc,hsc,hml,hmf⟩
    refine ⟨_,rfl,sa,dr,ds,10007,rfl,Fc.st,(by decide),Fc.lt,fun y Hd hy _ qf_ tf_=>?_⟩
    have fd:=Fr.mk qf_ tf_
    have Fd:=Fc.trans fd
    have hkd':=fd.get nkd tkd hkc
    have hsd:=fd.get nsl tsl hsc
    refine ⟨_,rfl,.inl ⟨rfl,_,SqL.of hsd⟩,_,rfl,_,rfl,_,_,rfl,rfl,(by omega : (0 : Int) < few),_,rfl,_,_,rfl,rfl,_,rfl,_,rfl,_,_,rfl,rfl,(by omega : (0 : Int) < few),_,_,rfl,rfl,(by show 2≤sizeLine; decide),fun l4 hl4=>?_⟩
    have nl4 : sl ≠ l4:=fun z=>by rw [← z,hsd] at hl4; cases hl4
    have s4:=zq hl4 (o:=.lst [.int ((y : Int) % (few : Int)),.int ((b : Int) - 1 - (y : Int) % (few : Int))])
    have Fe:=Fd.new hl4 (o:=.lst [.int ((y : Int) % (few : Int)),.int ((b : Int) - 1 - (y : Int) % (few : Int))])
    have hke:=s4 _ _ hkd'
    have hse:=s4 _ _ hsd
    refine ⟨_,rfl,_,_,rfl,rfl,⟨by decide,by decide⟩,_,_,rfl,rfl,(by decide : (0 : Int) < 6),rfl,.inr ⟨_,rfl,?_⟩⟩
    have hy0 : 0≤(y : Int) % (few : Int):=Int.emod_nonneg _ (by omega)
    have hy1 : (y : Int) % (few : Int) < few:=Int.emod_lt_of_pos _ (by omega)
    have key : ∀ bb : Bool,∃ fg : Int,atI [V.int ((y : Int) % (few : Int)),V.int ((b : Int) - 1 - (y : Int) % (few : Int))] (if bb = true then 1 else 0) = some (.int fg)∧0≤fg∧fg < b:=by
     intro bb
     cases bb with
     | true=>exact ⟨_,rfl,by omega,by omega⟩
     | false=>exact ⟨_,rfl,by omega,by omega⟩
    obtain ⟨fg,hfg,hf0,hf1⟩:=key (decide (V.int ((y : Int) / 16 % 6) = V.int 0))
    refine ⟨l4,_,_,_,rfl,rfl,SqL.of zj,hfg,sl,_,_,rfl,rfl,hse,by rw [List.length_map,hml]; exact Nat.lt_of_lt_of_le (show j < 5 by omega) (by decide),?_⟩
    refine ⟨_,_,_,ms ++ [fg],rfl,Fe.putL nsl dsl hsl0 hse,by rw [zy nks]; exact hke,by rw [zj]; simp,by simp [hml],fun f hf=>?_⟩
    rcases List.mem_append.mp hf with hf | hf
    ·exact hmf f hf
    ·have e : f = fg:=by simpa using hf
     rw [e]; exact ⟨hf0,hf1⟩
   ·rintro σ Hc ⟨v4,v7,v8,ms,rfl,Fc,hkc,hsc,hml,hmf⟩
    have gms : zaG b ms:=⟨fun z=>by rw [z] at hml; simp at hml; omega,by omega,hmf⟩
    refine ⟨_,rfl,_,rfl,sl,_,rfl,.inl ⟨SqL.of hsc,fun tp htp=>?_⟩⟩
    have hk7 : upd Hc tp (.tup (ms.map V.int)) kd = some (.dT kvs):=zq htp _ _ hkc
    have hkl : kvs.length = ls.length:=by have:=congrArg List.length hks; rwa [List.length_map,List.length_map] at this
    refine ⟨kd,_,rfl,DPut.t (k:=kI ms) hk7 (by rw [zfm]; exact zj) (Nat.lt_of_le_of_lt (show kvs.length≤4 by omega) (by decide)),?_⟩
    have S7:=(Fc.new htp (o:=.tup (ms.map V.int))).putD (p:=kd) (o:=.dT (putK kvs (kI ms) (.bl true))) nkd ndk hkd0 hk7
    by_cases hin : ms ∈ ls
    ·refine ⟨_,_,_,_,_,putK kvs (kI ms) (.bl true),ls,rfl,S7,zj,?_,by omega,hgd⟩
     unfold putK
     rw [if_pos (by
      rw [List.any_eq_true]
      have : kI ms ∈ kvs.map (·.1):=by rw [hks]; exact List.mem_map.mpr ⟨ms,hin,rfl⟩
      obtain ⟨kv,h1,h2⟩:=List.mem_map.mp this
      exact ⟨kv,h1,decide_eq_true h2⟩),List.map_map,← hks]
     refine List.map_congr_left fun kv _=>?_
     show (if kv.1 = kI ms then (kv.1,V.bl true) else kv).1 = kv.1
     split <;> rfl
    ·refine ⟨_,_,_,_,_,putK kvs (kI ms) (.bl true),ls ++ [ms],rfl,S7,zj,?_,by rw [List.length_append,List.length_singleton]; omega,fun l hl=>?_⟩
     ·unfold putK
      rw [if_neg (by
       rw [List.any_eq_true]
       rintro ⟨kv,h1,h2⟩
       have h3 : kI ms ∈ kvs.map (·.1):=List.mem_map.mpr ⟨kv,h1,of_decide_eq_true h2⟩
       rw [hks] at h3
       obtain ⟨l,h4,h5⟩:=List.mem_map.mp h3
       exact hin (zeT h5 ▸ h4)),List.map_append,List.map_append,hks]
      rfl
     ·rcases List.mem_append.mp hl with hl | hl
      ·exact hgd l hl
      ·have e : l = ms:=by simpa using hl
       rw [e]; exact gms
  ·rintro σ H5 ⟨v4,v5,v6,v7,v8,kvs,ls,rfl,S5,hk5,hks,hll,hgd⟩
   refine ⟨_,rfl,_,rfl,kd,kvs,ls,rfl,hk5,hks,by omega,fun l hl=>(hgd l hl).ne,fun p zs hp pm pw hz=>?_⟩
   have hzl : zs.length = ls.length:=by have:=pm.length_eq; rwa [List.length_map] at this
   have S6:=S5.new hp (o:=.lst (zs.map fun z=>V.ref z.1))
   refine ⟨p,rfl,⟨_,SqL.of zj⟩,vf (K:=K) (a:=p) (xs:=zs.map fun z=>V.ref z.1) (fun i ys H7=>Same (upd H5 p (.lst (zs.map fun z=>V.ref z.1))) H7∧∃ ws : List (Addr × List Int),ys = ws.map (fun z=>V.ref z.1)∧ws.map (·.2) = (zs.take i).map (·.2)∧∀ z ∈ ws,H z.1 = none∧z.1 ≠ sa∧H7 z.1 = some (.lst (z.2.map V.int))) ⟨Same.refl _,[],rfl,by simp,by simp⟩ (fun i ys H7 _ ⟨m7,_⟩=>SqL.of (m7 _ _ zj)) ?_ ?_⟩
   ·rintro j x ys H7 hx ⟨m7,ws,rfl,hw2,hws⟩
    rw [List.getElem?_map] at hx
    obtain ⟨z,hzj,e⟩:=Option.map_eq_some_iff.mp hx
    subst e
    have hzm:=List.mem_of_getElem? hzj
    have hj : j < zs.length:=(List.getElem?_eq_some_iff.mp hzj).1
    have hwl : ws.length≤j:=by have:=congrArg List.length hw2; rw [List.length_map,List.length_map,List.length_take] at this; omega
    refine ⟨by rw [List.length_map]; exact Nat.lt_of_le_of_lt (show ws.length≤4 by omega) (by decide),?_⟩
    unfold Ye
    dsimp only
    rw [if_pos rfl]
    refine ⟨_,rfl,z.1,_,rfl,.inr (SqT.of (m7 _ _ (zq hp _ _ (hz z hzm)))),fun q hq=>⟨m7.trans (zq hq),ws ++ [(q,z.2)],by simp,?_,fun y hy=>?_⟩⟩
    ·rw [List.map_append,hw2,List.take_succ,hzj]; simp
    ·rcases List.mem_append.mp hy with hy | hy
     ·exact ⟨(hws y hy).1,(hws y hy).2.1,zq hq _ _ (hws y hy).2.2⟩
     ·have e : y = (q,z.2):=by simpa using hy
      subst e
      exact ⟨S6.free (m7.free hq),(S6.same m7).st.nes hq,zj⟩
   ·rintro ys H7 ⟨m7,ws,rfl,hw2,hws⟩ bl hbl
    rw [List.length_map,List.take_length] at hw2
    have hwl : ws.length = zs.length:=by have:=congrArg List.length hw2; rwa [List.length_map,List.length_map] at this
    have m8:=zq hbl (o:=.lst (ws.map fun z=>V.ref z.1))
    have S7:=S6.same m7
    have S8:=S6.same (m7.trans m8)
    refine ⟨(by show 2≤sizeLine; decide),fun r hr=>?_⟩
    have m9:=zq hr (o:=.tup [.int b,.ref bl])
    have nb:=S7.st.nes hbl
    have nr:=S8.st.nes hr
    refine kk r b bl ws _ (S8.same m9) ⟨?_,?_,fun z hz'=>?_⟩ ⟨hb2,hb16,by rw [List.length_map]; omega,fun l hl=>?_,?_⟩
    ·rw [zX (by simpa using nr)]; exact zj
    ·rw [zX (by simpa using nb)]; exact m9 _ _ zj
    ·rw [zX (by simpa using (hws z hz').2.1)]; exact m9 _ _ (m8 _ _ (hws z hz').2.2)
    ·rw [hw2] at hl
     exact hgd _ (pm.mem_iff.mp hl)
    ·rw [hw2,List.pairwise_map]; exact pw
end
section
variable {P : Program} {w : World} {K : PySem.W.Frag} {mg : Str->Option Value} {base : Heap}
def Zz : Sp:=fun vs H Q _=>∃ (r : Addr) (b : Nat) (bl : Addr) (zs : List (Addr × List Int)),vs = [.ref r]∧RuleAt H r b bl zs∧zs.length≤100 ∧
 ∀ (r' bl' : Addr) (zs' : List (Addr × List Int)) (H' : Hp),Same H H'->RuleAt H' r' b bl' zs'->zs'.map (·.2) = zs.map (·.2)->H bl' = none->H r' = none->(∀ z ∈ zs',H z.1 = none∧z.1 ≠ bl')->Q (.ref r') H'
theorem Jm : zK ["rule"] ["rule"] (zx tQ):=⟨rfl,rfl,rfl,by decide +kernel,rfl,by decide +kernel,by decide +kernel⟩
theorem X8 {f : Addr} {fd : FuncData} (D : Df K mg "_law_copy" tQ ["rule"] f fd) (T : Blt mg) : FnOk P w K mg base CX0 1 f fd ["rule"] Zz:=by
 refine D.fn.ok Jm (fun vs H Q E h=>?_) (fun cdv A outer s H vs Q E hr h=>?_)
 ·obtain ⟨r,b,bl,zs,rfl,_⟩:=h; rfl
 ·obtain ⟨r,b,bl,zs,rfl,R,hl,kk⟩:=h
  refine ⟨_,(zA (zQ (Yl (zf (zY (ux K) (pv 0) zm (fun _ _=>rfl)) (zf (vd (show CScope (zx tQ) _ "stretch" ["rule"] [] [] from ⟨rfl,by decide +kernel,by decide +kernel,rfl,by decide +kernel,rfl,by decide +kernel,by decide +kernel⟩) rfl (Uw K (zY (ux K) (pv 0) zm (fun _ _=>rfl))) (fun _ _ _ _=>xM) (fun _ _ _ _=>(qR (zad K) (by rfl) T.n_list boot_list (zf (pv 0) zg)))) zg))))),?_⟩
  refine ⟨_,rfl,r,_,_,V.int b,rfl,rfl,SqT.of R.tu,rfl,?_⟩
  refine ⟨_,rfl,r,_,_,V.ref bl,rfl,rfl,SqT.of R.tu,rfl,bl,rfl,⟨_,SqL.of R.li⟩,vf (K:=K) (a:=bl) (xs:=zs.map fun z=>V.ref z.1) (fun i ys H4=>Same H H4∧∃ ws : List (Addr × List Int),ys = ws.map (fun z=>V.ref z.1)∧ws.length = i∧ws.map (·.2) = (zs.take i).map (·.2)∧∀ z ∈ ws,H z.1 = none∧H4 z.1 = some (.lst (z.2.map V.int))) ⟨Same.refl _,[],rfl,rfl,rfl,by simp⟩ (fun i ys H4 _ ⟨e,_⟩=>SqL.of (e _ _ R.li)) ?_ ?_⟩
  ·rintro j x ys H4 hx ⟨s4,ws,rfl,hwl,hw2,hws⟩
   rw [List.getElem?_map] at hx
   obtain ⟨z,hzj,e⟩:=Option.map_eq_some_iff.mp hx
   subst e
   have hzm:=List.mem_of_getElem? hzj
   have hj : j < zs.length:=(List.getElem?_eq_some_iff.mp hzj).1
   refine ⟨by rw [List.length_map,hwl]; exact Nat.lt_of_lt_of_le (show j < 101 by omega) (by decide),?_⟩
   unfold Ye
   dsimp only
   rw [if_pos rfl]
   refine ⟨_,rfl,z.1,_,rfl,.inl (SqL.of (s4 _ _ (R.st z hzm))),fun p hp=>⟨s4.trans (zq hp),ws ++ [(p,z.2)],by simp,by simp [hwl],?_,fun y hy=>?_⟩⟩
   ·rw [List.map_append,hw2,List.take_succ,hzj]; simp
   ·rcases List.mem_append.mp hy with hy | hy
    ·exact ⟨(hws y hy).1,zq hp _ _ (hws y hy).2⟩
    ·have e : y = (p,z.2):=by simpa using hy
     subst e
     exact ⟨s4.free hp,zj⟩
  ·rintro ys H4 ⟨s4,ws,rfl,hwl,hw2,hws⟩ bl' hbl'
   refine ⟨(by show 2≤sizeLine; decide),fun r' hr'=>?_⟩
   have s5:=zq hbl' (o:=.lst (ws.map fun z=>V.ref z.1))
   have s6:=zq hr' (o:=.tup [.int b,.ref bl'])
   refine kk r' bl' ws _ (s4.trans (s5.trans s6)) ⟨zj,s6 _ _ zj,fun z hz=>s6 _ _ (s5 _ _ (hws z hz).2)⟩ ?_ (s4.free hbl') (s4.free (s5.free hr')) fun z hz=>⟨(hws z hz).1,zB (hws z hz).2 hbl'⟩
   rw [hw2,List.length_map,List.take_length]
end
section
variable {P : Program} {w : World} {K : PySem.W.Frag} {mg : Str->Option Value} {base : Heap}
def zby (b : Nat) (ls : List (List Int)) : Tr:=.tup [.int b,.lst (ls.map wG)]
theorem zcb (b : Nat) (ls : List (List Int)) : jg (zby b ls)≤8:=by
 unfold zby
 rw [jg,xW,xW,xW,jg,jg]
 ·have:=jw ls; omega
 all_goals (intros; rename_i z; cases z)
theorem TrAt.rule {H : Hp} {r bl : Addr} {b : Nat} {zs : List (Addr × List Int)} (R : RuleAt H r b bl zs) : TrAt K H (zby b (zs.map (·.2))) (.ref r):=by
 unfold zby
 rw [TrAt]
 refine ⟨r,_,rfl,SqT.of R.tu,?_⟩
 rw [TrsAt]
 refine ⟨_,_,rfl,by rw [TrAt],?_⟩
 rw [TrsAt]
 refine ⟨_,_,rfl,?_,by rw [TrsAt]⟩
 rw [TrAt]
 exact ⟨bl,_,rfl,SqL.of R.li,TrsAt.lists R.st⟩
end
def stV (T0 s dr : Addr) (ds : List Int) : View:=⟨aw [s,T0],fun H=>Sto2 H s dr ds∧LT T0 H,fun h=>zN _ _ _ _ h,fun {H p} o ok hp=>by
 refine ⟨⟨ok.1.same (zq hp),ok.2.same (zq hp)⟩,(zq hp).aw _,?_⟩
 rw [zX,zj]
 intro z
 simp only [List.mem_cons,List.not_mem_nil,or_false] at z
 rcases z with z | z
 ·exact ok.1.nes hp z
 ·exact ok.2.none hp z⟩
theorem zdg {T0 s dr : Addr} {ds : List Int} : Puts (stV T0 s dr ds):=fun {H0 H p xs} ys ok0 h0 ok hv=>by
 have hp : H p = some (.lst xs):=(stV T0 s dr ds).out hv
 have hn : p ∉ [s,T0]:=fun z=>by
  have hv : aw [s,T0] H p = some (.lst xs):=hv
  rw [jG z] at hv; cases hv
 have n1 : s ≠ p:=fun z=>hn (by simp [z])
 have n2 : dr ≠ p:=Ne.symm (ok0.1.nedn h0)
 refine ⟨⟨⟨?_,by rw [zy n2]; exact ok.1.dr,ok.1.ne,ok.1.len,ok.1.nn⟩,ok.2.putL hp⟩,?_,fun b hb=>?_⟩
 ·obtain ⟨i,e⟩:=ok.1.st
  exact ⟨i,by rw [zy n1]; exact e⟩
 ·show aw [s,T0] _ p = _
  rw [zX hn,zj]
 ·show aw [s,T0] _ b = aw [s,T0] _ b
  unfold aw
  split
  ·rfl
  ·rw [zy hb]
theorem zc2 {T s dr : Addr} {ds : List Int} {H H' : Hp} (q : Stq2 T s dr ds H H') : Same (aw [s,T] H) (aw [s,T] H'):=fun b o e=>by
 have hb : b ∉ [s,T]:=fun z=>by rw [jG z] at e; cases e
 rw [zX hb] at e ⊢
 exact q.sm b o (fun z=>hb (by simp [z])) (fun z=>hb (by simp [z])) e
theorem Zn {T s : Addr} {H H' : Hp} (q : SameL T H H') : Same (aw [s,T] H) (aw [s,T] H'):=fun b o e=>by
 have hb : b ∉ [s,T]:=fun z=>by rw [jG z] at e; cases e
 rw [zX hb] at e ⊢
 exact q b o (fun z=>hb (by simp [z])) e
theorem RuleAt.vw {T s r bl : Addr} {H : Hp} {b : Nat} {zs : List (Addr × List Int)} (R : RuleAt (aw [s] H) r b bl zs) (hT : LT T H) : RuleAt (aw [s,T] H) r b bl zs:=by
 have go : ∀ c o,c ≠ T->aw [s] H c = some o->aw [s,T] H c = some o:=fun c o ht e=>by
  have hc : c ∉ [s]:=fun hc=>by rw [jG hc] at e; cases e
  rw [zX hc] at e
  rw [zX (by simp at hc ⊢; exact ⟨hc,ht⟩)]; exact e
 have f : ∀ {c : Addr} {o : HO},aw [s] H c = some o->H c = some o:=fun e=>zN _ _ _ _ e
 exact ⟨go _ _ (hT.tup (f R.tu)) R.tu,go _ _ (hT.lst (f R.li)) R.li,fun z hz=>go _ _ (hT.lst (f (R.st z hz))) (R.st z hz)⟩
theorem RuleAt.vw0 {T s r bl : Addr} {H : Hp} {b : Nat} {zs : List (Addr × List Int)} (R : RuleAt H r b bl zs) (hs : r ≠ s∧bl ≠ s∧∀ z ∈ zs,z.1 ≠ s) (hT : LT T H) : RuleAt (aw [s,T] H) r b bl zs:=by
 have go : ∀ c o,c ≠ s->c ≠ T->H c = some o->aw [s,T] H c = some o:=fun c o h1 h2 e=>by
  rw [zX (by simp; exact ⟨h1,h2⟩)]; exact e
 exact ⟨go _ _ hs.1 (hT.tup R.tu) R.tu,go _ _ hs.2.1 (hT.lst R.li) R.li,fun z hz=>go _ _ (hs.2.2 z hz) (hT.lst (R.st z hz)) (R.st z hz)⟩
section
variable {K : PySem.W.Frag} {T0 s dr : Addr} {ds : List Int} {Γ : Cxt} {te : TE} {lo hi : Int} {x : Nat}
theorem wF (hd : Γ[x]? = some (some (QQ (.ref s)))) (h : Tp (stV T0 s dr ds) Γ te (tyI lo hi)) (h1 : 1≤lo:=by first | decide | omega) : Tp (stV T0 s dr ds) Γ (zcQ (wk T0) [] E0 (wI (Um x) (wI te YJ))) (tyI 0 (hi - 1)):=fun σ H Q o f q=>by
 obtain ⟨v,e,t⟩:=f.2 x _ hd
 refine ⟨v,e,h σ H _ o f fun u H1 o1 s1 ⟨m,e1,a1,b1⟩=>⟨s,dr,ds,m.toNat,by rw [show v = V.ref s from t,e1,show ((m.toNat : Nat) : Int) = m by omega]; rfl,o1.1,by omega,o1.2,fun r H' hr _ S lt=>q _ H' ⟨S.st,lt⟩ (s1.trans (zc2 S)) ⟨r,rfl,by omega,by omega⟩⟩⟩
def UL (ls : List (List Int)) : PyData:=.list (ls.map fun l=>.list (l.map .int))
def tyRx (b : Nat) (ls : List (List Int)) : Ty:=⟨fun G v=>∃ r bl,v = .ref r∧G r = some (.tup [.int b,.ref bl])∧ThAt G (UL ls) (.ref bl),fun s ⟨r,bl,h1,h2,h3⟩=>⟨r,bl,h1,s _ _ h2,h3.same s⟩⟩
theorem tyRx.of {G : Hp} {r bl : Addr} {b : Nat} {zs : List (Addr × List Int)} (R : RuleAt G r b bl zs) : (tyRx b (zs.map (·.2))).p G (.ref r):=by
 refine ⟨r,bl,rfl,R.tu,?_⟩
 unfold UL
 rw [List.map_map]
 exact ThAt.lst R.li (ThsAt.map fun z hz=>ThAt.ints (R.st z hz))
theorem zdJ {w : View} {b i j : Nat} {ls : List (List Int)} {T : Ty} (h : Γ[x]? = some (some (tyRx b ls))) : TpS w Γ (zam (Um x) (zfy K 2 (zc8 (YS i) (zc8 (YS j) zft)))) ((Γ.set i (some (tyI b b))).set j (some (tyD (UL ls)))) T:=fun D σ H o f qn qr=>by
 obtain ⟨v,e,r,bl,e1,h1,h2⟩:=f.2 x _ h
 refine ⟨v,e,r,_,e1,SqT.of (w.out h1),rfl,_,_,rfl,_,_,rfl,rfl,qn _ H o (Same.refl _) ?_⟩
 exact (f.set (T:=tyI b b) ⟨b,rfl,Int.le_refl _,Int.le_refl _⟩).set (T:=tyD (UL ls)) h2
end
def YW (b : Int) : PyData->Bool:=fun d=>!Zj b d
def noStr (b : Int) : PyData->Bool:=fun d=>!yq b d
def Za (b : Int) : PyData->Bool:=fun d=>!Jb b d
def Xp : PyData->Bool:=fun d=>!xV d
def zbh : PyData->Bool:=fun d=>!uI d
def zbH : PyData->Bool:=fun d=>!ZP d
def isI (b : Int) : PyData->Bool
 | .int i=>decide (i = b)
 | _=>false
section
variable {b : Int} {s : Nat}
theorem j6 (hs : s ≠ 2) : ∀ d,shT d = s->YW b d = true:=fun d h=>by cases d <;> first | rfl | exact absurd h.symm hs
theorem X5 (hs : s ≠ 4) : ∀ d,shT d = s->noStr b d = true:=fun d h=>by cases d <;> first | rfl | exact absurd h.symm hs
theorem Xn (hs : s ≠ 4) : ∀ d,shT d = s->Za b d = true:=fun d h=>by cases d <;> first | rfl | exact absurd h.symm hs
theorem qT (hs : s ≠ 5) : ∀ d,shT d = s->Xp d = true:=fun d h=>by cases d <;> first | rfl | exact absurd h.symm hs
theorem Yi (hs : s ≠ 2) : ∀ d,shT d = s->zbh d = true:=fun d h=>by cases d <;> first | rfl | exact absurd h.symm hs
theorem jM {x : Int} (h : x < 0∨b≤x) : YW b (.int x) = true:=by
 show (!decide (0≤x∧x < b)) = true
 rw [decide_eq_false (by omega)]; rfl
theorem Xz {x : Int} (h : x < 2∨16 < x) : zbh (.int x) = true:=by
 show (!decide (2≤x∧x≤16)) = true
 rw [decide_eq_false (by omega)]; rfl
theorem Qz {x : Int} (h : x < 0) : zbH (.int x) = true:=by
 show (!decide (0≤x)) = true
 rw [decide_eq_false (by omega)]; rfl
theorem Vl {c : Bool} (h : (!c) = true) : c = false:=by cases c <;> first | rfl | cases h
theorem zcJ (ds : List PyData) (d : PyData) (h : d ∈ ds) (hd : YW b d = true) : noStr b (.list ds) = true:=by
 have : ds.all (Zj b) = false:=by
  rw [List.all_eq_false]
  exact ⟨d,h,by rw [Vl hd]; intro z; cases z⟩
 show (!(ds.all (Zj b) && _)) = true
 rw [this]; rfl
theorem U7 {ds : List PyData} (h : ds.length < 1∨4 < ds.length) : noStr b (.list ds) = true:=by
 show (!(ds.all (Zj b) && decide (1≤ds.length∧ds.length≤4))) = true
 rw [decide_eq_false (by omega),Bool.and_false]; rfl
theorem JP (ds : List PyData) (d : PyData) (h : d ∈ ds) (hd : noStr b d = true) : Za b (.list ds) = true:=by
 have : ds.all (yq b) = false:=by
  rw [List.all_eq_false]
  exact ⟨d,h,by rw [Vl hd]; intro z; cases z⟩
 show (!(decide (ds.length≤4) && (ds.all (yq b) && xN (ds.map wM)))) = true
 rw [this,Bool.false_and,Bool.and_false]; rfl
theorem zck {ds : List PyData} (h : 4 < ds.length) : Za b (.list ds) = true:=by
 show (!(decide (ds.length≤4) && _)) = true
 rw [decide_eq_false (by omega),Bool.false_and]; rfl
theorem Y5 {us : List (List Int)} {k : Nat} {x y : List Int} (hx : us[k]? = some x) (hy : us[k + 1]? = some y) (h : HT.lexLt x y = false) : xN us = false:=by
 unfold xN
 rw [List.all_eq_false]
 refine ⟨k,List.mem_range.mpr ?_,?_⟩
 ·have:=(List.getElem?_eq_some_iff.mp hy).1; omega
 ·rw [List.getD_eq_getElem?_getD,List.getD_eq_getElem?_getD,hx,hy]
  show ¬ HT.lexLt x y = true
  rw [h]; intro z; cases z
theorem jl {ds : List PyData} (h : xN (ds.map wM) = false) : Za b (.list ds) = true:=by
 show (!(decide (ds.length≤4) && (ds.all (yq b) && xN (ds.map wM)))) = true
 rw [h,Bool.and_false,Bool.and_false]; rfl
theorem U8 {d e : PyData} (h : HT.lexLt (wM d) (wM e) = false) (ds : List PyData) : Za b (.list (ds ++ [d,e])) = true:=by
 refine jl (Y5 (k:=ds.length) (x:=wM d) (y:=wM e) ?_ ?_ h)
 ·rw [List.getElem?_map,List.getElem?_append_right (Nat.le_refl _),Nat.sub_self]; rfl
 ·rw [List.getElem?_map,List.getElem?_append_right (Nat.le_succ _),show ds.length + 1 - ds.length = 1 by omega]; rfl
theorem zdH {b : Int} (d e : PyData) (h : isI b d = true) (he : Za b e = true) : Xp (.tuple [d,e]) = true:=by
 cases d with
 | int i =>
  have h : i = b:=of_decide_eq_true h
  subst h
  show (!(uI (.int i) && Jb i e)) = true
  rw [Vl he,Bool.and_false]; rfl
 | _=>cases h
theorem zd2 (d e : PyData) (h : zbh d = true) (_ : (fun _=>true) e = true) : Xp (.tuple [d,e]) = true:=by
 show (!(uI d && Jb (jk d) e)) = true
 rw [Vl h,Bool.false_and]; rfl
theorem Wr {ds : List PyData} (h : ds.length ≠ 2) : Xp (.tuple ds) = true:=by
 match ds,h with
 | [],_=>rfl
 | [_],_=>rfl
 | [_,_],h=>exact absurd rfl h
 | _ :: _ :: _ :: _,_=>rfl
theorem ints_map (l : List Int) : wM (.list (l.map .int)) = l:=by
 show (l.map PyData.int).map jk = l
 rw [List.map_map]
 conv=>rhs; rw [← List.map_id l]
 rfl
theorem Qs (ls : List (List Int)) : (ls.map fun l=>PyData.list (l.map .int)).map wM = ls:=by
 rw [List.map_map]
 conv=>rhs; rw [← List.map_id ls]
 exact List.map_congr_left fun l _=>ints_map l
end
structure zau (mg : Str->Option Value) (CNoBase CNoNumber CNoFigures CNoRule CNoStand CNoGood CEndless CNoRules CNoStretch CTooMany CNoText CNoName CNoRow : Addr) : Prop where
 g_NoBase : mg "NoBase" = some (.ref CNoBase)
 g_NoNumber : mg "NoNumber" = some (.ref CNoNumber)
 g_NoFigures : mg "NoFigures" = some (.ref CNoFigures)
 g_NoRule : mg "NoRule" = some (.ref CNoRule)
 g_NoStand : mg "NoStand" = some (.ref CNoStand)
 g_NoGood : mg "NoGood" = some (.ref CNoGood)
 g_Endless : mg "Endless" = some (.ref CEndless)
 g_NoRules : mg "NoRules" = some (.ref CNoRules)
 g_NoStretch : mg "NoStretch" = some (.ref CNoStretch)
 g_TooMany : mg "TooMany" = some (.ref CTooMany)
 g_NoText : mg "NoText" = some (.ref CNoText)
 g_NoName : mg "NoName" = some (.ref CNoName)
 g_NoRow : mg "NoRow" = some (.ref CNoRow)
structure XS (K : PySem.W.Frag) (C CNoBase CNoNumber CNoFigures CNoRule CNoStand CNoGood CEndless CNoRules CNoStretch CTooMany CNoText CNoName CNoRow : Addr) (k : Nat) : Prop where
 i : W4 K C
 v : PySem.W.kitOne K (.ref C) (.type "ValueError") = some true
 k0 : PySem.W.kitOne K (.ref C) (.ref CNoBase) = some (decide (0 = k))
 k1 : PySem.W.kitOne K (.ref C) (.ref CNoNumber) = some (decide (1 = k))
 k2 : PySem.W.kitOne K (.ref C) (.ref CNoFigures) = some (decide (2 = k))
 k3 : PySem.W.kitOne K (.ref C) (.ref CNoRule) = some (decide (3 = k))
 k4 : PySem.W.kitOne K (.ref C) (.ref CNoStand) = some (decide (4 = k))
 k5 : PySem.W.kitOne K (.ref C) (.ref CNoGood) = some (decide (5 = k))
 k6 : PySem.W.kitOne K (.ref C) (.ref CEndless) = some (decide (6 = k))
 k7 : PySem.W.kitOne K (.ref C) (.ref CNoRules) = some (decide (7 = k))
 k8 : PySem.W.kitOne K (.ref C) (.ref CNoStretch) = some (decide (8 = k))
 k9 : PySem.W.kitOne K (.ref C) (.ref CTooMany) = some (decide (9 = k))
 k10 : PySem.W.kitOne K (.ref C) (.ref CNoText) = some (decide (10 = k))
 k11 : PySem.W.kitOne K (.ref C) (.ref CNoName) = some (decide (11 = k))
 k12 : PySem.W.kitOne K (.ref C) (.ref CNoRow) = some (decide (12 = k))
theorem WX : bootBuiltins "ValueError" = some (.type "ValueError"):=by decide +kernel
theorem QF {K : PySem.W.Frag} {H : Hp} : ∀ {bs : List Bool},TrsAt K H (bs.map Tr.bl) (bs.map V.bl)
 | []=>by rw [List.map_nil,List.map_nil,TrsAt]
 | b :: bs=>by rw [List.map_cons,List.map_cons,TrsAt]; exact ⟨_,_,rfl,by rw [TrAt],QF⟩
theorem VM : ∀ bs : List Bool,qe (bs.map Tr.bl) (bs.map Tr.bl) = true
 | []=>by rw [List.map_nil,qe]
 | b :: bs=>by rw [List.map_cons,qe,VM bs,teq]; simp
theorem WF : ∀ bs : List Bool,xW (bs.map Tr.bl) = 0
 | []=>by rw [List.map_nil,xW]
 | b :: bs=>by rw [List.map_cons,xW,WF bs]; rfl
def zfG (k j : Nat) : Prop:=(k = 3∧j = 0)∨(k = 1∧j = 1)∨(k = 5∧j = 2)∨(k = 2∧j = 3)
section
variable {P : Program} {w : World} {K : PySem.W.Frag} {mg : Str->Option Value} {base : Heap}
def jP (K : PySem.W.Frag) (CNoBase CNoNumber CNoFigures CNoRule CNoStand CNoGood CEndless CNoRules CNoStretch CTooMany CNoText CNoName CNoRow : Addr) : Sp:=fun vs H Q _=>∃ (e C : Addr) (k j : Nat),vs = [.ref e,.int j]∧H e = some (Vw e C)∧XS K C CNoBase CNoNumber CNoFigures CNoRule CNoStand CNoGood CEndless CNoRules CNoStretch CTooMany CNoText CNoName CNoRow k∧zfG k j∧∀ H',Same H H'->Q (.bl true) H'
theorem xJ : zK ["caught","due","kinds"] ["caught","due"] (zx vX):=⟨rfl,rfl,rfl,by decide +kernel,rfl,by decide +kernel,by decide +kernel⟩
set_option maxHeartbeats 0 in
theorem YQ {CNoBase CNoNumber CNoFigures CNoRule CNoStand CNoGood CEndless CNoRules CNoStretch CTooMany CNoText CNoName CNoRow : Addr} {f : Addr} {fd : FuncData} (D : Df K mg "_law_kinds" vX ["caught","due"] f fd) (XN : zau mg CNoBase CNoNumber CNoFigures CNoRule CNoStand CNoGood CEndless CNoRules CNoStretch CTooMany CNoText CNoName CNoRow) (n_ValueError : mg "ValueError" = none) (T : Blt mg) : FnOk P w K mg base CX0 1 f fd ["caught","due"] (jP K CNoBase CNoNumber CNoFigures CNoRule CNoStand CNoGood CEndless CNoRules CNoStretch CTooMany CNoText CNoName CNoRow):=by
 obtain ⟨g_NoBase,g_NoNumber,g_NoFigures,g_NoRule,g_NoStand,g_NoGood,g_Endless,g_NoRules,g_NoStretch,g_TooMany,g_NoText,g_NoName,g_NoRow⟩:=XN
 refine D.fn.ok xJ (fun vs H Q E h=>?_) (fun cdv A outer s H vs Q E hr h=>?_)
 ·obtain ⟨e,C,k,j,rfl,_⟩:=h; rfl
 ·obtain ⟨e,C,k,jj,rfl,he,Kd,hk,kk⟩:=h
  have HU:=Js hr
  refine ⟨_,(zp (zJ (i:=2) xJ.nd rfl (Or.inl rfl) (zO (zf (zF (uh K) (by rfl) T.n_isinstance boot_isinstance (zf (pv 0) (zf (xq (v:=.ref CNoRule) rfl g_NoRule rfl) zg))) (zf (zF (uh K) (by rfl) T.n_isinstance boot_isinstance (zf (pv 0) (zf (xq (v:=.ref CNoNumber) rfl g_NoNumber rfl) zg))) (zf (zF (uh K) (by rfl) T.n_isinstance boot_isinstance (zf (pv 0) (zf (xq (v:=.ref CNoGood) rfl g_NoGood rfl) zg))) zg)))))
   (zp (zJ (i:=2) xJ.nd rfl (Or.inl rfl) (zE yD (pv 2) (zO (zf (zF (uh K) (by rfl) T.n_isinstance boot_isinstance (zf (pv 0) (zf (xq (v:=.ref CNoFigures) rfl g_NoFigures rfl) zg))) (zf (zF (uh K) (by rfl) T.n_isinstance boot_isinstance (zf (pv 0) (zf (xq (v:=.ref CTooMany) rfl g_TooMany rfl) zg))) zg)))))
   (zp (zJ (i:=2) xJ.nd rfl (Or.inl rfl) (zE yD (pv 2) (zO (zf (zF (uh K) (by rfl) T.n_isinstance boot_isinstance (zf (pv 0) (zf (xq (v:=.ref CEndless) rfl g_Endless rfl) zg))) (zf (zF (uh K) (by rfl) T.n_isinstance boot_isinstance (zf (pv 0) (zf (xq (v:=.ref CNoBase) rfl g_NoBase rfl) zg))) zg)))))
   (zp (zJ (i:=2) xJ.nd rfl (Or.inl rfl) (zE yD (pv 2) (zO (zf (zF (uh K) (by rfl) T.n_isinstance boot_isinstance (zf (pv 0) (zf (xq (v:=.ref CNoRules) rfl g_NoRules rfl) zg))) (zf (zF (uh K) (by rfl) T.n_isinstance boot_isinstance (zf (pv 0) (zf (xq (v:=.ref CNoStand) rfl g_NoStand rfl) zg))) zg)))))
   (zp (zJ (i:=2) xJ.nd rfl (Or.inl rfl) (zE yD (pv 2) (zO (zf (zF (uh K) (by rfl) T.n_isinstance boot_isinstance (zf (pv 0) (zf (xq (v:=.ref CNoStretch) rfl g_NoStretch rfl) zg))) (zf (zF (uh K) (by rfl) T.n_isinstance boot_isinstance (zf (pv 0) (zf (xq (v:=.ref CNoText) rfl g_NoText rfl) zg))) zg)))))
   (zp (zJ (i:=2) xJ.nd rfl (Or.inl rfl) (zE yD (pv 2) (zO (zf (zF (uh K) (by rfl) T.n_isinstance boot_isinstance (zf (pv 0) (zf (xq (v:=.ref CNoName) rfl g_NoName rfl) zg))) (zf (zF (uh K) (by rfl) T.n_isinstance boot_isinstance (zf (pv 0) (zf (xq (v:=.ref CNoRow) rfl g_NoRow rfl) zg))) zg)))))
   (zp (wK (PW.pt (zbj (yE zbd (pv 0) vp (yw _)) (Qv (je (uA (zF (uh K) (by rfl) T.n_isinstance boot_isinstance (zf (pv 0) (zf (Yz (v:=.ty "ValueError") rfl n_ValueError WX rfl) zg))))))))
    (zA (zQ tW))
    yM)
   (zA (zQ (jN (zcw K HU) (pv 2) (vd (show CScope (zx vX) _ "k" ["caught","due","kinds"] ["due"] [1] from ⟨rfl,by decide +kernel,by decide +kernel,rfl,by decide +kernel,rfl,by decide +kernel,by decide +kernel⟩) rfl (yg rfl T.n_range (zf zm zg)) (fun _ _ _ _=>xM) (fun _ _ _ _=>(jN Vn (pv 0) (pv 1) (yw _)))) (yw _))))))))))),?_⟩
  show Ud _ _ _ _ _
  refine Tp.asg2 (w:=idV) (Γ:=[some (tyX e C),none,none]) (T1:=jQ [V.bl (decide (3 = k)),V.bl (decide (1 = k)),V.bl (decide (5 = k))]) (Tp.lstE (TpE.cons (Tp.isiC rfl Kd.i Kd.k3) (TpE.cons (Tp.isiC rfl Kd.i Kd.k1) (TpE.cons (Tp.isiC rfl Kd.i Kd.k5) TpE.nil)))) trivial (Fits.cons ⟨rfl,he⟩ (Fits.skip (Fits.skip Fits.nil))) fun v1 H1 _ s1 t1=>?_
  have m1 : Same H H1:=s1
  show Ud _ _ _ _ _
  refine Tp.asg2 (w:=idV) (Γ:=[some (tyX e C),none,some (jQ [V.bl (decide (3 = k)),V.bl (decide (1 = k)),V.bl (decide (5 = k))])]) (T1:=jQ ([V.bl (decide (3 = k)),V.bl (decide (1 = k)),V.bl (decide (5 = k))] ++ [V.bl (decide (2 = k)),V.bl (decide (9 = k))])) (Tp.catE (Tp.var rfl) (Tp.lstE (TpE.cons (Tp.isiC rfl Kd.i Kd.k2) (TpE.cons (Tp.isiC rfl Kd.i Kd.k9) TpE.nil)))) trivial (Fits.cons ⟨rfl,m1 _ _ he⟩ (Fits.skip (Fits.cons t1 Fits.nil))) fun v2 H2 _ s2 t2=>?_
  have t2 : (jQ [V.bl (decide (3 = k)),V.bl (decide (1 = k)),V.bl (decide (5 = k)),V.bl (decide (2 = k)),V.bl (decide (9 = k))]).p H2 v2:=t2
  have m2 : Same H H2:=m1.trans s2
  show Ud _ _ _ _ _
  refine Tp.asg2 (w:=idV) (Γ:=[some (tyX e C),none,some (jQ [V.bl (decide (3 = k)),V.bl (decide (1 = k)),V.bl (decide (5 = k)),V.bl (decide (2 = k)),V.bl (decide (9 = k))])]) (T1:=jQ ([V.bl (decide (3 = k)),V.bl (decide (1 = k)),V.bl (decide (5 = k)),V.bl (decide (2 = k)),V.bl (decide (9 = k))] ++ [V.bl (decide (6 = k)),V.bl (decide (0 = k))])) (Tp.catE (Tp.var rfl) (Tp.lstE (TpE.cons (Tp.isiC rfl Kd.i Kd.k6) (TpE.cons (Tp.isiC rfl Kd.i Kd.k0) TpE.nil)))) trivial (Fits.cons ⟨rfl,m2 _ _ he⟩ (Fits.skip (Fits.cons t2 Fits.nil))) fun v3 H3 _ s3 t3=>?_
  have t3 : (jQ [V.bl (decide (3 = k)),V.bl (decide (1 = k)),V.bl (decide (5 = k)),V.bl (decide (2 = k)),V.bl (decide (9 = k)),V.bl (decide (6 = k)),V.bl (decide (0 = k))]).p H3 v3:=t3
  have m3 : Same H H3:=m2.trans s3
  show Ud _ _ _ _ _
  refine Tp.asg2 (w:=idV) (Γ:=[some (tyX e C),none,some (jQ [V.bl (decide (3 = k)),V.bl (decide (1 = k)),V.bl (decide (5 = k)),V.bl (decide (2 = k)),V.bl (decide (9 = k)),V.bl (decide (6 = k)),V.bl (decide (0 = k))])]) (T1:=jQ ([V.bl (decide (3 = k)),V.bl (decide (1 = k)),V.bl (decide (5 = k)),V.bl (decide (2 = k)),V.bl (decide (9 = k)),V.bl (decide (6 = k)),V.bl (decide (0 = k))] ++ [V.bl (decide (7 = k)),V.bl (decide (4 = k))])) (Tp.catE (Tp.var rfl) (Tp.lstE (TpE.cons (Tp.isiC rfl Kd.i Kd.k7) (TpE.cons (Tp.isiC rfl Kd.i Kd.k4) TpE.nil)))) trivial (Fits.cons ⟨rfl,m3 _ _ he⟩ (Fits.skip (Fits.cons t3 Fits.nil))) fun v4 H4 _ s4 t4=>?_
  have t4 : (jQ [V.bl (decide (3 = k)),V.bl (decide (1 = k)),V.bl (decide (5 = k)),V.bl (decide (2 = k)),V.bl (decide (9 = k)),V.bl (decide (6 = k)),V.bl (decide (0 = k)),V.bl (decide (7 = k)),V.bl (decide (4 = k))]).p H4 v4:=t4
  have m4 : Same H H4:=m3.trans s4
  show Ud _ _ _ _ _
  refine Tp.asg2 (w:=idV) (Γ:=[some (tyX e C),none,some (jQ [V.bl (decide (3 = k)),V.bl (decide (1 = k)),V.bl (decide (5 = k)),V.bl (decide (2 = k)),V.bl (decide (9 = k)),V.bl (decide (6 = k)),V.bl (decide (0 = k)),V.bl (decide (7 = k)),V.bl (decide (4 = k))])]) (T1:=jQ ([V.bl (decide (3 = k)),V.bl (decide (1 = k)),V.bl (decide (5 = k)),V.bl (decide (2 = k)),V.bl (decide (9 = k)),V.bl (decide (6 = k)),V.bl (decide (0 = k)),V.bl (decide (7 = k)),V.bl (decide (4 = k))] ++ [V.bl (decide (8 = k)),V.bl (decide (10 = k))])) (Tp.catE (Tp.var rfl) (Tp.lstE (TpE.cons (Tp.isiC rfl Kd.i Kd.k8) (TpE.cons (Tp.isiC rfl Kd.i Kd.k10) TpE.nil)))) trivial (Fits.cons ⟨rfl,m4 _ _ he⟩ (Fits.skip (Fits.cons t4 Fits.nil))) fun v5 H5 _ s5 t5=>?_
  have t5 : (jQ [V.bl (decide (3 = k)),V.bl (decide (1 = k)),V.bl (decide (5 = k)),V.bl (decide (2 = k)),V.bl (decide (9 = k)),V.bl (decide (6 = k)),V.bl (decide (0 = k)),V.bl (decide (7 = k)),V.bl (decide (4 = k)),V.bl (decide (8 = k)),V.bl (decide (10 = k))]).p H5 v5:=t5
  have m5 : Same H H5:=m4.trans s5
  show Ud _ _ _ _ _
  refine Tp.asg2 (w:=idV) (Γ:=[some (tyX e C),none,some (jQ [V.bl (decide (3 = k)),V.bl (decide (1 = k)),V.bl (decide (5 = k)),V.bl (decide (2 = k)),V.bl (decide (9 = k)),V.bl (decide (6 = k)),V.bl (decide (0 = k)),V.bl (decide (7 = k)),V.bl (decide (4 = k)),V.bl (decide (8 = k)),V.bl (decide (10 = k))])]) (T1:=jQ ([V.bl (decide (3 = k)),V.bl (decide (1 = k)),V.bl (decide (5 = k)),V.bl (decide (2 = k)),V.bl (decide (9 = k)),V.bl (decide (6 = k)),V.bl (decide (0 = k)),V.bl (decide (7 = k)),V.bl (decide (4 = k)),V.bl (decide (8 = k)),V.bl (decide (10 = k))] ++ [V.bl (decide (11 = k)),V.bl (decide (12 = k))])) (Tp.catE (Tp.var rfl) (Tp.lstE (TpE.cons (Tp.isiC rfl Kd.i Kd.k11) (TpE.cons (Tp.isiC rfl Kd.i Kd.k12) TpE.nil)))) trivial (Fits.cons ⟨rfl,m5 _ _ he⟩ (Fits.skip (Fits.cons t5 Fits.nil))) fun v6 H6 _ s6 t6=>?_
  have t6 : (jQ [V.bl (decide (3 = k)),V.bl (decide (1 = k)),V.bl (decide (5 = k)),V.bl (decide (2 = k)),V.bl (decide (9 = k)),V.bl (decide (6 = k)),V.bl (decide (0 = k)),V.bl (decide (7 = k)),V.bl (decide (4 = k)),V.bl (decide (8 = k)),V.bl (decide (10 = k)),V.bl (decide (11 = k)),V.bl (decide (12 = k))]).p H6 v6:=t6
  have m6 : Same H H6:=m5.trans s6
  obtain ⟨l5,rfl,h5⟩:=t6
  have e5 : [V.bl (decide (3 = k)),V.bl (decide (1 = k)),V.bl (decide (5 = k)),V.bl (decide (2 = k)),V.bl (decide (9 = k)),V.bl (decide (6 = k)),V.bl (decide (0 = k)),V.bl (decide (7 = k)),V.bl (decide (4 = k)),V.bl (decide (8 = k)),V.bl (decide (10 = k)),V.bl (decide (11 = k)),V.bl (decide (12 = k))] = ((List.range 13).map fun j=>decide (j = jj)).map V.bl:=by
   rcases hk with ⟨rfl,rfl⟩ | ⟨rfl,rfl⟩ | ⟨rfl,rfl⟩ | ⟨rfl,rfl⟩ <;> rfl
  rw [e5] at h5
  have h5 : H6 l5 = some (.lst (((List.range 13).map fun j=>decide (j = jj)).map V.bl)):=h5
  refine ⟨_,rfl,rfl,_,rfl,zcd (decide_eq_false (fun z=>by cases z)) ?_⟩
  refine ⟨_,rfl,e,C,_,_,_,rfl,rfl,(fun _ h=>h),m6 _ _ he,Kd.i,Kd.v,_,rfl,wO ?_⟩
  refine ⟨_,rfl,13,rfl,by decide,by decide,wL (lo:=0) (n:=(13 : Int).toNat) (fun i ys Hq=>ys = ((List.range i).map fun j=>decide (j = jj)).map V.bl∧Hq = H6) ⟨rfl,rfl⟩ ?_ ?_⟩
  ·rintro i ys Hq hi ⟨rfl,rfl⟩
   have hi : i < 13:=hi
   refine ⟨by rw [List.length_map,List.length_map,List.length_range]; exact Nat.lt_of_lt_of_le hi (by decide),?_⟩
   unfold Ye
   dsimp only
   rw [if_pos rfl]
   refine ⟨_,rfl,_,rfl,rfl,?_,rfl⟩
   rw [List.range_succ,List.map_append,List.map_append]
   have e : decide (V.int (0 + (i : Int)) = V.int (jj : Int)) = decide (i = jj):=decide_eq_decide.mpr ⟨fun z=>by injection z with z; omega,fun z=>by rw [z,Int.zero_add]⟩
   rw [e]; rfl
  ·rintro ys Hq ⟨rfl,rfl⟩ Dd hD
   have mD:=zq hD (o:=.lst (((List.range (13 : Int).toNat).map fun j=>decide (j = jj)).map V.bl))
   refine ⟨.lst (((List.range 13).map fun j=>decide (j = jj)).map Tr.bl),.lst (((List.range 13).map fun j=>decide (j = jj)).map Tr.bl),?_,?_,?_,?_⟩
   ·rw [TrAt]; exact ⟨l5,_,rfl,SqL.of (mD _ _ h5),QF⟩
   ·rw [TrAt]; exact ⟨Dd,_,rfl,SqL.of zj,QF⟩
   ·rw [jg,WF]; decide
   ·have q:=kk _ (m6.trans mD)
    rw [← show teq (.lst (((List.range 13).map fun j=>decide (j = jj)).map Tr.bl)) (.lst (((List.range 13).map fun j=>decide (j = jj)).map Tr.bl)) = true by rw [teq]; exact VM _] at q
    exact q
end
theorem Fit.lst {k n n' : Nat} {ds : List PyData} (h : ∀ d ∈ ds,Fit k n d) (hn : (n + 1) * ds.length≤n') : Fit (k + 1) n' (.list ds):=by
 have go : ∀ ds : List PyData,(∀ d ∈ ds,Fit k n d)->PyData.leavesShortAll 40 ds = true∧PyData.showableAll ds = true∧PyData.depthAll ds≤k∧PyData.weightAll ds≤(n + 1) * ds.length:=by
  intro ds
  induction ds with
  | nil=>intro _; exact ⟨by rw [PyData.leavesShortAll],by rw [PyData.showableAll],by rw [PyData.depthAll]; exact Nat.zero_le _,by rw [PyData.weightAll]; exact Nat.zero_le _⟩
  | cons d ds ih =>
   intro h
   obtain ⟨g2,g3,g4,g5⟩:=ih fun d hd=>h d (.tail _ hd)
   have f:=h d (.head _)
   refine ⟨by rw [PyData.leavesShortAll,f.ls,g2]; rfl,by rw [PyData.showableAll,f.sh,g3]; rfl,?_,?_⟩
   ·rw [PyData.depthAll]; have:=f.dp; omega
   ·rw [PyData.weightAll,List.length_cons,Nat.mul_succ]; have:=f.wt; omega
 obtain ⟨g2,g3,g4,g5⟩:=go ds h
 exact ⟨by rw [PyData.leavesShort]; exact g2,by rw [PyData.showable]; exact g3,by rw [PyData.depth]; omega,by rw [PyData.weight]; omega⟩
theorem Fit.int {k n : Nat} {i : Int} (h : i.natAbs < 10 ^ 30) (hn : 100≤n) : Fit k n (.int i):=Th.fit (H:=fun _=>none) (v:=.int i) (Th.int h hn) (by rw [ThAt])
theorem Fit.ints {n : Nat} {l : List Int} (h : ∀ i ∈ l,i.natAbs < 10 ^ 30) (hn : 101 * l.length≤n) : Fit 1 n (.list (l.map .int)):=Fit.lst (k:=0) (n:=100) (fun d hd=>by
 obtain ⟨i,hi,rfl⟩:=List.mem_map.mp hd
 exact Fit.int (h i hi) (Nat.le_refl _)) (by rw [List.length_map]; exact hn)
theorem QL {b : Nat} {ls : List (List Int)} (g : yC b ls) : ∀ d ∈ ls.map (fun l=>PyData.list (l.map .int)),Fit 1 404 d:=fun d hd=>by
 obtain ⟨l,hl,rfl⟩:=List.mem_map.mp hd
 have st:=g.st l hl
 have b16:=g.b16
 exact Fit.ints (fun i hi=>by have:=st.fig i hi; omega) (by have:=st.len; omega)
theorem ze6 {b : Nat} {ls : List (List Int)} (g : yC b ls) (h : 1 < ls.length) : xN ((ls.map fun l=>PyData.list (l.map .int)).reverse.map wM) = false:=by
 rw [List.map_reverse,Qs]
 have h1 : ls.reverse[0]? = some ls[ls.length - 1]:=by rw [List.getElem?_reverse (by omega),List.getElem?_eq_getElem (show ls.length - 1 - 0 < ls.length by omega)]; rfl
 have h2 : ls.reverse[1]? = some ls[ls.length - 1 - 1]:=by rw [List.getElem?_reverse (by omega),List.getElem?_eq_getElem (show ls.length - 1 - 1 < ls.length by omega)]
 refine Y5 (k:=0) h1 h2 ?_
 have q:=List.pairwise_iff_getElem.mp g.up (ls.length - 1 - 1) (ls.length - 1) (by omega) (by omega) (by omega)
 cases z : HT.lexLt ls[ls.length - 1] ls[ls.length - 1 - 1] with
 | false=>rfl
 | true =>
  have:=HT.vW _ _ _ q z
  rw [HT.wY] at this; cases this
theorem ze5 {ls : List (List Int)} (h : 1 < ls.length) : xN (((ls.map fun l=>PyData.list (l.map .int)).take 1 ++ ls.map fun l=>PyData.list (l.map .int)).map wM) = false:=by
 rw [List.map_append,List.map_take,Qs]
 match ls,h with
 | a :: c :: r,_=>exact Y5 (k:=0) (x:=a) (y:=a) rfl rfl (HT.wY a)
section
variable {P : Program} {w : World} {K : PySem.W.Frag} {mg : Str->Option Value} {base : Heap} {T0 : Addr}
def qb (T0 : Addr) : Sp:=fun vs H Q _=>∃ (s dr : Addr) (ds : List Int) (r : Addr) (b : Nat) (bl : Addr) (zs : List (Addr × List Int)),vs = [.ref s,.ref r]∧Sto2 H s dr ds∧LT T0 H∧RuleAt (aw [s,T0] H) r b bl zs∧yC b (zs.map (·.2))∧∀ (v : V) (H' : Hp),Sto2 H' s dr ds->LT T0 H'->Same (aw [s,T0] H) (aw [s,T0] H')->(tyQ 4 33000 Xp).p (aw [s,T0] H') v->Q v H'
theorem zP : zK ["store","rule","base","bad","figure","one","at","bent","odd","some","two"] ["store","rule"] (zx wJ):=⟨rfl,rfl,rfl,by decide +kernel,rfl,by decide +kernel,by decide +kernel⟩
set_option maxHeartbeats 0 in
theorem WW {f f1 : Addr} {fd fd1 : FuncData} (D : Df K mg "_law_no_rule" wJ ["store","rule"] f fd) (zG : Df K mg "_law_take" xU ["store","many"] f1 fd1) (T : Blt mg) : FnOk P w K mg base CX0 2 f fd ["store","rule"] (qb T0):=by
 have zT : FnOk P w K mg base CX0 1 f1 fd1 ["store","many"] (wk T0):=vY zG T
 refine D.fn.ok zP (fun vs H Q E h=>?_) (fun cdv A outer s H vs Q E hr h=>?_)
 ·obtain ⟨s,dr,ds,r,b,bl,zs,rfl,_⟩:=h; rfl
 ·obtain ⟨s,dr,ds,r,b,bl,zs,rfl,St,lt,R,g,kk⟩:=h
  have HU:=Js hr
  refine ⟨_,(zp (zcH (pv 1) (zaN rfl (Zh (yK (i:=2) zP.nd rfl (Or.inr rfl)) (Zh (yK (i:=3) zP.nd rfl (Or.inl rfl)) Qw))))
   (zp (zJ (i:=4) zP.nd rfl (Or.inl rfl) (zaA (yl K) (yN (zu (pei (pv 2)) (zu (pei (Xx Z3 zm)) (zu (pei tW) (zu (pei tW) (zu (pei vp) (tE (zu (yN (zu yF yo)) (zu (XQ (zu yF yo)) (zu (pei jd) (zu (pei (zE Vq zm zm)) yo))))))))))) (yc zG zT (hr.mono (by decide)) (zf (pv 0) (zf zm zg))) (fun _ _=>rfl)))
   (zp (Zr (i:=5) (show CScope (zx wJ) _ "k" ["store","rule","base","bad","figure","one","at","bent","odd","some","two"] ["store","base"] [0,2] from ⟨rfl,by decide +kernel,by decide +kernel,rfl,by decide +kernel,rfl,by decide +kernel,by decide +kernel⟩) rfl zP.nd rfl (Or.inl rfl) (yg rfl T.n_range (zf (zE yO zm (yc zG zT (hr.mono (by decide)) (zf (pv 0) (zf zm zg)))) zg)) (fun _ _ _ _=>xM) (fun _ _ _ _=>(yc zG zT (hr.mono (by decide)) (zf (pv 1) (zf (pv 2) zg)))))
   (zp (zJ (i:=6) zP.nd rfl (Or.inl rfl) (yc zG zT (hr.mono (by decide)) (zf (pv 0) (zf (zF (xX K) (by rfl) T.n_len PySem.boot_len (zf (pv 5) zg)) zg))))
   (zp (zJ (i:=7) zP.nd rfl (Or.inl rfl) (zE yD (zE yD (yG (tV K) (pv 5) xO (xf (pv 6))) (zO (zf (pv 4) zg))) (yG (tV K) (pv 5) (xf (zE yO (pv 6) zm)) xO)))
   (zp (zJ (i:=8) zP.nd rfl (Or.inl rfl) (zaA (yl K) (yN (zu (pei (pv 7)) (zu (pei (pv 7)) (zu (pei (pv 7)) (zu (yN yo) (zu (pei (zE yD (pv 5) (zE QD (zO (zf zm zg)) zm))) (zu (pei (qR jZ (by rfl) T.n_tuple boot_tuple (zf (pv 5) zg))) (zu (pei vp) (zu yF (tE (zu (pei jd) yo))))))))))) (yc zG zT (hr.mono (by decide)) (zf (pv 0) (zf zm zg))) (fun _ _=>rfl)))
   (zp (zJ (i:=6) zP.nd rfl (Or.inl rfl) (yc zG zT (hr.mono (by decide)) (zf (pv 0) (zf (zE yO (zF (xX K) (by rfl) T.n_len PySem.boot_len (zf (pv 3) zg)) zm) zg))))
   (zp (zJ (i:=9) zP.nd rfl (Or.inl rfl) (zO (zf (zE yD (zE yD (yG (tV K) (pv 3) xO (xf (pv 6))) (zO (zf (pv 8) zg))) (yG (tV K) (pv 3) (xf (pv 6)) xO)) (zf (zE yD (zE yD (yG (tV K) (pv 3) xO (xf (pv 6))) (zO (zf (pv 8) zg))) (yG (tV K) (pv 3) (xf (zE yO (pv 6) zm)) xO)) (zf (qR jZ (by rfl) T.n_tuple boot_tuple (zf (pv 3) zg)) zg)))))
   (zp (zJ (i:=9) zP.nd rfl (Or.inl rfl) (zdC yD (pv 9) (yN (zu (pei (zE yD (pv 3) (zO (zf (zE QD (zO (zf (zE qd (pv 2) zm) zg)) zm) (zf (zO (zf zm zg)) zg))))) (zu (pei (zE yD (zE yD (pv 3) (yG (tV K) (pv 3) (xf (Xx Z3 zm)) xO)) (zO (zf (zO (zf zm zg)) (zf (zO (zf zm zg)) zg))))) (zu (pei vp) (zu (pei jd) (tE (zu yF yo)))))))))
   (zp (yQ (Z6 PySem.F.plainAttrs_list PySem.F.slot_list_append PySem.F.type_list_append xR (pv 9) (zdi (yN (zu (yN (zu yF yo)) (zu (yN (zu yF (zu yF yo))) (zu (yN (zu yF (zu yF yo))) (zu (yN (zu yF yo)) (zu (yN (zu yF (zu yF yo))) yo)))))) zg)))
   (zp (wK (yE zal (zF (xX K) (by rfl) T.n_len PySem.boot_len (zf (pv 3) zg)) zm (yw _))
    (zA (zJ (i:=9) zP.nd rfl (Or.inl rfl) (zE yD (pv 9) (zO (zf (JK (pv 3)) (zf (zE yD (yG (tV K) (pv 3) xO (xf zm)) (pv 3)) zg))))))
    yM)
   (zp (wK (yE zal (pv 2) zm (yw _))
    (zA (zJ (i:=9) zP.nd rfl (Or.inl rfl) (zE yD (pv 9) (zO (zf (zO (zf (zO (zf zm zg)) (zf (zO (zf zm zg)) zg))) (zf (zO (zf (zO (zf zm (zf zm zg))) (zf (zO (zf zm zg)) zg))) zg))))))
    yM)
   (zp (zJ (i:=5) zP.nd rfl (Or.inl rfl) (Yl (zf (pv 2) (zf (zY (yl K) (pv 9) (yc zG zT (hr.mono (by decide)) (zf (pv 0) (zf (zF (xX K) (by rfl) T.n_len PySem.boot_len (zf (pv 9) zg)) zg))) (fun _ _=>rfl)) zg))))
   (zp (zJ (i:=10) zP.nd rfl (Or.inl rfl) (Yl (zf (zaA (yl K) (yN (zu yF (zu yF (zu yF (zu (pei (Xx Z3 zm)) (zu (pei tW) (zu (pei vp) (tE (zu (yN (zu yF yo)) (zu (XQ (zu yF yo)) (zu (pei (zE Vq zm zm)) (zu (pei jd) yo)))))))))))) (yc zG zT (hr.mono (by decide)) (zf (pv 0) (zf zm zg))) (fun _ _=>rfl)) (zf (zO zg) zg))))
   (zp (Qx (i:=9) zP.nd rfl (Or.inl rfl) (yN (zu (pei (pv 5)) (zu (pei (pv 5)) (zu (pei (pv 5)) (zu (pei (pv 5)) (zu (pei (pv 10)) (zu (pei (pv 10)) (zu (pei (Yl (zf (pv 2) zg))) (zu (pei (Yl (zf (pv 2) (zf (pv 3) (zf (zO zg) zg))))) (zu (pei (zO (zf (pv 2) (zf (pv 3) zg)))) (zu (pei (pv 3)) (zu (pei (pv 2)) yo)))))))))))))
   (zA (zQ (zY (yl K) (zdC yD (pv 9) (yN (zu (pei vp) (tE (tE (zu (pei jd) (zu (XQ yo) (zu (pei tW) yo)))))))) (yc zG zT (hr.mono (by decide)) (zf (pv 0) (zf zm zg))) (fun _ _=>rfl))))))))))))))))))),?_⟩
  have R0:=tyRx.of R
  generalize zs.map (·.2) = ls at g R0
  have b2:=g.b2
  have b16:=g.b16
  have h4:=g.len
  have hb25 : (b : Int)≤10 ^ Int.toNat 25:=Int.le_trans (show (b : Int)≤16 by omega) (by decide)
  have hBx : ∀ {Γ : Cxt},Γ[3]? = some (some (tyD (UL ls)))->Tp (stV T0 s dr ds) Γ (Um 3) (tyL 1 404 (ls.map fun l=>PyData.list (l.map .int)).length (ls.map fun l=>PyData.list (l.map .int)).length):=fun h=>Tp.dL (Tp.var h) (QL g)
  rw [List.length_map] at hBx
  have hB : ∀ {Γ : Cxt},Γ[3]? = some (some (tyD (UL ls)))->Tp (stV T0 s dr ds) Γ (Um 3) (tyL 2 1809 0 4):=fun h=>Tp.wideL (hBx h) (fun _ _ t=>Th.le t (by decide) (by decide)) (Nat.zero_le _) h4
  have hB1 : ∀ {Γ : Cxt},Γ[3]? = some (some (tyD (UL ls)))->Tp (stV T0 s dr ds) Γ (Um 3) (tyL 1 404 0 4):=fun h=>Tp.wideL (hBx h) (fun _ _ t=>t) (Nat.zero_le _) h4
  have fit0 : Fit 1 404 (.list [.int 0]):=Fit.ints (l:=[0]) (by decide) (by decide)
  have fitP : Fit 1 404 (.list (List.replicate 4 [PyData.int ((b : Int) - 1)]).flatten):=Fit.ints (l:=[(b : Int) - 1,(b : Int) - 1,(b : Int) - 1,(b : Int) - 1]) (fun i hi=>by simp at hi; omega) (by show 101 * 4≤404; decide)
  have hlex : HT.lexLt (wM (.list (List.replicate 4 [PyData.int ((b : Int) - 1)]).flatten)) (wM (.list [.int 0])) = false:=by
   show HT.lexLt [(b : Int) - 1,(b : Int) - 1,(b : Int) - 1,(b : Int) - 1] [0] = false
   rw [HT.vL,if_neg (by omega)]
   exact decide_eq_false (by omega)
  have fitR : Fit 3 16290 (.list (ls.map fun l=>PyData.list (l.map .int)).reverse):=(Fit.lst (k:=1) (n:=404) (n':=16290) (fun d hd=>QL g d (List.mem_reverse.mp hd)) (by rw [List.length_reverse,List.length_map]; omega)).le (by decide) (by decide)
  have fitD : Fit 3 16290 (.list ((ls.map fun l=>PyData.list (l.map .int)).take 1 ++ ls.map fun l=>PyData.list (l.map .int))):=(Fit.lst (k:=1) (n:=404) (n':=16290) (fun d hd=>QL g d ((List.mem_append.mp hd).elim List.mem_of_mem_take id)) (by rw [List.length_append,List.length_take,List.length_map]; omega)).le (by decide) (by decide)
  have hl5 : ((ls.map fun l=>PyData.list (l.map .int)).take 1).length + (ls.map fun l=>PyData.list (l.map .int)).length≤10000:=by rw [List.length_take,List.length_map]; omega
  have fit21 : Fit 3 16290 (.list [.list [.int 2],.list [.int 1]]):=(Fit.lst (k:=1) (n:=404) (n':=16290) (fun d hd=>by
   simp only [List.mem_cons,List.not_mem_nil,or_false] at hd
   rcases hd with rfl | rfl
   ·exact Fit.ints (l:=[2]) (by decide) (by decide)
   ·exact Fit.ints (l:=[1]) (by decide) (by decide)) (by decide)).le (by decide) (by decide)
  have fit111 : Fit 3 16290 (.list [.list [.int 1,.int 1],.list [.int 1]]):=(Fit.lst (k:=1) (n:=404) (n':=16290) (fun d hd=>by
   simp only [List.mem_cons,List.not_mem_nil,or_false] at hd
   rcases hd with rfl | rfl
   ·exact Fit.ints (l:=[1,1]) (by decide) (by decide)
   ·exact Fit.ints (l:=[1]) (by decide) (by decide)) (by decide)).le (by decide) (by decide)
  refine TpS.go (w:=stV T0 s dr ds) (Γ:=[some (QQ (.ref s)),some (tyRx b ls),none,none,none,none,none,none,none,none,none]) (Γ':=[some zc1]) (T:=tyQ 4 33000 Xp) ?ty ⟨St,lt⟩ (Fits.cons rfl (Fits.cons R0 (Fits.any [none,none,none,none,none,none,none,none,none]))) (fun _ _ _ _ h=>h.no.elim) ?qr
  case ty=>exact
   (TpS.seq (zdJ rfl)
   (TpS.seq (TpS.asg (Tp.ix (T:=tyQ 1 200 (YW b)) (Tp.lstT (TpB.cons (Tp.qI (Tp.var rfl) (fun x h1 h2=>jM (.inr (by omega))) (by omega) (by omega))
    (TpB.cons (Tp.qI (Tp.neg Tp.int) (fun x h1 h2=>jM (.inl (by omega))))
    (TpB.cons (Tp.sQ Tp.blS (j6 (by decide)))
    (TpB.cons (Tp.sQ Tp.blS (j6 (by decide)))
    (TpB.cons (Tp.sQ Tp.nonS (j6 (by decide)))
    (TpB.cons (Tp.sQ (Tp.strS (by decide +kernel) (by decide +kernel)) (j6 (by decide)))
    (TpB.cons (Tp.sQ (Tp.lS (Tp.lst (TpA.cons (Tp.ofI Tp.int) TpA.nil))) (j6 (by decide)))
    (TpB.cons (Tp.tupQ (TpA.cons (Tp.ofI Tp.int) TpA.nil) (fun _ _=>rfl))
    (TpB.cons (Tp.sQ Tp.empS (j6 (by decide)))
    (TpB.cons (Tp.qI (Tp.pow ⟨by decide,by decide,by decide⟩) (fun x h1 h2=>jM (.inr (Int.le_trans hb25 h1))))
    TpB.nil))))))))))) (wF rfl Tp.int) (by decide)))
   (TpS.seq (TpS.asg (T1:=yI (tyI 0 ((b : Int) - 1)) 1 4) (Tp.compC (lo:=1) (hi:=4) (Tp.wide (Tp.add Tp.int (wF rfl Tp.int)) (by decide) (by decide)) (wF rfl (Tp.var rfl))))
   (TpS.seq (TpS.asg (wF rfl (Tp.len (Tp.var rfl))))
   (TpS.seq (TpS.asg (T1:=tyQ 2 1809 (noStr b)) (Tp.lxQ (Tp.catXl (Tp.catXr (Tp.leL (Tp.ofLI (Tp.sl (Tp.var rfl) TpO.none (TpO.some (Tp.var rfl))) (by decide) (by omega))) (Tp.oneX (Tp.var rfl))) (Tp.leL (Tp.ofLI (Tp.sl (Tp.var rfl) (TpO.some (Tp.add (Tp.var rfl) Tp.int)) TpO.none) (by decide) (by omega)))) zcJ))
   (TpS.seq (TpS.asg (Tp.ix (T:=tyQ 2 1809 (noStr b)) (Tp.lstT (TpB.cons (Tp.var rfl)
    (TpB.cons (Tp.var rfl)
    (TpB.cons (Tp.var rfl)
    (TpB.cons (Tp.lenQ (Tp.lst TpA.nil) (fun ds _ h=>U7 (.inl (by omega))))
    (TpB.cons (Tp.lenQ (Tp.cat (Tp.ofLI (Tp.var rfl) (by decide) (by omega)) (Tp.rep (c:=4) (c':=4) (Tp.lst (TpA.cons (Tp.ofI Tp.int) TpA.nil)) Tp.int)) (fun ds h _=>U7 (.inr (by omega))))
    (TpB.cons (Tp.sQ (Tp.tupOfS (Tp.ofLI (Tp.var rfl) (by decide) (by omega))) (X5 (by decide)))
    (TpB.cons (Tp.sQ Tp.nonS (X5 (by decide)))
    (TpB.cons (Tp.qI Tp.int (fun _ _ _=>rfl))
    (TpB.cons (Tp.sQ (Tp.strS (by decide +kernel) (by decide +kernel)) (X5 (by decide)))
    (TpB.cons (Tp.sQ Tp.empS (X5 (by decide)))
    TpB.nil))))))))))) (wF rfl Tp.int) (by decide)))
   (TpS.seq (TpS.asg (wF rfl (Tp.add (Tp.len (hB rfl)) Tp.int)))
   (TpS.weak (Γ':=[some (QQ (.ref s)),some (tyRx b ls),some (tyI b b),some (tyD (UL ls)),some (tyQ 1 200 (YW b)),some (yI (tyI 0 ((b : Int) - 1)) 1 4),some (tyI 0 4),some (tyQ 2 1809 (noStr b)),some (tyQ 2 1809 (noStr b)),none,none]) (fun _ _ f=>CSub.fits (by exact ⟨fun _ _ h=>h,fun _ _ h=>h,fun _ _ h=>h,fun _ _ h=>h,fun _ _ h=>h,fun _ _ h=>h,fun _ _ ⟨i,e,x,y⟩=>⟨i,e,by omega,by omega⟩,fun _ _ h=>h,fun _ _ h=>h,trivial⟩) f)
   (TpS.seq (TpS.asg (T1:=yI (tyQ 3 16290 (Za b)) 3 3) (Tp.lstT (TpB.cons (Tp.lxQ (Tp.catXl (Tp.catXr (Tp.sl (hB rfl) TpO.none (TpO.some (Tp.var rfl))) (Tp.oneX (Tp.var rfl))) (Tp.sl (hB rfl) (TpO.some (Tp.var rfl)) TpO.none)) JP)
    (TpB.cons (Tp.lxQ (Tp.catXl (Tp.catXr (Tp.sl (hB rfl) TpO.none (TpO.some (Tp.var rfl))) (Tp.oneX (Tp.var rfl))) (Tp.sl (hB rfl) (TpO.some (Tp.add (Tp.var rfl) Tp.int)) TpO.none)) JP)
    (TpB.cons (Tp.sQ (Tp.tupOfS (hB rfl)) (Xn (by decide)))
    TpB.nil)))))
   (TpS.catApp (hx:=by simp) (T:=tyQ 3 16290 (Za b)) zdg (Tp.var rfl) (Tp.lstT (TpB.cons (Tp.end2 (hB1 rfl) (Tp.repD (c:=4) (Tp.lstD (TpD.cons (Tp.ofID (Tp.subI (Tp.var rfl) Tp.int)) TpD.nil))) (Tp.lstD (TpD.cons Tp.intD TpD.nil)) fitP fit0 (U8 hlex))
    (TpB.cons (Tp.end2 (Tp.catT (hB1 rfl) (Tp.sl (hB1 rfl) (TpO.some (Tp.neg Tp.int)) TpO.none)) (Tp.lstD (TpD.cons Tp.intD TpD.nil)) (Tp.lstD (TpD.cons Tp.intD TpD.nil)) fit0 fit0 (U8 (by rfl)))
    (TpB.cons (Tp.sQ Tp.nonS (Xn (by decide)))
    (TpB.cons (Tp.sQ Tp.empS (Xn (by decide)))
    (TpB.cons (Tp.sQ (Tp.strS (by decide +kernel) (by decide +kernel)) (Xn (by decide)))
    (TpB.cons (Tp.qI Tp.int (fun _ _ _=>rfl))
    TpB.nil))))))) (fun _ _ _=>(Tp.lenQ (Tp.lst (TpA.cons (Tp.ofL (Tp.lst (TpA.cons (Tp.ofI Tp.int) TpA.nil))) (TpA.cons (Tp.ofL (Tp.lst (TpA.cons (Tp.ofI Tp.int) (TpA.cons (Tp.ofI Tp.int) TpA.nil)))) (TpA.cons (Tp.ofL (Tp.lst (TpA.cons (Tp.ofI Tp.int) (TpA.cons (Tp.ofI Tp.int) TpA.nil)))) (TpA.cons (Tp.ofL (Tp.lst (TpA.cons (Tp.ofI Tp.int) TpA.nil))) (TpA.cons (Tp.ofL (Tp.lst (TpA.cons (Tp.ofI Tp.int) (TpA.cons (Tp.ofI Tp.int) TpA.nil)))) TpA.nil)))))) (fun ds h _=>zck (by omega))))
   (TpS.seq (Γ1:=[some (QQ (.ref s)),some (tyRx b ls),some (tyI b b),some (tyD (UL ls)),some (tyQ 1 200 (YW b)),some (yI (tyI 0 ((b : Int) - 1)) 1 4),some (tyI 0 4),some (tyQ 2 1809 (noStr b)),some (tyQ 2 1809 (noStr b)),some (yI (tyQ 3 16290 (Za b)) 10 12),none]) (by
    rcases Nat.lt_or_ge 1 ls.length with h | h
    ·have hrev:=ze6 g h
     have hdbl:=ze5 h
     exact TpS.post (TpS.gtT (Tp.len (hBx rfl)) Tp.int (by omega) (TpS.asg (T1:=yI (tyQ 3 16290 (Za b)) 12 12) (Tp.catT (Tp.var rfl) (Tp.lstT (TpB.cons (Tp.dQ (Tp.revD (Tp.var rfl)) fitR (jl hrev))
    (TpB.cons (Tp.dQ (Tp.catD (Tp.takeD (c:=1) (Tp.var rfl)) (Tp.var rfl) hl5) fitD (jl hdbl))
    TpB.nil)))))) (by exact ⟨fun _ _ h=>h,fun _ _ h=>h,fun _ _ h=>h,fun _ _ h=>h,fun _ _ h=>h,fun _ _ h=>h,fun _ _ h=>h,fun _ _ h=>h,fun _ _ h=>h,fun _ _ ⟨a,vs,e,g,l,m,r⟩=>⟨a,vs,e,g,by omega,by omega,r⟩,trivial⟩)
    ·exact TpS.post (TpS.gtF (Tp.len (hBx rfl)) Tp.int (by omega) TpS.nil) (by exact ⟨fun _ _ h=>h,fun _ _ h=>h,fun _ _ h=>h,fun _ _ h=>h,fun _ _ h=>h,fun _ _ h=>h,fun _ _ h=>h,fun _ _ h=>h,fun _ _ h=>h,fun _ _ ⟨a,vs,e,g,l,m,r⟩=>⟨a,vs,e,g,by omega,by omega,r⟩,trivial⟩))
   (TpS.seq (Γ1:=[some (QQ (.ref s)),some (tyRx b ls),some (tyI b b),some (tyD (UL ls)),some (tyQ 1 200 (YW b)),some (yI (tyI 0 ((b : Int) - 1)) 1 4),some (tyI 0 4),some (tyQ 2 1809 (noStr b)),some (tyQ 2 1809 (noStr b)),some (yI (tyQ 3 16290 (Za b)) 10 14),none]) (by
    rcases Nat.lt_or_ge 2 b with h | h
    ·exact TpS.post (TpS.gtT (Tp.var rfl) Tp.int (by omega) (TpS.asg (T1:=yI (tyQ 3 16290 (Za b)) 12 14) (Tp.catT (Tp.var rfl) (Tp.lstT (TpB.cons (Tp.dQ (Tp.lstD (TpD.cons (Tp.lstD (TpD.cons Tp.intD TpD.nil)) (TpD.cons (Tp.lstD (TpD.cons Tp.intD TpD.nil)) TpD.nil))) fit21 (jl (by rfl)))
    (TpB.cons (Tp.dQ (Tp.lstD (TpD.cons (Tp.lstD (TpD.cons Tp.intD (TpD.cons Tp.intD TpD.nil))) (TpD.cons (Tp.lstD (TpD.cons Tp.intD TpD.nil)) TpD.nil))) fit111 (jl (by rfl)))
    TpB.nil)))))) (by exact ⟨fun _ _ h=>h,fun _ _ h=>h,fun _ _ h=>h,fun _ _ h=>h,fun _ _ h=>h,fun _ _ h=>h,fun _ _ h=>h,fun _ _ h=>h,fun _ _ h=>h,fun _ _ ⟨a,vs,e,g,l,m,r⟩=>⟨a,vs,e,g,by omega,by omega,r⟩,trivial⟩)
    ·exact TpS.post (TpS.gtF (Tp.var rfl) Tp.int (by omega) TpS.nil) (by exact ⟨fun _ _ h=>h,fun _ _ h=>h,fun _ _ h=>h,fun _ _ h=>h,fun _ _ h=>h,fun _ _ h=>h,fun _ _ h=>h,fun _ _ h=>h,fun _ _ h=>h,fun _ _ ⟨a,vs,e,g,l,m,r⟩=>⟨a,vs,e,g,by omega,by omega,r⟩,trivial⟩))
   (TpS.seq (TpS.asg (T1:=tyQ 4 33000 Xp) (Tp.tup2 (k:=3) (n:=16290) (P:=isI b) (P':=Za b) (Tp.qI (Tp.var rfl) (fun x h1 h2=>decide_eq_true (by omega)) (by omega) (by omega)) (Tp.ixL rfl (by decide) (fun m Γ' h e=>by subst e; exact wF rfl (Tp.len (Tp.var rfl)) (by omega))) zdH))
   (TpS.seq (TpS.asg (T1:=tyQ 4 33000 Xp) (Tp.tup2 (k:=3) (n:=16290) (P:=zbh) (P':=fun _=>true) (Tp.ix (Tp.lstT (TpB.cons (Tp.qI Tp.int (fun x h1 h2=>Xz (.inl (by omega))))
    (TpB.cons (Tp.qI Tp.int (fun x h1 h2=>Xz (.inl (by omega))))
    (TpB.cons (Tp.qI Tp.int (fun x h1 h2=>Xz (.inr (by omega))))
    (TpB.cons (Tp.qI (Tp.neg Tp.int) (fun x h1 h2=>Xz (.inl (by omega))))
    (TpB.cons (Tp.sQ Tp.blS (Yi (by decide)))
    (TpB.cons (Tp.sQ Tp.nonS (Yi (by decide)))
    (TpB.cons (Tp.sQ (Tp.strS (by decide +kernel) (by decide +kernel)) (Yi (by decide)))
    (TpB.cons (Tp.sQ (Tp.lS (Tp.lst (TpA.cons (Tp.ofI Tp.int) TpA.nil))) (Yi (by decide)))
    (TpB.cons (Tp.tupQ (TpA.cons (Tp.ofI Tp.int) TpA.nil) (fun _ _=>rfl))
    (TpB.cons (Tp.qI (Tp.pow ⟨by decide,by decide,by decide⟩) (fun x h1 h2=>Xz (.inr (Int.lt_of_lt_of_le (by decide) h1))))
    (TpB.cons (Tp.sQ Tp.empS (Yi (by decide)))
    TpB.nil)))))))))))) (wF rfl Tp.int) (by decide)) (Tp.lenQ (Tp.lst TpA.nil) (fun _ _ _=>rfl)) zd2))
   (TpS.seq (TpS.asg (T1:=yI (tyQ 4 33000 Xp) 11 11) (Tp.lstT (TpB.cons (Tp.var rfl)
    (TpB.cons (Tp.var rfl)
    (TpB.cons (Tp.var rfl)
    (TpB.cons (Tp.var rfl)
    (TpB.cons (Tp.var rfl)
    (TpB.cons (Tp.var rfl)
    (TpB.cons (Tp.tupQ (TpA.cons (Tp.ofI (Tp.var rfl) (by omega) (by omega)) TpA.nil) (fun ds h=>Wr (by omega)))
    (TpB.cons (Tp.tupQ (TpA.cons (Tp.ofI (Tp.var rfl) (by omega) (by omega)) (TpA.cons (Tp.ofL (hB rfl)) (TpA.cons (Tp.ofL (Tp.lst TpA.nil)) TpA.nil))) (fun ds h=>Wr (by omega)))
    (TpB.cons (Tp.sQ (Tp.lS (Tp.lst (TpA.cons (Tp.ofI (Tp.var rfl) (by omega) (by omega)) (TpA.cons (Tp.ofL (hB rfl)) TpA.nil)))) (qT (by decide)))
    (TpB.cons (Tp.sQ (Tp.lS (hB rfl)) (qT (by decide)))
    (TpB.cons (Tp.qI (Tp.var rfl) (fun _ _ _=>rfl) (by omega) (by omega))
    TpB.nil)))))))))))))
   (TpS.ret (Tp.ix (Tp.catT (Tp.var rfl) (Tp.lstT (TpB.cons (Tp.sQ Tp.nonS (qT (by decide)))
    (TpB.cons (Tp.sQ (Tp.strS (by decide +kernel) (by decide +kernel)) (qT (by decide)))
    (TpB.cons (Tp.sQ (Tp.strS (by decide +kernel) (by decide +kernel)) (qT (by decide)))
    (TpB.cons (Tp.sQ Tp.empS (qT (by decide)))
    (TpB.cons (Tp.tupQ TpA.nil (fun ds h=>Wr (by omega)))
    (TpB.cons (Tp.sQ Tp.blS (qT (by decide)))
    TpB.nil)))))))) (wF rfl Tp.int) (by decide))))))))))))))))))
  case qr=>exact fun v H' o s t=>kk v H' o.1 o.2 s t
end
theorem qz : ∀ d,noInt d = true->zbH d = true:=fun d h=>by cases d <;> first | rfl | cases h
theorem qH {b : Int} : ∀ d,noInt d = true->YW b d = true:=fun d h=>by cases d <;> first | rfl | cases h
theorem zah (n : Nat) : ZP (.int n) = true:=by show decide (0≤(n : Int)) = true; exact decide_eq_true (by omega)
section
variable {P : Program} {w : World} {K : PySem.W.Frag} {mg : Str->Option Value} {base : Heap} {T0 : Addr}
def uC (T0 : Addr) : Sp:=fun vs H Q _=>∃ (s dr : Addr) (ds : List Int),vs = [.ref s]∧Sto2 H s dr ds∧LT T0 H∧∀ (v : V) (H' : Hp),Sto2 H' s dr ds->LT T0 H'->Same (aw [s,T0] H) (aw [s,T0] H')->(tyQ 9 10000 zbH).p (aw [s,T0] H') v->Q v H'
theorem jy : zK ["store","odd"] ["store"] (zx w5):=⟨rfl,rfl,rfl,by decide +kernel,rfl,by decide +kernel,by decide +kernel⟩
theorem jx {f f1 : Addr} {fd fd1 : FuncData} (D : Df K mg "_law_no_number" w5 ["store"] f fd) (zG : Df K mg "_law_take" xU ["store","many"] f1 fd1) (T : Blt mg) : FnOk P w K mg base CX0 2 f fd ["store"] (uC T0):=by
 have zT : FnOk P w K mg base CX0 1 f1 fd1 ["store","many"] (wk T0):=vY zG T
 refine D.fn.ok jy (fun vs H Q E h=>?_) (fun cdv A outer s H vs Q E hr h=>?_)
 ·obtain ⟨s,dr,ds,rfl,_⟩:=h; rfl
 ·obtain ⟨s,dr,ds,rfl,St,lt,kk⟩:=h
  refine ⟨_,(zp (Qx (i:=1) jy.nd rfl (Or.inl rfl) (yN (zu (pei (Xx Z3 zm)) (zu (pei tW) (zu (pei tW) (zu (pei vp) (tE (zu (yN (zu yF yo)) (zu (XQ (zu yF yo)) (zu (pei jd) (tE (zu (yN yo) (zu (pei (zE qd zm (zE Vq zm zm))) yo)))))))))))))
   (zA (zQ (zY (yl K) (zE yD (pv 1) (zO (zf (zE qd (Xx Z3 zm) (yc zG zT (hr.mono (by decide)) (zf (pv 0) (zf zm zg)))) zg))) (yc zG zT (hr.mono (by decide)) (zf (pv 0) (zf zm zg))) (fun _ _=>rfl))))),?_⟩
  refine TpS.go (w:=stV T0 s dr ds) (Γ:=[some (QQ (.ref s)),none]) (Γ':=[some zc1]) (T:=tyQ 9 10000 zbH) ?ty ⟨St,lt⟩ (Fits.cons rfl (Fits.skip Fits.nil)) (fun _ _ _ _ h=>h.no.elim) ?qr
  case ty=>exact
   (TpS.seq (TpS.asg (Tp.lstT (TpB.cons (Tp.qI (Tp.neg Tp.int) (fun x h1 h2=>Qz (by first | omega | exact Int.lt_of_le_of_lt h2 (by decide)))) (TpB.cons (Tp.qN Tp.blN qz) (TpB.cons (Tp.qN Tp.blN qz) (TpB.cons (Tp.qN Tp.nonN qz) (TpB.cons (Tp.qN (Tp.strN (by decide +kernel) (by decide +kernel)) qz) (TpB.cons (Tp.qN (Tp.lN (Tp.lst (TpA.cons (Tp.ofI Tp.int) TpA.nil))) qz) (TpB.cons (Tp.qN (Tp.tupN (TpA.cons (Tp.ofI Tp.int) TpA.nil)) qz) (TpB.cons (Tp.qN Tp.empN qz) (TpB.cons (Tp.qN (Tp.strN (by decide +kernel) (by decide +kernel)) qz) (TpB.cons (Tp.qN (Tp.lN (Tp.lst TpA.nil)) qz) (TpB.cons (Tp.qI (Tp.subI Tp.int (Tp.pow ⟨by decide,by decide,by decide⟩)) (fun x h1 h2=>Qz (by first | omega | exact Int.lt_of_le_of_lt h2 (by decide)))) TpB.nil)))))))))))))
   (TpS.ret (Tp.ix (Tp.catT (Tp.var rfl) (Tp.lstT (TpB.cons (Tp.qI (Tp.subI (Tp.neg Tp.int) (wF rfl Tp.int)) (fun x h1 h2=>Qz (by first | omega | exact Int.lt_of_le_of_lt h2 (by decide)))) TpB.nil))) (wF rfl Tp.int) (by decide))))
  case qr=>exact fun v H' o s t=>kk v H' o.1 o.2 s t
def ul (T0 : Addr) : Sp:=fun vs H Q _=>∃ (s dr : Addr) (ds : List Int) (b : Nat),vs = [.ref s,.int b]∧Sto2 H s dr ds∧LT T0 H∧b≤16∧∀ (v : V) (H' : Hp),Sto2 H' s dr ds->LT T0 H'->Same (aw [s,T0] H) (aw [s,T0] H')->(tyQ 9 10000 (YW b)).p (aw [s,T0] H') v->Q v H'
theorem jC : zK ["store","base","odd"] ["store","base"] (zx wX):=⟨rfl,rfl,rfl,by decide +kernel,rfl,by decide +kernel,by decide +kernel⟩
theorem jK {f f1 : Addr} {fd fd1 : FuncData} (D : Df K mg "_law_no_figure" wX ["store","base"] f fd) (zG : Df K mg "_law_take" xU ["store","many"] f1 fd1) (T : Blt mg) : FnOk P w K mg base CX0 2 f fd ["store","base"] (ul T0):=by
 have zT : FnOk P w K mg base CX0 1 f1 fd1 ["store","many"] (wk T0):=vY zG T
 refine D.fn.ok jC (fun vs H Q E h=>?_) (fun cdv A outer s H vs Q E hr h=>?_)
 ·obtain ⟨s,dr,ds,b,rfl,_⟩:=h; rfl
 ·obtain ⟨s,dr,ds,b,rfl,St,lt,b16,kk⟩:=h
  have hb25 : (b : Int)≤10 ^ Int.toNat 25:=Int.le_trans (show (b : Int)≤16 by omega) (by decide)
  refine ⟨_,(zp (Qx (i:=2) jC.nd rfl (Or.inl rfl) (yN (zu (pei (pv 1)) (zu (pei (Xx Z3 zm)) (zu (pei tW) (zu (pei tW) (zu (pei vp) (tE (zu (yN (zu yF yo)) (zu (XQ (zu yF yo)) (zu (pei jd) (zu (pei (zE yO (pv 1) (yc zG zT (hr.mono (by decide)) (zf (pv 0) (zf zm zg))))) (tE yo)))))))))))))
   (zA (zQ (zY (yl K) (zE yD (pv 2) (zO (zf (zE Vq zm zm) (zf (zO zg) (zf (zE qd (Xx Z3 zm) (yc zG zT (hr.mono (by decide)) (zf (pv 0) (zf zm zg)))) zg))))) (yc zG zT (hr.mono (by decide)) (zf (pv 0) (zf zm zg))) (fun _ _=>rfl))))),?_⟩
  refine TpS.go (w:=stV T0 s dr ds) (Γ:=[some (QQ (.ref s)),some (tyI b b),none]) (Γ':=[some zc1]) (T:=tyQ 9 10000 (YW b)) ?ty ⟨St,lt⟩ (Fits.cons rfl (Fits.cons ⟨b,rfl,Int.le_refl _,Int.le_refl _⟩ (Fits.skip Fits.nil))) (fun _ _ _ _ h=>h.no.elim) ?qr
  case ty=>exact
   (TpS.seq (TpS.asg (Tp.lstT (TpB.cons (Tp.qI (Tp.var rfl) (fun x h1 h2=>jM (by first | exact .inl (by omega) | exact .inr (by omega) | exact .inr (Int.le_trans hb25 h1))) (by first | decide | omega) (by first | decide | omega)) (TpB.cons (Tp.qI (Tp.neg Tp.int) (fun x h1 h2=>jM (by first | exact .inl (by omega) | exact .inr (by omega) | exact .inr (Int.le_trans hb25 h1))) (by first | decide | omega) (by first | decide | omega)) (TpB.cons (Tp.qN Tp.blN qH) (TpB.cons (Tp.qN Tp.blN qH) (TpB.cons (Tp.qN Tp.nonN qH) (TpB.cons (Tp.qN (Tp.strN (by decide +kernel) (by decide +kernel)) qH) (TpB.cons (Tp.qN (Tp.lN (Tp.lst (TpA.cons (Tp.ofI Tp.int) TpA.nil))) qH) (TpB.cons (Tp.qN (Tp.tupN (TpA.cons (Tp.ofI Tp.int) TpA.nil)) qH) (TpB.cons (Tp.qN Tp.empN qH) (TpB.cons (Tp.qI (Tp.add (Tp.var rfl) (wF rfl Tp.int)) (fun x h1 h2=>jM (by first | exact .inl (by omega) | exact .inr (by omega) | exact .inr (Int.le_trans hb25 h1))) (by first | decide | omega) (by first | decide | omega)) (TpB.cons (Tp.qN (Tp.strN (by decide +kernel) (by decide +kernel)) qH) TpB.nil)))))))))))))
   (TpS.ret (Tp.ix (Tp.catT (Tp.var rfl) (Tp.lstT (TpB.cons (Tp.qI (Tp.pow ⟨by decide,by decide,by decide⟩) (fun x h1 h2=>jM (by first | exact .inl (by omega) | exact .inr (by omega) | exact .inr (Int.le_trans hb25 h1))) (by first | decide | omega) (by first | decide | omega)) (TpB.cons (Tp.qN (Tp.lN (Tp.lst TpA.nil)) qH) (TpB.cons (Tp.qI (Tp.subI (Tp.neg Tp.int) (wF rfl Tp.int)) (fun x h1 h2=>jM (by first | exact .inl (by omega) | exact .inr (by omega) | exact .inr (Int.le_trans hb25 h1))) (by first | decide | omega) (by first | decide | omega)) TpB.nil))))) (wF rfl Tp.int) (by decide))))
  case qr=>exact fun v H' o s t=>kk v H' o.1 o.2 s t
def baseOf : PyData->Int
 | .tuple [.int b,_]=>b
 | _=>0
theorem Jr {H : Hp} {d : PyData} {v : V} {r bl : Addr} {b : Nat} {zs : List (Addr × List Int)} (h : ThAt H d v) (e : v = .ref r) (R : RuleAt H r b bl zs) : baseOf d = b:=by
 subst e
 rw [h.uniq R.th]; rfl
def uy (CR CN CF : Addr) (d e c : PyData) (door : Nat) : Option Addr:=if xV d = false then some CR else if ZP e = false then some CN else if door = 2∧Zj (baseOf d) c = false then some CF else none
theorem zaq {CR CN CF : Addr} {d e c : PyData} {door : Nat} (h : xV d = false) : uy CR CN CF d e c door = some CR:=by unfold uy; rw [if_pos h]
theorem J9 {CR CN CF : Addr} {d e c : PyData} {door : Nat} (h : xV d = true) (hl : ZP e = false) : uy CR CN CF d e c door = some CN:=by unfold uy; rw [if_neg (by rw [h]; intro z; cases z),if_pos hl]
theorem zae {CR CN CF : Addr} {d e c : PyData} (h : xV d = true) (hl : ZP e = true) (hf : Zj (baseOf d) c = false) : uy CR CN CF d e c 2 = some CF:=by unfold uy; rw [if_neg (by rw [h]; intro z; cases z),if_neg (by rw [hl]; intro z; cases z),if_pos ⟨rfl,hf⟩]
theorem YB {CR CN CF : Addr} {d e c : PyData} {door : Nat} (h : xV d = true) (hl : ZP e = true) (hf : door = 2->Zj (baseOf d) c = true) : uy CR CN CF d e c door = none:=by
 unfold uy
 rw [if_neg (by rw [h]; intro z; cases z),if_neg (by rw [hl]; intro z; cases z),if_neg (fun z=>by rw [hf z.1] at z; cases z.2)]
def ur (T0 CR CN CF : Addr) : Sp:=fun vs H Q _=>∃ (door : Nat) (v u y : V) (d e c : PyData),vs = [.int door,v,u,y]∧ThAt H d v∧ThAt H e u∧ThAt H c y∧jY d≤100000∧LT T0 H∧door < 3∧(∀ n : Nat,xV d = true->e = .int n->n≤9) ∧
 (∀ C,uy CR CN CF d e c door = some C->∀ x H',SameL T0 H H'->LT T0 H'->H' x = some (Vw x C)->Q (.ref x) H')∧(uy CR CN CF d e c door = none->∀ H',SameL T0 H H'->LT T0 H'->Q .non H')
theorem uf : zK ["door","rule","n","figure","caught","e"] ["door","rule","n","figure"] (zx vA):=⟨rfl,rfl,rfl,by decide +kernel,rfl,by decide +kernel,by decide +kernel⟩
theorem VB {CNoRule CNoNumber CNoFigures CLackError : Addr} {f f1 f2 f3 : Addr} {fd fd1 fd2 fd3 : FuncData} (D : Df K mg "_law_caught" vA ["door","rule","n","figure"] f fd) (ZJ : Df K mg "sum_below" ju ["rule","n"] f1 fd1) (Xf : FnOk P w K mg base (CX1 P w) 12 f1 fd1 ["rule","n"] (YC T0 CNoRule CNoNumber)) (ug : Df K mg "figures_below" vJ ["rule","n"] f2 fd2) (q9 : FnOk P w K mg base (CX1 P w) 12 f2 fd2 ["rule","n"] (YC T0 CNoRule CNoNumber))
  (qM : Df K mg "often_below" vD ["rule","n","figure"] f3 fd3) (Zw : FnOk P w K mg base (CX1 P w) 12 f3 fd3 ["rule","n","figure"] (Wm T0 CNoRule CNoNumber CNoFigures))
  (h_LackError : zaX K mg "LackError" CLackError) (kt_NoRule : PySem.W.kitCls K (.ref CNoRule) (.ref CLackError) = some true) (kt_NoNumber : PySem.W.kitCls K (.ref CNoNumber) (.ref CLackError) = some true) (kt_NoFigures : PySem.W.kitCls K (.ref CNoFigures) (.ref CLackError) = some true) : FnOk P w K mg base CX0 13 f fd ["door","rule","n","figure"] (ur T0 CNoRule CNoNumber CNoFigures):=by
 refine D.fn.ok uf (fun vs H Q E h=>?_) (fun cdv A outer s H vs Q E hr h=>?_)
 ·obtain ⟨door,v,u,y,d,e,c,rfl,_⟩:=h; rfl
 ·obtain ⟨door,v,u,y,d,e,c,rfl,hd,he,hy,hs,lt,h3,h9,kX,kOk⟩:=h
  refine ⟨_,(zp (zJ (i:=4) uf.nd rfl (Or.inl rfl) vp)
   (zp (zcI (i:=5) h_LackError rfl rfl uf.nd rfl rfl (fun _ _ _ hS =>
    (zA (wK (yE Vn (pv 0) zm (yw _))
     (zA (yQ (qZ ZJ Xf (hr.mono (by decide)) hS (zf (pv 1) (zf (pv 2) zg)))))
     (zA (wK (yE Vn (pv 0) zm (yw _))
      (zA (yQ (qZ ug q9 (hr.mono (by decide)) hS (zf (pv 1) (zf (pv 2) zg)))))
      (zA (yQ (qZ qM Zw (hr.mono (by decide)) hS (zf (pv 1) (zf (pv 2) (zf (pv 3) zg))))))))))) (fun _ =>
    (zA (zJ (i:=4) uf.nd rfl (Or.inl rfl) (pv 5)))))
   (zA (zQ (pv 4))))),?_⟩
  have kR : ∀ H1 x,xV d = false->Same H H1->H1 x = none->Q (.ref x) (upd H1 x (Vw x CNoRule)):=fun H1 x q m hx=>kX _ (zaq q) x _ (SameL.of (m.trans (zq hx))) (lt.same (m.trans (zq hx))) zj
  have kN : ∀ H1 x,xV d = true->ZP e = false->Same H H1->H1 x = none->Q (.ref x) (upd H1 x (Vw x CNoNumber)):=fun H1 x q ql m hx=>kX _ (J9 q ql) x _ (SameL.of (m.trans (zq hx))) (lt.same (m.trans (zq hx))) zj
  match door,h3 with
  | 0,_=>exact ⟨_,rfl,rfl,_,rfl,zfU (decide_eq_true rfl) ⟨_,rfl,_,rfl,v,u,d,e,rfl,hd,he,hs,lt,fun q H1 m=>⟨_,rfl,kt_NoRule,fun x hx=>⟨_,rfl,_,rfl,kR H1 x q m hx⟩⟩,fun q ql H1 m=>⟨_,rfl,kt_NoNumber,fun x hx=>⟨_,rfl,_,rfl,kN H1 x q ql m hx⟩⟩,fun n q en=>⟨by
   have:=h9 n q en
   exact (Nat.lt_of_lt_of_le (show n < 2 ^ 4 by omega) (Nat.pow_le_pow_right (by decide) (by decide))),fun _ H1 s1 l1=>⟨_,rfl,kOk (YB q (by rw [en]; exact zah n) (fun z=>absurd z (by decide))) H1 s1 l1⟩⟩⟩⟩
  | 1,_=>exact ⟨_,rfl,rfl,_,rfl,zcd (Ul (by decide)) ⟨_,rfl,rfl,_,rfl,zfU (decide_eq_true rfl) ⟨_,rfl,_,rfl,v,u,d,e,rfl,hd,he,hs,lt,fun q H1 m=>⟨_,rfl,kt_NoRule,fun x hx=>⟨_,rfl,_,rfl,kR H1 x q m hx⟩⟩,fun q ql H1 m=>⟨_,rfl,kt_NoNumber,fun x hx=>⟨_,rfl,_,rfl,kN H1 x q ql m hx⟩⟩,fun n q en=>⟨by
   have:=h9 n q en
   exact (Nat.lt_of_lt_of_le (show n < 2 ^ 4 by omega) (Nat.pow_le_pow_right (by decide) (by decide))),fun _ H1 s1 l1=>⟨_,rfl,kOk (YB q (by rw [en]; exact zah n) (fun z=>absurd z (by decide))) H1 s1 l1⟩⟩⟩⟩⟩
  | 2,_=>exact ⟨_,rfl,rfl,_,rfl,zcd (Ul (by decide)) ⟨_,rfl,rfl,_,rfl,zcd (Ul (by decide)) ⟨_,rfl,_,rfl,_,rfl,v,u,y,d,e,c,rfl,hd,he,hy,hs,lt,fun q H1 m=>⟨_,rfl,kt_NoRule,fun x hx=>⟨_,rfl,_,rfl,kR H1 x q m hx⟩⟩,fun q ql H1 m=>⟨_,rfl,kt_NoNumber,fun x hx=>⟨_,rfl,_,rfl,kN H1 x q ql m hx⟩⟩,
   fun n b r bl zs q en er R hf H1 m=>⟨_,rfl,kt_NoFigures,fun x hx=>⟨_,rfl,_,rfl,kX _ (zae q (by rw [en]; exact zah n) (by rw [Jr hd er R]; exact hf)) x _ (SameL.of (m.trans (zq hx))) (lt.same (m.trans (zq hx))) zj⟩⟩,
   fun n q en=>⟨by
    have:=h9 n q en
    exact (Nat.lt_of_lt_of_le (show n < 2 ^ 4 by omega) (Nat.pow_le_pow_right (by decide) (by decide))),fun b r bl zs er R hf _ H1 s1 l1=>⟨_,rfl,kOk (YB q (by rw [en]; exact zah n) (fun _=>by rw [Jr hd er R]; exact hf)) H1 s1 l1⟩⟩⟩⟩⟩
  | n + 3,h=>exact absurd h (by omega)
theorem zcy {H : Hp} {q : Addr} {v u y : V} {d e c : PyData} (hq : H q = some (.lst [v,u,y])) (hd : ThAt H d v) (fd : Fit 9 33000 d) (he : ThAt H e u) (fe : Fit 9 33000 e) (hc : ThAt H c y) (fc : Fit 9 33000 c) : ThAt H (.list [d,e,c]) (.ref q)∧Fit 20 100000 (.list [d,e,c]):=by
 refine ⟨ThAt.lst hq (by rw [ThsAt]; exact ⟨_,_,rfl,hd,by rw [ThsAt]; exact ⟨_,_,rfl,he,by rw [ThsAt]; exact ⟨_,_,rfl,hc,by rw [ThsAt]⟩⟩⟩),(Fit.lst (k:=9) (n:=33000) (n':=99003) (fun x hx=>?_) (by show 33001 * 3≤99003; decide)).le (by decide) (by decide)⟩
 simp only [List.mem_cons,List.not_mem_nil,or_false] at hx
 rcases hx with rfl | rfl | rfl
 ·exact fd
 ·exact fe
 ·exact fc
def t8 (K : PySem.W.Frag) (T0 CNoBase CNoNumber CNoFigures CNoRule CNoStand CNoGood CEndless CNoRules CNoStretch CTooMany CNoText CNoName CNoRow : Addr) : Sp:=fun vs H Q _=>∃ (door : Nat) (q : Addr) (v u y : V) (j : Nat) (d e c : PyData) (C : Addr) (k : Nat),vs = [.int door,.ref q,.int j]∧H q = some (.lst [v,u,y])∧ThAt H d v∧Fit 9 33000 d∧ThAt H e u∧Fit 9 33000 e∧ThAt H c y∧Fit 9 33000 c∧LT T0 H∧door < 3∧(∀ n : Nat,xV d = true->e = .int n->n≤9) ∧
 uy CNoRule CNoNumber CNoFigures d e c door = some C∧zfG k j∧XS K C CNoBase CNoNumber CNoFigures CNoRule CNoStand CNoGood CEndless CNoRules CNoStretch CTooMany CNoText CNoName CNoRow k∧∀ H',SameL T0 H H'->LT T0 H'->Q (.bl true) H'
theorem qi : zK ["door","row","due","kept","caught"] ["door","row","due"] (zx uH):=⟨rfl,rfl,rfl,by decide +kernel,rfl,by decide +kernel,by decide +kernel⟩
theorem W7 {CNoBase CNoNumber CNoFigures CNoRule CNoStand CNoGood CEndless CNoRules CNoStretch CTooMany CNoText CNoName CNoRow : Addr} {f f1 f2 : Addr} {fd fd1 fd2 : FuncData} (D : Df K mg "_law_refused" uH ["door","row","due"] f fd) (wg : Df K mg "_law_caught" vA ["door","rule","n","figure"] f1 fd1) (wW : FnOk P w K mg base CX0 13 f1 fd1 ["door","rule","n","figure"] (ur T0 CNoRule CNoNumber CNoFigures))
  (tX : Df K mg "_law_kinds" vX ["caught","due"] f2 fd2) (XN : zau mg CNoBase CNoNumber CNoFigures CNoRule CNoStand CNoGood CEndless CNoRules CNoStretch CTooMany CNoText CNoName CNoRow) (n_ValueError : mg "ValueError" = none) (T : Blt mg) : FnOk P w K mg base CX0 14 f fd ["door","row","due"] (t8 K T0 CNoBase CNoNumber CNoFigures CNoRule CNoStand CNoGood CEndless CNoRules CNoStretch CTooMany CNoText CNoName CNoRow):=by
 have WQ : FnOk P w K mg base CX0 1 f2 fd2 ["caught","due"] (jP K CNoBase CNoNumber CNoFigures CNoRule CNoStand CNoGood CEndless CNoRules CNoStretch CTooMany CNoText CNoName CNoRow):=YQ tX XN n_ValueError T
 refine D.fn.ok qi (fun vs H Q E h=>?_) (fun cdv A outer s H vs Q E hr h=>?_)
 ·obtain ⟨door,q,v,u,y,j,d,e,c,C,k,rfl,_⟩:=h; rfl
 ·obtain ⟨door,q,v,u,y,j,d,e,c,C,k,rfl,hq,hd,fd,he,fe,hc,fc,lt,h3,h9,hC,hk,Kd,kk⟩:=h
  have HU:=Js hr
  refine ⟨_,(zp (zJ (i:=3) qi.nd rfl (Or.inl rfl) (zF (VN hr.gd HU) (by rfl) T.n_repr PyProof.Rows.boot_repr (zf (pv 1) zg)))
   (zp (zJ (i:=4) qi.nd rfl (Or.inl rfl) (yc wg wW (hr.mono (by decide)) (zf (pv 0) (zf (zY (yl K) (pv 1) zm (fun _ _=>rfl)) (zf (zY (yl K) (pv 1) zm (fun _ _=>rfl)) (zf (zY (yl K) (pv 1) zm (fun _ _=>rfl)) zg))))))
   (zA (zQ (ZR (yc tX WQ (hr.mono (by decide)) (zf (pv 4) (zf (pv 2) zg))) (Zo (jN Vn (zF (VN hr.gd HU) (by rfl) T.n_repr PyProof.Rows.boot_repr (zf (pv 1) zg)) (pv 3) (yw _)))))))),?_⟩
  obtain ⟨hD,fD⟩:=zcy hq hd fd he fe hc fc
  refine ⟨_,rfl,_,_,rfl,hD,fD.sh,fD.shown (Nat.le_refl _),Nat.le_trans fD.dp (by decide),?_⟩
  refine ⟨_,rfl,_,rfl,q,_,_,v,rfl,rfl,SqL.of hq,rfl,_,rfl,q,_,_,u,rfl,rfl,SqL.of hq,rfl,_,rfl,q,_,_,y,rfl,rfl,SqL.of hq,rfl,?_⟩
  refine ⟨door,v,u,y,d,e,c,rfl,hd,he,hc,Nat.le_trans (za8 d) (Nat.le_trans fd.wt (by decide)),lt,h3,h9,fun C' hC' x H2 s2 lt2 hx=>?_,fun hC'=>?_⟩
  ·rw [hC] at hC'; cases hC'
   refine ⟨_,rfl,_,rfl,x,C,k,j,rfl,hx,Kd,hk,fun H3 m3=>⟨_,rfl,wR ?_⟩⟩
   have s03:=s2.trans (SameL.of m3)
   have lt3:=lt2.same m3
   refine ⟨_,rfl,_,_,rfl,JG lt s03 hD,fD.sh,fD.shown (Nat.le_refl _),Nat.le_trans fD.dp (by decide),_,rfl,rfl,?_⟩
   rw [decide_eq_true rfl]
   exact kk _ s03 lt3
  ·rw [hC] at hC'; cases hC'
end
section
variable {P : Program} {w : World} {K : PySem.W.Frag} {mg : Str->Option Value} {base : Heap} {T0 : Addr}
def QC (K : PySem.W.Frag) (T0 : Addr) : Sp:=fun vs H Q _=>∃ (a : Addr) (ns : List Int),vs = [.ref a]∧SqL K H a (ns.map V.int)∧ns.length≤63∧LT T0 H∧∀ H',Q (.bl true) H'
structure Now (T0 s p : Addr) (ds : List Int) (r : Addr) (b : Nat) (bl : Addr) (zs : List (Addr × List Int)) (r' bl' : Addr) (zs' : List (Addr × List Int)) (H : Hp) : Prop where
 st : Sto2 H s p ds
 lt : LT T0 H
 R : RuleAt (aw [s,T0] H) r b bl zs
 R' : RuleAt (aw [s,T0] H) r' b bl' zs'
section
variable {s p : Addr} {ds : List Int} {r : Addr} {b : Nat} {bl : Addr} {zs : List (Addr × List Int)} {r' bl' : Addr} {zs' : List (Addr × List Int)} {H H' : Hp} {vb vo vw : V} {db eo cw : PyData}
theorem Now.on (N : Now T0 s p ds r b bl zs r' bl' zs' H) (st : Sto2 H' s p ds) (lt : LT T0 H') (m : Same (aw [s,T0] H) (aw [s,T0] H')) : Now T0 s p ds r b bl zs r' bl' zs' H':=⟨st,lt,N.R.same m,N.R'.same m⟩
theorem Now.onL (N : Now T0 s p ds r b bl zs r' bl' zs' H) (m : SameL T0 H H') (lt : LT T0 H') : Now T0 s p ds r b bl zs r' bl' zs' H':=N.on (N.st.sameL N.lt m) lt (Zn m)
structure Now3 (T0 s p : Addr) (ds : List Int) (r : Addr) (b : Nat) (bl : Addr) (zs : List (Addr × List Int)) (r' bl' : Addr) (zs' : List (Addr × List Int)) (vb vo vw : V) (db eo cw : PyData) (H : Hp) : Prop where
 n : Now T0 s p ds r b bl zs r' bl' zs' H
 hb : ThAt (aw [s,T0] H) db vb
 ho : ThAt (aw [s,T0] H) eo vo
 hw : ThAt (aw [s,T0] H) cw vw
theorem Now3.onL (N : Now3 T0 s p ds r b bl zs r' bl' zs' vb vo vw db eo cw H) (m : SameL T0 H H') (lt : LT T0 H') : Now3 T0 s p ds r b bl zs r' bl' zs' vb vo vw db eo cw H':=⟨N.n.onL m lt,N.hb.same (Zn m),N.ho.same (Zn m),N.hw.same (Zn m)⟩
theorem Now3.new {q : Addr} {o : HO} (N : Now3 T0 s p ds r b bl zs r' bl' zs' vb vo vw db eo cw H) (hq : H q = none) : Now3 T0 s p ds r b bl zs r' bl' zs' vb vo vw db eo cw (upd H q o):=N.onL (SameL.of (zq hq)) (N.n.lt.same (zq hq))
end
theorem pick {H : Hp} {x y : V} {d e : PyData} {i : Int} (hi : 0≤i) (hx : ThAt H d x) (fx : Fit 9 33000 d) (hy : ThAt H e y) (fy : Fit 9 33000 e) : ∃ (val : V) (eX : PyData),atI [x,y] (i % 2) = some val∧ThAt H eX val∧Fit 9 33000 eX∧(eX = d∨eX = e):=by
 by_cases z : i % 2 = 0
 ·exact ⟨x,d,by rw [z]; exact yx (j:=0) rfl,hx,fx,.inl rfl⟩
 ·exact ⟨y,e,by rw [show i % 2 = ((1 : Nat) : Int) by omega]; exact yx rfl,hy,fy,.inr rfl⟩
theorem jc : zK ["script","store","turn","rule","handed","k","bad","odd","wrong","door"] ["script"] (zx VL):=⟨rfl,rfl,rfl,by decide +kernel,rfl,by decide +kernel,by decide +kernel⟩
set_option maxHeartbeats 0 in
theorem zeW {CNoBase CNoNumber CNoFigures CNoRule CNoStand CNoGood CEndless CNoRules CNoStretch CTooMany CNoText CNoName CNoRow : Addr} {f f1 f2 f3 f4 f5 f6 f7 f8 f9 : Addr} {fd fd1 fd2 fd3 fd4 fd5 fd6 fd7 fd8 fd9 : FuncData} (D : Df K mg "law" VL ["script"] f fd) (tK : Df K mg "_law_draws" qL ["script","many"] f1 fd1) (ZW : Df K mg "_law_rule" tR ["store"] f2 fd2) (Xj : FnOk P w K mg base CX0 2 f2 fd2 ["store"] (Z1 T0)) (jb : Df K mg "_law_copy" tQ ["rule"] f3 fd3)
  (uX : Df K mg "_law_no_rule" wJ ["store","rule"] f4 fd4) (jO : FnOk P w K mg base CX0 2 f4 fd4 ["store","rule"] (qb T0)) (wy : Df K mg "_law_no_number" w5 ["store"] f5 fd5) (wz : Df K mg "_law_no_figure" wX ["store","base"] f9 fd9) (zG : Df K mg "_law_take" xU ["store","many"] f6 fd6)
  (wB : Df K mg "_law_refused" uH ["door","row","due"] f7 fd7) (vH : FnOk P w K mg base CX0 14 f7 fd7 ["door","row","due"] (t8 K T0 CNoBase CNoNumber CNoFigures CNoRule CNoStand CNoGood CEndless CNoRules CNoStretch CTooMany CNoText CNoName CNoRow)) (wg : Df K mg "_law_caught" vA ["door","rule","n","figure"] f8 fd8) (wW : FnOk P w K mg base CX0 13 f8 fd8 ["door","rule","n","figure"] (ur T0 CNoRule CNoNumber CNoFigures))
  (kd_NoRule : XS K CNoRule CNoBase CNoNumber CNoFigures CNoRule CNoStand CNoGood CEndless CNoRules CNoStretch CTooMany CNoText CNoName CNoRow 3) (kd_NoNumber : XS K CNoNumber CNoBase CNoNumber CNoFigures CNoRule CNoStand CNoGood CEndless CNoRules CNoStretch CTooMany CNoText CNoName CNoRow 1) (kd_NoFigures : XS K CNoFigures CNoBase CNoNumber CNoFigures CNoRule CNoStand CNoGood CEndless CNoRules CNoStretch CTooMany CNoText CNoName CNoRow 2) (T : Blt mg) (U : zb2 mg) : FnOk P w K mg base CX0 15 f fd ["script"] (QC K T0):=by
 have WM : FnOk P w K mg base CX0 1 f1 fd1 ["script","many"] (jV K):=YX tK T U
 have Ue : FnOk P w K mg base CX0 1 f3 fd3 ["rule"] Zz:=X8 jb T
 have Z7 : FnOk P w K mg base CX0 2 f5 fd5 ["store"] (uC T0):=jx wy zG T
 have Z5 : FnOk P w K mg base CX0 2 f9 fd9 ["store","base"] (ul T0):=jK wz zG T
 refine D.fn.ok jc (fun vs H Q E h=>?_) (fun cdv A outer s H vs Q E hr h=>?_)
 ·obtain ⟨a,ns,rfl,_⟩:=h; rfl
 ·obtain ⟨a,ns,rfl,hS,hlen,hT,kk⟩:=h
  have HU:=Js hr
  refine ⟨_,(zp (zJ (i:=1) jc.nd rfl (Or.inl rfl) (zO (zf (yc tK WM (hr.mono (by decide)) (zf (pv 0) (zf zm zg))) (zf zm zg))))
   (zp (vM PassesOwn.never rfl (yg rfl T.n_range (zf zm zg)) (yK (i:=2) jc.nd rfl (Or.inl rfl))
    (zp (zJ (i:=3) jc.nd rfl (Or.inl rfl) (yc ZW Xj (hr.mono (by decide)) (zf (pv 1) zg)))
    (zp (zJ (i:=4) jc.nd rfl (Or.inl rfl) (yc jb Ue (hr.mono (by decide)) (zf (pv 3) zg)))
    (zp (vM PassesOwn.never rfl (yg rfl T.n_range (zf zm zg)) (yK (i:=5) jc.nd rfl (Or.inl rfl))
     (zp (zJ (i:=6) jc.nd rfl (Or.inl rfl) (yc uX jO (hr.mono (by decide)) (zf (pv 1) (zf (pv 3) zg))))
     (zp (zJ (i:=7) jc.nd rfl (Or.inl rfl) (yc wy Z7 (hr.mono (by decide)) (zf (pv 1) zg)))
     (zp (zJ (i:=8) jc.nd rfl (Or.inl rfl) (yc wz Z5 (hr.mono (by decide)) (zf (pv 1) (zf (zY (ux K) (pv 3) zm (fun _ _=>rfl)) zg))))
     (zp (vM PassesOwn.never rfl (yg rfl T.n_range (zf zm zg)) (yK (i:=9) jc.nd rfl (Or.inl rfl))
      (zp (wK (je (uA (yc wB vH (hr.mono (by decide)) (zf (pv 9) (zf (zO (zf (pv 6) (zf (zY (yl K) (zO (zf zm (zf (pv 7) zg))) (zE yu (pv 5) zm) (fun _ _=>rfl)) (zf (zY (yl K) (zO (zf zm (zf (pv 8) zg))) (zE yu (zE vB (pv 5) zm) zm) (fun _ _=>rfl)) zg)))) (zf zm zg))))))
       (zA (zQ tW))
       yM)
      (zA (wK (je (uA (yc wB vH (hr.mono (by decide)) (zf (pv 9) (zf (zO (zf (pv 4) (zf (pv 7) (zf (zY (yl K) (zO (zf zm (zf (pv 8) zg))) (zE yu (pv 5) zm) (fun _ _=>rfl)) zg)))) (zf zm zg))))))
       (zA (zQ tW))
       yM))))
     (zA (wK (je (uA (yc wB vH (hr.mono (by decide)) (zf zm (zf (zO (zf (pv 4) (zf (zY (yl K) (zO (zf zm (zf zm zg))) (zE yu (pv 5) zm) (fun _ _=>rfl)) (zf (pv 8) zg)))) (zf zm zg))))))
      (zA (zQ tW))
      yM)))))))
    (zA (vM PassesOwn.never rfl (yg rfl T.n_range (zf zm zg)) (yK (i:=9) jc.nd rfl (Or.inl rfl))
     (zA (wK (PW.pt (zbj (yE Jl (yc wg wW (hr.mono (by decide)) (zf (pv 9) (zf (pv 4) (zf zm (zf zm zg))))) vp (yw _)) (Qv (yE (zfP K HU) (pv 4) (pv 3) (yw _)))))
      (zA (zQ tW))
      yM))))))))
   (zA (zQ tW)))),?_⟩
  refine ⟨_,rfl,a,ns,rfl,hS,hlen,fun p ds H1 hp Dr dne dlen m1=>⟨(by show 2≤sizeLine; decide),fun st hst=>?_⟩⟩
  have m2:=zq hst (o:=.lst [.ref p,.int 0])
  have S : Sto2 (upd H1 st (.lst [.ref p,.int 0])) st p ds:=⟨⟨0,zj⟩,m2 _ _ Dr.li,dne,dlen,Dr.nn⟩
  have T2:=(hT.same m1).same m2
  generalize upd H1 st (.lst [.ref p,.int 0]) = H2 at m2 S T2
  have f9 : Fit 9 33000 (.int 9):=Fit.int (by decide) (by decide)
  have f0 : Fit 9 33000 (.int 0):=Fit.int (by decide) (by decide)
  refine ⟨5,rfl,by decide,by decide,xg (lo:=0) (n:=5) (fun i σ H3=>∃ (v2 v3 v4 v5 v6 v7 v8 v9 : Option V),σ = [some (.ref a),some (.ref st),v2,v3,v4,v5,v6,v7,v8,v9]∧Sto2 H3 st p ds∧LT T0 H3) ⟨_,_,_,_,_,_,_,_,rfl,S,T2⟩ ?_ ?_⟩
  ·rintro i σ H3 hi ⟨v2,v3,v4,v5,v6,v7,v8,v9,rfl,S3,lt3⟩
   refine ⟨_,rfl,st,p,ds,rfl,S3,lt3,fun r b bl zs H4 F4 R4 g=>?_⟩
   have hz4 : zs.length≤4:=by have:=g.len; rwa [List.length_map] at this
   refine ⟨_,rfl,r,b,bl,zs,rfl,R4.same (zN _ _),by omega,fun r' bl' zs' H5 s5 R5 e5 n1 n2 n3=>?_⟩
   have g' : yC b (zs'.map (·.2)):=by rw [e5]; exact g
   have S4:=F4.st
   have lt5:=F4.lt.same s5
   have N5 : Now T0 st p ds r b bl zs r' bl' zs' H5:=⟨S4.same s5,lt5,(R4.vw F4.lt).same (s5.aw _),R5.vw0 ⟨S4.nes n2,S4.nes n1,fun z hz=>S4.nes (n3 z hz).1⟩ lt5⟩
   obtain ⟨dr,tr,rr,fr⟩:=N5.R'.thing g'
   have hbase : baseOf dr = b:=Jr tr rfl N5.R'
   have fr:=fr.le (k':=9) (n':=33000) (by decide) (by decide)
   have Rth : ∀ {H : Hp},Now T0 st p ds r b bl zs r' bl' zs' H->ThAt H dr (.ref r'):=fun {H} N=>by
    obtain ⟨d',t',_,_⟩:=N.R'.thing g'
    have e : d' = dr:=zcc N5.R' N.R' tr t'
    rw [← e]; exact t'.same (zN _ _)
   refine ⟨8,rfl,by decide,by decide,xg (lo:=0) (n:=8) (fun j σ H6=>∃ (v5 v6 v7 v8 v9 : Option V),σ = [some (.ref a),some (.ref st),some (.int (0 + (i : Int))),some (.ref r),some (.ref r'),v5,v6,v7,v8,v9]∧Now T0 st p ds r b bl zs r' bl' zs' H6) ⟨_,_,_,_,_,rfl,N5⟩ ?_ ?_⟩
   ·rintro j σ H6 hj ⟨v5,v6,v7,v8,v9,rfl,N6⟩
    refine ⟨_,rfl,_,rfl,st,p,ds,r,b,bl,zs,rfl,N6.st,N6.lt,N6.R,g,fun vb H7 S7 lt7 m7 ⟨db,hb,fb,pb⟩=>?_⟩
    have N7:=N6.on S7 lt7 m7
    refine ⟨_,rfl,st,p,ds,rfl,S7,lt7,fun vo H8 S8 lt8 m8 ⟨eo,ho,fo,po⟩=>?_⟩
    have N8:=N7.on S8 lt8 m8
    refine ⟨_,rfl,_,rfl,r,_,_,V.int b,rfl,rfl,SqT.of (zN _ _ _ _ N8.R.tu),rfl,st,p,ds,b,rfl,S8,lt8,g.b16,fun vw H8' S8' lt8' m8' ⟨cw,hw,fw,pw⟩=>?_⟩
    have M8 : Now3 T0 st p ds r b bl zs r' bl' zs' vb vo vw db eo cw H8':=⟨N8.on S8' lt8' m8',(hb.same m8).same m8',ho.same m8',hw⟩
    have fb:=fb.le (k':=9) (n':=33000) (by decide) (by decide)
    have fo:=fo.le (k':=9) (n':=33000) (by decide) (by decide)
    have fw:=fw.le (k':=9) (n':=33000) (by decide) (by decide)
    have rb : xV db = false:=Vl pb
    have nn : ZP eo = false:=Vl po
    have ww : Zj b cw = false:=Vl pw
    refine ⟨3,rfl,by decide,by decide,xg (lo:=0) (n:=3) (fun l σ H9=>∃ v9 : Option V,σ = [some (.ref a),some (.ref st),some (.int (0 + (i : Int))),some (.ref r),some (.ref r'),some (.int (0 + (j : Int))),some vb,some vo,some vw,v9]∧Now3 T0 st p ds r b bl zs r' bl' zs' vb vo vw db eo cw H9) ⟨_,rfl,M8⟩ ?_ ?_⟩
    ·rintro l σ H9 hl ⟨v9,rfl,M9⟩
     have hl : l < 3:=hl
     refine ⟨_,rfl,_,rfl,_,rfl,(by show 2≤sizeLine; decide),fun q hq=>?_⟩
     have M10:=M9.new hq (o:=.lst [.int 9,vo])
     obtain ⟨x1,e1,a1,t1,f1,_⟩:=pick (H:=upd H9 q (.lst [.int 9,vo])) (x:=.int 9) (y:=vo) (d:=.int 9) (e:=eo) (i:=0 + (j : Int)) (by omega) (by rw [ThAt]) f9 (M10.ho.same (zN _ _)) fo
     refine ⟨_,rfl,_,_,rfl,rfl,(by show (0 : Int) < 2; decide),q,_,_,x1,rfl,rfl,SqL.of zj,a1,?_⟩
     refine ⟨_,rfl,(by show 2≤sizeLine; decide),fun q2 hq2=>?_⟩
     have M11:=M10.new hq2 (o:=.lst [.int 0,vw])
     have t1:=t1.same (zq hq2 (o:=.lst [.int 0,vw]))
     generalize hH10 : upd H9 q (.lst [.int 9,vo]) = H10 at M10 hq2 M11 t1
     obtain ⟨x2,e2,a2,t2,f2,_⟩:=pick (H:=upd H10 q2 (.lst [.int 0,vw])) (x:=.int 0) (y:=vw) (d:=.int 0) (e:=cw) (i:=(0 + (j : Int)) / 2) (by omega) (by rw [ThAt]) f0 (M11.hw.same (zN _ _)) fw
     refine ⟨_,rfl,_,_,rfl,rfl,⟨by decide,by decide⟩,_,_,rfl,rfl,(by show (0 : Int) < 2; decide),q2,_,_,x2,rfl,rfl,SqL.of zj,a2,?_⟩
     refine ⟨(by show 3≤sizeLine; decide),fun q3 hq3=>?_⟩
     have m3:=zq hq3 (o:=.lst [vb,x1,x2])
     have M12:=M11.new hq3 (o:=.lst [vb,x1,x2])
     refine ⟨l,q3,vb,x1,x2,0,db,e1,e2,CNoRule,3,by rw [Int.zero_add]; rfl,zj,M12.hb.same (zN _ _),fb,t1.same m3,f1,t2.same m3,f2,M12.n.lt,hl,(fun n z=>by rw [rb] at z; cases z),zaq rb,.inl ⟨rfl,rfl⟩,kd_NoRule,fun H13 s13 lt13=>⟨_,rfl,wO ?_⟩⟩
     have M13:=M12.onL s13 lt13
     refine ⟨_,rfl,_,rfl,_,rfl,_,rfl,(by show 2≤sizeLine; decide),fun q4 hq4=>?_⟩
     have M14:=M13.new hq4 (o:=.lst [.int 0,vw])
     obtain ⟨x3,e3,a3,t3,f3,_⟩:=pick (H:=upd H13 q4 (.lst [.int 0,vw])) (x:=.int 0) (y:=vw) (d:=.int 0) (e:=cw) (i:=0 + (j : Int)) (by omega) (by rw [ThAt]) f0 (M14.hw.same (zN _ _)) fw
     refine ⟨_,rfl,_,_,rfl,rfl,(by show (0 : Int) < 2; decide),q4,_,_,x3,rfl,rfl,SqL.of zj,a3,?_⟩
     refine ⟨(by show 3≤sizeLine; decide),fun q5 hq5=>?_⟩
     have m5:=zq hq5 (o:=.lst [.ref r',vo,x3])
     have M15:=M14.new hq5 (o:=.lst [.ref r',vo,x3])
     refine ⟨l,q5,.ref r',vo,x3,1,dr,eo,e3,CNoNumber,1,by rw [Int.zero_add]; rfl,zj,Rth M15.n,fr,M15.ho.same (zN _ _),fo,t3.same m5,f3,M15.n.lt,hl,(fun n _ z=>by rw [z,zah] at nn; cases nn),J9 rr nn,.inr (.inl ⟨rfl,rfl⟩),kd_NoNumber,fun H16 s16 lt16=>⟨_,rfl,wO ⟨_,rfl,M15.onL s16 lt16⟩⟩⟩
    ·rintro σ H9 ⟨v9,rfl,M9⟩
     refine ⟨_,rfl,(by show 2≤sizeLine; decide),fun q hq=>?_⟩
     have M10:=M9.new hq (o:=.lst [.int 9,.int 0])
     obtain ⟨x1,e1,a1,t1,f1,o1⟩:=pick (H:=upd H9 q (.lst [.int 9,.int 0])) (x:=.int 9) (y:=.int 0) (d:=.int 9) (e:=.int 0) (i:=0 + (j : Int)) (by omega) (by rw [ThAt]) f9 (by rw [ThAt]) f0
     refine ⟨_,rfl,_,_,rfl,rfl,(by show (0 : Int) < 2; decide),q,_,_,x1,rfl,rfl,SqL.of zj,a1,?_⟩
     refine ⟨_,rfl,(by show 3≤sizeLine; decide),fun q2 hq2=>?_⟩
     have m11:=zq hq2 (o:=.lst [.ref r',x1,vw])
     have M11:=M10.new hq2 (o:=.lst [.ref r',x1,vw])
     have hn1 : ZP e1 = true:=by rcases o1 with rfl | rfl <;> rfl
     refine ⟨2,q2,.ref r',x1,vw,3,dr,e1,cw,CNoFigures,2,rfl,zj,Rth M11.n,fr,t1.same m11,f1,M11.hw.same (zN _ _),fw,M11.n.lt,by decide,(fun n _ z=>by rcases o1 with rfl | rfl <;> (injection z with z; omega)),zae rr hn1 (by rw [hbase]; exact ww),.inr (.inr (.inr ⟨rfl,rfl⟩)),kd_NoFigures,fun H12 s12 lt12=>⟨_,rfl,wO ?_⟩⟩
     exact ⟨_,_,_,_,_,rfl,(M11.onL s12 lt12).n⟩
   ·rintro σ H6 ⟨v5,v6,v7,v8,v9,rfl,N6⟩
    refine ⟨3,rfl,by decide,by decide,xg (lo:=0) (n:=3) (fun l σ H7=>∃ (v5 v6 v7 v8 v9 : Option V),σ = [some (.ref a),some (.ref st),some (.int (0 + (i : Int))),some (.ref r),some (.ref r'),v5,v6,v7,v8,v9]∧Now T0 st p ds r b bl zs r' bl' zs' H7) ⟨_,_,_,_,_,rfl,N6⟩ ?_ ?_⟩
    ·rintro l σ H7 hl ⟨v5,v6,v7,v8,v9,rfl,N7⟩
     have hl : l < 3:=hl
     have f1 : Zj (baseOf dr) (.int 1) = true:=by
      rw [hbase]
      show decide (0≤(1 : Int)∧(1 : Int) < (b : Int)) = true
      exact decide_eq_true (by have:=g.b2; omega)
     refine ⟨_,rfl,_,rfl,l,.ref r',.int 9,.int 1,dr,.int 9,.int 1,by rw [Int.zero_add]; rfl,Rth N7,by rw [ThAt],by rw [ThAt],Nat.le_trans (za8 dr) (Nat.le_trans fr.wt (by decide)),N7.lt,hl,(fun n _ z=>by injection z with z; omega),(fun C hC=>by rw [YB rr rfl (fun _=>f1)] at hC; cases hC),fun _ H8 s8 lt8=>?_⟩
     have N8:=N7.onL s8 lt8
     refine ⟨rfl,_,rfl,zcd (by rw [decide_eq_true rfl]; rfl) ?_⟩
     have t1:=TrAt.rule (K:=K) (N8.R'.same (zN _ _))
     have t2:=TrAt.rule (K:=K) (N8.R.same (zN _ _))
     rw [e5] at t1
     refine ⟨_,rfl,_,rfl,_,_,t1,t2,zcb _ _,_,rfl,zcd (by rw [Vk]; rfl) ?_⟩
     exact ⟨_,_,_,_,_,rfl,N8⟩
    ·rintro σ H7 ⟨v5,v6,v7,v8,v9,rfl,N7⟩
     exact ⟨_,_,_,_,_,_,_,_,rfl,N7.st,N7.lt⟩
  ·rintro σ H3 ⟨v2,v3,v4,v5,v6,v7,v8,v9,rfl,S3,lt3⟩
   exact kk H3
end
end Lw
namespace PySem.W.Fast
def tw15475916753965527454:=0
def tw14018397413743080023:=0
def tw14659924240977201317:=0
def tw6982986108921447405:=0
def tw17892005555317376887:=0
def tw12555386032981462907:=0
def tw10903557500248918059:=0
def tw8401413867602841300:=0
def tw7402719739258446875:=0
def tw7038346284192281723:=0
def tw7108361641754900485:=0
def tw3521173647374845682:=0
def tw3279617432208486340:=0
def tw9908837193616710266:=0
def tw13274291961113127911:=0
def tw8701804345252201824:=0
def tw5185804310960200415:=0
def tw6093947990400946787:=0
def tw7758543094997296708:=0
def tw14971200885212297154:=0
def tw6135976670930973469:=0
def tw8515873750659750613:=0
def tw13317576140978863103:=0
def tw4063894801560462394:=0
def tw13138046364568877297:=0
def tw8478992283411560603:=0
def tw16963315970457735484:=0
def tw7275273688779488866:=0
def tw10787773311373722345:=0
def tw4891617313992646583:=0
def tw5471864121830223132:=0
def tw14417098851455224712:=0
def tw12896812033207854263:=0
def tw2804143937169330244:=0
def tw7894578836410607185:=0
def tw4347385714117078261:=0
def tw11909036323364970558:=0
def tw9453893194131784937:=0
def tw16655381703649143564:=0
def tw9390937126634812031:=0
def tw15535040599737427725:=0
def tw10219349756244876436:=0
def tw8779269829725612:=0
def tw10865734422202020274:=0
def tw1522519331107808065:=0
def tw3977764753872935530:=0
def tw4372538015525520680:=0
def tw9732504382274418000:=0
def tw17116008662122676146:=0
def tw4192520933063035930:=0
def tw15089861051076401538:=0
def tw12637137108836128831:=0
def tw17941341935663023020:=0
def tw2727487214455225090:=0
def tw950606420898864338:=0
def tw16820268109088005113:=0
def tw2275384407991373591:=0
def tw9716173165705064924:=0
def tw3353537170683986009:=0
def tw3782230447284304001:=0
def tw17472068578680635477:=0
def tw9673481830452405878:=0
def tw5185810871316442259:=0
def tw879770789894802297:=0
def tw269474958303015779:=0
def tw5949601373598622238:=0
def tw7740398290467548978:=0
def tw6697239009899488458:=0
def tw2789416338737413935:=0
def tw14041373692521958380:=0
def tw8565538684226545388:=0
def tw7883803596282747444:=0
def tw6536491759342718380:=0
def tw8952754989242308182:=0
def tw9301755358509126897:=0
def tw9919592299129914493:=0
def tw11639199853655642877:=0
def tw1539346321459057474:=0
def tw8291941799863423540:=0
def tw16209189564566982647:=0
def tw5407211362303702489:=0
def tw15366436179585118447:=0
def tw7456324438308376276:=0
def tw14694332081086570199:=0
def tw3865581097222994951:=0
def tw16731272499328479336:=0
def tw8303698495568149979:=0
def tw142086928709197192:=0
def tw14664119144962223984:=0
def tw13276071491552783000:=0
def tw14495730489972619808:=0
def tw16069780535309755493:=0
def tw17128692524673193681:=0
def tw18090908834785398986:=0
def tw13632240337760021993:=0
def tw7642266457465151421:=0
def tw12937021365570576723:=0
def tw7480436029945096173:=0
def tw7770890949387017084:=0
def tw6107793436945114557:=0
def tw10719191511424611308:=0
def tw517907163827901461:=0
def tw1597435202048760073:=0
def tw14759855381617332679:=0
def tw9718514663800093001:=0
def tw11705747675679123013:=0
def tw2038532830243769406:=0
def tw1034507554385590587:=0
def tw1400045018546284593:=0
def tw18152721688824980084:=0
def tw16342129189284703994:=0
def tw15812470870152534752:=0
def tw18141677406366861223:=0
def tw17705502757546183693:=0
def tw5959850333560776497:=0
def tw17421263417140293696:=0
def tw15197525162028179209:=0
def tw5577092526591603397:=0
def tw7518388683331844128:=0
def tw6407274727575704417:=0
def tw16264522847491069537:=0
def tw3724624562905155667:=0
def tw4078960904252595574:=0
def tw2413251007863153737:=0
def tw1099973351730722449:=0
def tw9364752233336184897:=0
def tw2946423515087451297:=0
def tw7056106195232649866:=0
def tw10321498492979529608:=0
def tw15458273357241880845:=0
def tw1617582996877496194:=0
def tw9845234926655883677:=0
def tw8986473901068963053:=0
def tw945616543033914059:=0
def tw4010401268357068894:=0
def tw17754471581571287742:=0
def tw4590905496937199206:=0
def tw3483063509951835903:=0
def tw10973317702724817837:=0
def tw13674349713386789121:=0
def tw8168648863366982523:=0
def tw13239431891962291361:=0
def tw6477504403962450228:=0
def tw6569804498718736171:=0
def tw8643340189420143306:=0
def tw8255246880211592453:=0
def tw10928289381396302031:=0
def tw4324158392184783918:=0
def tw2708916270627708594:=0
def tw13424599172281995989:=0
def tw971525764063384659:=0
def tw17083489301772612561:=0
def tw5796682512195074987:=0
def tw11204381291671163498:=0
def tw15842306820869038075:=0
def tw3457108757599085761:=0
def tw15637109841493378032:=0
def tw9579133717151973669:=0
def tw936581746134664413:=0
def tw8869659951436500044:=0
def tw6562587873602993821:=0
def tw17995525735669625171:=0
def tw7553902305320123899:=0
def tw13680302000312818365:=0
def tw1469465871855346918:=0
def tw3922749397952142680:=0
def tw5845218232435266520:=0
def tw15944567313075677336:=0
def tw18305780389955872269:=0
def tw10794245169517544402:=0
def tw16493656702690671911:=0
def tw17864330824332353458:=0
def tw14401238728373081045:=0
def tw6821043232692181838:=0
def tw5735925961889547596:=0
def tw4749183142274325356:=0
def tw6288953869105748524:=0
def tw5082320278400420636:=0
def tw961630530211692172:=0
def tw17664222072471523597:=0
def tw3969061852061413003:=0
def tw6645955566706110051:=0
def tw18097408292938041550:=0
def tw3341220898053392643:=0
def tw10246311948234563693:=0
def tw7751223512453127764:=0
def tw2765231669535887183:=0
def tw2382688358634988040:=0
def tw547743101906776123:=0
def tw5202522155998978637:=0
def tw7700961275189458802:=0
def tw16560443091156029639:=0
def tw15629761404319564310:=0
def tw10406231227636102994:=0
def tw3927418432013604051:=0
def tw2419067104887564960:=0
def tw3714414709691766173:=0
def tw18215057153987645054:=0
def tw13637276384604592722:=0
def tw7708911799057468917:=0
def tw9828081595404780699:=0
def tw12295422072411152486:=0
def tw3859080493931469802:=0
def tw15275317770939778219:=0
def tw267070250844395443:=0
def tw17013788007160629698:=0
def tw10374099857396613255:=0
def tw12550845286120363736:=0
def tw17779909506065650244:=0
def tw952280058344352633:=0
def tw10845474503553972620:=0
def tw3670950302701106018:=0
def tw568880700548835043:=0
def tw14566627210174994950:=0
def tw1669164448614381621:=0
def tw14893522255534237042:=0
def tw14319251141597110298:=0
def tw3840210071417790092:=0
def tw16967739960043015395:=0
def tw7822553206001768339:=0
def tw17145807955698855154:=0
def tw3722889799140007839:=0
def tw14718417827966075241:=0
def tw16419639758845057484:=0
def tw9819756451575726575:=0
def tw7854237844925991534:=0
def tw11280272151327377394:=0
def tw2371818536611753301:=0
def tw16047143446107444357:=0
def tw10936109958212093675:=0
def tw7726685706746576204:=0
def tw2580192329968430232:=0
def tw15006239554915271659:=0
def tw1576713335729069950:=0
def tw10370002617070763314:=0
def tw15735026195793340152:=0
def tw10497654121856738265:=0
def tw13877212934024105836:=0
def tw5267140116450436589:=0
def tw2911434589116570846:=0
def tw3713222700636270488:=0
def tw7635214994505419650:=0
def tw13026213850210406243:=0
def tw9786353042583964194:=0
def tw9205854093788874551:=0
def tw5407374384890629028:=0
def tw16494548618467703434:=0
def tw12495473511551604545:=0
def tw3732776673886057991:=0
def tw5385890205098617319:=0
def tw12257307784131752173:=0
def tw1136561879184375944:=0
def tw12940527559239405492:=0
def tw12283243496382187779:=0
def tw3170214446220133687:=0
def tw12538919110397211652:=0
def tw8649268432916633121:=0
def tw18069901310103213850:=0
def tw486817565545946264:=0
def tw11416046518075944987:=0
def tw4329331534816033930:=0
def tw3069463000266668146:=0
def tw346037006415935489:=0
def tw10793300538378043476:=0
def tw4597740579068138177:=0
def tw14306351593617666839:=0
def tw11772333411368792350:=0
def tw16551391103489214177:=0
def tw5431634817251269007:=0
def tw8163575532611208623:=0
def tw7222357907560239709:=0
def tw14124670306919117395:=0
def tw460668263131753297:=0
def tw10739774611179617293:=0
def tw613067928950453079:=0
def tw2641633276337851812:=0
def tw9554119800217145056:=0
def tw18231103472199935709:=0
def tw10861420208958362006:=0
def tw16753164913242535872:=0
def tw243315472342114680:=0
def tw5163896695704231707:=0
def tw3275505413113923352:=0
def tw7262563201510454929:=0
def tw3383645568096353922:=0
def tw3107064202773396223:=0
def tw1818254188435059664:=0
def tw11671873622331052223:=0
def tw12841901945773961032:=0
def tw18034731804168668589:=0
def tw8794996283087712777:=0
def tw9671594880117170739:=0
def tw12070820766352391463:=0
def tw10315563788567192402:=0
def tw3565068484061944475:=0
def tw5142455210520107843:=0
def tw1954386568850628990:=0
def tw14578996422068260362:=0
def tw8199457628357312908:=0
def tw2240376599927564793:=0
def tw11975082960939583346:=0
def tw2093345266105531267:=0
def tw13479007926171615759:=0
def tw16661397009130307832:=0
def tw4506600819952086371:=0
def tw1835402461838588970:=0
def tw8082777299300665457:=0
def tw7503181499360068668:=0
def tw16276217283211578008:=0
def tw1324759492773546525:=0
def tw14618007739018446065:=0
def tw16193710700534462124:=0
def tw8135395826623585048:=0
def tw3368166679279515098:=0
def tw5210457274391064464:=0
def tw14184327288458056006:=0
def tw2175266033743054935:=0
def tw378210574215447131:=0
def tw1382939003892390115:=0
def tw7433097382901195126:=0
def tw7859469991738976769:=0
def tw8243743324829631788:=0
def tw8401193258073245870:=0
def tw16361856713464381546:=0
def tw17261159578277032654:=0
def tw13739417903116803042:=0
def tw2939615423340189149:=0
def tw6013583638643688875:=0
def tw3848624011825635413:=0
def tw1388310693355068399:=0
def tw6282872745258042806:=0
def tw4572731129552546558:=0
def tw15260719078310280044:=0
def tw4092621413624611492:=0
def tw15764500884734891162:=0
def tw13746489603238292255:=0
def tw15492989843719372126:=0
def tw3769005505370991929:=0
def tw5579184162021396642:=0
def tw796149526049161675:=0
def tw2436698445613835099:=0
def tw8724550506838476235:=0
def tw9694202727563578223:=0
def tw394169204923441212:=0
def tw12130449475092131856:=0
def tw8023886629757803204:=0
def tw17655099113853298224:=0
def tw12131260512988012021:=0
def tw7954158852390329136:=0
def tw316851362718430736:=0
def tw6630033804795361254:=0
def tw14222105844764954100:=0
def tw18205293424035540413:=0
def tw11942397903989958666:=0
def tw9288252077577737096:=0
def tw9528779489122781838:=0
def tw5218671798905247037:=0
def tw8046567051163996401:=0
def tw6924875335786685614:=0
def tw6826902202126297330:=0
def tw5610462295821231658:=0
def tw11134126845042253772:=0
def tw4502156220314058079:=0
def tw10147382951276530131:=0
def tw12171244465919418682:=0
def tw8289793342524487039:=0
def tw2124669265288711537:=0
def tw6593051794043164681:=0
def tw9654112461261772348:=0
def tw6653215638594683109:=0
def tw17901581782421441309:=0
def tw13476037752213882965:=0
def tw16899700477281504263:=0
def tw1446385251404723924:=0
def tw18235995995361677214:=0
def tw3686406740341466380:=0
def tw14799551617322144575:=0
def tw10346404364972358683:=0
def tw3880360694826963496:=0
def tw7692244765162100394:=0
def tw3241621289775906487:=0
def tw9473918683827908101:=0
def tw3425226871127242577:=0
def tw9616284512016867643:=0
def tw566217946641951565:=0
def tw816411179403151388:=0
def tw9708478606752107365:=0
def tw13690128679111239424:=0
def tw17154869569753224754:=0
def tw7957664906197699331:=0
def tw5664077507993891134:=0
def tw2728383350606238979:=0
def tw10392665781227835107:=0
def tw16316853664453226551:=0
def tw15785511195456492915:=0
def tw250832165906652177:=0
def tw11152528956503335123:=0
def tw11182668155548911541:=0
def tw8612921987071739902:=0
def tw12533822027879673342:=0
def tw5655417759085069389:=0
def tw11452467668930017684:=0
def tw16668990082914829546:=0
def tw18392213644459010214:=0
def tw2680361499407112617:=0
def tw8151804814152453717:=0
def tw4115785226028114594:=0
def tw1200916997292862429:=0
def tw13229517371442685633:=0
def tw2968472860488719858:=0
def tw6313089736815168121:=0
def tw16296828752909472192:=0
def tw8191252877641201951:=0
def tw3937688356276469036:=0
def tw12853271684285062795:=0
def tw5791243922130088324:=0
def tw3383875462886363993:=0
def tw11558719948321686360:=0
def tw15102319718762690615:=0
def tw2433158266405062950:=0
def tw3030753009364389062:=0
def tw11856324808039493636:=0
def tw18174798994703260796:=0
def tw13175451392321167788:=0
def tw12076338710708268117:=0
def tw11630751304430117723:=0
def tw13016636556796404553:=0
def tw8899502098305270316:=0
def tw9185081588526518862:=0
def tw9446599538426675095:=0
def tw15008609436187909697:=0
def tw8919876779229509108:=0
def tw4141903248204676000:=0
def tw14644766705275799123:=0
def tw6883797212586012021:=0
def tw2353757358270164031:=0
def tw12945664979757217119:=0
def tw15611443795477337685:=0
def tw1536130318629754719:=0
def tw5635830049981281558:=0
def tw15251545449303319815:=0
def tw8451791709317913603:=0
def tw11809554379244025664:=0
def tw17444962248589732380:=0
def tw12553757801236482042:=0
def tw14220441717139627833:=0
def tw15229670379054929752:=0
def tw15899351313320086279:=0
def tw11501756238476686029:=0
def tw866716651272623763:=0
def tw1541839599875137009:=0
def tw10445568861267567430:=0
def tw11573245835784477643:=0
def tw8604752980453166082:=0
def tw15303817075633748150:=0
def tw5082839988767944484:=0
def tw12455589819417322881:=0
def tw16793674110221484358:=0
def tw3804939931263788081:=0
def tw4942900424299855433:=0
def tw11483710974193298552:=0
def tw1869847421156948600:=0
def tw6676672060932402765:=0
def tw5750926185345358692:=0
def tw575238269726894924:=0
def tw16034040335958345885:=0
def tw12310028523129894721:=0
def tw13524388153572987704:=0
def tw7825265713269232425:=0
def tw10927076565050266046:=0
def tw9917664034526315492:=0
def tw4255707207344744185:=0
def tw10725835596455957890:=0
def tw16411488858514204379:=0
def tw1030845757366336148:=0
def tw4854961824686294367:=0
def tw13868275872169729855:=0
def tw4955897782719500592:=0
def tw13561819930046839783:=0
def tw15057336379960693041:=0
def tw709605263625064480:=0
def tw2658356365123303770:=0
def tw17675817946736922090:=0
def tw2332702975434125069:=0
def tw14635436295905995813:=0
def tw14794204628566493789:=0
def tw9875971092510307269:=0
def tw3160639074302752299:=0
def tw17366513037390718801:=0
def tw12597416851817999137:=0
def tw1098842328000910497:=0
def tw14797197640175507079:=0
def tw10467296286460299694:=0
def tw5551646189083593688:=0
def tw15255858868374826613:=0
def tw17481270699844878246:=0
def tw1236010954894710189:=0
def tw4887595751460571316:=0
def tw14773873462502205752:=0
def tw15638446775055309877:=0
def tw11739051646057853605:=0
def tw412174057255445447:=0
def tw9167186608403017997:=0
def tw18100155701416211325:=0
def tw15866983081086292183:=0
def tw5601248750713130932:=0
def tw17021114614862864611:=0
def tw3762689973670115303:=0
def tw782735204524917556:=0
def tw9409187836260247394:=0
def tw7833129039163965104:=0
def tw2881877818484750768:=0
def tw2423203792853866696:=0
def tw16204376927209815129:=0
def tw709781953889480289:=0
def tw13940398950134735273:=0
def tw7660741132310704380:=0
def tw176137480552846052:=0
def tw11471721700139052285:=0
def tw6971729137707497492:=0
def tw249751504117356954:=0
def tw5056030853791323288:=0
def tw17551820818067654039:=0
def tw17229221596916122287:=0
def tw8663298369325662404:=0
def tw5119327427416379466:=0
def tw11010521401920027134:=0
def tw13549572456900018672:=0
def tw8409417416465942260:=0
def tw353838501867727621:=0
def tw2617507178554820789:=0
def tw18233482969372606082:=0
def tw6602060161076738329:=0
def tw9086260633102025632:=0
def tw5320888141154876352:=0
def tw4914024671579624246:=0
def tw14448756500282787009:=0
def tw13653664620837548452:=0
def tw12266896800255544890:=0
def tw5326201696031584581:=0
def tw18163907248662394547:=0
def tw4050730801936221526:=0
def tw9203877837763677069:=0
def tw16472431625392347310:=0
def tw6747854842683715460:=0
def tw11218625239529039762:=0
def tw9720637876316877487:=0
def tw16991964586096234873:=0
def tw7098413421760809873:=0
def tw8105832038803411791:=0
def tw1708659403264965513:=0
def tw13013799153960882407:=0
end PySem.W.Fast
namespace Lw
open PySem L2
theorem fb1 {P : List Value->Prop} (h : ∀ a,P [a]) : ∀ us : List Value,us.length = 1->P us
 | [a],_=>h a
theorem fb2 {P : List Value->Prop} (h : ∀ a b,P [a,b]) : ∀ us : List Value,us.length = 2->P us
 | [a,b],_=>h a b
theorem fb3 {P : List Value->Prop} (h : ∀ a b c,P [a,b,c]) : ∀ us : List Value,us.length = 3->P us
 | [a,b,c],_=>h a b c
def FF (K : PySem.W.Frag) (n q : Str) (st : Stmt) (f : Addr) (cd : Value) : Prop:=∃ (od an : Option Addr) (sl : Array (Option Value)) (oc kV dc pm ct : Value),K.lookup f = some ⟨oc,od,.func (PySem.W.fnOf n q (w6 st) (yZ st) (zx st) .none kV dc pm an cd ct),sl⟩∧PySem.W.codeIn K cd q = true∧PySem.W.keepIn K (.ref f) = true
def FD (K : PySem.W.Frag) (n : Str) (st : Stmt) : Prop:=∃ (f : Addr) (cd : Value),PySem.W.nsIn K mainGlobals n = some (some (.ref f))∧FF K n n st f cd
def FM (K : PySem.W.Frag) (C : Addr) (n q : Str) (st : Stmt) : Prop:=∃ (f : Addr) (cd : Value),PySem.W.findIn K (.ref C) n = some (some (.ref f))∧PySem.W.isFn K (.ref f) = true∧FF K n q st f cd
section
variable {K : PySem.W.Frag} {n q : Str} {st : Stmt} {f C : Addr} {cd : Value} {od an : Option Addr} {sl : Array (Option Value)} {oc kV dc pm ct : Value}
theorem fdm (a : PySem.W.nsIn K mainGlobals n = some (some (.ref f))) (l : K.lookup f = some ⟨oc,od,.func (PySem.W.fnOf n n (w6 st) (yZ st) (zx st) .none kV dc pm an cd ct),sl⟩) (e : PySem.W.codeIn K cd n = true) (k : PySem.W.keepIn K (.ref f) = true) : FD K n st:=⟨f,cd,a,od,an,sl,oc,kV,dc,pm,ct,l,e,k⟩
theorem fmm (a : PySem.W.findIn K (.ref C) n = some (some (.ref f))) (i : PySem.W.isFn K (.ref f) = true) (l : K.lookup f = some ⟨oc,od,.func (PySem.W.fnOf n q (w6 st) (yZ st) (zx st) .none kV dc pm an cd ct),sl⟩) (e : PySem.W.codeIn K cd q = true) (k : PySem.W.keepIn K (.ref f) = true) : FM K C n q st:=⟨f,cd,a,i,od,an,sl,oc,kV,dc,pm,ct,l,e,k⟩
def FB (n q : Str) (st : Stmt) (ps : List Str) : Prop:=∀ (kV doc pm : Value) (an : Option Addr) (cdv ct : Value) (us : List Value),us.length = ps.length->bindArgs (PySem.W.fnOf n q (w6 st) (yZ st) (zx st) .none kV doc pm an cdv ct) ⟨us,[]⟩ = pure (ps.zip us)
theorem FD.df {h : Heap} {mg : Str->Option Value} {ps : List Str} (x : FD K n st) (X : K.In h) (G : h.Ns mainGlobals mg) (b : FB n n st ps) : ∃ f fd,Df K mg n st ps f fd:=by
 obtain ⟨f,cd,a,od,an,sl,oc,kV,dc,pm,ct,l,e,k⟩:=x
 exact ⟨_,_,zdp X G a l e k b⟩
theorem FM.mt {ps : List Str} (x : FM K C n q st) (b : FB n q st ps) : ∃ f fd,Mt K C q n st ps f fd:=by
 obtain ⟨f,cd,a,i,od,an,sl,oc,kV,dc,pm,ct,l,e,k⟩:=x
 exact ⟨_,_,⟨Qy (st:=st) l e k,(Qy (st:=st) l e k).binds b,⟨a,i,k⟩⟩⟩
end
structure CF (K : PySem.W.Frag) (n : Str) (C : Addr) : Prop where
 g : PySem.W.nsIn K mainGlobals n = some (some (.ref C))
 m : PySem.W.mroIn K C (.type "object") = some true
 t : PySem.W.typeIn K (.ref C) = some (.type "type")
theorem CF.cls {K : PySem.W.Frag} {n : Str} {C D : Addr} {b : Bool} (x : CF K n D) (e : PySem.W.mroIn K C (.ref D) = some b) : PySem.W.kitCls K (.ref C) (.ref D) = some b:=by
 obtain ⟨cd,h,_⟩:=Option.bind_eq_some_iff.mp x.m
 show (if ((PySem.W.clsIn K D).isSome && PySem.W.typeIn K (.ref D) == some (.type "type")) = true then PySem.W.subIn K (.ref C) (.ref D) else none) = _
 rw [if_pos (by rw [h,x.t,Option.isSome_some,Bool.true_and]; exact beq_self_eq_true _)]
 exact e
theorem CF.no {K : PySem.W.Frag} {n : Str} {C D : Addr} (x : CF K n D) (s : PySem.W.mroIn K C (.ref C) = some true) (e : PySem.W.mroIn K C (.ref D) = some false) : PySem.W.kitOne K (.ref C) (.ref D) = some false:=by
 unfold PySem.W.kitOne
 rw [if_neg (fun q=>by
  have h : Value.ref C = Value.ref D:=eq_of_beq q
  injection h with h
  rw [← h,s] at e
  cases e)]
 exact x.cls e
theorem X6 {K : PySem.W.Frag} {C : Addr} : PySem.W.kitOne K (.ref C) (.ref C) = some true:=by
 unfold PySem.W.kitOne
 rw [if_pos (beq_self_eq_true _)]
theorem QR {K : PySem.W.Frag} {C : Addr} (e : PySem.W.mroIn K C (.type "ValueError") = some true) : PySem.W.kitOne K (.ref C) (.type "ValueError") = some true:=by
 unfold PySem.W.kitOne
 split
 ·rfl
 ·show (if PySem.W.kitMeta "ValueError" = true then PySem.W.subIn K (.ref C) (.type "ValueError") else none) = _
  rw [if_pos (by decide +kernel)]
  exact e
set_option maxHeartbeats 0 in
theorem zfi {l : PySem.W.OpenLaw} {w : World} {K : PySem.W.Frag} {h : Heap} {mg : Str->Option Value} {fa T0 c0 : Addr} (X : K.In h) (G : h.Ns mainGlobals mg) (hfa : mg "law" = some (.ref fa)) (hcT : PySem.W.codeHdIn K c0 T0 = true) (hgT : mainGlobals ≠ T0)
  (x0 : FD K "_wall" zdI)
  (x1 : FD K "is_whole" uN)
  (x2 : FD K "is_number" jB)
  (x3 : FD K "is_base" Zi)
  (x4 : FD K "is_figure" tO)
  (x5 : FD K "are_figures" vG)
  (x6 : FD K "is_stretch" qK)
  (x7 : FD K "is_rising" tU)
  (x8 : FD K "is_bad_list" vz)
  (x9 : FD K "is_rule" YD)
  (x10 : FD K "check_base" qC)
  (x11 : FD K "check_number" ud)
  (x12 : FD K "check_rule" wV)
  (x13 : FD K "stands_within" wu)
  (x14 : FD K "lacks_all" wH)
  (x15 : FD K "figures_of" wZ)
  (x16 : FD K "begins_one" ut)
  (x17 : FD K "longest_stand" vK)
  {f18 : Addr} {od18 an18 : Option Addr} {sl18 : Array (Option Value)} {oc18 kV18 dc18 pm18 ct18 : Value} (a18 : PySem.W.nsIn K mainGlobals "stands_of" = some (some (.ref f18)))
  (l18 : K.lookup f18 = some ⟨oc18,od18,.func (PySem.W.fnOf "stands_of" "stands_of" (w6 yj) (yZ yj) (zx yj) .none kV18 dc18 pm18 an18 (.ref c0) ct18),sl18⟩) (e18 : PySem.W.codeIn K (.ref c0) "stands_of" = true) (k18 : PySem.W.keepIn K (.ref f18) = true)
  (x19 : FD K "place_behind" ue)
  (x20 : FD K "steps_from" uD)
  (x21 : FD K "all_steps" tH)
  (x22 : FD K "weights_by_left" xn)
  (x23 : FD K "number_totals" vI)
  (x24 : FD K "sum_below" ju)
  (x25 : FD K "figures_below" vJ)
  (x26 : FD K "often_below" vD)
  (x27 : FD K "_law_draws" qL)
  (x28 : FD K "_law_take" xU)
  (x29 : FD K "_law_rule" tR)
  (x30 : FD K "_law_copy" tQ)
  (x31 : FD K "_law_kinds" vX)
  (x32 : FD K "_law_no_rule" wJ)
  (x33 : FD K "_law_no_number" w5)
  (x34 : FD K "_law_caught" vA)
  (x35 : FD K "_law_refused" uH)
  (x36 : FD K "_law_no_figure" wX)
  (x37 : FD K "law" VL)
  {CNoBase : Addr} (qNoBase : CF K "NoBase" CNoBase)
  {CNoNumber : Addr} (qNoNumber : CF K "NoNumber" CNoNumber)
  {CNoFigures : Addr} (qNoFigures : CF K "NoFigures" CNoFigures)
  {CNoRule : Addr} (qNoRule : CF K "NoRule" CNoRule)
  {CNoStand : Addr} (qNoStand : CF K "NoStand" CNoStand)
  {CNoGood : Addr} (qNoGood : CF K "NoGood" CNoGood)
  {CEndless : Addr} (qEndless : CF K "Endless" CEndless)
  {CNoRules : Addr} (qNoRules : CF K "NoRules" CNoRules)
  {CNoStretch : Addr} (qNoStretch : CF K "NoStretch" CNoStretch)
  {CTooMany : Addr} (qTooMany : CF K "TooMany" CTooMany)
  {CNoText : Addr} (qNoText : CF K "NoText" CNoText)
  {CNoName : Addr} (qNoName : CF K "NoName" CNoName)
  {CNoRow : Addr} (qNoRow : CF K "NoRow" CNoRow)
  {CLackError : Addr} (qLackError : CF K "LackError" CLackError)
  (mLE : PySem.W.mroIn K CLackError (.type "BaseException") = some true)
  (nVE : PySem.W.nsIn K mainGlobals "ValueError" = some none)
  (pNoRule : PySem.W.excIn K CNoRule veT "ValueError.__new__" = true) (lNoRule : PySem.W.mroIn K CNoRule (.ref CLackError) = some true)
  (iNoRule : W4 K CNoRule) (vNoRule : PySem.W.mroIn K CNoRule (.type "ValueError") = some true)
  (mNoRule_NoBase : PySem.W.mroIn K CNoRule (.ref CNoBase) = some false)
  (mNoRule_NoNumber : PySem.W.mroIn K CNoRule (.ref CNoNumber) = some false)
  (mNoRule_NoFigures : PySem.W.mroIn K CNoRule (.ref CNoFigures) = some false)
  (mNoRule_NoRule : PySem.W.mroIn K CNoRule (.ref CNoRule) = some true)
  (mNoRule_NoStand : PySem.W.mroIn K CNoRule (.ref CNoStand) = some false)
  (mNoRule_NoGood : PySem.W.mroIn K CNoRule (.ref CNoGood) = some false)
  (mNoRule_Endless : PySem.W.mroIn K CNoRule (.ref CEndless) = some false)
  (mNoRule_NoRules : PySem.W.mroIn K CNoRule (.ref CNoRules) = some false)
  (mNoRule_NoStretch : PySem.W.mroIn K CNoRule (.ref CNoStretch) = some false)
  (mNoRule_TooMany : PySem.W.mroIn K CNoRule (.ref CTooMany) = some false)
  (mNoRule_NoText : PySem.W.mroIn K CNoRule (.ref CNoText) = some false)
  (mNoRule_NoName : PySem.W.mroIn K CNoRule (.ref CNoName) = some false)
  (mNoRule_NoRow : PySem.W.mroIn K CNoRule (.ref CNoRow) = some false)
  (pNoNumber : PySem.W.excIn K CNoNumber veT "ValueError.__new__" = true) (lNoNumber : PySem.W.mroIn K CNoNumber (.ref CLackError) = some true)
  (iNoNumber : W4 K CNoNumber) (vNoNumber : PySem.W.mroIn K CNoNumber (.type "ValueError") = some true)
  (mNoNumber_NoBase : PySem.W.mroIn K CNoNumber (.ref CNoBase) = some false)
  (mNoNumber_NoNumber : PySem.W.mroIn K CNoNumber (.ref CNoNumber) = some true)
  (mNoNumber_NoFigures : PySem.W.mroIn K CNoNumber (.ref CNoFigures) = some false)
  (mNoNumber_NoRule : PySem.W.mroIn K CNoNumber (.ref CNoRule) = some false)
  (mNoNumber_NoStand : PySem.W.mroIn K CNoNumber (.ref CNoStand) = some false)
  (mNoNumber_NoGood : PySem.W.mroIn K CNoNumber (.ref CNoGood) = some false)
  (mNoNumber_Endless : PySem.W.mroIn K CNoNumber (.ref CEndless) = some false)
  (mNoNumber_NoRules : PySem.W.mroIn K CNoNumber (.ref CNoRules) = some false)
  (mNoNumber_NoStretch : PySem.W.mroIn K CNoNumber (.ref CNoStretch) = some false)
  (mNoNumber_TooMany : PySem.W.mroIn K CNoNumber (.ref CTooMany) = some false)
  (mNoNumber_NoText : PySem.W.mroIn K CNoNumber (.ref CNoText) = some false)
  (mNoNumber_NoName : PySem.W.mroIn K CNoNumber (.ref CNoName) = some false)
  (mNoNumber_NoRow : PySem.W.mroIn K CNoNumber (.ref CNoRow) = some false)
  (pNoFigures : PySem.W.excIn K CNoFigures veT "ValueError.__new__" = true) (lNoFigures : PySem.W.mroIn K CNoFigures (.ref CLackError) = some true)
  (iNoFigures : W4 K CNoFigures) (vNoFigures : PySem.W.mroIn K CNoFigures (.type "ValueError") = some true)
  (mNoFigures_NoBase : PySem.W.mroIn K CNoFigures (.ref CNoBase) = some false)
  (mNoFigures_NoNumber : PySem.W.mroIn K CNoFigures (.ref CNoNumber) = some false)
  (mNoFigures_NoFigures : PySem.W.mroIn K CNoFigures (.ref CNoFigures) = some true)
  (mNoFigures_NoRule : PySem.W.mroIn K CNoFigures (.ref CNoRule) = some false)
  (mNoFigures_NoStand : PySem.W.mroIn K CNoFigures (.ref CNoStand) = some false)
  (mNoFigures_NoGood : PySem.W.mroIn K CNoFigures (.ref CNoGood) = some false)
  (mNoFigures_Endless : PySem.W.mroIn K CNoFigures (.ref CEndless) = some false)
  (mNoFigures_NoRules : PySem.W.mroIn K CNoFigures (.ref CNoRules) = some false)
  (mNoFigures_NoStretch : PySem.W.mroIn K CNoFigures (.ref CNoStretch) = some false)
  (mNoFigures_TooMany : PySem.W.mroIn K CNoFigures (.ref CTooMany) = some false)
  (mNoFigures_NoText : PySem.W.mroIn K CNoFigures (.ref CNoText) = some false)
  (mNoFigures_NoName : PySem.W.mroIn K CNoFigures (.ref CNoName) = some false)
  (mNoFigures_NoRow : PySem.W.mroIn K CNoFigures (.ref CNoRow) = some false)
  (pNoBase : PySem.W.excIn K CNoBase veT "ValueError.__new__" = true) (lNoBase : PySem.W.mroIn K CNoBase (.ref CLackError) = some true)
  (iNoBase : W4 K CNoBase) (vNoBase : PySem.W.mroIn K CNoBase (.type "ValueError") = some true)
  (mNoBase_NoBase : PySem.W.mroIn K CNoBase (.ref CNoBase) = some true)
  (mNoBase_NoNumber : PySem.W.mroIn K CNoBase (.ref CNoNumber) = some false)
  (mNoBase_NoFigures : PySem.W.mroIn K CNoBase (.ref CNoFigures) = some false)
  (mNoBase_NoRule : PySem.W.mroIn K CNoBase (.ref CNoRule) = some false)
  (mNoBase_NoStand : PySem.W.mroIn K CNoBase (.ref CNoStand) = some false)
  (mNoBase_NoGood : PySem.W.mroIn K CNoBase (.ref CNoGood) = some false)
  (mNoBase_Endless : PySem.W.mroIn K CNoBase (.ref CEndless) = some false)
  (mNoBase_NoRules : PySem.W.mroIn K CNoBase (.ref CNoRules) = some false)
  (mNoBase_NoStretch : PySem.W.mroIn K CNoBase (.ref CNoStretch) = some false)
  (mNoBase_TooMany : PySem.W.mroIn K CNoBase (.ref CTooMany) = some false)
  (mNoBase_NoText : PySem.W.mroIn K CNoBase (.ref CNoText) = some false)
  (mNoBase_NoName : PySem.W.mroIn K CNoBase (.ref CNoName) = some false)
  (mNoBase_NoRow : PySem.W.mroIn K CNoBase (.ref CNoRow) = some false)
  {C : Addr} (aC : PySem.W.nsIn K mainGlobals "Tails" = some (some (.ref C)))
  (yC0 : FM K C "__init__" "Tails.__init__" uJ)
  (yC1 : FM K C "layer" "Tails.layer" wC)
  (yC2 : FM K C "many_by" "Tails.many_by" xj)
  (yC3 : FM K C "many_under" "Tails.many_under" Xl)
  (yC4 : FM K C "many_below" "Tails.many_below" Xd)
  (yC5 : FM K C "many_within" "Tails.many_within" xK)
  (yC6 : FM K C "figure_at" "Tails.figure_at" Wb)
  (yC7 : FM K C "number_at" "Tails.number_at" Xo)
  (yC8 : FM K C "are_endless" "Tails.are_endless" YL)
  (pgC : PySem.W.plainGet K C Str.empty = true) (hdC : PySem.W.hasDictIn K C = true) (poC : PySem.W.plainOver K C = true) (saC : PySem.W.findIn K (.ref C) "__setattr__" = some (some (.builtin "object.__setattr__"))) (mkC : PySem.W.makesIn K C = true) (kcC : PySem.W.keepIn K (.ref C) = true)
  (nC_base : PySem.W.findIn K (.ref C) "base" = some none)
  (nC_outset : PySem.W.findIn K (.ref C) "outset" = some none)
  (nC_steps : PySem.W.findIn K (.ref C) "steps" = some none)
  (nC_layers : PySem.W.findIn K (.ref C) "layers" = some none)
  {CS : Addr} (aCS : PySem.W.nsIn K mainGlobals "Totals" = some (some (.ref CS)))
  (yCS0 : FM K CS "__init__" "Totals.__init__" uB)
  (yCS1 : FM K CS "longer_layer" "Totals.longer_layer" yz)
  (yCS2 : FM K CS "weight_of" "Totals.weight_of" yX)
  (yCS3 : FM K CS "total_under" "Totals.total_under" yH)
  (yCS4 : FM K CS "total_below" "Totals.total_below" yp)
  (yCS5 : FM K CS "total_within" "Totals.total_within" Yd)
  (pgCS : PySem.W.plainGet K CS Str.empty = true) (hdCS : PySem.W.hasDictIn K CS = true) (poCS : PySem.W.plainOver K CS = true) (saCS : PySem.W.findIn K (.ref CS) "__setattr__" = some (some (.builtin "object.__setattr__"))) (mkCS : PySem.W.makesIn K CS = true) (kcCS : PySem.W.keepIn K (.ref CS) = true)
  (nCS_tails : PySem.W.findIn K (.ref CS) "tails" = some none)
  (nCS_weights : PySem.W.findIn K (.ref CS) "weights" = some none)
  (nCS_layers : PySem.W.findIn K (.ref CS) "layers" = some none)
  {t0 : Tok} (g0 : PySem.W.nsIn K mainGlobals "LEAST_BASE" = some (some (.int 2 t0)))
  {t1 : Tok} (g1 : PySem.W.nsIn K mainGlobals "GREATEST_BASE" = some (some (.int 16 t1)))
  {t2 : Tok} (g2 : PySem.W.nsIn K mainGlobals "MOST_STRETCHES" = some (some (.int 4 t2)))
  {t3 : Tok} (g3 : PySem.W.nsIn K mainGlobals "LONGEST_STRETCH" = some (some (.int 4 t3)))
  (z0 : PySem.W.nsIn K mainGlobals "isinstance" = some none)
  (z1 : PySem.W.nsIn K mainGlobals "int" = some none)
  (z2 : PySem.W.nsIn K mainGlobals "bool" = some none)
  (z3 : PySem.W.nsIn K mainGlobals "list" = some none)
  (z4 : PySem.W.nsIn K mainGlobals "tuple" = some none)
  (z5 : PySem.W.nsIn K mainGlobals "reversed" = some none)
  (z6 : PySem.W.nsIn K mainGlobals "len" = some none)
  (z7 : PySem.W.nsIn K mainGlobals "max" = some none)
  (z8 : PySem.W.nsIn K mainGlobals "min" = some none)
  (z9 : PySem.W.nsIn K mainGlobals "range" = some none)
  (z10 : PySem.W.nsIn K mainGlobals "all" = some none)
  (z11 : PySem.W.nsIn K mainGlobals "any" = some none)
  (z12 : PySem.W.nsIn K mainGlobals "sorted" = some none)
  (z13 : PySem.W.nsIn K mainGlobals "enumerate" = some none)
  (z14 : PySem.W.nsIn K mainGlobals "repr" = some none)
  (z15 : PySem.W.nsIn K mainGlobals "sum" = some none)
  (z16 : PySem.W.nsIn K mainGlobals "abs" = some none)
  (z17 : PySem.W.nsIn K mainGlobals "zip" = some none)
  (z18 : PySem.W.nsIn K mainGlobals "str" = some none)
  : ∃ fd : FuncData,(∀ (s : Shared) (v : Value),BindsTo s fd ⟨[v],[]⟩ [("script",v)])∧∀ base : Heap,K.In base->base.Ns mainGlobals mg->base.BuiltinsAt mg T0->FnOk l.prog w K mg base CX0 15 fa fd ["script"] (QC K T0):=by
 obtain ⟨fL,cd37,aL,od37,an37,sl37,oc37,kV37,dc37,pm37,ct37,lL,eL,kL⟩:=x37
 have e:=hfa.symm.trans (PySem.W.mg_of X G aL)
 cases e
 have T : Blt mg:=⟨PySem.W.mg_none_of X G z0,PySem.W.mg_none_of X G z1,PySem.W.mg_none_of X G z2,PySem.W.mg_none_of X G z3,PySem.W.mg_none_of X G z4,PySem.W.mg_none_of X G z5,PySem.W.mg_none_of X G z6,PySem.W.mg_none_of X G z7,PySem.W.mg_none_of X G z8,PySem.W.mg_none_of X G z9,PySem.W.mg_none_of X G z10,PySem.W.mg_none_of X G z11,PySem.W.mg_none_of X G z12,PySem.W.mg_none_of X G z13,PySem.W.mg_none_of X G z14⟩
 have U : zb2 mg:=⟨PySem.W.mg_none_of X G z15,PySem.W.mg_none_of X G z16,PySem.W.mg_none_of X G z17,PySem.W.mg_none_of X G z18⟩
 have Zq:=PySem.W.mg_of X G g0
 have t7:=PySem.W.mg_of X G g1
 have uR:=PySem.W.mg_of X G g2
 have uz:=PySem.W.mg_of X G g3
 obtain ⟨_,_,D_wall⟩:=x0.df (ps:=["k"]) X G fun _ _ _ _ _ _=>fb1 fun _=>rfl
 obtain ⟨_,_,yW⟩:=x1.df (ps:=["thing"]) X G fun _ _ _ _ _ _=>fb1 fun _=>rfl
 obtain ⟨_,_,ZG⟩:=x2.df (ps:=["thing"]) X G fun _ _ _ _ _ _=>fb1 fun _=>rfl
 obtain ⟨_,_,jf⟩:=x3.df (ps:=["thing"]) X G fun _ _ _ _ _ _=>fb1 fun _=>rfl
 obtain ⟨_,_,vN⟩:=x4.df (ps:=["base","thing"]) X G fun _ _ _ _ _ _=>fb2 fun _ _=>rfl
 obtain ⟨_,_,qy⟩:=x5.df (ps:=["base","thing"]) X G fun _ _ _ _ _ _=>fb2 fun _ _=>rfl
 obtain ⟨_,_,jE⟩:=x6.df (ps:=["base","thing"]) X G fun _ _ _ _ _ _=>fb2 fun _ _=>rfl
 obtain ⟨_,_,jr⟩:=x7.df (ps:=["stretches"]) X G fun _ _ _ _ _ _=>fb1 fun _=>rfl
 obtain ⟨_,_,qx⟩:=x8.df (ps:=["base","thing"]) X G fun _ _ _ _ _ _=>fb2 fun _ _=>rfl
 obtain ⟨_,_,Xy⟩:=x9.df (ps:=["thing"]) X G fun _ _ _ _ _ _=>fb1 fun _=>rfl
 obtain ⟨_,_,jL⟩:=x10.df (ps:=["thing"]) X G fun _ _ _ _ _ _=>fb1 fun _=>rfl
 obtain ⟨_,_,uW⟩:=x11.df (ps:=["thing"]) X G fun _ _ _ _ _ _=>fb1 fun _=>rfl
 obtain ⟨_,_,yV⟩:=x12.df (ps:=["thing"]) X G fun _ _ _ _ _ _=>fb1 fun _=>rfl
 obtain ⟨_,_,wN⟩:=x13.df (ps:=["stretch","figures"]) X G fun _ _ _ _ _ _=>fb2 fun _ _=>rfl
 obtain ⟨_,_,xH⟩:=x14.df (ps:=["bad","figures"]) X G fun _ _ _ _ _ _=>fb2 fun _ _=>rfl
 obtain ⟨_,_,yU⟩:=x15.df (ps:=["base","n"]) X G fun _ _ _ _ _ _=>fb2 fun _ _=>rfl
 obtain ⟨_,_,tL⟩:=x16.df (ps:=["bad","figures"]) X G fun _ _ _ _ _ _=>fb2 fun _ _=>rfl
 obtain ⟨_,_,uo⟩:=x17.df (ps:=["bad","figures"]) X G fun _ _ _ _ _ _=>fb2 fun _ _=>rfl
 have Zm : Df K mg "stands_of" yj ["bad"] _ _:=zdp X G a18 l18 e18 k18 fun _ _ _ _ _ _=>fb1 fun _=>rfl
 obtain ⟨_,_,uZ⟩:=x19.df (ps:=["bad","stands","figures"]) X G fun _ _ _ _ _ _=>fb3 fun _ _ _=>rfl
 obtain ⟨_,_,jJ⟩:=x20.df (ps:=["rule","stands","stand"]) X G fun _ _ _ _ _ _=>fb3 fun _ _ _=>rfl
 obtain ⟨_,_,ZL⟩:=x21.df (ps:=["rule","stands"]) X G fun _ _ _ _ _ _=>fb2 fun _ _=>rfl
 obtain ⟨_,_,vg⟩:=x22.df (ps:=["weights","scale","size"]) X G fun _ _ _ _ _ _=>fb3 fun _ _ _=>rfl
 obtain ⟨_,_,vZ⟩:=x23.df (ps:=["rule","size"]) X G fun _ _ _ _ _ _=>fb2 fun _ _=>rfl
 obtain ⟨_,_,ZJ⟩:=x24.df (ps:=["rule","n"]) X G fun _ _ _ _ _ _=>fb2 fun _ _=>rfl
 obtain ⟨_,_,ug⟩:=x25.df (ps:=["rule","n"]) X G fun _ _ _ _ _ _=>fb2 fun _ _=>rfl
 obtain ⟨_,_,qM⟩:=x26.df (ps:=["rule","n","figure"]) X G fun _ _ _ _ _ _=>fb3 fun _ _ _=>rfl
 obtain ⟨_,_,tK⟩:=x27.df (ps:=["script","many"]) X G fun _ _ _ _ _ _=>fb2 fun _ _=>rfl
 obtain ⟨_,_,zG⟩:=x28.df (ps:=["store","many"]) X G fun _ _ _ _ _ _=>fb2 fun _ _=>rfl
 obtain ⟨_,_,ZW⟩:=x29.df (ps:=["store"]) X G fun _ _ _ _ _ _=>fb1 fun _=>rfl
 obtain ⟨_,_,jb⟩:=x30.df (ps:=["rule"]) X G fun _ _ _ _ _ _=>fb1 fun _=>rfl
 obtain ⟨_,_,tX⟩:=x31.df (ps:=["caught","due"]) X G fun _ _ _ _ _ _=>fb2 fun _ _=>rfl
 obtain ⟨_,_,uX⟩:=x32.df (ps:=["store","rule"]) X G fun _ _ _ _ _ _=>fb2 fun _ _=>rfl
 obtain ⟨_,_,wy⟩:=x33.df (ps:=["store"]) X G fun _ _ _ _ _ _=>fb1 fun _=>rfl
 obtain ⟨_,_,wg⟩:=x34.df (ps:=["door","rule","n","figure"]) X G fun _ _ _ _ _ _ us hl=>match us,hl with | [_,_,_,_],_=>rfl
 obtain ⟨_,_,wB⟩:=x35.df (ps:=["door","row","due"]) X G fun _ _ _ _ _ _=>fb3 fun _ _ _=>rfl
 obtain ⟨_,_,wz⟩:=x36.df (ps:=["store","base"]) X G fun _ _ _ _ _ _=>fb2 fun _ _=>rfl
 have Dlaw : Df K mg "law" VL ["script"] _ _:=zdp X G aL lL eL kL fun _ _ _ _ _ _=>fb1 fun _=>rfl
 obtain ⟨_,_,qp⟩:=yC0.mt (ps:=["self","rule"]) fun _ _ _ _ _ _=>fb2 fun _ _=>rfl
 have za5 : Mk K C _:=let ⟨a,i,_⟩:=qp.m; ⟨mkC,a,i,kcC⟩
 have za4:=qp.b
 obtain ⟨_,_,xr⟩:=yC1.mt (ps:=["self","left"]) fun _ _ _ _ _ _=>fb2 fun _ _=>rfl
 obtain ⟨_,_,yJ⟩:=yC2.mt (ps:=["self","layer","place","stop"]) fun _ _ _ _ _ _ us hl=>match us,hl with | [_,_,_,_],_=>rfl
 obtain ⟨_,_,zbz⟩:=yC3.mt (ps:=["self","place","stop","left"]) fun _ _ _ _ _ _ us hl=>match us,hl with | [_,_,_,_],_=>rfl
 obtain ⟨_,_,zbq⟩:=yC4.mt (ps:=["self","figures"]) fun _ _ _ _ _ _=>fb2 fun _ _=>rfl
 obtain ⟨_,_,xY⟩:=yC5.mt (ps:=["self","size"]) fun _ _ _ _ _ _=>fb2 fun _ _=>rfl
 obtain ⟨_,_,zbW⟩:=yC6.mt (ps:=["self","place","k","left"]) fun _ _ _ _ _ _ us hl=>match us,hl with | [_,_,_,_],_=>rfl
 obtain ⟨_,_,zcn⟩:=yC7.mt (ps:=["self","size","k"]) fun _ _ _ _ _ _=>fb3 fun _ _ _=>rfl
 obtain ⟨_,_,zaJ⟩:=yC8.mt (ps:=["self"]) fun _ _ _ _ _ _=>fb1 fun _=>rfl
 have zL : ClT K mg C:=⟨⟨pgC,hdC,poC,saC⟩,PySem.W.mg_of X G aC,nC_base,nC_outset,nC_steps,nC_layers⟩
 obtain ⟨_,_,uP⟩:=yCS0.mt (ps:=["self","rule","weights","scale","size"]) fun _ _ _ _ _ _ us hl=>match us,hl with | [_,_,_,_,_],_=>rfl
 have qD : Mk K CS _:=let ⟨a,i,_⟩:=uP.m; ⟨mkCS,a,i,kcCS⟩
 have qF:=uP.b
 obtain ⟨_,_,xF⟩:=yCS1.mt (ps:=["self","left"]) fun _ _ _ _ _ _=>fb2 fun _ _=>rfl
 obtain ⟨_,_,yr⟩:=yCS2.mt (ps:=["self","behind","figure","left"]) fun _ _ _ _ _ _ us hl=>match us,hl with | [_,_,_,_],_=>rfl
 obtain ⟨_,_,yh⟩:=yCS3.mt (ps:=["self","place","stop","left","ahead"]) fun _ _ _ _ _ _ us hl=>match us,hl with | [_,_,_,_,_],_=>rfl
 obtain ⟨_,_,zW⟩:=yCS4.mt (ps:=["self","figures"]) fun _ _ _ _ _ _=>fb2 fun _ _=>rfl
 obtain ⟨_,_,JZ⟩:=yCS5.mt (ps:=["self","size"]) fun _ _ _ _ _ _=>fb2 fun _ _=>rfl
 have zH : ClS K mg CS:=⟨⟨pgCS,hdCS,poCS,saCS⟩,PySem.W.mg_of X G aCS,nCS_tails,nCS_weights,nCS_layers⟩
 refine ⟨PySem.W.fnOf "law" "law" (w6 VL) (yZ VL) (zx VL) .none kV37 dc37 pm37 an37 cd37 ct37,fun s v=>.of_eq rfl,fun base _ _ hBM=>?_⟩
 have XN : zau mg CNoBase CNoNumber CNoFigures CNoRule CNoStand CNoGood CEndless CNoRules CNoStretch CTooMany CNoText CNoName CNoRow:=⟨PySem.W.mg_of X G qNoBase.g,PySem.W.mg_of X G qNoNumber.g,PySem.W.mg_of X G qNoFigures.g,PySem.W.mg_of X G qNoRule.g,PySem.W.mg_of X G qNoStand.g,PySem.W.mg_of X G qNoGood.g,PySem.W.mg_of X G qEndless.g,PySem.W.mg_of X G qNoRules.g,PySem.W.mg_of X G qNoStretch.g,PySem.W.mg_of X G qTooMany.g,PySem.W.mg_of X G qNoText.g,PySem.W.mg_of X G qNoName.g,PySem.W.mg_of X G qNoRow.g⟩
 have n_ValueError : mg "ValueError" = none:=PySem.W.mg_none_of X G nVE
 have h_LackError : zaX K mg "LackError" CLackError:=⟨PySem.W.mg_of X G qLackError.g,mLE⟩
 have x_NoRule : Q3 K mg "NoRule" CNoRule:=⟨PySem.W.mg_of X G qNoRule.g,pNoRule⟩
 have kt_NoRule : PySem.W.kitCls K (.ref CNoRule) (.ref CLackError) = some true:=qLackError.cls lNoRule
 have kd_NoRule : XS K CNoRule CNoBase CNoNumber CNoFigures CNoRule CNoStand CNoGood CEndless CNoRules CNoStretch CTooMany CNoText CNoName CNoRow 3:=⟨iNoRule,QR vNoRule,qNoBase.no mNoRule_NoRule mNoRule_NoBase,qNoNumber.no mNoRule_NoRule mNoRule_NoNumber,qNoFigures.no mNoRule_NoRule mNoRule_NoFigures,X6,qNoStand.no mNoRule_NoRule mNoRule_NoStand,qNoGood.no mNoRule_NoRule mNoRule_NoGood,qEndless.no mNoRule_NoRule mNoRule_Endless,qNoRules.no mNoRule_NoRule mNoRule_NoRules,qNoStretch.no mNoRule_NoRule mNoRule_NoStretch,qTooMany.no mNoRule_NoRule mNoRule_TooMany,qNoText.no mNoRule_NoRule mNoRule_NoText,qNoName.no mNoRule_NoRule mNoRule_NoName,qNoRow.no mNoRule_NoRule mNoRule_NoRow⟩
 have x_NoNumber : Q3 K mg "NoNumber" CNoNumber:=⟨PySem.W.mg_of X G qNoNumber.g,pNoNumber⟩
 have kt_NoNumber : PySem.W.kitCls K (.ref CNoNumber) (.ref CLackError) = some true:=qLackError.cls lNoNumber
 have kd_NoNumber : XS K CNoNumber CNoBase CNoNumber CNoFigures CNoRule CNoStand CNoGood CEndless CNoRules CNoStretch CTooMany CNoText CNoName CNoRow 1:=⟨iNoNumber,QR vNoNumber,qNoBase.no mNoNumber_NoNumber mNoNumber_NoBase,X6,qNoFigures.no mNoNumber_NoNumber mNoNumber_NoFigures,qNoRule.no mNoNumber_NoNumber mNoNumber_NoRule,qNoStand.no mNoNumber_NoNumber mNoNumber_NoStand,qNoGood.no mNoNumber_NoNumber mNoNumber_NoGood,qEndless.no mNoNumber_NoNumber mNoNumber_Endless,qNoRules.no mNoNumber_NoNumber mNoNumber_NoRules,qNoStretch.no mNoNumber_NoNumber mNoNumber_NoStretch,qTooMany.no mNoNumber_NoNumber mNoNumber_TooMany,qNoText.no mNoNumber_NoNumber mNoNumber_NoText,qNoName.no mNoNumber_NoNumber mNoNumber_NoName,qNoRow.no mNoNumber_NoNumber mNoNumber_NoRow⟩
 have x_NoFigures : Q3 K mg "NoFigures" CNoFigures:=⟨PySem.W.mg_of X G qNoFigures.g,pNoFigures⟩
 have kt_NoFigures : PySem.W.kitCls K (.ref CNoFigures) (.ref CLackError) = some true:=qLackError.cls lNoFigures
 have kd_NoFigures : XS K CNoFigures CNoBase CNoNumber CNoFigures CNoRule CNoStand CNoGood CEndless CNoRules CNoStretch CTooMany CNoText CNoName CNoRow 2:=⟨iNoFigures,QR vNoFigures,qNoBase.no mNoFigures_NoFigures mNoFigures_NoBase,qNoNumber.no mNoFigures_NoFigures mNoFigures_NoNumber,X6,qNoRule.no mNoFigures_NoFigures mNoFigures_NoRule,qNoStand.no mNoFigures_NoFigures mNoFigures_NoStand,qNoGood.no mNoFigures_NoFigures mNoFigures_NoGood,qEndless.no mNoFigures_NoFigures mNoFigures_Endless,qNoRules.no mNoFigures_NoFigures mNoFigures_NoRules,qNoStretch.no mNoFigures_NoFigures mNoFigures_NoStretch,qTooMany.no mNoFigures_NoFigures mNoFigures_TooMany,qNoText.no mNoFigures_NoFigures mNoFigures_NoText,qNoName.no mNoFigures_NoFigures mNoFigures_NoName,qNoRow.no mNoFigures_NoFigures mNoFigures_NoRow⟩
 have x_NoBase : Q3 K mg "NoBase" CNoBase:=⟨PySem.W.mg_of X G qNoBase.g,pNoBase⟩
 have kt_NoBase : PySem.W.kitCls K (.ref CNoBase) (.ref CLackError) = some true:=qLackError.cls lNoBase
 have kd_NoBase : XS K CNoBase CNoBase CNoNumber CNoFigures CNoRule CNoStand CNoGood CEndless CNoRules CNoStretch CTooMany CNoText CNoName CNoRow 0:=⟨iNoBase,QR vNoBase,X6,qNoNumber.no mNoBase_NoBase mNoBase_NoNumber,qNoFigures.no mNoBase_NoBase mNoBase_NoFigures,qNoRule.no mNoBase_NoBase mNoBase_NoRule,qNoStand.no mNoBase_NoBase mNoBase_NoStand,qNoGood.no mNoBase_NoBase mNoBase_NoGood,qEndless.no mNoBase_NoBase mNoBase_Endless,qNoRules.no mNoBase_NoBase mNoBase_NoRules,qNoStretch.no mNoBase_NoBase mNoBase_NoStretch,qTooMany.no mNoBase_NoBase mNoBase_TooMany,qNoText.no mNoBase_NoBase mNoBase_NoText,qNoName.no mNoBase_NoBase mNoBase_NoName,qNoRow.no mNoBase_NoBase mNoBase_NoRow⟩
 have qQ : FnOk l.prog w K mg base CX0 1 _ _ ["thing"] tM:=jD yW T
 have Zk : FnOk l.prog w K mg base CX0 2 _ _ ["thing"] Zy:=zaE jf yW T Zq t7
 have uV : FnOk l.prog w K mg base CX0 2 _ _ ["base","thing"] qJ:=Jj vN yW T
 have Zu : FnOk l.prog w K mg base CX0 3 _ _ ["base","thing"] jt:=Uj qy vN uV T
 have Yp : FnOk l.prog w K mg base CX0 4 _ _ ["base","thing"] jT:=UJ jE qy Zu uz T
 have VH : FnOk l.prog w K mg base CX0 1 _ _ ["stretches"] ZF:=X7 jr T
 have ZC : FnOk l.prog w K mg base CX0 5 _ _ ["base","thing"] jq:=VR qx jE Yp jr uR T
 have Ub : FnOk l.prog w K mg base CX0 6 _ _ ["thing"] Y4:=zaU Xy jf Zk qx ZC T
 have Yt : FnOk l.prog w K mg base CX0 1 _ _ ["stretch","figures"] uK:=Zc wN T
 have xZ : FnOk l.prog w K mg base CX0 2 _ _ ["bad","figures"] uF:=Jd xH wN T
 have Y8 : FnOk l.prog w K mg base CX0 2 _ _ ["thing"] ZM:=Je ZG yW T
 have xu : FnOk l.prog w K mg base (CX1 l.prog w) 7 _ _ ["thing"] (vC CNoRule):=Ut yV Xy Ub x_NoRule
 have Yk : FnOk l.prog w K mg base (CX1 l.prog w) 3 _ _ ["thing"] (jU CNoBase):=Uy jL jf Zk x_NoBase
 have j4 : FnOk l.prog w K mg base (CX1 l.prog w) 3 _ _ ["thing"] (tZ CNoNumber):=W5 uW ZG Y8 x_NoNumber
 have xG : FnOk l.prog w K mg base (CX1 l.prog w) 4 _ _ ["base","n"] (vq CNoBase CNoNumber):=UT yU jL Yk uW j4 T
 have WP : FnOk l.prog w K mg base CX0 1 _ _ ["bad","figures"] jW:=Y0 tL T
 have qU : FnOk l.prog w K mg base CX0 3 _ _ ["bad","figures"] uL:=Wn uo xH xZ tL T
 have Xe : FnOk l.prog w K mg base CX0 6 _ _ ["bad"] (Z0 T0):=Q6 Zm rfl hcT hBM hgT xH xZ T
 have jX : FnOk l.prog w K mg base CX0 4 _ _ ["bad","stands","figures"] tY:=W2 uZ uo qU
 have Yh : FnOk l.prog w K mg base CX0 5 _ _ ["rule","stands","stand"] jR:=UG jJ uZ jX T
 have Xa : FnOk l.prog w K mg base CX0 6 _ _ ["rule","stands"] Z4:=Jc ZL jJ Yh T
 have Ys : FnOk l.prog w K mg base CX0 1 _ _ ["self","layer","place","stop"] (Xb C):=Vr yJ zL T U
 have uw : FnOk l.prog w K mg base CX0 2 _ _ ["self","left"] (XM C):=zag xr yJ zL T U
 have vQ : FnOk l.prog w K mg base CX0 3 _ _ ["self","size"] (qX C):=Vh xY xr yJ zL T U
 have Yn : FnOk l.prog w K mg base CX0 7 _ _ ["self","rule"] (X4 T0 C):=zc6 qp Zm Xe ZL Xa xH xZ zL T
 have uU : FnOk l.prog w K mg base CX0 1 _ _ ["weights","scale","size"] vO:=Y9 vg T
 have yL : FnOk l.prog w K mg base CX0 1 _ _ ["self","behind","figure","left"] (qG C CS):=Jp yr zL zH
 have yt : FnOk l.prog w K mg base CX0 3 _ _ ["self","place","stop","left","ahead"] (um C CS):=V4 yh xr uw yr yL zL zH T
 have wU : FnOk l.prog w K mg base CX0 4 _ _ ["self","left"] (qu C CS):=W0 xF yh yt zL zH T
 have yP : FnOk l.prog w K mg base CX0 9 _ _ ["self","rule","weights","scale","size"] (qP T0 C CS):=zco uP za5 za4 Yn vg uU xY vQ xF wU zL zH T
 have qY : FnOk l.prog w K mg base CX0 11 _ _ ["rule","size"] (uM T0 C CS):=Wl vZ qD qF yP zH T
 have ye : FnOk l.prog w K mg base CX0 4 _ _ ["self","figures"] (xP C CS):=V8 zW yh yt yr yL zL zH T
 have Xf : FnOk l.prog w K mg base (CX1 l.prog w) 12 _ _ ["rule","n"] (YC T0 CNoRule CNoNumber):=QW ZJ yV xu yU xG vZ qY zW ye zH T
 have q9 : FnOk l.prog w K mg base (CX1 l.prog w) 12 _ _ ["rule","n"] (YC T0 CNoRule CNoNumber):=Wj ug yV xu yU xG qD qF yP zW ye zH T
 have Zw : FnOk l.prog w K mg base (CX1 l.prog w) 12 _ _ ["rule","n","figure"] (Wm T0 CNoRule CNoNumber CNoFigures):=VD qM yV xu yU xG vN uV x_NoFigures qD qF yP zW ye zH T
 have zT : FnOk l.prog w K mg base CX0 1 _ _ ["store","many"] (wk T0):=vY zG T
 have WM : FnOk l.prog w K mg base CX0 1 _ _ ["script","many"] (jV K):=YX tK T U
 have Xj : FnOk l.prog w K mg base CX0 2 _ _ ["store"] (Z1 T0):=Jq ZW zG T
 have Ue : FnOk l.prog w K mg base CX0 1 _ _ ["rule"] Zz:=X8 jb T
 have jO : FnOk l.prog w K mg base CX0 2 _ _ ["store","rule"] (qb T0):=WW uX zG T
 have WQ : FnOk l.prog w K mg base CX0 1 _ _ ["caught","due"] (jP K CNoBase CNoNumber CNoFigures CNoRule CNoStand CNoGood CEndless CNoRules CNoStretch CTooMany CNoText CNoName CNoRow):=YQ tX XN n_ValueError T
 have Z7 : FnOk l.prog w K mg base CX0 2 _ _ ["store"] (uC T0):=jx wy zG T
 have Z5 : FnOk l.prog w K mg base CX0 2 _ _ ["store","base"] (ul T0):=jK wz zG T
 have wW : FnOk l.prog w K mg base CX0 13 _ _ ["door","rule","n","figure"] (ur T0 CNoRule CNoNumber CNoFigures):=VB wg ZJ Xf ug q9 qM Zw h_LackError kt_NoRule kt_NoNumber kt_NoFigures
 have vH : FnOk l.prog w K mg base CX0 14 _ _ ["door","row","due"] (t8 K T0 CNoBase CNoNumber CNoFigures CNoRule CNoStand CNoGood CEndless CNoRules CNoStretch CTooMany CNoText CNoName CNoRow):=W7 wB wg wW tX XN n_ValueError T
 exact zeW Dlaw tK ZW Xj jb uX jO wy wz zG wB vH wg wW kd_NoRule kd_NoNumber kd_NoFigures T U
theorem walk2 {l : PySem.W.OpenLaw} {q : Program} {loose : List Str} {XP : (Str->Option Value)->Heap->Prop} {YP : World->Heap->Prop} {d : DefRec} {K : Params->PySem.W.Frag} {c T0 : Addr} (hn : l.most = some 63) (hdf : d.params.defaults = [])
  (hY : ∀ (w : World) (h : Heap),YP w h->(K w.params).In h) (hYT : ∀ (w : World) (h : Heap),YP w h->h.get? T0 = some (PySem.W.tabObj #[])) (hKT : ∀ w : World,(K w.params).lookup T0 = none) (hcT : ∀ w : World,PySem.W.codeHdIn (K w.params) c T0 = true)
  (F : ∀ (w : World) (mg : Str->Option Value) (fa : Addr) (h : Heap),(K w.params).In h->h.Ns mainGlobals mg->mg d.name = some (.ref fa) ->
   ∃ fd : FuncData,(∀ (s : Shared) (u : Value),BindsTo s fd ⟨[u],[]⟩ [("script",u)])∧∀ base : Heap,(K w.params).In base->base.Ns mainGlobals mg->base.BuiltinsAt mg T0->FnOk l.prog w (K w.params) mg base CX0 15 fa fd ["script"] (QC (K w.params) T0)) :
  PySem.W.WalkO q loose XP YP l.row.toRowW d [] (fun f vs=>PySem.call f vs) :=
 L2.zfz (n:=63) (k:=15) (x:="script") (sp:=fun w=>QC (K w.params) T0) hn (by decide) hdf ⟨rfl,by decide,by decide,rfl⟩ hY hYT hKT hcT F (fun w H a ns hl hT hS=>⟨a,ns,rfl,hS,hl,.inl hT,fun _=>rfl⟩)
end Lw
open PySem PySem.W PyProof.Rows
set_option maxRecDepth 100000 in
set_option maxHeartbeats 0 in
theorem PySem.Challenge.cw_lackstretch_k20_no_rules_no_numbers_no_f_holds : PySem.Challenge.rw_lackstretch_k20_no_rules_no_numbers_no_f.Holds := by
 w_on; o_law; k_head; (case hw=>w_witness2)
 k_fill
 refine Lw.walk2 (l:=PySem.Challenge.rw_lackstretch_k20_no_rules_no_numbers_no_f) (c:=303) (T0:=299) rfl rfl (fun w h Y=>PySem.W.km_in_of Y) (fun w h Y=>PySem.W.km_tabs_of Y 299 (by decide)) (fun w=>by kernel_rfl) (fun w=>by kernel_rfl) ?F
 case F =>
  intro w mg fa h KX G hmg
  refine' Lw.zfi (c0:=303) (T0:=299) KX G hmg (by kernel_rfl) (by decide) ?yyx0 ?yyx1 ?yyx2 ?yyx3 ?yyx4 ?yyx5 ?yyx6 ?yyx7 ?yyx8 ?yyx9 ?yyx10 ?yyx11 ?yyx12 ?yyx13 ?yyx14 ?yyx15 ?yyx16 ?yyx17 ?yya18 ?yyl18 ?yye18 ?yyk18 ?yyx19 ?yyx20 ?yyx21 ?yyx22 ?yyx23 ?yyx24 ?yyx25 ?yyx26 ?yyx27 ?yyx28 ?yyx29 ?yyx30 ?yyx31 ?yyx32 ?yyx33 ?yyx34 ?yyx35 ?yyx36 ?yyx37 ?yyqNoBase ?yyqNoNumber ?yyqNoFigures ?yyqNoRule ?yyqNoStand ?yyqNoGood ?yyqEndless ?yyqNoRules ?yyqNoStretch ?yyqTooMany ?yyqNoText ?yyqNoName ?yyqNoRow ?yyqLackError ?yymLE ?yynVE ?yypNoRule ?yylNoRule ?yyiNoRule ?yyvNoRule ?yymNoRule_NoBase ?yymNoRule_NoNumber ?yymNoRule_NoFigures ?yymNoRule_NoRule ?yymNoRule_NoStand ?yymNoRule_NoGood ?yymNoRule_Endless ?yymNoRule_NoRules ?yymNoRule_NoStretch ?yymNoRule_TooMany ?yymNoRule_NoText ?yymNoRule_NoName ?yymNoRule_NoRow ?yypNoNumber ?yylNoNumber ?yyiNoNumber ?yyvNoNumber ?yymNoNumber_NoBase ?yymNoNumber_NoNumber ?yymNoNumber_NoFigures ?yymNoNumber_NoRule ?yymNoNumber_NoStand ?yymNoNumber_NoGood ?yymNoNumber_Endless ?yymNoNumber_NoRules ?yymNoNumber_NoStretch ?yymNoNumber_TooMany ?yymNoNumber_NoText ?yymNoNumber_NoName ?yymNoNumber_NoRow ?yypNoFigures ?yylNoFigures ?yyiNoFigures ?yyvNoFigures ?yymNoFigures_NoBase ?yymNoFigures_NoNumber ?yymNoFigures_NoFigures ?yymNoFigures_NoRule ?yymNoFigures_NoStand ?yymNoFigures_NoGood ?yymNoFigures_Endless ?yymNoFigures_NoRules ?yymNoFigures_NoStretch ?yymNoFigures_TooMany ?yymNoFigures_NoText ?yymNoFigures_NoName ?yymNoFigures_NoRow ?yypNoBase ?yylNoBase ?yyiNoBase ?yyvNoBase ?yymNoBase_NoBase ?yymNoBase_NoNumber ?yymNoBase_NoFigures ?yymNoBase_NoRule ?yymNoBase_NoStand ?yymNoBase_NoGood ?yymNoBase_Endless ?yymNoBase_NoRules ?yymNoBase_NoStretch ?yymNoBase_TooMany ?yymNoBase_NoText ?yymNoBase_NoName ?yymNoBase_NoRow ?yyaC ?yyyC0 ?yyyC1 ?yyyC2 ?yyyC3 ?yyyC4 ?yyyC5 ?yyyC6 ?yyyC7 ?yyyC8 ?yypgC ?yyhdC ?yypoC ?yysaC ?yymkC ?yykcC ?yynC_base ?yynC_outset ?yynC_steps ?yynC_layers ?yyaCS ?yyyCS0 ?yyyCS1 ?yyyCS2 ?yyyCS3 ?yyyCS4 ?yyyCS5 ?yypgCS ?yyhdCS ?yypoCS ?yysaCS ?yymkCS ?yykcCS ?yynCS_tails ?yynCS_weights ?yynCS_layers ?yyg0 ?yyg1 ?yyg2 ?yyg3 ?yyz0 ?yyz1 ?yyz2 ?yyz3 ?yyz4 ?yyz5 ?yyz6 ?yyz7 ?yyz8 ?yyz9 ?yyz10 ?yyz11 ?yyz12 ?yyz13 ?yyz14 ?yyz15 ?yyz16 ?yyz17 ?yyz18
  (case yyx0=>refine' Lw.fdm ?_ ?_ ?_ ?_ <;> try k_is)
  (case yyx1=>refine' Lw.fdm ?_ ?_ ?_ ?_ <;> try k_is)
  (case yyx2=>refine' Lw.fdm ?_ ?_ ?_ ?_ <;> try k_is)
  (case yyx3=>refine' Lw.fdm ?_ ?_ ?_ ?_ <;> try k_is)
  (case yyx4=>refine' Lw.fdm ?_ ?_ ?_ ?_ <;> try k_is)
  (case yyx5=>refine' Lw.fdm ?_ ?_ ?_ ?_ <;> try k_is)
  (case yyx6=>refine' Lw.fdm ?_ ?_ ?_ ?_ <;> try k_is)
  (case yyx7=>refine' Lw.fdm ?_ ?_ ?_ ?_ <;> try k_is)
  (case yyx8=>refine' Lw.fdm ?_ ?_ ?_ ?_ <;> try k_is)
  (case yyx9=>refine' Lw.fdm ?_ ?_ ?_ ?_ <;> try k_is)
  (case yyx10=>refine' Lw.fdm ?_ ?_ ?_ ?_ <;> try k_is)
  (case yyx11=>refine' Lw.fdm ?_ ?_ ?_ ?_ <;> try k_is)
  (case yyx12=>refine' Lw.fdm ?_ ?_ ?_ ?_ <;> try k_is)
  (case yyx13=>refine' Lw.fdm ?_ ?_ ?_ ?_ <;> try k_is)
  (case yyx14=>refine' Lw.fdm ?_ ?_ ?_ ?_ <;> try k_is)
  (case yyx15=>refine' Lw.fdm ?_ ?_ ?_ ?_ <;> try k_is)
  (case yyx16=>refine' Lw.fdm ?_ ?_ ?_ ?_ <;> try k_is)
  (case yyx17=>refine' Lw.fdm ?_ ?_ ?_ ?_ <;> try k_is)
  (case yya18=>k_is)
  (case yyl18=>k_is)
  (case yye18=>k_is)
  (case yyk18=>k_is)
  (case yyx19=>refine' Lw.fdm ?_ ?_ ?_ ?_ <;> try k_is)
  (case yyx20=>refine' Lw.fdm ?_ ?_ ?_ ?_ <;> try k_is)
  (case yyx21=>refine' Lw.fdm ?_ ?_ ?_ ?_ <;> try k_is)
  (case yyx22=>refine' Lw.fdm ?_ ?_ ?_ ?_ <;> try k_is)
  (case yyx23=>refine' Lw.fdm ?_ ?_ ?_ ?_ <;> try k_is)
  (case yyx24=>refine' Lw.fdm ?_ ?_ ?_ ?_ <;> try k_is)
  (case yyx25=>refine' Lw.fdm ?_ ?_ ?_ ?_ <;> try k_is)
  (case yyx26=>refine' Lw.fdm ?_ ?_ ?_ ?_ <;> try k_is)
  (case yyx27=>refine' Lw.fdm ?_ ?_ ?_ ?_ <;> try k_is)
  (case yyx28=>refine' Lw.fdm ?_ ?_ ?_ ?_ <;> try k_is)
  (case yyx29=>refine' Lw.fdm ?_ ?_ ?_ ?_ <;> try k_is)
  (case yyx30=>refine' Lw.fdm ?_ ?_ ?_ ?_ <;> try k_is)
  (case yyx31=>refine' Lw.fdm ?_ ?_ ?_ ?_ <;> try k_is)
  (case yyx32=>refine' Lw.fdm ?_ ?_ ?_ ?_ <;> try k_is)
  (case yyx33=>refine' Lw.fdm ?_ ?_ ?_ ?_ <;> try k_is)
  (case yyx34=>refine' Lw.fdm ?_ ?_ ?_ ?_ <;> try k_is)
  (case yyx35=>refine' Lw.fdm ?_ ?_ ?_ ?_ <;> try k_is)
  (case yyx36=>refine' Lw.fdm ?_ ?_ ?_ ?_ <;> try k_is)
  (case yyx37=>refine' Lw.fdm ?_ ?_ ?_ ?_ <;> try k_is)
  (case yyqNoBase=>refine' ⟨?_,?_,?_⟩ <;> try k_is)
  (case yyqNoNumber=>refine' ⟨?_,?_,?_⟩ <;> try k_is)
  (case yyqNoFigures=>refine' ⟨?_,?_,?_⟩ <;> try k_is)
  (case yyqNoRule=>refine' ⟨?_,?_,?_⟩ <;> try k_is)
  (case yyqNoStand=>refine' ⟨?_,?_,?_⟩ <;> try k_is)
  (case yyqNoGood=>refine' ⟨?_,?_,?_⟩ <;> try k_is)
  (case yyqEndless=>refine' ⟨?_,?_,?_⟩ <;> try k_is)
  (case yyqNoRules=>refine' ⟨?_,?_,?_⟩ <;> try k_is)
  (case yyqNoStretch=>refine' ⟨?_,?_,?_⟩ <;> try k_is)
  (case yyqTooMany=>refine' ⟨?_,?_,?_⟩ <;> try k_is)
  (case yyqNoText=>refine' ⟨?_,?_,?_⟩ <;> try k_is)
  (case yyqNoName=>refine' ⟨?_,?_,?_⟩ <;> try k_is)
  (case yyqNoRow=>refine' ⟨?_,?_,?_⟩ <;> try k_is)
  (case yyqLackError=>refine' ⟨?_,?_,?_⟩ <;> try k_is)
  (case yymLE=>k_is)
  (case yynVE=>k_is)
  (case yypNoRule=>k_exc)
  (case yylNoRule=>k_is)
  (case yyiNoRule=>refine' ⟨?_,?_,?_,?_,?_,?_,?_⟩ <;> k_is)
  (case yyvNoRule=>k_is)
  (case yymNoRule_NoBase=>k_is)
  (case yymNoRule_NoNumber=>k_is)
  (case yymNoRule_NoFigures=>k_is)
  (case yymNoRule_NoRule=>k_is)
  (case yymNoRule_NoStand=>k_is)
  (case yymNoRule_NoGood=>k_is)
  (case yymNoRule_Endless=>k_is)
  (case yymNoRule_NoRules=>k_is)
  (case yymNoRule_NoStretch=>k_is)
  (case yymNoRule_TooMany=>k_is)
  (case yymNoRule_NoText=>k_is)
  (case yymNoRule_NoName=>k_is)
  (case yymNoRule_NoRow=>k_is)
  (case yypNoNumber=>k_exc)
  (case yylNoNumber=>k_is)
  (case yyiNoNumber=>refine' ⟨?_,?_,?_,?_,?_,?_,?_⟩ <;> k_is)
  (case yyvNoNumber=>k_is)
  (case yymNoNumber_NoBase=>k_is)
  (case yymNoNumber_NoNumber=>k_is)
  (case yymNoNumber_NoFigures=>k_is)
  (case yymNoNumber_NoRule=>k_is)
  (case yymNoNumber_NoStand=>k_is)
  (case yymNoNumber_NoGood=>k_is)
  (case yymNoNumber_Endless=>k_is)
  (case yymNoNumber_NoRules=>k_is)
  (case yymNoNumber_NoStretch=>k_is)
  (case yymNoNumber_TooMany=>k_is)
  (case yymNoNumber_NoText=>k_is)
  (case yymNoNumber_NoName=>k_is)
  (case yymNoNumber_NoRow=>k_is)
  (case yypNoFigures=>k_exc)
  (case yylNoFigures=>k_is)
  (case yyiNoFigures=>refine' ⟨?_,?_,?_,?_,?_,?_,?_⟩ <;> k_is)
  (case yyvNoFigures=>k_is)
  (case yymNoFigures_NoBase=>k_is)
  (case yymNoFigures_NoNumber=>k_is)
  (case yymNoFigures_NoFigures=>k_is)
  (case yymNoFigures_NoRule=>k_is)
  (case yymNoFigures_NoStand=>k_is)
  (case yymNoFigures_NoGood=>k_is)
  (case yymNoFigures_Endless=>k_is)
  (case yymNoFigures_NoRules=>k_is)
  (case yymNoFigures_NoStretch=>k_is)
  (case yymNoFigures_TooMany=>k_is)
  (case yymNoFigures_NoText=>k_is)
  (case yymNoFigures_NoName=>k_is)
  (case yymNoFigures_NoRow=>k_is)
  (case yypNoBase=>k_exc)
  (case yylNoBase=>k_is)
  (case yyiNoBase=>refine' ⟨?_,?_,?_,?_,?_,?_,?_⟩ <;> k_is)
  (case yyvNoBase=>k_is)
  (case yymNoBase_NoBase=>k_is)
  (case yymNoBase_NoNumber=>k_is)
  (case yymNoBase_NoFigures=>k_is)
  (case yymNoBase_NoRule=>k_is)
  (case yymNoBase_NoStand=>k_is)
  (case yymNoBase_NoGood=>k_is)
  (case yymNoBase_Endless=>k_is)
  (case yymNoBase_NoRules=>k_is)
  (case yymNoBase_NoStretch=>k_is)
  (case yymNoBase_TooMany=>k_is)
  (case yymNoBase_NoText=>k_is)
  (case yymNoBase_NoName=>k_is)
  (case yymNoBase_NoRow=>k_is)
  (case yyaC=>k_is)
  (case yyyC0=>refine' Lw.fmm ?_ ?_ ?_ ?_ ?_ <;> try k_is)
  (case yyyC1=>refine' Lw.fmm ?_ ?_ ?_ ?_ ?_ <;> try k_is)
  (case yyyC2=>refine' Lw.fmm ?_ ?_ ?_ ?_ ?_ <;> try k_is)
  (case yyyC3=>refine' Lw.fmm ?_ ?_ ?_ ?_ ?_ <;> try k_is)
  (case yyyC4=>refine' Lw.fmm ?_ ?_ ?_ ?_ ?_ <;> try k_is)
  (case yyyC5=>refine' Lw.fmm ?_ ?_ ?_ ?_ ?_ <;> try k_is)
  (case yyyC6=>refine' Lw.fmm ?_ ?_ ?_ ?_ ?_ <;> try k_is)
  (case yyyC7=>refine' Lw.fmm ?_ ?_ ?_ ?_ ?_ <;> try k_is)
  (case yyyC8=>refine' Lw.fmm ?_ ?_ ?_ ?_ ?_ <;> try k_is)
  (case yypgC=>k_is)
  (case yyhdC=>k_is)
  (case yypoC=>k_is)
  (case yysaC=>k_is)
  (case yymkC=>k_is)
  (case yykcC=>k_is)
  (case yynC_base=>k_is)
  (case yynC_outset=>k_is)
  (case yynC_steps=>k_is)
  (case yynC_layers=>k_is)
  (case yyaCS=>k_is)
  (case yyyCS0=>refine' Lw.fmm ?_ ?_ ?_ ?_ ?_ <;> try k_is)
  (case yyyCS1=>refine' Lw.fmm ?_ ?_ ?_ ?_ ?_ <;> try k_is)
  (case yyyCS2=>refine' Lw.fmm ?_ ?_ ?_ ?_ ?_ <;> try k_is)
  (case yyyCS3=>refine' Lw.fmm ?_ ?_ ?_ ?_ ?_ <;> try k_is)
  (case yyyCS4=>refine' Lw.fmm ?_ ?_ ?_ ?_ ?_ <;> try k_is)
  (case yyyCS5=>refine' Lw.fmm ?_ ?_ ?_ ?_ ?_ <;> try k_is)
  (case yypgCS=>k_is)
  (case yyhdCS=>k_is)
  (case yypoCS=>k_is)
  (case yysaCS=>k_is)
  (case yymkCS=>k_is)
  (case yykcCS=>k_is)
  (case yynCS_tails=>k_is)
  (case yynCS_weights=>k_is)
  (case yynCS_layers=>k_is)
  (case yyg0=>k_is)
  (case yyg1=>k_is)
  (case yyg2=>k_is)
  (case yyg3=>k_is)
  (case yyz0=>k_is)
  (case yyz1=>k_is)
  (case yyz2=>k_is)
  (case yyz3=>k_is)
  (case yyz4=>k_is)
  (case yyz5=>k_is)
  (case yyz6=>k_is)
  (case yyz7=>k_is)
  (case yyz8=>k_is)
  (case yyz9=>k_is)
  (case yyz10=>k_is)
  (case yyz11=>k_is)
  (case yyz12=>k_is)
  (case yyz13=>k_is)
  (case yyz14=>k_is)
  (case yyz15=>k_is)
  (case yyz16=>k_is)
  (case yyz17=>k_is)
  (case yyz18=>k_is)
