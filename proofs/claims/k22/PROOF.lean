import PyProof.Rows.All
import Wide.All
import OpenK.AllK
import Wide.FinOn
import Lean
import PyProof.EqAt
import PyProof.EqKinds
import PyProof.TupleCall
import PyProof.NeKinds
import KE.KRevSl
import KE.KRevIter
import PyProof.ConsumeWalk
import PyProof.Rows.SumAny
import PyProof.EnumStmt
import PyProof.EnumMake
import PyProof.Rows.EnumRows
import PyProof.Rows.FactsN_abs
import PyProof.ListRange
import PyProof.FitsBits
import PyProof.Rows.IntMath
import KE.KSortAsk
import KE.KLam
import KE.KSortTup
import PyProof.AttrMissSeq
import PyProof.Rows.SetFrom
import KE.KDictOf
import KE.KDictSum
import PyProof.DictWalks
import KE.KUnpack
import PySem.Challenge.RW_lackstretch_k22_good_numbers_of_lengths
set_option Elab.async false
set_option linter.all false
set_option maxRecDepth 100000
namespace L2
open PySem PySem.Spec PyProof.Rows
abbrev Key:=Sum Int Str
def Qm : Key->Value->Bool
 | .inl k,v=>Value.isInt k v
 | .inr x,v=>Value.isStrOf x v
def zfp (w : World) : Key->Int
 | .inl k=>hashInt k
 | .inr x=>hashStr w x
theorem yX : ∀ {k : Key} {v : Value},Qm k v = true->(∃ i t,k = Sum.inl i∧v = Value.int i t)∨(∃ x t,k = Sum.inr x∧v = Value.str x t)
 | .inl i,v,h=>by
  obtain ⟨t,e⟩:=Value.isInt_shape (k:=i) (v:=v) h
  exact .inl ⟨i,t,rfl,e⟩
 | .inr x,v,h=>by
  obtain ⟨t,e⟩:=Value.isStrOf_shape (x:=x) (v:=v) h
  exact .inr ⟨x,t,rfl,e⟩
theorem zbw (i : Int) (t : Tok) : Qm (.inl i) (.int i t) = true:=by simp [Qm,Value.isInt]
theorem zbH (x : Str) (t : Tok) : Qm (.inr x) (.str x t) = true:=by simp [Qm,Value.isStrOf]
theorem zd3 (a b : Int) : decide ((Sum.inl a : Key) = Sum.inl b) = (a == b):=by
 by_cases e : a = b
 ·subst e; simp
 ·have h : ¬ (Sum.inl a : Key) = Sum.inl b:=fun q=>e (Sum.inl.inj q)
  rw [decide_eq_false h]
  exact (beq_eq_false_iff_ne.mpr e).symm
theorem zeD (a b : Str) : decide ((Sum.inr a : Key) = Sum.inr b) = decide (a = b):=by
 by_cases e : a = b
 ·subst e; simp
 ·have h : ¬ (Sum.inr a : Key) = Sum.inr b:=fun q=>e (Sum.inr.inj q)
  rw [decide_eq_false h,decide_eq_false e]
theorem zeq (a : Int) (b : Str) : decide ((Sum.inl a : Key) = Sum.inr b) = false:=decide_eq_false (fun q=>nomatch q)
theorem zey (a : Str) (b : Int) : decide ((Sum.inr a : Key) = Sum.inl b) = false:=decide_eq_false (fun q=>nomatch q)
def yl (prog : Program) (w : World) : PySem.KeyKind prog w Key where
 is:=Qm
 hash:=zfp w
 inj:=fun v a b ha hb=>by
  rcases yX ha with ⟨i,t,rfl,rfl⟩ | ⟨x,t,rfl,rfl⟩
  ·rcases yX hb with ⟨j,u,rfl,e⟩ | ⟨y,u,rfl,e⟩
   ·injection e with e1 _; rw [e1]
   ·exact nomatch e
  ·rcases yX hb with ⟨j,u,rfl,e⟩ | ⟨y,u,rfl,e⟩
   ·exact nomatch e
   ·injection e with e1 _; rw [e1]
 byValue:=fun k v h=>by
  rcases yX h with ⟨i,t,rfl,rfl⟩ | ⟨x,t,rfl,rfl⟩ <;> rfl
 pyHash:=fun hv h=>by
  rcases yX hv with ⟨i,t,rfl,rfl⟩ | ⟨x,t,rfl,rfl⟩
  ·exact wpAny_pyHash_int h
  ·exact wpAny_pyHash_str h
 eqBool:=fun hu hv h=>by
  rcases yX hu with ⟨i,t,rfl,rfl⟩ | ⟨x,t,rfl,rfl⟩
  ·rcases yX hv with ⟨j,u,rfl,rfl⟩ | ⟨y,u,rfl,rfl⟩
   ·rw [zd3] at h; exact wpAny_eqBool_int h
   ·rw [zeq] at h; exact SeqAt.EqAt.int_str i t y u _ _ _ _ h
  ·rcases yX hv with ⟨j,u,rfl,rfl⟩ | ⟨y,u,rfl,rfl⟩
   ·rw [zey] at h; exact SeqAt.EqAt.str_int x t j u _ _ _ _ h
   ·rw [zeD] at h; exact wpAny_eqBool_str h
 «strs»:=fun k x t v h=>by
  rcases yX h with ⟨i,u,rfl,e⟩ | ⟨y,u,rfl,e⟩
  ·exact nomatch e
  ·injection e with e1 _
   subst e1
   cases v <;> rfl
theorem zam (prog : Program) (w : World) (i : Int) (t : Tok) : (yl prog w).is (.inl i) (.int i t) = true:=zbw i t
theorem JM (prog : Program) (w : World) (x : Str) (t : Tok) : (yl prog w).is (.inr x) (.str x t) = true:=zbH x t
inductive V where
 | non | bl (b : Bool) | int (i : Int) | str (x : Str) | byt (b : Array UInt8) | flt (b : UInt64) | ref (a : Addr) | ty (n : String)
 deriving DecidableEq
def RelV : V->Value->Prop
 | .non,u=>u = Value.none
 | .bl b,u=>u = Value.bool b
 | .int i,u=>∃ t,u = Value.int i t
 | .str x,u=>∃ t,u = Value.str x t
 | .byt b,u=>∃ t,u = Value.bytes b t
 | .flt b,u=>∃ t,u = Value.float b t
 | .ref a,u=>u = Value.ref a
 | .ty n,u=>u = Value.type n
abbrev Vals : List V->List Value->Prop:=Paired RelV
theorem Vals.length {xs : List V} {us : List Value} (r : Vals xs us) : xs.length = us.length:=Paired.length r
theorem Vals.get : ∀ {xs : List V} {us : List Value} {i : Nat} {x : V},Vals xs us->xs[i]? = some x->∃ u,us[i]? = some u∧RelV x u
 | _,_,_,_,.nil,e=>by simp at e
 | _,_,0,_,.cons r _,e=>by simp at e; subst e; exact ⟨_,rfl,r⟩
 | _,_,i + 1,x,.cons _ t,e=>by
  obtain ⟨u,h1,h2⟩:=Vals.get (i:=i) (x:=x) t (by simpa using e)
  exact ⟨u,by simpa using h1,h2⟩
theorem Vals.set {x : V} {u : Value} (r : RelV x u) : ∀ {xs : List V} {us : List Value} (i : Nat),Vals xs us->Vals (xs.set i x) (us.set i u)
 | _,_,_,.nil=>.nil
 | _,_,0,.cons _ t=>.cons r t
 | _,_,i + 1,.cons q t=>.cons q (Vals.set r i t)
theorem Vals.append : ∀ {xs ys : List V} {us ws : List Value},Vals xs us->Vals ys ws->Vals (xs ++ ys) (us ++ ws)
 | _,_,_,_,.nil,s=>s
 | _,_,_,_,.cons r t,s=>.cons r (Vals.append t s)
theorem Vals.take : ∀ {xs : List V} {us : List Value} (n : Nat),Vals xs us->Vals (xs.take n) (us.take n)
 | _,_,0,_=>.nil
 | _,_,_ + 1,.nil=>.nil
 | _,_,n + 1,.cons r t=>.cons r (Vals.take n t)
theorem Vals.drop : ∀ {xs : List V} {us : List Value} (n : Nat),Vals xs us->Vals (xs.drop n) (us.drop n)
 | _,_,0,r=>r
 | _,_,_ + 1,.nil=>.nil
 | _,_,n + 1,.cons _ t=>Vals.drop n t
theorem Vals.none_of : ∀ {xs : List V} {us : List Value} {i : Nat},Vals xs us->xs[i]? = none->us[i]? = none:=fun {xs us i} r e=>by
 have h1:=r.length
 have h2 : xs.length≤i:=List.getElem?_eq_none_iff.mp e
 exact List.getElem?_eq_none_iff.mpr (by omega)
def RelO : Option V->Option Value->Prop
 | some v,some u=>RelV v u
 | none,none=>True
 | _,_=>False
def KV {κ : Type} : List (κ × V)->List (κ × Value)->Prop:=Paired fun (p : κ × V) (q : κ × Value)=>p.1 = q.1∧RelV p.2 q.2
def kV : Key->V
 | .inl i=>.int i
 | .inr x=>.str x
inductive HO where
 | lst (xs : List V)
 | tup (xs : List V)
 | dK (kvs : List (Key × V)) | dT (kvs : List (List Key × V))
 | set (S : Int->Bool) (n : Nat)
 | ins (C dx : Addr) (fs : List (Str × V))
 | own (x : Addr)
 | xd (fs : List (Str × V))
 | met (f x : Addr)
 | rng (lo hi : Int)
 | frz (o : Obj) (u : HO)
 | tbl (ps : Array Value)
 | ext (φ : Heap->Prop)
abbrev Hp:=Addr->Option HO
def upd (H : Hp) (a : Addr) (o : HO) : Hp:=fun b=>if b = a then some o else H b
theorem zf {H : Hp} {a : Addr} {o : HO} : upd H a o a = some o:=by unfold upd; rw [if_pos rfl]
theorem zq {H : Hp} {a b : Addr} {o : HO} (h : b ≠ a) : upd H a o b = H b:=by unfold upd; rw [if_neg h]
theorem zdH {H : Hp} {a : Addr} {o u : HO} : upd (upd H a o) a u = upd H a u:=by
 funext b; unfold upd; split <;> rfl
theorem jd {H : Hp} {a b : Addr} {o u : HO} (h : H a = some o) (h' : H b = some u) (d : o ≠ u) : a ≠ b:=by
 intro e; subst e; rw [h] at h'; exact d (Option.some.inj h')
theorem zy {H : Hp} {a b : Addr} {o : HO} (h : H a = some o) (h' : H b = none) : a ≠ b:=by
 intro e; subst e; rw [h] at h'; cases h'
section
variable (P : Program) (w : World)
def ObjOk (H : Hp) (h : Heap) (a : Addr) : HO->Prop
 | .lst xs=>xs.length≤sizeLine∧∃ (its : List Value) (n : Nat),Vals xs its∧h.get? a = some { cls:=.type "list",data:=.seq its.toArray n }
 | .tup xs=>xs.length≤sizeLine∧∃ its : List Value,Vals xs its∧IsTup h a its.toArray
 | .dK kvs=>kvs.length≤sizeLine∧(a == sysModules) = false∧∃ vs,KV kvs vs∧h.DictOf (yl P w) a vs
 | .dT kvs=>kvs.length≤sizeLine∧(a == sysModules) = false∧∃ xs : List (List Key × Addr × Value),
   Paired (fun (p : List Key × V) (q : List Key × Addr × Value)=>p.1 = q.1∧H q.2.1 = some (.tup (p.1.map kV))∧RelV p.2 q.2.2) kvs xs ∧
   ∃ o es ep,h.get? a = some o∧o.ExactDict∧o.data = .dict es ep∧es.toList = xs.map (entryOfKey (tupleKind (yl P w)))∧(xs.map (·.1)).Nodup
 | .set S n=>h.SetOf (intKind P w) a S n
 | .ins C dx fs=>H dx = some (.own a)∧fs.length≤1000∧dx ≠ a∧h.get? a = some (PySem.W.instObj C dx) ∧
   ∃ mA,h.Ns1 dx mA∧(∀ f,RelO (fs.lookup f) (mA f))∧PySem.Within mA (fs.map (·.1))
 | .own _=>∃ o,h.get? a = some o
 | .xd fs=>∃ mA,h.Ns1 a mA∧∀ f,RelO (fs.lookup f) (mA f)
 | .rng lo hi=>∃ t u v,h.get? a = some { cls:=.type "range",data:=.fields #[.int lo t,.int hi u,.int 1 v] }
 | .frz o u=>h.get? a = some o∧ObjOk H h a u
 | .tbl ps=>h.get? a = some { cls:=.none,data:=.fields ps }
 | .met f x=>h.get? a = some (PySem.W.methodObj (.ref f) (.ref x))
 | .ext φ=>φ h∧(∃ o,h.get? a = some o)∧∀ h1 h2 : Heap,φ h1->(∀ o,h1.get? a = some o->h2.get? a = some o)->φ h2
def HOk (H : Hp) (h : Heap) : Prop:=∀ a o,H a = some o->ObjOk P w H h a o
end
section
variable {P : Program} {w : World} {H H' : Hp} {h h' : Heap} {a : Addr} {o : HO}
theorem ObjOk.lt (x : ObjOk P w H h a o) : a < h.objs.size:=by
 cases o with
 | lst xs=>obtain ⟨_,_,_,_,e⟩:=x; exact Heap.lt_size e
 | tup xs=>obtain ⟨_,_,_,p⟩:=x; exact p.lt
 | dK kvs=>obtain ⟨_,_,_,_,o,_,_,e,_⟩:=x; exact Heap.lt_size e
 | dT kvs=>obtain ⟨_,_,_,_,o,_,_,e,_⟩:=x; exact Heap.lt_size e
 | set S n=>obtain ⟨o,_,_,_,e,_⟩:=x; exact Heap.lt_size e
 | ins C dx fs=>obtain ⟨_,_,_,e,_⟩:=x; exact Heap.lt_size e
 | own y=>obtain ⟨_,e⟩:=x; exact Heap.lt_size e
 | xd fs=>obtain ⟨_,⟨_,_,_,e,_⟩,_⟩:=x; exact Heap.lt_size e
 | rng lo hi=>obtain ⟨_,_,_,e⟩:=x; exact Heap.lt_size e
 | frz ob u=>obtain ⟨e,_⟩:=x; exact Heap.lt_size e
 | tbl ps=>exact Heap.lt_size (show h.get? a = some _ from x)
 | met f y=>exact Heap.lt_size (show h.get? a = some _ from x)
 | ext φ=>obtain ⟨_,⟨_,e⟩,_⟩:=x; exact Heap.lt_size e
theorem Paired.mapP {α β : Type} {F G : α->β->Prop} : ∀ {l₁ : List α} {l₂ : List β},Paired F l₁ l₂->(∀ a b,F a b->G a b)->Paired G l₁ l₂
 | _,_,.nil,_=>.nil
 | _,_,.cons r t,f=>.cons (f _ _ r) (Paired.mapP t f)
theorem ObjOk.stay (x : ObjOk P w H h a o) (k : ∀ b u,(b = a∨H b = some (.own a))->h.get? b = some u->h'.get? b = some u)
  (ho : ∀ b,H b = some (.own a)->H' b = some (.own a)) (ht : ∀ b xs,H b = some (.tup xs)->H' b = some (.tup xs)) : ObjOk P w H' h' a o:=by
 induction o with
 | lst xs=>obtain ⟨z,its,n,r,e⟩:=x; exact ⟨z,its,n,r,k _ _ (.inl rfl) e⟩
 | tup xs=>obtain ⟨z,its,r,ob,e,c⟩:=x; exact ⟨z,its,r,ob,k _ _ (.inl rfl) e,c⟩
 | dK kvs=>obtain ⟨z,y,vs,r,ob,es,ep,e,c⟩:=x; exact ⟨z,y,vs,r,ob,es,ep,k _ _ (.inl rfl) e,c⟩
 | dT kvs =>
  obtain ⟨z,y,xs,r,ob,es,ep,e,c⟩:=x
  exact ⟨z,y,xs,Paired.mapP r fun p q z=>⟨z.1,ht _ _ z.2.1,z.2.2⟩,ob,es,ep,k _ _ (.inl rfl) e,c⟩
 | set S n=>obtain ⟨ob,es,ep,t,e,c⟩:=x; exact ⟨ob,es,ep,t,k _ _ (.inl rfl) e,c⟩
 | ins C dx fs =>
  obtain ⟨d,z,ne,e,mA,⟨od,es,ep,e2,c⟩,r⟩:=x
  exact ⟨ho _ d,z,ne,k _ _ (.inl rfl) e,mA,⟨od,es,ep,k _ _ (.inr d) e2,c⟩,r⟩
 | own y=>obtain ⟨ob,e⟩:=x; exact ⟨ob,k _ _ (.inl rfl) e⟩
 | xd fs=>obtain ⟨mA,⟨od,es,ep,e,c⟩,r⟩:=x; exact ⟨mA,⟨od,es,ep,k _ _ (.inl rfl) e,c⟩,r⟩
 | rng lo hi=>obtain ⟨t,u,v,e⟩:=x; exact ⟨t,u,v,k _ _ (.inl rfl) e⟩
 | frz ob u ih=>obtain ⟨e,q⟩:=x; exact ⟨k _ _ (.inl rfl) e,ih q⟩
 | tbl ps =>
  have e : h.get? a = some { cls:=.none,data:=.fields ps }:=x
  show h'.get? a = some { cls:=.none,data:=.fields ps }
  exact k a _ (.inl rfl) e
 | met f y =>
  have e : h.get? a = some (PySem.W.methodObj (.ref f) (.ref y)):=x
  show h'.get? a = some (PySem.W.methodObj (.ref f) (.ref y))
  exact k a _ (.inl rfl) e
 | ext φ=>obtain ⟨p,⟨o,e⟩,st⟩:=x; exact ⟨st _ _ p fun o q=>k _ _ (.inl rfl) q,⟨o,k _ _ (.inl rfl) e⟩,st⟩
theorem HOk.lt (x : HOk P w H h) (e : H a = some o) : a < h.objs.size:=(x a o e).lt
theorem HOk.fresh (x : HOk P w H h) (e : h.objs.size≤a) : H a = none:=by
 cases q : H a with
 | none=>rfl
 | some u=>exact absurd (Nat.lt_of_lt_of_le (x.lt q) e) (Nat.lt_irrefl _)
theorem HOk.kept (x : HOk P w H h) (k : ∀ b u,h.get? b = some u->h'.get? b = some u) : HOk P w H h':=fun a o e =>
 (x a o e).stay (fun b u _ q=>k b u q) (fun _ q=>q) fun _ _ q=>q
theorem HOk.laid (x : HOk P w H h) (k : ∀ b u,h.get? b = some u->h'.get? b = some u) (hp : h.objs.size≤a) (new : ObjOk P w (upd H a o) h' a o) : HOk P w (upd H a o) h':=fun b u e=>by
 have hn:=x.fresh hp
 by_cases hb : b = a
 ·subst hb; rw [zf] at e; cases e; exact new
 ·rw [zq hb] at e
  exact (x b u e).stay (fun c v _ q=>k c v q) (fun c q=>by rw [zq (zy q hn)]; exact q) fun c xs q=>by rw [zq (zy q hn)]; exact q
end
def Rd (H : Hp) (a : Addr) (u : HO) : Prop:=H a = some u∨∃ o,H a = some (.frz o u)
theorem Rd.of {H : Hp} {a : Addr} {u : HO} (h : H a = some u) : Rd H a u:=.inl h
theorem Rd.ok {P : Program} {w : World} {H : Hp} {h : Heap} {a : Addr} {u : HO} (r : Rd H a u) (x : HOk P w H h) : ObjOk P w H h a u:=by
 rcases r with r | ⟨o,r⟩
 ·exact x a u r
 ·obtain ⟨_,q⟩:=x a _ r
  exact q
def Mut : Option HO->Prop
 | some (.lst _)=>True
 | some (.dK _)=>True
 | some (.dT _)=>True
 | some (.set _ _)=>True
 | some (.ins _ _ _)=>True
 | some (.ext _)=>True
 | _=>False
section
variable {P : Program} {w : World} {H : Hp} {h h' : Heap} {x e : Addr} {o' : HO}
theorem HOk.write (ok : HOk P w H h) (mu : Mut (H x)) (he : e = x∨H e = some (.own x)) (k : ∀ b u,b ≠ e->h.get? b = some u->h'.get? b = some u) (heo : ∃ u,h'.get? e = some u)
  (new : ObjOk P w (upd H x o') h' x o') : HOk P w (upd H x o') h':=fun b u q=>by
 have nown : ∀ c y,H c = some (.own y)->c ≠ x:=fun c y r z=>by subst z; rw [r] at mu; exact mu
 have ntup : ∀ c xs,H c = some (.tup xs)->c ≠ x:=fun c xs r z=>by subst z; rw [r] at mu; exact mu
 by_cases hb : b = x
 ·subst hb; rw [zf] at q; cases q; exact new
 ·rw [zq hb] at q
  by_cases hbe : b = e
  ·have q' : H b = some (.own x):=by
    rcases he with z | z
    ·exact absurd (hbe.trans z) hb
    ·rw [hbe]; exact z
   rw [q] at q'; cases q'
   obtain ⟨v,hv⟩:=heo
   exact ⟨v,by rw [hbe]; exact hv⟩
  ·refine (ok b u q).stay (fun c v hc r=>k c v ?_ r) (fun c r=>by rw [zq (nown c b r)]; exact r) fun c xs r=>by rw [zq (ntup c xs r)]; exact r
   rcases hc with rfl | hc
   ·exact hbe
   ·rintro rfl
    rcases he with z | z
    ·exact nown c b hc z
    ·rw [hc] at z; cases z; exact hb rfl
end
structure Un (fs ex : List Addr) (H H' : Hp) (h h' : Heap) : Prop where
 keep : ∀ b o,h.get? b = some o->H b = none->b ∉ fs->b ∉ ex->h'.get? b = some o
 slot : ∀ b o,h.get? b = some o->H b = none->b ∈ fs->b ∉ ex->∃ sl,h'.get? b = some { o with slots:=sl }
 free : ∀ b o,h.get? b = some o->H b = none->b ∉ ex->H' b = none
 there : ∀ b o,h.get? b = some o->b ∉ ex->∃ o',h'.get? b = some o'
 tups : ∀ b xs,H b = some (.tup xs)->H' b = some (.tup xs)
 frzs : ∀ b o u,H b = some (.frz o u)->H' b = some (.frz o u)
 tbls : ∀ b ps,H b = some (.tbl ps)->∃ more,H' b = some (.tbl (ps ++ more))
section
variable {fs fs' ex ex' : List Addr} {H H1 H2 : Hp} {h h1 h2 h' : Heap} {a x e : Addr} {o : HO}
theorem Un.any (u : Un fs ex H H1 h h1) {b : Addr} {ob : Obj} (q : h.get? b = some ob) (n : H b = none) (hx : b ∉ ex) : ∃ sl,h1.get? b = some { ob with slots:=sl }:=by
 by_cases hb : b ∈ fs
 ·exact u.slot b ob q n hb hx
 ·exact ⟨ob.slots,u.keep b ob q n hb hx⟩
theorem Un.trans (a : Un fs ex H H1 h h1) (b : Un fs ex H1 H2 h1 h2) : Un fs ex H H2 h h2 where
 keep:=fun c ob q n hc hx=>b.keep c ob (a.keep c ob q n hc hx) (a.free c ob q n hx) hc hx
 slot:=fun c ob q n hc hx=>by
  obtain ⟨sl,e1⟩:=a.slot c ob q n hc hx
  obtain ⟨sl',e2⟩:=b.slot c _ e1 (a.free c ob q n hx) hc hx
  exact ⟨sl',e2⟩
 free:=fun c ob q n hx=>by
  obtain ⟨o',e1⟩:=a.there c ob q hx
  exact b.free c o' e1 (a.free c ob q n hx) hx
 there:=fun c ob q hx=>by
  obtain ⟨o',e1⟩:=a.there c ob q hx
  exact b.there c o' e1 hx
 tups:=fun c xs q=>b.tups c xs (a.tups c xs q)
 frzs:=fun c ob xs q=>b.frzs c ob xs (a.frzs c ob xs q)
 tbls:=fun c ps q=>by
  obtain ⟨m1,e1⟩:=a.tbls c ps q
  obtain ⟨m2,e2⟩:=b.tbls c _ e1
  exact ⟨m1 ++ m2,by rw [e2,Array.append_assoc]⟩
theorem Un.kept (k : ∀ b u,h.get? b = some u->h'.get? b = some u) : Un fs ex H H h h' :=
 ⟨fun b ob q _ _ _=>k b ob q,fun b ob q _ _ _=>⟨ob.slots,k b ob q⟩,fun _ _ _ n _=>n,fun b ob q _=>⟨ob,k b ob q⟩,fun _ _ q=>q,fun _ _ _ q=>q,fun _ ps q=>⟨#[],by rw [q]; simp⟩⟩
theorem Un.refl : Un fs ex H H h h:=Un.kept fun _ _ q=>q
theorem Un.laid (k : ∀ b u,h.get? b = some u->h'.get? b = some u) (hp : h.objs.size≤a) (hn : H a = none) : Un fs ex H (upd H a o) h h' where
 keep:=fun b u q _ _ _=>k b u q
 slot:=fun b u q _ _ _=>⟨u.slots,k b u q⟩
 free:=fun b u q n _=>by rw [zq (Nat.ne_of_lt (Nat.lt_of_lt_of_le (Heap.lt_size q) hp))]; exact n
 there:=fun b u q _=>⟨u,k b u q⟩
 tups:=fun b xs q=>by rw [zq (zy q hn)]; exact q
 frzs:=fun b u xs q=>by rw [zq (zy q hn)]; exact q
 tbls:=fun b ps q=>⟨#[],by rw [zq (zy q hn),q]; simp⟩
theorem Un.write (mu : Mut (H x)) (he : e = x∨H e = some (.own x)) (k : ∀ b u,b ≠ e->h.get? b = some u->h'.get? b = some u) (heo : ∃ u,h'.get? e = some u) : Un fs ex H (upd H x o) h h':=by
 have hx : ∀ b,H b = none->b ≠ x:=fun b n z=>by subst z; rw [n] at mu; exact mu
 have hb : ∀ b,H b = none->b ≠ e:=fun b n z=>by
  subst z
  rcases he with r | r
  ·exact hx b n r
  ·rw [n] at r; cases r
 have hm : ∀ b u,H b = some u->¬ Mut (some u)->b ≠ x:=fun b u q nm z=>by subst z; rw [q] at mu; exact nm mu
 refine ⟨fun b u q n _ _=>k b u (hb b n) q,fun b u q n _ _=>⟨u.slots,k b u (hb b n) q⟩,fun b u q n _=>by rw [zq (hx b n)]; exact n,fun b u q _=>?_,
  fun b xs q=>by rw [zq (hm b _ q fun z=>z)]; exact q,fun b u xs q=>by rw [zq (hm b _ q fun z=>z)]; exact q,fun b ps q=>⟨#[],by rw [zq (hm b _ q fun z=>z),q]; simp⟩⟩
 by_cases hbe : b = e
 ·subst hbe; exact heo
 ·exact ⟨u,k b u hbe q⟩
theorem Un.mono (u : Un fs ex H H1 h h1) (hs : ∀ b ∈ fs,b ∈ fs') (hx : ∀ b ∈ ex,b ∈ ex') : Un fs' ex' H H1 h h1 :=
 ⟨fun b ob q n hb he=>u.keep b ob q n (fun z=>hb (hs b z)) fun z=>he (hx b z),fun _ _ q n _ he=>u.any q n fun z=>he (hx _ z),fun b ob q n he=>u.free b ob q n fun z=>he (hx b z),fun b ob q he=>u.there b ob q fun z=>he (hx b z),u.tups,u.frzs,u.tbls⟩
end
def trk (h : Heap) (H : Hp) : List Addr:=(List.range h.objs.size).filter fun a=>(H a).isSome
def UL (h : Heap) (H : Hp) : Heap:=PySem.W.hideAll h (trk h H)
theorem zbN (h : Heap) (H : Hp) : (UL h H).objs.size = h.objs.size:=PySem.W.hideAll_size _ _
theorem zcw {h : Heap} {H : Hp} {b : Addr} {o : Obj} (e : h.get? b = some o) (n : H b = none) : (UL h H).get? b = some o :=
 PySem.W.hideAll_get _ e fun hm=>by
  have q : (H b).isSome = true:=(List.mem_filter.mp hm).2
  rw [n] at q; simp at q
theorem zdA {h : Heap} {H : Hp} {b : Addr} {o : Obj} (e : (UL h H).get? b = some o) : h.get? b = some o∧H b = none:=by
 have e' : h.get? b = some o:=PySem.W.of_hideAll (trk h H) e
 refine ⟨e',?_⟩
 cases q : H b with
 | none=>rfl
 | some x =>
  have hm : b ∈ trk h H:=List.mem_filter.mpr ⟨List.mem_range.mpr (Heap.lt_size e'),by simp [q]⟩
  have z : (UL h H).get? b = none:=PySem.W.hideAll_none (trk h H) hm
  rw [z] at e; cases e
def zdc (g h : Heap) (L : Addr) : List (Addr × Obj):=(List.range h.objs.size).filterMap fun a=>if a = L∨(g.get? a).isSome = true then none else (h.get? a).map fun o=>(a,o)
def rest (g h : Heap) (L d : Addr) : List (Addr × Obj):=(zdc g h L).filter fun p=>decide (p.1 ≠ d)
structure Mod (K : PySem.W.Frag) (mg : Str->Option Value) (base : Heap) : Prop where
 kin : K.In base
 glob : base.Ns mainGlobals mg
 blt : ∃ mb,base.Ns builtinsNs mb∧∀ x : Str,x ≠ "__name__"->mb x = bootBuiltins x
 nolimit : base.NoLimit
structure Cx where
 prog : Program
 w : World
 K : PySem.W.Frag
 mg : Str->Option Value
 base : Heap
 A : Around
 N : List Str
 s₀ : Shared
 H₀ : Hp
 env : Env
 outer : List Env
 stack : List Env
 ex : List Addr
 fn : Str->Bool
 calm : Bool
 pn : List (Addr × Obj)
 xe : Value->Shared->Prop
def frs (l : List Env) : List Addr:=l.filterMap (·.frame)
abbrev Cx.fs (X : Cx) : List Addr:=frs X.outer
def Vis (sc : Scope) (x : Str) : Prop:=sc.names.lookup x = some .local∨sc.names.lookup x = some .cell∨sc.names.lookup x = some .free
def Loc (sc : Scope) (x : Str) : Prop:=sc.names.lookup x = some .local∨sc.names.lookup x = some .cell
def Look (env : Env) (h : Heap) (m : Str->Option Value) (x : Str) (u : Value) : Prop :=
 (env.kindOf x = some .local∧m x = some u)∨((env.kindOf x = some .cell∨env.kindOf x = some .free)∧∃ c,env.cells.lookup x = some c∧h.IsCell c (some u))
structure Cx.Ok (X : Cx) : Prop where
 mod : Mod X.K X.mg X.base
 kind : X.env.scope.kind = .function
 glob : X.env.globals = mainGlobals
 blt : X.env.builtins = builtinsNs
 above : X.s₀.heap.objs.size≤X.env.locals
 inj : ∀ x y c,X.env.cells.lookup x = some c->X.env.cells.lookup y = some c->x = y
 has : ∀ x,(X.env.kindOf x = some .cell∨X.env.kindOf x = some .free)->∃ c,X.env.cells.lookup x = some c
 cab : ∀ x c,X.fn x = true->X.env.cells.lookup x = some c->X.s₀.heap.objs.size≤c
 hd : X.calm = true->X.A.handled = none
 frames : X.A.frames = some X.stack
 stk : X.stack = X.outer∨(X.stack = X.env :: X.outer∧X.env.frame = some X.env.locals)
 exf : ∀ b ∈ X.ex,b ≠ X.env.locals∧∀ x c,X.env.cells.lookup x = some c->c ≠ b
 bs : ∀ b o,X.base.get? b = some o->X.s₀.heap.get? b = some o∧X.H₀ b = none
 bsz : X.base.objs.size≤X.s₀.heap.objs.size
 noex : ∀ b o,X.base.get? b = some o->b ∉ X.ex
 exfs : ∀ b ∈ X.ex,b ∉ X.fs
 funs : X.s₀.heap.FunFrames X.base X.outer
 frf : ∀ b ∈ X.fs,X.H₀ b = none
structure Inv (X : Cx) (pins : List (Addr × Obj)) (σ : List (Option V)) (H : Hp) (s : Shared) : Prop where
 ok : X.Ok
 os : s.os = X.s₀.os
 bare : AllBare s.gens
 base : Un X.fs X.ex X.H₀ H X.s₀.heap s.heap
 loc : ∃ m,s.heap.Ns X.env.locals m∧∀ (i : Nat) (x : Str) (v : V),X.N[i]? = some x->σ[i]? = some (some v)->Vis X.env.scope x->∃ u,RelV v u∧Look X.env s.heap m x u
 cell : ∀ x c,X.env.cells.lookup x = some c->∃ v,s.heap.IsCell c v
 free : H X.env.locals = none
 freeC : ∀ x c,X.env.cells.lookup x = some c->H c = none
 pin : ∀ p ∈ X.pn ++ pins,s.heap.get? p.1 = some p.2∧H p.1 = none∧p.1 ≠ X.env.locals∧p.1 ∉ X.fs∧∀ v,p.2.data ≠ .cell v
 hok : HOk X.prog X.w H s.heap
 len : σ.length = X.N.length
section
variable {X : Cx} {pins : List (Addr × Obj)} {σ : List (Option V)} {H H' : Hp} {s : Shared} {h' : Heap}
theorem Cx.Ok.nofr (ok : X.Ok) {b : Addr} {o : Obj} (e : X.base.get? b = some o) : b ∉ X.fs:=fun hb=>by
 have:=(ok.funs.mem hb).1
 rw [e] at this; cases this
theorem Inv.bs (I : Inv X pins σ H s) : ∀ b o,X.base.get? b = some o->s.heap.get? b = some o∧H b = none:=fun b o e =>
 ⟨I.base.keep b o (I.ok.bs b o e).1 (I.ok.bs b o e).2 (I.ok.nofr e) (I.ok.noex b o e),I.base.free b o (I.ok.bs b o e).1 (I.ok.bs b o e).2 (I.ok.noex b o e)⟩
theorem Inv.bk (I : Inv X pins σ H s) : ∀ b o,X.base.get? b = some o->s.heap.get? b = some o:=fun b o e=>(I.bs b o e).1
theorem Inv.mod (I : Inv X pins σ H s) : Mod X.K X.mg X.base:=I.ok.mod
theorem Inv.kIn (I : Inv X pins σ H s) : X.K.In s.heap:=I.ok.mod.kin.keeps I.bk
theorem Inv.nolimit (I : Inv X pins σ H s) : s.heap.NoLimit:=I.ok.mod.nolimit.keeps I.bk
theorem Inv.fr (I : Inv X pins σ H s) : ∃ m,Fr X.base X.env.locals s.heap m :=
 let ⟨m,hn,_⟩:=I.loc
 ⟨m,hn,I.bk,Nat.le_trans I.ok.bsz I.ok.above⟩
theorem Inv.lt (I : Inv X pins σ H s) : X.env.locals < s.heap.objs.size:=let ⟨_,hn,_⟩:=I.loc; hn.lt
theorem Inv.sz (I : Inv X pins σ H s) : X.s₀.heap.objs.size≤s.heap.objs.size:=Nat.le_trans I.ok.above (Nat.le_of_lt I.lt)
theorem Inv.nofs (I : Inv X pins σ H s) {a : Addr} (h : s.heap.objs.size≤a) : a ∉ X.fs:=fun hb=>by
 obtain ⟨_,o,ho,_⟩:=I.ok.funs.mem hb
 exact absurd (Nat.lt_of_lt_of_le (Heap.lt_size ho) (Nat.le_trans I.sz h)) (Nat.lt_irrefl _)
theorem Inv.cne (I : Inv X pins σ H s) : ∀ x c,X.env.cells.lookup x = some c->c ≠ X.env.locals:=fun x c e z=>by
 obtain ⟨v,o,ho,hd⟩:=I.cell x c e
 obtain ⟨m,⟨o',es,ep,ho',hd',_⟩,_⟩:=I.loc
 rw [z,ho'] at ho; cases ho; rw [hd'] at hd; cases hd
theorem Inv.funs (I : Inv X pins σ H s) : s.heap.FunFrames X.base X.outer:=by
 have all : ∀ (l : List Env),(∀ b ∈ frs l,b ∈ X.fs)->X.s₀.heap.FunFrames X.base l->s.heap.FunFrames X.base l:=by
  intro l
  induction l with
  | nil=>intro _ _; trivial
  | cons env r ih =>
   intro hs hl
   obtain ⟨hk,⟨L,o,hf,hn,ho,hd⟩,hr⟩:=hl
   have hL : L ∈ X.fs:=hs L (by unfold frs; rw [List.filterMap_cons,hf]; exact List.mem_cons_self)
   obtain ⟨sl,e⟩:=I.base.slot L o ho (I.ok.frf L hL) hL fun z=>I.ok.exfs L z hL
   exact ⟨hk,⟨L,_,hf,hn,e,hd⟩,ih (fun b hb=>hs b (by unfold frs; rw [List.filterMap_cons,hf]; exact List.mem_cons_of_mem _ hb)) hr⟩
 exact all X.outer (fun _ hb=>hb) I.ok.funs
theorem Inv.stack (I : Inv X pins σ H s) : s.heap.FunFrames X.base X.stack:=by
 rcases I.ok.stk with e | ⟨e,hf⟩
 ·rw [e]; exact I.funs
 ·rw [e]
  obtain ⟨m,hn,_⟩:=I.loc
  refine .cons (by rw [I.ok.kind]; decide) hf hn ?_ I.funs
  exact Heap.get?_none_of_le (Nat.le_trans I.ok.bsz I.ok.above)
theorem Inv.stkSub (I : Inv X pins σ H s) : ∀ b ∈ frs X.stack,b ∈ X.env.locals :: X.fs:=fun b hb=>by
 rcases I.ok.stk with e | ⟨e,hf⟩
 ·rw [e] at hb; exact List.mem_cons_of_mem _ hb
 ·rw [e] at hb
  unfold frs at hb
  rw [List.filterMap_cons,hf] at hb
  exact hb
theorem Inv.stkFree (I : Inv X pins σ H s) : ∀ b ∈ frs X.stack,H b = none:=fun b hb=>by
 rcases List.mem_cons.mp (I.stkSub b hb) with e | hb
 ·rw [e]; exact I.free
 ·obtain ⟨_,o,ho,_⟩:=I.ok.funs.mem hb
  exact I.base.free b o ho (I.ok.frf b hb) fun z=>I.ok.exfs b z hb
theorem Inv.step {g' : Array GenState} {t' : Nat} {d' : Drawn} {ch : List Addr} (I : Inv X pins σ H s)
  (hch : ∀ b ∈ ch,(b ∈ X.ex∨X.s₀.heap.objs.size≤b)∧b ≠ X.env.locals∧(∀ x c,X.env.cells.lookup x = some c->c ≠ b)∧∀ p ∈ X.pn ++ pins,p.1 ≠ b)
  (keep : ∀ b o,b ≠ X.env.locals->b ∉ X.fs->b ∉ ch->s.heap.get? b = some o->H b = none->h'.get? b = some o)
  (slot : ∀ b o,b ≠ X.env.locals->b ∈ X.fs->b ∉ ch->s.heap.get? b = some o->H b = none->∃ sl,h'.get? b = some { o with slots:=sl }) (free : ∀ b o,b ∉ ch->s.heap.get? b = some o->H b = none->H' b = none)
  (there : ∀ b o,b ∉ ch->s.heap.get? b = some o->∃ o',h'.get? b = some o')
  (tups : ∀ b xs,H b = some (.tup xs)->H' b = some (.tup xs)) (frzs : ∀ b o u,H b = some (.frz o u)->H' b = some (.frz o u)) (tbls : ∀ b ps,H b = some (.tbl ps)->∃ more,H' b = some (.tbl (ps ++ more)))
  (ns : ∀ m,s.heap.Ns X.env.locals m->h'.Ns X.env.locals m) (hok : HOk X.prog X.w H' h') (hg : AllBare g') :
  Inv X pins σ H' { s with heap:=h',gens:=g',drawn:=d',toks:=t' }:=by
 have neL : ∀ b o,X.s₀.heap.get? b = some o->b ≠ X.env.locals:=fun b o e=>Nat.ne_of_lt (Nat.lt_of_lt_of_le (Heap.lt_size e) I.ok.above)
 have neC : ∀ b o,X.s₀.heap.get? b = some o->b ∉ X.ex->b ∉ ch:=fun b o e hx hb=>by
  rcases (hch b hb).1 with z | z
  ·exact hx z
  ·exact absurd (Nat.lt_of_lt_of_le (Heap.lt_size e) z) (Nat.lt_irrefl _)
 have cellK : ∀ x c,X.env.cells.lookup x = some c->∀ v,s.heap.IsCell c v->h'.IsCell c v:=fun x c e v ⟨o,ho,hd⟩=>by
  have nch : c ∉ ch:=fun z=>(hch c z).2.2.1 x c e rfl
  by_cases hc : c ∈ X.fs
  ·obtain ⟨sl,q⟩:=slot c o (I.cne x c e) hc nch ho (I.freeC x c e)
   exact ⟨_,q,hd⟩
  ·exact ⟨o,keep c o (I.cne x c e) hc nch ho (I.freeC x c e),hd⟩
 refine ⟨I.ok,I.os,hg,⟨fun b o e n hb hx=>?_,fun b o e n hb hx=>?_,fun b o e n hx=>?_,fun b o e hx=>?_,fun b xs e=>tups b xs (I.base.tups b xs e),fun b o xs e=>frzs b o xs (I.base.frzs b o xs e),fun b ps e=>?_⟩,?_,fun x c e=>?_,?_,fun x c e=>?_,fun p hp=>?_,hok,I.len⟩
 ·exact keep b o (neL b o e) hb (neC b o e hx) (I.base.keep b o e n hb hx) (I.base.free b o e n hx)
 ·obtain ⟨sl,e1⟩:=I.base.slot b o e n hb hx
  obtain ⟨sl',e2⟩:=slot b _ (neL b o e) hb (neC b o e hx) e1 (I.base.free b o e n hx)
  exact ⟨sl',e2⟩
 ·obtain ⟨o',e1⟩:=I.base.there b o e hx
  exact free b o' (neC b o e hx) e1 (I.base.free b o e n hx)
 ·obtain ⟨o',e1⟩:=I.base.there b o e hx
  exact there b o' (neC b o e hx) e1
 ·obtain ⟨m1,e1⟩:=I.base.tbls b ps e
  obtain ⟨m2,e2⟩:=tbls b _ e1
  exact ⟨m1 ++ m2,by rw [e2,Array.append_assoc]⟩
 ·obtain ⟨m,hn,hl⟩:=I.loc
  refine ⟨m,ns m hn,fun i x v e1 e2 e3=>?_⟩
  obtain ⟨u,r,l⟩:=hl i x v e1 e2 e3
  refine ⟨u,r,?_⟩
  rcases l with l | ⟨k,c,e,z⟩
  ·exact .inl l
  ·exact .inr ⟨k,c,e,cellK x c e _ z⟩
 ·obtain ⟨v,z⟩:=I.cell x c e
  exact ⟨v,cellK x c e v z⟩
 ·obtain ⟨m,⟨o,_,_,ho,_⟩,_⟩:=I.loc
  exact free _ o (fun z=>(hch _ z).2.1 rfl) ho I.free
 ·obtain ⟨v,o,ho,hd⟩:=I.cell x c e
  exact free c o (fun z=>(hch c z).2.2.1 x c e rfl) ho (I.freeC x c e)
 ·obtain ⟨e,n,ne,nf,d⟩:=I.pin p hp
  have nch : p.1 ∉ ch:=fun z=>(hch p.1 z).2.2.2 p hp rfl
  exact ⟨keep p.1 p.2 ne nf nch e n,free p.1 p.2 nch e n,ne,nf,d⟩
theorem Inv.un {t' : Nat} (I : Inv X pins σ H s) (u : Un X.fs [] H H' s.heap h') (hok : HOk X.prog X.w H' h') : Inv X pins σ H' { s with heap:=h',toks:=t' }:=by
 obtain ⟨m,⟨o,es,ep,ho,r⟩,_⟩:=id I.loc
 obtain ⟨sl,hL⟩:=u.any ho I.free (by simp)
 exact I.step (g':=s.gens) (d':=s.drawn) (ch:=[]) (fun _ z=>nomatch z) (fun b o _ hb _ e n=>u.keep b o e n hb (by simp)) (fun b o _ hb _ e n=>u.slot b o e n hb (by simp)) (fun b o _ e n=>u.free b o e n (by simp)) (fun b o _ e=>u.there b o e (by simp)) u.tups u.frzs u.tbls (fun m' hm=>by
  obtain ⟨o',es',ep',ho',r'⟩:=hm
  rw [ho] at ho'; cases ho'
  exact ⟨_,es',ep',hL,r'⟩) hok I.bare
theorem Inv.call {g' : Array GenState} {t' : Nat} {d' : Drawn} {ch : List Addr} (I : Inv X pins σ H s) (u : Un (frs X.stack) ch H H' s.heap h') (hok : HOk X.prog X.w H' h') (hg : AllBare g')
  (hch : ∀ b ∈ ch,(b ∈ X.ex∨X.s₀.heap.objs.size≤b)∧b ≠ X.env.locals∧(∀ x c,X.env.cells.lookup x = some c->c ≠ b)∧∀ p ∈ X.pn ++ pins,p.1 ≠ b) :
  Inv X pins σ H' { s with heap:=h',gens:=g',drawn:=d',toks:=t' }:=by
 obtain ⟨m,⟨o,es,ep,ho,r⟩,_⟩:=id I.loc
 obtain ⟨sl,hL⟩:=u.any ho I.free fun z=>(hch _ z).2.1 rfl
 exact I.step (ch:=ch) hch (fun b o hL hb hc e n=>u.keep b o e n (fun z=>(List.mem_cons.mp (I.stkSub b z)).elim hL hb) hc) (fun b o _ _ hc e n=>u.any e n hc) (fun b o hc e n=>u.free b o e n hc) (fun b o hc e=>u.there b o e hc) u.tups u.frzs u.tbls (fun m' hm=>by
  obtain ⟨o',es',ep',ho',r'⟩:=hm
  rw [ho] at ho'; cases ho'
  exact ⟨_,es',ep',hL,r'⟩) hok hg
theorem Inv.turned {t' : Nat} {it : Addr} (I : Inv X pins σ H s) (k : ∀ b o,b ≠ it->s.heap.get? b = some o->h'.get? b = some o) (hn : H it = none) (hL : it ≠ X.env.locals)
  (h1 : it ∈ X.ex∨X.s₀.heap.objs.size≤it) (h2 : ∀ x c,X.env.cells.lookup x = some c->c ≠ it) (h3 : ∀ p ∈ X.pn ++ pins,p.1 ≠ it) : Inv X pins σ H { s with heap:=h',toks:=t' }:=by
 have nit : ∀ b u,H b = some u->b ≠ it:=fun b u e z=>by rw [z,hn] at e; cases e
 refine I.step (g':=s.gens) (d':=s.drawn) (ch:=[it]) (fun b hb=>?_) (fun b o _ _ hc e _=>k b o (fun z=>hc (by simp [z])) e) (fun b o _ _ hc e _=>⟨o.slots,k b o (fun z=>hc (by simp [z])) e⟩) (fun _ _ _ _ n=>n)
  (fun b o hc e=>⟨o,k b o (fun z=>hc (by simp [z])) e⟩) (fun _ _ e=>e) (fun _ _ _ e=>e) (fun b ps e=>⟨#[],by rw [e]; simp⟩) (fun m hm=>?_) (fun b u e=>?_) I.bare
 ·have e : b = it:=by simpa using hb
  subst e
  exact ⟨h1,hL,h2,h3⟩
 ·obtain ⟨o,es,ep,ho,r⟩:=hm
  exact ⟨o,es,ep,k _ o (Ne.symm hL) ho,r⟩
 ·refine (I.hok b u e).stay (fun c v hc q=>k c v ?_ q) (fun _ q=>q) fun _ _ q=>q
  rcases hc with z | z
  ·rw [z]; exact nit b u e
  ·exact nit c _ z
theorem Inv.tok (I : Inv X pins σ H s) (t : Nat) : Inv X pins σ H { s with toks:=t }:=I.un (h':=s.heap) (t':=t) Un.refl I.hok
theorem Inv.kept {t' : Nat} (I : Inv X pins σ H s) (k : ∀ b u,s.heap.get? b = some u->h'.get? b = some u) : Inv X pins σ H { s with heap:=h',toks:=t' }:=I.un (Un.kept k) (I.hok.kept k)
theorem Inv.laid {a : Addr} {o : HO} {t' : Nat} (I : Inv X pins σ H s) (k : ∀ b u,s.heap.get? b = some u->h'.get? b = some u) (hp : s.heap.objs.size≤a) (new : ObjOk X.prog X.w (upd H a o) h' a o) :
  Inv X pins σ (upd H a o) { s with heap:=h',toks:=t' }:=I.un (Un.laid k hp (I.hok.fresh hp)) (I.hok.laid k hp new)
theorem Inv.write {x e : Addr} {o : HO} {t' : Nat} (I : Inv X pins σ H s) (mu : Mut (H x)) (he : e = x∨H e = some (.own x)) (k : ∀ b u,b ≠ e->s.heap.get? b = some u->h'.get? b = some u) (heo : ∃ u,h'.get? e = some u)
  (new : ObjOk X.prog X.w (upd H x o) h' x o) : Inv X pins σ (upd H x o) { s with heap:=h',toks:=t' }:=I.un (Un.write mu he k heo) (I.hok.write mu he k heo new)
theorem Inv.weak {σ' : List (Option V)} (I : Inv X pins σ H s) (hl : σ'.length = σ.length) (w : ∀ (i : Nat) v,σ'[i]? = some (some v)->σ[i]? = some (some v)) : Inv X pins σ' H s :=
 ⟨I.ok,I.os,I.bare,I.base,let ⟨m,hn,hl'⟩:=I.loc; ⟨m,hn,fun i x v e1 e2 e3=>hl' i x v e1 (w i v e2) e3⟩,I.cell,I.free,I.freeC,I.pin,I.hok,hl.trans I.len⟩
theorem Inv.pins_of {pins' : List (Addr × Obj)} (I : Inv X pins σ H s) (h : ∀ p ∈ pins',s.heap.get? p.1 = some p.2∧H p.1 = none∧p.1 ≠ X.env.locals∧p.1 ∉ X.fs∧∀ v,p.2.data ≠ .cell v) : Inv X pins' σ H s :=
 ⟨I.ok,I.os,I.bare,I.base,I.loc,I.cell,I.free,I.freeC,fun p hp=>(List.mem_append.mp hp).elim (fun z=>I.pin p (List.mem_append_left _ z)) (h p),I.hok,I.len⟩
theorem JF {N : List Str} (hN : N.Nodup) {i j : Nat} {x : Str} (a : N[i]? = some x) (b : N[j]? = some x) : i = j:=by
 obtain ⟨h1,e1⟩:=List.getElem?_eq_some_iff.mp a
 obtain ⟨h2,e2⟩:=List.getElem?_eq_some_iff.mp b
 exact (List.getElem_inj hN).mp (e1.trans e2.symm)
theorem Qs {M : Model} {A : Around} {E : Value->Shared->Prop} {i : Nat} {x : Str} {v : V} {u : Value} {Q : Unit->Shared->Prop} (I : Inv X pins σ H s) (hN : X.N.Nodup) (hi : X.N[i]? = some x) (hx : Loc X.env.scope x) (r : RelV v u)
  (h : ∀ s',Inv X pins (σ.set i (some v)) H s'->(∃ a,Heap.SameBut a s.heap s'.heap∧(a = X.env.locals∨X.env.cells.lookup x = some a))->Q () s') (hf : X.fn x = true∨X.env.scope.names.lookup x = some .local:=by first | exact .inl rfl | exact .inr rfl | assumption) : wpAny M A (storeName X.env x u) Q E s:=by
 obtain ⟨m,hn,hl⟩:=id I.loc
 have hcls : (X.env.scope.kind == .class || (X.env.scope.kind == .module && X.env.locals != X.env.globals)) = false:=by rw [I.ok.kind]; rfl
 have hiσ : i < σ.length:=by rw [I.len]; exact (List.getElem?_eq_some_iff.mp hi).1
 have cne:=I.cne
 have tracked : ∀ {a : Addr} {h' : Heap},(∃ o,s.heap.get? a = some o∧H a = none)->Heap.SameBut a s.heap h'->HOk X.prog X.w H h':=fun {a h'} ha hs b ob e=>by
  obtain ⟨_,_,hfree⟩:=ha
  refine (I.hok b ob e).stay (fun c w' hc q=>(hs.2 c ?_).trans q) (fun _ q=>q) fun _ _ q=>q
  rintro rfl
  rcases hc with rfl | hc
  ·rw [hfree] at e; cases e
  ·rw [hfree] at hc; cases hc
 rcases hx with hk | hk
 ·refine wpAny_storeName_local hk hn (fun h' hn' hs=>?_) hcls
  obtain ⟨oL,_,_,hoL,_⟩:=id hn
  refine h _ ⟨I.ok,I.os,I.bare,⟨fun b o e n hb hx=>?_,fun b o e n hb hx=>?_,I.base.free,fun b o e hx=>?_,I.base.tups,I.base.frzs,I.base.tbls⟩,⟨_,hn',fun j y v' e1 e2 e3=>?_⟩,fun y c e=>?_,I.free,I.freeC,fun p hp=>?_,tracked ⟨oL,hoL,I.free⟩ hs,by simpa using I.len⟩ ⟨_,hs,.inl rfl⟩
  ·exact (hs.2 b (Nat.ne_of_lt (Nat.lt_of_lt_of_le (Heap.lt_size e) I.ok.above))).trans (I.base.keep b o e n hb hx)
  ·obtain ⟨sl,e1⟩:=I.base.slot b o e n hb hx
   exact ⟨sl,(hs.2 b (Nat.ne_of_lt (Nat.lt_of_lt_of_le (Heap.lt_size e) I.ok.above))).trans e1⟩
  ·obtain ⟨o',e1⟩:=I.base.there b o e hx
   exact ⟨o',(hs.2 b (Nat.ne_of_lt (Nat.lt_of_lt_of_le (Heap.lt_size e) I.ok.above))).trans e1⟩
  ·by_cases hj : j = i
   ·subst hj
    rw [hi] at e1; cases e1
    rw [List.getElem?_set_self hiσ] at e2
    cases e2
    exact ⟨u,r,.inl ⟨hk,by simp⟩⟩
   ·rw [List.getElem?_set_ne (Ne.symm hj)] at e2
    obtain ⟨u',r',q⟩:=hl j y v' e1 e2 e3
    refine ⟨u',r',?_⟩
    rcases q with ⟨k,e⟩ | ⟨k,c,e,z⟩
    ·refine .inl ⟨k,?_⟩
     have : y ≠ x:=fun e=>hj (JF hN e1 (e ▸ hi))
     simp [this,e]
    ·exact .inr ⟨k,c,e,z.sameBut hs (cne y c e)⟩
  ·obtain ⟨w',z⟩:=I.cell y c e
   exact ⟨w',z.sameBut hs (cne y c e)⟩
  ·obtain ⟨e,n,ne,nf,d⟩:=I.pin p hp
   exact ⟨(hs.2 p.1 ne).trans e,n,ne,nf,d⟩
 ·have hfn : X.fn x = true:=by
   rcases hf with z | z
   ·exact z
   ·rw [z] at hk; cases hk
  obtain ⟨c,hc⟩:=I.ok.has x (.inl hk)
  obtain ⟨w',z⟩:=I.cell x c hc
  refine wpAny_storeName_cell I.ok.kind hk hc z (fun h' hc' hs=>?_)
  obtain ⟨oc,hoc,hocd⟩:=id z
  refine h { s with heap:=h' } ⟨I.ok,I.os,I.bare,⟨fun b o e n hb hx=>?_,fun b o e n hb hx=>?_,I.base.free,fun b o e hx=>?_,I.base.tups,I.base.frzs,I.base.tbls⟩,⟨m,hn.sameBut hs (Ne.symm (cne x c hc)),fun j y v' e1 e2 e3=>?_⟩,fun y c' e=>?_,I.free,I.freeC,fun p hp=>?_,tracked ⟨oc,hoc,I.freeC x c hc⟩ hs,by simpa using I.len⟩ ⟨c,hs,.inr hc⟩
  ·exact (hs.2 b (Nat.ne_of_lt (Nat.lt_of_lt_of_le (Heap.lt_size e) (I.ok.cab x c hfn hc)))).trans (I.base.keep b o e n hb hx)
  ·obtain ⟨sl,e1⟩:=I.base.slot b o e n hb hx
   exact ⟨sl,(hs.2 b (Nat.ne_of_lt (Nat.lt_of_lt_of_le (Heap.lt_size e) (I.ok.cab x c hfn hc)))).trans e1⟩
  ·obtain ⟨o',e1⟩:=I.base.there b o e hx
   exact ⟨o',(hs.2 b (Nat.ne_of_lt (Nat.lt_of_lt_of_le (Heap.lt_size e) (I.ok.cab x c hfn hc)))).trans e1⟩
  ·by_cases hj : j = i
   ·subst hj
    rw [hi] at e1; cases e1
    rw [List.getElem?_set_self hiσ] at e2
    cases e2
    exact ⟨u,r,.inr ⟨.inl hk,c,hc,hc'⟩⟩
   ·rw [List.getElem?_set_ne (Ne.symm hj)] at e2
    obtain ⟨u',r',q⟩:=hl j y v' e1 e2 e3
    refine ⟨u',r',?_⟩
    rcases q with q | ⟨k,c',e,z'⟩
    ·exact .inl q
    ·refine .inr ⟨k,c',e,z'.sameBut hs ?_⟩
     rintro rfl
     exact hj (JF hN e1 (I.ok.inj _ _ _ e hc ▸ hi))
  ·by_cases hcc : c' = c
   ·subst hcc; exact ⟨_,hc'⟩
   ·obtain ⟨w2,z2⟩:=I.cell y c' e
    exact ⟨w2,z2.sameBut hs hcc⟩
  ·obtain ⟨e,n,ne,nf,d⟩:=I.pin p hp
   refine ⟨(hs.2 p.1 ?_).trans e,n,ne,nf,d⟩
   intro q
   rw [q,hoc] at e
   have q' : oc = p.2:=Option.some.inj e
   exact d w' (by rw [← q']; exact hocd)
theorem VP {M : Model} {A : Around} {E : Value->Shared->Prop} {i : Nat} {x : Str} {v : V} {u : Value} {Q : Unit->Shared->Prop} (I : Inv X pins σ H s) (hN : X.N.Nodup) (hi : X.N[i]? = some x) (hx : Loc X.env.scope x) (r : RelV v u)
  (h : ∀ s',Inv X pins (σ.set i (some v)) H s'->Q () s') (hf : X.fn x = true∨X.env.scope.names.lookup x = some .local:=by first | exact .inl rfl | exact .inr rfl | assumption) : wpAny M A (storeName X.env x u) Q E s :=
 Qs I hN hi hx r (fun s' I' _=>h s' I') hf
theorem Inv.call' {s' : Shared} {ch : List Addr} (I : Inv X pins σ H s) (ho : s'.os = s.os) (u : Un (frs X.stack) ch H H' s.heap s'.heap) (hok : HOk X.prog X.w H' s'.heap) (hg : AllBare s'.gens)
  (hch : ∀ b ∈ ch,(b ∈ X.ex∨X.s₀.heap.objs.size≤b)∧b ≠ X.env.locals∧(∀ x c,X.env.cells.lookup x = some c->c ≠ b)∧∀ p ∈ X.pn ++ pins,p.1 ≠ b) : Inv X pins σ H' s':=by
 obtain ⟨h',g',d',t',o'⟩:=s'
 have e : o' = s.os:=ho
 subst e
 exact I.call (g':=g') (t':=t') (d':=d') u hok hg hch
end
abbrev XK:=Value->Option Addr->Hp->Prop
abbrev St:=List (Option V)
abbrev VK:=V->Hp->Prop
abbrev TE:=St->Hp->VK->Prop
abbrev TT:=St->Hp->(Bool->Hp->Prop)->Prop
abbrev TA:=St->Hp->(List V->Hp->Prop)->Prop
structure Ends where
 nx : St->Hp->Prop
 rt : VK
 bk : St->Hp->Prop:=fun _ _=>False
 ct : St->Hp->Prop:=fun _ _=>False
abbrev TS:=Ends->St->Hp->Prop
def EP (X : Cx) (pins : List (Addr × Obj)) (σ : St) (Q : VK) (u : Value) (s' : Shared) : Prop:=∃ v H',Inv X pins σ H' s'∧RelV v u∧Q v H'
def TP (X : Cx) (pins : List (Addr × Obj)) (σ : St) (Q : Bool->Hp->Prop) (b : Bool) (s' : Shared) : Prop:=∃ H',Inv X pins σ H' s'∧Q b H'
def AP (X : Cx) (pins : List (Addr × Obj)) (σ : St) (Q : List V->Hp->Prop) (us : List Value) (s' : Shared) : Prop:=∃ vs H',Inv X pins σ H' s'∧Vals vs us∧Q vs H'
def SP (X : Cx) (pins : List (Addr × Obj)) (D : Ends) (f : Flow) (s' : Shared) : Prop :=
 match f with
 | .next=>∃ σ' H',Inv X pins σ' H' s'∧D.nx σ' H'
 | .brk=>∃ σ' H',Inv X pins σ' H' s'∧D.bk σ' H'
 | .cont=>∃ σ' H',Inv X pins σ' H' s'∧D.ct σ' H'
 | .ret u=>∃ v σ' H',Inv X pins σ' H' s'∧RelV v u∧D.rt v H'
def PE (X : Cx) (e : Expr) (t : TE) : Prop :=
 ∀ (pins : List (Addr × Obj)) (s : Shared) (σ : St) (H : Hp) (Q : VK),Inv X pins σ H s->t σ H Q->wpAny (model X.prog X.w) X.A (eval e X.env) (EP X pins σ Q) X.xe s
def PT (X : Cx) (e : Expr) (t : TT) : Prop :=
 ∀ (pins : List (Addr × Obj)) (s : Shared) (σ : St) (H : Hp) (Q : Bool->Hp->Prop),Inv X pins σ H s->t σ H Q->wpAny (model X.prog X.w) X.A (isTrue e X.env (eval e X.env)) (TP X pins σ Q) X.xe s
def PW (X : Cx) (e : Expr) (t : TT) : Prop :=
 ∀ (whole : Sem Value) (pins : List (Addr × Obj)) (s : Shared) (σ : St) (H : Hp) (Q : Bool->Hp->Prop),Inv X pins σ H s->t σ H Q->wpAny (model X.prog X.w) X.A (isTrue e X.env whole) (TP X pins σ Q) X.xe s
theorem PW.pt {X : Cx} {e : Expr} {t : TT} (h : PW X e t) : PT X e t:=h _
def PA (X : Cx) (es : List Expr) (t : TA) : Prop :=
 ∀ (pos : Pos) (pins : List (Addr × Obj)) (s : Shared) (σ : St) (H : Hp) (Q : List V->Hp->Prop),Inv X pins σ H s->t σ H Q->wpAny (model X.prog X.w) X.A (spliced (backTo pos (starEach es X.env))) (AP X pins σ Q) X.xe s
def PS (X : Cx) (st : Stmt) (t : TS) : Prop :=
 ∀ (pins : List (Addr × Obj)) (s : Shared) (σ : St) (H : Hp) (D : Ends),Inv X pins σ H s->t D σ H->wpAny (model X.prog X.w) X.A (exec st X.env) (SP X pins D) X.xe s
def PSs (X : Cx) (st : List Stmt) (t : TS) : Prop :=
 ∀ (pins : List (Addr × Obj)) (s : Shared) (σ : St) (H : Hp) (D : Ends),Inv X pins σ H s->t D σ H->wpAny (model X.prog X.w) X.A (execs st X.env) (SP X pins D) X.xe s
theorem thn {α : Type} {t : Sem α} {Q Q' : α->Shared->Prop} {M : Model} {A : Around} {E : Value->Shared->Prop} {s : Shared} (h : wpAny M A t Q E s) (hQ : ∀ a s,Q a s->Q' a s) : wpAny M A t Q' E s:=wpAny_mono h hQ fun _ _ x=>x
section
variable {X : Cx}
def Vl (i : Nat) : TE:=fun σ H Q=>∃ v,σ[i]? = some (some v)∧Q v H
def tC (v : V) : TE:=fun _ H Q=>Q v H
theorem zea {i : Nat} {x : Str} {pos : Pos} (hN : X.N[i]? = some x) (hv : Vis X.env.scope x) (hd : (x == ("__debug__" : Str)) = false:=by decide) (hcd : (x == ("__classdict__" : Str)) = false:=by decide) : PE X (.Name x pos) (Vl i):=by
 intro pins s σ H Q I h
 obtain ⟨v,e,h⟩:=h
 obtain ⟨m,hn,hl⟩:=I.loc
 obtain ⟨u,r,l⟩:=hl i x v hN e hv
 have fin : EP X pins σ Q u s:=⟨v,H,I,r,h⟩
 rcases l with ⟨hk,hm⟩ | ⟨hk,c,hc,hcell⟩
 ·exact wpAny_Name (wpAny_loadName_local I.ok.kind hk hn hm fin) hd
 ·rcases hk with hk | hk
  ·exact wpAny_Name (wpAny_loadName_cell I.ok.kind hk hc hcell fin) hd
  ·exact wpAny_Name (wpAny_loadName_free I.ok.kind hk hc hcell fin hcd) hd
theorem zp {i j pos} : PE X (.Constant (.int i) j pos) (tC (.int i)):=fun _ _ _ H _ I h=>wpAny_Constant_int ⟨.int i,H,I.tok _,⟨_,rfl⟩,h⟩
theorem X8 {b j pos} : PE X (.Constant (.bool b) j pos) (tC (.bl b)):=fun _ _ _ H _ I h=>Constant_bool ⟨.bl b,H,I,rfl,h⟩
theorem Xi {j pos} : PE X (.Constant .none j pos) (tC .non):=fun _ _ _ H _ I h=>Constant_none ⟨.non,H,I,rfl,h⟩
def Gl (X : Cx) (x : Str) : Prop:=X.env.kindOf x = some .globalImplicit
theorem Je {E : Value->Shared->Prop} {pins : List (Addr × Obj)} {s : Shared} {σ : St} {H : Hp} {x : Str} {u : Value} {pos : Pos} {Q : Value->Shared->Prop} (I : Inv X pins σ H s) (hg : Gl X x) (hm : X.mg x = some u) (h : Q u s)
  (hd : (x == ("__debug__" : Str)) = false:=by decide) : wpAny (model X.prog X.w) X.A (eval (.Name x pos) X.env) Q E s :=
 Calls.Name_function_global I.ok.kind hg (Calls.loadGlobal_global (by rw [I.ok.glob]; exact I.mod.glob.keeps I.bk) hm h) hd
theorem Zj {E : Value->Shared->Prop} {pins : List (Addr × Obj)} {s : Shared} {σ : St} {H : Hp} {x : Str} {u : Value} {pos : Pos} {Q : Value->Shared->Prop} (I : Inv X pins σ H s) (hg : Gl X x) (hm : X.mg x = none) (hv : bootBuiltins x = some u) (h : Q u s)
  (hn : x ≠ "__name__":=by decide) (hd : (x == ("__debug__" : Str)) = false:=by decide) : wpAny (model X.prog X.w) X.A (eval (.Name x pos) X.env) Q E s:=by
 obtain ⟨mb,h1,h2⟩:=I.mod.blt
 exact Calls.Name_function_global I.ok.kind hg (Calls.loadGlobal_builtin (by rw [I.ok.glob]; exact I.mod.glob.keeps I.bk) hm (by rw [I.ok.blt]; exact h1.keeps I.bk) ((h2 x hn).trans hv) h) hd
theorem XX {x : Str} {v : V} {u : Value} {pos : Pos} (hg : Gl X x) (hm : X.mg x = some u) (r : RelV v u) (hd : (x == ("__debug__" : Str)) = false:=by decide) : PE X (.Name x pos) (tC v) :=
 fun _ _ _ H _ I h=>Je I hg hm ⟨v,H,I,r,h⟩ hd
theorem Zv {x : Str} {v : V} {u : Value} {pos : Pos} (hg : Gl X x) (hm : X.mg x = none) (hv : bootBuiltins x = some u) (r : RelV v u) (hn : x ≠ "__name__":=by decide) (hd : (x == ("__debug__" : Str)) = false:=by decide) : PE X (.Name x pos) (tC v) :=
 fun _ _ _ H _ I h=>Zj I hg hm hv ⟨v,H,I,r,h⟩ hn hd
variable {a b : Expr} {ta tb : TE} {pos : Pos}
def PC (X : Cx) (op : CmpOp) (a b : Expr) (t : TE) : Prop :=
 ∀ (pins : List (Addr × Obj)) (s : Shared) (σ : St) (H : Hp) (Q : VK),Inv X pins σ H s->t σ H Q ->
  wpAny (model X.prog X.w) X.A (eval a X.env) (fun v s₁=>wpAny (model X.prog X.w) X.A (eval b X.env) (fun u s₂=>wpAny (model X.prog X.w) X.A (compareOp op v u) (EP X pins σ Q) X.xe s₂) X.xe s₁) X.xe s
theorem zcr (b : Expr) {op : CmpOp} (h : op ≠ .In) (h2 : op ≠ .NotIn) : behindInMarks op b = false:=by
 have e1 : (op == CmpOp.In) = false:=by cases op <;> first | rfl | exact absurd rfl h
 have e2 : (op == CmpOp.NotIn) = false:=by cases op <;> first | rfl | exact absurd rfl h2
 cases b <;> simp [behindInMarks,e1,e2]
def tB (t : TE) : TT:=fun σ H Q=>t σ H fun x H1=>∃ c,x = .bl c∧Q c H1
theorem zet {op : CmpOp} {t : TE} (h : PC X op a b t) (h1 : behindInMarks op b = false:=by first | exact zcr _ (by decide) (by decide) | rfl) : PT X (.Compare a [op] [b] pos) (tB t):=by
 intro pins s σ H Q I hw
 refine wpAny_isTrue_Compare1 (thn (h pins s σ H _ I hw) fun v s1 h1=>thn h1 fun u s2 h2=>thn h2 fun c s3 ⟨x,H1,I1,r1,q1⟩=>?_) h1
 obtain ⟨d,rfl,q⟩:=q1
 cases r1
 exact wpAny_truthy_bool ⟨H1,I1,q⟩
theorem uZ {e : Expr} {t : TE} (h : PE X e t) (he : ∀ whole,isTrue e X.env whole = (do let v ← whole; standAt e.pos; holding [v] (truthy v)):=by intro _; rfl) : PT X e (tB t):=by
 intro pins s σ H Q I hw
 refine isTrue_plain (thn (h pins s σ H _ I hw) fun v s1 ⟨x,H1,I1,r1,q1⟩=>?_) (he _)
 obtain ⟨d,rfl,q⟩:=q1
 cases r1
 exact wpAny_truthy_bool ⟨H1,I1,q⟩
variable {tA tB' : TT} {rest : List Expr}
def zfD (t u : TT) : TT:=fun σ H Q=>t σ H fun c H1=>if c = true then u σ H1 Q else Q false H1
def tOr (t u : TT) : TT:=fun σ H Q=>t σ H fun c H1=>if c = true then Q true H1 else u σ H1 Q
def zfC (t : TT) : TT:=fun σ H Q=>t σ H fun c H1=>Q (!c) H1
theorem Vu (ha : PT X a tA) : PW X (.BoolOp .And [a] pos) tA:=by
 intro wh pins s σ H Q I h
 refine isTrue_and (thn (ha pins s σ H Q I h) fun c s1 e=>?_)
 cases c with
 | true=>exact isTrue_and_nil e
 | false=>exact e
theorem Jh (ha : PT X a tA) : PW X (.BoolOp .Or [a] pos) tA:=by
 intro wh pins s σ H Q I h
 refine isTrue_or (thn (ha pins s σ H Q I h) fun c s1 e=>?_)
 cases c with
 | false=>exact isTrue_or_nil e
 | true=>exact e
theorem Q9 (ha : PT X a tA) (hb : PW X (.BoolOp .And (b :: rest) pos) tB') : PW X (.BoolOp .And (a :: b :: rest) pos) (zfD tA tB'):=by
 intro wh pins s σ H Q I h
 refine isTrue_and (thn (ha pins s σ H _ I h) fun c s1 ⟨H1,I1,q1⟩=>?_)
 cases c with
 | true=>exact hb wh pins s1 σ H1 Q I1 q1
 | false=>exact ⟨H1,I1,q1⟩
theorem za6 (ha : PT X a tA) (hb : PW X (.BoolOp .Or (b :: rest) pos) tB') : PW X (.BoolOp .Or (a :: b :: rest) pos) (tOr tA tB'):=by
 intro wh pins s σ H Q I h
 refine isTrue_or (thn (ha pins s σ H _ I h) fun c s1 ⟨H1,I1,q1⟩=>?_)
 cases c with
 | true=>exact ⟨H1,I1,q1⟩
 | false=>exact hb wh pins s1 σ H1 Q I1 q1
theorem jW (ha : PT X a tA) : PT X (.UnaryOp .Not a pos) (zfC tA):=by
 intro pins s σ H Q I h
 exact isTrue_not (ha pins s σ H (fun c H1=>Q (!c) H1) I h)
def zfe (ta tb : TE) : TE:=fun σ H Q=>ta σ H fun x H1=>∃ c,x = .bl c∧if c = true then tb σ H1 Q else Q (.bl false) H1
def zeJ (ta : TE) : TE:=fun σ H Q=>ta σ H fun x H1=>∃ c,x = .bl c∧Q (.bl (!c)) H1
theorem jQ {op} {t : TE} (h : PE X a t) : PE X (.BoolOp op [a] pos) t:=fun pins s σ H Q I hw=>BoolOp_one (h pins s σ H Q I hw)
theorem jf (ha : PE X a ta) (hb : PE X (.BoolOp .And (b :: rest) pos) tb) : PE X (.BoolOp .And (a :: b :: rest) pos) (zfe ta tb):=by
 intro pins s σ H Q I h
 refine BoolOp_and (thn (ha pins s σ H _ I h) fun v s1 ⟨x,H1,I1,r1,q1⟩=>?_)
 obtain ⟨c,rfl,q1⟩:=q1
 cases r1
 refine wpAny_truthy_bool ?_
 cases c with
 | true=>exact hb pins s1 σ H1 Q I1 q1
 | false=>exact ⟨.bl false,H1,I1,rfl,q1⟩
theorem zaI (ha : PE X a ta) : PE X (.UnaryOp .Not a pos) (zeJ ta):=by
 intro pins s σ H Q I h
 refine UnaryOp_ (thn (ha pins s σ H _ I h) fun v s1 ⟨x,H1,I1,r1,q1⟩=>?_)
 obtain ⟨c,rfl,q1⟩:=q1
 cases r1
 exact not_of (wpAny_truthy_bool ⟨.bl (!c),H1,I1,rfl,q1⟩)
def tIf (t : TT) (ta tb : TE) : TE:=fun σ H Q=>t σ H fun c H1=>if c = true then ta σ H1 Q else tb σ H1 Q
theorem zcW {c : Expr} (hc : PT X c tA) (ha : PE X a ta) (hb : PE X b tb) : PE X (.IfExp c a b pos) (tIf tA ta tb):=by
 intro pins s σ H Q I h
 refine wpAny_IfExp (thn (hc pins s σ H _ I h) fun d s1 ⟨H1,I1,q1⟩=>?_)
 cases d with
 | true=>exact ha pins s1 σ H1 Q I1 q1
 | false=>exact hb pins s1 σ H1 Q I1 q1
end
def SqL (K : PySem.W.Frag) (H : Hp) (a : Addr) (xs : List V) : Prop :=
 Rd H a (.lst xs) ∨
  ∃ (o : Obj) (its : Array Value) (n : Nat),K.lookup a = some o∧o.cls = .type "list"∧o.dict = none∧o.data = .seq its n∧its.size≤sizeLine∧Vals xs its.toList
def SqT (K : PySem.W.Frag) (H : Hp) (a : Addr) (xs : List V) : Prop :=
 Rd H a (.tup xs) ∨
  ∃ (o : Obj) (its : Array Value) (n : Nat),K.lookup a = some o∧o.cls = .type "tuple"∧o.data = .seq its n∧its.size≤sizeLine∧Vals xs its.toList
def zfG : Value->Option V
 | .none=>some .non
 | .bool b=>some (.bl b)
 | .int i _=>some (.int i)
 | .str x _=>some (.str x)
 | .bytes b _=>some (.byt b)
 | .float b _=>some (.flt b)
 | .ref a=>some (.ref a)
 | .type n=>some (.ty n)
 | _=>none
theorem RelV.abs {x : V} {u : Value} (r : RelV x u) : zfG u = some x:=by
 cases x with
 | non=>cases r; rfl
 | bl _=>cases r; rfl
 | int _=>obtain ⟨t,rfl⟩:=r; rfl
 | str _=>obtain ⟨t,rfl⟩:=r; rfl
 | byt _=>obtain ⟨t,rfl⟩:=r; rfl
 | flt _=>obtain ⟨t,rfl⟩:=r; rfl
 | ref _=>cases r; rfl
 | ty _=>cases r; rfl
theorem RelV.inj {x y : V} {u : Value} (r : RelV x u) (q : RelV y u) : x = y:=Option.some.inj (r.abs.symm.trans q.abs)
theorem Vals.inj : ∀ {xs ys : List V} {us : List Value},Vals xs us->Vals ys us->xs = ys
 | _,_,_,.nil,.nil=>rfl
 | _,_,_,.cons r t,.cons r' t'=>by rw [r.inj r',Vals.inj t t']
section
variable {X : Cx} {pins : List (Addr × Obj)} {σ : St} {H : Hp} {s : Shared} {a : Addr} {xs ys : List V}
theorem SqL.of {K : PySem.W.Frag} (h : H a = some (.lst xs)) : SqL K H a xs:=.inl (.inl h)
theorem SqT.of {K : PySem.W.Frag} (h : H a = some (.tup xs)) : SqT K H a xs:=.inl (.inl h)
theorem Inv.list (I : Inv X pins σ H s) (h : SqL X.K H a xs) : ∃ its : List Value,Vals xs its∧PlainL s.heap a its.toArray∧xs.length≤sizeLine:=by
 rcases h with h | ⟨o,its,n,hk,hc,hd,hs,hz,r⟩
 ·obtain ⟨z,its,n,r,e⟩:=h.ok I.hok
  exact ⟨its,r,⟨_,n,e,rfl,rfl,rfl⟩,z⟩
 ·refine ⟨its.toList,r,⟨o,n,I.kIn a o hk,hc,hd,by simpa using hs⟩,?_⟩
  have e:=r.length
  simp only [Array.length_toList] at e
  omega
theorem Inv.tuple (I : Inv X pins σ H s) (h : SqT X.K H a xs) : ∃ its : List Value,Vals xs its∧IsTup s.heap a its.toArray∧xs.length≤sizeLine:=by
 rcases h with h | ⟨o,its,n,hk,hc,hs,hz,r⟩
 ·obtain ⟨z,its,r,p⟩:=h.ok I.hok
  exact ⟨its,r,p,z⟩
 ·refine ⟨its.toList,r,⟨o,I.kIn a o hk,hc,n,by simpa using hs⟩,?_⟩
  have e:=r.length
  simp only [Array.length_toList] at e
  omega
theorem Inv.list_inj (I : Inv X pins σ H s) (h : SqL X.K H a xs) (h' : SqL X.K H a ys) : xs = ys:=by
 obtain ⟨its,r,⟨o,n,e,_,_,d⟩,_⟩:=I.list h
 obtain ⟨its',r',⟨o',n',e',_,_,d'⟩,_⟩:=I.list h'
 rw [e] at e'; cases e'
 rw [d] at d'
 injection d' with d1 _
 have : its = its':=by simpa using congrArg Array.toList d1
 subst this
 exact r.inj r'
theorem Inv.tuple_inj (I : Inv X pins σ H s) (h : SqT X.K H a xs) (h' : SqT X.K H a ys) : xs = ys:=by
 obtain ⟨its,r,⟨o,e,_,n,d⟩,_⟩:=I.tuple h
 obtain ⟨its',r',⟨o',e',_,n',d'⟩,_⟩:=I.tuple h'
 rw [e] at e'; cases e'
 rw [d] at d'
 injection d' with d1 _
 have : its = its':=by simpa using congrArg Array.toList d1
 subst this
 exact r.inj r'
end
abbrev Cx.wish (X : Cx) (E : Value->Shared->Prop) : Cx:={ X with xe:=E }
abbrev Cx.nox (X : Cx) : Cx:=X.wish fun _ _=>False
theorem Cx.Ok.wish {X : Cx} (ok : X.Ok) (E : Value->Shared->Prop) : (X.wish E).Ok :=
 ⟨ok.mod,ok.kind,ok.glob,ok.blt,ok.above,ok.inj,ok.has,ok.cab,ok.hd,ok.frames,ok.stk,ok.exf,ok.bs,ok.bsz,ok.noex,ok.exfs,ok.funs,ok.frf⟩
theorem Cx.Ok.unwish {X : Cx} {E : Value->Shared->Prop} (ok : (X.wish E).Ok) : X.Ok :=
 ⟨ok.mod,ok.kind,ok.glob,ok.blt,ok.above,ok.inj,ok.has,ok.cab,ok.hd,ok.frames,ok.stk,ok.exf,ok.bs,ok.bsz,ok.noex,ok.exfs,ok.funs,ok.frf⟩
section
variable {X : Cx} {pins : List (Addr × Obj)} {σ : St} {H : Hp} {s : Shared} {E : Value->Shared->Prop}
theorem Inv.wish (I : Inv X pins σ H s) (E : Value->Shared->Prop) : Inv (X.wish E) pins σ H s:=⟨I.ok.wish E,I.os,I.bare,I.base,I.loc,I.cell,I.free,I.freeC,I.pin,I.hok,I.len⟩
theorem Inv.unwish (I : Inv (X.wish E) pins σ H s) : Inv X pins σ H s:=⟨I.ok.unwish,I.os,I.bare,I.base,I.loc,I.cell,I.free,I.freeC,I.pin,I.hok,I.len⟩
theorem SP.unwish {D : Ends} {f : Flow} {s' : Shared} (h : SP (X.wish E) pins D f s') : SP X pins D f s':=by
 cases f with
 | next=>obtain ⟨σ',H',I,q⟩:=h; exact ⟨σ',H',I.unwish,q⟩
 | brk=>obtain ⟨σ',H',I,q⟩:=h; exact ⟨σ',H',I.unwish,q⟩
 | cont=>obtain ⟨σ',H',I,q⟩:=h; exact ⟨σ',H',I.unwish,q⟩
 | ret u=>obtain ⟨v,σ',H',I,r,q⟩:=h; exact ⟨v,σ',H',I.unwish,r,q⟩
theorem PE.nox {e : Expr} {t : TE} (h : PE X.nox e t) : PE X e t:=fun pins s σ H Q I hw =>
 wpAny_mono (h pins s σ H Q (I.wish _) hw) (fun _ _ ⟨v,H',I',r,q⟩=>⟨v,H',I'.unwish,r,q⟩) fun _ _ z=>False.elim z
theorem PT.nox {e : Expr} {t : TT} (h : PT X.nox e t) : PT X e t:=fun pins s σ H Q I hw =>
 wpAny_mono (h pins s σ H Q (I.wish _) hw) (fun _ _ ⟨H',I',q⟩=>⟨H',I'.unwish,q⟩) fun _ _ z=>False.elim z
theorem PSs.nox {st : List Stmt} {t : TS} (h : PSs X.nox st t) : PSs X st t:=fun pins s σ H D I hw =>
 wpAny_mono (h pins s σ H D (I.wish _) hw) (fun _ _ q=>q.unwish) fun _ _ z=>False.elim z
end
section
variable {X : Cx} {st : Stmt} {rest : List Stmt} {t u : TS} {e : Expr} {te : TE} {pos : Pos}
def zeH : TS:=fun D σ H=>D.nx σ H
def zb5 (t u : TS) : TS:=fun D σ H=>t { D with nx:=u D } σ H
theorem yj : PSs X [] zeH:=fun _ _ σ H _ I h=>wpAny_execs_nil ⟨σ,H,I,h⟩
theorem zm (h1 : PS X st t) (h2 : PSs X rest u) : PSs X (st :: rest) (zb5 t u):=by
 intro pins s σ H D I h
 refine wpAny_execs_cons (thn (h1 pins s σ H { D with nx:=u D } I h) fun f s1 q=>?_)
 cases f with
 | next =>
  obtain ⟨σ',H',I',q⟩:=q
  exact h2 pins s1 σ' H' D I' q
 | ret v=>exact q
 | brk=>exact q
 | cont=>exact q
theorem zx (h1 : PS X st t) : PSs X [st] t:=by
 intro pins s σ H D I h
 refine wpAny_execs_cons (thn (h1 pins s σ H D I h) fun f s1 q=>?_)
 cases f with
 | next=>exact wpAny_execs_nil q
 | ret v=>exact q
 | brk=>exact q
 | cont=>exact q
theorem Inv.quiet {pins : List (Addr × Obj)} {σ : St} {H : Hp} {s : Shared} (I : Inv X pins σ H s) : interactive X.env = false:=by simp [interactive,I.ok.kind]
def zeP (te : TE) : TS:=fun D σ H=>te σ H fun _ H1=>D.nx σ H1
theorem xP (he : PE X e te) (hs : swapsWith e none pos.line X.env = pure false:=by rfl) : PS X (.Expr e pos) (zeP te):=by
 intro pins s σ H D I h
 exact wpAny_Expr_any (thn (he pins s σ H _ I h) fun v s1 ⟨x,H1,I1,r1,q1⟩=>⟨σ,H1,I1,q1⟩) I.quiet hs
def ze6 (te : TE) : TS:=fun D σ H=>te σ H D.rt
theorem zL (he : PE X e te) : PS X (.Return (some e) pos) (ze6 te):=by
 intro pins s σ H D I h
 exact wpAny_Return_some (thn (he pins s σ H _ I h) fun v s1 ⟨x,H1,I1,r1,q1⟩=>⟨x,σ,H1,I1,r1,q1⟩)
def zeQ (c : TT) (t u : TS) : TS:=fun D σ H=>c σ H fun b H1=>if b = true then t D σ H1 else u D σ H1
theorem xQ {c : Expr} {a b : List Stmt} {tc : TT} (hc : PT X c tc) (ha : PSs X a t) (hb : PSs X b u) : PS X (.If c a b pos) (zeQ tc t u):=by
 intro pins s σ H D I h
 refine wpAny_If (thn (hc pins s σ H _ I h) fun d s1 ⟨H1,I1,q1⟩=>?_)
 cases d with
 | true=>exact ha pins s1 σ H1 D I1 q1
 | false=>exact hb pins s1 σ H1 D I1 q1
def zd7 : TS:=fun _ _ _=>False
theorem J8 : PS X st zd7:=fun _ _ _ _ _ _ h=>h.elim
end
abbrev TG:=V->St->Hp->(St->Hp->Prop)->Prop
abbrev TGs:=List V->St->Hp->(St->Hp->Prop)->Prop
def PG (X : Cx) (target : Expr) (t : TG) : Prop :=
 ∀ (pins : List (Addr × Obj)) (s : Shared) (σ : St) (H : Hp) (v : V) (u : Value) (Q : St->Hp->Prop),Inv X pins σ H s->RelV v u->t v σ H Q ->
  wpAny (model X.prog X.w) X.A (assign target X.env u) (fun _ s'=>∃ σ' H',Inv X pins σ' H' s'∧Q σ' H') X.xe s
def PGs (X : Cx) (ts : List Expr) (t : TGs) : Prop :=
 ∀ (pins : List (Addr × Obj)) (s : Shared) (σ : St) (H : Hp) (vs : List V) (us : List Value) (Q : St->Hp->Prop),Inv X pins σ H s->Vals vs us->t vs σ H Q ->
  wpAny (model X.prog X.w) X.A (assignInOrder ((assignEach ts X.env).map (·.2)) us) (fun _ s'=>∃ σ' H',Inv X pins σ' H' s'∧Q σ' H') X.xe s
abbrev zeb:=V->V->V->Hp->(Hp->Prop)->Prop
def zeL (X : Cx) (t : zeb) : Prop :=
 ∀ (pins : List (Addr × Obj)) (s : Shared) (σ : St) (H : Hp) (o i v : V) (ov iv u : Value) (Q : Hp->Prop),Inv X pins σ H s->RelV o ov->RelV i iv->RelV v u->t o i v H Q ->
  wpAny (model X.prog X.w) X.A (setItem ov iv u) (fun _ s'=>∃ H',Inv X pins σ H' s'∧Q H') X.xe s
abbrev TIp:=V->V->Hp->VK->Prop
def PIp (X : Cx) (op : Operator) (t : TIp) : Prop :=
 ∀ (pins : List (Addr × Obj)) (s : Shared) (σ : St) (H : Hp) (x y : V) (v u : Value) (Q : VK),Inv X pins σ H s->RelV x v->RelV y u->t x y H Q ->
  wpAny (model X.prog X.w) X.A (inplaceOp op v u) (EP X pins σ Q) X.xe s
section
variable {X : Cx} {pos : Pos}
def Ug (i : Nat) : TG:=fun v σ H Q=>Q (σ.set i (some v)) H
theorem zR {i : Nat} {x : Str} (hN : X.N.Nodup) (hi : X.N[i]? = some x) (hx : Loc X.env.scope x) (hf : X.fn x = true∨X.env.scope.names.lookup x = some .local:=by first | exact .inl rfl | exact .inr rfl | assumption) : PG X (.Name x pos) (Ug i):=by
 intro pins s σ H v u Q I r h
 exact wpAny_assign_Name (VP I hN hi hx r (fun s' I'=>⟨_,H,I',h⟩) hf)
def zfA : TGs:=fun vs σ H Q=>vs = []∧Q σ H
def zfg (t : TG) (u : TGs) : TGs:=fun vs σ H Q=>∃ v r,vs = v :: r∧t v σ H fun σ' H'=>u r σ' H' Q
theorem qH : PGs X [] zfA:=by
 intro pins s σ H vs us Q I r h
 obtain ⟨e,h⟩:=h
 subst e
 cases r
 exact assignInOrder_nil ⟨σ,H,I,h⟩
theorem yz {e : Expr} {es : List Expr} {t : TG} {u : TGs} (h1 : PG X e t) (h2 : PGs X es u)
  (hs : (assignEach (e :: es) X.env).map (·.2) = assign e X.env :: (assignEach es X.env).map (·.2):=by rfl) : PGs X (e :: es) (zfg t u):=by
 intro pins s σ H vs us Q I r h
 obtain ⟨v,vr,e1,h⟩:=h
 subst e1
 cases r with
 | cons r rr =>
  rw [hs]
  refine assignInOrder_cons (thn (h1 pins s σ H _ _ _ I r h) fun _ s1 ⟨σ1,H1,I1,q1⟩=>?_)
  exact h2 pins s1 σ1 H1 _ _ Q I1 rr q1
def zeY (K : PySem.W.Frag) (n : Nat) (t : TGs) : TG:=fun v σ H Q=>∃ a xs,v = .ref a∧SqT K H a xs∧xs.length = n∧t xs σ H Q
theorem W0 {es : List Expr} {k : Nat} {t : TGs} {n : Nat} (hc : X.calm = true) (h : PGs X es t)
  (hn : (assignEach es X.env).length = n:=by rfl) (hst : (assignEach es X.env).findIdx? (·.1) = none:=by rfl) : PG X (.Tuple es k pos) (zeY X.K n t):=by
 intro pins s σ H v u Q I r hw
 obtain ⟨a,xs,e1,hq,hl,hw⟩:=hw
 subst e1
 cases r
 obtain ⟨its,rv,ht,hz⟩:=I.tuple hq
 refine assign_Tuple_tuple (I.ok.hd hc) ht (by simp [hn,← hl,rv.length]) hst fun h' hx=>?_
 have I1 : Inv X pins σ H { s with heap:=h' }:=I.kept (t':=s.toks) fun b o e=>hx b o (Nat.ne_of_lt (Heap.lt_size e)) e
 exact h pins _ σ H xs _ Q I1 (by simpa using rv) hw
def ze0 (to ti : TE) (t : zeb) : TG:=fun v σ H Q=>to σ H fun o H1=>ti σ H1 fun i H2=>t o i v H2 fun H3=>Q σ H3
theorem zav {o i : Expr} {to ti : TE} {t : zeb} (ho : PE X o to) (hi : PE X i ti) (hs : zeL X t)
  (ha : ∀ v,assign (.Subscript o i pos) X.env v = (do
   let ov ← holding [v] (eval o X.env)
   let iv ← holding [v,ov] (eval i X.env)
   standAt pos
   holding [v,ov,iv] (setItem ov iv v)
   release [v,ov,iv] []):=by intro _; rfl) : PG X (.Subscript o i pos) (ze0 to ti t):=by
 intro pins s σ H v u Q I r h
 rw [ha]
 refine wpAny_bind (wpAny_holding (thn (ho pins s σ H _ I h) fun ov s1 ⟨x,H1,I1,r1,q1⟩=>?_))
 refine wpAny_bind (wpAny_holding (thn (hi pins s1 σ H1 _ I1 q1) fun iv s2 ⟨y,H2,I2,r2,q2⟩=>?_))
 refine wpAny_bind (wpAny_standAt (wpAny_bind (wpAny_holding (thn (hs pins s2 σ H2 x y v ov iv u _ I2 r1 r2 r q2) fun _ s3 ⟨H3,I3,q3⟩=>?_))))
 exact wpAny_release ⟨σ,H3,I3,q3⟩
def zaA (te : TE) (g : TG) : TS:=fun D σ H=>te σ H fun x H1=>g x σ H1 D.nx
theorem WK {tg e : Expr} {te : TE} {g : TG} (he : PE X e te) (hg : PG X tg g) (hs : swapsWithSole [tg] e pos.line X.env = pure false:=by rfl) (hw : swappedStores [tg] e X.env = pure none:=by rfl)
  (h1 : (assignEach [tg] X.env).map (·.2) = [assign tg X.env]:=by rfl) : PS X (.Assign [tg] e pos) (zaA te g):=by
 intro pins s σ H D I h
 refine wpAny_Assign_stores (thn (he pins s σ H _ I h) fun v s1 ⟨x,H1,I1,r1,q1⟩=>?_) hs hw
 rw [h1]
 exact thn (hg pins s1 σ H1 x v _ I1 r1 q1) fun _ s2 q=>q
theorem zF {i : Nat} {x : Str} {e : Expr} {te : TE} {pos' : Pos} (hN : X.N.Nodup) (hi : X.N[i]? = some x) (hx : Loc X.env.scope x) (he : PE X e te) (hs : swapsWith e (some (.Name x pos')) pos.line X.env = pure false:=by rfl) (hf : X.fn x = true∨X.env.scope.names.lookup x = some .local:=by first | exact .inl rfl | exact .inr rfl | assumption) :
  PS X (.Assign [.Name x pos'] e pos) (zaA te (Ug i)):=by
 intro pins s σ H D I h
 refine wpAny_Assign_Name (thn (he pins s σ H _ I h) fun v s1 ⟨y,H1,I1,r1,q1⟩=>?_) hs
 exact VP I1 hN hi hx r1 (fun s2 I2=>⟨_,H1,I2,q1⟩) hf
def zfx (i : Nat) (te : TE) (ti : TIp) : TS:=fun D σ H=>∃ x,σ[i]? = some (some x)∧te σ H fun y H1=>ti x y H1 fun z H2=>D.nx (σ.set i (some z)) H2
theorem zef {i : Nat} {x : Str} {e : Expr} {te : TE} {op : Operator} {ti : TIp} {pos' : Pos} (hN : X.N.Nodup) (hi : X.N[i]? = some x) (hx : Loc X.env.scope x) (he : PE X e te) (ho : PIp X op ti) (hf : X.fn x = true∨X.env.scope.names.lookup x = some .local:=by first | exact .inl rfl | exact .inr rfl | assumption) :
  PS X (.AugAssign (.Name x pos') op e pos) (zfx i te ti):=by
 intro pins s σ H D I h
 obtain ⟨v,e1,h⟩:=h
 obtain ⟨m,hn,hl⟩:=I.loc
 have vis : Vis X.env.scope x:=by rcases hx with k | k; exact .inl k; exact .inr (.inl k)
 obtain ⟨u,r,l⟩:=hl i x v hi e1 vis
 refine wpAny_AugAssign_Name ?_
 have go : wpAny (model X.prog X.w) X.A (eval e X.env) (fun w s₂=>wpAny (model X.prog X.w) X.A (inplaceOp op u w) (fun r s₃=>wpAny (model X.prog X.w) X.A (storeName X.env x r) (fun _=>SP X pins D .next) X.xe s₃) X.xe s₂) X.xe s:=by
  refine thn (he pins s σ H _ I h) fun w s1 ⟨y,H1,I1,r1,q1⟩=>?_
  refine thn (ho pins s1 σ H1 v y u w _ I1 r r1 q1) fun z s2 ⟨zv,H2,I2,r2,q2⟩=>?_
  exact VP I2 hN hi hx r2 (fun s3 I3=>⟨_,H2,I3,q2⟩) hf
 rcases l with ⟨hk,hm⟩ | ⟨hk,c,hc,hcell⟩
 ·exact wpAny_loadName_local I.ok.kind hk hn hm go
 ·rcases hk with hk | hk
  ·exact wpAny_loadName_cell I.ok.kind hk hc hcell go
  ·rcases hx with k | k
   ·have : X.env.scope.names.lookup x = some .free:=hk
    rw [k] at this; cases this
   ·have : X.env.scope.names.lookup x = some .free:=hk
    rw [k] at this; cases this
def ipI (f : Int->Int->Int) : TIp:=fun x y H Q=>∃ i j,x = .int i∧y = .int j∧Q (.int (f i j)) H
theorem zeg : PIp X .Add (ipI fun i j=>i + j):=by
 intro pins s σ H x y v u Q I r1 r2 h
 obtain ⟨i,j,e1,e2,q⟩:=h
 subst e1; subst e2
 obtain ⟨t,rfl⟩:=r1
 obtain ⟨t',rfl⟩:=r2
 exact iadd_int ⟨.int _,H,I.tok _,⟨_,rfl⟩,q⟩
end
section
variable {X : Cx} {pos : Pos}
def zaY (c : TT) (tb : TS) : TS:=fun D σ H=>∃ W : Nat->St->Hp->Prop,(∃ m,W m σ H)∧∀ m σ H,W m σ H ->
 c σ H fun b H1=>if b = true then ∃ N : St->Hp->Prop,(∀ σ' H',N σ' H'->∃ m',m' < m∧W m' σ' H')∧tb { D with nx:=N,ct:=N,bk:=D.nx } σ H1 else D.nx σ H1
theorem Yo {c : Expr} {body : List Stmt} {tc : TT} {tb : TS} (hp : PassesOwn (model X.prog X.w) X.A X.env X.xe) (hc : PT X c tc) (hb : PSs X body tb) : PS X (.While c body [] pos) (zaY tc tb):=by
 intro pins s σ H D I h
 obtain ⟨W,⟨m0,w0⟩,turn⟩:=h
 refine wpAny_While (codeAny_whileLoop (fun n s'=>∃ σ' H',Inv X pins σ' H' s'∧W n σ' H') ?_ m0 ⟨σ,H,I,w0⟩)
 rintro n s1 ⟨σ1,H1,I1,w1⟩
 refine wpAny_passesOwn hp (thn (hc pins s1 σ1 H1 _ I1 (turn n σ1 H1 w1)) fun b s2 ⟨H2,I2,q2⟩=>?_)
 cases b with
 | true =>
  obtain ⟨N,hN,q2⟩:=q2
  rw [if_pos rfl]
  refine wpAny_passesOwn hp (thn (hb pins s2 σ1 H2 _ I2 q2) fun f s3 q3=>?_)
  cases f with
  | next =>
   obtain ⟨σ3,H3,I3,n3⟩:=q3
   obtain ⟨m',hm,w3⟩:=hN σ3 H3 n3
   exact ⟨m',hm,σ3,H3,I3,w3⟩
  | cont =>
   obtain ⟨σ3,H3,I3,n3⟩:=q3
   obtain ⟨m',hm,w3⟩:=hN σ3 H3 n3
   exact ⟨m',hm,σ3,H3,I3,w3⟩
  | brk=>exact q3
  | ret v=>exact q3
 | false =>
  rw [if_neg Bool.false_ne_true]
  exact wpAny_execs_nil ⟨σ1,H2,I2,q2⟩
end
structure It where
 go : Nat->Hp->Prop
 yld : Nat->Hp->V->Hp->Prop
 stop : Nat->Hp->Prop
def Wg (X : Cx) (pins : List (Addr × Obj)) (H : Hp) (b : Addr) : Prop :=
 H b = none∧b ≠ X.env.locals∧b ∉ X.fs∧(b ∈ X.ex∨X.s₀.heap.objs.size≤b)∧(∀ x c,X.env.cells.lookup x = some c->c ≠ b)∧∀ p ∈ X.pn ++ pins,p.1 ≠ b
theorem Inv.fpOk {X : Cx} {pins : List (Addr × Obj)} {σ : St} {H H' : Hp} {s : Shared} {b : Addr} (I : Inv X pins σ H s) (hb : s.heap.objs.size≤b) (hn : H' b = none) : Wg X pins H' b:=by
 refine ⟨hn,Nat.ne_of_gt (Nat.lt_of_lt_of_le I.lt hb),I.nofs hb,.inr (Nat.le_trans I.sz hb),fun x c e z=>?_,fun p hp z=>?_⟩
 ·obtain ⟨v,q⟩:=I.cell x c e
  exact absurd (Nat.lt_of_lt_of_le q.lt (by rw [z]; exact hb)) (Nat.lt_irrefl _)
 ·exact absurd (Nat.lt_of_lt_of_le (Heap.lt_size (I.pin p hp).1) (by rw [z]; exact hb)) (Nat.lt_irrefl _)
structure Turn (P : Program) (w : World) (K : PySem.W.Frag) (tg : Expr) (J : It) (fp : List Addr) (it : Addr) (tn : Nat->Heap->Prop) : Prop where
 mem : it ∈ fp
 obj : ∀ i h,tn i h->∀ b ∈ fp,∃ o,h.get? b = some o∧∀ v,o.data ≠ .cell v
 keep : ∀ i h h',tn i h->(∀ b ∈ fp,∀ o,h.get? b = some o->h'.get? b = some o)->tn i h'
 item : ∀ (X : Cx),X.prog = P->X.w = w->X.K = K->X.calm = true->∀ (i : Nat) (pins : List (Addr × Obj)) (s : Shared) (σ : St) (H : Hp) (E : Value->Shared->Prop),Inv X pins σ H s->(∀ b ∈ fp,Wg X pins H b)->tn i s.heap->J.go i H ->
  wpAny (model P w) X.A (pyNext (.ref it)) (fun r s1=>∃ u,r = some u ∧
   wpAny (model P w) X.A (letOwnedTupleGo tg (.ref it) u) (fun _ s2=>∃ x H',Inv X pins σ H' s2∧RelV x u∧J.yld i H x H'∧tn (i + 1) s2.heap∧∀ b ∈ fp,H' b = none) E s1) E s
 done : ∀ (X : Cx),X.prog = P->X.w = w->X.K = K->X.calm = true->∀ (i : Nat) (pins : List (Addr × Obj)) (s : Shared) (σ : St) (H : Hp) (E : Value->Shared->Prop),Inv X pins σ H s->(∀ b ∈ fp,Wg X pins H b)->tn i s.heap->J.stop i H ->
  wpAny (model P w) X.A (pyNext (.ref it)) (fun r s1=>r = none∧Inv X pins σ H s1) E s
 self : ∀ (A : Around) (i : Nat) (s : Shared) (Q : Value->Shared->Prop) (E : Value->Shared->Prop),tn i s.heap->Q (.ref it) s->wpAny (model P w) A (pyIter (.ref it)) Q E s
abbrev TI:=St->Hp->(It->Hp->Prop)->Prop
def PIE (X : Cx) (pins : List (Addr × Obj)) (σ : St) (tg : Expr) (R : It->Hp->Prop) (itv : Value) (s2 : Shared) : Prop :=
 ∃ (it : Addr) (fp : List Addr) (tn : Nat->Heap->Prop) (J : It) (H' : Hp),itv = .ref it∧Inv X pins σ H' s2∧Turn X.prog X.w X.K tg J fp it tn∧tn 0 s2.heap∧(∀ b ∈ fp,Wg X pins H' b)∧R J H'
def PI (X : Cx) (tg iter : Expr) (wi : TI) : Prop :=
 ∀ (pins : List (Addr × Obj)) (s : Shared) (σ : St) (H : Hp) (R : It->Hp->Prop),Inv X pins σ H s->wi σ H R ->
  wpAny (model X.prog X.w) X.A (eval iter X.env) (fun v s1=>wpAny (model X.prog X.w) X.A (pyIter v) (PIE X pins σ tg R) X.xe s1) X.xe s
theorem zcX {M : Model} {A : Around} {E : Value->Shared->Prop} {s : Shared} {tg : Expr} {it : Addr} {u : Value} {o : Obj} {n : String} {vs : Array Value} {Q : Unit->Shared->Prop} (ho : s.heap.get? it = some o) (hc : o.cls = .type n) (hd : o.data = .fields vs)
    (hn : ["enumerate","zip","dict_itemiterator","dict_reverseitemiterator","odict_iterator","itertools.zip_longest","itertools.pairwise"].contains n = false) (hQ : Q () s) : wpAny M A (letOwnedTupleGo tg (.ref it) u) Q E s:=by
  unfold letOwnedTupleGo
  cases tg <;> first
    | exact wpAny_pure hQ
    | (cases u <;> first
        | exact wpAny_pure hQ
        | (refine wpAny_bind (wpAny_load ho ?_)
           rw [hc,hd]
           show wpAny M A (if (["enumerate","zip","dict_itemiterator","dict_reverseitemiterator","odict_iterator","itertools.zip_longest","itertools.pairwise"].contains n && vs[0]? == some (rawInt _)) = true then _ else _) Q E s
           rw [if_neg (by intro h; rw [hn,Bool.false_and] at h; cases h)]
           exact wpAny_pure hQ))
def Itl (K : PySem.W.Frag) (a : Addr) : It :=
 ⟨fun i H=>∃ xs x,SqL K H a xs∧xs[i]? = some x,fun i H x H'=>H' = H∧∀ xs,SqL K H a xs->xs[i]? = some x,fun i H=>∃ xs,SqL K H a xs∧xs.length≤i⟩
def Itr (lo : Int) (n : Nat) : It:=⟨fun i _=>i < n,fun i H x H'=>H' = H∧x = .int (lo + i),fun i _=>n≤i⟩
theorem zbT {P : Program} {w : World} {K : PySem.W.Frag} {tg : Expr} (a it : Addr) : Turn P w K tg (Itl K a) [it] it (fun i h=>h.IsListIter it a i) where
 mem:=by simp
 obj:=fun i h st b hb=>by
  have e : b = it:=by simpa using hb
  subst e
  obtain ⟨o,e,c,d⟩:=st
  exact ⟨o,e,fun v z=>by rw [d] at z; cases z⟩
 keep:=fun i h h' st k=>st.at fun o e=>k it (by simp) o e
 item:=by
  intro X hP hw hK hc i pins s σ H E I hf st hg
  subst hP hw hK
  obtain ⟨xs,x,hq,hx⟩:=hg
  obtain ⟨its,rv,p,hz⟩:=I.list hq
  obtain ⟨u,hu,ru⟩:=rv.get hx
  obtain ⟨f0,f1,f2,f3,f4,f5⟩:=hf it (by simp)
  refine wpAny_pyNext_list_item st p.isList (x:=u) (by simpa using hu) fun h' st' sb=>?_
  have I1 : Inv X pins σ H { s with heap:=h' }:=I.turned (t':=s.toks) (fun b o hb e=>(sb.2 b hb).trans e) f0 f1 f3 f4 f5
  obtain ⟨o,e,c,d⟩:=id st'
  exact ⟨u,rfl,zcX (s:={ s with heap:=h' }) e c d (by decide) ⟨x,H,I1,ru,⟨rfl,fun ys hy=>by rw [I.list_inj hy hq]; exact hx⟩,st',fun b hb=>(hf b hb).1⟩⟩
 done:=by
  intro X hP hw hK hc i pins s σ H E I hf st hg
  subst hP hw hK
  obtain ⟨xs,hq,hx⟩:=hg
  obtain ⟨its,rv,p,hz⟩:=I.list hq
  obtain ⟨f0,f1,f2,f3,f4,f5⟩:=hf it (by simp)
  have hl:=rv.length
  exact wpAny_pyNext_list_end (I.ok.hd hc) st p.isList (by simp; omega) fun h' eb=>⟨rfl,I.turned (t':=s.toks) (fun b o hb e=>eb b o hb e) f0 f1 f3 f4 f5⟩
 self:=fun _ _ _ _ _ st h=>wpAny_pyIter_listiter st h
theorem zaM {P : Program} {w : World} {K : PySem.W.Frag} {tg : Expr} (it : Addr) (lo : Int) (n : Nat) : Turn P w K tg (Itr lo n) [it] it (fun i h=>IsRangeIter h it (lo + (i : Nat) * 1) ((n : Int) - (i : Nat)) 1) where
 mem:=by simp
 obj:=fun i h st b hb=>by
  have e : b = it:=by simpa using hb
  subst e
  exact ⟨_,st,fun v z=>by
   have z' : Data.fields _ = Data.cell v:=z
   cases z'⟩
 keep:=fun i h h' st k=>k it (by simp) _ st
 item:=by
  intro X hP hw hK hc i pins s σ H E I hf st hg
  subst hP hw hK
  obtain ⟨f0,f1,f2,f3,f4,f5⟩:=hf it (by simp)
  have W:=Walks.range (prog:=X.prog) (w:=X.w) (I.ok.hd hc) it lo 1 n
  refine W.item i s _ _ hg st fun v h' tk hv st' kk=>?_
  obtain ⟨t,rfl⟩:=hv
  have I1 : Inv X pins σ H { s with heap:=h',toks:=tk }:=I.turned (fun b o hb e=>kk b o (by simpa using hb) e) f0 f1 f3 f4 f5
  refine ⟨_,rfl,zcX (s:={ s with heap:=h',toks:=tk }) (n:="range_iterator") st' rfl rfl (by decide) ⟨.int (lo + i),H,I1,⟨t,?_⟩,⟨rfl,rfl⟩,st',fun b hb=>(hf b hb).1⟩⟩
  rw [Int.mul_one]
 done:=by
  intro X hP hw hK hc i pins s σ H E I hf st hg
  subst hP hw hK
  obtain ⟨f0,f1,f2,f3,f4,f5⟩:=hf it (by simp)
  exact wpAny_pyNext_range_end (I.ok.hd hc) st (by have : n≤i:=hg; omega) fun h' eb=>⟨rfl,I.turned (t':=s.toks) (fun b o hb e=>eb b o hb e) f0 f1 f3 f4 f5⟩
 self:=fun _ _ _ _ _ st h=>wpAny_pyIter_rangeiter st h
section
variable {X : Cx} {tg : Expr}
def zd1 (K : PySem.W.Frag) (tl : TE) : TI:=fun σ H R=>tl σ H fun x H1=>∃ a,x = .ref a∧(∃ xs,SqL K H1 a xs)∧R (Itl K a) H1
theorem zdb {l : Expr} {tl : TE} (hl : PE X l tl) : PI X tg l (zd1 X.K tl):=by
 intro pins s σ H R I h
 refine thn (hl pins s σ H _ I h) fun v s1 ⟨x,H1,I1,r1,q1⟩=>?_
 obtain ⟨a,e,⟨xs,hq⟩,q⟩:=q1
 subst e
 cases r1
 obtain ⟨its,rv,p,hz⟩:=I1.list hq
 refine wpAny_pyIter_list p.isList ?_
 refine ⟨s1.heap.objs.size,[s1.heap.objs.size],_,_,H1,rfl,I1.kept (t':=s1.toks) fun b o e=>Heap.get?_push_of_some _ e,zbT a _,⟨_,Heap.get?_push_size _ rfl,rfl,rfl⟩,fun b hb=>?_,q⟩
 have e : b = s1.heap.objs.size:=by simpa using hb
 subst e
 exact I1.fpOk (Nat.le_refl _) (I1.hok.fresh (Nat.le_refl _))
theorem J1 {pins : List (Addr × Obj)} {σ : St} {H : Hp} {s : Shared} {R : It->Hp->Prop} {E : Value->Shared->Prop} {lo hi : Int} {t u v : Tok} {tk : Nat} (I : Inv X pins σ H s) (h1 : -(2 ^ 62)≤lo) (h2 : lo < 2 ^ 62) (h3 : -(2 ^ 62)≤hi) (h4 : hi < 2 ^ 62)
  (q : R (Itr lo (hi - lo).toNat) H) : wpAny (model X.prog X.w) X.A (pyIter (.ref s.heap.objs.size)) (PIE X pins σ tg R) E { s with heap:=s.heap.push { cls:=.type "range",data:=.fields #[.int lo t,.int hi u,.int 1 v] },toks:=tk }:=by
 refine wpAny_pyIter_range (IsRange.new ..) (small_one h1 h2 h3 h4) ?_
 have I1 : Inv X pins σ H { s with heap:=s.heap.push { cls:=.type "range",data:=.fields #[.int lo t,.int hi u,.int 1 v] },toks:=tk }:=I.kept fun b o e=>Heap.get?_push_of_some _ e
 refine ⟨(s.heap.push { cls:=.type "range",data:=.fields #[.int lo t,.int hi u,.int 1 v] }).objs.size,[(s.heap.push { cls:=.type "range",data:=.fields #[.int lo t,.int hi u,.int 1 v] }).objs.size],_,_,H,rfl,
  I1.kept (t':=tk) fun b o e=>Heap.get?_push_of_some _ e,zaM _ lo (hi - lo).toNat,?_,fun b hb=>?_,q⟩
 ·have e1 : lo + ((0 : Nat) : Int) * 1 = lo:=by simp
  have e2 : (((hi - lo).toNat : Nat) : Int) - ((0 : Nat) : Int) = Builtin.Range.rangeSize lo hi 1:=by rw [rangeSize_one]; split <;> omega
  show IsRangeIter _ _ (lo + ((0 : Nat) : Int) * 1) ((((hi - lo).toNat : Nat) : Int) - ((0 : Nat) : Int)) 1
  rw [e1,e2]
  exact Heap.get?_push_size _ rfl
 ·have e : b = (s.heap.push { cls:=.type "range",data:=.fields #[.int lo t,.int hi u,.int 1 v] }).objs.size:=by simpa using hb
  subst e
  exact I1.fpOk (Nat.le_refl _) (I1.hok.fresh (Nat.le_refl _))
def zeI (ta : TA) : TI:=fun σ H R=>ta σ H fun vs H1=>∃ j : Int,vs = [.int j]∧-(2 ^ 62)≤j∧j < 2 ^ 62∧R (Itr 0 j.toNat) H1
def ze3 (ta : TA) : TI:=fun σ H R=>ta σ H fun vs H1=>∃ i j : Int,vs = [.int i,.int j]∧(-(2 ^ 62)≤i∧i < 2 ^ 62∧-(2 ^ 62)≤j∧j < 2 ^ 62)∧R (Itr i (j - i).toNat) H1
theorem zY {a : Expr} {ta : TA} {p pos : Pos} (hg : Gl X "range") (hm : X.mg "range" = none) (ha : PA X [a] ta) (hs : starEach [a] X.env = [(false,eval a X.env)]:=by rfl) : PI X tg (.Call (.Name "range" p) [a] [] pos) (zeI ta):=by
 intro pins s σ H R I h
 refine Call_ (Zj I hg hm boot_range (PyProof.Rows.callWith_type1 (thn (ha pos pins s σ H _ I h) fun us s1 ⟨vs,H1,I1,r1,q1⟩=>?_) hs rfl))
 obtain ⟨j,e,q1,q2,q⟩:=q1
 subst e
 cases r1 with
 | cons r rr =>
  cases rr
  obtain ⟨t,rfl⟩:=r
  exact call_range_1 (J1 I1 (by omega) (by omega) q1 q2 (by simpa using q))
theorem WM {a b : Expr} {ta : TA} {p pos : Pos} (hg : Gl X "range") (hm : X.mg "range" = none) (ha : PA X [a,b] ta) (hs : starEach [a,b] X.env = [(false,eval a X.env),(false,eval b X.env)]:=by rfl) (hs2 : starEach [b] X.env = [(false,eval b X.env)]:=by rfl) :
  PI X tg (.Call (.Name "range" p) [a,b] [] pos) (ze3 ta):=by
 intro pins s σ H R I h
 refine Call_ (Zj I hg hm boot_range (PyProof.Rows.callWith_type1 (thn (ha pos pins s σ H _ I h) fun us s1 ⟨vs,H1,I1,r1,q1⟩=>?_) (by rw [hs,hs2]) (by rw [hs2]; rfl)))
 obtain ⟨i,j,e,⟨q1,q2,q3,q4⟩,q⟩:=q1
 subst e
 cases r1 with
 | cons r rr =>
  cases rr with
  | cons r' rr =>
   cases rr
   obtain ⟨t,rfl⟩:=r
   obtain ⟨t',rfl⟩:=r'
   exact call_range_2 (J1 I1 q1 q2 q3 q4 q)
def zfo (wi : TI) (g : TG) (tb : TS) : TS:=fun D σ H=>wi σ H fun J H1=>∃ W : Nat->Nat->St->Hp->Prop,(∃ m,W 0 m σ H1)∧∀ i m σ H,W i m σ H ->
 (J.stop i H∧D.nx σ H)∨(J.go i H∧∃ N : St->Hp->Prop,(∀ σ' H',N σ' H'->∃ m',m' < m∧W (i + 1) m' σ' H')∧∀ x H',J.yld i H x H'->g x σ H' fun σ2 H2=>tb { D with nx:=N,ct:=N,bk:=D.nx } σ2 H2)
def Yv (fp : List Addr) (h : Heap) : List (Addr × Obj):=fp.filterMap fun b=>(h.get? b).map fun o=>(b,o)
theorem Zy {fp : List Addr} {h : Heap} {b : Addr} {o : Obj} (hb : b ∈ fp) (e : h.get? b = some o) : (b,o) ∈ Yv fp h:=List.mem_filterMap.mpr ⟨b,hb,by rw [e]; rfl⟩
theorem zbL {fp : List Addr} {h : Heap} {p : Addr × Obj} (hp : p ∈ Yv fp h) : p.1 ∈ fp∧h.get? p.1 = some p.2:=by
 obtain ⟨b,hb,e⟩:=List.mem_filterMap.mp hp
 cases q : h.get? b with
 | none=>rw [q] at e; cases e
 | some o =>
  rw [q] at e
  have e' : (b,o) = p:=Option.some.inj e
  subst e'
  exact ⟨hb,q⟩
theorem Inv.pinned {pins : List (Addr × Obj)} {σ : St} {H : Hp} {s : Shared} {fp : List Addr} (I : Inv X pins σ H s) (hf : ∀ b ∈ fp,Wg X pins H b) (ho : ∀ b ∈ fp,∃ o,s.heap.get? b = some o∧∀ v,o.data ≠ .cell v) : Inv X (pins ++ Yv fp s.heap) σ H s :=
 I.pins_of fun p hp=>(List.mem_append.mp hp).elim (fun z=>I.pin p (List.mem_append_right _ z)) fun z=>by
  obtain ⟨hb,e⟩:=zbL z
  obtain ⟨f0,f1,f2,_⟩:=hf p.1 hb
  obtain ⟨o,e',d⟩:=ho p.1 hb
  rw [e] at e'; cases e'
  exact ⟨e,f0,f1,f2,d⟩
theorem Inv.unpinned {pins pl : List (Addr × Obj)} {σ : St} {H : Hp} {s : Shared} (I : Inv X (pins ++ pl) σ H s) : Inv X pins σ H s:=I.pins_of fun p hp=>I.pin p (List.mem_append_right _ (List.mem_append_left _ hp))
theorem xM {iter : Expr} {body : List Stmt} {wi : TI} {g : TG} {tb : TS} {pos : Pos} (hp : PassesOwn (model X.prog X.w) X.A X.env X.xe) (hc : X.calm = true) (hi : PI X tg iter wi) (hg : PG X tg g) (hb : PSs X body tb)
  (hs : ∀ x,foldedSetIterable iter X.env x = pure x:=by intro _; rfl) : PS X (.For tg iter body [] pos) (zfo wi g tb):=by
 intro pins s σ H D I h
 refine wpAny_For (thn (hi pins s σ H _ I h) fun v s1 h1=>thn h1 fun itv s2 h2=>?_) hs
 obtain ⟨it,fp,tn,J,H2,e,I2,T,st2,f2,W,⟨m0,w0⟩,turn⟩:=h2
 subst e
 have stat : ∀ {H' : Hp},(∀ b ∈ fp,H' b = none)->∀ b ∈ fp,Wg X pins H' b:=fun hn b hb=>⟨hn b hb,(f2 b hb).2⟩
 refine codeAny_forLoop_any (fun n s'=>∃ i σ' H',Inv X pins σ' H' s'∧tn i s'.heap∧(∀ b ∈ fp,H' b = none)∧W i n σ' H') ?_ m0 ⟨0,σ,H2,I2,st2,fun b hb=>(f2 b hb).1,w0⟩
 rintro n s3 ⟨i,σ3,H3,I3,st3,fr3,w3⟩
 rcases turn i n σ3 H3 w3 with ⟨stop,qn⟩ | ⟨go,N,hN,step⟩
 ·refine wpAny_passesOwn hp (thn (T.done X rfl rfl rfl hc i pins s3 σ3 H3 X.xe I3 (stat fr3) st3 stop) fun r s4 ⟨hr,I4⟩=>?_)
  subst hr
  exact wpAny_execs_nil ⟨σ3,H3,I4,qn⟩
 ·refine wpAny_passesOwn hp (thn (T.item X rfl rfl rfl hc i pins s3 σ3 H3 X.xe I3 (stat fr3) st3 go) fun r s4 ⟨u,hr,h4⟩=>?_)
  subst hr
  refine wpAny_passesOwn hp (thn h4 fun _ s5 ⟨x,H5,I5,r5,y5,st5,fr5⟩=>?_)
  have I5':=I5.pinned (stat fr5) (T.obj _ _ st5)
  refine wpAny_passesOwn hp (thn (hg _ s5 σ3 H5 x u _ I5' r5 (step x H5 y5)) fun _ s6 ⟨σ6,H6,I6,q6⟩=>?_)
  refine wpAny_passesOwn hp (thn (hb _ s6 σ6 H6 _ I6 q6) fun f s7 q7=>?_)
  have again : ∀ {σ7 : St} {H7 : Hp},Inv X (pins ++ Yv fp s5.heap) σ7 H7 s7->N σ7 H7->∃ m,m < n∧∃ i σ' H',Inv X pins σ' H' s7∧tn i s7.heap∧(∀ b ∈ fp,H' b = none)∧W i m σ' H':=fun {σ7 H7} I7 n7=>by
   obtain ⟨m',hm,w7⟩:=hN σ7 H7 n7
   refine ⟨m',hm,i + 1,σ7,H7,I7.unpinned,T.keep _ _ _ st5 fun b hb o e=>(I7.pin (b,o) (List.mem_append_right _ (List.mem_append_right _ (Zy hb e)))).1,fun b hb=>?_,w7⟩
   obtain ⟨o,e,d⟩:=T.obj _ _ st5 b hb
   exact (I7.pin (b,o) (List.mem_append_right _ (List.mem_append_right _ (Zy hb e)))).2.1
  cases f with
  | next=>obtain ⟨σ7,H7,I7,n7⟩:=q7; exact again I7 n7
  | cont=>obtain ⟨σ7,H7,I7,n7⟩:=q7; exact again I7 n7
  | brk=>obtain ⟨σ7,H7,I7,q7⟩:=q7; exact ⟨σ7,H7,I7.unpinned,q7⟩
  | ret v=>obtain ⟨x7,σ7,H7,I7,r7,q7⟩:=q7; exact ⟨x7,σ7,H7,I7.unpinned,r7,q7⟩
end
theorem X3 {K : PySem.W.Frag} {a : Addr} {xs : List V} {g : TG} {tb : TS} {D : Ends} {σ : St} {H : Hp} (Pv : Nat->St->Hp->Prop) (h0 : Pv 0 σ H) (hl : ∀ i σ H,i≤xs.length->Pv i σ H->SqL K H a xs)
  (hs : ∀ i x σ H,xs[i]? = some x->Pv i σ H->g x σ H fun σ2 H2=>tb { D with nx:=Pv (i + 1),ct:=Pv (i + 1),bk:=D.nx } σ2 H2) (hd : ∀ σ H,Pv xs.length σ H->D.nx σ H) :
  ∃ W : Nat->Nat->St->Hp->Prop,(∃ m,W 0 m σ H)∧∀ i m σ H,W i m σ H ->
   ((Itl K a).stop i H∧D.nx σ H)∨((Itl K a).go i H∧∃ N : St->Hp->Prop,(∀ σ' H',N σ' H'->∃ m',m' < m∧W (i + 1) m' σ' H')∧∀ x H',(Itl K a).yld i H x H'->g x σ H' fun σ2 H2=>tb { D with nx:=N,ct:=N,bk:=D.nx } σ2 H2):=by
 refine ⟨fun i m σ H=>m = xs.length - i∧i≤xs.length∧Pv i σ H,⟨xs.length,by simp,Nat.zero_le _,h0⟩,?_⟩
 rintro i m σ H ⟨rfl,hi,p⟩
 have q:=hl i σ H hi p
 by_cases hlt : i < xs.length
 ·refine .inr ⟨⟨xs,xs[i],q,by simp [hlt]⟩,Pv (i + 1),fun σ' H' p'=>⟨xs.length - (i + 1),by omega,rfl,hlt,p'⟩,fun x H' y=>?_⟩
  obtain ⟨e,y⟩:=y
  subst e
  exact hs i x σ _ (y xs q) p
 ·have e : i = xs.length:=by omega
  subst e
  exact .inl ⟨⟨xs,q,Nat.le_refl _⟩,hd σ H p⟩
theorem yD {lo : Int} {n : Nat} {g : TG} {tb : TS} {D : Ends} {σ : St} {H : Hp} (Pv : Nat->St->Hp->Prop) (h0 : Pv 0 σ H)
  (hs : ∀ i σ H,i < n->Pv i σ H->g (.int (lo + i)) σ H fun σ2 H2=>tb { D with nx:=Pv (i + 1),ct:=Pv (i + 1),bk:=D.nx } σ2 H2) (hd : ∀ σ H,Pv n σ H->D.nx σ H) :
  ∃ W : Nat->Nat->St->Hp->Prop,(∃ m,W 0 m σ H)∧∀ i m σ H,W i m σ H ->
   ((Itr lo n).stop i H∧D.nx σ H)∨((Itr lo n).go i H∧∃ N : St->Hp->Prop,(∀ σ' H',N σ' H'->∃ m',m' < m∧W (i + 1) m' σ' H')∧∀ x H',(Itr lo n).yld i H x H'->g x σ H' fun σ2 H2=>tb { D with nx:=N,ct:=N,bk:=D.nx } σ2 H2):=by
 refine ⟨fun i m σ H=>m = n - i∧i≤n∧Pv i σ H,⟨n,by simp,Nat.zero_le _,h0⟩,?_⟩
 rintro i m σ H ⟨rfl,hi,p⟩
 by_cases hlt : i < n
 ·refine .inr ⟨hlt,Pv (i + 1),fun σ' H' p'=>⟨n - (i + 1),by omega,rfl,hlt,p'⟩,fun x H' y=>?_⟩
  obtain ⟨e,y⟩:=y
  subst e y
  exact hs i σ _ hlt p
 ·have e : i = n:=by omega
  subst e
  exact .inl ⟨Nat.le_refl _,hd σ H p⟩
theorem Wk {c : TT} {tb : TS} {D : Ends} {σ : St} {H : Hp} (Pv : St->Hp->Prop) (μ : St->Hp->Nat) (h0 : Pv σ H)
  (hs : ∀ σ H,Pv σ H->c σ H fun b H1=>if b = true then tb { D with nx:=fun σ' H'=>Pv σ' H'∧μ σ' H' < μ σ H,ct:=fun σ' H'=>Pv σ' H'∧μ σ' H' < μ σ H,bk:=D.nx } σ H1 else D.nx σ H1)
  (mono : ∀ σ H Q Q',(∀ b H1,Q b H1->Q' b H1)->c σ H Q->c σ H Q') : zaY c tb D σ H:=by
 refine ⟨fun m σ H=>m = μ σ H∧Pv σ H,⟨_,rfl,h0⟩,?_⟩
 rintro m σ H ⟨rfl,p⟩
 refine mono σ H _ _ (fun b H1 q=>?_) (hs σ H p)
 cases b with
 | true=>exact ⟨_,fun σ' H' ⟨p',l⟩=>⟨_,l,rfl,p'⟩,q⟩
 | false=>exact q
abbrev R2:=V->V->Hp->VK->Prop
def OpR (X : Cx) (f : Value->Value->Sem Value) (r : R2) : Prop :=
 ∀ (pins : List (Addr × Obj)) (s : Shared) (σ : St) (H : Hp) (x y : V) (v u : Value) (Q : VK),Inv X pins σ H s->RelV x v->RelV y u->r x y H Q ->
  wpAny (model X.prog X.w) X.A (f v u) (EP X pins σ Q) X.xe s
def UnR (X : Cx) (f : Value->Sem Value) (r : V->Hp->VK->Prop) : Prop :=
 ∀ (pins : List (Addr × Obj)) (s : Shared) (σ : St) (H : Hp) (x : V) (v : Value) (Q : VK),Inv X pins σ H s->RelV x v->r x H Q ->
  wpAny (model X.prog X.w) X.A (f v) (EP X pins σ Q) X.xe s
def vo (X : Cx) (f : Value) (r : List V->Hp->VK->Prop) : Prop :=
 ∀ (pins : List (Addr × Obj)) (s : Shared) (σ : St) (H : Hp) (xs : List V) (us : List Value) (Q : VK),Inv X pins σ H s->Vals xs us->r xs H Q ->
  wpAny (model X.prog X.w) X.A (call f us) (EP X pins σ Q) X.xe s
def tOp (r : R2) (ta tb : TE) : TE:=fun σ H Q=>ta σ H fun x H1=>tb σ H1 fun y H2=>r x y H2 Q
def tUn (r : V->Hp->VK->Prop) (ta : TE) : TE:=fun σ H Q=>ta σ H fun x H1=>r x H1 Q
def rI (C : Int->Int->Prop) (g : Int->Int->V) : R2:=fun x y H Q=>∃ i j,x = .int i∧y = .int j∧C i j∧Q (g i j) H
def rI0 (g : Int->Int->V) : R2:=fun x y H Q=>∃ i j,x = .int i∧y = .int j∧Q (g i j) H
def rU (g : Int->V) : V->Hp->VK->Prop:=fun x H Q=>∃ i,x = .int i∧Q (g i) H
section
variable {X : Cx} {a b c : Expr} {ta tb tc : TE} {pos : Pos}
theorem zeC (ha : PE X a ta) (hb : PE X b tb) {pins : List (Addr × Obj)} {s : Shared} {σ : St} {H : Hp} {R : V->V->Hp->Prop} (I : Inv X pins σ H s)
  (h : ta σ H fun x H1=>tb σ H1 fun y H2=>R x y H2) {Q : Value->Shared->Prop} {f : Value->Value->Sem Value}
  (hf : ∀ v u s2 x y H2,Inv X pins σ H2 s2->RelV x v->RelV y u->R x y H2->wpAny (model X.prog X.w) X.A (f v u) Q X.xe s2) :
  wpAny (model X.prog X.w) X.A (eval a X.env) (fun v s₁=>wpAny (model X.prog X.w) X.A (eval b X.env) (fun u s₂=>wpAny (model X.prog X.w) X.A (f v u) Q X.xe s₂) X.xe s₁) X.xe s:=by
 refine thn (ha pins s σ H _ I h) fun v s1 ⟨x,H1,I1,r1,q1⟩=>?_
 refine thn (hb pins s1 σ H1 _ I1 q1) fun u s2 ⟨y,H2,I2,r2,q2⟩=>?_
 exact hf v u s2 x y H2 I2 r1 r2 q2
theorem zM {op : Operator} {r : R2} (ho : OpR X (binaryOp op) r) (ha : PE X a ta) (hb : PE X b tb) : PE X (.BinOp a op b pos) (tOp r ta tb):=by
 intro pins s σ H Q I h
 exact wpAny_BinOp (zeC ha hb I h fun v u s2 x y H2 I2 rx ry q=>ho pins s2 σ H2 x y v u Q I2 rx ry q)
theorem zbn {op : UnaryOp} {r : V->Hp->VK->Prop} (ho : UnR X (unaryOp op) r) (ha : PE X a ta) : PE X (.UnaryOp op a pos) (tUn r ta):=by
 intro pins s σ H Q I h
 exact UnaryOp_ (thn (ha pins s σ H _ I h) fun v s1 ⟨x,H1,I1,r1,q1⟩=>ho pins s1 σ H1 x v Q I1 r1 q1)
theorem opI {f : Value->Value->Sem Value} {C : Int->Int->Prop} {g : Int->Int->Int}
  (rule : ∀ (i j : Int) (t u : Tok) (s : Shared) (Q : Value->Shared->Prop) (E : Value->Shared->Prop),C i j->Q (.int (g i j) s.toks) { s with toks:=s.toks + 1 }->wpAny (model X.prog X.w) X.A (f (.int i t) (.int j u)) Q E s) :
  OpR X f (rI C fun i j=>.int (g i j)):=by
 intro pins s σ H x y v u Q I rx ry h
 obtain ⟨i,j,rfl,rfl,hc,q⟩:=h
 obtain ⟨t,rfl⟩:=rx
 obtain ⟨t',rfl⟩:=ry
 exact rule i j t t' s _ _ hc ⟨.int (g i j),H,I.tok _,⟨_,rfl⟩,q⟩
theorem zeU {f : Value->Value->Sem Value} {g : Int->Int->Int}
  (rule : ∀ (i j : Int) (t u : Tok) (s : Shared) (Q : Value->Shared->Prop) (E : Value->Shared->Prop),Q (.int (g i j) s.toks) { s with toks:=s.toks + 1 }->wpAny (model X.prog X.w) X.A (f (.int i t) (.int j u)) Q E s) :
  OpR X f (rI0 fun i j=>.int (g i j)):=by
 intro pins s σ H x y v u Q I rx ry h
 obtain ⟨i,j,rfl,rfl,q⟩:=h
 obtain ⟨t,rfl⟩:=rx
 obtain ⟨t',rfl⟩:=ry
 exact rule i j t t' s _ _ ⟨.int (g i j),H,I.tok _,⟨_,rfl⟩,q⟩
theorem zdd {f : Value->Value->Sem Value} {g : Int->Int->Bool}
  (rule : ∀ (i j : Int) (t u : Tok) (s : Shared) (Q : Value->Shared->Prop) (E : Value->Shared->Prop),Q (.bool (g i j)) s->wpAny (model X.prog X.w) X.A (f (.int i t) (.int j u)) Q E s) :
  OpR X f (rI0 fun i j=>.bl (g i j)):=by
 intro pins s σ H x y v u Q I rx ry h
 obtain ⟨i,j,rfl,rfl,q⟩:=h
 obtain ⟨t,rfl⟩:=rx
 obtain ⟨t',rfl⟩:=ry
 exact rule i j t t' s _ _ ⟨.bl (g i j),H,I,rfl,q⟩
def zfJ (i j : Int) : Prop:=0≤j∧j≤1000000∧i.natAbs < 2 ^ 64
def CMul (i j : Int) : Prop:=(-(2 ^ 64) < i∧i < 2 ^ 64)∨(-(2 ^ 64) < j∧j < 2 ^ 64)
theorem CMul.ok {i j : Int} (h : CMul i j) : IntMulOk i j:=by
 rcases h with ⟨h1,h2⟩ | ⟨h1,h2⟩
 ·exact .of_left (intBits_le_64 h1 h2)
 ·exact .of_right (intBits_le_64 h1 h2)
theorem yu : OpR X (binaryOp .Add) (rI0 fun i j=>.int (i + j)):=zeU fun _ _ _ _ _ _ _ q=>add_int q
theorem qU : OpR X (binaryOp .Sub) (rI0 fun i j=>.int (i - j)):=zeU fun _ _ _ _ _ _ _ q=>sub_int q
theorem uB : OpR X (binaryOp .Mult) (rI CMul fun i j=>.int (i * j)):=opI fun _ _ _ _ _ _ _ hc q=>mul_int q hc.ok
theorem Yh : OpR X (binaryOp .Mod) (rI (fun _ j=>0 < j) fun i j=>.int (i % j)):=opI fun i j _ _ _ _ _ hc q=>by
 have h1 : (0 : Int) < j:=hc
 exact mod_int' (by omega) (by rw [Int.fmod_eq_emod_of_nonneg i (by omega)]; exact q)
theorem zed : OpR X (binaryOp .Pow) (rI zfJ fun i j=>.int (i ^ j.toNat)):=opI fun _ _ _ _ _ _ _ hc q=>pow_int_small hc.1 hc.2.1 hc.2.2 q
theorem unI {f : Value->Sem Value} {g : Int->Int}
  (rule : ∀ (i : Int) (t : Tok) (s : Shared) (Q : Value->Shared->Prop) (E : Value->Shared->Prop),Q (.int (g i) s.toks) { s with toks:=s.toks + 1 }->wpAny (model X.prog X.w) X.A (f (.int i t)) Q E s) :
  UnR X f (rU fun i=>.int (g i)):=by
 intro pins s σ H x v Q I rx h
 obtain ⟨i,rfl,q⟩:=h
 obtain ⟨t,rfl⟩:=rx
 exact rule i t s _ _ ⟨.int (g i),H,I.tok _,⟨_,rfl⟩,q⟩
theorem Jw : UnR X (unaryOp .USub) (rU fun i=>.int (-i)):=unI fun _ _ _ _ _ q=>neg_int q
end
def zff : V->V->Bool
 | .non,.non=>true | .non,.int _=>true | .int _,.non=>true | .non,.bl _=>true | .bl _,.non=>true | .non,.str _=>true | .str _,.non=>true
 | .int _,.int _=>true | .bl _,.bl _=>true | .str _,.str _=>true | .byt _,.byt _=>true
 | .int _,.str _=>true | .str _,.int _=>true | .bl _,.str _=>true | .str _,.bl _=>true
 | _,_=>false
def rEq : R2:=fun x y H Q=>zff x y = true∧Q (.bl (decide (x = y))) H
def rNe : R2:=fun x y H Q=>zff x y = true∧Q (.bl (!decide (x = y))) H
theorem zbm {i j : Int} : decide (V.int i = V.int j) = (i == j):=by
 rw [Bool.eq_iff_iff]
 simp
theorem zc1 {i j : Bool} : decide (V.bl i = V.bl j) = (i == j):=by
 rw [Bool.eq_iff_iff]
 simp
theorem zbi {i j : Str} : decide (V.str i = V.str j) = (i == j):=by
 rw [Bool.eq_iff_iff]
 simp
theorem zbk {i j : Array UInt8} : decide (V.byt i = V.byt j) = (i.toList == j.toList):=by
 rw [Bool.eq_iff_iff]
 cases i
 cases j
 simp
section
variable {X : Cx} {a b c : Expr} {ta tb tc : TE} {pos : Pos}
theorem yq {pins : List (Addr × Obj)} {σ : St} {H : Hp} {s : Shared} {Q : VK} {k k' : Bool} (I : Inv X pins σ H s) (q : Q (.bl k) H) (e : k = k') : EP X pins σ Q (.bool k') s:=by
 subst e
 exact ⟨.bl k,H,I,rfl,q⟩
theorem YQ : OpR X (compareOp .Eq) rEq:=by
 intro pins s σ H x y v u Q I rx ry h
 obtain ⟨hs,q⟩:=h
 cases x with
 | non =>
  cases rx
  cases y with
  | non=>cases ry; exact PySem.EqNone.eq_none_none (yq I q (by simp))
  | bl j=>cases ry; exact PySem.EqNone.eq_none_bool (yq I q (by simp))
  | int j=>obtain ⟨t',rfl⟩:=ry; exact PySem.EqNone.eq_none_int (yq I q (by simp))
  | str j=>obtain ⟨t',rfl⟩:=ry; exact PySem.EqNone.eq_none_str (yq I q (by simp))
  | _=>exact absurd (show false = true from hs) Bool.false_ne_true
 | bl i =>
  cases rx
  cases y with
  | non=>cases ry; exact PySem.EqNone.eq_bool_none (yq I q (by simp))
  | bl j=>cases ry; exact eq_bool (yq I q zc1)
  | str j=>obtain ⟨t',rfl⟩:=ry; exact PySem.EqMixed.eq_bool_str (yq I q (by simp))
  | _=>exact absurd (show false = true from hs) Bool.false_ne_true
 | int i =>
  obtain ⟨t,rfl⟩:=rx
  cases y with
  | non=>cases ry; exact PySem.EqNone.eq_int_none (yq I q (by simp))
  | int j=>obtain ⟨t',rfl⟩:=ry; exact eq_int (yq I q zbm)
  | str j=>obtain ⟨t',rfl⟩:=ry; exact PySem.EqMixed.eq_int_str (yq I q (by simp))
  | _=>exact absurd (show false = true from hs) Bool.false_ne_true
 | str i =>
  obtain ⟨t,rfl⟩:=rx
  cases y with
  | non=>cases ry; exact PySem.EqNone.eq_str_none (yq I q (by simp))
  | bl j=>cases ry; exact PySem.EqMixed.eq_str_bool (yq I q (by simp))
  | int j=>obtain ⟨t',rfl⟩:=ry; exact PySem.EqMixed.eq_str_int (yq I q (by simp))
  | str j=>obtain ⟨t',rfl⟩:=ry; exact eq_str (yq I q zbi)
  | _=>exact absurd (show false = true from hs) Bool.false_ne_true
 | byt i =>
  obtain ⟨t,rfl⟩:=rx
  cases y with
  | byt j=>obtain ⟨t',rfl⟩:=ry; exact PySem.W.eq_bytes (yq I q zbk)
  | _=>exact absurd (show false = true from hs) Bool.false_ne_true
 | _=>cases y <;> exact absurd (show false = true from hs) Bool.false_ne_true
theorem zfm : OpR X (compareOp .NotEq) rNe:=by
 intro pins s σ H x y v u Q I rx ry h
 obtain ⟨hs,q⟩:=h
 cases x with
 | non =>
  cases rx
  cases y with
  | non=>cases ry; exact PySem.EqNone.ne_none_none (yq I q (by simp))
  | bl j=>cases ry; exact PySem.EqNone.ne_none_bool (yq I q (by simp))
  | int j=>obtain ⟨t',rfl⟩:=ry; exact PySem.EqNone.ne_none_int (yq I q (by simp))
  | str j=>obtain ⟨t',rfl⟩:=ry; exact PySem.EqNone.ne_none_str (yq I q (by simp))
  | _=>exact absurd (show false = true from hs) Bool.false_ne_true
 | bl i =>
  cases rx
  cases y with
  | non=>cases ry; exact PySem.EqNone.ne_bool_none (yq I q (by simp))
  | bl j=>cases ry; exact ne_bool (yq I q (congrArg not zc1))
  | str j=>obtain ⟨t',rfl⟩:=ry; exact PySem.EqMixed.ne_bool_str (yq I q (by simp))
  | _=>exact absurd (show false = true from hs) Bool.false_ne_true
 | int i =>
  obtain ⟨t,rfl⟩:=rx
  cases y with
  | non=>cases ry; exact PySem.EqNone.ne_int_none (yq I q (by simp))
  | int j=>obtain ⟨t',rfl⟩:=ry; exact ne_int (yq I q (congrArg not zbm))
  | str j=>obtain ⟨t',rfl⟩:=ry; exact PySem.EqMixed.ne_int_str (yq I q (by simp))
  | _=>exact absurd (show false = true from hs) Bool.false_ne_true
 | str i =>
  obtain ⟨t,rfl⟩:=rx
  cases y with
  | non=>cases ry; exact PySem.EqNone.ne_str_none (yq I q (by simp))
  | bl j=>cases ry; exact PySem.EqMixed.ne_str_bool (yq I q (by simp))
  | int j=>obtain ⟨t',rfl⟩:=ry; exact PySem.EqMixed.ne_str_int (yq I q (by simp))
  | str j=>obtain ⟨t',rfl⟩:=ry; exact ne_str (yq I q (congrArg not zbi))
  | _=>exact absurd (show false = true from hs) Bool.false_ne_true
 | byt i =>
  obtain ⟨t,rfl⟩:=rx
  cases y with
  | byt j=>obtain ⟨t',rfl⟩:=ry; exact PySem.W.ne_bytes (yq I q (congrArg not zbk))
  | _=>exact absurd (show false = true from hs) Bool.false_ne_true
 | _=>cases y <;> exact absurd (show false = true from hs) Bool.false_ne_true
theorem zdV : OpR X (compareOp .Lt) (rI0 fun i j=>.bl (decide (i < j))):=zdd fun _ _ _ _ _ _ _ q=>lt_int q
theorem YZ : OpR X (compareOp .LtE) (rI0 fun i j=>.bl (decide (i≤j))):=zdd fun _ _ _ _ _ _ _ q=>le_int q
theorem zae : OpR X (compareOp .Gt) (rI0 fun i j=>.bl (decide (j < i))):=zdd fun _ _ _ _ _ _ _ q=>gt_int q
theorem zdS : OpR X (compareOp .GtE) (rI0 fun i j=>.bl (decide (j≤i))):=zdd fun _ _ _ _ _ _ _ q=>ge_int q
theorem zei : OpR X (compareOp .Is) (fun x y H Q=>y = .non∧Q (.bl (decide (x = .non))) H):=by
 intro pins s σ H x y v u Q I rx ry h
 obtain ⟨rfl,q⟩:=h
 cases ry
 refine is_none_gen (yq I q ?_)
 cases x <;> first
  | (cases rx; rfl)
  | (obtain ⟨t,rfl⟩:=rx; rfl)
theorem Js : OpR X (compareOp .IsNot) (fun x y H Q=>y = .non∧Q (.bl (!decide (x = .non))) H):=by
 intro pins s σ H x y v u Q I rx ry h
 obtain ⟨rfl,q⟩:=h
 cases ry
 refine isnot_none_gen (yq I q ?_)
 cases x <;> first
  | (cases rx; rfl)
  | (obtain ⟨t,rfl⟩:=rx; rfl)
theorem ye (b : Expr) {op : CmpOp} (h : op ≠ .In:=by decide) (h2 : op ≠ .NotIn:=by decide) : behindInMarks op b = false:=by
 have e1 : (op == CmpOp.In) = false:=by cases op <;> first | rfl | exact absurd rfl h
 have e2 : (op == CmpOp.NotIn) = false:=by cases op <;> first | rfl | exact absurd rfl h2
 cases b <;> simp [behindInMarks,e1,e2]
theorem uI {op : CmpOp} {r : R2} (ho : OpR X (compareOp op) r) (ha : PE X a ta) (hb : PE X b tb) (hm : behindInMarks op b = false) : PE X (.Compare a [op] [b] pos) (tOp r ta tb):=by
 intro pins s σ H Q I h
 exact wpAny_Compare1 (zeC ha hb I h fun v u s2 x y H2 I2 rx ry q=>ho pins s2 σ H2 x y v u Q I2 rx ry q) hm
def zdN (t : TE) : TT:=fun σ H Q=>t σ H fun x H'=>∃ k,x = .bl k∧Q k H'
theorem yd {op : CmpOp} {r : R2} (ho : OpR X (compareOp op) r) (ha : PE X a ta) (hb : PE X b tb) (hm : behindInMarks op b = false) : PT X (.Compare a [op] [b] pos) (zdN (tOp r ta tb)):=by
 intro pins s σ H Q I h
 refine wpAny_isTrue_Compare1 (thn (ha pins s σ H _ I h) fun v s1 ⟨x,H1,I1,r1,q1⟩=>thn (hb pins s1 σ H1 _ I1 q1) fun u s2 ⟨y,H2,I2,r2,q2⟩ =>
  thn (ho pins s2 σ H2 x y v u _ I2 r1 r2 q2) fun c s3 ⟨z,H3,I3,r3,k,e,q3⟩=>?_) hm
 subst e
 cases r3
 exact wpAny_truthy_bool ⟨H3,I3,q3⟩
def zcS (r r' : R2) (ta tb tc : TE) : TE:=fun σ H Q=>ta σ H fun x H1=>tb σ H1 fun y H2=>r x y H2 fun z H3=>∃ k,z = .bl k ∧
 (if k = true then tc σ H3 fun w' H4=>r' y w' H4 Q else Q (.bl false) H3)
theorem VG {op op' : CmpOp} {r r' : R2} (ho : OpR X (compareOp op) r) (ho' : OpR X (compareOp op') r') (ha : PE X a ta) (hb : PE X b tb) (hc : PE X c tc)
  (hm : lastMarks [op,op'] [b,c] = false:=by with_unfolding_all rfl) : PE X (.Compare a [op,op'] [b,c] pos) (zcS r r' ta tb tc):=by
 intro pins s σ H Q I h
 refine Compare_chain (thn (ha pins s σ H _ I h) fun v s1 ⟨x,H1,I1,r1,q1⟩=>chain_link (thn (hb pins s1 σ H1 _ I1 q1) fun u s2 ⟨y,H2,I2,r2,q2⟩ =>
  thn (ho pins s2 σ H2 x y v u _ I2 r1 r2 q2) fun d s3 ⟨z,H3,I3,r3,k,e,q3⟩=>?_)) hm
 subst e
 cases r3
 refine wpAny_truthy_bool ?_
 cases k with
 | false=>exact ite_ff ⟨.bl false,H3,I3,rfl,q3⟩
 | true=>exact ite_tt (chain_last (thn (hc pins s3 σ H3 _ I3 q3) fun w' s4 ⟨z',H4,I4,r4,q4⟩=>ho' pins s4 σ H4 y z' u w' Q I4 r2 r4 q4))
theorem zcD {op op' : CmpOp} {r r' : R2} (ho : OpR X (compareOp op) r) (ho' : OpR X (compareOp op') r') (ha : PE X a ta) (hb : PE X b tb) (hc : PE X c tc)
  (hm : lastMarks [op,op'] [b,c] = false:=by with_unfolding_all rfl) : PT X (.Compare a [op,op'] [b,c] pos) (zdN (zcS r r' ta tb tc)):=by
 intro pins s σ H Q I h
 refine isTrue_chain (thn (ha pins s σ H _ I h) fun v s1 ⟨x,H1,I1,r1,q1⟩=>test_link (thn (hb pins s1 σ H1 _ I1 q1) fun u s2 ⟨y,H2,I2,r2,q2⟩ =>
  thn (ho pins s2 σ H2 x y v u _ I2 r1 r2 q2) fun d s3 ⟨z,H3,I3,r3,k,e,q3⟩=>?_)) hm
 subst e
 cases r3
 refine wpAny_truthy_bool ?_
 cases k with
 | false =>
  obtain ⟨k',e',q'⟩:=q3
  cases e'
  exact ite_ff ⟨H3,I3,q'⟩
 | true =>
  refine ite_tt (test_last (thn (hc pins s3 σ H3 _ I3 q3) fun w' s4 ⟨z',H4,I4,r4,q4⟩=>thn (ho' pins s4 σ H4 y z' u w' _ I4 r2 r4 q4) fun d' s5 ⟨z2,H5,I5,r5,k2,e2,q5⟩=>?_))
  subst e2
  cases r5
  exact wpAny_truthy_bool ⟨H5,I5,q5⟩
theorem Jz : (sizeLine : Nat) < 2 ^ 63:=by rw [sizeLine_eq]; decide
theorem vals1 {x : V} {us : List Value} (r : Vals [x] us) : ∃ u,us = [u]∧RelV x u:=by
 cases r with
 | cons r1 r2=>cases r2; exact ⟨_,rfl,r1⟩
theorem vals2 {x y : V} {us : List Value} (r : Vals [x,y] us) : ∃ u w',us = [u,w']∧RelV x u∧RelV y w':=by
 cases r with
 | cons r1 r2 =>
  cases r2 with
  | cons r3 r4=>cases r4; exact ⟨_,_,rfl,r1,r3⟩
theorem zb3 (hc : X.calm = true) : vo X (.builtin "max") (fun xs H Q=>∃ i j,xs = [.int i,.int j]∧Q (.int (if j > i then j else i)) H):=by
 intro pins s σ H xs us Q I r h
 obtain ⟨i,j,rfl,q⟩:=h
 obtain ⟨u,w',rfl,⟨t,rfl⟩,⟨t',rfl⟩⟩:=vals2 r
 refine max_two_ints (I.ok.hd hc) fun h' tk k=>⟨_,H,I.kept k,?_,q⟩
 by_cases hj : j > i
 ·rw [if_pos hj,if_pos hj]; exact ⟨_,rfl⟩
 ·rw [if_neg hj,if_neg hj]; exact ⟨_,rfl⟩
theorem Wo (hc : X.calm = true) : vo X (.builtin "min") (fun xs H Q=>∃ i j,xs = [.int i,.int j]∧Q (.int (if j < i then j else i)) H):=by
 intro pins s σ H xs us Q I r h
 obtain ⟨i,j,rfl,q⟩:=h
 obtain ⟨u,w',rfl,⟨t,rfl⟩,⟨t',rfl⟩⟩:=vals2 r
 refine min_two_ints (I.ok.hd hc) fun h' tk k=>⟨_,H,I.kept k,?_,q⟩
 by_cases hj : j < i
 ·rw [if_pos hj,if_pos hj]; exact ⟨_,rfl⟩
 ·rw [if_neg hj,if_neg hj]; exact ⟨_,rfl⟩
theorem Wq : vo X (.type "int") (fun xs H Q=>(∃ i,xs = [.int i]∧Q (.int i) H)∨∃ k,xs = [.bl k]∧Q (.int (if k then 1 else 0)) H):=by
 intro pins s σ H xs us Q I r h
 rcases h with ⟨i,rfl,q⟩ | ⟨k,rfl,q⟩
 ·obtain ⟨u,rfl,t,rfl⟩:=vals1 r
  exact call_int_int ⟨.int i,H,I,⟨_,rfl⟩,q⟩
 ·obtain ⟨u,rfl,r1⟩:=vals1 r
  cases r1
  exact call_int_bool ⟨.int (if k then 1 else 0),H,I.tok _,⟨_,rfl⟩,q⟩
end
structure ObjM (h : Heap) (x dx C : Addr) (mA : Str->Option Value) : Prop where
 obj : h.get? x = some (PySem.W.instObj C dx)
 ns : h.Ns1 dx mA
 ne : dx ≠ x
theorem zbA {h : Heap} {dx : Addr} {mA : Str->Option Value} (n : h.Ns1 dx mA) : ∃ od,h.get? dx = some od∧∀ name,PySem.W.lookIn name od = some (mA name):=by
 obtain ⟨o,es,ep,ho,hd,hk,_,hm⟩:=n
 refine ⟨o,ho,fun name=>?_⟩
 have e:=hm name
 unfold nsFind findBy at e
 rw [← Array.find?_toList] at e
 unfold PySem.W.lookIn
 rw [hd]
 dsimp only
 split
 ·rename_i y q
  rw [q] at e
  exact congrArg some e
 ·rename_i q
  rw [q] at e
  have a : es.toList.any (·.refKey) = false:=by
   rw [List.any_eq_false]
   intro y hy
   obtain ⟨z,t,hkey⟩:=hk y (Array.mem_toList_iff.mp hy)
   simp [DictEntry.refKey,hkey]
  have a' : ¬ es.toList.any (·.refKey) = true:=by rw [a]; exact Bool.false_ne_true
  rw [if_neg a']
  exact congrArg some e
theorem ObjM.look {h : Heap} {x dx C : Addr} {mA : Str->Option Value} (I : ObjM h x dx C mA) : ∃ od,PySem.W.InstAt h x (PySem.W.instObj C dx) C (some od)∧∀ name,PySem.W.lookIn name od = some (mA name) :=
 let ⟨od,ho,hl⟩:=zbA I.ns
 ⟨od,⟨I.obj,rfl,rfl,ho⟩,hl⟩
section
variable {prog : Program} {w : World} {A : Around} {E : Value->Shared->Prop} {s : Shared} {K : PySem.W.Frag} {x dx C f : Addr} {mA : Str->Option Value} {name : Str} {v : Value}
theorem zdl {expr : Bool} {Q : Value->Shared->Prop} (X : K.In s.heap) (I : ObjM s.heap x dx C mA) (hg : PySem.W.plainGet K C name = true) (hh : PySem.W.hasDictIn K C = true)
  (ha : PySem.W.findIn K (.ref C) name = some none) (hv : mA name = some v) (hv' : PySem.W.handedIn v = true) (h : Q v { s with toks:=s.toks + 1 }) :
  wpAny (model prog w) A (getAttr (.ref x) name expr) Q E s:=by
 obtain ⟨od,J,hl⟩:=I.look
 exact PySem.W.get_value X J (PySem.W.plainGet_of hg).1 (PySem.W.findObj_own hh ha rfl (by rw [hl,hv])) hv' h
theorem zcv {pl : Sem Bool} {Q : Value × List Value->Shared->Prop} (X : K.In s.heap) (I : ObjM s.heap x dx C mA) (hg : PySem.W.plainGet K C name = true)
  (hf : PySem.W.findIn K (.ref C) name = some (some (.ref f))) (ht : PySem.W.isFn K (.ref f) = true) (hv : mA name = none) (h : Q (.ref f,[.ref x]) s) :
  wpAny (model prog w) A (getMethod (.ref x) name pl) Q E s:=by
 obtain ⟨od,J,hl⟩:=I.look
 exact PySem.W.method_fn X J (PySem.W.plainGet_of hg).1 (PySem.W.plainGet_of hg).2 hf (beq_iff_eq.mp ht) (by show (PySem.W.lookIn name od).map (·.isSome) = some false; rw [hl,hv]; rfl) h
theorem zdx {ns : List Str} {Q : Unit->Shared->Prop} (X : K.In s.heap) (I : ObjM s.heap x dx C mA)
  (hs : PySem.W.findIn K (.ref C) "__setattr__" = some (some (.builtin "object.__setattr__"))) (hp : PySem.W.plainOver K C = true) (ht : PySem.W.takerIn K C name = some none) (hh : PySem.W.hasDictIn K C = true)
  (hw : PySem.Within mA ns) (hsz : ns.length≤sizeLine)
  (h : ∀ h',ObjM h' x dx C (fun y=>if y = name then some v else mA y)->Heap.SameBut dx s.heap h'->Q () { s with heap:=h',toks:=s.toks + 2 }) :
  wpAny (model prog w) A (setAttr (.ref x) name v) Q E s:=by
 obtain ⟨od,J,hl⟩:=I.look
 refine PySem.W.set_plain X J hs (PySem.W.osa_open (s:={ s with toks:=s.toks + 1 }) (r:=none) X J hp ht fun b=>?_)
 obtain ⟨cd,hc,hd'⟩:=PySem.W.any_some hh
 have hx : s.heap.get? x = some ⟨.ref C,some dx,.plain,#[]⟩:=I.obj
 refine wpAny_bind (wpAny_pure (wpAny_bind (wpAny_bind (wpAny_loadPart hx (wpAny_bind (PySem.W.Looks.here (s:={ s with toks:=s.toks + 1 }) (PySem.W.looks_clsIn X hc) ?_))))))
 rw [hd']
 refine wpAny_pure (a:=some dx) (wpAny_bind (wpAny_pure (wpAny_bind ?_)))
 refine wpAny_nsSet1 (s:={ s with toks:=s.toks + 1 }) I.ns fun h' hn2 hs2=>?_
 obtain ⟨oD,esD,epD,hoD,hdD,hcD⟩:=hn2.count (PySem.Within.cons name v hw)
 refine wpAny_bind (wpAny_lookBehind hoD (by rw [hdD]; exact pastItsLine_dict (Nat.le_trans hcD (by rw [List.length_cons]; omega))) ?_)
 exact wpAny_pure (h _ ⟨(hs2.2 _ (Ne.symm I.ne)).trans I.obj,hn2,I.ne⟩ hs2)
theorem zcP {R : Result->Shared->Prop} {vs : List Value} {kw : List (Str × Value)} (X : K.In s.heap) (hm : PySem.W.makesIn K C = true)
  (hi : PySem.W.findIn K (.ref C) "__init__" = some (some (.ref f))) (hf : PySem.W.typeIn K (.ref f) = some (.type "function"))
  (h : codeAny (model prog w) (A.under (.builtin "type.__call__" ⟨.ref C :: vs,kw⟩)) (.call (.ref f) ⟨.ref (s.heap.objs.size + 1) :: vs,kw⟩) (PySem.W.InitBack (s.heap.objs.size + 1) R)
   { s with heap:=(s.heap.push PySem.W.emptyDict).push (PySem.W.instObj C s.heap.objs.size) }) :
  codeAny (model prog w) A (.call (.ref C) ⟨vs,kw⟩) R s:=by
 obtain ⟨hh,g,d,t,os⟩:=s
 exact PySem.W.make_core (PySem.W.makes_of X hm) (PySem.W.looks_findIn X hi) (fun self=>PySem.W.bind_fn X self hf) (.inl rfl) h
end
def yh (f : Str) (v : V) : List (Str × V)->List (Str × V)
 | []=>[(f,v)]
 | (g,x) :: r=>if g = f then (g,v) :: r else (g,x) :: yh f v r
theorem zK (f g : Str) (v : V) : ∀ fs : List (Str × V),(yh f v fs).lookup g = if g = f then some v else fs.lookup g
 | []=>by
  show List.lookup g [(f,v)] = _
  by_cases h : g = f
  ·have hb : (g == f) = true:=beq_iff_eq.mpr h
   simp only [List.lookup,hb,if_pos h]
  ·have hb : (g == f) = false:=beq_eq_false_iff_ne.mpr h
   simp only [List.lookup,hb,if_neg h]
 | (k,x) :: r=>by
  have ih:=zK f g v r
  rw [show yh f v ((k,x) :: r) = (if k = f then (k,v) :: r else (k,x) :: yh f v r) from rfl]
  by_cases hk : k = f
  ·rw [if_pos hk]
   by_cases h : g = k
   ·have hb : (g == k) = true:=beq_iff_eq.mpr h
    simp only [List.lookup,hb,if_pos (h.trans hk)]
   ·have hb : (g == k) = false:=beq_eq_false_iff_ne.mpr h
    simp only [List.lookup,hb,if_neg (fun e : g = f=>h (e.trans hk.symm))]
  ·rw [if_neg hk]
   by_cases h : g = k
   ·have hb : (g == k) = true:=beq_iff_eq.mpr h
    simp only [List.lookup,hb,if_neg (fun e : g = f=>hk (h.symm.trans e))]
   ·have hb : (g == k) = false:=beq_eq_false_iff_ne.mpr h
    simp only [List.lookup,hb]
    exact ih
theorem Wm (f : Str) (v : V) : ∀ fs : List (Str × V),f ∈ (yh f v fs).map (·.1)∧∀ g,g ∈ fs.map (·.1)->g ∈ (yh f v fs).map (·.1)
 | []=>⟨by simp [yh],fun g h=>by simp at h⟩
 | (k,x) :: r=>by
  obtain ⟨i1,i2⟩:=Wm f v r
  rw [show yh f v ((k,x) :: r) = (if k = f then (k,v) :: r else (k,x) :: yh f v r) from rfl]
  by_cases hk : k = f
  ·rw [if_pos hk]
   subst hk
   exact ⟨by simp,fun g h=>by simpa using h⟩
  ·rw [if_neg hk]
   refine ⟨?_,fun g h=>?_⟩
   ·rw [List.map_cons]
    exact List.mem_cons_of_mem _ i1
   ·rw [List.map_cons] at h ⊢
    rcases List.mem_cons.mp h with e | e
    ·exact List.mem_cons.mpr (.inl e)
    ·exact List.mem_cons_of_mem _ (i2 g e)
theorem t7 (f : Str) (v : V) : ∀ fs : List (Str × V),(yh f v fs).length≤fs.length + 1
 | []=>by simp [yh]
 | (k,x) :: r=>by
  have ih:=t7 f v r
  rw [show yh f v ((k,x) :: r) = (if k = f then (k,v) :: r else (k,x) :: yh f v r) from rfl]
  by_cases hk : k = f
  ·rw [if_pos hk,List.length_cons,List.length_cons]; omega
  ·rw [if_neg hk,List.length_cons,List.length_cons]; omega
theorem RelO.some_of {v : V} {o : Option Value} (r : RelO (some v) o) : ∃ u,o = some u∧RelV v u:=by
 cases o with
 | none=>exact (show False from r).elim
 | some u=>exact ⟨u,rfl,r⟩
theorem RelO.none_of {o : Option Value} (r : RelO none o) : o = none:=by
 cases o with
 | none=>rfl
 | some u=>exact (show False from r).elim
theorem zbP {v : V} {u : Value} (r : RelV v u) : PySem.W.handedIn u = true:=by
 cases v with
 | non=>cases (show u = Value.none from r); rfl
 | bl b=>cases (show u = Value.bool b from r); rfl
 | int i=>obtain ⟨t,e⟩:=(show ∃ t,u = Value.int i t from r); cases e; rfl
 | str x=>obtain ⟨t,e⟩:=(show ∃ t,u = Value.str x t from r); cases e; rfl
 | byt b=>obtain ⟨t,e⟩:=(show ∃ t,u = Value.bytes b t from r); cases e; rfl
 | flt b=>obtain ⟨t,e⟩:=(show ∃ t,u = Value.float b t from r); cases e; rfl
 | ref a=>cases (show u = Value.ref a from r); rfl
 | ty n=>cases (show u = Value.type n from r); rfl
section
variable {P : Program} {w : World} {H H' : Hp} {h h' : Heap} {a C dx : Addr} {fs fs' : List (Str × V)}
theorem Vr (hok : HOk P w H h) (e : H a = some (.ins C dx fs)) : ∃ mA,ObjM h a dx C mA∧(∀ f,RelO (fs.lookup f) (mA f))∧PySem.Within mA (fs.map (·.1))∧fs.length≤1000∧H dx = some (.own a):=by
 obtain ⟨d,z,ne,ob,mA,n,r,q⟩:=(show ObjOk P w H h a (.ins C dx fs) from hok a _ e)
 exact ⟨mA,⟨ob,n,ne⟩,r,q,z,d⟩
end
structure Cls (K : PySem.W.Frag) (C : Addr) : Prop where
 pg : PySem.W.plainGet K C Str.empty = true
 hd : PySem.W.hasDictIn K C = true
 po : PySem.W.plainOver K C = true
 sa : PySem.W.findIn K (.ref C) "__setattr__" = some (some (.builtin "object.__setattr__"))
theorem Cls.get {K : PySem.W.Frag} {C : Addr} (c : Cls K C) (f : Str) : PySem.W.plainGet K C f = true:=c.pg
def NoAttr (K : PySem.W.Frag) (C : Addr) (f : Str) : Prop:=PySem.W.findIn K (.ref C) f = some none
theorem NoAttr.taker {K : PySem.W.Frag} {C : Addr} {f : Str} (n : NoAttr K C f) : PySem.W.takerIn K C f = some none:=by
 unfold PySem.W.takerIn
 rw [show PySem.W.findIn K (.ref C) f = some none from n]
 rfl
structure Con (K : PySem.W.Frag) (C : Addr) (f : Str) (v : V) (u : Value) : Prop where
 at_ : PySem.W.findIn K (.ref C) f = some (some u)
 rel : RelV v u
 get : PySem.W.specialIn K u "__get__" = some none
 cp : PySem.W.copiedNames.contains f = false
structure Meth (K : PySem.W.Frag) (C : Addr) (m : Str) (f : Addr) : Prop where
 at_ : PySem.W.findIn K (.ref C) m = some (some (.ref f))
 fn : PySem.W.isFn K (.ref f) = true
 kp : PySem.W.keepIn K (.ref f) = true
section
variable {X : Cx} {pins : List (Addr × Obj)} {σ : St} {H : Hp} {s : Shared} {a C dx : Addr} {fs : List (Str × V)} {f : Str} {v : V} {A : Around} {E : Value->Shared->Prop}
theorem zaQ {b : Bool} {Q : Value->Shared->Prop} (I : Inv X pins σ H s) (e : H a = some (.ins C dx fs)) (c : Cls X.K C) (n : NoAttr X.K C f) (l : fs.lookup f = some v)
  (h : ∀ u s',Inv X pins σ H s'->RelV v u->Q u s') : wpAny (model X.prog X.w) A (getAttr (.ref a) f b) Q E s:=by
 obtain ⟨mA,O,r,_,_,_⟩:=Vr I.hok e
 obtain ⟨u,hu,ru⟩:=RelO.some_of (v:=v) (o:=mA f) (by rw [← l]; exact r f)
 exact zdl I.kIn O (c.get f) c.hd n hu (zbP ru) (h u _ (I.tok _) ru)
theorem zaG {m : Str} {g : Addr} {pl : Sem Bool} {Q : Value × List Value->Shared->Prop} (I : Inv X pins σ H s) (e : H a = some (.ins C dx fs)) (c : Cls X.K C) (k : Meth X.K C m g) (l : fs.lookup m = none)
  (h : Q (.ref g,[.ref a]) s) : wpAny (model X.prog X.w) A (getMethod (.ref a) m pl) Q E s:=by
 obtain ⟨mA,O,r,_,_,_⟩:=Vr I.hok e
 have hn : mA m = none:=RelO.none_of (by rw [← l]; exact r m)
 exact zcv I.kIn O (c.get m) k.at_ k.fn hn h
theorem zaF {y : V} {u : Value} {Q : Unit->Shared->Prop} (I : Inv X pins σ H s) (e : H a = some (.ins C dx fs)) (c : Cls X.K C) (n : NoAttr X.K C f) (hl : fs.length < 1000) (ry : RelV y u)
  (h : ∀ s',Inv X pins σ (upd H a (.ins C dx (yh f y fs))) s'->Q () s') : wpAny (model X.prog X.w) A (setAttr (.ref a) f u) Q E s:=by
 obtain ⟨mA,O,r,wi,_,ho⟩:=Vr I.hok e
 have hz : (fs.map (·.1)).length≤sizeLine:=by rw [List.length_map,sizeLine_eq]; omega
 refine zdx I.kIn O c.sa c.po n.taker c.hd wi hz fun h' O' sb=>h _ ?_
 have hd : ∃ o,h'.get? dx = some o:=let ⟨o,_,_,e',_⟩:=O'.ns; ⟨o,e'⟩
 refine I.write (x:=a) (e:=dx) (by rw [e]; exact True.intro) (.inr ho) (fun b q hb z=>(sb.2 b hb).trans z) hd ?_
 refine ⟨by rw [zq O.ne]; exact ho,?_,O.ne,O'.obj,_,O'.ns,fun g=>?_,fun g hg=>?_⟩
 ·have:=t7 f y fs; omega
 ·show RelO ((yh f y fs).lookup g) (if g = f then some u else mA g)
  rw [zK]
  by_cases q : g = f
  ·rw [if_pos q,if_pos q]; exact ry
  ·rw [if_neg q,if_neg q]; exact r g
 ·by_cases q : g = f
  ·rw [q]; exact (Wm f y fs).1
  ·refine (Wm f y fs).2 g (wi g fun z=>hg ?_)
   show (if g = f then some u else mA g) = none
   rw [if_neg q]; exact z
theorem Inv.made (I : Inv X pins σ H s) : Inv X pins σ (upd (upd H s.heap.objs.size (.own (s.heap.objs.size + 1))) (s.heap.objs.size + 1) (.ins C s.heap.objs.size []))
  { s with heap:=(s.heap.push PySem.W.emptyDict).push (PySem.W.instObj C s.heap.objs.size) }:=by
 have e1 : (s.heap.push PySem.W.emptyDict).get? s.heap.objs.size = some PySem.W.emptyDict:=Heap.get?_push_size s.heap rfl
 have e2 : ((s.heap.push PySem.W.emptyDict).push (PySem.W.instObj C s.heap.objs.size)).get? (s.heap.objs.size + 1) = some (PySem.W.instObj C s.heap.objs.size):=by
  have:=Heap.get?_push_size (s.heap.push PySem.W.emptyDict) (o:=PySem.W.instObj C s.heap.objs.size) rfl
  rwa [Heap.size_push] at this
 have e3 : (s.heap.push PySem.W.emptyDict).Ns s.heap.objs.size (fun _=>none):=⟨PySem.W.emptyDict,#[],_,e1,rfl,(fun e he=>absurd he (by simp)),fun _=>rfl⟩
 have I1:=I.laid (a:=s.heap.objs.size) (o:=.own (s.heap.objs.size + 1)) (h':=s.heap.push PySem.W.emptyDict) (t':=s.toks) (fun b u q=>Heap.get?_push_of_some _ q) (Nat.le_refl _) ⟨_,e1⟩
 refine I1.laid (a:=s.heap.objs.size + 1) (o:=.ins C s.heap.objs.size []) (t':=s.toks) (fun b u q=>Heap.get?_push_of_some _ q) (Nat.le_of_eq (Heap.size_push _ _)) ?_
 have ne : s.heap.objs.size ≠ s.heap.objs.size + 1:=Nat.ne_of_lt (Nat.lt_succ_self _)
 refine ⟨by rw [zq ne,zf],Nat.zero_le _,ne,e2,fun _=>none,(Heap.Ns1.of_empty e3).at fun o q=>Heap.get?_push_of_some _ q,fun _=>True.intro,fun y hy=>absurd rfl hy⟩
theorem zdC {prog : Program} {w : World} {env : Env} {e : Expr} {f : Str} {pos : Pos} {s : Shared} {Q : Value->Shared->Prop} (hb : attributeBase e f env (eval e env) = eval e env)
  (h : wpAny (model prog w) A (eval e env) (fun o s₁=>wpAny (model prog w) A (getAttr o f true) Q E s₁) E s) : wpAny (model prog w) A (eval (.Attribute e f pos) env) Q E s :=
 Attribute_any_ h (by rw [arm_eval_Attribute,hb])
end
def zfh (K : PySem.W.Frag) (ta : TE) (f : Str) : TE:=fun σ H Q=>ta σ H fun x H1=>∃ a C dx fs v,x = .ref a∧H1 a = some (.ins C dx fs)∧Cls K C∧NoAttr K C f∧fs.lookup f = some v∧Q v H1
def zfE (K : PySem.W.Frag) (ta tv : TE) (f : Str) : TS:=fun D σ H=>tv σ H fun y H1=>ta σ H1 fun x H2=>∃ a C dx fs,x = .ref a∧H2 a = some (.ins C dx fs)∧Cls K C∧NoAttr K C f∧fs.length < 1000 ∧
 D.nx σ (upd H2 a (.ins C dx (yh f y fs)))
section
variable {X : Cx} {o e value : Expr} {f : Str} {pos pos' tpos : Pos} {ta tv : TE}
theorem zel (he : PE X e ta) (hb : attributeBase e f X.env (eval e X.env) = eval e X.env) : PE X (.Attribute e f pos) (zfh X.K ta f):=by
 intro pins s σ H Q I h
 refine zdC hb (thn (he pins s σ H _ I h) fun u s1 ⟨x,H1,I1,rx,a,C,dx,fs,v,ex,ea,c,n,l,q⟩=>?_)
 subst ex
 obtain rfl : u = Value.ref a:=rx
 exact zaQ I1 ea c n l fun u' s2 I2 ru=>⟨v,H1,I2,ru,q⟩
theorem Y9 (ha : PE X o ta) (hv : PE X value tv) (hs : swapsWith value (some (.Attribute o f pos')) pos.line X.env = pure false) : PS X (.Assign [.Attribute o f pos'] value pos) (zfE X.K ta tv f):=by
 intro pins s σ H D I h
 refine plainObj_wpAny_Assign_Attribute (thn (hv pins s σ H _ I h) fun u s1 ⟨y,H1,I1,ry,q⟩=>thn (ha pins s1 σ H1 _ I1 q) fun ov s2 ⟨x,H2,I2,rx,a,C,dx,fs,ex,ea,c,n,l,q2⟩=>?_) hs
 subst ex
 obtain rfl : ov = Value.ref a:=rx
 exact zaF I2 ea c n l ry fun s3 I3=>⟨σ,_,I3,q2⟩
end
section
variable {X : Cx} {pins : List (Addr × Obj)} {σ : St} {H : Hp} {s : Shared} {A : Around} {E : Value->Shared->Prop} {Q : Value->Shared->Prop} {c : Value} {b : Bool}
inductive Wv (K : PySem.W.Frag) (H : Hp) : V->Value->Prop where
 | non : Wv K H .non (.type "NoneType")
 | bl (x : Bool) : Wv K H (.bl x) (.type "bool")
 | int (i : Int) : Wv K H (.int i) (.type "int")
 | str (x : Str) : Wv K H (.str x) (.type "str")
 | flt (x : UInt64) : Wv K H (.flt x) (.type "float")
 | lst {a : Addr} {xs : List V} (e : H a = some (.lst xs)) : Wv K H (.ref a) (.type "list")
 | frz {a : Addr} {o : Obj} {xs : List V} (e : H a = some (.frz o (.lst xs))) : Wv K H (.ref a) (.type "list")
 | tup {a : Addr} {xs : List V} (e : H a = some (.tup xs)) : Wv K H (.ref a) (.type "tuple")
 | dK {a : Addr} {kvs : List (Key × V)} (e : H a = some (.dK kvs)) : Wv K H (.ref a) (.type "dict")
 | dT {a : Addr} {kvs : List (List Key × V)} (e : H a = some (.dT kvs)) : Wv K H (.ref a) (.type "dict")
 | ins {a C dx : Addr} {fs : List (Str × V)} (e : H a = some (.ins C dx fs)) (cl : Cls K C) (ha : PySem.W.findIn K (.ref C) "__class__" = some (some (.builtin "object.__class__")))
   (hn : PySem.W.specialIn K (.builtin "object.__class__") "__get__" = some (some (.builtin "getset_descriptor.__get__"))) (htk : PySem.W.takesIn K (.builtin "object.__class__") = some true)
   (hm : PySem.W.mroIn K C (.type "object") = some true) : Wv K H (.ref a) (.ref C)
theorem zbY {x : V} {u t : Value} (I : Inv X pins σ H s) (rx : RelV x u) (ty : Wv X.K H x t) (e : PySem.W.kitOne X.K t c = some b) (h : ∀ tk,Q (.bool b) { s with toks:=tk }) :
  wpAny (model X.prog X.w) A (call (.builtin "isinstance") [u,c]) Q E s:=by
 cases ty with
 | non=>cases (show u = Value.none from rx); exact PySem.W.kia_one PySem.W.kitx_none I.kIn True.intro e (fun z=>nomatch z) h
 | bl y=>cases (show u = Value.bool y from rx); exact PySem.W.kia_one PySem.W.kitx_bool I.kIn True.intro e (fun z=>nomatch z) h
 | int i=>obtain ⟨t,q⟩:=(show ∃ t,u = Value.int i t from rx); cases q; exact PySem.W.kia_one PySem.W.kitx_int I.kIn True.intro e (fun z=>nomatch z) h
 | str y=>obtain ⟨t,q⟩:=(show ∃ t,u = Value.str y t from rx); cases q; exact PySem.W.kia_one PySem.W.kitx_str I.kIn True.intro e (fun z=>nomatch z) h
 | flt y=>obtain ⟨t,q⟩:=(show ∃ t,u = Value.float y t from rx); cases q; exact PySem.W.kia_one PySem.W.kitx_float I.kIn True.intro e (fun z=>nomatch z) h
 | @lst a xs ea =>
  cases (show u = Value.ref a from rx)
  obtain ⟨_,_,n,_,h1⟩:=(show ObjOk X.prog X.w H s.heap a (.lst xs) from I.hok a _ ea)
  exact PySem.W.kia_one PySem.W.kitx_list I.kIn ⟨_,h1,rfl⟩ e (fun z=>nomatch z) h
 | @frz a ob xs ea =>
  cases (show u = Value.ref a from rx)
  obtain ⟨_,_,_,n,_,h1⟩:=(show ObjOk X.prog X.w H s.heap a (.frz ob (.lst xs)) from I.hok a _ ea)
  exact PySem.W.kia_one PySem.W.kitx_list I.kIn ⟨_,h1,rfl⟩ e (fun z=>nomatch z) h
 | @tup a xs ea =>
  cases (show u = Value.ref a from rx)
  obtain ⟨_,_,_,p⟩:=(show ObjOk X.prog X.w H s.heap a (.tup xs) from I.hok a _ ea)
  obtain ⟨o,h1,h2,_⟩:=p
  exact PySem.W.kia_one PySem.W.kitx_tuple I.kIn ⟨o,h1,h2⟩ e (fun z=>nomatch z) h
 | @dK a kvs ea =>
  cases (show u = Value.ref a from rx)
  obtain ⟨_,_,vs,_,p⟩:=(show ObjOk X.prog X.w H s.heap a (.dK kvs) from I.hok a _ ea)
  obtain ⟨o,es,ep,h1,h2,_⟩:=p
  exact PySem.W.kia_one PySem.W.kitx_dict I.kIn ⟨o,h1,h2.1⟩ e (fun z=>nomatch z) h
 | @dT a kvs ea =>
  cases (show u = Value.ref a from rx)
  obtain ⟨_,_,xs,_,o,es,ep,h1,h2,_⟩:=(show ObjOk X.prog X.w H s.heap a (.dT kvs) from I.hok a _ ea)
  exact PySem.W.kia_one PySem.W.kitx_dict I.kIn ⟨o,h1,h2.1⟩ e (fun z=>nomatch z) h
 | @ins a C dx fs ea cl ha hn htk hm =>
  cases (show u = Value.ref a from rx)
  obtain ⟨mA,O,_⟩:=Vr I.hok ea
  obtain ⟨od,J,_⟩:=O.look
  exact PySem.W.kia_one (PySem.W.kitx_own (cl.get _) cl.hd ha hn htk hm) I.kIn J e (fun z=>nomatch z) h
end
structure Room (k : Nat) (A : Around) : Prop where
 hd : A.handled = none
 dp : A.depth + k + 5 < recursionLimit
 un : A.units + 16 * k + 200 < cLine
 gd : A.guards = some []
theorem Room.mono {j k : Nat} {A : Around} (r : Room k A) (h : j≤k) : Room j A:=⟨r.hd,by have:=r.dp; omega,by have:=r.un; omega,r.gd⟩
theorem Room.deeper {k : Nat} {A : Around} (r : Room (k + 1) A) (env : Env) : Room k (A.deeper env) :=
 ⟨r.hd,by have:=r.dp; show A.depth + 1 + k + 5 < _; omega,by have:=r.un; show A.units + 3 + 16 * k + 200 < _; omega,r.gd⟩
theorem Room.in1 {k : Nat} {A : Around} (r : Room (k + 1) A) : Room k A.in1 :=
 ⟨r.hd,by have:=r.dp; show A.depth + k + 5 < _; omega,by have:=r.un; show A.units + 1 + 16 * k + 200 < _; omega,r.gd⟩
theorem zat {A : Around} {C : Addr} {us : List Value} {kw : List (Str × Value)} : (A.under (.builtin "type.__call__" ⟨.ref C :: us,kw⟩)).depth = A.depth + 1:=by
 first | rfl | simp [Around.under,Code.weight,Code.isCreation,Code.isGuard,Code.isCaller,Code.frames,Code.isFrame,guardIds]
theorem zaW {A : Around} {C : Addr} {us : List Value} {kw : List (Str × Value)} : (A.under (.builtin "type.__call__" ⟨.ref C :: us,kw⟩)).units = A.units + 1:=by
 first | rfl | simp [Around.under,Code.cUnits,Code.frames,Code.isFrame]
theorem Room.make {k : Nat} {A : Around} (r : Room (k + 1) A) (C : Addr) (us : List Value) (kw : List (Str × Value)) : Room k (A.under (.builtin "type.__call__" ⟨.ref C :: us,kw⟩)) :=
 ⟨r.hd,by have:=r.dp; rw [zat]; omega,by have:=r.un; rw [zaW]; omega,by first | exact r.gd | (simp [Around.under,Code.guards,Code.isGuard,guardIds]; exact r.gd)⟩
theorem Room.depth {k : Nat} {A : Around} (r : Room k A) : A.depth < recursionLimit:=by have:=r.dp; omega
theorem Room.units {k : Nat} {A : Around} (r : Room k A) : A.units + 64 < cLine:=by have:=r.un; omega
def zeR : TA:=fun _ H Q=>Q [] H
def zd0 (ta : TE) (tr : TA) : TA:=fun σ H Q=>ta σ H fun x H1=>tr σ H1 fun xs H2=>Q (x :: xs) H2
section
variable {X : Cx} {e : Expr} {es : List Expr} {te : TE} {t : TA} {pos : Pos}
theorem zg : PA X [] zeR:=fun _ _ _ _ H Q I h=>Calls.spliced_nil ⟨[],H,I,.nil,h⟩
theorem zc (ha : PE X e te) (hr : PA X es t) (hs : starEach (e :: es) X.env = (false,eval e X.env) :: starEach es X.env:=by rfl) : PA X (e :: es) (zd0 te t):=by
 intro pos pins s σ H Q I h
 rw [hs]
 show wpAny _ _ (spliced ((false,eval e X.env) :: backTo pos (starEach es X.env))) _ _ s
 refine Calls.spliced_cons (thn (ha pins s σ H _ I h) fun u s1 ⟨x,H1,I1,r1,q1⟩=>?_)
 exact thn (hr pos pins s1 σ H1 _ I1 q1) fun us s2 ⟨xs,H2,I2,r2,q2⟩=>⟨x :: xs,H2,I2,.cons r1 r2,q2⟩
def zfF (t : TA) : TE:=fun σ H Q=>t σ H fun xs H1=>xs.length≤sizeLine∧∀ p,H1 p = none->Q (.ref p) (upd H1 p (.tup xs))
def zfw (t : TA) : TE:=fun σ H Q=>t σ H fun xs H1=>xs.length≤sizeLine∧∀ p,H1 p = none->Q (.ref p) (upd H1 p (.lst xs))
theorem vM {x1} (h : PA X es t) : PE X (.Tuple es x1 pos) (zfF t):=by
 intro pins s σ H Q I hq
 refine wpAny_Tuple_spliced (thn (h pos pins s σ H _ I hq) fun us s1 ⟨xs,H1,I1,r,z,q⟩=>⟨by rw [← r.length]; exact z,?_⟩)
 have hf : H1 s1.heap.objs.size = none:=I1.hok.fresh (Nat.le_refl _)
 refine ⟨.ref s1.heap.objs.size,upd H1 s1.heap.objs.size (.tup xs),I1.laid (t':=s1.toks) (fun b u e=>Heap.get?_push_of_some _ e) (Nat.le_refl _) ?_,rfl,q _ hf⟩
 exact ⟨z,us,r,⟨_,Heap.get?_push_size _ rfl,rfl,_,rfl⟩⟩
theorem zU (h : PA X es t) : PE X (.List es pos) (zfw t):=by
 intro pins s σ H Q I hq
 refine wpAny_List_spliced (thn (h pos pins s σ H _ I hq) fun us s1 ⟨xs,H1,I1,r,z,q⟩=>⟨by rw [← r.length]; exact z,?_⟩)
 have hf : H1 s1.heap.objs.size = none:=I1.hok.fresh (Nat.le_refl _)
 refine ⟨.ref s1.heap.objs.size,upd H1 s1.heap.objs.size (.lst xs),I1.laid (t':=s1.toks) (fun b u e=>Heap.get?_push_of_some _ e) (Nat.le_refl _) ?_,rfl,q _ hf⟩
 exact ⟨z,us,0,r,Heap.get?_push_size _ rfl⟩
end
abbrev Sp:=List V->Hp->VK->XK->Prop
abbrev CXT:=List Env->Hp->Shared->XK->Value->Shared->Prop
structure Env0 (P : Program) (w : World) (K : PySem.W.Frag) (mg : Str->Option Value) (base : Heap) (A : Around) (outer : List Env) (s : Shared) (H : Hp) : Prop where
 frames : A.frames = some outer
 mod : Mod K mg base
 bs : ∀ b o,base.get? b = some o->s.heap.get? b = some o∧H b = none
 bsz : base.objs.size≤s.heap.objs.size
 funs : s.heap.FunFrames base outer
 frf : ∀ b ∈ frs outer,H b = none
 hok : HOk P w H s.heap
 bare : AllBare s.gens
def CE (outer : List Env) (P : Program) (w : World) (H : Hp) (s : Shared) (Q : VK) (u : Value) (s' : Shared) : Prop :=
 ∃ v H',s'.os = s.os∧AllBare s'.gens∧Un (frs outer) [] H H' s.heap s'.heap∧HOk P w H' s'.heap∧RelV v u∧Q v H'
def CR (CX : CXT) (outer : List Env) (P : Program) (w : World) (H : Hp) (s : Shared) (Q : VK) (E : XK) (r : Result) (s' : Shared) : Prop :=
 match r with
 | .ok (.ret u)=>CE outer P w H s Q u s'
 | .ok _=>False
 | .error e=>CX outer H s E e s'
structure FnOk (P : Program) (w : World) (K : PySem.W.Frag) (mg : Str->Option Value) (base : Heap) (CX : CXT) (k : Nat) (f : Addr) (fd : FuncData) (ps : List Str) (sp : Sp) : Prop where
 len : ∀ vs H Q E,sp vs H Q E->vs.length = ps.length
 run : ∀ (A : Around) (outer : List Env) (s : Shared) (H : Hp) (args : Args) (us : List Value) (vs : List V) (Q : VK) (E : XK),Room k A->Env0 P w K mg base A outer s H->BindsTo s fd args (ps.zip us)->Vals vs us->sp vs H Q E ->
  codeAny (model P w) A (.call (.ref f) args) (CR CX outer P w H s Q E) s
theorem FnOk.mono {P : Program} {w : World} {K : PySem.W.Frag} {mg : Str->Option Value} {base : Heap} {CX : CXT} {j k : Nat} {f : Addr} {fd : FuncData} {ps : List Str} {sp : Sp} (F : FnOk P w K mg base CX j f fd ps sp) (h : j≤k) :
  FnOk P w K mg base CX k f fd ps sp:=⟨F.len,fun A outer s H args us vs Q E hr=>F.run A outer s H args us vs Q E (hr.mono h)⟩
theorem FnOk.imp {P : Program} {w : World} {K : PySem.W.Frag} {mg : Str->Option Value} {base : Heap} {CX : CXT} {k : Nat} {f : Addr} {fd : FuncData} {ps : List Str} {sp sp' : Sp} (F : FnOk P w K mg base CX k f fd ps sp)
  (h : ∀ vs H Q E,sp' vs H Q E->sp vs H Q E) : FnOk P w K mg base CX k f fd ps sp' :=
 ⟨fun vs H Q E q=>F.len vs H Q E (h _ _ _ _ q),fun A outer s H args us vs Q E hr he hb hv hs=>F.run A outer s H args us vs Q E hr he hb hv (h _ _ _ _ hs)⟩
theorem Env0.make {P : Program} {w : World} {K : PySem.W.Frag} {mg : Str->Option Value} {base : Heap} {A : Around} {outer : List Env} {s : Shared} {H : Hp} (e : Env0 P w K mg base A outer s H) (C : Addr) (us : List Value) (kw : List (Str × Value)) :
  Env0 P w K mg base (A.under (.builtin "type.__call__" ⟨.ref C :: us,kw⟩)) outer s H:=⟨by first | exact e.frames | (simpa [Around.under,Code.envs,Code.isFrame,pushEnvs] using e.frames),e.mod,e.bs,e.bsz,e.funs,e.frf,e.hok,e.bare⟩
theorem Env0.in1 {P : Program} {w : World} {K : PySem.W.Frag} {mg : Str->Option Value} {base : Heap} {A : Around} {outer : List Env} {s : Shared} {H : Hp} (e : Env0 P w K mg base A outer s H) :
  Env0 P w K mg base A.in1 outer s H:=⟨e.frames,e.mod,e.bs,e.bsz,e.funs,e.frf,e.hok,e.bare⟩
section
variable {X : Cx} {pins : List (Addr × Obj)} {σ : St} {H : Hp} {s s' : Shared}
theorem Inv.env0 (I : Inv X pins σ H s) : Env0 X.prog X.w X.K X.mg X.base X.A X.stack s H :=
 ⟨I.ok.frames,I.ok.mod,I.bs,Nat.le_trans I.ok.bsz I.sz,I.stack,I.stkFree,I.hok,I.bare⟩
theorem Inv.after {Q : VK} {u : Value} (I : Inv X pins σ H s) (h : CE X.stack X.prog X.w H s Q u s') : EP X pins σ Q u s':=by
 obtain ⟨v,H',os,bare,un,hok,r,q⟩:=h
 obtain ⟨hh,g,d,t,os'⟩:=s'
 obtain rfl : os' = s.os:=os
 exact ⟨v,H',I.call (h':=hh) (g':=g) (d':=d) (t':=t) (ch:=[]) un hok bare (fun b z=>absurd z (by simp)),r,q⟩
end
def zdT (sp : Sp) (dvs : List V) (E : XK) (t : TA) : TE:=fun σ H Q=>t σ H fun vs H1=>sp (vs ++ dvs) H1 Q E
def zdY (C : Addr) (m : Str) (sp : Sp) (dvs : List V) (E : XK) (ta : TE) (t : TA) : TE:=fun σ H Q=>ta σ H fun x H1=>∃ a dx fs,x = .ref a∧H1 a = some (.ins C dx fs)∧fs.lookup m = none ∧
 t σ H1 fun vs H2=>sp (x :: (vs ++ dvs)) H2 Q E
def zeM (C : Addr) (sp : Sp) (dvs : List V) (E : XK) (t : TA) : TE:=fun σ H Q=>t σ H fun vs H1=>∀ x dx,H1 x = none->H1 dx = none->dx ≠ x ->
 sp (.ref x :: (vs ++ dvs)) (upd (upd H1 dx (.own x)) x (.ins C dx [])) (fun v H2=>v = .non∧Q (.ref x) H2) E
def Binds (K : PySem.W.Frag) (fd : FuncData) (ps : List Str) (ds : List Value) : Prop :=
 ∀ (s : Shared) (us : List Value),K.In s.heap->(us ++ ds).length = ps.length->BindsTo s fd ⟨us,[]⟩ (ps.zip (us ++ ds))
theorem Binds.all {K : PySem.W.Frag} {fd : FuncData} {ps : List Str} (h : ∀ us : List Value,us.length = ps.length->bindArgs fd ⟨us,[]⟩ = pure (ps.zip us)) : Binds K fd ps []:=fun s us _ hl=>by
 rw [List.append_nil] at hl ⊢
 exact .of_eq (h us hl)
def Ws (CX : CXT) (X : Cx) (E : XK) : Prop:=∀ (pins : List (Addr × Obj)) (σ : St) (H : Hp) (s : Shared) (e : Value) (s' : Shared),Inv X pins σ H s->CX X.stack H s E e s'->X.xe e s'
section
variable {X : Cx} {CX : CXT} {k : Nat} {f C : Addr} {fd : FuncData} {ps : List Str} {sp : Sp} {dvs : List V} {ds : List Value} {E : XK} {x m : Str} {p pos apos : Pos} {e o : Expr} {es : List Expr} {ta : TE} {t : TA}
theorem zcK {pins : List (Addr × Obj)} {σ : St} {H : Hp} {s : Shared} {Q : VK} {us : List Value} {vs : List V} (F : FnOk X.prog X.w X.K X.mg X.base CX k f fd ps sp) (hr : Room k X.A) (hb : Binds X.K fd ps ds) (hd : Vals dvs ds) (hx : Ws CX X E)
  (I : Inv X pins σ H s) (r : Vals vs us) (h : sp (vs ++ dvs) H Q E) : wpAny (model X.prog X.w) X.A (call (.ref f) us) (EP X pins σ Q) X.xe s:=by
 have r2 : Vals (vs ++ dvs) (us ++ ds):=r.append hd
 have hl : (us ++ ds).length = ps.length:=by rw [← r2.length]; exact F.len _ _ _ _ h
 refine wpAny_call (codeAny_mono (F.run X.A X.stack s H ⟨us,[]⟩ (us ++ ds) (vs ++ dvs) Q E hr I.env0 (hb s us I.kIn hl) r2 h) fun r s' hq=>?_)
 cases r with
 | error e=>exact hx pins σ H s e s' I hq
 | ok fl =>
  cases fl with
  | ret u=>exact I.after hq
  | next=>exact False.elim hq
  | brk=>exact False.elim hq
  | cont=>exact False.elim hq
theorem zde (F : FnOk X.prog X.w X.K X.mg X.base CX k f fd ps sp) (hr : Room k X.A) (hg : Gl X x) (hm : X.mg x = some (.ref f)) (hk : PySem.W.keepIn X.K (.ref f) = true) (hb : Binds X.K fd ps ds) (hd : Vals dvs ds) (hx : Ws CX X E)
  (ha : PA X (e :: es) t) (hdb : (x == ("__debug__" : Str)) = false:=by decide) (he : starEach (e :: es) X.env = (false,eval e X.env) :: starEach es X.env:=by rfl) (hpl : (backTo pos (starEach es X.env)).any (·.1) = false:=by rfl) :
  PE X (.Call (.Name x p) (e :: es) [] pos) (zdT sp dvs E t):=by
 intro pins s σ H Q I h
 refine wpAny_Call_Name_kw (Je I hg hm ?_ hdb)
 refine PySem.W.callWith_K (h₀:=X.base) I.ok.mod.kin hk (thn (ha pos pins s σ H _ I h) fun us s1 ⟨vs,H1,I1,r,q⟩=>⟨I1.kIn,?_⟩) he hpl
 exact zcK F hr hb hd hx I1 r q
theorem zdk {pl : Sem Bool} (he : PE X o ta) (c : Cls X.K C) (hm : Meth X.K C m f) (F : FnOk X.prog X.w X.K X.mg X.base CX k f fd ps sp) (hr : Room k X.A) (hb : Binds X.K fd ps ds) (hd : Vals dvs ds) (hx : Ws CX X E) (ha : PA X (e :: es) t)
  (hst : starEach (e :: es) X.env = (false,eval e X.env) :: starEach es X.env:=by rfl) (hpl : (backTo pos (starEach es X.env)).any (·.1) = false:=by rfl)
  (ht : eval (.Call (.Attribute o m apos) (e :: es) [] pos) X.env = (do
   let ov ← eval o X.env
   standAt apos.atName
   let (f,first) ← holding [ov] (getMethod ov m pl)
   callWith pos f first (backTo pos (starEach (e :: es) X.env)) (backToKw pos (keywordEach [] X.env))):=by rfl) :
  PE X (.Call (.Attribute o m apos) (e :: es) [] pos) (zdY C m sp dvs E ta t):=by
 intro pins s σ H Q I h
 refine PySem.W.methodCall_KW (pl:=pl) (thn (he pins s σ H _ I h) fun u s1 ⟨x,H1,I1,rx,a,dx,fs,ex,ea,l,q⟩=>?_) ht
 subst ex
 obtain rfl : u = Value.ref a:=rx
 refine zaG I1 ea c hm l ?_
 refine PySem.W.callWith_K (first:=[.ref a]) (h₀:=X.base) I.ok.mod.kin hm.kp (thn (ha pos pins s1 σ H1 _ I1 q) fun us s2 ⟨vs,H2,I2,r,q2⟩=>⟨I2.kIn,?_⟩) hst hpl
 exact zcK (us:=.ref a :: us) (vs:=.ref a :: vs) F hr hb hd hx I2 (.cons rfl r) q2
structure Mk (K : PySem.W.Frag) (C f : Addr) : Prop where
 makes : PySem.W.makesIn K C = true
 init : PySem.W.findIn K (.ref C) "__init__" = some (some (.ref f))
 fn : PySem.W.isFn K (.ref f) = true
 kp : PySem.W.keepIn K (.ref C) = true
theorem zcp {pins : List (Addr × Obj)} {σ : St} {H : Hp} {s : Shared} {Q : VK} {us : List Value} {vs : List V} (M : Mk X.K C f) (F : FnOk X.prog X.w X.K X.mg X.base CX k f fd ps sp) (hr : Room (k + 1) X.A) (hb : Binds X.K fd ps ds) (hd : Vals dvs ds)
  (hx : Ws CX X E) (I : Inv X pins σ H s) (r : Vals vs us)
  (h : ∀ x dx,H x = none->H dx = none->dx ≠ x->sp (.ref x :: (vs ++ dvs)) (upd (upd H dx (.own x)) x (.ins C dx [])) (fun v H2=>v = .non∧Q (.ref x) H2) E) :
  wpAny (model X.prog X.w) X.A (call (.ref C) us) (EP X pins σ Q) X.xe s:=by
 have hq:=h (s.heap.objs.size + 1) s.heap.objs.size (I.hok.fresh (Nat.le_succ _)) (I.hok.fresh (Nat.le_refl _)) (Nat.ne_of_lt (Nat.lt_succ_self _))
 have I2:=Inv.made (C:=C) I
 have r2 : Vals (V.ref (s.heap.objs.size + 1) :: (vs ++ dvs)) (Value.ref (s.heap.objs.size + 1) :: (us ++ ds)):=.cons rfl (r.append hd)
 have hl : (Value.ref (s.heap.objs.size + 1) :: us ++ ds).length = ps.length:=by
  have e:=r2.length
  rw [F.len _ _ _ _ hq] at e
  exact e.symm
 refine wpAny_call (zcP (f:=f) I.kIn M.makes M.init (beq_iff_eq.mp M.fn) (codeAny_mono (F.run _ X.stack _ _ ⟨Value.ref (s.heap.objs.size + 1) :: us,[]⟩ (Value.ref (s.heap.objs.size + 1) :: (us ++ ds)) _ _ E (hr.make C us [])
  (I2.env0.make C us []) (hb _ (Value.ref (s.heap.objs.size + 1) :: us) I2.kIn hl) r2 hq) fun r s' hq'=>?_))
 cases r with
 | error e=>exact hx pins σ _ _ e s' I2 hq'
 | ok fl =>
  cases fl with
  | ret u =>
   obtain ⟨v,H',I3,rv,ev,q3⟩:=I2.after hq'
   subst ev
   exact ⟨rv,⟨V.ref (s.heap.objs.size + 1),H',I3,rfl,q3⟩⟩
  | next=>exact False.elim hq'
  | brk=>exact False.elim hq'
  | cont=>exact False.elim hq'
theorem Jx (M : Mk X.K C f) (F : FnOk X.prog X.w X.K X.mg X.base CX k f fd ps sp) (hr : Room (k + 1) X.A) (hg : Gl X x) (hm : X.mg x = some (.ref C)) (hb : Binds X.K fd ps ds) (hd : Vals dvs ds) (hx : Ws CX X E)
  (ha : PA X (e :: es) t) (hdb : (x == ("__debug__" : Str)) = false:=by decide) (he : starEach (e :: es) X.env = (false,eval e X.env) :: starEach es X.env:=by rfl) (hpl : (backTo pos (starEach es X.env)).any (·.1) = false:=by rfl) :
  PE X (.Call (.Name x p) (e :: es) [] pos) (zeM C sp dvs E t):=by
 intro pins s σ H Q I h
 refine wpAny_Call_Name_kw (Je I hg hm ?_ hdb)
 refine PySem.W.callWith_K (h₀:=X.base) I.ok.mod.kin M.kp (thn (ha pos pins s σ H _ I h) fun us s1 ⟨vs,H1,I1,r,q⟩=>⟨I1.kIn,?_⟩) he hpl
 exact zcp M F hr hb hd hx I1 r q
end
section
variable {X : Cx} {CX : CXT} {k : Nat} {f C : Addr} {fd : FuncData} {ps ks : List Str} {sp : Sp} {E : XK} {x m : Str} {p pos apos kpos : Pos} {e o : Expr} {es : List Expr} {kws : List Keyword} {te ta : TE} {t tk : TA} {nm : Option Str}
structure zfI (K : PySem.W.Frag) (fd : FuncData) (ps ks : List Str) (g : List Value->List Value->List Value) (gV : List V->List V->List V) : Prop where
 to : ∀ (s : Shared) (us ws : List Value),K.In s.heap->(g us ws).length = ps.length->BindsTo s fd ⟨us,ks.zip ws⟩ (ps.zip (g us ws))
 rel : ∀ {vs : List V} {us : List Value} {zs : List V} {ws : List Value},Vals vs us->Vals zs ws->Vals (gV vs zs) (g us ws)
variable {g : List Value->List Value->List Value} {gV : List V->List V->List V}
end
structure zE (N P : List Str) (sc : Scope) : Prop where
 kind : sc.kind = .function
 co : sc.isCoroutine = false
 gen : sc.isGenerator = false
 nd : N.Nodup
 pre : N.take P.length = P
 par : ∀ x ∈ P,sc.names.lookup x = some .local∨sc.names.lookup x = some .cell
 nofree : ∀ y ∈ sc.names,y.2 ≠ .free
theorem Ql {kindOf : Str->Option NameKind} {x : Str} : ∀ {binds : List (Str × Value)} {m : Str->Option Value},(∀ v,(x,v) ∉ binds)->bindL kindOf binds m x = m x
 | [],_,_=>rfl
 | (n,v) :: r,m,h=>by
  unfold bindL
  rw [Ql fun w hw=>h w (List.mem_cons_of_mem _ hw)]
  split
  ·have : x ≠ n:=by rintro rfl; exact h v List.mem_cons_self
   simp [this]
  ·rfl
theorem QH {kindOf : Str->Option NameKind} {x : Str} : ∀ {binds : List (Str × Value)} {m : Str->Option Value},(∀ v,(x,v) ∉ binds)->bindC kindOf binds m x = m x
 | [],_,_=>rfl
 | (n,v) :: r,m,h=>by
  unfold bindC
  rw [QH fun w hw=>h w (List.mem_cons_of_mem _ hw)]
  split
  ·rfl
  ·have : x ≠ n:=by rintro rfl; exact h v List.mem_cons_self
   simp [this]
theorem Qw {kindOf : Str->Option NameKind} {x : Str} {v : Value} : ∀ {P : List Str} {vs : List Value} {i : Nat} {m : Str->Option Value},P.Nodup->P[i]? = some x->vs[i]? = some v->kindOf x = some .local ->
  bindL kindOf (P.zip vs) m x = some v
 | [],_,_,_,_,h,_,_=>by simp at h
 | _ :: _,[],_,_,_,_,h,_=>by simp at h
 | p :: P,w :: vs,0,m,nd,h1,h2,hk=>by
  simp at h1 h2; subst h1; subst h2
  show bindL kindOf ((p,w) :: P.zip vs) m p = _
  unfold bindL
  rw [Ql fun v hv=>(List.nodup_cons.mp nd).1 (List.of_mem_zip hv).1,if_pos hk]
  simp
 | p :: P,w :: vs,i + 1,m,nd,h1,h2,hk=>by
  show bindL kindOf ((p,w) :: P.zip vs) m x = _
  unfold bindL
  exact Qw (i:=i) (List.nodup_cons.mp nd).2 (by simpa using h1) (by simpa using h2) hk
theorem QD {kindOf : Str->Option NameKind} {x : Str} {v : Value} : ∀ {P : List Str} {vs : List Value} {i : Nat} {m : Str->Option Value},P.Nodup->P[i]? = some x->vs[i]? = some v->kindOf x ≠ some .local ->
  bindC kindOf (P.zip vs) m x = some v
 | [],_,_,_,_,h,_,_=>by simp at h
 | _ :: _,[],_,_,_,_,h,_=>by simp at h
 | p :: P,w :: vs,0,m,nd,h1,h2,hk=>by
  simp at h1 h2; subst h1; subst h2
  show bindC kindOf ((p,w) :: P.zip vs) m p = _
  unfold bindC
  rw [QH fun v hv=>(List.nodup_cons.mp nd).1 (List.of_mem_zip hv).1,if_neg hk]
  simp
 | p :: P,w :: vs,i + 1,m,nd,h1,h2,hk=>by
  show bindC kindOf ((p,w) :: P.zip vs) m x = _
  unfold bindC
  exact QD (i:=i) (List.nodup_cons.mp nd).2 (by simpa using h1) (by simpa using h2) hk
def start (N : List Str) (vs : List V) : St:=vs.map some ++ List.replicate (N.length - vs.length) none
def Vm (CX : CXT) (P : Program) (w : World) (K : PySem.W.Frag) (mg : Str->Option Value) (base : Heap) (N : List Str) (qual : Str) (scope : Scope) (f : Addr) (cd : Value) (A : Around) (outer : List Env) (s : Shared) (H : Hp) (E : XK) : Cx where
 prog:=P
 w:=w
 K:=K
 mg:=mg
 base:=base
 A:=A.deeper (envOfC qual scope s.heap.objs.size f cd)
 N:=N
 s₀:=s
 H₀:=H
 env:=envOfC qual scope s.heap.objs.size f cd
 outer:=outer
 stack:=envOfC qual scope s.heap.objs.size f cd :: outer
 ex:=[]
 calm:=true
 fn:=fun _=>true
 pn:=[]
 xe:=fun e s'=>wpAny (model P w) (A.deeper (envOfC qual scope s.heap.objs.size f cd)) (leaving (envOfC qual scope s.heap.objs.size f cd) e) (fun _ s''=>CX outer H s E e s'') (fun e' s''=>CX outer H s E e' s'') s'
theorem zai {sc : Scope} {n : Nat} {x : Str} (h : sc.names.lookup x = some .cell) : ∃ c,(cellsFrom n sc.names []).lookup x = some c:=by
 have q:=PySem.W.cellsFrom_some sc.names n [] (.inl h)
 exact Option.isSome_iff_exists.mp q
theorem Qn {CX : CXT} {P : Program} {w : World} {K : PySem.W.Frag} {mg : Str->Option Value} {base : Heap} {N ps : List Str} {qual : Str} {scope : Scope} {f : Addr} {cd : Value} {A : Around} {outer : List Env} {s s1 : Shared} {H : Hp} {E : XK} {us : List Value} {vs : List V}
  (S : zE N ps scope) (hd : A.handled = none) (e0 : Env0 P w K mg base A outer s H) (hl : vs.length = ps.length) (r : Vals vs us)
  (x : InCallC s s.heap.objs.size (bindL (envOfC qual scope s.heap.objs.size f cd).kindOf (ps.zip us) fun _=>none) (cellsFrom (s.heap.objs.size + 1) scope.names []) (bindC (envOfC qual scope s.heap.objs.size f cd).kindOf (ps.zip us) fun _=>none) s1) :
  Inv (Vm CX P w K mg base N qual scope f cd A outer s H E) [] (start N vs) H s1:=by
 have hpl : ps.length≤N.length:=by have:=congrArg List.length S.pre; rw [List.length_take] at this; omega
 obtain ⟨h1,tk,rfl,hk⟩:=x.done
 have noA : ∀ b : Addr,b ∉ (Vm CX P w K mg base N qual scope f cd A outer s H E).ex:=fun b z=>absurd (show b ∈ ([] : List Addr) from z) (by simp)
 refine ⟨⟨e0.mod,S.kind,rfl,rfl,Nat.le_refl _,fun y z c h1 h2=>?_,fun y hy=>?_,fun y c _ h=>?_,fun _=>hd,Around.frames_deeper e0.frames,.inr ⟨rfl,rfl⟩,fun b z=>absurd z (noA b),e0.bs,e0.bsz,fun b _ _=>noA b,fun b z=>absurd z (noA b),e0.funs,e0.frf⟩,
  rfl,e0.bare,Un.kept hk,⟨_,x.toInCall.ns,fun i y v h1 h2 h3=>?_⟩,fun y c h=>⟨_,x.cell y c h⟩,e0.hok.fresh (Nat.le_refl _),fun y c h=>?_,fun p hp=>absurd (show p ∈ ([] : List (Addr × Obj)) from hp) (by simp),e0.hok.kept hk,?_⟩
 ·exact name_of_addr x.apart (PySem.mem_of_lookup h1) (PySem.mem_of_lookup h2)
 ·have hy : scope.names.lookup y = some .cell∨scope.names.lookup y = some .free:=hy
  rcases hy with hy | hy
  ·exact zai hy
  ·exact absurd rfl (S.nofree _ (PySem.mem_of_lookup hy))
 ·exact Nat.le_of_lt (x.above y c (PySem.mem_of_lookup h))
 ·have hi : i < vs.length:=by
   unfold start at h2
   by_cases hi : i < vs.length
   ·exact hi
   ·rw [List.getElem?_append_right (by simpa using hi)] at h2
    rw [List.getElem?_replicate] at h2
    split at h2 <;> cases h2
  have ha : vs[i]? = some v:=by
   unfold start at h2
   rw [List.getElem?_append_left (by simpa using hi),List.getElem?_map] at h2
   cases e : vs[i]? with
   | none=>rw [e] at h2; cases h2
   | some a=>rw [e] at h2; cases h2; rfl
  obtain ⟨u,hu,rv⟩:=r.get ha
  have hp : ps[i]? = some y:=by
   rw [← S.pre,List.getElem?_take_of_lt (by omega)]; exact h1
  have ndP : ps.Nodup:=by rw [← S.pre]; exact S.nd.sublist (List.take_sublist _ _)
  refine ⟨u,rv,?_⟩
  rcases S.par y (List.mem_of_getElem? hp) with k | k
  ·exact .inl ⟨k,Qw ndP hp hu k⟩
  ·obtain ⟨c,e⟩:=zai (n:=s.heap.objs.size + 1) k
   refine .inr ⟨.inl k,c,e,?_⟩
   have q:=x.cell y c e
   rw [QD ndP hp hu (by show scope.names.lookup y ≠ _; rw [k]; decide)] at q
   exact q
 ·exact e0.hok.fresh (Nat.le_of_lt (x.above y c (PySem.mem_of_lookup h)))
 ·unfold start
  show _ = N.length
  rw [List.length_append,List.length_map,List.length_replicate]
  omega
theorem zdX {CX : CXT} {P : Program} {w : World} {K : PySem.W.Frag} {mg : Str->Option Value} {base : Heap} {k : Nat} {f : Addr} {name qual : Str} {params : Arguments} {body : List Stmt} {scope : Scope} {dV kV doc pm cdv ct oc : Value} {an od : Option Addr}
  {osl : Array (Option Value)} {N ps : List Str} {sp : Sp} (lk : K.lookup f = some ⟨oc,od,.func (PySem.W.fnOf name qual params body scope dV kV doc pm an cdv ct),osl⟩) (hcd : PySem.W.codeIn K cdv qual = true) (S : zE N ps scope)
  (len : ∀ vs H Q E,sp vs H Q E->vs.length = ps.length)
  (hbody : ∀ (A : Around) (outer : List Env) (s : Shared) (H : Hp) (vs : List V) (Q : VK) (E : XK),Room k (A.deeper (envOfC qual scope s.heap.objs.size f cdv))->sp vs H Q E ->
   ∃ t,PSs (Vm CX P w K mg base N qual scope f cdv A outer s H E) body t∧t { nx:=fun _ H'=>Q .non H',rt:=Q } (start N vs) H) :
  FnOk P w K mg base CX (k + 1) f (PySem.W.fnOf name qual params body scope dV kV doc pm an cdv ct) ps sp:=by
 refine ⟨len,fun A outer s H args us vs Q E hr e0 hb r hsp=>?_⟩
 have hl:=len _ _ _ _ hsp
 have KX : K.In s.heap:=e0.mod.kin.keeps fun b o e=>(e0.bs b o e).1
 have lim : s.heap.NoLimit:=e0.mod.nolimit.keeps fun b o e=>(e0.bs b o e).1
 have hkind : ∀ y ∈ ps.zip us,scope.names.lookup y.1 = some .local∨(scope.names.lookup y.1 = some .cell∧((cellsFrom (s.heap.objs.size + 1) scope.names []).lookup y.1).isSome = true):=fun ⟨n,v⟩ hy=>by
  rcases S.par n (List.of_mem_zip hy).1 with q | q
  ·exact .inl q
  ·exact .inr ⟨q,PySem.W.cellsFrom_some _ _ _ (.inl q)⟩
 refine codeAny_call_function hr.depth (KX _ _ lk) rfl S.co S.gen rfl (PySem.W.codeRec_of KX hcd) (hb _ _ _ _ ?_)
 refine wpAny_newFunctionEnv_cells S.kind hkind fun env he s1 x=>?_
 subst he
 refine ⟨lim.keeps x.toInCall.keep,codeAny_func ?_⟩
 obtain ⟨t,ht,hq⟩:=hbody A outer s H vs Q E (hr.deeper _) hsp
 have I : Inv (Vm CX P w K mg base N qual scope f cdv A outer s H E) [] (start N vs) H s1:=Qn S hr.hd e0 hl r x
 refine wpAny_mono (ht [] s1 (start N vs) H _ I hq) (fun fl s' hs=>?_) fun e s' hs=>hs
 have fin : ∀ {σ' : St} {H' : Hp} {v : V} {u : Value},Inv (Vm CX P w K mg base N qual scope f cdv A outer s H E) [] σ' H' s'->RelV v u->Q v H'->CE outer P w H s Q u s' :=
  fun {σ' H' v u} J rv q=>⟨v,H',J.os,J.bare,J.base,J.hok,rv,q⟩
 cases fl with
 | ret u =>
  obtain ⟨v,σ',H',J,rv,q⟩:=hs
  exact fin J rv q
 | next =>
  obtain ⟨σ',H',J,q⟩:=hs
  exact fin (v:=V.non) (u:=Value.none) J rfl q
 | brk =>
  obtain ⟨_,_,_,q⟩:=hs
  exact False.elim q
 | cont =>
  obtain ⟨_,_,_,q⟩:=hs
  exact False.elim q
section
variable {X : Cx} {x : Str} {p pos : Pos} {e : Expr} {es : List Expr} {t : TA} {id T : String} {r : List V->Hp->VK->Prop}
def tCB (r : List V->Hp->VK->Prop) (t : TA) : TE:=fun σ H Q=>t σ H fun vs H1=>r vs H1 Q
theorem zB (hc : vo X (.builtin id) r) (hg : Gl X x) (hm : X.mg x = none) (hv : bootBuiltins x = some (.builtin id)) (ha : PA X (e :: es) t) (hn : x ≠ "__name__":=by decide) (hdb : (x == ("__debug__" : Str)) = false:=by decide)
  (he : starEach (e :: es) X.env = (false,eval e X.env) :: starEach es X.env:=by rfl) (hpl : (backTo pos (starEach es X.env)).any (·.1) = false:=by rfl) : PE X (.Call (.Name x p) (e :: es) [] pos) (tCB r t):=by
 intro pins s σ H Q I h
 refine wpAny_Call_Name_kw (Zj I hg hm hv ?_ hn hdb)
 exact PyProof.Rows.callWith_builtin1 (thn (ha pos pins s σ H _ I h) fun us s1 ⟨vs,H1,I1,r1,q1⟩=>hc pins s1 σ H1 vs us Q I1 r1 q1) he hpl
theorem tG (hc : vo X (.type T) r) (hg : Gl X x) (hm : X.mg x = none) (hv : bootBuiltins x = some (.type T)) (ha : PA X (e :: es) t) (hn : x ≠ "__name__":=by decide) (hdb : (x == ("__debug__" : Str)) = false:=by decide)
  (he : starEach (e :: es) X.env = (false,eval e X.env) :: starEach es X.env:=by rfl) (hpl : (backTo pos (starEach es X.env)).any (·.1) = false:=by rfl) : PE X (.Call (.Name x p) (e :: es) [] pos) (tCB r t):=by
 intro pins s σ H Q I h
 refine wpAny_Call_Name_kw (Zj I hg hm hv ?_ hn hdb)
 exact PyProof.Rows.callWith_type1 (thn (ha pos pins s σ H _ I h) fun us s1 ⟨vs,H1,I1,r1,q1⟩=>hc pins s1 σ H1 vs us Q I1 r1 q1) he hpl
end
end L2
namespace HT
open PySem PyProof.Rows
def lexLt : List Int->List Int->Bool
 | [],[]=>false
 | [],_ :: _=>true
 | _ :: _,[]=>false
 | x :: xs,y :: ys=>if x = y then lexLt xs ys else decide (x < y)
theorem qX (x y : Int) (xs ys : List Int) : lexLt (x :: xs) (y :: ys) = if x = y then lexLt xs ys else decide (x < y):=rfl
theorem YL : lexLt [] [] = false:=rfl
theorem Ut (y : Int) (ys : List Int) : lexLt [] (y :: ys) = true:=rfl
theorem ur (x : Int) (xs : List Int) : lexLt (x :: xs) [] = false:=rfl
theorem zc5 (A : Around) (s : Shared) (a : Int) (t : Tok) (c : Int) (u : Tok) : ∃ e,SeqAt.EqAt A s (.int a t) (.int c u) e∧(e = true ↔ a = c) :=
 ⟨(a == c),SeqAt.EqAt.int_int a t c u,by simp⟩
theorem zcE (A : Around) (s : Shared) (a : Int) (t : Tok) (c : Int) (u : Tok) (prog : Program) (w : World) (E : Value->Shared->Prop) (Q : Value->Shared->Prop) (h : Q (.bool (decide (a < c))) s) :
  wpAny (model prog w) A (richCompare .Lt (.int a t) (.int c u)) Q E s :=
 (PyProof.Rows.lt_int h : wpAny (model prog w) A (compareOp .Lt (.int a t) (.int c u)) Q E s)
section
open PySem.SeqAt
open PySem.AutoSeq1 (wpAny_loadPart')
open PySem.MeetsSeq PySem.MeetsSeq2 PySem.MeetsSeq3
end
section
variable {prog : Program} {w : World} {A : Around} {E : Value->Shared->Prop} {s : Shared}
def sIx (n d : Nat) : Option Int->Nat
 | none=>d
 | some v=>if v < 0 then (v + (n : Int)).toNat else min v.toNat n
theorem zah (n d : Nat) : sIx n d none = d:=rfl
theorem Vt (n d k : Nat) : sIx n d (some (k : Int)) = min k n:=by
 show (if (k : Int) < 0 then ((k : Int) + (n : Int)).toNat else min (k : Int).toNat n) = min k n
 rw [if_neg (by omega),Int.toNat_natCast]
end
end HT
namespace L2
open PySem PySem.Spec PyProof.Rows
abbrev TO:=St->Hp->(Option Int->Hp->Prop)->Prop
def PO (X : Cx) (e : Option Expr) (t : TO) : Prop :=
 ∀ (pins : List (Addr × Obj)) (s : Shared) (σ : St) (H : Hp) (Q : Option Int->Hp->Prop),Inv X pins σ H s->t σ H Q ->
  wpAny (model X.prog X.w) X.A (evalPart e X.env) (fun u s'=>∃ o H',Inv X pins σ H' s'∧IsPart u o∧Q o H') X.xe s
def zdu : TO:=fun _ H Q=>Q none H
def zfi (t : TE) : TO:=fun σ H Q=>t σ H fun x H1=>∃ i,x = .int i∧Q (some i) H1
theorem intsAre_of {ns : List Int} : ∀ {us : List Value},Vals (ns.map V.int) us->IntsAre us ns:=by
 induction ns with
 | nil=>intro us r; rw [List.map_nil] at r; cases r; exact .nil
 | cons n ns ih =>
  intro us r
  rw [List.map_cons] at r
  cases r with
  | cons r1 r2 =>
   obtain ⟨t,e⟩:=r1
   subst e
   exact .cons n t (ih r2)
section
variable {X : Cx} {e : Expr} {te : TE} {lo hi : Option Expr} {tl th : TO} {pos p2 : Pos}
theorem uF : PO X none zdu:=by
 intro pins s σ H Q I h
 rw [evalPart_none]
 exact wpAny_pure ⟨none,H,I,.none,h⟩
theorem wg (h : PE X e te) : PO X (some e) (zfi te):=by
 intro pins s σ H Q I hw
 rw [evalPart_some]
 refine thn (h pins s σ H _ I hw) fun u s1 ⟨x,H1,I1,r1,q1⟩=>?_
 obtain ⟨i,rfl,q⟩:=q1
 obtain ⟨t,rfl⟩:=r1
 exact ⟨some i,H1,I1,.int i t,q⟩
def SlR (X : Cx) (r : V->Option Int->Option Int->Hp->VK->Prop) : Prop :=
 ∀ (pins : List (Addr × Obj)) (s : Shared) (σ : St) (H : Hp) (x : V) (v vl vu : Value) (lo hi : Option Int) (sl : Addr) (Q : VK),Inv X pins σ H s->RelV x v->s.heap.IsSliceOf sl vl vu .none->IsPart vl lo->IsPart vu hi->r x lo hi H Q ->
  ∃ T id,typeLookup (.type T) "__getitem__" = pure (some (.builtin id))∧s.TypeIs v T∧wpAny (model X.prog X.w) X.A (getItem v (.ref sl)) (EP X pins σ Q) X.xe s
def tSl (r : V->Option Int->Option Int->Hp->VK->Prop) (te : TE) (tl th : TO) : TE:=fun σ H Q=>te σ H fun x H1=>tl σ H1 fun l H2=>th σ H2 fun u H3=>r x l u H3 Q
theorem xT {r : V->Option Int->Option Int->Hp->VK->Prop} (hr : SlR X r) (he : PE X e te) (hl : PO X lo tl) (hu : PO X hi th) : PE X (.Subscript e (.Slice lo hi none p2) pos) (tSl r te tl th):=by
 intro pins s σ H Q I h
 refine Subscript_ (thn (he pins s σ H _ I h) fun v s1 ⟨x,H1,I1,r1,q1⟩=>?_)
 refine wpAny_Slice (thn (hl pins s1 σ H1 _ I1 q1) fun vl s2 ⟨l,H2,I2,pl,q2⟩=>thn (hu pins s2 σ H2 _ I2 q2) fun vu s3 ⟨u,H3,I3,pu,q3⟩=>?_)
 rw [evalPart_none]
 refine wpAny_pure ?_
 have I4 : Inv X pins σ H3 { s3 with heap:=s3.heap.push { cls:=.type "slice",data:=.fields #[vl,vu,.none] } }:=I3.kept (t':=s3.toks) fun b ob q=>Heap.get?_push_of_some _ q
 obtain ⟨T,id,hT,ht,hg⟩:=hr pins { s3 with heap:=s3.heap.push { cls:=.type "slice",data:=.fields #[vl,vu,.none] } } σ H3 x v vl vu l u s3.heap.objs.size Q I4 r1 (Heap.IsSliceOf.new ..) pl pu q3
 show wpAny (model X.prog X.w) X.A (subscriptTail e (.Slice lo hi none p2) v (.ref s3.heap.objs.size)) (EP X pins σ Q) X.xe { s3 with heap:=s3.heap.push { cls:=.type "slice",data:=.fields #[vl,vu,.none] } }
 exact tail_any (ops:=[.ref s3.heap.objs.size,v]) ht hT hg (by with_unfolding_all rfl)
def jn (xs : List V) (lo hi : Option Int) : List V:=(xs.drop (HT.sIx xs.length 0 lo)).take (HT.sIx xs.length xs.length hi - HT.sIx xs.length 0 lo)
theorem zao (xs : List V) (lo hi : Option Int) : (jn xs lo hi).length≤xs.length:=by
 unfold jn
 rw [List.length_take,List.length_drop]
 omega
end
def ixN (n : Nat) (i : Int) : Option Nat:=if 0≤i then (if i < n then some i.toNat else none) else if -(n : Int)≤i then some (i + n).toNat else none
def atI {α : Type} (xs : List α) (i : Int) : Option α:=(ixN xs.length i).bind fun j=>xs[j]?
theorem Ji {n : Nat} {i : Int} {j : Nat} (h : ixN n i = some j) : seqIndex? i n = some j∧j < n∧-(n : Int)≤i∧i < n:=by
 unfold ixN at h
 by_cases h0 : 0≤i
 ·rw [if_pos h0] at h
  by_cases h1 : i < n
  ·rw [if_pos h1] at h
   have e : i.toNat = j:=Option.some.inj h
   exact ⟨by rw [seqIndex_of h0 h1,e],by omega,by omega,h1⟩
  ·rw [if_neg h1] at h; cases h
 ·rw [if_neg h0] at h
  by_cases h1 : -(n : Int)≤i
  ·rw [if_pos h1] at h
   have e : (i + n).toNat = j:=Option.some.inj h
   exact ⟨by rw [seqIndex_neg (by omega) h1,e],by omega,h1,by omega⟩
  ·rw [if_neg h1] at h; cases h
theorem zbc {α : Type} {xs : List α} {i : Int} {v : α} (h : atI xs i = some v) : ∃ j,seqIndex? i xs.length = some j∧xs[j]? = some v∧j < xs.length∧-(xs.length : Int)≤i∧i < xs.length:=by
 unfold atI at h
 cases e : ixN xs.length i with
 | none=>rw [e] at h; cases h
 | some j =>
  rw [e] at h
  obtain ⟨h1,h2,h3,h4⟩:=Ji e
  exact ⟨j,h1,h,h2,h3,h4⟩
theorem yQ {α : Type} {xs : List α} {j : Nat} {v : α} (h : xs[j]? = some v) : atI xs (j : Int) = some v:=by
 have hj : j < xs.length:=(List.getElem?_eq_some_iff.mp h).1
 have e : ixN xs.length (j : Int) = some j:=by
  unfold ixN
  rw [if_pos (by omega),if_pos (by omega)]; simp
 unfold atI; rw [e]; exact h
theorem zco {α : Type} (xs : List α) (v : α) : atI (xs ++ [v]) (-1) = some v:=by
 have hl : (xs ++ [v]).length = xs.length + 1:=by simp
 have e : ixN (xs ++ [v]).length (-1) = some xs.length:=by
  unfold ixN
  rw [hl,if_neg (by decide),if_pos (by omega)]
  congr 1
  omega
 unfold atI
 rw [e]
 show (xs ++ [v])[xs.length]? = some v
 simp
def zc9 (b : Expr) : Prop:=∀ o i,subscripted b false o i = operate [o,i] (getItem o i)
def IxR (X : Cx) (r : R2) : Prop :=
 ∀ (value slice : Expr) (pins : List (Addr × Obj)) (s : Shared) (σ : St) (H : Hp) (x y : V) (v u : Value) (Q : VK),Inv X pins σ H s->RelV x v->RelV y u->r x y H Q ->
  subscripted slice false v u = operate [v,u] (getItem v u)->wpAny (model X.prog X.w) X.A (subscriptTail value slice v u) (EP X pins σ Q) X.xe s
def MtR (X : Cx) (id : String) (r : V->List V->Hp->VK->Prop) : Prop :=
 ∀ (pins : List (Addr × Obj)) (s : Shared) (σ : St) (H : Hp) (x : V) (xs : List V) (v : Value) (us : List Value) (Q : VK),Inv X pins σ H s->RelV x v->Vals xs us->r x xs H Q ->
  wpAny (model X.prog X.w) X.A (call (.builtin id) (v :: us)) (EP X pins σ Q) X.xe s
section
variable {X : Cx} {a b : Expr} {ta tb : TE} {pos : Pos}
theorem zQ {r : R2} (hr : IxR X r) (ha : PE X a ta) (hb : PE X b tb) (hs : zc9 b) : PE X (.Subscript a b pos) (tOp r ta tb):=by
 intro pins s σ H Q I h
 exact Subscript_ (zeC ha hb I h fun v u s2 x y H2 I2 rx ry q=>hr a b pins s2 σ H2 x y v u Q I2 rx ry q (hs _ _))
def zc2 (K : PySem.W.Frag) : R2:=fun x y H Q=>∃ p xs i v,x = .ref p∧y = .int i∧SqL K H p xs∧atI xs i = some v∧Q v H
def ze2 (K : PySem.W.Frag) : R2:=fun x y H Q=>∃ p xs i v,x = .ref p∧y = .int i∧SqT K H p xs∧atI xs i = some v∧Q v H
theorem wK : IxR X (zc2 X.K):=by
 intro value slice pins s σ H x y v u Q I rx ry h hs
 obtain ⟨p,xs,i,z,rfl,rfl,hq,he,q⟩:=h
 cases rx
 obtain ⟨t,rfl⟩:=ry
 obtain ⟨its,r,pl,hz⟩:=I.list hq
 obtain ⟨j,h1,h2,h3,h4,h5⟩:=zbc he
 obtain ⟨w,ew,rw'⟩:=r.get h2
 have hl:=r.length
 have hn:=Jz
 have fin : EP X pins σ Q w s:=⟨z,H,I,rw',q⟩
 by_cases h0 : 0≤i
 ·have hj : i.toNat = j:=by
   rw [seqIndex_of h0 h5] at h1
   exact Option.some.inj h1
  exact item_listR pl.isList h0 (by omega) (by rw [hj]; simpa using ew) fin hs
 ·have hj : (i + (its.toArray.size : Int)).toNat = j:=by
   rw [seqIndex_neg (by omega) h4] at h1
   rw [List.size_toArray,← hl]
   exact Option.some.inj h1
  exact subscriptTail_builtinR (x:=w) pl.isList.typeIs slot_list_getitem.lookup
   (wpAny_getItem_list_neg (Q:=fun r s'=>r = w∧EP X pins σ Q r s') pl.isList (by omega) (by rw [List.size_toArray] <;> omega) (by omega) (by rw [hj]; simpa using ew) ⟨rfl,fin⟩) hs
theorem zd5 : IxR X (ze2 X.K):=by
 intro value slice pins s σ H x y v u Q I rx ry h hs
 obtain ⟨p,xs,i,z,rfl,rfl,hq,he,q⟩:=h
 cases rx
 obtain ⟨t,rfl⟩:=ry
 obtain ⟨its,r,pl,hz⟩:=I.tuple hq
 obtain ⟨j,h1,h2,h3,h4,h5⟩:=zbc he
 obtain ⟨w,ew,rw'⟩:=r.get h2
 have hl:=r.length
 have hn:=Jz
 have fin : EP X pins σ Q w s:=⟨z,H,I,rw',q⟩
 exact subscriptTail_builtinR (x:=w) pl.typeIs slot_tuple_getitem.lookup
  (getItem_tuple (j:=j) (Q:=fun r s'=>r = w∧EP X pins σ Q r s') pl (by omega) (by omega) (by rw [List.size_toArray,← hl]; exact h1) (by simpa using ew) ⟨rfl,fin⟩) hs
theorem zau (its : List Value) (n j : Nat) (u : Value) : Obj.mapSeq (·.setIfInBounds j u) { cls:=.type "list",data:=.seq its.toArray n } = { cls:=.type "list",data:=.seq (its.set j u).toArray n }:=by
 simp [Obj.mapSeq]
theorem Inv.lst {pins : List (Addr × Obj)} {σ : St} {H : Hp} {s : Shared} {p : Addr} {xs : List V} (I : Inv X pins σ H s) (h : H p = some (.lst xs)) :
  ∃ (its : List Value) (n : Nat),Vals xs its∧s.heap.get? p = some { cls:=.type "list",data:=.seq its.toArray n }∧xs.length≤sizeLine:=by
 obtain ⟨z,its,n,r,e⟩:=I.hok p _ h
 exact ⟨its,n,r,e,z⟩
theorem Inv.lstUpd {pins : List (Addr × Obj)} {σ : St} {H : Hp} {s : Shared} {p : Addr} {xs ys : List V} {its its' : List Value} {n n' : Nat} {f : Obj->Obj} (I : Inv X pins σ H s) (h : H p = some (.lst xs))
  (ho : s.heap.get? p = some { cls:=.type "list",data:=.seq its.toArray n }) (hf : f { cls:=.type "list",data:=.seq its.toArray n } = { cls:=.type "list",data:=.seq its'.toArray n' }) (r : Vals ys its') (hz : ys.length≤sizeLine) (t : Nat) :
  Inv X pins σ (upd H p (.lst ys)) { s with heap:=s.heap.update p f,toks:=t }:=by
 have e : (s.heap.update p f).get? p = some { cls:=.type "list",data:=.seq its'.toArray n' }:=by
  rw [Heap.get?_update_self f ho (by rw [hf] <;> rfl),hf]
 refine I.write (x:=p) (e:=p) (by rw [h]; trivial) (.inl rfl) (fun b u hb q=>(Heap.get?_update_other _ _ (Ne.symm hb)).trans q) ⟨_,e⟩ ?_
 exact ⟨hz,its',n',r,e⟩
def zdO : V->V->V->Hp->(Hp->Prop)->Prop:=fun o i v H Q=>∃ p xs k j,o = .ref p∧i = .int k∧H p = some (.lst xs)∧ixN xs.length k = some j∧Q (upd H p (.lst (xs.set j v)))
theorem set_list : zeL X zdO:=by
 intro pins s σ H o i v ov iv u Q I ro ri rv h
 obtain ⟨p,xs,k,j,rfl,rfl,hp,hj,q⟩:=h
 cases ro
 obtain ⟨t,rfl⟩:=ri
 obtain ⟨its,n,r,ho,hz⟩:=I.lst hp
 obtain ⟨h1,h2,h3,h4⟩:=Ji hj
 have hl:=r.length
 have hn:=Jz
 have I' : Inv X pins σ (upd H p (.lst (xs.set j v))) { s with heap:=s.heap.update p (Obj.mapSeq (·.setIfInBounds j u)) } :=
  I.lstUpd hp ho (zau its n j u) (r.set rv j) (by rw [List.length_set]; exact hz) s.toks
 by_cases h0 : 0≤k
 ·have hk : k.toNat = j:=by
   rw [seqIndex_of h0 h4] at h1
   exact Option.some.inj h1
  exact PySem.W.ki_setAt ho h0 (by omega) (by rw [List.size_toArray,← hl]; exact h4) (by rw [hk]; exact ⟨_,I',q⟩)
 ·have hk : (k + (its.toArray.size : Int)).toNat = j:=by
   rw [seqIndex_neg (by omega) h3] at h1
   rw [List.size_toArray,← hl]
   exact Option.some.inj h1
  exact PySem.W.ki_setBack ho (by omega) (by rw [List.size_toArray,← hl]; exact h3) (by omega) (by rw [hk]; exact ⟨_,I',q⟩)
theorem Jy (lo hi : Option Int) (n : Nat) : (sliceBounds lo hi none n).1 = ((HT.sIx n 0 lo : Nat) : Int)∧(sliceBounds lo hi none n).2.1 = ((HT.sIx n n hi : Nat) : Int)∧(sliceBounds lo hi none n).2.2 = 1:=by
 refine ⟨?_,?_,rfl⟩
 ·cases lo with
  | none=>simp [sliceBounds,HT.sIx]
  | some i =>
   simp only [sliceBounds,HT.sIx,Option.getD_none,show (1 : Int) > 0 by decide,if_true]
   by_cases h : i < 0
   ·simp only [h,if_true] <;> omega
   ·simp only [h,if_false] <;> omega
 ·cases hi with
  | none=>simp [sliceBounds,HT.sIx]
  | some i =>
   simp only [sliceBounds,HT.sIx,Option.getD_none,show (1 : Int) > 0 by decide,if_true]
   by_cases h : i < 0
   ·simp only [h,if_true] <;> omega
   ·simp only [h,if_false] <;> omega
theorem Qe (its : List Value) (lo hi : Option Int) : slicePick its.toArray lo hi none = ((its.drop (HT.sIx its.length 0 lo)).take (HT.sIx its.length its.length hi - HT.sIx its.length 0 lo)).toArray:=by
 obtain ⟨h1,h2,h3⟩:=Jy lo hi its.toArray.size
 unfold slicePick
 rw [h1,h2,h3]
 simp only [sliceRange_one,pick_run,List.size_toArray] <;> rfl
def zfj (K : PySem.W.Frag) : V->Option Int->Option Int->Hp->VK->Prop:=fun x lo hi H Q=>∃ a xs,x = .ref a∧SqL K H a xs∧∀ p,H p = none->Q (.ref p) (upd H p (.lst (jn xs lo hi)))
theorem zdI : SlR X (zfj X.K):=by
 intro pins s σ H x v vl vu lo hi sl Q I rx hs pl pu h
 obtain ⟨a,xs,rfl,hx,q⟩:=h
 cases rx
 obtain ⟨its,r,ht,hz⟩:=I.list hx
 have hlen:=r.length
 refine ⟨"list",_,slot_list_getitem.lookup,ht.isList.typeIs,?_⟩
 refine wpAny_getItem_list_slice ht.isList hs pl pu .none (by simp) ?_ (by rw [List.size_toArray] <;> omega)
 rw [Qe,← hlen]
 refine ⟨.ref s.heap.objs.size,_,I.laid (t':=s.toks) (o:=.lst (jn xs lo hi)) (fun b ob q=>Heap.get?_push_of_some _ q) (Nat.le_refl _) ?_,rfl,q _ (I.hok.fresh (Nat.le_refl _))⟩
 exact ⟨Nat.le_trans (zao xs lo hi) hz,_,0,(r.drop (HT.sIx xs.length 0 lo)).take (HT.sIx xs.length xs.length hi - HT.sIx xs.length 0 lo),Heap.get?_push_size _ rfl⟩
theorem qy : vo X (.builtin "len") (fun xs H Q=>∃ p ys,xs = [.ref p]∧(SqL X.K H p ys∨SqT X.K H p ys)∧Q (.int ys.length) H):=by
 intro pins s σ H xs us Q I r h
 obtain ⟨p,ys,rfl,hq,q⟩:=h
 obtain ⟨u,rfl,rx⟩:=vals1 r
 cases rx
 have hn:=Jz
 rcases hq with hq | hq
 ·obtain ⟨its,r',pl,hz⟩:=I.list hq
  have hlen:=r'.length
  exact Calls.call_len_list pl.isList (by simp only [List.size_toArray] <;> omega) ⟨.int ys.length,H,I.tok _,⟨s.toks + 1,by rw [List.size_toArray,hlen]⟩,q⟩
 ·obtain ⟨its,r',pl,hz⟩:=I.tuple hq
  have hlen:=r'.length
  exact len_tuple pl (by simp only [List.size_toArray] <;> omega) ⟨.int ys.length,H,I.tok _,⟨s.toks + 1,by rw [List.size_toArray,hlen]⟩,q⟩
theorem Q8 : vo X (.type "list") (fun xs H Q=>∃ p ys,xs = [.ref p]∧(SqL X.K H p ys∨SqT X.K H p ys)∧∀ l,H l = none->Q (.ref l) (upd H l (.lst ys))):=by
 intro pins s σ H xs us Q I r h
 obtain ⟨p,ys,rfl,hq,q⟩:=h
 obtain ⟨u,rfl,rx⟩:=vals1 r
 cases rx
 have fin : ∀ (its : List Value),Vals ys its->ys.length≤sizeLine->∀ (h' : Heap) (c' : Nat),(∀ b o',s.heap.get? b = some o'->h'.get? b = some o') ->
   h'.get? s.heap.objs.size = some { cls:=.type "list",dict:=none,data:=.seq its.toArray c',slots:=#[] }->EP X pins σ Q (.ref s.heap.objs.size) { s with heap:=h' }:=fun its r' hz h' c' kp e =>
  ⟨.ref s.heap.objs.size,_,I.laid (t':=s.toks) kp (Nat.le_refl _) (show ObjOk X.prog X.w _ h' _ (.lst ys) from ⟨hz,its,c',r',e⟩),rfl,q _ (I.hok.fresh (Nat.le_refl _))⟩
 rcases hq with hq | hq
 ·obtain ⟨its,r',pl,hz⟩:=I.list hq
  have hlen:=r'.length
  obtain ⟨o,ho,hc,n,hd⟩:=pl.isList
  exact call_list_seq p (.inl rfl) ho hc hd (fun h' c' kp e=>fin its r' hz h' c' kp e) (by simp only [List.size_toArray] <;> omega)
 ·obtain ⟨its,r',pl,hz⟩:=I.tuple hq
  have hlen:=r'.length
  obtain ⟨o,ho,hc,n,hd⟩:=pl
  exact call_list_seq p (.inr rfl) ho hc hd (fun h' c' kp e=>fin its r' hz h' c' kp e) (by simp only [List.size_toArray] <;> omega)
theorem U6 : vo X (.type "tuple") (fun xs H Q=>∃ p ys,xs = [.ref p]∧((SqL X.K H p ys∧∀ l,H l = none->Q (.ref l) (upd H l (.tup ys)))∨(SqT X.K H p ys∧Q (.ref p) H))):=by
 intro pins s σ H xs us Q I r h
 obtain ⟨p,ys,rfl,h⟩:=h
 obtain ⟨u,rfl,rx⟩:=vals1 r
 cases rx
 rcases h with ⟨hq,q⟩ | ⟨hq,q⟩
 ·obtain ⟨its,r',pl,hz⟩:=I.list hq
  have hlen:=r'.length
  refine call_tuple_list pl.isList (fun h' kp=>?_) (by simp only [List.size_toArray] <;> omega)
  have I1 : Inv X pins σ H { s with heap:=h' }:=I.kept (t':=s.toks) kp
  have I2 : Inv X pins σ (upd H h'.objs.size (.tup ys)) { s with heap:=h'.push { cls:=.type "tuple",data:=.seq its.toArray } } :=
   I1.laid (t':=s.toks) (fun b o e=>Heap.get?_push_of_some _ e) (Nat.le_refl _) (show ObjOk X.prog X.w _ _ _ (.tup ys) from ⟨hz,its,r',IsTup.new _ _⟩)
  exact ⟨.ref h'.objs.size,_,I2,rfl,q _ (I1.hok.fresh (Nat.le_refl _))⟩
 ·obtain ⟨its,r',pl,hz⟩:=I.tuple hq
  exact call_tuple_same pl ⟨.ref p,H,I,rfl,q⟩
def tyV (K : PySem.W.Frag) (T : String) (x : V) (H : Hp) : Prop:=match x with
 | .str _=>T = "str"
 | .int _=>T = "int"
 | .ref p=>(T = "list"∧∃ xs,SqL K H p xs)∨(T = "tuple"∧∃ o,K.lookup p = some o∧o.cls = .type "tuple"∧o.dict = none) ∨
   (T = "dict"∧((∃ kvs,H p = some (.dK kvs))∨∃ kvs,H p = some (.dT kvs)))∨(T = "set"∧∃ S n,H p = some (.set S n))
 | _=>False
theorem zcm {pins : List (Addr × Obj)} {σ : St} {H : Hp} {s : Shared} {T : String} {x : V} {v : Value} (I : Inv X pins σ H s) (r : RelV x v) (ty : tyV X.K T x H) :
  s.TypeIs v T∧∀ a,v = .ref a->∃ ob,s.heap.get? a = some ob∧ob.dict = none:=by
 cases x with
 | str z =>
  obtain ⟨t,rfl⟩:=r
  cases (show T = "str" from ty)
  exact ⟨typeIs_str s z t,fun _ e=>nomatch e⟩
 | int i =>
  obtain ⟨t,rfl⟩:=r
  cases (show T = "int" from ty)
  exact ⟨typeIs_int s i t,fun _ e=>nomatch e⟩
 | ref p =>
  cases r
  rcases ty with ⟨rfl,xs,hq⟩ | ⟨rfl,o,hk,hc,hd⟩ | ⟨rfl,hk⟩ | ⟨rfl,S,n,hk⟩
  ·obtain ⟨its,_,pl,_⟩:=I.list hq
   refine ⟨pl.isList.typeIs,fun a e=>?_⟩
   cases e
   obtain ⟨o,n,e,c,hd,_⟩:=pl
   exact ⟨o,e,hd⟩
  ·refine ⟨⟨o,I.kIn p o hk,hc⟩,fun a e=>?_⟩
   cases e
   exact ⟨o,I.kIn _ o hk,hd⟩
  ·have z : ∃ o,s.heap.get? p = some o∧o.ExactDict:=by
    rcases hk with ⟨kvs,hk⟩ | ⟨kvs,hk⟩
    ·obtain ⟨_,_,_,_,o,_,_,e,ex,_⟩:=I.hok p _ hk
     exact ⟨o,e,ex⟩
    ·obtain ⟨_,_,_,_,o,_,_,e,ex,_⟩:=I.hok p _ hk
     exact ⟨o,e,ex⟩
   obtain ⟨o,e,ex⟩:=z
   refine ⟨⟨o,e,ex.1⟩,fun a e2=>?_⟩
   cases e2
   exact ⟨o,e,ex.2.1⟩
  ·obtain ⟨o,_,_,_,e,ex,_⟩:=I.hok p _ hk
   refine ⟨⟨o,e,ex.1⟩,fun a e2=>?_⟩
   cases e2
   exact ⟨o,e,ex.2.1⟩
 | _=>exact False.elim ty
def zfu (K : PySem.W.Frag) (T : String) (r : V->List V->Hp->VK->Prop) (to : TE) : TE:=fun σ H Q=>to σ H fun x H1=>tyV K T x H1∧r x [] H1 Q
def tBM (K : PySem.W.Frag) (T : String) (r : V->List V->Hp->VK->Prop) (to : TE) (t : TA) : TE:=fun σ H Q=>to σ H fun x H1=>tyV K T x H1∧t σ H1 fun xs H2=>r x xs H2 Q
variable {o e : Expr} {es : List Expr} {to : TE} {t : TA} {name : Str} {apos cpos : Pos} {T id : String} {r : V->List V->Hp->VK->Prop}
theorem zew (pa : PlainAttrs T) (slot : Slot T name id) (hty : typeOf (.builtin id) = pure (.type "method_descriptor")) (hm : MtR X id r) (ho : PE X o to)
  (hbase : attributeBase o name X.env (eval o X.env) = eval o X.env:=by rfl) (hline : (apos.endLine == cpos.line) = true:=by rfl) : PE X (.Call (.Attribute o name apos) [] [] cpos) (zfu X.K T r to):=by
 intro pins s σ H Q I h
 refine wpAny_Call_method0_late hbase hline (thn (ho pins s σ H _ I h) fun v s1 ⟨x,H1,I1,r1,ty,q1⟩=>?_)
 obtain ⟨h1,h2⟩:=zcm I1 r1 ty
 exact ⟨T,id,pa,slot,hty,h1,h2,Calls.callWith_builtin rfl (PySem.evalArgs_none (hm pins s1 σ H1 x [] v [] Q I1 r1 .nil q1))⟩
theorem Z3 (pa : PlainAttrs T) (slot : Slot T name id) (hty : typeOf (.builtin id) = pure (.type "method_descriptor")) (hm : MtR X id r) (ho : PE X o to) (ha : PA X (e :: es) t)
  (hbase : attributeBase o name X.env (eval o X.env) = eval o X.env:=by rfl)
  (hfew : ((backTo cpos (starEach (e :: es) X.env)).all (fun x=>!x.1) && (backToKw cpos (keywordEach [] X.env)).all (fun x=>x.1.isSome)
   && decide ((e :: es).length + ([] : List Keyword).length + (if ([] : List Keyword).isEmpty then 0 else 1) < 30)) = true:=by rfl)
  (hline : (apos.endLine == cpos.line) = true:=by rfl) (hs : starEach (e :: es) X.env = (false,eval e X.env) :: starEach es X.env:=by rfl) (hplain : (backTo cpos (starEach es X.env)).any (·.1) = false:=by rfl) :
  PE X (.Call (.Attribute o name apos) (e :: es) [] cpos) (tBM X.K T r to t):=by
 intro pins s σ H Q I h
 refine wpAny_Call_method_late hbase hfew hline rfl (thn (ho pins s σ H _ I h) fun v s1 ⟨x,H1,I1,r1,ty,q1⟩=>?_)
 obtain ⟨h1,h2⟩:=zcm I1 r1 ty
 refine ⟨T,id,pa,slot,hty,h1,h2,?_⟩
 have hA:=ha cpos pins s1 σ H1 _ I1 q1
 rw [hs] at hA ⊢
 refine Calls.callWith_builtin (by show (false || (backTo cpos (starEach es X.env)).any (·.1)) = false; rw [hplain] <;> rfl) (Calls.evalArgs_plain ?_)
 exact thn hA fun us s2 ⟨vs,H2,I2,r2,q2⟩=>hm pins s2 σ H2 x vs v us Q I2 r1 r2 q2
end
def MtM (X : Cx) (id : String) (r : V->List V->Hp->VK->Prop) : Prop :=
 ∀ (pins : List (Addr × Obj)) (s : Shared) (σ : St) (H : Hp) (x : V) (xs : List V) (v : Value) (us : List Value) (Q : VK),Inv X pins σ H s->RelV x v->Vals xs us->r x xs H Q ->
  wpAny (model X.prog X.w) X.A (call (.builtin id) (v :: us)) (EP X pins σ Q) X.xe s
theorem Vals.one : ∀ {x : V} {us : List Value},Vals [x] us->∃ u,us = [u]∧RelV x u
 | _,_,.cons r .nil=>⟨_,rfl,r⟩
theorem Vals.zero : ∀ {us : List Value},Vals [] us->us = []
 | _,.nil=>rfl
theorem Vals.dropLast {xs : List V} {us : List Value} (h : Vals xs us) : Vals xs.dropLast us.dropLast:=by
 induction h with
 | nil=>exact .nil
 | cons r t ih =>
  cases t with
  | nil=>exact .nil
  | cons q t'=>exact .cons r ih
theorem Vals.eraseIdx : ∀ {xs : List V} {us : List Value} (i : Nat),Vals xs us->Vals (xs.eraseIdx i) (us.eraseIdx i)
 | _,_,_,.nil=>.nil
 | _,_,0,.cons _ t=>t
 | _,_,i + 1,.cons r t=>.cons r (Vals.eraseIdx i t)
theorem Vals.rep {xs : List V} {us : List Value} (h : Vals xs us) : ∀ k : Nat,Vals (List.replicate k xs).flatten (List.replicate k us).flatten
 | 0=>.nil
 | k + 1=>by
  rw [List.replicate_succ,List.replicate_succ,List.flatten_cons,List.flatten_cons]
  exact Vals.append h (Vals.rep h k)
theorem zaz {α : Type} (l : List α) : l.eraseIdx (l.length - 1) = l.dropLast:=by
 induction l with
 | nil=>rfl
 | cons a r ih =>
  cases r with
  | nil=>rfl
  | cons b r =>
   have e : (a :: b :: r).length - 1 = ((b :: r).length - 1) + 1:=by
    have h1 : (a :: b :: r).length = r.length + 2:=rfl
    have h2 : (b :: r).length = r.length + 1:=rfl
    omega
   rw [e,List.eraseIdx_cons_succ,ih]
   all_goals rfl
theorem Wr {α : Type} : ∀ (l : List α) (i : Nat),(l.eraseIdx i).length≤l.length
 | [],_=>Nat.le_refl _
 | _ :: _,0=>Nat.le_succ _
 | _ :: r,i + 1=>Nat.succ_le_succ (Wr r i)
theorem foldl_rep (its : List Value) : ∀ (k : Nat) (acc : List Value),
  List.foldl (fun x1 x2=>x1 ++ x2) acc.toArray (List.replicate k its.toArray) = (acc ++ (List.replicate k its).flatten).toArray
 | 0,acc=>by simp
 | k + 1,acc=>by
  have e : acc.toArray ++ its.toArray = (acc ++ its).toArray:=by simp
  have e2 : (acc ++ its) ++ (List.replicate k its).flatten = acc ++ (List.replicate (k + 1) its).flatten:=by
   rw [List.replicate_succ,List.flatten_cons,List.append_assoc]
  rw [← e2,← foldl_rep its k (acc ++ its),← e,List.replicate_succ,List.foldl_cons]
section
variable {X : Cx} {pins : List (Addr × Obj)} {σ : St} {H : Hp} {s : Shared} {l b : Addr} {xs ys zs : List V}
theorem Inv.lset {its its' : List Value} {n : Nat} {f : Array Value->Array Value} {t' : Nat} (I : Inv X pins σ H s) (hH : H l = some (.lst xs))
  (e : s.heap.get? l = some { cls:=.type "list",data:=.seq its.toArray n }) (hf : f its.toArray = its'.toArray) (hv : Vals ys its') (hz : ys.length≤sizeLine) :
  Inv X pins σ (upd H l (.lst ys)) { s with heap:=s.heap.update l (Obj.mapSeq f),toks:=t' }:=by
 have q:=PySem.IsL.update e f
 rw [hf] at q
 refine I.write (x:=l) (e:=l) (by rw [hH]; exact trivial) (.inl rfl) (fun b' u hb hu=>(Heap.get?_update_other s.heap (Obj.mapSeq f) (Ne.symm hb)).trans hu) ⟨_,q⟩ ?_
 exact ⟨hz,its',_,hv,q⟩
theorem Inv.lnew {its : List Value} {t' : Nat} (I : Inv X pins σ H s) (hv : Vals ys its) (hz : ys.length≤sizeLine) :
  Inv X pins σ (upd H s.heap.objs.size (.lst ys)) { s with heap:=s.heap.push { cls:=.type "list",data:=.seq its.toArray },toks:=t' } :=
 I.laid (fun _ _ q=>Heap.get?_push_of_some _ q) (Nat.le_refl _) ⟨hz,its,0,hv,Heap.get?_push_size _ rfl⟩
theorem Inv.fresh (I : Inv X pins σ H s) : H s.heap.objs.size = none:=I.hok.fresh (Nat.le_refl _)
theorem Inv.lstM (I : Inv X pins σ H s) (hH : H l = some (.lst xs)) : xs.length≤sizeLine∧∃ (its : List Value) (n : Nat),Vals xs its∧xs.length = its.length∧s.heap.get? l = some { cls:=.type "list",data:=.seq its.toArray n }:=by
 obtain ⟨z,its,n,r,e⟩:=I.hok l _ hH
 exact ⟨z,its,n,r,r.length,e⟩
theorem zar {n : Nat} (h : n≤sizeLine) : Builtin.List.listTooLong n = false:=by
 unfold Builtin.List.listTooLong
 exact decide_eq_false (by omega)
end
section
variable {X : Cx}
def zdJ : V->List V->Hp->VK->Prop:=fun x vs H Q=>∃ l xs y,x = .ref l∧vs = [y]∧H l = some (.lst xs)∧xs.length < sizeLine∧Q .non (upd H l (.lst (xs ++ [y])))
theorem vd : MtM X "list.append" zdJ:=by
 intro pins s σ H x vs v us Q I rx rv h
 obtain ⟨l,xs,y,rfl,rfl,hH,hz,q⟩:=h
 cases rx
 obtain ⟨u,rfl,ru⟩:=rv.one
 obtain ⟨z,its,n,r,hl,e⟩:=I.lstM hH
 refine call_meets F.slot_list_append ⟨_,e,rfl⟩ F.entry_list_append (F.args_list_append_2 _ _) (PySem.list_append l its.toArray n u (by rw [List.size_toArray]; omega)) ⟨e,?_⟩
 refine ⟨.non,_,I.lset (its':=its ++ [u]) hH e (by simp) (r.append (.cons ru .nil)) ?_,rfl,q⟩
 rw [List.length_append,List.length_singleton]
 omega
def zdt : V->List V->Hp->VK->Prop:=fun x vs H Q=>∃ l b xs zs,x = .ref l∧vs = [.ref b]∧H l = some (.lst xs)∧H b = some (.lst zs)∧xs.length + zs.length≤sizeLine∧Q .non (upd H l (.lst (xs ++ zs)))
theorem zbJ : MtM X "list.extend" zdt:=by
 intro pins s σ H x vs v us Q I rx rv h
 obtain ⟨l,b,xs,zs,rfl,rfl,hH,hB,hz,q⟩:=h
 cases rx
 obtain ⟨u,rfl,ru⟩:=rv.one
 cases ru
 obtain ⟨z,its,n,r,hl,e⟩:=I.lstM hH
 obtain ⟨z2,its2,n2,r2,hl2,e2⟩:=I.lstM hB
 have hsz : its.toArray.size + its2.toArray.size≤sizeLine:=by rw [List.size_toArray,List.size_toArray]; omega
 have hlong : ¬ (!its.toArray.isEmpty && Builtin.List.listTooLong (its.toArray.size + its2.toArray.size)) = true:=by
  rw [zar hsz,Bool.and_false]
  exact Bool.false_ne_true
 refine call_meets F.slot_list_extend ⟨_,e,rfl⟩ F.entry_list_extend (F.args_list_extend_2 _ _)
  (AutoSeq1.list_extend_list_list_0 l its.toArray n b its2.toArray n2 hlong (by rw [List.size_toArray]; omega) (by omega)) ⟨e,e2,?_⟩
 refine ⟨.non,_,I.lset (its':=its ++ its2) hH e (by simp) (r.append r2) ?_,rfl,q⟩
 rw [List.length_append]
 omega
def zfB : V->List V->Hp->VK->Prop:=fun x vs H Q=>∃ l xs y,x = .ref l∧vs = []∧H l = some (.lst xs)∧xs[xs.length - 1]? = some y∧Q y (upd H l (.lst xs.dropLast))
theorem zd2 : MtM X "list.pop" zfB:=by
 intro pins s σ H x vs v us Q I rx rv h
 obtain ⟨l,xs,y,rfl,rfl,hH,hy,q⟩:=h
 cases rx
 have hus:=rv.zero
 subst hus
 obtain ⟨z,its,n,r,hl,e⟩:=I.lstM hH
 obtain ⟨u,hu,ru⟩:=r.get hy
 have hy' : its.toArray[its.toArray.size - 1]? = some u:=by
  show its.toArray[its.length - 1]? = some u
  rw [← Array.getElem?_toList,← hl]
  exact hu
 refine call_meets F.slot_list_pop ⟨_,e,rfl⟩ F.entry_list_pop (F.args_list_pop_1 _) (MeetsSeq.list_pop_last l its.toArray n u hy' (by rw [List.size_toArray]; omega)) ⟨e,?_⟩
 refine ⟨y,_,I.lset (its':=its.dropLast) hH e ?_ r.dropLast ?_,ru,q⟩
 ·show its.toArray.eraseIdxIfInBounds (its.toArray.size - 1) = its.dropLast.toArray
  rw [List.size_toArray,List.eraseIdxIfInBounds_toArray,zaz]
 ·rw [List.length_dropLast]
  omega
def zd6 : V->List V->Hp->VK->Prop:=fun x vs H Q=>∃ l xs i k y,x = .ref l∧vs = [.int i]∧H l = some (.lst xs)∧-(2 ^ 63)≤i∧i < 2 ^ 63∧seqIndex? i xs.length = some k∧xs[k]? = some y∧Q y (upd H l (.lst (xs.eraseIdx k)))
theorem zcB : MtM X "list.pop" zd6:=by
 intro pins s σ H x vs v us Q I rx rv h
 obtain ⟨l,xs,i,k,y,rfl,rfl,hH,h1,h2,hk,hy,q⟩:=h
 cases rx
 obtain ⟨u,rfl,ru⟩:=rv.one
 obtain ⟨t,rfl⟩:=ru
 obtain ⟨z,its,n,r,hl,e⟩:=I.lstM hH
 obtain ⟨w,hw,rw'⟩:=r.get hy
 refine call_meets F.slot_list_pop ⟨_,e,rfl⟩ F.entry_list_pop (F.args_list_pop_2 _ _)
  (MeetsSeq.list_pop_at l its.toArray n i t k w (fitsIndex_both h1 h2) (by rw [List.size_toArray,← hl]; exact hk) (by rw [← Array.getElem?_toList]; exact hw) (by rw [List.size_toArray]; omega)) ⟨e,?_⟩
 refine ⟨y,_,I.lset (its':=its.eraseIdx k) hH e ?_ (r.eraseIdx k) ?_,rw',q⟩
 ·show its.toArray.eraseIdxIfInBounds k = (its.eraseIdx k).toArray
  rw [List.eraseIdxIfInBounds_toArray]
 ·have:=Wr xs k
  omega
def zfy : R2:=fun x y H Q=>∃ l b xs zs,x = .ref l∧y = .ref b∧H l = some (.lst xs)∧H b = some (.lst zs)∧xs.length + zs.length≤sizeLine∧∀ p,H p = none->Q (.ref p) (upd H p (.lst (xs ++ zs)))
theorem Xa : OpR X (binaryOp .Add) zfy:=by
 intro pins s σ H x y v u Q I rx ry h
 obtain ⟨l,b,xs,zs,rfl,rfl,hH,hB,hz,q⟩:=h
 cases rx
 cases ry
 obtain ⟨z,its,n,r,hl,e⟩:=I.lstM hH
 obtain ⟨z2,its2,n2,r2,hl2,e2⟩:=I.lstM hB
 refine PySem.P.add_list e e2 ?_ (by rw [List.size_toArray,List.size_toArray]; omega)
 have ea : its.toArray ++ its2.toArray = (its ++ its2).toArray:=by simp
 rw [ea]
 exact ⟨.ref _,_,I.lnew (t':=s.toks) (r.append r2) (by rw [List.length_append]; omega),rfl,q _ I.fresh⟩
def zfr : R2:=fun x y H Q=>∃ l k xs,x = .ref l∧y = .int k∧H l = some (.lst xs)∧-(2 ^ 63)≤k∧k < 2 ^ 63∧xs.length * k.toNat≤sizeLine ∧
 ∀ p,H p = none->Q (.ref p) (upd H p (.lst (List.replicate k.toNat xs).flatten))
theorem len_rep {α : Type} (xs : List α) (k : Nat) : (List.replicate k xs).flatten.length = k * xs.length:=by
 induction k with
 | zero=>simp
 | succ k ih=>rw [List.replicate_succ,List.flatten_cons,List.length_append,ih,Nat.succ_mul,Nat.add_comm]
theorem zcz : OpR X (binaryOp .Mult) zfr:=by
 intro pins s σ H x y v u Q I rx ry h
 obtain ⟨l,k,xs,rfl,rfl,hH,h1,h2,hz,q⟩:=h
 cases rx
 obtain ⟨t,rfl⟩:=ry
 obtain ⟨z,its,n,r,hl,e⟩:=I.lstM hH
 have hlen : its.toArray.size * k.toNat≤sizeLine:=by rw [List.size_toArray,← hl]; exact hz
 have hcap : ¬ its.toArray.size * k.toNat > (2 ^ 63 - 1) / 8:=by
  have : (sizeLine : Nat)≤(2 ^ 63 - 1) / 8:=by decide
  omega
 have hfit : ¬ (!Builtin.List.listFitsIndex k) = true:=by
  rw [fitsIndex_both h1 h2]
  exact Bool.false_ne_true
 have hlong : ¬ Builtin.List.listTooLong (its.toArray.size * k.toNat) = true:=by
  rw [zar hlen]
  exact Bool.false_ne_true
 have hnew : List.foldl (fun x1 x2=>x1 ++ x2) #[] (List.replicate (if its.toArray.isEmpty = true then 0 else k.toNat) its.toArray) = (List.replicate k.toNat its).flatten.toArray:=by
  have f0 : ∀ m : Nat,List.foldl (fun x1 x2=>x1 ++ x2) #[] (List.replicate m its.toArray) = (List.replicate m its).flatten.toArray:=fun m=>by
   have:=foldl_rep its m []
   rw [List.nil_append] at this
   exact this
  rw [f0]
  cases its with
  | nil=>simp
  | cons a r'=>rw [if_neg (by simp)]
 refine wpAny_binaryOp_repeat_ref (T:="list") (U:="int") (by decide) ⟨_,e,rfl⟩ (fun s'=>typeIs_int s' k t) noFill_list_mul F.fills_int_mul F.slot_int_rmul repeat_list F.slot_int_index.lookup
  (call_meets F.slot_int_rmul (typeIs_int s k t) F.entry_int_rmul (F.args_int_rmul_2 _ _) (int___rmul___int_list k t l its.toArray n)
   ⟨e,rfl,⟨_,e,rfl⟩,call_meets F.slot_list_mul ⟨_,e,rfl⟩ F.entry_list_mul (F.args_list_mul_2 _ _) (AutoListH.list___mul___list_int_3 l its.toArray n k t hfit hcap hlong) ⟨e,?_⟩⟩)
 rw [hnew]
 exact ⟨.ref _,_,I.lnew (t':=s.toks) (r.rep k.toNat) (by rw [len_rep,Nat.mul_comm]; exact hz),rfl,q _ I.fresh⟩
end
section
variable {prog : Program} {w : World} {A : Around} {E : Value->Shared->Prop} {s : Shared}
end
section
variable {X : Cx}
end
end L2
namespace Att
open PySem PySem.W PySem.Calls PyProof.Rows
theorem Vh {P : Params} {h : Heap} : ∀ (ns : List Int) (vs : List Value),WellAll P h vs (ns.map WData.int)->IntsAre vs ns:=by
 intro ns
 induction ns with
 | nil =>
  intro vs w
  rw [List.map_nil] at w
  cases w
  exact .nil
 | cons n ns ih =>
  intro vs w
  rw [List.map_cons] at w
  cases w with
  | cons a b =>
   cases a
   exact .cons _ _ (ih _ b)
theorem zbF {l : OpenLaw} {n : Nat} (hn : l.most = some n) {P : Params} {h : Heap} {args : List WData} {vals : List Value}
  (hpre : l.row.toRowW.claim.pre args = true) (hwl : WellAll P h vals args) :
  ∃ a vs ns,vals = [Value.ref a]∧args = [WData.list (ns.map WData.int)]∧h.get? a = some { cls:=.type "list",data:=.seq vs.toArray }∧IntsAre vs ns∧ns.length≤n:=by
 have hsh : WShape.hasAll [] args [.list .int] = true:=(pre_splitW hpre).1
 have hc : l.pre.holds [] { args:=args } = true:=(pre_splitW hpre).2
 obtain ⟨d,r,rfl,h1,h2⟩:=hasAllW_cons hsh
 obtain rfl:=hasAllW_nil h2
 obtain ⟨xs,rfl,h3⟩:=hasW_list h1
 obtain ⟨ns,rfl⟩:=items_int h3
 have hlen : ns.length≤n:=by
  unfold OpenLaw.pre at hc
  have h4 : (WTm.not (.lt (.lit (.int (n : Int))) (.len (.arg 0)))).holds [] { args:=[.list (ns.map .int)] } = true:=by
   have h4:=(holds_andW hc).1
   rw [hn] at h4
   exact h4
  have h5:=condW_of h4 (w_not (w_lt w_lit (w_len_list (w_arg rfl))))
  rw [List.length_map] at h5
  refine Nat.le_of_not_lt fun q=>?_
  have q' : (n : Int) < ((ns.length : Nat) : Int):=by omega
  first
   | (rw [decide_eq_true q'] at h5; exact absurd h5 (by decide))
   | (simp at h5; omega)
 cases hwl with
 | cons w1 w2 =>
  cases w2
  cases w1 with
  | list ho hall=>exact ⟨_,_,ns,rfl,rfl,ho,Vh ns _ hall,hlen⟩
theorem zbI (l : OpenLaw) (args : List WData) : l.row.toRowW.claim.post args (.bool true) args = true :=
 postW_of (r:=l.row.toRowW) (X:=(true == true))
  (show WShape.has [] (.bool true) .bool = true by first | rfl | decide | simp [WShape.has,WShape.arms,WShape.armsAll])
  (show (WTm.eq .res (.lit (.bool true))).value [] { args:=args,res:=some (.bool true),after:=args } = some (.bool (true == true)) from w_eq_bool (w_res rfl) w_lit) rfl
theorem JG {l : OpenLaw} {n : Nat} {q : Program} {loose : List Str} {XP : (Str->Option Value)->Heap->Prop} {YP : World->Heap->Prop} {d : DefRec}
  (hn : l.most = some n) (hdf : d.params.defaults = [])
  (call : ∀ (w : World) (s₀ s₁ : Shared) (mg mb : Str->Option Value) (fa : Addr) (o : Obj) (pm cd doc : Value) (a : Addr) (vs : List Value) (ns : List Int),
   Ground q loose [] XP w s₀ mg mb s₁.heap->YP w s₁.heap ->
   s₁.heap.get? fa = some o->o.data = .func (docDef d.name d.params d.body d.scope pm cd doc)->s₁.heap.CodeRec cd d.name->mg d.name = some (.ref fa) ->
   s₁.heap.get? a = some { cls:=.type "list",data:=.seq vs.toArray }->IntsAre vs ns->ns.length≤n->s₁.gens = #[] ->
   codeAny (model l.prog w) callerA (.call (.ref fa) ⟨[.ref a],[]⟩) (fun r s'=>r = .ok (.ret (.bool true))∧OldK s₁.heap s'.heap∧s'.os = s₁.os∧AllBare s'.gens) s₁) :
  WalkO q loose XP YP l.row.toRowW d [] (fun f vs=>PySem.call f vs):=by
 intro w s₀ s₁ mg mb G Y fa o pm cd doc dV kV ho hd hcd hD hmg hg args vals as hpre hlay hrd hwl hlo
 obtain rfl : dV = .none:=Dflts.none hD hdf
 obtain rfl : kV = .none:=Dflts.noKw hD
 obtain ⟨a,vs,ns,rfl,rfl,hobj,hints,hlen⟩:=zbF hn hpre hwl
 refine enter_call (codeAny_mono (call w s₀ s₁ mg mb fa o pm cd doc a vs ns G Y ho (fd_plain hd) hcd hmg hobj hints hlen hg) fun r s' hq=>?_)
 obtain ⟨rfl,h2,h3,h4⟩:=hq
 exact ⟨.inl ⟨.bool true,.bool true,[],rfl,fun _=>rfl,.bool true,zbI l _,fun _=>⟨List.Pairwise.nil,fun _ hm=>(nomatch hm)⟩⟩,h2,h3,h4⟩
section
variable {prog : Program} {w : World} {A : Around} {E : Value->Shared->Prop} {s : Shared} {K : Frag}
end
end Att
namespace L2
open PySem PySem.Spec PyProof.Rows
theorem QG : ∀ {vs : List Value} {ns : List Int},IntsAre vs ns->Vals (ns.map V.int) vs
 | _,_,.nil=>.nil
 | _,_,.cons n t h=>.cons ⟨t,rfl⟩ (QG h)
def inClass (s : Stmt) (j : Nat) : Stmt:=match s with
 | .ClassDef _ _ _ body _ _ _ _ _ _ _=>body.getD j (.Pass ⟨0,0,0,0⟩)
 | _=>.Pass ⟨0,0,0,0⟩
def vf (s : Stmt) : Arguments:=match s with
 | .FunctionDef _ a _ _ _ _ _ _ _ _=>a
 | _=>{ posonlyargs:=[],args:=[],vararg:=none,kwonlyargs:=[],kw_defaults:=[],kwarg:=none,defaults:=[] }
def yZ (s : Stmt) : List Stmt:=match s with
 | .FunctionDef _ _ b _ _ _ _ _ _ _=>b
 | _=>[]
def zu (s : Stmt) : Scope:=match s with
 | .FunctionDef _ _ _ _ _ _ sc _ _ _=>sc
 | _=>{ kind:=.function,names:=[],isGenerator:=false,isCoroutine:=false }
abbrev CX0 : CXT:=fun _ _ _ _ _ _=>False
abbrev E0 : XK:=fun _ _ _=>False
theorem zap {X : Cx} : Ws CX0 X E0:=fun _ _ _ _ _ _ _ h=>h.elim
structure Fun (K : PySem.W.Frag) (x qual : Str) (st : Stmt) (f : Addr) (fd : FuncData) : Prop where
 ex : ∃ (oc : Value) (od : Option Addr) (kV doc pm : Value) (an : Option Addr) (cdv ct : Value) (osl : Array (Option Value)),
  fd = PySem.W.fnOf x qual (vf st) (yZ st) (zu st) .none kV doc pm an cdv ct∧K.lookup f = some ⟨oc,od,.func fd,osl⟩∧PySem.W.codeIn K cdv qual = true
 kp : PySem.W.keepIn K (.ref f) = true
section
variable {P : Program} {w : World} {K : PySem.W.Frag} {mg : Str->Option Value} {base : Heap}
theorem Fun.ok {x qual : Str} {st : Stmt} {f : Addr} {fd : FuncData} {N ps : List Str} {k : Nat} {sp : Sp} (F : Fun K x qual st f fd) (S : zE N ps (zu st)) (len : ∀ vs H Q E,sp vs H Q E->vs.length = ps.length)
  (hbody : ∀ (cdv : Value) (A : Around) (outer : List Env) (s : Shared) (H : Hp) (vs : List V) (Q : VK) (E : XK),Room k (A.deeper (envOfC qual (zu st) s.heap.objs.size f cdv))->sp vs H Q E ->
   ∃ t,PSs (Vm CX0 P w K mg base N qual (zu st) f cdv A outer s H E).nox (yZ st) t∧t { nx:=fun _ H'=>Q .non H',rt:=Q } (start N vs) H) : FnOk P w K mg base CX0 (k + 1) f fd ps sp:=by
 obtain ⟨oc,od,kV,doc,pm,an,cdv,ct,osl,rfl,lk,hcd⟩:=F.ex
 refine zdX lk hcd S len fun A outer s H vs Q E hr hsp=>?_
 obtain ⟨t,h,q⟩:=hbody cdv A outer s H vs Q E hr hsp
 exact ⟨t,h.nox,q⟩
theorem Fun.binds {x qual : Str} {st : Stmt} {f : Addr} {fd : FuncData} {ps : List Str} (F : Fun K x qual st f fd)
  (h : ∀ (kV doc pm : Value) (an : Option Addr) (cdv ct : Value) (us : List Value),us.length = ps.length->bindArgs (PySem.W.fnOf x qual (vf st) (yZ st) (zu st) .none kV doc pm an cdv ct) ⟨us,[]⟩ = pure (ps.zip us)) : Binds K fd ps []:=by
 obtain ⟨oc,od,kV,doc,pm,an,cdv,ct,osl,rfl,lk,hcd⟩:=F.ex
 exact .all (h kV doc pm an cdv ct)
theorem Q5 {x qual : Str} {st : Stmt} {f : Addr} {oc : Value} {od an : Option Addr} {osl : Array (Option Value)} {kV doc pm cdv ct : Value} (l : K.lookup f = some ⟨oc,od,.func (PySem.W.fnOf x qual (vf st) (yZ st) (zu st) .none kV doc pm an cdv ct),osl⟩)
  (c : PySem.W.codeIn K cdv qual = true) (k : PySem.W.keepIn K (.ref f) = true) : Fun K x qual st f (PySem.W.fnOf x qual (vf st) (yZ st) (zu st) .none kV doc pm an cdv ct):=⟨⟨oc,od,kV,doc,pm,an,cdv,ct,osl,rfl,l,c⟩,k⟩
end
section
variable {X : Cx}
theorem pv (i : Nat) {x : Str} {pos : Pos} (hN : X.N[i]? = some x:=by rfl) (hv : Vis X.env.scope x:=by first | exact Or.inl rfl | exact Or.inr (Or.inl rfl) | exact Or.inr (Or.inr rfl)) (hd : (x == ("__debug__" : Str)) = false:=by decide)
  (hcd : (x == ("__classdict__" : Str)) = false:=by decide) : PE X (.Name x pos) (Vl i):=zea hN hv hd hcd
end
theorem xW {A B : Prop} (h : B) : if false = true then A else B:=by
 rw [if_neg Bool.false_ne_true]
 exact h
theorem wF {A B : Prop} (h : A) : if true = true then A else B:=by
 rw [if_pos rfl]
 exact h
theorem Uu {c A B : Prop} [Decidable c] (h1 : c->A) (h2 : ¬ c->B) : if c then A else B:=by
 by_cases h : c
 ·rw [if_pos h]
  exact h1 h
 ·rw [if_neg h]
  exact h2 h
def Same (H H' : Hp) : Prop:=∀ b o,H b = some o->H' b = some o
theorem Same.refl (H : Hp) : Same H H:=fun _ _ h=>h
theorem Same.trans {H H1 H2 : Hp} (a : Same H H1) (b : Same H1 H2) : Same H H2:=fun c o h=>b c o (a c o h)
theorem Same.free {H H' : Hp} (e : Same H H') {l : Addr} (h : H' l = Option.none) : H l = Option.none:=by
 cases q : H l with
 | none=>rfl
 | some o =>
  rw [e l o q] at h
  cases h
theorem Same.seq {K : PySem.W.Frag} {H H' : Hp} {a : Addr} {xs : List V} (e : Same H H') (h : SqL K H a xs) : SqL K H' a xs:=by
 rcases h with (h | ⟨o,h⟩) | h
 ·exact .inl (.inl (e _ _ h))
 ·exact .inl (.inr ⟨o,e _ _ h⟩)
 ·exact .inr h
def xV (cells : List (Str × Addr)) : List (Str × NameKind)->List (Str × Addr)->List (Str × Addr)
 | [],cs=>cs
 | (n,k) :: r,cs=>xV cells r (if k = .free then (match cells.lookup n with | some c=>(n,c) :: cs | none=>cs) else cs)
theorem Z0 {env : Env} : ∀ (names : List (Str × NameKind)) (cs : List (Str × Addr)),(∀ x ∈ names,x.2 = .free->∃ c,env.cells.lookup x.1 = some c) ->
  (forIn names cs fun (x : Str × NameKind) (r : List (Str × Addr))=>if (x.2 == .free) = true then (do let c ← cellOf env x.1; pure (ForInStep.yield ((x.1,c) :: r)) : Sem _) else pure (ForInStep.yield r)) = pure (xV env.cells names cs)
 | [],cs,_=>rfl
 | (n,k) :: r,cs,h=>by
  have ih:=fun cs'=>Z0 (env:=env) r cs' fun x hx=>h x (List.mem_cons_of_mem _ hx)
  rw [List.forIn_cons]
  by_cases hk : k = .free
  ·subst hk
   obtain ⟨c,hc⟩:=h (n,.free) List.mem_cons_self rfl
   have e : cellOf env n = pure c:=by unfold cellOf; rw [hc]
   simp only [beq_self_eq_true,if_true,e,pure_bind,xV,hc]
   exact ih _
  ·have hb : (k == NameKind.free) = false:=by simpa using hk
   simp only [hb,Bool.false_eq_true,if_false,pure_bind,xV,hk]
   exact ih _
theorem jN {scope : Scope} {env : Env} (h : ∀ x ∈ scope.names,x.2 = .free->∃ c,env.cells.lookup x.1 = some c) : closureFor scope env = pure (xV env.cells scope.names []):=by
  have e:=Z0 scope.names [] h
  unfold closureFor
  first
    | (simp only [bind_pure]; exact e)
    | (show (forIn scope.names [] _ >>= fun r=>pure r) = _
       rw [show (forIn scope.names ([] : List (Str × Addr)) _ : Sem _) = _ from e]
       rfl)
theorem vO {cells : List (Str × Addr)} {y : Str} {c : Addr} : ∀ {names : List (Str × NameKind)} {cs : List (Str × Addr)},(∀ y c,cs.lookup y = some c->cells.lookup y = some c)->(xV cells names cs).lookup y = some c->cells.lookup y = some c
 | [],cs,h,e=>h y c e
 | (n,k) :: r,cs,h,e=>by
  refine vO (names:=r) ?_ e
  intro y' c' e'
  by_cases hk : k = .free
  ·rw [if_pos hk] at e'
   cases q : cells.lookup n with
   | none=>rw [q] at e'; exact h _ _ e'
   | some d =>
    rw [q] at e'
    simp only [List.lookup_cons] at e'
    cases hb : y' == n with
    | true =>
     rw [hb] at e'
     cases e'
     have : y' = n:=by simpa using hb
     rw [this]; exact q
    | false=>rw [hb] at e'; exact h _ _ e'
  ·rw [if_neg hk] at e'; exact h _ _ e'
theorem Xu {cells : List (Str × Addr)} {y : Str} : ∀ {names : List (Str × NameKind)} {cs : List (Str × Addr)},((∃ c,cs.lookup y = some c)∨((y,NameKind.free) ∈ names∧∃ c,cells.lookup y = some c))->∃ c,(xV cells names cs).lookup y = some c
 | [],cs,h=>by
  rcases h with h | ⟨h,_⟩
  ·exact h
  ·cases h
 | (n,k) :: r,cs,h=>by
  refine Xu (names:=r) ?_
  rcases h with ⟨c,h⟩ | ⟨h,c,hc⟩
  ·left
   by_cases hk : k = .free
   ·rw [if_pos hk]
    cases q : cells.lookup n with
    | none=>exact ⟨c,h⟩
    | some d =>
     simp only [List.lookup_cons]
     cases hb : y == n with
     | true=>exact ⟨d,rfl⟩
     | false=>exact ⟨c,h⟩
   ·rw [if_neg hk]; exact ⟨c,h⟩
  ·rcases List.mem_cons.mp h with e | h
   ·cases e
    left
    rw [if_pos rfl,hc]
    exact ⟨c,by simp⟩
   ·exact .inr ⟨h,c,hc⟩
theorem yN {env : Env} : ∀ {names : List (Str × NameKind)} {x : Str} {k : NameKind},
  (names.map fun (n,k)=>if (k == NameKind.free && env.scope.kind == .function && env.kindOf n == some .cell) then (n,NameKind.cell) else (n,k)).lookup x = some k->names.lookup x = some k∨(k = .cell∧names.lookup x = some .free)
 | [],_,_,h=>by simp at h
 | (n,k0) :: r,x,k,h=>by
  have ih:=@yN env r x k
  rw [List.map_cons] at h
  by_cases hc : (k0 == NameKind.free && env.scope.kind == .function && env.kindOf n == some .cell) = true
  ·simp only [hc,if_true,List.lookup_cons] at h
   have hk0 : k0 = .free:=by
    simp only [Bool.and_eq_true] at hc
    simpa using hc.1.1
   cases hx : x == n with
   | true=>rw [hx] at h; cases h; right; simp [List.lookup_cons,hx,hk0]
   | false=>rw [hx] at h; simp only [List.lookup_cons,hx]; exact ih h
  ·have hc' : (k0 == NameKind.free && env.scope.kind == .function && env.kindOf n == some .cell) = false:=by simpa using hc
   simp only [hc',Bool.false_eq_true,if_false,List.lookup_cons] at h
   cases hx : x == n with
   | true=>rw [hx] at h; cases h; left; simp [List.lookup_cons,hx]
   | false=>rw [hx] at h; simp only [List.lookup_cons,hx]; exact ih h
def cxC (X : Cx) (N : List Str) (scope : Scope) (C : Addr) (s₀ : Shared) (H₀ : Hp) (ex : List Addr) : Cx where
 prog:=X.prog
 w:=X.w
 K:=X.K
 mg:=X.mg
 base:=X.base
 A:=X.A
 N:=N
 s₀:=s₀
 H₀:=H₀
 env:=compEnvC scope (xV X.env.cells scope.names []) C X.env
 outer:=X.stack
 stack:=X.stack
 ex:=ex
 fn:=fun _=>false
 calm:=X.calm
 pn:=[]
 xe:=fun _ _=>False
def yU (js : List Nat) (σ : St) : St:=js.map fun j=>(σ[j]?).join
theorem JP {js : List Nat} {σ : St} {i : Nat} {v : V} (h : (yU js σ)[i]? = some (some v)) : ∃ j,js[i]? = some j∧σ[j]? = some (some v):=by
 unfold yU at h
 rw [List.getElem?_map] at h
 cases e : js[i]? with
 | none=>rw [e] at h; cases h
 | some j =>
  rw [e] at h
  have h' : (σ[j]?).join = some v:=Option.some.inj h
  refine ⟨j,rfl,?_⟩
  cases q : σ[j]? with
  | none=>rw [q] at h'; cases h'
  | some z=>rw [q] at h'; exact congrArg some h'
structure CScope (sc : Scope) (scope : Scope) (x : Str) (M : List Str) (ys : List Str) (js : List Nat) : Prop where
 kind : scope.kind = .function
 cell : ∀ y ∈ scope.names,y.2 ≠ .cell
 loc : ∀ y ∈ scope.names,y.2 = .local->scope.names.lookup y.1 = some .local
 var : scope.names.lookup x = some .local
 free : ∀ y ∈ scope.names,y.2 = .free->sc.names.lookup y.1 = some .cell∨sc.names.lookup y.1 = some .free
 caps : js.map (M[·]?) = ys.map some
 fr : ∀ y ∈ ys,scope.names.lookup y = some .free
 nd : (x :: ys).Nodup
section
variable {X : Cx} {pins : List (Addr × Obj)} {σ : St} {H : Hp} {s : Shared}
theorem zcU {scope : Scope} {x : Str} {ys : List Str} {js : List Nat} {fp : List Addr} {h₁ : Heap} {tk : Nat} {C : Addr} (I : Inv X pins σ H s) (S : CScope X.env.scope scope x X.N ys js) (hf : ∀ b ∈ fp,Wg X pins H b) (ho : ∀ b ∈ fp,∃ o,s.heap.get? b = some o)
  (hC : s.heap.objs.size≤C) (hk : ∀ b o,s.heap.get? b = some o->h₁.get? b = some o) (hn : h₁.Ns C fun _=>none) :
  Inv (cxC X (x :: ys) scope C s H fp) [] (none :: yU js σ) H { s with heap:=h₁,toks:=tk }:=by
 have sub : ∀ y c,(xV X.env.cells scope.names []).lookup y = some c->X.env.cells.lookup y = some c:=fun y c e=>vO (fun _ _ z=>by simp at z) e
 have has : ∀ y,scope.names.lookup y = some .free->∃ c,(xV X.env.cells scope.names []).lookup y = some c:=fun y e=>by
  have m : (y,NameKind.free) ∈ scope.names:=PySem.mem_of_lookup e
  exact Xu (.inr ⟨m,I.ok.has y (S.free _ m rfl)⟩)
 have lt : ∀ b ∈ fp,b < s.heap.objs.size:=fun b hb=>by obtain ⟨o,e⟩:=ho b hb; exact Heap.lt_size e
 have ok : (cxC X (x :: ys) scope C s H fp).Ok:=by
  refine ⟨I.ok.mod,S.kind,I.ok.glob,I.ok.blt,hC,fun y z c e1 e2=>I.ok.inj y z c (sub _ _ e1) (sub _ _ e2),fun y hy=>?_,fun y c z=>?_,I.ok.hd,I.ok.frames,.inl rfl,fun b hb=>?_,I.bs,Nat.le_trans I.ok.bsz I.sz,fun b o e hb=>?_,fun b hb z=>?_,I.stack,I.stkFree⟩
  ·have hy' : (relabel scope X.env).names.lookup y = some .cell∨(relabel scope X.env).names.lookup y = some .free:=hy
   have nocell : scope.names.lookup y ≠ some .cell:=fun z=>S.cell _ (PySem.mem_of_lookup z) rfl
   rcases hy' with e | e
   ·rcases yN e with z | ⟨_,z⟩
    ·exact absurd z nocell
    ·exact has y z
   ·rcases yN e with z | ⟨z,_⟩
    ·exact has y z
    ·cases z
  ·exact absurd (show false = true from z) Bool.false_ne_true
  ·refine ⟨Nat.ne_of_lt (Nat.lt_of_lt_of_le (lt b hb) hC),fun y c e=>(hf b hb).2.2.2.2.1 y c (sub y c e)⟩
  ·rcases (hf b hb).2.2.2.1 with z | z
   ·exact I.ok.noex b o e z
   ·exact absurd (Nat.lt_of_lt_of_le (Heap.lt_size e) (Nat.le_trans I.ok.bsz z)) (Nat.lt_irrefl _)
  ·rcases List.mem_cons.mp (I.stkSub b z) with e | e
   ·exact (hf b hb).2.1 e
   ·exact (hf b hb).2.2.1 e
 refine ⟨ok,rfl,I.bare,Un.kept hk,⟨_,hn,fun i y v e1 e2 e3=>?_⟩,fun y c e=>?_,I.hok.fresh hC,fun y c e=>I.freeC y c (sub y c e),fun p hp=>absurd (show p ∈ ([] : List (Addr × Obj)) from hp) (by simp),I.hok.kept hk,?_⟩
 ·cases i with
  | zero=>simp at e2
  | succ i =>
   have e1' : ys[i]? = some y:=by simpa [cxC] using e1
   have e2' : (yU js σ)[i]? = some (some v):=by simpa using e2
   obtain ⟨j,hj,hσ⟩:=JP e2'
   have hN : X.N[j]? = some y:=by
    have z:=congrArg (fun l=>l[i]?) S.caps
    simp only [List.getElem?_map,hj,e1',Option.map_some] at z
    exact Option.some.inj z
   have hfr:=S.fr y (List.mem_of_getElem? e1')
   have m : (y,NameKind.free) ∈ scope.names:=PySem.mem_of_lookup hfr
   have hkind:=S.free _ m rfl
   obtain ⟨m',hns,hl⟩:=I.loc
   obtain ⟨u,r,lk⟩:=hl j y v hN hσ (by rcases hkind with z | z; exact .inr (.inl z); exact .inr (.inr z))
   refine ⟨u,r,.inr ⟨?_,?_⟩⟩
   ·have e3' : (relabel scope X.env).names.lookup y = some .local∨(relabel scope X.env).names.lookup y = some .cell∨(relabel scope X.env).names.lookup y = some .free:=e3
    rcases e3' with z | z | z
    ·rcases yN z with q | ⟨q,_⟩
     ·rw [hfr] at q; cases q
     ·cases q
    ·exact .inl z
    ·exact .inr z
   ·obtain ⟨c,hc⟩:=has y hfr
    refine ⟨c,hc,?_⟩
    rcases lk with ⟨z,_⟩ | ⟨_,c',hc',cell⟩
    ·rcases hkind with q | q
     ·have q' : X.env.kindOf y = some .cell:=q
      rw [show X.env.kindOf y = some .local from z] at q'; cases q'
     ·have q' : X.env.kindOf y = some .free:=q
      rw [show X.env.kindOf y = some .local from z] at q'; cases q'
    ·rw [sub y c hc] at hc'
     cases hc'
     obtain ⟨o,e,d⟩:=cell
     exact ⟨o,hk _ _ e,d⟩
 ·obtain ⟨v,o,e',d⟩:=I.cell y c (sub y c e)
  exact ⟨v,o,hk _ _ e',d⟩
 ·have z:=congrArg List.length S.caps
  simp only [List.length_map] at z
  show (none :: yU js σ).length = (x :: ys).length
  simp [yU,z]
end
theorem zbD {α β : Type} {M : Model} {A : Around} {a : α} {Q : α->Shared->Prop} {E E' : Value->Shared->Prop} {s : Shared} {t : Sem β} {Q' : β->Shared->Prop} (h : wpAny M A (pure a) Q E s) (k : Q a s->wpAny M A t Q' E' s) : wpAny M A t Q' E' s :=
 fun Γ p hΓ=>k (h Γ p hΓ) Γ p hΓ
def PTs (X : Cx) (ifs : List Expr) (t : TT) : Prop :=
 ∀ (pins : List (Addr × Obj)) (s : Shared) (σ : St) (H : Hp) (Q : Bool->Hp->Prop),Inv X pins σ H s->t σ H Q ->
  wpAny (model X.prog X.w) X.A (forIn ifs true fun c r=>if r = true then do let ok ← isTrue c X.env (eval c X.env); pure (ForInStep.yield ok) else pure (ForInStep.yield r)) (TP X pins σ Q) X.xe s
def jo : TT:=fun _ H Q=>Q true H
theorem yE {X : Cx} : PTs X [] jo:=fun pins s σ H Q I h=>wpAny_tests_nil ⟨H,I,h⟩
theorem Vw {X : Cx} {c : Expr} {t : TT} (h : PT X c t) : PTs X [c] t:=fun pins s σ H Q I hw=>wpAny_tests_one (h pins s σ H Q I hw)
def CompLoop (J : It) (js : List Nat) (tt : TT) (te : TE) (σ : St) (Q : VK) (H : Hp) : Prop:=∃ W : Nat->Nat->List V->Hp->Prop,(∃ m,W 0 m [] H)∧∀ i m ys H,W i m ys H ->
 (J.stop i H∧∀ D,H D = none->Q (.ref D) (upd H D (.lst ys))) ∨
 (J.go i H∧ys.length < sizeLine∧∃ N : List V->Hp->Prop,(∀ ys' H',N ys' H'->∃ m',m' < m∧W (i + 1) m' ys' H')∧∀ x H',J.yld i H x H'->tt (some x :: yU js σ) H' fun b H2=>if b = true then te (some x :: yU js σ) H2 fun v H3=>N (ys ++ [v]) H3 else N ys H2)
def zdZ (wi : TI) (js : List Nat) (tt : TT) (te : TE) : TE:=fun σ H Q=>wi σ H fun J H1=>CompLoop J js tt te σ Q H1
theorem HOk.track {P : Program} {w : World} {H : Hp} {h : Heap} {a : Addr} {o : HO} (x : HOk P w H h) (hn : H a = none) (new : ObjOk P w (upd H a o) h a o) : HOk P w (upd H a o) h:=fun b u e=>by
 by_cases hb : b = a
 ·subst hb; rw [zf] at e; cases e; exact new
 ·rw [zq hb] at e
  exact (x b u e).stay (fun _ _ _ q=>q) (fun c q=>by rw [zq (zy q hn)]; exact q) fun c xs q=>by rw [zq (zy q hn)]; exact q
section
variable {X : Cx} {elt iter : Expr} {ifs : List Expr} {x : Str} {px pos : Pos} {scope : Scope} {ys : List Str} {js : List Nat} {wi : TI} {tt : TT} {te : TE}
theorem Uh {pins : List (Addr × Obj)} {σ : St} {H : Hp} {s : Shared} {J : It} {fp : List Addr} {it : Addr} {tn : Nat->Heap->Prop} {Q : VK} {E : Value->Shared->Prop} {R : Value->Addr->Result->Shared->Prop}
  (S : CScope X.env.scope scope x X.N ys js) (hc : X.calm = true) (ht : ∀ C s₀ H₀ ex,PTs (cxC X (x :: ys) scope C s₀ H₀ ex) ifs tt) (he : ∀ C s₀ H₀ ex,PE (cxC X (x :: ys) scope C s₀ H₀ ex) elt te)
  (I : Inv X pins σ H s) (T : Turn X.prog X.w X.K (.Name x px) J fp it tn) (st : tn 0 s.heap) (hf : ∀ b ∈ fp,Wg X pins H b)
  (hw : ∃ W : Nat->Nat->List V->Hp->Prop,(∃ m,W 0 m [] H)∧∀ i m zs H,W i m zs H ->
   (J.stop i H∧∀ D,H D = none->Q (.ref D) (upd H D (.lst zs))) ∨
   (J.go i H∧zs.length < sizeLine∧∃ N : List V->Hp->Prop,(∀ ys' H',N ys' H'->∃ m',m' < m∧W (i + 1) m' ys' H')∧∀ x H',J.yld i H x H'->tt (some x :: yU js σ) H' fun b H2=>if b = true then te (some x :: yU js σ) H2 fun v H3=>N (zs ++ [v]) H3 else N zs H2))
  (hR : ∀ D C s' H' m',Inv X pins σ H' s'->Q (.ref D) H'->s.heap.objs.size≤C->H' C = none->s'.heap.Ns C m'->R (.ref D) C (.ok .next) s') :
  wpAny (model X.prog X.w) X.A (newList []) (fun acc s₃=>wpAny (model X.prog X.w) X.A (newFunctionEnv scope X.env.globals (xV X.env.cells scope.names []) [] X.env.qual none .none (some X.env)) (fun cenv s₄ =>
   codeAny (model X.prog X.w) X.A (.compStart (.ListComp elt [⟨.Name x px,iter,ifs,0⟩] scope pos) 0 (.ref it) acc { cenv with scope:=relabel scope X.env }) (R acc cenv.locals) s₄) E s₃) E s:=by
 obtain ⟨W,⟨m0,w0⟩,turn⟩:=hw
 refine wpAny_newObj_type (wpAny_newFunctionEnv S.cell (by intro y hy; simp at hy) (fun h₁ hns₁ hsb₁=>?_) S.kind)
 dsimp only at hns₁ hsb₁ ⊢
 generalize hH2 : s.heap.push { cls:=.type "list",dict:=none,data:=.seq ([] : List Value).toArray } = G at hns₁ hsb₁ ⊢
 generalize hD : s.heap.objs.size = D at *
 generalize hCe : G.objs.size = C at *
 have hC : C = D + 1:=by rw [← hCe,← hH2,Heap.size_push,hD]
 have hDlt : D < C:=by rw [hC]; exact Nat.lt_succ_self D
 have hDC : D ≠ C:=Nat.ne_of_lt hDlt
 have old : ∀ b o,s.heap.get? b = some o->h₁.get? b = some o:=fun b o e=>by
  have hb : b < D:=hD ▸ Heap.lt_size e
  exact (hsb₁.2 b (Nat.ne_of_lt (Nat.lt_trans hb hDlt))).trans (Heap.get?_push_of_some _ (hH2 ▸ Heap.get?_push_of_some _ e))
 have hacc : h₁.get? D = some { cls:=.type "list",data:=.seq ([] : List Value).toArray 0 }:=by
  refine (hsb₁.2 D hDC).trans (Heap.get?_push_of_some _ ?_)
  rw [← hH2,← hD]
  exact Heap.get?_push_size _ rfl
 have obj0:=T.obj 0 _ st
 have fplt : ∀ b ∈ fp,b < D:=fun b hb=>by obtain ⟨o,e,_⟩:=obj0 b hb; exact hD ▸ Heap.lt_size e
 generalize hX : cxC X (x :: ys) scope C s H fp = X'
 have I1 : Inv X' [] (none :: yU js σ) H { s with heap:=h₁,toks:=s.toks + ([] : List (Str × Value)).length }:=by
  subst hX
  exact zcU I S hf (fun b hb=>by obtain ⟨o,e,_⟩:=obj0 b hb; exact ⟨o,e⟩) (by omega) old (by simpa using hns₁)
 have eP : X'.prog = X.prog:=by subst hX; rfl
 have eW : X'.w = X.w:=by subst hX; rfl
 have eK : X'.K = X.K:=by subst hX; rfl
 have eA : X'.A = X.A:=by subst hX; rfl
 have eC : X'.calm = true:=by subst hX; exact hc
 have eL : X'.env.locals = C:=by subst hX; rfl
 have eS : X'.s₀ = s:=by subst hX; rfl
 have eN : X'.N = x :: ys:=by subst hX; rfl
 have eE : X'.env = compEnvC scope (xV X.env.cells scope.names []) C X.env:=by subst hX; rfl
 have eXe : X'.xe = fun _ _=>False:=by subst hX; rfl
 have eX : X'.ex = fp:=by subst hX; rfl
 have ePn : X'.pn = []:=by subst hX; rfl
 have efs : ∀ b,b ∈ X'.fs->b ∈ frs X.stack:=fun b z=>by subst hX; exact z
 have cellLt : ∀ y c,X'.env.cells.lookup y = some c->c < D:=fun y c e=>by
  have e' : (xV X.env.cells scope.names []).lookup y = some c:=by rw [eE] at e; exact e
  obtain ⟨v,o,e2,_⟩:=I.cell y c (vO (fun _ _ z=>by simp at z) e')
  exact hD ▸ Heap.lt_size e2
 have frLt : ∀ b,b ∈ X'.fs->b < D:=fun b z=>by
  rcases List.mem_cons.mp (I.stkSub b (efs b z)) with e | e
  ·rw [e]; exact hD ▸ I.lt
  ·exact Nat.lt_of_not_le fun h=>I.nofs (hD ▸ h) e
 have fpOk : ∀ (p : List (Addr × Obj)) (H' : Hp),(∀ b ∈ fp,H' b = none)->(∀ q ∈ p,q.1 = D)->∀ b ∈ fp,Wg X' p H' b:=fun p H' hn hp b hb=>by
  refine ⟨hn b hb,?_,fun z=>?_,.inl (eX ▸ hb),fun y c e=>?_,fun q hq=>?_⟩
  ·rw [eL]; exact Nat.ne_of_lt (Nat.lt_trans (fplt b hb) hDlt)
  ·rcases List.mem_cons.mp (I.stkSub b (efs b z)) with e | e
   ·exact (hf b hb).2.1 e
   ·exact (hf b hb).2.2.1 e
  ·have e' : (xV X.env.cells scope.names []).lookup y = some c:=by rw [eE] at e; exact e
   exact (hf b hb).2.2.2.2.1 y c (vO (fun _ _ z=>by simp at z) e')
  ·rw [ePn,List.nil_append] at hq
   rw [hp q hq]; exact Nat.ne_of_gt (fplt b hb)
 have noCell : ∀ (its : List Value) (k : Nat) v,({ cls:=.type "list",data:=.seq its.toArray k } : Obj).data ≠ .cell v:=fun its k v z=>by cases z
 have done : ∀ {zs : List V} {its : List Value} {k : Nat} {H' : Hp} {s' : Shared},Inv X' [] (none :: yU js σ) H' s'->s'.heap.get? D = some { cls:=.type "list",data:=.seq its.toArray k }->Vals zs its->H' D = none->zs.length≤sizeLine ->
   (∀ D,H' D = none->Q (.ref D) (upd H' D (.lst zs)))->R (.ref D) C (.ok .next) s':=fun {zs its k H' s'} I' hd hv hn hz q=>by
  have un:=I'.base
  obtain ⟨m',hns,_⟩:=I'.loc
  rw [eL] at hns
  have hCn : H' C = none:=by have:=I'.free; rw [eL] at this; exact this
  have hH0 : X'.H₀ = H:=by subst hX; rfl
  rw [hH0,eS,eX] at un
  have un2 : Un (frs X.stack) fp H (upd H' D (.lst zs)) s.heap s'.heap:=by
   have ne : ∀ b o,s.heap.get? b = some o->b ≠ D:=fun b o e=>Nat.ne_of_lt (hD ▸ Heap.lt_size e)
   have un' : Un (frs X.stack) fp H H' s.heap s'.heap:=by subst hX; exact un
   exact ⟨un'.keep,un'.slot,fun b o e n hx=>by rw [zq (ne b o e)]; exact un'.free b o e n hx,un'.there,fun b xs e=>by rw [zq (zy (un'.tups b xs e) hn)]; exact un'.tups b xs e,
    fun b o u e=>by rw [zq (zy (un'.frzs b o u e) hn)]; exact un'.frzs b o u e,fun b ps e=>by
     obtain ⟨more,z⟩:=un'.tbls b ps e
     exact ⟨more,by rw [zq (zy z hn)]; exact z⟩⟩
  have hok : HOk X.prog X.w (upd H' D (.lst zs)) s'.heap:=by
   have h0:=I'.hok
   rw [eP,eW] at h0
   exact h0.track hn ⟨hz,its,k,hv,hd⟩
  have I2 : Inv X pins σ (upd H' D (.lst zs)) s':=I.call' (by have:=I'.os; rw [eS] at this; exact this) un2 hok I'.bare fun b hb=>⟨(hf b hb).2.2.2.1,(hf b hb).2.1,(hf b hb).2.2.2.2.1,(hf b hb).2.2.2.2.2⟩
  exact hR D C s' _ m' I2 (q D hn) (by omega) (by rw [zq (Ne.symm hDC)]; exact hCn) hns
 have loop : codeAny (model X.prog X.w) X.A (.compLoop (.ListComp elt [⟨.Name x px,iter,ifs,0⟩] scope pos) 0 (.ref it) (.ref D) X'.env) (R (.ref D) C) { s with heap:=h₁,toks:=s.toks + ([] : List (Str × Value)).length }:=by
  refine codeAny_compLoop_tests (fun n s'=>∃ i zs its k H',Inv X' [] (none :: yU js σ) H' s'∧tn i s'.heap∧(∀ b ∈ fp,H' b = none)∧s'.heap.get? D = some { cls:=.type "list",data:=.seq its.toArray k }∧Vals zs its∧H' D = none∧zs.length≤sizeLine∧W i n zs H')
   ?_ m0 ⟨0,[],[],0,H,I1,T.keep _ _ _ st (fun b hb o e=>old b o e),fun b hb=>(hf b hb).1,hacc,.nil,I.hok.fresh (by omega),Nat.zero_le _,w0⟩ (fun _=>rfl)
  rintro n s3 ⟨i,zs,its,k,H3,I3,st3,fr3,d3,v3,n3,z3,w3⟩
  have pinD : Inv X' [(D,{ cls:=.type "list",data:=.seq its.toArray k })] (none :: yU js σ) H3 s3:=I3.pins_of fun p hp=>by
   have e : p = (D,{ cls:=.type "list",data:=.seq its.toArray k }):=by simpa using hp
   subst e
   exact ⟨d3,n3,by rw [eL]; exact hDC,fun z=>Nat.lt_irrefl _ (frLt D z),noCell its k⟩
  have hpD : ∀ q ∈ [(D,({ cls:=.type "list",data:=.seq its.toArray k } : Obj))],q.1 = D:=fun q hq=>by
   have e : q = (D,{ cls:=.type "list",data:=.seq its.toArray k }):=by simpa using hq
   rw [e]
  rcases turn i n zs H3 w3 with ⟨stop,qn⟩ | ⟨go,hzl,NN,hNN,step⟩
  ·refine thn (eA ▸ T.done X' eP eW eK eC i _ s3 _ H3 _ pinD (fpOk _ _ fr3 hpD) st3 stop) fun r s4 ⟨hr,I4⟩=>?_
   subst hr
   exact done (I4.pins_of fun p hp=>absurd hp (by simp)) (I4.pin (D,{ cls:=.type "list",data:=.seq its.toArray k }) (List.mem_append_right _ (by simp))).1 v3 n3 z3 qn
  ·refine thn (eA ▸ T.item X' eP eW eK eC i _ s3 _ H3 _ pinD (fpOk _ _ fr3 hpD) st3 go) fun r s4 ⟨u,hr,h4⟩=>?_
   subst hr
   refine zbD (a:=()) h4 fun ⟨v,H5,I5,r5,y5,st5,fr5⟩=>?_
   have I5':=I5.pinned (fpOk _ _ fr5 hpD) (T.obj _ _ st5)
   have ev : ∀ {α : Type} {t : Sem α} {Q' : α->Shared->Prop} {E' : Value->Shared->Prop} {s' : Shared},wpAny (model X'.prog X'.w) X'.A t Q' X'.xe s'->wpAny (model X.prog X.w) X.A t Q' E' s':=fun {α t Q' E' s'} hh=>by
    rw [eP,eW,eA,eXe] at hh
    exact wpAny_mono hh (fun _ _ q=>q) fun _ _ z=>z.elim
   refine ev (thn (zR (X:=X') (i:=0) (by rw [eN]; exact S.nd) (by rw [eN]; rfl) (.inl (by rw [eE]; exact lookup_relabel_local S.var)) (.inr (by rw [eE]; exact lookup_relabel_local S.var)) _ s4 _ H5 v u (fun σ' H'=>σ' = some v :: yU js σ∧H' = H5) I5' r5 ⟨rfl,rfl⟩) fun _ s6 ⟨σ6,H6,I6,e6,e6'⟩=>?_)
   subst e6 e6'
   have back : ∀ {σ' : St} {H7 : Hp} {s7 : Shared},Inv X' ([(D,{ cls:=.type "list",data:=.seq its.toArray k })] ++ Yv fp s4.heap) (some v :: yU js σ) H7 s7->Inv X' [] (none :: yU js σ) H7 s7:=fun {_ H7 s7} I7=>by
    refine (I7.pins_of fun p hp=>absurd hp (by simp)).weak rfl fun i v' e=>?_
    cases i with
    | zero=>simp at e
    | succ i=>simpa using e
   have fps : ∀ {σ' : St} {H7 : Hp} {s7 : Shared},Inv X' ([(D,{ cls:=.type "list",data:=.seq its.toArray k })] ++ Yv fp s4.heap) σ' H7 s7->(∀ b ∈ fp,H7 b = none)∧(∀ b ∈ fp,∀ o,s4.heap.get? b = some o->s7.heap.get? b = some o)∧s7.heap.get? D = some { cls:=.type "list",data:=.seq its.toArray k }∧H7 D = none:=fun {σ' H7 s7} I7=>by
    have g : ∀ b ∈ fp,∀ o,s4.heap.get? b = some o->s7.heap.get? b = some o∧H7 b = none:=fun b hb o e=>by
     have z:=I7.pin (b,o) (List.mem_append_right _ (List.mem_append_right _ (Zy hb e)))
     exact ⟨z.1,z.2.1⟩
    refine ⟨fun b hb=>?_,fun b hb o e=>(g b hb o e).1,(I7.pin (D,{ cls:=.type "list",data:=.seq its.toArray k }) (List.mem_append_right _ (by simp))).1,(I7.pin (D,{ cls:=.type "list",data:=.seq its.toArray k }) (List.mem_append_right _ (by simp))).2.1⟩
    obtain ⟨o,e,_⟩:=T.obj _ _ st5 b hb
    exact (g b hb o e).2
   have hte : PTs X' ifs tt:=hX ▸ ht C s H fp
   have hee : PE X' elt te:=hX ▸ he C s H fp
   refine ev (thn (hte _ s6 _ H6 _ I6 (step v H6 y5)) fun b s7 ⟨H7,I7,q7⟩=>?_)
   cases b with
   | false =>
    rw [if_neg Bool.false_ne_true]
    rw [if_neg Bool.false_ne_true] at q7
    obtain ⟨m',hm,w7⟩:=hNN _ _ q7
    obtain ⟨g1,g2,g3,g4⟩:=fps I7
    exact ⟨m',hm,i + 1,zs,its,k,H7,back (σ':=[]) I7,T.keep _ _ _ st5 g2,g1,g3,v3,g4,z3,w7⟩
   | true =>
    rw [if_pos rfl]
    rw [if_pos rfl] at q7
    refine ev (thn (hee _ s7 _ H7 _ I7 q7) fun u8 s8 ⟨v8,H8,I8,r8,q8⟩=>?_)
    obtain ⟨m',hm,w8⟩:=hNN _ _ q8
    obtain ⟨g1,g2,g3,g4⟩:=fps I8
    have hil:=v3.length
    refine call_meets F.slot_list_append ⟨_,g3,rfl⟩ F.entry_list_append (F.args_list_append_2 _ _) (PySem.list_append D its.toArray k u8 (by rw [List.size_toArray]; omega)) ⟨g3,?_⟩
    have q:=PySem.IsL.update g3 (fun a=>a.push u8)
    have ea : its.toArray.push u8 = (its ++ [u8]).toArray:=by simp
    rw [ea] at q
    have kk : ∀ b o,b ≠ D->s8.heap.get? b = some o->(s8.heap.update D (Obj.mapSeq fun a=>a.push u8)).get? b = some o:=fun b o hb e=>(Heap.get?_update_other _ _ (Ne.symm hb)).trans e
    have I9 : Inv X' [] (none :: yU js σ) H8 { s8 with heap:=s8.heap.update D (Obj.mapSeq fun a=>a.push u8),toks:=s8.toks }:=by
     refine (back (σ':=[]) I8).turned kk g4 (by rw [eL]; exact hDC) (.inr (by rw [eS]; omega)) (fun y c e=>Nat.ne_of_lt (cellLt y c e)) fun p hp=>?_
     rw [ePn] at hp
     exact absurd hp (by simp)
    refine ⟨m',hm,i + 1,zs ++ [v8],its ++ [u8],_,H8,I9,T.keep _ _ _ st5 (fun b hb o e=>kk b o (Nat.ne_of_lt (fplt b hb)) (g2 b hb o e)),g1,q,v3.append (.cons r8 .nil),g4,?_,w8⟩
    rw [List.length_append,List.length_singleton]
    omega
 rw [eE] at loop
 exact codeAny_compStart_list loop (T.self _ 0 _ _ _ (T.keep _ _ _ st (fun b hb o e=>old b o e)) loop)
theorem wJ (S : CScope X.env.scope scope x X.N ys js) (hc : X.calm = true) (hi : PI X (.Name x px) iter wi) (ht : ∀ C s₀ H₀ ex,PTs (cxC X (x :: ys) scope C s₀ H₀ ex) ifs tt) (he : ∀ C s₀ H₀ ex,PE (cxC X (x :: ys) scope C s₀ H₀ ex) elt te)
  (hs : ∀ x,foldedSetIterable iter X.env x = pure x:=by intro _; rfl) : PE X (.ListComp elt [⟨.Name x px,iter,ifs,0⟩] scope pos) (zdZ wi js tt te):=by
 intro pins s σ H Q I h
 rw [eval_ListComp]
 refine wpAny_comprehension_free (use:=none) rfl hs (jN fun y hy e=>I.ok.has _ (S.free y hy e)) S.kind S.loc (thn (hi pins s σ H _ I h) fun v s1 h1=>thn h1 fun itv s2 h2=>?_)
 obtain ⟨it,fp,tn,J,H2,e,I2,T,st2,f2,hw⟩:=h2
 subst e
 refine Uh (Q:=Q) (R:=fun acc C=>compPost (model X.prog X.w) X.A X.xe none (EP X pins σ Q) acc C) S hc ht he I2 T st2 f2 hw ?_
 intro D C s' H' m' I' q hC hn hns
 refine ⟨m',hns,fun h' hs'=>⟨.ref D,H',?_,rfl,q⟩⟩
 have e:=I2.fpOk hC hn
 exact I'.turned (t':=s'.toks) (fun b o hb e=>(hs'.2 b hb).trans e) hn e.2.1 e.2.2.2.1 e.2.2.2.2.1 e.2.2.2.2.2
theorem vU {i : Nat} {y : Str} {py spos : Pos} (S : CScope X.env.scope scope x X.N ys js) (hc : X.calm = true) (hN : X.N.Nodup) (hy : X.N[i]? = some y) (hl : Loc X.env.scope y) (hi : PI X (.Name x px) iter wi) (ht : ∀ C s₀ H₀ ex,PTs (cxC X (x :: ys) scope C s₀ H₀ ex) ifs tt) (he : ∀ C s₀ H₀ ex,PE (cxC X (x :: ys) scope C s₀ H₀ ex) elt te)
  (hf : X.fn y = true∨X.env.scope.names.lookup y = some .local:=by first | exact .inl rfl | exact .inr rfl | assumption)
  (hsw : swapsWith (.ListComp elt [⟨.Name x px,iter,ifs,0⟩] scope pos) (some (.Name y py)) spos.line X.env = pure true:=by rfl)
  (hs : ∀ x,foldedSetIterable iter X.env x = pure x:=by intro _; rfl) : PS X (.Assign [.Name y py] (.ListComp elt [⟨.Name x px,iter,ifs,0⟩] scope pos) spos) (zaA (zdZ wi js tt te) (Ug i)):=by
 intro pins s σ H D I h
 rw [exec_Assign_Name_used _ _ _ _ hsw]
 refine wpAny_bind (wpAny_standAt (wpAny_bind ?_))
 show wpAny _ X.A (do let _ ← comprehension (.ListComp elt [⟨.Name x px,iter,ifs,0⟩] scope pos) scope X.env _ (newList []) false (eval iter X.env) (some (assign (.Name y py) X.env))) _ _ s
 refine wpAny_bind (wpAny_mono (wpAny_comprehension_free (use:=some (assign (.Name y py) X.env)) (Q:=fun _ s'=>SP X pins D .next s') rfl hs (jN fun y hy e=>I.ok.has _ (S.free y hy e)) S.kind S.loc
  (thn (hi pins s σ H _ I h) fun v s1 h1=>thn h1 fun itv s2 h2=>?_)) (fun _ s' hq=>wpAny_pure (wpAny_pure hq)) fun _ _ e=>e)
 obtain ⟨it,fp,tn,J,H2,e,I2,T,st2,f2,hw⟩:=h2
 subst e
 refine Uh (Q:=fun v H'=>Ug i v σ H' D.nx) (R:=fun acc C=>compPost (model X.prog X.w) X.A X.xe (some (assign (.Name y py) X.env)) (fun _ s'=>SP X pins D .next s') acc C) S hc ht he I2 T st2 f2 hw ?_
 intro Da C s' H' m' I' q hC hn hns
 have e:=I2.fpOk hC hn
 show wpAny _ X.A (assign (.Name y py) X.env (.ref Da)) _ _ _
 refine wpAny_assign_Name (Qs I' hN hy hl (show RelV (.ref Da) (.ref Da) from rfl) (fun s2' I3 ⟨a,sb,ha⟩=>?_) hf)
 have hCa : C ≠ a:=by
  rcases ha with z | z
  ·rw [z]; exact e.2.1
  ·intro w; exact e.2.2.2.2.1 _ _ z w.symm
 refine ⟨m',hns.sameBut sb hCa,fun h' hs'=>⟨_,H',?_,q⟩⟩
 exact I3.turned (t':=s2'.toks) (fun b o hb e=>(hs'.2 b hb).trans e) hn e.2.1 e.2.2.2.1 e.2.2.2.2.1 e.2.2.2.2.2
end
theorem wD {K : PySem.W.Frag} {a : Addr} {xs : List V} {js : List Nat} {tt : TT} {te : TE} {σ : St} {H : Hp} {Q : VK} (Pv : Nat->List V->Hp->Prop) (h0 : Pv 0 [] H) (hl : ∀ i ys H,i≤xs.length->Pv i ys H->SqL K H a xs)
  (hs : ∀ i x ys H,xs[i]? = some x->Pv i ys H->ys.length < sizeLine∧tt (some x :: yU js σ) H fun b H2=>if b = true then te (some x :: yU js σ) H2 fun v H3=>Pv (i + 1) (ys ++ [v]) H3 else Pv (i + 1) ys H2)
  (hd : ∀ ys H,Pv xs.length ys H->∀ D,H D = none->Q (.ref D) (upd H D (.lst ys))) :
  CompLoop (Itl K a) js tt te σ Q H:=by
 refine ⟨fun i m ys H=>m = xs.length - i∧i≤xs.length∧Pv i ys H,⟨xs.length,by simp,Nat.zero_le _,h0⟩,?_⟩
 rintro i m ys H ⟨rfl,hi,p⟩
 have q:=hl i ys H hi p
 by_cases hlt : i < xs.length
 ·have hx : xs[i]? = some xs[i]:=List.getElem?_eq_getElem hlt
  obtain ⟨hz,hst⟩:=hs i xs[i] ys H hx p
  refine .inr ⟨⟨xs,xs[i],q,hx⟩,hz,Pv (i + 1),fun ys' H' p'=>⟨xs.length - (i + 1),by omega,rfl,hlt,p'⟩,fun x H' y=>?_⟩
  obtain ⟨e,y⟩:=y
  subst e
  have e2:=y xs q
  rw [hx] at e2
  cases e2
  exact hst
 ·have e : i = xs.length:=by omega
  subst e
  exact .inl ⟨⟨xs,q,Nat.le_refl _⟩,hd ys H p⟩
theorem xJ {lo : Int} {n : Nat} {js : List Nat} {tt : TT} {te : TE} {σ : St} {H : Hp} {Q : VK} (Pv : Nat->List V->Hp->Prop) (h0 : Pv 0 [] H)
  (hs : ∀ i ys H,i < n->Pv i ys H->ys.length < sizeLine∧tt (some (.int (lo + i)) :: yU js σ) H fun b H2=>if b = true then te (some (.int (lo + i)) :: yU js σ) H2 fun v H3=>Pv (i + 1) (ys ++ [v]) H3 else Pv (i + 1) ys H2)
  (hd : ∀ ys H,Pv n ys H->∀ D,H D = none->Q (.ref D) (upd H D (.lst ys))) :
  CompLoop (Itr lo n) js tt te σ Q H:=by
 refine ⟨fun i m ys H=>m = n - i∧i≤n∧Pv i ys H,⟨n,by simp,Nat.zero_le _,h0⟩,?_⟩
 rintro i m ys H ⟨rfl,hi,p⟩
 by_cases hlt : i < n
 ·obtain ⟨hz,hst⟩:=hs i ys H hlt p
  refine .inr ⟨hlt,hz,Pv (i + 1),fun ys' H' p'=>⟨n - (i + 1),by omega,rfl,hlt,p'⟩,fun x H' y=>?_⟩
  obtain ⟨e,y⟩:=y
  subst e y
  exact hst
 ·have e : i = n:=by omega
  subst e
  exact .inl ⟨Nat.le_refl _,hd ys H p⟩
open PySem PySem.Spec PyProof.Rows PySem.SeqAt
inductive Tr where
 | non | bl (b : Bool) | int (i : Int) | str (x : Str) | lst (ts : List Tr) | tup (ts : List Tr)
mutual
def TrAt (K : PySem.W.Frag) (H : Hp) : Tr->V->Prop
 | .non,v=>v = .non
 | .bl b,v=>v = .bl b
 | .int i,v=>v = .int i
 | .str x,v=>v = .str x
 | .lst ts,v=>∃ a xs,v = .ref a∧SqL K H a xs∧TrsAt K H ts xs
 | .tup ts,v=>∃ a xs,v = .ref a∧SqT K H a xs∧TrsAt K H ts xs
def TrsAt (K : PySem.W.Frag) (H : Hp) : List Tr->List V->Prop
 | [],xs=>xs = []
 | t :: ts,xs=>∃ y ys,xs = y :: ys∧TrAt K H t y∧TrsAt K H ts ys
end
mutual
def teq : Tr->Tr->Bool
 | .non,.non=>true
 | .bl a,.bl b=>a == b
 | .bl a,.int b=>(if a then 1 else 0) == b
 | .int a,.bl b=>a == (if b then 1 else 0)
 | .int a,.int b=>a == b
 | .str a,.str b=>a == b
 | .lst a,.lst b=>jl a b
 | .tup a,.tup b=>jl a b
 | _,_=>false
def jl : List Tr->List Tr->Bool
 | [],[]=>true
 | t :: ts,u :: us=>teq t u && jl ts us
 | _,_=>false
end
mutual
def uX : Tr->Nat
 | .lst ts=>xX ts + 1
 | .tup ts=>xX ts + 1
 | _=>0
def xX : List Tr->Nat
 | []=>0
 | t :: ts=>max (uX t) (xX ts)
end
theorem Yy {t : Tr} : ∀ {ts : List Tr},t ∈ ts->uX t≤xX ts
 | u :: ts,h=>by
  rw [xX]
  rcases List.mem_cons.mp h with e | h
  ·rw [e]; exact Nat.le_max_left _ _
  ·exact Nat.le_trans (Yy h) (Nat.le_max_right _ _)
section
variable {K : PySem.W.Frag} {H : Hp}
theorem TrsAt.length : ∀ {ts : List Tr} {xs : List V},TrsAt K H ts xs->ts.length = xs.length
 | [],xs,h=>by rw [TrsAt] at h; subst h; rfl
 | t :: ts,xs,h=>by
  rw [TrsAt] at h
  obtain ⟨y,ys,rfl,_,h⟩:=h
  rw [List.length_cons,List.length_cons,TrsAt.length h]
theorem TrsAt.get : ∀ {ts : List Tr} {xs : List V} {j : Nat} {t : Tr},TrsAt K H ts xs->ts[j]? = some t->∃ x,xs[j]? = some x∧TrAt K H t x
 | [],xs,j,t,h,e=>by simp at e
 | u :: ts,xs,0,t,h,e=>by
  rw [TrsAt] at h
  obtain ⟨y,ys,rfl,hy,h⟩:=h
  simp at e
  subst e
  exact ⟨y,rfl,hy⟩
 | u :: ts,xs,j + 1,t,h,e=>by
  rw [TrsAt] at h
  obtain ⟨y,ys,rfl,hy,h⟩:=h
  obtain ⟨x,e1,e2⟩:=TrsAt.get (j:=j) h (by simpa using e)
  exact ⟨x,by simpa using e1,e2⟩
theorem TrsAt.mk : ∀ {ts : List Tr} {xs : List V},ts.length = xs.length->(∀ (j : Nat) (t : Tr) (x : V),ts[j]? = some t->xs[j]? = some x->TrAt K H t x)->TrsAt K H ts xs
 | [],[],_,_=>by rw [TrsAt]
 | [],_ :: _,h,_=>by simp at h
 | _ :: _,[],h,_=>by simp at h
 | t :: ts,x :: xs,h,f=>by
  rw [TrsAt]
  exact ⟨x,xs,rfl,f 0 t x rfl rfl,TrsAt.mk (by simpa using h) fun j t x e1 e2=>f (j + 1) t x (by simpa using e1) (by simpa using e2)⟩
theorem TrsAt.ints : ∀ {ns : List Int},TrsAt K H (ns.map Tr.int) (ns.map V.int)
 | []=>by rw [List.map_nil,TrsAt]; rfl
 | n :: ns=>by rw [List.map_cons,TrsAt]; exact ⟨_,_,rfl,by rw [TrAt],TrsAt.ints⟩
def yt (ns : List Int) : Tr:=.lst (ns.map Tr.int)
theorem TrAt.ints {a : Addr} {ns : List Int} (h : SqL K H a (ns.map V.int)) : TrAt K H (yt ns) (.ref a):=by
 unfold yt; rw [TrAt]; exact ⟨a,_,rfl,h,TrsAt.ints⟩
end
mutual
theorem VJ : ∀ t : Tr,teq t t = true
 | .non=>by rw [teq]
 | .bl b=>by rw [teq]; simp
 | .int i=>by rw [teq]; simp
 | .str x=>by rw [teq]; simp
 | .lst ts=>by rw [teq]; exact Za ts
 | .tup ts=>by rw [teq]; exact Za ts
theorem Za : ∀ ts : List Tr,jl ts ts = true
 | []=>by rw [jl]
 | t :: ts=>by rw [jl,VJ t,Za ts]; rfl
end
theorem V5 {α : Type} [DecidableEq α] {f : α->Tr} (h : ∀ a b,teq (f a) (f b) = decide (a = b)) : ∀ (xs ys : List α),jl (xs.map f) (ys.map f) = decide (xs = ys)
 | [],[]=>by simp [jl]
 | [],_ :: _=>by simp [jl]
 | _ :: _,[]=>by simp [jl]
 | x :: xs,y :: ys=>by
  rw [List.map_cons,List.map_cons,jl,h,V5 h xs ys,Bool.eq_iff_iff]
  simp
theorem zbo (a b : Int) : teq (.int a) (.int b) = decide (a = b):=by rw [teq,Bool.eq_iff_iff]; simp
theorem ue (a b : List Int) : teq (yt a) (yt b) = decide (a = b):=by unfold yt; rw [teq]; exact V5 zbo a b
theorem Xv : ∀ ns : List Int,xX (ns.map Tr.int) = 0
 | []=>by simp [xX]
 | n :: ns=>by rw [List.map_cons,xX,Xv ns,uX] <;> simp
theorem vP (ns : List Int) : uX (yt ns) = 1:=by unfold yt; rw [uX,Xv]
theorem jr : ∀ {ts us : List Tr},ts.length ≠ us.length->jl ts us = false
 | [],[],h=>absurd rfl h
 | [],_ :: _,_=>by simp [jl]
 | _ :: _,[],_=>by simp [jl]
 | t :: ts,u :: us,h=>by rw [jl,jr (by simpa using h),Bool.and_false]
def eAt (ts us : List Tr) (j : Nat) : Bool:=match ts[j]?,us[j]? with
 | some t,some u=>teq t u
 | _,_=>true
theorem Jj : ∀ {ts us : List Tr},ts.length = us.length->(List.range ts.length).all (eAt ts us) = jl ts us
 | [],[],_=>by simp [jl]
 | [],_ :: _,h=>by simp at h
 | _ :: _,[],h=>by simp at h
 | t :: ts,u :: us,h=>by
  rw [List.length_cons,List.range_succ_eq_map,List.all_cons,List.all_map,jl,← Jj (ts:=ts) (us:=us) (by simpa using h)]
  rfl
section
variable {X : Cx} {pins : List (Addr × Obj)} {σ : St} {H : Hp} {s : Shared}
theorem VL (I : Inv X pins σ H s) : ∀ (n : Nat) {t u : Tr} {v : V},uX t≤n->TrAt X.K H t v->TrAt X.K H u v->t = u:=by
 intro n
 induction n with
 | zero =>
  intro t u v hd ht hu
  cases t with
  | lst ts=>rw [uX] at hd; omega
  | tup ts=>rw [uX] at hd; omega
  | _=>(rw [TrAt] at ht; subst ht; cases u <;> (rw [TrAt] at hu) <;> first | rfl | (obtain ⟨_,_,z,_⟩:=hu; cases z) | (cases hu; rfl) | cases hu)
 | succ n ih =>
  intro t u v hd ht hu
  have lists : ∀ {ts us : List Tr} {xs : List V},xX ts≤n->TrsAt X.K H ts xs->TrsAt X.K H us xs->ts = us:=by
   intro ts us xs hd h1 h2
   apply List.ext_getElem?
   intro j
   have l1:=h1.length
   have l2:=h2.length
   by_cases hj : j < ts.length
   ·obtain ⟨t,e⟩ : ∃ t,ts[j]? = some t:=⟨_,List.getElem?_eq_getElem hj⟩
    obtain ⟨u,e'⟩ : ∃ u,us[j]? = some u:=⟨_,List.getElem?_eq_getElem (by omega)⟩
    obtain ⟨x,ex,hx⟩:=h1.get e
    obtain ⟨y,ey,hy⟩:=h2.get e'
    rw [ex] at ey
    cases ey
    rw [e,e',ih (Nat.le_trans (Yy (List.mem_of_getElem? e)) hd) hx hy]
   ·rw [List.getElem?_eq_none (by omega),List.getElem?_eq_none (by omega)]
  cases t with
  | lst ts =>
   rw [TrAt] at ht
   obtain ⟨a,xs,rfl,q,h1⟩:=ht
   cases u with
   | lst us =>
    rw [TrAt] at hu
    obtain ⟨b,ys,e,q',h2⟩:=hu
    cases e
    rw [I.list_inj q' q] at h2
    rw [lists (by rw [uX] at hd; omega) h1 h2]
   | tup us =>
    rw [TrAt] at hu
    obtain ⟨b,ys,e,q',h2⟩:=hu
    cases e
    obtain ⟨_,_,pl,_⟩:=I.list q
    obtain ⟨_,_,pt,_⟩:=I.tuple q'
    exact absurd rfl (ne_of_list_tuple pl.isList pt)
   | _=>rw [TrAt] at hu; cases hu
  | tup ts =>
   rw [TrAt] at ht
   obtain ⟨a,xs,rfl,q,h1⟩:=ht
   cases u with
   | tup us =>
    rw [TrAt] at hu
    obtain ⟨b,ys,e,q',h2⟩:=hu
    cases e
    rw [I.tuple_inj q' q] at h2
    rw [lists (by rw [uX] at hd; omega) h1 h2]
   | lst us =>
    rw [TrAt] at hu
    obtain ⟨b,ys,e,q',h2⟩:=hu
    cases e
    obtain ⟨_,_,pl,_⟩:=I.list q'
    obtain ⟨_,_,pt,_⟩:=I.tuple q
    exact absurd rfl (ne_of_list_tuple pl.isList pt)
   | _=>rw [TrAt] at hu; cases hu
  | _=>(rw [TrAt] at ht; subst ht; cases u <;> (rw [TrAt] at hu) <;> first | rfl | (obtain ⟨_,_,z,_⟩:=hu; cases z) | (cases hu; rfl) | cases hu)
structure zfH (A : Around) (s : Shared) (a b : Value) (r : Bool) : Prop where
 rc : RcAt A s a b r
 ne : RcNeAt A s a b (!r)
 eq : EqAt A s a b r
theorem units_in1 (A : Around) : A.in1.units = A.units + 1:=rfl
theorem Vv (I : Inv X pins σ H s) : ∀ (n : Nat) {t u : Tr} {v w : V} {a b : Value} {A : Around},uX t≤n->TrAt X.K H t v->TrAt X.K H u w->RelV v a->RelV w b->A.units + n < cLine->zfH A s a b (teq t u):=by
 intro n
 induction n with
 | zero =>
  intro t u v w a b A hd ht hu ra rb hA
  have hA' : A.units < cLine:=by omega
  cases t with
  | lst ts=>rw [uX] at hd; omega
  | tup ts=>rw [uX] at hd; omega
  | non =>
   rw [TrAt] at ht; subst ht; cases ra
   cases u with
   | non=>rw [TrAt] at hu; subst hu; cases rb; rw [teq]; exact ⟨.none_none,.none_none,.same _⟩
   | bl b=>rw [TrAt] at hu; subst hu; cases rb; simp only [teq]; exact ⟨.none_bool _,.none_bool _,.none_bool _⟩
   | int b=>rw [TrAt] at hu; subst hu; obtain ⟨_,rfl⟩:=rb; simp only [teq]; exact ⟨.none_int _ _,.none_int _ _,.none_int _ _⟩
   | str b=>rw [TrAt] at hu; subst hu; obtain ⟨_,rfl⟩:=rb; simp only [teq]; exact ⟨.none_str _ _,.none_str _ _,.none_str _ _⟩
   | lst us=>rw [TrAt] at hu; obtain ⟨p,ys,rfl,q,_⟩:=hu; cases rb; obtain ⟨_,_,pl,_⟩:=I.list q; simp only [teq]; exact ⟨.none_list pl.isList hA',.none_list pl.isList hA',.none_list pl.isList hA'⟩
   | tup us=>rw [TrAt] at hu; obtain ⟨p,ys,rfl,q,_⟩:=hu; cases rb; obtain ⟨_,_,pl,_⟩:=I.tuple q; simp only [teq]; exact ⟨.none_tuple pl hA',.none_tuple pl hA',.none_tuple pl hA'⟩
  | bl c =>
   rw [TrAt] at ht; subst ht; cases ra
   cases u with
   | non=>rw [TrAt] at hu; subst hu; cases rb; simp only [teq]; exact ⟨.bool_none _,.bool_none _,.bool_none _⟩
   | bl b=>rw [TrAt] at hu; subst hu; cases rb; rw [teq]; exact ⟨.bool_bool _ _,.bool_bool _ _,.bool_bool _ _⟩
   | int b=>rw [TrAt] at hu; subst hu; obtain ⟨_,rfl⟩:=rb; rw [teq]; exact ⟨.bool_int _ _ _,.bool_int _ _ _,.bool_int _ _ _⟩
   | str b=>rw [TrAt] at hu; subst hu; obtain ⟨_,rfl⟩:=rb; simp only [teq]; exact ⟨.bool_str _ _ _,.bool_str _ _ _,.bool_str _ _ _⟩
   | lst us=>rw [TrAt] at hu; obtain ⟨p,ys,rfl,q,_⟩:=hu; cases rb; obtain ⟨_,_,pl,_⟩:=I.list q; simp only [teq]; exact ⟨.bool_list _ pl.isList hA',.bool_list _ pl.isList hA',.bool_list _ pl.isList hA'⟩
   | tup us=>rw [TrAt] at hu; obtain ⟨p,ys,rfl,q,_⟩:=hu; cases rb; obtain ⟨_,_,pl,_⟩:=I.tuple q; simp only [teq]; exact ⟨.bool_tuple _ pl hA',.bool_tuple _ pl hA',.bool_tuple _ pl hA'⟩
  | int c =>
   rw [TrAt] at ht; subst ht; obtain ⟨_,rfl⟩:=ra
   cases u with
   | non=>rw [TrAt] at hu; subst hu; cases rb; simp only [teq]; exact ⟨.int_none _ _,.int_none _ _,.int_none _ _⟩
   | bl b=>rw [TrAt] at hu; subst hu; cases rb; rw [teq]; exact ⟨.int_bool _ _ _,.int_bool _ _ _,.int_bool _ _ _⟩
   | int b=>rw [TrAt] at hu; subst hu; obtain ⟨_,rfl⟩:=rb; rw [teq]; exact ⟨.int_int _ _ _ _,.int_int _ _ _ _,.int_int _ _ _ _⟩
   | str b=>rw [TrAt] at hu; subst hu; obtain ⟨_,rfl⟩:=rb; simp only [teq]; exact ⟨.int_str _ _ _ _,.int_str _ _ _ _,.int_str _ _ _ _⟩
   | lst us=>rw [TrAt] at hu; obtain ⟨p,ys,rfl,q,_⟩:=hu; cases rb; obtain ⟨_,_,pl,_⟩:=I.list q; simp only [teq]; exact ⟨.int_list _ _ pl.isList hA',.int_list _ _ pl.isList hA',.int_list _ _ pl.isList hA'⟩
   | tup us=>rw [TrAt] at hu; obtain ⟨p,ys,rfl,q,_⟩:=hu; cases rb; obtain ⟨_,_,pl,_⟩:=I.tuple q; simp only [teq]; exact ⟨.int_tuple _ _ pl hA',.int_tuple _ _ pl hA',.int_tuple _ _ pl hA'⟩
  | str c =>
   rw [TrAt] at ht; subst ht; obtain ⟨_,rfl⟩:=ra
   cases u with
   | non=>rw [TrAt] at hu; subst hu; cases rb; simp only [teq]; exact ⟨.str_none _ _,.str_none _ _,.str_none _ _⟩
   | bl b=>rw [TrAt] at hu; subst hu; cases rb; simp only [teq]; exact ⟨.str_bool _ _ _,.str_bool _ _ _,.str_bool _ _ _⟩
   | int b=>rw [TrAt] at hu; subst hu; obtain ⟨_,rfl⟩:=rb; simp only [teq]; exact ⟨.str_int _ _ _ _,.str_int _ _ _ _,.str_int _ _ _ _⟩
   | str b=>rw [TrAt] at hu; subst hu; obtain ⟨_,rfl⟩:=rb; rw [teq]; exact ⟨.str_str _ _ _ _,.str_str _ _ _ _,.str_str _ _ _ _⟩
   | lst us=>rw [TrAt] at hu; obtain ⟨p,ys,rfl,q,_⟩:=hu; cases rb; obtain ⟨_,_,pl,_⟩:=I.list q; simp only [teq]; exact ⟨.str_list _ _ pl.isList hA',.str_list _ _ pl.isList hA',.str_list _ _ pl.isList hA'⟩
   | tup us=>rw [TrAt] at hu; obtain ⟨p,ys,rfl,q,_⟩:=hu; cases rb; obtain ⟨_,_,pl,_⟩:=I.tuple q; simp only [teq]; exact ⟨.str_tuple _ _ pl hA',.str_tuple _ _ pl hA',.str_tuple _ _ pl hA'⟩
 | succ n ih =>
  intro t u v w a b A hd ht hu ra rb hA
  have hA' : A.units < cLine:=by omega
  have items : ∀ {ts us : List Tr} {xs ys : List V} {its its2 : List Value},xX ts≤n->TrsAt X.K H ts xs->TrsAt X.K H us ys->Vals xs its->Vals ys its2 ->
    ∀ j (h1 : j < its.toArray.size) (h2 : j < its2.toArray.size),EqAt A.in1 s its.toArray[j] its2.toArray[j] (eAt ts us j):=by
   intro ts us xs ys its its2 hdn h1 h2 r1 r2 j hj1 hj2
   have l1:=h1.length
   have l2:=h2.length
   have m1:=r1.length
   have m2:=r2.length
   rw [List.size_toArray] at hj1 hj2
   obtain ⟨t,e⟩ : ∃ t,ts[j]? = some t:=⟨_,List.getElem?_eq_getElem (by omega)⟩
   obtain ⟨u,e'⟩ : ∃ u,us[j]? = some u:=⟨_,List.getElem?_eq_getElem (by omega)⟩
   obtain ⟨x,ex,hx⟩:=h1.get e
   obtain ⟨y,ey,hy⟩:=h2.get e'
   obtain ⟨vx,fx,rx⟩:=r1.get ex
   obtain ⟨vy,fy,ry⟩:=r2.get ey
   have g1 : its.toArray[j]'(by simpa using hj1) = vx:=by
    have z : its[j] = vx:=Option.some.inj ((List.getElem?_eq_getElem hj1).symm.trans fx)
    simpa using z
   have g2 : its2.toArray[j]'(by simpa using hj2) = vy:=by
    have z : its2[j] = vy:=Option.some.inj ((List.getElem?_eq_getElem hj2).symm.trans fy)
    simpa using z
   rw [g1,g2]
   have q:=(ih (A:=A.in1) (Nat.le_trans (Yy (List.mem_of_getElem? e)) hdn) hx hy rx ry (by rw [units_in1]; omega)).eq
   unfold eAt
   rw [e,e']
   exact q
  by_cases hz : uX t≤n
  ·exact ih hz ht hu ra rb (by omega)
  cases t with
  | lst ts =>
   rw [TrAt] at ht; obtain ⟨p,xs,rfl,q,h1⟩:=ht; cases ra
   obtain ⟨its,r1,pl,_⟩:=I.list q
   cases u with
   | non=>rw [TrAt] at hu; subst hu; cases rb; simp only [teq]; exact ⟨.list_none pl.isList hA',.list_none pl.isList hA',.list_none pl.isList hA'⟩
   | bl b=>rw [TrAt] at hu; subst hu; cases rb; simp only [teq]; exact ⟨.list_bool _ pl.isList hA',.list_bool _ pl.isList hA',.list_bool _ pl.isList hA'⟩
   | int b=>rw [TrAt] at hu; subst hu; obtain ⟨_,rfl⟩:=rb; simp only [teq]; exact ⟨.list_int _ _ pl.isList hA',.list_int _ _ pl.isList hA',.list_int _ _ pl.isList hA'⟩
   | str b=>rw [TrAt] at hu; subst hu; obtain ⟨_,rfl⟩:=rb; simp only [teq]; exact ⟨.list_str _ _ pl.isList hA',.list_str _ _ pl.isList hA',.list_str _ _ pl.isList hA'⟩
   | tup us=>rw [TrAt] at hu; obtain ⟨p',ys,rfl,q',_⟩:=hu; cases rb; obtain ⟨_,_,pl',_⟩:=I.tuple q'; simp only [teq]; exact ⟨.list_tuple pl.isList pl' hA',.list_tuple pl.isList pl' hA',.list_tuple pl.isList pl' hA'⟩
   | lst us =>
    have hu0:=hu
    rw [TrAt] at hu; obtain ⟨p',ys,rfl,q',h2⟩:=hu; cases rb
    obtain ⟨its2,r2,pl',_⟩:=I.list q'
    have l1:=h1.length
    have l2:=h2.length
    have m1:=r1.length
    have m2:=r2.length
    have hdn : xX ts≤n:=by rw [uX] at hd; omega
    have both : RcAt A s (.ref p) (.ref p') (jl ts us)∧RcNeAt A s (.ref p) (.ref p') (!jl ts us):=by
     by_cases hsz : ts.length = us.length
     ·have hs : its.toArray.size = its2.toArray.size:=by rw [List.size_toArray,List.size_toArray]; omega
      have it:=items hdn h1 h2 r1 r2
      have e1 : (List.range its.toArray.size).all (eAt ts us) = jl ts us:=by
       rw [List.size_toArray,← m1,← l1]; exact Jj hsz
      have a1:=RcAt.lists pl.isList pl'.isList hs hA' it
      have a2:=RcNeAt.lists pl.isList pl'.isList hs hA' it
      rw [e1] at a1 a2
      exact ⟨a1,a2⟩
     ·have hs : (its.toArray.size != its2.toArray.size) = true:=by
       rw [List.size_toArray,List.size_toArray,bne_iff_ne]; omega
      rw [jr hsz]
      exact ⟨.lists_lengths pl.isList pl'.isList hs hA',.lists_lengths pl.isList pl'.isList hs hA'⟩
    rw [teq]
    refine ⟨both.1,both.2,?_⟩
    by_cases hpp : p = p'
    ·subst hpp
     have e : Tr.lst ts = Tr.lst us:=VL I (n + 1) hd (show TrAt X.K H (.lst ts) (.ref p) by rw [TrAt]; exact ⟨p,xs,rfl,q,h1⟩) hu0
     cases e
     rw [Za]
     exact .same _
    ·exact .of_refs hpp both.1
  | tup ts =>
   rw [TrAt] at ht; obtain ⟨p,xs,rfl,q,h1⟩:=ht; cases ra
   obtain ⟨its,r1,pl,_⟩:=I.tuple q
   cases u with
   | non=>rw [TrAt] at hu; subst hu; cases rb; simp only [teq]; exact ⟨.tuple_none pl hA',.tuple_none pl hA',.tuple_none pl hA'⟩
   | bl b=>rw [TrAt] at hu; subst hu; cases rb; simp only [teq]; exact ⟨.tuple_bool _ pl hA',.tuple_bool _ pl hA',.tuple_bool _ pl hA'⟩
   | int b=>rw [TrAt] at hu; subst hu; obtain ⟨_,rfl⟩:=rb; simp only [teq]; exact ⟨.tuple_int _ _ pl hA',.tuple_int _ _ pl hA',.tuple_int _ _ pl hA'⟩
   | str b=>rw [TrAt] at hu; subst hu; obtain ⟨_,rfl⟩:=rb; simp only [teq]; exact ⟨.tuple_str _ _ pl hA',.tuple_str _ _ pl hA',.tuple_str _ _ pl hA'⟩
   | lst us=>rw [TrAt] at hu; obtain ⟨p',ys,rfl,q',_⟩:=hu; cases rb; obtain ⟨_,_,pl',_⟩:=I.list q'; simp only [teq]; exact ⟨.tuple_list pl pl'.isList hA',.tuple_list pl pl'.isList hA',.tuple_list pl pl'.isList hA'⟩
   | tup us =>
    have hu0:=hu
    rw [TrAt] at hu; obtain ⟨p',ys,rfl,q',h2⟩:=hu; cases rb
    obtain ⟨its2,r2,pl',_⟩:=I.tuple q'
    have l1:=h1.length
    have l2:=h2.length
    have m1:=r1.length
    have m2:=r2.length
    have hdn : xX ts≤n:=by rw [uX] at hd; omega
    have e1 : ((List.range (min its.toArray.size its2.toArray.size)).all (eAt ts us) && its.toArray.size == its2.toArray.size) = jl ts us:=by
     rw [List.size_toArray,List.size_toArray,← m1,← l1,← m2,← l2]
     by_cases hsz : ts.length = us.length
     ·rw [← hsz,Nat.min_self,beq_self_eq_true,Bool.and_true]; exact Jj hsz
     ·rw [jr hsz,beq_eq_false_iff_ne.mpr hsz,Bool.and_false]
    have it:=items hdn h1 h2 r1 r2
    have a1:=RcAt.tuples pl pl' hA' it
    have a2:=RcNeAt.tuples pl pl' hA' it
    rw [e1] at a1 a2
    rw [teq]
    refine ⟨a1,a2,?_⟩
    by_cases hpp : p = p'
    ·subst hpp
     have e : Tr.tup ts = Tr.tup us:=VL I (n + 1) hd (show TrAt X.K H (.tup ts) (.ref p) by rw [TrAt]; exact ⟨p,xs,rfl,q,h1⟩) hu0
     cases e
     rw [Za]
     exact .same _
    ·exact .of_refs hpp a1
  | non=>exact absurd (Nat.zero_le _) hz
  | bl b=>exact absurd (Nat.zero_le _) hz
  | int b=>exact absurd (Nat.zero_le _) hz
  | str b=>exact absurd (Nat.zero_le _) hz
end
section
variable {X : Cx}
def zdG (K : PySem.W.Frag) (neg : Bool) : R2:=fun x y H Q=>∃ t u,TrAt K H t x∧TrAt K H u y∧uX t≤8∧Q (.bl (if neg then !teq t u else teq t u)) H
theorem zd8 (hu : X.A.units + 64 < cLine) : OpR X (compareOp .Eq) (zdG X.K false):=by
 intro pins s σ H x y v u Q I rx ry h
 obtain ⟨t,t',h1,h2,hd,q⟩:=h
 exact (Vv I 8 hd h1 h2 rx ry (by omega)).rc _ _ _ _ ⟨.bl _,H,I,rfl,q⟩
theorem zeB (hu : X.A.units + 64 < cLine) : OpR X (compareOp .NotEq) (zdG X.K true):=by
 intro pins s σ H x y v u Q I rx ry h
 obtain ⟨t,t',h1,h2,hd,q⟩:=h
 exact (Vv I 8 hd h1 h2 rx ry (by omega)).ne _ _ _ _ ⟨.bl _,H,I,rfl,q⟩
open Classical in
def zdq (K : PySem.W.Frag) (neg : Bool) : R2:=fun x y H Q=>∃ p xs ts u,y = .ref p∧SqL K H p xs∧TrsAt K H ts xs∧TrAt K H u x∧xX ts≤8∧Q (.bl (if neg then !(ts.any fun t=>teq t u) else ts.any fun t=>teq t u)) H
open Classical in
theorem zaN {pins : List (Addr × Obj)} {σ : St} {H : Hp} {s : Shared} (I : Inv X pins σ H s) {u : Tr} : ∀ {ts : List Tr} {xs : List V} {its : List Value},xX ts≤8->TrsAt X.K H ts xs->Vals xs its ->
  its.any (fun y=>decide (∃ t x,RelV x y∧TrAt X.K H t x∧teq t u = true)) = ts.any fun t=>teq t u
 | [],xs,its,_,h,r=>by rw [TrsAt] at h; subst h; cases r; rfl
 | t :: ts,xs,its,hd,h,r=>by
  rw [TrsAt] at h
  obtain ⟨y,ys,rfl,hy,h⟩:=h
  cases r with
  | cons r1 r2 =>
   rw [xX] at hd
   rw [List.any_cons,List.any_cons,zaN I (by omega) h r2]
   congr 1
   rw [Bool.eq_iff_iff,decide_eq_true_iff]
   constructor
   ·rintro ⟨t',x',r',h',e⟩
    rw [r1.inj r'] at hy
    rw [VL I 8 (by omega) hy h']; exact e
   ·intro e
    exact ⟨t,y,r1,hy,e⟩
open Classical in
theorem QK {pins : List (Addr × Obj)} {σ : St} {H : Hp} {s : Shared} (I : Inv X pins σ H s) (hu : X.A.units + 64 < cLine) {u : Tr} {x : V} {v : Value} (hx : TrAt X.K H u x) (rx : RelV x v) {ts : List Tr} {xs : List V} {its : List Value} (hd : xX ts≤8) (h : TrsAt X.K H ts xs) (r : Vals xs its) :
  ∀ y,y ∈ its.toArray->SeqAt.EqAt X.A.in1 s y v (decide (∃ t x,RelV x y∧TrAt X.K H t x∧teq t u = true)):=by
 intro y hy
 have hy' : y ∈ its:=by simpa using hy
 obtain ⟨j,hj,e⟩:=List.getElem_of_mem hy'
 have l1:=h.length
 have m1:=r.length
 obtain ⟨t,et⟩ : ∃ t,ts[j]? = some t:=⟨_,List.getElem?_eq_getElem (by omega)⟩
 obtain ⟨z,ez,hz⟩:=h.get et
 obtain ⟨w,ew,rw'⟩:=r.get ez
 have e' : y = w:=by
  rw [List.getElem?_eq_getElem hj] at ew
  exact e.symm.trans (Option.some.inj ew)
 subst e'
 have hd' : uX t≤8:=Nat.le_trans (Yy (List.mem_of_getElem? et)) hd
 have q:=(Vv I 8 (A:=X.A.in1) hd' hz hx rw' rx (by rw [units_in1]; omega)).eq
 have e2 : decide (∃ t x,RelV x y∧TrAt X.K H t x∧teq t u = true) = teq t u:=by
  rw [Bool.eq_iff_iff,decide_eq_true_iff]
  constructor
  ·rintro ⟨t',x',r',h',e3⟩
   rw [rw'.inj r'] at hz
   rw [VL I 8 hd' hz h']; exact e3
  ·intro e3
   exact ⟨t,z,rw',hz,e3⟩
 rw [e2]
 exact q
open Classical in
theorem zen (hu : X.A.units + 64 < cLine) : OpR X (compareOp .In) (zdq X.K false):=by
 intro pins s σ H x y v u Q I rx ry h
 obtain ⟨p,xs,ts,t,rfl,hq,hts,ht,hd,q⟩:=h
 cases ry
 obtain ⟨its,r,pl,hz⟩:=I.list hq
 refine SeqAt.in_listAt _ pl.isList (QK I hu ht rx hd hts r) ⟨.bl _,H,I,rfl,?_⟩
 simp only [List.any_toArray]
 rw [zaN I hd hts r]
 exact q
open Classical in
theorem zb2 (hu : X.A.units + 64 < cLine) : OpR X (compareOp .NotIn) (zdq X.K true):=by
 intro pins s σ H x y v u Q I rx ry h
 obtain ⟨p,xs,ts,t,rfl,hq,hts,ht,hd,q⟩:=h
 cases ry
 obtain ⟨its,r,pl,hz⟩:=I.list hq
 refine SeqAt.notIn_listAt _ pl.isList (QK I hu ht rx hd hts r) ⟨.bl _,H,I,rfl,?_⟩
 simp only [List.any_toArray]
 rw [zaN I hd hts r]
 exact q
end
end L2
namespace L2
open PySem PySem.Spec PyProof.Rows
theorem QR {K : PySem.W.Frag} {T U : String} {b : Bool} (h1 : PySem.W.kitMeta U = true) (h2 : (fastBuiltinMro T).map (·.contains (Value.type U)) = some b) (hb : T = U->b = true) : PySem.W.kitOne K (.type T) (.type U) = some b:=by
 unfold PySem.W.kitOne
 by_cases e : T = U
 ·subst e
  rw [if_pos (by simp),hb rfl]
 ·rw [if_neg (by simpa using e)]
  show (if PySem.W.kitMeta U = true then PySem.W.subIn K (.type T) (.type U) else none) = some b
  rw [if_pos h1]
  exact h2
section
variable {K : PySem.W.Frag}
theorem Vc : PySem.W.kitOne K (.type "int") (.type "int") = some true:=QR (by decide +kernel) (by decide +kernel) (fun _=>rfl)
theorem XF : PySem.W.kitOne K (.type "int") (.type "bool") = some false:=QR (by decide +kernel) (by decide +kernel) (fun e=>absurd e (by decide))
theorem Y6 : PySem.W.kitOne K (.type "list") (.type "list") = some true:=QR (by decide +kernel) (by decide +kernel) (fun _=>rfl)
theorem Vk : PySem.W.kitOne K (.type "tuple") (.type "tuple") = some true:=QR (by decide +kernel) (by decide +kernel) (fun _=>rfl)
end
section
variable {X : Cx}
def zeW (K : PySem.W.Frag) : List V->Hp->VK->Prop:=fun xs H Q=>∃ x T t b,xs = [x,.ty T]∧Wv K H x t∧PySem.W.kitOne K t (.type T) = some b∧Q (.bl b) H
theorem V3 : vo X (.builtin "isinstance") (zeW X.K):=by
 intro pins s σ H xs us Q I r h
 obtain ⟨x,T,t,b,rfl,ty,e,q⟩:=h
 obtain ⟨u,v,rfl,rx,rt⟩:=vals2 r
 cases rt
 exact zbY I rx ty e fun tk=>⟨.bl b,H,I.tok tk,rfl,q⟩
def zdW (i j : Int) : Prop:=0 < j∧j < 2 ^ 200
theorem Yl : OpR X (binaryOp .FloorDiv) (rI zdW fun i j=>.int (i / j)):=opI fun i j _ _ _ _ _ hc q=>by
 have h1 : (0 : Int) < j:=hc.1
 have h2 : j < 2 ^ 200:=hc.2
 refine floordiv_int (by omega) (by rw [Int.fdiv_eq_ediv_of_nonneg i (by omega)]; exact q) (.inl (PyProof.noPylong_of_log2 ?_))
 have h3 : j.natAbs < 2 ^ 200:=by omega
 have h4 : j.natAbs.log2 < 200:=(Nat.log2_lt (by omega)).mpr h3
 omega
theorem W9 {P : Program} {w : World} {A : Around} {its : List Value} {bs : List Bool} (r : Vals (bs.map V.bl) its) : TruthOf P w A (fun i v=>its.toArray[i]? = some v) (fun i=>bs.getD i false):=by
 intro i v s Q E hP hQ
 have hl:=r.length
 rw [List.length_map] at hl
 have e : its[i]? = some v:=by simpa using hP
 have hi : i < its.length:=(List.getElem?_eq_some_iff.mp e).1
 have e2 : (bs.map V.bl)[i]? = some (.bl (bs[i]'(by omega))):=by rw [List.getElem?_map,List.getElem?_eq_getElem (by omega)]; rfl
 obtain ⟨u,e3,r3⟩:=r.get e2
 rw [e] at e3
 cases e3
 cases r3
 have e4 : bs.getD i false = bs[i]:=by rw [List.getD_eq_getElem?_getD,List.getElem?_eq_getElem (by omega)]; rfl
 exact wpAny_truthy_bool (e4 ▸ hQ)
theorem JS : ∀ bs : List Bool,(List.range bs.length).all (fun i=>bs.getD i false) = bs.all id
 | []=>rfl
 | b :: bs=>by
  rw [List.length_cons,List.range_succ_eq_map,List.all_cons,List.all_map,List.all_cons,← JS bs]
  rfl
theorem J6 : ∀ bs : List Bool,(List.range bs.length).any (fun i=>bs.getD i false) = bs.any id
 | []=>rfl
 | b :: bs=>by
  rw [List.length_cons,List.range_succ_eq_map,List.any_cons,List.any_map,List.any_cons,← J6 bs]
  rfl
def ze8 (K : PySem.W.Frag) : List V->Hp->VK->Prop:=fun xs H Q=>∃ (a : Addr) (bs : List Bool),xs = [.ref a]∧SqL K H a (bs.map V.bl)∧Q (.bl (bs.all id)) H
def zfd (K : PySem.W.Frag) : List V->Hp->VK->Prop:=fun xs H Q=>∃ (a : Addr) (bs : List Bool),xs = [.ref a]∧SqL K H a (bs.map V.bl)∧Q (.bl (bs.any id)) H
theorem zcQ (hc : X.calm = true) : vo X (.builtin "all") (ze8 X.K):=by
 intro pins s σ H xs us Q I r h
 obtain ⟨a,bs,rfl,hq,q⟩:=h
 obtain ⟨u,rfl,rx⟩:=vals1 r
 cases rx
 obtain ⟨its,rv,pl,hz⟩:=I.list hq
 have hl:=rv.length
 rw [List.length_map] at hl
 obtain ⟨o,n,eo,_⟩:=id pl
 have hne : a ≠ s.heap.objs.size:=Nat.ne_of_lt (Heap.lt_size eo)
 refine call_all_walk (wpAny_pyIter_list pl.isList ?_)
 refine ⟨_,_,_,_,_,_,_,rfl,Walks.list (A:=X.A.in1) (show X.A.in1.handled = none from I.ok.hd hc) s.heap.objs.size a hne its.toArray,⟨⟨_,Heap.get?_push_size _ rfl,rfl,rfl⟩,pl.isList.at fun o e=>Heap.get?_push_of_some _ e⟩,W9 rv,fun h' tk hk=>?_⟩
 have I1 : Inv X pins σ H { s with heap:=h',toks:=tk }:=I.kept fun b o e=>hk b o (by have:=Heap.lt_size e; simp; exact Nat.ne_of_lt this) (Heap.get?_push_of_some _ e)
 refine ⟨.bl _,H,I1,rfl,?_⟩
 rw [List.size_toArray,← hl,JS]
 exact q
theorem zcg (hc : X.calm = true) : vo X (.builtin "any") (zfd X.K):=by
 intro pins s σ H xs us Q I r h
 obtain ⟨a,bs,rfl,hq,q⟩:=h
 obtain ⟨u,rfl,rx⟩:=vals1 r
 cases rx
 obtain ⟨its,rv,pl,hz⟩:=I.list hq
 have hl:=rv.length
 rw [List.length_map] at hl
 obtain ⟨o,n,eo,_⟩:=id pl
 have hne : a ≠ s.heap.objs.size:=Nat.ne_of_lt (Heap.lt_size eo)
 refine call_any_walk (wpAny_pyIter_list pl.isList ?_)
 refine ⟨_,_,_,_,_,_,_,rfl,Walks.list (A:=X.A.in1) (show X.A.in1.handled = none from I.ok.hd hc) s.heap.objs.size a hne its.toArray,⟨⟨_,Heap.get?_push_size _ rfl,rfl,rfl⟩,pl.isList.at fun o e=>Heap.get?_push_of_some _ e⟩,W9 rv,fun h' tk hk=>?_⟩
 have I1 : Inv X pins σ H { s with heap:=h',toks:=tk }:=I.kept fun b o e=>hk b o (by have:=Heap.lt_size e; simp; exact Nat.ne_of_lt this) (Heap.get?_push_of_some _ e)
 refine ⟨.bl _,H,I1,rfl,?_⟩
 rw [List.size_toArray,← hl,J6]
 exact q
section
variable {prog : Program} {w : World} {A : Around} {E : Value->Shared->Prop} {s : Shared}
end
end
section
variable {X : Cx} (K : PySem.W.Frag)
theorem JR (e : X.K = K:=by rfl) : vo X (.builtin "isinstance") (zeW K):=by subst e; exact V3
theorem vV (e : X.K = K:=by rfl) : vo X (.builtin "len") (fun xs H Q=>∃ p ys,xs = [.ref p]∧(SqL K H p ys∨SqT K H p ys)∧Q (.int ys.length) H):=by subst e; exact qy
theorem yS (e : X.K = K:=by rfl) : IxR X (zc2 K):=by subst e; exact wK
theorem wH (e : X.K = K:=by rfl) : IxR X (ze2 K):=by subst e; exact zd5
theorem Zd (e : X.K = K:=by rfl) : SlR X (zfj K):=by subst e; exact zdI
theorem k_all (hc : X.calm = true) (e : X.K = K:=by rfl) : vo X (.builtin "all") (ze8 K):=by subst e; exact zcQ hc
theorem zc6 (hc : X.calm = true) (e : X.K = K:=by rfl) : vo X (.builtin "any") (zfd K):=by subst e; exact zcg hc
theorem zan (e : X.K = K:=by rfl) : vo X (.type "list") (fun xs H Q=>∃ p ys,xs = [.ref p]∧(SqL K H p ys∨SqT K H p ys)∧∀ l,H l = none->Q (.ref l) (upd H l (.lst ys))):=by subst e; exact Q8
theorem Qz (hu : X.A.units + 64 < cLine) (e : X.K = K:=by rfl) : OpR X (compareOp .Eq) (zdG K false):=by subst e; exact zd8 hu
theorem za2 (hu : X.A.units + 64 < cLine) (e : X.K = K:=by rfl) : OpR X (compareOp .NotEq) (zdG K true):=by subst e; exact zeB hu
theorem zeX (hu : X.A.units + 64 < cLine) (e : X.K = K:=by rfl) : OpR X (compareOp .In) (zdq K false):=by subst e; exact zen hu
theorem VB (hu : X.A.units + 64 < cLine) (e : X.K = K:=by rfl) : OpR X (compareOp .NotIn) (zdq K true):=by subst e; exact zb2 hu
theorem Z6 {tg l : Expr} {tl : TE} (hl : PE X l tl) (e : X.K = K:=by rfl) : PI X tg l (zd1 K tl):=by subst e; exact zdb hl
end
structure Df (K : PySem.W.Frag) (mg : Str->Option Value) (x : Str) (st : Stmt) (ps : List Str) (f : Addr) (fd : FuncData) : Prop where
 fn : Fun K x x st f fd
 b : Binds K fd ps []
 g : mg x = some (.ref f)
theorem zO {X : Cx} {x : Str} {st : Stmt} {ps : List Str} {f : Addr} {fd : FuncData} {k : Nat} {sp : Sp} {e : Expr} {es : List Expr} {t : TA} {p pos : Pos} (D : Df X.K X.mg x st ps f fd) (G : FnOk X.prog X.w X.K X.mg X.base CX0 k f fd ps sp) (hr : Room k X.A) (ha : PA X (e :: es) t) (hg : Gl X x:=by rfl)
  (hdb : (x == ("__debug__" : Str)) = false:=by decide) (he : starEach (e :: es) X.env = (false,eval e X.env) :: starEach es X.env:=by rfl) (hpl : (backTo pos (starEach es X.env)).any (·.1) = false:=by rfl) : PE X (.Call (.Name x p) (e :: es) [] pos) (zdT sp [] E0 t) :=
 zde G hr hg D.g D.fn.kp D.b .nil zap ha hdb he hpl
theorem zc4 {K : PySem.W.Frag} {h : Heap} {mg : Str->Option Value} {x : Str} {st : Stmt} {ps : List Str} {f : Addr} {oc : Value} {od an : Option Addr} {osl : Array (Option Value)} {kV doc pm cdv ct : Value} (X : K.In h) (G : h.Ns mainGlobals mg)
  (a : PySem.W.nsIn K mainGlobals x = some (some (.ref f))) (l : K.lookup f = some ⟨oc,od,.func (PySem.W.fnOf x x (vf st) (yZ st) (zu st) .none kV doc pm an cdv ct),osl⟩) (c : PySem.W.codeIn K cdv x = true) (k : PySem.W.keepIn K (.ref f) = true)
  (hb : ∀ (kV doc pm : Value) (an : Option Addr) (cdv ct : Value) (us : List Value),us.length = ps.length->bindArgs (PySem.W.fnOf x x (vf st) (yZ st) (zu st) .none kV doc pm an cdv ct) ⟨us,[]⟩ = pure (ps.zip us)) :
  Df K mg x st ps f (PySem.W.fnOf x x (vf st) (yZ st) (zu st) .none kV doc pm an cdv ct) :=
 ⟨Q5 l c k,(Q5 (st:=st) l c k).binds hb,PySem.W.mg_of X G a⟩
structure Blt (mg : Str->Option Value) : Prop where
 n_isinstance : mg "isinstance" = none
 n_int : mg "int" = none
 n_bool : mg "bool" = none
 n_list : mg "list" = none
 n_tuple : mg "tuple" = none
 n_reversed : mg "reversed" = none
 n_len : mg "len" = none
 n_max : mg "max" = none
 n_min : mg "min" = none
 n_range : mg "range" = none
 n_all : mg "all" = none
 n_any : mg "any" = none
 n_sorted : mg "sorted" = none
 n_enumerate : mg "enumerate" = none
 n_repr : mg "repr" = none
theorem Vj {A : Around} {k : Nat} (hr : Room k A) : A.units + 64 < cLine:=hr.units
def aw (fp : List Addr) (H : Hp) : Hp:=fun b=>if b ∈ fp then none else H b
theorem q9 {fp : List Addr} {H : Hp} {b : Addr} (h : b ∈ fp) : aw fp H b = none:=by unfold aw; rw [if_pos h]
theorem zP {fp : List Addr} {H : Hp} {b : Addr} (h : b ∉ fp) : aw fp H b = H b:=by unfold aw; rw [if_neg h]
theorem yc (fp : List Addr) (H : Hp) : Same (aw fp H) H:=fun b o e=>by
 by_cases h : b ∈ fp
 ·rw [q9 h] at e; cases e
 ·rw [zP h] at e; exact e
theorem Same.aw {H H' : Hp} (h : Same H H') (fp : List Addr) : Same (aw fp H) (aw fp H'):=fun b o e=>by
 by_cases hb : b ∈ fp
 ·rw [q9 hb] at e; cases e
 ·rw [zP hb] at e ⊢; exact h b o e
theorem zj {H : Hp} {p : Addr} {o : HO} (h : H p = none) : Same H (upd H p o):=fun b u e=>by rw [zq (zy e h)]; exact e
section
variable {X : Cx} {tg : Expr}
end
open PySem PySem.Spec PyProof.Rows PySem.SeqAt
section
variable {X : Cx}
def zeN (K : PySem.W.Frag) : List V->Hp->VK->Prop:=fun xs H Q=>∃ (a : Addr) (ns : List Int),xs = [.ref a]∧SqL K H a (ns.map V.int)∧Q (.int ns.sum) H
theorem zcl (hc : X.calm = true) : vo X (.builtin "sum") (zeN X.K):=by
 intro pins s σ H xs us Q I r h
 obtain ⟨a,ns,rfl,hq,q⟩:=h
 obtain ⟨u,rfl,rx⟩:=vals1 r
 cases rx
 obtain ⟨its,rv,pl,hz⟩:=I.list hq
 have hi:=intsAre_of rv
 obtain ⟨ys,hy⟩:=hi.allInts.items
 have hn : (ys.toList.map (·.1)).sum = ns.sum:=by
  have e:=hi.numsOf
  have e2:=nums_intItems ys
  rw [← hy] at e2
  rw [← e,← e2]
 refine sum_intListG (xs:=ys) (I.ok.hd hc) (by rw [← hy]; exact pl.isList) fun h' tk t' hk=>?_
 refine ⟨.int ns.sum,H,I.kept fun b o e=>hk b o e,?_,q⟩
 refine ⟨t',?_⟩
 rw [preSum_eq,List.take_of_length_le (by simp),hn]
theorem JL (K : PySem.W.Frag) (hc : X.calm = true) (e : X.K = K:=by rfl) : vo X (.builtin "sum") (zeN K):=by subst e; exact zcl hc
end
section
variable {X : Cx}
def zbj (K : PySem.W.Frag) : V->List V->Hp->VK->Prop:=fun x vs H Q=>∃ l xs y ts u j,x = .ref l∧vs = [y]∧SqL K H l xs∧TrsAt K H ts xs∧TrAt K H u y∧xX ts≤8∧j < ts.length ∧
 (∀ t,ts[j]? = some t->teq t u = true)∧(∀ m t,m < j->ts[m]? = some t->teq t u = false)∧Q (.int (j : Nat)) H
open Classical in
theorem zb1 (hu : X.A.units + 64 < cLine) : MtM X "list.index" (zbj X.K):=by
 intro pins s σ H x vs v us Q I rx rv h
 obtain ⟨l,xs,y,ts,u,j,rfl,rfl,hq,hts,ht,hd,hj,hit,hno,q⟩:=h
 cases rx
 obtain ⟨u0,rfl,ru⟩:=Vals.one rv
 obtain ⟨its,r,pl,hz⟩:=I.list hq
 obtain ⟨⟨cls,dd,data,sl⟩,ho,hc,n,hdat⟩:=id pl.isList
 simp only at hc hdat
 subst hc hdat
 have l1:=hts.length
 have m1:=r.length
 have val : ∀ (m : Nat) (hm : m < its.length) (t : Tr),ts[m]? = some t->decide (∃ t x,RelV x its[m]∧TrAt X.K H t x∧teq t u = true) = teq t u:=by
  intro m hm t et
  obtain ⟨z,ez,hz'⟩:=hts.get et
  obtain ⟨w,ew,rw'⟩:=r.get ez
  have e' : its[m] = w:=by
   rw [List.getElem?_eq_getElem hm] at ew
   exact Option.some.inj ew
  rw [e',Bool.eq_iff_iff,decide_eq_true_iff]
  constructor
  ·rintro ⟨t',x',r',h',e3⟩
   rw [rw'.inj r'] at hz'
   rw [VL I 8 (Nat.le_trans (Yy (List.mem_of_getElem? et)) hd) hz' h']; exact e3
  ·intro e3
   exact ⟨t,z,rw',hz',e3⟩
 have hjs : j < its.length:=by omega
 have hsl : (sizeLine : Int) < 2 ^ 63 - 1:=by decide
 refine call_meets PySem.F.slot_list_index ⟨_,ho,rfl⟩ PySem.F.entry_list_index (PySem.F.args_list_index_2 _ _)
  (list_indexAt l its.toArray n dd sl u0 (fun y=>decide (∃ t x,RelV x y∧TrAt X.K H t x∧teq t u = true)) j (by simpa using hjs) (by omega) ?_ ?_) ⟨ho,QK I hu ht ru hd hts r,?_⟩
 ·have q:=val j hjs _ (List.getElem?_eq_getElem hj)
  rw [hit _ (List.getElem?_eq_getElem hj)] at q
  simpa using q
 ·intro m hm hlt
  have hm' : m < ts.length:=by omega
  have q:=val m (by omega) _ (List.getElem?_eq_getElem hm')
  rw [hno m _ hlt (List.getElem?_eq_getElem hm')] at q
  simpa using q
 ·exact ⟨.int (j : Nat),H,I.kept fun b o e=>e,⟨_,rfl⟩,q⟩
theorem zcj (K : PySem.W.Frag) (hu : X.A.units + 64 < cLine) (e : X.K = K:=by rfl) : MtM X "list.index" (zbj K):=by subst e; exact zb1 hu
end
structure Zt (sc : Scope) (scope : Scope) (xs : List Str) (M : List Str) (ys : List Str) (js : List Nat) : Prop where
 kind : scope.kind = .function
 cell : ∀ y ∈ scope.names,y.2 ≠ .cell
 loc : ∀ y ∈ scope.names,y.2 = .local->scope.names.lookup y.1 = some .local
 var : ∀ x ∈ xs,scope.names.lookup x = some .local
 free : ∀ y ∈ scope.names,y.2 = .free->sc.names.lookup y.1 = some .cell∨sc.names.lookup y.1 = some .free
 caps : js.map (M[·]?) = ys.map some
 fr : ∀ y ∈ ys,scope.names.lookup y = some .free
 nd : (xs ++ ys).Nodup
def nones (xs : List Str) : St:=xs.map fun _=>none
theorem CScope.nofree {sc scope : Scope} {x : Str} {M : List Str} (kind : scope.kind = .function) (cell : ∀ y ∈ scope.names,y.2 ≠ .cell) (loc : ∀ y ∈ scope.names,y.2 = .local->scope.names.lookup y.1 = some .local) (var : scope.names.lookup x = some .local) (free : ∀ y ∈ scope.names,y.2 ≠ .free) : CScope sc scope x M [] [] :=
 ⟨kind,cell,loc,var,fun y hy e=>absurd e (free y hy),rfl,by simp,by simp⟩
section
variable {X : Cx} {pins : List (Addr × Obj)} {σ : St} {H : Hp} {s : Shared}
theorem zbX {scope : Scope} {xs ys : List Str} {js : List Nat} {fp : List Addr} {h₁ : Heap} {tk : Nat} {C : Addr} (I : Inv X pins σ H s) (S : Zt X.env.scope scope xs X.N ys js) (hf : ∀ b ∈ fp,Wg X pins H b) (ho : ∀ b ∈ fp,∃ o,s.heap.get? b = some o)
  (hC : s.heap.objs.size≤C) (hk : ∀ b o,s.heap.get? b = some o->h₁.get? b = some o) (hn : h₁.Ns C fun _=>none) :
  Inv (cxC X (xs ++ ys) scope C s H fp) [] (nones xs ++ yU js σ) H { s with heap:=h₁,toks:=tk }:=by
 have sub : ∀ y c,(xV X.env.cells scope.names []).lookup y = some c->X.env.cells.lookup y = some c:=fun y c e=>vO (fun _ _ z=>by simp at z) e
 have has : ∀ y,scope.names.lookup y = some .free->∃ c,(xV X.env.cells scope.names []).lookup y = some c:=fun y e=>by
  have m : (y,NameKind.free) ∈ scope.names:=PySem.mem_of_lookup e
  exact Xu (.inr ⟨m,I.ok.has y (S.free _ m rfl)⟩)
 have lt : ∀ b ∈ fp,b < s.heap.objs.size:=fun b hb=>by obtain ⟨o,e⟩:=ho b hb; exact Heap.lt_size e
 have ok : (cxC X (xs ++ ys) scope C s H fp).Ok:=by
  refine ⟨I.ok.mod,S.kind,I.ok.glob,I.ok.blt,hC,fun y z c e1 e2=>I.ok.inj y z c (sub _ _ e1) (sub _ _ e2),fun y hy=>?_,fun y c z=>?_,I.ok.hd,I.ok.frames,.inl rfl,fun b hb=>?_,I.bs,Nat.le_trans I.ok.bsz I.sz,fun b o e hb=>?_,fun b hb z=>?_,I.stack,I.stkFree⟩
  ·have hy' : (relabel scope X.env).names.lookup y = some .cell∨(relabel scope X.env).names.lookup y = some .free:=hy
   have nocell : scope.names.lookup y ≠ some .cell:=fun z=>S.cell _ (PySem.mem_of_lookup z) rfl
   rcases hy' with e | e
   ·rcases yN e with z | ⟨_,z⟩
    ·exact absurd z nocell
    ·exact has y z
   ·rcases yN e with z | ⟨z,_⟩
    ·exact has y z
    ·cases z
  ·exact absurd (show false = true from z) Bool.false_ne_true
  ·refine ⟨Nat.ne_of_lt (Nat.lt_of_lt_of_le (lt b hb) hC),fun y c e=>(hf b hb).2.2.2.2.1 y c (sub y c e)⟩
  ·rcases (hf b hb).2.2.2.1 with z | z
   ·exact I.ok.noex b o e z
   ·exact absurd (Nat.lt_of_lt_of_le (Heap.lt_size e) (Nat.le_trans I.ok.bsz z)) (Nat.lt_irrefl _)
  ·rcases List.mem_cons.mp (I.stkSub b z) with e | e
   ·exact (hf b hb).2.1 e
   ·exact (hf b hb).2.2.1 e
 refine ⟨ok,rfl,I.bare,Un.kept hk,⟨_,hn,fun i y v e1 e2 e3=>?_⟩,fun y c e=>?_,I.hok.fresh hC,fun y c e=>I.freeC y c (sub y c e),fun p hp=>absurd (show p ∈ ([] : List (Addr × Obj)) from hp) (by simp),I.hok.kept hk,?_⟩
 ·by_cases hix : i < xs.length
  ·have z : (nones xs ++ yU js σ)[i]? = some none:=by
    rw [List.getElem?_append_left (by unfold nones; rw [List.length_map]; exact hix)]
    unfold nones
    rw [List.getElem?_map,List.getElem?_eq_getElem hix]; rfl
   rw [z] at e2; cases e2
  ·obtain ⟨k,rfl⟩ : ∃ k,i = xs.length + k:=⟨i - xs.length,by omega⟩
   have e1' : ys[k]? = some y:=by
    have e1 : (xs ++ ys)[xs.length + k]? = some y:=e1
    rw [List.getElem?_append_right (by omega),Nat.add_sub_cancel_left] at e1; exact e1
   have e2' : (yU js σ)[k]? = some (some v):=by
    rw [List.getElem?_append_right (by unfold nones; rw [List.length_map]; omega)] at e2
    unfold nones at e2
    rw [List.length_map,Nat.add_sub_cancel_left] at e2; exact e2
   obtain ⟨j,hj,hσ⟩:=JP e2'
   have hN : X.N[j]? = some y:=by
    have z:=congrArg (fun l=>l[k]?) S.caps
    simp only [List.getElem?_map,hj,e1',Option.map_some] at z
    exact Option.some.inj z
   have hfr:=S.fr y (List.mem_of_getElem? e1')
   have m : (y,NameKind.free) ∈ scope.names:=PySem.mem_of_lookup hfr
   have hkind:=S.free _ m rfl
   obtain ⟨m',hns,hl⟩:=I.loc
   obtain ⟨u,r,lk⟩:=hl j y v hN hσ (by rcases hkind with z | z; exact .inr (.inl z); exact .inr (.inr z))
   refine ⟨u,r,.inr ⟨?_,?_⟩⟩
   ·have e3' : (relabel scope X.env).names.lookup y = some .local∨(relabel scope X.env).names.lookup y = some .cell∨(relabel scope X.env).names.lookup y = some .free:=e3
    rcases e3' with z | z | z
    ·rcases yN z with q | ⟨q,_⟩
     ·rw [hfr] at q; cases q
     ·cases q
    ·exact .inl z
    ·exact .inr z
   ·obtain ⟨c,hc⟩:=has y hfr
    refine ⟨c,hc,?_⟩
    rcases lk with ⟨z,_⟩ | ⟨_,c',hc',cell⟩
    ·rcases hkind with q | q
     ·have q' : X.env.kindOf y = some .cell:=q
      rw [show X.env.kindOf y = some .local from z] at q'; cases q'
     ·have q' : X.env.kindOf y = some .free:=q
      rw [show X.env.kindOf y = some .local from z] at q'; cases q'
    ·rw [sub y c hc] at hc'
     cases hc'
     obtain ⟨o,e,d⟩:=cell
     exact ⟨o,hk _ _ e,d⟩
 ·obtain ⟨v,o,e',d⟩:=I.cell y c (sub y c e)
  exact ⟨v,o,hk _ _ e',d⟩
 ·have z:=congrArg List.length S.caps
  simp only [List.length_map] at z
  show (nones xs ++ yU js σ).length = (xs ++ ys).length
  simp [yU,nones,z]
end
section
variable {prog : Program} {w : World} {A : Around} {R : Result->Shared->Prop} {s : Shared}
theorem zbO {elt target iter : Expr} {ifs : List Expr} {scope : Scope} {pos : Pos} {it acc : Value} {env : Env} {N : Value->Shared->Prop} (hN : N = notedBy (model prog w) A env fun e s'=>R (.error e) s') (I : Nat->Shared->Prop)
  (turn : ∀ n s,I n s->wpAny (model prog w) A (pyNext it) (fun r s₁=>match r with
   | none=>R (.ok .next) s₁
   | some v=>wpAny (model prog w) A (letOwnedTupleGo target it v) (fun _ s₅=>wpAny (model prog w) A (assign target env v) (fun _ s₂ =>
     wpAny (model prog w) A (forIn ifs true fun c r=>if r = true then do let ok ← isTrue c env (eval c env); pure (ForInStep.yield ok) else pure (ForInStep.yield r)) (fun ok s₃=>if ok = true then wpAny (model prog w) A (eval elt env) (fun x s₄=>wpAny (model prog w) A (call (.builtin "list.append") [acc,x]) (fun _ s₅=>∃ m,m < n∧I m s₅) N s₄) N s₃ else ∃ m,m < n∧I m s₃) N s₂) N s₅) N s₁) N s)
  (n : Nat) (h : I n s) : codeAny (model prog w) A (.compLoop (.ListComp elt [⟨target,iter,ifs,0⟩] scope pos) 0 it acc env) R s:=by
 subst hN
 refine codeAny_loop rfl I (fun n s hI=>?_) n h
 show wpAny _ A ((compTurn (.ListComp elt [⟨target,iter,ifs,0⟩] scope pos) 0 it acc env).onRaise (fun x=>do noteFrame x env; theTreesLotGoes x)) _ _ s
 rw [compTurn_list]
 refine wpAny_noted (wpAny_bind (wpAny_standAt (wpAny_bind (wpAny_mono (turn n s hI) (fun r s₁ h₁=>?_) fun _ _ h'=>h'))))
 cases r with
 | none=>exact wpAny_pure h₁
 | some v =>
  refine wpAny_bind (wpAny_mono h₁ (fun _ s₅ h₅=>wpAny_bind (wpAny_mono h₅ (fun _ s₂ h₂=>wpAny_bind (wpAny_mono h₂ (fun ok s₃ h₃=>?_) fun _ _ h'=>h')) fun _ _ h'=>h')) fun _ _ h'=>h')
  cases ok with
  | false=>exact wpAny_pure ⟨rfl,h₃⟩
  | true=>exact wpAny_bind (wpAny_bind (wpAny_mono h₃ (fun x s₄ h₄=>wpAny_bind (wpAny_mono h₄ (fun _ s₆ h₆=>wpAny_pure (wpAny_pure ⟨rfl,h₆⟩)) fun _ _ h'=>h')) fun _ _ h'=>h'))
end
def WF (J : It) (xs : List Str) (js : List Nat) (g : TG) (tt : TT) (te : TE) (σ : St) (Q : VK) (H : Hp) : Prop:=∃ W : Nat->Nat->List V->Hp->Prop,(∃ m,W 0 m [] H)∧∀ i m ys H,W i m ys H ->
 (J.stop i H∧∀ D,H D = none->Q (.ref D) (upd H D (.lst ys))) ∨
 (J.go i H∧ys.length < sizeLine∧∃ N : List V->Hp->Prop,(∀ ys' H',N ys' H'->∃ m',m' < m∧W (i + 1) m' ys' H')∧∀ x H',J.yld i H x H'->g x (nones xs ++ yU js σ) H' fun σ' H1=>(∃ vs : St,vs.length = xs.length∧σ' = vs ++ yU js σ)∧tt σ' H1 fun b H2=>if b = true then te σ' H2 fun v H3=>N (ys ++ [v]) H3 else N ys H2)
def zes (wi : TI) (xs : List Str) (js : List Nat) (g : TG) (tt : TT) (te : TE) : TE:=fun σ H Q=>wi σ H fun J H1=>WF J xs js g tt te σ Q H1
section
variable {X : Cx} {elt iter : Expr} {ifs : List Expr} {tg : Expr} {xs : List Str} {pos : Pos} {g : TG} {scope : Scope} {ys : List Str} {js : List Nat} {wi : TI} {tt : TT} {te : TE}
theorem JN {pins : List (Addr × Obj)} {σ : St} {H : Hp} {s : Shared} {J : It} {fp : List Addr} {it : Addr} {tn : Nat->Heap->Prop} {Q : VK} {E : Value->Shared->Prop} {R : Value->Addr->Result->Shared->Prop}
  (S : Zt X.env.scope scope xs X.N ys js) (hc : X.calm = true) (hg : ∀ C s₀ H₀ ex,PG (cxC X (xs ++ ys) scope C s₀ H₀ ex) tg g) (ht : ∀ C s₀ H₀ ex,PTs (cxC X (xs ++ ys) scope C s₀ H₀ ex) ifs tt) (he : ∀ C s₀ H₀ ex,PE (cxC X (xs ++ ys) scope C s₀ H₀ ex) elt te)
  (I : Inv X pins σ H s) (T : Turn X.prog X.w X.K tg J fp it tn) (st : tn 0 s.heap) (hf : ∀ b ∈ fp,Wg X pins H b)
  (hw : ∃ W : Nat->Nat->List V->Hp->Prop,(∃ m,W 0 m [] H)∧∀ i m zs H,W i m zs H ->
   (J.stop i H∧∀ D,H D = none->Q (.ref D) (upd H D (.lst zs))) ∨
   (J.go i H∧zs.length < sizeLine∧∃ N : List V->Hp->Prop,(∀ ys' H',N ys' H'->∃ m',m' < m∧W (i + 1) m' ys' H')∧∀ x H',J.yld i H x H'->g x (nones xs ++ yU js σ) H' fun σ' H1=>(∃ vs : St,vs.length = xs.length∧σ' = vs ++ yU js σ)∧tt σ' H1 fun b H2=>if b = true then te σ' H2 fun v H3=>N (zs ++ [v]) H3 else N zs H2))
  (hR : ∀ D C s' H' m',Inv X pins σ H' s'->Q (.ref D) H'->s.heap.objs.size≤C->H' C = none->s'.heap.Ns C m'->R (.ref D) C (.ok .next) s') :
  wpAny (model X.prog X.w) X.A (newList []) (fun acc s₃=>wpAny (model X.prog X.w) X.A (newFunctionEnv scope X.env.globals (xV X.env.cells scope.names []) [] X.env.qual none .none (some X.env)) (fun cenv s₄ =>
   codeAny (model X.prog X.w) X.A (.compStart (.ListComp elt [⟨tg,iter,ifs,0⟩] scope pos) 0 (.ref it) acc { cenv with scope:=relabel scope X.env }) (R acc cenv.locals) s₄) E s₃) E s:=by
 obtain ⟨W,⟨m0,w0⟩,turn⟩:=hw
 refine wpAny_newObj_type (wpAny_newFunctionEnv S.cell (by intro y hy; simp at hy) (fun h₁ hns₁ hsb₁=>?_) S.kind)
 dsimp only at hns₁ hsb₁ ⊢
 generalize hH2 : s.heap.push { cls:=.type "list",dict:=none,data:=.seq ([] : List Value).toArray } = G at hns₁ hsb₁ ⊢
 generalize hD : s.heap.objs.size = D at *
 generalize hCe : G.objs.size = C at *
 have hC : C = D + 1:=by rw [← hCe,← hH2,Heap.size_push,hD]
 have hDlt : D < C:=by rw [hC]; exact Nat.lt_succ_self D
 have hDC : D ≠ C:=Nat.ne_of_lt hDlt
 have old : ∀ b o,s.heap.get? b = some o->h₁.get? b = some o:=fun b o e=>by
  have hb : b < D:=hD ▸ Heap.lt_size e
  exact (hsb₁.2 b (Nat.ne_of_lt (Nat.lt_trans hb hDlt))).trans (Heap.get?_push_of_some _ (hH2 ▸ Heap.get?_push_of_some _ e))
 have hacc : h₁.get? D = some { cls:=.type "list",data:=.seq ([] : List Value).toArray 0 }:=by
  refine (hsb₁.2 D hDC).trans (Heap.get?_push_of_some _ ?_)
  rw [← hH2,← hD]
  exact Heap.get?_push_size _ rfl
 have obj0:=T.obj 0 _ st
 have fplt : ∀ b ∈ fp,b < D:=fun b hb=>by obtain ⟨o,e,_⟩:=obj0 b hb; exact hD ▸ Heap.lt_size e
 generalize hX : cxC X (xs ++ ys) scope C s H fp = X'
 have I1 : Inv X' [] (nones xs ++ yU js σ) H { s with heap:=h₁,toks:=s.toks + ([] : List (Str × Value)).length }:=by
  subst hX
  exact zbX I S hf (fun b hb=>by obtain ⟨o,e,_⟩:=obj0 b hb; exact ⟨o,e⟩) (by omega) old (by simpa using hns₁)
 have eP : X'.prog = X.prog:=by subst hX; rfl
 have eW : X'.w = X.w:=by subst hX; rfl
 have eK : X'.K = X.K:=by subst hX; rfl
 have eA : X'.A = X.A:=by subst hX; rfl
 have eC : X'.calm = true:=by subst hX; exact hc
 have eL : X'.env.locals = C:=by subst hX; rfl
 have eS : X'.s₀ = s:=by subst hX; rfl
 have eN : X'.N = xs ++ ys:=by subst hX; rfl
 have eE : X'.env = compEnvC scope (xV X.env.cells scope.names []) C X.env:=by subst hX; rfl
 have eXe : X'.xe = fun _ _=>False:=by subst hX; rfl
 have eX : X'.ex = fp:=by subst hX; rfl
 have ePn : X'.pn = []:=by subst hX; rfl
 have efs : ∀ b,b ∈ X'.fs->b ∈ frs X.stack:=fun b z=>by subst hX; exact z
 have cellLt : ∀ y c,X'.env.cells.lookup y = some c->c < D:=fun y c e=>by
  have e' : (xV X.env.cells scope.names []).lookup y = some c:=by rw [eE] at e; exact e
  obtain ⟨v,o,e2,_⟩:=I.cell y c (vO (fun _ _ z=>by simp at z) e')
  exact hD ▸ Heap.lt_size e2
 have frLt : ∀ b,b ∈ X'.fs->b < D:=fun b z=>by
  rcases List.mem_cons.mp (I.stkSub b (efs b z)) with e | e
  ·rw [e]; exact hD ▸ I.lt
  ·exact Nat.lt_of_not_le fun h=>I.nofs (hD ▸ h) e
 have fpOk : ∀ (p : List (Addr × Obj)) (H' : Hp),(∀ b ∈ fp,H' b = none)->(∀ q ∈ p,q.1 = D)->∀ b ∈ fp,Wg X' p H' b:=fun p H' hn hp b hb=>by
  refine ⟨hn b hb,?_,fun z=>?_,.inl (eX ▸ hb),fun y c e=>?_,fun q hq=>?_⟩
  ·rw [eL]; exact Nat.ne_of_lt (Nat.lt_trans (fplt b hb) hDlt)
  ·rcases List.mem_cons.mp (I.stkSub b (efs b z)) with e | e
   ·exact (hf b hb).2.1 e
   ·exact (hf b hb).2.2.1 e
  ·have e' : (xV X.env.cells scope.names []).lookup y = some c:=by rw [eE] at e; exact e
   exact (hf b hb).2.2.2.2.1 y c (vO (fun _ _ z=>by simp at z) e')
  ·rw [ePn,List.nil_append] at hq
   rw [hp q hq]; exact Nat.ne_of_gt (fplt b hb)
 have noCell : ∀ (its : List Value) (k : Nat) v,({ cls:=.type "list",data:=.seq its.toArray k } : Obj).data ≠ .cell v:=fun its k v z=>by cases z
 have done : ∀ {zs : List V} {its : List Value} {k : Nat} {H' : Hp} {s' : Shared},Inv X' [] (nones xs ++ yU js σ) H' s'->s'.heap.get? D = some { cls:=.type "list",data:=.seq its.toArray k }->Vals zs its->H' D = none->zs.length≤sizeLine ->
   (∀ D,H' D = none->Q (.ref D) (upd H' D (.lst zs)))->R (.ref D) C (.ok .next) s':=fun {zs its k H' s'} I' hd hv hn hz q=>by
  have un:=I'.base
  obtain ⟨m',hns,_⟩:=I'.loc
  rw [eL] at hns
  have hCn : H' C = none:=by have:=I'.free; rw [eL] at this; exact this
  have hH0 : X'.H₀ = H:=by subst hX; rfl
  rw [hH0,eS,eX] at un
  have un2 : Un (frs X.stack) fp H (upd H' D (.lst zs)) s.heap s'.heap:=by
   have ne : ∀ b o,s.heap.get? b = some o->b ≠ D:=fun b o e=>Nat.ne_of_lt (hD ▸ Heap.lt_size e)
   have un' : Un (frs X.stack) fp H H' s.heap s'.heap:=by subst hX; exact un
   exact ⟨un'.keep,un'.slot,fun b o e n hx=>by rw [zq (ne b o e)]; exact un'.free b o e n hx,un'.there,fun b xs e=>by rw [zq (zy (un'.tups b xs e) hn)]; exact un'.tups b xs e,
    fun b o u e=>by rw [zq (zy (un'.frzs b o u e) hn)]; exact un'.frzs b o u e,fun b ps e=>by
     obtain ⟨more,z⟩:=un'.tbls b ps e
     exact ⟨more,by rw [zq (zy z hn)]; exact z⟩⟩
  have hok : HOk X.prog X.w (upd H' D (.lst zs)) s'.heap:=by
   have h0:=I'.hok
   rw [eP,eW] at h0
   exact h0.track hn ⟨hz,its,k,hv,hd⟩
  have I2 : Inv X pins σ (upd H' D (.lst zs)) s':=I.call' (by have:=I'.os; rw [eS] at this; exact this) un2 hok I'.bare fun b hb=>⟨(hf b hb).2.2.2.1,(hf b hb).2.1,(hf b hb).2.2.2.2.1,(hf b hb).2.2.2.2.2⟩
  exact hR D C s' _ m' I2 (q D hn) (by omega) (by rw [zq (Ne.symm hDC)]; exact hCn) hns
 have loop : codeAny (model X.prog X.w) X.A (.compLoop (.ListComp elt [⟨tg,iter,ifs,0⟩] scope pos) 0 (.ref it) (.ref D) X'.env) (R (.ref D) C) { s with heap:=h₁,toks:=s.toks + ([] : List (Str × Value)).length }:=by
  refine zbO rfl (fun n s'=>∃ i zs its k H',Inv X' [] (nones xs ++ yU js σ) H' s'∧tn i s'.heap∧(∀ b ∈ fp,H' b = none)∧s'.heap.get? D = some { cls:=.type "list",data:=.seq its.toArray k }∧Vals zs its∧H' D = none∧zs.length≤sizeLine∧W i n zs H')
   ?_ m0 ⟨0,[],[],0,H,I1,T.keep _ _ _ st (fun b hb o e=>old b o e),fun b hb=>(hf b hb).1,hacc,.nil,I.hok.fresh (by omega),Nat.zero_le _,w0⟩
  rintro n s3 ⟨i,zs,its,k,H3,I3,st3,fr3,d3,v3,n3,z3,w3⟩
  have pinD : Inv X' [(D,{ cls:=.type "list",data:=.seq its.toArray k })] (nones xs ++ yU js σ) H3 s3:=I3.pins_of fun p hp=>by
   have e : p = (D,{ cls:=.type "list",data:=.seq its.toArray k }):=by simpa using hp
   subst e
   exact ⟨d3,n3,by rw [eL]; exact hDC,fun z=>Nat.lt_irrefl _ (frLt D z),noCell its k⟩
  have hpD : ∀ q ∈ [(D,({ cls:=.type "list",data:=.seq its.toArray k } : Obj))],q.1 = D:=fun q hq=>by
   have e : q = (D,{ cls:=.type "list",data:=.seq its.toArray k }):=by simpa using hq
   rw [e]
  rcases turn i n zs H3 w3 with ⟨stop,qn⟩ | ⟨go,hzl,NN,hNN,step⟩
  ·refine thn (eA ▸ T.done X' eP eW eK eC i _ s3 _ H3 _ pinD (fpOk _ _ fr3 hpD) st3 stop) fun r s4 ⟨hr,I4⟩=>?_
   subst hr
   exact done (I4.pins_of fun p hp=>absurd hp (by simp)) (I4.pin (D,{ cls:=.type "list",data:=.seq its.toArray k }) (List.mem_append_right _ (by simp))).1 v3 n3 z3 qn
  ·refine thn (eA ▸ T.item X' eP eW eK eC i _ s3 _ H3 _ pinD (fpOk _ _ fr3 hpD) st3 go) fun r s4 ⟨u,hr,h4⟩=>?_
   subst hr
   refine thn h4 fun _ s4 ⟨v,H5,I5,r5,y5,st5,fr5⟩=>?_
   have I5':=I5.pinned (fpOk _ _ fr5 hpD) (T.obj _ _ st5)
   have ev : ∀ {α : Type} {t : Sem α} {Q' : α->Shared->Prop} {E' : Value->Shared->Prop} {s' : Shared},wpAny (model X'.prog X'.w) X'.A t Q' X'.xe s'->wpAny (model X.prog X.w) X.A t Q' E' s':=fun {α t Q' E' s'} hh=>by
    rw [eP,eW,eA,eXe] at hh
    exact wpAny_mono hh (fun _ _ q=>q) fun _ _ z=>z.elim
   have hgg : PG X' tg g:=hX ▸ hg C s H fp
   refine ev (thn (hgg _ s4 _ H5 v u _ I5' r5 (step v H5 y5)) fun _ s6 ⟨σ6,H6,I6,⟨vs6,hvl,e6⟩,q6⟩=>?_)
   subst e6
   have back : ∀ {σ' : St} {H7 : Hp} {s7 : Shared},Inv X' ([(D,{ cls:=.type "list",data:=.seq its.toArray k })] ++ Yv fp s4.heap) (vs6 ++ yU js σ) H7 s7->Inv X' [] (nones xs ++ yU js σ) H7 s7:=fun {_ H7 s7} I7=>by
    refine (I7.pins_of fun p hp=>absurd hp (by simp)).weak (by rw [List.length_append,List.length_append,hvl]; unfold nones; rw [List.length_map]) fun i v' e=>?_
    by_cases hix : i < xs.length
    ·have z : (nones xs ++ yU js σ)[i]? = some none:=by
      rw [List.getElem?_append_left (by unfold nones; rw [List.length_map]; exact hix)]
      unfold nones
      rw [List.getElem?_map,List.getElem?_eq_getElem hix]; rfl
     rw [z] at e; cases e
    ·have hn : (nones xs).length = xs.length:=by unfold nones; rw [List.length_map]
     rw [List.getElem?_append_right (by omega),hn] at e
     rw [List.getElem?_append_right (by omega),hvl]
     exact e
   have fps : ∀ {σ' : St} {H7 : Hp} {s7 : Shared},Inv X' ([(D,{ cls:=.type "list",data:=.seq its.toArray k })] ++ Yv fp s4.heap) σ' H7 s7->(∀ b ∈ fp,H7 b = none)∧(∀ b ∈ fp,∀ o,s4.heap.get? b = some o->s7.heap.get? b = some o)∧s7.heap.get? D = some { cls:=.type "list",data:=.seq its.toArray k }∧H7 D = none:=fun {σ' H7 s7} I7=>by
    have g : ∀ b ∈ fp,∀ o,s4.heap.get? b = some o->s7.heap.get? b = some o∧H7 b = none:=fun b hb o e=>by
     have z:=I7.pin (b,o) (List.mem_append_right _ (List.mem_append_right _ (Zy hb e)))
     exact ⟨z.1,z.2.1⟩
    refine ⟨fun b hb=>?_,fun b hb o e=>(g b hb o e).1,(I7.pin (D,{ cls:=.type "list",data:=.seq its.toArray k }) (List.mem_append_right _ (by simp))).1,(I7.pin (D,{ cls:=.type "list",data:=.seq its.toArray k }) (List.mem_append_right _ (by simp))).2.1⟩
    obtain ⟨o,e,_⟩:=T.obj _ _ st5 b hb
    exact (g b hb o e).2
   have hte : PTs X' ifs tt:=hX ▸ ht C s H fp
   have hee : PE X' elt te:=hX ▸ he C s H fp
   refine ev (thn (hte _ s6 _ H6 _ I6 q6) fun b s7 ⟨H7,I7,q7⟩=>?_)
   cases b with
   | false =>
    rw [if_neg Bool.false_ne_true]
    rw [if_neg Bool.false_ne_true] at q7
    obtain ⟨m',hm,w7⟩:=hNN _ _ q7
    obtain ⟨g1,g2,g3,g4⟩:=fps I7
    exact ⟨m',hm,i + 1,zs,its,k,H7,back (σ':=[]) I7,T.keep _ _ _ st5 g2,g1,g3,v3,g4,z3,w7⟩
   | true =>
    rw [if_pos rfl]
    rw [if_pos rfl] at q7
    refine ev (thn (hee _ s7 _ H7 _ I7 q7) fun u8 s8 ⟨v8,H8,I8,r8,q8⟩=>?_)
    obtain ⟨m',hm,w8⟩:=hNN _ _ q8
    obtain ⟨g1,g2,g3,g4⟩:=fps I8
    have hil:=v3.length
    refine call_meets F.slot_list_append ⟨_,g3,rfl⟩ F.entry_list_append (F.args_list_append_2 _ _) (PySem.list_append D its.toArray k u8 (by rw [List.size_toArray]; omega)) ⟨g3,?_⟩
    have q:=PySem.IsL.update g3 (fun a=>a.push u8)
    have ea : its.toArray.push u8 = (its ++ [u8]).toArray:=by simp
    rw [ea] at q
    have kk : ∀ b o,b ≠ D->s8.heap.get? b = some o->(s8.heap.update D (Obj.mapSeq fun a=>a.push u8)).get? b = some o:=fun b o hb e=>(Heap.get?_update_other _ _ (Ne.symm hb)).trans e
    have I9 : Inv X' [] (nones xs ++ yU js σ) H8 { s8 with heap:=s8.heap.update D (Obj.mapSeq fun a=>a.push u8),toks:=s8.toks }:=by
     refine (back (σ':=[]) I8).turned kk g4 (by rw [eL]; exact hDC) (.inr (by rw [eS]; omega)) (fun y c e=>Nat.ne_of_lt (cellLt y c e)) fun p hp=>?_
     rw [ePn] at hp
     exact absurd hp (by simp)
    refine ⟨m',hm,i + 1,zs ++ [v8],its ++ [u8],_,H8,I9,T.keep _ _ _ st5 (fun b hb o e=>kk b o (Nat.ne_of_lt (fplt b hb)) (g2 b hb o e)),g1,q,v3.append (.cons r8 .nil),g4,?_,w8⟩
    rw [List.length_append,List.length_singleton]
    omega
 rw [eE] at loop
 exact codeAny_compStart_list loop (T.self _ 0 _ _ _ (T.keep _ _ _ st (fun b hb o e=>old b o e)) loop)
theorem Wf (S : Zt X.env.scope scope xs X.N ys js) (hc : X.calm = true) (hi : PI X tg iter wi) (hg : ∀ C s₀ H₀ ex,PG (cxC X (xs ++ ys) scope C s₀ H₀ ex) tg g) (ht : ∀ C s₀ H₀ ex,PTs (cxC X (xs ++ ys) scope C s₀ H₀ ex) ifs tt) (he : ∀ C s₀ H₀ ex,PE (cxC X (xs ++ ys) scope C s₀ H₀ ex) elt te)
  (hs : ∀ x,foldedSetIterable iter X.env x = pure x:=by intro _; rfl) : PE X (.ListComp elt [⟨tg,iter,ifs,0⟩] scope pos) (zes wi xs js g tt te):=by
 intro pins s σ H Q I h
 rw [eval_ListComp]
 refine wpAny_comprehension_free (use:=none) rfl hs (jN fun y hy e=>I.ok.has _ (S.free y hy e)) S.kind S.loc (thn (hi pins s σ H _ I h) fun v s1 h1=>thn h1 fun itv s2 h2=>?_)
 obtain ⟨it,fp,tn,J,H2,e,I2,T,st2,f2,hw⟩:=h2
 subst e
 refine JN (Q:=Q) (R:=fun acc C=>compPost (model X.prog X.w) X.A X.xe none (EP X pins σ Q) acc C) S hc hg ht he I2 T st2 f2 hw ?_
 intro D C s' H' m' I' q hC hn hns
 refine ⟨m',hns,fun h' hs'=>⟨.ref D,H',?_,rfl,q⟩⟩
 have e:=I2.fpOk hC hn
 exact I'.turned (t':=s'.toks) (fun b o hb e=>(hs'.2 b hb).trans e) hn e.2.1 e.2.2.2.1 e.2.2.2.2.1 e.2.2.2.2.2
end
theorem V2 {K : PySem.W.Frag} {a : Addr} {xs : List V} {ns : List Str} {js : List Nat} {g : TG} {tt : TT} {te : TE} {σ : St} {H : Hp} {Q : VK} (Pv : Nat->List V->Hp->Prop) (h0 : Pv 0 [] H) (hl : ∀ i ys H,i≤xs.length->Pv i ys H->SqL K H a xs)
  (hs : ∀ i x ys H,xs[i]? = some x->Pv i ys H->ys.length < sizeLine∧g x (nones ns ++ yU js σ) H fun σ' H1=>(∃ vs : St,vs.length = ns.length∧σ' = vs ++ yU js σ)∧tt σ' H1 fun b H2=>if b = true then te σ' H2 fun v H3=>Pv (i + 1) (ys ++ [v]) H3 else Pv (i + 1) ys H2)
  (hd : ∀ ys H,Pv xs.length ys H->∀ D,H D = none->Q (.ref D) (upd H D (.lst ys))) :
  WF (Itl K a) ns js g tt te σ Q H:=by
 refine ⟨fun i m ys H=>m = xs.length - i∧i≤xs.length∧Pv i ys H,⟨xs.length,by simp,Nat.zero_le _,h0⟩,?_⟩
 rintro i m ys H ⟨rfl,hi,p⟩
 have q:=hl i ys H hi p
 by_cases hlt : i < xs.length
 ·have hx : xs[i]? = some xs[i]:=List.getElem?_eq_getElem hlt
  obtain ⟨hz,hst⟩:=hs i xs[i] ys H hx p
  refine .inr ⟨⟨xs,xs[i],q,hx⟩,hz,Pv (i + 1),fun ys' H' p'=>⟨xs.length - (i + 1),by omega,rfl,hlt,p'⟩,fun x H' y=>?_⟩
  obtain ⟨e,y⟩:=y
  subst e
  have e2:=y xs q
  rw [hx] at e2
  cases e2
  exact hst
 ·have e : i = xs.length:=by omega
  subst e
  exact .inl ⟨⟨xs,q,Nat.le_refl _⟩,hd ys H p⟩
theorem Jo {X : Cx} (K : PySem.W.Frag) {es : List Expr} {k : Nat} {t : TGs} {pos : Pos} (n : Nat) (hc : X.calm = true) (h : PGs X es t) (e : X.K = K:=by rfl)
  (hn : (assignEach es X.env).length = n:=by rfl) (hst : (assignEach es X.env).findIdx? (·.1) = none:=by rfl) : PG X (.Tuple es k pos) (zeY K n t):=by subst e; exact W0 hc h hn hst
theorem xY {X : Cx} (K : PySem.W.Frag) {e : Expr} {f : Str} {pos : Pos} {ta : TE} (he : PE X e ta) (hb : attributeBase e f X.env (eval e X.env) = eval e X.env:=by rfl) (ek : X.K = K:=by rfl) : PE X (.Attribute e f pos) (zfh K ta f):=by subst ek; exact zel he hb
structure Mt (K : PySem.W.Frag) (C : Addr) (q x : Str) (st : Stmt) (ps : List Str) (f : Addr) (fd : FuncData) : Prop where
 fn : Fun K x q st f fd
 b : Binds K fd ps []
 m : Meth K C x f
theorem Yb {X : Cx} {C : Addr} {q x : Str} {st : Stmt} {ps : List Str} {f : Addr} {fd : FuncData} {k : Nat} {sp : Sp} {o e : Expr} {es : List Expr} {ta : TE} {t : TA} {apos pos : Pos} {pl : Sem Bool} (D : Mt X.K C q x st ps f fd) (c : Cls X.K C) (G : FnOk X.prog X.w X.K X.mg X.base CX0 k f fd ps sp) (hr : Room k X.A) (he : PE X o ta) (ha : PA X (e :: es) t)
  (hst : starEach (e :: es) X.env = (false,eval e X.env) :: starEach es X.env:=by rfl) (hpl : (backTo pos (starEach es X.env)).any (·.1) = false:=by rfl)
  (ht : eval (.Call (.Attribute o x apos) (e :: es) [] pos) X.env = (do
   let ov ← eval o X.env
   standAt apos.atName
   let (f,first) ← holding [ov] (getMethod ov x pl)
   callWith pos f first (backTo pos (starEach (e :: es) X.env)) (backToKw pos (keywordEach [] X.env))):=by rfl) : PE X (.Call (.Attribute o x apos) (e :: es) [] pos) (zdY C x sp [] E0 ta t) :=
 zdk he c D.m G hr D.b .nil zap ha hst hpl ht
structure zbB (mg : Str->Option Value) : Prop where
 n_sum : mg "sum" = none
 n_abs : mg "abs" = none
 n_zip : mg "zip" = none
 n_str : mg "str" = none
section
variable {X : Cx} {tg : Expr}
end
theorem Inv.turned2 {X : Cx} {pins : List (Addr × Obj)} {σ : St} {H : Hp} {s : Shared} {h' : Heap} {e it T : Addr} {o : HO} {t' : Nat} (I : Inv X pins σ H s) (k : ∀ b o,b ≠ e->b ≠ it->s.heap.get? b = some o->h'.get? b = some o) (fe : Wg X pins H e) (fi : Wg X pins H it) (hT : s.heap.objs.size≤T)
  (new : ObjOk X.prog X.w (upd H T o) h' T o) : Inv X pins σ (upd H T o) { s with heap:=h',toks:=t' }:=by
 have hn : H T = none:=I.hok.fresh hT
 have na : ∀ b u,H b = some u->b ≠ T:=fun b u e z=>by rw [z,hn] at e; cases e
 have ne : ∀ b u,H b = some u->b ≠ e:=fun b u q z=>by rw [z,fe.1] at q; cases q
 have ni : ∀ b u,H b = some u->b ≠ it:=fun b u q z=>by rw [z,fi.1] at q; cases q
 have k' : ∀ b o,b ∉ [e,it]->s.heap.get? b = some o->h'.get? b = some o:=fun b o hb q=>k b o (fun z=>hb (by simp [z])) (fun z=>hb (by simp [z])) q
 refine I.step (g':=s.gens) (d':=s.drawn) (ch:=[e,it]) (fun b hb=>?_) (fun b o _ _ hc q _=>k' b o hc q) (fun b o _ _ hc q _=>⟨o.slots,k' b o hc q⟩) (fun b o hc q n=>by rw [zq (Nat.ne_of_lt (Nat.lt_of_lt_of_le (Heap.lt_size q) hT))]; exact n)
  (fun b o hc q=>⟨o,k' b o hc q⟩) (fun b xs q=>by rw [zq (na b _ q)]; exact q) (fun b o u q=>by rw [zq (na b _ q)]; exact q) (fun b ps q=>⟨#[],by rw [zq (na b _ q),q]; simp⟩) (fun m hm=>?_) (fun b u q=>?_) I.bare
 ·rcases List.mem_cons.mp hb with z | hb
  ·subst z; exact ⟨fe.2.2.2.1,fe.2.1,fe.2.2.2.2.1,fe.2.2.2.2.2⟩
  ·have z : b = it:=by simpa using hb
   subst z; exact ⟨fi.2.2.2.1,fi.2.1,fi.2.2.2.2.1,fi.2.2.2.2.2⟩
 ·obtain ⟨o,es,ep,ho,r⟩:=hm
  exact ⟨o,es,ep,k _ o (Ne.symm fe.2.1) (Ne.symm fi.2.1) ho,r⟩
 ·by_cases hb : b = T
  ·subst hb
   rw [zf] at q
   cases q
   exact new
  ·rw [zq hb] at q
   refine (I.hok b u q).stay (fun c v hc z=>k c v ?_ ?_ z) (fun c z=>by rw [zq (na c _ z)]; exact z) fun c xs z=>by rw [zq (na c _ z)]; exact z
   ·rcases hc with rfl | hc
    ·exact ne _ _ q
    ·exact ne _ _ hc
   ·rcases hc with rfl | hc
    ·exact ni _ _ q
    ·exact ni _ _ hc
def Ite (K : PySem.W.Frag) (a : Addr) : It :=
 ⟨fun i H=>∃ xs x,SqL K H a xs∧xs[i]? = some x,fun i H v H'=>∃ T x,v = .ref T∧H T = none∧H' = upd H T (.tup [.int (i : Nat),x])∧∀ xs,SqL K H a xs->xs[i]? = some x,fun i H=>∃ xs,SqL K H a xs∧xs.length≤i⟩
theorem zb6 {P : Program} {w : World} {K : PySem.W.Frag} {elts : List Expr} {k : Nat} {tp : Pos} (a e it : Addr) (hei : e ≠ it) : Turn P w K (.Tuple elts k tp) (Ite K a) [e,it] e (fun i h=>(∃ old,IsEnum h e it i old)∧h.IsListIter it a i) where
 mem:=by simp
 obj:=fun i h st b hb=>by
  obtain ⟨⟨old,he⟩,o,hi,c,d⟩:=st
  rcases List.mem_cons.mp hb with z | hb
  ·subst z
   exact ⟨_,he,fun v z=>by
    have z' : Data.fields _ = Data.cell v:=z
    cases z'⟩
  ·have z : b = it:=by simpa using hb
   subst z
   exact ⟨o,hi,fun v z=>by rw [d] at z; cases z⟩
 keep:=fun i h h' st k=>by
  obtain ⟨⟨old,he⟩,hi⟩:=st
  exact ⟨⟨old,k e (by simp) _ he⟩,hi.at fun o q=>k it (by simp) o q⟩
 item:=by
  intro X hP hw hK hc i pins s σ H E I hf st hg
  subst hP hw hK
  obtain ⟨xs,x,hq,hx⟩:=hg
  obtain ⟨its,rv,p,hz⟩:=I.list hq
  obtain ⟨u,hu,ru⟩:=rv.get hx
  obtain ⟨⟨old,he⟩,hi⟩:=st
  refine wpAny_pyNext_enum_item he hi p.isList (x:=u) (by simpa using hu) hei fun h' ho hi' hT hsz hk=>?_
  refine ⟨_,rfl,?_⟩
  refine wpAny_letOwnedTupleGo_enum (s:={ s with heap:=h',toks:=s.toks + 1 }) ho fun h'' he' hs'=>?_
  have helt : e < s.heap.objs.size:=Heap.lt_size he
  have hT2 : h''.get? s.heap.objs.size = some { cls:=.type "tuple",data:=.seq #[.int i s.toks,u] }:=(hs'.2 _ (Nat.ne_of_gt helt)).trans hT
  have fe:=hf e (by simp)
  have fi:=hf it (by simp)
  have I1 : Inv X pins σ (upd H s.heap.objs.size (.tup [.int (i : Nat),x])) { s with heap:=h'',toks:=s.toks + 1 }:=by
   refine I.turned2 (fun b o hb1 hb2 q=>(hs'.2 b hb1).trans (hk b o hb1 hb2 q)) fe fi (Nat.le_refl _) ⟨by show 2≤sizeLine; decide,[.int i s.toks,u],.cons ⟨_,rfl⟩ (.cons ru .nil),_,hT2,rfl,0,rfl⟩
  refine ⟨.ref s.heap.objs.size,_,I1,rfl,⟨s.heap.objs.size,x,rfl,I.hok.fresh (Nat.le_refl _),rfl,fun ys hy=>by rw [I.list_inj hy hq]; exact hx⟩,⟨⟨_,by simpa using he'⟩,hi'.at fun o q=>(hs'.2 it (Ne.symm hei)).trans q⟩,fun b hb=>?_⟩
  have hbl : b < s.heap.objs.size:=by
   rcases List.mem_cons.mp hb with z | hb
   ·rw [z]; exact helt
   ·have z : b = it:=by simpa using hb
    obtain ⟨o,q,_⟩:=hi
    rw [z]; exact Heap.lt_size q
  rw [zq (Nat.ne_of_lt hbl)]
  exact (hf b hb).1
 done:=by
  intro X hP hw hK hc i pins s σ H E I hf st hg
  subst hP hw hK
  obtain ⟨xs,hq,hx⟩:=hg
  obtain ⟨its,rv,p,hz⟩:=I.list hq
  obtain ⟨⟨old,he⟩,hi⟩:=st
  obtain ⟨f0,f1,f2,f3,f4,f5⟩:=hf it (by simp)
  have hl:=rv.length
  exact wpAny_pyNext_enum_end (I.ok.hd hc) he hi p.isList (by simp; omega) fun h' eb=>⟨rfl,I.turned (t':=s.toks) (fun b o hb q=>eb b o hb q) f0 f1 f3 f4 f5⟩
 self:=fun _ _ _ _ _ st h=>by
  obtain ⟨⟨old,he⟩,_⟩:=st
  exact wpAny_pyIter_enum he h
section
variable {X : Cx}
def zfl (K : PySem.W.Frag) (tl : TA) : TI:=fun σ H R=>tl σ H fun vs H1=>∃ a,vs = [.ref a]∧(∃ xs,SqL K H1 a xs)∧R (Ite K a) H1
theorem zdD (K : PySem.W.Frag) {elts : List Expr} {k : Nat} {tp : Pos} {a : Expr} {ta : TA} {p pos : Pos} (hg : Gl X "enumerate") (hm : X.mg "enumerate" = none) (ha : PA X [a] ta) (hs : starEach [a] X.env = [(false,eval a X.env)]:=by rfl) (ek : X.K = K:=by rfl) :
  PI X (.Tuple elts k tp) (.Call (.Name "enumerate" p) [a] [] pos) (zfl K ta):=by
 subst ek
 intro pins s σ H R I h
 refine Call_ (Zj I hg hm boot_enumerate (PyProof.Rows.callWith_type1 (thn (ha pos pins s σ H _ I h) fun us s1 ⟨vs,H1,I1,r1,q1⟩=>?_) (by rw [hs]; rfl) (by rfl)))
 obtain ⟨l,e,⟨xs,hq⟩,q⟩:=q1
 subst e
 cases r1 with
 | cons r rr =>
  cases rr
  cases r
  obtain ⟨its,rv,pl,hz⟩:=I1.list hq
  refine call_enumerate_list pl.isList fun h' he hi hsz hk=>?_
  refine wpAny_pyIter_enum (s:={ s1 with heap:=h' }) he ?_
  have I2 : Inv X pins σ H1 { s1 with heap:=h' }:=I1.kept (t':=s1.toks) fun b o q=>hk b o q
  refine ⟨s1.heap.objs.size + 1,[s1.heap.objs.size + 1,s1.heap.objs.size],_,_,H1,rfl,I2,zb6 l _ _ (Nat.succ_ne_self _),⟨⟨_,he⟩,hi⟩,fun b hb=>?_,q⟩
  have hb2 : s1.heap.objs.size≤b:=by
   rcases List.mem_cons.mp hb with z | hb
   ·rw [z]; exact Nat.le_succ _
   ·have z : b = s1.heap.objs.size:=by simpa using hb
    rw [z]; exact Nat.le_refl _
  exact I1.fpOk hb2 (I1.hok.fresh hb2)
theorem zcy {K : PySem.W.Frag} {a : Addr} {xs : List V} {g : TG} {tb : TS} {D : Ends} {σ : St} {H : Hp} (Pv : Nat->St->Hp->Prop) (h0 : Pv 0 σ H) (hl : ∀ i σ H,i≤xs.length->Pv i σ H->SqL K H a xs)
  (hs : ∀ i x σ H T,xs[i]? = some x->Pv i σ H->H T = none->g (.ref T) σ (upd H T (.tup [.int (i : Nat),x])) fun σ2 H2=>tb { D with nx:=Pv (i + 1),ct:=Pv (i + 1),bk:=D.nx } σ2 H2) (hd : ∀ σ H,Pv xs.length σ H->D.nx σ H) :
  ∃ W : Nat->Nat->St->Hp->Prop,(∃ m,W 0 m σ H)∧∀ i m σ H,W i m σ H ->
   ((Ite K a).stop i H∧D.nx σ H)∨((Ite K a).go i H∧∃ N : St->Hp->Prop,(∀ σ' H',N σ' H'->∃ m',m' < m∧W (i + 1) m' σ' H')∧∀ x H',(Ite K a).yld i H x H'->g x σ H' fun σ2 H2=>tb { D with nx:=N,ct:=N,bk:=D.nx } σ2 H2):=by
 refine ⟨fun i m σ H=>m = xs.length - i∧i≤xs.length∧Pv i σ H,⟨xs.length,by simp,Nat.zero_le _,h0⟩,?_⟩
 rintro i m σ H ⟨rfl,hi,p⟩
 have q:=hl i σ H hi p
 by_cases hlt : i < xs.length
 ·have hx : xs[i]? = some xs[i]:=List.getElem?_eq_getElem hlt
  refine .inr ⟨⟨xs,xs[i],q,hx⟩,Pv (i + 1),fun σ' H' p'=>⟨xs.length - (i + 1),by omega,rfl,hlt,p'⟩,fun v H' y=>?_⟩
  obtain ⟨T,x,rfl,hT,rfl,hy⟩:=y
  have e2:=hy xs q
  rw [hx] at e2
  cases e2
  exact hs i xs[i] σ H T hx p hT
 ·have e : i = xs.length:=by omega
  subst e
  exact .inl ⟨⟨xs,q,Nat.le_refl _⟩,hd σ H p⟩
end
section
variable {X : Cx}
def zaL (te : TE) : TE:=fun σ H Q=>te σ H fun x H1=>∃ n : Nat,x = .int n∧n≤1000∧∀ q,H1 q = none->Q (.ref q) (upd H1 q (.lst ((List.range n).map fun (c : Nat)=>V.int c)))
theorem zaw : ∀ {n : Nat} {its : List Value},its.length = n->(∀ (i : Nat) v,its[i]? = some v->∃ t,v = Value.int (0 + (i : Int) * 1) t)->Vals ((List.range n).map fun (c : Nat)=>V.int c) its:=by
 intro n its hl h
 have key : ∀ (k : Nat) (its : List Value),(∀ (i : Nat) v,its[i]? = some v->∃ t,v = Value.int ((k : Int) + (i : Int)) t)->Vals ((List.range' k its.length).map fun (c : Nat)=>V.int c) its:=by
  intro k its
  induction its generalizing k with
  | nil=>intro _; exact .nil
  | cons x l ih =>
   intro h
   rw [List.length_cons,List.range'_succ,List.map_cons]
   refine .cons ?_ (ih (k + 1) fun i v e=>?_)
   ·obtain ⟨t,e⟩:=h 0 x rfl
    exact ⟨t,by rw [e]; simp⟩
   ·obtain ⟨t,e'⟩:=h (i + 1) v (by simpa using e)
    exact ⟨t,by rw [e']; congr 1; omega⟩
 subst hl
 rw [List.range_eq_range']
 exact key 0 its fun i v e=>by
  obtain ⟨t,e'⟩:=h i v e
  exact ⟨t,by rw [e']; congr 1; omega⟩
theorem Jc {e : Expr} {te : TE} {p1 p2 pos1 pos2 : Pos} (hc : X.calm = true) (hg1 : Gl X "list") (hm1 : X.mg "list" = none) (hg2 : Gl X "range") (hm2 : X.mg "range" = none) (he : PE X e te)
  (hs : starEach [e] X.env = [(false,eval e X.env)]:=by rfl) (hs2 : starEach [.Call (.Name "range" p2) [e] [] pos2] X.env = [(false,eval (.Call (.Name "range" p2) [e] [] pos2) X.env)]:=by rfl) :
  PE X (.Call (.Name "list" p1) [.Call (.Name "range" p2) [e] [] pos2] [] pos1) (zaL te):=by
 intro pins s σ H Q I h
 refine wpAny_Call_Name_kw (Zj I hg1 hm1 boot_list ?_)
 refine PyProof.Rows.callWith_type1 ?_ hs2 rfl
 rw [hs2]
 show wpAny _ _ (spliced ((false,eval (.Call (.Name "range" p2) [e] [] pos2) X.env) :: backTo pos1 [])) _ _ s
 refine Calls.spliced_cons ?_
 refine wpAny_Call_Name_kw (Zj I hg2 hm2 boot_range ?_)
 refine PyProof.Rows.callWith_type1 ?_ hs rfl
 rw [hs]
 show wpAny _ _ (spliced ((false,eval e X.env) :: backTo pos2 [])) _ _ s
 refine Calls.spliced_cons (thn (he pins s σ H _ I h) fun v s1 ⟨x,H1,I1,r1,q1⟩=>Calls.spliced_nil ?_)
 obtain ⟨n,rfl,hn,q⟩:=q1
 obtain ⟨t,rfl⟩:=r1
 refine call_range_1 (Calls.spliced_nil ?_)
 have hsz : Builtin.Range.rangeSize 0 (n : Int) 1 = (n : Nat):=by rw [rangeSize_one]; split <;> omega
 refine call_list_range (n:=n) (I1.ok.hd hc) (IsRange.new ..) (small_one (by decide) (by decide) (by omega) (by omega)) hsz (Nat.le_trans hn (by decide)) fun h' tk acc' c' hk hS hacc=>?_
 simp only [Heap.size_push] at hS ⊢
 have kept : ∀ b o,s1.heap.get? b = some o->h'.get? b = some o:=fun b o e=>hk b o (Heap.get?_push_of_some _ e)
 have rv : Vals ((List.range n).map fun (c : Nat)=>V.int c) acc'.toList:=zaw (by rw [Array.length_toList]; exact hacc.1) fun i v e=>hacc.2 i v (by rw [← Array.getElem?_toList]; exact e)
 have hokL:=I1.laid (a:=s1.heap.objs.size + 1) (o:=.lst ((List.range n).map fun (c : Nat)=>V.int c)) (h':=h') (t':=tk) kept (Nat.le_succ _) ⟨by rw [List.length_map,List.length_range]; exact Nat.le_trans hn (by decide),acc'.toList,c',rv,by rw [hS]⟩
 exact ⟨.ref _,_,hokL,rfl,q _ (I1.hok.fresh (Nat.le_succ _))⟩
end
def CMulB (i j : Int) : Prop:=i.natAbs < 2 ^ 100000∧j.natAbs < 2 ^ 100000
theorem Jp {X : Cx} : OpR X (binaryOp .Mult) (rI CMulB fun i j=>.int (i * j)):=opI fun i j _ _ _ _ _ hc q=>by
 have h : (100000 : Nat)≤2 ^ 20:=by decide
 exact mul_int q (IntMulOk.of_bits (Nat.le_trans (intBits_le hc.1) h) (Nat.le_trans (intBits_le hc.2) h))
theorem CMulB.nat {i j k l : Nat} (h1 : i < 2 ^ k) (h2 : j < 2 ^ l) (hk : k≤100000) (hl : l≤100000) : CMulB (i : Int) (j : Int) :=
 ⟨by rw [Int.natAbs_natCast]; exact Nat.lt_of_lt_of_le h1 (Nat.pow_le_pow_right (Nat.le_succ 1) hk),by rw [Int.natAbs_natCast]; exact Nat.lt_of_lt_of_le h2 (Nat.pow_le_pow_right (Nat.le_succ 1) hl)⟩
end L2
namespace HT
open PySem PyProof.Rows
section
open PySem.SeqAt
open PySem.AutoSeq1 (wpAny_loadPart')
open PySem.MeetsSeq PySem.MeetsSeq2 PySem.MeetsSeq3 PySem.SeqRoads2
theorem za9 {vs : List Value} {ns : List Int} (h : IntsAre vs ns) {i : Nat} (hi : i < ns.length) : ∃ t,vs[i]? = some (.int (ns[i]) t):=by
 induction h generalizing i with
 | nil=>simp at hi
 | cons a t h ih =>
  cases i with
  | zero=>exact ⟨t,rfl⟩
  | succ i =>
   obtain ⟨t',e⟩:=ih (i:=i) (by simpa using hi)
   exact ⟨t',by simpa using e⟩
theorem zdy (l b : Addr) (items items2 : Array Value) (n n2 : Nat) (dd dd2 : Option Addr) (sl sl2 : Array (Option Value)) (ns ms : List Int) (hi : IntsAre items.toList ns) (hj : IntsAre items2.toList ms) (k : Nat) :
  ∀ i : Nat,ns.length - i = k->i≤ns.length->i≤ms.length->Meets (Builtin.«list.__eq__.loop» ⟨[.ref l,.ref b,rawInt i,rawInt 0],[]⟩)
   (fun _ R s=>s.heap.get? l = some { cls:=.type "list",dict:=dd,data:=.seq items n,slots:=sl }∧s.heap.get? b = some { cls:=.type "list",dict:=dd2,data:=.seq items2 n2,slots:=sl2 } ∧
    R (.ok (.ret (.bool (lexLt (ns.drop i) (ms.drop i))))) s):=by
 have z1 : items.size = ns.length:=by rw [← hi.length]; simp
 have z2 : items2.size = ms.length:=by rw [← hj.length]; simp
 induction k with
 | zero =>
  intro i hk h1 h2 prog w A R s h
  obtain ⟨hp,g,d,tk,os⟩:=s; obtain ⟨hl,hb,h⟩:=h
  have hin : i = ns.length:=by omega
  wp_walk using wpAny_loadPart' hl,wpAny_loadPart' hb
  have hi1 : items[((i : Nat) : Int).toNat]? = none:=by simp; omega
  have hd : ns.drop i = []:=by simp; omega
  rw [hd] at h
  rw [hi1]
  wp_walk using wpAny_loadPart' hl,wpAny_loadPart' hb
  show R (.ok (.ret (.bool (decide (items.size < items2.size))))) _
  have e : lexLt [] (ms.drop i) = decide (items.size < items2.size):=by
   cases q : ms.drop i with
   | nil =>
    rw [YL]
    have : ms.length≤i:=by simpa using List.drop_eq_nil_iff.mp q
    exact (decide_eq_false (by omega)).symm
   | cons x y =>
    rw [Ut]
    have : i < ms.length:=by
     by_cases z : i < ms.length
     ·exact z
     ·rw [List.drop_of_length_le (by omega)] at q; cases q
    exact (decide_eq_true (by omega)).symm
  rw [← e]
  exact h
 | succ k ih =>
  intro i hk h1 h2 prog w A R s h
  obtain ⟨hp,g,d,tk,os⟩:=s; obtain ⟨hl,hb,h⟩:=h
  have hlt : i < ns.length:=by omega
  obtain ⟨t,et⟩:=za9 hi hlt
  have hi1 : items[((i : Nat) : Int).toNat]? = some (.int (ns[i]) t):=by simpa using et
  by_cases hm : i < ms.length
  ·obtain ⟨u,eu⟩:=za9 hj hm
   have hi2 : items2[((i : Nat) : Int).toNat]? = some (.int (ms[i]) u):=by simpa using eu
   wp_walk using wpAny_loadPart' hl,wpAny_loadPart' hb
   rw [List.drop_eq_getElem_cons hlt,List.drop_eq_getElem_cons hm,qX] at h
   have hc : ((i : Int) + 1) = ((i + 1 : Nat) : Int):=by push_cast; rfl
   rw [hi1,hi2]
   obtain ⟨e,he,hiff⟩:=zc5 A.in1 ⟨hp,g,d,tk,os⟩ (ns[i]) t (ms[i]) u
   refine wpAny_bind (he prog w _ _ ?_)
   cases e with
   | true =>
    rw [if_pos (hiff.mp rfl)] at h
    wp_walk
    rw [hc]
    exact ⟨plainId_quiet plain_eq_loop _,codeAny_builtin entry_eq_loop (by
     rw [Around.under_plainId plain_eq_loop _]
     exact ih (i + 1) (by omega) (by omega) (by omega) prog w A R _ ⟨hl,hb,h⟩)⟩
   | false =>
    rw [if_neg (fun q=>absurd (hiff.mpr q) Bool.false_ne_true)] at h
    have hri:=zcE A.in1 ⟨hp,g,d,tk,os⟩ (ns[i]) t (ms[i]) u prog w
    wp_walk using wpAny_loadPart' hl,wpAny_loadPart' hb
    rw [hi1,hi2]
    wp_walk using hri
    simpa using h
  ·have hi2 : items2[((i : Nat) : Int).toNat]? = none:=by simp; omega
   wp_walk using wpAny_loadPart' hl,wpAny_loadPart' hb
   rw [List.drop_eq_getElem_cons hlt,List.drop_of_length_le (show ms.length≤i by omega),ur] at h
   rw [hi1,hi2]
   wp_walk using wpAny_loadPart' hl,wpAny_loadPart' hb
   show R (.ok (.ret (.bool (decide (items.size < items2.size))))) _
   rw [decide_eq_false (by omega)]
   exact h
theorem XN (l b : Addr) (items items2 : Array Value) (n n2 : Nat) (dd dd2 : Option Addr) (sl sl2 : Array (Option Value)) (ns ms : List Int) (hi : IntsAre items.toList ns) (hj : IntsAre items2.toList ms) :
  Meets (Builtin.«list.__lt__» ⟨[.ref l,.ref b],[]⟩)
   (fun _ R s=>s.heap.get? l = some { cls:=.type "list",dict:=dd,data:=.seq items n,slots:=sl }∧s.heap.get? b = some { cls:=.type "list",dict:=dd2,data:=.seq items2 n2,slots:=sl2 } ∧
    R (.ok (.ret (.bool (lexLt ns ms)))) s):=by
 intro prog w A R s h
 obtain ⟨hp,g,d,tk,os⟩:=s; obtain ⟨hl,hb,h⟩:=h
 have f3:=AutoSeq1.sub_list_list
 wp_walk using wpAny_loadPart' hl,wpAny_loadPart' hb
 exact ⟨plainId_quiet plain_eq_loop _,codeAny_builtin entry_eq_loop (by
  rw [Around.under_plainId plain_eq_loop _]
  exact zdy l b items items2 n n2 dd dd2 sl sl2 ns ms hi hj _ 0 rfl (Nat.zero_le _) (Nat.zero_le _) prog w A R _ ⟨hl,hb,by simpa using h⟩)⟩
end
section
variable {prog : Program} {w : World} {A : Around} {E : Value->Shared->Prop} {s : Shared}
theorem W6 {l b : Addr} {items items2 : Array Value} {ns ms : List Int} {Q : Value->Shared->Prop} (hl : s.heap.IsList l items) (hb : s.heap.IsList b items2) (hi : IntsAre items.toList ns) (hj : IntsAre items2.toList ms)
  (hu : A.units < cLine) (h : Q (.bool (lexLt ns ms)) s) : wpAny (model prog w) A (richCompare .Lt (.ref l) (.ref b)) Q E s:=by
 obtain ⟨⟨cls,dd,data,sl⟩,ho,hc,n,hd⟩:=id hl
 obtain ⟨⟨cls2,dd2,data2,sl2⟩,ho2,hc2,n2,hd2⟩:=id hb
 simp only at hc hd hc2 hd2
 subst hc hd hc2 hd2
 exact richCompare_meets_room (op:=.Lt) ⟨_,ho,rfl⟩ ⟨_,ho2,rfl⟩ PySem.F.slot_list_lt PySem.F.entry_list_lt (PySem.F.args_list_lt_2 _ _) (XN l b items items2 n n2 dd dd2 sl sl2 ns ms hi hj)
  ⟨ho,ho2,show Value.bool (lexLt ns ms) ≠ Value.notImplemented∧Q (.bool (lexLt ns ms)) s from ⟨(fun x=>nomatch x),h⟩⟩ hu
end
open PySem PyProof.Rows PySem.W
def WW {α : Type} (c : Nat->Nat->Bool) : KasT α->α
 | .ret a=>a
 | .ask i j k=>WW c (k (c i j))
def kin {α : Type} (n : Nat) : KasT α->Bool
 | .ret _=>true
 | .ask i j k=>decide (i < n) && decide (j < n) && kin n (k true) && kin n (k false)
theorem Jr {α : Type} {n : Nat} {c : Nat->Nat->Bool} {cmp : Nat->Nat->(Bool->Shared->Prop)->Shared->Prop} {s : Shared} {Q : α->Shared->Prop} (hc : ∀ i j C,i < n->j < n->C (c i j) s->cmp i j C s) :
  ∀ t : KasT α,kin n t = true->Q (WW c t) s->t.kasWp cmp Q s
 | .ret a,_,q=>q
 | .ask i j k,h,q=>by
  unfold kin at h
  simp only [Bool.and_eq_true,decide_eq_true_eq] at h
  refine hc i j _ h.1.1.1 h.1.1.2 ?_
  have q' : Q (WW c (k (c i j))) s:=q
  cases e : c i j with
  | true=>rw [e] at q'; exact Jr hc (k true) h.1.2 q'
  | false=>rw [e] at q'; exact Jr hc (k false) h.2 q'
theorem qO {α : Type} {n : Nat} {c d : Nat->Nat->Bool} (h : ∀ i j,i < n->j < n->c i j = d i j) : ∀ t : KasT α,kin n t = true->WW c t = WW d t
 | .ret a,_=>rfl
 | .ask i j k,hk=>by
  unfold kin at hk
  simp only [Bool.and_eq_true,decide_eq_true_eq] at hk
  unfold WW
  rw [h i j hk.1.1.1 hk.1.1.2]
  cases d i j with
  | true=>exact qO h (k true) hk.1.2
  | false=>exact qO h (k false) hk.2
def tab (b : Nat->Nat->Bool) (i j : Nat) : Bool:=if i < j then b i j else if j < i then !b j i else false
def YW (n : Nat) (c : Nat->Nat->Bool) (p : List Nat) : Bool:=p.isPerm (List.range n) && (List.range n).all fun i=>(List.range n).all fun j=>!decide (i < j) || c (p.getD i 0) (p.getD j 0)
def tr3 (n : Nat) (c : Nat->Nat->Bool) : Bool:=(List.range n).all fun i=>(List.range n).all fun j=>(List.range n).all fun k=>!c i j || !c j k || c i k
def half (b01 b02 b03 b12 b13 b23 : Bool) (i j : Nat) : Bool:=match i,j with
 | 0,1=>b01 | 0,2=>b02 | 0,3=>b03 | 1,2=>b12 | 1,3=>b13 | 2,3=>b23 | _,_=>false
theorem zeS : kin 2 (kas_sort 2) = true:=by decide +kernel
theorem zfk : kin 3 (kas_sort 3) = true:=by decide +kernel
theorem zeT : kin 4 (kas_sort 4) = true:=by decide +kernel
theorem zeK : ∀ b01 : Bool,YW 2 (tab (half b01 true true true true true)) (WW (tab (half b01 true true true true true)) (kas_sort 2)).toList = true:=by decide +kernel
theorem zfa : ∀ b01 b02 b12 : Bool,tr3 3 (tab (half b01 b02 true b12 true true)) = true->YW 3 (tab (half b01 b02 true b12 true true)) (WW (tab (half b01 b02 true b12 true true)) (kas_sort 3)).toList = true:=by decide +kernel
theorem ze4 : ∀ b01 b02 b03 b12 b13 b23 : Bool,tr3 4 (tab (half b01 b02 b03 b12 b13 b23)) = true->YW 4 (tab (half b01 b02 b03 b12 b13 b23)) (WW (tab (half b01 b02 b03 b12 b13 b23)) (kas_sort 4)).toList = true:=by decide +kernel
theorem qG : ∀ a : List Int,lexLt a a = false
 | []=>rfl
 | x :: a=>by rw [qX,if_pos rfl,qG a]
theorem Xj : ∀ a b : List Int,a ≠ b->lexLt b a = !lexLt a b
 | [],[],h=>absurd rfl h
 | [],_ :: _,_=>rfl
 | _ :: _,[],_=>rfl
 | x :: a,y :: b,h=>by
  rw [qX,qX]
  by_cases e : x = y
  ·subst e
   rw [if_pos rfl,if_pos rfl]
   exact Xj a b fun z=>h (by rw [z])
  ·rw [if_neg e,if_neg (Ne.symm e),Bool.eq_iff_iff]
   simp
   omega
theorem Yr : ∀ a b c : List Int,lexLt a b = true->lexLt b c = true->lexLt a c = true
 | [],[],_,h,_=>by rw [YL] at h; cases h
 | [],_ :: _,[],_,h=>by rw [ur] at h; cases h
 | [],_ :: _,_ :: _,_,_=>rfl
 | _ :: _,[],_,h,_=>by rw [ur] at h; cases h
 | _ :: _,_ :: _,[],_,h=>by rw [ur] at h; cases h
 | x :: a,y :: b,z :: c,h1,h2=>by
  rw [qX] at h1 h2 ⊢
  by_cases e1 : x = y
  ·subst e1
   rw [if_pos rfl] at h1
   by_cases e2 : x = z
   ·subst e2
    rw [if_pos rfl] at h2 ⊢
    exact Yr a b c h1 h2
   ·rw [if_neg e2] at h2 ⊢; exact h2
  ·rw [if_neg e1] at h1
   have h1':=of_decide_eq_true h1
   by_cases e2 : y = z
   ·subst e2
    rw [if_neg e1]; exact h1
   ·rw [if_neg e2] at h2
    have h2':=of_decide_eq_true h2
    rw [if_neg (show x ≠ z by omega)]
    exact decide_eq_true (by omega)
theorem JB {n : Nat} (hn : n≤4) {c : Nat->Nat->Bool} {b01 b02 b03 b12 b13 b23 : Bool} (h01 : 1 < n->b01 = c 0 1) (h02 : 2 < n->b02 = c 0 2) (h03 : 3 < n->b03 = c 0 3) (h12 : 2 < n->b12 = c 1 2) (h13 : 3 < n->b13 = c 1 3) (h23 : 3 < n->b23 = c 2 3) :
  ∀ i j,i < j->j < n->half b01 b02 b03 b12 b13 b23 i j = c i j:=by
 intro i j h1 h2
 have hh : (i = 0∧j = 1)∨(i = 0∧j = 2)∨(i = 0∧j = 3)∨(i = 1∧j = 2)∨(i = 1∧j = 3)∨(i = 2∧j = 3):=by omega
 rcases hh with ⟨rfl,rfl⟩ | ⟨rfl,rfl⟩ | ⟨rfl,rfl⟩ | ⟨rfl,rfl⟩ | ⟨rfl,rfl⟩ | ⟨rfl,rfl⟩
 ·exact h01 h2
 ·exact h02 h2
 ·exact h03 h2
 ·exact h12 h2
 ·exact h13 h2
 ·exact h23 h2
theorem zdh {ls : List (List Int)} (nd : ls.Nodup) (h2 : 2≤ls.length) (h4 : ls.length≤4) :
  kin ls.length (kas_sort ls.length) = true∧YW ls.length (fun i j=>lexLt (ls.getD i []) (ls.getD j [])) (WW (fun i j=>lexLt (ls.getD i []) (ls.getD j [])) (kas_sort ls.length)).toList = true:=by
 generalize hc : (fun i j=>lexLt (ls.getD i []) (ls.getD j [])) = c
 have cd : ∀ i j,c i j = lexLt (ls.getD i []) (ls.getD j []):=fun i j=>by rw [← hc]
 have flip : ∀ i j,i < ls.length->j < ls.length->i ≠ j->c j i = !c i j:=fun i j hi hj hij=>by
  rw [cd,cd]
  refine Xj _ _ fun e=>hij ?_
  have e1 : ls.getD i [] = ls[i]:=by rw [List.getD_eq_getElem?_getD,List.getElem?_eq_getElem hi]; rfl
  have e2 : ls.getD j [] = ls[j]:=by rw [List.getD_eq_getElem?_getD,List.getElem?_eq_getElem hj]; rfl
  rw [e1,e2] at e
  exact (List.getElem_inj nd).mp e
 have tabc : ∀ b : Nat->Nat->Bool,(∀ i j,i < j->j < ls.length->b i j = c i j)->∀ i j,i < ls.length->j < ls.length->tab b i j = c i j:=fun b hb i j hi hj=>by
  unfold tab
  by_cases h : i < j
  ·rw [if_pos h,hb i j h hj]
  ·rw [if_neg h]
   by_cases h' : j < i
   ·rw [if_pos h',hb j i h' hi,flip j i hj hi (by omega)]
   ·rw [if_neg h']
    have : i = j:=by omega
    subst this
    rw [cd,qG]
 have outc : ∀ (b : Nat->Nat->Bool) (p : List Nat),(∀ i j,i < ls.length->j < ls.length->tab b i j = c i j)->YW ls.length (tab b) p = true->YW ls.length c p = true:=fun b p hb h=>by
  unfold YW at h ⊢
  rw [Bool.and_eq_true] at h ⊢
  refine ⟨h.1,?_⟩
  have pm:=List.isPerm_iff.mp h.1
  have hl : p.length = ls.length:=by rw [pm.length_eq,List.length_range]
  rw [List.all_eq_true] at h ⊢
  intro i hi
  have q:=h.2 i hi
  rw [List.all_eq_true] at q ⊢
  intro j hj
  have q2:=q j hj
  have hi':=List.mem_range.mp hi
  have hj':=List.mem_range.mp hj
  have m : ∀ k,k < ls.length->p.getD k 0 < ls.length:=fun k hk=>by
   have e : p.getD k 0 = p[k]'(by omega):=by rw [List.getD_eq_getElem?_getD,List.getElem?_eq_getElem (by omega)]; rfl
   rw [e]
   exact List.mem_range.mp (pm.mem_iff.mp (List.getElem_mem _))
  rw [hb _ _ (m i hi') (m j hj')] at q2
  exact q2
 have trc : ∀ (b : Nat->Nat->Bool),(∀ i j,i < ls.length->j < ls.length->tab b i j = c i j)->tr3 ls.length (tab b) = true:=fun b hb=>by
  unfold tr3
  simp only [List.all_eq_true,List.mem_range]
  intro i hi j hj k hk
  rw [hb i j hi hj,hb j k hj hk,hb i k hi hk]
  cases e1 : c i j
  ·rfl
  ·cases e2 : c j k
   ·rfl
   ·rw [cd] at e1 e2
    rw [cd,Yr _ _ _ e1 e2]; rfl
 have hn : ls.length = 2∨ls.length = 3∨ls.length = 4:=by omega
 rcases hn with hn | hn | hn
 ·rw [hn] at tabc outc trc ⊢
  have t:=tabc (half (c 0 1) true true true true true) (JB (by decide) (fun _=>rfl) (fun z=>by omega) (fun z=>by omega) (fun z=>by omega) (fun z=>by omega) (fun z=>by omega))
  refine ⟨zeS,?_⟩
  rw [qO (fun i j hi hj=>(t i j hi hj).symm) _ zeS]
  exact outc _ _ t (zeK _)
 ·rw [hn] at tabc outc trc ⊢
  have t:=tabc (half (c 0 1) (c 0 2) true (c 1 2) true true) (JB (by decide) (fun _=>rfl) (fun _=>rfl) (fun z=>by omega) (fun _=>rfl) (fun z=>by omega) (fun z=>by omega))
  refine ⟨zfk,?_⟩
  rw [qO (fun i j hi hj=>(t i j hi hj).symm) _ zfk]
  exact outc _ _ t (zfa _ _ _ (trc _ t))
 ·rw [hn] at tabc outc trc ⊢
  have t:=tabc (half (c 0 1) (c 0 2) (c 0 3) (c 1 2) (c 1 3) (c 2 3)) (JB (by decide) (fun _=>rfl) (fun _=>rfl) (fun _=>rfl) (fun _=>rfl) (fun _=>rfl) (fun _=>rfl))
  refine ⟨zeT,?_⟩
  rw [qO (fun i j hi hj=>(t i j hi hj).symm) _ zeT]
  exact outc _ _ t (ze4 _ _ _ _ _ _ (trc _ t))
end HT
namespace L2
open PySem PySem.Spec PyProof.Rows
section
variable {X : Cx}
def zfz (K : PySem.W.Frag) : R2:=fun x y H Q=>∃ (a b : Addr) (ns ms : List Int),x = .ref a∧y = .ref b∧SqL K H a (ns.map V.int)∧SqL K H b (ms.map V.int)∧Q (.bl (HT.lexLt ns ms)) H
theorem zeZ (K : PySem.W.Frag) (hu : X.A.units + 64 < cLine) (e : X.K = K:=by rfl) : OpR X (compareOp .Lt) (zfz K):=by
 subst e
 intro pins s σ H x y v u Q I rx ry h
 obtain ⟨a,b,ns,ms,rfl,rfl,ha,hb,q⟩:=h
 cases rx
 cases ry
 obtain ⟨its,r1,p1,_⟩:=I.list ha
 obtain ⟨its2,r2,p2,_⟩:=I.list hb
 exact HT.W6 p1.isList p2.isList (intsAre_of r1) (intsAre_of r2) (by omega) ⟨.bl (HT.lexLt ns ms),H,I,rfl,q⟩
end
end L2
namespace HT
open PySem PyProof.Rows PySem.W
section
variable {prog : Program} {w : World} {A : Around} {E : Value->Shared->Prop} {s : Shared}
theorem zec {l b : Addr} {items items2 : Array Value} {ns ms : List Int} {Q : Bool->Shared->Prop} (hl : s.heap.IsList l items) (hb : s.heap.IsList b items2) (hi : IntsAre items.toList ns) (hj : IntsAre items2.toList ms) (hu : A.units + 1 < cLine)
  (h : Q (lexLt ns ms) s) : wpAny (model prog w) A (keyLt' oneType' (.ref l) (.ref b)) Q E s:=by
 obtain ⟨⟨cls,dd,data,sl⟩,ho,hc,n,hd⟩:=id hl
 obtain ⟨⟨cls2,dd2,data2,sl2⟩,ho2,hc2,n2,hd2⟩:=id hb
 simp only at hc hd hc2 hd2
 subst hc hd hc2 hd2
 rw [keyLt'_oneType,oneLt'_eq]
 simp only [if_true]
 refine wpAny_bind (wpAny_cRoomFor (by omega) (wpAny_bind (wpAny_callSpecialIfBound?_slot (T:="list") (name:="__lt__") ⟨_,ho,rfl⟩ PySem.F.slot_list_lt
  (call_meets PySem.F.slot_list_lt ⟨_,ho,rfl⟩ PySem.F.entry_list_lt (PySem.F.args_list_lt_2 _ _) (XN l b items items2 n n2 dd dd2 sl sl2 ns ms hi hj) ⟨ho,ho2,?_⟩))))
 exact wpAny_truthy_bool h
theorem Qy {α : Type} (d : α) (zs : List α) {p : List Nat} (h : p.Perm (List.range zs.length)) : (p.map fun i=>zs.getD i d).Perm zs:=by
 have e : (List.range zs.length).map (fun i=>zs.getD i d) = zs:=by
  apply List.ext_getElem?
  intro i
  rw [List.getElem?_map]
  by_cases hi : i < zs.length
  ·rw [List.getElem?_range hi,Option.map_some,List.getD_eq_getElem?_getD,List.getElem?_eq_getElem hi]; rfl
  ·rw [List.getElem?_eq_none (by simpa using hi),List.getElem?_eq_none (by omega)]; rfl
 have q:=h.map fun i=>zs.getD i d
 rw [e] at q
 exact q
theorem zaV {a : Addr} {zs : List (Addr × List Int)} {n0 : Nat} {P : Fin->Shared->Prop} (ho : s.heap.get? a = some (seqObj "list" (zs.map fun z=>Value.ref z.1).toArray n0))
  (hz : ∀ z ∈ zs,z.1 ≠ a∧∃ its : List Value,s.heap.IsList z.1 its.toArray∧IntsAre its z.2) (nd : (zs.map (·.2)).Nodup) (h4 : zs.length≤4) (hu : A.units + 1 < cLine)
  (h : ∀ zs' : List (Addr × List Int),zs'.Perm zs->zs'.Pairwise (fun x y=>lexLt x.2 y.2 = true)->P (.done (.ret .none)) { s with heap:=sortedHeap s.heap a (zs.map fun z=>Value.ref z.1) (zs'.map fun z=>Value.ref z.1).toArray }) :
  wpAny (model prog w) A (Builtin.«list.sort» ⟨[.ref a],[]⟩) P E s:=by
 rw [list_sort_plain]
 generalize hvs : (zs.map fun z=>Value.ref z.1) = vs at ho h ⊢
 have hvl : vs.length = zs.length:=by rw [← hvs,List.length_map]
 have hsl : vs.length≤sizeLine:=by rw [hvl,sizeLine_eq]; omega
 have ha : a < s.heap.objs.size:=Heap.lt_size ho
 obtain ⟨e1,ho1⟩ : ∃ e1,(s.heap.update a (Obj.mapSeq fun _=>#[])).get? a = some (seqObj "list" #[] e1):=⟨_,get?_update_seq ho (fun _=>#[])⟩
 refine wpAny_bind (listItems_at ho rfl (wpAny_bind (listUpdate_at ho rfl (wpAny_bind (seqEpoch_at ho1 rfl (wpAny_bind (wpAny_newTuple (wpAny_bind (wpAny_newList (wpAny_holding ?_) (Nat.zero_le _))) (by show vs.length≤_; exact hsl))))) (by rw [List.size_toArray]; exact hsl) (Nat.zero_le _))))
 generalize hG : (((s.heap.update a (Obj.mapSeq fun _=>(#[] : Array Value))).push (seqObj "tuple" vs.toArray 0)).push (seqObj "list" #[] 0)) = G
 have ho6 : G.get? a = some (seqObj "list" #[] e1):=by
  rw [← hG,Heap.get?_push_ne _ _ _ (by rw [size_push',Heap.size_update]; exact Nat.ne_of_lt (Nat.lt_succ_of_lt ha)),Heap.get?_push_ne _ _ _ (by rw [Heap.size_update]; exact Nat.ne_of_lt ha)]; exact ho1
 have keep : ∀ b o,b ≠ a->s.heap.get? b = some o->G.get? b = some o:=fun b o hb e=>by
  have hlt:=Heap.lt_size e
  rw [← hG,Heap.get?_push_ne _ _ _ (by rw [size_push',Heap.size_update]; exact Nat.ne_of_lt (Nat.lt_succ_of_lt hlt)),Heap.get?_push_ne _ _ _ (by rw [Heap.size_update]; exact Nat.ne_of_lt hlt),Heap.get?_update_other _ _ (Ne.symm hb)]; exact e
 show wpAny (model prog w) A _ P E { s with heap:=G }
 dsimp only
 by_cases h2 : vs.toArray.size < 2
 ·rw [if_pos h2,if_pos h2]
  refine wpAny_bind (wpAny_pure ?_)
  rw [StateT.run_pure]
  refine wpAny_bind (wpAny_pure ?_)
  dsimp only
  have hout : (arrOf (SortSt.mk' general' (vs.toArray.zip vs.toArray) #[] 7 none)).map (·.2) = vs.toArray:=by
   show (vs.toArray.zip vs.toArray).map (·.2) = vs.toArray
   apply Array.toList_inj.mp
   rw [Array.toList_map,Array.toList_zip,List.map_snd_zip (by simp)]
  rw [hout]
  refine wpAny_bind (seqEpoch_at ho6 rfl (wpAny_bind (listUpdate_at ho6 rfl ?_ (Nat.zero_le _) (by rw [List.size_toArray]; exact Nat.le_succ_of_le hsl))))
  have q:=h zs (List.Perm.refl _) (by
   rw [List.size_toArray,hvl] at h2
   match zs,h2 with
   | [],_=>exact .nil
   | [_],_=>exact List.pairwise_singleton _ _)
  rw [hvs] at q
  simp only [bne_self_eq_false,Bool.false_eq_true,if_false]
  have e2 : G.update a (Obj.mapSeq fun _=>vs.toArray) = sortedHeap s.heap a vs vs.toArray:=by rw [← hG]; rfl
  rw [e2]
  exact wpAny_pure q
 ·rw [if_neg h2,if_neg h2]
  rw [List.size_toArray,hvl] at h2
  have ls2 : (zs.map (·.2)).length = zs.length:=List.length_map ..
  obtain ⟨hkin,hok⟩:=zdh nd (by rw [ls2]; omega) (by rw [ls2]; exact h4)
  rw [ls2] at hkin hok
  generalize hcd : (fun i j=>lexLt ((zs.map (·.2)).getD i []) ((zs.map (·.2)).getD j [])) = c at hok
  have gz : ∀ i,i < zs.length->vs.getD i Value.none = .ref (zs.getD i (0,[])).1∧(zs.map (·.2)).getD i [] = (zs.getD i (0,[])).2∧zs.getD i (0,[]) ∈ zs:=fun i hi=>by
   have e : zs.getD i (0,[]) = zs[i]:=by rw [List.getD_eq_getElem?_getD,List.getElem?_eq_getElem hi]; rfl
   rw [e]
   refine ⟨?_,?_,List.getElem_mem _⟩
   ·rw [← hvs,List.getD_eq_getElem?_getD,List.getElem?_map,List.getElem?_eq_getElem hi]; rfl
   ·rw [List.getD_eq_getElem?_getD,List.getElem?_map,List.getElem?_eq_getElem hi]; rfl
  refine wpAny_bind (kas_kind (T:=.type "list") (by rw [hvl]; omega) (fun v hv=>?_) (by decide) (by decide) ?_)
  ·rw [← hvs] at hv
   obtain ⟨z,hzm,rfl⟩:=List.mem_map.mp hv
   obtain ⟨hza,its,hl,_⟩:=hz z hzm
   obtain ⟨o,e,hcl,_⟩:=hl
   intro A' Q' E' s' k q
   exact wpAny_typeOf (T:="list") ⟨o,k _ _ (keep _ _ hza e),hcl⟩ q
  have est : SortSt.mk' oneType' (vs.toArray.zip vs.toArray) #[] 7 none = kas_st oneType' (pairsOf vs) (List.toArray (List.range vs.length)):=by
   have e:=kas_range (pairsOf vs)
   rw [pairsOf_size] at e
   unfold kas_st; rw [e]; rfl
  have ask : (kas_sort vs.length).kasWp (kas_cmp prog w A oneType' (pairsOf vs)) (fun p s'=>s' = { s with heap:=G }∧p = WW c (kas_sort zs.length)) { s with heap:=G }:=by
   rw [hvl,← kas_ask_eq]
   refine Jr (n:=zs.length) (c:=c) (fun i j C hi hj hC=>?_) _ hkin ⟨rfl,rfl⟩
   obtain ⟨a1,a2,a3⟩:=gz i hi
   obtain ⟨b1,b2,b3⟩:=gz j hj
   obtain ⟨hza,its,hl,hI⟩:=hz _ a3
   obtain ⟨hzb,its2,hl2,hI2⟩:=hz _ b3
   unfold kas_ask
   rw [a1,b1]
   refine zec (s:={ s with heap:=G }) (hl.at fun o e=>keep _ o hza e) (hl2.at fun o e=>keep _ o hzb e) (by simpa using hI) (by simpa using hI2) hu ?_
   rw [← hcd] at hC
   simp only [a2,b2] at hC
   exact hC
  have run:=kas_runs (E:=E) (Q:=fun _ st' s'=>s' = { s with heap:=G }∧arrOf st' = (WW c (kas_sort zs.length)).map (kas_item (pairsOf vs))∧failedOf st' = none) (by rw [hvl]; omega) (by rw [hvl]; omega)
   (fun p' st' s' a1 a2 a3 a4=>⟨a4.1,by rw [a2,a4.2],a3⟩) ask
  rw [← est] at run
  refine wpAny_bind (wpAny_mono run ?_ fun _ _ e=>e)
  rintro ⟨⟨⟩,st'⟩ s' ⟨rfl,har,hf⟩
  dsimp only
  generalize hp : WW c (kas_sort zs.length) = p at har hok
  have hout : (arrOf st').map (·.2) = ((p.toList.map fun i=>zs.getD i (0,[])).map fun z=>Value.ref z.1).toArray:=by
   apply Array.toList_inj.mp
   rw [har,Array.map_map,Array.toList_map,List.map_map]
   refine List.map_congr_left fun i hi=>?_
   show (kas_item (pairsOf vs) i).2 = _
   rw [kas_item_eq]
   unfold YW at hok
   rw [Bool.and_eq_true] at hok
   exact (gz i (List.mem_range.mp ((List.isPerm_iff.mp hok.1).mem_iff.mp hi))).1
  rw [hout]
  have pm : p.toList.Perm (List.range zs.length):=by
   unfold YW at hok
   rw [Bool.and_eq_true] at hok
   exact List.isPerm_iff.mp hok.1
  have q:=h (p.toList.map fun i=>zs.getD i (0,[])) (Qy _ zs pm) (by
   rw [List.pairwise_map,List.pairwise_iff_getElem]
   intro i j hi hj hij
   have hpl : p.toList.length = zs.length:=by rw [pm.length_eq,List.length_range]
   unfold YW at hok
   simp only [Bool.and_eq_true,List.all_eq_true,List.mem_range] at hok
   have q1:=hok.2 i (by omega) j (by omega)
   rw [decide_eq_true hij] at q1
   have e1 : p.toList.getD i 0 = p.toList[i]:=by rw [List.getD_eq_getElem?_getD,List.getElem?_eq_getElem hi]; rfl
   have e2 : p.toList.getD j 0 = p.toList[j]:=by rw [List.getD_eq_getElem?_getD,List.getElem?_eq_getElem hj]; rfl
   rw [e1,e2,← hcd] at q1
   have m1:=List.mem_range.mp (pm.mem_iff.mp (List.getElem_mem hi))
   have m2:=List.mem_range.mp (pm.mem_iff.mp (List.getElem_mem hj))
   rw [← (gz _ m1).2.1,← (gz _ m2).2.1]
   simpa using q1)
  have hol : ((p.toList.map fun i=>zs.getD i (0,[])).map fun z=>Value.ref z.1).length = zs.length:=by rw [List.length_map,List.length_map,pm.length_eq,List.length_range]
  refine wpAny_bind (seqEpoch_at ho6 rfl (wpAny_bind (listUpdate_at ho6 rfl ?_ (Nat.zero_le _) (by rw [List.size_toArray,hol]; rw [hvl] at hsl; exact Nat.le_succ_of_le hsl))))
  rw [hf]
  simp only [bne_self_eq_false,Bool.false_eq_true,if_false]
  have e2 : ∀ out : Array Value,G.update a (Obj.mapSeq fun _=>out) = sortedHeap s.heap a vs out:=fun out=>by rw [← hG]; rfl
  rw [e2]
  exact wpAny_pure q
theorem zdr {l : Addr} {zs : List (Addr × List Int)} {Q : Value->Shared->Prop} (hl : s.heap.IsList l (zs.map fun z=>Value.ref z.1).toArray) (hz : ∀ z ∈ zs,∃ its : List Value,s.heap.IsList z.1 its.toArray∧IntsAre its z.2) (nd : (zs.map (·.2)).Nodup) (h4 : zs.length≤4) (hu : A.units + 8 < cLine)
  (h : ∀ zs' : List (Addr × List Int),zs'.Perm zs->zs'.Pairwise (fun x y=>lexLt x.2 y.2 = true)->Q (.ref (s.heap.objs.size + 1)) { s with heap:=sortedAll s.heap (zs.map fun z=>Value.ref z.1) (zs'.map fun z=>Value.ref z.1).toArray }) :
  wpAny (model prog w) A (call (.builtin "sorted") [.ref l]) Q E s:=by
 have hsl : (zs.map fun z=>Value.ref z.1).length≤sizeLine:=by rw [List.length_map,sizeLine_eq]; omega
 refine Calls.call_function_entry kind_sorted plain_sorted entry_sorted (args_sorted1 _) ?_
 unfold Builtin.«sorted»
 refine wpAny_bind (m:=checkCount "sorted" 1 1 _) (wpAny_pure (wpAny_bind (collect_list hl (wpAny_bind (wpAny_newList ?_ hsl)) hsl)))
 generalize hB : (s.heap.push (seqObj "list" #[] 0)).update s.heap.objs.size (Obj.mapSeq (· ++ (zs.map fun z=>Value.ref z.1).toArray)) = B
 have hsz : B.objs.size = s.heap.objs.size + 1:=by rw [← hB,Heap.size_update,size_push']
 have keep : ∀ b o,s.heap.get? b = some o->(B.push (seqObj "list" (zs.map fun z=>Value.ref z.1).toArray 0)).get? b = some o:=fun b o q=>by
  have hlt : b < s.heap.objs.size:=Heap.lt_size q
  rw [Heap.get?_push_ne _ _ _ (by rw [hsz]; exact Nat.ne_of_lt (Nat.lt_succ_of_lt hlt)),← hB,Heap.get?_update_ne _ _ _ _ (Nat.ne_of_lt hlt),Heap.get?_push_ne _ _ _ (Nat.ne_of_lt hlt)]; exact q
 have hoL : (B.push (seqObj "list" (zs.map fun z=>Value.ref z.1).toArray 0)).get? (s.heap.objs.size + 1) = some (seqObj "list" (zs.map fun z=>Value.ref z.1).toArray 0):=by
  rw [← hsz]; exact Heap.get?_push_size _ rfl
 show wpAny _ _ _ _ _ { s with heap:=B.push (seqObj "list" (zs.map fun z=>Value.ref z.1).toArray 0) }
 dsimp only
 rw [hsz]
 refine wpAny_bind (wpAny_holding (wpAny_call_entry slot_list_sort ⟨_,hoL,rfl⟩ entry_list_sort (zaV (A:=A.in1.in1) (s:={ s with heap:=B.push (seqObj "list" (zs.map fun z=>Value.ref z.1).toArray 0) }) hoL (fun z hzm=>?_) nd h4 (by show A.units + 1 + 1 + 1 < cLine; omega) fun zs' a1 a2=>⟨_,rfl,?_⟩) (args_list_sort _)))
 ·obtain ⟨its,hl',hI⟩:=hz z hzm
  obtain ⟨o,e,_⟩:=id hl'
  exact ⟨Nat.ne_of_lt (Nat.lt_succ_of_lt (Heap.lt_size e)),its,hl'.at fun o e=>keep _ o e,hI⟩
 ·have q:=h zs' a1 a2
  have e2 : sortedHeap (B.push (seqObj "list" (zs.map fun z=>Value.ref z.1).toArray 0)) (s.heap.objs.size + 1) (zs.map fun z=>Value.ref z.1) (zs'.map fun z=>Value.ref z.1).toArray = sortedAll s.heap (zs.map fun z=>Value.ref z.1) (zs'.map fun z=>Value.ref z.1).toArray:=by rw [← hB]; rfl
  show wpAny _ _ _ _ _ { s with heap:=sortedHeap (B.push (seqObj "list" (zs.map fun z=>Value.ref z.1).toArray 0)) (s.heap.objs.size + 1) (zs.map fun z=>Value.ref z.1) (zs'.map fun z=>Value.ref z.1).toArray }
  rw [e2]
  exact wpAny_pure ⟨_,rfl,q⟩
end
end HT
namespace L2
open PySem PySem.Spec PyProof.Rows
section
variable {X : Cx}
def zeA (K : PySem.W.Frag) : List V->Hp->VK->Prop:=fun xs H Q=>∃ (a : Addr) (zs : List (Addr × List Int)),xs = [.ref a]∧SqL K H a (zs.map fun z=>V.ref z.1)∧zs.length≤4∧(∀ z ∈ zs,SqL K H z.1 (z.2.map V.int))∧(zs.map (·.2)).Nodup ∧
 ∀ (p : Addr) (zs' : List (Addr × List Int)),H p = none->zs'.Perm zs->zs'.Pairwise (fun x y=>HT.lexLt x.2 y.2 = true)->Q (.ref p) (upd H p (.lst (zs'.map fun z=>V.ref z.1)))
theorem WL : ∀ {zs : List (Addr × List Int)} {its : List Value},Vals (zs.map fun z=>V.ref z.1) its->its = zs.map fun z=>Value.ref z.1
 | [],its,h=>by cases h; rfl
 | z :: zs,its,h=>by
  cases h with
  | cons r t=>rw [WL t]; cases r; rfl
theorem Wu : ∀ (zs : List (Addr × List Int)),Vals (zs.map fun z=>V.ref z.1) (zs.map fun z=>Value.ref z.1)
 | []=>.nil
 | z :: zs=>.cons rfl (Wu zs)
theorem zbp (K : PySem.W.Frag) (hu : X.A.units + 64 < cLine) (e : X.K = K:=by rfl) : vo X (.builtin "sorted") (zeA K):=by
 subst e
 intro pins s σ H xs us Q I r h
 obtain ⟨a,zs,rfl,ha,h4,hz,nd,q⟩:=h
 obtain ⟨u,rfl,rx⟩:=vals1 r
 cases rx
 obtain ⟨its,r1,p1,_⟩:=I.list ha
 have e1:=WL r1
 subst e1
 refine HT.zdr p1.isList (fun z hzm=>?_) nd h4 (by omega) fun zs' pm pw=>?_
 ·obtain ⟨its,r2,p2,_⟩:=I.list (hz z hzm)
  exact ⟨its,p2.isList,by simpa using intsAre_of r2⟩
 ·obtain ⟨c,hat⟩:=sortedAll_at s.heap (zs.map fun z=>Value.ref z.1) (zs'.map fun z=>Value.ref z.1).toArray
  have hfree : H (s.heap.objs.size + 1) = none:=I.hok.fresh (Nat.le_succ _)
  refine ⟨.ref (s.heap.objs.size + 1),_,I.laid (t':=s.toks) (o:=.lst (zs'.map fun z=>V.ref z.1)) (fun b o e=>sortedAll_old e) (Nat.le_succ _) ?_,rfl,q _ zs' hfree pm pw⟩
  exact ⟨by rw [List.length_map,pm.length_eq]; exact Nat.le_trans h4 (by decide),_,c,Wu zs',hat⟩
end
end L2
namespace HT
open PySem PyProof.Rows PySem.W
def KW {α : Type} (c : Nat->Nat->Bool) (n : Nat) : KasT α->(α->Prop)->Prop
 | .ret a,Q=>Q a
 | .ask i j k,Q=>i < n∧j < n∧KW c n (k (c i j)) Q
theorem KW.bind {α β : Type} {c : Nat->Nat->Bool} {n : Nat} {f : α->KasT β} {Q : β->Prop} : ∀ {t : KasT α},KW c n t (fun a=>KW c n (f a) Q)->KW c n (t.bind f) Q
 | .ret _,h=>h
 | .ask _ _ k,h=>⟨h.1,h.2.1,KW.bind (t:=k _) h.2.2⟩
theorem KW.mono {α : Type} {c : Nat->Nat->Bool} {n : Nat} {Q Q' : α->Prop} (hq : ∀ a,Q a->Q' a) : ∀ {t : KasT α},KW c n t Q->KW c n t Q'
 | .ret a,h=>hq a h
 | .ask _ _ k,h=>⟨h.1,h.2.1,KW.mono hq (t:=k _) h.2.2⟩
theorem KW.wp {α : Type} {n : Nat} {c : Nat->Nat->Bool} {cmp : Nat->Nat->(Bool->Shared->Prop)->Shared->Prop} {s : Shared} {Q : α->Prop} (hc : ∀ i j C,i < n->j < n->C (c i j) s->cmp i j C s) :
  ∀ t : KasT α,KW c n t Q->t.kasWp cmp (fun a s'=>s' = s∧Q a) s
 | .ret _,h=>⟨rfl,h⟩
 | .ask i j k,h=>hc i j _ h.1 h.2.1 (KW.wp hc (k (c i j)) h.2.2)
structure Ord (c : Nat->Nat->Bool) (n : Nat) : Prop where
 tr : ∀ i j k,i < n->j < n->k < n->c i j = true->c j k = true->c i k = true
 tot : ∀ i j,i < n->j < n->i ≠ j->c i j = false->c j i = true
 asy : ∀ i j,i < n->j < n->c i j = true->c j i = false
structure Pm (n : Nat) (p : Array Nat) : Prop where
 sz : p.size = n
 pm : p.toList.Perm (List.range n)
theorem Pm.lt {n : Nat} {p : Array Nat} (h : Pm n p) (i : Nat) (hi : i < n) : p.getD i 0 < n:=by
 have hs:=h.sz
 have e : p.getD i 0 = p[i]:=by simp [Array.getD,hs,hi]
 rw [e]
 exact List.mem_range.mp (h.pm.mem_iff.mp (by simp))
theorem Pm.ne {n : Nat} {p : Array Nat} (h : Pm n p) {i j : Nat} (hi : i < n) (hj : j < n) (hij : i ≠ j) : p.getD i 0 ≠ p.getD j 0:=by
 have hs:=h.sz
 have e1 : p.getD i 0 = p.toList[i]'(by simp [hs,hi]):=by simp [Array.getD,hs,hi]
 have e2 : p.getD j 0 = p.toList[j]'(by simp [hs,hj]):=by simp [Array.getD,hs,hj]
 rw [e1,e2]
 have nd : p.toList.Nodup:=h.pm.nodup_iff.mpr List.nodup_range
 intro z
 exact hij ((List.getElem_inj nd).mp z)
theorem Pm.of {n : Nat} {p q : Array Nat} (h : Pm n p) (z : q.Perm p) : Pm n q:=⟨by rw [z.size_eq]; exact h.sz,(Array.perm_iff_toList_perm.mp z).trans h.pm⟩
def Up (c : Nat->Nat->Bool) (p : Array Nat) (m : Nat) : Prop:=∀ i j,i < j->j < m->c (p.getD i 0) (p.getD j 0) = true
def Dn (c : Nat->Nat->Bool) (p : Array Nat) (m : Nat) : Prop:=∀ i j,i < j->j < m->c (p.getD j 0) (p.getD i 0) = true
section
variable {c : Nat->Nat->Bool} {n : Nat}
theorem zaD (O : Ord c n) {p : Array Nat} (hp : Pm n p) : ∀ (f m : Nat),1≤m->m + f≤n->Up c p m->KW c n (kas_asc p f m) (fun r=>m≤r∧r≤m + f∧Up c p r∧(r < m + f->c (p.getD r 0) (p.getD (r - 1) 0) = true))
 | 0,m,_,_,u=>⟨Nat.le_refl _,Nat.le_refl _,u,fun z=>absurd z (Nat.lt_irrefl _)⟩
 | f + 1,m,h1,h2,u=>by
  refine ⟨hp.lt m (by omega),hp.lt (m - 1) (by omega),?_⟩
  cases e : c (p.getD m 0) (p.getD (m - 1) 0) with
  | true=>exact ⟨Nat.le_refl _,by omega,u,fun _=>e⟩
  | false =>
   have hs : c (p.getD (m - 1) 0) (p.getD m 0) = true:=O.tot _ _ (hp.lt m (by omega)) (hp.lt (m - 1) (by omega)) (hp.ne (by omega) (by omega) (by omega)) e
   have u' : Up c p (m + 1):=fun i j hij hj=>by
    by_cases hjm : j < m
    ·exact u i j hij hjm
    ·have ej : j = m:=by omega
     subst ej
     by_cases hi : i = j - 1
     ·rw [hi]; exact hs
     ·exact O.tr _ _ _ (hp.lt i (by omega)) (hp.lt (j - 1) (by omega)) (hp.lt j (by omega)) (u i (j - 1) (by omega) (by omega)) hs
   refine KW.mono (fun r h=>?_) (zaD O hp f (m + 1) (by omega) (by omega) u')
   exact ⟨by omega,by omega,h.2.2.1,fun z=>h.2.2.2 (by omega)⟩
theorem zbt (O : Ord c n) {p : Array Nat} (hp : Pm n p) : ∀ (f m : Nat),1≤m->m + f≤n->Dn c p m->KW c n (kas_desc f p m 0) (fun r=>r.1 = p∧r.2.2 = 0∧m≤r.2.1∧r.2.1≤m + f∧Dn c p r.2.1)
 | 0,m,_,_,u=>⟨rfl,rfl,Nat.le_refl _,Nat.le_refl _,u⟩
 | f + 1,m,h1,h2,u=>by
  refine ⟨hp.lt m (by omega),hp.lt (m - 1) (by omega),?_⟩
  cases e : c (p.getD m 0) (p.getD (m - 1) 0) with
  | true =>
   have u' : Dn c p (m + 1):=fun i j hij hj=>by
    by_cases hjm : j < m
    ·exact u i j hij hjm
    ·have ej : j = m:=by omega
     subst ej
     by_cases hi : i = j - 1
     ·rw [hi]; exact e
     ·exact O.tr _ _ _ (hp.lt j (by omega)) (hp.lt (j - 1) (by omega)) (hp.lt i (by omega)) e (u i (j - 1) (by omega) (by omega))
   refine KW.mono (fun r h=>?_) (zbt O hp f (m + 1) (by omega) (by omega) u')
   exact ⟨h.1,h.2.1,by omega,by omega,h.2.2.2.2⟩
  | false =>
   have hs : c (p.getD (m - 1) 0) (p.getD m 0) = true:=O.tot _ _ (hp.lt m (by omega)) (hp.lt (m - 1) (by omega)) (hp.ne (by omega) (by omega) (by omega)) e
   refine ⟨hp.lt (m - 1) (by omega),hp.lt m (by omega),?_⟩
   rw [hs]
   exact ⟨rfl,rfl,Nat.le_refl _,(show m≤m + (f + 1) by omega),u⟩
theorem rev_getD {p : Array Nat} {m : Nat} (hm : m≤p.size) (k : Nat) : (kas_rev p 0 m).getD k 0 = if k < m then p.getD (m - 1 - k) 0 else p.getD k 0:=by
 have q:=getElem?_mirror_all (xs:=p) (i:=0) hm k
 have e : ∀ (a : Array Nat) (j : Nat),a.getD j 0 = (a[j]?).getD 0:=fun a j=>by simp [Array.getD_eq_getD_getElem?]
 unfold kas_rev
 rw [e,q]
 by_cases h : k < m
 ·rw [if_pos ⟨Nat.zero_le _,h⟩,if_pos h,e,Nat.zero_add]
 ·rw [if_neg (by omega),if_neg h,e]
theorem zcC (O : Ord c n) {p : Array Nat} (hp : Pm n p) {m : Nat} (h1 : 1≤m) (h2 : m≤n) (u : Dn c p m) : KW c n (kas_tail3 m n p) (fun r=>1≤r.1∧r.1≤n∧Pm n r.2∧Up c r.2 r.1):=by
 have hr : Pm n (kas_rev p 0 m):=hp.of (mirror_perm _ _ _ _)
 have hsz : m≤p.size:=by rw [hp.sz]; exact h2
 have u' : Up c (kas_rev p 0 m) m:=fun i j hij hj=>by
  rw [rev_getD hsz,rev_getD hsz,if_pos (by omega),if_pos hj]
  exact u _ _ (by omega) (by omega)
 refine KW.bind (KW.mono (fun r h=>?_) (zaD O hr (n - m) m h1 (by omega) u'))
 exact ⟨by omega,by omega,hr,h.2.2.1⟩
theorem zce (O : Ord c n) {p : Array Nat} (hp : Pm n p) (h2 : 2≤n) : KW c n (kas_count n p) (fun r=>1≤r.1∧r.1≤n∧Pm n r.2∧Up c r.2 r.1):=by
 refine KW.bind (KW.mono (fun r h=>?_) (zaD O hp (n - 1) 1 (Nat.le_refl _) (by omega) (fun i j hij hj=>by omega)))
 obtain ⟨h1,h3,u,st⟩:=h
 by_cases e : r = n
 ·subst e
  rw [if_pos (by simp)]
  exact ⟨h1,Nat.le_refl _,hp,u⟩
 ·rw [if_neg (by simpa using e)]
  by_cases hr : r > 1
  ·rw [if_pos hr]
   refine ⟨hp.lt 0 (by omega),hp.lt (r - 1) (by omega),?_⟩
   rw [u 0 (r - 1) (by omega) (by omega)]
   exact ⟨h1,by omega,hp,u⟩
  ·rw [if_neg hr]
   have er : r = 1:=by omega
   subst er
   have s1:=st (by omega)
   have d : Dn c p 2:=fun i j hij hj=>by
    have ei : i = 0:=by omega
    have ej : j = 1:=by omega
    subst ei; subst ej
    exact s1
   refine KW.bind (KW.mono (fun r h=>?_) (zbt O hp (n - 2) 2 (by omega) (by omega) d))
   obtain ⟨a1,a2,a3,a4,a5⟩:=h
   obtain ⟨q,m,z⟩:=r
   simp only at a1 a2 a3 a4 a5
   subst a1; subst a2
   show KW c n (if 0 > 0 then _ else _) _
   rw [if_neg (Nat.lt_irrefl 0)]
   exact zcC O hp (show 1≤m by omega) (show m≤n by omega) a5
theorem V7 (O : Ord c n) {p : Array Nat} (hp : Pm n p) {k : Nat} (hk : k < n) (u : Up c p k) : ∀ (f l r : Nat),l≤r->r≤k->r - l≤f->(∀ i,i < l->c (p.getD i 0) (p.getD k 0) = true)->(∀ i,r≤i->i < k->c (p.getD k 0) (p.getD i 0) = true) ->
  KW c n (kas_place p k f l r) (fun l=>l≤k∧(∀ i,i < l->c (p.getD i 0) (p.getD k 0) = true)∧(∀ i,l≤i->i < k->c (p.getD k 0) (p.getD i 0) = true))
 | 0,l,r,h1,h2,h3,lo,hi=>⟨by omega,lo,fun i a b=>hi i (by omega) b⟩
 | f + 1,l,r,h1,h2,h3,lo,hi=>by
  unfold kas_place
  by_cases hlr : l ≥ r
  ·rw [if_pos hlr]
   exact ⟨by omega,lo,fun i a b=>hi i (by omega) b⟩
  ·rw [if_neg hlr]
   have hm : (l + r) / 2 < k:=by omega
   refine ⟨hp.lt k hk,hp.lt _ (by omega),?_⟩
   cases e : c (p.getD k 0) (p.getD ((l + r) / 2) 0) with
   | true =>
    dsimp only
    rw [if_pos rfl]
    refine V7 O hp hk u f l ((l + r) / 2) (by omega) (by omega) (by omega) lo fun i a b=>?_
    by_cases ei : i = (l + r) / 2
    ·rw [ei]; exact e
    ·exact O.tr _ _ _ (hp.lt k hk) (hp.lt _ (by omega)) (hp.lt i (by omega)) e (u _ _ (by omega) b)
   | false =>
    dsimp only
    rw [if_neg Bool.false_ne_true]
    have hs : c (p.getD ((l + r) / 2) 0) (p.getD k 0) = true:=O.tot _ _ (hp.lt k hk) (hp.lt _ (by omega)) (hp.ne hk (by omega) (by omega)) e
    refine V7 O hp hk u f ((l + r) / 2 + 1) r (by omega) h2 (by omega) (fun i a=>?_) hi
    by_cases ei : i = (l + r) / 2
    ·rw [ei]; exact hs
    ·exact O.tr _ _ _ (hp.lt i (by omega)) (hp.lt _ (by omega)) (hp.lt k hk) (u _ _ (by omega) (by omega)) hs
theorem JT {p : Array Nat} {k l : Nat} (hk : k < p.size) (hl : l≤k) (i : Nat) : (bubble p k (k - l)).getD i 0 = if i = l then p.getD k 0 else if l < i∧i≤k then p.getD (i - 1) 0 else p.getD i 0:=by
 have q:=getElem?_bubble hk (k - l) (by omega) i
 have e : ∀ (a : Array Nat) (j : Nat),a.getD j 0 = (a[j]?).getD 0:=fun a j=>by simp [Array.getD_eq_getD_getElem?]
 rw [show k - (k - l) = l by omega] at q
 rw [e,e p k,e p (i - 1),e p i,q]
 split
 ·rfl
 ·split
  ·rfl
  ·rfl
theorem zcF (O : Ord c n) : ∀ (f : Nat) {p : Array Nat} {k : Nat},Pm n p->1≤k->k + f = n->Up c p k->KW c n (kas_bin f p k) (fun q=>Pm n q∧Up c q n)
 | 0,p,k,hp,h1,h2,u=>by
  have : k = n:=by omega
  subst this
  exact ⟨hp,u⟩
 | f + 1,p,k,hp,h1,h2,u=>by
  refine KW.bind (KW.mono (fun l h=>?_) (V7 O hp (show k < n by omega) u k 0 k (Nat.zero_le _) (Nat.le_refl _) (by omega) (fun i hi=>by omega) (fun i a b=>by omega)))
  obtain ⟨hlk,lo,hi⟩:=h
  have hks : k < p.size:=by rw [hp.sz]; omega
  refine zcF O f (hp.of (bubble_perm _ _ _)) (by omega) (by omega) fun i j hij hj=>?_
  rw [JT hks hlk,JT hks hlk]
  by_cases hi1 : i = l
  ·rw [if_pos hi1,if_neg (by omega),if_pos (by omega)]
   exact hi _ (by omega) (by omega)
  ·rw [if_neg hi1]
   by_cases hi2 : l < i∧i≤k
   ·rw [if_pos hi2,if_neg (by omega),if_pos (by omega)]
    exact u _ _ (by omega) (by omega)
   ·rw [if_neg hi2]
    by_cases hj1 : j = l
    ·rw [if_pos hj1]
     exact lo _ (by omega)
    ·rw [if_neg hj1]
     by_cases hj2 : l < j∧j≤k
     ·rw [if_pos hj2]
      exact u _ _ (by omega) (by omega)
     ·rw [if_neg hj2]
      exact u _ _ (by omega) (by omega)
theorem zeV (O : Ord c n) (h2 : 2≤n) : KW c n (kas_sort n) (fun p=>Pm n p∧Up c p n):=by
 have h0 : Pm n (List.toArray (List.range n)):=⟨by simp,by simp⟩
 refine KW.bind (KW.mono (fun r h=>?_) (zce O h0 h2))
 obtain ⟨h1,h3,hp,u⟩:=h
 by_cases hr : r.1 < n
 ·rw [if_pos hr,Nat.max_eq_left h1]
  exact zcF O _ hp h1 (by omega) u
 ·rw [if_neg hr]
  have : r.1 = n:=by omega
  rw [this] at u
  exact ⟨hp,u⟩
end
end HT
namespace L2
open PySem PySem.Spec PyProof.Rows PySem.W
def zal (c : Addr) (q : Str) : HO:=.ext fun h=>h.CodeRec (.ref c) q
def zba (P : Addr) (pos : Pos) (q : Str) (H : Hp) (c : Addr) : Prop:=H P = some (.tbl #[rawInt pos.line,rawInt pos.col,.ref c])∧H c = some (zal c q)
def Wn (P : Addr) (pos : Pos) (q : Str) (H : Hp) : Prop:=H P = some (.tbl #[])∨∃ c,zba P pos q H c
section
variable {P : Program} {w : World} {K : Frag} {mg : Str->Option Value} {base : Heap} {N ps : List Str} {k : Nat} {A : Around} {outer : List Env} {s : Shared} {H : Hp} {us : List Value} {vs : List V} {Q : VK} {E : XK} {f : Addr} {o : Obj}
 {name qual : Str} {params : Arguments} {body : Expr} {scope : Scope} {pm cdv ct : Value} {args : Args}
theorem zdM (ho : s.heap.get? f = some o) (hd : o.data = .func (kla_fn name qual params body scope [] pm cdv ct)) (hcd : s.heap.CodeRec cdv qual) (S : zE N ps scope) (hr : Room (k + 1) A) (e0 : Env0 P w K mg base A outer s H)
  (hb : BindsTo s (kla_fn name qual params body scope [] pm cdv ct) args (ps.zip us)) (hl : vs.length = ps.length) (r : Vals vs us)
  (hbody : ∃ t,PE (Vm CX0 P w K mg base N qual scope f cdv A outer s H E) body t∧t (start N vs) H Q) : codeAny (model P w) A (.call (.ref f) args) (CR CX0 outer P w H s Q E) s:=by
 have lim : s.heap.NoLimit:=e0.mod.nolimit.keeps fun b o e=>(e0.bs b o e).1
 have hkind : ∀ y ∈ ps.zip us,scope.names.lookup y.1 = some .local∨(scope.names.lookup y.1 = some .cell∧((cellsFrom (s.heap.objs.size + 1) scope.names []).lookup y.1).isSome = true):=fun ⟨n,v⟩ hy=>by
  rcases S.par n (List.of_mem_zip hy).1 with q | q
  ·exact .inl q
  ·exact .inr ⟨q,PySem.W.cellsFrom_some _ _ _ (.inl q)⟩
 refine kla_callFunE hr.depth ho hd S.co S.gen rfl hcd (hb _ _ _ _ ?_)
 refine wpAny_newFunctionEnv_cells S.kind hkind fun env he s1 x=>?_
 subst he
 refine ⟨lim.keeps x.toInCall.keep,kla_codeExpr ?_⟩
 obtain ⟨t,ht,hq⟩:=hbody
 have I : Inv (Vm CX0 P w K mg base N qual scope f cdv A outer s H E) [] (start N vs) H s1:=Qn S hr.hd e0 hl r x
 refine wpAny_mono (ht [] s1 (start N vs) H _ I hq) (fun u s' hs=>?_) fun e s' hs=>hs
 obtain ⟨v,H',J,rv,q⟩:=hs
 exact ⟨v,H',J.os,J.bare,J.base,J.hok,rv,q⟩
end
section
variable {X : Cx} {pins : List (Addr × Obj)} {σ : St} {H : Hp} {s : Shared} {params : Arguments} {body : Expr} {scope : Scope} {pos : Pos} {c P : Addr} {Q : Value->Shared->Prop}
theorem zcn (I : Inv X pins σ H s) (hdef : defaultsOf params X.env = ([],[])) (hcl : closureFor scope X.env = pure []) (hcode : X.env.code = .ref c) (hK : codeHdIn X.K c P = true) (hB : X.base.BuiltinsAt X.mg P) (hgP : mainGlobals ≠ P)
  (hT : Wn P pos (X.env.qual ++ "<lambda>") H)
  (h : ∀ (f c' : Addr) (H' : Hp) (s' : Shared) (pm ct : Value),Inv X pins σ H' s'->zba P pos (X.env.qual ++ "<lambda>") H' c'->s'.heap.get? f = some (kla_obj "<lambda>" (X.env.qual ++ "<lambda>") params body scope [] pm c' ct)->H' f = none->s.heap.objs.size≤f ->
   (∀ b u,b ≠ P->H b = some u->H' b = some u)->Q (.ref f) s') :
  wpAny (model X.prog X.w) X.A (eval (.Lambda params body scope pos) X.env) Q X.xe s:=by
 have C : CodeHd s.heap c P:=codeHd_of_K I.kIn hK
 have hg : s.heap.Ns mainGlobals X.mg:=I.mod.glob.keeps I.bk
 have hb : s.heap.BuiltinsAt X.mg P:=by
  obtain ⟨bm,o,b1,b2,b3,b4,b5,b6,b7,b8⟩:=hB
  exact ⟨bm,o,b1,b2,b3,b4,I.bk _ _ b5,b6,b7,b8⟩
 refine kla_eval hdef ?_
 rcases hT with hP | ⟨c',hP,hc'⟩
 ·have hPo : s.heap.get? P = some (tabObj #[]):=I.hok P _ hP
  refine kla_makeFunction hcl I.ok.glob hg hcode C hPo (show TriplesOk [] from trivial) rfl hgP hb fun c' ct h' tk hx hge hlt hrec htb=>?_
  have htb' : h'.get? P = some (tabObj #[rawInt pos.line,rawInt pos.col,.ref c']):=htb
  have hPc : P ≠ c':=fun z=>by
   have:=Heap.lt_size hPo
   rw [z] at this
   exact absurd (Nat.lt_of_lt_of_le this hge) (Nat.lt_irrefl _)
  have hHc : H c' = none:=I.hok.fresh hge
  have old : ∀ b o,b ≠ P->s.heap.get? b = some o->(h'.push (kla_obj "<lambda>" (X.env.qual ++ "<lambda>") params body scope [] ((X.mg "__name__").getD .none) c' ct)).get? b = some o:=fun b o hb e=>Heap.get?_push_of_some _ (hx b o hb e)
  have nP : ∀ b,H b = none->b ≠ P:=fun b n z=>by rw [z,hP] at n; cases n
  have up : ∀ b u,b ≠ P->H b = some u->upd (upd H P (.tbl #[rawInt pos.line,rawInt pos.col,.ref c'])) c' (zal c' (X.env.qual ++ "<lambda>")) b = some u:=fun b u hb e=>by
   rw [zq (fun z=>by rw [z,hHc] at e; cases e),zq hb]; exact e
  have upn : ∀ b,b ≠ P->b ≠ c'->H b = none->upd (upd H P (.tbl #[rawInt pos.line,rawInt pos.col,.ref c'])) c' (zal c' (X.env.qual ++ "<lambda>")) b = none:=fun b h1 h2 e=>by
   rw [zq h2,zq h1]; exact e
  have J : Inv X pins σ (upd (upd H P (.tbl #[rawInt pos.line,rawInt pos.col,.ref c'])) c' (zal c' (X.env.qual ++ "<lambda>"))) { s with heap:=h'.push (kla_obj "<lambda>" (X.env.qual ++ "<lambda>") params body scope [] ((X.mg "__name__").getD .none) c' ct),toks:=tk }:=by
   refine I.un ⟨fun b o e n _ _=>old b o (nP b n) e,fun b o e n _ _=>⟨o.slots,old b o (nP b n) e⟩,fun b o e n _=>upn b (nP b n) (Nat.ne_of_lt (Nat.lt_of_lt_of_le (Heap.lt_size e) hge)) n,fun b o e _=>?_,fun b xs e=>up b _ (fun z=>by rw [z,hP] at e; cases e) e,fun b o u e=>up b _ (fun z=>by rw [z,hP] at e; cases e) e,fun b ps e=>?_⟩ ?_
   ·by_cases hb : b = P
    ·rw [hb]; exact ⟨_,Heap.get?_push_of_some _ htb'⟩
    ·exact ⟨o,old b o hb e⟩
   ·by_cases hb : b = P
    ·rw [hb] at e ⊢
     rw [hP] at e
     cases e
     exact ⟨#[rawInt pos.line,rawInt pos.col,.ref c'],by rw [zq hPc,zf]; rfl⟩
    ·exact ⟨#[],by rw [up b _ hb e]; simp⟩
   ·intro b u e
    by_cases hbc : b = c'
    ·subst hbc
     rw [zf] at e
     cases e
     obtain ⟨c2,oc,vs,t,e1,e2,e3,e4⟩:=id hrec
     cases e1
     have q:=Heap.get?_push_of_some (kla_obj "<lambda>" (X.env.qual ++ "<lambda>") params body scope [] ((X.mg "__name__").getD .none) b ct) e2
     refine ⟨⟨b,oc,vs,t,rfl,q,e3,e4⟩,⟨oc,q⟩,fun h1 h2 ⟨c3,o3,v3,t3,a1,a2,a3,a4⟩ k=>?_⟩
     cases a1
     exact ⟨b,o3,v3,t3,rfl,k _ a2,a3,a4⟩
    ·rw [zq hbc] at e
     by_cases hbP : b = P
     ·rw [hbP] at e ⊢
      rw [zf] at e
      cases e
      exact Heap.get?_push_of_some _ htb'
     ·rw [zq hbP] at e
      refine (I.hok b u e).stay (fun d v hd q=>old d v ?_ q) (fun d q=>?_) fun d xs q=>?_
      ·rcases hd with rfl | hd
       ·exact hbP
       ·intro z; rw [z,hP] at hd; cases hd
      ·exact up d _ (fun z=>by rw [z,hP] at q; cases q) q
      ·exact up d _ (fun z=>by rw [z,hP] at q; cases q) q
  have hsz : s.heap.objs.size≤h'.objs.size:=Nat.le_of_lt (Nat.lt_of_le_of_lt hge hlt)
  refine h _ c' _ _ _ ct J ⟨by rw [zq hPc,zf],zf⟩ (Heap.get?_push_size _ rfl) ?_ hsz up
  exact upn _ (Nat.ne_of_gt (Nat.lt_of_lt_of_le (Heap.lt_size hPo) hsz)) (Nat.ne_of_gt hlt) (I.hok.fresh hsz)
 ·have hPo : s.heap.get? P = some (tabObj #[rawInt pos.line,rawInt pos.col,.ref c']):=I.hok P _ hP
  refine kla_makeFunctionHit hcl I.ok.glob hg hcode C hPo (show TriplesOk [rawInt pos.line,rawInt pos.col,.ref c'] from trivial) (cv:=.ref c') ?_ hb fun ct h' tk hk hsz=>?_
  ·have:=codeAmong_snoc (pos:=pos) (c:=.ref c') [] trivial rfl
   exact this
  ·exact h _ c' H _ _ ct (I.kept (t':=tk) fun b u e=>Heap.get?_push_of_some _ (hk b u e)) ⟨hP,hc'⟩ (Heap.get?_push_size _ rfl) (I.hok.fresh hsz) hsz (fun b u _ e=>e)
end
end L2
namespace HT
def vp (a b : List Int) : Bool:=if a.length = b.length then lexLt a b else decide (a.length < b.length)
theorem Ja (a : List Int) : vp a a = false:=by unfold vp; rw [if_pos rfl,qG]
theorem W4 (a b c : List Int) (h1 : vp a b = true) (h2 : vp b c = true) : vp a c = true:=by
 unfold vp at *
 by_cases e1 : a.length = b.length
 ·rw [if_pos e1] at h1
  by_cases e2 : b.length = c.length
  ·rw [if_pos e2] at h2
   rw [if_pos (e1.trans e2)]
   exact Yr a b c h1 h2
  ·rw [if_neg e2] at h2
   rw [if_neg (by omega)]
   have:=of_decide_eq_true h2
   exact decide_eq_true (by omega)
 ·rw [if_neg e1] at h1
  have h1':=of_decide_eq_true h1
  by_cases e2 : b.length = c.length
  ·rw [if_neg (by omega)]
   exact decide_eq_true (by omega)
  ·rw [if_neg e2] at h2
   have:=of_decide_eq_true h2
   rw [if_neg (by omega)]
   exact decide_eq_true (by omega)
theorem za1 (a b : List Int) (h : a ≠ b) : vp b a = !vp a b:=by
 unfold vp
 by_cases e : a.length = b.length
 ·rw [if_pos e,if_pos e.symm,Xj a b h]
 ·rw [if_neg e,if_neg (Ne.symm e),Bool.eq_iff_iff]
  simp
  omega
theorem zfq {ls : List (List Int)} (nd : ls.Nodup) : Ord (fun i j=>vp (ls.getD i []) (ls.getD j [])) ls.length:=by
 have ge : ∀ i,(h : i < ls.length)->ls.getD i [] = ls[i]:=fun i h=>by rw [List.getD_eq_getElem?_getD,List.getElem?_eq_getElem h]; rfl
 refine ⟨fun i j k _ _ _ h1 h2=>W4 _ _ _ h1 h2,fun i j hi hj hij h=>?_,fun i j hi hj h=>?_⟩
 ·have ne : ls.getD i [] ≠ ls.getD j []:=fun z=>by
   rw [ge i hi,ge j hj] at z
   exact hij ((List.getElem_inj nd).mp z)
  have:=za1 _ _ ne
  rw [h] at this
  exact this
 ·cases e : vp (ls.getD j []) (ls.getD i []) with
  | false=>rfl
  | true =>
   have:=W4 _ _ _ h e
   rw [Ja] at this
   cases this
end HT
namespace L2
open PySem PySem.Spec PyProof.Rows PySem.W
section
variable {X : Cx} {pins : List (Addr × Obj)} {σ : St} {H : Hp} {s : Shared}
theorem zaC (I : Inv X pins σ H s) {p z : Addr} {n : Int} (h : H p = some (.tup [.int n,.ref z])) : ∃ (t : Tok) (o : Obj) (m : Nat),s.heap.get? p = some o∧o.cls = .type "tuple"∧o.data = .seq #[.int n t,.ref z] m:=by
 obtain ⟨_,its,r,o,e,hc,m,hd⟩:=I.hok p _ h
 cases r with
 | cons r1 r2 =>
  cases r2 with
  | cons r3 r4 =>
   cases r4
   obtain ⟨t,rfl⟩:=r1
   cases r3
   exact ⟨t,o,m,e,hc,hd⟩
theorem zd9 (I : Inv X pins σ H s) {A : Around} {p q za zb : Addr} {as bs : List Int} (hp : H p = some (.tup [.int as.length,.ref za])) (hq : H q = some (.tup [.int bs.length,.ref zb])) (ha : H za = some (.lst (as.map V.int))) (hb : H zb = some (.lst (bs.map V.int)))
  (hu : A.units + 2 < cLine) {Q : Bool->Shared->Prop} {E : Value->Shared->Prop} (h : Q (HT.vp as bs) s) : wpAny (model X.prog X.w) A (keyLt' (tuples' true) (.ref p) (.ref q)) Q E s:=by
 obtain ⟨t,o,m,e,_,hd⟩:=zaC I hp
 obtain ⟨t',o',m',e',_,hd'⟩:=zaC I hq
 refine kat_lt e hd e' hd' ?_
 refine kat_cons (wpAny_eqBool_int ?_)
 unfold HT.vp at h
 by_cases hl : as.length = bs.length
 ·rw [if_pos hl] at h
  have e1 : ((as.length : Int) == (bs.length : Int)) = true:=by rw [hl]; simp
  rw [e1]
  refine kat_yes (kat_cons ?_)
  refine (Vv I (A:=A) 1 (t:=yt as) (u:=yt bs) (v:=.ref za) (w:=.ref zb) (by rw [vP]; exact Nat.le_refl _) (TrAt.ints (SqL.of ha)) (TrAt.ints (SqL.of hb)) rfl rfl (by omega)).eq _ _ _ _ ?_
  rw [ue]
  by_cases hab : as = bs
  ·rw [decide_eq_true hab]
   refine kat_yes (kat_nil ?_)
   rw [hab,HT.qG] at h
   exact h
  ·rw [decide_eq_false hab]
   refine kat_no (kat_one _ _ ?_)
   obtain ⟨its,r1,p1,_⟩:=I.list (SqL.of ha)
   obtain ⟨its2,r2,p2,_⟩:=I.list (SqL.of hb)
   exact HT.W6 p1.isList p2.isList (by simpa using intsAre_of r1) (by simpa using intsAre_of r2) (by omega) h
 ·rw [if_neg hl] at h
  have e1 : ((as.length : Int) == (bs.length : Int)) = false:=by simp; omega
  rw [e1]
  refine kat_no ?_
  refine oneLt_int ?_
  have : decide ((as.length : Int) < (bs.length : Int)) = decide (as.length < bs.length):=by
   rw [Bool.eq_iff_iff]; simp
  rw [this]
  exact h
end
end L2
set_option maxHeartbeats 4000000
namespace L2
open PySem PySem.Spec PyProof.Rows PySem.W
section
variable {X : Cx} {pins : List (Addr × Obj)} {σ : St} {H : Hp} {s : Shared}
structure zbx (X : Cx) (pins : List (Addr × Obj)) (n : Nat) (a : Addr) : Prop where
 s0 : X.s₀.heap.objs.size≤a
 lo : a ≠ X.env.locals
 ce : ∀ x c,X.env.cells.lookup x = some c->c ≠ a
 fs : a ∉ X.fs
 pn : ∀ p ∈ X.pn ++ pins,p.1 ≠ a
 ge : n≤a
theorem Inv.late (I : Inv X pins σ H s) {a : Addr} (h : s.heap.objs.size≤a) : zbx X pins s.heap.objs.size a :=
 ⟨Nat.le_trans I.sz h,Nat.ne_of_gt (Nat.lt_of_lt_of_le I.lt h),fun x c e z=>by
  obtain ⟨v,o,ho,_⟩:=I.cell x c e
  rw [z] at ho
  exact absurd (Nat.lt_of_lt_of_le (Heap.lt_size ho) h) (Nat.lt_irrefl _),I.nofs h,fun p hp z=>by
  obtain ⟨e,_⟩:=I.pin p hp
  rw [z] at e
  exact absurd (Nat.lt_of_lt_of_le (Heap.lt_size e) h) (Nat.lt_irrefl _),h⟩
theorem Inv.tell {a : Addr} {xs : List V} {its : List Value} {n : Nat} {h' : Heap} {t' : Nat} (I : Inv X pins σ H s) {m : Nat} (L : zbx X pins m a) (hn : H a = none) (k : ∀ b o,b ≠ a->s.heap.get? b = some o->h'.get? b = some o)
  (hv : Vals xs its) (hz : xs.length≤sizeLine) (ha : h'.get? a = some (seqObj "list" its.toArray n)) : Inv X pins σ (upd H a (.lst xs)) { s with heap:=h',toks:=t' }:=by
 have na : ∀ b u,H b = some u->b ≠ a:=fun b u e z=>by rw [z,hn] at e; cases e
 refine I.step (g':=s.gens) (d':=s.drawn) (ch:=[a]) (fun b hb=>?_) (fun b o _ _ hc e _=>k b o (fun z=>hc (by simp [z])) e) (fun b o _ _ hc e _=>⟨o.slots,k b o (fun z=>hc (by simp [z])) e⟩) (fun b o hc e n=>by rw [zq (fun z=>hc (by simp [z]))]; exact n)
  (fun b o hc e=>⟨o,k b o (fun z=>hc (by simp [z])) e⟩) (fun b xs e=>by rw [zq (na b _ e)]; exact e) (fun b o u e=>by rw [zq (na b _ e)]; exact e) (fun b ps e=>⟨#[],by rw [zq (na b _ e),e]; simp⟩) (fun m hm=>?_) (fun b u e=>?_) I.bare
 ·have e : b = a:=by simpa using hb
  subst e
  exact ⟨.inr L.s0,L.lo,L.ce,L.pn⟩
 ·obtain ⟨o,es,ep,ho,r⟩:=hm
  exact ⟨o,es,ep,k _ o (Ne.symm L.lo) ho,r⟩
 ·by_cases hb : b = a
  ·subst hb
   rw [zf] at e
   cases e
   exact ⟨hz,its,n,hv,ha⟩
  ·rw [zq hb] at e
   refine (I.hok b u e).stay (fun c v hc q=>k c v ?_ q) (fun c q=>by rw [zq (na c _ q)]; exact q) fun c xs q=>by rw [zq (na c _ q)]; exact q
   rcases hc with rfl | hc
   ·exact hb
   ·exact na c _ hc
def zeE (H : Hp) (zs : List (Addr × List Int)) (pl : List Addr) : Prop:=∀ j z,zs[j]? = some z->j < pl.length->∃ p,pl[j]? = some p∧H p = some (.tup [.int z.2.length,.ref z.1])
theorem kat_tups (I : Inv X pins σ H s) : ∀ pl : List Addr,(∀ p ∈ pl,∃ (n : Int) (z : Addr),H p = some (.tup [.int n,.ref z]))->∃ fs : List Value,KatTups s.heap (pl.map Value.ref) fs∧fs.length = pl.length∧∀ v ∈ fs,∃ n t,v = Value.int n t
 | [],_=>⟨[],KatTups.nil,rfl,fun v hv=>by cases hv⟩
 | p :: pl,h=>by
  obtain ⟨fs,h1,h2,h3⟩:=kat_tups I pl fun q hq=>h q (.tail _ hq)
  obtain ⟨n,z,e⟩:=h p (.head _)
  obtain ⟨t,o,m,e1,e2,e3⟩:=zaC I e
  refine ⟨.int n t :: fs,KatTups.cons e1 e2 e3 rfl h1,by simp [h2],fun v hv=>?_⟩
  rcases List.mem_cons.mp hv with rfl | hv
  ·exact ⟨n,t,rfl⟩
  ·exact h3 v hv
theorem zcG {zs : List (Addr × List Int)} {f kS a : Addr} {fo : Obj} {e1 : Nat} {A : Around} {P : PySem.Fin->Shared->Prop} {E : Value->Shared->Prop} {n : Nat}
  (I : Inv X ((f,fo) :: (a,seqObj "list" #[] e1) :: pins) σ H s) (La : zbx X pins n a) (Lk : zbx X ((f,fo) :: (a,seqObj "list" #[] e1) :: pins) n kS) (hkS : s.heap.get? kS = some (seqObj "list" #[] 0)) (hkn : H kS = none)
  (hz : ∀ z ∈ zs,H z.1 = some (.lst (z.2.map V.int))) (nd : (zs.map (·.2)).Nodup) (h60 : zs.length≤60) (hu : A.units + 2 < cLine)
  (turn : ∀ (H' : Hp) (s' : Shared) (pins' : List (Addr × Obj)) (z : Addr × List Int),Inv X pins' σ H' s'->(f,fo) ∈ pins'->Same H H'->z ∈ zs ->
   wpAny (model X.prog X.w) A (call (.ref f) [.ref z.1]) (EP X pins' σ fun v H2=>∃ p,v = .ref p∧H' p = none∧H2 = upd H' p (.tup [.int z.2.length,.ref z.1])) (fun _ _=>False) s')
  (done : ∀ (H' : Hp) (s' : Shared) (zs' : List (Addr × List Int)),Inv X pins σ (upd H' a (.lst (zs'.map fun z=>V.ref z.1))) s'->Same H H'->H' a = none->zs'.Perm zs->zs'.Pairwise (fun x y=>HT.vp x.2 y.2 = true)->P (.done (.ret .none)) s') :
  wpAny (model X.prog X.w) A (ksk_rest a (.ref f) false (zs.map fun z=>Value.ref z.1).toArray e1 (.ref kS)) P E s:=by
 unfold ksk_rest
 refine wpAny_bind (wpAny_rule ?_)
 first
  | rw [List.forIn_toArray]
  | (rw [← Array.forIn_toList]; simp only [List.toList_toArray])
  | rw [← Array.forIn_toList]
 refine wpAny_bind (ksk_fold (fun i s'=>∃ (H' : Hp) (pl : List Addr) (e : Nat),Inv X ((f,fo) :: (a,seqObj "list" #[] e1) :: pins) σ H' s'∧s'.heap.get? kS = some (seqObj "list" (pl.map Value.ref).toArray e)∧H' kS = none∧pl.length = i∧zeE H' zs pl∧Same H H') (zs.map fun z=>Value.ref z.1) 0 s
  ⟨H,[],0,I,hkS,hkn,rfl,fun j z _ h=>by simp at h,Same.refl _⟩ ?step ?fin)
 case step =>
  rintro j x s' hx ⟨H',pl,e,I',hk',hkn',hpl,hkeys,sm⟩
  rw [Nat.zero_add] at hpl ⊢
  rw [List.getElem?_map] at hx
  obtain ⟨z,hzj,ez⟩:=Option.map_eq_some_iff.mp hx
  subst ez
  have hzm:=List.mem_of_getElem? hzj
  have hj : j < zs.length:=(List.getElem?_eq_some_iff.mp hzj).1
  have I2 : Inv X ((kS,seqObj "list" (pl.map Value.ref).toArray e) :: (f,fo) :: (a,seqObj "list" #[] e1) :: pins) σ H' s':=I'.pins_of fun p hp=>by
   rcases List.mem_cons.mp hp with rfl | hp
   ·exact ⟨hk',hkn',Lk.lo,Lk.fs,fun v z=>by cases z⟩
   ·exact I'.pin p (List.mem_append_right _ hp)
  refine wpAny_bind (wpAny_attempt (wpAny_mono (turn H' s' _ z I2 (by simp) sm hzm) (fun v s'' he=>?_) fun _ _ hF=>hF.elim))
  obtain ⟨v',H2,I3,rv,p,rfl,hpf,rfl⟩:=he
  cases rv
  have pk:=I3.pin (kS,seqObj "list" (pl.map Value.ref).toArray e) (List.mem_append_right _ (.head _))
  have I4 : Inv X ((f,fo) :: (a,seqObj "list" #[] e1) :: pins) σ (upd H' p (.tup [.int z.2.length,.ref z.1])) s'':=I3.pins_of fun q hq=>I3.pin q (List.mem_append_right _ (.tail _ hq))
  obtain ⟨c2,hc2⟩ : ∃ c2,(s''.heap.update kS (Obj.mapSeq (·.push (.ref p)))).get? kS = some (seqObj "list" ((pl.map Value.ref).toArray.push (.ref p)) c2):=⟨_,get?_update_seq pk.1 (·.push (.ref p))⟩
  have hsl : (pl.map Value.ref).toArray.size≤60:=by rw [List.size_toArray,List.length_map]; omega
  dsimp only
  refine wpAny_bind (listUpdate_at pk.1 rfl ?_ (Nat.le_trans hsl (by decide)) (by rw [Array.size_push]; exact Nat.le_trans (Nat.succ_le_succ hsl) (by decide)))
  refine wpAny_pure ⟨rfl,_,pl ++ [p],c2,I4.turned (t':=s''.toks) (fun b o hb q=>?_) pk.2.1 Lk.lo (.inr Lk.s0) Lk.ce Lk.pn,?_,pk.2.1,by rw [List.length_append,List.length_singleton,hpl],fun i y hy hi=>?_,sm.trans (zj hpf)⟩
  ·rw [Heap.get?_update_other _ _ (Ne.symm hb)]; exact q
  ·rw [hc2]; simp
  ·by_cases hlt : i < pl.length
   ·obtain ⟨p',e1',e2'⟩:=hkeys i y hy hlt
    exact ⟨p',by rw [List.getElem?_append_left hlt]; exact e1',by rw [zq (zy e2' hpf)]; exact e2'⟩
   ·have ei : i = pl.length:=by rw [List.length_append,List.length_singleton] at hi; omega
    have ej : i = j:=by omega
    rw [ej,hzj] at hy
    cases hy
    exact ⟨p,by rw [ei]; simp,zf⟩
 case fin =>
  rintro s' ⟨H',pl,e,I',hk',hkn',hpl,hkeys,sm⟩
  rw [Nat.zero_add,List.length_map] at hpl
  try dsimp only
  refine wpAny_bind (listItems_at hk' rfl ?_)
  have ga:=I'.pin (a,seqObj "list" #[] e1) (List.mem_append_right _ (.tail _ (.head _)))
  have Ip : Inv X pins σ H' s':=I'.pins_of fun q hq=>I'.pin q (by
   rcases List.mem_append.mp (List.mem_append_right X.pn hq) with h | h
   ·exact List.mem_append_left _ h
   ·exact List.mem_append_right _ (.tail _ (.tail _ h)))
  have nka : kS ≠ a:=fun z=>Lk.pn (a,seqObj "list" #[] e1) (List.mem_append_right _ (.tail _ (.head _))) z.symm
  have tail : ∀ (st : SortSt) (zs' : List (Addr × List Int)),(arrOf st).map (·.2) = (zs'.map fun z=>Value.ref z.1).toArray->failedOf st = none->zs'.Perm zs->zs'.Pairwise (fun x y=>HT.vp x.2 y.2 = true) ->
    wpAny (model X.prog X.w) A (ksk_tail a false e1 (.ref kS) st) P E s':=by
   intro st zs' hout hfl pm pw
   have hlen : zs'.length≤60:=by rw [pm.length_eq]; exact h60
   have s1:=Heap.SameBut.update s'.heap kS (Obj.mapSeq fun _=>(#[] : Array Value))
   have na1 : (s'.heap.update kS (Obj.mapSeq fun _=>(#[] : Array Value))).get? a = some (seqObj "list" #[] e1):=(s1.2 a nka.symm).trans ga.1
   obtain ⟨c2,hc2⟩ : ∃ c2,((s'.heap.update kS (Obj.mapSeq fun _=>(#[] : Array Value))).update a (Obj.mapSeq fun _=>(zs'.map fun z=>Value.ref z.1).toArray)).get? a = some (seqObj "list" (zs'.map fun z=>Value.ref z.1).toArray c2) :=
    ⟨_,get?_update_seq na1 fun _=>(zs'.map fun z=>Value.ref z.1).toArray⟩
   have I5 : Inv X pins σ H' { s' with heap:=s'.heap.update kS (Obj.mapSeq fun _=>(#[] : Array Value)),toks:=s'.toks }:=Ip.turned (fun b o hb q=>by rw [Heap.get?_update_other _ _ (Ne.symm hb)]; exact q) hkn' Lk.lo (.inr Lk.s0) Lk.ce (fun q hq=>Lk.pn q (by
    rcases List.mem_append.mp hq with h | h
    ·exact List.mem_append_left _ h
    ·exact List.mem_append_right _ (.tail _ (.tail _ h))))
   have I6:=I5.tell (t':=s'.toks) (h':=(s'.heap.update kS (Obj.mapSeq fun _=>(#[] : Array Value))).update a (Obj.mapSeq fun _=>(zs'.map fun z=>Value.ref z.1).toArray)) La ga.2.1 (fun b o hb q=>by rw [Heap.get?_update_other _ _ (Ne.symm hb)]; exact q) (Wu zs') (by rw [List.length_map]; exact Nat.le_trans hlen (by decide)) hc2
   unfold ksk_tail
   try dsimp only
   refine wpAny_bind (listUpdate_at hk' rfl ?_ (by rw [List.size_toArray,List.length_map,hpl]; exact Nat.le_trans h60 (by decide)) (Nat.zero_le _))
   refine wpAny_bind (wpAny_letGo ?_)
   refine wpAny_bind (seqEpoch_at na1 rfl ?_)
   simp only [Bool.false_eq_true,if_false]
   rw [hout]
   refine wpAny_bind (listUpdate_at na1 rfl ?_ (Nat.zero_le _) (by rw [List.size_toArray,List.length_map]; exact Nat.le_trans hlen (by decide)))
   rw [hfl]
   simp only [bne_self_eq_false,Bool.false_eq_true,if_false]
   exact wpAny_pure (done H' _ zs' I6 sm ga.2.1 pm pw)
  unfold ksk_end
  try dsimp only
  simp only [Bool.false_eq_true,if_false]
  have hvl : (zs.map fun z=>Value.ref z.1).toArray.size = zs.length:=by rw [List.size_toArray,List.length_map]
  by_cases h2 : (zs.map fun z=>Value.ref z.1).toArray.size < 2
  ·rw [if_pos h2,if_pos h2]
   refine wpAny_bind (wpAny_pure ?_)
   rw [StateT.run_pure]
   refine wpAny_bind (wpAny_pure ?_)
   try dsimp only
   refine tail _ zs ?_ rfl (List.Perm.refl _) ?_
   ·show (((pl.map Value.ref).toArray.zip (zs.map fun z=>Value.ref z.1).toArray).map (·.2)) = _
    apply Array.toList_inj.mp
    rw [Array.toList_map,Array.toList_zip,List.map_snd_zip (by simp [hpl])]
   ·rw [hvl] at h2
    match zs,h2 with
    | [],_=>exact .nil
    | [_],_=>exact List.pairwise_singleton _ _
  ·rw [if_neg h2,if_neg h2]
   rw [hvl] at h2
   have hkl : (pl.map Value.ref).length = (zs.map fun z=>Value.ref z.1).length:=by rw [List.length_map,List.length_map,hpl]
   have hk2 : ∀ j,j < zs.length->∃ p,pl[j]? = some p∧H' p = some (.tup [.int (zs.getD j (0,[])).2.length,.ref (zs.getD j (0,[])).1])∧zs.getD j (0,[]) ∈ zs:=fun j hj=>by
    have e : zs.getD j (0,[]) = zs[j]:=by rw [List.getD_eq_getElem?_getD,List.getElem?_eq_getElem hj]; rfl
    rw [e]
    obtain ⟨p,e1,e2⟩:=hkeys j zs[j] (List.getElem?_eq_getElem hj) (by omega)
    exact ⟨p,e1,e2,List.getElem_mem hj⟩
   obtain ⟨fs,ht,hfl,hfi⟩:=kat_tups I' pl fun p hp=>by
    obtain ⟨j,hj,rfl⟩:=List.getElem_of_mem hp
    obtain ⟨p',e1,e2,_⟩:=hk2 j (by omega)
    rw [List.getElem?_eq_getElem hj] at e1
    cases e1
    exact ⟨_,_,e2⟩
   refine wpAny_bind (kat_kind (T:=.type "int") ht (by omega) (fun v hv=>?_) (by decide) ?_)
   ·obtain ⟨n,t,rfl⟩:=hfi v hv
    exact Looks.of_pure rfl
   have ls2 : (zs.map (·.2)).length = zs.length:=List.length_map ..
   have ask : (kas_sort (zs.map fun z=>Value.ref z.1).length).kasWp (kas_ask X.prog X.w A (tuples' true) (pl.map Value.ref)) (fun p s''=>s'' = s'∧(HT.Pm zs.length p∧HT.Up (fun i j=>HT.vp ((zs.map (·.2)).getD i []) ((zs.map (·.2)).getD j [])) p zs.length)) s':=by
    rw [List.length_map]
    have O:=HT.zfq nd
    rw [ls2] at O
    refine HT.KW.wp (n:=zs.length) (fun i j C hi hj hC=>?_) _ (HT.zeV O (by omega))
    obtain ⟨p,e1,e2,e3⟩:=hk2 i hi
    obtain ⟨q,d1,d2,d3⟩:=hk2 j hj
    have ei : (zs.map (·.2)).getD i [] = (zs.getD i (0,[])).2:=by rw [List.getD_eq_getElem?_getD,List.getD_eq_getElem?_getD,List.getElem?_map,List.getElem?_eq_getElem hi]; rfl
    have ej : (zs.map (·.2)).getD j [] = (zs.getD j (0,[])).2:=by rw [List.getD_eq_getElem?_getD,List.getD_eq_getElem?_getD,List.getElem?_map,List.getElem?_eq_getElem hj]; rfl
    have gi : (pl.map Value.ref).getD i Value.none = .ref p:=by rw [List.getD_eq_getElem?_getD,List.getElem?_map,e1]; rfl
    have gj : (pl.map Value.ref).getD j Value.none = .ref q:=by rw [List.getD_eq_getElem?_getD,List.getElem?_map,d1]; rfl
    unfold kas_ask
    rw [gi,gj]
    refine zd9 I' e2 d2 (sm _ _ (hz _ e3)) (sm _ _ (hz _ d3)) hu ?_
    try dsimp only at hC
    rw [ei,ej] at hC
    exact hC
   have eT : (Value.type "int" != Value.type "tuple") = true:=by decide
   rw [eT]
   refine wpAny_bind (wpAny_mono (kat_run (ks:=pl.map Value.ref) (vs:=zs.map fun z=>Value.ref z.1) (Q:=fun st' s''=>∃ p : Array Nat,s'' = s'∧arrOf st' = p.map (kas_item ((pl.map Value.ref).toArray.zip (zs.map fun z=>Value.ref z.1).toArray))∧failedOf st' = none∧HT.Pm zs.length p∧HT.Up (fun i j=>HT.vp ((zs.map (·.2)).getD i []) ((zs.map (·.2)).getD j [])) p zs.length)
    hkl (by rw [List.length_map]; omega) (by rw [List.length_map]; omega) (fun p st' s'' _ a2 a3 a4=>⟨p,a4.1,a2,a3,a4.2⟩) ask) ?_ fun _ _ e=>e)
   rintro ⟨⟨⟩,st'⟩ s'' ⟨p,rfl,har,hfl2,hpm,hup⟩
   try dsimp only
   have hout:=kat_snds hkl har
   have hpl2 : p.toList.length = zs.length:=by rw [hpm.pm.length_eq,List.length_range]
   refine tail st' (p.toList.map fun i=>zs.getD i (0,[])) ?_ hfl2 (HT.Qy _ zs hpm.pm) ?_
   ·rw [hout,List.map_map]
    congr 1
    refine List.map_congr_left fun i hi=>?_
    have hi':=List.mem_range.mp (hpm.pm.mem_iff.mp hi)
    show _ = Value.ref (zs.getD i (0,[])).1
    rw [List.getD_eq_getElem?_getD,List.getD_eq_getElem?_getD,List.getElem?_map,List.getElem?_eq_getElem hi']; rfl
   ·rw [List.pairwise_map,List.pairwise_iff_getElem]
    intro i j hi hj hij
    have q1:=hup i j hij (by omega)
    have e1 : p.getD i 0 = p.toList[i]:=by
     have : i < p.size:=by rw [hpm.sz]; omega
     simp [Array.getD,this]
    have e2 : p.getD j 0 = p.toList[j]:=by
     have : j < p.size:=by rw [hpm.sz]; omega
     simp [Array.getD,this]
    rw [e1,e2] at q1
    have m1:=List.mem_range.mp (hpm.pm.mem_iff.mp (List.getElem_mem hi))
    have m2:=List.mem_range.mp (hpm.pm.mem_iff.mp (List.getElem_mem hj))
    have ei : (zs.map (·.2)).getD p.toList[i] [] = (zs.getD p.toList[i] (0,[])).2:=by rw [List.getD_eq_getElem?_getD,List.getD_eq_getElem?_getD,List.getElem?_map,List.getElem?_eq_getElem m1]; rfl
    have ej : (zs.map (·.2)).getD p.toList[j] [] = (zs.getD p.toList[j] (0,[])).2:=by rw [List.getD_eq_getElem?_getD,List.getD_eq_getElem?_getD,List.getElem?_map,List.getElem?_eq_getElem m2]; rfl
    try dsimp only at q1
    rw [ei,ej] at q1
    exact q1
end
section
variable {X : Cx} {pins : List (Addr × Obj)} {σ : St} {H : Hp} {s : Shared}
theorem J3 {zs : List (Addr × List Int)} {f l : Addr} {fo : Obj} {Q : VK} (I : Inv X ((f,fo) :: pins) σ H s) (hl : H l = some (.lst (zs.map fun z=>V.ref z.1))) (hz : ∀ z ∈ zs,H z.1 = some (.lst (z.2.map V.int))) (nd : (zs.map (·.2)).Nodup) (h60 : zs.length≤60)
  (hu : X.A.in1.in1.units + 2 < cLine)
  (turn : ∀ (H' : Hp) (s' : Shared) (pins' : List (Addr × Obj)) (z : Addr × List Int),Inv X pins' σ H' s'->(f,fo) ∈ pins'->Same H H'->z ∈ zs ->
   wpAny (model X.prog X.w) X.A.in1.in1 (call (.ref f) [.ref z.1]) (EP X pins' σ fun v H2=>∃ p,v = .ref p∧H' p = none∧H2 = upd H' p (.tup [.int z.2.length,.ref z.1])) (fun _ _=>False) s')
  (q : ∀ (D : Addr) (H' : Hp) (zs' : List (Addr × List Int)),H D = none->Same H H'->H' D = none->zs'.Perm zs->zs'.Pairwise (fun x y=>HT.vp x.2 y.2 = true)->Q (.ref D) (upd H' D (.lst (zs'.map fun z=>V.ref z.1)))) :
  wpAny (model X.prog X.w) X.A (call (.builtin "sorted") [.ref l] [(Str.ofString "key",.ref f)]) (EP X pins σ Q) X.xe s:=by
 obtain ⟨its,r1,p1,_⟩:=I.list (SqL.of hl)
 have e1:=WL r1
 subst e1
 have hvl : (zs.map fun z=>Value.ref z.1).length = zs.length:=List.length_map ..
 have hsl : (zs.map fun z=>Value.ref z.1).length≤sizeLine:=by rw [hvl,sizeLine_eq]; omega
 refine call_function_entry_kw kind_sorted plain_sorted entry_sorted (ksk_s1 _ _) ?_
 unfold Builtin.«sorted»
 refine wpAny_bind (m:=checkCount "sorted" 1 1 _) (wpAny_pure (wpAny_bind (collect_list p1.isList (wpAny_bind (wpAny_newList ?_ hsl)) hsl)))
 generalize hB : (s.heap.push (seqObj "list" #[] 0)).update s.heap.objs.size (Obj.mapSeq (· ++ (zs.map fun z=>Value.ref z.1).toArray)) = B
 have hsz : B.objs.size = s.heap.objs.size + 1:=by rw [← hB,Heap.size_update,size_push']
 have keep : ∀ b o,s.heap.get? b = some o->(B.push (seqObj "list" (zs.map fun z=>Value.ref z.1).toArray 0)).get? b = some o:=fun b o q=>by
  have hlt : b < s.heap.objs.size:=Heap.lt_size q
  rw [Heap.get?_push_ne _ _ _ (by rw [hsz]; exact Nat.ne_of_lt (Nat.lt_succ_of_lt hlt)),← hB,Heap.get?_update_ne _ _ _ _ (Nat.ne_of_lt hlt),Heap.get?_push_ne _ _ _ (Nat.ne_of_lt hlt)]; exact q
 have hoL : (B.push (seqObj "list" (zs.map fun z=>Value.ref z.1).toArray 0)).get? (s.heap.objs.size + 1) = some (seqObj "list" (zs.map fun z=>Value.ref z.1).toArray 0):=by
  rw [← hsz]; exact Heap.get?_push_size _ rfl
 have hszB : (B.push (seqObj "list" (zs.map fun z=>Value.ref z.1).toArray 0)).objs.size = s.heap.objs.size + 2:=by rw [size_push',hsz]
 show wpAny _ _ _ _ _ { s with heap:=B.push (seqObj "list" (zs.map fun z=>Value.ref z.1).toArray 0) }
 dsimp only
 rw [hsz]
 refine wpAny_bind (wpAny_holding (wpAny_call_entry_kw slot_list_sort ⟨_,hoL,rfl⟩ entry_list_sort ?body (ksk_l1 _ _)))
 case body =>
  show wpAny (model X.prog X.w) X.A.in1.in1 (Builtin.«list.sort» ⟨[.ref (s.heap.objs.size + 1)],[(Str.ofString "key",.ref f)]⟩) _ _ _
  rw [ksk_t1]
  unfold ksk_tree
  generalize hG : B.push (seqObj "list" (zs.map fun z=>Value.ref z.1).toArray 0) = G at keep hoL hszB
  generalize hLd : s.heap.objs.size + 1 = L at hoL
  have hLG : L < G.objs.size:=Heap.lt_size hoL
  obtain ⟨e1,ho1⟩ : ∃ e1,(G.update L (Obj.mapSeq fun _=>(#[] : Array Value))).get? L = some (seqObj "list" #[] e1):=⟨_,get?_update_seq hoL fun _=>#[]⟩
  refine wpAny_bind (listItems_at (s:={ s with heap:=G }) hoL rfl ?_)
  refine wpAny_bind (listUpdate_at (s:={ s with heap:=G }) hoL rfl ?_ (by rw [List.size_toArray]; exact hsl) (Nat.zero_le _))
  refine wpAny_bind (seqEpoch_at ho1 rfl ?_)
  refine wpAny_bind (wpAny_newTuple ?_ (by show (zs.map fun z=>Value.ref z.1).length≤_; exact hsl))
  refine wpAny_bind (wpAny_newList ?_ (Nat.zero_le _))
  refine wpAny_holding ?_
  generalize hM : (G.update L (Obj.mapSeq fun _=>(#[] : Array Value))).push (seqObj "tuple" (zs.map fun z=>Value.ref z.1).toArray 0) = M
  have hMs : M.objs.size = s.heap.objs.size + 3:=by rw [← hM,size_push',Heap.size_update,hszB]
  have hkS : (M.push (seqObj "list" #[] 0)).get? (s.heap.objs.size + 3) = some (seqObj "list" #[] 0):=by rw [← hMs]; exact Heap.get?_push_size _ rfl
  have hL2 : (M.push (seqObj "list" #[] 0)).get? L = some (seqObj "list" #[] e1):=Heap.get?_push_of_some _ (by rw [← hM]; exact Heap.get?_push_of_some _ ho1)
  have keep2 : ∀ b o,s.heap.get? b = some o->(M.push (seqObj "list" #[] 0)).get? b = some o:=fun b o q=>by
   have hlt : b < s.heap.objs.size:=Heap.lt_size q
   refine Heap.get?_push_of_some _ ?_
   rw [← hM]
   refine Heap.get?_push_of_some _ ?_
   rw [Heap.get?_update_ne _ _ _ _ (by rw [← hLd]; exact Nat.ne_of_lt (Nat.lt_succ_of_lt hlt))]
   exact keep b o q
  have La0:=I.late (a:=L) (by rw [← hLd]; exact Nat.le_succ _)
  have Lk0:=I.late (a:=s.heap.objs.size + 3) (by omega)
  have I1 : Inv X ((f,fo) :: pins) σ H { s with heap:=M.push (seqObj "list" #[] 0),toks:=s.toks }:=I.kept keep2
  have hLn : H L = none:=I.hok.fresh (by rw [← hLd]; exact Nat.le_succ _)
  have I2 : Inv X ((f,fo) :: (L,seqObj "list" #[] e1) :: pins) σ H { s with heap:=M.push (seqObj "list" #[] 0),toks:=s.toks }:=I1.pins_of fun p hp=>by
   rcases List.mem_cons.mp hp with rfl | hp
   ·exact I1.pin _ (List.mem_append_right _ (.head _))
   ·rcases List.mem_cons.mp hp with rfl | hp
    ·exact ⟨hL2,hLn,La0.lo,La0.fs,fun v z=>by cases z⟩
    ·exact I1.pin p (List.mem_append_right _ (.tail _ hp))
  have La : zbx X pins s.heap.objs.size L:=⟨La0.s0,La0.lo,La0.ce,La0.fs,fun p hp=>La0.pn p (by
   rcases List.mem_append.mp hp with h | h
   ·exact List.mem_append_left _ h
   ·exact List.mem_append_right _ (.tail _ h)),La0.ge⟩
  have Lk : zbx X ((f,fo) :: (L,seqObj "list" #[] e1) :: pins) s.heap.objs.size (s.heap.objs.size + 3):=⟨Lk0.s0,Lk0.lo,Lk0.ce,Lk0.fs,fun p hp=>by
   rcases List.mem_append.mp hp with h | h
   ·exact Lk0.pn p (List.mem_append_left _ h)
   ·rcases List.mem_cons.mp h with rfl | h
    ·exact Lk0.pn _ (List.mem_append_right _ (.head _))
    ·rcases List.mem_cons.mp h with rfl | h
     ·show L ≠ _
      rw [← hLd]; omega
     ·exact Lk0.pn p (List.mem_append_right _ (.tail _ h)),Lk0.ge⟩
  rw [hMs]
  refine zcG (s:={ s with heap:=M.push (seqObj "list" #[] 0) }) I2 La Lk hkS (I.hok.fresh (by omega)) hz nd h60 hu turn fun H' s' zs' I' sm hn pm pw=>⟨_,rfl,?_⟩
  exact wpAny_pure ⟨_,rfl,.ref L,_,I',rfl,q L H' zs' hLn sm hn pm pw⟩
end
section
variable {X : Cx} {σ : St} {H : Hp} {s : Shared} {params : Arguments} {body : Expr} {scope : Scope} {pos lpos kpos p : Pos} {c P : Addr} {y : Str} {e : Expr} {te : TE}
theorem zch {pins : List (Addr × Obj)} {f c' : Addr} {q : Str} {pm ct : Value} {k : Nat} {v : V} {u : Value} {Q : VK} (I : Inv X pins σ H s) (hf : (f,kla_obj "<lambda>" q params body scope [] pm c' ct) ∈ pins) (hL : zba P lpos q H c') (S : zE [y] [y] scope) (hr : Room (k + 1) X.A.in1.in1)
  (hb : ∀ (pm ct : Value) (u : Value),bindArgs (kla_fn "<lambda>" q params body scope [] pm (.ref c') ct) ⟨[u],[]⟩ = pure [(y,u)]) (rv : RelV v u)
  (hbody : ∃ t,PE (Vm CX0 X.prog X.w X.K X.mg X.base [y] q scope f (.ref c') X.A.in1.in1 X.stack s H E0) body t∧t (start [y] [v]) H Q) :
  wpAny (model X.prog X.w) X.A.in1.in1 (call (.ref f) [u]) (EP X pins σ Q) (fun _ _=>False) s:=by
 have pf:=I.pin _ (List.mem_append_right X.pn hf)
 have hcd : s.heap.CodeRec (.ref c') q:=(I.hok c' _ hL.2).1
 refine wpAny_call (codeAny_mono (zdM (k:=k) (N:=[y]) (ps:=[y]) (us:=[u]) (vs:=[v]) (E:=E0) pf.1 rfl hcd S hr I.env0.in1.in1 (BindsTo.of_eq (hb pm ct u)) rfl (.cons rv .nil) hbody) fun r s' hq=>?_)
 cases r with
 | error e=>exact hq
 | ok fl =>
  cases fl with
  | ret u=>exact I.after hq
  | next=>exact False.elim hq
  | brk=>exact False.elim hq
  | cont=>exact False.elim hq
def zcd (P : Addr) (lpos : Pos) (q : Str) (te : TE) : TE:=fun σ H Q=>te σ H fun x H1=>∃ (l : Addr) (zs : List (Addr × List Int)),x = .ref l∧H1 l = some (.lst (zs.map fun z=>V.ref z.1))∧(∀ z ∈ zs,H1 z.1 = some (.lst (z.2.map V.int)))∧(zs.map (·.2)).Nodup∧zs.length≤60∧Wn P lpos q H1 ∧
 ∀ (D : Addr) (zs' : List (Addr × List Int)) (H2 : Hp),H1 D = none->H2 D = none->(∀ b u,b ≠ P->H1 b = some u->H2 b = some u)->Wn P lpos q H2->zs'.Perm zs->zs'.Pairwise (fun x y=>HT.vp x.2 y.2 = true)->Q (.ref D) (upd H2 D (.lst (zs'.map fun z=>V.ref z.1)))
theorem zaH {k : Nat} (he : PE X e te) (hg : Gl X "sorted") (hm : X.mg "sorted" = none) (hr : Room (k + 3) X.A) (hdef : defaultsOf params X.env = ([],[])) (hcl : closureFor scope X.env = pure []) (hcode : X.env.code = .ref c) (hK : codeHdIn X.K c P = true) (hB : X.base.BuiltinsAt X.mg P) (hgP : mainGlobals ≠ P)
  (S : zE [y] [y] scope) (hb : ∀ (pm cd ct : Value) (u : Value),bindArgs (kla_fn "<lambda>" (X.env.qual ++ "<lambda>") params body scope [] pm cd ct) ⟨[u],[]⟩ = pure [(y,u)])
  (hbody : ∀ (f c' : Addr) (s : Shared) (H : Hp) (z : Addr × List Int),H z.1 = some (.lst (z.2.map V.int))->∃ t,PE (Vm CX0 X.prog X.w X.K X.mg X.base [y] (X.env.qual ++ "<lambda>") scope f (.ref c') X.A.in1.in1 X.stack s H E0) body t ∧
   t (start [y] [.ref z.1]) H fun v H2=>∃ p,v = .ref p∧H p = none∧H2 = upd H p (.tup [.int z.2.length,.ref z.1]))
  (hs1 : starEach [e] X.env = [(false,eval e X.env)]:=by rfl) :
  PE X (.Call (.Name "sorted" p) [e] [⟨some "key",.Lambda params body scope lpos,kpos⟩] pos) (zcd P lpos (X.env.qual ++ "<lambda>") te):=by
 intro pins s σ H Q I h
 refine wpAny_Call_Name_kw (Zj I hg hm boot_sorted ?_ (by decide) (by decide))
 have ha : PA X [e] (zd0 te zeR):=zc he zg hs1
 refine callWith_kw (thn (ha pos pins s σ H (fun vs H1=>match vs with
  | [x]=>∃ (l : Addr) (zs : List (Addr × List Int)),x = .ref l∧H1 l = some (.lst (zs.map fun z=>V.ref z.1))∧(∀ z ∈ zs,H1 z.1 = some (.lst (z.2.map V.int)))∧(zs.map (·.2)).Nodup∧zs.length≤60∧Wn P lpos (X.env.qual ++ "<lambda>") H1 ∧
   ∀ (D : Addr) (zs' : List (Addr × List Int)) (H2 : Hp),H1 D = none->H2 D = none->(∀ b u,b ≠ P->H1 b = some u->H2 b = some u)->Wn P lpos (X.env.qual ++ "<lambda>") H2->zs'.Perm zs->zs'.Pairwise (fun x y=>HT.vp x.2 y.2 = true)->Q (.ref D) (upd H2 D (.lst (zs'.map fun z=>V.ref z.1)))
  | _=>False) I h) fun us s1 ⟨vs,H1,I1,r1,q1⟩=>?_) (by rw [hs1]; rfl) (by rw [hs1]; rfl)
 match vs,q1 with
 | [x],q1 =>
  obtain ⟨l,zs,rfl,hl,hz,nd,h60,hT,q⟩:=q1
  obtain ⟨u,rfl,rx⟩:=vals1 r1
  cases rx
  show wpAny _ _ (evalAll ((do let v ← eval (.Lambda params body scope lpos) X.env; standAt pos; pure v) :: [])) _ _ s1
  refine wpAny_evalAll_cons (wpAny_bind (zcn I1 hdef hcl hcode hK hB hgP hT fun f c' H2 s2 pm ct I2 hL hfo hfn hsz up=>wpAny_bind (wpAny_standAt (wpAny_pure ?_))))
  refine wpAny_evalAll_nil ?_
  have Lf:=I1.late hsz
  have I3 : Inv X ((f,kla_obj "<lambda>" (X.env.qual ++ "<lambda>") params body scope [] pm c' ct) :: pins) σ H2 s2:=I2.pins_of fun p hp=>by
   rcases List.mem_cons.mp hp with rfl | hp
   ·exact ⟨hfo,hfn,Lf.lo,Lf.fs,fun v z=>by cases z⟩
   ·exact I2.pin p (List.mem_append_right _ hp)
  have hPl : ∀ b xs,H1 b = some (.lst xs)->b ≠ P:=fun b xs e z=>by
   rw [z] at e
   rcases hT with t | ⟨c2,t,_⟩
   ·rw [t] at e; cases e
   ·rw [t] at e; cases e
  have hr2 : Room (k + 1) X.A.in1.in1:=(hr.in1).in1
  show wpAny _ _ (call (.builtin "sorted") [.ref l] [(Str.ofString "key",.ref f)]) _ _ s2
  refine J3 I3 (up _ _ (hPl _ _ hl) hl) (fun z hzm=>up _ _ (hPl _ _ (hz z hzm)) (hz z hzm)) nd h60 (by have:=hr2.units; omega) (fun H' s' pins' z I' hf sm hzm=>?_) fun D H' zs' hD sm hn pm pw=>?_
  ·have hL' : zba P lpos (X.env.qual ++ "<lambda>") H' c':=⟨sm _ _ hL.1,sm _ _ hL.2⟩
   exact zch (v:=.ref z.1) I' hf hL' S hr2 (fun pm ct u=>hb pm (.ref c') ct u) rfl (hbody f c' s' H' z (sm _ _ (up _ _ (hPl _ _ (hz z hzm)) (hz z hzm))))
  ·refine q D zs' H' ?_ hn (fun b u hb e=>sm _ _ (up b u hb e)) (.inr ⟨c',sm _ _ hL.1,sm _ _ hL.2⟩) pm pw
   cases e : H1 D with
   | none=>rfl
   | some u =>
    by_cases hDP : D = P
    ·rw [hDP,hL.1] at hD; cases hD
    ·rw [up D u hDP e] at hD; cases hD
end
theorem zbQ {P : Program} {w : World} {K : Frag} {mg mb : Str->Option Value} {CX : CXT} {k : Nat} {fa a c T : Addr} {fd : FuncData} {x : Str} {sp : Sp} {s₁ : Shared} {vs : List Value} {ns : List Int}
  (KX : K.In s₁.heap) (hns : s₁.heap.Ns mainGlobals mg) (hb : s₁.heap.Ns builtinsNs mb) (hbb : ∀ x : Str,x ≠ "__name__"->mb x = bootBuiltins x) (hlim : s₁.heap.NoLimit) (hg : s₁.gens = #[])
  (hBM : ∃ bm ob,mg "__builtins__" = some (.ref bm)∧bm ≠ builtinsNs∧s₁.heap.get? bm = some ob∧ob.cls = .type "module"∧ob.dict = some builtinsNs∧ob.data = .plain)
  (hT : s₁.heap.get? T = some (tabObj #[])) (hKT : K.lookup T = none) (hcT : codeHdIn K c T = true)
  (ha : s₁.heap.get? a = some { cls:=.type "list",data:=.seq vs.toArray }) (hi : IntsAre vs ns) (hl : ns.length≤sizeLine) (hr : Room k callerA)
  (F : ∀ base : Heap,K.In base->base.Ns mainGlobals mg->base.BuiltinsAt mg T->FnOk P w K mg base CX k fa fd [x] sp) (hbind : ∀ (s : Shared) (u : Value),BindsTo s fd ⟨[u],[]⟩ [(x,u)])
  (hsp : ∀ H : Hp,H T = some (.tbl #[])->SqL K H a (ns.map V.int)->sp [.ref a] H (fun v _=>v = .bl true) fun _ _ _=>False)
  (hCX : ∀ H e s',CX [] H s₁ (fun _ _ _=>False) e s'->False) :
  codeAny (model P w) callerA (.call (.ref fa) ⟨[.ref a],[]⟩) (fun r s'=>r = .ok (.ret (.bool true))∧OldK s₁.heap s'.heap∧s'.os = s₁.os∧AllBare s'.gens) s₁:=by
 have rv:=QG hi
 have lenV:=hi.length
 have tabT : s₁.heap.TableAt c T #[]:=(codeHd_of_K KX hcT).tab hT
 have core : ∀ H : Hp,H T = some (.tbl #[])->SqL K H a (ns.map V.int)->HOk P w H s₁.heap->(∀ b,H b ≠ none->b = a∨b = T)->(∀ b,b ≠ T->H b = none∨∃ o xs,H b = some (.frz o (.lst xs)))->(∀ b,H b ≠ none->K.lookup b = none) ->
   codeAny (model P w) callerA (.call (.ref fa) ⟨[.ref a],[]⟩) (fun r s'=>r = .ok (.ret (.bool true))∧OldK s₁.heap s'.heap∧s'.os = s₁.os∧AllBare s'.gens) s₁:=by
  intro H hHT hS hok hA hO hK
  have base_of : ∀ {b : Addr} {o : Obj},s₁.heap.get? b = some o->H b = none->(UL s₁.heap H).get? b = some o:=fun e n=>zcw e n
  have noA : ∀ {b : Addr} {o : Obj},s₁.heap.get? b = some o->(∀ xs n,o.data ≠ .seq xs n)->(∀ ps,o.data ≠ .fields ps)->H b = none:=fun {b o} e d1 d2=>by
   cases q : H b with
   | none=>rfl
   | some u =>
    rcases hA b (by rw [q]; simp) with e' | e'
    ·subst e'
     rw [ha] at e; cases e
     exact absurd rfl (d1 _ _)
    ·subst e'
     rw [hT] at e; cases e
     exact absurd rfl (d2 _)
  have nsK : ∀ {b : Addr} {m : Str->Option Value},s₁.heap.Ns b m->(UL s₁.heap H).Ns b m:=fun {b m} ⟨o,es,ep,e,d,r⟩=>⟨o,es,ep,base_of e (noA e (fun xs n z=>by rw [d] at z; cases z) (fun ps z=>by rw [d] at z; cases z)),d,r⟩
  have hKb : K.In (UL s₁.heap H):=fun b o e=>base_of (KX b o e) (by
   cases q : H b with
   | none=>rfl
   | some u=>rw [hK b (by rw [q]; simp)] at e; cases e)
  have hM : Mod K mg (UL s₁.heap H):=⟨hKb,nsK hns,⟨mb,nsK hb,hbb⟩,let ⟨mc,h1,h2⟩:=hlim; ⟨mc,nsK h1,h2⟩⟩
  have hBA : (UL s₁.heap H).BuiltinsAt mg T:=by
   obtain ⟨bm,ob,b1,b2,b3,b4,b5,b6⟩:=hBM
   refine ⟨bm,ob,b1,b2,fun z=>?_,fun z=>?_,base_of b3 (noA b3 (fun xs n z=>by rw [b6] at z; cases z) (fun ps z=>by rw [b6] at z; cases z)),b4,b5,b6⟩
   ·obtain ⟨o,es,ep,e,hd,_⟩:=hns
    rw [z,e] at b3; cases b3
    rw [hd] at b6; cases b6
   ·rw [z,hT] at b3; cases b3; cases b4
  have e0 : Env0 P w K mg (UL s₁.heap H) callerA [] s₁ H:=⟨rfl,hM,fun b o e=>zdA e,Nat.le_of_eq (zbN _ _),trivial,fun b hb=>absurd (show b ∈ ([] : List Addr) from hb) (by simp),hok,.of_eq hg⟩
  refine codeAny_mono ((F _ hKb (nsK hns) hBA).run callerA [] s₁ H ⟨[.ref a],[]⟩ [.ref a] [.ref a] _ _ hr e0 (hbind s₁ (.ref a)) (.cons rfl .nil) (hsp H hHT hS)) fun r s' h=>?_
  cases r with
  | error e=>exact (hCX H e s' h).elim
  | ok fl =>
   cases fl with
   | next=>exact False.elim h
   | brk=>exact False.elim h
   | cont=>exact False.elim h
   | ret u =>
    obtain ⟨v,H',os,bare,un,hok',r',q⟩:=h
    have q' : v = .bl true:=q
    subst q'
    obtain rfl : u = Value.bool true:=r'
    have oth : ∀ b o,b ≠ T->s₁.heap.get? b = some o->s'.heap.get? b = some o:=fun b o hbT e=>by
     cases q : H b with
     | none=>exact un.keep b o e q (by intro z; exact absurd (show b ∈ ([] : List Addr) from z) (by simp)) (by simp)
     | some u =>
      rcases hO b hbT with z | ⟨ob,xs,z⟩
      ·rw [q] at z; cases z
      ·have z2:=un.frzs b ob _ z
       obtain ⟨e1,_⟩:=hok b _ z
       obtain ⟨e2,_⟩:=hok' b _ z2
       rw [e] at e1; cases e1
       exact e2
    obtain ⟨more,hm⟩:=un.tbls T _ hHT
    have hTm : s'.heap.get? T = some { cls:=.none,data:=.fields (#[] ++ more) }:=hok' T _ hm
    refine ⟨rfl,⟨fun b o e=>?_,fun b o e=>?_⟩,os,bare⟩
    ·by_cases hbT : b = T
     ·subst hbT
      rw [hT] at e; cases e
      exact .inr (.inl ⟨tabT.isCodeTable,rfl,#[],more,rfl,hTm⟩)
     ·exact .inl (oth b o hbT e)
    ·by_cases hbT : b = T
     ·subst hbT; exact ⟨_,hTm⟩
     ·exact ⟨o,oth b o hbT e⟩
 have hTa : T ≠ a:=fun z=>by rw [z,ha] at hT; cases hT
 cases hk : K.lookup a with
 | some o =>
  have e:=KX a o hk
  rw [ha] at e
  cases e
  refine core (fun b=>if b = T then some (.tbl #[]) else none) (if_pos rfl) (.inr ⟨_,vs.toArray,_,hk,rfl,rfl,rfl,by rw [List.size_toArray,lenV]; exact hl,by simpa using rv⟩) (fun b u z=>?_) (fun b z=>?_) (fun b hb=>.inl (if_neg hb)) fun b z=>?_
  ·by_cases hb : b = T
   ·have z':=(if_pos hb).symm.trans z
    cases z'
    subst hb
    exact hT
   ·have z':=(if_neg hb).symm.trans z
    cases z'
  ·by_cases hb : b = T
   ·exact .inr hb
   ·exact absurd (if_neg hb) z
  ·by_cases hb : b = T
   ·rw [hb]; exact hKT
   ·exact absurd (if_neg hb) z
 | none =>
  refine core (fun b=>if b = a then some (.frz { cls:=.type "list",data:=.seq vs.toArray } (.lst (ns.map V.int))) else if b = T then some (.tbl #[]) else none) (by rw [if_neg hTa,if_pos rfl]) (.inl (.inr ⟨{ cls:=.type "list",data:=.seq vs.toArray },if_pos rfl⟩)) (fun b u z=>?_) (fun b z=>?_) (fun b hb=>?_) fun b z=>?_
  ·by_cases hb : b = a
   ·have z':=(if_pos hb).symm.trans z
    cases z'
    subst hb
    exact ⟨ha,by rw [List.length_map]; exact hl,vs,_,rv,ha⟩
   ·have z':=(if_neg hb).symm.trans z
    by_cases hb2 : b = T
    ·have z2:=(if_pos hb2).symm.trans z'
     cases z2
     subst hb2
     exact hT
    ·have z2:=(if_neg hb2).symm.trans z'
     cases z2
  ·by_cases hb : b = a
   ·exact .inl hb
   ·by_cases hb2 : b = T
    ·exact .inr hb2
    ·exact absurd (by rw [if_neg hb,if_neg hb2]) z
  ·by_cases hba : b = a
   ·exact .inr ⟨_,_,if_pos hba⟩
   ·exact .inl (by rw [if_neg hba,if_neg hb])
  ·by_cases hb : b = a
   ·rw [hb]; exact hk
   ·by_cases hb2 : b = T
    ·rw [hb2]; exact hKT
    ·exact absurd (by rw [if_neg hb,if_neg hb2]) z
theorem zeF {l : PySem.W.OpenLaw} {n k : Nat} {q : Program} {loose : List Str} {XP : (Str->Option Value)->Heap->Prop} {YP : World->Heap->Prop} {d : DefRec} {K : Params->PySem.W.Frag} {sp : World->Sp} {x : Str} {c T : Addr}
  (hn : l.most = some n) (hn2 : n≤sizeLine) (hdf : d.params.defaults = []) (hr : Room k callerA)
  (hY : ∀ (w : World) (h : Heap),YP w h->(K w.params).In h) (hYT : ∀ (w : World) (h : Heap),YP w h->h.get? T = some (tabObj #[])) (hKT : ∀ w : World,(K w.params).lookup T = none) (hcT : ∀ w : World,codeHdIn (K w.params) c T = true)
  (F : ∀ (w : World) (mg : Str->Option Value) (fa : Addr) (h : Heap),(K w.params).In h->h.Ns mainGlobals mg->mg d.name = some (.ref fa) ->
   ∃ fd : FuncData,(∀ (s : Shared) (u : Value),BindsTo s fd ⟨[u],[]⟩ [(x,u)]) ∧
    ∀ base : Heap,(K w.params).In base->base.Ns mainGlobals mg->base.BuiltinsAt mg T->FnOk l.prog w (K w.params) mg base CX0 k fa fd [x] (sp w))
  (hsp : ∀ (w : World) (H : Hp) (a : Addr) (ns : List Int),ns.length≤n->H T = some (.tbl #[])->SqL (K w.params) H a (ns.map V.int)->sp w [.ref a] H (fun v _=>v = .bl true) fun _ _ _=>False) :
  PySem.W.WalkO q loose XP YP l.row.toRowW d [] (fun f vs=>PySem.call f vs):=by
 refine Att.JG hn hdf fun w s₀ s₁ mg mb fa o pm cd doc a vs ns G Y ho hd hcd hmg hobj hints hlen hg=>?_
 have KX:=hY w _ Y
 obtain ⟨fd,hb,hF⟩:=F w mg fa _ KX G.T.g hmg
 exact zbQ KX G.T.g G.T.b G.T.builtins G.T.nolimit hg G.T.bmain (hYT w _ Y) (hKT w) (hcT w) hobj hints (Nat.le_trans hlen hn2) hr hF hb (fun H hO hS=>hsp w H a ns hlen hO hS) fun H e s' h=>h
end L2
namespace Lw
def xN (b n : Nat) : List Int:=if h : 2≤b∧b≤n then xN b (n / b) ++ [((n % b : Nat) : Int)] else [(n : Int)]
termination_by n
decreasing_by exact Nat.div_lt_self (by omega) (by omega)
theorem qD {b n : Nat} (h : n < b) : xN b n = [(n : Int)]:=by
 rw [xN,dif_neg (by omega)]
theorem Jt {b n : Nat} (h2 : 2≤b) (h : b≤n) : xN b n = xN b (n / b) ++ [((n % b : Nat) : Int)]:=by
 rw [xN,dif_pos ⟨h2,h⟩]
def ahead (b r : Nat) : List Int:=if r = 0 then [] else xN b r
theorem Vy {b : Nat} (h2 : 2≤b) : ∀ (m n : Nat),n < 2 ^ m->(xN b n).length≤m + 1
 | 0,n,h=>by rw [qD (by simp at h; omega)]; simp
 | m + 1,n,h=>by
  by_cases hn : n < b
  ·rw [qD hn]; simp
  ·rw [Jt h2 (by omega),List.length_append,List.length_singleton]
   have h3 : n / b≤n / 2:=Nat.div_le_div_left h2 (by omega)
   have h4 : n / 2 < 2 ^ m:=by rw [Nat.pow_succ] at h; omega
   have:=Vy h2 m (n / b) (by omega)
   omega
theorem zdo {b n : Nat} : xN b n ≠ []:=by
 rw [xN]
 split
 ·simp
 ·simp
def tops (b : Nat) : Nat->Nat->List Int
 | 0,n=>[((n / b ^ 0 : Nat) : Int)]
 | k + 1,n=>((n / b ^ (k + 1) : Nat) : Int) :: tops b k (n % b ^ (k + 1))
theorem Qx {b : Nat} : ∀ (k n : Nat),tops b (k + 1) n = tops b k (n / b) ++ [((n % b : Nat) : Int)]
 | 0,n=>by simp [tops]
 | k + 1,n=>by
  rw [tops,Qx k (n % b ^ (k + 2)),tops,List.cons_append]
  have e : b ^ (k + 1 + 1) = b * b ^ (k + 1):=by rw [Nat.pow_succ,Nat.mul_comm]
  have e1 : n % b ^ (k + 1 + 1) / b = n / b % b ^ (k + 1):=by rw [e,Nat.mod_mul_right_div_self]
  have e2 : n % b ^ (k + 1 + 1) % b = n % b:=by rw [e,Nat.mod_mul_right_mod]
  have e3 : n / b ^ (k + 1 + 1) = n / b / b ^ (k + 1):=by rw [e,Nat.div_div_eq_div_mul]
  rw [e1,e2,e3]
theorem j5 {b : Nat} (h2 : 2≤b) : ∀ (k n : Nat),n < b ^ (k + 1)->(k = 0∨b ^ k≤n)->tops b k n = xN b n
 | 0,n,h,_=>by
  rw [qD (by simpa using h)]; simp [tops]
 | k + 1,n,h,hk=>by
  have hge : b ^ (k + 1)≤n:=by
   rcases hk with z | z
   ·omega
   ·exact z
  have hb : b≤n:=Nat.le_trans (by rw [Nat.pow_succ]; exact Nat.le_mul_of_pos_left b (Nat.pow_pos (by omega))) hge
  rw [Qx,Jt h2 hb]
  have h3 : n / b < b ^ (k + 1):=by
   rw [Nat.div_lt_iff_lt_mul (by omega),← Nat.pow_succ]; exact h
  have h4 : b ^ k≤n / b:=by
   rw [Nat.le_div_iff_mul_le (by omega),← Nat.pow_succ]; exact hge
  rw [j5 h2 k (n / b) h3 (.inr h4)]
theorem We {b : Nat} : ∀ (k n : Nat),(tops b k n).length = k + 1
 | 0,n=>rfl
 | k + 1,n=>by rw [tops,List.length_cons,We k]
structure zft (b : Nat) (ns : List Int) : Prop where
 ne : ns ≠ []
 len : ns.length≤200
 fig : ∀ f ∈ ns,0≤f∧f < b
 first : ns.head? ≠ some 0∨ns.length = 1
def Zf (st fs : List Int) : Bool:=(List.range fs.length).any fun k=>decide ((fs.drop k).take st.length = st)
theorem vB {st fs : List Int} (h : st ≠ []) : Zf st fs = true ↔ ∃ k,(fs.drop k).take st.length = st:=by
 unfold Zf
 simp only [List.any_eq_true,List.mem_range,decide_eq_true_eq]
 constructor
 ·rintro ⟨k,_,e⟩; exact ⟨k,e⟩
 ·rintro ⟨k,e⟩
  refine ⟨k,?_,e⟩
  have hl:=congrArg List.length e
  rw [List.length_take,List.length_drop] at hl
  have : 0 < st.length:=List.length_pos_iff.mpr h
  omega
theorem zaP {st fs : List Int} (h : st ≠ []) : Zf st fs = (List.range ((fs.length : Int) - st.length + 1).toNat).any fun k=>decide ((fs.drop k).take st.length = st):=by
 rw [Bool.eq_iff_iff,vB h]
 simp only [List.any_eq_true,List.mem_range,decide_eq_true_eq]
 constructor
 ·rintro ⟨k,e⟩
  refine ⟨k,?_,e⟩
  have hl:=congrArg List.length e
  rw [List.length_take,List.length_drop] at hl
  have : 0 < st.length:=List.length_pos_iff.mpr h
  omega
 ·rintro ⟨k,_,e⟩; exact ⟨k,e⟩
def lacks (ls : List (List Int)) (fs : List Int) : Bool:=!ls.any fun st=>Zf st fs
theorem zcc {st fs gs : List Int} (h : st ≠ []) (q : Zf st fs = true) : Zf st (fs ++ gs) = true:=by
 rw [vB h] at q ⊢
 obtain ⟨k,e⟩:=q
 refine ⟨k,?_⟩
 have hl:=congrArg List.length e
 rw [List.length_take,List.length_drop] at hl
 have hp : 0 < st.length:=List.length_pos_iff.mpr h
 rw [List.drop_append_of_le_length (by omega),List.take_append_of_le_length (by rw [List.length_drop]; omega)]
 exact e
theorem WX {ls : List (List Int)} {fs gs : List Int} (ne : ∀ l ∈ ls,l ≠ []) (h : lacks ls (fs ++ gs) = true) : lacks ls fs = true:=by
 unfold lacks at *
 rw [Bool.not_eq_true',List.any_eq_false] at h ⊢
 intro l hl q
 exact h l hl (zcc (ne l hl) q)
theorem zaO {ls : List (List Int)} {st : List Int} (h : st ∈ ls) (ne : st ≠ []) (pre : List Int) : lacks ls (pre ++ st) = false:=by
 unfold lacks
 rw [Bool.not_eq_false',List.any_eq_true]
 refine ⟨st,h,(vB ne).mpr ⟨pre.length,?_⟩⟩
 rw [List.drop_left,List.take_of_length_le (Nat.le_refl _)]
def qQ (ls : List (List Int)) (fs : List Int) : Bool:=ls.any fun st=>decide (st.take fs.length = fs)
def zH (ls : List (List Int)) : List Int->List Int
 | []=>[]
 | x :: fs=>if qQ ls (x :: fs) then x :: fs else zH ls fs
theorem Zm {ls : List (List Int)} : ∀ (i : Nat) (fs : List Int),i≤fs.length->(∀ k,k < i->qQ ls (fs.drop k) = false)->zH ls fs = zH ls (fs.drop i)
 | 0,_,_,_=>rfl
 | i + 1,[],h,_=>by simp at h
 | i + 1,x :: fs,h,q=>by
  have h0:=q 0 (by omega)
  rw [List.drop_zero] at h0
  rw [zH,if_neg (by rw [h0]; decide),List.drop_succ_cons]
  exact Zm i fs (by simpa using h) fun k hk=>by have:=q (k + 1) (by omega); rwa [List.drop_succ_cons] at this
theorem Uk {ls : List (List Int)} {fs : List Int} (h : qQ ls fs = true) : zH ls fs = fs:=by
 cases fs with
 | nil=>rfl
 | cons x fs=>rw [zH,if_pos h]
theorem J0 {ls : List (List Int)} {fs : List Int} {i : Nat} (hi : i≤fs.length) (h : ∀ k,k < i->qQ ls (fs.drop k) = false) (q : qQ ls (fs.drop i) = true) : zH ls fs = fs.drop i:=by
 rw [Zm i fs hi h,Uk q]
theorem Ue {ls : List (List Int)} {fs : List Int} (h : ∀ k,k < fs.length->qQ ls (fs.drop k) = false) : zH ls fs = []:=by
 rw [Zm fs.length fs (Nat.le_refl _) h,List.drop_length]; rfl
def Z7 (ls : List (List Int)) (x : List Int) : Prop:=x = []∨∃ st ∈ ls,∃ k,1≤k∧k < st.length∧x = st.take k∧lacks ls x = true
structure StandsL (ls : List (List Int)) (xs : List (List Int)) : Prop where
 mem : ∀ x,x ∈ xs ↔ Z7 ls x
 up : xs.Pairwise fun x y=>HT.vp x y = true
theorem zab {ls : List (List Int)} (h : ∀ st ∈ ls,st.length≤4) {x : List Int} (q : Z7 ls x) : x.length≤3:=by
 rcases q with rfl | ⟨st,hst,k,h1,h2,rfl,_⟩
 ·decide
 ·have:=h st hst
  rw [List.length_take]; omega
theorem zbC {ls : List (List Int)} {y : List Int} {x : Int} (h : qQ ls (y ++ [x]) = true) : qQ ls y = true:=by
 unfold qQ at *
 rw [List.any_eq_true] at h ⊢
 obtain ⟨st,hst,q⟩:=h
 refine ⟨st,hst,decide_eq_true ?_⟩
 have q:=of_decide_eq_true q
 have e:=congrArg (List.take y.length) q
 rw [List.take_left,List.take_take,List.length_append] at e
 rw [Nat.min_eq_left (by omega)] at e
 exact e
theorem ZF {ls : List (List Int)} : ∀ fs : List Int,∃ j,j≤fs.length∧zH ls fs = fs.drop j∧(∀ k,k < j->qQ ls (fs.drop k) = false)∧(j < fs.length->qQ ls (fs.drop j) = true)
 | []=>⟨0,Nat.le_refl _,rfl,fun k hk=>by omega,fun h=>by simp at h⟩
 | x :: fs=>by
  by_cases h : qQ ls (x :: fs) = true
  ·exact ⟨0,Nat.zero_le _,by rw [zH,if_pos h]; rfl,fun k hk=>by omega,fun _=>h⟩
  ·obtain ⟨j,h1,h2,h3,h4⟩:=ZF (ls:=ls) fs
   refine ⟨j + 1,by rw [List.length_cons]; omega,by rw [zH,if_neg h,h2,List.drop_succ_cons],fun k hk=>?_,fun hj=>by rw [List.drop_succ_cons]; exact h4 (by rw [List.length_cons] at hj; omega)⟩
   cases k with
   | zero=>rw [List.drop_zero]; simpa using h
   | succ k=>rw [List.drop_succ_cons]; exact h3 k (by omega)
theorem qL {ls : List (List Int)} (fs : List Int) (x : Int) : zH ls (zH ls fs ++ [x]) = zH ls (fs ++ [x]):=by
 obtain ⟨j,h1,h2,h3,_⟩:=ZF (ls:=ls) fs
 rw [h2,Zm j (fs ++ [x]) (by rw [List.length_append]; omega) (fun k hk=>?_),List.drop_append_of_le_length h1]
 rw [List.drop_append_of_le_length (by omega)]
 cases e : qQ ls (fs.drop k ++ [x]) with
 | false=>rfl
 | true=>rw [← h3 k hk,zbC e]
theorem zbK {st fs : List Int} (ne : st ≠ []) {j : Nat} (h : Zf st (fs.drop j) = true) : Zf st fs = true:=by
 rw [vB ne] at h ⊢
 obtain ⟨k,e⟩:=h
 exact ⟨j + k,by rw [← List.drop_drop]; exact e⟩
theorem Ui {ls : List (List Int)} (ne : ∀ l ∈ ls,l ≠ []) {fs : List Int} (j : Nat) (h : lacks ls fs = true) : lacks ls (fs.drop j) = true:=by
 unfold lacks at *
 rw [Bool.not_eq_true',List.any_eq_false] at h ⊢
 intro st hst q
 exact h st hst (zbK (ne st hst) q)
theorem jh {ls : List (List Int)} (ne : ∀ l ∈ ls,l ≠ []) {fs : List Int} (x : Int) (h : lacks ls fs = true) : lacks ls (zH ls fs ++ [x]) = lacks ls (fs ++ [x]):=by
 obtain ⟨j,h1,h2,h3,_⟩:=ZF (ls:=ls) fs
 rw [h2,← List.drop_append_of_le_length h1]
 rw [Bool.eq_iff_iff]
 constructor
 ·intro q
  unfold lacks at *
  rw [Bool.not_eq_true',List.any_eq_false] at h q ⊢
  intro st hst hs
  rw [vB (ne st hst)] at hs
  obtain ⟨k,e⟩:=hs
  have hp : 0 < st.length:=List.length_pos_iff.mpr (ne st hst)
  have hl:=congrArg List.length e
  rw [List.length_take,List.length_drop,List.length_append,List.length_singleton] at hl
  by_cases hin : k + st.length≤fs.length
  ·refine h st hst ((vB (ne st hst)).mpr ⟨k,?_⟩)
   rw [List.drop_append_of_le_length (by omega),List.take_append_of_le_length (by rw [List.length_drop]; omega)] at e
   exact e
  ·have hk : k + st.length = fs.length + 1:=by omega
   rw [List.take_of_length_le (by rw [List.length_drop,List.length_append,List.length_singleton]; omega)] at e
   by_cases hkj : j≤k
   ·refine q st hst ((vB (ne st hst)).mpr ⟨k - j,?_⟩)
    rw [List.drop_drop,show j + (k - j) = k by omega,e,List.take_of_length_le (Nat.le_refl _)]
   ·have h3k:=h3 k (by omega)
    rw [List.drop_append_of_le_length (by omega)] at e
    unfold qQ at h3k
    rw [List.any_eq_false] at h3k
    refine h3k st hst (decide_eq_true ?_)
    rw [← e,List.take_left]
 ·intro q
  exact Ui ne j q
theorem Zr {ls : List (List Int)} (ne : ∀ l ∈ ls,l ≠ []) {fs : List Int} (h : lacks ls fs = true) : Z7 ls (zH ls fs):=by
 obtain ⟨j,h1,h2,_,h4⟩:=ZF (ls:=ls) fs
 rw [h2]
 by_cases hj : j < fs.length
 ·have q:=h4 hj
  unfold qQ at q
  rw [List.any_eq_true] at q
  obtain ⟨st,hst,q⟩:=q
  have q:=of_decide_eq_true q
  have hl:=congrArg List.length q
  rw [List.length_take] at hl
  have hlen : (fs.drop j).length = fs.length - j:=List.length_drop ..
  have hlk:=Ui ne j h
  refine .inr ⟨st,hst,(fs.drop j).length,by omega,?_,q.symm,hlk⟩
  by_cases hlt : (fs.drop j).length < st.length
  ·exact hlt
  ·exfalso
   have hle : st.length≤(fs.drop j).length:=by omega
   rw [List.take_of_length_le hle] at q
   unfold lacks at hlk
   rw [Bool.not_eq_true',List.any_eq_false] at hlk
   refine hlk st hst ((vB (ne st hst)).mpr ⟨0,?_⟩)
   rw [List.drop_zero,← q,List.take_of_length_le (Nat.le_refl _)]
 ·left
  exact List.drop_of_length_le (by omega)
theorem StandsL.first {ls xs : List (List Int)} (a : StandsL ls xs) : ∃ r,xs = [] :: r:=by
 have h0 : ([] : List Int) ∈ xs:=(a.mem []).mpr (.inl rfl)
 cases xs with
 | nil=>cases h0
 | cons x r =>
  rcases List.mem_cons.mp h0 with e | e
  ·exact ⟨r,by rw [e]⟩
  ·have:=(List.pairwise_cons.mp a.up).1 [] e
   unfold HT.vp at this
   by_cases hl : x.length = ([] : List Int).length
   ·have : x = []:=List.eq_nil_of_length_eq_zero hl
    exact ⟨r,by rw [this]⟩
   ·rw [if_neg hl] at this
    have:=of_decide_eq_true this
    simp at this
def cnt (ls : List (List Int)) (b : Nat) : Nat->List Int->Nat
 | 0,_=>1
 | t + 1,x=>((List.range b).map fun (c : Nat)=>if lacks ls (x ++ [(c : Int)]) = true then cnt ls b t (zH ls (x ++ [(c : Int)])) else 0).sum
def wL (b : Nat) : Nat->Nat->List Int
 | 0,_=>[]
 | t + 1,r=>((r / b ^ t : Nat) : Int) :: wL b t (r % b ^ t)
def many (p : Nat->Bool) : Nat->Nat
 | 0=>0
 | n + 1=>many p n + (if p n = true then 1 else 0)
theorem uU {p q : Nat->Bool} : ∀ {N : Nat},(∀ n,n < N->p n = q n)->many p N = many q N
 | 0,_=>rfl
 | N + 1,h=>by rw [many,many,uU (N:=N) fun n hn=>h n (by omega),h N (by omega)]
theorem YH {p : Nat->Bool} : ∀ {N : Nat},(∀ n,n < N->p n = false)->many p N = 0
 | 0,_=>rfl
 | N + 1,h=>by rw [many,YH (N:=N) fun n hn=>h n (by omega),h N (by omega)]; rfl
theorem Wa (p : Nat->Bool) (A : Nat) : ∀ B : Nat,many p (A + B) = many p A + many (fun n=>p (A + n)) B
 | 0=>rfl
 | B + 1=>by rw [← Nat.add_assoc,many,many,Wa p A B,Nat.add_assoc]
theorem Us (p : Nat->Bool) (B : Nat) : ∀ A : Nat,many p (A * B) = ((List.range A).map fun c=>many (fun r=>p (c * B + r)) B).sum
 | 0=>by simp [many]
 | A + 1=>by
  rw [Nat.succ_mul,Wa,Us p B A,List.range_succ,List.map_append,List.sum_append]
  simp
theorem tZ {b t c r : Nat} (hr : r < b ^ t) : wL b (t + 1) (c * b ^ t + r) = (c : Int) :: wL b t r:=by
 have h0 : 0 < b ^ t:=by omega
 rw [wL,Nat.add_comm,Nat.add_mul_div_right _ _ h0,Nat.div_eq_of_lt hr,Nat.zero_add,Nat.add_mul_mod_self_right,Nat.mod_eq_of_lt hr]
theorem tV {f g : Nat->Nat} : ∀ {N : Nat},(∀ c,c < N->f c = g c)->((List.range N).map f).sum = ((List.range N).map g).sum:=by
 intro N h
 congr 1
 apply List.map_congr_left
 intro c hc
 exact h c (List.mem_range.mp hc)
theorem Vz {ls : List (List Int)} (ne : ∀ l ∈ ls,l ≠ []) {b t : Nat} (ih : ∀ x,lacks ls x = true->many (fun r=>lacks ls (x ++ wL b t r)) (b ^ t) = cnt ls b t (zH ls x)) {x : List Int} (c : Nat) :
  many (fun r=>lacks ls (x ++ wL b (t + 1) (c * b ^ t + r))) (b ^ t) = if lacks ls (x ++ [(c : Int)]) = true then cnt ls b t (zH ls (x ++ [(c : Int)])) else 0:=by
 have e1 : many (fun r=>lacks ls (x ++ wL b (t + 1) (c * b ^ t + r))) (b ^ t) = many (fun r=>lacks ls (x ++ [(c : Int)] ++ wL b t r)) (b ^ t):=by
  apply uU
  intro r hr
  show lacks ls _ = lacks ls _
  rw [tZ hr,List.append_assoc]
  rfl
 rw [e1]
 by_cases h : lacks ls (x ++ [(c : Int)]) = true
 ·rw [if_pos h,ih _ h]
 ·rw [if_neg h]
  apply YH
  intro r _
  cases hc : lacks ls (x ++ [(c : Int)] ++ wL b t r) with
  | false=>rfl
  | true=>exact absurd (WX ne hc) h
theorem Vs {ls : List (List Int)} (ne : ∀ l ∈ ls,l ≠ []) {b : Nat} : ∀ (t : Nat) (x : List Int),lacks ls x = true->many (fun r=>lacks ls (x ++ wL b t r)) (b ^ t) = cnt ls b t (zH ls x)
 | 0,x,h=>by
  rw [Nat.pow_zero,many,many,cnt,wL,List.append_nil,if_pos h]
 | t + 1,x,h=>by
  rw [Nat.pow_succ',Us,cnt]
  apply tV
  intro c _
  rw [Vz ne (Vs ne t),jh ne _ h,qL]
def gd (ls : List (List Int)) (b n : Nat) : Bool:=lacks ls (xN b n)
theorem Uj {b : Nat} : ∀ (t n : Nat),wL b (t + 1) n = tops b t n
 | 0,n=>by simp [wL,tops]
 | t + 1,n=>by rw [wL,Uj t,tops]
theorem Vx {b t c r : Nat} (h2 : 2≤b) (h1 : 1≤c) (hc : c < b) (hr : r < b ^ t) : xN b (c * b ^ t + r) = (c : Int) :: wL b t r:=by
 rw [← tZ hr,Uj]
 refine (j5 h2 t _ ?_ (.inr ?_)).symm
 ·rw [Nat.pow_succ']
  have : (c + 1) * b ^ t≤b * b ^ t:=Nat.mul_le_mul_right _ hc
  rw [Nat.succ_mul] at this
  omega
 ·have : 1 * b ^ t≤c * b ^ t:=Nat.mul_le_mul_right _ h1
  omega
def wW (ls : List (List Int)) (b : Nat) : Nat->Nat
 | 0=>if lacks ls [0] = true then 1 else 0
 | t + 1=>((List.range b).map fun (c : Nat)=>if c = 0 then wW ls b t else if lacks ls [(c : Int)] = true then cnt ls b t (zH ls [(c : Int)]) else 0).sum
theorem Qf {ls : List (List Int)} (ne : ∀ l ∈ ls,l ≠ []) {b t c : Nat} (h2 : 2≤b) (h1 : 1≤c) (hc : c < b) : many (fun r=>gd ls b (c * b ^ t + r)) (b ^ t) = if lacks ls [(c : Int)] = true then cnt ls b t (zH ls [(c : Int)]) else 0:=by
 have e:=Vz (x:=[]) ne (b:=b) (t:=t) (Vs ne t) c
 rw [List.nil_append] at e
 rw [← e]
 apply uU
 intro r hr
 show gd ls b _ = lacks ls _
 rw [gd,Vx h2 h1 hc hr,List.nil_append,tZ hr]
theorem w6 {ls : List (List Int)} (ne : ∀ l ∈ ls,l ≠ []) {b : Nat} (h2 : 2≤b) : ∀ t : Nat,wW ls b t = many (gd ls b) (b ^ t)
 | 0=>by
  rw [Nat.pow_zero,many,many,wW,Nat.zero_add]
  unfold gd
  rw [qD (show 0 < b by omega)]
  rfl
 | t + 1=>by
  rw [Nat.pow_succ',Us,wW]
  apply tV
  intro c hc
  by_cases h0 : c = 0
  ·subst h0
   rw [if_pos rfl,w6 ne h2 t]
   apply uU
   intro r _
   rw [Nat.zero_mul,Nat.zero_add]
  ·rw [if_neg h0,Qf ne h2 (by omega) hc]
theorem zaU {α : Type} [DecidableEq α] : ∀ (xs ws : List α),(∀ x ∈ xs,x ∈ ws)->ws.length < xs.length->∃ (i j : Nat) (x : α),i < j∧xs[i]? = some x∧xs[j]? = some x
 | [],ws,_,h=>by simp at h
 | x :: xs,ws,hm,h=>by
  by_cases hx : x ∈ xs
  ·obtain ⟨j,hj⟩:=List.getElem?_of_mem hx
   exact ⟨0,j + 1,x,by omega,rfl,by simpa using hj⟩
  ·have hxw:=hm x List.mem_cons_self
   obtain ⟨i,j,z,hij,h1,h2⟩:=zaU xs (ws.erase x) (fun y hy=>(List.mem_erase_of_ne (fun e : y = x=>hx (by rw [← e]; exact hy))).mpr (hm y (List.mem_cons_of_mem _ hy))) (by
    rw [List.length_erase_of_mem hxw]
    rw [List.length_cons] at h
    have : 0 < ws.length:=List.length_pos_of_mem hxw
    omega)
   exact ⟨i + 1,j + 1,z,by omega,by simpa using h1,by simpa using h2⟩
theorem Qt {b n k : Nat} (h2 : 2≤b) (hn : n < b ^ (k + 1)) (h : k = 0∨b ^ k≤n) : (xN b n).length = k + 1:=by
 rw [← j5 h2 k n hn h,We]
theorem zdj {b : Nat} (h2 : 2≤b) (n : Nat) : ∃ k,n < b ^ (k + 1)∧(k = 0∨b ^ k≤n):=by
 have key : ∀ K : Nat,n < b ^ (K + 1)->∃ k,n < b ^ (k + 1)∧(k = 0∨b ^ k≤n):=by
  intro K
  induction K with
  | zero=>intro h; exact ⟨0,h,.inl rfl⟩
  | succ K ih =>
   intro h
   by_cases q : n < b ^ (K + 1)
   ·exact ih q
   ·exact ⟨K + 1,h,.inr (by omega)⟩
 refine key n ?_
 have : n < 2 ^ n:=Nat.lt_two_pow_self
 have h3 : 2 ^ n≤b ^ n:=Nat.pow_le_pow_left h2 n
 have h4 : b ^ n≤b ^ (n + 1):=Nat.pow_le_pow_right (by omega) (Nat.le_succ n)
 omega
theorem Wi {b n k : Nat} (h2 : 2≤b) : (xN b n).length = k + 1 ↔ n < b ^ (k + 1)∧(k = 0∨b ^ k≤n):=by
 refine ⟨fun h=>?_,fun h=>Qt h2 h.1 h.2⟩
 obtain ⟨m,h1,h3⟩:=zdj h2 n
 have e:=Qt h2 h1 h3
 rw [h] at e
 obtain rfl : k = m:=by omega
 exact ⟨h1,h3⟩
def j9 (ls : List (List Int)) (b t : Nat) : Option (List Int)->Nat->Nat
 | some x,c=>if lacks ls (x ++ [(c : Int)]) = true then cnt ls b t (zH ls (x ++ [(c : Int)])) else 0
 | none,c=>if c = 0 then wW ls b t else if lacks ls [(c : Int)] = true then cnt ls b t (zH ls [(c : Int)]) else 0
def under (ls : List (List Int)) (b t : Nat) (o : Option (List Int)) (s : Nat) : Nat:=((List.range s).map (j9 ls b t o)).sum
theorem VD (ls : List (List Int)) (b t : Nat) (o : Option (List Int)) : under ls b t o 0 = 0:=rfl
theorem uP (ls : List (List Int)) (b t : Nat) (o : Option (List Int)) (s : Nat) : under ls b t o (s + 1) = under ls b t o s + j9 ls b t o s:=by
 unfold under
 rw [List.range_succ,List.map_append,List.sum_append]
 simp
def Rep (ls : List (List Int)) (b m : Nat) (o : Option (List Int)) : Prop:=(m = 0∧o = none)∨(1≤m∧gd ls b m = true∧o = some (zH ls (xN b m)))
theorem uO {b m c : Nat} (h2 : 2≤b) (h1 : 1≤m) (hc : c < b) : xN b (m * b + c) = xN b m ++ [(c : Int)]:=by
 have hge : b≤m * b + c:=by
  have : 1 * b≤m * b:=Nat.mul_le_mul_right b h1
  omega
 rw [Jt h2 hge]
 have e1 : (m * b + c) / b = m:=by rw [Nat.add_comm,Nat.add_mul_div_right _ _ (by omega),Nat.div_eq_of_lt hc,Nat.zero_add]
 have e2 : (m * b + c) % b = c:=by rw [Nat.add_comm,Nat.add_mul_mod_self_right,Nat.mod_eq_of_lt hc]
 rw [e1,e2]
theorem zbe {b m c : Nat} (h2 : 2≤b) (h1 : 1≤m) : 1≤m * b + c:=by
 have : 1 * b≤m * b:=Nat.mul_le_mul_right b h1
 omega
theorem Ww {b m : Nat} (h2 : 2≤b) (h1 : 1≤m) : ∀ (t r : Nat),r < b ^ t->xN b (m * b ^ t + r) = xN b m ++ wL b t r
 | 0,r,hr=>by
  have : r = 0:=by rw [Nat.pow_zero] at hr; omega
  subst this
  rw [Nat.pow_zero,Nat.mul_one,Nat.add_zero,wL,List.append_nil]
 | t + 1,r,hr=>by
  have hp : 0 < b ^ t:=Nat.pow_pos (by omega)
  have hc : r / b ^ t < b:=by
   rw [Nat.div_lt_iff_lt_mul hp]
   rw [Nat.pow_succ',] at hr
   exact hr
  have hm : r % b ^ t < b ^ t:=Nat.mod_lt _ hp
  have e : m * b ^ (t + 1) + r = (m * b + r / b ^ t) * b ^ t + r % b ^ t:=by
   have h:=Nat.div_add_mod r (b ^ t)
   rw [Nat.pow_succ',Nat.add_mul,Nat.mul_assoc,Nat.add_assoc,Nat.mul_comm (r / b ^ t),h]
  have h1' : 1≤m * b + r / b ^ t:=zbe h2 h1
  rw [e,Ww h2 h1' t _ hm,uO h2 h1 hc,wL,List.append_assoc]
  rfl
theorem zaT {ls : List (List Int)} (ne : ∀ l ∈ ls,l ≠ []) {b m : Nat} {o : Option (List Int)} (h2 : 2≤b) (R : Rep ls b m o) (t : Nat) {c : Nat} (hc : c < b) : j9 ls b t o c = many (fun r=>gd ls b ((m * b + c) * b ^ t + r)) (b ^ t):=by
 rcases R with ⟨rfl,rfl⟩ | ⟨h1,hg,rfl⟩
 ·rw [Nat.zero_mul,Nat.zero_add]
  show (if c = 0 then _ else _) = _
  by_cases h0 : c = 0
  ·subst h0
   rw [if_pos rfl,w6 ne h2]
   apply uU
   intro r _
   rw [Nat.zero_mul,Nat.zero_add]
  ·rw [if_neg h0,Qf ne h2 (by omega) hc]
 ·have e:=Vz (x:=xN b m) ne (b:=b) (t:=t) (Vs ne t) c
  show (if lacks ls (zH ls (xN b m) ++ [(c : Int)]) = true then cnt ls b t (zH ls (zH ls (xN b m) ++ [(c : Int)])) else 0) = _
  rw [jh ne _ hg,qL,← e]
  apply uU
  intro r hr
  show lacks ls _ = gd ls b _
  rw [gd,Ww h2 (zbe h2 h1) t r hr,uO h2 h1 hc,tZ hr,List.append_assoc]
  rfl
theorem VF {ls : List (List Int)} (ne : ∀ l ∈ ls,l ≠ []) {b m : Nat} {o : Option (List Int)} (h2 : 2≤b) (R : Rep ls b m o) (t : Nat) : ∀ {s : Nat},s≤b->many (gd ls b) (m * b ^ (t + 1)) + under ls b t o s = many (gd ls b) ((m * b + s) * b ^ t)
 | 0,_=>by rw [VD,Nat.add_zero,Nat.pow_succ',show (m * b + 0) * b ^ t = m * (b * b ^ t) by rw [Nat.add_zero,Nat.mul_assoc]]
 | s + 1,hs=>by
  rw [uP,← Nat.add_assoc,VF ne h2 R t (s:=s) (by omega),zaT ne h2 R t (show s < b by omega),← Nat.add_assoc,Nat.succ_mul (m * b + s),Wa]
theorem Rep.step {ls : List (List Int)} (ne : ∀ l ∈ ls,l ≠ []) {b m : Nat} {o : Option (List Int)} (h2 : 2≤b) (R : Rep ls b m o) {c : Nat} (hc : c < b) :
  (o = none∧c = 0∧Rep ls b (m * b + c) none)∨(¬ (o = none∧c = 0)∧((lacks ls (o.getD [] ++ [(c : Int)]) = true∧Rep ls b (m * b + c) (some (zH ls (o.getD [] ++ [(c : Int)]))))∨(lacks ls (o.getD [] ++ [(c : Int)]) = false∧1≤m * b + c∧gd ls b (m * b + c) = false))):=by
 rcases R with ⟨rfl,rfl⟩ | ⟨h1,hg,rfl⟩
 ·by_cases h0 : c = 0
  ·left; exact ⟨rfl,h0,.inl ⟨by rw [h0]; omega,rfl⟩⟩
  ·right
   refine ⟨fun z=>h0 z.2,?_⟩
   rw [Nat.zero_mul,Nat.zero_add]
   show (lacks ls [(c : Int)] = true∧_)∨(lacks ls [(c : Int)] = false∧_)
   have eg : gd ls b c = lacks ls [(c : Int)]:=by unfold gd; rw [qD hc]
   cases hl : lacks ls [(c : Int)] with
   | true=>left; exact ⟨rfl,.inr ⟨by omega,by rw [eg]; exact hl,by rw [qD hc]; rfl⟩⟩
   | false=>right; exact ⟨rfl,by omega,by rw [eg]; exact hl⟩
 ·right
  refine ⟨fun z=>(nomatch z.1),?_⟩
  have hm : 1≤m * b + c:=zbe h2 h1
  show (lacks ls (zH ls (xN b m) ++ [(c : Int)]) = true∧Rep ls b (m * b + c) (some (zH ls (zH ls (xN b m) ++ [(c : Int)]))))∨(lacks ls (zH ls (xN b m) ++ [(c : Int)]) = false∧_)
  rw [jh ne _ hg,qL]
  have eg : gd ls b (m * b + c) = lacks ls (xN b m ++ [(c : Int)]):=by unfold gd; rw [uO h2 h1 hc]
  cases hl : lacks ls (xN b m ++ [(c : Int)]) with
  | true=>left; exact ⟨rfl,.inr ⟨hm,by rw [eg]; exact hl,by rw [uO h2 h1 hc]⟩⟩
  | false=>right; exact ⟨rfl,hm,by rw [eg]; exact hl⟩
theorem zep {ls : List (List Int)} (ne : ∀ l ∈ ls,l ≠ []) {b m : Nat} (h2 : 2≤b) (h1 : 1≤m) (hg : gd ls b m = false) (t : Nat) {r : Nat} (hr : r≤b ^ t) : many (gd ls b) (m * b ^ t + r) = many (gd ls b) (m * b ^ t):=by
 rw [Wa,YH (N:=r)]
 ·omega
 intro k hk
 show gd ls b _ = false
 cases hc : gd ls b (m * b ^ t + k) with
 | false=>rfl
 | true =>
  unfold gd at hc hg
  rw [Ww h2 h1 t k (by omega)] at hc
  rw [WX ne hc] at hg
  cases hg
theorem JV {b : Nat} : ∀ {t n k : Nat},k < t->n < b ^ t->(wL b t n)[k]? = some (((n / b ^ (t - 1 - k)) % b : Nat) : Int)
 | 0,_,_,hk,_=>by omega
 | t + 1,n,0,_,hn=>by
  have : n / b ^ t < b:=by
   rw [Nat.pow_succ'] at hn
   rcases Nat.eq_zero_or_pos (b ^ t) with h | h
   ·rw [h] at hn; omega
   ·rw [Nat.div_lt_iff_lt_mul h]; exact hn
  rw [wL,List.getElem?_cons_zero,show t + 1 - 1 - 0 = t by omega,Nat.mod_eq_of_lt this]
 | t + 1,n,k + 1,hk,hn=>by
  have hb : 0 < b:=by
   rcases Nat.eq_zero_or_pos b with h | h
   ·subst h; rw [Nat.zero_pow (by omega)] at hn; omega
   ·exact h
  rw [wL,List.getElem?_cons_succ,JV (by omega) (Nat.mod_lt _ (Nat.pow_pos hb))]
  have e : t + 1 - 1 - (k + 1) = t - 1 - k:=by omega
  rw [e]
  generalize hj : t - 1 - k = j
  obtain ⟨q,hq⟩ : ∃ q,t = j + (q + 1):=⟨t - j - 1,by omega⟩
  rw [hq,Nat.pow_add,Nat.mod_mul_right_div_self,Nat.pow_succ',Nat.mod_mul_right_mod]
theorem zck {b n N k : Nat} (h2 : 2≤b) (hN : (xN b n).length = N) (hk : k < N) : (xN b n)[k]? = some (((n / b ^ (N - 1 - k)) % b : Nat) : Int):=by
 obtain ⟨K,rfl⟩ : ∃ K,N = K + 1:=⟨N - 1,by omega⟩
 obtain ⟨h1,h3⟩:=(Wi h2).mp hN
 rw [← j5 h2 K n h1 h3,← Uj]
 exact JV hk h1
theorem jt {b n N : Nat} (h2 : 2≤b) (hN : (xN b n).length = N) : n < b ^ N:=by
 cases N with
 | zero=>exact absurd (List.length_eq_zero_iff.mp hN) zdo
 | succ K=>exact ((Wi h2).mp hN).1
theorem zcM {b n t : Nat} (hb : 0 < b) : n / b ^ t = n / b ^ (t + 1) * b + (n / b ^ t) % b:=by
 have h:=Nat.div_add_mod (n / b ^ t) b
 rw [Nat.div_div_eq_div_mul,← Nat.pow_succ,Nat.mul_comm] at h
 exact h.symm
def wsum (w : Nat->Nat) (sc : Nat) : List Int->Nat
 | []=>0
 | c :: l=>sc ^ l.length * w c.toNat + wsum w sc l
def tot (p : Nat->Bool) (f : Nat->Nat) : Nat->Nat
 | 0=>0
 | n + 1=>tot p f n + (if p n = true then f n else 0)
theorem j4 {p q : Nat->Bool} {f g : Nat->Nat} : ∀ {N : Nat},(∀ n,n < N->p n = q n)->(∀ n,n < N->f n = g n)->tot p f N = tot q g N
 | 0,_,_=>rfl
 | N + 1,h,k=>by rw [tot,tot,j4 (N:=N) (fun n hn=>h n (by omega)) (fun n hn=>k n (by omega)),h N (by omega),k N (by omega)]
theorem JK {p : Nat->Bool} {f : Nat->Nat} : ∀ {N : Nat},(∀ n,n < N->p n = false)->tot p f N = 0
 | 0,_=>rfl
 | N + 1,h=>by rw [tot,JK (N:=N) fun n hn=>h n (by omega),h N (by omega)]; rfl
theorem zbs (p : Nat->Bool) (f : Nat->Nat) (A : Nat) : ∀ B : Nat,tot p f (A + B) = tot p f A + tot (fun n=>p (A + n)) (fun n=>f (A + n)) B
 | 0=>rfl
 | B + 1=>by rw [← Nat.add_assoc,tot,tot,zbs p f A B,Nat.add_assoc]
theorem Ju (p : Nat->Bool) (f : Nat->Nat) (B : Nat) : ∀ A : Nat,tot p f (A * B) = ((List.range A).map fun c=>tot (fun r=>p (c * B + r)) (fun r=>f (c * B + r)) B).sum
 | 0=>by simp [tot]
 | A + 1=>by
  rw [Nat.succ_mul,zbs,Ju p f B A,List.range_succ,List.map_append,List.sum_append]
  simp
theorem J4 (p : Nat->Bool) (f : Nat->Nat) (a : Nat) : ∀ N : Nat,tot p (fun n=>a + f n) N = a * many p N + tot p f N
 | 0=>by simp [tot,many]
 | N + 1=>by
  rw [tot,tot,many,J4 p f a N]
  by_cases h : p N = true
  ·rw [if_pos h,if_pos h,if_pos h,Nat.mul_add]; omega
  ·rw [if_neg h,if_neg h,if_neg h,Nat.add_zero,Nat.add_zero,Nat.add_zero]
theorem JD (b : Nat) : ∀ t r : Nat,(wL b t r).length = t
 | 0,_=>rfl
 | t + 1,r=>by rw [wL,List.length_cons,JD b t]
def tt (ls : List (List Int)) (b : Nat) (w : Nat->Nat) (sc : Nat) : Nat->List Int->Nat
 | 0,_=>0
 | t + 1,x=>((List.range b).map fun (c : Nat)=>if lacks ls (x ++ [(c : Int)]) = true then sc ^ t * w c * cnt ls b t (zH ls (x ++ [(c : Int)])) + tt ls b w sc t (zH ls (x ++ [(c : Int)])) else 0).sum
def ttO (ls : List (List Int)) (b : Nat) (w : Nat->Nat) (sc : Nat) : Nat->Nat
 | 0=>w 0 * wW ls b 0
 | t + 1=>((List.range b).map fun (c : Nat)=>if c = 0 then ttO ls b w sc t else if lacks ls [(c : Int)] = true then sc ^ t * w c * cnt ls b t (zH ls [(c : Int)]) + tt ls b w sc t (zH ls [(c : Int)]) else 0).sum
theorem za7 {ls : List (List Int)} (ne : ∀ l ∈ ls,l ≠ []) {b t sc : Nat} {w : Nat->Nat} (ih : ∀ x,lacks ls x = true->tot (fun r=>lacks ls (x ++ wL b t r)) (fun r=>wsum w sc (wL b t r)) (b ^ t) = tt ls b w sc t (zH ls x)) {x : List Int} (c : Nat) :
  tot (fun r=>lacks ls (x ++ wL b (t + 1) (c * b ^ t + r))) (fun r=>wsum w sc (wL b (t + 1) (c * b ^ t + r))) (b ^ t) = if lacks ls (x ++ [(c : Int)]) = true then sc ^ t * w c * cnt ls b t (zH ls (x ++ [(c : Int)])) + tt ls b w sc t (zH ls (x ++ [(c : Int)])) else 0:=by
 have e1 : tot (fun r=>lacks ls (x ++ wL b (t + 1) (c * b ^ t + r))) (fun r=>wsum w sc (wL b (t + 1) (c * b ^ t + r))) (b ^ t) = tot (fun r=>lacks ls (x ++ [(c : Int)] ++ wL b t r)) (fun r=>sc ^ t * w c + wsum w sc (wL b t r)) (b ^ t):=by
  apply j4
  ·intro r hr
   show lacks ls _ = lacks ls _
   rw [tZ hr,List.append_assoc]
   rfl
  ·intro r hr
   show wsum w sc _ = _
   rw [tZ hr,wsum,JD]
   rfl
 rw [e1,J4]
 by_cases h : lacks ls (x ++ [(c : Int)]) = true
 ·rw [if_pos h,ih _ h,Vs ne t _ h]
 ·rw [if_neg h]
  have hn : ∀ r,r < b ^ t->lacks ls (x ++ [(c : Int)] ++ wL b t r) = false:=by
   intro r _
   cases hc : lacks ls (x ++ [(c : Int)] ++ wL b t r) with
   | false=>rfl
   | true=>exact absurd (WX ne hc) h
  rw [YH hn,JK hn]
  simp
theorem zc0 {ls : List (List Int)} (ne : ∀ l ∈ ls,l ≠ []) {b sc : Nat} {w : Nat->Nat} : ∀ (t : Nat) (x : List Int),lacks ls x = true->tot (fun r=>lacks ls (x ++ wL b t r)) (fun r=>wsum w sc (wL b t r)) (b ^ t) = tt ls b w sc t (zH ls x)
 | 0,x,h=>by
  rw [Nat.pow_zero,tot,tot,tt,wL,wsum]
  simp
 | t + 1,x,h=>by
  rw [Nat.pow_succ',Ju,tt]
  apply tV
  intro c _
  rw [za7 ne (zc0 ne t),jh ne _ h,qL]
theorem zcL {ls : List (List Int)} (ne : ∀ l ∈ ls,l ≠ []) {b t c sc : Nat} {w : Nat->Nat} (h2 : 2≤b) (h1 : 1≤c) (hc : c < b) : tot (fun r=>gd ls b (c * b ^ t + r)) (fun r=>wsum w sc (xN b (c * b ^ t + r))) (b ^ t) = if lacks ls [(c : Int)] = true then sc ^ t * w c * cnt ls b t (zH ls [(c : Int)]) + tt ls b w sc t (zH ls [(c : Int)]) else 0:=by
 have e:=za7 (x:=[]) ne (b:=b) (t:=t) (w:=w) (sc:=sc) (zc0 ne t) c
 rw [List.nil_append] at e
 rw [← e]
 apply j4
 ·intro r hr
  show gd ls b _ = lacks ls _
  rw [gd,Vx h2 h1 hc hr,List.nil_append,tZ hr]
 ·intro r hr
  show wsum w sc _ = wsum w sc _
  rw [Vx h2 h1 hc hr,tZ hr]
theorem zbb {ls : List (List Int)} (ne : ∀ l ∈ ls,l ≠ []) {b sc : Nat} {w : Nat->Nat} (h2 : 2≤b) : ∀ t : Nat,ttO ls b w sc t = tot (gd ls b) (fun n=>wsum w sc (xN b n)) (b ^ t)
 | 0=>by
  rw [Nat.pow_zero,tot,tot,ttO,Nat.zero_add]
  unfold gd
  rw [qD (show 0 < b by omega),wW]
  show w 0 * (if lacks ls [0] = true then 1 else 0) = if lacks ls [0] = true then wsum w sc [0] else 0
  split <;> simp [wsum]
 | t + 1=>by
  rw [Nat.pow_succ',Ju,ttO]
  apply tV
  intro c hc
  by_cases h0 : c = 0
  ·subst h0
   rw [if_pos rfl,zbb ne h2 t]
   apply j4 <;> intro r _ <;> simp
  ·rw [if_neg h0,zcL ne h2 (by omega) hc]
theorem wsum_snoc (w : Nat->Nat) (sc : Nat) (c : Int) : ∀ l : List Int,wsum w sc (l ++ [c]) = sc * wsum w sc l + w c.toNat
 | []=>by simp [wsum]
 | d :: l=>by
  rw [List.cons_append,wsum,wsum,wsum_snoc w sc c l,List.length_append,List.length_singleton,Nat.pow_succ',Nat.mul_add,Nat.mul_assoc]
  omega
theorem zcY {b : Nat} (h2 : 2≤b) (n : Nat) : wsum (fun c=>c) b (xN b n) = n:=by
 induction n using Nat.strongRecOn with
 | _ n ih =>
  by_cases h : n < b
  ·rw [qD h]; simp [wsum]
  ·have h1 : 1≤n / b:=Nat.div_pos (by omega) (by omega)
   have hc : n % b < b:=Nat.mod_lt _ (by omega)
   have e : n / b * b + n % b = n:=by rw [Nat.mul_comm]; exact Nat.div_add_mod n b
   have ef:=uO h2 h1 hc
   rw [e] at ef
   rw [ef,wsum_snoc,ih (n / b) (Nat.div_lt_self (by omega) (by omega)),Nat.mul_comm]
   exact e
theorem Wb {ls : List (List Int)} (ne : ∀ l ∈ ls,l ≠ []) {b : Nat} (h2 : 2≤b) (t : Nat) : ttO ls b (fun c=>c) b t = tot (gd ls b) (fun n=>n) (b ^ t):=by
 rw [zbb ne h2]
 exact j4 (fun _ _=>rfl) (fun n _=>zcY h2 n)
def wG (b m : Nat) : Nat:=if m = 1 then 0 else b ^ (m - 1)
theorem zdE {b m : Nat} (h2 : 2≤b) : wG b m≤b ^ m:=by
 unfold wG
 split
 ·exact Nat.zero_le _
 ·exact Nat.pow_le_pow_right (by omega) (by omega)
theorem zda {ls : List (List Int)} {b m : Nat} : tot (gd ls b) (fun n=>n) (b ^ (m - 1)) = tot (gd ls b) (fun n=>n) (wG b m):=by
 unfold wG
 split
 ·rename_i h
  subst h
  rw [Nat.sub_self,Nat.pow_zero,tot,tot]
  split <;> rfl
 ·rfl
end Lw
namespace L2
open PySem PySem.Spec PyProof.Rows
section
variable {κ : Type} [DecidableEq κ]
def yw (kvs : List (κ × V)) (k : κ) : Option V:=(kvs.find? fun kv=>decide (kv.1 = k)).map (·.2)
def putK (kvs : List (κ × V)) (k : κ) (v : V) : List (κ × V) :=
 if (kvs.any fun kv=>decide (kv.1 = k)) = true then kvs.map (fun kv=>if kv.1 = k then (kv.1,v) else kv) else kvs ++ [(k,v)]
def zdQ (kvs : List (κ × V)) (k : κ) : List (κ × V):=kvs.filter fun kv=>decide (kv.1 ≠ k)
theorem yP {p : κ × V} {r : List (κ × V)} {k : κ} (e : p.1 = k) : yw (p :: r) k = some p.2:=by simp [yw,List.find?_cons,e]
theorem yO {p : κ × V} {r : List (κ × V)} {k : κ} (e : ¬ p.1 = k) : yw (p :: r) k = yw r k:=by simp [yw,List.find?_cons,e]
theorem t8 (k : κ) : ∀ kvs : List (κ × V),(kvs.any fun kv=>decide (kv.1 = k)) = (yw kvs k).isSome
 | []=>rfl
 | p :: r=>by
  rw [List.any_cons]
  by_cases e : p.1 = k
  ·simp only [yP e,decide_eq_true e,Bool.true_or,Option.isSome_some]
  ·rw [yO e,decide_eq_false e,Bool.false_or]; exact t8 k r
theorem J7 (k j : κ) (y : V) : ∀ kvs : List (κ × V),yw (kvs.map fun kv=>if kv.1 = k then (kv.1,y) else kv) j = (yw kvs j).map fun x=>if j = k then y else x
 | []=>rfl
 | p :: r=>by
  have ih:=J7 k j y r
  rw [List.map_cons]
  by_cases h : p.1 = k
  ·rw [if_pos h]
   by_cases e : p.1 = j
   ·rw [yP (p:=(p.1,y)) e,yP e,Option.map_some,if_pos (e.symm.trans h)]
   ·rw [yO (p:=(p.1,y)) e,yO e,ih]
  ·rw [if_neg h]
   by_cases e : p.1 = j
   ·rw [yP (p:=p) e,yP e,Option.map_some,if_neg (fun z=>h (e.trans z))]
   ·rw [yO (p:=p) e,yO e,ih]
theorem Qo (k j : κ) (y : V) : ∀ kvs : List (κ × V),yw kvs k = none->yw (kvs ++ [(k,y)]) j = if j = k then some y else yw kvs j
 | [],_=>by
  by_cases e : k = j
  ·rw [if_pos e.symm]; exact yP (p:=(k,y)) e
  ·rw [if_neg (fun z=>e z.symm)]; exact yO (p:=(k,y)) e
 | p :: r,hn=>by
  rw [List.cons_append]
  have hk : ¬ p.1 = k:=fun z=>by rw [yP z] at hn; cases hn
  rw [yO hk] at hn
  have ih:=Qo k j y r hn
  by_cases e : p.1 = j
  ·rw [yP e,yP e,if_neg (fun z=>hk (e.trans z))]
  ·rw [yO e,yO e,ih]
theorem XJ (kvs : List (κ × V)) (k j : κ) (y : V) : yw (putK kvs k y) j = if j = k then some y else yw kvs j:=by
 unfold putK
 by_cases a : (kvs.any fun kv=>decide (kv.1 = k)) = true
 ·rw [if_pos a,J7]
  rw [t8] at a
  by_cases e : j = k
  ·obtain ⟨x,hx⟩:=Option.isSome_iff_exists.mp a
   rw [if_pos e,e,hx,Option.map_some,if_pos rfl]
  ·rw [if_neg e]
   cases yw kvs j with
   | none=>rfl
   | some x=>rw [Option.map_some,if_neg e]
 ·rw [if_neg a]
  refine Qo k j y kvs ?_
  rw [t8] at a
  cases q : yw kvs k with
  | none=>rfl
  | some x=>rw [q] at a; exact (a rfl).elim
theorem Ys (kvs : List (κ × V)) (k : κ) (v : V) : (putK kvs k v).length≤kvs.length + 1:=by
 unfold putK
 split
 ·rw [List.length_map]; omega
 ·rw [List.length_append,List.length_cons,List.length_nil]; omega
theorem j6 {kvs : List (κ × V)} {k : κ} (v : V) (h : yw kvs k = none) : putK kvs k v = kvs ++ [(k,v)]:=by
 unfold putK
 rw [t8,h]
 exact if_neg (by decide)
theorem RelO.isSome_eq {o : Option V} {u : Option Value} (r : RelO o u) : o.isSome = u.isSome:=by
 cases o with
 | none=>cases u with
  | none=>rfl
  | some _=>exact (show False from r).elim
 | some _=>cases u with
  | none=>exact (show False from r).elim
  | some _=>rfl
theorem RelO.getD {o : Option V} {u : Option Value} {d : V} {d' : Value} (r : RelO o u) (rd : RelV d d') : RelV (o.getD d) (u.getD d'):=by
 cases o with
 | none=>cases u with
  | none=>exact rd
  | some _=>exact (show False from r).elim
 | some _=>cases u with
  | none=>exact (show False from r).elim
  | some _=>exact r
theorem KV.val {kvs : List (κ × V)} {vs : List (κ × Value)} (r : KV kvs vs) (k : κ) : RelO (yw kvs k) (valueAt vs k):=by
 unfold KV at r
 induction r with
 | nil=>exact True.intro
 | @cons p q ps qs h t ih =>
  obtain ⟨h1,h2⟩:=h
  by_cases e : p.1 = k
  ·have e' : q.1 = k:=h1.symm.trans e
   have b : valueAt (q :: qs) k = some q.2:=by simp [valueAt,List.find?_cons,e']
   rw [yP e,b]; exact h2
  ·have e' : ¬ q.1 = k:=fun z=>e (h1.trans z)
   have b : valueAt (q :: qs) k = valueAt qs k:=by simp [valueAt,List.find?_cons,e']
   rw [yO e,b]; exact ih
theorem KV.any {kvs : List (κ × V)} {vs : List (κ × Value)} (r : KV kvs vs) (k : κ) : (kvs.any fun kv=>decide (kv.1 = k)) = vs.any fun kv=>decide (kv.1 = k):=by
 unfold KV at r
 induction r with
 | nil=>rfl
 | cons h t ih=>rw [List.any_cons,List.any_cons,ih,h.1]
theorem KV.repl {kvs : List (κ × V)} {vs : List (κ × Value)} (r : KV kvs vs) (k : κ) {y : V} {u : Value} (ry : RelV y u) :
  KV (kvs.map fun kv=>if kv.1 = k then (kv.1,y) else kv) (vs.map fun kv=>if kv.1 = k then (kv.1,u) else kv):=by
 unfold KV at r ⊢
 induction r with
 | nil=>exact .nil
 | @cons p q ps qs h t ih =>
  rw [List.map_cons,List.map_cons]
  refine .cons ?_ ih
  obtain ⟨h1,h2⟩:=h
  by_cases e : p.1 = k
  ·rw [if_pos e,if_pos (h1.symm.trans e)]; exact ⟨h1,ry⟩
  ·rw [if_neg e,if_neg (fun z=>e (h1.trans z))]; exact ⟨h1,h2⟩
theorem KV.put {kvs : List (κ × V)} {vs : List (κ × Value)} (r : KV kvs vs) (k : κ) {y : V} {u : Value} (ry : RelV y u) : KV (putK kvs k y) (stored vs k u):=by
 unfold putK stored
 rw [r.any k]
 by_cases e : (vs.any fun kv=>decide (kv.1 = k)) = true
 ·rw [if_pos e,if_pos e]; exact r.repl k ry
 ·rw [if_neg e,if_neg e]; exact Paired.snoc r ⟨rfl,ry⟩
theorem KV.drop {kvs : List (κ × V)} {vs : List (κ × Value)} (r : KV kvs vs) (k : κ) : KV (zdQ kvs k) (without vs k):=by
 unfold KV at r ⊢
 unfold zdQ without
 induction r with
 | nil=>exact .nil
 | @cons p q ps qs h t ih =>
  obtain ⟨h1,h2⟩:=h
  rw [List.filter_cons,List.filter_cons]
  by_cases e : p.1 = k
  ·have a : ¬ decide (p.1 ≠ k) = true:=by simp [e]
   have b : ¬ decide (q.1 ≠ k) = true:=by simp [h1.symm.trans e]
   rw [if_neg a,if_neg b]; exact ih
  ·have e' : ¬ q.1 = k:=fun z=>e (h1.trans z)
   have a : decide (p.1 ≠ k) = true:=by simp [e]
   have b : decide (q.1 ≠ k) = true:=by simp [e']
   rw [if_pos a,if_pos b]; exact .cons ⟨h1,h2⟩ ih
theorem KV.keys {kvs : List (κ × V)} {vs : List (κ × Value)} (r : KV kvs vs) : kvs.map (·.1) = vs.map (·.1):=by
 unfold KV at r
 induction r with
 | nil=>rfl
 | cons h t ih=>rw [List.map_cons,List.map_cons,ih,h.1]
theorem KV.length {kvs : List (κ × V)} {vs : List (κ × Value)} (r : KV kvs vs) : kvs.length = vs.length:=Paired.length r
end
theorem zfb {P : Program} {w : World} {k : Key} {u : Value} (r : RelV (kV k) u) : (yl P w).is k u = true:=by
 cases k with
 | inl i=>obtain ⟨t,e⟩:=(show ∃ t,u = Value.int i t from r); subst e; exact zam P w i t
 | inr x=>obtain ⟨t,e⟩:=(show ∃ t,u = Value.str x t from r); subst e; exact JM P w x t
theorem Qh {P : Program} {w : World} : ∀ {ks : List Key} {us : List Value},Vals (ks.map kV) us->ItemsAre (yl P w) ks us
 | [],_,r=>by rw [List.map_nil] at r; cases r; exact .nil
 | k :: ks,_,r=>by
  rw [List.map_cons] at r
  cases r with
  | cons h t=>exact .cons (zfb h) (Qh t)
abbrev KT (H : Hp) : List (List Key × V)->List (List Key × Addr × Value)->Prop:=Paired fun p q=>p.1 = q.1∧H q.2.1 = some (.tup (p.1.map kV))∧RelV p.2 q.2.2
theorem KT.val {H : Hp} {kvs : List (List Key × V)} {xs : List (List Key × Addr × Value)} (r : KT H kvs xs) (k : List Key) : RelO (yw kvs k) ((atKey xs k).map (·.2)):=by
 induction r with
 | nil=>exact True.intro
 | @cons p q ps qs h t ih =>
  obtain ⟨h1,_,h2⟩:=h
  by_cases e : p.1 = k
  ·have e' : q.1 = k:=h1.symm.trans e
   have b : atKey (q :: qs) k = some q.2:=by simp [atKey,List.find?_cons,e']
   rw [yP e,b]; exact h2
  ·have e' : ¬ q.1 = k:=fun z=>e (h1.trans z)
   have b : atKey (q :: qs) k = atKey qs k:=by simp [atKey,List.find?_cons,e']
   rw [yO e,b]; exact ih
theorem KT.repl {H : Hp} {kvs : List (List Key × V)} {xs : List (List Key × Addr × Value)} (r : KT H kvs xs) (k : List Key) {y : V} {u : Value} (ry : RelV y u) :
  KT H (kvs.map fun kv=>if kv.1 = k then (kv.1,y) else kv) (xs.map (putAt k u)):=by
 induction r with
 | nil=>exact .nil
 | @cons p q ps qs h t ih =>
  rw [List.map_cons,List.map_cons]
  refine .cons ?_ ih
  obtain ⟨h1,h2,h3⟩:=h
  unfold putAt
  by_cases e : p.1 = k
  ·rw [if_pos e,if_pos (h1.symm.trans e)]; exact ⟨h1,h2,ry⟩
  ·rw [if_neg e,if_neg (fun z=>e (h1.trans z))]; exact ⟨h1,h2,h3⟩
theorem KT.put {H : Hp} {kvs : List (List Key × V)} {xs : List (List Key × Addr × Value)} (r : KT H kvs xs) (k : List Key) {b : Addr} {y : V} {u : Value} (hb : H b = some (.tup (k.map kV))) (ry : RelV y u) :
  KT H (putK kvs k y) (storedH xs k b u):=by
 have e : (kvs.any fun kv=>decide (kv.1 = k)) = (atKey xs k).isSome:=by
  rw [t8,(r.val k).isSome_eq,Option.isSome_map]
 unfold putK storedH
 rw [e]
 by_cases q : (atKey xs k).isSome = true
 ·rw [if_pos q,if_pos q]; exact r.repl k ry
 ·rw [if_neg q,if_neg q]; exact Paired.snoc r ⟨rfl,hb,ry⟩
theorem KT.keeps {H H' : Hp} {kvs : List (List Key × V)} {xs : List (List Key × Addr × Value)} (r : KT H kvs xs) (ht : ∀ b ys,H b = some (.tup ys)->H' b = some (.tup ys)) : KT H' kvs xs :=
 Paired.mapP r fun _ _ z=>⟨z.1,ht _ _ z.2.1,z.2.2⟩
section
variable {P : Program} {w : World} {H : Hp} {h : Heap} {a : Addr}
theorem VH {ks : List Key} (ok : HOk P w H h) (e : H a = some (.tup (ks.map kV))) : (tupleKind (yl P w)).is h ks a:=by
 obtain ⟨_,its,r,o,h1,h2,n,h3⟩:=(show ObjOk P w H h a (.tup (ks.map kV)) from ok a _ e)
 exact ⟨o,its.toArray,n,h1,h2,h3,by simpa using Qh r⟩
end
def DGet (H : Hp) (a : Addr) (y : V) (r : Option V) : Prop :=
 (∃ kvs k,Rd H a (.dK kvs)∧y = kV k∧r = yw kvs k)∨∃ kvs k b,Rd H a (.dT kvs)∧y = .ref b∧H b = some (.tup (k.map kV))∧r = yw kvs k
def DPut (H : Hp) (a : Addr) (y v : V) (H' : Hp) : Prop :=
 (∃ kvs k,H a = some (.dK kvs)∧y = kV k∧kvs.length < sizeLine∧H' = upd H a (.dK (putK kvs k v))) ∨
 ∃ kvs k b,H a = some (.dT kvs)∧y = .ref b∧H b = some (.tup (k.map kV))∧kvs.length < sizeLine∧H' = upd H a (.dT (putK kvs k v))
theorem DGet.k {H : Hp} {a : Addr} {kvs : List (Key × V)} {k : Key} (e : H a = some (.dK kvs)) : DGet H a (kV k) (yw kvs k):=.inl ⟨kvs,k,.inl e,rfl,rfl⟩
theorem DGet.t {H : Hp} {a b : Addr} {kvs : List (List Key × V)} {k : List Key} (e : H a = some (.dT kvs)) (eb : H b = some (.tup (k.map kV))) : DGet H a (.ref b) (yw kvs k):=.inr ⟨kvs,k,b,.inl e,rfl,eb,rfl⟩
theorem DPut.k {H : Hp} {a : Addr} {kvs : List (Key × V)} {k : Key} {v : V} (e : H a = some (.dK kvs)) (hl : kvs.length < sizeLine) : DPut H a (kV k) v (upd H a (.dK (putK kvs k v))):=.inl ⟨kvs,k,e,rfl,hl,rfl⟩
theorem DPut.t {H : Hp} {a b : Addr} {kvs : List (List Key × V)} {k : List Key} {v : V} (e : H a = some (.dT kvs)) (eb : H b = some (.tup (k.map kV))) (hl : kvs.length < sizeLine) :
  DPut H a (.ref b) v (upd H a (.dT (putK kvs k v))):=.inr ⟨kvs,k,b,e,rfl,eb,hl,rfl⟩
section
variable {X : Cx} {pins : List (Addr × Obj)} {σ : St} {H : Hp} {s : Shared} {a : Addr} {y v : V} {u r : Value} {o : Option V} {A : Around} {E : Value->Shared->Prop}
theorem Inv.big (I : Inv X pins σ H s) : sysModules < s.heap.objs.size:=by
 have h : mainGlobals < s.heap.objs.size:=(I.mod.glob.keeps I.bk).lt
 exact Nat.lt_trans (by decide) h
theorem zdm {h' : Heap} {t' : Nat} {ob : HO} (I : Inv X pins σ H s) (mu : Mut (H a)) (hs : Heap.SameBut a s.heap h') (he : ∃ q,h'.get? a = some q) (new : ObjOk X.prog X.w (upd H a ob) h' a ob) :
  Inv X pins σ (upd H a ob) { s with heap:=h',toks:=t' } :=
 I.write (x:=a) (e:=a) mu (.inl rfl) (fun b q hb z=>(hs.2 b hb).trans z) he new
end
section
variable {X : Cx} {pins : List (Addr × Obj)} {σ : St} {H : Hp} {s : Shared} {a : Addr} {kvs : List (Key × V)} {k : Key} {u : Value} {A : Around} {E : Value->Shared->Prop}
end
def zd4 (i : Expr) : Prop:=∀ ov iv,subscripted i false ov iv = operate [ov,iv] (getItem ov iv)
theorem zdn {prog : Program} {w : World} {A : Around} {E : Value->Shared->Prop} {s : Shared} {env : Env} {value slice : Expr} {pos : Pos} {T id : String} {Q : Value->Shared->Prop}
  (hl : typeLookup (.type T) "__getitem__" = pure (some (.builtin id))) (hs : zd4 slice)
  (h : wpAny (model prog w) A (eval value env) (fun o s₁=>wpAny (model prog w) A (eval slice env) (fun i s₂=>s₂.TypeIs o T∧wpAny (model prog w) A (getItem o i) Q E s₂) E s₁) E s) :
  wpAny (model prog w) A (eval (.Subscript value slice pos) env) Q E s:=by
 refine Subscript_ (wpAny_mono h (fun o s₁ h₁=>wpAny_mono h₁ (fun i s₂ h₂=>?_) fun _ _ x=>x) fun _ _ x=>x)
 obtain ⟨hT,h₂⟩:=h₂
 unfold subscriptTail
 refine wpAny_bind ?_
 rw [getitemInPython_of_ne hT.not_modules]
 refine wpAny_bind (wpAny_specialOf hT hl ?_)
 have fin : wpAny (model prog w) A (subscripted slice false o i) (fun r s₃=>wpAny (model prog w) A (letTemporaryGo value o r >>= fun _=>pure r) Q E s₃) E s₂:=by
  rw [hs o i]
  exact wpAny_operating (wpAny_mono h₂ (fun r s₃ h₃=>wpAny_bind (wpAny_letTemporaryGo (wpAny_pure h₃))) fun _ _ x=>x)
 first
  | exact wpAny_pure (wpAny_bind fin)
  | exact wpAny_bind (wpAny_pure (wpAny_bind fin))
  | exact wpAny_bind fin
section
variable {X : Cx} {o i e value : Expr} {pos pos' tpos : Pos} {td ty tv : TE}
end
section
variable {X : Cx} {pos : Pos}
end
def zeu (kvs more : List (Key × V)) : List (Key × V):=more.foldl (fun acc kv=>putK acc kv.1 kv.2) kvs
theorem KV.merge : ∀ {more : List (Key × V)} {rs : List (Key × Value)} {kvs : List (Key × V)} {vs : List (Key × Value)},KV more rs->KV kvs vs->KV (zeu kvs more) (merged vs rs):=by
 intro more rs kvs vs r
 unfold KV at r
 induction r generalizing kvs vs with
 | nil=>intro q; exact q
 | @cons p q ps qs h t ih =>
  intro r0
  have e : KV (putK kvs p.1 p.2) (stored vs q.1 q.2):=by
   have:=r0.put p.1 h.2
   rw [← h.1]; exact this
  exact ih e
structure M1 (X : Cx) (o : Expr) (m : Str) (apos : Pos) (e : Expr) (cpos : Pos) : Prop where
 base : attributeBase o m X.env (eval o X.env) = eval o X.env
 few : ((backTo cpos (starEach [e] X.env)).all (fun x=>!x.1) && (backToKw cpos (keywordEach [] X.env)).all (fun x=>x.1.isSome)
  && decide (([e] : List Expr).length + ([] : List Keyword).length + (if ([] : List Keyword).isEmpty then 0 else 1) < 30)) = true
 line : (apos.endLine == cpos.line) = true
 trees : backTo cpos (starEach [e] X.env) = [(false,eval e X.env)]
structure M2 (X : Cx) (o : Expr) (m : Str) (apos : Pos) (e f : Expr) (cpos : Pos) : Prop where
 base : attributeBase o m X.env (eval o X.env) = eval o X.env
 few : ((backTo cpos (starEach [e,f] X.env)).all (fun x=>!x.1) && (backToKw cpos (keywordEach [] X.env)).all (fun x=>x.1.isSome)
  && decide (([e,f] : List Expr).length + ([] : List Keyword).length + (if ([] : List Keyword).isEmpty then 0 else 1) < 30)) = true
 line : (apos.endLine == cpos.line) = true
 trees : backTo cpos (starEach [e,f] X.env) = [(false,eval e X.env),(false,eval f X.env)]
section
variable {X : Cx} {pins : List (Addr × Obj)} {σ : St} {H : Hp} {s : Shared} {a : Addr} {y d : V} {u r : Value} {o : Option V} {A : Around} {E : Value->Shared->Prop}
end
section
variable {X : Cx} {o e f : Expr} {apos cpos : Pos} {td ty tx : TE}
end
section
variable {X : Cx} {pins : List (Addr × Obj)} {σ : St} {H : Hp} {s : Shared} {a : Addr} {kvs : List (Key × V)} {A : Around} {E : Value->Shared->Prop}
end
section
variable {X : Cx} {pins : List (Addr × Obj)} {σ : St} {H : Hp} {s : Shared} {a : Addr} {y : V} {u : Value} {A : Around} {E : Value->Shared->Prop}
end
section
variable {X : Cx}
end
section
variable {κ : Type} [DecidableEq κ]
theorem zcq {kvs : List (κ × V)} {k : κ} (h : yw kvs k = none) : ¬ k ∈ kvs.map (·.1):=by
 intro m
 obtain ⟨p,hp,e⟩:=List.mem_map.mp m
 have q : (kvs.any fun kv=>decide (kv.1 = k)) = true:=List.any_eq_true.mpr ⟨p,hp,decide_eq_true e⟩
 rw [t8,h] at q
 exact absurd q (by simp)
theorem Jq {kvs : List (κ × V)} {k : κ} {v : V} (h : yw kvs k = some v) : k ∈ kvs.map (·.1):=by
 have q : (kvs.any fun kv=>decide (kv.1 = k)) = true:=by
  rw [t8,h]
  all_goals rfl
 obtain ⟨p,hp,e⟩:=List.any_eq_true.mp q
 exact List.mem_map.mpr ⟨p,hp,of_decide_eq_true e⟩
theorem zbh : ∀ {l : List κ} {k : κ},l.Nodup->¬ k ∈ l->(l ++ [k]).Nodup
 | [],k,_,_=>by simp
 | a :: r,k,h,hk=>by
  obtain ⟨h1,h2⟩:=List.nodup_cons.mp h
  show (a :: (r ++ [k])).Nodup
  refine List.nodup_cons.mpr ⟨fun m=>?_,zbh h2 fun m=>hk (List.mem_cons.mpr (Or.inr m))⟩
  rcases List.mem_append.mp m with q | q
  ·exact h1 q
  ·exact hk (List.mem_cons.mpr (Or.inl (List.mem_singleton.mp q).symm))
theorem za4 {kvs : List (κ × V)} {k : κ} (v : V) (hn : (kvs.map (·.1)).Nodup) (h : yw kvs k = none) : ((putK kvs k v).map (·.1)).Nodup:=by
 rw [j6 v h,List.map_append]
 exact zbh hn (zcq h)
end
end L2
namespace PySem
open Sem (wp)
theorem JC : typeLookup (.type "list") "keys" = pure none:=am_miss_of_fast (by decide +kernel)
set_option maxHeartbeats 0 in
theorem Um {prog : Program} {w : World} {A : Around} {E : Value->Shared->Prop} {s : Shared} {a : Addr} {o : Obj} {xs : Array Value} {k : Nat} {Q : Option Value->Shared->Prop}
  (hx : s.heap.get? a = some o) (hc : o.cls = .type "list") (hdat : o.data = .seq xs k) (hd : o.dict = none) (hA : A.handled = none)
  (h : ∀ h' tk,(∀ b o,s.heap.get? b = some o->h'.get? b = some o)->Q none { s with heap:=h',toks:=tk }) :
  wpAny (model prog w) A (getAttr? (.ref a) "keys") Q E s:=by
 obtain ⟨c,dct,dat,sl⟩:=o
 simp only at hc hdat hd
 subst hc hdat hd
 obtain ⟨hp,g,d,tk,os⟩:=s
 have hT : ∀ tk',(⟨hp,g,d,tk',os⟩ : Shared).TypeIs (.ref a) "list":=fun _=>⟨_,hx,rfl⟩
 have f1:=sub_AttributeError
 have f3:=F.slot_list_getattribute.lookup
 have f4:=F.slot_list_getattribute.bind (.ref a)
 have f5:=am_list_getattr_none
 unfold getAttr? getAttrBy? getAttrBy
 repeat (any_goals (first | assumption | exact hT _ | ((with_reducible show wpAny _ _ (call (Value.builtin "list.__getattribute__") _ _) _ _ _); refine call_meets F.slot_list_getattribute (hT _) am_entry_list_getattribute (F.args_list_getattribute_2 _ _) (meets_getattribute_miss_list a xs k sl "keys" _ JC (by decide +kernel) (by decide +kernel)) ⟨hx,hA,fun h' tk' e hx'=>?_⟩) | wp_step))
 obtain ⟨t',u',he⟩:=hx'.there
 show wpAny _ _ (getattributeRaised _ _ _ _ _ _ _) _ _ _
 unfold getattributeRaised
 repeat (any_goals (first | assumption | wp_step))
 exact h _ _ hx'.of.keeps
namespace F
theorem ug : entryFor table "dict.update.loop" = some Builtin.«dict.update.loop»:=entryFor_of_tree (by kernel_rfl)
theorem yK : plainId "dict.update.loop" = true:=by decide +kernel
end F
section
variable {prog : Program} {w : World} {A : Around} {R : Result->Shared->Prop} {I : Addr} {fp wr : List Addr} {G : Array GenState->Array GenState->Prop} {n : Nat} {P : Nat->Value->Prop} {St : Nat->Shared->Prop}
variable {K : Type} [DecidableEq K] {knd : KeyKind prog w K}
end
section
variable {prog : Program} {w : World} {K : Type} [DecidableEq K] {knd : KeyKind prog w K} {A : Around} {E : Value->Shared->Prop} {s : Shared}
end
end PySem
namespace HT
open PySem PyProof.Rows PySem.W
section
variable {prog : Program} {w : World} {A : Around} {E : Value->Shared->Prop} {s : Shared}
end
def RawD (h : Heap) (d : Addr) (ks : List Value) (ep : Nat) : Prop:=∃ (o : Obj) (es : Array DictEntry),h.get? d = some o∧o.ExactDict∧o.data = .dict es ep∧es.toList.map (·.key) = ks
theorem RawD.at {h h' : Heap} {d : Addr} {ks : List Value} {ep : Nat} (x : RawD h d ks ep) (e : ∀ o,h.get? d = some o->h'.get? d = some o) : RawD h' d ks ep:=let ⟨o,es,ho,r⟩:=x; ⟨o,es,e _ ho,r⟩
theorem RawD.lt {h : Heap} {d : Addr} {ks : List Value} {ep : Nat} (x : RawD h d ks ep) : d < h.objs.size:=let ⟨_,_,ho,_⟩:=x; Heap.lt_size ho
theorem RawD.ty {s : Shared} {d : Addr} {ks : List Value} {ep : Nat} (x : RawD s.heap d ks ep) : s.TypeIs (.ref d) "dict":=let ⟨o,_,ho,hc,_⟩:=x; ⟨o,ho,hc.1⟩
section
variable {prog : Program} {w : World} {A : Around} {E : Value->Shared->Prop} {s : Shared} {d it : Addr} {ks : List Value} {ep i : Nat}
theorem zdz {Q : Value->Shared->Prop} (hd : (d == sysModules) = false) (hm : RawD s.heap d ks ep) (hQ : Q (.ref s.heap.objs.size) { s with heap:=s.heap.push { cls:=.type "dict_keyiterator",data:=.fields #[.ref d,.int 0 0,.int ks.length 0,.int ep 0] } }) :
  wpAny (model prog w) A (pyIter (.ref d)) Q E s:=by
 obtain ⟨o,es,ho,hc,hdat,hk⟩:=id hm
 refine wpAny_pyIter_slot hm.ty F.slot_dict_iter (wpAny_call_entry F.slot_dict_iter hm.ty F.entry_dict_iter ?_ (F.args_dict_iter_1 _))
 unfold Builtin.«dict.__iter__» Builtin.Dict.dictSlotNone
 refine wpAny_bind (wpAny_bind (wpAny_notOrdered_dict hm.ty ?_))
 show wpAny _ _ (pure (Value.ref d)) _ _ s
 refine wpAny_pure ?_
 show wpAny _ _ (Builtin.Dict.showsAll d >>= _) _ _ s
 unfold Builtin.Dict.showsAll
 rw [hd,if_neg Bool.false_ne_true]
 have hsz : es.size = ks.length:=by rw [← hk]; simp
 refine wpAny_bind (wpAny_pure (wpAny_bind (wpAny_dictEntries ho hdat (wpAny_bind (wpAny_dictEpoch ho hdat (wpAny_bind (wpAny_newObj_type (wpAny_pure ⟨_,rfl,"dict_keyiterator",_,⟨_,Heap.get?_push_size _ rfl,rfl⟩,F.slot_dict_keyiterator_next.lookup,?_⟩))))))))
 simpa [rawInt,hsz] using hQ
theorem zdB {v : Value} {Q : Option Value->Shared->Prop} (hit : s.heap.IsKeyIter it d i ks.length ep) (hm : RawD s.heap d ks ep) (hx : ks[i]? = some v)
  (hQ : ∀ h',h'.IsKeyIter it d (i + 1) ks.length ep->Heap.SameBut it s.heap h'->Q (some v) { s with heap:=h' }) : wpAny (model prog w) A (pyNext (.ref it)) Q E s:=by
 obtain ⟨o,ho,hc,hd⟩:=id hit
 obtain ⟨od,es,hod,hcd,hdd,hk⟩:=id hm
 have hsz : es.size = ks.length:=by rw [← hk]; simp
 have hlt : i < es.size:=by rw [hsz]; exact (List.getElem?_eq_some_iff.mp hx).1
 have hkey : es[i].key = v:=by
  rw [← hk,List.getElem?_map] at hx
  simpa [hlt] using hx
 have hown : Builtin.Dict_items.ownsTuple "dict_keyiterator" = false:=by decide
 unfold pyNext
 refine wpAny_bind (wpAny_attempt (wpAny_callSpecial?_slot (name:=Str.ofString "__next__") hit.typeIs F.slot_dict_keyiterator_next (wpAny_call_entry F.slot_dict_keyiterator_next hit.typeIs F.entry_dict_keyiterator_next ?_ (F.args_dict_keyiterator_next_1 _))))
 refine wpAny_bind (wpAny_pure (wpAny_bind (wpAny_bind ?_)))
 first | refine wpAny_bind (wpAny_typeNameOfWhole_keyiter hit.typeIs (wpAny_pure (wpAny_bind (wpAny_fieldsOf ho hd ?_)))) | refine wpAny_bind (wpAny_typeNameOf_keyiter hit.typeIs (wpAny_pure (wpAny_bind (wpAny_fieldsOf ho hd ?_))))
 simp only [hown,Bool.false_eq_true,if_false]
 show wpAny _ _ (if (Value.ref d == Value.none) = true then _ else _) _ _ s
 rw [if_neg (show ¬ ((Value.ref d == Value.none) = true) from Bool.false_ne_true)]
 refine wpAny_bind (wpAny_pure (wpAny_bind (wpAny_dictEntries hod hdd ?_)))
 rw [if_neg (by rw [hsz]; simp)]
 refine wpAny_bind (wpAny_pure (wpAny_bind (wpAny_dictEpoch hod hdd ?_)))
 rw [if_neg (by simp)]
 refine wpAny_pure ?_
 simp only [show ¬ ((i : Int) < 0) from by omega,if_false,Int.toNat_natCast,Array.getElem?_eq_getElem hlt]
 refine wpAny_bind ?_
 first | refine wpAny_bind (wpAny_typeNameOfWhole_keyiter hit.typeIs (wpAny_pure (wpAny_bind (wpAny_isOneOf_keyiter hit.typeIs ?_)))) | refine wpAny_bind (wpAny_typeNameOf_keyiter hit.typeIs (wpAny_pure (wpAny_bind (wpAny_isOneOf_keyiter hit.typeIs ?_))))
 show wpAny _ _ (setField (.ref it) 1 (rawInt ((i : Int) + 1)) >>= _) _ _ s
 refine wpAny_bind (wpAny_setField ho hd (by simp) ?_)
 have hit' : (s.heap.update it (Obj.mapFields (·.setIfInBounds 1 (rawInt ((i : Int) + 1))))).IsKeyIter it d (i + 1) ks.length ep :=
  ⟨_,Heap.get?_update_self _ ho (Obj.isFreed_of_fields (Obj.data_mapFields hd _)),(Obj.cls_mapFields ..).trans hc,by rw [Obj.data_mapFields hd]; simp [rawInt]⟩
 refine wpAny_bind (wpAny_holding (wpAny_bind (wpAny_isOneOf_keyiter (s:={ s with heap:=s.heap.update it (Obj.mapFields (·.setIfInBounds 1 (rawInt ((i : Int) + 1)))) }) hit'.typeIs ?_)))
 show wpAny _ _ (pure es[i].key) _ _ _
 rw [hkey]
 exact wpAny_pure (wpAny_pure ⟨_,rfl,wpAny_pure (hQ _ hit' (Heap.SameBut.update ..))⟩)
theorem zee {Q : Option Value->Shared->Prop} (hh : A.handled = none) (hit : s.heap.IsKeyIter it d ks.length ks.length ep) (hm : RawD s.heap d ks ep) (hQ : ∀ h',Heap.ExtBut it s.heap h'->Q none { s with heap:=h' }) : wpAny (model prog w) A (pyNext (.ref it)) Q E s:=by
 obtain ⟨o,ho,hc,hd⟩:=id hit
 obtain ⟨od,es,hod,hcd,hdd,hk⟩:=id hm
 have hsz : es.size = ks.length:=by rw [← hk]; simp
 have hge : es.size≤ks.length:=Nat.le_of_eq hsz
 have hown : Builtin.Dict_items.ownsTuple "dict_keyiterator" = false:=by decide
 unfold pyNext
 refine wpAny_bind (wpAny_attempt (wpAny_callSpecial?_slot (name:=Str.ofString "__next__") hit.typeIs F.slot_dict_keyiterator_next (wpAny_call_entry F.slot_dict_keyiterator_next hit.typeIs F.entry_dict_keyiterator_next ?_ (F.args_dict_keyiterator_next_1 _))))
 refine wpAny_bind (wpAny_pure (wpAny_bind (wpAny_bind ?_)))
 first | refine wpAny_bind (wpAny_typeNameOfWhole_keyiter hit.typeIs (wpAny_pure (wpAny_bind (wpAny_fieldsOf ho hd ?_)))) | refine wpAny_bind (wpAny_typeNameOf_keyiter hit.typeIs (wpAny_pure (wpAny_bind (wpAny_fieldsOf ho hd ?_))))
 simp only [hown,Bool.false_eq_true,if_false]
 show wpAny _ _ (if (Value.ref d == Value.none) = true then _ else _) _ _ s
 rw [if_neg (show ¬ ((Value.ref d == Value.none) = true) from Bool.false_ne_true)]
 refine wpAny_bind (wpAny_pure (wpAny_bind (wpAny_dictEntries hod hdd ?_)))
 rw [if_neg (by rw [hsz]; simp)]
 refine wpAny_bind (wpAny_pure (wpAny_bind (wpAny_dictEpoch hod hdd ?_)))
 rw [if_neg (by simp)]
 refine wpAny_pure ?_
 simp only [show ¬ ((ks.length : Int) < 0) from by omega,if_false,Int.toNat_natCast,Array.getElem?_eq_none hge]
 refine wpAny_bind ?_
 first | refine wpAny_bind (wpAny_typeNameOfWhole_keyiter hit.typeIs (wpAny_pure ?_)) | refine wpAny_bind (wpAny_typeNameOf_keyiter hit.typeIs (wpAny_pure ?_))
 show wpAny _ _ (setField (.ref it) 0 .none >>= _) _ _ s
 refine wpAny_bind (wpAny_setField ho hd (by simp) ?_)
 show wpAny _ _ (newExc (.type "StopIteration") [] >>= _) _ _ _
 refine wpAny_bind ?_
 simp only [newExc,newTuple]
 refine wpAny_bind (wpAny_newObj_type (wpAny_bind (m:=firstArgMember _ _) (wpAny_of_eq (a:=Value.none) (by first | rfl | (simp only [firstArgMember]; rfl)) (wpAny_newObj_type ?_ (by size_fits)))) (by size_fits))
 simp only [raiseNew]
 refine wpAny_bind (wpAny_handled ?_)
 rw [show A.in1.handled = none from hh]
 refine wpAny_bind (wpAny_pure (wpAny_throw ?_))
 refine wpAny_bind (wpAny_isInstance (T:="StopIteration") (b:=true) ⟨_,Heap.get?_push_size _ rfl,rfl⟩ isSubtype_stop ?_)
 exact wpAny_pure (hQ _ (((Heap.SameBut.update ..).extBut.push _).push _))
end
end HT
namespace L2
open PySem PySem.Spec PyProof.Rows PySem.W
def kI (ns : List Int) : List Key:=ns.map Sum.inl
theorem U7 (ns : List Int) : (kI ns).map kV = ns.map V.int:=by unfold kI; rw [List.map_map]; rfl
theorem V8 {a b : List Int} (e : kI a = kI b) : a = b:=by
 unfold kI at e
 exact List.map_inj_right (fun x y h=>by cases h; rfl) |>.mp e
section
variable {X : Cx} {pins : List (Addr × Obj)} {σ : St} {H : Hp} {s : Shared}
end
section
variable {X : Cx} {pins : List (Addr × Obj)} {σ : St} {H : Hp} {s : Shared}
end
section
variable {X : Cx}
end
end L2
namespace PySem
open Sem (wp)
section
variable {prog : Program} {w : World} {κ : Type} [DecidableEq κ] {knd : KeyKind prog w κ}
theorem IsTupleKey.get {h h' : Heap} {k : List κ} {a : Addr} (x : IsTupleKey knd h k a) (e : ∀ o,h.get? a = some o->h'.get? a = some o) : IsTupleKey knd h' k a:=by
 obtain ⟨o,its,n,h1,r⟩:=x
 exact ⟨o,its,n,e _ h1,r⟩
end
def wj {K : Type} [DecidableEq K] (xs more : List (K × Addr × Value)) : List (K × Addr × Value):=more.foldl (fun acc x=>storedH acc x.1 x.2.1 x.2.2) xs
section
variable {K : Type} [DecidableEq K]
theorem Q4 (xs more : List (K × Addr × Value)) (x : K × Addr × Value) : wj xs (more ++ [x]) = storedH (wj xs more) x.1 x.2.1 x.2.2:=by
 unfold wj
 rw [List.foldl_append]
 rfl
theorem QQ {xs : List (K × Addr × Value)} {k : K} {a : Addr} {v : Value} {x : K × Addr × Value} (h : x ∈ storedH xs k a v) : x.2.1 = a∨∃ y ∈ xs,y.2.1 = x.2.1:=by
 unfold storedH at h
 split at h
 ·obtain ⟨y,hy,rfl⟩:=List.mem_map.mp h
  refine .inr ⟨y,hy,?_⟩
  unfold putAt
  split <;> rfl
 ·rcases List.mem_append.mp h with h | h
  ·exact .inr ⟨x,h,rfl⟩
  ·rw [List.mem_singleton.mp h]; exact .inl rfl
theorem X6 : ∀ {more xs : List (K × Addr × Value)} {x : K × Addr × Value},x ∈ wj xs more->(∃ y ∈ more,y.2.1 = x.2.1)∨∃ y ∈ xs,y.2.1 = x.2.1
 | [],xs,x,h=>.inr ⟨x,h,rfl⟩
 | m :: more,xs,x,h=>by
  rcases X6 (more:=more) (xs:=storedH xs m.1 m.2.1 m.2.2) h with ⟨y,hy,e⟩ | ⟨y,hy,e⟩
  ·exact .inl ⟨y,List.mem_cons_of_mem _ hy,e⟩
  ·rcases QQ hy with e2 | ⟨z,hz,e2⟩
   ·exact .inl ⟨m,List.mem_cons_self,by rw [← e2,e]⟩
   ·exact .inr ⟨z,hz,by rw [e2,e]⟩
theorem J2 (xs : List (K × Addr × Value)) (k : K) (a : Addr) (v : Value) : (storedH xs k a v).length≤xs.length + 1:=by
 unfold storedH
 split
 ·rw [List.length_map]; omega
 ·rw [List.length_append]; exact Nat.le_refl _
theorem W7 : ∀ (more xs : List (K × Addr × Value)),(wj xs more).length≤xs.length + more.length
 | [],xs=>Nat.le_refl _
 | m :: more,xs=>by
  have h1:=W7 more (storedH xs m.1 m.2.1 m.2.2)
  have h2:=J2 xs m.1 m.2.1 m.2.2
  show (wj (storedH xs m.1 m.2.1 m.2.2) more).length≤_
  rw [List.length_cons]
  omega
end
def Yq {prog : Program} {w : World} {κ : Type} [DecidableEq κ] (knd : KeyKind prog w κ) (h : Heap) (n : Nat) (P : Nat->Value->Prop) (kvs : List (List κ × Addr × Value)) (bad : List Addr) : Prop :=
 (∀ x ∈ kvs,x.2.1 ∉ bad∧IsTupleKey knd h x.1 x.2.1)∧∀ i v,i < n->P i v->∃ T kv,kvs[i]? = some kv∧v = .ref T∧T ∉ bad∧PyProof.Rows.IsTup h T #[.ref kv.2.1,kv.2.2]
section
variable {prog : Program} {w : World} {A : Around} {R : Result->Shared->Prop} {I : Addr} {fp wr : List Addr} {G : Array GenState->Array GenState->Prop} {n : Nat} {P : Nat->Value->Prop} {St : Nat->Shared->Prop}
variable {κ : Type} [DecidableEq κ] {knd : KeyKind prog w κ}
set_option maxHeartbeats 0 in
theorem jm (hu : A.units + 8 < cLine) (W : WalksS prog w A.in1 I fp wr G n P St) (D : Addr) (hDf : D ∉ fp) (kvs : List (List κ × Addr × Value)) (hn : kvs.length = n) (hz : n≤sizeLine) :
  ∀ (k i : Nat) (s : Shared),n - i = k->i≤n->St i s->Yq knd s.heap n P kvs (D :: wr) ->
   s.heap.DictOfH (tupleKind knd) D (wj [] (kvs.take i)) ->
   (∀ s',Moved (D :: wr) G s s'->s'.heap.DictOfH (tupleKind knd) D (wj [] kvs)->R (.ok (.ret .none)) s') ->
   codeAny (model prog w) A (.builtin "dict.update.loop" ⟨[.ref D,.ref I,rawInt i,.none],[]⟩) R s:=by
 have hDw : D ∉ wr:=fun h=>hDf (W.sub _ h)
 have hsub : ∀ b ∈ wr,b ∈ D :: wr:=fun b hb=>List.mem_cons_of_mem _ hb
 have keepD : ∀ {s s' : Shared} {i : Nat},Yq knd s.heap n P kvs (D :: wr)->Moved wr G s s'->s.heap.DictOfH (tupleKind knd) D (wj [] (kvs.take i))->s'.heap.DictOfH (tupleKind knd) D (wj [] (kvs.take i)):=fun hP hm hS=>by
  obtain ⟨o,es,ep,ho,h2,h3,h4,h5,h6⟩:=hS
  refine ⟨o,es,ep,hm.heap D _ hDw ho,h2,h3,h4,fun x hx=>?_,h6⟩
  rcases X6 hx with ⟨y,hy,e⟩ | ⟨y,hy,_⟩
  ·have hb:=(hP.1 y (List.mem_of_mem_take hy)).1
   exact IsTupleKey.get (h5 x hx) fun o q=>hm.heap _ o (by rw [← e]; exact fun z=>hb (hsub _ z)) q
  ·exact nomatch hy
 have keepP : ∀ {h h' : Heap},(∀ b o,b ∉ D :: wr->h.get? b = some o->h'.get? b = some o)->Yq knd h n P kvs (D :: wr)->Yq knd h' n P kvs (D :: wr):=fun hk hP=>by
  refine ⟨fun x hx=>⟨(hP.1 x hx).1,IsTupleKey.get (hP.1 x hx).2 fun o q=>hk _ o (hP.1 x hx).1 q⟩,fun i v hi hv=>?_⟩
  obtain ⟨T,kv,e1,e2,e3,⟨o,ho,r⟩⟩:=hP.2 i v hi hv
  exact ⟨T,kv,e1,e2,e3,⟨o,hk T o e3 ho,r⟩⟩
 intro k
 induction k with
 | zero =>
  intro i s hk hi hst hP hS hR
  have hin : i = n:=by omega
  subst hin
  refine codeAny_builtin F.ug ?_
  rw [Around.under_plainId F.yK _]
  show wpAny _ A.in1 (pyNext (.ref I) >>= _) _ _ s
  refine wpAny_bind (W.done s _ _ hst fun s' hm=>?_)
  show wpAny _ A.in1 (Builtin.Dict.addKeywords D [] >>= _) _ _ s'
  refine wpAny_bind (wpAny_pure ?_)
  show wpAny _ A.in1 (ret Value.none) _ _ s'
  refine wpAny_pure (hR s' (hm.mono hsub) ?_)
  have:=keepD hP hm hS
  rwa [← hn,List.take_length] at this
 | succ k ih =>
  intro i s hk hi hst hP hS hR
  have hlt : i < n:=by omega
  refine codeAny_builtin F.ug ?_
  rw [Around.under_plainId F.yK _]
  show wpAny _ A.in1 (pyNext (.ref I) >>= _) _ _ s
  refine wpAny_bind (W.item i s _ _ hlt hst fun v s' hPv hst' hm=>?_)
  have hP' : Yq knd s'.heap n P kvs (D :: wr):=keepP (fun b o hb e=>hm.heap b o (fun z=>hb (hsub b z)) e) hP
  obtain ⟨T,kv,e1,rfl,e3,⟨o,ho,hc,m,hd⟩⟩:=hP'.2 i v hlt hPv
  have hS':=keepD hP hm hS
  have hkv:=hP'.1 kv (List.mem_of_getElem? e1)
  show wpAny _ A.in1 (holding [Value.ref T] _ >>= _) _ _ s'
  refine wpAny_bind (wpAny_holding ?_)
  refine wpAny_bind (wpAny_tryCatch ?_)
  unfold Builtin.Dict.pairItems
  refine wpAny_bind (wpAny_typeOf (show s'.TypeIs (.ref T) "tuple" from ⟨o,ho,hc⟩) ?_)
  rw [if_pos (by decide)]
  refine wpAny_bind (wpAny_seqItems ho hd ?_)
  refine wpAny_pure ?_
  show wpAny _ _ (holding [Value.ref kv.2.1,kv.2.2] (dictSet D (.ref kv.2.1) kv.2.2)) _ _ _
  refine wpAny_holding ?_
  have hlen : (wj [] (kvs.take i)).length≤sizeLine:=by
   have:=W7 (kvs.take i) []
   rw [List.length_take,List.length_nil] at this
   omega
  refine wpAny_dictSet_heap (knd:=tupleKind knd) (show (tupleKind knd).room _ from ?room) hkv.2 hS' (fun h' hd' hsb=>?_) hlen
  case room=>show Around.units _ < cLine; simp; omega
  have et : kvs.take (i + 1) = kvs.take i ++ [kv]:=by rw [List.take_succ,e1]; rfl
  rw [← Q4,← et] at hd'
  refine wpAny_pure ⟨plainId_quiet F.yK _,?_⟩
  have hsz : ((i : Int) + 1) = ((i + 1 : Nat) : Int):=by omega
  show codeAny _ _ (.builtin "dict.update.loop" ⟨[.ref D,.ref I,rawInt ((i : Int) + 1),.none],[]⟩) _ _
  rw [hsz]
  refine ih (i + 1) _ (by omega) hlt (W.frame _ s' _ _ hst' (Nat.le_add_right _ _) fun b hb o e=>?_) (keepP (fun b o hb e=>?_) hP') hd' fun s'' hm'' hS''=>?_
  ·rw [hsb.2 b (fun h : b = D=>hDf (by rw [← h]; exact hb))]; exact e
  ·rw [hsb.2 b (fun h : b = D=>hb (by rw [h]; exact List.mem_cons_self))]; exact e
  ·refine hR s'' (Moved.trans W.gtrans ((hm.mono hsub).then_heap (Nat.le_add_right _ _) fun b o hb e=>?_) hm'') hS''
   rw [hsb.2 b (fun h : b = D=>hb (by rw [h]; exact List.mem_cons_self))]; exact e
end
section
variable {prog : Program} {w : World} {κ : Type} [DecidableEq κ] {knd : KeyKind prog w κ} {A : Around} {E : Value->Shared->Prop} {s : Shared}
set_option maxHeartbeats 0 in
theorem WR {l : Addr} {o : Obj} {items : Array Value} {k : Nat} {kvs : List (List κ × Addr × Value)} {Q : Value->Shared->Prop} (hu : A.units + 16 < cLine) (hh : A.handled = none) (ho : s.heap.get? l = some o) (hc : o.cls = .type "list") (hdat : o.data = .seq items k) (hd : o.dict = none)
  (hlen : kvs.length = items.size) (hz : items.size≤sizeLine) (hK : ∀ x ∈ kvs,IsTupleKey knd s.heap x.1 x.2.1) (hP : ∀ (i : Nat) (v : Value),items[i]? = some v->∃ (T : Addr) (kv : List κ × Addr × Value),kvs[i]? = some kv∧v = .ref T∧PyProof.Rows.IsTup s.heap T #[.ref kv.2.1,kv.2.2])
  (h : ∀ h' tk,h'.DictOfH (tupleKind knd) s.heap.objs.size (wj [] kvs)->(∀ b o,s.heap.get? b = some o->h'.get? b = some o)->Q (.ref s.heap.objs.size) { s with heap:=h',toks:=tk }) :
  wpAny (model prog w) A (call (.type "dict") [.ref l]) Q E s:=by
 refine callType_codes (Q₁:=fun obj s₁=>obj = .ref s.heap.objs.size∧s₁ = { s with heap:=s.heap.push { cls:=.type "dict",data:=.dict #[] } }) F.kt_called_dict (F.kt_typeCall_dict_1 _) F.entry_dict_init (kt_code_dict_new _ ⟨rfl,rfl⟩) ?_
 rintro obj s₁ ⟨rfl,rfl⟩
 have hnew : (s.heap.push { cls:=.type "dict",data:=.dict #[] }).DictOf knd s.heap.objs.size []:=Heap.DictOf.new s.heap
 have hnewH : (s.heap.push { cls:=.type "dict",data:=.dict #[] }).DictOfH (tupleKind knd) s.heap.objs.size []:=Heap.DictOfH.new s.heap
 have ho1 : (s.heap.push { cls:=.type "dict",data:=.dict #[] }).get? l = some o:=Heap.get?_push_of_some _ ho
 refine ⟨hnew.typeIs,F.args_dict_init_2 _ _,?_⟩
 unfold Builtin.«dict.__init__»
 refine wpAny_bind ?_
 unfold Builtin.Dict.selfAndRest
 refine wpAny_bind (wpAny_notOrdered_dict hnew.typeIs ?_)
 show wpAny _ _ (pure (s.heap.objs.size,[Value.ref l])) _ _ _
 refine wpAny_pure ?_
 show wpAny _ _ (Builtin.Dict.updateFrom "dict.__init__" s.heap.objs.size (.ref l) [] .none) _ _ _
 unfold Builtin.Dict.updateFrom
 refine wpAny_bind (wpAny_typeOf (show Shared.TypeIs { s with heap:=s.heap.push { cls:=.type "dict",data:=.dict #[] } } (.ref l) "list" from ⟨o,ho1,hc⟩) ?_)
 rw [if_pos (by decide)]
 refine wpAny_bind ?_
 refine Um ho1 hc hdat hd ?_ fun h1 tk1 k1=>?_
 ·simp [hh]
 rw [if_pos (show (none : Option Value).isNone = true from rfl)]
 refine wpAny_bind (wpAny_rule ?_)
 have ho2 : h1.get? l = some o:=k1 _ _ ho1
 have hl1 : h1.IsList l items:=⟨o,ho2,hc,k,hdat⟩
 refine wpAny_bind (wpAny_pyIter_list hl1 ?_)
 refine wpAny_pure ⟨plainId_quiet F.yK _,?_⟩
 have hlS : l < s.heap.objs.size:=Heap.lt_size ho
 have hh3 : A.in1.in1.handled = none:=by simp [hh]
 have hneI : l ≠ h1.objs.size:=Nat.ne_of_lt (Heap.lt_size ho2)
 have hD1 : h1.get? s.heap.objs.size = some { cls:=.type "dict",data:=.dict #[] }:=k1 _ _ (Heap.get?_push_size _ rfl)
 have hDI : s.heap.objs.size ≠ h1.objs.size:=Nat.ne_of_lt (Heap.lt_size hD1)
 have hSf : s.heap.objs.size ∉ [h1.objs.size,l]:=by
  simp only [List.mem_cons,List.not_mem_nil,or_false,not_or]
  exact ⟨hDI,Nat.ne_of_gt hlS⟩
 have hold : ∀ b o,s.heap.get? b = some o->h1.get? b = some o:=fun b o e=>k1 _ _ (Heap.get?_push_of_some _ e)
 refine jm (knd:=knd) ?hu0 ((Walks.list hh3 h1.objs.size l hneI items).toS) s.heap.objs.size hSf kvs hlen hz (items.size - 0) 0 _ (by omega) (Nat.zero_le _)
  ⟨⟨_,Heap.get?_push_size _ rfl,rfl,rfl⟩,(hl1.push _)⟩ ?hP0 ?hS0 ?hR
 case hP0 =>
  refine ⟨fun x hx=>?_,fun i v hi hv=>?_⟩
  ·have kx:=hK x hx
   refine ⟨?_,IsTupleKey.get kx fun o q=>Heap.get?_push_of_some _ (hold _ _ q)⟩
   obtain ⟨ot,_,_,ht,_⟩:=kx
   simp only [List.mem_cons,List.not_mem_nil,or_false,not_or]
   exact ⟨Nat.ne_of_lt (Heap.lt_size ht),Nat.ne_of_lt (Heap.lt_size (hold _ _ ht))⟩
  ·obtain ⟨T,kv,e1,e2,⟨ot,ht,r⟩⟩:=hP i v hv
   have ht1:=hold _ _ ht
   refine ⟨T,kv,e1,e2,?_,⟨ot,Heap.get?_push_of_some _ ht1,r⟩⟩
   simp only [List.mem_cons,List.not_mem_nil,or_false,not_or]
   exact ⟨Nat.ne_of_lt (Heap.lt_size ht),Nat.ne_of_lt (Heap.lt_size ht1)⟩
 case hS0 =>
  obtain ⟨od,es,ep,hod,h2,h3,h4,_,h6⟩:=hnewH
  exact ⟨od,es,ep,Heap.get?_push_of_some _ (k1 _ _ hod),h2,h3,h4,(fun x hx=>nomatch hx),h6⟩
 case hu0=>simp; omega
 case hR =>
  intro s' hm hS'
  obtain ⟨h',g',d',tk',os'⟩:=s'
  have eg : g' = s.gens:=hm.gens
  have ed : d' = s.drawn:=hm.drawn
  have eo : os' = s.os:=hm.os
  subst eg; subst ed; subst eo
  refine ⟨rfl,h h' tk' hS' fun b q e=>?_⟩
  have hb1 : b ≠ s.heap.objs.size:=Nat.ne_of_lt (Heap.lt_size e)
  have hb2 : b ≠ h1.objs.size:=Nat.ne_of_lt (Heap.lt_size (hold _ _ e))
  exact hm.heap b q (by simp only [List.mem_cons,List.not_mem_nil,or_false,not_or]; exact ⟨hb1,hb2⟩) (Heap.get?_push_of_some _ (hold _ _ e))
end
end PySem
namespace HT
open PySem PySem.Spec PyProof.Rows
section
variable {prog : Program} {w : World} {A : Around} {E : Value->Shared->Prop} {s : Shared}
end
end HT
namespace L2
open PySem PySem.Spec PyProof.Rows
section
variable {X : Cx}
theorem zdi (K : PySem.W.Frag) (e : X.K = K:=by rfl) : vo X (.type "tuple") (fun xs H Q=>∃ p ys,xs = [.ref p]∧((SqL K H p ys∧∀ l,H l = none->Q (.ref l) (upd H l (.tup ys)))∨(SqT K H p ys∧Q (.ref p) H))):=by subst e; exact U6
end
abbrev NK:=List Key × List Key
section
variable {P : Program} {w : World}
def IsNK (P : Program) (w : World) (h : Heap) (k : NK) (a : Addr) : Prop :=
 ∃ ob its n c us,h.get? a = some ob∧ob.cls = .type "tuple"∧ob.data = .seq its n∧its.toList = .ref c :: us∧IsTupleKey (yl P w) h k.1 c∧ItemsAre (yl P w) k.2 us
def Yu (P : Program) (w : World) (k : NK) : List Int:=tupleKeyHash (yl P w) k.1 :: k.2.map (yl P w).hash
theorem IsNK.ty {s : Shared} {k : NK} {a : Addr} (x : IsNK P w s.heap k a) : s.TypeIs (.ref a) "tuple":=let ⟨ob,_,_,_,_,e,c,_⟩:=x; ⟨ob,e,c⟩
theorem IsNK.one {h : Heap} {a : Addr} {x y : NK} (p : IsNK P w h x a) (q : IsNK P w h y a) : x = y:=by
 obtain ⟨ob,its,n,c,us,e1,_,e2,e3,e4,e5⟩:=p
 obtain ⟨ob',its',n',c',us',f1,_,f2,f3,f4,f5⟩:=q
 rw [e1] at f1; cases f1
 rw [e2] at f2; cases f2
 rw [e3] at f3; cases f3
 exact Prod.ext (e4.inj f4) (e5.inj f5)
theorem IsNK.kept {h h' : Heap} {k : NK} {a d : Addr} {o : Obj} {es ep} (x : IsNK P w h k a) (ho : h.get? d = some o) (hd : o.data = .dict es ep) (hs : Heap.SameBut d h h') : IsNK P w h' k a:=by
 obtain ⟨ob,its,n,c,us,e1,ec,e2,e3,e4,e5⟩:=x
 have ne : a ≠ d:=fun z=>by
  subst z
  rw [e1] at ho; cases ho
  rw [hd] at e2; cases e2
 exact ⟨ob,its,n,c,us,(hs.2 a ne).trans e1,ec,e2,e3,e4.keeps ho hd hs,e5⟩
variable {A : Around} {E : Value->Shared->Prop} {s : Shared}
theorem zdp {k : NK} {a : Addr} {Q : Int->Shared->Prop} (hu : A.units + 1 < cLine) (hk : IsNK P w s.heap k a) (h : Q (reduceHash (Builtin.Tuple.tupleHashOf (Yu P w k))) { s with toks:=s.toks + (k.1.length + 1 + k.2.length + 1) }) :
  wpAny (model P w) A (pyHash (.ref a)) Q E s:=by
 have tY:=hk.ty
 obtain ⟨ob,its,n,c,us,e1,ec,e2,e3,e4,e5⟩:=hk
 unfold pyHash
 first | unfold pyHashByItsType | skip
 first | refine wpAny_bind (wpAny_cRoomFor_or (.inr (Nat.lt_of_succ_lt hu)) ?_) | skip
 refine wpAny_bind (wpAny_specialOf tY F.slot_tuple_hash.lookup ?_)
 show wpAny _ _ (if (some (Value.builtin "tuple.__hash__") == some Value.none) = true then _ else _) Q E s; rw [if_neg (by rw [beq_builtin_none]; exact Bool.false_ne_true)]
 refine wpAny_bind (wpAny_specialOf tY F.slot_tuple_hash.lookup ?_)
 show wpAny _ _ (callSpecialIfBoundUnlessNone? (.ref a) "__hash__" _ >>= _) Q E s
 refine wpAny_bind (wpAny_callSpecialIfBoundUnlessNone?_slot tY F.slot_tuple_hash (wpAny_call_entry F.slot_tuple_hash tY F.entry_tuple_hash ?_ (F.args_tuple_hash_1 _)))
 show wpAny _ _ (Builtin.Tuple.tupleItemsOf (.ref a) >>= _) _ _ s
 refine wpAny_bind (wpAny_tupleItemsOf e1 e2 ?_)
 refine wpAny_bind ?_
 rw [← Array.forIn_toList,e3]
 refine wpAny_forIn_list _
  (fun rest (b : Array Int) s'=>(rest = .ref c :: us∧b = #[]∧s' = s)∨∃ done left,k.2 = done ++ left∧ItemsAre (yl P w) left rest∧b.toList = tupleKeyHash (yl P w) k.1 :: done.map (yl P w).hash∧s' = { s with toks:=s.toks + (k.1.length + 1) + done.length })
  _ ?_ ?_ _ _ (.inl ⟨rfl,rfl,rfl⟩)
 ·rintro x rest b s' (⟨z1,rfl,rfl⟩ | ⟨done,left,z1,hl,hb,rfl⟩)
  ·cases z1
   refine wpAny_bind (wpAny_pyHash_tuple (A:=A.in1) hu e4 ?_)
   first
    | exact wpAny_pure (.inr ⟨[],k.2,rfl,e5,rfl,rfl⟩)
    | exact wpAny_bind (wpAny_pure (wpAny_pure (.inr ⟨[],k.2,rfl,e5,rfl,rfl⟩)))
  ·cases hl with
   | @cons i _ is _ h1 hl' =>
    refine wpAny_bind ((yl P w).pyHash h1 ?_)
    first
     | exact wpAny_pure (.inr ⟨done ++ [i],is,by rw [z1]; simp,hl',by simp [hb],by simp [Nat.add_assoc]⟩)
     | exact wpAny_bind (wpAny_pure (wpAny_pure (.inr ⟨done ++ [i],is,by rw [z1]; simp,hl',by simp [hb],by simp [Nat.add_assoc]⟩)))
 ·rintro b s' (⟨z1,_,_⟩ | ⟨done,left,z1,hl,hb,rfl⟩)
  ·cases z1
  ·cases hl
   rw [List.append_nil] at z1
   show wpAny _ _ (retInt (Builtin.Tuple.tupleHashOf b.toList)) _ _ _
   have eH : b.toList = Yu P w k:=by rw [hb]; unfold Yu; rw [z1]
   rw [eH]
   refine wpAny_ret_mkInt ?_
   generalize Builtin.Tuple.tupleHashOf (Yu P w k) = m at h
   show wpAny _ _ (if (decide (-(2 : Int) ^ 63≤m) && decide (m < 2 ^ 63)) = true then _ else _) Q E _
   unfold reduceHash at h
   have et : ∀ t : Nat,t + (k.1.length + 1) + done.length + 1 = t + (k.1.length + 1 + k.2.length + 1):=fun t=>by rw [z1]; omega
   by_cases hr : (decide (-(2 : Int) ^ 63≤m) && decide (m < 2 ^ 63)) = true
   ·rw [if_pos hr] at h ⊢
    refine wpAny_pure ?_
    first | (rw [← et] at h; exact h) | (simp only [Nat.add_assoc] at et ⊢; rw [← et] at h; exact h)
   ·rw [if_neg hr] at h ⊢
    refine wpAny_bind (wpAny_rule (wpAny_pure ?_))
    first | (rw [← et] at h; exact h) | (simp only [Nat.add_assoc] at et ⊢; rw [← et] at h; exact h)
theorem zay {x y : NK} {a b : Addr} {R : Fin->Shared->Prop} (hu : A.units < cLine) (hx : IsNK P w s.heap x a) (hy : IsNK P w s.heap y b) (h : R (.done (.ret (.bool (decide (x = y))))) s) :
  wpAny (model P w) A (Builtin.«tuple.__eq__» ⟨[.ref a,.ref b],[]⟩) R E s:=by
 have tY:=hy.ty
 obtain ⟨oa,ia,na,ca,ua,a1,ac,a2,a3,a4,a5⟩:=hx
 obtain ⟨ob,ib,nb,cb,ub,b1,bc,b2,b3,b4,b5⟩:=hy
 have eD : decide (x = y) = (decide (x.1 = y.1) && decide (x.2 = y.2)):=by
  rw [← Bool.decide_and]; exact decide_eq_decide.mpr Prod.ext_iff
 have eS : (ia.size == ib.size) = (ua.length == ub.length):=by
  rw [← Array.length_toList,← Array.length_toList,a3,b3,List.length_cons,List.length_cons]; simp
 show wpAny _ _ (isInstance (.ref b) (.type "tuple") >>= _) _ _ s
 refine wpAny_bind (wpAny_isInstance tY isSubtype_tuple_tuple ?_)
 simp only [Bool.not_true,Bool.false_eq_true,if_false]
 refine wpAny_bind (wpAny_tupleItemsOf a1 a2 ?_)
 refine wpAny_bind (wpAny_tupleItemsOf b1 b2 ?_)
 refine wpAny_bind ?_
 refine wpAny_forIn_list _
  (fun rest r s'=>r.1 = none∧s' = s∧(rest = List.zip (.ref ca :: ua) (.ref cb :: ub)∨(x.1 = y.1∧∃ x' y' xs' ys',rest = List.zip xs' ys'∧ItemsAre (yl P w) x' xs'∧ItemsAre (yl P w) y' ys'∧decide (x' = y') = decide (x.2 = y.2)∧(xs'.length == ys'.length) = (ua.length == ub.length))))
  _ ?_ ?_ _ _ ⟨rfl,rfl,.inl (by rw [← a3,← b3])⟩
 ·rintro ⟨u,v⟩ rest r s' ⟨hr,rfl,hz | ⟨hE,x',y',xs',ys',hz,hx',hy',hdec,hlen⟩⟩
  ·simp only [List.zip_cons_cons,List.cons.injEq,Prod.mk.injEq] at hz
   obtain ⟨⟨rfl,rfl⟩,rfl⟩:=hz
   refine wpAny_bind (wpAny_eqBool_tuple hu a4 b4 ?_)
   by_cases hk : x.1 = y.1
   ·rw [decide_eq_true hk]
    simp only [Bool.not_true,Bool.false_eq_true,if_false]
    exact wpAny_pure ⟨rfl,rfl,.inr ⟨hk,x.2,y.2,ua,ub,rfl,a5,b5,rfl,rfl⟩⟩
   ·rw [decide_eq_false hk]
    simp only [Bool.not_false,if_true]
    rw [eD,decide_eq_false hk,Bool.false_and] at h
    exact wpAny_bind (wpAny_pure (wpAny_pure (wpAny_pure h)))
  ·cases hx' with
   | nil=>simp at hz
   | @cons k1 u' x'' xs'' h1 hx'' =>
    cases hy' with
    | nil=>simp at hz
    | @cons k2 v' y'' ys'' h2 hy'' =>
     simp only [List.zip_cons_cons,List.cons.injEq,Prod.mk.injEq] at hz
     obtain ⟨⟨rfl,rfl⟩,rfl⟩:=hz
     refine wpAny_bind ((yl P w).eqBool (a:=k1) (b:=k2) h1 h2 ?_)
     by_cases hk : k1 = k2
     ·subst hk
      rw [decide_eq_true rfl]
      simp only [Bool.not_true,Bool.false_eq_true,if_false]
      exact wpAny_pure ⟨rfl,rfl,.inr ⟨hE,x'',y'',xs'',ys'',rfl,hx'',hy'',by rw [← hdec]; by_cases q : x'' = y'' <;> simp [q],by simpa using hlen⟩⟩
     ·rw [decide_eq_false hk]
      simp only [Bool.not_false,if_true]
      have hf : decide (x.2 = y.2) = false:=by rw [← hdec]; simp [hk]
      rw [eD,hf,Bool.and_false] at h
      exact wpAny_bind (wpAny_pure (wpAny_pure (wpAny_pure h)))
 ·rintro ⟨r1,r2⟩ s' ⟨hr,rfl,hz | ⟨hE,x',y',xs',ys',hz,hx',hy',hdec,hlen⟩⟩
  ·simp at hz
  simp only at hr
  subst hr
  refine wpAny_pure ?_
  have fin : (ia.size == ib.size) = decide (x = y):=by
   rw [eS,eD,decide_eq_true hE,Bool.true_and,← hdec,← hlen]
   cases hx' with
   | nil =>
    cases hy' with
    | nil=>simp
    | cons _ _=>simp
   | cons _ _ =>
    cases hy' with
    | nil=>simp
    | cons _ _=>simp at hz
  show R (.done (.ret (.bool (ia.size == ib.size)))) s'
  rw [fin]; exact h
theorem ze7 {x y : NK} {a b : Addr} {Q : Bool->Shared->Prop} (hu : A.units + 1 < cLine) (hx : IsNK P w s.heap x a) (hy : IsNK P w s.heap y b) (h : Q (decide (x = y)) s) : wpAny (model P w) A (eqBool (.ref a) (.ref b)) Q E s:=by
 unfold eqBool
 try with_reducible refine wpAny_holding ?_
 show wpAny _ _ (if (Value.ref a == Value.ref b) = true then _ else _) Q E s
 by_cases hab : (Value.ref a == Value.ref b) = true
 ·rw [if_pos hab]
  have e : a = b:=by have:=eq_of_beq hab; injection this
  subst e
  obtain rfl:=hx.one hy
  exact wpAny_bind (wpAny_rule (wpAny_pure (by simpa using h)))
 ·rw [if_neg hab]
  exact wpAny_bind (wpAny_richCompare_same_room (op:=.Eq) hx.ty hy.ty F.slot_tuple_eq (wpAny_call_entry F.slot_tuple_eq hx.ty F.entry_tuple_eq (zay (A:=A.in1) hu hx hy ⟨_,rfl,(fun e=>nomatch e),wpAny_truthy_bool h⟩) (F.args_tuple_eq_2 _ _)) (Nat.lt_of_succ_lt hu))
theorem Ve {n : Nat} {a : Addr} {ob : Obj} {its m} {Q : Bool->Shared->Prop} (e1 : s.heap.get? a = some ob) (ec : ob.cls = .type "tuple") (e2 : ob.data = .seq its m) (hq : ∀ v ∈ its.toList,∀ {Q : Bool->Shared->Prop},Q true s->wpAny (model P w) A (eqIsQuiet n v) Q E s) (h : Q true s) : wpAny (model P w) A (eqIsQuiet (n + 1) (.ref a)) Q E s:=by
 have tY : s.TypeIs (.ref a) "tuple":=⟨ob,e1,ec⟩
 unfold eqIsQuiet
 refine wpAny_bind (wpAny_specialOf tY F.slot_tuple_eq.lookup ?_)
 show wpAny _ _ (isInstance (.ref a) (.type "tuple") >>= _) _ _ s
 refine wpAny_bind (wpAny_isInstance tY isSubtype_tuple_tuple ?_)
 simp only [Bool.not_true,Bool.false_eq_true,if_false]
 refine wpAny_bind (wpAny_seqItems e1 e2 ?_)
 refine wpAny_bind ?_
 show wpAny _ _ (forIn its _ _) _ _ s
 rw [← Array.forIn_toList]
 refine wpAny_forIn_list _ (fun rest r s'=>r.1 = none∧s' = s∧∀ v ∈ rest,v ∈ its.toList) _ ?_ ?_ _ _ ⟨rfl,rfl,fun _ z=>z⟩
 ·rintro v rest r s' ⟨hr,rfl,hall⟩
  refine wpAny_bind (hq v (hall v List.mem_cons_self) ?_)
  simp only [Bool.not_true,Bool.false_eq_true,if_false]
  exact wpAny_pure ⟨rfl,rfl,fun u hu'=>hall u (List.mem_cons_of_mem _ hu')⟩
 ·rintro ⟨r1,r2⟩ s' ⟨hr,rfl,_⟩
  simp only at hr
  subst hr
  exact wpAny_pure h
theorem Ul {n : Nat} {ks : List Key} {us : List Value} (hi : ItemsAre (yl P w) ks us) : ∀ v ∈ us,∀ {Q : Bool->Shared->Prop},Q true s->wpAny (model P w) A (eqIsQuiet n v) Q E s:=fun v hv Q q=>by
 rw [eqIsQuiet_byValue _ (hi.byValue v hv)]; exact wpAny_pure q
theorem zcJ {k : NK} {a : Addr} {Q : Bool->Shared->Prop} (hk : IsNK P w s.heap k a) (h : Q true s) : wpAny (model P w) A (eqIsQuiet 8 (.ref a)) Q E s:=by
 obtain ⟨ob,its,n,c,us,e1,ec,e2,e3,⟨oc,jts,m,c1,cc,c2,c3⟩,e5⟩:=hk
 refine Ve e1 ec e2 (fun v hv=>?_) h
 rw [e3] at hv
 rcases List.mem_cons.mp hv with rfl | hv
 ·exact fun q=>Ve c1 cc c2 (Ul c3) q
 ·exact Ul e5 v hv
end
def zcs (P : Program) (w : World) : HeapKind P w NK where
 is:=IsNK P w
 hash:=fun k=>reduceHash (Builtin.Tuple.tupleHashOf (Yu P w k))
 draws:=fun k=>k.1.length + 1 + k.2.length + 1
 room:=fun A=>A.units + 1 < cLine
 inj:=fun p q=>p.one q
 keeps:=fun x ho hd hs=>x.kept ho hd hs
 pyHash:=fun hu hk h=>zdp hu hk h
 eqBool:=fun hu hx hy h=>ze7 hu hx hy h
 quiet:=fun hk h=>zcJ hk h
def zfv (P : Program) (w : World) (a : Addr) (xs : List (NK × Addr × Value)) : Heap->Prop:=fun h=>∃ o es ep,h.get? a = some o∧o.ExactDict∧o.data = .dict es ep∧es.toList = xs.map (entryOfKey (zcs P w))∧(xs.map (·.1)).Nodup
def NTup (H : Hp) (k : NK) (b : Addr) : Prop:=∃ c,H b = some (.tup (.ref c :: k.2.map kV))∧H c = some (.tup (k.1.map kV))
theorem NTup.same {H H' : Hp} {k : NK} {b : Addr} (h : NTup H k b) (s : ∀ b xs,H b = some (.tup xs)->H' b = some (.tup xs)) : NTup H' k b:=let ⟨c,h1,h2⟩:=h; ⟨c,s _ _ h1,s _ _ h2⟩
abbrev KN (H : Hp) : List (NK × V)->List (NK × Addr × Value)->Prop:=Paired fun p q=>p.1 = q.1∧NTup H p.1 q.2.1∧RelV p.2 q.2.2
theorem KN.val {H : Hp} {kvs : List (NK × V)} {xs : List (NK × Addr × Value)} (r : KN H kvs xs) (k : NK) : RelO (yw kvs k) ((atKey xs k).map (·.2)):=by
 induction r with
 | nil=>exact True.intro
 | @cons p q ps qs h t ih =>
  obtain ⟨h1,_,h2⟩:=h
  by_cases e : p.1 = k
  ·have e' : q.1 = k:=h1.symm.trans e
   rw [yP e,show atKey (q :: qs) k = some q.2 by simp [atKey,List.find?_cons,e']]; exact h2
  ·have e' : ¬ q.1 = k:=fun z=>e (h1.trans z)
   rw [yO e,show atKey (q :: qs) k = atKey qs k by simp [atKey,List.find?_cons,e']]; exact ih
theorem KN.put {H : Hp} {kvs : List (NK × V)} {xs : List (NK × Addr × Value)} (r : KN H kvs xs) (k : NK) {b : Addr} {y : V} {u : Value} (hb : NTup H k b) (ry : RelV y u) : KN H (putK kvs k y) (storedH xs k b u):=by
 have e : (kvs.any fun kv=>decide (kv.1 = k)) = (atKey xs k).isSome:=by
  rw [t8,(r.val k).isSome_eq,Option.isSome_map]
 have rep : ∀ {kvs : List (NK × V)} {xs : List (NK × Addr × Value)},KN H kvs xs->KN H (kvs.map fun kv=>if kv.1 = k then (kv.1,y) else kv) (xs.map (putAt k u)):=fun {kvs xs} r=>by
  induction r with
  | nil=>exact .nil
  | @cons p q ps qs h t ih =>
   rw [List.map_cons,List.map_cons]
   refine .cons ?_ ih
   obtain ⟨h1,h2,h3⟩:=h
   unfold putAt
   by_cases e : p.1 = k
   ·rw [if_pos e,if_pos (h1.symm.trans e)]; exact ⟨h1,h2,ry⟩
   ·rw [if_neg e,if_neg (fun z=>e (h1.trans z))]; exact ⟨h1,h2,h3⟩
 unfold putK storedH
 rw [e]
 by_cases q : (atKey xs k).isSome = true
 ·rw [if_pos q,if_pos q]; exact rep r
 ·rw [if_neg q,if_neg q]; exact Paired.snoc r ⟨rfl,hb,ry⟩
theorem KN.keeps {H H' : Hp} {kvs : List (NK × V)} {xs : List (NK × Addr × Value)} (r : KN H kvs xs) (s : ∀ b xs,H b = some (.tup xs)->H' b = some (.tup xs)) : KN H' kvs xs:=Paired.mapP r fun _ _ z=>⟨z.1,z.2.1.same s,z.2.2⟩
def DN (P : Program) (w : World) (H : Hp) (a : Addr) (kvs : List (NK × V)) : Prop:=∃ xs,H a = some (.ext (zfv P w a xs))∧KN H kvs xs∧kvs.length≤sizeLine∧(a == sysModules) = false
theorem DN.same {P : Program} {w : World} {H H' : Hp} {a : Addr} {kvs : List (NK × V)} (h : DN P w H a kvs) (s : Same H H') : DN P w H' a kvs:=let ⟨xs,h1,h2,h3⟩:=h; ⟨xs,s _ _ h1,h2.keeps fun b xs e=>s _ _ e,h3⟩
theorem DN.stay {P : Program} {w : World} {H H' : Hp} {a : Addr} {kvs : List (NK × V)} (h : DN P w H a kvs) (e : H' a = H a) (s : ∀ b xs,H b = some (.tup xs)->H' b = some (.tup xs)) : DN P w H' a kvs:=let ⟨xs,h1,h2,h3⟩:=h; ⟨xs,by rw [e]; exact h1,h2.keeps s,h3⟩
theorem DN.ne {P : Program} {w : World} {H : Hp} {a b : Addr} {kvs : List (NK × V)} {xs : List V} (h : DN P w H a kvs) (e : H b = some (.tup xs)) : b ≠ a:=let ⟨_,h1,_⟩:=h; jd e h1 (fun z=>nomatch z)
section
variable {P : Program} {w : World} {H : Hp} {h : Heap} {a b : Addr} {k : NK}
end
section
variable {X : Cx} {pins : List (Addr × Obj)} {σ : St} {H : Hp} {s : Shared} {a b : Addr} {v : V} {u r : Value} {A : Around} {E : Value->Shared->Prop} {kvs : List (NK × V)} {k : NK}
end
theorem uY {A : Around} {k : Nat} (hr : Room k A) : A.units + 2 < cLine:=by have:=hr.units; omega
section
variable {X : Cx} {o i value : Expr} {pos pos' : Pos} {td ty tv : TE}
end
def X5 (P : Program) (w : World) (a : Addr) (xs : List (List Key × Addr × Value)) (ep : Nat) : Heap->Prop:=fun h=>∃ o es,h.get? a = some o∧o.ExactDict∧o.data = .dict es ep∧es.toList = xs.map (entryOfKey (tupleKind (yl P w)))∧(xs.map (·.1)).Nodup
def DE (P : Program) (w : World) (H : Hp) (a : Addr) (kvs : List (List Key × V)) : Prop:=∃ xs ep,H a = some (.ext (X5 P w a xs ep))∧KT H kvs xs∧kvs.length≤sizeLine∧(a == sysModules) = false
theorem DE.same {P : Program} {w : World} {H H' : Hp} {a : Addr} {kvs : List (List Key × V)} (h : DE P w H a kvs) (s : Same H H') : DE P w H' a kvs:=let ⟨xs,ep,h1,h2,h3⟩:=h; ⟨xs,ep,s _ _ h1,h2.keeps fun b xs e=>s _ _ e,h3⟩
theorem DE.stay {P : Program} {w : World} {H H' : Hp} {a : Addr} {kvs : List (List Key × V)} (h : DE P w H a kvs) (e : H' a = H a) (s : ∀ b xs,H b = some (.tup xs)->H' b = some (.tup xs)) : DE P w H' a kvs:=let ⟨xs,ep,h1,h2,h3⟩:=h; ⟨xs,ep,by rw [e]; exact h1,h2.keeps s,h3⟩
theorem DE.ne {P : Program} {w : World} {H : Hp} {a b : Addr} {kvs : List (List Key × V)} {xs : List V} (h : DE P w H a kvs) (e : H b = some (.tup xs)) : b ≠ a:=let ⟨_,_,h1,_⟩:=h; jd e h1 (fun z=>nomatch z)
section
variable {P : Program} {w : World} {H : Hp} {h : Heap} {a b : Addr} {k : List Key}
theorem zbu {kvs : List (List Key × V)} (ok : HOk P w H h) (d : DE P w H a kvs) : ∃ xs,KT H kvs xs∧h.DictOfH (tupleKind (yl P w)) a xs:=by
 obtain ⟨xs,ep,e,r,_,_⟩:=d
 obtain ⟨⟨o,es,h1,h2,h3,h4,h5⟩,_⟩:=(show ObjOk P w H h a (.ext (X5 P w a xs ep)) from ok a _ e)
 refine ⟨xs,r,o,es,ep,h1,h2,h3,h4,?_,h5⟩
 have all : ∀ {l : List (List Key × V)} {m : List (List Key × Addr × Value)},KT H l m->∀ x ∈ m,(tupleKind (yl P w)).is h x.1 x.2.1:=fun {l m} q=>by
  induction q with
  | nil=>intro x hx; exact nomatch hx
  | @cons p q ps qs hq t ih =>
   intro x hx
   rcases List.mem_cons.mp hx with e | hx
   ·subst e
    exact VH ok (by rw [← hq.1]; exact hq.2.1)
   ·exact ih x hx
 exact all r
theorem Q7 {xs : List (List Key × Addr × Value)} {ep : Nat} {h' : Heap} {H' : Hp} (p : X5 P w a xs ep h') : ObjOk P w H' h' a (.ext (X5 P w a xs ep)) :=
 ⟨p,let ⟨o,_,e,_⟩:=p; ⟨o,e⟩,fun h1 h2 ⟨o,es,e,c⟩ k=>⟨o,es,k _ e,c⟩⟩
end
section
variable {X : Cx} {pins : List (Addr × Obj)} {σ : St} {H : Hp} {s : Shared} {a b : Addr} {v : V} {u r : Value} {A : Around} {E : Value->Shared->Prop} {kvs : List (List Key × V)} {k : List Key}
theorem zbG {Q : Value->Shared->Prop} (hu : A.units + 2 < cLine) (I : Inv X pins σ H s) (d : DE X.prog X.w H a kvs) (t : H b = some (.tup (k.map kV))) (l : yw kvs k = some v) (h : ∀ w' s',Inv X pins σ H s'->RelV v w'->Q w' s') : wpAny (model X.prog X.w) A (getItem (.ref a) (.ref b)) Q E s:=by
 obtain ⟨xs,rel,dd⟩:=zbu I.hok d
 obtain ⟨w',hw,rw'⟩:=RelO.some_of (v:=v) (o:=(atKey xs k).map (·.2)) (by rw [← l]; exact rel.val k)
 obtain ⟨p,hp,hp2⟩:=Option.map_eq_some_iff.mp hw
 refine wpAny_getItem_heap (knd:=tupleKind (yl X.prog X.w)) (A:=A) (tupleKind_room_in1 (by omega)) (VH I.hok t) dd hp ?_
 rw [hp2]
 exact h w' _ (I.tok _) rw'
theorem zdv {Q : Value->Shared->Prop} (hu : A.units + 2 < cLine) (I : Inv X pins σ H s) (d : DE X.prog X.w H a kvs) (t : H b = some (.tup (k.map kV))) (h : ∀ s',Inv X pins σ H s'->Q (.bool (!(yw kvs k).isSome)) s') : wpAny (model X.prog X.w) A (compareOp .NotIn (.ref b) (.ref a)) Q E s:=by
 obtain ⟨xs,rel,dd⟩:=zbu I.hok d
 obtain ⟨_,_,_,_,_,hd⟩:=d
 refine wpAny_notIn_heap (knd:=tupleKind (yl X.prog X.w)) (A:=A) (tupleKind_room_in1 (by omega)) (VH I.hok t) hd dd ?_
 have q:=(rel.val k).isSome_eq
 rw [Option.isSome_map] at q
 rw [← q]
 exact h _ (I.tok _)
theorem zb7 {Q : Unit->Shared->Prop} (hu : A.units + 2 < cLine) (I : Inv X pins σ H s) (d : DE X.prog X.w H a kvs) (t : H b = some (.tup (k.map kV))) (hl : kvs.length < sizeLine) (rv : RelV v r)
  (h : ∀ s' H',DE X.prog X.w H' a (putK kvs k v)->(∀ b,b ≠ a->H' b = H b)->Inv X pins σ H' s'->Q () s') : wpAny (model X.prog X.w) A (setItem (.ref a) (.ref b) r) Q E s:=by
 obtain ⟨xs,rel,dd⟩:=zbu I.hok d
 have nt:=fun b ys=>d.ne (b:=b) (xs:=ys)
 obtain ⟨ys,ep0,e,_,z,hd⟩:=d
 have hz : xs.length≤sizeLine:=by rw [← Paired.length rel]; exact z
 refine wpAny_setItem_heap (knd:=tupleKind (yl X.prog X.w)) (A:=A) (hsz:=hz) (tupleKind_room_in1 (by omega)) (VH I.hok t) dd fun h' dd' hs=>?_
 obtain ⟨q,es,ep,hq,h2,h3,h4,_,h5⟩:=dd'
 have sm : ∀ c,c ≠ a->upd H a (.ext (X5 X.prog X.w a (storedH xs k b r) ep)) c = H c:=fun c hc=>zq hc
 refine h _ _ ⟨storedH xs k b r,ep,zf,(rel.put k t rv).keeps fun c zs ec=>by rw [zq (nt c zs ec)]; exact ec,by have:=Ys kvs k v; omega,hd⟩ sm (zdm I (by rw [e]; exact True.intro) hs ⟨q,hq⟩ (Q7 ⟨q,es,hq,h2,h3,h4,h5⟩))
theorem zcN (I : Inv X pins σ H s) (d : DE X.prog X.w H a kvs) : s.TypeIs (.ref a) "dict":=let ⟨_,_,dd⟩:=zbu I.hok d; dd.typeIs
end
def zdU (P : Program) (w : World) (td ty : TE) : TE:=fun σ H Q=>td σ H fun x H1=>ty σ H1 fun y H2=>∃ a kvs k b v,x = .ref a∧DE P w H2 a kvs∧y = .ref b∧H2 b = some (.tup (k.map kV))∧yw kvs k = some v∧Q v H2
def zdK (P : Program) (w : World) (ty td : TE) : TE:=fun σ H Q=>ty σ H fun y H1=>td σ H1 fun x H2=>∃ a kvs k b,x = .ref a∧DE P w H2 a kvs∧y = .ref b∧H2 b = some (.tup (k.map kV))∧Q (.bl (!(yw kvs k).isSome)) H2
def ze5 (P : Program) (w : World) (td ty tv : TE) : TS:=fun D σ H=>tv σ H fun v H1=>td σ H1 fun x H2=>ty σ H2 fun y H3=>∃ a kvs k b,x = .ref a∧DE P w H3 a kvs∧y = .ref b∧H3 b = some (.tup (k.map kV))∧kvs.length < sizeLine∧∀ H4,DE P w H4 a (putK kvs k v)->(∀ c,c ≠ a->H4 c = H3 c)->D.nx σ H4
def zfc (P : Program) (w : World) : TE:=fun _ H Q=>∀ p H',H p = none->DE P w H' p []->(∀ c,c ≠ p->H' c = H c)->Q (.ref p) H'
section
variable {X : Cx} {o i value : Expr} {pos pos' : Pos} {td ty tv : TE}
theorem zdf (hu : X.A.units + 2 < cLine) (ho : PE X o td) (hi : PE X i ty) (hs : zd4 i) : PE X (.Subscript o i pos) (zdU X.prog X.w td ty):=by
 intro pins s σ H Q I h
 refine zdn PySem.F.slot_dict_getitem.lookup hs (thn (ho pins s σ H _ I h) fun u s1 ⟨x,H1,I1,rx,q1⟩=>thn (hi pins s1 σ H1 _ I1 q1) fun iv s2 ⟨y,H2,I2,ry,a,kvs,k,b,v,ex,d,ey,t,l,q2⟩=>?_)
 subst ex ey
 obtain rfl : u = Value.ref a:=rx
 obtain rfl : iv = Value.ref b:=ry
 exact ⟨zcN I2 d,zbG hu I2 d t l fun w' s3 I3 rw'=>⟨v,H2,I3,rw',q2⟩⟩
theorem zca (hu : X.A.units + 2 < cLine) (hi : PE X i ty) (ho : PE X o td) : PC X .NotIn i o (zdK X.prog X.w ty td):=by
 intro pins s σ H Q I h
 refine thn (hi pins s σ H _ I h) fun iv s1 ⟨y,H1,I1,ry,q1⟩=>thn (ho pins s1 σ H1 _ I1 q1) fun u s2 ⟨x,H2,I2,rx,a,kvs,k,b,ex,d,ey,t,q2⟩=>?_
 subst ex ey
 obtain rfl : u = Value.ref a:=rx
 obtain rfl : iv = Value.ref b:=ry
 exact zdv hu I2 d t fun s3 I3=>⟨.bl _,H2,I3,rfl,q2⟩
theorem zbv (hu : X.A.units + 2 < cLine) (ho : PE X o td) (hi : PE X i ty) (hv : PE X value tv) (hs : swapsWith value (some (.Subscript o i pos')) pos.line X.env = pure false) :
  PS X (.Assign [.Subscript o i pos'] value pos) (ze5 X.prog X.w td ty tv):=by
 intro pins s σ H D I h
 refine wpAny_Assign_Subscript (thn (hv pins s σ H _ I h) fun r s1 ⟨v,H1,I1,rv,q1⟩=>thn (ho pins s1 σ H1 _ I1 q1) fun u s2 ⟨x,H2,I2,rx,q2⟩=>thn (hi pins s2 σ H2 _ I2 q2) fun iv s3 ⟨y,H3,I3,ry,a,kvs,k,b,ex,d,ey,t,hl,q3⟩=>?_) hs
 subst ex ey
 obtain rfl : u = Value.ref a:=rx
 obtain rfl : iv = Value.ref b:=ry
 exact zb7 hu I3 d t hl rv fun s4 H4 d4 c4 I4=>⟨σ,H4,I4,q3 H4 d4 c4⟩
theorem zbl : PE X (.Dict [] [] pos) (zfc X.prog X.w):=fun pins s σ H Q I h=>by
 have p0 : X5 X.prog X.w s.heap.objs.size [] 0 (s.heap.push { cls:=.type "dict",data:=.dict #[] }):=⟨_,#[],Heap.get?_push_size _ rfl,⟨rfl,rfl,rfl⟩,rfl,rfl,List.nodup_nil⟩
 have fr:=I.hok.fresh (Nat.le_refl s.heap.objs.size)
 exact wpAny_Dict_empty ⟨.ref s.heap.objs.size,_,I.laid (a:=s.heap.objs.size) (o:=.ext (X5 X.prog X.w s.heap.objs.size [] 0)) (t':=s.toks) (fun _ _ q=>Heap.get?_push_of_some _ q) (Nat.le_refl _) (Q7 p0),rfl,h _ _ fr ⟨[],0,zf,.nil,Nat.zero_le _,beq_eq_false_iff_ne.mpr (Ne.symm (Nat.ne_of_lt I.big))⟩ fun c hc=>zq hc⟩
end
theorem jY {X : Cx} {o i : Expr} {pos : Pos} {td ty : TE} (P : Program) (w : World) (hu : X.A.units + 2 < cLine) (ho : PE X o td) (hi : PE X i ty) (hs : zd4 i) (e1 : X.prog = P:=by rfl) (e2 : X.w = w:=by rfl) : PE X (.Subscript o i pos) (zdU P w td ty):=by subst e1 e2; exact zdf hu ho hi hs
section
variable {X : Cx}
abbrev zc3 (K : PySem.W.Frag) (H : Hp) : List Addr->List (List Key × V)->Prop:=Paired fun t kv=>∃ b,SqT K H t [.ref b,kv.2]∧H b = some (.tup (kv.1.map kV))
def jR (kvs more : List (List Key × V)) : List (List Key × V):=more.foldl (fun acc kv=>putK acc kv.1 kv.2) kvs
theorem KT.merge {H : Hp} : ∀ {more : List (List Key × V)} {rs : List (List Key × Addr × Value)} {kvs : List (List Key × V)} {xs : List (List Key × Addr × Value)},KT H more rs->KT H kvs xs->KT H (jR kvs more) (wj xs rs)
 | _,_,_,_,.nil,r=>r
 | _,_,_,_,.cons (a:=p) (b:=q) h t,r=>by
  show KT H (jR (putK _ p.1 p.2) _) (wj (storedH _ q.1 q.2.1 q.2.2) _)
  rw [← h.1]
  exact KT.merge t (r.put p.1 h.2.1 h.2.2)
theorem W5 {pins : List (Addr × Obj)} {s : Shared} {σ : St} {H : Hp} (I : Inv X pins σ H s) : ∀ {ts : List Addr} {kvs : List (List Key × V)} {its : List Value},zc3 X.K H ts kvs->Vals (ts.map V.ref) its ->
  ∃ rs : List (List Key × Addr × Value),KT H kvs rs∧rs.length = its.length∧∀ (i : Nat) (v : Value),its[i]? = some v->∃ (T : Addr) (kv : List Key × Addr × Value),rs[i]? = some kv∧v = .ref T∧IsTup s.heap T #[.ref kv.2.1,kv.2.2]
 | _,_,_,.nil,r=>by
  rw [List.map_nil] at r; cases r
  exact ⟨[],.nil,rfl,fun i v e=>by cases e⟩
 | _,_,_,.cons (a:=t) (b:=kv) ⟨b,h,hb⟩ q,r=>by
  rw [List.map_cons] at r
  cases r with
  | cons r1 r2 =>
   obtain ⟨rs,k1,k2,k3⟩:=W5 I q r2
   obtain ⟨its2,rv,it,_⟩:=I.tuple h
   obtain ⟨u,w',e,ru,rw'⟩:=vals2 rv
   subst e
   cases r1
   obtain rfl : u = .ref b:=ru
   refine ⟨(kv.1,b,w') :: rs,.cons ⟨rfl,hb,rw'⟩ k1,by simp [k2],fun i v e=>?_⟩
   cases i with
   | zero=>cases e; exact ⟨t,(kv.1,b,w'),rfl,rfl,it⟩
   | succ i=>exact k3 i v e
def zcH (P : Program) (w : World) (K : PySem.W.Frag) : List V->Hp->VK->Prop:=fun xs H Q=>∃ (a : Addr) (ts : List Addr) (kvs : List (List Key × V)),xs = [.ref a]∧SqL K H a (ts.map V.ref)∧zc3 K H ts kvs∧∀ p H',H p = none->DE P w H' p (jR [] kvs)->(∀ c,c ≠ p->H' c = H c)->Q (.ref p) H'
theorem YM : ∀ (more kvs : List (List Key × V)),(jR kvs more).length≤kvs.length + more.length
 | [],kvs=>Nat.le_refl _
 | m :: more,kvs=>by
  have h1:=YM more (putK kvs m.1 m.2)
  have h2:=Ys kvs m.1 m.2
  show (jR (putK kvs m.1 m.2) more).length≤_
  rw [List.length_cons]
  omega
theorem zaE (hc : X.calm = true) (hu : X.A.units + 64 < cLine) : vo X (.type "dict") (zcH X.prog X.w X.K):=by
 intro pins s σ H xs us Q I r h
 obtain ⟨a,ts,kvs,rfl,hq,hp,q⟩:=h
 obtain ⟨u,rfl,rx⟩:=vals1 r
 cases rx
 obtain ⟨its,rv,⟨o,n,e,c,d,dat⟩,hz⟩:=I.list hq
 obtain ⟨rs,k1,k2,k3⟩:=W5 I hp rv
 have hl:=rv.length
 rw [hl] at hz
 have hk:=Paired.length k1
 have hm : (jR [] kvs).length≤sizeLine:=by
  have h1:=YM kvs []
  rw [List.length_nil] at h1
  omega
 have all : ∀ {l : List (List Key × V)} {m : List (List Key × Addr × Value)},KT H l m->∀ x ∈ m,IsTupleKey (yl X.prog X.w) s.heap x.1 x.2.1:=fun {l m} q=>by
  induction q with
  | nil=>intro x hx; exact nomatch hx
  | @cons p q ps qs hq t ih =>
   intro x hx
   rcases List.mem_cons.mp hx with e | hx
   ·subst e
    exact VH I.hok (by rw [← hq.1]; exact hq.2.1)
   ·exact ih x hx
 refine WR (knd:=yl X.prog X.w) (kvs:=rs) (by omega) (I.ok.hd hc) e c dat d (by simpa using k2) (by simpa using hz) (all k1) (fun i v hv=>k3 i v (by simpa using hv)) fun h' tk dd k=>?_
 obtain ⟨q0,es,ep,hq0,h2,h3,h4,_,h5⟩:=dd
 have fr:=I.hok.fresh (Nat.le_refl s.heap.objs.size)
 refine ⟨.ref s.heap.objs.size,_,I.laid (a:=s.heap.objs.size) (o:=.ext (X5 X.prog X.w s.heap.objs.size (wj [] rs) ep)) (t':=tk) k (Nat.le_refl _) (Q7 ⟨q0,es,hq0,h2,h3,h4,h5⟩),rfl,q _ _ fr ⟨_,ep,zf,((k1.merge .nil).keeps fun c zs ec=>by rw [zq (zy ec fr)]; exact ec),hm,beq_eq_false_iff_ne.mpr (Ne.symm (Nat.ne_of_lt I.big))⟩ fun c hc=>zq hc⟩
theorem zdw (P : Program) (w : World) (K : PySem.W.Frag) (hc : X.calm = true) (hu : X.A.units + 64 < cLine) (e1 : X.prog = P:=by rfl) (e2 : X.w = w:=by rfl) (e : X.K = K:=by rfl) : vo X (.type "dict") (zcH P w K):=by subst e e1 e2; exact zaE hc hu
end
def zbZ (P : Program) (w : World) (a : Addr) (xs : List (List Key × Addr × Value)) (ep : Nat) : It :=
 ⟨fun i H=>H a = some (.ext (X5 P w a xs ep))∧i < xs.length,fun i H v H'=>H' = H∧∃ x,xs[i]? = some x∧v = .ref x.2.1,fun i H=>H a = some (.ext (X5 P w a xs ep))∧xs.length = i⟩
theorem Jl {P : Program} {w : World} {a : Addr} {xs : List (List Key × Addr × Value)} {ep : Nat} {h : Heap} (p : X5 P w a xs ep h) : HT.RawD h a (xs.map fun x=>Value.ref x.2.1) ep:=by
 obtain ⟨o,es,h1,h2,h3,h4,_⟩:=p
 refine ⟨o,es,h1,h2,h3,?_⟩
 rw [h4,List.map_map]
 apply List.map_congr_left
 intro x _
 rfl
theorem zby {P : Program} {w : World} {K : PySem.W.Frag} {tg : Expr} (a it : Addr) (xs : List (List Key × Addr × Value)) (ep : Nat) : Turn P w K tg (zbZ P w a xs ep) [it] it (fun i h=>h.IsKeyIter it a i xs.length ep) where
 mem:=by simp
 obj:=fun i h st b hb=>by
  have e : b = it:=by simpa using hb
  subst e
  obtain ⟨o,e,c,d⟩:=st
  exact ⟨o,e,fun v z=>by rw [d] at z; cases z⟩
 keep:=fun i h h' st k=>by
  obtain ⟨o,e,r⟩:=st
  exact ⟨o,k it (by simp) o e,r⟩
 item:=by
  intro X hP hw hK hc i pins s σ H E I hf st hg
  subst hP hw hK
  obtain ⟨ha,hi⟩:=hg
  have hr:=Jl (I.hok a _ ha).1
  have hx : xs[i]? = some xs[i]:=List.getElem?_eq_getElem hi
  obtain ⟨f0,f1,f2,f3,f4,f5⟩:=hf it (by simp)
  have hlen : (xs.map fun x=>Value.ref x.2.1).length = xs.length:=List.length_map _
  refine HT.zdB (ks:=xs.map fun x=>Value.ref x.2.1) (by rw [hlen]; exact st) hr (v:=.ref xs[i].2.1) (by rw [List.getElem?_map,hx]; rfl) fun h' st' sb=>?_
  rw [hlen] at st'
  have I1 : Inv X pins σ H { s with heap:=h' }:=I.turned (t':=s.toks) (fun b o hb e=>(sb.2 b hb).trans e) f0 f1 f3 f4 f5
  obtain ⟨o,e,c,d⟩:=id st'
  exact ⟨_,rfl,zcX (s:={ s with heap:=h' }) e c d (by decide) ⟨.ref xs[i].2.1,H,I1,rfl,⟨rfl,xs[i],hx,rfl⟩,st',fun b hb=>(hf b hb).1⟩⟩
 done:=by
  intro X hP hw hK hc i pins s σ H E I hf st hg
  subst hP hw hK
  obtain ⟨ha,hi⟩:=hg
  subst hi
  have hr:=Jl (I.hok a _ ha).1
  obtain ⟨f0,f1,f2,f3,f4,f5⟩:=hf it (by simp)
  have hlen : (xs.map fun x=>Value.ref x.2.1).length = xs.length:=List.length_map _
  refine HT.zee (ks:=xs.map fun x=>Value.ref x.2.1) (I.ok.hd hc) (by rw [hlen]; exact st) hr fun h' sb=>⟨rfl,I.turned (t':=s.toks) (fun b o hb e=>sb b o hb e) f0 f1 f3 f4 f5⟩
 self:=fun _ _ _ _ _ st h=>wpAny_pyIter_keyiter st h
def ze9 (P : Program) (w : World) (tl : TE) : TI:=fun σ H R=>tl σ H fun x H1=>∃ a xs ep,x = .ref a∧H1 a = some (.ext (X5 P w a xs ep))∧(a == sysModules) = false∧R (zbZ P w a xs ep) H1
theorem JQ {X : Cx} {tg : Expr} (P : Program) (w : World) {l : Expr} {tl : TE} (hl : PE X l tl) (e1 : X.prog = P:=by rfl) (e2 : X.w = w:=by rfl) : PI X tg l (ze9 P w tl):=by
 subst e1 e2
 intro pins s σ H R I h
 refine thn (hl pins s σ H _ I h) fun v s1 ⟨x,H1,I1,r1,q1⟩=>?_
 obtain ⟨a,xs,ep,e,ha,hd,q⟩:=q1
 subst e
 obtain rfl : v = .ref a:=r1
 have hr:=Jl (I1.hok a _ ha).1
 have hlen : (xs.map fun x=>Value.ref x.2.1).length = xs.length:=List.length_map _
 refine HT.zdz hd hr ?_
 rw [hlen]
 refine ⟨s1.heap.objs.size,[s1.heap.objs.size],_,_,H1,rfl,I1.kept (t':=s1.toks) fun b o e=>Heap.get?_push_of_some _ e,zby a _ xs ep,⟨_,Heap.get?_push_size _ rfl,rfl,rfl⟩,fun b hb=>?_,q⟩
 have e : b = s1.heap.objs.size:=by simpa using hb
 subst e
 exact I1.fpOk (Nat.le_refl _) (I1.hok.fresh (Nat.le_refl _))
theorem kt_key {H : Hp} : ∀ {kvs : List (List Key × V)} {xs : List (List Key × Addr × Value)},KT H kvs xs->∀ {i : Nat} {x : List Key × Addr × Value},xs[i]? = some x->∃ kv,kvs[i]? = some kv∧H x.2.1 = some (.tup (kv.1.map kV))
 | _,_,.nil,i,x,e=>by cases e
 | _,_,.cons (a:=p) (b:=q) h t,i,x,e=>by
  cases i with
  | zero=>cases e; exact ⟨p,rfl,h.2.1⟩
  | succ i=>exact kt_key t e
theorem zcu {P : Program} {w : World} {a : Addr} {kvs : List (List Key × V)} {g : TG} {tb : TS} {D : Ends} {σ : St} {H : Hp} (d : DE P w H a kvs) (Pv : Nat->St->Hp->Prop) (h0 : Pv 0 σ H) (hl : ∀ i σ' H',i≤kvs.length->Pv i σ' H'->H' a = H a∧∀ c zs,H c = some (.tup zs)->H' c = some (.tup zs))
  (hs : ∀ i kv p σ' H',kvs[i]? = some kv->H' p = some (.tup (kv.1.map kV))->Pv i σ' H'->g (.ref p) σ' H' fun σ2 H2=>tb { D with nx:=Pv (i + 1),ct:=Pv (i + 1),bk:=D.nx } σ2 H2) (hd : ∀ σ' H',Pv kvs.length σ' H'->D.nx σ' H') :
  ∃ a' xs ep,V.ref a = .ref a'∧H a' = some (.ext (X5 P w a' xs ep))∧(a' == sysModules) = false∧∃ W : Nat->Nat->St->Hp->Prop,(∃ m,W 0 m σ H)∧∀ i m σ H,W i m σ H ->
   ((zbZ P w a' xs ep).stop i H∧D.nx σ H)∨((zbZ P w a' xs ep).go i H∧∃ N : St->Hp->Prop,(∀ σ' H',N σ' H'->∃ m',m' < m∧W (i + 1) m' σ' H')∧∀ x H',(zbZ P w a' xs ep).yld i H x H'->g x σ H' fun σ2 H2=>tb { D with nx:=N,ct:=N,bk:=D.nx } σ2 H2):=by
 obtain ⟨xs,ep,ha,kt,hz,hs0⟩:=d
 have hlen:=Paired.length kt
 refine ⟨a,xs,ep,rfl,ha,hs0,fun i m σ H=>m = kvs.length - i∧i≤kvs.length∧Pv i σ H,⟨kvs.length,by simp,Nat.zero_le _,h0⟩,?_⟩
 rintro i m σ' H' ⟨rfl,hi,p⟩
 obtain ⟨q1,q2⟩:=hl i σ' H' hi p
 by_cases hlt : i < kvs.length
 ·refine .inr ⟨⟨by rw [q1]; exact ha,by omega⟩,Pv (i + 1),fun σ' H' p'=>⟨kvs.length - (i + 1),by omega,rfl,hlt,p'⟩,fun x H2 y=>?_⟩
  obtain ⟨e,z,hz,rfl⟩:=y
  subst e
  obtain ⟨kv,h1,h2⟩:=kt_key kt hz
  exact hs i kv _ σ' _ h1 (q2 _ _ h2) p
 ·have e : i = kvs.length:=by omega
  subst e
  exact .inl ⟨⟨by rw [q1]; exact ha,hlen.symm⟩,hd σ' H' p⟩
theorem zbM {P : Program} {w : World} {a : Addr} {kvs : List (List Key × V)} {js : List Nat} {tt : TT} {te : TE} {σ : St} {H : Hp} {Q : VK} (d : DE P w H a kvs) (Pv : Nat->List V->Hp->Prop) (h0 : Pv 0 [] H) (hl : ∀ i ys H',i≤kvs.length->Pv i ys H'->H' a = H a∧∀ c zs,H c = some (.tup zs)->H' c = some (.tup zs))
  (hs : ∀ i kv p ys H',kvs[i]? = some kv->H' p = some (.tup (kv.1.map kV))->Pv i ys H'->ys.length < sizeLine∧tt (some (.ref p) :: yU js σ) H' fun b H2=>if b = true then te (some (.ref p) :: yU js σ) H2 fun v H3=>Pv (i + 1) (ys ++ [v]) H3 else Pv (i + 1) ys H2)
  (hd : ∀ ys H',Pv kvs.length ys H'->∀ D,H' D = none->Q (.ref D) (upd H' D (.lst ys))) :
  ∃ a' xs ep,V.ref a = .ref a'∧H a' = some (.ext (X5 P w a' xs ep))∧(a' == sysModules) = false∧CompLoop (zbZ P w a' xs ep) js tt te σ Q H:=by
 obtain ⟨xs,ep,ha,kt,hz,hs0⟩:=d
 have hlen:=Paired.length kt
 refine ⟨a,xs,ep,rfl,ha,hs0,fun i m ys H=>m = kvs.length - i∧i≤kvs.length∧Pv i ys H,⟨kvs.length,by simp,Nat.zero_le _,h0⟩,?_⟩
 rintro i m ys H' ⟨rfl,hi,p⟩
 obtain ⟨q1,q2⟩:=hl i ys H' hi p
 by_cases hlt : i < kvs.length
 ·have hx : xs[i]? = some (xs[i]'(by omega)):=List.getElem?_eq_getElem (by omega)
  obtain ⟨kv,h1,h2⟩:=kt_key kt hx
  obtain ⟨hz,hst⟩:=hs i kv _ ys H' h1 (q2 _ _ h2) p
  refine .inr ⟨⟨by rw [q1]; exact ha,by omega⟩,hz,Pv (i + 1),fun ys' H' p'=>⟨kvs.length - (i + 1),by omega,rfl,hlt,p'⟩,fun x H2 y=>?_⟩
  obtain ⟨e,z,hz,rfl⟩:=y
  subst e
  rw [hx] at hz
  cases hz
  exact hst
 ·have e : i = kvs.length:=by omega
  subst e
  exact .inl ⟨⟨by rw [q1]; exact ha,hlen.symm⟩,hd ys H' p⟩
def zfs (t : TS) : TS:=fun D σ H=>∃ P : St->Hp->Prop,t { D with nx:=P } σ H∧∀ σ' H',P σ' H'->D.nx σ' H'
theorem zcA {X : Cx} {st : Stmt} {t : TS} (h : PS X st t) : PS X st (zfs t):=by
 intro pins s σ H D I hw
 obtain ⟨P,h1,h2⟩:=hw
 refine thn (h pins s σ H _ I h1) fun f s1 q=>?_
 cases f with
 | next=>obtain ⟨σ',H',I',q⟩:=q; exact ⟨σ',H',I',h2 _ _ q⟩
 | ret v=>exact q
 | brk=>exact q
 | cont=>exact q
structure zfn (sc : Scope) (scope : Scope) (x : Str) (M : List Str) (ys : List Str) (js : List Nat) : Prop where
 kind : scope.kind = .function
 cell : ∀ y ∈ scope.names,y.2 = .cell->y.1 = x
 loc : ∀ y ∈ scope.names,y.2 = .local->scope.names.lookup y.1 = some .local
 var : scope.names.lookup x = some .cell
 free : ∀ y ∈ scope.names,y.2 = .free->sc.names.lookup y.1 = some .cell∨sc.names.lookup y.1 = some .free
 caps : js.map (M[·]?) = ys.map some
 fr : ∀ y ∈ ys,scope.names.lookup y = some .free
 nd : (x :: ys).Nodup
 own : ∀ n acc,cellsFrom n scope.names acc = (x,n) :: acc
 psh : ∀ h : Heap,pushCells h scope.names = h.push { cls:=.type "cell",data:=.cell none }
section
variable {X : Cx} {pins : List (Addr × Obj)} {σ : St} {H : Hp} {s : Shared}
end
section
variable {X : Cx} {elt iter : Expr} {ifs : List Expr} {x : Str} {px pos : Pos} {scope : Scope} {ys : List Str} {js : List Nat} {wi : TI} {tt : TT} {te : TE}
end
end L2
namespace PySem.W.Fast
def tw2153162504331553835:=0
def tw9274735601574501241:=0
def tw8201164349997828953:=0
def tw17160097709941605541:=0
def tw14923466861664701679:=0
def tw10519754991960231986:=0
def tw13123105952878936267:=0
def tw2944498850544054292:=0
def tw8586632396633956908:=0
def tw3357333986134492070:=0
def tw5346675074051459285:=0
def tw4391328594454220141:=0
def tw7184474466386542820:=0
def tw5737077654458357779:=0
def tw13881266092260327003:=0
def tw6118030005519055153:=0
def tw1650450112293421420:=0
def tw11071117019877395093:=0
def tw7108329858117390026:=0
def tw14455408902424543812:=0
def tw9490939304548167658:=0
def tw5447863440315420798:=0
def tw15483922940528841497:=0
def tw10190112103179562082:=0
def tw15525901110442042335:=0
def tw6880407284939762491:=0
def tw10275289072553545928:=0
def tw1459814889855395994:=0
def tw64558801134374833:=0
def tw13146831854940574578:=0
def tw6084791814340986362:=0
def tw14096574371022008404:=0
def tw8641443283904083231:=0
def tw3164124048163568527:=0
def tw13437194719867827273:=0
def tw6142967171400161180:=0
def tw14756440778154303633:=0
def tw8892076493566837590:=0
def tw7240874658724093524:=0
def tw17130164859117009914:=0
def tw11304825390193809828:=0
def tw459945933155380020:=0
def tw2517531001035678618:=0
def tw9040257081688796601:=0
def tw9784127631774214698:=0
def tw1331151918098349175:=0
def tw6268935540555176783:=0
def tw8281000479158723668:=0
def tw1370233865951717555:=0
def tw7283989791925602205:=0
def tw4457993513893872215:=0
def tw6454072964008652397:=0
def tw4363524124692363240:=0
def tw17390797857184427476:=0
def tw3702965314782237346:=0
def tw3143709181285427004:=0
def tw4638824952875792214:=0
def tw5936518398432862625:=0
def tw5036955515702471098:=0
def tw5075951859908127698:=0
def tw9039216338496144890:=0
def tw16357299518589496639:=0
def tw9289352850226323834:=0
def tw17069587910033862323:=0
def tw11071319888149060915:=0
def tw17239183365701772242:=0
def tw3113998067634574297:=0
def tw1259583701781967351:=0
def tw1739785199664844850:=0
def tw16485393214838507513:=0
def tw11514619570181610069:=0
def tw15296042067388908158:=0
def tw17644985979912397377:=0
def tw12541742726734821430:=0
def tw15289109779622869518:=0
def tw9611533748167479915:=0
def tw17788691898897168113:=0
def tw10087707546280014943:=0
def tw10586035245214954300:=0
def tw3444954814807994183:=0
def tw11751587613925347805:=0
def tw10236329865571058570:=0
def tw2114232746697243251:=0
def tw7353546771783344667:=0
def tw17000625192973718823:=0
def tw12726353752725752551:=0
def tw10470279004507366539:=0
def tw16688809408687176904:=0
def tw5851711710977751797:=0
def tw17601915002419677951:=0
def tw7768215529217043682:=0
def tw9237544342022651538:=0
def tw15519513056140637868:=0
def tw4333894976563239206:=0
def tw7147904267663507651:=0
def tw11535560952662061323:=0
def tw12234070954488101743:=0
def tw12071664862212628272:=0
def tw11690880181210699997:=0
def tw2902722548240963727:=0
def tw15884957960855872963:=0
def tw15818793186781337689:=0
def tw14694091170643013037:=0
def tw5725263098509184659:=0
def tw3101183856229831139:=0
def tw16594662890813367962:=0
def tw6781101004813335987:=0
def tw6687210448728331772:=0
def tw17010200339247307727:=0
def tw10176572956111190670:=0
def tw218621150020264658:=0
def tw1449799000362173756:=0
def tw4397946195379350987:=0
def tw599570214931400193:=0
def tw1745984584909094228:=0
def tw14854305985339815515:=0
def tw11929144075645650141:=0
def tw1694043968544035167:=0
def tw15960902181102830200:=0
def tw7322783236561215592:=0
def tw16187645921963429046:=0
def tw13883366861776184491:=0
def tw906208820388803674:=0
def tw14554023703472849811:=0
def tw11716795450527675701:=0
def tw8676837893360430963:=0
def tw8993723743986526051:=0
def tw3470773471104187424:=0
def tw1916995122911339086:=0
def tw7639702732931512526:=0
def tw16904080827740657678:=0
def tw7282663135087571637:=0
def tw5260938968956858932:=0
def tw15151517462397220699:=0
def tw12723228944189951322:=0
def tw10029856901441887802:=0
def tw5462617561217217146:=0
def tw5141339306638101994:=0
def tw188580105610689562:=0
def tw7066944362952618053:=0
def tw12828656939087333741:=0
def tw7213531024153232344:=0
def tw13340789546160523777:=0
def tw9824465559826718413:=0
def tw16566785403659634019:=0
def tw14797776486701132929:=0
def tw13662042110652458750:=0
def tw5278266243077427701:=0
def tw49385331109675156:=0
def tw7819957873820136294:=0
def tw8320790401524664500:=0
def tw4552749324350118960:=0
def tw13793410350030769211:=0
def tw15157133074143401621:=0
def tw5538271237286320032:=0
def tw8853219609919270301:=0
def tw2168680357754957181:=0
def tw1311461085734039133:=0
def tw2439044352945785257:=0
def tw9059417318312832610:=0
def tw15254119443014345303:=0
def tw5668940425691567898:=0
def tw11497923887595700717:=0
def tw3696606382023699456:=0
def tw2254368384859431163:=0
def tw7761297698409564526:=0
def tw2463331690863660692:=0
def tw11337430607771220446:=0
def tw11971766030692762252:=0
def tw436868207726795802:=0
def tw2054121447566764013:=0
def tw12462888082388695521:=0
def tw5904672146368991508:=0
def tw7783060145944129755:=0
def tw2054874914394645850:=0
def tw13855258736069131278:=0
def tw90046612334979985:=0
def tw17622769138992372692:=0
def tw5041131054316576175:=0
def tw1130526334635335120:=0
def tw7761299000298749943:=0
def tw14884444024860873274:=0
def tw6847621823405779683:=0
def tw3044403708965988392:=0
def tw4141218104733248109:=0
def tw12029142207465884196:=0
def tw11150621404611909764:=0
def tw813230239370250362:=0
def tw6521242393374913945:=0
def tw8727385655491539991:=0
def tw7851414088476611196:=0
def tw16659633812111432856:=0
def tw12415818582415799779:=0
def tw13018785923752985982:=0
def tw13476885954709971282:=0
def tw16761771063886525337:=0
def tw4756911052022433186:=0
def tw9140504035372251532:=0
def tw10055330812363967502:=0
def tw12954166771869627516:=0
def tw14275125809079312788:=0
def tw6591345103811912114:=0
def tw16102203015726559673:=0
def tw5184058881991231208:=0
def tw10762179812151855137:=0
def tw2320248817231094227:=0
def tw17663437973427208925:=0
def tw10365080153668143327:=0
def tw7462325225617054841:=0
def tw1848804033098952450:=0
def tw4258438600693959974:=0
def tw14364434663330592339:=0
def tw11278531350165433872:=0
def tw16909856271679814470:=0
def tw15316021062927455790:=0
def tw2679791753817641237:=0
def tw13664232620362380942:=0
def tw249114969296830111:=0
def tw10244498054039582769:=0
def tw5948518650657710550:=0
def tw14527757945240762481:=0
def tw6326974523977948862:=0
def tw5793245032656737159:=0
def tw12470522363960931619:=0
def tw17566250203098314677:=0
def tw188896967811414013:=0
def tw13095812305973698825:=0
def tw10615652269432304599:=0
def tw8131006630560017557:=0
def tw11930738227394890632:=0
def tw9479875329550590167:=0
def tw14945853660220764308:=0
def tw5772235862435219905:=0
def tw4165703988751802708:=0
def tw5310689210505218157:=0
def tw14293009122134914478:=0
def tw3003577945949880778:=0
def tw16292223689376569870:=0
def tw9096595374388662035:=0
def tw16526972859565351252:=0
def tw12978818982900927118:=0
def tw9995200727004908992:=0
def tw2505740730135533:=0
def tw3578302875980186416:=0
def tw1146511594619391183:=0
def tw14455831052492960760:=0
def tw4876385293894385354:=0
def tw8214046475772136920:=0
def tw10423456758176522180:=0
def tw13648636708981685323:=0
def tw10466260176700056101:=0
def tw17038809575333426145:=0
def tw2158942206815010362:=0
def tw15485033906280129538:=0
def tw17878804290550664855:=0
def tw8563435651612803937:=0
def tw12246624278482861514:=0
def tw1387946848141474166:=0
def tw13683212468605388182:=0
def tw3892816010521906976:=0
def tw14391222336673049106:=0
def tw1108643979930738684:=0
def tw4894423218272317432:=0
def tw13298836800565348671:=0
def tw5134195277045936660:=0
def tw17577277859961183852:=0
def tw12374884334798163735:=0
def tw15362810842247226815:=0
def tw2331127194263295015:=0
def tw6922888268337556443:=0
def tw6639101768965477673:=0
def tw16748619559604860015:=0
def tw6725647523211608639:=0
def tw11273645771989293930:=0
def tw2197502322886312602:=0
def tw6525147168308861681:=0
def tw92042611992594142:=0
def tw17315795765438556260:=0
def tw184400005819616537:=0
def tw12078923205511050463:=0
def tw14929200932459294402:=0
def tw18204297463186142595:=0
def tw16220746586617113322:=0
def tw15265084528973142379:=0
def tw18246285946653619412:=0
def tw2378147829162166989:=0
def tw17349810068871634585:=0
def tw8489500166804512957:=0
def tw12849919322647220573:=0
def tw16138114299314425979:=0
def tw8713881099937701354:=0
def tw15414168675941843484:=0
def tw819643662398949984:=0
def tw18380582336531618643:=0
def tw7200487810801827599:=0
def tw17751128182191253268:=0
def tw4370446138200049337:=0
def tw3286362662161528134:=0
def tw11254427770455494929:=0
def tw3667847033345938810:=0
def tw18103032833288144434:=0
def tw277059034655843106:=0
def tw15580577829233528695:=0
def tw7236892119291913881:=0
def tw1536528739073993440:=0
def tw2756981232131795264:=0
def tw2770338469302329762:=0
def tw9340774778913227914:=0
def tw4984707562079148538:=0
def tw16732237705205575643:=0
def tw13481681358971543509:=0
def tw499126885593380071:=0
def tw9983143716714969722:=0
def tw4172682802241695064:=0
def tw1152629775550103097:=0
def tw13663709789699610255:=0
def tw6246259129361863186:=0
def tw10155030041413088241:=0
def tw4653149103778759433:=0
def tw17064899024788879313:=0
def tw2936327646537636315:=0
def tw9791595872326703569:=0
def tw17125566098593558928:=0
def tw16504798915174370857:=0
def tw11858723622931397318:=0
def tw17892655094460419306:=0
def tw3228082874915139500:=0
def tw7675001931945256516:=0
def tw13034501096536665585:=0
def tw2533227880285744863:=0
def tw15822495161919134979:=0
def tw7099421232534778269:=0
def tw17236387881185804224:=0
def tw932172967003400868:=0
def tw6055419698794598530:=0
def tw7472963638601459791:=0
def tw9153627209020448192:=0
def tw12002666804350038521:=0
def tw14783833733922702208:=0
def tw11364478790341812526:=0
def tw14617205499635937070:=0
def tw4205732130580428931:=0
def tw6782368908964803138:=0
def tw9021160524932485978:=0
def tw16832810850569977198:=0
def tw15633700877501538888:=0
def tw4339489146685460850:=0
def tw2743303483332594249:=0
def tw10325656563292173311:=0
def tw1021936230381992166:=0
def tw8244256801177448780:=0
def tw13079201418995065795:=0
def tw15256336222618898347:=0
def tw11574442368206357727:=0
def tw6775670193392543919:=0
def tw16526709011628937775:=0
def tw4952443134449983401:=0
def tw13991258362974941390:=0
def tw10297609036971437243:=0
def tw5908753500846055776:=0
def tw5052966975673254749:=0
def tw2762377718346259026:=0
def tw8176617482029548516:=0
def tw8280102738977002350:=0
def tw17740144958585144571:=0
def tw10142453528024687490:=0
def tw15302072270217442859:=0
def tw14954212207031427689:=0
def tw18199661285743639033:=0
def tw3087590303634302537:=0
def tw6158311062243584836:=0
def tw13847261818189167862:=0
def tw7785688640710817927:=0
def tw17191547200386791543:=0
def tw11412941876438116802:=0
def tw1172243156206353420:=0
def tw14994947858230187827:=0
def tw14142780786341684238:=0
def tw2065584799217484857:=0
def tw5261509936211879201:=0
def tw3765242850659597538:=0
def tw6719902414710788796:=0
def tw16871248783827301640:=0
def tw8555729600740422603:=0
def tw4705879106892304763:=0
def tw17951094223770631460:=0
def tw575649025583327927:=0
def tw16190129199058594416:=0
def tw8418818823122001167:=0
def tw5581016903944170348:=0
def tw1368149198833905547:=0
def tw16431100424397318120:=0
def tw11234723215781448829:=0
def tw9129160287241238352:=0
def tw4701741516839092291:=0
def tw6931975207296054561:=0
def tw5351401578917177431:=0
def tw9231046506577533167:=0
def tw3361100129799164033:=0
def tw1658408751542859687:=0
def tw16896634297957343049:=0
end PySem.W.Fast
namespace Lw
open PySem L2 PyProof.Rows
def top (i : Nat) : Stmt:=PySem.Challenge.pw_lackstretch_k22_good_numbers_of_lengths.main.body.getD i (.Pass ⟨0,0,0,0⟩)
abbrev zdL : Stmt:=top 0
abbrev tE : Stmt:=top 10
abbrev jq : Stmt:=top 11
abbrev YB : Stmt:=top 12
abbrev jx : Stmt:=top 13
abbrev vC : Stmt:=top 14
abbrev qw : Stmt:=top 15
abbrev qb : Stmt:=top 16
abbrev vD : Stmt:=top 17
abbrev YG : Stmt:=top 18
abbrev ux : Stmt:=top 19
abbrev wz : Stmt:=top 20
abbrev wX : Stmt:=top 21
abbrev uy : Stmt:=top 23
abbrev vI : Stmt:=top 24
abbrev yo : Stmt:=top 25
abbrev ud : Stmt:=top 28
abbrev uq : Stmt:=top 29
abbrev qe : Stmt:=top 30
abbrev tL : Stmt:=inClass (top 31) 0
abbrev wC : Stmt:=inClass (top 31) 1
abbrev yW : Stmt:=inClass (top 31) 2
abbrev Xc : Stmt:=inClass (top 31) 3
abbrev Xg : Stmt:=inClass (top 31) 4
abbrev yx : Stmt:=inClass (top 31) 5
abbrev XS : Stmt:=inClass (top 31) 6
abbrev XM : Stmt:=inClass (top 31) 7
abbrev YK : Stmt:=inClass (top 31) 8
abbrev xj : Stmt:=top 33
abbrev uh : Stmt:=inClass (top 34) 0
abbrev yC : Stmt:=inClass (top 34) 1
abbrev wk : Stmt:=inClass (top 34) 2
abbrev xf : Stmt:=inClass (top 34) 3
abbrev Yj : Stmt:=inClass (top 34) 4
abbrev yR : Stmt:=inClass (top 34) 5
abbrev vK : Stmt:=top 35
abbrev wZ : Stmt:=top 37
abbrev vJ : Stmt:=top 38
abbrev uG : Stmt:=top 39
abbrev qZ : Stmt:=top 40
abbrev jJ : Stmt:=top 42
abbrev wY : Stmt:=top 43
abbrev xR : Stmt:=top 44
abbrev tK : Stmt:=top 45
abbrev ul : Stmt:=top 46
abbrev qz : Stmt:=top 47
abbrev vG : Stmt:=top 48
abbrev xr : Stmt:=top 49
abbrev xn : Stmt:=top 50
abbrev jz : Stmt:=top 51
abbrev ut : Stmt:=top 52
abbrev yH : Stmt:=top 53
abbrev qx : Stmt:=top 54
abbrev yI : Stmt:=top 55
abbrev qC : Stmt:=top 56
abbrev Ur : Stmt:=top 57
section
variable {P : Program} {w : World} {K : PySem.W.Frag} {mg : Str->Option Value} {base : Heap}
def tW : Sp:=fun vs H Q _=>∃ i : Int,vs = [.int i]∧Q (.bl true) H
theorem zad : zE ["thing"] ["thing"] (zu tE):=⟨rfl,rfl,rfl,by decide +kernel,rfl,by decide +kernel,by decide +kernel⟩
theorem ju {f : Addr} {fd : FuncData} (D : Df K mg "is_whole" tE ["thing"] f fd) (T : Blt mg) : FnOk P w K mg base CX0 1 f fd ["thing"] tW:=by
 refine D.fn.ok zad (fun vs H Q E h=>?_) (fun cdv A outer s H vs Q E hr h=>?_)
 ·obtain ⟨i,rfl,_⟩:=h; rfl
 ·obtain ⟨i,rfl,q⟩:=h
  refine ⟨_,(zx (zL (jf (zB V3 (by rfl) T.n_isinstance boot_isinstance (zc (pv 0) (zc (Zv (v:=.ty "int") rfl T.n_int boot_int rfl) zg))) (jQ (zaI (zB V3 (by rfl) T.n_isinstance boot_isinstance (zc (pv 0) (zc (Zv (v:=.ty "bool") rfl T.n_bool boot_bool rfl) zg)))))))),?_⟩
  refine ⟨_,rfl,_,_,_,_,rfl,.int i,Vc,_,rfl,wF ?_⟩
  refine ⟨_,rfl,_,_,_,_,rfl,.int i,XF,_,rfl,?_⟩
  exact q
def Xn : Sp:=fun vs H Q _=>∃ i : Int,vs = [.int i]∧Q (.bl (decide (2≤i∧i≤16))) H
theorem zax : zE ["thing"] ["thing"] (zu YB):=⟨rfl,rfl,rfl,by decide +kernel,rfl,by decide +kernel,by decide +kernel⟩
theorem za0 {f f1 : Addr} {fd fd1 : FuncData} {t1 t2 : Tok} (D : Df K mg "is_base" YB ["thing"] f fd) (yM : Df K mg "is_whole" tE ["thing"] f1 fd1) (T : Blt mg) (Zx : mg "LEAST_BASE" = some (.int 2 t1)) (qj : mg "GREATEST_BASE" = some (.int 16 t2)) :
  FnOk P w K mg base CX0 2 f fd ["thing"] Xn:=by
 have qK : FnOk P w K mg base CX0 1 f1 fd1 ["thing"] tW:=ju yM T
 refine D.fn.ok zax (fun vs H Q E h=>?_) (fun cdv A outer s H vs Q E hr h=>?_)
 ·obtain ⟨i,rfl,_⟩:=h; rfl
 ·obtain ⟨i,rfl,q⟩:=h
  refine ⟨_,(zx (zL (jf (zO yM qK (hr.mono (by decide)) (zc (pv 0) zg)) (jQ (VG YZ YZ (XX (v:=.int 2) rfl Zx ⟨_,rfl⟩) (pv 0) (XX (v:=.int 16) rfl qj ⟨_,rfl⟩)))))),?_⟩
  refine ⟨_,rfl,i,rfl,_,rfl,wF ?_⟩
  refine ⟨_,rfl,_,_,rfl,rfl,_,rfl,?_⟩
  refine Uu (fun h1=>?_) (fun h1=>?_)
  ·have h1' : (2 : Int)≤i:=of_decide_eq_true h1
   refine ⟨_,_,rfl,rfl,?_⟩
   rw [show decide (2≤i∧i≤16) = decide (i≤16) by simp [h1']] at q
   exact q
  ·have h1' : ¬ (2 : Int)≤i:=fun z=>h1 (decide_eq_true z)
   rw [show decide (2≤i∧i≤16) = false by simp [h1']] at q
   exact q
end
section
variable {P : Program} {w : World} {K : PySem.W.Frag} {mg : Str->Option Value} {base : Heap}
def ZL : Sp:=fun vs H Q _=>∃ i : Int,vs = [.int i]∧Q (.bl (decide (0≤i))) H
theorem Jg : zE ["thing"] ["thing"] (zu jq):=⟨rfl,rfl,rfl,by decide +kernel,rfl,by decide +kernel,by decide +kernel⟩
theorem Jm {f f1 : Addr} {fd fd1 : FuncData} (D : Df K mg "is_number" jq ["thing"] f fd) (yM : Df K mg "is_whole" tE ["thing"] f1 fd1) (T : Blt mg) :
  FnOk P w K mg base CX0 2 f fd ["thing"] ZL:=by
 have qK : FnOk P w K mg base CX0 1 f1 fd1 ["thing"] tW:=ju yM T
 refine D.fn.ok Jg (fun vs H Q E h=>?_) (fun cdv A outer s H vs Q E hr h=>?_)
 ·obtain ⟨i,rfl,_⟩:=h; rfl
 ·obtain ⟨i,rfl,q⟩:=h
  refine ⟨_,(zx (zL (jf (zO yM qK (hr.mono (by decide)) (zc (pv 0) zg)) (jQ (uI zdS (pv 0) zp (ye _)))))),?_⟩
  refine ⟨_,rfl,i,rfl,_,rfl,wF ?_⟩
  exact ⟨_,rfl,_,_,rfl,rfl,q⟩
end
structure Deck (H : Hp) (d : Addr) (fp : List Addr) : Prop where
 ex : ∃ (pp : Addr) (qs : List Addr) (i : Int),fp = d :: pp :: qs∧H d = some (.lst [.ref pp,.int i])∧H pp = some (.lst (qs.map V.ref))∧qs ≠ []∧qs.length≤63∧∀ q ∈ qs,∃ a b c : Int,H q = some (.lst [.int a,.int b,.int c])
theorem Deck.there {H : Hp} {d : Addr} {fp : List Addr} (D : Deck H d fp) : ∀ b ∈ fp,H b ≠ none:=by
 obtain ⟨pp,qs,i,rfl,h1,h2,_,_,h3⟩:=D.ex
 intro b hb
 rcases List.mem_cons.mp hb with e | hb
 ·rw [e,h1]; simp
 ·rcases List.mem_cons.mp hb with e | hb
  ·rw [e,h2]; simp
  ·obtain ⟨x,y,z,e⟩:=h3 b hb
   rw [e]; simp
theorem Deck.fresh {H : Hp} {d b : Addr} {fp : List Addr} (D : Deck H d fp) (h : H b = none) : b ∉ fp:=fun z=>D.there b z h
theorem Deck.same {H H' : Hp} {d : Addr} {fp : List Addr} (D : Deck H d fp) (s : Same H H') : Deck H' d fp:=by
 obtain ⟨pp,qs,i,rfl,h1,h2,h3,h4,h5⟩:=D.ex
 exact ⟨pp,qs,i,rfl,s _ _ h1,s _ _ h2,h3,h4,fun q hq=>by obtain ⟨x,y,z,e⟩:=h5 q hq; exact ⟨x,y,z,s _ _ e⟩⟩
theorem Deck.upd {H : Hp} {d l : Addr} {o : HO} {fp : List Addr} (D : Deck H d fp) (h : l ∉ fp) : Deck (L2.upd H l o) d fp:=by
 obtain ⟨pp,qs,i,rfl,h1,h2,h3,h4,h5⟩:=D.ex
 have ne : ∀ b ∈ d :: pp :: qs,b ≠ l:=fun b hb z=>h (z ▸ hb)
 refine ⟨pp,qs,i,rfl,?_,?_,h3,h4,fun q hq=>?_⟩
 ·rw [zq (ne d (by simp))]; exact h1
 ·rw [zq (ne pp (by simp))]; exact h2
 ·obtain ⟨x,y,z,e⟩:=h5 q hq
  exact ⟨x,y,z,by rw [zq (ne q (by simp [hq]))]; exact e⟩
section
variable {P : Program} {w : World} {K : PySem.W.Frag} {mg : Str->Option Value} {base : Heap}
def ZD (K : PySem.W.Frag) : Sp:=fun vs H Q _=>∃ (a : Addr) (ns : List Int),vs = [.ref a]∧SqL K H a (ns.map V.int)∧ns.length≤63 ∧
 ∀ d fp H',Deck H' d fp->Same H H'->(∀ b ∈ fp,H b = none)->Q (.ref d) H'
theorem uD : zE ["script","pools","k","cell"] ["script"] (zu jJ):=⟨rfl,rfl,rfl,by decide +kernel,rfl,by decide +kernel,by decide +kernel⟩
theorem Wc {f : Addr} {fd : FuncData} (D : Df K mg "_law_deck" jJ ["script"] f fd) (T : Blt mg) : FnOk P w K mg base CX0 1 f fd ["script"] (ZD K):=by
 refine D.fn.ok uD (fun vs H Q E h=>?_) (fun cdv A outer s H vs Q E hr h=>?_)
 ·obtain ⟨a,ns,rfl,_⟩:=h; rfl
 ·obtain ⟨a,ns,rfl,hS,hlen,k⟩:=h
  refine ⟨_,(zm (zF (i:=1) uD.nd rfl (Or.inl rfl) (zU zg))
   (zm (xM PassesOwn.never rfl (zY rfl T.n_range (zc (zB (zb3 rfl) (by rfl) T.n_max boot_max (zc zp (zc (zB (Wo rfl) (by rfl) T.n_min boot_min (zc zp (zc (zB qy (by rfl) T.n_len PySem.boot_len (zc (pv 0) zg)) zg))) zg))) zg)) (zR (i:=2) uD.nd rfl (Or.inl rfl))
    (zm (zF (i:=3) uD.nd rfl (Or.inl rfl) zp)
    (zm (xQ (yd zdV (pv 2) (zB qy (by rfl) T.n_len PySem.boot_len (zc (pv 0) zg)) (ye _))
     (zx (zF (i:=3) uD.nd rfl (Or.inl rfl) (zQ wK (pv 0) (pv 2) (fun _ _=>rfl))))
     yj)
    (zx (xP (Z3 PySem.F.plainAttrs_list PySem.F.slot_list_append PySem.F.type_list_append vd (pv 1) (zc (zU (zc (pv 3) (zc (tG Wq (by rfl) T.n_int boot_int (zc (uI zdS (pv 3) (zM zed zp zp) (ye _)) zg)) (zc (zM uB zp (pv 2)) zg)))) zg)))))))
   (zx (zL (zU (zc (pv 1) (zc zp zg))))))),?_⟩
  refine ⟨(by decide : 0≤sizeLine),fun pp hpp=>?_⟩
  have s0 : Same H (upd H pp (.lst [])):=zj hpp
  refine ⟨_,rfl,a,_,rfl,.inl (s0.seq hS),63,(ns.length : Int),by simp,1,_,rfl,?_⟩
  generalize hM : (if (if (ns.length : Int) < 63 then (ns.length : Int) else 63) > 1 then (if (ns.length : Int) < 63 then (ns.length : Int) else 63) else 1) = M
  have hM1 : 1≤M∧M≤63:=by
   rw [← hM]; split <;> split <;> omega
  refine ⟨M,rfl,by omega,by omega,yD (lo:=0) (n:=M.toNat) (fun i σ H2=>∃ (qs : List Addr) (v1 v2 : Option V),σ = [some (.ref a),some (.ref pp),v1,v2]∧qs.length = i∧H2 pp = some (.lst (qs.map V.ref))∧Same H H2 ∧
    (∀ q ∈ qs,H q = none∧∃ a b c : Int,H2 q = some (.lst [.int a,.int b,.int c]))) ?_ ?_ ?_⟩
  ·exact ⟨[],none,none,rfl,rfl,zf,s0,fun q hq=>by cases hq⟩
  ·rintro i σ H2 hi ⟨qs,v1,v2,rfl,hl,h1,sH,h2⟩
   have hS2:=sH.seq hS
   have put : ∀ (cell : Int) (p : Addr),H2 p = none->∀ y z : Int,∃ (qs' : List Addr) (v1 v2 : Option V),([some (.ref a),some (.ref pp),some (.int (0 + (i : Int))),some (.int cell)] : L2.St) = [some (.ref a),some (.ref pp),v1,v2]∧qs'.length = i + 1∧(upd (upd H2 p (.lst [.int cell,.int y,.int z])) pp (.lst (qs.map V.ref ++ [.ref p]))) pp = some (.lst (qs'.map V.ref)) ∧
     Same H (upd (upd H2 p (.lst [.int cell,.int y,.int z])) pp (.lst (qs.map V.ref ++ [.ref p])))∧(∀ q ∈ qs',H q = none∧∃ a b c : Int,(upd (upd H2 p (.lst [.int cell,.int y,.int z])) pp (.lst (qs.map V.ref ++ [.ref p]))) q = some (.lst [.int a,.int b,.int c])):=by
    intro cell p hp y z
    have npp : p ≠ pp:=fun e=>by rw [e,h1] at hp; cases hp
    refine ⟨qs ++ [p],_,_,rfl,by simp [hl],by rw [zf]; simp,fun b o e=>?_,fun q hq=>?_⟩
    ·rw [zq (zy e hpp),zq (fun z=>by have:=sH b o e; rw [z,hp] at this; cases this)]; exact sH b o e
    ·rcases List.mem_append.mp hq with hq | hq
     ·obtain ⟨hn,a',b',c',e⟩:=h2 q hq
      have n1 : q ≠ pp:=fun z=>by
       rw [z,h1] at e
       have e':=Option.some.inj e
       injection e' with e'
       cases qs with
       | nil=>cases hq
       | cons q0 qr=>rw [List.map_cons] at e'; injection e' with e1 _; cases e1
      exact ⟨hn,a',b',c',by rw [zq n1,zq (zy e hp)]; exact e⟩
     ·have e : q = p:=by simpa using hq
      subst e
      exact ⟨sH.free hp,cell,y,z,by rw [zq npp,zf]⟩
   have rest : ∀ cell : Int,∀ D : Ends,(∀ (p : Addr),H2 p = none->∀ y z : Int,D.nx [some (.ref a),some (.ref pp),some (.int (0 + (i : Int))),some (.int cell)] (upd (upd H2 p (.lst [.int cell,.int y,.int z])) pp (.lst (qs.map V.ref ++ [.ref p]))))->True:=fun _ _ _=>trivial
   refine ⟨_,rfl,_,rfl,a,_,rfl,.inl hS2,_,_,rfl,rfl,_,rfl,?_⟩
   have fin : ∀ (cell : Int) (p : Addr),H2 p = none->True:=fun _ _ _=>trivial
   refine Uu (fun hlt=>?_) (fun hge=>?_)
   ·have hlt' : i < ns.length:=by
     have:=of_decide_eq_true hlt
     rw [List.length_map] at this
     omega
    refine ⟨_,rfl,_,rfl,a,_,_,.int (ns[i]),rfl,rfl,hS2,?_,?_⟩
    ·rw [Int.zero_add]; exact yQ (by rw [List.getElem?_map,List.getElem?_eq_getElem hlt']; rfl)
    ·refine ⟨_,rfl,.inl ⟨rfl,_,SqL.of h1⟩,_,rfl,_,rfl,_,_,rfl,rfl,⟨by decide,by decide,by decide⟩,_,_,rfl,rfl,.inr ⟨_,rfl,_,rfl,_,_,rfl,rfl,.inl ⟨by decide,by decide⟩,(by decide : 3≤sizeLine),fun p hp=>?_⟩⟩
     refine ⟨pp,_,_,rfl,rfl,?_,?_,put _ p hp _ _⟩
     ·rw [zq (fun z=>by rw [← z,h1] at hp; cases hp)]; exact h1
     ·rw [List.length_map,hl]; exact Nat.lt_of_lt_of_le (show i < 64 by omega) (by decide)
   ·refine ⟨_,rfl,.inl ⟨rfl,_,SqL.of h1⟩,_,rfl,_,rfl,_,_,rfl,rfl,⟨by decide,by decide,by decide⟩,_,_,rfl,rfl,.inr ⟨_,rfl,_,rfl,_,_,rfl,rfl,.inl ⟨by decide,by decide⟩,(by decide : 3≤sizeLine),fun p hp=>?_⟩⟩
    refine ⟨pp,_,_,rfl,rfl,?_,?_,put _ p hp _ _⟩
    ·rw [zq (fun z=>by rw [← z,h1] at hp; cases hp)]; exact h1
    ·rw [List.length_map,hl]; exact Nat.lt_of_lt_of_le (show i < 64 by omega) (by decide)
  ·rintro σ H2 ⟨qs,v1,v2,rfl,hl,h1,sH,h2⟩
   refine ⟨_,rfl,(by decide : 2≤sizeLine),fun d hd=>?_⟩
   have nd : ∀ b o,H2 b = some o->b ≠ d:=fun b o e=>zy e hd
   refine k d (d :: pp :: qs) _ ⟨pp,qs,0,rfl,zf,?_,?_,by omega,fun q hq=>?_⟩ (sH.trans (zj hd)) (fun b hb=>?_)
   ·rw [zq (nd _ _ h1)]; exact h1
   ·intro z; rw [z] at hl; simp at hl; omega
   ·obtain ⟨_,x,y,z,e⟩:=h2 q hq
    exact ⟨x,y,z,by rw [zq (nd _ _ e)]; exact e⟩
   ·rcases List.mem_cons.mp hb with e | hb
    ·rw [e]; exact sH.free hd
    ·rcases List.mem_cons.mp hb with e | hb
     ·rw [e]; exact hpp
     ·exact (h2 b hb).1
end
structure Stp (fp : List Addr) (d : Addr) (H H' : Hp) : Prop where
 dk : Deck H' d fp
 sm : Same (aw fp H) (aw fp H')
theorem Stp.refl {fp : List Addr} {d : Addr} {H : Hp} (D : Deck H d fp) : Stp fp d H H:=⟨D,Same.refl _⟩
theorem Stp.trans {fp : List Addr} {d : Addr} {H H1 H2 : Hp} (a : Stp fp d H H1) (b : Stp fp d H1 H2) : Stp fp d H H2:=⟨b.dk,a.sm.trans b.sm⟩
theorem Stp.of {fp : List Addr} {d : Addr} {H H' : Hp} (D : Deck H d fp) (s : Same H H') : Stp fp d H H':=⟨D.same s,s.aw fp⟩
theorem Stp.free {fp : List Addr} {d p : Addr} {H H' : Hp} (a : Stp fp d H H') (h : H' p = none) : H p = none:=by
 cases e : H p with
 | none=>rfl
 | some o =>
  by_cases hp : p ∈ fp
  ·exact absurd h (a.dk.there p hp)
  ·have z:=a.sm p o (by rw [zP hp]; exact e)
   rw [zP hp,h] at z; cases z
theorem Stp.get {fp : List Addr} {d p : Addr} {H H' : Hp} {o : HO} (a : Stp fp d H H') (hp : p ∉ fp) (h : H p = some o) : H' p = some o:=by
 have z:=a.sm p o (by rw [zP hp]; exact h)
 rw [zP hp] at z; exact z
theorem Stp.new {fp : List Addr} {d p : Addr} {H H' : Hp} {o : HO} (a : Stp fp d H H') (h : H' p = none) : Stp fp d H (upd H' p o):=a.trans (.of a.dk (zj h))
section
variable {P : Program} {w : World} {K : PySem.W.Frag} {mg : Str->Option Value} {base : Heap}
def vh : Sp:=fun vs H Q _=>∃ (d : Addr) (m : Int) (fp : List Addr),vs = [.ref d,.int m]∧Deck H d fp∧0 < m∧m < 2 ^ 200 ∧
 ∀ (r : Nat) (H' : Hp),(r : Int) < m->Stp fp d H H'->Q (.int r) H'
theorem vg : zE ["deck","many","pool","found","number"] ["deck","many"] (zu wY):=⟨rfl,rfl,rfl,by decide +kernel,rfl,by decide +kernel,by decide +kernel⟩
theorem QC {fp : List Addr} {H : Hp} {b : Addr} {o : HO} (h : b ∈ fp) : aw fp (upd H b o) = aw fp H:=by
 funext c
 by_cases hc : c ∈ fp
 ·rw [q9 hc,q9 hc]
 ·rw [zP hc,zP hc,zq (fun z : c = b=>hc (by rw [z]; exact h))]
theorem um {f : Addr} {fd : FuncData} (D : Df K mg "_law_draw" wY ["deck","many"] f fd) (T : Blt mg) : FnOk P w K mg base CX0 1 f fd ["deck","many"] vh:=by
 refine D.fn.ok vg (fun vs H Q E h=>?_) (fun cdv A outer s H vs Q E hr h=>?_)
 ·obtain ⟨d,m,fp,rfl,_⟩:=h; rfl
 ·obtain ⟨d,m,fp,rfl,DK,hm0,hm1,k⟩:=h
  obtain ⟨pp,qs,i,rfl,h1,h2,h3,h4,h5⟩:=DK.ex
  refine ⟨_,(zm (zF (i:=2) vg.nd rfl (Or.inl rfl) (zQ wK (zQ wK (pv 0) zp (fun _ _=>rfl)) (zM Yh (zQ wK (pv 0) zp (fun _ _=>rfl)) (zB qy (by rfl) T.n_len PySem.boot_len (zc (zQ wK (pv 0) zp (fun _ _=>rfl)) zg))) (fun _ _=>rfl)))
   (zm (WK (zM yu (zQ wK (pv 0) zp (fun _ _=>rfl)) zp) (zav (pv 0) zp set_list))
   (zm (xQ (PW.pt (Q9 (yd YQ (zQ wK (pv 2) zp (fun _ _=>rfl)) zp (ye _)) (Vu (yd zae (zQ wK (pv 2) zp (fun _ _=>rfl)) zp (ye _)))))
    (zm (zF (i:=3) vg.nd rfl (Or.inl rfl) (zM Yh (zQ wK (pv 2) zp (fun _ _=>rfl)) (pv 1)))
    (zm (WK (zM Yl (zQ wK (pv 2) zp (fun _ _=>rfl)) (pv 1)) (zav (pv 2) zp set_list))
    (zx (zL (pv 3)))))
    yj)
   (zm (WK (zM yu (zQ wK (pv 2) zp (fun _ _=>rfl)) zp) (zav (pv 2) zp set_list))
   (zm (zF (i:=4) vg.nd rfl (Or.inl rfl) (zM Yh (zM yu (zM Yh (zQ wK (pv 2) zp (fun _ _=>rfl)) zp) (zM uB zp (zQ wK (pv 2) zp (fun _ _=>rfl)))) zp))
   (zm (zF (i:=4) vg.nd rfl (Or.inl rfl) (zM Yh (zM uB (pv 4) (pv 4)) zp))
   (zm (zF (i:=4) vg.nd rfl (Or.inl rfl) (zM Yh (zM uB (pv 4) (zM yu (pv 4) zp)) zp))
   (zx (zL (zM Yh (zM Yl (pv 4) zp) (pv 1))))))))))),?_⟩
  have hql : 0 < qs.length:=by cases qs with | nil=>exact absurd rfl h3 | cons _ _=>simp
  have hj0 : 0≤i % (qs.length : Int):=Int.emod_nonneg _ (by omega)
  have hj1 : i % (qs.length : Int) < qs.length:=Int.emod_lt_of_pos _ (by omega)
  obtain ⟨j,hj⟩ : ∃ j : Nat,i % (qs.length : Int) = (j : Int):=⟨(i % (qs.length : Int)).toNat,by omega⟩
  have hjl : j < qs.length:=by omega
  have hq : qs[j] ∈ qs:=List.getElem_mem hjl
  generalize hqe : qs[j] = q at hq
  obtain ⟨a,b,c,hqv⟩:=h5 q hq
  have e0 : atI [V.ref pp,V.int i] 0 = some (V.ref pp):=rfl
  have e1 : atI [V.ref pp,V.int i] 1 = some (V.int i):=rfl
  refine ⟨_,rfl,d,_,_,_,rfl,rfl,SqL.of h1,e0,?_⟩
  refine ⟨_,rfl,d,_,_,_,rfl,rfl,SqL.of h1,e1,?_⟩
  refine ⟨_,rfl,d,_,_,_,rfl,rfl,SqL.of h1,e0,pp,_,rfl,.inl (SqL.of h2),_,_,rfl,rfl,(by rw [List.length_map]; omega),?_⟩
  refine ⟨pp,_,_,V.ref q,rfl,rfl,SqL.of h2,?_,?_⟩
  ·rw [List.length_map,hj]
   exact yQ (by rw [List.getElem?_map,List.getElem?_eq_getElem hjl,hqe]; rfl)
  refine ⟨_,rfl,d,_,_,_,rfl,rfl,SqL.of h1,e1,_,_,rfl,rfl,_,rfl,d,_,_,1,rfl,rfl,h1,rfl,?_⟩
  have nqd : q ≠ d:=fun z=>by rw [z,h1] at hqv; cases hqv
  have nqp : q ≠ pp:=fun z=>by
   rw [z,h2] at hqv
   injection hqv with hqv
   injection hqv with hqv
   cases qs with
   | nil=>cases hq
   | cons x y=>rw [List.map_cons] at hqv; injection hqv with z1 _; cases z1
  have npd : pp ≠ d:=fun z=>by
   rw [z,h1] at h2
   injection h2 with h2
   injection h2 with h2
   cases qs with
   | nil=>cases hq
   | cons x y =>
    rw [List.map_cons] at h2
    injection h2 with _ z2
    cases y with
    | nil=>cases z2
    | cons y z=>rw [List.map_cons] at z2; injection z2 with z3 _; cases z3
  have hqv1 : (upd H d (.lst [V.ref pp,V.int (i + 1)])) q = some (.lst [.int a,.int b,.int c]):=by rw [zq nqd]; exact hqv
  have back : ∀ a' b' c' : Int,Deck (upd (upd H d (.lst [V.ref pp,V.int (i + 1)])) q (.lst [.int a',.int b',.int c'])) d (d :: pp :: qs):=fun a' b' c'=>by
   refine ⟨pp,qs,i + 1,rfl,?_,?_,h3,h4,fun q' hq'=>?_⟩
   ·rw [zq (Ne.symm nqd),zf]
   ·rw [zq (Ne.symm nqp),zq npd]; exact h2
   ·by_cases z : q' = q
    ·subst z; exact ⟨a',b',c',zf⟩
    ·obtain ⟨x,y,z',e⟩:=h5 q' hq'
     have n1 : q' ≠ d:=fun w=>by rw [w,h1] at e; cases e
     exact ⟨x,y,z',by rw [zq z,zq n1]; exact e⟩
  have kept : ∀ o,Same (aw (d :: pp :: qs) H) (aw (d :: pp :: qs) (upd (upd H d (.lst [V.ref pp,V.int (i + 1)])) q o)):=fun o=>by
   rw [QC (by simp [hq]),QC (by simp)]; exact Same.refl _
  have fin : ∀ (x a' b' c' : Int),Q (.int (x % m)) (upd (upd H d (.lst [V.ref pp,V.int (i + 1)])) q (.lst [.int a',.int b',.int c'])):=fun x a' b' c'=>by
   obtain ⟨r,hr⟩:=Int.eq_ofNat_of_zero_le (Int.emod_nonneg x (show m ≠ 0 by omega))
   rw [hr]
   exact k r _ (hr ▸ Int.emod_lt_of_pos x hm0) ⟨back _ _ _,kept _⟩
  refine ⟨_,rfl,q,_,_,V.int b,rfl,rfl,SqL.of hqv1,rfl,rfl,_,rfl,?_⟩
  have rest : ∀ D : Ends,(∀ v H',D.rt v H' = Q v H')->zb5 (zaA (tOp (rI0 fun i j=>.int (i + j)) (tOp (zc2 K) (Vl 2) (tC (.int 2))) (tC (.int 1))) (ze0 (Vl 2) (tC (.int 2)) zdO))
    (zb5 (zaA (tOp (rI (fun _ j=>0 < j) fun i j=>.int (i % j)) (tOp (rI0 fun i j=>.int (i + j)) (tOp (rI (fun _ j=>0 < j) fun i j=>.int (i % j)) (tOp (zc2 K) (Vl 2) (tC (.int 0))) (tC (.int 99999999977))) (tOp (rI CMul fun i j=>.int (i * j)) (tC (.int 700001)) (tOp (zc2 K) (Vl 2) (tC (.int 2))))) (tC (.int 99999999947))) (Ug 4))
    (zb5 (zaA (tOp (rI (fun _ j=>0 < j) fun i j=>.int (i % j)) (tOp (rI CMul fun i j=>.int (i * j)) (Vl 4) (Vl 4)) (tC (.int 99999999821))) (Ug 4))
    (zb5 (zaA (tOp (rI (fun _ j=>0 < j) fun i j=>.int (i % j)) (tOp (rI CMul fun i j=>.int (i * j)) (Vl 4) (tOp (rI0 fun i j=>.int (i + j)) (Vl 4) (tC (.int 19)))) (tC (.int 9999999967))) (Ug 4))
    (ze6 (tOp (rI (fun _ j=>0 < j) fun i j=>.int (i % j)) (tOp (rI zdW fun i j=>.int (i / j)) (Vl 4) (tC (.int 13))) (Vl 1)))))) D [some (.ref d),some (.int m),some (.ref q),none,none] (upd H d (.lst [V.ref pp,V.int (i + 1)])):=by
   intro D hD
   refine ⟨_,rfl,q,_,_,V.int c,rfl,rfl,SqL.of hqv1,rfl,_,_,rfl,rfl,_,rfl,q,_,_,2,rfl,rfl,hqv1,rfl,?_⟩
   have hqv2 : (upd (upd H d (.lst [V.ref pp,V.int (i + 1)])) q (.lst [.int a,.int b,.int (c + 1)])) q = some (.lst [.int a,.int b,.int (c + 1)]):=zf
   refine ⟨_,rfl,q,_,_,V.int a,rfl,rfl,SqL.of hqv2,rfl,_,_,rfl,rfl,(by decide : (0 : Int) < 99999999977),?_⟩
   refine ⟨_,rfl,q,_,_,V.int (c + 1),rfl,rfl,SqL.of hqv2,rfl,_,_,rfl,rfl,.inl ⟨by decide,by decide⟩,_,_,rfl,rfl,_,_,rfl,rfl,(by decide : (0 : Int) < 99999999947),?_⟩
   generalize hn1 : (a % 99999999977 + 700001 * (c + 1)) % 99999999947 = n1
   have n1b : 0≤n1∧n1 < 99999999947:=by rw [← hn1]; exact ⟨Int.emod_nonneg _ (by decide),Int.emod_lt_of_pos _ (by decide)⟩
   refine ⟨_,rfl,_,rfl,_,_,rfl,rfl,.inl ⟨by omega,by omega⟩,_,_,rfl,rfl,(by decide : (0 : Int) < 99999999821),?_⟩
   generalize hn2 : n1 * n1 % 99999999821 = n2
   have n2b : 0≤n2∧n2 < 99999999821:=by rw [← hn2]; exact ⟨Int.emod_nonneg _ (by decide),Int.emod_lt_of_pos _ (by decide)⟩
   refine ⟨_,rfl,_,rfl,_,_,rfl,rfl,_,_,rfl,rfl,.inl ⟨by omega,by omega⟩,_,_,rfl,rfl,(by decide : (0 : Int) < 9999999967),?_⟩
   generalize hn3 : n2 * (n2 + 19) % 9999999967 = n3
   refine ⟨_,rfl,_,_,rfl,rfl,⟨by decide,by decide⟩,_,rfl,_,_,rfl,rfl,hm0,?_⟩
   rw [hD]
   exact fin _ _ _ _
  refine Uu (fun _=>?_) (fun _=>?_)
  ·refine ⟨_,rfl,q,_,_,V.int a,rfl,rfl,SqL.of hqv1,rfl,_,_,rfl,rfl,_,rfl,?_⟩
   refine Uu (fun _=>?_) (fun _=>?_)
   ·refine ⟨_,rfl,q,_,_,V.int a,rfl,rfl,SqL.of hqv1,rfl,_,rfl,_,_,rfl,rfl,hm0,?_⟩
    refine ⟨_,rfl,q,_,_,V.int a,rfl,rfl,SqL.of hqv1,rfl,_,rfl,_,_,rfl,rfl,⟨hm0,hm1⟩,_,rfl,q,_,_,0,rfl,rfl,hqv1,rfl,?_⟩
    refine ⟨_,rfl,?_⟩
    exact fin _ _ _ _
   ·exact rest _ (fun _ _=>rfl)
  ·exact rest _ (fun _ _=>rfl)
end
section
variable {P : Program} {w : World} {K : PySem.W.Frag} {mg : Str->Option Value} {base : Heap}
def ZC : Sp:=fun vs H Q _=>∃ b i : Int,vs = [.int b,.int i]∧Q (.bl (decide (0≤i∧i < b))) H
theorem Q3 : zE ["base","thing"] ["base","thing"] (zu jx):=⟨rfl,rfl,rfl,by decide +kernel,rfl,by decide +kernel,by decide +kernel⟩
theorem Jv {f f1 : Addr} {fd fd1 : FuncData} (D : Df K mg "is_figure" jx ["base","thing"] f fd) (yM : Df K mg "is_whole" tE ["thing"] f1 fd1) (T : Blt mg) : FnOk P w K mg base CX0 2 f fd ["base","thing"] ZC:=by
 have qK : FnOk P w K mg base CX0 1 f1 fd1 ["thing"] tW:=ju yM T
 refine D.fn.ok Q3 (fun vs H Q E h=>?_) (fun cdv A outer s H vs Q E hr h=>?_)
 ·obtain ⟨b,i,rfl,_⟩:=h; rfl
 ·obtain ⟨b,i,rfl,q⟩:=h
  refine ⟨_,(zx (zL (jf (zO yM qK (hr.mono (by decide)) (zc (pv 1) zg)) (jQ (VG YZ zdV zp (pv 1) (pv 0)))))),?_⟩
  refine ⟨_,rfl,i,rfl,_,rfl,wF ?_⟩
  refine ⟨_,rfl,_,_,rfl,rfl,_,rfl,?_⟩
  refine Uu (fun h1=>?_) (fun h1=>?_)
  ·have h1' : (0 : Int)≤i:=of_decide_eq_true h1
   refine ⟨_,rfl,_,_,rfl,rfl,?_⟩
   rw [show decide (0≤i∧i < b) = decide (i < b) by simp [h1']] at q
   exact q
  ·have h1' : ¬ (0 : Int)≤i:=fun z=>h1 (decide_eq_true z)
   rw [show decide (0≤i∧i < b) = false by simp [h1']] at q
   exact q
def qW : Sp:=fun vs H Q _=>∃ (b : Int) (a : Addr) (ns : List Int),vs = [.int b,.ref a]∧H a = some (.lst (ns.map V.int))∧ns.length≤1000∧∀ H',Same H H'->Q (.bl (ns.all fun i=>decide (0≤i∧i < b))) H'
theorem Ux : zE ["base","thing"] ["base","thing"] (zu vC):=⟨rfl,rfl,rfl,by decide +kernel,rfl,by decide +kernel,by decide +kernel⟩
theorem Uw {f f1 : Addr} {fd fd1 : FuncData} (D : Df K mg "are_figures" vC ["base","thing"] f fd) (ZG : Df K mg "is_figure" jx ["base","thing"] f1 fd1) (Xh : FnOk P w K mg base CX0 2 f1 fd1 ["base","thing"] ZC) (T : Blt mg) :
  FnOk P w K mg base CX0 3 f fd ["base","thing"] qW:=by
 refine D.fn.ok Ux (fun vs H Q E h=>?_) (fun cdv A outer s H vs Q E hr h=>?_)
 ·obtain ⟨b,a,ns,rfl,_⟩:=h; rfl
 ·obtain ⟨b,a,ns,rfl,ha,hlen,kk⟩:=h
  refine ⟨_,(zx (zL (jf (zB (JR K) (by rfl) T.n_isinstance boot_isinstance (zc (pv 1) (zc (Zv (v:=.ty "list") rfl T.n_list boot_list rfl) zg))) (jQ (zB (k_all K rfl) (by rfl) T.n_all boot_all (zc (wJ (show CScope (zu vC) _ "each" ["base","thing"] ["base"] [0] from ⟨rfl,by decide +kernel,by decide +kernel,rfl,by decide +kernel,rfl,by decide +kernel,by decide +kernel⟩) rfl (Z6 K (pv 1)) (fun _ _ _ _=>yE) (fun _ _ _ _=>(zO ZG Xh (hr.mono (by decide)) (zc (pv 1) (zc (pv 0) zg))))) zg)))))),?_⟩
  refine ⟨_,rfl,_,_,_,_,rfl,.lst ha,Y6,_,rfl,wF ?_⟩
  refine ⟨_,rfl,a,rfl,⟨_,SqL.of ha⟩,wD (K:=K) (a:=a) (xs:=ns.map V.int) (fun i ys H4=>ys = ((ns.take i).map fun i=>decide (0≤i∧i < b)).map V.bl∧H4 = H) ⟨by simp,rfl⟩ (fun i ys H4 _ ⟨_,e⟩=>by rw [e]; exact SqL.of ha) ?_ ?_⟩
  ·rintro j x ys H4 hx ⟨rfl,rfl⟩
   refine ⟨?_,?_⟩
   ·rw [List.length_map,List.length_map,List.length_take]
    exact Nat.lt_of_le_of_lt (Nat.le_trans (Nat.min_le_right _ _) hlen) (by decide)
   obtain ⟨z,hz,rfl⟩ : ∃ z,ns[j]? = some z∧x = V.int z:=by
    rw [List.getElem?_map] at hx
    obtain ⟨z,h,e⟩:=Option.map_eq_some_iff.mp hx
    exact ⟨z,h,e.symm⟩
   unfold jo
   dsimp only
   rw [if_pos rfl]
   refine ⟨_,rfl,_,rfl,b,z,rfl,?_,rfl⟩
   rw [List.take_succ,hz]
   simp
  ·rintro ys H4 ⟨rfl,rfl⟩ Dd hD
   refine ⟨Dd,_,rfl,SqL.of zf,?_⟩
   have q:=kk _ (zj hD (o:=.lst (((ns.take (ns.map V.int).length).map fun i=>decide (0≤i∧i < b)).map V.bl)))
   rw [List.length_map,List.take_length] at q ⊢
   rw [List.all_map]
   exact q
end
section
variable {P : Program} {w : World} {K : PySem.W.Frag} {mg : Str->Option Value} {base : Heap}
structure RuleAt (H : Hp) (r : Addr) (b : Nat) (bl : Addr) (zs : List (Addr × List Int)) : Prop where
 tu : H r = some (.tup [.int b,.ref bl])
 li : H bl = some (.lst (zs.map fun z=>V.ref z.1))
 st : ∀ z ∈ zs,H z.1 = some (.lst (z.2.map V.int))
theorem RuleAt.same {H H' : Hp} {r bl : Addr} {b : Nat} {zs : List (Addr × List Int)} (R : RuleAt H r b bl zs) (s : Same H H') : RuleAt H' r b bl zs:=⟨s _ _ R.tu,s _ _ R.li,fun z hz=>s _ _ (R.st z hz)⟩
structure WN (b : Nat) (l : List Int) : Prop where
 ne : l ≠ []
 len : l.length≤4
 fig : ∀ f ∈ l,0≤f∧f < b
structure zW (b : Nat) (ls : List (List Int)) : Prop where
 b2 : 2≤b
 b16 : b≤16
 len : ls.length≤4
 st : ∀ l ∈ ls,WN b l
 up : ls.Pairwise fun x y=>HT.lexLt x y = true
theorem zbV {b : Nat} {ns : List Int} (h : ∀ f ∈ ns,0≤f∧f < (b : Int)) : (ns.all fun i=>decide (0≤i∧i < (b : Int))) = true:=by
 rw [List.all_eq_true]; intro x hx; exact decide_eq_true (h x hx)
def jZ : Sp:=fun vs H Q _=>∃ (b : Nat) (a : Addr) (ns : List Int),vs = [.int b,.ref a]∧H a = some (.lst (ns.map V.int))∧WN b ns∧∀ H',Same H H'->Q (.bl true) H'
theorem Qc : zE ["base","thing"] ["base","thing"] (zu qw):=⟨rfl,rfl,rfl,by decide +kernel,rfl,by decide +kernel,by decide +kernel⟩
theorem U9 {f f1 : Addr} {fd fd1 : FuncData} {t1 : Tok} (D : Df K mg "is_stretch" qw ["base","thing"] f fd) (qF : Df K mg "are_figures" vC ["base","thing"] f1 fd1) (Zu : FnOk P w K mg base CX0 3 f1 fd1 ["base","thing"] qW) (uf : mg "LONGEST_STRETCH" = some (.int 4 t1)) (T : Blt mg) :
  FnOk P w K mg base CX0 4 f fd ["base","thing"] jZ:=by
 refine D.fn.ok Qc (fun vs H Q E h=>?_) (fun cdv A outer s H vs Q E hr h=>?_)
 ·obtain ⟨b,a,ns,rfl,_⟩:=h; rfl
 ·obtain ⟨b,a,ns,rfl,ha,g,kk⟩:=h
  refine ⟨_,(zx (zL (jf (zO qF Zu (hr.mono (by decide)) (zc (pv 0) (zc (pv 1) zg))) (jQ (VG YZ YZ zp (zB (vV K) (by rfl) T.n_len PySem.boot_len (zc (pv 1) zg)) (XX (v:=.int 4) rfl uf ⟨_,rfl⟩)))))),?_⟩
  have hlen:=g.len
  refine ⟨_,rfl,_,rfl,b,a,ns,rfl,ha,Nat.le_trans hlen (by decide),fun H1 s1=>?_⟩
  rw [zbV g.fig]
  refine ⟨_,rfl,wF ?_⟩
  have hpos : 0 < ns.length:=List.length_pos_iff.mpr g.ne
  refine ⟨_,rfl,a,_,rfl,.inl (SqL.of (s1 _ _ ha)),_,_,rfl,rfl,_,rfl,?_⟩
  rw [List.length_map,decide_eq_true (show (1 : Int)≤(ns.length : Int) by omega)]
  refine wF ?_
  refine ⟨_,_,rfl,rfl,?_⟩
  dsimp only
  rw [decide_eq_true (show (ns.length : Int)≤4 by omega)]
  exact kk H1 s1
def ZJ : Sp:=fun vs H Q _=>∃ (bl : Addr) (zs : List (Addr × List Int)),vs = [.ref bl]∧H bl = some (.lst (zs.map fun z=>V.ref z.1))∧(∀ z ∈ zs,H z.1 = some (.lst (z.2.map V.int)))∧zs.length≤4∧(zs.map (·.2)).Pairwise (fun x y=>HT.lexLt x y = true)∧∀ H',Same H H'->Q (.bl true) H'
theorem QM : zE ["stretches"] ["stretches"] (zu qb):=⟨rfl,rfl,rfl,by decide +kernel,rfl,by decide +kernel,by decide +kernel⟩
theorem zbq {n : Nat} : (List.replicate n true).all id = true:=by
 rw [List.all_eq_true]; intro x hx; exact (List.mem_replicate.mp hx).2
theorem XH {f : Addr} {fd : FuncData} (D : Df K mg "is_rising" qb ["stretches"] f fd) (T : Blt mg) : FnOk P w K mg base CX0 1 f fd ["stretches"] ZJ:=by
 refine D.fn.ok QM (fun vs H Q E h=>?_) (fun cdv A outer s H vs Q E hr h=>?_)
 ·obtain ⟨bl,zs,rfl,_⟩:=h; rfl
 ·obtain ⟨bl,zs,rfl,hb,hz,h4,up,kk⟩:=h
  have HU:=Vj hr
  refine ⟨_,(zx (zL (zB (k_all K rfl) (by rfl) T.n_all boot_all (zc (wJ (show CScope (zu qb) _ "k" ["stretches"] ["stretches"] [0] from ⟨rfl,by decide +kernel,by decide +kernel,rfl,by decide +kernel,rfl,by decide +kernel,by decide +kernel⟩) rfl (zY rfl T.n_range (zc (zM qU (zB (vV K) (by rfl) T.n_len PySem.boot_len (zc (pv 0) zg)) zp) zg)) (fun _ _ _ _=>yE) (fun _ _ _ _=>(uI (zeZ K HU) (zQ (yS K) (pv 1) (pv 0) (fun _ _=>rfl)) (zQ (yS K) (pv 1) (zM yu (pv 0) zp) (fun _ _=>rfl)) (ye _)))) zg)))),?_⟩
  refine ⟨_,rfl,bl,_,rfl,.inl (SqL.of hb),_,_,rfl,rfl,_,rfl,?_⟩
  rw [List.length_map]
  refine ⟨by omega,by omega,xJ (lo:=0) (n:=((zs.length : Int) - 1).toNat) (fun i ys H4=>ys = (List.replicate i true).map V.bl∧H4 = H) ⟨by simp,rfl⟩ ?_ ?_⟩
  ·rintro i ys H4 hi ⟨rfl,rfl⟩
   refine ⟨by rw [List.length_map,List.length_replicate]; exact Nat.lt_of_lt_of_le (show i < 5 by omega) (by decide),?_⟩
   unfold jo
   dsimp only
   rw [if_pos rfl]
   have hi0 : i < zs.length:=by omega
   have hi1 : i + 1 < zs.length:=by omega
   have g0 : atI (zs.map fun z=>V.ref z.1) (0 + (i : Int)) = some (.ref (zs[i]).1):=by rw [Int.zero_add]; exact yQ (by rw [List.getElem?_map,List.getElem?_eq_getElem hi0]; rfl)
   have g1 : atI (zs.map fun z=>V.ref z.1) (0 + (i : Int) + 1) = some (.ref (zs[i + 1]).1):=by rw [Int.zero_add]; exact yQ (j:=i + 1) (by rw [List.getElem?_map,List.getElem?_eq_getElem hi1]; rfl)
   refine ⟨_,rfl,_,rfl,bl,_,_,_,rfl,rfl,SqL.of hb,g0,?_⟩
   refine ⟨_,rfl,_,rfl,_,_,rfl,rfl,bl,_,_,_,rfl,rfl,SqL.of hb,g1,?_⟩
   refine ⟨_,_,_,_,rfl,rfl,SqL.of (hz _ (List.getElem_mem hi0)),SqL.of (hz _ (List.getElem_mem hi1)),?_,rfl⟩
   rw [List.pairwise_map,List.pairwise_iff_getElem] at up
   rw [up i (i + 1) hi0 hi1 (by omega),List.replicate_succ']
   simp
  ·rintro ys H4 ⟨rfl,rfl⟩ Dd hD
   refine ⟨Dd,_,rfl,SqL.of zf,?_⟩
   rw [zbq]
   exact kk _ (zj hD)
def je : Sp:=fun vs H Q _=>∃ (b : Nat) (bl : Addr) (zs : List (Addr × List Int)),vs = [.int b,.ref bl]∧H bl = some (.lst (zs.map fun z=>V.ref z.1))∧(∀ z ∈ zs,H z.1 = some (.lst (z.2.map V.int)))∧zW b (zs.map (·.2))∧∀ H',Same H H'->Q (.bl true) H'
theorem Ua : zE ["base","thing"] ["base","thing"] (zu vD):=⟨rfl,rfl,rfl,by decide +kernel,rfl,by decide +kernel,by decide +kernel⟩
theorem VM {f f1 f2 : Addr} {fd fd1 fd2 : FuncData} {t1 : Tok} (D : Df K mg "is_bad_list" vD ["base","thing"] f fd) (jH : Df K mg "is_stretch" qw ["base","thing"] f1 fd1) (Yw : FnOk P w K mg base CX0 4 f1 fd1 ["base","thing"] jZ) (qT : Df K mg "is_rising" qb ["stretches"] f2 fd2) (uR : mg "MOST_STRETCHES" = some (.int 4 t1)) (T : Blt mg) :
  FnOk P w K mg base CX0 5 f fd ["base","thing"] je:=by
 have Uo : FnOk P w K mg base CX0 1 f2 fd2 ["stretches"] ZJ:=XH qT T
 refine D.fn.ok Ua (fun vs H Q E h=>?_) (fun cdv A outer s H vs Q E hr h=>?_)
 ·obtain ⟨b,bl,zs,rfl,_⟩:=h; rfl
 ·obtain ⟨b,bl,zs,rfl,hb,hz,g,kk⟩:=h
  have h4 : zs.length≤4:=by have:=g.len; rwa [List.length_map] at this
  refine ⟨_,(zm (xQ (PW.pt (za6 (jW (uZ (zB (JR K) (by rfl) T.n_isinstance boot_isinstance (zc (pv 1) (zc (Zv (v:=.ty "list") rfl T.n_list boot_list rfl) zg))))) (Jh (yd zae (zB (vV K) (by rfl) T.n_len PySem.boot_len (zc (pv 1) zg)) (XX (v:=.int 4) rfl uR ⟨_,rfl⟩) (ye _)))))
    (zx (zL X8))
    yj)
   (zx (zL (jf (zB (k_all K rfl) (by rfl) T.n_all boot_all (zc (wJ (show CScope (zu vD) _ "each" ["base","thing"] ["base"] [0] from ⟨rfl,by decide +kernel,by decide +kernel,rfl,by decide +kernel,rfl,by decide +kernel,by decide +kernel⟩) rfl (Z6 K (pv 1)) (fun _ _ _ _=>yE) (fun _ _ _ _=>(zO jH Yw (hr.mono (by decide)) (zc (pv 1) (zc (pv 0) zg))))) zg)) (jQ (zO qT Uo (hr.mono (by decide)) (zc (pv 1) zg))))))),?_⟩
  refine ⟨_,rfl,_,_,_,_,rfl,.lst hb,Y6,_,rfl,xW ?_⟩
  refine ⟨_,rfl,bl,_,rfl,.inl (SqL.of hb),_,_,rfl,rfl,_,rfl,?_⟩
  rw [List.length_map,decide_eq_false (show ¬ (4 : Int) < (zs.length : Int) by omega)]
  refine xW ?_
  refine ⟨_,rfl,bl,rfl,⟨_,SqL.of hb⟩,wD (K:=K) (a:=bl) (xs:=zs.map fun z=>V.ref z.1) (fun i ys H4=>ys = (List.replicate i true).map V.bl∧Same H H4) ⟨by simp,Same.refl _⟩ (fun i ys H4 _ ⟨_,e⟩=>SqL.of (e _ _ hb)) ?_ ?_⟩
  ·rintro j x ys H4 hx ⟨rfl,s4⟩
   rw [List.getElem?_map] at hx
   obtain ⟨z,hzj,e⟩:=Option.map_eq_some_iff.mp hx
   subst e
   have hzm:=List.mem_of_getElem? hzj
   have hj : j < zs.length:=(List.getElem?_eq_some_iff.mp hzj).1
   refine ⟨by rw [List.length_map,List.length_replicate]; exact Nat.lt_of_lt_of_le (show j < 5 by omega) (by decide),?_⟩
   unfold jo
   dsimp only
   rw [if_pos rfl]
   refine ⟨_,rfl,_,rfl,b,z.1,z.2,rfl,s4 _ _ (hz z hzm),g.st _ (List.mem_map.mpr ⟨z,hzm,rfl⟩),fun H5 s5=>⟨?_,s4.trans s5⟩⟩
   rw [List.replicate_succ']; simp
  ·rintro ys H4 ⟨rfl,s4⟩ Dd hD
   refine ⟨Dd,_,rfl,SqL.of zf,?_⟩
   rw [zbq]
   have s5:=s4.trans (zj hD (o:=.lst ((List.replicate (zs.map fun z=>V.ref z.1).length true).map V.bl)))
   refine ⟨_,rfl,wF ?_⟩
   exact ⟨_,rfl,bl,zs,rfl,s5 _ _ hb,fun z hzm=>s5 _ _ (hz z hzm),h4,g.up,fun H6 s6=>kk H6 (s5.trans s6)⟩
def Xb : Sp:=fun vs H Q _=>∃ (r : Addr) (b : Nat) (bl : Addr) (zs : List (Addr × List Int)),vs = [.ref r]∧RuleAt H r b bl zs∧zW b (zs.map (·.2))∧∀ H',Same H H'->Q (.bl true) H'
theorem zaJ : zE ["thing"] ["thing"] (zu YG):=⟨rfl,rfl,rfl,by decide +kernel,rfl,by decide +kernel,by decide +kernel⟩
theorem zaK {f f1 f2 : Addr} {fd fd1 fd2 : FuncData} (D : Df K mg "is_rule" YG ["thing"] f fd) (XQ : Df K mg "is_base" YB ["thing"] f1 fd1) (Ub : FnOk P w K mg base CX0 2 f1 fd1 ["thing"] Xn) (qI : Df K mg "is_bad_list" vD ["base","thing"] f2 fd2) (Zh : FnOk P w K mg base CX0 5 f2 fd2 ["base","thing"] je) (T : Blt mg) :
  FnOk P w K mg base CX0 6 f fd ["thing"] Xb:=by
 refine D.fn.ok zaJ (fun vs H Q E h=>?_) (fun cdv A outer s H vs Q E hr h=>?_)
 ·obtain ⟨r,b,bl,zs,rfl,_⟩:=h; rfl
 ·obtain ⟨r,b,bl,zs,rfl,R,g,kk⟩:=h
  have b2:=g.b2
  have b16:=g.b16
  refine ⟨_,(zm (xQ (PW.pt (za6 (jW (uZ (zB (JR K) (by rfl) T.n_isinstance boot_isinstance (zc (pv 0) (zc (Zv (v:=.ty "tuple") rfl T.n_tuple boot_tuple rfl) zg))))) (Jh (yd zfm (zB (vV K) (by rfl) T.n_len PySem.boot_len (zc (pv 0) zg)) zp (ye _)))))
    (zx (zL X8))
    yj)
   (zx (zL (jf (zO XQ Ub (hr.mono (by decide)) (zc (zQ (wH K) (pv 0) zp (fun _ _=>rfl)) zg)) (jQ (zO qI Zh (hr.mono (by decide)) (zc (zQ (wH K) (pv 0) zp (fun _ _=>rfl)) (zc (zQ (wH K) (pv 0) zp (fun _ _=>rfl)) zg)))))))),?_⟩
  refine ⟨_,rfl,_,_,_,_,rfl,.tup R.tu,Vk,_,rfl,xW ?_⟩
  refine ⟨_,rfl,r,_,rfl,.inr (SqT.of R.tu),rfl,_,rfl,?_⟩
  refine xW ?_
  refine ⟨_,rfl,r,_,_,V.int b,rfl,rfl,SqT.of R.tu,rfl,(b : Int),rfl,?_⟩
  rw [decide_eq_true (show (2 : Int)≤b∧(b : Int)≤16 from ⟨by omega,by omega⟩)]
  refine ⟨_,rfl,wF ?_⟩
  refine ⟨_,rfl,r,_,_,V.int b,rfl,rfl,SqT.of R.tu,rfl,_,rfl,r,_,_,V.ref bl,rfl,rfl,SqT.of R.tu,rfl,b,bl,zs,rfl,R.li,R.st,g,kk⟩
def tU : Sp:=fun vs H Q _=>∃ (r : Addr) (b : Nat) (bl : Addr) (zs : List (Addr × List Int)),vs = [.ref r]∧RuleAt H r b bl zs∧zW b (zs.map (·.2))∧∀ H',Same H H'->Q .non H'
theorem Qd : zE ["thing"] ["thing"] (zu ux):=⟨rfl,rfl,rfl,by decide +kernel,rfl,by decide +kernel,by decide +kernel⟩
theorem UW {f f1 : Addr} {fd fd1 : FuncData} (D : Df K mg "check_rule" ux ["thing"] f fd) (Wd : Df K mg "is_rule" YG ["thing"] f1 fd1) (V1 : FnOk P w K mg base CX0 6 f1 fd1 ["thing"] Xb) : FnOk P w K mg base CX0 7 f fd ["thing"] tU:=by
 refine D.fn.ok Qd (fun vs H Q E h=>?_) (fun cdv A outer s H vs Q E hr h=>?_)
 ·obtain ⟨r,b,bl,zs,rfl,_⟩:=h; rfl
 ·obtain ⟨r,b,bl,zs,rfl,R,g,kk⟩:=h
  refine ⟨_,(zx (xQ (jW (uZ (zO Wd V1 (hr.mono (by decide)) (zc (pv 0) zg))))
    (zx J8)
    yj)),?_⟩
  exact ⟨_,rfl,r,b,bl,zs,rfl,R,g,fun H1 s1=>⟨_,rfl,xW (kk H1 s1)⟩⟩
end
section
variable {P : Program} {w : World} {K : PySem.W.Frag} {mg : Str->Option Value} {base : Heap}
theorem JH (xs : List V) (k m : Nat) : jn xs (some (k : Int)) (some (m : Int)) = (xs.drop k).take (m - k):=by
 unfold jn
 rw [HT.Vt,HT.Vt]
 by_cases hk : k≤xs.length
 ·rw [Nat.min_eq_left hk]
  by_cases hm : m≤xs.length
  ·rw [Nat.min_eq_left hm]
  ·rw [Nat.min_eq_right (by omega),List.take_of_length_le (by rw [List.length_drop]; omega),List.take_of_length_le (by rw [List.length_drop]; omega)]
 ·rw [List.drop_of_length_le (show xs.length≤k by omega),Nat.min_eq_right (show xs.length≤k by omega),List.drop_of_length_le (Nat.le_refl _)]
  simp
def uN : Sp:=fun vs H Q _=>∃ (sa fa : Addr) (st fs : List Int),vs = [.ref sa,.ref fa]∧H sa = some (.lst (st.map V.int))∧H fa = some (.lst (fs.map V.int))∧st ≠ []∧st.length≤1000∧fs.length≤1000∧∀ H',Same H H'->Q (.bl (Zf st fs)) H'
theorem j8 : zE ["stretch","figures","size"] ["stretch","figures"] (zu wz):=⟨rfl,rfl,rfl,by decide +kernel,rfl,by decide +kernel,by decide +kernel⟩
theorem Zc {f : Addr} {fd : FuncData} (D : Df K mg "stands_within" wz ["stretch","figures"] f fd) (T : Blt mg) : FnOk P w K mg base CX0 1 f fd ["stretch","figures"] uN:=by
 refine D.fn.ok j8 (fun vs H Q E h=>?_) (fun cdv A outer s H vs Q E hr h=>?_)
 ·obtain ⟨sa,fa,st,fs,rfl,_⟩:=h; rfl
 ·obtain ⟨sa,fa,st,fs,rfl,hs,hf,ne,hl1,hl2,kk⟩:=h
  have HU:=Vj hr
  refine ⟨_,(zm (zF (i:=2) j8.nd rfl (Or.inr rfl) (zB (vV K) (by rfl) T.n_len PySem.boot_len (zc (pv 0) zg)))
   (zx (zL (zB (zc6 K rfl) (by rfl) T.n_any boot_any (zc (wJ (show CScope (zu wz) _ "k" ["stretch","figures","size"] ["stretch","figures","size"] [0,1,2] from ⟨rfl,by decide +kernel,by decide +kernel,rfl,by decide +kernel,rfl,by decide +kernel,by decide +kernel⟩) rfl (zY rfl T.n_range (zc (zM yu (zM qU (zB (vV K) (by rfl) T.n_len PySem.boot_len (zc (pv 1) zg)) (pv 2)) zp) zg)) (fun _ _ _ _=>yE) (fun _ _ _ _=>(uI (Qz K HU) (xT (Zd K) (pv 2) (wg (pv 0)) (wg (zM yu (pv 0) (pv 3)))) (pv 1) (ye _)))) zg))))),?_⟩
  refine ⟨_,rfl,sa,_,rfl,.inl (SqL.of hs),?_⟩
  rw [List.length_map]
  refine ⟨_,rfl,fa,_,rfl,.inl (SqL.of hf),_,rfl,_,_,rfl,rfl,_,_,rfl,rfl,_,rfl,?_⟩
  rw [List.length_map]
  refine ⟨by omega,by omega,xJ (lo:=0) (n:=((fs.length : Int) - st.length + 1).toNat) (fun i ys H4=>ys = ((List.range i).map fun k=>decide ((fs.drop k).take st.length = st)).map V.bl∧Same H H4) ⟨by simp,Same.refl _⟩ ?_ ?_⟩
  ·rintro i ys H4 hi ⟨rfl,s4⟩
   refine ⟨by rw [List.length_map,List.length_map,List.length_range]; exact Nat.lt_of_lt_of_le (show i < 2000 by omega) (by decide),?_⟩
   unfold jo
   dsimp only
   rw [if_pos rfl]
   refine ⟨_,rfl,_,rfl,_,rfl,_,rfl,_,rfl,_,_,rfl,rfl,_,rfl,fa,_,rfl,SqL.of (s4 _ _ hf),fun p hp=>?_⟩
   have e1 : jn (fs.map V.int) (some (0 + (i : Int))) (some (0 + (i : Int) + (st.length : Int))) = ((fs.drop i).take st.length).map V.int:=by
    have e : (0 + (i : Int) + (st.length : Int)) = ((i + st.length : Nat) : Int):=by omega
    rw [e,Int.zero_add,JH,List.map_take,List.map_drop,Nat.add_sub_cancel_left]
   rw [e1]
   refine ⟨_,rfl,yt ((fs.drop i).take st.length),yt st,TrAt.ints (a:=p) (SqL.of zf),TrAt.ints (a:=sa) (SqL.of (zj hp _ _ (s4 _ _ hs))),(by rw [vP]; decide),?_,s4.trans (zj hp)⟩
   rw [List.range_succ,List.map_append,List.map_append]
   have e2:=ue ((fs.drop i).take st.length) st
   show _ = _ ++ [V.bl (decide ((fs.drop i).take st.length = st))]
   rw [← e2]; rfl
  ·rintro ys H4 ⟨rfl,s4⟩ Dd hD
   refine ⟨Dd,_,rfl,SqL.of zf,?_⟩
   have q:=kk _ (s4.trans (zj hD (o:=.lst (((List.range ((fs.length : Int) - st.length + 1).toNat).map fun k=>decide ((fs.drop k).take st.length = st)).map V.bl))))
   rw [zaP ne] at q
   rw [List.any_map]
   exact q
def uv : Sp:=fun vs H Q _=>∃ (bl fa : Addr) (zs : List (Addr × List Int)) (fs : List Int),vs = [.ref bl,.ref fa]∧H bl = some (.lst (zs.map fun z=>V.ref z.1))∧(∀ z ∈ zs,H z.1 = some (.lst (z.2.map V.int)))∧H fa = some (.lst (fs.map V.int))∧zs.length≤100∧fs.length≤1000∧(∀ z ∈ zs,z.2 ≠ []∧z.2.length≤1000)∧∀ H',Same H H'->Q (.bl (lacks (zs.map (·.2)) fs)) H'
theorem QJ : zE ["bad","figures"] ["bad","figures"] (zu wX):=⟨rfl,rfl,rfl,by decide +kernel,rfl,by decide +kernel,by decide +kernel⟩
theorem Jd {f f1 : Addr} {fd fd1 : FuncData} (D : Df K mg "lacks_all" wX ["bad","figures"] f fd) (wM : Df K mg "stands_within" wz ["stretch","figures"] f1 fd1) (T : Blt mg) : FnOk P w K mg base CX0 2 f fd ["bad","figures"] uv:=by
 have Yg : FnOk P w K mg base CX0 1 f1 fd1 ["stretch","figures"] uN:=Zc wM T
 refine D.fn.ok QJ (fun vs H Q E h=>?_) (fun cdv A outer s H vs Q E hr h=>?_)
 ·obtain ⟨bl,fa,zs,fs,rfl,_⟩:=h; rfl
 ·obtain ⟨bl,fa,zs,fs,rfl,hb,hz,hf,hl1,hl2,ne,kk⟩:=h
  refine ⟨_,(zx (zL (zaI (zB (zc6 K rfl) (by rfl) T.n_any boot_any (zc (wJ (show CScope (zu wX) _ "stretch" ["bad","figures"] ["figures"] [1] from ⟨rfl,by decide +kernel,by decide +kernel,rfl,by decide +kernel,rfl,by decide +kernel,by decide +kernel⟩) rfl (Z6 K (pv 0)) (fun _ _ _ _=>yE) (fun _ _ _ _=>(zO wM Yg (hr.mono (by decide)) (zc (pv 0) (zc (pv 1) zg))))) zg))))),?_⟩
  refine ⟨_,rfl,bl,rfl,⟨_,SqL.of hb⟩,wD (K:=K) (a:=bl) (xs:=zs.map fun z=>V.ref z.1) (fun i ys H4=>ys = ((zs.take i).map fun z=>Zf z.2 fs).map V.bl∧Same H H4) ⟨by simp,Same.refl _⟩ (fun i ys H4 _ ⟨_,e⟩=>SqL.of (e _ _ hb)) ?_ ?_⟩
  ·rintro j x ys H4 hx ⟨rfl,s4⟩
   rw [List.getElem?_map] at hx
   obtain ⟨z,hzj,e⟩:=Option.map_eq_some_iff.mp hx
   subst e
   have hzm:=List.mem_of_getElem? hzj
   refine ⟨?_,?_⟩
   ·rw [List.length_map,List.length_map,List.length_take]
    exact Nat.lt_of_le_of_lt (Nat.le_trans (Nat.min_le_right _ _) hl1) (by decide)
   unfold jo
   dsimp only
   rw [if_pos rfl]
   refine ⟨_,rfl,_,rfl,z.1,fa,z.2,fs,rfl,s4 _ _ (hz z hzm),s4 _ _ hf,(ne z hzm).1,(ne z hzm).2,hl2,fun H5 s5=>⟨?_,s4.trans s5⟩⟩
   rw [List.take_succ,hzj]
   simp
  ·rintro ys H4 ⟨rfl,s4⟩ Dd hD
   refine ⟨Dd,_,rfl,SqL.of zf,_,rfl,?_⟩
   have q:=kk _ (s4.trans (zj hD (o:=.lst (((zs.take (zs.map fun z=>V.ref z.1).length).map fun z=>Zf z.2 fs).map V.bl))))
   rw [List.length_map,List.take_length] at q ⊢
   unfold lacks at q
   rw [List.any_map] at q ⊢
   exact q
end
theorem Zb (xs : List V) (m : Nat) : jn xs none (some (m : Int)) = xs.take m:=by
 unfold jn
 rw [HT.Vt,HT.zah,List.drop_zero,Nat.sub_zero]
 by_cases h : m≤xs.length
 ·rw [Nat.min_eq_left h]
 ·rw [Nat.min_eq_right (by omega),List.take_of_length_le (Nat.le_refl _),List.take_of_length_le (by omega)]
theorem tD (xs : List V) (m : Nat) : jn xs (some (m : Int)) none = xs.drop m:=by
 unfold jn
 rw [HT.Vt,HT.zah]
 by_cases h : m≤xs.length
 ·rw [Nat.min_eq_left h,List.take_of_length_le (by rw [List.length_drop]; omega)]
 ·rw [Nat.min_eq_right (by omega),List.drop_of_length_le (Nat.le_refl _),List.drop_of_length_le (by omega)]; simp
theorem RuleAt.all {fp : List Addr} {r bl : Addr} {H : Hp} {b : Nat} {zs : List (Addr × List Int)} (R : RuleAt (aw fp H) r b bl zs) : RuleAt H r b bl zs:=R.same (yc fp H)
theorem YC {ls : List (List Int)} {x : List Int} : ((ls.map yt).any fun t=>teq t (yt x)) = decide (x ∈ ls):=by
 rw [Bool.eq_iff_iff]
 simp only [List.any_eq_true,List.mem_map,decide_eq_true_eq]
 constructor
 ·rintro ⟨t,⟨l,hl,rfl⟩,e⟩
  rw [ue] at e
  rw [← of_decide_eq_true e]; exact hl
 ·intro h
  exact ⟨yt x,⟨x,h,rfl⟩,VJ _⟩
theorem xu : ∀ ls : List (List Int),xX (ls.map yt)≤1
 | []=>by simp [xX]
 | l :: ls=>by rw [List.map_cons,xX,vP]; have:=xu ls; omega
theorem TrsAt.lists {K : PySem.W.Frag} {H : Hp} : ∀ {zs : List (Addr × List Int)},(∀ z ∈ zs,H z.1 = some (.lst (z.2.map V.int)))->TrsAt K H ((zs.map (·.2)).map yt) (zs.map fun z=>V.ref z.1)
 | [],_=>by rw [List.map_nil,List.map_nil,TrsAt]; rfl
 | z :: zs,h=>by
  rw [List.map_cons,List.map_cons,TrsAt]
  exact ⟨_,_,rfl,TrAt.ints (SqL.of (h z List.mem_cons_self)),TrsAt.lists fun z hz=>h z (List.mem_cons_of_mem _ hz)⟩
theorem zaB {ls : List (List Int)} {x : List Int} (h : Z7 ls x) : lacks ls x = true∧zH ls x = x:=by
 rcases h with rfl | ⟨st,hst,k,h1,h2,rfl,h3⟩
 ·refine ⟨?_,rfl⟩
  unfold lacks
  rw [Bool.not_eq_true',List.any_eq_false]
  intro st _ h
  simp [Zf] at h
 ·refine ⟨h3,Uk ?_⟩
  unfold qQ
  rw [List.any_eq_true]
  refine ⟨st,hst,decide_eq_true ?_⟩
  rw [List.length_take,Nat.min_eq_left (by omega)]
def aft (ls : List (List Int)) (x : List Int) (f : Int) : Option (List Int):=if lacks ls (x ++ [f]) = true then some (zH ls (x ++ [f])) else none
def ends (fs : List Int) : List (List Int):=(List.range (fs.length + 1)).map fs.drop
theorem zbg {ls : List (List Int)} (ne : ∀ l ∈ ls,l ≠ []) {x : List Int} (f : Int) (h : lacks ls x = true) : (∃ e ∈ ends (x ++ [f]),e ∈ ls) ↔ lacks ls (x ++ [f]) = false:=by
 constructor
 ·rintro ⟨e,he,hl⟩
  obtain ⟨i,_,rfl⟩:=List.mem_map.mp he
  have:=zaO hl (ne _ hl) ((x ++ [f]).take i)
  rwa [List.take_append_drop] at this
 ·intro hf
  obtain ⟨st,hst,hs⟩ : ∃ st ∈ ls,Zf st (x ++ [f]) = true:=by
   unfold lacks at hf
   have hf : (ls.any fun st=>Zf st (x ++ [f])) = true:=by simpa using hf
   exact List.any_eq_true.mp hf
  obtain ⟨k,hk⟩:=(vB (ne st hst)).mp hs
  have hlen:=congrArg List.length hk
  rw [List.length_take,List.length_drop,List.length_append,List.length_singleton] at hlen
  have hpos : 0 < st.length:=List.length_pos_iff.mpr (ne st hst)
  by_cases hx : k + st.length≤x.length
  ·exfalso
   have : Zf st x = true:=by
    rw [vB (ne st hst)]
    refine ⟨k,?_⟩
    rw [List.drop_append_of_le_length (by omega),List.take_append_of_le_length (by rw [List.length_drop]; omega)] at hk
    exact hk
   unfold lacks at h
   have h : (ls.any fun st=>Zf st x) = false:=by simpa using h
   rw [List.any_eq_false] at h
   exact h st hst this
  ·refine ⟨(x ++ [f]).drop k,List.mem_map.mpr ⟨k,List.mem_range.mpr (by rw [List.length_append,List.length_singleton]; omega),rfl⟩,?_⟩
   rw [List.take_of_length_le (by rw [List.length_drop,List.length_append,List.length_singleton]; omega)] at hk
   rw [hk]; exact hst
def QZ (ls : List (List Int)) (x : List Int) (a n : Nat) : List Nat:=((List.range n).map (a + ·)).filter fun (c : Nat)=>lacks ls (x ++ [(c : Int)])
def Uq (ls : List (List Int)) (b t : Nat) (x : List Int) (a n : Nat) : Nat:=((QZ ls x a n).map fun (c : Nat)=>cnt ls b t (zH ls (x ++ [(c : Int)]))).sum
theorem zag (ls : List (List Int)) (x : List Int) (a n : Nat) : QZ ls x a (n + 1) = QZ ls x a n ++ (if lacks ls (x ++ [((a + n : Nat) : Int)]) = true then [a + n] else []):=by
 unfold QZ
 rw [List.range_succ,List.map_append,List.filter_append]
 congr 1
 rw [List.map_cons,List.map_nil,List.filter_cons]
 split <;> rfl
theorem Ud (ls : List (List Int)) (b t : Nat) (x : List Int) (a n : Nat) : Uq ls b t x a (n + 1) = Uq ls b t x a n + j9 ls b t (some x) (a + n):=by
 unfold Uq
 rw [zag,List.map_append,List.sum_append]
 congr 1
 show _ = if lacks ls (x ++ [((a + n : Nat) : Int)]) = true then _ else 0
 split <;> simp
theorem W8 (ls : List (List Int)) (b t : Nat) (x : List Int) : ∀ n,Uq ls b t x 0 n = under ls b t (some x) n
 | 0=>rfl
 | n + 1=>by rw [Ud,W8,uP,Nat.zero_add]
theorem XD (ls : List (List Int)) (b t : Nat) : ∀ n,wW ls b t + Uq ls b t [] 1 n = under ls b t none (n + 1)
 | 0=>by
  rw [uP,VD]
  show wW ls b t + 0 = 0 + (if (0 : Nat) = 0 then wW ls b t else if lacks ls [((0 : Nat) : Int)] = true then cnt ls b t (zH ls [((0 : Nat) : Int)]) else 0)
  rw [if_pos rfl]
  omega
 | n + 1=>by
  rw [Ud,← Nat.add_assoc,XD,uP ls b t none (n + 1)]
  congr 1
  show (if lacks ls ([] ++ [((1 + n : Nat) : Int)]) = true then cnt ls b t (zH ls ([] ++ [((1 + n : Nat) : Int)])) else 0) = if n + 1 = 0 then wW ls b t else if lacks ls [((n + 1 : Nat) : Int)] = true then cnt ls b t (zH ls [((n + 1 : Nat) : Int)]) else 0
  rw [if_neg (by omega : ¬ n + 1 = 0),Nat.add_comm 1 n]
  rfl
def PartN (ls : List (List Int)) (b n L k : Nat) (o : Option (List Int)) (tot : Nat) : Prop :=
 (k = 0∧o = some []∧tot = wW ls b (L - 1))∨(1≤k∧gd ls b (n / b ^ (L - k)) = true∧o = some (zH ls (xN b (n / b ^ (L - k))))∧tot = many (gd ls b) (n / b ^ (L - k) * b ^ (L - k)))∨(1≤k∧o = none∧tot = many (gd ls b) n)
theorem PartN.rep {ls : List (List Int)} {b n L k : Nat} {x : List Int} {tot : Nat} (h2 : 2≤b) (hn : 0 < n) (hL : (xN b n).length = L) (hk : k < L) (p : PartN ls b n L k (some x) tot) :
  ∃ o,Rep ls b (n / b ^ (L - k)) o∧((k = 0∧x = []∧o = none∧tot = wW ls b (L - 1))∨(1≤k∧o = some x∧tot = many (gd ls b) (n / b ^ (L - k) * b ^ (L - k)))):=by
 rcases p with ⟨rfl,e,t⟩ | ⟨h1,g,e,t⟩ | ⟨h1,e,_⟩
 ·cases e
  have : n / b ^ (L - 0) = 0:=Nat.div_eq_of_lt (jt h2 hL)
  exact ⟨none,.inl ⟨this,rfl⟩,.inl ⟨rfl,rfl,rfl,t⟩⟩
 ·cases e
  refine ⟨_,.inr ⟨?_,g,rfl⟩,.inr ⟨h1,rfl,t⟩⟩
  have hs:=(Wi (k:=L - 1) h2).mp (by rw [hL]; omega)
  have hp : 0 < b ^ (L - k):=Nat.pow_pos (by omega)
  have : b ^ (L - k)≤n:=by
   rcases hs.2 with z | z
   ·omega
   ·exact Nat.le_trans (Nat.pow_le_pow_right (by omega) (by omega)) z
  exact Nat.div_pos this hp
 ·cases e
theorem PartN.next {ls : List (List Int)} (ne : ∀ l ∈ ls,l ≠ []) {b n L k : Nat} {x : List Int} {tot : Nat} (h2 : 2≤b) (hn : 0 < n) (hL : (xN b n).length = L) (hk : k < L) (p : PartN ls b n L k (some x) tot) {c : Nat} (hc : (xN b n)[k]? = some (c : Int)) :
  c < b∧(k = 0->1≤c)∧PartN ls b n L (k + 1) (aft ls x c) (tot + Uq ls b (L - 1 - k) x (if k = 0 then 1 else 0) (c - (if k = 0 then 1 else 0))):=by
 have ec : c = (n / b ^ (L - 1 - k)) % b:=by
  rw [zck h2 hL hk] at hc
  have hc : ((n / b ^ (L - 1 - k) % b : Nat) : Int) = (c : Int):=by simpa using hc
  omega
 have hcb : c < b:=by rw [ec]; exact Nat.mod_lt _ (by omega)
 have et : L - k = L - 1 - k + 1:=by omega
 have htop : n / b ^ (L - 1 - k) = n / b ^ (L - k) * b + c:=by rw [et,ec]; exact zcM (by omega)
 obtain ⟨o,R,hor⟩:=p.rep h2 hn hL hk
 have hu:=VF ne h2 R (L - 1 - k) (s:=c) (by omega)
 have hs:=R.step ne h2 hcb
 rw [← et,← htop] at hu
 have hstep : c ≠ 0∨k ≠ 0:=by
  by_cases hk0 : k = 0
  ·left
   intro hc0
   have hs:=(Wi (k:=L - 1) h2).mp (by rw [hL]; omega)
   have z : n / b ^ (L - k) = 0:=by rw [hk0]; exact Nat.div_eq_of_lt (jt h2 hL)
   rw [z,hc0,hk0] at htop
   have hlt : n < b ^ (L - 1):=by
    have hp : 0 < b ^ (L - 1):=Nat.pow_pos (by omega)
    have : n / b ^ (L - 1) = 0:=by simpa using htop
    rcases Nat.div_eq_zero_iff.mp this with q | q
    ·omega
    ·exact q
   rcases hs.2 with q | q
   ·rw [q,Nat.pow_zero] at hlt; omega
   ·omega
  ·exact .inr hk0
 have hm1 : 1≤n / b ^ (L - 1 - k):=by
  rcases hor with ⟨rfl,_,_,_⟩ | ⟨h1,rfl,_⟩
  ·rw [htop]; rcases hstep with q | q
   ·omega
   ·exact absurd rfl q
  ·rcases R with ⟨_,z⟩ | ⟨z,_⟩
   ·cases z
   ·rw [htop]; exact zbe h2 z
 refine ⟨hcb,fun z=>by rcases hstep with q | q; omega; exact absurd z q,?_⟩
 have etot : tot + Uq ls b (L - 1 - k) x (if k = 0 then 1 else 0) (c - (if k = 0 then 1 else 0)) = many (gd ls b) (n / b ^ (L - 1 - k) * b ^ (L - 1 - k)):=by
  rcases hor with ⟨rfl,rfl,rfl,rfl⟩ | ⟨h1,rfl,rfl⟩
  ·rw [if_pos rfl]
   have q:=XD ls b (L - 1) (c - 1)
   have hc1 : 1≤c:=by rcases hstep with q | q; omega; exact absurd rfl q
   rw [show c - 1 + 1 = c by omega] at q
   have e0 : L - 1 - 0 = L - 1:=Nat.sub_zero _
   rw [e0] at hu ⊢
   rw [q,← hu]
   have z : n / b ^ (L - 0) = 0:=Nat.div_eq_of_lt (jt h2 hL)
   rw [z,Nat.zero_mul]
   simp [many]
  ·rw [if_neg (by omega),Nat.sub_zero,W8,hu]
 rw [etot]
 have eL : L - (k + 1) = L - 1 - k:=by omega
 have key : (lacks ls (x ++ [(c : Int)]) = true->gd ls b (n / b ^ (L - 1 - k)) = true∧zH ls (x ++ [(c : Int)]) = zH ls (xN b (n / b ^ (L - 1 - k))))∧(lacks ls (x ++ [(c : Int)]) = false->gd ls b (n / b ^ (L - 1 - k)) = false):=by
  rcases hor with ⟨rfl,rfl,rfl,_⟩ | ⟨h1,rfl,_⟩
  ·have z : n / b ^ (L - 0) = 0:=Nat.div_eq_of_lt (jt h2 hL)
   rw [z,Nat.zero_mul,Nat.zero_add] at htop
   rw [htop]
   unfold gd
   rw [qD hcb]
   exact ⟨fun h=>⟨h,rfl⟩,fun h=>h⟩
  ·rcases R with ⟨_,z⟩ | ⟨z1,z2,z3⟩
   ·cases z
   ·cases z3
    rw [htop]
    unfold gd at z2 ⊢
    rw [uO h2 z1 hcb,← jh ne (c : Int) z2,qL]
    exact ⟨fun h=>⟨h,rfl⟩,fun h=>h⟩
 unfold aft
 cases hl : lacks ls (x ++ [(c : Int)]) with
 | true =>
  obtain ⟨g,e⟩:=key.1 hl
  rw [if_pos rfl]
  exact .inr (.inl ⟨by omega,by rw [eL]; exact g,by rw [eL,e],by rw [eL]⟩)
 | false =>
  have g:=key.2 hl
  rw [if_neg Bool.false_ne_true]
  refine .inr (.inr ⟨by omega,rfl,?_⟩)
  have hb:=zep ne h2 hm1 g (L - 1 - k) (r:=n % b ^ (L - 1 - k)) (Nat.le_of_lt (Nat.mod_lt _ (Nat.pow_pos (by omega))))
  have en : n / b ^ (L - 1 - k) * b ^ (L - 1 - k) + n % b ^ (L - 1 - k) = n:=by rw [Nat.mul_comm]; exact Nat.div_add_mod n _
  rw [en] at hb
  exact hb.symm
theorem PartN.done {ls : List (List Int)} {b n L : Nat} {o : Option (List Int)} {tot : Nat} (hL : 1≤L) (p : PartN ls b n L L o tot) : tot = many (gd ls b) n:=by
 rcases p with ⟨z,_⟩ | ⟨_,_,_,t⟩ | ⟨_,_,t⟩
 ·omega
 ·rw [t,Nat.sub_self,Nat.pow_zero,Nat.div_one,Nat.mul_one]
 ·exact t
def zcf (ls F : List (List Int)) (x : List Int) : List (List Int):=if x ∈ F then F else if lacks ls x = true then F ++ [x] else F
def YX (ls : List (List Int)) (st : List Int) : Nat->List (List Int)->List (List Int)
 | 0,F=>F
 | j + 1,F=>zcf ls (YX ls st j F) (st.take (j + 1))
def U5 (ls xs : List (List Int)) : List (List Int):=xs.foldl (fun F st=>YX ls st (st.length - 1) F) [[]]
theorem zct {ls F : List (List Int)} {x y : List Int} : y ∈ zcf ls F x ↔ y ∈ F∨(y = x∧lacks ls y = true):=by
 unfold zcf
 by_cases h : x ∈ F
 ·rw [if_pos h]
  exact ⟨.inl,fun z=>z.elim id fun z=>by rw [z.1]; exact h⟩
 ·rw [if_neg h]
  by_cases h2 : lacks ls x = true
  ·rw [if_pos h2,List.mem_append,List.mem_singleton]
   exact ⟨fun z=>z.imp id fun z=>⟨z,by rw [z]; exact h2⟩,fun z=>z.imp id fun z=>z.1⟩
  ·rw [if_neg h2]
   exact ⟨.inl,fun z=>z.elim id fun z=>absurd (by rw [← z.1]; exact z.2) h2⟩
theorem QF {ls F : List (List Int)} {st y : List Int} : ∀ {j : Nat},y ∈ YX ls st j F ↔ y ∈ F∨∃ k,1≤k∧k≤j∧y = st.take k∧lacks ls y = true
 | 0=>⟨.inl,fun z=>z.elim id fun ⟨k,h1,h2,_⟩=>by omega⟩
 | j + 1=>by
  rw [YX,zct,QF]
  constructor
  ·rintro ((h | ⟨k,h1,h2,h3⟩) | ⟨h1,h2⟩)
   ·exact .inl h
   ·exact .inr ⟨k,h1,by omega,h3⟩
   ·exact .inr ⟨j + 1,by omega,by omega,h1,h2⟩
  ·rintro (h | ⟨k,h1,h2,h3,h4⟩)
   ·exact .inl (.inl h)
   ·by_cases hk : k≤j
    ·exact .inl (.inr ⟨k,h1,hk,h3,h4⟩)
    ·exact .inr ⟨by rw [h3]; congr 1; omega,h4⟩
theorem Qg {ls : List (List Int)} {y : List Int} : ∀ {xs F : List (List Int)},y ∈ xs.foldl (fun F st=>YX ls st (st.length - 1) F) F ↔ y ∈ F∨∃ st ∈ xs,∃ k,1≤k∧k < st.length∧y = st.take k∧lacks ls y = true
 | [],F=>by simp
 | st :: xs,F=>by
  rw [List.foldl_cons,Qg,QF]
  constructor
  ·rintro ((h | ⟨k,h1,h2,h3⟩) | ⟨s,hs,h⟩)
   ·exact .inl h
   ·exact .inr ⟨st,by simp,k,h1,by omega,h3⟩
   ·exact .inr ⟨s,by simp [hs],h⟩
  ·rintro (h | ⟨s,hs,k,h1,h2,h3⟩)
   ·exact .inl (.inl h)
   ·rcases List.mem_cons.mp hs with rfl | hs
    ·exact .inl (.inr ⟨k,h1,by omega,h3⟩)
    ·exact .inr ⟨s,hs,k,h1,h2,h3⟩
theorem V4 {ls : List (List Int)} {y : List Int} : y ∈ U5 ls ls ↔ Z7 ls y:=by
 unfold U5 Z7
 rw [Qg,List.mem_singleton]
theorem zcZ (ls F : List (List Int)) (x : List Int) : (zcf ls F x).length≤F.length + 1:=by
 unfold zcf
 split
 ·omega
 ·split
  ·rw [List.length_append,List.length_singleton]; omega
  ·omega
theorem Qj (ls : List (List Int)) (st : List Int) (F : List (List Int)) : ∀ j,(YX ls st j F).length≤F.length + j
 | 0=>Nat.le_refl _
 | j + 1=>by rw [YX]; have:=zcZ ls (YX ls st j F) (st.take (j + 1)); have:=Qj ls st F j; omega
theorem Qq {ls : List (List Int)} : ∀ {xs F : List (List Int)},(∀ st ∈ xs,st.length≤4)->(xs.foldl (fun F st=>YX ls st (st.length - 1) F) F).length≤F.length + 3 * xs.length
 | [],F,_=>by simp
 | st :: xs,F,h=>by
  rw [List.foldl_cons,List.length_cons]
  have:=Qq (ls:=ls) (xs:=xs) (F:=YX ls st (st.length - 1) F) fun s hs=>h s (List.mem_cons_of_mem _ hs)
  have:=Qj ls st F (st.length - 1)
  have:=h st List.mem_cons_self
  omega
theorem zac {ls : List (List Int)} (h4 : ls.length≤4) (h : ∀ st ∈ ls,st.length≤4) : (U5 ls ls).length≤13:=by
 have:=Qq (ls:=ls) (xs:=ls) (F:=[[]]) h
 unfold U5
 rw [List.length_singleton] at this
 omega
def kI (x : List Int) : List Key:=x.map Sum.inl
theorem U7 (x : List Int) : (kI x).map kV = x.map V.int:=by unfold kI; rw [List.map_map]; rfl
theorem V8 {x y : List Int} (h : kI x = kI y) : x = y:=by
 unfold kI at h
 exact (List.map_inj_right (fun a b e=>by injection e)).mp h
def AftV (H : Hp) : Option (List Int)->V->Prop
 | none,v=>v = .non
 | some y,v=>∃ c,v = .ref c∧H c = some (.tup (y.map V.int))
theorem AftV.same {H H' : Hp} {o : Option (List Int)} {v : V} (h : AftV H o v) (s : ∀ b xs,H b = some (.tup xs)->H' b = some (.tup xs)) : AftV H' o v:=by
 cases o with
 | none=>exact h
 | some y=>obtain ⟨c,e,q⟩:=h; exact ⟨c,e,s _ _ q⟩
def kA (x : List Int) (f : Nat) : NK:=(kI x,[.inl (f : Int),.inl 0])
def kW (x : List Int) (t : Nat) : NK:=(kI x,[.inl (t : Int)])
def Ent (ls : List (List Int)) (b : Nat) (H : Hp) (k : NK) (v : V) : Prop :=
 (∃ (x : List Int) (f : Nat),Z7 ls x∧f < b∧k = kA x f∧AftV H (aft ls x f) v)∨∃ (x : List Int) (t : Nat),Z7 ls x∧1≤t∧t≤1000∧k = kW x t∧v = .int (cnt ls b t x : Nat)
structure Tab (ls : List (List Int)) (b : Nat) (H : Hp) (kvs : List (NK × V)) : Prop where
 nd : (kvs.map (·.1)).Nodup
 ok : ∀ p ∈ kvs,Ent ls b H p.1 p.2
section
variable {ls : List (List Int)} {b : Nat} {H H' : Hp} {kvs : List (NK × V)}
theorem Tab.nil : Tab ls b H []:=⟨List.nodup_nil,fun p hp=>nomatch hp⟩
theorem Tab.same (t : Tab ls b H kvs) (s : ∀ b xs,H b = some (.tup xs)->H' b = some (.tup xs)) : Tab ls b H' kvs:=⟨t.nd,fun p hp=>by
 rcases t.ok p hp with ⟨x,f,h1,h2,h3,h4⟩ | h
 ·exact .inl ⟨x,f,h1,h2,h3,h4.same s⟩
 ·exact .inr h⟩
theorem Uc {k : NK} {v : V} : ∀ {kvs : List (NK × V)},yw kvs k = some v->(k,v) ∈ kvs
 | [],h=>by cases h
 | p :: kvs,h=>by
  by_cases e : p.1 = k
  ·rw [yP e] at h
   cases h
   exact List.mem_cons.mpr (.inl (by rw [← e]))
  ·rw [yO e] at h
   exact List.mem_cons_of_mem _ (Uc h)
theorem Tab.aft (t : Tab ls b H kvs) {x : List Int} {f : Nat} {v : V} (h : yw kvs (kA x f) = some v) : AftV H (aft ls x f) v:=by
 rcases t.ok _ (Uc h) with ⟨y,g,_,_,e,q⟩ | ⟨y,n,_,_,_,e,_⟩
 ·unfold kA at e
  injection e with e1 e2
  injection e2 with e2 e3
  injection e2 with e2
  have e1:=V8 e1
  have e2 : f = g:=by omega
  subst e1 e2
  exact q
 ·exfalso
  have e:=congrArg (fun z : NK=>z.2.length) e
  simp [kA,kW] at e
theorem Tab.put (t : Tab ls b H kvs) {k : NK} {v : V} (h : yw kvs k = none) (e : Ent ls b H k v) : Tab ls b H (putK kvs k v):=by
 refine ⟨za4 v t.nd h,fun p hp=>?_⟩
 rw [j6 v h] at hp
 rcases List.mem_append.mp hp with hp | hp
 ·exact t.ok p hp
 ·rw [List.mem_singleton.mp hp]; exact e
def zaq (ls : List (List Int)) (b : Nat) : List NK:=((U5 ls ls).map fun x=>(List.range b).map fun f=>kA x f).flatten ++ ((U5 ls ls).map fun x=>(List.range 1001).map fun t=>kW x t).flatten
theorem Uy {α β : Type} {f : α->List β} {n : Nat} (h : ∀ a,(f a).length≤n) : ∀ l : List α,((l.map f).flatten).length≤n * l.length
 | []=>by simp
 | a :: l=>by
  rw [List.map_cons,List.flatten_cons,List.length_append,List.length_cons,Nat.mul_succ]
  have:=Uy h l
  have:=h a
  omega
theorem Tab.len (t : Tab ls b H kvs) (h4 : ls.length≤4) (h : ∀ st ∈ ls,st.length≤4) (hb : b≤16) : kvs.length≤20000:=by
 have hk : (zaq ls b).length≤20000:=by
  have h1:=Uy (f:=fun x=>(List.range b).map fun f=>kA x f) (n:=16) (fun x=>by rw [List.length_map,List.length_range]; exact hb) (U5 ls ls)
  have h2:=Uy (f:=fun x=>(List.range 1001).map fun t=>kW x t) (n:=1001) (fun x=>by rw [List.length_map,List.length_range]; exact Nat.le_refl _) (U5 ls ls)
  have h3:=zac h4 h
  unfold zaq
  rw [List.length_append]
  omega
 by_cases hc : kvs.length≤(zaq ls b).length
 ·omega
 ·exfalso
  obtain ⟨i,j,x,hij,h1,h2⟩:=zaU (kvs.map (·.1)) (zaq ls b) (fun k hk=>by
   obtain ⟨p,hp,rfl⟩:=List.mem_map.mp hk
   unfold zaq
   rw [List.mem_append]
   rcases t.ok p hp with ⟨x,f,q1,q2,q3,_⟩ | ⟨x,n,q1,q2,q3,q4,_⟩
   ·exact .inl (List.mem_flatten.mpr ⟨_,List.mem_map.mpr ⟨x,V4.mpr q1,rfl⟩,List.mem_map.mpr ⟨f,List.mem_range.mpr q2,q3.symm⟩⟩)
   ·exact .inr (List.mem_flatten.mpr ⟨_,List.mem_map.mpr ⟨x,V4.mpr q1,rfl⟩,List.mem_map.mpr ⟨n,List.mem_range.mpr (by omega),q4.symm⟩⟩)) (by rw [List.length_map]; omega)
  have hj:=(List.getElem?_eq_some_iff.mp h2).1
  have:=(List.getElem?_inj (by omega) t.nd).mp (h1.trans h2.symm)
  omega
end
structure RdS (G : Hp) (rd tl dd : Addr) (b : Nat) (ts : List (Addr × List Int)) : Prop where
 hd : G rd = some (.lst [.int b,.ref tl,.ref dd])
 li : G tl = some (.lst (ts.map fun t=>V.ref t.1))
 st : ∀ t ∈ ts,G t.1 = some (.tup (t.2.map V.int))
def RdD (P : Program) (w : World) (H : Hp) (dd : Addr) (ls : List (List Int)) (b : Nat) : Prop:=∃ kvs,DN P w H dd kvs∧Tab ls b H kvs
theorem RdS.same {G G' : Hp} {rd tl dd : Addr} {b : Nat} {ts : List (Addr × List Int)} (R : RdS G rd tl dd b ts) (s : Same G G') : RdS G' rd tl dd b ts:=⟨s _ _ R.hd,s _ _ R.li,fun t ht=>s _ _ (R.st t ht)⟩
theorem RdD.same {P : Program} {w : World} {H H' : Hp} {dd : Addr} {ls : List (List Int)} {b : Nat} (R : RdD P w H dd ls b) (s : Same H H') : RdD P w H' dd ls b:=let ⟨kvs,h1,h2⟩:=R; ⟨kvs,h1.same s,h2.same fun b xs e=>s _ _ e⟩
def SameD (d : Addr) (H H' : Hp) : Prop:=∀ b u,b ≠ d->H b = some u->H' b = some u
theorem SameD.of {d : Addr} {H H' : Hp} (s : Same H H') : SameD d H H':=fun b u _ e=>s b u e
theorem SameD.trans {d : Addr} {H H1 H2 : Hp} (a : SameD d H H1) (b : SameD d H1 H2) : SameD d H H2:=fun c u h e=>b c u h (a c u h e)
theorem RdD.ne {P : Program} {w : World} {H : Hp} {dd : Addr} {ls : List (List Int)} {b : Nat} (R : RdD P w H dd ls b) {c : Addr} {u : HO} (h : H c = some u) (hu : ∀ φ,u ≠ .ext φ) : c ≠ dd:=let ⟨_,⟨_,e,_⟩,_⟩:=R; fun z=>by
 rw [z,e] at h; cases h; exact hu _ rfl
def Z2 (x : List Int) : Tr:=.tup (x.map Tr.int)
theorem TrAt.tupI {K : PySem.W.Frag} {H : Hp} {a : Addr} {x : List Int} (h : H a = some (.tup (x.map V.int))) : TrAt K H (Z2 x) (.ref a):=by
 unfold Z2; rw [TrAt]; exact ⟨a,_,rfl,SqT.of h,TrsAt.ints⟩
theorem zcI (a b : List Int) : teq (Z2 a) (Z2 b) = decide (a = b):=by unfold Z2; rw [teq]; exact V5 zbo a b
theorem Qu (x : List Int) : uX (Z2 x) = 1:=by unfold Z2; rw [uX,Xv]
theorem V6 : ∀ ls : List (List Int),xX (ls.map Z2)≤1
 | []=>by rw [List.map_nil,xX]; omega
 | x :: ls=>by rw [List.map_cons,xX,Qu]; have:=V6 ls; omega
theorem TrsAt.tups {K : PySem.W.Frag} {H : Hp} : ∀ {zs : List (Addr × List Int)},(∀ z ∈ zs,H z.1 = some (.tup (z.2.map V.int)))->TrsAt K H ((zs.map (·.2)).map Z2) (zs.map fun z=>V.ref z.1)
 | [],_=>by rw [List.map_nil,List.map_nil,List.map_nil,TrsAt]
 | z :: zs,h=>by
  rw [List.map_cons,List.map_cons,List.map_cons,TrsAt]
  exact ⟨_,_,rfl,TrAt.tupI (h z List.mem_cons_self),TrsAt.tups fun y hy=>h y (List.mem_cons_of_mem _ hy)⟩
theorem Wz (ts : List Tr) : teq (.lst ts) (.lst []) = ts.isEmpty:=by
 cases ts with
 | nil=>rfl
 | cons t ts=>rw [teq,jr (by simp)]; rfl
theorem CompLoop.mono {J : It} {js : List Nat} {tt : TT} {te : TE} {σ : L2.St} {Q Q' : VK} {H : Hp} (h : CompLoop J js tt te σ Q H) (hq : ∀ v H,Q v H->Q' v H) : CompLoop J js tt te σ Q' H:=by
 obtain ⟨W,h0,hs⟩:=h
 refine ⟨W,h0,fun i m ys H hw=>?_⟩
 rcases hs i m ys H hw with ⟨a,b⟩ | ⟨a,b,c⟩
 ·exact .inl ⟨a,fun D hD=>hq _ _ (b D hD)⟩
 ·exact .inr ⟨a,b,c⟩
theorem zeG {c : Bool} {A B : Prop} (hc : c = false) (h : B) : if c = true then A else B:=by rw [hc]; exact xW h
theorem zds {c : Bool} {A B : Prop} (hc : c = true) (h : A) : if c = true then A else B:=by rw [hc]; exact wF h
theorem zaS {ls : List (List Int)} (ne : ∀ l ∈ ls,l ≠ []) {x : List Int} {f : Int} (h : lacks ls x = true) (q : ∀ k,k < (x ++ [f]).length->(x ++ [f]).drop k ∉ ls) : lacks ls (x ++ [f]) = true:=by
 cases e : lacks ls (x ++ [f]) with
 | true=>rfl
 | false =>
  obtain ⟨y,hy,hl⟩:=(zbg ne f h).mpr e
  obtain ⟨i,hi,rfl⟩:=List.mem_map.mp hy
  have hi:=List.mem_range.mp hi
  by_cases z : i < (x ++ [f]).length
  ·exact absurd hl (q i z)
  ·rw [List.drop_of_length_le (by omega)] at hl
   exact absurd rfl (ne _ hl)
section
variable {P : Program} {w : World} {K : PySem.W.Frag} {mg : Str->Option Value} {base : Heap}
def BadAt (H : Hp) (bl : Addr) (zs : List (Addr × List Int)) : Prop:=H bl = some (.lst (zs.map fun z=>V.ref z.1))∧∀ z ∈ zs,H z.1 = some (.lst (z.2.map V.int))
theorem BadAt.same {H H' : Hp} {bl : Addr} {zs : List (Addr × List Int)} (h : BadAt H bl zs) (s : Same H H') : BadAt H' bl zs:=⟨s _ _ h.1,fun z hz=>s _ _ (h.2 z hz)⟩
def jc : Sp:=fun vs H Q _=>∃ (bl : Addr) (zs : List (Addr × List Int)) (ea : Addr) (x : List Int) (c : Nat) (b : Nat),vs = [.ref bl,.ref ea,.int c]∧BadAt H bl zs∧H ea = some (.tup (x.map V.int))∧zW b (zs.map (·.2))∧Z7 (zs.map (·.2)) x∧∀ v H',Same H H'->AftV H' (aft (zs.map (·.2)) x c) v->Q v H'
theorem uC : zE ["bad","end","figure","figures","at"] ["bad","end","figure"] (zu vG):=⟨rfl,rfl,rfl,by decide +kernel,rfl,by decide +kernel,by decide +kernel⟩
set_option maxHeartbeats 0 in
theorem Yk {f : Addr} {fd : FuncData} (D : Df K mg "_law_behind" vG ["bad","end","figure"] f fd) (T : Blt mg) : FnOk P w K mg base CX0 1 f fd ["bad","end","figure"] jc:=by
 refine D.fn.ok uC (fun vs H Q E h=>?_) (fun cdv A outer s H vs Q E hr h=>?_)
 ·obtain ⟨bl,zs,ea,x,c,b,rfl,_⟩:=h; rfl
 ·obtain ⟨bl,zs,ea,x,c,b,rfl,B,hea,g,hx,kk⟩:=h
  have HU:=Vj hr
  have h4 : zs.length≤4:=by have:=g.len; rwa [List.length_map] at this
  have hst4 : ∀ st ∈ zs.map (·.2),st.length≤4:=fun st h=>(g.st st h).len
  have ne : ∀ st ∈ zs.map (·.2),st ≠ []:=fun st h=>(g.st st h).ne
  have hx3:=zab hst4 hx
  have hLx : lacks (zs.map (·.2)) x = true:=(zaB hx).1
  refine ⟨_,(zm (zF (i:=3) uC.nd rfl (Or.inr rfl) (zM Xa (tG (zan K) (by rfl) T.n_list boot_list (zc (pv 1) zg)) (zU (zc (pv 2) zg))))
   (zm (xM PassesOwn.never rfl (zY rfl T.n_range (zc (zB (vV K) (by rfl) T.n_len PySem.boot_len (zc (pv 3) zg)) zg)) (zR (i:=4) uC.nd rfl (Or.inl rfl))
    (zx (xQ (yd (zeX K HU) (xT (Zd K) (pv 3) (wg (pv 4)) uF) (pv 0) (by with_unfolding_all rfl))
     (zx (zL Xi))
     yj)))
   (zm (Yo PassesOwn.never (PW.pt (Q9 (yd (za2 K HU) (pv 3) (zU zg) (ye _)) (Vu (yd (Qz K HU) (wJ (show CScope (zu vG) _ "one" ["bad","end","figure","figures","at"] ["figures"] [3] from ⟨rfl,by decide +kernel,by decide +kernel,rfl,by decide +kernel,rfl,by decide +kernel,by decide +kernel⟩) rfl (Z6 K (pv 0)) (fun _ _ _ _=>(Vw (yd (Qz K HU) (xT (Zd K) (pv 0) uF (wg (zB (vV K) (by rfl) T.n_len PySem.boot_len (zc (pv 1) zg)))) (pv 1) (ye _)))) (fun _ _ _ _=>(pv 0))) (zU zg) (ye _)))))
    (zx (zF (i:=3) uC.nd rfl (Or.inr rfl) (xT (Zd K) (pv 3) (wg zp) uF))))
   (zx (zL (tG (zdi K) (by rfl) T.n_tuple boot_tuple (zc (pv 3) zg))))))),?_⟩
  refine ⟨_,rfl,ea,_,rfl,.inr (SqT.of hea),fun l1 hl1=>?_⟩
  have m1:=zj hl1 (o:=.lst (x.map V.int))
  refine ⟨_,rfl,(by show 1≤sizeLine; decide),fun l2 hl2=>?_⟩
  have m2:=zj hl2 (o:=.lst [.int c])
  refine ⟨l1,l2,_,_,rfl,rfl,m2 _ _ zf,zf,by rw [List.length_map]; exact Nat.le_trans (show x.length + 1≤100 by omega) (by decide),fun fa hfa=>?_⟩
  have m3:=zj hfa (o:=.lst (x.map V.int ++ [.int c]))
  have s1:=(m1.trans m2).trans m3
  obtain ⟨fs,efs⟩ : ∃ fs : List Int,fs = x ++ [(c : Int)]:=⟨_,rfl⟩
  have hfl : fs.length≤4:=by rw [efs,List.length_append,List.length_singleton]; omega
  have hf1 : (upd (upd (upd H l1 (.lst (x.map V.int))) l2 (.lst [.int c])) fa (.lst (x.map V.int ++ [.int c]))) fa = some (.lst (fs.map V.int)):=by rw [zf,efs,List.map_append]; rfl
  generalize upd (upd (upd H l1 (.lst (x.map V.int))) l2 (.lst [.int c])) fa (.lst (x.map V.int ++ [.int c])) = H1 at s1 hf1
  have B1:=B.same s1
  refine ⟨_,rfl,fa,_,rfl,.inl (SqL.of hf1),_,rfl,by rw [List.length_map]; omega,by rw [List.length_map]; omega,?_⟩
  rw [List.length_map,Int.toNat_natCast]
  refine yD (lo:=0) (n:=fs.length) (fun i σ Hc=>∃ v4 : Option V,σ = [some (.ref bl),some (.ref ea),some (.int c),some (.ref fa),v4]∧Same H1 Hc∧∀ k,k < i->fs.drop k ∉ zs.map (·.2)) ⟨_,rfl,Same.refl _,fun k hk=>by omega⟩ ?_ ?_
  ·rintro i σ Hc hi ⟨v4,rfl,sc,hno⟩
   refine ⟨_,rfl,_,rfl,_,rfl,fa,_,rfl,SqL.of (sc _ _ hf1),fun p hp=>?_⟩
   have ec : jn (fs.map V.int) (some (0 + (i : Int))) none = (fs.drop i).map V.int:=by rw [Int.zero_add,tD,List.map_drop]
   rw [ec]
   have mp:=zj hp (o:=.lst ((fs.drop i).map V.int))
   have Bp:=(B1.same sc).same mp
   refine ⟨_,rfl,bl,_,(zs.map (·.2)).map yt,yt (fs.drop i),rfl,SqL.of Bp.1,TrsAt.lists Bp.2,TrAt.ints (a:=p) (SqL.of zf),Nat.le_trans (xu _) (by decide),_,rfl,?_⟩
   rw [if_neg Bool.false_ne_true,YC]
   by_cases hin : fs.drop i ∈ zs.map (·.2)
   ·rw [decide_eq_true hin]
    refine wF (kk .non _ ((s1.trans sc).trans mp) ?_)
    have hf : lacks (zs.map (·.2)) (x ++ [(c : Int)]) = false:=by
     rw [← zbg ne _ hLx,← efs]
     exact ⟨_,List.mem_map.mpr ⟨i,List.mem_range.mpr (by omega),rfl⟩,hin⟩
    unfold aft
    rw [if_neg (by rw [hf]; exact Bool.false_ne_true)]
    rfl
   ·rw [decide_eq_false hin]
    refine xW ⟨_,rfl,sc.trans mp,fun k hk=>?_⟩
    by_cases z : k < i
    ·exact hno k z
    ·rw [show k = i by omega]; exact hin
  rintro σ Hc ⟨v4,rfl,sc,hno⟩
  have hL : lacks (zs.map (·.2)) (x ++ [(c : Int)]) = true:=zaS ne hLx (by rw [← efs]; exact hno)
  have haft : aft (zs.map (·.2)) x c = some (zH (zs.map (·.2)) fs):=by unfold aft; rw [if_pos hL,efs]
  refine Wk (fun σ H2=>∃ (j : Nat) (ga : Addr),σ = [some (.ref bl),some (.ref ea),some (.int c),some (.ref ga),v4]∧H2 ga = some (.lst ((fs.drop j).map V.int))∧j≤fs.length∧Same H1 H2∧∀ k,k < j->qQ (zs.map (·.2)) (fs.drop k) = false)
   (fun σ H2=>match σ with | [_,_,_,some (.ref ga),_]=>(match H2 ga with | some (.lst xs)=>xs.length | _=>0) | _=>0) ⟨0,fa,rfl,sc _ _ hf1,Nat.zero_le _,sc,fun k hk=>by omega⟩ ?_ ?_
  ·rintro σ H2 ⟨j,ga,rfl,hga,hj,s2,hb⟩
   refine ⟨_,rfl,(by decide : 0≤sizeLine),fun e0 he0=>?_⟩
   have me:=zj he0 (o:=.lst [])
   refine ⟨yt (fs.drop j),yt [],TrAt.ints (a:=ga) (SqL.of (me _ _ hga)),TrAt.ints (a:=e0) (SqL.of zf),(by rw [vP]; decide),_,rfl,?_⟩
   rw [if_pos rfl,ue]
   by_cases hz : fs.drop j = []
   ·rw [decide_eq_true hz]
    have hjl : j = fs.length:=by
     have:=congrArg List.length hz
     rw [List.length_drop,List.length_nil] at this
     omega
    refine xW ?_
    refine ⟨_,rfl,ga,_,rfl,.inl ⟨SqL.of (me _ _ hga),fun q hq=>?_⟩⟩
    refine kk (.ref q) _ (((s1.trans s2).trans me).trans (zj hq)) ?_
    rw [haft]
    refine ⟨q,rfl,?_⟩
    rw [zf,Ue (fun k hk=>hb k (by omega)),hz]
   ·rw [decide_eq_false hz]
    refine wF ?_
    have B2:=(B1.same s2).same me
    refine ⟨_,rfl,bl,rfl,⟨_,SqL.of B2.1⟩,wD (K:=K) (a:=bl) (xs:=zs.map fun t=>V.ref t.1) (fun i us Hd=>us = ((zs.take i).filter fun z=>decide (z.2.take (fs.drop j).length = fs.drop j)).map (fun z=>V.ref z.1)∧Same (upd H2 e0 (.lst [])) Hd) ⟨by simp,Same.refl _⟩ (fun i us Hd _ ⟨_,e⟩=>SqL.of (e _ _ B2.1)) ?_ ?_⟩
    ·rintro i u us Hd hi ⟨rfl,sd⟩
     rw [List.getElem?_map] at hi
     obtain ⟨z,hzj,e⟩:=Option.map_eq_some_iff.mp hi
     subst e
     have hzm:=List.mem_of_getElem? hzj
     refine ⟨by rw [List.length_map]; exact Nat.lt_of_le_of_lt (Nat.le_trans (List.length_filter_le _ _) (by rw [List.length_take]; exact show min i zs.length≤10 by omega)) (by decide),?_⟩
     have hgd:=sd _ _ (me _ _ hga)
     refine ⟨_,rfl,_,rfl,ga,_,rfl,.inl (SqL.of hgd),_,rfl,z.1,_,rfl,SqL.of (sd _ _ (B2.2 z hzm)),fun p4 hp4=>?_⟩
     rw [List.length_map,Zb,← List.map_take]
     have m4:=zj hp4 (o:=.lst ((z.2.take (fs.drop j).length).map V.int))
     refine ⟨_,rfl,yt (z.2.take (fs.drop j).length),yt (fs.drop j),TrAt.ints (a:=p4) (SqL.of zf),TrAt.ints (a:=ga) (SqL.of (m4 _ _ hgd)),(by rw [vP]; decide),_,rfl,?_⟩
     rw [if_neg Bool.false_ne_true,ue]
     by_cases hq : z.2.take (fs.drop j).length = fs.drop j
     ·rw [decide_eq_true hq]
      refine wF ⟨_,rfl,?_,sd.trans m4⟩
      rw [List.take_succ,hzj,Option.toList_some,List.filter_append,List.filter_cons,if_pos (decide_eq_true hq),List.map_append]; rfl
     ·rw [decide_eq_false hq]
      refine xW ⟨?_,sd.trans m4⟩
      rw [List.take_succ,hzj,Option.toList_some,List.filter_append,List.filter_cons,if_neg (by rw [decide_eq_false hq]; exact Bool.false_ne_true),List.filter_nil,List.append_nil]
    rintro us Hd ⟨rfl,sd⟩ D4 hD4
    rw [List.length_map,List.take_length]
    refine ⟨(by decide : 0≤sizeLine),fun p0 hp0=>?_⟩
    generalize hks : (zs.filter fun z=>decide (z.2.take (fs.drop j).length = fs.drop j)) = ks at hD4 hp0
    have m4:=zj hD4 (o:=.lst (ks.map fun z=>V.ref z.1))
    have m5:=zj hp0 (o:=.lst [])
    have hkt : ∀ z ∈ ks,(upd (upd Hd D4 (.lst (ks.map fun z=>V.ref z.1))) p0 (.lst [])) z.1 = some (.lst (z.2.map V.int)):=fun z hz=>m5 _ _ (m4 _ _ (sd _ _ (B2.2 z (by rw [← hks] at hz; exact (List.mem_filter.mp hz).1))))
    refine ⟨.lst ((ks.map (·.2)).map yt),.lst [],?_,?_,(by rw [uX]; have:=xu (ks.map (·.2)); omega),_,rfl,?_⟩
    ·rw [TrAt]; exact ⟨D4,_,rfl,SqL.of (m5 _ _ zf),TrsAt.lists hkt⟩
    ·rw [TrAt]; exact ⟨p0,_,rfl,SqL.of zf,by rw [TrsAt]⟩
    have sE:=s2.trans (me.trans (sd.trans (m4.trans m5)))
    have hgE:=m5 _ _ (m4 _ _ (sd _ _ (me _ _ hga)))
    rw [if_neg Bool.false_ne_true,Wz]
    have hbb : qQ (zs.map (·.2)) (fs.drop j) = !((ks.map (·.2)).map yt).isEmpty:=by
     unfold qQ
     rw [List.any_map,← hks,Bool.eq_iff_iff]
     simp [List.any_eq_true,List.isEmpty_iff]
    cases hbe : ((ks.map (·.2)).map yt).isEmpty with
    | true =>
     rw [hbe] at hbb
     refine wF ?_
     have hjl : j < fs.length:=by
      by_cases z : j < fs.length
      ·exact z
      ·exact absurd (List.drop_of_length_le (by omega)) hz
     refine ⟨_,rfl,_,rfl,ga,_,rfl,SqL.of hgE,fun q hq=>?_⟩
     have ec : jn ((fs.drop j).map V.int) (some 1) none = (fs.drop (j + 1)).map V.int:=by
      rw [show (some (1 : Int)) = some ((1 : Nat) : Int) from rfl,tD,← List.map_drop,List.drop_drop]
     rw [ec]
     refine ⟨⟨j + 1,q,rfl,zf,hjl,sE.trans (zj hq),fun k hk=>?_⟩,?_⟩
     ·by_cases z : k < j
      ·exact hb k z
      ·rw [show k = j by omega,hbb]; rfl
     ·show (match (upd _ q _) q with | some (.lst xs)=>xs.length | _=>0) < (match H2 ga with | some (.lst xs)=>xs.length | _=>0)
      rw [zf,hga]
      show ((fs.drop (j + 1)).map V.int).length < ((fs.drop j).map V.int).length
      rw [List.length_map,List.length_map,List.length_drop,List.length_drop]
      omega
    | false =>
     rw [hbe] at hbb
     refine xW ?_
     refine ⟨_,rfl,ga,_,rfl,.inl ⟨SqL.of hgE,fun q hq=>?_⟩⟩
     refine kk (.ref q) _ ((s1.trans sE).trans (zj hq)) ?_
     rw [haft]
     refine ⟨q,rfl,?_⟩
     rw [zf,J0 hj hb hbb]
  ·intro σ H2 Q Q' hq
   rintro ⟨v,e,sz,h⟩
   refine ⟨v,e,sz,fun p hp=>?_⟩
   obtain ⟨t1,t2,a1,a2,dep,c1,ec,q⟩:=h p hp
   refine ⟨t1,t2,a1,a2,dep,c1,ec,?_⟩
   cases c1 with
   | false=>exact xW (hq _ _ (by simpa using q))
   | true =>
    refine wF ?_
    have q:=(show _ from (by simpa only [if_true] using q))
    obtain ⟨v2,e2,a,ea',hs,q⟩:=q
    refine ⟨v2,e2,a,ea',hs,CompLoop.mono q fun v3 H3 q3=>?_⟩
    obtain ⟨sz2,h2⟩:=q3
    refine ⟨sz2,fun p2 hp2=>?_⟩
    obtain ⟨t3,t4,a3,a4,dep2,c2,ec2,q4⟩:=h2 p2 hp2
    exact ⟨t3,t4,a3,a4,dep2,c2,ec2,hq _ _ q4⟩
end
theorem zcO {ls : List (List Int)} (ne : ∀ l ∈ ls,l ≠ []) {x y : List Int} {c : Int} (h : aft ls x c = some y) : lacks ls (x ++ [c]) = true∧y = zH ls (x ++ [c])∧Z7 ls y:=by
 unfold aft at h
 by_cases hl : lacks ls (x ++ [c]) = true
 ·rw [if_pos hl] at h
  cases h
  exact ⟨hl,rfl,Zr ne hl⟩
 ·rw [if_neg hl] at h; cases h
theorem JZ {κ : Type} [DecidableEq κ] {k : κ} {v : V} : ∀ {kvs : List (κ × V)},yw kvs k = some v->(k,v) ∈ kvs
 | [],h=>by cases h
 | p :: r,h=>by
  by_cases e : p.1 = k
  ·rw [yP e] at h
   cases h
   rw [← e]
   exact List.mem_cons_self
  ·rw [yO e] at h
   exact List.mem_cons_of_mem _ (JZ h)
def yp (ls : List (List Int)) (x : List Int) (n : Nat) : List (Nat × List Int):=(List.range n).filterMap fun (c : Nat)=>(aft ls x (c : Int)).map fun y=>(c,y)
theorem Yt (ls : List (List Int)) (x : List Int) (n : Nat) : yp ls x (n + 1) = yp ls x n ++ ((aft ls x (n : Int)).map fun y=>(n,y)).toList:=by
 unfold yp
 rw [List.range_succ,List.filterMap_append]
 congr 1
theorem Zn {ls : List (List Int)} {x : List Int} {n : Nat} {p : Nat × List Int} (h : p ∈ yp ls x n) : p.1 < n∧aft ls x (p.1 : Int) = some p.2:=by
 obtain ⟨c,hc,e⟩:=List.mem_filterMap.mp h
 obtain ⟨y,hy,rfl⟩:=Option.map_eq_some_iff.mp e
 exact ⟨List.mem_range.mp hc,hy⟩
theorem Xq (ls : List (List Int)) (x : List Int) (n : Nat) : (yp ls x n).length≤n:=by
 unfold yp
 exact Nat.le_trans (List.length_filterMap_le ..) (by rw [List.length_range]; exact Nat.le_refl _)
abbrev StL:=List (Addr × Nat × Addr × List Int)
structure StepAt (H : Hp) (ls : List (List Int)) (n : Nat) (x : List Int) (la : Addr) (ss : StL) : Prop where
 li : H la = some (.lst (ss.map fun s=>V.ref s.1))
 tu : ∀ s ∈ ss,H s.1 = some (.tup [.int ((s.2.1 : Nat) : Int),.ref s.2.2.1])∧H s.2.2.1 = some (.tup (s.2.2.2.map V.int))
 eq : ss.map (fun s=>(s.2.1,s.2.2.2)) = yp ls x n
theorem StepAt.keep {H H' : Hp} {ls : List (List Int)} {n : Nat} {x : List Int} {la : Addr} {ss : StL} (h : StepAt H ls n x la ss) (hl : H' la = H la) (ht : ∀ c zs,H c = some (.tup zs)->H' c = some (.tup zs)) : StepAt H' ls n x la ss :=
 ⟨by rw [hl]; exact h.li,fun s hs=>⟨ht _ _ (h.tu s hs).1,ht _ _ (h.tu s hs).2⟩,h.eq⟩
theorem StepAt.len {H : Hp} {ls : List (List Int)} {n : Nat} {x : List Int} {la : Addr} {ss : StL} (h : StepAt H ls n x la ss) : ss.length≤n:=by
 have:=congrArg List.length h.eq
 rw [List.length_map] at this
 rw [this]
 exact Xq ls x n
structure StepsD (P : Program) (w : World) (H : Hp) (fo : Addr) (ls : List (List Int)) (b : Nat) (kvs : List (List Key × V)) : Prop where
 d : DE P w H fo kvs
 nd : (kvs.map (·.1)).Nodup
 ok : ∀ kv ∈ kvs,∃ x la ss,kv.1 = kI x∧Z7 ls x∧kv.2 = .ref la∧StepAt H ls b x la ss
section
variable {P : Program} {w : World} {H H' : Hp} {fo : Addr} {ls : List (List Int)} {b : Nat} {kvs : List (List Key × V)}
theorem StepsD.get (s : StepsD P w H fo ls b kvs) {x : List Int} {v : V} (h : yw kvs (kI x) = some v) : ∃ la ss,v = .ref la∧Z7 ls x∧StepAt H ls b x la ss:=by
 obtain ⟨y,la,ss,h1,h2,h3,h4⟩:=s.ok _ (JZ h)
 obtain rfl:=V8 h1
 exact ⟨la,ss,h3,h2,h4⟩
theorem StepsD.len (s : StepsD P w H fo ls b kvs) (h4 : ls.length≤4) (h : ∀ st ∈ ls,st.length≤4) : kvs.length≤13:=by
 have hk:=zac h4 h
 by_cases hc : kvs.length≤((U5 ls ls).map kI).length
 ·rw [List.length_map] at hc; omega
 ·exfalso
  obtain ⟨i,j,x,hij,h1,h2⟩:=zaU (kvs.map (·.1)) ((U5 ls ls).map kI) (fun k hk=>by
   obtain ⟨p,hp,rfl⟩:=List.mem_map.mp hk
   obtain ⟨x,la,ss,q1,q2,_⟩:=s.ok p hp
   exact List.mem_map.mpr ⟨x,V4.mpr q2,q1.symm⟩) (by rw [List.length_map (f:=fun x : List Key × V=>x.1)]; omega)
  have hj:=(List.getElem?_eq_some_iff.mp h2).1
  have:=(List.getElem?_inj (by omega) s.nd).mp (h1.trans h2.symm)
  omega
theorem StepsD.keep (s : StepsD P w H fo ls b kvs) (hf : H' fo = H fo) (hl : ∀ kv ∈ kvs,∀ la,kv.2 = .ref la->H' la = H la) (ht : ∀ c zs,H c = some (.tup zs)->H' c = some (.tup zs)) : StepsD P w H' fo ls b kvs :=
 ⟨s.d.stay hf ht,s.nd,fun kv hk=>let ⟨x,la,ss,h1,h2,h3,h4⟩:=s.ok kv hk; ⟨x,la,ss,h1,h2,h3,h4.keep (hl kv hk la h3) ht⟩⟩
theorem StepsD.same (s : StepsD P w H fo ls b kvs) (m : Same H H') : StepsD P w H' fo ls b kvs:=by
 have d:=s.d
 obtain ⟨_,_,e,_⟩:=d
 exact s.keep (by rw [e]; exact m _ _ e) (fun kv hk la e=>by
  obtain ⟨x,la',ss,_,_,h3,h4⟩:=s.ok kv hk
  rw [e] at h3
  cases h3
  rw [h4.li]
  exact m _ _ h4.li) fun c zs h=>m _ _ h
theorem StepsD.new (h : DE P w H fo []) : StepsD P w H fo ls b []:=⟨h,List.nodup_nil,fun kv hk=>nomatch hk⟩
theorem StepsD.put {x : List Int} {la : Addr} {ss : StL} (s : StepsD P w H fo ls b kvs) (hn : yw kvs (kI x) = none) (hd : DE P w H' fo (putK kvs (kI x) (.ref la))) (ho : ∀ c,c ≠ fo->H' c = H c) (hx : Z7 ls x) (hs : StepAt H ls b x la ss) : StepsD P w H' fo ls b (putK kvs (kI x) (.ref la)):=by
 have nt : ∀ {c : Addr} {u : HO},H c = some u->(∀ φ,u ≠ .ext φ)->c ≠ fo:=fun {c u} h hu z=>by
  have d:=s.d
  obtain ⟨_,_,e,_⟩:=d
  rw [z,e] at h
  cases h
  exact hu _ rfl
 have kt : ∀ c zs,H c = some (.tup zs)->H' c = some (.tup zs):=fun c zs h=>by rw [ho c (nt h fun _ z=>nomatch z)]; exact h
 refine ⟨hd,za4 _ s.nd hn,fun kv hk=>?_⟩
 rw [j6 _ hn] at hk
 rcases List.mem_append.mp hk with hk | hk
 ·obtain ⟨y,la',ss',h1,h2,h3,h4⟩:=s.ok kv hk
  exact ⟨y,la',ss',h1,h2,h3,h4.keep (ho _ (nt h4.li fun _ z=>nomatch z)) kt⟩
 ·rw [List.mem_singleton.mp hk]
  exact ⟨x,la,ss,rfl,hx,rfl,hs.keep (ho _ (nt hs.li fun _ z=>nomatch z)) kt⟩
end
theorem zdg {c : TT} {tb : TS} {D : Ends} {σ : L2.St} {H : Hp} (W : Nat->L2.St->Hp->Prop) (m : Nat) (h0 : W m σ H)
  (hs : ∀ m σ H,W m σ H->c σ H fun b H1=>if b = true then tb { D with nx:=fun σ' H'=>∃ m',m' < m∧W m' σ' H',ct:=fun σ' H'=>∃ m',m' < m∧W m' σ' H',bk:=D.nx } σ H1 else D.nx σ H1)
  (mono : ∀ σ H Q Q',(∀ b H1,Q b H1->Q' b H1)->c σ H Q->c σ H Q') : zaY c tb D σ H:=by
 refine ⟨W,⟨m,h0⟩,fun m σ H hw=>mono σ H _ _ (fun b H1 q=>?_) (hs m σ H hw)⟩
 cases b with
 | true=>exact wF ⟨_,fun _ _ h=>h,by simpa using q⟩
 | false=>exact xW (by simpa using q)
section
variable {P : Program} {w : World} {K : PySem.W.Frag} {mg : Str->Option Value} {base : Heap}
def zer (ls : List (List Int)) (b : Nat) (kvs : List (List Key × V)) : Prop:=∀ x,yw kvs (kI x) ≠ none->∀ p ∈ yp ls x b,yw kvs (kI p.2) ≠ none
def tQ (P : Program) (w : World) : Sp:=fun vs H Q _=>∃ (r : Addr) (b : Nat) (bl : Addr) (zs : List (Addr × List Int)),vs = [.ref r]∧RuleAt H r b bl zs∧zW b (zs.map (·.2))∧∀ fo kvs H',H fo = none->Same H H'->StepsD P w H' fo (zs.map (·.2)) b kvs->zer (zs.map (·.2)) b kvs->yw kvs (kI []) ≠ none->Q (.ref fo) H'
theorem xG : zE ["rule","base","bad","found","waiting","end","both"] ["rule"] (zu xr):=⟨rfl,rfl,rfl,by decide +kernel,rfl,by decide +kernel,by decide +kernel⟩
set_option maxHeartbeats 0 in
theorem U0 {f f1 : Addr} {fd fd1 : FuncData} (D : Df K mg "_law_steps" xr ["rule"] f fd) (uo : Df K mg "_law_behind" vG ["bad","end","figure"] f1 fd1) (T : Blt mg) : FnOk P w K mg base CX0 2 f fd ["rule"] (tQ P w):=by
 have XC : FnOk P w K mg base CX0 1 f1 fd1 ["bad","end","figure"] jc:=Yk uo T
 refine D.fn.ok xG (fun vs H Q E h=>?_) (fun cdv A outer s H vs Q E hr h=>?_)
 ·obtain ⟨r,b,bl,zs,rfl,_⟩:=h; rfl
 ·obtain ⟨r,b,bl,zs,rfl,R,g,kk⟩:=h
  have HU:=Vj hr
  have b2:=g.b2
  have b16:=g.b16
  have h4 : zs.length≤4:=by have:=g.len; rwa [List.length_map] at this
  have hst4 : ∀ st ∈ zs.map (·.2),st.length≤4:=fun st h=>(g.st st h).len
  have ne : ∀ st ∈ zs.map (·.2),st ≠ []:=fun st h=>(g.st st h).ne
  refine ⟨_,(zm (WK (pv 0) (W0 rfl (yz (zR (i:=1) xG.nd rfl (Or.inl rfl)) (yz (zR (i:=2) xG.nd rfl (Or.inr rfl)) qH))))
   (zm (zF (i:=3) xG.nd rfl (Or.inl rfl) zbl)
   (zm (zF (i:=4) xG.nd rfl (Or.inl rfl) (zU (zc (vM zg) zg)))
   (zm (Yo PassesOwn.never (yd (za2 K HU) (pv 4) (zU zg) (ye _))
    (zm (zF (i:=5) xG.nd rfl (Or.inr rfl) (zew PySem.F.plainAttrs_list PySem.F.slot_list_pop PySem.F.type_list_pop zd2 (pv 4)))
    (zx (xQ (zet (zca (uY hr) (pv 5) (pv 3)) (by with_unfolding_all rfl))
     (zm (vU (i:=6) (show CScope (zu xr) _ "figure" ["rule","base","bad","found","waiting","end","both"] ["bad","end"] [2,5] from ⟨rfl,by decide +kernel,by decide +kernel,rfl,by decide +kernel,rfl,by decide +kernel,by decide +kernel⟩) rfl xG.nd rfl (Or.inl rfl) (zY rfl T.n_range (zc (pv 1) zg)) (fun _ _ _ _=>yE) (fun _ _ _ _=>(vM (zc (pv 0) (zc (zO uo XC (hr.mono (by decide)) (zc (pv 1) (zc (pv 2) (zc (pv 0) zg)))) zg)))))
     (zm (zbv (uY hr) (pv 3) (pv 5) (wJ (show CScope (zu xr) _ "one" ["rule","base","bad","found","waiting","end","both"] [] [] from ⟨rfl,by decide +kernel,by decide +kernel,rfl,by decide +kernel,rfl,by decide +kernel,by decide +kernel⟩) rfl (Z6 K (pv 6)) (fun _ _ _ _=>(Vw (yd Js (zQ (wH K) (pv 0) zp (fun _ _=>rfl)) Xi (ye _)))) (fun _ _ _ _=>(pv 0))) rfl)
     (zx (xP (Z3 PySem.F.plainAttrs_list PySem.F.slot_list_extend PySem.F.type_list_extend zbJ (pv 4) (zc (Wf (show Zt (zu xr) _ ["figure","there"] ["rule","base","bad","found","waiting","end","both"] [] [] from ⟨rfl,by decide +kernel,by decide +kernel,by decide +kernel,by decide +kernel,rfl,by decide +kernel,by decide +kernel⟩) rfl (Z6 K (jY P w (uY hr) (pv 3) (pv 5) (fun _ _=>rfl))) (fun _ _ _ _=>(Jo K 2 rfl (yz (zR (i:=0) (show List.Nodup (α:=Str) ["figure","there"] by decide) rfl (.inl (lookup_relabel_local rfl)) (.inr (lookup_relabel_local rfl))) (yz (zR (i:=1) (show List.Nodup (α:=Str) ["figure","there"] by decide) rfl (.inl (lookup_relabel_local rfl)) (.inr (lookup_relabel_local rfl))) qH)))) (fun _ _ _ _=>yE) (fun _ _ _ _=>(pv 1))) zg))))))
     yj))))
   (zx (zL (pv 3))))))),?_⟩
  refine ⟨_,rfl,r,_,rfl,SqT.of R.tu,rfl,_,_,rfl,_,_,rfl,rfl,?_⟩
  refine fun fo H1 hfo d1 c1=>?_
  have s1 : Same H H1:=fun c u e=>by rw [c1 c (zy e hfo)]; exact e
  refine ⟨(by decide : 0≤sizeLine),fun e0 he0=>⟨(by show 1≤sizeLine; decide),fun wa hwa=>?_⟩⟩
  have m2:=zj he0 (o:=.tup [])
  have m3:=zj hwa (o:=.lst [.ref e0])
  have hwa0 : H wa = none:=s1.free (m2.free hwa)
  have S2 : StepsD P w (upd (upd H1 e0 (.tup [])) wa (.lst [.ref e0])) fo (zs.map (·.2)) b []:=.new ((d1.same m2).same m3)
  have s2:=(s1.trans m2).trans m3
  have hw2 : (upd (upd H1 e0 (.tup [])) wa (.lst [.ref e0])) wa = some (.lst (([(e0,([] : List Int))] : List (Addr × List Int)).map fun z=>V.ref z.1)):=zf
  have he2 : (upd (upd H1 e0 (.tup [])) wa (.lst [.ref e0])) e0 = some (.tup (([] : List Int).map V.int)):=m3 _ _ zf
  generalize upd (upd H1 e0 (.tup [])) wa (.lst [.ref e0]) = H2 at S2 s2 hw2 he2
  refine zdg (fun m σ Hc=>∃ (kvs : List (List Key × V)) (ws : List (Addr × List Int)) (v5 v6 : Option V),σ = [some (.ref r),some (.int b),some (.ref bl),some (.ref fo),some (.ref wa),v5,v6]∧StepsD P w Hc fo (zs.map (·.2)) b kvs∧(∀ kv ∈ kvs,kv.2 ≠ .ref wa)∧Hc wa = some (.lst (ws.map fun z=>V.ref z.1))∧(∀ z ∈ ws,Hc z.1 = some (.tup (z.2.map V.int))∧Z7 (zs.map (·.2)) z.2)∧(∀ x,yw kvs (kI x) ≠ none->∀ p ∈ yp (zs.map (·.2)) x b,yw kvs (kI p.2) ≠ none∨p.2 ∈ ws.map (·.2))∧(yw kvs (kI []) ≠ none∨[] ∈ ws.map (·.2))∧Same H Hc∧ws.length≤1 + 16 * kvs.length∧m = (13 - kvs.length) * 17 + ws.length) _ ⟨[],[(e0,[])],none,none,rfl,S2,(fun kv hk=>nomatch hk),hw2,(fun z hz=>by rw [List.mem_singleton.mp hz]; exact ⟨he2,.inl rfl⟩),(fun x h=>absurd rfl h),.inr (by simp),s2,by simp,rfl⟩ ?_ ?_
  ·rintro m σ Hc ⟨kvs,ws,v5,v6,rfl,S,hkw,hwl,hws,hcl,hrt,sc,hwn,rfl⟩
   have hk13:=S.len (by rw [List.length_map]; exact h4) hst4
   refine ⟨_,rfl,(by decide : 0≤sizeLine),fun p0 hp0=>?_⟩
   have mp:=zj hp0 (o:=.lst [])
   refine ⟨.lst ((ws.map (·.2)).map Z2),.lst [],?_,?_,(by rw [uX]; have:=V6 (ws.map (·.2)); omega),_,rfl,?_⟩
   ·rw [TrAt]; exact ⟨wa,_,rfl,SqL.of (mp _ _ hwl),TrsAt.tups fun z hz=>mp _ _ (hws z hz).1⟩
   ·rw [TrAt]; exact ⟨p0,_,rfl,SqL.of zf,by rw [TrsAt]⟩
   rw [if_pos rfl,Wz]
   have Sp:=S.same mp
   have hwp:=mp _ _ hwl
   have scp:=sc.trans mp
   have hwsp : ∀ z ∈ ws,(upd Hc p0 (.lst [])) z.1 = some (.tup (z.2.map V.int))∧Z7 (zs.map (·.2)) z.2:=fun z hz=>⟨mp _ _ (hws z hz).1,(hws z hz).2⟩
   generalize upd Hc p0 (.lst []) = Hp at Sp hwp scp hwsp
   rcases (show ws = []∨∃ (ws' : List (Addr × List Int)) (z : Addr × List Int),ws = ws' ++ [z] by
    rcases List.eq_nil_or_concat ws with h | ⟨a,b,h⟩
    ·exact .inl h
    ·exact .inr ⟨a,b,by rw [h,List.concat_eq_append]⟩) with rfl | ⟨ws',z,rfl⟩
   ·refine xW ⟨_,rfl,?_⟩
    exact kk fo kvs Hp hfo scp Sp (fun x hx p hp=>(hcl x hx p hp).resolve_right (by simp)) (hrt.resolve_right (by simp))
   ·have hzst:=(hwsp z (by simp)).2
    have hz1:=(hwsp z (by simp)).1
    have hfowa : fo ≠ wa:=fun e=>by
     have d:=Sp.d
     obtain ⟨_,_,e2,_⟩:=d
     rw [e,hwp] at e2; cases e2
    refine zds (by simp) ?_
    refine ⟨_,rfl,.inl ⟨rfl,_,SqL.of hwp⟩,wa,_,.ref z.1,rfl,rfl,hwp,by simp,?_⟩
    rw [show ((ws' ++ [z]).map fun z=>V.ref z.1).dropLast = ws'.map fun z=>V.ref z.1 by simp]
    have kt : ∀ c us,Hp c = some (.tup us)->(upd Hp wa (.lst (ws'.map fun z=>V.ref z.1))) c = some (.tup us):=fun c us h=>by
     rw [zq (fun q=>by rw [q,hwp] at h; cases h)]; exact h
    have S3 : StepsD P w (upd Hp wa (.lst (ws'.map fun z=>V.ref z.1))) fo (zs.map (·.2)) b kvs:=Sp.keep (zq hfowa) (fun kv hk la e=>zq fun q=>hkw kv hk (by rw [e,q])) kt
    have sc3 : Same H (upd Hp wa (.lst (ws'.map fun z=>V.ref z.1))):=fun c u e=>by rw [zq (zy e hwa0)]; exact scp _ _ e
    have hw3 : (upd Hp wa (.lst (ws'.map fun z=>V.ref z.1))) wa = some (.lst (ws'.map fun z=>V.ref z.1)):=zf
    have hws3 : ∀ y ∈ ws',(upd Hp wa (.lst (ws'.map fun z=>V.ref z.1))) y.1 = some (.tup (y.2.map V.int))∧Z7 (zs.map (·.2)) y.2:=fun y hy=>⟨kt _ _ (hwsp y (by simp [hy])).1,(hwsp y (by simp [hy])).2⟩
    have hz3:=kt _ _ hz1
    generalize upd Hp wa (.lst (ws'.map fun z=>V.ref z.1)) = H3 at S3 sc3 hw3 hws3 hz3
    rw [List.length_append,List.length_singleton] at hwn
    refine ⟨_,rfl,_,rfl,fo,kvs,kI z.2,z.1,rfl,S3.d,rfl,by rw [U7]; exact hz3,_,rfl,?_⟩
    cases hv : yw kvs (kI z.2) with
    | some v =>
     refine xW ⟨_,?_,kvs,ws',_,_,rfl,S3,hkw,hw3,hws3,fun x hx p hp=>?_,?_,sc3,by omega,rfl⟩
     ·rw [List.length_append,List.length_singleton]; omega
     ·rcases hcl x hx p hp with h | h
      ·exact .inl h
      ·rw [List.map_append,List.mem_append] at h
       rcases h with h | h
       ·exact .inr h
       ·rw [List.mem_singleton.mp h,hv]; exact .inl (by simp)
     ·rcases hrt with h | h
      ·exact .inl h
      ·rw [List.map_append,List.mem_append] at h
       rcases h with h | h
       ·exact .inr h
       ·rw [List.mem_singleton.mp h,hv]; exact .inl (by simp)
    | none =>
     refine wF ?_
     have B3 : BadAt H3 bl zs:=⟨sc3 _ _ R.li,fun z hz=>sc3 _ _ (R.st z hz)⟩
     refine ⟨_,rfl,_,rfl,by omega,by omega,?_⟩
     rw [Int.toNat_natCast]
     refine xJ (lo:=0) (n:=b) (fun i ys Hd=>∃ bs : List (Addr × Nat × V),ys = bs.map (fun t=>V.ref t.1)∧bs.map (·.2.1) = List.range i∧(∀ t ∈ bs,Hd t.1 = some (.tup [.int ((t.2.1 : Nat) : Int),t.2.2])∧AftV Hd (aft (zs.map (·.2)) z.2 (t.2.1 : Int)) t.2.2)∧Same H3 Hd) ⟨[],rfl,rfl,(fun t h=>nomatch h),Same.refl _⟩ ?_ ?_
     ·rintro i ys Hd hi ⟨bs,rfl,e1,hbs,sd⟩
      have hbl : bs.length = i:=by have:=congrArg List.length e1; rwa [List.length_map,List.length_range] at this
      refine ⟨by rw [List.length_map,hbl]; exact Nat.lt_of_le_of_lt (show i≤100 by omega) (by decide),?_⟩
      unfold jo
      dsimp only
      rw [if_pos rfl]
      refine ⟨_,rfl,_,rfl,_,rfl,_,rfl,bl,zs,z.1,z.2,i,b,by rw [Int.zero_add]; rfl,B3.same sd,sd _ _ hz3,g,hzst,fun v He se av=>⟨(by show 2≤sizeLine; decide),fun q hq=>?_⟩⟩
      have mq:=zj hq (o:=.tup [.int (0 + (i : Int)),v])
      have sq:=se.trans mq
      refine ⟨bs ++ [(q,i,v)],by rw [List.map_append]; rfl,by rw [List.map_append,e1,List.range_succ]; rfl,fun t ht=>?_,sd.trans sq⟩
      rcases List.mem_append.mp ht with h | h
      ·exact ⟨sq _ _ (hbs t h).1,(hbs t h).2.same fun c us e=>sq _ _ e⟩
      ·rw [List.mem_singleton.mp h]
       exact ⟨by rw [zf,Int.zero_add],av.same fun c us e=>mq _ _ e⟩
     rintro ys H4 ⟨bs,rfl,e1,hbs,s34⟩ bo hbo
     have hbl : bs.length = b:=by have:=congrArg List.length e1; rwa [List.length_map,List.length_range] at this
     have m4:=zj hbo (o:=.lst (bs.map fun t=>V.ref t.1))
     have s35:=s34.trans m4
     have hbo5 : (upd H4 bo (.lst (bs.map fun t=>V.ref t.1))) bo = some (.lst (bs.map fun t=>V.ref t.1)):=zf
     have hbs5 : ∀ t ∈ bs,(upd H4 bo (.lst (bs.map fun t=>V.ref t.1))) t.1 = some (.tup [.int ((t.2.1 : Nat) : Int),t.2.2])∧AftV (upd H4 bo (.lst (bs.map fun t=>V.ref t.1))) (aft (zs.map (·.2)) z.2 (t.2.1 : Int)) t.2.2:=fun t h=>⟨m4 _ _ (hbs t h).1,(hbs t h).2.same fun c us e=>m4 _ _ e⟩
     generalize upd H4 bo (.lst (bs.map fun t=>V.ref t.1)) = H5 at s35 hbo5 hbs5
     refine ⟨_,rfl,bo,rfl,⟨_,SqL.of hbo5⟩,wD (K:=K) (a:=bo) (xs:=bs.map fun t=>V.ref t.1) (fun i ys Hd=>∃ ss : StL,ys = ss.map (fun s=>V.ref s.1)∧(∀ s ∈ ss,Hd s.1 = some (.tup [.int ((s.2.1 : Nat) : Int),.ref s.2.2.1])∧Hd s.2.2.1 = some (.tup (s.2.2.2.map V.int)))∧ss.map (fun s=>(s.2.1,s.2.2.2)) = yp (zs.map (·.2)) z.2 i∧Same H5 Hd) ⟨[],rfl,(fun s h=>nomatch h),rfl,Same.refl _⟩ (fun i ys Hd _ ⟨_,_,_,_,e⟩=>SqL.of (e _ _ hbo5)) ?_ ?_⟩
     ·rintro i u ys Hd hi ⟨ss,rfl,hss,ess,sd⟩
      rw [List.getElem?_map] at hi
      obtain ⟨t,hti,e⟩:=Option.map_eq_some_iff.mp hi
      subst e
      have hil : i < b:=by rw [← hbl]; exact (List.getElem?_eq_some_iff.mp hti).1
      have hti1 : t.2.1 = i:=by
       have:=congrArg (fun l : List Nat=>l[i]?) e1
       simp only [List.getElem?_map,hti,List.getElem?_range hil,Option.map_some] at this
       exact Option.some.inj this
      obtain ⟨ht1,ht2⟩:=hbs5 t (List.mem_of_getElem? hti)
      have hsl : ss.length≤i:=by have:=congrArg List.length ess; rw [List.length_map] at this; rw [this]; exact Xq _ _ _
      refine ⟨by rw [List.length_map]; exact Nat.lt_of_le_of_lt (show ss.length≤100 by omega) (by decide),?_⟩
      refine ⟨_,rfl,t.1,_,_,t.2.2,rfl,rfl,SqT.of (sd _ _ ht1),rfl,rfl,_,rfl,?_⟩
      rw [hti1] at ht1 ht2
      cases ha : aft (zs.map (·.2)) z.2 (i : Int) with
      | none =>
       rw [ha] at ht2
       have ht2 : t.2.2 = .non:=ht2
       rw [ht2]
       refine zeG (by rw [decide_eq_true rfl]; rfl) ⟨ss,rfl,hss,?_,sd⟩
       rw [ess,Yt,ha]; simp
      | some y =>
       rw [ha] at ht2
       obtain ⟨ya,eya,hya⟩:=ht2
       rw [eya] at ht1 ⊢
       refine zds (by rw [decide_eq_false (fun z=>by cases z)]; rfl) ⟨_,rfl,ss ++ [(t.1,i,ya,y)],by rw [List.map_append]; rfl,fun s hs=>?_,?_,sd⟩
       ·rcases List.mem_append.mp hs with h | h
        ·exact hss s h
        ·rw [List.mem_singleton.mp h]; exact ⟨sd _ _ ht1,sd _ _ hya⟩
       ·rw [List.map_append,ess,Yt,ha]; rfl
     rintro ys H6 ⟨ss,rfl,hss,ess,s56⟩ la hla
     rw [List.length_map,hbl] at ess
     have m6:=zj hla (o:=.lst (ss.map fun s=>V.ref s.1))
     have s37:=(s35.trans s56).trans m6
     have St7 : StepAt (upd H6 la (.lst (ss.map fun s=>V.ref s.1))) (zs.map (·.2)) b z.2 la ss:=⟨zf,fun s h=>⟨m6 _ _ (hss s h).1,m6 _ _ (hss s h).2⟩,ess⟩
     have hlawa : la ≠ wa:=fun e=>by have:=s56 _ _ (s35 _ _ hw3); rw [← e,hla] at this; cases this
     generalize upd H6 la (.lst (ss.map fun s=>V.ref s.1)) = H7 at s37 St7
     have S7:=S3.same s37
     have hz7:=s37 _ _ hz3
     have hssl:=St7.len
     refine ⟨_,rfl,_,rfl,fo,kvs,kI z.2,z.1,rfl,S7.d,rfl,by rw [U7]; exact hz7,Nat.lt_of_le_of_lt (show kvs.length≤100 by omega) (by decide),fun H8 d8 c8=>?_⟩
     have S8:=S7.put hv d8 c8 hzst St7
     have nfo : ∀ {c : Addr} {u : HO},H7 c = some u->(∀ φ,u ≠ .ext φ)->c ≠ fo:=fun {c u} h hu z=>by
      have d:=S7.d
      obtain ⟨_,_,e,_⟩:=d
      rw [z,e] at h
      cases h
      exact hu _ rfl
     have k8 : ∀ {c : Addr} {u : HO},H7 c = some u->(∀ φ,u ≠ .ext φ)->H8 c = some u:=fun {c u} h hu=>by rw [c8 c (nfo h hu)]; exact h
     have hw8:=k8 (s37 _ _ hw3) (fun _ z=>nomatch z)
     have hz8:=k8 hz7 (fun _ z=>nomatch z)
     have hws8 : ∀ y ∈ ws',H8 y.1 = some (.tup (y.2.map V.int))∧Z7 (zs.map (·.2)) y.2:=fun y hy=>⟨k8 (s37 _ _ (hws3 y hy).1) (fun _ z=>nomatch z),(hws3 y hy).2⟩
     have sc8 : Same H H8:=fun c u e=>by rw [c8 c (zy e hfo)]; exact s37 _ _ (sc3 _ _ e)
     have vz : yw (putK kvs (kI z.2) (.ref la)) (kI z.2) = some (.ref la):=by rw [XJ,if_pos rfl]
     obtain ⟨la',ss',ela,_,St8⟩:=S8.get vz
     cases ela
     have hkw8 : ∀ kv ∈ putK kvs (kI z.2) (.ref la),kv.2 ≠ .ref wa:=fun kv hk=>by
      rw [j6 _ hv] at hk
      rcases List.mem_append.mp hk with hk | hk
      ·exact hkw kv hk
      ·rw [List.mem_singleton.mp hk]
       exact fun e=>hlawa (by injection e)
     have hss8l:=St8.len
     have hl8 : (putK kvs (kI z.2) (.ref la)).length = kvs.length + 1:=by rw [j6 _ hv,List.length_append]; rfl
     have h813:=S8.len (by rw [List.length_map]; exact h4) hst4
     refine ⟨_,rfl,.inl ⟨rfl,_,SqL.of hw8⟩,_,rfl,_,rfl,fo,_,kI z.2,z.1,.ref la,rfl,S8.d,rfl,by rw [U7]; exact hz8,vz,la,rfl,⟨_,SqL.of St8.li⟩,V2 (K:=K) (a:=la) (xs:=ss'.map fun s=>V.ref s.1) (fun i ys Hd=>ys = (ss'.take i).map (fun s=>V.ref s.2.2.1)∧Hd = H8) ⟨rfl,rfl⟩ (fun i ys Hd _ ⟨_,e⟩=>by rw [e]; exact SqL.of St8.li) ?_ ?_⟩
     ·rintro i u ys Hd hi ⟨rfl,rfl⟩
      rw [List.getElem?_map] at hi
      obtain ⟨t,hti,e⟩:=Option.map_eq_some_iff.mp hi
      subst e
      obtain ⟨q1,q2⟩:=St8.tu t (List.mem_of_getElem? hti)
      refine ⟨by rw [List.length_map,List.length_take]; exact Nat.lt_of_le_of_lt (show min i ss'.length≤100 by omega) (by decide),?_⟩
      refine ⟨t.1,_,rfl,SqT.of q1,rfl,_,_,rfl,_,_,rfl,rfl,⟨[_,_],rfl,rfl⟩,?_⟩
      unfold jo
      dsimp only
      rw [if_pos rfl]
      refine ⟨_,rfl,?_,rfl⟩
      rw [List.take_succ,hti,List.map_append]; rfl
     rintro ys Hd ⟨rfl,rfl⟩ ex hex
     rw [List.length_map,List.take_length]
     have me:=zj hex (o:=.lst (ss'.map fun s=>V.ref s.2.2.1))
     refine ⟨wa,ex,_,_,rfl,rfl,me _ _ hw8,zf,?_,?_⟩
     ·rw [List.length_map,List.length_map]
      exact Nat.le_trans (show ws'.length + ss'.length≤10000 by omega) (by decide)
     have hwa9:=me _ _ hw8
     have S9:=S8.same me
     have sc9:=sc8.trans me
     have hws9 : ∀ y ∈ ws' ++ ss'.map (fun s=>(s.2.2.1,s.2.2.2)),(upd Hd ex (.lst (ss'.map fun s=>V.ref s.2.2.1))) y.1 = some (.tup (y.2.map V.int))∧Z7 (zs.map (·.2)) y.2:=fun y hy=>by
      rcases List.mem_append.mp hy with h | h
      ·exact ⟨me _ _ (hws8 y h).1,(hws8 y h).2⟩
      ·obtain ⟨t,ht,rfl⟩:=List.mem_map.mp h
       refine ⟨me _ _ (St8.tu t ht).2,?_⟩
       have hm : (t.2.1,t.2.2.2) ∈ yp (zs.map (·.2)) z.2 b:=by rw [← St8.eq]; exact List.mem_map.mpr ⟨t,ht,rfl⟩
       exact (zcO ne (Zn hm).2).2.2
     generalize upd Hd ex (.lst (ss'.map fun s=>V.ref s.2.2.1)) = H9 at hwa9 S9 sc9 hws9
     rw [show (ws'.map fun z=>V.ref z.1) ++ (ss'.map fun s=>V.ref s.2.2.1) = (ws' ++ ss'.map (fun s=>(s.2.2.1,s.2.2.2))).map fun z=>V.ref z.1 by rw [List.map_append,List.map_map]; rfl]
     have kt9 : ∀ c us,H9 c = some (.tup us)->(upd H9 wa (.lst ((ws' ++ ss'.map (fun s=>(s.2.2.1,s.2.2.2))).map fun z=>V.ref z.1))) c = some (.tup us):=fun c us h=>by
      rw [zq (fun q=>by rw [q,hwa9] at h; cases h)]; exact h
     have hin : ∀ {y : List Int},y ∈ (ws' ++ [z]).map (·.2)->yw (putK kvs (kI z.2) (.ref la)) (kI y) ≠ none∨y ∈ (ws' ++ ss'.map (fun s=>(s.2.2.1,s.2.2.2))).map (·.2):=fun {y} h=>by
      rw [List.map_append,List.mem_append] at h
      rcases h with h | h
      ·exact .inr (by rw [List.map_append]; exact List.mem_append_left _ h)
      ·rw [List.mem_singleton.mp h,vz]; exact .inl (by simp)
     have hup : ∀ {y : List Int},yw kvs (kI y) ≠ none->yw (putK kvs (kI z.2) (.ref la)) (kI y) ≠ none:=fun {y} h=>by
      rw [XJ]
      split
      ·simp
      ·exact h
     refine ⟨_,?_,putK kvs (kI z.2) (.ref la),ws' ++ ss'.map (fun s=>(s.2.2.1,s.2.2.2)),_,_,rfl,S9.keep (zq hfowa) (fun kv hk la e=>zq fun q=>hkw8 kv hk (by rw [e,q])) kt9,hkw8,zf,(fun y hy=>⟨kt9 _ _ (hws9 y hy).1,(hws9 y hy).2⟩),fun x hx p hp=>?_,?_,(fun c u e=>by rw [zq (zy e hwa0)]; exact sc9 _ _ e),?_,rfl⟩
     ·rw [hl8,List.length_append,List.length_append,List.length_map,List.length_singleton]
      omega
     ·rw [XJ] at hx
      by_cases hxz : kI x = kI z.2
      ·obtain rfl:=V8 hxz
       refine .inr ?_
       rw [← St8.eq] at hp
       obtain ⟨t,ht,rfl⟩:=List.mem_map.mp hp
       rw [List.map_append,List.mem_append,List.map_map]
       exact .inr (List.mem_map.mpr ⟨t,ht,rfl⟩)
      ·rw [if_neg hxz] at hx
       rcases hcl x hx p hp with h | h
       ·exact .inl (hup h)
       ·exact hin h
     ·rcases hrt with h | h
      ·exact .inl (hup h)
      ·exact hin h
     ·rw [hl8,List.length_append,List.length_map]
      omega
  ·intro σ H2 Q Q' hq
   rintro ⟨v,e,sz,h⟩
   refine ⟨v,e,sz,fun p hp=>?_⟩
   obtain ⟨t1,t2,a1,a2,dep,c1,ec,q⟩:=h p hp
   exact ⟨t1,t2,a1,a2,dep,c1,ec,hq _ _ q⟩
end
section
variable {P : Program} {w : World} {K : PySem.W.Frag} {mg : Str->Option Value} {base : Heap}
def jO : Sp:=fun vs H Q _=>∃ (bl fa : Addr) (zs : List (Addr × List Int)) (fs : List Int),vs = [.ref bl,.ref fa]∧H bl = some (.lst (zs.map fun z=>V.ref z.1))∧(∀ z ∈ zs,H z.1 = some (.lst (z.2.map V.int)))∧H fa = some (.lst (fs.map V.int))∧zs.length≤100∧∀ H',Same H H'->Q (.bl (qQ (zs.map (·.2)) fs)) H'
theorem Qa : zE ["bad","figures"] ["bad","figures"] (zu uy):=⟨rfl,rfl,rfl,by decide +kernel,rfl,by decide +kernel,by decide +kernel⟩
theorem YT {f : Addr} {fd : FuncData} (D : Df K mg "begins_one" uy ["bad","figures"] f fd) (T : Blt mg) : FnOk P w K mg base CX0 1 f fd ["bad","figures"] jO:=by
 refine D.fn.ok Qa (fun vs H Q E h=>?_) (fun cdv A outer s H vs Q E hr h=>?_)
 ·obtain ⟨bl,fa,zs,fs,rfl,_⟩:=h; rfl
 ·obtain ⟨bl,fa,zs,fs,rfl,hb,hz,hf,hl1,kk⟩:=h
  have HU:=Vj hr
  refine ⟨_,(zx (zL (zB (zc6 K rfl) (by rfl) T.n_any boot_any (zc (wJ (show CScope (zu uy) _ "stretch" ["bad","figures"] ["figures"] [1] from ⟨rfl,by decide +kernel,by decide +kernel,rfl,by decide +kernel,rfl,by decide +kernel,by decide +kernel⟩) rfl (Z6 K (pv 0)) (fun _ _ _ _=>yE) (fun _ _ _ _=>(uI (Qz K HU) (xT (Zd K) (pv 0) uF (wg (zB (vV K) (by rfl) T.n_len PySem.boot_len (zc (pv 1) zg)))) (pv 1) (ye _)))) zg)))),?_⟩
  refine ⟨_,rfl,bl,rfl,⟨_,SqL.of hb⟩,wD (K:=K) (a:=bl) (xs:=zs.map fun z=>V.ref z.1) (fun i ys H4=>ys = ((zs.take i).map fun z=>decide (z.2.take fs.length = fs)).map V.bl∧Same H H4) ⟨by simp,Same.refl _⟩ (fun i ys H4 _ ⟨_,e⟩=>SqL.of (e _ _ hb)) ?_ ?_⟩
  ·rintro j x ys H4 hx ⟨rfl,s4⟩
   rw [List.getElem?_map] at hx
   obtain ⟨z,hzj,e⟩:=Option.map_eq_some_iff.mp hx
   subst e
   have hzm:=List.mem_of_getElem? hzj
   refine ⟨?_,?_⟩
   ·rw [List.length_map,List.length_map,List.length_take]
    exact Nat.lt_of_le_of_lt (Nat.le_trans (Nat.min_le_right _ _) hl1) (by decide)
   unfold jo
   dsimp only
   rw [if_pos rfl]
   refine ⟨_,rfl,_,rfl,fa,_,rfl,.inl (SqL.of (s4 _ _ hf)),_,rfl,z.1,_,rfl,SqL.of (s4 _ _ (hz z hzm)),fun p hp=>?_⟩
   rw [List.length_map,Zb,← List.map_take]
   refine ⟨_,rfl,yt (z.2.take fs.length),yt fs,TrAt.ints (a:=p) (SqL.of zf),TrAt.ints (a:=fa) (SqL.of (zj hp _ _ (s4 _ _ hf))),(by rw [vP]; decide),?_,s4.trans (zj hp)⟩
   rw [List.take_succ,hzj]
   have e2:=ue (z.2.take fs.length) fs
   show _ ++ [V.bl (teq _ _)] = _
   rw [e2]
   simp
  ·rintro ys H4 ⟨rfl,s4⟩ Dd hD
   refine ⟨Dd,_,rfl,SqL.of zf,?_⟩
   have q:=kk _ (s4.trans (zj hD (o:=.lst (((zs.take (zs.map fun z=>V.ref z.1).length).map fun z=>decide (z.2.take fs.length = fs)).map V.bl))))
   rw [List.length_map,List.take_length] at q ⊢
   unfold qQ at q
   rw [List.any_map] at q ⊢
   exact q
def zej (ls : List (List Int)) (fs : List Int) (H H' : Hp) (v : V) : Prop:=(lacks ls fs = false∧v = .non)∨(lacks ls fs = true∧∃ l,v = .ref l∧H l = none∧H' l = some (.lst ((zH ls fs).map V.int)))
def u6 : Sp:=fun vs H Q _=>∃ (bl fa : Addr) (zs : List (Addr × List Int)) (fs : List Int),vs = [.ref bl,.ref fa]∧H bl = some (.lst (zs.map fun z=>V.ref z.1))∧(∀ z ∈ zs,H z.1 = some (.lst (z.2.map V.int)))∧H fa = some (.lst (fs.map V.int))∧zs.length≤100∧fs.length≤1000∧(∀ z ∈ zs,z.2 ≠ []∧z.2.length≤1000) ∧
 ∀ v H',zej (zs.map (·.2)) fs H H' v->Same H H'->Q v H'
theorem Zg : zE ["bad","figures","start"] ["bad","figures"] (zu vI):=⟨rfl,rfl,rfl,by decide +kernel,rfl,by decide +kernel,by decide +kernel⟩
theorem Wx {f f1 f2 : Addr} {fd fd1 fd2 : FuncData} (D : Df K mg "longest_stand" vI ["bad","figures"] f fd) (xH : Df K mg "lacks_all" wX ["bad","figures"] f1 fd1) (ww : FnOk P w K mg base CX0 2 f1 fd1 ["bad","figures"] uv)
  (tX : Df K mg "begins_one" uy ["bad","figures"] f2 fd2) (T : Blt mg) : FnOk P w K mg base CX0 3 f fd ["bad","figures"] u6:=by
 have Vd : FnOk P w K mg base CX0 1 f2 fd2 ["bad","figures"] jO:=YT tX T
 refine D.fn.ok Zg (fun vs H Q E h=>?_) (fun cdv A outer s H vs Q E hr h=>?_)
 ·obtain ⟨bl,fa,zs,fs,rfl,_⟩:=h; rfl
 ·obtain ⟨bl,fa,zs,fs,rfl,hb,hz,hf,hl1,hl2,ne,kk⟩:=h
  refine ⟨_,(zm (xQ (jW (uZ (zO xH ww (hr.mono (by decide)) (zc (pv 0) (zc (pv 1) zg)))))
    (zx (zL Xi))
    yj)
   (zm (xM PassesOwn.never rfl (zY rfl T.n_range (zc (zB (vV K) (by rfl) T.n_len PySem.boot_len (zc (pv 1) zg)) zg)) (zR (i:=2) Zg.nd rfl (Or.inl rfl))
    (zx (xQ (uZ (zO tX Vd (hr.mono (by decide)) (zc (pv 0) (zc (xT (Zd K) (pv 1) (wg (pv 2)) uF) zg))))
     (zx (zL (xT (Zd K) (pv 1) (wg (pv 2)) uF)))
     yj)))
   (zx (zL (zU zg))))),?_⟩
  refine ⟨_,rfl,_,rfl,bl,fa,zs,fs,rfl,hb,hz,hf,hl1,hl2,ne,fun H1 s1=>⟨_,rfl,?_⟩⟩
  cases hL : lacks (zs.map (·.2)) fs with
  | false=>exact wF (kk _ _ (.inl ⟨hL,rfl⟩) s1)
  | true =>
   refine xW ?_
   refine ⟨_,rfl,fa,_,rfl,.inl (SqL.of (s1 _ _ hf)),(((fs.map V.int).length : Nat) : Int),rfl,by rw [List.length_map]; omega,by rw [List.length_map]; omega,yD (lo:=0) (n:=(((fs.map V.int).length : Nat) : Int).toNat) (fun i σ H2=>∃ v1 : Option V,σ = [some (.ref bl),some (.ref fa),v1]∧Same H H2∧∀ k,k < i->qQ (zs.map (·.2)) (fs.drop k) = false) ⟨none,rfl,s1,fun k hk=>by omega⟩ ?_ ?_⟩
   ·rintro i σ H2 hi ⟨v1,rfl,s2,hno⟩
    have hi' : i < fs.length:=by rw [List.length_map] at hi; omega
    refine ⟨_,rfl,_,rfl,_,rfl,_,rfl,fa,_,rfl,SqL.of (s2 _ _ hf),fun p hp=>?_⟩
    rw [Int.zero_add,tD,← List.map_drop]
    have t:=s2.trans (zj hp (o:=.lst ((fs.drop i).map V.int)))
    refine ⟨bl,p,zs,fs.drop i,rfl,t _ _ hb,fun z hzm=>t _ _ (hz z hzm),zf,hl1,fun H3 s3=>⟨_,rfl,?_⟩⟩
    have t3:=t.trans s3
    cases hB : qQ (zs.map (·.2)) (fs.drop i) with
    | true =>
     refine wF ⟨_,rfl,_,rfl,_,rfl,fa,_,rfl,SqL.of (t3 _ _ hf),fun q hq=>?_⟩
     rw [tD,← List.map_drop]
     refine kk _ _ (.inr ⟨hL,q,rfl,t3.free hq,?_⟩) (t3.trans (zj hq))
     rw [zf,J0 (by omega) hno hB]
    | false =>
     refine xW ⟨_,rfl,t3,fun k hk=>?_⟩
     by_cases e : k < i
     ·exact hno k e
     ·have : k = i:=by omega
      rw [this]; exact hB
   ·rintro σ H2 ⟨v1,rfl,s2,hno⟩
    refine ⟨(by decide : 0≤sizeLine),fun q hq=>kk _ _ (.inr ⟨hL,q,rfl,s2.free hq,?_⟩) (s2.trans (zj hq))⟩
    rw [zf,Ue (fun k hk=>hno k (by rw [List.length_map]; omega))]
    rfl
end
section
variable {P : Program} {w : World} {K : PySem.W.Frag} {mg : Str->Option Value} {base : Heap} {T0 : Addr}
def lamP : Pos:=⟨63,29,63,59⟩
def zdR : Scope:=match (yZ yo).getLast? with
 | some (.Return (some (.Call _ _ [⟨_,.Lambda _ _ sc _,_⟩] _)) _)=>sc
 | _=>zu yo
theorem zeh : zE ["each"] ["each"] zdR:=⟨rfl,rfl,rfl,by decide +kernel,rfl,by decide +kernel,by decide +kernel⟩
theorem zcx {H H' : Hp} {p : Addr} {o : HO} (s : Same H H') (h : H p = none) : Same H (upd H' p o):=fun b u e=>by rw [zq (zy e h)]; exact s b u e
def SameL (T : Addr) (H H' : Hp) : Prop:=∀ b u,b ≠ T->H b = some u->H' b = some u
abbrev LT (T : Addr) (H : Hp) : Prop:=Wn T lamP ((("stands_of" : Str) ++ (".<locals>." : Str)) ++ ("<lambda>" : Str)) H
theorem SameL.of {T : Addr} {H H' : Hp} (s : Same H H') : SameL T H H':=fun b u _ e=>s b u e
theorem SameL.trans {T : Addr} {H H1 H2 : Hp} (a : SameL T H H1) (b : SameL T H1 H2) : SameL T H H2:=fun c u h e=>b c u h (a c u h e)
theorem LT.same {T : Addr} {H H' : Hp} (h : LT T H) (s : Same H H') : LT T H':=by
 rcases h with h | ⟨c,h1,h2⟩
 ·exact .inl (s _ _ h)
 ·exact .inr ⟨c,s _ _ h1,s _ _ h2⟩
theorem LT.lst {T : Addr} {H : Hp} (h : LT T H) {b : Addr} {xs : List V} (e : H b = some (.lst xs)) : b ≠ T:=fun z=>by
 rw [z] at e
 rcases h with h | ⟨c,h,_⟩
 ·rw [h] at e; cases e
 ·rw [h] at e; cases e
theorem LT.tup {T : Addr} {H : Hp} (h : LT T H) {b : Addr} {xs : List V} (e : H b = some (.tup xs)) : b ≠ T:=fun z=>by
 rw [z] at e
 rcases h with h | ⟨c,h,_⟩
 ·rw [h] at e; cases e
 ·rw [h] at e; cases e
theorem LT.none {T : Addr} {H : Hp} (h : LT T H) {b : Addr} (e : H b = none) : b ≠ T:=fun z=>by
 rw [z] at e
 rcases h with h | ⟨c,h,_⟩
 ·rw [h] at e; cases e
 ·rw [h] at e; cases e
def ZM (T : Addr) : Sp:=fun vs H Q _=>∃ (bl : Addr) (zs : List (Addr × List Int)),vs = [.ref bl]∧H bl = some (.lst (zs.map fun z=>V.ref z.1))∧(∀ z ∈ zs,H z.1 = some (.lst (z.2.map V.int)))∧zs.length≤4∧(∀ z ∈ zs,z.2 ≠ []∧z.2.length≤4)∧LT T H ∧
 ∀ (D : Addr) (ws : List (Addr × List Int)) (H' : Hp),H D = none->H' D = some (.lst (ws.map fun z=>V.ref z.1))->(∀ z ∈ ws,H z.1 = none∧H' z.1 = some (.lst (z.2.map V.int))∧z.1 ≠ D)->StandsL (zs.map (·.2)) (ws.map (·.2))->ws.length≤13->SameL T H H'->LT T H'->Q (.ref D) H'
theorem uH : zE ["bad","found","stretch","size","stand"] ["bad"] (zu yo):=⟨rfl,rfl,rfl,by decide +kernel,rfl,by decide +kernel,by decide +kernel⟩
theorem QX {f f1 c : Addr} {fd fd1 : FuncData} (D : Df K mg "stands_of" yo ["bad"] f fd) (hc : fd.code = .ref c) (hcT : PySem.W.codeHdIn K c T0 = true) (hBM : base.BuiltinsAt mg T0) (hgT : mainGlobals ≠ T0) (xH : Df K mg "lacks_all" wX ["bad","figures"] f1 fd1) (ww : FnOk P w K mg base CX0 2 f1 fd1 ["bad","figures"] uv) (T : Blt mg) :
  FnOk P w K mg base CX0 6 f fd ["bad"] (ZM T0):=by
 obtain ⟨oc,od,kV,doc,pm,an,cdv,ct,osl,rfl,lk,hcd⟩:=D.fn.ex
 obtain rfl : cdv = .ref c:=hc
 refine zdX lk hcd uH (fun vs H Q E h=>?_) (fun A outer s H vs Q E hr h=>?_)
 ·obtain ⟨bl,zs,rfl,_⟩:=h; rfl
 ·obtain ⟨bl,zs,rfl,hb,hz,h4,hst,hLT,kk⟩:=h
  have HU:=Vj hr
  have lam_body : ∀ (f' c' : Addr) (s' : Shared) (H' : Hp) (z : Addr × List Int),H' z.1 = some (.lst (z.2.map V.int))->∃ t,PE (Vm CX0 P w K mg base ["each"] ((("stands_of" : Str) ++ (".<locals>." : Str)) ++ ("<lambda>" : Str)) zdR f' (.ref c') (A.deeper (envOfC "stands_of" (zu yo) s.heap.objs.size f (.ref c))).in1.in1 (envOfC "stands_of" (zu yo) s.heap.objs.size f (.ref c) :: outer) s' H' E0)
    (match (yZ yo).getLast? with
     | some (.Return (some (.Call _ _ [⟨_,.Lambda _ b _ _,_⟩] _)) _)=>b
     | _=>.Constant .none 0 ⟨0,0,0,0⟩) t ∧
    t (start ["each"] [.ref z.1]) H' fun v H2=>∃ p,v = .ref p∧H' p = none∧H2 = upd H' p (.tup [.int z.2.length,.ref z.1]):=by
   intro f' c' s' H' z hz'
   refine ⟨_,(vM (zc (zB (vV K) (by rfl) T.n_len PySem.boot_len (zc (pv 0) zg)) (zc (pv 0) zg))),?_⟩
   refine ⟨_,rfl,z.1,_,rfl,.inl (SqL.of hz'),_,rfl,(by show 2≤sizeLine; decide),fun p hp=>⟨p,rfl,hp,?_⟩⟩
   rw [List.length_map]
  refine Exists.elim (?key : ∃ t,PSs (Vm CX0 P w K mg base ["bad","found","stretch","size","stand"] "stands_of" (zu yo) f (.ref c) A outer s H E).nox (yZ yo) t∧t { nx:=fun _ H'=>Q .non H',rt:=Q } (start ["bad","found","stretch","size","stand"] [.ref bl]) H) fun t h=>⟨t,h.1.nox,h.2⟩
  refine ⟨_,(zm (zF (i:=1) uH.nd rfl (Or.inl rfl) (zU (zc (zU zg) zg)))
   (zm (xM PassesOwn.never rfl (Z6 K (pv 0)) (zR (i:=2) uH.nd rfl (Or.inl rfl))
    (zx (xM PassesOwn.never rfl (WM rfl T.n_range (zc zp (zc (zB (vV K) (by rfl) T.n_len PySem.boot_len (zc (pv 2) zg)) zg))) (zR (i:=3) uH.nd rfl (Or.inl rfl))
     (zm (zF (i:=4) uH.nd rfl (Or.inl rfl) (xT (Zd K) (pv 2) uF (wg (pv 3))))
     (zx (xQ (PW.pt (Q9 (yd (VB K HU) (pv 4) (pv 1) (by with_unfolding_all rfl)) (Vu (uZ (zO xH ww (hr.mono (by decide)) (zc (pv 0) (zc (pv 4) zg)))))))
      (zx (xP (Z3 PySem.F.plainAttrs_list PySem.F.slot_list_append PySem.F.type_list_append vd (pv 1) (zc (pv 4) zg))))
      yj))))))
   (zx (zL (zaH (k:=1) (pv 1) rfl T.n_sorted (hr.mono (by decide)) rfl rfl rfl hcT hBM hgT zeh (fun _ _ _ _=>rfl) lam_body))))),?_⟩
  have hls : ∀ st ∈ zs.map (·.2),st ≠ []∧st.length≤4:=fun st h=>by obtain ⟨z,hz,rfl⟩:=List.mem_map.mp h; exact hst z hz
  refine ⟨(by decide : 0≤sizeLine),fun e0 he0=>⟨(by show 1≤sizeLine; decide),fun fo hfo=>?_⟩⟩
  have hfoH : H fo = none:=(zj he0).free hfo
  have nef : e0 ≠ fo:=fun z=>by rw [← z,zf] at hfo; cases hfo
  let Inv1 : List (Addr × List Int)->(List Int->Prop)->Hp->Prop:=fun ws M H2=>H2 fo = some (.lst (ws.map fun z=>V.ref z.1))∧(∀ z ∈ ws,H z.1 = none∧H2 z.1 = some (.lst (z.2.map V.int))∧z.1 ≠ fo)∧(ws.map (·.2)).Nodup∧(∀ x,x ∈ ws.map (·.2) ↔ M x)∧Same H H2
  let M1 : Nat->List Int->Prop:=fun i x=>x = []∨∃ z ∈ zs.take i,∃ k,1≤k∧k < z.2.length∧x = z.2.take k∧lacks (zs.map (·.2)) x = true
  refine ⟨_,rfl,bl,rfl,⟨_,SqL.of ((zj he0).trans (zj hfo) _ _ hb)⟩,X3 (K:=K) (a:=bl) (xs:=zs.map fun z=>V.ref z.1) (fun i σ H2=>∃ (v2 v3 v4 : Option V) (ws : List (Addr × List Int)),σ = [some (.ref bl),some (.ref fo),v2,v3,v4]∧Inv1 ws (M1 i) H2∧ws.length≤1 + 3 * i)
   ⟨none,none,none,[(e0,[])],rfl,⟨zf,fun z hz'=>?_,by simp,fun x=>?_,(zj he0).trans (zj hfo)⟩,by simp⟩ (fun i σ H2 _ ⟨_,_,_,_,_,⟨_,_,_,_,e⟩,_⟩=>SqL.of (e _ _ hb)) ?_ ?_⟩
  ·have e : z = (e0,[]):=by simpa using hz'
   subst e
   exact ⟨he0,by rw [zq nef,zf]; rfl,nef⟩
  ·constructor
   ·intro hx
    exact .inl (by simpa using hx)
   ·rintro (rfl | ⟨z,hz',_⟩)
    ·simp
    ·simp at hz'
  ·rintro i x σ H2 hx ⟨v2,v3,v4,ws,rfl,⟨hF,hW,ndW,hM,sm⟩,hlen⟩
   rw [List.getElem?_map] at hx
   obtain ⟨z,hzj,e⟩:=Option.map_eq_some_iff.mp hx
   subst e
   have hzm:=List.mem_of_getElem? hzj
   have hi4 : i < zs.length:=(List.getElem?_eq_some_iff.mp hzj).1
   obtain ⟨hne,hz4⟩:=hst z hzm
   have hpos : 0 < z.2.length:=List.length_pos_iff.mpr hne
   refine ⟨_,rfl,z.1,_,rfl,.inl (SqL.of (sm _ _ (hz z hzm))),1,_,rfl,?_,?_⟩
   ·rw [List.length_map]; omega
   rw [List.length_map]
   refine yD (lo:=1) (n:=((z.2.length : Int) - 1).toNat) (fun j σ H3=>∃ (v3 v4 : Option V) (ws : List (Addr × List Int)),σ = [some (.ref bl),some (.ref fo),some (.ref z.1),v3,v4]∧Inv1 ws (fun x=>M1 i x∨∃ k,1≤k∧k≤j∧x = z.2.take k∧lacks (zs.map (·.2)) x = true) H3∧ws.length≤1 + 3 * i + j)
    ⟨_,_,ws,rfl,⟨hF,hW,ndW,fun x=>?_,sm⟩,hlen⟩ ?_ ?_
   ·rw [hM]
    constructor
    ·exact .inl
    ·rintro (h | ⟨k,h1,h2,_⟩)
     ·exact h
     ·omega
   ·rintro j σ H3 hj ⟨v3,v4,ws,rfl,⟨hF,hW,ndW,hM,sm⟩,hlen⟩
    have hj' : j + 1 < z.2.length:=by omega
    refine ⟨_,rfl,_,rfl,_,rfl,z.1,_,rfl,SqL.of (sm _ _ (hz z hzm)),fun p hp=>?_⟩
    rw [show (1 : Int) + (j : Int) = ((j + 1 : Nat) : Int) by omega,Zb,← List.map_take]
    have sm2:=sm.trans (zj hp (o:=.lst ((z.2.take (j + 1)).map V.int)))
    have hF2 : (upd H3 p (.lst ((z.2.take (j + 1)).map V.int))) fo = some (.lst (ws.map fun z=>V.ref z.1)):=zj hp _ _ hF
    have hW2 : ∀ y ∈ ws,H y.1 = none∧(upd H3 p (.lst ((z.2.take (j + 1)).map V.int))) y.1 = some (.lst (y.2.map V.int))∧y.1 ≠ fo:=fun y hy=>⟨(hW y hy).1,zj hp _ _ (hW y hy).2.1,(hW y hy).2.2⟩
    have npf : p ≠ fo:=fun y=>by rw [y,hF] at hp; cases hp
    have hpH : H p = none:=sm.free hp
    generalize hx : z.2.take (j + 1) = x at *
    have hxl : x.length≤4:=by rw [← hx,List.length_take]; omega
    have stay : (x ∈ ws.map (·.2)∨lacks (zs.map (·.2)) x = false)->∀ y,y ∈ ws.map (·.2) ↔ (M1 i y∨∃ k,1≤k∧k≤j + 1∧y = z.2.take k∧lacks (zs.map (·.2)) y = true):=fun hor y=>by
     constructor
     ·intro hy
      rcases (hM y).mp hy with h | ⟨k,h1,h2,h3⟩
      ·exact .inl h
      ·exact .inr ⟨k,h1,by omega,h3⟩
     ·rintro (h | ⟨k,h1,h2,h3,h4⟩)
      ·exact (hM y).mpr (.inl h)
      ·by_cases hk : k≤j
       ·exact (hM y).mpr (.inr ⟨k,h1,hk,h3,h4⟩)
       ·have : k = j + 1:=by omega
        rw [this,hx] at h3
        rw [h3] at h4 ⊢
        rcases hor with h | h
        ·exact h
        ·rw [h] at h4; cases h4
    refine ⟨_,rfl,_,rfl,fo,_,(ws.map (·.2)).map yt,yt x,rfl,SqL.of hF2,TrsAt.lists (fun y hy=>(hW2 y hy).2.1),TrAt.ints (a:=p) (SqL.of zf),Nat.le_trans (xu _) (by decide),_,rfl,?_⟩
    rw [if_pos rfl,YC]
    by_cases hin : x ∈ ws.map (·.2)
    ·rw [decide_eq_true hin]
     refine xW ?_
     exact xW ⟨_,_,ws,rfl,⟨hF2,hW2,ndW,stay (.inl hin),sm2⟩,by omega⟩
    ·rw [decide_eq_false hin]
     refine wF ?_
     refine ⟨_,rfl,_,rfl,bl,p,zs,x,rfl,sm2 _ _ hb,fun y hy=>sm2 _ _ (hz y hy),zf,by omega,by omega,fun y hy=>⟨(hst y hy).1,Nat.le_trans (hst y hy).2 (by decide)⟩,fun H4 s4=>⟨_,rfl,?_⟩⟩
     have sm4:=sm2.trans s4
     have hF4:=s4 _ _ hF2
     have hW4 : ∀ y ∈ ws,H y.1 = none∧H4 y.1 = some (.lst (y.2.map V.int))∧y.1 ≠ fo:=fun y hy=>⟨(hW2 y hy).1,s4 _ _ (hW2 y hy).2.1,(hW2 y hy).2.2⟩
     have hp4:=s4 _ _ (zf (H:=H3) (a:=p) (o:=.lst (x.map V.int)))
     cases hLk : lacks (zs.map (·.2)) x with
     | false=>exact xW ⟨_,_,ws,rfl,⟨hF4,hW4,ndW,stay (.inr hLk),sm4⟩,by omega⟩
     | true =>
      refine wF ⟨_,rfl,.inl ⟨rfl,_,SqL.of hF4⟩,_,rfl,fo,_,_,rfl,rfl,hF4,by rw [List.length_map]; exact Nat.lt_of_le_of_lt (show ws.length≤100 by omega) (by decide),?_⟩
      refine ⟨_,_,ws ++ [(p,x)],rfl,⟨by rw [zf,List.map_append]; rfl,fun y hy=>?_,?_,fun y=>?_,zcx sm4 hfoH⟩,by rw [List.length_append,List.length_singleton]; omega⟩
      ·rcases List.mem_append.mp hy with hy | hy
       ·obtain ⟨a1,a2,a3⟩:=hW4 y hy
        exact ⟨a1,by rw [zq a3]; exact a2,a3⟩
       ·rw [List.mem_singleton.mp hy]
        exact ⟨hpH,by rw [zq npf]; exact hp4,npf⟩
      ·rw [List.map_append]
       refine List.nodup_append.mpr ⟨ndW,by simp,fun a ha b hb'=>?_⟩
       have e : b = x:=by simpa using hb'
       rw [e]
       exact fun q=>hin (q ▸ ha)
      ·rw [List.map_append,List.mem_append]
       constructor
       ·rintro (h | h)
        ·rcases (hM y).mp h with h | ⟨k,h1,h2,h3⟩
         ·exact .inl h
         ·exact .inr ⟨k,h1,by omega,h3⟩
        ·have e : y = x:=by simpa using h
         rw [e]
         exact .inr ⟨j + 1,by omega,Nat.le_refl _,hx.symm,hLk⟩
       ·rintro (h | ⟨k,h1,h2,h3,h4⟩)
        ·exact .inl ((hM y).mpr (.inl h))
        ·by_cases hk : k≤j
         ·exact .inl ((hM y).mpr (.inr ⟨k,h1,hk,h3,h4⟩))
         ·have : k = j + 1:=by omega
          rw [this,hx] at h3
          exact .inr (by simp [h3])
   ·rintro σ H3 ⟨v3,v4,ws,rfl,⟨hF,hW,ndW,hM,sm⟩,hlen⟩
    refine ⟨_,_,_,ws,rfl,⟨hF,hW,ndW,fun x=>?_,sm⟩,by omega⟩
    rw [hM]
    constructor
    ·rintro ((h | ⟨y,hy,h⟩) | ⟨k,h1,h2,h3⟩)
     ·exact .inl h
     ·exact .inr ⟨y,by rw [List.take_succ]; exact List.mem_append_left _ hy,h⟩
     ·exact .inr ⟨z,by rw [List.take_succ,hzj]; simp,k,h1,by omega,h3⟩
    ·rintro (h | ⟨y,hy,k,h1,h2,h3⟩)
     ·exact .inl (.inl h)
     ·rw [List.take_succ,hzj] at hy
      rcases List.mem_append.mp hy with hy | hy
      ·exact .inl (.inr ⟨y,hy,k,h1,h2,h3⟩)
      ·have e : y = z:=by simpa using hy
       rw [e] at h2 h3
       exact .inr ⟨k,h1,by omega,h3⟩
  ·rintro σ H2 ⟨v2,v3,v4,ws,rfl,⟨hF,hW,ndW,hM,sm⟩,hlen⟩
   rw [List.length_map] at hM hlen
   refine ⟨_,rfl,fo,ws,rfl,hF,fun z hz'=>(hW z hz').2.1,ndW,by omega,hLT.same sm,fun D ws' H3 hD hD3 up lt pm pw=>?_⟩
   have lt2:=hLT.same sm
   have inw : ∀ z ∈ ws',z ∈ ws:=fun z hz'=>pm.mem_iff.mp hz'
   refine kk D ws' _ (sm.free hD) zf (fun z hz'=>?_) ⟨fun x=>?_,by rw [List.pairwise_map]; exact pw⟩ (by rw [pm.length_eq]; omega) (fun b u hb' e=>?_) ?_
   ·obtain ⟨a1,a2,a3⟩:=hW z (inw z hz')
    have n1 : z.1 ≠ D:=zy a2 hD
    exact ⟨a1,by rw [zq n1]; exact up _ _ (lt2.lst a2) a2,n1⟩
   ·have e : x ∈ ws'.map (·.2) ↔ x ∈ ws.map (·.2):=(pm.map (·.2)).mem_iff
    rw [e,hM]
    show (x = []∨_) ↔ (x = []∨_)
    constructor
    ·rintro (h | ⟨z,hz',k,h1,h2,h3,h4⟩)
     ·exact .inl h
     ·rw [List.take_length] at hz'
      exact .inr ⟨z.2,List.mem_map.mpr ⟨z,hz',rfl⟩,k,h1,h2,h3,h4⟩
    ·rintro (h | ⟨st,hst',k,h1,h2,h3,h4⟩)
     ·exact .inl h
     ·obtain ⟨z,hz',rfl⟩:=List.mem_map.mp hst'
      exact .inr ⟨z,by rw [List.take_length]; exact hz',k,h1,h2,h3,h4⟩
   ·have q:=up b u hb' (sm _ _ e)
    rw [zq (zy q hD3)]; exact q
   ·exact LT.same (show LT T0 H3 from lt) (zj hD3)
end
section
variable {P : Program} {w : World} {K : PySem.W.Frag} {mg : Str->Option Value} {base : Heap} {T0 : Addr}
def plc (ls ws : List (List Int)) (fs : List Int) : V:=if lacks ls fs = true then .int ((ws.idxOf (zH ls fs) : Nat) : Int) else .non
theorem ZZ {x : List Int} : ∀ {xs : List (List Int)} {m : Nat},m < xs.idxOf x->∀ h : m < xs.length,xs[m] ≠ x
 | [],m,h,h'=>by simp at h'
 | y :: ys,m,h,h'=>by
  rw [List.idxOf_cons] at h
  by_cases e : y = x
  ·subst e; simp at h
  ·have e' : (y == x) = false:=by simpa using e
   rw [e'] at h
   cases m with
   | zero=>simpa using e
   | succ m=>simpa using ZZ (x:=x) (xs:=ys) (m:=m) (by simpa using h) (by simpa using h')
def ql : Sp:=fun vs H Q _=>∃ (bl Dd fa : Addr) (zs ws : List (Addr × List Int)) (fs : List Int),vs = [.ref bl,.ref Dd,.ref fa]∧H bl = some (.lst (zs.map fun z=>V.ref z.1))∧(∀ z ∈ zs,H z.1 = some (.lst (z.2.map V.int)))∧H Dd = some (.lst (ws.map fun z=>V.ref z.1))∧(∀ z ∈ ws,H z.1 = some (.lst (z.2.map V.int)))∧H fa = some (.lst (fs.map V.int))∧zs.length≤4∧ws.length≤13∧fs.length≤1000∧(∀ z ∈ zs,z.2 ≠ []∧z.2.length≤4) ∧
 (lacks (zs.map (·.2)) fs = true->zH (zs.map (·.2)) fs ∈ ws.map (·.2))∧∀ H',Same H H'->Q (plc (zs.map (·.2)) (ws.map (·.2)) fs) H'
theorem Z5 : zE ["bad","stands","figures","stand"] ["bad","stands","figures"] (zu ud):=⟨rfl,rfl,rfl,by decide +kernel,rfl,by decide +kernel,by decide +kernel⟩
theorem Vq {f f1 : Addr} {fd fd1 : FuncData} (D : Df K mg "place_behind" ud ["bad","stands","figures"] f fd) (uJ : Df K mg "longest_stand" vI ["bad","figures"] f1 fd1) (qY : FnOk P w K mg base CX0 3 f1 fd1 ["bad","figures"] u6) : FnOk P w K mg base CX0 4 f fd ["bad","stands","figures"] ql:=by
 refine D.fn.ok Z5 (fun vs H Q E h=>?_) (fun cdv A outer s H vs Q E hr h=>?_)
 ·obtain ⟨bl,Dd,fa,zs,ws,fs,rfl,_⟩:=h; rfl
 ·obtain ⟨bl,Dd,fa,zs,ws,fs,rfl,hb,hz,hD,hw,hf,h4,h13,hl,hst,hin,kk⟩:=h
  have HU:=Vj hr
  refine ⟨_,(zm (zF (i:=3) Z5.nd rfl (Or.inl rfl) (zO uJ qY (hr.mono (by decide)) (zc (pv 0) (zc (pv 2) zg))))
   (zm (xQ (yd zei (pv 3) Xi (ye _))
    (zx (zL Xi))
    yj)
   (zx (zL (Z3 PySem.F.plainAttrs_list PySem.F.slot_list_index PySem.F.type_list_index (zcj K HU) (pv 1) (zc (pv 3) zg)))))),?_⟩
  refine ⟨_,rfl,_,rfl,bl,fa,zs,fs,rfl,hb,hz,hf,by omega,hl,fun z hz=>⟨(hst z hz).1,Nat.le_trans (hst z hz).2 (by decide)⟩,fun v H1 sv s1=>?_⟩
  have q:=kk H1 s1
  unfold plc at q
  rcases sv with ⟨hL,rfl⟩ | ⟨hL,l,rfl,hn,hv⟩
  ·rw [hL,if_neg (by decide)] at q
   exact ⟨_,rfl,rfl,_,rfl,wF q⟩
  ·rw [if_pos hL] at q
   have hm:=hin hL
   have hlt:=List.idxOf_lt_length_iff.mpr hm
   refine ⟨_,rfl,rfl,_,rfl,xW ?_⟩
   refine ⟨_,rfl,.inl ⟨rfl,_,SqL.of (s1 _ _ hD)⟩,_,rfl,Dd,_,_,(ws.map (·.2)).map yt,yt (zH (zs.map (·.2)) fs),(ws.map (·.2)).idxOf (zH (zs.map (·.2)) fs),rfl,rfl,SqL.of (s1 _ _ hD),TrsAt.lists (fun z hz=>s1 _ _ (hw z hz)),TrAt.ints (a:=l) (SqL.of hv),Nat.le_trans (xu _) (by decide),by rw [List.length_map]; exact hlt,?_,?_,q⟩
   ·intro t ht
    rw [List.getElem?_map,List.getElem?_eq_getElem hlt,Option.map_some] at ht
    rw [← Option.some.inj ht,List.getElem_idxOf hlt,ue,decide_eq_true rfl]
   ·intro m t hm' ht
    rw [List.getElem?_map,List.getElem?_eq_getElem (Nat.lt_trans hm' hlt),Option.map_some] at ht
    rw [← Option.some.inj ht,ue,decide_eq_false]
    intro e
    have q3:=ZZ hm' (Nat.lt_trans hm' hlt)
    exact q3 e
def Vf (ls ws : List (List Int)) (b : Nat) (x : List Int) : List V:=(List.range b).map fun (c : Nat)=>plc ls ws (x ++ [(c : Int)])
def jT : Sp:=fun vs H Q _=>∃ (r : Addr) (b : Nat) (bl : Addr) (zs : List (Addr × List Int)) (Dd : Addr) (ws : List (Addr × List Int)) (sa : Addr) (xs : List Int),vs = [.ref r,.ref Dd,.ref sa]∧RuleAt H r b bl zs∧zW b (zs.map (·.2))∧H Dd = some (.lst (ws.map fun z=>V.ref z.1))∧(∀ z ∈ ws,H z.1 = some (.lst (z.2.map V.int)))∧StandsL (zs.map (·.2)) (ws.map (·.2))∧ws.length≤13∧H sa = some (.lst (xs.map V.int))∧xs.length≤100 ∧
 ∀ p H',H p = none->Same H H'->H' p = some (.lst (Vf (zs.map (·.2)) (ws.map (·.2)) b xs))->Q (.ref p) H'
theorem UT : zE ["rule","stands","stand"] ["rule","stands","stand"] (zu uq):=⟨rfl,rfl,rfl,by decide +kernel,rfl,by decide +kernel,by decide +kernel⟩
theorem UV {f f1 : Addr} {fd fd1 : FuncData} (D : Df K mg "steps_from" uq ["rule","stands","stand"] f fd) (tO : Df K mg "place_behind" ud ["bad","stands","figures"] f1 fd1) (jP : FnOk P w K mg base CX0 4 f1 fd1 ["bad","stands","figures"] ql) (T : Blt mg) : FnOk P w K mg base CX0 5 f fd ["rule","stands","stand"] jT:=by
 refine D.fn.ok UT (fun vs H Q E h=>?_) (fun cdv A outer s H vs Q E hr h=>?_)
 ·obtain ⟨r,b,bl,zs,Dd,ws,sa,xs,rfl,_⟩:=h; rfl
 ·obtain ⟨r,b,bl,zs,Dd,ws,sa,xs,rfl,R,g,hD,hw,SL,h13,hs,hl,kk⟩:=h
  have h4 : zs.length≤4:=by have:=g.len; rwa [List.length_map] at this
  have ne : ∀ l ∈ zs.map (·.2),l ≠ []:=fun l hl=>(g.st l hl).ne
  refine ⟨_,(zx (zL (wJ (show CScope (zu uq) _ "figure" ["rule","stands","stand"] ["stands","rule","stand"] [1,0,2] from ⟨rfl,by decide +kernel,by decide +kernel,rfl,by decide +kernel,rfl,by decide +kernel,by decide +kernel⟩) rfl (zY rfl T.n_range (zc (zQ (wH K) (pv 0) zp (fun _ _=>rfl)) zg)) (fun _ _ _ _=>yE) (fun _ _ _ _=>(zO tO jP (hr.mono (by decide)) (zc (zQ (wH K) (pv 2) zp (fun _ _=>rfl)) (zc (pv 1) (zc (zM Xa (pv 3) (zU (zc (pv 0) zg))) zg)))))))),?_⟩
  have b16:=g.b16
  refine ⟨_,rfl,r,_,_,V.int b,rfl,rfl,SqT.of R.tu,rfl,(b : Int),rfl,by omega,by omega,xJ (lo:=0) (n:=(b : Int).toNat) (fun i ys H4=>ys = Vf (zs.map (·.2)) (ws.map (·.2)) i xs∧Same H H4) ⟨rfl,Same.refl _⟩ ?_ ?_⟩
  ·rintro i ys H4 hi ⟨rfl,s4⟩
   have hi' : i < b:=by omega
   refine ⟨?_,?_⟩
   ·unfold Vf
    rw [List.length_map,List.length_range]
    exact Nat.lt_of_lt_of_le (show i < 16 by omega) (by decide)
   unfold jo
   dsimp only
   rw [if_pos rfl]
   have R4:=R.same s4
   have hs4:=s4 _ _ hs
   refine ⟨_,rfl,r,_,_,V.ref bl,rfl,rfl,SqT.of R4.tu,rfl,_,rfl,_,rfl,_,rfl,(by show 1≤sizeLine; decide),fun p1 q1=>?_⟩
   have n1 : sa ≠ p1:=zy hs4 q1
   refine ⟨sa,p1,_,_,rfl,rfl,by rw [zq n1]; exact hs4,zf,by rw [List.length_map]; exact Nat.le_trans (show xs.length + 1≤101 by omega) (by decide),fun p2 q2=>?_⟩
   have t2:=s4.trans ((zj q1 (o:=.lst [V.int (0 + (i : Int))])).trans (zj q2 (o:=.lst (xs.map V.int ++ [V.int (0 + (i : Int))]))))
   have R5:=R.same t2
   refine ⟨bl,Dd,p2,zs,ws,xs ++ [0 + (i : Int)],rfl,R5.li,R5.st,t2 _ _ hD,fun z hz=>t2 _ _ (hw z hz),by rw [zf,List.map_append]; rfl,h4,h13,by rw [List.length_append,List.length_singleton]; omega,fun z hz=>⟨(g.st _ (List.mem_map.mpr ⟨z,hz,rfl⟩)).ne,(g.st _ (List.mem_map.mpr ⟨z,hz,rfl⟩)).len⟩,fun h=>(SL.mem _).mpr (Zr ne h),fun H5 s5=>⟨?_,t2.trans s5⟩⟩
   unfold Vf
   rw [List.range_succ,List.map_append,Int.zero_add]
   rfl
  ·rintro ys H4 ⟨rfl,s4⟩ p hp
   refine kk p _ (s4.free hp) (s4.trans (zj hp)) ?_
   rw [zf,Int.toNat_natCast]
def Zi (ls ws : List (List Int)) (b : Nat) : List (List V):=ws.map (Vf ls ws b) ++ [V.int (ws.length : Nat) :: (Vf ls ws b []).drop 1]
def Zz : Sp:=fun vs H Q _=>∃ (r : Addr) (b : Nat) (bl : Addr) (zs : List (Addr × List Int)) (Dd : Addr) (ws : List (Addr × List Int)),vs = [.ref r,.ref Dd]∧RuleAt H r b bl zs∧zW b (zs.map (·.2))∧H Dd = some (.lst (ws.map fun z=>V.ref z.1))∧(∀ z ∈ ws,H z.1 = some (.lst (z.2.map V.int)))∧StandsL (zs.map (·.2)) (ws.map (·.2))∧ws.length≤13 ∧
 ∀ (p : Addr) (rs : List (Addr × List V)) (H' : Hp),H p = none->Same H H'->H' p = some (.lst (rs.map fun z=>V.ref z.1))->(∀ z ∈ rs,H z.1 = none∧H' z.1 = some (.lst z.2))->rs.map (·.2) = Zi (zs.map (·.2)) (ws.map (·.2)) b->Q (.ref p) H'
theorem X4 : zE ["rule","stands","steps"] ["rule","stands"] (zu qe):=⟨rfl,rfl,rfl,by decide +kernel,rfl,by decide +kernel,by decide +kernel⟩
theorem Jk {f f1 : Addr} {fd fd1 : FuncData} (D : Df K mg "all_steps" qe ["rule","stands"] f fd) (jE : Df K mg "steps_from" uq ["rule","stands","stand"] f1 fd1) (Ym : FnOk P w K mg base CX0 5 f1 fd1 ["rule","stands","stand"] jT) (T : Blt mg) : FnOk P w K mg base CX0 6 f fd ["rule","stands"] Zz:=by
 refine D.fn.ok X4 (fun vs H Q E h=>?_) (fun cdv A outer s H vs Q E hr h=>?_)
 ·obtain ⟨r,b,bl,zs,Dd,ws,rfl,_⟩:=h; rfl
 ·obtain ⟨r,b,bl,zs,Dd,ws,rfl,R,g,hD,hw,SL,h13,kk⟩:=h
  have l3 : ∀ z ∈ ws,z.2.length≤3:=fun z hz=>zab (fun st h=>(g.st st h).len) ((SL.mem _).mp (List.mem_map.mpr ⟨z,hz,rfl⟩))
  obtain ⟨w1,hw1⟩:=SL.first
  refine ⟨_,(zm (vU (i:=2) (show CScope (zu qe) _ "stand" ["rule","stands","steps"] ["rule","stands"] [0,1] from ⟨rfl,by decide +kernel,by decide +kernel,rfl,by decide +kernel,rfl,by decide +kernel,by decide +kernel⟩) rfl X4.nd rfl (Or.inl rfl) (Z6 K (pv 1)) (fun _ _ _ _=>yE) (fun _ _ _ _=>(zO jE Ym (hr.mono (by decide)) (zc (pv 1) (zc (pv 2) (zc (pv 0) zg))))))
   (zx (zL (zM Xa (pv 2) (zU (zc (zM Xa (zU (zc (zB (vV K) (by rfl) T.n_len PySem.boot_len (zc (pv 1) zg)) zg)) (xT (Zd K) (zQ (yS K) (pv 2) zp (fun _ _=>rfl)) (wg zp) uF)) zg)))))),?_⟩
  refine ⟨_,rfl,Dd,rfl,⟨_,SqL.of hD⟩,wD (K:=K) (a:=Dd) (xs:=ws.map fun z=>V.ref z.1) (fun i ys H4=>∃ rs : List (Addr × List V),ys = (rs.map fun z=>V.ref z.1)∧(∀ z ∈ rs,H z.1 = none∧H4 z.1 = some (.lst z.2))∧rs.map (·.2) = (ws.take i).map (fun z=>Vf (zs.map (·.2)) (ws.map (·.2)) b z.2)∧Same H H4) ⟨[],rfl,fun z hz=>(by cases hz),rfl,Same.refl _⟩ (fun i ys H4 _ ⟨_,_,_,_,e⟩=>SqL.of (e _ _ hD)) ?_ ?_⟩
  ·rintro j x ys H4 hx ⟨rs,rfl,hrs,hr2,s4⟩
   rw [List.getElem?_map] at hx
   obtain ⟨z,hzj,e⟩:=Option.map_eq_some_iff.mp hx
   subst e
   have hzm:=List.mem_of_getElem? hzj
   refine ⟨?_,?_⟩
   ·have e1:=congrArg List.length hr2
    rw [List.length_map,List.length_map,List.length_take] at e1
    rw [List.length_map,e1]
    exact Nat.lt_of_le_of_lt (Nat.le_trans (Nat.min_le_right _ _) h13) (by decide)
   unfold jo
   dsimp only
   rw [if_pos rfl]
   refine ⟨_,rfl,_,rfl,_,rfl,r,b,bl,zs,Dd,ws,z.1,z.2,rfl,R.same s4,g,s4 _ _ hD,fun z hz=>s4 _ _ (hw z hz),SL,h13,s4 _ _ (hw z hzm),Nat.le_trans (l3 z hzm) (by decide),fun p H5 hp s5 hv=>?_⟩
   refine ⟨rs ++ [(p,Vf (zs.map (·.2)) (ws.map (·.2)) b z.2)],by simp,fun y hy=>?_,?_,s4.trans s5⟩
   ·rcases List.mem_append.mp hy with h | h
    ·exact ⟨(hrs y h).1,s5 _ _ (hrs y h).2⟩
    ·rw [List.mem_singleton] at h
     subst h
     exact ⟨s4.free hp,hv⟩
   ·rw [List.map_append,hr2,List.take_succ,hzj]
    simp
  ·rintro ys H4 ⟨rs,rfl,hrs,hr2,s4⟩ p hp
   have hl2:=congrArg List.length hr2
   rw [List.length_map,List.take_length] at hr2
   rw [List.length_map,List.length_map,List.length_take,List.length_map,Nat.min_self] at hl2
   obtain ⟨w0,ws',rfl⟩ : ∃ w0 ws',ws = w0 :: ws':=by
    cases ws with
    | nil=>simp at hw1
    | cons a b=>exact ⟨a,b,rfl⟩
   have hw0 : w0.2 = []:=by
    rw [List.map_cons] at hw1
    exact (List.cons.inj hw1).1
   obtain ⟨r0,rs',rfl⟩ : ∃ r0 rs',rs = r0 :: rs':=by
    cases rs with
    | nil=>simp at hl2
    | cons a b=>exact ⟨a,b,rfl⟩
   have hr0 : r0.2 = Vf (zs.map (·.2)) ((w0 :: ws').map (·.2)) b []:=by
    have e:=(List.cons.inj hr2).1
    rw [← hw0]
    exact e
   have t4:=s4.trans (zj hp (o:=.lst ((r0 :: rs').map fun z=>V.ref z.1)))
   have hr04 : ∀ z ∈ r0 :: rs',upd H4 p (.lst ((r0 :: rs').map fun z=>V.ref z.1)) z.1 = some (.lst z.2):=fun z hz=>zj hp _ _ (hrs z hz).2
   refine ⟨_,rfl,_,rfl,Dd,_,rfl,.inl (SqL.of (t4 _ _ hD)),(by show 1≤sizeLine; decide),fun p1 q1=>?_⟩
   have u1:=zj q1 (o:=.lst [V.int (((w0 :: ws').map fun z=>V.ref z.1).length : Nat)])
   refine ⟨_,rfl,p,_,_,V.ref r0.1,rfl,rfl,SqL.of (u1 _ _ zf),yQ (j:=0) rfl,_,rfl,r0.1,_,rfl,SqL.of (u1 _ _ (hr04 r0 List.mem_cons_self)),fun p2 q2=>?_⟩
   have hb1 : r0.2.length≤16:=by
    rw [hr0]
    unfold Vf
    rw [List.length_map,List.length_range]
    exact g.b16
   have u2:=u1.trans (zj q2 (o:=.lst (jn r0.2 (some 1) none)))
   refine ⟨p1,p2,_,_,rfl,rfl,zj q2 _ _ zf,zf,?_,fun p3 q3=>?_⟩
   ·rw [show (1 : Int) = ((1 : Nat) : Int) from rfl,tD,List.length_drop,List.length_singleton]
    exact Nat.le_trans (show 1 + (r0.2.length - 1)≤100 by omega) (by decide)
   have ev : ([V.int (((w0 :: ws').map fun z=>V.ref z.1).length : Nat)] ++ jn r0.2 (some 1) none) = V.int (((w0 :: ws').map (·.2)).length : Nat) :: (Vf (zs.map (·.2)) ((w0 :: ws').map (·.2)) b []).drop 1:=by
    rw [show (1 : Int) = ((1 : Nat) : Int) from rfl,tD,hr0,List.length_map,List.length_map]
    rfl
   have u3:=u2.trans (zj q3 (o:=.lst ([V.int (((w0 :: ws').map fun z=>V.ref z.1).length : Nat)] ++ jn r0.2 (some 1) none)))
   refine ⟨(by show 1≤sizeLine; decide),fun p4 q4=>?_⟩
   have u4:=u3.trans (zj q4 (o:=.lst [V.ref p3]))
   refine ⟨p,p4,_,_,rfl,rfl,u4 _ _ zf,zf,?_,fun p5 q5=>?_⟩
   ·rw [List.length_map,List.length_singleton]
    exact Nat.le_trans (show (r0 :: rs').length + 1≤100 by omega) (by decide)
   have u5:=u4.trans (zj q5 (o:=.lst ((r0 :: rs').map (fun z=>V.ref z.1) ++ [V.ref p3])))
   refine kk p5 (r0 :: rs' ++ [(p3,[V.int (((w0 :: ws').map fun z=>V.ref z.1).length : Nat)] ++ jn r0.2 (some 1) none)]) _ (t4.free (u4.free q5)) (t4.trans u5) ?_ ?_ ?_
   ·rw [zf,List.map_append]
    rfl
   ·intro z hz
    rcases List.mem_append.mp hz with h | h
    ·exact ⟨(hrs z h).1,u5 _ _ (hr04 z h)⟩
    ·rw [List.mem_singleton] at h
     subst h
     exact ⟨t4.free (u2.free q3),zj q5 _ _ (zj q4 _ _ zf)⟩
   ·rw [List.map_append,hr2,ev]
    unfold Zi
    rw [List.map_map]
    rfl
end
structure ClT (K : PySem.W.Frag) (mg : Str->Option Value) (C : Addr) : Prop where
 cl : Cls K C
 nm : mg "Tails" = some (.ref C)
 n_base : NoAttr K C "base"
 n_outset : NoAttr K C "outset"
 n_steps : NoAttr K C "steps"
 n_layers : NoAttr K C "layers"
def Xl (b n : Nat) (sa la : Addr) : List (Str × V):=yh "layers" (.ref la) (yh "steps" (.ref sa) (yh "outset" (.int n) (yh "base" (.int b) [])))
theorem Qv (b n : Nat) (sa la : Addr) : (Xl b n sa la).lookup ("base" : Str) = some (.int b):=by
 unfold Xl
 rw [zK,if_neg (by decide +kernel),zK,if_neg (by decide +kernel),zK,if_neg (by decide +kernel),zK,if_pos rfl]
theorem vW (b n : Nat) (sa la : Addr) : (Xl b n sa la).lookup ("outset" : Str) = some (.int n):=by
 unfold Xl
 rw [zK,if_neg (by decide +kernel),zK,if_neg (by decide +kernel),zK,if_pos rfl]
theorem ji (b n : Nat) (sa la : Addr) : (Xl b n sa la).lookup ("steps" : Str) = some (.ref sa):=by
 unfold Xl
 rw [zK,if_neg (by decide +kernel),zK,if_pos rfl]
theorem jw (b n : Nat) (sa la : Addr) : (Xl b n sa la).lookup ("layers" : Str) = some (.ref la):=by
 unfold Xl
 rw [zK,if_pos rfl]
theorem YF (b n : Nat) (sa la : Addr) {m : Str} (h1 : ¬ m = "layers":=by decide +kernel) (h2 : ¬ m = "steps":=by decide +kernel) (h3 : ¬ m = "outset":=by decide +kernel) (h4 : ¬ m = "base":=by decide +kernel) : (Xl b n sa la).lookup m = none:=by
 unfold Xl
 rw [zK,if_neg h1,zK,if_neg h2,zK,if_neg h3,zK,if_neg h4]
 rfl
def yJ (ls ws : List (List Int)) (b t : Nat) : List Int:=(ws.map fun x=>((cnt ls b t x : Nat) : Int)) ++ [((wW ls b t : Nat) : Int)]
def stepV (ls ws : List (List Int)) : Option (List Int)->Nat->V
 | some x,c=>plc ls ws (x ++ [(c : Int)])
 | none,c=>if c = 0 then .int (ws.length : Nat) else plc ls ws [(c : Int)]
theorem zaZ (ls ws : List (List Int)) (x : List Int) (c : Nat) : stepV ls ws (some x) c = plc ls ws (x ++ [(c : Int)]):=rfl
theorem uT (ls ws : List (List Int)) (c : Nat) : stepV ls ws none c = if c = 0 then .int (ws.length : Nat) else plc ls ws [(c : Int)]:=rfl
theorem Xy (ls : List (List Int)) (b t : Nat) (x : List Int) (c : Nat) : j9 ls b t (some x) c = if lacks ls (x ++ [(c : Int)]) = true then cnt ls b t (zH ls (x ++ [(c : Int)])) else 0:=rfl
theorem uQ (ls : List (List Int)) (b t : Nat) (c : Nat) : j9 ls b t none c = if c = 0 then wW ls b t else if lacks ls [(c : Int)] = true then cnt ls b t (zH ls [(c : Int)]) else 0:=rfl
theorem Xe {ls ws : List (List Int)} {b i : Nat} (hb : 1≤b) (hi : i≤ws.length) : (Zi ls ws b)[i]? = some ((List.range b).map (stepV ls ws ws[i]?)):=by
 unfold Zi
 by_cases h : i < ws.length
 ·rw [List.getElem?_append_left (by rw [List.length_map]; exact h),List.getElem?_map,List.getElem?_eq_getElem h]
  rfl
 ·have e : i = ws.length:=by omega
  subst e
  rw [List.getElem?_append_right (by rw [List.length_map]; exact Nat.le_refl _),List.length_map,Nat.sub_self,List.getElem?_eq_none (Nat.le_refl _)]
  show some _ = some _
  congr 1
  obtain ⟨k,rfl⟩ : ∃ k,b = k + 1:=⟨b - 1,by omega⟩
  unfold Vf
  rw [List.range_succ_eq_map,List.map_cons,List.map_cons,List.drop_succ_cons,List.drop_zero]
  rw [List.map_map,List.map_map]
  rfl
structure TailsAt (C : Addr) (H : Hp) (p la : Addr) (b : Nat) (ls ws : List (List Int)) (L : Nat) : Prop where
 ob : ∃ (dx sa : Addr) (srs : List (Addr × List V)),aw [la] H p = some (.ins C dx (Xl b ws.length sa la))∧aw [la] H sa = some (.lst (srs.map fun z=>V.ref z.1))∧(∀ z ∈ srs,aw [la] H z.1 = some (.lst z.2))∧srs.map (·.2) = Zi ls ws b
 ly : ∃ lrs : List (Addr × List Int),H la = some (.lst (lrs.map fun z=>V.ref z.1))∧(∀ z ∈ lrs,aw [la] H z.1 = some (.lst (z.2.map V.int)))∧lrs.map (·.2) = (List.range L).map (yJ ls ws b)
 l1 : 1≤L
structure GoodT (b : Nat) (ls ws : List (List Int)) : Prop where
 g : zW b ls
 s : StandsL ls ws
 h13 : ws.length≤13
theorem GoodT.ne {b : Nat} {ls ws : List (List Int)} (G : GoodT b ls ws) : ∀ l ∈ ls,l ≠ []:=fun l hl=>(G.g.st l hl).ne
theorem TailsAt.same {C p la b : Nat} {H H' : Hp} {ls ws : List (List Int)} {L : Nat} (A : TailsAt C H p la b ls ws L) (m : Same H H') : TailsAt C H' p la b ls ws L:=by
 obtain ⟨dx,sa,srs,h1,h2,h3,h4⟩:=A.ob
 obtain ⟨lrs,g1,g2,g3⟩:=A.ly
 have m':=m.aw [la]
 exact ⟨⟨dx,sa,srs,m' _ _ h1,m' _ _ h2,fun z hz=>m' _ _ (h3 z hz),h4⟩,⟨lrs,m _ _ g1,fun z hz=>m' _ _ (g2 z hz),g3⟩,A.l1⟩
theorem Va {ls ws : List (List Int)} {b t : Nat} (G : GoodT b ls ws) {i c : Nat} (hi : i≤ws.length) :
  (stepV ls ws ws[i]? c = .non∧j9 ls b t ws[i]? c = 0)∨∃ j : Nat,stepV ls ws ws[i]? c = .int j∧j≤ws.length∧(yJ ls ws b t)[j]? = some ((j9 ls b t ws[i]? c : Nat) : Int):=by
 have at_ : ∀ fs : List Int,lacks ls fs = true->∃ j : Nat,plc ls ws fs = .int j∧j≤ws.length∧(yJ ls ws b t)[j]? = some ((cnt ls b t (zH ls fs) : Nat) : Int):=by
  intro fs h
  have hm : zH ls fs ∈ ws:=(G.s.mem _).mpr (Zr G.ne h)
  have hlt:=List.idxOf_lt_length_iff.mpr hm
  refine ⟨ws.idxOf (zH ls fs),by unfold plc; rw [if_pos h],Nat.le_of_lt hlt,?_⟩
  unfold yJ
  rw [List.getElem?_append_left (by rw [List.length_map]; exact hlt),List.getElem?_map,List.getElem?_eq_getElem hlt,List.getElem_idxOf hlt]
  rfl
 cases hw : ws[i]? with
 | some x =>
  show (plc ls ws (x ++ [(c : Int)]) = .non∧(if lacks ls (x ++ [(c : Int)]) = true then _ else 0) = 0)∨_
  by_cases h : lacks ls (x ++ [(c : Int)]) = true
  ·right
   obtain ⟨j,h1,h2,h3⟩:=at_ _ h
   refine ⟨j,h1,h2,?_⟩
   rw [h3,Xy,if_pos h]
  ·left
   exact ⟨by unfold plc; rw [if_neg h],by rw [if_neg h]⟩
 | none =>
  by_cases h0 : c = 0
  ·right
   refine ⟨ws.length,by rw [uT,if_pos h0],Nat.le_refl _,?_⟩
   unfold yJ
   rw [uQ,if_pos h0,List.getElem?_append_right (by rw [List.length_map]; exact Nat.le_refl _),List.length_map,Nat.sub_self]
   rfl
  ·by_cases h : lacks ls [(c : Int)] = true
   ·right
    obtain ⟨j,h1,h2,h3⟩:=at_ _ h
    refine ⟨j,by rw [uT,if_neg h0]; exact h1,h2,?_⟩
    rw [h3,uQ,if_neg h0,if_pos h]
   ·left
    refine ⟨?_,?_⟩
    ·rw [uT,if_neg h0]; unfold plc; rw [if_neg h]
    ·rw [uQ,if_neg h0,if_neg h]
theorem qP {fp : List Addr} {H : Hp} {b : Addr} {o : HO} (h : b ∈ fp) : aw fp (upd H b o) = aw fp H:=by
 funext c
 by_cases hc : c ∈ fp
 ·rw [q9 hc,q9 hc]
 ·rw [zP hc,zP hc,zq (fun z : c = b=>hc (by rw [z]; exact h))]
section
variable {P : Program} {w : World} {K : PySem.W.Frag} {mg : Str->Option Value} {base : Heap} {T0 C : Addr}
def Xm (C : Addr) : Sp:=fun vs H Q _=>∃ (p la : Addr) (b : Nat) (ls ws : List (List Int)) (L t : Nat) (lay : Addr) (i s : Nat),vs = [.ref p,.ref lay,.int i,.int s]∧TailsAt C H p la b ls ws L∧GoodT b ls ws∧H lay = some (.lst ((yJ ls ws b t).map V.int))∧i≤ws.length∧s≤b ∧
 ∀ H',Same H H'->Q (.int (under ls b t ws[i]? s : Nat)) H'
theorem Wl : zE ["self","layer","place","stop"] ["self","layer","place","stop"] (zu yW):=⟨rfl,rfl,rfl,by decide +kernel,rfl,by decide +kernel,by decide +kernel⟩
theorem UG {f : Addr} {fd : FuncData} (D : Mt K C "Tails.many_by" "many_by" yW ["self","layer","place","stop"] f fd) (zG : ClT K mg C) (T : Blt mg) (U : zbB mg) : FnOk P w K mg base CX0 1 f fd ["self","layer","place","stop"] (Xm C):=by
 refine D.fn.ok Wl (fun vs H Q E h=>?_) (fun cdv A outer s H vs Q E hr h=>?_)
 ·obtain ⟨p,la,b,ls,ws,L,t,lay,i,s,rfl,_⟩:=h; rfl
 ·obtain ⟨p,la,b,ls,ws,L,t,lay,i,s,rfl,TA,G,hlay,hi,hs,kk⟩:=h
  obtain ⟨dx,sa,srs,h1,h2,h3,h4⟩:=TA.ob
  have b16:=G.g.b16
  have b2:=G.g.b2
  refine ⟨_,(zx (zL (zB (JL K rfl) (by rfl) U.n_sum boot_sum (zc (wJ (show CScope (zu yW) _ "behind" ["self","layer","place","stop"] ["layer"] [1] from ⟨rfl,by decide +kernel,by decide +kernel,rfl,by decide +kernel,rfl,by decide +kernel,by decide +kernel⟩) rfl (Z6 K (xT (Zd K) (zQ (yS K) (xY K (pv 0)) (pv 2) (fun _ _=>rfl)) uF (wg (pv 3)))) (fun _ _ _ _=>(Vw (yd Js (pv 0) Xi (ye _)))) (fun _ _ _ _=>(zQ (yS K) (pv 1) (pv 0) (fun _ _=>rfl)))) zg)))),?_⟩
  have hrow:=Xe (ls:=ls) (b:=b) (by omega) hi
  rw [← h4,List.getElem?_map] at hrow
  obtain ⟨z,hz,ez⟩:=Option.map_eq_some_iff.mp hrow
  have hzm:=List.mem_of_getElem? hz
  have hz3:=yc _ _ _ _ (h3 z hzm)
  refine ⟨_,rfl,p,C,dx,_,_,rfl,yc _ _ _ _ h1,zG.cl,zG.n_steps,ji _ _ _ _,_,rfl,sa,_,_,V.ref z.1,rfl,rfl,SqL.of (yc _ _ _ _ h2),yQ (by rw [List.getElem?_map,hz]; rfl),?_⟩
  refine ⟨_,rfl,_,rfl,z.1,_,rfl,SqL.of hz3,fun q hq=>?_⟩
  have m1:=zj hq (o:=.lst (jn z.2 none (some (s : Int))))
  have ecut : jn z.2 none (some (s : Int)) = (List.range s).map (stepV ls ws ws[i]?):=by
   rw [Zb,ez,← List.map_take,List.take_range,Nat.min_eq_left hs]
  rw [ecut] at m1 ⊢
  refine ⟨q,rfl,⟨_,SqL.of zf⟩,wD (K:=K) (a:=q) (xs:=(List.range s).map (stepV ls ws ws[i]?)) (fun k ys H4=>H4 = upd H q (.lst ((List.range s).map (stepV ls ws ws[i]?)))∧∃ ms : List Int,ys = ms.map V.int∧ms.length≤k∧ms.sum = ((under ls b t ws[i]? k : Nat) : Int)) ⟨rfl,[],rfl,Nat.le_refl _,by simp [under]⟩ (fun k ys H4 _ ⟨e,_⟩=>by rw [e]; exact SqL.of zf) ?_ ?_⟩
  ·rintro k x ys H4 hx ⟨rfl,ms,rfl,hml,hms⟩
   rw [List.getElem?_map] at hx
   obtain ⟨c,hc,e⟩:=Option.map_eq_some_iff.mp hx
   have hk : k < s:=by have:=(List.getElem?_eq_some_iff.mp hc).1; rwa [List.length_range] at this
   have ec : c = k:=by
    rw [List.getElem?_range hk] at hc
    exact (Option.some.inj hc).symm
   subst ec
   subst e
   refine ⟨by rw [List.length_map]; exact Nat.lt_of_le_of_lt (show ms.length≤16 by omega) (by decide),?_⟩
   have hus:=uP ls b t ws[i]? c
   rcases Va (t:=t) G (c:=c) hi with ⟨e1,e2⟩ | ⟨j,e1,e2,e3⟩
   ·rw [e1]
    refine ⟨_,rfl,rfl,_,rfl,xW ⟨rfl,ms,rfl,by omega,?_⟩⟩
    rw [hus,e2,hms]
    omega
   ·rw [e1]
    refine ⟨_,rfl,rfl,_,rfl,wF ?_⟩
    refine ⟨_,rfl,_,rfl,lay,_,_,V.int ((j9 ls b t ws[i]? c : Nat) : Int),rfl,rfl,SqL.of (m1 _ _ hlay),yQ (by rw [List.getElem?_map,e3]; rfl),rfl,ms ++ [((j9 ls b t ws[i]? c : Nat) : Int)],by simp,by rw [List.length_append,List.length_singleton]; omega,?_⟩
    rw [List.sum_append,hms,hus]
    simp
  ·rintro ys H4 ⟨rfl,ms,rfl,hml,hms⟩ Dd hD
   refine ⟨Dd,ms,rfl,SqL.of zf,?_⟩
   rw [hms,List.length_map,List.length_range]
   exact kk _ (m1.trans (zj hD))
def TQ (C : Addr) (H : Hp) (p la : Addr) (b : Nat) (ls ws : List (List Int)) (L : Nat) (R : Nat->Hp->Prop) : Prop:=∀ (L' : Nat) (H' : Hp),L≤L'->TailsAt C H' p la b ls ws L'->Same (aw [la] H) (aw [la] H')->R L' H'
def XR (C : Addr) : Sp:=fun vs H Q _=>∃ (p la : Addr) (b : Nat) (ls ws : List (List Int)) (L t : Nat),vs = [.ref p,.int t]∧TailsAt C H p la b ls ws L∧GoodT b ls ws∧L≤1000∧t < 1000 ∧
 ∀ lay : Addr,TQ C H p la b ls ws L fun L' H'=>L'≤max L (t + 1)->aw [la] H' lay = some (.lst ((yJ ls ws b t).map V.int))->Q (.ref lay) H'
theorem Ye : zE ["self","left","shorter"] ["self","left"] (zu wC):=⟨rfl,rfl,rfl,by decide +kernel,rfl,by decide +kernel,by decide +kernel⟩
theorem zak {ls ws : List (List Int)} {b t : Nat} : ((List.range (ws.length + 1)).map fun i=>((under ls b t ws[i]? b : Nat) : Int)) = yJ ls ws b (t + 1):=by
 unfold yJ
 apply List.ext_getElem?
 intro i
 rw [List.getElem?_map]
 by_cases h : i < ws.length
 ·rw [List.getElem?_range (by omega),List.getElem?_append_left (by rw [List.length_map]; exact h),List.getElem?_map,Option.map_some,List.getElem?_eq_getElem h]
  rfl
 ·by_cases h2 : i = ws.length
  ·subst h2
   rw [List.getElem?_range (by omega),List.getElem?_append_right (by rw [List.length_map]; exact Nat.le_refl _),List.length_map,Nat.sub_self,Option.map_some,List.getElem?_eq_none (Nat.le_refl _)]
   rfl
  ·rw [List.getElem?_eq_none (by rw [List.length_range]; omega),List.getElem?_eq_none (by rw [List.length_append,List.length_map,List.length_singleton]; omega)]
   rfl
theorem zaa {f f1 : Addr} {fd fd1 : FuncData} (D : Mt K C "Tails.layer" "layer" wC ["self","left"] f fd) (yG : Mt K C "Tails.many_by" "many_by" yW ["self","layer","place","stop"] f1 fd1) (zG : ClT K mg C) (T : Blt mg) (U : zbB mg) : FnOk P w K mg base CX0 2 f fd ["self","left"] (XR C):=by
 have Z8 : FnOk P w K mg base CX0 1 f1 fd1 ["self","layer","place","stop"] (Xm C):=UG yG zG T U
 refine D.fn.ok Ye (fun vs H Q E h=>?_) (fun cdv A outer s H vs Q E hr h=>?_)
 ·obtain ⟨p,la,b,ls,ws,L,t,rfl,_⟩:=h; rfl
 ·obtain ⟨p,la,b,ls,ws,L,t,rfl,TA,G,hL,ht,kk⟩:=h
  have h13:=G.h13
  refine ⟨_,(zm (Yo PassesOwn.never (yd YZ (zB (vV K) (by rfl) T.n_len PySem.boot_len (zc (xY K (pv 0)) zg)) (pv 1) (ye _))
    (zm (zF (i:=2) Ye.nd rfl (Or.inr rfl) (zQ (yS K) (xY K (pv 0)) (zbn Jw zp) (fun _ _=>rfl)))
    (zx (xP (Z3 PySem.F.plainAttrs_list PySem.F.slot_list_append PySem.F.type_list_append vd (xY K (pv 0)) (zc (wJ (show CScope (zu wC) _ "place" ["self","left","shorter"] ["shorter","self"] [2,0] from ⟨rfl,by decide +kernel,by decide +kernel,rfl,by decide +kernel,rfl,by decide +kernel,by decide +kernel⟩) rfl (zY rfl T.n_range (zc (zM yu (xY K (pv 0)) zp) zg)) (fun _ _ _ _=>yE) (fun _ _ _ _=>(Yb yG zG.cl Z8 (hr.mono (by decide)) (pv 2) (zc (pv 1) (zc (pv 0) (zc (xY K (pv 2)) zg)))))) zg))))))
   (zx (zL (zQ (yS K) (xY K (pv 0)) (pv 1) (fun _ _=>rfl))))),?_⟩
  refine Wk (fun σ H2=>∃ (v : Option V) (L' : Nat),σ = [some (.ref p),some (.int t),v]∧L≤L'∧L'≤max L (t + 1)∧TailsAt C H2 p la b ls ws L'∧Same (aw [la] H) (aw [la] H2))
   (fun σ H2=>match H2 la with | some (.lst xs)=>t + 1 - xs.length | _=>0) ⟨none,L,rfl,Nat.le_refl _,Nat.le_max_left _ _,TA,Same.refl _⟩ ?_ ?_
  ·rintro σ H2 ⟨v,L',rfl,hLL,hLm,TA2,m2⟩
   obtain ⟨dx,sa,srs,h1,h2,h3,h4⟩:=TA2.ob
   obtain ⟨lrs,g1,g2,g3⟩:=TA2.ly
   have hl : lrs.length = L':=by have:=congrArg List.length g3; rwa [List.length_map,List.length_map,List.length_range] at this
   have hp:=yc _ _ _ _ h1
   have l1:=TA2.l1
   refine ⟨_,rfl,p,C,dx,_,_,rfl,hp,zG.cl,zG.n_layers,jw _ _ _ _,la,_,rfl,.inl (SqL.of g1),_,rfl,_,_,rfl,rfl,_,rfl,?_⟩
   rw [List.length_map,hl]
   refine Uu (fun hc=>?_) (fun hc=>?_)
   ·have hc' : L'≤t:=by have:=of_decide_eq_true hc; omega
    have hlast : lrs[L' - 1]? = some lrs[L' - 1]:=List.getElem?_eq_getElem (by omega)
    generalize hz : lrs[L' - 1] = z at hlast
    have hzm : z ∈ lrs:=List.mem_of_getElem? hlast
    have hz2 : z.2 = yJ ls ws b (L' - 1):=by
     have e:=congrArg (fun l=>l[L' - 1]?) g3
     simp only [List.getElem?_map,hlast,List.getElem?_range (show L' - 1 < L' by omega),Option.map_some] at e
     exact Option.some.inj e
    have elr : lrs = lrs.take (L' - 1) ++ [z]:=by
     have e:=(List.take_append_drop (L' - 1) lrs).symm
     rw [List.drop_eq_getElem_cons (show L' - 1 < lrs.length by omega),hz,List.drop_of_length_le (by omega)] at e
     exact e
    have eat : atI (lrs.map fun z=>V.ref z.1) (-1) = some (V.ref z.1):=by
     rw [elr,List.map_append]
     exact zco _ _
    refine ⟨_,rfl,p,C,dx,_,_,rfl,hp,zG.cl,zG.n_layers,jw _ _ _ _,_,rfl,la,_,_,V.ref z.1,rfl,rfl,SqL.of g1,eat,?_⟩
    refine ⟨_,rfl,p,C,dx,_,_,rfl,hp,zG.cl,zG.n_layers,jw _ _ _ _,.inl ⟨rfl,_,SqL.of g1⟩,?_⟩
    refine ⟨_,rfl,p,C,dx,_,_,rfl,hp,zG.cl,zG.n_outset,vW _ _ _ _,_,_,rfl,rfl,((ws.length : Int) + 1),rfl,by omega,by omega,xJ (lo:=0) (n:=((ws.length : Int) + 1).toNat) (fun i ys H4=>ys = (((List.range i).map fun i=>((under ls b (L' - 1) ws[i]? b : Nat) : Int))).map V.int∧Same H2 H4) ⟨rfl,Same.refl _⟩ ?_ ?_⟩
    ·rintro i ys H4 hi ⟨rfl,m4⟩
     refine ⟨by rw [List.length_map,List.length_map,List.length_range]; exact Nat.lt_of_lt_of_le (show i < 20 by omega) (by decide),?_⟩
     unfold jo
     dsimp only
     rw [if_pos rfl]
     have TA4:=TA2.same m4
     have hp4:=m4 _ _ hp
     refine ⟨_,rfl,p,dx,_,rfl,hp4,YF _ _ _ _,_,rfl,_,rfl,_,rfl,p,C,dx,_,_,rfl,hp4,zG.cl,zG.n_base,Qv _ _ _ _,?_⟩
     refine ⟨p,la,b,ls,ws,L',L' - 1,z.1,i,b,by rw [Int.zero_add]; rfl,TA4,G,?_,by omega,Nat.le_refl _,fun H5 m5=>⟨?_,m4.trans m5⟩⟩
     ·rw [← hz2]; exact m4 _ _ (yc _ _ _ _ (g2 z hzm))
     ·rw [List.range_succ,List.map_append,List.map_append]
      rfl
    rintro ys H4 ⟨rfl,m4⟩ q hq
    rw [show ((ws.length : Int) + 1).toNat = ws.length + 1 by omega,zak,show L' - 1 + 1 = L' by omega]
    have m5:=zj hq (o:=.lst ((yJ ls ws b L').map V.int))
    have gla:=m5 _ _ (m4 _ _ g1)
    have nq : q ≠ la:=fun e=>by rw [e,m4 _ _ g1] at hq; cases hq
    refine ⟨la,_,_,rfl,rfl,gla,by rw [List.length_map,hl]; exact Nat.lt_of_le_of_lt (show L'≤1000 by omega) (by decide),?_⟩
    have m25 : Same (aw [la] H2) (aw [la] (upd (upd H4 q (.lst ((yJ ls ws b L').map V.int))) la (.lst (lrs.map (fun z=>V.ref z.1) ++ [.ref q])))):=by
     rw [qP (by simp)]
     exact (m4.trans m5).aw [la]
    refine ⟨⟨_,L' + 1,rfl,by omega,by omega,⟨⟨dx,sa,srs,m25 _ _ h1,m25 _ _ h2,fun y hy=>m25 _ _ (h3 y hy),h4⟩,⟨lrs ++ [(q,yJ ls ws b L')],by rw [zf]; simp,fun y hy=>?_,?_⟩,by omega⟩,m2.trans m25⟩,?_⟩
    ·rcases List.mem_append.mp hy with hy | hy
     ·exact m25 _ _ (g2 y hy)
     ·have e : y = (q,yJ ls ws b L'):=by simpa using hy
      subst e
      rw [qP (by simp),zP (by simp [nq]),zf]
    ·rw [List.map_append,g3,List.range_succ,List.map_append]
     rfl
    ·show (match (upd (upd H4 q (.lst ((yJ ls ws b L').map V.int))) la (.lst (lrs.map (fun z=>V.ref z.1) ++ [.ref q]))) la with | some (.lst xs)=>t + 1 - xs.length | _=>0) < (match H2 la with | some (.lst xs)=>t + 1 - xs.length | _=>0)
     rw [zf,g1]
     show t + 1 - (lrs.map (fun z=>V.ref z.1) ++ [V.ref q]).length < t + 1 - (lrs.map fun z=>V.ref z.1).length
     rw [List.length_append,List.length_map,List.length_singleton]
     omega
   ·have hc' : t < L':=by
     by_cases z : t < L'
     ·exact z
     ·exact absurd (decide_eq_true (by omega : (L' : Int)≤t)) hc
    have hlast : lrs[t]? = some lrs[t]:=List.getElem?_eq_getElem (by omega)
    generalize hz : lrs[t] = z at hlast
    have hzm : z ∈ lrs:=List.mem_of_getElem? hlast
    have hz2 : z.2 = yJ ls ws b t:=by
     have e:=congrArg (fun l=>l[t]?) g3
     simp only [List.getElem?_map,hlast,List.getElem?_range hc',Option.map_some] at e
     exact Option.some.inj e
    refine ⟨_,rfl,p,C,dx,_,_,rfl,hp,zG.cl,zG.n_layers,jw _ _ _ _,_,rfl,la,_,_,V.ref z.1,rfl,rfl,SqL.of g1,yQ (by rw [List.getElem?_map,hlast]; rfl),?_⟩
    exact kk z.1 L' H2 hLL TA2 m2 hLm (by rw [← hz2]; exact g2 z hzm)
  ·intro σ H2 Q Q' hq
   rintro ⟨v0,e0,a,C',dx,fs,v,h1,h2,h3,h4,h5,p',ys,h6,h7,v1,e1,i,j,e3,e4,k,e5,q⟩
   exact ⟨v0,e0,a,C',dx,fs,v,h1,h2,h3,h4,h5,p',ys,h6,h7,v1,e1,i,j,e3,e4,k,e5,hq _ _ q⟩
def wN (C : Addr) : Sp:=fun vs H Q _=>∃ (p la : Addr) (b : Nat) (ls ws : List (List Int)) (L t : Nat),vs = [.ref p,.int t]∧TailsAt C H p la b ls ws L∧GoodT b ls ws∧L≤1000∧t < 1000∧TQ C H p la b ls ws L fun L' H'=>L'≤max L (t + 1)->Q (.int (wW ls b t : Nat)) H'
theorem Yp : zE ["self","size"] ["self","size"] (zu yx):=⟨rfl,rfl,rfl,by decide +kernel,rfl,by decide +kernel,by decide +kernel⟩
theorem Uv {f f1 f2 : Addr} {fd fd1 fd2 : FuncData} (D : Mt K C "Tails.many_within" "many_within" yx ["self","size"] f fd) (xm : Mt K C "Tails.layer" "layer" wC ["self","left"] f1 fd1) (yG : Mt K C "Tails.many_by" "many_by" yW ["self","layer","place","stop"] f2 fd2) (zG : ClT K mg C) (T : Blt mg) (U : zbB mg) : FnOk P w K mg base CX0 3 f fd ["self","size"] (wN C):=by
 have uE : FnOk P w K mg base CX0 2 f1 fd1 ["self","left"] (XR C):=zaa xm yG zG T U
 refine D.fn.ok Yp (fun vs H Q E h=>?_) (fun cdv A outer s H vs Q E hr h=>?_)
 ·obtain ⟨p,la,b,ls,ws,L,t,rfl,_⟩:=h; rfl
 ·obtain ⟨p,la,b,ls,ws,L,t,rfl,TA,G,hL,ht,kk⟩:=h
  obtain ⟨dx,sa,srs,h1,h2,h3,h4⟩:=TA.ob
  have hp:=yc _ _ _ _ h1
  refine ⟨_,(zx (zL (zQ (yS K) (Yb xm zG.cl uE (hr.mono (by decide)) (pv 0) (zc (pv 1) zg)) (xY K (pv 0)) (fun _ _=>rfl)))),?_⟩
  refine ⟨_,rfl,p,dx,_,rfl,hp,YF _ _ _ _,_,rfl,p,la,b,ls,ws,L,t,rfl,TA,G,hL,ht,fun lay L' H' hLL TA' m' hm hlay=>?_⟩
  obtain ⟨dx',sa',srs',h1',h2',h3',h4'⟩:=TA'.ob
  refine ⟨_,rfl,p,C,dx',_,_,rfl,yc _ _ _ _ h1',zG.cl,zG.n_outset,vW _ _ _ _,lay,_,_,V.int ((wW ls b t : Nat) : Int),rfl,rfl,SqL.of (yc _ _ _ _ hlay),yQ ?_,kk L' H' hLL TA' m' hm⟩
  unfold yJ
  rw [List.map_append,List.getElem?_append_right (by rw [List.length_map,List.length_map]; exact Nat.le_refl _),List.length_map,List.length_map,Nat.sub_self]
  rfl
end
theorem LT.off {T la : Addr} {H H' : Hp} {xs : List V} (h : LT T H) (hla : H la = some (.lst xs)) (m : Same (aw [la] H) (aw [la] H')) : LT T H':=by
 have go : ∀ c o,c ≠ la->H c = some o->H' c = some o:=fun c o hc e=>by
  have hc' : c ∉ [la]:=by simpa using hc
  have:=m c o (by rw [zP hc']; exact e)
  rwa [zP hc'] at this
 have n0 : T ≠ la:=Ne.symm (h.lst hla)
 rcases h with h | ⟨c,h1,h2⟩
 ·exact .inl (go _ _ n0 h)
 ·refine .inr ⟨c,go _ _ n0 h1,go _ _ (fun z=>?_) h2⟩
  rw [z,hla] at h2
  cases h2
theorem QS {α : Type} {f : α->V} (h : ∀ a,f a = V.int 1) : ∀ l : List α,(List.replicate l.length [V.int 1]).flatten = l.map f
 | []=>rfl
 | a :: l=>by rw [List.length_cons,List.replicate_succ,List.flatten_cons,QS h l,List.map_cons,h a]; rfl
section
variable {P : Program} {w : World} {K : PySem.W.Frag} {mg : Str->Option Value} {base : Heap} {T0 C : Addr}
def Yz (T0 C : Addr) : Sp:=fun vs H Q _=>∃ (p dx r : Addr) (b : Nat) (bl : Addr) (zs : List (Addr × List Int)),vs = [.ref p,.ref r]∧H p = some (.ins C dx [])∧RuleAt H r b bl zs∧zW b (zs.map (·.2))∧LT T0 H ∧
 ∀ (la : Addr) (ws : List (List Int)) (H' : Hp),TailsAt C H' p la b (zs.map (·.2)) ws 1->GoodT b (zs.map (·.2)) ws->(∀ c o,c ≠ p->c ≠ T0->H c = some o->H' c = some o)->LT T0 H'->H la = none->Q .non H'
theorem jC : zE ["self","rule","stands"] ["self","rule"] (zu tL):=⟨rfl,rfl,rfl,by decide +kernel,rfl,by decide +kernel,by decide +kernel⟩
theorem zcV {f f1 f2 f3 : Addr} {fd fd1 fd2 fd3 : FuncData} (D : Mt K C "Tails.__init__" "__init__" tL ["self","rule"] f fd) (ZK : Df K mg "stands_of" yo ["bad"] f1 fd1) (Xw : FnOk P w K mg base CX0 6 f1 fd1 ["bad"] (ZM T0)) (Zq : Df K mg "all_steps" qe ["rule","stands"] f2 fd2) (Xd : FnOk P w K mg base CX0 6 f2 fd2 ["rule","stands"] Zz)
  (xH : Df K mg "lacks_all" wX ["bad","figures"] f3 fd3) (ww : FnOk P w K mg base CX0 2 f3 fd3 ["bad","figures"] uv) (zG : ClT K mg C) (T : Blt mg) : FnOk P w K mg base CX0 7 f fd ["self","rule"] (Yz T0 C):=by
 refine D.fn.ok jC (fun vs H Q E h=>?_) (fun cdv A outer s H vs Q E hr h=>?_)
 ·obtain ⟨p,dx,r,b,bl,zs,rfl,_⟩:=h; rfl
 ·obtain ⟨p,dx,r,b,bl,zs,rfl,hp,R,g,hT,kk⟩:=h
  have h4 : zs.length≤4:=by have:=g.len; rwa [List.length_map] at this
  have gz : ∀ z ∈ zs,z.2 ≠ []∧z.2.length≤4:=fun z hz=>⟨(g.st _ (List.mem_map.mpr ⟨z,hz,rfl⟩)).ne,(g.st _ (List.mem_map.mpr ⟨z,hz,rfl⟩)).len⟩
  have npT : p ≠ T0:=fun z=>by
   rw [z] at hp
   rcases hT with h | ⟨c,h,_⟩
   ·rw [h] at hp; cases hp
   ·rw [h] at hp; cases hp
  refine ⟨_,(zm (zF (i:=2) jC.nd rfl (Or.inl rfl) (zO ZK Xw (hr.mono (by decide)) (zc (zQ (wH K) (pv 1) zp (fun _ _=>rfl)) zg)))
   (zm (Y9 (pv 0) (zQ (wH K) (pv 1) zp (fun _ _=>rfl)) rfl)
   (zm (Y9 (pv 0) (zB (vV K) (by rfl) T.n_len PySem.boot_len (zc (pv 2) zg)) rfl)
   (zm (Y9 (pv 0) (zO Zq Xd (hr.mono (by decide)) (zc (pv 1) (zc (pv 2) zg))) rfl)
   (zx (Y9 (pv 0) (zU (zc (zM Xa (zM zcz (zU (zc zp zg)) (zB (vV K) (by rfl) T.n_len PySem.boot_len (zc (pv 2) zg))) (zU (zc (zcW (uZ (zO xH ww (hr.mono (by decide)) (zc (zQ (wH K) (pv 1) zp (fun _ _=>rfl)) (zc (zU (zc zp zg)) zg)))) zp zp) zg))) zg)) rfl)))))),?_⟩
  refine ⟨_,rfl,r,_,_,V.ref bl,rfl,rfl,SqT.of R.tu,rfl,bl,zs,rfl,R.li,R.st,h4,gz,hT,fun Dd ws H1 hDn hD hws SL h13 mL hT1=>?_⟩
  have R1 : RuleAt H1 r b bl zs:=⟨mL _ _ (hT.tup R.tu) R.tu,mL _ _ (hT.lst R.li) R.li,fun z hz=>mL _ _ (hT.lst (R.st z hz)) (R.st z hz)⟩
  have hp1:=mL _ _ npT hp
  have rp : r ≠ p:=jd R1.tu hp1 (fun z=>nomatch z)
  have lp : ∀ {c : Addr} {xs : List V},H1 c = some (.lst xs)->c ≠ p:=fun h=>jd h hp1 (fun z=>nomatch z)
  refine ⟨_,rfl,r,_,_,V.int b,rfl,rfl,SqT.of R1.tu,rfl,_,rfl,p,C,dx,_,rfl,hp1,zG.cl,zG.n_base,(by show 0 < 1000; decide),?_⟩
  refine ⟨_,rfl,Dd,_,rfl,.inl (SqL.of (by rw [zq (lp hD)]; exact hD)),_,rfl,p,C,dx,_,rfl,zf,zG.cl,zG.n_outset,(by show 1 < 1000; decide),?_⟩
  rw [zdH,List.length_map]
  generalize hH3 : upd H1 p (.ins C dx (yh "outset" (.int (ws.length : Nat)) (yh "base" (.int b) []))) = H3
  have m3 : ∀ c o,c ≠ p->H1 c = some o->H3 c = some o:=fun c o hc e=>by rw [← hH3,zq hc]; exact e
  have hp3 : H3 p = some (.ins C dx (yh "outset" (.int (ws.length : Nat)) (yh "base" (.int b) []))):=by rw [← hH3,zf]
  have R3 : RuleAt H3 r b bl zs:=⟨m3 _ _ rp R1.tu,m3 _ _ (lp R1.li) R1.li,fun z hz=>m3 _ _ (lp (R1.st z hz)) (R1.st z hz)⟩
  refine ⟨_,rfl,_,rfl,r,b,bl,zs,Dd,ws,rfl,R3,g,m3 _ _ (lp hD) hD,fun z hz=>m3 _ _ (lp (hws z hz).2.1) (hws z hz).2.1,SL,h13,fun sa srs H4 hsa m4 hsal hsrs hsr2=>?_⟩
  have hp4:=m4 _ _ hp3
  have len2 : (yh "outset" (.int (ws.length : Nat)) (yh "base" (.int b) [])).length≤2:=Nat.le_trans (t7 _ _ _) (Nat.succ_le_succ (t7 _ _ _))
  refine ⟨_,rfl,p,C,dx,_,rfl,hp4,zG.cl,zG.n_steps,by omega,?_⟩
  generalize hH5 : upd H4 p (.ins C dx (yh "steps" (.ref sa) (yh "outset" (.int (ws.length : Nat)) (yh "base" (.int b) [])))) = H5
  have m5 : ∀ c o,c ≠ p->H4 c = some o->H5 c = some o:=fun c o hc e=>by rw [← hH5,zq hc]; exact e
  have hp5 : H5 p = some (.ins C dx (yh "steps" (.ref sa) (yh "outset" (.int (ws.length : Nat)) (yh "base" (.int b) [])))):=by rw [← hH5,zf]
  have lp4 : ∀ {c : Addr} {xs : List V},H4 c = some (.lst xs)->c ≠ p:=fun h=>jd h hp4 (fun z=>nomatch z)
  have R4:=R3.same m4
  have R5 : RuleAt H5 r b bl zs:=⟨m5 _ _ (jd R4.tu hp4 (fun z=>nomatch z)) R4.tu,m5 _ _ (lp4 R4.li) R4.li,fun z hz=>m5 _ _ (lp4 (R4.st z hz)) (R4.st z hz)⟩
  have hD5 : H5 Dd = some (.lst (ws.map fun z=>V.ref z.1)):=m5 _ _ (lp4 (m4 _ _ (m3 _ _ (lp hD) hD))) (m4 _ _ (m3 _ _ (lp hD) hD))
  refine ⟨(by show 1≤sizeLine; decide),fun q1 n1=>?_⟩
  refine ⟨_,rfl,Dd,_,rfl,.inl (SqL.of (zj n1 _ _ hD5)),?_⟩
  rw [List.length_map]
  refine ⟨q1,_,_,rfl,rfl,zf,by omega,by omega,?_,fun q2 n2=>?_⟩
  ·show 1 * (ws.length : Int).toNat≤sizeLine
   exact Nat.le_trans (show 1 * (ws.length : Int).toNat≤13 by omega) (by decide)
  have s1:=zj n1 (o:=.lst [V.int 1])
  have s2:=s1.trans (zj n2 (o:=.lst (List.replicate (ws.length : Int).toNat [V.int 1]).flatten))
  have R6:=R5.same s2
  refine ⟨_,rfl,r,_,_,V.ref bl,rfl,rfl,SqT.of R6.tu,rfl,(by show 1≤sizeLine; decide),fun q3 n3=>?_⟩
  have s3:=s2.trans (zj n3 (o:=.lst [V.int 0]))
  have R7:=R5.same s3
  refine ⟨bl,q3,zs,[0],rfl,R7.li,R7.st,zf,by omega,by decide,fun z hz=>⟨(gz z hz).1,Nat.le_trans (gz z hz).2 (by decide)⟩,fun H8 s8=>⟨_,rfl,?_⟩⟩
  have s38:=s3.trans s8
  have fin : ∀ x : Int,x = ((wW (zs.map (·.2)) b 0 : Nat) : Int)->∀ q4,H8 q4 = none->q2 ≠ q4->∀ q5,upd H8 q4 (.lst [V.int x]) q5 = none->∀ q6,upd (upd H8 q4 (.lst [V.int x])) q5 (.lst ((List.replicate (ws.length : Int).toNat [V.int 1]).flatten ++ [V.int x])) q6 = none ->
    Q .non (upd (upd (upd (upd H8 q4 (.lst [V.int x])) q5 (.lst ((List.replicate (ws.length : Int).toNat [V.int 1]).flatten ++ [V.int x]))) q6 (.lst [V.ref q5])) p (.ins C dx (yh "layers" (.ref q6) (yh "steps" (.ref sa) (yh "outset" (.int (ws.length : Nat)) (yh "base" (.int b) [])))))):=by
   intro x hx q4 n4 _ q5 n5 q6 n6
   have t4:=zj n4 (o:=.lst [V.int x])
   have t5:=zj n5 (o:=.lst ((List.replicate (ws.length : Int).toNat [V.int 1]).flatten ++ [V.int x]))
   have t6:=zj n6 (o:=.lst [V.ref q5])
   have t46:=t4.trans (t5.trans t6)
   have s56:=s38.trans t46
   have hp9:=s56 _ _ hp5
   have f5 : ∀ c,H5 c = none->H c = none:=fun c hc=>by
    have h5 : H4 c = none:=by
     rw [← hH5] at hc
     by_cases z : c = p
     ·subst z; rw [zf] at hc; cases hc
     ·rwa [zq z] at hc
    have h3' : H3 c = none:=m4.free h5
    have h1' : H1 c = none:=by
     rw [← hH3] at h3'
     by_cases z : c = p
     ·subst z; rw [zf] at h3'; cases h3'
     ·rwa [zq z] at h3'
    cases e : H c with
    | none=>rfl
    | some o =>
     by_cases z : c = T0
     ·subst z
      exact absurd h1' (by
       rcases hT1 with h | ⟨d,h,_⟩
       ·rw [h]; simp
       ·rw [h]; simp)
     ·rw [mL c o z e] at h1'; cases h1'
   have q6H5 : H5 q6 = none:=(s38.trans (t4.trans t5)).free n6
   have q6p : q6 ≠ p:=fun z=>by rw [z,hp5] at q6H5; cases q6H5
   have np5 : q5 ≠ q6:=fun z=>by rw [← z,zf] at n6; cases n6
   generalize hH9 : upd (upd (upd H8 q4 (.lst [V.int x])) q5 (.lst ((List.replicate (ws.length : Int).toNat [V.int 1]).flatten ++ [V.int x]))) q6 (.lst [V.ref q5]) = H9 at t6 t46 s56 hp9
   have hq6 : H9 q6 = some (.lst [V.ref q5]):=by rw [← hH9,zf]
   have hq5 : H9 q5 = some (.lst ((List.replicate (ws.length : Int).toNat [V.int 1]).flatten ++ [V.int x])):=by rw [← hH9,zq np5,zf]
   have q5p : q5 ≠ p:=jd hq5 hp9 (fun z=>nomatch z)
   have off : ∀ c o,c ≠ p->H5 c = some o->aw [q6] (upd H9 p (.ins C dx (Xl b ws.length sa q6))) c = some o:=fun c o hc e=>by
    have hcq : c ≠ q6:=zy e q6H5
    rw [zP (by simpa using hcq),zq hc]
    exact s56 c o e
   have sa4 : H4 sa = some (.lst (srs.map fun z=>V.ref z.1)):=hsal
   have l1 : ∀ {c : Addr} {xs : List V},H4 c = some (.lst xs)->H5 c = some (.lst xs)∧c ≠ p:=fun h=>⟨m5 _ _ (lp4 h) h,lp4 h⟩
   refine kk q6 (ws.map (·.2)) _ ⟨⟨dx,sa,srs,?_,off _ _ (l1 hsal).2 (l1 hsal).1,fun z hz=>off _ _ (l1 (hsrs z hz).2).2 (l1 (hsrs z hz).2).1,hsr2⟩,⟨[(q5,yJ (zs.map (·.2)) (ws.map (·.2)) b 0)],by rw [zq q6p]; exact hq6,fun z hz=>?_,rfl⟩,Nat.le_refl _⟩ ⟨g,SL,by rw [List.length_map]; exact h13⟩ (fun c o hc hcT e=>?_) ?_ (f5 _ q6H5)
   ·rw [zP (by simpa using Ne.symm q6p),List.length_map]
    exact zf
   ·have e : z = (q5,yJ (zs.map (·.2)) (ws.map (·.2)) b 0):=by simpa using hz
    subst e
    rw [zP (by simpa using np5),zq q5p,hq5]
    congr 2
    unfold yJ
    rw [List.map_append,hx,Int.toNat_natCast,List.map_map,List.map_map]
    rw [QS (fun _=>rfl) ws]
    rfl
   ·rw [zq hc]
    have h1:=mL c o hcT e
    exact s56 c o (m5 c o hc (m4 c o (m3 c o hc h1)))
   ·have a1 : LT T0 H3:=by
     rcases hT1 with h | ⟨d,h1,h2⟩
     ·exact .inl (m3 _ _ (Ne.symm npT) h)
     ·exact .inr ⟨d,m3 _ _ (Ne.symm npT) h1,m3 _ _ (jd h2 hp1 (fun z=>nomatch z)) h2⟩
    have a2:=a1.same m4
    have a3 : LT T0 H5:=by
     rcases a2 with h | ⟨d,h1,h2⟩
     ·exact .inl (m5 _ _ (Ne.symm npT) h)
     ·exact .inr ⟨d,m5 _ _ (Ne.symm npT) h1,m5 _ _ (jd h2 hp4 (fun z=>nomatch z)) h2⟩
    have a4:=a3.same s56
    rcases a4 with h | ⟨d,h1,h2⟩
    ·exact .inl (by rw [zq (Ne.symm npT)]; exact h)
    ·exact .inr ⟨d,by rw [zq (Ne.symm npT)]; exact h1,by rw [zq (jd h2 hp9 (fun z=>nomatch z))]; exact h2⟩
  have hq2 : H8 q2 = some (.lst (List.replicate (ws.length : Int).toNat [V.int 1]).flatten):=s8 _ _ (zj n3 _ _ zf)
  have lenr : (List.replicate (ws.length : Int).toNat [V.int 1]).flatten.length≤13:=by rw [Int.toNat_natCast,QS (f:=fun _=>V.int 1) (fun _=>rfl) ws,List.length_map]; exact h13
  have len3 : (yh "steps" (.ref sa) (yh "outset" (.int (ws.length : Nat)) (yh "base" (.int b) []))).length≤3:=Nat.le_trans (t7 _ _ _) (Nat.succ_le_succ len2)
  have tail : ∀ x : Int,x = ((wW (zs.map (·.2)) b 0 : Nat) : Int)->∀ q4,H8 q4 = none->∃ l b' xs zs',V.ref q2 = V.ref l∧V.ref q4 = V.ref b'∧upd H8 q4 (.lst [V.int x]) l = some (.lst xs)∧upd H8 q4 (.lst [V.int x]) b' = some (.lst zs')∧xs.length + zs'.length≤sizeLine∧∀ q5,upd H8 q4 (.lst [V.int x]) q5 = none ->
    1≤sizeLine∧∀ q6,upd (upd H8 q4 (.lst [V.int x])) q5 (.lst (xs ++ zs')) q6 = none->∃ v,some (some (V.ref p)) = some (some v)∧∃ a C' dx' fs,v = .ref a∧upd (upd (upd H8 q4 (.lst [V.int x])) q5 (.lst (xs ++ zs'))) q6 (.lst [V.ref q5]) a = some (.ins C' dx' fs)∧Cls K C'∧NoAttr K C' "layers"∧fs.length < 1000∧Q .non (upd (upd (upd (upd H8 q4 (.lst [V.int x])) q5 (.lst (xs ++ zs'))) q6 (.lst [V.ref q5])) a (.ins C' dx' (yh "layers" (.ref q6) fs))):=by
   intro x hx q4 n4
   have nq : q2 ≠ q4:=zy hq2 n4
   refine ⟨q2,q4,_,_,rfl,rfl,by rw [zq nq]; exact hq2,zf,Nat.le_trans (Nat.add_le_add lenr (Nat.le_refl 1)) (by decide),fun q5 n5=>⟨(by decide),fun q6 n6=>?_⟩⟩
   have hp8:=s38 _ _ hp5
   exact ⟨_,rfl,p,C,dx,_,rfl,(zj n4).trans ((zj n5).trans (zj n6)) _ _ hp8,zG.cl,zG.n_layers,by omega,fin x hx q4 n4 nq q5 n5 q6 n6⟩
  cases hlk : lacks (zs.map (·.2)) [0] with
  | true =>
   refine wF ?_
   refine ⟨(by show 1≤sizeLine; decide),fun q4 n4=>?_⟩
   exact tail 1 (by unfold wW; rw [hlk]; rfl) q4 n4
  | false =>
   refine xW ?_
   refine ⟨(by show 1≤sizeLine; decide),fun q4 n4=>?_⟩
   exact tail 0 (by unfold wW; rw [hlk]; rfl) q4 n4
end
theorem za8 {H : Hp} {x dx : Addr} {C : Addr} (nx : H x = none) (ndx : H dx = none) : Same H (upd (upd H dx (.own x)) x (.ins C dx [])):=fun b o e=>by
 rw [zq (zy e nx),zq (zy e ndx)]
 exact e
theorem RuleAt.sameL {T0 r bl : Addr} {H H' : Hp} {b : Nat} {zs : List (Addr × List Int)} (R : RuleAt H r b bl zs) (hT : LT T0 H) (m : SameL T0 H H') : RuleAt H' r b bl zs :=
 ⟨m _ _ (hT.tup R.tu) R.tu,m _ _ (hT.lst R.li) R.li,fun z hz=>m _ _ (hT.lst (R.st z hz)) (R.st z hz)⟩
theorem zbz {T0 la : Addr} {H H1 H2 : Hp} (m : SameL T0 H H1) (hla : H la = none) (a : Same (aw [la] H1) (aw [la] H2)) : SameL T0 H H2:=fun c o hc e=>by
 have hcl : c ∉ [la]:=by simpa using zy e hla
 have:=a c o (by rw [zP hcl]; exact m c o hc e)
 rwa [zP hcl] at this
theorem TailsAt.la {C p la b : Nat} {H : Hp} {ls ws : List (List Int)} {L : Nat} (TA : TailsAt C H p la b ls ws L) : ∃ xs,H la = some (.lst xs):=let ⟨_,h,_⟩:=TA.ly; ⟨_,h⟩
section
variable {C : Addr}
theorem TailsAt.obj {H : Hp} {p la b : Nat} {ls ws : List (List Int)} {L : Nat} (TA : TailsAt C H p la b ls ws L) : ∃ dx sa,H p = some (.ins C dx (Xl b ws.length sa la)):=by
 obtain ⟨dx,sa,srs,h1,_⟩:=TA.ob
 exact ⟨dx,sa,yc _ _ _ _ h1⟩
end
section
variable {P : Program} {w : World} {K : PySem.W.Frag} {mg : Str->Option Value} {base : Heap} {T0 C : Addr}
def zeO (T0 C : Addr) (b : Nat) (ls : List (List Int)) (H : Hp) (x : Addr) (H' : Hp) : Prop:=∃ (la : Addr) (ws : List (List Int)),TailsAt C H' x la b ls ws 1∧GoodT b ls ws∧SameL T0 H H'∧LT T0 H'∧H la = none
theorem zbd {r : Addr} {b : Nat} {bl : Addr} {zs : List (Addr × List Int)} {H : Hp} (R : RuleAt H r b bl zs) (g : zW b (zs.map (·.2))) (hT : LT T0 H) {R' : Addr->Hp->Prop} (k : ∀ x H',zeO T0 C b (zs.map (·.2)) H x H'->R' x H') :
  ∀ x dx,H x = none->H dx = none->dx ≠ x->Yz T0 C (.ref x :: ([.ref r] ++ [])) (upd (upd H dx (.own x)) x (.ins C dx [])) (fun v H2=>v = .non∧R' x H2) E0:=by
 intro x dx nx ndx nex
 have s0:=za8 (C:=C) nx ndx
 refine ⟨x,dx,r,b,bl,zs,rfl,zf,R.same s0,g,hT.same s0,fun la ws H' TA G fr hT' hla=>⟨rfl,k x H' ⟨la,ws,TA,G,fun c o hc e=>fr c o (zy e nx) hc (s0 c o e),hT',s0.free hla⟩⟩⟩
def zc8 (T0 : Addr) (pre : List (List Int)->Nat->Nat->Prop) (R : List (List Int)->Nat->Nat->V->Prop) : Sp:=fun vs H Q _=>∃ (r : Addr) (b : Nat) (bl : Addr) (zs : List (Addr × List Int)) (n : Nat),vs = [.ref r,.int n]∧RuleAt H r b bl zs∧zW b (zs.map (·.2))∧pre (zs.map (·.2)) b n∧LT T0 H∧∀ v H',R (zs.map (·.2)) b n v->SameL T0 H H'->LT T0 H'->Q v H'
end
section
variable {P : Program} {w : World} {K : PySem.W.Frag} {mg : Str->Option Value} {base : Heap} {T0 C : Addr}
def vL : Sp:=fun vs H Q _=>∃ m : Nat,vs = [.int m]∧1≤m∧m≤60∧Q .non H
theorem Vi : zE ["thing"] ["thing"] (zu wZ):=⟨rfl,rfl,rfl,by decide +kernel,rfl,by decide +kernel,by decide +kernel⟩
theorem Vg {f f1 : Addr} {fd fd1 : FuncData} {t1 : Tok} (D : Df K mg "check_length" wZ ["thing"] f fd) (ZS : Df K mg "is_number" jq ["thing"] f1 fd1) (Xf : FnOk P w K mg base CX0 2 f1 fd1 ["thing"] ZL) (jb : mg "MOST_FIGURES" = some (.int 60 t1)) : FnOk P w K mg base CX0 3 f fd ["thing"] vL:=by
 refine D.fn.ok Vi (fun vs H Q E h=>?_) (fun cdv A outer s H vs Q E hr h=>?_)
 ·obtain ⟨m,rfl,_⟩:=h; rfl
 ·obtain ⟨m,rfl,h1,h2,kk⟩:=h
  refine ⟨_,(zx (xQ (PW.pt (za6 (jW (uZ (zO ZS Xf (hr.mono (by decide)) (zc (pv 0) zg)))) (Jh (jW (zcD YZ YZ zp (pv 0) (XX (v:=.int 60) rfl jb ⟨_,rfl⟩))))))
    (zx J8)
    yj)),?_⟩
  refine ⟨_,rfl,(m : Int),rfl,_,rfl,?_⟩
  rw [decide_eq_true (show (0 : Int)≤m by omega)]
  refine xW ?_
  refine ⟨_,rfl,_,_,rfl,rfl,_,rfl,?_⟩
  rw [decide_eq_true (show (1 : Int)≤m by omega)]
  refine wF ?_
  refine ⟨_,_,rfl,rfl,_,rfl,?_⟩
  rw [decide_eq_true (show (m : Int)≤60 by omega)]
  exact xW kk
def low (ls : List (List Int)) (b m : Nat) : Nat:=if m = 1 then 0 else many (gd ls b) (b ^ (m - 1))
def uM (C : Addr) : Sp:=fun vs H Q _=>∃ (p la : Addr) (b : Nat) (ls ws : List (List Int)) (L m : Nat),vs = [.ref p,.int m]∧TailsAt C H p la b ls ws L∧GoodT b ls ws∧L≤1000∧1≤m∧m≤60∧TQ C H p la b ls ws L fun L' H'=>L'≤1000->Q (.int (low ls b m : Nat)) H'
theorem W2 : zE ["tails","m"] ["tails","m"] (zu vJ):=⟨rfl,rfl,rfl,by decide +kernel,rfl,by decide +kernel,by decide +kernel⟩
theorem Wy {f f1 : Addr} {fd fd1 : FuncData} (D : Df K mg "count_shorter" vJ ["tails","m"] f fd) (zT : Mt K C "Tails.many_within" "many_within" yx ["self","size"] f1 fd1) (zZ : FnOk P w K mg base CX0 3 f1 fd1 ["self","size"] (wN C)) (zG : ClT K mg C) : FnOk P w K mg base CX0 4 f fd ["tails","m"] (uM C):=by
 refine D.fn.ok W2 (fun vs H Q E h=>?_) (fun cdv A outer s H vs Q E hr h=>?_)
 ·obtain ⟨p,la,b,ls,ws,L,m,rfl,_⟩:=h; rfl
 ·obtain ⟨p,la,b,ls,ws,L,m,rfl,TA,G,hL,h1,h2,kk⟩:=h
  obtain ⟨dx,sa,hp⟩:=TA.obj
  refine ⟨_,(zm (xQ (yd YQ (pv 1) zp (ye _))
    (zx (zL zp))
    yj)
   (zx (zL (Yb zT zG.cl zZ (hr.mono (by decide)) (pv 0) (zc (zM qU (pv 1) zp) zg))))),?_⟩
  refine ⟨_,rfl,rfl,_,rfl,?_⟩
  refine Uu (fun hz=>?_) (fun hz=>?_)
  ·have e : m = 1:=by
    have z:=of_decide_eq_true hz
    injection z with z
    omega
   have q:=kk L H (Nat.le_refl _) TA (Same.refl _) hL
   unfold low at q
   rw [if_pos e] at q
   exact q
  ·have e : ¬ m = 1:=fun z=>hz (decide_eq_true (by rw [z]; rfl))
   refine ⟨_,rfl,p,dx,_,rfl,hp,YF _ _ _ _,_,rfl,_,_,rfl,rfl,p,la,b,ls,ws,L,m - 1,?_,TA,G,hL,by omega,fun L2 H2 hL2 TA2 m2 hmx=>?_⟩
   ·show [V.ref p,V.int ((m : Int) - 1)] = _
    rw [show ((m : Int) - 1) = ((m - 1 : Nat) : Int) by omega]
   ·have q:=kk L2 H2 hL2 TA2 m2 (by omega)
    unfold low at q
    rw [if_neg e,← w6 G.ne G.g.b2] at q
    exact q
abbrev zc7 : List (List Int)->Nat->Nat->Prop:=fun _ _ m=>1≤m∧m≤60
abbrev tR (T0 : Addr) : Sp:=zc8 T0 zc7 (fun ls b m v=>v = .int ((many (gd ls b) (b ^ m) : Nat) - (low ls b m : Nat)))
theorem Y4 : zE ["rule","m","tails"] ["rule","m"] (zu uG):=⟨rfl,rfl,rfl,by decide +kernel,rfl,by decide +kernel,by decide +kernel⟩
theorem U8 {f f1 f2 f3 f4 f5 : Addr} {fd fd1 fd2 fd3 fd4 fd5 : FuncData} (D : Df K mg "count_long" uG ["rule","m"] f fd) (wV : Df K mg "check_rule" ux ["thing"] f1 fd1) (vY : FnOk P w K mg base CX0 7 f1 fd1 ["thing"] tU) (xF : Df K mg "check_length" wZ ["thing"] f2 fd2) (wB : FnOk P w K mg base CX0 3 f2 fd2 ["thing"] vL)
  (WP : Mk K C f3) (Wt : Binds K fd3 ["self","rule"] []) (vX : FnOk P w K mg base CX0 7 f3 fd3 ["self","rule"] (Yz T0 C)) (zT : Mt K C "Tails.many_within" "many_within" yx ["self","size"] f4 fd4) (zZ : FnOk P w K mg base CX0 3 f4 fd4 ["self","size"] (wN C)) (uz : Df K mg "count_shorter" vJ ["tails","m"] f5 fd5) (jg : FnOk P w K mg base CX0 4 f5 fd5 ["tails","m"] (uM C)) (zG : ClT K mg C) : FnOk P w K mg base CX0 9 f fd ["rule","m"] (tR T0):=by
 refine D.fn.ok Y4 (fun vs H Q E h=>?_) (fun cdv A outer s H vs Q E hr h=>?_)
 ·obtain ⟨r,b,bl,zs,n,rfl,_⟩:=h; rfl
 ·obtain ⟨r,b,bl,zs,m,rfl,R,g,⟨hm1,hm2⟩,hT,kk⟩:=h
  refine ⟨_,(zm (xP (zO wV vY (hr.mono (by decide)) (zc (pv 0) zg)))
   (zm (xP (zO xF wB (hr.mono (by decide)) (zc (pv 1) zg)))
   (zm (zF (i:=2) Y4.nd rfl (Or.inl rfl) (Jx WP vX (hr.mono (by decide)) rfl zG.nm Wt .nil zap (zc (pv 0) zg)))
   (zx (zL (zM qU (Yb zT zG.cl zZ (hr.mono (by decide)) (pv 2) (zc (pv 1) zg)) (zO uz jg (hr.mono (by decide)) (zc (pv 2) (zc (pv 1) zg))))))))),?_⟩
  refine ⟨_,rfl,r,b,bl,zs,rfl,R,g,fun H1 m1=>?_⟩
  refine ⟨_,rfl,m,rfl,hm1,hm2,?_⟩
  refine ⟨_,rfl,?_⟩
  refine zbd (R.same m1) g (hT.same m1) ?_
  rintro x H3 ⟨la,ws,TA,G,mL,hT3,hla⟩
  obtain ⟨xs,hla3⟩:=TA.la
  obtain ⟨dx3,sa3,hp3⟩:=TA.obj
  refine ⟨_,rfl,x,dx3,_,rfl,hp3,YF _ _ _ _,_,rfl,x,la,b,_,ws,1,m,rfl,TA,G,by decide,by omega,fun L4 H4 hL4 TA4 m4 hmx=>?_⟩
  refine ⟨_,rfl,_,rfl,x,la,b,_,ws,L4,m,rfl,TA4,G,by omega,hm1,hm2,fun L5 H5 hL5 TA5 m5 hL5'=>⟨_,_,rfl,rfl,?_⟩⟩
  have m45:=m4.trans m5
  refine kk _ H5 ?_ (zbz ((SameL.of m1).trans mL) (m1.free hla) m45) (hT3.off hla3 m45)
  rw [w6 G.ne g.b2]
end
structure ClS (K : PySem.W.Frag) (mg : Str->Option Value) (C : Addr) : Prop where
 cl : Cls K C
 nm : mg "Totals" = some (.ref C)
 n_tails : NoAttr K C "tails"
 n_weights : NoAttr K C "weights"
 n_layers : NoAttr K C "layers"
def Yi (tl wa l2 : Addr) : List (Str × V):=yh "layers" (.ref l2) (yh "weights" (.ref wa) (yh "tails" (.ref tl) []))
theorem uV (tl wa l2 : Addr) : (Yi tl wa l2).lookup ("tails" : Str) = some (.ref tl):=by
 unfold Yi
 rw [zK,if_neg (by decide +kernel),zK,if_neg (by decide +kernel),zK,if_pos rfl]
theorem QW (tl wa l2 : Addr) : (Yi tl wa l2).lookup ("weights" : Str) = some (.ref wa):=by
 unfold Yi
 rw [zK,if_neg (by decide +kernel),zK,if_pos rfl]
theorem Yd (tl wa l2 : Addr) : (Yi tl wa l2).lookup ("layers" : Str) = some (.ref l2):=by
 unfold Yi
 rw [zK,if_pos rfl]
theorem Wj (tl wa l2 : Addr) {m : Str} (h1 : ¬ m = "layers":=by decide +kernel) (h2 : ¬ m = "weights":=by decide +kernel) (h3 : ¬ m = "tails":=by decide +kernel) : (Yi tl wa l2).lookup m = none:=by
 unfold Yi
 rw [zK,if_neg h1,zK,if_neg h2,zK,if_neg h3]
 rfl
def vA (b : Nat) (w : Nat->Nat) (sc k : Nat) : List Int:=(List.range b).map fun (c : Nat)=>((sc ^ k * w c : Nat) : Int)
def jU (ls ws : List (List Int)) (b : Nat) (w : Nat->Nat) (sc t : Nat) : List Int:=(ws.map fun x=>((tt ls b w sc t x : Nat) : Int)) ++ [((ttO ls b w sc t : Nat) : Int)]
def stepT (ls : List (List Int)) (b : Nat) (w : Nat->Nat) (sc t : Nat) : Option (List Int)->Nat->Nat
 | some x,c=>if lacks ls (x ++ [(c : Int)]) = true then sc ^ t * w c * cnt ls b t (zH ls (x ++ [(c : Int)])) + tt ls b w sc t (zH ls (x ++ [(c : Int)])) else 0
 | none,c=>if c = 0 then ttO ls b w sc t else if lacks ls [(c : Int)] = true then sc ^ t * w c * cnt ls b t (zH ls [(c : Int)]) + tt ls b w sc t (zH ls [(c : Int)]) else 0
def Zo (ls : List (List Int)) (b : Nat) (w : Nat->Nat) (sc t : Nat) (o : Option (List Int)) (s : Nat) : Nat:=((List.range s).map (stepT ls b w sc t o)).sum
theorem zaf (ls : List (List Int)) (b : Nat) (w : Nat->Nat) (sc t : Nat) (o : Option (List Int)) (s : Nat) : Zo ls b w sc t o (s + 1) = Zo ls b w sc t o s + stepT ls b w sc t o s:=by
 unfold Zo
 rw [List.range_succ,List.map_append,List.sum_append]
 simp
theorem zbE {ls ws : List (List Int)} {b sc t : Nat} {w : Nat->Nat} : ((List.range (ws.length + 1)).map fun i=>((Zo ls b w sc t ws[i]? b : Nat) : Int)) = jU ls ws b w sc (t + 1):=by
 unfold jU
 apply List.ext_getElem?
 intro i
 rw [List.getElem?_map]
 by_cases h : i < ws.length
 ·rw [List.getElem?_range (by omega),List.getElem?_append_left (by rw [List.length_map]; exact h),List.getElem?_map,Option.map_some,List.getElem?_eq_getElem h]
  rfl
 ·by_cases h2 : i = ws.length
  ·subst h2
   rw [List.getElem?_range (by omega),List.getElem?_append_right (by rw [List.length_map]; exact Nat.le_refl _),List.length_map,Nat.sub_self,Option.map_some,List.getElem?_eq_none (Nat.le_refl _)]
   rfl
  ·rw [List.getElem?_eq_none (by rw [List.length_range]; omega),List.getElem?_eq_none (by rw [List.length_append,List.length_map,List.length_singleton]; omega)]
   rfl
theorem JX {ls ws : List (List Int)} {b sc t : Nat} {w : Nat->Nat} (G : GoodT b ls ws) {i c : Nat} (hi : i≤ws.length) :
  (stepV ls ws ws[i]? c = .non∧stepT ls b w sc t ws[i]? c = 0∧j9 ls b t ws[i]? c = 0)∨∃ (j x y z : Nat),stepV ls ws ws[i]? c = .int j∧j≤ws.length∧(yJ ls ws b t)[j]? = some ((x : Nat) : Int)∧(jU ls ws b w sc t)[j]? = some ((y : Nat) : Int)∧z = (if j = ws.length then 0 else sc ^ t * w c)∧stepT ls b w sc t ws[i]? c = z * x + y∧j9 ls b t ws[i]? c = x:=by
 have at_ : ∀ fs : List Int,lacks ls fs = true->∃ j : Nat,plc ls ws fs = .int j∧j < ws.length∧(yJ ls ws b t)[j]? = some ((cnt ls b t (zH ls fs) : Nat) : Int)∧(jU ls ws b w sc t)[j]? = some ((tt ls b w sc t (zH ls fs) : Nat) : Int):=by
  intro fs h
  have hm : zH ls fs ∈ ws:=(G.s.mem _).mpr (Zr G.ne h)
  have hlt:=List.idxOf_lt_length_iff.mpr hm
  refine ⟨ws.idxOf (zH ls fs),by unfold plc; rw [if_pos h],hlt,?_,?_⟩
  ·unfold yJ
   rw [List.getElem?_append_left (by rw [List.length_map]; exact hlt),List.getElem?_map,List.getElem?_eq_getElem hlt,List.getElem_idxOf hlt]
   rfl
  ·unfold jU
   rw [List.getElem?_append_left (by rw [List.length_map]; exact hlt),List.getElem?_map,List.getElem?_eq_getElem hlt,List.getElem_idxOf hlt]
   rfl
 cases hw : ws[i]? with
 | some x =>
  by_cases h : lacks ls (x ++ [(c : Int)]) = true
  ·right
   obtain ⟨j,h1,h2,h3,h4⟩:=at_ _ h
   refine ⟨j,_,_,sc ^ t * w c,h1,Nat.le_of_lt h2,h3,h4,by rw [if_neg (by omega)],?_,by rw [Xy,if_pos h]⟩
   show (if lacks ls (x ++ [(c : Int)]) = true then _ else 0) = _
   rw [if_pos h]
  ·left
   refine ⟨by rw [zaZ]; unfold plc; rw [if_neg h],?_,by rw [Xy,if_neg h]⟩
   show (if lacks ls (x ++ [(c : Int)]) = true then _ else 0) = _
   rw [if_neg h]
 | none =>
  by_cases h0 : c = 0
  ·right
   refine ⟨ws.length,wW ls b t,ttO ls b w sc t,0,by rw [uT,if_pos h0],Nat.le_refl _,?_,?_,by rw [if_pos rfl],?_,by rw [uQ,if_pos h0]⟩
   ·unfold yJ
    rw [List.getElem?_append_right (by rw [List.length_map]; exact Nat.le_refl _),List.length_map,Nat.sub_self]
    rfl
   ·unfold jU
    rw [List.getElem?_append_right (by rw [List.length_map]; exact Nat.le_refl _),List.length_map,Nat.sub_self]
    rfl
   ·show (if c = 0 then _ else _) = _
    rw [if_pos h0]; omega
  ·by_cases h : lacks ls [(c : Int)] = true
   ·right
    obtain ⟨j,h1,h2,h3,h4⟩:=at_ _ h
    refine ⟨j,_,_,sc ^ t * w c,by rw [uT,if_neg h0]; exact h1,Nat.le_of_lt h2,h3,h4,by rw [if_neg (by omega)],?_,by rw [uQ,if_neg h0,if_pos h]⟩
    show (if c = 0 then _ else if lacks ls [(c : Int)] = true then _ else 0) = _
    rw [if_neg h0,if_pos h]
   ·left
    refine ⟨?_,?_,by rw [uQ,if_neg h0,if_neg h]⟩
    ·rw [uT,if_neg h0]; unfold plc; rw [if_neg h]
    ·show (if c = 0 then _ else if lacks ls [(c : Int)] = true then _ else 0) = _
     rw [if_neg h0,if_neg h]
structure RowsAt (H : Hp) (a : Addr) (rs : List (List Int)) : Prop where
 ex : ∃ zs : List (Addr × List Int),H a = some (.lst (zs.map fun z=>V.ref z.1))∧(∀ z ∈ zs,H z.1 = some (.lst (z.2.map V.int)))∧zs.map (·.2) = rs
theorem RowsAt.same {H H' : Hp} {a : Addr} {rs : List (List Int)} (R : RowsAt H a rs) (m : Same H H') : RowsAt H' a rs:=by
 obtain ⟨zs,h1,h2,h3⟩:=R.ex
 exact ⟨⟨zs,m _ _ h1,fun z hz=>m _ _ (h2 z hz),h3⟩⟩
theorem RowsAt.get {H : Hp} {a : Addr} {rs : List (List Int)} (R : RowsAt H a rs) {k : Nat} {r : List Int} (h : rs[k]? = some r) : ∃ (zs : List V) (q : Addr),H a = some (.lst zs)∧atI zs (k : Int) = some (V.ref q)∧H q = some (.lst (r.map V.int)):=by
 obtain ⟨zs,h1,h2,h3⟩:=R.ex
 rw [← h3,List.getElem?_map] at h
 obtain ⟨z,hz,e⟩:=Option.map_eq_some_iff.mp h
 subst e
 exact ⟨_,z.1,h1,yQ (by rw [List.getElem?_map,hz]; rfl),h2 z (List.mem_of_getElem? hz)⟩
section
variable {P : Program} {w : World} {K : PySem.W.Frag} {mg : Str->Option Value} {base : Heap} {T0 C CS : Addr}
def vQ : Sp:=fun vs H Q _=>∃ (wl : Addr) (b : Nat) (w : Nat->Nat) (sc sz : Nat),vs = [.ref wl,.int sc,.int sz]∧H wl = some (.lst ((vA b w sc 0).map V.int))∧b≤16∧sc≤16∧sz≤900∧∀ (q : Addr) (H' : Hp),H q = none->RowsAt H' q ((List.range sz).map (vA b w sc))->Same H H'->Q (.ref q) H'
theorem wu : zE ["weights","scale","size","told","left"] ["weights","scale","size"] (zu xj):=⟨rfl,rfl,rfl,by decide +kernel,rfl,by decide +kernel,by decide +kernel⟩
theorem Xz {f : Addr} {fd : FuncData} (D : Df K mg "weights_by_left" xj ["weights","scale","size"] f fd) (T : Blt mg) : FnOk P w K mg base CX0 1 f fd ["weights","scale","size"] vQ:=by
 refine D.fn.ok wu (fun vs H Q E h=>?_) (fun cdv A outer s H vs Q E hr h=>?_)
 ·obtain ⟨wl,b,w,sc,sz,rfl,_⟩:=h; rfl
 ·obtain ⟨wl,b,wt,sc,sz,rfl,hw,hb,hsc,hsz,kk⟩:=h
  refine ⟨_,(zm (zF (i:=3) wu.nd rfl (Or.inl rfl) (zU zg))
   (zm (xM PassesOwn.never rfl (zY rfl T.n_range (zc (pv 2) zg)) (zR (i:=4) wu.nd rfl (Or.inl rfl))
    (zm (xP (Z3 PySem.F.plainAttrs_list PySem.F.slot_list_append PySem.F.type_list_append vd (pv 3) (zc (pv 0) zg)))
    (zx (vU (i:=0) (show CScope (zu xj) _ "weight" ["weights","scale","size","told","left"] ["scale"] [1] from ⟨rfl,by decide +kernel,by decide +kernel,rfl,by decide +kernel,rfl,by decide +kernel,by decide +kernel⟩) rfl wu.nd rfl (Or.inl rfl) (Z6 K (pv 0)) (fun _ _ _ _=>yE) (fun _ _ _ _=>(zM uB (pv 1) (pv 0)))))))
   (zx (zL (pv 3))))),?_⟩
  refine ⟨(by decide : 0≤sizeLine),fun to hto=>?_⟩
  have m1:=zj hto (o:=.lst [])
  refine ⟨_,rfl,_,rfl,by omega,by omega,yD (lo:=0) (n:=(sz : Int).toNat) (fun i σ H2=>∃ (v4 : Option V) (wi : Addr) (zs : List (Addr × List Int)),σ = [some (.ref wi),some (.int sc),some (.int sz),some (.ref to),v4]∧wi ≠ to∧H2 wi = some (.lst ((vA b wt sc i).map V.int))∧H2 to = some (.lst (zs.map fun z=>V.ref z.1))∧(∀ z ∈ zs,z.1 ≠ to∧H2 z.1 = some (.lst (z.2.map V.int)))∧zs.map (·.2) = (List.range i).map (vA b wt sc)∧Same H H2)
   ⟨none,wl,[],rfl,zy hw hto,m1 _ _ hw,zf,by simp,rfl,m1⟩ ?_ ?_⟩
  ·rintro i σ H2 hi ⟨v4,wi,zs,rfl,nw,hwi,hto2,hzs,ezs,m2⟩
   have hzl : zs.length = i:=by have:=congrArg List.length ezs; rwa [List.length_map,List.length_map,List.length_range] at this
   refine ⟨_,rfl,.inl ⟨rfl,_,SqL.of hto2⟩,_,rfl,to,_,_,rfl,rfl,hto2,by rw [List.length_map,hzl]; exact Nat.lt_of_lt_of_le (show i < 1000 by omega) (by decide),?_⟩
   have m3 : Same H (upd H2 to (.lst (zs.map (fun z=>V.ref z.1) ++ [V.ref wi]))):=fun c o e=>by rw [zq (zy e hto)]; exact m2 c o e
   have hwi3 : upd H2 to (.lst (zs.map (fun z=>V.ref z.1) ++ [V.ref wi])) wi = some (.lst ((vA b wt sc i).map V.int)):=by rw [zq nw]; exact hwi
   have hz3 : ∀ z ∈ zs ++ [(wi,vA b wt sc i)],z.1 ≠ to∧upd H2 to (.lst (zs.map (fun z=>V.ref z.1) ++ [V.ref wi])) z.1 = some (.lst (z.2.map V.int)):=fun z hz=>by
    rcases List.mem_append.mp hz with hz | hz
    ·exact ⟨(hzs z hz).1,by rw [zq (hzs z hz).1]; exact (hzs z hz).2⟩
    ·have e : z = (wi,vA b wt sc i):=by simpa using hz
     subst e; exact ⟨nw,hwi3⟩
   have hto3 : upd H2 to (.lst (zs.map (fun z=>V.ref z.1) ++ [V.ref wi])) to = some (.lst ((zs ++ [(wi,vA b wt sc i)]).map fun z=>V.ref z.1)):=by rw [zf]; simp
   generalize upd H2 to (.lst (zs.map (fun z=>V.ref z.1) ++ [V.ref wi])) = H3 at m3 hwi3 hz3 hto3
   refine ⟨_,rfl,wi,rfl,⟨_,SqL.of hwi3⟩,wD (K:=K) (a:=wi) (xs:=(vA b wt sc i).map V.int) (fun k ys H4=>H4 = H3∧ys = ((vA b wt sc (i + 1)).take k).map V.int) ⟨rfl,rfl⟩ (fun k ys H4 _ ⟨e,_⟩=>by rw [e]; exact SqL.of hwi3) ?_ ?_⟩
   ·rintro k x ys H4 hx ⟨rfl,rfl⟩
    unfold vA at hx
    rw [List.getElem?_map,List.getElem?_map] at hx
    obtain ⟨y,hy,e⟩:=Option.map_eq_some_iff.mp hx
    obtain ⟨c,hc,e2⟩:=Option.map_eq_some_iff.mp hy
    subst e2; subst e
    have hk : k < b:=by have:=(List.getElem?_eq_some_iff.mp hc).1; rwa [List.length_range] at this
    have ec : c = k:=by rw [List.getElem?_range hk] at hc; exact (Option.some.inj hc).symm
    subst ec
    refine ⟨by rw [List.length_map]; exact Nat.lt_of_le_of_lt (Nat.le_trans (List.length_take_le' _ _) (by unfold vA; rw [List.length_map,List.length_range]; exact hb)) (by decide),?_⟩
    unfold jo
    dsimp only
    rw [if_pos rfl]
    refine ⟨_,rfl,_,rfl,_,_,rfl,rfl,.inl ⟨by omega,by omega⟩,rfl,?_⟩
    have e3 : (vA b wt sc (i + 1))[c]? = some ((sc : Int) * ((sc ^ i * wt c : Nat) : Int)):=by
     unfold vA
     rw [List.getElem?_map,List.getElem?_range hk,Option.map_some,Nat.pow_succ',Nat.mul_assoc,Int.natCast_mul]
    rw [List.take_succ,e3,List.map_append]
    rfl
   ·rintro ys H4 ⟨rfl,rfl⟩ q hq
    have m4:=zj hq (o:=.lst (((vA b wt sc (i + 1)).take ((vA b wt sc i).map V.int).length).map V.int))
    have nq : q ≠ to:=Ne.symm (zy hto3 hq)
    have etk : (vA b wt sc (i + 1)).take ((vA b wt sc i).map V.int).length = vA b wt sc (i + 1):=List.take_of_length_le (by unfold vA; simp)
    refine ⟨_,q,zs ++ [(wi,vA b wt sc i)],rfl,nq,by rw [zf,etk],m4 _ _ hto3,fun z hz=>⟨(hz3 z hz).1,m4 _ _ (hz3 z hz).2⟩,?_,m3.trans m4⟩
    rw [List.map_append,ezs,List.range_succ,List.map_append]
    rfl
  ·rintro σ H2 ⟨v4,wi,zs,rfl,nw,hwi,hto2,hzs,ezs,m2⟩
   exact ⟨_,rfl,kk to H2 hto ⟨⟨zs,hto2,fun z hz=>(hzs z hz).2,by rw [ezs,Int.toNat_natCast]⟩⟩ m2⟩
end
structure TotAt (C CS : Addr) (H : Hp) (p tl la wa l2 : Addr) (b : Nat) (ls ws : List (List Int)) (L : Nat) (wt : Nat->Nat) (sc sz M : Nat) : Prop where
 ob : ∃ dx,aw [la,l2] H p = some (.ins CS dx (Yi tl wa l2))
 ta : TailsAt C H tl la b ls ws L
 sa : ∃ dx sa,aw [la,l2] H tl = some (.ins C dx (Xl b ws.length sa la))∧sa ≠ l2
 wr : RowsAt (aw [la,l2] H) wa ((List.range sz).map (vA b wt sc))
 ly : ∃ zs : List (Addr × List Int),H l2 = some (.lst (zs.map fun z=>V.ref z.1))∧(∀ z ∈ zs,aw [la,l2] H z.1 = some (.lst (z.2.map V.int)))∧zs.map (·.2) = (List.range M).map (jU ls ws b wt sc)
 ne : la ≠ l2
theorem zek {la l2 : Addr} {H H' : Hp} (m : Same (aw [la] H) (aw [la] H')) : Same (aw [la,l2] H) (aw [la,l2] H'):=fun c o e=>by
 have hc : c ∉ [la,l2]:=fun hc=>by rw [q9 hc] at e; cases e
 have hc1 : c ∉ [la]:=fun z=>hc (by simp at z; simp [z])
 rw [zP hc] at e ⊢
 have:=m c o (by rw [zP hc1]; exact e)
 rwa [zP hc1] at this
section
variable {C CS : Addr} {H H' : Hp} {p tl la wa l2 : Addr} {b : Nat} {ls ws : List (List Int)} {L L' : Nat} {wt : Nat->Nat} {sc sz M : Nat}
theorem TotAt.more (A : TotAt C CS H p tl la wa l2 b ls ws L wt sc sz M) (TA : TailsAt C H' tl la b ls ws L') (m : Same (aw [la] H) (aw [la] H')) : TotAt C CS H' p tl la wa l2 b ls ws L' wt sc sz M:=by
 have m2:=zek (l2:=l2) m
 obtain ⟨dx,h1⟩:=A.ob
 obtain ⟨dx2,sa,h2,h3⟩:=A.sa
 obtain ⟨zs,g1,g2,g3⟩:=A.ly
 have hn : l2 ∉ [la]:=by simpa using Ne.symm A.ne
 exact ⟨⟨dx,m2 _ _ h1⟩,TA,⟨dx2,sa,m2 _ _ h2,h3⟩,A.wr.same m2,⟨zs,by
  have:=m l2 _ (by rw [zP hn]; exact g1)
  rwa [zP hn] at this,fun z hz=>m2 _ _ (g2 z hz),g3⟩,A.ne⟩
theorem TotAt.same (A : TotAt C CS H p tl la wa l2 b ls ws L wt sc sz M) (m : Same H H') : TotAt C CS H' p tl la wa l2 b ls ws L wt sc sz M:=A.more (A.ta.same m) (m.aw [la])
theorem TotAt.obj (A : TotAt C CS H p tl la wa l2 b ls ws L wt sc sz M) : ∃ dx,H p = some (.ins CS dx (Yi tl wa l2)):=let ⟨dx,h⟩:=A.ob; ⟨dx,yc _ _ _ _ h⟩
theorem TotAt.lay (A : TotAt C CS H p tl la wa l2 b ls ws L wt sc sz M) {t : Nat} (ht : t < M) : ∃ (zs : List V) (q : Addr),H l2 = some (.lst zs)∧atI zs (t : Int) = some (V.ref q)∧aw [la] H q = some (.lst ((jU ls ws b wt sc t).map V.int)):=by
 obtain ⟨zs,g1,g2,g3⟩:=A.ly
 have h : ((List.range M).map (jU ls ws b wt sc))[t]? = some (jU ls ws b wt sc t):=by rw [List.getElem?_map,List.getElem?_range ht]; rfl
 rw [← g3,List.getElem?_map] at h
 obtain ⟨z,hz,e⟩:=Option.map_eq_some_iff.mp h
 refine ⟨_,z.1,g1,yQ (by rw [List.getElem?_map,hz]; rfl),?_⟩
 have:=g2 z (List.mem_of_getElem? hz)
 rw [e] at this
 have hc : z.1 ∉ [la,l2]:=fun hc=>by rw [q9 hc] at this; cases this
 rw [zP hc] at this
 rw [zP (fun z=>hc (by simp at z; simp [z]))]
 exact this
end
theorem V9 (ls : List (List Int)) (b : Nat) : ∀ (t : Nat) (x : List Int),cnt ls b t x≤b ^ t
 | 0,_=>by simp [cnt]
 | t + 1,x=>by
  rw [cnt,Nat.pow_succ']
  have : ∀ (n : Nat),((List.range n).map fun (c : Nat)=>if lacks ls (x ++ [(c : Int)]) = true then cnt ls b t (zH ls (x ++ [(c : Int)])) else 0).sum≤n * b ^ t:=by
   intro n
   induction n with
   | zero=>simp
   | succ n ih =>
    rw [List.range_succ,List.map_append,List.sum_append,Nat.succ_mul]
    simp only [List.map_cons,List.map_nil,List.sum_cons,List.sum_nil,Nat.add_zero]
    have : (if lacks ls (x ++ [(n : Int)]) = true then cnt ls b t (zH ls (x ++ [(n : Int)])) else 0)≤b ^ t:=by
     split
     ·exact V9 ls b t _
     ·exact Nat.zero_le _
    omega
  exact this b
theorem za5 (p : Nat->Bool) : ∀ N : Nat,many p N≤N
 | 0=>Nat.le_refl _
 | N + 1=>by
  rw [many]
  have:=za5 p N
  split <;> omega
theorem zcR {ls : List (List Int)} (ne : ∀ l ∈ ls,l ≠ []) {b : Nat} (h2 : 2≤b) (t : Nat) (o : Option (List Int)) (c : Nat) : j9 ls b t o c≤b ^ t:=by
 cases o with
 | some x =>
  show (if _ then _ else 0)≤_
  split
  ·exact V9 ls b t _
  ·exact Nat.zero_le _
 | none =>
  show (if c = 0 then _ else if _ then _ else 0)≤_
  split
  ·rw [w6 ne h2]; exact za5 _ _
  ·split
   ·exact V9 ls b t _
   ·exact Nat.zero_le _
theorem zdP {b t : Nat} (h : b≤16) (ht : t≤1000) : b ^ t < 2 ^ 4001:=by
 have h1 : b ^ t≤16 ^ t:=Nat.pow_le_pow_left h t
 have h2 : (16 : Nat) ^ t = 2 ^ (4 * t):=by rw [show (16 : Nat) = 2 ^ 4 from rfl,← Nat.pow_mul]
 have h3 : 2 ^ (4 * t) < 2 ^ 4001:=Nat.pow_lt_pow_right (Nat.lt_succ_self 1) (by omega)
 omega
section
variable {P : Program} {w : World} {K : PySem.W.Frag} {mg : Str->Option Value} {base : Heap} {T0 C CS : Addr}
def ZP (C CS : Addr) : Sp:=fun vs H Q _=>∃ (p tl la wa l2 : Addr) (b : Nat) (ls ws : List (List Int)) (L : Nat) (wt : Nat->Nat) (sc sz M j c t : Nat),vs = [.ref p,.int j,.int c,.int t]∧TotAt C CS H p tl la wa l2 b ls ws L wt sc sz M∧c < b∧t < sz∧Q (.int ((if j = ws.length then 0 else sc ^ t * wt c : Nat) : Int)) H
theorem YJ : zE ["self","behind","figure","left"] ["self","behind","figure","left"] (zu wk):=⟨rfl,rfl,rfl,by decide +kernel,rfl,by decide +kernel,by decide +kernel⟩
theorem Jf {f : Addr} {fd : FuncData} (D : Mt K CS "Totals.weight_of" "weight_of" wk ["self","behind","figure","left"] f fd) (zG : ClT K mg C) (zJ : ClS K mg CS) : FnOk P w K mg base CX0 1 f fd ["self","behind","figure","left"] (ZP C CS):=by
 refine D.fn.ok YJ (fun vs H Q E h=>?_) (fun cdv A outer s H vs Q E hr h=>?_)
 ·obtain ⟨p,tl,la,wa,l2,b,ls,ws,L,wt,sc,sz,M,j,c,t,rfl,_⟩:=h; rfl
 ·obtain ⟨p,tl,la,wa,l2,b,ls,ws,L,wt,sc,sz,M,j,c,t,rfl,TT,hc,ht,kk⟩:=h
  obtain ⟨dx,hp⟩:=TT.obj
  obtain ⟨dt,sa,htl⟩:=TT.ta.obj
  obtain ⟨zs,q,w1,w2,w3⟩:=TT.wr.get (k:=t) (r:=vA b wt sc t) (by rw [List.getElem?_map,List.getElem?_range ht]; rfl)
  refine ⟨_,(zm (xQ (yd YQ (pv 1) (xY K (xY K (pv 0))) (ye _))
    (zx (zL zp))
    yj)
   (zx (zL (zQ (yS K) (zQ (yS K) (xY K (pv 0)) (pv 3) (fun _ _=>rfl)) (pv 2) (fun _ _=>rfl))))),?_⟩
  refine ⟨_,rfl,_,rfl,p,CS,dx,_,_,rfl,hp,zJ.cl,zJ.n_tails,uV _ _ _,tl,C,dt,_,_,rfl,htl,zG.cl,zG.n_outset,vW _ _ _ _,rfl,_,rfl,?_⟩
  refine Uu (fun h=>?_) (fun h=>?_)
  ·have e : j = ws.length:=by have z:=of_decide_eq_true h; injection z with z; omega
   rw [if_pos e] at kk
   exact kk
  ·have e : ¬ j = ws.length:=fun z=>h (decide_eq_true (by rw [z]))
   rw [if_neg e] at kk
   refine ⟨_,rfl,p,CS,dx,_,_,rfl,hp,zJ.cl,zJ.n_weights,QW _ _ _,_,rfl,wa,_,_,V.ref q,rfl,rfl,SqL.of (yc _ _ _ _ w1),w2,_,rfl,q,_,_,V.int ((sc ^ t * wt c : Nat) : Int),rfl,rfl,SqL.of (yc _ _ _ _ w3),yQ ?_,kk⟩
   unfold vA
   rw [List.getElem?_map,List.getElem?_map,List.getElem?_range hc]
   rfl
def SQ (C CS : Addr) (H : Hp) (p tl la wa l2 : Addr) (b : Nat) (ls ws : List (List Int)) (L : Nat) (wt : Nat->Nat) (sc sz M : Nat) (R : Nat->Hp->Prop) : Prop:=∀ (L' : Nat) (H' : Hp),L≤L'->TotAt C CS H' p tl la wa l2 b ls ws L' wt sc sz M->Same (aw [la] H) (aw [la] H')->R L' H'
def qN (C CS : Addr) : Sp:=fun vs H Q _=>∃ (p tl la wa l2 : Addr) (b : Nat) (ls ws : List (List Int)) (L : Nat) (wt : Nat->Nat) (sc sz M i s t ah : Nat),vs = [.ref p,.int i,.int s,.int t,.int ah]∧TotAt C CS H p tl la wa l2 b ls ws L wt sc sz M∧GoodT b ls ws∧L≤1000∧t < 900∧t < sz∧t < M∧i≤ws.length∧s≤b∧sc≤16∧(∀ c,c < b->wt c < 2 ^ 64)∧ah < 2 ^ 5000 ∧
 SQ C CS H p tl la wa l2 b ls ws L wt sc sz M fun L' H'=>L'≤max L (t + 1)->Q (.int ((ah * under ls b t ws[i]? s + Zo ls b wt sc t ws[i]? s : Nat) : Int)) H'
theorem zV : zE ["self","place","stop","left","ahead","counts","totals","total","figure","behind","weight"] ["self","place","stop","left","ahead"] (zu xf):=⟨rfl,rfl,rfl,by decide +kernel,rfl,by decide +kernel,by decide +kernel⟩
set_option maxHeartbeats 0 in
theorem Uz {f f1 f2 : Addr} {fd fd1 fd2 : FuncData} (D : Mt K CS "Totals.total_under" "total_under" xf ["self","place","stop","left","ahead"] f fd) (xm : Mt K C "Tails.layer" "layer" wC ["self","left"] f1 fd1) (uE : FnOk P w K mg base CX0 2 f1 fd1 ["self","left"] (XR C)) (wI : Mt K CS "Totals.weight_of" "weight_of" wk ["self","behind","figure","left"] f2 fd2) (uK : FnOk P w K mg base CX0 1 f2 fd2 ["self","behind","figure","left"] (ZP C CS)) (zG : ClT K mg C) (zJ : ClS K mg CS) (T : Blt mg) : FnOk P w K mg base CX0 3 f fd ["self","place","stop","left","ahead"] (qN C CS):=by
 refine D.fn.ok zV (fun vs H Q E h=>?_) (fun cdv A outer s H vs Q E hr h=>?_)
 ·obtain ⟨p,tl,la,wa,l2,b,ls,ws,L,wt,sc,sz,M,i,s,t,ah,rfl,_⟩:=h; rfl
 ·obtain ⟨p,tl,la,wa,l2,b,ls,ws,L,wt,sc,sz,M,i,s,t,ah,rfl,TT,G,hL,ht,hts,htM,hi,hs,hsc,hwt,hah,kk⟩:=h
  have b2:=G.g.b2
  have b16:=G.g.b16
  obtain ⟨dx,hp⟩:=TT.obj
  obtain ⟨dt,sa0,htl⟩:=TT.ta.obj
  refine ⟨_,(zm (zF (i:=5) zV.nd rfl (Or.inl rfl) (Yb xm zG.cl uE (hr.mono (by decide)) (xY K (pv 0)) (zc (pv 3) zg)))
   (zm (zF (i:=6) zV.nd rfl (Or.inl rfl) (zQ (yS K) (xY K (pv 0)) (pv 3) (fun _ _=>rfl)))
   (zm (zF (i:=7) zV.nd rfl (Or.inl rfl) zp)
   (zm (xM PassesOwn.never rfl (zdD K rfl T.n_enumerate (zc (xT (Zd K) (zQ (yS K) (xY K (xY K (pv 0))) (pv 1) (fun _ _=>rfl)) uF (wg (pv 2))) zg)) (W0 rfl (yz (zR (i:=8) zV.nd rfl (Or.inl rfl)) (yz (zR (i:=9) zV.nd rfl (Or.inl rfl)) qH)))
    (zx (xQ (yd Js (pv 9) Xi (ye _))
     (zm (zF (i:=10) zV.nd rfl (Or.inl rfl) (zM yu (pv 4) (Yb wI zJ.cl uK (hr.mono (by decide)) (pv 0) (zc (pv 9) (zc (pv 8) (zc (pv 3) zg))))))
     (zx (zef (i:=7) zV.nd rfl (Or.inl rfl) (zM yu (zM Jp (pv 10) (zQ (yS K) (pv 5) (pv 9) (fun _ _=>rfl))) (zQ (yS K) (pv 6) (pv 9) (fun _ _=>rfl))) zeg)))
     yj)))
   (zx (zL (pv 7))))))),?_⟩
  refine ⟨_,rfl,p,CS,dx,_,_,rfl,hp,zJ.cl,zJ.n_tails,uV _ _ _,tl,dt,_,rfl,htl,YF _ _ _ _,_,rfl,tl,la,b,ls,ws,L,t,rfl,TT.ta,G,hL,by omega,fun lay L1 H1 hL1 TA1 m1 hmx hlay=>?_⟩
  have TT1:=TT.more TA1 m1
  obtain ⟨dx1,hp1⟩:=TT1.obj
  obtain ⟨zs,tq,g1,g2,g3⟩:=TT1.lay htM
  refine ⟨_,rfl,p,CS,dx1,_,_,rfl,hp1,zJ.cl,zJ.n_layers,Yd _ _ _,_,rfl,l2,_,_,V.ref tq,rfl,rfl,SqL.of g1,g2,?_⟩
  obtain ⟨dt1,sa,srs,h1,h2,h3,h4⟩:=TA1.ob
  have hrow:=Xe (ls:=ls) (b:=b) (by omega) hi
  rw [← h4,List.getElem?_map] at hrow
  obtain ⟨z,hz,ez⟩:=Option.map_eq_some_iff.mp hrow
  have hz3:=yc _ _ _ _ (h3 z (List.mem_of_getElem? hz))
  refine ⟨_,rfl,p,CS,dx1,_,_,rfl,hp1,zJ.cl,zJ.n_tails,uV _ _ _,tl,C,dt1,_,_,rfl,yc _ _ _ _ h1,zG.cl,zG.n_steps,ji _ _ _ _,_,rfl,sa,_,_,V.ref z.1,rfl,rfl,SqL.of (yc _ _ _ _ h2),yQ (by rw [List.getElem?_map,hz]; rfl),?_⟩
  refine ⟨_,rfl,_,rfl,z.1,_,rfl,SqL.of hz3,fun q hq=>?_⟩
  have ecut : jn z.2 none (some (s : Int)) = (List.range s).map (stepV ls ws ws[i]?):=by
   rw [Zb,ez,← List.map_take,List.take_range,Nat.min_eq_left hs]
  rw [ecut]
  have m2:=zj hq (o:=.lst ((List.range s).map (stepV ls ws ws[i]?)))
  have TT2:=TT1.same m2
  have hq2 : upd H1 q (.lst ((List.range s).map (stepV ls ws ws[i]?))) q = some (.lst ((List.range s).map (stepV ls ws ws[i]?))):=zf
  have hlay2:=m2 _ _ (yc _ _ _ _ hlay)
  have htq2:=m2 _ _ (yc _ _ _ _ g3)
  generalize upd H1 q (.lst ((List.range s).map (stepV ls ws ws[i]?))) = H2 at m2 TT2 hq2 hlay2 htq2
  refine ⟨q,rfl,⟨_,SqL.of hq2⟩,zcy (K:=K) (a:=q) (xs:=(List.range s).map (stepV ls ws ws[i]?)) (fun k σ H3=>∃ (v8 v9 v10 : Option V),σ = [some (.ref p),some (.int i),some (.int s),some (.int t),some (.int ah),some (.ref lay),some (.ref tq),some (.int ((ah * under ls b t ws[i]? k + Zo ls b wt sc t ws[i]? k : Nat) : Int)),v8,v9,v10]∧Same H2 H3)
   ⟨none,none,none,rfl,Same.refl _⟩ (fun k σ H3 _ ⟨_,_,_,_,m⟩=>SqL.of (m _ _ hq2)) ?_ ?_⟩
  ·rintro k x σ H3 T1 hx ⟨v8,v9,v10,rfl,m3⟩ hT1
   rw [List.getElem?_map] at hx
   obtain ⟨c,hc,e⟩:=Option.map_eq_some_iff.mp hx
   have hk : k < s:=by have:=(List.getElem?_eq_some_iff.mp hc).1; rwa [List.length_range] at this
   have ec : c = k:=by rw [List.getElem?_range hk] at hc; exact (Option.some.inj hc).symm
   subst ec
   subst e
   refine ⟨T1,_,rfl,SqT.of zf,rfl,_,_,rfl,_,_,rfl,rfl,?_⟩
   have m4:=m3.trans (zj hT1 (o:=.tup [.int (c : Nat),stepV ls ws ws[i]? c]))
   generalize upd H3 T1 (.tup [.int (c : Nat),stepV ls ws ws[i]? c]) = H4 at m4
   have hus:=uP ls b t ws[i]? c
   have hut:=zaf ls b wt sc t ws[i]? c
   rcases JX (t:=t) (w:=wt) (sc:=sc) G (c:=c) hi with ⟨e1,e2,e3⟩ | ⟨j,xx,y,zz,e1,e2,e3,e4,e5,e6,e7⟩
   ·rw [e1]
    refine ⟨_,rfl,rfl,_,rfl,xW ⟨some (.int (c : Nat)),some .non,v10,?_,m4⟩⟩
    rw [hus,hut,e2,e3]
    rfl
   ·rw [e1]
    refine ⟨_,rfl,rfl,_,rfl,wF ?_⟩
    have TT4:=TT2.same m4
    obtain ⟨dx4,hp4⟩:=TT4.obj
    refine ⟨_,rfl,_,rfl,p,dx4,_,rfl,hp4,Wj _ _ _,_,rfl,_,rfl,_,rfl,p,tl,la,wa,l2,b,ls,ws,L1,wt,sc,sz,M,j,c,t,rfl,TT4,by omega,hts,?_⟩
    rw [← e5]
    have hzz : zz < 2 ^ 5000:=by
     rw [e5]
     split
     ·exact Nat.pow_pos (by decide)
     ·have a1:=zdP (b:=sc) hsc (show t≤1000 by omega)
      have a2:=hwt c (by omega)
      exact Nat.lt_of_lt_of_le (Nat.mul_lt_mul'' a1 a2) (by rw [← Nat.pow_add]; exact Nat.pow_le_pow_right (Nat.le_succ 1) (by decide))
    have hxx : xx < 2 ^ 4001:=by
     have:=zcR G.ne b2 t ws[i]? c
     rw [e7] at this
     exact Nat.lt_of_le_of_lt this (zdP b16 (by omega))
    have haz : ah + zz < 2 ^ 5001:=by rw [Nat.pow_succ]; omega
    refine ⟨_,_,rfl,rfl,?_⟩
    refine ⟨_,rfl,_,rfl,_,rfl,_,rfl,lay,_,_,V.int ((xx : Nat) : Int),rfl,rfl,SqL.of (m4 _ _ hlay2),yQ (by rw [List.getElem?_map,e3]; rfl),_,_,rfl,rfl,(CMulB.nat (i:=ah + zz) (j:=xx) haz hxx (by decide) (by decide) : CMulB ((ah + zz : Nat) : Int) (xx : Int)),?_⟩
    refine ⟨_,rfl,_,rfl,tq,_,_,V.int ((y : Nat) : Int),rfl,rfl,SqL.of (m4 _ _ htq2),yQ (by rw [List.getElem?_map,e4]; rfl),_,_,rfl,rfl,_,_,rfl,rfl,some (.int (c : Nat)),some (.int (j : Nat)),some (.int ((ah + zz : Nat) : Int)),?_,m4⟩
    have ev : ((ah * under ls b t ws[i]? (c + 1) + Zo ls b wt sc t ws[i]? (c + 1) : Nat) : Int) = ((ah * under ls b t ws[i]? c + Zo ls b wt sc t ws[i]? c : Nat) : Int) + (((ah + zz : Nat) : Int) * (xx : Int) + (y : Int)):=by
     rw [hus,hut,e6,e7,← Int.natCast_mul,← Int.natCast_add,← Int.natCast_add]
     congr 1
     rw [Nat.mul_add,Nat.add_mul]
     omega
    rw [ev]
    rfl
  ·rintro σ H3 ⟨v8,v9,v10,rfl,m3⟩
   rw [List.length_map,List.length_range]
   exact ⟨_,rfl,kk L1 H3 hL1 (TT2.same m3) (m1.trans ((m2.trans m3).aw [la])) hmx⟩
end
theorem j7 (ls : List (List Int)) (x : List Int) (F : Nat->List Int->Nat) : ∀ n : Nat,((yp ls x n).map fun p=>F p.1 p.2).sum = ((List.range n).map fun (c : Nat)=>if lacks ls (x ++ [(c : Int)]) = true then F c (zH ls (x ++ [(c : Int)])) else 0).sum
 | 0=>rfl
 | n + 1=>by
  rw [Yt,List.map_append,List.sum_append,j7 ls x F n,List.range_succ,List.map_append,List.sum_append]
  congr 1
  unfold aft
  by_cases h : lacks ls (x ++ [(n : Int)]) = true
  ·rw [if_pos h]
   simp [h]
  ·rw [if_neg h]
   simp [h]
theorem zb9 (ls : List (List Int)) (b t : Nat) (x : List Int) : ((yp ls x b).map fun p=>cnt ls b t p.2).sum = cnt ls b (t + 1) x:=j7 ls x (fun _ y=>cnt ls b t y) b
theorem zcb (ls : List (List Int)) (b t : Nat) (x : List Int) : ((yp ls x b).map fun p=>tt ls b (fun c=>c) b t p.2).sum + b ^ t * ((yp ls x b).map fun p=>p.1 * cnt ls b t p.2).sum = tt ls b (fun c=>c) b (t + 1) x:=by
 have h:=j7 ls x (fun c y=>b ^ t * c * cnt ls b t y + tt ls b (fun c=>c) b t y) b
 show _ = ((List.range b).map fun (c : Nat)=>if lacks ls (x ++ [(c : Int)]) = true then b ^ t * c * cnt ls b t (zH ls (x ++ [(c : Int)])) + tt ls b (fun c=>c) b t (zH ls (x ++ [(c : Int)])) else 0).sum
 rw [← h]
 have lin : ∀ l : List (Nat × List Int),(l.map fun p=>tt ls b (fun c=>c) b t p.2).sum + b ^ t * (l.map fun p=>p.1 * cnt ls b t p.2).sum = (l.map fun p=>b ^ t * p.1 * cnt ls b t p.2 + tt ls b (fun c=>c) b t p.2).sum:=fun l=>by
  induction l with
  | nil=>simp
  | cons p l ih =>
   rw [List.map_cons,List.map_cons,List.map_cons,List.sum_cons,List.sum_cons,List.sum_cons,← ih,Nat.mul_add,← Nat.mul_assoc]
   omega
 exact lin _
theorem Ze {α : Type} (f : α->Nat) : ∀ l : List α,(l.map fun r=>((f r : Nat) : Int)).sum = (((l.map f).sum : Nat) : Int)
 | []=>rfl
 | a :: l=>by rw [List.map_cons,List.sum_cons,List.map_cons,List.sum_cons,Ze f l,Int.natCast_add]
theorem VR {α : Type} {f : α->Nat} {B : Nat} : ∀ {l : List α},(∀ p ∈ l,f p≤B)->(l.map f).sum≤l.length * B
 | [],_=>by simp
 | a :: l,h=>by
  rw [List.map_cons,List.sum_cons,List.length_cons,Nat.succ_mul,Nat.add_comm]
  exact Nat.add_le_add (VR fun p hp=>h p (List.mem_cons_of_mem _ hp)) (h a List.mem_cons_self)
theorem Xp {K : PySem.W.Frag} {H : Hp} {ls : List (List Int)} {n : Nat} {x : List Int} {la : Addr} {ss : StL} (St : StepAt H ls n x la ss) (hn : n≤100) {ns : List Str} {js : List Nat} {g : TG} {tt : TT} {te : TE} {σ : L2.St} {Q : VK} (F : Nat->List Int->Nat)
  (hs : ∀ s ∈ ss,∀ (R : V->Hp->Prop) (E : Hp->Prop),R (.int ((F s.2.1 s.2.2.2 : Nat) : Int)) H->g (.ref s.1) (nones ns ++ yU js σ) H fun σ' H1=>(∃ vs : L2.St,vs.length = ns.length∧σ' = vs ++ yU js σ)∧tt σ' H1 fun c H2=>if c = true then te σ' H2 fun v H3=>R v H3 else E H2)
  (hd : ∀ D,H D = none->Q (.ref D) (upd H D (.lst (((yp ls x n).map fun p=>((F p.1 p.2 : Nat) : Int)).map V.int)))) : WF (Itl K la) ns js g tt te σ Q H:=by
 have hl:=St.len
 refine V2 (K:=K) (a:=la) (xs:=ss.map fun s=>V.ref s.1) (fun i ys Hd=>ys = ((ss.take i).map fun s=>V.int ((F s.2.1 s.2.2.2 : Nat) : Int))∧Hd = H) ⟨rfl,rfl⟩ (fun i ys Hd _ ⟨_,e⟩=>by rw [e]; exact SqL.of St.li) ?_ ?_
 ·rintro i u ys Hd hi ⟨rfl,rfl⟩
  rw [List.getElem?_map] at hi
  obtain ⟨t,hti,e⟩:=Option.map_eq_some_iff.mp hi
  subst e
  refine ⟨by rw [List.length_map,List.length_take]; exact Nat.lt_of_le_of_lt (show min i ss.length≤100 by omega) (by decide),?_⟩
  refine hs t (List.mem_of_getElem? hti) _ _ ⟨?_,rfl⟩
  rw [List.take_succ,hti,List.map_append]; rfl
 ·rintro ys Hd ⟨rfl,rfl⟩ D hD
  rw [List.length_map,List.take_length,show (ss.map fun s=>V.int ((F s.2.1 s.2.2.2 : Nat) : Int)) = ((yp ls x n).map fun p=>((F p.1 p.2 : Nat) : Int)).map V.int by rw [← St.eq,List.map_map,List.map_map]; rfl]
  exact hd D hD
def RowD (P : Program) (w : World) (H : Hp) (a : Addr) (ls : List (List Int)) (b t : Nat) (M : List Int->Prop) : Prop:=∃ kr,DE P w H a kr∧∀ x,M x->∃ p,yw kr (kI x) = some (.ref p)∧H p = some (.tup [.int ((cnt ls b t x : Nat) : Int),.int ((tt ls b (fun c=>c) b t x : Nat) : Int)])
theorem RowD.keep {P : Program} {w : World} {H H' : Hp} {a : Addr} {ls : List (List Int)} {b t : Nat} {M : List Int->Prop} (h : RowD P w H a ls b t M) (ha : H' a = H a) (ht : ∀ c zs,H c = some (.tup zs)->H' c = some (.tup zs)) : RowD P w H' a ls b t M :=
 let ⟨kr,d,k⟩:=h; ⟨kr,d.stay ha ht,fun x hx=>let ⟨p,e,q⟩:=k x hx; ⟨p,e,ht _ _ q⟩⟩
theorem RowD.ext {P : Program} {w : World} {H : Hp} {a : Addr} {ls : List (List Int)} {b t : Nat} {M : List Int->Prop} (h : RowD P w H a ls b t M) : ∃ φ,H a = some (.ext φ):=let ⟨_,⟨_,_,e,_⟩,_⟩:=h; ⟨_,e⟩
theorem RowD.same {P : Program} {w : World} {H H' : Hp} {a : Addr} {ls : List (List Int)} {b t : Nat} {M : List Int->Prop} (h : RowD P w H a ls b t M) (m : Same H H') : RowD P w H' a ls b t M:=by
 obtain ⟨φ,e⟩:=h.ext
 exact h.keep (by rw [e]; exact m _ _ e) fun c zs q=>m _ _ q
structure RowsD (P : Program) (w : World) (H : Hp) (ra : Addr) (rs : List Addr) (ls : List (List Int)) (b : Nat) (M : List Int->Prop) : Prop where
 li : H ra = some (.lst (rs.map V.ref))
 ok : ∀ (t : Nat) (a : Addr),rs[t]? = some a->RowD P w H a ls b t M
theorem RowsD.same {P : Program} {w : World} {H H' : Hp} {ra : Addr} {rs : List Addr} {ls : List (List Int)} {b : Nat} {M : List Int->Prop} (h : RowsD P w H ra rs ls b M) (m : Same H H') : RowsD P w H' ra rs ls b M:=⟨m _ _ h.li,fun t a e=>(h.ok t a e).same m⟩
theorem Qi : ∀ (more kvs : List (List Key × V)),((kvs ++ more).map (·.1)).Nodup->jR kvs more = kvs ++ more
 | [],kvs,_=>by simp [jR]
 | m :: more,kvs,h=>by
  have hn : yw kvs m.1 = none:=by
   cases e : yw kvs m.1 with
   | none=>rfl
   | some v =>
    exfalso
    have h1:=Jq e
    rw [List.map_append,List.map_cons] at h
    exact (List.nodup_append.mp h).2.2 m.1 h1 m.1 List.mem_cons_self rfl
  show jR (putK kvs m.1 m.2) more = _
  rw [j6 _ hn,Qi more _ (by rw [List.append_assoc]; exact h),List.append_assoc]
  rfl
theorem VN {κ : Type} [DecidableEq κ] {k : κ} : ∀ {kvs : List (κ × V)},k ∈ kvs.map (·.1)->∃ v,yw kvs k = some v∧(k,v) ∈ kvs
 | [],h=>nomatch h
 | p :: r,h=>by
  by_cases e : p.1 = k
  ·exact ⟨p.2,yP e,by rw [← e]; exact List.mem_cons_self⟩
  ·rw [List.map_cons,List.mem_cons] at h
   obtain ⟨v,h1,h2⟩:=VN (h.resolve_left fun z=>e z.symm)
   exact ⟨v,by rw [yO e]; exact h1,List.mem_cons_of_mem _ h2⟩
section
variable {P : Program} {w : World} {K : PySem.W.Frag} {mg : Str->Option Value} {base : Heap}
def zbr (ls : List (List Int)) (b : Nat) (M : List Int->Prop) : Prop:=M []∧∀ x,M x->∀ p ∈ yp ls x b,M p.2
def jL (P : Program) (w : World) : Sp:=fun vs H Q _=>∃ (r : Addr) (b : Nat) (bl : Addr) (zs : List (Addr × List Int)) (m : Nat),vs = [.ref r,.int m]∧RuleAt H r b bl zs∧zW b (zs.map (·.2))∧m≤60∧∀ ra rs M H',H ra = none->Same H H'->RowsD P w H' ra rs (zs.map (·.2)) b M->rs.length = m + 1->zbr (zs.map (·.2)) b M->Q (.ref ra) H'
theorem yr : zE ["rule","m","steps","rows","whole","turn","row","end","many","total","more"] ["rule","m"] (zu xn):=⟨rfl,rfl,rfl,by decide +kernel,rfl,by decide +kernel,by decide +kernel⟩
set_option maxHeartbeats 0 in
theorem U3 {f f1 : Addr} {fd fd1 : FuncData} (D : Df K mg "_law_table" xn ["rule","m"] f fd) (wR : Df K mg "_law_steps" xr ["rule"] f1 fd1) (vZ : FnOk P w K mg base CX0 2 f1 fd1 ["rule"] (tQ P w)) (n_dict : mg "dict" = none) (T : Blt mg) (U : zbB mg) : FnOk P w K mg base CX0 3 f fd ["rule","m"] (jL P w):=by
 refine D.fn.ok yr (fun vs H Q E h=>?_) (fun cdv A outer s H vs Q E hr h=>?_)
 ·obtain ⟨r,b,bl,zs,m,rfl,_⟩:=h; rfl
 ·obtain ⟨r,b,bl,zs,m,rfl,R,g,hm,kk⟩:=h
  have b2:=g.b2
  have b16:=g.b16
  have h4 : zs.length≤4:=by have:=g.len; rwa [List.length_map] at this
  have hst4 : ∀ st ∈ zs.map (·.2),st.length≤4:=fun st h=>(g.st st h).len
  refine ⟨_,(zm (zF (i:=2) yr.nd rfl (Or.inl rfl) (zO wR vZ (hr.mono (by decide)) (zc (pv 0) zg)))
   (zm (zF (i:=3) yr.nd rfl (Or.inr rfl) (zU (zc (tG (zdw P w K rfl hr.units) (by rfl) n_dict PyProof.Rows.boot_dict (zc (wJ (show CScope (zu xn) _ "end" ["rule","m","steps","rows","whole","turn","row","end","many","total","more"] [] [] from ⟨rfl,by decide +kernel,by decide +kernel,rfl,by decide +kernel,rfl,by decide +kernel,by decide +kernel⟩) rfl (JQ P w (pv 2)) (fun _ _ _ _=>yE) (fun _ _ _ _=>(vM (zc (pv 0) (zc (vM (zc zp (zc zp zg))) zg))))) zg)) zg)))
   (zm (zF (i:=4) yr.nd rfl (Or.inl rfl) zp)
   (zm (xM PassesOwn.never rfl (zY rfl T.n_range (zc (pv 1) zg)) (zR (i:=5) yr.nd rfl (Or.inl rfl))
    (zm (zF (i:=6) yr.nd rfl (Or.inl rfl) zbl)
    (zm (xM PassesOwn.never rfl (JQ P w (pv 2)) (zR (i:=7) yr.nd rfl (Or.inl rfl))
     (zm (zF (i:=8) yr.nd rfl (Or.inl rfl) (zB (JL K rfl) (by rfl) U.n_sum boot_sum (zc (Wf (show Zt (zu xn) _ ["figure","there"] ["rule","m","steps","rows","whole","turn","row","end","many","total","more"] ["rows"] [3] from ⟨rfl,by decide +kernel,by decide +kernel,by decide +kernel,by decide +kernel,rfl,by decide +kernel,by decide +kernel⟩) rfl (Z6 K (jY P w (uY hr) (pv 2) (pv 7) (fun _ _=>rfl))) (fun _ _ _ _=>(Jo K 2 rfl (yz (zR (i:=0) (show List.Nodup (α:=Str) ["figure","there","rows"] by decide) rfl (.inl (lookup_relabel_local rfl)) (.inr (lookup_relabel_local rfl))) (yz (zR (i:=1) (show List.Nodup (α:=Str) ["figure","there","rows"] by decide) rfl (.inl (lookup_relabel_local rfl)) (.inr (lookup_relabel_local rfl))) qH)))) (fun _ _ _ _=>yE) (fun _ _ _ _=>(zQ (wH K) (jY P w (uY hr) (zQ (yS K) (pv 2) (zbn Jw zp) (fun _ _=>rfl)) (pv 1) (fun _ _=>rfl)) zp (fun _ _=>rfl)))) zg)))
     (zm (zF (i:=9) yr.nd rfl (Or.inl rfl) (zB (JL K rfl) (by rfl) U.n_sum boot_sum (zc (Wf (show Zt (zu xn) _ ["figure","there"] ["rule","m","steps","rows","whole","turn","row","end","many","total","more"] ["rows"] [3] from ⟨rfl,by decide +kernel,by decide +kernel,by decide +kernel,by decide +kernel,rfl,by decide +kernel,by decide +kernel⟩) rfl (Z6 K (jY P w (uY hr) (pv 2) (pv 7) (fun _ _=>rfl))) (fun _ _ _ _=>(Jo K 2 rfl (yz (zR (i:=0) (show List.Nodup (α:=Str) ["figure","there","rows"] by decide) rfl (.inl (lookup_relabel_local rfl)) (.inr (lookup_relabel_local rfl))) (yz (zR (i:=1) (show List.Nodup (α:=Str) ["figure","there","rows"] by decide) rfl (.inl (lookup_relabel_local rfl)) (.inr (lookup_relabel_local rfl))) qH)))) (fun _ _ _ _=>yE) (fun _ _ _ _=>(zQ (wH K) (jY P w (uY hr) (zQ (yS K) (pv 2) (zbn Jw zp) (fun _ _=>rfl)) (pv 1) (fun _ _=>rfl)) zp (fun _ _=>rfl)))) zg)))
     (zm (zF (i:=10) yr.nd rfl (Or.inl rfl) (zB (JL K rfl) (by rfl) U.n_sum boot_sum (zc (Wf (show Zt (zu xn) _ ["figure","there"] ["rule","m","steps","rows","whole","turn","row","end","many","total","more"] ["rows"] [3] from ⟨rfl,by decide +kernel,by decide +kernel,by decide +kernel,by decide +kernel,rfl,by decide +kernel,by decide +kernel⟩) rfl (Z6 K (jY P w (uY hr) (pv 2) (pv 7) (fun _ _=>rfl))) (fun _ _ _ _=>(Jo K 2 rfl (yz (zR (i:=0) (show List.Nodup (α:=Str) ["figure","there","rows"] by decide) rfl (.inl (lookup_relabel_local rfl)) (.inr (lookup_relabel_local rfl))) (yz (zR (i:=1) (show List.Nodup (α:=Str) ["figure","there","rows"] by decide) rfl (.inl (lookup_relabel_local rfl)) (.inr (lookup_relabel_local rfl))) qH)))) (fun _ _ _ _=>yE) (fun _ _ _ _=>(zM uB (pv 0) (zQ (wH K) (jY P w (uY hr) (zQ (yS K) (pv 2) (zbn Jw zp) (fun _ _=>rfl)) (pv 1) (fun _ _=>rfl)) zp (fun _ _=>rfl))))) zg)))
     (zx (zbv (uY hr) (pv 6) (pv 7) (vM (zc (pv 8) (zc (zM yu (pv 9) (zM Jp (pv 4) (pv 10))) zg))) rfl))))))
    (zm (xP (Z3 PySem.F.plainAttrs_list PySem.F.slot_list_append PySem.F.type_list_append vd (pv 3) (zc (pv 6) zg)))
    (zx (zF (i:=4) yr.nd rfl (Or.inl rfl) (zM uB (pv 4) (zQ (wH K) (pv 0) zp (fun _ _=>rfl)))))))))
   (zx (zL (pv 3))))))),?_⟩
  refine ⟨_,rfl,r,b,bl,zs,rfl,R,g,fun fo kvs H1 hfo s1 S1 hcl hrt=>?_⟩
  have hk13:=S1.len (by rw [List.length_map]; exact h4) hst4
  obtain ⟨M,eM⟩ : ∃ M : List Int->Prop,M = fun x=>yw kvs (kI x) ≠ none:=⟨_,rfl⟩
  have CM : zbr (zs.map (·.2)) b M:=by rw [eM]; exact ⟨hrt,hcl⟩
  refine ⟨_,rfl,zbM S1.d (fun i ys Hc=>∃ (ts : List Addr) (ks : List (List Key × V)),ys = ts.map V.ref∧Paired (fun t (kv : List Key × V)=>∃ b,Hc t = some (.tup [.ref b,kv.2])∧Hc b = some (.tup (kv.1.map kV))) ts ks∧ks.map (·.1) = (kvs.map (·.1)).take i∧(∀ kv ∈ ks,∃ p,kv.2 = .ref p∧Hc p = some (.tup [.int 1,.int 0]))∧Same H1 Hc) ⟨[],[],rfl,.nil,rfl,(fun kv h=>nomatch h),Same.refl _⟩ (fun i ys Hc _ ⟨_,_,_,_,_,_,e⟩=>?_) ?_ ?_⟩
  ·have d:=S1.d
   obtain ⟨_,_,e1,_⟩:=d
   exact ⟨by rw [e1]; exact e _ _ e1,fun c us q=>e _ _ q⟩
  ·rintro i kv p ys Hc hkv hp ⟨ts,ks,rfl,hpt,ek,hks,sc⟩
   have hi : i < kvs.length:=(List.getElem?_eq_some_iff.mp hkv).1
   have hlen : ts.length = ks.length:=Paired.length hpt
   have hkl : ks.length≤13:=by have:=congrArg List.length ek; rw [List.length_map,List.length_take,List.length_map] at this; omega
   refine ⟨by rw [List.length_map,hlen]; exact Nat.lt_of_le_of_lt (show ks.length≤100 by omega) (by decide),?_⟩
   unfold jo
   dsimp only
   rw [if_pos rfl]
   refine ⟨_,rfl,(by show 2≤sizeLine; decide),fun t1 ht1=>⟨(by show 2≤sizeLine; decide),fun t2 ht2=>?_⟩⟩
   have m1:=zj ht1 (o:=.tup [.int 1,.int 0])
   have m2:=zj ht2 (o:=.tup [.ref p,.ref t1])
   have m12:=m1.trans m2
   refine ⟨ts ++ [t2],ks ++ [(kv.1,.ref t1)],by rw [List.map_append]; rfl,Paired.snoc (Paired.mapP hpt fun t kv ⟨b,q1,q2⟩=>⟨b,m12 _ _ q1,m12 _ _ q2⟩) ⟨p,zf,m12 _ _ hp⟩,?_,fun kv' h=>?_,sc.trans m12⟩
   ·rw [List.map_append,ek,List.take_succ,List.getElem?_map,hkv]; rfl
   ·rcases List.mem_append.mp h with h | h
    ·obtain ⟨p',e1,e2⟩:=hks kv' h
     exact ⟨p',e1,m12 _ _ e2⟩
    ·rw [List.mem_singleton.mp h]; exact ⟨t1,rfl,m2 _ _ zf⟩
  rintro ys Hc ⟨ts,ks,rfl,hpt,ek,hks,sc⟩ D0 hD0
  have mD:=zj hD0 (o:=.lst (ts.map V.ref))
  have sD:=sc.trans mD
  rw [← List.length_map (f:=fun x : List Key × V=>x.1),List.take_length] at ek
  have eK : jR [] ks = ks:=by rw [Qi ks [] (by rw [List.nil_append,ek]; exact S1.nd)]; rfl
  refine ⟨D0,ts,ks,rfl,SqL.of zf,Paired.mapP hpt fun t kv ⟨b,q1,q2⟩=>⟨b,SqT.of (mD _ _ q1),mD _ _ q2⟩,fun r0 H3 hr0 d3 c3=>?_⟩
  rw [eK] at d3
  have m3 : Same (upd Hc D0 (.lst (ts.map V.ref))) H3:=fun c u e=>by rw [c3 c (zy e hr0)]; exact e
  have s13:=sD.trans m3
  have Row3 : RowD P w H3 r0 (zs.map (·.2)) b 0 M:=⟨ks,d3,fun x hx=>by
   rw [eM] at hx
   have hin : kI x ∈ ks.map (·.1):=by
    rw [ek]
    cases e : yw kvs (kI x) with
    | none=>exact absurd e hx
    | some v=>exact Jq e
   obtain ⟨v,e1,e2⟩:=VN hin
   obtain ⟨p,e3,e4⟩:=hks _ e2
   exact ⟨p,by rw [e1]; exact congrArg some e3,m3 _ _ (mD _ _ e4)⟩⟩
  refine ⟨(by show 1≤sizeLine; decide),fun ra hra=>?_⟩
  have m4:=zj hra (o:=.lst [.ref r0])
  have s14:=s13.trans m4
  have hra0 : H ra = none:=(s1.trans s13).free hra
  have hkr : ∀ kv ∈ kvs,kv.2 ≠ .ref ra:=fun kv hk e=>by
   obtain ⟨x,la,ss,_,_,h3,h4⟩:=S1.ok kv hk
   rw [e] at h3
   cases h3
   have:=s13 _ _ h4.li
   rw [hra] at this; cases this
  have Rows4 : RowsD P w (upd H3 ra (.lst [.ref r0])) ra [r0] (zs.map (·.2)) b M:=⟨zf,fun t a e=>by
   cases t with
   | zero=>cases e; exact Row3.same m4
   | succ t=>cases e⟩
  have S4:=S1.same s14
  have s04:=s1.trans s14
  generalize upd H3 ra (.lst [.ref r0]) = H4 at Rows4 S4 s04
  refine ⟨_,rfl,_,rfl,by omega,by omega,?_⟩
  rw [Int.toNat_natCast]
  refine yD (lo:=0) (n:=m) (fun i σ Hc=>∃ (rs : List Addr) (v5 v6 v7 v8 v9 v10 : Option V),σ = [some (.ref r),some (.int m),some (.ref fo),some (.ref ra),some (.int ((b ^ i : Nat) : Int)),v5,v6,v7,v8,v9,v10]∧rs.length = i + 1∧RowsD P w Hc ra rs (zs.map (·.2)) b M∧StepsD P w Hc fo (zs.map (·.2)) b kvs∧Same H Hc) ⟨[r0],none,none,none,none,none,none,rfl,rfl,Rows4,S4,s04⟩ ?_ ?_
  ·rintro i σ Hc hi ⟨rs,v5,v6,v7,v8,v9,v10,rfl,hrl,Rw,S,sc⟩
   refine fun rw0 H5 hrw d5 c5=>?_
   have m5 : Same Hc H5:=fun c u e=>by rw [c5 c (zy e hrw)]; exact e
   have S5:=S.same m5
   have Rw5:=Rw.same m5
   obtain ⟨lr,hlr2⟩ : ∃ lr,rs[i]? = some lr:=⟨_,List.getElem?_eq_getElem (by omega)⟩
   have hlast : atI (rs.map V.ref) (-1) = some (.ref lr):=by
    unfold atI
    rw [List.length_map,hrl]
    unfold ixN
    rw [if_neg (by omega),if_pos (by omega)]
    show (rs.map V.ref)[(-1 + ((i + 1 : Nat) : Int)).toNat]? = _
    rw [show (-1 + ((i + 1 : Nat) : Int)).toNat = i by omega,List.getElem?_map,hlr2]
    rfl
   have hrwfo : fo ≠ rw0:=fun e=>by
    have d:=S.d
    obtain ⟨_,_,e2,_⟩:=d
    rw [e,hrw] at e2; cases e2
   have hrwlr : lr ≠ rw0:=fun e=>by
    obtain ⟨φ,e2⟩:=(Rw.ok i lr hlr2).ext
    rw [e,hrw] at e2; cases e2
   refine ⟨_,rfl,zcu S5.d (fun j σ Hd=>∃ (kr : List (List Key × V)) (v7 v8 v9 v10 : Option V),σ = [some (.ref r),some (.int m),some (.ref fo),some (.ref ra),some (.int ((b ^ i : Nat) : Int)),some (.int (0 + (i : Int))),some (.ref rw0),v7,v8,v9,v10]∧DE P w Hd rw0 kr∧kr.length≤j∧(∀ kv ∈ kvs.take j,∀ x,kv.1 = kI x->∃ p,yw kr (kI x) = some (.ref p)∧Hd p = some (.tup [.int ((cnt (zs.map (·.2)) b (i + 1) x : Nat) : Int),.int ((tt (zs.map (·.2)) b (fun c=>c) b (i + 1) x : Nat) : Int)]))∧(∀ c u,c ≠ rw0->H5 c = some u->Hd c = some u)) ⟨[],v7,v8,v9,v10,rfl,d5,Nat.zero_le _,(fun kv h=>by simp at h),fun c u _ e=>e⟩ (fun j σ Hd _ ⟨_,_,_,_,_,_,_,_,_,e⟩=>?_) ?_ ?_⟩
   ·have d:=S5.d
    obtain ⟨_,_,e1,_⟩:=d
    exact ⟨by rw [e1]; exact e _ _ hrwfo e1,fun c us q=>e _ _ (d5.ne q) q⟩
   ·rintro j kv p σ Hd hkv hp ⟨kr,v7,v8,v9,v10,rfl,dd,hkrl,hkr',sd⟩
    have hj : j < kvs.length:=(List.getElem?_eq_some_iff.mp hkv).1
    have kt : ∀ c us,H5 c = some (.tup us)->Hd c = some (.tup us):=fun c us q=>sd _ _ (d5.ne q) q
    have nlst : ∀ {c : Addr} {us : List V},H5 c = some (.lst us)->c ≠ rw0:=fun {c us} h z=>by
     obtain ⟨_,_,e,_⟩:=d5
     rw [z,e] at h; cases h
    obtain ⟨x,la,ss,ex,hx,ela,St⟩:=S5.ok kv (List.mem_of_getElem? hkv)
    have hv : yw kvs (kI x) = some (.ref la):=by
     obtain ⟨v,e1,e2⟩:=VN (k:=kI x) (kvs:=kvs) (List.mem_map.mpr ⟨kv,List.mem_of_getElem? hkv,ex⟩)
     obtain ⟨i1,hi1⟩:=List.getElem?_of_mem e2
     have h1 : (kvs.map (·.1))[i1]? = some (kI x):=by rw [List.getElem?_map,hi1]; rfl
     have h2 : (kvs.map (·.1))[j]? = some (kI x):=by rw [List.getElem?_map,hkv]; exact congrArg some ex
     have:=(List.getElem?_inj (by rw [List.length_map]; exact (List.getElem?_eq_some_iff.mp hi1).1) S5.nd).mp (h1.trans h2.symm)
     rw [this,hkv] at hi1
     cases hi1
     exact e1.trans (congrArg some ela)
    rw [ex] at hp
    have hp' : Hd p = some (.tup (x.map V.int)):=by rw [← U7]; exact hp
    have Mx : M x:=by rw [eM]; show yw kvs (kI x) ≠ none; rw [hv]; simp
    have Sd : StepsD P w Hd fo (zs.map (·.2)) b kvs:=by
     have d:=S5.d
     obtain ⟨_,_,e1,_⟩:=d
     exact S5.keep (by rw [e1]; exact sd _ _ hrwfo e1) (fun kv hk la e=>by
      obtain ⟨x,la',ss,_,_,h3,h4⟩:=S5.ok kv hk
      rw [e] at h3
      cases h3
      rw [h4.li]
      exact sd _ _ (nlst h4.li) h4.li) kt
    have Std : StepAt Hd (zs.map (·.2)) b x la ss:=St.keep (by rw [St.li]; exact sd _ _ (nlst St.li) St.li) kt
    have hrd : Hd ra = some (.lst (rs.map V.ref)):=sd _ _ (nlst Rw5.li) Rw5.li
    have Lr : RowD P w Hd lr (zs.map (·.2)) b i M:=by
     have L5:=Rw5.ok i lr hlr2
     obtain ⟨φ,e1⟩:=L5.ext
     exact L5.keep (by rw [e1]; exact sd _ _ hrwlr e1) kt
    have ent : ∀ {Hx : Hp},Same Hd Hx->∀ s ∈ ss,∃ kr' q,DE P w Hx lr kr'∧yw kr' (kI s.2.2.2) = some (.ref q)∧Hx q = some (.tup [.int ((cnt (zs.map (·.2)) b i s.2.2.2 : Nat) : Int),.int ((tt (zs.map (·.2)) b (fun c=>c) b i s.2.2.2 : Nat) : Int)]):=fun {Hx} sx s hs=>by
     obtain ⟨kr',d',k'⟩:=Lr.same sx
     have hm : (s.2.1,s.2.2.2) ∈ yp (zs.map (·.2)) x b:=by rw [← St.eq]; exact List.mem_map.mpr ⟨s,hs,rfl⟩
     obtain ⟨q,e1,e2⟩:=k' _ (CM.2 x Mx _ hm)
     exact ⟨kr',q,d',e1,e2⟩
    refine ⟨_,rfl,_,rfl,fo,kvs,kI x,p,.ref la,rfl,Sd.d,rfl,hp,hv,la,rfl,⟨_,SqL.of Std.li⟩,Xp Std (by omega) (fun _ y=>cnt (zs.map (·.2)) b i y) ?_ ?_⟩
    ·intro s hs R' E' r
     obtain ⟨kr',q,d',e1,e2⟩:=ent (Same.refl _) s hs
     obtain ⟨q1,q2⟩:=Std.tu s hs
     refine ⟨s.1,_,rfl,SqT.of q1,rfl,_,_,rfl,_,_,rfl,rfl,⟨[_,_],rfl,rfl⟩,?_⟩
     unfold jo
     dsimp only
     rw [if_pos rfl]
     exact ⟨_,rfl,_,rfl,ra,_,_,.ref lr,rfl,rfl,SqL.of hrd,hlast,_,rfl,lr,kr',kI s.2.2.2,s.2.2.1,.ref q,rfl,d',rfl,by rw [U7]; exact q2,e1,q,_,_,_,rfl,rfl,SqT.of e2,rfl,r⟩
    intro D1 hD1
    refine ⟨D1,_,rfl,SqL.of zf,?_⟩
    rw [Ze (fun p : Nat × List Int=>cnt (zs.map (·.2)) b i p.2),zb9]
    have n1:=zj hD1 (o:=.lst (((yp (zs.map (·.2)) x b).map fun p=>((cnt (zs.map (·.2)) b i p.2 : Nat) : Int)).map V.int))
    generalize upd Hd D1 (.lst (((yp (zs.map (·.2)) x b).map fun p=>((cnt (zs.map (·.2)) b i p.2 : Nat) : Int)).map V.int)) = He at n1
    have Ste : StepAt He (zs.map (·.2)) b x la ss:=Std.keep (by rw [Std.li]; exact n1 _ _ Std.li) fun c us q=>n1 _ _ q
    have hre:=n1 _ _ hrd
    refine ⟨_,rfl,_,rfl,fo,kvs,kI x,p,.ref la,rfl,(Sd.same n1).d,rfl,n1 _ _ hp,hv,la,rfl,⟨_,SqL.of Ste.li⟩,Xp Ste (by omega) (fun _ y=>tt (zs.map (·.2)) b (fun c=>c) b i y) ?_ ?_⟩
    ·intro s hs R' E' r
     obtain ⟨kr',q,d',e1,e2⟩:=ent n1 s hs
     obtain ⟨q1,q2⟩:=Ste.tu s hs
     refine ⟨s.1,_,rfl,SqT.of q1,rfl,_,_,rfl,_,_,rfl,rfl,⟨[_,_],rfl,rfl⟩,?_⟩
     unfold jo
     dsimp only
     rw [if_pos rfl]
     exact ⟨_,rfl,_,rfl,ra,_,_,.ref lr,rfl,rfl,SqL.of hre,hlast,_,rfl,lr,kr',kI s.2.2.2,s.2.2.1,.ref q,rfl,d',rfl,by rw [U7]; exact q2,e1,q,_,_,_,rfl,rfl,SqT.of e2,rfl,r⟩
    intro D2 hD2
    refine ⟨D2,_,rfl,SqL.of zf,?_⟩
    rw [Ze (fun p : Nat × List Int=>tt (zs.map (·.2)) b (fun c=>c) b i p.2)]
    have n2:=n1.trans (zj hD2 (o:=.lst (((yp (zs.map (·.2)) x b).map fun p=>((tt (zs.map (·.2)) b (fun c=>c) b i p.2 : Nat) : Int)).map V.int)))
    generalize upd He D2 (.lst (((yp (zs.map (·.2)) x b).map fun p=>((tt (zs.map (·.2)) b (fun c=>c) b i p.2 : Nat) : Int)).map V.int)) = Hf at n2
    have Stf : StepAt Hf (zs.map (·.2)) b x la ss:=Std.keep (by rw [Std.li]; exact n2 _ _ Std.li) fun c us q=>n2 _ _ q
    have hrf:=n2 _ _ hrd
    refine ⟨_,rfl,_,rfl,fo,kvs,kI x,p,.ref la,rfl,(Sd.same n2).d,rfl,n2 _ _ hp,hv,la,rfl,⟨_,SqL.of Stf.li⟩,Xp Stf (by omega) (fun c y=>c * cnt (zs.map (·.2)) b i y) ?_ ?_⟩
    ·intro s hs R' E' r
     obtain ⟨kr',q,d',e1,e2⟩:=ent n2 s hs
     obtain ⟨q1,q2⟩:=Stf.tu s hs
     refine ⟨s.1,_,rfl,SqT.of q1,rfl,_,_,rfl,_,_,rfl,rfl,⟨[_,_],rfl,rfl⟩,?_⟩
     unfold jo
     dsimp only
     rw [if_pos rfl]
     have hsb : s.2.1 < b:=(Zn (by rw [← Stf.eq]; exact List.mem_map.mpr ⟨s,hs,rfl⟩ : (s.2.1,s.2.2.2) ∈ yp (zs.map (·.2)) x b)).1
     refine ⟨_,rfl,_,rfl,_,rfl,ra,_,_,.ref lr,rfl,rfl,SqL.of hrf,hlast,_,rfl,lr,kr',kI s.2.2.2,s.2.2.1,.ref q,rfl,d',rfl,by rw [U7]; exact q2,e1,q,_,_,_,rfl,rfl,SqT.of e2,rfl,_,_,rfl,rfl,.inl ⟨by omega,by omega⟩,?_⟩
     dsimp only
     rw [← Int.natCast_mul]
     exact r
    intro D3 hD3
    refine ⟨D3,_,rfl,SqL.of zf,?_⟩
    rw [Ze (fun p : Nat × List Int=>p.1 * cnt (zs.map (·.2)) b i p.2)]
    have n3:=n2.trans (zj hD3 (o:=.lst (((yp (zs.map (·.2)) x b).map fun p=>((p.1 * cnt (zs.map (·.2)) b i p.2 : Nat) : Int)).map V.int)))
    generalize upd Hf D3 (.lst (((yp (zs.map (·.2)) x b).map fun p=>((p.1 * cnt (zs.map (·.2)) b i p.2 : Nat) : Int)).map V.int)) = Hg at n3
    have hpw : b ^ i≤2 ^ (4 * 60):=by
     have h3 : b ^ i≤16 ^ 60:=Nat.le_trans (Nat.pow_le_pow_left b16 _) (Nat.pow_le_pow_right (by decide) (by omega))
     rwa [show (16 : Nat) = 2 ^ 4 from rfl,← Nat.pow_mul] at h3
    have hmore : ((yp (zs.map (·.2)) x b).map fun p=>p.1 * cnt (zs.map (·.2)) b i p.2).sum≤2 ^ 8 * 2 ^ (4 * 60):=by
     refine Nat.le_trans (VR (B:=16 * 2 ^ (4 * 60)) fun p hp=>Nat.mul_le_mul (by have:=(Zn hp).1; omega) (Nat.le_trans (V9 _ _ _ _) hpw)) ?_
     rw [← Nat.mul_assoc]
     exact Nat.mul_le_mul (by have:=Xq (zs.map (·.2)) x b; omega) (Nat.le_refl _)
    refine ⟨_,rfl,_,rfl,_,rfl,_,rfl,_,_,rfl,rfl,⟨?_,?_⟩,_,_,rfl,rfl,(by show 2≤sizeLine; decide),fun tq htq=>?_⟩
    ·rw [Int.natAbs_natCast]
     exact Nat.lt_of_le_of_lt hpw (Nat.pow_lt_pow_right (by decide) (by decide))
    ·rw [Int.natAbs_natCast]
     exact Nat.lt_of_le_of_lt hmore (by rw [← Nat.pow_add]; exact Nat.pow_lt_pow_right (by decide) (by decide))
    dsimp only
    rw [← Int.natCast_mul,← Int.natCast_add,zcb]
    have n4:=n3.trans (zj htq (o:=.tup [.int ((cnt (zs.map (·.2)) b (i + 1) x : Nat) : Int),.int ((tt (zs.map (·.2)) b (fun c=>c) b (i + 1) x : Nat) : Int)]))
    have htv : (upd Hg tq (.tup [.int ((cnt (zs.map (·.2)) b (i + 1) x : Nat) : Int),.int ((tt (zs.map (·.2)) b (fun c=>c) b (i + 1) x : Nat) : Int)])) tq = some (.tup [.int ((cnt (zs.map (·.2)) b (i + 1) x : Nat) : Int),.int ((tt (zs.map (·.2)) b (fun c=>c) b (i + 1) x : Nat) : Int)]):=zf
    generalize upd Hg tq (.tup [.int ((cnt (zs.map (·.2)) b (i + 1) x : Nat) : Int),.int ((tt (zs.map (·.2)) b (fun c=>c) b (i + 1) x : Nat) : Int)]) = Hh at n4 htv
    refine ⟨_,rfl,_,rfl,rw0,kr,kI x,p,rfl,dd.same n4,rfl,n4 _ _ hp,Nat.lt_of_le_of_lt (show kr.length≤100 by omega) (by decide),fun Hk dk ck=>?_⟩
    have ktk : ∀ c us,Hh c = some (.tup us)->Hk c = some (.tup us):=fun c us q=>by rw [ck c ((dd.same n4).ne q)]; exact q
    refine ⟨_,_,_,_,_,rfl,dk,by have:=Ys kr (kI x) (.ref tq); omega,fun kv' hkv' x' ex'=>?_,fun c u hc e=>by rw [ck c hc]; exact n4 _ _ (sd c u hc e)⟩
    rw [XJ]
    by_cases hxx : kI x' = kI x
    ·obtain rfl:=V8 hxx
     rw [if_pos rfl]
     exact ⟨tq,rfl,ktk _ _ htv⟩
    ·rw [if_neg hxx]
     rw [List.take_succ,hkv] at hkv'
     rcases List.mem_append.mp hkv' with h | h
     ·obtain ⟨p',e1,e2⟩:=hkr' kv' h x' ex'
      exact ⟨p',e1,ktk _ _ (n4 _ _ e2)⟩
     ·have h : kv' = kv:=by simpa using h
      rw [h] at ex'
      exact absurd (ex'.symm.trans ex) hxx
   ·rintro σ Hd ⟨kr,v7,v8,v9,v10,rfl,dd,hkrl,hkr',sd⟩
    have kt : ∀ c us,H5 c = some (.tup us)->Hd c = some (.tup us):=fun c us q=>sd _ _ (d5.ne q) q
    have nlst : ∀ {c : Addr} {us : List V},H5 c = some (.lst us)->c ≠ rw0:=fun {c us} h z=>by
     obtain ⟨_,_,e,_⟩:=d5
     rw [z,e] at h; cases h
    have hrd : Hd ra = some (.lst (rs.map V.ref)):=sd _ _ (nlst Rw5.li) Rw5.li
    refine ⟨_,rfl,.inl ⟨rfl,_,SqL.of hrd⟩,_,rfl,ra,_,_,rfl,rfl,hrd,by rw [List.length_map]; exact Nat.lt_of_le_of_lt (show rs.length≤100 by omega) (by decide),?_⟩
    have ktr : ∀ c us,Hd c = some (.tup us)->(upd Hd ra (.lst (rs.map V.ref ++ [.ref rw0]))) c = some (.tup us):=fun c us q=>by rw [zq (fun z=>by rw [z,hrd] at q; cases q)]; exact q
    have ker : ∀ {c : Addr} {φ},Hd c = some (.ext φ)->(upd Hd ra (.lst (rs.map V.ref ++ [.ref rw0]))) c = Hd c:=fun {c φ} q=>zq fun z=>by rw [z,hrd] at q; cases q
    have s6 : Same H (upd Hd ra (.lst (rs.map V.ref ++ [.ref rw0]))):=fun c u e=>by
     rw [zq (zy e hra0)]
     exact sd c u (zy (sc _ _ e) hrw) (m5 _ _ (sc _ _ e))
    have Row6 : ∀ t a,(rs ++ [rw0])[t]? = some a->RowD P w (upd Hd ra (.lst (rs.map V.ref ++ [.ref rw0]))) a (zs.map (·.2)) b t M:=fun t a e=>by
     by_cases ht : t < rs.length
     ·rw [List.getElem?_append_left ht] at e
      have L5:=Rw5.ok t a e
      obtain ⟨φ,e1⟩:=L5.ext
      have hne : a ≠ rw0:=fun z=>by
       obtain ⟨φ,e2⟩:=(Rw.ok t a e).ext
       rw [z,hrw] at e2; cases e2
      have Ld:=L5.keep (by rw [e1]; exact sd _ _ hne e1) kt
      obtain ⟨φ2,e3⟩:=Ld.ext
      exact Ld.keep (ker e3) ktr
     ·have hl:=(List.getElem?_eq_some_iff.mp e).1
      rw [List.length_append,List.length_singleton] at hl
      have et : t = rs.length:=by omega
      subst et
      rw [List.getElem?_concat_length] at e
      cases e
      have d:=dd
      obtain ⟨_,_,e3,_⟩:=d
      refine ⟨kr,dd.stay (ker e3) ktr,fun x hx=>?_⟩
      rw [eM] at hx
      have hin : kI x ∈ kvs.map (·.1):=by
       cases e : yw kvs (kI x) with
       | none=>exact absurd e hx
       | some v=>exact Jq e
      obtain ⟨kv,hkv,ekv⟩:=List.mem_map.mp hin
      obtain ⟨p,e1,e2⟩:=hkr' kv (by rw [List.take_length]; exact hkv) x ekv
      rw [hrl]
      exact ⟨p,e1,ktr _ _ e2⟩
    have S6 : StepsD P w (upd Hd ra (.lst (rs.map V.ref ++ [.ref rw0]))) fo (zs.map (·.2)) b kvs:=by
     have d:=S5.d
     obtain ⟨_,_,e1,_⟩:=d
     have e2:=sd _ _ hrwfo e1
     refine S5.keep (by rw [ker e2,e2,e1]) (fun kv hk la e=>?_) fun c us q=>ktr _ _ (kt c us q)
     obtain ⟨x,la',ss,_,_,h3,h4⟩:=S5.ok kv hk
     rw [e] at h3
     cases h3
     rw [zq (fun z=>hkr kv hk (by rw [e,z])),h4.li]
     exact sd _ _ (nlst h4.li) h4.li
    have hr6 : (upd Hd ra (.lst (rs.map V.ref ++ [.ref rw0]))) ra = some (.lst ((rs ++ [rw0]).map V.ref)):=by rw [zf,List.map_append]; rfl
    generalize upd Hd ra (.lst (rs.map V.ref ++ [.ref rw0])) = H6 at s6 Row6 S6 hr6
    refine ⟨_,rfl,_,rfl,r,_,_,.int b,rfl,rfl,SqT.of (s6 _ _ R.tu),rfl,_,_,rfl,rfl,.inr ⟨by omega,by omega⟩,rs ++ [rw0],some (.int (0 + (i : Int))),some (.ref rw0),v7,v8,v9,v10,?_,by rw [List.length_append,hrl]; rfl,⟨hr6,Row6⟩,S6,s6⟩
    dsimp only
    rw [show ((b ^ i : Nat) : Int) * (b : Int) = ((b ^ (i + 1) : Nat) : Int) by rw [Nat.pow_succ,Int.natCast_mul]]
    rfl
  ·rintro σ Hc ⟨rs,v5,v6,v7,v8,v9,v10,rfl,hrl,Rw,S,sc⟩
   exact ⟨_,rfl,kk ra rs M Hc hra0 sc Rw hrl CM⟩
end
theorem Q0 {ls ws : List (List Int)} {b : Nat} (G : GoodT b ls ws) {r : List V} (hr : r ∈ Zi ls ws b) {a : Addr} : V.ref a ∉ r:=by
 obtain ⟨i,hi,e⟩:=List.mem_iff_getElem.mp hr
 have hlen : (Zi ls ws b).length = ws.length + 1:=by unfold Zi; rw [List.length_append,List.length_map,List.length_singleton]
 have hi' : i≤ws.length:=by omega
 have h:=Xe (ls:=ls) (b:=b) (by have:=G.g.b2; omega) hi'
 rw [List.getElem?_eq_getElem hi,e] at h
 have h':=Option.some.inj h
 intro hm
 rw [h'] at hm
 obtain ⟨c,_,hc⟩:=List.mem_map.mp hm
 rcases Va (b:=b) (t:=0) G (c:=c) hi' with ⟨e1,_⟩ | ⟨j,e1,_⟩
 ·rw [e1] at hc; cases hc
 ·rw [e1] at hc; cases hc
theorem TailsAt.updL {C tl la b l2 : Nat} {H : Hp} {ls ws : List (List Int)} {L : Nat} {o : HO} {r0 : Addr} {rest : List V} (TA : TailsAt C H tl la b ls ws L) (G : GoodT b ls ws) (h : H l2 = some (.lst (V.ref r0 :: rest))) (hne : la ≠ l2) (hsa : ∃ dx sa,H tl = some (.ins C dx (Xl b ws.length sa la))∧sa ≠ l2) : TailsAt C (upd H l2 o) tl la b ls ws L:=by
 obtain ⟨dx,sa,srs,h1,h2,h3,h4⟩:=TA.ob
 obtain ⟨lrs,g1,g2,g3⟩:=TA.ly
 obtain ⟨dx',sa',k1,k2⟩:=hsa
 have esa : sa' = sa:=by
  have:=yc _ _ _ _ h1
  rw [k1] at this
  injection this with this
  injection this with _ _ this
  have e:=ji b ws.length sa la
  rw [← this,ji] at e
  injection e with e
  injection e
 have go : ∀ c u,c ≠ l2->aw [la] H c = some u->aw [la] (upd H l2 o) c = some u:=fun c u hc e=>by
  have hcl : c ∉ [la]:=fun hz=>by rw [q9 hz] at e; cases e
  rw [zP hcl] at e ⊢
  rw [zq hc]; exact e
 refine ⟨⟨dx,sa,srs,go _ _ (fun z=>?_) h1,go _ _ (fun z=>k2 (by rw [esa,z])) h2,fun z hz=>go _ _ (fun y=>?_) (h3 z hz),h4⟩,⟨lrs,by rw [zq hne]; exact g1,fun z hz=>go _ _ (fun y=>?_) (g2 z hz),g3⟩,TA.l1⟩
 ·have:=yc _ _ _ _ h1
  rw [z,h] at this; cases this
 ·have e:=yc _ _ _ _ (h3 z hz)
  rw [y,h] at e
  injection e with e
  injection e with e
  have hm : z.2 ∈ Zi ls ws b:=by rw [← h4]; exact List.mem_map.mpr ⟨z,hz,rfl⟩
  exact Q0 G hm (a:=r0) (by rw [← e]; exact List.mem_cons_self)
 ·have e:=yc _ _ _ _ (g2 z hz)
  rw [y,h] at e
  injection e with e
  injection e with e
  cases hz2 : z.2 with
  | nil=>rw [hz2] at e; cases e
  | cons a l=>rw [hz2,List.map_cons] at e; injection e with e _; cases e
theorem TailsAt.updI {C tl la b p CS dxp : Nat} {H : Hp} {ls ws : List (List Int)} {L : Nat} {o : HO} {fs : List (Str × V)} (TA : TailsAt C H tl la b ls ws L) (h : H p = some (.ins CS dxp fs)) (hne : tl ≠ p) : TailsAt C (upd H p o) tl la b ls ws L:=by
 obtain ⟨dx,sa,srs,h1,h2,h3,h4⟩:=TA.ob
 obtain ⟨lrs,g1,g2,g3⟩:=TA.ly
 have nl : ∀ {c : Addr} {xs : List V},H c = some (.lst xs)->c ≠ p:=fun e z=>by rw [z,h] at e; cases e
 have go : ∀ c u,c ≠ p->aw [la] H c = some u->aw [la] (upd H p o) c = some u:=fun c u hc e=>by
  have hcl : c ∉ [la]:=fun hz=>by rw [q9 hz] at e; cases e
  rw [zP hcl] at e ⊢
  rw [zq hc]; exact e
 exact ⟨⟨dx,sa,srs,go _ _ hne h1,go _ _ (nl (yc _ _ _ _ h2)) h2,fun z hz=>go _ _ (nl (yc _ _ _ _ (h3 z hz))) (h3 z hz),h4⟩,⟨lrs,by rw [zq (nl g1)]; exact g1,fun z hz=>go _ _ (nl (yc _ _ _ _ (g2 z hz))) (g2 z hz),g3⟩,TA.l1⟩
theorem RowsAt.updI {H : Hp} {a p CS dxp : Addr} {rs : List (List Int)} {o : HO} {fs : List (Str × V)} (R : RowsAt H a rs) (h : H p = some (.ins CS dxp fs)) : RowsAt (upd H p o) a rs:=by
 obtain ⟨zs,h1,h2,h3⟩:=R.ex
 have nl : ∀ {c : Addr} {xs : List V},H c = some (.lst xs)->c ≠ p:=fun e z=>by rw [z,h] at e; cases e
 exact ⟨⟨zs,by rw [zq (nl h1)]; exact h1,fun z hz=>by rw [zq (nl (h2 z hz))]; exact h2 z hz,h3⟩⟩
theorem LT.putI {T p CS dx : Addr} {H : Hp} {o : HO} {fs : List (Str × V)} (h : LT T H) (e : H p = some (.ins CS dx fs)) : LT T (upd H p o):=by
 have nT : p ≠ T:=fun z=>by
  rw [z] at e
  rcases h with h | ⟨c,h,_⟩
  ·rw [h] at e; cases e
  ·rw [h] at e; cases e
 rcases h with h | ⟨c,h1,h2⟩
 ·exact .inl (by rw [zq (Ne.symm nT)]; exact h)
 ·exact .inr ⟨c,by rw [zq (Ne.symm nT)]; exact h1,by rw [zq (fun z=>by rw [z,e] at h2; cases h2)]; exact h2⟩
section
variable {C CS : Addr} {H H' : Hp} {p tl la wa l2 : Addr} {b : Nat} {ls ws : List (List Int)} {L L' : Nat} {wt : Nat->Nat} {sc sz M : Nat}
theorem TotAt.push (A : TotAt C CS H p tl la wa l2 b ls ws L wt sc sz M) (G : GoodT b ls ws) (hM : 1≤M) {q : Addr} {xs : List V} (hx : H l2 = some (.lst xs)) (hq : aw [la,l2] H q = some (.lst ((jU ls ws b wt sc M).map V.int))) : TotAt C CS (upd H l2 (.lst (xs ++ [.ref q]))) p tl la wa l2 b ls ws L wt sc sz (M + 1):=by
 obtain ⟨dx,h1⟩:=A.ob
 obtain ⟨dx2,sa,h2,h3⟩:=A.sa
 obtain ⟨zs,g1,g2,g3⟩:=A.ly
 have ex : xs = zs.map fun z=>V.ref z.1:=by
  rw [hx] at g1
  injection g1 with g1
  injection g1
 have hzl : zs.length = M:=by have:=congrArg List.length g3; rwa [List.length_map,List.length_map,List.length_range] at this
 have e0:=qP (fp:=[la,l2]) (H:=H) (b:=l2) (o:=.lst (xs ++ [.ref q])) (by simp)
 obtain ⟨z0,zr,ez⟩ : ∃ z0 zr,zs = z0 :: zr:=by
  cases zs with
  | nil=>simp at hzl; omega
  | cons a l=>exact ⟨a,l,rfl⟩
 refine ⟨⟨dx,by rw [e0]; exact h1⟩,A.ta.updL G (r0:=z0.1) (rest:=zr.map fun z=>V.ref z.1) (by rw [hx,ex,ez]; rfl) A.ne ⟨dx2,sa,yc _ _ _ _ h2,h3⟩,⟨dx2,sa,by rw [e0]; exact h2,h3⟩,by rw [e0]; exact A.wr,⟨zs ++ [(q,jU ls ws b wt sc M)],by rw [zf,ex]; simp,fun z hz=>?_,?_⟩,A.ne⟩
 ·rw [e0]
  rcases List.mem_append.mp hz with hz | hz
  ·exact g2 z hz
  ·have e : z = (q,jU ls ws b wt sc M):=by simpa using hz
   subst e; exact hq
 ·rw [List.map_append,g3,List.range_succ,List.map_append]
  rfl
end
section
variable {P : Program} {w : World} {K : PySem.W.Frag} {mg : Str->Option Value} {base : Heap} {T0 C CS : Addr}
def qt (C CS : Addr) : Sp:=fun vs H Q _=>∃ (p tl la wa l2 : Addr) (b : Nat) (ls ws : List (List Int)) (L : Nat) (wt : Nat->Nat) (sc sz M t : Nat),vs = [.ref p,.int t]∧TotAt C CS H p tl la wa l2 b ls ws L wt sc sz M∧GoodT b ls ws∧L≤900∧t < 900∧t < sz∧t < M∧sc≤16∧(∀ c,c < b->wt c < 2 ^ 64) ∧
 ∀ q,SQ C CS H p tl la wa l2 b ls ws L wt sc sz M fun L' H'=>L'≤max L (t + 1)->aw [la,l2] H' q = some (.lst ((jU ls ws b wt sc (t + 1)).map V.int))->Q (.ref q) H'
theorem ZW : zE ["self","left"] ["self","left"] (zu yC):=⟨rfl,rfl,rfl,by decide +kernel,rfl,by decide +kernel,by decide +kernel⟩
set_option maxHeartbeats 0 in
theorem Vo {f f1 : Addr} {fd fd1 : FuncData} (D : Mt K CS "Totals.longer_layer" "longer_layer" yC ["self","left"] f fd) (xO : Mt K CS "Totals.total_under" "total_under" xf ["self","place","stop","left","ahead"] f1 fd1) (vq : FnOk P w K mg base CX0 3 f1 fd1 ["self","place","stop","left","ahead"] (qN C CS)) (zG : ClT K mg C) (zJ : ClS K mg CS) (T : Blt mg) : FnOk P w K mg base CX0 4 f fd ["self","left"] (qt C CS):=by
 refine D.fn.ok ZW (fun vs H Q E h=>?_) (fun cdv A outer s H vs Q E hr h=>?_)
 ·obtain ⟨p,tl,la,wa,l2,b,ls,ws,L,wt,sc,sz,M,t,rfl,_⟩:=h; rfl
 ·obtain ⟨p,tl,la,wa,l2,b,ls,ws,L,wt,sc,sz,M,t,rfl,TT,G,hL,ht,hts,htM,hsc,hwt,kk⟩:=h
  have h13:=G.h13
  obtain ⟨dx,hp⟩:=TT.obj
  obtain ⟨dt,sa0,htl⟩:=TT.ta.obj
  refine ⟨_,(zx (zL (wJ (show CScope (zu yC) _ "place" ["self","left"] ["left","self"] [1,0] from ⟨rfl,by decide +kernel,by decide +kernel,rfl,by decide +kernel,rfl,by decide +kernel,by decide +kernel⟩) rfl (zY rfl T.n_range (zc (zM yu (xY K (xY K (pv 0))) zp) zg)) (fun _ _ _ _=>yE) (fun _ _ _ _=>(Yb xO zJ.cl vq (hr.mono (by decide)) (pv 2) (zc (pv 0) (zc (xY K (xY K (pv 2))) (zc (pv 1) (zc zp zg))))))))),?_⟩
  refine ⟨_,rfl,p,CS,dx,_,_,rfl,hp,zJ.cl,zJ.n_tails,uV _ _ _,tl,C,dt,_,_,rfl,htl,zG.cl,zG.n_outset,vW _ _ _ _,_,_,rfl,rfl,((ws.length : Int) + 1),rfl,by omega,by omega,xJ (lo:=0) (n:=((ws.length : Int) + 1).toNat) (fun i ys H4=>∃ L',ys = (((List.range i).map fun i=>((Zo ls b wt sc t ws[i]? b : Nat) : Int))).map V.int∧L≤L'∧L'≤max L (t + 1)∧TotAt C CS H4 p tl la wa l2 b ls ws L' wt sc sz M∧Same (aw [la] H) (aw [la] H4)) ⟨L,rfl,Nat.le_refl _,Nat.le_max_left _ _,TT,Same.refl _⟩ ?_ ?_⟩
  ·rintro i ys H4 hi ⟨L',rfl,hLL,hLm,TT4,m4⟩
   refine ⟨by rw [List.length_map,List.length_map,List.length_range]; exact Nat.lt_of_lt_of_le (show i < 20 by omega) (by decide),?_⟩
   unfold jo
   dsimp only
   rw [if_pos rfl]
   obtain ⟨dx4,hp4⟩:=TT4.obj
   obtain ⟨dt4,sa4,htl4⟩:=TT4.ta.obj
   refine ⟨_,rfl,p,dx4,_,rfl,hp4,Wj _ _ _,_,rfl,_,rfl,p,CS,dx4,_,_,rfl,hp4,zJ.cl,zJ.n_tails,uV _ _ _,tl,C,dt4,_,_,rfl,htl4,zG.cl,zG.n_base,Qv _ _ _ _,_,rfl,p,tl,la,wa,l2,b,ls,ws,L',wt,sc,sz,M,i,b,t,0,by rw [Int.zero_add]; rfl,TT4,G,by omega,ht,hts,htM,by omega,Nat.le_refl _,hsc,hwt,Nat.pow_pos (by decide),fun L5 H5 hL5 TT5 m5 hm5=>⟨L5,?_,by omega,by omega,TT5,m4.trans m5⟩⟩
   rw [List.range_succ,List.map_append,List.map_append,Nat.zero_mul,Nat.zero_add]
   rfl
  ·rintro ys H4 ⟨L',rfl,hLL,hLm,TT4,m4⟩ q hq
   rw [show ((ws.length : Int) + 1).toNat = ws.length + 1 by omega,zbE]
   have m5:=zj hq (o:=.lst ((jU ls ws b wt sc (t + 1)).map V.int))
   obtain ⟨xs,hla⟩:=TT4.ta.la
   obtain ⟨zs,hl2,_⟩:=TT4.ly
   exact kk q L' _ hLL (TT4.same m5) (m4.trans (m5.aw [la])) hLm (by rw [zP (by simp [Ne.symm (zy hla hq),Ne.symm (zy hl2 hq)]),zf])
def qi (C CS : Addr) : Sp:=fun vs H Q _=>∃ (p tl la wa l2 : Addr) (b : Nat) (ls ws : List (List Int)) (L : Nat) (wt : Nat->Nat) (sc sz M t : Nat),vs = [.ref p,.int t]∧TotAt C CS H p tl la wa l2 b ls ws L wt sc sz M∧t < M∧Q (.int (ttO ls b wt sc t : Nat)) H
theorem Zk : zE ["self","size"] ["self","size"] (zu yR):=⟨rfl,rfl,rfl,by decide +kernel,rfl,by decide +kernel,by decide +kernel⟩
theorem Vp {f : Addr} {fd : FuncData} (D : Mt K CS "Totals.total_within" "total_within" yR ["self","size"] f fd) (zG : ClT K mg C) (zJ : ClS K mg CS) : FnOk P w K mg base CX0 1 f fd ["self","size"] (qi C CS):=by
 refine D.fn.ok Zk (fun vs H Q E h=>?_) (fun cdv A outer s H vs Q E hr h=>?_)
 ·obtain ⟨p,tl,la,wa,l2,b,ls,ws,L,wt,sc,sz,M,t,rfl,_⟩:=h; rfl
 ·obtain ⟨p,tl,la,wa,l2,b,ls,ws,L,wt,sc,sz,M,t,rfl,TT,htM,kk⟩:=h
  obtain ⟨dx,hp⟩:=TT.obj
  obtain ⟨dt,sa0,htl⟩:=TT.ta.obj
  obtain ⟨zs,tq,g1,g2,g3⟩:=TT.lay htM
  refine ⟨_,(zx (zL (zQ (yS K) (zQ (yS K) (xY K (pv 0)) (pv 1) (fun _ _=>rfl)) (xY K (xY K (pv 0))) (fun _ _=>rfl)))),?_⟩
  refine ⟨_,rfl,p,CS,dx,_,_,rfl,hp,zJ.cl,zJ.n_layers,Yd _ _ _,_,rfl,l2,_,_,V.ref tq,rfl,rfl,SqL.of g1,g2,_,rfl,p,CS,dx,_,_,rfl,hp,zJ.cl,zJ.n_tails,uV _ _ _,tl,C,dt,_,_,rfl,htl,zG.cl,zG.n_outset,vW _ _ _ _,tq,_,_,V.int ((ttO ls b wt sc t : Nat) : Int),rfl,rfl,SqL.of (yc _ _ _ _ g3),yQ ?_,kk⟩
  unfold jU
  rw [List.map_append,List.getElem?_append_right (by rw [List.length_map,List.length_map]; exact Nat.le_refl _),List.length_map,List.length_map,Nat.sub_self]
  rfl
end
theorem LT.putL2 {T p : Addr} {H : Hp} {o : HO} {xs : List V} (h : LT T H) (e : H p = some (.lst xs)) : LT T (upd H p o) :=
 h.off e (by rw [qP (by simp)]; exact Same.refl _)
theorem Xo {α : Type} {f : α->V} (h : ∀ a,f a = V.int 0) : ∀ l : List α,(List.replicate l.length [V.int 0]).flatten = l.map f
 | []=>rfl
 | a :: l=>by rw [List.length_cons,List.replicate_succ,List.flatten_cons,Xo h l,List.map_cons,h a]; rfl
theorem zb8 {ls ws : List (List Int)} {b sc : Nat} {wt : Nat->Nat} : (jU ls ws b wt sc 0).map V.int = (List.replicate ws.length [V.int 0]).flatten ++ [V.int ((wt 0 : Nat) * (wW ls b 0 : Nat) : Int)]:=by
 unfold jU
 rw [List.map_append,List.map_map,Xo (f:=V.int ∘ fun x=>((tt ls b wt sc 0 x : Nat) : Int)) (fun _=>rfl) ws]
 congr 1
section
variable {P : Program} {w : World} {K : PySem.W.Frag} {mg : Str->Option Value} {base : Heap} {T0 C CS : Addr}
def WY (T0 C CS : Addr) : Sp:=fun vs H Q _=>∃ (p dx r : Addr) (b : Nat) (bl : Addr) (zs : List (Addr × List Int)) (wl : Addr) (wt : Nat->Nat) (sc sz : Nat),vs = [.ref p,.ref r,.ref wl,.int sc,.int sz]∧H p = some (.ins CS dx [])∧RuleAt H r b bl zs∧zW b (zs.map (·.2))∧LT T0 H∧H wl = some (.lst ((vA b wt sc 0).map V.int))∧sc≤16∧sz≤800∧(∀ c,c < b->wt c < 2 ^ 64) ∧
 ∀ (tl la wa l2 : Addr) (ws : List (List Int)) (L : Nat) (H' : Hp),TotAt C CS H' p tl la wa l2 b (zs.map (·.2)) ws L wt sc sz (sz + 1)->GoodT b (zs.map (·.2)) ws->L≤801->(∀ c o,c ≠ p->c ≠ T0->H c = some o->H' c = some o)->LT T0 H'->H la = none->H l2 = none->Q .non H'
theorem jj : zE ["self","rule","weights","scale","size","left"] ["self","rule","weights","scale","size"] (zu uh):=⟨rfl,rfl,rfl,by decide +kernel,rfl,by decide +kernel,by decide +kernel⟩
set_option maxHeartbeats 0 in
theorem zbS {f f1 f2 f3 f4 : Addr} {fd fd1 fd2 fd3 fd4 : FuncData} (D : Mt K CS "Totals.__init__" "__init__" uh ["self","rule","weights","scale","size"] f fd) (WP : Mk K C f1) (Wt : Binds K fd1 ["self","rule"] []) (vX : FnOk P w K mg base CX0 7 f1 fd1 ["self","rule"] (Yz T0 C)) (w5 : Df K mg "weights_by_left" xj ["weights","scale","size"] f2 fd2) (uL : FnOk P w K mg base CX0 1 f2 fd2 ["weights","scale","size"] vQ)
  (zT : Mt K C "Tails.many_within" "many_within" yx ["self","size"] f3 fd3) (zZ : FnOk P w K mg base CX0 3 f3 fd3 ["self","size"] (wN C)) (xg : Mt K CS "Totals.longer_layer" "longer_layer" yC ["self","left"] f4 fd4) (wO : FnOk P w K mg base CX0 4 f4 fd4 ["self","left"] (qt C CS)) (zG : ClT K mg C) (zJ : ClS K mg CS) (T : Blt mg) : FnOk P w K mg base CX0 9 f fd ["self","rule","weights","scale","size"] (WY T0 C CS):=by
 refine D.fn.ok jj (fun vs H Q E h=>?_) (fun cdv A outer s H vs Q E hr h=>?_)
 ·obtain ⟨p,dx,r,b,bl,zs,wl,wt,sc,sz,rfl,_⟩:=h; rfl
 ·obtain ⟨p,dx,r,b,bl,zs,wl,wt,sc,sz,rfl,hp,R,g,hT,hwl,hsc,hsz,hwt,kk⟩:=h
  have b2:=g.b2
  have b16:=g.b16
  have npT : p ≠ T0:=fun z=>by
   rw [z] at hp
   rcases hT with h | ⟨c,h,_⟩
   ·rw [h] at hp; cases hp
   ·rw [h] at hp; cases hp
  have wlp : wl ≠ p:=jd hwl hp (fun z=>nomatch z)
  refine ⟨_,(zm (Y9 (pv 0) (Jx WP vX (hr.mono (by decide)) rfl zG.nm Wt .nil zap (zc (pv 1) zg)) rfl)
   (zm (Y9 (pv 0) (zO w5 uL (hr.mono (by decide)) (zc (pv 2) (zc (pv 3) (zc (pv 4) zg)))) rfl)
   (zm (Y9 (pv 0) (zU (zc (zM Xa (zM zcz (zU (zc zp zg)) (xY K (xY K (pv 0)))) (zU (zc (zM uB (zQ (yS K) (pv 2) zp (fun _ _=>rfl)) (Yb zT zG.cl zZ (hr.mono (by decide)) (xY K (pv 0)) (zc zp zg))) zg))) zg)) rfl)
   (zx (xM PassesOwn.never rfl (zY rfl T.n_range (zc (pv 4) zg)) (zR (i:=5) jj.nd rfl (Or.inl rfl))
    (zx (xP (Z3 PySem.F.plainAttrs_list PySem.F.slot_list_append PySem.F.type_list_append vd (xY K (pv 0)) (zc (Yb xg zJ.cl wO (hr.mono (by decide)) (pv 0) (zc (pv 5) zg)) zg))))))))),?_⟩
  refine ⟨_,rfl,?_⟩
  refine zbd R g hT ?_
  rintro tl H1 ⟨la,ws,TA1,G,m1,hT1,hla⟩
  have h13:=G.h13
  have hp1:=m1 _ _ npT hp
  have hwl1:=m1 _ _ (hT.lst hwl) hwl
  have tlp : tl ≠ p:=fun z=>by
   obtain ⟨dt,sa,e⟩:=TA1.obj
   rw [z,hp1] at e
   injection e with e
   injection e with _ _ e
   have:=ji b ws.length sa la
   rw [← e] at this
   cases this
  refine ⟨_,rfl,p,CS,dx,_,rfl,hp1,zJ.cl,zJ.n_tails,(by show 0 < 1000; decide),?_⟩
  have TA2:=TA1.updI (o:=.ins CS dx (yh "tails" (.ref tl) [])) hp1 tlp
  have hT2:=hT1.putI (o:=.ins CS dx (yh "tails" (.ref tl) [])) hp1
  have hp2 : upd H1 p (.ins CS dx (yh "tails" (.ref tl) [])) p = some (.ins CS dx (yh "tails" (.ref tl) [])):=zf
  have hwl2 : upd H1 p (.ins CS dx (yh "tails" (.ref tl) [])) wl = some (.lst ((vA b wt sc 0).map V.int)):=by rw [zq wlp]; exact hwl1
  have n2 : ∀ c o,c ≠ p->c ≠ T0->H c = some o->upd H1 p (.ins CS dx (yh "tails" (.ref tl) [])) c = some o:=fun c o h1 h2 e=>by rw [zq h1]; exact m1 c o h2 e
  generalize upd H1 p (.ins CS dx (yh "tails" (.ref tl) [])) = H2 at TA2 hT2 hp2 hwl2 n2
  refine ⟨_,rfl,_,rfl,_,rfl,wl,b,wt,sc,sz,rfl,hwl2,b16,hsc,by omega,fun wa H3 hwa RW3 m3=>?_⟩
  have hp3:=m3 _ _ hp2
  refine ⟨_,rfl,p,CS,dx,_,rfl,hp3,zJ.cl,zJ.n_weights,(by show 1 < 1000; decide),?_⟩
  have TA3:=TA2.same m3
  have TA4:=TA3.updI (o:=.ins CS dx (yh "weights" (.ref wa) (yh "tails" (.ref tl) []))) hp3 tlp
  have hT4:=(hT2.same m3).putI (o:=.ins CS dx (yh "weights" (.ref wa) (yh "tails" (.ref tl) []))) hp3
  have RW4:=RW3.updI (o:=.ins CS dx (yh "weights" (.ref wa) (yh "tails" (.ref tl) []))) hp3
  have hp4 : upd H3 p (.ins CS dx (yh "weights" (.ref wa) (yh "tails" (.ref tl) []))) p = some (.ins CS dx (yh "weights" (.ref wa) (yh "tails" (.ref tl) []))):=zf
  have hwl4 : upd H3 p (.ins CS dx (yh "weights" (.ref wa) (yh "tails" (.ref tl) []))) wl = some (.lst ((vA b wt sc 0).map V.int)):=by rw [zq wlp]; exact m3 _ _ hwl2
  have n4 : ∀ c o,c ≠ p->c ≠ T0->H c = some o->upd H3 p (.ins CS dx (yh "weights" (.ref wa) (yh "tails" (.ref tl) []))) c = some o:=fun c o h1 h2 e=>by rw [zq h1]; exact m3 _ _ (n2 c o h1 h2 e)
  generalize upd H3 p (.ins CS dx (yh "weights" (.ref wa) (yh "tails" (.ref tl) []))) = H4 at TA4 hT4 RW4 hp4 hwl4 n4
  have lkt : (yh "weights" (.ref wa) (yh "tails" (.ref tl) [])).lookup ("tails" : Str) = some (V.ref tl):=by rw [zK,if_neg (by decide +kernel),zK,if_pos rfl]
  refine ⟨(by show 1≤sizeLine; decide),fun q1 k1=>?_⟩
  have s1:=zj k1 (o:=.lst [V.int 0])
  obtain ⟨dt,sa,htl⟩:=(TA4.same s1).obj
  refine ⟨_,rfl,p,CS,dx,_,_,rfl,s1 _ _ hp4,zJ.cl,zJ.n_tails,lkt,tl,C,dt,_,_,rfl,htl,zG.cl,zG.n_outset,vW _ _ _ _,?_⟩
  refine ⟨q1,_,_,rfl,rfl,zf,by omega,by omega,?_,fun q2 k2=>?_⟩
  ·show 1 * (ws.length : Int).toNat≤sizeLine
   exact Nat.le_trans (show 1 * (ws.length : Int).toNat≤13 by omega) (by decide)
  have q2la : q2 ≠ la:=fun z=>by
   obtain ⟨lx,hlx⟩:=TA4.la
   have:=s1 _ _ hlx
   rw [← z,k2] at this; cases this
  have s2:=s1.trans (zj k2 (o:=.lst (List.replicate (ws.length : Int).toNat [V.int 0]).flatten))
  have hq2 : upd (upd H4 q1 (.lst [V.int 0])) q2 (.lst (List.replicate (ws.length : Int).toNat [V.int 0]).flatten) q2 = some (.lst (List.replicate (ws.length : Int).toNat [V.int 0]).flatten):=zf
  generalize upd (upd H4 q1 (.lst [V.int 0])) q2 (.lst (List.replicate (ws.length : Int).toNat [V.int 0]).flatten) = H5 at s2 hq2
  have TA5:=TA4.same s2
  obtain ⟨dt5,sa5,htl5⟩:=TA5.obj
  refine ⟨_,rfl,wl,_,_,V.int ((sc ^ 0 * wt 0 : Nat) : Int),rfl,rfl,SqL.of (s2 _ _ hwl4),?_,?_⟩
  ·refine yQ (j:=0) ?_
   unfold vA
   rw [List.getElem?_map,List.getElem?_map,List.getElem?_range (by omega)]
   rfl
  refine ⟨_,rfl,p,CS,dx,_,_,rfl,s2 _ _ hp4,zJ.cl,zJ.n_tails,lkt,tl,dt5,_,rfl,htl5,YF _ _ _ _,tl,la,b,_,ws,1,0,rfl,TA5,G,by decide,by decide,fun L6 H6 hL6 TA6 m6 hmx=>?_⟩
  have w0:=hwt 0 (by omega)
  have e00 : sc ^ 0 * wt 0 = wt 0:=by rw [Nat.pow_zero,Nat.one_mul]
  refine ⟨_,_,rfl,rfl,.inl ⟨by omega,by omega⟩,?_⟩
  have hT6 : LT T0 H6:=(hT4.same s2).off (la:=la) (xs:=_) (TA5.la.choose_spec) m6
  have off6 : ∀ c o,c ≠ la->H5 c = some o->H6 c = some o:=fun c o hc e=>by
   have hc' : c ∉ [la]:=by simpa using hc
   have:=m6 c o (by rw [zP hc']; exact e)
   rwa [zP hc'] at this
  obtain ⟨lx,hlx⟩:=TA4.la
  have pla : p ≠ la:=jd hp4 hlx (fun z=>nomatch z)
  have hp6:=off6 _ _ pla (s2 _ _ hp4)
  have hq6':=off6 _ _ q2la hq2
  refine ⟨(by show 1≤sizeLine; decide),fun q4 k4=>?_⟩
  have nq : q2 ≠ q4:=zy hq6' k4
  refine ⟨q2,q4,_,_,rfl,rfl,by rw [zq nq]; exact hq6',zf,?_,fun q5 k5=>⟨(by show 1≤sizeLine; decide),fun q6 k6=>?_⟩⟩
  ·rw [Int.toNat_natCast,Xo (f:=fun _=>V.int 0) (fun _=>rfl) ws,List.length_map]
   exact Nat.le_trans (show ws.length + 1≤14 by omega) (by decide)
  have t4:=zj k4 (o:=.lst [V.int (((sc ^ 0 * wt 0 : Nat) : Int) * ((wW (zs.map (·.2)) b 0 : Nat) : Int))])
  have t5:=t4.trans (zj k5 (o:=.lst ((List.replicate (ws.length : Int).toNat [V.int 0]).flatten ++ [V.int (((sc ^ 0 * wt 0 : Nat) : Int) * ((wW (zs.map (·.2)) b 0 : Nat) : Int))])))
  have t6:=t5.trans (zj k6 (o:=.lst [V.ref q5]))
  have f6:=t5.free k6
  refine ⟨_,rfl,p,CS,dx,_,rfl,t6 _ _ hp6,zJ.cl,zJ.n_layers,(by show 2 < 1000; decide),?_⟩
  have np5 : q5 ≠ q6:=fun z=>by rw [← z,zf] at k6; cases k6
  have hp9:=t6 _ _ hp6
  have hq6:=(zf : upd (upd (upd H6 q4 (.lst [V.int (((sc ^ 0 * wt 0 : Nat) : Int) * ((wW (zs.map (·.2)) b 0 : Nat) : Int))])) q5 (.lst ((List.replicate (ws.length : Int).toNat [V.int 0]).flatten ++ [V.int (((sc ^ 0 * wt 0 : Nat) : Int) * ((wW (zs.map (·.2)) b 0 : Nat) : Int))]))) q6 (.lst [V.ref q5]) q6 = _)
  have hq5 : upd (upd (upd H6 q4 (.lst [V.int (((sc ^ 0 * wt 0 : Nat) : Int) * ((wW (zs.map (·.2)) b 0 : Nat) : Int))])) q5 (.lst ((List.replicate (ws.length : Int).toNat [V.int 0]).flatten ++ [V.int (((sc ^ 0 * wt 0 : Nat) : Int) * ((wW (zs.map (·.2)) b 0 : Nat) : Int))]))) q6 (.lst [V.ref q5]) q5 = some (.lst ((jU (zs.map (·.2)) ws b wt sc 0).map V.int)):=by
   rw [zq np5,zf,zb8,Int.toNat_natCast,Nat.pow_zero,Nat.one_mul]
  have f5 : H6 q5 = none:=t4.free k5
  generalize upd (upd (upd H6 q4 (.lst [V.int (((sc ^ 0 * wt 0 : Nat) : Int) * ((wW (zs.map (·.2)) b 0 : Nat) : Int))])) q5 (.lst ((List.replicate (ws.length : Int).toNat [V.int 0]).flatten ++ [V.int (((sc ^ 0 * wt 0 : Nat) : Int) * ((wW (zs.map (·.2)) b 0 : Nat) : Int))]))) q6 (.lst [V.ref q5]) = H9 at t6 hp9 hq6 hq5
  have q6p : q6 ≠ p:=fun z=>by rw [z,hp6] at f6; cases f6
  have q5p : q5 ≠ p:=fun z=>by rw [z,hp6] at f5; cases f5
  obtain ⟨lx6,hlx6⟩:=TA6.la
  have q6la : q6 ≠ la:=fun z=>by rw [z,hlx6] at f6; cases f6
  have q5la : q5 ≠ la:=fun z=>by rw [z,hlx6] at f5; cases f5
  have TA9:=(TA6.same t6).updI (o:=.ins CS dx (Yi tl wa q6)) hp9 tlp
  have go : ∀ c o,c ≠ p->c ≠ la->H5 c = some o->aw [la,q6] (upd H9 p (.ins CS dx (Yi tl wa q6))) c = some o:=fun c o h1 h2 e=>by
   have e6:=off6 c o h2 e
   have h3 : c ≠ q6:=zy e6 f6
   rw [zP (by simp [h2,h3]),zq h1]
   exact t6 _ _ e6
  have TT : TotAt C CS (upd H9 p (.ins CS dx (Yi tl wa q6))) p tl la wa q6 b (zs.map (·.2)) ws L6 wt sc sz 1:=by
   refine ⟨⟨dx,by rw [zP (by simp [pla,Ne.symm q6p]),zf]⟩,TA9,?_,?_,⟨[(q5,jU (zs.map (·.2)) ws b wt sc 0)],by rw [zq q6p]; exact hq6,fun z hz=>?_,rfl⟩,Ne.symm q6la⟩
   ·obtain ⟨dz,sz',srs,e1,e2,_⟩:=TA6.ob
    have e1':=yc _ _ _ _ e1
    have e2':=yc _ _ _ _ e2
    have tla : tl ≠ la:=jd e1' hlx6 (fun z=>nomatch z)
    refine ⟨dz,sz',?_,zy e2' f6⟩
    rw [zP (by simp [tla,zy e1' f6]),zq tlp]
    exact t6 _ _ e1'
   ·obtain ⟨rz,r1,r2,r3⟩:=RW4.ex
    have wane : wa ≠ la:=fun z=>by
     obtain ⟨lx2,h2⟩:=TA2.la
     rw [z,h2] at hwa; cases hwa
    have wap : wa ≠ p:=jd r1 hp4 (fun z=>nomatch z)
    refine ⟨⟨rz,go _ _ wap wane (s2 _ _ r1),fun z hz=>go _ _ (jd (r2 z hz) hp4 (fun z=>nomatch z)) (fun e=>?_) (s2 _ _ (r2 z hz)),r3⟩⟩
    obtain ⟨lrs,y1,_,_⟩:=TA4.ly
    have y2:=r2 z hz
    rw [e,y1] at y2
    have hm : z.2 ∈ (List.range sz).map (vA b wt sc):=by rw [← r3]; exact List.mem_map.mpr ⟨z,hz,rfl⟩
    obtain ⟨k,_,ek⟩:=List.mem_map.mp hm
    have hl : z.2.length = b:=by rw [← ek]; unfold vA; rw [List.length_map,List.length_range]
    injection y2 with y2
    injection y2 with y2
    cases hz2 : z.2 with
    | nil=>rw [hz2] at hl; simp at hl; omega
    | cons a l =>
     rw [hz2] at y2
     cases lrs with
     | nil=>cases y2
     | cons a' l'=>injection y2 with y3 _; cases y3
   ·have e : z = (q5,jU (zs.map (·.2)) ws b wt sc 0):=by simpa using hz
    subst e
    rw [zP (by simp [q5la,np5]),zq q5p]
    exact hq5
  have hT9:=(hT6.same t6).putI (o:=.ins CS dx (Yi tl wa q6)) hp9
  have hfr : ∀ c o,c ≠ p->c ≠ T0->H c = some o->upd H9 p (.ins CS dx (Yi tl wa q6)) c = some o:=fun c o h1 h2 e=>by
   rw [zq h1]
   exact t6 _ _ (off6 _ _ (zy e hla) (s2 _ _ (n4 c o h1 h2 e)))
  have q6H : H q6 = none:=by
   cases e : H q6 with
   | none=>rfl
   | some o =>
    have:=off6 _ _ (zy e hla) (s2 _ _ (n4 q6 o q6p (hT6.none f6) e))
    rw [f6] at this; cases this
  have eF : Yi tl wa q6 = yh "layers" (.ref q6) (yh "weights" (.ref wa) (yh "tails" (.ref tl) [])):=rfl
  rw [← eF]
  generalize upd H9 p (.ins CS dx (Yi tl wa q6)) = H10 at TT hT9 hfr
  refine ⟨_,rfl,_,rfl,by omega,by omega,yD (lo:=0) (n:=(sz : Int).toNat) (fun i σ H2=>∃ (v5 : Option V) (L : Nat),σ = [some (.ref p),some (.ref r),some (.ref wl),some (.int sc),some (.int sz),v5]∧L≤i + 1∧TotAt C CS H2 p tl la wa q6 b (zs.map (·.2)) ws L wt sc sz (i + 1)∧(∀ c o,c ≠ p->c ≠ T0->H c = some o->H2 c = some o)∧LT T0 H2)
   ⟨none,L6,rfl,by omega,TT,hfr,hT9⟩ ?_ ?_⟩
  ·rintro i σ Hi hi ⟨v5,L,rfl,hL,TTi,fri,hTi⟩
   obtain ⟨dxi,hpi⟩:=TTi.obj
   obtain ⟨zi,hl2,_⟩:=TTi.ly
   refine ⟨_,rfl,p,CS,dxi,_,_,rfl,hpi,zJ.cl,zJ.n_layers,Yd _ _ _,.inl ⟨rfl,_,SqL.of hl2⟩,_,rfl,p,dxi,_,rfl,hpi,Wj _ _ _,_,rfl,p,tl,la,wa,q6,b,_,ws,L,wt,sc,sz,i + 1,i,by rw [Int.zero_add]; rfl,TTi,G,by omega,by omega,by omega,by omega,hsc,hwt,fun q L' H' hLL TT' m' hLm hq=>?_⟩
   obtain ⟨zi',hl2',_,e3⟩:=TT'.ly
   have hzl : zi'.length = i + 1:=by have:=congrArg List.length e3; rwa [List.length_map,List.length_map,List.length_range] at this
   refine ⟨q6,_,_,rfl,rfl,hl2',by rw [List.length_map,hzl]; exact Nat.lt_of_lt_of_le (show i + 1 < 1000 by omega) (by decide),?_⟩
   refine ⟨_,L',rfl,by omega,TT'.push G (by omega) hl2' hq,fun c o h1 h2 e=>?_,(hTi.off TTi.ta.la.choose_spec m').putL2 hl2'⟩
   have e2:=fri c o h1 h2 e
   have hcl : c ≠ la:=zy e hla
   have hc' : c ∉ [la]:=by simpa using hcl
   have:=m' c o (by rw [zP hc']; exact e2)
   rw [zP hc'] at this
   rw [zq (zy e q6H)]
   exact this
  ·rintro σ Hn ⟨v5,L,rfl,hL,TTn,frn,hTn⟩
   rw [Int.toNat_natCast] at hL TTn
   exact kk tl la wa q6 ws L Hn TTn G (by omega) frn hTn hla q6H
end
theorem ze1 {ls : List (List Int)} {b m : Nat} : low ls b m = many (gd ls b) (wG b m):=by
 unfold low wG
 split
 ·rfl
 ·rfl
theorem zdF (b : Nat) : (vA b (fun c=>c) b 0).map V.int = (List.range b).map fun (c : Nat)=>V.int c:=by
 unfold vA
 rw [List.map_map]
 apply List.map_congr_left
 intro c _
 show V.int ((b ^ 0 * c : Nat) : Int) = V.int (c : Int)
 rw [Nat.pow_zero,Nat.one_mul]
section
variable {P : Program} {w : World} {K : PySem.W.Frag} {mg : Str->Option Value} {base : Heap} {T0 C CS : Addr}
def u9 (T0 C CS : Addr) : Sp:=fun vs H Q _=>∃ (r : Addr) (b : Nat) (bl : Addr) (zs : List (Addr × List Int)) (sz : Nat),vs = [.ref r,.int sz]∧RuleAt H r b bl zs∧zW b (zs.map (·.2))∧LT T0 H∧sz≤800 ∧
 ∀ (x tl la wa l2 : Addr) (ws : List (List Int)) (L : Nat) (H' : Hp),TotAt C CS H' x tl la wa l2 b (zs.map (·.2)) ws L (fun c=>c) b sz (sz + 1)->GoodT b (zs.map (·.2)) ws->L≤801->SameL T0 H H'->LT T0 H'->H la = none->H l2 = none->Q (.ref x) H'
theorem WQ : zE ["rule","size"] ["rule","size"] (zu vK):=⟨rfl,rfl,rfl,by decide +kernel,rfl,by decide +kernel,by decide +kernel⟩
theorem WT {f f1 : Addr} {fd fd1 : FuncData} (D : Df K mg "number_totals" vK ["rule","size"] f fd) (Q6 : Mk K CS f1) (QV : Binds K fd1 ["self","rule","weights","scale","size"] []) (Zw : FnOk P w K mg base CX0 9 f1 fd1 ["self","rule","weights","scale","size"] (WY T0 C CS)) (zJ : ClS K mg CS) (T : Blt mg) : FnOk P w K mg base CX0 11 f fd ["rule","size"] (u9 T0 C CS):=by
 refine D.fn.ok WQ (fun vs H Q E h=>?_) (fun cdv A outer s H vs Q E hr h=>?_)
 ·obtain ⟨r,b,bl,zs,sz,rfl,_⟩:=h; rfl
 ·obtain ⟨r,b,bl,zs,sz,rfl,R,g,hT,hsz,kk⟩:=h
  have b2:=g.b2
  have b16:=g.b16
  refine ⟨_,(zx (zL (Jx Q6 Zw (hr.mono (by decide)) rfl zJ.nm QV .nil zap (zc (pv 0) (zc (Jc rfl rfl T.n_list rfl T.n_range (zQ (wH K) (pv 0) zp (fun _ _=>rfl))) (zc (zQ (wH K) (pv 0) zp (fun _ _=>rfl)) (zc (pv 1) zg))))))),?_⟩
  refine ⟨_,rfl,_,rfl,r,_,_,V.int b,rfl,rfl,SqT.of R.tu,rfl,b,rfl,by omega,fun q hq=>?_⟩
  have s1:=zj hq (o:=.lst ((List.range b).map fun (c : Nat)=>V.int c))
  have R1:=R.same s1
  refine ⟨_,rfl,r,_,_,V.int b,rfl,rfl,SqT.of R1.tu,rfl,_,rfl,fun x dx nx ndx nex=>?_⟩
  have s0:=za8 (C:=CS) nx ndx
  have hwl : upd H q (.lst ((List.range b).map fun (c : Nat)=>V.int c)) q = some (.lst ((vA b (fun c=>c) b 0).map V.int)):=by rw [zf,zdF]
  refine ⟨x,dx,r,b,bl,zs,q,(fun c=>c),b,sz,rfl,zf,R1.same s0,g,(hT.same s1).same s0,s0 _ _ hwl,b16,hsz,fun c hc=>Nat.lt_of_lt_of_le (show c < 16 by omega) (by decide),fun tl la wa l2 ws L H' TT G hL fr hT' hla hl2=>⟨rfl,?_⟩⟩
  refine kk x tl la wa l2 ws L H' TT G hL (fun c o hc e=>?_) hT' ((s1.trans s0).free hla) ((s1.trans s0).free hl2)
  exact fr c o (zy (s1 _ _ e) nx) hc ((s1.trans s0) c o e)
abbrev jB (T0 : Addr) : Sp:=zc8 T0 zc7 (fun ls b m v=>v = .int ((tot (gd ls b) (fun n=>n) (b ^ m) : Nat) - (tot (gd ls b) (fun n=>n) (wG b m) : Nat)))
theorem W3 : zE ["rule","m","totals"] ["rule","m"] (zu qZ):=⟨rfl,rfl,rfl,by decide +kernel,rfl,by decide +kernel,by decide +kernel⟩
theorem J5 {f f1 f2 f3 f4 : Addr} {fd fd1 fd2 fd3 fd4 : FuncData} (D : Df K mg "sum_long" qZ ["rule","m"] f fd) (wV : Df K mg "check_rule" ux ["thing"] f1 fd1) (vY : FnOk P w K mg base CX0 7 f1 fd1 ["thing"] tU) (xF : Df K mg "check_length" wZ ["thing"] f2 fd2) (wB : FnOk P w K mg base CX0 3 f2 fd2 ["thing"] vL)
  (uA : Df K mg "number_totals" vK ["rule","size"] f3 fd3) (qM : FnOk P w K mg base CX0 11 f3 fd3 ["rule","size"] (u9 T0 C CS)) (yF : Mt K CS "Totals.total_within" "total_within" yR ["self","size"] f4 fd4) (xq : FnOk P w K mg base CX0 1 f4 fd4 ["self","size"] (qi C CS)) (zJ : ClS K mg CS) : FnOk P w K mg base CX0 12 f fd ["rule","m"] (jB T0):=by
 refine D.fn.ok W3 (fun vs H Q E h=>?_) (fun cdv A outer s H vs Q E hr h=>?_)
 ·obtain ⟨r,b,bl,zs,n,rfl,_⟩:=h; rfl
 ·obtain ⟨r,b,bl,zs,m,rfl,R,g,⟨hm1,hm2⟩,hT,kk⟩:=h
  have b2:=g.b2
  refine ⟨_,(zm (xP (zO wV vY (hr.mono (by decide)) (zc (pv 0) zg)))
   (zm (xP (zO xF wB (hr.mono (by decide)) (zc (pv 1) zg)))
   (zm (zF (i:=2) W3.nd rfl (Or.inl rfl) (zO uA qM (hr.mono (by decide)) (zc (pv 0) (zc (pv 1) zg))))
   (zx (zL (zM qU (Yb yF zJ.cl xq (hr.mono (by decide)) (pv 2) (zc (pv 1) zg)) (Yb yF zJ.cl xq (hr.mono (by decide)) (pv 2) (zc (zM qU (pv 1) zp) zg)))))))),?_⟩
  refine ⟨_,rfl,r,b,bl,zs,rfl,R,g,fun H1 m1=>?_⟩
  refine ⟨_,rfl,m,rfl,hm1,hm2,?_⟩
  refine ⟨_,rfl,_,rfl,r,b,bl,zs,m,rfl,R.same m1,g,hT.same m1,by omega,fun x tl la wa l2 ws L H2 TT G hL sL hT2 hla hl2=>?_⟩
  obtain ⟨dx,hp⟩:=TT.obj
  refine ⟨_,rfl,x,dx,_,rfl,hp,Wj _ _ _,_,rfl,x,tl,la,wa,l2,b,_,ws,L,_,b,m,m + 1,m,rfl,TT,by omega,?_⟩
  refine ⟨_,rfl,x,dx,_,rfl,hp,Wj _ _ _,_,rfl,_,_,rfl,rfl,x,tl,la,wa,l2,b,_,ws,L,_,b,m,m + 1,m - 1,?_,TT,by omega,_,_,rfl,rfl,?_⟩
  ·show [V.ref x,V.int ((m : Int) - 1)] = _
   rw [show ((m : Int) - 1) = ((m - 1 : Nat) : Int) by omega]
  ·refine kk _ H2 ?_ ((SameL.of m1).trans sL) hT2
   rw [Wb G.ne b2,Wb G.ne b2,zda]
end
section
variable {P : Program} {w : World} {K : PySem.W.Frag} {mg : Str->Option Value} {base : Heap}
def uw : Sp:=fun vs H Q _=>∃ (d : Addr) (fp : List Addr),vs = [.ref d]∧Deck H d fp ∧
 ∀ (r : Addr) (b : Nat) (bl : Addr) (zs : List (Addr × List Int)) (H' : Hp),Stp fp d H H'->RuleAt (aw fp H') r b bl zs->zW b (zs.map (·.2))->Q (.ref r) H'
theorem ym : zE ["deck","base","few","first","most","bad","k","one"] ["deck"] (zu xR):=⟨rfl,rfl,rfl,by decide +kernel,rfl,by decide +kernel,by decide +kernel⟩
theorem Jb {fp : List Addr} {d l : Addr} {H H' : Hp} (S : Stp fp d H H') : Same (aw (l :: fp) H) (aw (l :: fp) H'):=fun c o e=>by
 by_cases hc : c ∈ l :: fp
 ·rw [q9 hc] at e; cases e
 ·rw [zP hc] at e ⊢
  exact S.get (fun z=>hc (List.mem_cons_of_mem _ z)) e
theorem V0 {fp : List Addr} {l : Addr} {H : Hp} {o : HO} : Same (aw (l :: fp) H) (aw (l :: fp) (upd H l o)):=fun c u e=>by
 by_cases hc : c ∈ l :: fp
 ·rw [q9 hc] at e; cases e
 ·rw [zP hc] at e ⊢
  rw [zq (fun z=>hc (by rw [z]; simp))]; exact e
theorem jG {f f1 : Addr} {fd fd1 : FuncData} (D : Df K mg "_law_some_rule" xR ["deck"] f fd) (zA : Df K mg "_law_draw" wY ["deck","many"] f1 fd1) (T : Blt mg) : FnOk P w K mg base CX0 2 f fd ["deck"] uw:=by
 have zN : FnOk P w K mg base CX0 1 f1 fd1 ["deck","many"] vh:=um zA T
 refine D.fn.ok ym (fun vs H Q E h=>?_) (fun cdv A outer s H vs Q E hr h=>?_)
 ·obtain ⟨d,fp,rfl,_⟩:=h; rfl
 ·obtain ⟨d,fp,rfl,DK,kk⟩:=h
  have HU:=Vj hr
  refine ⟨_,(zm (zF (i:=1) ym.nd rfl (Or.inl rfl) (zQ (yS K) (zU (zc (zM yu zp (zO zA zN (hr.mono (by decide)) (zc (pv 0) (zc zp zg)))) (zc zp (zc zp (zc zp (zc zp (zc (zM yu zp (zO zA zN (hr.mono (by decide)) (zc (pv 0) (zc zp zg)))) zg))))))) (zO zA zN (hr.mono (by decide)) (zc (pv 0) (zc zp zg))) (fun _ _=>rfl)))
   (zm (zF (i:=2) ym.nd rfl (Or.inr rfl) (zB (Wo rfl) (by rfl) T.n_min boot_min (zc (pv 1) (zc (zQ (yS K) (zU (zc zp (zc zp (zc zp zg)))) (zO zA zN (hr.mono (by decide)) (zc (pv 0) (zc zp zg))) (fun _ _=>rfl)) zg))))
   (zm (zF (i:=3) ym.nd rfl (Or.inr rfl) (zO zA zN (hr.mono (by decide)) (zc (pv 0) (zc (zM yu (zM qU (pv 1) (pv 2)) zp) zg))))
   (zm (zF (i:=4) ym.nd rfl (Or.inl rfl) (zQ (yS K) (zU (zc (zM yu zp (zO zA zN (hr.mono (by decide)) (zc (pv 0) (zc zp zg)))) (zc zp (zc zp (zc zp zg))))) (zO zA zN (hr.mono (by decide)) (zc (pv 0) (zc zp zg))) (fun _ _=>rfl)))
   (zm (zF (i:=5) ym.nd rfl (Or.inl rfl) (zU zg))
   (zm (xM PassesOwn.never rfl (zY rfl T.n_range (zc (zQ (yS K) (zU (zc (zO zA zN (hr.mono (by decide)) (zc (pv 0) (zc zp zg))) (zc zp (zc zp (zc zp zg))))) (zO zA zN (hr.mono (by decide)) (zc (pv 0) (zc zp zg))) (fun _ _=>rfl)) zg)) (zR (i:=6) ym.nd rfl (Or.inl rfl))
    (zm (vU (i:=7) (show CScope (zu xR) _ "at" ["deck","base","few","first","most","bad","k","one"] ["first","deck","few"] [3,0,2] from ⟨rfl,by decide +kernel,by decide +kernel,rfl,by decide +kernel,rfl,by decide +kernel,by decide +kernel⟩) rfl ym.nd rfl (Or.inl rfl) (zY rfl T.n_range (zc (zM yu zp (zO zA zN (hr.mono (by decide)) (zc (pv 0) (zc (pv 4) zg)))) zg)) (fun _ _ _ _=>yE) (fun _ _ _ _=>(zM yu (pv 1) (zO zA zN (hr.mono (by decide)) (zc (pv 2) (zc (pv 3) zg))))))
    (zx (xQ (yd (VB K HU) (pv 7) (pv 5) (by with_unfolding_all rfl))
     (zx (xP (Z3 PySem.F.plainAttrs_list PySem.F.slot_list_append PySem.F.type_list_append vd (pv 5) (zc (pv 7) zg))))
     yj))))
   (zx (zL (vM (zc (pv 1) (zc (zB (zbp K HU) (by rfl) T.n_sorted boot_sorted (zc (pv 5) zg)) zg))))))))))),?_⟩
  refine ⟨_,rfl,d,_,fp,rfl,DK,(by decide),(by decide),fun x1 H1 hx1 S1=>⟨_,_,rfl,rfl,?_⟩⟩
  refine ⟨_,rfl,d,_,fp,rfl,S1.dk,(by decide),(by decide),fun x2 H2 hx2 S2=>⟨_,_,rfl,rfl,(by show 6≤sizeLine; decide),fun l1 hl1=>?_⟩⟩
  have S12:=S1.trans S2
  have f1:=S12.dk.fresh hl1
  have S3:=S12.new hl1 (o:=.lst [.int (2 + (x1 : Int)),.int 2,.int 3,.int 10,.int 16,.int (2 + (x2 : Int))])
  refine ⟨_,rfl,d,_,fp,rfl,S3.dk,(by decide),(by decide),fun x3 H4 hx3 S4=>?_⟩
  obtain ⟨b,hb,hb2,hb16⟩ : ∃ b : Nat,atI [V.int (2 + (x1 : Int)),V.int 2,V.int 3,V.int 10,V.int 16,V.int (2 + (x2 : Int))] (x3 : Int) = some (.int b)∧2≤b∧b≤16:=by
   have h6 : x3 < 6:=by omega
   match x3,h6 with
   | 0,_=>exact ⟨2 + x1,rfl,by omega,by omega⟩
   | 1,_=>exact ⟨2,rfl,by omega,by omega⟩
   | 2,_=>exact ⟨3,rfl,by omega,by omega⟩
   | 3,_=>exact ⟨10,rfl,by omega,by omega⟩
   | 4,_=>exact ⟨16,rfl,by omega,by omega⟩
   | 5,_=>exact ⟨2 + x2,rfl,by omega,by omega⟩
  refine ⟨l1,_,_,_,rfl,rfl,SqL.of (S4.get f1 zf),hb,?_⟩
  have S34:=S3.trans S4
  refine ⟨_,rfl,(by show 3≤sizeLine; decide),fun l2 hl2=>?_⟩
  have f2:=S34.dk.fresh hl2
  have S5:=S34.new hl2 (o:=.lst [.int 2,.int 3,.int 16])
  refine ⟨_,rfl,d,_,fp,rfl,S5.dk,(by decide),(by decide),fun x4 H6 hx4 S6=>?_⟩
  obtain ⟨m,hm,hm2⟩ : ∃ m : Nat,atI [V.int 2,V.int 3,V.int 16] (x4 : Int) = some (.int m)∧2≤m:=by
   have h3 : x4 < 3:=by omega
   match x4,h3 with
   | 0,_=>exact ⟨2,rfl,by omega⟩
   | 1,_=>exact ⟨3,rfl,by omega⟩
   | 2,_=>exact ⟨16,rfl,by omega⟩
  refine ⟨l2,_,_,_,rfl,rfl,SqL.of (S6.get f2 zf),hm,_,_,rfl,?_⟩
  obtain ⟨few,hfew,hfew1,hfew2⟩ : ∃ few : Nat,(if (m : Int) < (b : Int) then (m : Int) else (b : Int)) = (few : Int)∧2≤few∧few≤b:=by
   by_cases z : m < b
   ·exact ⟨m,by rw [if_pos (by omega)],by omega,by omega⟩
   ·exact ⟨b,by rw [if_neg (by omega)],by omega,by omega⟩
  rw [hfew]
  have S56:=S5.trans S6
  refine ⟨_,rfl,_,rfl,_,rfl,_,_,rfl,rfl,_,_,rfl,rfl,d,_,fp,rfl,S56.dk,by omega,by omega,fun x5 H7 hx5 S7=>?_⟩
  have S57:=S56.trans S7
  refine ⟨_,rfl,d,_,fp,rfl,S57.dk,(by decide),(by decide),fun x6 H8 hx6 S8=>⟨_,_,rfl,rfl,(by show 4≤sizeLine; decide),fun l3 hl3=>?_⟩⟩
  have S58:=S57.trans S8
  have f3:=S58.dk.fresh hl3
  have S9:=S58.new hl3 (o:=.lst [.int (1 + (x6 : Int)),.int 2,.int 3,.int 4])
  refine ⟨_,rfl,d,_,fp,rfl,S9.dk,(by decide),(by decide),fun x7 H10 hx7 S10=>?_⟩
  obtain ⟨most,hmost,hmost1,hmost2⟩ : ∃ most : Nat,atI [V.int (1 + (x6 : Int)),V.int 2,V.int 3,V.int 4] (x7 : Int) = some (.int most)∧1≤most∧most≤4:=by
   have h4 : x7 < 4:=by omega
   match x7,h4 with
   | 0,_=>exact ⟨1 + x6,rfl,by omega,by omega⟩
   | 1,_=>exact ⟨2,rfl,by omega,by omega⟩
   | 2,_=>exact ⟨3,rfl,by omega,by omega⟩
   | 3,_=>exact ⟨4,rfl,by omega,by omega⟩
  refine ⟨l3,_,_,_,rfl,rfl,SqL.of (S10.get f3 zf),hmost,?_⟩
  have S910:=S9.trans S10
  refine ⟨(by decide : 0≤sizeLine),fun bl hbl=>?_⟩
  have fbl:=S910.dk.fresh hbl
  have S11:=S910.new hbl (o:=.lst [])
  refine ⟨_,rfl,d,_,fp,rfl,S11.dk,(by decide),(by decide),fun x8 H12 hx8 S12'=>⟨(by show 4≤sizeLine; decide),fun l4 hl4=>?_⟩⟩
  have S112:=S11.trans S12'
  have f4:=S112.dk.fresh hl4
  have S13:=S112.new hl4 (o:=.lst [.int x8,.int 4,.int 3,.int 1])
  refine ⟨_,rfl,d,_,fp,rfl,S13.dk,(by decide),(by decide),fun x9 H14 hx9 S14=>?_⟩
  obtain ⟨N,hN,hN4⟩ : ∃ N : Nat,atI [V.int x8,V.int 4,V.int 3,V.int 1] (x9 : Int) = some (.int N)∧N≤4:=by
   have h4 : x9 < 4:=by omega
   match x9,h4 with
   | 0,_=>exact ⟨x8,rfl,by omega⟩
   | 1,_=>exact ⟨4,rfl,by omega⟩
   | 2,_=>exact ⟨3,rfl,by omega⟩
   | 3,_=>exact ⟨1,rfl,by omega⟩
  have S1314:=S13.trans S14
  refine ⟨l4,_,_,_,rfl,rfl,SqL.of (S14.get f4 zf),hN,(N : Int),rfl,by omega,by omega,yD (lo:=0) (n:=(N : Int).toNat) (fun i σ H15=>∃ (v1 v2 : Option V) (zs : List (Addr × List Int)),
   σ = [some (.ref d),some (.int b),some (.int few),some (.int x5),some (.int most),some (.ref bl),v1,v2]∧zs.length≤i∧Deck H15 d fp∧H15 bl = some (.lst (zs.map fun z=>V.ref z.1))∧(∀ z ∈ zs,H15 z.1 = some (.lst (z.2.map V.int))∧z.1 ∉ fp∧z.1 ≠ bl)∧(∀ l ∈ zs.map (·.2),WN b l)∧(zs.map (·.2)).Nodup∧Same (aw (bl :: fp) H) (aw (bl :: fp) H15)) ⟨none,none,[],rfl,Nat.le_refl _,S1314.dk,?_,(by simp),(by simp),(by simp),?_⟩ ?_ ?_⟩
  ·exact S14.get fbl (zj hl4 _ _ (S12'.get fbl zf))
  ·exact Jb S1314
  ·rintro i σ H15 hi ⟨v1,v2,zs,rfl,hzl,D15,hB,hZ,hG,nd,sm⟩
   refine ⟨_,rfl,_,rfl,d,_,fp,rfl,D15,by omega,by omega,fun y1 H16 hy1 S16=>⟨_,_,rfl,rfl,(1 + (y1 : Int)),rfl,by omega,by omega,xJ (lo:=0) (n:=(1 + (y1 : Int)).toNat) (fun j ys Hc=>Stp fp d H15 Hc∧∃ ms : List Int,ys = ms.map V.int∧ms.length = j∧∀ f ∈ ms,0≤f∧f < (b : Int)) ⟨S16,[],rfl,rfl,by simp⟩ ?_ ?_⟩⟩
   ·rintro j ys Hc hj ⟨Sc,ms,rfl,hml,hmf⟩
    refine ⟨by rw [List.length_map,hml]; exact Nat.lt_of_lt_of_le (show j < 5 by omega) (by decide),?_⟩
    unfold jo
    dsimp only
    rw [if_pos rfl]
    refine ⟨_,rfl,_,rfl,_,rfl,d,_,fp,rfl,Sc.dk,by omega,by omega,fun y2 H17 hy2 S17=>⟨_,_,rfl,rfl,Sc.trans S17,ms ++ [(x5 : Int) + y2],by simp,by simp [hml],fun f hf=>?_⟩⟩
    rcases List.mem_append.mp hf with hf | hf
    ·exact hmf f hf
    ·have e : f = (x5 : Int) + y2:=by simpa using hf
     omega
   ·rintro ys Hc ⟨Sc,ms,rfl,hml,hmf⟩ p hp
    have hBc:=Sc.get fbl hB
    have nbp : bl ≠ p:=zy hBc hp
    have hZc : ∀ z ∈ zs,Hc z.1 = some (.lst (z.2.map V.int)):=fun z hz=>Sc.get (hZ z hz).2.1 (hZ z hz).1
    have fpp:=Sc.dk.fresh hp
    refine ⟨_,rfl,_,rfl,bl,_,(zs.map (·.2)).map yt,yt ms,rfl,SqL.of (zj hp _ _ hBc),TrsAt.lists (fun z hz=>zj hp _ _ (hZc z hz)),TrAt.ints (a:=p) (SqL.of zf),Nat.le_trans (xu _) (by decide),_,rfl,?_⟩
    have sm2 : Same (aw (bl :: fp) H) (aw (bl :: fp) (upd Hc p (.lst (ms.map V.int)))):=sm.trans ((Jb Sc).trans ((zj hp).aw _))
    have D18:=Sc.dk.upd fpp (o:=.lst (ms.map V.int))
    rw [if_pos rfl,YC]
    by_cases hin : ms ∈ zs.map (·.2)
    ·rw [decide_eq_true hin]
     refine xW ?_
     exact ⟨_,_,zs,rfl,by omega,D18,zj hp _ _ hBc,fun z hz=>⟨zj hp _ _ (hZc z hz),(hZ z hz).2⟩,hG,nd,sm2⟩
    ·rw [decide_eq_false hin]
     refine wF ?_
     refine ⟨_,rfl,.inl ⟨rfl,_,SqL.of (zj hp _ _ hBc)⟩,_,rfl,bl,_,_,rfl,rfl,zj hp _ _ hBc,by rw [List.length_map]; exact Nat.lt_of_le_of_lt (show zs.length≤4 by omega) (by decide),?_⟩
     refine ⟨_,_,zs ++ [(p,ms)],rfl,by rw [List.length_append,List.length_singleton]; omega,D18.upd fbl,by rw [zf]; simp,fun z hz=>?_,fun l hl=>?_,?_,sm2.trans V0⟩
     ·rcases List.mem_append.mp hz with hz | hz
      ·rw [zq (hZ z hz).2.2]
       exact ⟨zj hp _ _ (hZc z hz),(hZ z hz).2⟩
      ·have e : z = (p,ms):=by simpa using hz
       subst e
       exact ⟨by rw [zq (Ne.symm nbp),zf],fpp,Ne.symm nbp⟩
     ·rw [List.map_append] at hl
      rcases List.mem_append.mp hl with hl | hl
      ·exact hG l hl
      ·have e : l = ms:=by simpa using hl
       subst e
       exact ⟨fun z=>by rw [z] at hml; simp at hml; omega,by omega,hmf⟩
     ·rw [List.map_append]
      refine List.nodup_append.mpr ⟨nd,by simp,fun x hx y hy=>?_⟩
      have e : y = ms:=by simpa using hy
      rw [e]
      exact fun z=>hin (z ▸ hx)
  ·rintro σ H15 ⟨v1,v2,zs,rfl,hzl,D15,hB,hZ,hG,nd,sm⟩
   refine ⟨_,rfl,_,rfl,bl,zs,rfl,SqL.of hB,by omega,fun z hz=>SqL.of (hZ z hz).1,nd,fun p zs' hp pm pw=>⟨(by show 2≤sizeLine; decide),fun r hr=>?_⟩⟩
   have D16:=D15.same (zj hp (o:=.lst (zs'.map fun z=>V.ref z.1)))
   have npr : p ≠ r:=fun z=>by rw [← z,zf] at hr; cases hr
   refine kk r b p zs' _ ⟨D16.same (zj hr),fun c o e=>?_⟩ ⟨?_,?_,fun z hz=>?_⟩ ⟨hb2,hb16,by rw [List.length_map,pm.length_eq]; omega,fun l hl=>?_,by rw [List.pairwise_map]; exact pw⟩
   ·have hc : c ∉ fp:=fun hc=>by rw [q9 hc] at e; cases e
    have hcb : c ≠ bl:=fun z=>by
     rw [zP hc,z,S910.free hbl] at e; cases e
    have hc2 : c ∉ bl :: fp:=fun z=>by
     rcases List.mem_cons.mp z with z | z
     ·exact hcb z
     ·exact hc z
    rw [zP hc] at e ⊢
    have z:=sm c o (by rw [zP hc2]; exact e)
    rw [zP hc2] at z
    exact zj hr _ _ (zj hp _ _ z)
   ·rw [zP (D16.fresh hr),zf]
   ·rw [zP (D15.fresh hp),zq npr,zf]
   ·have hzm:=pm.mem_iff.mp hz
    rw [zP (hZ z hzm).2.1]
    exact zj hr _ _ (zj hp _ _ (hZ z hzm).1)
   ·obtain ⟨z,hz,rfl⟩:=List.mem_map.mp hl
    exact hG _ (List.mem_map.mpr ⟨z,pm.mem_iff.mp hz,rfl⟩)
end
theorem RuleAt.step {fp : List Addr} {d r bl : Addr} {H H' : Hp} {b : Nat} {zs : List (Addr × List Int)} (R : RuleAt (aw fp H) r b bl zs) (S : Stp fp d H H') : RuleAt (aw fp H') r b bl zs:=R.same S.sm
theorem WD {α β : Type} (f : α->β) : ∀ (l : List α) (j : Nat),(l.map f).eraseIdx j = (l.eraseIdx j).map f
 | [],_=>rfl
 | _ :: _,0=>rfl
 | x :: l,j + 1=>by rw [List.map_cons,List.eraseIdx_cons_succ,List.eraseIdx_cons_succ,List.map_cons,WD f l j]
theorem zaX {b : Nat} {ls : List (List Int)} (g : zW b ls) (j : Nat) : zW b (ls.eraseIdx j) :=
 ⟨g.b2,g.b16,Nat.le_trans (Wr ls j) g.len,fun l hl=>g.st l (List.mem_of_mem_eraseIdx hl),g.up.sublist (List.eraseIdx_sublist ls j)⟩
section
variable {T : Addr}
theorem Deck.sameL {H H' : Hp} {d : Addr} {fp : List Addr} (D : Deck H d fp) (lt : LT T H) (s : SameL T H H') : Deck H' d fp:=by
 obtain ⟨pp,qs,i,rfl,h1,h2,h3,h4,h5⟩:=D.ex
 exact ⟨pp,qs,i,rfl,s _ _ (lt.lst h1) h1,s _ _ (lt.lst h2) h2,h3,h4,fun q hq=>by obtain ⟨x,y,z,e⟩:=h5 q hq; exact ⟨x,y,z,s _ _ (lt.lst e) e⟩⟩
theorem Deck.lst {H : Hp} {d : Addr} {fp : List Addr} (D : Deck H d fp) {b : Addr} (hb : b ∈ fp) : ∃ xs,H b = some (.lst xs):=by
 obtain ⟨pp,qs,i,rfl,h1,h2,h3,h4,h5⟩:=D.ex
 rcases List.mem_cons.mp hb with e | hb
 ·rw [e]; exact ⟨_,h1⟩
 ·rcases List.mem_cons.mp hb with e | hb
  ·rw [e]; exact ⟨_,h2⟩
  ·obtain ⟨x,y,z,e⟩:=h5 b hb
   exact ⟨_,e⟩
theorem LT.away {H : Hp} {d : Addr} {fp : List Addr} (h : LT T H) (D : Deck H d fp) : LT T (aw fp H):=by
 have out : ∀ b o,H b = some o->(∀ xs,o ≠ .lst xs)->aw fp H b = some o:=fun b o e n=>by
  rw [zP (fun hb=>by
   obtain ⟨xs,q⟩:=D.lst hb
   rw [e] at q
   cases q
   exact n _ rfl)]
  exact e
 rcases h with h | ⟨c,h1,h2⟩
 ·exact .inl (out _ _ h (fun xs z=>by cases z))
 ·exact .inr ⟨c,out _ _ h1 (fun xs z=>by cases z),out _ _ h2 (fun xs z=>by unfold zal at z; cases z)⟩
theorem Stp.lt {H H' : Hp} {d : Addr} {fp : List Addr} (S : Stp fp d H H') (D : Deck H d fp) (h : LT T H) : LT T H':=((h.away D).same S.sm).same (yc fp H')
theorem RuleAt.awL {fp : List Addr} {H H' : Hp} {r bl : Addr} {b : Nat} {zs : List (Addr × List Int)} (R : RuleAt (aw fp H) r b bl zs) (lt : LT T H) (s : SameL T H H') : RuleAt (aw fp H') r b bl zs:=by
 have g : ∀ x o,x ≠ T->aw fp H x = some o->aw fp H' x = some o:=fun x o hx e=>by
  have hi : x ∉ fp:=fun z=>by rw [q9 z] at e; cases e
  rw [zP hi] at e ⊢
  exact s _ _ hx e
 have R0:=R.all
 exact ⟨g _ _ (lt.tup R0.tu) R.tu,g _ _ (lt.lst R0.li) R.li,fun z hz=>g _ _ (lt.lst (R0.st z hz)) (R.st z hz)⟩
end
section
variable {P : Program} {w : World} {K : PySem.W.Frag} {mg : Str->Option Value} {base : Heap}
def qm : Sp:=fun vs H Q _=>∃ (d : Addr) (fp : List Addr),vs = [.ref d]∧Deck H d fp∧∀ (m : Nat) (H' : Hp),1≤m->m≤60->Stp fp d H H'->Q (.int m) H'
theorem Vn : zE ["deck"] ["deck"] (zu ut):=⟨rfl,rfl,rfl,by decide +kernel,rfl,by decide +kernel,by decide +kernel⟩
theorem Z4 {f f1 : Addr} {fd fd1 : FuncData} (D : Df K mg "_law_lengths" ut ["deck"] f fd) (zA : Df K mg "_law_draw" wY ["deck","many"] f1 fd1) (T : Blt mg) : FnOk P w K mg base CX0 2 f fd ["deck"] qm:=by
 have zN : FnOk P w K mg base CX0 1 f1 fd1 ["deck","many"] vh:=um zA T
 refine D.fn.ok Vn (fun vs H Q E h=>?_) (fun cdv A outer s H vs Q E hr h=>?_)
 ·obtain ⟨d,fp,rfl,_⟩:=h; rfl
 ·obtain ⟨d,fp,rfl,DK,kk⟩:=h
  refine ⟨_,(zx (zL (zQ (yS K) (zU (zc (zM yu zp (zO zA zN (hr.mono (by decide)) (zc (pv 0) (zc zp zg)))) (zc (zM yu zp (zO zA zN (hr.mono (by decide)) (zc (pv 0) (zc zp zg)))) (zc (zM yu zp (zO zA zN (hr.mono (by decide)) (zc (pv 0) (zc zp zg)))) (zc zp (zc zp zg)))))) (zO zA zN (hr.mono (by decide)) (zc (pv 0) (zc zp zg))) (fun _ _=>rfl)))),?_⟩
  refine ⟨_,rfl,d,_,fp,rfl,DK,(by decide),(by decide),fun x1 H1 hx1 S1=>⟨_,_,rfl,rfl,?_⟩⟩
  refine ⟨_,rfl,d,_,fp,rfl,S1.dk,(by decide),(by decide),fun x2 H2 hx2 S2=>⟨_,_,rfl,rfl,?_⟩⟩
  refine ⟨_,rfl,d,_,fp,rfl,S2.dk,(by decide),(by decide),fun x3 H3 hx3 S3=>⟨_,_,rfl,rfl,(by show 5≤sizeLine; decide),fun l1 hl1=>?_⟩⟩
  have f1:=S3.dk.fresh hl1
  have S4:=((S1.trans S2).trans S3).new hl1 (o:=.lst [.int (1 + (x1 : Int)),.int (1 + (x2 : Int)),.int (1 + (x3 : Int)),.int 60,.int 1])
  refine ⟨_,rfl,d,_,fp,rfl,S4.dk,(by decide),(by decide),fun x4 H5 hx4 S5=>?_⟩
  obtain ⟨m,hm,hm1,hm2⟩ : ∃ m : Nat,atI [V.int (1 + (x1 : Int)),V.int (1 + (x2 : Int)),V.int (1 + (x3 : Int)),V.int 60,V.int 1] (x4 : Int) = some (.int m)∧1≤m∧m≤60:=by
   have h5 : x4 < 5:=by omega
   match x4,h5 with
   | 0,_=>exact ⟨1 + x1,rfl,by omega,by omega⟩
   | 1,_=>exact ⟨1 + x2,rfl,by omega,by omega⟩
   | 2,_=>exact ⟨1 + x3,rfl,by omega,by omega⟩
   | 3,_=>exact ⟨60,rfl,by omega,by omega⟩
   | 4,_=>exact ⟨1,rfl,by omega,by omega⟩
  exact ⟨l1,_,_,_,rfl,rfl,SqL.of (S5.get f1 zf),hm,kk m H5 hm1 hm2 (S4.trans S5)⟩
def vN : Sp:=fun vs H Q _=>∃ (d : Addr) (fp : List Addr),vs = [.ref d]∧Deck H d fp ∧
 ∀ (r : Addr) (b : Nat) (bl : Addr) (zs : List (Addr × List Int)) (H' : Hp),Stp fp d H H'->RuleAt (aw fp H') r b bl zs->zW b (zs.map (·.2))->Q (.ref r) H'
theorem zci {fp : List Addr} {bl : Addr} {H H' : Hp} (sm : Same (aw (bl :: fp) H) (aw (bl :: fp) H')) (hb : H bl = none) : Same (aw fp H) (aw fp H'):=fun c o e=>by
 have hc : c ∉ fp:=fun hc=>by rw [q9 hc] at e; cases e
 rw [zP hc] at e ⊢
 have hc2 : c ∉ bl :: fp:=fun z=>by
  rcases List.mem_cons.mp z with z | z
  ·exact zy e hb z
  ·exact hc z
 have z:=sm c o (by rw [zP hc2]; exact e)
 rwa [zP hc2] at z
theorem yg : zE ["deck","base","bad","k","one"] ["deck"] (zu yH):=⟨rfl,rfl,rfl,by decide +kernel,rfl,by decide +kernel,by decide +kernel⟩
set_option maxHeartbeats 0 in
theorem qR {f f1 : Addr} {fd fd1 : FuncData} (D : Df K mg "_law_tight_rule" yH ["deck"] f fd) (zA : Df K mg "_law_draw" wY ["deck","many"] f1 fd1) (T : Blt mg) : FnOk P w K mg base CX0 2 f fd ["deck"] vN:=by
 have zN : FnOk P w K mg base CX0 1 f1 fd1 ["deck","many"] vh:=um zA T
 refine D.fn.ok yg (fun vs H Q E h=>?_) (fun cdv A outer s H vs Q E hr h=>?_)
 ·obtain ⟨d,fp,rfl,_⟩:=h; rfl
 ·obtain ⟨d,fp,rfl,DK,kk⟩:=h
  have HU:=Vj hr
  refine ⟨_,(zm (zF (i:=1) yg.nd rfl (Or.inr rfl) (zM yu zp (zO zA zN (hr.mono (by decide)) (zc (pv 0) (zc zp zg)))))
   (zm (zF (i:=2) yg.nd rfl (Or.inl rfl) (zU zg))
   (zm (xM PassesOwn.never rfl (zY rfl T.n_range (zc zp zg)) (zR (i:=3) yg.nd rfl (Or.inl rfl))
    (zm (vU (i:=4) (show CScope (zu yH) _ "at" ["deck","base","bad","k","one"] ["deck","base"] [0,1] from ⟨rfl,by decide +kernel,by decide +kernel,rfl,by decide +kernel,rfl,by decide +kernel,by decide +kernel⟩) rfl yg.nd rfl (Or.inl rfl) (zY rfl T.n_range (zc (zQ (yS K) (zU (zc (zM yu zp (zO zA zN (hr.mono (by decide)) (zc (pv 0) (zc zp zg)))) (zc zp (zc zp zg)))) (zO zA zN (hr.mono (by decide)) (zc (pv 0) (zc zp zg))) (fun _ _=>rfl)) zg)) (fun _ _ _ _=>yE) (fun _ _ _ _=>(zO zA zN (hr.mono (by decide)) (zc (pv 1) (zc (pv 2) zg)))))
    (zx (xQ (yd (VB K HU) (pv 4) (pv 2) (by with_unfolding_all rfl))
     (zx (xP (Z3 PySem.F.plainAttrs_list PySem.F.slot_list_append PySem.F.type_list_append vd (pv 2) (zc (pv 4) zg))))
     yj))))
   (zm (xQ (yd YQ (zO zA zN (hr.mono (by decide)) (zc (pv 0) (zc zp zg))) zp (ye _))
    (zm (zF (i:=1) yg.nd rfl (Or.inr rfl) (zM yu zp (zO zA zN (hr.mono (by decide)) (zc (pv 0) (zc zp zg)))))
    (zm (vU (i:=2) (show CScope (zu yH) _ "figure" ["deck","base","bad","k","one"] [] [] from ⟨rfl,by decide +kernel,by decide +kernel,rfl,by decide +kernel,rfl,by decide +kernel,by decide +kernel⟩) rfl yg.nd rfl (Or.inl rfl) (WM rfl T.n_range (zc zp (zc (pv 1) zg))) (fun _ _ _ _=>yE) (fun _ _ _ _=>(zU (zc (pv 0) zg))))
    (zx (xQ (yd YQ (zO zA zN (hr.mono (by decide)) (zc (pv 0) (zc zp zg))) zp (ye _))
     (zx (zF (i:=2) yg.nd rfl (Or.inl rfl) (zM Xa (xT (Zd K) (pv 2) (wg zp) uF) (zU (zc (zU (zc zp zg)) zg)))))
     yj))))
    yj)
   (zx (zL (vM (zc (pv 1) (zc (zB (zbp K HU) (by rfl) T.n_sorted boot_sorted (zc (pv 2) zg)) zg))))))))),?_⟩
  refine ⟨_,rfl,d,_,fp,rfl,DK,(by decide),(by decide),fun x1 H1 hx1 S1=>⟨_,_,rfl,rfl,?_⟩⟩
  obtain ⟨b,hb,hb2,hb3⟩ : ∃ b : Nat,(2 + (x1 : Int)) = (b : Int)∧2≤b∧b≤3:=⟨2 + x1,by omega,by omega,by omega⟩
  dsimp only
  rw [hb]
  refine ⟨(by decide : 0≤sizeLine),fun bl hbl=>?_⟩
  have fbl:=S1.dk.fresh hbl
  have blH:=S1.free hbl
  have S2:=S1.new hbl (o:=.lst [])
  refine ⟨4,rfl,by decide,by decide,yD (lo:=0) (n:=4) (fun i σ H15=>∃ (v1 v2 : Option V) (zs : List (Addr × List Int)),
   σ = [some (.ref d),some (.int b),some (.ref bl),v1,v2]∧zs.length≤i∧Deck H15 d fp∧H15 bl = some (.lst (zs.map fun z=>V.ref z.1))∧(∀ z ∈ zs,H15 z.1 = some (.lst (z.2.map V.int))∧z.1 ∉ fp∧z.1 ≠ bl)∧(∀ l ∈ zs.map (·.2),WN b l)∧(zs.map (·.2)).Nodup∧Same (aw (bl :: fp) H) (aw (bl :: fp) H15)) ⟨none,none,[],rfl,Nat.le_refl _,S2.dk,zf,(by simp),(by simp),(by simp),Jb S2⟩ ?_ ?_⟩
  ·rintro i σ H15 hi ⟨v1,v2,zs,rfl,hzl,D15,hB,hZ,hG,nd,sm⟩
   refine ⟨_,rfl,d,_,fp,rfl,D15,by decide,by decide,fun y1 H16 hy1 S16=>⟨_,_,rfl,rfl,(by show 3≤sizeLine; decide),fun l4 hl4=>?_⟩⟩
   have f4:=S16.dk.fresh hl4
   have S17:=S16.new hl4 (o:=.lst [.int (1 + (y1 : Int)),.int 2,.int 3])
   refine ⟨_,rfl,d,_,fp,rfl,S17.dk,by decide,by decide,fun y2 H18 hy2 S18=>?_⟩
   obtain ⟨N,hN,hN1,hN3⟩ : ∃ N : Nat,atI [V.int (1 + (y1 : Int)),V.int 2,V.int 3] (y2 : Int) = some (.int N)∧1≤N∧N≤3:=by
    have h3 : y2 < 3:=by omega
    match y2,h3 with
    | 0,_=>exact ⟨1 + y1,rfl,by omega,by omega⟩
    | 1,_=>exact ⟨2,rfl,by omega,by omega⟩
    | 2,_=>exact ⟨3,rfl,by omega,by omega⟩
   refine ⟨l4,_,_,_,rfl,rfl,SqL.of (S18.get f4 zf),hN,(N : Int),rfl,by omega,by omega,xJ (lo:=0) (n:=(N : Int).toNat) (fun j ys Hc=>Stp fp d H15 Hc∧∃ ms : List Int,ys = ms.map V.int∧ms.length = j∧∀ f ∈ ms,0≤f∧f < (b : Int)) ⟨S17.trans S18,[],rfl,rfl,by simp⟩ ?_ ?_⟩
   ·rintro j ys Hc hj ⟨Sc,ms,rfl,hml,hmf⟩
    refine ⟨by rw [List.length_map,hml]; exact Nat.lt_of_lt_of_le (show j < 5 by omega) (by decide),?_⟩
    unfold jo
    dsimp only
    rw [if_pos rfl]
    refine ⟨_,rfl,_,rfl,d,_,fp,rfl,Sc.dk,by omega,by omega,fun y3 H19 hy3 S19=>⟨Sc.trans S19,ms ++ [(y3 : Int)],by simp,by simp [hml],fun f hf=>?_⟩⟩
    rcases List.mem_append.mp hf with hf | hf
    ·exact hmf f hf
    ·have e : f = (y3 : Int):=by simpa using hf
     omega
   ·rintro ys Hc ⟨Sc,ms,rfl,hml,hmf⟩ p hp
    have hBc:=Sc.get fbl hB
    have nbp : bl ≠ p:=zy hBc hp
    have hZc : ∀ z ∈ zs,Hc z.1 = some (.lst (z.2.map V.int)):=fun z hz=>Sc.get (hZ z hz).2.1 (hZ z hz).1
    have fpp:=Sc.dk.fresh hp
    refine ⟨_,rfl,_,rfl,bl,_,(zs.map (·.2)).map yt,yt ms,rfl,SqL.of (zj hp _ _ hBc),TrsAt.lists (fun z hz=>zj hp _ _ (hZc z hz)),TrAt.ints (a:=p) (SqL.of zf),Nat.le_trans (xu _) (by decide),_,rfl,?_⟩
    have sm2 : Same (aw (bl :: fp) H) (aw (bl :: fp) (upd Hc p (.lst (ms.map V.int)))):=sm.trans ((Jb Sc).trans ((zj hp).aw _))
    have D18:=Sc.dk.upd fpp (o:=.lst (ms.map V.int))
    rw [if_pos rfl,YC]
    by_cases hin : ms ∈ zs.map (·.2)
    ·rw [decide_eq_true hin]
     refine xW ?_
     exact ⟨_,_,zs,rfl,by omega,D18,zj hp _ _ hBc,fun z hz=>⟨zj hp _ _ (hZc z hz),(hZ z hz).2⟩,hG,nd,sm2⟩
    ·rw [decide_eq_false hin]
     refine wF ?_
     refine ⟨_,rfl,.inl ⟨rfl,_,SqL.of (zj hp _ _ hBc)⟩,_,rfl,bl,_,_,rfl,rfl,zj hp _ _ hBc,by rw [List.length_map]; exact Nat.lt_of_le_of_lt (show zs.length≤4 by omega) (by decide),?_⟩
     refine ⟨_,_,zs ++ [(p,ms)],rfl,by rw [List.length_append,List.length_singleton]; omega,D18.upd fbl,by rw [zf]; simp,fun z hz=>?_,fun l hl=>?_,?_,sm2.trans V0⟩
     ·rcases List.mem_append.mp hz with hz | hz
      ·rw [zq (hZ z hz).2.2]
       exact ⟨zj hp _ _ (hZc z hz),(hZ z hz).2⟩
      ·have e : z = (p,ms):=by simpa using hz
       subst e
       exact ⟨by rw [zq (Ne.symm nbp),zf],fpp,Ne.symm nbp⟩
     ·rw [List.map_append] at hl
      rcases List.mem_append.mp hl with hl | hl
      ·exact hG l hl
      ·have e : l = ms:=by simpa using hl
       subst e
       exact ⟨fun z=>by rw [z] at hml; simp at hml; omega,by omega,hmf⟩
     ·rw [List.map_append]
      refine List.nodup_append.mpr ⟨nd,by simp,fun x hx y hy=>?_⟩
      have e : y = ms:=by simpa using hy
      rw [e]
      exact fun z=>hin (z ▸ hx)
  rintro σ H15 ⟨v1,v2,zs0,rfl,hzl,D15,hB,hZ,hG,nd,sm⟩
  have sm0:=zci sm blH
  dsimp only [zb5]
  refine (?key : ∀ D : Ends,(∀ (b : Nat) (bl : Addr) (zs : List (Addr × List Int)) (H2 : Hp) (v3 v4 : Option V),2≤b->b≤16->zs.length≤4->Deck H2 d fp->H2 bl = some (.lst (zs.map fun z=>V.ref z.1))->(∀ z ∈ zs,H2 z.1 = some (.lst (z.2.map V.int))∧z.1 ∉ fp)->(∀ l ∈ zs.map (·.2),WN b l)->(zs.map (·.2)).Nodup->Same (aw fp H) (aw fp H2)->D.nx [some (.ref d),some (.int b),some (.ref bl),v3,v4] H2)->(zeQ _ _ _) D _ H15) _ ?_
  ·intro D hnx
   refine ⟨_,rfl,d,_,fp,rfl,D15,by decide,by decide,fun x6 H16 hx6 S16=>⟨rfl,_,rfl,?_⟩⟩
   refine Uu (fun _=>?_) (fun _=>?_)
   ·refine ⟨_,rfl,d,_,fp,rfl,S16.dk,by decide,by decide,fun x7 H17 hx7 S17=>⟨_,_,rfl,rfl,?_⟩⟩
    obtain ⟨c,hc,hc2,hc5⟩ : ∃ c : Nat,(2 + (x7 : Int)) = (c : Int)∧2≤c∧c≤5:=⟨2 + x7,by omega,by omega,by omega⟩
    dsimp only
    rw [hc]
    refine ⟨_,rfl,1,(c : Int),rfl,⟨by omega,by omega,by omega,by omega⟩,xJ (lo:=1) (n:=((c : Int) - 1).toNat) (fun j ys Hc=>Stp fp d H15 Hc∧∃ zs : List (Addr × List Int),ys = (zs.map fun z=>V.ref z.1)∧zs.map (·.2) = (List.range j).map (fun (i : Nat)=>[(i : Int) + 1])∧∀ z ∈ zs,Hc z.1 = some (.lst (z.2.map V.int))∧z.1 ∉ fp) ⟨S16.trans S17,[],rfl,rfl,by simp⟩ ?_ ?_⟩
    ·rintro j ys Hc hj ⟨Sc,zs,rfl,hzs,hz⟩
     have hzl : zs.length = j:=by have:=congrArg List.length hzs; rwa [List.length_map,List.length_map,List.length_range] at this
     refine ⟨by rw [List.length_map,hzl]; exact Nat.lt_of_lt_of_le (show j < 5 by omega) (by decide),?_⟩
     unfold jo
     dsimp only
     rw [if_pos rfl]
     refine ⟨_,rfl,(by show 1≤sizeLine; decide),fun p hp=>⟨Sc.new hp,zs ++ [(p,[(j : Int) + 1])],by simp,?_,fun z hzm=>?_⟩⟩
     ·rw [List.map_append,hzs,List.range_succ,List.map_append]; rfl
     ·rcases List.mem_append.mp hzm with hzm | hzm
      ·exact ⟨zj hp _ _ (hz z hzm).1,(hz z hzm).2⟩
      ·have e : z = (p,[(j : Int) + 1]):=by simpa using hzm
       subst e
       exact ⟨by rw [zf,show (1 : Int) + (j : Int) = (j : Int) + 1 by omega]; rfl,Sc.dk.fresh hp⟩
    ·rintro ys Hc ⟨Sc,zs,rfl,hzs,hz⟩ q hq
     have fq:=Sc.dk.fresh hq
     have Sq:=Sc.new hq (o:=.lst (zs.map fun z=>V.ref z.1))
     have hq1 : upd Hc q (.lst (zs.map fun z=>V.ref z.1)) q = some (.lst (zs.map fun z=>V.ref z.1)):=zf
     have hzq : ∀ z ∈ zs,upd Hc q (.lst (zs.map fun z=>V.ref z.1)) z.1 = some (.lst (z.2.map V.int))∧z.1 ∉ fp:=fun z hm=>⟨zj hq _ _ (hz z hm).1,(hz z hm).2⟩
     generalize upd Hc q (.lst (zs.map fun z=>V.ref z.1)) = Hq at Sq hq1 hzq
     have hcn : ((c : Int) - 1).toNat = c - 1:=by omega
     rw [hcn] at hzs
     have hzl : zs.length = c - 1:=by have:=congrArg List.length hzs; rwa [List.length_map,List.length_map,List.length_range] at this
     have gst : ∀ l ∈ zs.map (·.2),WN c l∧l ≠ [0]:=fun l hl=>by
      rw [hzs] at hl
      obtain ⟨i,hi,rfl⟩:=List.mem_map.mp hl
      have hi:=List.mem_range.mp hi
      refine ⟨⟨by simp,(by show 1≤4; decide),fun f hf=>?_⟩,fun z=>?_⟩
      ·have e : f = (i : Int) + 1:=by simpa using hf
       omega
      ·injection z with z; omega
     have ndz : (zs.map (·.2)).Nodup:=by
      rw [hzs]
      refine List.Pairwise.map _ (fun i j hij=>?_) (List.nodup_range (n:=c - 1))
      intro z; injection z with z; omega
     refine ⟨_,rfl,d,_,fp,rfl,Sq.dk,by decide,by decide,fun x8 H18 hx8 S18=>⟨rfl,_,rfl,?_⟩⟩
     have hq8:=S18.get fq hq1
     have hz8 : ∀ z ∈ zs,H18 z.1 = some (.lst (z.2.map V.int))∧z.1 ∉ fp:=fun z hm=>⟨S18.get (hzq z hm).2 (hzq z hm).1,(hzq z hm).2⟩
     have S8:=Sq.trans S18
     have D8:=S8.dk
     refine Uu (fun _=>?_) (fun _=>?_)
     ·refine ⟨_,rfl,_,rfl,q,_,rfl,SqL.of hq8,fun q2 k2=>?_⟩
      rw [show jn (zs.map fun z=>V.ref z.1) (some 1) none = (zs.map fun z=>V.ref z.1).drop 1 from tD _ 1]
      refine ⟨(by show 1≤sizeLine; decide),fun q3 k3=>⟨(by show 1≤sizeLine; decide),fun q4 k4=>?_⟩⟩
      have t3:=(zj k3 (o:=.lst [V.int 0])).trans (zj k4 (o:=.lst [V.ref q3]))
      have t4:=(zj k2 (o:=.lst ((zs.map fun z=>V.ref z.1).drop 1))).trans t3
      refine ⟨q2,q4,_,_,rfl,rfl,t3 _ _ zf,zf,?_,fun q5 k5=>?_⟩
      ·rw [List.length_drop,List.length_map,hzl]
       exact Nat.le_trans (show c - 1 - 1 + 1≤10 by omega) (by decide)
      have t5:=t4.trans (zj k5 (o:=.lst ((zs.map fun z=>V.ref z.1).drop 1 ++ [V.ref q3])))
      have D9:=D8.same (zj k2 (o:=.lst ((zs.map fun z=>V.ref z.1).drop 1)))
      have S9:=S8.trans (.of D8 t5)
      have h3:=zj k5 (o:=.lst ((zs.map fun z=>V.ref z.1).drop 1 ++ [V.ref q3])) _ _ (zj k4 (o:=.lst [V.ref q3]) _ _ (zf (H:=upd H18 q2 (.lst ((zs.map fun z=>V.ref z.1).drop 1))) (a:=q3) (o:=.lst [V.int 0])))
      refine hnx c q5 (zs.drop 1 ++ [(q3,[0])]) _ _ _ (by omega) (by omega) (by rw [List.length_append,List.length_drop,hzl]; simp; omega) S9.dk (by rw [zf,List.map_append,List.map_drop]; rfl) (fun z hm=>?_) (fun l hl=>?_) ?_ (sm0.trans S9.sm)
      ·rcases List.mem_append.mp hm with hm | hm
       ·have hm:=List.mem_of_mem_drop hm
        exact ⟨t5 _ _ (hz8 z hm).1,(hz8 z hm).2⟩
       ·have e : z = (q3,[0]):=by simpa using hm
        subst e
        exact ⟨h3,D9.fresh k3⟩
      ·rw [List.map_append] at hl
       rcases List.mem_append.mp hl with hl | hl
       ·obtain ⟨z,hm,rfl⟩:=List.mem_map.mp hl
        exact (gst _ (List.mem_map.mpr ⟨z,List.mem_of_mem_drop hm,rfl⟩)).1
       ·have e : l = [0]:=by simpa using hl
        subst e
        exact ⟨by simp,(by show 1≤4; decide),fun f hf=>by
         have e : f = 0:=by simpa using hf
         omega⟩
      ·rw [List.map_append,List.map_drop]
       refine List.nodup_append.mpr ⟨ndz.sublist (List.drop_sublist _ _),by simp,fun x hx y hy=>?_⟩
       have e : y = [0]:=by simpa using hy
       rw [e]
       exact (gst x (List.mem_of_mem_drop hx)).2
     ·exact hnx c q zs _ _ _ (by omega) (by omega) (by omega) D8 hq8 hz8 (fun l hl=>(gst l hl).1) ndz (sm0.trans S8.sm)
   ·exact hnx b bl zs0 _ _ _ hb2 (by omega) (by omega) S16.dk (S16.get fbl hB) (fun z hz=>⟨S16.get (hZ z hz).2.1 (hZ z hz).1,(hZ z hz).2.1⟩) hG nd (sm0.trans S16.sm)
  ·intro b bl zs H2 v3 v4 hb2 hb16 hzl D2 hB hZ hG nd sm
   refine ⟨_,rfl,_,rfl,bl,zs,rfl,SqL.of hB,by omega,fun z hz=>SqL.of (hZ z hz).1,nd,fun p zs' hp pm pw=>⟨(by show 2≤sizeLine; decide),fun r hr=>?_⟩⟩
   have D16:=D2.same (zj hp (o:=.lst (zs'.map fun z=>V.ref z.1)))
   have npr : p ≠ r:=fun z=>by rw [← z,zf] at hr; cases hr
   have t2:=(zj hp (o:=.lst (zs'.map fun z=>V.ref z.1))).trans (zj hr (o:=.tup [V.int b,V.ref p]))
   refine kk r b p zs' _ ⟨D16.same (zj hr),sm.trans (t2.aw fp)⟩ ⟨?_,?_,fun z hz=>?_⟩ ⟨hb2,hb16,by rw [List.length_map,pm.length_eq]; omega,fun l hl=>?_,by rw [List.pairwise_map]; exact pw⟩
   ·rw [zP (D16.fresh hr),zf]
   ·rw [zP (D2.fresh hp),zq npr,zf]
   ·have hzm:=pm.mem_iff.mp hz
    rw [zP (hZ z hzm).2]
    exact t2 _ _ (hZ z hzm).1
   ·obtain ⟨z,hz,rfl⟩:=List.mem_map.mp hl
    exact hG _ (List.mem_map.mpr ⟨z,pm.mem_iff.mp hz,rfl⟩)
end
def X7 (ls : List (List Int)) (b m : Nat) (c : Nat) (y : List Int) : Nat:=if 0 < c∨m = 1 then cnt ls b (m - 1) y else 0
def Wh (ls : List (List Int)) (b m : Nat) (c : Nat) (y : List Int) : Nat:=if 0 < c∨m = 1 then c * b ^ (m - 1) * cnt ls b (m - 1) y + tt ls b (fun c=>c) b (m - 1) y else 0
theorem jD (f : Nat->Nat) {b : Nat} (hb : 1≤b) : ((List.range b).map f).sum = f 0 + ((List.range (b - 1)).map fun c=>f (c + 1)).sum:=by
 obtain ⟨d,rfl⟩ : ∃ d,b = d + 1:=⟨b - 1,by omega⟩
 rw [List.range_succ_eq_map,List.map_cons,List.sum_cons,List.map_map,Nat.add_sub_cancel]
 rfl
theorem J9 {ls : List (List Int)} (ne : ∀ l ∈ ls,l ≠ []) {b m : Nat} (h2 : 2≤b) (hm : 1≤m) : ((yp ls [] b).map fun p=>X7 ls b m p.1 p.2).sum + low ls b m = many (gd ls b) (b ^ m):=by
 obtain ⟨t,rfl⟩ : ∃ t,m = t + 1:=⟨m - 1,by omega⟩
 have hF : wW ls b (t + 1) = ((List.range b).map fun (c : Nat)=>if c = 0 then wW ls b t else if lacks ls [(c : Int)] = true then cnt ls b t (zH ls [(c : Int)]) else 0).sum:=rfl
 rw [jD _ (by omega)] at hF
 rw [j7,jD _ (by omega),← w6 ne h2,hF]
 have e : ((List.range (b - 1)).map fun c=>if lacks ls ([] ++ [((c + 1 : Nat) : Int)]) = true then X7 ls b (t + 1) (c + 1) (zH ls ([] ++ [((c + 1 : Nat) : Int)])) else 0) = (List.range (b - 1)).map fun c=>if c + 1 = 0 then wW ls b t else if lacks ls [((c + 1 : Nat) : Int)] = true then cnt ls b t (zH ls [((c + 1 : Nat) : Int)]) else 0:=List.map_congr_left fun c _=>by
  rw [if_neg (Nat.succ_ne_zero c)]
  unfold X7
  rw [if_pos (Or.inl (Nat.succ_pos c))]
  rfl
 rw [e,if_pos rfl]
 have e0 : (if lacks ls ([] ++ [((0 : Nat) : Int)]) = true then X7 ls b (t + 1) 0 (zH ls ([] ++ [((0 : Nat) : Int)])) else 0) + low ls b (t + 1) = wW ls b t:=by
  unfold X7 low
  by_cases ht : t = 0
  ·subst ht
   rw [if_pos (show 0 < 0∨0 + 1 = 1 from Or.inr rfl),if_pos (show 0 + 1 = 1 from rfl)]
   rfl
  ·rw [if_neg (show ¬ (0 < 0∨t + 1 = 1) by omega),if_neg (show ¬ t + 1 = 1 by omega),Nat.add_sub_cancel,w6 ne h2]
   split <;> simp
 omega
theorem JW {ls : List (List Int)} (ne : ∀ l ∈ ls,l ≠ []) {b m : Nat} (h2 : 2≤b) (hm : 1≤m) : ((yp ls [] b).map fun p=>Wh ls b m p.1 p.2).sum + tot (gd ls b) (fun n=>n) (wG b m) = tot (gd ls b) (fun n=>n) (b ^ m):=by
 obtain ⟨t,rfl⟩ : ∃ t,m = t + 1:=⟨m - 1,by omega⟩
 have hF : ttO ls b (fun c=>c) b (t + 1) = ((List.range b).map fun (c : Nat)=>if c = 0 then ttO ls b (fun c=>c) b t else if lacks ls [(c : Int)] = true then b ^ t * c * cnt ls b t (zH ls [(c : Int)]) + tt ls b (fun c=>c) b t (zH ls [(c : Int)]) else 0).sum:=rfl
 rw [jD _ (by omega)] at hF
 rw [j7,jD _ (by omega),← Wb ne h2,hF]
 have e : ((List.range (b - 1)).map fun c=>if lacks ls ([] ++ [((c + 1 : Nat) : Int)]) = true then Wh ls b (t + 1) (c + 1) (zH ls ([] ++ [((c + 1 : Nat) : Int)])) else 0) = (List.range (b - 1)).map fun c=>if c + 1 = 0 then ttO ls b (fun c=>c) b t else if lacks ls [((c + 1 : Nat) : Int)] = true then b ^ t * (c + 1) * cnt ls b t (zH ls [((c + 1 : Nat) : Int)]) + tt ls b (fun c=>c) b t (zH ls [((c + 1 : Nat) : Int)]) else 0:=List.map_congr_left fun c _=>by
  rw [if_neg (Nat.succ_ne_zero c)]
  unfold Wh
  rw [if_pos (Or.inl (Nat.succ_pos c)),Nat.add_sub_cancel,Nat.mul_comm (c + 1) (b ^ t)]
  rfl
 rw [e,if_pos rfl]
 have e0 : (if lacks ls ([] ++ [((0 : Nat) : Int)]) = true then Wh ls b (t + 1) 0 (zH ls ([] ++ [((0 : Nat) : Int)])) else 0) + tot (gd ls b) (fun n=>n) (wG b (t + 1)) = ttO ls b (fun c=>c) b t:=by
  unfold Wh wG
  by_cases ht : t = 0
  ·subst ht
   rw [if_pos (show 0 < 0∨0 + 1 = 1 from Or.inr rfl),if_pos (show 0 + 1 = 1 from rfl),Nat.zero_mul,Nat.zero_mul]
   show (if _ then 0 + 0 else 0) + 0 = 0 * _
   rw [Nat.zero_mul]
   split <;> rfl
  ·rw [if_neg (show ¬ (0 < 0∨t + 1 = 1) by omega),if_neg (show ¬ t + 1 = 1 by omega),Nat.add_sub_cancel,Wb ne h2]
   split <;> simp
 omega
section
variable {P : Program} {w : World} {K : PySem.W.Frag} {mg : Str->Option Value} {base : Heap}
def QB (ls : List (List Int)) (b m : Nat) : Nat:=((yp ls [] b).map fun p=>X7 ls b m p.1 p.2).sum
def Qk (ls : List (List Int)) (b m : Nat) : Nat:=((yp ls [] b).map fun p=>Wh ls b m p.1 p.2).sum
def ZQ : Sp:=fun vs H Q _=>∃ (r : Addr) (b : Nat) (bl : Addr) (zs : List (Addr × List Int)) (m : Nat),vs = [.ref r,.int m]∧RuleAt H r b bl zs∧zW b (zs.map (·.2))∧1≤m∧m≤60∧∀ q H',Same H H'->H' q = some (.tup [.int ((QB (zs.map (·.2)) b m : Nat) : Int),.int ((Qk (zs.map (·.2)) b m : Nat) : Int)])->Q (.ref q) H'
theorem yf : zE ["rule","m","base","rows","whole","turn","many","total","figure","there","here"] ["rule","m"] (zu jz):=⟨rfl,rfl,rfl,by decide +kernel,rfl,by decide +kernel,by decide +kernel⟩
set_option maxHeartbeats 0 in
theorem QT {f f1 f2 : Addr} {fd fd1 fd2 : FuncData} (D : Df K mg "_law_long" jz ["rule","m"] f fd) (jF : Df K mg "_law_table" xn ["rule","m"] f1 fd1) (Yn : FnOk P w K mg base CX0 3 f1 fd1 ["rule","m"] (jL P w)) (wR : Df K mg "_law_steps" xr ["rule"] f2 fd2) (vZ : FnOk P w K mg base CX0 2 f2 fd2 ["rule"] (tQ P w)) (T : Blt mg) : FnOk P w K mg base CX0 4 f fd ["rule","m"] ZQ:=by
 refine D.fn.ok yf (fun vs H Q E h=>?_) (fun cdv A outer s H vs Q E hr h=>?_)
 ·obtain ⟨r,b,bl,zs,m,rfl,_⟩:=h; rfl
 ·obtain ⟨r,b,bl,zs,m,rfl,R,g,hm1,hm,kk⟩:=h
  have b2:=g.b2
  have b16:=g.b16
  refine ⟨_,(zm (zF (i:=2) yf.nd rfl (Or.inl rfl) (zQ (wH K) (pv 0) zp (fun _ _=>rfl)))
   (zm (zF (i:=3) yf.nd rfl (Or.inl rfl) (zO jF Yn (hr.mono (by decide)) (zc (pv 0) (zc (pv 1) zg))))
   (zm (zF (i:=4) yf.nd rfl (Or.inl rfl) zp)
   (zm (xM PassesOwn.never rfl (zY rfl T.n_range (zc (zM qU (pv 1) zp) zg)) (zR (i:=5) yf.nd rfl (Or.inl rfl))
    (zx (zF (i:=4) yf.nd rfl (Or.inl rfl) (zM uB (pv 4) (pv 2)))))
   (zm (zF (i:=6) yf.nd rfl (Or.inl rfl) zp)
   (zm (zF (i:=7) yf.nd rfl (Or.inl rfl) zp)
   (zm (xM PassesOwn.never rfl (Z6 K (jY P w (uY hr) (zO wR vZ (hr.mono (by decide)) (zc (pv 0) zg)) (vM zg) (fun _ _=>rfl))) (W0 rfl (yz (zR (i:=8) yf.nd rfl (Or.inl rfl)) (yz (zR (i:=9) yf.nd rfl (Or.inl rfl)) qH)))
    (zx (zcA (xQ (PW.pt (za6 (yd zae (pv 8) zp (ye _)) (Jh (yd YQ (pv 1) zp (ye _)))))
     (zm (zF (i:=10) yf.nd rfl (Or.inl rfl) (zQ (wH K) (jY P w (uY hr) (zQ (yS K) (pv 3) (zM qU (pv 1) zp) (fun _ _=>rfl)) (pv 9) (fun _ _=>rfl)) zp (fun _ _=>rfl)))
     (zm (zF (i:=6) yf.nd rfl (Or.inl rfl) (zM yu (pv 6) (pv 10)))
     (zm (zF (i:=7) yf.nd rfl (Or.inl rfl) (zM yu (pv 7) (zM Jp (zM uB (pv 8) (pv 4)) (pv 10))))
     (zx (zF (i:=7) yf.nd rfl (Or.inl rfl) (zM yu (pv 7) (zQ (wH K) (jY P w (uY hr) (zQ (yS K) (pv 3) (zM qU (pv 1) zp) (fun _ _=>rfl)) (pv 9) (fun _ _=>rfl)) zp (fun _ _=>rfl))))))))
     yj))))
   (zx (zL (vM (zc (pv 6) (zc (pv 7) zg)))))))))))),?_⟩
  refine ⟨_,rfl,r,_,_,.int b,rfl,rfl,SqT.of R.tu,rfl,_,rfl,_,rfl,r,b,bl,zs,m,rfl,R,g,hm,fun ra rs M H1 hra s1 Rw hrl CM=>?_⟩
  refine ⟨_,rfl,_,_,rfl,rfl,_,rfl,by omega,by omega,?_⟩
  rw [show ((m : Int) - 1).toNat = m - 1 by omega]
  refine yD (lo:=0) (n:=m - 1) (fun i σ Hc=>∃ v5 : Option V,σ = [some (.ref r),some (.int m),some (.int b),some (.ref ra),some (.int ((b ^ i : Nat) : Int)),v5,none,none,none,none,none]∧Hc = H1) ⟨_,rfl,rfl⟩ ?_ ?_
  ·rintro i σ Hc hi ⟨v5,rfl,rfl⟩
   refine ⟨_,rfl,_,rfl,_,_,rfl,rfl,.inr ⟨by omega,by omega⟩,some (.int (0 + (i : Int))),?_,rfl⟩
   dsimp only
   rw [show ((b ^ i : Nat) : Int) * (b : Int) = ((b ^ (i + 1) : Nat) : Int) by rw [Nat.pow_succ,Int.natCast_mul]]
   rfl
  rintro σ Hc ⟨v5,rfl,rfl⟩
  refine ⟨_,rfl,r,b,bl,zs,rfl,R.same s1,g,fun fo kvs H2 hfo s2 S2 hcl hrt=>?_⟩
  refine ⟨(by decide : 0≤sizeLine),fun e0 he0=>?_⟩
  have m3:=zj he0 (o:=.tup [])
  cases hv : yw kvs (kI []) with
  | none=>exact absurd hv hrt
  | some v =>
  have S3:=S2.same m3
  have Rw3:=(Rw.same s2).same m3
  have s3:=(s1.trans s2).trans m3
  have he3 : (upd H2 e0 (.tup [])) e0 = some (.tup ((kI []).map kV)):=zf
  generalize upd H2 e0 (.tup []) = H3 at S3 Rw3 s3 he3
  obtain ⟨la,ss,rfl,_,St⟩:=S3.get hv
  refine ⟨fo,kvs,kI [],e0,.ref la,rfl,S3.d,rfl,he3,hv,la,rfl,⟨_,SqL.of St.li⟩,X3 (K:=K) (a:=la) (xs:=ss.map fun s=>V.ref s.1) (fun i σ Hd=>∃ (v8 v9 v10 : Option V),σ = [some (.ref r),some (.int m),some (.int b),some (.ref ra),some (.int ((b ^ (m - 1) : Nat) : Int)),v5,some (.int ((((ss.take i).map fun s=>X7 (zs.map (·.2)) b m s.2.1 s.2.2.2).sum : Nat) : Int)),some (.int ((((ss.take i).map fun s=>Wh (zs.map (·.2)) b m s.2.1 s.2.2.2).sum : Nat) : Int)),v8,v9,v10]∧Hd = H3) ⟨_,_,_,rfl,rfl⟩ (fun i σ Hd _ ⟨_,_,_,_,e⟩=>by rw [e]; exact SqL.of St.li) ?_ ?_⟩
  ·rintro i u σ Hd hi ⟨v8,v9,v10,rfl,rfl⟩
   rw [List.getElem?_map] at hi
   obtain ⟨t,hti,e⟩:=Option.map_eq_some_iff.mp hi
   subst e
   have htm:=List.mem_of_getElem? hti
   obtain ⟨q1,q2⟩:=St.tu t htm
   have hm' : (t.2.1,t.2.2.2) ∈ yp (zs.map (·.2)) [] b:=by rw [← St.eq]; exact List.mem_map.mpr ⟨t,htm,rfl⟩
   have htb:=(Zn hm').1
   have eC : ((ss.take (i + 1)).map fun s=>X7 (zs.map (·.2)) b m s.2.1 s.2.2.2).sum = ((ss.take i).map fun s=>X7 (zs.map (·.2)) b m s.2.1 s.2.2.2).sum + X7 (zs.map (·.2)) b m t.2.1 t.2.2.2:=by
    rw [List.take_succ,hti,List.map_append,List.sum_append]; simp
   have eT : ((ss.take (i + 1)).map fun s=>Wh (zs.map (·.2)) b m s.2.1 s.2.2.2).sum = ((ss.take i).map fun s=>Wh (zs.map (·.2)) b m s.2.1 s.2.2.2).sum + Wh (zs.map (·.2)) b m t.2.1 t.2.2.2:=by
    rw [List.take_succ,hti,List.map_append,List.sum_append]; simp
   refine ⟨t.1,_,rfl,SqT.of q1,rfl,_,_,rfl,_,_,rfl,rfl,?_⟩
   generalize hcC : ((ss.take i).map fun s=>X7 (zs.map (·.2)) b m s.2.1 s.2.2.2).sum = cC at eC
   generalize hcT : ((ss.take i).map fun s=>Wh (zs.map (·.2)) b m s.2.1 s.2.2.2).sum = cT at eT
   obtain ⟨lr,hlr⟩ : ∃ lr,rs[m - 1]? = some lr:=⟨_,List.getElem?_eq_getElem (by omega)⟩
   have hat : atI (rs.map V.ref) ((m : Int) - 1) = some (.ref lr):=by
    rw [show (m : Int) - 1 = ((m - 1 : Nat) : Int) by omega]
    exact yQ (by rw [List.getElem?_map,hlr]; rfl)
   obtain ⟨kr,dr,kq⟩:=Rw3.ok (m - 1) lr hlr
   obtain ⟨q,hq1,hq2⟩:=kq t.2.2.2 (CM.2 [] CM.1 (t.2.1,t.2.2.2) hm')
   have hpw : b ^ (m - 1)≤2 ^ (4 * 60):=by
    have h3 : b ^ (m - 1)≤16 ^ 60:=Nat.le_trans (Nat.pow_le_pow_left b16 _) (Nat.pow_le_pow_right (by decide) (by omega))
    rwa [show (16 : Nat) = 2 ^ 4 from rfl,← Nat.pow_mul] at h3
   have hcl:=V9 (zs.map (·.2)) b (m - 1) t.2.2.2
   refine ⟨fun σ Hd'=>∃ (v8 v9 v10 : Option V),σ = [some (.ref r),some (.int m),some (.int b),some (.ref ra),some (.int ((b ^ (m - 1) : Nat) : Int)),v5,some (.int ((((ss.take (i + 1)).map fun s=>X7 (zs.map (·.2)) b m s.2.1 s.2.2.2).sum : Nat) : Int)),some (.int ((((ss.take (i + 1)).map fun s=>Wh (zs.map (·.2)) b m s.2.1 s.2.2.2).sum : Nat) : Int)),v8,v9,v10]∧Hd' = Hd,?_,fun _ _ h=>h⟩
   by_cases hgo : 0 < t.2.1∨m = 1
   ·refine ⟨_,rfl,_,_,rfl,rfl,_,rfl,?_⟩
    by_cases h1 : 0 < t.2.1
    case' pos =>
     rw [decide_eq_true (show (0 : Int) < ((t.2.1 : Nat) : Int) by omega)]
     refine wF (wF ?_)
    case' neg =>
     rw [decide_eq_false (show ¬ (0 : Int) < ((t.2.1 : Nat) : Int) by omega)]
     refine xW ⟨_,rfl,rfl,_,rfl,zds (decide_eq_true (by rw [hgo.resolve_left h1]; rfl)) ?_⟩
    all_goals
     refine ⟨_,rfl,_,rfl,_,_,rfl,rfl,ra,_,_,.ref lr,rfl,rfl,SqL.of Rw3.li,hat,_,rfl,lr,kr,kI t.2.2.2,t.2.2.1,.ref q,rfl,dr,rfl,by rw [U7]; exact q2,hq1,q,_,_,_,rfl,rfl,SqT.of hq2,rfl,_,rfl,_,rfl,_,_,rfl,rfl,_,rfl,_,rfl,_,rfl,_,_,rfl,rfl,.inl ⟨by omega,by omega⟩,_,rfl,_,_,rfl,rfl,⟨?_,?_⟩,_,_,rfl,rfl,_,rfl,_,rfl,_,rfl,_,_,rfl,rfl,ra,_,_,.ref lr,rfl,rfl,SqL.of Rw3.li,hat,_,rfl,lr,kr,kI t.2.2.2,t.2.2.1,.ref q,rfl,dr,rfl,by rw [U7]; exact q2,hq1,q,_,_,_,rfl,rfl,SqT.of hq2,rfl,_,_,rfl,rfl,some (.int ((t.2.1 : Nat) : Int)),some (.ref t.2.2.1),some (.int ((cnt (zs.map (·.2)) b (m - 1) t.2.2.2 : Nat) : Int)),?_,rfl⟩
     ·rw [← Int.natCast_mul,Int.natAbs_natCast]
      exact Nat.lt_of_le_of_lt (Nat.mul_le_mul (show t.2.1≤2 ^ 4 by omega) hpw) (by rw [← Nat.pow_add]; exact Nat.pow_lt_pow_right (by decide) (by decide))
     ·rw [Int.natAbs_natCast]
      exact Nat.lt_of_le_of_lt (Nat.le_trans hcl hpw) (Nat.pow_lt_pow_right (by decide) (by decide))
     rw [eC,eT]
     unfold X7 Wh
     rw [if_pos hgo,if_pos hgo]
     dsimp only
     rw [← Int.natCast_mul,← Int.natCast_mul,← Int.natCast_add,← Int.natCast_add,← Int.natCast_add,Nat.add_assoc cT]
     rfl
   ·have h1 : ¬ 0 < t.2.1:=fun z=>hgo (.inl z)
    have h2' : ¬ m = 1:=fun z=>hgo (.inr z)
    refine ⟨_,rfl,_,_,rfl,rfl,_,rfl,?_⟩
    rw [decide_eq_false (show ¬ (0 : Int) < ((t.2.1 : Nat) : Int) by omega)]
    refine xW ⟨_,rfl,rfl,_,rfl,zeG (decide_eq_false (fun z=>by injection z with z; omega)) ⟨some (.int ((t.2.1 : Nat) : Int)),some (.ref t.2.2.1),v10,?_,rfl⟩⟩
    rw [eC,eT]
    unfold X7 Wh
    rw [if_neg hgo,if_neg hgo]
    rfl
  ·rintro σ Hd ⟨v8,v9,v10,rfl,rfl⟩
   rw [List.length_map,List.take_length]
   refine ⟨_,rfl,_,rfl,(by show 2≤sizeLine; decide),fun q hq=>kk q _ (s3.trans (zj hq)) ?_⟩
   rw [zf]
   unfold QB Qk
   rw [← St.eq,List.map_map,List.map_map]
   rfl
end
section
variable {P : Program} {w : World} {K : PySem.W.Frag} {mg : Str->Option Value} {base : Heap}
def qp : Sp:=fun vs H Q _=>∃ b n : Nat,vs = [.int b,.int n]∧2≤b∧b≤16∧n < 2 ^ 199 ∧
 ∀ l H',H l = none->H' l = some (.lst ((xN b n).map V.int))->Same H H'->Q (.ref l) H'
theorem yV : zE ["base","n","whole","found"] ["base","n"] (zu ul):=⟨rfl,rfl,rfl,by decide +kernel,rfl,by decide +kernel,by decide +kernel⟩
theorem Z1 {f : Addr} {fd : FuncData} (D : Df K mg "_law_figures" ul ["base","n"] f fd) (T : Blt mg) : FnOk P w K mg base CX0 1 f fd ["base","n"] qp:=by
 refine D.fn.ok yV (fun vs H Q E h=>?_) (fun cdv A outer s H vs Q E hr h=>?_)
 ·obtain ⟨b,n,rfl,_⟩:=h; rfl
 ·obtain ⟨b,n,rfl,h2,h16,hn,kk⟩:=h
  refine ⟨_,(zm (zF (i:=2) yV.nd rfl (Or.inl rfl) zp)
   (zm (Yo PassesOwn.never (yd YZ (zM uB (pv 2) (pv 0)) (pv 1) (ye _))
    (zx (zF (i:=2) yV.nd rfl (Or.inl rfl) (zM uB (pv 2) (pv 0)))))
   (zm (zF (i:=3) yV.nd rfl (Or.inl rfl) (zU zg))
   (zm (Yo PassesOwn.never (yd zae (pv 2) zp (ye _))
    (zm (xP (Z3 PySem.F.plainAttrs_list PySem.F.slot_list_append PySem.F.type_list_append vd (pv 3) (zc (zM Yl (pv 1) (pv 2)) zg)))
    (zm (zF (i:=1) yV.nd rfl (Or.inl rfl) (zM Yh (pv 1) (pv 2)))
    (zx (zF (i:=2) yV.nd rfl (Or.inl rfl) (zM Yl (pv 2) (pv 0)))))))
   (zx (zL (pv 3))))))),?_⟩
  have hb64 : CMul 0 (b : Int):=.inr ⟨by omega,by omega⟩
  refine Wk (fun σ H2=>H2 = H∧∃ k : Nat,σ = [some (.int b),some (.int n),some (.int ((b ^ k : Nat) : Int)),none]∧(k = 0∨b ^ k≤n))
   (fun σ _=>match σ with | [_,some (.int n),some (.int r),_]=>(n - r).toNat | _=>0) ⟨rfl,0,rfl,.inl rfl⟩ ?_ ?_
  ·rintro σ H2 ⟨rfl,k,rfl,hk⟩
   refine ⟨_,rfl,_,rfl,_,_,rfl,rfl,.inr ⟨by omega,by omega⟩,_,rfl,_,_,rfl,rfl,_,rfl,?_⟩
   have epow : ((b ^ k : Nat) : Int) * (b : Int) = ((b ^ (k + 1) : Nat) : Int):=by rw [Nat.pow_succ]; exact (Int.natCast_mul _ _).symm
   have hpos : 0 < b ^ k:=Nat.pow_pos (by omega)
   have hgrow : b ^ k < b ^ (k + 1):=by
    rw [Nat.pow_succ]
    exact (Nat.lt_mul_iff_one_lt_right hpos).mpr (by omega)
   rw [epow]
   refine Uu (fun h1=>?_) (fun h1=>?_)
   ·have h1' : b ^ (k + 1)≤n:=by have:=of_decide_eq_true h1; omega
    refine ⟨_,rfl,_,rfl,_,_,rfl,rfl,.inr ⟨by omega,by omega⟩,⟨rfl,k + 1,?_,.inr h1'⟩,?_⟩
    ·rw [← epow]; rfl
    ·show ((n : Int) - ((b ^ k : Nat) : Int) * (b : Int)).toNat < ((n : Int) - ((b ^ k : Nat) : Int)).toNat
     rw [epow]; omega
   ·have h1' : n < b ^ (k + 1):=by
     have : ¬ ((b ^ (k + 1) : Nat) : Int)≤(n : Int):=fun z=>h1 (decide_eq_true z)
     omega
    have hW : b ^ k < 2 ^ 200:=by
     rcases hk with z | z
     ·subst z; simp
     ·omega
    have htop : tops b k n = xN b n:=j5 h2 k n h1' hk
    have hlen : k≤200:=by
     have:=Vy h2 200 n (by omega)
     rw [← htop,We] at this; omega
    refine ⟨(by decide : 0≤sizeLine),fun l hl=>?_⟩
    refine Wk (fun σ H3=>∃ (n' : Nat) (F : List Int),H3 l = some (.lst (F.map V.int))∧Same H2 H3 ∧
      ((∃ j : Nat,j≤k∧σ = [some (.int b),some (.int n'),some (.int ((b ^ j : Nat) : Int)),some (.ref l)]∧n' < b ^ (j + 1)∧tops b k n = F ++ tops b j n')∨(σ = [some (.int b),some (.int n'),some (.int 0),some (.ref l)]∧tops b k n = F)))
     (fun σ _=>match σ with | [_,_,some (.int r),_]=>r.toNat | _=>0) ⟨n,[],zf,zj hl,.inl ⟨k,Nat.le_refl _,rfl,h1',rfl⟩⟩ ?_ ?_
    ·rintro σ H3 ⟨n',F,hF,sH,hc⟩
     rcases hc with ⟨j,hj,rfl,hn',he⟩ | ⟨rfl,he⟩
     ·have hpj : 0 < b ^ j:=Nat.pow_pos (by omega)
      have hWj : b ^ j < 2 ^ 200:=Nat.lt_of_le_of_lt (Nat.pow_le_pow_right (by omega) hj) hW
      refine ⟨_,rfl,_,_,rfl,rfl,_,rfl,?_⟩
      rw [decide_eq_true (show (0 : Int) < ((b ^ j : Nat) : Int) by omega)]
      refine wF ?_
      have hFl : F.length≤201:=by
       have:=congrArg List.length he
       rw [We,List.length_append] at this; omega
      refine ⟨_,rfl,.inl ⟨rfl,_,SqL.of hF⟩,_,rfl,_,rfl,_,_,rfl,rfl,⟨by omega,by omega⟩,l,_,_,rfl,rfl,hF,by rw [List.length_map]; exact Nat.lt_of_le_of_lt hFl (by decide),?_⟩
      refine ⟨_,rfl,_,rfl,_,_,rfl,rfl,(by omega : (0 : Int) < ((b ^ j : Nat) : Int)),?_⟩
      refine ⟨_,rfl,_,rfl,_,_,rfl,rfl,⟨by omega,by omega⟩,?_⟩
      refine ⟨⟨n' % b ^ j,F ++ [((n' / b ^ j : Nat) : Int)],?_,?_,?_⟩,?_⟩
      ·rw [zf]; simp
      ·exact fun b' o e=>by rw [zq (zy e hl)]; exact sH b' o e
      ·cases j with
       | zero =>
        right
        refine ⟨?_,?_⟩
        ·have e1 : ((b ^ 0 : Nat) : Int) / (b : Int) = 0:=by
          rw [Nat.pow_zero]; exact Int.ediv_eq_zero_of_lt (by omega) (by omega)
         show [some (V.int b),some (V.int ((n' : Int) % ((b ^ 0 : Nat) : Int))),some (V.int (((b ^ 0 : Nat) : Int) / (b : Int))),some (V.ref l)] = _
         rw [e1]; rfl
        ·rw [he]; rfl
       | succ j =>
        left
        refine ⟨j,by omega,?_,Nat.mod_lt _ hpj,?_⟩
        ·have e1 : ((b ^ (j + 1) : Nat) : Int) / (b : Int) = ((b ^ j : Nat) : Int):=by
          rw [← Int.natCast_ediv,Nat.pow_succ,Nat.mul_div_cancel _ (by omega)]
         show [some (V.int b),some (V.int ((n' : Int) % ((b ^ (j + 1) : Nat) : Int))),some (V.int (((b ^ (j + 1) : Nat) : Int) / (b : Int))),some (V.ref l)] = _
         rw [e1]; rfl
        ·rw [he,tops]; simp
      ·show (((b ^ j : Nat) : Int) / (b : Int)).toNat < (((b ^ j : Nat) : Int)).toNat
       rw [← Int.natCast_ediv]
       have:=Nat.div_lt_self hpj (show 1 < b by omega)
       omega
     ·refine ⟨_,rfl,_,_,rfl,rfl,_,rfl,xW ?_⟩
      refine ⟨_,rfl,?_⟩
      exact kk l H3 hl (by rw [hF,← he,htop]) sH
    ·intro σ H2 Q Q' hq
     rintro ⟨v,e,i,j,e1,e2,k,e3,q⟩
     exact ⟨v,e,i,j,e1,e2,k,e3,hq _ _ q⟩
  ·intro σ H2 Q Q' hq
   rintro ⟨v,e,v2,e',i,j,e1,e2,c,w,e4,i',j',e5,e6,k,e3,q⟩
   exact ⟨v,e,v2,e',i,j,e1,e2,c,w,e4,i',j',e5,e6,k,e3,hq _ _ q⟩
end
section
variable {P : Program} {w : World} {K : PySem.W.Frag} {mg : Str->Option Value} {base : Heap}
def jA : Sp:=fun vs H Q _=>∃ (r : Addr) (b : Nat) (bl : Addr) (zs : List (Addr × List Int)),vs = [.ref r]∧RuleAt H r b bl zs∧zs.length≤100 ∧
 ∀ (r' bl' : Addr) (zs' : List (Addr × List Int)) (H' : Hp),Same H H'->RuleAt H' r' b bl' zs'->zs'.map (·.2) = zs.map (·.2)->H bl' = none->H r' = none->(∀ z ∈ zs',H z.1 = none∧z.1 ≠ bl')->Q (.ref r') H'
theorem zaj : zE ["rule"] ["rule"] (zu tK):=⟨rfl,rfl,rfl,by decide +kernel,rfl,by decide +kernel,by decide +kernel⟩
theorem Z9 {f : Addr} {fd : FuncData} (D : Df K mg "_law_own" tK ["rule"] f fd) (T : Blt mg) : FnOk P w K mg base CX0 1 f fd ["rule"] jA:=by
 refine D.fn.ok zaj (fun vs H Q E h=>?_) (fun cdv A outer s H vs Q E hr h=>?_)
 ·obtain ⟨r,b,bl,zs,rfl,_⟩:=h; rfl
 ·obtain ⟨r,b,bl,zs,rfl,R,hl,kk⟩:=h
  refine ⟨_,(zx (zL (vM (zc (zQ (wH K) (pv 0) zp (fun _ _=>rfl)) (zc (wJ (show CScope (zu tK) _ "one" ["rule"] [] [] from ⟨rfl,by decide +kernel,by decide +kernel,rfl,by decide +kernel,rfl,by decide +kernel,by decide +kernel⟩) rfl (Z6 K (zQ (wH K) (pv 0) zp (fun _ _=>rfl))) (fun _ _ _ _=>yE) (fun _ _ _ _=>(tG (zan K) (by rfl) T.n_list boot_list (zc (pv 0) zg)))) zg))))),?_⟩
  refine ⟨_,rfl,r,_,_,V.int b,rfl,rfl,SqT.of R.tu,rfl,?_⟩
  refine ⟨_,rfl,r,_,_,V.ref bl,rfl,rfl,SqT.of R.tu,rfl,bl,rfl,⟨_,SqL.of R.li⟩,wD (K:=K) (a:=bl) (xs:=zs.map fun z=>V.ref z.1) (fun i ys H4=>Same H H4∧∃ ws : List (Addr × List Int),ys = ws.map (fun z=>V.ref z.1)∧ws.length = i∧ws.map (·.2) = (zs.take i).map (·.2)∧∀ z ∈ ws,H z.1 = none∧H4 z.1 = some (.lst (z.2.map V.int))) ⟨Same.refl _,[],rfl,rfl,rfl,by simp⟩ (fun i ys H4 _ ⟨e,_⟩=>SqL.of (e _ _ R.li)) ?_ ?_⟩
  ·rintro j x ys H4 hx ⟨s4,ws,rfl,hwl,hw2,hws⟩
   rw [List.getElem?_map] at hx
   obtain ⟨z,hzj,e⟩:=Option.map_eq_some_iff.mp hx
   subst e
   have hzm:=List.mem_of_getElem? hzj
   have hj : j < zs.length:=(List.getElem?_eq_some_iff.mp hzj).1
   refine ⟨by rw [List.length_map,hwl]; exact Nat.lt_of_lt_of_le (show j < 101 by omega) (by decide),?_⟩
   unfold jo
   dsimp only
   rw [if_pos rfl]
   refine ⟨_,rfl,z.1,_,rfl,.inl (SqL.of (s4 _ _ (R.st z hzm))),fun p hp=>⟨s4.trans (zj hp),ws ++ [(p,z.2)],by simp,by simp [hwl],?_,fun y hy=>?_⟩⟩
   ·rw [List.map_append,hw2,List.take_succ,hzj]; simp
   ·rcases List.mem_append.mp hy with hy | hy
    ·exact ⟨(hws y hy).1,zj hp _ _ (hws y hy).2⟩
    ·have e : y = (p,z.2):=by simpa using hy
     subst e
     exact ⟨s4.free hp,zf⟩
  ·rintro ys H4 ⟨s4,ws,rfl,hwl,hw2,hws⟩ bl' hbl'
   refine ⟨(by show 2≤sizeLine; decide),fun r' hr'=>?_⟩
   have s5:=zj hbl' (o:=.lst (ws.map fun z=>V.ref z.1))
   have s6:=zj hr' (o:=.tup [.int b,.ref bl'])
   refine kk r' bl' ws _ (s4.trans (s5.trans s6)) ⟨zf,s6 _ _ zf,fun z hz=>s6 _ _ (s5 _ _ (hws z hz).2)⟩ ?_ (s4.free hbl') (s4.free (s5.free hr')) fun z hz=>⟨(hws z hz).1,zy (hws z hz).2 hbl'⟩
   rw [hw2,List.length_map,List.take_length]
def jM : Sp:=fun vs H Q _=>∃ (bl fa : Addr) (zs : List (Addr × List Int)) (fs : List Int),vs = [.ref bl,.ref fa]∧H bl = some (.lst (zs.map fun z=>V.ref z.1))∧(∀ z ∈ zs,H z.1 = some (.lst (z.2.map V.int)))∧H fa = some (.lst (fs.map V.int))∧zs.length≤100∧fs.length≤1000∧∀ H',Same H H'->Q (.bl (lacks (zs.map (·.2)) fs)) H'
theorem zcT {ls : List (List Int)} {fs st : List Int} {k : Nat} (h : st ∈ ls) (hk : k < fs.length) (e : (fs.drop k).take st.length = st) : lacks ls fs = false:=by
 unfold lacks
 have : (ls.any fun st=>Zf st fs) = true:=by
  rw [List.any_eq_true]
  refine ⟨st,h,?_⟩
  unfold Zf
  rw [List.any_eq_true]
  exact ⟨k,List.mem_range.mpr hk,decide_eq_true e⟩
 rw [this]; rfl
theorem zbR {ls : List (List Int)} {fs : List Int} (h : ∀ k,k < fs.length->∀ st ∈ ls,(fs.drop k).take st.length ≠ st) : lacks ls fs = true:=by
 unfold lacks
 have : (ls.any fun st=>Zf st fs) = false:=by
  rw [List.any_eq_false]
  intro st hst
  unfold Zf
  intro q
  rw [List.any_eq_true] at q
  obtain ⟨k,hk,e⟩:=q
  exact h k (List.mem_range.mp hk) st hst (of_decide_eq_true e)
 rw [this]; rfl
theorem jK : zE ["bad","figures","at","one"] ["bad","figures"] (zu qz):=⟨rfl,rfl,rfl,by decide +kernel,rfl,by decide +kernel,by decide +kernel⟩
theorem YS {f : Addr} {fd : FuncData} (D : Df K mg "_law_lacks" qz ["bad","figures"] f fd) (T : Blt mg) : FnOk P w K mg base CX0 1 f fd ["bad","figures"] jM:=by
 refine D.fn.ok jK (fun vs H Q E h=>?_) (fun cdv A outer s H vs Q E hr h=>?_)
 ·obtain ⟨bl,fa,zs,fs,rfl,_⟩:=h; rfl
 ·obtain ⟨bl,fa,zs,fs,rfl,hb,hz,hf,hl1,hl2,kk⟩:=h
  have HU:=Vj hr
  refine ⟨_,(zm (xM PassesOwn.never rfl (zY rfl T.n_range (zc (zB (vV K) (by rfl) T.n_len PySem.boot_len (zc (pv 1) zg)) zg)) (zR (i:=2) jK.nd rfl (Or.inl rfl))
    (zx (xM PassesOwn.never rfl (Z6 K (pv 0)) (zR (i:=3) jK.nd rfl (Or.inl rfl))
     (zx (xQ (yd (Qz K HU) (xT (Zd K) (pv 1) (wg (pv 2)) (wg (zM yu (pv 2) (zB (vV K) (by rfl) T.n_len PySem.boot_len (zc (pv 3) zg))))) (pv 3) (ye _))
      (zx (zL X8))
      yj)))))
   (zx (zL X8))),?_⟩
  refine ⟨_,rfl,fa,_,rfl,.inl (SqL.of hf),(((fs.map V.int).length : Nat) : Int),rfl,by rw [List.length_map]; omega,by rw [List.length_map]; omega,yD (lo:=0) (n:=(((fs.map V.int).length : Nat) : Int).toNat) (fun i σ H2=>∃ v1 v2 : Option V,σ = [some (.ref bl),some (.ref fa),v1,v2]∧Same H H2∧∀ k,k < i->∀ z ∈ zs,(fs.drop k).take z.2.length ≠ z.2) ⟨none,none,rfl,Same.refl _,fun k hk=>by omega⟩ ?_ ?_⟩
  ·rintro i σ H2 hi ⟨v1,v2,rfl,s2,hno⟩
   have hi' : i < fs.length:=by rw [List.length_map] at hi; omega
   refine ⟨_,rfl,bl,rfl,⟨_,SqL.of (s2 _ _ hb)⟩,X3 (K:=K) (a:=bl) (xs:=zs.map fun z=>V.ref z.1) (fun j σ H3=>∃ v2 : Option V,σ = [some (.ref bl),some (.ref fa),some (.int (0 + (i : Int))),v2]∧Same H H3∧∀ z ∈ zs.take j,(fs.drop i).take z.2.length ≠ z.2) ⟨_,rfl,s2,by simp⟩ (fun j σ H3 _ ⟨_,_,e,_⟩=>SqL.of (e _ _ hb)) ?_ ?_⟩
   ·rintro j x σ H3 hx ⟨v2,rfl,s3,hno2⟩
    rw [List.getElem?_map] at hx
    obtain ⟨z,hzj,e⟩:=Option.map_eq_some_iff.mp hx
    subst e
    have hzm:=List.mem_of_getElem? hzj
    refine ⟨_,rfl,_,rfl,_,rfl,_,rfl,_,rfl,z.1,_,rfl,.inl (SqL.of (s3 _ _ (hz z hzm))),_,_,rfl,rfl,_,rfl,fa,_,rfl,SqL.of (s3 _ _ hf),fun p hp=>?_⟩
    have e1 : jn (fs.map V.int) (some (0 + (i : Int))) (some (0 + (i : Int) + (((z.2.map V.int).length : Nat) : Int))) = ((fs.drop i).take z.2.length).map V.int:=by
     have e : (0 + (i : Int) + (((z.2.map V.int).length : Nat) : Int)) = ((i + z.2.length : Nat) : Int):=by rw [List.length_map]; omega
     rw [e,Int.zero_add,JH,List.map_take,List.map_drop,Nat.add_sub_cancel_left]
    rw [e1]
    refine ⟨_,rfl,yt ((fs.drop i).take z.2.length),yt z.2,TrAt.ints (a:=p) (SqL.of zf),TrAt.ints (a:=z.1) (SqL.of (zj hp _ _ (s3 _ _ (hz z hzm)))),(by rw [vP]; decide),_,rfl,?_⟩
    have s4:=s3.trans (zj hp (o:=.lst (((fs.drop i).take z.2.length).map V.int)))
    show if teq (yt ((fs.drop i).take z.2.length)) (yt z.2) = true then _ else _
    rw [ue]
    by_cases hq : (fs.drop i).take z.2.length = z.2
    ·rw [decide_eq_true hq]
     refine wF ?_
     have q:=kk _ s4
     rw [zcT (List.mem_map.mpr ⟨z,hzm,rfl⟩) hi' hq] at q
     exact q
    ·rw [decide_eq_false hq]
     refine xW ?_
     refine ⟨_,rfl,s4,fun y hy=>?_⟩
     rw [List.take_succ,hzj] at hy
     rcases List.mem_append.mp hy with hy | hy
     ·exact hno2 y hy
     ·have e : y = z:=by simpa using hy
      rw [e]; exact hq
   ·rintro σ H3 ⟨v2,rfl,s3,hno2⟩
    rw [List.length_map,List.take_length] at hno2
    refine ⟨_,_,rfl,s3,fun k hk=>?_⟩
    by_cases hki : k < i
    ·exact hno k hki
    ·have : k = i:=by omega
     subst this
     exact hno2
  ·rintro σ H2 ⟨v1,v2,rfl,s2,hno⟩
   have q:=kk _ s2
   rw [zbR (ls:=zs.map (·.2)) (fun k hk st hst=>by
    obtain ⟨z,hz,rfl⟩:=List.mem_map.mp hst
    exact hno k (by rw [List.length_map]; omega) z hz)] at q
   exact q
def Qp (b : Nat) (ls : List (List Int)) : Tr:=.tup [.int b,.lst (ls.map yt)]
theorem zbW (b : Nat) (ls : List (List Int)) : uX (Qp b ls)≤8:=by
 unfold Qp
 rw [uX,xX,xX,xX,uX,uX]
 ·have:=xu ls; omega
 all_goals (intros; rename_i z; cases z)
theorem TrAt.rule {H : Hp} {r bl : Addr} {b : Nat} {zs : List (Addr × List Int)} (R : RuleAt H r b bl zs) : TrAt K H (Qp b (zs.map (·.2))) (.ref r):=by
 unfold Qp
 rw [TrAt]
 refine ⟨r,_,rfl,SqT.of R.tu,?_⟩
 rw [TrsAt]
 refine ⟨_,_,rfl,by rw [TrAt],?_⟩
 rw [TrsAt]
 refine ⟨_,_,rfl,?_,by rw [TrsAt]⟩
 rw [TrAt]
 exact ⟨bl,_,rfl,SqL.of R.li,TrsAt.lists R.st⟩
end
section
variable {P : Program} {w : World} {K : PySem.W.Frag} {mg : Str->Option Value} {base : Heap}
def jV : Sp:=fun vs H Q _=>∃ i j : Int,vs = [.int i,.int j]∧Q (.bl (decide (i = j))) H
theorem U4 : zE ["thing","due"] ["thing","due"] (zu qx):=⟨rfl,rfl,rfl,by decide +kernel,rfl,by decide +kernel,by decide +kernel⟩
theorem Y0 {f : Addr} {fd : FuncData} (D : Df K mg "_law_whole" qx ["thing","due"] f fd) (T : Blt mg) : FnOk P w K mg base CX0 1 f fd ["thing","due"] jV:=by
 refine D.fn.ok U4 (fun vs H Q E h=>?_) (fun cdv A outer s H vs Q E hr h=>?_)
 ·obtain ⟨i,j,rfl,_⟩:=h; rfl
 ·obtain ⟨i,j,rfl,kk⟩:=h
  refine ⟨_,(zx (zL (jf (zB (JR K) (by rfl) T.n_isinstance boot_isinstance (zc (pv 0) (zc (Zv (v:=.ty "int") rfl T.n_int boot_int rfl) zg))) (jf (zaI (zB (JR K) (by rfl) T.n_isinstance boot_isinstance (zc (pv 0) (zc (Zv (v:=.ty "bool") rfl T.n_bool boot_bool rfl) zg)))) (jQ (uI YQ (pv 0) (pv 1) (ye _))))))),?_⟩
  refine ⟨_,rfl,_,_,_,_,rfl,.int _,Vc,_,rfl,wF ⟨_,rfl,_,_,_,_,rfl,.int _,XF,_,rfl,_,rfl,wF ⟨_,rfl,_,rfl,rfl,?_⟩⟩⟩
  rw [show decide (V.int i = V.int j) = decide (i = j) from decide_eq_decide.mpr ⟨fun z=>by injection z,fun z=>by rw [z]⟩]
  exact kk
end
theorem zb0 {b m : Nat} (h2 : 2≤b) (h : b ^ (min m 9)≤300) : m≤8∧b ^ m≤300:=by
 have h3 : 2 ^ (min m 9)≤b ^ (min m 9):=Nat.pow_le_pow_left h2 _
 by_cases z : m≤8
 ·rw [show min m 9 = m by omega] at h
  exact ⟨z,h⟩
 ·rw [show min m 9 = 9 by omega] at h h3
  omega
section
variable {P : Program} {w : World} {K : PySem.W.Frag} {mg : Str->Option Value} {base : Heap}
def wU : Sp:=fun vs H Q _=>∃ (r : Addr) (b : Nat) (bl : Addr) (zs : List (Addr × List Int)) (m : Nat),vs = [.ref r,.int m]∧RuleAt H r b bl zs∧zW b (zs.map (·.2))∧1≤m∧m≤8∧b ^ m≤300∧∀ q H',Same H H'->H' q = some (.tup [.int ((QB (zs.map (·.2)) b m : Nat) : Int),.int ((Qk (zs.map (·.2)) b m : Nat) : Int)])->Q (.ref q) H'
theorem zX : zE ["rule","m","base","bad","last","turn","first","some"] ["rule","m"] (zu yI):=⟨rfl,rfl,rfl,by decide +kernel,rfl,by decide +kernel,by decide +kernel⟩
set_option maxHeartbeats 0 in
theorem Yx {f f1 f2 : Addr} {fd fd1 fd2 : FuncData} (D : Df K mg "_law_gone_through" yI ["rule","m"] f fd) (qd : Df K mg "_law_lacks" qz ["bad","figures"] f1 fd1) (vH : Df K mg "_law_figures" ul ["base","n"] f2 fd2) (T : Blt mg) (U : zbB mg) : FnOk P w K mg base CX0 2 f fd ["rule","m"] wU:=by
 have Vb : FnOk P w K mg base CX0 1 f1 fd1 ["bad","figures"] jM:=YS qd T
 have Y7 : FnOk P w K mg base CX0 1 f2 fd2 ["base","n"] qp:=Z1 vH T
 refine D.fn.ok zX (fun vs H Q E h=>?_) (fun cdv A outer s H vs Q E hr h=>?_)
 ·obtain ⟨r,b,bl,zs,m,rfl,_⟩:=h; rfl
 ·obtain ⟨r,b,bl,zs,m,rfl,R,g,hm1,hm,hbm,kk⟩:=h
  have b2:=g.b2
  have b16:=g.b16
  have hz4 : zs.length≤4:=by have:=g.len; rwa [List.length_map] at this
  have ne : ∀ st ∈ zs.map (·.2),st ≠ []:=fun st h=>(g.st st h).ne
  refine ⟨_,(zm (WK (pv 0) (W0 rfl (yz (zR (i:=2) zX.nd rfl (Or.inr rfl)) (yz (zR (i:=3) zX.nd rfl (Or.inr rfl)) qH))))
   (zm (zF (i:=4) zX.nd rfl (Or.inl rfl) (pv 2))
   (zm (xM PassesOwn.never rfl (zY rfl T.n_range (zc (zM qU (pv 1) zp) zg)) (zR (i:=5) zX.nd rfl (Or.inl rfl))
    (zx (zF (i:=4) zX.nd rfl (Or.inl rfl) (zM uB (pv 4) (pv 2)))))
   (zm (zF (i:=6) zX.nd rfl (Or.inl rfl) (zQ (yS K) (zU (zc zp (zc (zM Yl (pv 4) (pv 2)) zg))) (tG Wq (by rfl) T.n_int boot_int (zc (uI zae (pv 1) zp (ye _)) zg)) (fun _ _=>rfl)))
   (zm (vU (i:=7) (show CScope (zu yI) _ "n" ["rule","m","base","bad","last","turn","first","some"] ["bad","base"] [3,2] from ⟨rfl,by decide +kernel,by decide +kernel,rfl,by decide +kernel,rfl,by decide +kernel,by decide +kernel⟩) rfl zX.nd rfl (Or.inl rfl) (WM rfl T.n_range (zc (pv 6) (zc (pv 4) zg))) (fun _ _ _ _=>(Vw (uZ (zO qd Vb (hr.mono (by decide)) (zc (pv 1) (zc (zO vH Y7 (hr.mono (by decide)) (zc (pv 2) (zc (pv 0) zg))) zg)))))) (fun _ _ _ _=>(pv 0)))
   (zx (zL (vM (zc (zB (vV K) (by rfl) T.n_len PySem.boot_len (zc (pv 7) zg)) (zc (zB (JL K rfl) (by rfl) U.n_sum boot_sum (zc (pv 7) zg)) zg)))))))))),?_⟩
  refine ⟨_,rfl,r,_,rfl,SqT.of R.tu,rfl,_,_,rfl,_,_,rfl,rfl,_,rfl,_,rfl,_,_,rfl,rfl,_,rfl,by omega,by omega,?_⟩
  rw [show ((m : Int) - 1).toNat = m - 1 by omega]
  refine yD (lo:=0) (n:=m - 1) (fun i σ Hc=>∃ v5 : Option V,σ = [some (.ref r),some (.int m),some (.int b),some (.ref bl),some (.int ((b ^ (i + 1) : Nat) : Int)),v5,none,none]∧Hc = H) ⟨_,by rw [Nat.pow_one]; rfl,rfl⟩ ?_ ?_
  ·rintro i σ Hc hi ⟨v5,rfl,rfl⟩
   refine ⟨_,rfl,_,rfl,_,_,rfl,rfl,.inr ⟨by omega,by omega⟩,some (.int (0 + (i : Int))),?_,rfl⟩
   dsimp only
   rw [show ((b ^ (i + 1) : Nat) : Int) * (b : Int) = ((b ^ (i + 1 + 1) : Nat) : Int) by rw [Nat.pow_succ b (i + 1),Int.natCast_mul]]
   rfl
  rintro σ Hc ⟨v5,rfl,rfl⟩
  rw [show m - 1 + 1 = m by omega]
  have hdiv : ((b ^ m : Nat) : Int) / (b : Int) = ((b ^ (m - 1) : Nat) : Int):=by
   rw [← Int.natCast_ediv,show m = m - 1 + 1 by omega,Nat.pow_succ,Nat.mul_div_cancel _ (by omega),Nat.add_sub_cancel]
  refine ⟨_,rfl,_,rfl,_,_,rfl,rfl,⟨by omega,by omega⟩,(by show 2≤sizeLine; decide),fun q0 hq0=>?_⟩
  have m0:=zj hq0 (o:=.lst [.int 0,.int (((b ^ m : Nat) : Int) / (b : Int))])
  have hlow : atI [V.int 0,V.int (((b ^ m : Nat) : Int) / (b : Int))] (if decide ((1 : Int) < (m : Int)) = true then 1 else 0) = some (.int ((wG b m : Nat) : Int)):=by
   unfold wG
   by_cases z : m = 1
   ·subst z; rfl
   ·rw [decide_eq_true (show (1 : Int) < (m : Int) by omega),if_pos rfl,if_neg z,hdiv]; rfl
  have hle:=zdE (m:=m) b2
  refine ⟨_,rfl,_,_,rfl,rfl,.inr ⟨_,rfl,q0,_,_,.int ((wG b m : Nat) : Int),rfl,rfl,SqL.of zf,hlow,?_⟩⟩
  have R0:=R.same m0
  generalize upd Hc q0 (.lst [.int 0,.int (((b ^ m : Nat) : Int) / (b : Int))]) = H1 at m0 R0
  refine ⟨_,rfl,_,rfl,_,_,rfl,⟨by omega,by omega,by omega,by omega⟩,?_⟩
  rw [show (((b ^ m : Nat) : Int) - ((wG b m : Nat) : Int)).toNat = b ^ m - wG b m by omega]
  refine xJ (lo:=((wG b m : Nat) : Int)) (n:=b ^ m - wG b m) (fun i ys Hd=>∃ l : List Nat,ys = l.map (fun k : Nat=>V.int (k : Int))∧l.length + many (gd (zs.map (·.2)) b) (wG b m) = many (gd (zs.map (·.2)) b) (wG b m + i)∧l.sum + tot (gd (zs.map (·.2)) b) (fun n=>n) (wG b m) = tot (gd (zs.map (·.2)) b) (fun n=>n) (wG b m + i)∧l.length≤i∧Same H1 Hd) ⟨[],rfl,by simp,by simp,Nat.le_refl _,Same.refl _⟩ ?_ ?_
  ·rintro i ys Hd hi ⟨l,rfl,e1,e2,e3,sd⟩
   refine ⟨by rw [List.length_map]; exact Nat.lt_of_le_of_lt (show l.length≤1000 by omega) (by decide),?_⟩
   have hn : wG b m + i≤300:=by omega
   refine ⟨_,rfl,_,rfl,_,rfl,b,wG b m + i,by rw [Int.natCast_add]; rfl,b2,b16,Nat.lt_of_le_of_lt (show wG b m + i≤2 ^ 9 by omega) (Nat.pow_lt_pow_right (by decide) (by decide)),fun fa He hfa hfv se=>?_⟩
   have hfl:=Vy b2 9 (wG b m + i) (by omega)
   have R2:=(R0.same sd).same se
   refine ⟨bl,fa,zs,xN b (wG b m + i),rfl,R2.li,R2.st,hfv,by omega,by omega,fun Hf sf=>⟨_,rfl,?_⟩⟩
   have hg : lacks (zs.map (·.2)) (xN b (wG b m + i)) = gd (zs.map (·.2)) b (wG b m + i):=rfl
   rw [hg]
   have s3:=(sd.trans se).trans sf
   cases hgd : gd (zs.map (·.2)) b (wG b m + i) with
   | true =>
    refine wF ⟨_,rfl,l ++ [wG b m + i],by rw [List.map_append,← Int.natCast_add]; rfl,?_,?_,by rw [List.length_append]; exact Nat.succ_le_succ e3,s3⟩
    ·rw [List.length_append,← Nat.add_assoc,many,if_pos hgd,← e1]; simp; omega
    ·rw [List.sum_append,← Nat.add_assoc,tot,if_pos hgd,← e2]; simp; omega
   | false =>
    refine xW ⟨l,rfl,?_,?_,by omega,s3⟩
    ·rw [← Nat.add_assoc,many,if_neg (by rw [hgd]; exact Bool.false_ne_true),← e1]; simp
    ·rw [← Nat.add_assoc,tot,if_neg (by rw [hgd]; exact Bool.false_ne_true),← e2]; simp
  rintro ys Hd ⟨l,rfl,e1,e2,e3,sd⟩ so hso
  have ms:=zj hso (o:=.lst (l.map fun k : Nat=>V.int (k : Int)))
  rw [show wG b m + (b ^ m - wG b m) = b ^ m by omega] at e1 e2
  have hcC : l.length = QB (zs.map (·.2)) b m:=by
   have:=J9 ne b2 hm1
   unfold QB
   rw [ze1] at this
   omega
  have hcT : l.sum = Qk (zs.map (·.2)) b m:=by
   have:=JW ne b2 hm1
   unfold Qk
   omega
  refine ⟨_,rfl,so,_,rfl,.inl (SqL.of zf),_,rfl,so,(l.map fun k : Nat=>(k : Int)),rfl,by rw [List.map_map]; exact SqL.of zf,(by show 2≤sizeLine; decide),fun q hq=>kk q _ ((m0.trans sd).trans (ms.trans (zj hq))) ?_⟩
  rw [zf,List.length_map,hcC,show (l.map fun k : Nat=>(k : Int)).sum = ((l.sum : Nat) : Int) by rw [Ze (fun k : Nat=>k) l,List.map_id'],hcT]
end
section
variable {P : Program} {w : World} {K : PySem.W.Frag} {mg : Str->Option Value} {base : Heap} {T0 : Addr}
def jX (T0 : Addr) : Sp:=fun vs H Q _=>∃ (r : Addr) (b : Nat) (bl : Addr) (zs : List (Addr × List Int)) (m : Nat),vs = [.ref r,.int m]∧RuleAt H r b bl zs∧zW b (zs.map (·.2))∧1≤m∧m≤60∧LT T0 H∧∀ H',SameL T0 H H'->LT T0 H'->Q (.bl true) H'
theorem yL : zE ["rule","m","handed","many","total","whole","turn"] ["rule","m"] (zu qC):=⟨rfl,rfl,rfl,by decide +kernel,rfl,by decide +kernel,by decide +kernel⟩
set_option maxHeartbeats 0 in
theorem UJ {f f1 f2 f3 f4 f5 f6 : Addr} {fd fd1 fd2 fd3 fd4 fd5 fd6 : FuncData} (D : Df K mg "_law_right" qC ["rule","m"] f fd) (vm : Df K mg "_law_own" tK ["rule"] f1 fd1) (ZR : Df K mg "_law_long" jz ["rule","m"] f2 fd2) (Xr : FnOk P w K mg base CX0 4 f2 fd2 ["rule","m"] ZQ) (wy : Df K mg "_law_gone_through" yI ["rule","m"] f3 fd3) (vR : FnOk P w K mg base CX0 2 f3 fd3 ["rule","m"] wU)
  (uc : Df K mg "_law_whole" qx ["thing","due"] f4 fd4) (xZ : Df K mg "count_long" uG ["rule","m"] f5 fd5) (wQ : FnOk P w K mg base CX0 9 f5 fd5 ["rule","m"] (tR T0)) (tH : Df K mg "sum_long" qZ ["rule","m"] f6 fd6) (qJ : FnOk P w K mg base CX0 12 f6 fd6 ["rule","m"] (jB T0)) (T : Blt mg) : FnOk P w K mg base CX0 13 f fd ["rule","m"] (jX T0):=by
 have YD : FnOk P w K mg base CX0 1 f1 fd1 ["rule"] jA:=Z9 vm T
 have Yc : FnOk P w K mg base CX0 1 f4 fd4 ["thing","due"] jV:=Y0 uc T
 refine D.fn.ok yL (fun vs H Q E h=>?_) (fun cdv A outer s H vs Q E hr h=>?_)
 ·obtain ⟨r,b,bl,zs,m,rfl,_⟩:=h; rfl
 ·obtain ⟨r,b,bl,zs,m,rfl,R,g,hm1,hm,lt,kk⟩:=h
  have HU:=Vj hr
  have b2:=g.b2
  have b16:=g.b16
  have hz4 : zs.length≤4:=by have:=g.len; rwa [List.length_map] at this
  have ne : ∀ st ∈ zs.map (·.2),st ≠ []:=fun st h=>(g.st st h).ne
  refine ⟨_,(zm (zF (i:=2) yL.nd rfl (Or.inl rfl) (zO vm YD (hr.mono (by decide)) (zc (pv 0) zg)))
   (zm (WK (zO ZR Xr (hr.mono (by decide)) (zc (pv 0) (zc (pv 1) zg))) (W0 rfl (yz (zR (i:=3) yL.nd rfl (Or.inl rfl)) (yz (zR (i:=4) yL.nd rfl (Or.inl rfl)) qH))))
   (zm (zF (i:=5) yL.nd rfl (Or.inl rfl) zp)
   (zm (xM PassesOwn.never rfl (zY rfl T.n_range (zc (zB (Wo rfl) (by rfl) T.n_min boot_min (zc (pv 1) (zc zp zg))) zg)) (zR (i:=6) yL.nd rfl (Or.inl rfl))
    (zx (zF (i:=5) yL.nd rfl (Or.inl rfl) (zM uB (pv 5) (zQ (wH K) (pv 0) zp (fun _ _=>rfl))))))
   (zm (zcA (xQ (PW.pt (Q9 (yd YZ (pv 5) zp (ye _)) (Vu (yd (za2 K HU) (zO wy vR (hr.mono (by decide)) (zc (pv 0) (zc (pv 1) zg))) (vM (zc (pv 3) (zc (pv 4) zg))) (ye _)))))
    (zx (zL X8))
    yj))
   (zm (xM PassesOwn.never rfl (zY rfl T.n_range (zc zp zg)) (zR (i:=6) yL.nd rfl (Or.inl rfl))
    (zm (xQ (jW (uZ (zO uc Yc (hr.mono (by decide)) (zc (zO xZ wQ (hr.mono (by decide)) (zc (pv 2) (zc (pv 1) zg))) (zc (pv 3) zg)))))
     (zx (zL X8))
     yj)
    (zx (xQ (jW (uZ (zO uc Yc (hr.mono (by decide)) (zc (zO tH qJ (hr.mono (by decide)) (zc (pv 2) (zc (pv 1) zg))) (zc (pv 4) zg)))))
     (zx (zL X8))
     yj))))
   (zx (zL (uI (Qz K HU) (pv 2) (pv 0) (ye _)))))))))),?_⟩
  refine ⟨_,rfl,r,b,bl,zs,rfl,R,by omega,fun r' bl' zs' H1 s1 R1 e1 _ _ _=>?_⟩
  have g' : zW b (zs'.map (·.2)):=by rw [e1]; exact g
  refine ⟨_,rfl,_,rfl,r,b,bl,zs,m,rfl,R.same s1,g,hm1,hm,fun q H2 s2 hq=>⟨q,_,rfl,SqT.of hq,rfl,_,_,rfl,_,_,rfl,rfl,?_⟩⟩
  have s12:=s1.trans s2
  have R2:=R.same s12
  have R2':=R1.same s2
  have lt2:=lt.same s12
  obtain ⟨c,hc⟩ : ∃ c,c = QB (zs.map (·.2)) b m:=⟨_,rfl⟩
  obtain ⟨t,ht⟩ : ∃ t,t = Qk (zs.map (·.2)) b m:=⟨_,rfl⟩
  have hcc : c + low (zs.map (·.2)) b m = many (gd (zs.map (·.2)) b) (b ^ m):=by rw [hc]; exact J9 ne b2 hm1
  have htt : t + tot (gd (zs.map (·.2)) b) (fun n=>n) (wG b m) = tot (gd (zs.map (·.2)) b) (fun n=>n) (b ^ m):=by rw [ht]; exact JW ne b2 hm1
  rw [← hc,← ht]
  refine ⟨_,rfl,_,_,rfl,_,rfl,by omega,by omega,?_⟩
  have hmin : (if (9 : Int) < (m : Int) then 9 else (m : Int)).toNat = min m 9:=by split <;> omega
  rw [hmin]
  refine yD (lo:=0) (n:=min m 9) (fun i σ Hc=>∃ v6 : Option V,σ = [some (.ref r),some (.int m),some (.ref r'),some (.int (c : Int)),some (.int (t : Int)),some (.int ((b ^ i : Nat) : Int)),v6]∧Hc = H2) ⟨_,rfl,rfl⟩ ?_ ?_
  ·rintro i σ Hc hi ⟨v6,rfl,rfl⟩
   refine ⟨_,rfl,_,rfl,r,_,_,.int b,rfl,rfl,SqT.of R2.tu,rfl,_,_,rfl,rfl,.inr ⟨by omega,by omega⟩,some (.int (0 + (i : Int))),?_,rfl⟩
   dsimp only
   rw [show ((b ^ i : Nat) : Int) * (b : Int) = ((b ^ (i + 1) : Nat) : Int) by rw [Nat.pow_succ,Int.natCast_mul]]
   rfl
  rintro σ Hc ⟨v6,rfl,rfl⟩
  refine ⟨fun σ H3=>σ = [some (.ref r),some (.int m),some (.ref r'),some (.int (c : Int)),some (.int (t : Int)),some (.int ((b ^ (min m 9) : Nat) : Int)),v6]∧Same Hc H3,?_,?_⟩
  ·refine ⟨_,rfl,_,_,rfl,rfl,_,rfl,?_⟩
   by_cases hs : b ^ (min m 9)≤300
   ·rw [decide_eq_true (show ((b ^ (min m 9) : Nat) : Int)≤300 by omega)]
    obtain ⟨hm8,hb8⟩:=zb0 b2 hs
    refine wF ⟨_,rfl,_,rfl,r,b,bl,zs,m,rfl,R2,g,hm1,hm8,hb8,fun q2 H4 s4 hq2=>?_⟩
    rw [← hc,← ht] at hq2
    refine ⟨_,rfl,_,rfl,(by show 2≤sizeLine; decide),fun q3 hq3=>?_⟩
    have m3:=zj hq3 (o:=.tup [.int (c : Int),.int (t : Int)])
    refine ⟨Z2 [(c : Int),(t : Int)],Z2 [(c : Int),(t : Int)],TrAt.tupI (a:=q2) (m3 _ _ hq2),TrAt.tupI (a:=q3) zf,(by rw [Qu]; decide),_,rfl,?_⟩
    rw [if_pos rfl,zcI,decide_eq_true rfl]
    exact xW ⟨rfl,s4.trans m3⟩
   ·rw [decide_eq_false (show ¬ ((b ^ (min m 9) : Nat) : Int)≤300 by omega)]
    exact xW (xW ⟨rfl,Same.refl _⟩)
  rintro σ H3 ⟨rfl,s3⟩
  refine ⟨2,rfl,by decide,by decide,yD (lo:=0) (n:=2) (fun i σ H4=>∃ v6 : Option V,σ = [some (.ref r),some (.int m),some (.ref r'),some (.int (c : Int)),some (.int (t : Int)),some (.int ((b ^ (min m 9) : Nat) : Int)),v6]∧RuleAt H4 r b bl zs∧RuleAt H4 r' b bl' zs'∧LT T0 H4∧SameL T0 H H4) ⟨_,rfl,R2.same s3,R2'.same s3,lt2.same s3,SameL.of (s12.trans s3)⟩ ?_ ?_⟩
  ·rintro i σ H4 hi ⟨v6,rfl,R4,R4',lt4,s4⟩
   refine ⟨_,rfl,_,rfl,r',b,bl',zs',m,rfl,R4',g',⟨hm1,hm⟩,lt4,fun v H5 hv s5 lt5=>?_⟩
   rw [e1] at hv
   subst hv
   refine ⟨_,rfl,_,_,rfl,_,rfl,?_⟩
   rw [decide_eq_true (show ((many (gd (zs.map (·.2)) b) (b ^ m) : Nat) : Int) - ((low (zs.map (·.2)) b m : Nat) : Int) = (c : Int) by omega)]
   refine xW ?_
   refine ⟨_,rfl,_,rfl,r',b,bl',zs',m,rfl,R4'.sameL lt4 s5,g',⟨hm1,hm⟩,lt5,fun v H6 hv s6 lt6=>?_⟩
   rw [e1] at hv
   subst hv
   refine ⟨_,rfl,_,_,rfl,_,rfl,?_⟩
   rw [decide_eq_true (show ((tot (gd (zs.map (·.2)) b) (fun n=>n) (b ^ m) : Nat) : Int) - ((tot (gd (zs.map (·.2)) b) (fun n=>n) (wG b m) : Nat) : Int) = (t : Int) by omega)]
   exact xW ⟨_,rfl,(R4.sameL lt4 s5).sameL lt5 s6,(R4'.sameL lt4 s5).sameL lt5 s6,lt6,(s4.trans s5).trans s6⟩
  ·rintro σ H4 ⟨v6,rfl,R4,R4',lt4,s4⟩
   refine ⟨_,rfl,_,rfl,Qp b (zs'.map (·.2)),Qp b (zs.map (·.2)),TrAt.rule R4',TrAt.rule R4,zbW _ _,?_⟩
   rw [if_neg Bool.false_ne_true,e1,VJ]
   exact kk H4 s4 lt4
end
theorem zeo : zW 10 [[1,3]]:=⟨by decide,by decide,by decide,fun l hl=>by rw [List.mem_singleton.mp hl]; exact ⟨by simp,by decide,by decide⟩,by decide⟩
theorem zez : zW 2 []:=⟨by decide,by decide,by decide,(fun l hl=>by cases hl),by decide⟩
theorem v89 : ((many (gd [[1,3]] 10) (10 ^ 2) : Nat) : Int) - ((low [[1,3]] 10 2 : Nat) : Int) = 89:=by
 have ne : ∀ l ∈ ([[1,3]] : List (List Int)),l ≠ []:=by decide
 unfold low
 rw [if_neg (by decide),← w6 ne (by decide),← w6 ne (by decide)]
 decide +kernel
theorem v1 : ((tot (gd [] 2) (fun n=>n) (2 ^ 1) : Nat) : Int) - ((tot (gd [] 2) (fun n=>n) (wG 2 1) : Nat) : Int) = 1:=by
 have ne : ∀ l ∈ ([] : List (List Int)),l ≠ []:=by decide
 rw [← Wb ne (by decide),show wG 2 1 = 0 from rfl]
 decide +kernel
section
variable {P : Program} {w : World} {K : PySem.W.Frag} {mg : Str->Option Value} {base : Heap} {T0 : Addr}
def QL (K : PySem.W.Frag) (T : Addr) : Sp:=fun vs H Q _=>∃ (a : Addr) (ns : List Int),vs = [.ref a]∧SqL K H a (ns.map V.int)∧ns.length≤63∧LT T H∧∀ H',Q (.bl true) H'
theorem Y8 : zE ["script","deck","k","rule","m","handed"] ["script"] (zu Ur):=⟨rfl,rfl,rfl,by decide +kernel,rfl,by decide +kernel,by decide +kernel⟩
set_option maxHeartbeats 0 in
theorem zem {f f1 f2 f3 f4 f5 f6 f7 f8 f9 : Addr} {fd fd1 fd2 fd3 fd4 fd5 fd6 fd7 fd8 fd9 : FuncData} (D : Df K mg "law" Ur ["script"] f fd) (jk : Df K mg "_law_deck" jJ ["script"] f1 fd1) (wA : Df K mg "_law_some_rule" xR ["deck"] f2 fd2) (xU : Df K mg "_law_tight_rule" yH ["deck"] f3 fd3) (xK : Df K mg "_law_lengths" ut ["deck"] f4 fd4)
  (qg : Df K mg "_law_right" qC ["rule","m"] f5 fd5) (jy : FnOk P w K mg base CX0 13 f5 fd5 ["rule","m"] (jX T0)) (vm : Df K mg "_law_own" tK ["rule"] f6 fd6) (xZ : Df K mg "count_long" uG ["rule","m"] f7 fd7) (wQ : FnOk P w K mg base CX0 9 f7 fd7 ["rule","m"] (tR T0)) (tH : Df K mg "sum_long" qZ ["rule","m"] f9 fd9) (qJ : FnOk P w K mg base CX0 12 f9 fd9 ["rule","m"] (jB T0)) (zA : Df K mg "_law_draw" wY ["deck","many"] f8 fd8) (T : Blt mg) : FnOk P w K mg base CX0 14 f fd ["script"] (QL K T0):=by
 have VV : FnOk P w K mg base CX0 1 f1 fd1 ["script"] (ZD K):=Wc jk T
 have zN : FnOk P w K mg base CX0 1 f8 fd8 ["deck","many"] vh:=um zA T
 have ZX : FnOk P w K mg base CX0 2 f2 fd2 ["deck"] uw:=jG wA zA T
 have j0 : FnOk P w K mg base CX0 2 f3 fd3 ["deck"] vN:=qR xU zA T
 have tM : FnOk P w K mg base CX0 2 f4 fd4 ["deck"] qm:=Z4 xK zA T
 have YD : FnOk P w K mg base CX0 1 f6 fd6 ["rule"] jA:=Z9 vm T
 refine D.fn.ok Y8 (fun vs H Q E h=>?_) (fun cdv A outer s H vs Q E hr h=>?_)
 ·obtain ⟨a,ns,rfl,_⟩:=h; rfl
 ·obtain ⟨a,ns,rfl,hS,hlen,lt,kk⟩:=h
  have HU:=Vj hr
  refine ⟨_,(zm (zF (i:=1) Y8.nd rfl (Or.inl rfl) (zO jk VV (hr.mono (by decide)) (zc (pv 0) zg)))
   (zm (xM PassesOwn.never rfl (zY rfl T.n_range (zc zp zg)) (zR (i:=2) Y8.nd rfl (Or.inl rfl))
    (zm (zF (i:=3) Y8.nd rfl (Or.inl rfl) (zQ (yS K) (zU (zc (zO wA ZX (hr.mono (by decide)) (zc (pv 1) zg)) (zc (zO xU j0 (hr.mono (by decide)) (zc (pv 1) zg)) zg))) (tG Wq (by rfl) T.n_int boot_int (zc (uI YQ (zO zA zN (hr.mono (by decide)) (zc (pv 1) (zc zp zg))) zp (ye _)) zg)) (fun _ _=>rfl)))
    (zm (xM PassesOwn.never rfl (Z6 K (zU (zc (zO xK tM (hr.mono (by decide)) (zc (pv 1) zg)) (zc (zO xK tM (hr.mono (by decide)) (zc (pv 1) zg)) (zc (zM yu zp (zO zA zN (hr.mono (by decide)) (zc (pv 1) (zc zp zg)))) zg))))) (zR (i:=4) Y8.nd rfl (Or.inl rfl))
     (zx (xQ (jW (uZ (zO qg jy (hr.mono (by decide)) (zc (pv 3) (zc (pv 4) zg)))))
      (zx (zL X8))
      yj)))
    (zx (xQ (yd (za2 K HU) (zQ (wH K) (pv 3) zp (fun _ _=>rfl)) (zU zg) (ye _))
     (zm (zF (i:=5) Y8.nd rfl (Or.inl rfl) (zO vm YD (hr.mono (by decide)) (zc (pv 3) zg)))
     (zm (zF (i:=4) Y8.nd rfl (Or.inl rfl) (zO xK tM (hr.mono (by decide)) (zc (pv 1) zg)))
     (zm (xP (zO xZ wQ (hr.mono (by decide)) (zc (pv 5) (zc (pv 4) zg))))
     (zm (xP (Z3 PySem.F.plainAttrs_list PySem.F.slot_list_pop PySem.F.type_list_pop zcB (zQ (wH K) (pv 5) zp (fun _ _=>rfl)) (zc (zO zA zN (hr.mono (by decide)) (zc (pv 1) (zc (zB (vV K) (by rfl) T.n_len PySem.boot_len (zc (zQ (wH K) (pv 3) zp (fun _ _=>rfl)) zg)) zg))) zg)))
     (zx (xQ (jW (uZ (zO qg jy (hr.mono (by decide)) (zc (pv 5) (zc (pv 4) zg)))))
      (zx (zL X8))
      yj))))))
     yj)))))
   (zx (zL (jf (uI YQ (zO xZ wQ (hr.mono (by decide)) (zc (vM (zc zp (zc (zU (zc (zU (zc zp (zc zp zg))) zg)) zg))) (zc zp zg))) zp (ye _)) (jQ (uI YQ (zO tH qJ (hr.mono (by decide)) (zc (vM (zc zp (zc (zU zg) zg))) (zc zp zg))) zp (ye _)))))))),?_⟩
  refine ⟨_,rfl,a,ns,rfl,hS,hlen,fun d fp H0 D0 s0 _=>?_⟩
  refine ⟨10,rfl,by decide,by decide,yD (lo:=0) (n:=10) (fun i σ H2=>∃ v2 v3 v4 v5 : Option V,σ = [some (.ref a),some (.ref d),v2,v3,v4,v5]∧Deck H2 d fp∧LT T0 H2) ⟨none,none,none,none,rfl,D0,lt.same s0⟩ ?_ ?_⟩
  ·rintro i σ H2 hi ⟨v2,v3,v4,v5,rfl,D2,lt2⟩
   refine ⟨_,rfl,d,fp,rfl,D2,fun r1 b1 bl1 zs1 H3 S3 RA3 g1=>?_⟩
   refine ⟨_,rfl,d,fp,rfl,S3.dk,fun r2 b2 bl2 zs2 H4 S4 RA4 g2=>⟨(by show 2≤sizeLine; decide),fun q hq=>?_⟩⟩
   have fq:=S4.dk.fresh hq
   have S5:=(S3.trans S4).new hq (o:=.lst [V.ref r1,V.ref r2])
   have hq5 : upd H4 q (.lst [V.ref r1,V.ref r2]) q = some (.lst [V.ref r1,V.ref r2]):=zf
   have RB:=(RA3.step S4).same ((zj hq (o:=.lst [V.ref r1,V.ref r2])).aw fp)
   have RC:=RA4.same ((zj hq (o:=.lst [V.ref r1,V.ref r2])).aw fp)
   generalize upd H4 q (.lst [V.ref r1,V.ref r2]) = H5 at S5 hq5 RB RC
   refine ⟨_,rfl,d,_,fp,rfl,S5.dk,by decide,by decide,fun x H6 hx S6=>⟨rfl,.inr ⟨_,rfl,?_⟩⟩⟩
   have RB6:=RB.step S6
   have RC6:=RC.step S6
   obtain ⟨r,b,bl,zs,hat,RA6,g⟩ : ∃ (r : Addr) (b : Nat) (bl : Addr) (zs : List (Addr × List Int)),atI [V.ref r1,V.ref r2] (if decide (V.int (x : Int) = V.int 0) = true then 1 else 0) = some (.ref r)∧RuleAt (aw fp H6) r b bl zs∧zW b (zs.map (·.2)):=by
    generalize decide (V.int (x : Int) = V.int 0) = kb
    cases kb with
    | false=>exact ⟨r1,b1,bl1,zs1,rfl,RB6,g1⟩
    | true=>exact ⟨r2,b2,bl2,zs2,rfl,RC6,g2⟩
   refine ⟨q,_,_,_,rfl,rfl,SqL.of (S6.get fq hq5),hat,?_⟩
   have lt6:=(S5.trans S6).lt D2 lt2
   have hz4 : zs.length≤4:=by have:=g.len; rwa [List.length_map] at this
   refine ⟨_,rfl,d,fp,rfl,S6.dk,fun m1 H7 a1 a2 S7=>?_⟩
   refine ⟨_,rfl,d,fp,rfl,S7.dk,fun m2 H8 a3 a4 S8=>?_⟩
   refine ⟨_,rfl,d,_,fp,rfl,S8.dk,by decide,by decide,fun x3 H8' hx3 S8'=>⟨_,_,rfl,rfl,(by show 3≤sizeLine; decide),fun q2 hq2=>?_⟩⟩
   have fq2:=S8'.dk.fresh hq2
   have S9:=((S7.trans S8).trans S8').new hq2 (o:=.lst [V.int (m1 : Int),V.int (m2 : Int),V.int ((1 : Int) + (x3 : Int))])
   have hq9 : upd H8' q2 (.lst [V.int (m1 : Int),V.int (m2 : Int),V.int ((1 : Int) + (x3 : Int))]) q2 = some (.lst [V.int (m1 : Int),V.int (m2 : Int),V.int ((1 : Int) + (x3 : Int))]):=zf
   have RA9:=RA6.step S9
   have lt9:=S9.lt S6.dk lt6
   refine ⟨q2,rfl,⟨_,SqL.of hq9⟩,X3 (K:=K) (a:=q2) (xs:=[V.int (m1 : Int),V.int (m2 : Int),V.int ((1 : Int) + (x3 : Int))]) (fun j σ H10=>∃ v2 v4 v5 : Option V,σ = [some (.ref a),some (.ref d),v2,some (.ref r),v4,v5]∧Deck H10 d fp∧RuleAt (aw fp H10) r b bl zs∧LT T0 H10∧H10 q2 = some (.lst [V.int (m1 : Int),V.int (m2 : Int),V.int ((1 : Int) + (x3 : Int))])) ⟨_,_,_,rfl,S9.dk,RA9,lt9,hq9⟩ (fun j σ H10 _ ⟨_,_,_,_,_,_,_,e⟩=>SqL.of e) ?_ ?_⟩
   ·rintro j y σ H10 hy ⟨v2,v4,v5,rfl,D10,RA10,lt10,hq10⟩
    obtain ⟨m,rfl,hm1,hm2⟩ : ∃ m : Nat,y = .int m∧1≤m∧m≤60:=by
     match j,hy with
     | 0,hy=>exact ⟨m1,(Option.some.inj hy).symm,a1,a2⟩
     | 1,hy=>exact ⟨m2,(Option.some.inj hy).symm,a3,a4⟩
     | 2,hy=>exact ⟨1 + x3,(Option.some.inj hy).symm.trans (by rw [Int.natCast_add]; rfl),by omega,by omega⟩
     | j + 3,hy=>simp at hy
    refine ⟨_,rfl,_,rfl,r,b,bl,zs,m,rfl,RA10.all,g,hm1,hm2,lt10,fun H11 s11 lt11=>⟨_,rfl,xW ?_⟩⟩
    exact ⟨_,_,_,rfl,D10.sameL lt10 s11,RA10.awL lt10 s11,lt11,s11 _ _ (lt10.lst hq10) hq10⟩
   ·rintro σ H10 ⟨v2,v4,v5,rfl,D10,RA10,lt10,hq10⟩
    have R10:=RA10.all
    refine ⟨_,rfl,r,_,_,V.ref bl,rfl,rfl,SqT.of R10.tu,rfl,(by decide : 0≤sizeLine),fun p0 hp0=>?_⟩
    have t0:=zj hp0 (o:=.lst [])
    refine ⟨.lst ((zs.map (·.2)).map yt),.lst [],?_,?_,?_,_,rfl,?_⟩
    ·rw [TrAt]; exact ⟨bl,_,rfl,SqL.of (t0 _ _ R10.li),TrsAt.lists fun z hz=>t0 _ _ (R10.st z hz)⟩
    ·rw [TrAt]; exact ⟨p0,_,rfl,SqL.of zf,by rw [TrsAt]⟩
    ·rw [uX]; have:=xu (zs.map (·.2)); omega
    rw [if_pos rfl,Wz]
    have D11:=D10.same t0
    have RA11:=RA10.same (t0.aw fp)
    have lt11:=lt10.same t0
    generalize upd H10 p0 (.lst []) = H11 at D11 RA11 lt11
    by_cases hz0 : zs = []
    ·subst hz0
     exact xW ⟨_,_,_,_,rfl,D11,lt11⟩
    have hzl : 0 < zs.length:=List.length_pos_iff.mpr hz0
    refine zds (by rw [show ((zs.map (·.2)).map yt).isEmpty = false by cases zs with | nil=>exact absurd rfl hz0 | cons _ _=>rfl]; rfl) ?_
    refine ⟨_,rfl,r,b,bl,zs,rfl,RA11.all,by omega,fun r' bl' zs' H12 s12 R' e' hbl' hr' hzs'=>?_⟩
    have fbl' : bl' ∉ fp:=D11.fresh hbl'
    have fr' : r' ∉ fp:=D11.fresh hr'
    have hzl' : zs'.length = zs.length:=by have:=congrArg List.length e'; rwa [List.length_map,List.length_map] at this
    refine ⟨_,rfl,d,fp,rfl,D11.same s12,fun m H13 b1 b2' S13=>?_⟩
    have R13' : RuleAt H13 r' b bl' zs':=⟨S13.get fr' R'.tu,S13.get fbl' R'.li,fun z hz=>S13.get (D11.fresh (hzs' z hz).1) (R'.st z hz)⟩
    have RA13:=(RA11.same (s12.aw fp)).step S13
    have lt13:=S13.lt (D11.same s12) (lt11.same s12)
    refine ⟨_,rfl,_,rfl,r',b,bl',zs',m,rfl,R13',by rw [e']; exact g,⟨b1,b2'⟩,lt13,fun v H14 hv s14 lt14=>?_⟩
    have R14':=R13'.sameL lt13 s14
    have RA14:=RA13.awL lt13 s14
    have D14:=S13.dk.sameL lt13 s14
    refine ⟨_,rfl,r',_,_,V.ref bl',rfl,rfl,SqT.of R14'.tu,rfl,.inl ⟨rfl,_,SqL.of R14'.li⟩,?_⟩
    refine ⟨_,rfl,_,rfl,r,_,_,V.ref bl,rfl,rfl,SqT.of RA14.all.tu,rfl,bl,_,rfl,.inl (SqL.of RA14.all.li),d,_,fp,rfl,D14,by rw [List.length_map]; omega,by rw [List.length_map]; omega,fun j H15 hj S15=>?_⟩
    rw [List.length_map] at hj
    have hj' : j < zs'.length:=by omega
    have gtu:=S15.get fr' R14'.tu
    have gli:=S15.get fbl' R14'.li
    have gst : ∀ z ∈ zs',H15 z.1 = some (.lst (z.2.map V.int)):=fun z hz=>S15.get (D11.fresh (hzs' z hz).1) (R14'.st z hz)
    have lt15:=S15.lt D14 lt14
    have hsi : seqIndex? (j : Int) (zs'.map fun z=>V.ref z.1).length = some j:=(Ji (by unfold ixN; rw [List.length_map,if_pos (by omega),if_pos (by omega)]; simp)).1
    refine ⟨bl',_,_,j,_,rfl,rfl,gli,by omega,by omega,hsi,(by rw [List.getElem?_map,List.getElem?_eq_getElem hj']; rfl),?_⟩
    have RR : RuleAt (upd H15 bl' (.lst ((zs'.map fun z=>V.ref z.1).eraseIdx j))) r' b bl' (zs'.eraseIdx j):=by
     refine ⟨?_,?_,fun z hz=>?_⟩
     ·rw [zq (fun z=>by rw [z,gli] at gtu; cases gtu)]; exact gtu
     ·rw [zf,WD]
     ·have hzm:=List.mem_of_mem_eraseIdx hz
      rw [zq (hzs' z hzm).2]; exact gst z hzm
    have D16:=S15.dk.upd fbl' (o:=.lst ((zs'.map fun z=>V.ref z.1).eraseIdx j))
    have gE : zW b ((zs'.eraseIdx j).map (·.2)):=by rw [← WD,e']; exact zaX g j
    have lt16 : LT T0 (upd H15 bl' (.lst ((zs'.map fun z=>V.ref z.1).eraseIdx j))):=lt15.off gli (by rw [qP (by simp)]; exact Same.refl _)
    refine ⟨_,rfl,_,rfl,r',b,bl',zs'.eraseIdx j,m,rfl,RR,gE,b1,b2',lt16,fun H17 s17 lt17=>⟨_,rfl,xW ⟨_,_,_,_,rfl,D16.sameL lt16 s17,lt17⟩⟩⟩
  ·rintro σ H2 ⟨v2,v3,v4,v5,rfl,D2,lt2⟩
   refine ⟨(by show 2≤sizeLine; decide),fun p1 q1=>⟨(by show 1≤sizeLine; decide),fun p2 q2=>⟨(by show 2≤sizeLine; decide),fun p3 q3=>?_⟩⟩⟩
   have t1:=zj q1 (o:=.lst [.int 1,.int 3])
   have t2:=zj q2 (o:=.lst [.ref p1])
   have t3:=zj q3 (o:=.tup [.int 10,.ref p2])
   refine ⟨p3,10,p2,[(p1,[1,3])],2,rfl,⟨zf,t3 _ _ zf,fun z hz=>by rw [List.mem_singleton.mp hz]; exact t3 _ _ (t2 _ _ zf)⟩,zeo,⟨by decide,by decide⟩,((lt2.same t1).same t2).same t3,fun v H3 hv s3 lt3=>?_⟩
   rw [hv,show ((many (gd ([(p1,[1,3])].map (·.2)) 10) (10 ^ 2) : Nat) : Int) - ((low ([(p1,[1,3])].map (·.2)) 10 2 : Nat) : Int) = 89 from v89]
   refine ⟨rfl,_,rfl,wF ?_⟩
   refine ⟨(by decide : 0≤sizeLine),fun p4 q4=>⟨(by show 2≤sizeLine; decide),fun p5 q5=>?_⟩⟩
   have t4:=zj q4 (o:=.lst [])
   have t5:=zj q5 (o:=.tup [.int 2,.ref p4])
   refine ⟨p5,2,p4,[],1,rfl,⟨zf,t5 _ _ zf,fun z hz=>by cases hz⟩,zez,⟨by decide,by decide⟩,(lt3.same t4).same t5,fun v H4 hv s4 lt4=>?_⟩
   rw [hv,show ((tot (gd (([] : List (Addr × List Int)).map (·.2)) 2) (fun n=>n) (2 ^ 1) : Nat) : Int) - ((tot (gd (([] : List (Addr × List Int)).map (·.2)) 2) (fun n=>n) (wG 2 1) : Nat) : Int) = 1 from v1]
   exact ⟨rfl,kk H4⟩
end
open PySem L2
theorem fb1 {P : List Value->Prop} (h : ∀ a,P [a]) : ∀ us : List Value,us.length = 1->P us
 | [a],_=>h a
theorem fb2 {P : List Value->Prop} (h : ∀ a b,P [a,b]) : ∀ us : List Value,us.length = 2->P us
 | [a,b],_=>h a b
theorem fb3 {P : List Value->Prop} (h : ∀ a b c,P [a,b,c]) : ∀ us : List Value,us.length = 3->P us
 | [a,b,c],_=>h a b c
def FF (K : PySem.W.Frag) (n q : Str) (st : Stmt) (f : Addr) (cd : Value) : Prop:=∃ (od an : Option Addr) (sl : Array (Option Value)) (oc kV dc pm ct : Value),K.lookup f = some ⟨oc,od,.func (PySem.W.fnOf n q (vf st) (yZ st) (zu st) .none kV dc pm an cd ct),sl⟩∧PySem.W.codeIn K cd q = true∧PySem.W.keepIn K (.ref f) = true
def FD (K : PySem.W.Frag) (n : Str) (st : Stmt) : Prop:=∃ (f : Addr) (cd : Value),PySem.W.nsIn K mainGlobals n = some (some (.ref f))∧FF K n n st f cd
def FM (K : PySem.W.Frag) (C : Addr) (n q : Str) (st : Stmt) : Prop:=∃ (f : Addr) (cd : Value),PySem.W.findIn K (.ref C) n = some (some (.ref f))∧PySem.W.isFn K (.ref f) = true∧FF K n q st f cd
section
variable {K : PySem.W.Frag} {n q : Str} {st : Stmt} {f C : Addr} {cd : Value} {od an : Option Addr} {sl : Array (Option Value)} {oc kV dc pm ct : Value}
theorem fdm (a : PySem.W.nsIn K mainGlobals n = some (some (.ref f))) (l : K.lookup f = some ⟨oc,od,.func (PySem.W.fnOf n n (vf st) (yZ st) (zu st) .none kV dc pm an cd ct),sl⟩) (e : PySem.W.codeIn K cd n = true) (k : PySem.W.keepIn K (.ref f) = true) : FD K n st:=⟨f,cd,a,od,an,sl,oc,kV,dc,pm,ct,l,e,k⟩
theorem fmm (a : PySem.W.findIn K (.ref C) n = some (some (.ref f))) (i : PySem.W.isFn K (.ref f) = true) (l : K.lookup f = some ⟨oc,od,.func (PySem.W.fnOf n q (vf st) (yZ st) (zu st) .none kV dc pm an cd ct),sl⟩) (e : PySem.W.codeIn K cd q = true) (k : PySem.W.keepIn K (.ref f) = true) : FM K C n q st:=⟨f,cd,a,i,od,an,sl,oc,kV,dc,pm,ct,l,e,k⟩
def FB (n q : Str) (st : Stmt) (ps : List Str) : Prop:=∀ (kV doc pm : Value) (an : Option Addr) (cdv ct : Value) (us : List Value),us.length = ps.length->bindArgs (PySem.W.fnOf n q (vf st) (yZ st) (zu st) .none kV doc pm an cdv ct) ⟨us,[]⟩ = pure (ps.zip us)
theorem FD.df {h : Heap} {mg : Str->Option Value} {ps : List Str} (x : FD K n st) (X : K.In h) (G : h.Ns mainGlobals mg) (b : FB n n st ps) : ∃ f fd,Df K mg n st ps f fd:=by
 obtain ⟨f,cd,a,od,an,sl,oc,kV,dc,pm,ct,l,e,k⟩:=x
 exact ⟨_,_,zc4 X G a l e k b⟩
theorem FM.mt {ps : List Str} (x : FM K C n q st) (b : FB n q st ps) : ∃ f fd,Mt K C q n st ps f fd:=by
 obtain ⟨f,cd,a,i,od,an,sl,oc,kV,dc,pm,ct,l,e,k⟩:=x
 exact ⟨_,_,⟨Q5 (st:=st) l e k,(Q5 (st:=st) l e k).binds b,⟨a,i,k⟩⟩⟩
end
set_option maxHeartbeats 0 in
theorem zex {l : PySem.W.OpenLaw} {w : World} {K : PySem.W.Frag} {h : Heap} {mg : Str->Option Value} {fa T0 c0 : Addr} (X : K.In h) (G : h.Ns mainGlobals mg) (hfa : mg "law" = some (.ref fa)) (hcT : PySem.W.codeHdIn K c0 T0 = true) (hgT : mainGlobals ≠ T0)
  (x0 : FD K "_wall" zdL)
  (x1 : FD K "is_whole" tE)
  (x2 : FD K "is_number" jq)
  (x3 : FD K "is_base" YB)
  (x4 : FD K "is_figure" jx)
  (x5 : FD K "are_figures" vC)
  (x6 : FD K "is_stretch" qw)
  (x7 : FD K "is_rising" qb)
  (x8 : FD K "is_bad_list" vD)
  (x9 : FD K "is_rule" YG)
  (x10 : FD K "check_rule" ux)
  (x11 : FD K "stands_within" wz)
  (x12 : FD K "lacks_all" wX)
  (x13 : FD K "begins_one" uy)
  (x14 : FD K "longest_stand" vI)
  {f15 : Addr} {od15 an15 : Option Addr} {sl15 : Array (Option Value)} {oc15 kV15 dc15 pm15 ct15 : Value} (a15 : PySem.W.nsIn K mainGlobals "stands_of" = some (some (.ref f15)))
  (l15 : K.lookup f15 = some ⟨oc15,od15,.func (PySem.W.fnOf "stands_of" "stands_of" (vf yo) (yZ yo) (zu yo) .none kV15 dc15 pm15 an15 (.ref c0) ct15),sl15⟩) (e15 : PySem.W.codeIn K (.ref c0) "stands_of" = true) (k15 : PySem.W.keepIn K (.ref f15) = true)
  (x16 : FD K "place_behind" ud)
  (x17 : FD K "steps_from" uq)
  (x18 : FD K "all_steps" qe)
  (x19 : FD K "weights_by_left" xj)
  (x20 : FD K "number_totals" vK)
  (x21 : FD K "check_length" wZ)
  (x22 : FD K "count_shorter" vJ)
  (x23 : FD K "count_long" uG)
  (x24 : FD K "sum_long" qZ)
  (x25 : FD K "_law_deck" jJ)
  (x26 : FD K "_law_draw" wY)
  (x27 : FD K "_law_some_rule" xR)
  (x28 : FD K "_law_own" tK)
  (x29 : FD K "_law_figures" ul)
  (x30 : FD K "_law_lacks" qz)
  (x31 : FD K "_law_behind" vG)
  (x32 : FD K "_law_steps" xr)
  (x33 : FD K "_law_table" xn)
  (x34 : FD K "_law_long" jz)
  (x35 : FD K "_law_lengths" ut)
  (x36 : FD K "_law_tight_rule" yH)
  (x37 : FD K "_law_whole" qx)
  (x38 : FD K "_law_gone_through" yI)
  (x39 : FD K "_law_right" qC)
  (x40 : FD K "law" Ur)
  {C : Addr} (aC : PySem.W.nsIn K mainGlobals "Tails" = some (some (.ref C)))
  (yC0 : FM K C "__init__" "Tails.__init__" tL)
  (yC1 : FM K C "layer" "Tails.layer" wC)
  (yC2 : FM K C "many_by" "Tails.many_by" yW)
  (yC3 : FM K C "many_under" "Tails.many_under" Xc)
  (yC4 : FM K C "many_below" "Tails.many_below" Xg)
  (yC5 : FM K C "many_within" "Tails.many_within" yx)
  (yC6 : FM K C "figure_at" "Tails.figure_at" XS)
  (yC7 : FM K C "number_at" "Tails.number_at" XM)
  (yC8 : FM K C "are_endless" "Tails.are_endless" YK)
  (pgC : PySem.W.plainGet K C Str.empty = true) (hdC : PySem.W.hasDictIn K C = true) (poC : PySem.W.plainOver K C = true) (saC : PySem.W.findIn K (.ref C) "__setattr__" = some (some (.builtin "object.__setattr__"))) (mkC : PySem.W.makesIn K C = true) (kcC : PySem.W.keepIn K (.ref C) = true)
  (nC_base : PySem.W.findIn K (.ref C) "base" = some none)
  (nC_outset : PySem.W.findIn K (.ref C) "outset" = some none)
  (nC_steps : PySem.W.findIn K (.ref C) "steps" = some none)
  (nC_layers : PySem.W.findIn K (.ref C) "layers" = some none)
  {CS : Addr} (aCS : PySem.W.nsIn K mainGlobals "Totals" = some (some (.ref CS)))
  (yCS0 : FM K CS "__init__" "Totals.__init__" uh)
  (yCS1 : FM K CS "longer_layer" "Totals.longer_layer" yC)
  (yCS2 : FM K CS "weight_of" "Totals.weight_of" wk)
  (yCS3 : FM K CS "total_under" "Totals.total_under" xf)
  (yCS4 : FM K CS "total_below" "Totals.total_below" Yj)
  (yCS5 : FM K CS "total_within" "Totals.total_within" yR)
  (pgCS : PySem.W.plainGet K CS Str.empty = true) (hdCS : PySem.W.hasDictIn K CS = true) (poCS : PySem.W.plainOver K CS = true) (saCS : PySem.W.findIn K (.ref CS) "__setattr__" = some (some (.builtin "object.__setattr__"))) (mkCS : PySem.W.makesIn K CS = true) (kcCS : PySem.W.keepIn K (.ref CS) = true)
  (nCS_tails : PySem.W.findIn K (.ref CS) "tails" = some none)
  (nCS_weights : PySem.W.findIn K (.ref CS) "weights" = some none)
  (nCS_layers : PySem.W.findIn K (.ref CS) "layers" = some none)
  {t0 : Tok} (g0 : PySem.W.nsIn K mainGlobals "LEAST_BASE" = some (some (.int 2 t0)))
  {t1 : Tok} (g1 : PySem.W.nsIn K mainGlobals "GREATEST_BASE" = some (some (.int 16 t1)))
  {t2 : Tok} (g2 : PySem.W.nsIn K mainGlobals "MOST_STRETCHES" = some (some (.int 4 t2)))
  {t3 : Tok} (g3 : PySem.W.nsIn K mainGlobals "LONGEST_STRETCH" = some (some (.int 4 t3)))
  {t4 : Tok} (g4 : PySem.W.nsIn K mainGlobals "MOST_FIGURES" = some (some (.int 60 t4)))
  (z0 : PySem.W.nsIn K mainGlobals "isinstance" = some none)
  (z1 : PySem.W.nsIn K mainGlobals "int" = some none)
  (z2 : PySem.W.nsIn K mainGlobals "bool" = some none)
  (z3 : PySem.W.nsIn K mainGlobals "list" = some none)
  (z4 : PySem.W.nsIn K mainGlobals "tuple" = some none)
  (z5 : PySem.W.nsIn K mainGlobals "reversed" = some none)
  (z6 : PySem.W.nsIn K mainGlobals "len" = some none)
  (z7 : PySem.W.nsIn K mainGlobals "max" = some none)
  (z8 : PySem.W.nsIn K mainGlobals "min" = some none)
  (z9 : PySem.W.nsIn K mainGlobals "range" = some none)
  (z10 : PySem.W.nsIn K mainGlobals "all" = some none)
  (z11 : PySem.W.nsIn K mainGlobals "any" = some none)
  (z12 : PySem.W.nsIn K mainGlobals "sorted" = some none)
  (z13 : PySem.W.nsIn K mainGlobals "enumerate" = some none)
  (z14 : PySem.W.nsIn K mainGlobals "repr" = some none)
  (z15 : PySem.W.nsIn K mainGlobals "sum" = some none)
  (z16 : PySem.W.nsIn K mainGlobals "abs" = some none)
  (z17 : PySem.W.nsIn K mainGlobals "zip" = some none)
  (z18 : PySem.W.nsIn K mainGlobals "str" = some none)
  (zD : PySem.W.nsIn K mainGlobals "dict" = some none)
  : ∃ fd : FuncData,(∀ (s : Shared) (v : Value),BindsTo s fd ⟨[v],[]⟩ [("script",v)])∧∀ base : Heap,K.In base->base.Ns mainGlobals mg->base.BuiltinsAt mg T0->FnOk l.prog w K mg base CX0 14 fa fd ["script"] (QL K T0):=by
 obtain ⟨fL,cd40,aL,od40,an40,sl40,oc40,kV40,dc40,pm40,ct40,lL,eL,kL⟩:=x40
 have e:=hfa.symm.trans (PySem.W.mg_of X G aL)
 cases e
 have T : Blt mg:=⟨PySem.W.mg_none_of X G z0,PySem.W.mg_none_of X G z1,PySem.W.mg_none_of X G z2,PySem.W.mg_none_of X G z3,PySem.W.mg_none_of X G z4,PySem.W.mg_none_of X G z5,PySem.W.mg_none_of X G z6,PySem.W.mg_none_of X G z7,PySem.W.mg_none_of X G z8,PySem.W.mg_none_of X G z9,PySem.W.mg_none_of X G z10,PySem.W.mg_none_of X G z11,PySem.W.mg_none_of X G z12,PySem.W.mg_none_of X G z13,PySem.W.mg_none_of X G z14⟩
 have U : zbB mg:=⟨PySem.W.mg_none_of X G z15,PySem.W.mg_none_of X G z16,PySem.W.mg_none_of X G z17,PySem.W.mg_none_of X G z18⟩
 have n_dict : mg "dict" = none:=PySem.W.mg_none_of X G zD
 have Zx:=PySem.W.mg_of X G g0
 have qj:=PySem.W.mg_of X G g1
 have uR:=PySem.W.mg_of X G g2
 have uf:=PySem.W.mg_of X G g3
 have jb:=PySem.W.mg_of X G g4
 obtain ⟨_,_,D_wall⟩:=x0.df (ps:=["k"]) X G fun _ _ _ _ _ _=>fb1 fun _=>rfl
 obtain ⟨_,_,yM⟩:=x1.df (ps:=["thing"]) X G fun _ _ _ _ _ _=>fb1 fun _=>rfl
 obtain ⟨_,_,ZS⟩:=x2.df (ps:=["thing"]) X G fun _ _ _ _ _ _=>fb1 fun _=>rfl
 obtain ⟨_,_,XQ⟩:=x3.df (ps:=["thing"]) X G fun _ _ _ _ _ _=>fb1 fun _=>rfl
 obtain ⟨_,_,ZG⟩:=x4.df (ps:=["base","thing"]) X G fun _ _ _ _ _ _=>fb2 fun _ _=>rfl
 obtain ⟨_,_,qF⟩:=x5.df (ps:=["base","thing"]) X G fun _ _ _ _ _ _=>fb2 fun _ _=>rfl
 obtain ⟨_,_,jH⟩:=x6.df (ps:=["base","thing"]) X G fun _ _ _ _ _ _=>fb2 fun _ _=>rfl
 obtain ⟨_,_,qT⟩:=x7.df (ps:=["stretches"]) X G fun _ _ _ _ _ _=>fb1 fun _=>rfl
 obtain ⟨_,_,qI⟩:=x8.df (ps:=["base","thing"]) X G fun _ _ _ _ _ _=>fb2 fun _ _=>rfl
 obtain ⟨_,_,Wd⟩:=x9.df (ps:=["thing"]) X G fun _ _ _ _ _ _=>fb1 fun _=>rfl
 obtain ⟨_,_,wV⟩:=x10.df (ps:=["thing"]) X G fun _ _ _ _ _ _=>fb1 fun _=>rfl
 obtain ⟨_,_,wM⟩:=x11.df (ps:=["stretch","figures"]) X G fun _ _ _ _ _ _=>fb2 fun _ _=>rfl
 obtain ⟨_,_,xH⟩:=x12.df (ps:=["bad","figures"]) X G fun _ _ _ _ _ _=>fb2 fun _ _=>rfl
 obtain ⟨_,_,tX⟩:=x13.df (ps:=["bad","figures"]) X G fun _ _ _ _ _ _=>fb2 fun _ _=>rfl
 obtain ⟨_,_,uJ⟩:=x14.df (ps:=["bad","figures"]) X G fun _ _ _ _ _ _=>fb2 fun _ _=>rfl
 have ZK : Df K mg "stands_of" yo ["bad"] _ _:=zc4 X G a15 l15 e15 k15 fun _ _ _ _ _ _=>fb1 fun _=>rfl
 obtain ⟨_,_,tO⟩:=x16.df (ps:=["bad","stands","figures"]) X G fun _ _ _ _ _ _=>fb3 fun _ _ _=>rfl
 obtain ⟨_,_,jE⟩:=x17.df (ps:=["rule","stands","stand"]) X G fun _ _ _ _ _ _=>fb3 fun _ _ _=>rfl
 obtain ⟨_,_,Zq⟩:=x18.df (ps:=["rule","stands"]) X G fun _ _ _ _ _ _=>fb2 fun _ _=>rfl
 obtain ⟨_,_,w5⟩:=x19.df (ps:=["weights","scale","size"]) X G fun _ _ _ _ _ _=>fb3 fun _ _ _=>rfl
 obtain ⟨_,_,uA⟩:=x20.df (ps:=["rule","size"]) X G fun _ _ _ _ _ _=>fb2 fun _ _=>rfl
 obtain ⟨_,_,xF⟩:=x21.df (ps:=["thing"]) X G fun _ _ _ _ _ _=>fb1 fun _=>rfl
 obtain ⟨_,_,uz⟩:=x22.df (ps:=["tails","m"]) X G fun _ _ _ _ _ _=>fb2 fun _ _=>rfl
 obtain ⟨_,_,xZ⟩:=x23.df (ps:=["rule","m"]) X G fun _ _ _ _ _ _=>fb2 fun _ _=>rfl
 obtain ⟨_,_,tH⟩:=x24.df (ps:=["rule","m"]) X G fun _ _ _ _ _ _=>fb2 fun _ _=>rfl
 obtain ⟨_,_,jk⟩:=x25.df (ps:=["script"]) X G fun _ _ _ _ _ _=>fb1 fun _=>rfl
 obtain ⟨_,_,zA⟩:=x26.df (ps:=["deck","many"]) X G fun _ _ _ _ _ _=>fb2 fun _ _=>rfl
 obtain ⟨_,_,wA⟩:=x27.df (ps:=["deck"]) X G fun _ _ _ _ _ _=>fb1 fun _=>rfl
 obtain ⟨_,_,vm⟩:=x28.df (ps:=["rule"]) X G fun _ _ _ _ _ _=>fb1 fun _=>rfl
 obtain ⟨_,_,vH⟩:=x29.df (ps:=["base","n"]) X G fun _ _ _ _ _ _=>fb2 fun _ _=>rfl
 obtain ⟨_,_,qd⟩:=x30.df (ps:=["bad","figures"]) X G fun _ _ _ _ _ _=>fb2 fun _ _=>rfl
 obtain ⟨_,_,uo⟩:=x31.df (ps:=["bad","end","figure"]) X G fun _ _ _ _ _ _=>fb3 fun _ _ _=>rfl
 obtain ⟨_,_,wR⟩:=x32.df (ps:=["rule"]) X G fun _ _ _ _ _ _=>fb1 fun _=>rfl
 obtain ⟨_,_,jF⟩:=x33.df (ps:=["rule","m"]) X G fun _ _ _ _ _ _=>fb2 fun _ _=>rfl
 obtain ⟨_,_,ZR⟩:=x34.df (ps:=["rule","m"]) X G fun _ _ _ _ _ _=>fb2 fun _ _=>rfl
 obtain ⟨_,_,xK⟩:=x35.df (ps:=["deck"]) X G fun _ _ _ _ _ _=>fb1 fun _=>rfl
 obtain ⟨_,_,xU⟩:=x36.df (ps:=["deck"]) X G fun _ _ _ _ _ _=>fb1 fun _=>rfl
 obtain ⟨_,_,uc⟩:=x37.df (ps:=["thing","due"]) X G fun _ _ _ _ _ _=>fb2 fun _ _=>rfl
 obtain ⟨_,_,wy⟩:=x38.df (ps:=["rule","m"]) X G fun _ _ _ _ _ _=>fb2 fun _ _=>rfl
 obtain ⟨_,_,qg⟩:=x39.df (ps:=["rule","m"]) X G fun _ _ _ _ _ _=>fb2 fun _ _=>rfl
 have Dlaw : Df K mg "law" Ur ["script"] _ _:=zc4 X G aL lL eL kL fun _ _ _ _ _ _=>fb1 fun _=>rfl
 obtain ⟨_,_,qu⟩:=yC0.mt (ps:=["self","rule"]) fun _ _ _ _ _ _=>fb2 fun _ _=>rfl
 have WP : Mk K C _:=let ⟨a,i,_⟩:=qu.m; ⟨mkC,a,i,kcC⟩
 have Wt:=qu.b
 obtain ⟨_,_,xm⟩:=yC1.mt (ps:=["self","left"]) fun _ _ _ _ _ _=>fb2 fun _ _=>rfl
 obtain ⟨_,_,yG⟩:=yC2.mt (ps:=["self","layer","place","stop"]) fun _ _ _ _ _ _ us hl=>match us,hl with | [_,_,_,_],_=>rfl
 obtain ⟨_,_,za3⟩:=yC3.mt (ps:=["self","place","stop","left"]) fun _ _ _ _ _ _ us hl=>match us,hl with | [_,_,_,_],_=>rfl
 obtain ⟨_,_,zbf⟩:=yC4.mt (ps:=["self","figures"]) fun _ _ _ _ _ _=>fb2 fun _ _=>rfl
 obtain ⟨_,_,zT⟩:=yC5.mt (ps:=["self","size"]) fun _ _ _ _ _ _=>fb2 fun _ _=>rfl
 obtain ⟨_,_,zbU⟩:=yC6.mt (ps:=["self","place","k","left"]) fun _ _ _ _ _ _ us hl=>match us,hl with | [_,_,_,_],_=>rfl
 obtain ⟨_,_,zb4⟩:=yC7.mt (ps:=["self","size","k"]) fun _ _ _ _ _ _=>fb3 fun _ _ _=>rfl
 obtain ⟨_,_,zaR⟩:=yC8.mt (ps:=["self"]) fun _ _ _ _ _ _=>fb1 fun _=>rfl
 have zG : ClT K mg C:=⟨⟨pgC,hdC,poC,saC⟩,PySem.W.mg_of X G aC,nC_base,nC_outset,nC_steps,nC_layers⟩
 obtain ⟨_,_,uW⟩:=yCS0.mt (ps:=["self","rule","weights","scale","size"]) fun _ _ _ _ _ _ us hl=>match us,hl with | [_,_,_,_,_],_=>rfl
 have Q6 : Mk K CS _:=let ⟨a,i,_⟩:=uW.m; ⟨mkCS,a,i,kcCS⟩
 have QV:=uW.b
 obtain ⟨_,_,xg⟩:=yCS1.mt (ps:=["self","left"]) fun _ _ _ _ _ _=>fb2 fun _ _=>rfl
 obtain ⟨_,_,wI⟩:=yCS2.mt (ps:=["self","behind","figure","left"]) fun _ _ _ _ _ _ us hl=>match us,hl with | [_,_,_,_],_=>rfl
 obtain ⟨_,_,xO⟩:=yCS3.mt (ps:=["self","place","stop","left","ahead"]) fun _ _ _ _ _ _ us hl=>match us,hl with | [_,_,_,_,_],_=>rfl
 obtain ⟨_,_,zas⟩:=yCS4.mt (ps:=["self","figures"]) fun _ _ _ _ _ _=>fb2 fun _ _=>rfl
 obtain ⟨_,_,yF⟩:=yCS5.mt (ps:=["self","size"]) fun _ _ _ _ _ _=>fb2 fun _ _=>rfl
 have zJ : ClS K mg CS:=⟨⟨pgCS,hdCS,poCS,saCS⟩,PySem.W.mg_of X G aCS,nCS_tails,nCS_weights,nCS_layers⟩
 refine ⟨PySem.W.fnOf "law" "law" (vf Ur) (yZ Ur) (zu Ur) .none kV40 dc40 pm40 an40 cd40 ct40,fun s v=>.of_eq rfl,fun base _ _ hBM=>?_⟩
 have qK : FnOk l.prog w K mg base CX0 1 _ _ ["thing"] tW:=ju yM T
 have Ub : FnOk l.prog w K mg base CX0 2 _ _ ["thing"] Xn:=za0 XQ yM T Zx qj
 have Xf : FnOk l.prog w K mg base CX0 2 _ _ ["thing"] ZL:=Jm ZS yM T
 have VV : FnOk l.prog w K mg base CX0 1 _ _ ["script"] (ZD K):=Wc jk T
 have zN : FnOk l.prog w K mg base CX0 1 _ _ ["deck","many"] vh:=um zA T
 have Xh : FnOk l.prog w K mg base CX0 2 _ _ ["base","thing"] ZC:=Jv ZG yM T
 have Zu : FnOk l.prog w K mg base CX0 3 _ _ ["base","thing"] qW:=Uw qF ZG Xh T
 have Yw : FnOk l.prog w K mg base CX0 4 _ _ ["base","thing"] jZ:=U9 jH qF Zu uf T
 have Uo : FnOk l.prog w K mg base CX0 1 _ _ ["stretches"] ZJ:=XH qT T
 have Zh : FnOk l.prog w K mg base CX0 5 _ _ ["base","thing"] je:=VM qI jH Yw qT uR T
 have V1 : FnOk l.prog w K mg base CX0 6 _ _ ["thing"] Xb:=zaK Wd XQ Ub qI Zh T
 have vY : FnOk l.prog w K mg base CX0 7 _ _ ["thing"] tU:=UW wV Wd V1
 have Yg : FnOk l.prog w K mg base CX0 1 _ _ ["stretch","figures"] uN:=Zc wM T
 have ww : FnOk l.prog w K mg base CX0 2 _ _ ["bad","figures"] uv:=Jd xH wM T
 have Vd : FnOk l.prog w K mg base CX0 1 _ _ ["bad","figures"] jO:=YT tX T
 have qY : FnOk l.prog w K mg base CX0 3 _ _ ["bad","figures"] u6:=Wx uJ xH ww tX T
 have Xw : FnOk l.prog w K mg base CX0 6 _ _ ["bad"] (ZM T0):=QX ZK rfl hcT hBM hgT xH ww T
 have jP : FnOk l.prog w K mg base CX0 4 _ _ ["bad","stands","figures"] ql:=Vq tO uJ qY
 have Ym : FnOk l.prog w K mg base CX0 5 _ _ ["rule","stands","stand"] jT:=UV jE tO jP T
 have Xd : FnOk l.prog w K mg base CX0 6 _ _ ["rule","stands"] Zz:=Jk Zq jE Ym T
 have Z8 : FnOk l.prog w K mg base CX0 1 _ _ ["self","layer","place","stop"] (Xm C):=UG yG zG T U
 have uE : FnOk l.prog w K mg base CX0 2 _ _ ["self","left"] (XR C):=zaa xm yG zG T U
 have zZ : FnOk l.prog w K mg base CX0 3 _ _ ["self","size"] (wN C):=Uv zT xm yG zG T U
 have vX : FnOk l.prog w K mg base CX0 7 _ _ ["self","rule"] (Yz T0 C):=zcV qu ZK Xw Zq Xd xH ww zG T
 have wB : FnOk l.prog w K mg base CX0 3 _ _ ["thing"] vL:=Vg xF ZS Xf jb
 have jg : FnOk l.prog w K mg base CX0 4 _ _ ["tails","m"] (uM C):=Wy uz zT zZ zG
 have wQ : FnOk l.prog w K mg base CX0 9 _ _ ["rule","m"] (tR T0):=U8 xZ wV vY xF wB WP Wt vX zT zZ uz jg zG
 have uL : FnOk l.prog w K mg base CX0 1 _ _ ["weights","scale","size"] vQ:=Xz w5 T
 have uK : FnOk l.prog w K mg base CX0 1 _ _ ["self","behind","figure","left"] (ZP C CS):=Jf wI zG zJ
 have vq : FnOk l.prog w K mg base CX0 3 _ _ ["self","place","stop","left","ahead"] (qN C CS):=Uz xO xm uE wI uK zG zJ T
 have wO : FnOk l.prog w K mg base CX0 4 _ _ ["self","left"] (qt C CS):=Vo xg xO vq zG zJ T
 have xq : FnOk l.prog w K mg base CX0 1 _ _ ["self","size"] (qi C CS):=Vp yF zG zJ
 have Zw : FnOk l.prog w K mg base CX0 9 _ _ ["self","rule","weights","scale","size"] (WY T0 C CS):=zbS uW WP Wt vX w5 uL zT zZ xg wO zG zJ T
 have qM : FnOk l.prog w K mg base CX0 11 _ _ ["rule","size"] (u9 T0 C CS):=WT uA Q6 QV Zw zJ T
 have qJ : FnOk l.prog w K mg base CX0 12 _ _ ["rule","m"] (jB T0):=J5 tH wV vY xF wB uA qM yF xq zJ
 have ZX : FnOk l.prog w K mg base CX0 2 _ _ ["deck"] uw:=jG wA zA T
 have tM : FnOk l.prog w K mg base CX0 2 _ _ ["deck"] qm:=Z4 xK zA T
 have j0 : FnOk l.prog w K mg base CX0 2 _ _ ["deck"] vN:=qR xU zA T
 have XC : FnOk l.prog w K mg base CX0 1 _ _ ["bad","end","figure"] jc:=Yk uo T
 have vZ : FnOk l.prog w K mg base CX0 2 _ _ ["rule"] (tQ l.prog w):=U0 wR uo T
 have Yn : FnOk l.prog w K mg base CX0 3 _ _ ["rule","m"] (jL l.prog w):=U3 jF wR vZ n_dict T U
 have Xr : FnOk l.prog w K mg base CX0 4 _ _ ["rule","m"] ZQ:=QT ZR jF Yn wR vZ T
 have Y7 : FnOk l.prog w K mg base CX0 1 _ _ ["base","n"] qp:=Z1 vH T
 have YD : FnOk l.prog w K mg base CX0 1 _ _ ["rule"] jA:=Z9 vm T
 have Vb : FnOk l.prog w K mg base CX0 1 _ _ ["bad","figures"] jM:=YS qd T
 have Yc : FnOk l.prog w K mg base CX0 1 _ _ ["thing","due"] jV:=Y0 uc T
 have vR : FnOk l.prog w K mg base CX0 2 _ _ ["rule","m"] wU:=Yx wy qd vH T U
 have jy : FnOk l.prog w K mg base CX0 13 _ _ ["rule","m"] (jX T0):=UJ qg vm ZR Xr wy vR uc xZ wQ tH qJ T
 exact zem Dlaw jk wA xU xK qg jy vm xZ wQ tH qJ zA T
theorem walk2 {l : PySem.W.OpenLaw} {q : Program} {loose : List Str} {XP : (Str->Option Value)->Heap->Prop} {YP : World->Heap->Prop} {d : DefRec} {K : Params->PySem.W.Frag} {c T0 : Addr} (hn : l.most = some 63) (hdf : d.params.defaults = [])
  (hY : ∀ (w : World) (h : Heap),YP w h->(K w.params).In h) (hYT : ∀ (w : World) (h : Heap),YP w h->h.get? T0 = some (PySem.W.tabObj #[])) (hKT : ∀ w : World,(K w.params).lookup T0 = none) (hcT : ∀ w : World,PySem.W.codeHdIn (K w.params) c T0 = true)
  (F : ∀ (w : World) (mg : Str->Option Value) (fa : Addr) (h : Heap),(K w.params).In h->h.Ns mainGlobals mg->mg d.name = some (.ref fa) ->
   ∃ fd : FuncData,(∀ (s : Shared) (u : Value),BindsTo s fd ⟨[u],[]⟩ [("script",u)])∧∀ base : Heap,(K w.params).In base->base.Ns mainGlobals mg->base.BuiltinsAt mg T0->FnOk l.prog w (K w.params) mg base CX0 14 fa fd ["script"] (QL (K w.params) T0)) :
  PySem.W.WalkO q loose XP YP l.row.toRowW d [] (fun f vs=>PySem.call f vs) :=
 L2.zeF (n:=63) (k:=14) (x:="script") (sp:=fun w=>QL (K w.params) T0) hn (by decide) hdf ⟨rfl,by decide,by decide,rfl⟩ hY hYT hKT hcT F (fun w H a ns hl hT hS=>⟨a,ns,rfl,hS,hl,.inl hT,fun _=>rfl⟩)
end Lw
open PySem PySem.W PyProof.Rows
set_option maxRecDepth 100000 in
set_option maxHeartbeats 0 in
theorem PySem.Challenge.cw_lackstretch_k22_good_numbers_of_lengths_holds : PySem.Challenge.rw_lackstretch_k22_good_numbers_of_lengths.Holds := by
 w_on; o_law; k_head; (case hw=>w_witness2)
 k_fill
 refine Lw.walk2 (l:=PySem.Challenge.rw_lackstretch_k22_good_numbers_of_lengths) (c:=150) (T0:=146) rfl rfl (fun w h Y=>PySem.W.km_in_of Y) (fun w h Y=>PySem.W.km_tabs_of Y 146 (by decide)) (fun w=>by kernel_rfl) (fun w=>by kernel_rfl) ?F
 case F =>
  intro w mg fa h KX G hmg
  refine' Lw.zex (c0:=150) (T0:=146) KX G hmg (by kernel_rfl) (by decide) ?yyx0 ?yyx1 ?yyx2 ?yyx3 ?yyx4 ?yyx5 ?yyx6 ?yyx7 ?yyx8 ?yyx9 ?yyx10 ?yyx11 ?yyx12 ?yyx13 ?yyx14 ?yya15 ?yyl15 ?yye15 ?yyk15 ?yyx16 ?yyx17 ?yyx18 ?yyx19 ?yyx20 ?yyx21 ?yyx22 ?yyx23 ?yyx24 ?yyx25 ?yyx26 ?yyx27 ?yyx28 ?yyx29 ?yyx30 ?yyx31 ?yyx32 ?yyx33 ?yyx34 ?yyx35 ?yyx36 ?yyx37 ?yyx38 ?yyx39 ?yyx40 ?yyaC ?yyyC0 ?yyyC1 ?yyyC2 ?yyyC3 ?yyyC4 ?yyyC5 ?yyyC6 ?yyyC7 ?yyyC8 ?yypgC ?yyhdC ?yypoC ?yysaC ?yymkC ?yykcC ?yynC_base ?yynC_outset ?yynC_steps ?yynC_layers ?yyaCS ?yyyCS0 ?yyyCS1 ?yyyCS2 ?yyyCS3 ?yyyCS4 ?yyyCS5 ?yypgCS ?yyhdCS ?yypoCS ?yysaCS ?yymkCS ?yykcCS ?yynCS_tails ?yynCS_weights ?yynCS_layers ?yyg0 ?yyg1 ?yyg2 ?yyg3 ?yyg4 ?yyz0 ?yyz1 ?yyz2 ?yyz3 ?yyz4 ?yyz5 ?yyz6 ?yyz7 ?yyz8 ?yyz9 ?yyz10 ?yyz11 ?yyz12 ?yyz13 ?yyz14 ?yyz15 ?yyz16 ?yyz17 ?yyz18 ?yyzD
  (case yyx0=>refine' Lw.fdm ?_ ?_ ?_ ?_ <;> try k_is)
  (case yyx1=>refine' Lw.fdm ?_ ?_ ?_ ?_ <;> try k_is)
  (case yyx2=>refine' Lw.fdm ?_ ?_ ?_ ?_ <;> try k_is)
  (case yyx3=>refine' Lw.fdm ?_ ?_ ?_ ?_ <;> try k_is)
  (case yyx4=>refine' Lw.fdm ?_ ?_ ?_ ?_ <;> try k_is)
  (case yyx5=>refine' Lw.fdm ?_ ?_ ?_ ?_ <;> try k_is)
  (case yyx6=>refine' Lw.fdm ?_ ?_ ?_ ?_ <;> try k_is)
  (case yyx7=>refine' Lw.fdm ?_ ?_ ?_ ?_ <;> try k_is)
  (case yyx8=>refine' Lw.fdm ?_ ?_ ?_ ?_ <;> try k_is)
  (case yyx9=>refine' Lw.fdm ?_ ?_ ?_ ?_ <;> try k_is)
  (case yyx10=>refine' Lw.fdm ?_ ?_ ?_ ?_ <;> try k_is)
  (case yyx11=>refine' Lw.fdm ?_ ?_ ?_ ?_ <;> try k_is)
  (case yyx12=>refine' Lw.fdm ?_ ?_ ?_ ?_ <;> try k_is)
  (case yyx13=>refine' Lw.fdm ?_ ?_ ?_ ?_ <;> try k_is)
  (case yyx14=>refine' Lw.fdm ?_ ?_ ?_ ?_ <;> try k_is)
  (case yya15=>k_is)
  (case yyl15=>k_is)
  (case yye15=>k_is)
  (case yyk15=>k_is)
  (case yyx16=>refine' Lw.fdm ?_ ?_ ?_ ?_ <;> try k_is)
  (case yyx17=>refine' Lw.fdm ?_ ?_ ?_ ?_ <;> try k_is)
  (case yyx18=>refine' Lw.fdm ?_ ?_ ?_ ?_ <;> try k_is)
  (case yyx19=>refine' Lw.fdm ?_ ?_ ?_ ?_ <;> try k_is)
  (case yyx20=>refine' Lw.fdm ?_ ?_ ?_ ?_ <;> try k_is)
  (case yyx21=>refine' Lw.fdm ?_ ?_ ?_ ?_ <;> try k_is)
  (case yyx22=>refine' Lw.fdm ?_ ?_ ?_ ?_ <;> try k_is)
  (case yyx23=>refine' Lw.fdm ?_ ?_ ?_ ?_ <;> try k_is)
  (case yyx24=>refine' Lw.fdm ?_ ?_ ?_ ?_ <;> try k_is)
  (case yyx25=>refine' Lw.fdm ?_ ?_ ?_ ?_ <;> try k_is)
  (case yyx26=>refine' Lw.fdm ?_ ?_ ?_ ?_ <;> try k_is)
  (case yyx27=>refine' Lw.fdm ?_ ?_ ?_ ?_ <;> try k_is)
  (case yyx28=>refine' Lw.fdm ?_ ?_ ?_ ?_ <;> try k_is)
  (case yyx29=>refine' Lw.fdm ?_ ?_ ?_ ?_ <;> try k_is)
  (case yyx30=>refine' Lw.fdm ?_ ?_ ?_ ?_ <;> try k_is)
  (case yyx31=>refine' Lw.fdm ?_ ?_ ?_ ?_ <;> try k_is)
  (case yyx32=>refine' Lw.fdm ?_ ?_ ?_ ?_ <;> try k_is)
  (case yyx33=>refine' Lw.fdm ?_ ?_ ?_ ?_ <;> try k_is)
  (case yyx34=>refine' Lw.fdm ?_ ?_ ?_ ?_ <;> try k_is)
  (case yyx35=>refine' Lw.fdm ?_ ?_ ?_ ?_ <;> try k_is)
  (case yyx36=>refine' Lw.fdm ?_ ?_ ?_ ?_ <;> try k_is)
  (case yyx37=>refine' Lw.fdm ?_ ?_ ?_ ?_ <;> try k_is)
  (case yyx38=>refine' Lw.fdm ?_ ?_ ?_ ?_ <;> try k_is)
  (case yyx39=>refine' Lw.fdm ?_ ?_ ?_ ?_ <;> try k_is)
  (case yyx40=>refine' Lw.fdm ?_ ?_ ?_ ?_ <;> try k_is)
  (case yyaC=>k_is)
  (case yyyC0=>refine' Lw.fmm ?_ ?_ ?_ ?_ ?_ <;> try k_is)
  (case yyyC1=>refine' Lw.fmm ?_ ?_ ?_ ?_ ?_ <;> try k_is)
  (case yyyC2=>refine' Lw.fmm ?_ ?_ ?_ ?_ ?_ <;> try k_is)
  (case yyyC3=>refine' Lw.fmm ?_ ?_ ?_ ?_ ?_ <;> try k_is)
  (case yyyC4=>refine' Lw.fmm ?_ ?_ ?_ ?_ ?_ <;> try k_is)
  (case yyyC5=>refine' Lw.fmm ?_ ?_ ?_ ?_ ?_ <;> try k_is)
  (case yyyC6=>refine' Lw.fmm ?_ ?_ ?_ ?_ ?_ <;> try k_is)
  (case yyyC7=>refine' Lw.fmm ?_ ?_ ?_ ?_ ?_ <;> try k_is)
  (case yyyC8=>refine' Lw.fmm ?_ ?_ ?_ ?_ ?_ <;> try k_is)
  (case yypgC=>k_is)
  (case yyhdC=>k_is)
  (case yypoC=>k_is)
  (case yysaC=>k_is)
  (case yymkC=>k_is)
  (case yykcC=>k_is)
  (case yynC_base=>k_is)
  (case yynC_outset=>k_is)
  (case yynC_steps=>k_is)
  (case yynC_layers=>k_is)
  (case yyaCS=>k_is)
  (case yyyCS0=>refine' Lw.fmm ?_ ?_ ?_ ?_ ?_ <;> try k_is)
  (case yyyCS1=>refine' Lw.fmm ?_ ?_ ?_ ?_ ?_ <;> try k_is)
  (case yyyCS2=>refine' Lw.fmm ?_ ?_ ?_ ?_ ?_ <;> try k_is)
  (case yyyCS3=>refine' Lw.fmm ?_ ?_ ?_ ?_ ?_ <;> try k_is)
  (case yyyCS4=>refine' Lw.fmm ?_ ?_ ?_ ?_ ?_ <;> try k_is)
  (case yyyCS5=>refine' Lw.fmm ?_ ?_ ?_ ?_ ?_ <;> try k_is)
  (case yypgCS=>k_is)
  (case yyhdCS=>k_is)
  (case yypoCS=>k_is)
  (case yysaCS=>k_is)
  (case yymkCS=>k_is)
  (case yykcCS=>k_is)
  (case yynCS_tails=>k_is)
  (case yynCS_weights=>k_is)
  (case yynCS_layers=>k_is)
  (case yyg0=>k_is)
  (case yyg1=>k_is)
  (case yyg2=>k_is)
  (case yyg3=>k_is)
  (case yyg4=>k_is)
  (case yyz0=>k_is)
  (case yyz1=>k_is)
  (case yyz2=>k_is)
  (case yyz3=>k_is)
  (case yyz4=>k_is)
  (case yyz5=>k_is)
  (case yyz6=>k_is)
  (case yyz7=>k_is)
  (case yyz8=>k_is)
  (case yyz9=>k_is)
  (case yyz10=>k_is)
  (case yyz11=>k_is)
  (case yyz12=>k_is)
  (case yyz13=>k_is)
  (case yyz14=>k_is)
  (case yyz15=>k_is)
  (case yyz16=>k_is)
  (case yyz17=>k_is)
  (case yyz18=>k_is)
  (case yyzD=>k_is)
