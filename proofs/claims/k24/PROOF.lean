import PyProof.Rows.All
import Wide.All
import OpenK.AllK
import Wide.FinOn
import Lean
import PyProof.EqAt
import PyProof.EqKinds
import PyProof.TupleCall
import PyProof.NeKinds
import KE.KRevSl
import KE.KRevIter
import PyProof.ConsumeWalk
import KE.KSortAsk
import KE.KLam
import KE.KSortTup
import PyProof.AttrMissSeq
import PyProof.Rows.SetFrom
import KE.KDictOf
import KE.KDictSum
import PyProof.DictWalks
import KE.KUnpack
import PyProof.Rows.SumAny
import PyProof.EnumStmt
import PyProof.EnumMake
import PyProof.Rows.EnumRows
import PyProof.Rows.FactsN_abs
import PyProof.ReprRoads
import PyProof.CallFns
import PyProof.ReprLen
import PySem.Challenge.RW_lackstretch_k24_endless_or_the_greatest
set_option Elab.async false
set_option linter.all false
set_option maxRecDepth 100000
namespace L2
open PySem PySem.Spec PyProof.Rows
abbrev Key:=Sum Int Str
def Uc:Key->Value->Bool
 | .inl k,v=>Value.isInt k v
 | .inr x,v=>Value.isStrOf x v
def zfQ (w:World):Key->Int
 | .inl k=>hashInt k
 | .inr x=>hashStr w x
theorem yZ:∀ {k:Key} {v:Value},Uc k v=true->(∃ i t,k=Sum.inl i∧v=Value.int i t)∨(∃ x t,k=Sum.inr x∧v=Value.str x t)
 | .inl i,v,h=>by
  obtain⟨t,e⟩:=Value.isInt_shape (k:=i) (v:=v) h
  exact .inl ⟨i,t,rfl,e⟩
 | .inr x,v,h=>by
  obtain⟨t,e⟩:=Value.isStrOf_shape (x:=x) (v:=v) h
  exact .inr ⟨x,t,rfl,e⟩
theorem zbR (i:Int) (t:Tok):Uc (.inl i) (.int i t)=true:=by simp [Uc,Value.isInt]
theorem zbq (x:Str) (t:Tok):Uc (.inr x) (.str x t)=true:=by simp [Uc,Value.isStrOf]
theorem zer (a b:Int):decide ((Sum.inl a:Key)=Sum.inl b)=(a == b):=by
 by_cases e:a=b
 ·subst e;simp
 ·have h:¬ (Sum.inl a:Key)=Sum.inl b:=fun q=>e (Sum.inl.inj q)
  rw [decide_eq_false h]
  exact (beq_eq_false_iff_ne.mpr e).symm
theorem zei (a b:Str):decide ((Sum.inr a:Key)=Sum.inr b)=decide (a=b):=by
 by_cases e:a=b
 ·subst e;simp
 ·have h:¬ (Sum.inr a:Key)=Sum.inr b:=fun q=>e (Sum.inr.inj q)
  rw [decide_eq_false h,decide_eq_false e]
theorem zek (a:Int) (b:Str):decide ((Sum.inl a:Key)=Sum.inr b)=false:=decide_eq_false (fun q=>nomatch q)
theorem zeO (a:Str) (b:Int):decide ((Sum.inr a:Key)=Sum.inl b)=false:=decide_eq_false (fun q=>nomatch q)
def zW (prog:Program) (w:World):PySem.KeyKind prog w Key where
 is:=Uc
 hash:=zfQ w
 inj:=fun v a b ha hb=>by
  rcases yZ ha with ⟨i,t,rfl,rfl⟩ | ⟨x,t,rfl,rfl⟩
  ·rcases yZ hb with ⟨j,u,rfl,e⟩ | ⟨y,u,rfl,e⟩
   ·injection e with e1 _;rw [e1]
   ·exact nomatch e
  ·rcases yZ hb with ⟨j,u,rfl,e⟩ | ⟨y,u,rfl,e⟩
   ·exact nomatch e
   ·injection e with e1 _;rw [e1]
 byValue:=fun k v h=>by
  rcases yZ h with ⟨i,t,rfl,rfl⟩ | ⟨x,t,rfl,rfl⟩<;>rfl
 pyHash:=fun hv h=>by
  rcases yZ hv with ⟨i,t,rfl,rfl⟩ | ⟨x,t,rfl,rfl⟩
  ·exact wpAny_pyHash_int h
  ·exact wpAny_pyHash_str h
 eqBool:=fun hu hv h=>by
  rcases yZ hu with ⟨i,t,rfl,rfl⟩ | ⟨x,t,rfl,rfl⟩
  ·rcases yZ hv with ⟨j,u,rfl,rfl⟩ | ⟨y,u,rfl,rfl⟩
   ·rw [zer] at h;exact wpAny_eqBool_int h
   ·rw [zek] at h;exact SeqAt.EqAt.int_str i t y u _ _ _ _ h
  ·rcases yZ hv with ⟨j,u,rfl,rfl⟩ | ⟨y,u,rfl,rfl⟩
   ·rw [zeO] at h;exact SeqAt.EqAt.str_int x t j u _ _ _ _ h
   ·rw [zei] at h;exact wpAny_eqBool_str h
 «strs»:=fun k x t v h=>by
  rcases yZ h with ⟨i,u,rfl,e⟩ | ⟨y,u,rfl,e⟩
  ·exact nomatch e
  ·injection e with e1 _
   subst e1
   cases v<;>rfl
theorem Ja (prog:Program) (w:World) (i:Int) (t:Tok):(zW prog w).is (.inl i) (.int i t)=true:=zbR i t
theorem Jp (prog:Program) (w:World) (x:Str) (t:Tok):(zW prog w).is (.inr x) (.str x t)=true:=zbq x t
inductive V where
 | non | bl (b:Bool) | int (i:Int) | str (x:Str) | byt (b:Array UInt8) | flt (b:UInt64) | ref (a:Addr) | ty (n:String)
 deriving DecidableEq
def RelV:V->Value->Prop
 | .non,u=>u=Value.none
 | .bl b,u=>u=Value.bool b
 | .int i,u=>∃ t,u=Value.int i t
 | .str x,u=>∃ t,u=Value.str x t
 | .byt b,u=>∃ t,u=Value.bytes b t
 | .flt b,u=>∃ t,u=Value.float b t
 | .ref a,u=>u=Value.ref a
 | .ty n,u=>u=Value.type n
abbrev Vals:List V->List Value->Prop:=Paired RelV
theorem Vals.length {xs:List V} {us:List Value} (r:Vals xs us):xs.length=us.length:=Paired.length r
theorem Vals.get:∀ {xs:List V} {us:List Value} {i:Nat} {x:V},Vals xs us->xs[i]?=some x->∃ u,us[i]?=some u∧RelV x u
 | _,_,_,_,.nil,e=>by simp at e
 | _,_,0,_,.cons r _,e=>by simp at e;subst e;exact⟨_,rfl,r⟩
 | _,_,i+1,x,.cons _ t,e=>by
  obtain⟨u,h1,h2⟩:=Vals.get (i:=i) (x:=x) t (by simpa using e)
  exact⟨u,by simpa using h1,h2⟩
theorem Vals.set {x:V} {u:Value} (r:RelV x u):∀ {xs:List V} {us:List Value} (i:Nat),Vals xs us->Vals (xs.set i x) (us.set i u)
 | _,_,_,.nil=>.nil
 | _,_,0,.cons _ t=>.cons r t
 | _,_,i+1,.cons q t=>.cons q (Vals.set r i t)
theorem Vals.append:∀ {xs ys:List V} {us ws:List Value},Vals xs us->Vals ys ws->Vals (xs++ys) (us++ws)
 | _,_,_,_,.nil,s=>s
 | _,_,_,_,.cons r t,s=>.cons r (Vals.append t s)
theorem Vals.take:∀ {xs:List V} {us:List Value} (n:Nat),Vals xs us->Vals (xs.take n) (us.take n)
 | _,_,0,_=>.nil
 | _,_,_+1,.nil=>.nil
 | _,_,n+1,.cons r t=>.cons r (Vals.take n t)
theorem Vals.drop:∀ {xs:List V} {us:List Value} (n:Nat),Vals xs us->Vals (xs.drop n) (us.drop n)
 | _,_,0,r=>r
 | _,_,_+1,.nil=>.nil
 | _,_,n+1,.cons _ t=>Vals.drop n t
theorem Vals.none_of:∀ {xs:List V} {us:List Value} {i:Nat},Vals xs us->xs[i]?=none->us[i]?=none:=fun {xs us i} r e=>by
 have h1:=r.length
 have h2:xs.length≤i:=List.getElem?_eq_none_iff.mp e
 exact List.getElem?_eq_none_iff.mpr (by omega)
def RelO:Option V->Option Value->Prop
 | some v,some u=>RelV v u
 | none,none=>True
 | _,_=>False
def KV {κ:Type}:List (κ×V)->List (κ×Value)->Prop:=Paired fun (p:κ×V) (q:κ×Value)=>p.1=q.1∧RelV p.2 q.2
def kV:Key->V
 | .inl i=>.int i
 | .inr x=>.str x
inductive HO where
 | lst (xs:List V)
 | tup (xs:List V)
 | dK (kvs:List (Key×V)) | dT (kvs:List (List Key×V))
 | set (S:Int->Bool) (n:Nat)
 | ins (C dx:Addr) (fs:List (Str×V))
 | own (x:Addr)
 | xd (fs:List (Str×V))
 | met (f x:Addr)
 | rng (lo hi:Int)
 | frz (o:Obj) (u:HO)
 | tbl (ps:Array Value)
 | ext (φ:Heap->Prop)
abbrev Hp:=Addr->Option HO
def upd (H:Hp) (a:Addr) (o:HO):Hp:=fun b=>if b=a then some o else H b
theorem zg {H:Hp} {a:Addr} {o:HO}:upd H a o a=some o:=by unfold upd;rw [if_pos rfl]
theorem zu {H:Hp} {a b:Addr} {o:HO} (h:b≠a):upd H a o b=H b:=by unfold upd;rw [if_neg h]
theorem zdY {H:Hp} {a:Addr} {o u:HO}:upd (upd H a o) a u=upd H a u:=by
 funext b;unfold upd;split<;>rfl
theorem Yb {H:Hp} {a b:Addr} {o u:HO} (h:H a=some o) (h':H b=some u) (d:o≠u):a≠b:=by
 intro e;subst e;rw [h] at h';exact d (Option.some.inj h')
theorem zy {H:Hp} {a b:Addr} {o:HO} (h:H a=some o) (h':H b=none):a≠b:=by
 intro e;subst e;rw [h] at h';cases h'
section
variable (P:Program) (w:World)
def ObjOk (H:Hp) (h:Heap) (a:Addr):HO->Prop
 | .lst xs=>xs.length≤sizeLine∧∃ (its:List Value) (n:Nat),Vals xs its∧h.get? a=some { cls:=.type "list",data:=.seq its.toArray n }
 | .tup xs=>xs.length≤sizeLine∧∃ its:List Value,Vals xs its∧IsTup h a its.toArray
 | .dK kvs=>kvs.length≤sizeLine∧(a == sysModules)=false∧∃ vs,KV kvs vs∧h.DictOf (zW P w) a vs
 | .dT kvs=>kvs.length≤sizeLine∧(a == sysModules)=false∧∃ xs:List (List Key×Addr×Value),
   Paired (fun (p:List Key×V) (q:List Key×Addr×Value)=>p.1=q.1∧H q.2.1=some (.tup (p.1.map kV))∧RelV p.2 q.2.2) kvs xs ∧
   ∃ o es ep,h.get? a=some o∧o.ExactDict∧o.data=.dict es ep∧es.toList=xs.map (entryOfKey (tupleKind (zW P w)))∧(xs.map (·.1)).Nodup
 | .set S n=>h.SetOf (intKind P w) a S n
 | .ins C dx fs=>H dx=some (.own a)∧fs.length≤1000∧dx≠a∧h.get? a=some (PySem.W.instObj C dx) ∧
   ∃ mA,h.Ns1 dx mA∧(∀ f,RelO (fs.lookup f) (mA f))∧PySem.Within mA (fs.map (·.1))
 | .own _=>∃ o,h.get? a=some o
 | .xd fs=>∃ mA,h.Ns1 a mA∧∀ f,RelO (fs.lookup f) (mA f)
 | .rng lo hi=>∃ t u v,h.get? a=some { cls:=.type "range",data:=.fields #[.int lo t,.int hi u,.int 1 v] }
 | .frz o u=>h.get? a=some o∧ObjOk H h a u
 | .tbl ps=>h.get? a=some { cls:=.none,data:=.fields ps }
 | .met f x=>h.get? a=some (PySem.W.methodObj (.ref f) (.ref x))
 | .ext φ=>φ h∧(∃ o,h.get? a=some o)∧∀ h1 h2:Heap,φ h1->(∀ o,h1.get? a=some o->h2.get? a=some o)->φ h2
def HOk (H:Hp) (h:Heap):Prop:=∀ a o,H a=some o->ObjOk P w H h a o
end
section
variable {P:Program} {w:World} {H H':Hp} {h h':Heap} {a:Addr} {o:HO}
theorem ObjOk.lt (x:ObjOk P w H h a o):a<h.objs.size:=by
 cases o with
 | lst xs=>obtain⟨_,_,_,_,e⟩:=x;exact Heap.lt_size e
 | tup xs=>obtain⟨_,_,_,p⟩:=x;exact p.lt
 | dK kvs=>obtain⟨_,_,_,_,o,_,_,e,_⟩:=x;exact Heap.lt_size e
 | dT kvs=>obtain⟨_,_,_,_,o,_,_,e,_⟩:=x;exact Heap.lt_size e
 | set S n=>obtain⟨o,_,_,_,e,_⟩:=x;exact Heap.lt_size e
 | ins C dx fs=>obtain⟨_,_,_,e,_⟩:=x;exact Heap.lt_size e
 | own y=>obtain⟨_,e⟩:=x;exact Heap.lt_size e
 | xd fs=>obtain⟨_,⟨_,_,_,e,_⟩,_⟩:=x;exact Heap.lt_size e
 | rng lo hi=>obtain⟨_,_,_,e⟩:=x;exact Heap.lt_size e
 | frz ob u=>obtain⟨e,_⟩:=x;exact Heap.lt_size e
 | tbl ps=>exact Heap.lt_size (show h.get? a=some _ from x)
 | met f y=>exact Heap.lt_size (show h.get? a=some _ from x)
 | ext φ=>obtain⟨_,⟨_,e⟩,_⟩:=x;exact Heap.lt_size e
theorem Paired.mapP {α β:Type} {F G:α->β->Prop}:∀ {l₁:List α} {l₂:List β},Paired F l₁ l₂->(∀ a b,F a b->G a b)->Paired G l₁ l₂
 | _,_,.nil,_=>.nil
 | _,_,.cons r t,f=>.cons (f _ _ r) (Paired.mapP t f)
theorem ObjOk.stay (x:ObjOk P w H h a o) (k:∀ b u,(b=a∨H b=some (.own a))->h.get? b=some u->h'.get? b=some u)
  (ho:∀ b,H b=some (.own a)->H' b=some (.own a)) (ht:∀ b xs,H b=some (.tup xs)->H' b=some (.tup xs)):ObjOk P w H' h' a o:=by
 induction o with
 | lst xs=>obtain⟨z,its,n,r,e⟩:=x;exact⟨z,its,n,r,k _ _ (.inl rfl) e⟩
 | tup xs=>obtain⟨z,its,r,ob,e,c⟩:=x;exact⟨z,its,r,ob,k _ _ (.inl rfl) e,c⟩
 | dK kvs=>obtain⟨z,y,vs,r,ob,es,ep,e,c⟩:=x;exact⟨z,y,vs,r,ob,es,ep,k _ _ (.inl rfl) e,c⟩
 | dT kvs =>
  obtain⟨z,y,xs,r,ob,es,ep,e,c⟩:=x
  exact⟨z,y,xs,Paired.mapP r fun p q z=>⟨z.1,ht _ _ z.2.1,z.2.2⟩,ob,es,ep,k _ _ (.inl rfl) e,c⟩
 | set S n=>obtain⟨ob,es,ep,t,e,c⟩:=x;exact⟨ob,es,ep,t,k _ _ (.inl rfl) e,c⟩
 | ins C dx fs =>
  obtain⟨d,z,ne,e,mA,⟨od,es,ep,e2,c⟩,r⟩:=x
  exact⟨ho _ d,z,ne,k _ _ (.inl rfl) e,mA,⟨od,es,ep,k _ _ (.inr d) e2,c⟩,r⟩
 | own y=>obtain⟨ob,e⟩:=x;exact⟨ob,k _ _ (.inl rfl) e⟩
 | xd fs=>obtain⟨mA,⟨od,es,ep,e,c⟩,r⟩:=x;exact⟨mA,⟨od,es,ep,k _ _ (.inl rfl) e,c⟩,r⟩
 | rng lo hi=>obtain⟨t,u,v,e⟩:=x;exact⟨t,u,v,k _ _ (.inl rfl) e⟩
 | frz ob u ih=>obtain⟨e,q⟩:=x;exact⟨k _ _ (.inl rfl) e,ih q⟩
 | tbl ps =>
  have e:h.get? a=some { cls:=.none,data:=.fields ps }:=x
  show h'.get? a=some { cls:=.none,data:=.fields ps }
  exact k a _ (.inl rfl) e
 | met f y =>
  have e:h.get? a=some (PySem.W.methodObj (.ref f) (.ref y)):=x
  show h'.get? a=some (PySem.W.methodObj (.ref f) (.ref y))
  exact k a _ (.inl rfl) e
 | ext φ=>obtain⟨p,⟨o,e⟩,st⟩:=x;exact⟨st _ _ p fun o q=>k _ _ (.inl rfl) q,⟨o,k _ _ (.inl rfl) e⟩,st⟩
theorem HOk.lt (x:HOk P w H h) (e:H a=some o):a<h.objs.size:=(x a o e).lt
theorem HOk.fresh (x:HOk P w H h) (e:h.objs.size≤a):H a=none:=by
 cases q:H a with
 | none=>rfl
 | some u=>exact absurd (Nat.lt_of_lt_of_le (x.lt q) e) (Nat.lt_irrefl _)
theorem HOk.kept (x:HOk P w H h) (k:∀ b u,h.get? b=some u->h'.get? b=some u):HOk P w H h':=fun a o e =>
 (x a o e).stay (fun b u _ q=>k b u q) (fun _ q=>q) fun _ _ q=>q
theorem HOk.laid (x:HOk P w H h) (k:∀ b u,h.get? b=some u->h'.get? b=some u) (hp:h.objs.size≤a) (new:ObjOk P w (upd H a o) h' a o):HOk P w (upd H a o) h':=fun b u e=>by
 have hn:=x.fresh hp
 by_cases hb:b=a
 ·subst hb;rw [zg] at e;cases e;exact new
 ·rw [zu hb] at e
  exact (x b u e).stay (fun c v _ q=>k c v q) (fun c q=>by rw [zu (zy q hn)];exact q) fun c xs q=>by rw [zu (zy q hn)];exact q
end
def Rd (H:Hp) (a:Addr) (u:HO):Prop:=H a=some u∨∃ o,H a=some (.frz o u)
theorem Rd.of {H:Hp} {a:Addr} {u:HO} (h:H a=some u):Rd H a u:=.inl h
theorem Rd.ok {P:Program} {w:World} {H:Hp} {h:Heap} {a:Addr} {u:HO} (r:Rd H a u) (x:HOk P w H h):ObjOk P w H h a u:=by
 rcases r with r | ⟨o,r⟩
 ·exact x a u r
 ·obtain⟨_,q⟩:=x a _ r
  exact q
def Mut:Option HO->Prop
 | some (.lst _)=>True
 | some (.dK _)=>True
 | some (.dT _)=>True
 | some (.set _ _)=>True
 | some (.ins _ _ _)=>True
 | some (.ext _)=>True
 | _=>False
section
variable {P:Program} {w:World} {H:Hp} {h h':Heap} {x e:Addr} {o':HO}
theorem HOk.write (ok:HOk P w H h) (mu:Mut (H x)) (he:e=x∨H e=some (.own x)) (k:∀ b u,b≠e->h.get? b=some u->h'.get? b=some u) (heo:∃ u,h'.get? e=some u)
  (new:ObjOk P w (upd H x o') h' x o'):HOk P w (upd H x o') h':=fun b u q=>by
 have nown:∀ c y,H c=some (.own y)->c≠x:=fun c y r z=>by subst z;rw [r] at mu;exact mu
 have ntup:∀ c xs,H c=some (.tup xs)->c≠x:=fun c xs r z=>by subst z;rw [r] at mu;exact mu
 by_cases hb:b=x
 ·subst hb;rw [zg] at q;cases q;exact new
 ·rw [zu hb] at q
  by_cases hbe:b=e
  ·have q':H b=some (.own x):=by
    rcases he with z | z
    ·exact absurd (hbe.trans z) hb
    ·rw [hbe];exact z
   rw [q] at q';cases q'
   obtain⟨v,hv⟩:=heo
   exact⟨v,by rw [hbe];exact hv⟩
  ·refine (ok b u q).stay (fun c v hc r=>k c v ?_ r) (fun c r=>by rw [zu (nown c b r)];exact r) fun c xs r=>by rw [zu (ntup c xs r)];exact r
   rcases hc with rfl | hc
   ·exact hbe
   ·rintro rfl
    rcases he with z | z
    ·exact nown c b hc z
    ·rw [hc] at z;cases z;exact hb rfl
end
structure Un (fs ex:List Addr) (H H':Hp) (h h':Heap):Prop where
 keep:∀ b o,h.get? b=some o->H b=none->b∉fs->b∉ex->h'.get? b=some o
 slot:∀ b o,h.get? b=some o->H b=none->b∈fs->b∉ex->∃ sl,h'.get? b=some { o with slots:=sl }
 free:∀ b o,h.get? b=some o->H b=none->b∉ex->H' b=none
 there:∀ b o,h.get? b=some o->b∉ex->∃ o',h'.get? b=some o'
 tups:∀ b xs,H b=some (.tup xs)->H' b=some (.tup xs)
 frzs:∀ b o u,H b=some (.frz o u)->H' b=some (.frz o u)
 tbls:∀ b ps,H b=some (.tbl ps)->∃ more,H' b=some (.tbl (ps++more))
section
variable {fs fs' ex ex':List Addr} {H H1 H2:Hp} {h h1 h2 h':Heap} {a x e:Addr} {o:HO}
theorem Un.any (u:Un fs ex H H1 h h1) {b:Addr} {ob:Obj} (q:h.get? b=some ob) (n:H b=none) (hx:b∉ex):∃ sl,h1.get? b=some { ob with slots:=sl }:=by
 by_cases hb:b∈fs
 ·exact u.slot b ob q n hb hx
 ·exact⟨ob.slots,u.keep b ob q n hb hx⟩
theorem Un.trans (a:Un fs ex H H1 h h1) (b:Un fs ex H1 H2 h1 h2):Un fs ex H H2 h h2 where
 keep:=fun c ob q n hc hx=>b.keep c ob (a.keep c ob q n hc hx) (a.free c ob q n hx) hc hx
 slot:=fun c ob q n hc hx=>by
  obtain⟨sl,e1⟩:=a.slot c ob q n hc hx
  obtain⟨sl',e2⟩:=b.slot c _ e1 (a.free c ob q n hx) hc hx
  exact⟨sl',e2⟩
 free:=fun c ob q n hx=>by
  obtain⟨o',e1⟩:=a.there c ob q hx
  exact b.free c o' e1 (a.free c ob q n hx) hx
 there:=fun c ob q hx=>by
  obtain⟨o',e1⟩:=a.there c ob q hx
  exact b.there c o' e1 hx
 tups:=fun c xs q=>b.tups c xs (a.tups c xs q)
 frzs:=fun c ob xs q=>b.frzs c ob xs (a.frzs c ob xs q)
 tbls:=fun c ps q=>by
  obtain⟨m1,e1⟩:=a.tbls c ps q
  obtain⟨m2,e2⟩:=b.tbls c _ e1
  exact⟨m1++m2,by rw [e2,Array.append_assoc]⟩
theorem Un.kept (k:∀ b u,h.get? b=some u->h'.get? b=some u):Un fs ex H H h h' :=
 ⟨fun b ob q _ _ _=>k b ob q,fun b ob q _ _ _=>⟨ob.slots,k b ob q⟩,fun _ _ _ n _=>n,fun b ob q _=>⟨ob,k b ob q⟩,fun _ _ q=>q,fun _ _ _ q=>q,fun _ ps q=>⟨#[],by rw [q];simp⟩⟩
theorem Un.refl:Un fs ex H H h h:=Un.kept fun _ _ q=>q
theorem Un.laid (k:∀ b u,h.get? b=some u->h'.get? b=some u) (hp:h.objs.size≤a) (hn:H a=none):Un fs ex H (upd H a o) h h' where
 keep:=fun b u q _ _ _=>k b u q
 slot:=fun b u q _ _ _=>⟨u.slots,k b u q⟩
 free:=fun b u q n _=>by rw [zu (Nat.ne_of_lt (Nat.lt_of_lt_of_le (Heap.lt_size q) hp))];exact n
 there:=fun b u q _=>⟨u,k b u q⟩
 tups:=fun b xs q=>by rw [zu (zy q hn)];exact q
 frzs:=fun b u xs q=>by rw [zu (zy q hn)];exact q
 tbls:=fun b ps q=>⟨#[],by rw [zu (zy q hn),q];simp⟩
theorem Un.write (mu:Mut (H x)) (he:e=x∨H e=some (.own x)) (k:∀ b u,b≠e->h.get? b=some u->h'.get? b=some u) (heo:∃ u,h'.get? e=some u):Un fs ex H (upd H x o) h h':=by
 have hx:∀ b,H b=none->b≠x:=fun b n z=>by subst z;rw [n] at mu;exact mu
 have hb:∀ b,H b=none->b≠e:=fun b n z=>by
  subst z
  rcases he with r | r
  ·exact hx b n r
  ·rw [n] at r;cases r
 have hm:∀ b u,H b=some u->¬ Mut (some u)->b≠x:=fun b u q nm z=>by subst z;rw [q] at mu;exact nm mu
 refine⟨fun b u q n _ _=>k b u (hb b n) q,fun b u q n _ _=>⟨u.slots,k b u (hb b n) q⟩,fun b u q n _=>by rw [zu (hx b n)];exact n,fun b u q _=>?_,
  fun b xs q=>by rw [zu (hm b _ q fun z=>z)];exact q,fun b u xs q=>by rw [zu (hm b _ q fun z=>z)];exact q,fun b ps q=>⟨#[],by rw [zu (hm b _ q fun z=>z),q];simp⟩⟩
 by_cases hbe:b=e
 ·subst hbe;exact heo
 ·exact⟨u,k b u hbe q⟩
theorem Un.mono (u:Un fs ex H H1 h h1) (hs:∀ b∈fs,b∈fs') (hx:∀ b∈ex,b∈ex'):Un fs' ex' H H1 h h1 :=
 ⟨fun b ob q n hb he=>u.keep b ob q n (fun z=>hb (hs b z)) fun z=>he (hx b z),fun _ _ q n _ he=>u.any q n fun z=>he (hx _ z),fun b ob q n he=>u.free b ob q n fun z=>he (hx b z),fun b ob q he=>u.there b ob q fun z=>he (hx b z),u.tups,u.frzs,u.tbls⟩
end
def trk (h:Heap) (H:Hp):List Addr:=(List.range h.objs.size).filter fun a=>(H a).isSome
def V1 (h:Heap) (H:Hp):Heap:=PySem.W.hideAll h (trk h H)
theorem zbL (h:Heap) (H:Hp):(V1 h H).objs.size=h.objs.size:=PySem.W.hideAll_size _ _
theorem zb7 {h:Heap} {H:Hp} {b:Addr} {o:Obj} (e:h.get? b=some o) (n:H b=none):(V1 h H).get? b=some o :=
 PySem.W.hideAll_get _ e fun hm=>by
  have q:(H b).isSome=true:=(List.mem_filter.mp hm).2
  rw [n] at q;simp at q
theorem zdC {h:Heap} {H:Hp} {b:Addr} {o:Obj} (e:(V1 h H).get? b=some o):h.get? b=some o∧H b=none:=by
 have e':h.get? b=some o:=PySem.W.of_hideAll (trk h H) e
 refine⟨e',?_⟩
 cases q:H b with
 | none=>rfl
 | some x =>
  have hm:b∈trk h H:=List.mem_filter.mpr ⟨List.mem_range.mpr (Heap.lt_size e'),by simp [q]⟩
  have z:(V1 h H).get? b=none:=PySem.W.hideAll_none (trk h H) hm
  rw [z] at e;cases e
def zdz (g h:Heap) (L:Addr):List (Addr×Obj):=(List.range h.objs.size).filterMap fun a=>if a=L∨(g.get? a).isSome=true then none else (h.get? a).map fun o=>(a,o)
def rest (g h:Heap) (L d:Addr):List (Addr×Obj):=(zdz g h L).filter fun p=>decide (p.1≠d)
structure Mod (K:PySem.W.Frag) (mg:Str->Option Value) (base:Heap):Prop where
 kin:K.In base
 glob:base.Ns mainGlobals mg
 blt:∃ mb,base.Ns builtinsNs mb∧∀ x:Str,x ≠ "__name__"->mb x=bootBuiltins x
 nolimit:base.NoLimit
structure Cx where
 prog:Program
 w:World
 K:PySem.W.Frag
 mg:Str->Option Value
 base:Heap
 A:Around
 N:List Str
 s₀:Shared
 H₀:Hp
 env:Env
 outer:List Env
 stack:List Env
 ex:List Addr
 fn:Str->Bool
 calm:Bool
 pn:List (Addr×Obj)
 xe:Value->Shared->Prop
def frs (l:List Env):List Addr:=l.filterMap (·.frame)
abbrev Cx.fs (X:Cx):List Addr:=frs X.outer
def Vis (sc:Scope) (x:Str):Prop:=sc.names.lookup x=some .local∨sc.names.lookup x=some .cell∨sc.names.lookup x=some .free
def Loc (sc:Scope) (x:Str):Prop:=sc.names.lookup x=some .local∨sc.names.lookup x=some .cell
def Look (env:Env) (h:Heap) (m:Str->Option Value) (x:Str) (u:Value):Prop :=
 (env.kindOf x=some .local∧m x=some u)∨((env.kindOf x=some .cell∨env.kindOf x=some .free)∧∃ c,env.cells.lookup x=some c∧h.IsCell c (some u))
structure Cx.Ok (X:Cx):Prop where
 mod:Mod X.K X.mg X.base
 kind:X.env.scope.kind=.function
 glob:X.env.globals=mainGlobals
 blt:X.env.builtins=builtinsNs
 above:X.s₀.heap.objs.size≤X.env.locals
 inj:∀ x y c,X.env.cells.lookup x=some c->X.env.cells.lookup y=some c->x=y
 has:∀ x,(X.env.kindOf x=some .cell∨X.env.kindOf x=some .free)->∃ c,X.env.cells.lookup x=some c
 cab:∀ x c,X.fn x=true->X.env.cells.lookup x=some c->X.s₀.heap.objs.size≤c
 hd:X.calm=true->X.A.handled=none
 frames:X.A.frames=some X.stack
 stk:X.stack=X.outer∨(X.stack=X.env :: X.outer∧X.env.frame=some X.env.locals)
 exf:∀ b∈X.ex,b≠X.env.locals∧∀ x c,X.env.cells.lookup x=some c->c≠b
 bs:∀ b o,X.base.get? b=some o->X.s₀.heap.get? b=some o∧X.H₀ b=none
 bsz:X.base.objs.size≤X.s₀.heap.objs.size
 noex:∀ b o,X.base.get? b=some o->b∉X.ex
 exfs:∀ b∈X.ex,b∉X.fs
 funs:X.s₀.heap.FunFrames X.base X.outer
 frf:∀ b∈X.fs,X.H₀ b=none
structure Inv (X:Cx) (pins:List (Addr×Obj)) (σ:List (Option V)) (H:Hp) (s:Shared):Prop where
 ok:X.Ok
 os:s.os=X.s₀.os
 bare:AllBare s.gens
 base:Un X.fs X.ex X.H₀ H X.s₀.heap s.heap
 loc:∃ m,s.heap.Ns X.env.locals m∧∀ (i:Nat) (x:Str) (v:V),X.N[i]?=some x->σ[i]?=some (some v)->Vis X.env.scope x->∃ u,RelV v u∧Look X.env s.heap m x u
 cell:∀ x c,X.env.cells.lookup x=some c->∃ v,s.heap.IsCell c v
 free:H X.env.locals=none
 freeC:∀ x c,X.env.cells.lookup x=some c->H c=none
 pin:∀ p∈X.pn++pins,s.heap.get? p.1=some p.2∧H p.1=none∧p.1≠X.env.locals∧p.1∉X.fs∧∀ v,p.2.data≠.cell v
 hok:HOk X.prog X.w H s.heap
 len:σ.length=X.N.length
section
variable {X:Cx} {pins:List (Addr×Obj)} {σ:List (Option V)} {H H':Hp} {s:Shared} {h':Heap}
theorem Cx.Ok.nofr (ok:X.Ok) {b:Addr} {o:Obj} (e:X.base.get? b=some o):b∉X.fs:=fun hb=>by
 have:=(ok.funs.mem hb).1
 rw [e] at this;cases this
theorem Inv.bs (I:Inv X pins σ H s):∀ b o,X.base.get? b=some o->s.heap.get? b=some o∧H b=none:=fun b o e =>
 ⟨I.base.keep b o (I.ok.bs b o e).1 (I.ok.bs b o e).2 (I.ok.nofr e) (I.ok.noex b o e),I.base.free b o (I.ok.bs b o e).1 (I.ok.bs b o e).2 (I.ok.noex b o e)⟩
theorem Inv.bk (I:Inv X pins σ H s):∀ b o,X.base.get? b=some o->s.heap.get? b=some o:=fun b o e=>(I.bs b o e).1
theorem Inv.mod (I:Inv X pins σ H s):Mod X.K X.mg X.base:=I.ok.mod
theorem Inv.kIn (I:Inv X pins σ H s):X.K.In s.heap:=I.ok.mod.kin.keeps I.bk
theorem Inv.nolimit (I:Inv X pins σ H s):s.heap.NoLimit:=I.ok.mod.nolimit.keeps I.bk
theorem Inv.fr (I:Inv X pins σ H s):∃ m,Fr X.base X.env.locals s.heap m :=
 let ⟨m,hn,_⟩:=I.loc
 ⟨m,hn,I.bk,Nat.le_trans I.ok.bsz I.ok.above⟩
theorem Inv.lt (I:Inv X pins σ H s):X.env.locals<s.heap.objs.size:=let ⟨_,hn,_⟩:=I.loc;hn.lt
theorem Inv.sz (I:Inv X pins σ H s):X.s₀.heap.objs.size≤s.heap.objs.size:=Nat.le_trans I.ok.above (Nat.le_of_lt I.lt)
theorem Inv.nofs (I:Inv X pins σ H s) {a:Addr} (h:s.heap.objs.size≤a):a∉X.fs:=fun hb=>by
 obtain⟨_,o,ho,_⟩:=I.ok.funs.mem hb
 exact absurd (Nat.lt_of_lt_of_le (Heap.lt_size ho) (Nat.le_trans I.sz h)) (Nat.lt_irrefl _)
theorem Inv.cne (I:Inv X pins σ H s):∀ x c,X.env.cells.lookup x=some c->c≠X.env.locals:=fun x c e z=>by
 obtain⟨v,o,ho,hd⟩:=I.cell x c e
 obtain⟨m,⟨o',es,ep,ho',hd',_⟩,_⟩:=I.loc
 rw [z,ho'] at ho;cases ho;rw [hd'] at hd;cases hd
theorem Inv.funs (I:Inv X pins σ H s):s.heap.FunFrames X.base X.outer:=by
 have all:∀ (l:List Env),(∀ b∈frs l,b∈X.fs)->X.s₀.heap.FunFrames X.base l->s.heap.FunFrames X.base l:=by
  intro l
  induction l with
  | nil=>intro _ _;trivial
  | cons env r ih =>
   intro hs hl
   obtain⟨hk,⟨L,o,hf,hn,ho,hd⟩,hr⟩:=hl
   have hL:L∈X.fs:=hs L (by unfold frs;rw [List.filterMap_cons,hf];exact List.mem_cons_self)
   obtain⟨sl,e⟩:=I.base.slot L o ho (I.ok.frf L hL) hL fun z=>I.ok.exfs L z hL
   exact⟨hk,⟨L,_,hf,hn,e,hd⟩,ih (fun b hb=>hs b (by unfold frs;rw [List.filterMap_cons,hf];exact List.mem_cons_of_mem _ hb)) hr⟩
 exact all X.outer (fun _ hb=>hb) I.ok.funs
theorem Inv.stack (I:Inv X pins σ H s):s.heap.FunFrames X.base X.stack:=by
 rcases I.ok.stk with e | ⟨e,hf⟩
 ·rw [e];exact I.funs
 ·rw [e]
  obtain⟨m,hn,_⟩:=I.loc
  refine .cons (by rw [I.ok.kind];decide) hf hn ?_ I.funs
  exact Heap.get?_none_of_le (Nat.le_trans I.ok.bsz I.ok.above)
theorem Inv.stkSub (I:Inv X pins σ H s):∀ b∈frs X.stack,b∈X.env.locals :: X.fs:=fun b hb=>by
 rcases I.ok.stk with e | ⟨e,hf⟩
 ·rw [e] at hb;exact List.mem_cons_of_mem _ hb
 ·rw [e] at hb
  unfold frs at hb
  rw [List.filterMap_cons,hf] at hb
  exact hb
theorem Inv.stkFree (I:Inv X pins σ H s):∀ b∈frs X.stack,H b=none:=fun b hb=>by
 rcases List.mem_cons.mp (I.stkSub b hb) with e | hb
 ·rw [e];exact I.free
 ·obtain⟨_,o,ho,_⟩:=I.ok.funs.mem hb
  exact I.base.free b o ho (I.ok.frf b hb) fun z=>I.ok.exfs b z hb
theorem Inv.step {g':Array GenState} {t':Nat} {d':Drawn} {ch:List Addr} (I:Inv X pins σ H s)
  (hch:∀ b∈ch,(b∈X.ex∨X.s₀.heap.objs.size≤b)∧b≠X.env.locals∧(∀ x c,X.env.cells.lookup x=some c->c≠b)∧∀ p∈X.pn++pins,p.1≠b)
  (keep:∀ b o,b≠X.env.locals->b∉X.fs->b∉ch->s.heap.get? b=some o->H b=none->h'.get? b=some o)
  (slot:∀ b o,b≠X.env.locals->b∈X.fs->b∉ch->s.heap.get? b=some o->H b=none->∃ sl,h'.get? b=some { o with slots:=sl }) (free:∀ b o,b∉ch->s.heap.get? b=some o->H b=none->H' b=none)
  (there:∀ b o,b∉ch->s.heap.get? b=some o->∃ o',h'.get? b=some o')
  (tups:∀ b xs,H b=some (.tup xs)->H' b=some (.tup xs)) (frzs:∀ b o u,H b=some (.frz o u)->H' b=some (.frz o u)) (tbls:∀ b ps,H b=some (.tbl ps)->∃ more,H' b=some (.tbl (ps++more)))
  (ns:∀ m,s.heap.Ns X.env.locals m->h'.Ns X.env.locals m) (hok:HOk X.prog X.w H' h') (hg:AllBare g') :
  Inv X pins σ H' { s with heap:=h',gens:=g',drawn:=d',toks:=t' }:=by
 have neL:∀ b o,X.s₀.heap.get? b=some o->b≠X.env.locals:=fun b o e=>Nat.ne_of_lt (Nat.lt_of_lt_of_le (Heap.lt_size e) I.ok.above)
 have neC:∀ b o,X.s₀.heap.get? b=some o->b∉X.ex->b∉ch:=fun b o e hx hb=>by
  rcases (hch b hb).1 with z | z
  ·exact hx z
  ·exact absurd (Nat.lt_of_lt_of_le (Heap.lt_size e) z) (Nat.lt_irrefl _)
 have cellK:∀ x c,X.env.cells.lookup x=some c->∀ v,s.heap.IsCell c v->h'.IsCell c v:=fun x c e v ⟨o,ho,hd⟩=>by
  have nch:c∉ch:=fun z=>(hch c z).2.2.1 x c e rfl
  by_cases hc:c∈X.fs
  ·obtain⟨sl,q⟩:=slot c o (I.cne x c e) hc nch ho (I.freeC x c e)
   exact⟨_,q,hd⟩
  ·exact⟨o,keep c o (I.cne x c e) hc nch ho (I.freeC x c e),hd⟩
 refine⟨I.ok,I.os,hg,⟨fun b o e n hb hx=>?_,fun b o e n hb hx=>?_,fun b o e n hx=>?_,fun b o e hx=>?_,fun b xs e=>tups b xs (I.base.tups b xs e),fun b o xs e=>frzs b o xs (I.base.frzs b o xs e),fun b ps e=>?_⟩,?_,fun x c e=>?_,?_,fun x c e=>?_,fun p hp=>?_,hok,I.len⟩
 ·exact keep b o (neL b o e) hb (neC b o e hx) (I.base.keep b o e n hb hx) (I.base.free b o e n hx)
 ·obtain⟨sl,e1⟩:=I.base.slot b o e n hb hx
  obtain⟨sl',e2⟩:=slot b _ (neL b o e) hb (neC b o e hx) e1 (I.base.free b o e n hx)
  exact⟨sl',e2⟩
 ·obtain⟨o',e1⟩:=I.base.there b o e hx
  exact free b o' (neC b o e hx) e1 (I.base.free b o e n hx)
 ·obtain⟨o',e1⟩:=I.base.there b o e hx
  exact there b o' (neC b o e hx) e1
 ·obtain⟨m1,e1⟩:=I.base.tbls b ps e
  obtain⟨m2,e2⟩:=tbls b _ e1
  exact⟨m1++m2,by rw [e2,Array.append_assoc]⟩
 ·obtain⟨m,hn,hl⟩:=I.loc
  refine⟨m,ns m hn,fun i x v e1 e2 e3=>?_⟩
  obtain⟨u,r,l⟩:=hl i x v e1 e2 e3
  refine⟨u,r,?_⟩
  rcases l with l | ⟨k,c,e,z⟩
  ·exact .inl l
  ·exact .inr ⟨k,c,e,cellK x c e _ z⟩
 ·obtain⟨v,z⟩:=I.cell x c e
  exact⟨v,cellK x c e v z⟩
 ·obtain⟨m,⟨o,_,_,ho,_⟩,_⟩:=I.loc
  exact free _ o (fun z=>(hch _ z).2.1 rfl) ho I.free
 ·obtain⟨v,o,ho,hd⟩:=I.cell x c e
  exact free c o (fun z=>(hch c z).2.2.1 x c e rfl) ho (I.freeC x c e)
 ·obtain⟨e,n,ne,nf,d⟩:=I.pin p hp
  have nch:p.1∉ch:=fun z=>(hch p.1 z).2.2.2 p hp rfl
  exact⟨keep p.1 p.2 ne nf nch e n,free p.1 p.2 nch e n,ne,nf,d⟩
theorem Inv.un {t':Nat} (I:Inv X pins σ H s) (u:Un X.fs [] H H' s.heap h') (hok:HOk X.prog X.w H' h'):Inv X pins σ H' { s with heap:=h',toks:=t' }:=by
 obtain⟨m,⟨o,es,ep,ho,r⟩,_⟩:=id I.loc
 obtain⟨sl,hL⟩:=u.any ho I.free (by simp)
 exact I.step (g':=s.gens) (d':=s.drawn) (ch:=[]) (fun _ z=>nomatch z) (fun b o _ hb _ e n=>u.keep b o e n hb (by simp)) (fun b o _ hb _ e n=>u.slot b o e n hb (by simp)) (fun b o _ e n=>u.free b o e n (by simp)) (fun b o _ e=>u.there b o e (by simp)) u.tups u.frzs u.tbls (fun m' hm=>by
  obtain⟨o',es',ep',ho',r'⟩:=hm
  rw [ho] at ho';cases ho'
  exact⟨_,es',ep',hL,r'⟩) hok I.bare
theorem Inv.call {g':Array GenState} {t':Nat} {d':Drawn} {ch:List Addr} (I:Inv X pins σ H s) (u:Un (frs X.stack) ch H H' s.heap h') (hok:HOk X.prog X.w H' h') (hg:AllBare g')
  (hch:∀ b∈ch,(b∈X.ex∨X.s₀.heap.objs.size≤b)∧b≠X.env.locals∧(∀ x c,X.env.cells.lookup x=some c->c≠b)∧∀ p∈X.pn++pins,p.1≠b) :
  Inv X pins σ H' { s with heap:=h',gens:=g',drawn:=d',toks:=t' }:=by
 obtain⟨m,⟨o,es,ep,ho,r⟩,_⟩:=id I.loc
 obtain⟨sl,hL⟩:=u.any ho I.free fun z=>(hch _ z).2.1 rfl
 exact I.step (ch:=ch) hch (fun b o hL hb hc e n=>u.keep b o e n (fun z=>(List.mem_cons.mp (I.stkSub b z)).elim hL hb) hc) (fun b o _ _ hc e n=>u.any e n hc) (fun b o hc e n=>u.free b o e n hc) (fun b o hc e=>u.there b o e hc) u.tups u.frzs u.tbls (fun m' hm=>by
  obtain⟨o',es',ep',ho',r'⟩:=hm
  rw [ho] at ho';cases ho'
  exact⟨_,es',ep',hL,r'⟩) hok hg
theorem Inv.turned {t':Nat} {it:Addr} (I:Inv X pins σ H s) (k:∀ b o,b≠it->s.heap.get? b=some o->h'.get? b=some o) (hn:H it=none) (hL:it≠X.env.locals)
  (h1:it∈X.ex∨X.s₀.heap.objs.size≤it) (h2:∀ x c,X.env.cells.lookup x=some c->c≠it) (h3:∀ p∈X.pn++pins,p.1≠it):Inv X pins σ H { s with heap:=h',toks:=t' }:=by
 have nit:∀ b u,H b=some u->b≠it:=fun b u e z=>by rw [z,hn] at e;cases e
 refine I.step (g':=s.gens) (d':=s.drawn) (ch:=[it]) (fun b hb=>?_) (fun b o _ _ hc e _=>k b o (fun z=>hc (by simp [z])) e) (fun b o _ _ hc e _=>⟨o.slots,k b o (fun z=>hc (by simp [z])) e⟩) (fun _ _ _ _ n=>n)
  (fun b o hc e=>⟨o,k b o (fun z=>hc (by simp [z])) e⟩) (fun _ _ e=>e) (fun _ _ _ e=>e) (fun b ps e=>⟨#[],by rw [e];simp⟩) (fun m hm=>?_) (fun b u e=>?_) I.bare
 ·have e:b=it:=by simpa using hb
  subst e
  exact⟨h1,hL,h2,h3⟩
 ·obtain⟨o,es,ep,ho,r⟩:=hm
  exact⟨o,es,ep,k _ o (Ne.symm hL) ho,r⟩
 ·refine (I.hok b u e).stay (fun c v hc q=>k c v ?_ q) (fun _ q=>q) fun _ _ q=>q
  rcases hc with z | z
  ·rw [z];exact nit b u e
  ·exact nit c _ z
theorem Inv.tok (I:Inv X pins σ H s) (t:Nat):Inv X pins σ H { s with toks:=t }:=I.un (h':=s.heap) (t':=t) Un.refl I.hok
theorem Inv.kept {t':Nat} (I:Inv X pins σ H s) (k:∀ b u,s.heap.get? b=some u->h'.get? b=some u):Inv X pins σ H { s with heap:=h',toks:=t' }:=I.un (Un.kept k) (I.hok.kept k)
theorem Inv.laid {a:Addr} {o:HO} {t':Nat} (I:Inv X pins σ H s) (k:∀ b u,s.heap.get? b=some u->h'.get? b=some u) (hp:s.heap.objs.size≤a) (new:ObjOk X.prog X.w (upd H a o) h' a o) :
  Inv X pins σ (upd H a o) { s with heap:=h',toks:=t' }:=I.un (Un.laid k hp (I.hok.fresh hp)) (I.hok.laid k hp new)
theorem Inv.write {x e:Addr} {o:HO} {t':Nat} (I:Inv X pins σ H s) (mu:Mut (H x)) (he:e=x∨H e=some (.own x)) (k:∀ b u,b≠e->s.heap.get? b=some u->h'.get? b=some u) (heo:∃ u,h'.get? e=some u)
  (new:ObjOk X.prog X.w (upd H x o) h' x o):Inv X pins σ (upd H x o) { s with heap:=h',toks:=t' }:=I.un (Un.write mu he k heo) (I.hok.write mu he k heo new)
theorem Inv.weak {σ':List (Option V)} (I:Inv X pins σ H s) (hl:σ'.length=σ.length) (w:∀ (i:Nat) v,σ'[i]?=some (some v)->σ[i]?=some (some v)):Inv X pins σ' H s :=
 ⟨I.ok,I.os,I.bare,I.base,let ⟨m,hn,hl'⟩:=I.loc;⟨m,hn,fun i x v e1 e2 e3=>hl' i x v e1 (w i v e2) e3⟩,I.cell,I.free,I.freeC,I.pin,I.hok,hl.trans I.len⟩
theorem Inv.pins_of {pins':List (Addr×Obj)} (I:Inv X pins σ H s) (h:∀ p∈pins',s.heap.get? p.1=some p.2∧H p.1=none∧p.1≠X.env.locals∧p.1∉X.fs∧∀ v,p.2.data≠.cell v):Inv X pins' σ H s :=
 ⟨I.ok,I.os,I.bare,I.base,I.loc,I.cell,I.free,I.freeC,fun p hp=>(List.mem_append.mp hp).elim (fun z=>I.pin p (List.mem_append_left _ z)) (h p),I.hok,I.len⟩
theorem Vk {N:List Str} (hN:N.Nodup) {i j:Nat} {x:Str} (a:N[i]?=some x) (b:N[j]?=some x):i=j:=by
 obtain⟨h1,e1⟩:=List.getElem?_eq_some_iff.mp a
 obtain⟨h2,e2⟩:=List.getElem?_eq_some_iff.mp b
 exact (List.getElem_inj hN).mp (e1.trans e2.symm)
theorem XD {M:Model} {A:Around} {E:Value->Shared->Prop} {i:Nat} {x:Str} {v:V} {u:Value} {Q:Unit->Shared->Prop} (I:Inv X pins σ H s) (hN:X.N.Nodup) (hi:X.N[i]?=some x) (hx:Loc X.env.scope x) (r:RelV v u)
  (h:∀ s',Inv X pins (σ.set i (some v)) H s'->(∃ a,Heap.SameBut a s.heap s'.heap∧(a=X.env.locals∨X.env.cells.lookup x=some a))->Q () s') (hf:X.fn x=true∨X.env.scope.names.lookup x=some .local:=by first | exact .inl rfl | exact .inr rfl | assumption):wpAny M A (storeName X.env x u) Q E s:=by
 obtain⟨m,hn,hl⟩:=id I.loc
 have hcls:(X.env.scope.kind == .class || (X.env.scope.kind == .module && X.env.locals != X.env.globals))=false:=by rw [I.ok.kind];rfl
 have hiσ:i<σ.length:=by rw [I.len];exact (List.getElem?_eq_some_iff.mp hi).1
 have cne:=I.cne
 have tracked:∀ {a:Addr} {h':Heap},(∃ o,s.heap.get? a=some o∧H a=none)->Heap.SameBut a s.heap h'->HOk X.prog X.w H h':=fun {a h'} ha hs b ob e=>by
  obtain⟨_,_,hfree⟩:=ha
  refine (I.hok b ob e).stay (fun c w' hc q=>(hs.2 c ?_).trans q) (fun _ q=>q) fun _ _ q=>q
  rintro rfl
  rcases hc with rfl | hc
  ·rw [hfree] at e;cases e
  ·rw [hfree] at hc;cases hc
 rcases hx with hk | hk
 ·refine wpAny_storeName_local hk hn (fun h' hn' hs=>?_) hcls
  obtain⟨oL,_,_,hoL,_⟩:=id hn
  refine h _ ⟨I.ok,I.os,I.bare,⟨fun b o e n hb hx=>?_,fun b o e n hb hx=>?_,I.base.free,fun b o e hx=>?_,I.base.tups,I.base.frzs,I.base.tbls⟩,⟨_,hn',fun j y v' e1 e2 e3=>?_⟩,fun y c e=>?_,I.free,I.freeC,fun p hp=>?_,tracked ⟨oL,hoL,I.free⟩ hs,by simpa using I.len⟩ ⟨_,hs,.inl rfl⟩
  ·exact (hs.2 b (Nat.ne_of_lt (Nat.lt_of_lt_of_le (Heap.lt_size e) I.ok.above))).trans (I.base.keep b o e n hb hx)
  ·obtain⟨sl,e1⟩:=I.base.slot b o e n hb hx
   exact⟨sl,(hs.2 b (Nat.ne_of_lt (Nat.lt_of_lt_of_le (Heap.lt_size e) I.ok.above))).trans e1⟩
  ·obtain⟨o',e1⟩:=I.base.there b o e hx
   exact⟨o',(hs.2 b (Nat.ne_of_lt (Nat.lt_of_lt_of_le (Heap.lt_size e) I.ok.above))).trans e1⟩
  ·by_cases hj:j=i
   ·subst hj
    rw [hi] at e1;cases e1
    rw [List.getElem?_set_self hiσ] at e2
    cases e2
    exact⟨u,r,.inl ⟨hk,by simp⟩⟩
   ·rw [List.getElem?_set_ne (Ne.symm hj)] at e2
    obtain⟨u',r',q⟩:=hl j y v' e1 e2 e3
    refine⟨u',r',?_⟩
    rcases q with ⟨k,e⟩ | ⟨k,c,e,z⟩
    ·refine .inl ⟨k,?_⟩
     have:y≠x:=fun e=>hj (Vk hN e1 (e▸hi))
     simp [this,e]
    ·exact .inr ⟨k,c,e,z.sameBut hs (cne y c e)⟩
  ·obtain⟨w',z⟩:=I.cell y c e
   exact⟨w',z.sameBut hs (cne y c e)⟩
  ·obtain⟨e,n,ne,nf,d⟩:=I.pin p hp
   exact⟨(hs.2 p.1 ne).trans e,n,ne,nf,d⟩
 ·have hfn:X.fn x=true:=by
   rcases hf with z | z
   ·exact z
   ·rw [z] at hk;cases hk
  obtain⟨c,hc⟩:=I.ok.has x (.inl hk)
  obtain⟨w',z⟩:=I.cell x c hc
  refine wpAny_storeName_cell I.ok.kind hk hc z (fun h' hc' hs=>?_)
  obtain⟨oc,hoc,hocd⟩:=id z
  refine h { s with heap:=h' } ⟨I.ok,I.os,I.bare,⟨fun b o e n hb hx=>?_,fun b o e n hb hx=>?_,I.base.free,fun b o e hx=>?_,I.base.tups,I.base.frzs,I.base.tbls⟩,⟨m,hn.sameBut hs (Ne.symm (cne x c hc)),fun j y v' e1 e2 e3=>?_⟩,fun y c' e=>?_,I.free,I.freeC,fun p hp=>?_,tracked ⟨oc,hoc,I.freeC x c hc⟩ hs,by simpa using I.len⟩ ⟨c,hs,.inr hc⟩
  ·exact (hs.2 b (Nat.ne_of_lt (Nat.lt_of_lt_of_le (Heap.lt_size e) (I.ok.cab x c hfn hc)))).trans (I.base.keep b o e n hb hx)
  ·obtain⟨sl,e1⟩:=I.base.slot b o e n hb hx
   exact⟨sl,(hs.2 b (Nat.ne_of_lt (Nat.lt_of_lt_of_le (Heap.lt_size e) (I.ok.cab x c hfn hc)))).trans e1⟩
  ·obtain⟨o',e1⟩:=I.base.there b o e hx
   exact⟨o',(hs.2 b (Nat.ne_of_lt (Nat.lt_of_lt_of_le (Heap.lt_size e) (I.ok.cab x c hfn hc)))).trans e1⟩
  ·by_cases hj:j=i
   ·subst hj
    rw [hi] at e1;cases e1
    rw [List.getElem?_set_self hiσ] at e2
    cases e2
    exact⟨u,r,.inr ⟨.inl hk,c,hc,hc'⟩⟩
   ·rw [List.getElem?_set_ne (Ne.symm hj)] at e2
    obtain⟨u',r',q⟩:=hl j y v' e1 e2 e3
    refine⟨u',r',?_⟩
    rcases q with q | ⟨k,c',e,z'⟩
    ·exact .inl q
    ·refine .inr ⟨k,c',e,z'.sameBut hs ?_⟩
     rintro rfl
     exact hj (Vk hN e1 (I.ok.inj _ _ _ e hc▸hi))
  ·by_cases hcc:c'=c
   ·subst hcc;exact⟨_,hc'⟩
   ·obtain⟨w2,z2⟩:=I.cell y c' e
    exact⟨w2,z2.sameBut hs hcc⟩
  ·obtain⟨e,n,ne,nf,d⟩:=I.pin p hp
   refine⟨(hs.2 p.1 ?_).trans e,n,ne,nf,d⟩
   intro q
   rw [q,hoc] at e
   have q':oc=p.2:=Option.some.inj e
   exact d w' (by rw [← q'];exact hocd)
theorem Xc {M:Model} {A:Around} {E:Value->Shared->Prop} {i:Nat} {x:Str} {v:V} {u:Value} {Q:Unit->Shared->Prop} (I:Inv X pins σ H s) (hN:X.N.Nodup) (hi:X.N[i]?=some x) (hx:Loc X.env.scope x) (r:RelV v u)
  (h:∀ s',Inv X pins (σ.set i (some v)) H s'->Q () s') (hf:X.fn x=true∨X.env.scope.names.lookup x=some .local:=by first | exact .inl rfl | exact .inr rfl | assumption):wpAny M A (storeName X.env x u) Q E s :=
 XD I hN hi hx r (fun s' I' _=>h s' I') hf
theorem Inv.call' {s':Shared} {ch:List Addr} (I:Inv X pins σ H s) (ho:s'.os=s.os) (u:Un (frs X.stack) ch H H' s.heap s'.heap) (hok:HOk X.prog X.w H' s'.heap) (hg:AllBare s'.gens)
  (hch:∀ b∈ch,(b∈X.ex∨X.s₀.heap.objs.size≤b)∧b≠X.env.locals∧(∀ x c,X.env.cells.lookup x=some c->c≠b)∧∀ p∈X.pn++pins,p.1≠b):Inv X pins σ H' s':=by
 obtain⟨h',g',d',t',o'⟩:=s'
 have e:o'=s.os:=ho
 subst e
 exact I.call (g':=g') (t':=t') (d':=d') u hok hg hch
end
abbrev XK:=Value->Option Addr->Hp->Prop
abbrev St:=List (Option V)
abbrev VK:=V->Hp->Prop
abbrev TE:=St->Hp->VK->Prop
abbrev TT:=St->Hp->(Bool->Hp->Prop)->Prop
abbrev TA:=St->Hp->(List V->Hp->Prop)->Prop
structure Ends where
 nx:St->Hp->Prop
 rt:VK
 bk:St->Hp->Prop:=fun _ _=>False
 ct:St->Hp->Prop:=fun _ _=>False
abbrev TS:=Ends->St->Hp->Prop
def EP (X:Cx) (pins:List (Addr×Obj)) (σ:St) (Q:VK) (u:Value) (s':Shared):Prop:=∃ v H',Inv X pins σ H' s'∧RelV v u∧Q v H'
def TP (X:Cx) (pins:List (Addr×Obj)) (σ:St) (Q:Bool->Hp->Prop) (b:Bool) (s':Shared):Prop:=∃ H',Inv X pins σ H' s'∧Q b H'
def AP (X:Cx) (pins:List (Addr×Obj)) (σ:St) (Q:List V->Hp->Prop) (us:List Value) (s':Shared):Prop:=∃ vs H',Inv X pins σ H' s'∧Vals vs us∧Q vs H'
def SP (X:Cx) (pins:List (Addr×Obj)) (D:Ends) (f:Flow) (s':Shared):Prop :=
 match f with
 | .next=>∃ σ' H',Inv X pins σ' H' s'∧D.nx σ' H'
 | .brk=>∃ σ' H',Inv X pins σ' H' s'∧D.bk σ' H'
 | .cont=>∃ σ' H',Inv X pins σ' H' s'∧D.ct σ' H'
 | .ret u=>∃ v σ' H',Inv X pins σ' H' s'∧RelV v u∧D.rt v H'
def PE (X:Cx) (e:Expr) (t:TE):Prop :=
 ∀ (pins:List (Addr×Obj)) (s:Shared) (σ:St) (H:Hp) (Q:VK),Inv X pins σ H s->t σ H Q->wpAny (model X.prog X.w) X.A (eval e X.env) (EP X pins σ Q) X.xe s
def PT (X:Cx) (e:Expr) (t:TT):Prop :=
 ∀ (pins:List (Addr×Obj)) (s:Shared) (σ:St) (H:Hp) (Q:Bool->Hp->Prop),Inv X pins σ H s->t σ H Q->wpAny (model X.prog X.w) X.A (isTrue e X.env (eval e X.env)) (TP X pins σ Q) X.xe s
def PW (X:Cx) (e:Expr) (t:TT):Prop :=
 ∀ (whole:Sem Value) (pins:List (Addr×Obj)) (s:Shared) (σ:St) (H:Hp) (Q:Bool->Hp->Prop),Inv X pins σ H s->t σ H Q->wpAny (model X.prog X.w) X.A (isTrue e X.env whole) (TP X pins σ Q) X.xe s
theorem PW.pt {X:Cx} {e:Expr} {t:TT} (h:PW X e t):PT X e t:=h _
def PA (X:Cx) (es:List Expr) (t:TA):Prop :=
 ∀ (pos:Pos) (pins:List (Addr×Obj)) (s:Shared) (σ:St) (H:Hp) (Q:List V->Hp->Prop),Inv X pins σ H s->t σ H Q->wpAny (model X.prog X.w) X.A (spliced (backTo pos (starEach es X.env))) (AP X pins σ Q) X.xe s
def PS (X:Cx) (st:Stmt) (t:TS):Prop :=
 ∀ (pins:List (Addr×Obj)) (s:Shared) (σ:St) (H:Hp) (D:Ends),Inv X pins σ H s->t D σ H->wpAny (model X.prog X.w) X.A (exec st X.env) (SP X pins D) X.xe s
def PSs (X:Cx) (st:List Stmt) (t:TS):Prop :=
 ∀ (pins:List (Addr×Obj)) (s:Shared) (σ:St) (H:Hp) (D:Ends),Inv X pins σ H s->t D σ H->wpAny (model X.prog X.w) X.A (execs st X.env) (SP X pins D) X.xe s
theorem thn {α:Type} {t:Sem α} {Q Q':α->Shared->Prop} {M:Model} {A:Around} {E:Value->Shared->Prop} {s:Shared} (h:wpAny M A t Q E s) (hQ:∀ a s,Q a s->Q' a s):wpAny M A t Q' E s:=wpAny_mono h hQ fun _ _ x=>x
section
variable {X:Cx}
def Yl (i:Nat):TE:=fun σ H Q=>∃ v,σ[i]?=some (some v)∧Q v H
def tC (v:V):TE:=fun _ H Q=>Q v H
theorem zem {i:Nat} {x:Str} {pos:Pos} (hN:X.N[i]?=some x) (hv:Vis X.env.scope x) (hd:(x == ("__debug__" : Str))=false:=by decide) (hcd:(x == ("__classdict__" : Str))=false:=by decide):PE X (.Name x pos) (Yl i):=by
 intro pins s σ H Q I h
 obtain⟨v,e,h⟩:=h
 obtain⟨m,hn,hl⟩:=I.loc
 obtain⟨u,r,l⟩:=hl i x v hN e hv
 have fin:EP X pins σ Q u s:=⟨v,H,I,r,h⟩
 rcases l with ⟨hk,hm⟩ | ⟨hk,c,hc,hcell⟩
 ·exact wpAny_Name (wpAny_loadName_local I.ok.kind hk hn hm fin) hd
 ·rcases hk with hk | hk
  ·exact wpAny_Name (wpAny_loadName_cell I.ok.kind hk hc hcell fin) hd
  ·exact wpAny_Name (wpAny_loadName_free I.ok.kind hk hc hcell fin hcd) hd
theorem zr {i j pos}:PE X (.Constant (.int i) j pos) (tC (.int i)):=fun _ _ _ H _ I h=>wpAny_Constant_int ⟨.int i,H,I.tok _,⟨_,rfl⟩,h⟩
theorem Zt {b j pos}:PE X (.Constant (.bool b) j pos) (tC (.bl b)):=fun _ _ _ H _ I h=>Constant_bool ⟨.bl b,H,I,rfl,h⟩
theorem uo {j pos}:PE X (.Constant .none j pos) (tC .non):=fun _ _ _ H _ I h=>Constant_none ⟨.non,H,I,rfl,h⟩
theorem zeB {x j pos}:PE X (.Constant (.str x) j pos) (tC (.str x)):=fun _ _ _ H _ I h=>Calls.Constant_str ⟨.str x,H,I.tok _,⟨_,rfl⟩,h⟩
def Gl (X:Cx) (x:Str):Prop:=X.env.kindOf x=some .globalImplicit
theorem ZL {E:Value->Shared->Prop} {pins:List (Addr×Obj)} {s:Shared} {σ:St} {H:Hp} {x:Str} {u:Value} {pos:Pos} {Q:Value->Shared->Prop} (I:Inv X pins σ H s) (hg:Gl X x) (hm:X.mg x=some u) (h:Q u s)
  (hd:(x == ("__debug__" : Str))=false:=by decide):wpAny (model X.prog X.w) X.A (eval (.Name x pos) X.env) Q E s :=
 Calls.Name_function_global I.ok.kind hg (Calls.loadGlobal_global (by rw [I.ok.glob];exact I.mod.glob.keeps I.bk) hm h) hd
theorem Yv {E:Value->Shared->Prop} {pins:List (Addr×Obj)} {s:Shared} {σ:St} {H:Hp} {x:Str} {u:Value} {pos:Pos} {Q:Value->Shared->Prop} (I:Inv X pins σ H s) (hg:Gl X x) (hm:X.mg x=none) (hv:bootBuiltins x=some u) (h:Q u s)
  (hn:x ≠ "__name__":=by decide) (hd:(x == ("__debug__" : Str))=false:=by decide):wpAny (model X.prog X.w) X.A (eval (.Name x pos) X.env) Q E s:=by
 obtain⟨mb,h1,h2⟩:=I.mod.blt
 exact Calls.Name_function_global I.ok.kind hg (Calls.loadGlobal_builtin (by rw [I.ok.glob];exact I.mod.glob.keeps I.bk) hm (by rw [I.ok.blt];exact h1.keeps I.bk) ((h2 x hn).trans hv) h) hd
theorem yX {x:Str} {v:V} {u:Value} {pos:Pos} (hg:Gl X x) (hm:X.mg x=some u) (r:RelV v u) (hd:(x == ("__debug__" : Str))=false:=by decide):PE X (.Name x pos) (tC v) :=
 fun _ _ _ H _ I h=>ZL I hg hm ⟨v,H,I,r,h⟩ hd
theorem jg {x:Str} {v:V} {u:Value} {pos:Pos} (hg:Gl X x) (hm:X.mg x=none) (hv:bootBuiltins x=some u) (r:RelV v u) (hn:x ≠ "__name__":=by decide) (hd:(x == ("__debug__" : Str))=false:=by decide):PE X (.Name x pos) (tC v) :=
 fun _ _ _ H _ I h=>Yv I hg hm hv ⟨v,H,I,r,h⟩ hn hd
variable {a b:Expr} {ta tb:TE} {pos:Pos}
def PC (X:Cx) (op:CmpOp) (a b:Expr) (t:TE):Prop :=
 ∀ (pins:List (Addr×Obj)) (s:Shared) (σ:St) (H:Hp) (Q:VK),Inv X pins σ H s->t σ H Q ->
  wpAny (model X.prog X.w) X.A (eval a X.env) (fun v s₁=>wpAny (model X.prog X.w) X.A (eval b X.env) (fun u s₂=>wpAny (model X.prog X.w) X.A (compareOp op v u) (EP X pins σ Q) X.xe s₂) X.xe s₁) X.xe s
theorem zcH (b:Expr) {op:CmpOp} (h:op≠.In) (h2:op≠.NotIn):behindInMarks op b=false:=by
 have e1:(op == CmpOp.In)=false:=by cases op<;>first | rfl | exact absurd rfl h
 have e2:(op == CmpOp.NotIn)=false:=by cases op<;>first | rfl | exact absurd rfl h2
 cases b<;>simp [behindInMarks,e1,e2]
def tB (t:TE):TT:=fun σ H Q=>t σ H fun x H1=>∃ c,x=.bl c∧Q c H1
theorem zeD {op:CmpOp} {t:TE} (h:PC X op a b t) (h1:behindInMarks op b=false:=by first | exact zcH _ (by decide) (by decide) | rfl):PT X (.Compare a [op] [b] pos) (tB t):=by
 intro pins s σ H Q I hw
 refine wpAny_isTrue_Compare1 (thn (h pins s σ H _ I hw) fun v s1 h1=>thn h1 fun u s2 h2=>thn h2 fun c s3 ⟨x,H1,I1,r1,q1⟩=>?_) h1
 obtain⟨d,rfl,q⟩:=q1
 cases r1
 exact wpAny_truthy_bool ⟨H1,I1,q⟩
theorem vq {e:Expr} {t:TE} (h:PE X e t) (he:∀ whole,isTrue e X.env whole=(do let v ← whole;standAt e.pos;holding [v] (truthy v)):=by intro _;rfl):PT X e (tB t):=by
 intro pins s σ H Q I hw
 refine isTrue_plain (thn (h pins s σ H _ I hw) fun v s1 ⟨x,H1,I1,r1,q1⟩=>?_) (he _)
 obtain⟨d,rfl,q⟩:=q1
 cases r1
 exact wpAny_truthy_bool ⟨H1,I1,q⟩
variable {tA tB':TT} {rest:List Expr}
def zfL (t u:TT):TT:=fun σ H Q=>t σ H fun c H1=>if c=true then u σ H1 Q else Q false H1
def tOr (t u:TT):TT:=fun σ H Q=>t σ H fun c H1=>if c=true then Q true H1 else u σ H1 Q
def zf3 (t:TT):TT:=fun σ H Q=>t σ H fun c H1=>Q (!c) H1
theorem YX (ha:PT X a tA):PW X (.BoolOp .And [a] pos) tA:=by
 intro wh pins s σ H Q I h
 refine isTrue_and (thn (ha pins s σ H Q I h) fun c s1 e=>?_)
 cases c with
 | true=>exact isTrue_and_nil e
 | false=>exact e
theorem WT (ha:PT X a tA):PW X (.BoolOp .Or [a] pos) tA:=by
 intro wh pins s σ H Q I h
 refine isTrue_or (thn (ha pins s σ H Q I h) fun c s1 e=>?_)
 cases c with
 | false=>exact isTrue_or_nil e
 | true=>exact e
theorem W3 (ha:PT X a tA) (hb:PW X (.BoolOp .And (b :: rest) pos) tB'):PW X (.BoolOp .And (a :: b :: rest) pos) (zfL tA tB'):=by
 intro wh pins s σ H Q I h
 refine isTrue_and (thn (ha pins s σ H _ I h) fun c s1 ⟨H1,I1,q1⟩=>?_)
 cases c with
 | true=>exact hb wh pins s1 σ H1 Q I1 q1
 | false=>exact⟨H1,I1,q1⟩
theorem WR (ha:PT X a tA) (hb:PW X (.BoolOp .Or (b :: rest) pos) tB'):PW X (.BoolOp .Or (a :: b :: rest) pos) (tOr tA tB'):=by
 intro wh pins s σ H Q I h
 refine isTrue_or (thn (ha pins s σ H _ I h) fun c s1 ⟨H1,I1,q1⟩=>?_)
 cases c with
 | true=>exact⟨H1,I1,q1⟩
 | false=>exact hb wh pins s1 σ H1 Q I1 q1
theorem jO (ha:PT X a tA):PT X (.UnaryOp .Not a pos) (zf3 tA):=by
 intro pins s σ H Q I h
 exact isTrue_not (ha pins s σ H (fun c H1=>Q (!c) H1) I h)
def zfb (ta tb:TE):TE:=fun σ H Q=>ta σ H fun x H1=>∃ c,x=.bl c∧if c=true then tb σ H1 Q else Q (.bl false) H1
def zd7 (ta:TE):TE:=fun σ H Q=>ta σ H fun x H1=>∃ c,x=.bl c∧Q (.bl (!c)) H1
theorem jT {op} {t:TE} (h:PE X a t):PE X (.BoolOp op [a] pos) t:=fun pins s σ H Q I hw=>BoolOp_one (h pins s σ H Q I hw)
theorem jD (ha:PE X a ta) (hb:PE X (.BoolOp .And (b :: rest) pos) tb):PE X (.BoolOp .And (a :: b :: rest) pos) (zfb ta tb):=by
 intro pins s σ H Q I h
 refine BoolOp_and (thn (ha pins s σ H _ I h) fun v s1 ⟨x,H1,I1,r1,q1⟩=>?_)
 obtain⟨c,rfl,q1⟩:=q1
 cases r1
 refine wpAny_truthy_bool ?_
 cases c with
 | true=>exact hb pins s1 σ H1 Q I1 q1
 | false=>exact⟨.bl false,H1,I1,rfl,q1⟩
theorem zai (ha:PE X a ta):PE X (.UnaryOp .Not a pos) (zd7 ta):=by
 intro pins s σ H Q I h
 refine UnaryOp_ (thn (ha pins s σ H _ I h) fun v s1 ⟨x,H1,I1,r1,q1⟩=>?_)
 obtain⟨c,rfl,q1⟩:=q1
 cases r1
 exact not_of (wpAny_truthy_bool ⟨.bl (!c),H1,I1,rfl,q1⟩)
def tIf (t:TT) (ta tb:TE):TE:=fun σ H Q=>t σ H fun c H1=>if c=true then ta σ H1 Q else tb σ H1 Q
theorem zcN {c:Expr} (hc:PT X c tA) (ha:PE X a ta) (hb:PE X b tb):PE X (.IfExp c a b pos) (tIf tA ta tb):=by
 intro pins s σ H Q I h
 refine wpAny_IfExp (thn (hc pins s σ H _ I h) fun d s1 ⟨H1,I1,q1⟩=>?_)
 cases d with
 | true=>exact ha pins s1 σ H1 Q I1 q1
 | false=>exact hb pins s1 σ H1 Q I1 q1
end
def SqL (K:PySem.W.Frag) (H:Hp) (a:Addr) (xs:List V):Prop :=
 Rd H a (.lst xs) ∨
  ∃ (o:Obj) (its:Array Value) (n:Nat),K.lookup a=some o∧o.cls=.type "list"∧o.dict=none∧o.data=.seq its n∧its.size≤sizeLine∧Vals xs its.toList
def SqT (K:PySem.W.Frag) (H:Hp) (a:Addr) (xs:List V):Prop :=
 Rd H a (.tup xs) ∨
  ∃ (o:Obj) (its:Array Value) (n:Nat),K.lookup a=some o∧o.cls=.type "tuple"∧o.data=.seq its n∧its.size≤sizeLine∧Vals xs its.toList
def zfP:Value->Option V
 | .none=>some .non
 | .bool b=>some (.bl b)
 | .int i _=>some (.int i)
 | .str x _=>some (.str x)
 | .bytes b _=>some (.byt b)
 | .float b _=>some (.flt b)
 | .ref a=>some (.ref a)
 | .type n=>some (.ty n)
 | _=>none
theorem RelV.abs {x:V} {u:Value} (r:RelV x u):zfP u=some x:=by
 cases x with
 | non=>cases r;rfl
 | bl _=>cases r;rfl
 | int _=>obtain⟨t,rfl⟩:=r;rfl
 | str _=>obtain⟨t,rfl⟩:=r;rfl
 | byt _=>obtain⟨t,rfl⟩:=r;rfl
 | flt _=>obtain⟨t,rfl⟩:=r;rfl
 | ref _=>cases r;rfl
 | ty _=>cases r;rfl
theorem RelV.inj {x y:V} {u:Value} (r:RelV x u) (q:RelV y u):x=y:=Option.some.inj (r.abs.symm.trans q.abs)
theorem Vals.inj:∀ {xs ys:List V} {us:List Value},Vals xs us->Vals ys us->xs=ys
 | _,_,_,.nil,.nil=>rfl
 | _,_,_,.cons r t,.cons r' t'=>by rw [r.inj r',Vals.inj t t']
section
variable {X:Cx} {pins:List (Addr×Obj)} {σ:St} {H:Hp} {s:Shared} {a:Addr} {xs ys:List V}
theorem SqL.of {K:PySem.W.Frag} (h:H a=some (.lst xs)):SqL K H a xs:=.inl (.inl h)
theorem SqT.of {K:PySem.W.Frag} (h:H a=some (.tup xs)):SqT K H a xs:=.inl (.inl h)
theorem Inv.list (I:Inv X pins σ H s) (h:SqL X.K H a xs):∃ its:List Value,Vals xs its∧PlainL s.heap a its.toArray∧xs.length≤sizeLine:=by
 rcases h with h | ⟨o,its,n,hk,hc,hd,hs,hz,r⟩
 ·obtain⟨z,its,n,r,e⟩:=h.ok I.hok
  exact⟨its,r,⟨_,n,e,rfl,rfl,rfl⟩,z⟩
 ·refine⟨its.toList,r,⟨o,n,I.kIn a o hk,hc,hd,by simpa using hs⟩,?_⟩
  have e:=r.length
  simp only [Array.length_toList] at e
  omega
theorem Inv.tuple (I:Inv X pins σ H s) (h:SqT X.K H a xs):∃ its:List Value,Vals xs its∧IsTup s.heap a its.toArray∧xs.length≤sizeLine:=by
 rcases h with h | ⟨o,its,n,hk,hc,hs,hz,r⟩
 ·obtain⟨z,its,r,p⟩:=h.ok I.hok
  exact⟨its,r,p,z⟩
 ·refine⟨its.toList,r,⟨o,I.kIn a o hk,hc,n,by simpa using hs⟩,?_⟩
  have e:=r.length
  simp only [Array.length_toList] at e
  omega
theorem Inv.list_inj (I:Inv X pins σ H s) (h:SqL X.K H a xs) (h':SqL X.K H a ys):xs=ys:=by
 obtain⟨its,r,⟨o,n,e,_,_,d⟩,_⟩:=I.list h
 obtain⟨its',r',⟨o',n',e',_,_,d'⟩,_⟩:=I.list h'
 rw [e] at e';cases e'
 rw [d] at d'
 injection d' with d1 _
 have:its=its':=by simpa using congrArg Array.toList d1
 subst this
 exact r.inj r'
theorem Inv.tuple_inj (I:Inv X pins σ H s) (h:SqT X.K H a xs) (h':SqT X.K H a ys):xs=ys:=by
 obtain⟨its,r,⟨o,e,_,n,d⟩,_⟩:=I.tuple h
 obtain⟨its',r',⟨o',e',_,n',d'⟩,_⟩:=I.tuple h'
 rw [e] at e';cases e'
 rw [d] at d'
 injection d' with d1 _
 have:its=its':=by simpa using congrArg Array.toList d1
 subst this
 exact r.inj r'
end
abbrev Cx.wish (X:Cx) (E:Value->Shared->Prop):Cx:={ X with xe:=E }
abbrev Cx.nox (X:Cx):Cx:=X.wish fun _ _=>False
theorem Cx.Ok.wish {X:Cx} (ok:X.Ok) (E:Value->Shared->Prop):(X.wish E).Ok :=
 ⟨ok.mod,ok.kind,ok.glob,ok.blt,ok.above,ok.inj,ok.has,ok.cab,ok.hd,ok.frames,ok.stk,ok.exf,ok.bs,ok.bsz,ok.noex,ok.exfs,ok.funs,ok.frf⟩
theorem Cx.Ok.unwish {X:Cx} {E:Value->Shared->Prop} (ok:(X.wish E).Ok):X.Ok :=
 ⟨ok.mod,ok.kind,ok.glob,ok.blt,ok.above,ok.inj,ok.has,ok.cab,ok.hd,ok.frames,ok.stk,ok.exf,ok.bs,ok.bsz,ok.noex,ok.exfs,ok.funs,ok.frf⟩
section
variable {X:Cx} {pins:List (Addr×Obj)} {σ:St} {H:Hp} {s:Shared} {E:Value->Shared->Prop}
theorem Inv.wish (I:Inv X pins σ H s) (E:Value->Shared->Prop):Inv (X.wish E) pins σ H s:=⟨I.ok.wish E,I.os,I.bare,I.base,I.loc,I.cell,I.free,I.freeC,I.pin,I.hok,I.len⟩
theorem Inv.unwish (I:Inv (X.wish E) pins σ H s):Inv X pins σ H s:=⟨I.ok.unwish,I.os,I.bare,I.base,I.loc,I.cell,I.free,I.freeC,I.pin,I.hok,I.len⟩
theorem SP.unwish {D:Ends} {f:Flow} {s':Shared} (h:SP (X.wish E) pins D f s'):SP X pins D f s':=by
 cases f with
 | next=>obtain⟨σ',H',I,q⟩:=h;exact⟨σ',H',I.unwish,q⟩
 | brk=>obtain⟨σ',H',I,q⟩:=h;exact⟨σ',H',I.unwish,q⟩
 | cont=>obtain⟨σ',H',I,q⟩:=h;exact⟨σ',H',I.unwish,q⟩
 | ret u=>obtain⟨v,σ',H',I,r,q⟩:=h;exact⟨v,σ',H',I.unwish,r,q⟩
theorem PE.nox {e:Expr} {t:TE} (h:PE X.nox e t):PE X e t:=fun pins s σ H Q I hw =>
 wpAny_mono (h pins s σ H Q (I.wish _) hw) (fun _ _ ⟨v,H',I',r,q⟩=>⟨v,H',I'.unwish,r,q⟩) fun _ _ z=>False.elim z
theorem PT.nox {e:Expr} {t:TT} (h:PT X.nox e t):PT X e t:=fun pins s σ H Q I hw =>
 wpAny_mono (h pins s σ H Q (I.wish _) hw) (fun _ _ ⟨H',I',q⟩=>⟨H',I'.unwish,q⟩) fun _ _ z=>False.elim z
theorem PSs.nox {st:List Stmt} {t:TS} (h:PSs X.nox st t):PSs X st t:=fun pins s σ H D I hw =>
 wpAny_mono (h pins s σ H D (I.wish _) hw) (fun _ _ q=>q.unwish) fun _ _ z=>False.elim z
end
section
variable {X:Cx} {st:Stmt} {rest:List Stmt} {t u:TS} {e:Expr} {te:TE} {pos:Pos}
def zfo:TS:=fun D σ H=>D.nx σ H
def Xu (t u:TS):TS:=fun D σ H=>t { D with nx:=u D } σ H
theorem yl:PSs X [] zfo:=fun _ _ σ H _ I h=>wpAny_execs_nil ⟨σ,H,I,h⟩
theorem zp (h1:PS X st t) (h2:PSs X rest u):PSs X (st :: rest) (Xu t u):=by
 intro pins s σ H D I h
 refine wpAny_execs_cons (thn (h1 pins s σ H { D with nx:=u D } I h) fun f s1 q=>?_)
 cases f with
 | next =>
  obtain⟨σ',H',I',q⟩:=q
  exact h2 pins s1 σ' H' D I' q
 | ret v=>exact q
 | brk=>exact q
 | cont=>exact q
theorem zx (h1:PS X st t):PSs X [st] t:=by
 intro pins s σ H D I h
 refine wpAny_execs_cons (thn (h1 pins s σ H D I h) fun f s1 q=>?_)
 cases f with
 | next=>exact wpAny_execs_nil q
 | ret v=>exact q
 | brk=>exact q
 | cont=>exact q
theorem Inv.quiet {pins:List (Addr×Obj)} {σ:St} {H:Hp} {s:Shared} (I:Inv X pins σ H s):interactive X.env=false:=by simp [interactive,I.ok.kind]
def zfe (te:TE):TS:=fun D σ H=>te σ H fun _ H1=>D.nx σ H1
theorem vd (he:PE X e te) (hs:swapsWith e none pos.line X.env=pure false:=by rfl):PS X (.Expr e pos) (zfe te):=by
 intro pins s σ H D I h
 exact wpAny_Expr_any (thn (he pins s σ H _ I h) fun v s1 ⟨x,H1,I1,r1,q1⟩=>⟨σ,H1,I1,q1⟩) I.quiet hs
def zeW (te:TE):TS:=fun D σ H=>te σ H D.rt
theorem zH (he:PE X e te):PS X (.Return (some e) pos) (zeW te):=by
 intro pins s σ H D I h
 exact wpAny_Return_some (thn (he pins s σ H _ I h) fun v s1 ⟨x,H1,I1,r1,q1⟩=>⟨x,σ,H1,I1,r1,q1⟩)
def zfx (c:TT) (t u:TS):TS:=fun D σ H=>c σ H fun b H1=>if b=true then t D σ H1 else u D σ H1
theorem xU {c:Expr} {a b:List Stmt} {tc:TT} (hc:PT X c tc) (ha:PSs X a t) (hb:PSs X b u):PS X (.If c a b pos) (zfx tc t u):=by
 intro pins s σ H D I h
 refine wpAny_If (thn (hc pins s σ H _ I h) fun d s1 ⟨H1,I1,q1⟩=>?_)
 cases d with
 | true=>exact ha pins s1 σ H1 D I1 q1
 | false=>exact hb pins s1 σ H1 D I1 q1
def zeg:TS:=fun _ _ _=>False
theorem zcX:PS X st zeg:=fun _ _ _ _ _ _ h=>h.elim
end
abbrev TG:=V->St->Hp->(St->Hp->Prop)->Prop
abbrev TGs:=List V->St->Hp->(St->Hp->Prop)->Prop
def PG (X:Cx) (target:Expr) (t:TG):Prop :=
 ∀ (pins:List (Addr×Obj)) (s:Shared) (σ:St) (H:Hp) (v:V) (u:Value) (Q:St->Hp->Prop),Inv X pins σ H s->RelV v u->t v σ H Q ->
  wpAny (model X.prog X.w) X.A (assign target X.env u) (fun _ s'=>∃ σ' H',Inv X pins σ' H' s'∧Q σ' H') X.xe s
def PGs (X:Cx) (ts:List Expr) (t:TGs):Prop :=
 ∀ (pins:List (Addr×Obj)) (s:Shared) (σ:St) (H:Hp) (vs:List V) (us:List Value) (Q:St->Hp->Prop),Inv X pins σ H s->Vals vs us->t vs σ H Q ->
  wpAny (model X.prog X.w) X.A (assignInOrder ((assignEach ts X.env).map (·.2)) us) (fun _ s'=>∃ σ' H',Inv X pins σ' H' s'∧Q σ' H') X.xe s
abbrev zeQ:=V->V->V->Hp->(Hp->Prop)->Prop
def zfh (X:Cx) (t:zeQ):Prop :=
 ∀ (pins:List (Addr×Obj)) (s:Shared) (σ:St) (H:Hp) (o i v:V) (ov iv u:Value) (Q:Hp->Prop),Inv X pins σ H s->RelV o ov->RelV i iv->RelV v u->t o i v H Q ->
  wpAny (model X.prog X.w) X.A (setItem ov iv u) (fun _ s'=>∃ H',Inv X pins σ H' s'∧Q H') X.xe s
abbrev TIp:=V->V->Hp->VK->Prop
def PIp (X:Cx) (op:Operator) (t:TIp):Prop :=
 ∀ (pins:List (Addr×Obj)) (s:Shared) (σ:St) (H:Hp) (x y:V) (v u:Value) (Q:VK),Inv X pins σ H s->RelV x v->RelV y u->t x y H Q ->
  wpAny (model X.prog X.w) X.A (inplaceOp op v u) (EP X pins σ Q) X.xe s
section
variable {X:Cx} {pos:Pos}
def Z5 (i:Nat):TG:=fun v σ H Q=>Q (σ.set i (some v)) H
theorem zL {i:Nat} {x:Str} (hN:X.N.Nodup) (hi:X.N[i]?=some x) (hx:Loc X.env.scope x) (hf:X.fn x=true∨X.env.scope.names.lookup x=some .local:=by first | exact .inl rfl | exact .inr rfl | assumption):PG X (.Name x pos) (Z5 i):=by
 intro pins s σ H v u Q I r h
 exact wpAny_assign_Name (Xc I hN hi hx r (fun s' I'=>⟨_,H,I',h⟩) hf)
def zf8:TGs:=fun vs σ H Q=>vs=[]∧Q σ H
def ze1 (t:TG) (u:TGs):TGs:=fun vs σ H Q=>∃ v r,vs=v :: r∧t v σ H fun σ' H'=>u r σ' H' Q
theorem vX:PGs X [] zf8:=by
 intro pins s σ H vs us Q I r h
 obtain⟨e,h⟩:=h
 subst e
 cases r
 exact assignInOrder_nil ⟨σ,H,I,h⟩
theorem ye {e:Expr} {es:List Expr} {t:TG} {u:TGs} (h1:PG X e t) (h2:PGs X es u)
  (hs:(assignEach (e :: es) X.env).map (·.2)=assign e X.env :: (assignEach es X.env).map (·.2):=by rfl):PGs X (e :: es) (ze1 t u):=by
 intro pins s σ H vs us Q I r h
 obtain⟨v,vr,e1,h⟩:=h
 subst e1
 cases r with
 | cons r rr =>
  rw [hs]
  refine assignInOrder_cons (thn (h1 pins s σ H _ _ _ I r h) fun _ s1 ⟨σ1,H1,I1,q1⟩=>?_)
  exact h2 pins s1 σ1 H1 _ _ Q I1 rr q1
def zfy (K:PySem.W.Frag) (n:Nat) (t:TGs):TG:=fun v σ H Q=>∃ a xs,v=.ref a∧SqT K H a xs∧xs.length=n∧t xs σ H Q
theorem zae {es:List Expr} {k:Nat} {t:TGs} {n:Nat} (hc:X.calm=true) (h:PGs X es t)
  (hn:(assignEach es X.env).length=n:=by rfl) (hst:(assignEach es X.env).findIdx? (·.1)=none:=by rfl):PG X (.Tuple es k pos) (zfy X.K n t):=by
 intro pins s σ H v u Q I r hw
 obtain⟨a,xs,e1,hq,hl,hw⟩:=hw
 subst e1
 cases r
 obtain⟨its,rv,ht,hz⟩:=I.tuple hq
 refine assign_Tuple_tuple (I.ok.hd hc) ht (by simp [hn,← hl,rv.length]) hst fun h' hx=>?_
 have I1:Inv X pins σ H { s with heap:=h' }:=I.kept (t':=s.toks) fun b o e=>hx b o (Nat.ne_of_lt (Heap.lt_size e)) e
 exact h pins _ σ H xs _ Q I1 (by simpa using rv) hw
def zfi (to ti:TE) (t:zeQ):TG:=fun v σ H Q=>to σ H fun o H1=>ti σ H1 fun i H2=>t o i v H2 fun H3=>Q σ H3
theorem J4 {o i:Expr} {to ti:TE} {t:zeQ} (ho:PE X o to) (hi:PE X i ti) (hs:zfh X t)
  (ha:∀ v,assign (.Subscript o i pos) X.env v=(do
   let ov ← holding [v] (eval o X.env)
   let iv ← holding [v,ov] (eval i X.env)
   standAt pos
   holding [v,ov,iv] (setItem ov iv v)
   release [v,ov,iv] []):=by intro _;rfl):PG X (.Subscript o i pos) (zfi to ti t):=by
 intro pins s σ H v u Q I r h
 rw [ha]
 refine wpAny_bind (wpAny_holding (thn (ho pins s σ H _ I h) fun ov s1 ⟨x,H1,I1,r1,q1⟩=>?_))
 refine wpAny_bind (wpAny_holding (thn (hi pins s1 σ H1 _ I1 q1) fun iv s2 ⟨y,H2,I2,r2,q2⟩=>?_))
 refine wpAny_bind (wpAny_standAt (wpAny_bind (wpAny_holding (thn (hs pins s2 σ H2 x y v ov iv u _ I2 r1 r2 r q2) fun _ s3 ⟨H3,I3,q3⟩=>?_))))
 exact wpAny_release ⟨σ,H3,I3,q3⟩
def QG (te:TE) (g:TG):TS:=fun D σ H=>te σ H fun x H1=>g x σ H1 D.nx
theorem Xy {tg e:Expr} {te:TE} {g:TG} (he:PE X e te) (hg:PG X tg g) (hs:swapsWithSole [tg] e pos.line X.env=pure false:=by rfl) (hw:swappedStores [tg] e X.env=pure none:=by rfl)
  (h1:(assignEach [tg] X.env).map (·.2)=[assign tg X.env]:=by rfl):PS X (.Assign [tg] e pos) (QG te g):=by
 intro pins s σ H D I h
 refine wpAny_Assign_stores (thn (he pins s σ H _ I h) fun v s1 ⟨x,H1,I1,r1,q1⟩=>?_) hs hw
 rw [h1]
 exact thn (hg pins s1 σ H1 x v _ I1 r1 q1) fun _ s2 q=>q
theorem zG {i:Nat} {x:Str} {e:Expr} {te:TE} {pos':Pos} (hN:X.N.Nodup) (hi:X.N[i]?=some x) (hx:Loc X.env.scope x) (he:PE X e te) (hs:swapsWith e (some (.Name x pos')) pos.line X.env=pure false:=by rfl) (hf:X.fn x=true∨X.env.scope.names.lookup x=some .local:=by first | exact .inl rfl | exact .inr rfl | assumption) :
  PS X (.Assign [.Name x pos'] e pos) (QG te (Z5 i)):=by
 intro pins s σ H D I h
 refine wpAny_Assign_Name (thn (he pins s σ H _ I h) fun v s1 ⟨y,H1,I1,r1,q1⟩=>?_) hs
 exact Xc I1 hN hi hx r1 (fun s2 I2=>⟨_,H1,I2,q1⟩) hf
def zf4 (i:Nat) (te:TE) (ti:TIp):TS:=fun D σ H=>∃ x,σ[i]?=some (some x)∧te σ H fun y H1=>ti x y H1 fun z H2=>D.nx (σ.set i (some z)) H2
theorem zct {i:Nat} {x:Str} {e:Expr} {te:TE} {op:Operator} {ti:TIp} {pos':Pos} (hN:X.N.Nodup) (hi:X.N[i]?=some x) (hx:Loc X.env.scope x) (he:PE X e te) (ho:PIp X op ti) (hf:X.fn x=true∨X.env.scope.names.lookup x=some .local:=by first | exact .inl rfl | exact .inr rfl | assumption) :
  PS X (.AugAssign (.Name x pos') op e pos) (zf4 i te ti):=by
 intro pins s σ H D I h
 obtain⟨v,e1,h⟩:=h
 obtain⟨m,hn,hl⟩:=I.loc
 have vis:Vis X.env.scope x:=by rcases hx with k | k;exact .inl k;exact .inr (.inl k)
 obtain⟨u,r,l⟩:=hl i x v hi e1 vis
 refine wpAny_AugAssign_Name ?_
 have go:wpAny (model X.prog X.w) X.A (eval e X.env) (fun w s₂=>wpAny (model X.prog X.w) X.A (inplaceOp op u w) (fun r s₃=>wpAny (model X.prog X.w) X.A (storeName X.env x r) (fun _=>SP X pins D .next) X.xe s₃) X.xe s₂) X.xe s:=by
  refine thn (he pins s σ H _ I h) fun w s1 ⟨y,H1,I1,r1,q1⟩=>?_
  refine thn (ho pins s1 σ H1 v y u w _ I1 r r1 q1) fun z s2 ⟨zv,H2,I2,r2,q2⟩=>?_
  exact Xc I2 hN hi hx r2 (fun s3 I3=>⟨_,H2,I3,q2⟩) hf
 rcases l with ⟨hk,hm⟩ | ⟨hk,c,hc,hcell⟩
 ·exact wpAny_loadName_local I.ok.kind hk hn hm go
 ·rcases hk with hk | hk
  ·exact wpAny_loadName_cell I.ok.kind hk hc hcell go
  ·rcases hx with k | k
   ·have:X.env.scope.names.lookup x=some .free:=hk
    rw [k] at this;cases this
   ·have:X.env.scope.names.lookup x=some .free:=hk
    rw [k] at this;cases this
def ipI (f:Int->Int->Int):TIp:=fun x y H Q=>∃ i j,x=.int i∧y=.int j∧Q (.int (f i j)) H
theorem zeJ:PIp X .Add (ipI fun i j=>i+j):=by
 intro pins s σ H x y v u Q I r1 r2 h
 obtain⟨i,j,e1,e2,q⟩:=h
 subst e1;subst e2
 obtain⟨t,rfl⟩:=r1
 obtain⟨t',rfl⟩:=r2
 exact iadd_int ⟨.int _,H,I.tok _,⟨_,rfl⟩,q⟩
theorem zex:PIp X .Sub (ipI fun i j=>i-j):=by
 intro pins s σ H x y v u Q I r1 r2 h
 obtain⟨i,j,e1,e2,q⟩:=h
 subst e1;subst e2
 obtain⟨t,rfl⟩:=r1
 obtain⟨t',rfl⟩:=r2
 exact isub_int ⟨.int _,H,I.tok _,⟨_,rfl⟩,q⟩
end
section
variable {X:Cx} {pos:Pos}
def zay (c:TT) (tb:TS):TS:=fun D σ H=>∃ W:Nat->St->Hp->Prop,(∃ m,W m σ H)∧∀ m σ H,W m σ H ->
 c σ H fun b H1=>if b=true then ∃ N:St->Hp->Prop,(∀ σ' H',N σ' H'->∃ m',m'<m∧W m' σ' H')∧tb { D with nx:=N,ct:=N,bk:=D.nx } σ H1 else D.nx σ H1
theorem ju {c:Expr} {body:List Stmt} {tc:TT} {tb:TS} (hp:PassesOwn (model X.prog X.w) X.A X.env X.xe) (hc:PT X c tc) (hb:PSs X body tb):PS X (.While c body [] pos) (zay tc tb):=by
 intro pins s σ H D I h
 obtain⟨W,⟨m0,w0⟩,turn⟩:=h
 refine wpAny_While (codeAny_whileLoop (fun n s'=>∃ σ' H',Inv X pins σ' H' s'∧W n σ' H') ?_ m0 ⟨σ,H,I,w0⟩)
 rintro n s1 ⟨σ1,H1,I1,w1⟩
 refine wpAny_passesOwn hp (thn (hc pins s1 σ1 H1 _ I1 (turn n σ1 H1 w1)) fun b s2 ⟨H2,I2,q2⟩=>?_)
 cases b with
 | true =>
  obtain⟨N,hN,q2⟩:=q2
  rw [if_pos rfl]
  refine wpAny_passesOwn hp (thn (hb pins s2 σ1 H2 _ I2 q2) fun f s3 q3=>?_)
  cases f with
  | next =>
   obtain⟨σ3,H3,I3,n3⟩:=q3
   obtain⟨m',hm,w3⟩:=hN σ3 H3 n3
   exact⟨m',hm,σ3,H3,I3,w3⟩
  | cont =>
   obtain⟨σ3,H3,I3,n3⟩:=q3
   obtain⟨m',hm,w3⟩:=hN σ3 H3 n3
   exact⟨m',hm,σ3,H3,I3,w3⟩
  | brk=>exact q3
  | ret v=>exact q3
 | false =>
  rw [if_neg Bool.false_ne_true]
  exact wpAny_execs_nil ⟨σ1,H2,I2,q2⟩
end
structure It where
 go:Nat->Hp->Prop
 yld:Nat->Hp->V->Hp->Prop
 stop:Nat->Hp->Prop
def Wh (X:Cx) (pins:List (Addr×Obj)) (H:Hp) (b:Addr):Prop :=
 H b=none∧b≠X.env.locals∧b∉X.fs∧(b∈X.ex∨X.s₀.heap.objs.size≤b)∧(∀ x c,X.env.cells.lookup x=some c->c≠b)∧∀ p∈X.pn++pins,p.1≠b
theorem Inv.fpOk {X:Cx} {pins:List (Addr×Obj)} {σ:St} {H H':Hp} {s:Shared} {b:Addr} (I:Inv X pins σ H s) (hb:s.heap.objs.size≤b) (hn:H' b=none):Wh X pins H' b:=by
 refine⟨hn,Nat.ne_of_gt (Nat.lt_of_lt_of_le I.lt hb),I.nofs hb,.inr (Nat.le_trans I.sz hb),fun x c e z=>?_,fun p hp z=>?_⟩
 ·obtain⟨v,q⟩:=I.cell x c e
  exact absurd (Nat.lt_of_lt_of_le q.lt (by rw [z];exact hb)) (Nat.lt_irrefl _)
 ·exact absurd (Nat.lt_of_lt_of_le (Heap.lt_size (I.pin p hp).1) (by rw [z];exact hb)) (Nat.lt_irrefl _)
structure Turn (P:Program) (w:World) (K:PySem.W.Frag) (tg:Expr) (J:It) (fp:List Addr) (it:Addr) (tn:Nat->Heap->Prop):Prop where
 mem:it∈fp
 obj:∀ i h,tn i h->∀ b∈fp,∃ o,h.get? b=some o∧∀ v,o.data≠.cell v
 keep:∀ i h h',tn i h->(∀ b∈fp,∀ o,h.get? b=some o->h'.get? b=some o)->tn i h'
 item:∀ (X:Cx),X.prog=P->X.w=w->X.K=K->X.calm=true->∀ (i:Nat) (pins:List (Addr×Obj)) (s:Shared) (σ:St) (H:Hp) (E:Value->Shared->Prop),Inv X pins σ H s->(∀ b∈fp,Wh X pins H b)->tn i s.heap->J.go i H ->
  wpAny (model P w) X.A (pyNext (.ref it)) (fun r s1=>∃ u,r=some u ∧
   wpAny (model P w) X.A (letOwnedTupleGo tg (.ref it) u) (fun _ s2=>∃ x H',Inv X pins σ H' s2∧RelV x u∧J.yld i H x H'∧tn (i+1) s2.heap∧∀ b∈fp,H' b=none) E s1) E s
 done:∀ (X:Cx),X.prog=P->X.w=w->X.K=K->X.calm=true->∀ (i:Nat) (pins:List (Addr×Obj)) (s:Shared) (σ:St) (H:Hp) (E:Value->Shared->Prop),Inv X pins σ H s->(∀ b∈fp,Wh X pins H b)->tn i s.heap->J.stop i H ->
  wpAny (model P w) X.A (pyNext (.ref it)) (fun r s1=>r=none∧Inv X pins σ H s1) E s
 self:∀ (A:Around) (i:Nat) (s:Shared) (Q:Value->Shared->Prop) (E:Value->Shared->Prop),tn i s.heap->Q (.ref it) s->wpAny (model P w) A (pyIter (.ref it)) Q E s
abbrev TI:=St->Hp->(It->Hp->Prop)->Prop
def PIE (X:Cx) (pins:List (Addr×Obj)) (σ:St) (tg:Expr) (R:It->Hp->Prop) (itv:Value) (s2:Shared):Prop :=
 ∃ (it:Addr) (fp:List Addr) (tn:Nat->Heap->Prop) (J:It) (H':Hp),itv=.ref it∧Inv X pins σ H' s2∧Turn X.prog X.w X.K tg J fp it tn∧tn 0 s2.heap∧(∀ b∈fp,Wh X pins H' b)∧R J H'
def PI (X:Cx) (tg iter:Expr) (wi:TI):Prop :=
 ∀ (pins:List (Addr×Obj)) (s:Shared) (σ:St) (H:Hp) (R:It->Hp->Prop),Inv X pins σ H s->wi σ H R ->
  wpAny (model X.prog X.w) X.A (eval iter X.env) (fun v s1=>wpAny (model X.prog X.w) X.A (pyIter v) (PIE X pins σ tg R) X.xe s1) X.xe s
theorem zcb {M:Model} {A:Around} {E:Value->Shared->Prop} {s:Shared} {tg:Expr} {it:Addr} {u:Value} {o:Obj} {n:String} {vs:Array Value} {Q:Unit->Shared->Prop} (ho:s.heap.get? it=some o) (hc:o.cls=.type n) (hd:o.data=.fields vs)
    (hn:["enumerate","zip","dict_itemiterator","dict_reverseitemiterator","odict_iterator","itertools.zip_longest","itertools.pairwise"].contains n=false) (hQ:Q () s):wpAny M A (letOwnedTupleGo tg (.ref it) u) Q E s:=by
  unfold letOwnedTupleGo
  cases tg<;>first
    | exact wpAny_pure hQ
    | (cases u<;>first
        | exact wpAny_pure hQ
        | (refine wpAny_bind (wpAny_load ho ?_)
           rw [hc,hd]
           show wpAny M A (if (["enumerate","zip","dict_itemiterator","dict_reverseitemiterator","odict_iterator","itertools.zip_longest","itertools.pairwise"].contains n && vs[0]? == some (rawInt _))=true then _ else _) Q E s
           rw [if_neg (by intro h;rw [hn,Bool.false_and] at h;cases h)]
           exact wpAny_pure hQ))
def Itl (K:PySem.W.Frag) (a:Addr):It :=
 ⟨fun i H=>∃ xs x,SqL K H a xs∧xs[i]?=some x,fun i H x H'=>H'=H∧∀ xs,SqL K H a xs->xs[i]?=some x,fun i H=>∃ xs,SqL K H a xs∧xs.length≤i⟩
def Itr (lo:Int) (n:Nat):It:=⟨fun i _=>i<n,fun i H x H'=>H'=H∧x=.int (lo+i),fun i _=>n≤i⟩
theorem zbp {P:Program} {w:World} {K:PySem.W.Frag} {tg:Expr} (a it:Addr):Turn P w K tg (Itl K a) [it] it (fun i h=>h.IsListIter it a i) where
 mem:=by simp
 obj:=fun i h st b hb=>by
  have e:b=it:=by simpa using hb
  subst e
  obtain⟨o,e,c,d⟩:=st
  exact⟨o,e,fun v z=>by rw [d] at z;cases z⟩
 keep:=fun i h h' st k=>st.at fun o e=>k it (by simp) o e
 item:=by
  intro X hP hw hK hc i pins s σ H E I hf st hg
  subst hP hw hK
  obtain⟨xs,x,hq,hx⟩:=hg
  obtain⟨its,rv,p,hz⟩:=I.list hq
  obtain⟨u,hu,ru⟩:=rv.get hx
  obtain⟨f0,f1,f2,f3,f4,f5⟩:=hf it (by simp)
  refine wpAny_pyNext_list_item st p.isList (x:=u) (by simpa using hu) fun h' st' sb=>?_
  have I1:Inv X pins σ H { s with heap:=h' }:=I.turned (t':=s.toks) (fun b o hb e=>(sb.2 b hb).trans e) f0 f1 f3 f4 f5
  obtain⟨o,e,c,d⟩:=id st'
  exact⟨u,rfl,zcb (s:={ s with heap:=h' }) e c d (by decide) ⟨x,H,I1,ru,⟨rfl,fun ys hy=>by rw [I.list_inj hy hq];exact hx⟩,st',fun b hb=>(hf b hb).1⟩⟩
 done:=by
  intro X hP hw hK hc i pins s σ H E I hf st hg
  subst hP hw hK
  obtain⟨xs,hq,hx⟩:=hg
  obtain⟨its,rv,p,hz⟩:=I.list hq
  obtain⟨f0,f1,f2,f3,f4,f5⟩:=hf it (by simp)
  have hl:=rv.length
  exact wpAny_pyNext_list_end (I.ok.hd hc) st p.isList (by simp;omega) fun h' eb=>⟨rfl,I.turned (t':=s.toks) (fun b o hb e=>eb b o hb e) f0 f1 f3 f4 f5⟩
 self:=fun _ _ _ _ _ st h=>wpAny_pyIter_listiter st h
theorem zam {P:Program} {w:World} {K:PySem.W.Frag} {tg:Expr} (it:Addr) (lo:Int) (n:Nat):Turn P w K tg (Itr lo n) [it] it (fun i h=>IsRangeIter h it (lo+(i:Nat)*1) ((n:Int)-(i:Nat)) 1) where
 mem:=by simp
 obj:=fun i h st b hb=>by
  have e:b=it:=by simpa using hb
  subst e
  exact⟨_,st,fun v z=>by
   have z':Data.fields _=Data.cell v:=z
   cases z'⟩
 keep:=fun i h h' st k=>k it (by simp) _ st
 item:=by
  intro X hP hw hK hc i pins s σ H E I hf st hg
  subst hP hw hK
  obtain⟨f0,f1,f2,f3,f4,f5⟩:=hf it (by simp)
  have W:=Walks.range (prog:=X.prog) (w:=X.w) (I.ok.hd hc) it lo 1 n
  refine W.item i s _ _ hg st fun v h' tk hv st' kk=>?_
  obtain⟨t,rfl⟩:=hv
  have I1:Inv X pins σ H { s with heap:=h',toks:=tk }:=I.turned (fun b o hb e=>kk b o (by simpa using hb) e) f0 f1 f3 f4 f5
  refine⟨_,rfl,zcb (s:={ s with heap:=h',toks:=tk }) (n:="range_iterator") st' rfl rfl (by decide) ⟨.int (lo+i),H,I1,⟨t,?_⟩,⟨rfl,rfl⟩,st',fun b hb=>(hf b hb).1⟩⟩
  rw [Int.mul_one]
 done:=by
  intro X hP hw hK hc i pins s σ H E I hf st hg
  subst hP hw hK
  obtain⟨f0,f1,f2,f3,f4,f5⟩:=hf it (by simp)
  exact wpAny_pyNext_range_end (I.ok.hd hc) st (by have:n≤i:=hg;omega) fun h' eb=>⟨rfl,I.turned (t':=s.toks) (fun b o hb e=>eb b o hb e) f0 f1 f3 f4 f5⟩
 self:=fun _ _ _ _ _ st h=>wpAny_pyIter_rangeiter st h
section
variable {X:Cx} {tg:Expr}
def zd8 (K:PySem.W.Frag) (tl:TE):TI:=fun σ H R=>tl σ H fun x H1=>∃ a,x=.ref a∧(∃ xs,SqL K H1 a xs)∧R (Itl K a) H1
theorem zdH {l:Expr} {tl:TE} (hl:PE X l tl):PI X tg l (zd8 X.K tl):=by
 intro pins s σ H R I h
 refine thn (hl pins s σ H _ I h) fun v s1 ⟨x,H1,I1,r1,q1⟩=>?_
 obtain⟨a,e,⟨xs,hq⟩,q⟩:=q1
 subst e
 cases r1
 obtain⟨its,rv,p,hz⟩:=I1.list hq
 refine wpAny_pyIter_list p.isList ?_
 refine⟨s1.heap.objs.size,[s1.heap.objs.size],_,_,H1,rfl,I1.kept (t':=s1.toks) fun b o e=>Heap.get?_push_of_some _ e,zbp a _,⟨_,Heap.get?_push_size _ rfl,rfl,rfl⟩,fun b hb=>?_,q⟩
 have e:b=s1.heap.objs.size:=by simpa using hb
 subst e
 exact I1.fpOk (Nat.le_refl _) (I1.hok.fresh (Nat.le_refl _))
theorem JL {pins:List (Addr×Obj)} {σ:St} {H:Hp} {s:Shared} {R:It->Hp->Prop} {E:Value->Shared->Prop} {lo hi:Int} {t u v:Tok} {tk:Nat} (I:Inv X pins σ H s) (h1:-(2^62)≤lo) (h2:lo<2^62) (h3:-(2^62)≤hi) (h4:hi<2^62)
  (q:R (Itr lo (hi-lo).toNat) H):wpAny (model X.prog X.w) X.A (pyIter (.ref s.heap.objs.size)) (PIE X pins σ tg R) E { s with heap:=s.heap.push { cls:=.type "range",data:=.fields #[.int lo t,.int hi u,.int 1 v] },toks:=tk }:=by
 refine wpAny_pyIter_range (IsRange.new ..) (small_one h1 h2 h3 h4) ?_
 have I1:Inv X pins σ H { s with heap:=s.heap.push { cls:=.type "range",data:=.fields #[.int lo t,.int hi u,.int 1 v] },toks:=tk }:=I.kept fun b o e=>Heap.get?_push_of_some _ e
 refine⟨(s.heap.push { cls:=.type "range",data:=.fields #[.int lo t,.int hi u,.int 1 v] }).objs.size,[(s.heap.push { cls:=.type "range",data:=.fields #[.int lo t,.int hi u,.int 1 v] }).objs.size],_,_,H,rfl,
  I1.kept (t':=tk) fun b o e=>Heap.get?_push_of_some _ e,zam _ lo (hi-lo).toNat,?_,fun b hb=>?_,q⟩
 ·have e1:lo+((0:Nat):Int)*1=lo:=by simp
  have e2:(((hi-lo).toNat:Nat):Int)-((0:Nat):Int)=Builtin.Range.rangeSize lo hi 1:=by rw [rangeSize_one];split<;>omega
  show IsRangeIter _ _ (lo+((0:Nat):Int)*1) ((((hi-lo).toNat:Nat):Int)-((0:Nat):Int)) 1
  rw [e1,e2]
  exact Heap.get?_push_size _ rfl
 ·have e:b=(s.heap.push { cls:=.type "range",data:=.fields #[.int lo t,.int hi u,.int 1 v] }).objs.size:=by simpa using hb
  subst e
  exact I1.fpOk (Nat.le_refl _) (I1.hok.fresh (Nat.le_refl _))
def zfp (ta:TA):TI:=fun σ H R=>ta σ H fun vs H1=>∃ j:Int,vs=[.int j]∧-(2^62)≤j∧j<2^62∧R (Itr 0 j.toNat) H1
def zff (ta:TA):TI:=fun σ H R=>ta σ H fun vs H1=>∃ i j:Int,vs=[.int i,.int j]∧(-(2^62)≤i∧i<2^62∧-(2^62)≤j∧j<2^62)∧R (Itr i (j-i).toNat) H1
theorem yE {a:Expr} {ta:TA} {p pos:Pos} (hg:Gl X "range") (hm:X.mg "range" = none) (ha:PA X [a] ta) (hs:starEach [a] X.env=[(false,eval a X.env)]:=by rfl):PI X tg (.Call (.Name "range" p) [a] [] pos) (zfp ta):=by
 intro pins s σ H R I h
 refine Call_ (Yv I hg hm boot_range (PyProof.Rows.callWith_type1 (thn (ha pos pins s σ H _ I h) fun us s1 ⟨vs,H1,I1,r1,q1⟩=>?_) hs rfl))
 obtain⟨j,e,q1,q2,q⟩:=q1
 subst e
 cases r1 with
 | cons r rr =>
  cases rr
  obtain⟨t,rfl⟩:=r
  exact call_range_1 (JL I1 (by omega) (by omega) q1 q2 (by simpa using q))
theorem Um {a b:Expr} {ta:TA} {p pos:Pos} (hg:Gl X "range") (hm:X.mg "range" = none) (ha:PA X [a,b] ta) (hs:starEach [a,b] X.env=[(false,eval a X.env),(false,eval b X.env)]:=by rfl) (hs2:starEach [b] X.env=[(false,eval b X.env)]:=by rfl) :
  PI X tg (.Call (.Name "range" p) [a,b] [] pos) (zff ta):=by
 intro pins s σ H R I h
 refine Call_ (Yv I hg hm boot_range (PyProof.Rows.callWith_type1 (thn (ha pos pins s σ H _ I h) fun us s1 ⟨vs,H1,I1,r1,q1⟩=>?_) (by rw [hs,hs2]) (by rw [hs2];rfl)))
 obtain⟨i,j,e,⟨q1,q2,q3,q4⟩,q⟩:=q1
 subst e
 cases r1 with
 | cons r rr =>
  cases rr with
  | cons r' rr =>
   cases rr
   obtain⟨t,rfl⟩:=r
   obtain⟨t',rfl⟩:=r'
   exact call_range_2 (JL I1 q1 q2 q3 q4 q)
def zfU (wi:TI) (g:TG) (tb:TS):TS:=fun D σ H=>wi σ H fun J H1=>∃ W:Nat->Nat->St->Hp->Prop,(∃ m,W 0 m σ H1)∧∀ i m σ H,W i m σ H ->
 (J.stop i H∧D.nx σ H)∨(J.go i H∧∃ N:St->Hp->Prop,(∀ σ' H',N σ' H'->∃ m',m'<m∧W (i+1) m' σ' H')∧∀ x H',J.yld i H x H'->g x σ H' fun σ2 H2=>tb { D with nx:=N,ct:=N,bk:=D.nx } σ2 H2)
def Zk (fp:List Addr) (h:Heap):List (Addr×Obj):=fp.filterMap fun b=>(h.get? b).map fun o=>(b,o)
theorem jR {fp:List Addr} {h:Heap} {b:Addr} {o:Obj} (hb:b∈fp) (e:h.get? b=some o):(b,o)∈Zk fp h:=List.mem_filterMap.mpr ⟨b,hb,by rw [e];rfl⟩
theorem zbG {fp:List Addr} {h:Heap} {p:Addr×Obj} (hp:p∈Zk fp h):p.1∈fp∧h.get? p.1=some p.2:=by
 obtain⟨b,hb,e⟩:=List.mem_filterMap.mp hp
 cases q:h.get? b with
 | none=>rw [q] at e;cases e
 | some o =>
  rw [q] at e
  have e':(b,o)=p:=Option.some.inj e
  subst e'
  exact⟨hb,q⟩
theorem Inv.pinned {pins:List (Addr×Obj)} {σ:St} {H:Hp} {s:Shared} {fp:List Addr} (I:Inv X pins σ H s) (hf:∀ b∈fp,Wh X pins H b) (ho:∀ b∈fp,∃ o,s.heap.get? b=some o∧∀ v,o.data≠.cell v):Inv X (pins++Zk fp s.heap) σ H s :=
 I.pins_of fun p hp=>(List.mem_append.mp hp).elim (fun z=>I.pin p (List.mem_append_right _ z)) fun z=>by
  obtain⟨hb,e⟩:=zbG z
  obtain⟨f0,f1,f2,_⟩:=hf p.1 hb
  obtain⟨o,e',d⟩:=ho p.1 hb
  rw [e] at e';cases e'
  exact⟨e,f0,f1,f2,d⟩
theorem Inv.unpinned {pins pl:List (Addr×Obj)} {σ:St} {H:Hp} {s:Shared} (I:Inv X (pins++pl) σ H s):Inv X pins σ H s:=I.pins_of fun p hp=>I.pin p (List.mem_append_right _ (List.mem_append_left _ hp))
theorem qm {iter:Expr} {body:List Stmt} {wi:TI} {g:TG} {tb:TS} {pos:Pos} (hp:PassesOwn (model X.prog X.w) X.A X.env X.xe) (hc:X.calm=true) (hi:PI X tg iter wi) (hg:PG X tg g) (hb:PSs X body tb)
  (hs:∀ x,foldedSetIterable iter X.env x=pure x:=by intro _;rfl):PS X (.For tg iter body [] pos) (zfU wi g tb):=by
 intro pins s σ H D I h
 refine wpAny_For (thn (hi pins s σ H _ I h) fun v s1 h1=>thn h1 fun itv s2 h2=>?_) hs
 obtain⟨it,fp,tn,J,H2,e,I2,T,st2,f2,W,⟨m0,w0⟩,turn⟩:=h2
 subst e
 have stat:∀ {H':Hp},(∀ b∈fp,H' b=none)->∀ b∈fp,Wh X pins H' b:=fun hn b hb=>⟨hn b hb,(f2 b hb).2⟩
 refine codeAny_forLoop_any (fun n s'=>∃ i σ' H',Inv X pins σ' H' s'∧tn i s'.heap∧(∀ b∈fp,H' b=none)∧W i n σ' H') ?_ m0 ⟨0,σ,H2,I2,st2,fun b hb=>(f2 b hb).1,w0⟩
 rintro n s3 ⟨i,σ3,H3,I3,st3,fr3,w3⟩
 rcases turn i n σ3 H3 w3 with ⟨stop,qn⟩ | ⟨go,N,hN,step⟩
 ·refine wpAny_passesOwn hp (thn (T.done X rfl rfl rfl hc i pins s3 σ3 H3 X.xe I3 (stat fr3) st3 stop) fun r s4 ⟨hr,I4⟩=>?_)
  subst hr
  exact wpAny_execs_nil ⟨σ3,H3,I4,qn⟩
 ·refine wpAny_passesOwn hp (thn (T.item X rfl rfl rfl hc i pins s3 σ3 H3 X.xe I3 (stat fr3) st3 go) fun r s4 ⟨u,hr,h4⟩=>?_)
  subst hr
  refine wpAny_passesOwn hp (thn h4 fun _ s5 ⟨x,H5,I5,r5,y5,st5,fr5⟩=>?_)
  have I5':=I5.pinned (stat fr5) (T.obj _ _ st5)
  refine wpAny_passesOwn hp (thn (hg _ s5 σ3 H5 x u _ I5' r5 (step x H5 y5)) fun _ s6 ⟨σ6,H6,I6,q6⟩=>?_)
  refine wpAny_passesOwn hp (thn (hb _ s6 σ6 H6 _ I6 q6) fun f s7 q7=>?_)
  have again:∀ {σ7:St} {H7:Hp},Inv X (pins++Zk fp s5.heap) σ7 H7 s7->N σ7 H7->∃ m,m<n∧∃ i σ' H',Inv X pins σ' H' s7∧tn i s7.heap∧(∀ b∈fp,H' b=none)∧W i m σ' H':=fun {σ7 H7} I7 n7=>by
   obtain⟨m',hm,w7⟩:=hN σ7 H7 n7
   refine⟨m',hm,i+1,σ7,H7,I7.unpinned,T.keep _ _ _ st5 fun b hb o e=>(I7.pin (b,o) (List.mem_append_right _ (List.mem_append_right _ (jR hb e)))).1,fun b hb=>?_,w7⟩
   obtain⟨o,e,d⟩:=T.obj _ _ st5 b hb
   exact (I7.pin (b,o) (List.mem_append_right _ (List.mem_append_right _ (jR hb e)))).2.1
  cases f with
  | next=>obtain⟨σ7,H7,I7,n7⟩:=q7;exact again I7 n7
  | cont=>obtain⟨σ7,H7,I7,n7⟩:=q7;exact again I7 n7
  | brk=>obtain⟨σ7,H7,I7,q7⟩:=q7;exact⟨σ7,H7,I7.unpinned,q7⟩
  | ret v=>obtain⟨x7,σ7,H7,I7,r7,q7⟩:=q7;exact⟨x7,σ7,H7,I7.unpinned,r7,q7⟩
end
theorem Jv {K:PySem.W.Frag} {a:Addr} {xs:List V} {g:TG} {tb:TS} {D:Ends} {σ:St} {H:Hp} (Pv:Nat->St->Hp->Prop) (h0:Pv 0 σ H) (hl:∀ i σ H,i≤xs.length->Pv i σ H->SqL K H a xs)
  (hs:∀ i x σ H,xs[i]?=some x->Pv i σ H->g x σ H fun σ2 H2=>tb { D with nx:=Pv (i+1),ct:=Pv (i+1),bk:=D.nx } σ2 H2) (hd:∀ σ H,Pv xs.length σ H->D.nx σ H) :
  ∃ W:Nat->Nat->St->Hp->Prop,(∃ m,W 0 m σ H)∧∀ i m σ H,W i m σ H ->
   ((Itl K a).stop i H∧D.nx σ H)∨((Itl K a).go i H∧∃ N:St->Hp->Prop,(∀ σ' H',N σ' H'->∃ m',m'<m∧W (i+1) m' σ' H')∧∀ x H',(Itl K a).yld i H x H'->g x σ H' fun σ2 H2=>tb { D with nx:=N,ct:=N,bk:=D.nx } σ2 H2):=by
 refine⟨fun i m σ H=>m=xs.length-i∧i≤xs.length∧Pv i σ H,⟨xs.length,by simp,Nat.zero_le _,h0⟩,?_⟩
 rintro i m σ H ⟨rfl,hi,p⟩
 have q:=hl i σ H hi p
 by_cases hlt:i<xs.length
 ·refine .inr ⟨⟨xs,xs[i],q,by simp [hlt]⟩,Pv (i+1),fun σ' H' p'=>⟨xs.length-(i+1),by omega,rfl,hlt,p'⟩,fun x H' y=>?_⟩
  obtain⟨e,y⟩:=y
  subst e
  exact hs i x σ _ (y xs q) p
 ·have e:i=xs.length:=by omega
  subst e
  exact .inl ⟨⟨xs,q,Nat.le_refl _⟩,hd σ H p⟩
theorem vB {lo:Int} {n:Nat} {g:TG} {tb:TS} {D:Ends} {σ:St} {H:Hp} (Pv:Nat->St->Hp->Prop) (h0:Pv 0 σ H)
  (hs:∀ i σ H,i<n->Pv i σ H->g (.int (lo+i)) σ H fun σ2 H2=>tb { D with nx:=Pv (i+1),ct:=Pv (i+1),bk:=D.nx } σ2 H2) (hd:∀ σ H,Pv n σ H->D.nx σ H) :
  ∃ W:Nat->Nat->St->Hp->Prop,(∃ m,W 0 m σ H)∧∀ i m σ H,W i m σ H ->
   ((Itr lo n).stop i H∧D.nx σ H)∨((Itr lo n).go i H∧∃ N:St->Hp->Prop,(∀ σ' H',N σ' H'->∃ m',m'<m∧W (i+1) m' σ' H')∧∀ x H',(Itr lo n).yld i H x H'->g x σ H' fun σ2 H2=>tb { D with nx:=N,ct:=N,bk:=D.nx } σ2 H2):=by
 refine⟨fun i m σ H=>m=n-i∧i≤n∧Pv i σ H,⟨n,by simp,Nat.zero_le _,h0⟩,?_⟩
 rintro i m σ H ⟨rfl,hi,p⟩
 by_cases hlt:i<n
 ·refine .inr ⟨hlt,Pv (i+1),fun σ' H' p'=>⟨n-(i+1),by omega,rfl,hlt,p'⟩,fun x H' y=>?_⟩
  obtain⟨e,y⟩:=y
  subst e y
  exact hs i σ _ hlt p
 ·have e:i=n:=by omega
  subst e
  exact .inl ⟨Nat.le_refl _,hd σ H p⟩
theorem Vc {c:TT} {tb:TS} {D:Ends} {σ:St} {H:Hp} (Pv:St->Hp->Prop) (μ:St->Hp->Nat) (h0:Pv σ H)
  (hs:∀ σ H,Pv σ H->c σ H fun b H1=>if b=true then tb { D with nx:=fun σ' H'=>Pv σ' H'∧μ σ' H'<μ σ H,ct:=fun σ' H'=>Pv σ' H'∧μ σ' H'<μ σ H,bk:=D.nx } σ H1 else D.nx σ H1)
  (mono:∀ σ H Q Q',(∀ b H1,Q b H1->Q' b H1)->c σ H Q->c σ H Q'):zay c tb D σ H:=by
 refine⟨fun m σ H=>m=μ σ H∧Pv σ H,⟨_,rfl,h0⟩,?_⟩
 rintro m σ H ⟨rfl,p⟩
 refine mono σ H _ _ (fun b H1 q=>?_) (hs σ H p)
 cases b with
 | true=>exact⟨_,fun σ' H' ⟨p',l⟩=>⟨_,l,rfl,p'⟩,q⟩
 | false=>exact q
abbrev R2:=V->V->Hp->VK->Prop
def OpR (X:Cx) (f:Value->Value->Sem Value) (r:R2):Prop :=
 ∀ (pins:List (Addr×Obj)) (s:Shared) (σ:St) (H:Hp) (x y:V) (v u:Value) (Q:VK),Inv X pins σ H s->RelV x v->RelV y u->r x y H Q ->
  wpAny (model X.prog X.w) X.A (f v u) (EP X pins σ Q) X.xe s
def UnR (X:Cx) (f:Value->Sem Value) (r:V->Hp->VK->Prop):Prop :=
 ∀ (pins:List (Addr×Obj)) (s:Shared) (σ:St) (H:Hp) (x:V) (v:Value) (Q:VK),Inv X pins σ H s->RelV x v->r x H Q ->
  wpAny (model X.prog X.w) X.A (f v) (EP X pins σ Q) X.xe s
def wy (X:Cx) (f:Value) (r:List V->Hp->VK->Prop):Prop :=
 ∀ (pins:List (Addr×Obj)) (s:Shared) (σ:St) (H:Hp) (xs:List V) (us:List Value) (Q:VK),Inv X pins σ H s->Vals xs us->r xs H Q ->
  wpAny (model X.prog X.w) X.A (call f us) (EP X pins σ Q) X.xe s
def tOp (r:R2) (ta tb:TE):TE:=fun σ H Q=>ta σ H fun x H1=>tb σ H1 fun y H2=>r x y H2 Q
def tUn (r:V->Hp->VK->Prop) (ta:TE):TE:=fun σ H Q=>ta σ H fun x H1=>r x H1 Q
def rI (C:Int->Int->Prop) (g:Int->Int->V):R2:=fun x y H Q=>∃ i j,x=.int i∧y=.int j∧C i j∧Q (g i j) H
def rI0 (g:Int->Int->V):R2:=fun x y H Q=>∃ i j,x=.int i∧y=.int j∧Q (g i j) H
def rU (g:Int->V):V->Hp->VK->Prop:=fun x H Q=>∃ i,x=.int i∧Q (g i) H
section
variable {X:Cx} {a b c:Expr} {ta tb tc:TE} {pos:Pos}
theorem zey (ha:PE X a ta) (hb:PE X b tb) {pins:List (Addr×Obj)} {s:Shared} {σ:St} {H:Hp} {R:V->V->Hp->Prop} (I:Inv X pins σ H s)
  (h:ta σ H fun x H1=>tb σ H1 fun y H2=>R x y H2) {Q:Value->Shared->Prop} {f:Value->Value->Sem Value}
  (hf:∀ v u s2 x y H2,Inv X pins σ H2 s2->RelV x v->RelV y u->R x y H2->wpAny (model X.prog X.w) X.A (f v u) Q X.xe s2) :
  wpAny (model X.prog X.w) X.A (eval a X.env) (fun v s₁=>wpAny (model X.prog X.w) X.A (eval b X.env) (fun u s₂=>wpAny (model X.prog X.w) X.A (f v u) Q X.xe s₂) X.xe s₁) X.xe s:=by
 refine thn (ha pins s σ H _ I h) fun v s1 ⟨x,H1,I1,r1,q1⟩=>?_
 refine thn (hb pins s1 σ H1 _ I1 q1) fun u s2 ⟨y,H2,I2,r2,q2⟩=>?_
 exact hf v u s2 x y H2 I2 r1 r2 q2
theorem zQ {op:Operator} {r:R2} (ho:OpR X (binaryOp op) r) (ha:PE X a ta) (hb:PE X b tb):PE X (.BinOp a op b pos) (tOp r ta tb):=by
 intro pins s σ H Q I h
 exact wpAny_BinOp (zey ha hb I h fun v u s2 x y H2 I2 rx ry q=>ho pins s2 σ H2 x y v u Q I2 rx ry q)
theorem za6 {op:UnaryOp} {r:V->Hp->VK->Prop} (ho:UnR X (unaryOp op) r) (ha:PE X a ta):PE X (.UnaryOp op a pos) (tUn r ta):=by
 intro pins s σ H Q I h
 exact UnaryOp_ (thn (ha pins s σ H _ I h) fun v s1 ⟨x,H1,I1,r1,q1⟩=>ho pins s1 σ H1 x v Q I1 r1 q1)
theorem opI {f:Value->Value->Sem Value} {C:Int->Int->Prop} {g:Int->Int->Int}
  (rule:∀ (i j:Int) (t u:Tok) (s:Shared) (Q:Value->Shared->Prop) (E:Value->Shared->Prop),C i j->Q (.int (g i j) s.toks) { s with toks:=s.toks+1 }->wpAny (model X.prog X.w) X.A (f (.int i t) (.int j u)) Q E s) :
  OpR X f (rI C fun i j=>.int (g i j)):=by
 intro pins s σ H x y v u Q I rx ry h
 obtain⟨i,j,rfl,rfl,hc,q⟩:=h
 obtain⟨t,rfl⟩:=rx
 obtain⟨t',rfl⟩:=ry
 exact rule i j t t' s _ _ hc ⟨.int (g i j),H,I.tok _,⟨_,rfl⟩,q⟩
theorem zfc {f:Value->Value->Sem Value} {g:Int->Int->Int}
  (rule:∀ (i j:Int) (t u:Tok) (s:Shared) (Q:Value->Shared->Prop) (E:Value->Shared->Prop),Q (.int (g i j) s.toks) { s with toks:=s.toks+1 }->wpAny (model X.prog X.w) X.A (f (.int i t) (.int j u)) Q E s) :
  OpR X f (rI0 fun i j=>.int (g i j)):=by
 intro pins s σ H x y v u Q I rx ry h
 obtain⟨i,j,rfl,rfl,q⟩:=h
 obtain⟨t,rfl⟩:=rx
 obtain⟨t',rfl⟩:=ry
 exact rule i j t t' s _ _ ⟨.int (g i j),H,I.tok _,⟨_,rfl⟩,q⟩
theorem zdn {f:Value->Value->Sem Value} {g:Int->Int->Bool}
  (rule:∀ (i j:Int) (t u:Tok) (s:Shared) (Q:Value->Shared->Prop) (E:Value->Shared->Prop),Q (.bool (g i j)) s->wpAny (model X.prog X.w) X.A (f (.int i t) (.int j u)) Q E s) :
  OpR X f (rI0 fun i j=>.bl (g i j)):=by
 intro pins s σ H x y v u Q I rx ry h
 obtain⟨i,j,rfl,rfl,q⟩:=h
 obtain⟨t,rfl⟩:=rx
 obtain⟨t',rfl⟩:=ry
 exact rule i j t t' s _ _ ⟨.bl (g i j),H,I,rfl,q⟩
def zf2 (i j:Int):Prop:=0≤j∧j≤1000000∧i.natAbs<2^64
def CMul (i j:Int):Prop:=(-(2^64)<i∧i<2^64)∨(-(2^64)<j∧j<2^64)
theorem CMul.ok {i j:Int} (h:CMul i j):IntMulOk i j:=by
 rcases h with ⟨h1,h2⟩ | ⟨h1,h2⟩
 ·exact .of_left (intBits_le_64 h1 h2)
 ·exact .of_right (intBits_le_64 h1 h2)
theorem xn:OpR X (binaryOp .Add) (rI0 fun i j=>.int (i+j)):=zfc fun _ _ _ _ _ _ _ q=>add_int q
theorem Ve:OpR X (binaryOp .Sub) (rI0 fun i j=>.int (i-j)):=zfc fun _ _ _ _ _ _ _ q=>sub_int q
theorem Xm:OpR X (binaryOp .Mult) (rI CMul fun i j=>.int (i*j)):=opI fun _ _ _ _ _ _ _ hc q=>mul_int q hc.ok
theorem Yw:OpR X (binaryOp .Mod) (rI (fun _ j=>0<j) fun i j=>.int (i % j)):=opI fun i j _ _ _ _ _ hc q=>by
 have h1:(0:Int)<j:=hc
 exact mod_int' (by omega) (by rw [Int.fmod_eq_emod_of_nonneg i (by omega)];exact q)
theorem zeP:OpR X (binaryOp .Pow) (rI zf2 fun i j=>.int (i^j.toNat)):=opI fun _ _ _ _ _ _ _ hc q=>pow_int_small hc.1 hc.2.1 hc.2.2 q
theorem unI {f:Value->Sem Value} {g:Int->Int}
  (rule:∀ (i:Int) (t:Tok) (s:Shared) (Q:Value->Shared->Prop) (E:Value->Shared->Prop),Q (.int (g i) s.toks) { s with toks:=s.toks+1 }->wpAny (model X.prog X.w) X.A (f (.int i t)) Q E s) :
  UnR X f (rU fun i=>.int (g i)):=by
 intro pins s σ H x v Q I rx h
 obtain⟨i,rfl,q⟩:=h
 obtain⟨t,rfl⟩:=rx
 exact rule i t s _ _ ⟨.int (g i),H,I.tok _,⟨_,rfl⟩,q⟩
theorem Qp:UnR X (unaryOp .USub) (rU fun i=>.int (-i)):=unI fun _ _ _ _ _ q=>neg_int q
end
def zfz:V->V->Bool
 | .non,.non=>true | .non,.int _=>true | .int _,.non=>true | .non,.bl _=>true | .bl _,.non=>true | .non,.str _=>true | .str _,.non=>true
 | .int _,.int _=>true | .bl _,.bl _=>true | .str _,.str _=>true | .byt _,.byt _=>true
 | .int _,.str _=>true | .str _,.int _=>true | .bl _,.str _=>true | .str _,.bl _=>true
 | _,_=>false
def rEq:R2:=fun x y H Q=>zfz x y=true∧Q (.bl (decide (x=y))) H
def rNe:R2:=fun x y H Q=>zfz x y=true∧Q (.bl (!decide (x=y))) H
theorem za9 {i j:Int}:decide (V.int i=V.int j)=(i == j):=by
 rw [Bool.eq_iff_iff]
 simp
theorem zcB {i j:Bool}:decide (V.bl i=V.bl j)=(i == j):=by
 rw [Bool.eq_iff_iff]
 simp
theorem zaI {i j:Str}:decide (V.str i=V.str j)=(i == j):=by
 rw [Bool.eq_iff_iff]
 simp
theorem zaQ {i j:Array UInt8}:decide (V.byt i=V.byt j)=(i.toList == j.toList):=by
 rw [Bool.eq_iff_iff]
 cases i
 cases j
 simp
section
variable {X:Cx} {a b c:Expr} {ta tb tc:TE} {pos:Pos}
theorem yg {pins:List (Addr×Obj)} {σ:St} {H:Hp} {s:Shared} {Q:VK} {k k':Bool} (I:Inv X pins σ H s) (q:Q (.bl k) H) (e:k=k'):EP X pins σ Q (.bool k') s:=by
 subst e
 exact⟨.bl k,H,I,rfl,q⟩
theorem Uo:OpR X (compareOp .Eq) rEq:=by
 intro pins s σ H x y v u Q I rx ry h
 obtain⟨hs,q⟩:=h
 cases x with
 | non =>
  cases rx
  cases y with
  | non=>cases ry;exact PySem.EqNone.eq_none_none (yg I q (by simp))
  | bl j=>cases ry;exact PySem.EqNone.eq_none_bool (yg I q (by simp))
  | int j=>obtain⟨t',rfl⟩:=ry;exact PySem.EqNone.eq_none_int (yg I q (by simp))
  | str j=>obtain⟨t',rfl⟩:=ry;exact PySem.EqNone.eq_none_str (yg I q (by simp))
  | _=>exact absurd (show false=true from hs) Bool.false_ne_true
 | bl i =>
  cases rx
  cases y with
  | non=>cases ry;exact PySem.EqNone.eq_bool_none (yg I q (by simp))
  | bl j=>cases ry;exact eq_bool (yg I q zcB)
  | str j=>obtain⟨t',rfl⟩:=ry;exact PySem.EqMixed.eq_bool_str (yg I q (by simp))
  | _=>exact absurd (show false=true from hs) Bool.false_ne_true
 | int i =>
  obtain⟨t,rfl⟩:=rx
  cases y with
  | non=>cases ry;exact PySem.EqNone.eq_int_none (yg I q (by simp))
  | int j=>obtain⟨t',rfl⟩:=ry;exact eq_int (yg I q za9)
  | str j=>obtain⟨t',rfl⟩:=ry;exact PySem.EqMixed.eq_int_str (yg I q (by simp))
  | _=>exact absurd (show false=true from hs) Bool.false_ne_true
 | str i =>
  obtain⟨t,rfl⟩:=rx
  cases y with
  | non=>cases ry;exact PySem.EqNone.eq_str_none (yg I q (by simp))
  | bl j=>cases ry;exact PySem.EqMixed.eq_str_bool (yg I q (by simp))
  | int j=>obtain⟨t',rfl⟩:=ry;exact PySem.EqMixed.eq_str_int (yg I q (by simp))
  | str j=>obtain⟨t',rfl⟩:=ry;exact eq_str (yg I q zaI)
  | _=>exact absurd (show false=true from hs) Bool.false_ne_true
 | byt i =>
  obtain⟨t,rfl⟩:=rx
  cases y with
  | byt j=>obtain⟨t',rfl⟩:=ry;exact PySem.W.eq_bytes (yg I q zaQ)
  | _=>exact absurd (show false=true from hs) Bool.false_ne_true
 | _=>cases y<;>exact absurd (show false=true from hs) Bool.false_ne_true
theorem zcQ:OpR X (compareOp .NotEq) rNe:=by
 intro pins s σ H x y v u Q I rx ry h
 obtain⟨hs,q⟩:=h
 cases x with
 | non =>
  cases rx
  cases y with
  | non=>cases ry;exact PySem.EqNone.ne_none_none (yg I q (by simp))
  | bl j=>cases ry;exact PySem.EqNone.ne_none_bool (yg I q (by simp))
  | int j=>obtain⟨t',rfl⟩:=ry;exact PySem.EqNone.ne_none_int (yg I q (by simp))
  | str j=>obtain⟨t',rfl⟩:=ry;exact PySem.EqNone.ne_none_str (yg I q (by simp))
  | _=>exact absurd (show false=true from hs) Bool.false_ne_true
 | bl i =>
  cases rx
  cases y with
  | non=>cases ry;exact PySem.EqNone.ne_bool_none (yg I q (by simp))
  | bl j=>cases ry;exact ne_bool (yg I q (congrArg not zcB))
  | str j=>obtain⟨t',rfl⟩:=ry;exact PySem.EqMixed.ne_bool_str (yg I q (by simp))
  | _=>exact absurd (show false=true from hs) Bool.false_ne_true
 | int i =>
  obtain⟨t,rfl⟩:=rx
  cases y with
  | non=>cases ry;exact PySem.EqNone.ne_int_none (yg I q (by simp))
  | int j=>obtain⟨t',rfl⟩:=ry;exact ne_int (yg I q (congrArg not za9))
  | str j=>obtain⟨t',rfl⟩:=ry;exact PySem.EqMixed.ne_int_str (yg I q (by simp))
  | _=>exact absurd (show false=true from hs) Bool.false_ne_true
 | str i =>
  obtain⟨t,rfl⟩:=rx
  cases y with
  | non=>cases ry;exact PySem.EqNone.ne_str_none (yg I q (by simp))
  | bl j=>cases ry;exact PySem.EqMixed.ne_str_bool (yg I q (by simp))
  | int j=>obtain⟨t',rfl⟩:=ry;exact PySem.EqMixed.ne_str_int (yg I q (by simp))
  | str j=>obtain⟨t',rfl⟩:=ry;exact ne_str (yg I q (congrArg not zaI))
  | _=>exact absurd (show false=true from hs) Bool.false_ne_true
 | byt i =>
  obtain⟨t,rfl⟩:=rx
  cases y with
  | byt j=>obtain⟨t',rfl⟩:=ry;exact PySem.W.ne_bytes (yg I q (congrArg not zaQ))
  | _=>exact absurd (show false=true from hs) Bool.false_ne_true
 | _=>cases y<;>exact absurd (show false=true from hs) Bool.false_ne_true
theorem zd6:OpR X (compareOp .Lt) (rI0 fun i j=>.bl (decide (i<j))):=zdn fun _ _ _ _ _ _ _ q=>lt_int q
theorem WN:OpR X (compareOp .LtE) (rI0 fun i j=>.bl (decide (i≤j))):=zdn fun _ _ _ _ _ _ _ q=>le_int q
theorem QT:OpR X (compareOp .Gt) (rI0 fun i j=>.bl (decide (j<i))):=zdn fun _ _ _ _ _ _ _ q=>gt_int q
theorem ze4:OpR X (compareOp .GtE) (rI0 fun i j=>.bl (decide (j≤i))):=zdn fun _ _ _ _ _ _ _ q=>ge_int q
theorem zeZ:OpR X (compareOp .Is) (fun x y H Q=>y=.non∧Q (.bl (decide (x=.non))) H):=by
 intro pins s σ H x y v u Q I rx ry h
 obtain⟨rfl,q⟩:=h
 cases ry
 refine is_none_gen (yg I q ?_)
 cases x<;>first
  | (cases rx;rfl)
  | (obtain⟨t,rfl⟩:=rx;rfl)
theorem Y4:OpR X (compareOp .IsNot) (fun x y H Q=>y=.non∧Q (.bl (!decide (x=.non))) H):=by
 intro pins s σ H x y v u Q I rx ry h
 obtain⟨rfl,q⟩:=h
 cases ry
 refine isnot_none_gen (yg I q ?_)
 cases x<;>first
  | (cases rx;rfl)
  | (obtain⟨t,rfl⟩:=rx;rfl)
theorem zU (b:Expr) {op:CmpOp} (h:op≠.In:=by decide) (h2:op≠.NotIn:=by decide):behindInMarks op b=false:=by
 have e1:(op == CmpOp.In)=false:=by cases op<;>first | rfl | exact absurd rfl h
 have e2:(op == CmpOp.NotIn)=false:=by cases op<;>first | rfl | exact absurd rfl h2
 cases b<;>simp [behindInMarks,e1,e2]
theorem uJ {op:CmpOp} {r:R2} (ho:OpR X (compareOp op) r) (ha:PE X a ta) (hb:PE X b tb) (hm:behindInMarks op b=false):PE X (.Compare a [op] [b] pos) (tOp r ta tb):=by
 intro pins s σ H Q I h
 exact wpAny_Compare1 (zey ha hb I h fun v u s2 x y H2 I2 rx ry q=>ho pins s2 σ H2 x y v u Q I2 rx ry q) hm
def zfF (t:TE):TT:=fun σ H Q=>t σ H fun x H'=>∃ k,x=.bl k∧Q k H'
theorem zM {op:CmpOp} {r:R2} (ho:OpR X (compareOp op) r) (ha:PE X a ta) (hb:PE X b tb) (hm:behindInMarks op b=false):PT X (.Compare a [op] [b] pos) (zfF (tOp r ta tb)):=by
 intro pins s σ H Q I h
 refine wpAny_isTrue_Compare1 (thn (ha pins s σ H _ I h) fun v s1 ⟨x,H1,I1,r1,q1⟩=>thn (hb pins s1 σ H1 _ I1 q1) fun u s2 ⟨y,H2,I2,r2,q2⟩ =>
  thn (ho pins s2 σ H2 x y v u _ I2 r1 r2 q2) fun c s3 ⟨z,H3,I3,r3,k,e,q3⟩=>?_) hm
 subst e
 cases r3
 exact wpAny_truthy_bool ⟨H3,I3,q3⟩
def zep (r r':R2) (ta tb tc:TE):TE:=fun σ H Q=>ta σ H fun x H1=>tb σ H1 fun y H2=>r x y H2 fun z H3=>∃ k,z=.bl k ∧
 (if k=true then tc σ H3 fun w' H4=>r' y w' H4 Q else Q (.bl false) H3)
theorem WY {op op':CmpOp} {r r':R2} (ho:OpR X (compareOp op) r) (ho':OpR X (compareOp op') r') (ha:PE X a ta) (hb:PE X b tb) (hc:PE X c tc)
  (hm:lastMarks [op,op'] [b,c]=false:=by with_unfolding_all rfl):PE X (.Compare a [op,op'] [b,c] pos) (zep r r' ta tb tc):=by
 intro pins s σ H Q I h
 refine Compare_chain (thn (ha pins s σ H _ I h) fun v s1 ⟨x,H1,I1,r1,q1⟩=>chain_link (thn (hb pins s1 σ H1 _ I1 q1) fun u s2 ⟨y,H2,I2,r2,q2⟩ =>
  thn (ho pins s2 σ H2 x y v u _ I2 r1 r2 q2) fun d s3 ⟨z,H3,I3,r3,k,e,q3⟩=>?_)) hm
 subst e
 cases r3
 refine wpAny_truthy_bool ?_
 cases k with
 | false=>exact ite_ff ⟨.bl false,H3,I3,rfl,q3⟩
 | true=>exact ite_tt (chain_last (thn (hc pins s3 σ H3 _ I3 q3) fun w' s4 ⟨z',H4,I4,r4,q4⟩=>ho' pins s4 σ H4 y z' u w' Q I4 r2 r4 q4))
theorem Qo:(sizeLine:Nat)<2^63:=by rw [sizeLine_eq];decide
theorem vals1 {x:V} {us:List Value} (r:Vals [x] us):∃ u,us=[u]∧RelV x u:=by
 cases r with
 | cons r1 r2=>cases r2;exact⟨_,rfl,r1⟩
theorem vals2 {x y:V} {us:List Value} (r:Vals [x,y] us):∃ u w',us=[u,w']∧RelV x u∧RelV y w':=by
 cases r with
 | cons r1 r2 =>
  cases r2 with
  | cons r3 r4=>cases r4;exact⟨_,_,rfl,r1,r3⟩
theorem zbe (hc:X.calm=true):wy X (.builtin "max") (fun xs H Q=>∃ i j,xs=[.int i,.int j]∧Q (.int (if j>i then j else i)) H):=by
 intro pins s σ H xs us Q I r h
 obtain⟨i,j,rfl,q⟩:=h
 obtain⟨u,w',rfl,⟨t,rfl⟩,⟨t',rfl⟩⟩:=vals2 r
 refine max_two_ints (I.ok.hd hc) fun h' tk k=>⟨_,H,I.kept k,?_,q⟩
 by_cases hj:j>i
 ·rw [if_pos hj,if_pos hj];exact⟨_,rfl⟩
 ·rw [if_neg hj,if_neg hj];exact⟨_,rfl⟩
theorem Uz (hc:X.calm=true):wy X (.builtin "min") (fun xs H Q=>∃ i j,xs=[.int i,.int j]∧Q (.int (if j<i then j else i)) H):=by
 intro pins s σ H xs us Q I r h
 obtain⟨i,j,rfl,q⟩:=h
 obtain⟨u,w',rfl,⟨t,rfl⟩,⟨t',rfl⟩⟩:=vals2 r
 refine min_two_ints (I.ok.hd hc) fun h' tk k=>⟨_,H,I.kept k,?_,q⟩
 by_cases hj:j<i
 ·rw [if_pos hj,if_pos hj];exact⟨_,rfl⟩
 ·rw [if_neg hj,if_neg hj];exact⟨_,rfl⟩
theorem zbi:wy X (.type "int") (fun xs H Q=>(∃ i,xs=[.int i]∧Q (.int i) H)∨∃ k,xs=[.bl k]∧Q (.int (if k then 1 else 0)) H):=by
 intro pins s σ H xs us Q I r h
 rcases h with ⟨i,rfl,q⟩ | ⟨k,rfl,q⟩
 ·obtain⟨u,rfl,t,rfl⟩:=vals1 r
  exact call_int_int ⟨.int i,H,I,⟨_,rfl⟩,q⟩
 ·obtain⟨u,rfl,r1⟩:=vals1 r
  cases r1
  exact call_int_bool ⟨.int (if k then 1 else 0),H,I.tok _,⟨_,rfl⟩,q⟩
end
structure ObjM (h:Heap) (x dx C:Addr) (mA:Str->Option Value):Prop where
 obj:h.get? x=some (PySem.W.instObj C dx)
 ns:h.Ns1 dx mA
 ne:dx≠x
theorem zbS {h:Heap} {dx:Addr} {mA:Str->Option Value} (n:h.Ns1 dx mA):∃ od,h.get? dx=some od∧∀ name,PySem.W.lookIn name od=some (mA name):=by
 obtain⟨o,es,ep,ho,hd,hk,_,hm⟩:=n
 refine⟨o,ho,fun name=>?_⟩
 have e:=hm name
 unfold nsFind findBy at e
 rw [← Array.find?_toList] at e
 unfold PySem.W.lookIn
 rw [hd]
 dsimp only
 split
 ·rename_i y q
  rw [q] at e
  exact congrArg some e
 ·rename_i q
  rw [q] at e
  have a:es.toList.any (·.refKey)=false:=by
   rw [List.any_eq_false]
   intro y hy
   obtain⟨z,t,hkey⟩:=hk y (Array.mem_toList_iff.mp hy)
   simp [DictEntry.refKey,hkey]
  have a':¬ es.toList.any (·.refKey)=true:=by rw [a];exact Bool.false_ne_true
  rw [if_neg a']
  exact congrArg some e
theorem ObjM.look {h:Heap} {x dx C:Addr} {mA:Str->Option Value} (I:ObjM h x dx C mA):∃ od,PySem.W.InstAt h x (PySem.W.instObj C dx) C (some od)∧∀ name,PySem.W.lookIn name od=some (mA name) :=
 let ⟨od,ho,hl⟩:=zbS I.ns
 ⟨od,⟨I.obj,rfl,rfl,ho⟩,hl⟩
section
variable {prog:Program} {w:World} {A:Around} {E:Value->Shared->Prop} {s:Shared} {K:PySem.W.Frag} {x dx C f:Addr} {mA:Str->Option Value} {name:Str} {v:Value}
theorem zdj {expr:Bool} {Q:Value->Shared->Prop} (X:K.In s.heap) (I:ObjM s.heap x dx C mA) (hg:PySem.W.plainGet K C name=true) (hh:PySem.W.hasDictIn K C=true)
  (ha:PySem.W.findIn K (.ref C) name=some none) (hv:mA name=some v) (hv':PySem.W.handedIn v=true) (h:Q v { s with toks:=s.toks+1 }) :
  wpAny (model prog w) A (getAttr (.ref x) name expr) Q E s:=by
 obtain⟨od,J,hl⟩:=I.look
 exact PySem.W.get_value X J (PySem.W.plainGet_of hg).1 (PySem.W.findObj_own hh ha rfl (by rw [hl,hv])) hv' h
theorem zbY {pl:Sem Bool} {Q:Value×List Value->Shared->Prop} (X:K.In s.heap) (I:ObjM s.heap x dx C mA) (hg:PySem.W.plainGet K C name=true)
  (hf:PySem.W.findIn K (.ref C) name=some (some (.ref f))) (ht:PySem.W.isFn K (.ref f)=true) (hv:mA name=none) (h:Q (.ref f,[.ref x]) s) :
  wpAny (model prog w) A (getMethod (.ref x) name pl) Q E s:=by
 obtain⟨od,J,hl⟩:=I.look
 exact PySem.W.method_fn X J (PySem.W.plainGet_of hg).1 (PySem.W.plainGet_of hg).2 hf (beq_iff_eq.mp ht) (by show (PySem.W.lookIn name od).map (·.isSome)=some false;rw [hl,hv];rfl) h
theorem zdG {ns:List Str} {Q:Unit->Shared->Prop} (X:K.In s.heap) (I:ObjM s.heap x dx C mA)
  (hs:PySem.W.findIn K (.ref C) "__setattr__" = some (some (.builtin "object.__setattr__"))) (hp:PySem.W.plainOver K C=true) (ht:PySem.W.takerIn K C name=some none) (hh:PySem.W.hasDictIn K C=true)
  (hw:PySem.Within mA ns) (hsz:ns.length≤sizeLine)
  (h:∀ h',ObjM h' x dx C (fun y=>if y=name then some v else mA y)->Heap.SameBut dx s.heap h'->Q () { s with heap:=h',toks:=s.toks+2 }) :
  wpAny (model prog w) A (setAttr (.ref x) name v) Q E s:=by
 obtain⟨od,J,hl⟩:=I.look
 refine PySem.W.set_plain X J hs (PySem.W.osa_open (s:={ s with toks:=s.toks+1 }) (r:=none) X J hp ht fun b=>?_)
 obtain⟨cd,hc,hd'⟩:=PySem.W.any_some hh
 have hx:s.heap.get? x=some ⟨.ref C,some dx,.plain,#[]⟩:=I.obj
 refine wpAny_bind (wpAny_pure (wpAny_bind (wpAny_bind (wpAny_loadPart hx (wpAny_bind (PySem.W.Looks.here (s:={ s with toks:=s.toks+1 }) (PySem.W.looks_clsIn X hc) ?_))))))
 rw [hd']
 refine wpAny_pure (a:=some dx) (wpAny_bind (wpAny_pure (wpAny_bind ?_)))
 refine wpAny_nsSet1 (s:={ s with toks:=s.toks+1 }) I.ns fun h' hn2 hs2=>?_
 obtain⟨oD,esD,epD,hoD,hdD,hcD⟩:=hn2.count (PySem.Within.cons name v hw)
 refine wpAny_bind (wpAny_lookBehind hoD (by rw [hdD];exact pastItsLine_dict (Nat.le_trans hcD (by rw [List.length_cons];omega))) ?_)
 exact wpAny_pure (h _ ⟨(hs2.2 _ (Ne.symm I.ne)).trans I.obj,hn2,I.ne⟩ hs2)
theorem zcv {R:Result->Shared->Prop} {vs:List Value} {kw:List (Str×Value)} (X:K.In s.heap) (hm:PySem.W.makesIn K C=true)
  (hi:PySem.W.findIn K (.ref C) "__init__" = some (some (.ref f))) (hf:PySem.W.typeIn K (.ref f)=some (.type "function"))
  (h:codeAny (model prog w) (A.under (.builtin "type.__call__" ⟨.ref C :: vs,kw⟩)) (.call (.ref f) ⟨.ref (s.heap.objs.size+1) :: vs,kw⟩) (PySem.W.InitBack (s.heap.objs.size+1) R)
   { s with heap:=(s.heap.push PySem.W.emptyDict).push (PySem.W.instObj C s.heap.objs.size) }) :
  codeAny (model prog w) A (.call (.ref C) ⟨vs,kw⟩) R s:=by
 obtain⟨hh,g,d,t,os⟩:=s
 exact PySem.W.make_core (PySem.W.makes_of X hm) (PySem.W.looks_findIn X hi) (fun self=>PySem.W.bind_fn X self hf) (.inl rfl) h
end
def xN (f:Str) (v:V):List (Str×V)->List (Str×V)
 | []=>[(f,v)]
 | (g,x) :: r=>if g=f then (g,v) :: r else (g,x) :: xN f v r
theorem zT (f g:Str) (v:V):∀ fs:List (Str×V),(xN f v fs).lookup g=if g=f then some v else fs.lookup g
 | []=>by
  show List.lookup g [(f,v)]=_
  by_cases h:g=f
  ·have hb:(g == f)=true:=beq_iff_eq.mpr h
   simp only [List.lookup,hb,if_pos h]
  ·have hb:(g == f)=false:=beq_eq_false_iff_ne.mpr h
   simp only [List.lookup,hb,if_neg h]
 | (k,x) :: r=>by
  have ih:=zT f g v r
  rw [show xN f v ((k,x) :: r)=(if k=f then (k,v) :: r else (k,x) :: xN f v r) from rfl]
  by_cases hk:k=f
  ·rw [if_pos hk]
   by_cases h:g=k
   ·have hb:(g == k)=true:=beq_iff_eq.mpr h
    simp only [List.lookup,hb,if_pos (h.trans hk)]
   ·have hb:(g == k)=false:=beq_eq_false_iff_ne.mpr h
    simp only [List.lookup,hb,if_neg (fun e:g=f=>h (e.trans hk.symm))]
  ·rw [if_neg hk]
   by_cases h:g=k
   ·have hb:(g == k)=true:=beq_iff_eq.mpr h
    simp only [List.lookup,hb,if_neg (fun e:g=f=>hk (h.symm.trans e))]
   ·have hb:(g == k)=false:=beq_eq_false_iff_ne.mpr h
    simp only [List.lookup,hb]
    exact ih
theorem Xv (f:Str) (v:V):∀ fs:List (Str×V),f∈(xN f v fs).map (·.1)∧∀ g,g∈fs.map (·.1)->g∈(xN f v fs).map (·.1)
 | []=>⟨by simp [xN],fun g h=>by simp at h⟩
 | (k,x) :: r=>by
  obtain⟨i1,i2⟩:=Xv f v r
  rw [show xN f v ((k,x) :: r)=(if k=f then (k,v) :: r else (k,x) :: xN f v r) from rfl]
  by_cases hk:k=f
  ·rw [if_pos hk]
   subst hk
   exact⟨by simp,fun g h=>by simpa using h⟩
  ·rw [if_neg hk]
   refine⟨?_,fun g h=>?_⟩
   ·rw [List.map_cons]
    exact List.mem_cons_of_mem _ i1
   ·rw [List.map_cons] at h ⊢
    rcases List.mem_cons.mp h with e | e
    ·exact List.mem_cons.mpr (.inl e)
    ·exact List.mem_cons_of_mem _ (i2 g e)
theorem uP (f:Str) (v:V):∀ fs:List (Str×V),(xN f v fs).length≤fs.length+1
 | []=>by simp [xN]
 | (k,x) :: r=>by
  have ih:=uP f v r
  rw [show xN f v ((k,x) :: r)=(if k=f then (k,v) :: r else (k,x) :: xN f v r) from rfl]
  by_cases hk:k=f
  ·rw [if_pos hk,List.length_cons,List.length_cons];omega
  ·rw [if_neg hk,List.length_cons,List.length_cons];omega
theorem RelO.some_of {v:V} {o:Option Value} (r:RelO (some v) o):∃ u,o=some u∧RelV v u:=by
 cases o with
 | none=>exact (show False from r).elim
 | some u=>exact⟨u,rfl,r⟩
theorem RelO.none_of {o:Option Value} (r:RelO none o):o=none:=by
 cases o with
 | none=>rfl
 | some u=>exact (show False from r).elim
theorem zbB {v:V} {u:Value} (r:RelV v u):PySem.W.handedIn u=true:=by
 cases v with
 | non=>cases (show u=Value.none from r);rfl
 | bl b=>cases (show u=Value.bool b from r);rfl
 | int i=>obtain⟨t,e⟩:=(show ∃ t,u=Value.int i t from r);cases e;rfl
 | str x=>obtain⟨t,e⟩:=(show ∃ t,u=Value.str x t from r);cases e;rfl
 | byt b=>obtain⟨t,e⟩:=(show ∃ t,u=Value.bytes b t from r);cases e;rfl
 | flt b=>obtain⟨t,e⟩:=(show ∃ t,u=Value.float b t from r);cases e;rfl
 | ref a=>cases (show u=Value.ref a from r);rfl
 | ty n=>cases (show u=Value.type n from r);rfl
section
variable {P:Program} {w:World} {H H':Hp} {h h':Heap} {a C dx:Addr} {fs fs':List (Str×V)}
theorem Ws (hok:HOk P w H h) (e:H a=some (.ins C dx fs)):∃ mA,ObjM h a dx C mA∧(∀ f,RelO (fs.lookup f) (mA f))∧PySem.Within mA (fs.map (·.1))∧fs.length≤1000∧H dx=some (.own a):=by
 obtain⟨d,z,ne,ob,mA,n,r,q⟩:=(show ObjOk P w H h a (.ins C dx fs) from hok a _ e)
 exact⟨mA,⟨ob,n,ne⟩,r,q,z,d⟩
end
structure Cls (K:PySem.W.Frag) (C:Addr):Prop where
 pg:PySem.W.plainGet K C Str.empty=true
 hd:PySem.W.hasDictIn K C=true
 po:PySem.W.plainOver K C=true
 sa:PySem.W.findIn K (.ref C) "__setattr__" = some (some (.builtin "object.__setattr__"))
theorem Cls.get {K:PySem.W.Frag} {C:Addr} (c:Cls K C) (f:Str):PySem.W.plainGet K C f=true:=c.pg
def NoAttr (K:PySem.W.Frag) (C:Addr) (f:Str):Prop:=PySem.W.findIn K (.ref C) f=some none
theorem NoAttr.taker {K:PySem.W.Frag} {C:Addr} {f:Str} (n:NoAttr K C f):PySem.W.takerIn K C f=some none:=by
 unfold PySem.W.takerIn
 rw [show PySem.W.findIn K (.ref C) f=some none from n]
 rfl
structure Con (K:PySem.W.Frag) (C:Addr) (f:Str) (v:V) (u:Value):Prop where
 at_:PySem.W.findIn K (.ref C) f=some (some u)
 rel:RelV v u
 get:PySem.W.specialIn K u "__get__" = some none
 cp:PySem.W.copiedNames.contains f=false
structure Meth (K:PySem.W.Frag) (C:Addr) (m:Str) (f:Addr):Prop where
 at_:PySem.W.findIn K (.ref C) m=some (some (.ref f))
 fn:PySem.W.isFn K (.ref f)=true
 kp:PySem.W.keepIn K (.ref f)=true
section
variable {X:Cx} {pins:List (Addr×Obj)} {σ:St} {H:Hp} {s:Shared} {a C dx:Addr} {fs:List (Str×V)} {f:Str} {v:V} {A:Around} {E:Value->Shared->Prop}
theorem J3 {b:Bool} {Q:Value->Shared->Prop} (I:Inv X pins σ H s) (e:H a=some (.ins C dx fs)) (c:Cls X.K C) (n:NoAttr X.K C f) (l:fs.lookup f=some v)
  (h:∀ u s',Inv X pins σ H s'->RelV v u->Q u s'):wpAny (model X.prog X.w) A (getAttr (.ref a) f b) Q E s:=by
 obtain⟨mA,O,r,_,_,_⟩:=Ws I.hok e
 obtain⟨u,hu,ru⟩:=RelO.some_of (v:=v) (o:=mA f) (by rw [← l];exact r f)
 exact zdj I.kIn O (c.get f) c.hd n hu (zbB ru) (h u _ (I.tok _) ru)
theorem W9 {m:Str} {g:Addr} {pl:Sem Bool} {Q:Value×List Value->Shared->Prop} (I:Inv X pins σ H s) (e:H a=some (.ins C dx fs)) (c:Cls X.K C) (k:Meth X.K C m g) (l:fs.lookup m=none)
  (h:Q (.ref g,[.ref a]) s):wpAny (model X.prog X.w) A (getMethod (.ref a) m pl) Q E s:=by
 obtain⟨mA,O,r,_,_,_⟩:=Ws I.hok e
 have hn:mA m=none:=RelO.none_of (by rw [← l];exact r m)
 exact zbY I.kIn O (c.get m) k.at_ k.fn hn h
theorem JX {y:V} {u:Value} {Q:Unit->Shared->Prop} (I:Inv X pins σ H s) (e:H a=some (.ins C dx fs)) (c:Cls X.K C) (n:NoAttr X.K C f) (hl:fs.length<1000) (ry:RelV y u)
  (h:∀ s',Inv X pins σ (upd H a (.ins C dx (xN f y fs))) s'->Q () s'):wpAny (model X.prog X.w) A (setAttr (.ref a) f u) Q E s:=by
 obtain⟨mA,O,r,wi,_,ho⟩:=Ws I.hok e
 have hz:(fs.map (·.1)).length≤sizeLine:=by rw [List.length_map,sizeLine_eq];omega
 refine zdG I.kIn O c.sa c.po n.taker c.hd wi hz fun h' O' sb=>h _ ?_
 have hd:∃ o,h'.get? dx=some o:=let ⟨o,_,_,e',_⟩:=O'.ns;⟨o,e'⟩
 refine I.write (x:=a) (e:=dx) (by rw [e];exact True.intro) (.inr ho) (fun b q hb z=>(sb.2 b hb).trans z) hd ?_
 refine⟨by rw [zu O.ne];exact ho,?_,O.ne,O'.obj,_,O'.ns,fun g=>?_,fun g hg=>?_⟩
 ·have:=uP f y fs;omega
 ·show RelO ((xN f y fs).lookup g) (if g=f then some u else mA g)
  rw [zT]
  by_cases q:g=f
  ·rw [if_pos q,if_pos q];exact ry
  ·rw [if_neg q,if_neg q];exact r g
 ·by_cases q:g=f
  ·rw [q];exact (Xv f y fs).1
  ·refine (Xv f y fs).2 g (wi g fun z=>hg ?_)
   show (if g=f then some u else mA g)=none
   rw [if_neg q];exact z
theorem Inv.made (I:Inv X pins σ H s):Inv X pins σ (upd (upd H s.heap.objs.size (.own (s.heap.objs.size+1))) (s.heap.objs.size+1) (.ins C s.heap.objs.size []))
  { s with heap:=(s.heap.push PySem.W.emptyDict).push (PySem.W.instObj C s.heap.objs.size) }:=by
 have e1:(s.heap.push PySem.W.emptyDict).get? s.heap.objs.size=some PySem.W.emptyDict:=Heap.get?_push_size s.heap rfl
 have e2:((s.heap.push PySem.W.emptyDict).push (PySem.W.instObj C s.heap.objs.size)).get? (s.heap.objs.size+1)=some (PySem.W.instObj C s.heap.objs.size):=by
  have:=Heap.get?_push_size (s.heap.push PySem.W.emptyDict) (o:=PySem.W.instObj C s.heap.objs.size) rfl
  rwa [Heap.size_push] at this
 have e3:(s.heap.push PySem.W.emptyDict).Ns s.heap.objs.size (fun _=>none):=⟨PySem.W.emptyDict,#[],_,e1,rfl,(fun e he=>absurd he (by simp)),fun _=>rfl⟩
 have I1:=I.laid (a:=s.heap.objs.size) (o:=.own (s.heap.objs.size+1)) (h':=s.heap.push PySem.W.emptyDict) (t':=s.toks) (fun b u q=>Heap.get?_push_of_some _ q) (Nat.le_refl _) ⟨_,e1⟩
 refine I1.laid (a:=s.heap.objs.size+1) (o:=.ins C s.heap.objs.size []) (t':=s.toks) (fun b u q=>Heap.get?_push_of_some _ q) (Nat.le_of_eq (Heap.size_push _ _)) ?_
 have ne:s.heap.objs.size≠s.heap.objs.size+1:=Nat.ne_of_lt (Nat.lt_succ_self _)
 refine⟨by rw [zu ne,zg],Nat.zero_le _,ne,e2,fun _=>none,(Heap.Ns1.of_empty e3).at fun o q=>Heap.get?_push_of_some _ q,fun _=>True.intro,fun y hy=>absurd rfl hy⟩
theorem zdo {prog:Program} {w:World} {env:Env} {e:Expr} {f:Str} {pos:Pos} {s:Shared} {Q:Value->Shared->Prop} (hb:attributeBase e f env (eval e env)=eval e env)
  (h:wpAny (model prog w) A (eval e env) (fun o s₁=>wpAny (model prog w) A (getAttr o f true) Q E s₁) E s):wpAny (model prog w) A (eval (.Attribute e f pos) env) Q E s :=
 Attribute_any_ h (by rw [arm_eval_Attribute,hb])
end
def ze6 (K:PySem.W.Frag) (ta:TE) (f:Str):TE:=fun σ H Q=>ta σ H fun x H1=>∃ a C dx fs v,x=.ref a∧H1 a=some (.ins C dx fs)∧Cls K C∧NoAttr K C f∧fs.lookup f=some v∧Q v H1
def zf6 (K:PySem.W.Frag) (ta tv:TE) (f:Str):TS:=fun D σ H=>tv σ H fun y H1=>ta σ H1 fun x H2=>∃ a C dx fs,x=.ref a∧H2 a=some (.ins C dx fs)∧Cls K C∧NoAttr K C f∧fs.length<1000 ∧
 D.nx σ (upd H2 a (.ins C dx (xN f y fs)))
section
variable {X:Cx} {o e value:Expr} {f:Str} {pos pos' tpos:Pos} {ta tv:TE}
theorem zeH (he:PE X e ta) (hb:attributeBase e f X.env (eval e X.env)=eval e X.env):PE X (.Attribute e f pos) (ze6 X.K ta f):=by
 intro pins s σ H Q I h
 refine zdo hb (thn (he pins s σ H _ I h) fun u s1 ⟨x,H1,I1,rx,a,C,dx,fs,v,ex,ea,c,n,l,q⟩=>?_)
 subst ex
 obtain rfl:u=Value.ref a:=rx
 exact J3 I1 ea c n l fun u' s2 I2 ru=>⟨v,H1,I2,ru,q⟩
theorem QJ (ha:PE X o ta) (hv:PE X value tv) (hs:swapsWith value (some (.Attribute o f pos')) pos.line X.env=pure false):PS X (.Assign [.Attribute o f pos'] value pos) (zf6 X.K ta tv f):=by
 intro pins s σ H D I h
 refine plainObj_wpAny_Assign_Attribute (thn (hv pins s σ H _ I h) fun u s1 ⟨y,H1,I1,ry,q⟩=>thn (ha pins s1 σ H1 _ I1 q) fun ov s2 ⟨x,H2,I2,rx,a,C,dx,fs,ex,ea,c,n,l,q2⟩=>?_) hs
 subst ex
 obtain rfl:ov=Value.ref a:=rx
 exact JX I2 ea c n l ry fun s3 I3=>⟨σ,_,I3,q2⟩
end
section
variable {X:Cx} {pins:List (Addr×Obj)} {σ:St} {H:Hp} {s:Shared} {A:Around} {E:Value->Shared->Prop} {Q:Value->Shared->Prop} {c:Value} {b:Bool}
inductive Y5 (K:PySem.W.Frag) (H:Hp):V->Value->Prop where
 | non:Y5 K H .non (.type "NoneType")
 | bl (x:Bool):Y5 K H (.bl x) (.type "bool")
 | int (i:Int):Y5 K H (.int i) (.type "int")
 | str (x:Str):Y5 K H (.str x) (.type "str")
 | flt (x:UInt64):Y5 K H (.flt x) (.type "float")
 | lst {a:Addr} {xs:List V} (e:H a=some (.lst xs)):Y5 K H (.ref a) (.type "list")
 | frz {a:Addr} {o:Obj} {xs:List V} (e:H a=some (.frz o (.lst xs))):Y5 K H (.ref a) (.type "list")
 | tup {a:Addr} {xs:List V} (e:H a=some (.tup xs)):Y5 K H (.ref a) (.type "tuple")
 | dK {a:Addr} {kvs:List (Key×V)} (e:H a=some (.dK kvs)):Y5 K H (.ref a) (.type "dict")
 | dT {a:Addr} {kvs:List (List Key×V)} (e:H a=some (.dT kvs)):Y5 K H (.ref a) (.type "dict")
 | ins {a C dx:Addr} {fs:List (Str×V)} (e:H a=some (.ins C dx fs)) (cl:Cls K C) (ha:PySem.W.findIn K (.ref C) "__class__" = some (some (.builtin "object.__class__")))
   (hn:PySem.W.specialIn K (.builtin "object.__class__") "__get__" = some (some (.builtin "getset_descriptor.__get__"))) (htk:PySem.W.takesIn K (.builtin "object.__class__")=some true)
   (hm:PySem.W.mroIn K C (.type "object")=some true):Y5 K H (.ref a) (.ref C)
theorem zbj {x:V} {u t:Value} (I:Inv X pins σ H s) (rx:RelV x u) (ty:Y5 X.K H x t) (e:PySem.W.kitOne X.K t c=some b) (h:∀ tk,Q (.bool b) { s with toks:=tk }) :
  wpAny (model X.prog X.w) A (call (.builtin "isinstance") [u,c]) Q E s:=by
 cases ty with
 | non=>cases (show u=Value.none from rx);exact PySem.W.kia_one PySem.W.kitx_none I.kIn True.intro e (fun z=>nomatch z) h
 | bl y=>cases (show u=Value.bool y from rx);exact PySem.W.kia_one PySem.W.kitx_bool I.kIn True.intro e (fun z=>nomatch z) h
 | int i=>obtain⟨t,q⟩:=(show ∃ t,u=Value.int i t from rx);cases q;exact PySem.W.kia_one PySem.W.kitx_int I.kIn True.intro e (fun z=>nomatch z) h
 | str y=>obtain⟨t,q⟩:=(show ∃ t,u=Value.str y t from rx);cases q;exact PySem.W.kia_one PySem.W.kitx_str I.kIn True.intro e (fun z=>nomatch z) h
 | flt y=>obtain⟨t,q⟩:=(show ∃ t,u=Value.float y t from rx);cases q;exact PySem.W.kia_one PySem.W.kitx_float I.kIn True.intro e (fun z=>nomatch z) h
 | @lst a xs ea =>
  cases (show u=Value.ref a from rx)
  obtain⟨_,_,n,_,h1⟩:=(show ObjOk X.prog X.w H s.heap a (.lst xs) from I.hok a _ ea)
  exact PySem.W.kia_one PySem.W.kitx_list I.kIn ⟨_,h1,rfl⟩ e (fun z=>nomatch z) h
 | @frz a ob xs ea =>
  cases (show u=Value.ref a from rx)
  obtain⟨_,_,_,n,_,h1⟩:=(show ObjOk X.prog X.w H s.heap a (.frz ob (.lst xs)) from I.hok a _ ea)
  exact PySem.W.kia_one PySem.W.kitx_list I.kIn ⟨_,h1,rfl⟩ e (fun z=>nomatch z) h
 | @tup a xs ea =>
  cases (show u=Value.ref a from rx)
  obtain⟨_,_,_,p⟩:=(show ObjOk X.prog X.w H s.heap a (.tup xs) from I.hok a _ ea)
  obtain⟨o,h1,h2,_⟩:=p
  exact PySem.W.kia_one PySem.W.kitx_tuple I.kIn ⟨o,h1,h2⟩ e (fun z=>nomatch z) h
 | @dK a kvs ea =>
  cases (show u=Value.ref a from rx)
  obtain⟨_,_,vs,_,p⟩:=(show ObjOk X.prog X.w H s.heap a (.dK kvs) from I.hok a _ ea)
  obtain⟨o,es,ep,h1,h2,_⟩:=p
  exact PySem.W.kia_one PySem.W.kitx_dict I.kIn ⟨o,h1,h2.1⟩ e (fun z=>nomatch z) h
 | @dT a kvs ea =>
  cases (show u=Value.ref a from rx)
  obtain⟨_,_,xs,_,o,es,ep,h1,h2,_⟩:=(show ObjOk X.prog X.w H s.heap a (.dT kvs) from I.hok a _ ea)
  exact PySem.W.kia_one PySem.W.kitx_dict I.kIn ⟨o,h1,h2.1⟩ e (fun z=>nomatch z) h
 | @ins a C dx fs ea cl ha hn htk hm =>
  cases (show u=Value.ref a from rx)
  obtain⟨mA,O,_⟩:=Ws I.hok ea
  obtain⟨od,J,_⟩:=O.look
  exact PySem.W.kia_one (PySem.W.kitx_own (cl.get _) cl.hd ha hn htk hm) I.kIn J e (fun z=>nomatch z) h
end
structure Room (k:Nat) (A:Around):Prop where
 hd:A.handled=none
 dp:A.depth+k+5<recursionLimit
 un:A.units+16*k+200<cLine
 gd:A.guards=some []
theorem Room.mono {j k:Nat} {A:Around} (r:Room k A) (h:j≤k):Room j A:=⟨r.hd,by have:=r.dp;omega,by have:=r.un;omega,r.gd⟩
theorem Room.deeper {k:Nat} {A:Around} (r:Room (k+1) A) (env:Env):Room k (A.deeper env) :=
 ⟨r.hd,by have:=r.dp;show A.depth+1+k+5<_;omega,by have:=r.un;show A.units+3+16*k+200<_;omega,r.gd⟩
theorem Room.in1 {k:Nat} {A:Around} (r:Room (k+1) A):Room k A.in1 :=
 ⟨r.hd,by have:=r.dp;show A.depth+k+5<_;omega,by have:=r.un;show A.units+1+16*k+200<_;omega,r.gd⟩
theorem zah {A:Around} {C:Addr} {us:List Value} {kw:List (Str×Value)}:(A.under (.builtin "type.__call__" ⟨.ref C :: us,kw⟩)).depth=A.depth+1:=by
 first | rfl | simp [Around.under,Code.weight,Code.isCreation,Code.isGuard,Code.isCaller,Code.frames,Code.isFrame,guardIds]
theorem zaf {A:Around} {C:Addr} {us:List Value} {kw:List (Str×Value)}:(A.under (.builtin "type.__call__" ⟨.ref C :: us,kw⟩)).units=A.units+1:=by
 first | rfl | simp [Around.under,Code.cUnits,Code.frames,Code.isFrame]
theorem Room.make {k:Nat} {A:Around} (r:Room (k+1) A) (C:Addr) (us:List Value) (kw:List (Str×Value)):Room k (A.under (.builtin "type.__call__" ⟨.ref C :: us,kw⟩)) :=
 ⟨r.hd,by have:=r.dp;rw [zah];omega,by have:=r.un;rw [zaf];omega,by first | exact r.gd | (simp [Around.under,Code.guards,Code.isGuard,guardIds];exact r.gd)⟩
theorem Room.depth {k:Nat} {A:Around} (r:Room k A):A.depth<recursionLimit:=by have:=r.dp;omega
theorem Room.units {k:Nat} {A:Around} (r:Room k A):A.units+64<cLine:=by have:=r.un;omega
def WQ:TA:=fun _ H Q=>Q [] H
def Zf (ta:TE) (tr:TA):TA:=fun σ H Q=>ta σ H fun x H1=>tr σ H1 fun xs H2=>Q (x :: xs) H2
section
variable {X:Cx} {e:Expr} {es:List Expr} {te:TE} {t:TA} {pos:Pos}
theorem zm:PA X [] WQ:=fun _ _ _ _ H Q I h=>Calls.spliced_nil ⟨[],H,I,.nil,h⟩
theorem zf (ha:PE X e te) (hr:PA X es t) (hs:starEach (e :: es) X.env=(false,eval e X.env) :: starEach es X.env:=by rfl):PA X (e :: es) (Zf te t):=by
 intro pos pins s σ H Q I h
 rw [hs]
 show wpAny _ _ (spliced ((false,eval e X.env) :: backTo pos (starEach es X.env))) _ _ s
 refine Calls.spliced_cons (thn (ha pins s σ H _ I h) fun u s1 ⟨x,H1,I1,r1,q1⟩=>?_)
 exact thn (hr pos pins s1 σ H1 _ I1 q1) fun us s2 ⟨xs,H2,I2,r2,q2⟩=>⟨x :: xs,H2,I2,.cons r1 r2,q2⟩
def zet (t:TA):TE:=fun σ H Q=>t σ H fun xs H1=>xs.length≤sizeLine∧∀ p,H1 p=none->Q (.ref p) (upd H1 p (.tup xs))
def zdw (t:TA):TE:=fun σ H Q=>t σ H fun xs H1=>xs.length≤sizeLine∧∀ p,H1 p=none->Q (.ref p) (upd H1 p (.lst xs))
theorem vh {x1} (h:PA X es t):PE X (.Tuple es x1 pos) (zet t):=by
 intro pins s σ H Q I hq
 refine wpAny_Tuple_spliced (thn (h pos pins s σ H _ I hq) fun us s1 ⟨xs,H1,I1,r,z,q⟩=>⟨by rw [← r.length];exact z,?_⟩)
 have hf:H1 s1.heap.objs.size=none:=I1.hok.fresh (Nat.le_refl _)
 refine⟨.ref s1.heap.objs.size,upd H1 s1.heap.objs.size (.tup xs),I1.laid (t':=s1.toks) (fun b u e=>Heap.get?_push_of_some _ e) (Nat.le_refl _) ?_,rfl,q _ hf⟩
 exact⟨z,us,r,⟨_,Heap.get?_push_size _ rfl,rfl,_,rfl⟩⟩
theorem zJ (h:PA X es t):PE X (.List es pos) (zdw t):=by
 intro pins s σ H Q I hq
 refine wpAny_List_spliced (thn (h pos pins s σ H _ I hq) fun us s1 ⟨xs,H1,I1,r,z,q⟩=>⟨by rw [← r.length];exact z,?_⟩)
 have hf:H1 s1.heap.objs.size=none:=I1.hok.fresh (Nat.le_refl _)
 refine⟨.ref s1.heap.objs.size,upd H1 s1.heap.objs.size (.lst xs),I1.laid (t':=s1.toks) (fun b u e=>Heap.get?_push_of_some _ e) (Nat.le_refl _) ?_,rfl,q _ hf⟩
 exact⟨z,us,0,r,Heap.get?_push_size _ rfl⟩
end
abbrev Sp:=List V->Hp->VK->XK->Prop
abbrev CXT:=List Env->Hp->Shared->XK->Value->Shared->Prop
structure Env0 (P:Program) (w:World) (K:PySem.W.Frag) (mg:Str->Option Value) (base:Heap) (A:Around) (outer:List Env) (s:Shared) (H:Hp):Prop where
 frames:A.frames=some outer
 mod:Mod K mg base
 bs:∀ b o,base.get? b=some o->s.heap.get? b=some o∧H b=none
 bsz:base.objs.size≤s.heap.objs.size
 funs:s.heap.FunFrames base outer
 frf:∀ b∈frs outer,H b=none
 hok:HOk P w H s.heap
 bare:AllBare s.gens
def CE (outer:List Env) (P:Program) (w:World) (H:Hp) (s:Shared) (Q:VK) (u:Value) (s':Shared):Prop :=
 ∃ v H',s'.os=s.os∧AllBare s'.gens∧Un (frs outer) [] H H' s.heap s'.heap∧HOk P w H' s'.heap∧RelV v u∧Q v H'
def CR (CX:CXT) (outer:List Env) (P:Program) (w:World) (H:Hp) (s:Shared) (Q:VK) (E:XK) (r:Result) (s':Shared):Prop :=
 match r with
 | .ok (.ret u)=>CE outer P w H s Q u s'
 | .ok _=>False
 | .error e=>CX outer H s E e s'
structure FnOk (P:Program) (w:World) (K:PySem.W.Frag) (mg:Str->Option Value) (base:Heap) (CX:CXT) (k:Nat) (f:Addr) (fd:FuncData) (ps:List Str) (sp:Sp):Prop where
 len:∀ vs H Q E,sp vs H Q E->vs.length=ps.length
 run:∀ (A:Around) (outer:List Env) (s:Shared) (H:Hp) (args:Args) (us:List Value) (vs:List V) (Q:VK) (E:XK),Room k A->Env0 P w K mg base A outer s H->BindsTo s fd args (ps.zip us)->Vals vs us->sp vs H Q E ->
  codeAny (model P w) A (.call (.ref f) args) (CR CX outer P w H s Q E) s
theorem FnOk.mono {P:Program} {w:World} {K:PySem.W.Frag} {mg:Str->Option Value} {base:Heap} {CX:CXT} {j k:Nat} {f:Addr} {fd:FuncData} {ps:List Str} {sp:Sp} (F:FnOk P w K mg base CX j f fd ps sp) (h:j≤k) :
  FnOk P w K mg base CX k f fd ps sp:=⟨F.len,fun A outer s H args us vs Q E hr=>F.run A outer s H args us vs Q E (hr.mono h)⟩
theorem FnOk.imp {P:Program} {w:World} {K:PySem.W.Frag} {mg:Str->Option Value} {base:Heap} {CX:CXT} {k:Nat} {f:Addr} {fd:FuncData} {ps:List Str} {sp sp':Sp} (F:FnOk P w K mg base CX k f fd ps sp)
  (h:∀ vs H Q E,sp' vs H Q E->sp vs H Q E):FnOk P w K mg base CX k f fd ps sp' :=
 ⟨fun vs H Q E q=>F.len vs H Q E (h _ _ _ _ q),fun A outer s H args us vs Q E hr he hb hv hs=>F.run A outer s H args us vs Q E hr he hb hv (h _ _ _ _ hs)⟩
theorem Env0.make {P:Program} {w:World} {K:PySem.W.Frag} {mg:Str->Option Value} {base:Heap} {A:Around} {outer:List Env} {s:Shared} {H:Hp} (e:Env0 P w K mg base A outer s H) (C:Addr) (us:List Value) (kw:List (Str×Value)) :
  Env0 P w K mg base (A.under (.builtin "type.__call__" ⟨.ref C :: us,kw⟩)) outer s H:=⟨by first | exact e.frames | (simpa [Around.under,Code.envs,Code.isFrame,pushEnvs] using e.frames),e.mod,e.bs,e.bsz,e.funs,e.frf,e.hok,e.bare⟩
theorem Env0.in1 {P:Program} {w:World} {K:PySem.W.Frag} {mg:Str->Option Value} {base:Heap} {A:Around} {outer:List Env} {s:Shared} {H:Hp} (e:Env0 P w K mg base A outer s H) :
  Env0 P w K mg base A.in1 outer s H:=⟨e.frames,e.mod,e.bs,e.bsz,e.funs,e.frf,e.hok,e.bare⟩
section
variable {X:Cx} {pins:List (Addr×Obj)} {σ:St} {H:Hp} {s s':Shared}
theorem Inv.env0 (I:Inv X pins σ H s):Env0 X.prog X.w X.K X.mg X.base X.A X.stack s H :=
 ⟨I.ok.frames,I.ok.mod,I.bs,Nat.le_trans I.ok.bsz I.sz,I.stack,I.stkFree,I.hok,I.bare⟩
theorem Inv.after {Q:VK} {u:Value} (I:Inv X pins σ H s) (h:CE X.stack X.prog X.w H s Q u s'):EP X pins σ Q u s':=by
 obtain⟨v,H',os,bare,un,hok,r,q⟩:=h
 obtain⟨hh,g,d,t,os'⟩:=s'
 obtain rfl:os'=s.os:=os
 exact⟨v,H',I.call (h':=hh) (g':=g) (d':=d) (t':=t) (ch:=[]) un hok bare (fun b z=>absurd z (by simp)),r,q⟩
end
def zd5 (sp:Sp) (dvs:List V) (E:XK) (t:TA):TE:=fun σ H Q=>t σ H fun vs H1=>sp (vs++dvs) H1 Q E
def zaN (C:Addr) (m:Str) (sp:Sp) (dvs:List V) (E:XK) (ta:TE) (t:TA):TE:=fun σ H Q=>ta σ H fun x H1=>∃ a dx fs,x=.ref a∧H1 a=some (.ins C dx fs)∧fs.lookup m=none ∧
 t σ H1 fun vs H2=>sp (x :: (vs++dvs)) H2 Q E
def zfg (C:Addr) (sp:Sp) (dvs:List V) (E:XK) (t:TA):TE:=fun σ H Q=>t σ H fun vs H1=>∀ x dx,H1 x=none->H1 dx=none->dx≠x ->
 sp (.ref x :: (vs++dvs)) (upd (upd H1 dx (.own x)) x (.ins C dx [])) (fun v H2=>v=.non∧Q (.ref x) H2) E
def Binds (K:PySem.W.Frag) (fd:FuncData) (ps:List Str) (ds:List Value):Prop :=
 ∀ (s:Shared) (us:List Value),K.In s.heap->(us++ds).length=ps.length->BindsTo s fd ⟨us,[]⟩ (ps.zip (us++ds))
theorem Binds.all {K:PySem.W.Frag} {fd:FuncData} {ps:List Str} (h:∀ us:List Value,us.length=ps.length->bindArgs fd ⟨us,[]⟩=pure (ps.zip us)):Binds K fd ps []:=fun s us _ hl=>by
 rw [List.append_nil] at hl ⊢
 exact .of_eq (h us hl)
def Yn (CX:CXT) (X:Cx) (E:XK):Prop:=∀ (pins:List (Addr×Obj)) (σ:St) (H:Hp) (s:Shared) (e:Value) (s':Shared),Inv X pins σ H s->CX X.stack H s E e s'->X.xe e s'
section
variable {X:Cx} {CX:CXT} {k:Nat} {f C:Addr} {fd:FuncData} {ps:List Str} {sp:Sp} {dvs:List V} {ds:List Value} {E:XK} {x m:Str} {p pos apos:Pos} {e o:Expr} {es:List Expr} {ta:TE} {t:TA}
theorem zaA {pins:List (Addr×Obj)} {σ:St} {H:Hp} {s:Shared} {Q:VK} {us:List Value} {vs:List V} (F:FnOk X.prog X.w X.K X.mg X.base CX k f fd ps sp) (hr:Room k X.A) (hb:Binds X.K fd ps ds) (hd:Vals dvs ds) (hx:Yn CX X E)
  (I:Inv X pins σ H s) (r:Vals vs us) (h:sp (vs++dvs) H Q E):wpAny (model X.prog X.w) X.A (call (.ref f) us) (EP X pins σ Q) X.xe s:=by
 have r2:Vals (vs++dvs) (us++ds):=r.append hd
 have hl:(us++ds).length=ps.length:=by rw [← r2.length];exact F.len _ _ _ _ h
 refine wpAny_call (codeAny_mono (F.run X.A X.stack s H ⟨us,[]⟩ (us++ds) (vs++dvs) Q E hr I.env0 (hb s us I.kIn hl) r2 h) fun r s' hq=>?_)
 cases r with
 | error e=>exact hx pins σ H s e s' I hq
 | ok fl =>
  cases fl with
  | ret u=>exact I.after hq
  | next=>exact False.elim hq
  | brk=>exact False.elim hq
  | cont=>exact False.elim hq
theorem zd0 (F:FnOk X.prog X.w X.K X.mg X.base CX k f fd ps sp) (hr:Room k X.A) (hg:Gl X x) (hm:X.mg x=some (.ref f)) (hk:PySem.W.keepIn X.K (.ref f)=true) (hb:Binds X.K fd ps ds) (hd:Vals dvs ds) (hx:Yn CX X E)
  (ha:PA X (e :: es) t) (hdb:(x == ("__debug__" : Str))=false:=by decide) (he:starEach (e :: es) X.env=(false,eval e X.env) :: starEach es X.env:=by rfl) (hpl:(backTo pos (starEach es X.env)).any (·.1)=false:=by rfl) :
  PE X (.Call (.Name x p) (e :: es) [] pos) (zd5 sp dvs E t):=by
 intro pins s σ H Q I h
 refine wpAny_Call_Name_kw (ZL I hg hm ?_ hdb)
 refine PySem.W.callWith_K (h₀:=X.base) I.ok.mod.kin hk (thn (ha pos pins s σ H _ I h) fun us s1 ⟨vs,H1,I1,r,q⟩=>⟨I1.kIn,?_⟩) he hpl
 exact zaA F hr hb hd hx I1 r q
theorem zdg {pl:Sem Bool} (he:PE X o ta) (c:Cls X.K C) (hm:Meth X.K C m f) (F:FnOk X.prog X.w X.K X.mg X.base CX k f fd ps sp) (hr:Room k X.A) (hb:Binds X.K fd ps ds) (hd:Vals dvs ds) (hx:Yn CX X E) (ha:PA X (e :: es) t)
  (hst:starEach (e :: es) X.env=(false,eval e X.env) :: starEach es X.env:=by rfl) (hpl:(backTo pos (starEach es X.env)).any (·.1)=false:=by rfl)
  (ht:eval (.Call (.Attribute o m apos) (e :: es) [] pos) X.env=(do
   let ov ← eval o X.env
   standAt apos.atName
   let (f,first) ← holding [ov] (getMethod ov m pl)
   callWith pos f first (backTo pos (starEach (e :: es) X.env)) (backToKw pos (keywordEach [] X.env))):=by rfl) :
  PE X (.Call (.Attribute o m apos) (e :: es) [] pos) (zaN C m sp dvs E ta t):=by
 intro pins s σ H Q I h
 refine PySem.W.methodCall_KW (pl:=pl) (thn (he pins s σ H _ I h) fun u s1 ⟨x,H1,I1,rx,a,dx,fs,ex,ea,l,q⟩=>?_) ht
 subst ex
 obtain rfl:u=Value.ref a:=rx
 refine W9 I1 ea c hm l ?_
 refine PySem.W.callWith_K (first:=[.ref a]) (h₀:=X.base) I.ok.mod.kin hm.kp (thn (ha pos pins s1 σ H1 _ I1 q) fun us s2 ⟨vs,H2,I2,r,q2⟩=>⟨I2.kIn,?_⟩) hst hpl
 exact zaA (us:=.ref a :: us) (vs:=.ref a :: vs) F hr hb hd hx I2 (.cons rfl r) q2
theorem zck {pl:Sem Bool} (he:PE X o ta) (c:Cls X.K C) (hm:Meth X.K C m f) (F:FnOk X.prog X.w X.K X.mg X.base CX k f fd ps sp) (hr:Room k X.A) (hb:Binds X.K fd ps ds) (hd:Vals dvs ds) (hx:Yn CX X E)
  (ht:eval (.Call (.Attribute o m apos) [] [] pos) X.env=(do
   let ov ← eval o X.env
   standAt apos.atName
   let (f,first) ← holding [ov] (getMethod ov m pl)
   callWith pos f first (backTo pos (starEach [] X.env)) (backToKw pos (keywordEach [] X.env))):=by rfl) :
  PE X (.Call (.Attribute o m apos) [] [] pos) (zaN C m sp dvs E ta WQ):=by
 intro pins s σ H Q I h
 refine PySem.W.methodCall_KW (pl:=pl) (thn (he pins s σ H _ I h) fun u s1 ⟨x,H1,I1,rx,a,dx,fs,ex,ea,l,q⟩=>?_) ht
 subst ex
 obtain rfl:u=Value.ref a:=rx
 refine W9 I1 ea c hm l ?_
 exact PySem.W.callWith_K0 (first:=[.ref a]) I1.kIn hm.kp (zaA (us:=[.ref a]) (vs:=[.ref a]) F hr hb hd hx I1 (.cons rfl .nil) q)
structure Mk (K:PySem.W.Frag) (C f:Addr):Prop where
 makes:PySem.W.makesIn K C=true
 init:PySem.W.findIn K (.ref C) "__init__" = some (some (.ref f))
 fn:PySem.W.isFn K (.ref f)=true
 kp:PySem.W.keepIn K (.ref C)=true
theorem zcd {pins:List (Addr×Obj)} {σ:St} {H:Hp} {s:Shared} {Q:VK} {us:List Value} {vs:List V} (M:Mk X.K C f) (F:FnOk X.prog X.w X.K X.mg X.base CX k f fd ps sp) (hr:Room (k+1) X.A) (hb:Binds X.K fd ps ds) (hd:Vals dvs ds)
  (hx:Yn CX X E) (I:Inv X pins σ H s) (r:Vals vs us)
  (h:∀ x dx,H x=none->H dx=none->dx≠x->sp (.ref x :: (vs++dvs)) (upd (upd H dx (.own x)) x (.ins C dx [])) (fun v H2=>v=.non∧Q (.ref x) H2) E) :
  wpAny (model X.prog X.w) X.A (call (.ref C) us) (EP X pins σ Q) X.xe s:=by
 have hq:=h (s.heap.objs.size+1) s.heap.objs.size (I.hok.fresh (Nat.le_succ _)) (I.hok.fresh (Nat.le_refl _)) (Nat.ne_of_lt (Nat.lt_succ_self _))
 have I2:=Inv.made (C:=C) I
 have r2:Vals (V.ref (s.heap.objs.size+1) :: (vs++dvs)) (Value.ref (s.heap.objs.size+1) :: (us++ds)):=.cons rfl (r.append hd)
 have hl:(Value.ref (s.heap.objs.size+1) :: us++ds).length=ps.length:=by
  have e:=r2.length
  rw [F.len _ _ _ _ hq] at e
  exact e.symm
 refine wpAny_call (zcv (f:=f) I.kIn M.makes M.init (beq_iff_eq.mp M.fn) (codeAny_mono (F.run _ X.stack _ _ ⟨Value.ref (s.heap.objs.size+1) :: us,[]⟩ (Value.ref (s.heap.objs.size+1) :: (us++ds)) _ _ E (hr.make C us [])
  (I2.env0.make C us []) (hb _ (Value.ref (s.heap.objs.size+1) :: us) I2.kIn hl) r2 hq) fun r s' hq'=>?_))
 cases r with
 | error e=>exact hx pins σ _ _ e s' I2 hq'
 | ok fl =>
  cases fl with
  | ret u =>
   obtain⟨v,H',I3,rv,ev,q3⟩:=I2.after hq'
   subst ev
   exact⟨rv,⟨V.ref (s.heap.objs.size+1),H',I3,rfl,q3⟩⟩
  | next=>exact False.elim hq'
  | brk=>exact False.elim hq'
  | cont=>exact False.elim hq'
theorem zaY (M:Mk X.K C f) (F:FnOk X.prog X.w X.K X.mg X.base CX k f fd ps sp) (hr:Room (k+1) X.A) (hg:Gl X x) (hm:X.mg x=some (.ref C)) (hb:Binds X.K fd ps ds) (hd:Vals dvs ds) (hx:Yn CX X E)
  (ha:PA X (e :: es) t) (hdb:(x == ("__debug__" : Str))=false:=by decide) (he:starEach (e :: es) X.env=(false,eval e X.env) :: starEach es X.env:=by rfl) (hpl:(backTo pos (starEach es X.env)).any (·.1)=false:=by rfl) :
  PE X (.Call (.Name x p) (e :: es) [] pos) (zfg C sp dvs E t):=by
 intro pins s σ H Q I h
 refine wpAny_Call_Name_kw (ZL I hg hm ?_ hdb)
 refine PySem.W.callWith_K (h₀:=X.base) I.ok.mod.kin M.kp (thn (ha pos pins s σ H _ I h) fun us s1 ⟨vs,H1,I1,r,q⟩=>⟨I1.kIn,?_⟩) he hpl
 exact zcd M F hr hb hd hx I1 r q
end
section
variable {X:Cx} {CX:CXT} {k:Nat} {f C:Addr} {fd:FuncData} {ps ks:List Str} {sp:Sp} {E:XK} {x m:Str} {p pos apos kpos:Pos} {e o:Expr} {es:List Expr} {kws:List Keyword} {te ta:TE} {t tk:TA} {nm:Option Str}
structure zfM (K:PySem.W.Frag) (fd:FuncData) (ps ks:List Str) (g:List Value->List Value->List Value) (gV:List V->List V->List V):Prop where
 to:∀ (s:Shared) (us ws:List Value),K.In s.heap->(g us ws).length=ps.length->BindsTo s fd ⟨us,ks.zip ws⟩ (ps.zip (g us ws))
 rel:∀ {vs:List V} {us:List Value} {zs:List V} {ws:List Value},Vals vs us->Vals zs ws->Vals (gV vs zs) (g us ws)
variable {g:List Value->List Value->List Value} {gV:List V->List V->List V}
end
structure zF (N P:List Str) (sc:Scope):Prop where
 kind:sc.kind=.function
 co:sc.isCoroutine=false
 gen:sc.isGenerator=false
 nd:N.Nodup
 pre:N.take P.length=P
 par:∀ x∈P,sc.names.lookup x=some .local∨sc.names.lookup x=some .cell
 nofree:∀ y∈sc.names,y.2≠.free
theorem Ut {kindOf:Str->Option NameKind} {x:Str}:∀ {binds:List (Str×Value)} {m:Str->Option Value},(∀ v,(x,v)∉binds)->bindL kindOf binds m x=m x
 | [],_,_=>rfl
 | (n,v) :: r,m,h=>by
  unfold bindL
  rw [Ut fun w hw=>h w (List.mem_cons_of_mem _ hw)]
  split
  ·have:x≠n:=by rintro rfl;exact h v List.mem_cons_self
   simp [this]
  ·rfl
theorem UW {kindOf:Str->Option NameKind} {x:Str}:∀ {binds:List (Str×Value)} {m:Str->Option Value},(∀ v,(x,v)∉binds)->bindC kindOf binds m x=m x
 | [],_,_=>rfl
 | (n,v) :: r,m,h=>by
  unfold bindC
  rw [UW fun w hw=>h w (List.mem_cons_of_mem _ hw)]
  split
  ·rfl
  ·have:x≠n:=by rintro rfl;exact h v List.mem_cons_self
   simp [this]
theorem Ub {kindOf:Str->Option NameKind} {x:Str} {v:Value}:∀ {P:List Str} {vs:List Value} {i:Nat} {m:Str->Option Value},P.Nodup->P[i]?=some x->vs[i]?=some v->kindOf x=some .local ->
  bindL kindOf (P.zip vs) m x=some v
 | [],_,_,_,_,h,_,_=>by simp at h
 | _ :: _,[],_,_,_,_,h,_=>by simp at h
 | p :: P,w :: vs,0,m,nd,h1,h2,hk=>by
  simp at h1 h2;subst h1;subst h2
  show bindL kindOf ((p,w) :: P.zip vs) m p=_
  unfold bindL
  rw [Ut fun v hv=>(List.nodup_cons.mp nd).1 (List.of_mem_zip hv).1,if_pos hk]
  simp
 | p :: P,w :: vs,i+1,m,nd,h1,h2,hk=>by
  show bindL kindOf ((p,w) :: P.zip vs) m x=_
  unfold bindL
  exact Ub (i:=i) (List.nodup_cons.mp nd).2 (by simpa using h1) (by simpa using h2) hk
theorem UT {kindOf:Str->Option NameKind} {x:Str} {v:Value}:∀ {P:List Str} {vs:List Value} {i:Nat} {m:Str->Option Value},P.Nodup->P[i]?=some x->vs[i]?=some v->kindOf x≠some .local ->
  bindC kindOf (P.zip vs) m x=some v
 | [],_,_,_,_,h,_,_=>by simp at h
 | _ :: _,[],_,_,_,_,h,_=>by simp at h
 | p :: P,w :: vs,0,m,nd,h1,h2,hk=>by
  simp at h1 h2;subst h1;subst h2
  show bindC kindOf ((p,w) :: P.zip vs) m p=_
  unfold bindC
  rw [UW fun v hv=>(List.nodup_cons.mp nd).1 (List.of_mem_zip hv).1,if_neg hk]
  simp
 | p :: P,w :: vs,i+1,m,nd,h1,h2,hk=>by
  show bindC kindOf ((p,w) :: P.zip vs) m x=_
  unfold bindC
  exact UT (i:=i) (List.nodup_cons.mp nd).2 (by simpa using h1) (by simpa using h2) hk
def start (N:List Str) (vs:List V):St:=vs.map some++List.replicate (N.length-vs.length) none
def Ys (CX:CXT) (P:Program) (w:World) (K:PySem.W.Frag) (mg:Str->Option Value) (base:Heap) (N:List Str) (qual:Str) (scope:Scope) (f:Addr) (cd:Value) (A:Around) (outer:List Env) (s:Shared) (H:Hp) (E:XK):Cx where
 prog:=P
 w:=w
 K:=K
 mg:=mg
 base:=base
 A:=A.deeper (envOfC qual scope s.heap.objs.size f cd)
 N:=N
 s₀:=s
 H₀:=H
 env:=envOfC qual scope s.heap.objs.size f cd
 outer:=outer
 stack:=envOfC qual scope s.heap.objs.size f cd :: outer
 ex:=[]
 calm:=true
 fn:=fun _=>true
 pn:=[]
 xe:=fun e s'=>wpAny (model P w) (A.deeper (envOfC qual scope s.heap.objs.size f cd)) (leaving (envOfC qual scope s.heap.objs.size f cd) e) (fun _ s''=>CX outer H s E e s'') (fun e' s''=>CX outer H s E e' s'') s'
theorem Q3 {sc:Scope} {n:Nat} {x:Str} (h:sc.names.lookup x=some .cell):∃ c,(cellsFrom n sc.names []).lookup x=some c:=by
 have q:=PySem.W.cellsFrom_some sc.names n [] (.inl h)
 exact Option.isSome_iff_exists.mp q
theorem Uy {CX:CXT} {P:Program} {w:World} {K:PySem.W.Frag} {mg:Str->Option Value} {base:Heap} {N ps:List Str} {qual:Str} {scope:Scope} {f:Addr} {cd:Value} {A:Around} {outer:List Env} {s s1:Shared} {H:Hp} {E:XK} {us:List Value} {vs:List V}
  (S:zF N ps scope) (hd:A.handled=none) (e0:Env0 P w K mg base A outer s H) (hl:vs.length=ps.length) (r:Vals vs us)
  (x:InCallC s s.heap.objs.size (bindL (envOfC qual scope s.heap.objs.size f cd).kindOf (ps.zip us) fun _=>none) (cellsFrom (s.heap.objs.size+1) scope.names []) (bindC (envOfC qual scope s.heap.objs.size f cd).kindOf (ps.zip us) fun _=>none) s1) :
  Inv (Ys CX P w K mg base N qual scope f cd A outer s H E) [] (start N vs) H s1:=by
 have hpl:ps.length≤N.length:=by have:=congrArg List.length S.pre;rw [List.length_take] at this;omega
 obtain⟨h1,tk,rfl,hk⟩:=x.done
 have noA:∀ b:Addr,b∉(Ys CX P w K mg base N qual scope f cd A outer s H E).ex:=fun b z=>absurd (show b∈([]:List Addr) from z) (by simp)
 refine⟨⟨e0.mod,S.kind,rfl,rfl,Nat.le_refl _,fun y z c h1 h2=>?_,fun y hy=>?_,fun y c _ h=>?_,fun _=>hd,Around.frames_deeper e0.frames,.inr ⟨rfl,rfl⟩,fun b z=>absurd z (noA b),e0.bs,e0.bsz,fun b _ _=>noA b,fun b z=>absurd z (noA b),e0.funs,e0.frf⟩,
  rfl,e0.bare,Un.kept hk,⟨_,x.toInCall.ns,fun i y v h1 h2 h3=>?_⟩,fun y c h=>⟨_,x.cell y c h⟩,e0.hok.fresh (Nat.le_refl _),fun y c h=>?_,fun p hp=>absurd (show p∈([]:List (Addr×Obj)) from hp) (by simp),e0.hok.kept hk,?_⟩
 ·exact name_of_addr x.apart (PySem.mem_of_lookup h1) (PySem.mem_of_lookup h2)
 ·have hy:scope.names.lookup y=some .cell∨scope.names.lookup y=some .free:=hy
  rcases hy with hy | hy
  ·exact Q3 hy
  ·exact absurd rfl (S.nofree _ (PySem.mem_of_lookup hy))
 ·exact Nat.le_of_lt (x.above y c (PySem.mem_of_lookup h))
 ·have hi:i<vs.length:=by
   unfold start at h2
   by_cases hi:i<vs.length
   ·exact hi
   ·rw [List.getElem?_append_right (by simpa using hi)] at h2
    rw [List.getElem?_replicate] at h2
    split at h2<;>cases h2
  have ha:vs[i]?=some v:=by
   unfold start at h2
   rw [List.getElem?_append_left (by simpa using hi),List.getElem?_map] at h2
   cases e:vs[i]? with
   | none=>rw [e] at h2;cases h2
   | some a=>rw [e] at h2;cases h2;rfl
  obtain⟨u,hu,rv⟩:=r.get ha
  have hp:ps[i]?=some y:=by
   rw [← S.pre,List.getElem?_take_of_lt (by omega)];exact h1
  have ndP:ps.Nodup:=by rw [← S.pre];exact S.nd.sublist (List.take_sublist _ _)
  refine⟨u,rv,?_⟩
  rcases S.par y (List.mem_of_getElem? hp) with k | k
  ·exact .inl ⟨k,Ub ndP hp hu k⟩
  ·obtain⟨c,e⟩:=Q3 (n:=s.heap.objs.size+1) k
   refine .inr ⟨.inl k,c,e,?_⟩
   have q:=x.cell y c e
   rw [UT ndP hp hu (by show scope.names.lookup y≠_;rw [k];decide)] at q
   exact q
 ·exact e0.hok.fresh (Nat.le_of_lt (x.above y c (PySem.mem_of_lookup h)))
 ·unfold start
  show _=N.length
  rw [List.length_append,List.length_map,List.length_replicate]
  omega
theorem zbW {CX:CXT} {P:Program} {w:World} {K:PySem.W.Frag} {mg:Str->Option Value} {base:Heap} {k:Nat} {f:Addr} {name qual:Str} {params:Arguments} {body:List Stmt} {scope:Scope} {dV kV doc pm cdv ct oc:Value} {an od:Option Addr}
  {osl:Array (Option Value)} {N ps:List Str} {sp:Sp} (lk:K.lookup f=some ⟨oc,od,.func (PySem.W.fnOf name qual params body scope dV kV doc pm an cdv ct),osl⟩) (hcd:PySem.W.codeIn K cdv qual=true) (S:zF N ps scope)
  (len:∀ vs H Q E,sp vs H Q E->vs.length=ps.length)
  (hbody:∀ (A:Around) (outer:List Env) (s:Shared) (H:Hp) (vs:List V) (Q:VK) (E:XK),Room k (A.deeper (envOfC qual scope s.heap.objs.size f cdv))->sp vs H Q E ->
   ∃ t,PSs (Ys CX P w K mg base N qual scope f cdv A outer s H E) body t∧t { nx:=fun _ H'=>Q .non H',rt:=Q } (start N vs) H) :
  FnOk P w K mg base CX (k+1) f (PySem.W.fnOf name qual params body scope dV kV doc pm an cdv ct) ps sp:=by
 refine⟨len,fun A outer s H args us vs Q E hr e0 hb r hsp=>?_⟩
 have hl:=len _ _ _ _ hsp
 have KX:K.In s.heap:=e0.mod.kin.keeps fun b o e=>(e0.bs b o e).1
 have lim:s.heap.NoLimit:=e0.mod.nolimit.keeps fun b o e=>(e0.bs b o e).1
 have hkind:∀ y∈ps.zip us,scope.names.lookup y.1=some .local∨(scope.names.lookup y.1=some .cell∧((cellsFrom (s.heap.objs.size+1) scope.names []).lookup y.1).isSome=true):=fun ⟨n,v⟩ hy=>by
  rcases S.par n (List.of_mem_zip hy).1 with q | q
  ·exact .inl q
  ·exact .inr ⟨q,PySem.W.cellsFrom_some _ _ _ (.inl q)⟩
 refine codeAny_call_function hr.depth (KX _ _ lk) rfl S.co S.gen rfl (PySem.W.codeRec_of KX hcd) (hb _ _ _ _ ?_)
 refine wpAny_newFunctionEnv_cells S.kind hkind fun env he s1 x=>?_
 subst he
 refine⟨lim.keeps x.toInCall.keep,codeAny_func ?_⟩
 obtain⟨t,ht,hq⟩:=hbody A outer s H vs Q E (hr.deeper _) hsp
 have I:Inv (Ys CX P w K mg base N qual scope f cdv A outer s H E) [] (start N vs) H s1:=Uy S hr.hd e0 hl r x
 refine wpAny_mono (ht [] s1 (start N vs) H _ I hq) (fun fl s' hs=>?_) fun e s' hs=>hs
 have fin:∀ {σ':St} {H':Hp} {v:V} {u:Value},Inv (Ys CX P w K mg base N qual scope f cdv A outer s H E) [] σ' H' s'->RelV v u->Q v H'->CE outer P w H s Q u s' :=
  fun {σ' H' v u} J rv q=>⟨v,H',J.os,J.bare,J.base,J.hok,rv,q⟩
 cases fl with
 | ret u =>
  obtain⟨v,σ',H',J,rv,q⟩:=hs
  exact fin J rv q
 | next =>
  obtain⟨σ',H',J,q⟩:=hs
  exact fin (v:=V.non) (u:=Value.none) J rfl q
 | brk =>
  obtain⟨_,_,_,q⟩:=hs
  exact False.elim q
 | cont =>
  obtain⟨_,_,_,q⟩:=hs
  exact False.elim q
section
variable {X:Cx} {x:Str} {p pos:Pos} {e:Expr} {es:List Expr} {t:TA} {id T:String} {r:List V->Hp->VK->Prop}
def tCB (r:List V->Hp->VK->Prop) (t:TA):TE:=fun σ H Q=>t σ H fun vs H1=>r vs H1 Q
theorem zz (hc:wy X (.builtin id) r) (hg:Gl X x) (hm:X.mg x=none) (hv:bootBuiltins x=some (.builtin id)) (ha:PA X (e :: es) t) (hn:x ≠ "__name__":=by decide) (hdb:(x == ("__debug__" : Str))=false:=by decide)
  (he:starEach (e :: es) X.env=(false,eval e X.env) :: starEach es X.env:=by rfl) (hpl:(backTo pos (starEach es X.env)).any (·.1)=false:=by rfl):PE X (.Call (.Name x p) (e :: es) [] pos) (tCB r t):=by
 intro pins s σ H Q I h
 refine wpAny_Call_Name_kw (Yv I hg hm hv ?_ hn hdb)
 exact PyProof.Rows.callWith_builtin1 (thn (ha pos pins s σ H _ I h) fun us s1 ⟨vs,H1,I1,r1,q1⟩=>hc pins s1 σ H1 vs us Q I1 r1 q1) he hpl
theorem jw (hc:wy X (.type T) r) (hg:Gl X x) (hm:X.mg x=none) (hv:bootBuiltins x=some (.type T)) (ha:PA X (e :: es) t) (hn:x ≠ "__name__":=by decide) (hdb:(x == ("__debug__" : Str))=false:=by decide)
  (he:starEach (e :: es) X.env=(false,eval e X.env) :: starEach es X.env:=by rfl) (hpl:(backTo pos (starEach es X.env)).any (·.1)=false:=by rfl):PE X (.Call (.Name x p) (e :: es) [] pos) (tCB r t):=by
 intro pins s σ H Q I h
 refine wpAny_Call_Name_kw (Yv I hg hm hv ?_ hn hdb)
 exact PyProof.Rows.callWith_type1 (thn (ha pos pins s σ H _ I h) fun us s1 ⟨vs,H1,I1,r1,q1⟩=>hc pins s1 σ H1 vs us Q I1 r1 q1) he hpl
end
end L2
namespace HT
open PySem PyProof.Rows
def lexLt:List Int->List Int->Bool
 | [],[]=>false
 | [],_ :: _=>true
 | _ :: _,[]=>false
 | x :: xs,y :: ys=>if x=y then lexLt xs ys else decide (x<y)
theorem qy (x y:Int) (xs ys:List Int):lexLt (x :: xs) (y :: ys)=if x=y then lexLt xs ys else decide (x<y):=rfl
theorem Yc:lexLt [] []=false:=rfl
theorem Vs (y:Int) (ys:List Int):lexLt [] (y :: ys)=true:=rfl
theorem vL (x:Int) (xs:List Int):lexLt (x :: xs) []=false:=rfl
theorem zc5 (A:Around) (s:Shared) (a:Int) (t:Tok) (c:Int) (u:Tok):∃ e,SeqAt.EqAt A s (.int a t) (.int c u) e∧(e=true↔a=c) :=
 ⟨(a == c),SeqAt.EqAt.int_int a t c u,by simp⟩
theorem zcx (A:Around) (s:Shared) (a:Int) (t:Tok) (c:Int) (u:Tok) (prog:Program) (w:World) (E:Value->Shared->Prop) (Q:Value->Shared->Prop) (h:Q (.bool (decide (a<c))) s) :
  wpAny (model prog w) A (richCompare .Lt (.int a t) (.int c u)) Q E s :=
 (PyProof.Rows.lt_int h:wpAny (model prog w) A (compareOp .Lt (.int a t) (.int c u)) Q E s)
section
open PySem.SeqAt
open PySem.AutoSeq1 (wpAny_loadPart')
open PySem.MeetsSeq PySem.MeetsSeq2 PySem.MeetsSeq3
end
section
variable {prog:Program} {w:World} {A:Around} {E:Value->Shared->Prop} {s:Shared}
def sIx (n d:Nat):Option Int->Nat
 | none=>d
 | some v=>if v<0 then (v+(n:Int)).toNat else min v.toNat n
theorem Jb (n d:Nat):sIx n d none=d:=rfl
theorem Wn (n d k:Nat):sIx n d (some (k:Int))=min k n:=by
 show (if (k:Int)<0 then ((k:Int)+(n:Int)).toNat else min (k:Int).toNat n)=min k n
 rw [if_neg (by omega),Int.toNat_natCast]
end
end HT
namespace L2
open PySem PySem.Spec PyProof.Rows
abbrev TO:=St->Hp->(Option Int->Hp->Prop)->Prop
def PO (X:Cx) (e:Option Expr) (t:TO):Prop :=
 ∀ (pins:List (Addr×Obj)) (s:Shared) (σ:St) (H:Hp) (Q:Option Int->Hp->Prop),Inv X pins σ H s->t σ H Q ->
  wpAny (model X.prog X.w) X.A (evalPart e X.env) (fun u s'=>∃ o H',Inv X pins σ H' s'∧IsPart u o∧Q o H') X.xe s
def zaD:TO:=fun _ H Q=>Q none H
def zd4 (t:TE):TO:=fun σ H Q=>t σ H fun x H1=>∃ i,x=.int i∧Q (some i) H1
theorem intsAre_of {ns:List Int}:∀ {us:List Value},Vals (ns.map V.int) us->IntsAre us ns:=by
 induction ns with
 | nil=>intro us r;rw [List.map_nil] at r;cases r;exact .nil
 | cons n ns ih =>
  intro us r
  rw [List.map_cons] at r
  cases r with
  | cons r1 r2 =>
   obtain⟨t,e⟩:=r1
   subst e
   exact .cons n t (ih r2)
section
variable {X:Cx} {e:Expr} {te:TE} {lo hi:Option Expr} {tl th:TO} {pos p2:Pos}
theorem uG:PO X none zaD:=by
 intro pins s σ H Q I h
 rw [evalPart_none]
 exact wpAny_pure ⟨none,H,I,.none,h⟩
theorem vf (h:PE X e te):PO X (some e) (zd4 te):=by
 intro pins s σ H Q I hw
 rw [evalPart_some]
 refine thn (h pins s σ H _ I hw) fun u s1 ⟨x,H1,I1,r1,q1⟩=>?_
 obtain⟨i,rfl,q⟩:=q1
 obtain⟨t,rfl⟩:=r1
 exact⟨some i,H1,I1,.int i t,q⟩
def SlR (X:Cx) (r:V->Option Int->Option Int->Hp->VK->Prop):Prop :=
 ∀ (pins:List (Addr×Obj)) (s:Shared) (σ:St) (H:Hp) (x:V) (v vl vu:Value) (lo hi:Option Int) (sl:Addr) (Q:VK),Inv X pins σ H s->RelV x v->s.heap.IsSliceOf sl vl vu .none->IsPart vl lo->IsPart vu hi->r x lo hi H Q ->
  ∃ T id,typeLookup (.type T) "__getitem__" = pure (some (.builtin id))∧s.TypeIs v T∧wpAny (model X.prog X.w) X.A (getItem v (.ref sl)) (EP X pins σ Q) X.xe s
def tSl (r:V->Option Int->Option Int->Hp->VK->Prop) (te:TE) (tl th:TO):TE:=fun σ H Q=>te σ H fun x H1=>tl σ H1 fun l H2=>th σ H2 fun u H3=>r x l u H3 Q
theorem ww {r:V->Option Int->Option Int->Hp->VK->Prop} (hr:SlR X r) (he:PE X e te) (hl:PO X lo tl) (hu:PO X hi th):PE X (.Subscript e (.Slice lo hi none p2) pos) (tSl r te tl th):=by
 intro pins s σ H Q I h
 refine Subscript_ (thn (he pins s σ H _ I h) fun v s1 ⟨x,H1,I1,r1,q1⟩=>?_)
 refine wpAny_Slice (thn (hl pins s1 σ H1 _ I1 q1) fun vl s2 ⟨l,H2,I2,pl,q2⟩=>thn (hu pins s2 σ H2 _ I2 q2) fun vu s3 ⟨u,H3,I3,pu,q3⟩=>?_)
 rw [evalPart_none]
 refine wpAny_pure ?_
 have I4:Inv X pins σ H3 { s3 with heap:=s3.heap.push { cls:=.type "slice",data:=.fields #[vl,vu,.none] } }:=I3.kept (t':=s3.toks) fun b ob q=>Heap.get?_push_of_some _ q
 obtain⟨T,id,hT,ht,hg⟩:=hr pins { s3 with heap:=s3.heap.push { cls:=.type "slice",data:=.fields #[vl,vu,.none] } } σ H3 x v vl vu l u s3.heap.objs.size Q I4 r1 (Heap.IsSliceOf.new ..) pl pu q3
 show wpAny (model X.prog X.w) X.A (subscriptTail e (.Slice lo hi none p2) v (.ref s3.heap.objs.size)) (EP X pins σ Q) X.xe { s3 with heap:=s3.heap.push { cls:=.type "slice",data:=.fields #[vl,vu,.none] } }
 exact tail_any (ops:=[.ref s3.heap.objs.size,v]) ht hT hg (by with_unfolding_all rfl)
def tR (xs:List V) (lo hi:Option Int):List V:=(xs.drop (HT.sIx xs.length 0 lo)).take (HT.sIx xs.length xs.length hi-HT.sIx xs.length 0 lo)
theorem JB (xs:List V) (lo hi:Option Int):(tR xs lo hi).length≤xs.length:=by
 unfold tR
 rw [List.length_take,List.length_drop]
 omega
end
def ixN (n:Nat) (i:Int):Option Nat:=if 0≤i then (if i<n then some i.toNat else none) else if -(n:Int)≤i then some (i+n).toNat else none
def atI {α:Type} (xs:List α) (i:Int):Option α:=(ixN xs.length i).bind fun j=>xs[j]?
theorem za0 {n:Nat} {i:Int} {j:Nat} (h:ixN n i=some j):seqIndex? i n=some j∧j<n∧-(n:Int)≤i∧i<n:=by
 unfold ixN at h
 by_cases h0:0≤i
 ·rw [if_pos h0] at h
  by_cases h1:i<n
  ·rw [if_pos h1] at h
   have e:i.toNat=j:=Option.some.inj h
   exact⟨by rw [seqIndex_of h0 h1,e],by omega,by omega,h1⟩
  ·rw [if_neg h1] at h;cases h
 ·rw [if_neg h0] at h
  by_cases h1:-(n:Int)≤i
  ·rw [if_pos h1] at h
   have e:(i+n).toNat=j:=Option.some.inj h
   exact⟨by rw [seqIndex_neg (by omega) h1,e],by omega,h1,by omega⟩
  ·rw [if_neg h1] at h;cases h
theorem za8 {α:Type} {xs:List α} {i:Int} {v:α} (h:atI xs i=some v):∃ j,seqIndex? i xs.length=some j∧xs[j]?=some v∧j<xs.length∧-(xs.length:Int)≤i∧i<xs.length:=by
 unfold atI at h
 cases e:ixN xs.length i with
 | none=>rw [e] at h;cases h
 | some j =>
  rw [e] at h
  obtain⟨h1,h2,h3,h4⟩:=za0 e
  exact⟨j,h1,h,h2,h3,h4⟩
theorem ug {α:Type} {xs:List α} {j:Nat} {v:α} (h:xs[j]?=some v):atI xs (j:Int)=some v:=by
 have hj:j<xs.length:=(List.getElem?_eq_some_iff.mp h).1
 have e:ixN xs.length (j:Int)=some j:=by
  unfold ixN
  rw [if_pos (by omega),if_pos (by omega)];simp
 unfold atI;rw [e];exact h
theorem zcZ {α:Type} (xs:List α) (v:α):atI (xs++[v]) (-1)=some v:=by
 have hl:(xs++[v]).length=xs.length+1:=by simp
 have e:ixN (xs++[v]).length (-1)=some xs.length:=by
  unfold ixN
  rw [hl,if_neg (by decide),if_pos (by omega)]
  congr 1
  omega
 unfold atI
 rw [e]
 show (xs++[v])[xs.length]?=some v
 simp
def zdd (b:Expr):Prop:=∀ o i,subscripted b false o i=operate [o,i] (getItem o i)
def IxR (X:Cx) (r:R2):Prop :=
 ∀ (value slice:Expr) (pins:List (Addr×Obj)) (s:Shared) (σ:St) (H:Hp) (x y:V) (v u:Value) (Q:VK),Inv X pins σ H s->RelV x v->RelV y u->r x y H Q ->
  subscripted slice false v u=operate [v,u] (getItem v u)->wpAny (model X.prog X.w) X.A (subscriptTail value slice v u) (EP X pins σ Q) X.xe s
def MtR (X:Cx) (id:String) (r:V->List V->Hp->VK->Prop):Prop :=
 ∀ (pins:List (Addr×Obj)) (s:Shared) (σ:St) (H:Hp) (x:V) (xs:List V) (v:Value) (us:List Value) (Q:VK),Inv X pins σ H s->RelV x v->Vals xs us->r x xs H Q ->
  wpAny (model X.prog X.w) X.A (call (.builtin id) (v :: us)) (EP X pins σ Q) X.xe s
section
variable {X:Cx} {a b:Expr} {ta tb:TE} {pos:Pos}
theorem ym {r:R2} (hr:IxR X r) (ha:PE X a ta) (hb:PE X b tb) (hs:zdd b):PE X (.Subscript a b pos) (tOp r ta tb):=by
 intro pins s σ H Q I h
 exact Subscript_ (zey ha hb I h fun v u s2 x y H2 I2 rx ry q=>hr a b pins s2 σ H2 x y v u Q I2 rx ry q (hs _ _))
def zcE (K:PySem.W.Frag):R2:=fun x y H Q=>∃ p xs i v,x=.ref p∧y=.int i∧SqL K H p xs∧atI xs i=some v∧Q v H
def zfD (K:PySem.W.Frag):R2:=fun x y H Q=>∃ p xs i v,x=.ref p∧y=.int i∧SqT K H p xs∧atI xs i=some v∧Q v H
theorem wk:IxR X (zcE X.K):=by
 intro value slice pins s σ H x y v u Q I rx ry h hs
 obtain⟨p,xs,i,z,rfl,rfl,hq,he,q⟩:=h
 cases rx
 obtain⟨t,rfl⟩:=ry
 obtain⟨its,r,pl,hz⟩:=I.list hq
 obtain⟨j,h1,h2,h3,h4,h5⟩:=za8 he
 obtain⟨w,ew,rw'⟩:=r.get h2
 have hl:=r.length
 have hn:=Qo
 have fin:EP X pins σ Q w s:=⟨z,H,I,rw',q⟩
 by_cases h0:0≤i
 ·have hj:i.toNat=j:=by
   rw [seqIndex_of h0 h5] at h1
   exact Option.some.inj h1
  exact item_listR pl.isList h0 (by omega) (by rw [hj];simpa using ew) fin hs
 ·have hj:(i+(its.toArray.size:Int)).toNat=j:=by
   rw [seqIndex_neg (by omega) h4] at h1
   rw [List.size_toArray,← hl]
   exact Option.some.inj h1
  exact subscriptTail_builtinR (x:=w) pl.isList.typeIs slot_list_getitem.lookup
   (wpAny_getItem_list_neg (Q:=fun r s'=>r=w∧EP X pins σ Q r s') pl.isList (by omega) (by rw [List.size_toArray]<;>omega) (by omega) (by rw [hj];simpa using ew) ⟨rfl,fin⟩) hs
theorem zeM:IxR X (zfD X.K):=by
 intro value slice pins s σ H x y v u Q I rx ry h hs
 obtain⟨p,xs,i,z,rfl,rfl,hq,he,q⟩:=h
 cases rx
 obtain⟨t,rfl⟩:=ry
 obtain⟨its,r,pl,hz⟩:=I.tuple hq
 obtain⟨j,h1,h2,h3,h4,h5⟩:=za8 he
 obtain⟨w,ew,rw'⟩:=r.get h2
 have hl:=r.length
 have hn:=Qo
 have fin:EP X pins σ Q w s:=⟨z,H,I,rw',q⟩
 exact subscriptTail_builtinR (x:=w) pl.typeIs slot_tuple_getitem.lookup
  (getItem_tuple (j:=j) (Q:=fun r s'=>r=w∧EP X pins σ Q r s') pl (by omega) (by omega) (by rw [List.size_toArray,← hl];exact h1) (by simpa using ew) ⟨rfl,fin⟩) hs
theorem JT (its:List Value) (n j:Nat) (u:Value):Obj.mapSeq (·.setIfInBounds j u) { cls:=.type "list",data:=.seq its.toArray n }={ cls:=.type "list",data:=.seq (its.set j u).toArray n }:=by
 simp [Obj.mapSeq]
theorem Inv.lst {pins:List (Addr×Obj)} {σ:St} {H:Hp} {s:Shared} {p:Addr} {xs:List V} (I:Inv X pins σ H s) (h:H p=some (.lst xs)) :
  ∃ (its:List Value) (n:Nat),Vals xs its∧s.heap.get? p=some { cls:=.type "list",data:=.seq its.toArray n }∧xs.length≤sizeLine:=by
 obtain⟨z,its,n,r,e⟩:=I.hok p _ h
 exact⟨its,n,r,e,z⟩
theorem Inv.lstUpd {pins:List (Addr×Obj)} {σ:St} {H:Hp} {s:Shared} {p:Addr} {xs ys:List V} {its its':List Value} {n n':Nat} {f:Obj->Obj} (I:Inv X pins σ H s) (h:H p=some (.lst xs))
  (ho:s.heap.get? p=some { cls:=.type "list",data:=.seq its.toArray n }) (hf:f { cls:=.type "list",data:=.seq its.toArray n }={ cls:=.type "list",data:=.seq its'.toArray n' }) (r:Vals ys its') (hz:ys.length≤sizeLine) (t:Nat) :
  Inv X pins σ (upd H p (.lst ys)) { s with heap:=s.heap.update p f,toks:=t }:=by
 have e:(s.heap.update p f).get? p=some { cls:=.type "list",data:=.seq its'.toArray n' }:=by
  rw [Heap.get?_update_self f ho (by rw [hf]<;>rfl),hf]
 refine I.write (x:=p) (e:=p) (by rw [h];trivial) (.inl rfl) (fun b u hb q=>(Heap.get?_update_other _ _ (Ne.symm hb)).trans q) ⟨_,e⟩ ?_
 exact⟨hz,its',n',r,e⟩
def zed:V->V->V->Hp->(Hp->Prop)->Prop:=fun o i v H Q=>∃ p xs k j,o=.ref p∧i=.int k∧H p=some (.lst xs)∧ixN xs.length k=some j∧Q (upd H p (.lst (xs.set j v)))
theorem set_list:zfh X zed:=by
 intro pins s σ H o i v ov iv u Q I ro ri rv h
 obtain⟨p,xs,k,j,rfl,rfl,hp,hj,q⟩:=h
 cases ro
 obtain⟨t,rfl⟩:=ri
 obtain⟨its,n,r,ho,hz⟩:=I.lst hp
 obtain⟨h1,h2,h3,h4⟩:=za0 hj
 have hl:=r.length
 have hn:=Qo
 have I':Inv X pins σ (upd H p (.lst (xs.set j v))) { s with heap:=s.heap.update p (Obj.mapSeq (·.setIfInBounds j u)) } :=
  I.lstUpd hp ho (JT its n j u) (r.set rv j) (by rw [List.length_set];exact hz) s.toks
 by_cases h0:0≤k
 ·have hk:k.toNat=j:=by
   rw [seqIndex_of h0 h4] at h1
   exact Option.some.inj h1
  exact PySem.W.ki_setAt ho h0 (by omega) (by rw [List.size_toArray,← hl];exact h4) (by rw [hk];exact⟨_,I',q⟩)
 ·have hk:(k+(its.toArray.size:Int)).toNat=j:=by
   rw [seqIndex_neg (by omega) h3] at h1
   rw [List.size_toArray,← hl]
   exact Option.some.inj h1
  exact PySem.W.ki_setBack ho (by omega) (by rw [List.size_toArray,← hl];exact h3) (by omega) (by rw [hk];exact⟨_,I',q⟩)
theorem Qg (lo hi:Option Int) (n:Nat):(sliceBounds lo hi none n).1=((HT.sIx n 0 lo:Nat):Int)∧(sliceBounds lo hi none n).2.1=((HT.sIx n n hi:Nat):Int)∧(sliceBounds lo hi none n).2.2=1:=by
 refine⟨?_,?_,rfl⟩
 ·cases lo with
  | none=>simp [sliceBounds,HT.sIx]
  | some i =>
   simp only [sliceBounds,HT.sIx,Option.getD_none,show (1:Int)>0 by decide,if_true]
   by_cases h:i<0
   ·simp only [h,if_true]<;>omega
   ·simp only [h,if_false]<;>omega
 ·cases hi with
  | none=>simp [sliceBounds,HT.sIx]
  | some i =>
   simp only [sliceBounds,HT.sIx,Option.getD_none,show (1:Int)>0 by decide,if_true]
   by_cases h:i<0
   ·simp only [h,if_true]<;>omega
   ·simp only [h,if_false]<;>omega
theorem V6 (its:List Value) (lo hi:Option Int):slicePick its.toArray lo hi none=((its.drop (HT.sIx its.length 0 lo)).take (HT.sIx its.length its.length hi-HT.sIx its.length 0 lo)).toArray:=by
 obtain⟨h1,h2,h3⟩:=Qg lo hi its.toArray.size
 unfold slicePick
 rw [h1,h2,h3]
 simp only [sliceRange_one,pick_run,List.size_toArray]<;>rfl
def zeS (K:PySem.W.Frag):V->Option Int->Option Int->Hp->VK->Prop:=fun x lo hi H Q=>∃ a xs,x=.ref a∧SqL K H a xs∧∀ p,H p=none->Q (.ref p) (upd H p (.lst (tR xs lo hi)))
theorem zdI:SlR X (zeS X.K):=by
 intro pins s σ H x v vl vu lo hi sl Q I rx hs pl pu h
 obtain⟨a,xs,rfl,hx,q⟩:=h
 cases rx
 obtain⟨its,r,ht,hz⟩:=I.list hx
 have hlen:=r.length
 refine⟨"list",_,slot_list_getitem.lookup,ht.isList.typeIs,?_⟩
 refine wpAny_getItem_list_slice ht.isList hs pl pu .none (by simp) ?_ (by rw [List.size_toArray]<;>omega)
 rw [V6,← hlen]
 refine⟨.ref s.heap.objs.size,_,I.laid (t':=s.toks) (o:=.lst (tR xs lo hi)) (fun b ob q=>Heap.get?_push_of_some _ q) (Nat.le_refl _) ?_,rfl,q _ (I.hok.fresh (Nat.le_refl _))⟩
 exact⟨Nat.le_trans (JB xs lo hi) hz,_,0,(r.drop (HT.sIx xs.length 0 lo)).take (HT.sIx xs.length xs.length hi-HT.sIx xs.length 0 lo),Heap.get?_push_size _ rfl⟩
theorem tU:wy X (.builtin "len") (fun xs H Q=>∃ p ys,xs=[.ref p]∧(SqL X.K H p ys∨SqT X.K H p ys)∧Q (.int ys.length) H):=by
 intro pins s σ H xs us Q I r h
 obtain⟨p,ys,rfl,hq,q⟩:=h
 obtain⟨u,rfl,rx⟩:=vals1 r
 cases rx
 have hn:=Qo
 rcases hq with hq | hq
 ·obtain⟨its,r',pl,hz⟩:=I.list hq
  have hlen:=r'.length
  exact Calls.call_len_list pl.isList (by simp only [List.size_toArray]<;>omega) ⟨.int ys.length,H,I.tok _,⟨s.toks+1,by rw [List.size_toArray,hlen]⟩,q⟩
 ·obtain⟨its,r',pl,hz⟩:=I.tuple hq
  have hlen:=r'.length
  exact len_tuple pl (by simp only [List.size_toArray]<;>omega) ⟨.int ys.length,H,I.tok _,⟨s.toks+1,by rw [List.size_toArray,hlen]⟩,q⟩
theorem Qk:wy X (.type "list") (fun xs H Q=>∃ p ys,xs=[.ref p]∧(SqL X.K H p ys∨SqT X.K H p ys)∧∀ l,H l=none->Q (.ref l) (upd H l (.lst ys))):=by
 intro pins s σ H xs us Q I r h
 obtain⟨p,ys,rfl,hq,q⟩:=h
 obtain⟨u,rfl,rx⟩:=vals1 r
 cases rx
 have fin:∀ (its:List Value),Vals ys its->ys.length≤sizeLine->∀ (h':Heap) (c':Nat),(∀ b o',s.heap.get? b=some o'->h'.get? b=some o') ->
   h'.get? s.heap.objs.size=some { cls:=.type "list",dict:=none,data:=.seq its.toArray c',slots:=#[] }->EP X pins σ Q (.ref s.heap.objs.size) { s with heap:=h' }:=fun its r' hz h' c' kp e =>
  ⟨.ref s.heap.objs.size,_,I.laid (t':=s.toks) kp (Nat.le_refl _) (show ObjOk X.prog X.w _ h' _ (.lst ys) from ⟨hz,its,c',r',e⟩),rfl,q _ (I.hok.fresh (Nat.le_refl _))⟩
 rcases hq with hq | hq
 ·obtain⟨its,r',pl,hz⟩:=I.list hq
  have hlen:=r'.length
  obtain⟨o,ho,hc,n,hd⟩:=pl.isList
  exact call_list_seq p (.inl rfl) ho hc hd (fun h' c' kp e=>fin its r' hz h' c' kp e) (by simp only [List.size_toArray]<;>omega)
 ·obtain⟨its,r',pl,hz⟩:=I.tuple hq
  have hlen:=r'.length
  obtain⟨o,ho,hc,n,hd⟩:=pl
  exact call_list_seq p (.inr rfl) ho hc hd (fun h' c' kp e=>fin its r' hz h' c' kp e) (by simp only [List.size_toArray]<;>omega)
theorem V2:wy X (.type "tuple") (fun xs H Q=>∃ p ys,xs=[.ref p]∧((SqL X.K H p ys∧∀ l,H l=none->Q (.ref l) (upd H l (.tup ys)))∨(SqT X.K H p ys∧Q (.ref p) H))):=by
 intro pins s σ H xs us Q I r h
 obtain⟨p,ys,rfl,h⟩:=h
 obtain⟨u,rfl,rx⟩:=vals1 r
 cases rx
 rcases h with ⟨hq,q⟩ | ⟨hq,q⟩
 ·obtain⟨its,r',pl,hz⟩:=I.list hq
  have hlen:=r'.length
  refine call_tuple_list pl.isList (fun h' kp=>?_) (by simp only [List.size_toArray]<;>omega)
  have I1:Inv X pins σ H { s with heap:=h' }:=I.kept (t':=s.toks) kp
  have I2:Inv X pins σ (upd H h'.objs.size (.tup ys)) { s with heap:=h'.push { cls:=.type "tuple",data:=.seq its.toArray } } :=
   I1.laid (t':=s.toks) (fun b o e=>Heap.get?_push_of_some _ e) (Nat.le_refl _) (show ObjOk X.prog X.w _ _ _ (.tup ys) from ⟨hz,its,r',IsTup.new _ _⟩)
  exact⟨.ref h'.objs.size,_,I2,rfl,q _ (I1.hok.fresh (Nat.le_refl _))⟩
 ·obtain⟨its,r',pl,hz⟩:=I.tuple hq
  exact call_tuple_same pl ⟨.ref p,H,I,rfl,q⟩
def tyV (K:PySem.W.Frag) (T:String) (x:V) (H:Hp):Prop:=match x with
 | .str _=>T = "str"
 | .int _=>T = "int"
 | .ref p=>(T = "list"∧∃ xs,SqL K H p xs)∨(T = "tuple"∧∃ o,K.lookup p=some o∧o.cls=.type "tuple"∧o.dict=none) ∨
   (T = "dict"∧((∃ kvs,H p=some (.dK kvs))∨∃ kvs,H p=some (.dT kvs)))∨(T = "set"∧∃ S n,H p=some (.set S n))
 | _=>False
theorem zc3 {pins:List (Addr×Obj)} {σ:St} {H:Hp} {s:Shared} {T:String} {x:V} {v:Value} (I:Inv X pins σ H s) (r:RelV x v) (ty:tyV X.K T x H) :
  s.TypeIs v T∧∀ a,v=.ref a->∃ ob,s.heap.get? a=some ob∧ob.dict=none:=by
 cases x with
 | str z =>
  obtain⟨t,rfl⟩:=r
  cases (show T = "str" from ty)
  exact⟨typeIs_str s z t,fun _ e=>nomatch e⟩
 | int i =>
  obtain⟨t,rfl⟩:=r
  cases (show T = "int" from ty)
  exact⟨typeIs_int s i t,fun _ e=>nomatch e⟩
 | ref p =>
  cases r
  rcases ty with ⟨rfl,xs,hq⟩ | ⟨rfl,o,hk,hc,hd⟩ | ⟨rfl,hk⟩ | ⟨rfl,S,n,hk⟩
  ·obtain⟨its,_,pl,_⟩:=I.list hq
   refine⟨pl.isList.typeIs,fun a e=>?_⟩
   cases e
   obtain⟨o,n,e,c,hd,_⟩:=pl
   exact⟨o,e,hd⟩
  ·refine⟨⟨o,I.kIn p o hk,hc⟩,fun a e=>?_⟩
   cases e
   exact⟨o,I.kIn _ o hk,hd⟩
  ·have z:∃ o,s.heap.get? p=some o∧o.ExactDict:=by
    rcases hk with ⟨kvs,hk⟩ | ⟨kvs,hk⟩
    ·obtain⟨_,_,_,_,o,_,_,e,ex,_⟩:=I.hok p _ hk
     exact⟨o,e,ex⟩
    ·obtain⟨_,_,_,_,o,_,_,e,ex,_⟩:=I.hok p _ hk
     exact⟨o,e,ex⟩
   obtain⟨o,e,ex⟩:=z
   refine⟨⟨o,e,ex.1⟩,fun a e2=>?_⟩
   cases e2
   exact⟨o,e,ex.2.1⟩
  ·obtain⟨o,_,_,_,e,ex,_⟩:=I.hok p _ hk
   refine⟨⟨o,e,ex.1⟩,fun a e2=>?_⟩
   cases e2
   exact⟨o,e,ex.2.1⟩
 | _=>exact False.elim ty
def zfO (K:PySem.W.Frag) (T:String) (r:V->List V->Hp->VK->Prop) (to:TE):TE:=fun σ H Q=>to σ H fun x H1=>tyV K T x H1∧r x [] H1 Q
def tBM (K:PySem.W.Frag) (T:String) (r:V->List V->Hp->VK->Prop) (to:TE) (t:TA):TE:=fun σ H Q=>to σ H fun x H1=>tyV K T x H1∧t σ H1 fun xs H2=>r x xs H2 Q
variable {o e:Expr} {es:List Expr} {to:TE} {t:TA} {name:Str} {apos cpos:Pos} {T id:String} {r:V->List V->Hp->VK->Prop}
theorem zaa (pa:PlainAttrs T) (slot:Slot T name id) (hty:typeOf (.builtin id)=pure (.type "method_descriptor")) (hm:MtR X id r) (ho:PE X o to)
  (hbase:attributeBase o name X.env (eval o X.env)=eval o X.env:=by rfl) (hline:(apos.endLine == cpos.line)=true:=by rfl):PE X (.Call (.Attribute o name apos) [] [] cpos) (zfO X.K T r to):=by
 intro pins s σ H Q I h
 refine wpAny_Call_method0_late hbase hline (thn (ho pins s σ H _ I h) fun v s1 ⟨x,H1,I1,r1,ty,q1⟩=>?_)
 obtain⟨h1,h2⟩:=zc3 I1 r1 ty
 exact⟨T,id,pa,slot,hty,h1,h2,Calls.callWith_builtin rfl (PySem.evalArgs_none (hm pins s1 σ H1 x [] v [] Q I1 r1 .nil q1))⟩
theorem ZC (pa:PlainAttrs T) (slot:Slot T name id) (hty:typeOf (.builtin id)=pure (.type "method_descriptor")) (hm:MtR X id r) (ho:PE X o to) (ha:PA X (e :: es) t)
  (hbase:attributeBase o name X.env (eval o X.env)=eval o X.env:=by rfl)
  (hfew:((backTo cpos (starEach (e :: es) X.env)).all (fun x=>!x.1) && (backToKw cpos (keywordEach [] X.env)).all (fun x=>x.1.isSome)
   && decide ((e :: es).length+([]:List Keyword).length+(if ([]:List Keyword).isEmpty then 0 else 1)<30))=true:=by rfl)
  (hline:(apos.endLine == cpos.line)=true:=by rfl) (hs:starEach (e :: es) X.env=(false,eval e X.env) :: starEach es X.env:=by rfl) (hplain:(backTo cpos (starEach es X.env)).any (·.1)=false:=by rfl) :
  PE X (.Call (.Attribute o name apos) (e :: es) [] cpos) (tBM X.K T r to t):=by
 intro pins s σ H Q I h
 refine wpAny_Call_method_late hbase hfew hline rfl (thn (ho pins s σ H _ I h) fun v s1 ⟨x,H1,I1,r1,ty,q1⟩=>?_)
 obtain⟨h1,h2⟩:=zc3 I1 r1 ty
 refine⟨T,id,pa,slot,hty,h1,h2,?_⟩
 have hA:=ha cpos pins s1 σ H1 _ I1 q1
 rw [hs] at hA ⊢
 refine Calls.callWith_builtin (by show (false || (backTo cpos (starEach es X.env)).any (·.1))=false;rw [hplain]<;>rfl) (Calls.evalArgs_plain ?_)
 exact thn hA fun us s2 ⟨vs,H2,I2,r2,q2⟩=>hm pins s2 σ H2 x vs v us Q I2 r1 r2 q2
end
def MtM (X:Cx) (id:String) (r:V->List V->Hp->VK->Prop):Prop :=
 ∀ (pins:List (Addr×Obj)) (s:Shared) (σ:St) (H:Hp) (x:V) (xs:List V) (v:Value) (us:List Value) (Q:VK),Inv X pins σ H s->RelV x v->Vals xs us->r x xs H Q ->
  wpAny (model X.prog X.w) X.A (call (.builtin id) (v :: us)) (EP X pins σ Q) X.xe s
theorem Vals.one:∀ {x:V} {us:List Value},Vals [x] us->∃ u,us=[u]∧RelV x u
 | _,_,.cons r .nil=>⟨_,rfl,r⟩
theorem Vals.zero:∀ {us:List Value},Vals [] us->us=[]
 | _,.nil=>rfl
theorem Vals.dropLast {xs:List V} {us:List Value} (h:Vals xs us):Vals xs.dropLast us.dropLast:=by
 induction h with
 | nil=>exact .nil
 | cons r t ih =>
  cases t with
  | nil=>exact .nil
  | cons q t'=>exact .cons r ih
theorem Vals.eraseIdx:∀ {xs:List V} {us:List Value} (i:Nat),Vals xs us->Vals (xs.eraseIdx i) (us.eraseIdx i)
 | _,_,_,.nil=>.nil
 | _,_,0,.cons _ t=>t
 | _,_,i+1,.cons r t=>.cons r (Vals.eraseIdx i t)
theorem Vals.reverse {xs:List V} {us:List Value} (h:Vals xs us):Vals xs.reverse us.reverse:=by
 induction h with
 | nil=>exact .nil
 | cons r t ih=>rw [List.reverse_cons,List.reverse_cons];exact Vals.append ih (.cons r .nil)
theorem Vals.rep {xs:List V} {us:List Value} (h:Vals xs us):∀ k:Nat,Vals (List.replicate k xs).flatten (List.replicate k us).flatten
 | 0=>.nil
 | k+1=>by
  rw [List.replicate_succ,List.replicate_succ,List.flatten_cons,List.flatten_cons]
  exact Vals.append h (Vals.rep h k)
theorem JZ {α:Type} (l:List α):l.eraseIdx (l.length-1)=l.dropLast:=by
 induction l with
 | nil=>rfl
 | cons a r ih =>
  cases r with
  | nil=>rfl
  | cons b r =>
   have e:(a :: b :: r).length-1=((b :: r).length-1)+1:=by
    have h1:(a :: b :: r).length=r.length+2:=rfl
    have h2:(b :: r).length=r.length+1:=rfl
    omega
   rw [e,List.eraseIdx_cons_succ,ih]
   all_goals rfl
theorem foldl_rep (its:List Value):∀ (k:Nat) (acc:List Value),
  List.foldl (fun x1 x2=>x1++x2) acc.toArray (List.replicate k its.toArray)=(acc++(List.replicate k its).flatten).toArray
 | 0,acc=>by simp
 | k+1,acc=>by
  have e:acc.toArray++its.toArray=(acc++its).toArray:=by simp
  have e2:(acc++its)++(List.replicate k its).flatten=acc++(List.replicate (k+1) its).flatten:=by
   rw [List.replicate_succ,List.flatten_cons,List.append_assoc]
  rw [← e2,← foldl_rep its k (acc++its),← e,List.replicate_succ,List.foldl_cons]
section
variable {X:Cx} {pins:List (Addr×Obj)} {σ:St} {H:Hp} {s:Shared} {l b:Addr} {xs ys zs:List V}
theorem Inv.lset {its its':List Value} {n:Nat} {f:Array Value->Array Value} {t':Nat} (I:Inv X pins σ H s) (hH:H l=some (.lst xs))
  (e:s.heap.get? l=some { cls:=.type "list",data:=.seq its.toArray n }) (hf:f its.toArray=its'.toArray) (hv:Vals ys its') (hz:ys.length≤sizeLine) :
  Inv X pins σ (upd H l (.lst ys)) { s with heap:=s.heap.update l (Obj.mapSeq f),toks:=t' }:=by
 have q:=PySem.IsL.update e f
 rw [hf] at q
 refine I.write (x:=l) (e:=l) (by rw [hH];exact trivial) (.inl rfl) (fun b' u hb hu=>(Heap.get?_update_other s.heap (Obj.mapSeq f) (Ne.symm hb)).trans hu) ⟨_,q⟩ ?_
 exact⟨hz,its',_,hv,q⟩
theorem Inv.lnew {its:List Value} {t':Nat} (I:Inv X pins σ H s) (hv:Vals ys its) (hz:ys.length≤sizeLine) :
  Inv X pins σ (upd H s.heap.objs.size (.lst ys)) { s with heap:=s.heap.push { cls:=.type "list",data:=.seq its.toArray },toks:=t' } :=
 I.laid (fun _ _ q=>Heap.get?_push_of_some _ q) (Nat.le_refl _) ⟨hz,its,0,hv,Heap.get?_push_size _ rfl⟩
theorem Inv.fresh (I:Inv X pins σ H s):H s.heap.objs.size=none:=I.hok.fresh (Nat.le_refl _)
theorem Inv.lstM (I:Inv X pins σ H s) (hH:H l=some (.lst xs)):xs.length≤sizeLine∧∃ (its:List Value) (n:Nat),Vals xs its∧xs.length=its.length∧s.heap.get? l=some { cls:=.type "list",data:=.seq its.toArray n }:=by
 obtain⟨z,its,n,r,e⟩:=I.hok l _ hH
 exact⟨z,its,n,r,r.length,e⟩
theorem Q9 {n:Nat} (h:n≤sizeLine):Builtin.List.listTooLong n=false:=by
 unfold Builtin.List.listTooLong
 exact decide_eq_false (by omega)
end
section
variable {X:Cx}
def zdW:V->List V->Hp->VK->Prop:=fun x vs H Q=>∃ l xs y,x=.ref l∧vs=[y]∧H l=some (.lst xs)∧xs.length<sizeLine∧Q .non (upd H l (.lst (xs++[y])))
theorem qb:MtM X "list.append" zdW:=by
 intro pins s σ H x vs v us Q I rx rv h
 obtain⟨l,xs,y,rfl,rfl,hH,hz,q⟩:=h
 cases rx
 obtain⟨u,rfl,ru⟩:=rv.one
 obtain⟨z,its,n,r,hl,e⟩:=I.lstM hH
 refine call_meets F.slot_list_append ⟨_,e,rfl⟩ F.entry_list_append (F.args_list_append_2 _ _) (PySem.list_append l its.toArray n u (by rw [List.size_toArray];omega)) ⟨e,?_⟩
 refine⟨.non,_,I.lset (its':=its++[u]) hH e (by simp) (r.append (.cons ru .nil)) ?_,rfl,q⟩
 rw [List.length_append,List.length_singleton]
 omega
def zdU:V->List V->Hp->VK->Prop:=fun x vs H Q=>∃ l b xs zs,x=.ref l∧vs=[.ref b]∧H l=some (.lst xs)∧H b=some (.lst zs)∧xs.length+zs.length≤sizeLine∧Q .non (upd H l (.lst (xs++zs)))
theorem ZV:MtM X "list.extend" zdU:=by
 intro pins s σ H x vs v us Q I rx rv h
 obtain⟨l,b,xs,zs,rfl,rfl,hH,hB,hz,q⟩:=h
 cases rx
 obtain⟨u,rfl,ru⟩:=rv.one
 cases ru
 obtain⟨z,its,n,r,hl,e⟩:=I.lstM hH
 obtain⟨z2,its2,n2,r2,hl2,e2⟩:=I.lstM hB
 have hsz:its.toArray.size+its2.toArray.size≤sizeLine:=by rw [List.size_toArray,List.size_toArray];omega
 have hlong:¬ (!its.toArray.isEmpty && Builtin.List.listTooLong (its.toArray.size+its2.toArray.size))=true:=by
  rw [Q9 hsz,Bool.and_false]
  exact Bool.false_ne_true
 refine call_meets F.slot_list_extend ⟨_,e,rfl⟩ F.entry_list_extend (F.args_list_extend_2 _ _)
  (AutoSeq1.list_extend_list_list_0 l its.toArray n b its2.toArray n2 hlong (by rw [List.size_toArray];omega) (by omega)) ⟨e,e2,?_⟩
 refine⟨.non,_,I.lset (its':=its++its2) hH e (by simp) (r.append r2) ?_,rfl,q⟩
 rw [List.length_append]
 omega
def zfX:V->List V->Hp->VK->Prop:=fun x vs H Q=>∃ l xs y,x=.ref l∧vs=[]∧H l=some (.lst xs)∧xs[xs.length-1]?=some y∧Q y (upd H l (.lst xs.dropLast))
theorem J6:MtM X "list.pop" zfX:=by
 intro pins s σ H x vs v us Q I rx rv h
 obtain⟨l,xs,y,rfl,rfl,hH,hy,q⟩:=h
 cases rx
 have hus:=rv.zero
 subst hus
 obtain⟨z,its,n,r,hl,e⟩:=I.lstM hH
 obtain⟨u,hu,ru⟩:=r.get hy
 have hy':its.toArray[its.toArray.size-1]?=some u:=by
  show its.toArray[its.length-1]?=some u
  rw [← Array.getElem?_toList,← hl]
  exact hu
 refine call_meets F.slot_list_pop ⟨_,e,rfl⟩ F.entry_list_pop (F.args_list_pop_1 _) (MeetsSeq.list_pop_last l its.toArray n u hy' (by rw [List.size_toArray];omega)) ⟨e,?_⟩
 refine⟨y,_,I.lset (its':=its.dropLast) hH e ?_ r.dropLast ?_,ru,q⟩
 ·show its.toArray.eraseIdxIfInBounds (its.toArray.size-1)=its.dropLast.toArray
  rw [List.size_toArray,List.eraseIdxIfInBounds_toArray,JZ]
 ·rw [List.length_dropLast]
  omega
def zfj:R2:=fun x y H Q=>∃ l b xs zs,x=.ref l∧y=.ref b∧H l=some (.lst xs)∧H b=some (.lst zs)∧xs.length+zs.length≤sizeLine∧∀ p,H p=none->Q (.ref p) (upd H p (.lst (xs++zs)))
theorem qC:OpR X (binaryOp .Add) zfj:=by
 intro pins s σ H x y v u Q I rx ry h
 obtain⟨l,b,xs,zs,rfl,rfl,hH,hB,hz,q⟩:=h
 cases rx
 cases ry
 obtain⟨z,its,n,r,hl,e⟩:=I.lstM hH
 obtain⟨z2,its2,n2,r2,hl2,e2⟩:=I.lstM hB
 refine PySem.P.add_list e e2 ?_ (by rw [List.size_toArray,List.size_toArray];omega)
 have ea:its.toArray++its2.toArray=(its++its2).toArray:=by simp
 rw [ea]
 exact⟨.ref _,_,I.lnew (t':=s.toks) (r.append r2) (by rw [List.length_append];omega),rfl,q _ I.fresh⟩
def zfB:R2:=fun x y H Q=>∃ l k xs,x=.ref l∧y=.int k∧H l=some (.lst xs)∧-(2^63)≤k∧k<2^63∧xs.length*k.toNat≤sizeLine ∧
 ∀ p,H p=none->Q (.ref p) (upd H p (.lst (List.replicate k.toNat xs).flatten))
theorem len_rep {α:Type} (xs:List α) (k:Nat):(List.replicate k xs).flatten.length=k*xs.length:=by
 induction k with
 | zero=>simp
 | succ k ih=>rw [List.replicate_succ,List.flatten_cons,List.length_append,ih,Nat.succ_mul,Nat.add_comm]
theorem zeq:OpR X (binaryOp .Mult) zfB:=by
 intro pins s σ H x y v u Q I rx ry h
 obtain⟨l,k,xs,rfl,rfl,hH,h1,h2,hz,q⟩:=h
 cases rx
 obtain⟨t,rfl⟩:=ry
 obtain⟨z,its,n,r,hl,e⟩:=I.lstM hH
 have hlen:its.toArray.size*k.toNat≤sizeLine:=by rw [List.size_toArray,← hl];exact hz
 have hcap:¬ its.toArray.size*k.toNat>(2^63-1) / 8:=by
  have:(sizeLine:Nat)≤(2^63-1) / 8:=by decide
  omega
 have hfit:¬ (!Builtin.List.listFitsIndex k)=true:=by
  rw [fitsIndex_both h1 h2]
  exact Bool.false_ne_true
 have hlong:¬ Builtin.List.listTooLong (its.toArray.size*k.toNat)=true:=by
  rw [Q9 hlen]
  exact Bool.false_ne_true
 have hnew:List.foldl (fun x1 x2=>x1++x2) #[] (List.replicate (if its.toArray.isEmpty=true then 0 else k.toNat) its.toArray)=(List.replicate k.toNat its).flatten.toArray:=by
  have f0:∀ m:Nat,List.foldl (fun x1 x2=>x1++x2) #[] (List.replicate m its.toArray)=(List.replicate m its).flatten.toArray:=fun m=>by
   have:=foldl_rep its m []
   rw [List.nil_append] at this
   exact this
  rw [f0]
  cases its with
  | nil=>simp
  | cons a r'=>rw [if_neg (by simp)]
 refine wpAny_binaryOp_repeat_ref (T:="list") (U:="int") (by decide) ⟨_,e,rfl⟩ (fun s'=>typeIs_int s' k t) noFill_list_mul F.fills_int_mul F.slot_int_rmul repeat_list F.slot_int_index.lookup
  (call_meets F.slot_int_rmul (typeIs_int s k t) F.entry_int_rmul (F.args_int_rmul_2 _ _) (int___rmul___int_list k t l its.toArray n)
   ⟨e,rfl,⟨_,e,rfl⟩,call_meets F.slot_list_mul ⟨_,e,rfl⟩ F.entry_list_mul (F.args_list_mul_2 _ _) (AutoListH.list___mul___list_int_3 l its.toArray n k t hfit hcap hlong) ⟨e,?_⟩⟩)
 rw [hnew]
 exact⟨.ref _,_,I.lnew (t':=s.toks) (r.rep k.toNat) (by rw [len_rep,Nat.mul_comm];exact hz),rfl,q _ I.fresh⟩
end
section
variable {prog:Program} {w:World} {A:Around} {E:Value->Shared->Prop} {s:Shared}
end
section
variable {X:Cx}
end
end L2
namespace Att
open PySem PySem.W PySem.Calls PyProof.Rows
theorem Wl {P:Params} {h:Heap}:∀ (ns:List Int) (vs:List Value),WellAll P h vs (ns.map WData.int)->IntsAre vs ns:=by
 intro ns
 induction ns with
 | nil =>
  intro vs w
  rw [List.map_nil] at w
  cases w
  exact .nil
 | cons n ns ih =>
  intro vs w
  rw [List.map_cons] at w
  cases w with
  | cons a b =>
   cases a
   exact .cons _ _ (ih _ b)
theorem zbb {l:OpenLaw} {n:Nat} (hn:l.most=some n) {P:Params} {h:Heap} {args:List WData} {vals:List Value}
  (hpre:l.row.toRowW.claim.pre args=true) (hwl:WellAll P h vals args) :
  ∃ a vs ns,vals=[Value.ref a]∧args=[WData.list (ns.map WData.int)]∧h.get? a=some { cls:=.type "list",data:=.seq vs.toArray }∧IntsAre vs ns∧ns.length≤n:=by
 have hsh:WShape.hasAll [] args [.list .int]=true:=(pre_splitW hpre).1
 have hc:l.pre.holds [] { args:=args }=true:=(pre_splitW hpre).2
 obtain⟨d,r,rfl,h1,h2⟩:=hasAllW_cons hsh
 obtain rfl:=hasAllW_nil h2
 obtain⟨xs,rfl,h3⟩:=hasW_list h1
 obtain⟨ns,rfl⟩:=items_int h3
 have hlen:ns.length≤n:=by
  unfold OpenLaw.pre at hc
  have h4:(WTm.not (.lt (.lit (.int (n:Int))) (.len (.arg 0)))).holds [] { args:=[.list (ns.map .int)] }=true:=by
   have h4:=(holds_andW hc).1
   rw [hn] at h4
   exact h4
  have h5:=condW_of h4 (w_not (w_lt w_lit (w_len_list (w_arg rfl))))
  rw [List.length_map] at h5
  refine Nat.le_of_not_lt fun q=>?_
  have q':(n:Int)<((ns.length:Nat):Int):=by omega
  first
   | (rw [decide_eq_true q'] at h5;exact absurd h5 (by decide))
   | (simp at h5;omega)
 cases hwl with
 | cons w1 w2 =>
  cases w2
  cases w1 with
  | list ho hall=>exact⟨_,_,ns,rfl,rfl,ho,Wl ns _ hall,hlen⟩
theorem zbP (l:OpenLaw) (args:List WData):l.row.toRowW.claim.post args (.bool true) args=true :=
 postW_of (r:=l.row.toRowW) (X:=(true == true))
  (show WShape.has [] (.bool true) .bool=true by first | rfl | decide | simp [WShape.has,WShape.arms,WShape.armsAll])
  (show (WTm.eq .res (.lit (.bool true))).value [] { args:=args,res:=some (.bool true),after:=args }=some (.bool (true == true)) from w_eq_bool (w_res rfl) w_lit) rfl
theorem Jm {l:OpenLaw} {n:Nat} {q:Program} {loose:List Str} {XP:(Str->Option Value)->Heap->Prop} {YP:World->Heap->Prop} {d:DefRec}
  (hn:l.most=some n) (hdf:d.params.defaults=[])
  (call:∀ (w:World) (s₀ s₁:Shared) (mg mb:Str->Option Value) (fa:Addr) (o:Obj) (pm cd doc:Value) (a:Addr) (vs:List Value) (ns:List Int),
   Ground q loose [] XP w s₀ mg mb s₁.heap->YP w s₁.heap ->
   s₁.heap.get? fa=some o->o.data=.func (docDef d.name d.params d.body d.scope pm cd doc)->s₁.heap.CodeRec cd d.name->mg d.name=some (.ref fa) ->
   s₁.heap.get? a=some { cls:=.type "list",data:=.seq vs.toArray }->IntsAre vs ns->ns.length≤n->s₁.gens=#[] ->
   codeAny (model l.prog w) callerA (.call (.ref fa) ⟨[.ref a],[]⟩) (fun r s'=>r=.ok (.ret (.bool true))∧OldK s₁.heap s'.heap∧s'.os=s₁.os∧AllBare s'.gens) s₁) :
  WalkO q loose XP YP l.row.toRowW d [] (fun f vs=>PySem.call f vs):=by
 intro w s₀ s₁ mg mb G Y fa o pm cd doc dV kV ho hd hcd hD hmg hg args vals as hpre hlay hrd hwl hlo
 obtain rfl:dV=.none:=Dflts.none hD hdf
 obtain rfl:kV=.none:=Dflts.noKw hD
 obtain⟨a,vs,ns,rfl,rfl,hobj,hints,hlen⟩:=zbb hn hpre hwl
 refine enter_call (codeAny_mono (call w s₀ s₁ mg mb fa o pm cd doc a vs ns G Y ho (fd_plain hd) hcd hmg hobj hints hlen hg) fun r s' hq=>?_)
 obtain⟨rfl,h2,h3,h4⟩:=hq
 exact⟨.inl ⟨.bool true,.bool true,[],rfl,fun _=>rfl,.bool true,zbP l _,fun _=>⟨List.Pairwise.nil,fun _ hm=>(nomatch hm)⟩⟩,h2,h3,h4⟩
section
variable {prog:Program} {w:World} {A:Around} {E:Value->Shared->Prop} {s:Shared} {K:Frag}
end
end Att
namespace L2
open PySem PySem.Spec PyProof.Rows
theorem Xi:∀ {vs:List Value} {ns:List Int},IntsAre vs ns->Vals (ns.map V.int) vs
 | _,_,.nil=>.nil
 | _,_,.cons n t h=>.cons ⟨t,rfl⟩ (Xi h)
def inClass (s:Stmt) (j:Nat):Stmt:=match s with
 | .ClassDef _ _ _ body _ _ _ _ _ _ _=>body.getD j (.Pass ⟨0,0,0,0⟩)
 | _=>.Pass ⟨0,0,0,0⟩
def wN (s:Stmt):Arguments:=match s with
 | .FunctionDef _ a _ _ _ _ _ _ _ _=>a
 | _=>{ posonlyargs:=[],args:=[],vararg:=none,kwonlyargs:=[],kw_defaults:=[],kwarg:=none,defaults:=[] }
def yR (s:Stmt):List Stmt:=match s with
 | .FunctionDef _ _ b _ _ _ _ _ _ _=>b
 | _=>[]
def zq (s:Stmt):Scope:=match s with
 | .FunctionDef _ _ _ _ _ _ sc _ _ _=>sc
 | _=>{ kind:=.function,names:=[],isGenerator:=false,isCoroutine:=false }
abbrev CX0:CXT:=fun _ _ _ _ _ _=>False
abbrev E0:XK:=fun _ _ _=>False
theorem JK {X:Cx}:Yn CX0 X E0:=fun _ _ _ _ _ _ _ h=>h.elim
structure Fun (K:PySem.W.Frag) (x qual:Str) (st:Stmt) (f:Addr) (fd:FuncData):Prop where
 ex:∃ (oc:Value) (od:Option Addr) (kV doc pm:Value) (an:Option Addr) (cdv ct:Value) (osl:Array (Option Value)),
  fd=PySem.W.fnOf x qual (wN st) (yR st) (zq st) .none kV doc pm an cdv ct∧K.lookup f=some ⟨oc,od,.func fd,osl⟩∧PySem.W.codeIn K cdv qual=true
 kp:PySem.W.keepIn K (.ref f)=true
section
variable {P:Program} {w:World} {K:PySem.W.Frag} {mg:Str->Option Value} {base:Heap}
theorem Fun.ok {x qual:Str} {st:Stmt} {f:Addr} {fd:FuncData} {N ps:List Str} {k:Nat} {sp:Sp} (F:Fun K x qual st f fd) (S:zF N ps (zq st)) (len:∀ vs H Q E,sp vs H Q E->vs.length=ps.length)
  (hbody:∀ (cdv:Value) (A:Around) (outer:List Env) (s:Shared) (H:Hp) (vs:List V) (Q:VK) (E:XK),Room k (A.deeper (envOfC qual (zq st) s.heap.objs.size f cdv))->sp vs H Q E ->
   ∃ t,PSs (Ys CX0 P w K mg base N qual (zq st) f cdv A outer s H E).nox (yR st) t∧t { nx:=fun _ H'=>Q .non H',rt:=Q } (start N vs) H):FnOk P w K mg base CX0 (k+1) f fd ps sp:=by
 obtain⟨oc,od,kV,doc,pm,an,cdv,ct,osl,rfl,lk,hcd⟩:=F.ex
 refine zbW lk hcd S len fun A outer s H vs Q E hr hsp=>?_
 obtain⟨t,h,q⟩:=hbody cdv A outer s H vs Q E hr hsp
 exact⟨t,h.nox,q⟩
theorem Fun.binds {x qual:Str} {st:Stmt} {f:Addr} {fd:FuncData} {ps:List Str} (F:Fun K x qual st f fd)
  (h:∀ (kV doc pm:Value) (an:Option Addr) (cdv ct:Value) (us:List Value),us.length=ps.length->bindArgs (PySem.W.fnOf x qual (wN st) (yR st) (zq st) .none kV doc pm an cdv ct) ⟨us,[]⟩=pure (ps.zip us)):Binds K fd ps []:=by
 obtain⟨oc,od,kV,doc,pm,an,cdv,ct,osl,rfl,lk,hcd⟩:=F.ex
 exact .all (h kV doc pm an cdv ct)
theorem QF {x qual:Str} {st:Stmt} {f:Addr} {oc:Value} {od an:Option Addr} {osl:Array (Option Value)} {kV doc pm cdv ct:Value} (l:K.lookup f=some ⟨oc,od,.func (PySem.W.fnOf x qual (wN st) (yR st) (zq st) .none kV doc pm an cdv ct),osl⟩)
  (c:PySem.W.codeIn K cdv qual=true) (k:PySem.W.keepIn K (.ref f)=true):Fun K x qual st f (PySem.W.fnOf x qual (wN st) (yR st) (zq st) .none kV doc pm an cdv ct):=⟨⟨oc,od,kV,doc,pm,an,cdv,ct,osl,rfl,l,c⟩,k⟩
end
section
variable {X:Cx}
theorem pv (i:Nat) {x:Str} {pos:Pos} (hN:X.N[i]?=some x:=by rfl) (hv:Vis X.env.scope x:=by first | exact Or.inl rfl | exact Or.inr (Or.inl rfl) | exact Or.inr (Or.inr rfl)) (hd:(x == ("__debug__" : Str))=false:=by decide)
  (hcd:(x == ("__classdict__" : Str))=false:=by decide):PE X (.Name x pos) (Yl i):=zem hN hv hd hcd
end
theorem xj {A B:Prop} (h:B):if false=true then A else B:=by
 rw [if_neg Bool.false_ne_true]
 exact h
theorem wI {A B:Prop} (h:A):if true=true then A else B:=by
 rw [if_pos rfl]
 exact h
theorem V3 {c A B:Prop} [Decidable c] (h1:c->A) (h2:¬ c->B):if c then A else B:=by
 by_cases h:c
 ·rw [if_pos h]
  exact h1 h
 ·rw [if_neg h]
  exact h2 h
def Same (H H':Hp):Prop:=∀ b o,H b=some o->H' b=some o
theorem Same.refl (H:Hp):Same H H:=fun _ _ h=>h
theorem Same.trans {H H1 H2:Hp} (a:Same H H1) (b:Same H1 H2):Same H H2:=fun c o h=>b c o (a c o h)
theorem Same.free {H H':Hp} (e:Same H H') {l:Addr} (h:H' l=Option.none):H l=Option.none:=by
 cases q:H l with
 | none=>rfl
 | some o =>
  rw [e l o q] at h
  cases h
theorem Same.seq {K:PySem.W.Frag} {H H':Hp} {a:Addr} {xs:List V} (e:Same H H') (h:SqL K H a xs):SqL K H' a xs:=by
 rcases h with (h | ⟨o,h⟩) | h
 ·exact .inl (.inl (e _ _ h))
 ·exact .inl (.inr ⟨o,e _ _ h⟩)
 ·exact .inr h
def xK (cells:List (Str×Addr)):List (Str×NameKind)->List (Str×Addr)->List (Str×Addr)
 | [],cs=>cs
 | (n,k) :: r,cs=>xK cells r (if k=.free then (match cells.lookup n with | some c=>(n,c) :: cs | none=>cs) else cs)
theorem j8 {env:Env}:∀ (names:List (Str×NameKind)) (cs:List (Str×Addr)),(∀ x∈names,x.2=.free->∃ c,env.cells.lookup x.1=some c) ->
  (forIn names cs fun (x:Str×NameKind) (r:List (Str×Addr))=>if (x.2 == .free)=true then (do let c ← cellOf env x.1;pure (ForInStep.yield ((x.1,c) :: r)):Sem _) else pure (ForInStep.yield r))=pure (xK env.cells names cs)
 | [],cs,_=>rfl
 | (n,k) :: r,cs,h=>by
  have ih:=fun cs'=>j8 (env:=env) r cs' fun x hx=>h x (List.mem_cons_of_mem _ hx)
  rw [List.forIn_cons]
  by_cases hk:k=.free
  ·subst hk
   obtain⟨c,hc⟩:=h (n,.free) List.mem_cons_self rfl
   have e:cellOf env n=pure c:=by unfold cellOf;rw [hc]
   simp only [beq_self_eq_true,if_true,e,pure_bind,xK,hc]
   exact ih _
  ·have hb:(k == NameKind.free)=false:=by simpa using hk
   simp only [hb,Bool.false_eq_true,if_false,pure_bind,xK,hk]
   exact ih _
theorem uI {scope:Scope} {env:Env} (h:∀ x∈scope.names,x.2=.free->∃ c,env.cells.lookup x.1=some c):closureFor scope env=pure (xK env.cells scope.names []):=by
  have e:=j8 scope.names [] h
  unfold closureFor
  first
    | (simp only [bind_pure];exact e)
    | (show (forIn scope.names [] _ >>= fun r=>pure r)=_
       rw [show (forIn scope.names ([]:List (Str×Addr)) _:Sem _)=_ from e]
       rfl)
theorem vo {cells:List (Str×Addr)} {y:Str} {c:Addr}:∀ {names:List (Str×NameKind)} {cs:List (Str×Addr)},(∀ y c,cs.lookup y=some c->cells.lookup y=some c)->(xK cells names cs).lookup y=some c->cells.lookup y=some c
 | [],cs,h,e=>h y c e
 | (n,k) :: r,cs,h,e=>by
  refine vo (names:=r) ?_ e
  intro y' c' e'
  by_cases hk:k=.free
  ·rw [if_pos hk] at e'
   cases q:cells.lookup n with
   | none=>rw [q] at e';exact h _ _ e'
   | some d =>
    rw [q] at e'
    simp only [List.lookup_cons] at e'
    cases hb:y' == n with
    | true =>
     rw [hb] at e'
     cases e'
     have:y'=n:=by simpa using hb
     rw [this];exact q
    | false=>rw [hb] at e';exact h _ _ e'
  ·rw [if_neg hk] at e';exact h _ _ e'
theorem Yx {cells:List (Str×Addr)} {y:Str}:∀ {names:List (Str×NameKind)} {cs:List (Str×Addr)},((∃ c,cs.lookup y=some c)∨((y,NameKind.free)∈names∧∃ c,cells.lookup y=some c))->∃ c,(xK cells names cs).lookup y=some c
 | [],cs,h=>by
  rcases h with h | ⟨h,_⟩
  ·exact h
  ·cases h
 | (n,k) :: r,cs,h=>by
  refine Yx (names:=r) ?_
  rcases h with ⟨c,h⟩ | ⟨h,c,hc⟩
  ·left
   by_cases hk:k=.free
   ·rw [if_pos hk]
    cases q:cells.lookup n with
    | none=>exact⟨c,h⟩
    | some d =>
     simp only [List.lookup_cons]
     cases hb:y == n with
     | true=>exact⟨d,rfl⟩
     | false=>exact⟨c,h⟩
   ·rw [if_neg hk];exact⟨c,h⟩
  ·rcases List.mem_cons.mp h with e | h
   ·cases e
    left
    rw [if_pos rfl,hc]
    exact⟨c,by simp⟩
   ·exact .inr ⟨h,c,hc⟩
theorem yQ {env:Env}:∀ {names:List (Str×NameKind)} {x:Str} {k:NameKind},
  (names.map fun (n,k)=>if (k == NameKind.free && env.scope.kind == .function && env.kindOf n == some .cell) then (n,NameKind.cell) else (n,k)).lookup x=some k->names.lookup x=some k∨(k=.cell∧names.lookup x=some .free)
 | [],_,_,h=>by simp at h
 | (n,k0) :: r,x,k,h=>by
  have ih:=@yQ env r x k
  rw [List.map_cons] at h
  by_cases hc:(k0 == NameKind.free && env.scope.kind == .function && env.kindOf n == some .cell)=true
  ·simp only [hc,if_true,List.lookup_cons] at h
   have hk0:k0=.free:=by
    simp only [Bool.and_eq_true] at hc
    simpa using hc.1.1
   cases hx:x == n with
   | true=>rw [hx] at h;cases h;right;simp [List.lookup_cons,hx,hk0]
   | false=>rw [hx] at h;simp only [List.lookup_cons,hx];exact ih h
  ·have hc':(k0 == NameKind.free && env.scope.kind == .function && env.kindOf n == some .cell)=false:=by simpa using hc
   simp only [hc',Bool.false_eq_true,if_false,List.lookup_cons] at h
   cases hx:x == n with
   | true=>rw [hx] at h;cases h;left;simp [List.lookup_cons,hx]
   | false=>rw [hx] at h;simp only [List.lookup_cons,hx];exact ih h
def cxC (X:Cx) (N:List Str) (scope:Scope) (C:Addr) (s₀:Shared) (H₀:Hp) (ex:List Addr):Cx where
 prog:=X.prog
 w:=X.w
 K:=X.K
 mg:=X.mg
 base:=X.base
 A:=X.A
 N:=N
 s₀:=s₀
 H₀:=H₀
 env:=compEnvC scope (xK X.env.cells scope.names []) C X.env
 outer:=X.stack
 stack:=X.stack
 ex:=ex
 fn:=fun _=>false
 calm:=X.calm
 pn:=[]
 xe:=fun _ _=>False
def xH (js:List Nat) (σ:St):St:=js.map fun j=>(σ[j]?).join
theorem Jc {js:List Nat} {σ:St} {i:Nat} {v:V} (h:(xH js σ)[i]?=some (some v)):∃ j,js[i]?=some j∧σ[j]?=some (some v):=by
 unfold xH at h
 rw [List.getElem?_map] at h
 cases e:js[i]? with
 | none=>rw [e] at h;cases h
 | some j =>
  rw [e] at h
  have h':(σ[j]?).join=some v:=Option.some.inj h
  refine⟨j,rfl,?_⟩
  cases q:σ[j]? with
  | none=>rw [q] at h';cases h'
  | some z=>rw [q] at h';exact congrArg some h'
structure CScope (sc:Scope) (scope:Scope) (x:Str) (M:List Str) (ys:List Str) (js:List Nat):Prop where
 kind:scope.kind=.function
 cell:∀ y∈scope.names,y.2≠.cell
 loc:∀ y∈scope.names,y.2=.local->scope.names.lookup y.1=some .local
 var:scope.names.lookup x=some .local
 free:∀ y∈scope.names,y.2=.free->sc.names.lookup y.1=some .cell∨sc.names.lookup y.1=some .free
 caps:js.map (M[·]?)=ys.map some
 fr:∀ y∈ys,scope.names.lookup y=some .free
 nd:(x :: ys).Nodup
section
variable {X:Cx} {pins:List (Addr×Obj)} {σ:St} {H:Hp} {s:Shared}
theorem zc8 {scope:Scope} {x:Str} {ys:List Str} {js:List Nat} {fp:List Addr} {h₁:Heap} {tk:Nat} {C:Addr} (I:Inv X pins σ H s) (S:CScope X.env.scope scope x X.N ys js) (hf:∀ b∈fp,Wh X pins H b) (ho:∀ b∈fp,∃ o,s.heap.get? b=some o)
  (hC:s.heap.objs.size≤C) (hk:∀ b o,s.heap.get? b=some o->h₁.get? b=some o) (hn:h₁.Ns C fun _=>none) :
  Inv (cxC X (x :: ys) scope C s H fp) [] (none :: xH js σ) H { s with heap:=h₁,toks:=tk }:=by
 have sub:∀ y c,(xK X.env.cells scope.names []).lookup y=some c->X.env.cells.lookup y=some c:=fun y c e=>vo (fun _ _ z=>by simp at z) e
 have has:∀ y,scope.names.lookup y=some .free->∃ c,(xK X.env.cells scope.names []).lookup y=some c:=fun y e=>by
  have m:(y,NameKind.free)∈scope.names:=PySem.mem_of_lookup e
  exact Yx (.inr ⟨m,I.ok.has y (S.free _ m rfl)⟩)
 have lt:∀ b∈fp,b<s.heap.objs.size:=fun b hb=>by obtain⟨o,e⟩:=ho b hb;exact Heap.lt_size e
 have ok:(cxC X (x :: ys) scope C s H fp).Ok:=by
  refine⟨I.ok.mod,S.kind,I.ok.glob,I.ok.blt,hC,fun y z c e1 e2=>I.ok.inj y z c (sub _ _ e1) (sub _ _ e2),fun y hy=>?_,fun y c z=>?_,I.ok.hd,I.ok.frames,.inl rfl,fun b hb=>?_,I.bs,Nat.le_trans I.ok.bsz I.sz,fun b o e hb=>?_,fun b hb z=>?_,I.stack,I.stkFree⟩
  ·have hy':(relabel scope X.env).names.lookup y=some .cell∨(relabel scope X.env).names.lookup y=some .free:=hy
   have nocell:scope.names.lookup y≠some .cell:=fun z=>S.cell _ (PySem.mem_of_lookup z) rfl
   rcases hy' with e | e
   ·rcases yQ e with z | ⟨_,z⟩
    ·exact absurd z nocell
    ·exact has y z
   ·rcases yQ e with z | ⟨z,_⟩
    ·exact has y z
    ·cases z
  ·exact absurd (show false=true from z) Bool.false_ne_true
  ·refine⟨Nat.ne_of_lt (Nat.lt_of_lt_of_le (lt b hb) hC),fun y c e=>(hf b hb).2.2.2.2.1 y c (sub y c e)⟩
  ·rcases (hf b hb).2.2.2.1 with z | z
   ·exact I.ok.noex b o e z
   ·exact absurd (Nat.lt_of_lt_of_le (Heap.lt_size e) (Nat.le_trans I.ok.bsz z)) (Nat.lt_irrefl _)
  ·rcases List.mem_cons.mp (I.stkSub b z) with e | e
   ·exact (hf b hb).2.1 e
   ·exact (hf b hb).2.2.1 e
 refine⟨ok,rfl,I.bare,Un.kept hk,⟨_,hn,fun i y v e1 e2 e3=>?_⟩,fun y c e=>?_,I.hok.fresh hC,fun y c e=>I.freeC y c (sub y c e),fun p hp=>absurd (show p∈([]:List (Addr×Obj)) from hp) (by simp),I.hok.kept hk,?_⟩
 ·cases i with
  | zero=>simp at e2
  | succ i =>
   have e1':ys[i]?=some y:=by simpa [cxC] using e1
   have e2':(xH js σ)[i]?=some (some v):=by simpa using e2
   obtain⟨j,hj,hσ⟩:=Jc e2'
   have hN:X.N[j]?=some y:=by
    have z:=congrArg (fun l=>l[i]?) S.caps
    simp only [List.getElem?_map,hj,e1',Option.map_some] at z
    exact Option.some.inj z
   have hfr:=S.fr y (List.mem_of_getElem? e1')
   have m:(y,NameKind.free)∈scope.names:=PySem.mem_of_lookup hfr
   have hkind:=S.free _ m rfl
   obtain⟨m',hns,hl⟩:=I.loc
   obtain⟨u,r,lk⟩:=hl j y v hN hσ (by rcases hkind with z | z;exact .inr (.inl z);exact .inr (.inr z))
   refine⟨u,r,.inr ⟨?_,?_⟩⟩
   ·have e3':(relabel scope X.env).names.lookup y=some .local∨(relabel scope X.env).names.lookup y=some .cell∨(relabel scope X.env).names.lookup y=some .free:=e3
    rcases e3' with z | z | z
    ·rcases yQ z with q | ⟨q,_⟩
     ·rw [hfr] at q;cases q
     ·cases q
    ·exact .inl z
    ·exact .inr z
   ·obtain⟨c,hc⟩:=has y hfr
    refine⟨c,hc,?_⟩
    rcases lk with ⟨z,_⟩ | ⟨_,c',hc',cell⟩
    ·rcases hkind with q | q
     ·have q':X.env.kindOf y=some .cell:=q
      rw [show X.env.kindOf y=some .local from z] at q';cases q'
     ·have q':X.env.kindOf y=some .free:=q
      rw [show X.env.kindOf y=some .local from z] at q';cases q'
    ·rw [sub y c hc] at hc'
     cases hc'
     obtain⟨o,e,d⟩:=cell
     exact⟨o,hk _ _ e,d⟩
 ·obtain⟨v,o,e',d⟩:=I.cell y c (sub y c e)
  exact⟨v,o,hk _ _ e',d⟩
 ·have z:=congrArg List.length S.caps
  simp only [List.length_map] at z
  show (none :: xH js σ).length=(x :: ys).length
  simp [xH,z]
end
theorem zby {α β:Type} {M:Model} {A:Around} {a:α} {Q:α->Shared->Prop} {E E':Value->Shared->Prop} {s:Shared} {t:Sem β} {Q':β->Shared->Prop} (h:wpAny M A (pure a) Q E s) (k:Q a s->wpAny M A t Q' E' s):wpAny M A t Q' E' s :=
 fun Γ p hΓ=>k (h Γ p hΓ) Γ p hΓ
def PTs (X:Cx) (ifs:List Expr) (t:TT):Prop :=
 ∀ (pins:List (Addr×Obj)) (s:Shared) (σ:St) (H:Hp) (Q:Bool->Hp->Prop),Inv X pins σ H s->t σ H Q ->
  wpAny (model X.prog X.w) X.A (forIn ifs true fun c r=>if r=true then do let ok ← isTrue c X.env (eval c X.env);pure (ForInStep.yield ok) else pure (ForInStep.yield r)) (TP X pins σ Q) X.xe s
def qP:TT:=fun _ H Q=>Q true H
theorem yG {X:Cx}:PTs X [] qP:=fun pins s σ H Q I h=>wpAny_tests_nil ⟨H,I,h⟩
theorem YJ {X:Cx} {c:Expr} {t:TT} (h:PT X c t):PTs X [c] t:=fun pins s σ H Q I hw=>wpAny_tests_one (h pins s σ H Q I hw)
def CompLoop (J:It) (js:List Nat) (tt:TT) (te:TE) (σ:St) (Q:VK) (H:Hp):Prop:=∃ W:Nat->Nat->List V->Hp->Prop,(∃ m,W 0 m [] H)∧∀ i m ys H,W i m ys H ->
 (J.stop i H∧∀ D,H D=none->Q (.ref D) (upd H D (.lst ys))) ∨
 (J.go i H∧ys.length<sizeLine∧∃ N:List V->Hp->Prop,(∀ ys' H',N ys' H'->∃ m',m'<m∧W (i+1) m' ys' H')∧∀ x H',J.yld i H x H'->tt (some x :: xH js σ) H' fun b H2=>if b=true then te (some x :: xH js σ) H2 fun v H3=>N (ys++[v]) H3 else N ys H2)
def zd1 (wi:TI) (js:List Nat) (tt:TT) (te:TE):TE:=fun σ H Q=>wi σ H fun J H1=>CompLoop J js tt te σ Q H1
theorem HOk.track {P:Program} {w:World} {H:Hp} {h:Heap} {a:Addr} {o:HO} (x:HOk P w H h) (hn:H a=none) (new:ObjOk P w (upd H a o) h a o):HOk P w (upd H a o) h:=fun b u e=>by
 by_cases hb:b=a
 ·subst hb;rw [zg] at e;cases e;exact new
 ·rw [zu hb] at e
  exact (x b u e).stay (fun _ _ _ q=>q) (fun c q=>by rw [zu (zy q hn)];exact q) fun c xs q=>by rw [zu (zy q hn)];exact q
section
variable {X:Cx} {elt iter:Expr} {ifs:List Expr} {x:Str} {px pos:Pos} {scope:Scope} {ys:List Str} {js:List Nat} {wi:TI} {tt:TT} {te:TE}
theorem Vh {pins:List (Addr×Obj)} {σ:St} {H:Hp} {s:Shared} {J:It} {fp:List Addr} {it:Addr} {tn:Nat->Heap->Prop} {Q:VK} {E:Value->Shared->Prop} {R:Value->Addr->Result->Shared->Prop}
  (S:CScope X.env.scope scope x X.N ys js) (hc:X.calm=true) (ht:∀ C s₀ H₀ ex,PTs (cxC X (x :: ys) scope C s₀ H₀ ex) ifs tt) (he:∀ C s₀ H₀ ex,PE (cxC X (x :: ys) scope C s₀ H₀ ex) elt te)
  (I:Inv X pins σ H s) (T:Turn X.prog X.w X.K (.Name x px) J fp it tn) (st:tn 0 s.heap) (hf:∀ b∈fp,Wh X pins H b)
  (hw:∃ W:Nat->Nat->List V->Hp->Prop,(∃ m,W 0 m [] H)∧∀ i m zs H,W i m zs H ->
   (J.stop i H∧∀ D,H D=none->Q (.ref D) (upd H D (.lst zs))) ∨
   (J.go i H∧zs.length<sizeLine∧∃ N:List V->Hp->Prop,(∀ ys' H',N ys' H'->∃ m',m'<m∧W (i+1) m' ys' H')∧∀ x H',J.yld i H x H'->tt (some x :: xH js σ) H' fun b H2=>if b=true then te (some x :: xH js σ) H2 fun v H3=>N (zs++[v]) H3 else N zs H2))
  (hR:∀ D C s' H' m',Inv X pins σ H' s'->Q (.ref D) H'->s.heap.objs.size≤C->H' C=none->s'.heap.Ns C m'->R (.ref D) C (.ok .next) s') :
  wpAny (model X.prog X.w) X.A (newList []) (fun acc s₃=>wpAny (model X.prog X.w) X.A (newFunctionEnv scope X.env.globals (xK X.env.cells scope.names []) [] X.env.qual none .none (some X.env)) (fun cenv s₄ =>
   codeAny (model X.prog X.w) X.A (.compStart (.ListComp elt [⟨.Name x px,iter,ifs,0⟩] scope pos) 0 (.ref it) acc { cenv with scope:=relabel scope X.env }) (R acc cenv.locals) s₄) E s₃) E s:=by
 obtain⟨W,⟨m0,w0⟩,turn⟩:=hw
 refine wpAny_newObj_type (wpAny_newFunctionEnv S.cell (by intro y hy;simp at hy) (fun h₁ hns₁ hsb₁=>?_) S.kind)
 dsimp only at hns₁ hsb₁ ⊢
 generalize hH2:s.heap.push { cls:=.type "list",dict:=none,data:=.seq ([]:List Value).toArray }=G at hns₁ hsb₁ ⊢
 generalize hD:s.heap.objs.size=D at *
 generalize hCe:G.objs.size=C at *
 have hC:C=D+1:=by rw [← hCe,← hH2,Heap.size_push,hD]
 have hDlt:D<C:=by rw [hC];exact Nat.lt_succ_self D
 have hDC:D≠C:=Nat.ne_of_lt hDlt
 have old:∀ b o,s.heap.get? b=some o->h₁.get? b=some o:=fun b o e=>by
  have hb:b<D:=hD▸Heap.lt_size e
  exact (hsb₁.2 b (Nat.ne_of_lt (Nat.lt_trans hb hDlt))).trans (Heap.get?_push_of_some _ (hH2▸Heap.get?_push_of_some _ e))
 have hacc:h₁.get? D=some { cls:=.type "list",data:=.seq ([]:List Value).toArray 0 }:=by
  refine (hsb₁.2 D hDC).trans (Heap.get?_push_of_some _ ?_)
  rw [← hH2,← hD]
  exact Heap.get?_push_size _ rfl
 have obj0:=T.obj 0 _ st
 have fplt:∀ b∈fp,b<D:=fun b hb=>by obtain⟨o,e,_⟩:=obj0 b hb;exact hD▸Heap.lt_size e
 generalize hX:cxC X (x :: ys) scope C s H fp=X'
 have I1:Inv X' [] (none :: xH js σ) H { s with heap:=h₁,toks:=s.toks+([]:List (Str×Value)).length }:=by
  subst hX
  exact zc8 I S hf (fun b hb=>by obtain⟨o,e,_⟩:=obj0 b hb;exact⟨o,e⟩) (by omega) old (by simpa using hns₁)
 have eP:X'.prog=X.prog:=by subst hX;rfl
 have eW:X'.w=X.w:=by subst hX;rfl
 have eK:X'.K=X.K:=by subst hX;rfl
 have eA:X'.A=X.A:=by subst hX;rfl
 have eC:X'.calm=true:=by subst hX;exact hc
 have eL:X'.env.locals=C:=by subst hX;rfl
 have eS:X'.s₀=s:=by subst hX;rfl
 have eN:X'.N=x :: ys:=by subst hX;rfl
 have eE:X'.env=compEnvC scope (xK X.env.cells scope.names []) C X.env:=by subst hX;rfl
 have eXe:X'.xe=fun _ _=>False:=by subst hX;rfl
 have eX:X'.ex=fp:=by subst hX;rfl
 have ePn:X'.pn=[]:=by subst hX;rfl
 have efs:∀ b,b∈X'.fs->b∈frs X.stack:=fun b z=>by subst hX;exact z
 have cellLt:∀ y c,X'.env.cells.lookup y=some c->c<D:=fun y c e=>by
  have e':(xK X.env.cells scope.names []).lookup y=some c:=by rw [eE] at e;exact e
  obtain⟨v,o,e2,_⟩:=I.cell y c (vo (fun _ _ z=>by simp at z) e')
  exact hD▸Heap.lt_size e2
 have frLt:∀ b,b∈X'.fs->b<D:=fun b z=>by
  rcases List.mem_cons.mp (I.stkSub b (efs b z)) with e | e
  ·rw [e];exact hD▸I.lt
  ·exact Nat.lt_of_not_le fun h=>I.nofs (hD▸h) e
 have fpOk:∀ (p:List (Addr×Obj)) (H':Hp),(∀ b∈fp,H' b=none)->(∀ q∈p,q.1=D)->∀ b∈fp,Wh X' p H' b:=fun p H' hn hp b hb=>by
  refine⟨hn b hb,?_,fun z=>?_,.inl (eX▸hb),fun y c e=>?_,fun q hq=>?_⟩
  ·rw [eL];exact Nat.ne_of_lt (Nat.lt_trans (fplt b hb) hDlt)
  ·rcases List.mem_cons.mp (I.stkSub b (efs b z)) with e | e
   ·exact (hf b hb).2.1 e
   ·exact (hf b hb).2.2.1 e
  ·have e':(xK X.env.cells scope.names []).lookup y=some c:=by rw [eE] at e;exact e
   exact (hf b hb).2.2.2.2.1 y c (vo (fun _ _ z=>by simp at z) e')
  ·rw [ePn,List.nil_append] at hq
   rw [hp q hq];exact Nat.ne_of_gt (fplt b hb)
 have noCell:∀ (its:List Value) (k:Nat) v,({ cls:=.type "list",data:=.seq its.toArray k }:Obj).data≠.cell v:=fun its k v z=>by cases z
 have done:∀ {zs:List V} {its:List Value} {k:Nat} {H':Hp} {s':Shared},Inv X' [] (none :: xH js σ) H' s'->s'.heap.get? D=some { cls:=.type "list",data:=.seq its.toArray k }->Vals zs its->H' D=none->zs.length≤sizeLine ->
   (∀ D,H' D=none->Q (.ref D) (upd H' D (.lst zs)))->R (.ref D) C (.ok .next) s':=fun {zs its k H' s'} I' hd hv hn hz q=>by
  have un:=I'.base
  obtain⟨m',hns,_⟩:=I'.loc
  rw [eL] at hns
  have hCn:H' C=none:=by have:=I'.free;rw [eL] at this;exact this
  have hH0:X'.H₀=H:=by subst hX;rfl
  rw [hH0,eS,eX] at un
  have un2:Un (frs X.stack) fp H (upd H' D (.lst zs)) s.heap s'.heap:=by
   have ne:∀ b o,s.heap.get? b=some o->b≠D:=fun b o e=>Nat.ne_of_lt (hD▸Heap.lt_size e)
   have un':Un (frs X.stack) fp H H' s.heap s'.heap:=by subst hX;exact un
   exact⟨un'.keep,un'.slot,fun b o e n hx=>by rw [zu (ne b o e)];exact un'.free b o e n hx,un'.there,fun b xs e=>by rw [zu (zy (un'.tups b xs e) hn)];exact un'.tups b xs e,
    fun b o u e=>by rw [zu (zy (un'.frzs b o u e) hn)];exact un'.frzs b o u e,fun b ps e=>by
     obtain⟨more,z⟩:=un'.tbls b ps e
     exact⟨more,by rw [zu (zy z hn)];exact z⟩⟩
  have hok:HOk X.prog X.w (upd H' D (.lst zs)) s'.heap:=by
   have h0:=I'.hok
   rw [eP,eW] at h0
   exact h0.track hn ⟨hz,its,k,hv,hd⟩
  have I2:Inv X pins σ (upd H' D (.lst zs)) s':=I.call' (by have:=I'.os;rw [eS] at this;exact this) un2 hok I'.bare fun b hb=>⟨(hf b hb).2.2.2.1,(hf b hb).2.1,(hf b hb).2.2.2.2.1,(hf b hb).2.2.2.2.2⟩
  exact hR D C s' _ m' I2 (q D hn) (by omega) (by rw [zu (Ne.symm hDC)];exact hCn) hns
 have loop:codeAny (model X.prog X.w) X.A (.compLoop (.ListComp elt [⟨.Name x px,iter,ifs,0⟩] scope pos) 0 (.ref it) (.ref D) X'.env) (R (.ref D) C) { s with heap:=h₁,toks:=s.toks+([]:List (Str×Value)).length }:=by
  refine codeAny_compLoop_tests (fun n s'=>∃ i zs its k H',Inv X' [] (none :: xH js σ) H' s'∧tn i s'.heap∧(∀ b∈fp,H' b=none)∧s'.heap.get? D=some { cls:=.type "list",data:=.seq its.toArray k }∧Vals zs its∧H' D=none∧zs.length≤sizeLine∧W i n zs H')
   ?_ m0 ⟨0,[],[],0,H,I1,T.keep _ _ _ st (fun b hb o e=>old b o e),fun b hb=>(hf b hb).1,hacc,.nil,I.hok.fresh (by omega),Nat.zero_le _,w0⟩ (fun _=>rfl)
  rintro n s3 ⟨i,zs,its,k,H3,I3,st3,fr3,d3,v3,n3,z3,w3⟩
  have pinD:Inv X' [(D,{ cls:=.type "list",data:=.seq its.toArray k })] (none :: xH js σ) H3 s3:=I3.pins_of fun p hp=>by
   have e:p=(D,{ cls:=.type "list",data:=.seq its.toArray k }):=by simpa using hp
   subst e
   exact⟨d3,n3,by rw [eL];exact hDC,fun z=>Nat.lt_irrefl _ (frLt D z),noCell its k⟩
  have hpD:∀ q∈[(D,({ cls:=.type "list",data:=.seq its.toArray k }:Obj))],q.1=D:=fun q hq=>by
   have e:q=(D,{ cls:=.type "list",data:=.seq its.toArray k }):=by simpa using hq
   rw [e]
  rcases turn i n zs H3 w3 with ⟨stop,qn⟩ | ⟨go,hzl,NN,hNN,step⟩
  ·refine thn (eA▸T.done X' eP eW eK eC i _ s3 _ H3 _ pinD (fpOk _ _ fr3 hpD) st3 stop) fun r s4 ⟨hr,I4⟩=>?_
   subst hr
   exact done (I4.pins_of fun p hp=>absurd hp (by simp)) (I4.pin (D,{ cls:=.type "list",data:=.seq its.toArray k }) (List.mem_append_right _ (by simp))).1 v3 n3 z3 qn
  ·refine thn (eA▸T.item X' eP eW eK eC i _ s3 _ H3 _ pinD (fpOk _ _ fr3 hpD) st3 go) fun r s4 ⟨u,hr,h4⟩=>?_
   subst hr
   refine zby (a:=()) h4 fun ⟨v,H5,I5,r5,y5,st5,fr5⟩=>?_
   have I5':=I5.pinned (fpOk _ _ fr5 hpD) (T.obj _ _ st5)
   have ev:∀ {α:Type} {t:Sem α} {Q':α->Shared->Prop} {E':Value->Shared->Prop} {s':Shared},wpAny (model X'.prog X'.w) X'.A t Q' X'.xe s'->wpAny (model X.prog X.w) X.A t Q' E' s':=fun {α t Q' E' s'} hh=>by
    rw [eP,eW,eA,eXe] at hh
    exact wpAny_mono hh (fun _ _ q=>q) fun _ _ z=>z.elim
   refine ev (thn (zL (X:=X') (i:=0) (by rw [eN];exact S.nd) (by rw [eN];rfl) (.inl (by rw [eE];exact lookup_relabel_local S.var)) (.inr (by rw [eE];exact lookup_relabel_local S.var)) _ s4 _ H5 v u (fun σ' H'=>σ'=some v :: xH js σ∧H'=H5) I5' r5 ⟨rfl,rfl⟩) fun _ s6 ⟨σ6,H6,I6,e6,e6'⟩=>?_)
   subst e6 e6'
   have back:∀ {σ':St} {H7:Hp} {s7:Shared},Inv X' ([(D,{ cls:=.type "list",data:=.seq its.toArray k })]++Zk fp s4.heap) (some v :: xH js σ) H7 s7->Inv X' [] (none :: xH js σ) H7 s7:=fun {_ H7 s7} I7=>by
    refine (I7.pins_of fun p hp=>absurd hp (by simp)).weak rfl fun i v' e=>?_
    cases i with
    | zero=>simp at e
    | succ i=>simpa using e
   have fps:∀ {σ':St} {H7:Hp} {s7:Shared},Inv X' ([(D,{ cls:=.type "list",data:=.seq its.toArray k })]++Zk fp s4.heap) σ' H7 s7->(∀ b∈fp,H7 b=none)∧(∀ b∈fp,∀ o,s4.heap.get? b=some o->s7.heap.get? b=some o)∧s7.heap.get? D=some { cls:=.type "list",data:=.seq its.toArray k }∧H7 D=none:=fun {σ' H7 s7} I7=>by
    have g:∀ b∈fp,∀ o,s4.heap.get? b=some o->s7.heap.get? b=some o∧H7 b=none:=fun b hb o e=>by
     have z:=I7.pin (b,o) (List.mem_append_right _ (List.mem_append_right _ (jR hb e)))
     exact⟨z.1,z.2.1⟩
    refine⟨fun b hb=>?_,fun b hb o e=>(g b hb o e).1,(I7.pin (D,{ cls:=.type "list",data:=.seq its.toArray k }) (List.mem_append_right _ (by simp))).1,(I7.pin (D,{ cls:=.type "list",data:=.seq its.toArray k }) (List.mem_append_right _ (by simp))).2.1⟩
    obtain⟨o,e,_⟩:=T.obj _ _ st5 b hb
    exact (g b hb o e).2
   have hte:PTs X' ifs tt:=hX▸ht C s H fp
   have hee:PE X' elt te:=hX▸he C s H fp
   refine ev (thn (hte _ s6 _ H6 _ I6 (step v H6 y5)) fun b s7 ⟨H7,I7,q7⟩=>?_)
   cases b with
   | false =>
    rw [if_neg Bool.false_ne_true]
    rw [if_neg Bool.false_ne_true] at q7
    obtain⟨m',hm,w7⟩:=hNN _ _ q7
    obtain⟨g1,g2,g3,g4⟩:=fps I7
    exact⟨m',hm,i+1,zs,its,k,H7,back (σ':=[]) I7,T.keep _ _ _ st5 g2,g1,g3,v3,g4,z3,w7⟩
   | true =>
    rw [if_pos rfl]
    rw [if_pos rfl] at q7
    refine ev (thn (hee _ s7 _ H7 _ I7 q7) fun u8 s8 ⟨v8,H8,I8,r8,q8⟩=>?_)
    obtain⟨m',hm,w8⟩:=hNN _ _ q8
    obtain⟨g1,g2,g3,g4⟩:=fps I8
    have hil:=v3.length
    refine call_meets F.slot_list_append ⟨_,g3,rfl⟩ F.entry_list_append (F.args_list_append_2 _ _) (PySem.list_append D its.toArray k u8 (by rw [List.size_toArray];omega)) ⟨g3,?_⟩
    have q:=PySem.IsL.update g3 (fun a=>a.push u8)
    have ea:its.toArray.push u8=(its++[u8]).toArray:=by simp
    rw [ea] at q
    have kk:∀ b o,b≠D->s8.heap.get? b=some o->(s8.heap.update D (Obj.mapSeq fun a=>a.push u8)).get? b=some o:=fun b o hb e=>(Heap.get?_update_other _ _ (Ne.symm hb)).trans e
    have I9:Inv X' [] (none :: xH js σ) H8 { s8 with heap:=s8.heap.update D (Obj.mapSeq fun a=>a.push u8),toks:=s8.toks }:=by
     refine (back (σ':=[]) I8).turned kk g4 (by rw [eL];exact hDC) (.inr (by rw [eS];omega)) (fun y c e=>Nat.ne_of_lt (cellLt y c e)) fun p hp=>?_
     rw [ePn] at hp
     exact absurd hp (by simp)
    refine⟨m',hm,i+1,zs++[v8],its++[u8],_,H8,I9,T.keep _ _ _ st5 (fun b hb o e=>kk b o (Nat.ne_of_lt (fplt b hb)) (g2 b hb o e)),g1,q,v3.append (.cons r8 .nil),g4,?_,w8⟩
    rw [List.length_append,List.length_singleton]
    omega
 rw [eE] at loop
 exact codeAny_compStart_list loop (T.self _ 0 _ _ _ (T.keep _ _ _ st (fun b hb o e=>old b o e)) loop)
theorem wJ (S:CScope X.env.scope scope x X.N ys js) (hc:X.calm=true) (hi:PI X (.Name x px) iter wi) (ht:∀ C s₀ H₀ ex,PTs (cxC X (x :: ys) scope C s₀ H₀ ex) ifs tt) (he:∀ C s₀ H₀ ex,PE (cxC X (x :: ys) scope C s₀ H₀ ex) elt te)
  (hs:∀ x,foldedSetIterable iter X.env x=pure x:=by intro _;rfl):PE X (.ListComp elt [⟨.Name x px,iter,ifs,0⟩] scope pos) (zd1 wi js tt te):=by
 intro pins s σ H Q I h
 rw [eval_ListComp]
 refine wpAny_comprehension_free (use:=none) rfl hs (uI fun y hy e=>I.ok.has _ (S.free y hy e)) S.kind S.loc (thn (hi pins s σ H _ I h) fun v s1 h1=>thn h1 fun itv s2 h2=>?_)
 obtain⟨it,fp,tn,J,H2,e,I2,T,st2,f2,hw⟩:=h2
 subst e
 refine Vh (Q:=Q) (R:=fun acc C=>compPost (model X.prog X.w) X.A X.xe none (EP X pins σ Q) acc C) S hc ht he I2 T st2 f2 hw ?_
 intro D C s' H' m' I' q hC hn hns
 refine⟨m',hns,fun h' hs'=>⟨.ref D,H',?_,rfl,q⟩⟩
 have e:=I2.fpOk hC hn
 exact I'.turned (t':=s'.toks) (fun b o hb e=>(hs'.2 b hb).trans e) hn e.2.1 e.2.2.2.1 e.2.2.2.2.1 e.2.2.2.2.2
theorem qi {i:Nat} {y:Str} {py spos:Pos} (S:CScope X.env.scope scope x X.N ys js) (hc:X.calm=true) (hN:X.N.Nodup) (hy:X.N[i]?=some y) (hl:Loc X.env.scope y) (hi:PI X (.Name x px) iter wi) (ht:∀ C s₀ H₀ ex,PTs (cxC X (x :: ys) scope C s₀ H₀ ex) ifs tt) (he:∀ C s₀ H₀ ex,PE (cxC X (x :: ys) scope C s₀ H₀ ex) elt te)
  (hf:X.fn y=true∨X.env.scope.names.lookup y=some .local:=by first | exact .inl rfl | exact .inr rfl | assumption)
  (hsw:swapsWith (.ListComp elt [⟨.Name x px,iter,ifs,0⟩] scope pos) (some (.Name y py)) spos.line X.env=pure true:=by rfl)
  (hs:∀ x,foldedSetIterable iter X.env x=pure x:=by intro _;rfl):PS X (.Assign [.Name y py] (.ListComp elt [⟨.Name x px,iter,ifs,0⟩] scope pos) spos) (QG (zd1 wi js tt te) (Z5 i)):=by
 intro pins s σ H D I h
 rw [exec_Assign_Name_used _ _ _ _ hsw]
 refine wpAny_bind (wpAny_standAt (wpAny_bind ?_))
 show wpAny _ X.A (do let _ ← comprehension (.ListComp elt [⟨.Name x px,iter,ifs,0⟩] scope pos) scope X.env _ (newList []) false (eval iter X.env) (some (assign (.Name y py) X.env))) _ _ s
 refine wpAny_bind (wpAny_mono (wpAny_comprehension_free (use:=some (assign (.Name y py) X.env)) (Q:=fun _ s'=>SP X pins D .next s') rfl hs (uI fun y hy e=>I.ok.has _ (S.free y hy e)) S.kind S.loc
  (thn (hi pins s σ H _ I h) fun v s1 h1=>thn h1 fun itv s2 h2=>?_)) (fun _ s' hq=>wpAny_pure (wpAny_pure hq)) fun _ _ e=>e)
 obtain⟨it,fp,tn,J,H2,e,I2,T,st2,f2,hw⟩:=h2
 subst e
 refine Vh (Q:=fun v H'=>Z5 i v σ H' D.nx) (R:=fun acc C=>compPost (model X.prog X.w) X.A X.xe (some (assign (.Name y py) X.env)) (fun _ s'=>SP X pins D .next s') acc C) S hc ht he I2 T st2 f2 hw ?_
 intro Da C s' H' m' I' q hC hn hns
 have e:=I2.fpOk hC hn
 show wpAny _ X.A (assign (.Name y py) X.env (.ref Da)) _ _ _
 refine wpAny_assign_Name (XD I' hN hy hl (show RelV (.ref Da) (.ref Da) from rfl) (fun s2' I3 ⟨a,sb,ha⟩=>?_) hf)
 have hCa:C≠a:=by
  rcases ha with z | z
  ·rw [z];exact e.2.1
  ·intro w;exact e.2.2.2.2.1 _ _ z w.symm
 refine⟨m',hns.sameBut sb hCa,fun h' hs'=>⟨_,H',?_,q⟩⟩
 exact I3.turned (t':=s2'.toks) (fun b o hb e=>(hs'.2 b hb).trans e) hn e.2.1 e.2.2.2.1 e.2.2.2.2.1 e.2.2.2.2.2
end
theorem wL {K:PySem.W.Frag} {a:Addr} {xs:List V} {js:List Nat} {tt:TT} {te:TE} {σ:St} {H:Hp} {Q:VK} (Pv:Nat->List V->Hp->Prop) (h0:Pv 0 [] H) (hl:∀ i ys H,i≤xs.length->Pv i ys H->SqL K H a xs)
  (hs:∀ i x ys H,xs[i]?=some x->Pv i ys H->ys.length<sizeLine∧tt (some x :: xH js σ) H fun b H2=>if b=true then te (some x :: xH js σ) H2 fun v H3=>Pv (i+1) (ys++[v]) H3 else Pv (i+1) ys H2)
  (hd:∀ ys H,Pv xs.length ys H->∀ D,H D=none->Q (.ref D) (upd H D (.lst ys))) :
  CompLoop (Itl K a) js tt te σ Q H:=by
 refine⟨fun i m ys H=>m=xs.length-i∧i≤xs.length∧Pv i ys H,⟨xs.length,by simp,Nat.zero_le _,h0⟩,?_⟩
 rintro i m ys H ⟨rfl,hi,p⟩
 have q:=hl i ys H hi p
 by_cases hlt:i<xs.length
 ·have hx:xs[i]?=some xs[i]:=List.getElem?_eq_getElem hlt
  obtain⟨hz,hst⟩:=hs i xs[i] ys H hx p
  refine .inr ⟨⟨xs,xs[i],q,hx⟩,hz,Pv (i+1),fun ys' H' p'=>⟨xs.length-(i+1),by omega,rfl,hlt,p'⟩,fun x H' y=>?_⟩
  obtain⟨e,y⟩:=y
  subst e
  have e2:=y xs q
  rw [hx] at e2
  cases e2
  exact hst
 ·have e:i=xs.length:=by omega
  subst e
  exact .inl ⟨⟨xs,q,Nat.le_refl _⟩,hd ys H p⟩
theorem xR {lo:Int} {n:Nat} {js:List Nat} {tt:TT} {te:TE} {σ:St} {H:Hp} {Q:VK} (Pv:Nat->List V->Hp->Prop) (h0:Pv 0 [] H)
  (hs:∀ i ys H,i<n->Pv i ys H->ys.length<sizeLine∧tt (some (.int (lo+i)) :: xH js σ) H fun b H2=>if b=true then te (some (.int (lo+i)) :: xH js σ) H2 fun v H3=>Pv (i+1) (ys++[v]) H3 else Pv (i+1) ys H2)
  (hd:∀ ys H,Pv n ys H->∀ D,H D=none->Q (.ref D) (upd H D (.lst ys))) :
  CompLoop (Itr lo n) js tt te σ Q H:=by
 refine⟨fun i m ys H=>m=n-i∧i≤n∧Pv i ys H,⟨n,by simp,Nat.zero_le _,h0⟩,?_⟩
 rintro i m ys H ⟨rfl,hi,p⟩
 by_cases hlt:i<n
 ·obtain⟨hz,hst⟩:=hs i ys H hlt p
  refine .inr ⟨hlt,hz,Pv (i+1),fun ys' H' p'=>⟨n-(i+1),by omega,rfl,hlt,p'⟩,fun x H' y=>?_⟩
  obtain⟨e,y⟩:=y
  subst e y
  exact hst
 ·have e:i=n:=by omega
  subst e
  exact .inl ⟨Nat.le_refl _,hd ys H p⟩
open PySem PySem.Spec PyProof.Rows PySem.SeqAt
inductive Tr where
 | non | bl (b:Bool) | int (i:Int) | str (x:Str) | lst (ts:List Tr) | tup (ts:List Tr)
mutual
def TrAt (K:PySem.W.Frag) (H:Hp):Tr->V->Prop
 | .non,v=>v=.non
 | .bl b,v=>v=.bl b
 | .int i,v=>v=.int i
 | .str x,v=>v=.str x
 | .lst ts,v=>∃ a xs,v=.ref a∧SqL K H a xs∧TrsAt K H ts xs
 | .tup ts,v=>∃ a xs,v=.ref a∧SqT K H a xs∧TrsAt K H ts xs
def TrsAt (K:PySem.W.Frag) (H:Hp):List Tr->List V->Prop
 | [],xs=>xs=[]
 | t :: ts,xs=>∃ y ys,xs=y :: ys∧TrAt K H t y∧TrsAt K H ts ys
end
mutual
def teq:Tr->Tr->Bool
 | .non,.non=>true
 | .bl a,.bl b=>a == b
 | .bl a,.int b=>(if a then 1 else 0) == b
 | .int a,.bl b=>a == (if b then 1 else 0)
 | .int a,.int b=>a == b
 | .str a,.str b=>a == b
 | .lst a,.lst b=>tG a b
 | .tup a,.tup b=>tG a b
 | _,_=>false
def tG:List Tr->List Tr->Bool
 | [],[]=>true
 | t :: ts,u :: us=>teq t u && tG ts us
 | _,_=>false
end
mutual
def wC:Tr->Nat
 | .lst ts=>yI ts+1
 | .tup ts=>yI ts+1
 | _=>0
def yI:List Tr->Nat
 | []=>0
 | t :: ts=>max (wC t) (yI ts)
end
theorem Zi {t:Tr}:∀ {ts:List Tr},t∈ts->wC t≤yI ts
 | u :: ts,h=>by
  rw [yI]
  rcases List.mem_cons.mp h with e | h
  ·rw [e];exact Nat.le_max_left _ _
  ·exact Nat.le_trans (Zi h) (Nat.le_max_right _ _)
section
variable {K:PySem.W.Frag} {H:Hp}
theorem TrsAt.length:∀ {ts:List Tr} {xs:List V},TrsAt K H ts xs->ts.length=xs.length
 | [],xs,h=>by rw [TrsAt] at h;subst h;rfl
 | t :: ts,xs,h=>by
  rw [TrsAt] at h
  obtain⟨y,ys,rfl,_,h⟩:=h
  rw [List.length_cons,List.length_cons,TrsAt.length h]
theorem TrsAt.get:∀ {ts:List Tr} {xs:List V} {j:Nat} {t:Tr},TrsAt K H ts xs->ts[j]?=some t->∃ x,xs[j]?=some x∧TrAt K H t x
 | [],xs,j,t,h,e=>by simp at e
 | u :: ts,xs,0,t,h,e=>by
  rw [TrsAt] at h
  obtain⟨y,ys,rfl,hy,h⟩:=h
  simp at e
  subst e
  exact⟨y,rfl,hy⟩
 | u :: ts,xs,j+1,t,h,e=>by
  rw [TrsAt] at h
  obtain⟨y,ys,rfl,hy,h⟩:=h
  obtain⟨x,e1,e2⟩:=TrsAt.get (j:=j) h (by simpa using e)
  exact⟨x,by simpa using e1,e2⟩
theorem TrsAt.mk:∀ {ts:List Tr} {xs:List V},ts.length=xs.length->(∀ (j:Nat) (t:Tr) (x:V),ts[j]?=some t->xs[j]?=some x->TrAt K H t x)->TrsAt K H ts xs
 | [],[],_,_=>by rw [TrsAt]
 | [],_ :: _,h,_=>by simp at h
 | _ :: _,[],h,_=>by simp at h
 | t :: ts,x :: xs,h,f=>by
  rw [TrsAt]
  exact⟨x,xs,rfl,f 0 t x rfl rfl,TrsAt.mk (by simpa using h) fun j t x e1 e2=>f (j+1) t x (by simpa using e1) (by simpa using e2)⟩
theorem TrsAt.ints:∀ {ns:List Int},TrsAt K H (ns.map Tr.int) (ns.map V.int)
 | []=>by rw [List.map_nil,TrsAt];rfl
 | n :: ns=>by rw [List.map_cons,TrsAt];exact⟨_,_,rfl,by rw [TrAt],TrsAt.ints⟩
def yF (ns:List Int):Tr:=.lst (ns.map Tr.int)
theorem TrAt.ints {a:Addr} {ns:List Int} (h:SqL K H a (ns.map V.int)):TrAt K H (yF ns) (.ref a):=by
 unfold yF;rw [TrAt];exact⟨a,_,rfl,h,TrsAt.ints⟩
end
mutual
theorem qj:∀ t:Tr,teq t t=true
 | .non=>by rw [teq]
 | .bl b=>by rw [teq];simp
 | .int i=>by rw [teq];simp
 | .str x=>by rw [teq];simp
 | .lst ts=>by rw [teq];exact jy ts
 | .tup ts=>by rw [teq];exact jy ts
theorem jy:∀ ts:List Tr,tG ts ts=true
 | []=>by rw [tG]
 | t :: ts=>by rw [tG,qj t,jy ts];rfl
end
theorem VF {α:Type} [DecidableEq α] {f:α->Tr} (h:∀ a b,teq (f a) (f b)=decide (a=b)):∀ (xs ys:List α),tG (xs.map f) (ys.map f)=decide (xs=ys)
 | [],[]=>by simp [tG]
 | [],_ :: _=>by simp [tG]
 | _ :: _,[]=>by simp [tG]
 | x :: xs,y :: ys=>by
  rw [List.map_cons,List.map_cons,tG,h,VF h xs ys,Bool.eq_iff_iff]
  simp
theorem za4 (a b:Int):teq (.int a) (.int b)=decide (a=b):=by rw [teq,Bool.eq_iff_iff];simp
theorem uR (a b:List Int):teq (yF a) (yF b)=decide (a=b):=by unfold yF;rw [teq];exact VF za4 a b
theorem Yp:∀ ns:List Int,yI (ns.map Tr.int)=0
 | []=>by simp [yI]
 | n :: ns=>by rw [List.map_cons,yI,Yp ns,wC]<;>simp
theorem uy (ns:List Int):wC (yF ns)=1:=by unfold yF;rw [wC,Yp]
theorem jb:∀ {ts us:List Tr},ts.length≠us.length->tG ts us=false
 | [],[],h=>absurd rfl h
 | [],_ :: _,_=>by simp [tG]
 | _ :: _,[],_=>by simp [tG]
 | t :: ts,u :: us,h=>by rw [tG,jb (by simpa using h),Bool.and_false]
def eAt (ts us:List Tr) (j:Nat):Bool:=match ts[j]?,us[j]? with
 | some t,some u=>teq t u
 | _,_=>true
theorem Qs:∀ {ts us:List Tr},ts.length=us.length->(List.range ts.length).all (eAt ts us)=tG ts us
 | [],[],_=>by simp [tG]
 | [],_ :: _,h=>by simp at h
 | _ :: _,[],h=>by simp at h
 | t :: ts,u :: us,h=>by
  rw [List.length_cons,List.range_succ_eq_map,List.all_cons,List.all_map,tG,← Qs (ts:=ts) (us:=us) (by simpa using h)]
  rfl
section
variable {X:Cx} {pins:List (Addr×Obj)} {σ:St} {H:Hp} {s:Shared}
theorem Vw (I:Inv X pins σ H s):∀ (n:Nat) {t u:Tr} {v:V},wC t≤n->TrAt X.K H t v->TrAt X.K H u v->t=u:=by
 intro n
 induction n with
 | zero =>
  intro t u v hd ht hu
  cases t with
  | lst ts=>rw [wC] at hd;omega
  | tup ts=>rw [wC] at hd;omega
  | _=>(rw [TrAt] at ht;subst ht;cases u<;>(rw [TrAt] at hu)<;>first | rfl | (obtain⟨_,_,z,_⟩:=hu;cases z) | (cases hu;rfl) | cases hu)
 | succ n ih =>
  intro t u v hd ht hu
  have lists:∀ {ts us:List Tr} {xs:List V},yI ts≤n->TrsAt X.K H ts xs->TrsAt X.K H us xs->ts=us:=by
   intro ts us xs hd h1 h2
   apply List.ext_getElem?
   intro j
   have l1:=h1.length
   have l2:=h2.length
   by_cases hj:j<ts.length
   ·obtain⟨t,e⟩:∃ t,ts[j]?=some t:=⟨_,List.getElem?_eq_getElem hj⟩
    obtain⟨u,e'⟩:∃ u,us[j]?=some u:=⟨_,List.getElem?_eq_getElem (by omega)⟩
    obtain⟨x,ex,hx⟩:=h1.get e
    obtain⟨y,ey,hy⟩:=h2.get e'
    rw [ex] at ey
    cases ey
    rw [e,e',ih (Nat.le_trans (Zi (List.mem_of_getElem? e)) hd) hx hy]
   ·rw [List.getElem?_eq_none (by omega),List.getElem?_eq_none (by omega)]
  cases t with
  | lst ts =>
   rw [TrAt] at ht
   obtain⟨a,xs,rfl,q,h1⟩:=ht
   cases u with
   | lst us =>
    rw [TrAt] at hu
    obtain⟨b,ys,e,q',h2⟩:=hu
    cases e
    rw [I.list_inj q' q] at h2
    rw [lists (by rw [wC] at hd;omega) h1 h2]
   | tup us =>
    rw [TrAt] at hu
    obtain⟨b,ys,e,q',h2⟩:=hu
    cases e
    obtain⟨_,_,pl,_⟩:=I.list q
    obtain⟨_,_,pt,_⟩:=I.tuple q'
    exact absurd rfl (ne_of_list_tuple pl.isList pt)
   | _=>rw [TrAt] at hu;cases hu
  | tup ts =>
   rw [TrAt] at ht
   obtain⟨a,xs,rfl,q,h1⟩:=ht
   cases u with
   | tup us =>
    rw [TrAt] at hu
    obtain⟨b,ys,e,q',h2⟩:=hu
    cases e
    rw [I.tuple_inj q' q] at h2
    rw [lists (by rw [wC] at hd;omega) h1 h2]
   | lst us =>
    rw [TrAt] at hu
    obtain⟨b,ys,e,q',h2⟩:=hu
    cases e
    obtain⟨_,_,pl,_⟩:=I.list q'
    obtain⟨_,_,pt,_⟩:=I.tuple q
    exact absurd rfl (ne_of_list_tuple pl.isList pt)
   | _=>rw [TrAt] at hu;cases hu
  | _=>(rw [TrAt] at ht;subst ht;cases u<;>(rw [TrAt] at hu)<;>first | rfl | (obtain⟨_,_,z,_⟩:=hu;cases z) | (cases hu;rfl) | cases hu)
structure zf9 (A:Around) (s:Shared) (a b:Value) (r:Bool):Prop where
 rc:RcAt A s a b r
 ne:RcNeAt A s a b (!r)
 eq:EqAt A s a b r
theorem units_in1 (A:Around):A.in1.units=A.units+1:=rfl
theorem Wv (I:Inv X pins σ H s):∀ (n:Nat) {t u:Tr} {v w:V} {a b:Value} {A:Around},wC t≤n->TrAt X.K H t v->TrAt X.K H u w->RelV v a->RelV w b->A.units+n<cLine->zf9 A s a b (teq t u):=by
 intro n
 induction n with
 | zero =>
  intro t u v w a b A hd ht hu ra rb hA
  have hA':A.units<cLine:=by omega
  cases t with
  | lst ts=>rw [wC] at hd;omega
  | tup ts=>rw [wC] at hd;omega
  | non =>
   rw [TrAt] at ht;subst ht;cases ra
   cases u with
   | non=>rw [TrAt] at hu;subst hu;cases rb;rw [teq];exact⟨.none_none,.none_none,.same _⟩
   | bl b=>rw [TrAt] at hu;subst hu;cases rb;simp only [teq];exact⟨.none_bool _,.none_bool _,.none_bool _⟩
   | int b=>rw [TrAt] at hu;subst hu;obtain⟨_,rfl⟩:=rb;simp only [teq];exact⟨.none_int _ _,.none_int _ _,.none_int _ _⟩
   | str b=>rw [TrAt] at hu;subst hu;obtain⟨_,rfl⟩:=rb;simp only [teq];exact⟨.none_str _ _,.none_str _ _,.none_str _ _⟩
   | lst us=>rw [TrAt] at hu;obtain⟨p,ys,rfl,q,_⟩:=hu;cases rb;obtain⟨_,_,pl,_⟩:=I.list q;simp only [teq];exact⟨.none_list pl.isList hA',.none_list pl.isList hA',.none_list pl.isList hA'⟩
   | tup us=>rw [TrAt] at hu;obtain⟨p,ys,rfl,q,_⟩:=hu;cases rb;obtain⟨_,_,pl,_⟩:=I.tuple q;simp only [teq];exact⟨.none_tuple pl hA',.none_tuple pl hA',.none_tuple pl hA'⟩
  | bl c =>
   rw [TrAt] at ht;subst ht;cases ra
   cases u with
   | non=>rw [TrAt] at hu;subst hu;cases rb;simp only [teq];exact⟨.bool_none _,.bool_none _,.bool_none _⟩
   | bl b=>rw [TrAt] at hu;subst hu;cases rb;rw [teq];exact⟨.bool_bool _ _,.bool_bool _ _,.bool_bool _ _⟩
   | int b=>rw [TrAt] at hu;subst hu;obtain⟨_,rfl⟩:=rb;rw [teq];exact⟨.bool_int _ _ _,.bool_int _ _ _,.bool_int _ _ _⟩
   | str b=>rw [TrAt] at hu;subst hu;obtain⟨_,rfl⟩:=rb;simp only [teq];exact⟨.bool_str _ _ _,.bool_str _ _ _,.bool_str _ _ _⟩
   | lst us=>rw [TrAt] at hu;obtain⟨p,ys,rfl,q,_⟩:=hu;cases rb;obtain⟨_,_,pl,_⟩:=I.list q;simp only [teq];exact⟨.bool_list _ pl.isList hA',.bool_list _ pl.isList hA',.bool_list _ pl.isList hA'⟩
   | tup us=>rw [TrAt] at hu;obtain⟨p,ys,rfl,q,_⟩:=hu;cases rb;obtain⟨_,_,pl,_⟩:=I.tuple q;simp only [teq];exact⟨.bool_tuple _ pl hA',.bool_tuple _ pl hA',.bool_tuple _ pl hA'⟩
  | int c =>
   rw [TrAt] at ht;subst ht;obtain⟨_,rfl⟩:=ra
   cases u with
   | non=>rw [TrAt] at hu;subst hu;cases rb;simp only [teq];exact⟨.int_none _ _,.int_none _ _,.int_none _ _⟩
   | bl b=>rw [TrAt] at hu;subst hu;cases rb;rw [teq];exact⟨.int_bool _ _ _,.int_bool _ _ _,.int_bool _ _ _⟩
   | int b=>rw [TrAt] at hu;subst hu;obtain⟨_,rfl⟩:=rb;rw [teq];exact⟨.int_int _ _ _ _,.int_int _ _ _ _,.int_int _ _ _ _⟩
   | str b=>rw [TrAt] at hu;subst hu;obtain⟨_,rfl⟩:=rb;simp only [teq];exact⟨.int_str _ _ _ _,.int_str _ _ _ _,.int_str _ _ _ _⟩
   | lst us=>rw [TrAt] at hu;obtain⟨p,ys,rfl,q,_⟩:=hu;cases rb;obtain⟨_,_,pl,_⟩:=I.list q;simp only [teq];exact⟨.int_list _ _ pl.isList hA',.int_list _ _ pl.isList hA',.int_list _ _ pl.isList hA'⟩
   | tup us=>rw [TrAt] at hu;obtain⟨p,ys,rfl,q,_⟩:=hu;cases rb;obtain⟨_,_,pl,_⟩:=I.tuple q;simp only [teq];exact⟨.int_tuple _ _ pl hA',.int_tuple _ _ pl hA',.int_tuple _ _ pl hA'⟩
  | str c =>
   rw [TrAt] at ht;subst ht;obtain⟨_,rfl⟩:=ra
   cases u with
   | non=>rw [TrAt] at hu;subst hu;cases rb;simp only [teq];exact⟨.str_none _ _,.str_none _ _,.str_none _ _⟩
   | bl b=>rw [TrAt] at hu;subst hu;cases rb;simp only [teq];exact⟨.str_bool _ _ _,.str_bool _ _ _,.str_bool _ _ _⟩
   | int b=>rw [TrAt] at hu;subst hu;obtain⟨_,rfl⟩:=rb;simp only [teq];exact⟨.str_int _ _ _ _,.str_int _ _ _ _,.str_int _ _ _ _⟩
   | str b=>rw [TrAt] at hu;subst hu;obtain⟨_,rfl⟩:=rb;rw [teq];exact⟨.str_str _ _ _ _,.str_str _ _ _ _,.str_str _ _ _ _⟩
   | lst us=>rw [TrAt] at hu;obtain⟨p,ys,rfl,q,_⟩:=hu;cases rb;obtain⟨_,_,pl,_⟩:=I.list q;simp only [teq];exact⟨.str_list _ _ pl.isList hA',.str_list _ _ pl.isList hA',.str_list _ _ pl.isList hA'⟩
   | tup us=>rw [TrAt] at hu;obtain⟨p,ys,rfl,q,_⟩:=hu;cases rb;obtain⟨_,_,pl,_⟩:=I.tuple q;simp only [teq];exact⟨.str_tuple _ _ pl hA',.str_tuple _ _ pl hA',.str_tuple _ _ pl hA'⟩
 | succ n ih =>
  intro t u v w a b A hd ht hu ra rb hA
  have hA':A.units<cLine:=by omega
  have items:∀ {ts us:List Tr} {xs ys:List V} {its its2:List Value},yI ts≤n->TrsAt X.K H ts xs->TrsAt X.K H us ys->Vals xs its->Vals ys its2 ->
    ∀ j (h1:j<its.toArray.size) (h2:j<its2.toArray.size),EqAt A.in1 s its.toArray[j] its2.toArray[j] (eAt ts us j):=by
   intro ts us xs ys its its2 hdn h1 h2 r1 r2 j hj1 hj2
   have l1:=h1.length
   have l2:=h2.length
   have m1:=r1.length
   have m2:=r2.length
   rw [List.size_toArray] at hj1 hj2
   obtain⟨t,e⟩:∃ t,ts[j]?=some t:=⟨_,List.getElem?_eq_getElem (by omega)⟩
   obtain⟨u,e'⟩:∃ u,us[j]?=some u:=⟨_,List.getElem?_eq_getElem (by omega)⟩
   obtain⟨x,ex,hx⟩:=h1.get e
   obtain⟨y,ey,hy⟩:=h2.get e'
   obtain⟨vx,fx,rx⟩:=r1.get ex
   obtain⟨vy,fy,ry⟩:=r2.get ey
   have g1:its.toArray[j]'(by simpa using hj1)=vx:=by
    have z:its[j]=vx:=Option.some.inj ((List.getElem?_eq_getElem hj1).symm.trans fx)
    simpa using z
   have g2:its2.toArray[j]'(by simpa using hj2)=vy:=by
    have z:its2[j]=vy:=Option.some.inj ((List.getElem?_eq_getElem hj2).symm.trans fy)
    simpa using z
   rw [g1,g2]
   have q:=(ih (A:=A.in1) (Nat.le_trans (Zi (List.mem_of_getElem? e)) hdn) hx hy rx ry (by rw [units_in1];omega)).eq
   unfold eAt
   rw [e,e']
   exact q
  by_cases hz:wC t≤n
  ·exact ih hz ht hu ra rb (by omega)
  cases t with
  | lst ts =>
   rw [TrAt] at ht;obtain⟨p,xs,rfl,q,h1⟩:=ht;cases ra
   obtain⟨its,r1,pl,_⟩:=I.list q
   cases u with
   | non=>rw [TrAt] at hu;subst hu;cases rb;simp only [teq];exact⟨.list_none pl.isList hA',.list_none pl.isList hA',.list_none pl.isList hA'⟩
   | bl b=>rw [TrAt] at hu;subst hu;cases rb;simp only [teq];exact⟨.list_bool _ pl.isList hA',.list_bool _ pl.isList hA',.list_bool _ pl.isList hA'⟩
   | int b=>rw [TrAt] at hu;subst hu;obtain⟨_,rfl⟩:=rb;simp only [teq];exact⟨.list_int _ _ pl.isList hA',.list_int _ _ pl.isList hA',.list_int _ _ pl.isList hA'⟩
   | str b=>rw [TrAt] at hu;subst hu;obtain⟨_,rfl⟩:=rb;simp only [teq];exact⟨.list_str _ _ pl.isList hA',.list_str _ _ pl.isList hA',.list_str _ _ pl.isList hA'⟩
   | tup us=>rw [TrAt] at hu;obtain⟨p',ys,rfl,q',_⟩:=hu;cases rb;obtain⟨_,_,pl',_⟩:=I.tuple q';simp only [teq];exact⟨.list_tuple pl.isList pl' hA',.list_tuple pl.isList pl' hA',.list_tuple pl.isList pl' hA'⟩
   | lst us =>
    have hu0:=hu
    rw [TrAt] at hu;obtain⟨p',ys,rfl,q',h2⟩:=hu;cases rb
    obtain⟨its2,r2,pl',_⟩:=I.list q'
    have l1:=h1.length
    have l2:=h2.length
    have m1:=r1.length
    have m2:=r2.length
    have hdn:yI ts≤n:=by rw [wC] at hd;omega
    have both:RcAt A s (.ref p) (.ref p') (tG ts us)∧RcNeAt A s (.ref p) (.ref p') (!tG ts us):=by
     by_cases hsz:ts.length=us.length
     ·have hs:its.toArray.size=its2.toArray.size:=by rw [List.size_toArray,List.size_toArray];omega
      have it:=items hdn h1 h2 r1 r2
      have e1:(List.range its.toArray.size).all (eAt ts us)=tG ts us:=by
       rw [List.size_toArray,← m1,← l1];exact Qs hsz
      have a1:=RcAt.lists pl.isList pl'.isList hs hA' it
      have a2:=RcNeAt.lists pl.isList pl'.isList hs hA' it
      rw [e1] at a1 a2
      exact⟨a1,a2⟩
     ·have hs:(its.toArray.size != its2.toArray.size)=true:=by
       rw [List.size_toArray,List.size_toArray,bne_iff_ne];omega
      rw [jb hsz]
      exact⟨.lists_lengths pl.isList pl'.isList hs hA',.lists_lengths pl.isList pl'.isList hs hA'⟩
    rw [teq]
    refine⟨both.1,both.2,?_⟩
    by_cases hpp:p=p'
    ·subst hpp
     have e:Tr.lst ts=Tr.lst us:=Vw I (n+1) hd (show TrAt X.K H (.lst ts) (.ref p) by rw [TrAt];exact⟨p,xs,rfl,q,h1⟩) hu0
     cases e
     rw [jy]
     exact .same _
    ·exact .of_refs hpp both.1
  | tup ts =>
   rw [TrAt] at ht;obtain⟨p,xs,rfl,q,h1⟩:=ht;cases ra
   obtain⟨its,r1,pl,_⟩:=I.tuple q
   cases u with
   | non=>rw [TrAt] at hu;subst hu;cases rb;simp only [teq];exact⟨.tuple_none pl hA',.tuple_none pl hA',.tuple_none pl hA'⟩
   | bl b=>rw [TrAt] at hu;subst hu;cases rb;simp only [teq];exact⟨.tuple_bool _ pl hA',.tuple_bool _ pl hA',.tuple_bool _ pl hA'⟩
   | int b=>rw [TrAt] at hu;subst hu;obtain⟨_,rfl⟩:=rb;simp only [teq];exact⟨.tuple_int _ _ pl hA',.tuple_int _ _ pl hA',.tuple_int _ _ pl hA'⟩
   | str b=>rw [TrAt] at hu;subst hu;obtain⟨_,rfl⟩:=rb;simp only [teq];exact⟨.tuple_str _ _ pl hA',.tuple_str _ _ pl hA',.tuple_str _ _ pl hA'⟩
   | lst us=>rw [TrAt] at hu;obtain⟨p',ys,rfl,q',_⟩:=hu;cases rb;obtain⟨_,_,pl',_⟩:=I.list q';simp only [teq];exact⟨.tuple_list pl pl'.isList hA',.tuple_list pl pl'.isList hA',.tuple_list pl pl'.isList hA'⟩
   | tup us =>
    have hu0:=hu
    rw [TrAt] at hu;obtain⟨p',ys,rfl,q',h2⟩:=hu;cases rb
    obtain⟨its2,r2,pl',_⟩:=I.tuple q'
    have l1:=h1.length
    have l2:=h2.length
    have m1:=r1.length
    have m2:=r2.length
    have hdn:yI ts≤n:=by rw [wC] at hd;omega
    have e1:((List.range (min its.toArray.size its2.toArray.size)).all (eAt ts us) && its.toArray.size == its2.toArray.size)=tG ts us:=by
     rw [List.size_toArray,List.size_toArray,← m1,← l1,← m2,← l2]
     by_cases hsz:ts.length=us.length
     ·rw [← hsz,Nat.min_self,beq_self_eq_true,Bool.and_true];exact Qs hsz
     ·rw [jb hsz,beq_eq_false_iff_ne.mpr hsz,Bool.and_false]
    have it:=items hdn h1 h2 r1 r2
    have a1:=RcAt.tuples pl pl' hA' it
    have a2:=RcNeAt.tuples pl pl' hA' it
    rw [e1] at a1 a2
    rw [teq]
    refine⟨a1,a2,?_⟩
    by_cases hpp:p=p'
    ·subst hpp
     have e:Tr.tup ts=Tr.tup us:=Vw I (n+1) hd (show TrAt X.K H (.tup ts) (.ref p) by rw [TrAt];exact⟨p,xs,rfl,q,h1⟩) hu0
     cases e
     rw [jy]
     exact .same _
    ·exact .of_refs hpp a1
  | non=>exact absurd (Nat.zero_le _) hz
  | bl b=>exact absurd (Nat.zero_le _) hz
  | int b=>exact absurd (Nat.zero_le _) hz
  | str b=>exact absurd (Nat.zero_le _) hz
end
section
variable {X:Cx}
def zdF (K:PySem.W.Frag) (neg:Bool):R2:=fun x y H Q=>∃ t u,TrAt K H t x∧TrAt K H u y∧wC t≤8∧Q (.bl (if neg then !teq t u else teq t u)) H
theorem zez (hu:X.A.units+64<cLine):OpR X (compareOp .Eq) (zdF X.K false):=by
 intro pins s σ H x y v u Q I rx ry h
 obtain⟨t,t',h1,h2,hd,q⟩:=h
 exact (Wv I 8 hd h1 h2 rx ry (by omega)).rc _ _ _ _ ⟨.bl _,H,I,rfl,q⟩
theorem zeV (hu:X.A.units+64<cLine):OpR X (compareOp .NotEq) (zdF X.K true):=by
 intro pins s σ H x y v u Q I rx ry h
 obtain⟨t,t',h1,h2,hd,q⟩:=h
 exact (Wv I 8 hd h1 h2 rx ry (by omega)).ne _ _ _ _ ⟨.bl _,H,I,rfl,q⟩
open Classical in
def zdK (K:PySem.W.Frag) (neg:Bool):R2:=fun x y H Q=>∃ p xs ts u,y=.ref p∧SqL K H p xs∧TrsAt K H ts xs∧TrAt K H u x∧yI ts≤8∧Q (.bl (if neg then !(ts.any fun t=>teq t u) else ts.any fun t=>teq t u)) H
open Classical in
theorem J1 {pins:List (Addr×Obj)} {σ:St} {H:Hp} {s:Shared} (I:Inv X pins σ H s) {u:Tr}:∀ {ts:List Tr} {xs:List V} {its:List Value},yI ts≤8->TrsAt X.K H ts xs->Vals xs its ->
  its.any (fun y=>decide (∃ t x,RelV x y∧TrAt X.K H t x∧teq t u=true))=ts.any fun t=>teq t u
 | [],xs,its,_,h,r=>by rw [TrsAt] at h;subst h;cases r;rfl
 | t :: ts,xs,its,hd,h,r=>by
  rw [TrsAt] at h
  obtain⟨y,ys,rfl,hy,h⟩:=h
  cases r with
  | cons r1 r2 =>
   rw [yI] at hd
   rw [List.any_cons,List.any_cons,J1 I (by omega) h r2]
   congr 1
   rw [Bool.eq_iff_iff,decide_eq_true_iff]
   constructor
   ·rintro⟨t',x',r',h',e⟩
    rw [r1.inj r'] at hy
    rw [Vw I 8 (by omega) hy h'];exact e
   ·intro e
    exact⟨t,y,r1,hy,e⟩
open Classical in
theorem U8 {pins:List (Addr×Obj)} {σ:St} {H:Hp} {s:Shared} (I:Inv X pins σ H s) (hu:X.A.units+64<cLine) {u:Tr} {x:V} {v:Value} (hx:TrAt X.K H u x) (rx:RelV x v) {ts:List Tr} {xs:List V} {its:List Value} (hd:yI ts≤8) (h:TrsAt X.K H ts xs) (r:Vals xs its) :
  ∀ y,y∈its.toArray->SeqAt.EqAt X.A.in1 s y v (decide (∃ t x,RelV x y∧TrAt X.K H t x∧teq t u=true)):=by
 intro y hy
 have hy':y∈its:=by simpa using hy
 obtain⟨j,hj,e⟩:=List.getElem_of_mem hy'
 have l1:=h.length
 have m1:=r.length
 obtain⟨t,et⟩:∃ t,ts[j]?=some t:=⟨_,List.getElem?_eq_getElem (by omega)⟩
 obtain⟨z,ez,hz⟩:=h.get et
 obtain⟨w,ew,rw'⟩:=r.get ez
 have e':y=w:=by
  rw [List.getElem?_eq_getElem hj] at ew
  exact e.symm.trans (Option.some.inj ew)
 subst e'
 have hd':wC t≤8:=Nat.le_trans (Zi (List.mem_of_getElem? et)) hd
 have q:=(Wv I 8 (A:=X.A.in1) hd' hz hx rw' rx (by rw [units_in1];omega)).eq
 have e2:decide (∃ t x,RelV x y∧TrAt X.K H t x∧teq t u=true)=teq t u:=by
  rw [Bool.eq_iff_iff,decide_eq_true_iff]
  constructor
  ·rintro⟨t',x',r',h',e3⟩
   rw [rw'.inj r'] at hz
   rw [Vw I 8 hd' hz h'];exact e3
  ·intro e3
   exact⟨t,z,rw',hz,e3⟩
 rw [e2]
 exact q
open Classical in
theorem zes (hu:X.A.units+64<cLine):OpR X (compareOp .In) (zdK X.K false):=by
 intro pins s σ H x y v u Q I rx ry h
 obtain⟨p,xs,ts,t,rfl,hq,hts,ht,hd,q⟩:=h
 cases ry
 obtain⟨its,r,pl,hz⟩:=I.list hq
 refine SeqAt.in_listAt _ pl.isList (U8 I hu ht rx hd hts r) ⟨.bl _,H,I,rfl,?_⟩
 simp only [List.any_toArray]
 rw [J1 I hd hts r]
 exact q
open Classical in
theorem zbO (hu:X.A.units+64<cLine):OpR X (compareOp .NotIn) (zdK X.K true):=by
 intro pins s σ H x y v u Q I rx ry h
 obtain⟨p,xs,ts,t,rfl,hq,hts,ht,hd,q⟩:=h
 cases ry
 obtain⟨its,r,pl,hz⟩:=I.list hq
 refine SeqAt.notIn_listAt _ pl.isList (U8 I hu ht rx hd hts r) ⟨.bl _,H,I,rfl,?_⟩
 simp only [List.any_toArray]
 rw [J1 I hd hts r]
 exact q
end
end L2
namespace L2
open PySem PySem.Spec PyProof.Rows
theorem Xk {K:PySem.W.Frag} {T U:String} {b:Bool} (h1:PySem.W.kitMeta U=true) (h2:(fastBuiltinMro T).map (·.contains (Value.type U))=some b) (hb:T=U->b=true):PySem.W.kitOne K (.type T) (.type U)=some b:=by
 unfold PySem.W.kitOne
 by_cases e:T=U
 ·subst e
  rw [if_pos (by simp),hb rfl]
 ·rw [if_neg (by simpa using e)]
  show (if PySem.W.kitMeta U=true then PySem.W.subIn K (.type T) (.type U) else none)=some b
  rw [if_pos h1]
  exact h2
section
variable {K:PySem.W.Frag}
theorem Q8:PySem.W.kitOne K (.type "int") (.type "int")=some true:=Xk (by decide +kernel) (by decide +kernel) (fun _=>rfl)
theorem YH:PySem.W.kitOne K (.type "int") (.type "bool")=some false:=Xk (by decide +kernel) (by decide +kernel) (fun e=>absurd e (by decide))
theorem Z1:PySem.W.kitOne K (.type "bool") (.type "bool")=some true:=Xk (by decide +kernel) (by decide +kernel) (fun _=>rfl)
theorem Z6:PySem.W.kitOne K (.type "list") (.type "list")=some true:=Xk (by decide +kernel) (by decide +kernel) (fun _=>rfl)
theorem Wi:PySem.W.kitOne K (.type "tuple") (.type "tuple")=some true:=Xk (by decide +kernel) (by decide +kernel) (fun _=>rfl)
end
section
variable {X:Cx}
def ze5 (K:PySem.W.Frag):List V->Hp->VK->Prop:=fun xs H Q=>∃ x T t b,xs=[x,.ty T]∧Y5 K H x t∧PySem.W.kitOne K t (.type T)=some b∧Q (.bl b) H
theorem WF:wy X (.builtin "isinstance") (ze5 X.K):=by
 intro pins s σ H xs us Q I r h
 obtain⟨x,T,t,b,rfl,ty,e,q⟩:=h
 obtain⟨u,v,rfl,rx,rt⟩:=vals2 r
 cases rt
 exact zbj I rx ty e fun tk=>⟨.bl b,H,I.tok tk,rfl,q⟩
def zd9 (i j:Int):Prop:=0<j∧j<2^200
theorem QX:OpR X (binaryOp .FloorDiv) (rI zd9 fun i j=>.int (i / j)):=opI fun i j _ _ _ _ _ hc q=>by
 have h1:(0:Int)<j:=hc.1
 have h2:j<2^200:=hc.2
 refine floordiv_int (by omega) (by rw [Int.fdiv_eq_ediv_of_nonneg i (by omega)];exact q) (.inl (PyProof.noPylong_of_log2 ?_))
 have h3:j.natAbs<2^200:=by omega
 have h4:j.natAbs.log2<200:=(Nat.log2_lt (by omega)).mpr h3
 omega
def zfV (neg:Bool):R2:=fun x y H Q=>∃ a b,x=.bl a∧y=.bl b∧Q (.bl (if neg then !decide (a=b) else decide (a=b))) H
theorem XX {P:Program} {w:World} {A:Around} {its:List Value} {bs:List Bool} (r:Vals (bs.map V.bl) its):TruthOf P w A (fun i v=>its.toArray[i]?=some v) (fun i=>bs.getD i false):=by
 intro i v s Q E hP hQ
 have hl:=r.length
 rw [List.length_map] at hl
 have e:its[i]?=some v:=by simpa using hP
 have hi:i<its.length:=(List.getElem?_eq_some_iff.mp e).1
 have e2:(bs.map V.bl)[i]?=some (.bl (bs[i]'(by omega))):=by rw [List.getElem?_map,List.getElem?_eq_getElem (by omega)];rfl
 obtain⟨u,e3,r3⟩:=r.get e2
 rw [e] at e3
 cases e3
 cases r3
 have e4:bs.getD i false=bs[i]:=by rw [List.getD_eq_getElem?_getD,List.getElem?_eq_getElem (by omega)];rfl
 exact wpAny_truthy_bool (e4▸hQ)
theorem QV:∀ bs:List Bool,(List.range bs.length).all (fun i=>bs.getD i false)=bs.all id
 | []=>rfl
 | b :: bs=>by
  rw [List.length_cons,List.range_succ_eq_map,List.all_cons,List.all_map,List.all_cons,← QV bs]
  rfl
theorem Q6:∀ bs:List Bool,(List.range bs.length).any (fun i=>bs.getD i false)=bs.any id
 | []=>rfl
 | b :: bs=>by
  rw [List.length_cons,List.range_succ_eq_map,List.any_cons,List.any_map,List.any_cons,← Q6 bs]
  rfl
def ze3 (K:PySem.W.Frag):List V->Hp->VK->Prop:=fun xs H Q=>∃ (a:Addr) (bs:List Bool),xs=[.ref a]∧SqL K H a (bs.map V.bl)∧Q (.bl (bs.all id)) H
def zfq (K:PySem.W.Frag):List V->Hp->VK->Prop:=fun xs H Q=>∃ (a:Addr) (bs:List Bool),xs=[.ref a]∧SqL K H a (bs.map V.bl)∧Q (.bl (bs.any id)) H
theorem zcw (hc:X.calm=true):wy X (.builtin "all") (ze3 X.K):=by
 intro pins s σ H xs us Q I r h
 obtain⟨a,bs,rfl,hq,q⟩:=h
 obtain⟨u,rfl,rx⟩:=vals1 r
 cases rx
 obtain⟨its,rv,pl,hz⟩:=I.list hq
 have hl:=rv.length
 rw [List.length_map] at hl
 obtain⟨o,n,eo,_⟩:=id pl
 have hne:a≠s.heap.objs.size:=Nat.ne_of_lt (Heap.lt_size eo)
 refine call_all_walk (wpAny_pyIter_list pl.isList ?_)
 refine⟨_,_,_,_,_,_,_,rfl,Walks.list (A:=X.A.in1) (show X.A.in1.handled=none from I.ok.hd hc) s.heap.objs.size a hne its.toArray,⟨⟨_,Heap.get?_push_size _ rfl,rfl,rfl⟩,pl.isList.at fun o e=>Heap.get?_push_of_some _ e⟩,XX rv,fun h' tk hk=>?_⟩
 have I1:Inv X pins σ H { s with heap:=h',toks:=tk }:=I.kept fun b o e=>hk b o (by have:=Heap.lt_size e;simp;exact Nat.ne_of_lt this) (Heap.get?_push_of_some _ e)
 refine⟨.bl _,H,I1,rfl,?_⟩
 rw [List.size_toArray,← hl,QV]
 exact q
theorem zcg (hc:X.calm=true):wy X (.builtin "any") (zfq X.K):=by
 intro pins s σ H xs us Q I r h
 obtain⟨a,bs,rfl,hq,q⟩:=h
 obtain⟨u,rfl,rx⟩:=vals1 r
 cases rx
 obtain⟨its,rv,pl,hz⟩:=I.list hq
 have hl:=rv.length
 rw [List.length_map] at hl
 obtain⟨o,n,eo,_⟩:=id pl
 have hne:a≠s.heap.objs.size:=Nat.ne_of_lt (Heap.lt_size eo)
 refine call_any_walk (wpAny_pyIter_list pl.isList ?_)
 refine⟨_,_,_,_,_,_,_,rfl,Walks.list (A:=X.A.in1) (show X.A.in1.handled=none from I.ok.hd hc) s.heap.objs.size a hne its.toArray,⟨⟨_,Heap.get?_push_size _ rfl,rfl,rfl⟩,pl.isList.at fun o e=>Heap.get?_push_of_some _ e⟩,XX rv,fun h' tk hk=>?_⟩
 have I1:Inv X pins σ H { s with heap:=h',toks:=tk }:=I.kept fun b o e=>hk b o (by have:=Heap.lt_size e;simp;exact Nat.ne_of_lt this) (Heap.get?_push_of_some _ e)
 refine⟨.bl _,H,I1,rfl,?_⟩
 rw [List.size_toArray,← hl,Q6]
 exact q
section
variable {prog:Program} {w:World} {A:Around} {E:Value->Shared->Prop} {s:Shared}
end
end
section
variable {X:Cx} (K:PySem.W.Frag)
theorem Jd (e:X.K=K:=by rfl):wy X (.builtin "isinstance") (ze5 K):=by subst e;exact WF
theorem tK (e:X.K=K:=by rfl):wy X (.builtin "len") (fun xs H Q=>∃ p ys,xs=[.ref p]∧(SqL K H p ys∨SqT K H p ys)∧Q (.int ys.length) H):=by subst e;exact tU
theorem uN (e:X.K=K:=by rfl):IxR X (zcE K):=by subst e;exact wk
theorem j5 (e:X.K=K:=by rfl):IxR X (zfD K):=by subst e;exact zeM
theorem ZD (e:X.K=K:=by rfl):SlR X (zeS K):=by subst e;exact zdI
theorem k_all (hc:X.calm=true) (e:X.K=K:=by rfl):wy X (.builtin "all") (ze3 K):=by subst e;exact zcw hc
theorem zc6 (hc:X.calm=true) (e:X.K=K:=by rfl):wy X (.builtin "any") (zfq K):=by subst e;exact zcg hc
theorem Vb (e:X.K=K:=by rfl):wy X (.type "list") (fun xs H Q=>∃ p ys,xs=[.ref p]∧(SqL K H p ys∨SqT K H p ys)∧∀ l,H l=none->Q (.ref l) (upd H l (.lst ys))):=by subst e;exact Qk
theorem JM (hu:X.A.units+64<cLine) (e:X.K=K:=by rfl):OpR X (compareOp .Eq) (zdF K false):=by subst e;exact zez hu
theorem Ul (hu:X.A.units+64<cLine) (e:X.K=K:=by rfl):OpR X (compareOp .NotEq) (zdF K true):=by subst e;exact zeV hu
theorem zd2 (hu:X.A.units+64<cLine) (e:X.K=K:=by rfl):OpR X (compareOp .In) (zdK K false):=by subst e;exact zes hu
theorem YF (hu:X.A.units+64<cLine) (e:X.K=K:=by rfl):OpR X (compareOp .NotIn) (zdK K true):=by subst e;exact zbO hu
theorem jJ {tg l:Expr} {tl:TE} (hl:PE X l tl) (e:X.K=K:=by rfl):PI X tg l (zd8 K tl):=by subst e;exact zdH hl
end
structure Df (K:PySem.W.Frag) (mg:Str->Option Value) (x:Str) (st:Stmt) (ps:List Str) (f:Addr) (fd:FuncData):Prop where
 fn:Fun K x x st f fd
 b:Binds K fd ps []
 g:mg x=some (.ref f)
theorem zP {X:Cx} {x:Str} {st:Stmt} {ps:List Str} {f:Addr} {fd:FuncData} {k:Nat} {sp:Sp} {e:Expr} {es:List Expr} {t:TA} {p pos:Pos} (D:Df X.K X.mg x st ps f fd) (G:FnOk X.prog X.w X.K X.mg X.base CX0 k f fd ps sp) (hr:Room k X.A) (ha:PA X (e :: es) t) (hg:Gl X x:=by rfl)
  (hdb:(x == ("__debug__" : Str))=false:=by decide) (he:starEach (e :: es) X.env=(false,eval e X.env) :: starEach es X.env:=by rfl) (hpl:(backTo pos (starEach es X.env)).any (·.1)=false:=by rfl):PE X (.Call (.Name x p) (e :: es) [] pos) (zd5 sp [] E0 t) :=
 zd0 G hr hg D.g D.fn.kp D.b .nil JK ha hdb he hpl
theorem zcS {K:PySem.W.Frag} {h:Heap} {mg:Str->Option Value} {x:Str} {st:Stmt} {ps:List Str} {f:Addr} {oc:Value} {od an:Option Addr} {osl:Array (Option Value)} {kV doc pm cdv ct:Value} (X:K.In h) (G:h.Ns mainGlobals mg)
  (a:PySem.W.nsIn K mainGlobals x=some (some (.ref f))) (l:K.lookup f=some ⟨oc,od,.func (PySem.W.fnOf x x (wN st) (yR st) (zq st) .none kV doc pm an cdv ct),osl⟩) (c:PySem.W.codeIn K cdv x=true) (k:PySem.W.keepIn K (.ref f)=true)
  (hb:∀ (kV doc pm:Value) (an:Option Addr) (cdv ct:Value) (us:List Value),us.length=ps.length->bindArgs (PySem.W.fnOf x x (wN st) (yR st) (zq st) .none kV doc pm an cdv ct) ⟨us,[]⟩=pure (ps.zip us)) :
  Df K mg x st ps f (PySem.W.fnOf x x (wN st) (yR st) (zq st) .none kV doc pm an cdv ct) :=
 ⟨QF l c k,(QF (st:=st) l c k).binds hb,PySem.W.mg_of X G a⟩
structure Blt (mg:Str->Option Value):Prop where
 n_isinstance:mg "isinstance" = none
 n_int:mg "int" = none
 n_bool:mg "bool" = none
 n_list:mg "list" = none
 n_tuple:mg "tuple" = none
 n_reversed:mg "reversed" = none
 n_len:mg "len" = none
 n_max:mg "max" = none
 n_min:mg "min" = none
 n_range:mg "range" = none
 n_all:mg "all" = none
 n_any:mg "any" = none
 n_sorted:mg "sorted" = none
 n_enumerate:mg "enumerate" = none
 n_repr:mg "repr" = none
theorem Xe {A:Around} {k:Nat} (hr:Room k A):A.units+64<cLine:=hr.units
def aw (fp:List Addr) (H:Hp):Hp:=fun b=>if b∈fp then none else H b
theorem Z3 {fp:List Addr} {H:Hp} {b:Addr} (h:b∈fp):aw fp H b=none:=by unfold aw;rw [if_pos h]
theorem yd {fp:List Addr} {H:Hp} {b:Addr} (h:b∉fp):aw fp H b=H b:=by unfold aw;rw [if_neg h]
theorem xu (fp:List Addr) (H:Hp):Same (aw fp H) H:=fun b o e=>by
 by_cases h:b∈fp
 ·rw [Z3 h] at e;cases e
 ·rw [yd h] at e;exact e
theorem Same.aw {H H':Hp} (h:Same H H') (fp:List Addr):Same (aw fp H) (aw fp H'):=fun b o e=>by
 by_cases hb:b∈fp
 ·rw [Z3 hb] at e;cases e
 ·rw [yd hb] at e ⊢;exact h b o e
theorem zj {H:Hp} {p:Addr} {o:HO} (h:H p=none):Same H (upd H p o):=fun b u e=>by rw [zu (zy e h)];exact e
end L2
namespace HT
open PySem PyProof.Rows
section
open PySem.SeqAt
open PySem.AutoSeq1 (wpAny_loadPart')
open PySem.MeetsSeq PySem.MeetsSeq2 PySem.MeetsSeq3 PySem.SeqRoads2
theorem zba {vs:List Value} {ns:List Int} (h:IntsAre vs ns) {i:Nat} (hi:i<ns.length):∃ t,vs[i]?=some (.int (ns[i]) t):=by
 induction h generalizing i with
 | nil=>simp at hi
 | cons a t h ih =>
  cases i with
  | zero=>exact⟨t,rfl⟩
  | succ i =>
   obtain⟨t',e⟩:=ih (i:=i) (by simpa using hi)
   exact⟨t',by simpa using e⟩
theorem zdV (l b:Addr) (items items2:Array Value) (n n2:Nat) (dd dd2:Option Addr) (sl sl2:Array (Option Value)) (ns ms:List Int) (hi:IntsAre items.toList ns) (hj:IntsAre items2.toList ms) (k:Nat) :
  ∀ i:Nat,ns.length-i=k->i≤ns.length->i≤ms.length->Meets (Builtin.«list.__eq__.loop» ⟨[.ref l,.ref b,rawInt i,rawInt 0],[]⟩)
   (fun _ R s=>s.heap.get? l=some { cls:=.type "list",dict:=dd,data:=.seq items n,slots:=sl }∧s.heap.get? b=some { cls:=.type "list",dict:=dd2,data:=.seq items2 n2,slots:=sl2 } ∧
    R (.ok (.ret (.bool (lexLt (ns.drop i) (ms.drop i))))) s):=by
 have z1:items.size=ns.length:=by rw [← hi.length];simp
 have z2:items2.size=ms.length:=by rw [← hj.length];simp
 induction k with
 | zero =>
  intro i hk h1 h2 prog w A R s h
  obtain⟨hp,g,d,tk,os⟩:=s;obtain⟨hl,hb,h⟩:=h
  have hin:i=ns.length:=by omega
  wp_walk using wpAny_loadPart' hl,wpAny_loadPart' hb
  have hi1:items[((i:Nat):Int).toNat]?=none:=by simp;omega
  have hd:ns.drop i=[]:=by simp;omega
  rw [hd] at h
  rw [hi1]
  wp_walk using wpAny_loadPart' hl,wpAny_loadPart' hb
  show R (.ok (.ret (.bool (decide (items.size<items2.size))))) _
  have e:lexLt [] (ms.drop i)=decide (items.size<items2.size):=by
   cases q:ms.drop i with
   | nil =>
    rw [Yc]
    have:ms.length≤i:=by simpa using List.drop_eq_nil_iff.mp q
    exact (decide_eq_false (by omega)).symm
   | cons x y =>
    rw [Vs]
    have:i<ms.length:=by
     by_cases z:i<ms.length
     ·exact z
     ·rw [List.drop_of_length_le (by omega)] at q;cases q
    exact (decide_eq_true (by omega)).symm
  rw [← e]
  exact h
 | succ k ih =>
  intro i hk h1 h2 prog w A R s h
  obtain⟨hp,g,d,tk,os⟩:=s;obtain⟨hl,hb,h⟩:=h
  have hlt:i<ns.length:=by omega
  obtain⟨t,et⟩:=zba hi hlt
  have hi1:items[((i:Nat):Int).toNat]?=some (.int (ns[i]) t):=by simpa using et
  by_cases hm:i<ms.length
  ·obtain⟨u,eu⟩:=zba hj hm
   have hi2:items2[((i:Nat):Int).toNat]?=some (.int (ms[i]) u):=by simpa using eu
   wp_walk using wpAny_loadPart' hl,wpAny_loadPart' hb
   rw [List.drop_eq_getElem_cons hlt,List.drop_eq_getElem_cons hm,qy] at h
   have hc:((i:Int)+1)=((i+1:Nat):Int):=by push_cast;rfl
   rw [hi1,hi2]
   obtain⟨e,he,hiff⟩:=zc5 A.in1 ⟨hp,g,d,tk,os⟩ (ns[i]) t (ms[i]) u
   refine wpAny_bind (he prog w _ _ ?_)
   cases e with
   | true =>
    rw [if_pos (hiff.mp rfl)] at h
    wp_walk
    rw [hc]
    exact⟨plainId_quiet plain_eq_loop _,codeAny_builtin entry_eq_loop (by
     rw [Around.under_plainId plain_eq_loop _]
     exact ih (i+1) (by omega) (by omega) (by omega) prog w A R _ ⟨hl,hb,h⟩)⟩
   | false =>
    rw [if_neg (fun q=>absurd (hiff.mpr q) Bool.false_ne_true)] at h
    have hri:=zcx A.in1 ⟨hp,g,d,tk,os⟩ (ns[i]) t (ms[i]) u prog w
    wp_walk using wpAny_loadPart' hl,wpAny_loadPart' hb
    rw [hi1,hi2]
    wp_walk using hri
    simpa using h
  ·have hi2:items2[((i:Nat):Int).toNat]?=none:=by simp;omega
   wp_walk using wpAny_loadPart' hl,wpAny_loadPart' hb
   rw [List.drop_eq_getElem_cons hlt,List.drop_of_length_le (show ms.length≤i by omega),vL] at h
   rw [hi1,hi2]
   wp_walk using wpAny_loadPart' hl,wpAny_loadPart' hb
   show R (.ok (.ret (.bool (decide (items.size<items2.size))))) _
   rw [decide_eq_false (by omega)]
   exact h
theorem Xa (l b:Addr) (items items2:Array Value) (n n2:Nat) (dd dd2:Option Addr) (sl sl2:Array (Option Value)) (ns ms:List Int) (hi:IntsAre items.toList ns) (hj:IntsAre items2.toList ms) :
  Meets (Builtin.«list.__lt__» ⟨[.ref l,.ref b],[]⟩)
   (fun _ R s=>s.heap.get? l=some { cls:=.type "list",dict:=dd,data:=.seq items n,slots:=sl }∧s.heap.get? b=some { cls:=.type "list",dict:=dd2,data:=.seq items2 n2,slots:=sl2 } ∧
    R (.ok (.ret (.bool (lexLt ns ms)))) s):=by
 intro prog w A R s h
 obtain⟨hp,g,d,tk,os⟩:=s;obtain⟨hl,hb,h⟩:=h
 have f3:=AutoSeq1.sub_list_list
 wp_walk using wpAny_loadPart' hl,wpAny_loadPart' hb
 exact⟨plainId_quiet plain_eq_loop _,codeAny_builtin entry_eq_loop (by
  rw [Around.under_plainId plain_eq_loop _]
  exact zdV l b items items2 n n2 dd dd2 sl sl2 ns ms hi hj _ 0 rfl (Nat.zero_le _) (Nat.zero_le _) prog w A R _ ⟨hl,hb,by simpa using h⟩)⟩
end
section
variable {prog:Program} {w:World} {A:Around} {E:Value->Shared->Prop} {s:Shared}
theorem Wc {l b:Addr} {items items2:Array Value} {ns ms:List Int} {Q:Value->Shared->Prop} (hl:s.heap.IsList l items) (hb:s.heap.IsList b items2) (hi:IntsAre items.toList ns) (hj:IntsAre items2.toList ms)
  (hu:A.units<cLine) (h:Q (.bool (lexLt ns ms)) s):wpAny (model prog w) A (richCompare .Lt (.ref l) (.ref b)) Q E s:=by
 obtain⟨⟨cls,dd,data,sl⟩,ho,hc,n,hd⟩:=id hl
 obtain⟨⟨cls2,dd2,data2,sl2⟩,ho2,hc2,n2,hd2⟩:=id hb
 simp only at hc hd hc2 hd2
 subst hc hd hc2 hd2
 exact richCompare_meets_room (op:=.Lt) ⟨_,ho,rfl⟩ ⟨_,ho2,rfl⟩ PySem.F.slot_list_lt PySem.F.entry_list_lt (PySem.F.args_list_lt_2 _ _) (Xa l b items items2 n n2 dd dd2 sl sl2 ns ms hi hj)
  ⟨ho,ho2,show Value.bool (lexLt ns ms)≠Value.notImplemented∧Q (.bool (lexLt ns ms)) s from ⟨(fun x=>nomatch x),h⟩⟩ hu
end
open PySem PyProof.Rows PySem.W
def XF {α:Type} (c:Nat->Nat->Bool):KasT α->α
 | .ret a=>a
 | .ask i j k=>XF c (k (c i j))
def kin {α:Type} (n:Nat):KasT α->Bool
 | .ret _=>true
 | .ask i j k=>decide (i<n) && decide (j<n) && kin n (k true) && kin n (k false)
theorem QL {α:Type} {n:Nat} {c:Nat->Nat->Bool} {cmp:Nat->Nat->(Bool->Shared->Prop)->Shared->Prop} {s:Shared} {Q:α->Shared->Prop} (hc:∀ i j C,i<n->j<n->C (c i j) s->cmp i j C s) :
  ∀ t:KasT α,kin n t=true->Q (XF c t) s->t.kasWp cmp Q s
 | .ret a,_,q=>q
 | .ask i j k,h,q=>by
  unfold kin at h
  simp only [Bool.and_eq_true,decide_eq_true_eq] at h
  refine hc i j _ h.1.1.1 h.1.1.2 ?_
  have q':Q (XF c (k (c i j))) s:=q
  cases e:c i j with
  | true=>rw [e] at q';exact QL hc (k true) h.1.2 q'
  | false=>rw [e] at q';exact QL hc (k false) h.2 q'
theorem qu {α:Type} {n:Nat} {c d:Nat->Nat->Bool} (h:∀ i j,i<n->j<n->c i j=d i j):∀ t:KasT α,kin n t=true->XF c t=XF d t
 | .ret a,_=>rfl
 | .ask i j k,hk=>by
  unfold kin at hk
  simp only [Bool.and_eq_true,decide_eq_true_eq] at hk
  unfold XF
  rw [h i j hk.1.1.1 hk.1.1.2]
  cases d i j with
  | true=>exact qu h (k true) hk.1.2
  | false=>exact qu h (k false) hk.2
def tab (b:Nat->Nat->Bool) (i j:Nat):Bool:=if i<j then b i j else if j<i then !b j i else false
def Yd (n:Nat) (c:Nat->Nat->Bool) (p:List Nat):Bool:=p.isPerm (List.range n) && (List.range n).all fun i=>(List.range n).all fun j=>!decide (i<j) || c (p.getD i 0) (p.getD j 0)
def tr3 (n:Nat) (c:Nat->Nat->Bool):Bool:=(List.range n).all fun i=>(List.range n).all fun j=>(List.range n).all fun k=>!c i j || !c j k || c i k
def half (b01 b02 b03 b12 b13 b23:Bool) (i j:Nat):Bool:=match i,j with
 | 0,1=>b01 | 0,2=>b02 | 0,3=>b03 | 1,2=>b12 | 1,3=>b13 | 2,3=>b23 | _,_=>false
theorem zfw:kin 2 (kas_sort 2)=true:=by decide +kernel
theorem zfm:kin 3 (kas_sort 3)=true:=by decide +kernel
theorem zfa:kin 4 (kas_sort 4)=true:=by decide +kernel
theorem ze2:∀ b01:Bool,Yd 2 (tab (half b01 true true true true true)) (XF (tab (half b01 true true true true true)) (kas_sort 2)).toList=true:=by decide +kernel
theorem zfr:∀ b01 b02 b12:Bool,tr3 3 (tab (half b01 b02 true b12 true true))=true->Yd 3 (tab (half b01 b02 true b12 true true)) (XF (tab (half b01 b02 true b12 true true)) (kas_sort 3)).toList=true:=by decide +kernel
theorem zfG:∀ b01 b02 b03 b12 b13 b23:Bool,tr3 4 (tab (half b01 b02 b03 b12 b13 b23))=true->Yd 4 (tab (half b01 b02 b03 b12 b13 b23)) (XF (tab (half b01 b02 b03 b12 b13 b23)) (kas_sort 4)).toList=true:=by decide +kernel
theorem tO:∀ a:List Int,lexLt a a=false
 | []=>rfl
 | x :: a=>by rw [qy,if_pos rfl,tO a]
theorem Yk:∀ a b:List Int,a≠b->lexLt b a=!lexLt a b
 | [],[],h=>absurd rfl h
 | [],_ :: _,_=>rfl
 | _ :: _,[],_=>rfl
 | x :: a,y :: b,h=>by
  rw [qy,qy]
  by_cases e:x=y
  ·subst e
   rw [if_pos rfl,if_pos rfl]
   exact Yk a b fun z=>h (by rw [z])
  ·rw [if_neg e,if_neg (Ne.symm e),Bool.eq_iff_iff]
   simp
   omega
theorem ZJ:∀ a b c:List Int,lexLt a b=true->lexLt b c=true->lexLt a c=true
 | [],[],_,h,_=>by rw [Yc] at h;cases h
 | [],_ :: _,[],_,h=>by rw [vL] at h;cases h
 | [],_ :: _,_ :: _,_,_=>rfl
 | _ :: _,[],_,h,_=>by rw [vL] at h;cases h
 | _ :: _,_ :: _,[],_,h=>by rw [vL] at h;cases h
 | x :: a,y :: b,z :: c,h1,h2=>by
  rw [qy] at h1 h2 ⊢
  by_cases e1:x=y
  ·subst e1
   rw [if_pos rfl] at h1
   by_cases e2:x=z
   ·subst e2
    rw [if_pos rfl] at h2 ⊢
    exact ZJ a b c h1 h2
   ·rw [if_neg e2] at h2 ⊢;exact h2
  ·rw [if_neg e1] at h1
   have h1':=of_decide_eq_true h1
   by_cases e2:y=z
   ·subst e2
    rw [if_neg e1];exact h1
   ·rw [if_neg e2] at h2
    have h2':=of_decide_eq_true h2
    rw [if_neg (show x≠z by omega)]
    exact decide_eq_true (by omega)
theorem U4 {n:Nat} (hn:n≤4) {c:Nat->Nat->Bool} {b01 b02 b03 b12 b13 b23:Bool} (h01:1<n->b01=c 0 1) (h02:2<n->b02=c 0 2) (h03:3<n->b03=c 0 3) (h12:2<n->b12=c 1 2) (h13:3<n->b13=c 1 3) (h23:3<n->b23=c 2 3) :
  ∀ i j,i<j->j<n->half b01 b02 b03 b12 b13 b23 i j=c i j:=by
 intro i j h1 h2
 have hh:(i=0∧j=1)∨(i=0∧j=2)∨(i=0∧j=3)∨(i=1∧j=2)∨(i=1∧j=3)∨(i=2∧j=3):=by omega
 rcases hh with ⟨rfl,rfl⟩ | ⟨rfl,rfl⟩ | ⟨rfl,rfl⟩ | ⟨rfl,rfl⟩ | ⟨rfl,rfl⟩ | ⟨rfl,rfl⟩
 ·exact h01 h2
 ·exact h02 h2
 ·exact h03 h2
 ·exact h12 h2
 ·exact h13 h2
 ·exact h23 h2
theorem zdr {ls:List (List Int)} (nd:ls.Nodup) (h2:2≤ls.length) (h4:ls.length≤4) :
  kin ls.length (kas_sort ls.length)=true∧Yd ls.length (fun i j=>lexLt (ls.getD i []) (ls.getD j [])) (XF (fun i j=>lexLt (ls.getD i []) (ls.getD j [])) (kas_sort ls.length)).toList=true:=by
 generalize hc:(fun i j=>lexLt (ls.getD i []) (ls.getD j []))=c
 have cd:∀ i j,c i j=lexLt (ls.getD i []) (ls.getD j []):=fun i j=>by rw [← hc]
 have flip:∀ i j,i<ls.length->j<ls.length->i≠j->c j i=!c i j:=fun i j hi hj hij=>by
  rw [cd,cd]
  refine Yk _ _ fun e=>hij ?_
  have e1:ls.getD i []=ls[i]:=by rw [List.getD_eq_getElem?_getD,List.getElem?_eq_getElem hi];rfl
  have e2:ls.getD j []=ls[j]:=by rw [List.getD_eq_getElem?_getD,List.getElem?_eq_getElem hj];rfl
  rw [e1,e2] at e
  exact (List.getElem_inj nd).mp e
 have tabc:∀ b:Nat->Nat->Bool,(∀ i j,i<j->j<ls.length->b i j=c i j)->∀ i j,i<ls.length->j<ls.length->tab b i j=c i j:=fun b hb i j hi hj=>by
  unfold tab
  by_cases h:i<j
  ·rw [if_pos h,hb i j h hj]
  ·rw [if_neg h]
   by_cases h':j<i
   ·rw [if_pos h',hb j i h' hi,flip j i hj hi (by omega)]
   ·rw [if_neg h']
    have:i=j:=by omega
    subst this
    rw [cd,tO]
 have outc:∀ (b:Nat->Nat->Bool) (p:List Nat),(∀ i j,i<ls.length->j<ls.length->tab b i j=c i j)->Yd ls.length (tab b) p=true->Yd ls.length c p=true:=fun b p hb h=>by
  unfold Yd at h ⊢
  rw [Bool.and_eq_true] at h ⊢
  refine⟨h.1,?_⟩
  have pm:=List.isPerm_iff.mp h.1
  have hl:p.length=ls.length:=by rw [pm.length_eq,List.length_range]
  rw [List.all_eq_true] at h ⊢
  intro i hi
  have q:=h.2 i hi
  rw [List.all_eq_true] at q ⊢
  intro j hj
  have q2:=q j hj
  have hi':=List.mem_range.mp hi
  have hj':=List.mem_range.mp hj
  have m:∀ k,k<ls.length->p.getD k 0<ls.length:=fun k hk=>by
   have e:p.getD k 0=p[k]'(by omega):=by rw [List.getD_eq_getElem?_getD,List.getElem?_eq_getElem (by omega)];rfl
   rw [e]
   exact List.mem_range.mp (pm.mem_iff.mp (List.getElem_mem _))
  rw [hb _ _ (m i hi') (m j hj')] at q2
  exact q2
 have trc:∀ (b:Nat->Nat->Bool),(∀ i j,i<ls.length->j<ls.length->tab b i j=c i j)->tr3 ls.length (tab b)=true:=fun b hb=>by
  unfold tr3
  simp only [List.all_eq_true,List.mem_range]
  intro i hi j hj k hk
  rw [hb i j hi hj,hb j k hj hk,hb i k hi hk]
  cases e1:c i j
  ·rfl
  ·cases e2:c j k
   ·rfl
   ·rw [cd] at e1 e2
    rw [cd,ZJ _ _ _ e1 e2];rfl
 have hn:ls.length=2∨ls.length=3∨ls.length=4:=by omega
 rcases hn with hn | hn | hn
 ·rw [hn] at tabc outc trc ⊢
  have t:=tabc (half (c 0 1) true true true true true) (U4 (by decide) (fun _=>rfl) (fun z=>by omega) (fun z=>by omega) (fun z=>by omega) (fun z=>by omega) (fun z=>by omega))
  refine⟨zfw,?_⟩
  rw [qu (fun i j hi hj=>(t i j hi hj).symm) _ zfw]
  exact outc _ _ t (ze2 _)
 ·rw [hn] at tabc outc trc ⊢
  have t:=tabc (half (c 0 1) (c 0 2) true (c 1 2) true true) (U4 (by decide) (fun _=>rfl) (fun _=>rfl) (fun z=>by omega) (fun _=>rfl) (fun z=>by omega) (fun z=>by omega))
  refine⟨zfm,?_⟩
  rw [qu (fun i j hi hj=>(t i j hi hj).symm) _ zfm]
  exact outc _ _ t (zfr _ _ _ (trc _ t))
 ·rw [hn] at tabc outc trc ⊢
  have t:=tabc (half (c 0 1) (c 0 2) (c 0 3) (c 1 2) (c 1 3) (c 2 3)) (U4 (by decide) (fun _=>rfl) (fun _=>rfl) (fun _=>rfl) (fun _=>rfl) (fun _=>rfl) (fun _=>rfl))
  refine⟨zfa,?_⟩
  rw [qu (fun i j hi hj=>(t i j hi hj).symm) _ zfa]
  exact outc _ _ t (zfG _ _ _ _ _ _ (trc _ t))
end HT
namespace L2
open PySem PySem.Spec PyProof.Rows
section
variable {X:Cx}
def zf0 (K:PySem.W.Frag):R2:=fun x y H Q=>∃ (a b:Addr) (ns ms:List Int),x=.ref a∧y=.ref b∧SqL K H a (ns.map V.int)∧SqL K H b (ms.map V.int)∧Q (.bl (HT.lexLt ns ms)) H
theorem zfd (K:PySem.W.Frag) (hu:X.A.units+64<cLine) (e:X.K=K:=by rfl):OpR X (compareOp .Lt) (zf0 K):=by
 subst e
 intro pins s σ H x y v u Q I rx ry h
 obtain⟨a,b,ns,ms,rfl,rfl,ha,hb,q⟩:=h
 cases rx
 cases ry
 obtain⟨its,r1,p1,_⟩:=I.list ha
 obtain⟨its2,r2,p2,_⟩:=I.list hb
 exact HT.Wc p1.isList p2.isList (intsAre_of r1) (intsAre_of r2) (by omega) ⟨.bl (HT.lexLt ns ms),H,I,rfl,q⟩
end
end L2
namespace HT
open PySem PyProof.Rows PySem.W
section
variable {prog:Program} {w:World} {A:Around} {E:Value->Shared->Prop} {s:Shared}
theorem zen {l b:Addr} {items items2:Array Value} {ns ms:List Int} {Q:Bool->Shared->Prop} (hl:s.heap.IsList l items) (hb:s.heap.IsList b items2) (hi:IntsAre items.toList ns) (hj:IntsAre items2.toList ms) (hu:A.units+1<cLine)
  (h:Q (lexLt ns ms) s):wpAny (model prog w) A (keyLt' oneType' (.ref l) (.ref b)) Q E s:=by
 obtain⟨⟨cls,dd,data,sl⟩,ho,hc,n,hd⟩:=id hl
 obtain⟨⟨cls2,dd2,data2,sl2⟩,ho2,hc2,n2,hd2⟩:=id hb
 simp only at hc hd hc2 hd2
 subst hc hd hc2 hd2
 rw [keyLt'_oneType,oneLt'_eq]
 simp only [if_true]
 refine wpAny_bind (wpAny_cRoomFor (by omega) (wpAny_bind (wpAny_callSpecialIfBound?_slot (T:="list") (name:="__lt__") ⟨_,ho,rfl⟩ PySem.F.slot_list_lt
  (call_meets PySem.F.slot_list_lt ⟨_,ho,rfl⟩ PySem.F.entry_list_lt (PySem.F.args_list_lt_2 _ _) (Xa l b items items2 n n2 dd dd2 sl sl2 ns ms hi hj) ⟨ho,ho2,?_⟩))))
 exact wpAny_truthy_bool h
theorem Ug {α:Type} (d:α) (zs:List α) {p:List Nat} (h:p.Perm (List.range zs.length)):(p.map fun i=>zs.getD i d).Perm zs:=by
 have e:(List.range zs.length).map (fun i=>zs.getD i d)=zs:=by
  apply List.ext_getElem?
  intro i
  rw [List.getElem?_map]
  by_cases hi:i<zs.length
  ·rw [List.getElem?_range hi,Option.map_some,List.getD_eq_getElem?_getD,List.getElem?_eq_getElem hi];rfl
  ·rw [List.getElem?_eq_none (by simpa using hi),List.getElem?_eq_none (by omega)];rfl
 have q:=h.map fun i=>zs.getD i d
 rw [e] at q
 exact q
theorem JS {a:Addr} {zs:List (Addr×List Int)} {n0:Nat} {P:Fin->Shared->Prop} (ho:s.heap.get? a=some (seqObj "list" (zs.map fun z=>Value.ref z.1).toArray n0))
  (hz:∀ z∈zs,z.1≠a∧∃ its:List Value,s.heap.IsList z.1 its.toArray∧IntsAre its z.2) (nd:(zs.map (·.2)).Nodup) (h4:zs.length≤4) (hu:A.units+1<cLine)
  (h:∀ zs':List (Addr×List Int),zs'.Perm zs->zs'.Pairwise (fun x y=>lexLt x.2 y.2=true)->P (.done (.ret .none)) { s with heap:=sortedHeap s.heap a (zs.map fun z=>Value.ref z.1) (zs'.map fun z=>Value.ref z.1).toArray }) :
  wpAny (model prog w) A (Builtin.«list.sort» ⟨[.ref a],[]⟩) P E s:=by
 rw [list_sort_plain]
 generalize hvs:(zs.map fun z=>Value.ref z.1)=vs at ho h ⊢
 have hvl:vs.length=zs.length:=by rw [← hvs,List.length_map]
 have hsl:vs.length≤sizeLine:=by rw [hvl,sizeLine_eq];omega
 have ha:a<s.heap.objs.size:=Heap.lt_size ho
 obtain⟨e1,ho1⟩:∃ e1,(s.heap.update a (Obj.mapSeq fun _=>#[])).get? a=some (seqObj "list" #[] e1):=⟨_,get?_update_seq ho (fun _=>#[])⟩
 refine wpAny_bind (listItems_at ho rfl (wpAny_bind (listUpdate_at ho rfl (wpAny_bind (seqEpoch_at ho1 rfl (wpAny_bind (wpAny_newTuple (wpAny_bind (wpAny_newList (wpAny_holding ?_) (Nat.zero_le _))) (by show vs.length≤_;exact hsl))))) (by rw [List.size_toArray];exact hsl) (Nat.zero_le _))))
 generalize hG:(((s.heap.update a (Obj.mapSeq fun _=>(#[]:Array Value))).push (seqObj "tuple" vs.toArray 0)).push (seqObj "list" #[] 0))=G
 have ho6:G.get? a=some (seqObj "list" #[] e1):=by
  rw [← hG,Heap.get?_push_ne _ _ _ (by rw [size_push',Heap.size_update];exact Nat.ne_of_lt (Nat.lt_succ_of_lt ha)),Heap.get?_push_ne _ _ _ (by rw [Heap.size_update];exact Nat.ne_of_lt ha)];exact ho1
 have keep:∀ b o,b≠a->s.heap.get? b=some o->G.get? b=some o:=fun b o hb e=>by
  have hlt:=Heap.lt_size e
  rw [← hG,Heap.get?_push_ne _ _ _ (by rw [size_push',Heap.size_update];exact Nat.ne_of_lt (Nat.lt_succ_of_lt hlt)),Heap.get?_push_ne _ _ _ (by rw [Heap.size_update];exact Nat.ne_of_lt hlt),Heap.get?_update_other _ _ (Ne.symm hb)];exact e
 show wpAny (model prog w) A _ P E { s with heap:=G }
 dsimp only
 by_cases h2:vs.toArray.size<2
 ·rw [if_pos h2,if_pos h2]
  refine wpAny_bind (wpAny_pure ?_)
  rw [StateT.run_pure]
  refine wpAny_bind (wpAny_pure ?_)
  dsimp only
  have hout:(arrOf (SortSt.mk' general' (vs.toArray.zip vs.toArray) #[] 7 none)).map (·.2)=vs.toArray:=by
   show (vs.toArray.zip vs.toArray).map (·.2)=vs.toArray
   apply Array.toList_inj.mp
   rw [Array.toList_map,Array.toList_zip,List.map_snd_zip (by simp)]
  rw [hout]
  refine wpAny_bind (seqEpoch_at ho6 rfl (wpAny_bind (listUpdate_at ho6 rfl ?_ (Nat.zero_le _) (by rw [List.size_toArray];exact Nat.le_succ_of_le hsl))))
  have q:=h zs (List.Perm.refl _) (by
   rw [List.size_toArray,hvl] at h2
   match zs,h2 with
   | [],_=>exact .nil
   | [_],_=>exact List.pairwise_singleton _ _)
  rw [hvs] at q
  simp only [bne_self_eq_false,Bool.false_eq_true,if_false]
  have e2:G.update a (Obj.mapSeq fun _=>vs.toArray)=sortedHeap s.heap a vs vs.toArray:=by rw [← hG];rfl
  rw [e2]
  exact wpAny_pure q
 ·rw [if_neg h2,if_neg h2]
  rw [List.size_toArray,hvl] at h2
  have ls2:(zs.map (·.2)).length=zs.length:=List.length_map ..
  obtain⟨hkin,hok⟩:=zdr nd (by rw [ls2];omega) (by rw [ls2];exact h4)
  rw [ls2] at hkin hok
  generalize hcd:(fun i j=>lexLt ((zs.map (·.2)).getD i []) ((zs.map (·.2)).getD j []))=c at hok
  have gz:∀ i,i<zs.length->vs.getD i Value.none=.ref (zs.getD i (0,[])).1∧(zs.map (·.2)).getD i []=(zs.getD i (0,[])).2∧zs.getD i (0,[])∈zs:=fun i hi=>by
   have e:zs.getD i (0,[])=zs[i]:=by rw [List.getD_eq_getElem?_getD,List.getElem?_eq_getElem hi];rfl
   rw [e]
   refine⟨?_,?_,List.getElem_mem _⟩
   ·rw [← hvs,List.getD_eq_getElem?_getD,List.getElem?_map,List.getElem?_eq_getElem hi];rfl
   ·rw [List.getD_eq_getElem?_getD,List.getElem?_map,List.getElem?_eq_getElem hi];rfl
  refine wpAny_bind (kas_kind (T:=.type "list") (by rw [hvl];omega) (fun v hv=>?_) (by decide) (by decide) ?_)
  ·rw [← hvs] at hv
   obtain⟨z,hzm,rfl⟩:=List.mem_map.mp hv
   obtain⟨hza,its,hl,_⟩:=hz z hzm
   obtain⟨o,e,hcl,_⟩:=hl
   intro A' Q' E' s' k q
   exact wpAny_typeOf (T:="list") ⟨o,k _ _ (keep _ _ hza e),hcl⟩ q
  have est:SortSt.mk' oneType' (vs.toArray.zip vs.toArray) #[] 7 none=kas_st oneType' (pairsOf vs) (List.toArray (List.range vs.length)):=by
   have e:=kas_range (pairsOf vs)
   rw [pairsOf_size] at e
   unfold kas_st;rw [e];rfl
  have ask:(kas_sort vs.length).kasWp (kas_cmp prog w A oneType' (pairsOf vs)) (fun p s'=>s'={ s with heap:=G }∧p=XF c (kas_sort zs.length)) { s with heap:=G }:=by
   rw [hvl,← kas_ask_eq]
   refine QL (n:=zs.length) (c:=c) (fun i j C hi hj hC=>?_) _ hkin ⟨rfl,rfl⟩
   obtain⟨a1,a2,a3⟩:=gz i hi
   obtain⟨b1,b2,b3⟩:=gz j hj
   obtain⟨hza,its,hl,hI⟩:=hz _ a3
   obtain⟨hzb,its2,hl2,hI2⟩:=hz _ b3
   unfold kas_ask
   rw [a1,b1]
   refine zen (s:={ s with heap:=G }) (hl.at fun o e=>keep _ o hza e) (hl2.at fun o e=>keep _ o hzb e) (by simpa using hI) (by simpa using hI2) hu ?_
   rw [← hcd] at hC
   simp only [a2,b2] at hC
   exact hC
  have run:=kas_runs (E:=E) (Q:=fun _ st' s'=>s'={ s with heap:=G }∧arrOf st'=(XF c (kas_sort zs.length)).map (kas_item (pairsOf vs))∧failedOf st'=none) (by rw [hvl];omega) (by rw [hvl];omega)
   (fun p' st' s' a1 a2 a3 a4=>⟨a4.1,by rw [a2,a4.2],a3⟩) ask
  rw [← est] at run
  refine wpAny_bind (wpAny_mono run ?_ fun _ _ e=>e)
  rintro⟨⟨⟩,st'⟩ s' ⟨rfl,har,hf⟩
  dsimp only
  generalize hp:XF c (kas_sort zs.length)=p at har hok
  have hout:(arrOf st').map (·.2)=((p.toList.map fun i=>zs.getD i (0,[])).map fun z=>Value.ref z.1).toArray:=by
   apply Array.toList_inj.mp
   rw [har,Array.map_map,Array.toList_map,List.map_map]
   refine List.map_congr_left fun i hi=>?_
   show (kas_item (pairsOf vs) i).2=_
   rw [kas_item_eq]
   unfold Yd at hok
   rw [Bool.and_eq_true] at hok
   exact (gz i (List.mem_range.mp ((List.isPerm_iff.mp hok.1).mem_iff.mp hi))).1
  rw [hout]
  have pm:p.toList.Perm (List.range zs.length):=by
   unfold Yd at hok
   rw [Bool.and_eq_true] at hok
   exact List.isPerm_iff.mp hok.1
  have q:=h (p.toList.map fun i=>zs.getD i (0,[])) (Ug _ zs pm) (by
   rw [List.pairwise_map,List.pairwise_iff_getElem]
   intro i j hi hj hij
   have hpl:p.toList.length=zs.length:=by rw [pm.length_eq,List.length_range]
   unfold Yd at hok
   simp only [Bool.and_eq_true,List.all_eq_true,List.mem_range] at hok
   have q1:=hok.2 i (by omega) j (by omega)
   rw [decide_eq_true hij] at q1
   have e1:p.toList.getD i 0=p.toList[i]:=by rw [List.getD_eq_getElem?_getD,List.getElem?_eq_getElem hi];rfl
   have e2:p.toList.getD j 0=p.toList[j]:=by rw [List.getD_eq_getElem?_getD,List.getElem?_eq_getElem hj];rfl
   rw [e1,e2,← hcd] at q1
   have m1:=List.mem_range.mp (pm.mem_iff.mp (List.getElem_mem hi))
   have m2:=List.mem_range.mp (pm.mem_iff.mp (List.getElem_mem hj))
   rw [← (gz _ m1).2.1,← (gz _ m2).2.1]
   simpa using q1)
  have hol:((p.toList.map fun i=>zs.getD i (0,[])).map fun z=>Value.ref z.1).length=zs.length:=by rw [List.length_map,List.length_map,pm.length_eq,List.length_range]
  refine wpAny_bind (seqEpoch_at ho6 rfl (wpAny_bind (listUpdate_at ho6 rfl ?_ (Nat.zero_le _) (by rw [List.size_toArray,hol];rw [hvl] at hsl;exact Nat.le_succ_of_le hsl))))
  rw [hf]
  simp only [bne_self_eq_false,Bool.false_eq_true,if_false]
  have e2:∀ out:Array Value,G.update a (Obj.mapSeq fun _=>out)=sortedHeap s.heap a vs out:=fun out=>by rw [← hG];rfl
  rw [e2]
  exact wpAny_pure q
theorem zdl {l:Addr} {zs:List (Addr×List Int)} {Q:Value->Shared->Prop} (hl:s.heap.IsList l (zs.map fun z=>Value.ref z.1).toArray) (hz:∀ z∈zs,∃ its:List Value,s.heap.IsList z.1 its.toArray∧IntsAre its z.2) (nd:(zs.map (·.2)).Nodup) (h4:zs.length≤4) (hu:A.units+8<cLine)
  (h:∀ zs':List (Addr×List Int),zs'.Perm zs->zs'.Pairwise (fun x y=>lexLt x.2 y.2=true)->Q (.ref (s.heap.objs.size+1)) { s with heap:=sortedAll s.heap (zs.map fun z=>Value.ref z.1) (zs'.map fun z=>Value.ref z.1).toArray }) :
  wpAny (model prog w) A (call (.builtin "sorted") [.ref l]) Q E s:=by
 have hsl:(zs.map fun z=>Value.ref z.1).length≤sizeLine:=by rw [List.length_map,sizeLine_eq];omega
 refine Calls.call_function_entry kind_sorted plain_sorted entry_sorted (args_sorted1 _) ?_
 unfold Builtin.«sorted»
 refine wpAny_bind (m:=checkCount "sorted" 1 1 _) (wpAny_pure (wpAny_bind (collect_list hl (wpAny_bind (wpAny_newList ?_ hsl)) hsl)))
 generalize hB:(s.heap.push (seqObj "list" #[] 0)).update s.heap.objs.size (Obj.mapSeq (·++(zs.map fun z=>Value.ref z.1).toArray))=B
 have hsz:B.objs.size=s.heap.objs.size+1:=by rw [← hB,Heap.size_update,size_push']
 have keep:∀ b o,s.heap.get? b=some o->(B.push (seqObj "list" (zs.map fun z=>Value.ref z.1).toArray 0)).get? b=some o:=fun b o q=>by
  have hlt:b<s.heap.objs.size:=Heap.lt_size q
  rw [Heap.get?_push_ne _ _ _ (by rw [hsz];exact Nat.ne_of_lt (Nat.lt_succ_of_lt hlt)),← hB,Heap.get?_update_ne _ _ _ _ (Nat.ne_of_lt hlt),Heap.get?_push_ne _ _ _ (Nat.ne_of_lt hlt)];exact q
 have hoL:(B.push (seqObj "list" (zs.map fun z=>Value.ref z.1).toArray 0)).get? (s.heap.objs.size+1)=some (seqObj "list" (zs.map fun z=>Value.ref z.1).toArray 0):=by
  rw [← hsz];exact Heap.get?_push_size _ rfl
 show wpAny _ _ _ _ _ { s with heap:=B.push (seqObj "list" (zs.map fun z=>Value.ref z.1).toArray 0) }
 dsimp only
 rw [hsz]
 refine wpAny_bind (wpAny_holding (wpAny_call_entry slot_list_sort ⟨_,hoL,rfl⟩ entry_list_sort (JS (A:=A.in1.in1) (s:={ s with heap:=B.push (seqObj "list" (zs.map fun z=>Value.ref z.1).toArray 0) }) hoL (fun z hzm=>?_) nd h4 (by show A.units+1+1+1<cLine;omega) fun zs' a1 a2=>⟨_,rfl,?_⟩) (args_list_sort _)))
 ·obtain⟨its,hl',hI⟩:=hz z hzm
  obtain⟨o,e,_⟩:=id hl'
  exact⟨Nat.ne_of_lt (Nat.lt_succ_of_lt (Heap.lt_size e)),its,hl'.at fun o e=>keep _ o e,hI⟩
 ·have q:=h zs' a1 a2
  have e2:sortedHeap (B.push (seqObj "list" (zs.map fun z=>Value.ref z.1).toArray 0)) (s.heap.objs.size+1) (zs.map fun z=>Value.ref z.1) (zs'.map fun z=>Value.ref z.1).toArray=sortedAll s.heap (zs.map fun z=>Value.ref z.1) (zs'.map fun z=>Value.ref z.1).toArray:=by rw [← hB];rfl
  show wpAny _ _ _ _ _ { s with heap:=sortedHeap (B.push (seqObj "list" (zs.map fun z=>Value.ref z.1).toArray 0)) (s.heap.objs.size+1) (zs.map fun z=>Value.ref z.1) (zs'.map fun z=>Value.ref z.1).toArray }
  rw [e2]
  exact wpAny_pure ⟨_,rfl,q⟩
end
end HT
namespace L2
open PySem PySem.Spec PyProof.Rows
section
variable {X:Cx}
def zeF (K:PySem.W.Frag):List V->Hp->VK->Prop:=fun xs H Q=>∃ (a:Addr) (zs:List (Addr×List Int)),xs=[.ref a]∧SqL K H a (zs.map fun z=>V.ref z.1)∧zs.length≤4∧(∀ z∈zs,SqL K H z.1 (z.2.map V.int))∧(zs.map (·.2)).Nodup ∧
 ∀ (p:Addr) (zs':List (Addr×List Int)),H p=none->zs'.Perm zs->zs'.Pairwise (fun x y=>HT.lexLt x.2 y.2=true)->Q (.ref p) (upd H p (.lst (zs'.map fun z=>V.ref z.1)))
theorem XQ:∀ {zs:List (Addr×List Int)} {its:List Value},Vals (zs.map fun z=>V.ref z.1) its->its=zs.map fun z=>Value.ref z.1
 | [],its,h=>by cases h;rfl
 | z :: zs,its,h=>by
  cases h with
  | cons r t=>rw [XQ t];cases r;rfl
theorem Xz:∀ (zs:List (Addr×List Int)),Vals (zs.map fun z=>V.ref z.1) (zs.map fun z=>Value.ref z.1)
 | []=>.nil
 | z :: zs=>.cons rfl (Xz zs)
theorem zaV (K:PySem.W.Frag) (hu:X.A.units+64<cLine) (e:X.K=K:=by rfl):wy X (.builtin "sorted") (zeF K):=by
 subst e
 intro pins s σ H xs us Q I r h
 obtain⟨a,zs,rfl,ha,h4,hz,nd,q⟩:=h
 obtain⟨u,rfl,rx⟩:=vals1 r
 cases rx
 obtain⟨its,r1,p1,_⟩:=I.list ha
 have e1:=XQ r1
 subst e1
 refine HT.zdl p1.isList (fun z hzm=>?_) nd h4 (by omega) fun zs' pm pw=>?_
 ·obtain⟨its,r2,p2,_⟩:=I.list (hz z hzm)
  exact⟨its,p2.isList,by simpa using intsAre_of r2⟩
 ·obtain⟨c,hat⟩:=sortedAll_at s.heap (zs.map fun z=>Value.ref z.1) (zs'.map fun z=>Value.ref z.1).toArray
  have hfree:H (s.heap.objs.size+1)=none:=I.hok.fresh (Nat.le_succ _)
  refine⟨.ref (s.heap.objs.size+1),_,I.laid (t':=s.toks) (o:=.lst (zs'.map fun z=>V.ref z.1)) (fun b o e=>sortedAll_old e) (Nat.le_succ _) ?_,rfl,q _ zs' hfree pm pw⟩
  exact⟨by rw [List.length_map,pm.length_eq];exact Nat.le_trans h4 (by decide),_,c,Xz zs',hat⟩
end
end L2
namespace HT
open PySem PyProof.Rows PySem.W
def KW {α:Type} (c:Nat->Nat->Bool) (n:Nat):KasT α->(α->Prop)->Prop
 | .ret a,Q=>Q a
 | .ask i j k,Q=>i<n∧j<n∧KW c n (k (c i j)) Q
theorem KW.bind {α β:Type} {c:Nat->Nat->Bool} {n:Nat} {f:α->KasT β} {Q:β->Prop}:∀ {t:KasT α},KW c n t (fun a=>KW c n (f a) Q)->KW c n (t.bind f) Q
 | .ret _,h=>h
 | .ask _ _ k,h=>⟨h.1,h.2.1,KW.bind (t:=k _) h.2.2⟩
theorem KW.mono {α:Type} {c:Nat->Nat->Bool} {n:Nat} {Q Q':α->Prop} (hq:∀ a,Q a->Q' a):∀ {t:KasT α},KW c n t Q->KW c n t Q'
 | .ret a,h=>hq a h
 | .ask _ _ k,h=>⟨h.1,h.2.1,KW.mono hq (t:=k _) h.2.2⟩
theorem KW.wp {α:Type} {n:Nat} {c:Nat->Nat->Bool} {cmp:Nat->Nat->(Bool->Shared->Prop)->Shared->Prop} {s:Shared} {Q:α->Prop} (hc:∀ i j C,i<n->j<n->C (c i j) s->cmp i j C s) :
  ∀ t:KasT α,KW c n t Q->t.kasWp cmp (fun a s'=>s'=s∧Q a) s
 | .ret _,h=>⟨rfl,h⟩
 | .ask i j k,h=>hc i j _ h.1 h.2.1 (KW.wp hc (k (c i j)) h.2.2)
structure Ord (c:Nat->Nat->Bool) (n:Nat):Prop where
 tr:∀ i j k,i<n->j<n->k<n->c i j=true->c j k=true->c i k=true
 tot:∀ i j,i<n->j<n->i≠j->c i j=false->c j i=true
 asy:∀ i j,i<n->j<n->c i j=true->c j i=false
structure Pm (n:Nat) (p:Array Nat):Prop where
 sz:p.size=n
 pm:p.toList.Perm (List.range n)
theorem Pm.lt {n:Nat} {p:Array Nat} (h:Pm n p) (i:Nat) (hi:i<n):p.getD i 0<n:=by
 have hs:=h.sz
 have e:p.getD i 0=p[i]:=by simp [Array.getD,hs,hi]
 rw [e]
 exact List.mem_range.mp (h.pm.mem_iff.mp (by simp))
theorem Pm.ne {n:Nat} {p:Array Nat} (h:Pm n p) {i j:Nat} (hi:i<n) (hj:j<n) (hij:i≠j):p.getD i 0≠p.getD j 0:=by
 have hs:=h.sz
 have e1:p.getD i 0=p.toList[i]'(by simp [hs,hi]):=by simp [Array.getD,hs,hi]
 have e2:p.getD j 0=p.toList[j]'(by simp [hs,hj]):=by simp [Array.getD,hs,hj]
 rw [e1,e2]
 have nd:p.toList.Nodup:=h.pm.nodup_iff.mpr List.nodup_range
 intro z
 exact hij ((List.getElem_inj nd).mp z)
theorem Pm.of {n:Nat} {p q:Array Nat} (h:Pm n p) (z:q.Perm p):Pm n q:=⟨by rw [z.size_eq];exact h.sz,(Array.perm_iff_toList_perm.mp z).trans h.pm⟩
def Up (c:Nat->Nat->Bool) (p:Array Nat) (m:Nat):Prop:=∀ i j,i<j->j<m->c (p.getD i 0) (p.getD j 0)=true
def Dn (c:Nat->Nat->Bool) (p:Array Nat) (m:Nat):Prop:=∀ i j,i<j->j<m->c (p.getD j 0) (p.getD i 0)=true
section
variable {c:Nat->Nat->Bool} {n:Nat}
theorem zak (O:Ord c n) {p:Array Nat} (hp:Pm n p):∀ (f m:Nat),1≤m->m+f≤n->Up c p m->KW c n (kas_asc p f m) (fun r=>m≤r∧r≤m+f∧Up c p r∧(r<m+f->c (p.getD r 0) (p.getD (r-1) 0)=true))
 | 0,m,_,_,u=>⟨Nat.le_refl _,Nat.le_refl _,u,fun z=>absurd z (Nat.lt_irrefl _)⟩
 | f+1,m,h1,h2,u=>by
  refine⟨hp.lt m (by omega),hp.lt (m-1) (by omega),?_⟩
  cases e:c (p.getD m 0) (p.getD (m-1) 0) with
  | true=>exact⟨Nat.le_refl _,by omega,u,fun _=>e⟩
  | false =>
   have hs:c (p.getD (m-1) 0) (p.getD m 0)=true:=O.tot _ _ (hp.lt m (by omega)) (hp.lt (m-1) (by omega)) (hp.ne (by omega) (by omega) (by omega)) e
   have u':Up c p (m+1):=fun i j hij hj=>by
    by_cases hjm:j<m
    ·exact u i j hij hjm
    ·have ej:j=m:=by omega
     subst ej
     by_cases hi:i=j-1
     ·rw [hi];exact hs
     ·exact O.tr _ _ _ (hp.lt i (by omega)) (hp.lt (j-1) (by omega)) (hp.lt j (by omega)) (u i (j-1) (by omega) (by omega)) hs
   refine KW.mono (fun r h=>?_) (zak O hp f (m+1) (by omega) (by omega) u')
   exact⟨by omega,by omega,h.2.2.1,fun z=>h.2.2.2 (by omega)⟩
theorem zaP (O:Ord c n) {p:Array Nat} (hp:Pm n p):∀ (f m:Nat),1≤m->m+f≤n->Dn c p m->KW c n (kas_desc f p m 0) (fun r=>r.1=p∧r.2.2=0∧m≤r.2.1∧r.2.1≤m+f∧Dn c p r.2.1)
 | 0,m,_,_,u=>⟨rfl,rfl,Nat.le_refl _,Nat.le_refl _,u⟩
 | f+1,m,h1,h2,u=>by
  refine⟨hp.lt m (by omega),hp.lt (m-1) (by omega),?_⟩
  cases e:c (p.getD m 0) (p.getD (m-1) 0) with
  | true =>
   have u':Dn c p (m+1):=fun i j hij hj=>by
    by_cases hjm:j<m
    ·exact u i j hij hjm
    ·have ej:j=m:=by omega
     subst ej
     by_cases hi:i=j-1
     ·rw [hi];exact e
     ·exact O.tr _ _ _ (hp.lt j (by omega)) (hp.lt (j-1) (by omega)) (hp.lt i (by omega)) e (u i (j-1) (by omega) (by omega))
   refine KW.mono (fun r h=>?_) (zaP O hp f (m+1) (by omega) (by omega) u')
   exact⟨h.1,h.2.1,by omega,by omega,h.2.2.2.2⟩
  | false =>
   have hs:c (p.getD (m-1) 0) (p.getD m 0)=true:=O.tot _ _ (hp.lt m (by omega)) (hp.lt (m-1) (by omega)) (hp.ne (by omega) (by omega) (by omega)) e
   refine⟨hp.lt (m-1) (by omega),hp.lt m (by omega),?_⟩
   rw [hs]
   exact⟨rfl,rfl,Nat.le_refl _,(show m≤m+(f+1) by omega),u⟩
theorem rev_getD {p:Array Nat} {m:Nat} (hm:m≤p.size) (k:Nat):(kas_rev p 0 m).getD k 0=if k<m then p.getD (m-1-k) 0 else p.getD k 0:=by
 have q:=getElem?_mirror_all (xs:=p) (i:=0) hm k
 have e:∀ (a:Array Nat) (j:Nat),a.getD j 0=(a[j]?).getD 0:=fun a j=>by simp [Array.getD_eq_getD_getElem?]
 unfold kas_rev
 rw [e,q]
 by_cases h:k<m
 ·rw [if_pos ⟨Nat.zero_le _,h⟩,if_pos h,e,Nat.zero_add]
 ·rw [if_neg (by omega),if_neg h,e]
theorem zb2 (O:Ord c n) {p:Array Nat} (hp:Pm n p) {m:Nat} (h1:1≤m) (h2:m≤n) (u:Dn c p m):KW c n (kas_tail3 m n p) (fun r=>1≤r.1∧r.1≤n∧Pm n r.2∧Up c r.2 r.1):=by
 have hr:Pm n (kas_rev p 0 m):=hp.of (mirror_perm _ _ _ _)
 have hsz:m≤p.size:=by rw [hp.sz];exact h2
 have u':Up c (kas_rev p 0 m) m:=fun i j hij hj=>by
  rw [rev_getD hsz,rev_getD hsz,if_pos (by omega),if_pos hj]
  exact u _ _ (by omega) (by omega)
 refine KW.bind (KW.mono (fun r h=>?_) (zak O hr (n-m) m h1 (by omega) u'))
 exact⟨by omega,by omega,hr,h.2.2.1⟩
theorem zcA (O:Ord c n) {p:Array Nat} (hp:Pm n p) (h2:2≤n):KW c n (kas_count n p) (fun r=>1≤r.1∧r.1≤n∧Pm n r.2∧Up c r.2 r.1):=by
 refine KW.bind (KW.mono (fun r h=>?_) (zak O hp (n-1) 1 (Nat.le_refl _) (by omega) (fun i j hij hj=>by omega)))
 obtain⟨h1,h3,u,st⟩:=h
 by_cases e:r=n
 ·subst e
  rw [if_pos (by simp)]
  exact⟨h1,Nat.le_refl _,hp,u⟩
 ·rw [if_neg (by simpa using e)]
  by_cases hr:r>1
  ·rw [if_pos hr]
   refine⟨hp.lt 0 (by omega),hp.lt (r-1) (by omega),?_⟩
   rw [u 0 (r-1) (by omega) (by omega)]
   exact⟨h1,by omega,hp,u⟩
  ·rw [if_neg hr]
   have er:r=1:=by omega
   subst er
   have s1:=st (by omega)
   have d:Dn c p 2:=fun i j hij hj=>by
    have ei:i=0:=by omega
    have ej:j=1:=by omega
    subst ei;subst ej
    exact s1
   refine KW.bind (KW.mono (fun r h=>?_) (zaP O hp (n-2) 2 (by omega) (by omega) d))
   obtain⟨a1,a2,a3,a4,a5⟩:=h
   obtain⟨q,m,z⟩:=r
   simp only at a1 a2 a3 a4 a5
   subst a1;subst a2
   show KW c n (if 0>0 then _ else _) _
   rw [if_neg (Nat.lt_irrefl 0)]
   exact zb2 O hp (show 1≤m by omega) (show m≤n by omega) a5
theorem Vl (O:Ord c n) {p:Array Nat} (hp:Pm n p) {k:Nat} (hk:k<n) (u:Up c p k):∀ (f l r:Nat),l≤r->r≤k->r-l≤f->(∀ i,i<l->c (p.getD i 0) (p.getD k 0)=true)->(∀ i,r≤i->i<k->c (p.getD k 0) (p.getD i 0)=true) ->
  KW c n (kas_place p k f l r) (fun l=>l≤k∧(∀ i,i<l->c (p.getD i 0) (p.getD k 0)=true)∧(∀ i,l≤i->i<k->c (p.getD k 0) (p.getD i 0)=true))
 | 0,l,r,h1,h2,h3,lo,hi=>⟨by omega,lo,fun i a b=>hi i (by omega) b⟩
 | f+1,l,r,h1,h2,h3,lo,hi=>by
  unfold kas_place
  by_cases hlr:l≥r
  ·rw [if_pos hlr]
   exact⟨by omega,lo,fun i a b=>hi i (by omega) b⟩
  ·rw [if_neg hlr]
   have hm:(l+r) / 2<k:=by omega
   refine⟨hp.lt k hk,hp.lt _ (by omega),?_⟩
   cases e:c (p.getD k 0) (p.getD ((l+r) / 2) 0) with
   | true =>
    dsimp only
    rw [if_pos rfl]
    refine Vl O hp hk u f l ((l+r) / 2) (by omega) (by omega) (by omega) lo fun i a b=>?_
    by_cases ei:i=(l+r) / 2
    ·rw [ei];exact e
    ·exact O.tr _ _ _ (hp.lt k hk) (hp.lt _ (by omega)) (hp.lt i (by omega)) e (u _ _ (by omega) b)
   | false =>
    dsimp only
    rw [if_neg Bool.false_ne_true]
    have hs:c (p.getD ((l+r) / 2) 0) (p.getD k 0)=true:=O.tot _ _ (hp.lt k hk) (hp.lt _ (by omega)) (hp.ne hk (by omega) (by omega)) e
    refine Vl O hp hk u f ((l+r) / 2+1) r (by omega) h2 (by omega) (fun i a=>?_) hi
    by_cases ei:i=(l+r) / 2
    ·rw [ei];exact hs
    ·exact O.tr _ _ _ (hp.lt i (by omega)) (hp.lt _ (by omega)) (hp.lt k hk) (u _ _ (by omega) (by omega)) hs
theorem Jz {p:Array Nat} {k l:Nat} (hk:k<p.size) (hl:l≤k) (i:Nat):(bubble p k (k-l)).getD i 0=if i=l then p.getD k 0 else if l<i∧i≤k then p.getD (i-1) 0 else p.getD i 0:=by
 have q:=getElem?_bubble hk (k-l) (by omega) i
 have e:∀ (a:Array Nat) (j:Nat),a.getD j 0=(a[j]?).getD 0:=fun a j=>by simp [Array.getD_eq_getD_getElem?]
 rw [show k-(k-l)=l by omega] at q
 rw [e,e p k,e p (i-1),e p i,q]
 split
 ·rfl
 ·split
  ·rfl
  ·rfl
theorem zcy (O:Ord c n):∀ (f:Nat) {p:Array Nat} {k:Nat},Pm n p->1≤k->k+f=n->Up c p k->KW c n (kas_bin f p k) (fun q=>Pm n q∧Up c q n)
 | 0,p,k,hp,h1,h2,u=>by
  have:k=n:=by omega
  subst this
  exact⟨hp,u⟩
 | f+1,p,k,hp,h1,h2,u=>by
  refine KW.bind (KW.mono (fun l h=>?_) (Vl O hp (show k<n by omega) u k 0 k (Nat.zero_le _) (Nat.le_refl _) (by omega) (fun i hi=>by omega) (fun i a b=>by omega)))
  obtain⟨hlk,lo,hi⟩:=h
  have hks:k<p.size:=by rw [hp.sz];omega
  refine zcy O f (hp.of (bubble_perm _ _ _)) (by omega) (by omega) fun i j hij hj=>?_
  rw [Jz hks hlk,Jz hks hlk]
  by_cases hi1:i=l
  ·rw [if_pos hi1,if_neg (by omega),if_pos (by omega)]
   exact hi _ (by omega) (by omega)
  ·rw [if_neg hi1]
   by_cases hi2:l<i∧i≤k
   ·rw [if_pos hi2,if_neg (by omega),if_pos (by omega)]
    exact u _ _ (by omega) (by omega)
   ·rw [if_neg hi2]
    by_cases hj1:j=l
    ·rw [if_pos hj1]
     exact lo _ (by omega)
    ·rw [if_neg hj1]
     by_cases hj2:l<j∧j≤k
     ·rw [if_pos hj2]
      exact u _ _ (by omega) (by omega)
     ·rw [if_neg hj2]
      exact u _ _ (by omega) (by omega)
theorem ze9 (O:Ord c n) (h2:2≤n):KW c n (kas_sort n) (fun p=>Pm n p∧Up c p n):=by
 have h0:Pm n (List.toArray (List.range n)):=⟨by simp,by simp⟩
 refine KW.bind (KW.mono (fun r h=>?_) (zcA O h0 h2))
 obtain⟨h1,h3,hp,u⟩:=h
 by_cases hr:r.1<n
 ·rw [if_pos hr,Nat.max_eq_left h1]
  exact zcy O _ hp h1 (by omega) u
 ·rw [if_neg hr]
  have:r.1=n:=by omega
  rw [this] at u
  exact⟨hp,u⟩
end
end HT
namespace L2
open PySem PySem.Spec PyProof.Rows PySem.W
def Jk (c:Addr) (q:Str):HO:=.ext fun h=>h.CodeRec (.ref c) q
def zaF (P:Addr) (pos:Pos) (q:Str) (H:Hp) (c:Addr):Prop:=H P=some (.tbl #[rawInt pos.line,rawInt pos.col,.ref c])∧H c=some (Jk c q)
def XM (P:Addr) (pos:Pos) (q:Str) (H:Hp):Prop:=H P=some (.tbl #[])∨∃ c,zaF P pos q H c
section
variable {P:Program} {w:World} {K:Frag} {mg:Str->Option Value} {base:Heap} {N ps:List Str} {k:Nat} {A:Around} {outer:List Env} {s:Shared} {H:Hp} {us:List Value} {vs:List V} {Q:VK} {E:XK} {f:Addr} {o:Obj}
 {name qual:Str} {params:Arguments} {body:Expr} {scope:Scope} {pm cdv ct:Value} {args:Args}
theorem zde (ho:s.heap.get? f=some o) (hd:o.data=.func (kla_fn name qual params body scope [] pm cdv ct)) (hcd:s.heap.CodeRec cdv qual) (S:zF N ps scope) (hr:Room (k+1) A) (e0:Env0 P w K mg base A outer s H)
  (hb:BindsTo s (kla_fn name qual params body scope [] pm cdv ct) args (ps.zip us)) (hl:vs.length=ps.length) (r:Vals vs us)
  (hbody:∃ t,PE (Ys CX0 P w K mg base N qual scope f cdv A outer s H E) body t∧t (start N vs) H Q):codeAny (model P w) A (.call (.ref f) args) (CR CX0 outer P w H s Q E) s:=by
 have lim:s.heap.NoLimit:=e0.mod.nolimit.keeps fun b o e=>(e0.bs b o e).1
 have hkind:∀ y∈ps.zip us,scope.names.lookup y.1=some .local∨(scope.names.lookup y.1=some .cell∧((cellsFrom (s.heap.objs.size+1) scope.names []).lookup y.1).isSome=true):=fun ⟨n,v⟩ hy=>by
  rcases S.par n (List.of_mem_zip hy).1 with q | q
  ·exact .inl q
  ·exact .inr ⟨q,PySem.W.cellsFrom_some _ _ _ (.inl q)⟩
 refine kla_callFunE hr.depth ho hd S.co S.gen rfl hcd (hb _ _ _ _ ?_)
 refine wpAny_newFunctionEnv_cells S.kind hkind fun env he s1 x=>?_
 subst he
 refine⟨lim.keeps x.toInCall.keep,kla_codeExpr ?_⟩
 obtain⟨t,ht,hq⟩:=hbody
 have I:Inv (Ys CX0 P w K mg base N qual scope f cdv A outer s H E) [] (start N vs) H s1:=Uy S hr.hd e0 hl r x
 refine wpAny_mono (ht [] s1 (start N vs) H _ I hq) (fun u s' hs=>?_) fun e s' hs=>hs
 obtain⟨v,H',J,rv,q⟩:=hs
 exact⟨v,H',J.os,J.bare,J.base,J.hok,rv,q⟩
end
section
variable {X:Cx} {pins:List (Addr×Obj)} {σ:St} {H:Hp} {s:Shared} {params:Arguments} {body:Expr} {scope:Scope} {pos:Pos} {c P:Addr} {Q:Value->Shared->Prop}
theorem zb3 (I:Inv X pins σ H s) (hdef:defaultsOf params X.env=([],[])) (hcl:closureFor scope X.env=pure []) (hcode:X.env.code=.ref c) (hK:codeHdIn X.K c P=true) (hB:X.base.BuiltinsAt X.mg P) (hgP:mainGlobals≠P)
  (hT:XM P pos (X.env.qual ++ "<lambda>") H)
  (h:∀ (f c':Addr) (H':Hp) (s':Shared) (pm ct:Value),Inv X pins σ H' s'->zaF P pos (X.env.qual ++ "<lambda>") H' c'->s'.heap.get? f=some (kla_obj "<lambda>" (X.env.qual ++ "<lambda>") params body scope [] pm c' ct)->H' f=none->s.heap.objs.size≤f ->
   (∀ b u,b≠P->H b=some u->H' b=some u)->Q (.ref f) s') :
  wpAny (model X.prog X.w) X.A (eval (.Lambda params body scope pos) X.env) Q X.xe s:=by
 have C:CodeHd s.heap c P:=codeHd_of_K I.kIn hK
 have hg:s.heap.Ns mainGlobals X.mg:=I.mod.glob.keeps I.bk
 have hb:s.heap.BuiltinsAt X.mg P:=by
  obtain⟨bm,o,b1,b2,b3,b4,b5,b6,b7,b8⟩:=hB
  exact⟨bm,o,b1,b2,b3,b4,I.bk _ _ b5,b6,b7,b8⟩
 refine kla_eval hdef ?_
 rcases hT with hP | ⟨c',hP,hc'⟩
 ·have hPo:s.heap.get? P=some (tabObj #[]):=I.hok P _ hP
  refine kla_makeFunction hcl I.ok.glob hg hcode C hPo (show TriplesOk [] from trivial) rfl hgP hb fun c' ct h' tk hx hge hlt hrec htb=>?_
  have htb':h'.get? P=some (tabObj #[rawInt pos.line,rawInt pos.col,.ref c']):=htb
  have hPc:P≠c':=fun z=>by
   have:=Heap.lt_size hPo
   rw [z] at this
   exact absurd (Nat.lt_of_lt_of_le this hge) (Nat.lt_irrefl _)
  have hHc:H c'=none:=I.hok.fresh hge
  have old:∀ b o,b≠P->s.heap.get? b=some o->(h'.push (kla_obj "<lambda>" (X.env.qual ++ "<lambda>") params body scope [] ((X.mg "__name__").getD .none) c' ct)).get? b=some o:=fun b o hb e=>Heap.get?_push_of_some _ (hx b o hb e)
  have nP:∀ b,H b=none->b≠P:=fun b n z=>by rw [z,hP] at n;cases n
  have up:∀ b u,b≠P->H b=some u->upd (upd H P (.tbl #[rawInt pos.line,rawInt pos.col,.ref c'])) c' (Jk c' (X.env.qual ++ "<lambda>")) b=some u:=fun b u hb e=>by
   rw [zu (fun z=>by rw [z,hHc] at e;cases e),zu hb];exact e
  have upn:∀ b,b≠P->b≠c'->H b=none->upd (upd H P (.tbl #[rawInt pos.line,rawInt pos.col,.ref c'])) c' (Jk c' (X.env.qual ++ "<lambda>")) b=none:=fun b h1 h2 e=>by
   rw [zu h2,zu h1];exact e
  have J:Inv X pins σ (upd (upd H P (.tbl #[rawInt pos.line,rawInt pos.col,.ref c'])) c' (Jk c' (X.env.qual ++ "<lambda>"))) { s with heap:=h'.push (kla_obj "<lambda>" (X.env.qual ++ "<lambda>") params body scope [] ((X.mg "__name__").getD .none) c' ct),toks:=tk }:=by
   refine I.un ⟨fun b o e n _ _=>old b o (nP b n) e,fun b o e n _ _=>⟨o.slots,old b o (nP b n) e⟩,fun b o e n _=>upn b (nP b n) (Nat.ne_of_lt (Nat.lt_of_lt_of_le (Heap.lt_size e) hge)) n,fun b o e _=>?_,fun b xs e=>up b _ (fun z=>by rw [z,hP] at e;cases e) e,fun b o u e=>up b _ (fun z=>by rw [z,hP] at e;cases e) e,fun b ps e=>?_⟩ ?_
   ·by_cases hb:b=P
    ·rw [hb];exact⟨_,Heap.get?_push_of_some _ htb'⟩
    ·exact⟨o,old b o hb e⟩
   ·by_cases hb:b=P
    ·rw [hb] at e ⊢
     rw [hP] at e
     cases e
     exact⟨#[rawInt pos.line,rawInt pos.col,.ref c'],by rw [zu hPc,zg];rfl⟩
    ·exact⟨#[],by rw [up b _ hb e];simp⟩
   ·intro b u e
    by_cases hbc:b=c'
    ·subst hbc
     rw [zg] at e
     cases e
     obtain⟨c2,oc,vs,t,e1,e2,e3,e4⟩:=id hrec
     cases e1
     have q:=Heap.get?_push_of_some (kla_obj "<lambda>" (X.env.qual ++ "<lambda>") params body scope [] ((X.mg "__name__").getD .none) b ct) e2
     refine⟨⟨b,oc,vs,t,rfl,q,e3,e4⟩,⟨oc,q⟩,fun h1 h2 ⟨c3,o3,v3,t3,a1,a2,a3,a4⟩ k=>?_⟩
     cases a1
     exact⟨b,o3,v3,t3,rfl,k _ a2,a3,a4⟩
    ·rw [zu hbc] at e
     by_cases hbP:b=P
     ·rw [hbP] at e ⊢
      rw [zg] at e
      cases e
      exact Heap.get?_push_of_some _ htb'
     ·rw [zu hbP] at e
      refine (I.hok b u e).stay (fun d v hd q=>old d v ?_ q) (fun d q=>?_) fun d xs q=>?_
      ·rcases hd with rfl | hd
       ·exact hbP
       ·intro z;rw [z,hP] at hd;cases hd
      ·exact up d _ (fun z=>by rw [z,hP] at q;cases q) q
      ·exact up d _ (fun z=>by rw [z,hP] at q;cases q) q
  have hsz:s.heap.objs.size≤h'.objs.size:=Nat.le_of_lt (Nat.lt_of_le_of_lt hge hlt)
  refine h _ c' _ _ _ ct J ⟨by rw [zu hPc,zg],zg⟩ (Heap.get?_push_size _ rfl) ?_ hsz up
  exact upn _ (Nat.ne_of_gt (Nat.lt_of_lt_of_le (Heap.lt_size hPo) hsz)) (Nat.ne_of_gt hlt) (I.hok.fresh hsz)
 ·have hPo:s.heap.get? P=some (tabObj #[rawInt pos.line,rawInt pos.col,.ref c']):=I.hok P _ hP
  refine kla_makeFunctionHit hcl I.ok.glob hg hcode C hPo (show TriplesOk [rawInt pos.line,rawInt pos.col,.ref c'] from trivial) (cv:=.ref c') ?_ hb fun ct h' tk hk hsz=>?_
  ·have:=codeAmong_snoc (pos:=pos) (c:=.ref c') [] trivial rfl
   exact this
  ·exact h _ c' H _ _ ct (I.kept (t':=tk) fun b u e=>Heap.get?_push_of_some _ (hk b u e)) ⟨hP,hc'⟩ (Heap.get?_push_size _ rfl) (I.hok.fresh hsz) hsz (fun b u _ e=>e)
end
end L2
namespace HT
def wV (a b:List Int):Bool:=if a.length=b.length then lexLt a b else decide (a.length<b.length)
theorem Qe (a:List Int):wV a a=false:=by unfold wV;rw [if_pos rfl,tO]
theorem X5 (a b c:List Int) (h1:wV a b=true) (h2:wV b c=true):wV a c=true:=by
 unfold wV at *
 by_cases e1:a.length=b.length
 ·rw [if_pos e1] at h1
  by_cases e2:b.length=c.length
  ·rw [if_pos e2] at h2
   rw [if_pos (e1.trans e2)]
   exact ZJ a b c h1 h2
  ·rw [if_neg e2] at h2
   rw [if_neg (by omega)]
   have:=of_decide_eq_true h2
   exact decide_eq_true (by omega)
 ·rw [if_neg e1] at h1
  have h1':=of_decide_eq_true h1
  by_cases e2:b.length=c.length
  ·rw [if_neg (by omega)]
   exact decide_eq_true (by omega)
  ·rw [if_neg e2] at h2
   have:=of_decide_eq_true h2
   rw [if_neg (by omega)]
   exact decide_eq_true (by omega)
theorem JV (a b:List Int) (h:a≠b):wV b a=!wV a b:=by
 unfold wV
 by_cases e:a.length=b.length
 ·rw [if_pos e,if_pos e.symm,Yk a b h]
 ·rw [if_neg e,if_neg (Ne.symm e),Bool.eq_iff_iff]
  simp
  omega
theorem zfS {ls:List (List Int)} (nd:ls.Nodup):Ord (fun i j=>wV (ls.getD i []) (ls.getD j [])) ls.length:=by
 have ge:∀ i,(h:i<ls.length)->ls.getD i []=ls[i]:=fun i h=>by rw [List.getD_eq_getElem?_getD,List.getElem?_eq_getElem h];rfl
 refine⟨fun i j k _ _ _ h1 h2=>X5 _ _ _ h1 h2,fun i j hi hj hij h=>?_,fun i j hi hj h=>?_⟩
 ·have ne:ls.getD i []≠ls.getD j []:=fun z=>by
   rw [ge i hi,ge j hj] at z
   exact hij ((List.getElem_inj nd).mp z)
  have:=JV _ _ ne
  rw [h] at this
  exact this
 ·cases e:wV (ls.getD j []) (ls.getD i []) with
  | false=>rfl
  | true =>
   have:=X5 _ _ _ h e
   rw [Qe] at this
   cases this
end HT
namespace L2
open PySem PySem.Spec PyProof.Rows PySem.W
section
variable {X:Cx} {pins:List (Addr×Obj)} {σ:St} {H:Hp} {s:Shared}
theorem zaq (I:Inv X pins σ H s) {p z:Addr} {n:Int} (h:H p=some (.tup [.int n,.ref z])):∃ (t:Tok) (o:Obj) (m:Nat),s.heap.get? p=some o∧o.cls=.type "tuple"∧o.data=.seq #[.int n t,.ref z] m:=by
 obtain⟨_,its,r,o,e,hc,m,hd⟩:=I.hok p _ h
 cases r with
 | cons r1 r2 =>
  cases r2 with
  | cons r3 r4 =>
   cases r4
   obtain⟨t,rfl⟩:=r1
   cases r3
   exact⟨t,o,m,e,hc,hd⟩
theorem zeC (I:Inv X pins σ H s) {A:Around} {p q za zb:Addr} {as bs:List Int} (hp:H p=some (.tup [.int as.length,.ref za])) (hq:H q=some (.tup [.int bs.length,.ref zb])) (ha:H za=some (.lst (as.map V.int))) (hb:H zb=some (.lst (bs.map V.int)))
  (hu:A.units+2<cLine) {Q:Bool->Shared->Prop} {E:Value->Shared->Prop} (h:Q (HT.wV as bs) s):wpAny (model X.prog X.w) A (keyLt' (tuples' true) (.ref p) (.ref q)) Q E s:=by
 obtain⟨t,o,m,e,_,hd⟩:=zaq I hp
 obtain⟨t',o',m',e',_,hd'⟩:=zaq I hq
 refine kat_lt e hd e' hd' ?_
 refine kat_cons (wpAny_eqBool_int ?_)
 unfold HT.wV at h
 by_cases hl:as.length=bs.length
 ·rw [if_pos hl] at h
  have e1:((as.length:Int) == (bs.length:Int))=true:=by rw [hl];simp
  rw [e1]
  refine kat_yes (kat_cons ?_)
  refine (Wv I (A:=A) 1 (t:=yF as) (u:=yF bs) (v:=.ref za) (w:=.ref zb) (by rw [uy];exact Nat.le_refl _) (TrAt.ints (SqL.of ha)) (TrAt.ints (SqL.of hb)) rfl rfl (by omega)).eq _ _ _ _ ?_
  rw [uR]
  by_cases hab:as=bs
  ·rw [decide_eq_true hab]
   refine kat_yes (kat_nil ?_)
   rw [hab,HT.tO] at h
   exact h
  ·rw [decide_eq_false hab]
   refine kat_no (kat_one _ _ ?_)
   obtain⟨its,r1,p1,_⟩:=I.list (SqL.of ha)
   obtain⟨its2,r2,p2,_⟩:=I.list (SqL.of hb)
   exact HT.Wc p1.isList p2.isList (by simpa using intsAre_of r1) (by simpa using intsAre_of r2) (by omega) h
 ·rw [if_neg hl] at h
  have e1:((as.length:Int) == (bs.length:Int))=false:=by simp;omega
  rw [e1]
  refine kat_no ?_
  refine oneLt_int ?_
  have:decide ((as.length:Int)<(bs.length:Int))=decide (as.length<bs.length):=by
   rw [Bool.eq_iff_iff];simp
  rw [this]
  exact h
end
end L2
set_option maxHeartbeats 4000000
namespace L2
open PySem PySem.Spec PyProof.Rows PySem.W
section
variable {X:Cx} {pins:List (Addr×Obj)} {σ:St} {H:Hp} {s:Shared}
structure zbI (X:Cx) (pins:List (Addr×Obj)) (n:Nat) (a:Addr):Prop where
 s0:X.s₀.heap.objs.size≤a
 lo:a≠X.env.locals
 ce:∀ x c,X.env.cells.lookup x=some c->c≠a
 fs:a∉X.fs
 pn:∀ p∈X.pn++pins,p.1≠a
 ge:n≤a
theorem Inv.late (I:Inv X pins σ H s) {a:Addr} (h:s.heap.objs.size≤a):zbI X pins s.heap.objs.size a :=
 ⟨Nat.le_trans I.sz h,Nat.ne_of_gt (Nat.lt_of_lt_of_le I.lt h),fun x c e z=>by
  obtain⟨v,o,ho,_⟩:=I.cell x c e
  rw [z] at ho
  exact absurd (Nat.lt_of_lt_of_le (Heap.lt_size ho) h) (Nat.lt_irrefl _),I.nofs h,fun p hp z=>by
  obtain⟨e,_⟩:=I.pin p hp
  rw [z] at e
  exact absurd (Nat.lt_of_lt_of_le (Heap.lt_size e) h) (Nat.lt_irrefl _),h⟩
theorem Inv.tell {a:Addr} {xs:List V} {its:List Value} {n:Nat} {h':Heap} {t':Nat} (I:Inv X pins σ H s) {m:Nat} (L:zbI X pins m a) (hn:H a=none) (k:∀ b o,b≠a->s.heap.get? b=some o->h'.get? b=some o)
  (hv:Vals xs its) (hz:xs.length≤sizeLine) (ha:h'.get? a=some (seqObj "list" its.toArray n)):Inv X pins σ (upd H a (.lst xs)) { s with heap:=h',toks:=t' }:=by
 have na:∀ b u,H b=some u->b≠a:=fun b u e z=>by rw [z,hn] at e;cases e
 refine I.step (g':=s.gens) (d':=s.drawn) (ch:=[a]) (fun b hb=>?_) (fun b o _ _ hc e _=>k b o (fun z=>hc (by simp [z])) e) (fun b o _ _ hc e _=>⟨o.slots,k b o (fun z=>hc (by simp [z])) e⟩) (fun b o hc e n=>by rw [zu (fun z=>hc (by simp [z]))];exact n)
  (fun b o hc e=>⟨o,k b o (fun z=>hc (by simp [z])) e⟩) (fun b xs e=>by rw [zu (na b _ e)];exact e) (fun b o u e=>by rw [zu (na b _ e)];exact e) (fun b ps e=>⟨#[],by rw [zu (na b _ e),e];simp⟩) (fun m hm=>?_) (fun b u e=>?_) I.bare
 ·have e:b=a:=by simpa using hb
  subst e
  exact⟨.inr L.s0,L.lo,L.ce,L.pn⟩
 ·obtain⟨o,es,ep,ho,r⟩:=hm
  exact⟨o,es,ep,k _ o (Ne.symm L.lo) ho,r⟩
 ·by_cases hb:b=a
  ·subst hb
   rw [zg] at e
   cases e
   exact⟨hz,its,n,hv,ha⟩
  ·rw [zu hb] at e
   refine (I.hok b u e).stay (fun c v hc q=>k c v ?_ q) (fun c q=>by rw [zu (na c _ q)];exact q) fun c xs q=>by rw [zu (na c _ q)];exact q
   rcases hc with rfl | hc
   ·exact hb
   ·exact na c _ hc
def zeR (H:Hp) (zs:List (Addr×List Int)) (pl:List Addr):Prop:=∀ j z,zs[j]?=some z->j<pl.length->∃ p,pl[j]?=some p∧H p=some (.tup [.int z.2.length,.ref z.1])
theorem kat_tups (I:Inv X pins σ H s):∀ pl:List Addr,(∀ p∈pl,∃ (n:Int) (z:Addr),H p=some (.tup [.int n,.ref z]))->∃ fs:List Value,KatTups s.heap (pl.map Value.ref) fs∧fs.length=pl.length∧∀ v∈fs,∃ n t,v=Value.int n t
 | [],_=>⟨[],KatTups.nil,rfl,fun v hv=>by cases hv⟩
 | p :: pl,h=>by
  obtain⟨fs,h1,h2,h3⟩:=kat_tups I pl fun q hq=>h q (.tail _ hq)
  obtain⟨n,z,e⟩:=h p (.head _)
  obtain⟨t,o,m,e1,e2,e3⟩:=zaq I e
  refine⟨.int n t :: fs,KatTups.cons e1 e2 e3 rfl h1,by simp [h2],fun v hv=>?_⟩
  rcases List.mem_cons.mp hv with rfl | hv
  ·exact⟨n,t,rfl⟩
  ·exact h3 v hv
theorem zbX {zs:List (Addr×List Int)} {f kS a:Addr} {fo:Obj} {e1:Nat} {A:Around} {P:PySem.Fin->Shared->Prop} {E:Value->Shared->Prop} {n:Nat}
  (I:Inv X ((f,fo) :: (a,seqObj "list" #[] e1) :: pins) σ H s) (La:zbI X pins n a) (Lk:zbI X ((f,fo) :: (a,seqObj "list" #[] e1) :: pins) n kS) (hkS:s.heap.get? kS=some (seqObj "list" #[] 0)) (hkn:H kS=none)
  (hz:∀ z∈zs,H z.1=some (.lst (z.2.map V.int))) (nd:(zs.map (·.2)).Nodup) (h60:zs.length≤60) (hu:A.units+2<cLine)
  (turn:∀ (H':Hp) (s':Shared) (pins':List (Addr×Obj)) (z:Addr×List Int),Inv X pins' σ H' s'->(f,fo)∈pins'->Same H H'->z∈zs ->
   wpAny (model X.prog X.w) A (call (.ref f) [.ref z.1]) (EP X pins' σ fun v H2=>∃ p,v=.ref p∧H' p=none∧H2=upd H' p (.tup [.int z.2.length,.ref z.1])) (fun _ _=>False) s')
  (done:∀ (H':Hp) (s':Shared) (zs':List (Addr×List Int)),Inv X pins σ (upd H' a (.lst (zs'.map fun z=>V.ref z.1))) s'->Same H H'->H' a=none->zs'.Perm zs->zs'.Pairwise (fun x y=>HT.wV x.2 y.2=true)->P (.done (.ret .none)) s') :
  wpAny (model X.prog X.w) A (ksk_rest a (.ref f) false (zs.map fun z=>Value.ref z.1).toArray e1 (.ref kS)) P E s:=by
 unfold ksk_rest
 refine wpAny_bind (wpAny_rule ?_)
 first
  | rw [List.forIn_toArray]
  | (rw [← Array.forIn_toList];simp only [List.toList_toArray])
  | rw [← Array.forIn_toList]
 refine wpAny_bind (ksk_fold (fun i s'=>∃ (H':Hp) (pl:List Addr) (e:Nat),Inv X ((f,fo) :: (a,seqObj "list" #[] e1) :: pins) σ H' s'∧s'.heap.get? kS=some (seqObj "list" (pl.map Value.ref).toArray e)∧H' kS=none∧pl.length=i∧zeR H' zs pl∧Same H H') (zs.map fun z=>Value.ref z.1) 0 s
  ⟨H,[],0,I,hkS,hkn,rfl,fun j z _ h=>by simp at h,Same.refl _⟩ ?step ?fin)
 case step =>
  rintro j x s' hx ⟨H',pl,e,I',hk',hkn',hpl,hkeys,sm⟩
  rw [Nat.zero_add] at hpl ⊢
  rw [List.getElem?_map] at hx
  obtain⟨z,hzj,ez⟩:=Option.map_eq_some_iff.mp hx
  subst ez
  have hzm:=List.mem_of_getElem? hzj
  have hj:j<zs.length:=(List.getElem?_eq_some_iff.mp hzj).1
  have I2:Inv X ((kS,seqObj "list" (pl.map Value.ref).toArray e) :: (f,fo) :: (a,seqObj "list" #[] e1) :: pins) σ H' s':=I'.pins_of fun p hp=>by
   rcases List.mem_cons.mp hp with rfl | hp
   ·exact⟨hk',hkn',Lk.lo,Lk.fs,fun v z=>by cases z⟩
   ·exact I'.pin p (List.mem_append_right _ hp)
  refine wpAny_bind (wpAny_attempt (wpAny_mono (turn H' s' _ z I2 (by simp) sm hzm) (fun v s'' he=>?_) fun _ _ hF=>hF.elim))
  obtain⟨v',H2,I3,rv,p,rfl,hpf,rfl⟩:=he
  cases rv
  have pk:=I3.pin (kS,seqObj "list" (pl.map Value.ref).toArray e) (List.mem_append_right _ (.head _))
  have I4:Inv X ((f,fo) :: (a,seqObj "list" #[] e1) :: pins) σ (upd H' p (.tup [.int z.2.length,.ref z.1])) s'':=I3.pins_of fun q hq=>I3.pin q (List.mem_append_right _ (.tail _ hq))
  obtain⟨c2,hc2⟩:∃ c2,(s''.heap.update kS (Obj.mapSeq (·.push (.ref p)))).get? kS=some (seqObj "list" ((pl.map Value.ref).toArray.push (.ref p)) c2):=⟨_,get?_update_seq pk.1 (·.push (.ref p))⟩
  have hsl:(pl.map Value.ref).toArray.size≤60:=by rw [List.size_toArray,List.length_map];omega
  dsimp only
  refine wpAny_bind (listUpdate_at pk.1 rfl ?_ (Nat.le_trans hsl (by decide)) (by rw [Array.size_push];exact Nat.le_trans (Nat.succ_le_succ hsl) (by decide)))
  refine wpAny_pure ⟨rfl,_,pl++[p],c2,I4.turned (t':=s''.toks) (fun b o hb q=>?_) pk.2.1 Lk.lo (.inr Lk.s0) Lk.ce Lk.pn,?_,pk.2.1,by rw [List.length_append,List.length_singleton,hpl],fun i y hy hi=>?_,sm.trans (zj hpf)⟩
  ·rw [Heap.get?_update_other _ _ (Ne.symm hb)];exact q
  ·rw [hc2];simp
  ·by_cases hlt:i<pl.length
   ·obtain⟨p',e1',e2'⟩:=hkeys i y hy hlt
    exact⟨p',by rw [List.getElem?_append_left hlt];exact e1',by rw [zu (zy e2' hpf)];exact e2'⟩
   ·have ei:i=pl.length:=by rw [List.length_append,List.length_singleton] at hi;omega
    have ej:i=j:=by omega
    rw [ej,hzj] at hy
    cases hy
    exact⟨p,by rw [ei];simp,zg⟩
 case fin =>
  rintro s' ⟨H',pl,e,I',hk',hkn',hpl,hkeys,sm⟩
  rw [Nat.zero_add,List.length_map] at hpl
  try dsimp only
  refine wpAny_bind (listItems_at hk' rfl ?_)
  have ga:=I'.pin (a,seqObj "list" #[] e1) (List.mem_append_right _ (.tail _ (.head _)))
  have Ip:Inv X pins σ H' s':=I'.pins_of fun q hq=>I'.pin q (by
   rcases List.mem_append.mp (List.mem_append_right X.pn hq) with h | h
   ·exact List.mem_append_left _ h
   ·exact List.mem_append_right _ (.tail _ (.tail _ h)))
  have nka:kS≠a:=fun z=>Lk.pn (a,seqObj "list" #[] e1) (List.mem_append_right _ (.tail _ (.head _))) z.symm
  have tail:∀ (st:SortSt) (zs':List (Addr×List Int)),(arrOf st).map (·.2)=(zs'.map fun z=>Value.ref z.1).toArray->failedOf st=none->zs'.Perm zs->zs'.Pairwise (fun x y=>HT.wV x.2 y.2=true) ->
    wpAny (model X.prog X.w) A (ksk_tail a false e1 (.ref kS) st) P E s':=by
   intro st zs' hout hfl pm pw
   have hlen:zs'.length≤60:=by rw [pm.length_eq];exact h60
   have s1:=Heap.SameBut.update s'.heap kS (Obj.mapSeq fun _=>(#[]:Array Value))
   have na1:(s'.heap.update kS (Obj.mapSeq fun _=>(#[]:Array Value))).get? a=some (seqObj "list" #[] e1):=(s1.2 a nka.symm).trans ga.1
   obtain⟨c2,hc2⟩:∃ c2,((s'.heap.update kS (Obj.mapSeq fun _=>(#[]:Array Value))).update a (Obj.mapSeq fun _=>(zs'.map fun z=>Value.ref z.1).toArray)).get? a=some (seqObj "list" (zs'.map fun z=>Value.ref z.1).toArray c2) :=
    ⟨_,get?_update_seq na1 fun _=>(zs'.map fun z=>Value.ref z.1).toArray⟩
   have I5:Inv X pins σ H' { s' with heap:=s'.heap.update kS (Obj.mapSeq fun _=>(#[]:Array Value)),toks:=s'.toks }:=Ip.turned (fun b o hb q=>by rw [Heap.get?_update_other _ _ (Ne.symm hb)];exact q) hkn' Lk.lo (.inr Lk.s0) Lk.ce (fun q hq=>Lk.pn q (by
    rcases List.mem_append.mp hq with h | h
    ·exact List.mem_append_left _ h
    ·exact List.mem_append_right _ (.tail _ (.tail _ h))))
   have I6:=I5.tell (t':=s'.toks) (h':=(s'.heap.update kS (Obj.mapSeq fun _=>(#[]:Array Value))).update a (Obj.mapSeq fun _=>(zs'.map fun z=>Value.ref z.1).toArray)) La ga.2.1 (fun b o hb q=>by rw [Heap.get?_update_other _ _ (Ne.symm hb)];exact q) (Xz zs') (by rw [List.length_map];exact Nat.le_trans hlen (by decide)) hc2
   unfold ksk_tail
   try dsimp only
   refine wpAny_bind (listUpdate_at hk' rfl ?_ (by rw [List.size_toArray,List.length_map,hpl];exact Nat.le_trans h60 (by decide)) (Nat.zero_le _))
   refine wpAny_bind (wpAny_letGo ?_)
   refine wpAny_bind (seqEpoch_at na1 rfl ?_)
   simp only [Bool.false_eq_true,if_false]
   rw [hout]
   refine wpAny_bind (listUpdate_at na1 rfl ?_ (Nat.zero_le _) (by rw [List.size_toArray,List.length_map];exact Nat.le_trans hlen (by decide)))
   rw [hfl]
   simp only [bne_self_eq_false,Bool.false_eq_true,if_false]
   exact wpAny_pure (done H' _ zs' I6 sm ga.2.1 pm pw)
  unfold ksk_end
  try dsimp only
  simp only [Bool.false_eq_true,if_false]
  have hvl:(zs.map fun z=>Value.ref z.1).toArray.size=zs.length:=by rw [List.size_toArray,List.length_map]
  by_cases h2:(zs.map fun z=>Value.ref z.1).toArray.size<2
  ·rw [if_pos h2,if_pos h2]
   refine wpAny_bind (wpAny_pure ?_)
   rw [StateT.run_pure]
   refine wpAny_bind (wpAny_pure ?_)
   try dsimp only
   refine tail _ zs ?_ rfl (List.Perm.refl _) ?_
   ·show (((pl.map Value.ref).toArray.zip (zs.map fun z=>Value.ref z.1).toArray).map (·.2))=_
    apply Array.toList_inj.mp
    rw [Array.toList_map,Array.toList_zip,List.map_snd_zip (by simp [hpl])]
   ·rw [hvl] at h2
    match zs,h2 with
    | [],_=>exact .nil
    | [_],_=>exact List.pairwise_singleton _ _
  ·rw [if_neg h2,if_neg h2]
   rw [hvl] at h2
   have hkl:(pl.map Value.ref).length=(zs.map fun z=>Value.ref z.1).length:=by rw [List.length_map,List.length_map,hpl]
   have hk2:∀ j,j<zs.length->∃ p,pl[j]?=some p∧H' p=some (.tup [.int (zs.getD j (0,[])).2.length,.ref (zs.getD j (0,[])).1])∧zs.getD j (0,[])∈zs:=fun j hj=>by
    have e:zs.getD j (0,[])=zs[j]:=by rw [List.getD_eq_getElem?_getD,List.getElem?_eq_getElem hj];rfl
    rw [e]
    obtain⟨p,e1,e2⟩:=hkeys j zs[j] (List.getElem?_eq_getElem hj) (by omega)
    exact⟨p,e1,e2,List.getElem_mem hj⟩
   obtain⟨fs,ht,hfl,hfi⟩:=kat_tups I' pl fun p hp=>by
    obtain⟨j,hj,rfl⟩:=List.getElem_of_mem hp
    obtain⟨p',e1,e2,_⟩:=hk2 j (by omega)
    rw [List.getElem?_eq_getElem hj] at e1
    cases e1
    exact⟨_,_,e2⟩
   refine wpAny_bind (kat_kind (T:=.type "int") ht (by omega) (fun v hv=>?_) (by decide) ?_)
   ·obtain⟨n,t,rfl⟩:=hfi v hv
    exact Looks.of_pure rfl
   have ls2:(zs.map (·.2)).length=zs.length:=List.length_map ..
   have ask:(kas_sort (zs.map fun z=>Value.ref z.1).length).kasWp (kas_ask X.prog X.w A (tuples' true) (pl.map Value.ref)) (fun p s''=>s''=s'∧(HT.Pm zs.length p∧HT.Up (fun i j=>HT.wV ((zs.map (·.2)).getD i []) ((zs.map (·.2)).getD j [])) p zs.length)) s':=by
    rw [List.length_map]
    have O:=HT.zfS nd
    rw [ls2] at O
    refine HT.KW.wp (n:=zs.length) (fun i j C hi hj hC=>?_) _ (HT.ze9 O (by omega))
    obtain⟨p,e1,e2,e3⟩:=hk2 i hi
    obtain⟨q,d1,d2,d3⟩:=hk2 j hj
    have ei:(zs.map (·.2)).getD i []=(zs.getD i (0,[])).2:=by rw [List.getD_eq_getElem?_getD,List.getD_eq_getElem?_getD,List.getElem?_map,List.getElem?_eq_getElem hi];rfl
    have ej:(zs.map (·.2)).getD j []=(zs.getD j (0,[])).2:=by rw [List.getD_eq_getElem?_getD,List.getD_eq_getElem?_getD,List.getElem?_map,List.getElem?_eq_getElem hj];rfl
    have gi:(pl.map Value.ref).getD i Value.none=.ref p:=by rw [List.getD_eq_getElem?_getD,List.getElem?_map,e1];rfl
    have gj:(pl.map Value.ref).getD j Value.none=.ref q:=by rw [List.getD_eq_getElem?_getD,List.getElem?_map,d1];rfl
    unfold kas_ask
    rw [gi,gj]
    refine zeC I' e2 d2 (sm _ _ (hz _ e3)) (sm _ _ (hz _ d3)) hu ?_
    try dsimp only at hC
    rw [ei,ej] at hC
    exact hC
   have eT:(Value.type "int" != Value.type "tuple")=true:=by decide
   rw [eT]
   refine wpAny_bind (wpAny_mono (kat_run (ks:=pl.map Value.ref) (vs:=zs.map fun z=>Value.ref z.1) (Q:=fun st' s''=>∃ p:Array Nat,s''=s'∧arrOf st'=p.map (kas_item ((pl.map Value.ref).toArray.zip (zs.map fun z=>Value.ref z.1).toArray))∧failedOf st'=none∧HT.Pm zs.length p∧HT.Up (fun i j=>HT.wV ((zs.map (·.2)).getD i []) ((zs.map (·.2)).getD j [])) p zs.length)
    hkl (by rw [List.length_map];omega) (by rw [List.length_map];omega) (fun p st' s'' _ a2 a3 a4=>⟨p,a4.1,a2,a3,a4.2⟩) ask) ?_ fun _ _ e=>e)
   rintro⟨⟨⟩,st'⟩ s'' ⟨p,rfl,har,hfl2,hpm,hup⟩
   try dsimp only
   have hout:=kat_snds hkl har
   have hpl2:p.toList.length=zs.length:=by rw [hpm.pm.length_eq,List.length_range]
   refine tail st' (p.toList.map fun i=>zs.getD i (0,[])) ?_ hfl2 (HT.Ug _ zs hpm.pm) ?_
   ·rw [hout,List.map_map]
    congr 1
    refine List.map_congr_left fun i hi=>?_
    have hi':=List.mem_range.mp (hpm.pm.mem_iff.mp hi)
    show _=Value.ref (zs.getD i (0,[])).1
    rw [List.getD_eq_getElem?_getD,List.getD_eq_getElem?_getD,List.getElem?_map,List.getElem?_eq_getElem hi'];rfl
   ·rw [List.pairwise_map,List.pairwise_iff_getElem]
    intro i j hi hj hij
    have q1:=hup i j hij (by omega)
    have e1:p.getD i 0=p.toList[i]:=by
     have:i<p.size:=by rw [hpm.sz];omega
     simp [Array.getD,this]
    have e2:p.getD j 0=p.toList[j]:=by
     have:j<p.size:=by rw [hpm.sz];omega
     simp [Array.getD,this]
    rw [e1,e2] at q1
    have m1:=List.mem_range.mp (hpm.pm.mem_iff.mp (List.getElem_mem hi))
    have m2:=List.mem_range.mp (hpm.pm.mem_iff.mp (List.getElem_mem hj))
    have ei:(zs.map (·.2)).getD p.toList[i] []=(zs.getD p.toList[i] (0,[])).2:=by rw [List.getD_eq_getElem?_getD,List.getD_eq_getElem?_getD,List.getElem?_map,List.getElem?_eq_getElem m1];rfl
    have ej:(zs.map (·.2)).getD p.toList[j] []=(zs.getD p.toList[j] (0,[])).2:=by rw [List.getD_eq_getElem?_getD,List.getD_eq_getElem?_getD,List.getElem?_map,List.getElem?_eq_getElem m2];rfl
    try dsimp only at q1
    rw [ei,ej] at q1
    exact q1
end
section
variable {X:Cx} {pins:List (Addr×Obj)} {σ:St} {H:Hp} {s:Shared}
theorem JG {zs:List (Addr×List Int)} {f l:Addr} {fo:Obj} {Q:VK} (I:Inv X ((f,fo) :: pins) σ H s) (hl:H l=some (.lst (zs.map fun z=>V.ref z.1))) (hz:∀ z∈zs,H z.1=some (.lst (z.2.map V.int))) (nd:(zs.map (·.2)).Nodup) (h60:zs.length≤60)
  (hu:X.A.in1.in1.units+2<cLine)
  (turn:∀ (H':Hp) (s':Shared) (pins':List (Addr×Obj)) (z:Addr×List Int),Inv X pins' σ H' s'->(f,fo)∈pins'->Same H H'->z∈zs ->
   wpAny (model X.prog X.w) X.A.in1.in1 (call (.ref f) [.ref z.1]) (EP X pins' σ fun v H2=>∃ p,v=.ref p∧H' p=none∧H2=upd H' p (.tup [.int z.2.length,.ref z.1])) (fun _ _=>False) s')
  (q:∀ (D:Addr) (H':Hp) (zs':List (Addr×List Int)),H D=none->Same H H'->H' D=none->zs'.Perm zs->zs'.Pairwise (fun x y=>HT.wV x.2 y.2=true)->Q (.ref D) (upd H' D (.lst (zs'.map fun z=>V.ref z.1)))) :
  wpAny (model X.prog X.w) X.A (call (.builtin "sorted") [.ref l] [(Str.ofString "key",.ref f)]) (EP X pins σ Q) X.xe s:=by
 obtain⟨its,r1,p1,_⟩:=I.list (SqL.of hl)
 have e1:=XQ r1
 subst e1
 have hvl:(zs.map fun z=>Value.ref z.1).length=zs.length:=List.length_map ..
 have hsl:(zs.map fun z=>Value.ref z.1).length≤sizeLine:=by rw [hvl,sizeLine_eq];omega
 refine call_function_entry_kw kind_sorted plain_sorted entry_sorted (ksk_s1 _ _) ?_
 unfold Builtin.«sorted»
 refine wpAny_bind (m:=checkCount "sorted" 1 1 _) (wpAny_pure (wpAny_bind (collect_list p1.isList (wpAny_bind (wpAny_newList ?_ hsl)) hsl)))
 generalize hB:(s.heap.push (seqObj "list" #[] 0)).update s.heap.objs.size (Obj.mapSeq (·++(zs.map fun z=>Value.ref z.1).toArray))=B
 have hsz:B.objs.size=s.heap.objs.size+1:=by rw [← hB,Heap.size_update,size_push']
 have keep:∀ b o,s.heap.get? b=some o->(B.push (seqObj "list" (zs.map fun z=>Value.ref z.1).toArray 0)).get? b=some o:=fun b o q=>by
  have hlt:b<s.heap.objs.size:=Heap.lt_size q
  rw [Heap.get?_push_ne _ _ _ (by rw [hsz];exact Nat.ne_of_lt (Nat.lt_succ_of_lt hlt)),← hB,Heap.get?_update_ne _ _ _ _ (Nat.ne_of_lt hlt),Heap.get?_push_ne _ _ _ (Nat.ne_of_lt hlt)];exact q
 have hoL:(B.push (seqObj "list" (zs.map fun z=>Value.ref z.1).toArray 0)).get? (s.heap.objs.size+1)=some (seqObj "list" (zs.map fun z=>Value.ref z.1).toArray 0):=by
  rw [← hsz];exact Heap.get?_push_size _ rfl
 have hszB:(B.push (seqObj "list" (zs.map fun z=>Value.ref z.1).toArray 0)).objs.size=s.heap.objs.size+2:=by rw [size_push',hsz]
 show wpAny _ _ _ _ _ { s with heap:=B.push (seqObj "list" (zs.map fun z=>Value.ref z.1).toArray 0) }
 dsimp only
 rw [hsz]
 refine wpAny_bind (wpAny_holding (wpAny_call_entry_kw slot_list_sort ⟨_,hoL,rfl⟩ entry_list_sort ?body (ksk_l1 _ _)))
 case body =>
  show wpAny (model X.prog X.w) X.A.in1.in1 (Builtin.«list.sort» ⟨[.ref (s.heap.objs.size+1)],[(Str.ofString "key",.ref f)]⟩) _ _ _
  rw [ksk_t1]
  unfold ksk_tree
  generalize hG:B.push (seqObj "list" (zs.map fun z=>Value.ref z.1).toArray 0)=G at keep hoL hszB
  generalize hLd:s.heap.objs.size+1=L at hoL
  have hLG:L<G.objs.size:=Heap.lt_size hoL
  obtain⟨e1,ho1⟩:∃ e1,(G.update L (Obj.mapSeq fun _=>(#[]:Array Value))).get? L=some (seqObj "list" #[] e1):=⟨_,get?_update_seq hoL fun _=>#[]⟩
  refine wpAny_bind (listItems_at (s:={ s with heap:=G }) hoL rfl ?_)
  refine wpAny_bind (listUpdate_at (s:={ s with heap:=G }) hoL rfl ?_ (by rw [List.size_toArray];exact hsl) (Nat.zero_le _))
  refine wpAny_bind (seqEpoch_at ho1 rfl ?_)
  refine wpAny_bind (wpAny_newTuple ?_ (by show (zs.map fun z=>Value.ref z.1).length≤_;exact hsl))
  refine wpAny_bind (wpAny_newList ?_ (Nat.zero_le _))
  refine wpAny_holding ?_
  generalize hM:(G.update L (Obj.mapSeq fun _=>(#[]:Array Value))).push (seqObj "tuple" (zs.map fun z=>Value.ref z.1).toArray 0)=M
  have hMs:M.objs.size=s.heap.objs.size+3:=by rw [← hM,size_push',Heap.size_update,hszB]
  have hkS:(M.push (seqObj "list" #[] 0)).get? (s.heap.objs.size+3)=some (seqObj "list" #[] 0):=by rw [← hMs];exact Heap.get?_push_size _ rfl
  have hL2:(M.push (seqObj "list" #[] 0)).get? L=some (seqObj "list" #[] e1):=Heap.get?_push_of_some _ (by rw [← hM];exact Heap.get?_push_of_some _ ho1)
  have keep2:∀ b o,s.heap.get? b=some o->(M.push (seqObj "list" #[] 0)).get? b=some o:=fun b o q=>by
   have hlt:b<s.heap.objs.size:=Heap.lt_size q
   refine Heap.get?_push_of_some _ ?_
   rw [← hM]
   refine Heap.get?_push_of_some _ ?_
   rw [Heap.get?_update_ne _ _ _ _ (by rw [← hLd];exact Nat.ne_of_lt (Nat.lt_succ_of_lt hlt))]
   exact keep b o q
  have La0:=I.late (a:=L) (by rw [← hLd];exact Nat.le_succ _)
  have Lk0:=I.late (a:=s.heap.objs.size+3) (by omega)
  have I1:Inv X ((f,fo) :: pins) σ H { s with heap:=M.push (seqObj "list" #[] 0),toks:=s.toks }:=I.kept keep2
  have hLn:H L=none:=I.hok.fresh (by rw [← hLd];exact Nat.le_succ _)
  have I2:Inv X ((f,fo) :: (L,seqObj "list" #[] e1) :: pins) σ H { s with heap:=M.push (seqObj "list" #[] 0),toks:=s.toks }:=I1.pins_of fun p hp=>by
   rcases List.mem_cons.mp hp with rfl | hp
   ·exact I1.pin _ (List.mem_append_right _ (.head _))
   ·rcases List.mem_cons.mp hp with rfl | hp
    ·exact⟨hL2,hLn,La0.lo,La0.fs,fun v z=>by cases z⟩
    ·exact I1.pin p (List.mem_append_right _ (.tail _ hp))
  have La:zbI X pins s.heap.objs.size L:=⟨La0.s0,La0.lo,La0.ce,La0.fs,fun p hp=>La0.pn p (by
   rcases List.mem_append.mp hp with h | h
   ·exact List.mem_append_left _ h
   ·exact List.mem_append_right _ (.tail _ h)),La0.ge⟩
  have Lk:zbI X ((f,fo) :: (L,seqObj "list" #[] e1) :: pins) s.heap.objs.size (s.heap.objs.size+3):=⟨Lk0.s0,Lk0.lo,Lk0.ce,Lk0.fs,fun p hp=>by
   rcases List.mem_append.mp hp with h | h
   ·exact Lk0.pn p (List.mem_append_left _ h)
   ·rcases List.mem_cons.mp h with rfl | h
    ·exact Lk0.pn _ (List.mem_append_right _ (.head _))
    ·rcases List.mem_cons.mp h with rfl | h
     ·show L≠_
      rw [← hLd];omega
     ·exact Lk0.pn p (List.mem_append_right _ (.tail _ h)),Lk0.ge⟩
  rw [hMs]
  refine zbX (s:={ s with heap:=M.push (seqObj "list" #[] 0) }) I2 La Lk hkS (I.hok.fresh (by omega)) hz nd h60 hu turn fun H' s' zs' I' sm hn pm pw=>⟨_,rfl,?_⟩
  exact wpAny_pure ⟨_,rfl,.ref L,_,I',rfl,q L H' zs' hLn sm hn pm pw⟩
end
section
variable {X:Cx} {σ:St} {H:Hp} {s:Shared} {params:Arguments} {body:Expr} {scope:Scope} {pos lpos kpos p:Pos} {c P:Addr} {y:Str} {e:Expr} {te:TE}
theorem zcK {pins:List (Addr×Obj)} {f c':Addr} {q:Str} {pm ct:Value} {k:Nat} {v:V} {u:Value} {Q:VK} (I:Inv X pins σ H s) (hf:(f,kla_obj "<lambda>" q params body scope [] pm c' ct)∈pins) (hL:zaF P lpos q H c') (S:zF [y] [y] scope) (hr:Room (k+1) X.A.in1.in1)
  (hb:∀ (pm ct:Value) (u:Value),bindArgs (kla_fn "<lambda>" q params body scope [] pm (.ref c') ct) ⟨[u],[]⟩=pure [(y,u)]) (rv:RelV v u)
  (hbody:∃ t,PE (Ys CX0 X.prog X.w X.K X.mg X.base [y] q scope f (.ref c') X.A.in1.in1 X.stack s H E0) body t∧t (start [y] [v]) H Q) :
  wpAny (model X.prog X.w) X.A.in1.in1 (call (.ref f) [u]) (EP X pins σ Q) (fun _ _=>False) s:=by
 have pf:=I.pin _ (List.mem_append_right X.pn hf)
 have hcd:s.heap.CodeRec (.ref c') q:=(I.hok c' _ hL.2).1
 refine wpAny_call (codeAny_mono (zde (k:=k) (N:=[y]) (ps:=[y]) (us:=[u]) (vs:=[v]) (E:=E0) pf.1 rfl hcd S hr I.env0.in1.in1 (BindsTo.of_eq (hb pm ct u)) rfl (.cons rv .nil) hbody) fun r s' hq=>?_)
 cases r with
 | error e=>exact hq
 | ok fl =>
  cases fl with
  | ret u=>exact I.after hq
  | next=>exact False.elim hq
  | brk=>exact False.elim hq
  | cont=>exact False.elim hq
def zb6 (P:Addr) (lpos:Pos) (q:Str) (te:TE):TE:=fun σ H Q=>te σ H fun x H1=>∃ (l:Addr) (zs:List (Addr×List Int)),x=.ref l∧H1 l=some (.lst (zs.map fun z=>V.ref z.1))∧(∀ z∈zs,H1 z.1=some (.lst (z.2.map V.int)))∧(zs.map (·.2)).Nodup∧zs.length≤60∧XM P lpos q H1 ∧
 ∀ (D:Addr) (zs':List (Addr×List Int)) (H2:Hp),H1 D=none->H2 D=none->(∀ b u,b≠P->H1 b=some u->H2 b=some u)->XM P lpos q H2->zs'.Perm zs->zs'.Pairwise (fun x y=>HT.wV x.2 y.2=true)->Q (.ref D) (upd H2 D (.lst (zs'.map fun z=>V.ref z.1)))
theorem J9 {k:Nat} (he:PE X e te) (hg:Gl X "sorted") (hm:X.mg "sorted" = none) (hr:Room (k+3) X.A) (hdef:defaultsOf params X.env=([],[])) (hcl:closureFor scope X.env=pure []) (hcode:X.env.code=.ref c) (hK:codeHdIn X.K c P=true) (hB:X.base.BuiltinsAt X.mg P) (hgP:mainGlobals≠P)
  (S:zF [y] [y] scope) (hb:∀ (pm cd ct:Value) (u:Value),bindArgs (kla_fn "<lambda>" (X.env.qual ++ "<lambda>") params body scope [] pm cd ct) ⟨[u],[]⟩=pure [(y,u)])
  (hbody:∀ (f c':Addr) (s:Shared) (H:Hp) (z:Addr×List Int),H z.1=some (.lst (z.2.map V.int))->∃ t,PE (Ys CX0 X.prog X.w X.K X.mg X.base [y] (X.env.qual ++ "<lambda>") scope f (.ref c') X.A.in1.in1 X.stack s H E0) body t ∧
   t (start [y] [.ref z.1]) H fun v H2=>∃ p,v=.ref p∧H p=none∧H2=upd H p (.tup [.int z.2.length,.ref z.1]))
  (hs1:starEach [e] X.env=[(false,eval e X.env)]:=by rfl) :
  PE X (.Call (.Name "sorted" p) [e] [⟨some "key",.Lambda params body scope lpos,kpos⟩] pos) (zb6 P lpos (X.env.qual ++ "<lambda>") te):=by
 intro pins s σ H Q I h
 refine wpAny_Call_Name_kw (Yv I hg hm boot_sorted ?_ (by decide) (by decide))
 have ha:PA X [e] (Zf te WQ):=zf he zm hs1
 refine callWith_kw (thn (ha pos pins s σ H (fun vs H1=>match vs with
  | [x]=>∃ (l:Addr) (zs:List (Addr×List Int)),x=.ref l∧H1 l=some (.lst (zs.map fun z=>V.ref z.1))∧(∀ z∈zs,H1 z.1=some (.lst (z.2.map V.int)))∧(zs.map (·.2)).Nodup∧zs.length≤60∧XM P lpos (X.env.qual ++ "<lambda>") H1 ∧
   ∀ (D:Addr) (zs':List (Addr×List Int)) (H2:Hp),H1 D=none->H2 D=none->(∀ b u,b≠P->H1 b=some u->H2 b=some u)->XM P lpos (X.env.qual ++ "<lambda>") H2->zs'.Perm zs->zs'.Pairwise (fun x y=>HT.wV x.2 y.2=true)->Q (.ref D) (upd H2 D (.lst (zs'.map fun z=>V.ref z.1)))
  | _=>False) I h) fun us s1 ⟨vs,H1,I1,r1,q1⟩=>?_) (by rw [hs1];rfl) (by rw [hs1];rfl)
 match vs,q1 with
 | [x],q1 =>
  obtain⟨l,zs,rfl,hl,hz,nd,h60,hT,q⟩:=q1
  obtain⟨u,rfl,rx⟩:=vals1 r1
  cases rx
  show wpAny _ _ (evalAll ((do let v ← eval (.Lambda params body scope lpos) X.env;standAt pos;pure v) :: [])) _ _ s1
  refine wpAny_evalAll_cons (wpAny_bind (zb3 I1 hdef hcl hcode hK hB hgP hT fun f c' H2 s2 pm ct I2 hL hfo hfn hsz up=>wpAny_bind (wpAny_standAt (wpAny_pure ?_))))
  refine wpAny_evalAll_nil ?_
  have Lf:=I1.late hsz
  have I3:Inv X ((f,kla_obj "<lambda>" (X.env.qual ++ "<lambda>") params body scope [] pm c' ct) :: pins) σ H2 s2:=I2.pins_of fun p hp=>by
   rcases List.mem_cons.mp hp with rfl | hp
   ·exact⟨hfo,hfn,Lf.lo,Lf.fs,fun v z=>by cases z⟩
   ·exact I2.pin p (List.mem_append_right _ hp)
  have hPl:∀ b xs,H1 b=some (.lst xs)->b≠P:=fun b xs e z=>by
   rw [z] at e
   rcases hT with t | ⟨c2,t,_⟩
   ·rw [t] at e;cases e
   ·rw [t] at e;cases e
  have hr2:Room (k+1) X.A.in1.in1:=(hr.in1).in1
  show wpAny _ _ (call (.builtin "sorted") [.ref l] [(Str.ofString "key",.ref f)]) _ _ s2
  refine JG I3 (up _ _ (hPl _ _ hl) hl) (fun z hzm=>up _ _ (hPl _ _ (hz z hzm)) (hz z hzm)) nd h60 (by have:=hr2.units;omega) (fun H' s' pins' z I' hf sm hzm=>?_) fun D H' zs' hD sm hn pm pw=>?_
  ·have hL':zaF P lpos (X.env.qual ++ "<lambda>") H' c':=⟨sm _ _ hL.1,sm _ _ hL.2⟩
   exact zcK (v:=.ref z.1) I' hf hL' S hr2 (fun pm ct u=>hb pm (.ref c') ct u) rfl (hbody f c' s' H' z (sm _ _ (up _ _ (hPl _ _ (hz z hzm)) (hz z hzm))))
  ·refine q D zs' H' ?_ hn (fun b u hb e=>sm _ _ (up b u hb e)) (.inr ⟨c',sm _ _ hL.1,sm _ _ hL.2⟩) pm pw
   cases e:H1 D with
   | none=>rfl
   | some u =>
    by_cases hDP:D=P
    ·rw [hDP,hL.1] at hD;cases hD
    ·rw [up D u hDP e] at hD;cases hD
end
theorem zbE {P:Program} {w:World} {K:Frag} {mg mb:Str->Option Value} {CX:CXT} {k:Nat} {fa a c T:Addr} {fd:FuncData} {x:Str} {sp:Sp} {s₁:Shared} {vs:List Value} {ns:List Int}
  (KX:K.In s₁.heap) (hns:s₁.heap.Ns mainGlobals mg) (hb:s₁.heap.Ns builtinsNs mb) (hbb:∀ x:Str,x ≠ "__name__"->mb x=bootBuiltins x) (hlim:s₁.heap.NoLimit) (hg:s₁.gens=#[])
  (hBM:∃ bm ob,mg "__builtins__" = some (.ref bm)∧bm≠builtinsNs∧s₁.heap.get? bm=some ob∧ob.cls=.type "module"∧ob.dict=some builtinsNs∧ob.data=.plain)
  (hT:s₁.heap.get? T=some (tabObj #[])) (hKT:K.lookup T=none) (hcT:codeHdIn K c T=true)
  (ha:s₁.heap.get? a=some { cls:=.type "list",data:=.seq vs.toArray }) (hi:IntsAre vs ns) (hl:ns.length≤sizeLine) (hr:Room k callerA)
  (F:∀ base:Heap,K.In base->base.Ns mainGlobals mg->base.BuiltinsAt mg T->FnOk P w K mg base CX k fa fd [x] sp) (hbind:∀ (s:Shared) (u:Value),BindsTo s fd ⟨[u],[]⟩ [(x,u)])
  (hsp:∀ H:Hp,H T=some (.tbl #[])->SqL K H a (ns.map V.int)->sp [.ref a] H (fun v _=>v=.bl true) fun _ _ _=>False)
  (hCX:∀ H e s',CX [] H s₁ (fun _ _ _=>False) e s'->False) :
  codeAny (model P w) callerA (.call (.ref fa) ⟨[.ref a],[]⟩) (fun r s'=>r=.ok (.ret (.bool true))∧OldK s₁.heap s'.heap∧s'.os=s₁.os∧AllBare s'.gens) s₁:=by
 have rv:=Xi hi
 have lenV:=hi.length
 have tabT:s₁.heap.TableAt c T #[]:=(codeHd_of_K KX hcT).tab hT
 have core:∀ H:Hp,H T=some (.tbl #[])->SqL K H a (ns.map V.int)->HOk P w H s₁.heap->(∀ b,H b≠none->b=a∨b=T)->(∀ b,b≠T->H b=none∨∃ o xs,H b=some (.frz o (.lst xs)))->(∀ b,H b≠none->K.lookup b=none) ->
   codeAny (model P w) callerA (.call (.ref fa) ⟨[.ref a],[]⟩) (fun r s'=>r=.ok (.ret (.bool true))∧OldK s₁.heap s'.heap∧s'.os=s₁.os∧AllBare s'.gens) s₁:=by
  intro H hHT hS hok hA hO hK
  have base_of:∀ {b:Addr} {o:Obj},s₁.heap.get? b=some o->H b=none->(V1 s₁.heap H).get? b=some o:=fun e n=>zb7 e n
  have noA:∀ {b:Addr} {o:Obj},s₁.heap.get? b=some o->(∀ xs n,o.data≠.seq xs n)->(∀ ps,o.data≠.fields ps)->H b=none:=fun {b o} e d1 d2=>by
   cases q:H b with
   | none=>rfl
   | some u =>
    rcases hA b (by rw [q];simp) with e' | e'
    ·subst e'
     rw [ha] at e;cases e
     exact absurd rfl (d1 _ _)
    ·subst e'
     rw [hT] at e;cases e
     exact absurd rfl (d2 _)
  have nsK:∀ {b:Addr} {m:Str->Option Value},s₁.heap.Ns b m->(V1 s₁.heap H).Ns b m:=fun {b m} ⟨o,es,ep,e,d,r⟩=>⟨o,es,ep,base_of e (noA e (fun xs n z=>by rw [d] at z;cases z) (fun ps z=>by rw [d] at z;cases z)),d,r⟩
  have hKb:K.In (V1 s₁.heap H):=fun b o e=>base_of (KX b o e) (by
   cases q:H b with
   | none=>rfl
   | some u=>rw [hK b (by rw [q];simp)] at e;cases e)
  have hM:Mod K mg (V1 s₁.heap H):=⟨hKb,nsK hns,⟨mb,nsK hb,hbb⟩,let ⟨mc,h1,h2⟩:=hlim;⟨mc,nsK h1,h2⟩⟩
  have hBA:(V1 s₁.heap H).BuiltinsAt mg T:=by
   obtain⟨bm,ob,b1,b2,b3,b4,b5,b6⟩:=hBM
   refine⟨bm,ob,b1,b2,fun z=>?_,fun z=>?_,base_of b3 (noA b3 (fun xs n z=>by rw [b6] at z;cases z) (fun ps z=>by rw [b6] at z;cases z)),b4,b5,b6⟩
   ·obtain⟨o,es,ep,e,hd,_⟩:=hns
    rw [z,e] at b3;cases b3
    rw [hd] at b6;cases b6
   ·rw [z,hT] at b3;cases b3;cases b4
  have e0:Env0 P w K mg (V1 s₁.heap H) callerA [] s₁ H:=⟨rfl,hM,fun b o e=>zdC e,Nat.le_of_eq (zbL _ _),trivial,fun b hb=>absurd (show b∈([]:List Addr) from hb) (by simp),hok,.of_eq hg⟩
  refine codeAny_mono ((F _ hKb (nsK hns) hBA).run callerA [] s₁ H ⟨[.ref a],[]⟩ [.ref a] [.ref a] _ _ hr e0 (hbind s₁ (.ref a)) (.cons rfl .nil) (hsp H hHT hS)) fun r s' h=>?_
  cases r with
  | error e=>exact (hCX H e s' h).elim
  | ok fl =>
   cases fl with
   | next=>exact False.elim h
   | brk=>exact False.elim h
   | cont=>exact False.elim h
   | ret u =>
    obtain⟨v,H',os,bare,un,hok',r',q⟩:=h
    have q':v=.bl true:=q
    subst q'
    obtain rfl:u=Value.bool true:=r'
    have oth:∀ b o,b≠T->s₁.heap.get? b=some o->s'.heap.get? b=some o:=fun b o hbT e=>by
     cases q:H b with
     | none=>exact un.keep b o e q (by intro z;exact absurd (show b∈([]:List Addr) from z) (by simp)) (by simp)
     | some u =>
      rcases hO b hbT with z | ⟨ob,xs,z⟩
      ·rw [q] at z;cases z
      ·have z2:=un.frzs b ob _ z
       obtain⟨e1,_⟩:=hok b _ z
       obtain⟨e2,_⟩:=hok' b _ z2
       rw [e] at e1;cases e1
       exact e2
    obtain⟨more,hm⟩:=un.tbls T _ hHT
    have hTm:s'.heap.get? T=some { cls:=.none,data:=.fields (#[]++more) }:=hok' T _ hm
    refine⟨rfl,⟨fun b o e=>?_,fun b o e=>?_⟩,os,bare⟩
    ·by_cases hbT:b=T
     ·subst hbT
      rw [hT] at e;cases e
      exact .inr (.inl ⟨tabT.isCodeTable,rfl,#[],more,rfl,hTm⟩)
     ·exact .inl (oth b o hbT e)
    ·by_cases hbT:b=T
     ·subst hbT;exact⟨_,hTm⟩
     ·exact⟨o,oth b o hbT e⟩
 have hTa:T≠a:=fun z=>by rw [z,ha] at hT;cases hT
 cases hk:K.lookup a with
 | some o =>
  have e:=KX a o hk
  rw [ha] at e
  cases e
  refine core (fun b=>if b=T then some (.tbl #[]) else none) (if_pos rfl) (.inr ⟨_,vs.toArray,_,hk,rfl,rfl,rfl,by rw [List.size_toArray,lenV];exact hl,by simpa using rv⟩) (fun b u z=>?_) (fun b z=>?_) (fun b hb=>.inl (if_neg hb)) fun b z=>?_
  ·by_cases hb:b=T
   ·have z':=(if_pos hb).symm.trans z
    cases z'
    subst hb
    exact hT
   ·have z':=(if_neg hb).symm.trans z
    cases z'
  ·by_cases hb:b=T
   ·exact .inr hb
   ·exact absurd (if_neg hb) z
  ·by_cases hb:b=T
   ·rw [hb];exact hKT
   ·exact absurd (if_neg hb) z
 | none =>
  refine core (fun b=>if b=a then some (.frz { cls:=.type "list",data:=.seq vs.toArray } (.lst (ns.map V.int))) else if b=T then some (.tbl #[]) else none) (by rw [if_neg hTa,if_pos rfl]) (.inl (.inr ⟨{ cls:=.type "list",data:=.seq vs.toArray },if_pos rfl⟩)) (fun b u z=>?_) (fun b z=>?_) (fun b hb=>?_) fun b z=>?_
  ·by_cases hb:b=a
   ·have z':=(if_pos hb).symm.trans z
    cases z'
    subst hb
    exact⟨ha,by rw [List.length_map];exact hl,vs,_,rv,ha⟩
   ·have z':=(if_neg hb).symm.trans z
    by_cases hb2:b=T
    ·have z2:=(if_pos hb2).symm.trans z'
     cases z2
     subst hb2
     exact hT
    ·have z2:=(if_neg hb2).symm.trans z'
     cases z2
  ·by_cases hb:b=a
   ·exact .inl hb
   ·by_cases hb2:b=T
    ·exact .inr hb2
    ·exact absurd (by rw [if_neg hb,if_neg hb2]) z
  ·by_cases hba:b=a
   ·exact .inr ⟨_,_,if_pos hba⟩
   ·exact .inl (by rw [if_neg hba,if_neg hb])
  ·by_cases hb:b=a
   ·rw [hb];exact hk
   ·by_cases hb2:b=T
    ·rw [hb2];exact hKT
    ·exact absurd (by rw [if_neg hb,if_neg hb2]) z
theorem zfn {l:PySem.W.OpenLaw} {n k:Nat} {q:Program} {loose:List Str} {XP:(Str->Option Value)->Heap->Prop} {YP:World->Heap->Prop} {d:DefRec} {K:Params->PySem.W.Frag} {sp:World->Sp} {x:Str} {c T:Addr}
  (hn:l.most=some n) (hn2:n≤sizeLine) (hdf:d.params.defaults=[]) (hr:Room k callerA)
  (hY:∀ (w:World) (h:Heap),YP w h->(K w.params).In h) (hYT:∀ (w:World) (h:Heap),YP w h->h.get? T=some (tabObj #[])) (hKT:∀ w:World,(K w.params).lookup T=none) (hcT:∀ w:World,codeHdIn (K w.params) c T=true)
  (F:∀ (w:World) (mg:Str->Option Value) (fa:Addr) (h:Heap),(K w.params).In h->h.Ns mainGlobals mg->mg d.name=some (.ref fa) ->
   ∃ fd:FuncData,(∀ (s:Shared) (u:Value),BindsTo s fd ⟨[u],[]⟩ [(x,u)]) ∧
    ∀ base:Heap,(K w.params).In base->base.Ns mainGlobals mg->base.BuiltinsAt mg T->FnOk l.prog w (K w.params) mg base CX0 k fa fd [x] (sp w))
  (hsp:∀ (w:World) (H:Hp) (a:Addr) (ns:List Int),ns.length≤n->H T=some (.tbl #[])->SqL (K w.params) H a (ns.map V.int)->sp w [.ref a] H (fun v _=>v=.bl true) fun _ _ _=>False) :
  PySem.W.WalkO q loose XP YP l.row.toRowW d [] (fun f vs=>PySem.call f vs):=by
 refine Att.Jm hn hdf fun w s₀ s₁ mg mb fa o pm cd doc a vs ns G Y ho hd hcd hmg hobj hints hlen hg=>?_
 have KX:=hY w _ Y
 obtain⟨fd,hb,hF⟩:=F w mg fa _ KX G.T.g hmg
 exact zbE KX G.T.g G.T.b G.T.builtins G.T.nolimit hg G.T.bmain (hYT w _ Y) (hKT w) (hcT w) hobj hints (Nat.le_trans hlen hn2) hr hF hb (fun H hO hS=>hsp w H a ns hlen hO hS) fun H e s' h=>h
end L2
namespace Lw
def yf (b n:Nat):List Int:=if h:2≤b∧b≤n then yf b (n / b)++[((n % b:Nat):Int)] else [(n:Int)]
termination_by n
decreasing_by exact Nat.div_lt_self (by omega) (by omega)
theorem w5 {b n:Nat} (h:n<b):yf b n=[(n:Int)]:=by
 rw [yf,dif_neg (by omega)]
theorem YK {b n:Nat} (h2:2≤b) (h:b≤n):yf b n=yf b (n / b)++[((n % b:Nat):Int)]:=by
 rw [yf,dif_pos ⟨h2,h⟩]
theorem Jg {b:Nat} (h2:2≤b):∀ (n:Nat),∀ f∈yf b n,0≤f∧f<b:=by
 intro n
 induction n using Nat.strongRecOn with
 | _ n ih =>
  intro f hf
  by_cases hn:n<b
  ·rw [w5 hn] at hf
   have:f=(n:Int):=by simpa using hf
   omega
  ·rw [YK h2 (by omega)] at hf
   rcases List.mem_append.mp hf with hf | hf
   ·exact ih (n / b) (Nat.div_lt_self (by omega) (by omega)) f hf
   ·have e:f=((n % b:Nat):Int):=by simpa using hf
    have:=Nat.mod_lt n (show 0<b by omega)
    omega
theorem zaS {b n:Nat}:yf b n≠[]:=by
 rw [yf]
 split
 ·simp
 ·simp
def tops (b:Nat):Nat->Nat->List Int
 | 0,n=>[((n / b^0:Nat):Int)]
 | k+1,n=>((n / b^(k+1):Nat):Int) :: tops b k (n % b^(k+1))
theorem Uu {b:Nat}:∀ (k n:Nat),tops b (k+1) n=tops b k (n / b)++[((n % b:Nat):Int)]
 | 0,n=>by simp [tops]
 | k+1,n=>by
  rw [tops,Uu k (n % b^(k+2)),tops,List.cons_append]
  have e:b^(k+1+1)=b*b^(k+1):=by rw [Nat.pow_succ,Nat.mul_comm]
  have e1:n % b^(k+1+1) / b=n / b % b^(k+1):=by rw [e,Nat.mod_mul_right_div_self]
  have e2:n % b^(k+1+1) % b=n % b:=by rw [e,Nat.mod_mul_right_mod]
  have e3:n / b^(k+1+1)=n / b / b^(k+1):=by rw [e,Nat.div_div_eq_div_mul]
  rw [e1,e2,e3]
theorem ZX {b:Nat} (h2:2≤b):∀ (k n:Nat),n<b^(k+1)->(k=0∨b^k≤n)->tops b k n=yf b n
 | 0,n,h,_=>by
  rw [w5 (by simpa using h)];simp [tops]
 | k+1,n,h,hk=>by
  have hge:b^(k+1)≤n:=by
   rcases hk with z | z
   ·omega
   ·exact z
  have hb:b≤n:=Nat.le_trans (by rw [Nat.pow_succ];exact Nat.le_mul_of_pos_left b (Nat.pow_pos (by omega))) hge
  rw [Uu,YK h2 hb]
  have h3:n / b<b^(k+1):=by
   rw [Nat.div_lt_iff_lt_mul (by omega),← Nat.pow_succ];exact h
  have h4:b^k≤n / b:=by
   rw [Nat.le_div_iff_mul_le (by omega),← Nat.pow_succ];exact hge
  rw [ZX h2 k (n / b) h3 (.inr h4)]
theorem Je {b:Nat}:∀ (k n:Nat),(tops b k n).length=k+1
 | 0,n=>rfl
 | k+1,n=>by rw [tops,List.length_cons,Je k]
def zcs (b:Int) (ns:List Int):Int:=ns.foldl (fun n f=>n*b+f) 0
theorem zbF (b f:Int) (ns:List Int):zcs b (ns++[f])=zcs b ns*b+f:=by
 unfold zcs;rw [List.foldl_append];rfl
structure zfR (b:Nat) (ns:List Int):Prop where
 ne:ns≠[]
 len:ns.length≤200
 fig:∀ f∈ns,0≤f∧f<b
 first:ns.head?≠some 0∨ns.length=1
def u9 (st fs:List Int):Bool:=(List.range fs.length).any fun k=>decide ((fs.drop k).take st.length=st)
theorem yW {st fs:List Int} (h:st≠[]):u9 st fs=true↔∃ k,(fs.drop k).take st.length=st:=by
 unfold u9
 simp only [List.any_eq_true,List.mem_range,decide_eq_true_eq]
 constructor
 ·rintro⟨k,_,e⟩;exact⟨k,e⟩
 ·rintro⟨k,e⟩
  refine⟨k,?_,e⟩
  have hl:=congrArg List.length e
  rw [List.length_take,List.length_drop] at hl
  have:0<st.length:=List.length_pos_iff.mpr h
  omega
theorem J0 {st fs:List Int} (h:st≠[]):u9 st fs=(List.range ((fs.length:Int)-st.length+1).toNat).any fun k=>decide ((fs.drop k).take st.length=st):=by
 rw [Bool.eq_iff_iff,yW h]
 simp only [List.any_eq_true,List.mem_range,decide_eq_true_eq]
 constructor
 ·rintro⟨k,e⟩
  refine⟨k,?_,e⟩
  have hl:=congrArg List.length e
  rw [List.length_take,List.length_drop] at hl
  have:0<st.length:=List.length_pos_iff.mpr h
  omega
 ·rintro⟨k,_,e⟩;exact⟨k,e⟩
def lacks (ls:List (List Int)) (fs:List Int):Bool:=!ls.any fun st=>u9 st fs
theorem Ux {b:Nat} (h2:2≤b):∀ n:Nat,0<n->(yf b n).head?≠some 0:=by
 intro n
 induction n using Nat.strongRecOn with
 | _ n ih =>
  intro hn
  by_cases h:n<b
  ·rw [w5 h];simp;omega
  ·rw [YK h2 (by omega)]
   have q:=ih (n / b) (Nat.div_lt_self hn (by omega)) (Nat.div_pos (by omega) (by omega))
   cases e:yf b (n / b) with
   | nil=>exact absurd e zaS
   | cons x y=>rw [e] at q;simpa using q
theorem zbC {b n f:Nat} (h2:2≤b) (hn:0<n) (hf:f<b):yf b (n*b+f)=yf b n++[(f:Int)]:=by
 have hge:b≤n*b+f:=Nat.le_trans (Nat.le_mul_of_pos_left b hn) (Nat.le_add_right _ _)
 have e1:(n*b+f) / b=n:=by rw [Nat.mul_comm,Nat.mul_add_div (by omega),Nat.div_eq_of_lt hf];rfl
 have e2:(n*b+f) % b=f:=by rw [Nat.mul_comm,Nat.mul_add_mod,Nat.mod_eq_of_lt hf]
 rw [YK h2 hge,e1,e2]
theorem Xh {b:Nat} (h2:2≤b):∀ (k:Nat) (st:List Int),st.length=k->st≠[]->(∀ f∈st,0≤f∧f<(b:Int))->(st.head?≠some 0∨st.length=1)->∃ n:Nat,zcs b st=n∧yf b n=st∧(st.head?≠some 0->0<n):=by
 intro k
 induction k with
 | zero=>intro st hk ne;exact absurd (List.eq_nil_of_length_eq_zero hk) ne
 | succ k ih =>
  intro st hk ne hf h0
  obtain⟨ini,x,rfl⟩:∃ ini x,st=ini++[x]:=⟨st.dropLast,st.getLast ne,(List.dropLast_concat_getLast ne).symm⟩
  have hx:=hf x (by simp)
  obtain⟨g,rfl⟩:=Int.eq_ofNat_of_zero_le hx.1
  cases hi:ini with
  | nil =>
   subst hi
   refine⟨g,by simp [zcs],by rw [w5 (by omega)];rfl,fun h=>?_⟩
   have:(g:Int)≠0:=by simpa using h
   omega
  | cons y ys =>
   have hne:ini≠[]:=by rw [hi];simp
   have hhead:ini.head?≠some 0:=by
    rcases h0 with h | h
    ·rw [hi] at h ⊢;simpa using h
    ·rw [hi] at h;simp at h
   obtain⟨m,e1,e2,e3⟩:=ih ini (by simpa using hk) hne (fun f hm=>hf f (by simp [hm])) (.inl hhead)
   have hm:=e3 hhead
   rw [← hi]
   refine⟨m*b+g,?_,?_,fun _=>?_⟩
   ·rw [zbF,e1];push_cast;rfl
   ·rw [zbC h2 hm (by omega),e2]
   ·have:=Nat.le_mul_of_pos_right m (show 0<b by omega);omega
theorem zc1 {st fs gs:List Int} (h:st≠[]) (q:u9 st fs=true):u9 st (fs++gs)=true:=by
 rw [yW h] at q ⊢
 obtain⟨k,e⟩:=q
 refine⟨k,?_⟩
 have hl:=congrArg List.length e
 rw [List.length_take,List.length_drop] at hl
 have hp:0<st.length:=List.length_pos_iff.mpr h
 rw [List.drop_append_of_le_length (by omega),List.take_append_of_le_length (by rw [List.length_drop];omega)]
 exact e
theorem xX {ls:List (List Int)} {fs gs:List Int} (ne:∀ l∈ls,l≠[]) (h:lacks ls (fs++gs)=true):lacks ls fs=true:=by
 unfold lacks at *
 rw [Bool.not_eq_true',List.any_eq_false] at h ⊢
 intro l hl q
 exact h l hl (zc1 (ne l hl) q)
theorem JW {ls:List (List Int)} {st:List Int} (h:st∈ls) (ne:st≠[]) (pre:List Int):lacks ls (pre++st)=false:=by
 unfold lacks
 rw [Bool.not_eq_false',List.any_eq_true]
 refine⟨st,h,(yW ne).mpr ⟨pre.length,?_⟩⟩
 rw [List.drop_left,List.take_of_length_le (Nat.le_refl _)]
def tD (ls:List (List Int)) (fs:List Int):Bool:=ls.any fun st=>decide (st.take fs.length=fs)
def zA (ls:List (List Int)):List Int->List Int
 | []=>[]
 | x :: fs=>if tD ls (x :: fs) then x :: fs else zA ls fs
theorem qp {ls:List (List Int)}:∀ (i:Nat) (fs:List Int),i≤fs.length->(∀ k,k<i->tD ls (fs.drop k)=false)->zA ls fs=zA ls (fs.drop i)
 | 0,_,_,_=>rfl
 | i+1,[],h,_=>by simp at h
 | i+1,x :: fs,h,q=>by
  have h0:=q 0 (by omega)
  rw [List.drop_zero] at h0
  rw [zA,if_neg (by rw [h0];decide),List.drop_succ_cons]
  exact qp i fs (by simpa using h) fun k hk=>by have:=q (k+1) (by omega);rwa [List.drop_succ_cons] at this
theorem Vq {ls:List (List Int)} {fs:List Int} (h:tD ls fs=true):zA ls fs=fs:=by
 cases fs with
 | nil=>rfl
 | cons x fs=>rw [zA,if_pos h]
theorem Q0 {ls:List (List Int)} {fs:List Int} {i:Nat} (hi:i≤fs.length) (h:∀ k,k<i->tD ls (fs.drop k)=false) (q:tD ls (fs.drop i)=true):zA ls fs=fs.drop i:=by
 rw [qp i fs hi h,Vq q]
theorem W8 {ls:List (List Int)} {fs:List Int} (h:∀ k,k<fs.length->tD ls (fs.drop k)=false):zA ls fs=[]:=by
 rw [qp fs.length fs (Nat.le_refl _) h,List.drop_length];rfl
def jj (ls:List (List Int)) (x:List Int):Prop:=x=[]∨∃ st∈ls,∃ k,1≤k∧k<st.length∧x=st.take k∧lacks ls x=true
structure StandsL (ls:List (List Int)) (xs:List (List Int)):Prop where
 mem:∀ x,x∈xs↔jj ls x
 up:xs.Pairwise fun x y=>HT.wV x y=true
theorem QZ {ls:List (List Int)} (h:∀ st∈ls,st.length≤4) {x:List Int} (q:jj ls x):x.length≤3:=by
 rcases q with rfl | ⟨st,hst,k,h1,h2,rfl,_⟩
 ·decide
 ·have:=h st hst
  rw [List.length_take];omega
theorem zbd {ls:List (List Int)} {y:List Int} {x:Int} (h:tD ls (y++[x])=true):tD ls y=true:=by
 unfold tD at *
 rw [List.any_eq_true] at h ⊢
 obtain⟨st,hst,q⟩:=h
 refine⟨st,hst,decide_eq_true ?_⟩
 have q:=of_decide_eq_true q
 have e:=congrArg (List.take y.length) q
 rw [List.take_left,List.take_take,List.length_append] at e
 rw [Nat.min_eq_left (by omega)] at e
 exact e
theorem jH {ls:List (List Int)}:∀ fs:List Int,∃ j,j≤fs.length∧zA ls fs=fs.drop j∧(∀ k,k<j->tD ls (fs.drop k)=false)∧(j<fs.length->tD ls (fs.drop j)=true)
 | []=>⟨0,Nat.le_refl _,rfl,fun k hk=>by omega,fun h=>by simp at h⟩
 | x :: fs=>by
  by_cases h:tD ls (x :: fs)=true
  ·exact⟨0,Nat.zero_le _,by rw [zA,if_pos h];rfl,fun k hk=>by omega,fun _=>h⟩
  ·obtain⟨j,h1,h2,h3,h4⟩:=jH (ls:=ls) fs
   refine⟨j+1,by rw [List.length_cons];omega,by rw [zA,if_neg h,h2,List.drop_succ_cons],fun k hk=>?_,fun hj=>by rw [List.drop_succ_cons];exact h4 (by rw [List.length_cons] at hj;omega)⟩
   cases k with
   | zero=>rw [List.drop_zero];simpa using h
   | succ k=>rw [List.drop_succ_cons];exact h3 k (by omega)
theorem yx {ls:List (List Int)} (fs:List Int) (x:Int):zA ls (zA ls fs++[x])=zA ls (fs++[x]):=by
 obtain⟨j,h1,h2,h3,_⟩:=jH (ls:=ls) fs
 rw [h2,qp j (fs++[x]) (by rw [List.length_append];omega) (fun k hk=>?_),List.drop_append_of_le_length h1]
 rw [List.drop_append_of_le_length (by omega)]
 cases e:tD ls (fs.drop k++[x]) with
 | false=>rfl
 | true=>rw [← h3 k hk,zbd e]
theorem zbo {st fs:List Int} (ne:st≠[]) {j:Nat} (h:u9 st (fs.drop j)=true):u9 st fs=true:=by
 rw [yW ne] at h ⊢
 obtain⟨k,e⟩:=h
 exact⟨j+k,by rw [← List.drop_drop];exact e⟩
theorem WW {ls:List (List Int)} (ne:∀ l∈ls,l≠[]) {fs:List Int} (j:Nat) (h:lacks ls fs=true):lacks ls (fs.drop j)=true:=by
 unfold lacks at *
 rw [Bool.not_eq_true',List.any_eq_false] at h ⊢
 intro st hst q
 exact h st hst (zbo (ne st hst) q)
theorem yC {ls:List (List Int)} (ne:∀ l∈ls,l≠[]) {fs:List Int} (x:Int) (h:lacks ls fs=true):lacks ls (zA ls fs++[x])=lacks ls (fs++[x]):=by
 obtain⟨j,h1,h2,h3,_⟩:=jH (ls:=ls) fs
 rw [h2,← List.drop_append_of_le_length h1]
 rw [Bool.eq_iff_iff]
 constructor
 ·intro q
  unfold lacks at *
  rw [Bool.not_eq_true',List.any_eq_false] at h q ⊢
  intro st hst hs
  rw [yW (ne st hst)] at hs
  obtain⟨k,e⟩:=hs
  have hp:0<st.length:=List.length_pos_iff.mpr (ne st hst)
  have hl:=congrArg List.length e
  rw [List.length_take,List.length_drop,List.length_append,List.length_singleton] at hl
  by_cases hin:k+st.length≤fs.length
  ·refine h st hst ((yW (ne st hst)).mpr ⟨k,?_⟩)
   rw [List.drop_append_of_le_length (by omega),List.take_append_of_le_length (by rw [List.length_drop];omega)] at e
   exact e
  ·have hk:k+st.length=fs.length+1:=by omega
   rw [List.take_of_length_le (by rw [List.length_drop,List.length_append,List.length_singleton];omega)] at e
   by_cases hkj:j≤k
   ·refine q st hst ((yW (ne st hst)).mpr ⟨k-j,?_⟩)
    rw [List.drop_drop,show j+(k-j)=k by omega,e,List.take_of_length_le (Nat.le_refl _)]
   ·have h3k:=h3 k (by omega)
    rw [List.drop_append_of_le_length (by omega)] at e
    unfold tD at h3k
    rw [List.any_eq_false] at h3k
    refine h3k st hst (decide_eq_true ?_)
    rw [← e,List.take_left]
 ·intro q
  exact WW ne j q
theorem uA {ls:List (List Int)} (ne:∀ l∈ls,l≠[]) {fs:List Int} (h:lacks ls fs=true):jj ls (zA ls fs):=by
 obtain⟨j,h1,h2,_,h4⟩:=jH (ls:=ls) fs
 rw [h2]
 by_cases hj:j<fs.length
 ·have q:=h4 hj
  unfold tD at q
  rw [List.any_eq_true] at q
  obtain⟨st,hst,q⟩:=q
  have q:=of_decide_eq_true q
  have hl:=congrArg List.length q
  rw [List.length_take] at hl
  have hlen:(fs.drop j).length=fs.length-j:=List.length_drop ..
  have hlk:=WW ne j h
  refine .inr ⟨st,hst,(fs.drop j).length,by omega,?_,q.symm,hlk⟩
  by_cases hlt:(fs.drop j).length<st.length
  ·exact hlt
  ·exfalso
   have hle:st.length≤(fs.drop j).length:=by omega
   rw [List.take_of_length_le hle] at q
   unfold lacks at hlk
   rw [Bool.not_eq_true',List.any_eq_false] at hlk
   refine hlk st hst ((yW (ne st hst)).mpr ⟨0,?_⟩)
   rw [List.drop_zero,← q,List.take_of_length_le (Nat.le_refl _)]
 ·left
  exact List.drop_of_length_le (by omega)
theorem StandsL.first {ls xs:List (List Int)} (a:StandsL ls xs):∃ r,xs=[] :: r:=by
 have h0:([]:List Int)∈xs:=(a.mem []).mpr (.inl rfl)
 cases xs with
 | nil=>cases h0
 | cons x r =>
  rcases List.mem_cons.mp h0 with e | e
  ·exact⟨r,by rw [e]⟩
  ·have:=(List.pairwise_cons.mp a.up).1 [] e
   unfold HT.wV at this
   by_cases hl:x.length=([]:List Int).length
   ·have:x=[]:=List.eq_nil_of_length_eq_zero hl
    exact⟨r,by rw [this]⟩
   ·rw [if_neg hl] at this
    have:=of_decide_eq_true this
    simp at this
def cnt (ls:List (List Int)) (b:Nat):Nat->List Int->Nat
 | 0,_=>1
 | t+1,x=>((List.range b).map fun (c:Nat)=>if lacks ls (x++[(c:Int)])=true then cnt ls b t (zA ls (x++[(c:Int)])) else 0).sum
def qQ (b:Nat):Nat->Nat->List Int
 | 0,_=>[]
 | t+1,r=>((r / b^t:Nat):Int) :: qQ b t (r % b^t)
def many (p:Nat->Bool):Nat->Nat
 | 0=>0
 | n+1=>many p n+(if p n=true then 1 else 0)
theorem uE {p q:Nat->Bool}:∀ {N:Nat},(∀ n,n<N->p n=q n)->many p N=many q N
 | 0,_=>rfl
 | N+1,h=>by rw [many,many,uE (N:=N) fun n hn=>h n (by omega),h N (by omega)]
theorem ZP {p:Nat->Bool}:∀ {N:Nat},(∀ n,n<N->p n=false)->many p N=0
 | 0,_=>rfl
 | N+1,h=>by rw [many,ZP (N:=N) fun n hn=>h n (by omega),h N (by omega)];rfl
theorem qG (p:Nat->Bool) (A:Nat):∀ B:Nat,many p (A+B)=many p A+many (fun n=>p (A+n)) B
 | 0=>rfl
 | B+1=>by rw [← Nat.add_assoc,many,many,qG p A B,Nat.add_assoc]
theorem Vy (p:Nat->Bool) (B:Nat):∀ A:Nat,many p (A*B)=((List.range A).map fun c=>many (fun r=>p (c*B+r)) B).sum
 | 0=>by simp [many]
 | A+1=>by
  rw [Nat.succ_mul,qG,Vy p B A,List.range_succ,List.map_append,List.sum_append]
  simp
theorem tZ (p:Nat->Bool) {A B:Nat} (h:A≤B):many p A≤many p B:=by
 obtain⟨k,rfl⟩:=Nat.exists_eq_add_of_le h
 rw [qG];omega
theorem vI (p:Nat->Bool) {A B:Nat} (h:A<B) (q:p A=true):many p A<many p B:=by
 have e:many p (A+1)=many p A+1:=by rw [many,if_pos q]
 have:=tZ p (A:=A+1) (B:=B) h
 omega
theorem Jt {p q:Nat->Bool} (h:∀ n,p n=true->q n=true):∀ N:Nat,many p N≤many q N
 | 0=>Nat.le_refl _
 | N+1=>by
  have i:=Jt h N
  rw [many,many]
  by_cases e:p N=true
  ·rw [if_pos e,if_pos (h N e)];omega
  ·rw [if_neg e];omega
theorem W5 {p:Nat->Bool}:∀ {N:Nat},0<many p N->∃ n,n<N∧p n=true
 | 0,h=>by simp [many] at h
 | N+1,h=>by
  by_cases e:p N=true
  ·exact⟨N,by omega,e⟩
  ·rw [many,if_neg e] at h
   obtain⟨n,hn,q⟩:=W5 (N:=N) (by omega)
   exact⟨n,by omega,q⟩
theorem Y9 {b t c r:Nat} (hr:r<b^t):qQ b (t+1) (c*b^t+r)=(c:Int) :: qQ b t r:=by
 have h0:0<b^t:=by omega
 rw [qQ,Nat.add_comm,Nat.add_mul_div_right _ _ h0,Nat.div_eq_of_lt hr,Nat.zero_add,Nat.add_mul_mod_self_right,Nat.mod_eq_of_lt hr]
theorem Ye {f g:Nat->Nat}:∀ {N:Nat},(∀ c,c<N->f c=g c)->((List.range N).map f).sum=((List.range N).map g).sum:=by
 intro N h
 congr 1
 apply List.map_congr_left
 intro c hc
 exact h c (List.mem_range.mp hc)
theorem VG {ls:List (List Int)} (ne:∀ l∈ls,l≠[]) {b t:Nat} (ih:∀ x,lacks ls x=true->many (fun r=>lacks ls (x++qQ b t r)) (b^t)=cnt ls b t (zA ls x)) {x:List Int} (c:Nat) :
  many (fun r=>lacks ls (x++qQ b (t+1) (c*b^t+r))) (b^t)=if lacks ls (x++[(c:Int)])=true then cnt ls b t (zA ls (x++[(c:Int)])) else 0:=by
 have e1:many (fun r=>lacks ls (x++qQ b (t+1) (c*b^t+r))) (b^t)=many (fun r=>lacks ls (x++[(c:Int)]++qQ b t r)) (b^t):=by
  apply uE
  intro r hr
  show lacks ls _=lacks ls _
  rw [Y9 hr,List.append_assoc]
  rfl
 rw [e1]
 by_cases h:lacks ls (x++[(c:Int)])=true
 ·rw [if_pos h,ih _ h]
 ·rw [if_neg h]
  apply ZP
  intro r _
  cases hc:lacks ls (x++[(c:Int)]++qQ b t r) with
  | false=>rfl
  | true=>exact absurd (xX ne hc) h
theorem Wq {ls:List (List Int)} (ne:∀ l∈ls,l≠[]) {b:Nat}:∀ (t:Nat) (x:List Int),lacks ls x=true->many (fun r=>lacks ls (x++qQ b t r)) (b^t)=cnt ls b t (zA ls x)
 | 0,x,h=>by
  rw [Nat.pow_zero,many,many,cnt,qQ,List.append_nil,if_pos h]
 | t+1,x,h=>by
  rw [Nat.pow_succ',Vy,cnt]
  apply Ye
  intro c _
  rw [VG ne (Wq ne t),yC ne _ h,yx]
def gd (ls:List (List Int)) (b n:Nat):Bool:=lacks ls (yf b n)
theorem Vu {b:Nat}:∀ (t n:Nat),qQ b (t+1) n=tops b t n
 | 0,n=>by simp [qQ,tops]
 | t+1,n=>by rw [qQ,Vu t,tops]
theorem zcm {b t c r:Nat} (h2:2≤b) (h1:1≤c) (hc:c<b) (hr:r<b^t):yf b (c*b^t+r)=(c:Int) :: qQ b t r:=by
 rw [← Y9 hr,Vu]
 refine (ZX h2 t _ ?_ (.inr ?_)).symm
 ·rw [Nat.pow_succ']
  have:(c+1)*b^t≤b*b^t:=Nat.mul_le_mul_right _ hc
  rw [Nat.succ_mul] at this
  omega
 ·have:1*b^t≤c*b^t:=Nat.mul_le_mul_right _ h1
  omega
def yt (ls:List (List Int)) (b:Nat):Nat->Nat
 | 0=>if lacks ls [0]=true then 1 else 0
 | t+1=>((List.range b).map fun (c:Nat)=>if c=0 then yt ls b t else if lacks ls [(c:Int)]=true then cnt ls b t (zA ls [(c:Int)]) else 0).sum
theorem Ur {ls:List (List Int)} (ne:∀ l∈ls,l≠[]) {b t c:Nat} (h2:2≤b) (h1:1≤c) (hc:c<b):many (fun r=>gd ls b (c*b^t+r)) (b^t)=if lacks ls [(c:Int)]=true then cnt ls b t (zA ls [(c:Int)]) else 0:=by
 have e:=VG (x:=[]) ne (b:=b) (t:=t) (Wq ne t) c
 rw [List.nil_append] at e
 rw [← e]
 apply uE
 intro r hr
 show gd ls b _=lacks ls _
 rw [gd,zcm h2 h1 hc hr,List.nil_append,Y9 hr]
theorem yu {ls:List (List Int)} (ne:∀ l∈ls,l≠[]) {b:Nat} (h2:2≤b):∀ t:Nat,yt ls b t=many (gd ls b) (b^t)
 | 0=>by
  rw [Nat.pow_zero,many,many,yt,Nat.zero_add]
  unfold gd
  rw [w5 (show 0<b by omega)]
  rfl
 | t+1=>by
  rw [Nat.pow_succ',Vy,yt]
  apply Ye
  intro c hc
  by_cases h0:c=0
  ·subst h0
   rw [if_pos rfl,yu ne h2 t]
   apply uE
   intro r _
   rw [Nat.zero_mul,Nat.zero_add]
  ·rw [if_neg h0,Ur ne h2 (by omega) hc]
theorem U6 {ls:List (List Int)} (ne:∀ l∈ls,l≠[]):∀ (g:List Int) {x y:List Int},lacks ls x=true->lacks ls y=true->zA ls x=zA ls y->lacks ls (x++g)=lacks ls (y++g)∧(lacks ls (x++g)=true->zA ls (x++g)=zA ls (y++g))
 | [],x,y,hx,hy,e=>by
  rw [List.append_nil,List.append_nil,hx,hy]
  exact⟨rfl,fun _=>e⟩
 | c :: g,x,y,hx,hy,e=>by
  have e1:lacks ls (x++[c])=lacks ls (y++[c]):=by rw [← yC ne c hx,← yC ne c hy,e]
  have e2:zA ls (x++[c])=zA ls (y++[c]):=by rw [← yx x c,← yx y c,e]
  have a1:x++c :: g=x++[c]++g:=by rw [List.append_assoc];rfl
  have a2:y++c :: g=y++[c]++g:=by rw [List.append_assoc];rfl
  rw [a1,a2]
  by_cases h:lacks ls (x++[c])=true
  ·exact U6 ne g h (e1▸h) e2
  ·have f1:lacks ls (x++[c]++g)=false:=by
    cases hc:lacks ls (x++[c]++g) with
    | false=>rfl
    | true=>exact absurd (xX ne hc) h
   have f2:lacks ls (y++[c]++g)=false:=by
    cases hc:lacks ls (y++[c]++g) with
    | false=>rfl
    | true=>exact absurd (e1▸xX ne hc) h
   rw [f1,f2]
   exact⟨rfl,fun z=>by cases z⟩
theorem Zr {α:Type} [DecidableEq α]:∀ (xs ws:List α),(∀ x∈xs,x∈ws)->ws.length<xs.length->∃ (i j:Nat) (x:α),i<j∧xs[i]?=some x∧xs[j]?=some x
 | [],ws,_,h=>by simp at h
 | x :: xs,ws,hm,h=>by
  by_cases hx:x∈xs
  ·obtain⟨j,hj⟩:=List.getElem?_of_mem hx
   exact⟨0,j+1,x,by omega,rfl,by simpa using hj⟩
  ·have hxw:=hm x List.mem_cons_self
   obtain⟨i,j,z,hij,h1,h2⟩:=Zr xs (ws.erase x) (fun y hy=>(List.mem_erase_of_ne (fun e:y=x=>hx (by rw [← e];exact hy))).mpr (hm y (List.mem_cons_of_mem _ hy))) (by
    rw [List.length_erase_of_mem hxw]
    rw [List.length_cons] at h
    have:0<ws.length:=List.length_pos_of_mem hxw
    omega)
   exact⟨i+1,j+1,z,by omega,by simpa using h1,by simpa using h2⟩
theorem xg {ls:List (List Int)} (ne:∀ l∈ls,l≠[]) {fs:List Int} (k:Nat) (h:lacks ls fs=true):lacks ls (fs.take k)=true:=by
 apply xX (gs:=fs.drop k) ne
 rw [List.take_append_drop];exact h
theorem zf5 {ls ws:List (List Int)} (ne:∀ l∈ls,l≠[]) (SL:StandsL ls ws) {fs:List Int} (hL:lacks ls fs=true) (hlen:ws.length<fs.length) (L:Nat) :
  ∃ gs:List Int,gs.length=L+1∧lacks ls gs=true∧gs.head?=fs.head?∧∀ f∈gs,f∈fs:=by
 have hx:∀ x∈(List.range fs.length).map (fun i=>zA ls (fs.take (i+1))),x∈ws:=by
  intro x hx
  obtain⟨i,_,rfl⟩:=List.mem_map.mp hx
  exact (SL.mem _).mpr (uA ne (xg ne _ hL))
 obtain⟨i,j,z,hij,h1,h2⟩:=Zr _ ws hx (by rw [List.length_map,List.length_range];exact hlen)
 rw [List.getElem?_map] at h1 h2
 obtain⟨i',hi,e1⟩:=Option.map_eq_some_iff.mp h1
 obtain⟨j',hj,e2⟩:=Option.map_eq_some_iff.mp h2
 obtain⟨hi1,hi2⟩:=List.getElem?_eq_some_iff.mp hi
 obtain⟨hj1,hj2⟩:=List.getElem?_eq_some_iff.mp hj
 rw [List.getElem_range] at hi2 hj2
 subst hi2 hj2
 rw [List.length_range] at hi1 hj1
 let seg:=(fs.drop (i+1)).take (j-i)
 have hseg:fs.take (i+1)++seg=fs.take (j+1):=by
  show fs.take (i+1)++(fs.drop (i+1)).take (j-i)=_
  have e:j+1=(i+1)+(j-i):=by omega
  rw [e]
  exact (List.take_add (l:=fs) (i:=i+1) (j:=j-i)).symm
 have hsl:seg.length=j-i:=by
  show ((fs.drop (i+1)).take (j-i)).length=_
  rw [List.length_take,List.length_drop];omega
 have round:∀ k:Nat,∃ gs:List Int,lacks ls gs=true∧zA ls gs=zA ls (fs.take (i+1))∧gs.length=i+1+k*(j-i)∧gs.head?=fs.head?∧∀ f∈gs,f∈fs:=by
  intro k
  induction k with
  | zero =>
   refine⟨fs.take (i+1),xg ne _ hL,rfl,by rw [List.length_take];omega,?_,fun f hf=>List.mem_of_mem_take hf⟩
   cases fs with
   | nil=>simp at hi1
   | cons f r=>rfl
  | succ k ih =>
   obtain⟨gs,g1,g2,g3,g4,g5⟩:=ih
   have q:=U6 ne seg g1 (xg ne (i+1) hL) g2
   rw [hseg] at q
   have l1:lacks ls (gs++seg)=true:=by rw [q.1];exact xg ne _ hL
   refine⟨gs++seg,l1,?_,?_,?_,?_⟩
   ·rw [q.2 l1,e2,← e1]
   ·rw [List.length_append,g3,hsl,Nat.succ_mul];omega
   ·cases gs with
    | nil=>simp at g3;omega
    | cons g r=>exact g4
   ·intro f hf
    rcases List.mem_append.mp hf with h | h
    ·exact g5 f h
    ·exact List.mem_of_mem_drop (List.mem_of_mem_take h)
 obtain⟨gs,g1,g2,g3,g4,g5⟩:=round L
 have hbig:L+1≤gs.length:=by
  rw [g3]
  have:L*1≤L*(j-i):=Nat.mul_le_mul_left _ (by omega)
  omega
 refine⟨gs.take (L+1),by rw [List.length_take];omega,xg ne _ g1,?_,fun f hf=>g5 f (List.mem_of_mem_take hf)⟩
 rw [← g4]
 cases gs with
 | nil=>rfl
 | cons g r=>rfl
theorem Xo {b n k:Nat} (h2:2≤b) (hn:n<b^(k+1)) (h:k=0∨b^k≤n):(yf b n).length=k+1:=by
 rw [← ZX h2 k n hn h,Je]
theorem U7 {b:Nat} (h2:2≤b) (n:Nat):∃ k,n<b^(k+1)∧(k=0∨b^k≤n):=by
 have key:∀ K:Nat,n<b^(K+1)->∃ k,n<b^(k+1)∧(k=0∨b^k≤n):=by
  intro K
  induction K with
  | zero=>intro h;exact⟨0,h,.inl rfl⟩
  | succ K ih =>
   intro h
   by_cases q:n<b^(K+1)
   ·exact ih q
   ·exact⟨K+1,h,.inr (by omega)⟩
 refine key n ?_
 have:n<2^n:=Nat.lt_two_pow_self
 have h3:2^n≤b^n:=Nat.pow_le_pow_left h2 n
 have h4:b^n≤b^(n+1):=Nat.pow_le_pow_right (by omega) (Nat.le_succ n)
 omega
theorem qL {b n k:Nat} (h2:2≤b):(yf b n).length=k+1↔n<b^(k+1)∧(k=0∨b^k≤n):=by
 refine⟨fun h=>?_,fun h=>Xo h2 h.1 h.2⟩
 obtain⟨m,h1,h3⟩:=U7 h2 n
 have e:=Xo h2 h1 h3
 rw [h] at e
 obtain rfl:k=m:=by omega
 exact⟨h1,h3⟩
def Z8 (ls:List (List Int)) (b t:Nat):Option (List Int)->Nat->Nat
 | some x,c=>if lacks ls (x++[(c:Int)])=true then cnt ls b t (zA ls (x++[(c:Int)])) else 0
 | none,c=>if c=0 then yt ls b t else if lacks ls [(c:Int)]=true then cnt ls b t (zA ls [(c:Int)]) else 0
def under (ls:List (List Int)) (b t:Nat) (o:Option (List Int)) (s:Nat):Nat:=((List.range s).map (Z8 ls b t o)).sum
theorem Yo (ls:List (List Int)) (b t:Nat) (o:Option (List Int)):under ls b t o 0=0:=rfl
theorem qK (ls:List (List Int)) (b t:Nat) (o:Option (List Int)) (s:Nat):under ls b t o (s+1)=under ls b t o s+Z8 ls b t o s:=by
 unfold under
 rw [List.range_succ,List.map_append,List.sum_append]
 simp
def Rep (ls:List (List Int)) (b m:Nat) (o:Option (List Int)):Prop:=(m=0∧o=none)∨(1≤m∧gd ls b m=true∧o=some (zA ls (yf b m)))
theorem wG {b m c:Nat} (h2:2≤b) (h1:1≤m) (hc:c<b):yf b (m*b+c)=yf b m++[(c:Int)]:=by
 have hge:b≤m*b+c:=by
  have:1*b≤m*b:=Nat.mul_le_mul_right b h1
  omega
 rw [YK h2 hge]
 have e1:(m*b+c) / b=m:=by rw [Nat.add_comm,Nat.add_mul_div_right _ _ (by omega),Nat.div_eq_of_lt hc,Nat.zero_add]
 have e2:(m*b+c) % b=c:=by rw [Nat.add_comm,Nat.add_mul_mod_self_right,Nat.mod_eq_of_lt hc]
 rw [e1,e2]
theorem UV {b m c:Nat} (h2:2≤b) (h1:1≤m):1≤m*b+c:=by
 have:1*b≤m*b:=Nat.mul_le_mul_right b h1
 omega
theorem jC {b m:Nat} (h2:2≤b) (h1:1≤m):∀ (t r:Nat),r<b^t->yf b (m*b^t+r)=yf b m++qQ b t r
 | 0,r,hr=>by
  have:r=0:=by rw [Nat.pow_zero] at hr;omega
  subst this
  rw [Nat.pow_zero,Nat.mul_one,Nat.add_zero,qQ,List.append_nil]
 | t+1,r,hr=>by
  have hp:0<b^t:=Nat.pow_pos (by omega)
  have hc:r / b^t<b:=by
   rw [Nat.div_lt_iff_lt_mul hp]
   rw [Nat.pow_succ',] at hr
   exact hr
  have hm:r % b^t<b^t:=Nat.mod_lt _ hp
  have e:m*b^(t+1)+r=(m*b+r / b^t)*b^t+r % b^t:=by
   have h:=Nat.div_add_mod r (b^t)
   rw [Nat.pow_succ',Nat.add_mul,Nat.mul_assoc,Nat.add_assoc,Nat.mul_comm (r / b^t),h]
  have h1':1≤m*b+r / b^t:=UV h2 h1
  rw [e,jC h2 h1' t _ hm,wG h2 h1 hc,qQ,List.append_assoc]
  rfl
theorem zaB {ls:List (List Int)} (ne:∀ l∈ls,l≠[]) {b m:Nat} {o:Option (List Int)} (h2:2≤b) (R:Rep ls b m o) (t:Nat) {c:Nat} (hc:c<b):Z8 ls b t o c=many (fun r=>gd ls b ((m*b+c)*b^t+r)) (b^t):=by
 rcases R with ⟨rfl,rfl⟩ | ⟨h1,hg,rfl⟩
 ·rw [Nat.zero_mul,Nat.zero_add]
  show (if c=0 then _ else _)=_
  by_cases h0:c=0
  ·subst h0
   rw [if_pos rfl,yu ne h2]
   apply uE
   intro r _
   rw [Nat.zero_mul,Nat.zero_add]
  ·rw [if_neg h0,Ur ne h2 (by omega) hc]
 ·have e:=VG (x:=yf b m) ne (b:=b) (t:=t) (Wq ne t) c
  show (if lacks ls (zA ls (yf b m)++[(c:Int)])=true then cnt ls b t (zA ls (zA ls (yf b m)++[(c:Int)])) else 0)=_
  rw [yC ne _ hg,yx,← e]
  apply uE
  intro r hr
  show lacks ls _=gd ls b _
  rw [gd,jC h2 (UV h2 h1) t r hr,wG h2 h1 hc,Y9 hr,List.append_assoc]
  rfl
theorem qD {ls:List (List Int)} (ne:∀ l∈ls,l≠[]) {b m:Nat} {o:Option (List Int)} (h2:2≤b) (R:Rep ls b m o) (t:Nat):∀ {s:Nat},s≤b->many (gd ls b) (m*b^(t+1))+under ls b t o s=many (gd ls b) ((m*b+s)*b^t)
 | 0,_=>by rw [Yo,Nat.add_zero,Nat.pow_succ',show (m*b+0)*b^t=m*(b*b^t) by rw [Nat.add_zero,Nat.mul_assoc]]
 | s+1,hs=>by
  rw [qK,← Nat.add_assoc,qD ne h2 R t (s:=s) (by omega),zaB ne h2 R t (show s<b by omega),← Nat.add_assoc,Nat.succ_mul (m*b+s),qG]
theorem Rep.step {ls:List (List Int)} (ne:∀ l∈ls,l≠[]) {b m:Nat} {o:Option (List Int)} (h2:2≤b) (R:Rep ls b m o) {c:Nat} (hc:c<b) :
  (o=none∧c=0∧Rep ls b (m*b+c) none)∨(¬ (o=none∧c=0)∧((lacks ls (o.getD []++[(c:Int)])=true∧Rep ls b (m*b+c) (some (zA ls (o.getD []++[(c:Int)]))))∨(lacks ls (o.getD []++[(c:Int)])=false∧1≤m*b+c∧gd ls b (m*b+c)=false))):=by
 rcases R with ⟨rfl,rfl⟩ | ⟨h1,hg,rfl⟩
 ·by_cases h0:c=0
  ·left;exact⟨rfl,h0,.inl ⟨by rw [h0];omega,rfl⟩⟩
  ·right
   refine⟨fun z=>h0 z.2,?_⟩
   rw [Nat.zero_mul,Nat.zero_add]
   show (lacks ls [(c:Int)]=true∧_)∨(lacks ls [(c:Int)]=false∧_)
   have eg:gd ls b c=lacks ls [(c:Int)]:=by unfold gd;rw [w5 hc]
   cases hl:lacks ls [(c:Int)] with
   | true=>left;exact⟨rfl,.inr ⟨by omega,by rw [eg];exact hl,by rw [w5 hc];rfl⟩⟩
   | false=>right;exact⟨rfl,by omega,by rw [eg];exact hl⟩
 ·right
  refine⟨fun z=>(nomatch z.1),?_⟩
  have hm:1≤m*b+c:=UV h2 h1
  show (lacks ls (zA ls (yf b m)++[(c:Int)])=true∧Rep ls b (m*b+c) (some (zA ls (zA ls (yf b m)++[(c:Int)]))))∨(lacks ls (zA ls (yf b m)++[(c:Int)])=false∧_)
  rw [yC ne _ hg,yx]
  have eg:gd ls b (m*b+c)=lacks ls (yf b m++[(c:Int)]):=by unfold gd;rw [wG h2 h1 hc]
  cases hl:lacks ls (yf b m++[(c:Int)]) with
  | true=>left;exact⟨rfl,.inr ⟨hm,by rw [eg];exact hl,by rw [wG h2 h1 hc]⟩⟩
  | false=>right;exact⟨rfl,hm,by rw [eg];exact hl⟩
theorem zcU {ls:List (List Int)} (ne:∀ l∈ls,l≠[]) {b m:Nat} (h2:2≤b) (h1:1≤m) (hg:gd ls b m=false) (t:Nat) {r:Nat} (hr:r≤b^t):many (gd ls b) (m*b^t+r)=many (gd ls b) (m*b^t):=by
 rw [qG,ZP (N:=r)]
 ·omega
 intro k hk
 show gd ls b _=false
 cases hc:gd ls b (m*b^t+k) with
 | false=>rfl
 | true =>
  unfold gd at hc hg
  rw [jC h2 h1 t k (by omega)] at hc
  rw [xX ne hc] at hg
  cases hg
theorem Jw {b:Nat}:∀ {t n k:Nat},k<t->n<b^t->(qQ b t n)[k]?=some (((n / b^(t-1-k)) % b:Nat):Int)
 | 0,_,_,hk,_=>by omega
 | t+1,n,0,_,hn=>by
  have:n / b^t<b:=by
   rw [Nat.pow_succ'] at hn
   rcases Nat.eq_zero_or_pos (b^t) with h | h
   ·rw [h] at hn;omega
   ·rw [Nat.div_lt_iff_lt_mul h];exact hn
  rw [qQ,List.getElem?_cons_zero,show t+1-1-0=t by omega,Nat.mod_eq_of_lt this]
 | t+1,n,k+1,hk,hn=>by
  have hb:0<b:=by
   rcases Nat.eq_zero_or_pos b with h | h
   ·subst h;rw [Nat.zero_pow (by omega)] at hn;omega
   ·exact h
  rw [qQ,List.getElem?_cons_succ,Jw (by omega) (Nat.mod_lt _ (Nat.pow_pos hb))]
  have e:t+1-1-(k+1)=t-1-k:=by omega
  rw [e]
  generalize hj:t-1-k=j
  obtain⟨q,hq⟩:∃ q,t=j+(q+1):=⟨t-j-1,by omega⟩
  rw [hq,Nat.pow_add,Nat.mod_mul_right_div_self,Nat.pow_succ',Nat.mod_mul_right_mod]
theorem zcF {b n N k:Nat} (h2:2≤b) (hN:(yf b n).length=N) (hk:k<N):(yf b n)[k]?=some (((n / b^(N-1-k)) % b:Nat):Int):=by
 obtain⟨K,rfl⟩:∃ K,N=K+1:=⟨N-1,by omega⟩
 obtain⟨h1,h3⟩:=(qL h2).mp hN
 rw [← ZX h2 K n h1 h3,← Vu]
 exact Jw hk h1
theorem uU {b n N:Nat} (h2:2≤b) (hN:(yf b n).length=N):n<b^N:=by
 cases N with
 | zero=>exact absurd (List.length_eq_zero_iff.mp hN) zaS
 | succ K=>exact ((qL h2).mp hN).1
theorem zcV {b n t:Nat} (hb:0<b):n / b^t=n / b^(t+1)*b+(n / b^t) % b:=by
 have h:=Nat.div_add_mod (n / b^t) b
 rw [Nat.div_div_eq_div_mul,← Nat.pow_succ,Nat.mul_comm] at h
 exact h.symm
theorem zcC {ls:List (List Int)} (ne:∀ l∈ls,l≠[]) {b h t r:Nat} (h2:2≤b) (h1:1≤h) (hr:r<b^t) (hg:gd ls b (h*b^t+r)=true):gd ls b h=true:=by
 unfold gd at *
 rw [jC h2 h1 t r hr] at hg
 exact xX ne hg
theorem zag {p:Nat->Bool} {g n:Nat} (hg:p g=true) (h:many p n≤many p g):n≤g:=by
 by_cases z:n≤g
 ·exact z
 ·have:=vI p (show g<n by omega) hg
  omega
theorem zcI {ls ws:List (List Int)} (ne:∀ l∈ls,l≠[]) (SL:StandsL ls ws) {b n:Nat} (h2:2≤b) (hg:gd ls b n=true) (hn:0<n) (hlen:ws.length<(yf b n).length) (L:Nat):∃ g,gd ls b g=true∧b^L≤g∧g<b^(L+1):=by
 obtain⟨gs,g1,g2,g3,g4⟩:=zf5 ne SL (fs:=yf b n) hg hlen L
 have hh:=Ux h2 n hn
 have hgs:gs≠[]:=fun z=>by rw [z] at g1;simp at g1
 have hhead:gs.head?≠some 0:=by rw [g3];exact hh
 obtain⟨m,_,e2,e3⟩:=Xh h2 (L+1) gs g1 hgs (fun f hf=>Jg h2 n f (g4 f hf)) (.inl hhead)
 have hs:(yf b m).length=L+1:=by rw [e2];exact g1
 obtain⟨a1,a2⟩:=(qL h2).mp hs
 refine⟨m,by unfold gd;rw [e2];exact g2,?_,a1⟩
 rcases a2 with z | z
 ·subst z
  rw [Nat.pow_zero]
  exact e3 hhead
 ·exact z
theorem zbK {ls ms:List (List Int)} (h:∀ l∈ls,l∈ms) {fs:List Int} (q:lacks ms fs=true):lacks ls fs=true:=by
 unfold lacks at *
 rw [Bool.not_eq_true',List.any_eq_false] at q ⊢
 intro st hst
 exact q st (h st hst)
theorem zbA {ls ms:List (List Int)} (h:∀ l∈ls,l∈ms) (b n:Nat):many (gd ms b) n≤many (gd ls b) n:=Jt (fun k q=>zbK h q) n
def tot (p:Nat->Bool) (f:Nat->Nat):Nat->Nat
 | 0=>0
 | n+1=>tot p f n+(if p n=true then f n else 0)
def tt (ls:List (List Int)) (b:Nat) (w:Nat->Nat) (sc:Nat):Nat->List Int->Nat
 | 0,_=>0
 | t+1,x=>((List.range b).map fun (c:Nat)=>if lacks ls (x++[(c:Int)])=true then sc^t*w c*cnt ls b t (zA ls (x++[(c:Int)]))+tt ls b w sc t (zA ls (x++[(c:Int)])) else 0).sum
theorem zda {p:Nat->Bool} {A B:Nat} (h:many p A<many p B):∃ g,p g=true∧A≤g∧g<B:=by
 have hAB:A≤B:=by
  by_cases z:A≤B
  ·exact z
  ·have:=tZ p (show B≤A by omega);omega
 obtain⟨k,rfl⟩:=Nat.exists_eq_add_of_le hAB
 rw [qG] at h
 obtain⟨n,hn,hp⟩:=W5 (N:=k) (p:=fun n=>p (A+n)) (by omega)
 exact⟨A+n,hp,by omega,by omega⟩
def End (ls:List (List Int)) (b:Nat):Prop:=∀ L:Nat,∃ g,gd ls b g=true∧b^L≤g∧g<b^(L+1)
theorem zbl {b g k:Nat} (h2:2≤b) (h:b^k≤g):k<(yf b g).length:=by
 obtain⟨j,h1,h3⟩:=U7 h2 g
 rw [Xo h2 h1 h3]
 have:b^k<b^(j+1):=Nat.lt_of_le_of_lt h h1
 exact (Nat.pow_lt_pow_iff_right (show 1<b by omega)).mp this
theorem zcD {ls ws:List (List Int)} (ne:∀ l∈ls,l≠[]) (SL:StandsL ls ws) {b g k:Nat} (h2:2≤b) (hg:gd ls b g=true) (h:b^k≤g) (hk:ws.length≤k):End ls b:=fun L =>
 zcI ne SL h2 hg (Nat.lt_of_lt_of_le (Nat.pow_pos (by omega)) h) (Nat.lt_of_le_of_lt hk (zbl h2 h)) L
theorem zef {ls:List (List Int)} {b:Nat} (h:End ls b) (k:Nat):many (gd ls b) (b^k)<many (gd ls b) (b^(k+1)):=by
 obtain⟨g,h1,h2,h3⟩:=h k
 exact Nat.lt_of_le_of_lt (tZ _ h2) (vI _ h3 h1)
theorem JP {ls ws:List (List Int)} (ne:∀ l∈ls,l≠[]) (SL:StandsL ls ws) {b:Nat} (h2:2≤b) (h:yt ls b ws.length<yt ls b (ws.length+1)):End ls b:=by
 rw [yu ne h2,yu ne h2] at h
 obtain⟨g,h1,h3,_⟩:=zda h
 exact zcD ne SL h2 h1 h3 (Nat.le_refl _)
theorem XH {ls ws:List (List Int)} (ne:∀ l∈ls,l≠[]) (SL:StandsL ls ws) {b:Nat} (h2:2≤b) (h:¬ yt ls b ws.length<yt ls b (ws.length+1)) {g:Nat} (hg:gd ls b g=true):g<b^ws.length:=by
 by_cases z:b^ws.length≤g
 ·have e:=zef (zcD ne SL h2 hg z (Nat.le_refl _)) ws.length
  rw [yu ne h2,yu ne h2] at h
  exact absurd e h
 ·omega
end Lw
namespace L2
open PySem PySem.Spec PyProof.Rows
section
variable {κ:Type} [DecidableEq κ]
def yH (kvs:List (κ×V)) (k:κ):Option V:=(kvs.find? fun kv=>decide (kv.1=k)).map (·.2)
def putK (kvs:List (κ×V)) (k:κ) (v:V):List (κ×V) :=
 if (kvs.any fun kv=>decide (kv.1=k))=true then kvs.map (fun kv=>if kv.1=k then (kv.1,v) else kv) else kvs++[(k,v)]
def zd3 (kvs:List (κ×V)) (k:κ):List (κ×V):=kvs.filter fun kv=>decide (kv.1≠k)
theorem yV {p:κ×V} {r:List (κ×V)} {k:κ} (e:p.1=k):yH (p :: r) k=some p.2:=by simp [yH,List.find?_cons,e]
theorem xf {p:κ×V} {r:List (κ×V)} {k:κ} (e:¬ p.1=k):yH (p :: r) k=yH r k:=by simp [yH,List.find?_cons,e]
theorem qt (k:κ):∀ kvs:List (κ×V),(kvs.any fun kv=>decide (kv.1=k))=(yH kvs k).isSome
 | []=>rfl
 | p :: r=>by
  rw [List.any_cons]
  by_cases e:p.1=k
  ·simp only [yV e,decide_eq_true e,Bool.true_or,Option.isSome_some]
  ·rw [xf e,decide_eq_false e,Bool.false_or];exact qt k r
theorem Jo (k j:κ) (y:V):∀ kvs:List (κ×V),yH (kvs.map fun kv=>if kv.1=k then (kv.1,y) else kv) j=(yH kvs j).map fun x=>if j=k then y else x
 | []=>rfl
 | p :: r=>by
  have ih:=Jo k j y r
  rw [List.map_cons]
  by_cases h:p.1=k
  ·rw [if_pos h]
   by_cases e:p.1=j
   ·rw [yV (p:=(p.1,y)) e,yV e,Option.map_some,if_pos (e.symm.trans h)]
   ·rw [xf (p:=(p.1,y)) e,xf e,ih]
  ·rw [if_neg h]
   by_cases e:p.1=j
   ·rw [yV (p:=p) e,yV e,Option.map_some,if_neg (fun z=>h (e.trans z))]
   ·rw [xf (p:=p) e,xf e,ih]
theorem Us (k j:κ) (y:V):∀ kvs:List (κ×V),yH kvs k=none->yH (kvs++[(k,y)]) j=if j=k then some y else yH kvs j
 | [],_=>by
  by_cases e:k=j
  ·rw [if_pos e.symm];exact yV (p:=(k,y)) e
  ·rw [if_neg (fun z=>e z.symm)];exact xf (p:=(k,y)) e
 | p :: r,hn=>by
  rw [List.cons_append]
  have hk:¬ p.1=k:=fun z=>by rw [yV z] at hn;cases hn
  rw [xf hk] at hn
  have ih:=Us k j y r hn
  by_cases e:p.1=j
  ·rw [yV e,yV e,if_neg (fun z=>hk (e.trans z))]
  ·rw [xf e,xf e,ih]
theorem Ww (kvs:List (κ×V)) (k j:κ) (y:V):yH (putK kvs k y) j=if j=k then some y else yH kvs j:=by
 unfold putK
 by_cases a:(kvs.any fun kv=>decide (kv.1=k))=true
 ·rw [if_pos a,Jo]
  rw [qt] at a
  by_cases e:j=k
  ·obtain⟨x,hx⟩:=Option.isSome_iff_exists.mp a
   rw [if_pos e,e,hx,Option.map_some,if_pos rfl]
  ·rw [if_neg e]
   cases yH kvs j with
   | none=>rfl
   | some x=>rw [Option.map_some,if_neg e]
 ·rw [if_neg a]
  refine Us k j y kvs ?_
  rw [qt] at a
  cases q:yH kvs k with
  | none=>rfl
  | some x=>rw [q] at a;exact (a rfl).elim
theorem QW (kvs:List (κ×V)) (k:κ) (v:V):(putK kvs k v).length≤kvs.length+1:=by
 unfold putK
 split
 ·rw [List.length_map];omega
 ·rw [List.length_append,List.length_cons,List.length_nil];omega
theorem Zn {kvs:List (κ×V)} {k:κ} (v:V) (h:yH kvs k=none):putK kvs k v=kvs++[(k,v)]:=by
 unfold putK
 rw [qt,h]
 exact if_neg (by decide)
theorem RelO.isSome_eq {o:Option V} {u:Option Value} (r:RelO o u):o.isSome=u.isSome:=by
 cases o with
 | none=>cases u with
  | none=>rfl
  | some _=>exact (show False from r).elim
 | some _=>cases u with
  | none=>exact (show False from r).elim
  | some _=>rfl
theorem RelO.getD {o:Option V} {u:Option Value} {d:V} {d':Value} (r:RelO o u) (rd:RelV d d'):RelV (o.getD d) (u.getD d'):=by
 cases o with
 | none=>cases u with
  | none=>exact rd
  | some _=>exact (show False from r).elim
 | some _=>cases u with
  | none=>exact (show False from r).elim
  | some _=>exact r
theorem KV.val {kvs:List (κ×V)} {vs:List (κ×Value)} (r:KV kvs vs) (k:κ):RelO (yH kvs k) (valueAt vs k):=by
 unfold KV at r
 induction r with
 | nil=>exact True.intro
 | @cons p q ps qs h t ih =>
  obtain⟨h1,h2⟩:=h
  by_cases e:p.1=k
  ·have e':q.1=k:=h1.symm.trans e
   have b:valueAt (q :: qs) k=some q.2:=by simp [valueAt,List.find?_cons,e']
   rw [yV e,b];exact h2
  ·have e':¬ q.1=k:=fun z=>e (h1.trans z)
   have b:valueAt (q :: qs) k=valueAt qs k:=by simp [valueAt,List.find?_cons,e']
   rw [xf e,b];exact ih
theorem KV.any {kvs:List (κ×V)} {vs:List (κ×Value)} (r:KV kvs vs) (k:κ):(kvs.any fun kv=>decide (kv.1=k))=vs.any fun kv=>decide (kv.1=k):=by
 unfold KV at r
 induction r with
 | nil=>rfl
 | cons h t ih=>rw [List.any_cons,List.any_cons,ih,h.1]
theorem KV.repl {kvs:List (κ×V)} {vs:List (κ×Value)} (r:KV kvs vs) (k:κ) {y:V} {u:Value} (ry:RelV y u) :
  KV (kvs.map fun kv=>if kv.1=k then (kv.1,y) else kv) (vs.map fun kv=>if kv.1=k then (kv.1,u) else kv):=by
 unfold KV at r ⊢
 induction r with
 | nil=>exact .nil
 | @cons p q ps qs h t ih =>
  rw [List.map_cons,List.map_cons]
  refine .cons ?_ ih
  obtain⟨h1,h2⟩:=h
  by_cases e:p.1=k
  ·rw [if_pos e,if_pos (h1.symm.trans e)];exact⟨h1,ry⟩
  ·rw [if_neg e,if_neg (fun z=>e (h1.trans z))];exact⟨h1,h2⟩
theorem KV.put {kvs:List (κ×V)} {vs:List (κ×Value)} (r:KV kvs vs) (k:κ) {y:V} {u:Value} (ry:RelV y u):KV (putK kvs k y) (stored vs k u):=by
 unfold putK stored
 rw [r.any k]
 by_cases e:(vs.any fun kv=>decide (kv.1=k))=true
 ·rw [if_pos e,if_pos e];exact r.repl k ry
 ·rw [if_neg e,if_neg e];exact Paired.snoc r ⟨rfl,ry⟩
theorem KV.drop {kvs:List (κ×V)} {vs:List (κ×Value)} (r:KV kvs vs) (k:κ):KV (zd3 kvs k) (without vs k):=by
 unfold KV at r ⊢
 unfold zd3 without
 induction r with
 | nil=>exact .nil
 | @cons p q ps qs h t ih =>
  obtain⟨h1,h2⟩:=h
  rw [List.filter_cons,List.filter_cons]
  by_cases e:p.1=k
  ·have a:¬ decide (p.1≠k)=true:=by simp [e]
   have b:¬ decide (q.1≠k)=true:=by simp [h1.symm.trans e]
   rw [if_neg a,if_neg b];exact ih
  ·have e':¬ q.1=k:=fun z=>e (h1.trans z)
   have a:decide (p.1≠k)=true:=by simp [e]
   have b:decide (q.1≠k)=true:=by simp [e']
   rw [if_pos a,if_pos b];exact .cons ⟨h1,h2⟩ ih
theorem KV.length {kvs:List (κ×V)} {vs:List (κ×Value)} (r:KV kvs vs):kvs.length=vs.length:=Paired.length r
end
theorem zfl {P:Program} {w:World} {k:Key} {u:Value} (r:RelV (kV k) u):(zW P w).is k u=true:=by
 cases k with
 | inl i=>obtain⟨t,e⟩:=(show ∃ t,u=Value.int i t from r);subst e;exact Ja P w i t
 | inr x=>obtain⟨t,e⟩:=(show ∃ t,u=Value.str x t from r);subst e;exact Jp P w x t
theorem UL {P:Program} {w:World}:∀ {ks:List Key} {us:List Value},Vals (ks.map kV) us->ItemsAre (zW P w) ks us
 | [],_,r=>by rw [List.map_nil] at r;cases r;exact .nil
 | k :: ks,_,r=>by
  rw [List.map_cons] at r
  cases r with
  | cons h t=>exact .cons (zfl h) (UL t)
abbrev KT (H:Hp):List (List Key×V)->List (List Key×Addr×Value)->Prop:=Paired fun p q=>p.1=q.1∧H q.2.1=some (.tup (p.1.map kV))∧RelV p.2 q.2.2
theorem KT.val {H:Hp} {kvs:List (List Key×V)} {xs:List (List Key×Addr×Value)} (r:KT H kvs xs) (k:List Key):RelO (yH kvs k) ((atKey xs k).map (·.2)):=by
 induction r with
 | nil=>exact True.intro
 | @cons p q ps qs h t ih =>
  obtain⟨h1,_,h2⟩:=h
  by_cases e:p.1=k
  ·have e':q.1=k:=h1.symm.trans e
   have b:atKey (q :: qs) k=some q.2:=by simp [atKey,List.find?_cons,e']
   rw [yV e,b];exact h2
  ·have e':¬ q.1=k:=fun z=>e (h1.trans z)
   have b:atKey (q :: qs) k=atKey qs k:=by simp [atKey,List.find?_cons,e']
   rw [xf e,b];exact ih
theorem KT.repl {H:Hp} {kvs:List (List Key×V)} {xs:List (List Key×Addr×Value)} (r:KT H kvs xs) (k:List Key) {y:V} {u:Value} (ry:RelV y u) :
  KT H (kvs.map fun kv=>if kv.1=k then (kv.1,y) else kv) (xs.map (putAt k u)):=by
 induction r with
 | nil=>exact .nil
 | @cons p q ps qs h t ih =>
  rw [List.map_cons,List.map_cons]
  refine .cons ?_ ih
  obtain⟨h1,h2,h3⟩:=h
  unfold putAt
  by_cases e:p.1=k
  ·rw [if_pos e,if_pos (h1.symm.trans e)];exact⟨h1,h2,ry⟩
  ·rw [if_neg e,if_neg (fun z=>e (h1.trans z))];exact⟨h1,h2,h3⟩
theorem KT.put {H:Hp} {kvs:List (List Key×V)} {xs:List (List Key×Addr×Value)} (r:KT H kvs xs) (k:List Key) {b:Addr} {y:V} {u:Value} (hb:H b=some (.tup (k.map kV))) (ry:RelV y u) :
  KT H (putK kvs k y) (storedH xs k b u):=by
 have e:(kvs.any fun kv=>decide (kv.1=k))=(atKey xs k).isSome:=by
  rw [qt,(r.val k).isSome_eq,Option.isSome_map]
 unfold putK storedH
 rw [e]
 by_cases q:(atKey xs k).isSome=true
 ·rw [if_pos q,if_pos q];exact r.repl k ry
 ·rw [if_neg q,if_neg q];exact Paired.snoc r ⟨rfl,hb,ry⟩
theorem KT.keeps {H H':Hp} {kvs:List (List Key×V)} {xs:List (List Key×Addr×Value)} (r:KT H kvs xs) (ht:∀ b ys,H b=some (.tup ys)->H' b=some (.tup ys)):KT H' kvs xs :=
 Paired.mapP r fun _ _ z=>⟨z.1,ht _ _ z.2.1,z.2.2⟩
section
variable {P:Program} {w:World} {H:Hp} {h:Heap} {a:Addr}
theorem QM {ks:List Key} (ok:HOk P w H h) (e:H a=some (.tup (ks.map kV))):(tupleKind (zW P w)).is h ks a:=by
 obtain⟨_,its,r,o,h1,h2,n,h3⟩:=(show ObjOk P w H h a (.tup (ks.map kV)) from ok a _ e)
 exact⟨o,its.toArray,n,h1,h2,h3,by simpa using UL r⟩
end
def DGet (H:Hp) (a:Addr) (y:V) (r:Option V):Prop :=
 (∃ kvs k,Rd H a (.dK kvs)∧y=kV k∧r=yH kvs k)∨∃ kvs k b,Rd H a (.dT kvs)∧y=.ref b∧H b=some (.tup (k.map kV))∧r=yH kvs k
def DPut (H:Hp) (a:Addr) (y v:V) (H':Hp):Prop :=
 (∃ kvs k,H a=some (.dK kvs)∧y=kV k∧kvs.length<sizeLine∧H'=upd H a (.dK (putK kvs k v))) ∨
 ∃ kvs k b,H a=some (.dT kvs)∧y=.ref b∧H b=some (.tup (k.map kV))∧kvs.length<sizeLine∧H'=upd H a (.dT (putK kvs k v))
theorem DGet.k {H:Hp} {a:Addr} {kvs:List (Key×V)} {k:Key} (e:H a=some (.dK kvs)):DGet H a (kV k) (yH kvs k):=.inl ⟨kvs,k,.inl e,rfl,rfl⟩
theorem DGet.t {H:Hp} {a b:Addr} {kvs:List (List Key×V)} {k:List Key} (e:H a=some (.dT kvs)) (eb:H b=some (.tup (k.map kV))):DGet H a (.ref b) (yH kvs k):=.inr ⟨kvs,k,b,.inl e,rfl,eb,rfl⟩
theorem DPut.k {H:Hp} {a:Addr} {kvs:List (Key×V)} {k:Key} {v:V} (e:H a=some (.dK kvs)) (hl:kvs.length<sizeLine):DPut H a (kV k) v (upd H a (.dK (putK kvs k v))):=.inl ⟨kvs,k,e,rfl,hl,rfl⟩
theorem DPut.t {H:Hp} {a b:Addr} {kvs:List (List Key×V)} {k:List Key} {v:V} (e:H a=some (.dT kvs)) (eb:H b=some (.tup (k.map kV))) (hl:kvs.length<sizeLine) :
  DPut H a (.ref b) v (upd H a (.dT (putK kvs k v))):=.inr ⟨kvs,k,b,e,rfl,eb,hl,rfl⟩
section
variable {X:Cx} {pins:List (Addr×Obj)} {σ:St} {H:Hp} {s:Shared} {a:Addr} {y v:V} {u r:Value} {o:Option V} {A:Around} {E:Value->Shared->Prop}
theorem Inv.big (I:Inv X pins σ H s):sysModules<s.heap.objs.size:=by
 have h:mainGlobals<s.heap.objs.size:=(I.mod.glob.keeps I.bk).lt
 exact Nat.lt_trans (by decide) h
theorem zdR {h':Heap} {t':Nat} {ob:HO} (I:Inv X pins σ H s) (mu:Mut (H a)) (hs:Heap.SameBut a s.heap h') (he:∃ q,h'.get? a=some q) (new:ObjOk X.prog X.w (upd H a ob) h' a ob) :
  Inv X pins σ (upd H a ob) { s with heap:=h',toks:=t' } :=
 I.write (x:=a) (e:=a) mu (.inl rfl) (fun b q hb z=>(hs.2 b hb).trans z) he new
end
section
variable {X:Cx} {pins:List (Addr×Obj)} {σ:St} {H:Hp} {s:Shared} {a:Addr} {kvs:List (Key×V)} {k:Key} {u:Value} {A:Around} {E:Value->Shared->Prop}
end
def zeX (i:Expr):Prop:=∀ ov iv,subscripted i false ov iv=operate [ov,iv] (getItem ov iv)
theorem zds {prog:Program} {w:World} {A:Around} {E:Value->Shared->Prop} {s:Shared} {env:Env} {value slice:Expr} {pos:Pos} {T id:String} {Q:Value->Shared->Prop}
  (hl:typeLookup (.type T) "__getitem__" = pure (some (.builtin id))) (hs:zeX slice)
  (h:wpAny (model prog w) A (eval value env) (fun o s₁=>wpAny (model prog w) A (eval slice env) (fun i s₂=>s₂.TypeIs o T∧wpAny (model prog w) A (getItem o i) Q E s₂) E s₁) E s) :
  wpAny (model prog w) A (eval (.Subscript value slice pos) env) Q E s:=by
 refine Subscript_ (wpAny_mono h (fun o s₁ h₁=>wpAny_mono h₁ (fun i s₂ h₂=>?_) fun _ _ x=>x) fun _ _ x=>x)
 obtain⟨hT,h₂⟩:=h₂
 unfold subscriptTail
 refine wpAny_bind ?_
 rw [getitemInPython_of_ne hT.not_modules]
 refine wpAny_bind (wpAny_specialOf hT hl ?_)
 have fin:wpAny (model prog w) A (subscripted slice false o i) (fun r s₃=>wpAny (model prog w) A (letTemporaryGo value o r >>= fun _=>pure r) Q E s₃) E s₂:=by
  rw [hs o i]
  exact wpAny_operating (wpAny_mono h₂ (fun r s₃ h₃=>wpAny_bind (wpAny_letTemporaryGo (wpAny_pure h₃))) fun _ _ x=>x)
 first
  | exact wpAny_pure (wpAny_bind fin)
  | exact wpAny_bind (wpAny_pure (wpAny_bind fin))
  | exact wpAny_bind fin
section
variable {X:Cx} {o i e value:Expr} {pos pos' tpos:Pos} {td ty tv:TE}
end
section
variable {X:Cx} {pos:Pos}
end
structure M1 (X:Cx) (o:Expr) (m:Str) (apos:Pos) (e:Expr) (cpos:Pos):Prop where
 base:attributeBase o m X.env (eval o X.env)=eval o X.env
 few:((backTo cpos (starEach [e] X.env)).all (fun x=>!x.1) && (backToKw cpos (keywordEach [] X.env)).all (fun x=>x.1.isSome)
  && decide (([e]:List Expr).length+([]:List Keyword).length+(if ([]:List Keyword).isEmpty then 0 else 1)<30))=true
 line:(apos.endLine == cpos.line)=true
 trees:backTo cpos (starEach [e] X.env)=[(false,eval e X.env)]
structure M2 (X:Cx) (o:Expr) (m:Str) (apos:Pos) (e f:Expr) (cpos:Pos):Prop where
 base:attributeBase o m X.env (eval o X.env)=eval o X.env
 few:((backTo cpos (starEach [e,f] X.env)).all (fun x=>!x.1) && (backToKw cpos (keywordEach [] X.env)).all (fun x=>x.1.isSome)
  && decide (([e,f]:List Expr).length+([]:List Keyword).length+(if ([]:List Keyword).isEmpty then 0 else 1)<30))=true
 line:(apos.endLine == cpos.line)=true
 trees:backTo cpos (starEach [e,f] X.env)=[(false,eval e X.env),(false,eval f X.env)]
section
variable {X:Cx} {pins:List (Addr×Obj)} {σ:St} {H:Hp} {s:Shared} {a:Addr} {y d:V} {u r:Value} {o:Option V} {A:Around} {E:Value->Shared->Prop}
end
section
variable {X:Cx} {o e f:Expr} {apos cpos:Pos} {td ty tx:TE}
end
section
variable {X:Cx} {pins:List (Addr×Obj)} {σ:St} {H:Hp} {s:Shared} {a:Addr} {kvs:List (Key×V)} {A:Around} {E:Value->Shared->Prop}
end
section
variable {X:Cx} {pins:List (Addr×Obj)} {σ:St} {H:Hp} {s:Shared} {a:Addr} {y:V} {u:Value} {A:Around} {E:Value->Shared->Prop}
end
section
variable {X:Cx}
end
section
variable {κ:Type} [DecidableEq κ]
theorem zch {kvs:List (κ×V)} {k:κ} (h:yH kvs k=none):¬ k∈kvs.map (·.1):=by
 intro m
 obtain⟨p,hp,e⟩:=List.mem_map.mp m
 have q:(kvs.any fun kv=>decide (kv.1=k))=true:=List.any_eq_true.mpr ⟨p,hp,decide_eq_true e⟩
 rw [qt,h] at q
 exact absurd q (by simp)
theorem za5:∀ {l:List κ} {k:κ},l.Nodup->¬ k∈l->(l++[k]).Nodup
 | [],k,_,_=>by simp
 | a :: r,k,h,hk=>by
  obtain⟨h1,h2⟩:=List.nodup_cons.mp h
  show (a :: (r++[k])).Nodup
  refine List.nodup_cons.mpr ⟨fun m=>?_,za5 h2 fun m=>hk (List.mem_cons.mpr (Or.inr m))⟩
  rcases List.mem_append.mp m with q | q
  ·exact h1 q
  ·exact hk (List.mem_cons.mpr (Or.inl (List.mem_singleton.mp q).symm))
theorem zaW {kvs:List (κ×V)} {k:κ} (v:V) (hn:(kvs.map (·.1)).Nodup) (h:yH kvs k=none):((putK kvs k v).map (·.1)).Nodup:=by
 rw [Zn v h,List.map_append]
 exact za5 hn (zch h)
end
end L2
namespace PySem
open Sem (wp)
namespace F
end F
section
variable {prog:Program} {w:World} {A:Around} {R:Result->Shared->Prop} {I:Addr} {fp wr:List Addr} {G:Array GenState->Array GenState->Prop} {n:Nat} {P:Nat->Value->Prop} {St:Nat->Shared->Prop}
variable {K:Type} [DecidableEq K] {knd:KeyKind prog w K}
end
section
variable {prog:Program} {w:World} {K:Type} [DecidableEq K] {knd:KeyKind prog w K} {A:Around} {E:Value->Shared->Prop} {s:Shared}
end
end PySem
namespace HT
open PySem PyProof.Rows PySem.W
section
variable {prog:Program} {w:World} {A:Around} {E:Value->Shared->Prop} {s:Shared}
end
def RawD (h:Heap) (d:Addr) (ks:List Value) (ep:Nat):Prop:=∃ (o:Obj) (es:Array DictEntry),h.get? d=some o∧o.ExactDict∧o.data=.dict es ep∧es.toList.map (·.key)=ks
theorem RawD.at {h h':Heap} {d:Addr} {ks:List Value} {ep:Nat} (x:RawD h d ks ep) (e:∀ o,h.get? d=some o->h'.get? d=some o):RawD h' d ks ep:=let ⟨o,es,ho,r⟩:=x;⟨o,es,e _ ho,r⟩
theorem RawD.lt {h:Heap} {d:Addr} {ks:List Value} {ep:Nat} (x:RawD h d ks ep):d<h.objs.size:=let ⟨_,_,ho,_⟩:=x;Heap.lt_size ho
theorem RawD.ty {s:Shared} {d:Addr} {ks:List Value} {ep:Nat} (x:RawD s.heap d ks ep):s.TypeIs (.ref d) "dict":=let ⟨o,_,ho,hc,_⟩:=x;⟨o,ho,hc.1⟩
section
variable {prog:Program} {w:World} {A:Around} {E:Value->Shared->Prop} {s:Shared} {d it:Addr} {ks:List Value} {ep i:Nat}
end
end HT
namespace L2
open PySem PySem.Spec PyProof.Rows PySem.W
def kI (ns:List Int):List Key:=ns.map Sum.inl
theorem zaj (ns:List Int):(kI ns).map kV=ns.map V.int:=by unfold kI;rw [List.map_map];rfl
theorem Vx {a b:List Int} (e:kI a=kI b):a=b:=by
 unfold kI at e
 exact List.map_inj_right (fun x y h=>by cases h;rfl) |>.mp e
section
variable {X:Cx} {pins:List (Addr×Obj)} {σ:St} {H:Hp} {s:Shared}
end
section
variable {X:Cx} {pins:List (Addr×Obj)} {σ:St} {H:Hp} {s:Shared}
end
section
variable {X:Cx}
end
end L2
namespace PySem
open Sem (wp)
section
variable {prog:Program} {w:World} {κ:Type} [DecidableEq κ] {knd:KeyKind prog w κ}
theorem IsTupleKey.get {h h':Heap} {k:List κ} {a:Addr} (x:IsTupleKey knd h k a) (e:∀ o,h.get? a=some o->h'.get? a=some o):IsTupleKey knd h' k a:=by
 obtain⟨o,its,n,h1,r⟩:=x
 exact⟨o,its,n,e _ h1,r⟩
end
section
variable {K:Type} [DecidableEq K]
end
section
variable {prog:Program} {w:World} {A:Around} {R:Result->Shared->Prop} {I:Addr} {fp wr:List Addr} {G:Array GenState->Array GenState->Prop} {n:Nat} {P:Nat->Value->Prop} {St:Nat->Shared->Prop}
variable {κ:Type} [DecidableEq κ] {knd:KeyKind prog w κ}
end
section
variable {prog:Program} {w:World} {κ:Type} [DecidableEq κ] {knd:KeyKind prog w κ} {A:Around} {E:Value->Shared->Prop} {s:Shared}
end
end PySem
namespace HT
open PySem PySem.Spec PyProof.Rows
section
variable {prog:Program} {w:World} {A:Around} {E:Value->Shared->Prop} {s:Shared}
end
end HT
namespace L2
open PySem PySem.Spec PyProof.Rows
section
variable {X:Cx}
theorem zdp (K:PySem.W.Frag) (e:X.K=K:=by rfl):wy X (.type "tuple") (fun xs H Q=>∃ p ys,xs=[.ref p]∧((SqL K H p ys∧∀ l,H l=none->Q (.ref l) (upd H l (.tup ys)))∨(SqT K H p ys∧Q (.ref p) H))):=by subst e;exact V2
end
abbrev NK:=List Key×List Key
section
variable {P:Program} {w:World}
def IsNK (P:Program) (w:World) (h:Heap) (k:NK) (a:Addr):Prop :=
 ∃ ob its n c us,h.get? a=some ob∧ob.cls=.type "tuple"∧ob.data=.seq its n∧its.toList=.ref c :: us∧IsTupleKey (zW P w) h k.1 c∧ItemsAre (zW P w) k.2 us
def ZG (P:Program) (w:World) (k:NK):List Int:=tupleKeyHash (zW P w) k.1 :: k.2.map (zW P w).hash
theorem IsNK.ty {s:Shared} {k:NK} {a:Addr} (x:IsNK P w s.heap k a):s.TypeIs (.ref a) "tuple":=let ⟨ob,_,_,_,_,e,c,_⟩:=x;⟨ob,e,c⟩
theorem IsNK.one {h:Heap} {a:Addr} {x y:NK} (p:IsNK P w h x a) (q:IsNK P w h y a):x=y:=by
 obtain⟨ob,its,n,c,us,e1,_,e2,e3,e4,e5⟩:=p
 obtain⟨ob',its',n',c',us',f1,_,f2,f3,f4,f5⟩:=q
 rw [e1] at f1;cases f1
 rw [e2] at f2;cases f2
 rw [e3] at f3;cases f3
 exact Prod.ext (e4.inj f4) (e5.inj f5)
theorem IsNK.kept {h h':Heap} {k:NK} {a d:Addr} {o:Obj} {es ep} (x:IsNK P w h k a) (ho:h.get? d=some o) (hd:o.data=.dict es ep) (hs:Heap.SameBut d h h'):IsNK P w h' k a:=by
 obtain⟨ob,its,n,c,us,e1,ec,e2,e3,e4,e5⟩:=x
 have ne:a≠d:=fun z=>by
  subst z
  rw [e1] at ho;cases ho
  rw [hd] at e2;cases e2
 exact⟨ob,its,n,c,us,(hs.2 a ne).trans e1,ec,e2,e3,e4.keeps ho hd hs,e5⟩
variable {A:Around} {E:Value->Shared->Prop} {s:Shared}
theorem zdc {k:NK} {a:Addr} {Q:Int->Shared->Prop} (hu:A.units+1<cLine) (hk:IsNK P w s.heap k a) (h:Q (reduceHash (Builtin.Tuple.tupleHashOf (ZG P w k))) { s with toks:=s.toks+(k.1.length+1+k.2.length+1) }) :
  wpAny (model P w) A (pyHash (.ref a)) Q E s:=by
 have tY:=hk.ty
 obtain⟨ob,its,n,c,us,e1,ec,e2,e3,e4,e5⟩:=hk
 unfold pyHash
 first | unfold pyHashByItsType | skip
 first | refine wpAny_bind (wpAny_cRoomFor_or (.inr (Nat.lt_of_succ_lt hu)) ?_) | skip
 refine wpAny_bind (wpAny_specialOf tY F.slot_tuple_hash.lookup ?_)
 show wpAny _ _ (if (some (Value.builtin "tuple.__hash__") == some Value.none)=true then _ else _) Q E s;rw [if_neg (by rw [beq_builtin_none];exact Bool.false_ne_true)]
 refine wpAny_bind (wpAny_specialOf tY F.slot_tuple_hash.lookup ?_)
 show wpAny _ _ (callSpecialIfBoundUnlessNone? (.ref a) "__hash__" _ >>= _) Q E s
 refine wpAny_bind (wpAny_callSpecialIfBoundUnlessNone?_slot tY F.slot_tuple_hash (wpAny_call_entry F.slot_tuple_hash tY F.entry_tuple_hash ?_ (F.args_tuple_hash_1 _)))
 show wpAny _ _ (Builtin.Tuple.tupleItemsOf (.ref a) >>= _) _ _ s
 refine wpAny_bind (wpAny_tupleItemsOf e1 e2 ?_)
 refine wpAny_bind ?_
 rw [← Array.forIn_toList,e3]
 refine wpAny_forIn_list _
  (fun rest (b:Array Int) s'=>(rest=.ref c :: us∧b=#[]∧s'=s)∨∃ done left,k.2=done++left∧ItemsAre (zW P w) left rest∧b.toList=tupleKeyHash (zW P w) k.1 :: done.map (zW P w).hash∧s'={ s with toks:=s.toks+(k.1.length+1)+done.length })
  _ ?_ ?_ _ _ (.inl ⟨rfl,rfl,rfl⟩)
 ·rintro x rest b s' (⟨z1,rfl,rfl⟩ | ⟨done,left,z1,hl,hb,rfl⟩)
  ·cases z1
   refine wpAny_bind (wpAny_pyHash_tuple (A:=A.in1) hu e4 ?_)
   first
    | exact wpAny_pure (.inr ⟨[],k.2,rfl,e5,rfl,rfl⟩)
    | exact wpAny_bind (wpAny_pure (wpAny_pure (.inr ⟨[],k.2,rfl,e5,rfl,rfl⟩)))
  ·cases hl with
   | @cons i _ is _ h1 hl' =>
    refine wpAny_bind ((zW P w).pyHash h1 ?_)
    first
     | exact wpAny_pure (.inr ⟨done++[i],is,by rw [z1];simp,hl',by simp [hb],by simp [Nat.add_assoc]⟩)
     | exact wpAny_bind (wpAny_pure (wpAny_pure (.inr ⟨done++[i],is,by rw [z1];simp,hl',by simp [hb],by simp [Nat.add_assoc]⟩)))
 ·rintro b s' (⟨z1,_,_⟩ | ⟨done,left,z1,hl,hb,rfl⟩)
  ·cases z1
  ·cases hl
   rw [List.append_nil] at z1
   show wpAny _ _ (retInt (Builtin.Tuple.tupleHashOf b.toList)) _ _ _
   have eH:b.toList=ZG P w k:=by rw [hb];unfold ZG;rw [z1]
   rw [eH]
   refine wpAny_ret_mkInt ?_
   generalize Builtin.Tuple.tupleHashOf (ZG P w k)=m at h
   show wpAny _ _ (if (decide (-(2:Int)^63≤m) && decide (m<2^63))=true then _ else _) Q E _
   unfold reduceHash at h
   have et:∀ t:Nat,t+(k.1.length+1)+done.length+1=t+(k.1.length+1+k.2.length+1):=fun t=>by rw [z1];omega
   by_cases hr:(decide (-(2:Int)^63≤m) && decide (m<2^63))=true
   ·rw [if_pos hr] at h ⊢
    refine wpAny_pure ?_
    first | (rw [← et] at h;exact h) | (simp only [Nat.add_assoc] at et ⊢;rw [← et] at h;exact h)
   ·rw [if_neg hr] at h ⊢
    refine wpAny_bind (wpAny_rule (wpAny_pure ?_))
    first | (rw [← et] at h;exact h) | (simp only [Nat.add_assoc] at et ⊢;rw [← et] at h;exact h)
theorem zav {x y:NK} {a b:Addr} {R:Fin->Shared->Prop} (hu:A.units<cLine) (hx:IsNK P w s.heap x a) (hy:IsNK P w s.heap y b) (h:R (.done (.ret (.bool (decide (x=y))))) s) :
  wpAny (model P w) A (Builtin.«tuple.__eq__» ⟨[.ref a,.ref b],[]⟩) R E s:=by
 have tY:=hy.ty
 obtain⟨oa,ia,na,ca,ua,a1,ac,a2,a3,a4,a5⟩:=hx
 obtain⟨ob,ib,nb,cb,ub,b1,bc,b2,b3,b4,b5⟩:=hy
 have eD:decide (x=y)=(decide (x.1=y.1) && decide (x.2=y.2)):=by
  rw [← Bool.decide_and];exact decide_eq_decide.mpr Prod.ext_iff
 have eS:(ia.size == ib.size)=(ua.length == ub.length):=by
  rw [← Array.length_toList,← Array.length_toList,a3,b3,List.length_cons,List.length_cons];simp
 show wpAny _ _ (isInstance (.ref b) (.type "tuple") >>= _) _ _ s
 refine wpAny_bind (wpAny_isInstance tY isSubtype_tuple_tuple ?_)
 simp only [Bool.not_true,Bool.false_eq_true,if_false]
 refine wpAny_bind (wpAny_tupleItemsOf a1 a2 ?_)
 refine wpAny_bind (wpAny_tupleItemsOf b1 b2 ?_)
 refine wpAny_bind ?_
 refine wpAny_forIn_list _
  (fun rest r s'=>r.1=none∧s'=s∧(rest=List.zip (.ref ca :: ua) (.ref cb :: ub)∨(x.1=y.1∧∃ x' y' xs' ys',rest=List.zip xs' ys'∧ItemsAre (zW P w) x' xs'∧ItemsAre (zW P w) y' ys'∧decide (x'=y')=decide (x.2=y.2)∧(xs'.length == ys'.length)=(ua.length == ub.length))))
  _ ?_ ?_ _ _ ⟨rfl,rfl,.inl (by rw [← a3,← b3])⟩
 ·rintro⟨u,v⟩ rest r s' ⟨hr,rfl,hz | ⟨hE,x',y',xs',ys',hz,hx',hy',hdec,hlen⟩⟩
  ·simp only [List.zip_cons_cons,List.cons.injEq,Prod.mk.injEq] at hz
   obtain⟨⟨rfl,rfl⟩,rfl⟩:=hz
   refine wpAny_bind (wpAny_eqBool_tuple hu a4 b4 ?_)
   by_cases hk:x.1=y.1
   ·rw [decide_eq_true hk]
    simp only [Bool.not_true,Bool.false_eq_true,if_false]
    exact wpAny_pure ⟨rfl,rfl,.inr ⟨hk,x.2,y.2,ua,ub,rfl,a5,b5,rfl,rfl⟩⟩
   ·rw [decide_eq_false hk]
    simp only [Bool.not_false,if_true]
    rw [eD,decide_eq_false hk,Bool.false_and] at h
    exact wpAny_bind (wpAny_pure (wpAny_pure (wpAny_pure h)))
  ·cases hx' with
   | nil=>simp at hz
   | @cons k1 u' x'' xs'' h1 hx'' =>
    cases hy' with
    | nil=>simp at hz
    | @cons k2 v' y'' ys'' h2 hy'' =>
     simp only [List.zip_cons_cons,List.cons.injEq,Prod.mk.injEq] at hz
     obtain⟨⟨rfl,rfl⟩,rfl⟩:=hz
     refine wpAny_bind ((zW P w).eqBool (a:=k1) (b:=k2) h1 h2 ?_)
     by_cases hk:k1=k2
     ·subst hk
      rw [decide_eq_true rfl]
      simp only [Bool.not_true,Bool.false_eq_true,if_false]
      exact wpAny_pure ⟨rfl,rfl,.inr ⟨hE,x'',y'',xs'',ys'',rfl,hx'',hy'',by rw [← hdec];by_cases q:x''=y''<;>simp [q],by simpa using hlen⟩⟩
     ·rw [decide_eq_false hk]
      simp only [Bool.not_false,if_true]
      have hf:decide (x.2=y.2)=false:=by rw [← hdec];simp [hk]
      rw [eD,hf,Bool.and_false] at h
      exact wpAny_bind (wpAny_pure (wpAny_pure (wpAny_pure h)))
 ·rintro⟨r1,r2⟩ s' ⟨hr,rfl,hz | ⟨hE,x',y',xs',ys',hz,hx',hy',hdec,hlen⟩⟩
  ·simp at hz
  simp only at hr
  subst hr
  refine wpAny_pure ?_
  have fin:(ia.size == ib.size)=decide (x=y):=by
   rw [eS,eD,decide_eq_true hE,Bool.true_and,← hdec,← hlen]
   cases hx' with
   | nil =>
    cases hy' with
    | nil=>simp
    | cons _ _=>simp
   | cons _ _ =>
    cases hy' with
    | nil=>simp
    | cons _ _=>simp at hz
  show R (.done (.ret (.bool (ia.size == ib.size)))) s'
  rw [fin];exact h
theorem zfI {x y:NK} {a b:Addr} {Q:Bool->Shared->Prop} (hu:A.units+1<cLine) (hx:IsNK P w s.heap x a) (hy:IsNK P w s.heap y b) (h:Q (decide (x=y)) s):wpAny (model P w) A (eqBool (.ref a) (.ref b)) Q E s:=by
 unfold eqBool
 try with_reducible refine wpAny_holding ?_
 show wpAny _ _ (if (Value.ref a == Value.ref b)=true then _ else _) Q E s
 by_cases hab:(Value.ref a == Value.ref b)=true
 ·rw [if_pos hab]
  have e:a=b:=by have:=eq_of_beq hab;injection this
  subst e
  obtain rfl:=hx.one hy
  exact wpAny_bind (wpAny_rule (wpAny_pure (by simpa using h)))
 ·rw [if_neg hab]
  exact wpAny_bind (wpAny_richCompare_same_room (op:=.Eq) hx.ty hy.ty F.slot_tuple_eq (wpAny_call_entry F.slot_tuple_eq hx.ty F.entry_tuple_eq (zav (A:=A.in1) hu hx hy ⟨_,rfl,(fun e=>nomatch e),wpAny_truthy_bool h⟩) (F.args_tuple_eq_2 _ _)) (Nat.lt_of_succ_lt hu))
theorem Wd {n:Nat} {a:Addr} {ob:Obj} {its m} {Q:Bool->Shared->Prop} (e1:s.heap.get? a=some ob) (ec:ob.cls=.type "tuple") (e2:ob.data=.seq its m) (hq:∀ v∈its.toList,∀ {Q:Bool->Shared->Prop},Q true s->wpAny (model P w) A (eqIsQuiet n v) Q E s) (h:Q true s):wpAny (model P w) A (eqIsQuiet (n+1) (.ref a)) Q E s:=by
 have tY:s.TypeIs (.ref a) "tuple":=⟨ob,e1,ec⟩
 unfold eqIsQuiet
 refine wpAny_bind (wpAny_specialOf tY F.slot_tuple_eq.lookup ?_)
 show wpAny _ _ (isInstance (.ref a) (.type "tuple") >>= _) _ _ s
 refine wpAny_bind (wpAny_isInstance tY isSubtype_tuple_tuple ?_)
 simp only [Bool.not_true,Bool.false_eq_true,if_false]
 refine wpAny_bind (wpAny_seqItems e1 e2 ?_)
 refine wpAny_bind ?_
 show wpAny _ _ (forIn its _ _) _ _ s
 rw [← Array.forIn_toList]
 refine wpAny_forIn_list _ (fun rest r s'=>r.1=none∧s'=s∧∀ v∈rest,v∈its.toList) _ ?_ ?_ _ _ ⟨rfl,rfl,fun _ z=>z⟩
 ·rintro v rest r s' ⟨hr,rfl,hall⟩
  refine wpAny_bind (hq v (hall v List.mem_cons_self) ?_)
  simp only [Bool.not_true,Bool.false_eq_true,if_false]
  exact wpAny_pure ⟨rfl,rfl,fun u hu'=>hall u (List.mem_cons_of_mem _ hu')⟩
 ·rintro⟨r1,r2⟩ s' ⟨hr,rfl,_⟩
  simp only at hr
  subst hr
  exact wpAny_pure h
theorem W2 {n:Nat} {ks:List Key} {us:List Value} (hi:ItemsAre (zW P w) ks us):∀ v∈us,∀ {Q:Bool->Shared->Prop},Q true s->wpAny (model P w) A (eqIsQuiet n v) Q E s:=fun v hv Q q=>by
 rw [eqIsQuiet_byValue _ (hi.byValue v hv)];exact wpAny_pure q
theorem zcL {k:NK} {a:Addr} {Q:Bool->Shared->Prop} (hk:IsNK P w s.heap k a) (h:Q true s):wpAny (model P w) A (eqIsQuiet 8 (.ref a)) Q E s:=by
 obtain⟨ob,its,n,c,us,e1,ec,e2,e3,⟨oc,jts,m,c1,cc,c2,c3⟩,e5⟩:=hk
 refine Wd e1 ec e2 (fun v hv=>?_) h
 rw [e3] at hv
 rcases List.mem_cons.mp hv with rfl | hv
 ·exact fun q=>Wd c1 cc c2 (W2 c3) q
 ·exact W2 e5 v hv
end
def zcl (P:Program) (w:World):HeapKind P w NK where
 is:=IsNK P w
 hash:=fun k=>reduceHash (Builtin.Tuple.tupleHashOf (ZG P w k))
 draws:=fun k=>k.1.length+1+k.2.length+1
 room:=fun A=>A.units+1<cLine
 inj:=fun p q=>p.one q
 keeps:=fun x ho hd hs=>x.kept ho hd hs
 pyHash:=fun hu hk h=>zdc hu hk h
 eqBool:=fun hu hx hy h=>zfI hu hx hy h
 quiet:=fun hk h=>zcL hk h
def zfT (P:Program) (w:World) (a:Addr) (xs:List (NK×Addr×Value)):Heap->Prop:=fun h=>∃ o es ep,h.get? a=some o∧o.ExactDict∧o.data=.dict es ep∧es.toList=xs.map (entryOfKey (zcl P w))∧(xs.map (·.1)).Nodup
def NTup (H:Hp) (k:NK) (b:Addr):Prop:=∃ c,H b=some (.tup (.ref c :: k.2.map kV))∧H c=some (.tup (k.1.map kV))
theorem NTup.same {H H':Hp} {k:NK} {b:Addr} (h:NTup H k b) (s:∀ b xs,H b=some (.tup xs)->H' b=some (.tup xs)):NTup H' k b:=let ⟨c,h1,h2⟩:=h;⟨c,s _ _ h1,s _ _ h2⟩
abbrev KN (H:Hp):List (NK×V)->List (NK×Addr×Value)->Prop:=Paired fun p q=>p.1=q.1∧NTup H p.1 q.2.1∧RelV p.2 q.2.2
theorem KN.val {H:Hp} {kvs:List (NK×V)} {xs:List (NK×Addr×Value)} (r:KN H kvs xs) (k:NK):RelO (yH kvs k) ((atKey xs k).map (·.2)):=by
 induction r with
 | nil=>exact True.intro
 | @cons p q ps qs h t ih =>
  obtain⟨h1,_,h2⟩:=h
  by_cases e:p.1=k
  ·have e':q.1=k:=h1.symm.trans e
   rw [yV e,show atKey (q :: qs) k=some q.2 by simp [atKey,List.find?_cons,e']];exact h2
  ·have e':¬ q.1=k:=fun z=>e (h1.trans z)
   rw [xf e,show atKey (q :: qs) k=atKey qs k by simp [atKey,List.find?_cons,e']];exact ih
theorem KN.put {H:Hp} {kvs:List (NK×V)} {xs:List (NK×Addr×Value)} (r:KN H kvs xs) (k:NK) {b:Addr} {y:V} {u:Value} (hb:NTup H k b) (ry:RelV y u):KN H (putK kvs k y) (storedH xs k b u):=by
 have e:(kvs.any fun kv=>decide (kv.1=k))=(atKey xs k).isSome:=by
  rw [qt,(r.val k).isSome_eq,Option.isSome_map]
 have rep:∀ {kvs:List (NK×V)} {xs:List (NK×Addr×Value)},KN H kvs xs->KN H (kvs.map fun kv=>if kv.1=k then (kv.1,y) else kv) (xs.map (putAt k u)):=fun {kvs xs} r=>by
  induction r with
  | nil=>exact .nil
  | @cons p q ps qs h t ih =>
   rw [List.map_cons,List.map_cons]
   refine .cons ?_ ih
   obtain⟨h1,h2,h3⟩:=h
   unfold putAt
   by_cases e:p.1=k
   ·rw [if_pos e,if_pos (h1.symm.trans e)];exact⟨h1,h2,ry⟩
   ·rw [if_neg e,if_neg (fun z=>e (h1.trans z))];exact⟨h1,h2,h3⟩
 unfold putK storedH
 rw [e]
 by_cases q:(atKey xs k).isSome=true
 ·rw [if_pos q,if_pos q];exact rep r
 ·rw [if_neg q,if_neg q];exact Paired.snoc r ⟨rfl,hb,ry⟩
theorem KN.keeps {H H':Hp} {kvs:List (NK×V)} {xs:List (NK×Addr×Value)} (r:KN H kvs xs) (s:∀ b xs,H b=some (.tup xs)->H' b=some (.tup xs)):KN H' kvs xs:=Paired.mapP r fun _ _ z=>⟨z.1,z.2.1.same s,z.2.2⟩
def DN (P:Program) (w:World) (H:Hp) (a:Addr) (kvs:List (NK×V)):Prop:=∃ xs,H a=some (.ext (zfT P w a xs))∧KN H kvs xs∧kvs.length≤sizeLine∧(a == sysModules)=false
theorem DN.same {P:Program} {w:World} {H H':Hp} {a:Addr} {kvs:List (NK×V)} (h:DN P w H a kvs) (s:Same H H'):DN P w H' a kvs:=let ⟨xs,h1,h2,h3⟩:=h;⟨xs,s _ _ h1,h2.keeps fun b xs e=>s _ _ e,h3⟩
theorem DN.stay {P:Program} {w:World} {H H':Hp} {a:Addr} {kvs:List (NK×V)} (h:DN P w H a kvs) (e:H' a=H a) (s:∀ b xs,H b=some (.tup xs)->H' b=some (.tup xs)):DN P w H' a kvs:=let ⟨xs,h1,h2,h3⟩:=h;⟨xs,by rw [e];exact h1,h2.keeps s,h3⟩
theorem DN.ne {P:Program} {w:World} {H:Hp} {a b:Addr} {kvs:List (NK×V)} {xs:List V} (h:DN P w H a kvs) (e:H b=some (.tup xs)):b≠a:=let ⟨_,h1,_⟩:=h;Yb e h1 (fun z=>nomatch z)
section
variable {P:Program} {w:World} {H:Hp} {h:Heap} {a b:Addr} {k:NK}
end
section
variable {X:Cx} {pins:List (Addr×Obj)} {σ:St} {H:Hp} {s:Shared} {a b:Addr} {v:V} {u r:Value} {A:Around} {E:Value->Shared->Prop} {kvs:List (NK×V)} {k:NK}
end
theorem jL {A:Around} {k:Nat} (hr:Room k A):A.units+2<cLine:=by have:=hr.units;omega
section
variable {X:Cx} {o i value:Expr} {pos pos':Pos} {td ty tv:TE}
end
def J2 (P:Program) (w:World) (a:Addr) (xs:List (List Key×Addr×Value)) (ep:Nat):Heap->Prop:=fun h=>∃ o es,h.get? a=some o∧o.ExactDict∧o.data=.dict es ep∧es.toList=xs.map (entryOfKey (tupleKind (zW P w)))∧(xs.map (·.1)).Nodup
def DE (P:Program) (w:World) (H:Hp) (a:Addr) (kvs:List (List Key×V)):Prop:=∃ xs ep,H a=some (.ext (J2 P w a xs ep))∧KT H kvs xs∧kvs.length≤sizeLine∧(a == sysModules)=false
theorem DE.same {P:Program} {w:World} {H H':Hp} {a:Addr} {kvs:List (List Key×V)} (h:DE P w H a kvs) (s:Same H H'):DE P w H' a kvs:=let ⟨xs,ep,h1,h2,h3⟩:=h;⟨xs,ep,s _ _ h1,h2.keeps fun b xs e=>s _ _ e,h3⟩
theorem DE.stay {P:Program} {w:World} {H H':Hp} {a:Addr} {kvs:List (List Key×V)} (h:DE P w H a kvs) (e:H' a=H a) (s:∀ b xs,H b=some (.tup xs)->H' b=some (.tup xs)):DE P w H' a kvs:=let ⟨xs,ep,h1,h2,h3⟩:=h;⟨xs,ep,by rw [e];exact h1,h2.keeps s,h3⟩
theorem DE.ne {P:Program} {w:World} {H:Hp} {a b:Addr} {kvs:List (List Key×V)} {xs:List V} (h:DE P w H a kvs) (e:H b=some (.tup xs)):b≠a:=let ⟨_,_,h1,_⟩:=h;Yb e h1 (fun z=>nomatch z)
section
variable {P:Program} {w:World} {H:Hp} {h:Heap} {a b:Addr} {k:List Key}
theorem zaE {kvs:List (List Key×V)} (ok:HOk P w H h) (d:DE P w H a kvs):∃ xs,KT H kvs xs∧h.DictOfH (tupleKind (zW P w)) a xs:=by
 obtain⟨xs,ep,e,r,_,_⟩:=d
 obtain⟨⟨o,es,h1,h2,h3,h4,h5⟩,_⟩:=(show ObjOk P w H h a (.ext (J2 P w a xs ep)) from ok a _ e)
 refine⟨xs,r,o,es,ep,h1,h2,h3,h4,?_,h5⟩
 have all:∀ {l:List (List Key×V)} {m:List (List Key×Addr×Value)},KT H l m->∀ x∈m,(tupleKind (zW P w)).is h x.1 x.2.1:=fun {l m} q=>by
  induction q with
  | nil=>intro x hx;exact nomatch hx
  | @cons p q ps qs hq t ih =>
   intro x hx
   rcases List.mem_cons.mp hx with e | hx
   ·subst e
    exact QM ok (by rw [← hq.1];exact hq.2.1)
   ·exact ih x hx
 exact all r
theorem za1 {xs:List (List Key×Addr×Value)} {ep:Nat} {h':Heap} {H':Hp} (p:J2 P w a xs ep h'):ObjOk P w H' h' a (.ext (J2 P w a xs ep)) :=
 ⟨p,let ⟨o,_,e,_⟩:=p;⟨o,e⟩,fun h1 h2 ⟨o,es,e,c⟩ k=>⟨o,es,k _ e,c⟩⟩
end
section
variable {X:Cx} {pins:List (Addr×Obj)} {σ:St} {H:Hp} {s:Shared} {a b:Addr} {v:V} {u r:Value} {A:Around} {E:Value->Shared->Prop} {kvs:List (List Key×V)} {k:List Key}
theorem zbw {Q:Value->Shared->Prop} (hu:A.units+2<cLine) (I:Inv X pins σ H s) (d:DE X.prog X.w H a kvs) (t:H b=some (.tup (k.map kV))) (l:yH kvs k=some v) (h:∀ w' s',Inv X pins σ H s'->RelV v w'->Q w' s'):wpAny (model X.prog X.w) A (getItem (.ref a) (.ref b)) Q E s:=by
 obtain⟨xs,rel,dd⟩:=zaE I.hok d
 obtain⟨w',hw,rw'⟩:=RelO.some_of (v:=v) (o:=(atKey xs k).map (·.2)) (by rw [← l];exact rel.val k)
 obtain⟨p,hp,hp2⟩:=Option.map_eq_some_iff.mp hw
 refine wpAny_getItem_heap (knd:=tupleKind (zW X.prog X.w)) (A:=A) (tupleKind_room_in1 (by omega)) (QM I.hok t) dd hp ?_
 rw [hp2]
 exact h w' _ (I.tok _) rw'
theorem zdT {Q:Value->Shared->Prop} (hu:A.units+2<cLine) (I:Inv X pins σ H s) (d:DE X.prog X.w H a kvs) (t:H b=some (.tup (k.map kV))) (h:∀ s',Inv X pins σ H s'->Q (.bool (!(yH kvs k).isSome)) s'):wpAny (model X.prog X.w) A (compareOp .NotIn (.ref b) (.ref a)) Q E s:=by
 obtain⟨xs,rel,dd⟩:=zaE I.hok d
 obtain⟨_,_,_,_,_,hd⟩:=d
 refine wpAny_notIn_heap (knd:=tupleKind (zW X.prog X.w)) (A:=A) (tupleKind_room_in1 (by omega)) (QM I.hok t) hd dd ?_
 have q:=(rel.val k).isSome_eq
 rw [Option.isSome_map] at q
 rw [← q]
 exact h _ (I.tok _)
theorem zbh {Q:Unit->Shared->Prop} (hu:A.units+2<cLine) (I:Inv X pins σ H s) (d:DE X.prog X.w H a kvs) (t:H b=some (.tup (k.map kV))) (hl:kvs.length<sizeLine) (rv:RelV v r)
  (h:∀ s' H',DE X.prog X.w H' a (putK kvs k v)->(∀ b,b≠a->H' b=H b)->Inv X pins σ H' s'->Q () s'):wpAny (model X.prog X.w) A (setItem (.ref a) (.ref b) r) Q E s:=by
 obtain⟨xs,rel,dd⟩:=zaE I.hok d
 have nt:=fun b ys=>d.ne (b:=b) (xs:=ys)
 obtain⟨ys,ep0,e,_,z,hd⟩:=d
 have hz:xs.length≤sizeLine:=by rw [← Paired.length rel];exact z
 refine wpAny_setItem_heap (knd:=tupleKind (zW X.prog X.w)) (A:=A) (hsz:=hz) (tupleKind_room_in1 (by omega)) (QM I.hok t) dd fun h' dd' hs=>?_
 obtain⟨q,es,ep,hq,h2,h3,h4,_,h5⟩:=dd'
 have sm:∀ c,c≠a->upd H a (.ext (J2 X.prog X.w a (storedH xs k b r) ep)) c=H c:=fun c hc=>zu hc
 refine h _ _ ⟨storedH xs k b r,ep,zg,(rel.put k t rv).keeps fun c zs ec=>by rw [zu (nt c zs ec)];exact ec,by have:=QW kvs k v;omega,hd⟩ sm (zdR I (by rw [e];exact True.intro) hs ⟨q,hq⟩ (za1 ⟨q,es,hq,h2,h3,h4,h5⟩))
theorem zb9 (I:Inv X pins σ H s) (d:DE X.prog X.w H a kvs):s.TypeIs (.ref a) "dict":=let ⟨_,_,dd⟩:=zaE I.hok d;dd.typeIs
end
def zee (P:Program) (w:World) (td ty:TE):TE:=fun σ H Q=>td σ H fun x H1=>ty σ H1 fun y H2=>∃ a kvs k b v,x=.ref a∧DE P w H2 a kvs∧y=.ref b∧H2 b=some (.tup (k.map kV))∧yH kvs k=some v∧Q v H2
def zdJ (P:Program) (w:World) (ty td:TE):TE:=fun σ H Q=>ty σ H fun y H1=>td σ H1 fun x H2=>∃ a kvs k b,x=.ref a∧DE P w H2 a kvs∧y=.ref b∧H2 b=some (.tup (k.map kV))∧Q (.bl (!(yH kvs k).isSome)) H2
def ze7 (P:Program) (w:World) (td ty tv:TE):TS:=fun D σ H=>tv σ H fun v H1=>td σ H1 fun x H2=>ty σ H2 fun y H3=>∃ a kvs k b,x=.ref a∧DE P w H3 a kvs∧y=.ref b∧H3 b=some (.tup (k.map kV))∧kvs.length<sizeLine∧∀ H4,DE P w H4 a (putK kvs k v)->(∀ c,c≠a->H4 c=H3 c)->D.nx σ H4
def zfJ (P:Program) (w:World):TE:=fun _ H Q=>∀ p H',H p=none->DE P w H' p []->(∀ c,c≠p->H' c=H c)->Q (.ref p) H'
section
variable {X:Cx} {o i value:Expr} {pos pos':Pos} {td ty tv:TE}
theorem zdD (hu:X.A.units+2<cLine) (ho:PE X o td) (hi:PE X i ty) (hs:zeX i):PE X (.Subscript o i pos) (zee X.prog X.w td ty):=by
 intro pins s σ H Q I h
 refine zds PySem.F.slot_dict_getitem.lookup hs (thn (ho pins s σ H _ I h) fun u s1 ⟨x,H1,I1,rx,q1⟩=>thn (hi pins s1 σ H1 _ I1 q1) fun iv s2 ⟨y,H2,I2,ry,a,kvs,k,b,v,ex,d,ey,t,l,q2⟩=>?_)
 subst ex ey
 obtain rfl:u=Value.ref a:=rx
 obtain rfl:iv=Value.ref b:=ry
 exact⟨zb9 I2 d,zbw hu I2 d t l fun w' s3 I3 rw'=>⟨v,H2,I3,rw',q2⟩⟩
theorem zbn (hu:X.A.units+2<cLine) (hi:PE X i ty) (ho:PE X o td):PC X .NotIn i o (zdJ X.prog X.w ty td):=by
 intro pins s σ H Q I h
 refine thn (hi pins s σ H _ I h) fun iv s1 ⟨y,H1,I1,ry,q1⟩=>thn (ho pins s1 σ H1 _ I1 q1) fun u s2 ⟨x,H2,I2,rx,a,kvs,k,b,ex,d,ey,t,q2⟩=>?_
 subst ex ey
 obtain rfl:u=Value.ref a:=rx
 obtain rfl:iv=Value.ref b:=ry
 exact zdT hu I2 d t fun s3 I3=>⟨.bl _,H2,I3,rfl,q2⟩
theorem zdt (hu:X.A.units+2<cLine) (ho:PE X o td) (hi:PE X i ty) (hv:PE X value tv) (hs:swapsWith value (some (.Subscript o i pos')) pos.line X.env=pure false) :
  PS X (.Assign [.Subscript o i pos'] value pos) (ze7 X.prog X.w td ty tv):=by
 intro pins s σ H D I h
 refine wpAny_Assign_Subscript (thn (hv pins s σ H _ I h) fun r s1 ⟨v,H1,I1,rv,q1⟩=>thn (ho pins s1 σ H1 _ I1 q1) fun u s2 ⟨x,H2,I2,rx,q2⟩=>thn (hi pins s2 σ H2 _ I2 q2) fun iv s3 ⟨y,H3,I3,ry,a,kvs,k,b,ex,d,ey,t,hl,q3⟩=>?_) hs
 subst ex ey
 obtain rfl:u=Value.ref a:=rx
 obtain rfl:iv=Value.ref b:=ry
 exact zbh hu I3 d t hl rv fun s4 H4 d4 c4 I4=>⟨σ,H4,I4,q3 H4 d4 c4⟩
theorem zdA:PE X (.Dict [] [] pos) (zfJ X.prog X.w):=fun pins s σ H Q I h=>by
 have p0:J2 X.prog X.w s.heap.objs.size [] 0 (s.heap.push { cls:=.type "dict",data:=.dict #[] }):=⟨_,#[],Heap.get?_push_size _ rfl,⟨rfl,rfl,rfl⟩,rfl,rfl,List.nodup_nil⟩
 have fr:=I.hok.fresh (Nat.le_refl s.heap.objs.size)
 exact wpAny_Dict_empty ⟨.ref s.heap.objs.size,_,I.laid (a:=s.heap.objs.size) (o:=.ext (J2 X.prog X.w s.heap.objs.size [] 0)) (t':=s.toks) (fun _ _ q=>Heap.get?_push_of_some _ q) (Nat.le_refl _) (za1 p0),rfl,h _ _ fr ⟨[],0,zg,.nil,Nat.zero_le _,beq_eq_false_iff_ne.mpr (Ne.symm (Nat.ne_of_lt I.big))⟩ fun c hc=>zu hc⟩
end
theorem YC {X:Cx} {o i:Expr} {pos:Pos} {td ty:TE} (P:Program) (w:World) (hu:X.A.units+2<cLine) (ho:PE X o td) (hi:PE X i ty) (hs:zeX i) (e1:X.prog=P:=by rfl) (e2:X.w=w:=by rfl):PE X (.Subscript o i pos) (zee P w td ty):=by subst e1 e2;exact zdD hu ho hi hs
section
variable {X:Cx}
end
def zfZ (t:TS):TS:=fun D σ H=>∃ P:St->Hp->Prop,t { D with nx:=P } σ H∧∀ σ' H',P σ' H'->D.nx σ' H'
theorem ze0 {X:Cx} {st:Stmt} {t:TS} (h:PS X st t):PS X st (zfZ t):=by
 intro pins s σ H D I hw
 obtain⟨P,h1,h2⟩:=hw
 refine thn (h pins s σ H _ I h1) fun f s1 q=>?_
 cases f with
 | next=>obtain⟨σ',H',I',q⟩:=q;exact⟨σ',H',I',h2 _ _ q⟩
 | ret v=>exact q
 | brk=>exact q
 | cont=>exact q
def zco (n:Addr->Prop) (h:Heap) (e:Addr) (c:Value):Prop :=
 ∃ (oe oT:Obj) (vs ts:Array Value) (a0:Value) (T:Addr),h.get? e=some oe∧oe.cls=c∧oe.data=.fields vs∧vs[0]?=some a0∧vs[1]?=some (.ref T)∧n T∧T≠e∧h.get? T=some oT∧oT.data=.fields ts∧ts[3]?=some .none
def CX1 (P:Program) (w:World):CXT:=fun outer H s E e s' =>
 ∃ (ea:Addr) (c:Value) (H':Hp),e=.ref ea∧s'.os=s.os∧AllBare s'.gens∧Un (frs outer) [] H H' s.heap s'.heap∧HOk P w H' s'.heap∧s.heap.get? ea=none∧H' ea=none ∧
  zco (fun T=>s.heap.get? T=none∧H' T=none) s'.heap ea c∧E c none H'
def zec (X:Cx) (Ex:St->XK):Prop:=∀ (pins:List (Addr×Obj)) (σ:St) (H:Hp) (s:Shared) (h':Heap) (ea:Addr) (c:Value) (vs:List Value),Inv X pins σ H s->Heap.MadeExcOf s.heap h' ea c vs->Ex σ c none H->X.xe (.ref ea) { s with heap:=h' }
def QR (X:Cx) (Ex:St->XK):Prop:=∀ (pins:List (Addr×Obj)) (σ:St) (H:Hp) (s:Shared) (e:Value) (s':Shared),Inv X pins σ H s->CX1 X.prog X.w X.stack H s (Ex σ) e s'->X.xe e s'
theorem FnOk.up {P:Program} {w:World} {K:PySem.W.Frag} {mg:Str->Option Value} {base:Heap} {CX:CXT} {k:Nat} {f:Addr} {fd:FuncData} {ps:List Str} {sp:Sp} (F:FnOk P w K mg base CX0 k f fd ps sp):FnOk P w K mg base CX k f fd ps sp :=
 ⟨F.len,fun A outer s H args us vs Q E hr e0 hb hv hs=>codeAny_mono (F.run A outer s H args us vs Q E hr e0 hb hv hs) fun r s' q=>by
  cases r with
  | error e=>exact False.elim q
  | ok fl=>cases fl<;>exact q⟩
theorem ObjOk.thereO {P:Program} {w:World} {H:Hp} {h:Heap} {a:Addr} {o:HO} (x:ObjOk P w H h a o):∃ u,h.get? a=some u:=by
 cases o with
 | lst xs=>obtain⟨_,_,_,_,e⟩:=x;exact⟨_,e⟩
 | tup xs=>obtain⟨_,_,_,o,e,_⟩:=x;exact⟨_,e⟩
 | dK kvs=>obtain⟨_,_,_,_,o,_,_,e,_⟩:=x;exact⟨_,e⟩
 | dT kvs=>obtain⟨_,_,_,_,o,_,_,e,_⟩:=x;exact⟨_,e⟩
 | set S n=>obtain⟨o,_,_,_,e,_⟩:=x;exact⟨_,e⟩
 | ins C dx fs=>obtain⟨_,_,_,e,_⟩:=x;exact⟨_,e⟩
 | own y=>exact x
 | xd fs=>obtain⟨_,⟨_,_,_,e,_⟩,_⟩:=x;exact⟨_,e⟩
 | rng lo hi=>obtain⟨_,_,_,e⟩:=x;exact⟨_,e⟩
 | frz ob u=>obtain⟨e,_⟩:=x;exact⟨_,e⟩
 | tbl ps=>exact⟨_,(show h.get? a=some _ from x)⟩
 | met f y=>exact⟨_,(show h.get? a=some _ from x)⟩
 | ext φ=>obtain⟨_,e,_⟩:=x;exact e
theorem HOk.off {P:Program} {w:World} {H:Hp} {h:Heap} {a:Addr} (x:HOk P w H h) (e:h.get? a=none):H a=none:=by
 cases q:H a with
 | none=>rfl
 | some o=>obtain⟨u,z⟩:=(x a o q).thereO;rw [e] at z;cases z
section
variable {X:Cx} {pins:List (Addr×Obj)} {σ:St} {H H':Hp} {s s':Shared} {h' B:Heap} {ea:Addr} {c a0:Value}
def WD (X:Cx) (H':Hp) (s s':Shared) (B:Heap):Prop:=∀ b o,s'.heap.get? b=some o->((∃ u,s.heap.get? b=some u)∨H' b≠none)->b∉frs X.stack->B.get? b=some o
theorem JD (I:Inv X pins σ H s) (un:Un (frs X.stack) [] H H' s.heap s'.heap):∀ b∈frs X.stack,H' b=none:=fun b hb=>by
 obtain⟨_,o,ho,_⟩:=I.stack.mem hb
 exact un.free b o ho (I.stkFree b hb) (by simp)
theorem zao (I:Inv X pins σ H s) (un:Un (frs X.stack) [] H H' s.heap s'.heap) (hok:HOk X.prog X.w H' s'.heap) (hB:WD X H' s s' B) (st:B.StaysIn h') (up:s'.heap.UpToSlots h') :
  Un (frs X.stack) [] H H' s.heap h'∧HOk X.prog X.w H' h':=by
 have fr:=JD I un
 have sl:∀ b o,s.heap.get? b=some o->b∈frs X.stack->∃ q,h'.get? b=some { o with slots:=q }:=fun b o e hb=>by
  obtain⟨_,o2,ho,hd⟩:=I.stack.mem hb
  rw [e] at ho;cases ho
  obtain⟨q,e1⟩:=un.slot b o e (I.stkFree b hb) hb (by simp)
  obtain⟨q2,e2⟩:=up b _ e1 hd
  exact⟨q2,e2⟩
 refine⟨⟨fun b o e n hb _=>?_,fun b o e _ hb _=>sl b o e hb,fun b o e n _=>un.free b o e n (by simp),fun b o e _=>?_,un.tups,un.frzs,un.tbls⟩,fun a o e=>?_⟩
 ·exact st b o (hB b o (un.keep b o e n hb (by simp)) (.inl ⟨o,e⟩) hb)
 ·by_cases hb:b∈frs X.stack
  ·obtain⟨q,e1⟩:=sl b o e hb
   exact⟨_,e1⟩
  ·obtain⟨o1,e1⟩:=un.there b o e (by simp)
   exact⟨o1,st b o1 (hB b o1 e1 (.inl ⟨o,e⟩) hb)⟩
 ·refine (hok a o e).stay (fun b u hc q=>?_) (fun _ q=>q) fun _ _ q=>q
  have nb:H' b≠none:=by
   rcases hc with z | z
   ·rw [z,e];intro z2;cases z2
   ·rw [z];intro z2;cases z2
  exact st b u (hB b u q (.inr nb) fun hb=>nb (fr b hb))
theorem ze8 (I:Inv X pins σ H s) (un:Un (frs X.stack) [] H H' s.heap s'.heap) (hok:HOk X.prog X.w H' s'.heap) (hB:WD X H' s s' B) (st:B.StaysIn h') (up:s'.heap.UpToSlots h') (t:h'.TracedW B ea c a0) :
  zco (fun T=>s.heap.get? T=none∧H' T=none) h' ea c:=by
 have fr:=JD I un
 obtain⟨oe,vs,T,oT,ts,he,⟨hc,h0⟩,hd,h1,hnT,hTe,hT,hdT,h3⟩:=t
 have nF:T∉frs X.stack:=fun hb=>by
  obtain⟨_,o,ho,hd⟩:=I.stack.mem hb
  obtain⟨q,e1⟩:=un.slot T o ho (I.stkFree T hb) hb (by simp)
  obtain⟨q2,e2⟩:=up T _ e1 hd
  rw [hT] at e2;cases e2
  exact hd _ hdT
 refine⟨oe,oT,vs,ts,a0,T,he,hc,hd,h0,h1,⟨?_,?_⟩,hTe,hT,hdT,h3⟩
 ·cases q:s.heap.get? T with
  | none=>rfl
  | some o =>
   obtain⟨o1,e1⟩:=un.there T o q (by simp)
   have:=hB T o1 e1 (.inl ⟨o,q⟩) nF
   rw [hnT] at this;cases this
 ·cases q:H' T with
  | none=>rfl
  | some o =>
   obtain⟨o1,e1⟩:=(hok T o q).thereO
   have:=hB T o1 e1 (.inr (by rw [q];intro z;cases z)) nF
   rw [hnT] at this;cases this
theorem zdm {E:XK} (I:Inv X pins σ H s) (hx:X.ex=[]) (os:s'.os=s.os) (bare:AllBare s'.gens) (un:Un (frs X.stack) [] H H' s.heap s'.heap) (hok:HOk X.prog X.w H' s'.heap) (n0:s.heap.get? ea=none) (n1:H' ea=none)
  (hB:WD X H' s s' B) (st:B.StaysIn h') (t:h'.TracedW B ea c a0) (up:s'.heap.UpToSlots h') (hE:E c none H'):CX1 X.prog X.w X.outer X.H₀ X.s₀ E (.ref ea) { s' with heap:=h' }:=by
 obtain⟨u1,k1⟩:=zao I un hok hB st up
 have J:Inv X pins σ H' { s' with heap:=h' }:=I.call' (ch:=[]) os u1 k1 bare fun b z=>absurd z (by simp)
 have off:∀ b,s.heap.get? b=none->X.s₀.heap.get? b=none:=fun b e=>by
  cases q:X.s₀.heap.get? b with
  | none=>rfl
  | some o =>
   obtain⟨o1,e1⟩:=I.base.there b o q (by rw [hx];simp)
   rw [e] at e1;cases e1
 have ub:=J.base
 rw [hx] at ub
 obtain⟨oe,oT,vs,ts,a1,T,he,hc,hd,h0,h1,⟨hn,hm⟩,r⟩:=ze8 I un hok hB st up t
 exact⟨ea,c,H',rfl,J.os,J.bare,ub,k1,off ea n0,n1,⟨oe,oT,vs,ts,a1,T,he,hc,hd,h0,h1,⟨off T hn,hm⟩,r⟩,hE⟩
theorem JR {Ts:List Addr} (n0:s.heap.get? ea=none) (n1:H' ea=none) (nT:∀ T∈Ts,s.heap.get? T=none∧H' T=none):WD X H' s s' (PySem.W.hideAll s'.heap (ea :: (Ts++frs X.stack))):=fun b o e hb hf=>by
 refine PySem.W.hideAll_get _ e fun hm=>?_
 have bad:∀ a,s.heap.get? a=none->H' a=none->b≠a:=fun a h1 h2 z=>by
  subst z
  rcases hb with ⟨u,q⟩ | q
  ·rw [h1] at q;cases q
  ·exact q h2
 rcases List.mem_cons.mp hm with z | hm
 ·exact bad ea n0 n1 z
 ·rcases List.mem_append.mp hm with z | z
  ·exact bad b (nT b z).1 (nT b z).2 rfl
  ·exact hf z
theorem Vf (I:Inv X pins σ H s) (os:s'.os=s.os) (bare:AllBare s'.gens) (un:Un (frs X.stack) [] H H' s.heap s'.heap) (hok:HOk X.prog X.w H' s'.heap) {as:List Addr} (ha:∀ b∈frs X.stack,b∈as):s'.heap.FunFrames (PySem.W.hideAll s'.heap as) X.stack:=by
 have J:Inv X pins σ H' s':=I.call' (ch:=[]) os un hok bare fun b z=>absurd z (by simp)
 exact PySem.W.funFrames_hide J.stack fun env he b hb=>ha b (List.mem_filterMap.mpr ⟨env,he,hb⟩)
theorem zdv (I:Inv X pins σ H s) (os:s'.os=s.os) (bare:AllBare s'.gens) (un:Un (frs X.stack) [] H H' s.heap s'.heap) (hok:HOk X.prog X.w H' s'.heap) (n0:s.heap.get? ea=none) (n1:H' ea=none)
  (t:zco (fun T=>s.heap.get? T=none∧H' T=none) s'.heap ea c):∃ B a0,WD X H' s s' B∧Heap.FlyingW B X.stack ea c a0 s'.heap:=by
 obtain⟨oe,oT,vs,ts,a0,T,he,hc,hd,h0,h1,⟨hn,hm⟩,hTe,hT,hdT,h3⟩:=t
 refine⟨PySem.W.hideAll s'.heap (ea :: ([T]++frs X.stack)),a0,JR n0 n1 (fun b hb=>by rw [List.mem_singleton.mp hb];exact⟨hn,hm⟩),fun b o q=>PySem.W.of_hideAll _ q,PySem.W.hideAll_none _ (by simp),Vf I os bare un hok (by intro b hb;simp [hb]),?_⟩
 exact⟨oe,vs,T,oT,ts,he,⟨hc,h0⟩,hd,h1,PySem.W.hideAll_none _ (by simp),hTe,hT,hdT,h3⟩
end
theorem zc7 {P:Program} {w:World} {K:PySem.W.Frag} {mg:Str->Option Value} {base:Heap} {N:List Str} {qual:Str} {scope:Scope} {f:Addr} {cd:Value} {A:Around} {outer:List Env} {s₀:Shared} {H₀:Hp} {E:XK} :
  zec (Ys (CX1 P w) P w K mg base N qual scope f cd A outer s₀ H₀ E) fun _=>E:=by
 intro pins σ H s h' ea c vs I hm hE
 show wpAny _ _ (leaving (envOfC qual scope s₀.heap.objs.size f cd) (.ref ea)) _ _ _
 refine wpAny_leaves_madeW (s:={ s with heap:=h' }) (base:=PySem.W.hideAll s.heap (frs (Ys (CX1 P w) P w K mg base N qual scope f cd A outer s₀ H₀ E).stack)) I.ok.frames rfl (fun b o q=>PySem.W.of_hideAll _ q)
  (Vf I rfl I.bare Un.refl I.hok fun b hb=>hb) hm fun h2 t fl _ _ up=>?_
 refine zdm (s':={ s with heap:=h' }) I rfl rfl I.bare (Un.kept hm.keeps) (I.hok.kept hm.keeps) hm.new (I.hok.off hm.new) (fun b o e hb hf=>?_) fl.1 fl.2.2.2 up hE
 refine PySem.W.hideAll_get _ ?_ hf
 rcases hb with ⟨u,q⟩ | q
 ·have z:=hm.keeps b u q
  rw [show h'.get? b=some o from e] at z;cases z;exact q
 ·cases r:H b with
  | none=>exact absurd r q
  | some x =>
   obtain⟨u,q⟩:=(I.hok b x r).thereO
   have z:=hm.keeps b u q
   rw [show h'.get? b=some o from e] at z;cases z;exact q
abbrev veT:List Value:=[.type "ValueError",.type "Exception",.type "BaseException",.type "object"]
structure zeU (K:PySem.W.Frag) (mg:Str->Option Value) (x:Str) (C:Addr):Prop where
 g:mg x=some (.ref C)
 ok:PySem.W.excIn K C veT "ValueError.__new__" = true
theorem zdB {K:PySem.W.Frag} {h:Heap} {C:Addr} {bmB:List Value} {newId:String} (X:K.In h) (q:PySem.W.excIn K C bmB newId=true) :
  ∃ (bm bs:List Value) (N:Addr) (nm qn:Str) (hd ab:Bool) (sn:List Str) (sub:List Value) (col:Option Bool) (dd:Option Addr) (k0 k1 k2 k3 k5:Option Value) (mN:Str->Option Value),
   h.get? C=some (excClassObj nm qn C N bs bm hd sn sub ab col dd k0 k1 k2 k3 k5 newId)∧h.Ns N mN∧mN "__init__" = none∧OwnTail h bmB bm:=by
 unfold PySem.W.excIn at q
 split at q
 ·rename_i dd cd sl e
  split at q
  ·rename_i C2 bm k0 k1 k2 k3 n k5 hm hs
   rw [Bool.and_eq_true,Bool.and_eq_true,Bool.and_eq_true,Bool.and_eq_true,Bool.and_eq_true] at q
   have z1:=eq_of_beq q.1.1.1.1.1
   have z2:=eq_of_beq q.1.1.1.1.2
   have z3:cd.hasDel=false:=by simpa using q.1.1.1.2
   cases cd with
   | mk nm bs mro ns qn hd sn sub ab col del =>
    cases sl with
    | mk l =>
     have hs':l=_:=hs
     have hm':mro=_:=hm
     have z3':del=false:=z3
     subst hs' hm' z3' z1 z2
     exact⟨bm,bs,ns,nm,qn,hd,ab,sn,sub,col,dd,k0,k1,k2,k3,k5,_,X _ _ e,Heap.Ns.of_isNs (PySem.W.isNs_of_in X q.1.2),PySem.W.nsMap_none_of_in X q.1.2 (eq_of_beq q.2),PySem.W.tail_of_in X q.1.1.2⟩
  ·cases q
 ·cases q
def zej (c:Value) (Ex:St->XK) (t:TA):TS:=fun _ σ H=>t σ H fun vs H1=>vs.length≤sizeLine∧Ex σ c none H1
theorem zbU {X:Cx} {x:Str} {C:Addr} {Ex:St->XK} {e:Expr} {es:List Expr} {t:TA} {np cpos pos:Pos} (O:zeU X.K X.mg x C) (hx:zec X Ex) (hc:X.calm=true) (ha:PA X (e :: es) t) (hg:Gl X x:=by rfl) (hdb:(x == ("__debug__" : Str))=false:=by decide)
  (he:starEach (e :: es) X.env=(false,eval e X.env) :: starEach es X.env:=by rfl) (hpl:(backTo cpos (starEach (e :: es) X.env)).any (·.1)=false:=by rfl):PS X (.Raise (some (.Call (.Name x np) (e :: es) [] cpos)) none pos) (zej (.ref C) Ex t):=by
 intro pins s σ H D I h
 obtain⟨bm,bs,N,nm,qn,hd,ab,sn,sub,col,dd,k0,k1,k2,k3,k5,mN,hC,hN,hni,T⟩:=zdB (h:=X.base) I.ok.mod.kin O.ok
 refine wpAny_Raise_call_subT (C:=C) (nm:=nm) (q:=qn) (N:=N) (bs:=bs) (bm:=bm) (hdct:=hd) (sn:=sn) (sub:=sub) (ab:=ab) (col:=col) (dd:=dd) (k0:=k0) (k1:=k1) (k2:=k2) (k3:=k3) (k5:=k5)
  PySem.F.excBase_ValueError (mN:=mN) (T.hasType PySem.F.excBase_ValueError.hasBase) (I.ok.hd hc) hpl hni (ZL I hg O.g ⟨rfl,?_⟩ hdb)
 have ha':=ha cpos pins s σ H _ I h
 rw [he] at ha' ⊢
 refine Calls.evalArgs_plain (thn ha' fun us s1 ⟨vs,H1,I1,r,hz,q⟩=>?_)
 exact⟨rfl,by rw [← r.length];exact hz,I1.bk _ _ hC,hN.keeps I1.bk,T.keeps I1.bk,fun h' ea hm=>hx pins σ H1 s1 h' ea (.ref C) us I1 hm q⟩
def zc0 (sp:Sp) (Ex:St->XK) (t:TA):TE:=fun σ H Q=>t σ H fun vs H1=>sp vs H1 Q (Ex σ)
theorem zdE {X:Cx} {k:Nat} {f:Addr} {fd:FuncData} {ps:List Str} {sp:Sp} {Ex:St->XK} {pins:List (Addr×Obj)} {σ:St} {H:Hp} {s:Shared} {Q:VK} {us:List Value} {vs:List V} (F:FnOk X.prog X.w X.K X.mg X.base (CX1 X.prog X.w) k f fd ps sp) (hr:Room k X.A) (hb:Binds X.K fd ps []) (hx:QR X Ex)
  (I:Inv X pins σ H s) (r:Vals vs us) (h:sp vs H Q (Ex σ)):wpAny (model X.prog X.w) X.A (call (.ref f) us) (EP X pins σ Q) X.xe s:=by
 have hl:us.length=ps.length:=by rw [← r.length];exact F.len _ _ _ _ h
 have hb':=hb s us I.kIn (by rw [List.append_nil];exact hl)
 rw [List.append_nil] at hb'
 refine wpAny_call (codeAny_mono (F.run X.A X.stack s H ⟨us,[]⟩ us vs Q (Ex σ) hr I.env0 hb' r h) fun r s' hq=>?_)
 cases r with
 | error e=>exact hx pins σ H s e s' I hq
 | ok fl =>
  cases fl with
  | ret u=>exact I.after hq
  | next=>exact False.elim hq
  | brk=>exact False.elim hq
  | cont=>exact False.elim hq
theorem Qc {X:Cx} {x:Str} {st:Stmt} {ps:List Str} {f:Addr} {fd:FuncData} {k:Nat} {sp:Sp} {Ex:St->XK} {e:Expr} {es:List Expr} {t:TA} {p pos:Pos} (D:Df X.K X.mg x st ps f fd) (G:FnOk X.prog X.w X.K X.mg X.base (CX1 X.prog X.w) k f fd ps sp) (hr:Room k X.A) (hx:QR X Ex) (ha:PA X (e :: es) t) (hg:Gl X x:=by rfl)
  (hdb:(x == ("__debug__" : Str))=false:=by decide) (he:starEach (e :: es) X.env=(false,eval e X.env) :: starEach es X.env:=by rfl) (hpl:(backTo pos (starEach es X.env)).any (·.1)=false:=by rfl):PE X (.Call (.Name x p) (e :: es) [] pos) (zc0 sp Ex t):=by
 intro pins s σ H Q I h
 refine wpAny_Call_Name_kw (ZL I hg D.g ?_ hdb)
 refine PySem.W.callWith_K (h₀:=X.base) I.ok.mod.kin D.fn.kp (thn (ha pos pins s σ H _ I h) fun us s1 ⟨vs,H1,I1,r,q⟩=>⟨I1.kIn,?_⟩) he hpl
 exact zdE G hr D.b hx I1 r q
theorem Fun.ok1 {P:Program} {w:World} {K:PySem.W.Frag} {mg:Str->Option Value} {base:Heap} {x qual:Str} {st:Stmt} {f:Addr} {fd:FuncData} {N ps:List Str} {k:Nat} {sp:Sp} (F:Fun K x qual st f fd) (S:zF N ps (zq st)) (len:∀ vs H Q E,sp vs H Q E->vs.length=ps.length)
  (hbody:∀ (cdv:Value) (A:Around) (outer:List Env) (s:Shared) (H:Hp) (vs:List V) (Q:VK) (E:XK),Room k (A.deeper (envOfC qual (zq st) s.heap.objs.size f cdv))->sp vs H Q E ->
   ∃ t,PSs (Ys (CX1 P w) P w K mg base N qual (zq st) f cdv A outer s H E) (yR st) t∧t { nx:=fun _ H'=>Q .non H',rt:=Q } (start N vs) H):FnOk P w K mg base (CX1 P w) (k+1) f fd ps sp:=by
 obtain⟨oc,od,kV,doc,pm,an,cdv,ct,osl,rfl,lk,hcd⟩:=F.ex
 exact zbW lk hcd S len fun A outer s H vs Q E hr hsp=>hbody cdv A outer s H vs Q E hr hsp
open PySem PySem.Spec PyProof.Rows Builtin Builtin.ObjectAttr Builtin.Getset_descriptor
structure V7 (K:PySem.W.Frag) (C:Addr):Prop where
 ga:PySem.W.findIn K (.ref C) "__getattribute__" = some (some (.builtin "BaseException.__getattribute__"))
 hk:PySem.W.findIn K (.ref C) "__getattr__" = some none
 at_:PySem.W.findIn K (.ref C) "__class__" = some (some (.builtin "object.__class__"))
 sp:PySem.W.specialIn K (.builtin "object.__class__") "__get__" = some (some (.builtin "getset_descriptor.__get__"))
 tk:PySem.W.takesIn K (.builtin "object.__class__")=some true
 mo:PySem.W.mroIn K C (.type "object")=some true
 mb:PySem.W.mroIn K C (.type "BaseException")=some true
def ExcAt (e C:Addr) (h:Heap):Prop:=∃ o,h.get? e=some o∧o.cls=.ref C
section
variable {prog:Program} {w:World} {A:Around} {K:PySem.W.Frag} {e C:Addr} {h:Heap}
theorem ExcAt.ty {M:Model} (x:ExcAt e C h):PySem.W.Looks M h (typeOf (.ref e)) (.ref C):=by
 obtain⟨o,h1,h2⟩:=x
 have L:PySem.W.Looks M h (typeOf (.ref e)) o.cls:=(PySem.W.Looks.ld h1).andThen .now
 rw [h2] at L
 exact L
theorem Jf {M:Model} (X:K.In h) (F:V7 K C):PySem.W.Looks M h (find (.ref e) (.ref C) "__class__") (.bind (.builtin "getset_descriptor.__get__") (.builtin "object.__class__")):=by
 have q3:PySem.W.Looks M h (dataDescriptor? (some (.builtin "object.__class__")) (some (.builtin "getset_descriptor.__get__"))) (some (.builtin "getset_descriptor.__get__",.builtin "object.__class__")):=(PySem.W.looks_takesIn X F.tk).andThen .now
 have q2:PySem.W.Looks M h (getOf (some (.builtin "object.__class__"))) (some (.builtin "getset_descriptor.__get__")):=PySem.W.looks_specialIn X F.sp
 exact (PySem.W.looks_findIn X F.at_).andThen (q2.andThen (q3.andThen (PySem.W.Looks.tag .now)))
theorem Qn {R:Result->Shared->Prop} {s:Shared} {tp:Value} (X:K.In s.heap) (x:ExcAt e C s.heap) (F:V7 K C) (q:R (.ok (.ret (.ref C))) s):codeAny (model prog w) A (.call (.builtin "getset_descriptor.__get__") ⟨[.builtin "object.__class__",.ref e,tp],[]⟩) R s:=by
 cases s with
 | mk hp gn dr tk os =>
  have y0:=x.ty (M:=model prog w)
  have y1:=PySem.W.looks_mroIn (M:=model prog w) X F.mo
  refine codeAny_call_builtin PySem.W.KF.slot_gs.plain PySem.W.KF.entry_gs (PySem.W.KF.slot_gs.check _ _ _ _ _ _ _ _ PySem.W.KF.type_class (PySem.W.KF.args_gs _ _ _) ?_)
  unfold «getset_descriptor.__get__» descrGet
  rw [PySem.W.dga_obj]
  refine wpAny_bind (wpAny_pure ?_)
  unfold descrGetter descrCheckInstance descrNameAndClass isInstance
  simp only [PySem.W.KF.owner_class]
  repeat lk
  refine⟨Code.quiet_builtin _ (by decide +kernel),codeAny_builtin PySem.W.KF.entry_class ?_⟩
  unfold «object.__class__» shownTypeOf
  repeat lk
  exact q
theorem zeT {R:Result->Shared->Prop} {s:Shared} {t:Tok} (X:K.In s.heap) (x:ExcAt e C s.heap) (F:V7 K C) (q:R (.ok (.ret (.ref C))) s):codeAny (model prog w) A (.call (.builtin "BaseException.__getattribute__") ⟨[.ref e,.str "__class__" t],[]⟩) R s:=by
 cases s with
 | mk hp gn dr tk os =>
  have y0:=x.ty (M:=model prog w)
  have y3:=Jf (M:=model prog w) (e:=e) X F
  have y4:=PySem.W.looks_mroIn (M:=model prog w) X F.mb
  refine codeAny_call_builtin PySem.F.attr_ValueError.ga.plain PySem.F.entry_bexc_ga ?_
  have z1:builtinKind "BaseException.__getattribute__" = some .slot:=by decide +kernel
  have z2:splitId "BaseException.__getattribute__" = some ("BaseException","__getattribute__"):=by decide +kernel
  have z3:=PySem.F.args_bexc_ga (.ref e) (.str "__class__" t)
  simp only [checkBuiltinCall,z1,z2]
  refine wpAny_bind ?_
  unfold isInstance
  refine wpAny_bind (y0.at (y4.at ?_))
  repeat (any_goals (first | assumption | wp_step))
  obtain⟨o,h1,h2⟩:=id x
  refine wpAny_loadPart h1 (wpAny_pure ?_)
  rw [h2]
  refine wpAny_bind (y3.at ?_)
  dsimp only
  repeat (any_goals (first | assumption | with_reducible refine wpAny_holding ?_ | wp_step))
  exact Qn (s:=⟨hp,gn,dr,tk,os⟩) X x F (wpAny_pure q)
theorem zbQ {E:Value->Shared->Prop} {Q:Option Value->Shared->Prop} {s:Shared} (X:K.In s.heap) (x:ExcAt e C s.heap) (F:V7 K C) (q:Q (some (.ref C)) { s with toks:=s.toks+1 }):wpAny (model prog w) A (getAttr? (.ref e) "__class__") Q E s:=by
 cases s with
 | mk hp gn dr tk os =>
  have y0:=x.ty (M:=model prog w)
  have y1:=PySem.W.looks_findIn (M:=model prog w) X F.ga
  have y2:=PySem.W.looks_findIn (M:=model prog w) X F.hk
  have y3:=Jf (M:=model prog w) (e:=e) X F
  have y4:=PySem.W.looks_mroIn (M:=model prog w) X F.mb
  unfold getAttr? getAttrBy? getAttrBy
  refine wpAny_bind (wpAny_mkText (wpAny_bind (wpAny_attempt (wpAny_holding (wpAny_bind (y0.at (wpAny_bind (y1.at ?_))))))))
  show wpAny _ _ (if (onTheHeap (.ref C) && (Value.builtin "BaseException.__getattribute__" == Value.builtin "object.__getattribute__"))=true then _ else _) _ _ _
  rw [show (Value.builtin "BaseException.__getattribute__" == Value.builtin "object.__getattribute__")=false from by decide +kernel,Bool.and_false,if_neg (by decide)]
  unfold getAttrByItsOwn hookBefore
  refine wpAny_bind ?_
  rw [if_pos (show onTheHeap (.ref C)=true from rfl)]
  refine y2.at (wpAny_bind (wpAny_attempt (wpAny_holding ?_)))
  unfold callGetattribute boundAndCalled
  rw [if_neg (by intro z;cases z)]
  refine wpAny_bind (wpAny_of_eq (PySem.F.attr_ValueError.ga.bind (.ref e)) ?_)
  exact wpAny_call (zeT (s:=⟨hp,gn,dr,tk+1,os⟩) X x F (wpAny_pure (wpAny_pure q)))
theorem zce (F:V7 K C):PySem.W.KitX K (.ref e) (.ref C) (ExcAt e C) where
 ty:=fun _ _ _ x=>x.ty
 it:=fun _ _ X _=>by
  have z:=F.mo
  unfold PySem.W.mroIn PySem.W.clsIn at z
  split at z
  ·rename_i ho
   intro A1 Q1 E1 s1 k q
   unfold isType loadHead
   exact wpAny_bind (wpAny_loadPart (k _ _ (X _ _ ho)) (wpAny_pure q))
  ·cases z
 ne:=fun h tp dd its n sl X htp=>by
  have z:=F.mo
  refine Bool.eq_false_iff.mpr fun q=>?_
  have ec:C=tp:=Value.ref.inj (beq_iff_eq.mp q)
  subst ec
  unfold PySem.W.mroIn PySem.W.clsIn at z
  split at z
  ·rename_i ho
   have z2:=X _ _ ho
   rw [htp] at z2
   cases z2
  ·cases z
 ca:=fun X x q=>zbQ X x F q
def V5 (e C:Addr):HO:=.ext fun h=>ExcAt e C h
def zaU (K:PySem.W.Frag):List V->Hp->VK->Prop:=fun xs H Q=>∃ e C c cu b,xs=[.ref e,c]∧RelV c cu∧(∀ u,RelV c u->u=cu)∧H e=some (V5 e C)∧V7 K C∧PySem.W.kitOne K (.ref C) cu=some b∧Q (.bl b) H
theorem zbt {X:Cx}:wy X (.builtin "isinstance") (zaU X.K):=by
 intro pins s σ H xs us Q I r h
 obtain⟨e,C,c,cu,b,rfl,_,un,he,F,k,q⟩:=h
 obtain⟨u,v,rfl,rx,rt⟩:=vals2 r
 cases (show u=Value.ref e from rx)
 cases un v rt
 have o:ObjOk X.prog X.w H s.heap e (V5 e C):=I.hok e _ he
 exact PySem.W.kia_one (zce F) I.kIn o.1 k (fun z=>nomatch z) fun tk=>⟨.bl b,H,I.tok tk,rfl,q⟩
theorem ul {X:Cx} (K:PySem.W.Frag) (e:X.K=K:=by rfl):wy X (.builtin "isinstance") (zaU K):=by subst e;exact zbt
end
structure Qv (K:PySem.W.Frag) (mg:Str->Option Value) (y:Str) (Ch:Addr):Prop where
 g:mg y=some (.ref Ch)
 mb:PySem.W.mroIn K Ch (.type "BaseException")=some true
theorem zbH {prog:Program} {w:World} {A:Around} {E:Value->Shared->Prop} {K:PySem.W.Frag} {e C Ch:Addr} {s:Shared} {b:Bool} {Q:Bool->Shared->Prop} (X:K.In s.heap) (x:ExcAt e C s.heap) (m:PySem.W.kitCls K (.ref C) (.ref Ch)=some b)
  (hb:PySem.W.mroIn K Ch (.type "BaseException")=some true) (q:Q b s):wpAny (model prog w) A (excMatches (.ref e) (.ref Ch)) Q E s:=by
 cases s with
 | mk hp gn dr tk os =>
  obtain⟨y1,y2,y3⟩:=PySem.W.kit_cls (M:=model prog w) X m
  have y0:=x.ty (M:=model prog w)
  have y4:=PySem.W.looks_mroIn (M:=model prog w) X hb
  have y5:=tc_notTuple
  unfold excMatches isInstance isExcClass
  repeat (first | with_reducible refine PySem.W.Looks.at (by assumption) ?_ | (with_reducible refine wpAny_of_eq y5 ?_) | with_reducible refine wpAny_bind ?_ | wp_step)
  cases b
  ·exact wpAny_pure (wpAny_pure (wpAny_pure q))
  ·exact wpAny_pure (wpAny_pure (wpAny_pure q))
section
variable {X:Cx} {pins:List (Addr×Obj)} {σ:St} {H H':Hp} {s s':Shared}
abbrev Cx.sui (X:Cx) (e:Addr):Cx:={ X with A:=X.A.mark (some (.ref e)),calm:=false,xe:=fun _ _=>False }
theorem Inv.toSui (I:Inv X pins σ H s) (e:Addr):Inv (X.sui e) pins σ H s :=
 ⟨⟨I.ok.mod,I.ok.kind,I.ok.glob,I.ok.blt,I.ok.above,I.ok.inj,I.ok.has,I.ok.cab,(fun z=>nomatch z),I.ok.frames,I.ok.stk,I.ok.exf,I.ok.bs,I.ok.bsz,I.ok.noex,I.ok.exfs,I.ok.funs,I.ok.frf⟩,I.os,I.bare,I.base,I.loc,I.cell,I.free,I.freeC,I.pin,I.hok,I.len⟩
theorem Inv.ofSui {e:Addr} (ok:X.Ok) (I:Inv (X.sui e) pins σ H s):Inv X pins σ H s:=⟨ok,I.os,I.bare,I.base,I.loc,I.cell,I.free,I.freeC,I.pin,I.hok,I.len⟩
abbrev Cx.body (X:Cx) (E:Value->Shared->Prop) (pn:List (Addr×Obj)):Cx:={ X with xe:=E,pn:=pn }
theorem Inv.toBody (I:Inv X pins σ H s) (E:Value->Shared->Prop):Inv (X.body E (X.pn++pins)) [] σ H s :=
 ⟨⟨I.ok.mod,I.ok.kind,I.ok.glob,I.ok.blt,I.ok.above,I.ok.inj,I.ok.has,I.ok.cab,I.ok.hd,I.ok.frames,I.ok.stk,I.ok.exf,I.ok.bs,I.ok.bsz,I.ok.noex,I.ok.exfs,I.ok.funs,I.ok.frf⟩,I.os,I.bare,I.base,I.loc,I.cell,I.free,I.freeC,fun p hp=>I.pin p (by rw [List.append_nil] at hp;exact hp),I.hok,I.len⟩
theorem Inv.ofBody {E:Value->Shared->Prop} {pins':List (Addr×Obj)} (ok:X.Ok) (I:Inv (X.body E (X.pn++pins)) pins' σ H s):Inv X pins σ H s:=⟨ok,I.os,I.bare,I.base,I.loc,I.cell,I.free,I.freeC,fun p hp=>I.pin p (List.mem_append_left _ hp),I.hok,I.len⟩
theorem SP.ofBody {E:Value->Shared->Prop} {D:Ends} {f:Flow} (ok:X.Ok) (h:SP (X.body E (X.pn++pins)) [] D f s'):SP X pins D f s':=by
 cases f with
 | next=>obtain⟨σ',H',I,q⟩:=h;exact⟨σ',H',I.ofBody ok,q⟩
 | brk=>obtain⟨σ',H',I,q⟩:=h;exact⟨σ',H',I.ofBody ok,q⟩
 | cont=>obtain⟨σ',H',I,q⟩:=h;exact⟨σ',H',I.ofBody ok,q⟩
 | ret u=>obtain⟨v,σ',H',I,r,q⟩:=h;exact⟨v,σ',H',I.ofBody ok,r,q⟩
theorem zbJ {e C:Addr} {h':Heap} (un:Un (frs X.stack) [] H H' s.heap h') (hok:HOk X.prog X.w H' h') (n0:s.heap.get? e=none) (n1:H' e=none) (x:ExcAt e C h') :
  Un (frs X.stack) [] H (upd H' e (V5 e C)) s.heap h'∧HOk X.prog X.w (upd H' e (V5 e C)) h':=by
 have ne:∀ b o,s.heap.get? b=some o->b≠e:=fun b o q z=>by rw [z,n0] at q;cases q
 refine⟨⟨un.keep,un.slot,fun b o q n hx=>by rw [zu (ne b o q)];exact un.free b o q n hx,un.there,fun b xs q=>?_,fun b o u q=>?_,fun b ps q=>?_⟩,fun b o q=>?_⟩
 ·have z:=un.tups b xs q
  rw [zu (zy z n1)];exact z
 ·have z:=un.frzs b o u q
  rw [zu (zy z n1)];exact z
 ·obtain⟨more,z⟩:=un.tbls b ps q
  exact⟨more,by rw [zu (zy z n1)];exact z⟩
 ·by_cases hb:b=e
  ·subst hb
   rw [zg] at q
   cases q
   obtain⟨o,h1,h2⟩:=id x
   exact⟨x,⟨o,h1⟩,fun ha hb' xa ka=>let ⟨o,h1,h2⟩:=xa;⟨o,ka o h1,h2⟩⟩
  ·rw [zu hb] at q
   exact (hok b o q).stay (fun c u _ z=>z) (fun c z=>by rw [zu (zy z n1)];exact z) fun c xs z=>by rw [zu (zy z n1)];exact z
theorem Inv.gone {i t:Nat} {n:Str} {h':Heap} (I:Inv X pins σ H s) (hN:X.N.Nodup) (hi:X.N[i]?=some n) (hs:Heap.SameBut X.env.locals s.heap h') (hn:∀ m,s.heap.Ns X.env.locals m->∃ v,h'.Ns X.env.locals fun x=>if x=n then v else m x) :
  Inv X pins (σ.set i none) H { s with heap:=h',toks:=t }:=by
 have nl:∀ b o,X.s₀.heap.get? b=some o->b≠X.env.locals:=fun b o e=>Nat.ne_of_lt (Nat.lt_of_lt_of_le (Heap.lt_size e) I.ok.above)
 have tr:∀ b u,H b=some u->b≠X.env.locals:=fun b u e z=>by rw [z,I.free] at e;cases e
 obtain⟨m,hm,hl⟩:=id I.loc
 obtain⟨v,hv⟩:=hn m hm
 refine⟨I.ok,I.os,I.bare,⟨fun b o e n hb hx=>(hs.2 b (nl b o e)).trans (I.base.keep b o e n hb hx),fun b o e n hb hx=>?_,I.base.free,fun b o e hx=>?_,I.base.tups,I.base.frzs,I.base.tbls⟩,⟨_,hv,fun j y w e1 e2 e3=>?_⟩,fun y c e=>?_,I.free,I.freeC,fun p hp=>?_,fun b u e=>?_,by rw [List.length_set];exact I.len⟩
 ·obtain⟨sl,q⟩:=I.base.slot b o e n hb hx
  exact⟨sl,(hs.2 b (nl b o e)).trans q⟩
 ·obtain⟨o1,q⟩:=I.base.there b o e hx
  exact⟨o1,(hs.2 b (nl b o e)).trans q⟩
 ·have hj:j≠i:=fun z=>by
   subst z
   rw [List.getElem?_set] at e2
   split at e2
   ·split at e2<;>cases e2
   ·exact absurd rfl (by assumption)
  rw [List.getElem?_set_ne (Ne.symm hj)] at e2
  obtain⟨u,r,q⟩:=hl j y w e1 e2 e3
  refine⟨u,r,?_⟩
  rcases q with ⟨k,z⟩ | ⟨k,c,z,zc⟩
  ·refine .inl ⟨k,?_⟩
   have ny:y≠n:=fun z=>hj (Vk hN e1 (z▸hi))
   show (if y=n then v else m y)=some u
   rw [if_neg ny];exact z
  ·exact .inr ⟨k,c,z,zc.sameBut hs (I.cne y c z)⟩
 ·obtain⟨w,z⟩:=I.cell y c e
  exact⟨w,z.sameBut hs (I.cne y c e)⟩
 ·obtain⟨e,n,ne,nf,d⟩:=I.pin p hp
  exact⟨(hs.2 p.1 ne).trans e,n,ne,nf,d⟩
 ·refine (I.hok b u e).stay (fun c z hc q=>(hs.2 c ?_).trans q) (fun _ q=>q) fun _ _ q=>q
  rcases hc with z | z
  ·rw [z];exact tr b u e
  ·exact tr c _ z
end
def zea (i:Nat) (D:Ends):Ends:={ nx:=fun σ H=>D.nx (σ.set i none) H,rt:=D.rt,bk:=fun σ H=>D.bk (σ.set i none) H,ct:=fun σ H=>D.ct (σ.set i none) H }
def xAs (K:PySem.W.Frag) (Ch:Addr) (i:Nat) (ts:TS) (D:Ends):St->XK:=fun σ c _ H=>∃ C,c=.ref C∧PySem.W.kitCls K (.ref C) (.ref Ch)=some true∧∀ e,H e=none->ts (zea i D) (σ.set i (some (.ref e))) (upd H e (V5 e C))
def zeG (K:PySem.W.Frag) (Ch:Addr) (i:Nat) (tb:(St->XK)->TS) (ts:TS):TS:=fun D σ H=>tb (xAs K Ch i ts D) D σ H
section
variable {X:Cx} {y n:Str} {Ch:Addr} {i:Nat} {body suite:List Stmt} {b₀:Stmt} {tb:(St->XK)->TS} {ts:TS} {np hpos pos:Pos}
theorem zcO (O:Qv X.K X.mg y Ch) (hstk:X.stack=X.env :: X.outer) (hfr:X.env.frame=some X.env.locals) (nd:X.N.Nodup) (hi:X.N[i]?=some n) (hloc:X.env.scope.names.lookup n=some .local)
  (hb:∀ (E:Value->Shared->Prop) (pn:List (Addr×Obj)) (Ex:St->XK),QR (X.body E pn) Ex->PSs (X.body E pn) body (tb Ex)) (hs:∀ e,PSs (X.sui e) (b₀ :: suite) ts) (hg:Gl X y:=by rfl) (hdb:(y == ("__debug__" : Str))=false:=by decide) :
  PS X (.Try body [.ExceptHandler (some (.Name y np)) (some n) (b₀ :: suite) hpos] [] [] pos) (zeG X.K Ch i tb ts):=by
 intro pins s σ H D I h
 have ok:=I.ok
 refine wpAny_Try_except (wpAny_mono (hb (fun e s₁=>wpAny (model X.prog X.w) X.A (noteFrame e X.env) (fun _ s₂=>wpAny (model X.prog X.w) X.A (setFlight e none) (fun _ s₃=>wpAny (model X.prog X.w) X.A (handleBy e X.env [.ExceptHandler (some (.Name y np)) (some n) (b₀ :: suite) hpos]) (SP X pins D) X.xe s₃) X.xe s₂) X.xe s₁)
  (X.pn++pins) (xAs X.K Ch i ts D) ?_ [] s σ H D (I.toBody _) h) (fun f s1 q=>?_) fun _ _ z=>z)
 ·intro pins2 σ2 H2 s2 e s3 I2 hcx
  have I2:=I2.ofBody ok
  obtain⟨ea,c,H3,rfl,os,bare,un,hok,n0,n1,t,C,rfl,hk,hq⟩:=hcx
  obtain⟨B,a0,hB,fl⟩:=zdv I2 os bare un hok n0 n1 t
  have fl':Heap.FlyingW B (X.env :: X.outer) ea (.ref C) a0 s3.heap:=by rw [← hstk];exact fl
  refine wpAny_looks_onW (by rw [ok.frames,hstk]) hfr fl' fun h4 held up4=>wpAny_landsW held fun h5 fl5 up5=>?_
  obtain⟨u5,k5⟩:=zao I2 un hok hB fl5.1 (up4.trans up5)
  have J5:Inv X pins σ2 H3 { s3 with heap:=h5 }:=I2.call' (ch:=[]) os u5 k5 bare fun b z=>absurd z (by simp)
  have x5:ExcAt ea C h5:=fl5.there
  refine wpAny_handleBy_cons (codeAny_handlers_test (ZL (X:=X.sui ea) (J5.toSui ea) hg O.g ?_ hdb)) (by intro z;cases z)
  refine zbH J5.kIn x5 hk O.mb (codeAny_handlers_suite_as (lands_againW fl5 fun h6 fl6 up6=>?_))
  obtain⟨u6,k6⟩:=zao I2 un hok hB fl6.1 ((up4.trans up5).trans up6)
  obtain⟨u7,k7⟩:=zbJ u6 k6 n0 n1 fl6.there
  have J7:Inv X pins σ2 (upd H3 ea (V5 ea C)) { s3 with heap:=h6 }:=I2.call' (ch:=[]) os u7 k7 bare fun b z=>absurd z (by simp)
  refine Xc (X:=X.sui ea) (v:=.ref ea) (J7.toSui ea) nd hi (.inl hloc) rfl (fun s8 J8=>?_) (.inr hloc)
  refine wpAny_mono (hs ea pins s8 _ _ (zea i D) J8 (hq ea n1)) (fun f s9 q=>?_) fun _ _ z=>False.elim z
  have fin:∀ {σ9:St} {H9:Hp},Inv (X.sui ea) pins σ9 H9 s9->(∀ s10,Inv X pins (σ9.set i none) H9 s10->SP X pins D f s10)->wpAny (model X.prog X.w) X.A (do bindName X.env n .none;unbindBehindTheSuite X.env n hpos) (fun _ s10=>SP X pins D f s10) X.xe s9:=fun {σ9 H9} J k=>by
   have J':=J.ofSui ok
   obtain⟨m,hm,_⟩:=id J'.loc
   refine wpAny_nameGoes_keeps hloc hm (by rw [ok.kind];rfl) fun h10 v hn hsb=>k _ (J'.gone nd hi hsb fun m2 hm2=>?_)
   refine⟨v,?_⟩
   have e:m2=m:=by
    obtain⟨o1,es1,ep1,a1,b1,c1,d1⟩:=hm
    obtain⟨o2,es2,ep2,a2,b2,c2,d2⟩:=hm2
    rw [a1] at a2;cases a2
    rw [b1] at b2;cases b2
    funext z
    rw [← d1,← d2]
   rw [e];exact hn
  cases f with
  | next=>obtain⟨σ9,H9,J,q⟩:=q;exact fin J fun s10 K10=>⟨_,_,K10,q⟩
  | brk=>obtain⟨σ9,H9,J,q⟩:=q;exact fin J fun s10 K10=>⟨_,_,K10,q⟩
  | cont=>obtain⟨σ9,H9,J,q⟩:=q;exact fin J fun s10 K10=>⟨_,_,K10,q⟩
  | ret u=>obtain⟨v,σ9,H9,J,r,q⟩:=q;exact fin J fun s10 K10=>⟨v,_,_,K10,r,q⟩
 ·cases f with
  | next=>exact wpAny_execs_nil (SP.ofBody ok q)
  | ret u=>exact SP.ofBody ok q
  | brk=>exact SP.ofBody ok q
  | cont=>exact SP.ofBody ok q
end
theorem zcn {X:Cx}:QR X fun _=>E0:=fun _ _ _ _ _ _ _ h=>by obtain⟨_,_,_,_,_,_,_,_,_,_,_,z⟩:=h;exact z.elim
open PySem PyProof.Rows
@[irreducible] def PEI (X:Cx) (e:Expr) (t:TE):Prop:=PE X e t
@[irreducible] def PAI (X:Cx) (es:List Expr) (t:TA):Prop:=PA X es t
@[irreducible] def PSsI (X:Cx) (st:List Stmt) (t:TS):Prop:=PSs X st t
theorem PEI.o {X:Cx} {e:Expr} {t:TE} (h:PEI X e t):PE X e t:=by unfold PEI at h;exact h
theorem PAI.o {X:Cx} {es:List Expr} {t:TA} (h:PAI X es t):PA X es t:=by unfold PAI at h;exact h
theorem PSsI.o {X:Cx} {l:List Stmt} {t:TS} (h:PSsI X l t):PSs X l t:=by unfold PSsI at h;exact h
theorem pei {X:Cx} {e:Expr} {t:TE} (h:PE X e t):PEI X e t:=by unfold PEI;exact h
theorem pai {X:Cx} {es:List Expr} {t:TA} (h:PA X es t):PAI X es t:=by unfold PAI;exact h
theorem YW {X:Cx} {i j pos}:PEI X (.Constant (.int i) j pos) (tC (.int i)):=pei zr
theorem Qq {X:Cx} {es:List Expr} {t:TA} {pos:Pos} (h:PAI X es t):PEI X (.List es pos) (zdw t):=pei (zJ h.o)
theorem zdS {X:Cx} {es:List Expr} {t:TA} {x1} {pos:Pos} (h:PAI X es t):PEI X (.Tuple es x1 pos) (zet t):=pei (vh h.o)
theorem Xf {X:Cx}:PAI X [] WQ:=pai zm
theorem vM {X:Cx} {e:Expr} {es:List Expr} {te:TE} {t:TA} (ha:PEI X e te) (hr:PAI X es t) (hs:starEach (e :: es) X.env=(false,eval e X.env) :: starEach es X.env:=by rfl):PAI X (e :: es) (Zf te t):=pai (zf ha.o hr.o hs)
theorem zdN {X:Cx} {x:Str} {st:Stmt} {ps:List Str} {f:Addr} {fd:FuncData} {k:Nat} {sp:Sp} {Ex:St->XK} {e:Expr} {es:List Expr} {t:TA} {p pos:Pos} (D:Df X.K X.mg x st ps f fd) (G:FnOk X.prog X.w X.K X.mg X.base (CX1 X.prog X.w) k f fd ps sp) (hr:Room k X.A) (hx:QR X Ex) (ha:PAI X (e :: es) t) (hg:Gl X x:=by rfl)
  (hdb:(x == ("__debug__" : Str))=false:=by decide) (he:starEach (e :: es) X.env=(false,eval e X.env) :: starEach es X.env:=by rfl) (hpl:(backTo pos (starEach es X.env)).any (·.1)=false:=by rfl):PE X (.Call (.Name x p) (e :: es) [] pos) (zc0 sp Ex t):=Qc D G hr hx ha.o hg hdb he hpl
def zfE (K:PySem.W.Frag) (n:Nat) (t:TGs):TG:=fun v σ H Q=>∃ a xs,v=.ref a∧SqL K H a xs∧xs.length=n∧t xs σ H Q
theorem zdX {X:Cx} {es:List Expr} {k:Nat} {pos:Pos} {t:TGs} {n:Nat} (hc:X.calm=true) (h:PGs X es t)
  (hn:(assignEach es X.env).length=n:=by rfl) (hst:(assignEach es X.env).findIdx? (·.1)=none:=by rfl):PG X (.Tuple es k pos) (zfE X.K n t):=by
 intro pins s σ H v u Q I r hw
 obtain⟨a,xs,e1,hq,hl,hw⟩:=hw
 subst e1
 cases r
 obtain⟨its,rv,ht,hz⟩:=I.list hq
 have hli:s.heap.IsList a its.toArray:=by
  obtain⟨o,m,e,c,_,d⟩:=ht
  exact⟨_,e,c,_,d⟩
 rw [assign_Tuple]
 refine wpAny_bind (wpAny_standAt ?_)
 unfold unpack
 rw [show (assignEach es X.env).length=its.toArray.size by simp [hn,← hl,rv.length],hst]
 refine wpAny_bind (wpAny_holding (PySem.W.kun_itemsOf (I.ok.hd hc) hli fun h' hx=>?_))
 have I1:Inv X pins σ H { s with heap:=h' }:=I.kept (t':=s.toks) fun b o e=>hx b o (Nat.ne_of_lt (Heap.lt_size e)) e
 exact h pins _ σ H xs _ Q I1 (by simpa using rv) hw
open PySem PySem.Spec PyProof.Rows PySem.SeqAt
section
variable {X:Cx}
def zfv (K:PySem.W.Frag):List V->Hp->VK->Prop:=fun xs H Q=>∃ (a:Addr) (ns:List Int),xs=[.ref a]∧SqL K H a (ns.map V.int)∧Q (.int ns.sum) H
theorem zcu (hc:X.calm=true):wy X (.builtin "sum") (zfv X.K):=by
 intro pins s σ H xs us Q I r h
 obtain⟨a,ns,rfl,hq,q⟩:=h
 obtain⟨u,rfl,rx⟩:=vals1 r
 cases rx
 obtain⟨its,rv,pl,hz⟩:=I.list hq
 have hi:=intsAre_of rv
 obtain⟨ys,hy⟩:=hi.allInts.items
 have hn:(ys.toList.map (·.1)).sum=ns.sum:=by
  have e:=hi.numsOf
  have e2:=nums_intItems ys
  rw [← hy] at e2
  rw [← e,← e2]
 refine sum_intListG (xs:=ys) (I.ok.hd hc) (by rw [← hy];exact pl.isList) fun h' tk t' hk=>?_
 refine⟨.int ns.sum,H,I.kept fun b o e=>hk b o e,?_,q⟩
 refine⟨t',?_⟩
 rw [preSum_eq,List.take_of_length_le (by simp),hn]
theorem zfA (K:PySem.W.Frag) (hc:X.calm=true) (e:X.K=K:=by rfl):wy X (.builtin "sum") (zfv K):=by subst e;exact zcu hc
end
structure w6 (sc:Scope) (scope:Scope) (xs:List Str) (M:List Str) (ys:List Str) (js:List Nat):Prop where
 kind:scope.kind=.function
 cell:∀ y∈scope.names,y.2≠.cell
 loc:∀ y∈scope.names,y.2=.local->scope.names.lookup y.1=some .local
 var:∀ x∈xs,scope.names.lookup x=some .local
 free:∀ y∈scope.names,y.2=.free->sc.names.lookup y.1=some .cell∨sc.names.lookup y.1=some .free
 caps:js.map (M[·]?)=ys.map some
 fr:∀ y∈ys,scope.names.lookup y=some .free
 nd:(xs++ys).Nodup
def nones (xs:List Str):St:=xs.map fun _=>none
theorem CScope.nofree {sc scope:Scope} {x:Str} {M:List Str} (kind:scope.kind=.function) (cell:∀ y∈scope.names,y.2≠.cell) (loc:∀ y∈scope.names,y.2=.local->scope.names.lookup y.1=some .local) (var:scope.names.lookup x=some .local) (free:∀ y∈scope.names,y.2≠.free):CScope sc scope x M [] [] :=
 ⟨kind,cell,loc,var,fun y hy e=>absurd e (free y hy),rfl,by simp,by simp⟩
section
variable {X:Cx} {pins:List (Addr×Obj)} {σ:St} {H:Hp} {s:Shared}
theorem zbN {scope:Scope} {xs ys:List Str} {js:List Nat} {fp:List Addr} {h₁:Heap} {tk:Nat} {C:Addr} (I:Inv X pins σ H s) (S:w6 X.env.scope scope xs X.N ys js) (hf:∀ b∈fp,Wh X pins H b) (ho:∀ b∈fp,∃ o,s.heap.get? b=some o)
  (hC:s.heap.objs.size≤C) (hk:∀ b o,s.heap.get? b=some o->h₁.get? b=some o) (hn:h₁.Ns C fun _=>none) :
  Inv (cxC X (xs++ys) scope C s H fp) [] (nones xs++xH js σ) H { s with heap:=h₁,toks:=tk }:=by
 have sub:∀ y c,(xK X.env.cells scope.names []).lookup y=some c->X.env.cells.lookup y=some c:=fun y c e=>vo (fun _ _ z=>by simp at z) e
 have has:∀ y,scope.names.lookup y=some .free->∃ c,(xK X.env.cells scope.names []).lookup y=some c:=fun y e=>by
  have m:(y,NameKind.free)∈scope.names:=PySem.mem_of_lookup e
  exact Yx (.inr ⟨m,I.ok.has y (S.free _ m rfl)⟩)
 have lt:∀ b∈fp,b<s.heap.objs.size:=fun b hb=>by obtain⟨o,e⟩:=ho b hb;exact Heap.lt_size e
 have ok:(cxC X (xs++ys) scope C s H fp).Ok:=by
  refine⟨I.ok.mod,S.kind,I.ok.glob,I.ok.blt,hC,fun y z c e1 e2=>I.ok.inj y z c (sub _ _ e1) (sub _ _ e2),fun y hy=>?_,fun y c z=>?_,I.ok.hd,I.ok.frames,.inl rfl,fun b hb=>?_,I.bs,Nat.le_trans I.ok.bsz I.sz,fun b o e hb=>?_,fun b hb z=>?_,I.stack,I.stkFree⟩
  ·have hy':(relabel scope X.env).names.lookup y=some .cell∨(relabel scope X.env).names.lookup y=some .free:=hy
   have nocell:scope.names.lookup y≠some .cell:=fun z=>S.cell _ (PySem.mem_of_lookup z) rfl
   rcases hy' with e | e
   ·rcases yQ e with z | ⟨_,z⟩
    ·exact absurd z nocell
    ·exact has y z
   ·rcases yQ e with z | ⟨z,_⟩
    ·exact has y z
    ·cases z
  ·exact absurd (show false=true from z) Bool.false_ne_true
  ·refine⟨Nat.ne_of_lt (Nat.lt_of_lt_of_le (lt b hb) hC),fun y c e=>(hf b hb).2.2.2.2.1 y c (sub y c e)⟩
  ·rcases (hf b hb).2.2.2.1 with z | z
   ·exact I.ok.noex b o e z
   ·exact absurd (Nat.lt_of_lt_of_le (Heap.lt_size e) (Nat.le_trans I.ok.bsz z)) (Nat.lt_irrefl _)
  ·rcases List.mem_cons.mp (I.stkSub b z) with e | e
   ·exact (hf b hb).2.1 e
   ·exact (hf b hb).2.2.1 e
 refine⟨ok,rfl,I.bare,Un.kept hk,⟨_,hn,fun i y v e1 e2 e3=>?_⟩,fun y c e=>?_,I.hok.fresh hC,fun y c e=>I.freeC y c (sub y c e),fun p hp=>absurd (show p∈([]:List (Addr×Obj)) from hp) (by simp),I.hok.kept hk,?_⟩
 ·by_cases hix:i<xs.length
  ·have z:(nones xs++xH js σ)[i]?=some none:=by
    rw [List.getElem?_append_left (by unfold nones;rw [List.length_map];exact hix)]
    unfold nones
    rw [List.getElem?_map,List.getElem?_eq_getElem hix];rfl
   rw [z] at e2;cases e2
  ·obtain⟨k,rfl⟩:∃ k,i=xs.length+k:=⟨i-xs.length,by omega⟩
   have e1':ys[k]?=some y:=by
    have e1:(xs++ys)[xs.length+k]?=some y:=e1
    rw [List.getElem?_append_right (by omega),Nat.add_sub_cancel_left] at e1;exact e1
   have e2':(xH js σ)[k]?=some (some v):=by
    rw [List.getElem?_append_right (by unfold nones;rw [List.length_map];omega)] at e2
    unfold nones at e2
    rw [List.length_map,Nat.add_sub_cancel_left] at e2;exact e2
   obtain⟨j,hj,hσ⟩:=Jc e2'
   have hN:X.N[j]?=some y:=by
    have z:=congrArg (fun l=>l[k]?) S.caps
    simp only [List.getElem?_map,hj,e1',Option.map_some] at z
    exact Option.some.inj z
   have hfr:=S.fr y (List.mem_of_getElem? e1')
   have m:(y,NameKind.free)∈scope.names:=PySem.mem_of_lookup hfr
   have hkind:=S.free _ m rfl
   obtain⟨m',hns,hl⟩:=I.loc
   obtain⟨u,r,lk⟩:=hl j y v hN hσ (by rcases hkind with z | z;exact .inr (.inl z);exact .inr (.inr z))
   refine⟨u,r,.inr ⟨?_,?_⟩⟩
   ·have e3':(relabel scope X.env).names.lookup y=some .local∨(relabel scope X.env).names.lookup y=some .cell∨(relabel scope X.env).names.lookup y=some .free:=e3
    rcases e3' with z | z | z
    ·rcases yQ z with q | ⟨q,_⟩
     ·rw [hfr] at q;cases q
     ·cases q
    ·exact .inl z
    ·exact .inr z
   ·obtain⟨c,hc⟩:=has y hfr
    refine⟨c,hc,?_⟩
    rcases lk with ⟨z,_⟩ | ⟨_,c',hc',cell⟩
    ·rcases hkind with q | q
     ·have q':X.env.kindOf y=some .cell:=q
      rw [show X.env.kindOf y=some .local from z] at q';cases q'
     ·have q':X.env.kindOf y=some .free:=q
      rw [show X.env.kindOf y=some .local from z] at q';cases q'
    ·rw [sub y c hc] at hc'
     cases hc'
     obtain⟨o,e,d⟩:=cell
     exact⟨o,hk _ _ e,d⟩
 ·obtain⟨v,o,e',d⟩:=I.cell y c (sub y c e)
  exact⟨v,o,hk _ _ e',d⟩
 ·have z:=congrArg List.length S.caps
  simp only [List.length_map] at z
  show (nones xs++xH js σ).length=(xs++ys).length
  simp [xH,nones,z]
end
section
variable {prog:Program} {w:World} {A:Around} {R:Result->Shared->Prop} {s:Shared}
theorem zbc {elt target iter:Expr} {ifs:List Expr} {scope:Scope} {pos:Pos} {it acc:Value} {env:Env} {N:Value->Shared->Prop} (hN:N=notedBy (model prog w) A env fun e s'=>R (.error e) s') (I:Nat->Shared->Prop)
  (turn:∀ n s,I n s->wpAny (model prog w) A (pyNext it) (fun r s₁=>match r with
   | none=>R (.ok .next) s₁
   | some v=>wpAny (model prog w) A (letOwnedTupleGo target it v) (fun _ s₅=>wpAny (model prog w) A (assign target env v) (fun _ s₂ =>
     wpAny (model prog w) A (forIn ifs true fun c r=>if r=true then do let ok ← isTrue c env (eval c env);pure (ForInStep.yield ok) else pure (ForInStep.yield r)) (fun ok s₃=>if ok=true then wpAny (model prog w) A (eval elt env) (fun x s₄=>wpAny (model prog w) A (call (.builtin "list.append") [acc,x]) (fun _ s₅=>∃ m,m<n∧I m s₅) N s₄) N s₃ else ∃ m,m<n∧I m s₃) N s₂) N s₅) N s₁) N s)
  (n:Nat) (h:I n s):codeAny (model prog w) A (.compLoop (.ListComp elt [⟨target,iter,ifs,0⟩] scope pos) 0 it acc env) R s:=by
 subst hN
 refine codeAny_loop rfl I (fun n s hI=>?_) n h
 show wpAny _ A ((compTurn (.ListComp elt [⟨target,iter,ifs,0⟩] scope pos) 0 it acc env).onRaise (fun x=>do noteFrame x env;theTreesLotGoes x)) _ _ s
 rw [compTurn_list]
 refine wpAny_noted (wpAny_bind (wpAny_standAt (wpAny_bind (wpAny_mono (turn n s hI) (fun r s₁ h₁=>?_) fun _ _ h'=>h'))))
 cases r with
 | none=>exact wpAny_pure h₁
 | some v =>
  refine wpAny_bind (wpAny_mono h₁ (fun _ s₅ h₅=>wpAny_bind (wpAny_mono h₅ (fun _ s₂ h₂=>wpAny_bind (wpAny_mono h₂ (fun ok s₃ h₃=>?_) fun _ _ h'=>h')) fun _ _ h'=>h')) fun _ _ h'=>h')
  cases ok with
  | false=>exact wpAny_pure ⟨rfl,h₃⟩
  | true=>exact wpAny_bind (wpAny_bind (wpAny_mono h₃ (fun x s₄ h₄=>wpAny_bind (wpAny_mono h₄ (fun _ s₆ h₆=>wpAny_pure (wpAny_pure ⟨rfl,h₆⟩)) fun _ _ h'=>h')) fun _ _ h'=>h'))
end
def Uq (J:It) (xs:List Str) (js:List Nat) (g:TG) (tt:TT) (te:TE) (σ:St) (Q:VK) (H:Hp):Prop:=∃ W:Nat->Nat->List V->Hp->Prop,(∃ m,W 0 m [] H)∧∀ i m ys H,W i m ys H ->
 (J.stop i H∧∀ D,H D=none->Q (.ref D) (upd H D (.lst ys))) ∨
 (J.go i H∧ys.length<sizeLine∧∃ N:List V->Hp->Prop,(∀ ys' H',N ys' H'->∃ m',m'<m∧W (i+1) m' ys' H')∧∀ x H',J.yld i H x H'->g x (nones xs++xH js σ) H' fun σ' H1=>(∃ vs:St,vs.length=xs.length∧σ'=vs++xH js σ)∧tt σ' H1 fun b H2=>if b=true then te σ' H2 fun v H3=>N (ys++[v]) H3 else N ys H2)
def zbZ (wi:TI) (xs:List Str) (js:List Nat) (g:TG) (tt:TT) (te:TE):TE:=fun σ H Q=>wi σ H fun J H1=>Uq J xs js g tt te σ Q H1
section
variable {X:Cx} {elt iter:Expr} {ifs:List Expr} {tg:Expr} {xs:List Str} {pos:Pos} {g:TG} {scope:Scope} {ys:List Str} {js:List Nat} {wi:TI} {tt:TT} {te:TE}
theorem We {pins:List (Addr×Obj)} {σ:St} {H:Hp} {s:Shared} {J:It} {fp:List Addr} {it:Addr} {tn:Nat->Heap->Prop} {Q:VK} {E:Value->Shared->Prop} {R:Value->Addr->Result->Shared->Prop}
  (S:w6 X.env.scope scope xs X.N ys js) (hc:X.calm=true) (hg:∀ C s₀ H₀ ex,PG (cxC X (xs++ys) scope C s₀ H₀ ex) tg g) (ht:∀ C s₀ H₀ ex,PTs (cxC X (xs++ys) scope C s₀ H₀ ex) ifs tt) (he:∀ C s₀ H₀ ex,PE (cxC X (xs++ys) scope C s₀ H₀ ex) elt te)
  (I:Inv X pins σ H s) (T:Turn X.prog X.w X.K tg J fp it tn) (st:tn 0 s.heap) (hf:∀ b∈fp,Wh X pins H b)
  (hw:∃ W:Nat->Nat->List V->Hp->Prop,(∃ m,W 0 m [] H)∧∀ i m zs H,W i m zs H ->
   (J.stop i H∧∀ D,H D=none->Q (.ref D) (upd H D (.lst zs))) ∨
   (J.go i H∧zs.length<sizeLine∧∃ N:List V->Hp->Prop,(∀ ys' H',N ys' H'->∃ m',m'<m∧W (i+1) m' ys' H')∧∀ x H',J.yld i H x H'->g x (nones xs++xH js σ) H' fun σ' H1=>(∃ vs:St,vs.length=xs.length∧σ'=vs++xH js σ)∧tt σ' H1 fun b H2=>if b=true then te σ' H2 fun v H3=>N (zs++[v]) H3 else N zs H2))
  (hR:∀ D C s' H' m',Inv X pins σ H' s'->Q (.ref D) H'->s.heap.objs.size≤C->H' C=none->s'.heap.Ns C m'->R (.ref D) C (.ok .next) s') :
  wpAny (model X.prog X.w) X.A (newList []) (fun acc s₃=>wpAny (model X.prog X.w) X.A (newFunctionEnv scope X.env.globals (xK X.env.cells scope.names []) [] X.env.qual none .none (some X.env)) (fun cenv s₄ =>
   codeAny (model X.prog X.w) X.A (.compStart (.ListComp elt [⟨tg,iter,ifs,0⟩] scope pos) 0 (.ref it) acc { cenv with scope:=relabel scope X.env }) (R acc cenv.locals) s₄) E s₃) E s:=by
 obtain⟨W,⟨m0,w0⟩,turn⟩:=hw
 refine wpAny_newObj_type (wpAny_newFunctionEnv S.cell (by intro y hy;simp at hy) (fun h₁ hns₁ hsb₁=>?_) S.kind)
 dsimp only at hns₁ hsb₁ ⊢
 generalize hH2:s.heap.push { cls:=.type "list",dict:=none,data:=.seq ([]:List Value).toArray }=G at hns₁ hsb₁ ⊢
 generalize hD:s.heap.objs.size=D at *
 generalize hCe:G.objs.size=C at *
 have hC:C=D+1:=by rw [← hCe,← hH2,Heap.size_push,hD]
 have hDlt:D<C:=by rw [hC];exact Nat.lt_succ_self D
 have hDC:D≠C:=Nat.ne_of_lt hDlt
 have old:∀ b o,s.heap.get? b=some o->h₁.get? b=some o:=fun b o e=>by
  have hb:b<D:=hD▸Heap.lt_size e
  exact (hsb₁.2 b (Nat.ne_of_lt (Nat.lt_trans hb hDlt))).trans (Heap.get?_push_of_some _ (hH2▸Heap.get?_push_of_some _ e))
 have hacc:h₁.get? D=some { cls:=.type "list",data:=.seq ([]:List Value).toArray 0 }:=by
  refine (hsb₁.2 D hDC).trans (Heap.get?_push_of_some _ ?_)
  rw [← hH2,← hD]
  exact Heap.get?_push_size _ rfl
 have obj0:=T.obj 0 _ st
 have fplt:∀ b∈fp,b<D:=fun b hb=>by obtain⟨o,e,_⟩:=obj0 b hb;exact hD▸Heap.lt_size e
 generalize hX:cxC X (xs++ys) scope C s H fp=X'
 have I1:Inv X' [] (nones xs++xH js σ) H { s with heap:=h₁,toks:=s.toks+([]:List (Str×Value)).length }:=by
  subst hX
  exact zbN I S hf (fun b hb=>by obtain⟨o,e,_⟩:=obj0 b hb;exact⟨o,e⟩) (by omega) old (by simpa using hns₁)
 have eP:X'.prog=X.prog:=by subst hX;rfl
 have eW:X'.w=X.w:=by subst hX;rfl
 have eK:X'.K=X.K:=by subst hX;rfl
 have eA:X'.A=X.A:=by subst hX;rfl
 have eC:X'.calm=true:=by subst hX;exact hc
 have eL:X'.env.locals=C:=by subst hX;rfl
 have eS:X'.s₀=s:=by subst hX;rfl
 have eN:X'.N=xs++ys:=by subst hX;rfl
 have eE:X'.env=compEnvC scope (xK X.env.cells scope.names []) C X.env:=by subst hX;rfl
 have eXe:X'.xe=fun _ _=>False:=by subst hX;rfl
 have eX:X'.ex=fp:=by subst hX;rfl
 have ePn:X'.pn=[]:=by subst hX;rfl
 have efs:∀ b,b∈X'.fs->b∈frs X.stack:=fun b z=>by subst hX;exact z
 have cellLt:∀ y c,X'.env.cells.lookup y=some c->c<D:=fun y c e=>by
  have e':(xK X.env.cells scope.names []).lookup y=some c:=by rw [eE] at e;exact e
  obtain⟨v,o,e2,_⟩:=I.cell y c (vo (fun _ _ z=>by simp at z) e')
  exact hD▸Heap.lt_size e2
 have frLt:∀ b,b∈X'.fs->b<D:=fun b z=>by
  rcases List.mem_cons.mp (I.stkSub b (efs b z)) with e | e
  ·rw [e];exact hD▸I.lt
  ·exact Nat.lt_of_not_le fun h=>I.nofs (hD▸h) e
 have fpOk:∀ (p:List (Addr×Obj)) (H':Hp),(∀ b∈fp,H' b=none)->(∀ q∈p,q.1=D)->∀ b∈fp,Wh X' p H' b:=fun p H' hn hp b hb=>by
  refine⟨hn b hb,?_,fun z=>?_,.inl (eX▸hb),fun y c e=>?_,fun q hq=>?_⟩
  ·rw [eL];exact Nat.ne_of_lt (Nat.lt_trans (fplt b hb) hDlt)
  ·rcases List.mem_cons.mp (I.stkSub b (efs b z)) with e | e
   ·exact (hf b hb).2.1 e
   ·exact (hf b hb).2.2.1 e
  ·have e':(xK X.env.cells scope.names []).lookup y=some c:=by rw [eE] at e;exact e
   exact (hf b hb).2.2.2.2.1 y c (vo (fun _ _ z=>by simp at z) e')
  ·rw [ePn,List.nil_append] at hq
   rw [hp q hq];exact Nat.ne_of_gt (fplt b hb)
 have noCell:∀ (its:List Value) (k:Nat) v,({ cls:=.type "list",data:=.seq its.toArray k }:Obj).data≠.cell v:=fun its k v z=>by cases z
 have done:∀ {zs:List V} {its:List Value} {k:Nat} {H':Hp} {s':Shared},Inv X' [] (nones xs++xH js σ) H' s'->s'.heap.get? D=some { cls:=.type "list",data:=.seq its.toArray k }->Vals zs its->H' D=none->zs.length≤sizeLine ->
   (∀ D,H' D=none->Q (.ref D) (upd H' D (.lst zs)))->R (.ref D) C (.ok .next) s':=fun {zs its k H' s'} I' hd hv hn hz q=>by
  have un:=I'.base
  obtain⟨m',hns,_⟩:=I'.loc
  rw [eL] at hns
  have hCn:H' C=none:=by have:=I'.free;rw [eL] at this;exact this
  have hH0:X'.H₀=H:=by subst hX;rfl
  rw [hH0,eS,eX] at un
  have un2:Un (frs X.stack) fp H (upd H' D (.lst zs)) s.heap s'.heap:=by
   have ne:∀ b o,s.heap.get? b=some o->b≠D:=fun b o e=>Nat.ne_of_lt (hD▸Heap.lt_size e)
   have un':Un (frs X.stack) fp H H' s.heap s'.heap:=by subst hX;exact un
   exact⟨un'.keep,un'.slot,fun b o e n hx=>by rw [zu (ne b o e)];exact un'.free b o e n hx,un'.there,fun b xs e=>by rw [zu (zy (un'.tups b xs e) hn)];exact un'.tups b xs e,
    fun b o u e=>by rw [zu (zy (un'.frzs b o u e) hn)];exact un'.frzs b o u e,fun b ps e=>by
     obtain⟨more,z⟩:=un'.tbls b ps e
     exact⟨more,by rw [zu (zy z hn)];exact z⟩⟩
  have hok:HOk X.prog X.w (upd H' D (.lst zs)) s'.heap:=by
   have h0:=I'.hok
   rw [eP,eW] at h0
   exact h0.track hn ⟨hz,its,k,hv,hd⟩
  have I2:Inv X pins σ (upd H' D (.lst zs)) s':=I.call' (by have:=I'.os;rw [eS] at this;exact this) un2 hok I'.bare fun b hb=>⟨(hf b hb).2.2.2.1,(hf b hb).2.1,(hf b hb).2.2.2.2.1,(hf b hb).2.2.2.2.2⟩
  exact hR D C s' _ m' I2 (q D hn) (by omega) (by rw [zu (Ne.symm hDC)];exact hCn) hns
 have loop:codeAny (model X.prog X.w) X.A (.compLoop (.ListComp elt [⟨tg,iter,ifs,0⟩] scope pos) 0 (.ref it) (.ref D) X'.env) (R (.ref D) C) { s with heap:=h₁,toks:=s.toks+([]:List (Str×Value)).length }:=by
  refine zbc rfl (fun n s'=>∃ i zs its k H',Inv X' [] (nones xs++xH js σ) H' s'∧tn i s'.heap∧(∀ b∈fp,H' b=none)∧s'.heap.get? D=some { cls:=.type "list",data:=.seq its.toArray k }∧Vals zs its∧H' D=none∧zs.length≤sizeLine∧W i n zs H')
   ?_ m0 ⟨0,[],[],0,H,I1,T.keep _ _ _ st (fun b hb o e=>old b o e),fun b hb=>(hf b hb).1,hacc,.nil,I.hok.fresh (by omega),Nat.zero_le _,w0⟩
  rintro n s3 ⟨i,zs,its,k,H3,I3,st3,fr3,d3,v3,n3,z3,w3⟩
  have pinD:Inv X' [(D,{ cls:=.type "list",data:=.seq its.toArray k })] (nones xs++xH js σ) H3 s3:=I3.pins_of fun p hp=>by
   have e:p=(D,{ cls:=.type "list",data:=.seq its.toArray k }):=by simpa using hp
   subst e
   exact⟨d3,n3,by rw [eL];exact hDC,fun z=>Nat.lt_irrefl _ (frLt D z),noCell its k⟩
  have hpD:∀ q∈[(D,({ cls:=.type "list",data:=.seq its.toArray k }:Obj))],q.1=D:=fun q hq=>by
   have e:q=(D,{ cls:=.type "list",data:=.seq its.toArray k }):=by simpa using hq
   rw [e]
  rcases turn i n zs H3 w3 with ⟨stop,qn⟩ | ⟨go,hzl,NN,hNN,step⟩
  ·refine thn (eA▸T.done X' eP eW eK eC i _ s3 _ H3 _ pinD (fpOk _ _ fr3 hpD) st3 stop) fun r s4 ⟨hr,I4⟩=>?_
   subst hr
   exact done (I4.pins_of fun p hp=>absurd hp (by simp)) (I4.pin (D,{ cls:=.type "list",data:=.seq its.toArray k }) (List.mem_append_right _ (by simp))).1 v3 n3 z3 qn
  ·refine thn (eA▸T.item X' eP eW eK eC i _ s3 _ H3 _ pinD (fpOk _ _ fr3 hpD) st3 go) fun r s4 ⟨u,hr,h4⟩=>?_
   subst hr
   refine thn h4 fun _ s4 ⟨v,H5,I5,r5,y5,st5,fr5⟩=>?_
   have I5':=I5.pinned (fpOk _ _ fr5 hpD) (T.obj _ _ st5)
   have ev:∀ {α:Type} {t:Sem α} {Q':α->Shared->Prop} {E':Value->Shared->Prop} {s':Shared},wpAny (model X'.prog X'.w) X'.A t Q' X'.xe s'->wpAny (model X.prog X.w) X.A t Q' E' s':=fun {α t Q' E' s'} hh=>by
    rw [eP,eW,eA,eXe] at hh
    exact wpAny_mono hh (fun _ _ q=>q) fun _ _ z=>z.elim
   have hgg:PG X' tg g:=hX▸hg C s H fp
   refine ev (thn (hgg _ s4 _ H5 v u _ I5' r5 (step v H5 y5)) fun _ s6 ⟨σ6,H6,I6,⟨vs6,hvl,e6⟩,q6⟩=>?_)
   subst e6
   have back:∀ {σ':St} {H7:Hp} {s7:Shared},Inv X' ([(D,{ cls:=.type "list",data:=.seq its.toArray k })]++Zk fp s4.heap) (vs6++xH js σ) H7 s7->Inv X' [] (nones xs++xH js σ) H7 s7:=fun {_ H7 s7} I7=>by
    refine (I7.pins_of fun p hp=>absurd hp (by simp)).weak (by rw [List.length_append,List.length_append,hvl];unfold nones;rw [List.length_map]) fun i v' e=>?_
    by_cases hix:i<xs.length
    ·have z:(nones xs++xH js σ)[i]?=some none:=by
      rw [List.getElem?_append_left (by unfold nones;rw [List.length_map];exact hix)]
      unfold nones
      rw [List.getElem?_map,List.getElem?_eq_getElem hix];rfl
     rw [z] at e;cases e
    ·have hn:(nones xs).length=xs.length:=by unfold nones;rw [List.length_map]
     rw [List.getElem?_append_right (by omega),hn] at e
     rw [List.getElem?_append_right (by omega),hvl]
     exact e
   have fps:∀ {σ':St} {H7:Hp} {s7:Shared},Inv X' ([(D,{ cls:=.type "list",data:=.seq its.toArray k })]++Zk fp s4.heap) σ' H7 s7->(∀ b∈fp,H7 b=none)∧(∀ b∈fp,∀ o,s4.heap.get? b=some o->s7.heap.get? b=some o)∧s7.heap.get? D=some { cls:=.type "list",data:=.seq its.toArray k }∧H7 D=none:=fun {σ' H7 s7} I7=>by
    have g:∀ b∈fp,∀ o,s4.heap.get? b=some o->s7.heap.get? b=some o∧H7 b=none:=fun b hb o e=>by
     have z:=I7.pin (b,o) (List.mem_append_right _ (List.mem_append_right _ (jR hb e)))
     exact⟨z.1,z.2.1⟩
    refine⟨fun b hb=>?_,fun b hb o e=>(g b hb o e).1,(I7.pin (D,{ cls:=.type "list",data:=.seq its.toArray k }) (List.mem_append_right _ (by simp))).1,(I7.pin (D,{ cls:=.type "list",data:=.seq its.toArray k }) (List.mem_append_right _ (by simp))).2.1⟩
    obtain⟨o,e,_⟩:=T.obj _ _ st5 b hb
    exact (g b hb o e).2
   have hte:PTs X' ifs tt:=hX▸ht C s H fp
   have hee:PE X' elt te:=hX▸he C s H fp
   refine ev (thn (hte _ s6 _ H6 _ I6 q6) fun b s7 ⟨H7,I7,q7⟩=>?_)
   cases b with
   | false =>
    rw [if_neg Bool.false_ne_true]
    rw [if_neg Bool.false_ne_true] at q7
    obtain⟨m',hm,w7⟩:=hNN _ _ q7
    obtain⟨g1,g2,g3,g4⟩:=fps I7
    exact⟨m',hm,i+1,zs,its,k,H7,back (σ':=[]) I7,T.keep _ _ _ st5 g2,g1,g3,v3,g4,z3,w7⟩
   | true =>
    rw [if_pos rfl]
    rw [if_pos rfl] at q7
    refine ev (thn (hee _ s7 _ H7 _ I7 q7) fun u8 s8 ⟨v8,H8,I8,r8,q8⟩=>?_)
    obtain⟨m',hm,w8⟩:=hNN _ _ q8
    obtain⟨g1,g2,g3,g4⟩:=fps I8
    have hil:=v3.length
    refine call_meets F.slot_list_append ⟨_,g3,rfl⟩ F.entry_list_append (F.args_list_append_2 _ _) (PySem.list_append D its.toArray k u8 (by rw [List.size_toArray];omega)) ⟨g3,?_⟩
    have q:=PySem.IsL.update g3 (fun a=>a.push u8)
    have ea:its.toArray.push u8=(its++[u8]).toArray:=by simp
    rw [ea] at q
    have kk:∀ b o,b≠D->s8.heap.get? b=some o->(s8.heap.update D (Obj.mapSeq fun a=>a.push u8)).get? b=some o:=fun b o hb e=>(Heap.get?_update_other _ _ (Ne.symm hb)).trans e
    have I9:Inv X' [] (nones xs++xH js σ) H8 { s8 with heap:=s8.heap.update D (Obj.mapSeq fun a=>a.push u8),toks:=s8.toks }:=by
     refine (back (σ':=[]) I8).turned kk g4 (by rw [eL];exact hDC) (.inr (by rw [eS];omega)) (fun y c e=>Nat.ne_of_lt (cellLt y c e)) fun p hp=>?_
     rw [ePn] at hp
     exact absurd hp (by simp)
    refine⟨m',hm,i+1,zs++[v8],its++[u8],_,H8,I9,T.keep _ _ _ st5 (fun b hb o e=>kk b o (Nat.ne_of_lt (fplt b hb)) (g2 b hb o e)),g1,q,v3.append (.cons r8 .nil),g4,?_,w8⟩
    rw [List.length_append,List.length_singleton]
    omega
 rw [eE] at loop
 exact codeAny_compStart_list loop (T.self _ 0 _ _ _ (T.keep _ _ _ st (fun b hb o e=>old b o e)) loop)
theorem YM (S:w6 X.env.scope scope xs X.N ys js) (hc:X.calm=true) (hi:PI X tg iter wi) (hg:∀ C s₀ H₀ ex,PG (cxC X (xs++ys) scope C s₀ H₀ ex) tg g) (ht:∀ C s₀ H₀ ex,PTs (cxC X (xs++ys) scope C s₀ H₀ ex) ifs tt) (he:∀ C s₀ H₀ ex,PE (cxC X (xs++ys) scope C s₀ H₀ ex) elt te)
  (hs:∀ x,foldedSetIterable iter X.env x=pure x:=by intro _;rfl):PE X (.ListComp elt [⟨tg,iter,ifs,0⟩] scope pos) (zbZ wi xs js g tt te):=by
 intro pins s σ H Q I h
 rw [eval_ListComp]
 refine wpAny_comprehension_free (use:=none) rfl hs (uI fun y hy e=>I.ok.has _ (S.free y hy e)) S.kind S.loc (thn (hi pins s σ H _ I h) fun v s1 h1=>thn h1 fun itv s2 h2=>?_)
 obtain⟨it,fp,tn,J,H2,e,I2,T,st2,f2,hw⟩:=h2
 subst e
 refine We (Q:=Q) (R:=fun acc C=>compPost (model X.prog X.w) X.A X.xe none (EP X pins σ Q) acc C) S hc hg ht he I2 T st2 f2 hw ?_
 intro D C s' H' m' I' q hC hn hns
 refine⟨m',hns,fun h' hs'=>⟨.ref D,H',?_,rfl,q⟩⟩
 have e:=I2.fpOk hC hn
 exact I'.turned (t':=s'.toks) (fun b o hb e=>(hs'.2 b hb).trans e) hn e.2.1 e.2.2.2.1 e.2.2.2.2.1 e.2.2.2.2.2
theorem qX {i:Nat} {y:Str} {py spos:Pos} (S:w6 X.env.scope scope xs X.N ys js) (hc:X.calm=true) (hN:X.N.Nodup) (hy:X.N[i]?=some y) (hl:Loc X.env.scope y) (hi:PI X tg iter wi) (hg:∀ C s₀ H₀ ex,PG (cxC X (xs++ys) scope C s₀ H₀ ex) tg g) (ht:∀ C s₀ H₀ ex,PTs (cxC X (xs++ys) scope C s₀ H₀ ex) ifs tt) (he:∀ C s₀ H₀ ex,PE (cxC X (xs++ys) scope C s₀ H₀ ex) elt te)
  (hf:X.fn y=true∨X.env.scope.names.lookup y=some .local:=by first | exact .inl rfl | exact .inr rfl | assumption)
  (hsw:swapsWith (.ListComp elt [⟨tg,iter,ifs,0⟩] scope pos) (some (.Name y py)) spos.line X.env=pure true:=by rfl)
  (hs:∀ x,foldedSetIterable iter X.env x=pure x:=by intro _;rfl):PS X (.Assign [.Name y py] (.ListComp elt [⟨tg,iter,ifs,0⟩] scope pos) spos) (QG (zbZ wi xs js g tt te) (Z5 i)):=by
 intro pins s σ H D I h
 rw [exec_Assign_Name_used _ _ _ _ hsw]
 refine wpAny_bind (wpAny_standAt (wpAny_bind ?_))
 show wpAny _ X.A (do let _ ← comprehension (.ListComp elt [⟨tg,iter,ifs,0⟩] scope pos) scope X.env _ (newList []) false (eval iter X.env) (some (assign (.Name y py) X.env))) _ _ s
 refine wpAny_bind (wpAny_mono (wpAny_comprehension_free (use:=some (assign (.Name y py) X.env)) (Q:=fun _ s'=>SP X pins D .next s') rfl hs (uI fun y hy e=>I.ok.has _ (S.free y hy e)) S.kind S.loc
  (thn (hi pins s σ H _ I h) fun v s1 h1=>thn h1 fun itv s2 h2=>?_)) (fun _ s' hq=>wpAny_pure (wpAny_pure hq)) fun _ _ e=>e)
 obtain⟨it,fp,tn,J,H2,e,I2,T,st2,f2,hw⟩:=h2
 subst e
 refine We (Q:=fun v H'=>Z5 i v σ H' D.nx) (R:=fun acc C=>compPost (model X.prog X.w) X.A X.xe (some (assign (.Name y py) X.env)) (fun _ s'=>SP X pins D .next s') acc C) S hc hg ht he I2 T st2 f2 hw ?_
 intro Da C s' H' m' I' q hC hn hns
 have e:=I2.fpOk hC hn
 show wpAny _ X.A (assign (.Name y py) X.env (.ref Da)) _ _ _
 refine wpAny_assign_Name (XD I' hN hy hl (show RelV (.ref Da) (.ref Da) from rfl) (fun s2' I3 ⟨a,sb,ha⟩=>?_) hf)
 have hCa:C≠a:=by
  rcases ha with z | z
  ·rw [z];exact e.2.1
  ·intro w;exact e.2.2.2.2.1 _ _ z w.symm
 refine⟨m',hns.sameBut sb hCa,fun h' hs'=>⟨_,H',?_,q⟩⟩
 exact I3.turned (t':=s2'.toks) (fun b o hb e=>(hs'.2 b hb).trans e) hn e.2.1 e.2.2.2.1 e.2.2.2.2.1 e.2.2.2.2.2
end
theorem wB {K:PySem.W.Frag} {a:Addr} {xs:List V} {ns:List Str} {js:List Nat} {g:TG} {tt:TT} {te:TE} {σ:St} {H:Hp} {Q:VK} (Pv:Nat->List V->Hp->Prop) (h0:Pv 0 [] H) (hl:∀ i ys H,i≤xs.length->Pv i ys H->SqL K H a xs)
  (hs:∀ i x ys H,xs[i]?=some x->Pv i ys H->ys.length<sizeLine∧g x (nones ns++xH js σ) H fun σ' H1=>(∃ vs:St,vs.length=ns.length∧σ'=vs++xH js σ)∧tt σ' H1 fun b H2=>if b=true then te σ' H2 fun v H3=>Pv (i+1) (ys++[v]) H3 else Pv (i+1) ys H2)
  (hd:∀ ys H,Pv xs.length ys H->∀ D,H D=none->Q (.ref D) (upd H D (.lst ys))) :
  Uq (Itl K a) ns js g tt te σ Q H:=by
 refine⟨fun i m ys H=>m=xs.length-i∧i≤xs.length∧Pv i ys H,⟨xs.length,by simp,Nat.zero_le _,h0⟩,?_⟩
 rintro i m ys H ⟨rfl,hi,p⟩
 have q:=hl i ys H hi p
 by_cases hlt:i<xs.length
 ·have hx:xs[i]?=some xs[i]:=List.getElem?_eq_getElem hlt
  obtain⟨hz,hst⟩:=hs i xs[i] ys H hx p
  refine .inr ⟨⟨xs,xs[i],q,hx⟩,hz,Pv (i+1),fun ys' H' p'=>⟨xs.length-(i+1),by omega,rfl,hlt,p'⟩,fun x H' y=>?_⟩
  obtain⟨e,y⟩:=y
  subst e
  have e2:=y xs q
  rw [hx] at e2
  cases e2
  exact hst
 ·have e:i=xs.length:=by omega
  subst e
  exact .inl ⟨⟨xs,q,Nat.le_refl _⟩,hd ys H p⟩
theorem Zz {X:Cx} (K:PySem.W.Frag) {es:List Expr} {k:Nat} {t:TGs} {pos:Pos} (n:Nat) (hc:X.calm=true) (h:PGs X es t) (e:X.K=K:=by rfl)
  (hn:(assignEach es X.env).length=n:=by rfl) (hst:(assignEach es X.env).findIdx? (·.1)=none:=by rfl):PG X (.Tuple es k pos) (zfy K n t):=by subst e;exact zae hc h hn hst
structure zfK (sc:Scope) (scope:Scope) (x:Str) (M:List Str) (ys:List Str) (js:List Nat):Prop where
 kind:scope.kind=.function
 cell:∀ y∈scope.names,y.2=.cell->y.1=x
 loc:∀ y∈scope.names,y.2=.local->scope.names.lookup y.1=some .local
 var:scope.names.lookup x=some .cell
 free:∀ y∈scope.names,y.2=.free->sc.names.lookup y.1=some .cell∨sc.names.lookup y.1=some .free
 caps:js.map (M[·]?)=ys.map some
 fr:∀ y∈ys,scope.names.lookup y=some .free
 nd:(x :: ys).Nodup
 own:∀ n acc,cellsFrom n scope.names acc=(x,n) :: acc
 psh:∀ h:Heap,pushCells h scope.names=h.push { cls:=.type "cell",data:=.cell none }
section
variable {X:Cx} {pins:List (Addr×Obj)} {σ:St} {H:Hp} {s:Shared}
end
section
variable {X:Cx} {elt iter:Expr} {ifs:List Expr} {x:Str} {px pos:Pos} {scope:Scope} {ys:List Str} {js:List Nat} {wi:TI} {tt:TT} {te:TE}
end
def zbg (lo c:Int) (n:Nat):It:=⟨fun i _=>i<n,fun i H x H'=>H'=H∧x=.int (lo+i*c),fun i _=>n≤i⟩
theorem Jr {P:Program} {w:World} {K:PySem.W.Frag} {tg:Expr} (it:Addr) (lo c:Int) (n:Nat):Turn P w K tg (zbg lo c n) [it] it (fun i h=>IsRangeIter h it (lo+(i:Nat)*c) ((n:Int)-(i:Nat)) c) where
 mem:=by simp
 obj:=fun i h st b hb=>by
  have e:b=it:=by simpa using hb
  subst e
  exact⟨_,st,fun v z=>by
   have z':Data.fields _=Data.cell v:=z
   cases z'⟩
 keep:=fun i h h' st k=>k it (by simp) _ st
 item:=by
  intro X hP hw hK hc i pins s σ H E I hf st hg
  subst hP hw hK
  obtain⟨f0,f1,f2,f3,f4,f5⟩:=hf it (by simp)
  have W:=Walks.range (prog:=X.prog) (w:=X.w) (I.ok.hd hc) it lo c n
  refine W.item i s _ _ hg st fun v h' tk hv st' kk=>?_
  obtain⟨t,rfl⟩:=hv
  have I1:Inv X pins σ H { s with heap:=h',toks:=tk }:=I.turned (fun b o hb e=>kk b o (by simpa using hb) e) f0 f1 f3 f4 f5
  exact⟨_,rfl,zcb (s:={ s with heap:=h',toks:=tk }) (n:="range_iterator") st' rfl rfl (by decide) ⟨.int (lo+i*c),H,I1,⟨t,rfl⟩,⟨rfl,rfl⟩,st',fun b hb=>(hf b hb).1⟩⟩
 done:=by
  intro X hP hw hK hc i pins s σ H E I hf st hg
  subst hP hw hK
  obtain⟨f0,f1,f2,f3,f4,f5⟩:=hf it (by simp)
  exact wpAny_pyNext_range_end (I.ok.hd hc) st (by have:n≤i:=hg;omega) fun h' eb=>⟨rfl,I.turned (t':=s.toks) (fun b o hb e=>eb b o hb e) f0 f1 f3 f4 f5⟩
 self:=fun _ _ _ _ _ st h=>wpAny_pyIter_rangeiter st h
section
variable {X:Cx} {tg:Expr}
theorem zaz {lo c:Int} {n:Nat} {g:TG} {tb:TS} {D:Ends} {σ:St} {H:Hp} (Pv:Nat->St->Hp->Prop) (h0:Pv 0 σ H)
  (hs:∀ i σ H,i<n->Pv i σ H->g (.int (lo+i*c)) σ H fun σ2 H2=>tb { D with nx:=Pv (i+1),ct:=Pv (i+1),bk:=D.nx } σ2 H2) (hd:∀ σ H,Pv n σ H->D.nx σ H) :
  ∃ W:Nat->Nat->St->Hp->Prop,(∃ m,W 0 m σ H)∧∀ i m σ H,W i m σ H ->
   ((zbg lo c n).stop i H∧D.nx σ H)∨((zbg lo c n).go i H∧∃ N:St->Hp->Prop,(∀ σ' H',N σ' H'->∃ m',m'<m∧W (i+1) m' σ' H')∧∀ x H',(zbg lo c n).yld i H x H'->g x σ H' fun σ2 H2=>tb { D with nx:=N,ct:=N,bk:=D.nx } σ2 H2):=by
 refine⟨fun i m σ H=>m=n-i∧i≤n∧Pv i σ H,⟨n,by simp,Nat.zero_le _,h0⟩,?_⟩
 rintro i m σ H ⟨rfl,hi,p⟩
 by_cases hlt:i<n
 ·refine .inr ⟨hlt,Pv (i+1),fun σ' H' p'=>⟨n-(i+1),by omega,rfl,hlt,p'⟩,fun x H' y=>?_⟩
  obtain⟨e,y⟩:=y
  subst e y
  exact hs i σ _ hlt p
 ·have e:i=n:=by omega
  subst e
  exact .inl ⟨Nat.le_refl _,hd σ H p⟩
end
section
variable {X:Cx}
def zaG (K:PySem.W.Frag):V->List V->Hp->VK->Prop:=fun x vs H Q=>∃ l xs y ts u j,x=.ref l∧vs=[y]∧SqL K H l xs∧TrsAt K H ts xs∧TrAt K H u y∧yI ts≤8∧j<ts.length ∧
 (∀ t,ts[j]?=some t->teq t u=true)∧(∀ m t,m<j->ts[m]?=some t->teq t u=false)∧Q (.int (j:Nat)) H
open Classical in
theorem zbk (hu:X.A.units+64<cLine):MtM X "list.index" (zaG X.K):=by
 intro pins s σ H x vs v us Q I rx rv h
 obtain⟨l,xs,y,ts,u,j,rfl,rfl,hq,hts,ht,hd,hj,hit,hno,q⟩:=h
 cases rx
 obtain⟨u0,rfl,ru⟩:=Vals.one rv
 obtain⟨its,r,pl,hz⟩:=I.list hq
 obtain⟨⟨cls,dd,data,sl⟩,ho,hc,n,hdat⟩:=id pl.isList
 simp only at hc hdat
 subst hc hdat
 have l1:=hts.length
 have m1:=r.length
 have val:∀ (m:Nat) (hm:m<its.length) (t:Tr),ts[m]?=some t->decide (∃ t x,RelV x its[m]∧TrAt X.K H t x∧teq t u=true)=teq t u:=by
  intro m hm t et
  obtain⟨z,ez,hz'⟩:=hts.get et
  obtain⟨w,ew,rw'⟩:=r.get ez
  have e':its[m]=w:=by
   rw [List.getElem?_eq_getElem hm] at ew
   exact Option.some.inj ew
  rw [e',Bool.eq_iff_iff,decide_eq_true_iff]
  constructor
  ·rintro⟨t',x',r',h',e3⟩
   rw [rw'.inj r'] at hz'
   rw [Vw I 8 (Nat.le_trans (Zi (List.mem_of_getElem? et)) hd) hz' h'];exact e3
  ·intro e3
   exact⟨t,z,rw',hz',e3⟩
 have hjs:j<its.length:=by omega
 have hsl:(sizeLine:Int)<2^63-1:=by decide
 refine call_meets PySem.F.slot_list_index ⟨_,ho,rfl⟩ PySem.F.entry_list_index (PySem.F.args_list_index_2 _ _)
  (list_indexAt l its.toArray n dd sl u0 (fun y=>decide (∃ t x,RelV x y∧TrAt X.K H t x∧teq t u=true)) j (by simpa using hjs) (by omega) ?_ ?_) ⟨ho,U8 I hu ht ru hd hts r,?_⟩
 ·have q:=val j hjs _ (List.getElem?_eq_getElem hj)
  rw [hit _ (List.getElem?_eq_getElem hj)] at q
  simpa using q
 ·intro m hm hlt
  have hm':m<ts.length:=by omega
  have q:=val m (by omega) _ (List.getElem?_eq_getElem hm')
  rw [hno m _ hlt (List.getElem?_eq_getElem hm')] at q
  simpa using q
 ·exact⟨.int (j:Nat),H,I.kept fun b o e=>e,⟨_,rfl⟩,q⟩
theorem zb4 (K:PySem.W.Frag) (hu:X.A.units+64<cLine) (e:X.K=K:=by rfl):MtM X "list.index" (zaG K):=by subst e;exact zbk hu
end
theorem qM {X:Cx} (K:PySem.W.Frag) {e:Expr} {f:Str} {pos:Pos} {ta:TE} (he:PE X e ta) (hb:attributeBase e f X.env (eval e X.env)=eval e X.env:=by rfl) (ek:X.K=K:=by rfl):PE X (.Attribute e f pos) (ze6 K ta f):=by subst ek;exact zeH he hb
structure Mt (K:PySem.W.Frag) (C:Addr) (q x:Str) (st:Stmt) (ps:List Str) (f:Addr) (fd:FuncData):Prop where
 fn:Fun K x q st f fd
 b:Binds K fd ps []
 m:Meth K C x f
theorem Zd {X:Cx} {C:Addr} {q x:Str} {st:Stmt} {ps:List Str} {f:Addr} {fd:FuncData} {k:Nat} {sp:Sp} {o e:Expr} {es:List Expr} {ta:TE} {t:TA} {apos pos:Pos} {pl:Sem Bool} (D:Mt X.K C q x st ps f fd) (c:Cls X.K C) (G:FnOk X.prog X.w X.K X.mg X.base CX0 k f fd ps sp) (hr:Room k X.A) (he:PE X o ta) (ha:PA X (e :: es) t)
  (hst:starEach (e :: es) X.env=(false,eval e X.env) :: starEach es X.env:=by rfl) (hpl:(backTo pos (starEach es X.env)).any (·.1)=false:=by rfl)
  (ht:eval (.Call (.Attribute o x apos) (e :: es) [] pos) X.env=(do
   let ov ← eval o X.env
   standAt apos.atName
   let (f,first) ← holding [ov] (getMethod ov x pl)
   callWith pos f first (backTo pos (starEach (e :: es) X.env)) (backToKw pos (keywordEach [] X.env))):=by rfl):PE X (.Call (.Attribute o x apos) (e :: es) [] pos) (zaN C x sp [] E0 ta t) :=
 zdg he c D.m G hr D.b .nil JK ha hst hpl ht
theorem zcY {X:Cx} {C:Addr} {q x:Str} {st:Stmt} {ps:List Str} {f:Addr} {fd:FuncData} {k:Nat} {sp:Sp} {o:Expr} {ta:TE} {apos pos:Pos} {pl:Sem Bool} (D:Mt X.K C q x st ps f fd) (c:Cls X.K C) (G:FnOk X.prog X.w X.K X.mg X.base CX0 k f fd ps sp) (hr:Room k X.A) (he:PE X o ta)
  (ht:eval (.Call (.Attribute o x apos) [] [] pos) X.env=(do
   let ov ← eval o X.env
   standAt apos.atName
   let (f,first) ← holding [ov] (getMethod ov x pl)
   callWith pos f first (backTo pos (starEach [] X.env)) (backToKw pos (keywordEach [] X.env))):=by rfl):PE X (.Call (.Attribute o x apos) [] [] pos) (zaN C x sp [] E0 ta WQ) :=
 zck he c D.m G hr D.b .nil JK ht
structure zbT (mg:Str->Option Value):Prop where
 n_sum:mg "sum" = none
 n_abs:mg "abs" = none
 n_zip:mg "zip" = none
 n_str:mg "str" = none
theorem zcG {a:Int} (h:-1≤a):Builtin.Range.rangeSize a (-1) (-1)=a+1:=by
 unfold Builtin.Range.rangeSize
 rw [if_neg (by omega)]
 by_cases h1:-1<a
 ·rw [if_pos h1,show (a - -1-1)=a by omega,show (- -1:Int)=1 from rfl,Int.ediv_one]
 ·rw [if_neg h1]
  omega
theorem zdf {a:Int} (h:-1≤a) (h2:a≤1000):Builtin.Range.small a (-1) (-1)=true:=by
 unfold Builtin.Range.small
 rw [zcG h]
 simp only [Builtin.Range.rangeFitsLong,Bool.and_eq_true,Bool.or_eq_true,decide_eq_true_eq,beq_iff_eq]
 first
  | omega
  | (simp;omega)
def zfu (ta:TA):TI:=fun σ H R=>ta σ H fun vs H1=>∃ i:Int,vs=[.int i,.int (-1),.int (-1)]∧-1≤i∧i≤1000∧R (zbg i (-1) (i+1).toNat) H1
section
variable {X:Cx} {tg:Expr}
theorem zbr {pins:List (Addr×Obj)} {σ:St} {H:Hp} {s:Shared} {R:It->Hp->Prop} {E:Value->Shared->Prop} {lo:Int} {t u v:Tok} {tk:Nat} (I:Inv X pins σ H s) (h1:-1≤lo) (h2:lo≤1000)
  (q:R (zbg lo (-1) (lo+1).toNat) H):wpAny (model X.prog X.w) X.A (pyIter (.ref s.heap.objs.size)) (PIE X pins σ tg R) E { s with heap:=s.heap.push { cls:=.type "range",data:=.fields #[.int lo t,.int (-1) u,.int (-1) v] },toks:=tk }:=by
 refine wpAny_pyIter_range (IsRange.new ..) (zdf h1 h2) ?_
 have I1:Inv X pins σ H { s with heap:=s.heap.push { cls:=.type "range",data:=.fields #[.int lo t,.int (-1) u,.int (-1) v] },toks:=tk }:=I.kept fun b o e=>Heap.get?_push_of_some _ e
 refine⟨_,[(s.heap.push { cls:=.type "range",data:=.fields #[.int lo t,.int (-1) u,.int (-1) v] }).objs.size],_,_,H,rfl,
  I1.kept (t':=tk) fun b o e=>Heap.get?_push_of_some _ e,Jr _ lo (-1) (lo+1).toNat,?_,fun b hb=>?_,q⟩
 ·have e1:lo+((0:Nat):Int)*(-1)=lo:=by simp
  have e2:(((lo+1).toNat:Nat):Int)-((0:Nat):Int)=Builtin.Range.rangeSize lo (-1) (-1):=by rw [zcG h1];omega
  show IsRangeIter _ _ (lo+((0:Nat):Int)*(-1)) ((((lo+1).toNat:Nat):Int)-((0:Nat):Int)) (-1)
  rw [e1,e2]
  exact Heap.get?_push_size _ rfl
 ·have e:b=(s.heap.push { cls:=.type "range",data:=.fields #[.int lo t,.int (-1) u,.int (-1) v] }).objs.size:=by simpa using hb
  subst e
  exact I1.fpOk (Nat.le_refl _) (I1.hok.fresh (Nat.le_refl _))
theorem zbu {a b d:Expr} {ta:TA} {p pos:Pos} (hg:Gl X "range") (hm:X.mg "range" = none) (ha:PA X [a,b,d] ta) (hs:starEach [a,b,d] X.env=[(false,eval a X.env),(false,eval b X.env),(false,eval d X.env)]:=by rfl) (hs2:starEach [b,d] X.env=[(false,eval b X.env),(false,eval d X.env)]:=by rfl) :
  PI X tg (.Call (.Name "range" p) [a,b,d] [] pos) (zfu ta):=by
 intro pins s σ H R I h
 refine Call_ (Yv I hg hm boot_range (PyProof.Rows.callWith_type1 (thn (ha pos pins s σ H _ I h) fun us s1 ⟨vs,H1,I1,r1,q1⟩=>?_) (by rw [hs,hs2]) (by rw [hs2];rfl)))
 obtain⟨i,e,q1,q2,q⟩:=q1
 subst e
 cases r1 with
 | cons r rr =>
  cases rr with
  | cons r' rr =>
   cases rr with
   | cons r'' rr =>
    cases rr
    obtain⟨t,rfl⟩:=r
    obtain⟨t',rfl⟩:=r'
    obtain⟨t'',rfl⟩:=r''
    exact call_range_3 (by omega) (zbr I1 q1 q2 q) (Or.inl (PyProof.noPylong_small (by omega)))
end
section
variable {X:Cx}
end
def unD:List (PyData×PyData)->List (Int×Int)
 | (.int k,.int v) :: r=>(k,v) :: unD r
 | _=>[]
def dD (ps:List (Int×Int)):List (PyData×PyData):=ps.map fun p=>(.int p.1,.int p.2)
def dV (ps:List (Int×Int)):List (Key×V):=ps.map fun p=>(.inl p.1,.int p.2)
mutual
def ThAt (H:Hp):PyData->V->Prop
 | .none,v=>v=.non
 | .bool b,v=>v=.bl b
 | .int i,v=>v=.int i
 | .str x,v=>v=.str x
 | .list xs,v=>∃ a ys,v=.ref a∧H a=some (.lst ys)∧ThsAt H xs ys
 | .tuple xs,v=>∃ a ys,v=.ref a∧H a=some (.tup ys)∧ThsAt H xs ys
 | .dict kvs,v=>kvs=dD (unD kvs)∧∃ a,v=.ref a∧H a=some (.dK (dV (unD kvs)))
def ThsAt (H:Hp):List PyData->List V->Prop
 | [],ys=>ys=[]
 | d :: ds,ys=>∃ y zs,ys=y :: zs∧ThAt H d y∧ThsAt H ds zs
end
mutual
theorem ThAt.same {H H':Hp} (m:Same H H'):∀ {d:PyData} {v:V},ThAt H d v->ThAt H' d v
 | .none,v,h=>by rw [ThAt] at h ⊢;exact h
 | .bool b,v,h=>by rw [ThAt] at h ⊢;exact h
 | .int i,v,h=>by rw [ThAt] at h ⊢;exact h
 | .str x,v,h=>by rw [ThAt] at h ⊢;exact h
 | .list xs,v,h=>by
  rw [ThAt] at h ⊢
  obtain⟨a,ys,h1,h2,h3⟩:=h
  exact⟨a,ys,h1,m _ _ h2,ThsAt.same m h3⟩
 | .tuple xs,v,h=>by
  rw [ThAt] at h ⊢
  obtain⟨a,ys,h1,h2,h3⟩:=h
  exact⟨a,ys,h1,m _ _ h2,ThsAt.same m h3⟩
 | .dict kvs,v,h=>by
  rw [ThAt] at h ⊢
  obtain⟨h0,a,h1,h2⟩:=h
  exact⟨h0,a,h1,m _ _ h2⟩
theorem ThsAt.same {H H':Hp} (m:Same H H'):∀ {ds:List PyData} {ys:List V},ThsAt H ds ys->ThsAt H' ds ys
 | [],ys,h=>by rw [ThsAt] at h ⊢;exact h
 | d :: ds,ys,h=>by
  rw [ThsAt] at h ⊢
  obtain⟨y,zs,h1,h2,h3⟩:=h
  exact⟨y,zs,h1,ThAt.same m h2,ThsAt.same m h3⟩
end
theorem ThsAt.len {H:Hp}:∀ {ds:List PyData} {ys:List V},ThsAt H ds ys->ys.length=ds.length
 | [],ys,h=>by rw [ThsAt] at h;rw [h];rfl
 | d :: ds,ys,h=>by
  rw [ThsAt] at h
  obtain⟨y,zs,h1,h2,h3⟩:=h
  rw [h1,List.length_cons,List.length_cons,ThsAt.len h3]
theorem ThsAt.get {H:Hp}:∀ {ds:List PyData} {ys:List V} {k:Nat} {v:V},ThsAt H ds ys->ys[k]?=some v->∃ d,ds[k]?=some d∧ThAt H d v
 | [],ys,k,v,h,e=>by rw [ThsAt] at h;rw [h] at e;simp at e
 | d :: ds,ys,k,v,h,e=>by
  rw [ThsAt] at h
  obtain⟨y,zs,h1,h2,h3⟩:=h
  rw [h1] at e
  cases k with
  | zero =>
   have e':y=v:=by simpa using e
   exact⟨d,rfl,by rw [← e'];exact h2⟩
  | succ k=>exact ThsAt.get (ds:=ds) (k:=k) h3 (by simpa using e)
def tyT:PyData->String
 | .none=>"NoneType" | .bool _=>"bool" | .int _=>"int" | .str _=>"str" | .list _=>"list" | .tuple _=>"tuple" | .dict _=>"dict"
theorem ThAt.ty {K:PySem.W.Frag} {H:Hp} {d:PyData} {v:V} (h:ThAt H d v):Y5 K H v (.type (tyT d)):=by
 cases d with
 | none=>rw [ThAt] at h;rw [h];exact .non
 | bool b=>rw [ThAt] at h;rw [h];exact .bl b
 | int i=>rw [ThAt] at h;rw [h];exact .int i
 | str x=>rw [ThAt] at h;rw [h];exact .str x
 | list xs=>rw [ThAt] at h;obtain⟨a,ys,rfl,h2,_⟩:=h;exact .lst h2
 | tuple xs=>rw [ThAt] at h;obtain⟨a,ys,rfl,h2,_⟩:=h;exact .tup h2
 | dict kvs=>rw [ThAt] at h;obtain⟨_,a,rfl,h2⟩:=h;exact .dK h2
section
variable {K:PySem.W.Frag}
end
end L2
namespace L2
open PySem PyProof.Rows
section
variable {P:Program} {w:World} {H:Hp} {h:Heap}
theorem zaJ {a:Addr} {ys:List V} (ok:HOk P w H h) (e:H a=some (.lst ys)):∃ (its:List Value) (n:Nat),Vals ys its∧h.get? a=some { cls:=.type "list",data:=.seq its.toArray n }:=(ok a _ e).2
theorem zaK {a:Addr} {ys:List V} (ok:HOk P w H h) (e:H a=some (.tup ys)):∃ (its:List Value) (o:Obj) (n:Nat),Vals ys its∧h.get? a=some o∧o.cls=.type "tuple"∧o.data=.seq its.toArray n:=by
 obtain⟨_,its,r,o,h1,h2,n,h3⟩:=ok a _ e
 exact⟨its,o,n,r,h1,h2,h3⟩
theorem Vr:∀ {l:List DictEntry} {vs:List (Key×Value)} {ps:List (Int×Int)},Pairs (zW P w) l vs->KV (dV ps) vs ->
  ReadsAll h (l.map (·.key)) ((dD ps).map (·.1)) []∧ReadsAll h (l.map (·.val)) ((dD ps).map (·.2)) []
 | _,_,[],pr,r=>by
  cases r;cases pr
  exact⟨.nil,.nil⟩
 | _,_,(k,v) :: ps,pr,r=>by
  have r':KV ((Sum.inl k,V.int v) :: dV ps) _:=r
  cases r' with
  | cons r1 r2 =>
   cases pr with
   | cons p1 p2 p3 =>
    obtain⟨q1,q2⟩:=Vr p3 r2
    obtain⟨e1,t1,e2⟩:=r1
    rw [← e1] at p1
    obtain⟨t,e3⟩:=Value.isInt_shape (show Value.isInt k _=true from p1)
    refine⟨?_,?_⟩
    ·refine ReadsAll.cons (as:=[]) (bs:=[]) (d:=.int k) ?_ q1
     show Reads h (DictEntry.key _) (.int k) []
     rw [e3];exact .int _ _
    ·refine ReadsAll.cons (as:=[]) (bs:=[]) (d:=.int v) ?_ q2
     show Reads h (DictEntry.val _) (.int v) []
     rw [p2,e2];exact .int _ _
theorem Vn {as:List Addr} {d:Nat}:∀ {l:List DictEntry} {vs:List (Key×Value)} {ps:List (Int×Int)},Pairs (zW P w) l vs->KV (dV ps) vs->PyData.showableKv (dD ps)=true ->
  ReprEntriesK P w as h d l (PyData.shownKv (dD ps))
 | _,_,[],pr,r,_=>by
  cases r;cases pr
  show ReprEntriesK P w as h d [] (PyData.shownKv [])
  rw [PyData.shownKv];exact .nil
 | _,_,(k,v) :: ps,pr,r,hs=>by
  have r':KV ((Sum.inl k,V.int v) :: dV ps) _:=r
  have hs':PyData.showableKv ((.int k,.int v) :: dD ps)=true:=hs
  rw [PyData.showableKv,PyData.showable,PyData.showable,Bool.and_eq_true,Bool.and_eq_true] at hs'
  cases r' with
  | cons r1 r2 =>
   cases pr with
   | cons p1 p2 p3 =>
    obtain⟨e1,t1,e2⟩:=r1
    rw [← e1] at p1
    obtain⟨t,e3⟩:=Value.isInt_shape (show Value.isInt k _=true from p1)
    show ReprEntriesK P w as h d _ (PyData.shownKv ((.int k,.int v) :: dD ps))
    rw [PyData.shownKv,PyData.shown,PyData.shown]
    refine .cons ?_ ?_ (Vn p3 r2 hs'.2)
    ·rw [e3];exact .of_is (ReprIs.int t (of_decide_eq_true hs'.1.1)) _ _ _
    ·rw [p2,e2];exact .of_is (ReprIs.int t1 (of_decide_eq_true hs'.1.2)) _ _ _
theorem Ji:∀ ps:List (Int×Int),PyData.depthKv (dD ps)=0
 | []=>by show PyData.depthKv []=0;rw [PyData.depthKv]
 | (k,v) :: ps=>by
  show PyData.depthKv ((.int k,.int v) :: dD ps)=0
  rw [PyData.depthKv,PyData.depth,PyData.depth,Ji ps];rfl
theorem zaL {a:Addr} {ps:List (Int×Int)} (ok:HOk P w H h) (e:H a=some (.dK (dV ps))):(a == sysModules)=false∧∃ (o:Obj) (es:Array DictEntry) (n:Nat) (vs:List (Key×Value)),h.get? a=some o∧o.cls=.type "dict"∧o.data=.dict es n∧Pairs (zW P w) es.toList vs∧KV (dV ps) vs:=by
 obtain⟨_,hs,vs,r,o,es,ep,e1,ex,ed,_,pr,_⟩:=ok a _ e
 exact⟨hs,o,es,ep,vs,e1,ex.1,ed,pr,r⟩
mutual
theorem YG (ok:HOk P w H h):∀ {d:PyData} {v:V} {u:Value},ThAt H d v->RelV v u->∃ as,Reads h u d as
 | .none,v,u,t,r=>by
  rw [ThAt] at t;subst t
  have e:u=Value.none:=r
  subst e;exact⟨_,.none⟩
 | .bool b,v,u,t,r=>by
  rw [ThAt] at t;subst t
  have e:u=Value.bool b:=r
  subst e;exact⟨_,.bool b⟩
 | .int i,v,u,t,r=>by
  rw [ThAt] at t;subst t
  obtain⟨k,rfl⟩:∃ k,u=Value.int i k:=r
  exact⟨_,.int i k⟩
 | .str x,v,u,t,r=>by
  rw [ThAt] at t;subst t
  obtain⟨k,rfl⟩:∃ k,u=Value.str x k:=r
  exact⟨_,.str x k⟩
 | .list xs,v,u,t,r=>by
  rw [ThAt] at t
  obtain⟨a,ys,rfl,ha,hx⟩:=t
  have e:u=Value.ref a:=r
  subst e
  obtain⟨its,n,rv,ho⟩:=zaJ ok ha
  obtain⟨as,q⟩:=Xp ok hx rv
  exact⟨_,.list ho rfl rfl q⟩
 | .tuple xs,v,u,t,r=>by
  rw [ThAt] at t
  obtain⟨a,ys,rfl,ha,hx⟩:=t
  have e:u=Value.ref a:=r
  subst e
  obtain⟨its,o,n,rv,h1,h2,h3⟩:=zaK ok ha
  obtain⟨as,q⟩:=Xp ok hx rv
  exact⟨_,.tuple h1 h2 h3 q⟩
 | .dict kvs,v,u,t,r=>by
  rw [ThAt] at t
  obtain⟨hk,a,rfl,ha⟩:=t
  generalize unD kvs=ps at hk ha
  subst hk
  have e:u=Value.ref a:=r
  subst e
  obtain⟨_,o,es,n,vs,h1,h2,h3,h4,h5⟩:=zaL ok ha
  obtain⟨q1,q2⟩:=Vr (h:=h) h4 h5
  exact⟨_,.dict h1 h2 h3 q1 q2⟩
theorem Xp (ok:HOk P w H h):∀ {ds:List PyData} {ys:List V} {us:List Value},ThsAt H ds ys->Vals ys us->∃ as,ReadsAll h us ds as
 | [],ys,us,t,r=>by
  rw [ThsAt] at t;subst t
  cases r
  exact⟨_,.nil⟩
 | d :: ds,ys,us,t,r=>by
  rw [ThsAt] at t
  obtain⟨y,zs,rfl,h1,h2⟩:=t
  cases r with
  | cons r1 r2 =>
   obtain⟨as,q⟩:=YG ok h1 r1
   obtain⟨bs,q2⟩:=Xp ok h2 r2
   exact⟨_,.cons q q2⟩
end
mutual
theorem zcM (ok:HOk P w H h):∀ {d:PyData} {v:V} {u:Value},ThAt H d v->RelV v u->d.showable=true->d.shown.length≤sizeLine->∃ bs,ReadAtMost h d.depth bs∧ReprK P w bs h d.depth u d.shown
 | .none,v,u,t,r,_,_=>by
  rw [ThAt] at t;subst t
  have e:u=Value.none:=r
  subst e
  exact⟨[],by simp [ReadAtMost],by rw [PyData.shown];exact .of_is ReprIs.none _ _ _⟩
 | .bool b,v,u,t,r,_,_=>by
  rw [ThAt] at t;subst t
  have e:u=Value.bool b:=r
  subst e
  exact⟨[],by simp [ReadAtMost],by rw [PyData.shown];exact .of_is (ReprIs.bool b) _ _ _⟩
 | .int i,v,u,t,r,hs,_=>by
  rw [ThAt] at t;subst t
  obtain⟨k,rfl⟩:∃ k,u=Value.int i k:=r
  rw [PyData.showable] at hs
  exact⟨[],by simp [ReadAtMost],by rw [PyData.shown];exact .of_is (ReprIs.int k (of_decide_eq_true hs)) _ _ _⟩
 | .str x,v,u,t,r,_,hz=>by
  rw [ThAt] at t;subst t
  obtain⟨k,rfl⟩:∃ k,u=Value.str x k:=r
  rw [PyData.shown] at hz
  exact⟨[],by simp [ReadAtMost],by rw [PyData.shown];exact .of_is (ReprIs.str x k hz) _ _ _⟩
 | .list xs,v,u,t,r,hs,hz=>by
  obtain⟨as,rd⟩:=YG ok t r
  rw [ThAt] at t
  obtain⟨a,ys,rfl,ha,hx⟩:=t
  have e:u=Value.ref a:=r
  subst e
  obtain⟨its,n,rv,ho⟩:=zaJ ok ha
  rw [PyData.showable] at hs
  rw [PyData.shown] at hz
  obtain⟨bs,hb,hk⟩:=XC ok hx rv hs fun s hsm=>Nat.le_trans (listText_mem_le hsm) hz
  have dd:(PyData.list xs).depth=PyData.depthAll xs+1:=by rw [PyData.depth]
  refine⟨a :: bs,ReadAtMost.cons rd (by omega) hb,?_⟩
  rw [dd,PyData.shown]
  cases its with
  | nil =>
   cases rv
   cases xs with
   | nil=>rw [PyData.shownAll,listText_nil];exact ReprK.listEmpty ho rfl rfl
   | cons _ _=>rw [ThsAt] at hx;obtain⟨_,_,z,_⟩:=hx;cases z
  | cons x l=>exact ReprK.list ho rfl rfl (not_mem_of_deeper rd (by omega) hb) (by rw [hk.length_eq];simp) fun i y q=>hk.item i y (by simpa using q)
 | .tuple xs,v,u,t,r,hs,hz=>by
  obtain⟨as,rd⟩:=YG ok t r
  rw [ThAt] at t
  obtain⟨a,ys,rfl,ha,hx⟩:=t
  have e:u=Value.ref a:=r
  subst e
  obtain⟨its,o,n,rv,h1,h2,h3⟩:=zaK ok ha
  rw [PyData.showable] at hs
  rw [PyData.shown] at hz
  obtain⟨bs,hb,hk⟩:=XC ok hx rv hs fun s hsm=>Nat.le_trans (tupleText_mem_le hsm) hz
  have dd:(PyData.tuple xs).depth=PyData.depthAll xs+1:=by rw [PyData.depth]
  refine⟨a :: bs,ReadAtMost.cons rd (by omega) hb,?_⟩
  rw [dd,PyData.shown]
  exact ReprK.tuple h1 h2 h3 (not_mem_of_deeper rd (by omega) hb) hk
 | .dict kvs,v,u,t,r,hs,hz=>by
  obtain⟨as,rd⟩:=YG ok t r
  rw [ThAt] at t
  obtain⟨hk,a,rfl,ha⟩:=t
  generalize unD kvs=ps at hk ha
  subst hk
  have e:u=Value.ref a:=r
  subst e
  obtain⟨sy,o,es,n,vs,h1,h2,h3,h4,h5⟩:=zaL ok ha
  have dd:(PyData.dict (dD ps)).depth=0+1:=by rw [PyData.depth,Ji]
  rw [PyData.showable] at hs
  refine⟨[a],ReadAtMost.cons (d:=.dict (dD ps)) (n:=0) rd (Nat.zero_le _) (by simp [ReadAtMost]),?_⟩
  rw [dd,PyData.shown]
  exact ReprK.dict h1 h2 h3 sy (by simp) (Vn h4 h5 hs)
theorem XC (ok:HOk P w H h):∀ {ds:List PyData} {ys:List V} {us:List Value},ThsAt H ds ys->Vals ys us->PyData.showableAll ds=true->(∀ s∈PyData.shownAll ds,s.length≤sizeLine)->∃ bs,ReadAtMost h (PyData.depthAll ds) bs∧ReprAllK P w bs h (PyData.depthAll ds) us (PyData.shownAll ds)
 | [],ys,us,t,r,_,_=>by
  rw [ThsAt] at t;subst t
  cases r
  exact⟨[],by simp [ReadAtMost],by rw [PyData.shownAll];exact .nil⟩
 | d :: ds,ys,us,t,r,hs,hz=>by
  rw [ThsAt] at t
  obtain⟨y,zs,rfl,h1,h2⟩:=t
  rw [PyData.showableAll,Bool.and_eq_true] at hs
  rw [PyData.shownAll] at hz
  cases r with
  | cons r1 r2 =>
   obtain⟨b1,q1,k1⟩:=zcM ok h1 r1 hs.1 (hz _ (.head _))
   obtain⟨b2,q2,k2⟩:=XC ok h2 r2 hs.2 fun s hsm=>hz s (.tail _ hsm)
   have dd:PyData.depthAll (d :: ds)=max d.depth (PyData.depthAll ds):=by rw [PyData.depthAll]
   refine⟨b1++b2,(q1.mono (by omega)).append (q2.mono (by omega)),?_⟩
   rw [PyData.shownAll]
   exact .cons ((k1.more fun b hb=>List.mem_append_left _ hb).level_le (by omega)) (k2.more_le (fun b hb=>List.mem_append_right _ hb) (by omega))
end
end
end L2
namespace L2
open PySem PyProof.Rows
structure Fit (k n:Nat) (d:PyData):Prop where
 ls:d.leavesShort 40=true
 sh:d.showable=true
 dp:d.depth≤k
 wt:d.weight≤n
theorem Fit.shown {k n:Nat} {d:PyData} (f:Fit k n d) (hn:n≤100000):d.shown.length≤sizeLine:=by
 have h:=PyData.shown_le 40 (by decide) d f.ls
 have:=f.wt
 rw [sizeLine_eq]
 omega
def Th (H:Hp) (k n:Nat) (v:V):Prop:=∃ d,ThAt H d v∧Fit k n d
theorem Th.same {H H':Hp} {k n:Nat} {v:V} (t:Th H k n v) (m:Same H H'):Th H' k n v:=let ⟨d,h,f⟩:=t;⟨d,h.same m,f⟩
theorem Th.le {H:Hp} {k n k' n':Nat} {v:V} (t:Th H k n v) (hk:k≤k') (hn:n≤n'):Th H k' n' v:=let ⟨d,h,f⟩:=t;⟨d,h,f.ls,f.sh,Nat.le_trans f.dp hk,Nat.le_trans f.wt hn⟩
section
variable {H:Hp} {k n:Nat}
theorem Th.non:Th H k n .non:=⟨.none,by rw [ThAt],by rw [PyData.leavesShort],by rw [PyData.showable],by rw [PyData.depth];exact Nat.zero_le _,by rw [PyData.weight];exact Nat.zero_le _⟩
theorem Th.bl {b:Bool}:Th H k n (.bl b):=⟨.bool b,by rw [ThAt],by rw [PyData.leavesShort],by rw [PyData.showable],by rw [PyData.depth];exact Nat.zero_le _,by rw [PyData.weight];exact Nat.zero_le _⟩
theorem log2_small {m:Nat} (h:m<10^30):m.log2<100:=by
 by_cases z:m=0
 ·subst z;decide
 ·exact (Nat.log2_lt z).mpr (Nat.lt_trans h (by decide))
theorem Th.int {i:Int} (h:i.natAbs<10^30) (hn:100≤n):Th H k n (.int i):=by
 refine⟨.int i,by rw [ThAt],?_,?_,by rw [PyData.depth];exact Nat.zero_le _,?_⟩
 ·rw [PyData.leavesShort,PyData.shown]
  refine decide_eq_true ?_
  have:=int_text_length_le10 (a:=i) (k:=30) (by decide) h
  rw [PySem.ofString_length]
  omega
 ·rw [PyData.showable]
  exact decide_eq_true (Nat.lt_trans (log2_small h) (by decide))
 ·rw [PyData.weight]
  have:=log2_small h
  split<;>omega
theorem Th.str {x:Str} (h:(x.cps.toList.all fun c=>decide (c<16^8))=true) (hn:x.cps.size≤n):Th H k n (.str x):=⟨.str x,by rw [ThAt],by rw [PyData.leavesShort];exact h,by rw [PyData.showable],by rw [PyData.depth];exact Nat.zero_le _,by rw [PyData.weight];exact hn⟩
theorem Ths.of:∀ {vs:List V},(∀ v∈vs,Th H k n v)->∃ ds,ThsAt H ds vs∧PyData.leavesShortAll 40 ds=true∧PyData.showableAll ds=true∧PyData.depthAll ds≤k∧PyData.weightAll ds≤(n+1)*vs.length
 | [],_=>⟨[],by rw [ThsAt],by rw [PyData.leavesShortAll],by rw [PyData.showableAll],by rw [PyData.depthAll];exact Nat.zero_le _,by rw [PyData.weightAll];exact Nat.zero_le _⟩
 | v :: vs,h=>by
  obtain⟨d,h1,f⟩:=h v (.head _)
  obtain⟨ds,g1,g2,g3,g4,g5⟩:=Ths.of fun v hv=>h v (.tail _ hv)
  refine⟨d :: ds,by rw [ThsAt];exact⟨_,_,rfl,h1,g1⟩,by rw [PyData.leavesShortAll,f.ls,g2];rfl,by rw [PyData.showableAll,f.sh,g3];rfl,?_,?_⟩
  ·rw [PyData.depthAll];have:=f.dp;omega
  ·rw [PyData.weightAll,List.length_cons,Nat.mul_succ];have:=f.wt;omega
theorem Th.lst {a:Addr} {vs:List V} {n':Nat} (h:H a=some (.lst vs)) (t:∀ v∈vs,Th H k n v) (hn:(n+1)*vs.length≤n'):Th H (k+1) n' (.ref a):=by
 obtain⟨ds,g1,g2,g3,g4,g5⟩:=Ths.of t
 exact⟨.list ds,by rw [ThAt];exact⟨a,vs,rfl,h,g1⟩,by rw [PyData.leavesShort];exact g2,by rw [PyData.showable];exact g3,by rw [PyData.depth];omega,by rw [PyData.weight];omega⟩
theorem Th.tup {a:Addr} {vs:List V} {n':Nat} (h:H a=some (.tup vs)) (t:∀ v∈vs,Th H k n v) (hn:(n+1)*vs.length≤n'):Th H (k+1) n' (.ref a):=by
 obtain⟨ds,g1,g2,g3,g4,g5⟩:=Ths.of t
 exact⟨.tuple ds,by rw [ThAt];exact⟨a,vs,rfl,h,g1⟩,by rw [PyData.leavesShort];exact g2,by rw [PyData.showable];exact g3,by rw [PyData.depth];omega,by rw [PyData.weight];omega⟩
theorem Th.ints {a:Addr} {ns:List Int} {n':Nat} (h:H a=some (.lst (ns.map V.int))) (t:∀ i∈ns,i.natAbs<10^30) (hn:101*ns.length≤n'):Th H (k+1) n' (.ref a) :=
 Th.lst (n:=100) h (fun v hv=>by
  obtain⟨i,hi,rfl⟩:=List.mem_map.mp hv
  exact Th.int (t i hi) (Nat.le_refl _)) (by rw [List.length_map];exact hn)
end
structure Ty where
 p:Hp->V->Prop
 mo:∀ {G G':Hp} {v:V},Same G G'->p G v->p G' v
structure View where
 v:Hp->Hp
 ok:Hp->Prop
 out:∀ {H:Hp} {a:Addr} {o:HO},v H a=some o->H a=some o
 new:∀ {H:Hp} {p:Addr} (o:HO),ok H->H p=none->ok (upd H p o)∧Same (v H) (v (upd H p o))∧v (upd H p o) p=some o
abbrev Cxt:=List (Option Ty)
def Fits (Γ:Cxt) (G:Hp) (σ:St):Prop:=σ.length=Γ.length∧∀ (i:Nat) (T:Ty),Γ[i]?=some (some T)->∃ v:V,σ[i]?=some (some v)∧T.p G v
theorem Fits.same {Γ:Cxt} {G G':Hp} {σ:St} (f:Fits Γ G σ) (s:Same G G'):Fits Γ G' σ:=⟨f.1,fun i T h=>let ⟨v,e,q⟩:=f.2 i T h;⟨v,e,T.mo s q⟩⟩
theorem Fits.set {Γ:Cxt} {G:Hp} {σ:St} {i:Nat} {T:Ty} {v:V} (f:Fits Γ G σ) (q:T.p G v):Fits (Γ.set i (some T)) G (σ.set i (some v)):=by
 refine⟨by rw [List.length_set,List.length_set,f.1],fun j T' h=>?_⟩
 rw [List.getElem?_set] at h ⊢
 by_cases e:i=j
 ·rw [if_pos e] at h ⊢
  by_cases l:i<Γ.length
  ·rw [if_pos l] at h
   rw [if_pos (by rw [f.1];exact l)]
   cases h
   exact⟨v,rfl,q⟩
  ·rw [if_neg l] at h;cases h
 ·rw [if_neg e] at h ⊢
  exact f.2 j T' h
theorem Fits.nil {G:Hp}:Fits [] G []:=⟨rfl,fun i T h=>by simp at h⟩
theorem Fits.cons {Γ:Cxt} {G:Hp} {σ:St} {T:Ty} {v:V} (q:T.p G v) (f:Fits Γ G σ):Fits (some T :: Γ) G (some v :: σ):=by
 refine⟨by rw [List.length_cons,List.length_cons,f.1],fun i T' h=>?_⟩
 cases i with
 | zero=>cases h;exact⟨v,rfl,q⟩
 | succ i=>exact f.2 i T' h
theorem Fits.skip {Γ:Cxt} {G:Hp} {σ:St} {v:Option V} (f:Fits Γ G σ):Fits (none :: Γ) G (v :: σ):=by
 refine⟨by rw [List.length_cons,List.length_cons,f.1],fun i T' h=>?_⟩
 cases i with
 | zero=>cases h
 | succ i=>exact f.2 i T' h
def Tp (w:View) (Γ:Cxt) (te:TE) (T:Ty):Prop:=∀ (σ:St) (H:Hp) (Q:VK),w.ok H->Fits Γ (w.v H) σ->(∀ v H',w.ok H'->Same (w.v H) (w.v H')->T.p (w.v H') v->Q v H')->te σ H Q
def Jj (k n:Nat):Ty:=⟨fun G v=>Th G k n v,fun s h=>h.same s⟩
def tyI (lo hi:Int):Ty:=⟨fun _ v=>∃ i,v=.int i∧lo≤i∧i≤hi,fun _ h=>h⟩
def Jh (T:Ty) (lo hi:Nat):Ty:=⟨fun G v=>∃ a vs,v=.ref a∧G a=some (.lst vs)∧lo≤vs.length∧vs.length≤hi∧∀ u∈vs,T.p G u,fun s ⟨a,vs,h1,h2,h3,h4,h5⟩=>⟨a,vs,h1,s _ _ h2,h3,h4,fun u hu=>T.mo s (h5 u hu)⟩⟩
abbrev tyL (k n lo hi:Nat):Ty:=Jh (Jj k n) lo hi
def zci (v:V):Ty:=⟨fun _ u=>u=v,fun _ h=>h⟩
def TpA (w:View) (Γ:Cxt) (ta:TA) (k n m:Nat):Prop:=∀ (σ:St) (H:Hp) (Q:List V->Hp->Prop),w.ok H->Fits Γ (w.v H) σ->(∀ vs H',w.ok H'->Same (w.v H) (w.v H')->vs.length=m->(∀ u∈vs,Th (w.v H') k n u)->Q vs H')->ta σ H Q
def TpB (w:View) (Γ:Cxt) (ta:TA) (T:Ty) (m:Nat):Prop:=∀ (σ:St) (H:Hp) (Q:List V->Hp->Prop),w.ok H->Fits Γ (w.v H) σ->(∀ vs H',w.ok H'->Same (w.v H) (w.v H')->vs.length=m->(∀ u∈vs,T.p (w.v H') u)->Q vs H')->ta σ H Q
def TpO (w:View) (Γ:Cxt) (to:TO):Prop:=∀ (σ:St) (H:Hp) (Q:Option Int->Hp->Prop),w.ok H->Fits Γ (w.v H) σ->(∀ o H',w.ok H'->Same (w.v H) (w.v H')->Q o H')->to σ H Q
section
variable {w:View} {Γ:Cxt} {te ta tb:TE} {K:PySem.W.Frag} {k n m k' n' m' lo hi lo' hi':Nat} {i j i' j':Int}
theorem Tp.sub {T T':Ty} (h:Tp w Γ te T) (s:∀ G v,T.p G v->T'.p G v):Tp w Γ te T':=fun σ H Q o f q=>h σ H Q o f fun v H' o' s' t=>q v H' o' s' (s _ _ t)
theorem Tp.var {x:Nat} {T:Ty} (h:Γ[x]?=some (some T)):Tp w Γ (Yl x) T:=fun σ H Q o f q=>let ⟨v,e,t⟩:=f.2 x T h;⟨v,e,q v H o (Same.refl _) t⟩
theorem Tp.non:Tp w Γ (tC .non) (Jj 0 0):=fun σ H Q o f q=>q _ H o (Same.refl _) Th.non
theorem Tp.bl {b:Bool}:Tp w Γ (tC (.bl b)) (Jj 0 0):=fun σ H Q o f q=>q _ H o (Same.refl _) Th.bl
theorem Tp.str {x:Str} (h:(x.cps.toList.all fun c=>decide (c<16^8))=true) (hn:x.cps.size≤100):Tp w Γ (tC (.str x)) (Jj 0 100):=fun σ H Q o f q=>q _ H o (Same.refl _) (Th.str h hn)
theorem Tp.int:Tp w Γ (tC (.int i)) (tyI i i):=fun σ H Q o f q=>q _ H o (Same.refl _) ⟨i,rfl,Int.le_refl _,Int.le_refl _⟩
theorem Tp.neg (ha:Tp w Γ ta (tyI i j)):Tp w Γ (tUn (rU fun x=>.int (-x)) ta) (tyI (-j) (-i)):=fun σ H Q o f q=>ha σ H _ o f fun v H1 o1 s1 ⟨x,e1,a1,b1⟩=>⟨x,e1,q _ H1 o1 s1 ⟨_,rfl,by omega,by omega⟩⟩
theorem Tp.le (h:Tp w Γ te (Jj k n)) (hk:k≤k') (hn:n≤n'):Tp w Γ te (Jj k' n'):=h.sub fun G v t=>t.le hk hn
theorem TpA.nil:TpA w Γ WQ 0 0 0:=fun σ H Q o f q=>q [] H o (Same.refl _) rfl (by simp)
theorem TpA.cons {t:TA} (h:Tp w Γ te (Jj k n)) (ht:TpA w Γ t k' n' m):TpA w Γ (Zf te t) (max k k') (max n n') (m+1):=fun σ H Q o f q=>h σ H _ o f fun v H1 o1 s1 t1=>ht σ H1 _ o1 (f.same s1) fun vs H2 o2 s2 e2 t2=>q (v :: vs) H2 o2 (s1.trans s2) (by rw [List.length_cons,e2]) fun u hu=>by
 rcases List.mem_cons.mp hu with rfl | hu
 ·exact (t1.same s2).le (Nat.le_max_left _ _) (Nat.le_max_left _ _)
 ·exact (t2 u hu).le (Nat.le_max_right _ _) (Nat.le_max_right _ _)
theorem qz {x:Nat} (h:x≤10000):x≤sizeLine:=Nat.le_trans h (by decide)
theorem Tp.lst {t:TA} (h:TpA w Γ t k n m) (hm:m≤10000:=by decide):Tp w Γ (zdw t) (tyL k n m m):=fun σ H Q o f q=>h σ H _ o f fun vs H1 o1 s1 e1 t1=>⟨qz (by rw [e1];exact hm),fun p hp=>by
 obtain⟨o2,s2,e2⟩:=w.new (.lst vs) o1 hp
 exact q (.ref p) _ o2 (s1.trans s2) ⟨p,vs,rfl,e2,Nat.le_of_eq e1.symm,Nat.le_of_eq e1,fun u hu=>(t1 u hu).same s2⟩⟩
theorem Tp.tup {t:TA} (h:TpA w Γ t k n m) (hm:m≤10000:=by decide):Tp w Γ (zet t) (Jj (k+1) ((n+1)*m)):=fun σ H Q o f q=>h σ H _ o f fun vs H1 o1 s1 e1 t1=>⟨qz (by rw [e1];exact hm),fun p hp=>by
 obtain⟨o2,s2,e2⟩:=w.new (.tup vs) o1 hp
 exact q (.ref p) _ o2 (s1.trans s2) (Th.tup e2 (fun u hu=>(t1 u hu).same s2) (by rw [e1];exact Nat.le_refl _))⟩
theorem zdP {xs:List V} {c:Nat} {x:V} (h:x∈(List.replicate c xs).flatten):x∈xs:=by
 obtain⟨l,hl,hx⟩:=List.mem_flatten.mp h
 rw [(List.mem_replicate.mp hl).2] at hx;exact hx
theorem Tp.rep {c c':Nat} (ha:Tp w Γ ta (tyL k n lo hi)) (hb:Tp w Γ tb (tyI c c')) (hm:hi*c'≤10000:=by decide) (hc:c'≤10000:=by decide):Tp w Γ (tOp zfB ta tb) (tyL k n (lo*c) (hi*c')):=fun σ H Q o f q=>ha σ H _ o f fun v H1 o1 s1 t1=>hb σ H1 _ o1 (f.same s1) fun u H2 o2 s2 ⟨y,e2,a2,b2⟩=>by
 obtain⟨a,vs,e1,g1,l1,m1,r1⟩:=(tyL k n lo hi).mo s2 t1
 have hy:y.toNat≤c':=by omega
 have hz:c≤y.toNat:=by omega
 refine⟨a,y,vs,e1,e2,w.out g1,by omega,by omega,qz (Nat.le_trans (Nat.mul_le_mul m1 hy) hm),fun p hp=>?_⟩
 obtain⟨o3,s3,e3⟩:=w.new (.lst (List.replicate y.toNat vs).flatten) o2 hp
 refine q (.ref p) _ o3 (s1.trans (s2.trans s3)) ⟨p,_,rfl,e3,by rw [len_rep,Nat.mul_comm lo];exact Nat.mul_le_mul hz l1,by rw [len_rep,Nat.mul_comm hi];exact Nat.mul_le_mul hy m1,fun x hx=>(r1 x (zdP hx)).same s3⟩
theorem TpO.none:TpO w Γ zaD:=fun σ H Q o f q=>q _ H o (Same.refl _)
theorem TpO.some (h:Tp w Γ te (tyI i j)):TpO w Γ (zd4 te):=fun σ H Q o f q=>h σ H _ o f fun v H1 o1 s1 ⟨x,e,_⟩=>⟨x,e,q _ H1 o1 s1⟩
theorem Q7 (vs:List V) (lo hi:Option Int):(∀ v∈tR vs lo hi,v∈vs)∧(tR vs lo hi).length≤vs.length:=by
 unfold tR
 refine⟨fun v hv=>List.mem_of_mem_drop (List.mem_of_mem_take hv),?_⟩
 rw [List.length_take,List.length_drop]
 omega
theorem Tp.sl {tl tu:TO} {T:Ty} (h:Tp w Γ te (Jh T lo hi)) (hl:TpO w Γ tl) (hu:TpO w Γ tu):Tp w Γ (tSl (zeS K) te tl tu) (Jh T 0 hi):=fun σ H Q o f q=>h σ H _ o f fun v H1 o1 s1 t1=>hl σ H1 _ o1 (f.same s1) fun x H2 o2 s2=>hu σ H2 _ o2 ((f.same s1).same s2) fun y H3 o3 s3=>by
 obtain⟨a,vs,e1,g1,l1,m1,r1⟩:=(Jh T lo hi).mo (s2.trans s3) t1
 refine⟨a,vs,e1,SqL.of (w.out g1),fun p hp=>?_⟩
 obtain⟨o4,s4,e4⟩:=w.new (.lst (tR vs x y)) o3 hp
 exact q (.ref p) _ o4 (s1.trans (s2.trans (s3.trans s4))) ⟨p,_,rfl,e4,Nat.zero_le _,Nat.le_trans (Q7 vs x y).2 m1,fun u hu=>T.mo s4 (r1 u ((Q7 vs x y).1 u hu))⟩
theorem Tp.len {T:Ty} (h:Tp w Γ te (Jh T lo hi)):Tp w Γ (tCB (fun xs H Q=>∃ p ys,xs=[.ref p]∧(SqL K H p ys∨SqT K H p ys)∧Q (.int ys.length) H) (Zf te WQ)) (tyI lo hi):=fun σ H Q o f q=>h σ H _ o f fun v H1 o1 s1 ⟨a,vs,e1,g1,l1,m1,r1⟩=>⟨a,vs,by rw [e1],.inl (SqL.of (w.out g1)),q _ H1 o1 s1 ⟨_,rfl,by omega,by omega⟩⟩
theorem TpB.nil {T:Ty}:TpB w Γ WQ T 0:=fun σ H Q o f q=>q [] H o (Same.refl _) rfl (by simp)
theorem TpB.cons {T:Ty} {t:TA} (h:Tp w Γ te T) (ht:TpB w Γ t T m):TpB w Γ (Zf te t) T (m+1):=fun σ H Q o f q=>h σ H _ o f fun v H1 o1 s1 t1=>ht σ H1 _ o1 (f.same s1) fun vs H2 o2 s2 e2 t2=>q (v :: vs) H2 o2 (s1.trans s2) (by rw [List.length_cons,e2]) fun u hu=>by
 rcases List.mem_cons.mp hu with rfl | hu
 ·exact T.mo s2 t1
 ·exact t2 u hu
end
def TpS (w:View) (Γ:Cxt) (ts:TS) (Γ':Cxt) (T:Ty):Prop:=∀ (D:Ends) (σ:St) (H:Hp),w.ok H->Fits Γ (w.v H) σ->(∀ σ' H',w.ok H'->Same (w.v H) (w.v H')->Fits Γ' (w.v H') σ'->D.nx σ' H')->(∀ v H',w.ok H'->Same (w.v H) (w.v H')->T.p (w.v H') v->D.rt v H')->ts D σ H
section
variable {w:View} {Γ Γ1 Γ2:Cxt} {te:TE} {t u:TS} {T T1:Ty}
theorem TpS.seq (h1:TpS w Γ t Γ1 T) (h2:TpS w Γ1 u Γ2 T):TpS w Γ (Xu t u) Γ2 T:=fun D σ H o f qn qr=>h1 _ σ H o f (fun σ1 H1 o1 s1 f1=>h2 D σ1 H1 o1 f1 (fun σ2 H2 o2 s2 f2=>qn σ2 H2 o2 (s1.trans s2) f2) (fun v H2 o2 s2 r2=>qr v H2 o2 (s1.trans s2) r2)) qr
theorem TpS.weak {Γ':Cxt} (f:∀ G σ,Fits Γ G σ->Fits Γ' G σ) (h:TpS w Γ' t Γ2 T):TpS w Γ t Γ2 T:=fun D σ H o g qn qr=>h D σ H o (f _ _ g) qn qr
theorem TpS.sub {T':Ty} (h:TpS w Γ t Γ2 T) (s:∀ G v,T.p G v->T'.p G v):TpS w Γ t Γ2 T':=fun D σ H o g qn qr=>h D σ H o g qn fun v H1 o1 s1 t1=>qr v H1 o1 s1 (s _ _ t1)
theorem TpS.ret (h:Tp w Γ te T):TpS w Γ (zeW te) Γ2 T:=fun D σ H o f qn qr=>h σ H _ o f qr
end
theorem TpS.go {w:View} {Γ Γ':Cxt} {ts:TS} {T:Ty} {D:Ends} {σ:St} {H:Hp} (h:TpS w Γ ts Γ' T) (o:w.ok H) (f:Fits Γ (w.v H) σ) (qn:∀ σ' H',w.ok H'->Same (w.v H) (w.v H')->Fits Γ' (w.v H') σ'->D.nx σ' H') (qr:∀ v H',w.ok H'->Same (w.v H) (w.v H')->T.p (w.v H') v->D.rt v H'):ts D σ H:=h D σ H o f qn qr
theorem Tp.asg2 {w:View} {Γ:Cxt} {te:TE} {T1:Ty} {u:TS} {i:Nat} {D:Ends} {σ:St} {H:Hp} (h:Tp w Γ te T1) (o:w.ok H) (f:Fits Γ (w.v H) σ) (q:∀ v H',w.ok H'->Same (w.v H) (w.v H')->T1.p (w.v H') v->u D (σ.set i (some v)) H'):Xu (QG te (Z5 i)) u D σ H:=h σ H _ o f q
theorem Fits.any:∀ {G:Hp} (σ:St),Fits (σ.map fun _=>none) G σ:=fun {G} σ=>⟨by rw [List.length_map],fun i T h=>by rw [List.getElem?_map] at h;cases e:σ[i]? with | none=>rw [e] at h;cases h | some x=>rw [e] at h;cases h⟩
def zfH:Ty:=⟨fun _ _=>False,fun _ h=>h⟩
theorem Fits.no {G:Hp} {σ:St} (f:Fits [some zfH] G σ):False:=let ⟨_,_,h⟩:=f.2 0 zfH rfl;h
def Zb (vs:List V):Ty:=⟨fun G v=>∃ a,v=.ref a∧G a=some (.lst vs),fun s ⟨a,e,h⟩=>⟨a,e,s _ _ h⟩⟩
def tyX (e C:Addr):Ty:=⟨fun G v=>v=.ref e∧G e=some (V5 e C),fun s h=>⟨h.1,s _ _ h.2⟩⟩
def idV:View:=⟨id,fun _=>True,fun h=>h,fun o _ h=>⟨trivial,zj h,zg⟩⟩
def TpE (w:View) (Γ:Cxt) (ta:TA) (vs:List V):Prop:=∀ (σ:St) (H:Hp) (Q:List V->Hp->Prop),w.ok H->Fits Γ (w.v H) σ->(∀ H',w.ok H'->Same (w.v H) (w.v H')->Q vs H')->ta σ H Q
section
variable {w:View} {Γ:Cxt} {te ta tb:TE} {K:PySem.W.Frag} {vs us:List V}
theorem TpE.nil:TpE w Γ WQ []:=fun σ H Q o f q=>q H o (Same.refl _)
theorem TpE.cons {t:TA} {v:V} (h:Tp w Γ te (zci v)) (ht:TpE w Γ t vs):TpE w Γ (Zf te t) (v :: vs):=fun σ H Q o f q=>h σ H _ o f fun u H1 o1 s1 e1=>ht σ H1 _ o1 (f.same s1) fun H2 o2 s2=>by
 rw [show u=v from e1];exact q H2 o2 (s1.trans s2)
theorem Tp.lstE {t:TA} (h:TpE w Γ t vs) (hm:vs.length≤10000:=by first | decide | simp):Tp w Γ (zdw t) (Zb vs):=fun σ H Q o f q=>h σ H _ o f fun H1 o1 s1=>⟨qz hm,fun p hp=>by
 obtain⟨o2,s2,e2⟩:=w.new (.lst vs) o1 hp
 exact q (.ref p) _ o2 (s1.trans s2) ⟨p,rfl,e2⟩⟩
theorem Tp.catE (ha:Tp w Γ ta (Zb vs)) (hb:Tp w Γ tb (Zb us)) (hm:vs.length+us.length≤10000:=by first | decide | simp):Tp w Γ (tOp zfj ta tb) (Zb (vs++us)):=fun σ H Q o f q=>ha σ H _ o f fun v H1 o1 s1 t1=>hb σ H1 _ o1 (f.same s1) fun u H2 o2 s2 t2=>by
 obtain⟨a,e1,g1⟩:=(Zb vs).mo s2 t1
 obtain⟨b,e2,g2⟩:=t2
 refine⟨a,b,vs,us,e1,e2,w.out g1,w.out g2,qz hm,fun p hp=>?_⟩
 obtain⟨o3,s3,e3⟩:=w.new (.lst (vs++us)) o2 hp
 exact q (.ref p) _ o3 (s1.trans (s2.trans s3)) ⟨p,rfl,e3⟩
theorem Tp.isiC {x:Nat} {e C N:Addr} {b:Bool} (hx:Γ[x]?=some (some (tyX e C))) (i:V7 K C) (k:PySem.W.kitOne K (.ref C) (.ref N)=some b):Tp w Γ (tCB (zaU K) (Zf (Yl x) (Zf (tC (.ref N)) WQ))) (zci (.bl b)):=fun σ H Q o f q=>by
 obtain⟨v,ev,rfl,he⟩:=f.2 x _ hx
 exact⟨_,ev,e,C,_,_,_,rfl,rfl,(fun _ h=>h),w.out he,i,k,q _ H o (Same.refl _) rfl⟩
theorem Tp.isiV {x:Nat} {e C:Addr} {b:Bool} {n:String} (hx:Γ[x]?=some (some (tyX e C))) (i:V7 K C) (k:PySem.W.kitOne K (.ref C) (.type n)=some b):Tp w Γ (tCB (zaU K) (Zf (Yl x) (Zf (tC (.ty n)) WQ))) (zci (.bl b)):=fun σ H Q o f q=>by
 obtain⟨v,ev,rfl,he⟩:=f.2 x _ hx
 exact⟨_,ev,e,C,_,_,_,rfl,rfl,(fun _ h=>h),w.out he,i,k,q _ H o (Same.refl _) rfl⟩
theorem Tp.notB {b:Bool} (h:Tp w Γ te (zci (.bl b))):Tp w Γ (zd7 te) (zci (.bl (!b))):=fun σ H Q o f q=>h σ H _ o f fun v H1 o1 s1 e=>⟨b,e,q _ H1 o1 s1 rfl⟩
end
end L2
namespace Lw
def Qa:List Int->List Int->Bool
 | [],_=>true
 | _ :: _,[]=>false
 | a :: l,b :: w=>if a=b then Qa l w else false
theorem YT:∀ {l w:List Int},Qa l w=true↔w.take l.length=l
 | [],w=>by simp [Qa]
 | a :: l,[]=>by simp [Qa]
 | a :: l,b :: w=>by
  rw [Qa]
  by_cases e:a=b
  ·subst e
   rw [if_pos rfl,YT]
   simp
  ·rw [if_neg e]
   simp
   intro z
   exact absurd z.symm e
def zbx (l:List Int):List Int->Bool
 | []=>false
 | b :: w=>Qa l (b :: w) || zbx l w
theorem Q5 {l:List Int} (h:l≠[]):∀ {w:List Int},zbx l w=true↔∃ k,(w.drop k).take l.length=l
 | []=>by
  simp only [zbx,List.drop_nil,List.take_nil]
  constructor
  ·intro z;cases z
  ·rintro⟨_,z⟩;exact absurd z.symm h
 | b :: w=>by
  rw [zbx,Bool.or_eq_true,YT,Q5 h]
  constructor
  ·rintro (z | ⟨k,z⟩)
   ·exact⟨0,z⟩
   ·exact⟨k+1,z⟩
  ·rintro⟨k,z⟩
   cases k with
   | zero=>exact .inl z
   | succ k=>exact .inr ⟨k,z⟩
theorem zdh {l w:List Int} (h:l≠[]):zbx l w=u9 l w:=by
 rw [Bool.eq_iff_iff,Q5 h,yW h]
def Qf (ls:List (List Int)) (w:List Int):Bool:=!ls.any fun l=>zbx l w
theorem zbD {ls:List (List Int)} (ne:∀ l∈ls,l≠[]) (w:List Int):Qf ls w=lacks ls w:=by
 unfold Qf lacks
 congr 1
 induction ls with
 | nil=>rfl
 | cons l ls ih=>rw [List.any_cons,List.any_cons,ih fun x hx=>ne x (List.mem_cons_of_mem _ hx),zdh (ne l List.mem_cons_self)]
def per (u:List Int):Nat->List Int
 | 0=>[]
 | n+1=>per u n++u
theorem Wr (u:List Int) (a:Nat):∀ c:Nat,per u (a+c)=per u a++per u c
 | 0=>by simp [per]
 | c+1=>by rw [← Nat.add_assoc,per,Wr u a c,per,List.append_assoc]
theorem QB (u:List Int):∀ n:Nat,(per u n).length=n*u.length
 | 0=>by simp [per]
 | n+1=>by rw [per,List.length_append,QB u n,Nat.succ_mul]
theorem zaX {u:List Int} {x:Int}:∀ {n:Nat},x∈per u n->x∈u
 | 0,h=>by simp [per] at h
 | n+1,h=>by
  rw [per] at h
  rcases List.mem_append.mp h with h | h
  ·exact zaX h
  ·exact h
theorem zb8 {ls:List (List Int)} (h4:∀ l∈ls,l.length≤4) {w:List Int} (hw:4<w.length):tD ls w=false:=by
 unfold tD
 rw [List.any_eq_false]
 intro st hst
 have:=h4 st hst
 intro z
 have z:=congrArg List.length (of_decide_eq_true z)
 rw [List.length_take] at z
 omega
theorem JF {ls:List (List Int)} (h4:∀ l∈ls,l.length≤4) (x:List Int) {g:List Int} (hg:4≤g.length):zA ls (x++g)=zA ls g:=by
 rw [qp x.length (x++g) (by rw [List.length_append];omega) (fun k hk=>zb8 h4 (by rw [List.length_drop,List.length_append];omega)),List.drop_left]
theorem za3 {ls:List (List Int)} (ne:∀ l∈ls,l≠[]) (h4:∀ l∈ls,l.length≤4) {p u:List Int} (hu:u≠[]) (h:lacks ls (p++per u 6)=true):∀ k:Nat,lacks ls (p++per u (k+6))=true
 | 0=>h
 | k+1=>by
  have ih:=za3 ne h4 hu h k
  have hul:0<u.length:=List.length_pos_iff.mpr hu
  have e1:p++per u (k+6)=(p++per u (k+5))++u:=by rw [List.append_assoc];rfl
  have e2:p++per u (k+1+6)=(p++per u (k+6))++u:=by rw [List.append_assoc];rfl
  have l5:4≤(per u 5).length:=by rw [QB];omega
  have t1:zA ls (p++per u (k+5))=zA ls (per u 5):=by rw [Wr,← List.append_assoc,JF h4 _ l5]
  have t2:zA ls (p++per u (k+6))=zA ls (per u 5):=by rw [show k+6=(k+1)+5 by omega,Wr,← List.append_assoc,JF h4 _ l5]
  rw [e1] at ih
  have q:=(U6 ne u (xX ne ih) (by rw [e1];exact ih) (t1.trans t2.symm)).1
  rw [e2,← q]
  exact ih
theorem zdL {ls ws:List (List Int)} (ne:∀ l∈ls,l≠[]) {b:Nat} (h2:2≤b) (hn:¬ yt ls b ws.length<yt ls b (ws.length+1)) {w:List Int} (hw:∀ f∈w,0≤f∧f<(b:Int)) (hh:w.head?≠some 0) (hl:ws.length<w.length):lacks ls w=false:=by
 cases q:lacks ls w with
 | false=>rfl
 | true =>
  exfalso
  have q1:=xg ne (ws.length+1) q
  have l1:(w.take (ws.length+1)).length=ws.length+1:=by rw [List.length_take];omega
  have n1:w.take (ws.length+1)≠[]:=fun z=>by rw [z] at l1;simp at l1
  have hh1:(w.take (ws.length+1)).head?≠some 0:=by
   cases w with
   | nil=>simp at hl
   | cons a w=>simpa using hh
  obtain⟨m,_,e2,e3⟩:=Xh h2 (ws.length+1) (w.take (ws.length+1)) l1 n1 (fun f hf=>hw f (List.mem_of_mem_take hf)) (.inl hh1)
  have hs:(yf b m).length=ws.length+1:=by rw [e2];exact l1
  obtain⟨a1,a2⟩:=(qL h2).mp hs
  have hg:gd ls b m=true:=by unfold gd;rw [e2];exact q1
  have a3:b^ws.length≤m:=by
   rcases a2 with z | z
   ·rw [z,Nat.pow_zero];exact e3 hh1
   ·exact z
  refine hn ?_
  rw [yu ne h2,yu ne h2]
  have b1:=vI (gd ls b) a1 hg
  have b2:=tZ (gd ls b) a3
  omega
def zft (w:List Int):List (List Int):=(List.range w.length).flatMap fun i=>(List.range 4).map fun j=>(w.drop i).take (j+1)
theorem zbV {l w:List Int} (h1:l≠[]) (h4:l.length≤4) (h:u9 l w=true):l∈zft w:=by
 unfold u9 at h
 rw [List.any_eq_true] at h
 obtain⟨k,hk,z⟩:=h
 have z:=of_decide_eq_true z
 have hl:0<l.length:=List.length_pos_iff.mpr h1
 exact List.mem_flatMap.mpr ⟨k,hk,List.mem_map.mpr ⟨l.length-1,List.mem_range.mpr (by omega),by rw [show l.length-1+1=l.length by omega];exact z⟩⟩
def chk (leaf:List (List Int)->Bool):List (List Int×List Int)->Nat->List (List Int)->Bool
 | _,0,_=>true
 | [],_+1,S=>leaf S
 | t :: ts,n+1,S=>if Qf S (t.1++per t.2 6)=true then (zft (t.1++per t.2 6)).eraseDups.all fun l=>chk leaf ts n (l :: S) else chk leaf ts (n+1) S
structure Tst (b:Nat) (t:List Int×List Int):Prop where
 ne:t.2≠[]
 fig:∀ f∈t.1++t.2,0≤f∧f<(b:Int)
 hd:(t.1++t.2).head?≠some 0
theorem zeN {leaf:List (List Int)->Bool} {b:Nat} {ls ws:List (List Int)} (ne:∀ l∈ls,l≠[]) (h4:∀ l∈ls,l.length≤4) (hl4:ls.length≤4) (h2:2≤b) (hn:¬ yt ls b ws.length<yt ls b (ws.length+1)) {R:Prop} (hleaf:∀ S,leaf S=true->(∀ l∈S,l∈ls)->R) :
  ∀ (ts:List (List Int×List Int)) (n:Nat) (S:List (List Int)),(∀ t∈ts,Tst b t)->chk leaf ts n S=true->(∀ l∈S,l∈ls)->S.Nodup->S.length+n=5->R:=by
 intro ts
 induction ts with
 | nil =>
  intro n S _ hc hS nd hl
  cases n with
  | zero =>
   exfalso
   obtain⟨i,j,x,hij,e1,e2⟩:=Zr S ls hS (by omega)
   have:=(List.getElem?_inj (List.getElem?_eq_some_iff.mp e1).1 nd).mp (e1.trans e2.symm)
   omega
  | succ n=>rw [chk] at hc;exact hleaf S hc hS
 | cons t ts ih =>
  intro n S ht hc hS nd hl
  cases n with
  | zero =>
   exfalso
   obtain⟨i,j,x,hij,e1,e2⟩:=Zr S ls hS (by omega)
   have:=(List.getElem?_inj (List.getElem?_eq_some_iff.mp e1).1 nd).mp (e1.trans e2.symm)
   omega
  | succ n =>
   have ht':∀ x∈ts,Tst b x:=fun x hx=>ht x (List.mem_cons_of_mem _ hx)
   have T:=ht t List.mem_cons_self
   rw [chk] at hc
   by_cases hq:Qf S (t.1++per t.2 6)=true
   ·rw [if_pos hq] at hc
    rw [zbD (fun l hl=>ne l (hS l hl))] at hq
    have bad:lacks ls (t.1++per t.2 6)=false:=by
     cases q:lacks ls (t.1++per t.2 6) with
     | false=>rfl
     | true =>
      have z:=za3 ne h4 T.ne q ws.length
      have hul:0<t.2.length:=List.length_pos_iff.mpr T.ne
      have e:t.1++per t.2 (ws.length+6)=t.1++(t.2++per t.2 (ws.length+5)):=by rw [show ws.length+6=1+(ws.length+5) by omega,Wr];rfl
      have w1:=zdL ne h2 hn (w:=t.1++per t.2 (ws.length+6)) (fun f hf=>T.fig f (by
       rcases List.mem_append.mp hf with h | h
       ·exact List.mem_append_left _ h
       ·exact List.mem_append_right _ (zaX h))) (by
        rw [e]
        cases h1:t.1 with
        | nil =>
         have:=T.hd
         rw [h1] at this
         cases h2:t.2 with
         | nil=>exact absurd h2 T.ne
         | cons x y=>rw [h2] at this;simpa using this
        | cons x y =>
         have:=T.hd
         rw [h1] at this
         simpa using this) (by
        rw [List.length_append,QB]
        have:(ws.length+6)*1≤(ws.length+6)*t.2.length:=Nat.mul_le_mul_left _ hul
        omega)
      rw [z] at w1;cases w1
    unfold lacks at bad
    have bad:(ls.any fun st=>u9 st (t.1++per t.2 6))=true:=by simpa using bad
    rw [List.any_eq_true] at bad
    obtain⟨l,hl1,hl2⟩:=bad
    rw [List.all_eq_true] at hc
    refine ih n (l :: S) ht' (hc l (List.mem_eraseDups.mpr (zbV (ne l hl1) (h4 l hl1) hl2))) (fun x hx=>?_) (List.nodup_cons.mpr ⟨fun z=>?_,nd⟩) (by rw [List.length_cons];omega)
    ·rcases List.mem_cons.mp hx with rfl | hx
     ·exact hl1
     ·exact hS x hx
    ·unfold lacks at hq
     have hq:(S.any fun st=>u9 st (t.1++per t.2 6))=false:=by simpa using hq
     rw [List.any_eq_false] at hq
     exact hq l z hl2
   ·rw [if_neg hq] at hc
    exact ih (n+1) S ht' hc hS nd hl
def okR (S:List (List Int)) (w:List Int):Bool:=!S.any fun l=>Qa l w
def dfs (S:List (List Int)) (b:Nat):Nat->List Int->Nat
 | 0,_=>1
 | t+1,rx=>1+((List.range b).map fun (c:Nat)=>if okR S ((c:Int) :: rx)=true then dfs S b t ((c:Int) :: rx) else 0).sum
theorem zac {l w:List Int} (h:Qa l.reverse w.reverse=true):w.drop (w.length-l.length)=l:=by
 rw [YT,List.length_reverse,List.take_reverse] at h
 exact List.reverse_inj.mp h
theorem Uw {S:List (List Int)} (ne:∀ l∈S,l≠[]) {x:List Int} {c:Int} (h:lacks S x=true):okR (S.map List.reverse) (c :: x.reverse)=lacks S (x++[c]):=by
 have e:c :: x.reverse=(x++[c]).reverse:=by simp
 rw [e]
 unfold okR
 cases q:lacks S (x++[c]) with
 | true =>
  unfold lacks at q
  have q:(S.any fun st=>u9 st (x++[c]))=false:=by simpa using q
  rw [List.any_eq_false] at q
  rw [Bool.not_eq_true',List.any_eq_false]
  intro r hr z
  obtain⟨l,hl,rfl⟩:=List.mem_map.mp hr
  refine q l hl ((yW (ne l hl)).mpr ⟨(x++[c]).length-l.length,?_⟩)
  rw [zac z,List.take_length]
 | false =>
  unfold lacks at q
  have q:(S.any fun st=>u9 st (x++[c]))=true:=by simpa using q
  rw [List.any_eq_true] at q
  obtain⟨l,hl,hs⟩:=q
  obtain⟨k,hk⟩:=(yW (ne l hl)).mp hs
  have hl0:0<l.length:=List.length_pos_iff.mpr (ne l hl)
  have hkl:=congrArg List.length hk
  rw [List.length_take,List.length_drop,List.length_append,List.length_singleton] at hkl
  by_cases hin:k+l.length≤x.length
  ·exfalso
   unfold lacks at h
   have h:(S.any fun st=>u9 st x)=false:=by simpa using h
   rw [List.any_eq_false] at h
   refine h l hl ((yW (ne l hl)).mpr ⟨k,?_⟩)
   rw [List.drop_append_of_le_length (by omega),List.take_append_of_le_length (by rw [List.length_drop];omega)] at hk
   exact hk
  ·have hk2:(x++[c]).drop k=l:=by
    rw [List.take_of_length_le (by rw [List.length_drop,List.length_append,List.length_singleton];omega)] at hk
    exact hk
   have:(S.map List.reverse).any (fun l=>Qa l (x++[c]).reverse)=true:=by
    rw [List.any_eq_true]
    refine⟨l.reverse,List.mem_map.mpr ⟨l,hl,rfl⟩,?_⟩
    rw [YT,List.length_reverse,List.take_reverse]
    congr 1
    rw [List.length_append,List.length_singleton,show x.length+1-l.length=k by omega]
    exact hk2
   rw [this];rfl
def uw (S:List (List Int)) (b:Nat) (y:List Int):Nat->Nat
 | 0=>1
 | t+1=>uw S b y t+cnt S b (t+1) y
theorem U3 {f g:Nat->Nat}:∀ l:List Nat,(l.map f).sum+(l.map g).sum=(l.map fun c=>f c+g c).sum
 | []=>rfl
 | c :: l=>by rw [List.map_cons,List.map_cons,List.map_cons,List.sum_cons,List.sum_cons,List.sum_cons,← U3 l];omega
theorem XS (S:List (List Int)) (b:Nat) (y:List Int):∀ t:Nat,uw S b y (t+1)=1+((List.range b).map fun (c:Nat)=>if lacks S (y++[(c:Int)])=true then uw S b (zA S (y++[(c:Int)])) t else 0).sum
 | 0=>by rw [uw,uw,cnt];rfl
 | t+1=>by
  rw [uw,XS S b y t,cnt,Nat.add_assoc,U3]
  congr 2
  refine List.map_congr_left fun c _=>?_
  by_cases q:lacks S (y++[(c:Int)])=true
  ·rw [if_pos q,if_pos q,if_pos q,uw]
  ·rw [if_neg q,if_neg q,if_neg q]
theorem QS {S:List (List Int)} (ne:∀ l∈S,l≠[]) {b:Nat}:∀ (t:Nat) {x:List Int},lacks S x=true->dfs (S.map List.reverse) b t x.reverse=uw S b (zA S x) t
 | 0,x,_=>rfl
 | t+1,x,h=>by
  rw [dfs,XS]
  congr 2
  refine List.map_congr_left fun c _=>?_
  have e:((c:Int) :: x.reverse)=(x++[(c:Int)]).reverse:=by simp
  rw [Uw ne h,yC ne _ h,yx]
  by_cases q:lacks S (x++[(c:Int)])=true
  ·rw [if_pos q,if_pos q,e,QS ne t q]
  ·rw [if_neg q,if_neg q]
theorem Xg {A:Nat} {B:Nat->Nat}:∀ {b:Nat},0<b->((List.range b).map fun c=>if c=0 then A else B c).sum=A+((List.range b).map fun c=>if c=0 then 0 else B c).sum
 | 0,h=>absurd h (by omega)
 | b+1,_=>by
  rw [List.range_succ,List.map_append,List.map_append,List.sum_append,List.sum_append]
  cases b with
  | zero=>simp
  | succ b =>
   rw [Xg (b:=b+1) (by omega)]
   simp only [List.map_cons,List.map_nil,List.sum_cons,List.sum_nil]
   rw [if_neg (by omega),if_neg (by omega)]
   omega
theorem Xx {S:List (List Int)} {b:Nat} (h2:2≤b):∀ t:Nat,yt S b (t+1)=yt S b 0+((List.range b).map fun (c:Nat)=>if c=0 then 0 else if lacks S [(c:Int)]=true then uw S b (zA S [(c:Int)]) t else 0).sum
 | 0=>by
  have e:yt S b (0+1)=((List.range b).map fun (c:Nat)=>if c=0 then yt S b 0 else if lacks S [(c:Int)]=true then cnt S b 0 (zA S [(c:Int)]) else 0).sum:=rfl
  rw [e,Xg (by omega)];rfl
 | t+1=>by
  have e:yt S b (t+1+1)=((List.range b).map fun (c:Nat)=>if c=0 then yt S b (t+1) else if lacks S [(c:Int)]=true then cnt S b (t+1) (zA S [(c:Int)]) else 0).sum:=rfl
  rw [e,Xg (by omega),Xx h2 t,Nat.add_assoc,U3]
  congr 2
  refine List.map_congr_left fun c _=>?_
  by_cases z:c=0
  ·rw [if_pos z,if_pos z,if_pos z]
  ·rw [if_neg z,if_neg z,if_neg z]
   by_cases q:lacks S [(c:Int)]=true
   ·rw [if_pos q,if_pos q,if_pos q,uw]
   ·rw [if_neg q,if_neg q,if_neg q]
def UG (b:Nat) (S:List (List Int)):Bool:=decide (1+((List.range b).map fun (c:Nat)=>if c=0 then 0 else if okR (S.map List.reverse) [(c:Int)]=true then dfs (S.map List.reverse) b 13 [(c:Int)] else 0).sum≤62)
theorem zcP {b:Nat} (h2:2≤b) {S:List (List Int)} (ne:∀ l∈S,l≠[]) (h:UG b S=true):yt S b 14≤62:=by
 have h:=of_decide_eq_true h
 have e0:lacks S []=true:=by
  unfold lacks
  rw [Bool.not_eq_true',List.any_eq_false]
  intro l hl z
  simp [u9] at z
 have h0:yt S b 0≤1:=by rw [yt];split<;>omega
 have e:((List.range b).map fun (c:Nat)=>if c=0 then 0 else if lacks S [(c:Int)]=true then uw S b (zA S [(c:Int)]) 13 else 0).sum=((List.range b).map fun (c:Nat)=>if c=0 then 0 else if okR (S.map List.reverse) [(c:Int)]=true then dfs (S.map List.reverse) b 13 [(c:Int)] else 0).sum:=by
  congr 1
  refine List.map_congr_left fun c _=>?_
  have q1:=Uw ne (x:=[]) (c:=(c:Int)) e0
  rw [List.reverse_nil,List.nil_append] at q1
  rw [q1]
  by_cases z:c=0
  ·rw [if_pos z,if_pos z]
  ·rw [if_neg z,if_neg z]
   by_cases q:lacks S [(c:Int)]=true
   ·rw [if_pos q,if_pos q]
    exact (QS ne 13 (x:=[(c:Int)]) q).symm
   ·rw [if_neg q,if_neg q]
 rw [Xx h2 13,e]
 omega
def tests (b:Nat):List (List Int×List Int) :=
 let F:=((List.range (min b 6)).drop 1).map fun (c:Nat)=>(c:Int)
 if 6≤b then F.map fun f=>([],[f]) else
 (F.map fun f=>([],[f]))++(F.map fun f=>([f],[0]))++(F.map fun f=>([],[f,0]))++(F.flatMap fun f=>(F.filter fun g=>decide (f<g)).map fun g=>([],[f,g]))++(F.map fun f=>([],[f,0,0]))++(F.map fun f=>([],[f,f,0])) ++
  (F.flatMap fun f=>(F.filter fun g=>decide (f≠g)).map fun g=>([],[f,f,g]))++(F.map fun f=>([],[f,f,f,0]))++(F.map fun f=>([],[f,0,0,0]))++(F.map fun f=>([],[f,f,0,0]))
def zeA (b:Nat) (t:List Int×List Int):Bool:=decide (t.2≠[]) && ((t.1++t.2).all fun f=>decide (0≤f∧f<(b:Int))) && decide ((t.1++t.2).head?≠some 0)
theorem zdM {b:Nat} {t:List Int×List Int} (h:zeA b t=true):Tst b t:=by
 unfold zeA at h
 rw [Bool.and_eq_true,Bool.and_eq_true,List.all_eq_true] at h
 exact⟨of_decide_eq_true h.1.1,fun f hf=>of_decide_eq_true (h.1.2 f hf),of_decide_eq_true h.2⟩
theorem zfY:chk (UG 2) (tests 2) 5 []=true:=by decide +kernel
theorem zfN:chk (UG 3) (tests 3) 5 []=true:=by decide +kernel
theorem zf1:chk (UG 4) (tests 4) 5 []=true:=by decide +kernel
theorem zfW:chk (UG 5) (tests 5) 5 []=true:=by decide +kernel
theorem zf7:chk (fun _=>false) (tests 6) 5 []=true:=by decide +kernel
theorem zdi:∀ b,b<17->2≤b->(tests b).all (zeA b)=true:=by decide +kernel
theorem zel {b:Nat} (h:6≤b):tests b=tests 6:=by
 unfold tests
 rw [Nat.min_eq_right h,if_pos h]
 rfl
theorem few {b:Nat} {ls ws:List (List Int)} (ne:∀ l∈ls,l≠[]) (h4:∀ l∈ls,l.length≤4) (hl4:ls.length≤4) (h2:2≤b) (h16:b≤16) (hn:¬ yt ls b ws.length<yt ls b (ws.length+1)):yt ls b 14≤62:=by
 have ht:∀ t∈tests b,Tst b t:=fun t h=>zdM (List.all_eq_true.mp (zdi b (by omega) h2) t h)
 have hleaf:∀ S,UG b S=true->(∀ l∈S,l∈ls)->yt ls b 14≤62:=fun S hS hin=>by
  have q:=zcP h2 (fun l hl=>ne l (hin l hl)) hS
  rw [yu (fun l hl=>ne l (hin l hl)) h2] at q
  rw [yu ne h2]
  exact Nat.le_trans (zbA hin b _) q
 have go:∀ {leaf:List (List Int)->Bool},chk leaf (tests b) 5 []=true->(∀ S,leaf S=true->(∀ l∈S,l∈ls)->yt ls b 14≤62)->yt ls b 14≤62:=fun hc hf=>zeN ne h4 hl4 h2 hn hf (tests b) 5 [] ht hc (fun l h=>nomatch h) List.nodup_nil rfl
 by_cases h6:6≤b
 ·exact go (by rw [zel h6];exact zf7) (fun S hS _=>by cases hS)
 ·have hb:b=2∨b=3∨b=4∨b=5:=by omega
  rcases hb with rfl | rfl | rfl | rfl
  ·exact go zfY hleaf
  ·exact go zfN hleaf
  ·exact go zf1 hleaf
  ·exact go zfW hleaf
def aft (ls:List (List Int)) (x:List Int) (f:Int):Option (List Int):=if lacks ls (x++[f])=true then some (zA ls (x++[f])) else none
def ends (fs:List Int):List (List Int):=(List.range (fs.length+1)).map fs.drop
theorem zaH {ls:List (List Int)} (ne:∀ l∈ls,l≠[]) {x:List Int} (f:Int) (h:lacks ls x=true):(∃ e∈ends (x++[f]),e∈ls)↔lacks ls (x++[f])=false:=by
 constructor
 ·rintro⟨e,he,hl⟩
  obtain⟨i,_,rfl⟩:=List.mem_map.mp he
  have:=JW hl (ne _ hl) ((x++[f]).take i)
  rwa [List.take_append_drop] at this
 ·intro hf
  obtain⟨st,hst,hs⟩:∃ st∈ls,u9 st (x++[f])=true:=by
   unfold lacks at hf
   have hf:(ls.any fun st=>u9 st (x++[f]))=true:=by simpa using hf
   exact List.any_eq_true.mp hf
  obtain⟨k,hk⟩:=(yW (ne st hst)).mp hs
  have hlen:=congrArg List.length hk
  rw [List.length_take,List.length_drop,List.length_append,List.length_singleton] at hlen
  have hpos:0<st.length:=List.length_pos_iff.mpr (ne st hst)
  by_cases hx:k+st.length≤x.length
  ·exfalso
   have:u9 st x=true:=by
    rw [yW (ne st hst)]
    refine⟨k,?_⟩
    rw [List.drop_append_of_le_length (by omega),List.take_append_of_le_length (by rw [List.length_drop];omega)] at hk
    exact hk
   unfold lacks at h
   have h:(ls.any fun st=>u9 st x)=false:=by simpa using h
   rw [List.any_eq_false] at h
   exact h st hst this
  ·refine⟨(x++[f]).drop k,List.mem_map.mpr ⟨k,List.mem_range.mpr (by rw [List.length_append,List.length_singleton];omega),rfl⟩,?_⟩
   rw [List.take_of_length_le (by rw [List.length_drop,List.length_append,List.length_singleton];omega)] at hk
   rw [hk];exact hst
def stp (ls:List (List Int)) (b:Nat) (x y:List Int):Prop:=∃ c:Nat,c<b∧aft ls x (c:Int)=some y
inductive Rch (ls:List (List Int)) (b:Nat):List Int->List Int->Prop
 | refl (x:List Int):Rch ls b x x
 | step {x y z:List Int}:stp ls b x y->Rch ls b y z->Rch ls b x z
theorem Rch.trans {ls:List (List Int)} {b:Nat} {x y z:List Int} (h:Rch ls b x y) (g:Rch ls b y z):Rch ls b x z:=by
 induction h with
 | refl=>exact g
 | step s _ ih=>exact .step s (ih g)
def zbM (ls:List (List Int)) (b:Nat):Prop:=∃ x y z,(∃ c:Nat,0<c∧c<b∧aft ls [] (c:Int)=some x)∧Rch ls b x y∧stp ls b y z∧Rch ls b z y
theorem Rch.word {ls:List (List Int)} (ne:∀ l∈ls,l≠[]) {b:Nat} {y z:List Int} (h:Rch ls b y z):∀ {w:List Int},lacks ls w=true->zA ls w=y->∃ g:List Int,(∀ f∈g,0≤f∧f<(b:Int))∧lacks ls (w++g)=true∧zA ls (w++g)=z:=by
 induction h with
 | refl x=>intro w h1 h2;exact⟨[],by simp,by rw [List.append_nil];exact h1,by rw [List.append_nil];exact h2⟩
 | step s _ ih =>
  intro w h1 h2
  obtain⟨c,hc,e⟩:=s
  unfold aft at e
  rw [← h2,yC ne _ h1,yx] at e
  by_cases q:lacks ls (w++[(c:Int)])=true
  ·rw [if_pos q] at e
   injection e with e
   obtain⟨g,g1,g2,g3⟩:=ih q e
   refine⟨(c:Int) :: g,fun f hf=>?_,?_,?_⟩
   ·rcases List.mem_cons.mp hf with rfl | hf
    ·omega
    ·exact g1 f hf
   ·rw [show w++(c:Int) :: g=(w++[(c:Int)])++g by simp];exact g2
   ·rw [show w++(c:Int) :: g=(w++[(c:Int)])++g by simp];exact g3
  ·rw [if_neg q] at e;cases e
theorem JN {ls:List (List Int)} (ne:∀ l∈ls,l≠[]) {b:Nat}:∀ (g:List Int) {w:List Int},(∀ f∈g,0≤f∧f<(b:Int))->lacks ls (w++g)=true->Rch ls b (zA ls w) (zA ls (w++g))
 | [],w,_,_=>by rw [List.append_nil];exact .refl _
 | f :: g,w,hf,h=>by
  have e:w++f :: g=(w++[f])++g:=by simp
  rw [e] at h ⊢
  have h1:=xX ne h
  have h0:=xX ne h1
  have f1:=hf f List.mem_cons_self
  refine .step ⟨f.toNat,by omega,?_⟩ (JN ne g (fun x hx=>hf x (List.mem_cons_of_mem _ hx)) h)
  unfold aft
  rw [show ((f.toNat:Nat):Int)=f by omega,yC ne _ h0,yx,if_pos h1]
theorem zcc {ls:List (List Int)} (ne:∀ l∈ls,l≠[]) {b:Nat} {f:Int} {w:List Int} (hf:0≤f∧f<(b:Int)) (h:lacks ls (w++[f])=true):stp ls b (zA ls w) (zA ls (w++[f])):=by
 refine⟨f.toNat,by omega,?_⟩
 unfold aft
 rw [show ((f.toNat:Nat):Int)=f by omega,yC ne _ (xX ne h),yx,if_pos h]
theorem Qj {ls:List (List Int)} (ne:∀ l∈ls,l≠[]) {b:Nat} (h2:2≤b) (h:zbM ls b) (L:Nat):∃ g,gd ls b g=true∧b^L≤g:=by
 obtain⟨x,y,z,⟨c,c0,cb,ec⟩,r1,s,r2⟩:=h
 have l1:lacks ls ([(c:Int)])=true∧zA ls [(c:Int)]=x:=by
  unfold aft at ec
  rw [List.nil_append] at ec
  by_cases q:lacks ls [(c:Int)]=true
  ·rw [if_pos q] at ec;injection ec with ec;exact⟨q,ec⟩
  ·rw [if_neg q] at ec;cases ec
 obtain⟨g1,f1,k1,t1⟩:=r1.word ne l1.1 l1.2
 obtain⟨d,hd,ed⟩:=s
 have cy:Rch ls b y y:=.step ⟨d,hd,ed⟩ r2
 have long:∀ n:Nat,∃ g:List Int,n≤g.length∧(∀ f∈g,0≤f∧f<(b:Int))∧lacks ls ([(c:Int)]++g)=true∧zA ls ([(c:Int)]++g)=y:=by
  intro n
  induction n with
  | zero=>exact⟨g1,Nat.zero_le _,f1,k1,t1⟩
  | succ n ih =>
   obtain⟨g,hg,fg,kg,tg⟩:=ih
   have q:lacks ls (([(c:Int)]++g)++[(d:Int)])=true∧zA ls (([(c:Int)]++g)++[(d:Int)])=z:=by
    unfold aft at ed
    rw [← tg,yC ne _ kg,yx] at ed
    by_cases q:lacks ls (([(c:Int)]++g)++[(d:Int)])=true
    ·rw [if_pos q] at ed;injection ed with ed;exact⟨q,ed⟩
    ·rw [if_neg q] at ed;cases ed
   obtain⟨g',f',k',t'⟩:=r2.word ne q.1 q.2
   refine⟨g++[(d:Int)]++g',by simp;omega,fun f hf=>?_,?_,?_⟩
   ·rcases List.mem_append.mp hf with hf | hf
    ·rcases List.mem_append.mp hf with hf | hf
     ·exact fg f hf
     ·rw [List.mem_singleton.mp hf];omega
    ·exact f' f hf
   ·rw [show [(c:Int)]++(g++[(d:Int)]++g')=(([(c:Int)]++g)++[(d:Int)])++g' by simp];exact k'
   ·rw [show [(c:Int)]++(g++[(d:Int)]++g')=(([(c:Int)]++g)++[(d:Int)])++g' by simp];exact t'
 obtain⟨g,hg,fg,kg,tg⟩:=long L
 have hh:([(c:Int)]++g).head?≠some 0:=by
  simp;omega
 have ff:∀ f∈[(c:Int)]++g,0≤f∧f<(b:Int):=fun f hf=>by
  rcases List.mem_append.mp hf with hf | hf
  ·rw [List.mem_singleton.mp hf];omega
  ·exact fg f hf
 obtain⟨m,_,e2,e3⟩:=Xh h2 _ ([(c:Int)]++g) rfl (by simp) ff (.inl hh)
 have hl:([(c:Int)]++g).length=g.length+1:=by simp
 have hs:(yf b m).length=g.length+1:=by rw [e2];exact hl
 obtain⟨a1,a2⟩:=(qL h2).mp hs
 refine⟨m,by unfold gd;rw [e2];exact kg,?_⟩
 have a3:b^g.length≤m:=by
  rcases a2 with z | z
  ·rw [z,Nat.pow_zero];exact e3 hh
  ·exact z
 exact Nat.le_trans (Nat.pow_le_pow_right (by omega) hg) a3
theorem zcT {ls ws:List (List Int)} (ne:∀ l∈ls,l≠[]) (hmem:∀ x,jj ls x->x∈ws) {b n:Nat} (h2:2≤b) (h:¬ zbM ls b) (hg:gd ls b n=true) (hpos:0<n):(yf b n).length≤ws.length:=by
 by_cases z:(yf b n).length≤ws.length
 ·exact z
 exfalso
 have hs:ws.length<(yf b n).length:=by omega
 have hL:lacks ls (yf b n)=true:=hg
 have hx:∀ x∈(List.range (yf b n).length).map (fun i=>zA ls ((yf b n).take (i+1))),x∈ws:=by
  intro x hx
  obtain⟨i,_,rfl⟩:=List.mem_map.mp hx
  exact hmem _ (uA ne (xg ne _ hL))
 obtain⟨i,j,y,hij,h1,h3⟩:=Zr _ ws hx (by rw [List.length_map,List.length_range];omega)
 rw [List.getElem?_map] at h1 h3
 obtain⟨i',hi,e1⟩:=Option.map_eq_some_iff.mp h1
 obtain⟨j',hj,e2⟩:=Option.map_eq_some_iff.mp h3
 obtain⟨hi1,hi2⟩:=List.getElem?_eq_some_iff.mp hi
 obtain⟨hj1,hj2⟩:=List.getElem?_eq_some_iff.mp hj
 rw [List.getElem_range] at hi2 hj2
 subst hi2 hj2
 rw [List.length_range] at hi1 hj1
 have hfm:∀ f∈yf b n,0≤f∧f<(b:Int):=fun f hf=>Jg h2 n f hf
 generalize hF:yf b n=F at *
 obtain⟨f,r,hfr⟩:∃ f r,F=f :: r:=by
  cases F with
  | nil=>simp at hs
  | cons a c=>exact⟨a,c,rfl⟩
 have hf0:F.head?≠some 0:=by rw [← hF];exact Ux h2 n hpos
 have f0:f≠0:=fun z=>hf0 (by rw [hfr,z];rfl)
 have fb:=hfm f (by rw [hfr];exact List.mem_cons_self)
 have pre:∀ a c,a≤c->c≤F.length->F.take c=F.take a++(F.drop a).take (c-a):=fun a c h1 h2=>by
  rw [← List.take_append_drop a (F.take c),List.take_take,Nat.min_eq_left h1,List.drop_take]
 have way:∀ a c,a≤c->c≤F.length->Rch ls b (zA ls (F.take a)) (zA ls (F.take c)):=fun a c h1 h2=>by
  rw [pre a c h1 h2]
  refine JN ne _ (fun x hx=>hfm x (List.mem_of_mem_drop (List.mem_of_mem_take hx))) ?_
  rw [← pre a c h1 h2]
  exact xg ne _ hL
 have one:∀ a,a<F.length->stp ls b (zA ls (F.take a)) (zA ls (F.take (a+1))):=fun a h1=>by
  rw [List.take_succ,List.getElem?_eq_getElem h1]
  refine zcc ne (hfm _ (List.getElem_mem h1)) ?_
  have:=xg ne (a+1) hL
  rw [List.take_succ,List.getElem?_eq_getElem h1] at this
  exact this
 refine h ⟨zA ls (F.take 1),zA ls (F.take (i+1)),zA ls (F.take (i+2)),⟨f.toNat,by omega,by omega,?_⟩,way 1 (i+1) (by omega) (by omega),one (i+1) (by omega),?_⟩
 ·have q:=xg ne 1 hL
  rw [hfr] at q ⊢
  unfold aft
  rw [show ((f.toNat:Nat):Int)=f by omega]
  simp only [List.take_succ_cons,List.take_zero,List.nil_append] at q ⊢
  rw [if_pos q]
 ·have:=way (i+2) (j+1) (by omega) (by omega)
  rw [e2,← e1] at this
  exact this
theorem zc9 {ls ws:List (List Int)} (ne:∀ l∈ls,l≠[]) (h4:∀ l∈ls,l.length≤4) (hl4:ls.length≤4) (hmem:∀ x,jj ls x->x∈ws) (hw:ws.length≤13) {b:Nat} (h2:2≤b) (h16:b≤16) (h:¬ zbM ls b):(∀ g,gd ls b g=true->g<b^13)∧yt ls b 14≤62:=by
 have hb:∀ g,gd ls b g=true->g<b^13:=fun g hg=>by
  by_cases z:g=0
  ·rw [z];exact Nat.pow_pos (by omega)
  ·have q:=zcT ne hmem h2 h hg (by omega)
   exact Nat.lt_of_lt_of_le (uU h2 rfl) (Nat.pow_le_pow_right (by omega) (by omega))
 refine⟨hb,few (ws:=List.replicate 13 []) ne h4 hl4 h2 h16 ?_⟩
 rw [List.length_replicate,yu ne h2,yu ne h2]
 intro z
 have hp:b^13≤b^(13+1):=Nat.pow_le_pow_right (by omega) (by decide)
 obtain⟨d,hd⟩:=Nat.exists_eq_add_of_le hp
 rw [hd,qG] at z
 obtain⟨r,hr,hg⟩:=W5 (p:=fun n=>gd ls b (b^13+n)) (N:=d) (by omega)
 have:=hb _ hg
 omega
end Lw
namespace PySem.W.Fast
def tw9870275782229098358:=0
def tw18222035015928055103:=0
def tw18104899181804188445:=0
def tw2108948020278786719:=0
def tw16184479851024489491:=0
def tw11697347784178039049:=0
def tw8092399060709407724:=0
def tw3808674160152156739:=0
def tw4510737199530211645:=0
def tw5942235277296688506:=0
def tw14884534790674524658:=0
def tw15690389075750347576:=0
def tw7284706903622210011:=0
def tw16333410965701086378:=0
def tw7628527655100507671:=0
def tw12707857997682821810:=0
def tw16369674061685495331:=0
def tw10729004404393600004:=0
def tw16704801569457516682:=0
def tw3363682267734022913:=0
def tw6342671004442639632:=0
def tw17746552690275807967:=0
def tw6239371422207113852:=0
def tw2446055088948027121:=0
def tw5107945911328514585:=0
def tw7283028129548078797:=0
def tw3184310806178626390:=0
def tw13131188861307654039:=0
def tw14920233107582798389:=0
def tw14841173646565820980:=0
def tw15412076858687617196:=0
def tw6939280836620109716:=0
def tw4623196082835316026:=0
def tw9466877586612102441:=0
def tw4298633001620829314:=0
def tw5007236617263356144:=0
def tw13278494400497617096:=0
def tw11404551949783068474:=0
def tw4186614192023074898:=0
def tw6298698997900006762:=0
def tw7457936936010293079:=0
def tw10255381244907837169:=0
def tw14211780895074111892:=0
def tw18065772616370128794:=0
def tw14297764079363240703:=0
def tw7179454088175575908:=0
def tw2002639475724582289:=0
def tw17669411637964096873:=0
def tw9079955412639099194:=0
def tw1396009852545698462:=0
def tw11428043597820237739:=0
def tw10616099355848006897:=0
def tw17470067742129680603:=0
def tw14451445350537644853:=0
def tw11997229166134079222:=0
def tw12086397763130646458:=0
def tw5079486979464434748:=0
def tw7749914584325265511:=0
def tw15063347414578226132:=0
def tw1956004982970219276:=0
def tw7130626950873696148:=0
def tw8933951669100193086:=0
def tw4240530127488250745:=0
def tw443568456004998981:=0
def tw14410572043636189381:=0
def tw5700305566978425612:=0
def tw6753453015133794847:=0
def tw14125762771999066129:=0
def tw4937154282847157228:=0
def tw13309188322200393919:=0
def tw15191417205387541391:=0
def tw6596598503406765667:=0
def tw12745301270217755408:=0
def tw11381195612357324456:=0
def tw7679807480579593088:=0
def tw8229426767213839352:=0
def tw10761838242450099421:=0
def tw12762826545267069337:=0
def tw4448576501965714338:=0
def tw7128567089858244609:=0
def tw11262509071108263275:=0
def tw3131276671014481732:=0
def tw7116854198529280901:=0
def tw16389412382508832468:=0
def tw942223086685748525:=0
def tw16267906214002353377:=0
def tw1043342548904716041:=0
def tw11197004951351226145:=0
def tw10799861199469581693:=0
def tw7072143890569285462:=0
def tw14421042544374797753:=0
def tw11454550674707408972:=0
def tw5369529672577455474:=0
def tw15019368376816848312:=0
def tw3736496489007793461:=0
def tw11797515337526695609:=0
def tw18368141512463236833:=0
def tw15574811759159937277:=0
def tw17944371684530390520:=0
def tw7559632194983497566:=0
def tw9061435646309239433:=0
def tw7953393157999486857:=0
def tw7033792544602244715:=0
def tw14506335534311642014:=0
def tw12388838740937401986:=0
def tw15362221153791347219:=0
def tw3690416360845427745:=0
def tw14973043664263579689:=0
def tw854306562428430790:=0
def tw17338561978348871733:=0
def tw10421307866905916676:=0
def tw10611120533514088859:=0
def tw13694445682914866588:=0
def tw1694417695042264938:=0
def tw7439897135142507045:=0
def tw341096585040957141:=0
def tw6482388022675373043:=0
def tw11555622088543998166:=0
def tw17160555342492087063:=0
def tw9993686148347499966:=0
def tw3709987916667684073:=0
def tw10474416990980788992:=0
def tw7330593345235567427:=0
def tw8503617924679533580:=0
def tw10027389640908989715:=0
def tw3677505893018061885:=0
def tw6442942427088902471:=0
def tw11083970171622315878:=0
def tw1673088191660904506:=0
def tw12501857943341164781:=0
def tw13560614082966198891:=0
def tw7332406701890663577:=0
def tw4465182686532516994:=0
def tw5845036001093425704:=0
def tw11801057222149208733:=0
def tw9514346350540521076:=0
def tw1652328625098939685:=0
def tw9529272181936086379:=0
def tw11998463141056909507:=0
def tw2095164599759083141:=0
def tw6751858355765393070:=0
def tw7809342576838536000:=0
def tw13490829316500739264:=0
def tw10447229487960667520:=0
def tw9488234069191398211:=0
def tw18205811681857454234:=0
def tw13093948514054038767:=0
def tw2869557236819005242:=0
def tw6906779868922111981:=0
def tw14582436977166067060:=0
def tw8980486766230450004:=0
def tw2206399358632860436:=0
def tw17048565792240156580:=0
def tw2830048686762735284:=0
def tw17004438225248860532:=0
def tw13071713482281670067:=0
def tw14746294252926129627:=0
def tw5639091703236855878:=0
def tw12924645855652746567:=0
def tw7460060792184183611:=0
def tw2433302419055139669:=0
def tw17849880754298073799:=0
def tw17730361414781396624:=0
def tw2180043427617256451:=0
def tw18348490360763878650:=0
def tw3584988623384988954:=0
def tw11106069229142668152:=0
def tw4074191011480438309:=0
def tw10366731138858918550:=0
def tw8310364262353824282:=0
def tw15283677310237355469:=0
def tw17304796459931972011:=0
def tw3090391725040972546:=0
def tw12509352530212175763:=0
def tw11406560241983360139:=0
def tw1031459127499888399:=0
def tw14491878333262696896:=0
def tw16349210824198600828:=0
def tw3408413193542925553:=0
def tw15944066725086452660:=0
def tw1903474208372137307:=0
def tw6589343394242486670:=0
def tw15329175061350062349:=0
def tw15575357448540776800:=0
def tw2091345800095383290:=0
def tw15405702176706421842:=0
def tw15496955873463195316:=0
def tw12922192966978041691:=0
def tw10314480235567770795:=0
def tw1266015838583394548:=0
def tw16386195543542988839:=0
def tw2564421686833710758:=0
def tw6296230060823673978:=0
def tw3762423945713962356:=0
def tw5369908129717326208:=0
def tw11543510903509971386:=0
def tw14721806894165408273:=0
def tw18206697489560501076:=0
def tw5954463467709199829:=0
def tw9969708698190708406:=0
def tw14365046459900358272:=0
def tw6128684273647416539:=0
def tw9810363258242138986:=0
def tw622636473257859658:=0
def tw11637590194470670431:=0
def tw1751754782208410900:=0
def tw15149160890409866338:=0
def tw7152089366241644841:=0
def tw7762750988676702607:=0
def tw6673019804987828949:=0
def tw4674627123848054800:=0
def tw4563110397740631436:=0
def tw15534452383800234591:=0
def tw15909174310943990076:=0
def tw9545846385436676681:=0
def tw1645077308708891986:=0
def tw4413125026597568896:=0
def tw13983524088447786659:=0
def tw4721042012921262690:=0
def tw17338806011593157626:=0
def tw2590811565833668073:=0
def tw15408781717373217388:=0
def tw10014336573660755369:=0
def tw13180073188817858303:=0
def tw7858933196575397641:=0
def tw12490409163248303623:=0
def tw13414332765199282663:=0
def tw10310611277392248549:=0
def tw7231217235677699179:=0
def tw10591978543957900569:=0
def tw6695220089732756789:=0
def tw3977140837889999935:=0
def tw17962113887094873372:=0
def tw3798059486502754744:=0
def tw7947238494597605989:=0
def tw9856514552400174974:=0
def tw8847273082123292888:=0
def tw15464625263417875616:=0
def tw2817063971754561443:=0
def tw16411208196455372544:=0
def tw1302075069233776473:=0
def tw15453470216830390378:=0
def tw5202658044625921815:=0
def tw17890841746787904072:=0
def tw6163651166256064215:=0
def tw7407324979063729872:=0
def tw14011813444199902101:=0
def tw9229636708249996257:=0
def tw9836407713516208651:=0
def tw15800379021484123375:=0
def tw15432480783691377521:=0
def tw3356692361658294554:=0
def tw17778362486186996771:=0
def tw10191685019172339938:=0
def tw12005090676102968244:=0
def tw7756420260934024817:=0
def tw4753252092590120186:=0
def tw10617041867993814407:=0
def tw12170170869117283386:=0
def tw900189874314083616:=0
def tw10452018176865441499:=0
def tw6719038563946997826:=0
def tw4556768241363214329:=0
def tw5446815450764652804:=0
def tw1332486692512265088:=0
def tw4844434565737468325:=0
def tw6098077892855047033:=0
def tw10661058609220476564:=0
def tw11139978334801347328:=0
def tw8144105241763510546:=0
def tw11597655841749090254:=0
def tw508695636257697599:=0
def tw9909938440733862747:=0
def tw8739720838555643806:=0
def tw18128921417955202025:=0
def tw5153690586871902228:=0
def tw1124936040992977638:=0
def tw3297493564997938818:=0
def tw10993984202033886212:=0
def tw6272426394288979526:=0
def tw8661817219989758283:=0
def tw7400352009755841290:=0
def tw8769441617791827389:=0
def tw2302902415747160933:=0
def tw11369757465657884307:=0
def tw9343781112961825645:=0
def tw17431472616321582631:=0
def tw1280856090796223333:=0
def tw11552090654327443284:=0
def tw16226022050370594844:=0
def tw14834252561999257142:=0
def tw18071921965595873457:=0
def tw14893138896059773898:=0
def tw15240662135268016355:=0
def tw1859729507878975143:=0
def tw2449576253819499780:=0
def tw2978739546449620988:=0
def tw5237721509925017736:=0
def tw553053815514918248:=0
def tw10632394105743541896:=0
def tw11233909909541249966:=0
def tw4277123305377610956:=0
def tw15225898938927448965:=0
def tw5654915944345552610:=0
def tw15173319082474476816:=0
def tw12108556122277673989:=0
def tw9742762481537161081:=0
def tw8815978778089862886:=0
def tw7900848605848345466:=0
def tw11527400596301261556:=0
def tw13060635270989404727:=0
def tw7989446718093514714:=0
def tw5219913646720918763:=0
def tw9707467970442915250:=0
def tw2061336733948104753:=0
def tw15350228247888602593:=0
def tw16045364323175055108:=0
def tw11167058500417729389:=0
def tw4853845239552038019:=0
def tw16393214072771693455:=0
def tw15558379331365409161:=0
def tw12219010822563320812:=0
def tw8169439003830665590:=0
def tw15925959213139767348:=0
def tw4062590603698209879:=0
def tw18265110735251745776:=0
def tw3324370388731721951:=0
def tw7187712015179449149:=0
def tw12446671564935418137:=0
def tw11631949177611099484:=0
def tw10863691752932827907:=0
def tw4579915035951534197:=0
def tw2106772791706067620:=0
def tw5190858436795975133:=0
def tw15833101031869716248:=0
def tw3778570907064670394:=0
def tw15269460223193020731:=0
def tw17469494607926323039:=0
def tw17071933233745926475:=0
def tw8501965223197265387:=0
def tw799058152334190989:=0
def tw1839936087709337878:=0
def tw3613985053011638133:=0
def tw4509342841696533420:=0
def tw17060783192105421314:=0
def tw12217510988519352034:=0
def tw17593926979948537966:=0
def tw11344696213175529153:=0
def tw14563313635500033381:=0
def tw5493829472160285130:=0
def tw12386490823455924649:=0
def tw7194138841457239674:=0
def tw14253623888739441362:=0
def tw12455688753522874879:=0
def tw11072220065599592152:=0
def tw15809024667715528951:=0
def tw12652497220440717332:=0
def tw7488532133774444012:=0
def tw178390326949210769:=0
def tw9860534755689963359:=0
def tw14233226315378837486:=0
def tw16119590258423456846:=0
def tw11662257290538059068:=0
def tw10293758371679039044:=0
def tw497601262167405460:=0
def tw10723653624180420461:=0
def tw4139258050937766115:=0
def tw3588915644704097569:=0
def tw16280851604428329748:=0
def tw3775531117973971583:=0
def tw2466992317766486569:=0
def tw1441138247535269068:=0
def tw4882663977191884907:=0
def tw14479497666610105933:=0
def tw9426856169947184355:=0
def tw16785366408928871151:=0
def tw5656257504242532919:=0
def tw16733149243064108397:=0
def tw16914465879263043639:=0
def tw16807242352965830715:=0
def tw5940394848699928920:=0
def tw8668897932102353060:=0
def tw13827961009214004338:=0
def tw5015990385689301312:=0
def tw10788250564019628277:=0
def tw5631049024815672747:=0
def tw7658583693914672590:=0
def tw14439448574595633907:=0
def tw2871928838477718250:=0
def tw1808811461983255452:=0
def tw7771089788904306793:=0
def tw4293223586013982670:=0
def tw16231341950939363769:=0
def tw9216273223327109536:=0
def tw9565247944062354336:=0
def tw18305977701407739253:=0
def tw2718721778764306908:=0
def tw12729628953275555700:=0
def tw15733292779856655141:=0
def tw12297405083740501344:=0
def tw14293335797476775233:=0
def tw6350386285348612566:=0
def tw11046307822488800658:=0
def tw1734709385961798316:=0
def tw538132713844079535:=0
def tw6895064868391709881:=0
def tw13704897449951112696:=0
def tw8907725711915906450:=0
def tw16402467922513445122:=0
def tw13058358998793822773:=0
def tw16543809732681174941:=0
def tw970893256570726117:=0
def tw65359182769008147:=0
def tw90109950209163545:=0
def tw15117372083520904521:=0
def tw2985639008149631945:=0
def tw18194767317060550927:=0
def tw5441022810482258406:=0
def tw1051995511962475712:=0
def tw11358527095502212429:=0
def tw12498841200296038766:=0
def tw14670622589786967180:=0
def tw8341452894937964384:=0
def tw8602187032805684493:=0
def tw13255998526671978063:=0
def tw233675698784747573:=0
def tw13978617263824047716:=0
def tw16700302344539121343:=0
def tw16228058732098543535:=0
def tw17203720776527475212:=0
def tw14796286643339904906:=0
def tw6931990926646864360:=0
def tw2971370093678461329:=0
def tw928597543748298433:=0
def tw999957647875465820:=0
def tw9231031892313610692:=0
def tw15689689168771033810:=0
def tw17767656215697436357:=0
def tw15829675202947554431:=0
def tw6152177726037185767:=0
def tw17839192667199908348:=0
def tw18491130602787874:=0
def tw4856128912748402454:=0
def tw15294977398415417561:=0
def tw4143854499365102540:=0
def tw15327762815643190845:=0
def tw4439988717668378765:=0
def tw8841389687460302954:=0
def tw4569038378644442961:=0
def tw13257438321415080030:=0
def tw457557335240246185:=0
def tw14300551373684136220:=0
def tw14648329800706269362:=0
def tw4920228672651283069:=0
def tw8909050634452364683:=0
def tw576247538113107518:=0
def tw12708505632163136949:=0
def tw14762733981891412710:=0
def tw8442525262777615643:=0
def tw17272322651981883226:=0
def tw12371586729418360039:=0
def tw9937715780888999665:=0
def tw10936562994064387337:=0
def tw1527170953811758791:=0
def tw3109590535103693409:=0
def tw258321455419238063:=0
end PySem.W.Fast
namespace Lw
open PySem L2 PyProof.Rows
def top (i:Nat):Stmt:=PySem.Challenge.pw_lackstretch_k24_endless_or_the_greatest.main.body.getD i (.Pass ⟨0,0,0,0⟩)
abbrev zdZ:Stmt:=top 0
abbrev qJ:Stmt:=top 21
abbrev ZK:Stmt:=top 22
abbrev qY:Stmt:=top 23
abbrev wY:Stmt:=top 24
abbrev tM:Stmt:=top 25
abbrev uV:Stmt:=top 26
abbrev wX:Stmt:=top 27
abbrev ZM:Stmt:=top 28
abbrev vY:Stmt:=top 29
abbrev xT:Stmt:=top 30
abbrev wA:Stmt:=top 31
abbrev vO:Stmt:=top 33
abbrev vg:Stmt:=top 34
abbrev yj:Stmt:=top 35
abbrev vN:Stmt:=top 37
abbrev ue:Stmt:=top 38
abbrev uT:Stmt:=top 39
abbrev uv:Stmt:=inClass (top 40) 0
abbrev xY:Stmt:=inClass (top 40) 1
abbrev yL:Stmt:=inClass (top 40) 2
abbrev yP:Stmt:=inClass (top 40) 3
abbrev Ym:Stmt:=inClass (top 40) 4
abbrev yM:Stmt:=inClass (top 40) 5
abbrev wj:Stmt:=inClass (top 40) 6
abbrev wg:Stmt:=inClass (top 40) 7
abbrev yN:Stmt:=inClass (top 40) 8
abbrev vP:Stmt:=top 42
abbrev yS:Stmt:=top 43
abbrev jc:Stmt:=top 45
abbrev vA:Stmt:=top 46
abbrev xG:Stmt:=top 47
abbrev ql:Stmt:=top 48
abbrev xW:Stmt:=top 49
abbrev xP:Stmt:=top 50
abbrev yJ:Stmt:=top 51
abbrev vK:Stmt:=top 52
abbrev yD:Stmt:=top 53
abbrev xJ:Stmt:=top 54
abbrev wz:Stmt:=top 55
abbrev jf:Stmt:=top 56
abbrev tX:Stmt:=top 57
abbrev Va:Stmt:=top 58
section
variable {P:Program} {w:World} {K:PySem.W.Frag} {mg:Str->Option Value} {base:Heap}
def jh:Sp:=fun vs H Q _=>∃ i:Int,vs=[.int i]∧Q (.bl true) H
theorem Jx:zF ["thing"] ["thing"] (zq qJ):=⟨rfl,rfl,rfl,by decide +kernel,rfl,by decide +kernel,by decide +kernel⟩
theorem Ze {f:Addr} {fd:FuncData} (D:Df K mg "is_whole" qJ ["thing"] f fd) (T:Blt mg):FnOk P w K mg base CX0 1 f fd ["thing"] jh:=by
 refine D.fn.ok Jx (fun vs H Q E h=>?_) (fun cdv A outer s H vs Q E hr h=>?_)
 ·obtain⟨i,rfl,_⟩:=h;rfl
 ·obtain⟨i,rfl,q⟩:=h
  refine⟨_,(zx (zH (jD (zz WF (by rfl) T.n_isinstance boot_isinstance (zf (pv 0) (zf (jg (v:=.ty "int") rfl T.n_int boot_int rfl) zm))) (jT (zai (zz WF (by rfl) T.n_isinstance boot_isinstance (zf (pv 0) (zf (jg (v:=.ty "bool") rfl T.n_bool boot_bool rfl) zm)))))))),?_⟩
  refine⟨_,rfl,_,_,_,_,rfl,.int i,Q8,_,rfl,wI ?_⟩
  refine⟨_,rfl,_,_,_,_,rfl,.int i,YH,_,rfl,?_⟩
  exact q
def Yh:Sp:=fun vs H Q _=>∃ i:Int,vs=[.int i]∧Q (.bl (decide (2≤i∧i≤16))) H
theorem zad:zF ["thing"] ["thing"] (zq ZK):=⟨rfl,rfl,rfl,by decide +kernel,rfl,by decide +kernel,by decide +kernel⟩
theorem zax {f f1:Addr} {fd fd1:FuncData} {t1 t2:Tok} (D:Df K mg "is_base" ZK ["thing"] f fd) (wM:Df K mg "is_whole" qJ ["thing"] f1 fd1) (T:Blt mg) (jE:mg "LEAST_BASE" = some (.int 2 t1)) (uW:mg "GREATEST_BASE" = some (.int 16 t2)) :
  FnOk P w K mg base CX0 2 f fd ["thing"] Yh:=by
 have ZQ:FnOk P w K mg base CX0 1 f1 fd1 ["thing"] jh:=Ze wM T
 refine D.fn.ok zad (fun vs H Q E h=>?_) (fun cdv A outer s H vs Q E hr h=>?_)
 ·obtain⟨i,rfl,_⟩:=h;rfl
 ·obtain⟨i,rfl,q⟩:=h
  refine⟨_,(zx (zH (jD (zP wM ZQ (hr.mono (by decide)) (zf (pv 0) zm)) (jT (WY WN WN (yX (v:=.int 2) rfl jE ⟨_,rfl⟩) (pv 0) (yX (v:=.int 16) rfl uW ⟨_,rfl⟩)))))),?_⟩
  refine⟨_,rfl,i,rfl,_,rfl,wI ?_⟩
  refine⟨_,rfl,_,_,rfl,rfl,_,rfl,?_⟩
  refine V3 (fun h1=>?_) (fun h1=>?_)
  ·have h1':(2:Int)≤i:=of_decide_eq_true h1
   refine⟨_,_,rfl,rfl,?_⟩
   rw [show decide (2≤i∧i≤16)=decide (i≤16) by simp [h1']] at q
   exact q
  ·have h1':¬ (2:Int)≤i:=fun z=>h1 (decide_eq_true z)
   rw [show decide (2≤i∧i≤16)=false by simp [h1']] at q
   exact q
end
structure Deck (H:Hp) (d:Addr) (fp:List Addr):Prop where
 ex:∃ (pp:Addr) (qs:List Addr) (i:Int),fp=d :: pp :: qs∧H d=some (.lst [.ref pp,.int i])∧H pp=some (.lst (qs.map V.ref))∧qs≠[]∧qs.length≤63∧∀ q∈qs,∃ a b c:Int,H q=some (.lst [.int a,.int b,.int c])
theorem Deck.there {H:Hp} {d:Addr} {fp:List Addr} (D:Deck H d fp):∀ b∈fp,H b≠none:=by
 obtain⟨pp,qs,i,rfl,h1,h2,_,_,h3⟩:=D.ex
 intro b hb
 rcases List.mem_cons.mp hb with e | hb
 ·rw [e,h1];simp
 ·rcases List.mem_cons.mp hb with e | hb
  ·rw [e,h2];simp
  ·obtain⟨x,y,z,e⟩:=h3 b hb
   rw [e];simp
theorem Deck.fresh {H:Hp} {d b:Addr} {fp:List Addr} (D:Deck H d fp) (h:H b=none):b∉fp:=fun z=>D.there b z h
theorem Deck.same {H H':Hp} {d:Addr} {fp:List Addr} (D:Deck H d fp) (s:Same H H'):Deck H' d fp:=by
 obtain⟨pp,qs,i,rfl,h1,h2,h3,h4,h5⟩:=D.ex
 exact⟨pp,qs,i,rfl,s _ _ h1,s _ _ h2,h3,h4,fun q hq=>by obtain⟨x,y,z,e⟩:=h5 q hq;exact⟨x,y,z,s _ _ e⟩⟩
theorem Deck.upd {H:Hp} {d l:Addr} {o:HO} {fp:List Addr} (D:Deck H d fp) (h:l∉fp):Deck (L2.upd H l o) d fp:=by
 obtain⟨pp,qs,i,rfl,h1,h2,h3,h4,h5⟩:=D.ex
 have ne:∀ b∈d :: pp :: qs,b≠l:=fun b hb z=>h (z▸hb)
 refine⟨pp,qs,i,rfl,?_,?_,h3,h4,fun q hq=>?_⟩
 ·rw [zu (ne d (by simp))];exact h1
 ·rw [zu (ne pp (by simp))];exact h2
 ·obtain⟨x,y,z,e⟩:=h5 q hq
  exact⟨x,y,z,by rw [zu (ne q (by simp [hq]))];exact e⟩
section
variable {P:Program} {w:World} {K:PySem.W.Frag} {mg:Str->Option Value} {base:Heap}
def jV (K:PySem.W.Frag):Sp:=fun vs H Q _=>∃ (a:Addr) (ns:List Int),vs=[.ref a]∧SqL K H a (ns.map V.int)∧ns.length≤63 ∧
 ∀ d fp H',Deck H' d fp->Same H H'->(∀ b∈fp,H b=none)->Q (.ref d) H'
theorem uc:zF ["script","pools","k","cell"] ["script"] (zq jc):=⟨rfl,rfl,rfl,by decide +kernel,rfl,by decide +kernel,by decide +kernel⟩
theorem YS {f:Addr} {fd:FuncData} (D:Df K mg "_law_deck" jc ["script"] f fd) (T:Blt mg):FnOk P w K mg base CX0 1 f fd ["script"] (jV K):=by
 refine D.fn.ok uc (fun vs H Q E h=>?_) (fun cdv A outer s H vs Q E hr h=>?_)
 ·obtain⟨a,ns,rfl,_⟩:=h;rfl
 ·obtain⟨a,ns,rfl,hS,hlen,k⟩:=h
  refine⟨_,(zp (zG (i:=1) uc.nd rfl (Or.inl rfl) (zJ zm))
   (zp (qm PassesOwn.never rfl (yE rfl T.n_range (zf (zz (zbe rfl) (by rfl) T.n_max boot_max (zf zr (zf (zz (Uz rfl) (by rfl) T.n_min boot_min (zf zr (zf (zz tU (by rfl) T.n_len PySem.boot_len (zf (pv 0) zm)) zm))) zm))) zm)) (zL (i:=2) uc.nd rfl (Or.inl rfl))
    (zp (zG (i:=3) uc.nd rfl (Or.inl rfl) zr)
    (zp (xU (zM zd6 (pv 2) (zz tU (by rfl) T.n_len PySem.boot_len (zf (pv 0) zm)) (zU _))
     (zx (zG (i:=3) uc.nd rfl (Or.inl rfl) (ym wk (pv 0) (pv 2) (fun _ _=>rfl))))
     yl)
    (zx (vd (ZC PySem.F.plainAttrs_list PySem.F.slot_list_append PySem.F.type_list_append qb (pv 1) (zf (zJ (zf (pv 3) (zf (jw zbi (by rfl) T.n_int boot_int (zf (uJ ze4 (pv 3) (zQ zeP zr zr) (zU _)) zm)) (zf (zQ Xm zr (pv 2)) zm)))) zm)))))))
   (zx (zH (zJ (zf (pv 1) (zf zr zm))))))),?_⟩
  refine⟨(by decide:0≤sizeLine),fun pp hpp=>?_⟩
  have s0:Same H (upd H pp (.lst [])):=zj hpp
  refine⟨_,rfl,a,_,rfl,.inl (s0.seq hS),63,(ns.length:Int),by simp,1,_,rfl,?_⟩
  generalize hM:(if (if (ns.length:Int)<63 then (ns.length:Int) else 63)>1 then (if (ns.length:Int)<63 then (ns.length:Int) else 63) else 1)=M
  have hM1:1≤M∧M≤63:=by
   rw [← hM];split<;>split<;>omega
  refine⟨M,rfl,by omega,by omega,vB (lo:=0) (n:=M.toNat) (fun i σ H2=>∃ (qs:List Addr) (v1 v2:Option V),σ=[some (.ref a),some (.ref pp),v1,v2]∧qs.length=i∧H2 pp=some (.lst (qs.map V.ref))∧Same H H2 ∧
    (∀ q∈qs,H q=none∧∃ a b c:Int,H2 q=some (.lst [.int a,.int b,.int c]))) ?_ ?_ ?_⟩
  ·exact⟨[],none,none,rfl,rfl,zg,s0,fun q hq=>by cases hq⟩
  ·rintro i σ H2 hi ⟨qs,v1,v2,rfl,hl,h1,sH,h2⟩
   have hS2:=sH.seq hS
   have put:∀ (cell:Int) (p:Addr),H2 p=none->∀ y z:Int,∃ (qs':List Addr) (v1 v2:Option V),([some (.ref a),some (.ref pp),some (.int (0+(i:Int))),some (.int cell)]:L2.St)=[some (.ref a),some (.ref pp),v1,v2]∧qs'.length=i+1∧(upd (upd H2 p (.lst [.int cell,.int y,.int z])) pp (.lst (qs.map V.ref++[.ref p]))) pp=some (.lst (qs'.map V.ref)) ∧
     Same H (upd (upd H2 p (.lst [.int cell,.int y,.int z])) pp (.lst (qs.map V.ref++[.ref p])))∧(∀ q∈qs',H q=none∧∃ a b c:Int,(upd (upd H2 p (.lst [.int cell,.int y,.int z])) pp (.lst (qs.map V.ref++[.ref p]))) q=some (.lst [.int a,.int b,.int c])):=by
    intro cell p hp y z
    have npp:p≠pp:=fun e=>by rw [e,h1] at hp;cases hp
    refine⟨qs++[p],_,_,rfl,by simp [hl],by rw [zg];simp,fun b o e=>?_,fun q hq=>?_⟩
    ·rw [zu (zy e hpp),zu (fun z=>by have:=sH b o e;rw [z,hp] at this;cases this)];exact sH b o e
    ·rcases List.mem_append.mp hq with hq | hq
     ·obtain⟨hn,a',b',c',e⟩:=h2 q hq
      have n1:q≠pp:=fun z=>by
       rw [z,h1] at e
       have e':=Option.some.inj e
       injection e' with e'
       cases qs with
       | nil=>cases hq
       | cons q0 qr=>rw [List.map_cons] at e';injection e' with e1 _;cases e1
      exact⟨hn,a',b',c',by rw [zu n1,zu (zy e hp)];exact e⟩
     ·have e:q=p:=by simpa using hq
      subst e
      exact⟨sH.free hp,cell,y,z,by rw [zu npp,zg]⟩
   have rest:∀ cell:Int,∀ D:Ends,(∀ (p:Addr),H2 p=none->∀ y z:Int,D.nx [some (.ref a),some (.ref pp),some (.int (0+(i:Int))),some (.int cell)] (upd (upd H2 p (.lst [.int cell,.int y,.int z])) pp (.lst (qs.map V.ref++[.ref p]))))->True:=fun _ _ _=>trivial
   refine⟨_,rfl,_,rfl,a,_,rfl,.inl hS2,_,_,rfl,rfl,_,rfl,?_⟩
   have fin:∀ (cell:Int) (p:Addr),H2 p=none->True:=fun _ _ _=>trivial
   refine V3 (fun hlt=>?_) (fun hge=>?_)
   ·have hlt':i<ns.length:=by
     have:=of_decide_eq_true hlt
     rw [List.length_map] at this
     omega
    refine⟨_,rfl,_,rfl,a,_,_,.int (ns[i]),rfl,rfl,hS2,?_,?_⟩
    ·rw [Int.zero_add];exact ug (by rw [List.getElem?_map,List.getElem?_eq_getElem hlt'];rfl)
    ·refine⟨_,rfl,.inl ⟨rfl,_,SqL.of h1⟩,_,rfl,_,rfl,_,_,rfl,rfl,⟨by decide,by decide,by decide⟩,_,_,rfl,rfl,.inr ⟨_,rfl,_,rfl,_,_,rfl,rfl,.inl ⟨by decide,by decide⟩,(by decide:3≤sizeLine),fun p hp=>?_⟩⟩
     refine⟨pp,_,_,rfl,rfl,?_,?_,put _ p hp _ _⟩
     ·rw [zu (fun z=>by rw [← z,h1] at hp;cases hp)];exact h1
     ·rw [List.length_map,hl];exact Nat.lt_of_lt_of_le (show i<64 by omega) (by decide)
   ·refine⟨_,rfl,.inl ⟨rfl,_,SqL.of h1⟩,_,rfl,_,rfl,_,_,rfl,rfl,⟨by decide,by decide,by decide⟩,_,_,rfl,rfl,.inr ⟨_,rfl,_,rfl,_,_,rfl,rfl,.inl ⟨by decide,by decide⟩,(by decide:3≤sizeLine),fun p hp=>?_⟩⟩
    refine⟨pp,_,_,rfl,rfl,?_,?_,put _ p hp _ _⟩
    ·rw [zu (fun z=>by rw [← z,h1] at hp;cases hp)];exact h1
    ·rw [List.length_map,hl];exact Nat.lt_of_lt_of_le (show i<64 by omega) (by decide)
  ·rintro σ H2 ⟨qs,v1,v2,rfl,hl,h1,sH,h2⟩
   refine⟨_,rfl,(by decide:2≤sizeLine),fun d hd=>?_⟩
   have nd:∀ b o,H2 b=some o->b≠d:=fun b o e=>zy e hd
   refine k d (d :: pp :: qs) _ ⟨pp,qs,0,rfl,zg,?_,?_,by omega,fun q hq=>?_⟩ (sH.trans (zj hd)) (fun b hb=>?_)
   ·rw [zu (nd _ _ h1)];exact h1
   ·intro z;rw [z] at hl;simp at hl;omega
   ·obtain⟨_,x,y,z,e⟩:=h2 q hq
    exact⟨x,y,z,by rw [zu (nd _ _ e)];exact e⟩
   ·rcases List.mem_cons.mp hb with e | hb
    ·rw [e];exact sH.free hd
    ·rcases List.mem_cons.mp hb with e | hb
     ·rw [e];exact hpp
     ·exact (h2 b hb).1
end
structure Stp (fp:List Addr) (d:Addr) (H H':Hp):Prop where
 dk:Deck H' d fp
 sm:Same (aw fp H) (aw fp H')
theorem Stp.refl {fp:List Addr} {d:Addr} {H:Hp} (D:Deck H d fp):Stp fp d H H:=⟨D,Same.refl _⟩
theorem Stp.trans {fp:List Addr} {d:Addr} {H H1 H2:Hp} (a:Stp fp d H H1) (b:Stp fp d H1 H2):Stp fp d H H2:=⟨b.dk,a.sm.trans b.sm⟩
theorem Stp.of {fp:List Addr} {d:Addr} {H H':Hp} (D:Deck H d fp) (s:Same H H'):Stp fp d H H':=⟨D.same s,s.aw fp⟩
theorem Stp.free {fp:List Addr} {d p:Addr} {H H':Hp} (a:Stp fp d H H') (h:H' p=none):H p=none:=by
 cases e:H p with
 | none=>rfl
 | some o =>
  by_cases hp:p∈fp
  ·exact absurd h (a.dk.there p hp)
  ·have z:=a.sm p o (by rw [yd hp];exact e)
   rw [yd hp,h] at z;cases z
theorem Stp.get {fp:List Addr} {d p:Addr} {H H':Hp} {o:HO} (a:Stp fp d H H') (hp:p∉fp) (h:H p=some o):H' p=some o:=by
 have z:=a.sm p o (by rw [yd hp];exact h)
 rw [yd hp] at z;exact z
theorem Stp.new {fp:List Addr} {d p:Addr} {H H':Hp} {o:HO} (a:Stp fp d H H') (h:H' p=none):Stp fp d H (upd H' p o):=a.trans (.of a.dk (zj h))
section
variable {P:Program} {w:World} {K:PySem.W.Frag} {mg:Str->Option Value} {base:Heap}
def vV:Sp:=fun vs H Q _=>∃ (d:Addr) (m:Int) (fp:List Addr),vs=[.ref d,.int m]∧Deck H d fp∧0<m∧m<2^200 ∧
 ∀ (r:Nat) (H':Hp),(r:Int)<m->Stp fp d H H'->Q (.int r) H'
theorem wU:zF ["deck","many","pool","found","number"] ["deck","many"] (zq vA):=⟨rfl,rfl,rfl,by decide +kernel,rfl,by decide +kernel,by decide +kernel⟩
theorem Ud {fp:List Addr} {H:Hp} {b:Addr} {o:HO} (h:b∈fp):aw fp (upd H b o)=aw fp H:=by
 funext c
 by_cases hc:c∈fp
 ·rw [Z3 hc,Z3 hc]
 ·rw [yd hc,yd hc,zu (fun z:c=b=>hc (by rw [z];exact h))]
theorem tW {f:Addr} {fd:FuncData} (D:Df K mg "_law_draw" vA ["deck","many"] f fd) (T:Blt mg):FnOk P w K mg base CX0 1 f fd ["deck","many"] vV:=by
 refine D.fn.ok wU (fun vs H Q E h=>?_) (fun cdv A outer s H vs Q E hr h=>?_)
 ·obtain⟨d,m,fp,rfl,_⟩:=h;rfl
 ·obtain⟨d,m,fp,rfl,DK,hm0,hm1,k⟩:=h
  obtain⟨pp,qs,i,rfl,h1,h2,h3,h4,h5⟩:=DK.ex
  refine⟨_,(zp (zG (i:=2) wU.nd rfl (Or.inl rfl) (ym wk (ym wk (pv 0) zr (fun _ _=>rfl)) (zQ Yw (ym wk (pv 0) zr (fun _ _=>rfl)) (zz tU (by rfl) T.n_len PySem.boot_len (zf (ym wk (pv 0) zr (fun _ _=>rfl)) zm))) (fun _ _=>rfl)))
   (zp (Xy (zQ xn (ym wk (pv 0) zr (fun _ _=>rfl)) zr) (J4 (pv 0) zr set_list))
   (zp (xU (PW.pt (W3 (zM Uo (ym wk (pv 2) zr (fun _ _=>rfl)) zr (zU _)) (YX (zM QT (ym wk (pv 2) zr (fun _ _=>rfl)) zr (zU _)))))
    (zp (zG (i:=3) wU.nd rfl (Or.inl rfl) (zQ Yw (ym wk (pv 2) zr (fun _ _=>rfl)) (pv 1)))
    (zp (Xy (zQ QX (ym wk (pv 2) zr (fun _ _=>rfl)) (pv 1)) (J4 (pv 2) zr set_list))
    (zx (zH (pv 3)))))
    yl)
   (zp (Xy (zQ xn (ym wk (pv 2) zr (fun _ _=>rfl)) zr) (J4 (pv 2) zr set_list))
   (zp (zG (i:=4) wU.nd rfl (Or.inl rfl) (zQ Yw (zQ xn (zQ Yw (ym wk (pv 2) zr (fun _ _=>rfl)) zr) (zQ Xm zr (ym wk (pv 2) zr (fun _ _=>rfl)))) zr))
   (zp (zG (i:=4) wU.nd rfl (Or.inl rfl) (zQ Yw (zQ Xm (pv 4) (pv 4)) zr))
   (zp (zG (i:=4) wU.nd rfl (Or.inl rfl) (zQ Yw (zQ Xm (pv 4) (zQ xn (pv 4) zr)) zr))
   (zx (zH (zQ Yw (zQ QX (pv 4) zr) (pv 1))))))))))),?_⟩
  have hql:0<qs.length:=by cases qs with | nil=>exact absurd rfl h3 | cons _ _=>simp
  have hj0:0≤i % (qs.length:Int):=Int.emod_nonneg _ (by omega)
  have hj1:i % (qs.length:Int)<qs.length:=Int.emod_lt_of_pos _ (by omega)
  obtain⟨j,hj⟩:∃ j:Nat,i % (qs.length:Int)=(j:Int):=⟨(i % (qs.length:Int)).toNat,by omega⟩
  have hjl:j<qs.length:=by omega
  have hq:qs[j]∈qs:=List.getElem_mem hjl
  generalize hqe:qs[j]=q at hq
  obtain⟨a,b,c,hqv⟩:=h5 q hq
  have e0:atI [V.ref pp,V.int i] 0=some (V.ref pp):=rfl
  have e1:atI [V.ref pp,V.int i] 1=some (V.int i):=rfl
  refine⟨_,rfl,d,_,_,_,rfl,rfl,SqL.of h1,e0,?_⟩
  refine⟨_,rfl,d,_,_,_,rfl,rfl,SqL.of h1,e1,?_⟩
  refine⟨_,rfl,d,_,_,_,rfl,rfl,SqL.of h1,e0,pp,_,rfl,.inl (SqL.of h2),_,_,rfl,rfl,(by rw [List.length_map];omega),?_⟩
  refine⟨pp,_,_,V.ref q,rfl,rfl,SqL.of h2,?_,?_⟩
  ·rw [List.length_map,hj]
   exact ug (by rw [List.getElem?_map,List.getElem?_eq_getElem hjl,hqe];rfl)
  refine⟨_,rfl,d,_,_,_,rfl,rfl,SqL.of h1,e1,_,_,rfl,rfl,_,rfl,d,_,_,1,rfl,rfl,h1,rfl,?_⟩
  have nqd:q≠d:=fun z=>by rw [z,h1] at hqv;cases hqv
  have nqp:q≠pp:=fun z=>by
   rw [z,h2] at hqv
   injection hqv with hqv
   injection hqv with hqv
   cases qs with
   | nil=>cases hq
   | cons x y=>rw [List.map_cons] at hqv;injection hqv with z1 _;cases z1
  have npd:pp≠d:=fun z=>by
   rw [z,h1] at h2
   injection h2 with h2
   injection h2 with h2
   cases qs with
   | nil=>cases hq
   | cons x y =>
    rw [List.map_cons] at h2
    injection h2 with _ z2
    cases y with
    | nil=>cases z2
    | cons y z=>rw [List.map_cons] at z2;injection z2 with z3 _;cases z3
  have hqv1:(upd H d (.lst [V.ref pp,V.int (i+1)])) q=some (.lst [.int a,.int b,.int c]):=by rw [zu nqd];exact hqv
  have back:∀ a' b' c':Int,Deck (upd (upd H d (.lst [V.ref pp,V.int (i+1)])) q (.lst [.int a',.int b',.int c'])) d (d :: pp :: qs):=fun a' b' c'=>by
   refine⟨pp,qs,i+1,rfl,?_,?_,h3,h4,fun q' hq'=>?_⟩
   ·rw [zu (Ne.symm nqd),zg]
   ·rw [zu (Ne.symm nqp),zu npd];exact h2
   ·by_cases z:q'=q
    ·subst z;exact⟨a',b',c',zg⟩
    ·obtain⟨x,y,z',e⟩:=h5 q' hq'
     have n1:q'≠d:=fun w=>by rw [w,h1] at e;cases e
     exact⟨x,y,z',by rw [zu z,zu n1];exact e⟩
  have kept:∀ o,Same (aw (d :: pp :: qs) H) (aw (d :: pp :: qs) (upd (upd H d (.lst [V.ref pp,V.int (i+1)])) q o)):=fun o=>by
   rw [Ud (by simp [hq]),Ud (by simp)];exact Same.refl _
  have fin:∀ (x a' b' c':Int),Q (.int (x % m)) (upd (upd H d (.lst [V.ref pp,V.int (i+1)])) q (.lst [.int a',.int b',.int c'])):=fun x a' b' c'=>by
   obtain⟨r,hr⟩:=Int.eq_ofNat_of_zero_le (Int.emod_nonneg x (show m≠0 by omega))
   rw [hr]
   exact k r _ (hr▸Int.emod_lt_of_pos x hm0) ⟨back _ _ _,kept _⟩
  refine⟨_,rfl,q,_,_,V.int b,rfl,rfl,SqL.of hqv1,rfl,rfl,_,rfl,?_⟩
  have rest:∀ D:Ends,(∀ v H',D.rt v H'=Q v H')->Xu (QG (tOp (rI0 fun i j=>.int (i+j)) (tOp (zcE K) (Yl 2) (tC (.int 2))) (tC (.int 1))) (zfi (Yl 2) (tC (.int 2)) zed))
    (Xu (QG (tOp (rI (fun _ j=>0<j) fun i j=>.int (i % j)) (tOp (rI0 fun i j=>.int (i+j)) (tOp (rI (fun _ j=>0<j) fun i j=>.int (i % j)) (tOp (zcE K) (Yl 2) (tC (.int 0))) (tC (.int 99999999977))) (tOp (rI CMul fun i j=>.int (i*j)) (tC (.int 700001)) (tOp (zcE K) (Yl 2) (tC (.int 2))))) (tC (.int 99999999947))) (Z5 4))
    (Xu (QG (tOp (rI (fun _ j=>0<j) fun i j=>.int (i % j)) (tOp (rI CMul fun i j=>.int (i*j)) (Yl 4) (Yl 4)) (tC (.int 99999999821))) (Z5 4))
    (Xu (QG (tOp (rI (fun _ j=>0<j) fun i j=>.int (i % j)) (tOp (rI CMul fun i j=>.int (i*j)) (Yl 4) (tOp (rI0 fun i j=>.int (i+j)) (Yl 4) (tC (.int 19)))) (tC (.int 9999999967))) (Z5 4))
    (zeW (tOp (rI (fun _ j=>0<j) fun i j=>.int (i % j)) (tOp (rI zd9 fun i j=>.int (i / j)) (Yl 4) (tC (.int 13))) (Yl 1)))))) D [some (.ref d),some (.int m),some (.ref q),none,none] (upd H d (.lst [V.ref pp,V.int (i+1)])):=by
   intro D hD
   refine⟨_,rfl,q,_,_,V.int c,rfl,rfl,SqL.of hqv1,rfl,_,_,rfl,rfl,_,rfl,q,_,_,2,rfl,rfl,hqv1,rfl,?_⟩
   have hqv2:(upd (upd H d (.lst [V.ref pp,V.int (i+1)])) q (.lst [.int a,.int b,.int (c+1)])) q=some (.lst [.int a,.int b,.int (c+1)]):=zg
   refine⟨_,rfl,q,_,_,V.int a,rfl,rfl,SqL.of hqv2,rfl,_,_,rfl,rfl,(by decide:(0:Int)<99999999977),?_⟩
   refine⟨_,rfl,q,_,_,V.int (c+1),rfl,rfl,SqL.of hqv2,rfl,_,_,rfl,rfl,.inl ⟨by decide,by decide⟩,_,_,rfl,rfl,_,_,rfl,rfl,(by decide:(0:Int)<99999999947),?_⟩
   generalize hn1:(a % 99999999977+700001*(c+1)) % 99999999947=n1
   have n1b:0≤n1∧n1<99999999947:=by rw [← hn1];exact⟨Int.emod_nonneg _ (by decide),Int.emod_lt_of_pos _ (by decide)⟩
   refine⟨_,rfl,_,rfl,_,_,rfl,rfl,.inl ⟨by omega,by omega⟩,_,_,rfl,rfl,(by decide:(0:Int)<99999999821),?_⟩
   generalize hn2:n1*n1 % 99999999821=n2
   have n2b:0≤n2∧n2<99999999821:=by rw [← hn2];exact⟨Int.emod_nonneg _ (by decide),Int.emod_lt_of_pos _ (by decide)⟩
   refine⟨_,rfl,_,rfl,_,_,rfl,rfl,_,_,rfl,rfl,.inl ⟨by omega,by omega⟩,_,_,rfl,rfl,(by decide:(0:Int)<9999999967),?_⟩
   generalize hn3:n2*(n2+19) % 9999999967=n3
   refine⟨_,rfl,_,_,rfl,rfl,⟨by decide,by decide⟩,_,rfl,_,_,rfl,rfl,hm0,?_⟩
   rw [hD]
   exact fin _ _ _ _
  refine V3 (fun _=>?_) (fun _=>?_)
  ·refine⟨_,rfl,q,_,_,V.int a,rfl,rfl,SqL.of hqv1,rfl,_,_,rfl,rfl,_,rfl,?_⟩
   refine V3 (fun _=>?_) (fun _=>?_)
   ·refine⟨_,rfl,q,_,_,V.int a,rfl,rfl,SqL.of hqv1,rfl,_,rfl,_,_,rfl,rfl,hm0,?_⟩
    refine⟨_,rfl,q,_,_,V.int a,rfl,rfl,SqL.of hqv1,rfl,_,rfl,_,_,rfl,rfl,⟨hm0,hm1⟩,_,rfl,q,_,_,0,rfl,rfl,hqv1,rfl,?_⟩
    refine⟨_,rfl,?_⟩
    exact fin _ _ _ _
   ·exact rest _ (fun _ _=>rfl)
  ·exact rest _ (fun _ _=>rfl)
end
section
variable {P:Program} {w:World} {K:PySem.W.Frag} {mg:Str->Option Value} {base:Heap}
def jU:Sp:=fun vs H Q _=>∃ b i:Int,vs=[.int b,.int i]∧Q (.bl (decide (0≤i∧i<b))) H
theorem U5:zF ["base","thing"] ["base","thing"] (zq qY):=⟨rfl,rfl,rfl,by decide +kernel,rfl,by decide +kernel,by decide +kernel⟩
theorem QQ {f f1:Addr} {fd fd1:FuncData} (D:Df K mg "is_figure" qY ["base","thing"] f fd) (wM:Df K mg "is_whole" qJ ["thing"] f1 fd1) (T:Blt mg):FnOk P w K mg base CX0 2 f fd ["base","thing"] jU:=by
 have ZQ:FnOk P w K mg base CX0 1 f1 fd1 ["thing"] jh:=Ze wM T
 refine D.fn.ok U5 (fun vs H Q E h=>?_) (fun cdv A outer s H vs Q E hr h=>?_)
 ·obtain⟨b,i,rfl,_⟩:=h;rfl
 ·obtain⟨b,i,rfl,q⟩:=h
  refine⟨_,(zx (zH (jD (zP wM ZQ (hr.mono (by decide)) (zf (pv 1) zm)) (jT (WY WN zd6 zr (pv 1) (pv 0)))))),?_⟩
  refine⟨_,rfl,i,rfl,_,rfl,wI ?_⟩
  refine⟨_,rfl,_,_,rfl,rfl,_,rfl,?_⟩
  refine V3 (fun h1=>?_) (fun h1=>?_)
  ·have h1':(0:Int)≤i:=of_decide_eq_true h1
   refine⟨_,rfl,_,_,rfl,rfl,?_⟩
   rw [show decide (0≤i∧i<b)=decide (i<b) by simp [h1']] at q
   exact q
  ·have h1':¬ (0:Int)≤i:=fun z=>h1 (decide_eq_true z)
   rw [show decide (0≤i∧i<b)=false by simp [h1']] at q
   exact q
def qH:Sp:=fun vs H Q _=>∃ (b:Int) (a:Addr) (ns:List Int),vs=[.int b,.ref a]∧H a=some (.lst (ns.map V.int))∧ns.length≤1000∧∀ H',Same H H'->Q (.bl (ns.all fun i=>decide (0≤i∧i<b))) H'
theorem WM:zF ["base","thing"] ["base","thing"] (zq wY):=⟨rfl,rfl,rfl,by decide +kernel,rfl,by decide +kernel,by decide +kernel⟩
theorem W4 {f f1:Addr} {fd fd1:FuncData} (D:Df K mg "are_figures" wY ["base","thing"] f fd) (jP:Df K mg "is_figure" qY ["base","thing"] f1 fd1) (YB:FnOk P w K mg base CX0 2 f1 fd1 ["base","thing"] jU) (T:Blt mg) :
  FnOk P w K mg base CX0 3 f fd ["base","thing"] qH:=by
 refine D.fn.ok WM (fun vs H Q E h=>?_) (fun cdv A outer s H vs Q E hr h=>?_)
 ·obtain⟨b,a,ns,rfl,_⟩:=h;rfl
 ·obtain⟨b,a,ns,rfl,ha,hlen,kk⟩:=h
  refine⟨_,(zx (zH (jD (zz (Jd K) (by rfl) T.n_isinstance boot_isinstance (zf (pv 1) (zf (jg (v:=.ty "list") rfl T.n_list boot_list rfl) zm))) (jT (zz (k_all K rfl) (by rfl) T.n_all boot_all (zf (wJ (show CScope (zq wY) _ "each" ["base","thing"] ["base"] [0] from ⟨rfl,by decide +kernel,by decide +kernel,rfl,by decide +kernel,rfl,by decide +kernel,by decide +kernel⟩) rfl (jJ K (pv 1)) (fun _ _ _ _=>yG) (fun _ _ _ _=>(zP jP YB (hr.mono (by decide)) (zf (pv 1) (zf (pv 0) zm))))) zm)))))),?_⟩
  refine⟨_,rfl,_,_,_,_,rfl,.lst ha,Z6,_,rfl,wI ?_⟩
  refine⟨_,rfl,a,rfl,⟨_,SqL.of ha⟩,wL (K:=K) (a:=a) (xs:=ns.map V.int) (fun i ys H4=>ys=((ns.take i).map fun i=>decide (0≤i∧i<b)).map V.bl∧H4=H) ⟨by simp,rfl⟩ (fun i ys H4 _ ⟨_,e⟩=>by rw [e];exact SqL.of ha) ?_ ?_⟩
  ·rintro j x ys H4 hx ⟨rfl,rfl⟩
   refine⟨?_,?_⟩
   ·rw [List.length_map,List.length_map,List.length_take]
    exact Nat.lt_of_le_of_lt (Nat.le_trans (Nat.min_le_right _ _) hlen) (by decide)
   obtain⟨z,hz,rfl⟩:∃ z,ns[j]?=some z∧x=V.int z:=by
    rw [List.getElem?_map] at hx
    obtain⟨z,h,e⟩:=Option.map_eq_some_iff.mp hx
    exact⟨z,h,e.symm⟩
   unfold qP
   dsimp only
   rw [if_pos rfl]
   refine⟨_,rfl,_,rfl,b,z,rfl,?_,rfl⟩
   rw [List.take_succ,hz]
   simp
  ·rintro ys H4 ⟨rfl,rfl⟩ Dd hD
   refine⟨Dd,_,rfl,SqL.of zg,?_⟩
   have q:=kk _ (zj hD (o:=.lst (((ns.take (ns.map V.int).length).map fun i=>decide (0≤i∧i<b)).map V.bl)))
   rw [List.length_map,List.take_length] at q ⊢
   rw [List.all_map]
   exact q
end
section
variable {P:Program} {w:World} {K:PySem.W.Frag} {mg:Str->Option Value} {base:Heap}
structure RuleAt (H:Hp) (r:Addr) (b:Nat) (bl:Addr) (zs:List (Addr×List Int)):Prop where
 tu:H r=some (.tup [.int b,.ref bl])
 li:H bl=some (.lst (zs.map fun z=>V.ref z.1))
 st:∀ z∈zs,H z.1=some (.lst (z.2.map V.int))
theorem RuleAt.same {H H':Hp} {r bl:Addr} {b:Nat} {zs:List (Addr×List Int)} (R:RuleAt H r b bl zs) (s:Same H H'):RuleAt H' r b bl zs:=⟨s _ _ R.tu,s _ _ R.li,fun z hz=>s _ _ (R.st z hz)⟩
structure Xq (b:Nat) (l:List Int):Prop where
 ne:l≠[]
 len:l.length≤4
 fig:∀ f∈l,0≤f∧f<b
structure zO (b:Nat) (ls:List (List Int)):Prop where
 b2:2≤b
 b16:b≤16
 len:ls.length≤4
 st:∀ l∈ls,Xq b l
 up:ls.Pairwise fun x y=>HT.lexLt x y=true
theorem zbf {b:Nat} {ns:List Int} (h:∀ f∈ns,0≤f∧f<(b:Int)):(ns.all fun i=>decide (0≤i∧i<(b:Int)))=true:=by
 rw [List.all_eq_true];intro x hx;exact decide_eq_true (h x hx)
def jn:Sp:=fun vs H Q _=>∃ (b:Nat) (a:Addr) (ns:List Int),vs=[.int b,.ref a]∧H a=some (.lst (ns.map V.int))∧Xq b ns∧∀ H',Same H H'->Q (.bl true) H'
theorem VL:zF ["base","thing"] ["base","thing"] (zq tM):=⟨rfl,rfl,rfl,by decide +kernel,rfl,by decide +kernel,by decide +kernel⟩
theorem VM {f f1:Addr} {fd fd1:FuncData} {t1:Tok} (D:Df K mg "is_stretch" tM ["base","thing"] f fd) (tL:Df K mg "are_figures" wY ["base","thing"] f1 fd1) (jQ:FnOk P w K mg base CX0 3 f1 fd1 ["base","thing"] qH) (vZ:mg "LONGEST_STRETCH" = some (.int 4 t1)) (T:Blt mg) :
  FnOk P w K mg base CX0 4 f fd ["base","thing"] jn:=by
 refine D.fn.ok VL (fun vs H Q E h=>?_) (fun cdv A outer s H vs Q E hr h=>?_)
 ·obtain⟨b,a,ns,rfl,_⟩:=h;rfl
 ·obtain⟨b,a,ns,rfl,ha,g,kk⟩:=h
  refine⟨_,(zx (zH (jD (zP tL jQ (hr.mono (by decide)) (zf (pv 0) (zf (pv 1) zm))) (jT (WY WN WN zr (zz (tK K) (by rfl) T.n_len PySem.boot_len (zf (pv 1) zm)) (yX (v:=.int 4) rfl vZ ⟨_,rfl⟩)))))),?_⟩
  have hlen:=g.len
  refine⟨_,rfl,_,rfl,b,a,ns,rfl,ha,Nat.le_trans hlen (by decide),fun H1 s1=>?_⟩
  rw [zbf g.fig]
  refine⟨_,rfl,wI ?_⟩
  have hpos:0<ns.length:=List.length_pos_iff.mpr g.ne
  refine⟨_,rfl,a,_,rfl,.inl (SqL.of (s1 _ _ ha)),_,_,rfl,rfl,_,rfl,?_⟩
  rw [List.length_map,decide_eq_true (show (1:Int)≤(ns.length:Int) by omega)]
  refine wI ?_
  refine⟨_,_,rfl,rfl,?_⟩
  dsimp only
  rw [decide_eq_true (show (ns.length:Int)≤4 by omega)]
  exact kk H1 s1
def j0:Sp:=fun vs H Q _=>∃ (bl:Addr) (zs:List (Addr×List Int)),vs=[.ref bl]∧H bl=some (.lst (zs.map fun z=>V.ref z.1))∧(∀ z∈zs,H z.1=some (.lst (z.2.map V.int)))∧zs.length≤4∧(zs.map (·.2)).Pairwise (fun x y=>HT.lexLt x y=true)∧∀ H',Same H H'->Q (.bl true) H'
theorem Ql:zF ["stretches"] ["stretches"] (zq uV):=⟨rfl,rfl,rfl,by decide +kernel,rfl,by decide +kernel,by decide +kernel⟩
theorem za7 {n:Nat}:(List.replicate n true).all id=true:=by
 rw [List.all_eq_true];intro x hx;exact (List.mem_replicate.mp hx).2
theorem YZ {f:Addr} {fd:FuncData} (D:Df K mg "is_rising" uV ["stretches"] f fd) (T:Blt mg):FnOk P w K mg base CX0 1 f fd ["stretches"] j0:=by
 refine D.fn.ok Ql (fun vs H Q E h=>?_) (fun cdv A outer s H vs Q E hr h=>?_)
 ·obtain⟨bl,zs,rfl,_⟩:=h;rfl
 ·obtain⟨bl,zs,rfl,hb,hz,h4,up,kk⟩:=h
  have HU:=Xe hr
  refine⟨_,(zx (zH (zz (k_all K rfl) (by rfl) T.n_all boot_all (zf (wJ (show CScope (zq uV) _ "k" ["stretches"] ["stretches"] [0] from ⟨rfl,by decide +kernel,by decide +kernel,rfl,by decide +kernel,rfl,by decide +kernel,by decide +kernel⟩) rfl (yE rfl T.n_range (zf (zQ Ve (zz (tK K) (by rfl) T.n_len PySem.boot_len (zf (pv 0) zm)) zr) zm)) (fun _ _ _ _=>yG) (fun _ _ _ _=>(uJ (zfd K HU) (ym (uN K) (pv 1) (pv 0) (fun _ _=>rfl)) (ym (uN K) (pv 1) (zQ xn (pv 0) zr) (fun _ _=>rfl)) (zU _)))) zm)))),?_⟩
  refine⟨_,rfl,bl,_,rfl,.inl (SqL.of hb),_,_,rfl,rfl,_,rfl,?_⟩
  rw [List.length_map]
  refine⟨by omega,by omega,xR (lo:=0) (n:=((zs.length:Int)-1).toNat) (fun i ys H4=>ys=(List.replicate i true).map V.bl∧H4=H) ⟨by simp,rfl⟩ ?_ ?_⟩
  ·rintro i ys H4 hi ⟨rfl,rfl⟩
   refine⟨by rw [List.length_map,List.length_replicate];exact Nat.lt_of_lt_of_le (show i<5 by omega) (by decide),?_⟩
   unfold qP
   dsimp only
   rw [if_pos rfl]
   have hi0:i<zs.length:=by omega
   have hi1:i+1<zs.length:=by omega
   have g0:atI (zs.map fun z=>V.ref z.1) (0+(i:Int))=some (.ref (zs[i]).1):=by rw [Int.zero_add];exact ug (by rw [List.getElem?_map,List.getElem?_eq_getElem hi0];rfl)
   have g1:atI (zs.map fun z=>V.ref z.1) (0+(i:Int)+1)=some (.ref (zs[i+1]).1):=by rw [Int.zero_add];exact ug (j:=i+1) (by rw [List.getElem?_map,List.getElem?_eq_getElem hi1];rfl)
   refine⟨_,rfl,_,rfl,bl,_,_,_,rfl,rfl,SqL.of hb,g0,?_⟩
   refine⟨_,rfl,_,rfl,_,_,rfl,rfl,bl,_,_,_,rfl,rfl,SqL.of hb,g1,?_⟩
   refine⟨_,_,_,_,rfl,rfl,SqL.of (hz _ (List.getElem_mem hi0)),SqL.of (hz _ (List.getElem_mem hi1)),?_,rfl⟩
   rw [List.pairwise_map,List.pairwise_iff_getElem] at up
   rw [up i (i+1) hi0 hi1 (by omega),List.replicate_succ']
   simp
  ·rintro ys H4 ⟨rfl,rfl⟩ Dd hD
   refine⟨Dd,_,rfl,SqL.of zg,?_⟩
   rw [za7]
   exact kk _ (zj hD)
def qg:Sp:=fun vs H Q _=>∃ (b:Nat) (bl:Addr) (zs:List (Addr×List Int)),vs=[.int b,.ref bl]∧H bl=some (.lst (zs.map fun z=>V.ref z.1))∧(∀ z∈zs,H z.1=some (.lst (z.2.map V.int)))∧zO b (zs.map (·.2))∧∀ H',Same H H'->Q (.bl true) H'
theorem VB:zF ["base","thing"] ["base","thing"] (zq wX):=⟨rfl,rfl,rfl,by decide +kernel,rfl,by decide +kernel,by decide +kernel⟩
theorem Vp {f f1 f2:Addr} {fd fd1 fd2:FuncData} {t1:Tok} (D:Df K mg "is_bad_list" wX ["base","thing"] f fd) (jd:Df K mg "is_stretch" tM ["base","thing"] f1 fd1) (Zv:FnOk P w K mg base CX0 4 f1 fd1 ["base","thing"] jn) (qd:Df K mg "is_rising" uV ["stretches"] f2 fd2) (ux:mg "MOST_STRETCHES" = some (.int 4 t1)) (T:Blt mg) :
  FnOk P w K mg base CX0 5 f fd ["base","thing"] qg:=by
 have W7:FnOk P w K mg base CX0 1 f2 fd2 ["stretches"] j0:=YZ qd T
 refine D.fn.ok VB (fun vs H Q E h=>?_) (fun cdv A outer s H vs Q E hr h=>?_)
 ·obtain⟨b,bl,zs,rfl,_⟩:=h;rfl
 ·obtain⟨b,bl,zs,rfl,hb,hz,g,kk⟩:=h
  have h4:zs.length≤4:=by have:=g.len;rwa [List.length_map] at this
  refine⟨_,(zp (xU (PW.pt (WR (jO (vq (zz (Jd K) (by rfl) T.n_isinstance boot_isinstance (zf (pv 1) (zf (jg (v:=.ty "list") rfl T.n_list boot_list rfl) zm))))) (WT (zM QT (zz (tK K) (by rfl) T.n_len PySem.boot_len (zf (pv 1) zm)) (yX (v:=.int 4) rfl ux ⟨_,rfl⟩) (zU _)))))
    (zx (zH Zt))
    yl)
   (zx (zH (jD (zz (k_all K rfl) (by rfl) T.n_all boot_all (zf (wJ (show CScope (zq wX) _ "each" ["base","thing"] ["base"] [0] from ⟨rfl,by decide +kernel,by decide +kernel,rfl,by decide +kernel,rfl,by decide +kernel,by decide +kernel⟩) rfl (jJ K (pv 1)) (fun _ _ _ _=>yG) (fun _ _ _ _=>(zP jd Zv (hr.mono (by decide)) (zf (pv 1) (zf (pv 0) zm))))) zm)) (jT (zP qd W7 (hr.mono (by decide)) (zf (pv 1) zm))))))),?_⟩
  refine⟨_,rfl,_,_,_,_,rfl,.lst hb,Z6,_,rfl,xj ?_⟩
  refine⟨_,rfl,bl,_,rfl,.inl (SqL.of hb),_,_,rfl,rfl,_,rfl,?_⟩
  rw [List.length_map,decide_eq_false (show ¬ (4:Int)<(zs.length:Int) by omega)]
  refine xj ?_
  refine⟨_,rfl,bl,rfl,⟨_,SqL.of hb⟩,wL (K:=K) (a:=bl) (xs:=zs.map fun z=>V.ref z.1) (fun i ys H4=>ys=(List.replicate i true).map V.bl∧Same H H4) ⟨by simp,Same.refl _⟩ (fun i ys H4 _ ⟨_,e⟩=>SqL.of (e _ _ hb)) ?_ ?_⟩
  ·rintro j x ys H4 hx ⟨rfl,s4⟩
   rw [List.getElem?_map] at hx
   obtain⟨z,hzj,e⟩:=Option.map_eq_some_iff.mp hx
   subst e
   have hzm:=List.mem_of_getElem? hzj
   have hj:j<zs.length:=(List.getElem?_eq_some_iff.mp hzj).1
   refine⟨by rw [List.length_map,List.length_replicate];exact Nat.lt_of_lt_of_le (show j<5 by omega) (by decide),?_⟩
   unfold qP
   dsimp only
   rw [if_pos rfl]
   refine⟨_,rfl,_,rfl,b,z.1,z.2,rfl,s4 _ _ (hz z hzm),g.st _ (List.mem_map.mpr ⟨z,hzm,rfl⟩),fun H5 s5=>⟨?_,s4.trans s5⟩⟩
   rw [List.replicate_succ'];simp
  ·rintro ys H4 ⟨rfl,s4⟩ Dd hD
   refine⟨Dd,_,rfl,SqL.of zg,?_⟩
   rw [za7]
   have s5:=s4.trans (zj hD (o:=.lst ((List.replicate (zs.map fun z=>V.ref z.1).length true).map V.bl)))
   refine⟨_,rfl,wI ?_⟩
   exact⟨_,rfl,bl,zs,rfl,s5 _ _ hb,fun z hzm=>s5 _ _ (hz z hzm),h4,g.up,fun H6 s6=>kk H6 (s5.trans s6)⟩
def Yy:Sp:=fun vs H Q _=>∃ (r:Addr) (b:Nat) (bl:Addr) (zs:List (Addr×List Int)),vs=[.ref r]∧RuleAt H r b bl zs∧zO b (zs.map (·.2))∧∀ H',Same H H'->Q (.bl true) H'
theorem zal:zF ["thing"] ["thing"] (zq ZM):=⟨rfl,rfl,rfl,by decide +kernel,rfl,by decide +kernel,by decide +kernel⟩
theorem zau {f f1 f2:Addr} {fd fd1 fd2:FuncData} (D:Df K mg "is_rule" ZM ["thing"] f fd) (Y0:Df K mg "is_base" ZK ["thing"] f1 fd1) (W6:FnOk P w K mg base CX0 2 f1 fd1 ["thing"] Yh) (tQ:Df K mg "is_bad_list" wX ["base","thing"] f2 fd2) (jM:FnOk P w K mg base CX0 5 f2 fd2 ["base","thing"] qg) (T:Blt mg) :
  FnOk P w K mg base CX0 6 f fd ["thing"] Yy:=by
 refine D.fn.ok zal (fun vs H Q E h=>?_) (fun cdv A outer s H vs Q E hr h=>?_)
 ·obtain⟨r,b,bl,zs,rfl,_⟩:=h;rfl
 ·obtain⟨r,b,bl,zs,rfl,R,g,kk⟩:=h
  have b2:=g.b2
  have b16:=g.b16
  refine⟨_,(zp (xU (PW.pt (WR (jO (vq (zz (Jd K) (by rfl) T.n_isinstance boot_isinstance (zf (pv 0) (zf (jg (v:=.ty "tuple") rfl T.n_tuple boot_tuple rfl) zm))))) (WT (zM zcQ (zz (tK K) (by rfl) T.n_len PySem.boot_len (zf (pv 0) zm)) zr (zU _)))))
    (zx (zH Zt))
    yl)
   (zx (zH (jD (zP Y0 W6 (hr.mono (by decide)) (zf (ym (j5 K) (pv 0) zr (fun _ _=>rfl)) zm)) (jT (zP tQ jM (hr.mono (by decide)) (zf (ym (j5 K) (pv 0) zr (fun _ _=>rfl)) (zf (ym (j5 K) (pv 0) zr (fun _ _=>rfl)) zm)))))))),?_⟩
  refine⟨_,rfl,_,_,_,_,rfl,.tup R.tu,Wi,_,rfl,xj ?_⟩
  refine⟨_,rfl,r,_,rfl,.inr (SqT.of R.tu),rfl,_,rfl,?_⟩
  refine xj ?_
  refine⟨_,rfl,r,_,_,V.int b,rfl,rfl,SqT.of R.tu,rfl,(b:Int),rfl,?_⟩
  rw [decide_eq_true (show (2:Int)≤b∧(b:Int)≤16 from ⟨by omega,by omega⟩)]
  refine⟨_,rfl,wI ?_⟩
  refine⟨_,rfl,r,_,_,V.int b,rfl,rfl,SqT.of R.tu,rfl,_,rfl,r,_,_,V.ref bl,rfl,rfl,SqT.of R.tu,rfl,b,bl,zs,rfl,R.li,R.st,g,kk⟩
def uH:Sp:=fun vs H Q _=>∃ (r:Addr) (b:Nat) (bl:Addr) (zs:List (Addr×List Int)),vs=[.ref r]∧RuleAt H r b bl zs∧zO b (zs.map (·.2))∧∀ H',Same H H'->Q .non H'
theorem V0:zF ["thing"] ["thing"] (zq vY):=⟨rfl,rfl,rfl,by decide +kernel,rfl,by decide +kernel,by decide +kernel⟩
theorem VN {f f1:Addr} {fd fd1:FuncData} (D:Df K mg "check_rule" vY ["thing"] f fd) (YQ:Df K mg "is_rule" ZM ["thing"] f1 fd1) (Vz:FnOk P w K mg base CX0 6 f1 fd1 ["thing"] Yy):FnOk P w K mg base CX0 7 f fd ["thing"] uH:=by
 refine D.fn.ok V0 (fun vs H Q E h=>?_) (fun cdv A outer s H vs Q E hr h=>?_)
 ·obtain⟨r,b,bl,zs,rfl,_⟩:=h;rfl
 ·obtain⟨r,b,bl,zs,rfl,R,g,kk⟩:=h
  refine⟨_,(zx (xU (jO (vq (zP YQ Vz (hr.mono (by decide)) (zf (pv 0) zm))))
    (zx zcX)
    yl)),?_⟩
  exact⟨_,rfl,r,b,bl,zs,rfl,R,g,fun H1 s1=>⟨_,rfl,xj (kk H1 s1)⟩⟩
end
section
variable {P:Program} {w:World} {K:PySem.W.Frag} {mg:Str->Option Value} {base:Heap}
theorem zcf (xs:List V) (k m:Nat):tR xs (some (k:Int)) (some (m:Int))=(xs.drop k).take (m-k):=by
 unfold tR
 rw [HT.Wn,HT.Wn]
 by_cases hk:k≤xs.length
 ·rw [Nat.min_eq_left hk]
  by_cases hm:m≤xs.length
  ·rw [Nat.min_eq_left hm]
  ·rw [Nat.min_eq_right (by omega),List.take_of_length_le (by rw [List.length_drop];omega),List.take_of_length_le (by rw [List.length_drop];omega)]
 ·rw [List.drop_of_length_le (show xs.length≤k by omega),Nat.min_eq_right (show xs.length≤k by omega),List.drop_of_length_le (Nat.le_refl _)]
  simp
def ut:Sp:=fun vs H Q _=>∃ (sa fa:Addr) (st fs:List Int),vs=[.ref sa,.ref fa]∧H sa=some (.lst (st.map V.int))∧H fa=some (.lst (fs.map V.int))∧st≠[]∧st.length≤1000∧fs.length≤1000∧∀ H',Same H H'->Q (.bl (u9 st fs)) H'
theorem jz:zF ["stretch","figures","size"] ["stretch","figures"] (zq xT):=⟨rfl,rfl,rfl,by decide +kernel,rfl,by decide +kernel,by decide +kernel⟩
theorem jr {f:Addr} {fd:FuncData} (D:Df K mg "stands_within" xT ["stretch","figures"] f fd) (T:Blt mg):FnOk P w K mg base CX0 1 f fd ["stretch","figures"] ut:=by
 refine D.fn.ok jz (fun vs H Q E h=>?_) (fun cdv A outer s H vs Q E hr h=>?_)
 ·obtain⟨sa,fa,st,fs,rfl,_⟩:=h;rfl
 ·obtain⟨sa,fa,st,fs,rfl,hs,hf,ne,hl1,hl2,kk⟩:=h
  have HU:=Xe hr
  refine⟨_,(zp (zG (i:=2) jz.nd rfl (Or.inr rfl) (zz (tK K) (by rfl) T.n_len PySem.boot_len (zf (pv 0) zm)))
   (zx (zH (zz (zc6 K rfl) (by rfl) T.n_any boot_any (zf (wJ (show CScope (zq xT) _ "k" ["stretch","figures","size"] ["stretch","figures","size"] [0,1,2] from ⟨rfl,by decide +kernel,by decide +kernel,rfl,by decide +kernel,rfl,by decide +kernel,by decide +kernel⟩) rfl (yE rfl T.n_range (zf (zQ xn (zQ Ve (zz (tK K) (by rfl) T.n_len PySem.boot_len (zf (pv 1) zm)) (pv 2)) zr) zm)) (fun _ _ _ _=>yG) (fun _ _ _ _=>(uJ (JM K HU) (ww (ZD K) (pv 2) (vf (pv 0)) (vf (zQ xn (pv 0) (pv 3)))) (pv 1) (zU _)))) zm))))),?_⟩
  refine⟨_,rfl,sa,_,rfl,.inl (SqL.of hs),?_⟩
  rw [List.length_map]
  refine⟨_,rfl,fa,_,rfl,.inl (SqL.of hf),_,rfl,_,_,rfl,rfl,_,_,rfl,rfl,_,rfl,?_⟩
  rw [List.length_map]
  refine⟨by omega,by omega,xR (lo:=0) (n:=((fs.length:Int)-st.length+1).toNat) (fun i ys H4=>ys=((List.range i).map fun k=>decide ((fs.drop k).take st.length=st)).map V.bl∧Same H H4) ⟨by simp,Same.refl _⟩ ?_ ?_⟩
  ·rintro i ys H4 hi ⟨rfl,s4⟩
   refine⟨by rw [List.length_map,List.length_map,List.length_range];exact Nat.lt_of_lt_of_le (show i<2000 by omega) (by decide),?_⟩
   unfold qP
   dsimp only
   rw [if_pos rfl]
   refine⟨_,rfl,_,rfl,_,rfl,_,rfl,_,rfl,_,_,rfl,rfl,_,rfl,fa,_,rfl,SqL.of (s4 _ _ hf),fun p hp=>?_⟩
   have e1:tR (fs.map V.int) (some (0+(i:Int))) (some (0+(i:Int)+(st.length:Int)))=((fs.drop i).take st.length).map V.int:=by
    have e:(0+(i:Int)+(st.length:Int))=((i+st.length:Nat):Int):=by omega
    rw [e,Int.zero_add,zcf,List.map_take,List.map_drop,Nat.add_sub_cancel_left]
   rw [e1]
   refine⟨_,rfl,yF ((fs.drop i).take st.length),yF st,TrAt.ints (a:=p) (SqL.of zg),TrAt.ints (a:=sa) (SqL.of (zj hp _ _ (s4 _ _ hs))),(by rw [uy];decide),?_,s4.trans (zj hp)⟩
   rw [List.range_succ,List.map_append,List.map_append]
   have e2:=uR ((fs.drop i).take st.length) st
   show _=_++[V.bl (decide ((fs.drop i).take st.length=st))]
   rw [← e2];rfl
  ·rintro ys H4 ⟨rfl,s4⟩ Dd hD
   refine⟨Dd,_,rfl,SqL.of zg,?_⟩
   have q:=kk _ (s4.trans (zj hD (o:=.lst (((List.range ((fs.length:Int)-st.length+1).toNat).map fun k=>decide ((fs.drop k).take st.length=st)).map V.bl))))
   rw [J0 ne] at q
   rw [List.any_map]
   exact q
def vU:Sp:=fun vs H Q _=>∃ (bl fa:Addr) (zs:List (Addr×List Int)) (fs:List Int),vs=[.ref bl,.ref fa]∧H bl=some (.lst (zs.map fun z=>V.ref z.1))∧(∀ z∈zs,H z.1=some (.lst (z.2.map V.int)))∧H fa=some (.lst (fs.map V.int))∧zs.length≤100∧fs.length≤1000∧(∀ z∈zs,z.2≠[]∧z.2.length≤1000)∧∀ H',Same H H'->Q (.bl (lacks (zs.map (·.2)) fs)) H'
theorem QD:zF ["bad","figures"] ["bad","figures"] (zq wA):=⟨rfl,rfl,rfl,by decide +kernel,rfl,by decide +kernel,by decide +kernel⟩
theorem Qh {f f1:Addr} {fd fd1:FuncData} (D:Df K mg "lacks_all" wA ["bad","figures"] f fd) (wD:Df K mg "stands_within" xT ["stretch","figures"] f1 fd1) (T:Blt mg):FnOk P w K mg base CX0 2 f fd ["bad","figures"] vU:=by
 have Zw:FnOk P w K mg base CX0 1 f1 fd1 ["stretch","figures"] ut:=jr wD T
 refine D.fn.ok QD (fun vs H Q E h=>?_) (fun cdv A outer s H vs Q E hr h=>?_)
 ·obtain⟨bl,fa,zs,fs,rfl,_⟩:=h;rfl
 ·obtain⟨bl,fa,zs,fs,rfl,hb,hz,hf,hl1,hl2,ne,kk⟩:=h
  refine⟨_,(zx (zH (zai (zz (zc6 K rfl) (by rfl) T.n_any boot_any (zf (wJ (show CScope (zq wA) _ "stretch" ["bad","figures"] ["figures"] [1] from ⟨rfl,by decide +kernel,by decide +kernel,rfl,by decide +kernel,rfl,by decide +kernel,by decide +kernel⟩) rfl (jJ K (pv 0)) (fun _ _ _ _=>yG) (fun _ _ _ _=>(zP wD Zw (hr.mono (by decide)) (zf (pv 0) (zf (pv 1) zm))))) zm))))),?_⟩
  refine⟨_,rfl,bl,rfl,⟨_,SqL.of hb⟩,wL (K:=K) (a:=bl) (xs:=zs.map fun z=>V.ref z.1) (fun i ys H4=>ys=((zs.take i).map fun z=>u9 z.2 fs).map V.bl∧Same H H4) ⟨by simp,Same.refl _⟩ (fun i ys H4 _ ⟨_,e⟩=>SqL.of (e _ _ hb)) ?_ ?_⟩
  ·rintro j x ys H4 hx ⟨rfl,s4⟩
   rw [List.getElem?_map] at hx
   obtain⟨z,hzj,e⟩:=Option.map_eq_some_iff.mp hx
   subst e
   have hzm:=List.mem_of_getElem? hzj
   refine⟨?_,?_⟩
   ·rw [List.length_map,List.length_map,List.length_take]
    exact Nat.lt_of_le_of_lt (Nat.le_trans (Nat.min_le_right _ _) hl1) (by decide)
   unfold qP
   dsimp only
   rw [if_pos rfl]
   refine⟨_,rfl,_,rfl,z.1,fa,z.2,fs,rfl,s4 _ _ (hz z hzm),s4 _ _ hf,(ne z hzm).1,(ne z hzm).2,hl2,fun H5 s5=>⟨?_,s4.trans s5⟩⟩
   rw [List.take_succ,hzj]
   simp
  ·rintro ys H4 ⟨rfl,s4⟩ Dd hD
   refine⟨Dd,_,rfl,SqL.of zg,_,rfl,?_⟩
   have q:=kk _ (s4.trans (zj hD (o:=.lst (((zs.take (zs.map fun z=>V.ref z.1).length).map fun z=>u9 z.2 fs).map V.bl))))
   rw [List.length_map,List.take_length] at q ⊢
   unfold lacks at q
   rw [List.any_map] at q ⊢
   exact q
end
theorem ZR (xs:List V) (m:Nat):tR xs none (some (m:Int))=xs.take m:=by
 unfold tR
 rw [HT.Wn,HT.Jb,List.drop_zero,Nat.sub_zero]
 by_cases h:m≤xs.length
 ·rw [Nat.min_eq_left h]
 ·rw [Nat.min_eq_right (by omega),List.take_of_length_le (Nat.le_refl _),List.take_of_length_le (by omega)]
theorem uB (xs:List V) (m:Nat):tR xs (some (m:Int)) none=xs.drop m:=by
 unfold tR
 rw [HT.Wn,HT.Jb]
 by_cases h:m≤xs.length
 ·rw [Nat.min_eq_left h,List.take_of_length_le (by rw [List.length_drop];omega)]
 ·rw [Nat.min_eq_right (by omega),List.drop_of_length_le (Nat.le_refl _),List.drop_of_length_le (by omega)];simp
theorem RuleAt.all {fp:List Addr} {r bl:Addr} {H:Hp} {b:Nat} {zs:List (Addr×List Int)} (R:RuleAt (aw fp H) r b bl zs):RuleAt H r b bl zs:=R.same (xu fp H)
theorem ZZ {ls:List (List Int)} {x:List Int}:((ls.map yF).any fun t=>teq t (yF x))=decide (x∈ls):=by
 rw [Bool.eq_iff_iff]
 simp only [List.any_eq_true,List.mem_map,decide_eq_true_eq]
 constructor
 ·rintro⟨t,⟨l,hl,rfl⟩,e⟩
  rw [uR] at e
  rw [← of_decide_eq_true e];exact hl
 ·intro h
  exact⟨yF x,⟨x,h,rfl⟩,qj _⟩
theorem xO:∀ ls:List (List Int),yI (ls.map yF)≤1
 | []=>by simp [yI]
 | l :: ls=>by rw [List.map_cons,yI,uy];have:=xO ls;omega
theorem TrsAt.lists {K:PySem.W.Frag} {H:Hp}:∀ {zs:List (Addr×List Int)},(∀ z∈zs,H z.1=some (.lst (z.2.map V.int)))->TrsAt K H ((zs.map (·.2)).map yF) (zs.map fun z=>V.ref z.1)
 | [],_=>by rw [List.map_nil,List.map_nil,TrsAt];rfl
 | z :: zs,h=>by
  rw [List.map_cons,List.map_cons,TrsAt]
  exact⟨_,_,rfl,TrAt.ints (SqL.of (h z List.mem_cons_self)),TrsAt.lists fun z hz=>h z (List.mem_cons_of_mem _ hz)⟩
section
variable {P:Program} {w:World} {K:PySem.W.Frag} {mg:Str->Option Value} {base:Heap}
def jm:Sp:=fun vs H Q _=>∃ (bl fa:Addr) (zs:List (Addr×List Int)) (fs:List Int),vs=[.ref bl,.ref fa]∧H bl=some (.lst (zs.map fun z=>V.ref z.1))∧(∀ z∈zs,H z.1=some (.lst (z.2.map V.int)))∧H fa=some (.lst (fs.map V.int))∧zs.length≤100∧∀ H',Same H H'->Q (.bl (tD (zs.map (·.2)) fs)) H'
theorem VP:zF ["bad","figures"] ["bad","figures"] (zq vO):=⟨rfl,rfl,rfl,by decide +kernel,rfl,by decide +kernel,by decide +kernel⟩
theorem Yg {f:Addr} {fd:FuncData} (D:Df K mg "begins_one" vO ["bad","figures"] f fd) (T:Blt mg):FnOk P w K mg base CX0 1 f fd ["bad","figures"] jm:=by
 refine D.fn.ok VP (fun vs H Q E h=>?_) (fun cdv A outer s H vs Q E hr h=>?_)
 ·obtain⟨bl,fa,zs,fs,rfl,_⟩:=h;rfl
 ·obtain⟨bl,fa,zs,fs,rfl,hb,hz,hf,hl1,kk⟩:=h
  have HU:=Xe hr
  refine⟨_,(zx (zH (zz (zc6 K rfl) (by rfl) T.n_any boot_any (zf (wJ (show CScope (zq vO) _ "stretch" ["bad","figures"] ["figures"] [1] from ⟨rfl,by decide +kernel,by decide +kernel,rfl,by decide +kernel,rfl,by decide +kernel,by decide +kernel⟩) rfl (jJ K (pv 0)) (fun _ _ _ _=>yG) (fun _ _ _ _=>(uJ (JM K HU) (ww (ZD K) (pv 0) uG (vf (zz (tK K) (by rfl) T.n_len PySem.boot_len (zf (pv 1) zm)))) (pv 1) (zU _)))) zm)))),?_⟩
  refine⟨_,rfl,bl,rfl,⟨_,SqL.of hb⟩,wL (K:=K) (a:=bl) (xs:=zs.map fun z=>V.ref z.1) (fun i ys H4=>ys=((zs.take i).map fun z=>decide (z.2.take fs.length=fs)).map V.bl∧Same H H4) ⟨by simp,Same.refl _⟩ (fun i ys H4 _ ⟨_,e⟩=>SqL.of (e _ _ hb)) ?_ ?_⟩
  ·rintro j x ys H4 hx ⟨rfl,s4⟩
   rw [List.getElem?_map] at hx
   obtain⟨z,hzj,e⟩:=Option.map_eq_some_iff.mp hx
   subst e
   have hzm:=List.mem_of_getElem? hzj
   refine⟨?_,?_⟩
   ·rw [List.length_map,List.length_map,List.length_take]
    exact Nat.lt_of_le_of_lt (Nat.le_trans (Nat.min_le_right _ _) hl1) (by decide)
   unfold qP
   dsimp only
   rw [if_pos rfl]
   refine⟨_,rfl,_,rfl,fa,_,rfl,.inl (SqL.of (s4 _ _ hf)),_,rfl,z.1,_,rfl,SqL.of (s4 _ _ (hz z hzm)),fun p hp=>?_⟩
   rw [List.length_map,ZR,← List.map_take]
   refine⟨_,rfl,yF (z.2.take fs.length),yF fs,TrAt.ints (a:=p) (SqL.of zg),TrAt.ints (a:=fa) (SqL.of (zj hp _ _ (s4 _ _ hf))),(by rw [uy];decide),?_,s4.trans (zj hp)⟩
   rw [List.take_succ,hzj]
   have e2:=uR (z.2.take fs.length) fs
   show _++[V.bl (teq _ _)]=_
   rw [e2]
   simp
  ·rintro ys H4 ⟨rfl,s4⟩ Dd hD
   refine⟨Dd,_,rfl,SqL.of zg,?_⟩
   have q:=kk _ (s4.trans (zj hD (o:=.lst (((zs.take (zs.map fun z=>V.ref z.1).length).map fun z=>decide (z.2.take fs.length=fs)).map V.bl))))
   rw [List.length_map,List.take_length] at q ⊢
   unfold tD at q
   rw [List.any_map] at q ⊢
   exact q
def zeo (ls:List (List Int)) (fs:List Int) (H H':Hp) (v:V):Prop:=(lacks ls fs=false∧v=.non)∨(lacks ls fs=true∧∃ l,v=.ref l∧H l=none∧H' l=some (.lst ((zA ls fs).map V.int)))
def uq:Sp:=fun vs H Q _=>∃ (bl fa:Addr) (zs:List (Addr×List Int)) (fs:List Int),vs=[.ref bl,.ref fa]∧H bl=some (.lst (zs.map fun z=>V.ref z.1))∧(∀ z∈zs,H z.1=some (.lst (z.2.map V.int)))∧H fa=some (.lst (fs.map V.int))∧zs.length≤100∧fs.length≤1000∧(∀ z∈zs,z.2≠[]∧z.2.length≤1000) ∧
 ∀ v H',zeo (zs.map (·.2)) fs H H' v->Same H H'->Q v H'
theorem jx:zF ["bad","figures","start"] ["bad","figures"] (zq vg):=⟨rfl,rfl,rfl,by decide +kernel,rfl,by decide +kernel,by decide +kernel⟩
theorem XR {f f1 f2:Addr} {fd fd1 fd2:FuncData} (D:Df K mg "longest_stand" vg ["bad","figures"] f fd) (xq:Df K mg "lacks_all" wA ["bad","figures"] f1 fd1) (xQ:FnOk P w K mg base CX0 2 f1 fd1 ["bad","figures"] vU)
  (uM:Df K mg "begins_one" vO ["bad","figures"] f2 fd2) (T:Blt mg):FnOk P w K mg base CX0 3 f fd ["bad","figures"] uq:=by
 have Wb:FnOk P w K mg base CX0 1 f2 fd2 ["bad","figures"] jm:=Yg uM T
 refine D.fn.ok jx (fun vs H Q E h=>?_) (fun cdv A outer s H vs Q E hr h=>?_)
 ·obtain⟨bl,fa,zs,fs,rfl,_⟩:=h;rfl
 ·obtain⟨bl,fa,zs,fs,rfl,hb,hz,hf,hl1,hl2,ne,kk⟩:=h
  refine⟨_,(zp (xU (jO (vq (zP xq xQ (hr.mono (by decide)) (zf (pv 0) (zf (pv 1) zm)))))
    (zx (zH uo))
    yl)
   (zp (qm PassesOwn.never rfl (yE rfl T.n_range (zf (zz (tK K) (by rfl) T.n_len PySem.boot_len (zf (pv 1) zm)) zm)) (zL (i:=2) jx.nd rfl (Or.inl rfl))
    (zx (xU (vq (zP uM Wb (hr.mono (by decide)) (zf (pv 0) (zf (ww (ZD K) (pv 1) (vf (pv 2)) uG) zm))))
     (zx (zH (ww (ZD K) (pv 1) (vf (pv 2)) uG)))
     yl)))
   (zx (zH (zJ zm))))),?_⟩
  refine⟨_,rfl,_,rfl,bl,fa,zs,fs,rfl,hb,hz,hf,hl1,hl2,ne,fun H1 s1=>⟨_,rfl,?_⟩⟩
  cases hL:lacks (zs.map (·.2)) fs with
  | false=>exact wI (kk _ _ (.inl ⟨hL,rfl⟩) s1)
  | true =>
   refine xj ?_
   refine⟨_,rfl,fa,_,rfl,.inl (SqL.of (s1 _ _ hf)),(((fs.map V.int).length:Nat):Int),rfl,by rw [List.length_map];omega,by rw [List.length_map];omega,vB (lo:=0) (n:=(((fs.map V.int).length:Nat):Int).toNat) (fun i σ H2=>∃ v1:Option V,σ=[some (.ref bl),some (.ref fa),v1]∧Same H H2∧∀ k,k<i->tD (zs.map (·.2)) (fs.drop k)=false) ⟨none,rfl,s1,fun k hk=>by omega⟩ ?_ ?_⟩
   ·rintro i σ H2 hi ⟨v1,rfl,s2,hno⟩
    have hi':i<fs.length:=by rw [List.length_map] at hi;omega
    refine⟨_,rfl,_,rfl,_,rfl,_,rfl,fa,_,rfl,SqL.of (s2 _ _ hf),fun p hp=>?_⟩
    rw [Int.zero_add,uB,← List.map_drop]
    have t:=s2.trans (zj hp (o:=.lst ((fs.drop i).map V.int)))
    refine⟨bl,p,zs,fs.drop i,rfl,t _ _ hb,fun z hzm=>t _ _ (hz z hzm),zg,hl1,fun H3 s3=>⟨_,rfl,?_⟩⟩
    have t3:=t.trans s3
    cases hB:tD (zs.map (·.2)) (fs.drop i) with
    | true =>
     refine wI ⟨_,rfl,_,rfl,_,rfl,fa,_,rfl,SqL.of (t3 _ _ hf),fun q hq=>?_⟩
     rw [uB,← List.map_drop]
     refine kk _ _ (.inr ⟨hL,q,rfl,t3.free hq,?_⟩) (t3.trans (zj hq))
     rw [zg,Q0 (by omega) hno hB]
    | false =>
     refine xj ⟨_,rfl,t3,fun k hk=>?_⟩
     by_cases e:k<i
     ·exact hno k e
     ·have:k=i:=by omega
      rw [this];exact hB
   ·rintro σ H2 ⟨v1,rfl,s2,hno⟩
    refine⟨(by decide:0≤sizeLine),fun q hq=>kk _ _ (.inr ⟨hL,q,rfl,s2.free hq,?_⟩) (s2.trans (zj hq))⟩
    rw [zg,W8 (fun k hk=>hno k (by rw [List.length_map];omega))]
    rfl
end
section
variable {P:Program} {w:World} {K:PySem.W.Frag} {mg:Str->Option Value} {base:Heap} {T0:Addr}
def lamP:Pos:=⟨83,29,83,59⟩
def zeb:Scope:=match (yR yj).getLast? with
 | some (.Return (some (.Call _ _ [⟨_,.Lambda _ _ sc _,_⟩] _)) _)=>sc
 | _=>zq yj
theorem zeI:zF ["each"] ["each"] zeb:=⟨rfl,rfl,rfl,by decide +kernel,rfl,by decide +kernel,by decide +kernel⟩
theorem zcW {H H':Hp} {p:Addr} {o:HO} (s:Same H H') (h:H p=none):Same H (upd H' p o):=fun b u e=>by rw [zu (zy e h)];exact s b u e
def SameL (T:Addr) (H H':Hp):Prop:=∀ b u,b≠T->H b=some u->H' b=some u
abbrev LT (T:Addr) (H:Hp):Prop:=XM T lamP ((("stands_of" : Str)++(".<locals>." : Str))++("<lambda>" : Str)) H
theorem SameL.of {T:Addr} {H H':Hp} (s:Same H H'):SameL T H H':=fun b u _ e=>s b u e
theorem SameL.trans {T:Addr} {H H1 H2:Hp} (a:SameL T H H1) (b:SameL T H1 H2):SameL T H H2:=fun c u h e=>b c u h (a c u h e)
theorem LT.same {T:Addr} {H H':Hp} (h:LT T H) (s:Same H H'):LT T H':=by
 rcases h with h | ⟨c,h1,h2⟩
 ·exact .inl (s _ _ h)
 ·exact .inr ⟨c,s _ _ h1,s _ _ h2⟩
theorem LT.lst {T:Addr} {H:Hp} (h:LT T H) {b:Addr} {xs:List V} (e:H b=some (.lst xs)):b≠T:=fun z=>by
 rw [z] at e
 rcases h with h | ⟨c,h,_⟩
 ·rw [h] at e;cases e
 ·rw [h] at e;cases e
theorem LT.tup {T:Addr} {H:Hp} (h:LT T H) {b:Addr} {xs:List V} (e:H b=some (.tup xs)):b≠T:=fun z=>by
 rw [z] at e
 rcases h with h | ⟨c,h,_⟩
 ·rw [h] at e;cases e
 ·rw [h] at e;cases e
theorem LT.none {T:Addr} {H:Hp} (h:LT T H) {b:Addr} (e:H b=none):b≠T:=fun z=>by
 rw [z] at e
 rcases h with h | ⟨c,h,_⟩
 ·rw [h] at e;cases e
 ·rw [h] at e;cases e
def jF (T:Addr):Sp:=fun vs H Q _=>∃ (bl:Addr) (zs:List (Addr×List Int)),vs=[.ref bl]∧H bl=some (.lst (zs.map fun z=>V.ref z.1))∧(∀ z∈zs,H z.1=some (.lst (z.2.map V.int)))∧zs.length≤4∧(∀ z∈zs,z.2≠[]∧z.2.length≤4)∧LT T H ∧
 ∀ (D:Addr) (ws:List (Addr×List Int)) (H':Hp),H D=none->H' D=some (.lst (ws.map fun z=>V.ref z.1))->(∀ z∈ws,H z.1=none∧H' z.1=some (.lst (z.2.map V.int))∧z.1≠D)->StandsL (zs.map (·.2)) (ws.map (·.2))->ws.length≤13->SameL T H H'->LT T H'->Q (.ref D) H'
theorem vJ:zF ["bad","found","stretch","size","stand"] ["bad"] (zq yj):=⟨rfl,rfl,rfl,by decide +kernel,rfl,by decide +kernel,by decide +kernel⟩
theorem QK {f f1 c:Addr} {fd fd1:FuncData} (D:Df K mg "stands_of" yj ["bad"] f fd) (hc:fd.code=.ref c) (hcT:PySem.W.codeHdIn K c T0=true) (hBM:base.BuiltinsAt mg T0) (hgT:mainGlobals≠T0) (xq:Df K mg "lacks_all" wA ["bad","figures"] f1 fd1) (xQ:FnOk P w K mg base CX0 2 f1 fd1 ["bad","figures"] vU) (T:Blt mg) :
  FnOk P w K mg base CX0 6 f fd ["bad"] (jF T0):=by
 obtain⟨oc,od,kV,doc,pm,an,cdv,ct,osl,rfl,lk,hcd⟩:=D.fn.ex
 obtain rfl:cdv=.ref c:=hc
 refine zbW lk hcd vJ (fun vs H Q E h=>?_) (fun A outer s H vs Q E hr h=>?_)
 ·obtain⟨bl,zs,rfl,_⟩:=h;rfl
 ·obtain⟨bl,zs,rfl,hb,hz,h4,hst,hLT,kk⟩:=h
  have HU:=Xe hr
  have lam_body:∀ (f' c':Addr) (s':Shared) (H':Hp) (z:Addr×List Int),H' z.1=some (.lst (z.2.map V.int))->∃ t,PE (Ys CX0 P w K mg base ["each"] ((("stands_of" : Str)++(".<locals>." : Str))++("<lambda>" : Str)) zeb f' (.ref c') (A.deeper (envOfC "stands_of" (zq yj) s.heap.objs.size f (.ref c))).in1.in1 (envOfC "stands_of" (zq yj) s.heap.objs.size f (.ref c) :: outer) s' H' E0)
    (match (yR yj).getLast? with
     | some (.Return (some (.Call _ _ [⟨_,.Lambda _ b _ _,_⟩] _)) _)=>b
     | _=>.Constant .none 0 ⟨0,0,0,0⟩) t ∧
    t (start ["each"] [.ref z.1]) H' fun v H2=>∃ p,v=.ref p∧H' p=none∧H2=upd H' p (.tup [.int z.2.length,.ref z.1]):=by
   intro f' c' s' H' z hz'
   refine⟨_,(vh (zf (zz (tK K) (by rfl) T.n_len PySem.boot_len (zf (pv 0) zm)) (zf (pv 0) zm))),?_⟩
   refine⟨_,rfl,z.1,_,rfl,.inl (SqL.of hz'),_,rfl,(by show 2≤sizeLine;decide),fun p hp=>⟨p,rfl,hp,?_⟩⟩
   rw [List.length_map]
  refine Exists.elim (?key:∃ t,PSs (Ys CX0 P w K mg base ["bad","found","stretch","size","stand"] "stands_of" (zq yj) f (.ref c) A outer s H E).nox (yR yj) t∧t { nx:=fun _ H'=>Q .non H',rt:=Q } (start ["bad","found","stretch","size","stand"] [.ref bl]) H) fun t h=>⟨t,h.1.nox,h.2⟩
  refine⟨_,(zp (zG (i:=1) vJ.nd rfl (Or.inl rfl) (zJ (zf (zJ zm) zm)))
   (zp (qm PassesOwn.never rfl (jJ K (pv 0)) (zL (i:=2) vJ.nd rfl (Or.inl rfl))
    (zx (qm PassesOwn.never rfl (Um rfl T.n_range (zf zr (zf (zz (tK K) (by rfl) T.n_len PySem.boot_len (zf (pv 2) zm)) zm))) (zL (i:=3) vJ.nd rfl (Or.inl rfl))
     (zp (zG (i:=4) vJ.nd rfl (Or.inl rfl) (ww (ZD K) (pv 2) uG (vf (pv 3))))
     (zx (xU (PW.pt (W3 (zM (YF K HU) (pv 4) (pv 1) (by with_unfolding_all rfl)) (YX (vq (zP xq xQ (hr.mono (by decide)) (zf (pv 0) (zf (pv 4) zm)))))))
      (zx (vd (ZC PySem.F.plainAttrs_list PySem.F.slot_list_append PySem.F.type_list_append qb (pv 1) (zf (pv 4) zm))))
      yl))))))
   (zx (zH (J9 (k:=1) (pv 1) rfl T.n_sorted (hr.mono (by decide)) rfl rfl rfl hcT hBM hgT zeI (fun _ _ _ _=>rfl) lam_body))))),?_⟩
  have hls:∀ st∈zs.map (·.2),st≠[]∧st.length≤4:=fun st h=>by obtain⟨z,hz,rfl⟩:=List.mem_map.mp h;exact hst z hz
  refine⟨(by decide:0≤sizeLine),fun e0 he0=>⟨(by show 1≤sizeLine;decide),fun fo hfo=>?_⟩⟩
  have hfoH:H fo=none:=(zj he0).free hfo
  have nef:e0≠fo:=fun z=>by rw [← z,zg] at hfo;cases hfo
  let Inv1:List (Addr×List Int)->(List Int->Prop)->Hp->Prop:=fun ws M H2=>H2 fo=some (.lst (ws.map fun z=>V.ref z.1))∧(∀ z∈ws,H z.1=none∧H2 z.1=some (.lst (z.2.map V.int))∧z.1≠fo)∧(ws.map (·.2)).Nodup∧(∀ x,x∈ws.map (·.2)↔M x)∧Same H H2
  let M1:Nat->List Int->Prop:=fun i x=>x=[]∨∃ z∈zs.take i,∃ k,1≤k∧k<z.2.length∧x=z.2.take k∧lacks (zs.map (·.2)) x=true
  refine⟨_,rfl,bl,rfl,⟨_,SqL.of ((zj he0).trans (zj hfo) _ _ hb)⟩,Jv (K:=K) (a:=bl) (xs:=zs.map fun z=>V.ref z.1) (fun i σ H2=>∃ (v2 v3 v4:Option V) (ws:List (Addr×List Int)),σ=[some (.ref bl),some (.ref fo),v2,v3,v4]∧Inv1 ws (M1 i) H2∧ws.length≤1+3*i)
   ⟨none,none,none,[(e0,[])],rfl,⟨zg,fun z hz'=>?_,by simp,fun x=>?_,(zj he0).trans (zj hfo)⟩,by simp⟩ (fun i σ H2 _ ⟨_,_,_,_,_,⟨_,_,_,_,e⟩,_⟩=>SqL.of (e _ _ hb)) ?_ ?_⟩
  ·have e:z=(e0,[]):=by simpa using hz'
   subst e
   exact⟨he0,by rw [zu nef,zg];rfl,nef⟩
  ·constructor
   ·intro hx
    exact .inl (by simpa using hx)
   ·rintro (rfl | ⟨z,hz',_⟩)
    ·simp
    ·simp at hz'
  ·rintro i x σ H2 hx ⟨v2,v3,v4,ws,rfl,⟨hF,hW,ndW,hM,sm⟩,hlen⟩
   rw [List.getElem?_map] at hx
   obtain⟨z,hzj,e⟩:=Option.map_eq_some_iff.mp hx
   subst e
   have hzm:=List.mem_of_getElem? hzj
   have hi4:i<zs.length:=(List.getElem?_eq_some_iff.mp hzj).1
   obtain⟨hne,hz4⟩:=hst z hzm
   have hpos:0<z.2.length:=List.length_pos_iff.mpr hne
   refine⟨_,rfl,z.1,_,rfl,.inl (SqL.of (sm _ _ (hz z hzm))),1,_,rfl,?_,?_⟩
   ·rw [List.length_map];omega
   rw [List.length_map]
   refine vB (lo:=1) (n:=((z.2.length:Int)-1).toNat) (fun j σ H3=>∃ (v3 v4:Option V) (ws:List (Addr×List Int)),σ=[some (.ref bl),some (.ref fo),some (.ref z.1),v3,v4]∧Inv1 ws (fun x=>M1 i x∨∃ k,1≤k∧k≤j∧x=z.2.take k∧lacks (zs.map (·.2)) x=true) H3∧ws.length≤1+3*i+j)
    ⟨_,_,ws,rfl,⟨hF,hW,ndW,fun x=>?_,sm⟩,hlen⟩ ?_ ?_
   ·rw [hM]
    constructor
    ·exact .inl
    ·rintro (h | ⟨k,h1,h2,_⟩)
     ·exact h
     ·omega
   ·rintro j σ H3 hj ⟨v3,v4,ws,rfl,⟨hF,hW,ndW,hM,sm⟩,hlen⟩
    have hj':j+1<z.2.length:=by omega
    refine⟨_,rfl,_,rfl,_,rfl,z.1,_,rfl,SqL.of (sm _ _ (hz z hzm)),fun p hp=>?_⟩
    rw [show (1:Int)+(j:Int)=((j+1:Nat):Int) by omega,ZR,← List.map_take]
    have sm2:=sm.trans (zj hp (o:=.lst ((z.2.take (j+1)).map V.int)))
    have hF2:(upd H3 p (.lst ((z.2.take (j+1)).map V.int))) fo=some (.lst (ws.map fun z=>V.ref z.1)):=zj hp _ _ hF
    have hW2:∀ y∈ws,H y.1=none∧(upd H3 p (.lst ((z.2.take (j+1)).map V.int))) y.1=some (.lst (y.2.map V.int))∧y.1≠fo:=fun y hy=>⟨(hW y hy).1,zj hp _ _ (hW y hy).2.1,(hW y hy).2.2⟩
    have npf:p≠fo:=fun y=>by rw [y,hF] at hp;cases hp
    have hpH:H p=none:=sm.free hp
    generalize hx:z.2.take (j+1)=x at *
    have hxl:x.length≤4:=by rw [← hx,List.length_take];omega
    have stay:(x∈ws.map (·.2)∨lacks (zs.map (·.2)) x=false)->∀ y,y∈ws.map (·.2)↔(M1 i y∨∃ k,1≤k∧k≤j+1∧y=z.2.take k∧lacks (zs.map (·.2)) y=true):=fun hor y=>by
     constructor
     ·intro hy
      rcases (hM y).mp hy with h | ⟨k,h1,h2,h3⟩
      ·exact .inl h
      ·exact .inr ⟨k,h1,by omega,h3⟩
     ·rintro (h | ⟨k,h1,h2,h3,h4⟩)
      ·exact (hM y).mpr (.inl h)
      ·by_cases hk:k≤j
       ·exact (hM y).mpr (.inr ⟨k,h1,hk,h3,h4⟩)
       ·have:k=j+1:=by omega
        rw [this,hx] at h3
        rw [h3] at h4 ⊢
        rcases hor with h | h
        ·exact h
        ·rw [h] at h4;cases h4
    refine⟨_,rfl,_,rfl,fo,_,(ws.map (·.2)).map yF,yF x,rfl,SqL.of hF2,TrsAt.lists (fun y hy=>(hW2 y hy).2.1),TrAt.ints (a:=p) (SqL.of zg),Nat.le_trans (xO _) (by decide),_,rfl,?_⟩
    rw [if_pos rfl,ZZ]
    by_cases hin:x∈ws.map (·.2)
    ·rw [decide_eq_true hin]
     refine xj ?_
     exact xj ⟨_,_,ws,rfl,⟨hF2,hW2,ndW,stay (.inl hin),sm2⟩,by omega⟩
    ·rw [decide_eq_false hin]
     refine wI ?_
     refine⟨_,rfl,_,rfl,bl,p,zs,x,rfl,sm2 _ _ hb,fun y hy=>sm2 _ _ (hz y hy),zg,by omega,by omega,fun y hy=>⟨(hst y hy).1,Nat.le_trans (hst y hy).2 (by decide)⟩,fun H4 s4=>⟨_,rfl,?_⟩⟩
     have sm4:=sm2.trans s4
     have hF4:=s4 _ _ hF2
     have hW4:∀ y∈ws,H y.1=none∧H4 y.1=some (.lst (y.2.map V.int))∧y.1≠fo:=fun y hy=>⟨(hW2 y hy).1,s4 _ _ (hW2 y hy).2.1,(hW2 y hy).2.2⟩
     have hp4:=s4 _ _ (zg (H:=H3) (a:=p) (o:=.lst (x.map V.int)))
     cases hLk:lacks (zs.map (·.2)) x with
     | false=>exact xj ⟨_,_,ws,rfl,⟨hF4,hW4,ndW,stay (.inr hLk),sm4⟩,by omega⟩
     | true =>
      refine wI ⟨_,rfl,.inl ⟨rfl,_,SqL.of hF4⟩,_,rfl,fo,_,_,rfl,rfl,hF4,by rw [List.length_map];exact Nat.lt_of_le_of_lt (show ws.length≤100 by omega) (by decide),?_⟩
      refine⟨_,_,ws++[(p,x)],rfl,⟨by rw [zg,List.map_append];rfl,fun y hy=>?_,?_,fun y=>?_,zcW sm4 hfoH⟩,by rw [List.length_append,List.length_singleton];omega⟩
      ·rcases List.mem_append.mp hy with hy | hy
       ·obtain⟨a1,a2,a3⟩:=hW4 y hy
        exact⟨a1,by rw [zu a3];exact a2,a3⟩
       ·rw [List.mem_singleton.mp hy]
        exact⟨hpH,by rw [zu npf];exact hp4,npf⟩
      ·rw [List.map_append]
       refine List.nodup_append.mpr ⟨ndW,by simp,fun a ha b hb'=>?_⟩
       have e:b=x:=by simpa using hb'
       rw [e]
       exact fun q=>hin (q▸ha)
      ·rw [List.map_append,List.mem_append]
       constructor
       ·rintro (h | h)
        ·rcases (hM y).mp h with h | ⟨k,h1,h2,h3⟩
         ·exact .inl h
         ·exact .inr ⟨k,h1,by omega,h3⟩
        ·have e:y=x:=by simpa using h
         rw [e]
         exact .inr ⟨j+1,by omega,Nat.le_refl _,hx.symm,hLk⟩
       ·rintro (h | ⟨k,h1,h2,h3,h4⟩)
        ·exact .inl ((hM y).mpr (.inl h))
        ·by_cases hk:k≤j
         ·exact .inl ((hM y).mpr (.inr ⟨k,h1,hk,h3,h4⟩))
         ·have:k=j+1:=by omega
          rw [this,hx] at h3
          exact .inr (by simp [h3])
   ·rintro σ H3 ⟨v3,v4,ws,rfl,⟨hF,hW,ndW,hM,sm⟩,hlen⟩
    refine⟨_,_,_,ws,rfl,⟨hF,hW,ndW,fun x=>?_,sm⟩,by omega⟩
    rw [hM]
    constructor
    ·rintro ((h | ⟨y,hy,h⟩) | ⟨k,h1,h2,h3⟩)
     ·exact .inl h
     ·exact .inr ⟨y,by rw [List.take_succ];exact List.mem_append_left _ hy,h⟩
     ·exact .inr ⟨z,by rw [List.take_succ,hzj];simp,k,h1,by omega,h3⟩
    ·rintro (h | ⟨y,hy,k,h1,h2,h3⟩)
     ·exact .inl (.inl h)
     ·rw [List.take_succ,hzj] at hy
      rcases List.mem_append.mp hy with hy | hy
      ·exact .inl (.inr ⟨y,hy,k,h1,h2,h3⟩)
      ·have e:y=z:=by simpa using hy
       rw [e] at h2 h3
       exact .inr ⟨k,h1,by omega,h3⟩
  ·rintro σ H2 ⟨v2,v3,v4,ws,rfl,⟨hF,hW,ndW,hM,sm⟩,hlen⟩
   rw [List.length_map] at hM hlen
   refine⟨_,rfl,fo,ws,rfl,hF,fun z hz'=>(hW z hz').2.1,ndW,by omega,hLT.same sm,fun D ws' H3 hD hD3 up lt pm pw=>?_⟩
   have lt2:=hLT.same sm
   have inw:∀ z∈ws',z∈ws:=fun z hz'=>pm.mem_iff.mp hz'
   refine kk D ws' _ (sm.free hD) zg (fun z hz'=>?_) ⟨fun x=>?_,by rw [List.pairwise_map];exact pw⟩ (by rw [pm.length_eq];omega) (fun b u hb' e=>?_) ?_
   ·obtain⟨a1,a2,a3⟩:=hW z (inw z hz')
    have n1:z.1≠D:=zy a2 hD
    exact⟨a1,by rw [zu n1];exact up _ _ (lt2.lst a2) a2,n1⟩
   ·have e:x∈ws'.map (·.2)↔x∈ws.map (·.2):=(pm.map (·.2)).mem_iff
    rw [e,hM]
    show (x=[]∨_)↔(x=[]∨_)
    constructor
    ·rintro (h | ⟨z,hz',k,h1,h2,h3,h4⟩)
     ·exact .inl h
     ·rw [List.take_length] at hz'
      exact .inr ⟨z.2,List.mem_map.mpr ⟨z,hz',rfl⟩,k,h1,h2,h3,h4⟩
    ·rintro (h | ⟨st,hst',k,h1,h2,h3,h4⟩)
     ·exact .inl h
     ·obtain⟨z,hz',rfl⟩:=List.mem_map.mp hst'
      exact .inr ⟨z,by rw [List.take_length];exact hz',k,h1,h2,h3,h4⟩
   ·have q:=up b u hb' (sm _ _ e)
    rw [zu (zy q hD3)];exact q
   ·exact LT.same (show LT T0 H3 from lt) (zj hD3)
end
section
variable {P:Program} {w:World} {K:PySem.W.Frag} {mg:Str->Option Value} {base:Heap} {T0:Addr}
def plc (ls ws:List (List Int)) (fs:List Int):V:=if lacks ls fs=true then .int ((ws.idxOf (zA ls fs):Nat):Int) else .non
theorem j9 {x:List Int}:∀ {xs:List (List Int)} {m:Nat},m<xs.idxOf x->∀ h:m<xs.length,xs[m]≠x
 | [],m,h,h'=>by simp at h'
 | y :: ys,m,h,h'=>by
  rw [List.idxOf_cons] at h
  by_cases e:y=x
  ·subst e;simp at h
  ·have e':(y == x)=false:=by simpa using e
   rw [e'] at h
   cases m with
   | zero=>simpa using e
   | succ m=>simpa using j9 (x:=x) (xs:=ys) (m:=m) (by simpa using h) (by simpa using h')
def tE:Sp:=fun vs H Q _=>∃ (bl Dd fa:Addr) (zs ws:List (Addr×List Int)) (fs:List Int),vs=[.ref bl,.ref Dd,.ref fa]∧H bl=some (.lst (zs.map fun z=>V.ref z.1))∧(∀ z∈zs,H z.1=some (.lst (z.2.map V.int)))∧H Dd=some (.lst (ws.map fun z=>V.ref z.1))∧(∀ z∈ws,H z.1=some (.lst (z.2.map V.int)))∧H fa=some (.lst (fs.map V.int))∧zs.length≤4∧ws.length≤13∧fs.length≤1000∧(∀ z∈zs,z.2≠[]∧z.2.length≤4) ∧
 (lacks (zs.map (·.2)) fs=true->zA (zs.map (·.2)) fs∈ws.map (·.2))∧∀ H',Same H H'->Q (plc (zs.map (·.2)) (ws.map (·.2)) fs) H'
theorem Za:zF ["bad","stands","figures","stand"] ["bad","stands","figures"] (zq vN):=⟨rfl,rfl,rfl,by decide +kernel,rfl,by decide +kernel,by decide +kernel⟩
theorem Wk {f f1:Addr} {fd fd1:FuncData} (D:Df K mg "place_behind" vN ["bad","stands","figures"] f fd) (uh:Df K mg "longest_stand" vg ["bad","figures"] f1 fd1) (qI:FnOk P w K mg base CX0 3 f1 fd1 ["bad","figures"] uq):FnOk P w K mg base CX0 4 f fd ["bad","stands","figures"] tE:=by
 refine D.fn.ok Za (fun vs H Q E h=>?_) (fun cdv A outer s H vs Q E hr h=>?_)
 ·obtain⟨bl,Dd,fa,zs,ws,fs,rfl,_⟩:=h;rfl
 ·obtain⟨bl,Dd,fa,zs,ws,fs,rfl,hb,hz,hD,hw,hf,h4,h13,hl,hst,hin,kk⟩:=h
  have HU:=Xe hr
  refine⟨_,(zp (zG (i:=3) Za.nd rfl (Or.inl rfl) (zP uh qI (hr.mono (by decide)) (zf (pv 0) (zf (pv 2) zm))))
   (zp (xU (zM zeZ (pv 3) uo (zU _))
    (zx (zH uo))
    yl)
   (zx (zH (ZC PySem.F.plainAttrs_list PySem.F.slot_list_index PySem.F.type_list_index (zb4 K HU) (pv 1) (zf (pv 3) zm)))))),?_⟩
  refine⟨_,rfl,_,rfl,bl,fa,zs,fs,rfl,hb,hz,hf,by omega,hl,fun z hz=>⟨(hst z hz).1,Nat.le_trans (hst z hz).2 (by decide)⟩,fun v H1 sv s1=>?_⟩
  have q:=kk H1 s1
  unfold plc at q
  rcases sv with ⟨hL,rfl⟩ | ⟨hL,l,rfl,hn,hv⟩
  ·rw [hL,if_neg (by decide)] at q
   exact⟨_,rfl,rfl,_,rfl,wI q⟩
  ·rw [if_pos hL] at q
   have hm:=hin hL
   have hlt:=List.idxOf_lt_length_iff.mpr hm
   refine⟨_,rfl,rfl,_,rfl,xj ?_⟩
   refine⟨_,rfl,.inl ⟨rfl,_,SqL.of (s1 _ _ hD)⟩,_,rfl,Dd,_,_,(ws.map (·.2)).map yF,yF (zA (zs.map (·.2)) fs),(ws.map (·.2)).idxOf (zA (zs.map (·.2)) fs),rfl,rfl,SqL.of (s1 _ _ hD),TrsAt.lists (fun z hz=>s1 _ _ (hw z hz)),TrAt.ints (a:=l) (SqL.of hv),Nat.le_trans (xO _) (by decide),by rw [List.length_map];exact hlt,?_,?_,q⟩
   ·intro t ht
    rw [List.getElem?_map,List.getElem?_eq_getElem hlt,Option.map_some] at ht
    rw [← Option.some.inj ht,List.getElem_idxOf hlt,uR,decide_eq_true rfl]
   ·intro m t hm' ht
    rw [List.getElem?_map,List.getElem?_eq_getElem (Nat.lt_trans hm' hlt),Option.map_some] at ht
    rw [← Option.some.inj ht,uR,decide_eq_false]
    intro e
    have q3:=j9 hm' (Nat.lt_trans hm' hlt)
    exact q3 e
def Wg (ls ws:List (List Int)) (b:Nat) (x:List Int):List V:=(List.range b).map fun (c:Nat)=>plc ls ws (x++[(c:Int)])
def jq:Sp:=fun vs H Q _=>∃ (r:Addr) (b:Nat) (bl:Addr) (zs:List (Addr×List Int)) (Dd:Addr) (ws:List (Addr×List Int)) (sa:Addr) (xs:List Int),vs=[.ref r,.ref Dd,.ref sa]∧RuleAt H r b bl zs∧zO b (zs.map (·.2))∧H Dd=some (.lst (ws.map fun z=>V.ref z.1))∧(∀ z∈ws,H z.1=some (.lst (z.2.map V.int)))∧StandsL (zs.map (·.2)) (ws.map (·.2))∧ws.length≤13∧H sa=some (.lst (xs.map V.int))∧xs.length≤100 ∧
 ∀ p H',H p=none->Same H H'->H' p=some (.lst (Wg (zs.map (·.2)) (ws.map (·.2)) b xs))->Q (.ref p) H'
theorem V9:zF ["rule","stands","stand"] ["rule","stands","stand"] (zq ue):=⟨rfl,rfl,rfl,by decide +kernel,rfl,by decide +kernel,by decide +kernel⟩
theorem VR {f f1:Addr} {fd fd1:FuncData} (D:Df K mg "steps_from" ue ["rule","stands","stand"] f fd) (uF:Df K mg "place_behind" vN ["bad","stands","figures"] f1 fd1) (jl:FnOk P w K mg base CX0 4 f1 fd1 ["bad","stands","figures"] tE) (T:Blt mg):FnOk P w K mg base CX0 5 f fd ["rule","stands","stand"] jq:=by
 refine D.fn.ok V9 (fun vs H Q E h=>?_) (fun cdv A outer s H vs Q E hr h=>?_)
 ·obtain⟨r,b,bl,zs,Dd,ws,sa,xs,rfl,_⟩:=h;rfl
 ·obtain⟨r,b,bl,zs,Dd,ws,sa,xs,rfl,R,g,hD,hw,SL,h13,hs,hl,kk⟩:=h
  have h4:zs.length≤4:=by have:=g.len;rwa [List.length_map] at this
  have ne:∀ l∈zs.map (·.2),l≠[]:=fun l hl=>(g.st l hl).ne
  refine⟨_,(zx (zH (wJ (show CScope (zq ue) _ "figure" ["rule","stands","stand"] ["stands","rule","stand"] [1,0,2] from ⟨rfl,by decide +kernel,by decide +kernel,rfl,by decide +kernel,rfl,by decide +kernel,by decide +kernel⟩) rfl (yE rfl T.n_range (zf (ym (j5 K) (pv 0) zr (fun _ _=>rfl)) zm)) (fun _ _ _ _=>yG) (fun _ _ _ _=>(zP uF jl (hr.mono (by decide)) (zf (ym (j5 K) (pv 2) zr (fun _ _=>rfl)) (zf (pv 1) (zf (zQ qC (pv 3) (zJ (zf (pv 0) zm))) zm)))))))),?_⟩
  have b16:=g.b16
  refine⟨_,rfl,r,_,_,V.int b,rfl,rfl,SqT.of R.tu,rfl,(b:Int),rfl,by omega,by omega,xR (lo:=0) (n:=(b:Int).toNat) (fun i ys H4=>ys=Wg (zs.map (·.2)) (ws.map (·.2)) i xs∧Same H H4) ⟨rfl,Same.refl _⟩ ?_ ?_⟩
  ·rintro i ys H4 hi ⟨rfl,s4⟩
   have hi':i<b:=by omega
   refine⟨?_,?_⟩
   ·unfold Wg
    rw [List.length_map,List.length_range]
    exact Nat.lt_of_lt_of_le (show i<16 by omega) (by decide)
   unfold qP
   dsimp only
   rw [if_pos rfl]
   have R4:=R.same s4
   have hs4:=s4 _ _ hs
   refine⟨_,rfl,r,_,_,V.ref bl,rfl,rfl,SqT.of R4.tu,rfl,_,rfl,_,rfl,_,rfl,(by show 1≤sizeLine;decide),fun p1 q1=>?_⟩
   have n1:sa≠p1:=zy hs4 q1
   refine⟨sa,p1,_,_,rfl,rfl,by rw [zu n1];exact hs4,zg,by rw [List.length_map];exact Nat.le_trans (show xs.length+1≤101 by omega) (by decide),fun p2 q2=>?_⟩
   have t2:=s4.trans ((zj q1 (o:=.lst [V.int (0+(i:Int))])).trans (zj q2 (o:=.lst (xs.map V.int++[V.int (0+(i:Int))]))))
   have R5:=R.same t2
   refine⟨bl,Dd,p2,zs,ws,xs++[0+(i:Int)],rfl,R5.li,R5.st,t2 _ _ hD,fun z hz=>t2 _ _ (hw z hz),by rw [zg,List.map_append];rfl,h4,h13,by rw [List.length_append,List.length_singleton];omega,fun z hz=>⟨(g.st _ (List.mem_map.mpr ⟨z,hz,rfl⟩)).ne,(g.st _ (List.mem_map.mpr ⟨z,hz,rfl⟩)).len⟩,fun h=>(SL.mem _).mpr (uA ne h),fun H5 s5=>⟨?_,t2.trans s5⟩⟩
   unfold Wg
   rw [List.range_succ,List.map_append,Int.zero_add]
   rfl
  ·rintro ys H4 ⟨rfl,s4⟩ p hp
   refine kk p _ (s4.free hp) (s4.trans (zj hp)) ?_
   rw [zg,Int.toNat_natCast]
def WK (ls ws:List (List Int)) (b:Nat):List (List V):=ws.map (Wg ls ws b)++[V.int (ws.length:Nat) :: (Wg ls ws b []).drop 1]
def jN:Sp:=fun vs H Q _=>∃ (r:Addr) (b:Nat) (bl:Addr) (zs:List (Addr×List Int)) (Dd:Addr) (ws:List (Addr×List Int)),vs=[.ref r,.ref Dd]∧RuleAt H r b bl zs∧zO b (zs.map (·.2))∧H Dd=some (.lst (ws.map fun z=>V.ref z.1))∧(∀ z∈ws,H z.1=some (.lst (z.2.map V.int)))∧StandsL (zs.map (·.2)) (ws.map (·.2))∧ws.length≤13 ∧
 ∀ (p:Addr) (rs:List (Addr×List V)) (H':Hp),H p=none->Same H H'->H' p=some (.lst (rs.map fun z=>V.ref z.1))->(∀ z∈rs,H z.1=none∧H' z.1=some (.lst z.2))->rs.map (·.2)=WK (zs.map (·.2)) (ws.map (·.2)) b->Q (.ref p) H'
theorem Y7:zF ["rule","stands","steps"] ["rule","stands"] (zq uT):=⟨rfl,rfl,rfl,by decide +kernel,rfl,by decide +kernel,by decide +kernel⟩
theorem QH {f f1:Addr} {fd fd1:FuncData} (D:Df K mg "all_steps" uT ["rule","stands"] f fd) (qT:Df K mg "steps_from" ue ["rule","stands","stand"] f1 fd1) (Zg:FnOk P w K mg base CX0 5 f1 fd1 ["rule","stands","stand"] jq) (T:Blt mg):FnOk P w K mg base CX0 6 f fd ["rule","stands"] jN:=by
 refine D.fn.ok Y7 (fun vs H Q E h=>?_) (fun cdv A outer s H vs Q E hr h=>?_)
 ·obtain⟨r,b,bl,zs,Dd,ws,rfl,_⟩:=h;rfl
 ·obtain⟨r,b,bl,zs,Dd,ws,rfl,R,g,hD,hw,SL,h13,kk⟩:=h
  have l3:∀ z∈ws,z.2.length≤3:=fun z hz=>QZ (fun st h=>(g.st st h).len) ((SL.mem _).mp (List.mem_map.mpr ⟨z,hz,rfl⟩))
  obtain⟨w1,hw1⟩:=SL.first
  refine⟨_,(zp (qi (i:=2) (show CScope (zq uT) _ "stand" ["rule","stands","steps"] ["rule","stands"] [0,1] from ⟨rfl,by decide +kernel,by decide +kernel,rfl,by decide +kernel,rfl,by decide +kernel,by decide +kernel⟩) rfl Y7.nd rfl (Or.inl rfl) (jJ K (pv 1)) (fun _ _ _ _=>yG) (fun _ _ _ _=>(zP qT Zg (hr.mono (by decide)) (zf (pv 1) (zf (pv 2) (zf (pv 0) zm))))))
   (zx (zH (zQ qC (pv 2) (zJ (zf (zQ qC (zJ (zf (zz (tK K) (by rfl) T.n_len PySem.boot_len (zf (pv 1) zm)) zm)) (ww (ZD K) (ym (uN K) (pv 2) zr (fun _ _=>rfl)) (vf zr) uG)) zm)))))),?_⟩
  refine⟨_,rfl,Dd,rfl,⟨_,SqL.of hD⟩,wL (K:=K) (a:=Dd) (xs:=ws.map fun z=>V.ref z.1) (fun i ys H4=>∃ rs:List (Addr×List V),ys=(rs.map fun z=>V.ref z.1)∧(∀ z∈rs,H z.1=none∧H4 z.1=some (.lst z.2))∧rs.map (·.2)=(ws.take i).map (fun z=>Wg (zs.map (·.2)) (ws.map (·.2)) b z.2)∧Same H H4) ⟨[],rfl,fun z hz=>(by cases hz),rfl,Same.refl _⟩ (fun i ys H4 _ ⟨_,_,_,_,e⟩=>SqL.of (e _ _ hD)) ?_ ?_⟩
  ·rintro j x ys H4 hx ⟨rs,rfl,hrs,hr2,s4⟩
   rw [List.getElem?_map] at hx
   obtain⟨z,hzj,e⟩:=Option.map_eq_some_iff.mp hx
   subst e
   have hzm:=List.mem_of_getElem? hzj
   refine⟨?_,?_⟩
   ·have e1:=congrArg List.length hr2
    rw [List.length_map,List.length_map,List.length_take] at e1
    rw [List.length_map,e1]
    exact Nat.lt_of_le_of_lt (Nat.le_trans (Nat.min_le_right _ _) h13) (by decide)
   unfold qP
   dsimp only
   rw [if_pos rfl]
   refine⟨_,rfl,_,rfl,_,rfl,r,b,bl,zs,Dd,ws,z.1,z.2,rfl,R.same s4,g,s4 _ _ hD,fun z hz=>s4 _ _ (hw z hz),SL,h13,s4 _ _ (hw z hzm),Nat.le_trans (l3 z hzm) (by decide),fun p H5 hp s5 hv=>?_⟩
   refine⟨rs++[(p,Wg (zs.map (·.2)) (ws.map (·.2)) b z.2)],by simp,fun y hy=>?_,?_,s4.trans s5⟩
   ·rcases List.mem_append.mp hy with h | h
    ·exact⟨(hrs y h).1,s5 _ _ (hrs y h).2⟩
    ·rw [List.mem_singleton] at h
     subst h
     exact⟨s4.free hp,hv⟩
   ·rw [List.map_append,hr2,List.take_succ,hzj]
    simp
  ·rintro ys H4 ⟨rs,rfl,hrs,hr2,s4⟩ p hp
   have hl2:=congrArg List.length hr2
   rw [List.length_map,List.take_length] at hr2
   rw [List.length_map,List.length_map,List.length_take,List.length_map,Nat.min_self] at hl2
   obtain⟨w0,ws',rfl⟩:∃ w0 ws',ws=w0 :: ws':=by
    cases ws with
    | nil=>simp at hw1
    | cons a b=>exact⟨a,b,rfl⟩
   have hw0:w0.2=[]:=by
    rw [List.map_cons] at hw1
    exact (List.cons.inj hw1).1
   obtain⟨r0,rs',rfl⟩:∃ r0 rs',rs=r0 :: rs':=by
    cases rs with
    | nil=>simp at hl2
    | cons a b=>exact⟨a,b,rfl⟩
   have hr0:r0.2=Wg (zs.map (·.2)) ((w0 :: ws').map (·.2)) b []:=by
    have e:=(List.cons.inj hr2).1
    rw [← hw0]
    exact e
   have t4:=s4.trans (zj hp (o:=.lst ((r0 :: rs').map fun z=>V.ref z.1)))
   have hr04:∀ z∈r0 :: rs',upd H4 p (.lst ((r0 :: rs').map fun z=>V.ref z.1)) z.1=some (.lst z.2):=fun z hz=>zj hp _ _ (hrs z hz).2
   refine⟨_,rfl,_,rfl,Dd,_,rfl,.inl (SqL.of (t4 _ _ hD)),(by show 1≤sizeLine;decide),fun p1 q1=>?_⟩
   have u1:=zj q1 (o:=.lst [V.int (((w0 :: ws').map fun z=>V.ref z.1).length:Nat)])
   refine⟨_,rfl,p,_,_,V.ref r0.1,rfl,rfl,SqL.of (u1 _ _ zg),ug (j:=0) rfl,_,rfl,r0.1,_,rfl,SqL.of (u1 _ _ (hr04 r0 List.mem_cons_self)),fun p2 q2=>?_⟩
   have hb1:r0.2.length≤16:=by
    rw [hr0]
    unfold Wg
    rw [List.length_map,List.length_range]
    exact g.b16
   have u2:=u1.trans (zj q2 (o:=.lst (tR r0.2 (some 1) none)))
   refine⟨p1,p2,_,_,rfl,rfl,zj q2 _ _ zg,zg,?_,fun p3 q3=>?_⟩
   ·rw [show (1:Int)=((1:Nat):Int) from rfl,uB,List.length_drop,List.length_singleton]
    exact Nat.le_trans (show 1+(r0.2.length-1)≤100 by omega) (by decide)
   have ev:([V.int (((w0 :: ws').map fun z=>V.ref z.1).length:Nat)]++tR r0.2 (some 1) none)=V.int (((w0 :: ws').map (·.2)).length:Nat) :: (Wg (zs.map (·.2)) ((w0 :: ws').map (·.2)) b []).drop 1:=by
    rw [show (1:Int)=((1:Nat):Int) from rfl,uB,hr0,List.length_map,List.length_map]
    rfl
   have u3:=u2.trans (zj q3 (o:=.lst ([V.int (((w0 :: ws').map fun z=>V.ref z.1).length:Nat)]++tR r0.2 (some 1) none)))
   refine⟨(by show 1≤sizeLine;decide),fun p4 q4=>?_⟩
   have u4:=u3.trans (zj q4 (o:=.lst [V.ref p3]))
   refine⟨p,p4,_,_,rfl,rfl,u4 _ _ zg,zg,?_,fun p5 q5=>?_⟩
   ·rw [List.length_map,List.length_singleton]
    exact Nat.le_trans (show (r0 :: rs').length+1≤100 by omega) (by decide)
   have u5:=u4.trans (zj q5 (o:=.lst ((r0 :: rs').map (fun z=>V.ref z.1)++[V.ref p3])))
   refine kk p5 (r0 :: rs'++[(p3,[V.int (((w0 :: ws').map fun z=>V.ref z.1).length:Nat)]++tR r0.2 (some 1) none)]) _ (t4.free (u4.free q5)) (t4.trans u5) ?_ ?_ ?_
   ·rw [zg,List.map_append]
    rfl
   ·intro z hz
    rcases List.mem_append.mp hz with h | h
    ·exact⟨(hrs z h).1,u5 _ _ (hr04 z h)⟩
    ·rw [List.mem_singleton] at h
     subst h
     exact⟨t4.free (u2.free q3),zj q5 _ _ (zj q4 _ _ zg)⟩
   ·rw [List.map_append,hr2,ev]
    unfold WK
    rw [List.map_map]
    rfl
end
structure ClT (K:PySem.W.Frag) (mg:Str->Option Value) (C:Addr):Prop where
 cl:Cls K C
 nm:mg "Tails" = some (.ref C)
 n_base:NoAttr K C "base"
 n_outset:NoAttr K C "outset"
 n_steps:NoAttr K C "steps"
 n_layers:NoAttr K C "layers"
def Y6 (b n:Nat) (sa la:Addr):List (Str×V):=xN "layers" (.ref la) (xN "steps" (.ref sa) (xN "outset" (.int n) (xN "base" (.int b) [])))
theorem Uj (b n:Nat) (sa la:Addr):(Y6 b n sa la).lookup ("base" : Str)=some (.int b):=by
 unfold Y6
 rw [zT,if_neg (by decide +kernel),zT,if_neg (by decide +kernel),zT,if_neg (by decide +kernel),zT,if_pos rfl]
theorem wF (b n:Nat) (sa la:Addr):(Y6 b n sa la).lookup ("outset" : Str)=some (.int n):=by
 unfold Y6
 rw [zT,if_neg (by decide +kernel),zT,if_neg (by decide +kernel),zT,if_pos rfl]
theorem Vt (b n:Nat) (sa la:Addr):(Y6 b n sa la).lookup ("steps" : Str)=some (.ref sa):=by
 unfold Y6
 rw [zT,if_neg (by decide +kernel),zT,if_pos rfl]
theorem je (b n:Nat) (sa la:Addr):(Y6 b n sa la).lookup ("layers" : Str)=some (.ref la):=by
 unfold Y6
 rw [zT,if_pos rfl]
theorem wO (b n:Nat) (sa la:Addr) {m:Str} (h1:¬ m = "layers":=by decide +kernel) (h2:¬ m = "steps":=by decide +kernel) (h3:¬ m = "outset":=by decide +kernel) (h4:¬ m = "base":=by decide +kernel):(Y6 b n sa la).lookup m=none:=by
 unfold Y6
 rw [zT,if_neg h1,zT,if_neg h2,zT,if_neg h3,zT,if_neg h4]
 rfl
def xx (ls ws:List (List Int)) (b t:Nat):List Int:=(ws.map fun x=>((cnt ls b t x:Nat):Int))++[((yt ls b t:Nat):Int)]
def stepV (ls ws:List (List Int)):Option (List Int)->Nat->V
 | some x,c=>plc ls ws (x++[(c:Int)])
 | none,c=>if c=0 then .int (ws.length:Nat) else plc ls ws [(c:Int)]
theorem qN (ls ws:List (List Int)) (c:Nat):stepV ls ws none c=if c=0 then .int (ws.length:Nat) else plc ls ws [(c:Int)]:=rfl
theorem zat (ls:List (List Int)) (b t:Nat) (x:List Int) (c:Nat):Z8 ls b t (some x) c=if lacks ls (x++[(c:Int)])=true then cnt ls b t (zA ls (x++[(c:Int)])) else 0:=rfl
theorem Yi (ls:List (List Int)) (b t:Nat) (c:Nat):Z8 ls b t none c=if c=0 then yt ls b t else if lacks ls [(c:Int)]=true then cnt ls b t (zA ls [(c:Int)]) else 0:=rfl
theorem WX {ls ws:List (List Int)} {b i:Nat} (hb:1≤b) (hi:i≤ws.length):(WK ls ws b)[i]?=some ((List.range b).map (stepV ls ws ws[i]?)):=by
 unfold WK
 by_cases h:i<ws.length
 ·rw [List.getElem?_append_left (by rw [List.length_map];exact h),List.getElem?_map,List.getElem?_eq_getElem h]
  rfl
 ·have e:i=ws.length:=by omega
  subst e
  rw [List.getElem?_append_right (by rw [List.length_map];exact Nat.le_refl _),List.length_map,Nat.sub_self,List.getElem?_eq_none (Nat.le_refl _)]
  show some _=some _
  congr 1
  obtain⟨k,rfl⟩:∃ k,b=k+1:=⟨b-1,by omega⟩
  unfold Wg
  rw [List.range_succ_eq_map,List.map_cons,List.map_cons,List.drop_succ_cons,List.drop_zero]
  rw [List.map_map,List.map_map]
  rfl
structure TailsAt (C:Addr) (H:Hp) (p la:Addr) (b:Nat) (ls ws:List (List Int)) (L:Nat):Prop where
 ob:∃ (dx sa:Addr) (srs:List (Addr×List V)),aw [la] H p=some (.ins C dx (Y6 b ws.length sa la))∧aw [la] H sa=some (.lst (srs.map fun z=>V.ref z.1))∧(∀ z∈srs,aw [la] H z.1=some (.lst z.2))∧srs.map (·.2)=WK ls ws b
 ly:∃ lrs:List (Addr×List Int),H la=some (.lst (lrs.map fun z=>V.ref z.1))∧(∀ z∈lrs,aw [la] H z.1=some (.lst (z.2.map V.int)))∧lrs.map (·.2)=(List.range L).map (xx ls ws b)
 l1:1≤L
structure GoodT (b:Nat) (ls ws:List (List Int)):Prop where
 g:zO b ls
 s:StandsL ls ws
 h13:ws.length≤13
theorem GoodT.ne {b:Nat} {ls ws:List (List Int)} (G:GoodT b ls ws):∀ l∈ls,l≠[]:=fun l hl=>(G.g.st l hl).ne
theorem TailsAt.same {C p la b:Nat} {H H':Hp} {ls ws:List (List Int)} {L:Nat} (A:TailsAt C H p la b ls ws L) (m:Same H H'):TailsAt C H' p la b ls ws L:=by
 obtain⟨dx,sa,srs,h1,h2,h3,h4⟩:=A.ob
 obtain⟨lrs,g1,g2,g3⟩:=A.ly
 have m':=m.aw [la]
 exact⟨⟨dx,sa,srs,m' _ _ h1,m' _ _ h2,fun z hz=>m' _ _ (h3 z hz),h4⟩,⟨lrs,m _ _ g1,fun z hz=>m' _ _ (g2 z hz),g3⟩,A.l1⟩
theorem JQ {ls ws:List (List Int)} {b t:Nat} (G:GoodT b ls ws) {i c:Nat} (hi:i≤ws.length) :
  (stepV ls ws ws[i]? c=.non∧Z8 ls b t ws[i]? c=0)∨∃ j:Nat,stepV ls ws ws[i]? c=.int j∧j≤ws.length∧(xx ls ws b t)[j]?=some ((Z8 ls b t ws[i]? c:Nat):Int):=by
 have at_:∀ fs:List Int,lacks ls fs=true->∃ j:Nat,plc ls ws fs=.int j∧j≤ws.length∧(xx ls ws b t)[j]?=some ((cnt ls b t (zA ls fs):Nat):Int):=by
  intro fs h
  have hm:zA ls fs∈ws:=(G.s.mem _).mpr (uA G.ne h)
  have hlt:=List.idxOf_lt_length_iff.mpr hm
  refine⟨ws.idxOf (zA ls fs),by unfold plc;rw [if_pos h],Nat.le_of_lt hlt,?_⟩
  unfold xx
  rw [List.getElem?_append_left (by rw [List.length_map];exact hlt),List.getElem?_map,List.getElem?_eq_getElem hlt,List.getElem_idxOf hlt]
  rfl
 cases hw:ws[i]? with
 | some x =>
  show (plc ls ws (x++[(c:Int)])=.non∧(if lacks ls (x++[(c:Int)])=true then _ else 0)=0)∨_
  by_cases h:lacks ls (x++[(c:Int)])=true
  ·right
   obtain⟨j,h1,h2,h3⟩:=at_ _ h
   refine⟨j,h1,h2,?_⟩
   rw [h3,zat,if_pos h]
  ·left
   exact⟨by unfold plc;rw [if_neg h],by rw [if_neg h]⟩
 | none =>
  by_cases h0:c=0
  ·right
   refine⟨ws.length,by rw [qN,if_pos h0],Nat.le_refl _,?_⟩
   unfold xx
   rw [Yi,if_pos h0,List.getElem?_append_right (by rw [List.length_map];exact Nat.le_refl _),List.length_map,Nat.sub_self]
   rfl
  ·by_cases h:lacks ls [(c:Int)]=true
   ·right
    obtain⟨j,h1,h2,h3⟩:=at_ _ h
    refine⟨j,by rw [qN,if_neg h0];exact h1,h2,?_⟩
    rw [h3,Yi,if_neg h0,if_pos h]
   ·left
    refine⟨?_,?_⟩
    ·rw [qN,if_neg h0];unfold plc;rw [if_neg h]
    ·rw [Yi,if_neg h0,if_neg h]
theorem Vg {fp:List Addr} {H:Hp} {b:Addr} {o:HO} (h:b∈fp):aw fp (upd H b o)=aw fp H:=by
 funext c
 by_cases hc:c∈fp
 ·rw [Z3 hc,Z3 hc]
 ·rw [yd hc,yd hc,zu (fun z:c=b=>hc (by rw [z];exact h))]
section
variable {P:Program} {w:World} {K:PySem.W.Frag} {mg:Str->Option Value} {base:Heap} {T0 C:Addr}
def jX (C:Addr):Sp:=fun vs H Q _=>∃ (p la:Addr) (b:Nat) (ls ws:List (List Int)) (L t:Nat) (lay:Addr) (i s:Nat),vs=[.ref p,.ref lay,.int i,.int s]∧TailsAt C H p la b ls ws L∧GoodT b ls ws∧H lay=some (.lst ((xx ls ws b t).map V.int))∧i≤ws.length∧s≤b ∧
 ∀ H',Same H H'->Q (.int (under ls b t ws[i]? s:Nat)) H'
theorem Xl:zF ["self","layer","place","stop"] ["self","layer","place","stop"] (zq yL):=⟨rfl,rfl,rfl,by decide +kernel,rfl,by decide +kernel,by decide +kernel⟩
theorem Yt {f:Addr} {fd:FuncData} (D:Mt K C "Tails.many_by" "many_by" yL ["self","layer","place","stop"] f fd) (zB:ClT K mg C) (T:Blt mg) (U:zbT mg):FnOk P w K mg base CX0 1 f fd ["self","layer","place","stop"] (jX C):=by
 refine D.fn.ok Xl (fun vs H Q E h=>?_) (fun cdv A outer s H vs Q E hr h=>?_)
 ·obtain⟨p,la,b,ls,ws,L,t,lay,i,s,rfl,_⟩:=h;rfl
 ·obtain⟨p,la,b,ls,ws,L,t,lay,i,s,rfl,TA,G,hlay,hi,hs,kk⟩:=h
  obtain⟨dx,sa,srs,h1,h2,h3,h4⟩:=TA.ob
  have b16:=G.g.b16
  have b2:=G.g.b2
  refine⟨_,(zx (zH (zz (zfA K rfl) (by rfl) U.n_sum boot_sum (zf (wJ (show CScope (zq yL) _ "behind" ["self","layer","place","stop"] ["layer"] [1] from ⟨rfl,by decide +kernel,by decide +kernel,rfl,by decide +kernel,rfl,by decide +kernel,by decide +kernel⟩) rfl (jJ K (ww (ZD K) (ym (uN K) (qM K (pv 0)) (pv 2) (fun _ _=>rfl)) uG (vf (pv 3)))) (fun _ _ _ _=>(YJ (zM Y4 (pv 0) uo (zU _)))) (fun _ _ _ _=>(ym (uN K) (pv 1) (pv 0) (fun _ _=>rfl)))) zm)))),?_⟩
  have hrow:=WX (ls:=ls) (b:=b) (by omega) hi
  rw [← h4,List.getElem?_map] at hrow
  obtain⟨z,hz,ez⟩:=Option.map_eq_some_iff.mp hrow
  have hzm:=List.mem_of_getElem? hz
  have hz3:=xu _ _ _ _ (h3 z hzm)
  refine⟨_,rfl,p,C,dx,_,_,rfl,xu _ _ _ _ h1,zB.cl,zB.n_steps,Vt _ _ _ _,_,rfl,sa,_,_,V.ref z.1,rfl,rfl,SqL.of (xu _ _ _ _ h2),ug (by rw [List.getElem?_map,hz];rfl),?_⟩
  refine⟨_,rfl,_,rfl,z.1,_,rfl,SqL.of hz3,fun q hq=>?_⟩
  have m1:=zj hq (o:=.lst (tR z.2 none (some (s:Int))))
  have ecut:tR z.2 none (some (s:Int))=(List.range s).map (stepV ls ws ws[i]?):=by
   rw [ZR,ez,← List.map_take,List.take_range,Nat.min_eq_left hs]
  rw [ecut] at m1 ⊢
  refine⟨q,rfl,⟨_,SqL.of zg⟩,wL (K:=K) (a:=q) (xs:=(List.range s).map (stepV ls ws ws[i]?)) (fun k ys H4=>H4=upd H q (.lst ((List.range s).map (stepV ls ws ws[i]?)))∧∃ ms:List Int,ys=ms.map V.int∧ms.length≤k∧ms.sum=((under ls b t ws[i]? k:Nat):Int)) ⟨rfl,[],rfl,Nat.le_refl _,by simp [under]⟩ (fun k ys H4 _ ⟨e,_⟩=>by rw [e];exact SqL.of zg) ?_ ?_⟩
  ·rintro k x ys H4 hx ⟨rfl,ms,rfl,hml,hms⟩
   rw [List.getElem?_map] at hx
   obtain⟨c,hc,e⟩:=Option.map_eq_some_iff.mp hx
   have hk:k<s:=by have:=(List.getElem?_eq_some_iff.mp hc).1;rwa [List.length_range] at this
   have ec:c=k:=by
    rw [List.getElem?_range hk] at hc
    exact (Option.some.inj hc).symm
   subst ec
   subst e
   refine⟨by rw [List.length_map];exact Nat.lt_of_le_of_lt (show ms.length≤16 by omega) (by decide),?_⟩
   have hus:=qK ls b t ws[i]? c
   rcases JQ (t:=t) G (c:=c) hi with ⟨e1,e2⟩ | ⟨j,e1,e2,e3⟩
   ·rw [e1]
    refine⟨_,rfl,rfl,_,rfl,xj ⟨rfl,ms,rfl,by omega,?_⟩⟩
    rw [hus,e2,hms]
    omega
   ·rw [e1]
    refine⟨_,rfl,rfl,_,rfl,wI ?_⟩
    refine⟨_,rfl,_,rfl,lay,_,_,V.int ((Z8 ls b t ws[i]? c:Nat):Int),rfl,rfl,SqL.of (m1 _ _ hlay),ug (by rw [List.getElem?_map,e3];rfl),rfl,ms++[((Z8 ls b t ws[i]? c:Nat):Int)],by simp,by rw [List.length_append,List.length_singleton];omega,?_⟩
    rw [List.sum_append,hms,hus]
    simp
  ·rintro ys H4 ⟨rfl,ms,rfl,hml,hms⟩ Dd hD
   refine⟨Dd,ms,rfl,SqL.of zg,?_⟩
   rw [hms,List.length_map,List.length_range]
   exact kk _ (m1.trans (zj hD))
def TQ (C:Addr) (H:Hp) (p la:Addr) (b:Nat) (ls ws:List (List Int)) (L:Nat) (R:Nat->Hp->Prop):Prop:=∀ (L':Nat) (H':Hp),L≤L'->TailsAt C H' p la b ls ws L'->Same (aw [la] H) (aw [la] H')->R L' H'
def YD (C:Addr):Sp:=fun vs H Q _=>∃ (p la:Addr) (b:Nat) (ls ws:List (List Int)) (L t:Nat),vs=[.ref p,.int t]∧TailsAt C H p la b ls ws L∧GoodT b ls ws∧L≤1000∧t<1000 ∧
 ∀ lay:Addr,TQ C H p la b ls ws L fun L' H'=>L'≤max L (t+1)->aw [la] H' lay=some (.lst ((xx ls ws b t).map V.int))->Q (.ref lay) H'
theorem Zo:zF ["self","left","shorter"] ["self","left"] (zq xY):=⟨rfl,rfl,rfl,by decide +kernel,rfl,by decide +kernel,by decide +kernel⟩
theorem Jq {ls ws:List (List Int)} {b t:Nat}:((List.range (ws.length+1)).map fun i=>((under ls b t ws[i]? b:Nat):Int))=xx ls ws b (t+1):=by
 unfold xx
 apply List.ext_getElem?
 intro i
 rw [List.getElem?_map]
 by_cases h:i<ws.length
 ·rw [List.getElem?_range (by omega),List.getElem?_append_left (by rw [List.length_map];exact h),List.getElem?_map,Option.map_some,List.getElem?_eq_getElem h]
  rfl
 ·by_cases h2:i=ws.length
  ·subst h2
   rw [List.getElem?_range (by omega),List.getElem?_append_right (by rw [List.length_map];exact Nat.le_refl _),List.length_map,Nat.sub_self,Option.map_some,List.getElem?_eq_none (Nat.le_refl _)]
   rfl
  ·rw [List.getElem?_eq_none (by rw [List.length_range];omega),List.getElem?_eq_none (by rw [List.length_append,List.length_map,List.length_singleton];omega)]
   rfl
theorem VD {f f1:Addr} {fd fd1:FuncData} (D:Mt K C "Tails.layer" "layer" xY ["self","left"] f fd) (zN:Mt K C "Tails.many_by" "many_by" yL ["self","layer","place","stop"] f1 fd1) (zB:ClT K mg C) (T:Blt mg) (U:zbT mg):FnOk P w K mg base CX0 2 f fd ["self","left"] (YD C):=by
 have vQ:FnOk P w K mg base CX0 1 f1 fd1 ["self","layer","place","stop"] (jX C):=Yt zN zB T U
 refine D.fn.ok Zo (fun vs H Q E h=>?_) (fun cdv A outer s H vs Q E hr h=>?_)
 ·obtain⟨p,la,b,ls,ws,L,t,rfl,_⟩:=h;rfl
 ·obtain⟨p,la,b,ls,ws,L,t,rfl,TA,G,hL,ht,kk⟩:=h
  have h13:=G.h13
  refine⟨_,(zp (ju PassesOwn.never (zM WN (zz (tK K) (by rfl) T.n_len PySem.boot_len (zf (qM K (pv 0)) zm)) (pv 1) (zU _))
    (zp (zG (i:=2) Zo.nd rfl (Or.inr rfl) (ym (uN K) (qM K (pv 0)) (za6 Qp zr) (fun _ _=>rfl)))
    (zx (vd (ZC PySem.F.plainAttrs_list PySem.F.slot_list_append PySem.F.type_list_append qb (qM K (pv 0)) (zf (wJ (show CScope (zq xY) _ "place" ["self","left","shorter"] ["shorter","self"] [2,0] from ⟨rfl,by decide +kernel,by decide +kernel,rfl,by decide +kernel,rfl,by decide +kernel,by decide +kernel⟩) rfl (yE rfl T.n_range (zf (zQ xn (qM K (pv 0)) zr) zm)) (fun _ _ _ _=>yG) (fun _ _ _ _=>(Zd zN zB.cl vQ (hr.mono (by decide)) (pv 2) (zf (pv 1) (zf (pv 0) (zf (qM K (pv 2)) zm)))))) zm))))))
   (zx (zH (ym (uN K) (qM K (pv 0)) (pv 1) (fun _ _=>rfl))))),?_⟩
  refine Vc (fun σ H2=>∃ (v:Option V) (L':Nat),σ=[some (.ref p),some (.int t),v]∧L≤L'∧L'≤max L (t+1)∧TailsAt C H2 p la b ls ws L'∧Same (aw [la] H) (aw [la] H2))
   (fun σ H2=>match H2 la with | some (.lst xs)=>t+1-xs.length | _=>0) ⟨none,L,rfl,Nat.le_refl _,Nat.le_max_left _ _,TA,Same.refl _⟩ ?_ ?_
  ·rintro σ H2 ⟨v,L',rfl,hLL,hLm,TA2,m2⟩
   obtain⟨dx,sa,srs,h1,h2,h3,h4⟩:=TA2.ob
   obtain⟨lrs,g1,g2,g3⟩:=TA2.ly
   have hl:lrs.length=L':=by have:=congrArg List.length g3;rwa [List.length_map,List.length_map,List.length_range] at this
   have hp:=xu _ _ _ _ h1
   have l1:=TA2.l1
   refine⟨_,rfl,p,C,dx,_,_,rfl,hp,zB.cl,zB.n_layers,je _ _ _ _,la,_,rfl,.inl (SqL.of g1),_,rfl,_,_,rfl,rfl,_,rfl,?_⟩
   rw [List.length_map,hl]
   refine V3 (fun hc=>?_) (fun hc=>?_)
   ·have hc':L'≤t:=by have:=of_decide_eq_true hc;omega
    have hlast:lrs[L'-1]?=some lrs[L'-1]:=List.getElem?_eq_getElem (by omega)
    generalize hz:lrs[L'-1]=z at hlast
    have hzm:z∈lrs:=List.mem_of_getElem? hlast
    have hz2:z.2=xx ls ws b (L'-1):=by
     have e:=congrArg (fun l=>l[L'-1]?) g3
     simp only [List.getElem?_map,hlast,List.getElem?_range (show L'-1<L' by omega),Option.map_some] at e
     exact Option.some.inj e
    have elr:lrs=lrs.take (L'-1)++[z]:=by
     have e:=(List.take_append_drop (L'-1) lrs).symm
     rw [List.drop_eq_getElem_cons (show L'-1<lrs.length by omega),hz,List.drop_of_length_le (by omega)] at e
     exact e
    have eat:atI (lrs.map fun z=>V.ref z.1) (-1)=some (V.ref z.1):=by
     rw [elr,List.map_append]
     exact zcZ _ _
    refine⟨_,rfl,p,C,dx,_,_,rfl,hp,zB.cl,zB.n_layers,je _ _ _ _,_,rfl,la,_,_,V.ref z.1,rfl,rfl,SqL.of g1,eat,?_⟩
    refine⟨_,rfl,p,C,dx,_,_,rfl,hp,zB.cl,zB.n_layers,je _ _ _ _,.inl ⟨rfl,_,SqL.of g1⟩,?_⟩
    refine⟨_,rfl,p,C,dx,_,_,rfl,hp,zB.cl,zB.n_outset,wF _ _ _ _,_,_,rfl,rfl,((ws.length:Int)+1),rfl,by omega,by omega,xR (lo:=0) (n:=((ws.length:Int)+1).toNat) (fun i ys H4=>ys=(((List.range i).map fun i=>((under ls b (L'-1) ws[i]? b:Nat):Int))).map V.int∧Same H2 H4) ⟨rfl,Same.refl _⟩ ?_ ?_⟩
    ·rintro i ys H4 hi ⟨rfl,m4⟩
     refine⟨by rw [List.length_map,List.length_map,List.length_range];exact Nat.lt_of_lt_of_le (show i<20 by omega) (by decide),?_⟩
     unfold qP
     dsimp only
     rw [if_pos rfl]
     have TA4:=TA2.same m4
     have hp4:=m4 _ _ hp
     refine⟨_,rfl,p,dx,_,rfl,hp4,wO _ _ _ _,_,rfl,_,rfl,_,rfl,p,C,dx,_,_,rfl,hp4,zB.cl,zB.n_base,Uj _ _ _ _,?_⟩
     refine⟨p,la,b,ls,ws,L',L'-1,z.1,i,b,by rw [Int.zero_add];rfl,TA4,G,?_,by omega,Nat.le_refl _,fun H5 m5=>⟨?_,m4.trans m5⟩⟩
     ·rw [← hz2];exact m4 _ _ (xu _ _ _ _ (g2 z hzm))
     ·rw [List.range_succ,List.map_append,List.map_append]
      rfl
    rintro ys H4 ⟨rfl,m4⟩ q hq
    rw [show ((ws.length:Int)+1).toNat=ws.length+1 by omega,Jq,show L'-1+1=L' by omega]
    have m5:=zj hq (o:=.lst ((xx ls ws b L').map V.int))
    have gla:=m5 _ _ (m4 _ _ g1)
    have nq:q≠la:=fun e=>by rw [e,m4 _ _ g1] at hq;cases hq
    refine⟨la,_,_,rfl,rfl,gla,by rw [List.length_map,hl];exact Nat.lt_of_le_of_lt (show L'≤1000 by omega) (by decide),?_⟩
    have m25:Same (aw [la] H2) (aw [la] (upd (upd H4 q (.lst ((xx ls ws b L').map V.int))) la (.lst (lrs.map (fun z=>V.ref z.1)++[.ref q])))):=by
     rw [Vg (by simp)]
     exact (m4.trans m5).aw [la]
    refine⟨⟨_,L'+1,rfl,by omega,by omega,⟨⟨dx,sa,srs,m25 _ _ h1,m25 _ _ h2,fun y hy=>m25 _ _ (h3 y hy),h4⟩,⟨lrs++[(q,xx ls ws b L')],by rw [zg];simp,fun y hy=>?_,?_⟩,by omega⟩,m2.trans m25⟩,?_⟩
    ·rcases List.mem_append.mp hy with hy | hy
     ·exact m25 _ _ (g2 y hy)
     ·have e:y=(q,xx ls ws b L'):=by simpa using hy
      subst e
      rw [Vg (by simp),yd (by simp [nq]),zg]
    ·rw [List.map_append,g3,List.range_succ,List.map_append]
     rfl
    ·show (match (upd (upd H4 q (.lst ((xx ls ws b L').map V.int))) la (.lst (lrs.map (fun z=>V.ref z.1)++[.ref q]))) la with | some (.lst xs)=>t+1-xs.length | _=>0)<(match H2 la with | some (.lst xs)=>t+1-xs.length | _=>0)
     rw [zg,g1]
     show t+1-(lrs.map (fun z=>V.ref z.1)++[V.ref q]).length<t+1-(lrs.map fun z=>V.ref z.1).length
     rw [List.length_append,List.length_map,List.length_singleton]
     omega
   ·have hc':t<L':=by
     by_cases z:t<L'
     ·exact z
     ·exact absurd (decide_eq_true (by omega:(L':Int)≤t)) hc
    have hlast:lrs[t]?=some lrs[t]:=List.getElem?_eq_getElem (by omega)
    generalize hz:lrs[t]=z at hlast
    have hzm:z∈lrs:=List.mem_of_getElem? hlast
    have hz2:z.2=xx ls ws b t:=by
     have e:=congrArg (fun l=>l[t]?) g3
     simp only [List.getElem?_map,hlast,List.getElem?_range hc',Option.map_some] at e
     exact Option.some.inj e
    refine⟨_,rfl,p,C,dx,_,_,rfl,hp,zB.cl,zB.n_layers,je _ _ _ _,_,rfl,la,_,_,V.ref z.1,rfl,rfl,SqL.of g1,ug (by rw [List.getElem?_map,hlast];rfl),?_⟩
    exact kk z.1 L' H2 hLL TA2 m2 hLm (by rw [← hz2];exact g2 z hzm)
  ·intro σ H2 Q Q' hq
   rintro⟨v0,e0,a,C',dx,fs,v,h1,h2,h3,h4,h5,p',ys,h6,h7,v1,e1,i,j,e3,e4,k,e5,q⟩
   exact⟨v0,e0,a,C',dx,fs,v,h1,h2,h3,h4,h5,p',ys,h6,h7,v1,e1,i,j,e3,e4,k,e5,hq _ _ q⟩
def uL (C:Addr):Sp:=fun vs H Q _=>∃ (p la:Addr) (b:Nat) (ls ws:List (List Int)) (L i s t:Nat),vs=[.ref p,.int i,.int s,.int t]∧TailsAt C H p la b ls ws L∧GoodT b ls ws∧L≤1000∧t<1000∧i≤ws.length∧s≤b∧TQ C H p la b ls ws L fun L' H'=>L'≤max L (t+1)->Q (.int (under ls b t ws[i]? s:Nat)) H'
theorem Z0:zF ["self","place","stop","left"] ["self","place","stop","left"] (zq yP):=⟨rfl,rfl,rfl,by decide +kernel,rfl,by decide +kernel,by decide +kernel⟩
theorem VV {f f1 f2:Addr} {fd fd1 fd2:FuncData} (D:Mt K C "Tails.many_under" "many_under" yP ["self","place","stop","left"] f fd) (yO:Mt K C "Tails.layer" "layer" xY ["self","left"] f1 fd1) (zN:Mt K C "Tails.many_by" "many_by" yL ["self","layer","place","stop"] f2 fd2) (zB:ClT K mg C) (T:Blt mg) (U:zbT mg):FnOk P w K mg base CX0 3 f fd ["self","place","stop","left"] (uL C):=by
 have vQ:FnOk P w K mg base CX0 1 f2 fd2 ["self","layer","place","stop"] (jX C):=Yt zN zB T U
 have tV:FnOk P w K mg base CX0 2 f1 fd1 ["self","left"] (YD C):=VD yO zN zB T U
 refine D.fn.ok Z0 (fun vs H Q E h=>?_) (fun cdv A outer s H vs Q E hr h=>?_)
 ·obtain⟨p,la,b,ls,ws,L,i,s,t,rfl,_⟩:=h;rfl
 ·obtain⟨p,la,b,ls,ws,L,i,s,t,rfl,TA,G,hL,ht,hi,hs,kk⟩:=h
  obtain⟨dx,sa,srs,h1,h2,h3,h4⟩:=TA.ob
  have hp:=xu _ _ _ _ h1
  refine⟨_,(zx (zH (Zd zN zB.cl vQ (hr.mono (by decide)) (pv 0) (zf (Zd yO zB.cl tV (hr.mono (by decide)) (pv 0) (zf (pv 3) zm)) (zf (pv 1) (zf (pv 2) zm)))))),?_⟩
  refine⟨_,rfl,p,dx,_,rfl,hp,wO _ _ _ _,?_⟩
  refine⟨_,rfl,p,dx,_,rfl,hp,wO _ _ _ _,_,rfl,p,la,b,ls,ws,L,t,rfl,TA,G,hL,ht,fun lay L' H' hLL TA' m' hm hlay=>?_⟩
  exact⟨_,rfl,_,rfl,p,la,b,ls,ws,L',t,lay,i,s,rfl,TA',G,xu _ _ _ _ hlay,hi,hs,fun H2 m2=>kk L' H2 hLL (TA'.same m2) (m'.trans (m2.aw [la])) hm⟩
def vW (C:Addr):Sp:=fun vs H Q _=>∃ (p la:Addr) (b:Nat) (ls ws:List (List Int)) (L t:Nat),vs=[.ref p,.int t]∧TailsAt C H p la b ls ws L∧GoodT b ls ws∧L≤1000∧t<1000∧TQ C H p la b ls ws L fun L' H'=>L'≤max L (t+1)->Q (.int (yt ls b t:Nat)) H'
theorem ZF:zF ["self","size"] ["self","size"] (zq yM):=⟨rfl,rfl,rfl,by decide +kernel,rfl,by decide +kernel,by decide +kernel⟩
theorem Wx {f f1 f2:Addr} {fd fd1 fd2:FuncData} (D:Mt K C "Tails.many_within" "many_within" yM ["self","size"] f fd) (yO:Mt K C "Tails.layer" "layer" xY ["self","left"] f1 fd1) (zN:Mt K C "Tails.many_by" "many_by" yL ["self","layer","place","stop"] f2 fd2) (zB:ClT K mg C) (T:Blt mg) (U:zbT mg):FnOk P w K mg base CX0 3 f fd ["self","size"] (vW C):=by
 have tV:FnOk P w K mg base CX0 2 f1 fd1 ["self","left"] (YD C):=VD yO zN zB T U
 refine D.fn.ok ZF (fun vs H Q E h=>?_) (fun cdv A outer s H vs Q E hr h=>?_)
 ·obtain⟨p,la,b,ls,ws,L,t,rfl,_⟩:=h;rfl
 ·obtain⟨p,la,b,ls,ws,L,t,rfl,TA,G,hL,ht,kk⟩:=h
  obtain⟨dx,sa,srs,h1,h2,h3,h4⟩:=TA.ob
  have hp:=xu _ _ _ _ h1
  refine⟨_,(zx (zH (ym (uN K) (Zd yO zB.cl tV (hr.mono (by decide)) (pv 0) (zf (pv 1) zm)) (qM K (pv 0)) (fun _ _=>rfl)))),?_⟩
  refine⟨_,rfl,p,dx,_,rfl,hp,wO _ _ _ _,_,rfl,p,la,b,ls,ws,L,t,rfl,TA,G,hL,ht,fun lay L' H' hLL TA' m' hm hlay=>?_⟩
  obtain⟨dx',sa',srs',h1',h2',h3',h4'⟩:=TA'.ob
  refine⟨_,rfl,p,C,dx',_,_,rfl,xu _ _ _ _ h1',zB.cl,zB.n_outset,wF _ _ _ _,lay,_,_,V.int ((yt ls b t:Nat):Int),rfl,rfl,SqL.of (xu _ _ _ _ hlay),ug ?_,kk L' H' hLL TA' m' hm⟩
  unfold xx
  rw [List.map_append,List.getElem?_append_right (by rw [List.length_map,List.length_map];exact Nat.le_refl _),List.length_map,List.length_map,Nat.sub_self]
  rfl
end
theorem zbm {ls ws:List (List Int)} {b m:Nat} (G:GoodT b ls ws) {i c:Nat} (hi:i≤ws.length) (R:Rep ls b m ws[i]?) (hc:c<b) :
  (∃ j:Nat,stepV ls ws ws[i]? c=.int j∧j≤ws.length∧Rep ls b (m*b+c) ws[j]?)∨(stepV ls ws ws[i]? c=.non∧1≤m*b+c∧gd ls b (m*b+c)=false):=by
 have b2:=G.g.b2
 have ep:∀ h:¬ (ws[i]?=none∧c=0),stepV ls ws ws[i]? c=plc ls ws (ws[i]?.getD []++[(c:Int)]):=by
  intro h
  cases hw:ws[i]? with
  | some x=>rfl
  | none =>
   rw [qN,if_neg (fun z=>h ⟨hw,z⟩)]
   rfl
 rcases R.step G.ne b2 hc with ⟨h1,h2,h3⟩ | ⟨h0,⟨h1,h2⟩ | ⟨h1,h2,h3⟩⟩
 ·left
  refine⟨ws.length,by rw [h1,qN,if_pos h2],Nat.le_refl _,by rw [List.getElem?_eq_none (Nat.le_refl _)];exact h3⟩
 ·left
  have hm:zA ls (ws[i]?.getD []++[(c:Int)])∈ws:=(G.s.mem _).mpr (uA G.ne h1)
  have hlt:=List.idxOf_lt_length_iff.mpr hm
  refine⟨ws.idxOf (zA ls (ws[i]?.getD []++[(c:Int)])),by rw [ep h0];unfold plc;rw [if_pos h1],Nat.le_of_lt hlt,?_⟩
  rw [List.getElem?_eq_getElem hlt,List.getElem_idxOf hlt]
  exact h2
 ·right
  exact⟨by rw [ep h0];unfold plc;rw [if_neg (by rw [h1];exact Bool.false_ne_true)],h2,h3⟩
section
variable {P:Program} {w:World} {K:PySem.W.Frag} {mg:Str->Option Value} {base:Heap} {T0 C:Addr}
theorem zcj {H:Hp} {p la b:Nat} {ls ws:List (List Int)} {L i c:Nat} (TA:TailsAt C H p la b ls ws L) (G:GoodT b ls ws) (hi:i≤ws.length) (hc:c<b) :
  ∃ (dx sa:Addr) (srs:List (Addr×List V)) (z:Addr×List V),H p=some (.ins C dx (Y6 b ws.length sa la))∧H sa=some (.lst (srs.map fun z=>V.ref z.1))∧atI (srs.map fun z=>V.ref z.1) (i:Int)=some (V.ref z.1)∧H z.1=some (.lst z.2)∧atI z.2 (c:Int)=some (stepV ls ws ws[i]? c):=by
 obtain⟨dx,sa,srs,h1,h2,h3,h4⟩:=TA.ob
 have hrow:=WX (ls:=ls) (b:=b) (by have:=G.g.b2;omega) hi
 rw [← h4,List.getElem?_map] at hrow
 obtain⟨z,hz,ez⟩:=Option.map_eq_some_iff.mp hrow
 refine⟨dx,sa,srs,z,xu _ _ _ _ h1,xu _ _ _ _ h2,ug (by rw [List.getElem?_map,hz];rfl),xu _ _ _ _ (h3 z (List.mem_of_getElem? hz)),ug ?_⟩
 rw [ez,List.getElem?_map,List.getElem?_range hc]
 rfl
theorem TailsAt.obj {H:Hp} {p la b:Nat} {ls ws:List (List Int)} {L:Nat} (TA:TailsAt C H p la b ls ws L):∃ dx sa,H p=some (.ins C dx (Y6 b ws.length sa la)):=by
 obtain⟨dx,sa,srs,h1,_⟩:=TA.ob
 exact⟨dx,sa,xu _ _ _ _ h1⟩
def jZ (C:Addr):Sp:=fun vs H Q _=>∃ (p la:Addr) (b:Nat) (ls ws:List (List Int)) (L i k t:Nat),vs=[.ref p,.int i,.int k,.int t]∧TailsAt C H p la b ls ws L∧GoodT b ls ws∧L≤1000∧t<1000∧i≤ws.length∧k<under ls b t ws[i]? b ∧
 ∀ c:Nat,c<b->under ls b t ws[i]? c≤k->k<under ls b t ws[i]? (c+1)->TQ C H p la b ls ws L fun L' H'=>L'≤1000->Q (.int c) H'
theorem vm:zF ["self","place","k","left","figure"] ["self","place","k","left"] (zq wj):=⟨rfl,rfl,rfl,by decide +kernel,rfl,by decide +kernel,by decide +kernel⟩
theorem Qx {f f1:Addr} {fd fd1:FuncData} (D:Mt K C "Tails.figure_at" "figure_at" wj ["self","place","k","left"] f fd) (yr:Mt K C "Tails.many_under" "many_under" yP ["self","place","stop","left"] f1 fd1) (yK:FnOk P w K mg base CX0 3 f1 fd1 ["self","place","stop","left"] (uL C)) (zB:ClT K mg C) (T:Blt mg):FnOk P w K mg base CX0 4 f fd ["self","place","k","left"] (jZ C):=by
 refine D.fn.ok vm (fun vs H Q E h=>?_) (fun cdv A outer s H vs Q E hr h=>?_)
 ·obtain⟨p,la,b,ls,ws,L,i,k,t,rfl,_⟩:=h;rfl
 ·obtain⟨p,la,b,ls,ws,L,i,k,t,rfl,TA,G,hL,ht,hi,hk,kk⟩:=h
  refine⟨_,(zp (zG (i:=4) vm.nd rfl (Or.inl rfl) zr)
   (zp (ju PassesOwn.never (zM WN (Zd yr zB.cl yK (hr.mono (by decide)) (pv 0) (zf (pv 1) (zf (zQ xn (pv 4) zr) (zf (pv 3) zm)))) (pv 2) (zU _))
    (zx (zct (i:=4) vm.nd rfl (Or.inl rfl) zr zeJ)))
   (zx (zH (pv 4))))),?_⟩
  refine Vc (fun σ H2=>∃ (c L':Nat),σ=[some (.ref p),some (.int i),some (.int k),some (.int t),some (.int c)]∧c<b∧under ls b t ws[i]? c≤k∧L≤L'∧L'≤1000∧TailsAt C H2 p la b ls ws L'∧Same (aw [la] H) (aw [la] H2))
   (fun σ _=>match σ with | [_,_,_,_,some (.int c)]=>b-c.toNat | _=>0) ⟨0,L,rfl,by have:=G.g.b2;omega,by rw [Yo];exact Nat.zero_le _,Nat.le_refl _,hL,TA,Same.refl _⟩ ?_ ?_
  ·rintro σ H2 ⟨c,L',rfl,hc,hu,hLL,hL',TA2,m2⟩
   obtain⟨dx2,sa2,hp2⟩:=TA2.obj
   refine⟨_,rfl,p,dx2,_,rfl,hp2,wO _ _ _ _,_,rfl,_,rfl,_,_,rfl,rfl,_,rfl,p,la,b,ls,ws,L',i,c+1,t,rfl,TA2,G,hL',ht,hi,by omega,fun L3 H3 hL3 TA3 m3 hmx=>?_⟩
   refine⟨_,rfl,_,_,rfl,rfl,_,rfl,?_⟩
   refine V3 (fun h1=>?_) (fun h1=>?_)
   ·have h1':under ls b t ws[i]? (c+1)≤k:=by have:=of_decide_eq_true h1;omega
    have hcb:c+1<b:=by
     by_cases z:c+1<b
     ·exact z
     ·rw [show c+1=b by omega] at h1';omega
    refine⟨_,rfl,_,_,rfl,rfl,⟨c+1,L3,rfl,hcb,h1',by omega,by omega,TA3,m2.trans m3⟩,?_⟩
    show b-((c:Int)+1).toNat<b-(c:Int).toNat
    omega
   ·have h1':k<under ls b t ws[i]? (c+1):=by
     by_cases z:k<under ls b t ws[i]? (c+1)
     ·exact z
     ·exact absurd (decide_eq_true (by omega:((under ls b t ws[i]? (c+1):Nat):Int)≤k)) h1
    exact⟨_,rfl,kk c hc hu h1' L3 H3 (by omega) TA3 (m2.trans m3) (by omega)⟩
  ·intro σ H2 Q Q' hq
   rintro⟨v0,e0,a,dx,fs,h1,h2,h3,v1,e1,v4,e4,i4,j4,e5,e6,v3,e3,p',la',b',ls',ws',L',i',s',t',g1,g2,g3,g4,g5,g6,g7,g8⟩
   exact⟨v0,e0,a,dx,fs,h1,h2,h3,v1,e1,v4,e4,i4,j4,e5,e6,v3,e3,p',la',b',ls',ws',L',i',s',t',g1,g2,g3,g4,g5,g6,g7,fun L2 H3 a1 a2 a3 a4=>by
    obtain⟨v2,e2,i2,j2,e7,e8,k2,e9,q⟩:=g8 L2 H3 a1 a2 a3 a4
    exact⟨v2,e2,i2,j2,e7,e8,k2,e9,hq _ _ q⟩⟩
def jK (C:Addr):Sp:=fun vs H Q _=>∃ (p la:Addr) (b:Nat) (ls ws:List (List Int)) (L sz k:Nat),vs=[.ref p,.int sz,.int k]∧TailsAt C H p la b ls ws L∧GoodT b ls ws∧L≤1000∧sz<1000∧k<many (gd ls b) (b^sz) ∧
 ∀ n:Nat,gd ls b n=true->many (gd ls b) n=k->n<b^sz->TQ C H p la b ls ws L fun L' H'=>L'≤1000->Q (.int n) H'
theorem yc:zF ["self","size","k","place","n","left","figure"] ["self","size","k"] (zq wg):=⟨rfl,rfl,rfl,by decide +kernel,rfl,by decide +kernel,by decide +kernel⟩
theorem Qy {f f1 f2:Addr} {fd fd1 fd2:FuncData} (D:Mt K C "Tails.number_at" "number_at" wg ["self","size","k"] f fd) (yr:Mt K C "Tails.many_under" "many_under" yP ["self","place","stop","left"] f1 fd1) (yK:FnOk P w K mg base CX0 3 f1 fd1 ["self","place","stop","left"] (uL C))
  (wK:Mt K C "Tails.figure_at" "figure_at" wj ["self","place","k","left"] f2 fd2) (uz:FnOk P w K mg base CX0 4 f2 fd2 ["self","place","k","left"] (jZ C)) (zB:ClT K mg C) (T:Blt mg):FnOk P w K mg base CX0 5 f fd ["self","size","k"] (jK C):=by
 refine D.fn.ok yc (fun vs H Q E h=>?_) (fun cdv A outer s H vs Q E hr h=>?_)
 ·obtain⟨p,la,b,ls,ws,L,sz,k,rfl,_⟩:=h;rfl
 ·obtain⟨p,la,b,ls,ws,L,sz,k,rfl,TA,G,hL,hsz,hk,kk⟩:=h
  have b2:=G.g.b2
  have b16:=G.g.b16
  obtain⟨dx0,sa0,hp0⟩:=TA.obj
  refine⟨_,(zp (zG (i:=3) yc.nd rfl (Or.inl rfl) (qM K (pv 0)))
   (zp (zG (i:=4) yc.nd rfl (Or.inl rfl) zr)
   (zp (qm PassesOwn.never rfl (zbu rfl T.n_range (zf (zQ Ve (pv 1) zr) (zf (za6 Qp zr) (zf (za6 Qp zr) zm)))) (zL (i:=5) yc.nd rfl (Or.inl rfl))
    (zp (zG (i:=6) yc.nd rfl (Or.inl rfl) (Zd wK zB.cl uz (hr.mono (by decide)) (pv 0) (zf (pv 3) (zf (pv 2) (zf (pv 5) zm)))))
    (zp (zct (i:=2) yc.nd rfl (Or.inl rfl) (Zd yr zB.cl yK (hr.mono (by decide)) (pv 0) (zf (pv 3) (zf (pv 6) (zf (pv 5) zm)))) zex)
    (zp (zG (i:=3) yc.nd rfl (Or.inl rfl) (ym (uN K) (ym (uN K) (qM K (pv 0)) (pv 3) (fun _ _=>rfl)) (pv 6) (fun _ _=>rfl)))
    (zx (zG (i:=4) yc.nd rfl (Or.inl rfl) (zQ xn (zQ Xm (pv 4) (qM K (pv 0))) (pv 6))))))))
   (zx (zH (pv 4)))))),?_⟩
  refine⟨_,rfl,p,C,dx0,_,_,rfl,hp0,zB.cl,zB.n_outset,wF _ _ _ _,?_⟩
  refine⟨_,rfl,_,_,rfl,rfl,_,rfl,_,rfl,((sz:Int)-1),rfl,by omega,by omega,?_⟩
  rw [show ((sz:Int)-1+1).toNat=sz by omega]
  refine zaz (lo:=(sz:Int)-1) (c:=-1) (n:=sz) (fun j σ H2=>∃ (v5 v6:Option V) (i m L':Nat),σ=[some (.ref p),some (.int sz),some (.int ((k:Int)-(many (gd ls b) (m*b^(sz-j)):Nat))),some (.int i),some (.int m),v5,v6]∧i≤ws.length∧Rep ls b m ws[i]?∧many (gd ls b) (m*b^(sz-j))≤k∧k<many (gd ls b) ((m+1)*b^(sz-j))∧L≤L'∧L'≤1000∧TailsAt C H2 p la b ls ws L'∧Same (aw [la] H) (aw [la] H2)) ⟨none,none,ws.length,0,L,?_,Nat.le_refl _,?_,?_,?_,Nat.le_refl _,hL,TA,Same.refl _⟩ ?_ ?_
  ·rw [Nat.zero_mul]
   show [_,_,some (V.int k),_,_,_,_]=[_,_,some (V.int ((k:Int)-((0:Nat):Int))),_,_,_,_]
   rw [Int.natCast_zero,Int.sub_zero]
  ·rw [List.getElem?_eq_none (Nat.le_refl _)];exact .inl ⟨rfl,rfl⟩
  ·rw [Nat.zero_mul];exact Nat.zero_le _
  ·rw [Nat.sub_zero,Nat.zero_add,Nat.one_mul];exact hk
  ·rintro j σ H2 hj ⟨v5,v6,i,m,L',rfl,hi,R,hlo,hhi,hLL,hL',TA2,m2⟩
   obtain⟨t,ht⟩:∃ t,sz-j=t+1:=⟨sz-j-1,by omega⟩
   rw [ht] at hlo hhi ⊢
   have elft:((sz:Int)-1+(j:Int)*(-1))=(t:Int):=by omega
   rw [elft]
   have eb:=qD G.ne b2 R t (s:=b) (Nat.le_refl _)
   have eb2:(m*b+b)*b^t=(m+1)*b^(t+1):=by rw [Nat.pow_succ',← Nat.mul_assoc,Nat.succ_mul]
   rw [eb2] at eb
   obtain⟨k',hk'⟩:∃ k',k=many (gd ls b) (m*b^(t+1))+k':=⟨k-many (gd ls b) (m*b^(t+1)),by omega⟩
   have ek:((k:Int)-(many (gd ls b) (m*b^(t+1)):Nat))=(k':Int):=by omega
   rw [ek]
   obtain⟨dx2,sa2,hp2⟩:=TA2.obj
   refine⟨_,rfl,p,dx2,_,rfl,hp2,wO _ _ _ _,_,rfl,_,rfl,_,rfl,p,la,b,ls,ws,L',i,k',t,rfl,TA2,G,hL',by omega,hi,by omega,fun c hc hu1 hu2 L3 H3 hL3 TA3 m3 hL3'=>?_⟩
   obtain⟨dx3,sa3,hp3⟩:=TA3.obj
   refine⟨_,rfl,_,rfl,p,dx3,_,rfl,hp3,wO _ _ _ _,_,rfl,_,rfl,_,rfl,p,la,b,ls,ws,L3,i,c,t,rfl,TA3,G,hL3',by omega,hi,by omega,fun L4 H4 hL4 TA4 m4 hmx=>⟨_,_,rfl,rfl,?_⟩⟩
   have m24:=m2.trans (m3.trans m4)
   obtain⟨dx4,sa4,srs4,z4,q1,q2,q3,q4,q5⟩:=zcj TA4 G hi hc
   refine⟨_,rfl,p,C,dx4,_,_,rfl,q1,zB.cl,zB.n_steps,Vt _ _ _ _,_,rfl,sa4,_,_,_,rfl,rfl,SqL.of q2,q3,_,rfl,z4.1,_,_,_,rfl,rfl,SqL.of q4,q5,?_⟩
   refine⟨_,rfl,_,rfl,p,C,dx4,_,_,rfl,q1,zB.cl,zB.n_base,Uj _ _ _ _,_,_,rfl,rfl,.inr ⟨by omega,by omega⟩,_,rfl,_,_,rfl,rfl,?_⟩
   have e1:=qD G.ne b2 R t (s:=c) (by omega)
   have e2:=qD G.ne b2 R t (s:=c+1) (by omega)
   have hlo':many (gd ls b) ((m*b+c)*b^t)≤k:=by omega
   have hhi':k<many (gd ls b) ((m*b+c+1)*b^t):=by
    rw [show m*b+c+1=m*b+(c+1) by omega];omega
   rcases zbm G hi R hc with ⟨j',f1,f2,f3⟩ | ⟨f1,f2,f3⟩
   ·rw [f1]
    refine⟨some (.int t),some (.int c),j',m*b+c,L4,?_,f2,f3,?_,?_,by omega,by omega,TA4,m24⟩
    ·rw [show sz-(j+1)=t by omega]
     show [_,_,some (V.int ((k':Int)-(under ls b t ws[i]? c:Nat))),some (V.int (j':Nat)),some (V.int ((m:Int)*b+c)),_,_]=[_,_,some (V.int ((k:Int)-(many (gd ls b) ((m*b+c)*b^t):Nat))),some (V.int (j':Nat)),some (V.int ((m*b+c:Nat):Int)),_,_]
     rw [show ((k':Int)-(under ls b t ws[i]? c:Nat))=((k:Int)-(many (gd ls b) ((m*b+c)*b^t):Nat)) by omega,Int.natCast_add,Int.natCast_mul]
    ·rw [show sz-(j+1)=t by omega];exact hlo'
    ·rw [show sz-(j+1)=t by omega];exact hhi'
   ·exfalso
    have eb3:=zcU G.ne b2 f2 f3 t (r:=b^t) (Nat.le_refl _)
    rw [← Nat.succ_mul] at eb3
    have:(m*b+c).succ=m*b+c+1:=rfl
    rw [this] at eb3
    omega
  ·rintro σ H2 ⟨v5,v6,i,m,L',rfl,hi,R,hlo,hhi,hLL,hL',TA2,m2⟩
   rw [Nat.sub_self,Nat.pow_zero,Nat.mul_one] at hlo hhi
   have hg:gd ls b m=true:=by
    cases e:gd ls b m with
    | true=>rfl
    | false =>
     have:many (gd ls b) (m+1)=many (gd ls b) m:=by rw [many,e];rfl
     omega
   have em:many (gd ls b) m=k:=by
    have:many (gd ls b) (m+1)=many (gd ls b) m+1:=by rw [many,if_pos hg]
    omega
   refine⟨_,rfl,kk m hg em ?_ L' H2 hLL TA2 m2 hL'⟩
   by_cases z:m<b^sz
   ·exact z
   ·have:=tZ (gd ls b) (show b^sz≤m by omega)
    omega
end
theorem LT.off {T la:Addr} {H H':Hp} {xs:List V} (h:LT T H) (hla:H la=some (.lst xs)) (m:Same (aw [la] H) (aw [la] H')):LT T H':=by
 have go:∀ c o,c≠la->H c=some o->H' c=some o:=fun c o hc e=>by
  have hc':c∉[la]:=by simpa using hc
  have:=m c o (by rw [yd hc'];exact e)
  rwa [yd hc'] at this
 have n0:T≠la:=Ne.symm (h.lst hla)
 rcases h with h | ⟨c,h1,h2⟩
 ·exact .inl (go _ _ n0 h)
 ·refine .inr ⟨c,go _ _ n0 h1,go _ _ (fun z=>?_) h2⟩
  rw [z,hla] at h2
  cases h2
theorem Qm {α:Type} {f:α->V} (h:∀ a,f a=V.int 1):∀ l:List α,(List.replicate l.length [V.int 1]).flatten=l.map f
 | []=>rfl
 | a :: l=>by rw [List.length_cons,List.replicate_succ,List.flatten_cons,Qm h l,List.map_cons,h a];rfl
section
variable {P:Program} {w:World} {K:PySem.W.Frag} {mg:Str->Option Value} {base:Heap} {T0 C:Addr}
def Zc (T0 C:Addr):Sp:=fun vs H Q _=>∃ (p dx r:Addr) (b:Nat) (bl:Addr) (zs:List (Addr×List Int)),vs=[.ref p,.ref r]∧H p=some (.ins C dx [])∧RuleAt H r b bl zs∧zO b (zs.map (·.2))∧LT T0 H ∧
 ∀ (la:Addr) (ws:List (List Int)) (H':Hp),TailsAt C H' p la b (zs.map (·.2)) ws 1->GoodT b (zs.map (·.2)) ws->(∀ c o,c≠p->c≠T0->H c=some o->H' c=some o)->LT T0 H'->H la=none->Q .non H'
theorem qU:zF ["self","rule","stands"] ["self","rule"] (zq uv):=⟨rfl,rfl,rfl,by decide +kernel,rfl,by decide +kernel,by decide +kernel⟩
theorem zcq {f f1 f2 f3:Addr} {fd fd1 fd2 fd3:FuncData} (D:Mt K C "Tails.__init__" "__init__" uv ["self","rule"] f fd) (jW:Df K mg "stands_of" yj ["bad"] f1 fd1) (Yz:FnOk P w K mg base CX0 6 f1 fd1 ["bad"] (jF T0)) (jG:Df K mg "all_steps" uT ["rule","stands"] f2 fd2) (Yq:FnOk P w K mg base CX0 6 f2 fd2 ["rule","stands"] jN)
  (xq:Df K mg "lacks_all" wA ["bad","figures"] f3 fd3) (xQ:FnOk P w K mg base CX0 2 f3 fd3 ["bad","figures"] vU) (zB:ClT K mg C) (T:Blt mg):FnOk P w K mg base CX0 7 f fd ["self","rule"] (Zc T0 C):=by
 refine D.fn.ok qU (fun vs H Q E h=>?_) (fun cdv A outer s H vs Q E hr h=>?_)
 ·obtain⟨p,dx,r,b,bl,zs,rfl,_⟩:=h;rfl
 ·obtain⟨p,dx,r,b,bl,zs,rfl,hp,R,g,hT,kk⟩:=h
  have h4:zs.length≤4:=by have:=g.len;rwa [List.length_map] at this
  have gz:∀ z∈zs,z.2≠[]∧z.2.length≤4:=fun z hz=>⟨(g.st _ (List.mem_map.mpr ⟨z,hz,rfl⟩)).ne,(g.st _ (List.mem_map.mpr ⟨z,hz,rfl⟩)).len⟩
  have npT:p≠T0:=fun z=>by
   rw [z] at hp
   rcases hT with h | ⟨c,h,_⟩
   ·rw [h] at hp;cases hp
   ·rw [h] at hp;cases hp
  refine⟨_,(zp (zG (i:=2) qU.nd rfl (Or.inl rfl) (zP jW Yz (hr.mono (by decide)) (zf (ym (j5 K) (pv 1) zr (fun _ _=>rfl)) zm)))
   (zp (QJ (pv 0) (ym (j5 K) (pv 1) zr (fun _ _=>rfl)) rfl)
   (zp (QJ (pv 0) (zz (tK K) (by rfl) T.n_len PySem.boot_len (zf (pv 2) zm)) rfl)
   (zp (QJ (pv 0) (zP jG Yq (hr.mono (by decide)) (zf (pv 1) (zf (pv 2) zm))) rfl)
   (zx (QJ (pv 0) (zJ (zf (zQ qC (zQ zeq (zJ (zf zr zm)) (zz (tK K) (by rfl) T.n_len PySem.boot_len (zf (pv 2) zm))) (zJ (zf (zcN (vq (zP xq xQ (hr.mono (by decide)) (zf (ym (j5 K) (pv 1) zr (fun _ _=>rfl)) (zf (zJ (zf zr zm)) zm)))) zr zr) zm))) zm)) rfl)))))),?_⟩
  refine⟨_,rfl,r,_,_,V.ref bl,rfl,rfl,SqT.of R.tu,rfl,bl,zs,rfl,R.li,R.st,h4,gz,hT,fun Dd ws H1 hDn hD hws SL h13 mL hT1=>?_⟩
  have R1:RuleAt H1 r b bl zs:=⟨mL _ _ (hT.tup R.tu) R.tu,mL _ _ (hT.lst R.li) R.li,fun z hz=>mL _ _ (hT.lst (R.st z hz)) (R.st z hz)⟩
  have hp1:=mL _ _ npT hp
  have rp:r≠p:=Yb R1.tu hp1 (fun z=>nomatch z)
  have lp:∀ {c:Addr} {xs:List V},H1 c=some (.lst xs)->c≠p:=fun h=>Yb h hp1 (fun z=>nomatch z)
  refine⟨_,rfl,r,_,_,V.int b,rfl,rfl,SqT.of R1.tu,rfl,_,rfl,p,C,dx,_,rfl,hp1,zB.cl,zB.n_base,(by show 0<1000;decide),?_⟩
  refine⟨_,rfl,Dd,_,rfl,.inl (SqL.of (by rw [zu (lp hD)];exact hD)),_,rfl,p,C,dx,_,rfl,zg,zB.cl,zB.n_outset,(by show 1<1000;decide),?_⟩
  rw [zdY,List.length_map]
  generalize hH3:upd H1 p (.ins C dx (xN "outset" (.int (ws.length:Nat)) (xN "base" (.int b) [])))=H3
  have m3:∀ c o,c≠p->H1 c=some o->H3 c=some o:=fun c o hc e=>by rw [← hH3,zu hc];exact e
  have hp3:H3 p=some (.ins C dx (xN "outset" (.int (ws.length:Nat)) (xN "base" (.int b) []))):=by rw [← hH3,zg]
  have R3:RuleAt H3 r b bl zs:=⟨m3 _ _ rp R1.tu,m3 _ _ (lp R1.li) R1.li,fun z hz=>m3 _ _ (lp (R1.st z hz)) (R1.st z hz)⟩
  refine⟨_,rfl,_,rfl,r,b,bl,zs,Dd,ws,rfl,R3,g,m3 _ _ (lp hD) hD,fun z hz=>m3 _ _ (lp (hws z hz).2.1) (hws z hz).2.1,SL,h13,fun sa srs H4 hsa m4 hsal hsrs hsr2=>?_⟩
  have hp4:=m4 _ _ hp3
  have len2:(xN "outset" (.int (ws.length:Nat)) (xN "base" (.int b) [])).length≤2:=Nat.le_trans (uP _ _ _) (Nat.succ_le_succ (uP _ _ _))
  refine⟨_,rfl,p,C,dx,_,rfl,hp4,zB.cl,zB.n_steps,by omega,?_⟩
  generalize hH5:upd H4 p (.ins C dx (xN "steps" (.ref sa) (xN "outset" (.int (ws.length:Nat)) (xN "base" (.int b) []))))=H5
  have m5:∀ c o,c≠p->H4 c=some o->H5 c=some o:=fun c o hc e=>by rw [← hH5,zu hc];exact e
  have hp5:H5 p=some (.ins C dx (xN "steps" (.ref sa) (xN "outset" (.int (ws.length:Nat)) (xN "base" (.int b) [])))):=by rw [← hH5,zg]
  have lp4:∀ {c:Addr} {xs:List V},H4 c=some (.lst xs)->c≠p:=fun h=>Yb h hp4 (fun z=>nomatch z)
  have R4:=R3.same m4
  have R5:RuleAt H5 r b bl zs:=⟨m5 _ _ (Yb R4.tu hp4 (fun z=>nomatch z)) R4.tu,m5 _ _ (lp4 R4.li) R4.li,fun z hz=>m5 _ _ (lp4 (R4.st z hz)) (R4.st z hz)⟩
  have hD5:H5 Dd=some (.lst (ws.map fun z=>V.ref z.1)):=m5 _ _ (lp4 (m4 _ _ (m3 _ _ (lp hD) hD))) (m4 _ _ (m3 _ _ (lp hD) hD))
  refine⟨(by show 1≤sizeLine;decide),fun q1 n1=>?_⟩
  refine⟨_,rfl,Dd,_,rfl,.inl (SqL.of (zj n1 _ _ hD5)),?_⟩
  rw [List.length_map]
  refine⟨q1,_,_,rfl,rfl,zg,by omega,by omega,?_,fun q2 n2=>?_⟩
  ·show 1*(ws.length:Int).toNat≤sizeLine
   exact Nat.le_trans (show 1*(ws.length:Int).toNat≤13 by omega) (by decide)
  have s1:=zj n1 (o:=.lst [V.int 1])
  have s2:=s1.trans (zj n2 (o:=.lst (List.replicate (ws.length:Int).toNat [V.int 1]).flatten))
  have R6:=R5.same s2
  refine⟨_,rfl,r,_,_,V.ref bl,rfl,rfl,SqT.of R6.tu,rfl,(by show 1≤sizeLine;decide),fun q3 n3=>?_⟩
  have s3:=s2.trans (zj n3 (o:=.lst [V.int 0]))
  have R7:=R5.same s3
  refine⟨bl,q3,zs,[0],rfl,R7.li,R7.st,zg,by omega,by decide,fun z hz=>⟨(gz z hz).1,Nat.le_trans (gz z hz).2 (by decide)⟩,fun H8 s8=>⟨_,rfl,?_⟩⟩
  have s38:=s3.trans s8
  have fin:∀ x:Int,x=((yt (zs.map (·.2)) b 0:Nat):Int)->∀ q4,H8 q4=none->q2≠q4->∀ q5,upd H8 q4 (.lst [V.int x]) q5=none->∀ q6,upd (upd H8 q4 (.lst [V.int x])) q5 (.lst ((List.replicate (ws.length:Int).toNat [V.int 1]).flatten++[V.int x])) q6=none ->
    Q .non (upd (upd (upd (upd H8 q4 (.lst [V.int x])) q5 (.lst ((List.replicate (ws.length:Int).toNat [V.int 1]).flatten++[V.int x]))) q6 (.lst [V.ref q5])) p (.ins C dx (xN "layers" (.ref q6) (xN "steps" (.ref sa) (xN "outset" (.int (ws.length:Nat)) (xN "base" (.int b) [])))))):=by
   intro x hx q4 n4 _ q5 n5 q6 n6
   have t4:=zj n4 (o:=.lst [V.int x])
   have t5:=zj n5 (o:=.lst ((List.replicate (ws.length:Int).toNat [V.int 1]).flatten++[V.int x]))
   have t6:=zj n6 (o:=.lst [V.ref q5])
   have t46:=t4.trans (t5.trans t6)
   have s56:=s38.trans t46
   have hp9:=s56 _ _ hp5
   have f5:∀ c,H5 c=none->H c=none:=fun c hc=>by
    have h5:H4 c=none:=by
     rw [← hH5] at hc
     by_cases z:c=p
     ·subst z;rw [zg] at hc;cases hc
     ·rwa [zu z] at hc
    have h3':H3 c=none:=m4.free h5
    have h1':H1 c=none:=by
     rw [← hH3] at h3'
     by_cases z:c=p
     ·subst z;rw [zg] at h3';cases h3'
     ·rwa [zu z] at h3'
    cases e:H c with
    | none=>rfl
    | some o =>
     by_cases z:c=T0
     ·subst z
      exact absurd h1' (by
       rcases hT1 with h | ⟨d,h,_⟩
       ·rw [h];simp
       ·rw [h];simp)
     ·rw [mL c o z e] at h1';cases h1'
   have q6H5:H5 q6=none:=(s38.trans (t4.trans t5)).free n6
   have q6p:q6≠p:=fun z=>by rw [z,hp5] at q6H5;cases q6H5
   have np5:q5≠q6:=fun z=>by rw [← z,zg] at n6;cases n6
   generalize hH9:upd (upd (upd H8 q4 (.lst [V.int x])) q5 (.lst ((List.replicate (ws.length:Int).toNat [V.int 1]).flatten++[V.int x]))) q6 (.lst [V.ref q5])=H9 at t6 t46 s56 hp9
   have hq6:H9 q6=some (.lst [V.ref q5]):=by rw [← hH9,zg]
   have hq5:H9 q5=some (.lst ((List.replicate (ws.length:Int).toNat [V.int 1]).flatten++[V.int x])):=by rw [← hH9,zu np5,zg]
   have q5p:q5≠p:=Yb hq5 hp9 (fun z=>nomatch z)
   have off:∀ c o,c≠p->H5 c=some o->aw [q6] (upd H9 p (.ins C dx (Y6 b ws.length sa q6))) c=some o:=fun c o hc e=>by
    have hcq:c≠q6:=zy e q6H5
    rw [yd (by simpa using hcq),zu hc]
    exact s56 c o e
   have sa4:H4 sa=some (.lst (srs.map fun z=>V.ref z.1)):=hsal
   have l1:∀ {c:Addr} {xs:List V},H4 c=some (.lst xs)->H5 c=some (.lst xs)∧c≠p:=fun h=>⟨m5 _ _ (lp4 h) h,lp4 h⟩
   refine kk q6 (ws.map (·.2)) _ ⟨⟨dx,sa,srs,?_,off _ _ (l1 hsal).2 (l1 hsal).1,fun z hz=>off _ _ (l1 (hsrs z hz).2).2 (l1 (hsrs z hz).2).1,hsr2⟩,⟨[(q5,xx (zs.map (·.2)) (ws.map (·.2)) b 0)],by rw [zu q6p];exact hq6,fun z hz=>?_,rfl⟩,Nat.le_refl _⟩ ⟨g,SL,by rw [List.length_map];exact h13⟩ (fun c o hc hcT e=>?_) ?_ (f5 _ q6H5)
   ·rw [yd (by simpa using Ne.symm q6p),List.length_map]
    exact zg
   ·have e:z=(q5,xx (zs.map (·.2)) (ws.map (·.2)) b 0):=by simpa using hz
    subst e
    rw [yd (by simpa using np5),zu q5p,hq5]
    congr 2
    unfold xx
    rw [List.map_append,hx,Int.toNat_natCast,List.map_map,List.map_map]
    rw [Qm (fun _=>rfl) ws]
    rfl
   ·rw [zu hc]
    have h1:=mL c o hcT e
    exact s56 c o (m5 c o hc (m4 c o (m3 c o hc h1)))
   ·have a1:LT T0 H3:=by
     rcases hT1 with h | ⟨d,h1,h2⟩
     ·exact .inl (m3 _ _ (Ne.symm npT) h)
     ·exact .inr ⟨d,m3 _ _ (Ne.symm npT) h1,m3 _ _ (Yb h2 hp1 (fun z=>nomatch z)) h2⟩
    have a2:=a1.same m4
    have a3:LT T0 H5:=by
     rcases a2 with h | ⟨d,h1,h2⟩
     ·exact .inl (m5 _ _ (Ne.symm npT) h)
     ·exact .inr ⟨d,m5 _ _ (Ne.symm npT) h1,m5 _ _ (Yb h2 hp4 (fun z=>nomatch z)) h2⟩
    have a4:=a3.same s56
    rcases a4 with h | ⟨d,h1,h2⟩
    ·exact .inl (by rw [zu (Ne.symm npT)];exact h)
    ·exact .inr ⟨d,by rw [zu (Ne.symm npT)];exact h1,by rw [zu (Yb h2 hp9 (fun z=>nomatch z))];exact h2⟩
  have hq2:H8 q2=some (.lst (List.replicate (ws.length:Int).toNat [V.int 1]).flatten):=s8 _ _ (zj n3 _ _ zg)
  have lenr:(List.replicate (ws.length:Int).toNat [V.int 1]).flatten.length≤13:=by rw [Int.toNat_natCast,Qm (f:=fun _=>V.int 1) (fun _=>rfl) ws,List.length_map];exact h13
  have len3:(xN "steps" (.ref sa) (xN "outset" (.int (ws.length:Nat)) (xN "base" (.int b) []))).length≤3:=Nat.le_trans (uP _ _ _) (Nat.succ_le_succ len2)
  have tail:∀ x:Int,x=((yt (zs.map (·.2)) b 0:Nat):Int)->∀ q4,H8 q4=none->∃ l b' xs zs',V.ref q2=V.ref l∧V.ref q4=V.ref b'∧upd H8 q4 (.lst [V.int x]) l=some (.lst xs)∧upd H8 q4 (.lst [V.int x]) b'=some (.lst zs')∧xs.length+zs'.length≤sizeLine∧∀ q5,upd H8 q4 (.lst [V.int x]) q5=none ->
    1≤sizeLine∧∀ q6,upd (upd H8 q4 (.lst [V.int x])) q5 (.lst (xs++zs')) q6=none->∃ v,some (some (V.ref p))=some (some v)∧∃ a C' dx' fs,v=.ref a∧upd (upd (upd H8 q4 (.lst [V.int x])) q5 (.lst (xs++zs'))) q6 (.lst [V.ref q5]) a=some (.ins C' dx' fs)∧Cls K C'∧NoAttr K C' "layers"∧fs.length<1000∧Q .non (upd (upd (upd (upd H8 q4 (.lst [V.int x])) q5 (.lst (xs++zs'))) q6 (.lst [V.ref q5])) a (.ins C' dx' (xN "layers" (.ref q6) fs))):=by
   intro x hx q4 n4
   have nq:q2≠q4:=zy hq2 n4
   refine⟨q2,q4,_,_,rfl,rfl,by rw [zu nq];exact hq2,zg,Nat.le_trans (Nat.add_le_add lenr (Nat.le_refl 1)) (by decide),fun q5 n5=>⟨(by decide),fun q6 n6=>?_⟩⟩
   have hp8:=s38 _ _ hp5
   exact⟨_,rfl,p,C,dx,_,rfl,(zj n4).trans ((zj n5).trans (zj n6)) _ _ hp8,zB.cl,zB.n_layers,by omega,fin x hx q4 n4 nq q5 n5 q6 n6⟩
  cases hlk:lacks (zs.map (·.2)) [0] with
  | true =>
   refine wI ?_
   refine⟨(by show 1≤sizeLine;decide),fun q4 n4=>?_⟩
   exact tail 1 (by unfold yt;rw [hlk];rfl) q4 n4
  | false =>
   refine xj ?_
   refine⟨(by show 1≤sizeLine;decide),fun q4 n4=>?_⟩
   exact tail 0 (by unfold yt;rw [hlk];rfl) q4 n4
def ud (C:Addr):Sp:=fun vs H Q _=>∃ (p la:Addr) (b:Nat) (ls ws:List (List Int)) (L:Nat),vs=[.ref p]∧TailsAt C H p la b ls ws L∧GoodT b ls ws∧L≤1000∧TQ C H p la b ls ws L fun L' H'=>L'≤1000->Q (.bl (decide (yt ls b ws.length<yt ls b (ws.length+1)))) H'
end
theorem zdx {H:Hp} {x dx:Addr} {C:Addr} (nx:H x=none) (ndx:H dx=none):Same H (upd (upd H dx (.own x)) x (.ins C dx [])):=fun b o e=>by
 rw [zu (zy e nx),zu (zy e ndx)]
 exact e
theorem RuleAt.sameL {T0 r bl:Addr} {H H':Hp} {b:Nat} {zs:List (Addr×List Int)} (R:RuleAt H r b bl zs) (hT:LT T0 H) (m:SameL T0 H H'):RuleAt H' r b bl zs :=
 ⟨m _ _ (hT.tup R.tu) R.tu,m _ _ (hT.lst R.li) R.li,fun z hz=>m _ _ (hT.lst (R.st z hz)) (R.st z hz)⟩
theorem Xn {T0 la:Addr} {H H1 H2:Hp} (m:SameL T0 H H1) (hla:H la=none) (a:Same (aw [la] H1) (aw [la] H2)):SameL T0 H H2:=fun c o hc e=>by
 have hcl:c∉[la]:=by simpa using zy e hla
 have:=a c o (by rw [yd hcl];exact m c o hc e)
 rwa [yd hcl] at this
theorem TailsAt.la {C p la b:Nat} {H:Hp} {ls ws:List (List Int)} {L:Nat} (TA:TailsAt C H p la b ls ws L):∃ xs,H la=some (.lst xs):=let ⟨_,h,_⟩:=TA.ly;⟨_,h⟩
section
variable {P:Program} {w:World} {K:PySem.W.Frag} {mg:Str->Option Value} {base:Heap} {T0 C:Addr}
def zfk (T0 C:Addr) (b:Nat) (ls:List (List Int)) (H:Hp) (x:Addr) (H':Hp):Prop:=∃ (la:Addr) (ws:List (List Int)),TailsAt C H' x la b ls ws 1∧GoodT b ls ws∧SameL T0 H H'∧LT T0 H'∧H la=none
theorem zaO {r:Addr} {b:Nat} {bl:Addr} {zs:List (Addr×List Int)} {H:Hp} (R:RuleAt H r b bl zs) (g:zO b (zs.map (·.2))) (hT:LT T0 H) {R':Addr->Hp->Prop} (k:∀ x H',zfk T0 C b (zs.map (·.2)) H x H'->R' x H') :
  ∀ x dx,H x=none->H dx=none->dx≠x->Zc T0 C (.ref x :: ([.ref r]++[])) (upd (upd H dx (.own x)) x (.ins C dx [])) (fun v H2=>v=.non∧R' x H2) E0:=by
 intro x dx nx ndx nex
 have s0:=zdx (C:=C) nx ndx
 refine⟨x,dx,r,b,bl,zs,rfl,zg,R.same s0,g,hT.same s0,fun la ws H' TA G fr hT' hla=>⟨rfl,k x H' ⟨la,ws,TA,G,fun c o hc e=>fr c o (zy e nx) hc (s0 c o e),hT',s0.free hla⟩⟩⟩
theorem Zu:zF ["self"] ["self"] (zq yN):=⟨rfl,rfl,rfl,by decide +kernel,rfl,by decide +kernel,by decide +kernel⟩
theorem Vv {f f1:Addr} {fd fd1:FuncData} (D:Mt K C "Tails.are_endless" "are_endless" yN ["self"] f fd) (zY:Mt K C "Tails.many_within" "many_within" yM ["self","size"] f1 fd1) (yp:FnOk P w K mg base CX0 3 f1 fd1 ["self","size"] (vW C)) (zB:ClT K mg C):FnOk P w K mg base CX0 4 f fd ["self"] (ud C):=by
 refine D.fn.ok Zu (fun vs H Q E h=>?_) (fun cdv A outer s H vs Q E hr h=>?_)
 ·obtain⟨p,la,b,ls,ws,L,rfl,_⟩:=h;rfl
 ·obtain⟨p,la,b,ls,ws,L,rfl,TA,G,hL,kk⟩:=h
  have h13:=G.h13
  obtain⟨dx,sa,hp⟩:=TA.obj
  refine⟨_,(zx (zH (uJ QT (Zd zY zB.cl yp (hr.mono (by decide)) (pv 0) (zf (zQ xn (qM K (pv 0)) zr) zm)) (Zd zY zB.cl yp (hr.mono (by decide)) (pv 0) (zf (qM K (pv 0)) zm)) (zU _)))),?_⟩
  refine⟨_,rfl,p,dx,_,rfl,hp,wO _ _ _ _,_,rfl,p,C,dx,_,_,rfl,hp,zB.cl,zB.n_outset,wF _ _ _ _,_,_,rfl,rfl,p,la,b,ls,ws,L,ws.length+1,by rw [Int.natCast_add];rfl,TA,G,hL,by omega,fun L2 H2 hL2 TA2 m2 hmx=>?_⟩
  obtain⟨dx2,sa2,hp2⟩:=TA2.obj
  refine⟨_,rfl,p,dx2,_,rfl,hp2,wO _ _ _ _,_,rfl,p,C,dx2,_,_,rfl,hp2,zB.cl,zB.n_outset,wF _ _ _ _,p,la,b,ls,ws,L2,ws.length,rfl,TA2,G,by omega,by omega,fun L3 H3 hL3 TA3 m3 hmx3=>⟨_,_,rfl,rfl,?_⟩⟩
  have q:=kk L3 H3 (by omega) TA3 (m2.trans m3) (by omega)
  rw [show decide (yt ls b ws.length<yt ls b (ws.length+1))=decide (((yt ls b ws.length:Nat):Int)<((yt ls b (ws.length+1):Nat):Int)) by rw [Bool.eq_iff_iff];simp] at q
  exact q
end
def zfC (ls:List (List Int)) (b:Nat) (v:V):Prop:=(v=.bl true∧End ls b)∨(v=.bl false∧∀ g,gd ls b g=true->g<b^13)
def GreatG (ls:List (List Int)) (b:Nat) (v:V):Prop:=(v=.non∧∀ g,gd ls b g=false)∨∃ g:Nat,v=.int g∧gd ls b g=true∧g<b^13∧∀ h,gd ls b h=true->h≤g
section
variable {P:Program} {w:World} {K:PySem.W.Frag} {mg:Str->Option Value} {base:Heap} {T0 C:Addr}
def zdu (T0:Addr) (pre:List (List Int)->Nat->Prop) (R:List (List Int)->Nat->V->Prop):Sp:=fun vs H Q _=>∃ (r:Addr) (b:Nat) (bl:Addr) (zs:List (Addr×List Int)),vs=[.ref r]∧RuleAt H r b bl zs∧zO b (zs.map (·.2))∧pre (zs.map (·.2)) b∧LT T0 H∧∀ v H',R (zs.map (·.2)) b v->SameL T0 H H'->LT T0 H'->Q v H'
abbrev uK (T0:Addr):Sp:=zdu T0 (fun _ _=>True) zfC
theorem VJ:zF ["rule"] ["rule"] (zq vP):=⟨rfl,rfl,rfl,by decide +kernel,rfl,by decide +kernel,by decide +kernel⟩
theorem V8 {f f1 f3 f4:Addr} {fd fd1 fd3 fd4:FuncData} (D:Df K mg "is_endless" vP ["rule"] f fd) (wH:Df K mg "check_rule" vY ["thing"] f1 fd1) (vC:FnOk P w K mg base CX0 7 f1 fd1 ["thing"] uH) (XJ:Mk K C f3) (Xj:Binds K fd3 ["self","rule"] []) (vG:FnOk P w K mg base CX0 7 f3 fd3 ["self","rule"] (Zc T0 C))
  (yo:Mt K C "Tails.are_endless" "are_endless" yN ["self"] f4 fd4) (yz:FnOk P w K mg base CX0 4 f4 fd4 ["self"] (ud C)) (zB:ClT K mg C):FnOk P w K mg base CX0 9 f fd ["rule"] (uK T0):=by
 refine D.fn.ok VJ (fun vs H Q E h=>?_) (fun cdv A outer s H vs Q E hr h=>?_)
 ·obtain⟨r,b,bl,zs,rfl,_⟩:=h;rfl
 ·obtain⟨r,b,bl,zs,rfl,R,g,_,hT,kk⟩:=h
  have b2:=g.b2
  refine⟨_,(zp (vd (zP wH vC (hr.mono (by decide)) (zf (pv 0) zm)))
   (zx (zH (zcY yo zB.cl yz (hr.mono (by decide)) (zaY XJ vG (hr.mono (by decide)) rfl zB.nm Xj .nil JK (zf (pv 0) zm)))))),?_⟩
  refine⟨_,rfl,r,b,bl,zs,rfl,R,g,fun H1 m1=>?_⟩
  refine⟨_,rfl,?_⟩
  refine zaO (R.same m1) g (hT.same m1) ?_
  rintro x H3 ⟨la,ws,TA,G,mL,hT3,hla⟩
  have h13:=G.h13
  obtain⟨xs,hla3⟩:=TA.la
  obtain⟨dx3,sa3,hp3⟩:=TA.obj
  refine⟨x,dx3,_,rfl,hp3,wO _ _ _ _,x,la,b,_,ws,1,rfl,TA,G,by decide,fun L4 H4 hL4 TA4 m4 hL4'=>?_⟩
  refine kk _ H4 ?_ (Xn ((SameL.of m1).trans mL) (m1.free hla) m4) (hT3.off hla3 m4)
  by_cases z:yt (zs.map (·.2)) b ws.length<yt (zs.map (·.2)) b (ws.length+1)
  ·rw [decide_eq_true z]
   exact .inl ⟨rfl,JP G.ne G.s b2 z⟩
  ·rw [decide_eq_false z]
   exact .inr ⟨rfl,fun k hk=>Nat.lt_of_lt_of_le (XH G.ne G.s b2 z hk) (Nat.pow_le_pow_right (by omega) h13)⟩
def xM (T0 CEndless:Addr):Sp:=fun vs H Q E=>∃ (r:Addr) (b:Nat) (bl:Addr) (zs:List (Addr×List Int)),vs=[.ref r]∧RuleAt H r b bl zs∧zO b (zs.map (·.2))∧LT T0 H∧(End (zs.map (·.2)) b->∀ H',SameL T0 H H'->LT T0 H'->E (.ref CEndless) none H')∧((∀ g,gd (zs.map (·.2)) b g=true->g<b^13)->∀ v H',GreatG (zs.map (·.2)) b v->SameL T0 H H'->LT T0 H'->Q v H')
theorem uD:zF ["rule","tails","many"] ["rule"] (zq yS):=⟨rfl,rfl,rfl,by decide +kernel,rfl,by decide +kernel,by decide +kernel⟩
theorem Xr {CEndless:Addr} {f f1 f3 f4 f5 f6:Addr} {fd fd1 fd3 fd4 fd5 fd6:FuncData} (D:Df K mg "greatest_good" yS ["rule"] f fd) (wH:Df K mg "check_rule" vY ["thing"] f1 fd1) (vC:FnOk P w K mg base CX0 7 f1 fd1 ["thing"] uH) (XJ:Mk K C f3) (Xj:Binds K fd3 ["self","rule"] []) (vG:FnOk P w K mg base CX0 7 f3 fd3 ["self","rule"] (Zc T0 C))
  (yo:Mt K C "Tails.are_endless" "are_endless" yN ["self"] f4 fd4) (yz:FnOk P w K mg base CX0 4 f4 fd4 ["self"] (ud C)) (zY:Mt K C "Tails.many_within" "many_within" yM ["self","size"] f5 fd5) (yp:FnOk P w K mg base CX0 3 f5 fd5 ["self","size"] (vW C))
  (wQ:Mt K C "Tails.number_at" "number_at" wg ["self","size","k"] f6 fd6) (uC:FnOk P w K mg base CX0 5 f6 fd6 ["self","size","k"] (jK C)) (zB:ClT K mg C) (x_Endless:zeU K mg "Endless" CEndless):FnOk P w K mg base (CX1 P w) 9 f fd ["rule"] (xM T0 CEndless):=by
 refine D.fn.ok1 uD (fun vs H Q E h=>?_) (fun cdv A outer s H vs Q E hr h=>?_)
 ·obtain⟨r,b,bl,zs,rfl,_⟩:=h;rfl
 ·obtain⟨r,b,bl,zs,rfl,R,g,hT,kE,kk⟩:=h
  have b2:=g.b2
  refine⟨_,(zp (vd (zP wH vC (hr.mono (by decide)) (zf (pv 0) zm)))
   (zp (zG (i:=1) uD.nd rfl (Or.inl rfl) (zaY XJ vG (hr.mono (by decide)) rfl zB.nm Xj .nil JK (zf (pv 0) zm)))
   (zp (xU (vq (zcY yo zB.cl yz (hr.mono (by decide)) (pv 1)))
    (zx (zbU x_Endless zc7 rfl (zf zeB zm)))
    yl)
   (zp (zG (i:=2) uD.nd rfl (Or.inl rfl) (Zd zY zB.cl yp (hr.mono (by decide)) (pv 1) (zf (qM K (pv 1)) zm)))
   (zp (xU (zM Uo (pv 2) zr (zU _))
    (zx (zH uo))
    yl)
   (zx (zH (Zd wQ zB.cl uC (hr.mono (by decide)) (pv 1) (zf (qM K (pv 1)) (zf (zQ Ve (pv 2) zr) zm)))))))))),?_⟩
  refine⟨_,rfl,r,b,bl,zs,rfl,R,g,fun H1 m1=>?_⟩
  refine⟨_,rfl,?_⟩
  refine zaO (R.same m1) g (hT.same m1) ?_
  rintro x H3 ⟨la,ws,TA,G,mL,hT3,hla⟩
  have h13:=G.h13
  obtain⟨xs,hla3⟩:=TA.la
  obtain⟨dx3,sa3,hp3⟩:=TA.obj
  refine⟨_,rfl,x,dx3,_,rfl,hp3,wO _ _ _ _,x,la,b,_,ws,1,rfl,TA,G,by decide,fun L4 H4 hL4 TA4 m4 hL4'=>⟨_,rfl,?_⟩⟩
  by_cases hne:yt (zs.map (·.2)) b ws.length<yt (zs.map (·.2)) b (ws.length+1)
  ·rw [decide_eq_true hne]
   exact wI ⟨by show 1≤sizeLine;decide,kE (JP G.ne G.s b2 hne) H4 (Xn ((SameL.of m1).trans mL) (m1.free hla) m4) (hT3.off hla3 m4)⟩
  rw [decide_eq_false hne]
  refine xj ?_
  have hpre:∀ k,gd (zs.map (·.2)) b k=true->k<b^13:=fun k hk=>Nat.lt_of_lt_of_le (XH G.ne G.s b2 hne hk) (Nat.pow_le_pow_right (by omega) h13)
  have kk:=kk hpre
  obtain⟨dx4,sa4,hp4⟩:=TA4.obj
  refine⟨_,rfl,x,dx4,_,rfl,hp4,wO _ _ _ _,_,rfl,x,C,dx4,_,_,rfl,hp4,zB.cl,zB.n_outset,wF _ _ _ _,x,la,b,_,ws,L4,ws.length,rfl,TA4,G,by omega,by omega,fun L5 H5 hL5 TA5 m5 hmx=>?_⟩
  rw [yu G.ne b2]
  have m45:=m4.trans m5
  have fin:∀ H',Same (aw [la] H5) (aw [la] H')->SameL T0 H H'∧LT T0 H':=fun H' m'=>⟨Xn ((SameL.of m1).trans mL) (m1.free hla) (m45.trans m'),hT3.off hla3 (m45.trans m')⟩
  have hall:∀ k,gd (zs.map (·.2)) b k=true->k<b^ws.length:=fun k hk=>XH G.ne G.s b2 hne hk
  refine⟨_,rfl,rfl,_,rfl,?_⟩
  refine V3 (fun hz=>?_) (fun hz=>?_)
  ·have e:many (gd (zs.map (·.2)) b) (b^ws.length)=0:=by
    have z:=of_decide_eq_true hz
    injection z with z
    omega
   obtain⟨a1,a2⟩:=fin H5 (Same.refl _)
   refine kk _ H5 (.inl ⟨rfl,fun k=>?_⟩) a1 a2
   cases hk:gd (zs.map (·.2)) b k with
   | false=>rfl
   | true =>
    have:=vI _ (hall k hk) hk
    omega
  ·have e:¬ many (gd (zs.map (·.2)) b) (b^ws.length)=0:=fun z=>hz (decide_eq_true (by rw [z];rfl))
   obtain⟨dx5,sa5,hp5⟩:=TA5.obj
   refine⟨_,rfl,x,dx5,_,rfl,hp5,wO _ _ _ _,_,rfl,x,C,dx5,_,_,rfl,hp5,zB.cl,zB.n_outset,wF _ _ _ _,_,rfl,_,_,rfl,rfl,x,la,b,_,ws,L5,ws.length,many (gd (zs.map (·.2)) b) (b^ws.length)-1,?_,TA5,G,by omega,by omega,by omega,fun q hg hm hq L6 H6 hL6 TA6 m6 hL6'=>?_⟩
   ·show [V.ref x,V.int (ws.length:Nat),V.int ((many (gd (zs.map (·.2)) b) (b^ws.length):Nat)-1:Int)]=_
    rw [show (((many (gd (zs.map (·.2)) b) (b^ws.length):Nat):Int)-1)=((many (gd (zs.map (·.2)) b) (b^ws.length)-1:Nat):Int) by omega]
   ·obtain⟨a1,a2⟩:=fin H6 m6
    refine kk _ H6 (.inr ⟨q,rfl,hg,hpre q hg,fun k hk=>?_⟩) a1 a2
    refine zag hg ?_
    have:=vI _ (hall k hk) hk
    omega
end
section
variable {P:Program} {w:World} {K:PySem.W.Frag} {mg:Str->Option Value} {base:Heap}
def Zj:Sp:=fun vs H Q _=>∃ (r:Addr) (b:Nat) (bl:Addr) (zs:List (Addr×List Int)),vs=[.ref r]∧RuleAt H r b bl zs∧zs.length≤100 ∧
 ∀ (r' bl':Addr) (zs':List (Addr×List Int)) (H':Hp),Same H H'->RuleAt H' r' b bl' zs'->zs'.map (·.2)=zs.map (·.2)->H bl'=none->H r'=none->(∀ z∈zs',H z.1=none∧z.1≠bl')->Q (.ref r') H'
theorem Jy:zF ["rule"] ["rule"] (zq ql):=⟨rfl,rfl,rfl,by decide +kernel,rfl,by decide +kernel,by decide +kernel⟩
theorem Wa {f:Addr} {fd:FuncData} (D:Df K mg "_law_own" ql ["rule"] f fd) (T:Blt mg):FnOk P w K mg base CX0 1 f fd ["rule"] Zj:=by
 refine D.fn.ok Jy (fun vs H Q E h=>?_) (fun cdv A outer s H vs Q E hr h=>?_)
 ·obtain⟨r,b,bl,zs,rfl,_⟩:=h;rfl
 ·obtain⟨r,b,bl,zs,rfl,R,hl,kk⟩:=h
  refine⟨_,(zx (zH (vh (zf (ym (j5 K) (pv 0) zr (fun _ _=>rfl)) (zf (wJ (show CScope (zq ql) _ "one" ["rule"] [] [] from ⟨rfl,by decide +kernel,by decide +kernel,rfl,by decide +kernel,rfl,by decide +kernel,by decide +kernel⟩) rfl (jJ K (ym (j5 K) (pv 0) zr (fun _ _=>rfl))) (fun _ _ _ _=>yG) (fun _ _ _ _=>(jw (Vb K) (by rfl) T.n_list boot_list (zf (pv 0) zm)))) zm))))),?_⟩
  refine⟨_,rfl,r,_,_,V.int b,rfl,rfl,SqT.of R.tu,rfl,?_⟩
  refine⟨_,rfl,r,_,_,V.ref bl,rfl,rfl,SqT.of R.tu,rfl,bl,rfl,⟨_,SqL.of R.li⟩,wL (K:=K) (a:=bl) (xs:=zs.map fun z=>V.ref z.1) (fun i ys H4=>Same H H4∧∃ ws:List (Addr×List Int),ys=ws.map (fun z=>V.ref z.1)∧ws.length=i∧ws.map (·.2)=(zs.take i).map (·.2)∧∀ z∈ws,H z.1=none∧H4 z.1=some (.lst (z.2.map V.int))) ⟨Same.refl _,[],rfl,rfl,rfl,by simp⟩ (fun i ys H4 _ ⟨e,_⟩=>SqL.of (e _ _ R.li)) ?_ ?_⟩
  ·rintro j x ys H4 hx ⟨s4,ws,rfl,hwl,hw2,hws⟩
   rw [List.getElem?_map] at hx
   obtain⟨z,hzj,e⟩:=Option.map_eq_some_iff.mp hx
   subst e
   have hzm:=List.mem_of_getElem? hzj
   have hj:j<zs.length:=(List.getElem?_eq_some_iff.mp hzj).1
   refine⟨by rw [List.length_map,hwl];exact Nat.lt_of_lt_of_le (show j<101 by omega) (by decide),?_⟩
   unfold qP
   dsimp only
   rw [if_pos rfl]
   refine⟨_,rfl,z.1,_,rfl,.inl (SqL.of (s4 _ _ (R.st z hzm))),fun p hp=>⟨s4.trans (zj hp),ws++[(p,z.2)],by simp,by simp [hwl],?_,fun y hy=>?_⟩⟩
   ·rw [List.map_append,hw2,List.take_succ,hzj];simp
   ·rcases List.mem_append.mp hy with hy | hy
    ·exact⟨(hws y hy).1,zj hp _ _ (hws y hy).2⟩
    ·have e:y=(p,z.2):=by simpa using hy
     subst e
     exact⟨s4.free hp,zg⟩
  ·rintro ys H4 ⟨s4,ws,rfl,hwl,hw2,hws⟩ bl' hbl'
   refine⟨(by show 2≤sizeLine;decide),fun r' hr'=>?_⟩
   have s5:=zj hbl' (o:=.lst (ws.map fun z=>V.ref z.1))
   have s6:=zj hr' (o:=.tup [.int b,.ref bl'])
   refine kk r' bl' ws _ (s4.trans (s5.trans s6)) ⟨zg,s6 _ _ zg,fun z hz=>s6 _ _ (s5 _ _ (hws z hz).2)⟩ ?_ (s4.free hbl') (s4.free (s5.free hr')) fun z hz=>⟨(hws z hz).1,zy (hws z hz).2 hbl'⟩
   rw [hw2,List.length_map,List.take_length]
def X7 (b:Nat) (ls:List (List Int)):Tr:=.tup [.int b,.lst (ls.map yF)]
theorem Uv (b:Nat) (ls:List (List Int)):wC (X7 b ls)≤8:=by
 unfold X7
 rw [wC,yI,yI,yI,wC,wC]
 ·have:=xO ls;omega
 all_goals (intros;rename_i z;cases z)
theorem TrAt.rule {H:Hp} {r bl:Addr} {b:Nat} {zs:List (Addr×List Int)} (R:RuleAt H r b bl zs):TrAt K H (X7 b (zs.map (·.2))) (.ref r):=by
 unfold X7
 rw [TrAt]
 refine⟨r,_,rfl,SqT.of R.tu,?_⟩
 rw [TrsAt]
 refine⟨_,_,rfl,by rw [TrAt],?_⟩
 rw [TrsAt]
 refine⟨_,_,rfl,?_,by rw [TrsAt]⟩
 rw [TrAt]
 exact⟨bl,_,rfl,SqL.of R.li,TrsAt.lists R.st⟩
end
section
variable {P:Program} {w:World} {K:PySem.W.Frag} {mg:Str->Option Value} {base:Heap} {T0:Addr}
def jY (T0 CEndless:Addr):Sp:=fun vs H Q _=>∃ (r:Addr) (b:Nat) (bl:Addr) (zs:List (Addr×List Int)),vs=[.ref r]∧RuleAt H r b bl zs∧zO b (zs.map (·.2))∧LT T0 H∧(End (zs.map (·.2)) b->∀ (l e:Addr) (H':Hp),H' l=some (.lst [.int 0,.ref e])->H' e=some (V5 e CEndless)->SameL T0 H H'->LT T0 H'->Q (.ref l) H')∧((∀ g,gd (zs.map (·.2)) b g=true->g<b^13)->∀ (l:Addr) (v:V) (H':Hp),GreatG (zs.map (·.2)) b v->H' l=some (.lst [v,.non])->SameL T0 H H'->LT T0 H'->Q (.ref l) H')
theorem wR:zF ["rule","caught","found","e"] ["rule"] (zq jf):=⟨rfl,rfl,rfl,by decide +kernel,rfl,by decide +kernel,by decide +kernel⟩
theorem Xb {CEndless CLackError:Addr} {f f1:Addr} {fd fd1:FuncData} (D:Df K mg "_law_told" jf ["rule"] f fd) (zR:Df K mg "greatest_good" yS ["rule"] f1 fd1) (zX:FnOk P w K mg base (CX1 P w) 9 f1 fd1 ["rule"] (xM T0 CEndless)) (h_LackError:Qv K mg "LackError" CLackError) (kt_Endless:PySem.W.kitCls K (.ref CEndless) (.ref CLackError)=some true):FnOk P w K mg base CX0 10 f fd ["rule"] (jY T0 CEndless):=by
 refine D.fn.ok wR (fun vs H Q E h=>?_) (fun cdv A outer s H vs Q E hr h=>?_)
 ·obtain⟨r,b,bl,zs,rfl,_⟩:=h;rfl
 ·obtain⟨r,b,bl,zs,rfl,R,g,lt,kE,kG⟩:=h
  refine⟨_,(zp (zG (i:=1) wR.nd rfl (Or.inl rfl) uo)
   (zp (zG (i:=2) wR.nd rfl (Or.inl rfl) zr)
   (zp (zcO (i:=3) h_LackError rfl rfl wR.nd rfl rfl (fun _ _ _ hS =>
    (zx (zG (i:=2) wR.nd rfl (Or.inl rfl) (Qc zR zX (hr.mono (by decide)) hS (zf (pv 0) zm))))) (fun _ =>
    (zx (zG (i:=1) wR.nd rfl (Or.inl rfl) (pv 3)))))
   (zx (zH (zJ (zf (pv 2) (zf (pv 1) zm)))))))),?_⟩
  refine⟨_,rfl,r,b,bl,zs,rfl,R,g,lt,fun hE H1 s1 lt1=>⟨_,rfl,kt_Endless,fun x hx=>?_⟩,fun hB v H1 hv s1 lt1=>?_⟩
  ·have m1:=zj hx (o:=V5 x CEndless)
   refine⟨_,rfl,_,rfl,_,rfl,(by show 2≤sizeLine;decide),fun l hl=>?_⟩
   have m2:=zj hl (o:=.lst [.int 0,.ref x])
   exact kE hE l x _ zg (m2 _ _ zg) (s1.trans (SameL.of (m1.trans m2))) (lt1.same (m1.trans m2))
  ·refine⟨_,rfl,_,rfl,(by show 2≤sizeLine;decide),fun l hl=>?_⟩
   have m2:=zj hl (o:=.lst [v,.non])
   exact kG hB l v _ hv zg (s1.trans (SameL.of m2)) (lt1.same m2)
end
structure zab (mg:Str->Option Value) (CNoBase CNoNumber CNoFigures CNoRule CNoStand CNoGood CEndless CNoRules CNoStretch CTooMany CNoText CNoName CNoRow:Addr):Prop where
 g_NoBase:mg "NoBase" = some (.ref CNoBase)
 g_NoNumber:mg "NoNumber" = some (.ref CNoNumber)
 g_NoFigures:mg "NoFigures" = some (.ref CNoFigures)
 g_NoRule:mg "NoRule" = some (.ref CNoRule)
 g_NoStand:mg "NoStand" = some (.ref CNoStand)
 g_NoGood:mg "NoGood" = some (.ref CNoGood)
 g_Endless:mg "Endless" = some (.ref CEndless)
 g_NoRules:mg "NoRules" = some (.ref CNoRules)
 g_NoStretch:mg "NoStretch" = some (.ref CNoStretch)
 g_TooMany:mg "TooMany" = some (.ref CTooMany)
 g_NoText:mg "NoText" = some (.ref CNoText)
 g_NoName:mg "NoName" = some (.ref CNoName)
 g_NoRow:mg "NoRow" = some (.ref CNoRow)
structure zcR (K:PySem.W.Frag) (C CNoBase CNoNumber CNoFigures CNoRule CNoStand CNoGood CEndless CNoRules CNoStretch CTooMany CNoText CNoName CNoRow:Addr) (k:Nat):Prop where
 i:V7 K C
 v:PySem.W.kitOne K (.ref C) (.type "ValueError")=some true
 k0:PySem.W.kitOne K (.ref C) (.ref CNoBase)=some (decide (0=k))
 k1:PySem.W.kitOne K (.ref C) (.ref CNoNumber)=some (decide (1=k))
 k2:PySem.W.kitOne K (.ref C) (.ref CNoFigures)=some (decide (2=k))
 k3:PySem.W.kitOne K (.ref C) (.ref CNoRule)=some (decide (3=k))
 k4:PySem.W.kitOne K (.ref C) (.ref CNoStand)=some (decide (4=k))
 k5:PySem.W.kitOne K (.ref C) (.ref CNoGood)=some (decide (5=k))
 k6:PySem.W.kitOne K (.ref C) (.ref CEndless)=some (decide (6=k))
 k7:PySem.W.kitOne K (.ref C) (.ref CNoRules)=some (decide (7=k))
 k8:PySem.W.kitOne K (.ref C) (.ref CNoStretch)=some (decide (8=k))
 k9:PySem.W.kitOne K (.ref C) (.ref CTooMany)=some (decide (9=k))
 k10:PySem.W.kitOne K (.ref C) (.ref CNoText)=some (decide (10=k))
 k11:PySem.W.kitOne K (.ref C) (.ref CNoName)=some (decide (11=k))
 k12:PySem.W.kitOne K (.ref C) (.ref CNoRow)=some (decide (12=k))
theorem Wm:bootBuiltins "ValueError" = some (.type "ValueError"):=by decide +kernel
theorem Qd {K:PySem.W.Frag} {H:Hp}:∀ {bs:List Bool},TrsAt K H (bs.map Tr.bl) (bs.map V.bl)
 | []=>by rw [List.map_nil,List.map_nil,TrsAt]
 | b :: bs=>by rw [List.map_cons,List.map_cons,TrsAt];exact⟨_,_,rfl,by rw [TrAt],Qd⟩
theorem Wz:∀ bs:List Bool,tG (bs.map Tr.bl) (bs.map Tr.bl)=true
 | []=>by rw [List.map_nil,tG]
 | b :: bs=>by rw [List.map_cons,tG,Wz bs,teq];simp
theorem Wf:∀ bs:List Bool,yI (bs.map Tr.bl)=0
 | []=>by rw [List.map_nil,yI]
 | b :: bs=>by rw [List.map_cons,yI,Wf bs];rfl
section
variable {P:Program} {w:World} {K:PySem.W.Frag} {mg:Str->Option Value} {base:Heap}
def jk (K:PySem.W.Frag) (CNoBase CNoNumber CNoFigures CNoRule CNoStand CNoGood CEndless CNoRules CNoStretch CTooMany CNoText CNoName CNoRow:Addr):Sp:=fun vs H Q _=>∃ (e C:Addr) (k:Nat),vs=[.ref e,.int k]∧H e=some (V5 e C)∧zcR K C CNoBase CNoNumber CNoFigures CNoRule CNoStand CNoGood CEndless CNoRules CNoStretch CTooMany CNoText CNoName CNoRow k∧k<13∧∀ H',Same H H'->Q (.bl true) H'
theorem xZ:zF ["caught","due","kinds"] ["caught","due"] (zq vK):=⟨rfl,rfl,rfl,by decide +kernel,rfl,by decide +kernel,by decide +kernel⟩
set_option maxHeartbeats 0 in
theorem Z7 {CNoBase CNoNumber CNoFigures CNoRule CNoStand CNoGood CEndless CNoRules CNoStretch CTooMany CNoText CNoName CNoRow:Addr} {f:Addr} {fd:FuncData} (D:Df K mg "_law_kinds" vK ["caught","due"] f fd) (XN:zab mg CNoBase CNoNumber CNoFigures CNoRule CNoStand CNoGood CEndless CNoRules CNoStretch CTooMany CNoText CNoName CNoRow) (n_ValueError:mg "ValueError" = none) (T:Blt mg):FnOk P w K mg base CX0 1 f fd ["caught","due"] (jk K CNoBase CNoNumber CNoFigures CNoRule CNoStand CNoGood CEndless CNoRules CNoStretch CTooMany CNoText CNoName CNoRow):=by
 obtain⟨g_NoBase,g_NoNumber,g_NoFigures,g_NoRule,g_NoStand,g_NoGood,g_Endless,g_NoRules,g_NoStretch,g_TooMany,g_NoText,g_NoName,g_NoRow⟩:=XN
 refine D.fn.ok xZ (fun vs H Q E h=>?_) (fun cdv A outer s H vs Q E hr h=>?_)
 ·obtain⟨e,C,k,rfl,_⟩:=h;rfl
 ·obtain⟨e,C,k,rfl,he,Kd,hk,kk⟩:=h
  have HU:=Xe hr
  refine⟨_,(zp (zG (i:=2) xZ.nd rfl (Or.inl rfl) (zJ (zf (zz (ul K) (by rfl) T.n_isinstance boot_isinstance (zf (pv 0) (zf (yX (v:=.ref CNoBase) rfl g_NoBase rfl) zm))) (zf (zz (ul K) (by rfl) T.n_isinstance boot_isinstance (zf (pv 0) (zf (yX (v:=.ref CNoNumber) rfl g_NoNumber rfl) zm))) (zf (zz (ul K) (by rfl) T.n_isinstance boot_isinstance (zf (pv 0) (zf (yX (v:=.ref CNoFigures) rfl g_NoFigures rfl) zm))) zm)))))
   (zp (zG (i:=2) xZ.nd rfl (Or.inl rfl) (zQ qC (pv 2) (zJ (zf (zz (ul K) (by rfl) T.n_isinstance boot_isinstance (zf (pv 0) (zf (yX (v:=.ref CNoRule) rfl g_NoRule rfl) zm))) (zf (zz (ul K) (by rfl) T.n_isinstance boot_isinstance (zf (pv 0) (zf (yX (v:=.ref CNoStand) rfl g_NoStand rfl) zm))) (zf (zz (ul K) (by rfl) T.n_isinstance boot_isinstance (zf (pv 0) (zf (yX (v:=.ref CNoGood) rfl g_NoGood rfl) zm))) zm))))))
   (zp (zG (i:=2) xZ.nd rfl (Or.inl rfl) (zQ qC (pv 2) (zJ (zf (zz (ul K) (by rfl) T.n_isinstance boot_isinstance (zf (pv 0) (zf (yX (v:=.ref CEndless) rfl g_Endless rfl) zm))) (zf (zz (ul K) (by rfl) T.n_isinstance boot_isinstance (zf (pv 0) (zf (yX (v:=.ref CNoRules) rfl g_NoRules rfl) zm))) (zf (zz (ul K) (by rfl) T.n_isinstance boot_isinstance (zf (pv 0) (zf (yX (v:=.ref CNoStretch) rfl g_NoStretch rfl) zm))) zm))))))
   (zp (zG (i:=2) xZ.nd rfl (Or.inl rfl) (zQ qC (pv 2) (zJ (zf (zz (ul K) (by rfl) T.n_isinstance boot_isinstance (zf (pv 0) (zf (yX (v:=.ref CTooMany) rfl g_TooMany rfl) zm))) (zf (zz (ul K) (by rfl) T.n_isinstance boot_isinstance (zf (pv 0) (zf (yX (v:=.ref CNoText) rfl g_NoText rfl) zm))) (zf (zz (ul K) (by rfl) T.n_isinstance boot_isinstance (zf (pv 0) (zf (yX (v:=.ref CNoName) rfl g_NoName rfl) zm))) zm))))))
   (zp (zG (i:=2) xZ.nd rfl (Or.inl rfl) (zQ qC (pv 2) (zJ (zf (zz (ul K) (by rfl) T.n_isinstance boot_isinstance (zf (pv 0) (zf (yX (v:=.ref CNoRow) rfl g_NoRow rfl) zm))) (zf (zai (zz (ul K) (by rfl) T.n_isinstance boot_isinstance (zf (pv 0) (zf (jg (v:=.ty "ValueError") rfl n_ValueError Wm rfl) zm)))) zm)))))
   (zx (zH (jD (uJ Y4 (pv 0) uo (zU _)) (jT (uJ (JM K HU) (pv 2) (wJ (show CScope (zq vK) _ "k" ["caught","due","kinds"] ["due"] [1] from ⟨rfl,by decide +kernel,by decide +kernel,rfl,by decide +kernel,rfl,by decide +kernel,by decide +kernel⟩) rfl (yE rfl T.n_range (zf zr zm)) (fun _ _ _ _=>yG) (fun _ _ _ _=>(uJ Uo (pv 0) (pv 1) (zU _)))) (zU _))))))))))),?_⟩
  show Xu _ _ _ _ _
  refine Tp.asg2 (w:=idV) (Γ:=[some (tyX e C),none,none]) (T1:=Zb [V.bl (decide (0=k)),V.bl (decide (1=k)),V.bl (decide (2=k))]) (Tp.lstE (TpE.cons (Tp.isiC rfl Kd.i Kd.k0) (TpE.cons (Tp.isiC rfl Kd.i Kd.k1) (TpE.cons (Tp.isiC rfl Kd.i Kd.k2) TpE.nil)))) trivial (Fits.cons ⟨rfl,he⟩ (Fits.skip (Fits.skip Fits.nil))) fun v1 H1 _ s1 t1=>?_
  have m1:Same H H1:=s1
  show Xu _ _ _ _ _
  refine Tp.asg2 (w:=idV) (Γ:=[some (tyX e C),none,some (Zb [V.bl (decide (0=k)),V.bl (decide (1=k)),V.bl (decide (2=k))])]) (T1:=Zb ([V.bl (decide (0=k)),V.bl (decide (1=k)),V.bl (decide (2=k))]++[V.bl (decide (3=k)),V.bl (decide (4=k)),V.bl (decide (5=k))])) (Tp.catE (Tp.var rfl) (Tp.lstE (TpE.cons (Tp.isiC rfl Kd.i Kd.k3) (TpE.cons (Tp.isiC rfl Kd.i Kd.k4) (TpE.cons (Tp.isiC rfl Kd.i Kd.k5) TpE.nil))))) trivial (Fits.cons ⟨rfl,m1 _ _ he⟩ (Fits.skip (Fits.cons t1 Fits.nil))) fun v2 H2 _ s2 t2=>?_
  have t2:(Zb [V.bl (decide (0=k)),V.bl (decide (1=k)),V.bl (decide (2=k)),V.bl (decide (3=k)),V.bl (decide (4=k)),V.bl (decide (5=k))]).p H2 v2:=t2
  have m2:Same H H2:=m1.trans s2
  show Xu _ _ _ _ _
  refine Tp.asg2 (w:=idV) (Γ:=[some (tyX e C),none,some (Zb [V.bl (decide (0=k)),V.bl (decide (1=k)),V.bl (decide (2=k)),V.bl (decide (3=k)),V.bl (decide (4=k)),V.bl (decide (5=k))])]) (T1:=Zb ([V.bl (decide (0=k)),V.bl (decide (1=k)),V.bl (decide (2=k)),V.bl (decide (3=k)),V.bl (decide (4=k)),V.bl (decide (5=k))]++[V.bl (decide (6=k)),V.bl (decide (7=k)),V.bl (decide (8=k))])) (Tp.catE (Tp.var rfl) (Tp.lstE (TpE.cons (Tp.isiC rfl Kd.i Kd.k6) (TpE.cons (Tp.isiC rfl Kd.i Kd.k7) (TpE.cons (Tp.isiC rfl Kd.i Kd.k8) TpE.nil))))) trivial (Fits.cons ⟨rfl,m2 _ _ he⟩ (Fits.skip (Fits.cons t2 Fits.nil))) fun v3 H3 _ s3 t3=>?_
  have t3:(Zb [V.bl (decide (0=k)),V.bl (decide (1=k)),V.bl (decide (2=k)),V.bl (decide (3=k)),V.bl (decide (4=k)),V.bl (decide (5=k)),V.bl (decide (6=k)),V.bl (decide (7=k)),V.bl (decide (8=k))]).p H3 v3:=t3
  have m3:Same H H3:=m2.trans s3
  show Xu _ _ _ _ _
  refine Tp.asg2 (w:=idV) (Γ:=[some (tyX e C),none,some (Zb [V.bl (decide (0=k)),V.bl (decide (1=k)),V.bl (decide (2=k)),V.bl (decide (3=k)),V.bl (decide (4=k)),V.bl (decide (5=k)),V.bl (decide (6=k)),V.bl (decide (7=k)),V.bl (decide (8=k))])]) (T1:=Zb ([V.bl (decide (0=k)),V.bl (decide (1=k)),V.bl (decide (2=k)),V.bl (decide (3=k)),V.bl (decide (4=k)),V.bl (decide (5=k)),V.bl (decide (6=k)),V.bl (decide (7=k)),V.bl (decide (8=k))]++[V.bl (decide (9=k)),V.bl (decide (10=k)),V.bl (decide (11=k))])) (Tp.catE (Tp.var rfl) (Tp.lstE (TpE.cons (Tp.isiC rfl Kd.i Kd.k9) (TpE.cons (Tp.isiC rfl Kd.i Kd.k10) (TpE.cons (Tp.isiC rfl Kd.i Kd.k11) TpE.nil))))) trivial (Fits.cons ⟨rfl,m3 _ _ he⟩ (Fits.skip (Fits.cons t3 Fits.nil))) fun v4 H4 _ s4 t4=>?_
  have t4:(Zb [V.bl (decide (0=k)),V.bl (decide (1=k)),V.bl (decide (2=k)),V.bl (decide (3=k)),V.bl (decide (4=k)),V.bl (decide (5=k)),V.bl (decide (6=k)),V.bl (decide (7=k)),V.bl (decide (8=k)),V.bl (decide (9=k)),V.bl (decide (10=k)),V.bl (decide (11=k))]).p H4 v4:=t4
  have m4:Same H H4:=m3.trans s4
  show Xu _ _ _ _ _
  refine Tp.asg2 (w:=idV) (Γ:=[some (tyX e C),none,some (Zb [V.bl (decide (0=k)),V.bl (decide (1=k)),V.bl (decide (2=k)),V.bl (decide (3=k)),V.bl (decide (4=k)),V.bl (decide (5=k)),V.bl (decide (6=k)),V.bl (decide (7=k)),V.bl (decide (8=k)),V.bl (decide (9=k)),V.bl (decide (10=k)),V.bl (decide (11=k))])]) (T1:=Zb ([V.bl (decide (0=k)),V.bl (decide (1=k)),V.bl (decide (2=k)),V.bl (decide (3=k)),V.bl (decide (4=k)),V.bl (decide (5=k)),V.bl (decide (6=k)),V.bl (decide (7=k)),V.bl (decide (8=k)),V.bl (decide (9=k)),V.bl (decide (10=k)),V.bl (decide (11=k))]++[V.bl (decide (12=k)),V.bl (!true)])) (Tp.catE (Tp.var rfl) (Tp.lstE (TpE.cons (Tp.isiC rfl Kd.i Kd.k12) (TpE.cons (Tp.notB (Tp.isiV rfl Kd.i Kd.v)) TpE.nil)))) trivial (Fits.cons ⟨rfl,m4 _ _ he⟩ (Fits.skip (Fits.cons t4 Fits.nil))) fun v5 H5 _ s5 t5=>?_
  have t5:(Zb [V.bl (decide (0=k)),V.bl (decide (1=k)),V.bl (decide (2=k)),V.bl (decide (3=k)),V.bl (decide (4=k)),V.bl (decide (5=k)),V.bl (decide (6=k)),V.bl (decide (7=k)),V.bl (decide (8=k)),V.bl (decide (9=k)),V.bl (decide (10=k)),V.bl (decide (11=k)),V.bl (decide (12=k)),V.bl (!true)]).p H5 v5:=t5
  have m5:Same H H5:=m4.trans s5
  obtain⟨l5,rfl,h5⟩:=t5
  have e5:[V.bl (decide (0=k)),V.bl (decide (1=k)),V.bl (decide (2=k)),V.bl (decide (3=k)),V.bl (decide (4=k)),V.bl (decide (5=k)),V.bl (decide (6=k)),V.bl (decide (7=k)),V.bl (decide (8=k)),V.bl (decide (9=k)),V.bl (decide (10=k)),V.bl (decide (11=k)),V.bl (decide (12=k)),V.bl (!true)]=((List.range 14).map fun j=>decide (j=k)).map V.bl:=by
   show _=[V.bl (decide (0=k)),V.bl (decide (1=k)),V.bl (decide (2=k)),V.bl (decide (3=k)),V.bl (decide (4=k)),V.bl (decide (5=k)),V.bl (decide (6=k)),V.bl (decide (7=k)),V.bl (decide (8=k)),V.bl (decide (9=k)),V.bl (decide (10=k)),V.bl (decide (11=k)),V.bl (decide (12=k)),V.bl (decide (13=k))]
   rw [decide_eq_false (show ¬ 13=k by omega)]
   rfl
  rw [e5] at h5
  have h5:H5 l5=some (.lst (((List.range 14).map fun j=>decide (j=k)).map V.bl)):=h5
  refine⟨_,rfl,rfl,_,rfl,wI ?_⟩
  refine⟨_,rfl,14,rfl,by decide,by decide,xR (lo:=0) (n:=(14:Int).toNat) (fun i ys H6=>ys=((List.range i).map fun j=>decide (j=k)).map V.bl∧H6=H5) ⟨rfl,rfl⟩ ?_ ?_⟩
  ·rintro i ys H6 hi ⟨rfl,rfl⟩
   have hi:i<14:=hi
   refine⟨by rw [List.length_map,List.length_map,List.length_range];exact Nat.lt_of_lt_of_le hi (by decide),?_⟩
   unfold qP
   dsimp only
   rw [if_pos rfl]
   refine⟨_,rfl,_,rfl,rfl,?_,rfl⟩
   rw [List.range_succ,List.map_append,List.map_append]
   have e:decide (V.int (0+(i:Int))=V.int (k:Int))=decide (i=k):=decide_eq_decide.mpr ⟨fun z=>by injection z with z;omega,fun z=>by rw [z,Int.zero_add]⟩
   rw [e];rfl
  ·rintro ys H6 ⟨rfl,rfl⟩ Dd hD
   have mD:=zj hD (o:=.lst (((List.range (14:Int).toNat).map fun j=>decide (j=k)).map V.bl))
   refine⟨.lst (((List.range 14).map fun j=>decide (j=k)).map Tr.bl),.lst (((List.range 14).map fun j=>decide (j=k)).map Tr.bl),?_,?_,?_,?_⟩
   ·rw [TrAt];exact⟨l5,_,rfl,SqL.of (mD _ _ h5),Qd⟩
   ·rw [TrAt];exact⟨Dd,_,rfl,SqL.of zg,Qd⟩
   ·rw [wC,Wf];decide
   ·have q:=kk _ (m5.trans mD)
    rw [← show teq (.lst (((List.range 14).map fun j=>decide (j=k)).map Tr.bl)) (.lst (((List.range 14).map fun j=>decide (j=k)).map Tr.bl))=true by rw [teq];exact Wz _] at q
    exact q
end
theorem zap {ls:List (List Int)} {x:List Int} (h:jj ls x):lacks ls x=true∧zA ls x=x:=by
 rcases h with rfl | ⟨st,hst,k,h1,h2,rfl,h3⟩
 ·refine⟨?_,rfl⟩
  unfold lacks
  rw [Bool.not_eq_true',List.any_eq_false]
  intro st _ h
  simp [u9] at h
 ·refine⟨h3,Vq ?_⟩
  unfold tD
  rw [List.any_eq_true]
  refine⟨st,hst,decide_eq_true ?_⟩
  rw [List.length_take,Nat.min_eq_left (by omega)]
def Qz (ls:List (List Int)) (x:List Int) (a n:Nat):List Nat:=((List.range n).map (a+·)).filter fun (c:Nat)=>lacks ls (x++[(c:Int)])
def Vj (ls:List (List Int)) (b t:Nat) (x:List Int) (a n:Nat):Nat:=((Qz ls x a n).map fun (c:Nat)=>cnt ls b t (zA ls (x++[(c:Int)]))).sum
theorem Jl (ls:List (List Int)) (x:List Int) (a n:Nat):Qz ls x a (n+1)=Qz ls x a n++(if lacks ls (x++[((a+n:Nat):Int)])=true then [a+n] else []):=by
 unfold Qz
 rw [List.range_succ,List.map_append,List.filter_append]
 congr 1
 rw [List.map_cons,List.map_nil,List.filter_cons]
 split<;>rfl
theorem Vd (ls:List (List Int)) (b t:Nat) (x:List Int) (a n:Nat):Vj ls b t x a (n+1)=Vj ls b t x a n+Z8 ls b t (some x) (a+n):=by
 unfold Vj
 rw [Jl,List.map_append,List.sum_append]
 congr 1
 show _=if lacks ls (x++[((a+n:Nat):Int)])=true then _ else 0
 split<;>simp
theorem X8 (ls:List (List Int)) (b t:Nat) (x:List Int):∀ n,Vj ls b t x 0 n=under ls b t (some x) n
 | 0=>rfl
 | n+1=>by rw [Vd,X8,qK,Nat.zero_add]
theorem YL (ls:List (List Int)) (b t:Nat):∀ n,yt ls b t+Vj ls b t [] 1 n=under ls b t none (n+1)
 | 0=>by
  rw [qK,Yo]
  show yt ls b t+0=0+(if (0:Nat)=0 then yt ls b t else if lacks ls [((0:Nat):Int)]=true then cnt ls b t (zA ls [((0:Nat):Int)]) else 0)
  rw [if_pos rfl]
  omega
 | n+1=>by
  rw [Vd,← Nat.add_assoc,YL,qK ls b t none (n+1)]
  congr 1
  show (if lacks ls ([]++[((1+n:Nat):Int)])=true then cnt ls b t (zA ls ([]++[((1+n:Nat):Int)])) else 0)=if n+1=0 then yt ls b t else if lacks ls [((n+1:Nat):Int)]=true then cnt ls b t (zA ls [((n+1:Nat):Int)]) else 0
  rw [if_neg (by omega:¬ n+1=0),Nat.add_comm 1 n]
  rfl
def PartN (ls:List (List Int)) (b n L k:Nat) (o:Option (List Int)) (tot:Nat):Prop :=
 (k=0∧o=some []∧tot=yt ls b (L-1))∨(1≤k∧gd ls b (n / b^(L-k))=true∧o=some (zA ls (yf b (n / b^(L-k))))∧tot=many (gd ls b) (n / b^(L-k)*b^(L-k)))∨(1≤k∧o=none∧tot=many (gd ls b) n)
theorem PartN.rep {ls:List (List Int)} {b n L k:Nat} {x:List Int} {tot:Nat} (h2:2≤b) (hn:0<n) (hL:(yf b n).length=L) (hk:k<L) (p:PartN ls b n L k (some x) tot) :
  ∃ o,Rep ls b (n / b^(L-k)) o∧((k=0∧x=[]∧o=none∧tot=yt ls b (L-1))∨(1≤k∧o=some x∧tot=many (gd ls b) (n / b^(L-k)*b^(L-k)))):=by
 rcases p with ⟨rfl,e,t⟩ | ⟨h1,g,e,t⟩ | ⟨h1,e,_⟩
 ·cases e
  have:n / b^(L-0)=0:=Nat.div_eq_of_lt (uU h2 hL)
  exact⟨none,.inl ⟨this,rfl⟩,.inl ⟨rfl,rfl,rfl,t⟩⟩
 ·cases e
  refine⟨_,.inr ⟨?_,g,rfl⟩,.inr ⟨h1,rfl,t⟩⟩
  have hs:=(qL (k:=L-1) h2).mp (by rw [hL];omega)
  have hp:0<b^(L-k):=Nat.pow_pos (by omega)
  have:b^(L-k)≤n:=by
   rcases hs.2 with z | z
   ·omega
   ·exact Nat.le_trans (Nat.pow_le_pow_right (by omega) (by omega)) z
  exact Nat.div_pos this hp
 ·cases e
theorem PartN.next {ls:List (List Int)} (ne:∀ l∈ls,l≠[]) {b n L k:Nat} {x:List Int} {tot:Nat} (h2:2≤b) (hn:0<n) (hL:(yf b n).length=L) (hk:k<L) (p:PartN ls b n L k (some x) tot) {c:Nat} (hc:(yf b n)[k]?=some (c:Int)) :
  c<b∧(k=0->1≤c)∧PartN ls b n L (k+1) (aft ls x c) (tot+Vj ls b (L-1-k) x (if k=0 then 1 else 0) (c-(if k=0 then 1 else 0))):=by
 have ec:c=(n / b^(L-1-k)) % b:=by
  rw [zcF h2 hL hk] at hc
  have hc:((n / b^(L-1-k) % b:Nat):Int)=(c:Int):=by simpa using hc
  omega
 have hcb:c<b:=by rw [ec];exact Nat.mod_lt _ (by omega)
 have et:L-k=L-1-k+1:=by omega
 have htop:n / b^(L-1-k)=n / b^(L-k)*b+c:=by rw [et,ec];exact zcV (by omega)
 obtain⟨o,R,hor⟩:=p.rep h2 hn hL hk
 have hu:=qD ne h2 R (L-1-k) (s:=c) (by omega)
 have hs:=R.step ne h2 hcb
 rw [← et,← htop] at hu
 have hstep:c≠0∨k≠0:=by
  by_cases hk0:k=0
  ·left
   intro hc0
   have hs:=(qL (k:=L-1) h2).mp (by rw [hL];omega)
   have z:n / b^(L-k)=0:=by rw [hk0];exact Nat.div_eq_of_lt (uU h2 hL)
   rw [z,hc0,hk0] at htop
   have hlt:n<b^(L-1):=by
    have hp:0<b^(L-1):=Nat.pow_pos (by omega)
    have:n / b^(L-1)=0:=by simpa using htop
    rcases Nat.div_eq_zero_iff.mp this with q | q
    ·omega
    ·exact q
   rcases hs.2 with q | q
   ·rw [q,Nat.pow_zero] at hlt;omega
   ·omega
  ·exact .inr hk0
 have hm1:1≤n / b^(L-1-k):=by
  rcases hor with ⟨rfl,_,_,_⟩ | ⟨h1,rfl,_⟩
  ·rw [htop];rcases hstep with q | q
   ·omega
   ·exact absurd rfl q
  ·rcases R with ⟨_,z⟩ | ⟨z,_⟩
   ·cases z
   ·rw [htop];exact UV h2 z
 refine⟨hcb,fun z=>by rcases hstep with q | q;omega;exact absurd z q,?_⟩
 have etot:tot+Vj ls b (L-1-k) x (if k=0 then 1 else 0) (c-(if k=0 then 1 else 0))=many (gd ls b) (n / b^(L-1-k)*b^(L-1-k)):=by
  rcases hor with ⟨rfl,rfl,rfl,rfl⟩ | ⟨h1,rfl,rfl⟩
  ·rw [if_pos rfl]
   have q:=YL ls b (L-1) (c-1)
   have hc1:1≤c:=by rcases hstep with q | q;omega;exact absurd rfl q
   rw [show c-1+1=c by omega] at q
   have e0:L-1-0=L-1:=Nat.sub_zero _
   rw [e0] at hu ⊢
   rw [q,← hu]
   have z:n / b^(L-0)=0:=Nat.div_eq_of_lt (uU h2 hL)
   rw [z,Nat.zero_mul]
   simp [many]
  ·rw [if_neg (by omega),Nat.sub_zero,X8,hu]
 rw [etot]
 have eL:L-(k+1)=L-1-k:=by omega
 have key:(lacks ls (x++[(c:Int)])=true->gd ls b (n / b^(L-1-k))=true∧zA ls (x++[(c:Int)])=zA ls (yf b (n / b^(L-1-k))))∧(lacks ls (x++[(c:Int)])=false->gd ls b (n / b^(L-1-k))=false):=by
  rcases hor with ⟨rfl,rfl,rfl,_⟩ | ⟨h1,rfl,_⟩
  ·have z:n / b^(L-0)=0:=Nat.div_eq_of_lt (uU h2 hL)
   rw [z,Nat.zero_mul,Nat.zero_add] at htop
   rw [htop]
   unfold gd
   rw [w5 hcb]
   exact⟨fun h=>⟨h,rfl⟩,fun h=>h⟩
  ·rcases R with ⟨_,z⟩ | ⟨z1,z2,z3⟩
   ·cases z
   ·cases z3
    rw [htop]
    unfold gd at z2 ⊢
    rw [wG h2 z1 hcb,← yC ne (c:Int) z2,yx]
    exact⟨fun h=>⟨h,rfl⟩,fun h=>h⟩
 unfold aft
 cases hl:lacks ls (x++[(c:Int)]) with
 | true =>
  obtain⟨g,e⟩:=key.1 hl
  rw [if_pos rfl]
  exact .inr (.inl ⟨by omega,by rw [eL];exact g,by rw [eL,e],by rw [eL]⟩)
 | false =>
  have g:=key.2 hl
  rw [if_neg Bool.false_ne_true]
  refine .inr (.inr ⟨by omega,rfl,?_⟩)
  have hb:=zcU ne h2 hm1 g (L-1-k) (r:=n % b^(L-1-k)) (Nat.le_of_lt (Nat.mod_lt _ (Nat.pow_pos (by omega))))
  have en:n / b^(L-1-k)*b^(L-1-k)+n % b^(L-1-k)=n:=by rw [Nat.mul_comm];exact Nat.div_add_mod n _
  rw [en] at hb
  exact hb.symm
theorem PartN.done {ls:List (List Int)} {b n L:Nat} {o:Option (List Int)} {tot:Nat} (hL:1≤L) (p:PartN ls b n L L o tot):tot=many (gd ls b) n:=by
 rcases p with ⟨z,_⟩ | ⟨_,_,_,t⟩ | ⟨_,_,t⟩
 ·omega
 ·rw [t,Nat.sub_self,Nat.pow_zero,Nat.div_one,Nat.mul_one]
 ·exact t
def zb5 (ls F:List (List Int)) (x:List Int):List (List Int):=if x∈F then F else if lacks ls x=true then F++[x] else F
def Z2 (ls:List (List Int)) (st:List Int):Nat->List (List Int)->List (List Int)
 | 0,F=>F
 | j+1,F=>zb5 ls (Z2 ls st j F) (st.take (j+1))
def Wj (ls xs:List (List Int)):List (List Int):=xs.foldl (fun F st=>Z2 ls st (st.length-1) F) [[]]
theorem zb0 {ls F:List (List Int)} {x y:List Int}:y∈zb5 ls F x↔y∈F∨(y=x∧lacks ls y=true):=by
 unfold zb5
 by_cases h:x∈F
 ·rw [if_pos h]
  exact⟨.inl,fun z=>z.elim id fun z=>by rw [z.1];exact h⟩
 ·rw [if_neg h]
  by_cases h2:lacks ls x=true
  ·rw [if_pos h2,List.mem_append,List.mem_singleton]
   exact⟨fun z=>z.imp id fun z=>⟨z,by rw [z];exact h2⟩,fun z=>z.imp id fun z=>z.1⟩
  ·rw [if_neg h2]
   exact⟨.inl,fun z=>z.elim id fun z=>absurd (by rw [← z.1];exact z.2) h2⟩
theorem Uh {ls F:List (List Int)} {st y:List Int}:∀ {j:Nat},y∈Z2 ls st j F↔y∈F∨∃ k,1≤k∧k≤j∧y=st.take k∧lacks ls y=true
 | 0=>⟨.inl,fun z=>z.elim id fun ⟨k,h1,h2,_⟩=>by omega⟩
 | j+1=>by
  rw [Z2,zb0,Uh]
  constructor
  ·rintro ((h | ⟨k,h1,h2,h3⟩) | ⟨h1,h2⟩)
   ·exact .inl h
   ·exact .inr ⟨k,h1,by omega,h3⟩
   ·exact .inr ⟨j+1,by omega,by omega,h1,h2⟩
  ·rintro (h | ⟨k,h1,h2,h3,h4⟩)
   ·exact .inl (.inl h)
   ·by_cases hk:k≤j
    ·exact .inl (.inr ⟨k,h1,hk,h3,h4⟩)
    ·exact .inr ⟨by rw [h3];congr 1;omega,h4⟩
theorem Uk {ls:List (List Int)} {y:List Int}:∀ {xs F:List (List Int)},y∈xs.foldl (fun F st=>Z2 ls st (st.length-1) F) F↔y∈F∨∃ st∈xs,∃ k,1≤k∧k<st.length∧y=st.take k∧lacks ls y=true
 | [],F=>by simp
 | st :: xs,F=>by
  rw [List.foldl_cons,Uk,Uh]
  constructor
  ·rintro ((h | ⟨k,h1,h2,h3⟩) | ⟨s,hs,h⟩)
   ·exact .inl h
   ·exact .inr ⟨st,by simp,k,h1,by omega,h3⟩
   ·exact .inr ⟨s,by simp [hs],h⟩
  ·rintro (h | ⟨s,hs,k,h1,h2,h3⟩)
   ·exact .inl (.inl h)
   ·rcases List.mem_cons.mp hs with rfl | hs
    ·exact .inl (.inr ⟨k,h1,by omega,h3⟩)
    ·exact .inr ⟨s,hs,k,h1,h2,h3⟩
theorem Zq {ls:List (List Int)} {y:List Int}:y∈Wj ls ls↔jj ls y:=by
 unfold Wj jj
 rw [Uk,List.mem_singleton]
theorem zcz (ls F:List (List Int)) (x:List Int):(zb5 ls F x).length≤F.length+1:=by
 unfold zb5
 split
 ·omega
 ·split
  ·rw [List.length_append,List.length_singleton];omega
  ·omega
theorem Ui (ls:List (List Int)) (st:List Int) (F:List (List Int)):∀ j,(Z2 ls st j F).length≤F.length+j
 | 0=>Nat.le_refl _
 | j+1=>by rw [Z2];have:=zcz ls (Z2 ls st j F) (st.take (j+1));have:=Ui ls st F j;omega
theorem Ue {ls:List (List Int)}:∀ {xs F:List (List Int)},(∀ st∈xs,st.length≤4)->(xs.foldl (fun F st=>Z2 ls st (st.length-1) F) F).length≤F.length+3*xs.length
 | [],F,_=>by simp
 | st :: xs,F,h=>by
  rw [List.foldl_cons,List.length_cons]
  have:=Ue (ls:=ls) (xs:=xs) (F:=Z2 ls st (st.length-1) F) fun s hs=>h s (List.mem_cons_of_mem _ hs)
  have:=Ui ls st F (st.length-1)
  have:=h st List.mem_cons_self
  omega
theorem Xd {ls:List (List Int)} (h4:ls.length≤4) (h:∀ st∈ls,st.length≤4):(Wj ls ls).length≤13:=by
 have:=Ue (ls:=ls) (xs:=ls) (F:=[[]]) h
 unfold Wj
 rw [List.length_singleton] at this
 omega
def kI (x:List Int):List Key:=x.map Sum.inl
theorem zaj (x:List Int):(kI x).map kV=x.map V.int:=by unfold kI;rw [List.map_map];rfl
theorem Vx {x y:List Int} (h:kI x=kI y):x=y:=by
 unfold kI at h
 exact (List.map_inj_right (fun a b e=>by injection e)).mp h
def AftV (H:Hp):Option (List Int)->V->Prop
 | none,v=>v=.non
 | some y,v=>∃ c,v=.ref c∧H c=some (.tup (y.map V.int))
theorem AftV.same {H H':Hp} {o:Option (List Int)} {v:V} (h:AftV H o v) (s:∀ b xs,H b=some (.tup xs)->H' b=some (.tup xs)):AftV H' o v:=by
 cases o with
 | none=>exact h
 | some y=>obtain⟨c,e,q⟩:=h;exact⟨c,e,s _ _ q⟩
def kA (x:List Int) (f:Nat):NK:=(kI x,[.inl (f:Int),.inl 0])
def kW (x:List Int) (t:Nat):NK:=(kI x,[.inl (t:Int)])
def Ent (ls:List (List Int)) (b:Nat) (H:Hp) (k:NK) (v:V):Prop :=
 (∃ (x:List Int) (f:Nat),jj ls x∧f<b∧k=kA x f∧AftV H (aft ls x f) v)∨∃ (x:List Int) (t:Nat),jj ls x∧1≤t∧t≤1000∧k=kW x t∧v=.int (cnt ls b t x:Nat)
structure Tab (ls:List (List Int)) (b:Nat) (H:Hp) (kvs:List (NK×V)):Prop where
 nd:(kvs.map (·.1)).Nodup
 ok:∀ p∈kvs,Ent ls b H p.1 p.2
section
variable {ls:List (List Int)} {b:Nat} {H H':Hp} {kvs:List (NK×V)}
theorem Tab.nil:Tab ls b H []:=⟨List.nodup_nil,fun p hp=>nomatch hp⟩
theorem Tab.same (t:Tab ls b H kvs) (s:∀ b xs,H b=some (.tup xs)->H' b=some (.tup xs)):Tab ls b H' kvs:=⟨t.nd,fun p hp=>by
 rcases t.ok p hp with ⟨x,f,h1,h2,h3,h4⟩ | h
 ·exact .inl ⟨x,f,h1,h2,h3,h4.same s⟩
 ·exact .inr h⟩
theorem Yr {k:NK} {v:V}:∀ {kvs:List (NK×V)},yH kvs k=some v->(k,v)∈kvs
 | [],h=>by cases h
 | p :: kvs,h=>by
  by_cases e:p.1=k
  ·rw [yV e] at h
   cases h
   exact List.mem_cons.mpr (.inl (by rw [← e]))
  ·rw [xf e] at h
   exact List.mem_cons_of_mem _ (Yr h)
theorem Tab.aft (t:Tab ls b H kvs) {x:List Int} {f:Nat} {v:V} (h:yH kvs (kA x f)=some v):AftV H (aft ls x f) v:=by
 rcases t.ok _ (Yr h) with ⟨y,g,_,_,e,q⟩ | ⟨y,n,_,_,_,e,_⟩
 ·unfold kA at e
  injection e with e1 e2
  injection e2 with e2 e3
  injection e2 with e2
  have e1:=Vx e1
  have e2:f=g:=by omega
  subst e1 e2
  exact q
 ·exfalso
  have e:=congrArg (fun z:NK=>z.2.length) e
  simp [kA,kW] at e
theorem Tab.way (t:Tab ls b H kvs) {x:List Int} {n:Nat} {v:V} (h:yH kvs (kW x n)=some v):v=.int (cnt ls b n x:Nat):=by
 rcases t.ok _ (Yr h) with ⟨y,g,_,_,e,q⟩ | ⟨y,m,_,_,_,e,q⟩
 ·exfalso
  have e:=congrArg (fun z:NK=>z.2.length) e
  simp [kA,kW] at e
 ·unfold kW at e
  injection e with e1 e2
  injection e2 with e2 e3
  injection e2 with e2
  have e1:=Vx e1
  have e2:n=m:=by omega
  subst e1 e2
  exact q
theorem Tab.put (t:Tab ls b H kvs) {k:NK} {v:V} (h:yH kvs k=none) (e:Ent ls b H k v):Tab ls b H (putK kvs k v):=by
 refine⟨zaW v t.nd h,fun p hp=>?_⟩
 rw [Zn v h] at hp
 rcases List.mem_append.mp hp with hp | hp
 ·exact t.ok p hp
 ·rw [List.mem_singleton.mp hp];exact e
def Q4 (ls:List (List Int)) (b:Nat):List NK:=((Wj ls ls).map fun x=>(List.range b).map fun f=>kA x f).flatten++((Wj ls ls).map fun x=>(List.range 1001).map fun t=>kW x t).flatten
theorem Wy {α β:Type} {f:α->List β} {n:Nat} (h:∀ a,(f a).length≤n):∀ l:List α,((l.map f).flatten).length≤n*l.length
 | []=>by simp
 | a :: l=>by
  rw [List.map_cons,List.flatten_cons,List.length_append,List.length_cons,Nat.mul_succ]
  have:=Wy h l
  have:=h a
  omega
theorem Tab.len (t:Tab ls b H kvs) (h4:ls.length≤4) (h:∀ st∈ls,st.length≤4) (hb:b≤16):kvs.length≤20000:=by
 have hk:(Q4 ls b).length≤20000:=by
  have h1:=Wy (f:=fun x=>(List.range b).map fun f=>kA x f) (n:=16) (fun x=>by rw [List.length_map,List.length_range];exact hb) (Wj ls ls)
  have h2:=Wy (f:=fun x=>(List.range 1001).map fun t=>kW x t) (n:=1001) (fun x=>by rw [List.length_map,List.length_range];exact Nat.le_refl _) (Wj ls ls)
  have h3:=Xd h4 h
  unfold Q4
  rw [List.length_append]
  omega
 by_cases hc:kvs.length≤(Q4 ls b).length
 ·omega
 ·exfalso
  obtain⟨i,j,x,hij,h1,h2⟩:=Zr (kvs.map (·.1)) (Q4 ls b) (fun k hk=>by
   obtain⟨p,hp,rfl⟩:=List.mem_map.mp hk
   unfold Q4
   rw [List.mem_append]
   rcases t.ok p hp with ⟨x,f,q1,q2,q3,_⟩ | ⟨x,n,q1,q2,q3,q4,_⟩
   ·exact .inl (List.mem_flatten.mpr ⟨_,List.mem_map.mpr ⟨x,Zq.mpr q1,rfl⟩,List.mem_map.mpr ⟨f,List.mem_range.mpr q2,q3.symm⟩⟩)
   ·exact .inr (List.mem_flatten.mpr ⟨_,List.mem_map.mpr ⟨x,Zq.mpr q1,rfl⟩,List.mem_map.mpr ⟨n,List.mem_range.mpr (by omega),q4.symm⟩⟩)) (by rw [List.length_map];omega)
  have hj:=(List.getElem?_eq_some_iff.mp h2).1
  have:=(List.getElem?_inj (by omega) t.nd).mp (h1.trans h2.symm)
  omega
end
structure RdS (G:Hp) (rd tl dd:Addr) (b:Nat) (ts:List (Addr×List Int)):Prop where
 hd:G rd=some (.lst [.int b,.ref tl,.ref dd])
 li:G tl=some (.lst (ts.map fun t=>V.ref t.1))
 st:∀ t∈ts,G t.1=some (.tup (t.2.map V.int))
def RdD (P:Program) (w:World) (H:Hp) (dd:Addr) (ls:List (List Int)) (b:Nat):Prop:=∃ kvs,DN P w H dd kvs∧Tab ls b H kvs
theorem RdS.same {G G':Hp} {rd tl dd:Addr} {b:Nat} {ts:List (Addr×List Int)} (R:RdS G rd tl dd b ts) (s:Same G G'):RdS G' rd tl dd b ts:=⟨s _ _ R.hd,s _ _ R.li,fun t ht=>s _ _ (R.st t ht)⟩
theorem RdD.same {P:Program} {w:World} {H H':Hp} {dd:Addr} {ls:List (List Int)} {b:Nat} (R:RdD P w H dd ls b) (s:Same H H'):RdD P w H' dd ls b:=let ⟨kvs,h1,h2⟩:=R;⟨kvs,h1.same s,h2.same fun b xs e=>s _ _ e⟩
def SameD (d:Addr) (H H':Hp):Prop:=∀ b u,b≠d->H b=some u->H' b=some u
theorem SameD.of {d:Addr} {H H':Hp} (s:Same H H'):SameD d H H':=fun b u _ e=>s b u e
theorem SameD.trans {d:Addr} {H H1 H2:Hp} (a:SameD d H H1) (b:SameD d H1 H2):SameD d H H2:=fun c u h e=>b c u h (a c u h e)
theorem RdD.ne {P:Program} {w:World} {H:Hp} {dd:Addr} {ls:List (List Int)} {b:Nat} (R:RdD P w H dd ls b) {c:Addr} {u:HO} (h:H c=some u) (hu:∀ φ,u≠.ext φ):c≠dd:=let ⟨_,⟨_,e,_⟩,_⟩:=R;fun z=>by
 rw [z,e] at h;cases h;exact hu _ rfl
def um (x:List Int):Tr:=.tup (x.map Tr.int)
theorem TrAt.tupI {K:PySem.W.Frag} {H:Hp} {a:Addr} {x:List Int} (h:H a=some (.tup (x.map V.int))):TrAt K H (um x) (.ref a):=by
 unfold um;rw [TrAt];exact⟨a,_,rfl,SqT.of h,TrsAt.ints⟩
theorem zcJ (a b:List Int):teq (um a) (um b)=decide (a=b):=by unfold um;rw [teq];exact VF za4 a b
theorem U0 (x:List Int):wC (um x)=1:=by unfold um;rw [wC,Yp]
theorem qw:∀ ls:List (List Int),yI (ls.map um)≤1
 | []=>by rw [List.map_nil,yI];omega
 | x :: ls=>by rw [List.map_cons,yI,U0];have:=qw ls;omega
theorem TrsAt.tups {K:PySem.W.Frag} {H:Hp}:∀ {zs:List (Addr×List Int)},(∀ z∈zs,H z.1=some (.tup (z.2.map V.int)))->TrsAt K H ((zs.map (·.2)).map um) (zs.map fun z=>V.ref z.1)
 | [],_=>by rw [List.map_nil,List.map_nil,List.map_nil,TrsAt]
 | z :: zs,h=>by
  rw [List.map_cons,List.map_cons,List.map_cons,TrsAt]
  exact⟨_,_,rfl,TrAt.tupI (h z List.mem_cons_self),TrsAt.tups fun y hy=>h y (List.mem_cons_of_mem _ hy)⟩
theorem zaZ {ls:List (List Int)} {x:List Int}:((ls.map um).any fun t=>teq t (um x))=decide (x∈ls):=by
 induction ls with
 | nil=>simp
 | cons y ls ih =>
  rw [List.map_cons,List.any_cons,ih,zcJ,← Bool.decide_or]
  refine decide_eq_decide.mpr ?_
  rw [List.mem_cons]
  exact⟨fun z=>z.imp Eq.symm id,fun z=>z.imp Eq.symm id⟩
theorem ZW (ts:List Tr):teq (.lst ts) (.lst [])=ts.isEmpty:=by
 cases ts with
 | nil=>rfl
 | cons t ts=>rw [teq,jb (by simp)];rfl
theorem CompLoop.mono {J:It} {js:List Nat} {tt:TT} {te:TE} {σ:L2.St} {Q Q':VK} {H:Hp} (h:CompLoop J js tt te σ Q H) (hq:∀ v H,Q v H->Q' v H):CompLoop J js tt te σ Q' H:=by
 obtain⟨W,h0,hs⟩:=h
 refine⟨W,h0,fun i m ys H hw=>?_⟩
 rcases hs i m ys H hw with ⟨a,b⟩ | ⟨a,b,c⟩
 ·exact .inl ⟨a,fun D hD=>hq _ _ (b D hD)⟩
 ·exact .inr ⟨a,b,c⟩
theorem zbv {c:Bool} {A B:Prop} (hc:c=false) (h:B):if c=true then A else B:=by rw [hc];exact xj h
theorem zdk {c:Bool} {A B:Prop} (hc:c=true) (h:A):if c=true then A else B:=by rw [hc];exact wI h
theorem zas {ls:List (List Int)} (ne:∀ l∈ls,l≠[]) {x:List Int} {f:Int} (h:lacks ls x=true) (q:∀ k,k<(x++[f]).length->(x++[f]).drop k∉ls):lacks ls (x++[f])=true:=by
 cases e:lacks ls (x++[f]) with
 | true=>rfl
 | false =>
  obtain⟨y,hy,hl⟩:=(zaH ne f h).mpr e
  obtain⟨i,hi,rfl⟩:=List.mem_map.mp hy
  have hi:=List.mem_range.mp hi
  by_cases z:i<(x++[f]).length
  ·exact absurd hl (q i z)
  ·rw [List.drop_of_length_le (by omega)] at hl
   exact absurd rfl (ne _ hl)
section
variable {P:Program} {w:World} {K:PySem.W.Frag} {mg:Str->Option Value} {base:Heap}
def BadAt (H:Hp) (bl:Addr) (zs:List (Addr×List Int)):Prop:=H bl=some (.lst (zs.map fun z=>V.ref z.1))∧∀ z∈zs,H z.1=some (.lst (z.2.map V.int))
theorem BadAt.same {H H':Hp} {bl:Addr} {zs:List (Addr×List Int)} (h:BadAt H bl zs) (s:Same H H'):BadAt H' bl zs:=⟨s _ _ h.1,fun z hz=>s _ _ (h.2 z hz)⟩
def qO:Sp:=fun vs H Q _=>∃ (bl:Addr) (zs:List (Addr×List Int)) (ea:Addr) (x:List Int) (c:Nat) (b:Nat),vs=[.ref bl,.ref ea,.int c]∧BadAt H bl zs∧H ea=some (.tup (x.map V.int))∧zO b (zs.map (·.2))∧jj (zs.map (·.2)) x∧∀ v H',Same H H'->AftV H' (aft (zs.map (·.2)) x c) v->Q v H'
theorem uf:zF ["bad","end","figure","figures","at"] ["bad","end","figure"] (zq xW):=⟨rfl,rfl,rfl,by decide +kernel,rfl,by decide +kernel,by decide +kernel⟩
set_option maxHeartbeats 0 in
theorem Zh {f:Addr} {fd:FuncData} (D:Df K mg "_law_behind" xW ["bad","end","figure"] f fd) (T:Blt mg):FnOk P w K mg base CX0 1 f fd ["bad","end","figure"] qO:=by
 refine D.fn.ok uf (fun vs H Q E h=>?_) (fun cdv A outer s H vs Q E hr h=>?_)
 ·obtain⟨bl,zs,ea,x,c,b,rfl,_⟩:=h;rfl
 ·obtain⟨bl,zs,ea,x,c,b,rfl,B,hea,g,hx,kk⟩:=h
  have HU:=Xe hr
  have h4:zs.length≤4:=by have:=g.len;rwa [List.length_map] at this
  have hst4:∀ st∈zs.map (·.2),st.length≤4:=fun st h=>(g.st st h).len
  have ne:∀ st∈zs.map (·.2),st≠[]:=fun st h=>(g.st st h).ne
  have hx3:=QZ hst4 hx
  have hLx:lacks (zs.map (·.2)) x=true:=(zap hx).1
  refine⟨_,(zp (zG (i:=3) uf.nd rfl (Or.inr rfl) (zQ qC (jw (Vb K) (by rfl) T.n_list boot_list (zf (pv 1) zm)) (zJ (zf (pv 2) zm))))
   (zp (qm PassesOwn.never rfl (yE rfl T.n_range (zf (zz (tK K) (by rfl) T.n_len PySem.boot_len (zf (pv 3) zm)) zm)) (zL (i:=4) uf.nd rfl (Or.inl rfl))
    (zx (xU (zM (zd2 K HU) (ww (ZD K) (pv 3) (vf (pv 4)) uG) (pv 0) (by with_unfolding_all rfl))
     (zx (zH uo))
     yl)))
   (zp (ju PassesOwn.never (PW.pt (W3 (zM (Ul K HU) (pv 3) (zJ zm) (zU _)) (YX (zM (JM K HU) (wJ (show CScope (zq xW) _ "one" ["bad","end","figure","figures","at"] ["figures"] [3] from ⟨rfl,by decide +kernel,by decide +kernel,rfl,by decide +kernel,rfl,by decide +kernel,by decide +kernel⟩) rfl (jJ K (pv 0)) (fun _ _ _ _=>(YJ (zM (JM K HU) (ww (ZD K) (pv 0) uG (vf (zz (tK K) (by rfl) T.n_len PySem.boot_len (zf (pv 1) zm)))) (pv 1) (zU _)))) (fun _ _ _ _=>(pv 0))) (zJ zm) (zU _)))))
    (zx (zG (i:=3) uf.nd rfl (Or.inr rfl) (ww (ZD K) (pv 3) (vf zr) uG))))
   (zx (zH (jw (zdp K) (by rfl) T.n_tuple boot_tuple (zf (pv 3) zm))))))),?_⟩
  refine⟨_,rfl,ea,_,rfl,.inr (SqT.of hea),fun l1 hl1=>?_⟩
  have m1:=zj hl1 (o:=.lst (x.map V.int))
  refine⟨_,rfl,(by show 1≤sizeLine;decide),fun l2 hl2=>?_⟩
  have m2:=zj hl2 (o:=.lst [.int c])
  refine⟨l1,l2,_,_,rfl,rfl,m2 _ _ zg,zg,by rw [List.length_map];exact Nat.le_trans (show x.length+1≤100 by omega) (by decide),fun fa hfa=>?_⟩
  have m3:=zj hfa (o:=.lst (x.map V.int++[.int c]))
  have s1:=(m1.trans m2).trans m3
  obtain⟨fs,efs⟩:∃ fs:List Int,fs=x++[(c:Int)]:=⟨_,rfl⟩
  have hfl:fs.length≤4:=by rw [efs,List.length_append,List.length_singleton];omega
  have hf1:(upd (upd (upd H l1 (.lst (x.map V.int))) l2 (.lst [.int c])) fa (.lst (x.map V.int++[.int c]))) fa=some (.lst (fs.map V.int)):=by rw [zg,efs,List.map_append];rfl
  generalize upd (upd (upd H l1 (.lst (x.map V.int))) l2 (.lst [.int c])) fa (.lst (x.map V.int++[.int c]))=H1 at s1 hf1
  have B1:=B.same s1
  refine⟨_,rfl,fa,_,rfl,.inl (SqL.of hf1),_,rfl,by rw [List.length_map];omega,by rw [List.length_map];omega,?_⟩
  rw [List.length_map,Int.toNat_natCast]
  refine vB (lo:=0) (n:=fs.length) (fun i σ Hc=>∃ v4:Option V,σ=[some (.ref bl),some (.ref ea),some (.int c),some (.ref fa),v4]∧Same H1 Hc∧∀ k,k<i->fs.drop k∉zs.map (·.2)) ⟨_,rfl,Same.refl _,fun k hk=>by omega⟩ ?_ ?_
  ·rintro i σ Hc hi ⟨v4,rfl,sc,hno⟩
   refine⟨_,rfl,_,rfl,_,rfl,fa,_,rfl,SqL.of (sc _ _ hf1),fun p hp=>?_⟩
   have ec:tR (fs.map V.int) (some (0+(i:Int))) none=(fs.drop i).map V.int:=by rw [Int.zero_add,uB,List.map_drop]
   rw [ec]
   have mp:=zj hp (o:=.lst ((fs.drop i).map V.int))
   have Bp:=(B1.same sc).same mp
   refine⟨_,rfl,bl,_,(zs.map (·.2)).map yF,yF (fs.drop i),rfl,SqL.of Bp.1,TrsAt.lists Bp.2,TrAt.ints (a:=p) (SqL.of zg),Nat.le_trans (xO _) (by decide),_,rfl,?_⟩
   rw [if_neg Bool.false_ne_true,ZZ]
   by_cases hin:fs.drop i∈zs.map (·.2)
   ·rw [decide_eq_true hin]
    refine wI (kk .non _ ((s1.trans sc).trans mp) ?_)
    have hf:lacks (zs.map (·.2)) (x++[(c:Int)])=false:=by
     rw [← zaH ne _ hLx,← efs]
     exact⟨_,List.mem_map.mpr ⟨i,List.mem_range.mpr (by omega),rfl⟩,hin⟩
    unfold aft
    rw [if_neg (by rw [hf];exact Bool.false_ne_true)]
    rfl
   ·rw [decide_eq_false hin]
    refine xj ⟨_,rfl,sc.trans mp,fun k hk=>?_⟩
    by_cases z:k<i
    ·exact hno k z
    ·rw [show k=i by omega];exact hin
  rintro σ Hc ⟨v4,rfl,sc,hno⟩
  have hL:lacks (zs.map (·.2)) (x++[(c:Int)])=true:=zas ne hLx (by rw [← efs];exact hno)
  have haft:aft (zs.map (·.2)) x c=some (zA (zs.map (·.2)) fs):=by unfold aft;rw [if_pos hL,efs]
  refine Vc (fun σ H2=>∃ (j:Nat) (ga:Addr),σ=[some (.ref bl),some (.ref ea),some (.int c),some (.ref ga),v4]∧H2 ga=some (.lst ((fs.drop j).map V.int))∧j≤fs.length∧Same H1 H2∧∀ k,k<j->tD (zs.map (·.2)) (fs.drop k)=false)
   (fun σ H2=>match σ with | [_,_,_,some (.ref ga),_]=>(match H2 ga with | some (.lst xs)=>xs.length | _=>0) | _=>0) ⟨0,fa,rfl,sc _ _ hf1,Nat.zero_le _,sc,fun k hk=>by omega⟩ ?_ ?_
  ·rintro σ H2 ⟨j,ga,rfl,hga,hj,s2,hb⟩
   refine⟨_,rfl,(by decide:0≤sizeLine),fun e0 he0=>?_⟩
   have me:=zj he0 (o:=.lst [])
   refine⟨yF (fs.drop j),yF [],TrAt.ints (a:=ga) (SqL.of (me _ _ hga)),TrAt.ints (a:=e0) (SqL.of zg),(by rw [uy];decide),_,rfl,?_⟩
   rw [if_pos rfl,uR]
   by_cases hz:fs.drop j=[]
   ·rw [decide_eq_true hz]
    have hjl:j=fs.length:=by
     have:=congrArg List.length hz
     rw [List.length_drop,List.length_nil] at this
     omega
    refine xj ?_
    refine⟨_,rfl,ga,_,rfl,.inl ⟨SqL.of (me _ _ hga),fun q hq=>?_⟩⟩
    refine kk (.ref q) _ (((s1.trans s2).trans me).trans (zj hq)) ?_
    rw [haft]
    refine⟨q,rfl,?_⟩
    rw [zg,W8 (fun k hk=>hb k (by omega)),hz]
   ·rw [decide_eq_false hz]
    refine wI ?_
    have B2:=(B1.same s2).same me
    refine⟨_,rfl,bl,rfl,⟨_,SqL.of B2.1⟩,wL (K:=K) (a:=bl) (xs:=zs.map fun t=>V.ref t.1) (fun i us Hd=>us=((zs.take i).filter fun z=>decide (z.2.take (fs.drop j).length=fs.drop j)).map (fun z=>V.ref z.1)∧Same (upd H2 e0 (.lst [])) Hd) ⟨by simp,Same.refl _⟩ (fun i us Hd _ ⟨_,e⟩=>SqL.of (e _ _ B2.1)) ?_ ?_⟩
    ·rintro i u us Hd hi ⟨rfl,sd⟩
     rw [List.getElem?_map] at hi
     obtain⟨z,hzj,e⟩:=Option.map_eq_some_iff.mp hi
     subst e
     have hzm:=List.mem_of_getElem? hzj
     refine⟨by rw [List.length_map];exact Nat.lt_of_le_of_lt (Nat.le_trans (List.length_filter_le _ _) (by rw [List.length_take];exact show min i zs.length≤10 by omega)) (by decide),?_⟩
     have hgd:=sd _ _ (me _ _ hga)
     refine⟨_,rfl,_,rfl,ga,_,rfl,.inl (SqL.of hgd),_,rfl,z.1,_,rfl,SqL.of (sd _ _ (B2.2 z hzm)),fun p4 hp4=>?_⟩
     rw [List.length_map,ZR,← List.map_take]
     have m4:=zj hp4 (o:=.lst ((z.2.take (fs.drop j).length).map V.int))
     refine⟨_,rfl,yF (z.2.take (fs.drop j).length),yF (fs.drop j),TrAt.ints (a:=p4) (SqL.of zg),TrAt.ints (a:=ga) (SqL.of (m4 _ _ hgd)),(by rw [uy];decide),_,rfl,?_⟩
     rw [if_neg Bool.false_ne_true,uR]
     by_cases hq:z.2.take (fs.drop j).length=fs.drop j
     ·rw [decide_eq_true hq]
      refine wI ⟨_,rfl,?_,sd.trans m4⟩
      rw [List.take_succ,hzj,Option.toList_some,List.filter_append,List.filter_cons,if_pos (decide_eq_true hq),List.map_append];rfl
     ·rw [decide_eq_false hq]
      refine xj ⟨?_,sd.trans m4⟩
      rw [List.take_succ,hzj,Option.toList_some,List.filter_append,List.filter_cons,if_neg (by rw [decide_eq_false hq];exact Bool.false_ne_true),List.filter_nil,List.append_nil]
    rintro us Hd ⟨rfl,sd⟩ D4 hD4
    rw [List.length_map,List.take_length]
    refine⟨(by decide:0≤sizeLine),fun p0 hp0=>?_⟩
    generalize hks:(zs.filter fun z=>decide (z.2.take (fs.drop j).length=fs.drop j))=ks at hD4 hp0
    have m4:=zj hD4 (o:=.lst (ks.map fun z=>V.ref z.1))
    have m5:=zj hp0 (o:=.lst [])
    have hkt:∀ z∈ks,(upd (upd Hd D4 (.lst (ks.map fun z=>V.ref z.1))) p0 (.lst [])) z.1=some (.lst (z.2.map V.int)):=fun z hz=>m5 _ _ (m4 _ _ (sd _ _ (B2.2 z (by rw [← hks] at hz;exact (List.mem_filter.mp hz).1))))
    refine⟨.lst ((ks.map (·.2)).map yF),.lst [],?_,?_,(by rw [wC];have:=xO (ks.map (·.2));omega),_,rfl,?_⟩
    ·rw [TrAt];exact⟨D4,_,rfl,SqL.of (m5 _ _ zg),TrsAt.lists hkt⟩
    ·rw [TrAt];exact⟨p0,_,rfl,SqL.of zg,by rw [TrsAt]⟩
    have sE:=s2.trans (me.trans (sd.trans (m4.trans m5)))
    have hgE:=m5 _ _ (m4 _ _ (sd _ _ (me _ _ hga)))
    rw [if_neg Bool.false_ne_true,ZW]
    have hbb:tD (zs.map (·.2)) (fs.drop j)=!((ks.map (·.2)).map yF).isEmpty:=by
     unfold tD
     rw [List.any_map,← hks,Bool.eq_iff_iff]
     simp [List.any_eq_true,List.isEmpty_iff]
    cases hbe:((ks.map (·.2)).map yF).isEmpty with
    | true =>
     rw [hbe] at hbb
     refine wI ?_
     have hjl:j<fs.length:=by
      by_cases z:j<fs.length
      ·exact z
      ·exact absurd (List.drop_of_length_le (by omega)) hz
     refine⟨_,rfl,_,rfl,ga,_,rfl,SqL.of hgE,fun q hq=>?_⟩
     have ec:tR ((fs.drop j).map V.int) (some 1) none=(fs.drop (j+1)).map V.int:=by
      rw [show (some (1:Int))=some ((1:Nat):Int) from rfl,uB,← List.map_drop,List.drop_drop]
     rw [ec]
     refine⟨⟨j+1,q,rfl,zg,hjl,sE.trans (zj hq),fun k hk=>?_⟩,?_⟩
     ·by_cases z:k<j
      ·exact hb k z
      ·rw [show k=j by omega,hbb];rfl
     ·show (match (upd _ q _) q with | some (.lst xs)=>xs.length | _=>0)<(match H2 ga with | some (.lst xs)=>xs.length | _=>0)
      rw [zg,hga]
      show ((fs.drop (j+1)).map V.int).length<((fs.drop j).map V.int).length
      rw [List.length_map,List.length_map,List.length_drop,List.length_drop]
      omega
    | false =>
     rw [hbe] at hbb
     refine xj ?_
     refine⟨_,rfl,ga,_,rfl,.inl ⟨SqL.of hgE,fun q hq=>?_⟩⟩
     refine kk (.ref q) _ ((s1.trans sE).trans (zj hq)) ?_
     rw [haft]
     refine⟨q,rfl,?_⟩
     rw [zg,Q0 hj hb hbb]
  ·intro σ H2 Q Q' hq
   rintro⟨v,e,sz,h⟩
   refine⟨v,e,sz,fun p hp=>?_⟩
   obtain⟨t1,t2,a1,a2,dep,c1,ec,q⟩:=h p hp
   refine⟨t1,t2,a1,a2,dep,c1,ec,?_⟩
   cases c1 with
   | false=>exact xj (hq _ _ (by simpa using q))
   | true =>
    refine wI ?_
    have q:=(show _ from (by simpa only [if_true] using q))
    obtain⟨v2,e2,a,ea',hs,q⟩:=q
    refine⟨v2,e2,a,ea',hs,CompLoop.mono q fun v3 H3 q3=>?_⟩
    obtain⟨sz2,h2⟩:=q3
    refine⟨sz2,fun p2 hp2=>?_⟩
    obtain⟨t3,t4,a3,a4,dep2,c2,ec2,q4⟩:=h2 p2 hp2
    exact⟨t3,t4,a3,a4,dep2,c2,ec2,hq _ _ q4⟩
end
theorem zc2 {ls:List (List Int)} (ne:∀ l∈ls,l≠[]) {x y:List Int} {c:Int} (h:aft ls x c=some y):lacks ls (x++[c])=true∧y=zA ls (x++[c])∧jj ls y:=by
 unfold aft at h
 by_cases hl:lacks ls (x++[c])=true
 ·rw [if_pos hl] at h
  cases h
  exact⟨hl,rfl,uA ne hl⟩
 ·rw [if_neg hl] at h;cases h
theorem JH {κ:Type} [DecidableEq κ] {k:κ} {v:V}:∀ {kvs:List (κ×V)},yH kvs k=some v->(k,v)∈kvs
 | [],h=>by cases h
 | p :: r,h=>by
  by_cases e:p.1=k
  ·rw [yV e] at h
   cases h
   rw [← e]
   exact List.mem_cons_self
  ·rw [xf e] at h
   exact List.mem_cons_of_mem _ (JH h)
def yw (ls:List (List Int)) (x:List Int) (n:Nat):List (Nat×List Int):=(List.range n).filterMap fun (c:Nat)=>(aft ls x (c:Int)).map fun y=>(c,y)
theorem qR (ls:List (List Int)) (x:List Int) (n:Nat):yw ls x (n+1)=yw ls x n++((aft ls x (n:Int)).map fun y=>(n,y)).toList:=by
 unfold yw
 rw [List.range_succ,List.filterMap_append]
 congr 1
theorem ur {ls:List (List Int)} {x:List Int} {n:Nat} {p:Nat×List Int} (h:p∈yw ls x n):p.1<n∧aft ls x (p.1:Int)=some p.2:=by
 obtain⟨c,hc,e⟩:=List.mem_filterMap.mp h
 obtain⟨y,hy,rfl⟩:=Option.map_eq_some_iff.mp e
 exact⟨List.mem_range.mp hc,hy⟩
theorem WP (ls:List (List Int)) (x:List Int) (n:Nat):(yw ls x n).length≤n:=by
 unfold yw
 exact Nat.le_trans (List.length_filterMap_le ..) (by rw [List.length_range];exact Nat.le_refl _)
abbrev StL:=List (Addr×Nat×Addr×List Int)
structure StepAt (H:Hp) (ls:List (List Int)) (n:Nat) (x:List Int) (la:Addr) (ss:StL):Prop where
 li:H la=some (.lst (ss.map fun s=>V.ref s.1))
 tu:∀ s∈ss,H s.1=some (.tup [.int ((s.2.1:Nat):Int),.ref s.2.2.1])∧H s.2.2.1=some (.tup (s.2.2.2.map V.int))
 eq:ss.map (fun s=>(s.2.1,s.2.2.2))=yw ls x n
theorem StepAt.keep {H H':Hp} {ls:List (List Int)} {n:Nat} {x:List Int} {la:Addr} {ss:StL} (h:StepAt H ls n x la ss) (hl:H' la=H la) (ht:∀ c zs,H c=some (.tup zs)->H' c=some (.tup zs)):StepAt H' ls n x la ss :=
 ⟨by rw [hl];exact h.li,fun s hs=>⟨ht _ _ (h.tu s hs).1,ht _ _ (h.tu s hs).2⟩,h.eq⟩
theorem StepAt.len {H:Hp} {ls:List (List Int)} {n:Nat} {x:List Int} {la:Addr} {ss:StL} (h:StepAt H ls n x la ss):ss.length≤n:=by
 have:=congrArg List.length h.eq
 rw [List.length_map] at this
 rw [this]
 exact WP ls x n
structure StepsD (P:Program) (w:World) (H:Hp) (fo:Addr) (ls:List (List Int)) (b:Nat) (kvs:List (List Key×V)):Prop where
 d:DE P w H fo kvs
 nd:(kvs.map (·.1)).Nodup
 ok:∀ kv∈kvs,∃ x la ss,kv.1=kI x∧jj ls x∧kv.2=.ref la∧StepAt H ls b x la ss
section
variable {P:Program} {w:World} {H H':Hp} {fo:Addr} {ls:List (List Int)} {b:Nat} {kvs:List (List Key×V)}
theorem StepsD.get (s:StepsD P w H fo ls b kvs) {x:List Int} {v:V} (h:yH kvs (kI x)=some v):∃ la ss,v=.ref la∧jj ls x∧StepAt H ls b x la ss:=by
 obtain⟨y,la,ss,h1,h2,h3,h4⟩:=s.ok _ (JH h)
 obtain rfl:=Vx h1
 exact⟨la,ss,h3,h2,h4⟩
theorem StepsD.len (s:StepsD P w H fo ls b kvs) (h4:ls.length≤4) (h:∀ st∈ls,st.length≤4):kvs.length≤13:=by
 have hk:=Xd h4 h
 by_cases hc:kvs.length≤((Wj ls ls).map kI).length
 ·rw [List.length_map] at hc;omega
 ·exfalso
  obtain⟨i,j,x,hij,h1,h2⟩:=Zr (kvs.map (·.1)) ((Wj ls ls).map kI) (fun k hk=>by
   obtain⟨p,hp,rfl⟩:=List.mem_map.mp hk
   obtain⟨x,la,ss,q1,q2,_⟩:=s.ok p hp
   exact List.mem_map.mpr ⟨x,Zq.mpr q2,q1.symm⟩) (by rw [List.length_map (f:=fun x:List Key×V=>x.1)];omega)
  have hj:=(List.getElem?_eq_some_iff.mp h2).1
  have:=(List.getElem?_inj (by omega) s.nd).mp (h1.trans h2.symm)
  omega
theorem StepsD.keep (s:StepsD P w H fo ls b kvs) (hf:H' fo=H fo) (hl:∀ kv∈kvs,∀ la,kv.2=.ref la->H' la=H la) (ht:∀ c zs,H c=some (.tup zs)->H' c=some (.tup zs)):StepsD P w H' fo ls b kvs :=
 ⟨s.d.stay hf ht,s.nd,fun kv hk=>let ⟨x,la,ss,h1,h2,h3,h4⟩:=s.ok kv hk;⟨x,la,ss,h1,h2,h3,h4.keep (hl kv hk la h3) ht⟩⟩
theorem StepsD.same (s:StepsD P w H fo ls b kvs) (m:Same H H'):StepsD P w H' fo ls b kvs:=by
 have d:=s.d
 obtain⟨_,_,e,_⟩:=d
 exact s.keep (by rw [e];exact m _ _ e) (fun kv hk la e=>by
  obtain⟨x,la',ss,_,_,h3,h4⟩:=s.ok kv hk
  rw [e] at h3
  cases h3
  rw [h4.li]
  exact m _ _ h4.li) fun c zs h=>m _ _ h
theorem StepsD.new (h:DE P w H fo []):StepsD P w H fo ls b []:=⟨h,List.nodup_nil,fun kv hk=>nomatch hk⟩
theorem StepsD.put {x:List Int} {la:Addr} {ss:StL} (s:StepsD P w H fo ls b kvs) (hn:yH kvs (kI x)=none) (hd:DE P w H' fo (putK kvs (kI x) (.ref la))) (ho:∀ c,c≠fo->H' c=H c) (hx:jj ls x) (hs:StepAt H ls b x la ss):StepsD P w H' fo ls b (putK kvs (kI x) (.ref la)):=by
 have nt:∀ {c:Addr} {u:HO},H c=some u->(∀ φ,u≠.ext φ)->c≠fo:=fun {c u} h hu z=>by
  have d:=s.d
  obtain⟨_,_,e,_⟩:=d
  rw [z,e] at h
  cases h
  exact hu _ rfl
 have kt:∀ c zs,H c=some (.tup zs)->H' c=some (.tup zs):=fun c zs h=>by rw [ho c (nt h fun _ z=>nomatch z)];exact h
 refine⟨hd,zaW _ s.nd hn,fun kv hk=>?_⟩
 rw [Zn _ hn] at hk
 rcases List.mem_append.mp hk with hk | hk
 ·obtain⟨y,la',ss',h1,h2,h3,h4⟩:=s.ok kv hk
  exact⟨y,la',ss',h1,h2,h3,h4.keep (ho _ (nt h4.li fun _ z=>nomatch z)) kt⟩
 ·rw [List.mem_singleton.mp hk]
  exact⟨x,la,ss,rfl,hx,rfl,hs.keep (ho _ (nt hs.li fun _ z=>nomatch z)) kt⟩
end
theorem QC {c:TT} {tb:TS} {D:Ends} {σ:L2.St} {H:Hp} (W:Nat->L2.St->Hp->Prop) (m:Nat) (h0:W m σ H)
  (hs:∀ m σ H,W m σ H->c σ H fun b H1=>if b=true then tb { D with nx:=fun σ' H'=>∃ m',m'<m∧W m' σ' H',ct:=fun σ' H'=>∃ m',m'<m∧W m' σ' H',bk:=D.nx } σ H1 else D.nx σ H1)
  (mono:∀ σ H Q Q',(∀ b H1,Q b H1->Q' b H1)->c σ H Q->c σ H Q'):zay c tb D σ H:=by
 refine⟨W,⟨m,h0⟩,fun m σ H hw=>mono σ H _ _ (fun b H1 q=>?_) (hs m σ H hw)⟩
 cases b with
 | true=>exact wI ⟨_,fun _ _ h=>h,by simpa using q⟩
 | false=>exact xj (by simpa using q)
section
variable {P:Program} {w:World} {K:PySem.W.Frag} {mg:Str->Option Value} {base:Heap}
def Qw (ls:List (List Int)) (b:Nat) (kvs:List (List Key×V)):Prop:=∀ x,yH kvs (kI x)≠none->∀ p∈yw ls x b,yH kvs (kI p.2)≠none
def jo (P:Program) (w:World):Sp:=fun vs H Q _=>∃ (r:Addr) (b:Nat) (bl:Addr) (zs:List (Addr×List Int)),vs=[.ref r]∧RuleAt H r b bl zs∧zO b (zs.map (·.2))∧∀ fo kvs H',H fo=none->Same H H'->StepsD P w H' fo (zs.map (·.2)) b kvs->Qw (zs.map (·.2)) b kvs->yH kvs (kI [])≠none->Q (.ref fo) H'
theorem xm:zF ["rule","base","bad","found","waiting","end","both"] ["rule"] (zq xP):=⟨rfl,rfl,rfl,by decide +kernel,rfl,by decide +kernel,by decide +kernel⟩
set_option maxHeartbeats 0 in
theorem Z4 {f f1:Addr} {fd fd1:FuncData} (D:Df K mg "_law_steps" xP ["rule"] f fd) (yU:Df K mg "_law_behind" xW ["bad","end","figure"] f1 fd1) (T:Blt mg):FnOk P w K mg base CX0 2 f fd ["rule"] (jo P w):=by
 have Y8:FnOk P w K mg base CX0 1 f1 fd1 ["bad","end","figure"] qO:=Zh yU T
 refine D.fn.ok xm (fun vs H Q E h=>?_) (fun cdv A outer s H vs Q E hr h=>?_)
 ·obtain⟨r,b,bl,zs,rfl,_⟩:=h;rfl
 ·obtain⟨r,b,bl,zs,rfl,R,g,kk⟩:=h
  have HU:=Xe hr
  have b2:=g.b2
  have b16:=g.b16
  have h4:zs.length≤4:=by have:=g.len;rwa [List.length_map] at this
  have hst4:∀ st∈zs.map (·.2),st.length≤4:=fun st h=>(g.st st h).len
  have ne:∀ st∈zs.map (·.2),st≠[]:=fun st h=>(g.st st h).ne
  refine⟨_,(zp (Xy (pv 0) (zae rfl (ye (zL (i:=1) xm.nd rfl (Or.inl rfl)) (ye (zL (i:=2) xm.nd rfl (Or.inr rfl)) vX))))
   (zp (zG (i:=3) xm.nd rfl (Or.inl rfl) zdA)
   (zp (zG (i:=4) xm.nd rfl (Or.inl rfl) (zJ (zf (vh zm) zm)))
   (zp (ju PassesOwn.never (zM (Ul K HU) (pv 4) (zJ zm) (zU _))
    (zp (zG (i:=5) xm.nd rfl (Or.inr rfl) (zaa PySem.F.plainAttrs_list PySem.F.slot_list_pop PySem.F.type_list_pop J6 (pv 4)))
    (zx (xU (zeD (zbn (jL hr) (pv 5) (pv 3)) (by with_unfolding_all rfl))
     (zp (qi (i:=6) (show CScope (zq xP) _ "figure" ["rule","base","bad","found","waiting","end","both"] ["bad","end"] [2,5] from ⟨rfl,by decide +kernel,by decide +kernel,rfl,by decide +kernel,rfl,by decide +kernel,by decide +kernel⟩) rfl xm.nd rfl (Or.inl rfl) (yE rfl T.n_range (zf (pv 1) zm)) (fun _ _ _ _=>yG) (fun _ _ _ _=>(vh (zf (pv 0) (zf (zP yU Y8 (hr.mono (by decide)) (zf (pv 1) (zf (pv 2) (zf (pv 0) zm)))) zm)))))
     (zp (zdt (jL hr) (pv 3) (pv 5) (wJ (show CScope (zq xP) _ "one" ["rule","base","bad","found","waiting","end","both"] [] [] from ⟨rfl,by decide +kernel,by decide +kernel,rfl,by decide +kernel,rfl,by decide +kernel,by decide +kernel⟩) rfl (jJ K (pv 6)) (fun _ _ _ _=>(YJ (zM Y4 (ym (j5 K) (pv 0) zr (fun _ _=>rfl)) uo (zU _)))) (fun _ _ _ _=>(pv 0))) rfl)
     (zx (vd (ZC PySem.F.plainAttrs_list PySem.F.slot_list_extend PySem.F.type_list_extend ZV (pv 4) (zf (YM (show w6 (zq xP) _ ["figure","there"] ["rule","base","bad","found","waiting","end","both"] [] [] from ⟨rfl,by decide +kernel,by decide +kernel,by decide +kernel,by decide +kernel,rfl,by decide +kernel,by decide +kernel⟩) rfl (jJ K (YC P w (jL hr) (pv 3) (pv 5) (fun _ _=>rfl))) (fun _ _ _ _=>(Zz K 2 rfl (ye (zL (i:=0) (show List.Nodup (α:=Str) ["figure","there"] by decide) rfl (.inl (lookup_relabel_local rfl)) (.inr (lookup_relabel_local rfl))) (ye (zL (i:=1) (show List.Nodup (α:=Str) ["figure","there"] by decide) rfl (.inl (lookup_relabel_local rfl)) (.inr (lookup_relabel_local rfl))) vX)))) (fun _ _ _ _=>yG) (fun _ _ _ _=>(pv 1))) zm))))))
     yl))))
   (zx (zH (pv 3))))))),?_⟩
  refine⟨_,rfl,r,_,rfl,SqT.of R.tu,rfl,_,_,rfl,_,_,rfl,rfl,?_⟩
  refine fun fo H1 hfo d1 c1=>?_
  have s1:Same H H1:=fun c u e=>by rw [c1 c (zy e hfo)];exact e
  refine⟨(by decide:0≤sizeLine),fun e0 he0=>⟨(by show 1≤sizeLine;decide),fun wa hwa=>?_⟩⟩
  have m2:=zj he0 (o:=.tup [])
  have m3:=zj hwa (o:=.lst [.ref e0])
  have hwa0:H wa=none:=s1.free (m2.free hwa)
  have S2:StepsD P w (upd (upd H1 e0 (.tup [])) wa (.lst [.ref e0])) fo (zs.map (·.2)) b []:=.new ((d1.same m2).same m3)
  have s2:=(s1.trans m2).trans m3
  have hw2:(upd (upd H1 e0 (.tup [])) wa (.lst [.ref e0])) wa=some (.lst (([(e0,([]:List Int))]:List (Addr×List Int)).map fun z=>V.ref z.1)):=zg
  have he2:(upd (upd H1 e0 (.tup [])) wa (.lst [.ref e0])) e0=some (.tup (([]:List Int).map V.int)):=m3 _ _ zg
  generalize upd (upd H1 e0 (.tup [])) wa (.lst [.ref e0])=H2 at S2 s2 hw2 he2
  refine QC (fun m σ Hc=>∃ (kvs:List (List Key×V)) (ws:List (Addr×List Int)) (v5 v6:Option V),σ=[some (.ref r),some (.int b),some (.ref bl),some (.ref fo),some (.ref wa),v5,v6]∧StepsD P w Hc fo (zs.map (·.2)) b kvs∧(∀ kv∈kvs,kv.2≠.ref wa)∧Hc wa=some (.lst (ws.map fun z=>V.ref z.1))∧(∀ z∈ws,Hc z.1=some (.tup (z.2.map V.int))∧jj (zs.map (·.2)) z.2)∧(∀ x,yH kvs (kI x)≠none->∀ p∈yw (zs.map (·.2)) x b,yH kvs (kI p.2)≠none∨p.2∈ws.map (·.2))∧(yH kvs (kI [])≠none∨[]∈ws.map (·.2))∧Same H Hc∧ws.length≤1+16*kvs.length∧m=(13-kvs.length)*17+ws.length) _ ⟨[],[(e0,[])],none,none,rfl,S2,(fun kv hk=>nomatch hk),hw2,(fun z hz=>by rw [List.mem_singleton.mp hz];exact⟨he2,.inl rfl⟩),(fun x h=>absurd rfl h),.inr (by simp),s2,by simp,rfl⟩ ?_ ?_
  ·rintro m σ Hc ⟨kvs,ws,v5,v6,rfl,S,hkw,hwl,hws,hcl,hrt,sc,hwn,rfl⟩
   have hk13:=S.len (by rw [List.length_map];exact h4) hst4
   refine⟨_,rfl,(by decide:0≤sizeLine),fun p0 hp0=>?_⟩
   have mp:=zj hp0 (o:=.lst [])
   refine⟨.lst ((ws.map (·.2)).map um),.lst [],?_,?_,(by rw [wC];have:=qw (ws.map (·.2));omega),_,rfl,?_⟩
   ·rw [TrAt];exact⟨wa,_,rfl,SqL.of (mp _ _ hwl),TrsAt.tups fun z hz=>mp _ _ (hws z hz).1⟩
   ·rw [TrAt];exact⟨p0,_,rfl,SqL.of zg,by rw [TrsAt]⟩
   rw [if_pos rfl,ZW]
   have Sp:=S.same mp
   have hwp:=mp _ _ hwl
   have scp:=sc.trans mp
   have hwsp:∀ z∈ws,(upd Hc p0 (.lst [])) z.1=some (.tup (z.2.map V.int))∧jj (zs.map (·.2)) z.2:=fun z hz=>⟨mp _ _ (hws z hz).1,(hws z hz).2⟩
   generalize upd Hc p0 (.lst [])=Hp at Sp hwp scp hwsp
   rcases (show ws=[]∨∃ (ws':List (Addr×List Int)) (z:Addr×List Int),ws=ws'++[z] by
    rcases List.eq_nil_or_concat ws with h | ⟨a,b,h⟩
    ·exact .inl h
    ·exact .inr ⟨a,b,by rw [h,List.concat_eq_append]⟩) with rfl | ⟨ws',z,rfl⟩
   ·refine xj ⟨_,rfl,?_⟩
    exact kk fo kvs Hp hfo scp Sp (fun x hx p hp=>(hcl x hx p hp).resolve_right (by simp)) (hrt.resolve_right (by simp))
   ·have hzst:=(hwsp z (by simp)).2
    have hz1:=(hwsp z (by simp)).1
    have hfowa:fo≠wa:=fun e=>by
     have d:=Sp.d
     obtain⟨_,_,e2,_⟩:=d
     rw [e,hwp] at e2;cases e2
    refine zdk (by simp) ?_
    refine⟨_,rfl,.inl ⟨rfl,_,SqL.of hwp⟩,wa,_,.ref z.1,rfl,rfl,hwp,by simp,?_⟩
    rw [show ((ws'++[z]).map fun z=>V.ref z.1).dropLast=ws'.map fun z=>V.ref z.1 by simp]
    have kt:∀ c us,Hp c=some (.tup us)->(upd Hp wa (.lst (ws'.map fun z=>V.ref z.1))) c=some (.tup us):=fun c us h=>by
     rw [zu (fun q=>by rw [q,hwp] at h;cases h)];exact h
    have S3:StepsD P w (upd Hp wa (.lst (ws'.map fun z=>V.ref z.1))) fo (zs.map (·.2)) b kvs:=Sp.keep (zu hfowa) (fun kv hk la e=>zu fun q=>hkw kv hk (by rw [e,q])) kt
    have sc3:Same H (upd Hp wa (.lst (ws'.map fun z=>V.ref z.1))):=fun c u e=>by rw [zu (zy e hwa0)];exact scp _ _ e
    have hw3:(upd Hp wa (.lst (ws'.map fun z=>V.ref z.1))) wa=some (.lst (ws'.map fun z=>V.ref z.1)):=zg
    have hws3:∀ y∈ws',(upd Hp wa (.lst (ws'.map fun z=>V.ref z.1))) y.1=some (.tup (y.2.map V.int))∧jj (zs.map (·.2)) y.2:=fun y hy=>⟨kt _ _ (hwsp y (by simp [hy])).1,(hwsp y (by simp [hy])).2⟩
    have hz3:=kt _ _ hz1
    generalize upd Hp wa (.lst (ws'.map fun z=>V.ref z.1))=H3 at S3 sc3 hw3 hws3 hz3
    rw [List.length_append,List.length_singleton] at hwn
    refine⟨_,rfl,_,rfl,fo,kvs,kI z.2,z.1,rfl,S3.d,rfl,by rw [zaj];exact hz3,_,rfl,?_⟩
    cases hv:yH kvs (kI z.2) with
    | some v =>
     refine xj ⟨_,?_,kvs,ws',_,_,rfl,S3,hkw,hw3,hws3,fun x hx p hp=>?_,?_,sc3,by omega,rfl⟩
     ·rw [List.length_append,List.length_singleton];omega
     ·rcases hcl x hx p hp with h | h
      ·exact .inl h
      ·rw [List.map_append,List.mem_append] at h
       rcases h with h | h
       ·exact .inr h
       ·rw [List.mem_singleton.mp h,hv];exact .inl (by simp)
     ·rcases hrt with h | h
      ·exact .inl h
      ·rw [List.map_append,List.mem_append] at h
       rcases h with h | h
       ·exact .inr h
       ·rw [List.mem_singleton.mp h,hv];exact .inl (by simp)
    | none =>
     refine wI ?_
     have B3:BadAt H3 bl zs:=⟨sc3 _ _ R.li,fun z hz=>sc3 _ _ (R.st z hz)⟩
     refine⟨_,rfl,_,rfl,by omega,by omega,?_⟩
     rw [Int.toNat_natCast]
     refine xR (lo:=0) (n:=b) (fun i ys Hd=>∃ bs:List (Addr×Nat×V),ys=bs.map (fun t=>V.ref t.1)∧bs.map (·.2.1)=List.range i∧(∀ t∈bs,Hd t.1=some (.tup [.int ((t.2.1:Nat):Int),t.2.2])∧AftV Hd (aft (zs.map (·.2)) z.2 (t.2.1:Int)) t.2.2)∧Same H3 Hd) ⟨[],rfl,rfl,(fun t h=>nomatch h),Same.refl _⟩ ?_ ?_
     ·rintro i ys Hd hi ⟨bs,rfl,e1,hbs,sd⟩
      have hbl:bs.length=i:=by have:=congrArg List.length e1;rwa [List.length_map,List.length_range] at this
      refine⟨by rw [List.length_map,hbl];exact Nat.lt_of_le_of_lt (show i≤100 by omega) (by decide),?_⟩
      unfold qP
      dsimp only
      rw [if_pos rfl]
      refine⟨_,rfl,_,rfl,_,rfl,_,rfl,bl,zs,z.1,z.2,i,b,by rw [Int.zero_add];rfl,B3.same sd,sd _ _ hz3,g,hzst,fun v He se av=>⟨(by show 2≤sizeLine;decide),fun q hq=>?_⟩⟩
      have mq:=zj hq (o:=.tup [.int (0+(i:Int)),v])
      have sq:=se.trans mq
      refine⟨bs++[(q,i,v)],by rw [List.map_append];rfl,by rw [List.map_append,e1,List.range_succ];rfl,fun t ht=>?_,sd.trans sq⟩
      rcases List.mem_append.mp ht with h | h
      ·exact⟨sq _ _ (hbs t h).1,(hbs t h).2.same fun c us e=>sq _ _ e⟩
      ·rw [List.mem_singleton.mp h]
       exact⟨by rw [zg,Int.zero_add],av.same fun c us e=>mq _ _ e⟩
     rintro ys H4 ⟨bs,rfl,e1,hbs,s34⟩ bo hbo
     have hbl:bs.length=b:=by have:=congrArg List.length e1;rwa [List.length_map,List.length_range] at this
     have m4:=zj hbo (o:=.lst (bs.map fun t=>V.ref t.1))
     have s35:=s34.trans m4
     have hbo5:(upd H4 bo (.lst (bs.map fun t=>V.ref t.1))) bo=some (.lst (bs.map fun t=>V.ref t.1)):=zg
     have hbs5:∀ t∈bs,(upd H4 bo (.lst (bs.map fun t=>V.ref t.1))) t.1=some (.tup [.int ((t.2.1:Nat):Int),t.2.2])∧AftV (upd H4 bo (.lst (bs.map fun t=>V.ref t.1))) (aft (zs.map (·.2)) z.2 (t.2.1:Int)) t.2.2:=fun t h=>⟨m4 _ _ (hbs t h).1,(hbs t h).2.same fun c us e=>m4 _ _ e⟩
     generalize upd H4 bo (.lst (bs.map fun t=>V.ref t.1))=H5 at s35 hbo5 hbs5
     refine⟨_,rfl,bo,rfl,⟨_,SqL.of hbo5⟩,wL (K:=K) (a:=bo) (xs:=bs.map fun t=>V.ref t.1) (fun i ys Hd=>∃ ss:StL,ys=ss.map (fun s=>V.ref s.1)∧(∀ s∈ss,Hd s.1=some (.tup [.int ((s.2.1:Nat):Int),.ref s.2.2.1])∧Hd s.2.2.1=some (.tup (s.2.2.2.map V.int)))∧ss.map (fun s=>(s.2.1,s.2.2.2))=yw (zs.map (·.2)) z.2 i∧Same H5 Hd) ⟨[],rfl,(fun s h=>nomatch h),rfl,Same.refl _⟩ (fun i ys Hd _ ⟨_,_,_,_,e⟩=>SqL.of (e _ _ hbo5)) ?_ ?_⟩
     ·rintro i u ys Hd hi ⟨ss,rfl,hss,ess,sd⟩
      rw [List.getElem?_map] at hi
      obtain⟨t,hti,e⟩:=Option.map_eq_some_iff.mp hi
      subst e
      have hil:i<b:=by rw [← hbl];exact (List.getElem?_eq_some_iff.mp hti).1
      have hti1:t.2.1=i:=by
       have:=congrArg (fun l:List Nat=>l[i]?) e1
       simp only [List.getElem?_map,hti,List.getElem?_range hil,Option.map_some] at this
       exact Option.some.inj this
      obtain⟨ht1,ht2⟩:=hbs5 t (List.mem_of_getElem? hti)
      have hsl:ss.length≤i:=by have:=congrArg List.length ess;rw [List.length_map] at this;rw [this];exact WP _ _ _
      refine⟨by rw [List.length_map];exact Nat.lt_of_le_of_lt (show ss.length≤100 by omega) (by decide),?_⟩
      refine⟨_,rfl,t.1,_,_,t.2.2,rfl,rfl,SqT.of (sd _ _ ht1),rfl,rfl,_,rfl,?_⟩
      rw [hti1] at ht1 ht2
      cases ha:aft (zs.map (·.2)) z.2 (i:Int) with
      | none =>
       rw [ha] at ht2
       have ht2:t.2.2=.non:=ht2
       rw [ht2]
       refine zbv (by rw [decide_eq_true rfl];rfl) ⟨ss,rfl,hss,?_,sd⟩
       rw [ess,qR,ha];simp
      | some y =>
       rw [ha] at ht2
       obtain⟨ya,eya,hya⟩:=ht2
       rw [eya] at ht1 ⊢
       refine zdk (by rw [decide_eq_false (fun z=>by cases z)];rfl) ⟨_,rfl,ss++[(t.1,i,ya,y)],by rw [List.map_append];rfl,fun s hs=>?_,?_,sd⟩
       ·rcases List.mem_append.mp hs with h | h
        ·exact hss s h
        ·rw [List.mem_singleton.mp h];exact⟨sd _ _ ht1,sd _ _ hya⟩
       ·rw [List.map_append,ess,qR,ha];rfl
     rintro ys H6 ⟨ss,rfl,hss,ess,s56⟩ la hla
     rw [List.length_map,hbl] at ess
     have m6:=zj hla (o:=.lst (ss.map fun s=>V.ref s.1))
     have s37:=(s35.trans s56).trans m6
     have St7:StepAt (upd H6 la (.lst (ss.map fun s=>V.ref s.1))) (zs.map (·.2)) b z.2 la ss:=⟨zg,fun s h=>⟨m6 _ _ (hss s h).1,m6 _ _ (hss s h).2⟩,ess⟩
     have hlawa:la≠wa:=fun e=>by have:=s56 _ _ (s35 _ _ hw3);rw [← e,hla] at this;cases this
     generalize upd H6 la (.lst (ss.map fun s=>V.ref s.1))=H7 at s37 St7
     have S7:=S3.same s37
     have hz7:=s37 _ _ hz3
     have hssl:=St7.len
     refine⟨_,rfl,_,rfl,fo,kvs,kI z.2,z.1,rfl,S7.d,rfl,by rw [zaj];exact hz7,Nat.lt_of_le_of_lt (show kvs.length≤100 by omega) (by decide),fun H8 d8 c8=>?_⟩
     have S8:=S7.put hv d8 c8 hzst St7
     have nfo:∀ {c:Addr} {u:HO},H7 c=some u->(∀ φ,u≠.ext φ)->c≠fo:=fun {c u} h hu z=>by
      have d:=S7.d
      obtain⟨_,_,e,_⟩:=d
      rw [z,e] at h
      cases h
      exact hu _ rfl
     have k8:∀ {c:Addr} {u:HO},H7 c=some u->(∀ φ,u≠.ext φ)->H8 c=some u:=fun {c u} h hu=>by rw [c8 c (nfo h hu)];exact h
     have hw8:=k8 (s37 _ _ hw3) (fun _ z=>nomatch z)
     have hz8:=k8 hz7 (fun _ z=>nomatch z)
     have hws8:∀ y∈ws',H8 y.1=some (.tup (y.2.map V.int))∧jj (zs.map (·.2)) y.2:=fun y hy=>⟨k8 (s37 _ _ (hws3 y hy).1) (fun _ z=>nomatch z),(hws3 y hy).2⟩
     have sc8:Same H H8:=fun c u e=>by rw [c8 c (zy e hfo)];exact s37 _ _ (sc3 _ _ e)
     have vz:yH (putK kvs (kI z.2) (.ref la)) (kI z.2)=some (.ref la):=by rw [Ww,if_pos rfl]
     obtain⟨la',ss',ela,_,St8⟩:=S8.get vz
     cases ela
     have hkw8:∀ kv∈putK kvs (kI z.2) (.ref la),kv.2≠.ref wa:=fun kv hk=>by
      rw [Zn _ hv] at hk
      rcases List.mem_append.mp hk with hk | hk
      ·exact hkw kv hk
      ·rw [List.mem_singleton.mp hk]
       exact fun e=>hlawa (by injection e)
     have hss8l:=St8.len
     have hl8:(putK kvs (kI z.2) (.ref la)).length=kvs.length+1:=by rw [Zn _ hv,List.length_append];rfl
     have h813:=S8.len (by rw [List.length_map];exact h4) hst4
     refine⟨_,rfl,.inl ⟨rfl,_,SqL.of hw8⟩,_,rfl,_,rfl,fo,_,kI z.2,z.1,.ref la,rfl,S8.d,rfl,by rw [zaj];exact hz8,vz,la,rfl,⟨_,SqL.of St8.li⟩,wB (K:=K) (a:=la) (xs:=ss'.map fun s=>V.ref s.1) (fun i ys Hd=>ys=(ss'.take i).map (fun s=>V.ref s.2.2.1)∧Hd=H8) ⟨rfl,rfl⟩ (fun i ys Hd _ ⟨_,e⟩=>by rw [e];exact SqL.of St8.li) ?_ ?_⟩
     ·rintro i u ys Hd hi ⟨rfl,rfl⟩
      rw [List.getElem?_map] at hi
      obtain⟨t,hti,e⟩:=Option.map_eq_some_iff.mp hi
      subst e
      obtain⟨q1,q2⟩:=St8.tu t (List.mem_of_getElem? hti)
      refine⟨by rw [List.length_map,List.length_take];exact Nat.lt_of_le_of_lt (show min i ss'.length≤100 by omega) (by decide),?_⟩
      refine⟨t.1,_,rfl,SqT.of q1,rfl,_,_,rfl,_,_,rfl,rfl,⟨[_,_],rfl,rfl⟩,?_⟩
      unfold qP
      dsimp only
      rw [if_pos rfl]
      refine⟨_,rfl,?_,rfl⟩
      rw [List.take_succ,hti,List.map_append];rfl
     rintro ys Hd ⟨rfl,rfl⟩ ex hex
     rw [List.length_map,List.take_length]
     have me:=zj hex (o:=.lst (ss'.map fun s=>V.ref s.2.2.1))
     refine⟨wa,ex,_,_,rfl,rfl,me _ _ hw8,zg,?_,?_⟩
     ·rw [List.length_map,List.length_map]
      exact Nat.le_trans (show ws'.length+ss'.length≤10000 by omega) (by decide)
     have hwa9:=me _ _ hw8
     have S9:=S8.same me
     have sc9:=sc8.trans me
     have hws9:∀ y∈ws'++ss'.map (fun s=>(s.2.2.1,s.2.2.2)),(upd Hd ex (.lst (ss'.map fun s=>V.ref s.2.2.1))) y.1=some (.tup (y.2.map V.int))∧jj (zs.map (·.2)) y.2:=fun y hy=>by
      rcases List.mem_append.mp hy with h | h
      ·exact⟨me _ _ (hws8 y h).1,(hws8 y h).2⟩
      ·obtain⟨t,ht,rfl⟩:=List.mem_map.mp h
       refine⟨me _ _ (St8.tu t ht).2,?_⟩
       have hm:(t.2.1,t.2.2.2)∈yw (zs.map (·.2)) z.2 b:=by rw [← St8.eq];exact List.mem_map.mpr ⟨t,ht,rfl⟩
       exact (zc2 ne (ur hm).2).2.2
     generalize upd Hd ex (.lst (ss'.map fun s=>V.ref s.2.2.1))=H9 at hwa9 S9 sc9 hws9
     rw [show (ws'.map fun z=>V.ref z.1)++(ss'.map fun s=>V.ref s.2.2.1)=(ws'++ss'.map (fun s=>(s.2.2.1,s.2.2.2))).map fun z=>V.ref z.1 by rw [List.map_append,List.map_map];rfl]
     have kt9:∀ c us,H9 c=some (.tup us)->(upd H9 wa (.lst ((ws'++ss'.map (fun s=>(s.2.2.1,s.2.2.2))).map fun z=>V.ref z.1))) c=some (.tup us):=fun c us h=>by
      rw [zu (fun q=>by rw [q,hwa9] at h;cases h)];exact h
     have hin:∀ {y:List Int},y∈(ws'++[z]).map (·.2)->yH (putK kvs (kI z.2) (.ref la)) (kI y)≠none∨y∈(ws'++ss'.map (fun s=>(s.2.2.1,s.2.2.2))).map (·.2):=fun {y} h=>by
      rw [List.map_append,List.mem_append] at h
      rcases h with h | h
      ·exact .inr (by rw [List.map_append];exact List.mem_append_left _ h)
      ·rw [List.mem_singleton.mp h,vz];exact .inl (by simp)
     have hup:∀ {y:List Int},yH kvs (kI y)≠none->yH (putK kvs (kI z.2) (.ref la)) (kI y)≠none:=fun {y} h=>by
      rw [Ww]
      split
      ·simp
      ·exact h
     refine⟨_,?_,putK kvs (kI z.2) (.ref la),ws'++ss'.map (fun s=>(s.2.2.1,s.2.2.2)),_,_,rfl,S9.keep (zu hfowa) (fun kv hk la e=>zu fun q=>hkw8 kv hk (by rw [e,q])) kt9,hkw8,zg,(fun y hy=>⟨kt9 _ _ (hws9 y hy).1,(hws9 y hy).2⟩),fun x hx p hp=>?_,?_,(fun c u e=>by rw [zu (zy e hwa0)];exact sc9 _ _ e),?_,rfl⟩
     ·rw [hl8,List.length_append,List.length_append,List.length_map,List.length_singleton]
      omega
     ·rw [Ww] at hx
      by_cases hxz:kI x=kI z.2
      ·obtain rfl:=Vx hxz
       refine .inr ?_
       rw [← St8.eq] at hp
       obtain⟨t,ht,rfl⟩:=List.mem_map.mp hp
       rw [List.map_append,List.mem_append,List.map_map]
       exact .inr (List.mem_map.mpr ⟨t,ht,rfl⟩)
      ·rw [if_neg hxz] at hx
       rcases hcl x hx p hp with h | h
       ·exact .inl (hup h)
       ·exact hin h
     ·rcases hrt with h | h
      ·exact .inl (hup h)
      ·exact hin h
     ·rw [hl8,List.length_append,List.length_map]
      omega
  ·intro σ H2 Q Q' hq
   rintro⟨v,e,sz,h⟩
   refine⟨v,e,sz,fun p hp=>?_⟩
   obtain⟨t1,t2,a1,a2,dep,c1,ec,q⟩:=h p hp
   exact⟨t1,t2,a1,a2,dep,c1,ec,hq _ _ q⟩
end
theorem ZS {ls:List (List Int)} {x y:List Int} {n c:Nat} (hc:c<n) (h:aft ls x (c:Int)=some y):(c,y)∈yw ls x n:=List.mem_filterMap.mpr ⟨c,List.mem_range.mpr hc,by rw [h];rfl⟩
theorem Wu {ls:List (List Int)} {b:Nat} {x y:List Int}:stp ls b x y↔∃ p∈yw ls x b,p.2=y:=by
 constructor
 ·rintro⟨c,hc,h⟩
  exact⟨(c,y),ZS hc h,rfl⟩
 ·rintro⟨p,hp,rfl⟩
  obtain⟨h1,h2⟩:=ur hp
  exact⟨p.1,h1,h2⟩
theorem za2 {F W:List (Addr×List Int)} {z:Addr×List Int} (hin:z.2∈F.map (·.2)) {y:List Int} (h:y∈F.map (·.2)++(W++[z]).map (·.2)):y∈F.map (·.2)++W.map (·.2):=by
 rw [List.map_append] at h
 rcases List.mem_append.mp h with h | h
 ·exact List.mem_append_left _ h
 ·rcases List.mem_append.mp h with h | h
  ·exact List.mem_append_right _ h
  ·rw [List.map_singleton,List.mem_singleton] at h
   rw [h];exact List.mem_append_left _ hin
theorem zaC {F W N:List (Addr×List Int)} {z:Addr×List Int} {y:List Int} (h:y∈F.map (·.2)++(W++[z]).map (·.2)):y∈(F++[z]).map (·.2)++(W++N).map (·.2):=by
 rw [List.map_append] at h ⊢
 rw [List.map_append]
 rcases List.mem_append.mp h with h | h
 ·exact List.mem_append_left _ (List.mem_append_left _ h)
 ·rcases List.mem_append.mp h with h | h
  ·exact List.mem_append_right _ (List.mem_append_left _ h)
  ·exact List.mem_append_left _ (List.mem_append_right _ h)
def Nd (H:Hp) (kvs:List (List Key×V)) (z:Addr×List Int):Prop:=H z.1=some (.tup (z.2.map V.int))∧yH kvs (kI z.2)≠none
section
variable {P:Program} {w:World} {K:PySem.W.Frag} {mg:Str->Option Value} {base:Heap}
theorem StepsD.at {P:Program} {w:World} {H:Hp} {fo:Addr} {ls:List (List Int)} {b:Nat} {kvs:List (List Key×V)} (S:StepsD P w H fo ls b kvs) {x:List Int} (h:yH kvs (kI x)≠none):∃ la ss,yH kvs (kI x)=some (.ref la)∧jj ls x∧StepAt H ls b x la ss:=by
 cases e:yH kvs (kI x) with
 | none=>exact absurd e h
 | some v =>
  obtain⟨la,ss,rfl,h1,h2⟩:=S.get e
  exact⟨la,ss,rfl,h1,h2⟩
theorem zaM {H:Hp} {fo:Addr} {ls:List (List Int)} {b:Nat} {kvs:List (List Key×V)} (S:StepsD P w H fo ls b kvs) (g:zO b ls) {xs:List (List Int)} (nd:xs.Nodup) (h:∀ x∈xs,yH kvs (kI x)≠none):xs.length≤13:=by
 have hk:=Xd g.len fun st h=>(g.st st h).len
 by_cases hc:xs.length≤(Wj ls ls).length
 ·omega
 ·exfalso
  obtain⟨i,j,x,hij,h1,h2⟩:=Zr xs (Wj ls ls) (fun x hx=>by
   obtain⟨_,_,_,q,_⟩:=S.at (h x hx)
   exact Zq.mpr q) (by omega)
  have hj:=(List.getElem?_eq_some_iff.mp h2).1
  have:=(List.getElem?_inj (by omega) nd).mp (h1.trans h2.symm)
  omega
def wW (P:Program) (w:World):Sp:=fun vs H Q _=>∃ (fo:Addr) (ls:List (List Int)) (b:Nat) (kvs:List (List Key×V)) (sl:Addr) (ss:List (Addr×List Int)),vs=[.ref fo,.ref sl]∧StepsD P w H fo ls b kvs∧Qw ls b kvs∧zO b ls∧H sl=some (.lst (ss.map fun z=>V.ref z.1))∧ss.length≤100∧(∀ z∈ss,Nd H kvs z) ∧
 ∀ (fl:Addr) (F:List (Addr×List Int)) (H':Hp),H fl=none->Same H H'->H' fl=some (.lst (F.map fun z=>V.ref z.1))->(∀ z∈F,Nd H kvs z)->F.length≤13->(∀ y,y∈F.map (·.2)↔∃ x∈ss.map (·.2),Rch ls b x y)->Q (.ref fl) H'
theorem xr:zF ["steps","some","found","waiting","end"] ["steps","some"] (zq yD):=⟨rfl,rfl,rfl,by decide +kernel,rfl,by decide +kernel,by decide +kernel⟩
set_option maxHeartbeats 0 in
theorem tH {f:Addr} {fd:FuncData} (D:Df K mg "_law_ends_behind" yD ["steps","some"] f fd) (T:Blt mg):FnOk P w K mg base CX0 1 f fd ["steps","some"] (wW P w):=by
 refine D.fn.ok xr (fun vs H Q E h=>?_) (fun cdv A outer s H vs Q E hr h=>?_)
 ·obtain⟨fo,ls,b,kvs,sl,ss,rfl,_⟩:=h;rfl
 ·obtain⟨fo,ls,b,kvs,sl,ss,rfl,S,hcl,g,hsl,hs100,hss,kk⟩:=h
  have HU:=Xe hr
  have b16:=g.b16
  refine⟨_,(zp (zG (i:=2) xr.nd rfl (Or.inl rfl) (zJ zm))
   (zp (zG (i:=3) xr.nd rfl (Or.inl rfl) (jw (Vb K) (by rfl) T.n_list boot_list (zf (pv 1) zm)))
   (zp (ju PassesOwn.never (zM (Ul K HU) (pv 3) (zJ zm) (zU _))
    (zp (zG (i:=4) xr.nd rfl (Or.inl rfl) (zaa PySem.F.plainAttrs_list PySem.F.slot_list_pop PySem.F.type_list_pop J6 (pv 3)))
    (zx (xU (zM (YF K HU) (pv 4) (pv 2) (by with_unfolding_all rfl))
     (zp (vd (ZC PySem.F.plainAttrs_list PySem.F.slot_list_append PySem.F.type_list_append qb (pv 2) (zf (pv 4) zm)))
     (zx (vd (ZC PySem.F.plainAttrs_list PySem.F.slot_list_extend PySem.F.type_list_extend ZV (pv 3) (zf (YM (show w6 (zq yD) _ ["figure","there"] ["steps","some","found","waiting","end"] [] [] from ⟨rfl,by decide +kernel,by decide +kernel,by decide +kernel,by decide +kernel,rfl,by decide +kernel,by decide +kernel⟩) rfl (jJ K (YC P w (jL hr) (pv 0) (pv 4) (fun _ _=>rfl))) (fun _ _ _ _=>(Zz K 2 rfl (ye (zL (i:=0) (show List.Nodup (α:=Str) ["figure","there"] by decide) rfl (.inl (lookup_relabel_local rfl)) (.inr (lookup_relabel_local rfl))) (ye (zL (i:=1) (show List.Nodup (α:=Str) ["figure","there"] by decide) rfl (.inl (lookup_relabel_local rfl)) (.inr (lookup_relabel_local rfl))) vX)))) (fun _ _ _ _=>yG) (fun _ _ _ _=>(pv 1))) zm)))))
     yl))))
   (zx (zH (pv 2)))))),?_⟩
  refine⟨(by show 0≤sizeLine;decide),fun fl hfl=>?_⟩
  have m1:=zj hfl (o:=.lst [])
  refine⟨_,rfl,sl,_,rfl,.inl (SqL.of (m1 _ _ hsl)),fun wa hwa=>?_⟩
  have m2:=m1.trans (zj hwa (o:=.lst (ss.map fun z=>V.ref z.1)))
  have hwa0:H wa=none:=m1.free hwa
  have hne:fl≠wa:=fun z=>by rw [← z,zg] at hwa;cases hwa
  have hf2:upd (upd H fl (.lst [])) wa (.lst (ss.map fun z=>V.ref z.1)) fl=some (.lst (([]:List (Addr×List Int)).map fun z=>V.ref z.1)):=by rw [zu hne,zg];rfl
  have hw2:upd (upd H fl (.lst [])) wa (.lst (ss.map fun z=>V.ref z.1)) wa=some (.lst (ss.map fun z=>V.ref z.1)):=zg
  generalize upd (upd H fl (.lst [])) wa (.lst (ss.map fun z=>V.ref z.1))=H2 at m2 hf2 hw2
  refine QC (fun m σ Hc=>∃ (F W:List (Addr×List Int)) (v4:Option V),σ=[some (.ref fo),some (.ref sl),some (.ref fl),some (.ref wa),v4]∧Same H Hc∧Hc fl=some (.lst (F.map fun z=>V.ref z.1))∧Hc wa=some (.lst (W.map fun z=>V.ref z.1))∧(∀ z∈F,Nd H kvs z)∧(∀ z∈W,Nd H kvs z)∧(F.map (·.2)).Nodup∧(∀ y∈F.map (·.2)++W.map (·.2),∃ x∈ss.map (·.2),Rch ls b x y)∧(∀ x∈ss.map (·.2),x∈F.map (·.2)++W.map (·.2))∧(∀ x∈F.map (·.2),∀ y,stp ls b x y->y∈F.map (·.2)++W.map (·.2))∧W.length≤100+16*F.length∧m=(13-F.length)*17+W.length) _
   ⟨[],ss,none,rfl,m2,hf2,hw2,(fun z h=>nomatch h),hss,List.nodup_nil,(fun y hy=>⟨y,by simpa using hy,.refl _⟩),(fun x hx=>by simpa using hx),(fun x h=>nomatch h),by simpa using hs100,rfl⟩ ?_ ?_
  ·rintro m σ Hc ⟨F,W,v4,rfl,sc,hF,hW,hFn,hWn,nd,hre,hst,hclo,hWl,rfl⟩
   have hF13:F.length≤13:=by
    have:=zaM S g nd (fun x hx=>by
     obtain⟨z,hz,rfl⟩:=List.mem_map.mp hx
     exact (hFn z hz).2)
    rwa [List.length_map] at this
   refine⟨_,rfl,(by show 0≤sizeLine;decide),fun p0 hp0=>?_⟩
   have mp:=zj hp0 (o:=.lst [])
   refine⟨.lst ((W.map (·.2)).map um),.lst [],?_,?_,(by rw [wC];have:=qw (W.map (·.2));omega),_,rfl,?_⟩
   ·rw [TrAt];exact⟨wa,_,rfl,SqL.of (mp _ _ hW),TrsAt.tups fun z hz=>mp _ _ (sc _ _ (hWn z hz).1)⟩
   ·rw [TrAt];exact⟨p0,_,rfl,SqL.of zg,by rw [TrsAt]⟩
   rw [if_pos rfl,ZW]
   have scp:=sc.trans mp
   have hFp:=mp _ _ hF
   have hWp:=mp _ _ hW
   generalize upd Hc p0 (.lst [])=Hp at scp hFp hWp
   rcases (show W=[]∨∃ (W':List (Addr×List Int)) (z:Addr×List Int),W=W'++[z] by
    rcases List.eq_nil_or_concat W with h | ⟨a,b,h⟩
    ·exact .inl h
    ·exact .inr ⟨a,b,by rw [h,List.concat_eq_append]⟩) with rfl | ⟨W',z,rfl⟩
   ·refine xj ⟨_,rfl,?_⟩
    refine kk fl F Hp hfl scp hFp hFn hF13 fun y=>⟨fun hy=>hre y (by simpa using hy),?_⟩
    rintro⟨x,hx0,r⟩
    have hx:=hst x hx0
    rw [List.map_nil,List.append_nil] at hx
    clear hre hx0
    induction r with
    | refl=>exact hx
    | step q _ ih =>
     have:=hclo _ hx _ q
     rw [List.map_nil,List.append_nil] at this
     exact ih this
   ·have hzn:=hWn z (by simp)
    refine zdk (by simp) ?_
    refine⟨_,rfl,.inl ⟨rfl,_,SqL.of hWp⟩,wa,_,.ref z.1,rfl,rfl,hWp,by simp,?_⟩
    rw [show ((W'++[z]).map fun z=>V.ref z.1).dropLast=W'.map fun z=>V.ref z.1 by simp]
    have sc3:Same H (upd Hp wa (.lst (W'.map fun z=>V.ref z.1))):=fun c u e=>by rw [zu (zy e hwa0)];exact scp _ _ e
    have hF3:upd Hp wa (.lst (W'.map fun z=>V.ref z.1)) fl=some (.lst (F.map fun z=>V.ref z.1)):=by rw [zu hne];exact hFp
    have hW3:upd Hp wa (.lst (W'.map fun z=>V.ref z.1)) wa=some (.lst (W'.map fun z=>V.ref z.1)):=zg
    generalize upd Hp wa (.lst (W'.map fun z=>V.ref z.1))=H3 at sc3 hF3 hW3
    have hWn':∀ y∈W',Nd H kvs y:=fun y hy=>hWn y (by simp [hy])
    rw [List.length_append,List.length_singleton] at hWl
    refine⟨_,rfl,_,rfl,fl,_,(F.map (·.2)).map um,um z.2,rfl,SqL.of hF3,TrsAt.tups (fun y hy=>sc3 _ _ (hFn y hy).1),TrAt.tupI (sc3 _ _ hzn.1),by have:=qw (F.map (·.2));omega,_,rfl,?_⟩
    rw [if_pos rfl,zaZ]
    by_cases hin:z.2∈F.map (·.2)
    ·rw [decide_eq_true hin]
     refine xj ⟨_,?_,F,W',_,rfl,sc3,hF3,hW3,hFn,hWn',nd,(fun y hy=>hre y ?_),(fun x hx=>?_),(fun x hx y q=>?_),by omega,rfl⟩
     ·rw [List.length_append,List.length_singleton];omega
     ·rw [List.map_append]
      rcases List.mem_append.mp hy with h | h
      ·exact List.mem_append_left _ h
      ·exact List.mem_append_right _ (List.mem_append_left _ h)
     ·exact za2 hin (hst x hx)
     ·exact za2 hin (hclo x hx y q)
    ·rw [decide_eq_false hin]
     refine wI ?_
     refine⟨_,rfl,.inl ⟨rfl,_,SqL.of hF3⟩,_,rfl,fl,_,_,rfl,rfl,hF3,by rw [List.length_map];exact Nat.lt_of_le_of_lt hF13 (by decide),?_⟩
     have sc4:Same H (upd H3 fl (.lst (F.map (fun z=>V.ref z.1)++[.ref z.1]))):=fun c u e=>by rw [zu (zy e hfl)];exact sc3 _ _ e
     have hF4:upd H3 fl (.lst (F.map (fun z=>V.ref z.1)++[.ref z.1])) fl=some (.lst ((F++[z]).map fun z=>V.ref z.1)):=by rw [zg,List.map_append];rfl
     have hW4:upd H3 fl (.lst (F.map (fun z=>V.ref z.1)++[.ref z.1])) wa=some (.lst (W'.map fun z=>V.ref z.1)):=by rw [zu (Ne.symm hne)];exact hW3
     generalize upd H3 fl (.lst (F.map (fun z=>V.ref z.1)++[.ref z.1]))=H4 at sc4 hF4 hW4
     have S4:=S.same sc4
     obtain⟨la,st,hv,hzst,St0⟩:=S.at hzn.2
     have St:StepAt H4 ls b z.2 la st:=St0.keep (by rw [St0.li];exact sc4 _ _ St0.li) fun c zs h=>sc4 _ _ h
     have hstl:=St.len
     refine⟨_,rfl,.inl ⟨rfl,_,SqL.of hW4⟩,_,rfl,_,rfl,fo,_,kI z.2,z.1,.ref la,rfl,S4.d,rfl,by rw [zaj];exact sc4 _ _ hzn.1,hv,la,rfl,⟨_,SqL.of St.li⟩,wB (K:=K) (a:=la) (xs:=st.map fun s=>V.ref s.1) (fun i ys Hd=>ys=(st.take i).map (fun s=>V.ref s.2.2.1)∧Hd=H4) ⟨rfl,rfl⟩ (fun i ys Hd _ ⟨_,e⟩=>by rw [e];exact SqL.of St.li) ?_ ?_⟩
     ·rintro i u ys Hd hi ⟨rfl,rfl⟩
      rw [List.getElem?_map] at hi
      obtain⟨t,hti,e⟩:=Option.map_eq_some_iff.mp hi
      subst e
      obtain⟨q1,q2⟩:=St.tu t (List.mem_of_getElem? hti)
      refine⟨by rw [List.length_map,List.length_take];exact Nat.lt_of_le_of_lt (show min i st.length≤100 by omega) (by decide),?_⟩
      refine⟨t.1,_,rfl,SqT.of q1,rfl,_,_,rfl,_,_,rfl,rfl,⟨[_,_],rfl,rfl⟩,?_⟩
      unfold qP
      dsimp only
      rw [if_pos rfl]
      refine⟨_,rfl,?_,rfl⟩
      rw [List.take_succ,hti,List.map_append];rfl
     rintro ys Hd ⟨rfl,rfl⟩ ex hex
     rw [List.length_map,List.take_length]
     have me:=zj hex (o:=.lst (st.map fun s=>V.ref s.2.2.1))
     refine⟨wa,ex,_,_,rfl,rfl,me _ _ hW4,zg,?_,?_⟩
     ·rw [List.length_map,List.length_map]
      exact Nat.le_trans (show W'.length+st.length≤10000 by omega) (by decide)
     rw [show (W'.map fun z=>V.ref z.1)++(st.map fun s=>V.ref s.2.2.1)=(W'++st.map (fun s=>(s.2.2.1,s.2.2.2))).map fun z=>V.ref z.1 by rw [List.map_append,List.map_map];rfl]
     have sc5:Same H (upd (upd Hd ex (.lst (st.map fun s=>V.ref s.2.2.1))) wa (.lst ((W'++st.map (fun s=>(s.2.2.1,s.2.2.2))).map fun z=>V.ref z.1))):=fun c u e=>by rw [zu (zy e hwa0)];exact me _ _ (sc4 _ _ e)
     have hF5:upd (upd Hd ex (.lst (st.map fun s=>V.ref s.2.2.1))) wa (.lst ((W'++st.map (fun s=>(s.2.2.1,s.2.2.2))).map fun z=>V.ref z.1)) fl=some (.lst ((F++[z]).map fun z=>V.ref z.1)):=by rw [zu hne];exact me _ _ hF4
     have hnew:∀ y∈st.map (fun s=>(s.2.2.1,s.2.2.2)),Nd H kvs y∧stp ls b z.2 y.2:=fun y hy=>by
      obtain⟨t,ht,rfl⟩:=List.mem_map.mp hy
      have hm:(t.2.1,t.2.2.2)∈yw ls z.2 b:=by rw [← St0.eq];exact List.mem_map.mpr ⟨t,ht,rfl⟩
      exact⟨⟨(St0.tu t ht).2,hcl z.2 hzn.2 (t.2.1,t.2.2.2) hm⟩,Wu.mpr ⟨_,hm,rfl⟩⟩
     have hzr:=hre z.2 (by rw [List.map_append];exact List.mem_append_right _ (List.mem_append_right _ (List.mem_singleton.mpr rfl)))
     refine⟨_,?_,F++[z],W'++st.map (fun s=>(s.2.2.1,s.2.2.2)),_,rfl,sc5,hF5,zg,fun y hy=>?_,fun y hy=>?_,?_,fun y hy=>?_,fun x hx=>zaC (hst x hx),fun x hx y q=>?_,?_,rfl⟩
     ·have h13:(F++[z]).length≤13:=by
       have:=zaM S g (xs:=(F++[z]).map (·.2)) (by
        rw [List.map_append]
        exact List.nodup_append.mpr ⟨nd,by simp,fun a ha b hb=>by
         rw [List.map_singleton,List.mem_singleton] at hb
         rw [hb]
         exact fun e=>hin (e▸ha)⟩) (fun x hx=>by
        obtain⟨y,hy,rfl⟩:=List.mem_map.mp hx
        rcases List.mem_append.mp hy with h | h
        ·exact (hFn y h).2
        ·rw [List.mem_singleton.mp h];exact hzn.2)
       rwa [List.length_map] at this
      rw [List.length_append,List.length_singleton] at h13
      rw [List.length_append,List.length_append,List.length_append,List.length_map,List.length_singleton]
      omega
     ·rcases List.mem_append.mp hy with h | h
      ·exact hFn y h
      ·rw [List.mem_singleton.mp h];exact hzn
     ·rcases List.mem_append.mp hy with h | h
      ·exact hWn' y h
      ·exact (hnew y h).1
     ·rw [List.map_append]
      exact List.nodup_append.mpr ⟨nd,by simp,fun a ha b hb=>by
       rw [List.map_singleton,List.mem_singleton] at hb
       rw [hb]
       exact fun e=>hin (e▸ha)⟩
     ·rw [List.map_append,List.map_append] at hy
      rcases List.mem_append.mp hy with h | h
      ·rcases List.mem_append.mp h with h | h
       ·exact hre y (List.mem_append_left _ h)
       ·rw [List.map_singleton,List.mem_singleton] at h
        rw [h];exact hzr
      ·rcases List.mem_append.mp h with h | h
       ·exact hre y (List.mem_append_right _ (by rw [List.map_append];exact List.mem_append_left _ h))
       ·obtain⟨y',hy',rfl⟩:=List.mem_map.mp h
        obtain⟨x,hx,r⟩:=hzr
        exact⟨x,hx,r.trans (.step (hnew y' hy').2 (.refl _))⟩
     ·rw [List.map_append] at hx
      rcases List.mem_append.mp hx with h | h
      ·exact zaC (hclo x h y q)
      ·rw [List.map_singleton,List.mem_singleton] at h
       rw [h] at q
       obtain⟨p,hp,rfl⟩:=Wu.mp q
       rw [← St0.eq] at hp
       obtain⟨t,ht,rfl⟩:=List.mem_map.mp hp
       exact List.mem_append_right _ (by rw [List.map_append];exact List.mem_append_right _ (List.mem_map.mpr ⟨_,List.mem_map.mpr ⟨t,ht,rfl⟩,rfl⟩))
     ·rw [List.length_append,List.length_append,List.length_map,List.length_singleton]
      omega
  ·intro σ H2 Q Q' hq
   rintro⟨v,e,sz,h⟩
   refine⟨v,e,sz,fun p hp=>?_⟩
   obtain⟨t1,t2,a1,a2,dep,c1,ec,q⟩:=h p hp
   exact⟨t1,t2,a1,a2,dep,c1,ec,hq _ _ q⟩
def uZ (P:Program) (w:World):Sp:=fun vs H Q _=>∃ (fo:Addr) (ls:List (List Int)) (b:Nat) (kvs:List (List Key×V)),vs=[.ref fo]∧StepsD P w H fo ls b kvs∧Qw ls b kvs∧zO b ls∧yH kvs (kI [])≠none∧∀ eb:Bool,(eb=true↔zbM ls b)->∀ H',Same H H'->Q (.bl eb) H'
theorem uX:zF ["steps","firsts","end"] ["steps"] (zq xJ):=⟨rfl,rfl,rfl,by decide +kernel,rfl,by decide +kernel,by decide +kernel⟩
set_option maxHeartbeats 0 in
theorem j6 {f f1:Addr} {fd fd1:FuncData} (D:Df K mg "_law_endless" xJ ["steps"] f fd) (zV:Df K mg "_law_ends_behind" yD ["steps","some"] f1 fd1) (T:Blt mg):FnOk P w K mg base CX0 2 f fd ["steps"] (uZ P w):=by
 have v9:FnOk P w K mg base CX0 1 f1 fd1 ["steps","some"] (wW P w):=tH zV T
 refine D.fn.ok uX (fun vs H Q E h=>?_) (fun cdv A outer s H vs Q E hr h=>?_)
 ·obtain⟨fo,ls,b,kvs,rfl,_⟩:=h;rfl
 ·obtain⟨fo,ls,b,kvs,rfl,S,hcl,g,hnil,kk⟩:=h
  have kT:=fun q:zbM ls b=>kk true ⟨fun _=>q,fun _=>rfl⟩
  have kF:=fun q:¬ zbM ls b=>kk false ⟨(fun z=>nomatch z),fun z=>absurd z q⟩
  have HU:=Xe hr
  have b16:=g.b16
  obtain⟨la,st,hv,_,St0⟩:=S.at hnil
  have hstl:=St0.len
  refine⟨_,(zp (qX (i:=1) (show w6 (zq xJ) _ ["figure","there"] ["steps","firsts","end"] [] [] from ⟨rfl,by decide +kernel,by decide +kernel,by decide +kernel,by decide +kernel,rfl,by decide +kernel,by decide +kernel⟩) rfl uX.nd rfl (Or.inl rfl) (jJ K (YC P w (jL hr) (pv 0) (vh zm) (fun _ _=>rfl))) (fun _ _ _ _=>(Zz K 2 rfl (ye (zL (i:=0) (show List.Nodup (α:=Str) ["figure","there"] by decide) rfl (.inl (lookup_relabel_local rfl)) (.inr (lookup_relabel_local rfl))) (ye (zL (i:=1) (show List.Nodup (α:=Str) ["figure","there"] by decide) rfl (.inl (lookup_relabel_local rfl)) (.inr (lookup_relabel_local rfl))) vX)))) (fun _ _ _ _=>(YJ (zM QT (pv 0) zr (zU _)))) (fun _ _ _ _=>(pv 1)))
   (zp (qm PassesOwn.never rfl (jJ K (zP zV v9 (hr.mono (by decide)) (zf (pv 0) (zf (pv 1) zm)))) (zL (i:=2) uX.nd rfl (Or.inl rfl))
    (zx (xU (zM (zd2 K HU) (pv 2) (zP zV v9 (hr.mono (by decide)) (zf (pv 0) (zf (YM (show w6 (zq xJ) _ ["figure","there"] ["steps","firsts","end"] [] [] from ⟨rfl,by decide +kernel,by decide +kernel,by decide +kernel,by decide +kernel,rfl,by decide +kernel,by decide +kernel⟩) rfl (jJ K (YC P w (jL hr) (pv 0) (pv 2) (fun _ _=>rfl))) (fun _ _ _ _=>(Zz K 2 rfl (ye (zL (i:=0) (show List.Nodup (α:=Str) ["figure","there"] by decide) rfl (.inl (lookup_relabel_local rfl)) (.inr (lookup_relabel_local rfl))) (ye (zL (i:=1) (show List.Nodup (α:=Str) ["figure","there"] by decide) rfl (.inl (lookup_relabel_local rfl)) (.inr (lookup_relabel_local rfl))) vX)))) (fun _ _ _ _=>yG) (fun _ _ _ _=>(pv 1))) zm))) (by with_unfolding_all rfl))
     (zx (zH Zt))
     yl)))
   (zx (zH Zt)))),?_⟩
  refine⟨_,rfl,(by show 0≤sizeLine;decide),fun t0 ht0=>?_⟩
  have m1:=zj ht0 (o:=.tup [])
  have S1:=S.same m1
  have St1:StepAt (upd H t0 (.tup [])) ls b [] la st:=St0.keep (by rw [St0.li];exact m1 _ _ St0.li) fun c zs h=>m1 _ _ h
  refine⟨fo,_,kI [],t0,.ref la,rfl,S1.d,rfl,zg,hv,la,rfl,⟨_,SqL.of St1.li⟩,?_⟩
  generalize upd H t0 (.tup [])=H1 at m1 S1 St1
  refine wB (K:=K) (a:=la) (xs:=st.map fun s=>V.ref s.1) (fun i ys Hd=>ys=((st.take i).filter fun s=>decide (0<s.2.1)).map (fun s=>V.ref s.2.2.1)∧Hd=H1) ⟨rfl,rfl⟩ (fun i ys Hd _ ⟨_,e⟩=>by rw [e];exact SqL.of St1.li) ?_ ?_
  ·rintro i u ys Hd hi ⟨rfl,rfl⟩
   rw [List.getElem?_map] at hi
   obtain⟨t,hti,e⟩:=Option.map_eq_some_iff.mp hi
   subst e
   obtain⟨q1,q2⟩:=St1.tu t (List.mem_of_getElem? hti)
   refine⟨by rw [List.length_map];exact Nat.lt_of_le_of_lt (Nat.le_trans (List.length_filter_le _ _) (show (st.take i).length≤100 by rw [List.length_take];omega)) (by decide),?_⟩
   refine⟨t.1,_,rfl,SqT.of q1,rfl,_,_,rfl,_,_,rfl,rfl,⟨[_,_],rfl,rfl⟩,?_⟩
   refine⟨_,rfl,_,_,rfl,rfl,_,rfl,?_⟩
   rw [List.take_succ,hti]
   by_cases h0:0<t.2.1
   ·rw [decide_eq_true (show (0:Int)<((t.2.1:Nat):Int) by omega)]
    refine wI ⟨_,rfl,?_,rfl⟩
    simp [List.filter_append,h0]
   ·rw [decide_eq_false (show ¬ (0:Int)<((t.2.1:Nat):Int) by omega)]
    refine xj ⟨?_,rfl⟩
    simp [List.filter_append,h0]
  rintro ys Hd ⟨rfl,rfl⟩ fi hfi
  rw [List.length_map,List.take_length]
  have m2:=zj hfi (o:=.lst ((st.filter fun s=>decide (0<s.2.1)).map fun s=>V.ref s.2.2.1))
  have hfi2:upd Hd fi (.lst ((st.filter fun s=>decide (0<s.2.1)).map fun s=>V.ref s.2.2.1)) fi=some (.lst (((st.filter fun s=>decide (0<s.2.1)).map fun s=>(s.2.2.1,s.2.2.2)).map fun z=>V.ref z.1)):=by rw [zg,List.map_map];rfl
  have S2:=S1.same m2
  have m12:=m1.trans m2
  have hnd:∀ z∈(st.filter fun s=>decide (0<s.2.1)).map (fun s=>(s.2.2.1,s.2.2.2)),Nd (upd Hd fi (.lst ((st.filter fun s=>decide (0<s.2.1)).map fun s=>V.ref s.2.2.1))) kvs z:=fun z hz=>by
   obtain⟨t,ht,rfl⟩:=List.mem_map.mp hz
   have ht:=(List.mem_filter.mp ht).1
   have hm:(t.2.1,t.2.2.2)∈yw ls [] b:=by rw [← St0.eq];exact List.mem_map.mpr ⟨t,ht,rfl⟩
   exact⟨m12 _ _ (St0.tu t ht).2,hcl [] hnil (t.2.1,t.2.2.2) hm⟩
  generalize upd Hd fi (.lst ((st.filter fun s=>decide (0<s.2.1)).map fun s=>V.ref s.2.2.1))=H2 at m2 hfi2 S2 m12 hnd
  have hfs:∀ x,x∈((st.filter fun s=>decide (0<s.2.1)).map fun s=>(s.2.2.1,s.2.2.2)).map (·.2)↔∃ c:Nat,0<c∧c<b∧aft ls [] (c:Int)=some x:=fun x=>by
   constructor
   ·intro hx
    obtain⟨z,hz,rfl⟩:=List.mem_map.mp hx
    obtain⟨t,ht,rfl⟩:=List.mem_map.mp hz
    obtain⟨h1,h2⟩:=List.mem_filter.mp ht
    have hm:(t.2.1,t.2.2.2)∈yw ls [] b:=by rw [← St0.eq];exact List.mem_map.mpr ⟨t,h1,rfl⟩
    obtain⟨q1,q2⟩:=ur hm
    exact⟨t.2.1,of_decide_eq_true h2,q1,q2⟩
   ·rintro⟨c,c0,cb,e⟩
    have hm:=ZS (n:=b) cb e
    rw [← St0.eq] at hm
    obtain⟨t,ht,et⟩:=List.mem_map.mp hm
    injection et with e1 e2
    exact List.mem_map.mpr ⟨_,List.mem_map.mpr ⟨t,List.mem_filter.mpr ⟨ht,decide_eq_true (by omega)⟩,rfl⟩,e2⟩
  refine⟨_,rfl,_,rfl,fo,ls,b,kvs,fi,_,rfl,S2,hcl,g,hfi2,?_,hnd,fun fl F H3 hfl m3 hF hFn hF13 hFr=>?_⟩
  ·rw [List.length_map];exact Nat.le_trans (List.length_filter_le _ _) (by omega)
  refine⟨fl,rfl,⟨_,SqL.of hF⟩,Jv (K:=K) (a:=fl) (xs:=F.map fun z=>V.ref z.1) (fun i σ Hc=>∃ v2:Option V,σ=[some (.ref fo),some (.ref fi),v2]∧Same H3 Hc∧∀ z∈F.take i,¬ ∃ y,stp ls b z.2 y∧Rch ls b y z.2) ⟨_,rfl,Same.refl _,by simp⟩ (fun i σ Hc _ ⟨_,_,m,_⟩=>SqL.of (m _ _ hF)) ?_ ?_⟩
  ·rintro i x σ Hc hi ⟨v2,rfl,mc,hno⟩
   rw [List.getElem?_map] at hi
   obtain⟨z,hzi,rfl⟩:=Option.map_eq_some_iff.mp hi
   have hzm:=List.mem_of_getElem? hzi
   have hzn:=hFn z hzm
   have m2c:=m3.trans mc
   have Sc:=S2.same m2c
   obtain⟨lz,sz,hvz,_,Sz0⟩:=S2.at hzn.2
   have hszl:=Sz0.len
   have Sz:StepAt Hc ls b z.2 lz sz:=Sz0.keep (by rw [Sz0.li];exact m2c _ _ Sz0.li) fun c zs h=>m2c _ _ h
   refine⟨_,rfl,_,rfl,_,rfl,_,rfl,fo,_,kI z.2,z.1,.ref lz,rfl,Sc.d,rfl,by rw [zaj];exact m2c _ _ hzn.1,hvz,lz,rfl,⟨_,SqL.of Sz.li⟩,wB (K:=K) (a:=lz) (xs:=sz.map fun s=>V.ref s.1) (fun i ys Hd=>ys=(sz.take i).map (fun s=>V.ref s.2.2.1)∧Hd=Hc) ⟨rfl,rfl⟩ (fun i ys Hd _ ⟨_,e⟩=>by rw [e];exact SqL.of Sz.li) ?_ ?_⟩
   ·rintro i u ys Hd hi ⟨rfl,rfl⟩
    rw [List.getElem?_map] at hi
    obtain⟨t,hti,e⟩:=Option.map_eq_some_iff.mp hi
    subst e
    obtain⟨q1,q2⟩:=Sz.tu t (List.mem_of_getElem? hti)
    refine⟨by rw [List.length_map,List.length_take];exact Nat.lt_of_le_of_lt (show min i sz.length≤100 by omega) (by decide),?_⟩
    refine⟨t.1,_,rfl,SqT.of q1,rfl,_,_,rfl,_,_,rfl,rfl,⟨[_,_],rfl,rfl⟩,?_⟩
    unfold qP
    dsimp only
    rw [if_pos rfl]
    refine⟨_,rfl,?_,rfl⟩
    rw [List.take_succ,hti,List.map_append];rfl
   rintro ys Hd ⟨rfl,rfl⟩ ex hex
   rw [List.length_map,List.take_length]
   have me:=zj hex (o:=.lst (sz.map fun s=>V.ref s.2.2.1))
   have m2e:=m2c.trans me
   refine⟨fo,ls,b,kvs,ex,sz.map (fun s=>(s.2.2.1,s.2.2.2)),rfl,Sc.same me,hcl,g,by rw [zg,List.map_map];rfl,by rw [List.length_map];omega,fun y hy=>?_,fun fl2 F2 H5 hfl2 m5 hF2 hF2n hF213 hF2r=>?_⟩
   ·obtain⟨t,ht,rfl⟩:=List.mem_map.mp hy
    have hm:(t.2.1,t.2.2.2)∈yw ls z.2 b:=by rw [← Sz0.eq];exact List.mem_map.mpr ⟨t,ht,rfl⟩
    exact⟨m2e _ _ (Sz0.tu t ht).2,hcl z.2 hzn.2 (t.2.1,t.2.2.2) hm⟩
   have m25:=m2e.trans m5
   refine⟨fl2,_,(F2.map (·.2)).map um,um z.2,rfl,SqL.of hF2,TrsAt.tups (fun y hy=>m5 _ _ (hF2n y hy).1),TrAt.tupI (m25 _ _ hzn.1),by have:=qw (F2.map (·.2));omega,_,rfl,?_⟩
   rw [if_neg (by decide),zaZ]
   have hcy:z.2∈F2.map (·.2)↔∃ y,stp ls b z.2 y∧Rch ls b y z.2:=by
    rw [hF2r]
    constructor
    ·rintro⟨x,hx,r⟩
     obtain⟨y,hy,rfl⟩:=List.mem_map.mp hx
     obtain⟨t,ht,rfl⟩:=List.mem_map.mp hy
     have hm:(t.2.1,t.2.2.2)∈yw ls z.2 b:=by rw [← Sz0.eq];exact List.mem_map.mpr ⟨t,ht,rfl⟩
     exact⟨_,Wu.mpr ⟨_,hm,rfl⟩,r⟩
    ·rintro⟨y,q,r⟩
     obtain⟨p,hp,rfl⟩:=Wu.mp q
     rw [← Sz0.eq] at hp
     obtain⟨t,ht,rfl⟩:=List.mem_map.mp hp
     exact⟨_,List.mem_map.mpr ⟨_,List.mem_map.mpr ⟨t,ht,rfl⟩,rfl⟩,r⟩
   by_cases hin:z.2∈F2.map (·.2)
   ·rw [decide_eq_true hin]
    obtain⟨y,q,r⟩:=hcy.mp hin
    obtain⟨x,hx,rx⟩:=(hFr z.2).mp (List.mem_map.mpr ⟨z,hzm,rfl⟩)
    exact wI (kT ⟨x,z.2,y,(hfs x).mp hx,rx,q,r⟩ H5 (m12.trans m25))
   ·rw [decide_eq_false hin]
    refine xj ⟨_,rfl,mc.trans (me.trans m5),fun y hy=>?_⟩
    rw [List.take_succ,hzi] at hy
    rcases List.mem_append.mp hy with h | h
    ·exact hno y h
    ·have e:y=z:=by simpa using h
     rw [e]
     exact fun q=>hin (hcy.mpr q)
  ·rintro σ Hc ⟨v2,rfl,mc,hno⟩
   rw [List.length_map,List.take_length] at hno
   refine kF (fun ⟨x,y,z,hx,r,q,r2⟩=>?_) Hc (m12.trans (m3.trans mc))
   obtain⟨y',hy',rfl⟩:=List.mem_map.mp ((hFr y).mpr ⟨x,(hfs x).mpr hx,r⟩)
   exact hno y' hy' ⟨z,q,r2⟩
end
theorem Yj {ls:List (List Int)} {x:List Int} {f:Nat->List Int->Nat}:∀ n:Nat,((List.range n).map fun (c:Nat)=>if lacks ls (x++[(c:Int)])=true then f c (zA ls (x++[(c:Int)])) else 0).sum=((yw ls x n).map fun p=>f p.1 p.2).sum
 | 0=>rfl
 | n+1=>by
  rw [List.range_succ,List.map_append,List.sum_append,Yj n,qR,List.map_append,List.sum_append]
  congr 1
  unfold aft
  by_cases q:lacks ls (x++[(n:Int)])=true
  ·rw [if_pos q]
   simp [q]
  ·rw [if_neg q]
   simp [q]
theorem Zm {ls:List (List Int)} {f:List Int->Nat}:∀ n:Nat,((List.range n).map fun (c:Nat)=>if c=0 then 0 else if lacks ls [(c:Int)]=true then f (zA ls [(c:Int)]) else 0).sum=(((yw ls [] n).filter fun p=>decide (0<p.1)).map fun p=>f p.2).sum
 | 0=>rfl
 | n+1=>by
  rw [List.range_succ,List.map_append,List.sum_append,Zm n,qR,List.filter_append,List.map_append,List.sum_append]
  congr 1
  unfold aft
  rw [List.nil_append]
  by_cases z:n=0
  ·subst z
   by_cases q:lacks ls [((0:Nat):Int)]=true
   ·rw [if_pos q];simp
   ·rw [if_neg q];simp
  ·by_cases q:lacks ls [(n:Int)]=true
   ·rw [if_pos q]
    have:0<n:=by omega
    simp [z,q,this]
   ·rw [if_neg q]
    simp [z,q]
theorem zan (ls:List (List Int)) (b:Nat) (x:List Int) (t:Nat):uw ls b x (t+1)=1+((yw ls x b).map fun p=>uw ls b p.2 t).sum:=by
 rw [XS,Yj (f:=fun _ y=>uw ls b y t)]
theorem cnt_none {ls:List (List Int)} (ne:∀ l∈ls,l≠[]) {b n t:Nat} (h2:2≤b) (h1:1≤n) (hg:gd ls b n=true) (hb:∀ g,gd ls b g=true->g<b^t):cnt ls b t (zA ls (yf b n))=0:=by
 rw [← Wq ne t (yf b n) hg]
 refine ZP fun r hr=>?_
 cases q:lacks ls (yf b n++qQ b t r) with
 | false=>rfl
 | true =>
  have e:=jC h2 h1 t r hr
  have:=hb (n*b^t+r) (by unfold gd;rw [e];exact q)
  have h3:1*b^t≤n*b^t:=Nat.mul_le_mul_right _ h1
  omega
theorem child {ls:List (List Int)} (ne:∀ l∈ls,l≠[]) {b n c:Nat} {y:List Int} (h2:2≤b) (h1:1≤n) (hg:gd ls b n=true) (hc:c<b) (h:aft ls (zA ls (yf b n)) (c:Int)=some y):1≤n*b+c∧gd ls b (n*b+c)=true∧y=zA ls (yf b (n*b+c)):=by
 have e:=wG h2 h1 hc
 have hg':lacks ls (yf b n)=true:=hg
 unfold aft at h
 rw [yC ne _ hg',yx] at h
 by_cases q:lacks ls (yf b n++[(c:Int)])=true
 ·rw [if_pos q] at h
  injection h with h
  exact⟨UV h2 h1,by unfold gd;rw [e];exact q,by rw [e];exact h.symm⟩
 ·rw [if_neg q] at h;cases h
theorem zc4 {ls:List (List Int)} (ne:∀ l∈ls,l≠[]) {b n c:Nat} (h2:2≤b) (h1:1≤n) (hg:gd ls b n=true) (hc:c<b) (hg2:gd ls b (n*b+c)=true):(c,zA ls (yf b (n*b+c)))∈yw ls (zA ls (yf b n)) b:=by
 have e:=wG h2 h1 hc
 have hg':lacks ls (yf b n)=true:=hg
 refine ZS hc ?_
 unfold aft
 unfold gd at hg2
 rw [e] at hg2
 rw [yC ne _ hg',yx,if_pos hg2,e]
def Bh (b n g:Nat):Prop:=∃ t s:Nat,s<b^(t+1)∧g=n*b^(t+1)+s
theorem zdO {ls:List (List Int)} (ne:∀ l∈ls,l≠[]) {b n g:Nat} (h2:2≤b) (h1:1≤n) (hn:gd ls b n=true) (hg:gd ls b g=true) (h:Bh b n g):∃ c,c<b∧gd ls b (n*b+c)=true∧(g=n*b+c∨Bh b (n*b+c) g):=by
 obtain⟨t,s,hs,rfl⟩:=h
 have hp:0<b^t:=Nat.pow_pos (by omega)
 have hc:s / b^t<b:=by
  rw [Nat.div_lt_iff_lt_mul hp,← Nat.pow_succ'];exact hs
 have e:n*b^(t+1)+s=(n*b+s / b^t)*b^t+s % b^t:=by
  have h3:=Nat.div_add_mod s (b^t)
  calc n*b^(t+1)+s=n*b^(t+1)+(b^t*(s / b^t)+s % b^t):=by rw [h3]
   _=(n*b+s / b^t)*b^t+s % b^t:=by rw [Nat.add_mul,Nat.pow_succ',← Nat.mul_assoc,Nat.mul_comm (b^t) (s / b^t),Nat.add_assoc]
 have hr:s % b^t<b^t:=Nat.mod_lt _ hp
 refine⟨s / b^t,hc,zcC ne h2 (UV h2 h1) hr (by rw [← e];exact hg),?_⟩
 cases t with
 | zero=>exact .inl (by rw [e,Nat.pow_zero,Nat.mul_one,Nat.mod_one,Nat.add_zero])
 | succ t=>exact .inr ⟨t,s % b^(t+1),hr,e⟩
theorem zca {ls:List (List Int)} (ne:∀ l∈ls,l≠[]) {b g:Nat} (h2:2≤b) (hg:gd ls b g=true):∃ c,c<b∧gd ls b c=true∧(g=c∨1≤c∧Bh b c g):=by
 obtain⟨k,k1,k2⟩:=U7 h2 g
 cases k with
 | zero=>exact⟨g,by rw [Nat.zero_add,Nat.pow_one] at k1;exact k1,hg,.inl rfl⟩
 | succ k =>
  have k2:b^(k+1)≤g:=k2.resolve_left (by omega)
  have hp:0<b^(k+1):=Nat.pow_pos (by omega)
  have hc:g / b^(k+1)<b:=by rw [Nat.div_lt_iff_lt_mul hp,← Nat.pow_succ'];exact k1
  have h1:1≤g / b^(k+1):=(Nat.one_le_div_iff hp).mpr k2
  have hr:g % b^(k+1)<b^(k+1):=Nat.mod_lt _ hp
  have e:g=g / b^(k+1)*b^(k+1)+g % b^(k+1):=by
   have:=Nat.div_add_mod g (b^(k+1))
   rw [Nat.mul_comm]
   omega
  exact⟨_,hc,zcC ne h2 h1 hr (by rw [← e];exact hg),.inr ⟨h1,k,_,hr,e⟩⟩
theorem zaR {ls:List (List Int)} {b c:Nat} {y:List Int} (hc:c<b):aft ls [] (c:Int)=some y↔gd ls b c=true∧y=zA ls (yf b c):=by
 unfold aft gd
 rw [w5 hc,List.nil_append]
 by_cases q:lacks ls [(c:Int)]=true
 ·rw [if_pos q]
  constructor
  ·intro h;injection h with h;exact⟨q,h.symm⟩
  ·rintro⟨_,h⟩;rw [h]
 ·rw [if_neg q]
  constructor
  ·intro h;cases h
  ·rintro⟨h,_⟩;exact absurd h q
theorem zdb {α:Type} (l:List α):(l.map fun _=>1).sum=l.length:=by
 induction l with
 | nil=>rfl
 | cons a l ih=>rw [List.map_cons,List.sum_cons,ih,List.length_cons];omega
theorem zbz {ls:List (List Int)} {b:Nat} (h2:2≤b) (h:yt ls b 14≤62):(yw ls [] b).length+(((yw ls [] b).filter fun p=>decide (0<p.1)).map fun p=>uw ls b p.2 13).sum≤62+((yw ls [] b).filter fun p=>decide (0<p.1)).length:=by
 rw [Xx h2 13,Zm (f:=fun y=>uw ls b y 13)] at h
 have e1:=Yj (ls:=ls) (x:=[]) (f:=fun _ _=>1) b
 have e2:=Zm (ls:=ls) (f:=fun _=>1) b
 rw [zdb] at e1 e2
 have e3:((List.range b).map fun (c:Nat)=>if lacks ls ([]++[(c:Int)])=true then 1 else 0).sum=yt ls b 0+((List.range b).map fun (c:Nat)=>if c=0 then 0 else if lacks ls [(c:Int)]=true then 1 else 0).sum:=by
  rw [← Xg (b:=b) (by omega)]
  congr 1
  refine List.map_congr_left fun c _=>?_
  rw [List.nil_append]
  by_cases z:c=0
  ·rw [if_pos z,z];rfl
  ·rw [if_neg z]
 omega
abbrev WL:=List (Addr×Nat×Addr×List Int)
def tNW (z:Nat×List Int):Tr:=.tup [.int z.1,um z.2]
theorem TrsAt.nw {K:PySem.W.Frag} {H:Hp}:∀ {W:WL},(∀ z∈W,H z.1=some (.tup [.int (z.2.1:Nat),.ref z.2.2.1])∧H z.2.2.1=some (.tup (z.2.2.2.map V.int)))->TrsAt K H (W.map fun z=>tNW (z.2.1,z.2.2.2)) (W.map fun z=>V.ref z.1)
 | [],_=>by rw [List.map_nil,List.map_nil,TrsAt]
 | z :: W,h=>by
  rw [List.map_cons,List.map_cons,TrsAt]
  refine⟨_,_,rfl,?_,TrsAt.nw fun y hy=>h y (List.mem_cons_of_mem _ hy)⟩
  unfold tNW
  rw [TrAt]
  refine⟨z.1,_,rfl,SqT.of (h z List.mem_cons_self).1,?_⟩
  rw [TrsAt]
  refine⟨_,_,rfl,by rw [TrAt],?_⟩
  rw [TrsAt]
  exact⟨_,_,rfl,TrAt.tupI (h z List.mem_cons_self).2,by rw [TrsAt]⟩
theorem zdq (z:Nat×List Int):wC (tNW z)≤2:=by
 unfold tNW
 rw [wC,yI,yI,yI,U0,wC]
 ·omega
 all_goals (intros;rename_i q;cases q)
theorem Js:∀ W:WL,yI (W.map fun z=>tNW (z.2.1,z.2.2.2))≤2
 | []=>by simp [yI]
 | z :: W=>by rw [List.map_cons,yI];have:=Js W;have:=zdq (z.2.1,z.2.2.2);omega
def wS (ls:List (List Int)) (b:Nat) (W:WL):Nat:=(W.map fun z=>uw ls b z.2.2.2 13).sum
theorem Ju (ls:List (List Int)) (b:Nat) (y:List Int):∀ t:Nat,1≤uw ls b y t
 | 0=>Nat.le_refl _
 | t+1=>by rw [uw];have:=Ju ls b y t;omega
theorem zb1 (ls:List (List Int)) (b:Nat):∀ W:WL,W.length≤wS ls b W
 | []=>Nat.zero_le _
 | z :: W=>by
  have h:=zb1 ls b W
  have h1:=Ju ls b z.2.2.2 13
  unfold wS at h ⊢
  rw [List.map_cons,List.sum_cons,List.length_cons]
  omega
theorem Qi (ls:List (List Int)) (b:Nat) (W N:WL):wS ls b (W++N)=wS ls b W+wS ls b N:=by unfold wS;rw [List.map_append,List.sum_append]
section
variable {P:Program} {w:World} {K:PySem.W.Frag} {mg:Str->Option Value} {base:Heap}
structure Wt (H Hc:Hp) (kvs:List (List Key×V)) (ls:List (List Int)) (b:Nat) (z:Addr×Nat×Addr×List Int):Prop where
 t:Hc z.1=some (.tup [.int (z.2.1:Nat),.ref z.2.2.1])
 n:Nd H kvs z.2.2
 p:1≤z.2.1
 g:gd ls b z.2.1=true
 e:z.2.2.2=zA ls (yf b z.2.1)
def Zx (P:Program) (w:World):Sp:=fun vs H Q _=>∃ (r:Addr) (b:Nat) (bl:Addr) (zs:List (Addr×List Int)) (fo:Addr) (kvs:List (List Key×V)),vs=[.ref r,.ref fo]∧RuleAt H r b bl zs∧zO b (zs.map (·.2))∧StepsD P w H fo (zs.map (·.2)) b kvs∧Qw (zs.map (·.2)) b kvs∧yH kvs (kI [])≠none∧(∀ g,gd (zs.map (·.2)) b g=true->g<b^13)∧yt (zs.map (·.2)) b 14≤62 ∧
 ∀ (l:Addr) (ns:List Nat) (H':Hp),H l=none->Same H H'->H' l=some (.lst (ns.map fun (n:Nat)=>V.int n))->(∀ n,n∈ns↔gd (zs.map (·.2)) b n=true)->ns.length≤62->Q (.ref l) H'
theorem vD:zF ["rule","steps","found","waiting","number","end","more"] ["rule","steps"] (zq wz):=⟨rfl,rfl,rfl,by decide +kernel,rfl,by decide +kernel,by decide +kernel⟩
set_option maxHeartbeats 0 in
theorem X6 {f:Addr} {fd:FuncData} (D:Df K mg "_law_all" wz ["rule","steps"] f fd) (T:Blt mg):FnOk P w K mg base CX0 1 f fd ["rule","steps"] (Zx P w):=by
 refine D.fn.ok vD (fun vs H Q E h=>?_) (fun cdv A outer s H vs Q E hr h=>?_)
 ·obtain⟨r,b,bl,zs,fo,kvs,rfl,_⟩:=h;rfl
 ·obtain⟨r,b,bl,zs,fo,kvs,rfl,R,g,S,hcl,hnil,hb13,h62,kk⟩:=h
  have HU:=Xe hr
  have b16:=g.b16
  have b2:=g.b2
  have ne:∀ l∈zs.map (·.2),l≠[]:=fun l h=>(g.st l h).ne
  generalize zs.map (·.2)=ls at *
  obtain⟨la,st,hv,_,St0⟩:=S.at hnil
  have hstl:=St0.len
  refine⟨_,(zp (qX (i:=2) (show w6 (zq wz) _ ["figure","there"] ["rule","steps","found","waiting","number","end","more"] [] [] from ⟨rfl,by decide +kernel,by decide +kernel,by decide +kernel,by decide +kernel,rfl,by decide +kernel,by decide +kernel⟩) rfl vD.nd rfl (Or.inl rfl) (jJ K (YC P w (jL hr) (pv 1) (vh zm) (fun _ _=>rfl))) (fun _ _ _ _=>(Zz K 2 rfl (ye (zL (i:=0) (show List.Nodup (α:=Str) ["figure","there"] by decide) rfl (.inl (lookup_relabel_local rfl)) (.inr (lookup_relabel_local rfl))) (ye (zL (i:=1) (show List.Nodup (α:=Str) ["figure","there"] by decide) rfl (.inl (lookup_relabel_local rfl)) (.inr (lookup_relabel_local rfl))) vX)))) (fun _ _ _ _=>yG) (fun _ _ _ _=>(pv 0)))
   (zp (qX (i:=3) (show w6 (zq wz) _ ["figure","there"] ["rule","steps","found","waiting","number","end","more"] [] [] from ⟨rfl,by decide +kernel,by decide +kernel,by decide +kernel,by decide +kernel,rfl,by decide +kernel,by decide +kernel⟩) rfl vD.nd rfl (Or.inl rfl) (jJ K (YC P w (jL hr) (pv 1) (vh zm) (fun _ _=>rfl))) (fun _ _ _ _=>(Zz K 2 rfl (ye (zL (i:=0) (show List.Nodup (α:=Str) ["figure","there"] by decide) rfl (.inl (lookup_relabel_local rfl)) (.inr (lookup_relabel_local rfl))) (ye (zL (i:=1) (show List.Nodup (α:=Str) ["figure","there"] by decide) rfl (.inl (lookup_relabel_local rfl)) (.inr (lookup_relabel_local rfl))) vX)))) (fun _ _ _ _=>(YJ (zM QT (pv 0) zr (zU _)))) (fun _ _ _ _=>(vh (zf (pv 0) (zf (pv 1) zm)))))
   (zp (ju PassesOwn.never (zM (Ul K HU) (pv 3) (zJ zm) (zU _))
    (zp (Xy (zaa PySem.F.plainAttrs_list PySem.F.slot_list_pop PySem.F.type_list_pop J6 (pv 3)) (zae rfl (ye (zL (i:=4) vD.nd rfl (Or.inr rfl)) (ye (zL (i:=5) vD.nd rfl (Or.inl rfl)) vX))))
    (zp (qX (i:=6) (show w6 (zq wz) _ ["figure","there"] ["rule","steps","found","waiting","number","end","more"] ["number","rule"] [4,0] from ⟨rfl,by decide +kernel,by decide +kernel,by decide +kernel,by decide +kernel,rfl,by decide +kernel,by decide +kernel⟩) rfl vD.nd rfl (Or.inl rfl) (jJ K (YC P w (jL hr) (pv 1) (pv 5) (fun _ _=>rfl))) (fun _ _ _ _=>(Zz K 2 rfl (ye (zL (i:=0) (show List.Nodup (α:=Str) ["figure","there","number","rule"] by decide) rfl (.inl (lookup_relabel_local rfl)) (.inr (lookup_relabel_local rfl))) (ye (zL (i:=1) (show List.Nodup (α:=Str) ["figure","there","number","rule"] by decide) rfl (.inl (lookup_relabel_local rfl)) (.inr (lookup_relabel_local rfl))) vX)))) (fun _ _ _ _=>yG) (fun _ _ _ _=>(vh (zf (zQ xn (zQ Xm (pv 2) (ym (j5 K) (pv 3) zr (fun _ _=>rfl))) (pv 0)) (zf (pv 1) zm)))))
    (zp (vd (ZC PySem.F.plainAttrs_list PySem.F.slot_list_extend PySem.F.type_list_extend ZV (pv 3) (zf (pv 6) zm)))
    (zx (vd (ZC PySem.F.plainAttrs_list PySem.F.slot_list_extend PySem.F.type_list_extend ZV (pv 2) (zf (YM (show w6 (zq wz) _ ["one","there"] ["rule","steps","found","waiting","number","end","more"] [] [] from ⟨rfl,by decide +kernel,by decide +kernel,by decide +kernel,by decide +kernel,rfl,by decide +kernel,by decide +kernel⟩) rfl (jJ K (pv 6)) (fun _ _ _ _=>(Zz K 2 rfl (ye (zL (i:=0) (show List.Nodup (α:=Str) ["one","there"] by decide) rfl (.inl (lookup_relabel_local rfl)) (.inr (lookup_relabel_local rfl))) (ye (zL (i:=1) (show List.Nodup (α:=Str) ["one","there"] by decide) rfl (.inl (lookup_relabel_local rfl)) (.inr (lookup_relabel_local rfl))) vX)))) (fun _ _ _ _=>yG) (fun _ _ _ _=>(pv 0))) zm))))))))
   (zx (zH (pv 2)))))),?_⟩
  refine⟨_,rfl,(by show 0≤sizeLine;decide),fun t0 ht0=>?_⟩
  have m1:=zj ht0 (o:=.tup [])
  have S1:=S.same m1
  have St1:StepAt (upd H t0 (.tup [])) ls b [] la st:=St0.keep (by rw [St0.li];exact m1 _ _ St0.li) fun c zs h=>m1 _ _ h
  refine⟨fo,_,kI [],t0,.ref la,rfl,S1.d,rfl,zg,hv,la,rfl,⟨_,SqL.of St1.li⟩,?_⟩
  generalize upd H t0 (.tup [])=H1 at m1 S1 St1
  refine wB (K:=K) (a:=la) (xs:=st.map fun s=>V.ref s.1) (fun i ys Hd=>ys=(st.take i).map (fun s=>V.int (s.2.1:Nat))∧Hd=H1) ⟨rfl,rfl⟩ (fun i ys Hd _ ⟨_,e⟩=>by rw [e];exact SqL.of St1.li) ?_ ?_
  ·rintro i u ys Hd hi ⟨rfl,rfl⟩
   rw [List.getElem?_map] at hi
   obtain⟨t,hti,e⟩:=Option.map_eq_some_iff.mp hi
   subst e
   obtain⟨q1,q2⟩:=St1.tu t (List.mem_of_getElem? hti)
   refine⟨by rw [List.length_map,List.length_take];exact Nat.lt_of_le_of_lt (show min i st.length≤100 by omega) (by decide),?_⟩
   refine⟨t.1,_,rfl,SqT.of q1,rfl,_,_,rfl,_,_,rfl,rfl,⟨[_,_],rfl,rfl⟩,?_⟩
   unfold qP
   dsimp only
   rw [if_pos rfl]
   refine⟨_,rfl,?_,rfl⟩
   rw [List.take_succ,hti,List.map_append];rfl
  rintro ys Hd ⟨rfl,rfl⟩ fl hfl
  rw [List.length_map,List.take_length]
  have hflH:H fl=none:=m1.free hfl
  have m2:=m1.trans (zj hfl (o:=.lst (st.map fun s=>V.int (s.2.1:Nat))))
  have hf2:upd Hd fl (.lst (st.map fun s=>V.int (s.2.1:Nat))) fl=some (.lst ((st.map fun s=>s.2.1).map fun (n:Nat)=>V.int n)):=by rw [zg,List.map_map];rfl
  generalize upd Hd fl (.lst (st.map fun s=>V.int (s.2.1:Nat)))=H2 at m2 hf2
  refine⟨_,rfl,(by show 0≤sizeLine;decide),fun t1 ht1=>?_⟩
  have m3:=m2.trans (zj ht1 (o:=.tup []))
  have S3:=S.same m3
  have St3:StepAt (upd H2 t1 (.tup [])) ls b [] la st:=St0.keep (by rw [St0.li];exact m3 _ _ St0.li) fun c zs h=>m3 _ _ h
  have hf3:=zj ht1 (o:=.tup []) _ _ hf2
  refine⟨fo,_,kI [],t1,.ref la,rfl,S3.d,rfl,zg,hv,la,rfl,⟨_,SqL.of St3.li⟩,?_⟩
  generalize upd H2 t1 (.tup [])=H3 at m3 S3 St3 hf3
  refine wB (K:=K) (a:=la) (xs:=st.map fun s=>V.ref s.1) (fun i ys Hd=>∃ W:WL,ys=W.map (fun z=>V.ref z.1)∧W.map (fun z=>(z.2.1,z.2.2.1,z.2.2.2))=((st.take i).filter fun s=>decide (0<s.2.1)).map (fun s=>s.2)∧(∀ z∈W,Hd z.1=some (.tup [.int (z.2.1:Nat),.ref z.2.2.1]))∧Same H3 Hd) ⟨[],rfl,rfl,(fun z h=>nomatch h),Same.refl _⟩ (fun i ys Hd _ ⟨_,_,_,_,e⟩=>SqL.of (e _ _ St3.li)) ?_ ?_
  ·rintro i u ys Hd hi ⟨W,rfl,eW,hW,sd⟩
   rw [List.getElem?_map] at hi
   obtain⟨t,hti,e⟩:=Option.map_eq_some_iff.mp hi
   subst e
   obtain⟨q1,q2⟩:=St3.tu t (List.mem_of_getElem? hti)
   have hWl:W.length≤100:=by
    have:=congrArg List.length eW
    rw [List.length_map,List.length_map] at this
    have h1:=List.length_filter_le (fun s:Addr×Nat×Addr×List Int=>decide (0<s.2.1)) (st.take i)
    have h2:(st.take i).length≤st.length:=List.length_take_le' _ _
    omega
   refine⟨by rw [List.length_map];exact Nat.lt_of_le_of_lt hWl (by decide),?_⟩
   refine⟨t.1,_,rfl,SqT.of (sd _ _ q1),rfl,_,_,rfl,_,_,rfl,rfl,⟨[_,_],rfl,rfl⟩,?_⟩
   refine⟨_,rfl,_,_,rfl,rfl,_,rfl,?_⟩
   rw [List.take_succ,hti]
   by_cases h0:0<t.2.1
   ·rw [decide_eq_true (show (0:Int)<((t.2.1:Nat):Int) by omega)]
    refine wI ⟨_,rfl,_,rfl,(by show 2≤sizeLine;decide),fun q hq=>?_⟩
    have mq:=zj hq (o:=.tup [.int (t.2.1:Nat),.ref t.2.2.1])
    refine⟨W++[(q,t.2)],by rw [List.map_append];rfl,?_,fun z hz=>?_,sd.trans mq⟩
    ·rw [List.map_append,eW,Option.toList_some,List.filter_append,List.map_append]
     simp [h0]
    ·rcases List.mem_append.mp hz with h | h
     ·exact mq _ _ (hW z h)
     ·rw [List.mem_singleton.mp h];exact zg
   ·rw [decide_eq_false (show ¬ (0:Int)<((t.2.1:Nat):Int) by omega)]
    refine xj ⟨W,rfl,?_,hW,sd⟩
    rw [eW,Option.toList_some,List.filter_append]
    simp [h0]
  rintro ys H4 ⟨W0,rfl,eW0,hW0,s34⟩ wa hwa
  rw [List.length_map,List.take_length] at eW0
  have m4:=m3.trans s34
  have hwaH:H wa=none:=m4.free hwa
  have hne:fl≠wa:=fun z=>by have:=s34 _ _ hf3;rw [z,hwa] at this;cases this
  have m5:=m4.trans (zj hwa (o:=.lst (W0.map fun z=>V.ref z.1)))
  have hf5:=zj hwa (o:=.lst (W0.map fun z=>V.ref z.1)) _ _ (s34 _ _ hf3)
  have hw5:upd H4 wa (.lst (W0.map fun z=>V.ref z.1)) wa=some (.lst (W0.map fun z=>V.ref z.1)):=zg
  have hW5:∀ z∈W0,upd H4 wa (.lst (W0.map fun z=>V.ref z.1)) z.1=some (.tup [.int (z.2.1:Nat),.ref z.2.2.1]):=fun z hz=>zj hwa _ _ (hW0 z hz)
  generalize upd H4 wa (.lst (W0.map fun z=>V.ref z.1))=H5 at m5 hf5 hw5 hW5
  have inSt:∀ t∈st,t.2.1<b∧gd ls b t.2.1=true∧t.2.2.2=zA ls (yf b t.2.1)∧Nd H kvs t.2.2:=fun t ht=>by
   have hm:(t.2.1,t.2.2.2)∈yw ls [] b:=by rw [← St0.eq];exact List.mem_map.mpr ⟨t,ht,rfl⟩
   obtain⟨q1,q2⟩:=ur hm
   obtain⟨q3,q4⟩:=(zaR q1).mp q2
   exact⟨q1,q3,q4,(St0.tu t ht).2,hcl [] hnil (t.2.1,t.2.2.2) hm⟩
  have ofSt:∀ c,c<b->gd ls b c=true->∃ t∈st,t.2.1=c:=fun c hc hg=>by
   have hm:=ZS (n:=b) hc ((zaR (ls:=ls) hc).mpr ⟨hg,rfl⟩)
   rw [← St0.eq] at hm
   obtain⟨t,ht,et⟩:=List.mem_map.mp hm
   injection et with e1 _
   exact⟨t,ht,e1⟩
  have start:(st.map fun s=>s.2.1).length+wS ls b W0≤62+W0.length:=by
   have q:=zbz b2 h62
   rw [← St0.eq,List.length_map,List.filter_map,List.map_map,List.length_map] at q
   have e1:wS ls b W0=(((st.filter fun s=>decide (0<s.2.1)).map fun s=>uw ls b s.2.2.2 13)).sum:=by
    have:=congrArg (List.map fun z:Nat×Addr×List Int=>uw ls b z.2.2 13) eW0
    rw [List.map_map,List.map_map] at this
    unfold wS
    exact congrArg List.sum this
   have e2:=congrArg List.length eW0
   rw [List.length_map,List.length_map] at e2
   rw [List.length_map,e1,e2]
   exact q
  refine QC (fun m σ Hc=>∃ (F:List Nat) (W:WL) (v4 v5 v6:Option V),σ=[some (.ref r),some (.ref fo),some (.ref fl),some (.ref wa),v4,v5,v6]∧Same H Hc∧Hc fl=some (.lst (F.map fun (n:Nat)=>V.int n))∧Hc wa=some (.lst (W.map fun z=>V.ref z.1))∧(∀ z∈W,Wt H Hc kvs ls b z)∧(∀ n∈F,gd ls b n=true)∧(∀ n,gd ls b n=true->n∈F∨∃ z∈W,Bh b z.2.1 n)∧F.length+wS ls b W≤62+W.length∧W.length≤F.length∧m=wS ls b W) _ ⟨_,W0,_,_,_,rfl,m5,hf5,hw5,fun z hz=>?_,fun n hn=>?_,fun n hn=>?_,start,?_,rfl⟩ ?_ ?_
  ·have hz2:(z.2.1,z.2.2.1,z.2.2.2)∈(st.filter fun s=>decide (0<s.2.1)).map (fun s=>s.2):=by rw [← eW0];exact List.mem_map.mpr ⟨z,hz,rfl⟩
   obtain⟨t,ht,et⟩:=List.mem_map.mp hz2
   obtain⟨h1,h2⟩:=List.mem_filter.mp ht
   obtain⟨q1,q2,q3,q4⟩:=inSt t h1
   rw [et] at q1 q2 q3 q4 h2
   exact⟨hW5 z hz,q4,of_decide_eq_true h2,q2,q3⟩
  ·obtain⟨t,ht,rfl⟩:=List.mem_map.mp hn
   exact (inSt t ht).2.1
  ·obtain⟨c,hc,hg,h⟩:=zca ne b2 hn
   obtain⟨t,ht,et⟩:=ofSt c hc hg
   rcases h with rfl | ⟨c1,h⟩
   ·exact .inl (List.mem_map.mpr ⟨t,ht,et⟩)
   ·have hz2:t.2∈(st.filter fun s=>decide (0<s.2.1)).map (fun s=>s.2):=List.mem_map.mpr ⟨t,List.mem_filter.mpr ⟨ht,decide_eq_true (by omega)⟩,rfl⟩
    rw [← eW0] at hz2
    obtain⟨z,hz,ez⟩:=List.mem_map.mp hz2
    refine .inr ⟨z,hz,?_⟩
    have:z.2.1=t.2.1:=congrArg (fun q=>q.1) ez
    rw [this,et];exact h
  ·have e2:=congrArg List.length eW0
   rw [List.length_map,List.length_map] at e2
   rw [e2,List.length_map]
   exact List.length_filter_le _ _
  ·rintro m σ Hc ⟨F,W,v4,v5,v6,rfl,sc,hF,hW,hWt,hFg,hcov,hsum,hWF,rfl⟩
   refine⟨_,rfl,(by show 0≤sizeLine;decide),fun p0 hp0=>?_⟩
   have mp:=zj hp0 (o:=.lst [])
   refine⟨.lst (W.map fun z=>tNW (z.2.1,z.2.2.2)),.lst [],?_,?_,(by rw [wC];have:=Js W;omega),_,rfl,?_⟩
   ·rw [TrAt];exact⟨wa,_,rfl,SqL.of (mp _ _ hW),TrsAt.nw fun z hz=>⟨mp _ _ (hWt z hz).t,mp _ _ (sc _ _ (hWt z hz).n.1)⟩⟩
   ·rw [TrAt];exact⟨p0,_,rfl,SqL.of zg,by rw [TrsAt]⟩
   rw [if_pos rfl,ZW]
   have scp:=sc.trans mp
   have hFp:=mp _ _ hF
   have hWp:=mp _ _ hW
   have htp:∀ z∈W,upd Hc p0 (.lst []) z.1=some (.tup [.int (z.2.1:Nat),.ref z.2.2.1]):=fun z hz=>mp _ _ (hWt z hz).t
   generalize upd Hc p0 (.lst [])=Hp at scp hFp hWp htp
   rcases (show W=[]∨∃ (W':WL) (z:Addr×Nat×Addr×List Int),W=W'++[z] by
    rcases List.eq_nil_or_concat W with h | ⟨a,b,h⟩
    ·exact .inl h
    ·exact .inr ⟨a,b,by rw [h,List.concat_eq_append]⟩) with rfl | ⟨W',z,rfl⟩
   ·refine xj ⟨_,rfl,kk fl F Hp hflH scp hFp (fun n=>⟨hFg n,fun hn=>(hcov n hn).resolve_right (fun ⟨_,h,_⟩=>nomatch h)⟩) (by simpa [wS] using hsum)⟩
   ·have hz:=hWt z (by simp)
    refine zdk (by simp) ?_
    refine⟨_,rfl,.inl ⟨rfl,_,SqL.of hWp⟩,wa,_,.ref z.1,rfl,rfl,hWp,by simp,?_⟩
    rw [show ((W'++[z]).map fun z=>V.ref z.1).dropLast=W'.map fun z=>V.ref z.1 by simp]
    have kt:∀ c us,Hp c=some (.tup us)->(upd Hp wa (.lst (W'.map fun z=>V.ref z.1))) c=some (.tup us):=fun c us h=>by
     rw [zu (fun q=>by rw [q,hWp] at h;cases h)];exact h
    have sc3:Same H (upd Hp wa (.lst (W'.map fun z=>V.ref z.1))):=fun c u e=>by rw [zu (zy e hwaH)];exact scp _ _ e
    have hF3:upd Hp wa (.lst (W'.map fun z=>V.ref z.1)) fl=some (.lst (F.map fun (n:Nat)=>V.int n)):=by rw [zu hne];exact hFp
    have hW3:upd Hp wa (.lst (W'.map fun z=>V.ref z.1)) wa=some (.lst (W'.map fun z=>V.ref z.1)):=zg
    have ht3:∀ y∈W'++[z],upd Hp wa (.lst (W'.map fun z=>V.ref z.1)) y.1=some (.tup [.int (y.2.1:Nat),.ref y.2.2.1]):=fun y hy=>kt _ _ (htp y hy)
    generalize upd Hp wa (.lst (W'.map fun z=>V.ref z.1))=H3 at sc3 hF3 hW3 ht3
    refine⟨z.1,_,rfl,SqT.of (ht3 z (by simp)),rfl,_,_,rfl,_,_,rfl,rfl,?_⟩
    have S3:=S.same sc3
    obtain⟨lz,sz,hvz,_,Sz0⟩:=S.at hz.n.2
    have hszl:=Sz0.len
    have Sz:StepAt H3 ls b z.2.2.2 lz sz:=Sz0.keep (by rw [Sz0.li];exact sc3 _ _ Sz0.li) fun c zs h=>sc3 _ _ h
    have hn13:=hb13 _ hz.g
    refine⟨_,rfl,_,rfl,fo,_,kI z.2.2.2,z.2.2.1,.ref lz,rfl,S3.d,rfl,by rw [zaj];exact sc3 _ _ hz.n.1,hvz,lz,rfl,⟨_,SqL.of Sz.li⟩,?_⟩
    refine wB (K:=K) (a:=lz) (xs:=sz.map fun s=>V.ref s.1) (fun i ys Hd=>∃ N:WL,ys=N.map (fun z=>V.ref z.1)∧N.map (fun y=>y.2)=(sz.take i).map (fun s=>(z.2.1*b+s.2.1,s.2.2))∧(∀ y∈N,Hd y.1=some (.tup [.int (y.2.1:Nat),.ref y.2.2.1]))∧Same H3 Hd) ⟨[],rfl,rfl,(fun z h=>nomatch h),Same.refl _⟩ (fun i ys Hd _ ⟨_,_,_,_,e⟩=>SqL.of (e _ _ Sz.li)) ?_ ?_
    ·rintro i u ys Hd hi ⟨N,rfl,eN,hN,sd⟩
     rw [List.getElem?_map] at hi
     obtain⟨t,hti,e⟩:=Option.map_eq_some_iff.mp hi
     subst e
     obtain⟨q1,q2⟩:=Sz.tu t (List.mem_of_getElem? hti)
     have hNl:N.length≤100:=by
      have:=congrArg List.length eN
      rw [List.length_map,List.length_map] at this
      have h2:(sz.take i).length≤sz.length:=List.length_take_le' _ _
      omega
     refine⟨by rw [List.length_map];exact Nat.lt_of_le_of_lt hNl (by decide),?_⟩
     refine⟨t.1,_,rfl,SqT.of (sd _ _ q1),rfl,_,_,rfl,_,_,rfl,rfl,⟨[_,_],rfl,rfl⟩,?_⟩
     unfold qP
     dsimp only
     rw [if_pos rfl]
     refine⟨_,rfl,_,rfl,r,_,_,V.int b,rfl,rfl,SqT.of ((sc3.trans sd) _ _ R.tu),rfl,_,_,rfl,rfl,.inr ⟨by omega,by omega⟩,_,rfl,_,_,rfl,rfl,_,rfl,(by show 2≤sizeLine;decide),fun q hq=>?_⟩
     dsimp only
     rw [show (((z.2.1:Nat):Int)*(b:Int)+((t.2.1:Nat):Int))=((z.2.1*b+t.2.1:Nat):Int) by rw [Int.natCast_add,Int.natCast_mul]]
     have mq:=zj hq (o:=.tup [.int ((z.2.1*b+t.2.1:Nat):Int),.ref t.2.2.1])
     refine⟨N++[(q,z.2.1*b+t.2.1,t.2.2)],by rw [List.map_append];rfl,?_,fun y hy=>?_,sd.trans mq⟩
     ·rw [List.map_append,eN,List.take_succ,hti,List.map_append];rfl
     ·rcases List.mem_append.mp hy with h | h
      ·exact mq _ _ (hN y h)
      ·rw [List.mem_singleton.mp h];exact zg
    rintro ys H4 ⟨N,rfl,eN,hN,s34⟩ mo hmo
    rw [List.length_map,List.take_length] at eN
    have hNl:=congrArg List.length eN
    rw [List.length_map,List.length_map] at hNl
    have mm:=zj hmo (o:=.lst (N.map fun z=>V.ref z.1))
    have s35:=s34.trans mm
    have hmo5:upd H4 mo (.lst (N.map fun z=>V.ref z.1)) mo=some (.lst (N.map fun z=>V.ref z.1)):=zg
    have hN5:∀ y∈N,upd H4 mo (.lst (N.map fun z=>V.ref z.1)) y.1=some (.tup [.int (y.2.1:Nat),.ref y.2.2.1]):=fun y hy=>mm _ _ (hN y hy)
    have nmo:mo≠wa:=fun q=>by have:=s34 _ _ hW3;rw [← q,hmo] at this;cases this
    generalize upd H4 mo (.lst (N.map fun z=>V.ref z.1))=H5 at mm s35 hmo5 hN5
    have hW5:=s35 _ _ hW3
    have hF5:=s35 _ _ hF3
    have hwl:=zb1 ls b (W'++[z])
    rw [List.length_append,List.length_singleton] at hsum hWF hwl
    have h62W:W'.length≤100∧N.length≤16:=⟨by omega,by omega⟩
    have kid:∀ y∈N,Nd H kvs y.2.2∧1≤y.2.1∧gd ls b y.2.1=true∧y.2.2.2=zA ls (yf b y.2.1):=fun y hy=>by
     have hy2:y.2∈sz.map (fun s=>(z.2.1*b+s.2.1,s.2.2)):=by rw [← eN];exact List.mem_map.mpr ⟨y,hy,rfl⟩
     obtain⟨t,ht,et⟩:=List.mem_map.mp hy2
     have hm:(t.2.1,t.2.2.2)∈yw ls z.2.2.2 b:=by rw [← Sz0.eq];exact List.mem_map.mpr ⟨t,ht,rfl⟩
     obtain⟨q1,q2⟩:=ur hm
     rw [hz.e] at q2
     obtain⟨c1,c2,c3⟩:=child ne b2 hz.p hz.g q1 q2
     rw [← et]
     exact⟨⟨(Sz0.tu t ht).2,hcl z.2.2.2 hz.n.2 (t.2.1,t.2.2.2) hm⟩,c1,c2,c3⟩
    have sumN:wS ls b N+1=uw ls b z.2.2.2 13:=by
     have e1:wS ls b N=((yw ls z.2.2.2 b).map fun p=>uw ls b p.2 13).sum:=by
      have q:=congrArg (List.map fun y:Nat×Addr×List Int=>uw ls b y.2.2 13) eN
      rw [List.map_map,List.map_map] at q
      rw [← Sz0.eq,List.map_map]
      unfold wS
      exact congrArg List.sum q
     rw [e1,zan,Nat.add_comm]
     congr 2
     refine List.map_congr_left fun p hp=>?_
     obtain⟨q1,q2⟩:=ur hp
     rw [hz.e] at q2
     obtain⟨c1,c2,c3⟩:=child ne b2 hz.p hz.g q1 q2
     rw [uw,c3,cnt_none ne b2 c1 c2 hb13,Nat.add_zero]
    refine⟨_,rfl,.inl ⟨rfl,_,SqL.of hW5⟩,_,rfl,wa,mo,_,_,rfl,rfl,hW5,hmo5,?_,?_⟩
    ·rw [List.length_map,List.length_map]
     exact Nat.le_trans (show W'.length+N.length≤1000 by omega) (by decide)
    rw [← List.map_append]
    have kt6:∀ c us,H5 c=some (.tup us)->(upd H5 wa (.lst ((W'++N).map fun z=>V.ref z.1))) c=some (.tup us):=fun c us h=>by
     rw [zu (fun q=>by rw [q,hW5] at h;cases h)];exact h
    have sc6:Same H (upd H5 wa (.lst ((W'++N).map fun z=>V.ref z.1))):=fun c u e=>by rw [zu (zy e hwaH)];exact s35 _ _ (sc3 _ _ e)
    have hF6:upd H5 wa (.lst ((W'++N).map fun z=>V.ref z.1)) fl=some (.lst (F.map fun (n:Nat)=>V.int n)):=by rw [zu hne];exact hF5
    have hW6:upd H5 wa (.lst ((W'++N).map fun z=>V.ref z.1)) wa=some (.lst ((W'++N).map fun z=>V.ref z.1)):=zg
    have hmo6:upd H5 wa (.lst ((W'++N).map fun z=>V.ref z.1)) mo=some (.lst (N.map fun z=>V.ref z.1)):=by rw [zu nmo];exact hmo5
    have ht6:∀ y∈W'++N,upd H5 wa (.lst ((W'++N).map fun z=>V.ref z.1)) y.1=some (.tup [.int (y.2.1:Nat),.ref y.2.2.1]):=fun y hy=>by
     rcases List.mem_append.mp hy with h | h
     ·exact kt6 _ _ (s35 _ _ (ht3 y (by simp [h])))
     ·exact kt6 _ _ (hN5 y h)
    generalize upd H5 wa (.lst ((W'++N).map fun z=>V.ref z.1))=H6 at sc6 hF6 hW6 hmo6 ht6
    refine⟨_,rfl,.inl ⟨rfl,_,SqL.of hF6⟩,_,rfl,mo,rfl,⟨_,SqL.of hmo6⟩,wB (K:=K) (a:=mo) (xs:=N.map fun z=>V.ref z.1) (fun i ys Hd=>ys=(N.take i).map (fun y=>V.int (y.2.1:Nat))∧Hd=H6) ⟨rfl,rfl⟩ (fun i ys Hd _ ⟨_,e⟩=>by rw [e];exact SqL.of hmo6) ?_ ?_⟩
    ·rintro i u ys Hd hi ⟨rfl,rfl⟩
     rw [List.getElem?_map] at hi
     obtain⟨t,hti,e⟩:=Option.map_eq_some_iff.mp hi
     subst e
     have q1:=ht6 t (List.mem_append_right _ (List.mem_of_getElem? hti))
     refine⟨by rw [List.length_map,List.length_take];exact Nat.lt_of_le_of_lt (show min i N.length≤100 by omega) (by decide),?_⟩
     refine⟨t.1,_,rfl,SqT.of q1,rfl,_,_,rfl,_,_,rfl,rfl,⟨[_,_],rfl,rfl⟩,?_⟩
     unfold qP
     dsimp only
     rw [if_pos rfl]
     refine⟨_,rfl,?_,rfl⟩
     rw [List.take_succ,hti,List.map_append];rfl
    rintro ys Hd ⟨rfl,rfl⟩ ex hex
    rw [List.length_map,List.take_length]
    have me:=zj hex (o:=.lst (N.map fun y=>V.int (y.2.1:Nat)))
    refine⟨fl,ex,_,_,rfl,rfl,me _ _ hF6,zg,?_,?_⟩
    ·rw [List.length_map,List.length_map]
     exact Nat.le_trans (show F.length+N.length≤1000 by omega) (by decide)
    rw [show (F.map fun (n:Nat)=>V.int n)++(N.map fun y=>V.int (y.2.1:Nat))=(F++N.map fun y=>y.2.1).map fun (n:Nat)=>V.int n by rw [List.map_append,List.map_map];rfl]
    have nexf:fl≠ex:=fun q=>by rw [← q,hF6] at hex;cases hex
    have kt8:∀ c us,(upd Hd ex (.lst (N.map fun y=>V.int (y.2.1:Nat)))) c=some (.tup us)->(upd (upd Hd ex (.lst (N.map fun y=>V.int (y.2.1:Nat)))) fl (.lst ((F++N.map fun y=>y.2.1).map fun (n:Nat)=>V.int n))) c=some (.tup us):=fun c us h=>by
     rw [zu (fun q=>by rw [q,me _ _ hF6] at h;cases h)];exact h
    refine⟨_,?_,F++N.map (fun y=>y.2.1),W'++N,_,_,_,rfl,(fun c u e=>by rw [zu (zy e hflH)];exact me _ _ (sc6 _ _ e)),zg,by rw [zu (Ne.symm hne)];exact me _ _ hW6,fun y hy=>?_,fun n hn=>?_,fun n hn=>?_,?_,?_,rfl⟩
    ·rw [Qi,Qi]
     have:wS ls b [z]=uw ls b z.2.2.2 13:=by simp [wS]
     omega
    ·have q1:=kt8 _ _ (me _ _ (ht6 y hy))
     rcases List.mem_append.mp hy with h | h
     ·have hy':=hWt y (by simp [h])
      exact⟨q1,hy'.n,hy'.p,hy'.g,hy'.e⟩
     ·obtain⟨k1,k2,k3,k4⟩:=kid y h
      exact⟨q1,k1,k2,k3,k4⟩
    ·rcases List.mem_append.mp hn with h | h
     ·exact hFg n h
     ·obtain⟨y,hy,rfl⟩:=List.mem_map.mp h
      exact (kid y hy).2.2.1
    ·rcases hcov n hn with h | ⟨y,hy,q⟩
     ·exact .inl (List.mem_append_left _ h)
     ·rcases List.mem_append.mp hy with h | h
      ·exact .inr ⟨y,List.mem_append_left _ h,q⟩
      ·rw [List.mem_singleton.mp h] at q
       obtain⟨c,hc,hg,q⟩:=zdO ne b2 hz.p hz.g hn q
       have hm:=zc4 ne b2 hz.p hz.g hc hg
       rw [← hz.e,← Sz0.eq] at hm
       obtain⟨t,ht,et⟩:=List.mem_map.mp hm
       injection et with e1 _
       have hy2:(z.2.1*b+t.2.1,t.2.2)∈N.map (fun y=>y.2):=by rw [eN];exact List.mem_map.mpr ⟨t,ht,rfl⟩
       obtain⟨y',hy',ey⟩:=List.mem_map.mp hy2
       have e2:y'.2.1=z.2.1*b+c:=by rw [← e1];exact congrArg (fun q=>q.1) ey
       rcases q with q | q
       ·exact .inl (List.mem_append_right _ (List.mem_map.mpr ⟨y',hy',by rw [e2,q]⟩))
       ·exact .inr ⟨y',List.mem_append_right _ hy',by rw [e2];exact q⟩
    ·rw [Qi] at hsum
     have:wS ls b [z]=uw ls b z.2.2.2 13:=by simp [wS]
     rw [List.length_append,List.length_map,List.length_append,Qi]
     omega
    ·rw [List.length_append,List.length_append,List.length_map]
     omega
  ·intro σ H2 Q Q' hq
   rintro⟨v,e,sz,h⟩
   refine⟨v,e,sz,fun p hp=>?_⟩
   obtain⟨t1,t2,a1,a2,dep,c1,ec,q⟩:=h p hp
   exact⟨t1,t2,a1,a2,dep,c1,ec,hq _ _ q⟩
end
end Lw
namespace L2
open PySem PySem.Spec PyProof.Rows
section
variable {X:Cx}
def zeh (K:PySem.W.Frag):List V->Hp->VK->Prop:=fun xs H Q=>∃ (a:Addr) (ns:List Int),xs=[.ref a]∧SqL K H a (ns.map V.int)∧ns.length<64 ∧
 ∀ (p:Addr) (ms:List Int),H p=none->ms.Perm ns->ms.Pairwise (·≤·)->Q (.ref p) (upd H p (.lst (ms.map V.int)))
theorem zdQ (K:PySem.W.Frag) (e:X.K=K:=by rfl):wy X (.builtin "sorted") (zeh K):=by
 subst e
 intro pins s σ H xs us Q I r h
 obtain⟨a,ns,rfl,ha,h64,q⟩:=h
 obtain⟨u,rfl,rx⟩:=vals1 r
 cases rx
 obtain⟨its,r1,p1,_⟩:=I.list ha
 have hI:IntsAre its ns:=by simpa using intsAre_of r1
 have hl:its.length=ns.length:=by have:=r1.length;rw [List.length_map] at this;exact this.symm
 refine sorted_ints p1.isList hI (by omega) fun vs' ms hI' pm pw=>?_
 obtain⟨c,hat⟩:=sortedAll_at s.heap its vs'
 have hfree:H (s.heap.objs.size+1)=none:=I.hok.fresh (Nat.le_succ _)
 refine⟨.ref (s.heap.objs.size+1),_,I.laid (t':=s.toks) (o:=.lst (ms.map V.int)) (fun b o e=>sortedAll_old e) (Nat.le_succ _) ?_,rfl,q _ ms hfree pm pw⟩
 exact⟨by rw [List.length_map,pm.length_eq];exact Nat.le_trans (Nat.le_of_lt h64) (by decide),_,c,Xi hI',hat⟩
end
end L2
namespace Lw
open PySem L2 PyProof.Rows
theorem JC {ls:List (List Int)} {b:Nat} {v u:V} (h:GreatG ls b v) (k:GreatG ls b u):v=u:=by
 rcases h with ⟨rfl,h1⟩ | ⟨g,rfl,h1,h2,h3⟩<;>rcases k with ⟨rfl,k1⟩ | ⟨g',rfl,k1,k2,k3⟩
 ·rfl
 ·rw [h1] at k1;cases k1
 ·rw [k1] at h1;cases h1
 ·have:=h3 _ k1
  have:=k3 _ h1
  rw [show g=g' by omega]
def NumV (v:V):Prop:=v=.non∨∃ g:Nat,v=.int g
theorem GreatG.num {ls:List (List Int)} {b:Nat} {v:V} (h:GreatG ls b v):NumV v:=by
 rcases h with ⟨rfl,_⟩ | ⟨g,rfl,_⟩
 ·exact .inl rfl
 ·exact .inr ⟨g,rfl⟩
theorem NumV.tr {v:V} (h:NumV v):∃ t,(∀ (K:PySem.W.Frag) (H:Hp),TrAt K H t v)∧wC t≤1∧teq t t=true:=by
 rcases h with rfl | ⟨g,rfl⟩
 ·exact⟨.non,fun K H=>by rw [TrAt],by rw [wC]<;>first | omega | (intros;rename_i z;cases z),qj _⟩
 ·exact⟨.int g,fun K H=>by rw [TrAt],by rw [wC]<;>first | omega | (intros;rename_i z;cases z),qj _⟩
theorem V4 {K:PySem.W.Frag}:PySem.W.kitOne K (.type "NoneType") (.type "bool")=some false:=Xk (by decide +kernel) (by decide +kernel) (fun e=>absurd e (by decide))
theorem zar {ls:List (List Int)} {b:Nat} {ns:List Nat} {ms:List Int} (hns:∀ n,n∈ns↔gd ls b n=true) (hb:∀ q,gd ls b q=true->q<b^13) (pm:ms.Perm (ns.map fun (n:Nat)=>(n:Int))) (pw:ms.Pairwise (·≤·)):∃ v,atI ([V.non]++ms.map V.int) (-1)=some v∧GreatG ls b v:=by
 rcases List.eq_nil_or_concat ms with rfl | ⟨a,x,rfl⟩
 ·refine⟨.non,rfl,.inl ⟨rfl,fun q=>?_⟩⟩
  cases e:gd ls b q with
  | false=>rfl
  | true =>
   have:=pm.mem_iff.mpr (List.mem_map.mpr ⟨q,(hns q).mpr e,rfl⟩)
   cases this
 ·rw [List.concat_eq_append] at pm pw ⊢
  obtain⟨n,hn,rfl⟩:=List.mem_map.mp (pm.mem_iff.mp (List.mem_append_right a (List.mem_singleton.mpr rfl)))
  refine⟨.int (n:Int),?_,.inr ⟨n,rfl,(hns n).mp hn,hb n ((hns n).mp hn),fun q hq=>?_⟩⟩
  ·unfold atI ixN
   rw [if_neg (by decide),if_pos (by simp;omega)]
   have e:((-1:Int)+(([V.non]++(a++[(n:Int)]).map V.int).length:Nat)).toNat=(V.non :: a.map V.int).length:=by simp;omega
   rw [e,List.map_append,← List.append_assoc]
   show ((V.non :: a.map V.int)++[V.int (n:Int)])[(V.non :: a.map V.int).length]?=_
   rw [List.getElem?_append_right (Nat.le_refl _),Nat.sub_self];rfl
  ·have hm:=pm.mem_iff.mpr (List.mem_map.mpr ⟨q,(hns q).mpr hq,rfl⟩)
   rcases List.mem_append.mp hm with hm | hm
   ·have:=(List.pairwise_append.mp pw).2.2 _ hm _ (List.mem_singleton.mpr rfl)
    omega
   ·have:=List.mem_singleton.mp hm
    omega
section
variable {P:Program} {w:World} {K:PySem.W.Frag} {mg:Str->Option Value} {base:Heap} {T0:Addr}
def ji (T0:Addr):Sp:=fun vs H Q _=>∃ (r:Addr) (b:Nat) (bl:Addr) (zs:List (Addr×List Int)),vs=[.ref r]∧RuleAt H r b bl zs∧zO b (zs.map (·.2))∧LT T0 H∧∀ H',SameL T0 H H'->LT T0 H'->Q (.bl true) H'
theorem yq:zF ["rule","handed","steps","endless","due","turn","truth","found","caught"] ["rule"] (zq tX):=⟨rfl,rfl,rfl,by decide +kernel,rfl,by decide +kernel,by decide +kernel⟩
set_option maxHeartbeats 0 in
theorem VH {CNoBase CNoNumber CNoFigures CNoRule CNoStand CNoGood CEndless CNoRules CNoStretch CTooMany CNoText CNoName CNoRow CLackError:Addr} {f f1 f2 f3 f4 f5 f6 f7 f8 f9 f10:Addr} {fd fd1 fd2 fd3 fd4 fd5 fd6 fd7 fd8 fd9 fd10:FuncData} (D:Df K mg "_law_right" tX ["rule"] f fd) (jB:Df K mg "_law_own" ql ["rule"] f1 fd1) (uO:Df K mg "_law_steps" xP ["rule"] f2 fd2) (yU:Df K mg "_law_behind" xW ["bad","end","figure"] f3 fd3) (wZ:Df K mg "_law_endless" xJ ["steps"] f4 fd4) (zV:Df K mg "_law_ends_behind" yD ["steps","some"] f5 fd5) (jt:Df K mg "_law_all" wz ["rule","steps"] f6 fd6)
  (wu:Df K mg "is_endless" vP ["rule"] f7 fd7) (vH:FnOk P w K mg base CX0 9 f7 fd7 ["rule"] (uK T0)) (zR:Df K mg "greatest_good" yS ["rule"] f8 fd8) (zX:FnOk P w K mg base (CX1 P w) 9 f8 fd8 ["rule"] (xM T0 CEndless)) (qx:Df K mg "_law_told" jf ["rule"] f9 fd9) (uQ:Df K mg "_law_kinds" vK ["caught","due"] f10 fd10) (XN:zab mg CNoBase CNoNumber CNoFigures CNoRule CNoStand CNoGood CEndless CNoRules CNoStretch CTooMany CNoText CNoName CNoRow) (n_ValueError:mg "ValueError" = none) (h_LackError:Qv K mg "LackError" CLackError) (kt_Endless:PySem.W.kitCls K (.ref CEndless) (.ref CLackError)=some true) (kd_Endless:zcR K CEndless CNoBase CNoNumber CNoFigures CNoRule CNoStand CNoGood CEndless CNoRules CNoStretch CTooMany CNoText CNoName CNoRow 6) (T:Blt mg) (U:zbT mg):FnOk P w K mg base CX0 11 f fd ["rule"] (ji T0):=by
 have Ua:FnOk P w K mg base CX0 1 f1 fd1 ["rule"] Zj:=Wa jB T
 have X4:FnOk P w K mg base CX0 2 f2 fd2 ["rule"] (jo P w):=Z4 uO yU T
 have Z9:FnOk P w K mg base CX0 2 f4 fd4 ["steps"] (uZ P w):=j6 wZ zV T
 have UJ:FnOk P w K mg base CX0 1 f6 fd6 ["rule","steps"] (Zx P w):=X6 jt T
 have Vo:FnOk P w K mg base CX0 10 f9 fd9 ["rule"] (jY T0 CEndless):=Xb qx zR zX h_LackError kt_Endless
 have X3:FnOk P w K mg base CX0 1 f10 fd10 ["caught","due"] (jk K CNoBase CNoNumber CNoFigures CNoRule CNoStand CNoGood CEndless CNoRules CNoStretch CTooMany CNoText CNoName CNoRow):=Z7 uQ XN n_ValueError T
 refine D.fn.ok yq (fun vs H Q E h=>?_) (fun cdv A outer s H vs Q E hr h=>?_)
 ·obtain⟨r,b,bl,zs,rfl,_⟩:=h;rfl
 ·obtain⟨r,b,bl,zs,rfl,R,g,lt,kk⟩:=h
  have HU:=Xe hr
  have ne:∀ l∈zs.map (·.2),l≠[]:=fun l hl=>(g.st l hl).ne
  have hz4:zs.length≤4:=by have:=g.len;rwa [List.length_map] at this
  refine⟨_,(zp (zG (i:=1) yq.nd rfl (Or.inl rfl) (zP jB Ua (hr.mono (by decide)) (zf (pv 0) zm)))
   (zp (zG (i:=2) yq.nd rfl (Or.inl rfl) (zP uO X4 (hr.mono (by decide)) (zf (pv 0) zm)))
   (zp (zG (i:=3) yq.nd rfl (Or.inl rfl) (zP wZ Z9 (hr.mono (by decide)) (zf (pv 2) zm)))
   (zp (zG (i:=4) yq.nd rfl (Or.inl rfl) uo)
   (zp (ze0 (xU (jO (vq (pv 3)))
    (zx (zG (i:=4) yq.nd rfl (Or.inl rfl) (ym (uN K) (zQ qC (zJ (zf uo zm)) (zz (zdQ K) (by rfl) T.n_sorted boot_sorted (zf (zP jt UJ (hr.mono (by decide)) (zf (pv 0) (zf (pv 2) zm))) zm))) (za6 Qp zr) (fun _ _=>rfl))))
    yl))
   (zp (qm PassesOwn.never rfl (yE rfl T.n_range (zf zr zm)) (zL (i:=5) yq.nd rfl (Or.inl rfl))
    (zp (zG (i:=6) yq.nd rfl (Or.inl rfl) (zP wu vH (hr.mono (by decide)) (zf (pv 1) zm)))
    (zp (Xy (zP qx Vo (hr.mono (by decide)) (zf (pv 1) zm)) (zdX rfl (ye (zL (i:=7) yq.nd rfl (Or.inl rfl)) (ye (zL (i:=8) yq.nd rfl (Or.inl rfl)) vX))))
    (zp (xU (PW.pt (WR (jO (vq (zz (Jd K) (by rfl) T.n_isinstance boot_isinstance (zf (pv 6) (zf (jg (v:=.ty "bool") rfl T.n_bool boot_bool rfl) zm))))) (WR (zM zcQ (pv 6) (pv 3) (zU _)) (WT (zM (Ul K HU) (pv 1) (pv 0) (zU _))))))
     (zx (zH Zt))
     yl)
    (zp (xU (PW.pt (W3 (vq (pv 3)) (YX (jO (vq (zP uQ X3 (hr.mono (by decide)) (zf (pv 8) (zf zr zm))))))))
     (zx (zH Zt))
     yl)
    (zx (xU (PW.pt (W3 (jO (vq (pv 3))) (YX (PW.pt (WR (zM Y4 (pv 8) uo (zU _)) (WR (zM (Ul K HU) (pv 7) (pv 4) (zU _)) (WT (vq (zz (Jd K) (by rfl) T.n_isinstance boot_isinstance (zf (pv 7) (zf (jg (v:=.ty "bool") rfl T.n_bool boot_bool rfl) zm)))))))))))
     (zx (zH Zt))
     yl)))))))
   (zx (zH Zt)))))))),?_⟩
  refine⟨_,rfl,r,b,bl,zs,rfl,R,by omega,fun r' bl' zs' H1 s1 R1 e1 _ _ _=>?_⟩
  have g':zO b (zs'.map (·.2)):=by rw [e1];exact g
  refine⟨_,rfl,r,b,bl,zs,rfl,R.same s1,g,fun fo kvs H2 _ s2 S hcl h0=>?_⟩
  have m2:=s1.trans s2
  have R2:=R.same m2
  have R2':=R1.same s2
  refine⟨_,rfl,fo,_,b,kvs,rfl,S,hcl,g,h0,fun eb hE H3 s3=>?_⟩
  have m3:=m2.trans s3
  have R3:=R2.same s3
  have R3':=R2'.same s3
  have bnd:=fun z:eb=false=>zc9 ne (fun l hl=>(g.st l hl).len) g.len (fun x hx=>Zq.mpr hx) (Xd g.len fun l hl=>(g.st l hl).len) g.b2 g.b16 (fun q=>by rw [hE.mpr q] at z;cases z)
  have hEe:End (zs.map (·.2)) b->eb=true:=fun hEnd=>by
   cases e:eb with
   | true=>rfl
   | false =>
    obtain⟨q,q1,q2,_⟩:=hEnd 13
    have:=(bnd e).1 q q1
    omega
  refine⟨fun σ H4=>∃ dv:V,σ=[some (.ref r),some (.ref r'),some (.ref fo),some (.bl eb),some dv,none,none,none,none]∧Same H3 H4∧(eb=false->(∀ q,gd (zs.map (·.2)) b q=true->q<b^13)∧GreatG (zs.map (·.2)) b dv),?_,?_⟩
  ·cases eb with
   | true=>exact⟨_,rfl,_,rfl,xj ⟨_,rfl,Same.refl _,fun z=>nomatch z⟩⟩
   | false =>
    obtain⟨hb,h62⟩:=bnd rfl
    refine⟨_,rfl,_,rfl,wI ?_⟩
    refine⟨(by show 1≤sizeLine;decide),fun n0 hn0=>?_⟩
    have m4:=zj hn0 (o:=.lst [V.non])
    refine⟨_,rfl,_,rfl,r,b,bl,zs,fo,kvs,rfl,R3.same m4,g,(S.same s3).same m4,hcl,h0,hb,h62,fun l ns H5 hl m5 hl5 hns hlen=>?_⟩
    refine⟨l,ns.map (fun (n:Nat)=>(n:Int)),rfl,by rw [List.map_map];exact SqL.of hl5,by rw [List.length_map];omega,fun p ms hp pm pw=>?_⟩
    have m6:=zj hp (o:=.lst (ms.map V.int))
    have hms:ms.length≤62:=by rw [pm.length_eq,List.length_map];exact hlen
    refine⟨n0,p,_,_,rfl,rfl,m6 _ _ (m5 _ _ zg),zg,by rw [List.length_map];exact Nat.le_trans (show 1+ms.length≤63 by omega) (by decide),fun c hc=>?_⟩
    have m7:=zj hc (o:=.lst ([V.non]++ms.map V.int))
    obtain⟨v,hv,hG⟩:=zar hns hb pm pw
    exact⟨1,rfl,c,_,_,v,rfl,rfl,SqL.of zg,hv,v,rfl,m4.trans (m5.trans (m6.trans m7)),fun _=>⟨hb,hG⟩⟩
  rintro σ H4 ⟨dv,rfl,m4,hdv⟩
  have m04:=m3.trans m4
  refine⟨2,rfl,by decide,by decide,vB (lo:=0) (n:=2) (fun i σ Hc=>∃ v5 v6 v7 v8:Option V,σ=[some (.ref r),some (.ref r'),some (.ref fo),some (.bl eb),some dv,v5,v6,v7,v8]∧RuleAt Hc r b bl zs∧RuleAt Hc r' b bl' zs'∧LT T0 Hc∧SameL T0 H Hc) ⟨_,_,_,_,rfl,R3.same m4,R3'.same m4,lt.same m04,SameL.of m04⟩ ?_ ?_⟩
  ·rintro i σ Hc hi ⟨v5,v6,v7,v8,rfl,Rc,Rc',ltc,sc⟩
   refine⟨_,rfl,r',b,bl',zs',rfl,Rc',g',trivial,ltc,fun tv H5 htv s5 lt5=>?_⟩
   rw [e1] at htv
   have htv:tv=.bl eb:=by
    rcases htv with ⟨rfl,hEnd⟩ | ⟨rfl,hB⟩
    ·rw [hEe hEnd]
    ·cases eb with
     | false=>rfl
     | true =>
      obtain⟨q,q1,q2⟩:=Qj ne g.b2 (hE.mp rfl) 13
      have:=hB q q1
      omega
   subst htv
   have R5:=Rc.sameL ltc s5
   have R5':=Rc'.sameL ltc s5
   have chk:∀ {H6:Hp},SameL T0 H5 H6->LT T0 H6->RuleAt H6 r b bl zs∧RuleAt H6 r' b bl' zs'∧SameL T0 H H6:=fun {H6} s6 lt6=>⟨R5.sameL lt5 s6,R5'.sameL lt5 s6,(sc.trans s5).trans s6⟩
   refine⟨_,rfl,r',b,bl',zs',rfl,R5',g',lt5,fun hEnd l x H6 hl hx s6 lt6=>?_,fun hB l v H6 hG hl s6 lt6=>?_⟩
   ·rw [e1] at hEnd
    have heb:eb=true:=hEe hEnd
    subst heb
    obtain⟨R6,R6',s06⟩:=chk s6 lt6
    refine⟨l,_,rfl,SqL.of hl,rfl,_,_,rfl,_,_,rfl,rfl,?_⟩
    refine⟨_,rfl,_,_,_,_,rfl,.bl _,Z1,_,rfl,xj ?_⟩
    refine⟨_,rfl,_,rfl,rfl,_,rfl,zbv (by rw [decide_eq_true rfl];rfl) ?_⟩
    refine⟨_,rfl,_,rfl,X7 b (zs'.map (·.2)),X7 b (zs.map (·.2)),TrAt.rule R6',TrAt.rule R6,Uv _ _,_,rfl,?_⟩
    rw [if_pos rfl,e1,qj]
    refine xj ?_
    refine⟨_,rfl,_,rfl,wI ?_⟩
    refine⟨_,rfl,x,CEndless,6,rfl,hx,kd_Endless,by decide,fun H7 m7=>⟨_,rfl,xj ?_⟩⟩
    refine⟨_,rfl,_,rfl,xj ?_⟩
    exact⟨_,_,_,_,rfl,R6.same m7,R6'.same m7,lt6.same m7,s06.trans (SameL.of m7)⟩
   ·rw [e1] at hG hB
    have heb:eb=false:=by
     cases e:eb with
     | false=>rfl
     | true =>
      obtain⟨q,q1,q2⟩:=Qj ne g.b2 (hE.mp e) 13
      have:=hB q q1
      omega
    subst heb
    obtain⟨R6,R6',s06⟩:=chk s6 lt6
    obtain rfl:=JC hG (hdv rfl).2
    obtain⟨t1,tr1,td1,te1⟩:=hG.num.tr
    refine⟨l,_,rfl,SqL.of hl,rfl,_,_,rfl,_,_,rfl,rfl,?_⟩
    refine⟨_,rfl,_,_,_,_,rfl,.bl _,Z1,_,rfl,xj ?_⟩
    refine⟨_,rfl,_,rfl,rfl,_,rfl,zbv (by rw [decide_eq_true rfl];rfl) ?_⟩
    refine⟨_,rfl,_,rfl,X7 b (zs'.map (·.2)),X7 b (zs.map (·.2)),TrAt.rule R6',TrAt.rule R6,Uv _ _,_,rfl,?_⟩
    rw [if_pos rfl,e1,qj]
    refine xj ?_
    refine⟨_,rfl,_,rfl,xj ?_⟩
    refine⟨_,rfl,_,rfl,wI ?_⟩
    refine⟨_,rfl,rfl,_,rfl,zbv (by rw [decide_eq_true rfl];rfl) ?_⟩
    refine⟨_,rfl,_,rfl,t1,t1,tr1 _ _,tr1 _ _,by omega,_,rfl,?_⟩
    rw [if_pos rfl,qj]
    refine xj ?_
    have last:=(⟨_,_,_,_,rfl,R6,R6',lt6,s06⟩:∃ v5 v6 v7 v8:Option V,[some (.ref r),some (.ref r'),some (.ref fo),some (.bl false),some v,some (.int (0+(i:Int))),some (.bl false),some v,some .non]=[some (.ref r),some (.ref r'),some (.ref fo),some (.bl false),some v,v5,v6,v7,v8]∧RuleAt H6 r b bl zs∧RuleAt H6 r' b bl' zs'∧LT T0 H6∧SameL T0 H H6)
    rcases hG.num with rfl | ⟨q,rfl⟩
    ·exact⟨_,rfl,_,_,_,_,rfl,.non,V4,_,rfl,xj last⟩
    ·exact⟨_,rfl,_,_,_,_,rfl,.int _,YH,_,rfl,xj last⟩
  ·rintro σ Hc ⟨v5,v6,v7,v8,rfl,Rc,Rc',ltc,sc⟩
   exact kk Hc sc ltc
end
section
variable {P:Program} {w:World} {K:PySem.W.Frag} {mg:Str->Option Value} {base:Heap}
def vR:Sp:=fun vs H Q _=>∃ (d:Addr) (fp:List Addr),vs=[.ref d]∧Deck H d fp ∧
 ∀ (r:Addr) (b:Nat) (bl:Addr) (zs:List (Addr×List Int)) (H':Hp),Stp fp d H H'->RuleAt (aw fp H') r b bl zs->zO b (zs.map (·.2))->Q (.ref r) H'
theorem yh:zF ["deck","base","few","first","most","bad","k","one"] ["deck"] (zq xG):=⟨rfl,rfl,rfl,by decide +kernel,rfl,by decide +kernel,by decide +kernel⟩
theorem U9 {fp:List Addr} {d l:Addr} {H H':Hp} (S:Stp fp d H H'):Same (aw (l :: fp) H) (aw (l :: fp) H'):=fun c o e=>by
 by_cases hc:c∈l :: fp
 ·rw [Z3 hc] at e;cases e
 ·rw [yd hc] at e ⊢
  exact S.get (fun z=>hc (List.mem_cons_of_mem _ z)) e
theorem Vm {fp:List Addr} {l:Addr} {H:Hp} {o:HO}:Same (aw (l :: fp) H) (aw (l :: fp) (upd H l o)):=fun c u e=>by
 by_cases hc:c∈l :: fp
 ·rw [Z3 hc] at e;cases e
 ·rw [yd hc] at e ⊢
  rw [zu (fun z=>hc (by rw [z];simp))];exact e
theorem qZ {f f1:Addr} {fd fd1:FuncData} (D:Df K mg "_law_some_rule" xG ["deck"] f fd) (zE:Df K mg "_law_draw" vA ["deck","many"] f1 fd1) (T:Blt mg):FnOk P w K mg base CX0 2 f fd ["deck"] vR:=by
 have zK:FnOk P w K mg base CX0 1 f1 fd1 ["deck","many"] vV:=tW zE T
 refine D.fn.ok yh (fun vs H Q E h=>?_) (fun cdv A outer s H vs Q E hr h=>?_)
 ·obtain⟨d,fp,rfl,_⟩:=h;rfl
 ·obtain⟨d,fp,rfl,DK,kk⟩:=h
  have HU:=Xe hr
  refine⟨_,(zp (zG (i:=1) yh.nd rfl (Or.inl rfl) (ym (uN K) (zJ (zf (zQ xn zr (zP zE zK (hr.mono (by decide)) (zf (pv 0) (zf zr zm)))) (zf zr (zf zr (zf zr (zf zr (zf (zQ xn zr (zP zE zK (hr.mono (by decide)) (zf (pv 0) (zf zr zm)))) zm))))))) (zP zE zK (hr.mono (by decide)) (zf (pv 0) (zf zr zm))) (fun _ _=>rfl)))
   (zp (zG (i:=2) yh.nd rfl (Or.inr rfl) (zz (Uz rfl) (by rfl) T.n_min boot_min (zf (pv 1) (zf (ym (uN K) (zJ (zf zr (zf zr (zf zr zm)))) (zP zE zK (hr.mono (by decide)) (zf (pv 0) (zf zr zm))) (fun _ _=>rfl)) zm))))
   (zp (zG (i:=3) yh.nd rfl (Or.inr rfl) (zP zE zK (hr.mono (by decide)) (zf (pv 0) (zf (zQ xn (zQ Ve (pv 1) (pv 2)) zr) zm))))
   (zp (zG (i:=4) yh.nd rfl (Or.inl rfl) (ym (uN K) (zJ (zf (zQ xn zr (zP zE zK (hr.mono (by decide)) (zf (pv 0) (zf zr zm)))) (zf zr (zf zr (zf zr zm))))) (zP zE zK (hr.mono (by decide)) (zf (pv 0) (zf zr zm))) (fun _ _=>rfl)))
   (zp (zG (i:=5) yh.nd rfl (Or.inl rfl) (zJ zm))
   (zp (qm PassesOwn.never rfl (yE rfl T.n_range (zf (ym (uN K) (zJ (zf (zP zE zK (hr.mono (by decide)) (zf (pv 0) (zf zr zm))) (zf zr (zf zr (zf zr zm))))) (zP zE zK (hr.mono (by decide)) (zf (pv 0) (zf zr zm))) (fun _ _=>rfl)) zm)) (zL (i:=6) yh.nd rfl (Or.inl rfl))
    (zp (qi (i:=7) (show CScope (zq xG) _ "at" ["deck","base","few","first","most","bad","k","one"] ["first","deck","few"] [3,0,2] from ⟨rfl,by decide +kernel,by decide +kernel,rfl,by decide +kernel,rfl,by decide +kernel,by decide +kernel⟩) rfl yh.nd rfl (Or.inl rfl) (yE rfl T.n_range (zf (zQ xn zr (zP zE zK (hr.mono (by decide)) (zf (pv 0) (zf (pv 4) zm)))) zm)) (fun _ _ _ _=>yG) (fun _ _ _ _=>(zQ xn (pv 1) (zP zE zK (hr.mono (by decide)) (zf (pv 2) (zf (pv 3) zm))))))
    (zx (xU (zM (YF K HU) (pv 7) (pv 5) (by with_unfolding_all rfl))
     (zx (vd (ZC PySem.F.plainAttrs_list PySem.F.slot_list_append PySem.F.type_list_append qb (pv 5) (zf (pv 7) zm))))
     yl))))
   (zx (zH (vh (zf (pv 1) (zf (zz (zaV K HU) (by rfl) T.n_sorted boot_sorted (zf (pv 5) zm)) zm))))))))))),?_⟩
  refine⟨_,rfl,d,_,fp,rfl,DK,(by decide),(by decide),fun x1 H1 hx1 S1=>⟨_,_,rfl,rfl,?_⟩⟩
  refine⟨_,rfl,d,_,fp,rfl,S1.dk,(by decide),(by decide),fun x2 H2 hx2 S2=>⟨_,_,rfl,rfl,(by show 6≤sizeLine;decide),fun l1 hl1=>?_⟩⟩
  have S12:=S1.trans S2
  have f1:=S12.dk.fresh hl1
  have S3:=S12.new hl1 (o:=.lst [.int (2+(x1:Int)),.int 2,.int 3,.int 10,.int 16,.int (2+(x2:Int))])
  refine⟨_,rfl,d,_,fp,rfl,S3.dk,(by decide),(by decide),fun x3 H4 hx3 S4=>?_⟩
  obtain⟨b,hb,hb2,hb16⟩:∃ b:Nat,atI [V.int (2+(x1:Int)),V.int 2,V.int 3,V.int 10,V.int 16,V.int (2+(x2:Int))] (x3:Int)=some (.int b)∧2≤b∧b≤16:=by
   have h6:x3<6:=by omega
   match x3,h6 with
   | 0,_=>exact⟨2+x1,rfl,by omega,by omega⟩
   | 1,_=>exact⟨2,rfl,by omega,by omega⟩
   | 2,_=>exact⟨3,rfl,by omega,by omega⟩
   | 3,_=>exact⟨10,rfl,by omega,by omega⟩
   | 4,_=>exact⟨16,rfl,by omega,by omega⟩
   | 5,_=>exact⟨2+x2,rfl,by omega,by omega⟩
  refine⟨l1,_,_,_,rfl,rfl,SqL.of (S4.get f1 zg),hb,?_⟩
  have S34:=S3.trans S4
  refine⟨_,rfl,(by show 3≤sizeLine;decide),fun l2 hl2=>?_⟩
  have f2:=S34.dk.fresh hl2
  have S5:=S34.new hl2 (o:=.lst [.int 2,.int 3,.int 16])
  refine⟨_,rfl,d,_,fp,rfl,S5.dk,(by decide),(by decide),fun x4 H6 hx4 S6=>?_⟩
  obtain⟨m,hm,hm2⟩:∃ m:Nat,atI [V.int 2,V.int 3,V.int 16] (x4:Int)=some (.int m)∧2≤m:=by
   have h3:x4<3:=by omega
   match x4,h3 with
   | 0,_=>exact⟨2,rfl,by omega⟩
   | 1,_=>exact⟨3,rfl,by omega⟩
   | 2,_=>exact⟨16,rfl,by omega⟩
  refine⟨l2,_,_,_,rfl,rfl,SqL.of (S6.get f2 zg),hm,_,_,rfl,?_⟩
  obtain⟨few,hfew,hfew1,hfew2⟩:∃ few:Nat,(if (m:Int)<(b:Int) then (m:Int) else (b:Int))=(few:Int)∧2≤few∧few≤b:=by
   by_cases z:m<b
   ·exact⟨m,by rw [if_pos (by omega)],by omega,by omega⟩
   ·exact⟨b,by rw [if_neg (by omega)],by omega,by omega⟩
  rw [hfew]
  have S56:=S5.trans S6
  refine⟨_,rfl,_,rfl,_,rfl,_,_,rfl,rfl,_,_,rfl,rfl,d,_,fp,rfl,S56.dk,by omega,by omega,fun x5 H7 hx5 S7=>?_⟩
  have S57:=S56.trans S7
  refine⟨_,rfl,d,_,fp,rfl,S57.dk,(by decide),(by decide),fun x6 H8 hx6 S8=>⟨_,_,rfl,rfl,(by show 4≤sizeLine;decide),fun l3 hl3=>?_⟩⟩
  have S58:=S57.trans S8
  have f3:=S58.dk.fresh hl3
  have S9:=S58.new hl3 (o:=.lst [.int (1+(x6:Int)),.int 2,.int 3,.int 4])
  refine⟨_,rfl,d,_,fp,rfl,S9.dk,(by decide),(by decide),fun x7 H10 hx7 S10=>?_⟩
  obtain⟨most,hmost,hmost1,hmost2⟩:∃ most:Nat,atI [V.int (1+(x6:Int)),V.int 2,V.int 3,V.int 4] (x7:Int)=some (.int most)∧1≤most∧most≤4:=by
   have h4:x7<4:=by omega
   match x7,h4 with
   | 0,_=>exact⟨1+x6,rfl,by omega,by omega⟩
   | 1,_=>exact⟨2,rfl,by omega,by omega⟩
   | 2,_=>exact⟨3,rfl,by omega,by omega⟩
   | 3,_=>exact⟨4,rfl,by omega,by omega⟩
  refine⟨l3,_,_,_,rfl,rfl,SqL.of (S10.get f3 zg),hmost,?_⟩
  have S910:=S9.trans S10
  refine⟨(by decide:0≤sizeLine),fun bl hbl=>?_⟩
  have fbl:=S910.dk.fresh hbl
  have S11:=S910.new hbl (o:=.lst [])
  refine⟨_,rfl,d,_,fp,rfl,S11.dk,(by decide),(by decide),fun x8 H12 hx8 S12'=>⟨(by show 4≤sizeLine;decide),fun l4 hl4=>?_⟩⟩
  have S112:=S11.trans S12'
  have f4:=S112.dk.fresh hl4
  have S13:=S112.new hl4 (o:=.lst [.int x8,.int 4,.int 3,.int 1])
  refine⟨_,rfl,d,_,fp,rfl,S13.dk,(by decide),(by decide),fun x9 H14 hx9 S14=>?_⟩
  obtain⟨N,hN,hN4⟩:∃ N:Nat,atI [V.int x8,V.int 4,V.int 3,V.int 1] (x9:Int)=some (.int N)∧N≤4:=by
   have h4:x9<4:=by omega
   match x9,h4 with
   | 0,_=>exact⟨x8,rfl,by omega⟩
   | 1,_=>exact⟨4,rfl,by omega⟩
   | 2,_=>exact⟨3,rfl,by omega⟩
   | 3,_=>exact⟨1,rfl,by omega⟩
  have S1314:=S13.trans S14
  refine⟨l4,_,_,_,rfl,rfl,SqL.of (S14.get f4 zg),hN,(N:Int),rfl,by omega,by omega,vB (lo:=0) (n:=(N:Int).toNat) (fun i σ H15=>∃ (v1 v2:Option V) (zs:List (Addr×List Int)),
   σ=[some (.ref d),some (.int b),some (.int few),some (.int x5),some (.int most),some (.ref bl),v1,v2]∧zs.length≤i∧Deck H15 d fp∧H15 bl=some (.lst (zs.map fun z=>V.ref z.1))∧(∀ z∈zs,H15 z.1=some (.lst (z.2.map V.int))∧z.1∉fp∧z.1≠bl)∧(∀ l∈zs.map (·.2),Xq b l)∧(zs.map (·.2)).Nodup∧Same (aw (bl :: fp) H) (aw (bl :: fp) H15)) ⟨none,none,[],rfl,Nat.le_refl _,S1314.dk,?_,(by simp),(by simp),(by simp),?_⟩ ?_ ?_⟩
  ·exact S14.get fbl (zj hl4 _ _ (S12'.get fbl zg))
  ·exact U9 S1314
  ·rintro i σ H15 hi ⟨v1,v2,zs,rfl,hzl,D15,hB,hZ,hG,nd,sm⟩
   refine⟨_,rfl,_,rfl,d,_,fp,rfl,D15,by omega,by omega,fun y1 H16 hy1 S16=>⟨_,_,rfl,rfl,(1+(y1:Int)),rfl,by omega,by omega,xR (lo:=0) (n:=(1+(y1:Int)).toNat) (fun j ys Hc=>Stp fp d H15 Hc∧∃ ms:List Int,ys=ms.map V.int∧ms.length=j∧∀ f∈ms,0≤f∧f<(b:Int)) ⟨S16,[],rfl,rfl,by simp⟩ ?_ ?_⟩⟩
   ·rintro j ys Hc hj ⟨Sc,ms,rfl,hml,hmf⟩
    refine⟨by rw [List.length_map,hml];exact Nat.lt_of_lt_of_le (show j<5 by omega) (by decide),?_⟩
    unfold qP
    dsimp only
    rw [if_pos rfl]
    refine⟨_,rfl,_,rfl,_,rfl,d,_,fp,rfl,Sc.dk,by omega,by omega,fun y2 H17 hy2 S17=>⟨_,_,rfl,rfl,Sc.trans S17,ms++[(x5:Int)+y2],by simp,by simp [hml],fun f hf=>?_⟩⟩
    rcases List.mem_append.mp hf with hf | hf
    ·exact hmf f hf
    ·have e:f=(x5:Int)+y2:=by simpa using hf
     omega
   ·rintro ys Hc ⟨Sc,ms,rfl,hml,hmf⟩ p hp
    have hBc:=Sc.get fbl hB
    have nbp:bl≠p:=zy hBc hp
    have hZc:∀ z∈zs,Hc z.1=some (.lst (z.2.map V.int)):=fun z hz=>Sc.get (hZ z hz).2.1 (hZ z hz).1
    have fpp:=Sc.dk.fresh hp
    refine⟨_,rfl,_,rfl,bl,_,(zs.map (·.2)).map yF,yF ms,rfl,SqL.of (zj hp _ _ hBc),TrsAt.lists (fun z hz=>zj hp _ _ (hZc z hz)),TrAt.ints (a:=p) (SqL.of zg),Nat.le_trans (xO _) (by decide),_,rfl,?_⟩
    have sm2:Same (aw (bl :: fp) H) (aw (bl :: fp) (upd Hc p (.lst (ms.map V.int)))):=sm.trans ((U9 Sc).trans ((zj hp).aw _))
    have D18:=Sc.dk.upd fpp (o:=.lst (ms.map V.int))
    rw [if_pos rfl,ZZ]
    by_cases hin:ms∈zs.map (·.2)
    ·rw [decide_eq_true hin]
     refine xj ?_
     exact⟨_,_,zs,rfl,by omega,D18,zj hp _ _ hBc,fun z hz=>⟨zj hp _ _ (hZc z hz),(hZ z hz).2⟩,hG,nd,sm2⟩
    ·rw [decide_eq_false hin]
     refine wI ?_
     refine⟨_,rfl,.inl ⟨rfl,_,SqL.of (zj hp _ _ hBc)⟩,_,rfl,bl,_,_,rfl,rfl,zj hp _ _ hBc,by rw [List.length_map];exact Nat.lt_of_le_of_lt (show zs.length≤4 by omega) (by decide),?_⟩
     refine⟨_,_,zs++[(p,ms)],rfl,by rw [List.length_append,List.length_singleton];omega,D18.upd fbl,by rw [zg];simp,fun z hz=>?_,fun l hl=>?_,?_,sm2.trans Vm⟩
     ·rcases List.mem_append.mp hz with hz | hz
      ·rw [zu (hZ z hz).2.2]
       exact⟨zj hp _ _ (hZc z hz),(hZ z hz).2⟩
      ·have e:z=(p,ms):=by simpa using hz
       subst e
       exact⟨by rw [zu (Ne.symm nbp),zg],fpp,Ne.symm nbp⟩
     ·rw [List.map_append] at hl
      rcases List.mem_append.mp hl with hl | hl
      ·exact hG l hl
      ·have e:l=ms:=by simpa using hl
       subst e
       exact⟨fun z=>by rw [z] at hml;simp at hml;omega,by omega,hmf⟩
     ·rw [List.map_append]
      refine List.nodup_append.mpr ⟨nd,by simp,fun x hx y hy=>?_⟩
      have e:y=ms:=by simpa using hy
      rw [e]
      exact fun z=>hin (z▸hx)
  ·rintro σ H15 ⟨v1,v2,zs,rfl,hzl,D15,hB,hZ,hG,nd,sm⟩
   refine⟨_,rfl,_,rfl,bl,zs,rfl,SqL.of hB,by omega,fun z hz=>SqL.of (hZ z hz).1,nd,fun p zs' hp pm pw=>⟨(by show 2≤sizeLine;decide),fun r hr=>?_⟩⟩
   have D16:=D15.same (zj hp (o:=.lst (zs'.map fun z=>V.ref z.1)))
   have npr:p≠r:=fun z=>by rw [← z,zg] at hr;cases hr
   refine kk r b p zs' _ ⟨D16.same (zj hr),fun c o e=>?_⟩ ⟨?_,?_,fun z hz=>?_⟩ ⟨hb2,hb16,by rw [List.length_map,pm.length_eq];omega,fun l hl=>?_,by rw [List.pairwise_map];exact pw⟩
   ·have hc:c∉fp:=fun hc=>by rw [Z3 hc] at e;cases e
    have hcb:c≠bl:=fun z=>by
     rw [yd hc,z,S910.free hbl] at e;cases e
    have hc2:c∉bl :: fp:=fun z=>by
     rcases List.mem_cons.mp z with z | z
     ·exact hcb z
     ·exact hc z
    rw [yd hc] at e ⊢
    have z:=sm c o (by rw [yd hc2];exact e)
    rw [yd hc2] at z
    exact zj hr _ _ (zj hp _ _ z)
   ·rw [yd (D16.fresh hr),zg]
   ·rw [yd (D15.fresh hp),zu npr,zg]
   ·have hzm:=pm.mem_iff.mp hz
    rw [yd (hZ z hzm).2.1]
    exact zj hr _ _ (zj hp _ _ (hZ z hzm).1)
   ·obtain⟨z,hz,rfl⟩:=List.mem_map.mp hl
    exact hG _ (List.mem_map.mpr ⟨z,pm.mem_iff.mp hz,rfl⟩)
end
theorem RuleAt.step {fp:List Addr} {d r bl:Addr} {H H':Hp} {b:Nat} {zs:List (Addr×List Int)} (R:RuleAt (aw fp H) r b bl zs) (S:Stp fp d H H'):RuleAt (aw fp H') r b bl zs:=R.same S.sm
theorem zew {X:Cx}:OpR X (compareOp .Is) (zfV false):=by
 intro pins s σ H x y v u Q I rx ry h
 obtain⟨a,b,rfl,rfl,q⟩:=h
 cases rx
 cases ry
 exact is_bool (yg I q (by show decide (a=b)=(a == b);cases a<;>cases b<;>rfl))
section
variable {T:Addr}
theorem Deck.sameL {H H':Hp} {d:Addr} {fp:List Addr} (D:Deck H d fp) (lt:LT T H) (s:SameL T H H'):Deck H' d fp:=by
 obtain⟨pp,qs,i,rfl,h1,h2,h3,h4,h5⟩:=D.ex
 exact⟨pp,qs,i,rfl,s _ _ (lt.lst h1) h1,s _ _ (lt.lst h2) h2,h3,h4,fun q hq=>by obtain⟨x,y,z,e⟩:=h5 q hq;exact⟨x,y,z,s _ _ (lt.lst e) e⟩⟩
theorem Deck.lst {H:Hp} {d:Addr} {fp:List Addr} (D:Deck H d fp) {b:Addr} (hb:b∈fp):∃ xs,H b=some (.lst xs):=by
 obtain⟨pp,qs,i,rfl,h1,h2,h3,h4,h5⟩:=D.ex
 rcases List.mem_cons.mp hb with e | hb
 ·rw [e];exact⟨_,h1⟩
 ·rcases List.mem_cons.mp hb with e | hb
  ·rw [e];exact⟨_,h2⟩
  ·obtain⟨x,y,z,e⟩:=h5 b hb
   exact⟨_,e⟩
theorem LT.away {H:Hp} {d:Addr} {fp:List Addr} (h:LT T H) (D:Deck H d fp):LT T (aw fp H):=by
 have out:∀ b o,H b=some o->(∀ xs,o≠.lst xs)->aw fp H b=some o:=fun b o e n=>by
  rw [yd (fun hb=>by
   obtain⟨xs,q⟩:=D.lst hb
   rw [e] at q
   cases q
   exact n _ rfl)]
  exact e
 rcases h with h | ⟨c,h1,h2⟩
 ·exact .inl (out _ _ h (fun xs z=>by cases z))
 ·exact .inr ⟨c,out _ _ h1 (fun xs z=>by cases z),out _ _ h2 (fun xs z=>by unfold Jk at z;cases z)⟩
theorem Stp.lt {H H':Hp} {d:Addr} {fp:List Addr} (S:Stp fp d H H') (D:Deck H d fp) (h:LT T H):LT T H':=((h.away D).same S.sm).same (xu fp H')
end
section
variable {P:Program} {w:World} {K:PySem.W.Frag} {mg:Str->Option Value} {base:Heap}
def vp:Sp:=fun vs H Q _=>∃ (d:Addr) (fp:List Addr),vs=[.ref d]∧Deck H d fp ∧
 ∀ (r:Addr) (b:Nat) (bl:Addr) (zs:List (Addr×List Int)) (H':Hp),Stp fp d H H'->RuleAt (aw fp H') r b bl zs->zO b (zs.map (·.2))->Q (.ref r) H'
theorem zcr {fp:List Addr} {bl:Addr} {H H':Hp} (sm:Same (aw (bl :: fp) H) (aw (bl :: fp) H')) (hb:H bl=none):Same (aw fp H) (aw fp H'):=fun c o e=>by
 have hc:c∉fp:=fun hc=>by rw [Z3 hc] at e;cases e
 rw [yd hc] at e ⊢
 have hc2:c∉bl :: fp:=fun z=>by
  rcases List.mem_cons.mp z with z | z
  ·exact zy e hb z
  ·exact hc z
 have z:=sm c o (by rw [yd hc2];exact e)
 rwa [yd hc2] at z
theorem zZ:zF ["deck","base","bad","k","one"] ["deck"] (zq yJ):=⟨rfl,rfl,rfl,by decide +kernel,rfl,by decide +kernel,by decide +kernel⟩
set_option maxHeartbeats 0 in
theorem qF {f f1:Addr} {fd fd1:FuncData} (D:Df K mg "_law_tight_rule" yJ ["deck"] f fd) (zE:Df K mg "_law_draw" vA ["deck","many"] f1 fd1) (T:Blt mg):FnOk P w K mg base CX0 2 f fd ["deck"] vp:=by
 have zK:FnOk P w K mg base CX0 1 f1 fd1 ["deck","many"] vV:=tW zE T
 refine D.fn.ok zZ (fun vs H Q E h=>?_) (fun cdv A outer s H vs Q E hr h=>?_)
 ·obtain⟨d,fp,rfl,_⟩:=h;rfl
 ·obtain⟨d,fp,rfl,DK,kk⟩:=h
  have HU:=Xe hr
  refine⟨_,(zp (zG (i:=1) zZ.nd rfl (Or.inr rfl) (zQ xn zr (zP zE zK (hr.mono (by decide)) (zf (pv 0) (zf zr zm)))))
   (zp (zG (i:=2) zZ.nd rfl (Or.inl rfl) (zJ zm))
   (zp (qm PassesOwn.never rfl (yE rfl T.n_range (zf zr zm)) (zL (i:=3) zZ.nd rfl (Or.inl rfl))
    (zp (qi (i:=4) (show CScope (zq yJ) _ "at" ["deck","base","bad","k","one"] ["deck","base"] [0,1] from ⟨rfl,by decide +kernel,by decide +kernel,rfl,by decide +kernel,rfl,by decide +kernel,by decide +kernel⟩) rfl zZ.nd rfl (Or.inl rfl) (yE rfl T.n_range (zf (ym (uN K) (zJ (zf (zQ xn zr (zP zE zK (hr.mono (by decide)) (zf (pv 0) (zf zr zm)))) (zf zr (zf zr zm)))) (zP zE zK (hr.mono (by decide)) (zf (pv 0) (zf zr zm))) (fun _ _=>rfl)) zm)) (fun _ _ _ _=>yG) (fun _ _ _ _=>(zP zE zK (hr.mono (by decide)) (zf (pv 1) (zf (pv 2) zm)))))
    (zx (xU (zM (YF K HU) (pv 4) (pv 2) (by with_unfolding_all rfl))
     (zx (vd (ZC PySem.F.plainAttrs_list PySem.F.slot_list_append PySem.F.type_list_append qb (pv 2) (zf (pv 4) zm))))
     yl))))
   (zp (xU (zM Uo (zP zE zK (hr.mono (by decide)) (zf (pv 0) (zf zr zm))) zr (zU _))
    (zp (zG (i:=1) zZ.nd rfl (Or.inr rfl) (zQ xn zr (zP zE zK (hr.mono (by decide)) (zf (pv 0) (zf zr zm)))))
    (zp (qi (i:=2) (show CScope (zq yJ) _ "figure" ["deck","base","bad","k","one"] [] [] from ⟨rfl,by decide +kernel,by decide +kernel,rfl,by decide +kernel,rfl,by decide +kernel,by decide +kernel⟩) rfl zZ.nd rfl (Or.inl rfl) (Um rfl T.n_range (zf zr (zf (pv 1) zm))) (fun _ _ _ _=>yG) (fun _ _ _ _=>(zJ (zf (pv 0) zm))))
    (zx (xU (zM Uo (zP zE zK (hr.mono (by decide)) (zf (pv 0) (zf zr zm))) zr (zU _))
     (zx (zG (i:=2) zZ.nd rfl (Or.inl rfl) (zQ qC (ww (ZD K) (pv 2) (vf zr) uG) (zJ (zf (zJ (zf zr zm)) zm)))))
     yl))))
    yl)
   (zx (zH (vh (zf (pv 1) (zf (zz (zaV K HU) (by rfl) T.n_sorted boot_sorted (zf (pv 2) zm)) zm))))))))),?_⟩
  refine⟨_,rfl,d,_,fp,rfl,DK,(by decide),(by decide),fun x1 H1 hx1 S1=>⟨_,_,rfl,rfl,?_⟩⟩
  obtain⟨b,hb,hb2,hb3⟩:∃ b:Nat,(2+(x1:Int))=(b:Int)∧2≤b∧b≤3:=⟨2+x1,by omega,by omega,by omega⟩
  dsimp only
  rw [hb]
  refine⟨(by decide:0≤sizeLine),fun bl hbl=>?_⟩
  have fbl:=S1.dk.fresh hbl
  have blH:=S1.free hbl
  have S2:=S1.new hbl (o:=.lst [])
  refine⟨4,rfl,by decide,by decide,vB (lo:=0) (n:=4) (fun i σ H15=>∃ (v1 v2:Option V) (zs:List (Addr×List Int)),
   σ=[some (.ref d),some (.int b),some (.ref bl),v1,v2]∧zs.length≤i∧Deck H15 d fp∧H15 bl=some (.lst (zs.map fun z=>V.ref z.1))∧(∀ z∈zs,H15 z.1=some (.lst (z.2.map V.int))∧z.1∉fp∧z.1≠bl)∧(∀ l∈zs.map (·.2),Xq b l)∧(zs.map (·.2)).Nodup∧Same (aw (bl :: fp) H) (aw (bl :: fp) H15)) ⟨none,none,[],rfl,Nat.le_refl _,S2.dk,zg,(by simp),(by simp),(by simp),U9 S2⟩ ?_ ?_⟩
  ·rintro i σ H15 hi ⟨v1,v2,zs,rfl,hzl,D15,hB,hZ,hG,nd,sm⟩
   refine⟨_,rfl,d,_,fp,rfl,D15,by decide,by decide,fun y1 H16 hy1 S16=>⟨_,_,rfl,rfl,(by show 3≤sizeLine;decide),fun l4 hl4=>?_⟩⟩
   have f4:=S16.dk.fresh hl4
   have S17:=S16.new hl4 (o:=.lst [.int (1+(y1:Int)),.int 2,.int 3])
   refine⟨_,rfl,d,_,fp,rfl,S17.dk,by decide,by decide,fun y2 H18 hy2 S18=>?_⟩
   obtain⟨N,hN,hN1,hN3⟩:∃ N:Nat,atI [V.int (1+(y1:Int)),V.int 2,V.int 3] (y2:Int)=some (.int N)∧1≤N∧N≤3:=by
    have h3:y2<3:=by omega
    match y2,h3 with
    | 0,_=>exact⟨1+y1,rfl,by omega,by omega⟩
    | 1,_=>exact⟨2,rfl,by omega,by omega⟩
    | 2,_=>exact⟨3,rfl,by omega,by omega⟩
   refine⟨l4,_,_,_,rfl,rfl,SqL.of (S18.get f4 zg),hN,(N:Int),rfl,by omega,by omega,xR (lo:=0) (n:=(N:Int).toNat) (fun j ys Hc=>Stp fp d H15 Hc∧∃ ms:List Int,ys=ms.map V.int∧ms.length=j∧∀ f∈ms,0≤f∧f<(b:Int)) ⟨S17.trans S18,[],rfl,rfl,by simp⟩ ?_ ?_⟩
   ·rintro j ys Hc hj ⟨Sc,ms,rfl,hml,hmf⟩
    refine⟨by rw [List.length_map,hml];exact Nat.lt_of_lt_of_le (show j<5 by omega) (by decide),?_⟩
    unfold qP
    dsimp only
    rw [if_pos rfl]
    refine⟨_,rfl,_,rfl,d,_,fp,rfl,Sc.dk,by omega,by omega,fun y3 H19 hy3 S19=>⟨Sc.trans S19,ms++[(y3:Int)],by simp,by simp [hml],fun f hf=>?_⟩⟩
    rcases List.mem_append.mp hf with hf | hf
    ·exact hmf f hf
    ·have e:f=(y3:Int):=by simpa using hf
     omega
   ·rintro ys Hc ⟨Sc,ms,rfl,hml,hmf⟩ p hp
    have hBc:=Sc.get fbl hB
    have nbp:bl≠p:=zy hBc hp
    have hZc:∀ z∈zs,Hc z.1=some (.lst (z.2.map V.int)):=fun z hz=>Sc.get (hZ z hz).2.1 (hZ z hz).1
    have fpp:=Sc.dk.fresh hp
    refine⟨_,rfl,_,rfl,bl,_,(zs.map (·.2)).map yF,yF ms,rfl,SqL.of (zj hp _ _ hBc),TrsAt.lists (fun z hz=>zj hp _ _ (hZc z hz)),TrAt.ints (a:=p) (SqL.of zg),Nat.le_trans (xO _) (by decide),_,rfl,?_⟩
    have sm2:Same (aw (bl :: fp) H) (aw (bl :: fp) (upd Hc p (.lst (ms.map V.int)))):=sm.trans ((U9 Sc).trans ((zj hp).aw _))
    have D18:=Sc.dk.upd fpp (o:=.lst (ms.map V.int))
    rw [if_pos rfl,ZZ]
    by_cases hin:ms∈zs.map (·.2)
    ·rw [decide_eq_true hin]
     refine xj ?_
     exact⟨_,_,zs,rfl,by omega,D18,zj hp _ _ hBc,fun z hz=>⟨zj hp _ _ (hZc z hz),(hZ z hz).2⟩,hG,nd,sm2⟩
    ·rw [decide_eq_false hin]
     refine wI ?_
     refine⟨_,rfl,.inl ⟨rfl,_,SqL.of (zj hp _ _ hBc)⟩,_,rfl,bl,_,_,rfl,rfl,zj hp _ _ hBc,by rw [List.length_map];exact Nat.lt_of_le_of_lt (show zs.length≤4 by omega) (by decide),?_⟩
     refine⟨_,_,zs++[(p,ms)],rfl,by rw [List.length_append,List.length_singleton];omega,D18.upd fbl,by rw [zg];simp,fun z hz=>?_,fun l hl=>?_,?_,sm2.trans Vm⟩
     ·rcases List.mem_append.mp hz with hz | hz
      ·rw [zu (hZ z hz).2.2]
       exact⟨zj hp _ _ (hZc z hz),(hZ z hz).2⟩
      ·have e:z=(p,ms):=by simpa using hz
       subst e
       exact⟨by rw [zu (Ne.symm nbp),zg],fpp,Ne.symm nbp⟩
     ·rw [List.map_append] at hl
      rcases List.mem_append.mp hl with hl | hl
      ·exact hG l hl
      ·have e:l=ms:=by simpa using hl
       subst e
       exact⟨fun z=>by rw [z] at hml;simp at hml;omega,by omega,hmf⟩
     ·rw [List.map_append]
      refine List.nodup_append.mpr ⟨nd,by simp,fun x hx y hy=>?_⟩
      have e:y=ms:=by simpa using hy
      rw [e]
      exact fun z=>hin (z▸hx)
  rintro σ H15 ⟨v1,v2,zs0,rfl,hzl,D15,hB,hZ,hG,nd,sm⟩
  have sm0:=zcr sm blH
  dsimp only [Xu]
  refine (?key:∀ D:Ends,(∀ (b:Nat) (bl:Addr) (zs:List (Addr×List Int)) (H2:Hp) (v3 v4:Option V),2≤b->b≤16->zs.length≤4->Deck H2 d fp->H2 bl=some (.lst (zs.map fun z=>V.ref z.1))->(∀ z∈zs,H2 z.1=some (.lst (z.2.map V.int))∧z.1∉fp)->(∀ l∈zs.map (·.2),Xq b l)->(zs.map (·.2)).Nodup->Same (aw fp H) (aw fp H2)->D.nx [some (.ref d),some (.int b),some (.ref bl),v3,v4] H2)->(zfx _ _ _) D _ H15) _ ?_
  ·intro D hnx
   refine⟨_,rfl,d,_,fp,rfl,D15,by decide,by decide,fun x6 H16 hx6 S16=>⟨rfl,_,rfl,?_⟩⟩
   refine V3 (fun _=>?_) (fun _=>?_)
   ·refine⟨_,rfl,d,_,fp,rfl,S16.dk,by decide,by decide,fun x7 H17 hx7 S17=>⟨_,_,rfl,rfl,?_⟩⟩
    obtain⟨c,hc,hc2,hc5⟩:∃ c:Nat,(2+(x7:Int))=(c:Int)∧2≤c∧c≤5:=⟨2+x7,by omega,by omega,by omega⟩
    dsimp only
    rw [hc]
    refine⟨_,rfl,1,(c:Int),rfl,⟨by omega,by omega,by omega,by omega⟩,xR (lo:=1) (n:=((c:Int)-1).toNat) (fun j ys Hc=>Stp fp d H15 Hc∧∃ zs:List (Addr×List Int),ys=(zs.map fun z=>V.ref z.1)∧zs.map (·.2)=(List.range j).map (fun (i:Nat)=>[(i:Int)+1])∧∀ z∈zs,Hc z.1=some (.lst (z.2.map V.int))∧z.1∉fp) ⟨S16.trans S17,[],rfl,rfl,by simp⟩ ?_ ?_⟩
    ·rintro j ys Hc hj ⟨Sc,zs,rfl,hzs,hz⟩
     have hzl:zs.length=j:=by have:=congrArg List.length hzs;rwa [List.length_map,List.length_map,List.length_range] at this
     refine⟨by rw [List.length_map,hzl];exact Nat.lt_of_lt_of_le (show j<5 by omega) (by decide),?_⟩
     unfold qP
     dsimp only
     rw [if_pos rfl]
     refine⟨_,rfl,(by show 1≤sizeLine;decide),fun p hp=>⟨Sc.new hp,zs++[(p,[(j:Int)+1])],by simp,?_,fun z hzm=>?_⟩⟩
     ·rw [List.map_append,hzs,List.range_succ,List.map_append];rfl
     ·rcases List.mem_append.mp hzm with hzm | hzm
      ·exact⟨zj hp _ _ (hz z hzm).1,(hz z hzm).2⟩
      ·have e:z=(p,[(j:Int)+1]):=by simpa using hzm
       subst e
       exact⟨by rw [zg,show (1:Int)+(j:Int)=(j:Int)+1 by omega];rfl,Sc.dk.fresh hp⟩
    ·rintro ys Hc ⟨Sc,zs,rfl,hzs,hz⟩ q hq
     have fq:=Sc.dk.fresh hq
     have Sq:=Sc.new hq (o:=.lst (zs.map fun z=>V.ref z.1))
     have hq1:upd Hc q (.lst (zs.map fun z=>V.ref z.1)) q=some (.lst (zs.map fun z=>V.ref z.1)):=zg
     have hzq:∀ z∈zs,upd Hc q (.lst (zs.map fun z=>V.ref z.1)) z.1=some (.lst (z.2.map V.int))∧z.1∉fp:=fun z hm=>⟨zj hq _ _ (hz z hm).1,(hz z hm).2⟩
     generalize upd Hc q (.lst (zs.map fun z=>V.ref z.1))=Hq at Sq hq1 hzq
     have hcn:((c:Int)-1).toNat=c-1:=by omega
     rw [hcn] at hzs
     have hzl:zs.length=c-1:=by have:=congrArg List.length hzs;rwa [List.length_map,List.length_map,List.length_range] at this
     have gst:∀ l∈zs.map (·.2),Xq c l∧l≠[0]:=fun l hl=>by
      rw [hzs] at hl
      obtain⟨i,hi,rfl⟩:=List.mem_map.mp hl
      have hi:=List.mem_range.mp hi
      refine⟨⟨by simp,(by show 1≤4;decide),fun f hf=>?_⟩,fun z=>?_⟩
      ·have e:f=(i:Int)+1:=by simpa using hf
       omega
      ·injection z with z;omega
     have ndz:(zs.map (·.2)).Nodup:=by
      rw [hzs]
      refine List.Pairwise.map _ (fun i j hij=>?_) (List.nodup_range (n:=c-1))
      intro z;injection z with z;omega
     refine⟨_,rfl,d,_,fp,rfl,Sq.dk,by decide,by decide,fun x8 H18 hx8 S18=>⟨rfl,_,rfl,?_⟩⟩
     have hq8:=S18.get fq hq1
     have hz8:∀ z∈zs,H18 z.1=some (.lst (z.2.map V.int))∧z.1∉fp:=fun z hm=>⟨S18.get (hzq z hm).2 (hzq z hm).1,(hzq z hm).2⟩
     have S8:=Sq.trans S18
     have D8:=S8.dk
     refine V3 (fun _=>?_) (fun _=>?_)
     ·refine⟨_,rfl,_,rfl,q,_,rfl,SqL.of hq8,fun q2 k2=>?_⟩
      rw [show tR (zs.map fun z=>V.ref z.1) (some 1) none=(zs.map fun z=>V.ref z.1).drop 1 from uB _ 1]
      refine⟨(by show 1≤sizeLine;decide),fun q3 k3=>⟨(by show 1≤sizeLine;decide),fun q4 k4=>?_⟩⟩
      have t3:=(zj k3 (o:=.lst [V.int 0])).trans (zj k4 (o:=.lst [V.ref q3]))
      have t4:=(zj k2 (o:=.lst ((zs.map fun z=>V.ref z.1).drop 1))).trans t3
      refine⟨q2,q4,_,_,rfl,rfl,t3 _ _ zg,zg,?_,fun q5 k5=>?_⟩
      ·rw [List.length_drop,List.length_map,hzl]
       exact Nat.le_trans (show c-1-1+1≤10 by omega) (by decide)
      have t5:=t4.trans (zj k5 (o:=.lst ((zs.map fun z=>V.ref z.1).drop 1++[V.ref q3])))
      have D9:=D8.same (zj k2 (o:=.lst ((zs.map fun z=>V.ref z.1).drop 1)))
      have S9:=S8.trans (.of D8 t5)
      have h3:=zj k5 (o:=.lst ((zs.map fun z=>V.ref z.1).drop 1++[V.ref q3])) _ _ (zj k4 (o:=.lst [V.ref q3]) _ _ (zg (H:=upd H18 q2 (.lst ((zs.map fun z=>V.ref z.1).drop 1))) (a:=q3) (o:=.lst [V.int 0])))
      refine hnx c q5 (zs.drop 1++[(q3,[0])]) _ _ _ (by omega) (by omega) (by rw [List.length_append,List.length_drop,hzl];simp;omega) S9.dk (by rw [zg,List.map_append,List.map_drop];rfl) (fun z hm=>?_) (fun l hl=>?_) ?_ (sm0.trans S9.sm)
      ·rcases List.mem_append.mp hm with hm | hm
       ·have hm:=List.mem_of_mem_drop hm
        exact⟨t5 _ _ (hz8 z hm).1,(hz8 z hm).2⟩
       ·have e:z=(q3,[0]):=by simpa using hm
        subst e
        exact⟨h3,D9.fresh k3⟩
      ·rw [List.map_append] at hl
       rcases List.mem_append.mp hl with hl | hl
       ·obtain⟨z,hm,rfl⟩:=List.mem_map.mp hl
        exact (gst _ (List.mem_map.mpr ⟨z,List.mem_of_mem_drop hm,rfl⟩)).1
       ·have e:l=[0]:=by simpa using hl
        subst e
        exact⟨by simp,(by show 1≤4;decide),fun f hf=>by
         have e:f=0:=by simpa using hf
         omega⟩
      ·rw [List.map_append,List.map_drop]
       refine List.nodup_append.mpr ⟨ndz.sublist (List.drop_sublist _ _),by simp,fun x hx y hy=>?_⟩
       have e:y=[0]:=by simpa using hy
       rw [e]
       exact (gst x (List.mem_of_mem_drop hx)).2
     ·exact hnx c q zs _ _ _ (by omega) (by omega) (by omega) D8 hq8 hz8 (fun l hl=>(gst l hl).1) ndz (sm0.trans S8.sm)
   ·exact hnx b bl zs0 _ _ _ hb2 (by omega) (by omega) S16.dk (S16.get fbl hB) (fun z hz=>⟨S16.get (hZ z hz).2.1 (hZ z hz).1,(hZ z hz).2.1⟩) hG nd (sm0.trans S16.sm)
  ·intro b bl zs H2 v3 v4 hb2 hb16 hzl D2 hB hZ hG nd sm
   refine⟨_,rfl,_,rfl,bl,zs,rfl,SqL.of hB,by omega,fun z hz=>SqL.of (hZ z hz).1,nd,fun p zs' hp pm pw=>⟨(by show 2≤sizeLine;decide),fun r hr=>?_⟩⟩
   have D16:=D2.same (zj hp (o:=.lst (zs'.map fun z=>V.ref z.1)))
   have npr:p≠r:=fun z=>by rw [← z,zg] at hr;cases hr
   have t2:=(zj hp (o:=.lst (zs'.map fun z=>V.ref z.1))).trans (zj hr (o:=.tup [V.int b,V.ref p]))
   refine kk r b p zs' _ ⟨D16.same (zj hr),sm.trans (t2.aw fp)⟩ ⟨?_,?_,fun z hz=>?_⟩ ⟨hb2,hb16,by rw [List.length_map,pm.length_eq];omega,fun l hl=>?_,by rw [List.pairwise_map];exact pw⟩
   ·rw [yd (D16.fresh hr),zg]
   ·rw [yd (D2.fresh hp),zu npr,zg]
   ·have hzm:=pm.mem_iff.mp hz
    rw [yd (hZ z hzm).2]
    exact t2 _ _ (hZ z hzm).1
   ·obtain⟨z,hz,rfl⟩:=List.mem_map.mp hl
    exact hG _ (List.mem_map.mpr ⟨z,pm.mem_iff.mp hz,rfl⟩)
end
theorem zbs {p:Nat->Bool} {g g':Nat} (h:p g=true) (h':p g'=true) (e:many p g=many p g'):g=g':=by
 rcases Nat.lt_trichotomy g g' with z | z | z
 ·have:=vI p z h;omega
 ·exact z
 ·have:=vI p z h';omega
theorem Qu {ls:List (List Int)} {b:Nat} (ne:∀ l∈ls,l≠[]) (b2:2≤b) (h:yt ls b 13=yt ls b 14):¬ End ls b:=fun hE=>by
 obtain⟨g,h1,h2,h3⟩:=hE 13
 have a1:=vI _ h3 h1
 have a2:=tZ (gd ls b) h2
 rw [yu ne b2,yu ne b2] at h
 have e:(13:Nat)+1=14:=rfl
 rw [e] at a1
 omega
theorem Xw {ls:List (List Int)} {b g:Nat} {n:Nat} (ne:∀ l∈ls,l≠[]) (b2:2≤b) (h:yt ls b 13=n) (hg:gd ls b g=true) (hb:g<b^13):many (gd ls b) g<n:=by
 have a1:=vI _ hb hg
 rw [yu ne b2] at h
 omega
theorem zeK {v:V} (h:GreatG [[0],[1]] 2 v):v=.non:=by
 rcases h with ⟨rfl,_⟩ | ⟨g,rfl,h1,h2,_⟩
 ·rfl
 ·have:=Xw (n:=0) (by decide) (by decide) (by decide +kernel) h1 h2
  omega
theorem zeL {v:V} (h:GreatG [[1]] 2 v):v=.int 0:=by
 have g0:gd [[1]] 2 0=true:=by unfold gd;rw [w5 (by decide)];decide
 rcases h with ⟨rfl,h⟩ | ⟨g,rfl,h1,h2,h3⟩
 ·rw [h] at g0;cases g0
 ·have:=Xw (n:=1) (by decide) (by decide) (by decide +kernel) h1 h2
  rw [zbs h1 g0 (by show _=0;omega)];rfl
theorem zdy {v:V} (h:GreatG [[0],[1,1,1]] 2 v):v=.int 3:=by
 have g1:gd [[0],[1,1,1]] 2 1=true:=by unfold gd;rw [w5 (by decide)];decide
 have g3:gd [[0],[1,1,1]] 2 3=true:=by unfold gd;rw [show (3:Nat)=1*2+1 from rfl,wG (by decide) (by decide) (by decide),w5 (by decide)];decide
 rcases h with ⟨rfl,h⟩ | ⟨g,rfl,h1,h2,h3⟩
 ·rw [h] at g3;cases g3
 ·have a1:=Xw (n:=2) (by decide) (by decide) (by decide +kernel) h1 h2
  have a2:=vI _ (show 1<3 by decide) g1
  have a3:=h3 3 g3
  by_cases z:g=3
  ·rw [z];rfl
  ·have a4:=vI _ (show 3<g by omega) g3
   omega
theorem zfs {v:V} (h:zfC [[0,0],[1,1]] 2 v):v=.bl true:=by
 rcases h with ⟨rfl,_⟩ | ⟨rfl,h⟩
 ·rfl
 ·obtain⟨g,h1,h2⟩:=Qj (ls:=[[0,0],[1,1]]) (b:=2) (by decide) (by decide) ⟨[1],[1],[0],⟨1,by decide,by decide,by decide +kernel⟩,.refl _,⟨0,by decide,by decide +kernel⟩,.step ⟨1,by decide,by decide +kernel⟩ (.refl _)⟩ 13
  have:=h g h1
  omega
theorem Wo {b:Nat} {ls:List (List Int)} (h:(decide (2≤b∧b≤16∧ls.length≤4) && ls.all (fun l=>decide (l≠[]∧l.length≤4) && l.all fun f=>decide (0≤f∧f<(b:Int))))=true) (up:ls.Pairwise fun x y=>HT.lexLt x y=true):zO b ls:=by
 rw [Bool.and_eq_true] at h
 obtain⟨h1,h2⟩:=h
 have h1:=of_decide_eq_true h1
 rw [List.all_eq_true] at h2
 refine⟨h1.1,h1.2.1,h1.2.2,fun l hl=>?_,up⟩
 have:=h2 l hl
 rw [Bool.and_eq_true] at this
 obtain⟨k1,k2⟩:=this
 have k1:=of_decide_eq_true k1
 rw [List.all_eq_true] at k2
 exact⟨k1.1,k1.2,fun f hf=>of_decide_eq_true (k2 f hf)⟩
theorem gr1:zO 2 [[0],[1]]:=Wo (by decide) (by decide)
theorem gr2:zO 2 [[1]]:=Wo (by decide) (by decide)
theorem gr3:zO 2 [[0,0],[1,1]]:=Wo (by decide) (by decide)
theorem gr4:zO 2 [[0],[1,1,1]]:=Wo (by decide) (by decide)
theorem nE1:¬ End [[0],[1]] 2:=Qu (by decide) (by decide) (by decide +kernel)
theorem nE2:¬ End [[1]] 2:=Qu (by decide) (by decide) (by decide +kernel)
theorem nE4:¬ End [[0],[1,1,1]] 2:=Qu (by decide) (by decide) (by decide +kernel)
theorem in2 {α:Type} {a b:α} {p:α->Prop} (ha:p a) (hb:p b):∀ z∈[a,b],p z:=fun z hz=>by
 rcases List.mem_cons.mp hz with rfl | hz
 ·exact ha
 ·rw [List.mem_singleton.mp hz];exact hb
section
variable {P:Program} {w:World} {K:PySem.W.Frag} {mg:Str->Option Value} {base:Heap} {T0:Addr}
def Qt (K:PySem.W.Frag) (T:Addr):Sp:=fun vs H Q _=>∃ (a:Addr) (ns:List Int),vs=[.ref a]∧SqL K H a (ns.map V.int)∧ns.length≤63∧LT T H∧∀ H',Q (.bl true) H'
theorem zaw:zF ["script","deck","k"] ["script"] (zq Va):=⟨rfl,rfl,rfl,by decide +kernel,rfl,by decide +kernel,by decide +kernel⟩
set_option maxHeartbeats 0 in
theorem zeu {CEndless:Addr} {f f1 f2 f3 f5 f7 f8 f9:Addr} {fd fd1 fd2 fd3 fd5 fd7 fd8 fd9:FuncData} (D:Df K mg "law" Va ["script"] f fd) (qe:Df K mg "_law_deck" jc ["script"] f1 fd1) (xV:Df K mg "_law_some_rule" xG ["deck"] f2 fd2) (xF:Df K mg "_law_tight_rule" yJ ["deck"] f3 fd3)
  (qW:Df K mg "_law_right" tX ["rule"] f5 fd5) (Zy:FnOk P w K mg base CX0 11 f5 fd5 ["rule"] (ji T0)) (wu:Df K mg "is_endless" vP ["rule"] f7 fd7) (vH:FnOk P w K mg base CX0 9 f7 fd7 ["rule"] (uK T0)) (zR:Df K mg "greatest_good" yS ["rule"] f9 fd9) (zX:FnOk P w K mg base (CX1 P w) 9 f9 fd9 ["rule"] (xM T0 CEndless)) (zE:Df K mg "_law_draw" vA ["deck","many"] f8 fd8) (T:Blt mg):FnOk P w K mg base CX0 12 f fd ["script"] (Qt K T0):=by
 have Vi:FnOk P w K mg base CX0 1 f1 fd1 ["script"] (jV K):=YS qe T
 have zK:FnOk P w K mg base CX0 1 f8 fd8 ["deck","many"] vV:=tW zE T
 have j7:FnOk P w K mg base CX0 2 f2 fd2 ["deck"] vR:=qZ xV zE T
 have jA:FnOk P w K mg base CX0 2 f3 fd3 ["deck"] vp:=qF xF zE T
 refine D.fn.ok zaw (fun vs H Q E h=>?_) (fun cdv A outer s H vs Q E hr h=>?_)
 ·obtain⟨a,ns,rfl,_⟩:=h;rfl
 ·obtain⟨a,ns,rfl,hS,hlen,lt,kk⟩:=h
  refine⟨_,(zp (zG (i:=1) zaw.nd rfl (Or.inl rfl) (zP qe Vi (hr.mono (by decide)) (zf (pv 0) zm)))
   (zp (qm PassesOwn.never rfl (yE rfl T.n_range (zf zr zm)) (zL (i:=2) zaw.nd rfl (Or.inl rfl))
    (zx (xU (jO (vq (zP qW Zy (hr.mono (by decide)) (zf (ym (uN K) (zJ (zf (zP xV j7 (hr.mono (by decide)) (zf (pv 1) zm)) (zf (zP xF jA (hr.mono (by decide)) (zf (pv 1) zm)) zm))) (zP zE zK (hr.mono (by decide)) (zf (pv 1) (zf zr zm))) (fun _ _=>rfl)) zm))))
     (zx (zH Zt))
     yl)))
   (zp (xU (PW.pt (WR (zM Y4 (Qc zR zX (hr.mono (by decide)) zcn (zf (vh (zf zr (zf (zJ (zf (zJ (zf zr zm)) (zf (zJ (zf zr zm)) zm))) zm))) zm)) uo (zU _)) (WT (zM zcQ (Qc zR zX (hr.mono (by decide)) zcn (zf (vh (zf zr (zf (zJ (zf (zJ (zf zr zm)) zm)) zm))) zm)) zr (zU _)))))
    (zx (zH Zt))
    yl)
   (zx (zH (jD (uJ zew (zP wu vH (hr.mono (by decide)) (zf (vh (zf zr (zf (zJ (zf (zJ (zf zr (zf zr zm))) (zf (zJ (zf zr (zf zr zm))) zm))) zm))) zm)) Zt (zU _)) (jT (uJ Uo (zdN zR zX (hr.mono (by decide)) zcn (vM (zdS (vM YW (vM (Qq (vM (Qq (vM YW Xf)) (vM (Qq (vM YW (vM YW (vM YW Xf)))) Xf))) Xf))) Xf)) zr (zU _))))))))),?_⟩
  refine⟨_,rfl,a,ns,rfl,hS,hlen,fun d fp H0 D0 s0 _=>?_⟩
  refine⟨16,rfl,by decide,by decide,vB (lo:=0) (n:=16) (fun i σ H2=>∃ v2:Option V,σ=[some (.ref a),some (.ref d),v2]∧Deck H2 d fp∧LT T0 H2) ⟨none,rfl,D0,lt.same s0⟩ ?_ ?_⟩
  ·rintro i σ H2 hi ⟨v2,rfl,D2,lt2⟩
   refine⟨_,rfl,d,fp,rfl,D2,fun r1 b1 bl1 zs1 H3 S3 RA3 g1=>?_⟩
   refine⟨_,rfl,d,fp,rfl,S3.dk,fun r2 b2 bl2 zs2 H4 S4 RA4 g2=>⟨(by show 2≤sizeLine;decide),fun q hq=>?_⟩⟩
   have fq:=S4.dk.fresh hq
   have S5:=(S3.trans S4).new hq (o:=.lst [V.ref r1,V.ref r2])
   have hq5:upd H4 q (.lst [V.ref r1,V.ref r2]) q=some (.lst [V.ref r1,V.ref r2]):=zg
   have RB:=(RA3.step S4).same ((zj hq (o:=.lst [V.ref r1,V.ref r2])).aw fp)
   have RC:=RA4.same ((zj hq (o:=.lst [V.ref r1,V.ref r2])).aw fp)
   generalize upd H4 q (.lst [V.ref r1,V.ref r2])=H5 at S5 hq5 RB RC
   refine⟨_,rfl,d,_,fp,rfl,S5.dk,by decide,by decide,fun x H6 hx S6=>?_⟩
   have RB6:=RB.step S6
   have RC6:=RC.step S6
   obtain⟨r,b,bl,zs,hat,RA6,g⟩:∃ (r:Addr) (b:Nat) (bl:Addr) (zs:List (Addr×List Int)),atI [V.ref r1,V.ref r2] (x:Int)=some (.ref r)∧RuleAt (aw fp H6) r b bl zs∧zO b (zs.map (·.2)):=by
    match x,hx with
    | 0,_=>exact⟨r1,b1,bl1,zs1,rfl,RB6,g1⟩
    | 1,_=>exact⟨r2,b2,bl2,zs2,rfl,RC6,g2⟩
    | x+2,h=>exact absurd h (by omega)
   refine⟨q,_,_,_,rfl,rfl,SqL.of (S6.get fq hq5),hat,?_⟩
   have lt6:=(S5.trans S6).lt D2 lt2
   refine⟨r,b,bl,zs,rfl,RA6.all,g,lt6,fun H11 s11 lt11=>⟨_,rfl,xj ?_⟩⟩
   exact⟨_,rfl,S6.dk.sameL lt6 s11,lt11⟩
  ·rintro σ H2 ⟨v2,rfl,D2,lt2⟩
   refine⟨(by show 1≤sizeLine;decide),fun p1 q1=>⟨(by show 1≤sizeLine;decide),fun p2 q2=>⟨(by show 2≤sizeLine;decide),fun p3 q3=>⟨(by show 2≤sizeLine;decide),fun p4 q4=>?_⟩⟩⟩⟩
   have t1:=zj q1 (o:=.lst [.int 0])
   have t2:=zj q2 (o:=.lst [.int 1])
   have t3:=zj q3 (o:=.lst [.ref p1,.ref p2])
   have t4:=zj q4 (o:=.tup [.int 2,.ref p3])
   refine⟨p4,2,p3,[(p1,[0]),(p2,[1])],rfl,⟨zg,t4 _ _ zg,in2 (t4 _ _ (t3 _ _ (t2 _ _ zg))) (t4 _ _ (t3 _ _ zg))⟩,gr1,(((lt2.same t1).same t2).same t3).same t4,fun hE=>absurd hE nE1,fun _ v H3 hv s3 lt3=>?_⟩
   obtain rfl:=zeK hv
   refine⟨rfl,_,rfl,zbv (by rw [decide_eq_true rfl];rfl) ?_⟩
   refine⟨(by show 1≤sizeLine;decide),fun p5 q5=>⟨(by show 1≤sizeLine;decide),fun p6 q6=>⟨(by show 2≤sizeLine;decide),fun p7 q7=>?_⟩⟩⟩
   have t5:=zj q5 (o:=.lst [.int 1])
   have t6:=zj q6 (o:=.lst [.ref p5])
   have t7:=zj q7 (o:=.tup [.int 2,.ref p6])
   refine⟨p7,2,p6,[(p5,[1])],rfl,⟨zg,t7 _ _ zg,fun z hz=>by rw [List.mem_singleton.mp hz];exact t7 _ _ (t6 _ _ zg)⟩,gr2,((lt3.same t5).same t6).same t7,fun hE=>absurd hE nE2,fun _ v H4 hv s4 lt4=>?_⟩
   obtain rfl:=zeL hv
   refine⟨rfl,_,rfl,zbv (by rw [decide_eq_true rfl];rfl) ?_⟩
   refine⟨(by show 2≤sizeLine;decide),fun p8 q8=>⟨(by show 2≤sizeLine;decide),fun p9 q9=>⟨(by show 2≤sizeLine;decide),fun p10 q10=>⟨(by show 2≤sizeLine;decide),fun p11 q11=>?_⟩⟩⟩⟩
   have t8:=zj q8 (o:=.lst [.int 0,.int 0])
   have t9:=zj q9 (o:=.lst [.int 1,.int 1])
   have t10:=zj q10 (o:=.lst [.ref p8,.ref p9])
   have t11:=zj q11 (o:=.tup [.int 2,.ref p10])
   refine⟨p11,2,p10,[(p8,[0,0]),(p9,[1,1])],rfl,⟨zg,t11 _ _ zg,in2 (t11 _ _ (t10 _ _ (t9 _ _ zg))) (t11 _ _ (t10 _ _ zg))⟩,gr3,trivial,(((lt4.same t8).same t9).same t10).same t11,fun v H5 hv s5 lt5=>?_⟩
   obtain rfl:=zfs hv
   refine⟨true,true,rfl,rfl,_,rfl,wI ?_⟩
   refine⟨(by show 1≤sizeLine;decide),fun p12 q12=>⟨(by show 3≤sizeLine;decide),fun p13 q13=>⟨(by show 2≤sizeLine;decide),fun p14 q14=>⟨(by show 2≤sizeLine;decide),fun p15 q15=>?_⟩⟩⟩⟩
   have t12:=zj q12 (o:=.lst [.int 0])
   have t13:=zj q13 (o:=.lst [.int 1,.int 1,.int 1])
   have t14:=zj q14 (o:=.lst [.ref p12,.ref p13])
   have t15:=zj q15 (o:=.tup [.int 2,.ref p14])
   refine⟨p15,2,p14,[(p12,[0]),(p13,[1,1,1])],rfl,⟨zg,t15 _ _ zg,in2 (t15 _ _ (t14 _ _ (t13 _ _ zg))) (t15 _ _ (t14 _ _ zg))⟩,gr4,(((lt5.same t12).same t13).same t14).same t15,fun hE=>absurd hE nE4,fun _ v H6 hv s6 lt6=>?_⟩
   obtain rfl:=zdy hv
   exact⟨rfl,kk H6⟩
end
open PySem L2
theorem fb1 {P:List Value->Prop} (h:∀ a,P [a]):∀ us:List Value,us.length=1->P us
 | [a],_=>h a
theorem fb2 {P:List Value->Prop} (h:∀ a b,P [a,b]):∀ us:List Value,us.length=2->P us
 | [a,b],_=>h a b
theorem fb3 {P:List Value->Prop} (h:∀ a b c,P [a,b,c]):∀ us:List Value,us.length=3->P us
 | [a,b,c],_=>h a b c
def FF (K:PySem.W.Frag) (n q:Str) (st:Stmt) (f:Addr) (cd:Value):Prop:=∃ (od an:Option Addr) (sl:Array (Option Value)) (oc kV dc pm ct:Value),K.lookup f=some ⟨oc,od,.func (PySem.W.fnOf n q (wN st) (yR st) (zq st) .none kV dc pm an cd ct),sl⟩∧PySem.W.codeIn K cd q=true∧PySem.W.keepIn K (.ref f)=true
def FD (K:PySem.W.Frag) (n:Str) (st:Stmt):Prop:=∃ (f:Addr) (cd:Value),PySem.W.nsIn K mainGlobals n=some (some (.ref f))∧FF K n n st f cd
def FM (K:PySem.W.Frag) (C:Addr) (n q:Str) (st:Stmt):Prop:=∃ (f:Addr) (cd:Value),PySem.W.findIn K (.ref C) n=some (some (.ref f))∧PySem.W.isFn K (.ref f)=true∧FF K n q st f cd
section
variable {K:PySem.W.Frag} {n q:Str} {st:Stmt} {f C:Addr} {cd:Value} {od an:Option Addr} {sl:Array (Option Value)} {oc kV dc pm ct:Value}
theorem fdm (a:PySem.W.nsIn K mainGlobals n=some (some (.ref f))) (l:K.lookup f=some ⟨oc,od,.func (PySem.W.fnOf n n (wN st) (yR st) (zq st) .none kV dc pm an cd ct),sl⟩) (e:PySem.W.codeIn K cd n=true) (k:PySem.W.keepIn K (.ref f)=true):FD K n st:=⟨f,cd,a,od,an,sl,oc,kV,dc,pm,ct,l,e,k⟩
theorem fmm (a:PySem.W.findIn K (.ref C) n=some (some (.ref f))) (i:PySem.W.isFn K (.ref f)=true) (l:K.lookup f=some ⟨oc,od,.func (PySem.W.fnOf n q (wN st) (yR st) (zq st) .none kV dc pm an cd ct),sl⟩) (e:PySem.W.codeIn K cd q=true) (k:PySem.W.keepIn K (.ref f)=true):FM K C n q st:=⟨f,cd,a,i,od,an,sl,oc,kV,dc,pm,ct,l,e,k⟩
def FB (n q:Str) (st:Stmt) (ps:List Str):Prop:=∀ (kV doc pm:Value) (an:Option Addr) (cdv ct:Value) (us:List Value),us.length=ps.length->bindArgs (PySem.W.fnOf n q (wN st) (yR st) (zq st) .none kV doc pm an cdv ct) ⟨us,[]⟩=pure (ps.zip us)
theorem FD.df {h:Heap} {mg:Str->Option Value} {ps:List Str} (x:FD K n st) (X:K.In h) (G:h.Ns mainGlobals mg) (b:FB n n st ps):∃ f fd,Df K mg n st ps f fd:=by
 obtain⟨f,cd,a,od,an,sl,oc,kV,dc,pm,ct,l,e,k⟩:=x
 exact⟨_,_,zcS X G a l e k b⟩
theorem FM.mt {ps:List Str} (x:FM K C n q st) (b:FB n q st ps):∃ f fd,Mt K C q n st ps f fd:=by
 obtain⟨f,cd,a,i,od,an,sl,oc,kV,dc,pm,ct,l,e,k⟩:=x
 exact⟨_,_,⟨QF (st:=st) l e k,(QF (st:=st) l e k).binds b,⟨a,i,k⟩⟩⟩
end
structure CF (K:PySem.W.Frag) (n:Str) (C:Addr):Prop where
 g:PySem.W.nsIn K mainGlobals n=some (some (.ref C))
 m:PySem.W.mroIn K C (.type "object")=some true
 t:PySem.W.typeIn K (.ref C)=some (.type "type")
theorem CF.cls {K:PySem.W.Frag} {n:Str} {C D:Addr} {b:Bool} (x:CF K n D) (e:PySem.W.mroIn K C (.ref D)=some b):PySem.W.kitCls K (.ref C) (.ref D)=some b:=by
 obtain⟨cd,h,_⟩:=Option.bind_eq_some_iff.mp x.m
 show (if ((PySem.W.clsIn K D).isSome && PySem.W.typeIn K (.ref D) == some (.type "type"))=true then PySem.W.subIn K (.ref C) (.ref D) else none)=_
 rw [if_pos (by rw [h,x.t,Option.isSome_some,Bool.true_and];exact beq_self_eq_true _)]
 exact e
theorem CF.no {K:PySem.W.Frag} {n:Str} {C D:Addr} (x:CF K n D) (s:PySem.W.mroIn K C (.ref C)=some true) (e:PySem.W.mroIn K C (.ref D)=some false):PySem.W.kitOne K (.ref C) (.ref D)=some false:=by
 unfold PySem.W.kitOne
 rw [if_neg (fun q=>by
  have h:Value.ref C=Value.ref D:=eq_of_beq q
  injection h with h
  rw [← h,s] at e
  cases e)]
 exact x.cls e
theorem zcp {K:PySem.W.Frag} {C:Addr}:PySem.W.kitOne K (.ref C) (.ref C)=some true:=by
 unfold PySem.W.kitOne
 rw [if_pos (beq_self_eq_true _)]
theorem zeE {K:PySem.W.Frag} {C:Addr} (e:PySem.W.mroIn K C (.type "ValueError")=some true):PySem.W.kitOne K (.ref C) (.type "ValueError")=some true:=by
 unfold PySem.W.kitOne
 split
 ·rfl
 ·show (if PySem.W.kitMeta "ValueError" = true then PySem.W.subIn K (.ref C) (.type "ValueError") else none)=_
  rw [if_pos (by decide +kernel)]
  exact e
set_option maxHeartbeats 0 in
theorem zeY {l:PySem.W.OpenLaw} {w:World} {K:PySem.W.Frag} {h:Heap} {mg:Str->Option Value} {fa T0 c0:Addr} (X:K.In h) (G:h.Ns mainGlobals mg) (hfa:mg "law" = some (.ref fa)) (hcT:PySem.W.codeHdIn K c0 T0=true) (hgT:mainGlobals≠T0)
  (x0:FD K "_wall" zdZ)
  (x1:FD K "is_whole" qJ)
  (x2:FD K "is_base" ZK)
  (x3:FD K "is_figure" qY)
  (x4:FD K "are_figures" wY)
  (x5:FD K "is_stretch" tM)
  (x6:FD K "is_rising" uV)
  (x7:FD K "is_bad_list" wX)
  (x8:FD K "is_rule" ZM)
  (x9:FD K "check_rule" vY)
  (x10:FD K "stands_within" xT)
  (x11:FD K "lacks_all" wA)
  (x12:FD K "begins_one" vO)
  (x13:FD K "longest_stand" vg)
  {f14:Addr} {od14 an14:Option Addr} {sl14:Array (Option Value)} {oc14 kV14 dc14 pm14 ct14:Value} (a14:PySem.W.nsIn K mainGlobals "stands_of" = some (some (.ref f14)))
  (l14:K.lookup f14=some ⟨oc14,od14,.func (PySem.W.fnOf "stands_of" "stands_of" (wN yj) (yR yj) (zq yj) .none kV14 dc14 pm14 an14 (.ref c0) ct14),sl14⟩) (e14:PySem.W.codeIn K (.ref c0) "stands_of" = true) (k14:PySem.W.keepIn K (.ref f14)=true)
  (x15:FD K "place_behind" vN)
  (x16:FD K "steps_from" ue)
  (x17:FD K "all_steps" uT)
  (x18:FD K "is_endless" vP)
  (x19:FD K "greatest_good" yS)
  (x20:FD K "_law_deck" jc)
  (x21:FD K "_law_draw" vA)
  (x22:FD K "_law_some_rule" xG)
  (x23:FD K "_law_own" ql)
  (x24:FD K "_law_behind" xW)
  (x25:FD K "_law_steps" xP)
  (x26:FD K "_law_tight_rule" yJ)
  (x27:FD K "_law_kinds" vK)
  (x28:FD K "_law_ends_behind" yD)
  (x29:FD K "_law_endless" xJ)
  (x30:FD K "_law_all" wz)
  (x31:FD K "_law_told" jf)
  (x32:FD K "_law_right" tX)
  (x33:FD K "law" Va)
  {CNoBase:Addr} (qNoBase:CF K "NoBase" CNoBase)
  {CNoNumber:Addr} (qNoNumber:CF K "NoNumber" CNoNumber)
  {CNoFigures:Addr} (qNoFigures:CF K "NoFigures" CNoFigures)
  {CNoRule:Addr} (qNoRule:CF K "NoRule" CNoRule)
  {CNoStand:Addr} (qNoStand:CF K "NoStand" CNoStand)
  {CNoGood:Addr} (qNoGood:CF K "NoGood" CNoGood)
  {CEndless:Addr} (qEndless:CF K "Endless" CEndless)
  {CNoRules:Addr} (qNoRules:CF K "NoRules" CNoRules)
  {CNoStretch:Addr} (qNoStretch:CF K "NoStretch" CNoStretch)
  {CTooMany:Addr} (qTooMany:CF K "TooMany" CTooMany)
  {CNoText:Addr} (qNoText:CF K "NoText" CNoText)
  {CNoName:Addr} (qNoName:CF K "NoName" CNoName)
  {CNoRow:Addr} (qNoRow:CF K "NoRow" CNoRow)
  {CLackError:Addr} (qLackError:CF K "LackError" CLackError)
  (mLE:PySem.W.mroIn K CLackError (.type "BaseException")=some true)
  (nVE:PySem.W.nsIn K mainGlobals "ValueError" = some none)
  (pEndless:PySem.W.excIn K CEndless veT "ValueError.__new__" = true) (lEndless:PySem.W.mroIn K CEndless (.ref CLackError)=some true)
  (iEndless:V7 K CEndless) (vEndless:PySem.W.mroIn K CEndless (.type "ValueError")=some true)
  (mEndless_NoBase:PySem.W.mroIn K CEndless (.ref CNoBase)=some false)
  (mEndless_NoNumber:PySem.W.mroIn K CEndless (.ref CNoNumber)=some false)
  (mEndless_NoFigures:PySem.W.mroIn K CEndless (.ref CNoFigures)=some false)
  (mEndless_NoRule:PySem.W.mroIn K CEndless (.ref CNoRule)=some false)
  (mEndless_NoStand:PySem.W.mroIn K CEndless (.ref CNoStand)=some false)
  (mEndless_NoGood:PySem.W.mroIn K CEndless (.ref CNoGood)=some false)
  (mEndless_Endless:PySem.W.mroIn K CEndless (.ref CEndless)=some true)
  (mEndless_NoRules:PySem.W.mroIn K CEndless (.ref CNoRules)=some false)
  (mEndless_NoStretch:PySem.W.mroIn K CEndless (.ref CNoStretch)=some false)
  (mEndless_TooMany:PySem.W.mroIn K CEndless (.ref CTooMany)=some false)
  (mEndless_NoText:PySem.W.mroIn K CEndless (.ref CNoText)=some false)
  (mEndless_NoName:PySem.W.mroIn K CEndless (.ref CNoName)=some false)
  (mEndless_NoRow:PySem.W.mroIn K CEndless (.ref CNoRow)=some false)
  {C:Addr} (aC:PySem.W.nsIn K mainGlobals "Tails" = some (some (.ref C)))
  (yC0:FM K C "__init__" "Tails.__init__" uv)
  (yC1:FM K C "layer" "Tails.layer" xY)
  (yC2:FM K C "many_by" "Tails.many_by" yL)
  (yC3:FM K C "many_under" "Tails.many_under" yP)
  (yC4:FM K C "many_below" "Tails.many_below" Ym)
  (yC5:FM K C "many_within" "Tails.many_within" yM)
  (yC6:FM K C "figure_at" "Tails.figure_at" wj)
  (yC7:FM K C "number_at" "Tails.number_at" wg)
  (yC8:FM K C "are_endless" "Tails.are_endless" yN)
  (pgC:PySem.W.plainGet K C Str.empty=true) (hdC:PySem.W.hasDictIn K C=true) (poC:PySem.W.plainOver K C=true) (saC:PySem.W.findIn K (.ref C) "__setattr__" = some (some (.builtin "object.__setattr__"))) (mkC:PySem.W.makesIn K C=true) (kcC:PySem.W.keepIn K (.ref C)=true)
  (nC_base:PySem.W.findIn K (.ref C) "base" = some none)
  (nC_outset:PySem.W.findIn K (.ref C) "outset" = some none)
  (nC_steps:PySem.W.findIn K (.ref C) "steps" = some none)
  (nC_layers:PySem.W.findIn K (.ref C) "layers" = some none)
  {t0:Tok} (g0:PySem.W.nsIn K mainGlobals "LEAST_BASE" = some (some (.int 2 t0)))
  {t1:Tok} (g1:PySem.W.nsIn K mainGlobals "GREATEST_BASE" = some (some (.int 16 t1)))
  {t2:Tok} (g2:PySem.W.nsIn K mainGlobals "MOST_STRETCHES" = some (some (.int 4 t2)))
  {t3:Tok} (g3:PySem.W.nsIn K mainGlobals "LONGEST_STRETCH" = some (some (.int 4 t3)))
  (z0:PySem.W.nsIn K mainGlobals "isinstance" = some none)
  (z1:PySem.W.nsIn K mainGlobals "int" = some none)
  (z2:PySem.W.nsIn K mainGlobals "bool" = some none)
  (z3:PySem.W.nsIn K mainGlobals "list" = some none)
  (z4:PySem.W.nsIn K mainGlobals "tuple" = some none)
  (z5:PySem.W.nsIn K mainGlobals "reversed" = some none)
  (z6:PySem.W.nsIn K mainGlobals "len" = some none)
  (z7:PySem.W.nsIn K mainGlobals "max" = some none)
  (z8:PySem.W.nsIn K mainGlobals "min" = some none)
  (z9:PySem.W.nsIn K mainGlobals "range" = some none)
  (z10:PySem.W.nsIn K mainGlobals "all" = some none)
  (z11:PySem.W.nsIn K mainGlobals "any" = some none)
  (z12:PySem.W.nsIn K mainGlobals "sorted" = some none)
  (z13:PySem.W.nsIn K mainGlobals "enumerate" = some none)
  (z14:PySem.W.nsIn K mainGlobals "repr" = some none)
  (z15:PySem.W.nsIn K mainGlobals "sum" = some none)
  (z16:PySem.W.nsIn K mainGlobals "abs" = some none)
  (z17:PySem.W.nsIn K mainGlobals "zip" = some none)
  (z18:PySem.W.nsIn K mainGlobals "str" = some none)
  : ∃ fd:FuncData,(∀ (s:Shared) (v:Value),BindsTo s fd ⟨[v],[]⟩ [("script",v)])∧∀ base:Heap,K.In base->base.Ns mainGlobals mg->base.BuiltinsAt mg T0->FnOk l.prog w K mg base CX0 12 fa fd ["script"] (Qt K T0):=by
 obtain⟨fL,cd33,aL,od33,an33,sl33,oc33,kV33,dc33,pm33,ct33,lL,eL,kL⟩:=x33
 have e:=hfa.symm.trans (PySem.W.mg_of X G aL)
 cases e
 have T:Blt mg:=⟨PySem.W.mg_none_of X G z0,PySem.W.mg_none_of X G z1,PySem.W.mg_none_of X G z2,PySem.W.mg_none_of X G z3,PySem.W.mg_none_of X G z4,PySem.W.mg_none_of X G z5,PySem.W.mg_none_of X G z6,PySem.W.mg_none_of X G z7,PySem.W.mg_none_of X G z8,PySem.W.mg_none_of X G z9,PySem.W.mg_none_of X G z10,PySem.W.mg_none_of X G z11,PySem.W.mg_none_of X G z12,PySem.W.mg_none_of X G z13,PySem.W.mg_none_of X G z14⟩
 have U:zbT mg:=⟨PySem.W.mg_none_of X G z15,PySem.W.mg_none_of X G z16,PySem.W.mg_none_of X G z17,PySem.W.mg_none_of X G z18⟩
 have jE:=PySem.W.mg_of X G g0
 have uW:=PySem.W.mg_of X G g1
 have ux:=PySem.W.mg_of X G g2
 have vZ:=PySem.W.mg_of X G g3
 obtain⟨_,_,D_wall⟩:=x0.df (ps:=["k"]) X G fun _ _ _ _ _ _=>fb1 fun _=>rfl
 obtain⟨_,_,wM⟩:=x1.df (ps:=["thing"]) X G fun _ _ _ _ _ _=>fb1 fun _=>rfl
 obtain⟨_,_,Y0⟩:=x2.df (ps:=["thing"]) X G fun _ _ _ _ _ _=>fb1 fun _=>rfl
 obtain⟨_,_,jP⟩:=x3.df (ps:=["base","thing"]) X G fun _ _ _ _ _ _=>fb2 fun _ _=>rfl
 obtain⟨_,_,tL⟩:=x4.df (ps:=["base","thing"]) X G fun _ _ _ _ _ _=>fb2 fun _ _=>rfl
 obtain⟨_,_,jd⟩:=x5.df (ps:=["base","thing"]) X G fun _ _ _ _ _ _=>fb2 fun _ _=>rfl
 obtain⟨_,_,qd⟩:=x6.df (ps:=["stretches"]) X G fun _ _ _ _ _ _=>fb1 fun _=>rfl
 obtain⟨_,_,tQ⟩:=x7.df (ps:=["base","thing"]) X G fun _ _ _ _ _ _=>fb2 fun _ _=>rfl
 obtain⟨_,_,YQ⟩:=x8.df (ps:=["thing"]) X G fun _ _ _ _ _ _=>fb1 fun _=>rfl
 obtain⟨_,_,wH⟩:=x9.df (ps:=["thing"]) X G fun _ _ _ _ _ _=>fb1 fun _=>rfl
 obtain⟨_,_,wD⟩:=x10.df (ps:=["stretch","figures"]) X G fun _ _ _ _ _ _=>fb2 fun _ _=>rfl
 obtain⟨_,_,xq⟩:=x11.df (ps:=["bad","figures"]) X G fun _ _ _ _ _ _=>fb2 fun _ _=>rfl
 obtain⟨_,_,uM⟩:=x12.df (ps:=["bad","figures"]) X G fun _ _ _ _ _ _=>fb2 fun _ _=>rfl
 obtain⟨_,_,uh⟩:=x13.df (ps:=["bad","figures"]) X G fun _ _ _ _ _ _=>fb2 fun _ _=>rfl
 have jW:Df K mg "stands_of" yj ["bad"] _ _:=zcS X G a14 l14 e14 k14 fun _ _ _ _ _ _=>fb1 fun _=>rfl
 obtain⟨_,_,uF⟩:=x15.df (ps:=["bad","stands","figures"]) X G fun _ _ _ _ _ _=>fb3 fun _ _ _=>rfl
 obtain⟨_,_,qT⟩:=x16.df (ps:=["rule","stands","stand"]) X G fun _ _ _ _ _ _=>fb3 fun _ _ _=>rfl
 obtain⟨_,_,jG⟩:=x17.df (ps:=["rule","stands"]) X G fun _ _ _ _ _ _=>fb2 fun _ _=>rfl
 obtain⟨_,_,wu⟩:=x18.df (ps:=["rule"]) X G fun _ _ _ _ _ _=>fb1 fun _=>rfl
 obtain⟨_,_,zR⟩:=x19.df (ps:=["rule"]) X G fun _ _ _ _ _ _=>fb1 fun _=>rfl
 obtain⟨_,_,qe⟩:=x20.df (ps:=["script"]) X G fun _ _ _ _ _ _=>fb1 fun _=>rfl
 obtain⟨_,_,zE⟩:=x21.df (ps:=["deck","many"]) X G fun _ _ _ _ _ _=>fb2 fun _ _=>rfl
 obtain⟨_,_,xV⟩:=x22.df (ps:=["deck"]) X G fun _ _ _ _ _ _=>fb1 fun _=>rfl
 obtain⟨_,_,jB⟩:=x23.df (ps:=["rule"]) X G fun _ _ _ _ _ _=>fb1 fun _=>rfl
 obtain⟨_,_,yU⟩:=x24.df (ps:=["bad","end","figure"]) X G fun _ _ _ _ _ _=>fb3 fun _ _ _=>rfl
 obtain⟨_,_,uO⟩:=x25.df (ps:=["rule"]) X G fun _ _ _ _ _ _=>fb1 fun _=>rfl
 obtain⟨_,_,xF⟩:=x26.df (ps:=["deck"]) X G fun _ _ _ _ _ _=>fb1 fun _=>rfl
 obtain⟨_,_,uQ⟩:=x27.df (ps:=["caught","due"]) X G fun _ _ _ _ _ _=>fb2 fun _ _=>rfl
 obtain⟨_,_,zV⟩:=x28.df (ps:=["steps","some"]) X G fun _ _ _ _ _ _=>fb2 fun _ _=>rfl
 obtain⟨_,_,wZ⟩:=x29.df (ps:=["steps"]) X G fun _ _ _ _ _ _=>fb1 fun _=>rfl
 obtain⟨_,_,jt⟩:=x30.df (ps:=["rule","steps"]) X G fun _ _ _ _ _ _=>fb2 fun _ _=>rfl
 obtain⟨_,_,qx⟩:=x31.df (ps:=["rule"]) X G fun _ _ _ _ _ _=>fb1 fun _=>rfl
 obtain⟨_,_,qW⟩:=x32.df (ps:=["rule"]) X G fun _ _ _ _ _ _=>fb1 fun _=>rfl
 have Dlaw:Df K mg "law" Va ["script"] _ _:=zcS X G aL lL eL kL fun _ _ _ _ _ _=>fb1 fun _=>rfl
 obtain⟨_,_,uY⟩:=yC0.mt (ps:=["self","rule"]) fun _ _ _ _ _ _=>fb2 fun _ _=>rfl
 have XJ:Mk K C _:=let ⟨a,i,_⟩:=uY.m;⟨mkC,a,i,kcC⟩
 have Xj:=uY.b
 obtain⟨_,_,yO⟩:=yC1.mt (ps:=["self","left"]) fun _ _ _ _ _ _=>fb2 fun _ _=>rfl
 obtain⟨_,_,zN⟩:=yC2.mt (ps:=["self","layer","place","stop"]) fun _ _ _ _ _ _ us hl=>match us,hl with | [_,_,_,_],_=>rfl
 obtain⟨_,_,yr⟩:=yC3.mt (ps:=["self","place","stop","left"]) fun _ _ _ _ _ _ us hl=>match us,hl with | [_,_,_,_],_=>rfl
 obtain⟨_,_,zaT⟩:=yC4.mt (ps:=["self","figures"]) fun _ _ _ _ _ _=>fb2 fun _ _=>rfl
 obtain⟨_,_,zY⟩:=yC5.mt (ps:=["self","size"]) fun _ _ _ _ _ _=>fb2 fun _ _=>rfl
 obtain⟨_,_,wK⟩:=yC6.mt (ps:=["self","place","k","left"]) fun _ _ _ _ _ _ us hl=>match us,hl with | [_,_,_,_],_=>rfl
 obtain⟨_,_,wQ⟩:=yC7.mt (ps:=["self","size","k"]) fun _ _ _ _ _ _=>fb3 fun _ _ _=>rfl
 obtain⟨_,_,yo⟩:=yC8.mt (ps:=["self"]) fun _ _ _ _ _ _=>fb1 fun _=>rfl
 have zB:ClT K mg C:=⟨⟨pgC,hdC,poC,saC⟩,PySem.W.mg_of X G aC,nC_base,nC_outset,nC_steps,nC_layers⟩
 refine⟨PySem.W.fnOf "law" "law" (wN Va) (yR Va) (zq Va) .none kV33 dc33 pm33 an33 cd33 ct33,fun s v=>.of_eq rfl,fun base _ _ hBM=>?_⟩
 have XN:zab mg CNoBase CNoNumber CNoFigures CNoRule CNoStand CNoGood CEndless CNoRules CNoStretch CTooMany CNoText CNoName CNoRow:=⟨PySem.W.mg_of X G qNoBase.g,PySem.W.mg_of X G qNoNumber.g,PySem.W.mg_of X G qNoFigures.g,PySem.W.mg_of X G qNoRule.g,PySem.W.mg_of X G qNoStand.g,PySem.W.mg_of X G qNoGood.g,PySem.W.mg_of X G qEndless.g,PySem.W.mg_of X G qNoRules.g,PySem.W.mg_of X G qNoStretch.g,PySem.W.mg_of X G qTooMany.g,PySem.W.mg_of X G qNoText.g,PySem.W.mg_of X G qNoName.g,PySem.W.mg_of X G qNoRow.g⟩
 have n_ValueError:mg "ValueError" = none:=PySem.W.mg_none_of X G nVE
 have h_LackError:Qv K mg "LackError" CLackError:=⟨PySem.W.mg_of X G qLackError.g,mLE⟩
 have x_Endless:zeU K mg "Endless" CEndless:=⟨PySem.W.mg_of X G qEndless.g,pEndless⟩
 have kt_Endless:PySem.W.kitCls K (.ref CEndless) (.ref CLackError)=some true:=qLackError.cls lEndless
 have kd_Endless:zcR K CEndless CNoBase CNoNumber CNoFigures CNoRule CNoStand CNoGood CEndless CNoRules CNoStretch CTooMany CNoText CNoName CNoRow 6:=⟨iEndless,zeE vEndless,qNoBase.no mEndless_Endless mEndless_NoBase,qNoNumber.no mEndless_Endless mEndless_NoNumber,qNoFigures.no mEndless_Endless mEndless_NoFigures,qNoRule.no mEndless_Endless mEndless_NoRule,qNoStand.no mEndless_Endless mEndless_NoStand,qNoGood.no mEndless_Endless mEndless_NoGood,zcp,qNoRules.no mEndless_Endless mEndless_NoRules,qNoStretch.no mEndless_Endless mEndless_NoStretch,qTooMany.no mEndless_Endless mEndless_TooMany,qNoText.no mEndless_Endless mEndless_NoText,qNoName.no mEndless_Endless mEndless_NoName,qNoRow.no mEndless_Endless mEndless_NoRow⟩
 have ZQ:FnOk l.prog w K mg base CX0 1 _ _ ["thing"] jh:=Ze wM T
 have W6:FnOk l.prog w K mg base CX0 2 _ _ ["thing"] Yh:=zax Y0 wM T jE uW
 have Vi:FnOk l.prog w K mg base CX0 1 _ _ ["script"] (jV K):=YS qe T
 have zK:FnOk l.prog w K mg base CX0 1 _ _ ["deck","many"] vV:=tW zE T
 have YB:FnOk l.prog w K mg base CX0 2 _ _ ["base","thing"] jU:=QQ jP wM T
 have jQ:FnOk l.prog w K mg base CX0 3 _ _ ["base","thing"] qH:=W4 tL jP YB T
 have Zv:FnOk l.prog w K mg base CX0 4 _ _ ["base","thing"] jn:=VM jd tL jQ vZ T
 have W7:FnOk l.prog w K mg base CX0 1 _ _ ["stretches"] j0:=YZ qd T
 have jM:FnOk l.prog w K mg base CX0 5 _ _ ["base","thing"] qg:=Vp tQ jd Zv qd ux T
 have Vz:FnOk l.prog w K mg base CX0 6 _ _ ["thing"] Yy:=zau YQ Y0 W6 tQ jM T
 have vC:FnOk l.prog w K mg base CX0 7 _ _ ["thing"] uH:=VN wH YQ Vz
 have Zw:FnOk l.prog w K mg base CX0 1 _ _ ["stretch","figures"] ut:=jr wD T
 have xQ:FnOk l.prog w K mg base CX0 2 _ _ ["bad","figures"] vU:=Qh xq wD T
 have Wb:FnOk l.prog w K mg base CX0 1 _ _ ["bad","figures"] jm:=Yg uM T
 have qI:FnOk l.prog w K mg base CX0 3 _ _ ["bad","figures"] uq:=XR uh xq xQ uM T
 have Yz:FnOk l.prog w K mg base CX0 6 _ _ ["bad"] (jF T0):=QK jW rfl hcT hBM hgT xq xQ T
 have jl:FnOk l.prog w K mg base CX0 4 _ _ ["bad","stands","figures"] tE:=Wk uF uh qI
 have Zg:FnOk l.prog w K mg base CX0 5 _ _ ["rule","stands","stand"] jq:=VR qT uF jl T
 have Yq:FnOk l.prog w K mg base CX0 6 _ _ ["rule","stands"] jN:=QH jG qT Zg T
 have vQ:FnOk l.prog w K mg base CX0 1 _ _ ["self","layer","place","stop"] (jX C):=Yt zN zB T U
 have tV:FnOk l.prog w K mg base CX0 2 _ _ ["self","left"] (YD C):=VD yO zN zB T U
 have yK:FnOk l.prog w K mg base CX0 3 _ _ ["self","place","stop","left"] (uL C):=VV yr yO zN zB T U
 have yp:FnOk l.prog w K mg base CX0 3 _ _ ["self","size"] (vW C):=Wx zY yO zN zB T U
 have uz:FnOk l.prog w K mg base CX0 4 _ _ ["self","place","k","left"] (jZ C):=Qx wK yr yK zB T
 have uC:FnOk l.prog w K mg base CX0 5 _ _ ["self","size","k"] (jK C):=Qy wQ yr yK wK uz zB T
 have vG:FnOk l.prog w K mg base CX0 7 _ _ ["self","rule"] (Zc T0 C):=zcq uY jW Yz jG Yq xq xQ zB T
 have yz:FnOk l.prog w K mg base CX0 4 _ _ ["self"] (ud C):=Vv yo zY yp zB
 have j7:FnOk l.prog w K mg base CX0 2 _ _ ["deck"] vR:=qZ xV zE T
 have jA:FnOk l.prog w K mg base CX0 2 _ _ ["deck"] vp:=qF xF zE T
 have Y8:FnOk l.prog w K mg base CX0 1 _ _ ["bad","end","figure"] qO:=Zh yU T
 have X4:FnOk l.prog w K mg base CX0 2 _ _ ["rule"] (jo l.prog w):=Z4 uO yU T
 have vH:FnOk l.prog w K mg base CX0 9 _ _ ["rule"] (uK T0):=V8 wu wH vC XJ Xj vG yo yz zB
 have zX:FnOk l.prog w K mg base (CX1 l.prog w) 9 _ _ ["rule"] (xM T0 CEndless):=Xr zR wH vC XJ Xj vG yo yz zY yp wQ uC zB x_Endless
 have v9:FnOk l.prog w K mg base CX0 1 _ _ ["steps","some"] (wW l.prog w):=tH zV T
 have Z9:FnOk l.prog w K mg base CX0 2 _ _ ["steps"] (uZ l.prog w):=j6 wZ zV T
 have UJ:FnOk l.prog w K mg base CX0 1 _ _ ["rule","steps"] (Zx l.prog w):=X6 jt T
 have Ua:FnOk l.prog w K mg base CX0 1 _ _ ["rule"] Zj:=Wa jB T
 have Vo:FnOk l.prog w K mg base CX0 10 _ _ ["rule"] (jY T0 CEndless):=Xb qx zR zX h_LackError kt_Endless
 have X3:FnOk l.prog w K mg base CX0 1 _ _ ["caught","due"] (jk K CNoBase CNoNumber CNoFigures CNoRule CNoStand CNoGood CEndless CNoRules CNoStretch CTooMany CNoText CNoName CNoRow):=Z7 uQ XN n_ValueError T
 have Zy:FnOk l.prog w K mg base CX0 11 _ _ ["rule"] (ji T0):=VH qW jB uO yU wZ zV jt wu vH zR zX qx uQ XN n_ValueError h_LackError kt_Endless kd_Endless T U
 exact zeu Dlaw qe xV xF qW Zy wu vH zR zX zE T
theorem walk2 {l:PySem.W.OpenLaw} {q:Program} {loose:List Str} {XP:(Str->Option Value)->Heap->Prop} {YP:World->Heap->Prop} {d:DefRec} {K:Params->PySem.W.Frag} {c T0:Addr} (hn:l.most=some 63) (hdf:d.params.defaults=[])
  (hY:∀ (w:World) (h:Heap),YP w h->(K w.params).In h) (hYT:∀ (w:World) (h:Heap),YP w h->h.get? T0=some (PySem.W.tabObj #[])) (hKT:∀ w:World,(K w.params).lookup T0=none) (hcT:∀ w:World,PySem.W.codeHdIn (K w.params) c T0=true)
  (F:∀ (w:World) (mg:Str->Option Value) (fa:Addr) (h:Heap),(K w.params).In h->h.Ns mainGlobals mg->mg d.name=some (.ref fa) ->
   ∃ fd:FuncData,(∀ (s:Shared) (u:Value),BindsTo s fd ⟨[u],[]⟩ [("script",u)])∧∀ base:Heap,(K w.params).In base->base.Ns mainGlobals mg->base.BuiltinsAt mg T0->FnOk l.prog w (K w.params) mg base CX0 12 fa fd ["script"] (Qt (K w.params) T0)) :
  PySem.W.WalkO q loose XP YP l.row.toRowW d [] (fun f vs=>PySem.call f vs) :=
 L2.zfn (n:=63) (k:=12) (x:="script") (sp:=fun w=>Qt (K w.params) T0) hn (by decide) hdf ⟨rfl,by decide,by decide,rfl⟩ hY hYT hKT hcT F (fun w H a ns hl hT hS=>⟨a,ns,rfl,hS,hl,.inl hT,fun _=>rfl⟩)
end Lw
open PySem PySem.W PyProof.Rows
set_option maxRecDepth 100000 in
set_option maxHeartbeats 0 in
theorem PySem.Challenge.cw_lackstretch_k24_endless_or_the_greatest_holds : PySem.Challenge.rw_lackstretch_k24_endless_or_the_greatest.Holds := by
 w_on;o_law;k_head;(case hw=>w_witness2)
 k_fill
 refine Lw.walk2 (l:=PySem.Challenge.rw_lackstretch_k24_endless_or_the_greatest) (c:=275) (T0:=271) rfl rfl (fun w h Y=>PySem.W.km_in_of Y) (fun w h Y=>PySem.W.km_tabs_of Y 271 (by decide)) (fun w=>by kernel_rfl) (fun w=>by kernel_rfl) ?F
 case F =>
  intro w mg fa h KX G hmg
  refine' Lw.zeY (c0:=275) (T0:=271) KX G hmg (by kernel_rfl) (by decide) ?yyx0 ?yyx1 ?yyx2 ?yyx3 ?yyx4 ?yyx5 ?yyx6 ?yyx7 ?yyx8 ?yyx9 ?yyx10 ?yyx11 ?yyx12 ?yyx13 ?yya14 ?yyl14 ?yye14 ?yyk14 ?yyx15 ?yyx16 ?yyx17 ?yyx18 ?yyx19 ?yyx20 ?yyx21 ?yyx22 ?yyx23 ?yyx24 ?yyx25 ?yyx26 ?yyx27 ?yyx28 ?yyx29 ?yyx30 ?yyx31 ?yyx32 ?yyx33 ?yyqNoBase ?yyqNoNumber ?yyqNoFigures ?yyqNoRule ?yyqNoStand ?yyqNoGood ?yyqEndless ?yyqNoRules ?yyqNoStretch ?yyqTooMany ?yyqNoText ?yyqNoName ?yyqNoRow ?yyqLackError ?yymLE ?yynVE ?yypEndless ?yylEndless ?yyiEndless ?yyvEndless ?yymEndless_NoBase ?yymEndless_NoNumber ?yymEndless_NoFigures ?yymEndless_NoRule ?yymEndless_NoStand ?yymEndless_NoGood ?yymEndless_Endless ?yymEndless_NoRules ?yymEndless_NoStretch ?yymEndless_TooMany ?yymEndless_NoText ?yymEndless_NoName ?yymEndless_NoRow ?yyaC ?yyyC0 ?yyyC1 ?yyyC2 ?yyyC3 ?yyyC4 ?yyyC5 ?yyyC6 ?yyyC7 ?yyyC8 ?yypgC ?yyhdC ?yypoC ?yysaC ?yymkC ?yykcC ?yynC_base ?yynC_outset ?yynC_steps ?yynC_layers ?yyg0 ?yyg1 ?yyg2 ?yyg3 ?yyz0 ?yyz1 ?yyz2 ?yyz3 ?yyz4 ?yyz5 ?yyz6 ?yyz7 ?yyz8 ?yyz9 ?yyz10 ?yyz11 ?yyz12 ?yyz13 ?yyz14 ?yyz15 ?yyz16 ?yyz17 ?yyz18
  (case yyx0=>refine' Lw.fdm ?_ ?_ ?_ ?_<;>try k_is)
  (case yyx1=>refine' Lw.fdm ?_ ?_ ?_ ?_<;>try k_is)
  (case yyx2=>refine' Lw.fdm ?_ ?_ ?_ ?_<;>try k_is)
  (case yyx3=>refine' Lw.fdm ?_ ?_ ?_ ?_<;>try k_is)
  (case yyx4=>refine' Lw.fdm ?_ ?_ ?_ ?_<;>try k_is)
  (case yyx5=>refine' Lw.fdm ?_ ?_ ?_ ?_<;>try k_is)
  (case yyx6=>refine' Lw.fdm ?_ ?_ ?_ ?_<;>try k_is)
  (case yyx7=>refine' Lw.fdm ?_ ?_ ?_ ?_<;>try k_is)
  (case yyx8=>refine' Lw.fdm ?_ ?_ ?_ ?_<;>try k_is)
  (case yyx9=>refine' Lw.fdm ?_ ?_ ?_ ?_<;>try k_is)
  (case yyx10=>refine' Lw.fdm ?_ ?_ ?_ ?_<;>try k_is)
  (case yyx11=>refine' Lw.fdm ?_ ?_ ?_ ?_<;>try k_is)
  (case yyx12=>refine' Lw.fdm ?_ ?_ ?_ ?_<;>try k_is)
  (case yyx13=>refine' Lw.fdm ?_ ?_ ?_ ?_<;>try k_is)
  (case yya14=>k_is)
  (case yyl14=>k_is)
  (case yye14=>k_is)
  (case yyk14=>k_is)
  (case yyx15=>refine' Lw.fdm ?_ ?_ ?_ ?_<;>try k_is)
  (case yyx16=>refine' Lw.fdm ?_ ?_ ?_ ?_<;>try k_is)
  (case yyx17=>refine' Lw.fdm ?_ ?_ ?_ ?_<;>try k_is)
  (case yyx18=>refine' Lw.fdm ?_ ?_ ?_ ?_<;>try k_is)
  (case yyx19=>refine' Lw.fdm ?_ ?_ ?_ ?_<;>try k_is)
  (case yyx20=>refine' Lw.fdm ?_ ?_ ?_ ?_<;>try k_is)
  (case yyx21=>refine' Lw.fdm ?_ ?_ ?_ ?_<;>try k_is)
  (case yyx22=>refine' Lw.fdm ?_ ?_ ?_ ?_<;>try k_is)
  (case yyx23=>refine' Lw.fdm ?_ ?_ ?_ ?_<;>try k_is)
  (case yyx24=>refine' Lw.fdm ?_ ?_ ?_ ?_<;>try k_is)
  (case yyx25=>refine' Lw.fdm ?_ ?_ ?_ ?_<;>try k_is)
  (case yyx26=>refine' Lw.fdm ?_ ?_ ?_ ?_<;>try k_is)
  (case yyx27=>refine' Lw.fdm ?_ ?_ ?_ ?_<;>try k_is)
  (case yyx28=>refine' Lw.fdm ?_ ?_ ?_ ?_<;>try k_is)
  (case yyx29=>refine' Lw.fdm ?_ ?_ ?_ ?_<;>try k_is)
  (case yyx30=>refine' Lw.fdm ?_ ?_ ?_ ?_<;>try k_is)
  (case yyx31=>refine' Lw.fdm ?_ ?_ ?_ ?_<;>try k_is)
  (case yyx32=>refine' Lw.fdm ?_ ?_ ?_ ?_<;>try k_is)
  (case yyx33=>refine' Lw.fdm ?_ ?_ ?_ ?_<;>try k_is)
  (case yyqNoBase=>refine' ⟨?_,?_,?_⟩<;>try k_is)
  (case yyqNoNumber=>refine' ⟨?_,?_,?_⟩<;>try k_is)
  (case yyqNoFigures=>refine' ⟨?_,?_,?_⟩<;>try k_is)
  (case yyqNoRule=>refine' ⟨?_,?_,?_⟩<;>try k_is)
  (case yyqNoStand=>refine' ⟨?_,?_,?_⟩<;>try k_is)
  (case yyqNoGood=>refine' ⟨?_,?_,?_⟩<;>try k_is)
  (case yyqEndless=>refine' ⟨?_,?_,?_⟩<;>try k_is)
  (case yyqNoRules=>refine' ⟨?_,?_,?_⟩<;>try k_is)
  (case yyqNoStretch=>refine' ⟨?_,?_,?_⟩<;>try k_is)
  (case yyqTooMany=>refine' ⟨?_,?_,?_⟩<;>try k_is)
  (case yyqNoText=>refine' ⟨?_,?_,?_⟩<;>try k_is)
  (case yyqNoName=>refine' ⟨?_,?_,?_⟩<;>try k_is)
  (case yyqNoRow=>refine' ⟨?_,?_,?_⟩<;>try k_is)
  (case yyqLackError=>refine' ⟨?_,?_,?_⟩<;>try k_is)
  (case yymLE=>k_is)
  (case yynVE=>k_is)
  (case yypEndless=>k_exc)
  (case yylEndless=>k_is)
  (case yyiEndless=>refine' ⟨?_,?_,?_,?_,?_,?_,?_⟩<;>k_is)
  (case yyvEndless=>k_is)
  (case yymEndless_NoBase=>k_is)
  (case yymEndless_NoNumber=>k_is)
  (case yymEndless_NoFigures=>k_is)
  (case yymEndless_NoRule=>k_is)
  (case yymEndless_NoStand=>k_is)
  (case yymEndless_NoGood=>k_is)
  (case yymEndless_Endless=>k_is)
  (case yymEndless_NoRules=>k_is)
  (case yymEndless_NoStretch=>k_is)
  (case yymEndless_TooMany=>k_is)
  (case yymEndless_NoText=>k_is)
  (case yymEndless_NoName=>k_is)
  (case yymEndless_NoRow=>k_is)
  (case yyaC=>k_is)
  (case yyyC0=>refine' Lw.fmm ?_ ?_ ?_ ?_ ?_<;>try k_is)
  (case yyyC1=>refine' Lw.fmm ?_ ?_ ?_ ?_ ?_<;>try k_is)
  (case yyyC2=>refine' Lw.fmm ?_ ?_ ?_ ?_ ?_<;>try k_is)
  (case yyyC3=>refine' Lw.fmm ?_ ?_ ?_ ?_ ?_<;>try k_is)
  (case yyyC4=>refine' Lw.fmm ?_ ?_ ?_ ?_ ?_<;>try k_is)
  (case yyyC5=>refine' Lw.fmm ?_ ?_ ?_ ?_ ?_<;>try k_is)
  (case yyyC6=>refine' Lw.fmm ?_ ?_ ?_ ?_ ?_<;>try k_is)
  (case yyyC7=>refine' Lw.fmm ?_ ?_ ?_ ?_ ?_<;>try k_is)
  (case yyyC8=>refine' Lw.fmm ?_ ?_ ?_ ?_ ?_<;>try k_is)
  (case yypgC=>k_is)
  (case yyhdC=>k_is)
  (case yypoC=>k_is)
  (case yysaC=>k_is)
  (case yymkC=>k_is)
  (case yykcC=>k_is)
  (case yynC_base=>k_is)
  (case yynC_outset=>k_is)
  (case yynC_steps=>k_is)
  (case yynC_layers=>k_is)
  (case yyg0=>k_is)
  (case yyg1=>k_is)
  (case yyg2=>k_is)
  (case yyg3=>k_is)
  (case yyz0=>k_is)
  (case yyz1=>k_is)
  (case yyz2=>k_is)
  (case yyz3=>k_is)
  (case yyz4=>k_is)
  (case yyz5=>k_is)
  (case yyz6=>k_is)
  (case yyz7=>k_is)
  (case yyz8=>k_is)
  (case yyz9=>k_is)
  (case yyz10=>k_is)
  (case yyz11=>k_is)
  (case yyz12=>k_is)
  (case yyz13=>k_is)
  (case yyz14=>k_is)
  (case yyz15=>k_is)
  (case yyz16=>k_is)
  (case yyz17=>k_is)
  (case yyz18=>k_is)
