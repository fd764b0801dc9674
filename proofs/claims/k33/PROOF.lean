import PyProof.Rows.All
import Wide.All
import OpenK.AllK
import Wide.FinOn
import Lean
import PyProof.EqAt
import PyProof.EqKinds
import PyProof.TupleCall
import PyProof.NeKinds
import KE.KRevSl
import KE.KRevIter
import PyProof.ConsumeWalk
import PyProof.ReprRoads
import PyProof.CallFns
import KE.KSortAsk
import KE.KSortTup
import KE.KDictSum
import PyProof.Rows.SumAny
import PyProof.EnumStmt
import PyProof.EnumMake
import PyProof.Rows.EnumRows
import PyProof.Rows.FactsN_abs
import PyProof.ReprLen
import PyProof.ZipIter
import PyProof.Rows.ZipGen
import PyProof.StrCalls2
import PyProof.PureStr
import PyProof.CallStr
import PyProof.StrLoop
import PyProof.StrWalks
import PyProof.RulesTry
import PyProof.StrOps
import KE.KLam
import PyProof.LongRange
import PySem.Challenge.RW_lackstretch_k33_what_a_keeper_refuses
set_option Elab.async false
set_option linter.all false
set_option maxRecDepth 100000
abbrev Aa:List PySem.Str:=["thing"]
abbrev Ab:List PySem.Str:=["base","thing"]
abbrev Ac:List PySem.Str:=["bad","figures"]
abbrev Ad:List PySem.Str:=["store","many"]
abbrev Ae:List PySem.Str:=["rule"]
abbrev Af:List PySem.Str:=["self","n"]
abbrev Ag:List PySem.Str:=["store"]
abbrev Ah:List PySem.Str:=["store","base"]
abbrev Ai:List PySem.Str:=["self","stretch"]
abbrev Aj:List PySem.Str:=["store","base","few"]
abbrev Ak:List PySem.Str:=["self","rule","b"]
abbrev Al:List PySem.Str:=["self","layer","place","stop"]
abbrev Am:List PySem.Str:=["self","rule"]
abbrev An:List PySem.Str:=["self","bad"]
abbrev Ao:List PySem.Str:=["e","due"]
abbrev Ap:List PySem.Str:=["keeper","door","thing"]
abbrev Aq:List PySem.Str:=["stretches"]
abbrev Ar:List PySem.Str:=["script","k"]
abbrev As:List PySem.Str:=["rule","stands","stand"]
abbrev At:List PySem.Str:=["self","place","stop","left"]
abbrev Au:List PySem.Str:=["self","k"]
abbrev Av:List PySem.Str:=["keeper"]
abbrev Aw:List PySem.Str:=["stretch","figures"]
abbrev Ax:List PySem.Str:=["base","n"]
abbrev Ay:List PySem.Str:=["store","rule"]
abbrev Az:List PySem.Str:=["bad","stands","figures"]
abbrev A0:List PySem.Str:=["rule","stands"]
abbrev A4:List PySem.Str:=["self","left"]
abbrev A6:List PySem.Str:=["self","figures"]
abbrev A7:List PySem.Str:=["tails","k"]
abbrev A8:List PySem.Str:=["rule","b"]
abbrev A9:List PySem.Str:=["store","keeper","rule"]
abbrev Ba:List PySem.Str:=["bad","found","stretch","size","stand"]
abbrev ZA:=List (List Int)
abbrev ZB:=List (PySem.Addr×List Int)
namespace L2
open PySem PySem.Spec PyProof.Rows
abbrev Key:=Sum Int Str
def QS:Key->Value->Bool
 | .inl k,v=>Value.isInt k v
 | .inr x,v=>Value.isStrOf x v
def zgV (w:World):Key->Int
 | .inl k=>hashInt k
 | .inr x=>hashStr w x
theorem xm:∀ {k:Key} {v:Value},QS k v=true->(∃ i t,k=Sum.inl i/\v=Value.int i t)\/(∃ x t,k=Sum.inr x/\v=Value.str x t)
 | .inl i,v,h=>by
  obtain⟨t,e⟩:=Value.isInt_shape (k:=i) (v:=v) h
  exact .inl ⟨i,t,rfl,e⟩
 | .inr x,v,h=>by
  obtain⟨t,e⟩:=Value.isStrOf_shape (x:=x) (v:=v) h
  exact .inr ⟨x,t,rfl,e⟩
theorem zcx (i:Int) (t:Tok):QS (.inl i) (.int i t)=true:=by simp [QS,Value.isInt]
theorem zcr (x:Str) (t:Tok):QS (.inr x) (.str x t)=true:=by simp [QS,Value.isStrOf]
theorem zfr (a b:Int):decide ((Sum.inl a:Key)=Sum.inl b)=(a == b):=by
 by_cases e:a=b
 ·subst e;simp
 ·have h:¬ (Sum.inl a:Key)=Sum.inl b:=λq=>e (Sum.inl.inj q)
  rw [decide_eq_false h]
  exact (beq_eq_false_iff_ne.mpr e).symm
theorem zfM (a b:Str):decide ((Sum.inr a:Key)=Sum.inr b)=decide (a=b):=by
 by_cases e:a=b
 ·subst e;simp
 ·have h:¬ (Sum.inr a:Key)=Sum.inr b:=λq=>e (Sum.inr.inj q)
  rw [decide_eq_false h,decide_eq_false e]
theorem zfg (a:Int) (b:Str):decide ((Sum.inl a:Key)=Sum.inr b)=false:=decide_eq_false (λq=>nomatch q)
theorem zfy (a:Str) (b:Int):decide ((Sum.inr a:Key)=Sum.inl b)=false:=decide_eq_false (λq=>nomatch q)
def xK (prog:Program) (w:World):PySem.KeyKind prog w Key where
 is:=QS
 hash:=zgV w
 inj:=λv a b ha hb=>by
  rcases xm ha with ⟨i,t,rfl,rfl⟩ | ⟨x,t,rfl,rfl⟩
  ·rcases xm hb with ⟨j,u,rfl,e⟩ | ⟨y,u,rfl,e⟩
   ·injection e with e1 _;rw [e1]
   ·exact nomatch e
  ·rcases xm hb with ⟨j,u,rfl,e⟩ | ⟨y,u,rfl,e⟩
   ·exact nomatch e
   ·injection e with e1 _;rw [e1]
 byValue:=λk v h=>by
  rcases xm h with ⟨i,t,rfl,rfl⟩ | ⟨x,t,rfl,rfl⟩<;>rfl
 pyHash:=λhv h=>by
  rcases xm hv with ⟨i,t,rfl,rfl⟩ | ⟨x,t,rfl,rfl⟩
  ·exact wpAny_pyHash_int h
  ·exact wpAny_pyHash_str h
 eqBool:=λhu hv h=>by
  rcases xm hu with ⟨i,t,rfl,rfl⟩ | ⟨x,t,rfl,rfl⟩
  ·rcases xm hv with ⟨j,u,rfl,rfl⟩ | ⟨y,u,rfl,rfl⟩
   ·rw [zfr] at h;exact wpAny_eqBool_int h
   ·rw [zfg] at h;exact SeqAt.EqAt.int_str i t y u _ _ _ _ h
  ·rcases xm hv with ⟨j,u,rfl,rfl⟩ | ⟨y,u,rfl,rfl⟩
   ·rw [zfy] at h;exact SeqAt.EqAt.str_int x t j u _ _ _ _ h
   ·rw [zfM] at h;exact wpAny_eqBool_str h
 «strs»:=λk x t v h=>by
  rcases xm h with ⟨i,u,rfl,e⟩ | ⟨y,u,rfl,e⟩
  ·exact nomatch e
  ·injection e with e1 _
   subst e1
   cases v<;>rfl
theorem zay (prog:Program) (w:World) (i:Int) (t:Tok):(xK prog w).is (.inl i) (.int i t)=true:=zcx i t
theorem zaa (prog:Program) (w:World) (x:Str) (t:Tok):(xK prog w).is (.inr x) (.str x t)=true:=zcr x t
inductive V where
 | non | bl (b:Bool) | int (i:Int) | str (x:Str) | byt (b:Array UInt8) | flt (b:UInt64) | ref (a:Addr) | ty (n:String)
 deriving DecidableEq
def RelV:V->Value->Prop
 | .non,u=>u=Value.none
 | .bl b,u=>u=Value.bool b
 | .int i,u=>∃ t,u=Value.int i t
 | .str x,u=>∃ t,u=Value.str x t
 | .byt b,u=>∃ t,u=Value.bytes b t
 | .flt b,u=>∃ t,u=Value.float b t
 | .ref a,u=>u=Value.ref a
 | .ty n,u=>u=Value.type n
abbrev Vals:List V->List Value->Prop:=Paired RelV
theorem Vals.length {xs:List V} {us:List Value} (r:Vals xs us):xs.length=us.length:=Paired.length r
theorem Vals.get:∀ {xs:List V} {us:List Value} {i:Nat} {x:V},Vals xs us->xs[i]?=some x->∃ u,us[i]?=some u/\RelV x u
 | _,_,_,_,.nil,e=>by simp at e
 | _,_,0,_,.cons r _,e=>by simp at e;subst e;exact⟨_,rfl,r⟩
 | _,_,i+1,x,.cons _ t,e=>by
  obtain⟨u,h1,h2⟩:=Vals.get (i:=i) (x:=x) t (by simpa using e)
  exact⟨u,by simpa using h1,h2⟩
theorem Vals.set {x:V} {u:Value} (r:RelV x u):∀ {xs:List V} {us:List Value} (i:Nat),Vals xs us->Vals (xs.set i x) (us.set i u)
 | _,_,_,.nil=>.nil
 | _,_,0,.cons _ t=>.cons r t
 | _,_,i+1,.cons q t=>.cons q (Vals.set r i t)
theorem Vals.append:∀ {xs ys:List V} {us ws:List Value},Vals xs us->Vals ys ws->Vals (xs++ys) (us++ws)
 | _,_,_,_,.nil,s=>s
 | _,_,_,_,.cons r t,s=>.cons r (Vals.append t s)
theorem Vals.take:∀ {xs:List V} {us:List Value} (n:Nat),Vals xs us->Vals (xs.take n) (us.take n)
 | _,_,0,_=>.nil
 | _,_,_+1,.nil=>.nil
 | _,_,n+1,.cons r t=>.cons r (Vals.take n t)
theorem Vals.drop:∀ {xs:List V} {us:List Value} (n:Nat),Vals xs us->Vals (xs.drop n) (us.drop n)
 | _,_,0,r=>r
 | _,_,_+1,.nil=>.nil
 | _,_,n+1,.cons _ t=>Vals.drop n t
theorem Vals.none_of:∀ {xs:List V} {us:List Value} {i:Nat},Vals xs us->xs[i]?=none->us[i]?=none:=λ{xs us i} r e=>by
 have h1:=r.length
 have h2:xs.length<=i:=List.getElem?_eq_none_iff.mp e
 exact List.getElem?_eq_none_iff.mpr (by omega)
def RelO:Option V->Option Value->Prop
 | some v,some u=>RelV v u
 | none,none=>True
 | _,_=>False
def KV {κ:Type}:List (κ×V)->List (κ×Value)->Prop:=Paired λ(p:κ×V) (q:κ×Value)=>p.1=q.1/\RelV p.2 q.2
def kV:Key->V
 | .inl i=>.int i
 | .inr x=>.str x
inductive HO where
 | lst (xs:List V)
 | tup (xs:List V)
 | dK (kvs:List (Key×V)) | dT (kvs:List (List Key×V))
 | set (S:Int->Bool) (n:Nat)
 | ins (C dx:Addr) (fs:List (Str×V))
 | own (x:Addr)
 | xd (fs:List (Str×V))
 | met (f x:Addr)
 | rng (lo hi:Int)
 | frz (o:Obj) (u:HO)
 | tbl (ps:Array Value)
 | ext (φ:Heap->Prop)
abbrev Hp:=Addr->Option HO
def upd (H:Hp) (a:Addr) (o:HO):Hp:=λb=>if b=a then some o else H b
theorem zj {H:Hp} {a:Addr} {o:HO}:upd H a o a=some o:=by unfold upd;rw [if_pos rfl]
theorem zx {H:Hp} {a b:Addr} {o:HO} (h:b≠a):upd H a o b=H b:=by unfold upd;rw [if_neg h]
theorem zb0 {H:Hp} {a:Addr} {o u:HO}:upd (upd H a o) a u=upd H a u:=by
 funext b;unfold upd;split<;>rfl
theorem uz {H:Hp} {a b:Addr} {o u:HO} (h:H a=some o) (h':H b=some u) (d:o≠u):a≠b:=by
 intro e;subst e;rw [h] at h';exact d (Option.some.inj h')
theorem zz {H:Hp} {a b:Addr} {o:HO} (h:H a=some o) (h':H b=none):a≠b:=by
 intro e;subst e;rw [h] at h';cases h'
section
variable (P:Program) (w:World)
def ObjOk (H:Hp) (h:Heap) (a:Addr):HO->Prop
 | .lst xs=>xs.length<=sizeLine/\∃ (its:List Value) (n:Nat),Vals xs its/\h.get? a=some { cls:=.type "list",data:=.seq its.toArray n }
 | .tup xs=>xs.length<=sizeLine/\∃ its:List Value,Vals xs its/\IsTup h a its.toArray
 | .dK kvs=>kvs.length<=sizeLine/\(a == sysModules)=false/\∃ vs,KV kvs vs/\h.DictOf (xK P w) a vs
 | .dT kvs=>kvs.length<=sizeLine/\(a == sysModules)=false/\∃ xs:List (List Key×Addr×Value),
   Paired (λ(p:List Key×V) (q:List Key×Addr×Value)=>p.1=q.1/\H q.2.1=some (.tup (p.1.map kV))/\RelV p.2 q.2.2) kvs xs /\
   ∃ o es ep,h.get? a=some o/\o.ExactDict/\o.data=.dict es ep/\es.toList=xs.map (entryOfKey (tupleKind (xK P w)))/\(xs.map (·.1)).Nodup
 | .set S n=>h.SetOf (intKind P w) a S n
 | .ins C dx fs=>H dx=some (.own a)/\fs.length<=1000/\dx≠a/\h.get? a=some (W.instObj C dx) /\
   ∃ mA,h.Ns1 dx mA/\(∀ f,RelO (fs.lookup f) (mA f))/\PySem.Within mA (fs.map (·.1))
 | .own _=>∃ o,h.get? a=some o
 | .xd fs=>∃ mA,h.Ns1 a mA/\∀ f,RelO (fs.lookup f) (mA f)
 | .rng lo hi=>∃ t u v,h.get? a=some { cls:=.type "range",data:=.fields #[.int lo t,.int hi u,.int 1 v] }
 | .frz o u=>h.get? a=some o/\ObjOk H h a u
 | .tbl ps=>h.get? a=some { cls:=.none,data:=.fields ps }
 | .met f x=>h.get? a=some (W.methodObj (.ref f) (.ref x))
 | .ext φ=>φ h/\(∃ o,h.get? a=some o)/\∀ h1 h2:Heap,φ h1->(∀ o,h1.get? a=some o->h2.get? a=some o)->φ h2
def HOk (H:Hp) (h:Heap):Prop:=∀ a o,H a=some o->ObjOk P w H h a o
end
section
variable {P:Program} {w:World} {H H':Hp} {h h':Heap} {a:Addr} {o:HO}
theorem ObjOk.lt (x:ObjOk P w H h a o):a<h.objs.size:=by
 cases o with
 | lst xs=>obtain⟨_,_,_,_,e⟩:=x;exact Heap.lt_size e
 | tup xs=>obtain⟨_,_,_,p⟩:=x;exact p.lt
 | dK kvs=>obtain⟨_,_,_,_,o,_,_,e,_⟩:=x;exact Heap.lt_size e
 | dT kvs=>obtain⟨_,_,_,_,o,_,_,e,_⟩:=x;exact Heap.lt_size e
 | set S n=>obtain⟨o,_,_,_,e,_⟩:=x;exact Heap.lt_size e
 | ins C dx fs=>obtain⟨_,_,_,e,_⟩:=x;exact Heap.lt_size e
 | own y=>obtain⟨_,e⟩:=x;exact Heap.lt_size e
 | xd fs=>obtain⟨_,⟨_,_,_,e,_⟩,_⟩:=x;exact Heap.lt_size e
 | rng lo hi=>obtain⟨_,_,_,e⟩:=x;exact Heap.lt_size e
 | frz ob u=>obtain⟨e,_⟩:=x;exact Heap.lt_size e
 | tbl ps=>exact Heap.lt_size (show h.get? a=some _ from x)
 | met f y=>exact Heap.lt_size (show h.get? a=some _ from x)
 | ext φ=>obtain⟨_,⟨_,e⟩,_⟩:=x;exact Heap.lt_size e
theorem Paired.mapP {α β:Type} {F G:α->β->Prop}:∀ {l₁:List α} {l₂:List β},Paired F l₁ l₂->(∀ a b,F a b->G a b)->Paired G l₁ l₂
 | _,_,.nil,_=>.nil
 | _,_,.cons r t,f=>.cons (f _ _ r) (Paired.mapP t f)
theorem ObjOk.stay (x:ObjOk P w H h a o) (k:∀ b u,(b=a\/H b=some (.own a))->h.get? b=some u->h'.get? b=some u)
  (ho:∀ b,H b=some (.own a)->H' b=some (.own a)) (ht:∀ b xs,H b=some (.tup xs)->H' b=some (.tup xs)):ObjOk P w H' h' a o:=by
 induction o with
 | lst xs=>obtain⟨z,its,n,r,e⟩:=x;exact⟨z,its,n,r,k _ _ (.inl rfl) e⟩
 | tup xs=>obtain⟨z,its,r,ob,e,c⟩:=x;exact⟨z,its,r,ob,k _ _ (.inl rfl) e,c⟩
 | dK kvs=>obtain⟨z,y,vs,r,ob,es,ep,e,c⟩:=x;exact⟨z,y,vs,r,ob,es,ep,k _ _ (.inl rfl) e,c⟩
 | dT kvs =>
  obtain⟨z,y,xs,r,ob,es,ep,e,c⟩:=x
  exact⟨z,y,xs,Paired.mapP r λp q z=>⟨z.1,ht _ _ z.2.1,z.2.2⟩,ob,es,ep,k _ _ (.inl rfl) e,c⟩
 | set S n=>obtain⟨ob,es,ep,t,e,c⟩:=x;exact⟨ob,es,ep,t,k _ _ (.inl rfl) e,c⟩
 | ins C dx fs =>
  obtain⟨d,z,ne,e,mA,⟨od,es,ep,e2,c⟩,r⟩:=x
  exact⟨ho _ d,z,ne,k _ _ (.inl rfl) e,mA,⟨od,es,ep,k _ _ (.inr d) e2,c⟩,r⟩
 | own y=>obtain⟨ob,e⟩:=x;exact⟨ob,k _ _ (.inl rfl) e⟩
 | xd fs=>obtain⟨mA,⟨od,es,ep,e,c⟩,r⟩:=x;exact⟨mA,⟨od,es,ep,k _ _ (.inl rfl) e,c⟩,r⟩
 | rng lo hi=>obtain⟨t,u,v,e⟩:=x;exact⟨t,u,v,k _ _ (.inl rfl) e⟩
 | frz ob u ih=>obtain⟨e,q⟩:=x;exact⟨k _ _ (.inl rfl) e,ih q⟩
 | tbl ps =>
  have e:h.get? a=some { cls:=.none,data:=.fields ps }:=x
  show h'.get? a=some { cls:=.none,data:=.fields ps }
  exact k a _ (.inl rfl) e
 | met f y =>
  have e:h.get? a=some (W.methodObj (.ref f) (.ref y)):=x
  show h'.get? a=some (W.methodObj (.ref f) (.ref y))
  exact k a _ (.inl rfl) e
 | ext φ=>obtain⟨p,⟨o,e⟩,st⟩:=x;exact⟨st _ _ p λo q=>k _ _ (.inl rfl) q,⟨o,k _ _ (.inl rfl) e⟩,st⟩
theorem HOk.lt (x:HOk P w H h) (e:H a=some o):a<h.objs.size:=(x a o e).lt
theorem HOk.fresh (x:HOk P w H h) (e:h.objs.size<=a):H a=none:=by
 cases q:H a with
 | none=>rfl
 | some u=>exact absurd (Nat.lt_of_lt_of_le (x.lt q) e) (Nat.lt_irrefl _)
theorem HOk.kept (x:HOk P w H h) (k:∀ b u,h.get? b=some u->h'.get? b=some u):HOk P w H h':=λa o e =>
 (x a o e).stay (λb u _ q=>k b u q) (λ_ q=>q) λ_ _ q=>q
theorem HOk.laid (x:HOk P w H h) (k:∀ b u,h.get? b=some u->h'.get? b=some u) (hp:h.objs.size<=a) (new:ObjOk P w (upd H a o) h' a o):HOk P w (upd H a o) h':=λb u e=>by
 have hn:=x.fresh hp
 by_cases hb:b=a
 ·subst hb;rw [zj] at e;cases e;exact new
 ·rw [zx hb] at e
  exact (x b u e).stay (λc v _ q=>k c v q) (λc q=>by rw [zx (zz q hn)];exact q) λc xs q=>by rw [zx (zz q hn)];exact q
end
def Rd (H:Hp) (a:Addr) (u:HO):Prop:=H a=some u\/∃ o,H a=some (.frz o u)
theorem Rd.of {H:Hp} {a:Addr} {u:HO} (h:H a=some u):Rd H a u:=.inl h
theorem Rd.ok {P:Program} {w:World} {H:Hp} {h:Heap} {a:Addr} {u:HO} (r:Rd H a u) (x:HOk P w H h):ObjOk P w H h a u:=by
 rcases r with r | ⟨o,r⟩
 ·exact x a u r
 ·obtain⟨_,q⟩:=x a _ r
  exact q
def Mut:Option HO->Prop
 | some (.lst _)=>True
 | some (.dK _)=>True
 | some (.dT _)=>True
 | some (.set _ _)=>True
 | some (.ins _ _ _)=>True
 | some (.ext _)=>True
 | _=>False
section
variable {P:Program} {w:World} {H:Hp} {h h':Heap} {x e:Addr} {o':HO}
theorem HOk.write (ok:HOk P w H h) (mu:Mut (H x)) (he:e=x\/H e=some (.own x)) (k:∀ b u,b≠e->h.get? b=some u->h'.get? b=some u) (heo:∃ u,h'.get? e=some u)
  (new:ObjOk P w (upd H x o') h' x o'):HOk P w (upd H x o') h':=λb u q=>by
 have nown:∀ c y,H c=some (.own y)->c≠x:=λc y r z=>by subst z;rw [r] at mu;exact mu
 have ntup:∀ c xs,H c=some (.tup xs)->c≠x:=λc xs r z=>by subst z;rw [r] at mu;exact mu
 by_cases hb:b=x
 ·subst hb;rw [zj] at q;cases q;exact new
 ·rw [zx hb] at q
  by_cases hbe:b=e
  ·have q':H b=some (.own x):=by
    rcases he with z | z
    ·exact absurd (hbe.trans z) hb
    ·rw [hbe];exact z
   rw [q] at q';cases q'
   obtain⟨v,hv⟩:=heo
   exact⟨v,by rw [hbe];exact hv⟩
  ·refine (ok b u q).stay (λc v hc r=>k c v ?_ r) (λc r=>by rw [zx (nown c b r)];exact r) λc xs r=>by rw [zx (ntup c xs r)];exact r
   rcases hc with rfl | hc
   ·exact hbe
   ·rintro rfl
    rcases he with z | z
    ·exact nown c b hc z
    ·rw [hc] at z;cases z;exact hb rfl
end
structure Un (fs ex:List Addr) (H H':Hp) (h h':Heap):Prop where
 keep:∀ b o,h.get? b=some o->H b=none->b∉fs->b∉ex->h'.get? b=some o
 slot:∀ b o,h.get? b=some o->H b=none->b∈fs->b∉ex->∃ sl,h'.get? b=some { o with slots:=sl }
 free:∀ b o,h.get? b=some o->H b=none->b∉ex->H' b=none
 there:∀ b o,h.get? b=some o->b∉ex->∃ o',h'.get? b=some o'
 tups:∀ b xs,H b=some (.tup xs)->H' b=some (.tup xs)
 frzs:∀ b o u,H b=some (.frz o u)->H' b=some (.frz o u)
 tbls:∀ b ps,H b=some (.tbl ps)->∃ more,H' b=some (.tbl (ps++more))
section
variable {fs fs' ex ex':List Addr} {H H1 H2:Hp} {h h1 h2 h':Heap} {a x e:Addr} {o:HO}
theorem Un.any (u:Un fs ex H H1 h h1) {b:Addr} {ob:Obj} (q:h.get? b=some ob) (n:H b=none) (hx:b∉ex):∃ sl,h1.get? b=some { ob with slots:=sl }:=by
 by_cases hb:b∈fs
 ·exact u.slot b ob q n hb hx
 ·exact⟨ob.slots,u.keep b ob q n hb hx⟩
theorem Un.trans (a:Un fs ex H H1 h h1) (b:Un fs ex H1 H2 h1 h2):Un fs ex H H2 h h2 where
 keep:=λc ob q n hc hx=>b.keep c ob (a.keep c ob q n hc hx) (a.free c ob q n hx) hc hx
 slot:=λc ob q n hc hx=>by
  obtain⟨sl,e1⟩:=a.slot c ob q n hc hx
  obtain⟨sl',e2⟩:=b.slot c _ e1 (a.free c ob q n hx) hc hx
  exact⟨sl',e2⟩
 free:=λc ob q n hx=>by
  obtain⟨o',e1⟩:=a.there c ob q hx
  exact b.free c o' e1 (a.free c ob q n hx) hx
 there:=λc ob q hx=>by
  obtain⟨o',e1⟩:=a.there c ob q hx
  exact b.there c o' e1 hx
 tups:=λc xs q=>b.tups c xs (a.tups c xs q)
 frzs:=λc ob xs q=>b.frzs c ob xs (a.frzs c ob xs q)
 tbls:=λc ps q=>by
  obtain⟨m1,e1⟩:=a.tbls c ps q
  obtain⟨m2,e2⟩:=b.tbls c _ e1
  exact⟨m1++m2,by rw [e2,Array.append_assoc]⟩
theorem Un.kept (k:∀ b u,h.get? b=some u->h'.get? b=some u):Un fs ex H H h h' :=
 ⟨λb ob q _ _ _=>k b ob q,λb ob q _ _ _=>⟨ob.slots,k b ob q⟩,λ_ _ _ n _=>n,λb ob q _=>⟨ob,k b ob q⟩,λ_ _ q=>q,λ_ _ _ q=>q,λ_ ps q=>⟨#[],by rw [q];simp⟩⟩
theorem Un.refl:Un fs ex H H h h:=Un.kept λ_ _ q=>q
theorem Un.laid (k:∀ b u,h.get? b=some u->h'.get? b=some u) (hp:h.objs.size<=a) (hn:H a=none):Un fs ex H (upd H a o) h h' where
 keep:=λb u q _ _ _=>k b u q
 slot:=λb u q _ _ _=>⟨u.slots,k b u q⟩
 free:=λb u q n _=>by rw [zx (Nat.ne_of_lt (Nat.lt_of_lt_of_le (Heap.lt_size q) hp))];exact n
 there:=λb u q _=>⟨u,k b u q⟩
 tups:=λb xs q=>by rw [zx (zz q hn)];exact q
 frzs:=λb u xs q=>by rw [zx (zz q hn)];exact q
 tbls:=λb ps q=>⟨#[],by rw [zx (zz q hn),q];simp⟩
theorem Un.write (mu:Mut (H x)) (he:e=x\/H e=some (.own x)) (k:∀ b u,b≠e->h.get? b=some u->h'.get? b=some u) (heo:∃ u,h'.get? e=some u):Un fs ex H (upd H x o) h h':=by
 have hx:∀ b,H b=none->b≠x:=λb n z=>by subst z;rw [n] at mu;exact mu
 have hb:∀ b,H b=none->b≠e:=λb n z=>by
  subst z
  rcases he with r | r
  ·exact hx b n r
  ·rw [n] at r;cases r
 have hm:∀ b u,H b=some u->¬ Mut (some u)->b≠x:=λb u q nm z=>by subst z;rw [q] at mu;exact nm mu
 refine⟨λb u q n _ _=>k b u (hb b n) q,λb u q n _ _=>⟨u.slots,k b u (hb b n) q⟩,λb u q n _=>by rw [zx (hx b n)];exact n,λb u q _=>?_,
  λb xs q=>by rw [zx (hm b _ q λz=>z)];exact q,λb u xs q=>by rw [zx (hm b _ q λz=>z)];exact q,λb ps q=>⟨#[],by rw [zx (hm b _ q λz=>z),q];simp⟩⟩
 by_cases hbe:b=e
 ·subst hbe;exact heo
 ·exact⟨u,k b u hbe q⟩
theorem Un.mono (u:Un fs ex H H1 h h1) (hs:∀ b∈fs,b∈fs') (hx:∀ b∈ex,b∈ex'):Un fs' ex' H H1 h h1 :=
 ⟨λb ob q n hb he=>u.keep b ob q n (λz=>hb (hs b z)) λz=>he (hx b z),λ_ _ q n _ he=>u.any q n λz=>he (hx _ z),λb ob q n he=>u.free b ob q n λz=>he (hx b z),λb ob q he=>u.there b ob q λz=>he (hx b z),u.tups,u.frzs,u.tbls⟩
end
def trk (h:Heap) (H:Hp):List Addr:=(List.range h.objs.size).filter λa=>(H a).isSome
def Qj (h:Heap) (H:Hp):Heap:=W.hideAll h (trk h H)
theorem zct (h:Heap) (H:Hp):(Qj h H).objs.size=h.objs.size:=W.hideAll_size _ _
theorem zdW {h:Heap} {H:Hp} {b:Addr} {o:Obj} (e:h.get? b=some o) (n:H b=none):(Qj h H).get? b=some o :=
 W.hideAll_get _ e λhm=>by
  have q:(H b).isSome=true:=(List.mem_filter.mp hm).2
  rw [n] at q;simp at q
theorem zd1 {h:Heap} {H:Hp} {b:Addr} {o:Obj} (e:(Qj h H).get? b=some o):h.get? b=some o/\H b=none:=by
 have e':h.get? b=some o:=W.of_hideAll (trk h H) e
 refine⟨e',?_⟩
 cases q:H b with
 | none=>rfl
 | some x =>
  have hm:b∈trk h H:=List.mem_filter.mpr ⟨List.mem_range.mpr (Heap.lt_size e'),by simp [q]⟩
  have z:(Qj h H).get? b=none:=W.hideAll_none (trk h H) hm
  rw [z] at e;cases e
def zeE (g h:Heap) (L:Addr):List (Addr×Obj):=(List.range h.objs.size).filterMap λa=>if a=L\/(g.get? a).isSome=true then none else (h.get? a).map λo=>(a,o)
def rest (g h:Heap) (L d:Addr):List (Addr×Obj):=(zeE g h L).filter λp=>decide (p.1≠d)
structure Mod (K:W.Frag) (mg:Str->Option Value) (base:Heap):Prop where
 kin:K.In base
 glob:base.Ns mainGlobals mg
 blt:∃ mb,base.Ns builtinsNs mb/\∀ x:Str,x ≠ "__name__"->mb x=bootBuiltins x
 nolimit:base.NoLimit
structure Cx where
 prog:Program
 w:World
 K:W.Frag
 mg:Str->Option Value
 base:Heap
 A:Around
 N:List Str
 s₀:Shared
 H₀:Hp
 env:Env
 outer:List Env
 stack:List Env
 ex:List Addr
 fn:Str->Bool
 calm:Bool
 pn:List (Addr×Obj)
 xe:Value->Shared->Prop
def frs (l:List Env):List Addr:=l.filterMap (·.frame)
abbrev Cx.fs (X:Cx):List Addr:=frs X.outer
def Vis (sc:Scope) (x:Str):Prop:=sc.names.lookup x=some .local\/sc.names.lookup x=some .cell\/sc.names.lookup x=some .free
def Loc (sc:Scope) (x:Str):Prop:=sc.names.lookup x=some .local\/sc.names.lookup x=some .cell
def Look (env:Env) (h:Heap) (m:Str->Option Value) (x:Str) (u:Value):Prop :=
 (env.kindOf x=some .local/\m x=some u)\/((env.kindOf x=some .cell\/env.kindOf x=some .free)/\∃ c,env.cells.lookup x=some c/\h.IsCell c (some u))
structure Cx.Ok (X:Cx):Prop where
 mod:Mod X.K X.mg X.base
 kind:X.env.scope.kind=.function
 glob:X.env.globals=mainGlobals
 blt:X.env.builtins=builtinsNs
 above:X.s₀.heap.objs.size<=X.env.locals
 inj:∀ x y c,X.env.cells.lookup x=some c->X.env.cells.lookup y=some c->x=y
 has:∀ x,(X.env.kindOf x=some .cell\/X.env.kindOf x=some .free)->∃ c,X.env.cells.lookup x=some c
 cab:∀ x c,X.fn x=true->X.env.cells.lookup x=some c->X.s₀.heap.objs.size<=c
 hd:X.calm=true->X.A.handled=none
 frames:X.A.frames=some X.stack
 stk:X.stack=X.outer\/(X.stack=X.env :: X.outer/\X.env.frame=some X.env.locals)
 exf:∀ b∈X.ex,b≠X.env.locals/\∀ x c,X.env.cells.lookup x=some c->c≠b
 bs:∀ b o,X.base.get? b=some o->X.s₀.heap.get? b=some o/\X.H₀ b=none
 bsz:X.base.objs.size<=X.s₀.heap.objs.size
 noex:∀ b o,X.base.get? b=some o->b∉X.ex
 exfs:∀ b∈X.ex,b∉X.fs
 funs:X.s₀.heap.FunFrames X.base X.outer
 frf:∀ b∈X.fs,X.H₀ b=none
structure Inv (X:Cx) (pins:List (Addr×Obj)) (Z:List (Option V)) (H:Hp) (s:Shared):Prop where
 ok:X.Ok
 os:s.os=X.s₀.os
 bare:AllBare s.gens
 base:Un X.fs X.ex X.H₀ H X.s₀.heap s.heap
 loc:∃ m,s.heap.Ns X.env.locals m/\∀ (i:Nat) (x:Str) (v:V),X.N[i]?=some x->Z[i]?=some (some v)->Vis X.env.scope x->∃ u,RelV v u/\Look X.env s.heap m x u
 cell:∀ x c,X.env.cells.lookup x=some c->∃ v,s.heap.IsCell c v
 free:H X.env.locals=none
 freeC:∀ x c,X.env.cells.lookup x=some c->H c=none
 pin:∀ p∈X.pn++pins,s.heap.get? p.1=some p.2/\H p.1=none/\p.1≠X.env.locals/\p.1∉X.fs/\∀ v,p.2.data≠.cell v
 hok:HOk X.prog X.w H s.heap
 len:Z.length=X.N.length
section
variable {X:Cx} {pins:List (Addr×Obj)} {Z:List (Option V)} {H H':Hp} {s:Shared} {h':Heap}
theorem Cx.Ok.nofr (ok:X.Ok) {b:Addr} {o:Obj} (e:X.base.get? b=some o):b∉X.fs:=λhb=>by
 have:=(ok.funs.mem hb).1
 rw [e] at this;cases this
theorem Inv.bs (I:Inv X pins Z H s):∀ b o,X.base.get? b=some o->s.heap.get? b=some o/\H b=none:=λb o e =>
 ⟨I.base.keep b o (I.ok.bs b o e).1 (I.ok.bs b o e).2 (I.ok.nofr e) (I.ok.noex b o e),I.base.free b o (I.ok.bs b o e).1 (I.ok.bs b o e).2 (I.ok.noex b o e)⟩
theorem Inv.bk (I:Inv X pins Z H s):∀ b o,X.base.get? b=some o->s.heap.get? b=some o:=λb o e=>(I.bs b o e).1
theorem Inv.mod (I:Inv X pins Z H s):Mod X.K X.mg X.base:=I.ok.mod
theorem Inv.kIn (I:Inv X pins Z H s):X.K.In s.heap:=I.ok.mod.kin.keeps I.bk
theorem Inv.nolimit (I:Inv X pins Z H s):s.heap.NoLimit:=I.ok.mod.nolimit.keeps I.bk
theorem Inv.fr (I:Inv X pins Z H s):∃ m,Fr X.base X.env.locals s.heap m :=
 let ⟨m,hn,_⟩:=I.loc
 ⟨m,hn,I.bk,Nat.le_trans I.ok.bsz I.ok.above⟩
theorem Inv.lt (I:Inv X pins Z H s):X.env.locals<s.heap.objs.size:=let ⟨_,hn,_⟩:=I.loc;hn.lt
theorem Inv.sz (I:Inv X pins Z H s):X.s₀.heap.objs.size<=s.heap.objs.size:=Nat.le_trans I.ok.above (Nat.le_of_lt I.lt)
theorem Inv.nofs (I:Inv X pins Z H s) {a:Addr} (h:s.heap.objs.size<=a):a∉X.fs:=λhb=>by
 obtain⟨_,o,ho,_⟩:=I.ok.funs.mem hb
 exact absurd (Nat.lt_of_lt_of_le (Heap.lt_size ho) (Nat.le_trans I.sz h)) (Nat.lt_irrefl _)
theorem Inv.cne (I:Inv X pins Z H s):∀ x c,X.env.cells.lookup x=some c->c≠X.env.locals:=λx c e z=>by
 obtain⟨v,o,ho,hd⟩:=I.cell x c e
 obtain⟨m,⟨o',es,ep,ho',hd',_⟩,_⟩:=I.loc
 rw [z,ho'] at ho;cases ho;rw [hd'] at hd;cases hd
theorem Inv.funs (I:Inv X pins Z H s):s.heap.FunFrames X.base X.outer:=by
 have all:∀ (l:List Env),(∀ b∈frs l,b∈X.fs)->X.s₀.heap.FunFrames X.base l->s.heap.FunFrames X.base l:=by
  intro l
  induction l with
  | nil=>intro _ _;trivial
  | cons env r ih =>
   intro hs hl
   obtain⟨hk,⟨L,o,hf,hn,ho,hd⟩,hr⟩:=hl
   have hL:L∈X.fs:=hs L (by unfold frs;rw [List.filterMap_cons,hf];exact List.mem_cons_self)
   obtain⟨sl,e⟩:=I.base.slot L o ho (I.ok.frf L hL) hL λz=>I.ok.exfs L z hL
   exact⟨hk,⟨L,_,hf,hn,e,hd⟩,ih (λb hb=>hs b (by unfold frs;rw [List.filterMap_cons,hf];exact List.mem_cons_of_mem _ hb)) hr⟩
 exact all X.outer (λ_ hb=>hb) I.ok.funs
theorem Inv.stack (I:Inv X pins Z H s):s.heap.FunFrames X.base X.stack:=by
 rcases I.ok.stk with e | ⟨e,hf⟩
 ·rw [e];exact I.funs
 ·rw [e]
  obtain⟨m,hn,_⟩:=I.loc
  refine .cons (by rw [I.ok.kind];decide) hf hn ?_ I.funs
  exact Heap.get?_none_of_le (Nat.le_trans I.ok.bsz I.ok.above)
theorem Inv.stkSub (I:Inv X pins Z H s):∀ b∈frs X.stack,b∈X.env.locals :: X.fs:=λb hb=>by
 rcases I.ok.stk with e | ⟨e,hf⟩
 ·rw [e] at hb;exact List.mem_cons_of_mem _ hb
 ·rw [e] at hb
  unfold frs at hb
  rw [List.filterMap_cons,hf] at hb
  exact hb
theorem Inv.stkFree (I:Inv X pins Z H s):∀ b∈frs X.stack,H b=none:=λb hb=>by
 rcases List.mem_cons.mp (I.stkSub b hb) with e | hb
 ·rw [e];exact I.free
 ·obtain⟨_,o,ho,_⟩:=I.ok.funs.mem hb
  exact I.base.free b o ho (I.ok.frf b hb) λz=>I.ok.exfs b z hb
theorem Inv.step {g':Array GenState} {t':Nat} {d':Drawn} {ch:List Addr} (I:Inv X pins Z H s)
  (hch:∀ b∈ch,(b∈X.ex\/X.s₀.heap.objs.size<=b)/\b≠X.env.locals/\(∀ x c,X.env.cells.lookup x=some c->c≠b)/\∀ p∈X.pn++pins,p.1≠b)
  (keep:∀ b o,b≠X.env.locals->b∉X.fs->b∉ch->s.heap.get? b=some o->H b=none->h'.get? b=some o)
  (slot:∀ b o,b≠X.env.locals->b∈X.fs->b∉ch->s.heap.get? b=some o->H b=none->∃ sl,h'.get? b=some { o with slots:=sl }) (free:∀ b o,b∉ch->s.heap.get? b=some o->H b=none->H' b=none)
  (there:∀ b o,b∉ch->s.heap.get? b=some o->∃ o',h'.get? b=some o')
  (tups:∀ b xs,H b=some (.tup xs)->H' b=some (.tup xs)) (frzs:∀ b o u,H b=some (.frz o u)->H' b=some (.frz o u)) (tbls:∀ b ps,H b=some (.tbl ps)->∃ more,H' b=some (.tbl (ps++more)))
  (ns:∀ m,s.heap.Ns X.env.locals m->h'.Ns X.env.locals m) (hok:HOk X.prog X.w H' h') (hg:AllBare g') :
  Inv X pins Z H' { s with heap:=h',gens:=g',drawn:=d',toks:=t' }:=by
 have neL:∀ b o,X.s₀.heap.get? b=some o->b≠X.env.locals:=λb o e=>Nat.ne_of_lt (Nat.lt_of_lt_of_le (Heap.lt_size e) I.ok.above)
 have neC:∀ b o,X.s₀.heap.get? b=some o->b∉X.ex->b∉ch:=λb o e hx hb=>by
  rcases (hch b hb).1 with z | z
  ·exact hx z
  ·exact absurd (Nat.lt_of_lt_of_le (Heap.lt_size e) z) (Nat.lt_irrefl _)
 have cellK:∀ x c,X.env.cells.lookup x=some c->∀ v,s.heap.IsCell c v->h'.IsCell c v:=λx c e v ⟨o,ho,hd⟩=>by
  have nch:c∉ch:=λz=>(hch c z).2.2.1 x c e rfl
  by_cases hc:c∈X.fs
  ·obtain⟨sl,q⟩:=slot c o (I.cne x c e) hc nch ho (I.freeC x c e)
   exact⟨_,q,hd⟩
  ·exact⟨o,keep c o (I.cne x c e) hc nch ho (I.freeC x c e),hd⟩
 refine⟨I.ok,I.os,hg,⟨λb o e n hb hx=>?_,λb o e n hb hx=>?_,λb o e n hx=>?_,λb o e hx=>?_,λb xs e=>tups b xs (I.base.tups b xs e),λb o xs e=>frzs b o xs (I.base.frzs b o xs e),λb ps e=>?_⟩,?_,λx c e=>?_,?_,λx c e=>?_,λp hp=>?_,hok,I.len⟩
 ·exact keep b o (neL b o e) hb (neC b o e hx) (I.base.keep b o e n hb hx) (I.base.free b o e n hx)
 ·obtain⟨sl,e1⟩:=I.base.slot b o e n hb hx
  obtain⟨sl',e2⟩:=slot b _ (neL b o e) hb (neC b o e hx) e1 (I.base.free b o e n hx)
  exact⟨sl',e2⟩
 ·obtain⟨o',e1⟩:=I.base.there b o e hx
  exact free b o' (neC b o e hx) e1 (I.base.free b o e n hx)
 ·obtain⟨o',e1⟩:=I.base.there b o e hx
  exact there b o' (neC b o e hx) e1
 ·obtain⟨m1,e1⟩:=I.base.tbls b ps e
  obtain⟨m2,e2⟩:=tbls b _ e1
  exact⟨m1++m2,by rw [e2,Array.append_assoc]⟩
 ·obtain⟨m,hn,hl⟩:=I.loc
  refine⟨m,ns m hn,λi x v e1 e2 e3=>?_⟩
  obtain⟨u,r,l⟩:=hl i x v e1 e2 e3
  refine⟨u,r,?_⟩
  rcases l with l | ⟨k,c,e,z⟩
  ·exact .inl l
  ·exact .inr ⟨k,c,e,cellK x c e _ z⟩
 ·obtain⟨v,z⟩:=I.cell x c e
  exact⟨v,cellK x c e v z⟩
 ·obtain⟨m,⟨o,_,_,ho,_⟩,_⟩:=I.loc
  exact free _ o (λz=>(hch _ z).2.1 rfl) ho I.free
 ·obtain⟨v,o,ho,hd⟩:=I.cell x c e
  exact free c o (λz=>(hch c z).2.2.1 x c e rfl) ho (I.freeC x c e)
 ·obtain⟨e,n,ne,nf,d⟩:=I.pin p hp
  have nch:p.1∉ch:=λz=>(hch p.1 z).2.2.2 p hp rfl
  exact⟨keep p.1 p.2 ne nf nch e n,free p.1 p.2 nch e n,ne,nf,d⟩
theorem Inv.un {t':Nat} (I:Inv X pins Z H s) (u:Un X.fs [] H H' s.heap h') (hok:HOk X.prog X.w H' h'):Inv X pins Z H' { s with heap:=h',toks:=t' }:=by
 obtain⟨m,⟨o,es,ep,ho,r⟩,_⟩:=id I.loc
 obtain⟨sl,hL⟩:=u.any ho I.free (by simp)
 exact I.step (g':=s.gens) (d':=s.drawn) (ch:=[]) (λ_ z=>nomatch z) (λb o _ hb _ e n=>u.keep b o e n hb (by simp)) (λb o _ hb _ e n=>u.slot b o e n hb (by simp)) (λb o _ e n=>u.free b o e n (by simp)) (λb o _ e=>u.there b o e (by simp)) u.tups u.frzs u.tbls (λm' hm=>by
  obtain⟨o',es',ep',ho',r'⟩:=hm
  rw [ho] at ho';cases ho'
  exact⟨_,es',ep',hL,r'⟩) hok I.bare
theorem Inv.call {g':Array GenState} {t':Nat} {d':Drawn} {ch:List Addr} (I:Inv X pins Z H s) (u:Un (frs X.stack) ch H H' s.heap h') (hok:HOk X.prog X.w H' h') (hg:AllBare g')
  (hch:∀ b∈ch,(b∈X.ex\/X.s₀.heap.objs.size<=b)/\b≠X.env.locals/\(∀ x c,X.env.cells.lookup x=some c->c≠b)/\∀ p∈X.pn++pins,p.1≠b) :
  Inv X pins Z H' { s with heap:=h',gens:=g',drawn:=d',toks:=t' }:=by
 obtain⟨m,⟨o,es,ep,ho,r⟩,_⟩:=id I.loc
 obtain⟨sl,hL⟩:=u.any ho I.free λz=>(hch _ z).2.1 rfl
 exact I.step (ch:=ch) hch (λb o hL hb hc e n=>u.keep b o e n (λz=>(List.mem_cons.mp (I.stkSub b z)).elim hL hb) hc) (λb o _ _ hc e n=>u.any e n hc) (λb o hc e n=>u.free b o e n hc) (λb o hc e=>u.there b o e hc) u.tups u.frzs u.tbls (λm' hm=>by
  obtain⟨o',es',ep',ho',r'⟩:=hm
  rw [ho] at ho';cases ho'
  exact⟨_,es',ep',hL,r'⟩) hok hg
theorem Inv.turned {t':Nat} {it:Addr} (I:Inv X pins Z H s) (k:∀ b o,b≠it->s.heap.get? b=some o->h'.get? b=some o) (hn:H it=none) (hL:it≠X.env.locals)
  (h1:it∈X.ex\/X.s₀.heap.objs.size<=it) (h2:∀ x c,X.env.cells.lookup x=some c->c≠it) (h3:∀ p∈X.pn++pins,p.1≠it):Inv X pins Z H { s with heap:=h',toks:=t' }:=by
 have nit:∀ b u,H b=some u->b≠it:=λb u e z=>by rw [z,hn] at e;cases e
 refine I.step (g':=s.gens) (d':=s.drawn) (ch:=[it]) (λb hb=>?_) (λb o _ _ hc e _=>k b o (λz=>hc (by simp [z])) e) (λb o _ _ hc e _=>⟨o.slots,k b o (λz=>hc (by simp [z])) e⟩) (λ_ _ _ _ n=>n)
  (λb o hc e=>⟨o,k b o (λz=>hc (by simp [z])) e⟩) (λ_ _ e=>e) (λ_ _ _ e=>e) (λb ps e=>⟨#[],by rw [e];simp⟩) (λm hm=>?_) (λb u e=>?_) I.bare
 ·have e:b=it:=by simpa using hb
  subst e
  exact⟨h1,hL,h2,h3⟩
 ·obtain⟨o,es,ep,ho,r⟩:=hm
  exact⟨o,es,ep,k _ o (Ne.symm hL) ho,r⟩
 ·refine (I.hok b u e).stay (λc v hc q=>k c v ?_ q) (λ_ q=>q) λ_ _ q=>q
  rcases hc with z | z
  ·rw [z];exact nit b u e
  ·exact nit c _ z
theorem Inv.tok (I:Inv X pins Z H s) (t:Nat):Inv X pins Z H { s with toks:=t }:=I.un (h':=s.heap) (t':=t) Un.refl I.hok
theorem Inv.kept {t':Nat} (I:Inv X pins Z H s) (k:∀ b u,s.heap.get? b=some u->h'.get? b=some u):Inv X pins Z H { s with heap:=h',toks:=t' }:=I.un (Un.kept k) (I.hok.kept k)
theorem Inv.laid {a:Addr} {o:HO} {t':Nat} (I:Inv X pins Z H s) (k:∀ b u,s.heap.get? b=some u->h'.get? b=some u) (hp:s.heap.objs.size<=a) (new:ObjOk X.prog X.w (upd H a o) h' a o) :
  Inv X pins Z (upd H a o) { s with heap:=h',toks:=t' }:=I.un (Un.laid k hp (I.hok.fresh hp)) (I.hok.laid k hp new)
theorem Inv.write {x e:Addr} {o:HO} {t':Nat} (I:Inv X pins Z H s) (mu:Mut (H x)) (he:e=x\/H e=some (.own x)) (k:∀ b u,b≠e->s.heap.get? b=some u->h'.get? b=some u) (heo:∃ u,h'.get? e=some u)
  (new:ObjOk X.prog X.w (upd H x o) h' x o):Inv X pins Z (upd H x o) { s with heap:=h',toks:=t' }:=I.un (Un.write mu he k heo) (I.hok.write mu he k heo new)
theorem Inv.weak {σ':List (Option V)} (I:Inv X pins Z H s) (hl:σ'.length=Z.length) (w:∀ (i:Nat) v,σ'[i]?=some (some v)->Z[i]?=some (some v)):Inv X pins σ' H s :=
 ⟨I.ok,I.os,I.bare,I.base,let ⟨m,hn,hl'⟩:=I.loc;⟨m,hn,λi x v e1 e2 e3=>hl' i x v e1 (w i v e2) e3⟩,I.cell,I.free,I.freeC,I.pin,I.hok,hl.trans I.len⟩
theorem Inv.pins_of {pins':List (Addr×Obj)} (I:Inv X pins Z H s) (h:∀ p∈pins',s.heap.get? p.1=some p.2/\H p.1=none/\p.1≠X.env.locals/\p.1∉X.fs/\∀ v,p.2.data≠.cell v):Inv X pins' Z H s :=
 ⟨I.ok,I.os,I.bare,I.base,I.loc,I.cell,I.free,I.freeC,λp hp=>(List.mem_append.mp hp).elim (λz=>I.pin p (List.mem_append_left _ z)) (h p),I.hok,I.len⟩
theorem Ug {N:List Str} (hN:N.Nodup) {i j:Nat} {x:Str} (a:N[i]?=some x) (b:N[j]?=some x):i=j:=by
 obtain⟨h1,e1⟩:=List.getElem?_eq_some_iff.mp a
 obtain⟨h2,e2⟩:=List.getElem?_eq_some_iff.mp b
 exact (List.getElem_inj hN).mp (e1.trans e2.symm)
theorem WN {M:Model} {A:Around} {E:Value->Shared->Prop} {i:Nat} {x:Str} {v:V} {u:Value} {Q:Unit->Shared->Prop} (I:Inv X pins Z H s) (hN:X.N.Nodup) (hi:X.N[i]?=some x) (hx:Loc X.env.scope x) (r:RelV v u)
  (h:∀ s',Inv X pins (Z.set i (some v)) H s'->(∃ a,Heap.SameBut a s.heap s'.heap/\(a=X.env.locals\/X.env.cells.lookup x=some a))->Q () s') (hf:X.fn x=true\/X.env.scope.names.lookup x=some .local:=by first | exact .inl rfl | exact .inr rfl | assumption):wpAny M A (storeName X.env x u) Q E s:=by
 obtain⟨m,hn,hl⟩:=id I.loc
 have hcls:(X.env.scope.kind == .class || (X.env.scope.kind == .module && X.env.locals != X.env.globals))=false:=by rw [I.ok.kind];rfl
 have hiσ:i<Z.length:=by rw [I.len];exact (List.getElem?_eq_some_iff.mp hi).1
 have cne:=I.cne
 have tracked:∀ {a:Addr} {h':Heap},(∃ o,s.heap.get? a=some o/\H a=none)->Heap.SameBut a s.heap h'->HOk X.prog X.w H h':=λ{a h'} ha hs b ob e=>by
  obtain⟨_,_,hfree⟩:=ha
  refine (I.hok b ob e).stay (λc w' hc q=>(hs.2 c ?_).trans q) (λ_ q=>q) λ_ _ q=>q
  rintro rfl
  rcases hc with rfl | hc
  ·rw [hfree] at e;cases e
  ·rw [hfree] at hc;cases hc
 rcases hx with hk | hk
 ·refine wpAny_storeName_local hk hn (λh' hn' hs=>?_) hcls
  obtain⟨oL,_,_,hoL,_⟩:=id hn
  refine h _ ⟨I.ok,I.os,I.bare,⟨λb o e n hb hx=>?_,λb o e n hb hx=>?_,I.base.free,λb o e hx=>?_,I.base.tups,I.base.frzs,I.base.tbls⟩,⟨_,hn',λj y v' e1 e2 e3=>?_⟩,λy c e=>?_,I.free,I.freeC,λp hp=>?_,tracked ⟨oL,hoL,I.free⟩ hs,by simpa using I.len⟩ ⟨_,hs,.inl rfl⟩
  ·exact (hs.2 b (Nat.ne_of_lt (Nat.lt_of_lt_of_le (Heap.lt_size e) I.ok.above))).trans (I.base.keep b o e n hb hx)
  ·obtain⟨sl,e1⟩:=I.base.slot b o e n hb hx
   exact⟨sl,(hs.2 b (Nat.ne_of_lt (Nat.lt_of_lt_of_le (Heap.lt_size e) I.ok.above))).trans e1⟩
  ·obtain⟨o',e1⟩:=I.base.there b o e hx
   exact⟨o',(hs.2 b (Nat.ne_of_lt (Nat.lt_of_lt_of_le (Heap.lt_size e) I.ok.above))).trans e1⟩
  ·by_cases hj:j=i
   ·subst hj
    rw [hi] at e1;cases e1
    rw [List.getElem?_set_self hiσ] at e2
    cases e2
    exact⟨u,r,.inl ⟨hk,by simp⟩⟩
   ·rw [List.getElem?_set_ne (Ne.symm hj)] at e2
    obtain⟨u',r',q⟩:=hl j y v' e1 e2 e3
    refine⟨u',r',?_⟩
    rcases q with ⟨k,e⟩ | ⟨k,c,e,z⟩
    ·refine .inl ⟨k,?_⟩
     have:y≠x:=λe=>hj (Ug hN e1 (e▸hi))
     simp [this,e]
    ·exact .inr ⟨k,c,e,z.sameBut hs (cne y c e)⟩
  ·obtain⟨w',z⟩:=I.cell y c e
   exact⟨w',z.sameBut hs (cne y c e)⟩
  ·obtain⟨e,n,ne,nf,d⟩:=I.pin p hp
   exact⟨(hs.2 p.1 ne).trans e,n,ne,nf,d⟩
 ·have hfn:X.fn x=true:=by
   rcases hf with z | z
   ·exact z
   ·rw [z] at hk;cases hk
  obtain⟨c,hc⟩:=I.ok.has x (.inl hk)
  obtain⟨w',z⟩:=I.cell x c hc
  refine wpAny_storeName_cell I.ok.kind hk hc z (λh' hc' hs=>?_)
  obtain⟨oc,hoc,hocd⟩:=id z
  refine h { s with heap:=h' } ⟨I.ok,I.os,I.bare,⟨λb o e n hb hx=>?_,λb o e n hb hx=>?_,I.base.free,λb o e hx=>?_,I.base.tups,I.base.frzs,I.base.tbls⟩,⟨m,hn.sameBut hs (Ne.symm (cne x c hc)),λj y v' e1 e2 e3=>?_⟩,λy c' e=>?_,I.free,I.freeC,λp hp=>?_,tracked ⟨oc,hoc,I.freeC x c hc⟩ hs,by simpa using I.len⟩ ⟨c,hs,.inr hc⟩
  ·exact (hs.2 b (Nat.ne_of_lt (Nat.lt_of_lt_of_le (Heap.lt_size e) (I.ok.cab x c hfn hc)))).trans (I.base.keep b o e n hb hx)
  ·obtain⟨sl,e1⟩:=I.base.slot b o e n hb hx
   exact⟨sl,(hs.2 b (Nat.ne_of_lt (Nat.lt_of_lt_of_le (Heap.lt_size e) (I.ok.cab x c hfn hc)))).trans e1⟩
  ·obtain⟨o',e1⟩:=I.base.there b o e hx
   exact⟨o',(hs.2 b (Nat.ne_of_lt (Nat.lt_of_lt_of_le (Heap.lt_size e) (I.ok.cab x c hfn hc)))).trans e1⟩
  ·by_cases hj:j=i
   ·subst hj
    rw [hi] at e1;cases e1
    rw [List.getElem?_set_self hiσ] at e2
    cases e2
    exact⟨u,r,.inr ⟨.inl hk,c,hc,hc'⟩⟩
   ·rw [List.getElem?_set_ne (Ne.symm hj)] at e2
    obtain⟨u',r',q⟩:=hl j y v' e1 e2 e3
    refine⟨u',r',?_⟩
    rcases q with q | ⟨k,c',e,z'⟩
    ·exact .inl q
    ·refine .inr ⟨k,c',e,z'.sameBut hs ?_⟩
     rintro rfl
     exact hj (Ug hN e1 (I.ok.inj _ _ _ e hc▸hi))
  ·by_cases hcc:c'=c
   ·subst hcc;exact⟨_,hc'⟩
   ·obtain⟨w2,z2⟩:=I.cell y c' e
    exact⟨w2,z2.sameBut hs hcc⟩
  ·obtain⟨e,n,ne,nf,d⟩:=I.pin p hp
   refine⟨(hs.2 p.1 ?_).trans e,n,ne,nf,d⟩
   intro q
   rw [q,hoc] at e
   have q':oc=p.2:=Option.some.inj e
   exact d w' (by rw [<- q'];exact hocd)
theorem XQ {M:Model} {A:Around} {E:Value->Shared->Prop} {i:Nat} {x:Str} {v:V} {u:Value} {Q:Unit->Shared->Prop} (I:Inv X pins Z H s) (hN:X.N.Nodup) (hi:X.N[i]?=some x) (hx:Loc X.env.scope x) (r:RelV v u)
  (h:∀ s',Inv X pins (Z.set i (some v)) H s'->Q () s') (hf:X.fn x=true\/X.env.scope.names.lookup x=some .local:=by first | exact .inl rfl | exact .inr rfl | assumption):wpAny M A (storeName X.env x u) Q E s :=
 WN I hN hi hx r (λs' I' _=>h s' I') hf
theorem Inv.call' {s':Shared} {ch:List Addr} (I:Inv X pins Z H s) (ho:s'.os=s.os) (u:Un (frs X.stack) ch H H' s.heap s'.heap) (hok:HOk X.prog X.w H' s'.heap) (hg:AllBare s'.gens)
  (hch:∀ b∈ch,(b∈X.ex\/X.s₀.heap.objs.size<=b)/\b≠X.env.locals/\(∀ x c,X.env.cells.lookup x=some c->c≠b)/\∀ p∈X.pn++pins,p.1≠b):Inv X pins Z H' s':=by
 obtain⟨h',g',d',t',o'⟩:=s'
 have e:o'=s.os:=ho
 subst e
 exact I.call (g':=g') (t':=t') (d':=d') u hok hg hch
end
abbrev XK:=Value->Option Addr->Hp->Prop
abbrev St:=List (Option V)
abbrev VK:=V->Hp->Prop
abbrev TE:=St->Hp->VK->Prop
abbrev TT:=St->Hp->(Bool->Hp->Prop)->Prop
abbrev TA:=St->Hp->(List V->Hp->Prop)->Prop
structure Ends where
 nx:St->Hp->Prop
 rt:VK
 bk:St->Hp->Prop:=λ_ _=>False
 ct:St->Hp->Prop:=λ_ _=>False
abbrev TS:=Ends->St->Hp->Prop
def EP (X:Cx) (pins:List (Addr×Obj)) (Z:St) (Q:VK) (u:Value) (s':Shared):Prop:=∃ v H',Inv X pins Z H' s'/\RelV v u/\Q v H'
def TP (X:Cx) (pins:List (Addr×Obj)) (Z:St) (Q:Bool->Hp->Prop) (b:Bool) (s':Shared):Prop:=∃ H',Inv X pins Z H' s'/\Q b H'
def AP (X:Cx) (pins:List (Addr×Obj)) (Z:St) (Q:List V->Hp->Prop) (us:List Value) (s':Shared):Prop:=∃ vs H',Inv X pins Z H' s'/\Vals vs us/\Q vs H'
def SP (X:Cx) (pins:List (Addr×Obj)) (D:Ends) (f:Flow) (s':Shared):Prop :=
 match f with
 | .next=>∃ σ' H',Inv X pins σ' H' s'/\D.nx σ' H'
 | .brk=>∃ σ' H',Inv X pins σ' H' s'/\D.bk σ' H'
 | .cont=>∃ σ' H',Inv X pins σ' H' s'/\D.ct σ' H'
 | .ret u=>∃ v σ' H',Inv X pins σ' H' s'/\RelV v u/\D.rt v H'
def PE (X:Cx) (e:Expr) (t:TE):Prop :=
 ∀ (pins:List (Addr×Obj)) (s:Shared) (Z:St) (H:Hp) (Q:VK),Inv X pins Z H s->t Z H Q->wpAny (model X.prog X.w) X.A (eval e X.env) (EP X pins Z Q) X.xe s
def PT (X:Cx) (e:Expr) (t:TT):Prop :=
 ∀ (pins:List (Addr×Obj)) (s:Shared) (Z:St) (H:Hp) (Q:Bool->Hp->Prop),Inv X pins Z H s->t Z H Q->wpAny (model X.prog X.w) X.A (isTrue e X.env (eval e X.env)) (TP X pins Z Q) X.xe s
def PW (X:Cx) (e:Expr) (t:TT):Prop :=
 ∀ (whole:Sem Value) (pins:List (Addr×Obj)) (s:Shared) (Z:St) (H:Hp) (Q:Bool->Hp->Prop),Inv X pins Z H s->t Z H Q->wpAny (model X.prog X.w) X.A (isTrue e X.env whole) (TP X pins Z Q) X.xe s
theorem PW.pt {X:Cx} {e:Expr} {t:TT} (h:PW X e t):PT X e t:=h _
def PA (X:Cx) (es:List Expr) (t:TA):Prop :=
 ∀ (pos:Pos) (pins:List (Addr×Obj)) (s:Shared) (Z:St) (H:Hp) (Q:List V->Hp->Prop),Inv X pins Z H s->t Z H Q->wpAny (model X.prog X.w) X.A (spliced (backTo pos (starEach es X.env))) (AP X pins Z Q) X.xe s
def PS (X:Cx) (st:Stmt) (t:TS):Prop :=
 ∀ (pins:List (Addr×Obj)) (s:Shared) (Z:St) (H:Hp) (D:Ends),Inv X pins Z H s->t D Z H->wpAny (model X.prog X.w) X.A (exec st X.env) (SP X pins D) X.xe s
def PSs (X:Cx) (st:List Stmt) (t:TS):Prop :=
 ∀ (pins:List (Addr×Obj)) (s:Shared) (Z:St) (H:Hp) (D:Ends),Inv X pins Z H s->t D Z H->wpAny (model X.prog X.w) X.A (execs st X.env) (SP X pins D) X.xe s
theorem thn {α:Type} {t:Sem α} {Q Q':α->Shared->Prop} {M:Model} {A:Around} {E:Value->Shared->Prop} {s:Shared} (h:wpAny M A t Q E s) (hQ:∀ a s,Q a s->Q' a s):wpAny M A t Q' E s:=wpAny_mono h hQ λ_ _ x=>x
section
variable {X:Cx}
def Vc (i:Nat):TE:=λZ H Q=>∃ v,Z[i]?=some (some v)/\Q v H
def tC (v:V):TE:=λ_ H Q=>Q v H
theorem zfL {i:Nat} {x:Str} {pos:Pos} (hN:X.N[i]?=some x) (hv:Vis X.env.scope x) (hd:(x == ("__debug__" : Str))=false:=by decide) (hcd:(x == ("__classdict__" : Str))=false:=by decide):PE X (.Name x pos) (Vc i):=by
 intro pins s Z H Q I h
 obtain⟨v,e,h⟩:=h
 obtain⟨m,hn,hl⟩:=I.loc
 obtain⟨u,r,l⟩:=hl i x v hN e hv
 have fin:EP X pins Z Q u s:=⟨v,H,I,r,h⟩
 rcases l with ⟨hk,hm⟩ | ⟨hk,c,hc,hcell⟩
 ·exact wpAny_Name (wpAny_loadName_local I.ok.kind hk hn hm fin) hd
 ·rcases hk with hk | hk
  ·exact wpAny_Name (wpAny_loadName_cell I.ok.kind hk hc hcell fin) hd
  ·exact wpAny_Name (wpAny_loadName_free I.ok.kind hk hc hcell fin hcd) hd
theorem zr {i j pos}:PE X (.Constant (.int i) j pos) (tC (.int i)):=λ_ _ _ H _ I h=>wpAny_Constant_int ⟨.int i,H,I.tok _,⟨_,rfl⟩,h⟩
theorem wZ {b j pos}:PE X (.Constant (.bool b) j pos) (tC (.bl b)):=λ_ _ _ H _ I h=>Constant_bool ⟨.bl b,H,I,rfl,h⟩
theorem wD {j pos}:PE X (.Constant .none j pos) (tC .non):=λ_ _ _ H _ I h=>Constant_none ⟨.non,H,I,rfl,h⟩
theorem tK {x j pos}:PE X (.Constant (.str x) j pos) (tC (.str x)):=λ_ _ _ H _ I h=>Calls.Constant_str ⟨.str x,H,I.tok _,⟨_,rfl⟩,h⟩
def Gl (X:Cx) (x:Str):Prop:=X.env.kindOf x=some .globalImplicit
theorem jV {E:Value->Shared->Prop} {pins:List (Addr×Obj)} {s:Shared} {Z:St} {H:Hp} {x:Str} {u:Value} {pos:Pos} {Q:Value->Shared->Prop} (I:Inv X pins Z H s) (hg:Gl X x) (hm:X.mg x=some u) (h:Q u s)
  (hd:(x == ("__debug__" : Str))=false:=by decide):wpAny (model X.prog X.w) X.A (eval (.Name x pos) X.env) Q E s :=
 Calls.Name_function_global I.ok.kind hg (Calls.loadGlobal_global (by rw [I.ok.glob];exact I.mod.glob.keeps I.bk) hm h) hd
theorem ZC {E:Value->Shared->Prop} {pins:List (Addr×Obj)} {s:Shared} {Z:St} {H:Hp} {x:Str} {u:Value} {pos:Pos} {Q:Value->Shared->Prop} (I:Inv X pins Z H s) (hg:Gl X x) (hm:X.mg x=none) (hv:bootBuiltins x=some u) (h:Q u s)
  (hn:x ≠ "__name__":=by decide) (hd:(x == ("__debug__" : Str))=false:=by decide):wpAny (model X.prog X.w) X.A (eval (.Name x pos) X.env) Q E s:=by
 obtain⟨mb,h1,h2⟩:=I.mod.blt
 exact Calls.Name_function_global I.ok.kind hg (Calls.loadGlobal_builtin (by rw [I.ok.glob];exact I.mod.glob.keeps I.bk) hm (by rw [I.ok.blt];exact h1.keeps I.bk) ((h2 x hn).trans hv) h) hd
theorem yS {x:Str} {v:V} {u:Value} {pos:Pos} (hg:Gl X x) (hm:X.mg x=some u) (r:RelV v u) (hd:(x == ("__debug__" : Str))=false:=by decide):PE X (.Name x pos) (tC v) :=
 λ_ _ _ H _ I h=>jV I hg hm ⟨v,H,I,r,h⟩ hd
theorem Yl {x:Str} {v:V} {u:Value} {pos:Pos} (hg:Gl X x) (hm:X.mg x=none) (hv:bootBuiltins x=some u) (r:RelV v u) (hn:x ≠ "__name__":=by decide) (hd:(x == ("__debug__" : Str))=false:=by decide):PE X (.Name x pos) (tC v) :=
 λ_ _ _ H _ I h=>ZC I hg hm hv ⟨v,H,I,r,h⟩ hn hd
variable {a b:Expr} {ta tb:TE} {pos:Pos}
def tB (t:TE):TT:=λZ H Q=>t Z H λx H1=>∃ c,x=.bl c/\Q c H1
theorem vL {e:Expr} {t:TE} (h:PE X e t) (he:∀ whole,isTrue e X.env whole=(do let v <- whole;standAt e.pos;holding [v] (truthy v)):=by intro _;rfl):PT X e (tB t):=by
 intro pins s Z H Q I hw
 refine isTrue_plain (thn (h pins s Z H _ I hw) λv s1 ⟨x,H1,I1,r1,q1⟩=>?_) (he _)
 obtain⟨d,rfl,q⟩:=q1
 cases r1
 exact wpAny_truthy_bool ⟨H1,I1,q⟩
variable {tA tB':TT} {rest:List Expr}
def zgN (t u:TT):TT:=λZ H Q=>t Z H λc H1=>if c=true then u Z H1 Q else Q false H1
def tOr (t u:TT):TT:=λZ H Q=>t Z H λc H1=>if c=true then Q true H1 else u Z H1 Q
def zgM (t:TT):TT:=λZ H Q=>t Z H λc H1=>Q (!c) H1
theorem zdX (ha:PT X a tA):PW X (.BoolOp .And [a] pos) tA:=by
 intro wh pins s Z H Q I h
 refine isTrue_and (thn (ha pins s Z H Q I h) λc s1 e=>?_)
 cases c with
 | true=>exact isTrue_and_nil e
 | false=>exact e
theorem jW (ha:PT X a tA):PW X (.BoolOp .Or [a] pos) tA:=by
 intro wh pins s Z H Q I h
 refine isTrue_or (thn (ha pins s Z H Q I h) λc s1 e=>?_)
 cases c with
 | false=>exact isTrue_or_nil e
 | true=>exact e
theorem zfs (ha:PT X a tA) (hb:PW X (.BoolOp .And (b :: rest) pos) tB'):PW X (.BoolOp .And (a :: b :: rest) pos) (zgN tA tB'):=by
 intro wh pins s Z H Q I h
 refine isTrue_and (thn (ha pins s Z H _ I h) λc s1 ⟨H1,I1,q1⟩=>?_)
 cases c with
 | true=>exact hb wh pins s1 Z H1 Q I1 q1
 | false=>exact⟨H1,I1,q1⟩
theorem Xo (ha:PT X a tA) (hb:PW X (.BoolOp .Or (b :: rest) pos) tB'):PW X (.BoolOp .Or (a :: b :: rest) pos) (tOr tA tB'):=by
 intro wh pins s Z H Q I h
 refine isTrue_or (thn (ha pins s Z H _ I h) λc s1 ⟨H1,I1,q1⟩=>?_)
 cases c with
 | true=>exact⟨H1,I1,q1⟩
 | false=>exact hb wh pins s1 Z H1 Q I1 q1
theorem ZD (ha:PT X a tA):PT X (.UnaryOp .Not a pos) (zgM tA):=by
 intro pins s Z H Q I h
 exact isTrue_not (ha pins s Z H (λc H1=>Q (!c) H1) I h)
def zgp (ta tb:TE):TE:=λZ H Q=>ta Z H λx H1=>∃ c,x=.bl c/\if c=true then tb Z H1 Q else Q (.bl false) H1
def zf0 (ta:TE):TE:=λZ H Q=>ta Z H λx H1=>∃ c,x=.bl c/\Q (.bl (!c)) H1
theorem ZK {op} {t:TE} (h:PE X a t):PE X (.BoolOp op [a] pos) t:=λpins s Z H Q I hw=>BoolOp_one (h pins s Z H Q I hw)
theorem Zk (ha:PE X a ta) (hb:PE X (.BoolOp .And (b :: rest) pos) tb):PE X (.BoolOp .And (a :: b :: rest) pos) (zgp ta tb):=by
 intro pins s Z H Q I h
 refine BoolOp_and (thn (ha pins s Z H _ I h) λv s1 ⟨x,H1,I1,r1,q1⟩=>?_)
 obtain⟨c,rfl,q1⟩:=q1
 cases r1
 refine wpAny_truthy_bool ?_
 cases c with
 | true=>exact hb pins s1 Z H1 Q I1 q1
 | false=>exact⟨.bl false,H1,I1,rfl,q1⟩
theorem zcP (ha:PE X a ta):PE X (.UnaryOp .Not a pos) (zf0 ta):=by
 intro pins s Z H Q I h
 refine UnaryOp_ (thn (ha pins s Z H _ I h) λv s1 ⟨x,H1,I1,r1,q1⟩=>?_)
 obtain⟨c,rfl,q1⟩:=q1
 cases r1
 exact not_of (wpAny_truthy_bool ⟨.bl (!c),H1,I1,rfl,q1⟩)
def tIf (t:TT) (ta tb:TE):TE:=λZ H Q=>t Z H λc H1=>if c=true then ta Z H1 Q else tb Z H1 Q
theorem zcV {c:Expr} (hc:PT X c tA) (ha:PE X a ta) (hb:PE X b tb):PE X (.IfExp c a b pos) (tIf tA ta tb):=by
 intro pins s Z H Q I h
 refine wpAny_IfExp (thn (hc pins s Z H _ I h) λd s1 ⟨H1,I1,q1⟩=>?_)
 cases d with
 | true=>exact ha pins s1 Z H1 Q I1 q1
 | false=>exact hb pins s1 Z H1 Q I1 q1
end
def SqL (K:W.Frag) (H:Hp) (a:Addr) (xs:List V):Prop :=
 Rd H a (.lst xs) \/
  ∃ (o:Obj) (its:Array Value) (n:Nat),K.lookup a=some o/\o.cls=.type "list"/\o.dict=none/\o.data=.seq its n/\its.size<=sizeLine/\Vals xs its.toList
def SqT (K:W.Frag) (H:Hp) (a:Addr) (xs:List V):Prop :=
 Rd H a (.tup xs) \/
  ∃ (o:Obj) (its:Array Value) (n:Nat),K.lookup a=some o/\o.cls=.type "tuple"/\o.data=.seq its n/\its.size<=sizeLine/\Vals xs its.toList
def zgJ:Value->Option V
 | .none=>some .non
 | .bool b=>some (.bl b)
 | .int i _=>some (.int i)
 | .str x _=>some (.str x)
 | .bytes b _=>some (.byt b)
 | .float b _=>some (.flt b)
 | .ref a=>some (.ref a)
 | .type n=>some (.ty n)
 | _=>none
theorem RelV.abs {x:V} {u:Value} (r:RelV x u):zgJ u=some x:=by
 cases x with
 | non=>cases r;rfl
 | bl _=>cases r;rfl
 | int _=>obtain⟨t,rfl⟩:=r;rfl
 | str _=>obtain⟨t,rfl⟩:=r;rfl
 | byt _=>obtain⟨t,rfl⟩:=r;rfl
 | flt _=>obtain⟨t,rfl⟩:=r;rfl
 | ref _=>cases r;rfl
 | ty _=>cases r;rfl
theorem RelV.inj {x y:V} {u:Value} (r:RelV x u) (q:RelV y u):x=y:=Option.some.inj (r.abs.symm.trans q.abs)
theorem Vals.inj:∀ {xs ys:List V} {us:List Value},Vals xs us->Vals ys us->xs=ys
 | _,_,_,.nil,.nil=>rfl
 | _,_,_,.cons r t,.cons r' t'=>by rw [r.inj r',Vals.inj t t']
section
variable {X:Cx} {pins:List (Addr×Obj)} {Z:St} {H:Hp} {s:Shared} {a:Addr} {xs ys:List V}
theorem SqL.of {K:W.Frag} (h:H a=some (.lst xs)):SqL K H a xs:=.inl (.inl h)
theorem SqT.of {K:W.Frag} (h:H a=some (.tup xs)):SqT K H a xs:=.inl (.inl h)
theorem Inv.list (I:Inv X pins Z H s) (h:SqL X.K H a xs):∃ its:List Value,Vals xs its/\PlainL s.heap a its.toArray/\xs.length<=sizeLine:=by
 rcases h with h | ⟨o,its,n,hk,hc,hd,hs,hz,r⟩
 ·obtain⟨z,its,n,r,e⟩:=h.ok I.hok
  exact⟨its,r,⟨_,n,e,rfl,rfl,rfl⟩,z⟩
 ·refine⟨its.toList,r,⟨o,n,I.kIn a o hk,hc,hd,by simpa using hs⟩,?_⟩
  have e:=r.length
  simp only [Array.length_toList] at e
  omega
theorem Inv.tuple (I:Inv X pins Z H s) (h:SqT X.K H a xs):∃ its:List Value,Vals xs its/\IsTup s.heap a its.toArray/\xs.length<=sizeLine:=by
 rcases h with h | ⟨o,its,n,hk,hc,hs,hz,r⟩
 ·obtain⟨z,its,r,p⟩:=h.ok I.hok
  exact⟨its,r,p,z⟩
 ·refine⟨its.toList,r,⟨o,I.kIn a o hk,hc,n,by simpa using hs⟩,?_⟩
  have e:=r.length
  simp only [Array.length_toList] at e
  omega
theorem Inv.list_inj (I:Inv X pins Z H s) (h:SqL X.K H a xs) (h':SqL X.K H a ys):xs=ys:=by
 obtain⟨its,r,⟨o,n,e,_,_,d⟩,_⟩:=I.list h
 obtain⟨its',r',⟨o',n',e',_,_,d'⟩,_⟩:=I.list h'
 rw [e] at e';cases e'
 rw [d] at d'
 injection d' with d1 _
 have:its=its':=by simpa using congrArg Array.toList d1
 subst this
 exact r.inj r'
theorem Inv.tuple_inj (I:Inv X pins Z H s) (h:SqT X.K H a xs) (h':SqT X.K H a ys):xs=ys:=by
 obtain⟨its,r,⟨o,e,_,n,d⟩,_⟩:=I.tuple h
 obtain⟨its',r',⟨o',e',_,n',d'⟩,_⟩:=I.tuple h'
 rw [e] at e';cases e'
 rw [d] at d'
 injection d' with d1 _
 have:its=its':=by simpa using congrArg Array.toList d1
 subst this
 exact r.inj r'
end
abbrev Cx.wish (X:Cx) (E:Value->Shared->Prop):Cx:={ X with xe:=E }
abbrev Cx.nox (X:Cx):Cx:=X.wish λ_ _=>False
theorem Cx.Ok.wish {X:Cx} (ok:X.Ok) (E:Value->Shared->Prop):(X.wish E).Ok :=
 ⟨ok.mod,ok.kind,ok.glob,ok.blt,ok.above,ok.inj,ok.has,ok.cab,ok.hd,ok.frames,ok.stk,ok.exf,ok.bs,ok.bsz,ok.noex,ok.exfs,ok.funs,ok.frf⟩
theorem Cx.Ok.unwish {X:Cx} {E:Value->Shared->Prop} (ok:(X.wish E).Ok):X.Ok :=
 ⟨ok.mod,ok.kind,ok.glob,ok.blt,ok.above,ok.inj,ok.has,ok.cab,ok.hd,ok.frames,ok.stk,ok.exf,ok.bs,ok.bsz,ok.noex,ok.exfs,ok.funs,ok.frf⟩
section
variable {X:Cx} {pins:List (Addr×Obj)} {Z:St} {H:Hp} {s:Shared} {E:Value->Shared->Prop}
theorem Inv.wish (I:Inv X pins Z H s) (E:Value->Shared->Prop):Inv (X.wish E) pins Z H s:=⟨I.ok.wish E,I.os,I.bare,I.base,I.loc,I.cell,I.free,I.freeC,I.pin,I.hok,I.len⟩
theorem Inv.unwish (I:Inv (X.wish E) pins Z H s):Inv X pins Z H s:=⟨I.ok.unwish,I.os,I.bare,I.base,I.loc,I.cell,I.free,I.freeC,I.pin,I.hok,I.len⟩
theorem SP.unwish {D:Ends} {f:Flow} {s':Shared} (h:SP (X.wish E) pins D f s'):SP X pins D f s':=by
 cases f with
 | next=>obtain⟨σ',H',I,q⟩:=h;exact⟨σ',H',I.unwish,q⟩
 | brk=>obtain⟨σ',H',I,q⟩:=h;exact⟨σ',H',I.unwish,q⟩
 | cont=>obtain⟨σ',H',I,q⟩:=h;exact⟨σ',H',I.unwish,q⟩
 | ret u=>obtain⟨v,σ',H',I,r,q⟩:=h;exact⟨v,σ',H',I.unwish,r,q⟩
theorem PE.nox {e:Expr} {t:TE} (h:PE X.nox e t):PE X e t:=λpins s Z H Q I hw =>
 wpAny_mono (h pins s Z H Q (I.wish _) hw) (λ_ _ ⟨v,H',I',r,q⟩=>⟨v,H',I'.unwish,r,q⟩) λ_ _ z=>False.elim z
theorem PT.nox {e:Expr} {t:TT} (h:PT X.nox e t):PT X e t:=λpins s Z H Q I hw =>
 wpAny_mono (h pins s Z H Q (I.wish _) hw) (λ_ _ ⟨H',I',q⟩=>⟨H',I'.unwish,q⟩) λ_ _ z=>False.elim z
theorem PSs.nox {st:List Stmt} {t:TS} (h:PSs X.nox st t):PSs X st t:=λpins s Z H D I hw =>
 wpAny_mono (h pins s Z H D (I.wish _) hw) (λ_ _ q=>q.unwish) λ_ _ z=>False.elim z
end
section
variable {X:Cx} {st:Stmt} {rest:List Stmt} {t u:TS} {e:Expr} {te:TE} {pos:Pos}
def zeM:TS:=λD Z H=>D.nx Z H
def zdi (t u:TS):TS:=λD Z H=>t { D with nx:=u D } Z H
theorem yh:PSs X [] zeM:=λ_ _ Z H _ I h=>wpAny_execs_nil ⟨Z,H,I,h⟩
theorem zq (h1:PS X st t) (h2:PSs X rest u):PSs X (st :: rest) (zdi t u):=by
 intro pins s Z H D I h
 refine wpAny_execs_cons (thn (h1 pins s Z H { D with nx:=u D } I h) λf s1 q=>?_)
 cases f with
 | next =>
  obtain⟨σ',H',I',q⟩:=q
  exact h2 pins s1 σ' H' D I' q
 | ret v=>exact q
 | brk=>exact q
 | cont=>exact q
theorem zy (h1:PS X st t):PSs X [st] t:=by
 intro pins s Z H D I h
 refine wpAny_execs_cons (thn (h1 pins s Z H D I h) λf s1 q=>?_)
 cases f with
 | next=>exact wpAny_execs_nil q
 | ret v=>exact q
 | brk=>exact q
 | cont=>exact q
theorem Inv.quiet {pins:List (Addr×Obj)} {Z:St} {H:Hp} {s:Shared} (I:Inv X pins Z H s):interactive X.env=false:=by simp [interactive,I.ok.kind]
def zf6 (te:TE):TS:=λD Z H=>te Z H λ_ H1=>D.nx Z H1
theorem xX (he:PE X e te) (hs:swapsWith e none pos.line X.env=pure false:=by rfl):PS X (.Expr e pos) (zf6 te):=by
 intro pins s Z H D I h
 exact wpAny_Expr_any (thn (he pins s Z H _ I h) λv s1 ⟨x,H1,I1,r1,q1⟩=>⟨Z,H1,I1,q1⟩) I.quiet hs
def zgv (te:TE):TS:=λD Z H=>te Z H D.rt
theorem zM (he:PE X e te):PS X (.Return (some e) pos) (zgv te):=by
 intro pins s Z H D I h
 exact wpAny_Return_some (thn (he pins s Z H _ I h) λv s1 ⟨x,H1,I1,r1,q1⟩=>⟨x,Z,H1,I1,r1,q1⟩)
def zgG (c:TT) (t u:TS):TS:=λD Z H=>c Z H λb H1=>if b=true then t D Z H1 else u D Z H1
theorem xF {c:Expr} {a b:List Stmt} {tc:TT} (hc:PT X c tc) (ha:PSs X a t) (hb:PSs X b u):PS X (.If c a b pos) (zgG tc t u):=by
 intro pins s Z H D I h
 refine wpAny_If (thn (hc pins s Z H _ I h) λd s1 ⟨H1,I1,q1⟩=>?_)
 cases d with
 | true=>exact ha pins s1 Z H1 D I1 q1
 | false=>exact hb pins s1 Z H1 D I1 q1
def ze9:TS:=λ_ _ _=>False
theorem zcI {sts:List Stmt}:PSs X sts ze9:=λ_ _ _ _ _ _ h=>h.elim
end
abbrev TG:=V->St->Hp->(St->Hp->Prop)->Prop
abbrev TGs:=List V->St->Hp->(St->Hp->Prop)->Prop
def PG (X:Cx) (target:Expr) (t:TG):Prop :=
 ∀ (pins:List (Addr×Obj)) (s:Shared) (Z:St) (H:Hp) (v:V) (u:Value) (Q:St->Hp->Prop),Inv X pins Z H s->RelV v u->t v Z H Q ->
  wpAny (model X.prog X.w) X.A (assign target X.env u) (λ_ s'=>∃ σ' H',Inv X pins σ' H' s'/\Q σ' H') X.xe s
def PGs (X:Cx) (ts:List Expr) (t:TGs):Prop :=
 ∀ (pins:List (Addr×Obj)) (s:Shared) (Z:St) (H:Hp) (vs:List V) (us:List Value) (Q:St->Hp->Prop),Inv X pins Z H s->Vals vs us->t vs Z H Q ->
  wpAny (model X.prog X.w) X.A (assignInOrder ((assignEach ts X.env).map (·.2)) us) (λ_ s'=>∃ σ' H',Inv X pins σ' H' s'/\Q σ' H') X.xe s
abbrev zfT:=V->V->V->Hp->(Hp->Prop)->Prop
def zgw (X:Cx) (t:zfT):Prop :=
 ∀ (pins:List (Addr×Obj)) (s:Shared) (Z:St) (H:Hp) (o i v:V) (ov iv u:Value) (Q:Hp->Prop),Inv X pins Z H s->RelV o ov->RelV i iv->RelV v u->t o i v H Q ->
  wpAny (model X.prog X.w) X.A (setItem ov iv u) (λ_ s'=>∃ H',Inv X pins Z H' s'/\Q H') X.xe s
abbrev TIp:=V->V->Hp->VK->Prop
def PIp (X:Cx) (op:Operator) (t:TIp):Prop :=
 ∀ (pins:List (Addr×Obj)) (s:Shared) (Z:St) (H:Hp) (x y:V) (v u:Value) (Q:VK),Inv X pins Z H s->RelV x v->RelV y u->t x y H Q ->
  wpAny (model X.prog X.w) X.A (inplaceOp op v u) (EP X pins Z Q) X.xe s
section
variable {X:Cx} {pos:Pos}
def jJ (i:Nat):TG:=λv Z H Q=>Q (Z.set i (some v)) H
theorem yG {i:Nat} {x:Str} (hN:X.N.Nodup) (hi:X.N[i]?=some x) (hx:Loc X.env.scope x) (hf:X.fn x=true\/X.env.scope.names.lookup x=some .local:=by first | exact .inl rfl | exact .inr rfl | assumption):PG X (.Name x pos) (jJ i):=by
 intro pins s Z H v u Q I r h
 exact wpAny_assign_Name (XQ I hN hi hx r (λs' I'=>⟨_,H,I',h⟩) hf)
def zgt:TGs:=λvs Z H Q=>vs=[]/\Q Z H
def zcX (t:TG) (u:TGs):TGs:=λvs Z H Q=>∃ v r,vs=v :: r/\t v Z H fun σ' H'=>u r σ' H' Q
theorem X5:PGs X [] zgt:=by
 intro pins s Z H vs us Q I r h
 obtain⟨e,h⟩:=h
 subst e
 cases r
 exact assignInOrder_nil ⟨Z,H,I,h⟩
theorem wM {e:Expr} {es:List Expr} {t:TG} {u:TGs} (h1:PG X e t) (h2:PGs X es u)
  (hs:(assignEach (e :: es) X.env).map (·.2)=assign e X.env :: (assignEach es X.env).map (·.2):=by rfl):PGs X (e :: es) (zcX t u):=by
 intro pins s Z H vs us Q I r h
 obtain⟨v,vr,e1,h⟩:=h
 subst e1
 cases r with
 | cons r rr =>
  rw [hs]
  refine assignInOrder_cons (thn (h1 pins s Z H _ _ _ I r h) λ_ s1 ⟨σ1,H1,I1,q1⟩=>?_)
  exact h2 pins s1 σ1 H1 _ _ Q I1 rr q1
def zfC (K:W.Frag) (n:Nat) (t:TGs):TG:=λv Z H Q=>∃ a xs,v=.ref a/\SqT K H a xs/\xs.length=n/\t xs Z H Q
theorem Ut {es:List Expr} {k:Nat} {t:TGs} {n:Nat} (hc:X.calm=true) (h:PGs X es t)
  (hn:(assignEach es X.env).length=n:=by rfl) (hst:(assignEach es X.env).findIdx? (·.1)=none:=by rfl):PG X (.Tuple es k pos) (zfC X.K n t):=by
 intro pins s Z H v u Q I r hw
 obtain⟨a,xs,e1,hq,hl,hw⟩:=hw
 subst e1
 cases r
 obtain⟨its,rv,ht,hz⟩:=I.tuple hq
 refine assign_Tuple_tuple (I.ok.hd hc) ht (by simp [hn,<- hl,rv.length]) hst λh' hx=>?_
 have I1:Inv X pins Z H { s with heap:=h' }:=I.kept (t':=s.toks) λb o e=>hx b o (Nat.ne_of_lt (Heap.lt_size e)) e
 exact h pins _ Z H xs _ Q I1 (by simpa using rv) hw
def zgL (to ti:TE) (t:zfT):TG:=λv Z H Q=>to Z H λo H1=>ti Z H1 λi H2=>t o i v H2 λH3=>Q Z H3
theorem zcN {o i:Expr} {to ti:TE} {t:zfT} (ho:PE X o to) (hi:PE X i ti) (hs:zgw X t)
  (ha:∀ v,assign (.Subscript o i pos) X.env v=(do
   let ov <- holding [v] (eval o X.env)
   let iv <- holding [v,ov] (eval i X.env)
   standAt pos
   holding [v,ov,iv] (setItem ov iv v)
   release [v,ov,iv] []):=by intro _;rfl):PG X (.Subscript o i pos) (zgL to ti t):=by
 intro pins s Z H v u Q I r h
 rw [ha]
 refine wpAny_bind (wpAny_holding (thn (ho pins s Z H _ I h) λov s1 ⟨x,H1,I1,r1,q1⟩=>?_))
 refine wpAny_bind (wpAny_holding (thn (hi pins s1 Z H1 _ I1 q1) λiv s2 ⟨y,H2,I2,r2,q2⟩=>?_))
 refine wpAny_bind (wpAny_standAt (wpAny_bind (wpAny_holding (thn (hs pins s2 Z H2 x y v ov iv u _ I2 r1 r2 r q2) λ_ s3 ⟨H3,I3,q3⟩=>?_))))
 exact wpAny_release ⟨Z,H3,I3,q3⟩
def U6 (te:TE) (g:TG):TS:=λD Z H=>te Z H λx H1=>g x Z H1 D.nx
theorem Vx {tg e:Expr} {te:TE} {g:TG} (he:PE X e te) (hg:PG X tg g) (hs:swapsWithSole [tg] e pos.line X.env=pure false:=by rfl) (hw:swappedStores [tg] e X.env=pure none:=by rfl)
  (h1:(assignEach [tg] X.env).map (·.2)=[assign tg X.env]:=by rfl):PS X (.Assign [tg] e pos) (U6 te g):=by
 intro pins s Z H D I h
 refine wpAny_Assign_stores (thn (he pins s Z H _ I h) λv s1 ⟨x,H1,I1,r1,q1⟩=>?_) hs hw
 rw [h1]
 exact thn (hg pins s1 Z H1 x v _ I1 r1 q1) λ_ s2 q=>q
theorem zG {i:Nat} {x:Str} {e:Expr} {te:TE} {pos':Pos} (hN:X.N.Nodup) (hi:X.N[i]?=some x) (hx:Loc X.env.scope x) (he:PE X e te) (hs:swapsWith e (some (.Name x pos')) pos.line X.env=pure false:=by rfl) (hf:X.fn x=true\/X.env.scope.names.lookup x=some .local:=by first | exact .inl rfl | exact .inr rfl | assumption) :
  PS X (.Assign [.Name x pos'] e pos) (U6 te (jJ i)):=by
 intro pins s Z H D I h
 refine wpAny_Assign_Name (thn (he pins s Z H _ I h) λv s1 ⟨y,H1,I1,r1,q1⟩=>?_) hs
 exact XQ I1 hN hi hx r1 (λs2 I2=>⟨_,H1,I2,q1⟩) hf
def zgR (i:Nat) (te:TE) (ti:TIp):TS:=λD Z H=>∃ x,Z[i]?=some (some x)/\te Z H λy H1=>ti x y H1 λz H2=>D.nx (Z.set i (some z)) H2
theorem zfn {i:Nat} {x:Str} {e:Expr} {te:TE} {op:Operator} {ti:TIp} {pos':Pos} (hN:X.N.Nodup) (hi:X.N[i]?=some x) (hx:Loc X.env.scope x) (he:PE X e te) (ho:PIp X op ti) (hf:X.fn x=true\/X.env.scope.names.lookup x=some .local:=by first | exact .inl rfl | exact .inr rfl | assumption) :
  PS X (.AugAssign (.Name x pos') op e pos) (zgR i te ti):=by
 intro pins s Z H D I h
 obtain⟨v,e1,h⟩:=h
 obtain⟨m,hn,hl⟩:=I.loc
 have vis:Vis X.env.scope x:=by rcases hx with k | k;exact .inl k;exact .inr (.inl k)
 obtain⟨u,r,l⟩:=hl i x v hi e1 vis
 refine wpAny_AugAssign_Name ?_
 have go:wpAny (model X.prog X.w) X.A (eval e X.env) (λw s₂=>wpAny (model X.prog X.w) X.A (inplaceOp op u w) (λr s₃=>wpAny (model X.prog X.w) X.A (storeName X.env x r) (λ_=>SP X pins D .next) X.xe s₃) X.xe s₂) X.xe s:=by
  refine thn (he pins s Z H _ I h) λw s1 ⟨y,H1,I1,r1,q1⟩=>?_
  refine thn (ho pins s1 Z H1 v y u w _ I1 r r1 q1) λz s2 ⟨zv,H2,I2,r2,q2⟩=>?_
  exact XQ I2 hN hi hx r2 (λs3 I3=>⟨_,H2,I3,q2⟩) hf
 rcases l with ⟨hk,hm⟩ | ⟨hk,c,hc,hcell⟩
 ·exact wpAny_loadName_local I.ok.kind hk hn hm go
 ·rcases hk with hk | hk
  ·exact wpAny_loadName_cell I.ok.kind hk hc hcell go
  ·rcases hx with k | k
   ·have:X.env.scope.names.lookup x=some .free:=hk
    rw [k] at this;cases this
   ·have:X.env.scope.names.lookup x=some .free:=hk
    rw [k] at this;cases this
def ipI (f:Int->Int->Int):TIp:=λx y H Q=>∃ i j,x=.int i/\y=.int j/\Q (.int (f i j)) H
theorem zfP:PIp X .Add (ipI λi j=>i+j):=by
 intro pins s Z H x y v u Q I r1 r2 h
 obtain⟨i,j,e1,e2,q⟩:=h
 subst e1;subst e2
 obtain⟨t,rfl⟩:=r1
 obtain⟨t',rfl⟩:=r2
 exact iadd_int ⟨.int _,H,I.tok _,⟨_,rfl⟩,q⟩
def zdf (c:TT) (tb:TS):TS:=λD Z H=>∃ W:Nat->St->Hp->Prop,(∃ m,W m Z H)/\∀ m Z H,W m Z H ->
 c Z H λb H1=>if b=true then ∃ N:St->Hp->Prop,(∀ σ' H',N σ' H'->∃ m',m'<m/\W m' σ' H')/\tb { D with nx:=N,ct:=N,bk:=D.nx } Z H1 else D.nx Z H1
theorem zaE {c:Expr} {body:List Stmt} {tc:TT} {tb:TS} (hp:PassesOwn (model X.prog X.w) X.A X.env X.xe) (hc:PT X c tc) (hb:PSs X body tb):PS X (.While c body [] pos) (zdf tc tb):=by
 intro pins s Z H D I h
 obtain⟨W,⟨m0,w0⟩,turn⟩:=h
 refine wpAny_While (codeAny_whileLoop (λn s'=>∃ σ' H',Inv X pins σ' H' s'/\W n σ' H') ?_ m0 ⟨Z,H,I,w0⟩)
 rintro n s1 ⟨σ1,H1,I1,w1⟩
 refine wpAny_passesOwn hp (thn (hc pins s1 σ1 H1 _ I1 (turn n σ1 H1 w1)) λb s2 ⟨H2,I2,q2⟩=>?_)
 cases b with
 | true =>
  obtain⟨N,hN,q2⟩:=q2
  rw [if_pos rfl]
  refine wpAny_passesOwn hp (thn (hb pins s2 σ1 H2 _ I2 q2) λf s3 q3=>?_)
  cases f with
  | next =>
   obtain⟨σ3,H3,I3,n3⟩:=q3
   obtain⟨m',hm,w3⟩:=hN σ3 H3 n3
   exact⟨m',hm,σ3,H3,I3,w3⟩
  | cont =>
   obtain⟨σ3,H3,I3,n3⟩:=q3
   obtain⟨m',hm,w3⟩:=hN σ3 H3 n3
   exact⟨m',hm,σ3,H3,I3,w3⟩
  | brk=>exact q3
  | ret v=>exact q3
 | false =>
  rw [if_neg Bool.false_ne_true]
  exact wpAny_execs_nil ⟨σ1,H2,I2,q2⟩
end
structure It where
 go:Nat->Hp->Prop
 yld:Nat->Hp->V->Hp->Prop
 stop:Nat->Hp->Prop
def Wb (X:Cx) (pins:List (Addr×Obj)) (H:Hp) (b:Addr):Prop :=
 H b=none/\b≠X.env.locals/\b∉X.fs/\(b∈X.ex\/X.s₀.heap.objs.size<=b)/\(∀ x c,X.env.cells.lookup x=some c->c≠b)/\∀ p∈X.pn++pins,p.1≠b
theorem Inv.fpOk {X:Cx} {pins:List (Addr×Obj)} {Z:St} {H H':Hp} {s:Shared} {b:Addr} (I:Inv X pins Z H s) (hb:s.heap.objs.size<=b) (hn:H' b=none):Wb X pins H' b:=by
 refine⟨hn,Nat.ne_of_gt (Nat.lt_of_lt_of_le I.lt hb),I.nofs hb,.inr (Nat.le_trans I.sz hb),λx c e z=>?_,λp hp z=>?_⟩
 ·obtain⟨v,q⟩:=I.cell x c e
  exact absurd (Nat.lt_of_lt_of_le q.lt (by rw [z];exact hb)) (Nat.lt_irrefl _)
 ·exact absurd (Nat.lt_of_lt_of_le (Heap.lt_size (I.pin p hp).1) (by rw [z];exact hb)) (Nat.lt_irrefl _)
structure Turn (P:Program) (w:World) (K:W.Frag) (tg:Expr) (J:It) (fp:List Addr) (it:Addr) (tn:Nat->Heap->Prop):Prop where
 mem:it∈fp
 obj:∀ i h,tn i h->∀ b∈fp,∃ o,h.get? b=some o/\∀ v,o.data≠.cell v
 keep:∀ i h h',tn i h->(∀ b∈fp,∀ o,h.get? b=some o->h'.get? b=some o)->tn i h'
 item:∀ (X:Cx),X.prog=P->X.w=w->X.K=K->X.calm=true->∀ (i:Nat) (pins:List (Addr×Obj)) (s:Shared) (Z:St) (H:Hp) (E:Value->Shared->Prop),Inv X pins Z H s->(∀ b∈fp,Wb X pins H b)->tn i s.heap->J.go i H ->
  wpAny (model P w) X.A (pyNext (.ref it)) (λr s1=>∃ u,r=some u /\
   wpAny (model P w) X.A (letOwnedTupleGo tg (.ref it) u) (λ_ s2=>∃ x H',Inv X pins Z H' s2/\RelV x u/\J.yld i H x H'/\tn (i+1) s2.heap/\∀ b∈fp,H' b=none) E s1) E s
 done:∀ (X:Cx),X.prog=P->X.w=w->X.K=K->X.calm=true->∀ (i:Nat) (pins:List (Addr×Obj)) (s:Shared) (Z:St) (H:Hp) (E:Value->Shared->Prop),Inv X pins Z H s->(∀ b∈fp,Wb X pins H b)->tn i s.heap->J.stop i H ->
  wpAny (model P w) X.A (pyNext (.ref it)) (λr s1=>r=none/\Inv X pins Z H s1) E s
 self:∀ (A:Around) (i:Nat) (s:Shared) (Q:Value->Shared->Prop) (E:Value->Shared->Prop),tn i s.heap->Q (.ref it) s->wpAny (model P w) A (pyIter (.ref it)) Q E s
abbrev TI:=St->Hp->(It->Hp->Prop)->Prop
def PIE (X:Cx) (pins:List (Addr×Obj)) (Z:St) (tg:Expr) (R:It->Hp->Prop) (itv:Value) (s2:Shared):Prop :=
 ∃ (it:Addr) (fp:List Addr) (tn:Nat->Heap->Prop) (J:It) (H':Hp),itv=.ref it/\Inv X pins Z H' s2/\Turn X.prog X.w X.K tg J fp it tn/\tn 0 s2.heap/\(∀ b∈fp,Wb X pins H' b)/\R J H'
def PI (X:Cx) (tg iter:Expr) (wi:TI):Prop :=
 ∀ (pins:List (Addr×Obj)) (s:Shared) (Z:St) (H:Hp) (R:It->Hp->Prop),Inv X pins Z H s->wi Z H R ->
  wpAny (model X.prog X.w) X.A (eval iter X.env) (λv s1=>wpAny (model X.prog X.w) X.A (pyIter v) (PIE X pins Z tg R) X.xe s1) X.xe s
theorem zdE {M:Model} {A:Around} {E:Value->Shared->Prop} {s:Shared} {tg:Expr} {it:Addr} {u:Value} {o:Obj} {n:String} {vs:Array Value} {Q:Unit->Shared->Prop} (ho:s.heap.get? it=some o) (hc:o.cls=.type n) (hd:o.data=.fields vs)
    (hn:["enumerate","zip","dict_itemiterator","dict_reverseitemiterator","odict_iterator","itertools.zip_longest","itertools.pairwise"].contains n=false) (hQ:Q () s):wpAny M A (letOwnedTupleGo tg (.ref it) u) Q E s:=by
  unfold letOwnedTupleGo
  cases tg<;>first
    | exact wpAny_pure hQ
    | (cases u<;>first
        | exact wpAny_pure hQ
        | (refine wpAny_bind (wpAny_load ho ?_)
           rw [hc,hd]
           show wpAny M A (if (["enumerate","zip","dict_itemiterator","dict_reverseitemiterator","odict_iterator","itertools.zip_longest","itertools.pairwise"].contains n && vs[0]? == some (rawInt _))=true then _ else _) Q E s
           rw [if_neg (by intro h;rw [hn,Bool.false_and] at h;cases h)]
           exact wpAny_pure hQ))
def Itl (K:W.Frag) (a:Addr):It :=
 ⟨λi H=>∃ xs x,SqL K H a xs/\xs[i]?=some x,λi H x H'=>H'=H/\∀ xs,SqL K H a xs->xs[i]?=some x,λi H=>∃ xs,SqL K H a xs/\xs.length<=i⟩
def Itt (K:W.Frag) (a:Addr):It :=
 ⟨λi H=>∃ xs x,SqT K H a xs/\xs[i]?=some x,λi H x H'=>H'=H/\∀ xs,SqT K H a xs->xs[i]?=some x,λi H=>∃ xs,SqT K H a xs/\xs.length<=i⟩
def Itr (lo:Int) (n:Nat):It:=⟨λi _=>i<n,λi H x H'=>H'=H/\x=.int (lo+i),λi _=>n<=i⟩
theorem zb9 {P:Program} {w:World} {K:W.Frag} {tg:Expr} (a it:Addr):Turn P w K tg (Itl K a) [it] it (λi h=>h.IsListIter it a i) where
 mem:=by simp
 obj:=λi h st b hb=>by
  have e:b=it:=by simpa using hb
  subst e
  obtain⟨o,e,c,d⟩:=st
  exact⟨o,e,λv z=>by rw [d] at z;cases z⟩
 keep:=λi h h' st k=>st.at λo e=>k it (by simp) o e
 item:=by
  intro X hP hw hK hc i pins s Z H E I hf st hg
  subst hP hw hK
  obtain⟨xs,x,hq,hx⟩:=hg
  obtain⟨its,rv,p,hz⟩:=I.list hq
  obtain⟨u,hu,ru⟩:=rv.get hx
  obtain⟨f0,f1,f2,f3,f4,f5⟩:=hf it (by simp)
  refine wpAny_pyNext_list_item st p.isList (x:=u) (by simpa using hu) λh' st' sb=>?_
  have I1:Inv X pins Z H { s with heap:=h' }:=I.turned (t':=s.toks) (λb o hb e=>(sb.2 b hb).trans e) f0 f1 f3 f4 f5
  obtain⟨o,e,c,d⟩:=id st'
  exact⟨u,rfl,zdE (s:={ s with heap:=h' }) e c d (by decide) ⟨x,H,I1,ru,⟨rfl,λys hy=>by rw [I.list_inj hy hq];exact hx⟩,st',λb hb=>(hf b hb).1⟩⟩
 done:=by
  intro X hP hw hK hc i pins s Z H E I hf st hg
  subst hP hw hK
  obtain⟨xs,hq,hx⟩:=hg
  obtain⟨its,rv,p,hz⟩:=I.list hq
  obtain⟨f0,f1,f2,f3,f4,f5⟩:=hf it (by simp)
  have hl:=rv.length
  exact wpAny_pyNext_list_end (I.ok.hd hc) st p.isList (by simp;omega) λh' eb=>⟨rfl,I.turned (t':=s.toks) (λb o hb e=>eb b o hb e) f0 f1 f3 f4 f5⟩
 self:=λ_ _ _ _ _ st h=>wpAny_pyIter_listiter st h
theorem zaR {P:Program} {w:World} {K:W.Frag} {tg:Expr} (a it:Addr):Turn P w K tg (Itt K a) [it] it (λi h=>h.IsTupleIter it a i) where
 mem:=by simp
 obj:=λi h st b hb=>by
  have e:b=it:=by simpa using hb
  subst e
  obtain⟨o,e,c,d⟩:=st
  exact⟨o,e,λv z=>by rw [d] at z;cases z⟩
 keep:=λi h h' st k=>st.at λo e=>k it (by simp) o e
 item:=by
  intro X hP hw hK hc i pins s Z H E I hf st hg
  subst hP hw hK
  obtain⟨xs,x,hq,hx⟩:=hg
  obtain⟨its,rv,p,hz⟩:=I.tuple hq
  obtain⟨u,hu,ru⟩:=rv.get hx
  obtain⟨f0,f1,f2,f3,f4,f5⟩:=hf it (by simp)
  refine wpAny_pyNext_tuple_item st (show s.heap.IsTuple a its.toArray from p) (x:=u) (by simpa using hu) λh' st' sb=>?_
  have I1:Inv X pins Z H { s with heap:=h' }:=I.turned (t':=s.toks) (λb o hb e=>(sb.2 b hb).trans e) f0 f1 f3 f4 f5
  obtain⟨o,e,c,d⟩:=id st'
  exact⟨u,rfl,zdE (s:={ s with heap:=h' }) e c d (by decide) ⟨x,H,I1,ru,⟨rfl,λys hy=>by rw [I.tuple_inj hy hq];exact hx⟩,st',λb hb=>(hf b hb).1⟩⟩
 done:=by
  intro X hP hw hK hc i pins s Z H E I hf st hg
  subst hP hw hK
  obtain⟨xs,hq,hx⟩:=hg
  obtain⟨its,rv,p,hz⟩:=I.tuple hq
  obtain⟨f0,f1,f2,f3,f4,f5⟩:=hf it (by simp)
  have hl:=rv.length
  exact wpAny_pyNext_tuple_end (I.ok.hd hc) st (show s.heap.IsTuple a its.toArray from p) (by simp;omega) λh' eb=>⟨rfl,I.turned (t':=s.toks) (λb o hb e=>eb b o hb e) f0 f1 f3 f4 f5⟩
 self:=λ_ _ _ _ _ st h=>wpAny_pyIter_tupleiter st h
theorem za3 {P:Program} {w:World} {K:W.Frag} {tg:Expr} (it:Addr) (lo:Int) (n:Nat):Turn P w K tg (Itr lo n) [it] it (λi h=>IsRangeIter h it (lo+(i:Nat)*1) ((n:Int)-(i:Nat)) 1) where
 mem:=by simp
 obj:=λi h st b hb=>by
  have e:b=it:=by simpa using hb
  subst e
  exact⟨_,st,λv z=>by
   have z':Data.fields _=Data.cell v:=z
   cases z'⟩
 keep:=λi h h' st k=>k it (by simp) _ st
 item:=by
  intro X hP hw hK hc i pins s Z H E I hf st hg
  subst hP hw hK
  obtain⟨f0,f1,f2,f3,f4,f5⟩:=hf it (by simp)
  have W:=Walks.range (prog:=X.prog) (w:=X.w) (I.ok.hd hc) it lo 1 n
  refine W.item i s _ _ hg st λv h' tk hv st' kk=>?_
  obtain⟨t,rfl⟩:=hv
  have I1:Inv X pins Z H { s with heap:=h',toks:=tk }:=I.turned (λb o hb e=>kk b o (by simpa using hb) e) f0 f1 f3 f4 f5
  refine⟨_,rfl,zdE (s:={ s with heap:=h',toks:=tk }) (n:="range_iterator") st' rfl rfl (by decide) ⟨.int (lo+i),H,I1,⟨t,?_⟩,⟨rfl,rfl⟩,st',λb hb=>(hf b hb).1⟩⟩
  rw [Int.mul_one]
 done:=by
  intro X hP hw hK hc i pins s Z H E I hf st hg
  subst hP hw hK
  obtain⟨f0,f1,f2,f3,f4,f5⟩:=hf it (by simp)
  exact wpAny_pyNext_range_end (I.ok.hd hc) st (by have:n<=i:=hg;omega) λh' eb=>⟨rfl,I.turned (t':=s.toks) (λb o hb e=>eb b o hb e) f0 f1 f3 f4 f5⟩
 self:=λ_ _ _ _ _ st h=>wpAny_pyIter_rangeiter st h
section
variable {X:Cx} {tg:Expr}
def zdr (K:W.Frag) (tl:TE):TI:=λZ H R=>tl Z H λx H1=>∃ a,x=.ref a/\(∃ xs,SqL K H1 a xs)/\R (Itl K a) H1
def zgI (K:W.Frag) (tl:TE):TI:=λZ H R=>tl Z H λx H1=>∃ a,x=.ref a/\(∃ xs,SqT K H1 a xs)/\R (Itt K a) H1
theorem zep {l:Expr} {tl:TE} (hl:PE X l tl):PI X tg l (zdr X.K tl):=by
 intro pins s Z H R I h
 refine thn (hl pins s Z H _ I h) λv s1 ⟨x,H1,I1,r1,q1⟩=>?_
 obtain⟨a,e,⟨xs,hq⟩,q⟩:=q1
 subst e
 cases r1
 obtain⟨its,rv,p,hz⟩:=I1.list hq
 refine wpAny_pyIter_list p.isList ?_
 refine⟨s1.heap.objs.size,[s1.heap.objs.size],_,_,H1,rfl,I1.kept (t':=s1.toks) λb o e=>Heap.get?_push_of_some _ e,zb9 a _,⟨_,Heap.get?_push_size _ rfl,rfl,rfl⟩,λb hb=>?_,q⟩
 have e:b=s1.heap.objs.size:=by simpa using hb
 subst e
 exact I1.fpOk (Nat.le_refl _) (I1.hok.fresh (Nat.le_refl _))
theorem zfc {l:Expr} {tl:TE} (hl:PE X l tl):PI X tg l (zgI X.K tl):=by
 intro pins s Z H R I h
 refine thn (hl pins s Z H _ I h) λv s1 ⟨x,H1,I1,r1,q1⟩=>?_
 obtain⟨a,e,⟨xs,hq⟩,q⟩:=q1
 subst e
 cases r1
 obtain⟨its,rv,p,hz⟩:=I1.tuple hq
 refine wpAny_pyIter_tuple (show s1.heap.IsTuple a its.toArray from p) ?_
 refine⟨s1.heap.objs.size,[s1.heap.objs.size],_,_,H1,rfl,I1.kept (t':=s1.toks) λb o e=>Heap.get?_push_of_some _ e,zaR a _,⟨_,Heap.get?_push_size _ rfl,rfl,rfl⟩,λb hb=>?_,q⟩
 have e:b=s1.heap.objs.size:=by simpa using hb
 subst e
 exact I1.fpOk (Nat.le_refl _) (I1.hok.fresh (Nat.le_refl _))
theorem zaq {pins:List (Addr×Obj)} {Z:St} {H:Hp} {s:Shared} {R:It->Hp->Prop} {E:Value->Shared->Prop} {lo hi:Int} {t u v:Tok} {tk:Nat} (I:Inv X pins Z H s) (h1:-(2^62)<=lo) (h2:lo<2^62) (h3:-(2^62)<=hi) (h4:hi<2^62)
  (q:R (Itr lo (hi-lo).toNat) H):wpAny (model X.prog X.w) X.A (pyIter (.ref s.heap.objs.size)) (PIE X pins Z tg R) E { s with heap:=s.heap.push { cls:=.type "range",data:=.fields #[.int lo t,.int hi u,.int 1 v] },toks:=tk }:=by
 refine wpAny_pyIter_range (IsRange.new ..) (small_one h1 h2 h3 h4) ?_
 have I1:Inv X pins Z H { s with heap:=s.heap.push { cls:=.type "range",data:=.fields #[.int lo t,.int hi u,.int 1 v] },toks:=tk }:=I.kept λb o e=>Heap.get?_push_of_some _ e
 refine⟨(s.heap.push { cls:=.type "range",data:=.fields #[.int lo t,.int hi u,.int 1 v] }).objs.size,[(s.heap.push { cls:=.type "range",data:=.fields #[.int lo t,.int hi u,.int 1 v] }).objs.size],_,_,H,rfl,
  I1.kept (t':=tk) λb o e=>Heap.get?_push_of_some _ e,za3 _ lo (hi-lo).toNat,?_,λb hb=>?_,q⟩
 ·have e1:lo+((0:Nat):Int)*1=lo:=by simp
  have e2:(((hi-lo).toNat:Nat):Int)-((0:Nat):Int)=Builtin.Range.rangeSize lo hi 1:=by rw [rangeSize_one];split<;>omega
  show IsRangeIter _ _ (lo+((0:Nat):Int)*1) ((((hi-lo).toNat:Nat):Int)-((0:Nat):Int)) 1
  rw [e1,e2]
  exact Heap.get?_push_size _ rfl
 ·have e:b=(s.heap.push { cls:=.type "range",data:=.fields #[.int lo t,.int hi u,.int 1 v] }).objs.size:=by simpa using hb
  subst e
  exact I1.fpOk (Nat.le_refl _) (I1.hok.fresh (Nat.le_refl _))
def zgz (ta:TA):TI:=λZ H R=>ta Z H λvs H1=>∃ j:Int,vs=[.int j]/\-(2^62)<=j/\j<2^62/\R (Itr 0 j.toNat) H1
def zgi (ta:TA):TI:=λZ H R=>ta Z H λvs H1=>∃ i j:Int,vs=[.int i,.int j]/\(-(2^62)<=i/\i<2^62/\-(2^62)<=j/\j<2^62)/\R (Itr i (j-i).toNat) H1
theorem wC {a:Expr} {ta:TA} {p pos:Pos} (hg:Gl X "range") (hm:X.mg "range" = none) (ha:PA X [a] ta) (hs:starEach [a] X.env=[(false,eval a X.env)]:=by rfl):PI X tg (.Call (.Name "range" p) [a] [] pos) (zgz ta):=by
 intro pins s Z H R I h
 refine Call_ (ZC I hg hm boot_range (PyProof.Rows.callWith_type1 (thn (ha pos pins s Z H _ I h) λus s1 ⟨vs,H1,I1,r1,q1⟩=>?_) hs rfl))
 obtain⟨j,e,q1,q2,q⟩:=q1
 subst e
 cases r1 with
 | cons r rr =>
  cases rr
  obtain⟨t,rfl⟩:=r
  exact call_range_1 (zaq I1 (by omega) (by omega) q1 q2 (by simpa using q))
theorem zck {a b:Expr} {ta:TA} {p pos:Pos} (hg:Gl X "range") (hm:X.mg "range" = none) (ha:PA X [a,b] ta) (hs:starEach [a,b] X.env=[(false,eval a X.env),(false,eval b X.env)]:=by rfl) (hs2:starEach [b] X.env=[(false,eval b X.env)]:=by rfl) :
  PI X tg (.Call (.Name "range" p) [a,b] [] pos) (zgi ta):=by
 intro pins s Z H R I h
 refine Call_ (ZC I hg hm boot_range (PyProof.Rows.callWith_type1 (thn (ha pos pins s Z H _ I h) λus s1 ⟨vs,H1,I1,r1,q1⟩=>?_) (by rw [hs,hs2]) (by rw [hs2];rfl)))
 obtain⟨i,j,e,⟨q1,q2,q3,q4⟩,q⟩:=q1
 subst e
 cases r1 with
 | cons r rr =>
  cases rr with
  | cons r' rr =>
   cases rr
   obtain⟨t,rfl⟩:=r
   obtain⟨t',rfl⟩:=r'
   exact call_range_2 (zaq I1 q1 q2 q3 q4 q)
def zgD (wi:TI) (g:TG) (tb:TS):TS:=λD Z H=>wi Z H λJ H1=>∃ W:Nat->Nat->St->Hp->Prop,(∃ m,W 0 m Z H1)/\∀ i m Z H,W i m Z H ->
 (J.stop i H/\D.nx Z H)\/(J.go i H/\∃ N:St->Hp->Prop,(∀ σ' H',N σ' H'->∃ m',m'<m/\W (i+1) m' σ' H')/\∀ x H',J.yld i H x H'->g x Z H' fun σ2 H2=>tb { D with nx:=N,ct:=N,bk:=D.nx } σ2 H2)
def ZV (fp:List Addr) (h:Heap):List (Addr×Obj):=fp.filterMap λb=>(h.get? b).map λo=>(b,o)
theorem Zq {fp:List Addr} {h:Heap} {b:Addr} {o:Obj} (hb:b∈fp) (e:h.get? b=some o):(b,o)∈ZV fp h:=List.mem_filterMap.mpr ⟨b,hb,by rw [e];rfl⟩
theorem zcJ {fp:List Addr} {h:Heap} {p:Addr×Obj} (hp:p∈ZV fp h):p.1∈fp/\h.get? p.1=some p.2:=by
 obtain⟨b,hb,e⟩:=List.mem_filterMap.mp hp
 cases q:h.get? b with
 | none=>rw [q] at e;cases e
 | some o =>
  rw [q] at e
  have e':(b,o)=p:=Option.some.inj e
  subst e'
  exact⟨hb,q⟩
theorem Inv.pinned {pins:List (Addr×Obj)} {Z:St} {H:Hp} {s:Shared} {fp:List Addr} (I:Inv X pins Z H s) (hf:∀ b∈fp,Wb X pins H b) (ho:∀ b∈fp,∃ o,s.heap.get? b=some o/\∀ v,o.data≠.cell v):Inv X (pins++ZV fp s.heap) Z H s :=
 I.pins_of λp hp=>(List.mem_append.mp hp).elim (λz=>I.pin p (List.mem_append_right _ z)) λz=>by
  obtain⟨hb,e⟩:=zcJ z
  obtain⟨f0,f1,f2,_⟩:=hf p.1 hb
  obtain⟨o,e',d⟩:=ho p.1 hb
  rw [e] at e';cases e'
  exact⟨e,f0,f1,f2,d⟩
theorem Inv.unpinned {pins pl:List (Addr×Obj)} {Z:St} {H:Hp} {s:Shared} (I:Inv X (pins++pl) Z H s):Inv X pins Z H s:=I.pins_of λp hp=>I.pin p (List.mem_append_right _ (List.mem_append_left _ hp))
theorem jY {iter:Expr} {body:List Stmt} {wi:TI} {g:TG} {tb:TS} {pos:Pos} (hp:PassesOwn (model X.prog X.w) X.A X.env X.xe) (hc:X.calm=true) (hi:PI X tg iter wi) (hg:PG X tg g) (hb:PSs X body tb)
  (hs:∀ x,foldedSetIterable iter X.env x=pure x:=by intro _;rfl):PS X (.For tg iter body [] pos) (zgD wi g tb):=by
 intro pins s Z H D I h
 refine wpAny_For (thn (hi pins s Z H _ I h) λv s1 h1=>thn h1 λitv s2 h2=>?_) hs
 obtain⟨it,fp,tn,J,H2,e,I2,T,st2,f2,W,⟨m0,w0⟩,turn⟩:=h2
 subst e
 have stat:∀ {H':Hp},(∀ b∈fp,H' b=none)->∀ b∈fp,Wb X pins H' b:=λhn b hb=>⟨hn b hb,(f2 b hb).2⟩
 refine codeAny_forLoop_any (λn s'=>∃ i σ' H',Inv X pins σ' H' s'/\tn i s'.heap/\(∀ b∈fp,H' b=none)/\W i n σ' H') ?_ m0 ⟨0,Z,H2,I2,st2,λb hb=>(f2 b hb).1,w0⟩
 rintro n s3 ⟨i,σ3,H3,I3,st3,fr3,w3⟩
 rcases turn i n σ3 H3 w3 with ⟨stop,qn⟩ | ⟨go,N,hN,step⟩
 ·refine wpAny_passesOwn hp (thn (T.done X rfl rfl rfl hc i pins s3 σ3 H3 X.xe I3 (stat fr3) st3 stop) λr s4 ⟨hr,I4⟩=>?_)
  subst hr
  exact wpAny_execs_nil ⟨σ3,H3,I4,qn⟩
 ·refine wpAny_passesOwn hp (thn (T.item X rfl rfl rfl hc i pins s3 σ3 H3 X.xe I3 (stat fr3) st3 go) λr s4 ⟨u,hr,h4⟩=>?_)
  subst hr
  refine wpAny_passesOwn hp (thn h4 λ_ s5 ⟨x,H5,I5,r5,y5,st5,fr5⟩=>?_)
  have I5':=I5.pinned (stat fr5) (T.obj _ _ st5)
  refine wpAny_passesOwn hp (thn (hg _ s5 σ3 H5 x u _ I5' r5 (step x H5 y5)) λ_ s6 ⟨σ6,H6,I6,q6⟩=>?_)
  refine wpAny_passesOwn hp (thn (hb _ s6 σ6 H6 _ I6 q6) λf s7 q7=>?_)
  have again:∀ {σ7:St} {H7:Hp},Inv X (pins++ZV fp s5.heap) σ7 H7 s7->N σ7 H7->∃ m,m<n/\∃ i σ' H',Inv X pins σ' H' s7/\tn i s7.heap/\(∀ b∈fp,H' b=none)/\W i m σ' H':=λ{σ7 H7} I7 n7=>by
   obtain⟨m',hm,w7⟩:=hN σ7 H7 n7
   refine⟨m',hm,i+1,σ7,H7,I7.unpinned,T.keep _ _ _ st5 λb hb o e=>(I7.pin (b,o) (List.mem_append_right _ (List.mem_append_right _ (Zq hb e)))).1,λb hb=>?_,w7⟩
   obtain⟨o,e,d⟩:=T.obj _ _ st5 b hb
   exact (I7.pin (b,o) (List.mem_append_right _ (List.mem_append_right _ (Zq hb e)))).2.1
  cases f with
  | next=>obtain⟨σ7,H7,I7,n7⟩:=q7;exact again I7 n7
  | cont=>obtain⟨σ7,H7,I7,n7⟩:=q7;exact again I7 n7
  | brk=>obtain⟨σ7,H7,I7,q7⟩:=q7;exact⟨σ7,H7,I7.unpinned,q7⟩
  | ret v=>obtain⟨x7,σ7,H7,I7,r7,q7⟩:=q7;exact⟨x7,σ7,H7,I7.unpinned,r7,q7⟩
end
theorem zae {K:W.Frag} {a:Addr} {xs:List V} {g:TG} {tb:TS} {D:Ends} {Z:St} {H:Hp} (Pv:Nat->St->Hp->Prop) (h0:Pv 0 Z H) (hl:∀ i Z H,i<=xs.length->Pv i Z H->SqL K H a xs)
  (hs:∀ i x Z H,xs[i]?=some x->Pv i Z H->g x Z H fun σ2 H2=>tb { D with nx:=Pv (i+1),ct:=Pv (i+1),bk:=D.nx } σ2 H2) (hd:∀ Z H,Pv xs.length Z H->D.nx Z H) :
  ∃ W:Nat->Nat->St->Hp->Prop,(∃ m,W 0 m Z H)/\∀ i m Z H,W i m Z H ->
   ((Itl K a).stop i H/\D.nx Z H)\/((Itl K a).go i H/\∃ N:St->Hp->Prop,(∀ σ' H',N σ' H'->∃ m',m'<m/\W (i+1) m' σ' H')/\∀ x H',(Itl K a).yld i H x H'->g x Z H' fun σ2 H2=>tb { D with nx:=N,ct:=N,bk:=D.nx } σ2 H2):=by
 refine⟨λi m Z H=>m=xs.length-i/\i<=xs.length/\Pv i Z H,⟨xs.length,by simp,Nat.zero_le _,h0⟩,?_⟩
 rintro i m Z H ⟨rfl,hi,p⟩
 have q:=hl i Z H hi p
 by_cases hlt:i<xs.length
 ·refine .inr ⟨⟨xs,xs[i],q,by simp [hlt]⟩,Pv (i+1),fun σ' H' p'=>⟨xs.length-(i+1),by omega,rfl,hlt,p'⟩,λx H' y=>?_⟩
  obtain⟨e,y⟩:=y
  subst e
  exact hs i x Z _ (y xs q) p
 ·have e:i=xs.length:=by omega
  subst e
  exact .inl ⟨⟨xs,q,Nat.le_refl _⟩,hd Z H p⟩
theorem zeD {K:W.Frag} {a:Addr} {xs:List V} {g:TG} {tb:TS} {D:Ends} {Z:St} {H:Hp} (Pv:Nat->St->Hp->Prop) (h0:Pv 0 Z H) (hl:∀ i Z H,i<=xs.length->Pv i Z H->SqT K H a xs)
  (hs:∀ i x Z H,xs[i]?=some x->Pv i Z H->g x Z H fun σ2 H2=>tb { D with nx:=Pv (i+1),ct:=Pv (i+1),bk:=D.nx } σ2 H2) (hd:∀ Z H,Pv xs.length Z H->D.nx Z H) :
  ∃ W:Nat->Nat->St->Hp->Prop,(∃ m,W 0 m Z H)/\∀ i m Z H,W i m Z H ->
   ((Itt K a).stop i H/\D.nx Z H)\/((Itt K a).go i H/\∃ N:St->Hp->Prop,(∀ σ' H',N σ' H'->∃ m',m'<m/\W (i+1) m' σ' H')/\∀ x H',(Itt K a).yld i H x H'->g x Z H' fun σ2 H2=>tb { D with nx:=N,ct:=N,bk:=D.nx } σ2 H2):=by
 refine⟨λi m Z H=>m=xs.length-i/\i<=xs.length/\Pv i Z H,⟨xs.length,by simp,Nat.zero_le _,h0⟩,?_⟩
 rintro i m Z H ⟨rfl,hi,p⟩
 have q:=hl i Z H hi p
 by_cases hlt:i<xs.length
 ·refine .inr ⟨⟨xs,xs[i],q,by simp [hlt]⟩,Pv (i+1),fun σ' H' p'=>⟨xs.length-(i+1),by omega,rfl,hlt,p'⟩,λx H' y=>?_⟩
  obtain⟨e,y⟩:=y
  subst e
  exact hs i x Z _ (y xs q) p
 ·have e:i=xs.length:=by omega
  subst e
  exact .inl ⟨⟨xs,q,Nat.le_refl _⟩,hd Z H p⟩
theorem qt {lo:Int} {n:Nat} {g:TG} {tb:TS} {D:Ends} {Z:St} {H:Hp} (Pv:Nat->St->Hp->Prop) (h0:Pv 0 Z H)
  (hs:∀ i Z H,i<n->Pv i Z H->g (.int (lo+i)) Z H fun σ2 H2=>tb { D with nx:=Pv (i+1),ct:=Pv (i+1),bk:=D.nx } σ2 H2) (hd:∀ Z H,Pv n Z H->D.nx Z H) :
  ∃ W:Nat->Nat->St->Hp->Prop,(∃ m,W 0 m Z H)/\∀ i m Z H,W i m Z H ->
   ((Itr lo n).stop i H/\D.nx Z H)\/((Itr lo n).go i H/\∃ N:St->Hp->Prop,(∀ σ' H',N σ' H'->∃ m',m'<m/\W (i+1) m' σ' H')/\∀ x H',(Itr lo n).yld i H x H'->g x Z H' fun σ2 H2=>tb { D with nx:=N,ct:=N,bk:=D.nx } σ2 H2):=by
 refine⟨λi m Z H=>m=n-i/\i<=n/\Pv i Z H,⟨n,by simp,Nat.zero_le _,h0⟩,?_⟩
 rintro i m Z H ⟨rfl,hi,p⟩
 by_cases hlt:i<n
 ·refine .inr ⟨hlt,Pv (i+1),fun σ' H' p'=>⟨n-(i+1),by omega,rfl,hlt,p'⟩,λx H' y=>?_⟩
  obtain⟨e,y⟩:=y
  subst e y
  exact hs i Z _ hlt p
 ·have e:i=n:=by omega
  subst e
  exact .inl ⟨Nat.le_refl _,hd Z H p⟩
theorem zaG {c:TT} {tb:TS} {D:Ends} {Z:St} {H:Hp} (Pv:St->Hp->Prop) (μ:St->Hp->Nat) (h0:Pv Z H)
  (hs:∀ Z H,Pv Z H->c Z H λb H1=>if b=true then tb { D with nx:=fun σ' H'=>Pv σ' H'/\μ σ' H'<μ Z H,ct:=fun σ' H'=>Pv σ' H'/\μ σ' H'<μ Z H,bk:=D.nx } Z H1 else D.nx Z H1)
  (mono:∀ Z H Q Q',(∀ b H1,Q b H1->Q' b H1)->c Z H Q->c Z H Q'):zdf c tb D Z H:=by
 refine⟨λm Z H=>m=μ Z H/\Pv Z H,⟨_,rfl,h0⟩,?_⟩
 rintro m Z H ⟨rfl,p⟩
 refine mono Z H _ _ (λb H1 q=>?_) (hs Z H p)
 cases b with
 | true=>exact⟨_,fun σ' H' ⟨p',l⟩=>⟨_,l,rfl,p'⟩,q⟩
 | false=>exact q
abbrev R2:=V->V->Hp->VK->Prop
def OpR (X:Cx) (f:Value->Value->Sem Value) (r:R2):Prop :=
 ∀ (pins:List (Addr×Obj)) (s:Shared) (Z:St) (H:Hp) (x y:V) (v u:Value) (Q:VK),Inv X pins Z H s->RelV x v->RelV y u->r x y H Q ->
  wpAny (model X.prog X.w) X.A (f v u) (EP X pins Z Q) X.xe s
def UnR (X:Cx) (f:Value->Sem Value) (r:V->Hp->VK->Prop):Prop :=
 ∀ (pins:List (Addr×Obj)) (s:Shared) (Z:St) (H:Hp) (x:V) (v:Value) (Q:VK),Inv X pins Z H s->RelV x v->r x H Q ->
  wpAny (model X.prog X.w) X.A (f v) (EP X pins Z Q) X.xe s
def wR (X:Cx) (f:Value) (r:List V->Hp->VK->Prop):Prop :=
 ∀ (pins:List (Addr×Obj)) (s:Shared) (Z:St) (H:Hp) (xs:List V) (us:List Value) (Q:VK),Inv X pins Z H s->Vals xs us->r xs H Q ->
  wpAny (model X.prog X.w) X.A (call f us) (EP X pins Z Q) X.xe s
def tOp (r:R2) (ta tb:TE):TE:=λZ H Q=>ta Z H λx H1=>tb Z H1 λy H2=>r x y H2 Q
def tUn (r:V->Hp->VK->Prop) (ta:TE):TE:=λZ H Q=>ta Z H λx H1=>r x H1 Q
def rI (C:Int->Int->Prop) (g:Int->Int->V):R2:=λx y H Q=>∃ i j,x=.int i/\y=.int j/\C i j/\Q (g i j) H
def rI0 (g:Int->Int->V):R2:=λx y H Q=>∃ i j,x=.int i/\y=.int j/\Q (g i j) H
def rU (g:Int->V):V->Hp->VK->Prop:=λx H Q=>∃ i,x=.int i/\Q (g i) H
section
variable {X:Cx} {a b c:Expr} {ta tb tc:TE} {pos:Pos}
theorem zfG (ha:PE X a ta) (hb:PE X b tb) {pins:List (Addr×Obj)} {s:Shared} {Z:St} {H:Hp} {R:V->V->Hp->Prop} (I:Inv X pins Z H s)
  (h:ta Z H λx H1=>tb Z H1 λy H2=>R x y H2) {Q:Value->Shared->Prop} {f:Value->Value->Sem Value}
  (hf:∀ v u s2 x y H2,Inv X pins Z H2 s2->RelV x v->RelV y u->R x y H2->wpAny (model X.prog X.w) X.A (f v u) Q X.xe s2) :
  wpAny (model X.prog X.w) X.A (eval a X.env) (λv s₁=>wpAny (model X.prog X.w) X.A (eval b X.env) (λu s₂=>wpAny (model X.prog X.w) X.A (f v u) Q X.xe s₂) X.xe s₁) X.xe s:=by
 refine thn (ha pins s Z H _ I h) λv s1 ⟨x,H1,I1,r1,q1⟩=>?_
 refine thn (hb pins s1 Z H1 _ I1 q1) λu s2 ⟨y,H2,I2,r2,q2⟩=>?_
 exact hf v u s2 x y H2 I2 r1 r2 q2
theorem zJ {op:Operator} {r:R2} (ho:OpR X (binaryOp op) r) (ha:PE X a ta) (hb:PE X b tb):PE X (.BinOp a op b pos) (tOp r ta tb):=by
 intro pins s Z H Q I h
 exact wpAny_BinOp (zfG ha hb I h λv u s2 x y H2 I2 rx ry q=>ho pins s2 Z H2 x y v u Q I2 rx ry q)
theorem W2 {op:UnaryOp} {r:V->Hp->VK->Prop} (ho:UnR X (unaryOp op) r) (ha:PE X a ta):PE X (.UnaryOp op a pos) (tUn r ta):=by
 intro pins s Z H Q I h
 exact UnaryOp_ (thn (ha pins s Z H _ I h) λv s1 ⟨x,H1,I1,r1,q1⟩=>ho pins s1 Z H1 x v Q I1 r1 q1)
theorem opI {f:Value->Value->Sem Value} {C:Int->Int->Prop} {g:Int->Int->Int}
  (rule:∀ (i j:Int) (t u:Tok) (s:Shared) (Q:Value->Shared->Prop) (E:Value->Shared->Prop),C i j->Q (.int (g i j) s.toks) { s with toks:=s.toks+1 }->wpAny (model X.prog X.w) X.A (f (.int i t) (.int j u)) Q E s) :
  OpR X f (rI C λi j=>.int (g i j)):=by
 intro pins s Z H x y v u Q I rx ry h
 obtain⟨i,j,rfl,rfl,hc,q⟩:=h
 obtain⟨t,rfl⟩:=rx
 obtain⟨t',rfl⟩:=ry
 exact rule i j t t' s _ _ hc ⟨.int (g i j),H,I.tok _,⟨_,rfl⟩,q⟩
theorem zfV {f:Value->Value->Sem Value} {g:Int->Int->Int}
  (rule:∀ (i j:Int) (t u:Tok) (s:Shared) (Q:Value->Shared->Prop) (E:Value->Shared->Prop),Q (.int (g i j) s.toks) { s with toks:=s.toks+1 }->wpAny (model X.prog X.w) X.A (f (.int i t) (.int j u)) Q E s) :
  OpR X f (rI0 λi j=>.int (g i j)):=by
 intro pins s Z H x y v u Q I rx ry h
 obtain⟨i,j,rfl,rfl,q⟩:=h
 obtain⟨t,rfl⟩:=rx
 obtain⟨t',rfl⟩:=ry
 exact rule i j t t' s _ _ ⟨.int (g i j),H,I.tok _,⟨_,rfl⟩,q⟩
theorem zec {f:Value->Value->Sem Value} {g:Int->Int->Bool}
  (rule:∀ (i j:Int) (t u:Tok) (s:Shared) (Q:Value->Shared->Prop) (E:Value->Shared->Prop),Q (.bool (g i j)) s->wpAny (model X.prog X.w) X.A (f (.int i t) (.int j u)) Q E s) :
  OpR X f (rI0 λi j=>.bl (g i j)):=by
 intro pins s Z H x y v u Q I rx ry h
 obtain⟨i,j,rfl,rfl,q⟩:=h
 obtain⟨t,rfl⟩:=rx
 obtain⟨t',rfl⟩:=ry
 exact rule i j t t' s _ _ ⟨.bl (g i j),H,I,rfl,q⟩
def zft (i j:Int):Prop:=0<=j/\j<=1000000/\i.natAbs<2^64
def CMul (i j:Int):Prop:=(-(2^64)<i/\i<2^64)\/(-(2^64)<j/\j<2^64)
theorem CMul.ok {i j:Int} (h:CMul i j):IntMulOk i j:=by
 rcases h with ⟨h1,h2⟩ | ⟨h1,h2⟩
 ·exact .of_left (intBits_le_64 h1 h2)
 ·exact .of_right (intBits_le_64 h1 h2)
theorem vU:OpR X (binaryOp .Add) (rI0 λi j=>.int (i+j)):=zfV λ_ _ _ _ _ _ _ q=>add_int q
theorem Zz:OpR X (binaryOp .Sub) (rI0 λi j=>.int (i-j)):=zfV λ_ _ _ _ _ _ _ q=>sub_int q
theorem Z5:OpR X (binaryOp .Mult) (rI CMul λi j=>.int (i*j)):=opI λ_ _ _ _ _ _ _ hc q=>mul_int q hc.ok
theorem Z3:OpR X (binaryOp .Mod) (rI (λ_ j=>0<j) λi j=>.int (i % j)):=opI λi j _ _ _ _ _ hc q=>by
 have h1:(0:Int)<j:=hc
 exact mod_int' (by omega) (by rw [Int.fmod_eq_emod_of_nonneg i (by omega)];exact q)
theorem ZZ:OpR X (binaryOp .Pow) (rI zft λi j=>.int (i^j.toNat)):=opI λ_ _ _ _ _ _ _ hc q=>pow_int_small hc.1 hc.2.1 hc.2.2 q
theorem unI {f:Value->Sem Value} {g:Int->Int}
  (rule:∀ (i:Int) (t:Tok) (s:Shared) (Q:Value->Shared->Prop) (E:Value->Shared->Prop),Q (.int (g i) s.toks) { s with toks:=s.toks+1 }->wpAny (model X.prog X.w) X.A (f (.int i t)) Q E s) :
  UnR X f (rU λi=>.int (g i)):=by
 intro pins s Z H x v Q I rx h
 obtain⟨i,rfl,q⟩:=h
 obtain⟨t,rfl⟩:=rx
 exact rule i t s _ _ ⟨.int (g i),H,I.tok _,⟨_,rfl⟩,q⟩
theorem ZW:UnR X (unaryOp .USub) (rU λi=>.int (-i)):=unI λ_ _ _ _ _ q=>neg_int q
end
def zgm:V->V->Bool
 | .non,.non=>true | .non,.int _=>true | .int _,.non=>true | .non,.bl _=>true | .bl _,.non=>true | .non,.str _=>true | .str _,.non=>true
 | .int _,.int _=>true | .bl _,.bl _=>true | .str _,.str _=>true | .byt _,.byt _=>true
 | .int _,.str _=>true | .str _,.int _=>true | .bl _,.str _=>true | .str _,.bl _=>true
 | _,_=>false
def rEq:R2:=λx y H Q=>zgm x y=true/\Q (.bl (decide (x=y))) H
def rNe:R2:=λx y H Q=>zgm x y=true/\Q (.bl (!decide (x=y))) H
theorem zbH {i j:Int}:decide (V.int i=V.int j)=(i == j):=by
 rw [Bool.eq_iff_iff]
 simp
theorem zc0 {i j:Bool}:decide (V.bl i=V.bl j)=(i == j):=by
 rw [Bool.eq_iff_iff]
 simp
theorem zb2 {i j:Str}:decide (V.str i=V.str j)=(i == j):=by
 rw [Bool.eq_iff_iff]
 simp
theorem zbC {i j:Array UInt8}:decide (V.byt i=V.byt j)=(i.toList == j.toList):=by
 rw [Bool.eq_iff_iff]
 cases i
 cases j
 simp
section
variable {X:Cx} {a b c:Expr} {ta tb tc:TE} {pos:Pos}
theorem yj {pins:List (Addr×Obj)} {Z:St} {H:Hp} {s:Shared} {Q:VK} {k k':Bool} (I:Inv X pins Z H s) (q:Q (.bl k) H) (e:k=k'):EP X pins Z Q (.bool k') s:=by
 subst e
 exact⟨.bl k,H,I,rfl,q⟩
theorem QZ:OpR X (compareOp .Eq) rEq:=by
 intro pins s Z H x y v u Q I rx ry h
 obtain⟨hs,q⟩:=h
 cases x with
 | non =>
  cases rx
  cases y with
  | non=>cases ry;exact PySem.EqNone.eq_none_none (yj I q (by simp))
  | bl j=>cases ry;exact PySem.EqNone.eq_none_bool (yj I q (by simp))
  | int j=>obtain⟨t',rfl⟩:=ry;exact PySem.EqNone.eq_none_int (yj I q (by simp))
  | str j=>obtain⟨t',rfl⟩:=ry;exact PySem.EqNone.eq_none_str (yj I q (by simp))
  | _=>exact absurd (show false=true from hs) Bool.false_ne_true
 | bl i =>
  cases rx
  cases y with
  | non=>cases ry;exact PySem.EqNone.eq_bool_none (yj I q (by simp))
  | bl j=>cases ry;exact eq_bool (yj I q zc0)
  | str j=>obtain⟨t',rfl⟩:=ry;exact PySem.EqMixed.eq_bool_str (yj I q (by simp))
  | _=>exact absurd (show false=true from hs) Bool.false_ne_true
 | int i =>
  obtain⟨t,rfl⟩:=rx
  cases y with
  | non=>cases ry;exact PySem.EqNone.eq_int_none (yj I q (by simp))
  | int j=>obtain⟨t',rfl⟩:=ry;exact eq_int (yj I q zbH)
  | str j=>obtain⟨t',rfl⟩:=ry;exact PySem.EqMixed.eq_int_str (yj I q (by simp))
  | _=>exact absurd (show false=true from hs) Bool.false_ne_true
 | str i =>
  obtain⟨t,rfl⟩:=rx
  cases y with
  | non=>cases ry;exact PySem.EqNone.eq_str_none (yj I q (by simp))
  | bl j=>cases ry;exact PySem.EqMixed.eq_str_bool (yj I q (by simp))
  | int j=>obtain⟨t',rfl⟩:=ry;exact PySem.EqMixed.eq_str_int (yj I q (by simp))
  | str j=>obtain⟨t',rfl⟩:=ry;exact eq_str (yj I q zb2)
  | _=>exact absurd (show false=true from hs) Bool.false_ne_true
 | byt i =>
  obtain⟨t,rfl⟩:=rx
  cases y with
  | byt j=>obtain⟨t',rfl⟩:=ry;exact W.eq_bytes (yj I q zbC)
  | _=>exact absurd (show false=true from hs) Bool.false_ne_true
 | _=>cases y<;>exact absurd (show false=true from hs) Bool.false_ne_true
theorem V5:OpR X (compareOp .NotEq) rNe:=by
 intro pins s Z H x y v u Q I rx ry h
 obtain⟨hs,q⟩:=h
 cases x with
 | non =>
  cases rx
  cases y with
  | non=>cases ry;exact PySem.EqNone.ne_none_none (yj I q (by simp))
  | bl j=>cases ry;exact PySem.EqNone.ne_none_bool (yj I q (by simp))
  | int j=>obtain⟨t',rfl⟩:=ry;exact PySem.EqNone.ne_none_int (yj I q (by simp))
  | str j=>obtain⟨t',rfl⟩:=ry;exact PySem.EqNone.ne_none_str (yj I q (by simp))
  | _=>exact absurd (show false=true from hs) Bool.false_ne_true
 | bl i =>
  cases rx
  cases y with
  | non=>cases ry;exact PySem.EqNone.ne_bool_none (yj I q (by simp))
  | bl j=>cases ry;exact ne_bool (yj I q (congrArg not zc0))
  | str j=>obtain⟨t',rfl⟩:=ry;exact PySem.EqMixed.ne_bool_str (yj I q (by simp))
  | _=>exact absurd (show false=true from hs) Bool.false_ne_true
 | int i =>
  obtain⟨t,rfl⟩:=rx
  cases y with
  | non=>cases ry;exact PySem.EqNone.ne_int_none (yj I q (by simp))
  | int j=>obtain⟨t',rfl⟩:=ry;exact ne_int (yj I q (congrArg not zbH))
  | str j=>obtain⟨t',rfl⟩:=ry;exact PySem.EqMixed.ne_int_str (yj I q (by simp))
  | _=>exact absurd (show false=true from hs) Bool.false_ne_true
 | str i =>
  obtain⟨t,rfl⟩:=rx
  cases y with
  | non=>cases ry;exact PySem.EqNone.ne_str_none (yj I q (by simp))
  | bl j=>cases ry;exact PySem.EqMixed.ne_str_bool (yj I q (by simp))
  | int j=>obtain⟨t',rfl⟩:=ry;exact PySem.EqMixed.ne_str_int (yj I q (by simp))
  | str j=>obtain⟨t',rfl⟩:=ry;exact ne_str (yj I q (congrArg not zb2))
  | _=>exact absurd (show false=true from hs) Bool.false_ne_true
 | byt i =>
  obtain⟨t,rfl⟩:=rx
  cases y with
  | byt j=>obtain⟨t',rfl⟩:=ry;exact W.ne_bytes (yj I q (congrArg not zbC))
  | _=>exact absurd (show false=true from hs) Bool.false_ne_true
 | _=>cases y<;>exact absurd (show false=true from hs) Bool.false_ne_true
theorem zeY:OpR X (compareOp .Lt) (rI0 λi j=>.bl (decide (i<j))):=zec λ_ _ _ _ _ _ _ q=>lt_int q
theorem Qy:OpR X (compareOp .LtE) (rI0 λi j=>.bl (decide (i<=j))):=zec λ_ _ _ _ _ _ _ q=>le_int q
theorem zdH:OpR X (compareOp .Gt) (rI0 λi j=>.bl (decide (j<i))):=zec λ_ _ _ _ _ _ _ q=>gt_int q
theorem zeQ:OpR X (compareOp .GtE) (rI0 λi j=>.bl (decide (j<=i))):=zec λ_ _ _ _ _ _ _ q=>ge_int q
theorem Q9:OpR X (compareOp .Is) (λx y H Q=>y=.non/\Q (.bl (decide (x=.non))) H):=by
 intro pins s Z H x y v u Q I rx ry h
 obtain⟨rfl,q⟩:=h
 cases ry
 refine is_none_gen (yj I q ?_)
 cases x<;>first
  | (cases rx;rfl)
  | (obtain⟨t,rfl⟩:=rx;rfl)
theorem zey:OpR X (compareOp .IsNot) (λx y H Q=>y=.non/\Q (.bl (!decide (x=.non))) H):=by
 intro pins s Z H x y v u Q I rx ry h
 obtain⟨rfl,q⟩:=h
 cases ry
 refine isnot_none_gen (yj I q ?_)
 cases x<;>first
  | (cases rx;rfl)
  | (obtain⟨t,rfl⟩:=rx;rfl)
theorem ye (b:Expr) {op:CmpOp} (h:op≠.In:=by decide) (h2:op≠.NotIn:=by decide):behindInMarks op b=false:=by
 have e1:(op == CmpOp.In)=false:=by cases op<;>first | rfl | exact absurd rfl h
 have e2:(op == CmpOp.NotIn)=false:=by cases op<;>first | rfl | exact absurd rfl h2
 cases b<;>simp [behindInMarks,e1,e2]
theorem Yt {op:CmpOp} {r:R2} (ho:OpR X (compareOp op) r) (ha:PE X a ta) (hb:PE X b tb) (hm:behindInMarks op b=false):PE X (.Compare a [op] [b] pos) (tOp r ta tb):=by
 intro pins s Z H Q I h
 exact wpAny_Compare1 (zfG ha hb I h λv u s2 x y H2 I2 rx ry q=>ho pins s2 Z H2 x y v u Q I2 rx ry q) hm
def zgh (t:TE):TT:=λZ H Q=>t Z H λx H'=>∃ k,x=.bl k/\Q k H'
theorem zZ {op:CmpOp} {r:R2} (ho:OpR X (compareOp op) r) (ha:PE X a ta) (hb:PE X b tb) (hm:behindInMarks op b=false):PT X (.Compare a [op] [b] pos) (zgh (tOp r ta tb)):=by
 intro pins s Z H Q I h
 refine wpAny_isTrue_Compare1 (thn (ha pins s Z H _ I h) λv s1 ⟨x,H1,I1,r1,q1⟩=>thn (hb pins s1 Z H1 _ I1 q1) λu s2 ⟨y,H2,I2,r2,q2⟩ =>
  thn (ho pins s2 Z H2 x y v u _ I2 r1 r2 q2) λc s3 ⟨z,H3,I3,r3,k,e,q3⟩=>?_) hm
 subst e
 cases r3
 exact wpAny_truthy_bool ⟨H3,I3,q3⟩
def zfK (r r':R2) (ta tb tc:TE):TE:=λZ H Q=>ta Z H λx H1=>tb Z H1 λy H2=>r x y H2 λz H3=>∃ k,z=.bl k /\
 (if k=true then tc Z H3 λw' H4=>r' y w' H4 Q else Q (.bl false) H3)
theorem Ua {op op':CmpOp} {r r':R2} (ho:OpR X (compareOp op) r) (ho':OpR X (compareOp op') r') (ha:PE X a ta) (hb:PE X b tb) (hc:PE X c tc)
  (hm:lastMarks [op,op'] [b,c]=false:=by with_unfolding_all rfl):PE X (.Compare a [op,op'] [b,c] pos) (zfK r r' ta tb tc):=by
 intro pins s Z H Q I h
 refine Compare_chain (thn (ha pins s Z H _ I h) λv s1 ⟨x,H1,I1,r1,q1⟩=>chain_link (thn (hb pins s1 Z H1 _ I1 q1) λu s2 ⟨y,H2,I2,r2,q2⟩ =>
  thn (ho pins s2 Z H2 x y v u _ I2 r1 r2 q2) λd s3 ⟨z,H3,I3,r3,k,e,q3⟩=>?_)) hm
 subst e
 cases r3
 refine wpAny_truthy_bool ?_
 cases k with
 | false=>exact ite_ff ⟨.bl false,H3,I3,rfl,q3⟩
 | true=>exact ite_tt (chain_last (thn (hc pins s3 Z H3 _ I3 q3) λw' s4 ⟨z',H4,I4,r4,q4⟩=>ho' pins s4 Z H4 y z' u w' Q I4 r2 r4 q4))
theorem Jp:(sizeLine:Nat)<2^63:=by rw [sizeLine_eq];decide
theorem vals1 {x:V} {us:List Value} (r:Vals [x] us):∃ u,us=[u]/\RelV x u:=by
 cases r with
 | cons r1 r2=>cases r2;exact⟨_,rfl,r1⟩
theorem vals2 {x y:V} {us:List Value} (r:Vals [x,y] us):∃ u w',us=[u,w']/\RelV x u/\RelV y w':=by
 cases r with
 | cons r1 r2 =>
  cases r2 with
  | cons r3 r4=>cases r4;exact⟨_,_,rfl,r1,r3⟩
theorem zb7 (hc:X.calm=true):wR X (.builtin "max") (λxs H Q=>∃ i j,xs=[.int i,.int j]/\Q (.int (if j>i then j else i)) H):=by
 intro pins s Z H xs us Q I r h
 obtain⟨i,j,rfl,q⟩:=h
 obtain⟨u,w',rfl,⟨t,rfl⟩,⟨t',rfl⟩⟩:=vals2 r
 refine max_two_ints (I.ok.hd hc) λh' tk k=>⟨_,H,I.kept k,?_,q⟩
 by_cases hj:j>i
 ·rw [if_pos hj,if_pos hj];exact⟨_,rfl⟩
 ·rw [if_neg hj,if_neg hj];exact⟨_,rfl⟩
theorem Wq (hc:X.calm=true):wR X (.builtin "min") (λxs H Q=>∃ i j,xs=[.int i,.int j]/\Q (.int (if j<i then j else i)) H):=by
 intro pins s Z H xs us Q I r h
 obtain⟨i,j,rfl,q⟩:=h
 obtain⟨u,w',rfl,⟨t,rfl⟩,⟨t',rfl⟩⟩:=vals2 r
 refine min_two_ints (I.ok.hd hc) λh' tk k=>⟨_,H,I.kept k,?_,q⟩
 by_cases hj:j<i
 ·rw [if_pos hj,if_pos hj];exact⟨_,rfl⟩
 ·rw [if_neg hj,if_neg hj];exact⟨_,rfl⟩
theorem zcg:wR X (.type "int") (λxs H Q=>(∃ i,xs=[.int i]/\Q (.int i) H)\/∃ k,xs=[.bl k]/\Q (.int (if k then 1 else 0)) H):=by
 intro pins s Z H xs us Q I r h
 rcases h with ⟨i,rfl,q⟩ | ⟨k,rfl,q⟩
 ·obtain⟨u,rfl,t,rfl⟩:=vals1 r
  exact call_int_int ⟨.int i,H,I,⟨_,rfl⟩,q⟩
 ·obtain⟨u,rfl,r1⟩:=vals1 r
  cases r1
  exact call_int_bool ⟨.int (if k then 1 else 0),H,I.tok _,⟨_,rfl⟩,q⟩
end
structure ObjM (h:Heap) (x dx C:Addr) (mA:Str->Option Value):Prop where
 obj:h.get? x=some (W.instObj C dx)
 ns:h.Ns1 dx mA
 ne:dx≠x
theorem zcF {h:Heap} {dx:Addr} {mA:Str->Option Value} (n:h.Ns1 dx mA):∃ od,h.get? dx=some od/\∀ name,W.lookIn name od=some (mA name):=by
 obtain⟨o,es,ep,ho,hd,hk,_,hm⟩:=n
 refine⟨o,ho,λname=>?_⟩
 have e:=hm name
 unfold nsFind findBy at e
 rw [<- Array.find?_toList] at e
 unfold W.lookIn
 rw [hd]
 dsimp only
 split
 ·rename_i y q
  rw [q] at e
  exact congrArg some e
 ·rename_i q
  rw [q] at e
  have a:es.toList.any (·.refKey)=false:=by
   rw [List.any_eq_false]
   intro y hy
   obtain⟨z,t,hkey⟩:=hk y (Array.mem_toList_iff.mp hy)
   simp [DictEntry.refKey,hkey]
  have a':¬ es.toList.any (·.refKey)=true:=by rw [a];exact Bool.false_ne_true
  rw [if_neg a']
  exact congrArg some e
theorem ObjM.look {h:Heap} {x dx C:Addr} {mA:Str->Option Value} (I:ObjM h x dx C mA):∃ od,W.InstAt h x (W.instObj C dx) C (some od)/\∀ name,W.lookIn name od=some (mA name) :=
 let ⟨od,ho,hl⟩:=zcF I.ns
 ⟨od,⟨I.obj,rfl,rfl,ho⟩,hl⟩
section
variable {prog:Program} {w:World} {A:Around} {E:Value->Shared->Prop} {s:Shared} {K:W.Frag} {x dx C f:Addr} {mA:Str->Option Value} {name:Str} {v:Value}
theorem zeb {expr:Bool} {Q:Value->Shared->Prop} (X:K.In s.heap) (I:ObjM s.heap x dx C mA) (hg:W.plainGet K C name=true) (hh:W.hasDictIn K C=true)
  (ha:W.findIn K (.ref C) name=some none) (hv:mA name=some v) (hv':W.handedIn v=true) (h:Q v { s with toks:=s.toks+1 }) :
  wpAny (model prog w) A (getAttr (.ref x) name expr) Q E s:=by
 obtain⟨od,J,hl⟩:=I.look
 exact W.get_value X J (W.plainGet_of hg).1 (W.findObj_own hh ha rfl (by rw [hl,hv])) hv' h
theorem zdT {pl:Sem Bool} {Q:Value×List Value->Shared->Prop} (X:K.In s.heap) (I:ObjM s.heap x dx C mA) (hg:W.plainGet K C name=true)
  (hf:W.findIn K (.ref C) name=some (some (.ref f))) (ht:W.isFn K (.ref f)=true) (hv:mA name=none) (h:Q (.ref f,[.ref x]) s) :
  wpAny (model prog w) A (getMethod (.ref x) name pl) Q E s:=by
 obtain⟨od,J,hl⟩:=I.look
 exact W.method_fn X J (W.plainGet_of hg).1 (W.plainGet_of hg).2 hf (beq_iff_eq.mp ht) (by show (W.lookIn name od).map (·.isSome)=some false;rw [hl,hv];rfl) h
theorem zer {ns:List Str} {Q:Unit->Shared->Prop} (X:K.In s.heap) (I:ObjM s.heap x dx C mA)
  (hs:W.findIn K (.ref C) "__setattr__" = some (some (.builtin "object.__setattr__"))) (hp:W.plainOver K C=true) (ht:W.takerIn K C name=some none) (hh:W.hasDictIn K C=true)
  (hw:PySem.Within mA ns) (hsz:ns.length<=sizeLine)
  (h:∀ h',ObjM h' x dx C (λy=>if y=name then some v else mA y)->Heap.SameBut dx s.heap h'->Q () { s with heap:=h',toks:=s.toks+2 }) :
  wpAny (model prog w) A (setAttr (.ref x) name v) Q E s:=by
 obtain⟨od,J,hl⟩:=I.look
 refine W.set_plain X J hs (W.osa_open (s:={ s with toks:=s.toks+1 }) (r:=none) X J hp ht λb=>?_)
 obtain⟨cd,hc,hd'⟩:=W.any_some hh
 have hx:s.heap.get? x=some ⟨.ref C,some dx,.plain,#[]⟩:=I.obj
 refine wpAny_bind (wpAny_pure (wpAny_bind (wpAny_bind (wpAny_loadPart hx (wpAny_bind (W.Looks.here (s:={ s with toks:=s.toks+1 }) (W.looks_clsIn X hc) ?_))))))
 rw [hd']
 refine wpAny_pure (a:=some dx) (wpAny_bind (wpAny_pure (wpAny_bind ?_)))
 refine wpAny_nsSet1 (s:={ s with toks:=s.toks+1 }) I.ns λh' hn2 hs2=>?_
 obtain⟨oD,esD,epD,hoD,hdD,hcD⟩:=hn2.count (PySem.Within.cons name v hw)
 refine wpAny_bind (wpAny_lookBehind hoD (by rw [hdD];exact pastItsLine_dict (Nat.le_trans hcD (by rw [List.length_cons];omega))) ?_)
 exact wpAny_pure (h _ ⟨(hs2.2 _ (Ne.symm I.ne)).trans I.obj,hn2,I.ne⟩ hs2)
theorem zax {R:Result->Shared->Prop} {vs:List Value} {kw:List (Str×Value)} (X:K.In s.heap) (hm:W.makesIn K C=true)
  (hi:W.findIn K (.ref C) "__init__" = some (some (.ref f))) (hf:W.typeIn K (.ref f)=some (.type "function"))
  (h:codeAny (model prog w) (A.under (.builtin "type.__call__" ⟨.ref C :: vs,kw⟩)) (.call (.ref f) ⟨.ref (s.heap.objs.size+1) :: vs,kw⟩) (W.InitBack (s.heap.objs.size+1) R)
   { s with heap:=(s.heap.push W.emptyDict).push (W.instObj C s.heap.objs.size) }) :
  codeAny (model prog w) A (.call (.ref C) ⟨vs,kw⟩) R s:=by
 obtain⟨hh,g,d,t,os⟩:=s
 exact W.make_core (W.makes_of X hm) (W.looks_findIn X hi) (λself=>W.bind_fn X self hf) (.inl rfl) h
end
def zX (f:Str) (v:V):List (Str×V)->List (Str×V)
 | []=>[(f,v)]
 | (g,x) :: r=>if g=f then (g,v) :: r else (g,x) :: zX f v r
theorem zE (f g:Str) (v:V):∀ fs:List (Str×V),(zX f v fs).lookup g=if g=f then some v else fs.lookup g
 | []=>by
  show List.lookup g [(f,v)]=_
  by_cases h:g=f
  ·have hb:(g == f)=true:=beq_iff_eq.mpr h
   simp only [List.lookup,hb,if_pos h]
  ·have hb:(g == f)=false:=beq_eq_false_iff_ne.mpr h
   simp only [List.lookup,hb,if_neg h]
 | (k,x) :: r=>by
  have ih:=zE f g v r
  rw [show zX f v ((k,x) :: r)=(if k=f then (k,v) :: r else (k,x) :: zX f v r) from rfl]
  by_cases hk:k=f
  ·rw [if_pos hk]
   by_cases h:g=k
   ·have hb:(g == k)=true:=beq_iff_eq.mpr h
    simp only [List.lookup,hb,if_pos (h.trans hk)]
   ·have hb:(g == k)=false:=beq_eq_false_iff_ne.mpr h
    simp only [List.lookup,hb,if_neg (λe:g=f=>h (e.trans hk.symm))]
  ·rw [if_neg hk]
   by_cases h:g=k
   ·have hb:(g == k)=true:=beq_iff_eq.mpr h
    simp only [List.lookup,hb,if_neg (λe:g=f=>hk (h.symm.trans e))]
   ·have hb:(g == k)=false:=beq_eq_false_iff_ne.mpr h
    simp only [List.lookup,hb]
    exact ih
theorem Wo (f:Str) (v:V):∀ fs:List (Str×V),f∈(zX f v fs).map (·.1)/\∀ g,g∈fs.map (·.1)->g∈(zX f v fs).map (·.1)
 | []=>⟨by simp [zX],λg h=>by simp at h⟩
 | (k,x) :: r=>by
  obtain⟨i1,i2⟩:=Wo f v r
  rw [show zX f v ((k,x) :: r)=(if k=f then (k,v) :: r else (k,x) :: zX f v r) from rfl]
  by_cases hk:k=f
  ·rw [if_pos hk]
   subst hk
   exact⟨by simp,λg h=>by simpa using h⟩
  ·rw [if_neg hk]
   refine⟨?_,λg h=>?_⟩
   ·rw [List.map_cons]
    exact List.mem_cons_of_mem _ i1
   ·rw [List.map_cons] at h ⊢
    rcases List.mem_cons.mp h with e | e
    ·exact List.mem_cons.mpr (.inl e)
    ·exact List.mem_cons_of_mem _ (i2 g e)
theorem xr (f:Str) (v:V):∀ fs:List (Str×V),(zX f v fs).length<=fs.length+1
 | []=>by simp [zX]
 | (k,x) :: r=>by
  have ih:=xr f v r
  rw [show zX f v ((k,x) :: r)=(if k=f then (k,v) :: r else (k,x) :: zX f v r) from rfl]
  by_cases hk:k=f
  ·rw [if_pos hk,List.length_cons,List.length_cons];omega
  ·rw [if_neg hk,List.length_cons,List.length_cons];omega
theorem RelO.some_of {v:V} {o:Option Value} (r:RelO (some v) o):∃ u,o=some u/\RelV v u:=by
 cases o with
 | none=>exact (show False from r).elim
 | some u=>exact⟨u,rfl,r⟩
theorem RelO.none_of {o:Option Value} (r:RelO none o):o=none:=by
 cases o with
 | none=>rfl
 | some u=>exact (show False from r).elim
theorem zcj {v:V} {u:Value} (r:RelV v u):W.handedIn u=true:=by
 cases v with
 | non=>cases (show u=Value.none from r);rfl
 | bl b=>cases (show u=Value.bool b from r);rfl
 | int i=>obtain⟨t,e⟩:=(show ∃ t,u=Value.int i t from r);cases e;rfl
 | str x=>obtain⟨t,e⟩:=(show ∃ t,u=Value.str x t from r);cases e;rfl
 | byt b=>obtain⟨t,e⟩:=(show ∃ t,u=Value.bytes b t from r);cases e;rfl
 | flt b=>obtain⟨t,e⟩:=(show ∃ t,u=Value.float b t from r);cases e;rfl
 | ref a=>cases (show u=Value.ref a from r);rfl
 | ty n=>cases (show u=Value.type n from r);rfl
section
variable {P:Program} {w:World} {H H':Hp} {h h':Heap} {a C dx:Addr} {fs fs':List (Str×V)}
theorem Vm (hok:HOk P w H h) (e:H a=some (.ins C dx fs)):∃ mA,ObjM h a dx C mA/\(∀ f,RelO (fs.lookup f) (mA f))/\PySem.Within mA (fs.map (·.1))/\fs.length<=1000/\H dx=some (.own a):=by
 obtain⟨d,z,ne,ob,mA,n,r,q⟩:=(show ObjOk P w H h a (.ins C dx fs) from hok a _ e)
 exact⟨mA,⟨ob,n,ne⟩,r,q,z,d⟩
end
structure Cls (K:W.Frag) (C:Addr):Prop where
 pg:W.plainGet K C Str.empty=true
 hd:W.hasDictIn K C=true
 po:W.plainOver K C=true
 sa:W.findIn K (.ref C) "__setattr__" = some (some (.builtin "object.__setattr__"))
theorem Cls.get {K:W.Frag} {C:Addr} (c:Cls K C) (f:Str):W.plainGet K C f=true:=c.pg
def NoAttr (K:W.Frag) (C:Addr) (f:Str):Prop:=W.findIn K (.ref C) f=some none
theorem NoAttr.taker {K:W.Frag} {C:Addr} {f:Str} (n:NoAttr K C f):W.takerIn K C f=some none:=by
 unfold W.takerIn
 rw [show W.findIn K (.ref C) f=some none from n]
 rfl
structure Con (K:W.Frag) (C:Addr) (f:Str) (v:V) (u:Value):Prop where
 at_:W.findIn K (.ref C) f=some (some u)
 rel:RelV v u
 get:W.specialIn K u "__get__" = some none
 cp:W.copiedNames.contains f=false
structure Meth (K:W.Frag) (C:Addr) (m:Str) (f:Addr):Prop where
 at_:W.findIn K (.ref C) m=some (some (.ref f))
 fn:W.isFn K (.ref f)=true
 kp:W.keepIn K (.ref f)=true
section
variable {X:Cx} {pins:List (Addr×Obj)} {Z:St} {H:Hp} {s:Shared} {a C dx:Addr} {fs:List (Str×V)} {f:Str} {v:V} {A:Around} {E:Value->Shared->Prop}
theorem zbu {b:Bool} {Q:Value->Shared->Prop} (I:Inv X pins Z H s) (e:H a=some (.ins C dx fs)) (c:Cls X.K C) (n:NoAttr X.K C f) (l:fs.lookup f=some v)
  (h:∀ u s',Inv X pins Z H s'->RelV v u->Q u s'):wpAny (model X.prog X.w) A (getAttr (.ref a) f b) Q E s:=by
 obtain⟨mA,O,r,_,_,_⟩:=Vm I.hok e
 obtain⟨u,hu,ru⟩:=RelO.some_of (v:=v) (o:=mA f) (by rw [<- l];exact r f)
 exact zeb I.kIn O (c.get f) c.hd n hu (zcj ru) (h u _ (I.tok _) ru)
theorem YZ {m:Str} {g:Addr} {pl:Sem Bool} {Q:Value×List Value->Shared->Prop} (I:Inv X pins Z H s) (e:H a=some (.ins C dx fs)) (c:Cls X.K C) (k:Meth X.K C m g) (l:fs.lookup m=none)
  (h:Q (.ref g,[.ref a]) s):wpAny (model X.prog X.w) A (getMethod (.ref a) m pl) Q E s:=by
 obtain⟨mA,O,r,_,_,_⟩:=Vm I.hok e
 have hn:mA m=none:=RelO.none_of (by rw [<- l];exact r m)
 exact zdT I.kIn O (c.get m) k.at_ k.fn hn h
theorem zbp {y:V} {u:Value} {Q:Unit->Shared->Prop} (I:Inv X pins Z H s) (e:H a=some (.ins C dx fs)) (c:Cls X.K C) (n:NoAttr X.K C f) (hl:fs.length<1000) (ry:RelV y u)
  (h:∀ s',Inv X pins Z (upd H a (.ins C dx (zX f y fs))) s'->Q () s'):wpAny (model X.prog X.w) A (setAttr (.ref a) f u) Q E s:=by
 obtain⟨mA,O,r,wi,_,ho⟩:=Vm I.hok e
 have hz:(fs.map (·.1)).length<=sizeLine:=by rw [List.length_map,sizeLine_eq];omega
 refine zer I.kIn O c.sa c.po n.taker c.hd wi hz λh' O' sb=>h _ ?_
 have hd:∃ o,h'.get? dx=some o:=let ⟨o,_,_,e',_⟩:=O'.ns;⟨o,e'⟩
 refine I.write (x:=a) (e:=dx) (by rw [e];exact True.intro) (.inr ho) (λb q hb z=>(sb.2 b hb).trans z) hd ?_
 refine⟨by rw [zx O.ne];exact ho,?_,O.ne,O'.obj,_,O'.ns,λg=>?_,λg hg=>?_⟩
 ·have:=xr f y fs;omega
 ·show RelO ((zX f y fs).lookup g) (if g=f then some u else mA g)
  rw [zE]
  by_cases q:g=f
  ·rw [if_pos q,if_pos q];exact ry
  ·rw [if_neg q,if_neg q];exact r g
 ·by_cases q:g=f
  ·rw [q];exact (Wo f y fs).1
  ·refine (Wo f y fs).2 g (wi g λz=>hg ?_)
   show (if g=f then some u else mA g)=none
   rw [if_neg q];exact z
theorem Inv.made (I:Inv X pins Z H s):Inv X pins Z (upd (upd H s.heap.objs.size (.own (s.heap.objs.size+1))) (s.heap.objs.size+1) (.ins C s.heap.objs.size []))
  { s with heap:=(s.heap.push W.emptyDict).push (W.instObj C s.heap.objs.size) }:=by
 have e1:(s.heap.push W.emptyDict).get? s.heap.objs.size=some W.emptyDict:=Heap.get?_push_size s.heap rfl
 have e2:((s.heap.push W.emptyDict).push (W.instObj C s.heap.objs.size)).get? (s.heap.objs.size+1)=some (W.instObj C s.heap.objs.size):=by
  have:=Heap.get?_push_size (s.heap.push W.emptyDict) (o:=W.instObj C s.heap.objs.size) rfl
  rwa [Heap.size_push] at this
 have e3:(s.heap.push W.emptyDict).Ns s.heap.objs.size (λ_=>none):=⟨W.emptyDict,#[],_,e1,rfl,(λe he=>absurd he (by simp)),λ_=>rfl⟩
 have I1:=I.laid (a:=s.heap.objs.size) (o:=.own (s.heap.objs.size+1)) (h':=s.heap.push W.emptyDict) (t':=s.toks) (λb u q=>Heap.get?_push_of_some _ q) (Nat.le_refl _) ⟨_,e1⟩
 refine I1.laid (a:=s.heap.objs.size+1) (o:=.ins C s.heap.objs.size []) (t':=s.toks) (λb u q=>Heap.get?_push_of_some _ q) (Nat.le_of_eq (Heap.size_push _ _)) ?_
 have ne:s.heap.objs.size≠s.heap.objs.size+1:=Nat.ne_of_lt (Nat.lt_succ_self _)
 refine⟨by rw [zx ne,zj],Nat.zero_le _,ne,e2,λ_=>none,(Heap.Ns1.of_empty e3).at λo q=>Heap.get?_push_of_some _ q,λ_=>True.intro,λy hy=>absurd rfl hy⟩
theorem zeu {prog:Program} {w:World} {env:Env} {e:Expr} {f:Str} {pos:Pos} {s:Shared} {Q:Value->Shared->Prop} (hb:attributeBase e f env (eval e env)=eval e env)
  (h:wpAny (model prog w) A (eval e env) (λo s₁=>wpAny (model prog w) A (getAttr o f true) Q E s₁) E s):wpAny (model prog w) A (eval (.Attribute e f pos) env) Q E s :=
 Attribute_any_ h (by rw [arm_eval_Attribute,hb])
end
def zgl (K:W.Frag) (ta:TE) (f:Str):TE:=λZ H Q=>ta Z H λx H1=>∃ a C dx fs v,x=.ref a/\H1 a=some (.ins C dx fs)/\Cls K C/\NoAttr K C f/\fs.lookup f=some v/\Q v H1
def zgP (K:W.Frag) (ta tv:TE) (f:Str):TS:=λD Z H=>tv Z H λy H1=>ta Z H1 λx H2=>∃ a C dx fs,x=.ref a/\H2 a=some (.ins C dx fs)/\Cls K C/\NoAttr K C f/\fs.length<1000 /\
 D.nx Z (upd H2 a (.ins C dx (zX f y fs)))
section
variable {X:Cx} {o e value:Expr} {f:Str} {pos pos' tpos:Pos} {ta tv:TE}
theorem zfl (he:PE X e ta) (hb:attributeBase e f X.env (eval e X.env)=eval e X.env):PE X (.Attribute e f pos) (zgl X.K ta f):=by
 intro pins s Z H Q I h
 refine zeu hb (thn (he pins s Z H _ I h) λu s1 ⟨x,H1,I1,rx,a,C,dx,fs,v,ex,ea,c,n,l,q⟩=>?_)
 subst ex
 obtain rfl:u=Value.ref a:=rx
 exact zbu I1 ea c n l λu' s2 I2 ru=>⟨v,H1,I2,ru,q⟩
theorem jj (ha:PE X o ta) (hv:PE X value tv) (hs:swapsWith value (some (.Attribute o f pos')) pos.line X.env=pure false):PS X (.Assign [.Attribute o f pos'] value pos) (zgP X.K ta tv f):=by
 intro pins s Z H D I h
 refine plainObj_wpAny_Assign_Attribute (thn (hv pins s Z H _ I h) λu s1 ⟨y,H1,I1,ry,q⟩=>thn (ha pins s1 Z H1 _ I1 q) λov s2 ⟨x,H2,I2,rx,a,C,dx,fs,ex,ea,c,n,l,q2⟩=>?_) hs
 subst ex
 obtain rfl:ov=Value.ref a:=rx
 exact zbp I2 ea c n l ry λs3 I3=>⟨Z,_,I3,q2⟩
end
section
variable {X:Cx} {pins:List (Addr×Obj)} {Z:St} {H:Hp} {s:Shared} {A:Around} {E:Value->Shared->Prop} {Q:Value->Shared->Prop} {c:Value} {b:Bool}
inductive Xq (K:W.Frag) (H:Hp):V->Value->Prop where
 | non:Xq K H .non (.type "NoneType")
 | bl (x:Bool):Xq K H (.bl x) (.type "bool")
 | int (i:Int):Xq K H (.int i) (.type "int")
 | str (x:Str):Xq K H (.str x) (.type "str")
 | flt (x:UInt64):Xq K H (.flt x) (.type "float")
 | lst {a:Addr} {xs:List V} (e:H a=some (.lst xs)):Xq K H (.ref a) (.type "list")
 | frz {a:Addr} {o:Obj} {xs:List V} (e:H a=some (.frz o (.lst xs))):Xq K H (.ref a) (.type "list")
 | tup {a:Addr} {xs:List V} (e:H a=some (.tup xs)):Xq K H (.ref a) (.type "tuple")
 | dK {a:Addr} {kvs:List (Key×V)} (e:H a=some (.dK kvs)):Xq K H (.ref a) (.type "dict")
 | dT {a:Addr} {kvs:List (List Key×V)} (e:H a=some (.dT kvs)):Xq K H (.ref a) (.type "dict")
 | ins {a C dx:Addr} {fs:List (Str×V)} (e:H a=some (.ins C dx fs)) (cl:Cls K C) (ha:W.findIn K (.ref C) "__class__" = some (some (.builtin "object.__class__")))
   (hn:W.specialIn K (.builtin "object.__class__") "__get__" = some (some (.builtin "getset_descriptor.__get__"))) (htk:W.takesIn K (.builtin "object.__class__")=some true)
   (hm:W.mroIn K C (.type "object")=some true):Xq K H (.ref a) (.ref C)
theorem zcd {x:V} {u t:Value} (I:Inv X pins Z H s) (rx:RelV x u) (ty:Xq X.K H x t) (e:W.kitOne X.K t c=some b) (h:∀ tk,Q (.bool b) { s with toks:=tk }) :
  wpAny (model X.prog X.w) A (call (.builtin "isinstance") [u,c]) Q E s:=by
 cases ty with
 | non=>cases (show u=Value.none from rx);exact W.kia_one W.kitx_none I.kIn True.intro e (λz=>nomatch z) h
 | bl y=>cases (show u=Value.bool y from rx);exact W.kia_one W.kitx_bool I.kIn True.intro e (λz=>nomatch z) h
 | int i=>obtain⟨t,q⟩:=(show ∃ t,u=Value.int i t from rx);cases q;exact W.kia_one W.kitx_int I.kIn True.intro e (λz=>nomatch z) h
 | str y=>obtain⟨t,q⟩:=(show ∃ t,u=Value.str y t from rx);cases q;exact W.kia_one W.kitx_str I.kIn True.intro e (λz=>nomatch z) h
 | flt y=>obtain⟨t,q⟩:=(show ∃ t,u=Value.float y t from rx);cases q;exact W.kia_one W.kitx_float I.kIn True.intro e (λz=>nomatch z) h
 | @lst a xs ea =>
  cases (show u=Value.ref a from rx)
  obtain⟨_,_,n,_,h1⟩:=(show ObjOk X.prog X.w H s.heap a (.lst xs) from I.hok a _ ea)
  exact W.kia_one W.kitx_list I.kIn ⟨_,h1,rfl⟩ e (λz=>nomatch z) h
 | @frz a ob xs ea =>
  cases (show u=Value.ref a from rx)
  obtain⟨_,_,_,n,_,h1⟩:=(show ObjOk X.prog X.w H s.heap a (.frz ob (.lst xs)) from I.hok a _ ea)
  exact W.kia_one W.kitx_list I.kIn ⟨_,h1,rfl⟩ e (λz=>nomatch z) h
 | @tup a xs ea =>
  cases (show u=Value.ref a from rx)
  obtain⟨_,_,_,p⟩:=(show ObjOk X.prog X.w H s.heap a (.tup xs) from I.hok a _ ea)
  obtain⟨o,h1,h2,_⟩:=p
  exact W.kia_one W.kitx_tuple I.kIn ⟨o,h1,h2⟩ e (λz=>nomatch z) h
 | @dK a kvs ea =>
  cases (show u=Value.ref a from rx)
  obtain⟨_,_,vs,_,p⟩:=(show ObjOk X.prog X.w H s.heap a (.dK kvs) from I.hok a _ ea)
  obtain⟨o,es,ep,h1,h2,_⟩:=p
  exact W.kia_one W.kitx_dict I.kIn ⟨o,h1,h2.1⟩ e (λz=>nomatch z) h
 | @dT a kvs ea =>
  cases (show u=Value.ref a from rx)
  obtain⟨_,_,xs,_,o,es,ep,h1,h2,_⟩:=(show ObjOk X.prog X.w H s.heap a (.dT kvs) from I.hok a _ ea)
  exact W.kia_one W.kitx_dict I.kIn ⟨o,h1,h2.1⟩ e (λz=>nomatch z) h
 | @ins a C dx fs ea cl ha hn htk hm =>
  cases (show u=Value.ref a from rx)
  obtain⟨mA,O,_⟩:=Vm I.hok ea
  obtain⟨od,J,_⟩:=O.look
  exact W.kia_one (W.kitx_own (cl.get _) cl.hd ha hn htk hm) I.kIn J e (λz=>nomatch z) h
end
structure Room (k:Nat) (A:Around):Prop where
 hd:A.handled=none
 dp:A.depth+k+5<recursionLimit
 un:A.units+16*k+200<cLine
 gd:A.guards=some []
theorem Room.mono {j k:Nat} {A:Around} (r:Room k A) (h:j<=k):Room j A:=⟨r.hd,by have:=r.dp;omega,by have:=r.un;omega,r.gd⟩
theorem Room.deeper {k:Nat} {A:Around} (r:Room (k+1) A) (env:Env):Room k (A.deeper env) :=
 ⟨r.hd,by have:=r.dp;show A.depth+1+k+5<_;omega,by have:=r.un;show A.units+3+16*k+200<_;omega,r.gd⟩
theorem Room.in1 {k:Nat} {A:Around} (r:Room (k+1) A):Room k A.in1 :=
 ⟨r.hd,by have:=r.dp;show A.depth+k+5<_;omega,by have:=r.un;show A.units+1+16*k+200<_;omega,r.gd⟩
theorem zbt {A:Around} {C:Addr} {us:List Value} {kw:List (Str×Value)}:(A.under (.builtin "type.__call__" ⟨.ref C :: us,kw⟩)).depth=A.depth+1:=by
 first | rfl | simp [Around.under,Code.weight,Code.isCreation,Code.isGuard,Code.isCaller,Code.frames,Code.isFrame,guardIds]
theorem za2 {A:Around} {C:Addr} {us:List Value} {kw:List (Str×Value)}:(A.under (.builtin "type.__call__" ⟨.ref C :: us,kw⟩)).units=A.units+1:=by
 first | rfl | simp [Around.under,Code.cUnits,Code.frames,Code.isFrame]
theorem Room.make {k:Nat} {A:Around} (r:Room (k+1) A) (C:Addr) (us:List Value) (kw:List (Str×Value)):Room k (A.under (.builtin "type.__call__" ⟨.ref C :: us,kw⟩)) :=
 ⟨r.hd,by have:=r.dp;rw [zbt];omega,by have:=r.un;rw [za2];omega,by first | exact r.gd | (simp [Around.under,Code.guards,Code.isGuard,guardIds];exact r.gd)⟩
theorem Room.depth {k:Nat} {A:Around} (r:Room k A):A.depth<recursionLimit:=by have:=r.dp;omega
theorem Room.units {k:Nat} {A:Around} (r:Room k A):A.units+64<cLine:=by have:=r.un;omega
def qD:TA:=λ_ H Q=>Q [] H
def yQ (ta:TE) (tr:TA):TA:=λZ H Q=>ta Z H λx H1=>tr Z H1 λxs H2=>Q (x :: xs) H2
section
variable {X:Cx} {e:Expr} {es:List Expr} {te:TE} {t:TA} {pos:Pos}
theorem zg:PA X [] qD:=λ_ _ _ _ H Q I h=>Calls.spliced_nil ⟨[],H,I,.nil,h⟩
theorem zf (ha:PE X e te) (hr:PA X es t) (hs:starEach (e :: es) X.env=(false,eval e X.env) :: starEach es X.env:=by rfl):PA X (e :: es) (yQ te t):=by
 intro pos pins s Z H Q I h
 rw [hs]
 show wpAny _ _ (spliced ((false,eval e X.env) :: backTo pos (starEach es X.env))) _ _ s
 refine Calls.spliced_cons (thn (ha pins s Z H _ I h) λu s1 ⟨x,H1,I1,r1,q1⟩=>?_)
 exact thn (hr pos pins s1 Z H1 _ I1 q1) λus s2 ⟨xs,H2,I2,r2,q2⟩=>⟨x :: xs,H2,I2,.cons r1 r2,q2⟩
def zcb (t:TA):TE:=λZ H Q=>t Z H λxs H1=>xs.length<=sizeLine/\∀ p,H1 p=none->Q (.ref p) (upd H1 p (.tup xs))
def UT (t:TA):TE:=λZ H Q=>t Z H λxs H1=>xs.length<=sizeLine/\∀ p,H1 p=none->Q (.ref p) (upd H1 p (.lst xs))
theorem yX {x1} (h:PA X es t):PE X (.Tuple es x1 pos) (zcb t):=by
 intro pins s Z H Q I hq
 refine wpAny_Tuple_spliced (thn (h pos pins s Z H _ I hq) λus s1 ⟨xs,H1,I1,r,z,q⟩=>⟨by rw [<- r.length];exact z,?_⟩)
 have hf:H1 s1.heap.objs.size=none:=I1.hok.fresh (Nat.le_refl _)
 refine⟨.ref s1.heap.objs.size,upd H1 s1.heap.objs.size (.tup xs),I1.laid (t':=s1.toks) (λb u e=>Heap.get?_push_of_some _ e) (Nat.le_refl _) ?_,rfl,q _ hf⟩
 exact⟨z,us,r,⟨_,Heap.get?_push_size _ rfl,rfl,_,rfl⟩⟩
theorem zQ (h:PA X es t):PE X (.List es pos) (UT t):=by
 intro pins s Z H Q I hq
 refine wpAny_List_spliced (thn (h pos pins s Z H _ I hq) λus s1 ⟨xs,H1,I1,r,z,q⟩=>⟨by rw [<- r.length];exact z,?_⟩)
 have hf:H1 s1.heap.objs.size=none:=I1.hok.fresh (Nat.le_refl _)
 refine⟨.ref s1.heap.objs.size,upd H1 s1.heap.objs.size (.lst xs),I1.laid (t':=s1.toks) (λb u e=>Heap.get?_push_of_some _ e) (Nat.le_refl _) ?_,rfl,q _ hf⟩
 exact⟨z,us,0,r,Heap.get?_push_size _ rfl⟩
end
abbrev Sp:=List V->Hp->VK->XK->Prop
abbrev CXT:=List Env->Hp->Shared->XK->Value->Shared->Prop
structure Env0 (P:Program) (w:World) (K:W.Frag) (mg:Str->Option Value) (base:Heap) (A:Around) (outer:List Env) (s:Shared) (H:Hp):Prop where
 frames:A.frames=some outer
 mod:Mod K mg base
 bs:∀ b o,base.get? b=some o->s.heap.get? b=some o/\H b=none
 bsz:base.objs.size<=s.heap.objs.size
 funs:s.heap.FunFrames base outer
 frf:∀ b∈frs outer,H b=none
 hok:HOk P w H s.heap
 bare:AllBare s.gens
def CE (outer:List Env) (P:Program) (w:World) (H:Hp) (s:Shared) (Q:VK) (u:Value) (s':Shared):Prop :=
 ∃ v H',s'.os=s.os/\AllBare s'.gens/\Un (frs outer) [] H H' s.heap s'.heap/\HOk P w H' s'.heap/\RelV v u/\Q v H'
def CR (CX:CXT) (outer:List Env) (P:Program) (w:World) (H:Hp) (s:Shared) (Q:VK) (E:XK) (r:Result) (s':Shared):Prop :=
 match r with
 | .ok (.ret u)=>CE outer P w H s Q u s'
 | .ok _=>False
 | .error e=>CX outer H s E e s'
structure FnOk (P:Program) (w:World) (K:W.Frag) (mg:Str->Option Value) (base:Heap) (CX:CXT) (k:Nat) (f:Addr) (fd:FuncData) (ps:List Str) (sp:Sp):Prop where
 len:∀ vs H Q E,sp vs H Q E->vs.length=ps.length
 run:∀ (A:Around) (outer:List Env) (s:Shared) (H:Hp) (args:Args) (us:List Value) (vs:List V) (Q:VK) (E:XK),Room k A->Env0 P w K mg base A outer s H->BindsTo s fd args (ps.zip us)->Vals vs us->sp vs H Q E ->
  codeAny (model P w) A (.call (.ref f) args) (CR CX outer P w H s Q E) s
theorem FnOk.mono {P:Program} {w:World} {K:W.Frag} {mg:Str->Option Value} {base:Heap} {CX:CXT} {j k:Nat} {f:Addr} {fd:FuncData} {ps:List Str} {sp:Sp} (F:FnOk P w K mg base CX j f fd ps sp) (h:j<=k) :
  FnOk P w K mg base CX k f fd ps sp:=⟨F.len,λA outer s H args us vs Q E hr=>F.run A outer s H args us vs Q E (hr.mono h)⟩
theorem FnOk.imp {P:Program} {w:World} {K:W.Frag} {mg:Str->Option Value} {base:Heap} {CX:CXT} {k:Nat} {f:Addr} {fd:FuncData} {ps:List Str} {sp sp':Sp} (F:FnOk P w K mg base CX k f fd ps sp)
  (h:∀ vs H Q E,sp' vs H Q E->sp vs H Q E):FnOk P w K mg base CX k f fd ps sp' :=
 ⟨λvs H Q E q=>F.len vs H Q E (h _ _ _ _ q),λA outer s H args us vs Q E hr he hb hv hs=>F.run A outer s H args us vs Q E hr he hb hv (h _ _ _ _ hs)⟩
theorem Env0.make {P:Program} {w:World} {K:W.Frag} {mg:Str->Option Value} {base:Heap} {A:Around} {outer:List Env} {s:Shared} {H:Hp} (e:Env0 P w K mg base A outer s H) (C:Addr) (us:List Value) (kw:List (Str×Value)) :
  Env0 P w K mg base (A.under (.builtin "type.__call__" ⟨.ref C :: us,kw⟩)) outer s H:=⟨by first | exact e.frames | (simpa [Around.under,Code.envs,Code.isFrame,pushEnvs] using e.frames),e.mod,e.bs,e.bsz,e.funs,e.frf,e.hok,e.bare⟩
theorem Env0.in1 {P:Program} {w:World} {K:W.Frag} {mg:Str->Option Value} {base:Heap} {A:Around} {outer:List Env} {s:Shared} {H:Hp} (e:Env0 P w K mg base A outer s H) :
  Env0 P w K mg base A.in1 outer s H:=⟨e.frames,e.mod,e.bs,e.bsz,e.funs,e.frf,e.hok,e.bare⟩
section
variable {X:Cx} {pins:List (Addr×Obj)} {Z:St} {H:Hp} {s s':Shared}
theorem Inv.env0 (I:Inv X pins Z H s):Env0 X.prog X.w X.K X.mg X.base X.A X.stack s H :=
 ⟨I.ok.frames,I.ok.mod,I.bs,Nat.le_trans I.ok.bsz I.sz,I.stack,I.stkFree,I.hok,I.bare⟩
theorem Inv.after {Q:VK} {u:Value} (I:Inv X pins Z H s) (h:CE X.stack X.prog X.w H s Q u s'):EP X pins Z Q u s':=by
 obtain⟨v,H',os,bare,un,hok,r,q⟩:=h
 obtain⟨hh,g,d,t,os'⟩:=s'
 obtain rfl:os'=s.os:=os
 exact⟨v,H',I.call (h':=hh) (g':=g) (d':=d) (t':=t) (ch:=[]) un hok bare (λb z=>absurd z (by simp)),r,q⟩
end
def zbE (sp:Sp) (dvs:List V) (E:XK) (t:TA):TE:=λZ H Q=>t Z H λvs H1=>sp (vs++dvs) H1 Q E
def zbM (C:Addr) (m:Str) (sp:Sp) (dvs:List V) (E:XK) (ta:TE) (t:TA):TE:=λZ H Q=>ta Z H λx H1=>∃ a dx fs,x=.ref a/\H1 a=some (.ins C dx fs)/\fs.lookup m=none /\
 t Z H1 λvs H2=>sp (x :: (vs++dvs)) H2 Q E
def zgx (C:Addr) (sp:Sp) (dvs:List V) (E:XK) (t:TA):TE:=λZ H Q=>t Z H λvs H1=>∀ x dx,H1 x=none->H1 dx=none->dx≠x ->
 sp (.ref x :: (vs++dvs)) (upd (upd H1 dx (.own x)) x (.ins C dx [])) (λv H2=>v=.non/\Q (.ref x) H2) E
def Binds (K:W.Frag) (fd:FuncData) (ps:List Str) (ds:List Value):Prop :=
 ∀ (s:Shared) (us:List Value),K.In s.heap->(us++ds).length=ps.length->BindsTo s fd ⟨us,[]⟩ (ps.zip (us++ds))
theorem Binds.all {K:W.Frag} {fd:FuncData} {ps:List Str} (h:∀ us:List Value,us.length=ps.length->bindArgs fd ⟨us,[]⟩=pure (ps.zip us)):Binds K fd ps []:=λs us _ hl=>by
 rw [List.append_nil] at hl ⊢
 exact .of_eq (h us hl)
def Xi (CX:CXT) (X:Cx) (E:XK):Prop:=∀ (pins:List (Addr×Obj)) (Z:St) (H:Hp) (s:Shared) (e:Value) (s':Shared),Inv X pins Z H s->CX X.stack H s E e s'->X.xe e s'
section
variable {X:Cx} {CX:CXT} {k:Nat} {f C:Addr} {fd:FuncData} {ps:List Str} {sp:Sp} {dvs:List V} {ds:List Value} {E:XK} {x m:Str} {p pos apos:Pos} {e o:Expr} {es:List Expr} {ta:TE} {t:TA}
theorem zbk {pins:List (Addr×Obj)} {Z:St} {H:Hp} {s:Shared} {Q:VK} {us:List Value} {vs:List V} (F:FnOk X.prog X.w X.K X.mg X.base CX k f fd ps sp) (hr:Room k X.A) (hb:Binds X.K fd ps ds) (hd:Vals dvs ds) (hx:Xi CX X E)
  (I:Inv X pins Z H s) (r:Vals vs us) (h:sp (vs++dvs) H Q E):wpAny (model X.prog X.w) X.A (call (.ref f) us) (EP X pins Z Q) X.xe s:=by
 have r2:Vals (vs++dvs) (us++ds):=r.append hd
 have hl:(us++ds).length=ps.length:=by rw [<- r2.length];exact F.len _ _ _ _ h
 refine wpAny_call (codeAny_mono (F.run X.A X.stack s H ⟨us,[]⟩ (us++ds) (vs++dvs) Q E hr I.env0 (hb s us I.kIn hl) r2 h) λr s' hq=>?_)
 cases r with
 | error e=>exact hx pins Z H s e s' I hq
 | ok fl =>
  cases fl with
  | ret u=>exact I.after hq
  | next=>exact False.elim hq
  | brk=>exact False.elim hq
  | cont=>exact False.elim hq
theorem zej (F:FnOk X.prog X.w X.K X.mg X.base CX k f fd ps sp) (hr:Room k X.A) (hg:Gl X x) (hm:X.mg x=some (.ref f)) (hk:W.keepIn X.K (.ref f)=true) (hb:Binds X.K fd ps ds) (hd:Vals dvs ds) (hx:Xi CX X E)
  (ha:PA X (e :: es) t) (hdb:(x == ("__debug__" : Str))=false:=by decide) (he:starEach (e :: es) X.env=(false,eval e X.env) :: starEach es X.env:=by rfl) (hpl:(backTo pos (starEach es X.env)).any (·.1)=false:=by rfl) :
  PE X (.Call (.Name x p) (e :: es) [] pos) (zbE sp dvs E t):=by
 intro pins s Z H Q I h
 refine wpAny_Call_Name_kw (jV I hg hm ?_ hdb)
 refine W.callWith_K (h₀:=X.base) I.ok.mod.kin hk (thn (ha pos pins s Z H _ I h) λus s1 ⟨vs,H1,I1,r,q⟩=>⟨I1.kIn,?_⟩) he hpl
 exact zbk F hr hb hd hx I1 r q
theorem zed {pl:Sem Bool} (he:PE X o ta) (c:Cls X.K C) (hm:Meth X.K C m f) (F:FnOk X.prog X.w X.K X.mg X.base CX k f fd ps sp) (hr:Room k X.A) (hb:Binds X.K fd ps ds) (hd:Vals dvs ds) (hx:Xi CX X E) (ha:PA X (e :: es) t)
  (hst:starEach (e :: es) X.env=(false,eval e X.env) :: starEach es X.env:=by rfl) (hpl:(backTo pos (starEach es X.env)).any (·.1)=false:=by rfl)
  (ht:eval (.Call (.Attribute o m apos) (e :: es) [] pos) X.env=(do
   let ov <- eval o X.env
   standAt apos.atName
   let (f,first) <- holding [ov] (getMethod ov m pl)
   callWith pos f first (backTo pos (starEach (e :: es) X.env)) (backToKw pos (keywordEach [] X.env))):=by rfl) :
  PE X (.Call (.Attribute o m apos) (e :: es) [] pos) (zbM C m sp dvs E ta t):=by
 intro pins s Z H Q I h
 refine W.methodCall_KW (pl:=pl) (thn (he pins s Z H _ I h) λu s1 ⟨x,H1,I1,rx,a,dx,fs,ex,ea,l,q⟩=>?_) ht
 subst ex
 obtain rfl:u=Value.ref a:=rx
 refine YZ I1 ea c hm l ?_
 refine W.callWith_K (first:=[.ref a]) (h₀:=X.base) I.ok.mod.kin hm.kp (thn (ha pos pins s1 Z H1 _ I1 q) λus s2 ⟨vs,H2,I2,r,q2⟩=>⟨I2.kIn,?_⟩) hst hpl
 exact zbk (us:=.ref a :: us) (vs:=.ref a :: vs) F hr hb hd hx I2 (.cons rfl r) q2
theorem zdn {pl:Sem Bool} (he:PE X o ta) (c:Cls X.K C) (hm:Meth X.K C m f) (F:FnOk X.prog X.w X.K X.mg X.base CX k f fd ps sp) (hr:Room k X.A) (hb:Binds X.K fd ps ds) (hd:Vals dvs ds) (hx:Xi CX X E)
  (ht:eval (.Call (.Attribute o m apos) [] [] pos) X.env=(do
   let ov <- eval o X.env
   standAt apos.atName
   let (f,first) <- holding [ov] (getMethod ov m pl)
   callWith pos f first (backTo pos (starEach [] X.env)) (backToKw pos (keywordEach [] X.env))):=by rfl) :
  PE X (.Call (.Attribute o m apos) [] [] pos) (zbM C m sp dvs E ta qD):=by
 intro pins s Z H Q I h
 refine W.methodCall_KW (pl:=pl) (thn (he pins s Z H _ I h) λu s1 ⟨x,H1,I1,rx,a,dx,fs,ex,ea,l,q⟩=>?_) ht
 subst ex
 obtain rfl:u=Value.ref a:=rx
 refine YZ I1 ea c hm l ?_
 exact W.callWith_K0 (first:=[.ref a]) I1.kIn hm.kp (zbk (us:=[.ref a]) (vs:=[.ref a]) F hr hb hd hx I1 (.cons rfl .nil) q)
structure Mk (K:W.Frag) (C f:Addr):Prop where
 makes:W.makesIn K C=true
 init:W.findIn K (.ref C) "__init__" = some (some (.ref f))
 fn:W.isFn K (.ref f)=true
 kp:W.keepIn K (.ref C)=true
theorem zdh {pins:List (Addr×Obj)} {Z:St} {H:Hp} {s:Shared} {Q:VK} {us:List Value} {vs:List V} (M:Mk X.K C f) (F:FnOk X.prog X.w X.K X.mg X.base CX k f fd ps sp) (hr:Room (k+1) X.A) (hb:Binds X.K fd ps ds) (hd:Vals dvs ds)
  (hx:Xi CX X E) (I:Inv X pins Z H s) (r:Vals vs us)
  (h:∀ x dx,H x=none->H dx=none->dx≠x->sp (.ref x :: (vs++dvs)) (upd (upd H dx (.own x)) x (.ins C dx [])) (λv H2=>v=.non/\Q (.ref x) H2) E) :
  wpAny (model X.prog X.w) X.A (call (.ref C) us) (EP X pins Z Q) X.xe s:=by
 have hq:=h (s.heap.objs.size+1) s.heap.objs.size (I.hok.fresh (Nat.le_succ _)) (I.hok.fresh (Nat.le_refl _)) (Nat.ne_of_lt (Nat.lt_succ_self _))
 have I2:=Inv.made (C:=C) I
 have r2:Vals (V.ref (s.heap.objs.size+1) :: (vs++dvs)) (Value.ref (s.heap.objs.size+1) :: (us++ds)):=.cons rfl (r.append hd)
 have hl:(Value.ref (s.heap.objs.size+1) :: us++ds).length=ps.length:=by
  have e:=r2.length
  rw [F.len _ _ _ _ hq] at e
  exact e.symm
 refine wpAny_call (zax (f:=f) I.kIn M.makes M.init (beq_iff_eq.mp M.fn) (codeAny_mono (F.run _ X.stack _ _ ⟨Value.ref (s.heap.objs.size+1) :: us,[]⟩ (Value.ref (s.heap.objs.size+1) :: (us++ds)) _ _ E (hr.make C us [])
  (I2.env0.make C us []) (hb _ (Value.ref (s.heap.objs.size+1) :: us) I2.kIn hl) r2 hq) λr s' hq'=>?_))
 cases r with
 | error e=>exact hx pins Z _ _ e s' I2 hq'
 | ok fl =>
  cases fl with
  | ret u =>
   obtain⟨v,H',I3,rv,ev,q3⟩:=I2.after hq'
   subst ev
   exact⟨rv,⟨V.ref (s.heap.objs.size+1),H',I3,rfl,q3⟩⟩
  | next=>exact False.elim hq'
  | brk=>exact False.elim hq'
  | cont=>exact False.elim hq'
theorem JV (M:Mk X.K C f) (F:FnOk X.prog X.w X.K X.mg X.base CX k f fd ps sp) (hr:Room (k+1) X.A) (hg:Gl X x) (hm:X.mg x=some (.ref C)) (hb:Binds X.K fd ps ds) (hd:Vals dvs ds) (hx:Xi CX X E)
  (ha:PA X (e :: es) t) (hdb:(x == ("__debug__" : Str))=false:=by decide) (he:starEach (e :: es) X.env=(false,eval e X.env) :: starEach es X.env:=by rfl) (hpl:(backTo pos (starEach es X.env)).any (·.1)=false:=by rfl) :
  PE X (.Call (.Name x p) (e :: es) [] pos) (zgx C sp dvs E t):=by
 intro pins s Z H Q I h
 refine wpAny_Call_Name_kw (jV I hg hm ?_ hdb)
 refine W.callWith_K (h₀:=X.base) I.ok.mod.kin M.kp (thn (ha pos pins s Z H _ I h) λus s1 ⟨vs,H1,I1,r,q⟩=>⟨I1.kIn,?_⟩) he hpl
 exact zdh M F hr hb hd hx I1 r q
end
section
variable {X:Cx} {CX:CXT} {k:Nat} {f C:Addr} {fd:FuncData} {ps ks:List Str} {sp:Sp} {E:XK} {x m:Str} {p pos apos kpos:Pos} {e o:Expr} {es:List Expr} {kws:List Keyword} {te ta:TE} {t tk:TA} {nm:Option Str}
structure zgE (K:W.Frag) (fd:FuncData) (ps ks:List Str) (g:List Value->List Value->List Value) (gV:List V->List V->List V):Prop where
 to:∀ (s:Shared) (us ws:List Value),K.In s.heap->(g us ws).length=ps.length->BindsTo s fd ⟨us,ks.zip ws⟩ (ps.zip (g us ws))
 rel:∀ {vs:List V} {us:List Value} {zs:List V} {ws:List Value},Vals vs us->Vals zs ws->Vals (gV vs zs) (g us ws)
variable {g:List Value->List Value->List Value} {gV:List V->List V->List V}
end
structure zF (N P:List Str) (sc:Scope):Prop where
 kind:sc.kind=.function:=by rfl
 co:sc.isCoroutine=false:=by rfl
 gen:sc.isGenerator=false:=by rfl
 nd:N.Nodup:=by decide +kernel
 pre:N.take P.length=P:=by rfl
 par:∀ x∈P,sc.names.lookup x=some .local\/sc.names.lookup x=some .cell:=by decide +kernel
 nofree:∀ y∈sc.names,y.2≠.free:=by decide +kernel
theorem QW {kindOf:Str->Option NameKind} {x:Str}:∀ {binds:List (Str×Value)} {m:Str->Option Value},(∀ v,(x,v)∉binds)->bindL kindOf binds m x=m x
 | [],_,_=>rfl
 | (n,v) :: r,m,h=>by
  unfold bindL
  rw [QW λw hw=>h w (List.mem_cons_of_mem _ hw)]
  split
  ·have:x≠n:=by rintro rfl;exact h v List.mem_cons_self
   simp [this]
  ·rfl
theorem QL {kindOf:Str->Option NameKind} {x:Str}:∀ {binds:List (Str×Value)} {m:Str->Option Value},(∀ v,(x,v)∉binds)->bindC kindOf binds m x=m x
 | [],_,_=>rfl
 | (n,v) :: r,m,h=>by
  unfold bindC
  rw [QL λw hw=>h w (List.mem_cons_of_mem _ hw)]
  split
  ·rfl
  ·have:x≠n:=by rintro rfl;exact h v List.mem_cons_self
   simp [this]
theorem QQ {kindOf:Str->Option NameKind} {x:Str} {v:Value}:∀ {P:List Str} {vs:List Value} {i:Nat} {m:Str->Option Value},P.Nodup->P[i]?=some x->vs[i]?=some v->kindOf x=some .local ->
  bindL kindOf (P.zip vs) m x=some v
 | [],_,_,_,_,h,_,_=>by simp at h
 | _ :: _,[],_,_,_,_,h,_=>by simp at h
 | p :: P,w :: vs,0,m,nd,h1,h2,hk=>by
  simp at h1 h2;subst h1;subst h2
  show bindL kindOf ((p,w) :: P.zip vs) m p=_
  unfold bindL
  rw [QW λv hv=>(List.nodup_cons.mp nd).1 (List.of_mem_zip hv).1,if_pos hk]
  simp
 | p :: P,w :: vs,i+1,m,nd,h1,h2,hk=>by
  show bindL kindOf ((p,w) :: P.zip vs) m x=_
  unfold bindL
  exact QQ (i:=i) (List.nodup_cons.mp nd).2 (by simpa using h1) (by simpa using h2) hk
theorem Qs {kindOf:Str->Option NameKind} {x:Str} {v:Value}:∀ {P:List Str} {vs:List Value} {i:Nat} {m:Str->Option Value},P.Nodup->P[i]?=some x->vs[i]?=some v->kindOf x≠some .local ->
  bindC kindOf (P.zip vs) m x=some v
 | [],_,_,_,_,h,_,_=>by simp at h
 | _ :: _,[],_,_,_,_,h,_=>by simp at h
 | p :: P,w :: vs,0,m,nd,h1,h2,hk=>by
  simp at h1 h2;subst h1;subst h2
  show bindC kindOf ((p,w) :: P.zip vs) m p=_
  unfold bindC
  rw [QL λv hv=>(List.nodup_cons.mp nd).1 (List.of_mem_zip hv).1,if_neg hk]
  simp
 | p :: P,w :: vs,i+1,m,nd,h1,h2,hk=>by
  show bindC kindOf ((p,w) :: P.zip vs) m x=_
  unfold bindC
  exact Qs (i:=i) (List.nodup_cons.mp nd).2 (by simpa using h1) (by simpa using h2) hk
def start (N:List Str) (vs:List V):St:=vs.map some++List.replicate (N.length-vs.length) none
def YG (CX:CXT) (P:Program) (w:World) (K:W.Frag) (mg:Str->Option Value) (base:Heap) (N:List Str) (qual:Str) (scope:Scope) (f:Addr) (cd:Value) (A:Around) (outer:List Env) (s:Shared) (H:Hp) (E:XK):Cx where
 prog:=P
 w:=w
 K:=K
 mg:=mg
 base:=base
 A:=A.deeper (envOfC qual scope s.heap.objs.size f cd)
 N:=N
 s₀:=s
 H₀:=H
 env:=envOfC qual scope s.heap.objs.size f cd
 outer:=outer
 stack:=envOfC qual scope s.heap.objs.size f cd :: outer
 ex:=[]
 calm:=true
 fn:=λ_=>true
 pn:=[]
 xe:=λe s'=>wpAny (model P w) (A.deeper (envOfC qual scope s.heap.objs.size f cd)) (leaving (envOfC qual scope s.heap.objs.size f cd) e) (λ_ s''=>CX outer H s E e s'') (λe' s''=>CX outer H s E e' s'') s'
theorem zaP {sc:Scope} {n:Nat} {x:Str} (h:sc.names.lookup x=some .cell):∃ c,(cellsFrom n sc.names []).lookup x=some c:=by
 have q:=W.cellsFrom_some sc.names n [] (.inl h)
 exact Option.isSome_iff_exists.mp q
theorem QF {CX:CXT} {P:Program} {w:World} {K:W.Frag} {mg:Str->Option Value} {base:Heap} {N ps:List Str} {qual:Str} {scope:Scope} {f:Addr} {cd:Value} {A:Around} {outer:List Env} {s s1:Shared} {H:Hp} {E:XK} {us:List Value} {vs:List V}
  (S:zF N ps scope) (hd:A.handled=none) (e0:Env0 P w K mg base A outer s H) (hl:vs.length=ps.length) (r:Vals vs us)
  (x:InCallC s s.heap.objs.size (bindL (envOfC qual scope s.heap.objs.size f cd).kindOf (ps.zip us) λ_=>none) (cellsFrom (s.heap.objs.size+1) scope.names []) (bindC (envOfC qual scope s.heap.objs.size f cd).kindOf (ps.zip us) λ_=>none) s1) :
  Inv (YG CX P w K mg base N qual scope f cd A outer s H E) [] (start N vs) H s1:=by
 have hpl:ps.length<=N.length:=by have:=congrArg List.length S.pre;rw [List.length_take] at this;omega
 obtain⟨h1,tk,rfl,hk⟩:=x.done
 have noA:∀ b:Addr,b∉(YG CX P w K mg base N qual scope f cd A outer s H E).ex:=λb z=>absurd (show b∈([]:List Addr) from z) (by simp)
 refine⟨⟨e0.mod,S.kind,rfl,rfl,Nat.le_refl _,λy z c h1 h2=>?_,λy hy=>?_,λy c _ h=>?_,λ_=>hd,Around.frames_deeper e0.frames,.inr ⟨rfl,rfl⟩,λb z=>absurd z (noA b),e0.bs,e0.bsz,λb _ _=>noA b,λb z=>absurd z (noA b),e0.funs,e0.frf⟩,
  rfl,e0.bare,Un.kept hk,⟨_,x.toInCall.ns,λi y v h1 h2 h3=>?_⟩,λy c h=>⟨_,x.cell y c h⟩,e0.hok.fresh (Nat.le_refl _),λy c h=>?_,λp hp=>absurd (show p∈([]:List (Addr×Obj)) from hp) (by simp),e0.hok.kept hk,?_⟩
 ·exact name_of_addr x.apart (PySem.mem_of_lookup h1) (PySem.mem_of_lookup h2)
 ·have hy:scope.names.lookup y=some .cell\/scope.names.lookup y=some .free:=hy
  rcases hy with hy | hy
  ·exact zaP hy
  ·exact absurd rfl (S.nofree _ (PySem.mem_of_lookup hy))
 ·exact Nat.le_of_lt (x.above y c (PySem.mem_of_lookup h))
 ·have hi:i<vs.length:=by
   unfold start at h2
   by_cases hi:i<vs.length
   ·exact hi
   ·rw [List.getElem?_append_right (by simpa using hi)] at h2
    rw [List.getElem?_replicate] at h2
    split at h2<;>cases h2
  have ha:vs[i]?=some v:=by
   unfold start at h2
   rw [List.getElem?_append_left (by simpa using hi),List.getElem?_map] at h2
   cases e:vs[i]? with
   | none=>rw [e] at h2;cases h2
   | some a=>rw [e] at h2;cases h2;rfl
  obtain⟨u,hu,rv⟩:=r.get ha
  have hp:ps[i]?=some y:=by
   rw [<- S.pre,List.getElem?_take_of_lt (by omega)];exact h1
  have ndP:ps.Nodup:=by rw [<- S.pre];exact S.nd.sublist (List.take_sublist _ _)
  refine⟨u,rv,?_⟩
  rcases S.par y (List.mem_of_getElem? hp) with k | k
  ·exact .inl ⟨k,QQ ndP hp hu k⟩
  ·obtain⟨c,e⟩:=zaP (n:=s.heap.objs.size+1) k
   refine .inr ⟨.inl k,c,e,?_⟩
   have q:=x.cell y c e
   rw [Qs ndP hp hu (by show scope.names.lookup y≠_;rw [k];decide)] at q
   exact q
 ·exact e0.hok.fresh (Nat.le_of_lt (x.above y c (PySem.mem_of_lookup h)))
 ·unfold start
  show _=N.length
  rw [List.length_append,List.length_map,List.length_replicate]
  omega
theorem zdF {CX:CXT} {P:Program} {w:World} {K:W.Frag} {mg:Str->Option Value} {base:Heap} {k:Nat} {f:Addr} {name qual:Str} {params:Arguments} {body:List Stmt} {scope:Scope} {dV kV doc pm cdv ct oc:Value} {an od:Option Addr}
  {osl:Array (Option Value)} {N ps:List Str} {sp:Sp} (lk:K.lookup f=some ⟨oc,od,.func (W.fnOf name qual params body scope dV kV doc pm an cdv ct),osl⟩) (hcd:W.codeIn K cdv qual=true) (S:zF N ps scope)
  (len:∀ vs H Q E,sp vs H Q E->vs.length=ps.length)
  (hbody:∀ (A:Around) (outer:List Env) (s:Shared) (H:Hp) (vs:List V) (Q:VK) (E:XK),Room k (A.deeper (envOfC qual scope s.heap.objs.size f cdv))->sp vs H Q E ->
   ∃ t,PSs (YG CX P w K mg base N qual scope f cdv A outer s H E) body t/\t { nx:=λ_ H'=>Q .non H',rt:=Q } (start N vs) H) :
  FnOk P w K mg base CX (k+1) f (W.fnOf name qual params body scope dV kV doc pm an cdv ct) ps sp:=by
 refine⟨len,λA outer s H args us vs Q E hr e0 hb r hsp=>?_⟩
 have hl:=len _ _ _ _ hsp
 have KX:K.In s.heap:=e0.mod.kin.keeps λb o e=>(e0.bs b o e).1
 have lim:s.heap.NoLimit:=e0.mod.nolimit.keeps λb o e=>(e0.bs b o e).1
 have hkind:∀ y∈ps.zip us,scope.names.lookup y.1=some .local\/(scope.names.lookup y.1=some .cell/\((cellsFrom (s.heap.objs.size+1) scope.names []).lookup y.1).isSome=true):=λ⟨n,v⟩ hy=>by
  rcases S.par n (List.of_mem_zip hy).1 with q | q
  ·exact .inl q
  ·exact .inr ⟨q,W.cellsFrom_some _ _ _ (.inl q)⟩
 refine codeAny_call_function hr.depth (KX _ _ lk) rfl S.co S.gen rfl (W.codeRec_of KX hcd) (hb _ _ _ _ ?_)
 refine wpAny_newFunctionEnv_cells S.kind hkind λenv he s1 x=>?_
 subst he
 refine⟨lim.keeps x.toInCall.keep,codeAny_func ?_⟩
 obtain⟨t,ht,hq⟩:=hbody A outer s H vs Q E (hr.deeper _) hsp
 have I:Inv (YG CX P w K mg base N qual scope f cdv A outer s H E) [] (start N vs) H s1:=QF S hr.hd e0 hl r x
 refine wpAny_mono (ht [] s1 (start N vs) H _ I hq) (λfl s' hs=>?_) λe s' hs=>hs
 have fin:∀ {σ':St} {H':Hp} {v:V} {u:Value},Inv (YG CX P w K mg base N qual scope f cdv A outer s H E) [] σ' H' s'->RelV v u->Q v H'->CE outer P w H s Q u s' :=
  λ{σ' H' v u} J rv q=>⟨v,H',J.os,J.bare,J.base,J.hok,rv,q⟩
 cases fl with
 | ret u =>
  obtain⟨v,σ',H',J,rv,q⟩:=hs
  exact fin J rv q
 | next =>
  obtain⟨σ',H',J,q⟩:=hs
  exact fin (v:=V.non) (u:=Value.none) J rfl q
 | brk =>
  obtain⟨_,_,_,q⟩:=hs
  exact False.elim q
 | cont =>
  obtain⟨_,_,_,q⟩:=hs
  exact False.elim q
section
variable {X:Cx} {x:Str} {p pos:Pos} {e:Expr} {es:List Expr} {t:TA} {id T:String} {r:List V->Hp->VK->Prop}
def tCB (r:List V->Hp->VK->Prop) (t:TA):TE:=λZ H Q=>t Z H λvs H1=>r vs H1 Q
theorem zB (hc:wR X (.builtin id) r) (hg:Gl X x) (hm:X.mg x=none) (hv:bootBuiltins x=some (.builtin id)) (ha:PA X (e :: es) t) (hn:x ≠ "__name__":=by decide) (hdb:(x == ("__debug__" : Str))=false:=by decide)
  (he:starEach (e :: es) X.env=(false,eval e X.env) :: starEach es X.env:=by rfl) (hpl:(backTo pos (starEach es X.env)).any (·.1)=false:=by rfl):PE X (.Call (.Name x p) (e :: es) [] pos) (tCB r t):=by
 intro pins s Z H Q I h
 refine wpAny_Call_Name_kw (ZC I hg hm hv ?_ hn hdb)
 exact PyProof.Rows.callWith_builtin1 (thn (ha pos pins s Z H _ I h) λus s1 ⟨vs,H1,I1,r1,q1⟩=>hc pins s1 Z H1 vs us Q I1 r1 q1) he hpl
theorem xf (hc:wR X (.type T) r) (hg:Gl X x) (hm:X.mg x=none) (hv:bootBuiltins x=some (.type T)) (ha:PA X (e :: es) t) (hn:x ≠ "__name__":=by decide) (hdb:(x == ("__debug__" : Str))=false:=by decide)
  (he:starEach (e :: es) X.env=(false,eval e X.env) :: starEach es X.env:=by rfl) (hpl:(backTo pos (starEach es X.env)).any (·.1)=false:=by rfl):PE X (.Call (.Name x p) (e :: es) [] pos) (tCB r t):=by
 intro pins s Z H Q I h
 refine wpAny_Call_Name_kw (ZC I hg hm hv ?_ hn hdb)
 exact PyProof.Rows.callWith_type1 (thn (ha pos pins s Z H _ I h) λus s1 ⟨vs,H1,I1,r1,q1⟩=>hc pins s1 Z H1 vs us Q I1 r1 q1) he hpl
end
end L2
namespace HT
open PySem PyProof.Rows
def lexLt:List Int->List Int->Bool
 | [],[]=>false
 | [],_ :: _=>true
 | _ :: _,[]=>false
 | x :: xs,y :: ys=>if x=y then lexLt xs ys else decide (x<y)
theorem uF (x y:Int) (xs ys:List Int):lexLt (x :: xs) (y :: ys)=if x=y then lexLt xs ys else decide (x<y):=rfl
theorem YH:lexLt [] []=false:=rfl
theorem VR (y:Int) (ys:List Int):lexLt [] (y :: ys)=true:=rfl
theorem ug (x:Int) (xs:List Int):lexLt (x :: xs) []=false:=rfl
theorem zcL (A:Around) (s:Shared) (a:Int) (t:Tok) (c:Int) (u:Tok):∃ e,SeqAt.EqAt A s (.int a t) (.int c u) e/\(e=true↔a=c) :=
 ⟨(a == c),SeqAt.EqAt.int_int a t c u,by simp⟩
theorem zaO (A:Around) (s:Shared) (a:Int) (t:Tok) (c:Int) (u:Tok) (prog:Program) (w:World) (E:Value->Shared->Prop) (Q:Value->Shared->Prop) (h:Q (.bool (decide (a<c))) s) :
  wpAny (model prog w) A (richCompare .Lt (.int a t) (.int c u)) Q E s :=
 (PyProof.Rows.lt_int h:wpAny (model prog w) A (compareOp .Lt (.int a t) (.int c u)) Q E s)
section
open PySem.SeqAt
open PySem.AutoSeq1 (wpAny_loadPart')
open PySem.MeetsSeq PySem.MeetsSeq2 PySem.MeetsSeq3
end
section
variable {prog:Program} {w:World} {A:Around} {E:Value->Shared->Prop} {s:Shared}
def sIx (n d:Nat):Option Int->Nat
 | none=>d
 | some v=>if v<0 then (v+(n:Int)).toNat else min v.toNat n
theorem V6 (n d:Nat):sIx n d none=d:=rfl
theorem Wf (n d k:Nat):sIx n d (some (k:Int))=min k n:=by
 show (if (k:Int)<0 then ((k:Int)+(n:Int)).toNat else min (k:Int).toNat n)=min k n
 rw [if_neg (by omega),Int.toNat_natCast]
end
end HT
namespace L2
open PySem PySem.Spec PyProof.Rows
abbrev TO:=St->Hp->(Option Int->Hp->Prop)->Prop
def PO (X:Cx) (e:Option Expr) (t:TO):Prop :=
 ∀ (pins:List (Addr×Obj)) (s:Shared) (Z:St) (H:Hp) (Q:Option Int->Hp->Prop),Inv X pins Z H s->t Z H Q ->
  wpAny (model X.prog X.w) X.A (evalPart e X.env) (λu s'=>∃ o H',Inv X pins Z H' s'/\IsPart u o/\Q o H') X.xe s
def Vn:TO:=λ_ H Q=>Q none H
def zbS (t:TE):TO:=λZ H Q=>t Z H λx H1=>∃ i,x=.int i/\Q (some i) H1
theorem intsAre_of {ns:List Int}:∀ {us:List Value},Vals (ns.map V.int) us->IntsAre us ns:=by
 induction ns with
 | nil=>intro us r;rw [List.map_nil] at r;cases r;exact .nil
 | cons n ns ih =>
  intro us r
  rw [List.map_cons] at r
  cases r with
  | cons r1 r2 =>
   obtain⟨t,e⟩:=r1
   subst e
   exact .cons n t (ih r2)
section
variable {X:Cx} {e:Expr} {te:TE} {lo hi:Option Expr} {tl th:TO} {pos p2:Pos}
theorem xx:PO X none Vn:=by
 intro pins s Z H Q I h
 rw [evalPart_none]
 exact wpAny_pure ⟨none,H,I,.none,h⟩
theorem yJ (h:PE X e te):PO X (some e) (zbS te):=by
 intro pins s Z H Q I hw
 rw [evalPart_some]
 refine thn (h pins s Z H _ I hw) λu s1 ⟨x,H1,I1,r1,q1⟩=>?_
 obtain⟨i,rfl,q⟩:=q1
 obtain⟨t,rfl⟩:=r1
 exact⟨some i,H1,I1,.int i t,q⟩
def SlR (X:Cx) (r:V->Option Int->Option Int->Hp->VK->Prop):Prop :=
 ∀ (pins:List (Addr×Obj)) (s:Shared) (Z:St) (H:Hp) (x:V) (v vl vu:Value) (lo hi:Option Int) (sl:Addr) (Q:VK),Inv X pins Z H s->RelV x v->s.heap.IsSliceOf sl vl vu .none->IsPart vl lo->IsPart vu hi->r x lo hi H Q ->
  ∃ T id,typeLookup (.type T) "__getitem__" = pure (some (.builtin id))/\s.TypeIs v T/\wpAny (model X.prog X.w) X.A (getItem v (.ref sl)) (EP X pins Z Q) X.xe s
def tSl (r:V->Option Int->Option Int->Hp->VK->Prop) (te:TE) (tl th:TO):TE:=λZ H Q=>te Z H λx H1=>tl Z H1 λl H2=>th Z H2 λu H3=>r x l u H3 Q
theorem yt {r:V->Option Int->Option Int->Hp->VK->Prop} (hr:SlR X r) (he:PE X e te) (hl:PO X lo tl) (hu:PO X hi th):PE X (.Subscript e (.Slice lo hi none p2) pos) (tSl r te tl th):=by
 intro pins s Z H Q I h
 refine Subscript_ (thn (he pins s Z H _ I h) λv s1 ⟨x,H1,I1,r1,q1⟩=>?_)
 refine wpAny_Slice (thn (hl pins s1 Z H1 _ I1 q1) λvl s2 ⟨l,H2,I2,pl,q2⟩=>thn (hu pins s2 Z H2 _ I2 q2) λvu s3 ⟨u,H3,I3,pu,q3⟩=>?_)
 rw [evalPart_none]
 refine wpAny_pure ?_
 have I4:Inv X pins Z H3 { s3 with heap:=s3.heap.push { cls:=.type "slice",data:=.fields #[vl,vu,.none] } }:=I3.kept (t':=s3.toks) λb ob q=>Heap.get?_push_of_some _ q
 obtain⟨T,id,hT,ht,hg⟩:=hr pins { s3 with heap:=s3.heap.push { cls:=.type "slice",data:=.fields #[vl,vu,.none] } } Z H3 x v vl vu l u s3.heap.objs.size Q I4 r1 (Heap.IsSliceOf.new ..) pl pu q3
 show wpAny (model X.prog X.w) X.A (subscriptTail e (.Slice lo hi none p2) v (.ref s3.heap.objs.size)) (EP X pins Z Q) X.xe { s3 with heap:=s3.heap.push { cls:=.type "slice",data:=.fields #[vl,vu,.none] } }
 exact tail_any (ops:=[.ref s3.heap.objs.size,v]) ht hT hg (by with_unfolding_all rfl)
def qH (xs:List V) (lo hi:Option Int):List V:=(xs.drop (HT.sIx xs.length 0 lo)).take (HT.sIx xs.length xs.length hi-HT.sIx xs.length 0 lo)
theorem zai (xs:List V) (lo hi:Option Int):(qH xs lo hi).length<=xs.length:=by
 unfold qH
 rw [List.length_take,List.length_drop]
 omega
end
def ixN (n:Nat) (i:Int):Option Nat:=if 0<=i then (if i<n then some i.toNat else none) else if -(n:Int)<=i then some (i+n).toNat else none
def atI {α:Type} (xs:List α) (i:Int):Option α:=(ixN xs.length i).bind λj=>xs[j]?
theorem zbX {n:Nat} {i:Int} {j:Nat} (h:ixN n i=some j):seqIndex? i n=some j/\j<n/\-(n:Int)<=i/\i<n:=by
 unfold ixN at h
 by_cases h0:0<=i
 ·rw [if_pos h0] at h
  by_cases h1:i<n
  ·rw [if_pos h1] at h
   have e:i.toNat=j:=Option.some.inj h
   exact⟨by rw [seqIndex_of h0 h1,e],by omega,by omega,h1⟩
  ·rw [if_neg h1] at h;cases h
 ·rw [if_neg h0] at h
  by_cases h1:-(n:Int)<=i
  ·rw [if_pos h1] at h
   have e:(i+n).toNat=j:=Option.some.inj h
   exact⟨by rw [seqIndex_neg (by omega) h1,e],by omega,h1,by omega⟩
  ·rw [if_neg h1] at h;cases h
theorem zbU {α:Type} {xs:List α} {i:Int} {v:α} (h:atI xs i=some v):∃ j,seqIndex? i xs.length=some j/\xs[j]?=some v/\j<xs.length/\-(xs.length:Int)<=i/\i<xs.length:=by
 unfold atI at h
 cases e:ixN xs.length i with
 | none=>rw [e] at h;cases h
 | some j =>
  rw [e] at h
  obtain⟨h1,h2,h3,h4⟩:=zbX e
  exact⟨j,h1,h,h2,h3,h4⟩
theorem vB {α:Type} {xs:List α} {j:Nat} {v:α} (h:xs[j]?=some v):atI xs (j:Int)=some v:=by
 have hj:j<xs.length:=(List.getElem?_eq_some_iff.mp h).1
 have e:ixN xs.length (j:Int)=some j:=by
  unfold ixN
  rw [if_pos (by omega),if_pos (by omega)];simp
 unfold atI;rw [e];exact h
theorem zc5 {α:Type} (xs:List α) (v:α):atI (xs++[v]) (-1)=some v:=by
 have hl:(xs++[v]).length=xs.length+1:=by simp
 have e:ixN (xs++[v]).length (-1)=some xs.length:=by
  unfold ixN
  rw [hl,if_neg (by decide),if_pos (by omega)]
  congr 1
  omega
 unfold atI
 rw [e]
 show (xs++[v])[xs.length]?=some v
 simp
def zbK (b:Expr):Prop:=∀ o i,subscripted b false o i=operate [o,i] (getItem o i)
def IxR (X:Cx) (r:R2):Prop :=
 ∀ (value slice:Expr) (pins:List (Addr×Obj)) (s:Shared) (Z:St) (H:Hp) (x y:V) (v u:Value) (Q:VK),Inv X pins Z H s->RelV x v->RelV y u->r x y H Q ->
  subscripted slice false v u=operate [v,u] (getItem v u)->wpAny (model X.prog X.w) X.A (subscriptTail value slice v u) (EP X pins Z Q) X.xe s
def MtR (X:Cx) (id:String) (r:V->List V->Hp->VK->Prop):Prop :=
 ∀ (pins:List (Addr×Obj)) (s:Shared) (Z:St) (H:Hp) (x:V) (xs:List V) (v:Value) (us:List Value) (Q:VK),Inv X pins Z H s->RelV x v->Vals xs us->r x xs H Q ->
  wpAny (model X.prog X.w) X.A (call (.builtin id) (v :: us)) (EP X pins Z Q) X.xe s
section
variable {X:Cx} {a b:Expr} {ta tb:TE} {pos:Pos}
theorem yd {r:R2} (hr:IxR X r) (ha:PE X a ta) (hb:PE X b tb) (hs:zbK b):PE X (.Subscript a b pos) (tOp r ta tb):=by
 intro pins s Z H Q I h
 exact Subscript_ (zfG ha hb I h λv u s2 x y H2 I2 rx ry q=>hr a b pins s2 Z H2 x y v u Q I2 rx ry q (hs _ _))
def zfR (K:W.Frag):R2:=λx y H Q=>∃ p xs i v,x=.ref p/\y=.int i/\SqL K H p xs/\atI xs i=some v/\Q v H
def zfW (K:W.Frag):R2:=λx y H Q=>∃ p xs i v,x=.ref p/\y=.int i/\SqT K H p xs/\atI xs i=some v/\Q v H
theorem zd8:IxR X (zfR X.K):=by
 intro value slice pins s Z H x y v u Q I rx ry h hs
 obtain⟨p,xs,i,z,rfl,rfl,hq,he,q⟩:=h
 cases rx
 obtain⟨t,rfl⟩:=ry
 obtain⟨its,r,pl,hz⟩:=I.list hq
 obtain⟨j,h1,h2,h3,h4,h5⟩:=zbU he
 obtain⟨w,ew,rw'⟩:=r.get h2
 have hl:=r.length
 have hn:=Jp
 have fin:EP X pins Z Q w s:=⟨z,H,I,rw',q⟩
 by_cases h0:0<=i
 ·have hj:i.toNat=j:=by
   rw [seqIndex_of h0 h5] at h1
   exact Option.some.inj h1
  exact item_listR pl.isList h0 (by omega) (by rw [hj];simpa using ew) fin hs
 ·have hj:(i+(its.toArray.size:Int)).toNat=j:=by
   rw [seqIndex_neg (by omega) h4] at h1
   rw [List.size_toArray,<- hl]
   exact Option.some.inj h1
  exact subscriptTail_builtinR (x:=w) pl.isList.typeIs slot_list_getitem.lookup
   (wpAny_getItem_list_neg (Q:=λr s'=>r=w/\EP X pins Z Q r s') pl.isList (by omega) (by rw [List.size_toArray]<;>omega) (by omega) (by rw [hj];simpa using ew) ⟨rfl,fin⟩) hs
theorem zfB:IxR X (zfW X.K):=by
 intro value slice pins s Z H x y v u Q I rx ry h hs
 obtain⟨p,xs,i,z,rfl,rfl,hq,he,q⟩:=h
 cases rx
 obtain⟨t,rfl⟩:=ry
 obtain⟨its,r,pl,hz⟩:=I.tuple hq
 obtain⟨j,h1,h2,h3,h4,h5⟩:=zbU he
 obtain⟨w,ew,rw'⟩:=r.get h2
 have hl:=r.length
 have hn:=Jp
 have fin:EP X pins Z Q w s:=⟨z,H,I,rw',q⟩
 exact subscriptTail_builtinR (x:=w) pl.typeIs slot_tuple_getitem.lookup
  (getItem_tuple (j:=j) (Q:=λr s'=>r=w/\EP X pins Z Q r s') pl (by omega) (by omega) (by rw [List.size_toArray,<- hl];exact h1) (by simpa using ew) ⟨rfl,fin⟩) hs
theorem zbf (its:List Value) (n j:Nat) (u:Value):Obj.mapSeq (·.setIfInBounds j u) { cls:=.type "list",data:=.seq its.toArray n }={ cls:=.type "list",data:=.seq (its.set j u).toArray n }:=by
 simp [Obj.mapSeq]
theorem Inv.lst {pins:List (Addr×Obj)} {Z:St} {H:Hp} {s:Shared} {p:Addr} {xs:List V} (I:Inv X pins Z H s) (h:H p=some (.lst xs)) :
  ∃ (its:List Value) (n:Nat),Vals xs its/\s.heap.get? p=some { cls:=.type "list",data:=.seq its.toArray n }/\xs.length<=sizeLine:=by
 obtain⟨z,its,n,r,e⟩:=I.hok p _ h
 exact⟨its,n,r,e,z⟩
theorem Inv.lstUpd {pins:List (Addr×Obj)} {Z:St} {H:Hp} {s:Shared} {p:Addr} {xs ys:List V} {its its':List Value} {n n':Nat} {f:Obj->Obj} (I:Inv X pins Z H s) (h:H p=some (.lst xs))
  (ho:s.heap.get? p=some { cls:=.type "list",data:=.seq its.toArray n }) (hf:f { cls:=.type "list",data:=.seq its.toArray n }={ cls:=.type "list",data:=.seq its'.toArray n' }) (r:Vals ys its') (hz:ys.length<=sizeLine) (t:Nat) :
  Inv X pins Z (upd H p (.lst ys)) { s with heap:=s.heap.update p f,toks:=t }:=by
 have e:(s.heap.update p f).get? p=some { cls:=.type "list",data:=.seq its'.toArray n' }:=by
  rw [Heap.get?_update_self f ho (by rw [hf]<;>rfl),hf]
 refine I.write (x:=p) (e:=p) (by rw [h];trivial) (.inl rfl) (λb u hb q=>(Heap.get?_update_other _ _ (Ne.symm hb)).trans q) ⟨_,e⟩ ?_
 exact⟨hz,its',n',r,e⟩
def zgn:V->V->V->Hp->(Hp->Prop)->Prop:=λo i v H Q=>∃ p xs k j,o=.ref p/\i=.int k/\H p=some (.lst xs)/\ixN xs.length k=some j/\Q (upd H p (.lst (xs.set j v)))
theorem set_list:zgw X zgn:=by
 intro pins s Z H o i v ov iv u Q I ro ri rv h
 obtain⟨p,xs,k,j,rfl,rfl,hp,hj,q⟩:=h
 cases ro
 obtain⟨t,rfl⟩:=ri
 obtain⟨its,n,r,ho,hz⟩:=I.lst hp
 obtain⟨h1,h2,h3,h4⟩:=zbX hj
 have hl:=r.length
 have hn:=Jp
 have I':Inv X pins Z (upd H p (.lst (xs.set j v))) { s with heap:=s.heap.update p (Obj.mapSeq (·.setIfInBounds j u)) } :=
  I.lstUpd hp ho (zbf its n j u) (r.set rv j) (by rw [List.length_set];exact hz) s.toks
 by_cases h0:0<=k
 ·have hk:k.toNat=j:=by
   rw [seqIndex_of h0 h4] at h1
   exact Option.some.inj h1
  exact W.ki_setAt ho h0 (by omega) (by rw [List.size_toArray,<- hl];exact h4) (by rw [hk];exact⟨_,I',q⟩)
 ·have hk:(k+(its.toArray.size:Int)).toNat=j:=by
   rw [seqIndex_neg (by omega) h3] at h1
   rw [List.size_toArray,<- hl]
   exact Option.some.inj h1
  exact W.ki_setBack ho (by omega) (by rw [List.size_toArray,<- hl];exact h3) (by omega) (by rw [hk];exact⟨_,I',q⟩)
theorem Jf (lo hi:Option Int) (n:Nat):(sliceBounds lo hi none n).1=((HT.sIx n 0 lo:Nat):Int)/\(sliceBounds lo hi none n).2.1=((HT.sIx n n hi:Nat):Int)/\(sliceBounds lo hi none n).2.2=1:=by
 refine⟨?_,?_,rfl⟩
 ·cases lo with
  | none=>simp [sliceBounds,HT.sIx]
  | some i =>
   simp only [sliceBounds,HT.sIx,Option.getD_none,show (1:Int)>0 by decide,if_true]
   by_cases h:i<0
   ·simp only [h,if_true]<;>omega
   ·simp only [h,if_false]<;>omega
 ·cases hi with
  | none=>simp [sliceBounds,HT.sIx]
  | some i =>
   simp only [sliceBounds,HT.sIx,Option.getD_none,show (1:Int)>0 by decide,if_true]
   by_cases h:i<0
   ·simp only [h,if_true]<;>omega
   ·simp only [h,if_false]<;>omega
theorem Ql (its:List Value) (lo hi:Option Int):slicePick its.toArray lo hi none=((its.drop (HT.sIx its.length 0 lo)).take (HT.sIx its.length its.length hi-HT.sIx its.length 0 lo)).toArray:=by
 obtain⟨h1,h2,h3⟩:=Jf lo hi its.toArray.size
 unfold slicePick
 rw [h1,h2,h3]
 simp only [sliceRange_one,pick_run,List.size_toArray]<;>rfl
def zdM (K:W.Frag):V->Option Int->Option Int->Hp->VK->Prop:=λx lo hi H Q=>∃ a xs,x=.ref a/\SqL K H a xs/\∀ p,H p=none->Q (.ref p) (upd H p (.lst (qH xs lo hi)))
theorem zek:SlR X (zdM X.K):=by
 intro pins s Z H x v vl vu lo hi sl Q I rx hs pl pu h
 obtain⟨a,xs,rfl,hx,q⟩:=h
 cases rx
 obtain⟨its,r,ht,hz⟩:=I.list hx
 have hlen:=r.length
 refine⟨"list",_,slot_list_getitem.lookup,ht.isList.typeIs,?_⟩
 refine wpAny_getItem_list_slice ht.isList hs pl pu .none (by simp) ?_ (by rw [List.size_toArray]<;>omega)
 rw [Ql,<- hlen]
 refine⟨.ref s.heap.objs.size,_,I.laid (t':=s.toks) (o:=.lst (qH xs lo hi)) (λb ob q=>Heap.get?_push_of_some _ q) (Nat.le_refl _) ?_,rfl,q _ (I.hok.fresh (Nat.le_refl _))⟩
 exact⟨Nat.le_trans (zai xs lo hi) hz,_,0,(r.drop (HT.sIx xs.length 0 lo)).take (HT.sIx xs.length xs.length hi-HT.sIx xs.length 0 lo),Heap.get?_push_size _ rfl⟩
theorem Jm:wR X (.builtin "len") (λxs H Q=>∃ p ys,xs=[.ref p]/\(SqL X.K H p ys\/SqT X.K H p ys)/\Q (.int ys.length) H):=by
 intro pins s Z H xs us Q I r h
 obtain⟨p,ys,rfl,hq,q⟩:=h
 obtain⟨u,rfl,rx⟩:=vals1 r
 cases rx
 have hn:=Jp
 rcases hq with hq | hq
 ·obtain⟨its,r',pl,hz⟩:=I.list hq
  have hlen:=r'.length
  exact Calls.call_len_list pl.isList (by simp only [List.size_toArray]<;>omega) ⟨.int ys.length,H,I.tok _,⟨s.toks+1,by rw [List.size_toArray,hlen]⟩,q⟩
 ·obtain⟨its,r',pl,hz⟩:=I.tuple hq
  have hlen:=r'.length
  exact len_tuple pl (by simp only [List.size_toArray]<;>omega) ⟨.int ys.length,H,I.tok _,⟨s.toks+1,by rw [List.size_toArray,hlen]⟩,q⟩
theorem Ju:wR X (.type "list") (λxs H Q=>∃ p ys,xs=[.ref p]/\(SqL X.K H p ys\/SqT X.K H p ys)/\∀ l,H l=none->Q (.ref l) (upd H l (.lst ys))):=by
 intro pins s Z H xs us Q I r h
 obtain⟨p,ys,rfl,hq,q⟩:=h
 obtain⟨u,rfl,rx⟩:=vals1 r
 cases rx
 have fin:∀ (its:List Value),Vals ys its->ys.length<=sizeLine->∀ (h':Heap) (c':Nat),(∀ b o',s.heap.get? b=some o'->h'.get? b=some o') ->
   h'.get? s.heap.objs.size=some { cls:=.type "list",dict:=none,data:=.seq its.toArray c',slots:=#[] }->EP X pins Z Q (.ref s.heap.objs.size) { s with heap:=h' }:=λits r' hz h' c' kp e =>
  ⟨.ref s.heap.objs.size,_,I.laid (t':=s.toks) kp (Nat.le_refl _) (show ObjOk X.prog X.w _ h' _ (.lst ys) from ⟨hz,its,c',r',e⟩),rfl,q _ (I.hok.fresh (Nat.le_refl _))⟩
 rcases hq with hq | hq
 ·obtain⟨its,r',pl,hz⟩:=I.list hq
  have hlen:=r'.length
  obtain⟨o,ho,hc,n,hd⟩:=pl.isList
  exact call_list_seq p (.inl rfl) ho hc hd (λh' c' kp e=>fin its r' hz h' c' kp e) (by simp only [List.size_toArray]<;>omega)
 ·obtain⟨its,r',pl,hz⟩:=I.tuple hq
  have hlen:=r'.length
  obtain⟨o,ho,hc,n,hd⟩:=pl
  exact call_list_seq p (.inr rfl) ho hc hd (λh' c' kp e=>fin its r' hz h' c' kp e) (by simp only [List.size_toArray]<;>omega)
theorem jn:wR X (.type "tuple") (λxs H Q=>∃ p ys,xs=[.ref p]/\((SqL X.K H p ys/\∀ l,H l=none->Q (.ref l) (upd H l (.tup ys)))\/(SqT X.K H p ys/\Q (.ref p) H))):=by
 intro pins s Z H xs us Q I r h
 obtain⟨p,ys,rfl,h⟩:=h
 obtain⟨u,rfl,rx⟩:=vals1 r
 cases rx
 rcases h with ⟨hq,q⟩ | ⟨hq,q⟩
 ·obtain⟨its,r',pl,hz⟩:=I.list hq
  have hlen:=r'.length
  refine call_tuple_list pl.isList (λh' kp=>?_) (by simp only [List.size_toArray]<;>omega)
  have I1:Inv X pins Z H { s with heap:=h' }:=I.kept (t':=s.toks) kp
  have I2:Inv X pins Z (upd H h'.objs.size (.tup ys)) { s with heap:=h'.push { cls:=.type "tuple",data:=.seq its.toArray } } :=
   I1.laid (t':=s.toks) (λb o e=>Heap.get?_push_of_some _ e) (Nat.le_refl _) (show ObjOk X.prog X.w _ _ _ (.tup ys) from ⟨hz,its,r',IsTup.new _ _⟩)
  exact⟨.ref h'.objs.size,_,I2,rfl,q _ (I1.hok.fresh (Nat.le_refl _))⟩
 ·obtain⟨its,r',pl,hz⟩:=I.tuple hq
  exact call_tuple_same pl ⟨.ref p,H,I,rfl,q⟩
def tyV (K:W.Frag) (T:String) (x:V) (H:Hp):Prop:=match x with
 | .str _=>T = "str"
 | .int _=>T = "int"
 | .ref p=>(T = "list"/\∃ xs,SqL K H p xs)\/(T = "tuple"/\∃ o,K.lookup p=some o/\o.cls=.type "tuple"/\o.dict=none) \/
   (T = "dict"/\((∃ kvs,H p=some (.dK kvs))\/∃ kvs,H p=some (.dT kvs)))\/(T = "set"/\∃ S n,H p=some (.set S n))
 | _=>False
theorem zfv {pins:List (Addr×Obj)} {Z:St} {H:Hp} {s:Shared} {T:String} {x:V} {v:Value} (I:Inv X pins Z H s) (r:RelV x v) (ty:tyV X.K T x H) :
  s.TypeIs v T/\∀ a,v=.ref a->∃ ob,s.heap.get? a=some ob/\ob.dict=none:=by
 cases x with
 | str z =>
  obtain⟨t,rfl⟩:=r
  cases (show T = "str" from ty)
  exact⟨typeIs_str s z t,λ_ e=>nomatch e⟩
 | int i =>
  obtain⟨t,rfl⟩:=r
  cases (show T = "int" from ty)
  exact⟨typeIs_int s i t,λ_ e=>nomatch e⟩
 | ref p =>
  cases r
  rcases ty with ⟨rfl,xs,hq⟩ | ⟨rfl,o,hk,hc,hd⟩ | ⟨rfl,hk⟩ | ⟨rfl,S,n,hk⟩
  ·obtain⟨its,_,pl,_⟩:=I.list hq
   refine⟨pl.isList.typeIs,λa e=>?_⟩
   cases e
   obtain⟨o,n,e,c,hd,_⟩:=pl
   exact⟨o,e,hd⟩
  ·refine⟨⟨o,I.kIn p o hk,hc⟩,λa e=>?_⟩
   cases e
   exact⟨o,I.kIn _ o hk,hd⟩
  ·have z:∃ o,s.heap.get? p=some o/\o.ExactDict:=by
    rcases hk with ⟨kvs,hk⟩ | ⟨kvs,hk⟩
    ·obtain⟨_,_,_,_,o,_,_,e,ex,_⟩:=I.hok p _ hk
     exact⟨o,e,ex⟩
    ·obtain⟨_,_,_,_,o,_,_,e,ex,_⟩:=I.hok p _ hk
     exact⟨o,e,ex⟩
   obtain⟨o,e,ex⟩:=z
   refine⟨⟨o,e,ex.1⟩,λa e2=>?_⟩
   cases e2
   exact⟨o,e,ex.2.1⟩
  ·obtain⟨o,_,_,_,e,ex,_⟩:=I.hok p _ hk
   refine⟨⟨o,e,ex.1⟩,λa e2=>?_⟩
   cases e2
   exact⟨o,e,ex.2.1⟩
 | _=>exact False.elim ty
def tBM (K:W.Frag) (T:String) (r:V->List V->Hp->VK->Prop) (to:TE) (t:TA):TE:=λZ H Q=>to Z H λx H1=>tyV K T x H1/\t Z H1 λxs H2=>r x xs H2 Q
variable {o e:Expr} {es:List Expr} {to:TE} {t:TA} {name:Str} {apos cpos:Pos} {T id:String} {r:V->List V->Hp->VK->Prop}
theorem Q5 (pa:PlainAttrs T) (slot:Slot T name id) (hty:typeOf (.builtin id)=pure (.type "method_descriptor")) (hm:MtR X id r) (ho:PE X o to) (ha:PA X (e :: es) t)
  (hbase:attributeBase o name X.env (eval o X.env)=eval o X.env:=by rfl)
  (hfew:((backTo cpos (starEach (e :: es) X.env)).all (λx=>!x.1) && (backToKw cpos (keywordEach [] X.env)).all (λx=>x.1.isSome)
   && decide ((e :: es).length+([]:List Keyword).length+(if ([]:List Keyword).isEmpty then 0 else 1)<30))=true:=by rfl)
  (hline:(apos.endLine == cpos.line)=true:=by rfl) (hs:starEach (e :: es) X.env=(false,eval e X.env) :: starEach es X.env:=by rfl) (hplain:(backTo cpos (starEach es X.env)).any (·.1)=false:=by rfl) :
  PE X (.Call (.Attribute o name apos) (e :: es) [] cpos) (tBM X.K T r to t):=by
 intro pins s Z H Q I h
 refine wpAny_Call_method_late hbase hfew hline rfl (thn (ho pins s Z H _ I h) λv s1 ⟨x,H1,I1,r1,ty,q1⟩=>?_)
 obtain⟨h1,h2⟩:=zfv I1 r1 ty
 refine⟨T,id,pa,slot,hty,h1,h2,?_⟩
 have hA:=ha cpos pins s1 Z H1 _ I1 q1
 rw [hs] at hA ⊢
 refine Calls.callWith_builtin (by show (false || (backTo cpos (starEach es X.env)).any (·.1))=false;rw [hplain]<;>rfl) (Calls.evalArgs_plain ?_)
 exact thn hA λus s2 ⟨vs,H2,I2,r2,q2⟩=>hm pins s2 Z H2 x vs v us Q I2 r1 r2 q2
end
def MtM (X:Cx) (id:String) (r:V->List V->Hp->VK->Prop):Prop :=
 ∀ (pins:List (Addr×Obj)) (s:Shared) (Z:St) (H:Hp) (x:V) (xs:List V) (v:Value) (us:List Value) (Q:VK),Inv X pins Z H s->RelV x v->Vals xs us->r x xs H Q ->
  wpAny (model X.prog X.w) X.A (call (.builtin id) (v :: us)) (EP X pins Z Q) X.xe s
theorem Vals.one:∀ {x:V} {us:List Value},Vals [x] us->∃ u,us=[u]/\RelV x u
 | _,_,.cons r .nil=>⟨_,rfl,r⟩
theorem Vals.zero:∀ {us:List Value},Vals [] us->us=[]
 | _,.nil=>rfl
theorem Vals.reverse {xs:List V} {us:List Value} (h:Vals xs us):Vals xs.reverse us.reverse:=by
 induction h with
 | nil=>exact .nil
 | cons r t ih=>rw [List.reverse_cons,List.reverse_cons];exact Vals.append ih (.cons r .nil)
theorem Vals.rep {xs:List V} {us:List Value} (h:Vals xs us):∀ k:Nat,Vals (List.replicate k xs).flatten (List.replicate k us).flatten
 | 0=>.nil
 | k+1=>by
  rw [List.replicate_succ,List.replicate_succ,List.flatten_cons,List.flatten_cons]
  exact Vals.append h (Vals.rep h k)
theorem foldl_rep (its:List Value):∀ (k:Nat) (acc:List Value),
  List.foldl (λx1 x2=>x1++x2) acc.toArray (List.replicate k its.toArray)=(acc++(List.replicate k its).flatten).toArray
 | 0,acc=>by simp
 | k+1,acc=>by
  have e:acc.toArray++its.toArray=(acc++its).toArray:=by simp
  have e2:(acc++its)++(List.replicate k its).flatten=acc++(List.replicate (k+1) its).flatten:=by
   rw [List.replicate_succ,List.flatten_cons,List.append_assoc]
  rw [<- e2,<- foldl_rep its k (acc++its),<- e,List.replicate_succ,List.foldl_cons]
section
variable {X:Cx} {pins:List (Addr×Obj)} {Z:St} {H:Hp} {s:Shared} {l b:Addr} {xs ys zs:List V}
theorem Inv.lset {its its':List Value} {n:Nat} {f:Array Value->Array Value} {t':Nat} (I:Inv X pins Z H s) (hH:H l=some (.lst xs))
  (e:s.heap.get? l=some { cls:=.type "list",data:=.seq its.toArray n }) (hf:f its.toArray=its'.toArray) (hv:Vals ys its') (hz:ys.length<=sizeLine) :
  Inv X pins Z (upd H l (.lst ys)) { s with heap:=s.heap.update l (Obj.mapSeq f),toks:=t' }:=by
 have q:=PySem.IsL.update e f
 rw [hf] at q
 refine I.write (x:=l) (e:=l) (by rw [hH];exact trivial) (.inl rfl) (λb' u hb hu=>(Heap.get?_update_other s.heap (Obj.mapSeq f) (Ne.symm hb)).trans hu) ⟨_,q⟩ ?_
 exact⟨hz,its',_,hv,q⟩
theorem Inv.lnew {its:List Value} {t':Nat} (I:Inv X pins Z H s) (hv:Vals ys its) (hz:ys.length<=sizeLine) :
  Inv X pins Z (upd H s.heap.objs.size (.lst ys)) { s with heap:=s.heap.push { cls:=.type "list",data:=.seq its.toArray },toks:=t' } :=
 I.laid (λ_ _ q=>Heap.get?_push_of_some _ q) (Nat.le_refl _) ⟨hz,its,0,hv,Heap.get?_push_size _ rfl⟩
theorem Inv.fresh (I:Inv X pins Z H s):H s.heap.objs.size=none:=I.hok.fresh (Nat.le_refl _)
theorem Inv.lstM (I:Inv X pins Z H s) (hH:H l=some (.lst xs)):xs.length<=sizeLine/\∃ (its:List Value) (n:Nat),Vals xs its/\xs.length=its.length/\s.heap.get? l=some { cls:=.type "list",data:=.seq its.toArray n }:=by
 obtain⟨z,its,n,r,e⟩:=I.hok l _ hH
 exact⟨z,its,n,r,r.length,e⟩
theorem zcR {n:Nat} (h:n<=sizeLine):Builtin.List.listTooLong n=false:=by
 unfold Builtin.List.listTooLong
 exact decide_eq_false (by omega)
end
section
variable {X:Cx}
def zdZ:V->List V->Hp->VK->Prop:=λx vs H Q=>∃ l xs y,x=.ref l/\vs=[y]/\H l=some (.lst xs)/\xs.length<sizeLine/\Q .non (upd H l (.lst (xs++[y])))
theorem jH:MtM X "list.append" zdZ:=by
 intro pins s Z H x vs v us Q I rx rv h
 obtain⟨l,xs,y,rfl,rfl,hH,hz,q⟩:=h
 cases rx
 obtain⟨u,rfl,ru⟩:=rv.one
 obtain⟨z,its,n,r,hl,e⟩:=I.lstM hH
 refine call_meets F.slot_list_append ⟨_,e,rfl⟩ F.entry_list_append (F.args_list_append_2 _ _) (PySem.list_append l its.toArray n u (by rw [List.size_toArray];omega)) ⟨e,?_⟩
 refine⟨.non,_,I.lset (its':=its++[u]) hH e (by simp) (r.append (.cons ru .nil)) ?_,rfl,q⟩
 rw [List.length_append,List.length_singleton]
 omega
def zaj:R2:=λx y H Q=>∃ l b xs zs,x=.ref l/\y=.ref b/\H l=some (.lst xs)/\H b=some (.lst zs)/\xs.length+zs.length<=sizeLine/\∀ p,H p=none->Q (.ref p) (upd H p (.lst (xs++zs)))
theorem yq:OpR X (binaryOp .Add) zaj:=by
 intro pins s Z H x y v u Q I rx ry h
 obtain⟨l,b,xs,zs,rfl,rfl,hH,hB,hz,q⟩:=h
 cases rx
 cases ry
 obtain⟨z,its,n,r,hl,e⟩:=I.lstM hH
 obtain⟨z2,its2,n2,r2,hl2,e2⟩:=I.lstM hB
 refine PySem.P.add_list e e2 ?_ (by rw [List.size_toArray,List.size_toArray];omega)
 have ea:its.toArray++its2.toArray=(its++its2).toArray:=by simp
 rw [ea]
 exact⟨.ref _,_,I.lnew (t':=s.toks) (r.append r2) (by rw [List.length_append];omega),rfl,q _ I.fresh⟩
def zdj:R2:=λx y H Q=>∃ l k xs,x=.ref l/\y=.int k/\H l=some (.lst xs)/\-(2^63)<=k/\k<2^63/\xs.length*k.toNat<=sizeLine /\
 ∀ p,H p=none->Q (.ref p) (upd H p (.lst (List.replicate k.toNat xs).flatten))
theorem len_rep {α:Type} (xs:List α) (k:Nat):(List.replicate k xs).flatten.length=k*xs.length:=by
 induction k with
 | zero=>simp
 | succ k ih=>rw [List.replicate_succ,List.flatten_cons,List.length_append,ih,Nat.succ_mul,Nat.add_comm]
theorem Y7:OpR X (binaryOp .Mult) zdj:=by
 intro pins s Z H x y v u Q I rx ry h
 obtain⟨l,k,xs,rfl,rfl,hH,h1,h2,hz,q⟩:=h
 cases rx
 obtain⟨t,rfl⟩:=ry
 obtain⟨z,its,n,r,hl,e⟩:=I.lstM hH
 have hlen:its.toArray.size*k.toNat<=sizeLine:=by rw [List.size_toArray,<- hl];exact hz
 have hcap:¬ its.toArray.size*k.toNat>(2^63-1) / 8:=by
  have:(sizeLine:Nat)<=(2^63-1) / 8:=by decide
  omega
 have hfit:¬ (!Builtin.List.listFitsIndex k)=true:=by
  rw [fitsIndex_both h1 h2]
  exact Bool.false_ne_true
 have hlong:¬ Builtin.List.listTooLong (its.toArray.size*k.toNat)=true:=by
  rw [zcR hlen]
  exact Bool.false_ne_true
 have hnew:List.foldl (λx1 x2=>x1++x2) #[] (List.replicate (if its.toArray.isEmpty=true then 0 else k.toNat) its.toArray)=(List.replicate k.toNat its).flatten.toArray:=by
  have f0:∀ m:Nat,List.foldl (λx1 x2=>x1++x2) #[] (List.replicate m its.toArray)=(List.replicate m its).flatten.toArray:=λm=>by
   have:=foldl_rep its m []
   rw [List.nil_append] at this
   exact this
  rw [f0]
  cases its with
  | nil=>simp
  | cons a r'=>rw [if_neg (by simp)]
 refine wpAny_binaryOp_repeat_ref (T:="list") (U:="int") (by decide) ⟨_,e,rfl⟩ (λs'=>typeIs_int s' k t) noFill_list_mul F.fills_int_mul F.slot_int_rmul repeat_list F.slot_int_index.lookup
  (call_meets F.slot_int_rmul (typeIs_int s k t) F.entry_int_rmul (F.args_int_rmul_2 _ _) (int___rmul___int_list k t l its.toArray n)
   ⟨e,rfl,⟨_,e,rfl⟩,call_meets F.slot_list_mul ⟨_,e,rfl⟩ F.entry_list_mul (F.args_list_mul_2 _ _) (AutoListH.list___mul___list_int_3 l its.toArray n k t hfit hcap hlong) ⟨e,?_⟩⟩)
 rw [hnew]
 exact⟨.ref _,_,I.lnew (t':=s.toks) (r.rep k.toNat) (by rw [len_rep,Nat.mul_comm];exact hz),rfl,q _ I.fresh⟩
end
section
variable {prog:Program} {w:World} {A:Around} {E:Value->Shared->Prop} {s:Shared}
end
section
variable {X:Cx}
end
end L2
namespace Att
open PySem PySem.W PySem.Calls PyProof.Rows
theorem Vb {P:Params} {h:Heap}:∀ (ns:List Int) (vs:List Value),WellAll P h vs (ns.map WData.int)->IntsAre vs ns:=by
 intro ns
 induction ns with
 | nil =>
  intro vs w
  rw [List.map_nil] at w
  cases w
  exact .nil
 | cons n ns ih =>
  intro vs w
  rw [List.map_cons] at w
  cases w with
  | cons a b =>
   cases a
   exact .cons _ _ (ih _ b)
theorem zcn {l:OpenLaw} {n:Nat} (hn:l.most=some n) {P:Params} {h:Heap} {args:List WData} {vals:List Value}
  (hpre:l.row.toRowW.claim.pre args=true) (hwl:WellAll P h vals args) :
  ∃ a vs ns,vals=[Value.ref a]/\args=[WData.list (ns.map WData.int)]/\h.get? a=some { cls:=.type "list",data:=.seq vs.toArray }/\IntsAre vs ns/\ns.length<=n:=by
 have hsh:WShape.hasAll [] args [.list .int]=true:=(pre_splitW hpre).1
 have hc:l.pre.holds [] { args:=args }=true:=(pre_splitW hpre).2
 obtain⟨d,r,rfl,h1,h2⟩:=hasAllW_cons hsh
 obtain rfl:=hasAllW_nil h2
 obtain⟨xs,rfl,h3⟩:=hasW_list h1
 obtain⟨ns,rfl⟩:=items_int h3
 have hlen:ns.length<=n:=by
  unfold OpenLaw.pre at hc
  have h4:(WTm.not (.lt (.lit (.int (n:Int))) (.len (.arg 0)))).holds [] { args:=[.list (ns.map .int)] }=true:=by
   have h4:=(holds_andW hc).1
   rw [hn] at h4
   exact h4
  have h5:=condW_of h4 (w_not (w_lt w_lit (w_len_list (w_arg rfl))))
  rw [List.length_map] at h5
  refine Nat.le_of_not_lt λq=>?_
  have q':(n:Int)<((ns.length:Nat):Int):=by omega
  first
   | (rw [decide_eq_true q'] at h5;exact absurd h5 (by decide))
   | (simp at h5;omega)
 cases hwl with
 | cons w1 w2 =>
  cases w2
  cases w1 with
  | list ho hall=>exact⟨_,_,ns,rfl,rfl,ho,Vb ns _ hall,hlen⟩
theorem zcl (l:OpenLaw) (args:List WData):l.row.toRowW.claim.post args (.bool true) args=true :=
 postW_of (r:=l.row.toRowW) (X:=(true == true))
  (show WShape.has [] (.bool true) .bool=true by first | rfl | decide | simp [WShape.has,WShape.arms,WShape.armsAll])
  (show (WTm.eq .res (.lit (.bool true))).value [] { args:=args,res:=some (.bool true),after:=args }=some (.bool (true == true)) from w_eq_bool (w_res rfl) w_lit) rfl
theorem zaA {l:OpenLaw} {n:Nat} {q:Program} {loose:List Str} {XP:(Str->Option Value)->Heap->Prop} {YP:World->Heap->Prop} {d:DefRec}
  (hn:l.most=some n) (hdf:d.params.defaults=[])
  (call:∀ (w:World) (s₀ s₁:Shared) (mg mb:Str->Option Value) (fa:Addr) (o:Obj) (pm cd doc:Value) (a:Addr) (vs:List Value) (ns:List Int),
   Ground q loose [] XP w s₀ mg mb s₁.heap->YP w s₁.heap ->
   s₁.heap.get? fa=some o->o.data=.func (docDef d.name d.params d.body d.scope pm cd doc)->s₁.heap.CodeRec cd d.name->mg d.name=some (.ref fa) ->
   s₁.heap.get? a=some { cls:=.type "list",data:=.seq vs.toArray }->IntsAre vs ns->ns.length<=n->s₁.gens=#[] ->
   codeAny (model l.prog w) callerA (.call (.ref fa) ⟨[.ref a],[]⟩) (λr s'=>r=.ok (.ret (.bool true))/\OldK s₁.heap s'.heap/\s'.os=s₁.os/\AllBare s'.gens) s₁) :
  WalkO q loose XP YP l.row.toRowW d [] (λf vs=>PySem.call f vs):=by
 intro w s₀ s₁ mg mb G Y fa o pm cd doc dV kV ho hd hcd hD hmg hg args vals as hpre hlay hrd hwl hlo
 obtain rfl:dV=.none:=Dflts.none hD hdf
 obtain rfl:kV=.none:=Dflts.noKw hD
 obtain⟨a,vs,ns,rfl,rfl,hobj,hints,hlen⟩:=zcn hn hpre hwl
 refine enter_call (codeAny_mono (call w s₀ s₁ mg mb fa o pm cd doc a vs ns G Y ho (fd_plain hd) hcd hmg hobj hints hlen hg) λr s' hq=>?_)
 obtain⟨rfl,h2,h3,h4⟩:=hq
 exact⟨.inl ⟨.bool true,.bool true,[],rfl,λ_=>rfl,.bool true,zcl l _,λ_=>⟨List.Pairwise.nil,λ_ hm=>(nomatch hm)⟩⟩,h2,h3,h4⟩
section
variable {prog:Program} {w:World} {A:Around} {E:Value->Shared->Prop} {s:Shared} {K:Frag}
end
end Att
namespace L2
open PySem PySem.Spec PyProof.Rows
theorem QJ:∀ {vs:List Value} {ns:List Int},IntsAre vs ns->Vals (ns.map V.int) vs
 | _,_,.nil=>.nil
 | _,_,.cons n t h=>.cons ⟨t,rfl⟩ (QJ h)
def inClass (s:Stmt) (j:Nat):Stmt:=match s with
 | .ClassDef _ _ _ body _ _ _ _ _ _ _=>body.getD j (.Pass ⟨0,0,0,0⟩)
 | _=>.Pass ⟨0,0,0,0⟩
def wX (s:Stmt):Arguments:=match s with
 | .FunctionDef _ a _ _ _ _ _ _ _ _=>a
 | _=>{ posonlyargs:=[],args:=[],vararg:=none,kwonlyargs:=[],kw_defaults:=[],kwarg:=none,defaults:=[] }
def yR (s:Stmt):List Stmt:=match s with
 | .FunctionDef _ _ b _ _ _ _ _ _ _=>b
 | _=>[]
def zu (s:Stmt):Scope:=match s with
 | .FunctionDef _ _ _ _ _ _ sc _ _ _=>sc
 | _=>{ kind:=.function,names:=[],isGenerator:=false,isCoroutine:=false }
abbrev CX0:CXT:=λ_ _ _ _ _ _=>False
abbrev E0:XK:=λ_ _ _=>False
theorem Qv {X:Cx}:Xi CX0 X E0:=λ_ _ _ _ _ _ _ h=>h.elim
structure Fun (K:W.Frag) (x qual:Str) (st:Stmt) (f:Addr) (fd:FuncData):Prop where
 ex:∃ (oc:Value) (od:Option Addr) (kV doc pm:Value) (an:Option Addr) (cdv ct:Value) (osl:Array (Option Value)),
  fd=W.fnOf x qual (wX st) (yR st) (zu st) .none kV doc pm an cdv ct/\K.lookup f=some ⟨oc,od,.func fd,osl⟩/\W.codeIn K cdv qual=true
 kp:W.keepIn K (.ref f)=true
section
variable {P:Program} {w:World} {K:W.Frag} {mg:Str->Option Value} {base:Heap}
theorem Fun.ok {x qual:Str} {st:Stmt} {f:Addr} {fd:FuncData} {N ps:List Str} {k:Nat} {sp:Sp} (F:Fun K x qual st f fd) (S:zF N ps (zu st)) (len:∀ vs H Q E,sp vs H Q E->vs.length=ps.length)
  (hbody:∀ (cdv:Value) (A:Around) (outer:List Env) (s:Shared) (H:Hp) (vs:List V) (Q:VK) (E:XK),Room k (A.deeper (envOfC qual (zu st) s.heap.objs.size f cdv))->sp vs H Q E ->
   ∃ t,PSs (YG CX0 P w K mg base N qual (zu st) f cdv A outer s H E).nox (yR st) t/\t { nx:=λ_ H'=>Q .non H',rt:=Q } (start N vs) H):FnOk P w K mg base CX0 (k+1) f fd ps sp:=by
 obtain⟨oc,od,kV,doc,pm,an,cdv,ct,osl,rfl,lk,hcd⟩:=F.ex
 refine zdF lk hcd S len λA outer s H vs Q E hr hsp=>?_
 obtain⟨t,h,q⟩:=hbody cdv A outer s H vs Q E hr hsp
 exact⟨t,h.nox,q⟩
theorem Fun.binds {x qual:Str} {st:Stmt} {f:Addr} {fd:FuncData} {ps:List Str} (F:Fun K x qual st f fd)
  (h:∀ (kV doc pm:Value) (an:Option Addr) (cdv ct:Value) (us:List Value),us.length=ps.length->bindArgs (W.fnOf x qual (wX st) (yR st) (zu st) .none kV doc pm an cdv ct) ⟨us,[]⟩=pure (ps.zip us)):Binds K fd ps []:=by
 obtain⟨oc,od,kV,doc,pm,an,cdv,ct,osl,rfl,lk,hcd⟩:=F.ex
 exact .all (h kV doc pm an cdv ct)
theorem Jv {x qual:Str} {st:Stmt} {f:Addr} {oc:Value} {od an:Option Addr} {osl:Array (Option Value)} {kV doc pm cdv ct:Value} (l:K.lookup f=some ⟨oc,od,.func (W.fnOf x qual (wX st) (yR st) (zu st) .none kV doc pm an cdv ct),osl⟩)
  (c:W.codeIn K cdv qual=true) (k:W.keepIn K (.ref f)=true):Fun K x qual st f (W.fnOf x qual (wX st) (yR st) (zu st) .none kV doc pm an cdv ct):=⟨⟨oc,od,kV,doc,pm,an,cdv,ct,osl,rfl,l,c⟩,k⟩
end
theorem zgo {A:Around} {k:Nat} (hr:Room k A):A.units+1<cLine:=Nat.lt_of_le_of_lt (Nat.add_le_add_left (by decide:1<=64) _) hr.units
section
variable {X:Cx}
theorem pv (i:Nat) {x:Str} {pos:Pos} (hN:X.N[i]?=some x:=by rfl) (hv:Vis X.env.scope x:=by first | exact Or.inl rfl | exact Or.inr (Or.inl rfl) | exact Or.inr (Or.inr rfl)) (hd:(x == ("__debug__" : Str))=false:=by decide)
  (hcd:(x == ("__classdict__" : Str))=false:=by decide):PE X (.Name x pos) (Vc i):=zfL hN hv hd hcd
end
theorem xJ {A B:Prop} (h:B):if false=true then A else B:=by
 rw [if_neg Bool.false_ne_true]
 exact h
theorem yV {A B:Prop} (h:A):if true=true then A else B:=by
 rw [if_pos rfl]
 exact h
theorem zb8 {c A B:Prop} [Decidable c] (h1:c->A) (h2:¬ c->B):if c then A else B:=by
 by_cases h:c
 ·rw [if_pos h]
  exact h1 h
 ·rw [if_neg h]
  exact h2 h
def Same (H H':Hp):Prop:=∀ b o,H b=some o->H' b=some o
theorem Same.refl (H:Hp):Same H H:=λ_ _ h=>h
theorem Same.trans {H H1 H2:Hp} (a:Same H H1) (b:Same H1 H2):Same H H2:=λc o h=>b c o (a c o h)
theorem Same.free {H H':Hp} (e:Same H H') {l:Addr} (h:H' l=Option.none):H l=Option.none:=by
 cases q:H l with
 | none=>rfl
 | some o =>
  rw [e l o q] at h
  cases h
theorem Same.seq {K:W.Frag} {H H':Hp} {a:Addr} {xs:List V} (e:Same H H') (h:SqL K H a xs):SqL K H' a xs:=by
 rcases h with (h | ⟨o,h⟩) | h
 ·exact .inl (.inl (e _ _ h))
 ·exact .inl (.inr ⟨o,e _ _ h⟩)
 ·exact .inr h
def xR (cells:List (Str×Addr)):List (Str×NameKind)->List (Str×Addr)->List (Str×Addr)
 | [],cs=>cs
 | (n,k) :: r,cs=>xR cells r (if k=.free then (match cells.lookup n with | some c=>(n,c) :: cs | none=>cs) else cs)
theorem ZS {env:Env}:∀ (names:List (Str×NameKind)) (cs:List (Str×Addr)),(∀ x∈names,x.2=.free->∃ c,env.cells.lookup x.1=some c) ->
  (forIn names cs λ(x:Str×NameKind) (r:List (Str×Addr))=>if (x.2 == .free)=true then (do let c <- cellOf env x.1;pure (ForInStep.yield ((x.1,c) :: r)):Sem _) else pure (ForInStep.yield r))=pure (xR env.cells names cs)
 | [],cs,_=>rfl
 | (n,k) :: r,cs,h=>by
  have ih:=λcs'=>ZS (env:=env) r cs' λx hx=>h x (List.mem_cons_of_mem _ hx)
  rw [List.forIn_cons]
  by_cases hk:k=.free
  ·subst hk
   obtain⟨c,hc⟩:=h (n,.free) List.mem_cons_self rfl
   have e:cellOf env n=pure c:=by unfold cellOf;rw [hc]
   simp only [beq_self_eq_true,if_true,e,pure_bind,xR,hc]
   exact ih _
  ·have hb:(k == NameKind.free)=false:=by simpa using hk
   simp only [hb,Bool.false_eq_true,if_false,pure_bind,xR,hk]
   exact ih _
theorem jt {scope:Scope} {env:Env} (h:∀ x∈scope.names,x.2=.free->∃ c,env.cells.lookup x.1=some c):closureFor scope env=pure (xR env.cells scope.names []):=by
  have e:=ZS scope.names [] h
  unfold closureFor
  first
    | (simp only [bind_pure];exact e)
    | (show (forIn scope.names [] _ >>= λr=>pure r)=_
       rw [show (forIn scope.names ([]:List (Str×Addr)) _:Sem _)=_ from e]
       rfl)
theorem vK {cells:List (Str×Addr)} {y:Str} {c:Addr}:∀ {names:List (Str×NameKind)} {cs:List (Str×Addr)},(∀ y c,cs.lookup y=some c->cells.lookup y=some c)->(xR cells names cs).lookup y=some c->cells.lookup y=some c
 | [],cs,h,e=>h y c e
 | (n,k) :: r,cs,h,e=>by
  refine vK (names:=r) ?_ e
  intro y' c' e'
  by_cases hk:k=.free
  ·rw [if_pos hk] at e'
   cases q:cells.lookup n with
   | none=>rw [q] at e';exact h _ _ e'
   | some d =>
    rw [q] at e'
    simp only [List.lookup_cons] at e'
    cases hb:y' == n with
    | true =>
     rw [hb] at e'
     cases e'
     have:y'=n:=by simpa using hb
     rw [this];exact q
    | false=>rw [hb] at e';exact h _ _ e'
  ·rw [if_neg hk] at e';exact h _ _ e'
theorem Y9 {cells:List (Str×Addr)} {y:Str}:∀ {names:List (Str×NameKind)} {cs:List (Str×Addr)},((∃ c,cs.lookup y=some c)\/((y,NameKind.free)∈names/\∃ c,cells.lookup y=some c))->∃ c,(xR cells names cs).lookup y=some c
 | [],cs,h=>by
  rcases h with h | ⟨h,_⟩
  ·exact h
  ·cases h
 | (n,k) :: r,cs,h=>by
  refine Y9 (names:=r) ?_
  rcases h with ⟨c,h⟩ | ⟨h,c,hc⟩
  ·left
   by_cases hk:k=.free
   ·rw [if_pos hk]
    cases q:cells.lookup n with
    | none=>exact⟨c,h⟩
    | some d =>
     simp only [List.lookup_cons]
     cases hb:y == n with
     | true=>exact⟨d,rfl⟩
     | false=>exact⟨c,h⟩
   ·rw [if_neg hk];exact⟨c,h⟩
  ·rcases List.mem_cons.mp h with e | h
   ·cases e
    left
    rw [if_pos rfl,hc]
    exact⟨c,by simp⟩
   ·exact .inr ⟨h,c,hc⟩
theorem yO {env:Env}:∀ {names:List (Str×NameKind)} {x:Str} {k:NameKind},
  (names.map λ(n,k)=>if (k == NameKind.free && env.scope.kind == .function && env.kindOf n == some .cell) then (n,NameKind.cell) else (n,k)).lookup x=some k->names.lookup x=some k\/(k=.cell/\names.lookup x=some .free)
 | [],_,_,h=>by simp at h
 | (n,k0) :: r,x,k,h=>by
  have ih:=@yO env r x k
  rw [List.map_cons] at h
  by_cases hc:(k0 == NameKind.free && env.scope.kind == .function && env.kindOf n == some .cell)=true
  ·simp only [hc,if_true,List.lookup_cons] at h
   have hk0:k0=.free:=by
    simp only [Bool.and_eq_true] at hc
    simpa using hc.1.1
   cases hx:x == n with
   | true=>rw [hx] at h;cases h;right;simp [List.lookup_cons,hx,hk0]
   | false=>rw [hx] at h;simp only [List.lookup_cons,hx];exact ih h
  ·have hc':(k0 == NameKind.free && env.scope.kind == .function && env.kindOf n == some .cell)=false:=by simpa using hc
   simp only [hc',Bool.false_eq_true,if_false,List.lookup_cons] at h
   cases hx:x == n with
   | true=>rw [hx] at h;cases h;left;simp [List.lookup_cons,hx]
   | false=>rw [hx] at h;simp only [List.lookup_cons,hx];exact ih h
def cxC (X:Cx) (N:List Str) (scope:Scope) (C:Addr) (s₀:Shared) (H₀:Hp) (ex:List Addr):Cx where
 prog:=X.prog
 w:=X.w
 K:=X.K
 mg:=X.mg
 base:=X.base
 A:=X.A
 N:=N
 s₀:=s₀
 H₀:=H₀
 env:=compEnvC scope (xR X.env.cells scope.names []) C X.env
 outer:=X.stack
 stack:=X.stack
 ex:=ex
 fn:=λ_=>false
 calm:=X.calm
 pn:=[]
 xe:=λ_ _=>False
def xG (js:List Nat) (Z:St):St:=js.map λj=>(Z[j]?).join
theorem zah {js:List Nat} {Z:St} {i:Nat} {v:V} (h:(xG js Z)[i]?=some (some v)):∃ j,js[i]?=some j/\Z[j]?=some (some v):=by
 unfold xG at h
 rw [List.getElem?_map] at h
 cases e:js[i]? with
 | none=>rw [e] at h;cases h
 | some j =>
  rw [e] at h
  have h':(Z[j]?).join=some v:=Option.some.inj h
  refine⟨j,rfl,?_⟩
  cases q:Z[j]? with
  | none=>rw [q] at h';cases h'
  | some z=>rw [q] at h';exact congrArg some h'
structure CScope (sc:Scope) (scope:Scope) (x:Str) (M:List Str) (ys:List Str) (js:List Nat):Prop where
 kind:scope.kind=.function:=by rfl
 cell:∀ y∈scope.names,y.2≠.cell:=by decide +kernel
 loc:∀ y∈scope.names,y.2=.local->scope.names.lookup y.1=some .local:=by decide +kernel
 var:scope.names.lookup x=some .local:=by rfl
 free:∀ y∈scope.names,y.2=.free->sc.names.lookup y.1=some .cell\/sc.names.lookup y.1=some .free:=by decide +kernel
 caps:js.map (M[·]?)=ys.map some:=by rfl
 fr:∀ y∈ys,scope.names.lookup y=some .free:=by decide +kernel
 nd:(x :: ys).Nodup:=by decide +kernel
section
variable {X:Cx} {pins:List (Addr×Obj)} {Z:St} {H:Hp} {s:Shared}
theorem zdx {scope:Scope} {x:Str} {ys:List Str} {js:List Nat} {fp:List Addr} {h₁:Heap} {tk:Nat} {C:Addr} (I:Inv X pins Z H s) (S:CScope X.env.scope scope x X.N ys js) (hf:∀ b∈fp,Wb X pins H b) (ho:∀ b∈fp,∃ o,s.heap.get? b=some o)
  (hC:s.heap.objs.size<=C) (hk:∀ b o,s.heap.get? b=some o->h₁.get? b=some o) (hn:h₁.Ns C λ_=>none) :
  Inv (cxC X (x :: ys) scope C s H fp) [] (none :: xG js Z) H { s with heap:=h₁,toks:=tk }:=by
 have sub:∀ y c,(xR X.env.cells scope.names []).lookup y=some c->X.env.cells.lookup y=some c:=λy c e=>vK (λ_ _ z=>by simp at z) e
 have has:∀ y,scope.names.lookup y=some .free->∃ c,(xR X.env.cells scope.names []).lookup y=some c:=λy e=>by
  have m:(y,NameKind.free)∈scope.names:=PySem.mem_of_lookup e
  exact Y9 (.inr ⟨m,I.ok.has y (S.free _ m rfl)⟩)
 have lt:∀ b∈fp,b<s.heap.objs.size:=λb hb=>by obtain⟨o,e⟩:=ho b hb;exact Heap.lt_size e
 have ok:(cxC X (x :: ys) scope C s H fp).Ok:=by
  refine⟨I.ok.mod,S.kind,I.ok.glob,I.ok.blt,hC,λy z c e1 e2=>I.ok.inj y z c (sub _ _ e1) (sub _ _ e2),λy hy=>?_,λy c z=>?_,I.ok.hd,I.ok.frames,.inl rfl,λb hb=>?_,I.bs,Nat.le_trans I.ok.bsz I.sz,λb o e hb=>?_,λb hb z=>?_,I.stack,I.stkFree⟩
  ·have hy':(relabel scope X.env).names.lookup y=some .cell\/(relabel scope X.env).names.lookup y=some .free:=hy
   have nocell:scope.names.lookup y≠some .cell:=λz=>S.cell _ (PySem.mem_of_lookup z) rfl
   rcases hy' with e | e
   ·rcases yO e with z | ⟨_,z⟩
    ·exact absurd z nocell
    ·exact has y z
   ·rcases yO e with z | ⟨z,_⟩
    ·exact has y z
    ·cases z
  ·exact absurd (show false=true from z) Bool.false_ne_true
  ·refine⟨Nat.ne_of_lt (Nat.lt_of_lt_of_le (lt b hb) hC),λy c e=>(hf b hb).2.2.2.2.1 y c (sub y c e)⟩
  ·rcases (hf b hb).2.2.2.1 with z | z
   ·exact I.ok.noex b o e z
   ·exact absurd (Nat.lt_of_lt_of_le (Heap.lt_size e) (Nat.le_trans I.ok.bsz z)) (Nat.lt_irrefl _)
  ·rcases List.mem_cons.mp (I.stkSub b z) with e | e
   ·exact (hf b hb).2.1 e
   ·exact (hf b hb).2.2.1 e
 refine⟨ok,rfl,I.bare,Un.kept hk,⟨_,hn,λi y v e1 e2 e3=>?_⟩,λy c e=>?_,I.hok.fresh hC,λy c e=>I.freeC y c (sub y c e),λp hp=>absurd (show p∈([]:List (Addr×Obj)) from hp) (by simp),I.hok.kept hk,?_⟩
 ·cases i with
  | zero=>simp at e2
  | succ i =>
   have e1':ys[i]?=some y:=by simpa [cxC] using e1
   have e2':(xG js Z)[i]?=some (some v):=by simpa using e2
   obtain⟨j,hj,hσ⟩:=zah e2'
   have hN:X.N[j]?=some y:=by
    have z:=congrArg (λl=>l[i]?) S.caps
    simp only [List.getElem?_map,hj,e1',Option.map_some] at z
    exact Option.some.inj z
   have hfr:=S.fr y (List.mem_of_getElem? e1')
   have m:(y,NameKind.free)∈scope.names:=PySem.mem_of_lookup hfr
   have hkind:=S.free _ m rfl
   obtain⟨m',hns,hl⟩:=I.loc
   obtain⟨u,r,lk⟩:=hl j y v hN hσ (by rcases hkind with z | z;exact .inr (.inl z);exact .inr (.inr z))
   refine⟨u,r,.inr ⟨?_,?_⟩⟩
   ·have e3':(relabel scope X.env).names.lookup y=some .local\/(relabel scope X.env).names.lookup y=some .cell\/(relabel scope X.env).names.lookup y=some .free:=e3
    rcases e3' with z | z | z
    ·rcases yO z with q | ⟨q,_⟩
     ·rw [hfr] at q;cases q
     ·cases q
    ·exact .inl z
    ·exact .inr z
   ·obtain⟨c,hc⟩:=has y hfr
    refine⟨c,hc,?_⟩
    rcases lk with ⟨z,_⟩ | ⟨_,c',hc',cell⟩
    ·rcases hkind with q | q
     ·have q':X.env.kindOf y=some .cell:=q
      rw [show X.env.kindOf y=some .local from z] at q';cases q'
     ·have q':X.env.kindOf y=some .free:=q
      rw [show X.env.kindOf y=some .local from z] at q';cases q'
    ·rw [sub y c hc] at hc'
     cases hc'
     obtain⟨o,e,d⟩:=cell
     exact⟨o,hk _ _ e,d⟩
 ·obtain⟨v,o,e',d⟩:=I.cell y c (sub y c e)
  exact⟨v,o,hk _ _ e',d⟩
 ·have z:=congrArg List.length S.caps
  simp only [List.length_map] at z
  show (none :: xG js Z).length=(x :: ys).length
  simp [xG,z]
end
theorem zb6 {α β:Type} {M:Model} {A:Around} {a:α} {Q:α->Shared->Prop} {E E':Value->Shared->Prop} {s:Shared} {t:Sem β} {Q':β->Shared->Prop} (h:wpAny M A (pure a) Q E s) (k:Q a s->wpAny M A t Q' E' s):wpAny M A t Q' E' s :=
 fun Γ p hΓ=>k (h Γ p hΓ) Γ p hΓ
def PTs (X:Cx) (ifs:List Expr) (t:TT):Prop :=
 ∀ (pins:List (Addr×Obj)) (s:Shared) (Z:St) (H:Hp) (Q:Bool->Hp->Prop),Inv X pins Z H s->t Z H Q ->
  wpAny (model X.prog X.w) X.A (forIn ifs true λc r=>if r=true then do let ok <- isTrue c X.env (eval c X.env);pure (ForInStep.yield ok) else pure (ForInStep.yield r)) (TP X pins Z Q) X.xe s
def Y5:TT:=λ_ H Q=>Q true H
theorem xW {X:Cx}:PTs X [] Y5:=λpins s Z H Q I h=>wpAny_tests_nil ⟨H,I,h⟩
theorem X3 {X:Cx} {c:Expr} {t:TT} (h:PT X c t):PTs X [c] t:=λpins s Z H Q I hw=>wpAny_tests_one (h pins s Z H Q I hw)
def U5 (J:It) (js:List Nat) (tt:TT) (te:TE) (Z:St) (Q:VK) (H:Hp):Prop:=∃ W:Nat->Nat->List V->Hp->Prop,(∃ m,W 0 m [] H)/\∀ i m ys H,W i m ys H ->
 (J.stop i H/\∀ D,H D=none->Q (.ref D) (upd H D (.lst ys))) \/
 (J.go i H/\ys.length<sizeLine/\∃ N:List V->Hp->Prop,(∀ ys' H',N ys' H'->∃ m',m'<m/\W (i+1) m' ys' H')/\∀ x H',J.yld i H x H'->tt (some x :: xG js Z) H' λb H2=>if b=true then te (some x :: xG js Z) H2 λv H3=>N (ys++[v]) H3 else N ys H2)
def zdm (wi:TI) (js:List Nat) (tt:TT) (te:TE):TE:=λZ H Q=>wi Z H λJ H1=>U5 J js tt te Z Q H1
theorem HOk.track {P:Program} {w:World} {H:Hp} {h:Heap} {a:Addr} {o:HO} (x:HOk P w H h) (hn:H a=none) (new:ObjOk P w (upd H a o) h a o):HOk P w (upd H a o) h:=λb u e=>by
 by_cases hb:b=a
 ·subst hb;rw [zj] at e;cases e;exact new
 ·rw [zx hb] at e
  exact (x b u e).stay (λ_ _ _ q=>q) (λc q=>by rw [zx (zz q hn)];exact q) λc xs q=>by rw [zx (zz q hn)];exact q
section
variable {X:Cx} {elt iter:Expr} {ifs:List Expr} {x:Str} {px pos:Pos} {scope:Scope} {ys:List Str} {js:List Nat} {wi:TI} {tt:TT} {te:TE}
theorem Uj {pins:List (Addr×Obj)} {Z:St} {H:Hp} {s:Shared} {J:It} {fp:List Addr} {it:Addr} {tn:Nat->Heap->Prop} {Q:VK} {E:Value->Shared->Prop} {R:Value->Addr->Result->Shared->Prop}
  (S:CScope X.env.scope scope x X.N ys js) (hc:X.calm=true) (ht:∀ C s₀ H₀ ex,PTs (cxC X (x :: ys) scope C s₀ H₀ ex) ifs tt) (he:∀ C s₀ H₀ ex,PE (cxC X (x :: ys) scope C s₀ H₀ ex) elt te)
  (I:Inv X pins Z H s) (T:Turn X.prog X.w X.K (.Name x px) J fp it tn) (st:tn 0 s.heap) (hf:∀ b∈fp,Wb X pins H b)
  (hw:∃ W:Nat->Nat->List V->Hp->Prop,(∃ m,W 0 m [] H)/\∀ i m zs H,W i m zs H ->
   (J.stop i H/\∀ D,H D=none->Q (.ref D) (upd H D (.lst zs))) \/
   (J.go i H/\zs.length<sizeLine/\∃ N:List V->Hp->Prop,(∀ ys' H',N ys' H'->∃ m',m'<m/\W (i+1) m' ys' H')/\∀ x H',J.yld i H x H'->tt (some x :: xG js Z) H' λb H2=>if b=true then te (some x :: xG js Z) H2 λv H3=>N (zs++[v]) H3 else N zs H2))
  (hR:∀ D C s' H' m',Inv X pins Z H' s'->Q (.ref D) H'->s.heap.objs.size<=C->H' C=none->s'.heap.Ns C m'->R (.ref D) C (.ok .next) s') :
  wpAny (model X.prog X.w) X.A (newList []) (λacc s₃=>wpAny (model X.prog X.w) X.A (newFunctionEnv scope X.env.globals (xR X.env.cells scope.names []) [] X.env.qual none .none (some X.env)) (λcenv s₄ =>
   codeAny (model X.prog X.w) X.A (.compStart (.ListComp elt [⟨.Name x px,iter,ifs,0⟩] scope pos) 0 (.ref it) acc { cenv with scope:=relabel scope X.env }) (R acc cenv.locals) s₄) E s₃) E s:=by
 obtain⟨W,⟨m0,w0⟩,turn⟩:=hw
 refine wpAny_newObj_type (wpAny_newFunctionEnv S.cell (by intro y hy;simp at hy) (λh₁ hns₁ hsb₁=>?_) S.kind)
 dsimp only at hns₁ hsb₁ ⊢
 generalize hH2:s.heap.push { cls:=.type "list",dict:=none,data:=.seq ([]:List Value).toArray }=G at hns₁ hsb₁ ⊢
 generalize hD:s.heap.objs.size=D at *
 generalize hCe:G.objs.size=C at *
 have hC:C=D+1:=by rw [<- hCe,<- hH2,Heap.size_push,hD]
 have hDlt:D<C:=by rw [hC];exact Nat.lt_succ_self D
 have hDC:D≠C:=Nat.ne_of_lt hDlt
 have old:∀ b o,s.heap.get? b=some o->h₁.get? b=some o:=λb o e=>by
  have hb:b<D:=hD▸Heap.lt_size e
  exact (hsb₁.2 b (Nat.ne_of_lt (Nat.lt_trans hb hDlt))).trans (Heap.get?_push_of_some _ (hH2▸Heap.get?_push_of_some _ e))
 have hacc:h₁.get? D=some { cls:=.type "list",data:=.seq ([]:List Value).toArray 0 }:=by
  refine (hsb₁.2 D hDC).trans (Heap.get?_push_of_some _ ?_)
  rw [<- hH2,<- hD]
  exact Heap.get?_push_size _ rfl
 have obj0:=T.obj 0 _ st
 have fplt:∀ b∈fp,b<D:=λb hb=>by obtain⟨o,e,_⟩:=obj0 b hb;exact hD▸Heap.lt_size e
 generalize hX:cxC X (x :: ys) scope C s H fp=X'
 have I1:Inv X' [] (none :: xG js Z) H { s with heap:=h₁,toks:=s.toks+([]:List (Str×Value)).length }:=by
  subst hX
  exact zdx I S hf (λb hb=>by obtain⟨o,e,_⟩:=obj0 b hb;exact⟨o,e⟩) (by omega) old (by simpa using hns₁)
 have eP:X'.prog=X.prog:=by subst hX;rfl
 have eW:X'.w=X.w:=by subst hX;rfl
 have eK:X'.K=X.K:=by subst hX;rfl
 have eA:X'.A=X.A:=by subst hX;rfl
 have eC:X'.calm=true:=by subst hX;exact hc
 have eL:X'.env.locals=C:=by subst hX;rfl
 have eS:X'.s₀=s:=by subst hX;rfl
 have eN:X'.N=x :: ys:=by subst hX;rfl
 have eE:X'.env=compEnvC scope (xR X.env.cells scope.names []) C X.env:=by subst hX;rfl
 have eXe:X'.xe=λ_ _=>False:=by subst hX;rfl
 have eX:X'.ex=fp:=by subst hX;rfl
 have ePn:X'.pn=[]:=by subst hX;rfl
 have efs:∀ b,b∈X'.fs->b∈frs X.stack:=λb z=>by subst hX;exact z
 have cellLt:∀ y c,X'.env.cells.lookup y=some c->c<D:=λy c e=>by
  have e':(xR X.env.cells scope.names []).lookup y=some c:=by rw [eE] at e;exact e
  obtain⟨v,o,e2,_⟩:=I.cell y c (vK (λ_ _ z=>by simp at z) e')
  exact hD▸Heap.lt_size e2
 have frLt:∀ b,b∈X'.fs->b<D:=λb z=>by
  rcases List.mem_cons.mp (I.stkSub b (efs b z)) with e | e
  ·rw [e];exact hD▸I.lt
  ·exact Nat.lt_of_not_le λh=>I.nofs (hD▸h) e
 have fpOk:∀ (p:List (Addr×Obj)) (H':Hp),(∀ b∈fp,H' b=none)->(∀ q∈p,q.1=D)->∀ b∈fp,Wb X' p H' b:=λp H' hn hp b hb=>by
  refine⟨hn b hb,?_,λz=>?_,.inl (eX▸hb),λy c e=>?_,λq hq=>?_⟩
  ·rw [eL];exact Nat.ne_of_lt (Nat.lt_trans (fplt b hb) hDlt)
  ·rcases List.mem_cons.mp (I.stkSub b (efs b z)) with e | e
   ·exact (hf b hb).2.1 e
   ·exact (hf b hb).2.2.1 e
  ·have e':(xR X.env.cells scope.names []).lookup y=some c:=by rw [eE] at e;exact e
   exact (hf b hb).2.2.2.2.1 y c (vK (λ_ _ z=>by simp at z) e')
  ·rw [ePn,List.nil_append] at hq
   rw [hp q hq];exact Nat.ne_of_gt (fplt b hb)
 have noCell:∀ (its:List Value) (k:Nat) v,({ cls:=.type "list",data:=.seq its.toArray k }:Obj).data≠.cell v:=λits k v z=>by cases z
 have done:∀ {zs:List V} {its:List Value} {k:Nat} {H':Hp} {s':Shared},Inv X' [] (none :: xG js Z) H' s'->s'.heap.get? D=some { cls:=.type "list",data:=.seq its.toArray k }->Vals zs its->H' D=none->zs.length<=sizeLine ->
   (∀ D,H' D=none->Q (.ref D) (upd H' D (.lst zs)))->R (.ref D) C (.ok .next) s':=λ{zs its k H' s'} I' hd hv hn hz q=>by
  have un:=I'.base
  obtain⟨m',hns,_⟩:=I'.loc
  rw [eL] at hns
  have hCn:H' C=none:=by have:=I'.free;rw [eL] at this;exact this
  have hH0:X'.H₀=H:=by subst hX;rfl
  rw [hH0,eS,eX] at un
  have un2:Un (frs X.stack) fp H (upd H' D (.lst zs)) s.heap s'.heap:=by
   have ne:∀ b o,s.heap.get? b=some o->b≠D:=λb o e=>Nat.ne_of_lt (hD▸Heap.lt_size e)
   have un':Un (frs X.stack) fp H H' s.heap s'.heap:=by subst hX;exact un
   exact⟨un'.keep,un'.slot,λb o e n hx=>by rw [zx (ne b o e)];exact un'.free b o e n hx,un'.there,λb xs e=>by rw [zx (zz (un'.tups b xs e) hn)];exact un'.tups b xs e,
    λb o u e=>by rw [zx (zz (un'.frzs b o u e) hn)];exact un'.frzs b o u e,λb ps e=>by
     obtain⟨more,z⟩:=un'.tbls b ps e
     exact⟨more,by rw [zx (zz z hn)];exact z⟩⟩
  have hok:HOk X.prog X.w (upd H' D (.lst zs)) s'.heap:=by
   have h0:=I'.hok
   rw [eP,eW] at h0
   exact h0.track hn ⟨hz,its,k,hv,hd⟩
  have I2:Inv X pins Z (upd H' D (.lst zs)) s':=I.call' (by have:=I'.os;rw [eS] at this;exact this) un2 hok I'.bare λb hb=>⟨(hf b hb).2.2.2.1,(hf b hb).2.1,(hf b hb).2.2.2.2.1,(hf b hb).2.2.2.2.2⟩
  exact hR D C s' _ m' I2 (q D hn) (by omega) (by rw [zx (Ne.symm hDC)];exact hCn) hns
 have loop:codeAny (model X.prog X.w) X.A (.compLoop (.ListComp elt [⟨.Name x px,iter,ifs,0⟩] scope pos) 0 (.ref it) (.ref D) X'.env) (R (.ref D) C) { s with heap:=h₁,toks:=s.toks+([]:List (Str×Value)).length }:=by
  refine codeAny_compLoop_tests (λn s'=>∃ i zs its k H',Inv X' [] (none :: xG js Z) H' s'/\tn i s'.heap/\(∀ b∈fp,H' b=none)/\s'.heap.get? D=some { cls:=.type "list",data:=.seq its.toArray k }/\Vals zs its/\H' D=none/\zs.length<=sizeLine/\W i n zs H')
   ?_ m0 ⟨0,[],[],0,H,I1,T.keep _ _ _ st (λb hb o e=>old b o e),λb hb=>(hf b hb).1,hacc,.nil,I.hok.fresh (by omega),Nat.zero_le _,w0⟩ (λ_=>rfl)
  rintro n s3 ⟨i,zs,its,k,H3,I3,st3,fr3,d3,v3,n3,z3,w3⟩
  have pinD:Inv X' [(D,{ cls:=.type "list",data:=.seq its.toArray k })] (none :: xG js Z) H3 s3:=I3.pins_of λp hp=>by
   have e:p=(D,{ cls:=.type "list",data:=.seq its.toArray k }):=by simpa using hp
   subst e
   exact⟨d3,n3,by rw [eL];exact hDC,λz=>Nat.lt_irrefl _ (frLt D z),noCell its k⟩
  have hpD:∀ q∈[(D,({ cls:=.type "list",data:=.seq its.toArray k }:Obj))],q.1=D:=λq hq=>by
   have e:q=(D,{ cls:=.type "list",data:=.seq its.toArray k }):=by simpa using hq
   rw [e]
  rcases turn i n zs H3 w3 with ⟨stop,qn⟩ | ⟨go,hzl,NN,hNN,step⟩
  ·refine thn (eA▸T.done X' eP eW eK eC i _ s3 _ H3 _ pinD (fpOk _ _ fr3 hpD) st3 stop) λr s4 ⟨hr,I4⟩=>?_
   subst hr
   exact done (I4.pins_of λp hp=>absurd hp (by simp)) (I4.pin (D,{ cls:=.type "list",data:=.seq its.toArray k }) (List.mem_append_right _ (by simp))).1 v3 n3 z3 qn
  ·refine thn (eA▸T.item X' eP eW eK eC i _ s3 _ H3 _ pinD (fpOk _ _ fr3 hpD) st3 go) λr s4 ⟨u,hr,h4⟩=>?_
   subst hr
   refine zb6 (a:=()) h4 λ⟨v,H5,I5,r5,y5,st5,fr5⟩=>?_
   have I5':=I5.pinned (fpOk _ _ fr5 hpD) (T.obj _ _ st5)
   have ev:∀ {α:Type} {t:Sem α} {Q':α->Shared->Prop} {E':Value->Shared->Prop} {s':Shared},wpAny (model X'.prog X'.w) X'.A t Q' X'.xe s'->wpAny (model X.prog X.w) X.A t Q' E' s':=λ{α t Q' E' s'} hh=>by
    rw [eP,eW,eA,eXe] at hh
    exact wpAny_mono hh (λ_ _ q=>q) λ_ _ z=>z.elim
   refine ev (thn (yG (X:=X') (i:=0) (by rw [eN];exact S.nd) (by rw [eN];rfl) (.inl (by rw [eE];exact lookup_relabel_local S.var)) (.inr (by rw [eE];exact lookup_relabel_local S.var)) _ s4 _ H5 v u (fun σ' H'=>σ'=some v :: xG js Z/\H'=H5) I5' r5 ⟨rfl,rfl⟩) λ_ s6 ⟨σ6,H6,I6,e6,e6'⟩=>?_)
   subst e6 e6'
   have back:∀ {σ':St} {H7:Hp} {s7:Shared},Inv X' ([(D,{ cls:=.type "list",data:=.seq its.toArray k })]++ZV fp s4.heap) (some v :: xG js Z) H7 s7->Inv X' [] (none :: xG js Z) H7 s7:=λ{_ H7 s7} I7=>by
    refine (I7.pins_of λp hp=>absurd hp (by simp)).weak rfl λi v' e=>?_
    cases i with
    | zero=>simp at e
    | succ i=>simpa using e
   have fps:∀ {σ':St} {H7:Hp} {s7:Shared},Inv X' ([(D,{ cls:=.type "list",data:=.seq its.toArray k })]++ZV fp s4.heap) σ' H7 s7->(∀ b∈fp,H7 b=none)/\(∀ b∈fp,∀ o,s4.heap.get? b=some o->s7.heap.get? b=some o)/\s7.heap.get? D=some { cls:=.type "list",data:=.seq its.toArray k }/\H7 D=none:=λ{σ' H7 s7} I7=>by
    have g:∀ b∈fp,∀ o,s4.heap.get? b=some o->s7.heap.get? b=some o/\H7 b=none:=λb hb o e=>by
     have z:=I7.pin (b,o) (List.mem_append_right _ (List.mem_append_right _ (Zq hb e)))
     exact⟨z.1,z.2.1⟩
    refine⟨λb hb=>?_,λb hb o e=>(g b hb o e).1,(I7.pin (D,{ cls:=.type "list",data:=.seq its.toArray k }) (List.mem_append_right _ (by simp))).1,(I7.pin (D,{ cls:=.type "list",data:=.seq its.toArray k }) (List.mem_append_right _ (by simp))).2.1⟩
    obtain⟨o,e,_⟩:=T.obj _ _ st5 b hb
    exact (g b hb o e).2
   have hte:PTs X' ifs tt:=hX▸ht C s H fp
   have hee:PE X' elt te:=hX▸he C s H fp
   refine ev (thn (hte _ s6 _ H6 _ I6 (step v H6 y5)) λb s7 ⟨H7,I7,q7⟩=>?_)
   cases b with
   | false =>
    rw [if_neg Bool.false_ne_true]
    rw [if_neg Bool.false_ne_true] at q7
    obtain⟨m',hm,w7⟩:=hNN _ _ q7
    obtain⟨g1,g2,g3,g4⟩:=fps I7
    exact⟨m',hm,i+1,zs,its,k,H7,back (σ':=[]) I7,T.keep _ _ _ st5 g2,g1,g3,v3,g4,z3,w7⟩
   | true =>
    rw [if_pos rfl]
    rw [if_pos rfl] at q7
    refine ev (thn (hee _ s7 _ H7 _ I7 q7) λu8 s8 ⟨v8,H8,I8,r8,q8⟩=>?_)
    obtain⟨m',hm,w8⟩:=hNN _ _ q8
    obtain⟨g1,g2,g3,g4⟩:=fps I8
    have hil:=v3.length
    refine call_meets F.slot_list_append ⟨_,g3,rfl⟩ F.entry_list_append (F.args_list_append_2 _ _) (PySem.list_append D its.toArray k u8 (by rw [List.size_toArray];omega)) ⟨g3,?_⟩
    have q:=PySem.IsL.update g3 (λa=>a.push u8)
    have ea:its.toArray.push u8=(its++[u8]).toArray:=by simp
    rw [ea] at q
    have kk:∀ b o,b≠D->s8.heap.get? b=some o->(s8.heap.update D (Obj.mapSeq λa=>a.push u8)).get? b=some o:=λb o hb e=>(Heap.get?_update_other _ _ (Ne.symm hb)).trans e
    have I9:Inv X' [] (none :: xG js Z) H8 { s8 with heap:=s8.heap.update D (Obj.mapSeq λa=>a.push u8),toks:=s8.toks }:=by
     refine (back (σ':=[]) I8).turned kk g4 (by rw [eL];exact hDC) (.inr (by rw [eS];omega)) (λy c e=>Nat.ne_of_lt (cellLt y c e)) λp hp=>?_
     rw [ePn] at hp
     exact absurd hp (by simp)
    refine⟨m',hm,i+1,zs++[v8],its++[u8],_,H8,I9,T.keep _ _ _ st5 (λb hb o e=>kk b o (Nat.ne_of_lt (fplt b hb)) (g2 b hb o e)),g1,q,v3.append (.cons r8 .nil),g4,?_,w8⟩
    rw [List.length_append,List.length_singleton]
    omega
 rw [eE] at loop
 exact codeAny_compStart_list loop (T.self _ 0 _ _ _ (T.keep _ _ _ st (λb hb o e=>old b o e)) loop)
theorem yU (S:CScope X.env.scope scope x X.N ys js) (hc:X.calm=true) (hi:PI X (.Name x px) iter wi) (ht:∀ C s₀ H₀ ex,PTs (cxC X (x :: ys) scope C s₀ H₀ ex) ifs tt) (he:∀ C s₀ H₀ ex,PE (cxC X (x :: ys) scope C s₀ H₀ ex) elt te)
  (hs:∀ x,foldedSetIterable iter X.env x=pure x:=by intro _;rfl):PE X (.ListComp elt [⟨.Name x px,iter,ifs,0⟩] scope pos) (zdm wi js tt te):=by
 intro pins s Z H Q I h
 rw [eval_ListComp]
 refine wpAny_comprehension_free (use:=none) rfl hs (jt λy hy e=>I.ok.has _ (S.free y hy e)) S.kind S.loc (thn (hi pins s Z H _ I h) λv s1 h1=>thn h1 λitv s2 h2=>?_)
 obtain⟨it,fp,tn,J,H2,e,I2,T,st2,f2,hw⟩:=h2
 subst e
 refine Uj (Q:=Q) (R:=λacc C=>compPost (model X.prog X.w) X.A X.xe none (EP X pins Z Q) acc C) S hc ht he I2 T st2 f2 hw ?_
 intro D C s' H' m' I' q hC hn hns
 refine⟨m',hns,λh' hs'=>⟨.ref D,H',?_,rfl,q⟩⟩
 have e:=I2.fpOk hC hn
 exact I'.turned (t':=s'.toks) (λb o hb e=>(hs'.2 b hb).trans e) hn e.2.1 e.2.2.2.1 e.2.2.2.2.1 e.2.2.2.2.2
theorem zbl {i:Nat} {y:Str} {py spos:Pos} (S:CScope X.env.scope scope x X.N ys js) (hc:X.calm=true) (hN:X.N.Nodup) (hy:X.N[i]?=some y) (hl:Loc X.env.scope y) (hi:PI X (.Name x px) iter wi) (ht:∀ C s₀ H₀ ex,PTs (cxC X (x :: ys) scope C s₀ H₀ ex) ifs tt) (he:∀ C s₀ H₀ ex,PE (cxC X (x :: ys) scope C s₀ H₀ ex) elt te)
  (hf:X.fn y=true\/X.env.scope.names.lookup y=some .local:=by first | exact .inl rfl | exact .inr rfl | assumption)
  (hsw:swapsWith (.ListComp elt [⟨.Name x px,iter,ifs,0⟩] scope pos) (some (.Name y py)) spos.line X.env=pure true:=by rfl)
  (hs:∀ x,foldedSetIterable iter X.env x=pure x:=by intro _;rfl):PS X (.Assign [.Name y py] (.ListComp elt [⟨.Name x px,iter,ifs,0⟩] scope pos) spos) (U6 (zdm wi js tt te) (jJ i)):=by
 intro pins s Z H D I h
 rw [exec_Assign_Name_used _ _ _ _ hsw]
 refine wpAny_bind (wpAny_standAt (wpAny_bind ?_))
 show wpAny _ X.A (do let _ <- comprehension (.ListComp elt [⟨.Name x px,iter,ifs,0⟩] scope pos) scope X.env _ (newList []) false (eval iter X.env) (some (assign (.Name y py) X.env))) _ _ s
 refine wpAny_bind (wpAny_mono (wpAny_comprehension_free (use:=some (assign (.Name y py) X.env)) (Q:=λ_ s'=>SP X pins D .next s') rfl hs (jt λy hy e=>I.ok.has _ (S.free y hy e)) S.kind S.loc
  (thn (hi pins s Z H _ I h) λv s1 h1=>thn h1 λitv s2 h2=>?_)) (λ_ s' hq=>wpAny_pure (wpAny_pure hq)) λ_ _ e=>e)
 obtain⟨it,fp,tn,J,H2,e,I2,T,st2,f2,hw⟩:=h2
 subst e
 refine Uj (Q:=λv H'=>jJ i v Z H' D.nx) (R:=λacc C=>compPost (model X.prog X.w) X.A X.xe (some (assign (.Name y py) X.env)) (λ_ s'=>SP X pins D .next s') acc C) S hc ht he I2 T st2 f2 hw ?_
 intro Da C s' H' m' I' q hC hn hns
 have e:=I2.fpOk hC hn
 show wpAny _ X.A (assign (.Name y py) X.env (.ref Da)) _ _ _
 refine wpAny_assign_Name (WN I' hN hy hl (show RelV (.ref Da) (.ref Da) from rfl) (λs2' I3 ⟨a,sb,ha⟩=>?_) hf)
 have hCa:C≠a:=by
  rcases ha with z | z
  ·rw [z];exact e.2.1
  ·intro w;exact e.2.2.2.2.1 _ _ z w.symm
 refine⟨m',hns.sameBut sb hCa,λh' hs'=>⟨_,H',?_,q⟩⟩
 exact I3.turned (t':=s2'.toks) (λb o hb e=>(hs'.2 b hb).trans e) hn e.2.1 e.2.2.2.1 e.2.2.2.2.1 e.2.2.2.2.2
end
theorem yN {K:W.Frag} {a:Addr} {xs:List V} {js:List Nat} {tt:TT} {te:TE} {Z:St} {H:Hp} {Q:VK} (Pv:Nat->List V->Hp->Prop) (h0:Pv 0 [] H) (hl:∀ i ys H,i<=xs.length->Pv i ys H->SqL K H a xs)
  (hs:∀ i x ys H,xs[i]?=some x->Pv i ys H->ys.length<sizeLine/\tt (some x :: xG js Z) H λb H2=>if b=true then te (some x :: xG js Z) H2 λv H3=>Pv (i+1) (ys++[v]) H3 else Pv (i+1) ys H2)
  (hd:∀ ys H,Pv xs.length ys H->∀ D,H D=none->Q (.ref D) (upd H D (.lst ys))) :
  U5 (Itl K a) js tt te Z Q H:=by
 refine⟨λi m ys H=>m=xs.length-i/\i<=xs.length/\Pv i ys H,⟨xs.length,by simp,Nat.zero_le _,h0⟩,?_⟩
 rintro i m ys H ⟨rfl,hi,p⟩
 have q:=hl i ys H hi p
 by_cases hlt:i<xs.length
 ·have hx:xs[i]?=some xs[i]:=List.getElem?_eq_getElem hlt
  obtain⟨hz,hst⟩:=hs i xs[i] ys H hx p
  refine .inr ⟨⟨xs,xs[i],q,hx⟩,hz,Pv (i+1),λys' H' p'=>⟨xs.length-(i+1),by omega,rfl,hlt,p'⟩,λx H' y=>?_⟩
  obtain⟨e,y⟩:=y
  subst e
  have e2:=y xs q
  rw [hx] at e2
  cases e2
  exact hst
 ·have e:i=xs.length:=by omega
  subst e
  exact .inl ⟨⟨xs,q,Nat.le_refl _⟩,hd ys H p⟩
theorem qw {lo:Int} {n:Nat} {js:List Nat} {tt:TT} {te:TE} {Z:St} {H:Hp} {Q:VK} (Pv:Nat->List V->Hp->Prop) (h0:Pv 0 [] H)
  (hs:∀ i ys H,i<n->Pv i ys H->ys.length<sizeLine/\tt (some (.int (lo+i)) :: xG js Z) H λb H2=>if b=true then te (some (.int (lo+i)) :: xG js Z) H2 λv H3=>Pv (i+1) (ys++[v]) H3 else Pv (i+1) ys H2)
  (hd:∀ ys H,Pv n ys H->∀ D,H D=none->Q (.ref D) (upd H D (.lst ys))) :
  U5 (Itr lo n) js tt te Z Q H:=by
 refine⟨λi m ys H=>m=n-i/\i<=n/\Pv i ys H,⟨n,by simp,Nat.zero_le _,h0⟩,?_⟩
 rintro i m ys H ⟨rfl,hi,p⟩
 by_cases hlt:i<n
 ·obtain⟨hz,hst⟩:=hs i ys H hlt p
  refine .inr ⟨hlt,hz,Pv (i+1),λys' H' p'=>⟨n-(i+1),by omega,rfl,hlt,p'⟩,λx H' y=>?_⟩
  obtain⟨e,y⟩:=y
  subst e y
  exact hst
 ·have e:i=n:=by omega
  subst e
  exact .inl ⟨Nat.le_refl _,hd ys H p⟩
open PySem PySem.Spec PyProof.Rows PySem.SeqAt
inductive Tr where
 | non | bl (b:Bool) | int (i:Int) | str (x:Str) | lst (ts:List Tr) | tup (ts:List Tr)
mutual
def TrAt (K:W.Frag) (H:Hp):Tr->V->Prop
 | .non,v=>v=.non
 | .bl b,v=>v=.bl b
 | .int i,v=>v=.int i
 | .str x,v=>v=.str x
 | .lst ts,v=>∃ a xs,v=.ref a/\SqL K H a xs/\TrsAt K H ts xs
 | .tup ts,v=>∃ a xs,v=.ref a/\SqT K H a xs/\TrsAt K H ts xs
def TrsAt (K:W.Frag) (H:Hp):List Tr->List V->Prop
 | [],xs=>xs=[]
 | t :: ts,xs=>∃ y ys,xs=y :: ys/\TrAt K H t y/\TrsAt K H ts ys
end
mutual
def teq:Tr->Tr->Bool
 | .non,.non=>true
 | .bl a,.bl b=>a == b
 | .bl a,.int b=>(if a then 1 else 0) == b
 | .int a,.bl b=>a == (if b then 1 else 0)
 | .int a,.int b=>a == b
 | .str a,.str b=>a == b
 | .lst a,.lst b=>qj a b
 | .tup a,.tup b=>qj a b
 | _,_=>false
def qj:List Tr->List Tr->Bool
 | [],[]=>true
 | t :: ts,u :: us=>teq t u && qj ts us
 | _,_=>false
end
mutual
def uw:Tr->Nat
 | .lst ts=>xq ts+1
 | .tup ts=>xq ts+1
 | _=>0
def xq:List Tr->Nat
 | []=>0
 | t :: ts=>max (uw t) (xq ts)
end
theorem Z9 {t:Tr}:∀ {ts:List Tr},t∈ts->uw t<=xq ts
 | u :: ts,h=>by
  rw [xq]
  rcases List.mem_cons.mp h with e | h
  ·rw [e];exact Nat.le_max_left _ _
  ·exact Nat.le_trans (Z9 h) (Nat.le_max_right _ _)
section
variable {K:W.Frag} {H:Hp}
theorem TrsAt.length:∀ {ts:List Tr} {xs:List V},TrsAt K H ts xs->ts.length=xs.length
 | [],xs,h=>by rw [TrsAt] at h;subst h;rfl
 | t :: ts,xs,h=>by
  rw [TrsAt] at h
  obtain⟨y,ys,rfl,_,h⟩:=h
  rw [List.length_cons,List.length_cons,TrsAt.length h]
theorem TrsAt.get:∀ {ts:List Tr} {xs:List V} {j:Nat} {t:Tr},TrsAt K H ts xs->ts[j]?=some t->∃ x,xs[j]?=some x/\TrAt K H t x
 | [],xs,j,t,h,e=>by simp at e
 | u :: ts,xs,0,t,h,e=>by
  rw [TrsAt] at h
  obtain⟨y,ys,rfl,hy,h⟩:=h
  simp at e
  subst e
  exact⟨y,rfl,hy⟩
 | u :: ts,xs,j+1,t,h,e=>by
  rw [TrsAt] at h
  obtain⟨y,ys,rfl,hy,h⟩:=h
  obtain⟨x,e1,e2⟩:=TrsAt.get (j:=j) h (by simpa using e)
  exact⟨x,by simpa using e1,e2⟩
theorem TrsAt.mk:∀ {ts:List Tr} {xs:List V},ts.length=xs.length->(∀ (j:Nat) (t:Tr) (x:V),ts[j]?=some t->xs[j]?=some x->TrAt K H t x)->TrsAt K H ts xs
 | [],[],_,_=>by rw [TrsAt]
 | [],_ :: _,h,_=>by simp at h
 | _ :: _,[],h,_=>by simp at h
 | t :: ts,x :: xs,h,f=>by
  rw [TrsAt]
  exact⟨x,xs,rfl,f 0 t x rfl rfl,TrsAt.mk (by simpa using h) λj t x e1 e2=>f (j+1) t x (by simpa using e1) (by simpa using e2)⟩
theorem TrsAt.ints:∀ {ns:List Int},TrsAt K H (ns.map Tr.int) (ns.map V.int)
 | []=>by rw [List.map_nil,TrsAt];rfl
 | n :: ns=>by rw [List.map_cons,TrsAt];exact⟨_,_,rfl,by rw [TrAt],TrsAt.ints⟩
def yI (ns:List Int):Tr:=.lst (ns.map Tr.int)
theorem TrAt.ints {a:Addr} {ns:List Int} (h:SqL K H a (ns.map V.int)):TrAt K H (yI ns) (.ref a):=by
 unfold yI;rw [TrAt];exact⟨a,_,rfl,h,TrsAt.ints⟩
end
mutual
theorem Z0:∀ t:Tr,teq t t=true
 | .non=>by rw [teq]
 | .bl b=>by rw [teq];simp
 | .int i=>by rw [teq];simp
 | .str x=>by rw [teq];simp
 | .lst ts=>by rw [teq];exact jO ts
 | .tup ts=>by rw [teq];exact jO ts
theorem jO:∀ ts:List Tr,qj ts ts=true
 | []=>by rw [qj]
 | t :: ts=>by rw [qj,Z0 t,jO ts];rfl
end
theorem zaD {α:Type} [DecidableEq α] {f:α->Tr} (h:∀ a b,teq (f a) (f b)=decide (a=b)):∀ (xs ys:List α),qj (xs.map f) (ys.map f)=decide (xs=ys)
 | [],[]=>by simp [qj]
 | [],_ :: _=>by simp [qj]
 | _ :: _,[]=>by simp [qj]
 | x :: xs,y :: ys=>by
  rw [List.map_cons,List.map_cons,qj,h,zaD h xs ys,Bool.eq_iff_iff]
  simp
theorem zdY (a b:Int):teq (.int a) (.int b)=decide (a=b):=by rw [teq,Bool.eq_iff_iff];simp
theorem qx (a b:List Int):teq (yI a) (yI b)=decide (a=b):=by unfold yI;rw [teq];exact zaD zdY a b
theorem Uv:∀ ns:List Int,xq (ns.map Tr.int)=0
 | []=>by simp [xq]
 | n :: ns=>by rw [List.map_cons,xq,Uv ns,uw]<;>simp
theorem qL (ns:List Int):uw (yI ns)=1:=by unfold yI;rw [uw,Uv]
theorem Yh:∀ {ts us:List Tr},ts.length≠us.length->qj ts us=false
 | [],[],h=>absurd rfl h
 | [],_ :: _,_=>by simp [qj]
 | _ :: _,[],_=>by simp [qj]
 | t :: ts,u :: us,h=>by rw [qj,Yh (by simpa using h),Bool.and_false]
def eAt (ts us:List Tr) (j:Nat):Bool:=match ts[j]?,us[j]? with
 | some t,some u=>teq t u
 | _,_=>true
theorem Jy:∀ {ts us:List Tr},ts.length=us.length->(List.range ts.length).all (eAt ts us)=qj ts us
 | [],[],_=>by simp [qj]
 | [],_ :: _,h=>by simp at h
 | _ :: _,[],h=>by simp at h
 | t :: ts,u :: us,h=>by
  rw [List.length_cons,List.range_succ_eq_map,List.all_cons,List.all_map,qj,<- Jy (ts:=ts) (us:=us) (by simpa using h)]
  rfl
section
variable {X:Cx} {pins:List (Addr×Obj)} {Z:St} {H:Hp} {s:Shared}
theorem V4 (I:Inv X pins Z H s):∀ (n:Nat) {t u:Tr} {v:V},uw t<=n->TrAt X.K H t v->TrAt X.K H u v->t=u:=by
 intro n
 induction n with
 | zero =>
  intro t u v hd ht hu
  cases t with
  | lst ts=>rw [uw] at hd;omega
  | tup ts=>rw [uw] at hd;omega
  | _=>(rw [TrAt] at ht;subst ht;cases u<;>(rw [TrAt] at hu)<;>first | rfl | (obtain⟨_,_,z,_⟩:=hu;cases z) | (cases hu;rfl) | cases hu)
 | succ n ih =>
  intro t u v hd ht hu
  have lists:∀ {ts us:List Tr} {xs:List V},xq ts<=n->TrsAt X.K H ts xs->TrsAt X.K H us xs->ts=us:=by
   intro ts us xs hd h1 h2
   apply List.ext_getElem?
   intro j
   have l1:=h1.length
   have l2:=h2.length
   by_cases hj:j<ts.length
   ·obtain⟨t,e⟩:∃ t,ts[j]?=some t:=⟨_,List.getElem?_eq_getElem hj⟩
    obtain⟨u,e'⟩:∃ u,us[j]?=some u:=⟨_,List.getElem?_eq_getElem (by omega)⟩
    obtain⟨x,ex,hx⟩:=h1.get e
    obtain⟨y,ey,hy⟩:=h2.get e'
    rw [ex] at ey
    cases ey
    rw [e,e',ih (Nat.le_trans (Z9 (List.mem_of_getElem? e)) hd) hx hy]
   ·rw [List.getElem?_eq_none (by omega),List.getElem?_eq_none (by omega)]
  cases t with
  | lst ts =>
   rw [TrAt] at ht
   obtain⟨a,xs,rfl,q,h1⟩:=ht
   cases u with
   | lst us =>
    rw [TrAt] at hu
    obtain⟨b,ys,e,q',h2⟩:=hu
    cases e
    rw [I.list_inj q' q] at h2
    rw [lists (by rw [uw] at hd;omega) h1 h2]
   | tup us =>
    rw [TrAt] at hu
    obtain⟨b,ys,e,q',h2⟩:=hu
    cases e
    obtain⟨_,_,pl,_⟩:=I.list q
    obtain⟨_,_,pt,_⟩:=I.tuple q'
    exact absurd rfl (ne_of_list_tuple pl.isList pt)
   | _=>rw [TrAt] at hu;cases hu
  | tup ts =>
   rw [TrAt] at ht
   obtain⟨a,xs,rfl,q,h1⟩:=ht
   cases u with
   | tup us =>
    rw [TrAt] at hu
    obtain⟨b,ys,e,q',h2⟩:=hu
    cases e
    rw [I.tuple_inj q' q] at h2
    rw [lists (by rw [uw] at hd;omega) h1 h2]
   | lst us =>
    rw [TrAt] at hu
    obtain⟨b,ys,e,q',h2⟩:=hu
    cases e
    obtain⟨_,_,pl,_⟩:=I.list q'
    obtain⟨_,_,pt,_⟩:=I.tuple q
    exact absurd rfl (ne_of_list_tuple pl.isList pt)
   | _=>rw [TrAt] at hu;cases hu
  | _=>(rw [TrAt] at ht;subst ht;cases u<;>(rw [TrAt] at hu)<;>first | rfl | (obtain⟨_,_,z,_⟩:=hu;cases z) | (cases hu;rfl) | cases hu)
structure zgF (A:Around) (s:Shared) (a b:Value) (r:Bool):Prop where
 rc:RcAt A s a b r
 ne:RcNeAt A s a b (!r)
 eq:EqAt A s a b r
theorem units_in1 (A:Around):A.in1.units=A.units+1:=rfl
theorem Vk (I:Inv X pins Z H s):∀ (n:Nat) {t u:Tr} {v w:V} {a b:Value} {A:Around},uw t<=n->TrAt X.K H t v->TrAt X.K H u w->RelV v a->RelV w b->A.units+n<cLine->zgF A s a b (teq t u):=by
 intro n
 induction n with
 | zero =>
  intro t u v w a b A hd ht hu ra rb hA
  have hA':A.units<cLine:=by omega
  cases t with
  | lst ts=>rw [uw] at hd;omega
  | tup ts=>rw [uw] at hd;omega
  | non =>
   rw [TrAt] at ht;subst ht;cases ra
   cases u with
   | non=>rw [TrAt] at hu;subst hu;cases rb;rw [teq];exact⟨.none_none,.none_none,.same _⟩
   | bl b=>rw [TrAt] at hu;subst hu;cases rb;simp only [teq];exact⟨.none_bool _,.none_bool _,.none_bool _⟩
   | int b=>rw [TrAt] at hu;subst hu;obtain⟨_,rfl⟩:=rb;simp only [teq];exact⟨.none_int _ _,.none_int _ _,.none_int _ _⟩
   | str b=>rw [TrAt] at hu;subst hu;obtain⟨_,rfl⟩:=rb;simp only [teq];exact⟨.none_str _ _,.none_str _ _,.none_str _ _⟩
   | lst us=>rw [TrAt] at hu;obtain⟨p,ys,rfl,q,_⟩:=hu;cases rb;obtain⟨_,_,pl,_⟩:=I.list q;simp only [teq];exact⟨.none_list pl.isList hA',.none_list pl.isList hA',.none_list pl.isList hA'⟩
   | tup us=>rw [TrAt] at hu;obtain⟨p,ys,rfl,q,_⟩:=hu;cases rb;obtain⟨_,_,pl,_⟩:=I.tuple q;simp only [teq];exact⟨.none_tuple pl hA',.none_tuple pl hA',.none_tuple pl hA'⟩
  | bl c =>
   rw [TrAt] at ht;subst ht;cases ra
   cases u with
   | non=>rw [TrAt] at hu;subst hu;cases rb;simp only [teq];exact⟨.bool_none _,.bool_none _,.bool_none _⟩
   | bl b=>rw [TrAt] at hu;subst hu;cases rb;rw [teq];exact⟨.bool_bool _ _,.bool_bool _ _,.bool_bool _ _⟩
   | int b=>rw [TrAt] at hu;subst hu;obtain⟨_,rfl⟩:=rb;rw [teq];exact⟨.bool_int _ _ _,.bool_int _ _ _,.bool_int _ _ _⟩
   | str b=>rw [TrAt] at hu;subst hu;obtain⟨_,rfl⟩:=rb;simp only [teq];exact⟨.bool_str _ _ _,.bool_str _ _ _,.bool_str _ _ _⟩
   | lst us=>rw [TrAt] at hu;obtain⟨p,ys,rfl,q,_⟩:=hu;cases rb;obtain⟨_,_,pl,_⟩:=I.list q;simp only [teq];exact⟨.bool_list _ pl.isList hA',.bool_list _ pl.isList hA',.bool_list _ pl.isList hA'⟩
   | tup us=>rw [TrAt] at hu;obtain⟨p,ys,rfl,q,_⟩:=hu;cases rb;obtain⟨_,_,pl,_⟩:=I.tuple q;simp only [teq];exact⟨.bool_tuple _ pl hA',.bool_tuple _ pl hA',.bool_tuple _ pl hA'⟩
  | int c =>
   rw [TrAt] at ht;subst ht;obtain⟨_,rfl⟩:=ra
   cases u with
   | non=>rw [TrAt] at hu;subst hu;cases rb;simp only [teq];exact⟨.int_none _ _,.int_none _ _,.int_none _ _⟩
   | bl b=>rw [TrAt] at hu;subst hu;cases rb;rw [teq];exact⟨.int_bool _ _ _,.int_bool _ _ _,.int_bool _ _ _⟩
   | int b=>rw [TrAt] at hu;subst hu;obtain⟨_,rfl⟩:=rb;rw [teq];exact⟨.int_int _ _ _ _,.int_int _ _ _ _,.int_int _ _ _ _⟩
   | str b=>rw [TrAt] at hu;subst hu;obtain⟨_,rfl⟩:=rb;simp only [teq];exact⟨.int_str _ _ _ _,.int_str _ _ _ _,.int_str _ _ _ _⟩
   | lst us=>rw [TrAt] at hu;obtain⟨p,ys,rfl,q,_⟩:=hu;cases rb;obtain⟨_,_,pl,_⟩:=I.list q;simp only [teq];exact⟨.int_list _ _ pl.isList hA',.int_list _ _ pl.isList hA',.int_list _ _ pl.isList hA'⟩
   | tup us=>rw [TrAt] at hu;obtain⟨p,ys,rfl,q,_⟩:=hu;cases rb;obtain⟨_,_,pl,_⟩:=I.tuple q;simp only [teq];exact⟨.int_tuple _ _ pl hA',.int_tuple _ _ pl hA',.int_tuple _ _ pl hA'⟩
  | str c =>
   rw [TrAt] at ht;subst ht;obtain⟨_,rfl⟩:=ra
   cases u with
   | non=>rw [TrAt] at hu;subst hu;cases rb;simp only [teq];exact⟨.str_none _ _,.str_none _ _,.str_none _ _⟩
   | bl b=>rw [TrAt] at hu;subst hu;cases rb;simp only [teq];exact⟨.str_bool _ _ _,.str_bool _ _ _,.str_bool _ _ _⟩
   | int b=>rw [TrAt] at hu;subst hu;obtain⟨_,rfl⟩:=rb;simp only [teq];exact⟨.str_int _ _ _ _,.str_int _ _ _ _,.str_int _ _ _ _⟩
   | str b=>rw [TrAt] at hu;subst hu;obtain⟨_,rfl⟩:=rb;rw [teq];exact⟨.str_str _ _ _ _,.str_str _ _ _ _,.str_str _ _ _ _⟩
   | lst us=>rw [TrAt] at hu;obtain⟨p,ys,rfl,q,_⟩:=hu;cases rb;obtain⟨_,_,pl,_⟩:=I.list q;simp only [teq];exact⟨.str_list _ _ pl.isList hA',.str_list _ _ pl.isList hA',.str_list _ _ pl.isList hA'⟩
   | tup us=>rw [TrAt] at hu;obtain⟨p,ys,rfl,q,_⟩:=hu;cases rb;obtain⟨_,_,pl,_⟩:=I.tuple q;simp only [teq];exact⟨.str_tuple _ _ pl hA',.str_tuple _ _ pl hA',.str_tuple _ _ pl hA'⟩
 | succ n ih =>
  intro t u v w a b A hd ht hu ra rb hA
  have hA':A.units<cLine:=by omega
  have items:∀ {ts us:List Tr} {xs ys:List V} {its its2:List Value},xq ts<=n->TrsAt X.K H ts xs->TrsAt X.K H us ys->Vals xs its->Vals ys its2 ->
    ∀ j (h1:j<its.toArray.size) (h2:j<its2.toArray.size),EqAt A.in1 s its.toArray[j] its2.toArray[j] (eAt ts us j):=by
   intro ts us xs ys its its2 hdn h1 h2 r1 r2 j hj1 hj2
   have l1:=h1.length
   have l2:=h2.length
   have m1:=r1.length
   have m2:=r2.length
   rw [List.size_toArray] at hj1 hj2
   obtain⟨t,e⟩:∃ t,ts[j]?=some t:=⟨_,List.getElem?_eq_getElem (by omega)⟩
   obtain⟨u,e'⟩:∃ u,us[j]?=some u:=⟨_,List.getElem?_eq_getElem (by omega)⟩
   obtain⟨x,ex,hx⟩:=h1.get e
   obtain⟨y,ey,hy⟩:=h2.get e'
   obtain⟨vx,fx,rx⟩:=r1.get ex
   obtain⟨vy,fy,ry⟩:=r2.get ey
   have g1:its.toArray[j]'(by simpa using hj1)=vx:=by
    have z:its[j]=vx:=Option.some.inj ((List.getElem?_eq_getElem hj1).symm.trans fx)
    simpa using z
   have g2:its2.toArray[j]'(by simpa using hj2)=vy:=by
    have z:its2[j]=vy:=Option.some.inj ((List.getElem?_eq_getElem hj2).symm.trans fy)
    simpa using z
   rw [g1,g2]
   have q:=(ih (A:=A.in1) (Nat.le_trans (Z9 (List.mem_of_getElem? e)) hdn) hx hy rx ry (by rw [units_in1];omega)).eq
   unfold eAt
   rw [e,e']
   exact q
  by_cases hz:uw t<=n
  ·exact ih hz ht hu ra rb (by omega)
  cases t with
  | lst ts =>
   rw [TrAt] at ht;obtain⟨p,xs,rfl,q,h1⟩:=ht;cases ra
   obtain⟨its,r1,pl,_⟩:=I.list q
   cases u with
   | non=>rw [TrAt] at hu;subst hu;cases rb;simp only [teq];exact⟨.list_none pl.isList hA',.list_none pl.isList hA',.list_none pl.isList hA'⟩
   | bl b=>rw [TrAt] at hu;subst hu;cases rb;simp only [teq];exact⟨.list_bool _ pl.isList hA',.list_bool _ pl.isList hA',.list_bool _ pl.isList hA'⟩
   | int b=>rw [TrAt] at hu;subst hu;obtain⟨_,rfl⟩:=rb;simp only [teq];exact⟨.list_int _ _ pl.isList hA',.list_int _ _ pl.isList hA',.list_int _ _ pl.isList hA'⟩
   | str b=>rw [TrAt] at hu;subst hu;obtain⟨_,rfl⟩:=rb;simp only [teq];exact⟨.list_str _ _ pl.isList hA',.list_str _ _ pl.isList hA',.list_str _ _ pl.isList hA'⟩
   | tup us=>rw [TrAt] at hu;obtain⟨p',ys,rfl,q',_⟩:=hu;cases rb;obtain⟨_,_,pl',_⟩:=I.tuple q';simp only [teq];exact⟨.list_tuple pl.isList pl' hA',.list_tuple pl.isList pl' hA',.list_tuple pl.isList pl' hA'⟩
   | lst us =>
    have hu0:=hu
    rw [TrAt] at hu;obtain⟨p',ys,rfl,q',h2⟩:=hu;cases rb
    obtain⟨its2,r2,pl',_⟩:=I.list q'
    have l1:=h1.length
    have l2:=h2.length
    have m1:=r1.length
    have m2:=r2.length
    have hdn:xq ts<=n:=by rw [uw] at hd;omega
    have both:RcAt A s (.ref p) (.ref p') (qj ts us)/\RcNeAt A s (.ref p) (.ref p') (!qj ts us):=by
     by_cases hsz:ts.length=us.length
     ·have hs:its.toArray.size=its2.toArray.size:=by rw [List.size_toArray,List.size_toArray];omega
      have it:=items hdn h1 h2 r1 r2
      have e1:(List.range its.toArray.size).all (eAt ts us)=qj ts us:=by
       rw [List.size_toArray,<- m1,<- l1];exact Jy hsz
      have a1:=RcAt.lists pl.isList pl'.isList hs hA' it
      have a2:=RcNeAt.lists pl.isList pl'.isList hs hA' it
      rw [e1] at a1 a2
      exact⟨a1,a2⟩
     ·have hs:(its.toArray.size != its2.toArray.size)=true:=by
       rw [List.size_toArray,List.size_toArray,bne_iff_ne];omega
      rw [Yh hsz]
      exact⟨.lists_lengths pl.isList pl'.isList hs hA',.lists_lengths pl.isList pl'.isList hs hA'⟩
    rw [teq]
    refine⟨both.1,both.2,?_⟩
    by_cases hpp:p=p'
    ·subst hpp
     have e:Tr.lst ts=Tr.lst us:=V4 I (n+1) hd (show TrAt X.K H (.lst ts) (.ref p) by rw [TrAt];exact⟨p,xs,rfl,q,h1⟩) hu0
     cases e
     rw [jO]
     exact .same _
    ·exact .of_refs hpp both.1
  | tup ts =>
   rw [TrAt] at ht;obtain⟨p,xs,rfl,q,h1⟩:=ht;cases ra
   obtain⟨its,r1,pl,_⟩:=I.tuple q
   cases u with
   | non=>rw [TrAt] at hu;subst hu;cases rb;simp only [teq];exact⟨.tuple_none pl hA',.tuple_none pl hA',.tuple_none pl hA'⟩
   | bl b=>rw [TrAt] at hu;subst hu;cases rb;simp only [teq];exact⟨.tuple_bool _ pl hA',.tuple_bool _ pl hA',.tuple_bool _ pl hA'⟩
   | int b=>rw [TrAt] at hu;subst hu;obtain⟨_,rfl⟩:=rb;simp only [teq];exact⟨.tuple_int _ _ pl hA',.tuple_int _ _ pl hA',.tuple_int _ _ pl hA'⟩
   | str b=>rw [TrAt] at hu;subst hu;obtain⟨_,rfl⟩:=rb;simp only [teq];exact⟨.tuple_str _ _ pl hA',.tuple_str _ _ pl hA',.tuple_str _ _ pl hA'⟩
   | lst us=>rw [TrAt] at hu;obtain⟨p',ys,rfl,q',_⟩:=hu;cases rb;obtain⟨_,_,pl',_⟩:=I.list q';simp only [teq];exact⟨.tuple_list pl pl'.isList hA',.tuple_list pl pl'.isList hA',.tuple_list pl pl'.isList hA'⟩
   | tup us =>
    have hu0:=hu
    rw [TrAt] at hu;obtain⟨p',ys,rfl,q',h2⟩:=hu;cases rb
    obtain⟨its2,r2,pl',_⟩:=I.tuple q'
    have l1:=h1.length
    have l2:=h2.length
    have m1:=r1.length
    have m2:=r2.length
    have hdn:xq ts<=n:=by rw [uw] at hd;omega
    have e1:((List.range (min its.toArray.size its2.toArray.size)).all (eAt ts us) && its.toArray.size == its2.toArray.size)=qj ts us:=by
     rw [List.size_toArray,List.size_toArray,<- m1,<- l1,<- m2,<- l2]
     by_cases hsz:ts.length=us.length
     ·rw [<- hsz,Nat.min_self,beq_self_eq_true,Bool.and_true];exact Jy hsz
     ·rw [Yh hsz,beq_eq_false_iff_ne.mpr hsz,Bool.and_false]
    have it:=items hdn h1 h2 r1 r2
    have a1:=RcAt.tuples pl pl' hA' it
    have a2:=RcNeAt.tuples pl pl' hA' it
    rw [e1] at a1 a2
    rw [teq]
    refine⟨a1,a2,?_⟩
    by_cases hpp:p=p'
    ·subst hpp
     have e:Tr.tup ts=Tr.tup us:=V4 I (n+1) hd (show TrAt X.K H (.tup ts) (.ref p) by rw [TrAt];exact⟨p,xs,rfl,q,h1⟩) hu0
     cases e
     rw [jO]
     exact .same _
    ·exact .of_refs hpp a1
  | non=>exact absurd (Nat.zero_le _) hz
  | bl b=>exact absurd (Nat.zero_le _) hz
  | int b=>exact absurd (Nat.zero_le _) hz
  | str b=>exact absurd (Nat.zero_le _) hz
end
section
variable {X:Cx}
def zd4 (K:W.Frag) (neg:Bool):R2:=λx y H Q=>∃ t u,TrAt K H t x/\TrAt K H u y/\uw t<=8/\Q (.bl (if neg then !teq t u else teq t u)) H
theorem zfA (hu:X.A.units+64<cLine):OpR X (compareOp .Eq) (zd4 X.K false):=by
 intro pins s Z H x y v u Q I rx ry h
 obtain⟨t,t',h1,h2,hd,q⟩:=h
 exact (Vk I 8 hd h1 h2 rx ry (by omega)).rc _ _ _ _ ⟨.bl _,H,I,rfl,q⟩
theorem ze5 (hu:X.A.units+64<cLine):OpR X (compareOp .NotEq) (zd4 X.K true):=by
 intro pins s Z H x y v u Q I rx ry h
 obtain⟨t,t',h1,h2,hd,q⟩:=h
 exact (Vk I 8 hd h1 h2 rx ry (by omega)).ne _ _ _ _ ⟨.bl _,H,I,rfl,q⟩
open Classical in
def zeh (K:W.Frag) (neg:Bool):R2:=λx y H Q=>∃ p xs ts u,y=.ref p/\SqL K H p xs/\TrsAt K H ts xs/\TrAt K H u x/\xq ts<=8/\Q (.bl (if neg then !(ts.any λt=>teq t u) else ts.any λt=>teq t u)) H
open Classical in
theorem za0 {pins:List (Addr×Obj)} {Z:St} {H:Hp} {s:Shared} (I:Inv X pins Z H s) {u:Tr}:∀ {ts:List Tr} {xs:List V} {its:List Value},xq ts<=8->TrsAt X.K H ts xs->Vals xs its ->
  its.any (λy=>decide (∃ t x,RelV x y/\TrAt X.K H t x/\teq t u=true))=ts.any λt=>teq t u
 | [],xs,its,_,h,r=>by rw [TrsAt] at h;subst h;cases r;rfl
 | t :: ts,xs,its,hd,h,r=>by
  rw [TrsAt] at h
  obtain⟨y,ys,rfl,hy,h⟩:=h
  cases r with
  | cons r1 r2 =>
   rw [xq] at hd
   rw [List.any_cons,List.any_cons,za0 I (by omega) h r2]
   congr 1
   rw [Bool.eq_iff_iff,decide_eq_true_iff]
   constructor
   ·rintro⟨t',x',r',h',e⟩
    rw [r1.inj r'] at hy
    rw [V4 I 8 (by omega) hy h'];exact e
   ·intro e
    exact⟨t,y,r1,hy,e⟩
open Classical in
theorem JS {pins:List (Addr×Obj)} {Z:St} {H:Hp} {s:Shared} (I:Inv X pins Z H s) (hu:X.A.units+64<cLine) {u:Tr} {x:V} {v:Value} (hx:TrAt X.K H u x) (rx:RelV x v) {ts:List Tr} {xs:List V} {its:List Value} (hd:xq ts<=8) (h:TrsAt X.K H ts xs) (r:Vals xs its) :
  ∀ y,y∈its.toArray->SeqAt.EqAt X.A.in1 s y v (decide (∃ t x,RelV x y/\TrAt X.K H t x/\teq t u=true)):=by
 intro y hy
 have hy':y∈its:=by simpa using hy
 obtain⟨j,hj,e⟩:=List.getElem_of_mem hy'
 have l1:=h.length
 have m1:=r.length
 obtain⟨t,et⟩:∃ t,ts[j]?=some t:=⟨_,List.getElem?_eq_getElem (by omega)⟩
 obtain⟨z,ez,hz⟩:=h.get et
 obtain⟨w,ew,rw'⟩:=r.get ez
 have e':y=w:=by
  rw [List.getElem?_eq_getElem hj] at ew
  exact e.symm.trans (Option.some.inj ew)
 subst e'
 have hd':uw t<=8:=Nat.le_trans (Z9 (List.mem_of_getElem? et)) hd
 have q:=(Vk I 8 (A:=X.A.in1) hd' hz hx rw' rx (by rw [units_in1];omega)).eq
 have e2:decide (∃ t x,RelV x y/\TrAt X.K H t x/\teq t u=true)=teq t u:=by
  rw [Bool.eq_iff_iff,decide_eq_true_iff]
  constructor
  ·rintro⟨t',x',r',h',e3⟩
   rw [rw'.inj r'] at hz
   rw [V4 I 8 hd' hz h'];exact e3
  ·intro e3
   exact⟨t,z,rw',hz,e3⟩
 rw [e2]
 exact q
open Classical in
theorem zfQ (hu:X.A.units+64<cLine):OpR X (compareOp .In) (zeh X.K false):=by
 intro pins s Z H x y v u Q I rx ry h
 obtain⟨p,xs,ts,t,rfl,hq,hts,ht,hd,q⟩:=h
 cases ry
 obtain⟨its,r,pl,hz⟩:=I.list hq
 refine SeqAt.in_listAt _ pl.isList (JS I hu ht rx hd hts r) ⟨.bl _,H,I,rfl,?_⟩
 simp only [List.any_toArray]
 rw [za0 I hd hts r]
 exact q
open Classical in
theorem zb4 (hu:X.A.units+64<cLine):OpR X (compareOp .NotIn) (zeh X.K true):=by
 intro pins s Z H x y v u Q I rx ry h
 obtain⟨p,xs,ts,t,rfl,hq,hts,ht,hd,q⟩:=h
 cases ry
 obtain⟨its,r,pl,hz⟩:=I.list hq
 refine SeqAt.notIn_listAt _ pl.isList (JS I hu ht rx hd hts r) ⟨.bl _,H,I,rfl,?_⟩
 simp only [List.any_toArray]
 rw [za0 I hd hts r]
 exact q
end
end L2
namespace L2
open PySem PySem.Spec PyProof.Rows
theorem zdq {K:W.Frag} {T U:String} {b:Bool} (h1:W.kitMeta U=true) (h2:(fastBuiltinMro T).map (·.contains (Value.type U))=some b) (hb:T=U->b=true):W.kitOne K (.type T) (.type U)=some b:=by
 unfold W.kitOne
 by_cases e:T=U
 ·subst e
  rw [if_pos (by simp),hb rfl]
 ·rw [if_neg (by simpa using e)]
  show (if W.kitMeta U=true then W.subIn K (.type T) (.type U) else none)=some b
  rw [if_pos h1]
  exact h2
section
variable {K:W.Frag}
end
section
variable {X:Cx}
def zgd (K:W.Frag):List V->Hp->VK->Prop:=λxs H Q=>∃ x T t b,xs=[x,.ty T]/\Xq K H x t/\W.kitOne K t (.type T)=some b/\Q (.bl b) H
theorem zcO:wR X (.builtin "isinstance") (zgd X.K):=by
 intro pins s Z H xs us Q I r h
 obtain⟨x,T,t,b,rfl,ty,e,q⟩:=h
 obtain⟨u,v,rfl,rx,rt⟩:=vals2 r
 cases rt
 exact zcd I rx ty e λtk=>⟨.bl b,H,I.tok tk,rfl,q⟩
def zgu (i j:Int):Prop:=0<j/\j<2^200
theorem XS:OpR X (binaryOp .FloorDiv) (rI zgu λi j=>.int (i / j)):=opI λi j _ _ _ _ _ hc q=>by
 have h1:(0:Int)<j:=hc.1
 have h2:j<2^200:=hc.2
 refine floordiv_int (by omega) (by rw [Int.fdiv_eq_ediv_of_nonneg i (by omega)];exact q) (.inl (PyProof.noPylong_of_log2 ?_))
 have h3:j.natAbs<2^200:=by omega
 have h4:j.natAbs.log2<200:=(Nat.log2_lt (by omega)).mpr h3
 omega
theorem WY {P:Program} {w:World} {A:Around} {its:List Value} {bs:List Bool} (r:Vals (bs.map V.bl) its):TruthOf P w A (λi v=>its.toArray[i]?=some v) (λi=>bs.getD i false):=by
 intro i v s Q E hP hQ
 have hl:=r.length
 rw [List.length_map] at hl
 have e:its[i]?=some v:=by simpa using hP
 have hi:i<its.length:=(List.getElem?_eq_some_iff.mp e).1
 have e2:(bs.map V.bl)[i]?=some (.bl (bs[i]'(by omega))):=by rw [List.getElem?_map,List.getElem?_eq_getElem (by omega)];rfl
 obtain⟨u,e3,r3⟩:=r.get e2
 rw [e] at e3
 cases e3
 cases r3
 have e4:bs.getD i false=bs[i]:=by rw [List.getD_eq_getElem?_getD,List.getElem?_eq_getElem (by omega)];rfl
 exact wpAny_truthy_bool (e4▸hQ)
theorem zan:∀ bs:List Bool,(List.range bs.length).all (λi=>bs.getD i false)=bs.all id
 | []=>rfl
 | b :: bs=>by
  rw [List.length_cons,List.range_succ_eq_map,List.all_cons,List.all_map,List.all_cons,<- zan bs]
  rfl
theorem zar:∀ bs:List Bool,(List.range bs.length).any (λi=>bs.getD i false)=bs.any id
 | []=>rfl
 | b :: bs=>by
  rw [List.length_cons,List.range_succ_eq_map,List.any_cons,List.any_map,List.any_cons,<- zar bs]
  rfl
def zga (K:W.Frag):List V->Hp->VK->Prop:=λxs H Q=>∃ (a:Addr) (bs:List Bool),xs=[.ref a]/\SqL K H a (bs.map V.bl)/\Q (.bl (bs.all id)) H
def zgA (K:W.Frag):List V->Hp->VK->Prop:=λxs H Q=>∃ (a:Addr) (bs:List Bool),xs=[.ref a]/\SqL K H a (bs.map V.bl)/\Q (.bl (bs.any id)) H
theorem zda (hc:X.calm=true):wR X (.builtin "all") (zga X.K):=by
 intro pins s Z H xs us Q I r h
 obtain⟨a,bs,rfl,hq,q⟩:=h
 obtain⟨u,rfl,rx⟩:=vals1 r
 cases rx
 obtain⟨its,rv,pl,hz⟩:=I.list hq
 have hl:=rv.length
 rw [List.length_map] at hl
 obtain⟨o,n,eo,_⟩:=id pl
 have hne:a≠s.heap.objs.size:=Nat.ne_of_lt (Heap.lt_size eo)
 refine call_all_walk (wpAny_pyIter_list pl.isList ?_)
 refine⟨_,_,_,_,_,_,_,rfl,Walks.list (A:=X.A.in1) (show X.A.in1.handled=none from I.ok.hd hc) s.heap.objs.size a hne its.toArray,⟨⟨_,Heap.get?_push_size _ rfl,rfl,rfl⟩,pl.isList.at λo e=>Heap.get?_push_of_some _ e⟩,WY rv,λh' tk hk=>?_⟩
 have I1:Inv X pins Z H { s with heap:=h',toks:=tk }:=I.kept λb o e=>hk b o (by have:=Heap.lt_size e;simp;exact Nat.ne_of_lt this) (Heap.get?_push_of_some _ e)
 refine⟨.bl _,H,I1,rfl,?_⟩
 rw [List.size_toArray,<- hl,zan]
 exact q
theorem zc7 (hc:X.calm=true):wR X (.builtin "any") (zgA X.K):=by
 intro pins s Z H xs us Q I r h
 obtain⟨a,bs,rfl,hq,q⟩:=h
 obtain⟨u,rfl,rx⟩:=vals1 r
 cases rx
 obtain⟨its,rv,pl,hz⟩:=I.list hq
 have hl:=rv.length
 rw [List.length_map] at hl
 obtain⟨o,n,eo,_⟩:=id pl
 have hne:a≠s.heap.objs.size:=Nat.ne_of_lt (Heap.lt_size eo)
 refine call_any_walk (wpAny_pyIter_list pl.isList ?_)
 refine⟨_,_,_,_,_,_,_,rfl,Walks.list (A:=X.A.in1) (show X.A.in1.handled=none from I.ok.hd hc) s.heap.objs.size a hne its.toArray,⟨⟨_,Heap.get?_push_size _ rfl,rfl,rfl⟩,pl.isList.at λo e=>Heap.get?_push_of_some _ e⟩,WY rv,λh' tk hk=>?_⟩
 have I1:Inv X pins Z H { s with heap:=h',toks:=tk }:=I.kept λb o e=>hk b o (by have:=Heap.lt_size e;simp;exact Nat.ne_of_lt this) (Heap.get?_push_of_some _ e)
 refine⟨.bl _,H,I1,rfl,?_⟩
 rw [List.size_toArray,<- hl,zar]
 exact q
def zf9 (K:W.Frag) (te:TE):TE:=λZ H Q=>te Z H λx H1=>∃ a xs,x=.ref a/\SqL K H1 a xs/\∀ p,H1 p=none->Q (.ref p) (upd H1 p (.lst xs.reverse))
theorem zdl:typeLookup (.type "list_reverseiterator") "__len__" = pure none:=by rw [typeLookup_type,builtinLookup_eq_fast];kernel_rfl
theorem zeF:typeLookup (.type "list_reverseiterator") "__length_hint__" = pure (some (.builtin "list_reverseiterator.__length_hint__")):=by rw [typeLookup_type,builtinLookup_eq_fast];kernel_rfl
section
variable {prog:Program} {w:World} {A:Around} {E:Value->Shared->Prop} {s:Shared}
theorem zaU {R:Result->Shared->Prop} (hh:A.handled=none) {I l:Addr} {items:Array Value} (hit:s.heap.IsRevIter I l ((items.size:Int)-1)) (hL:s.heap.IsList l items) (S:Addr) (res:Value) (c₀:Nat) (hS:s.heap.get? S=some { cls:=.type "list",data:=.seq #[] c₀ })
  (hSl:S≠l) (hR:∀ s' acc' c',Moved [S,I] (λa b=>b=a) s s'->s'.heap.get? S=some { cls:=.type "list",dict:=none,data:=.seq acc' c',slots:=#[] } ->
   ItemsOf (λi v=>items[items.size-1-i]?=some v) acc' items.size->R (.ok (.ret res)) s') (hn:items.size<=sizeLine) :
  wpAny (model prog w) A.in1 (Builtin.List.listExtendWith (.ref S) (.ref I) res)
   (λfin s'=>match fin with | .done f=>R (.ok f) s' | .again c'=>c'.quiet=true/\codeAny (model prog w) A c' R s') (λe s'=>R (.error e) s') s:=by
 obtain⟨oi,hoi,hci,hdi⟩:=id hit
 obtain⟨ol,hol,hcl,nl,hdl⟩:=id hL
 have hSI:S≠I:=by
  rintro rfl
  rw [hS] at hoi;cases hoi;exact absurd (show Value.type "list" = Value.type "list_reverseiterator" from hci) (by decide)
 have hne:l≠I:=by
  rintro rfl
  rw [hol] at hoi;cases hoi;rw [hcl] at hci;exact absurd hci (by decide)
 have hSf:S∉[I,l]:=λhm=>by
  rcases List.mem_cons.mp hm with e | hm
  ·exact hSI e
  ·exact hSl (List.mem_singleton.mp hm)
 unfold Builtin.List.listExtendWith
 refine wpAny_bind (wpAny_typeOf (T:="list_reverseiterator") hit.typeIs ?_)
 have h1:Builtin.List.listSameRef (.ref S) (.ref I)=false:=by simp [Builtin.List.listSameRef,hSI]
 have h2:(Value.type "list_reverseiterator" == Value.type "list")=false:=by decide
 have h3:(Value.type "list_reverseiterator" == Value.type "tuple")=false:=by decide
 simp only [h1,h2,h3,Bool.or_false,Bool.false_eq_true,if_false]
 refine wpAny_bind (wpAny_pyIter_revIter hit ?_)
 refine wpAny_bind (wpAny_holding ?_)
 unfold Builtin.List.listLengthHint
 refine wpAny_bind (wpAny_specialOf hit.typeIs zdl ?_)
 show wpAny _ A.in1 (specialOf (Value.ref I) (Str.ofString "__length_hint__") >>= _) _ _ _
 refine wpAny_bind (wpAny_specialOf hit.typeIs zeF ?_)
 generalize hid:("list_reverseiterator.__length_hint__" : String)=id0
 wp_delta
 rw [show splitId id0=some ("list_reverseiterator","__length_hint__") from by subst hid;decide +kernel]
 subst hid
 refine wpAny_bind (wpAny_isInstance (b:=true) hit.typeIs (by rw [isSubtype_type];kernel_rfl) ?_)
 refine wpAny_pure ?_
 rw [if_neg (by decide)]
 have W:=Walks.listRev (prog:=prog) (w:=w) (A:=A.in1) hh I l hne items
 refine wpAny_pure ⟨plainId_quiet F.plain_extend_loop _,codeAny_extend_loopS W.toS hn _ hSf _ items.size 0 _ _ _ rfl (Nat.zero_le _) ⟨Nat.zero_le _,by simpa using hit,hL⟩ hS (ItemsOf.nil _) λs' acc' c' hm hS' hacc=>?_⟩
 exact hR s' acc' c' hm hS' hacc
theorem zdA {R:Result->Shared->Prop} (hh:A.handled=none) {I l:Addr} {items:Array Value} (hit:s.heap.IsRevIter I l ((items.size:Int)-1)) (hL:s.heap.IsList l items) (S:Addr) (hS:s.heap.get? S=some { cls:=.type "list",data:=.seq #[] }) (hSl:S≠l) (hSI:S≠I)
  (hR:∀ s' acc' c',s'.gens=s.gens->s'.os=s.os->(∀ b o,b≠S->b≠I->s.heap.get? b=some o->s'.heap.get? b=some o)->s'.heap.get? S=some { cls:=.type "list",dict:=none,data:=.seq acc' c',slots:=#[] } ->
   ItemsOf (λi v=>items[items.size-1-i]?=some v) acc' items.size->R (.ok (.ret .none)) s') (hn:items.size<=sizeLine) :
  wpAny (model prog w) A.in1 (Builtin.«list.__init__» ⟨[.ref S,.ref I],[]⟩)
   (λfin s'=>match fin with | .done f=>R (.ok f) s' | .again c'=>c'.quiet=true/\codeAny (model prog w) A c' R s') (λe s'=>R (.error e) s') s:=by
 show wpAny _ _ (do let old <- Builtin.List.listItems (.ref S);Builtin.List.listUpdate (.ref S) (λ_=>#[]);letGo old.toList.reverse;Builtin.List.listExtendWith (.ref S) (.ref I) .none) _ _ s
 refine wpAny_bind ?_
 unfold Builtin.List.listItems
 refine wpAny_bind (wpAny_seqItems hS rfl (wpAny_pure ?_))
 show wpAny _ _ (updateSeq S (λ_=>#[]) >>= λ_=>letGo (#[]:Array Value).toList.reverse >>= λ_=>Builtin.List.listExtendWith (.ref S) (.ref I) .none) _ _ s
 refine wpAny_bind (wpAny_updateSeq hS rfl ?_)
 have hS₂:=Heap.get?_update_self (Obj.mapSeq (λ_=>(#[]:Array Value))) hS rfl
 have oth:∀ b o,b≠S->s.heap.get? b=some o->(s.heap.update S (Obj.mapSeq (λ_=>(#[]:Array Value)))).get? b=some o :=
  λb o hb e=>(Heap.get?_update_other _ _ (Ne.symm hb)).trans e
 refine wpAny_bind (wpAny_letGo ?_)
 refine zaU (hn:=hn) hh (hit.at λo e=>oth I o (Ne.symm hSI) e) (hL.at λo e=>oth l o (Ne.symm hSl) e) S .none _ hS₂ hSl λs' acc' c' hm hS' hacc=>?_
 refine hR s' acc' c' hm.gens hm.os (λb o hb hi e=>hm.heap b o (λz=>?_) (oth b o hb e)) hS' hacc
 rcases List.mem_cons.mp z with e' | z
 ·exact hb e'
 ·exact hi (List.mem_singleton.mp z)
theorem Xy {Q:Value->Shared->Prop} (hh:A.handled=none) {I l:Addr} {items:Array Value} (hit:s.heap.IsRevIter I l ((items.size:Int)-1)) (hL:s.heap.IsList l items)
  (hQ:∀ s' acc' c',s'.gens=s.gens->s'.os=s.os->(∀ b o,b≠I->s.heap.get? b=some o->s'.heap.get? b=some o) ->
   s'.heap.get? s.heap.objs.size=some { cls:=.type "list",dict:=none,data:=.seq acc' c',slots:=#[] }->ItemsOf (λi v=>items[items.size-1-i]?=some v) acc' items.size->Q (.ref s.heap.objs.size) s') (hn:items.size<=sizeLine) :
  wpAny (model prog w) A (call (.type "list") [.ref I]) Q E s:=by
 refine callType_codes (Q₁:=λobj s₁=>obj=.ref s.heap.objs.size/\s₁={ s with heap:=s.heap.push { cls:=.type "list",data:=.seq #[] } }) F.called_list (F.typeCall_list_1 _) F.entry_list_init
  (code_list_new _ ⟨rfl,rfl⟩) λobj s₁ h₁=>?_
 obtain⟨rfl,rfl⟩:=h₁
 have hS:(s.heap.push { cls:=.type "list",data:=.seq #[] }).get? s.heap.objs.size=some { cls:=.type "list",data:=.seq #[] }:=Heap.get?_push_size _ rfl
 obtain⟨oi,hoi,_⟩:=id hit
 obtain⟨ol,hol,_⟩:=id hL
 refine⟨⟨_,hS,rfl⟩,F.args_list_init_2 _ _,zdA (A:=A.in1) (hn:=hn) hh (hit.at λo e=>Heap.get?_push_of_some _ e) (hL.at λo e=>Heap.get?_push_of_some _ e) _ hS (Nat.ne_of_gt (Heap.lt_size hol)) (Nat.ne_of_gt (Heap.lt_size hoi)) λs' acc' c' hg ho hk hS' hacc=>?_⟩
 exact⟨rfl,hQ s' acc' c' hg ho (λb o hI e=>hk b o (Nat.ne_of_lt (Heap.lt_size e)) hI (Heap.get?_push_of_some _ e)) hS' hacc⟩
end
theorem zcq {items acc:Array Value} (h:ItemsOf (λi v=>items[items.size-1-i]?=some v) acc items.size):acc=items.toList.reverse.toArray:=by
 apply Array.ext_getElem?
 intro i
 by_cases hi:i<items.size
 ·have e:acc[i]?=some (acc[i]'(by rw [h.1];exact hi)):=Array.getElem?_eq_getElem _
  have q:=h.2 i _ e
  rw [e,<- q]
  simp [List.getElem?_reverse,hi]
 ·rw [Array.getElem?_eq_none (by rw [h.1];omega),Array.getElem?_eq_none (by simp;omega)]
def zdP (K:W.Frag) (te:TE):TE:=λZ H Q=>te Z H λx H1=>∃ (l:Addr) (ys:List V),x=.ref l/\SqL K H1 l ys/\∀ q,H1 q=none->Q (.ref q) (upd H1 q (.lst ys.reverse))
theorem zbs {e:Expr} {te:TE} {p1 p2 pos1 pos2:Pos} (hc:X.calm=true) (hg1:Gl X "list") (hm1:X.mg "list" = none) (hg2:Gl X "reversed") (hm2:X.mg "reversed" = none) (he:PE X e te)
  (hs:starEach [e] X.env=[(false,eval e X.env)]:=by rfl) (hs2:starEach [.Call (.Name "reversed" p2) [e] [] pos2] X.env=[(false,eval (.Call (.Name "reversed" p2) [e] [] pos2) X.env)]:=by rfl) :
  PE X (.Call (.Name "list" p1) [.Call (.Name "reversed" p2) [e] [] pos2] [] pos1) (zdP X.K te):=by
 intro pins s Z H Q I h
 refine wpAny_Call_Name_kw (ZC I hg1 hm1 boot_list ?_)
 refine PyProof.Rows.callWith_type1 ?_ hs2 rfl
 rw [hs2]
 show wpAny _ _ (spliced ((false,eval (.Call (.Name "reversed" p2) [e] [] pos2) X.env) :: backTo pos1 [])) _ _ s
 refine Calls.spliced_cons ?_
 refine wpAny_Call_Name_kw (ZC I hg2 hm2 boot_reversed ?_)
 refine PyProof.Rows.callWith_type1 ?_ hs rfl
 rw [hs]
 show wpAny _ _ (spliced ((false,eval e X.env) :: backTo pos2 [])) _ _ s
 refine Calls.spliced_cons (thn (he pins s Z H _ I h) λv s1 ⟨x,H1,I1,r1,q1⟩=>Calls.spliced_nil ?_)
 obtain⟨l,ys,rfl,hq,q⟩:=q1
 cases r1
 obtain⟨its,rv,pl,hz⟩:=I1.list hq
 have hl:=rv.length
 refine call_reversed_list pl.isList (Calls.spliced_nil ?_)
 have hsz:(its.toArray.size:Int)=(ys.length:Int):=by rw [List.size_toArray,hl]
 refine Xy (s:={ s1 with heap:=s1.heap.push (revObj l ((its.toArray.size:Int)-1)) }) (I1.ok.hd hc) (I:=s1.heap.objs.size) (l:=l) (items:=its.toArray) ⟨_,Heap.get?_push_size _ rfl,rfl,rfl⟩ (pl.isList.at λo e=>Heap.get?_push_of_some _ e) (λs' acc c hgn ho hk hS hacc=>?_) (by rw [List.size_toArray,<- hl];exact hz)
 have e1:(s1.heap.push (revObj l ((its.toArray.size:Int)-1))).objs.size=s1.heap.objs.size+1:=Heap.size_push _ _
 rw [show ({ s1 with heap:=s1.heap.push (revObj l ((its.toArray.size:Int)-1)) }:Shared).heap.objs.size=s1.heap.objs.size+1 from e1] at hS ⊢
 have kept:∀ b o,s1.heap.get? b=some o->s'.heap.get? b=some o:=λb o e=>hk b o (Nat.ne_of_lt (Heap.lt_size e)) (Heap.get?_push_of_some _ e)
 have hokL:=I1.laid (a:=s1.heap.objs.size+1) (o:=.lst ys.reverse) (h':=s'.heap) (t':=s'.toks) kept (Nat.le_succ _) ⟨by rw [List.length_reverse];exact hz,its.reverse,c,rv.reverse,by rw [hS,zcq hacc]⟩
 have I2:Inv X pins Z (upd H1 (s1.heap.objs.size+1) (.lst ys.reverse)) s':=by
  refine I1.call' (ch:=[]) (by rw [ho]) ?_ hokL.hok (by rw [hgn];exact I1.bare) λb z=>absurd z (by simp)
  exact Un.laid kept (Nat.le_succ _) (I1.hok.fresh (Nat.le_succ _))
 exact⟨.ref _,_,I2,rfl,q _ (I1.hok.fresh (Nat.le_succ _))⟩
end
section
variable {X:Cx} (K:W.Frag)
theorem zaK (e:X.K=K:=by rfl):wR X (.builtin "isinstance") (zgd K):=by subst e;exact zcO
theorem xT (e:X.K=K:=by rfl):wR X (.builtin "len") (λxs H Q=>∃ p ys,xs=[.ref p]/\(SqL K H p ys\/SqT K H p ys)/\Q (.int ys.length) H):=by subst e;exact Jm
theorem yF (e:X.K=K:=by rfl):IxR X (zfR K):=by subst e;exact zd8
theorem u9 (e:X.K=K:=by rfl):IxR X (zfW K):=by subst e;exact zfB
theorem uy (e:X.K=K:=by rfl):SlR X (zdM K):=by subst e;exact zek
theorem k_all (hc:X.calm=true) (e:X.K=K:=by rfl):wR X (.builtin "all") (zga K):=by subst e;exact zda hc
theorem zdC (hc:X.calm=true) (e:X.K=K:=by rfl):wR X (.builtin "any") (zgA K):=by subst e;exact zc7 hc
theorem uZ (e:X.K=K:=by rfl):wR X (.type "list") (λxs H Q=>∃ p ys,xs=[.ref p]/\(SqL K H p ys\/SqT K H p ys)/\∀ l,H l=none->Q (.ref l) (upd H l (.lst ys))):=by subst e;exact Ju
theorem zdo (hu:X.A.units+64<cLine) (e:X.K=K:=by rfl):OpR X (compareOp .Eq) (zd4 K false):=by subst e;exact zfA hu
theorem zaH (hu:X.A.units+64<cLine) (e:X.K=K:=by rfl):OpR X (compareOp .NotEq) (zd4 K true):=by subst e;exact ze5 hu
theorem zgk (hu:X.A.units+64<cLine) (e:X.K=K:=by rfl):OpR X (compareOp .In) (zeh K false):=by subst e;exact zfQ hu
theorem Uq (hu:X.A.units+64<cLine) (e:X.K=K:=by rfl):OpR X (compareOp .NotIn) (zeh K true):=by subst e;exact zb4 hu
theorem Yz {tg l:Expr} {tl:TE} (hl:PE X l tl) (e:X.K=K:=by rfl):PI X tg l (zdr K tl):=by subst e;exact zep hl
end
structure Df (K:W.Frag) (mg:Str->Option Value) (x:Str) (st:Stmt) (ps:List Str) (f:Addr) (fd:FuncData):Prop where
 fn:Fun K x x st f fd
 b:Binds K fd ps []
 g:mg x=some (.ref f)
theorem zU {X:Cx} {x:Str} {st:Stmt} {ps:List Str} {f:Addr} {fd:FuncData} {k:Nat} {sp:Sp} {e:Expr} {es:List Expr} {t:TA} {p pos:Pos} (D:Df X.K X.mg x st ps f fd) (G:FnOk X.prog X.w X.K X.mg X.base CX0 k f fd ps sp) (hr:Room k X.A) (ha:PA X (e :: es) t) (hg:Gl X x:=by rfl)
  (hdb:(x == ("__debug__" : Str))=false:=by decide) (he:starEach (e :: es) X.env=(false,eval e X.env) :: starEach es X.env:=by rfl) (hpl:(backTo pos (starEach es X.env)).any (·.1)=false:=by rfl):PE X (.Call (.Name x p) (e :: es) [] pos) (zbE sp [] E0 t) :=
 zej G hr hg D.g D.fn.kp D.b .nil Qv ha hdb he hpl
theorem zdB {K:W.Frag} {h:Heap} {mg:Str->Option Value} {x:Str} {st:Stmt} {ps:List Str} {f:Addr} {oc:Value} {od an:Option Addr} {osl:Array (Option Value)} {kV doc pm cdv ct:Value} (X:K.In h) (G:h.Ns mainGlobals mg)
  (a:W.nsIn K mainGlobals x=some (some (.ref f))) (l:K.lookup f=some ⟨oc,od,.func (W.fnOf x x (wX st) (yR st) (zu st) .none kV doc pm an cdv ct),osl⟩) (c:W.codeIn K cdv x=true) (k:W.keepIn K (.ref f)=true)
  (hb:∀ (kV doc pm:Value) (an:Option Addr) (cdv ct:Value) (us:List Value),us.length=ps.length->bindArgs (W.fnOf x x (wX st) (yR st) (zu st) .none kV doc pm an cdv ct) ⟨us,[]⟩=pure (ps.zip us)) :
  Df K mg x st ps f (W.fnOf x x (wX st) (yR st) (zu st) .none kV doc pm an cdv ct) :=
 ⟨Jv l c k,(Jv (st:=st) l c k).binds hb,W.mg_of X G a⟩
structure Blt (mg:Str->Option Value):Prop where
 n_isinstance:mg "isinstance" = none
 n_int:mg "int" = none
 n_bool:mg "bool" = none
 n_list:mg "list" = none
 n_tuple:mg "tuple" = none
 n_reversed:mg "reversed" = none
 n_len:mg "len" = none
 n_max:mg "max" = none
 n_min:mg "min" = none
 n_range:mg "range" = none
 n_all:mg "all" = none
 n_any:mg "any" = none
 n_sorted:mg "sorted" = none
 n_enumerate:mg "enumerate" = none
 n_repr:mg "repr" = none
theorem Wk {A:Around} {k:Nat} (hr:Room k A):A.units+64<cLine:=hr.units
def aw (fp:List Addr) (H:Hp):Hp:=λb=>if b∈fp then none else H b
theorem qY {fp:List Addr} {H:Hp} {b:Addr} (h:b∈fp):aw fp H b=none:=by unfold aw;rw [if_pos h]
theorem zL {fp:List Addr} {H:Hp} {b:Addr} (h:b∉fp):aw fp H b=H b:=by unfold aw;rw [if_neg h]
theorem zH (fp:List Addr) (H:Hp):Same (aw fp H) H:=λb o e=>by
 by_cases h:b∈fp
 ·rw [qY h] at e;cases e
 ·rw [zL h] at e;exact e
theorem Same.aw {H H':Hp} (h:Same H H') (fp:List Addr):Same (aw fp H) (aw fp H'):=λb o e=>by
 by_cases hb:b∈fp
 ·rw [qY hb] at e;cases e
 ·rw [zL hb] at e ⊢;exact h b o e
theorem zm {H:Hp} {p:Addr} {o:HO} (h:H p=none):Same H (upd H p o):=λb u e=>by rw [zx (zz e h)];exact e
open PySem PyProof.Rows
def unD:List (PyData×PyData)->List (Int×Int)
 | (.int k,.int v) :: r=>(k,v) :: unD r
 | _=>[]
def dD (ps:List (Int×Int)):List (PyData×PyData):=ps.map λp=>(.int p.1,.int p.2)
def dV (ps:List (Int×Int)):List (Key×V):=ps.map λp=>(.inl p.1,.int p.2)
theorem zdc:∀ {ps qs:List (Int×Int)},dV ps=dV qs->ps=qs
 | [],[],_=>rfl
 | [],_ :: _,h=>by cases h
 | _ :: _,[],h=>by cases h
 | (k,v) :: r,(k',v') :: r',h=>by
  have h':((Sum.inl k:Key),V.int v) :: dV r=(Sum.inl k',V.int v') :: dV r':=h
  injection h' with h1 h2
  injection h1 with h3 h4
  injection h3 with h3
  injection h4 with h4
  rw [h3,h4,zdc h2]
mutual
def ThAt (H:Hp):PyData->V->Prop
 | .none,v=>v=.non
 | .bool b,v=>v=.bl b
 | .int i,v=>v=.int i
 | .str x,v=>v=.str x
 | .list xs,v=>∃ a ys,v=.ref a/\H a=some (.lst ys)/\ThsAt H xs ys
 | .tuple xs,v=>∃ a ys,v=.ref a/\H a=some (.tup ys)/\ThsAt H xs ys
 | .dict kvs,v=>kvs=dD (unD kvs)/\∃ a,v=.ref a/\H a=some (.dK (dV (unD kvs)))
def ThsAt (H:Hp):List PyData->List V->Prop
 | [],ys=>ys=[]
 | d :: ds,ys=>∃ y zs,ys=y :: zs/\ThAt H d y/\ThsAt H ds zs
end
mutual
theorem ThAt.same {H H':Hp} (m:Same H H'):∀ {d:PyData} {v:V},ThAt H d v->ThAt H' d v
 | .none,v,h=>by rw [ThAt] at h ⊢;exact h
 | .bool b,v,h=>by rw [ThAt] at h ⊢;exact h
 | .int i,v,h=>by rw [ThAt] at h ⊢;exact h
 | .str x,v,h=>by rw [ThAt] at h ⊢;exact h
 | .list xs,v,h=>by
  rw [ThAt] at h ⊢
  obtain⟨a,ys,h1,h2,h3⟩:=h
  exact⟨a,ys,h1,m _ _ h2,ThsAt.same m h3⟩
 | .tuple xs,v,h=>by
  rw [ThAt] at h ⊢
  obtain⟨a,ys,h1,h2,h3⟩:=h
  exact⟨a,ys,h1,m _ _ h2,ThsAt.same m h3⟩
 | .dict kvs,v,h=>by
  rw [ThAt] at h ⊢
  obtain⟨h0,a,h1,h2⟩:=h
  exact⟨h0,a,h1,m _ _ h2⟩
theorem ThsAt.same {H H':Hp} (m:Same H H'):∀ {ds:List PyData} {ys:List V},ThsAt H ds ys->ThsAt H' ds ys
 | [],ys,h=>by rw [ThsAt] at h ⊢;exact h
 | d :: ds,ys,h=>by
  rw [ThsAt] at h ⊢
  obtain⟨y,zs,h1,h2,h3⟩:=h
  exact⟨y,zs,h1,ThAt.same m h2,ThsAt.same m h3⟩
end
theorem ThsAt.len {H:Hp}:∀ {ds:List PyData} {ys:List V},ThsAt H ds ys->ys.length=ds.length
 | [],ys,h=>by rw [ThsAt] at h;rw [h];rfl
 | d :: ds,ys,h=>by
  rw [ThsAt] at h
  obtain⟨y,zs,h1,h2,h3⟩:=h
  rw [h1,List.length_cons,List.length_cons,ThsAt.len h3]
theorem ThsAt.get {H:Hp}:∀ {ds:List PyData} {ys:List V} {k:Nat} {v:V},ThsAt H ds ys->ys[k]?=some v->∃ d,ds[k]?=some d/\ThAt H d v
 | [],ys,k,v,h,e=>by rw [ThsAt] at h;rw [h] at e;simp at e
 | d :: ds,ys,k,v,h,e=>by
  rw [ThsAt] at h
  obtain⟨y,zs,h1,h2,h3⟩:=h
  rw [h1] at e
  cases k with
  | zero =>
   have e':y=v:=by simpa using e
   exact⟨d,rfl,by rw [<- e'];exact h2⟩
  | succ k=>exact ThsAt.get (ds:=ds) (k:=k) h3 (by simpa using e)
theorem ThsAt.app {H:Hp}:∀ {ds es:List PyData} {ys zs:List V},ThsAt H ds ys->ThsAt H es zs->ThsAt H (ds++es) (ys++zs)
 | [],es,ys,zs,h,q=>by rw [ThsAt] at h;rw [h];exact q
 | d :: ds,es,ys,zs,h,q=>by
  rw [ThsAt] at h
  obtain⟨y,us,h1,h2,h3⟩:=h
  rw [h1,List.cons_append,List.cons_append,ThsAt]
  exact⟨y,us++zs,rfl,h2,ThsAt.app h3 q⟩
def tyT:PyData->String
 | .none=>"NoneType" | .bool _=>"bool" | .int _=>"int" | .str _=>"str" | .list _=>"list" | .tuple _=>"tuple" | .dict _=>"dict"
theorem ThAt.ty {K:W.Frag} {H:Hp} {d:PyData} {v:V} (h:ThAt H d v):Xq K H v (.type (tyT d)):=by
 cases d with
 | none=>rw [ThAt] at h;rw [h];exact .non
 | bool b=>rw [ThAt] at h;rw [h];exact .bl b
 | int i=>rw [ThAt] at h;rw [h];exact .int i
 | str x=>rw [ThAt] at h;rw [h];exact .str x
 | list xs=>rw [ThAt] at h;obtain⟨a,ys,rfl,h2,_⟩:=h;exact .lst h2
 | tuple xs=>rw [ThAt] at h;obtain⟨a,ys,rfl,h2,_⟩:=h;exact .tup h2
 | dict kvs=>rw [ThAt] at h;obtain⟨_,a,rfl,h2⟩:=h;exact .dK h2
def isS (T t:String):Bool:=t == T || (t == "bool" && T == "int")
def isT (T:String) (d:PyData):Bool:=isS T (tyT d)
section
variable {K:W.Frag}
theorem JX {T t:String} (hT:T = "int"\/T = "bool"\/T = "list"\/T = "tuple"\/T = "str") (ht:t = "NoneType"\/t = "bool"\/t = "int"\/t = "str"\/t = "list"\/t = "tuple"\/t = "dict"):W.kitOne K (.type t) (.type T)=some (isS T t):=by
 rcases hT with rfl | rfl | rfl | rfl | rfl<;>rcases ht with rfl | rfl | rfl | rfl | rfl | rfl | rfl <;>
  first
  | exact zdq (by decide +kernel) (by decide +kernel) (λ_=>rfl)
  | exact zdq (by decide +kernel) (by decide +kernel) (λe=>absurd e (by decide))
theorem Vr (d:PyData):tyT d = "NoneType"\/tyT d = "bool"\/tyT d = "int"\/tyT d = "str"\/tyT d = "list"\/tyT d = "tuple"\/tyT d = "dict":=by
 cases d<;>simp [tyT]
theorem zeK (d:PyData):W.kitOne K (.type (tyT d)) (.type "int")=some (isT "int" d):=JX (by simp) (Vr d)
theorem zc4 (d:PyData):W.kitOne K (.type (tyT d)) (.type "bool")=some (isT "bool" d):=JX (by simp) (Vr d)
theorem zap (d:PyData):W.kitOne K (.type (tyT d)) (.type "list")=some (isT "list" d):=JX (by simp) (Vr d)
theorem kit_tuple (d:PyData):W.kitOne K (.type (tyT d)) (.type "tuple")=some (isT "tuple" d):=JX (by simp) (Vr d)
end
end L2
namespace L2
open PySem PyProof.Rows
section
variable {P:Program} {w:World} {H:Hp} {h:Heap}
theorem Q7 {a:Addr} {ys:List V} (ok:HOk P w H h) (e:H a=some (.lst ys)):∃ (its:List Value) (n:Nat),Vals ys its/\h.get? a=some { cls:=.type "list",data:=.seq its.toArray n }:=(ok a _ e).2
theorem JG {a:Addr} {ys:List V} (ok:HOk P w H h) (e:H a=some (.tup ys)):∃ (its:List Value) (o:Obj) (n:Nat),Vals ys its/\h.get? a=some o/\o.cls=.type "tuple"/\o.data=.seq its.toArray n:=by
 obtain⟨_,its,r,o,h1,h2,n,h3⟩:=ok a _ e
 exact⟨its,o,n,r,h1,h2,h3⟩
theorem VL:∀ {l:List DictEntry} {vs:List (Key×Value)} {ps:List (Int×Int)},Pairs (xK P w) l vs->KV (dV ps) vs ->
  ReadsAll h (l.map (·.key)) ((dD ps).map (·.1)) []/\ReadsAll h (l.map (·.val)) ((dD ps).map (·.2)) []
 | _,_,[],pr,r=>by
  cases r;cases pr
  exact⟨.nil,.nil⟩
 | _,_,(k,v) :: ps,pr,r=>by
  have r':KV ((Sum.inl k,V.int v) :: dV ps) _:=r
  cases r' with
  | cons r1 r2 =>
   cases pr with
   | cons p1 p2 p3 =>
    obtain⟨q1,q2⟩:=VL p3 r2
    obtain⟨e1,t1,e2⟩:=r1
    rw [<- e1] at p1
    obtain⟨t,e3⟩:=Value.isInt_shape (show Value.isInt k _=true from p1)
    refine⟨?_,?_⟩
    ·refine ReadsAll.cons (as:=[]) (bs:=[]) (d:=.int k) ?_ q1
     show Reads h (DictEntry.key _) (.int k) []
     rw [e3];exact .int _ _
    ·refine ReadsAll.cons (as:=[]) (bs:=[]) (d:=.int v) ?_ q2
     show Reads h (DictEntry.val _) (.int v) []
     rw [p2,e2];exact .int _ _
theorem Y6 {as:List Addr} {d:Nat}:∀ {l:List DictEntry} {vs:List (Key×Value)} {ps:List (Int×Int)},Pairs (xK P w) l vs->KV (dV ps) vs->PyData.showableKv (dD ps)=true ->
  ReprEntriesK P w as h d l (PyData.shownKv (dD ps))
 | _,_,[],pr,r,_=>by
  cases r;cases pr
  show ReprEntriesK P w as h d [] (PyData.shownKv [])
  rw [PyData.shownKv];exact .nil
 | _,_,(k,v) :: ps,pr,r,hs=>by
  have r':KV ((Sum.inl k,V.int v) :: dV ps) _:=r
  have hs':PyData.showableKv ((.int k,.int v) :: dD ps)=true:=hs
  rw [PyData.showableKv,PyData.showable,PyData.showable,Bool.and_eq_true,Bool.and_eq_true] at hs'
  cases r' with
  | cons r1 r2 =>
   cases pr with
   | cons p1 p2 p3 =>
    obtain⟨e1,t1,e2⟩:=r1
    rw [<- e1] at p1
    obtain⟨t,e3⟩:=Value.isInt_shape (show Value.isInt k _=true from p1)
    show ReprEntriesK P w as h d _ (PyData.shownKv ((.int k,.int v) :: dD ps))
    rw [PyData.shownKv,PyData.shown,PyData.shown]
    refine .cons ?_ ?_ (Y6 p3 r2 hs'.2)
    ·rw [e3];exact .of_is (ReprIs.int t (of_decide_eq_true hs'.1.1)) _ _ _
    ·rw [p2,e2];exact .of_is (ReprIs.int t1 (of_decide_eq_true hs'.1.2)) _ _ _
theorem zaz:∀ ps:List (Int×Int),PyData.depthKv (dD ps)=0
 | []=>by show PyData.depthKv []=0;rw [PyData.depthKv]
 | (k,v) :: ps=>by
  show PyData.depthKv ((.int k,.int v) :: dD ps)=0
  rw [PyData.depthKv,PyData.depth,PyData.depth,zaz ps];rfl
theorem JZ {a:Addr} {ps:List (Int×Int)} (ok:HOk P w H h) (e:H a=some (.dK (dV ps))):(a == sysModules)=false/\∃ (o:Obj) (es:Array DictEntry) (n:Nat) (vs:List (Key×Value)),h.get? a=some o/\o.cls=.type "dict"/\o.data=.dict es n/\Pairs (xK P w) es.toList vs/\KV (dV ps) vs:=by
 obtain⟨_,hs,vs,r,o,es,ep,e1,ex,ed,_,pr,_⟩:=ok a _ e
 exact⟨hs,o,es,ep,vs,e1,ex.1,ed,pr,r⟩
mutual
theorem Z7 (ok:HOk P w H h):∀ {d:PyData} {v:V} {u:Value},ThAt H d v->RelV v u->∃ as,Reads h u d as
 | .none,v,u,t,r=>by
  rw [ThAt] at t;subst t
  have e:u=Value.none:=r
  subst e;exact⟨_,.none⟩
 | .bool b,v,u,t,r=>by
  rw [ThAt] at t;subst t
  have e:u=Value.bool b:=r
  subst e;exact⟨_,.bool b⟩
 | .int i,v,u,t,r=>by
  rw [ThAt] at t;subst t
  obtain⟨k,rfl⟩:∃ k,u=Value.int i k:=r
  exact⟨_,.int i k⟩
 | .str x,v,u,t,r=>by
  rw [ThAt] at t;subst t
  obtain⟨k,rfl⟩:∃ k,u=Value.str x k:=r
  exact⟨_,.str x k⟩
 | .list xs,v,u,t,r=>by
  rw [ThAt] at t
  obtain⟨a,ys,rfl,ha,hx⟩:=t
  have e:u=Value.ref a:=r
  subst e
  obtain⟨its,n,rv,ho⟩:=Q7 ok ha
  obtain⟨as,q⟩:=WQ ok hx rv
  exact⟨_,.list ho rfl rfl q⟩
 | .tuple xs,v,u,t,r=>by
  rw [ThAt] at t
  obtain⟨a,ys,rfl,ha,hx⟩:=t
  have e:u=Value.ref a:=r
  subst e
  obtain⟨its,o,n,rv,h1,h2,h3⟩:=JG ok ha
  obtain⟨as,q⟩:=WQ ok hx rv
  exact⟨_,.tuple h1 h2 h3 q⟩
 | .dict kvs,v,u,t,r=>by
  rw [ThAt] at t
  obtain⟨hk,a,rfl,ha⟩:=t
  generalize unD kvs=ps at hk ha
  subst hk
  have e:u=Value.ref a:=r
  subst e
  obtain⟨_,o,es,n,vs,h1,h2,h3,h4,h5⟩:=JZ ok ha
  obtain⟨q1,q2⟩:=VL (h:=h) h4 h5
  exact⟨_,.dict h1 h2 h3 q1 q2⟩
theorem WQ (ok:HOk P w H h):∀ {ds:List PyData} {ys:List V} {us:List Value},ThsAt H ds ys->Vals ys us->∃ as,ReadsAll h us ds as
 | [],ys,us,t,r=>by
  rw [ThsAt] at t;subst t
  cases r
  exact⟨_,.nil⟩
 | d :: ds,ys,us,t,r=>by
  rw [ThsAt] at t
  obtain⟨y,zs,rfl,h1,h2⟩:=t
  cases r with
  | cons r1 r2 =>
   obtain⟨as,q⟩:=Z7 ok h1 r1
   obtain⟨bs,q2⟩:=WQ ok h2 r2
   exact⟨_,.cons q q2⟩
end
mutual
theorem zdQ (ok:HOk P w H h):∀ {d:PyData} {v:V} {u:Value},ThAt H d v->RelV v u->d.showable=true->d.shown.length<=sizeLine->∃ bs,ReadAtMost h d.depth bs/\ReprK P w bs h d.depth u d.shown
 | .none,v,u,t,r,_,_=>by
  rw [ThAt] at t;subst t
  have e:u=Value.none:=r
  subst e
  exact⟨[],by simp [ReadAtMost],by rw [PyData.shown];exact .of_is ReprIs.none _ _ _⟩
 | .bool b,v,u,t,r,_,_=>by
  rw [ThAt] at t;subst t
  have e:u=Value.bool b:=r
  subst e
  exact⟨[],by simp [ReadAtMost],by rw [PyData.shown];exact .of_is (ReprIs.bool b) _ _ _⟩
 | .int i,v,u,t,r,hs,_=>by
  rw [ThAt] at t;subst t
  obtain⟨k,rfl⟩:∃ k,u=Value.int i k:=r
  rw [PyData.showable] at hs
  exact⟨[],by simp [ReadAtMost],by rw [PyData.shown];exact .of_is (ReprIs.int k (of_decide_eq_true hs)) _ _ _⟩
 | .str x,v,u,t,r,_,hz=>by
  rw [ThAt] at t;subst t
  obtain⟨k,rfl⟩:∃ k,u=Value.str x k:=r
  rw [PyData.shown] at hz
  exact⟨[],by simp [ReadAtMost],by rw [PyData.shown];exact .of_is (ReprIs.str x k hz) _ _ _⟩
 | .list xs,v,u,t,r,hs,hz=>by
  obtain⟨as,rd⟩:=Z7 ok t r
  rw [ThAt] at t
  obtain⟨a,ys,rfl,ha,hx⟩:=t
  have e:u=Value.ref a:=r
  subst e
  obtain⟨its,n,rv,ho⟩:=Q7 ok ha
  rw [PyData.showable] at hs
  rw [PyData.shown] at hz
  obtain⟨bs,hb,hk⟩:=jC ok hx rv hs λs hsm=>Nat.le_trans (listText_mem_le hsm) hz
  have dd:(PyData.list xs).depth=PyData.depthAll xs+1:=by rw [PyData.depth]
  refine⟨a :: bs,ReadAtMost.cons rd (by omega) hb,?_⟩
  rw [dd,PyData.shown]
  cases its with
  | nil =>
   cases rv
   cases xs with
   | nil=>rw [PyData.shownAll,listText_nil];exact ReprK.listEmpty ho rfl rfl
   | cons _ _=>rw [ThsAt] at hx;obtain⟨_,_,z,_⟩:=hx;cases z
  | cons x l=>exact ReprK.list ho rfl rfl (not_mem_of_deeper rd (by omega) hb) (by rw [hk.length_eq];simp) λi y q=>hk.item i y (by simpa using q)
 | .tuple xs,v,u,t,r,hs,hz=>by
  obtain⟨as,rd⟩:=Z7 ok t r
  rw [ThAt] at t
  obtain⟨a,ys,rfl,ha,hx⟩:=t
  have e:u=Value.ref a:=r
  subst e
  obtain⟨its,o,n,rv,h1,h2,h3⟩:=JG ok ha
  rw [PyData.showable] at hs
  rw [PyData.shown] at hz
  obtain⟨bs,hb,hk⟩:=jC ok hx rv hs λs hsm=>Nat.le_trans (tupleText_mem_le hsm) hz
  have dd:(PyData.tuple xs).depth=PyData.depthAll xs+1:=by rw [PyData.depth]
  refine⟨a :: bs,ReadAtMost.cons rd (by omega) hb,?_⟩
  rw [dd,PyData.shown]
  exact ReprK.tuple h1 h2 h3 (not_mem_of_deeper rd (by omega) hb) hk
 | .dict kvs,v,u,t,r,hs,hz=>by
  obtain⟨as,rd⟩:=Z7 ok t r
  rw [ThAt] at t
  obtain⟨hk,a,rfl,ha⟩:=t
  generalize unD kvs=ps at hk ha
  subst hk
  have e:u=Value.ref a:=r
  subst e
  obtain⟨sy,o,es,n,vs,h1,h2,h3,h4,h5⟩:=JZ ok ha
  have dd:(PyData.dict (dD ps)).depth=0+1:=by rw [PyData.depth,zaz]
  rw [PyData.showable] at hs
  refine⟨[a],ReadAtMost.cons (d:=.dict (dD ps)) (n:=0) rd (Nat.zero_le _) (by simp [ReadAtMost]),?_⟩
  rw [dd,PyData.shown]
  exact ReprK.dict h1 h2 h3 sy (by simp) (Y6 h4 h5 hs)
theorem jC (ok:HOk P w H h):∀ {ds:List PyData} {ys:List V} {us:List Value},ThsAt H ds ys->Vals ys us->PyData.showableAll ds=true->(∀ s∈PyData.shownAll ds,s.length<=sizeLine)->∃ bs,ReadAtMost h (PyData.depthAll ds) bs/\ReprAllK P w bs h (PyData.depthAll ds) us (PyData.shownAll ds)
 | [],ys,us,t,r,_,_=>by
  rw [ThsAt] at t;subst t
  cases r
  exact⟨[],by simp [ReadAtMost],by rw [PyData.shownAll];exact .nil⟩
 | d :: ds,ys,us,t,r,hs,hz=>by
  rw [ThsAt] at t
  obtain⟨y,zs,rfl,h1,h2⟩:=t
  rw [PyData.showableAll,Bool.and_eq_true] at hs
  rw [PyData.shownAll] at hz
  cases r with
  | cons r1 r2 =>
   obtain⟨b1,q1,k1⟩:=zdQ ok h1 r1 hs.1 (hz _ (.head _))
   obtain⟨b2,q2,k2⟩:=jC ok h2 r2 hs.2 λs hsm=>hz s (.tail _ hsm)
   have dd:PyData.depthAll (d :: ds)=max d.depth (PyData.depthAll ds):=by rw [PyData.depthAll]
   refine⟨b1++b2,(q1.mono (by omega)).append (q2.mono (by omega)),?_⟩
   rw [PyData.shownAll]
   exact .cons ((k1.more λb hb=>List.mem_append_left _ hb).level_le (by omega)) (k2.more_le (λb hb=>List.mem_append_right _ hb) (by omega))
end
end
def zfF:List V->Hp->VK->Prop:=λxs H Q=>∃ v d,xs=[v]/\ThAt H d v/\d.showable=true/\d.shown.length<=sizeLine/\d.depth<=40/\Q (.str d.shown) H
theorem j9 {X:Cx} (hg:X.A.guards=some []) (hu:X.A.units+64<cLine):wR X (.builtin "repr") zfF:=by
 intro pins s Z H xs us Q I r hq
 obtain⟨v,d,rfl,t,hs,hz,hd,q⟩:=hq
 obtain⟨u,rfl,ru⟩:=vals1 r
 obtain⟨as,rd⟩:=Z7 I.hok t ru
 cases d with
 | none =>
  rw [ThAt] at t;subst t
  have e:u=Value.none:=ru
  subst e
  rw [PyData.shown] at q
  exact P.repr_of_none ⟨.str "None",H,I.tok _,⟨_,rfl⟩,q⟩
 | bool b =>
  rw [ThAt] at t;subst t
  have e:u=Value.bool b:=ru
  subst e
  rw [PyData.shown] at q
  exact P.repr_of_bool ⟨.str _,H,I.tok _,⟨_,rfl⟩,q⟩
 | int i =>
  rw [ThAt] at t;subst t
  obtain⟨k,rfl⟩:∃ k,u=Value.int i k:=ru
  rw [PyData.shown] at q
  rw [PyData.showable] at hs
  exact P.repr_of_int (of_decide_eq_true hs) ⟨.str _,H,I.tok _,⟨_,rfl⟩,q⟩
 | str x =>
  rw [ThAt] at t;subst t
  obtain⟨k,rfl⟩:∃ k,u=Value.str x k:=ru
  rw [PyData.shown] at q hz
  exact P.repr_of_str ⟨.str _,H,I.tok _,⟨_,rfl⟩,q⟩ hz
 | list xs =>
  rw [ThAt] at t
  obtain⟨a,ys,rfl,ha,hx⟩:=t
  have e:u=Value.ref a:=ru
  subst e
  obtain⟨its,n,rv,ho⟩:=Q7 I.hok ha
  rw [PyData.showable] at hs
  rw [PyData.shown] at hz q
  obtain⟨bs,hb,hk⟩:=jC I.hok hx rv hs λs hsm=>Nat.le_trans (listText_mem_le hsm) hz
  have dd:(PyData.list xs).depth=PyData.depthAll xs+1:=by rw [PyData.depth]
  refine call_repr_slot (by omega) ⟨_,ho,rfl⟩ PySem.F.slot_list_repr.toG ?_
  cases its with
  | nil =>
   cases rv
   cases xs with
   | nil =>
    rw [PyData.shownAll,listText_nil] at q
    exact call_list_repr_empty ⟨_,ho,rfl⟩ ho rfl ⟨_,_,rfl,.str "[]",H,I.tok _,⟨_,rfl⟩,q⟩
   | cons _ _=>rw [ThsAt] at hx;obtain⟨_,_,z,_⟩:=hx;cases z
  | cons x l =>
   exact call_list_reprK ho rfl rfl (not_mem_of_deeper rd (by omega) hb) (by rw [hk.length_eq];simp) (λi y q=>hk.item i y (by simpa using q)) (A:=X.A.in1) hg (λb _=>Clear.nil b) (by show X.A.units+1+(PyData.depthAll xs+1)<cLine;omega) (λ_ _ e=>e) (λh' u tk hk=>⟨_,_,rfl,.str _,H,I.kept hk,⟨_,rfl⟩,q⟩) hz
 | tuple xs =>
  rw [ThAt] at t
  obtain⟨a,ys,rfl,ha,hx⟩:=t
  have e:u=Value.ref a:=ru
  subst e
  obtain⟨its,o,n,rv,h1,h2,h3⟩:=JG I.hok ha
  rw [PyData.showable] at hs
  rw [PyData.shown] at hz q
  obtain⟨bs,hb,hk⟩:=jC I.hok hx rv hs λs hsm=>Nat.le_trans (tupleText_mem_le hsm) hz
  have dd:(PyData.tuple xs).depth=PyData.depthAll xs+1:=by rw [PyData.depth]
  exact call_repr_slot (by omega) ⟨_,h1,h2⟩ PySem.F.slot_tuple_repr (call_tuple_reprK h1 h2 h3 (not_mem_of_deeper rd (by omega) hb) hk (A:=X.A.in1) hg (λb _=>Clear.nil b) (by show X.A.units+1+(PyData.depthAll xs+1)<cLine;omega) (λ_ _ e=>e) (λh' u tk hk=>⟨_,_,rfl,.str _,H,I.kept hk,⟨_,rfl⟩,q⟩) hz)
 | dict kvs =>
  rw [ThAt] at t
  obtain⟨hk,a,rfl,ha⟩:=t
  generalize unD kvs=ps at hk ha
  subst hk
  have e:u=Value.ref a:=ru
  subst e
  obtain⟨sy,o,es,n,vs,h1,h2,h3,h4,h5⟩:=JZ I.hok ha
  rw [PyData.showable] at hs
  rw [PyData.shown] at q hz
  exact call_repr_slot (by omega) ⟨_,h1,h2⟩ PySem.F.slot_dict_repr (call_dict_reprK (as:=[]) (d:=0) h1 h2 h3 sy (by simp) (Y6 h4 h5 hs) (A:=X.A.in1) hg (λb _=>Clear.nil b) (by show X.A.units+1+(0+1)<cLine;omega) (λ_ _ e=>e) (λh' u tk hk=>⟨_,_,rfl,.str _,H,I.kept hk,⟨_,rfl⟩,q⟩) hz)
end L2
namespace HT
open PySem PyProof.Rows
section
open PySem.SeqAt
open PySem.AutoSeq1 (wpAny_loadPart')
open PySem.MeetsSeq PySem.MeetsSeq2 PySem.MeetsSeq3 PySem.SeqRoads2
theorem zbP {vs:List Value} {ns:List Int} (h:IntsAre vs ns) {i:Nat} (hi:i<ns.length):∃ t,vs[i]?=some (.int (ns[i]) t):=by
 induction h generalizing i with
 | nil=>simp at hi
 | cons a t h ih =>
  cases i with
  | zero=>exact⟨t,rfl⟩
  | succ i =>
   obtain⟨t',e⟩:=ih (i:=i) (by simpa using hi)
   exact⟨t',by simpa using e⟩
theorem zea (l b:Addr) (items items2:Array Value) (n n2:Nat) (dd dd2:Option Addr) (sl sl2:Array (Option Value)) (ns ms:List Int) (hi:IntsAre items.toList ns) (hj:IntsAre items2.toList ms) (k:Nat) :
  ∀ i:Nat,ns.length-i=k->i<=ns.length->i<=ms.length->Meets (Builtin.«list.__eq__.loop» ⟨[.ref l,.ref b,rawInt i,rawInt 0],[]⟩)
   (λ_ R s=>s.heap.get? l=some { cls:=.type "list",dict:=dd,data:=.seq items n,slots:=sl }/\s.heap.get? b=some { cls:=.type "list",dict:=dd2,data:=.seq items2 n2,slots:=sl2 } /\
    R (.ok (.ret (.bool (lexLt (ns.drop i) (ms.drop i))))) s):=by
 have z1:items.size=ns.length:=by rw [<- hi.length];simp
 have z2:items2.size=ms.length:=by rw [<- hj.length];simp
 induction k with
 | zero =>
  intro i hk h1 h2 prog w A R s h
  obtain⟨hp,g,d,tk,os⟩:=s;obtain⟨hl,hb,h⟩:=h
  have hin:i=ns.length:=by omega
  wp_walk using wpAny_loadPart' hl,wpAny_loadPart' hb
  have hi1:items[((i:Nat):Int).toNat]?=none:=by simp;omega
  have hd:ns.drop i=[]:=by simp;omega
  rw [hd] at h
  rw [hi1]
  wp_walk using wpAny_loadPart' hl,wpAny_loadPart' hb
  show R (.ok (.ret (.bool (decide (items.size<items2.size))))) _
  have e:lexLt [] (ms.drop i)=decide (items.size<items2.size):=by
   cases q:ms.drop i with
   | nil =>
    rw [YH]
    have:ms.length<=i:=by simpa using List.drop_eq_nil_iff.mp q
    exact (decide_eq_false (by omega)).symm
   | cons x y =>
    rw [VR]
    have:i<ms.length:=by
     by_cases z:i<ms.length
     ·exact z
     ·rw [List.drop_of_length_le (by omega)] at q;cases q
    exact (decide_eq_true (by omega)).symm
  rw [<- e]
  exact h
 | succ k ih =>
  intro i hk h1 h2 prog w A R s h
  obtain⟨hp,g,d,tk,os⟩:=s;obtain⟨hl,hb,h⟩:=h
  have hlt:i<ns.length:=by omega
  obtain⟨t,et⟩:=zbP hi hlt
  have hi1:items[((i:Nat):Int).toNat]?=some (.int (ns[i]) t):=by simpa using et
  by_cases hm:i<ms.length
  ·obtain⟨u,eu⟩:=zbP hj hm
   have hi2:items2[((i:Nat):Int).toNat]?=some (.int (ms[i]) u):=by simpa using eu
   wp_walk using wpAny_loadPart' hl,wpAny_loadPart' hb
   rw [List.drop_eq_getElem_cons hlt,List.drop_eq_getElem_cons hm,uF] at h
   have hc:((i:Int)+1)=((i+1:Nat):Int):=by push_cast;rfl
   rw [hi1,hi2]
   obtain⟨e,he,hiff⟩:=zcL A.in1 ⟨hp,g,d,tk,os⟩ (ns[i]) t (ms[i]) u
   refine wpAny_bind (he prog w _ _ ?_)
   cases e with
   | true =>
    rw [if_pos (hiff.mp rfl)] at h
    wp_walk
    rw [hc]
    exact⟨plainId_quiet plain_eq_loop _,codeAny_builtin entry_eq_loop (by
     rw [Around.under_plainId plain_eq_loop _]
     exact ih (i+1) (by omega) (by omega) (by omega) prog w A R _ ⟨hl,hb,h⟩)⟩
   | false =>
    rw [if_neg (λq=>absurd (hiff.mpr q) Bool.false_ne_true)] at h
    have hri:=zaO A.in1 ⟨hp,g,d,tk,os⟩ (ns[i]) t (ms[i]) u prog w
    wp_walk using wpAny_loadPart' hl,wpAny_loadPart' hb
    rw [hi1,hi2]
    wp_walk using hri
    simpa using h
  ·have hi2:items2[((i:Nat):Int).toNat]?=none:=by simp;omega
   wp_walk using wpAny_loadPart' hl,wpAny_loadPart' hb
   rw [List.drop_eq_getElem_cons hlt,List.drop_of_length_le (show ms.length<=i by omega),ug] at h
   rw [hi1,hi2]
   wp_walk using wpAny_loadPart' hl,wpAny_loadPart' hb
   show R (.ok (.ret (.bool (decide (items.size<items2.size))))) _
   rw [decide_eq_false (by omega)]
   exact h
theorem XC (l b:Addr) (items items2:Array Value) (n n2:Nat) (dd dd2:Option Addr) (sl sl2:Array (Option Value)) (ns ms:List Int) (hi:IntsAre items.toList ns) (hj:IntsAre items2.toList ms) :
  Meets (Builtin.«list.__lt__» ⟨[.ref l,.ref b],[]⟩)
   (λ_ R s=>s.heap.get? l=some { cls:=.type "list",dict:=dd,data:=.seq items n,slots:=sl }/\s.heap.get? b=some { cls:=.type "list",dict:=dd2,data:=.seq items2 n2,slots:=sl2 } /\
    R (.ok (.ret (.bool (lexLt ns ms)))) s):=by
 intro prog w A R s h
 obtain⟨hp,g,d,tk,os⟩:=s;obtain⟨hl,hb,h⟩:=h
 have f3:=AutoSeq1.sub_list_list
 wp_walk using wpAny_loadPart' hl,wpAny_loadPart' hb
 exact⟨plainId_quiet plain_eq_loop _,codeAny_builtin entry_eq_loop (by
  rw [Around.under_plainId plain_eq_loop _]
  exact zea l b items items2 n n2 dd dd2 sl sl2 ns ms hi hj _ 0 rfl (Nat.zero_le _) (Nat.zero_le _) prog w A R _ ⟨hl,hb,by simpa using h⟩)⟩
end
section
variable {prog:Program} {w:World} {A:Around} {E:Value->Shared->Prop} {s:Shared}
theorem W4 {l b:Addr} {items items2:Array Value} {ns ms:List Int} {Q:Value->Shared->Prop} (hl:s.heap.IsList l items) (hb:s.heap.IsList b items2) (hi:IntsAre items.toList ns) (hj:IntsAre items2.toList ms)
  (hu:A.units<cLine) (h:Q (.bool (lexLt ns ms)) s):wpAny (model prog w) A (richCompare .Lt (.ref l) (.ref b)) Q E s:=by
 obtain⟨⟨cls,dd,data,sl⟩,ho,hc,n,hd⟩:=id hl
 obtain⟨⟨cls2,dd2,data2,sl2⟩,ho2,hc2,n2,hd2⟩:=id hb
 simp only at hc hd hc2 hd2
 subst hc hd hc2 hd2
 exact richCompare_meets_room (op:=.Lt) ⟨_,ho,rfl⟩ ⟨_,ho2,rfl⟩ PySem.F.slot_list_lt PySem.F.entry_list_lt (PySem.F.args_list_lt_2 _ _) (XC l b items items2 n n2 dd dd2 sl sl2 ns ms hi hj)
  ⟨ho,ho2,show Value.bool (lexLt ns ms)≠Value.notImplemented/\Q (.bool (lexLt ns ms)) s from ⟨(λx=>nomatch x),h⟩⟩ hu
end
open PySem PyProof.Rows PySem.W
def WF {α:Type} (c:Nat->Nat->Bool):KasT α->α
 | .ret a=>a
 | .ask i j k=>WF c (k (c i j))
def kin {α:Type} (n:Nat):KasT α->Bool
 | .ret _=>true
 | .ask i j k=>decide (i<n) && decide (j<n) && kin n (k true) && kin n (k false)
theorem Jh {α:Type} {n:Nat} {c:Nat->Nat->Bool} {cmp:Nat->Nat->(Bool->Shared->Prop)->Shared->Prop} {s:Shared} {Q:α->Shared->Prop} (hc:∀ i j C,i<n->j<n->C (c i j) s->cmp i j C s) :
  ∀ t:KasT α,kin n t=true->Q (WF c t) s->t.kasWp cmp Q s
 | .ret a,_,q=>q
 | .ask i j k,h,q=>by
  unfold kin at h
  simp only [Bool.and_eq_true,decide_eq_true_eq] at h
  refine hc i j _ h.1.1.1 h.1.1.2 ?_
  have q':Q (WF c (k (c i j))) s:=q
  cases e:c i j with
  | true=>rw [e] at q';exact Jh hc (k true) h.1.2 q'
  | false=>rw [e] at q';exact Jh hc (k false) h.2 q'
theorem qz {α:Type} {n:Nat} {c d:Nat->Nat->Bool} (h:∀ i j,i<n->j<n->c i j=d i j):∀ t:KasT α,kin n t=true->WF c t=WF d t
 | .ret a,_=>rfl
 | .ask i j k,hk=>by
  unfold kin at hk
  simp only [Bool.and_eq_true,decide_eq_true_eq] at hk
  unfold WF
  rw [h i j hk.1.1.1 hk.1.1.2]
  cases d i j with
  | true=>exact qz h (k true) hk.1.2
  | false=>exact qz h (k false) hk.2
def tab (b:Nat->Nat->Bool) (i j:Nat):Bool:=if i<j then b i j else if j<i then !b j i else false
def YK (n:Nat) (c:Nat->Nat->Bool) (p:List Nat):Bool:=p.isPerm (List.range n) && (List.range n).all λi=>(List.range n).all λj=>!decide (i<j) || c (p.getD i 0) (p.getD j 0)
def tr3 (n:Nat) (c:Nat->Nat->Bool):Bool:=(List.range n).all λi=>(List.range n).all λj=>(List.range n).all λk=>!c i j || !c j k || c i k
def half (b01 b02 b03 b12 b13 b23:Bool) (i j:Nat):Bool:=match i,j with
 | 0,1=>b01 | 0,2=>b02 | 0,3=>b03 | 1,2=>b12 | 1,3=>b13 | 2,3=>b23 | _,_=>false
theorem zge:kin 2 (kas_sort 2)=true:=by decide +kernel
theorem zgc:kin 3 (kas_sort 3)=true:=by decide +kernel
theorem zgf:kin 4 (kas_sort 4)=true:=by decide +kernel
theorem zgy:∀ b01:Bool,YK 2 (tab (half b01 true true true true true)) (WF (tab (half b01 true true true true true)) (kas_sort 2)).toList=true:=by decide +kernel
theorem zgq:∀ b01 b02 b12:Bool,tr3 3 (tab (half b01 b02 true b12 true true))=true->YK 3 (tab (half b01 b02 true b12 true true)) (WF (tab (half b01 b02 true b12 true true)) (kas_sort 3)).toList=true:=by decide +kernel
theorem zgg:∀ b01 b02 b03 b12 b13 b23:Bool,tr3 4 (tab (half b01 b02 b03 b12 b13 b23))=true->YK 4 (tab (half b01 b02 b03 b12 b13 b23)) (WF (tab (half b01 b02 b03 b12 b13 b23)) (kas_sort 4)).toList=true:=by decide +kernel
theorem yx:∀ a:List Int,lexLt a a=false
 | []=>rfl
 | x :: a=>by rw [uF,if_pos rfl,yx a]
theorem Zo:∀ a b:List Int,a≠b->lexLt b a=!lexLt a b
 | [],[],h=>absurd rfl h
 | [],_ :: _,_=>rfl
 | _ :: _,[],_=>rfl
 | x :: a,y :: b,h=>by
  rw [uF,uF]
  by_cases e:x=y
  ·subst e
   rw [if_pos rfl,if_pos rfl]
   exact Zo a b λz=>h (by rw [z])
  ·rw [if_neg e,if_neg (Ne.symm e),Bool.eq_iff_iff]
   simp
   omega
theorem wO:∀ a b c:List Int,lexLt a b=true->lexLt b c=true->lexLt a c=true
 | [],[],_,h,_=>by rw [YH] at h;cases h
 | [],_ :: _,[],_,h=>by rw [ug] at h;cases h
 | [],_ :: _,_ :: _,_,_=>rfl
 | _ :: _,[],_,h,_=>by rw [ug] at h;cases h
 | _ :: _,_ :: _,[],_,h=>by rw [ug] at h;cases h
 | x :: a,y :: b,z :: c,h1,h2=>by
  rw [uF] at h1 h2 ⊢
  by_cases e1:x=y
  ·subst e1
   rw [if_pos rfl] at h1
   by_cases e2:x=z
   ·subst e2
    rw [if_pos rfl] at h2 ⊢
    exact wO a b c h1 h2
   ·rw [if_neg e2] at h2 ⊢;exact h2
  ·rw [if_neg e1] at h1
   have h1':=of_decide_eq_true h1
   by_cases e2:y=z
   ·subst e2
    rw [if_neg e1];exact h1
   ·rw [if_neg e2] at h2
    have h2':=of_decide_eq_true h2
    rw [if_neg (show x≠z by omega)]
    exact decide_eq_true (by omega)
theorem Ji {n:Nat} (hn:n<=4) {c:Nat->Nat->Bool} {b01 b02 b03 b12 b13 b23:Bool} (h01:1<n->b01=c 0 1) (h02:2<n->b02=c 0 2) (h03:3<n->b03=c 0 3) (h12:2<n->b12=c 1 2) (h13:3<n->b13=c 1 3) (h23:3<n->b23=c 2 3) :
  ∀ i j,i<j->j<n->half b01 b02 b03 b12 b13 b23 i j=c i j:=by
 intro i j h1 h2
 have hh:(i=0/\j=1)\/(i=0/\j=2)\/(i=0/\j=3)\/(i=1/\j=2)\/(i=1/\j=3)\/(i=2/\j=3):=by omega
 rcases hh with ⟨rfl,rfl⟩ | ⟨rfl,rfl⟩ | ⟨rfl,rfl⟩ | ⟨rfl,rfl⟩ | ⟨rfl,rfl⟩ | ⟨rfl,rfl⟩
 ·exact h01 h2
 ·exact h02 h2
 ·exact h03 h2
 ·exact h12 h2
 ·exact h13 h2
 ·exact h23 h2
theorem zeC {ls:ZA} (nd:ls.Nodup) (h2:2<=ls.length) (h4:ls.length<=4) :
  kin ls.length (kas_sort ls.length)=true/\YK ls.length (λi j=>lexLt (ls.getD i []) (ls.getD j [])) (WF (λi j=>lexLt (ls.getD i []) (ls.getD j [])) (kas_sort ls.length)).toList=true:=by
 generalize hc:(λi j=>lexLt (ls.getD i []) (ls.getD j []))=c
 have cd:∀ i j,c i j=lexLt (ls.getD i []) (ls.getD j []):=λi j=>by rw [<- hc]
 have flip:∀ i j,i<ls.length->j<ls.length->i≠j->c j i=!c i j:=λi j hi hj hij=>by
  rw [cd,cd]
  refine Zo _ _ λe=>hij ?_
  have e1:ls.getD i []=ls[i]:=by rw [List.getD_eq_getElem?_getD,List.getElem?_eq_getElem hi];rfl
  have e2:ls.getD j []=ls[j]:=by rw [List.getD_eq_getElem?_getD,List.getElem?_eq_getElem hj];rfl
  rw [e1,e2] at e
  exact (List.getElem_inj nd).mp e
 have tabc:∀ b:Nat->Nat->Bool,(∀ i j,i<j->j<ls.length->b i j=c i j)->∀ i j,i<ls.length->j<ls.length->tab b i j=c i j:=λb hb i j hi hj=>by
  unfold tab
  by_cases h:i<j
  ·rw [if_pos h,hb i j h hj]
  ·rw [if_neg h]
   by_cases h':j<i
   ·rw [if_pos h',hb j i h' hi,flip j i hj hi (by omega)]
   ·rw [if_neg h']
    have:i=j:=by omega
    subst this
    rw [cd,yx]
 have outc:∀ (b:Nat->Nat->Bool) (p:List Nat),(∀ i j,i<ls.length->j<ls.length->tab b i j=c i j)->YK ls.length (tab b) p=true->YK ls.length c p=true:=λb p hb h=>by
  unfold YK at h ⊢
  rw [Bool.and_eq_true] at h ⊢
  refine⟨h.1,?_⟩
  have pm:=List.isPerm_iff.mp h.1
  have hl:p.length=ls.length:=by rw [pm.length_eq,List.length_range]
  rw [List.all_eq_true] at h ⊢
  intro i hi
  have q:=h.2 i hi
  rw [List.all_eq_true] at q ⊢
  intro j hj
  have q2:=q j hj
  have hi':=List.mem_range.mp hi
  have hj':=List.mem_range.mp hj
  have m:∀ k,k<ls.length->p.getD k 0<ls.length:=λk hk=>by
   have e:p.getD k 0=p[k]'(by omega):=by rw [List.getD_eq_getElem?_getD,List.getElem?_eq_getElem (by omega)];rfl
   rw [e]
   exact List.mem_range.mp (pm.mem_iff.mp (List.getElem_mem _))
  rw [hb _ _ (m i hi') (m j hj')] at q2
  exact q2
 have trc:∀ (b:Nat->Nat->Bool),(∀ i j,i<ls.length->j<ls.length->tab b i j=c i j)->tr3 ls.length (tab b)=true:=λb hb=>by
  unfold tr3
  simp only [List.all_eq_true,List.mem_range]
  intro i hi j hj k hk
  rw [hb i j hi hj,hb j k hj hk,hb i k hi hk]
  cases e1:c i j
  ·rfl
  ·cases e2:c j k
   ·rfl
   ·rw [cd] at e1 e2
    rw [cd,wO _ _ _ e1 e2];rfl
 have hn:ls.length=2\/ls.length=3\/ls.length=4:=by omega
 rcases hn with hn | hn | hn
 ·rw [hn] at tabc outc trc ⊢
  have t:=tabc (half (c 0 1) true true true true true) (Ji (by decide) (λ_=>rfl) (λz=>by omega) (λz=>by omega) (λz=>by omega) (λz=>by omega) (λz=>by omega))
  refine⟨zge,?_⟩
  rw [qz (λi j hi hj=>(t i j hi hj).symm) _ zge]
  exact outc _ _ t (zgy _)
 ·rw [hn] at tabc outc trc ⊢
  have t:=tabc (half (c 0 1) (c 0 2) true (c 1 2) true true) (Ji (by decide) (λ_=>rfl) (λ_=>rfl) (λz=>by omega) (λ_=>rfl) (λz=>by omega) (λz=>by omega))
  refine⟨zgc,?_⟩
  rw [qz (λi j hi hj=>(t i j hi hj).symm) _ zgc]
  exact outc _ _ t (zgq _ _ _ (trc _ t))
 ·rw [hn] at tabc outc trc ⊢
  have t:=tabc (half (c 0 1) (c 0 2) (c 0 3) (c 1 2) (c 1 3) (c 2 3)) (Ji (by decide) (λ_=>rfl) (λ_=>rfl) (λ_=>rfl) (λ_=>rfl) (λ_=>rfl) (λ_=>rfl))
  refine⟨zgf,?_⟩
  rw [qz (λi j hi hj=>(t i j hi hj).symm) _ zgf]
  exact outc _ _ t (zgg _ _ _ _ _ _ (trc _ t))
end HT
namespace L2
open PySem PySem.Spec PyProof.Rows
section
variable {X:Cx}
def zgU (K:W.Frag):R2:=λx y H Q=>∃ (a b:Addr) (ns ms:List Int),x=.ref a/\y=.ref b/\SqL K H a (ns.map V.int)/\SqL K H b (ms.map V.int)/\Q (.bl (HT.lexLt ns ms)) H
theorem zf3 (K:W.Frag) (hu:X.A.units+64<cLine) (e:X.K=K:=by rfl):OpR X (compareOp .Lt) (zgU K):=by
 subst e
 intro pins s Z H x y v u Q I rx ry h
 obtain⟨a,b,ns,ms,rfl,rfl,ha,hb,q⟩:=h
 cases rx
 cases ry
 obtain⟨its,r1,p1,_⟩:=I.list ha
 obtain⟨its2,r2,p2,_⟩:=I.list hb
 exact HT.W4 p1.isList p2.isList (intsAre_of r1) (intsAre_of r2) (by omega) ⟨.bl (HT.lexLt ns ms),H,I,rfl,q⟩
end
end L2
namespace HT
open PySem PyProof.Rows PySem.W
def KW {α:Type} (c:Nat->Nat->Bool) (n:Nat):KasT α->(α->Prop)->Prop
 | .ret a,Q=>Q a
 | .ask i j k,Q=>i<n/\j<n/\KW c n (k (c i j)) Q
theorem KW.bind {α β:Type} {c:Nat->Nat->Bool} {n:Nat} {f:α->KasT β} {Q:β->Prop}:∀ {t:KasT α},KW c n t (λa=>KW c n (f a) Q)->KW c n (t.bind f) Q
 | .ret _,h=>h
 | .ask _ _ k,h=>⟨h.1,h.2.1,KW.bind (t:=k _) h.2.2⟩
theorem KW.mono {α:Type} {c:Nat->Nat->Bool} {n:Nat} {Q Q':α->Prop} (hq:∀ a,Q a->Q' a):∀ {t:KasT α},KW c n t Q->KW c n t Q'
 | .ret a,h=>hq a h
 | .ask _ _ k,h=>⟨h.1,h.2.1,KW.mono hq (t:=k _) h.2.2⟩
theorem KW.wp {α:Type} {n:Nat} {c:Nat->Nat->Bool} {cmp:Nat->Nat->(Bool->Shared->Prop)->Shared->Prop} {s:Shared} {Q:α->Prop} (hc:∀ i j C,i<n->j<n->C (c i j) s->cmp i j C s) :
  ∀ t:KasT α,KW c n t Q->t.kasWp cmp (λa s'=>s'=s/\Q a) s
 | .ret _,h=>⟨rfl,h⟩
 | .ask i j k,h=>hc i j _ h.1 h.2.1 (KW.wp hc (k (c i j)) h.2.2)
structure Ord (c:Nat->Nat->Bool) (n:Nat):Prop where
 tr:∀ i j k,i<n->j<n->k<n->c i j=true->c j k=true->c i k=true
 tot:∀ i j,i<n->j<n->i≠j->c i j=false->c j i=true
 asy:∀ i j,i<n->j<n->c i j=true->c j i=false
structure Pm (n:Nat) (p:Array Nat):Prop where
 sz:p.size=n
 pm:p.toList.Perm (List.range n)
theorem Pm.lt {n:Nat} {p:Array Nat} (h:Pm n p) (i:Nat) (hi:i<n):p.getD i 0<n:=by
 have hs:=h.sz
 have e:p.getD i 0=p[i]:=by simp [Array.getD,hs,hi]
 rw [e]
 exact List.mem_range.mp (h.pm.mem_iff.mp (by simp))
theorem Pm.ne {n:Nat} {p:Array Nat} (h:Pm n p) {i j:Nat} (hi:i<n) (hj:j<n) (hij:i≠j):p.getD i 0≠p.getD j 0:=by
 have hs:=h.sz
 have e1:p.getD i 0=p.toList[i]'(by simp [hs,hi]):=by simp [Array.getD,hs,hi]
 have e2:p.getD j 0=p.toList[j]'(by simp [hs,hj]):=by simp [Array.getD,hs,hj]
 rw [e1,e2]
 have nd:p.toList.Nodup:=h.pm.nodup_iff.mpr List.nodup_range
 intro z
 exact hij ((List.getElem_inj nd).mp z)
theorem Pm.of {n:Nat} {p q:Array Nat} (h:Pm n p) (z:q.Perm p):Pm n q:=⟨by rw [z.size_eq];exact h.sz,(Array.perm_iff_toList_perm.mp z).trans h.pm⟩
def Up (c:Nat->Nat->Bool) (p:Array Nat) (m:Nat):Prop:=∀ i j,i<j->j<m->c (p.getD i 0) (p.getD j 0)=true
def Dn (c:Nat->Nat->Bool) (p:Array Nat) (m:Nat):Prop:=∀ i j,i<j->j<m->c (p.getD j 0) (p.getD i 0)=true
section
variable {c:Nat->Nat->Bool} {n:Nat}
theorem zaT (O:Ord c n) {p:Array Nat} (hp:Pm n p):∀ (f m:Nat),1<=m->m+f<=n->Up c p m->KW c n (kas_asc p f m) (λr=>m<=r/\r<=m+f/\Up c p r/\(r<m+f->c (p.getD r 0) (p.getD (r-1) 0)=true))
 | 0,m,_,_,u=>⟨Nat.le_refl _,Nat.le_refl _,u,λz=>absurd z (Nat.lt_irrefl _)⟩
 | f+1,m,h1,h2,u=>by
  refine⟨hp.lt m (by omega),hp.lt (m-1) (by omega),?_⟩
  cases e:c (p.getD m 0) (p.getD (m-1) 0) with
  | true=>exact⟨Nat.le_refl _,by omega,u,λ_=>e⟩
  | false =>
   have hs:c (p.getD (m-1) 0) (p.getD m 0)=true:=O.tot _ _ (hp.lt m (by omega)) (hp.lt (m-1) (by omega)) (hp.ne (by omega) (by omega) (by omega)) e
   have u':Up c p (m+1):=λi j hij hj=>by
    by_cases hjm:j<m
    ·exact u i j hij hjm
    ·have ej:j=m:=by omega
     subst ej
     by_cases hi:i=j-1
     ·rw [hi];exact hs
     ·exact O.tr _ _ _ (hp.lt i (by omega)) (hp.lt (j-1) (by omega)) (hp.lt j (by omega)) (u i (j-1) (by omega) (by omega)) hs
   refine KW.mono (λr h=>?_) (zaT O hp f (m+1) (by omega) (by omega) u')
   exact⟨by omega,by omega,h.2.2.1,λz=>h.2.2.2 (by omega)⟩
theorem zbR (O:Ord c n) {p:Array Nat} (hp:Pm n p):∀ (f m:Nat),1<=m->m+f<=n->Dn c p m->KW c n (kas_desc f p m 0) (λr=>r.1=p/\r.2.2=0/\m<=r.2.1/\r.2.1<=m+f/\Dn c p r.2.1)
 | 0,m,_,_,u=>⟨rfl,rfl,Nat.le_refl _,Nat.le_refl _,u⟩
 | f+1,m,h1,h2,u=>by
  refine⟨hp.lt m (by omega),hp.lt (m-1) (by omega),?_⟩
  cases e:c (p.getD m 0) (p.getD (m-1) 0) with
  | true =>
   have u':Dn c p (m+1):=λi j hij hj=>by
    by_cases hjm:j<m
    ·exact u i j hij hjm
    ·have ej:j=m:=by omega
     subst ej
     by_cases hi:i=j-1
     ·rw [hi];exact e
     ·exact O.tr _ _ _ (hp.lt j (by omega)) (hp.lt (j-1) (by omega)) (hp.lt i (by omega)) e (u i (j-1) (by omega) (by omega))
   refine KW.mono (λr h=>?_) (zbR O hp f (m+1) (by omega) (by omega) u')
   exact⟨h.1,h.2.1,by omega,by omega,h.2.2.2.2⟩
  | false =>
   have hs:c (p.getD (m-1) 0) (p.getD m 0)=true:=O.tot _ _ (hp.lt m (by omega)) (hp.lt (m-1) (by omega)) (hp.ne (by omega) (by omega) (by omega)) e
   refine⟨hp.lt (m-1) (by omega),hp.lt m (by omega),?_⟩
   rw [hs]
   exact⟨rfl,rfl,Nat.le_refl _,(show m<=m+(f+1) by omega),u⟩
theorem rev_getD {p:Array Nat} {m:Nat} (hm:m<=p.size) (k:Nat):(kas_rev p 0 m).getD k 0=if k<m then p.getD (m-1-k) 0 else p.getD k 0:=by
 have q:=getElem?_mirror_all (xs:=p) (i:=0) hm k
 have e:∀ (a:Array Nat) (j:Nat),a.getD j 0=(a[j]?).getD 0:=λa j=>by simp [Array.getD_eq_getD_getElem?]
 unfold kas_rev
 rw [e,q]
 by_cases h:k<m
 ·rw [if_pos ⟨Nat.zero_le _,h⟩,if_pos h,e,Nat.zero_add]
 ·rw [if_neg (by omega),if_neg h,e]
theorem zcM (O:Ord c n) {p:Array Nat} (hp:Pm n p) {m:Nat} (h1:1<=m) (h2:m<=n) (u:Dn c p m):KW c n (kas_tail3 m n p) (λr=>1<=r.1/\r.1<=n/\Pm n r.2/\Up c r.2 r.1):=by
 have hr:Pm n (kas_rev p 0 m):=hp.of (mirror_perm _ _ _ _)
 have hsz:m<=p.size:=by rw [hp.sz];exact h2
 have u':Up c (kas_rev p 0 m) m:=λi j hij hj=>by
  rw [rev_getD hsz,rev_getD hsz,if_pos (by omega),if_pos hj]
  exact u _ _ (by omega) (by omega)
 refine KW.bind (KW.mono (λr h=>?_) (zaT O hr (n-m) m h1 (by omega) u'))
 exact⟨by omega,by omega,hr,h.2.2.1⟩
theorem zdb (O:Ord c n) {p:Array Nat} (hp:Pm n p) (h2:2<=n):KW c n (kas_count n p) (λr=>1<=r.1/\r.1<=n/\Pm n r.2/\Up c r.2 r.1):=by
 refine KW.bind (KW.mono (λr h=>?_) (zaT O hp (n-1) 1 (Nat.le_refl _) (by omega) (λi j hij hj=>by omega)))
 obtain⟨h1,h3,u,st⟩:=h
 by_cases e:r=n
 ·subst e
  rw [if_pos (by simp)]
  exact⟨h1,Nat.le_refl _,hp,u⟩
 ·rw [if_neg (by simpa using e)]
  by_cases hr:r>1
  ·rw [if_pos hr]
   refine⟨hp.lt 0 (by omega),hp.lt (r-1) (by omega),?_⟩
   rw [u 0 (r-1) (by omega) (by omega)]
   exact⟨h1,by omega,hp,u⟩
  ·rw [if_neg hr]
   have er:r=1:=by omega
   subst er
   have s1:=st (by omega)
   have d:Dn c p 2:=λi j hij hj=>by
    have ei:i=0:=by omega
    have ej:j=1:=by omega
    subst ei;subst ej
    exact s1
   refine KW.bind (KW.mono (λr h=>?_) (zbR O hp (n-2) 2 (by omega) (by omega) d))
   obtain⟨a1,a2,a3,a4,a5⟩:=h
   obtain⟨q,m,z⟩:=r
   simp only at a1 a2 a3 a4 a5
   subst a1;subst a2
   show KW c n (if 0>0 then _ else _) _
   rw [if_neg (Nat.lt_irrefl 0)]
   exact zcM O hp (show 1<=m by omega) (show m<=n by omega) a5
theorem U4 (O:Ord c n) {p:Array Nat} (hp:Pm n p) {k:Nat} (hk:k<n) (u:Up c p k):∀ (f l r:Nat),l<=r->r<=k->r-l<=f->(∀ i,i<l->c (p.getD i 0) (p.getD k 0)=true)->(∀ i,r<=i->i<k->c (p.getD k 0) (p.getD i 0)=true) ->
  KW c n (kas_place p k f l r) (λl=>l<=k/\(∀ i,i<l->c (p.getD i 0) (p.getD k 0)=true)/\(∀ i,l<=i->i<k->c (p.getD k 0) (p.getD i 0)=true))
 | 0,l,r,h1,h2,h3,lo,hi=>⟨by omega,lo,λi a b=>hi i (by omega) b⟩
 | f+1,l,r,h1,h2,h3,lo,hi=>by
  unfold kas_place
  by_cases hlr:l>=r
  ·rw [if_pos hlr]
   exact⟨by omega,lo,λi a b=>hi i (by omega) b⟩
  ·rw [if_neg hlr]
   have hm:(l+r) / 2<k:=by omega
   refine⟨hp.lt k hk,hp.lt _ (by omega),?_⟩
   cases e:c (p.getD k 0) (p.getD ((l+r) / 2) 0) with
   | true =>
    dsimp only
    rw [if_pos rfl]
    refine U4 O hp hk u f l ((l+r) / 2) (by omega) (by omega) (by omega) lo λi a b=>?_
    by_cases ei:i=(l+r) / 2
    ·rw [ei];exact e
    ·exact O.tr _ _ _ (hp.lt k hk) (hp.lt _ (by omega)) (hp.lt i (by omega)) e (u _ _ (by omega) b)
   | false =>
    dsimp only
    rw [if_neg Bool.false_ne_true]
    have hs:c (p.getD ((l+r) / 2) 0) (p.getD k 0)=true:=O.tot _ _ (hp.lt k hk) (hp.lt _ (by omega)) (hp.ne hk (by omega) (by omega)) e
    refine U4 O hp hk u f ((l+r) / 2+1) r (by omega) h2 (by omega) (λi a=>?_) hi
    by_cases ei:i=(l+r) / 2
    ·rw [ei];exact hs
    ·exact O.tr _ _ _ (hp.lt i (by omega)) (hp.lt _ (by omega)) (hp.lt k hk) (u _ _ (by omega) (by omega)) hs
theorem zaM {p:Array Nat} {k l:Nat} (hk:k<p.size) (hl:l<=k) (i:Nat):(bubble p k (k-l)).getD i 0=if i=l then p.getD k 0 else if l<i/\i<=k then p.getD (i-1) 0 else p.getD i 0:=by
 have q:=getElem?_bubble hk (k-l) (by omega) i
 have e:∀ (a:Array Nat) (j:Nat),a.getD j 0=(a[j]?).getD 0:=λa j=>by simp [Array.getD_eq_getD_getElem?]
 rw [show k-(k-l)=l by omega] at q
 rw [e,e p k,e p (i-1),e p i,q]
 split
 ·rfl
 ·split
  ·rfl
  ·rfl
theorem zdg (O:Ord c n):∀ (f:Nat) {p:Array Nat} {k:Nat},Pm n p->1<=k->k+f=n->Up c p k->KW c n (kas_bin f p k) (λq=>Pm n q/\Up c q n)
 | 0,p,k,hp,h1,h2,u=>by
  have:k=n:=by omega
  subst this
  exact⟨hp,u⟩
 | f+1,p,k,hp,h1,h2,u=>by
  refine KW.bind (KW.mono (λl h=>?_) (U4 O hp (show k<n by omega) u k 0 k (Nat.zero_le _) (Nat.le_refl _) (by omega) (λi hi=>by omega) (λi a b=>by omega)))
  obtain⟨hlk,lo,hi⟩:=h
  have hks:k<p.size:=by rw [hp.sz];omega
  refine zdg O f (hp.of (bubble_perm _ _ _)) (by omega) (by omega) λi j hij hj=>?_
  rw [zaM hks hlk,zaM hks hlk]
  by_cases hi1:i=l
  ·rw [if_pos hi1,if_neg (by omega),if_pos (by omega)]
   exact hi _ (by omega) (by omega)
  ·rw [if_neg hi1]
   by_cases hi2:l<i/\i<=k
   ·rw [if_pos hi2,if_neg (by omega),if_pos (by omega)]
    exact u _ _ (by omega) (by omega)
   ·rw [if_neg hi2]
    by_cases hj1:j=l
    ·rw [if_pos hj1]
     exact lo _ (by omega)
    ·rw [if_neg hj1]
     by_cases hj2:l<j/\j<=k
     ·rw [if_pos hj2]
      exact u _ _ (by omega) (by omega)
     ·rw [if_neg hj2]
      exact u _ _ (by omega) (by omega)
theorem zeL (O:Ord c n) (h2:2<=n):KW c n (kas_sort n) (λp=>Pm n p/\Up c p n):=by
 have h0:Pm n (List.toArray (List.range n)):=⟨by simp,by simp⟩
 refine KW.bind (KW.mono (λr h=>?_) (zdb O h0 h2))
 obtain⟨h1,h3,hp,u⟩:=h
 by_cases hr:r.1<n
 ·rw [if_pos hr,Nat.max_eq_left h1]
  exact zdg O _ hp h1 (by omega) u
 ·rw [if_neg hr]
  have:r.1=n:=by omega
  rw [this] at u
  exact⟨hp,u⟩
end
section
variable {prog:Program} {w:World} {A:Around} {E:Value->Shared->Prop} {s:Shared}
theorem zfI {l b:Addr} {items items2:Array Value} {ns ms:List Int} {Q:Bool->Shared->Prop} (hl:s.heap.IsList l items) (hb:s.heap.IsList b items2) (hi:IntsAre items.toList ns) (hj:IntsAre items2.toList ms) (hu:A.units+1<cLine)
  (h:Q (lexLt ns ms) s):wpAny (model prog w) A (keyLt' oneType' (.ref l) (.ref b)) Q E s:=by
 obtain⟨⟨cls,dd,data,sl⟩,ho,hc,n,hd⟩:=id hl
 obtain⟨⟨cls2,dd2,data2,sl2⟩,ho2,hc2,n2,hd2⟩:=id hb
 simp only at hc hd hc2 hd2
 subst hc hd hc2 hd2
 rw [keyLt'_oneType,oneLt'_eq]
 simp only [if_true]
 refine wpAny_bind (wpAny_cRoomFor (by omega) (wpAny_bind (wpAny_callSpecialIfBound?_slot (T:="list") (name:="__lt__") ⟨_,ho,rfl⟩ PySem.F.slot_list_lt
  (call_meets PySem.F.slot_list_lt ⟨_,ho,rfl⟩ PySem.F.entry_list_lt (PySem.F.args_list_lt_2 _ _) (XC l b items items2 n n2 dd dd2 sl sl2 ns ms hi hj) ⟨ho,ho2,?_⟩))))
 exact wpAny_truthy_bool h
theorem Wy {α:Type} (d:α) (zs:List α) {p:List Nat} (h:p.Perm (List.range zs.length)):(p.map λi=>zs.getD i d).Perm zs:=by
 have e:(List.range zs.length).map (λi=>zs.getD i d)=zs:=by
  apply List.ext_getElem?
  intro i
  rw [List.getElem?_map]
  by_cases hi:i<zs.length
  ·rw [List.getElem?_range hi,Option.map_some,List.getD_eq_getElem?_getD,List.getElem?_eq_getElem hi];rfl
  ·rw [List.getElem?_eq_none (by simpa using hi),List.getElem?_eq_none (by omega)];rfl
 have q:=h.map λi=>zs.getD i d
 rw [e] at q
 exact q
theorem za6 {a:Addr} {zs:ZB} {n0:Nat} {P:Fin->Shared->Prop} (ho:s.heap.get? a=some (seqObj "list" (zs.map λz=>Value.ref z.1).toArray n0))
  (hz:∀ z∈zs,z.1≠a/\∃ its:List Value,s.heap.IsList z.1 its.toArray/\IntsAre its z.2) (nd:(zs.map (·.2)).Nodup) (h4:zs.length<=4) (hu:A.units+1<cLine)
  (h:∀ zs':ZB,zs'.Perm zs->zs'.Pairwise (λx y=>lexLt x.2 y.2=true)->P (.done (.ret .none)) { s with heap:=sortedHeap s.heap a (zs.map λz=>Value.ref z.1) (zs'.map λz=>Value.ref z.1).toArray }) :
  wpAny (model prog w) A (Builtin.«list.sort» ⟨[.ref a],[]⟩) P E s:=by
 rw [list_sort_plain]
 generalize hvs:(zs.map λz=>Value.ref z.1)=vs at ho h ⊢
 have hvl:vs.length=zs.length:=by rw [<- hvs,List.length_map]
 have hsl:vs.length<=sizeLine:=by rw [hvl,sizeLine_eq];omega
 have ha:a<s.heap.objs.size:=Heap.lt_size ho
 obtain⟨e1,ho1⟩:∃ e1,(s.heap.update a (Obj.mapSeq λ_=>#[])).get? a=some (seqObj "list" #[] e1):=⟨_,get?_update_seq ho (λ_=>#[])⟩
 refine wpAny_bind (listItems_at ho rfl (wpAny_bind (listUpdate_at ho rfl (wpAny_bind (seqEpoch_at ho1 rfl (wpAny_bind (wpAny_newTuple (wpAny_bind (wpAny_newList (wpAny_holding ?_) (Nat.zero_le _))) (by show vs.length<=_;exact hsl))))) (by rw [List.size_toArray];exact hsl) (Nat.zero_le _))))
 generalize hG:(((s.heap.update a (Obj.mapSeq λ_=>(#[]:Array Value))).push (seqObj "tuple" vs.toArray 0)).push (seqObj "list" #[] 0))=G
 have ho6:G.get? a=some (seqObj "list" #[] e1):=by
  rw [<- hG,Heap.get?_push_ne _ _ _ (by rw [size_push',Heap.size_update];exact Nat.ne_of_lt (Nat.lt_succ_of_lt ha)),Heap.get?_push_ne _ _ _ (by rw [Heap.size_update];exact Nat.ne_of_lt ha)];exact ho1
 have keep:∀ b o,b≠a->s.heap.get? b=some o->G.get? b=some o:=λb o hb e=>by
  have hlt:=Heap.lt_size e
  rw [<- hG,Heap.get?_push_ne _ _ _ (by rw [size_push',Heap.size_update];exact Nat.ne_of_lt (Nat.lt_succ_of_lt hlt)),Heap.get?_push_ne _ _ _ (by rw [Heap.size_update];exact Nat.ne_of_lt hlt),Heap.get?_update_other _ _ (Ne.symm hb)];exact e
 show wpAny (model prog w) A _ P E { s with heap:=G }
 dsimp only
 by_cases h2:vs.toArray.size<2
 ·rw [if_pos h2,if_pos h2]
  refine wpAny_bind (wpAny_pure ?_)
  rw [StateT.run_pure]
  refine wpAny_bind (wpAny_pure ?_)
  dsimp only
  have hout:(arrOf (SortSt.mk' general' (vs.toArray.zip vs.toArray) #[] 7 none)).map (·.2)=vs.toArray:=by
   show (vs.toArray.zip vs.toArray).map (·.2)=vs.toArray
   apply Array.toList_inj.mp
   rw [Array.toList_map,Array.toList_zip,List.map_snd_zip (by simp)]
  rw [hout]
  refine wpAny_bind (seqEpoch_at ho6 rfl (wpAny_bind (listUpdate_at ho6 rfl ?_ (Nat.zero_le _) (by rw [List.size_toArray];exact Nat.le_succ_of_le hsl))))
  have q:=h zs (List.Perm.refl _) (by
   rw [List.size_toArray,hvl] at h2
   match zs,h2 with
   | [],_=>exact .nil
   | [_],_=>exact List.pairwise_singleton _ _)
  rw [hvs] at q
  simp only [bne_self_eq_false,Bool.false_eq_true,if_false]
  have e2:G.update a (Obj.mapSeq λ_=>vs.toArray)=sortedHeap s.heap a vs vs.toArray:=by rw [<- hG];rfl
  rw [e2]
  exact wpAny_pure q
 ·rw [if_neg h2,if_neg h2]
  rw [List.size_toArray,hvl] at h2
  have ls2:(zs.map (·.2)).length=zs.length:=List.length_map ..
  obtain⟨hkin,hok⟩:=zeC nd (by rw [ls2];omega) (by rw [ls2];exact h4)
  rw [ls2] at hkin hok
  generalize hcd:(λi j=>lexLt ((zs.map (·.2)).getD i []) ((zs.map (·.2)).getD j []))=c at hok
  have gz:∀ i,i<zs.length->vs.getD i Value.none=.ref (zs.getD i (0,[])).1/\(zs.map (·.2)).getD i []=(zs.getD i (0,[])).2/\zs.getD i (0,[])∈zs:=λi hi=>by
   have e:zs.getD i (0,[])=zs[i]:=by rw [List.getD_eq_getElem?_getD,List.getElem?_eq_getElem hi];rfl
   rw [e]
   refine⟨?_,?_,List.getElem_mem _⟩
   ·rw [<- hvs,List.getD_eq_getElem?_getD,List.getElem?_map,List.getElem?_eq_getElem hi];rfl
   ·rw [List.getD_eq_getElem?_getD,List.getElem?_map,List.getElem?_eq_getElem hi];rfl
  refine wpAny_bind (kas_kind (T:=.type "list") (by rw [hvl];omega) (λv hv=>?_) (by decide) (by decide) ?_)
  ·rw [<- hvs] at hv
   obtain⟨z,hzm,rfl⟩:=List.mem_map.mp hv
   obtain⟨hza,its,hl,_⟩:=hz z hzm
   obtain⟨o,e,hcl,_⟩:=hl
   intro A' Q' E' s' k q
   exact wpAny_typeOf (T:="list") ⟨o,k _ _ (keep _ _ hza e),hcl⟩ q
  have est:SortSt.mk' oneType' (vs.toArray.zip vs.toArray) #[] 7 none=kas_st oneType' (pairsOf vs) (List.toArray (List.range vs.length)):=by
   have e:=kas_range (pairsOf vs)
   rw [pairsOf_size] at e
   unfold kas_st;rw [e];rfl
  have ask:(kas_sort vs.length).kasWp (kas_cmp prog w A oneType' (pairsOf vs)) (λp s'=>s'={ s with heap:=G }/\p=WF c (kas_sort zs.length)) { s with heap:=G }:=by
   rw [hvl,<- kas_ask_eq]
   refine Jh (n:=zs.length) (c:=c) (λi j C hi hj hC=>?_) _ hkin ⟨rfl,rfl⟩
   obtain⟨a1,a2,a3⟩:=gz i hi
   obtain⟨b1,b2,b3⟩:=gz j hj
   obtain⟨hza,its,hl,hI⟩:=hz _ a3
   obtain⟨hzb,its2,hl2,hI2⟩:=hz _ b3
   unfold kas_ask
   rw [a1,b1]
   refine zfI (s:={ s with heap:=G }) (hl.at λo e=>keep _ o hza e) (hl2.at λo e=>keep _ o hzb e) (by simpa using hI) (by simpa using hI2) hu ?_
   rw [<- hcd] at hC
   simp only [a2,b2] at hC
   exact hC
  have run:=kas_runs (E:=E) (Q:=λ_ st' s'=>s'={ s with heap:=G }/\arrOf st'=(WF c (kas_sort zs.length)).map (kas_item (pairsOf vs))/\failedOf st'=none) (by rw [hvl];omega) (by rw [hvl];omega)
   (λp' st' s' a1 a2 a3 a4=>⟨a4.1,by rw [a2,a4.2],a3⟩) ask
  rw [<- est] at run
  refine wpAny_bind (wpAny_mono run ?_ λ_ _ e=>e)
  rintro⟨⟨⟩,st'⟩ s' ⟨rfl,har,hf⟩
  dsimp only
  generalize hp:WF c (kas_sort zs.length)=p at har hok
  have hout:(arrOf st').map (·.2)=((p.toList.map λi=>zs.getD i (0,[])).map λz=>Value.ref z.1).toArray:=by
   apply Array.toList_inj.mp
   rw [har,Array.map_map,Array.toList_map,List.map_map]
   refine List.map_congr_left λi hi=>?_
   show (kas_item (pairsOf vs) i).2=_
   rw [kas_item_eq]
   unfold YK at hok
   rw [Bool.and_eq_true] at hok
   exact (gz i (List.mem_range.mp ((List.isPerm_iff.mp hok.1).mem_iff.mp hi))).1
  rw [hout]
  have pm:p.toList.Perm (List.range zs.length):=by
   unfold YK at hok
   rw [Bool.and_eq_true] at hok
   exact List.isPerm_iff.mp hok.1
  have q:=h (p.toList.map λi=>zs.getD i (0,[])) (Wy _ zs pm) (by
   rw [List.pairwise_map,List.pairwise_iff_getElem]
   intro i j hi hj hij
   have hpl:p.toList.length=zs.length:=by rw [pm.length_eq,List.length_range]
   unfold YK at hok
   simp only [Bool.and_eq_true,List.all_eq_true,List.mem_range] at hok
   have q1:=hok.2 i (by omega) j (by omega)
   rw [decide_eq_true hij] at q1
   have e1:p.toList.getD i 0=p.toList[i]:=by rw [List.getD_eq_getElem?_getD,List.getElem?_eq_getElem hi];rfl
   have e2:p.toList.getD j 0=p.toList[j]:=by rw [List.getD_eq_getElem?_getD,List.getElem?_eq_getElem hj];rfl
   rw [e1,e2,<- hcd] at q1
   have m1:=List.mem_range.mp (pm.mem_iff.mp (List.getElem_mem hi))
   have m2:=List.mem_range.mp (pm.mem_iff.mp (List.getElem_mem hj))
   rw [<- (gz _ m1).2.1,<- (gz _ m2).2.1]
   simpa using q1)
  have hol:((p.toList.map λi=>zs.getD i (0,[])).map λz=>Value.ref z.1).length=zs.length:=by rw [List.length_map,List.length_map,pm.length_eq,List.length_range]
  refine wpAny_bind (seqEpoch_at ho6 rfl (wpAny_bind (listUpdate_at ho6 rfl ?_ (Nat.zero_le _) (by rw [List.size_toArray,hol];rw [hvl] at hsl;exact Nat.le_succ_of_le hsl))))
  rw [hf]
  simp only [bne_self_eq_false,Bool.false_eq_true,if_false]
  have e2:∀ out:Array Value,G.update a (Obj.mapSeq λ_=>out)=sortedHeap s.heap a vs out:=λout=>by rw [<- hG];rfl
  rw [e2]
  exact wpAny_pure q
theorem zeJ {l:Addr} {zs:ZB} {Q:Value->Shared->Prop} (hl:s.heap.IsList l (zs.map λz=>Value.ref z.1).toArray) (hz:∀ z∈zs,∃ its:List Value,s.heap.IsList z.1 its.toArray/\IntsAre its z.2) (nd:(zs.map (·.2)).Nodup) (h4:zs.length<=4) (hu:A.units+8<cLine)
  (h:∀ zs':ZB,zs'.Perm zs->zs'.Pairwise (λx y=>lexLt x.2 y.2=true)->Q (.ref (s.heap.objs.size+1)) { s with heap:=sortedAll s.heap (zs.map λz=>Value.ref z.1) (zs'.map λz=>Value.ref z.1).toArray }) :
  wpAny (model prog w) A (call (.builtin "sorted") [.ref l]) Q E s:=by
 have hsl:(zs.map λz=>Value.ref z.1).length<=sizeLine:=by rw [List.length_map,sizeLine_eq];omega
 refine Calls.call_function_entry kind_sorted plain_sorted entry_sorted (args_sorted1 _) ?_
 unfold Builtin.«sorted»
 refine wpAny_bind (m:=checkCount "sorted" 1 1 _) (wpAny_pure (wpAny_bind (collect_list hl (wpAny_bind (wpAny_newList ?_ hsl)) hsl)))
 generalize hB:(s.heap.push (seqObj "list" #[] 0)).update s.heap.objs.size (Obj.mapSeq (·++(zs.map λz=>Value.ref z.1).toArray))=B
 have hsz:B.objs.size=s.heap.objs.size+1:=by rw [<- hB,Heap.size_update,size_push']
 have keep:∀ b o,s.heap.get? b=some o->(B.push (seqObj "list" (zs.map λz=>Value.ref z.1).toArray 0)).get? b=some o:=λb o q=>by
  have hlt:b<s.heap.objs.size:=Heap.lt_size q
  rw [Heap.get?_push_ne _ _ _ (by rw [hsz];exact Nat.ne_of_lt (Nat.lt_succ_of_lt hlt)),<- hB,Heap.get?_update_ne _ _ _ _ (Nat.ne_of_lt hlt),Heap.get?_push_ne _ _ _ (Nat.ne_of_lt hlt)];exact q
 have hoL:(B.push (seqObj "list" (zs.map λz=>Value.ref z.1).toArray 0)).get? (s.heap.objs.size+1)=some (seqObj "list" (zs.map λz=>Value.ref z.1).toArray 0):=by
  rw [<- hsz];exact Heap.get?_push_size _ rfl
 show wpAny _ _ _ _ _ { s with heap:=B.push (seqObj "list" (zs.map λz=>Value.ref z.1).toArray 0) }
 dsimp only
 rw [hsz]
 refine wpAny_bind (wpAny_holding (wpAny_call_entry slot_list_sort ⟨_,hoL,rfl⟩ entry_list_sort (za6 (A:=A.in1.in1) (s:={ s with heap:=B.push (seqObj "list" (zs.map λz=>Value.ref z.1).toArray 0) }) hoL (λz hzm=>?_) nd h4 (by show A.units+1+1+1<cLine;omega) λzs' a1 a2=>⟨_,rfl,?_⟩) (args_list_sort _)))
 ·obtain⟨its,hl',hI⟩:=hz z hzm
  obtain⟨o,e,_⟩:=id hl'
  exact⟨Nat.ne_of_lt (Nat.lt_succ_of_lt (Heap.lt_size e)),its,hl'.at λo e=>keep _ o e,hI⟩
 ·have q:=h zs' a1 a2
  have e2:sortedHeap (B.push (seqObj "list" (zs.map λz=>Value.ref z.1).toArray 0)) (s.heap.objs.size+1) (zs.map λz=>Value.ref z.1) (zs'.map λz=>Value.ref z.1).toArray=sortedAll s.heap (zs.map λz=>Value.ref z.1) (zs'.map λz=>Value.ref z.1).toArray:=by rw [<- hB];rfl
  show wpAny _ _ _ _ _ { s with heap:=sortedHeap (B.push (seqObj "list" (zs.map λz=>Value.ref z.1).toArray 0)) (s.heap.objs.size+1) (zs.map λz=>Value.ref z.1) (zs'.map λz=>Value.ref z.1).toArray }
  rw [e2]
  exact wpAny_pure ⟨_,rfl,q⟩
end
end HT
namespace L2
open PySem PySem.Spec PyProof.Rows
section
variable {X:Cx}
def zfx (K:W.Frag):List V->Hp->VK->Prop:=λxs H Q=>∃ (a:Addr) (zs:ZB),xs=[.ref a]/\SqL K H a (zs.map λz=>V.ref z.1)/\zs.length<=4/\(∀ z∈zs,SqL K H z.1 (z.2.map V.int))/\(zs.map (·.2)).Nodup /\
 ∀ (p:Addr) (zs':ZB),H p=none->zs'.Perm zs->zs'.Pairwise (λx y=>HT.lexLt x.2 y.2=true)->Q (.ref p) (upd H p (.lst (zs'.map λz=>V.ref z.1)))
theorem Wv:∀ {zs:ZB} {its:List Value},Vals (zs.map λz=>V.ref z.1) its->its=zs.map λz=>Value.ref z.1
 | [],its,h=>by cases h;rfl
 | z :: zs,its,h=>by
  cases h with
  | cons r t=>rw [Wv t];cases r;rfl
theorem Yw:∀ (zs:ZB),Vals (zs.map λz=>V.ref z.1) (zs.map λz=>Value.ref z.1)
 | []=>.nil
 | z :: zs=>.cons rfl (Yw zs)
theorem zel (K:W.Frag) (hu:X.A.units+64<cLine) (e:X.K=K:=by rfl):wR X (.builtin "sorted") (zfx K):=by
 subst e
 intro pins s Z H xs us Q I r h
 obtain⟨a,zs,rfl,ha,h4,hz,nd,q⟩:=h
 obtain⟨u,rfl,rx⟩:=vals1 r
 cases rx
 obtain⟨its,r1,p1,_⟩:=I.list ha
 have e1:=Wv r1
 subst e1
 refine HT.zeJ p1.isList (λz hzm=>?_) nd h4 (by omega) λzs' pm pw=>?_
 ·obtain⟨its,r2,p2,_⟩:=I.list (hz z hzm)
  exact⟨its,p2.isList,by simpa using intsAre_of r2⟩
 ·obtain⟨c,hat⟩:=sortedAll_at s.heap (zs.map λz=>Value.ref z.1) (zs'.map λz=>Value.ref z.1).toArray
  have hfree:H (s.heap.objs.size+1)=none:=I.hok.fresh (Nat.le_succ _)
  refine⟨.ref (s.heap.objs.size+1),_,I.laid (t':=s.toks) (o:=.lst (zs'.map λz=>V.ref z.1)) (λb o e=>sortedAll_old e) (Nat.le_succ _) ?_,rfl,q _ zs' hfree pm pw⟩
  exact⟨by rw [List.length_map,pm.length_eq];exact Nat.le_trans h4 (by decide),_,c,Yw zs',hat⟩
end
section
variable {κ:Type} [DecidableEq κ]
def Vd (kvs:List (κ×V)) (k:κ):Option V:=(kvs.find? λkv=>decide (kv.1=k)).map (·.2)
def putK (kvs:List (κ×V)) (k:κ) (v:V):List (κ×V) :=
 if (kvs.any λkv=>decide (kv.1=k))=true then kvs.map (λkv=>if kv.1=k then (kv.1,v) else kv) else kvs++[(k,v)]
def zeN (kvs:List (κ×V)) (k:κ):List (κ×V):=kvs.filter λkv=>decide (kv.1≠k)
theorem Ud {p:κ×V} {r:List (κ×V)} {k:κ} (e:p.1=k):Vd (p :: r) k=some p.2:=by simp [Vd,List.find?_cons,e]
theorem Vz {p:κ×V} {r:List (κ×V)} {k:κ} (e:¬ p.1=k):Vd (p :: r) k=Vd r k:=by simp [Vd,List.find?_cons,e]
theorem zaL (k:κ):∀ kvs:List (κ×V),(kvs.any λkv=>decide (kv.1=k))=(Vd kvs k).isSome
 | []=>rfl
 | p :: r=>by
  rw [List.any_cons]
  by_cases e:p.1=k
  ·simp only [Ud e,decide_eq_true e,Bool.true_or,Option.isSome_some]
  ·rw [Vz e,decide_eq_false e,Bool.false_or];exact zaL k r
theorem WT (kvs:List (κ×V)) (k:κ) (v:V):(putK kvs k v).length<=kvs.length+1:=by
 unfold putK
 split
 ·rw [List.length_map];omega
 ·rw [List.length_append,List.length_cons,List.length_nil];omega
theorem RelO.isSome_eq {o:Option V} {u:Option Value} (r:RelO o u):o.isSome=u.isSome:=by
 cases o with
 | none=>cases u with
  | none=>rfl
  | some _=>exact (show False from r).elim
 | some _=>cases u with
  | none=>exact (show False from r).elim
  | some _=>rfl
theorem RelO.getD {o:Option V} {u:Option Value} {d:V} {d':Value} (r:RelO o u) (rd:RelV d d'):RelV (o.getD d) (u.getD d'):=by
 cases o with
 | none=>cases u with
  | none=>exact rd
  | some _=>exact (show False from r).elim
 | some _=>cases u with
  | none=>exact (show False from r).elim
  | some _=>exact r
theorem KV.val {kvs:List (κ×V)} {vs:List (κ×Value)} (r:KV kvs vs) (k:κ):RelO (Vd kvs k) (valueAt vs k):=by
 unfold KV at r
 induction r with
 | nil=>exact True.intro
 | @cons p q ps qs h t ih =>
  obtain⟨h1,h2⟩:=h
  by_cases e:p.1=k
  ·have e':q.1=k:=h1.symm.trans e
   have b:valueAt (q :: qs) k=some q.2:=by simp [valueAt,List.find?_cons,e']
   rw [Ud e,b];exact h2
  ·have e':¬ q.1=k:=λz=>e (h1.trans z)
   have b:valueAt (q :: qs) k=valueAt qs k:=by simp [valueAt,List.find?_cons,e']
   rw [Vz e,b];exact ih
theorem KV.any {kvs:List (κ×V)} {vs:List (κ×Value)} (r:KV kvs vs) (k:κ):(kvs.any λkv=>decide (kv.1=k))=vs.any λkv=>decide (kv.1=k):=by
 unfold KV at r
 induction r with
 | nil=>rfl
 | cons h t ih=>rw [List.any_cons,List.any_cons,ih,h.1]
theorem KV.repl {kvs:List (κ×V)} {vs:List (κ×Value)} (r:KV kvs vs) (k:κ) {y:V} {u:Value} (ry:RelV y u) :
  KV (kvs.map λkv=>if kv.1=k then (kv.1,y) else kv) (vs.map λkv=>if kv.1=k then (kv.1,u) else kv):=by
 unfold KV at r ⊢
 induction r with
 | nil=>exact .nil
 | @cons p q ps qs h t ih =>
  rw [List.map_cons,List.map_cons]
  refine .cons ?_ ih
  obtain⟨h1,h2⟩:=h
  by_cases e:p.1=k
  ·rw [if_pos e,if_pos (h1.symm.trans e)];exact⟨h1,ry⟩
  ·rw [if_neg e,if_neg (λz=>e (h1.trans z))];exact⟨h1,h2⟩
theorem KV.put {kvs:List (κ×V)} {vs:List (κ×Value)} (r:KV kvs vs) (k:κ) {y:V} {u:Value} (ry:RelV y u):KV (putK kvs k y) (stored vs k u):=by
 unfold putK stored
 rw [r.any k]
 by_cases e:(vs.any λkv=>decide (kv.1=k))=true
 ·rw [if_pos e,if_pos e];exact r.repl k ry
 ·rw [if_neg e,if_neg e];exact Paired.snoc r ⟨rfl,ry⟩
theorem KV.drop {kvs:List (κ×V)} {vs:List (κ×Value)} (r:KV kvs vs) (k:κ):KV (zeN kvs k) (without vs k):=by
 unfold KV at r ⊢
 unfold zeN without
 induction r with
 | nil=>exact .nil
 | @cons p q ps qs h t ih =>
  obtain⟨h1,h2⟩:=h
  rw [List.filter_cons,List.filter_cons]
  by_cases e:p.1=k
  ·have a:¬ decide (p.1≠k)=true:=by simp [e]
   have b:¬ decide (q.1≠k)=true:=by simp [h1.symm.trans e]
   rw [if_neg a,if_neg b];exact ih
  ·have e':¬ q.1=k:=λz=>e (h1.trans z)
   have a:decide (p.1≠k)=true:=by simp [e]
   have b:decide (q.1≠k)=true:=by simp [e']
   rw [if_pos a,if_pos b];exact .cons ⟨h1,h2⟩ ih
theorem KV.length {kvs:List (κ×V)} {vs:List (κ×Value)} (r:KV kvs vs):kvs.length=vs.length:=Paired.length r
end
theorem zeZ {P:Program} {w:World} {k:Key} {u:Value} (r:RelV (kV k) u):(xK P w).is k u=true:=by
 cases k with
 | inl i=>obtain⟨t,e⟩:=(show ∃ t,u=Value.int i t from r);subst e;exact zay P w i t
 | inr x=>obtain⟨t,e⟩:=(show ∃ t,u=Value.str x t from r);subst e;exact zaa P w x t
theorem QX {P:Program} {w:World}:∀ {ks:List Key} {us:List Value},Vals (ks.map kV) us->ItemsAre (xK P w) ks us
 | [],_,r=>by rw [List.map_nil] at r;cases r;exact .nil
 | k :: ks,_,r=>by
  rw [List.map_cons] at r
  cases r with
  | cons h t=>exact .cons (zeZ h) (QX t)
abbrev KT (H:Hp):List (List Key×V)->List (List Key×Addr×Value)->Prop:=Paired λp q=>p.1=q.1/\H q.2.1=some (.tup (p.1.map kV))/\RelV p.2 q.2.2
theorem KT.val {H:Hp} {kvs:List (List Key×V)} {xs:List (List Key×Addr×Value)} (r:KT H kvs xs) (k:List Key):RelO (Vd kvs k) ((atKey xs k).map (·.2)):=by
 induction r with
 | nil=>exact True.intro
 | @cons p q ps qs h t ih =>
  obtain⟨h1,_,h2⟩:=h
  by_cases e:p.1=k
  ·have e':q.1=k:=h1.symm.trans e
   have b:atKey (q :: qs) k=some q.2:=by simp [atKey,List.find?_cons,e']
   rw [Ud e,b];exact h2
  ·have e':¬ q.1=k:=λz=>e (h1.trans z)
   have b:atKey (q :: qs) k=atKey qs k:=by simp [atKey,List.find?_cons,e']
   rw [Vz e,b];exact ih
theorem KT.repl {H:Hp} {kvs:List (List Key×V)} {xs:List (List Key×Addr×Value)} (r:KT H kvs xs) (k:List Key) {y:V} {u:Value} (ry:RelV y u) :
  KT H (kvs.map λkv=>if kv.1=k then (kv.1,y) else kv) (xs.map (putAt k u)):=by
 induction r with
 | nil=>exact .nil
 | @cons p q ps qs h t ih =>
  rw [List.map_cons,List.map_cons]
  refine .cons ?_ ih
  obtain⟨h1,h2,h3⟩:=h
  unfold putAt
  by_cases e:p.1=k
  ·rw [if_pos e,if_pos (h1.symm.trans e)];exact⟨h1,h2,ry⟩
  ·rw [if_neg e,if_neg (λz=>e (h1.trans z))];exact⟨h1,h2,h3⟩
theorem KT.put {H:Hp} {kvs:List (List Key×V)} {xs:List (List Key×Addr×Value)} (r:KT H kvs xs) (k:List Key) {b:Addr} {y:V} {u:Value} (hb:H b=some (.tup (k.map kV))) (ry:RelV y u) :
  KT H (putK kvs k y) (storedH xs k b u):=by
 have e:(kvs.any λkv=>decide (kv.1=k))=(atKey xs k).isSome:=by
  rw [zaL,(r.val k).isSome_eq,Option.isSome_map]
 unfold putK storedH
 rw [e]
 by_cases q:(atKey xs k).isSome=true
 ·rw [if_pos q,if_pos q];exact r.repl k ry
 ·rw [if_neg q,if_neg q];exact Paired.snoc r ⟨rfl,hb,ry⟩
theorem KT.keeps {H H':Hp} {kvs:List (List Key×V)} {xs:List (List Key×Addr×Value)} (r:KT H kvs xs) (ht:∀ b ys,H b=some (.tup ys)->H' b=some (.tup ys)):KT H' kvs xs :=
 Paired.mapP r λ_ _ z=>⟨z.1,ht _ _ z.2.1,z.2.2⟩
section
variable {P:Program} {w:World} {H:Hp} {h:Heap} {a:Addr}
theorem zeX {u:HO} (ok:HOk P w H h) (e:Rd H a u):ObjOk P w H h a u:=e.ok ok
theorem zf5 {kvs:List (Key×V)} (ok:HOk P w H h) (e:Rd H a (.dK kvs)):kvs.length<=sizeLine/\(a == sysModules)=false/\∃ vs,KV kvs vs/\h.DictOf (xK P w) a vs :=
 show ObjOk P w H h a (.dK kvs) from zeX ok e
theorem zfZ {kvs:List (Key×V)} (ok:HOk P w H h) (e:H a=some (.dK kvs)):kvs.length<=sizeLine/\(a == sysModules)=false/\∃ vs,KV kvs vs/\h.DictOf (xK P w) a vs:=zf5 ok (.inl e)
theorem zcW {ks:List Key} (ok:HOk P w H h) (e:H a=some (.tup (ks.map kV))):(tupleKind (xK P w)).is h ks a:=by
 obtain⟨_,its,r,o,h1,h2,n,h3⟩:=(show ObjOk P w H h a (.tup (ks.map kV)) from ok a _ e)
 exact⟨o,its.toArray,n,h1,h2,h3,by simpa using QX r⟩
theorem zf8 {kvs:List (List Key×V)} (ok:HOk P w H h) (e:Rd H a (.dT kvs)):kvs.length<=sizeLine/\(a == sysModules)=false /\
  ∃ xs,KT H kvs xs/\h.DictOfH (tupleKind (xK P w)) a xs:=by
 obtain⟨z,y,xs,r,o,es,ep,h1,h2,h3,h4,h5⟩:=(show ObjOk P w H h a (.dT kvs) from zeX ok e)
 refine⟨z,y,xs,r,o,es,ep,h1,h2,h3,h4,λx hx=>?_,h5⟩
 have all:∀ {l:List (List Key×V)} {m:List (List Key×Addr×Value)},KT H l m->∀ x∈m,(tupleKind (xK P w)).is h x.1 x.2.1:=by
  intro l m q
  induction q with
  | nil=>intro x hx;exact nomatch hx
  | @cons p q ps qs hq t ih =>
   intro x hx
   rcases List.mem_cons.mp hx with e | hx
   ·subst e
    exact zcW ok (by rw [<- hq.1];exact hq.2.1)
   ·exact ih x hx
 exact all r x hx
theorem zeP {kvs:List (List Key×V)} (ok:HOk P w H h) (e:H a=some (.dT kvs)):kvs.length<=sizeLine/\(a == sysModules)=false /\
  ∃ xs,KT H kvs xs/\h.DictOfH (tupleKind (xK P w)) a xs:=zf8 ok (.inl e)
end
def DGet (H:Hp) (a:Addr) (y:V) (r:Option V):Prop :=
 (∃ kvs k,Rd H a (.dK kvs)/\y=kV k/\r=Vd kvs k)\/∃ kvs k b,Rd H a (.dT kvs)/\y=.ref b/\H b=some (.tup (k.map kV))/\r=Vd kvs k
def DPut (H:Hp) (a:Addr) (y v:V) (H':Hp):Prop :=
 (∃ kvs k,H a=some (.dK kvs)/\y=kV k/\kvs.length<sizeLine/\H'=upd H a (.dK (putK kvs k v))) \/
 ∃ kvs k b,H a=some (.dT kvs)/\y=.ref b/\H b=some (.tup (k.map kV))/\kvs.length<sizeLine/\H'=upd H a (.dT (putK kvs k v))
theorem DGet.k {H:Hp} {a:Addr} {kvs:List (Key×V)} {k:Key} (e:H a=some (.dK kvs)):DGet H a (kV k) (Vd kvs k):=.inl ⟨kvs,k,.inl e,rfl,rfl⟩
theorem DGet.t {H:Hp} {a b:Addr} {kvs:List (List Key×V)} {k:List Key} (e:H a=some (.dT kvs)) (eb:H b=some (.tup (k.map kV))):DGet H a (.ref b) (Vd kvs k):=.inr ⟨kvs,k,b,.inl e,rfl,eb,rfl⟩
theorem DPut.k {H:Hp} {a:Addr} {kvs:List (Key×V)} {k:Key} {v:V} (e:H a=some (.dK kvs)) (hl:kvs.length<sizeLine):DPut H a (kV k) v (upd H a (.dK (putK kvs k v))):=.inl ⟨kvs,k,e,rfl,hl,rfl⟩
theorem DPut.t {H:Hp} {a b:Addr} {kvs:List (List Key×V)} {k:List Key} {v:V} (e:H a=some (.dT kvs)) (eb:H b=some (.tup (k.map kV))) (hl:kvs.length<sizeLine) :
  DPut H a (.ref b) v (upd H a (.dT (putK kvs k v))):=.inr ⟨kvs,k,b,e,rfl,eb,hl,rfl⟩
section
variable {X:Cx} {pins:List (Addr×Obj)} {Z:St} {H:Hp} {s:Shared} {a:Addr} {y v:V} {u r:Value} {o:Option V} {A:Around} {E:Value->Shared->Prop}
theorem Inv.big (I:Inv X pins Z H s):sysModules<s.heap.objs.size:=by
 have h:mainGlobals<s.heap.objs.size:=(I.mod.glob.keeps I.bk).lt
 exact Nat.lt_trans (by decide) h
theorem zb1 {h':Heap} {t':Nat} {ob:HO} (I:Inv X pins Z H s) (mu:Mut (H a)) (hs:Heap.SameBut a s.heap h') (he:∃ q,h'.get? a=some q) (new:ObjOk X.prog X.w (upd H a ob) h' a ob) :
  Inv X pins Z (upd H a ob) { s with heap:=h',toks:=t' } :=
 I.write (x:=a) (e:=a) mu (.inl rfl) (λb q hb z=>(hs.2 b hb).trans z) he new
theorem zfO {P:Program} {w:World} {H':Hp} {h':Heap} {kvs:List (Key×V)} {vs:List (Key×Value)} (z:kvs.length<=sizeLine) (hd:(a == sysModules)=false) (rel:KV kvs vs) (dd:h'.DictOf (xK P w) a vs) :
  ObjOk P w H' h' a (.dK kvs):=⟨z,hd,vs,rel,dd⟩
theorem zce {H':Hp} {Q:Unit->Shared->Prop} (hu:A.units+1<cLine) (I:Inv X pins Z H s) (g:DPut H a y v H') (ry:RelV y u) (rv:RelV v r) (h:∀ s',Inv X pins Z H' s'->Q () s') :
  wpAny (model X.prog X.w) A (setItem (.ref a) u r) Q E s:=by
 rcases g with ⟨kvs,k,e,ey,l,eH⟩ | ⟨kvs,k,b,e,ey,eb,l,eH⟩
 ·subst ey eH
  obtain⟨z,hd,vs,rel,dd⟩:=zfZ I.hok e
  have hz:vs.length<=sizeLine:=by rw [<- rel.length];exact z
  have hl:(putK kvs k v).length<=sizeLine:=by have:=WT kvs k v;omega
  refine wpAny_setItem_pairs (hsz:=hz) (zeZ ry) dd λh' dd' hs=>h _ ?_
  have he:∃ q,h'.get? a=some q:=let ⟨q,_,_,hq,_⟩:=dd';⟨q,hq⟩
  exact zb1 I (by rw [e];exact True.intro) hs he (zfO hl hd (rel.put k rv) dd')
 ·subst ey eH
  cases (show u=Value.ref b from ry)
  obtain⟨z,hd,xs,rel,dd⟩:=zeP I.hok e
  have hz:xs.length<=sizeLine:=by rw [<- Paired.length rel];exact z
  have hl:(putK kvs k v).length<=sizeLine:=by have:=WT kvs k v;omega
  refine wpAny_setItem_heap (hsz:=hz) (tupleKind_room_in1 hu) (zcW I.hok eb) dd λh' dd' hs=>h _ ?_
  obtain⟨q,es,ep,hq,h2,h3,h4,_,h5⟩:=dd'
  refine zb1 I (by rw [e];exact True.intro) hs ⟨q,hq⟩ ⟨hl,hd,_,(rel.put k eb rv).keeps λc ys ec=>?_,q,es,ep,hq,h2,h3,h4,h5⟩
  rw [zx (uz ec e (λz=>nomatch z))]
  exact ec
end
section
variable {X:Cx} {pins:List (Addr×Obj)} {Z:St} {H:Hp} {s:Shared} {a:Addr} {kvs:List (Key×V)} {k:Key} {u:Value} {A:Around} {E:Value->Shared->Prop}
end
def zfX (td ty tv:TE):TS:=λD Z H=>tv Z H λv H1=>td Z H1 λx H2=>ty Z H2 λy H3=>∃ a H4,x=.ref a/\DPut H3 a y v H4/\D.nx Z H4
section
variable {X:Cx} {o i e value:Expr} {pos pos' tpos:Pos} {td ty tv:TE}
theorem zeq (hu:X.A.units+1<cLine) (ho:PE X o td) (hi:PE X i ty) (hv:PE X value tv) (hs:swapsWith value (some (.Subscript o i pos')) pos.line X.env=pure false) :
  PS X (.Assign [.Subscript o i pos'] value pos) (zfX td ty tv):=by
 intro pins s Z H D I h
 refine wpAny_Assign_Subscript (thn (hv pins s Z H _ I h) λr s1 ⟨v,H1,I1,rv,q1⟩=>thn (ho pins s1 Z H1 _ I1 q1) λu s2 ⟨x,H2,I2,rx,q2⟩=>thn (hi pins s2 Z H2 _ I2 q2) λiv s3 ⟨y,H3,I3,ry,a,H4,ex,g,q3⟩=>?_) hs
 subst ex
 obtain rfl:u=Value.ref a:=rx
 exact zce hu I3 g ry rv λs4 I4=>⟨Z,H4,I4,q3⟩
end
theorem zcK {P:Program} {w:World} {H:Hp} (h:Heap) (hb:sysModules<h.objs.size):ObjOk P w H (h.push { cls:=.type "dict",data:=.dict #[] }) h.objs.size (.dK []) :=
 ⟨Nat.zero_le _,beq_eq_false_iff_ne.mpr (Ne.symm (Nat.ne_of_lt hb)),[],.nil,Heap.DictOf.new h⟩
theorem zdN {P:Program} {w:World} {H:Hp} (h:Heap) (hb:sysModules<h.objs.size):ObjOk P w H (h.push { cls:=.type "dict",data:=.dict #[] }) h.objs.size (.dT []) :=
 ⟨Nat.zero_le _,beq_eq_false_iff_ne.mpr (Ne.symm (Nat.ne_of_lt hb)),[],.nil,_,#[],0,Heap.get?_push_size _ rfl,⟨rfl,rfl,rfl⟩,rfl,rfl,List.nodup_nil⟩
def zbe:TE:=λ_ H Q=>∀ p,H p=none->Q (.ref p) (upd H p (.dK []))
def zfU:TE:=λ_ H Q=>∀ p,H p=none->Q (.ref p) (upd H p (.dT []))
section
variable {X:Cx} {pos:Pos}
theorem uT:PE X (.Dict [] [] pos) zbe:=λpins s Z H Q I h =>
 wpAny_Dict_empty ⟨.ref s.heap.objs.size,_,I.laid (a:=s.heap.objs.size) (o:=.dK []) (t':=s.toks) (λ_ _ q=>Heap.get?_push_of_some _ q) (Nat.le_refl _) (zcK s.heap I.big),rfl,h _ (I.hok.fresh (Nat.le_refl _))⟩
theorem zdu:PE X (.Dict [] [] pos) zfU:=λpins s Z H Q I h =>
 wpAny_Dict_empty ⟨.ref s.heap.objs.size,_,I.laid (a:=s.heap.objs.size) (o:=.dT []) (t':=s.toks) (λ_ _ q=>Heap.get?_push_of_some _ q) (Nat.le_refl _) (zdN s.heap I.big),rfl,h _ (I.hok.fresh (Nat.le_refl _))⟩
end
structure M1 (X:Cx) (o:Expr) (m:Str) (apos:Pos) (e:Expr) (cpos:Pos):Prop where
 base:attributeBase o m X.env (eval o X.env)=eval o X.env
 few:((backTo cpos (starEach [e] X.env)).all (λx=>!x.1) && (backToKw cpos (keywordEach [] X.env)).all (λx=>x.1.isSome)
  && decide (([e]:List Expr).length+([]:List Keyword).length+(if ([]:List Keyword).isEmpty then 0 else 1)<30))=true
 line:(apos.endLine == cpos.line)=true
 trees:backTo cpos (starEach [e] X.env)=[(false,eval e X.env)]
structure M2 (X:Cx) (o:Expr) (m:Str) (apos:Pos) (e f:Expr) (cpos:Pos):Prop where
 base:attributeBase o m X.env (eval o X.env)=eval o X.env
 few:((backTo cpos (starEach [e,f] X.env)).all (λx=>!x.1) && (backToKw cpos (keywordEach [] X.env)).all (λx=>x.1.isSome)
  && decide (([e,f]:List Expr).length+([]:List Keyword).length+(if ([]:List Keyword).isEmpty then 0 else 1)<30))=true
 line:(apos.endLine == cpos.line)=true
 trees:backTo cpos (starEach [e,f] X.env)=[(false,eval e X.env),(false,eval f X.env)]
section
variable {X:Cx} {pins:List (Addr×Obj)} {Z:St} {H:Hp} {s:Shared} {a:Addr} {y d:V} {u r:Value} {o:Option V} {A:Around} {E:Value->Shared->Prop}
end
section
variable {X:Cx} {o e f:Expr} {apos cpos:Pos} {td ty tx:TE}
end
section
variable {X:Cx} {pins:List (Addr×Obj)} {Z:St} {H:Hp} {s:Shared} {a:Addr} {kvs:List (Key×V)} {A:Around} {E:Value->Shared->Prop}
end
section
variable {X:Cx} {pins:List (Addr×Obj)} {Z:St} {H:Hp} {s:Shared} {a:Addr} {y:V} {u:Value} {A:Around} {E:Value->Shared->Prop}
end
section
variable {X:Cx}
end
section
variable {κ:Type} [DecidableEq κ]
end
end L2
namespace HT
open PySem PyProof.Rows PySem.W
section
variable {prog:Program} {w:World} {A:Around} {E:Value->Shared->Prop} {s:Shared}
theorem zaY {a:Addr} {vs:List Value} {n0:Nat} {κ:SortKind} {c:Nat->Nat->Bool} {P:PySem.Fin->Shared->Prop} (ho:s.heap.get? a=some (seqObj "list" vs.toArray n0)) (h60:vs.length<=60) (O:Ord c vs.length)
  (hkind:∀ G:Heap,(∀ b o,b≠a->s.heap.get? b=some o->G.get? b=some o)->2<=vs.length->∀ Q:SortKind->Shared->Prop,Q κ { s with heap:=G }->wpAny (model prog w) A (keyKind' vs.toArray) Q E { s with heap:=G })
  (hcmp:∀ G:Heap,(∀ b o,b≠a->s.heap.get? b=some o->G.get? b=some o)->∀ i j (C:Bool->Shared->Prop),i<vs.length->j<vs.length->C (c i j) { s with heap:=G }->kas_ask prog w A κ vs i j C { s with heap:=G })
  (h:∀ p:List Nat,p.Perm (List.range vs.length)->p.Pairwise (λi j=>c i j=true)->P (.done (.ret .none)) { s with heap:=sortedHeap s.heap a vs (p.map λi=>vs.getD i Value.none).toArray }) :
  wpAny (model prog w) A (Builtin.«list.sort» ⟨[.ref a],[]⟩) P E s:=by
 rw [list_sort_plain]
 have hsl:vs.length<=sizeLine:=Nat.le_trans h60 (by decide)
 have ha:a<s.heap.objs.size:=Heap.lt_size ho
 obtain⟨e1,ho1⟩:∃ e1,(s.heap.update a (Obj.mapSeq λ_=>#[])).get? a=some (seqObj "list" #[] e1):=⟨_,get?_update_seq ho (λ_=>#[])⟩
 refine wpAny_bind (listItems_at ho rfl (wpAny_bind (listUpdate_at ho rfl (wpAny_bind (seqEpoch_at ho1 rfl (wpAny_bind (wpAny_newTuple (wpAny_bind (wpAny_newList (wpAny_holding ?_) (Nat.zero_le _))) (by show vs.length<=_;exact hsl))))) (by rw [List.size_toArray];exact hsl) (Nat.zero_le _))))
 generalize hG:(((s.heap.update a (Obj.mapSeq λ_=>(#[]:Array Value))).push (seqObj "tuple" vs.toArray 0)).push (seqObj "list" #[] 0))=G
 have ho6:G.get? a=some (seqObj "list" #[] e1):=by
  rw [<- hG,Heap.get?_push_ne _ _ _ (by rw [size_push',Heap.size_update];exact Nat.ne_of_lt (Nat.lt_succ_of_lt ha)),Heap.get?_push_ne _ _ _ (by rw [Heap.size_update];exact Nat.ne_of_lt ha)];exact ho1
 have keep:∀ b o,b≠a->s.heap.get? b=some o->G.get? b=some o:=λb o hb e=>by
  have hlt:=Heap.lt_size e
  rw [<- hG,Heap.get?_push_ne _ _ _ (by rw [size_push',Heap.size_update];exact Nat.ne_of_lt (Nat.lt_succ_of_lt hlt)),Heap.get?_push_ne _ _ _ (by rw [Heap.size_update];exact Nat.ne_of_lt hlt),Heap.get?_update_other _ _ (Ne.symm hb)];exact e
 show wpAny (model prog w) A _ P E { s with heap:=G }
 dsimp only
 have e2:∀ out:Array Value,G.update a (Obj.mapSeq λ_=>out)=sortedHeap s.heap a vs out:=λout=>by rw [<- hG];rfl
 by_cases h2:vs.toArray.size<2
 ·rw [if_pos h2,if_pos h2]
  refine wpAny_bind (wpAny_pure ?_)
  rw [StateT.run_pure]
  refine wpAny_bind (wpAny_pure ?_)
  dsimp only
  rw [List.size_toArray] at h2
  have hout:(arrOf (SortSt.mk' general' (vs.toArray.zip vs.toArray) #[] 7 none)).map (·.2)=((List.range vs.length).map λi=>vs.getD i Value.none).toArray:=by
   show ((vs.toArray.zip vs.toArray).map (·.2))=_
   apply Array.toList_inj.mp
   rw [Array.toList_map,Array.toList_zip,List.map_snd_zip (by simp)]
   apply List.ext_getElem?
   intro i
   rw [List.getElem?_map]
   by_cases hi:i<vs.length
   ·rw [List.getElem?_range hi,Option.map_some,List.getD_eq_getElem?_getD,List.getElem?_eq_getElem hi];rfl
   ·rw [List.getElem?_eq_none (by simpa using hi),List.getElem?_eq_none (by simpa using hi)];rfl
  rw [hout]
  refine wpAny_bind (seqEpoch_at ho6 rfl (wpAny_bind (listUpdate_at ho6 rfl ?_ (Nat.zero_le _) (by rw [List.size_toArray,List.length_map,List.length_range];exact Nat.le_succ_of_le hsl))))
  simp only [bne_self_eq_false,Bool.false_eq_true,if_false]
  rw [e2]
  refine wpAny_pure (h _ (List.Perm.refl _) ?_)
  rw [List.pairwise_iff_getElem]
  intro i j hi hj hij
  rw [List.length_range] at hj
  omega
 ·rw [if_neg h2,if_neg h2]
  rw [List.size_toArray] at h2
  refine wpAny_bind (hkind G keep (by omega) _ ?_)
  have ask:(kas_sort vs.length).kasWp (kas_ask prog w A κ vs) (λp s'=>s'={ s with heap:=G }/\(Pm vs.length p/\Up c p vs.length)) { s with heap:=G } :=
   KW.wp (n:=vs.length) (λi j C hi hj hC=>hcmp G keep i j C hi hj hC) _ (zeL O (by omega))
  refine wpAny_bind (wpAny_mono (kat_run (E:=E) (ks:=vs) (vs:=vs) (Q:=λst' s'=>∃ p:Array Nat,s'={ s with heap:=G }/\arrOf st'=p.map (kas_item (vs.toArray.zip vs.toArray))/\failedOf st'=none/\Pm vs.length p/\Up c p vs.length)
   rfl (by omega) (by omega) (λp st' s' _ a2 a3 a4=>⟨p,a4.1,a2,a3,a4.2⟩) ask) ?_ λ_ _ e=>e)
  rintro⟨⟨⟩,st'⟩ s' ⟨p,rfl,har,hfl,hpm,hup⟩
  dsimp only
  have hpl:p.toList.length=vs.length:=by rw [hpm.pm.length_eq,List.length_range]
  have hol:(p.toList.map λi=>vs.getD i Value.none).length=vs.length:=by rw [List.length_map,hpl]
  rw [kat_snds rfl har]
  refine wpAny_bind (seqEpoch_at ho6 rfl (wpAny_bind (listUpdate_at ho6 rfl ?_ (Nat.zero_le _) (by rw [List.size_toArray,hol];exact Nat.le_succ_of_le hsl))))
  rw [hfl]
  simp only [bne_self_eq_false,Bool.false_eq_true,if_false]
  rw [e2]
  refine wpAny_pure (h _ hpm.pm ?_)
  rw [List.pairwise_iff_getElem]
  intro i j hi hj hij
  have q1:=hup i j hij (by omega)
  have g1:p.getD i 0=p.toList[i]:=by
   have:i<p.size:=by rw [hpm.sz];omega
   simp [Array.getD,this]
  have g2:p.getD j 0=p.toList[j]:=by
   have:j<p.size:=by rw [hpm.sz];omega
   simp [Array.getD,this]
  rw [g1,g2] at q1
  exact q1
theorem zef {r:Addr} {n:Nat} {κ:SortKind} {Pv:List Value->Prop} {Q:Value->Shared->Prop} (h60:n<=60)
  (hcol:∀ R:List Value->Shared->Prop,(∀ h' tk vs,(∀ b o,s.heap.get? b=some o->h'.get? b=some o)->vs.length=n->Pv vs->R vs { s with heap:=h',toks:=tk })->wpAny (model prog w) A.in1 (collect (.ref r)) R E s)
  (hord:∀ vs,vs.length=n->Pv vs->∃ c:Nat->Nat->Bool,Ord c n /\
   (∀ (G:Heap) (tk:Nat),(∀ b o,s.heap.get? b=some o->G.get? b=some o)->2<=n->∀ Q:SortKind->Shared->Prop,Q κ { s with heap:=G,toks:=tk }->wpAny (model prog w) A.in1.in1 (keyKind' vs.toArray) Q E { s with heap:=G,toks:=tk }) /\
   (∀ (G:Heap) (tk:Nat),(∀ b o,s.heap.get? b=some o->G.get? b=some o)->∀ i j (C:Bool->Shared->Prop),i<n->j<n->C (c i j) { s with heap:=G,toks:=tk }->kas_ask prog w A.in1.in1 κ vs i j C { s with heap:=G,toks:=tk }) /\
   ∀ (p:List Nat) (h' h'':Heap) (tk e:Nat),p.Perm (List.range n)->p.Pairwise (λi j=>c i j=true)->(∀ b o,s.heap.get? b=some o->h'.get? b=some o)->(∀ b o,h'.get? b=some o->h''.get? b=some o)->h''.get? h'.objs.size=some (seqObj "list" (p.map λi=>vs.getD i Value.none).toArray e)->Q (.ref h'.objs.size) { s with heap:=h'',toks:=tk }) :
  wpAny (model prog w) A (call (.builtin "sorted") [.ref r]) Q E s:=by
 refine Calls.call_function_entry kind_sorted plain_sorted entry_sorted (args_sorted1 _) ?_
 unfold Builtin.«sorted»
 refine wpAny_bind (m:=checkCount "sorted" 1 1 _) (wpAny_pure (wpAny_bind (hcol _ λh' tk vs hk hl pv=>?_)))
 obtain⟨c,O,hkind,hcmp,fin⟩:=hord vs hl pv
 subst hl
 have hsl:vs.length<=sizeLine:=Nat.le_trans h60 (by decide)
 refine wpAny_bind (wpAny_newList ?_ hsl)
 have hoL:(h'.push (seqObj "list" vs.toArray 0)).get? h'.objs.size=some (seqObj "list" vs.toArray 0):=Heap.get?_push_size _ rfl
 have ne:∀ b o,s.heap.get? b=some o->b≠h'.objs.size:=λb o q=>Nat.ne_of_lt (Heap.lt_size (hk b o q))
 show wpAny _ _ _ _ _ { s with heap:=h'.push (seqObj "list" vs.toArray 0),toks:=tk }
 dsimp only
 refine wpAny_bind (wpAny_holding (wpAny_call_entry slot_list_sort ⟨_,hoL,rfl⟩ entry_list_sort (zaY (A:=A.in1.in1) (s:={ s with heap:=h'.push (seqObj "list" vs.toArray 0),toks:=tk }) (κ:=κ) (c:=c) hoL h60 O (λG kG h2 Q' hq=>hkind G tk (λb o q=>kG b o (ne b o q) (Heap.get?_push_of_some _ (hk b o q))) h2 Q' hq)
  (λG kG i j C hi hj hC=>hcmp G tk (λb o q=>kG b o (ne b o q) (Heap.get?_push_of_some _ (hk b o q))) i j C hi hj hC) λp hp hw=>⟨_,rfl,?_⟩) (args_list_sort _)))
 refine wpAny_pure ⟨_,rfl,?_⟩
 obtain⟨e,he⟩:=sortedHeap_at (out:=(p.map λi=>vs.getD i Value.none).toArray) hoL
 refine fin p h' _ tk e hp hw hk (λb o q=>?_) he
 have hlt:=Heap.lt_size q
 rw [sortedHeap_old (Nat.ne_of_lt hlt) (by rw [size_push'];exact Nat.lt_succ_of_lt hlt)]
 exact Heap.get?_push_of_some _ q
end
def RawD (h:Heap) (d:Addr) (ks:List Value) (ep:Nat):Prop:=∃ (o:Obj) (es:Array DictEntry),h.get? d=some o/\o.ExactDict/\o.data=.dict es ep/\es.toList.map (·.key)=ks
theorem RawD.at {h h':Heap} {d:Addr} {ks:List Value} {ep:Nat} (x:RawD h d ks ep) (e:∀ o,h.get? d=some o->h'.get? d=some o):RawD h' d ks ep:=let ⟨o,es,ho,r⟩:=x;⟨o,es,e _ ho,r⟩
theorem RawD.lt {h:Heap} {d:Addr} {ks:List Value} {ep:Nat} (x:RawD h d ks ep):d<h.objs.size:=let ⟨_,_,ho,_⟩:=x;Heap.lt_size ho
theorem RawD.ty {s:Shared} {d:Addr} {ks:List Value} {ep:Nat} (x:RawD s.heap d ks ep):s.TypeIs (.ref d) "dict":=let ⟨o,_,ho,hc,_⟩:=x;⟨o,ho,hc.1⟩
section
variable {prog:Program} {w:World} {A:Around} {E:Value->Shared->Prop} {s:Shared} {d it:Addr} {ks:List Value} {ep i:Nat}
theorem zew {Q:Value->Shared->Prop} (hd:(d == sysModules)=false) (hm:RawD s.heap d ks ep) (hQ:Q (.ref s.heap.objs.size) { s with heap:=s.heap.push { cls:=.type "dict_keyiterator",data:=.fields #[.ref d,.int 0 0,.int ks.length 0,.int ep 0] } }) :
  wpAny (model prog w) A (pyIter (.ref d)) Q E s:=by
 obtain⟨o,es,ho,hc,hdat,hk⟩:=id hm
 refine wpAny_pyIter_slot hm.ty F.slot_dict_iter (wpAny_call_entry F.slot_dict_iter hm.ty F.entry_dict_iter ?_ (F.args_dict_iter_1 _))
 unfold Builtin.«dict.__iter__» Builtin.Dict.dictSlotNone
 refine wpAny_bind (wpAny_bind (wpAny_notOrdered_dict hm.ty ?_))
 show wpAny _ _ (pure (Value.ref d)) _ _ s
 refine wpAny_pure ?_
 show wpAny _ _ (Builtin.Dict.showsAll d >>= _) _ _ s
 unfold Builtin.Dict.showsAll
 rw [hd,if_neg Bool.false_ne_true]
 have hsz:es.size=ks.length:=by rw [<- hk];simp
 refine wpAny_bind (wpAny_pure (wpAny_bind (wpAny_dictEntries ho hdat (wpAny_bind (wpAny_dictEpoch ho hdat (wpAny_bind (wpAny_newObj_type (wpAny_pure ⟨_,rfl,"dict_keyiterator",_,⟨_,Heap.get?_push_size _ rfl,rfl⟩,F.slot_dict_keyiterator_next.lookup,?_⟩))))))))
 simpa [rawInt,hsz] using hQ
theorem zei {v:Value} {Q:Option Value->Shared->Prop} (hit:s.heap.IsKeyIter it d i ks.length ep) (hm:RawD s.heap d ks ep) (hx:ks[i]?=some v)
  (hQ:∀ h',h'.IsKeyIter it d (i+1) ks.length ep->Heap.SameBut it s.heap h'->Q (some v) { s with heap:=h' }):wpAny (model prog w) A (pyNext (.ref it)) Q E s:=by
 obtain⟨o,ho,hc,hd⟩:=id hit
 obtain⟨od,es,hod,hcd,hdd,hk⟩:=id hm
 have hsz:es.size=ks.length:=by rw [<- hk];simp
 have hlt:i<es.size:=by rw [hsz];exact (List.getElem?_eq_some_iff.mp hx).1
 have hkey:es[i].key=v:=by
  rw [<- hk,List.getElem?_map] at hx
  simpa [hlt] using hx
 have hown:Builtin.Dict_items.ownsTuple "dict_keyiterator" = false:=by decide
 unfold pyNext
 refine wpAny_bind (wpAny_attempt (wpAny_callSpecial?_slot (name:=Str.ofString "__next__") hit.typeIs F.slot_dict_keyiterator_next (wpAny_call_entry F.slot_dict_keyiterator_next hit.typeIs F.entry_dict_keyiterator_next ?_ (F.args_dict_keyiterator_next_1 _))))
 refine wpAny_bind (wpAny_pure (wpAny_bind (wpAny_bind ?_)))
 first | refine wpAny_bind (wpAny_typeNameOfWhole_keyiter hit.typeIs (wpAny_pure (wpAny_bind (wpAny_fieldsOf ho hd ?_)))) | refine wpAny_bind (wpAny_typeNameOf_keyiter hit.typeIs (wpAny_pure (wpAny_bind (wpAny_fieldsOf ho hd ?_))))
 simp only [hown,Bool.false_eq_true,if_false]
 show wpAny _ _ (if (Value.ref d == Value.none)=true then _ else _) _ _ s
 rw [if_neg (show ¬ ((Value.ref d == Value.none)=true) from Bool.false_ne_true)]
 refine wpAny_bind (wpAny_pure (wpAny_bind (wpAny_dictEntries hod hdd ?_)))
 rw [if_neg (by rw [hsz];simp)]
 refine wpAny_bind (wpAny_pure (wpAny_bind (wpAny_dictEpoch hod hdd ?_)))
 rw [if_neg (by simp)]
 refine wpAny_pure ?_
 simp only [show ¬ ((i:Int)<0) from by omega,if_false,Int.toNat_natCast,Array.getElem?_eq_getElem hlt]
 refine wpAny_bind ?_
 first | refine wpAny_bind (wpAny_typeNameOfWhole_keyiter hit.typeIs (wpAny_pure (wpAny_bind (wpAny_isOneOf_keyiter hit.typeIs ?_)))) | refine wpAny_bind (wpAny_typeNameOf_keyiter hit.typeIs (wpAny_pure (wpAny_bind (wpAny_isOneOf_keyiter hit.typeIs ?_))))
 show wpAny _ _ (setField (.ref it) 1 (rawInt ((i:Int)+1)) >>= _) _ _ s
 refine wpAny_bind (wpAny_setField ho hd (by simp) ?_)
 have hit':(s.heap.update it (Obj.mapFields (·.setIfInBounds 1 (rawInt ((i:Int)+1))))).IsKeyIter it d (i+1) ks.length ep :=
  ⟨_,Heap.get?_update_self _ ho (Obj.isFreed_of_fields (Obj.data_mapFields hd _)),(Obj.cls_mapFields ..).trans hc,by rw [Obj.data_mapFields hd];simp [rawInt]⟩
 refine wpAny_bind (wpAny_holding (wpAny_bind (wpAny_isOneOf_keyiter (s:={ s with heap:=s.heap.update it (Obj.mapFields (·.setIfInBounds 1 (rawInt ((i:Int)+1)))) }) hit'.typeIs ?_)))
 show wpAny _ _ (pure es[i].key) _ _ _
 rw [hkey]
 exact wpAny_pure (wpAny_pure ⟨_,rfl,wpAny_pure (hQ _ hit' (Heap.SameBut.update ..))⟩)
theorem zfS {Q:Option Value->Shared->Prop} (hh:A.handled=none) (hit:s.heap.IsKeyIter it d ks.length ks.length ep) (hm:RawD s.heap d ks ep) (hQ:∀ h',Heap.ExtBut it s.heap h'->Q none { s with heap:=h' }):wpAny (model prog w) A (pyNext (.ref it)) Q E s:=by
 obtain⟨o,ho,hc,hd⟩:=id hit
 obtain⟨od,es,hod,hcd,hdd,hk⟩:=id hm
 have hsz:es.size=ks.length:=by rw [<- hk];simp
 have hge:es.size<=ks.length:=Nat.le_of_eq hsz
 have hown:Builtin.Dict_items.ownsTuple "dict_keyiterator" = false:=by decide
 unfold pyNext
 refine wpAny_bind (wpAny_attempt (wpAny_callSpecial?_slot (name:=Str.ofString "__next__") hit.typeIs F.slot_dict_keyiterator_next (wpAny_call_entry F.slot_dict_keyiterator_next hit.typeIs F.entry_dict_keyiterator_next ?_ (F.args_dict_keyiterator_next_1 _))))
 refine wpAny_bind (wpAny_pure (wpAny_bind (wpAny_bind ?_)))
 first | refine wpAny_bind (wpAny_typeNameOfWhole_keyiter hit.typeIs (wpAny_pure (wpAny_bind (wpAny_fieldsOf ho hd ?_)))) | refine wpAny_bind (wpAny_typeNameOf_keyiter hit.typeIs (wpAny_pure (wpAny_bind (wpAny_fieldsOf ho hd ?_))))
 simp only [hown,Bool.false_eq_true,if_false]
 show wpAny _ _ (if (Value.ref d == Value.none)=true then _ else _) _ _ s
 rw [if_neg (show ¬ ((Value.ref d == Value.none)=true) from Bool.false_ne_true)]
 refine wpAny_bind (wpAny_pure (wpAny_bind (wpAny_dictEntries hod hdd ?_)))
 rw [if_neg (by rw [hsz];simp)]
 refine wpAny_bind (wpAny_pure (wpAny_bind (wpAny_dictEpoch hod hdd ?_)))
 rw [if_neg (by simp)]
 refine wpAny_pure ?_
 simp only [show ¬ ((ks.length:Int)<0) from by omega,if_false,Int.toNat_natCast,Array.getElem?_eq_none hge]
 refine wpAny_bind ?_
 first | refine wpAny_bind (wpAny_typeNameOfWhole_keyiter hit.typeIs (wpAny_pure ?_)) | refine wpAny_bind (wpAny_typeNameOf_keyiter hit.typeIs (wpAny_pure ?_))
 show wpAny _ _ (setField (.ref it) 0 .none >>= _) _ _ s
 refine wpAny_bind (wpAny_setField ho hd (by simp) ?_)
 show wpAny _ _ (newExc (.type "StopIteration") [] >>= _) _ _ _
 refine wpAny_bind ?_
 simp only [newExc,newTuple]
 refine wpAny_bind (wpAny_newObj_type (wpAny_bind (m:=firstArgMember _ _) (wpAny_of_eq (a:=Value.none) (by first | rfl | (simp only [firstArgMember];rfl)) (wpAny_newObj_type ?_ (by size_fits)))) (by size_fits))
 simp only [raiseNew]
 refine wpAny_bind (wpAny_handled ?_)
 rw [show A.in1.handled=none from hh]
 refine wpAny_bind (wpAny_pure (wpAny_throw ?_))
 refine wpAny_bind (wpAny_isInstance (T:="StopIteration") (b:=true) ⟨_,Heap.get?_push_size _ rfl,rfl⟩ isSubtype_stop ?_)
 exact wpAny_pure (hQ _ (((Heap.SameBut.update ..).extBut.push _).push _))
theorem zc6 (hh:A.handled=none) (I d:Addr) (hne:d≠I) (ks:List Value) (ep:Nat):Walks prog w A I [I,d] [I] ks.length (λi v=>ks[i]?=some v) (λi h=>h.IsKeyIter I d i ks.length ep/\RawD h d ks ep) where
 sub:=λb hb=>by simp at hb;simp [hb]
 frame:=λ_ _ _ st hk=>⟨st.1.at λo e=>hk I (by simp) o e,st.2.at λo e=>hk d (by simp) o e⟩
 item:=λi s Q E hi st hQ=>by
  refine zei (v:=ks[i]) st.1 st.2 (List.getElem?_eq_getElem hi) λh' hit' hs'=>hQ _ h' s.toks (List.getElem?_eq_getElem hi) ⟨hit',st.2.at λo e=>hs'.extBut _ _ hne e⟩ λb o hb e=>hs'.extBut b o (λh=>hb (by simp [h])) e
 done:=λs Q E st hQ=>zfS hh st.1 st.2 λh' he'=>hQ h' s.toks λb o hb e=>he' b o (λh=>hb (by simp [h])) e
 self:=λ_ _ _ _ st hQ=>wpAny_pyIter_keyiter st.1 hQ
theorem zfe (lo:(d == sysModules)=false):KdlSrc prog w "dict" d d ks.length (λi v=>ks[i]?=some v) (λh=>RawD h d ks ep) where
 type:=λ_ hm=>hm.ty
 there:=λ_ hm=>⟨hm.lt,hm.lt⟩
 keep:=λ_ _ hm hk=>hm.at λo e=>hk d (.inl rfl) o e
 notList:=by decide
 notTuple:=by decide
 hint:=λ_ _ _ _ hm hq=>kdl_hint_dict hm.ty hq
 iter:=λ_ _ hh hm=>⟨_,_,(λ_ _ hq=>zew lo hm hq),zc6 hh _ d (Nat.ne_of_lt hm.lt) ks ep,⟨⟨_,Heap.get?_push_size _ rfl,rfl,rfl⟩,hm.at λo e=>Heap.get?_push_of_some _ e⟩⟩
end
end HT
namespace L2
open PySem PySem.Spec PyProof.Rows PySem.W
def kI (ns:List Int):List Key:=ns.map Sum.inl
theorem zgr (ns:List Int):(kI ns).map kV=ns.map V.int:=by unfold kI;rw [List.map_map];rfl
theorem zfJ {a b:List Int} (e:kI a=kI b):a=b:=by
 unfold kI at e
 exact List.map_inj_right (λx y h=>by cases h;rfl) |>.mp e
section
variable {X:Cx} {pins:List (Addr×Obj)} {Z:St} {H:Hp} {s:Shared}
theorem Jk (I:Inv X pins Z H s) {p:Addr} {ns:List Int} (h:H p=some (.tup (ns.map V.int))):∃ (its:List Value) (o:Obj) (m:Nat),IntsAre its ns/\s.heap.get? p=some o/\o.cls=.type "tuple"/\o.data=.seq its.toArray m:=by
 obtain⟨_,its,r,o,e,hc,m,hd⟩:=I.hok p _ h
 exact⟨its,o,m,by simpa using intsAre_of r,e,hc,hd⟩
end
theorem zac {prog:Program} {w:World} {A:Around} {Q:Bool->Shared->Prop} {s:Shared} {f:Bool}:∀ {xs ys:List Value} {as bs:List Int} (i:Nat),IntsAre xs as->IntsAre ys bs->f=decide (as.length<bs.length)->Q (HT.lexLt as bs) s->KatLex prog w A true f Q (xs.zip ys) i s
 | [],_,_,_,i,.nil,.nil,hf,h=>by subst hf;exact kat_nil h
 | [],_,_,_,i,.nil,.cons m u hj,hf,h=>by subst hf;exact kat_nil h
 | _,[],_,_,i,.cons n t hi,.nil,hf,h=>by subst hf;exact kat_nil h
 | _,_,_,_,i,.cons n t (ns:=as) hi,.cons m u (ns:=bs) hj,hf,h=>by
  rw [List.zip_cons_cons]
  refine kat_cons (wpAny_eqBool_int ?_)
  rw [HT.uF] at h
  by_cases e:n=m
  ·rw [if_pos e] at h
   rw [show (n == m)=true by simp [e]]
   exact kat_yes (zac (i+1) hi hj (by rw [hf];simp) h)
  ·rw [if_neg e] at h
   rw [show (n == m)=false by simp [e]]
   refine kat_no ?_
   by_cases hi0:i=0
   ·subst hi0
    exact oneLt_int h
   ·rw [show (true && i == 0)=false by simp [hi0]]
    exact kat_one _ _ (HT.zaO A s n t m u prog w _ _ h)
section
variable {X:Cx} {pins:List (Addr×Obj)} {Z:St} {H:Hp} {s:Shared}
theorem zez (I:Inv X pins Z H s) {A:Around} {p q:Addr} {as bs:List Int} (hp:H p=some (.tup (as.map V.int))) (hq:H q=some (.tup (bs.map V.int))) {Q:Bool->Shared->Prop} {E:Value->Shared->Prop} (h:Q (HT.lexLt as bs) s) :
  wpAny (model X.prog X.w) A (keyLt' (tuples' true) (.ref p) (.ref q)) Q E s:=by
 obtain⟨its,o,m,hi,e,_,hd⟩:=Jk I hp
 obtain⟨its',o',m',hi',e',_,hd'⟩:=Jk I hq
 refine kat_lt e hd e' hd' ?_
 rw [List.size_toArray,List.size_toArray,hi.length,hi'.length]
 exact zac 0 (by simpa using hi) (by simpa using hi') rfl h
end
theorem QG {X:Cx} {pins:List (Addr×Obj)} {Z:St} {H:Hp} {s:Shared} (I:Inv X pins Z H s):∀ zs:ZB,(∀ z∈zs,H z.1=some (.tup (z.2.map V.int))/\z.2≠[])->∃ fs:List Value,KatTups s.heap (zs.map λz=>Value.ref z.1) fs/\fs.length=zs.length/\∀ v∈fs,∃ n t,v=Value.int n t
 | [],_=>⟨[],KatTups.nil,rfl,λv hv=>by cases hv⟩
 | z :: zs,h=>by
  obtain⟨fs,h1,h2,h3⟩:=QG I zs λq hq=>h q (.tail _ hq)
  obtain⟨za,zl⟩:=z
  obtain⟨hz,hne⟩:=h (za,zl) (.head _)
  obtain⟨its,o,m,hi,e,hc,hd⟩:=Jk I hz
  simp only at hi hne
  cases hi with
  | nil=>exact absurd rfl hne
  | cons n t hi =>
   refine⟨.int n t :: fs,KatTups.cons e hc hd (by simp) h1,by simp [h2],λv hv=>?_⟩
   rcases List.mem_cons.mp hv with rfl | hv
   ·exact⟨n,t,rfl⟩
   ·exact h3 v hv
theorem zfp {ls:ZA} (nd:ls.Nodup):HT.Ord (λi j=>HT.lexLt (ls.getD i []) (ls.getD j [])) ls.length:=by
 have ge:∀ i,(h:i<ls.length)->ls.getD i []=ls[i]:=λi h=>by rw [List.getD_eq_getElem?_getD,List.getElem?_eq_getElem h];rfl
 refine⟨λi j k _ _ _ h1 h2=>HT.wO _ _ _ h1 h2,λi j hi hj hij h=>?_,λi j hi hj h=>?_⟩
 ·have ne:ls.getD i []≠ls.getD j []:=λz=>by
   rw [ge i hi,ge j hj] at z
   exact hij ((List.getElem_inj nd).mp z)
  have:=HT.Zo _ _ ne
  rw [h] at this
  exact this
 ·cases e:HT.lexLt (ls.getD j []) (ls.getD i []) with
  | false=>rfl
  | true =>
   have:=HT.wO _ _ _ h e
   rw [HT.yx] at this
   cases this
theorem zc9 {zs:ZB} {p:List Nat} (hp:p.Perm (List.range zs.length)) (hw:p.Pairwise (λi j=>HT.lexLt ((zs.map (·.2)).getD i []) ((zs.map (·.2)).getD j [])=true)) :
  ∃ zs':ZB,zs'.Perm zs/\zs'.Pairwise (λx y=>HT.lexLt x.2 y.2=true)/\(p.map λi=>(zs.map λz=>Value.ref z.1).getD i Value.none)=zs'.map λz=>Value.ref z.1:=by
 have g:∀ i∈p,(zs.map (·.2)).getD i []=(zs.getD i (0,[])).2/\(zs.map λz=>Value.ref z.1).getD i Value.none=Value.ref (zs.getD i (0,[])).1:=λi hi=>by
  have hi':=List.mem_range.mp (hp.mem_iff.mp hi)
  constructor
  ·rw [List.getD_eq_getElem?_getD,List.getD_eq_getElem?_getD,List.getElem?_map,List.getElem?_eq_getElem hi'];rfl
  ·rw [List.getD_eq_getElem?_getD,List.getD_eq_getElem?_getD,List.getElem?_map,List.getElem?_eq_getElem hi'];rfl
 refine⟨p.map λi=>zs.getD i (0,[]),HT.Wy _ zs hp,?_,?_⟩
 ·rw [List.pairwise_map]
  refine List.Pairwise.imp_of_mem ?_ hw
  intro i j hi hj h
  rw [(g i hi).1,(g j hj).1] at h
  exact h
 ·rw [List.map_map]
  exact List.map_congr_left λi hi=>(g i hi).2
theorem zaF {H:Hp}:∀ {kvs:List (List Key×V)} {xs:List (List Key×Addr×Value)} {ls:ZA},KT H kvs xs->kvs.map (·.1)=ls.map kI->∃ zs:ZB,zs.map (·.2)=ls/\(xs.map λx=>Value.ref x.2.1)=zs.map (λz=>Value.ref z.1)/\(∀ z∈zs,H z.1=some (.tup (z.2.map V.int)))/\xs.map (·.1)=ls.map kI
 | [],[],ls,.nil,e=>by
  cases ls with
  | nil=>exact⟨[],rfl,rfl,by simp,rfl⟩
  | cons _ _=>simp at e
 | p :: kvs,q :: xs,ls,.cons h t,e=>by
  cases ls with
  | nil=>simp at e
  | cons l ls =>
   rw [List.map_cons,List.map_cons] at e
   injection e with e1 e2
   obtain⟨zs,h1,h2,h3,h4⟩:=zaF t e2
   refine⟨(q.2.1,l) :: zs,by simp [h1],by simp [h2],λz hz=>?_,?_⟩
   ·rcases List.mem_cons.mp hz with rfl | hz
    ·have:=h.2.1
     rw [e1,zgr] at this
     exact this
    ·exact h3 z hz
   ·rw [List.map_cons,List.map_cons,h4,<- h.1,e1]
section
variable {X:Cx}
def zfm:List V->Hp->VK->Prop:=λxs H Q=>∃ (a:Addr) (kvs:List (List Key×V)) (ls:ZA),xs=[.ref a]/\H a=some (.dT kvs)/\kvs.map (·.1)=ls.map kI/\ls.length<=60/\(∀ l∈ls,l≠[]) /\
 ∀ (p:Addr) (zs':ZB),H p=none->(zs'.map (·.2)).Perm ls->zs'.Pairwise (λx y=>HT.lexLt x.2 y.2=true)->(∀ z∈zs',H z.1=some (.tup (z.2.map V.int)))->Q (.ref p) (upd H p (.lst (zs'.map λz=>V.ref z.1)))
theorem zen (hcalm:X.calm=true:=by rfl):wR X (.builtin "sorted") zfm:=by
 intro pins s Z H xs us Q I r h
 obtain⟨a,kvs,ls,rfl,ha,hks,h60,hne,q⟩:=h
 obtain⟨u,rfl,rx⟩:=vals1 r
 cases rx
 obtain⟨z,hd,xs,rel,o,es,ep,h1,h2,h3,h4,h5,h6⟩:=zeP I.hok ha
 obtain⟨zs,hz2,hzr,hzt,hx1⟩:=zaF rel hks
 have hzl:zs.length=ls.length:=by rw [<- hz2,List.length_map]
 have nd:(zs.map (·.2)).Nodup:=by
  rw [hz2]
  rw [hx1] at h6
  exact (List.pairwise_map.mp h6).imp λhab e=>hab (by rw [e])
 have hraw:HT.RawD s.heap a (zs.map λz=>Value.ref z.1) ep:=⟨o,es,h1,h2,h3,by rw [h4,List.map_map,<- hzr];rfl⟩
 have hkl:(zs.map λz=>Value.ref z.1).length=zs.length:=List.length_map ..
 have hO:=zfp nd
 rw [List.length_map] at hO
 have hzt':∀ z∈zs,H z.1=some (.tup (z.2.map V.int))/\z.2≠[]:=λz hz=>⟨hzt z hz,hne _ (by rw [<- hz2];exact List.mem_map.mpr ⟨z,hz,rfl⟩)⟩
 refine HT.zef (n:=zs.length) (κ:=tuples' true) (Pv:=λvs=>vs=zs.map λz=>Value.ref z.1) (by omega) (λR hR=>?_) λvs hl hv=>?_
 ·refine kdu_collect (A:=X.A.in1) (HT.zfe (ks:=zs.map λz=>Value.ref z.1) (ep:=ep) hd) (I.ok.hd hcalm) hraw (by rw [hkl];exact Nat.le_trans (show zs.length<=60 by omega) (by decide)) λh' tk acc hk hacc=>?_
  have hal:acc.toList.length=zs.length:=by rw [Array.length_toList,hacc.1,hkl]
  refine hR h' tk acc.toList hk hal ?_
  apply List.ext_getElem?
  intro i
  cases e:acc.toList[i]? with
  | some v=>exact (hacc.2 i v (by rw [<- Array.getElem?_toList];exact e)).symm
  | none=>rw [List.getElem?_eq_none (by rw [hkl,<- hal];exact List.getElem?_eq_none_iff.mp e)]
 ·subst hv
  have gr:∀ i,i<zs.length->(zs.map λz=>Value.ref z.1).getD i Value.none=.ref (zs.getD i (0,[])).1/\(zs.map (·.2)).getD i []=(zs.getD i (0,[])).2/\zs.getD i (0,[])∈zs:=λi hi=>by
   have e:zs.getD i (0,[])=zs[i]:=by rw [List.getD_eq_getElem?_getD,List.getElem?_eq_getElem hi];rfl
   rw [e]
   refine⟨?_,?_,List.getElem_mem _⟩
   ·rw [List.getD_eq_getElem?_getD,List.getElem?_map,List.getElem?_eq_getElem hi];rfl
   ·rw [List.getD_eq_getElem?_getD,List.getElem?_map,List.getElem?_eq_getElem hi];rfl
  refine⟨_,hO,λG tk kG hn2 Q' hq=>?_,λG tk kG i j C hi hj hC=>?_,λp h' h'' tk e hp hw k1 k2 hat=>?_⟩
  ·obtain⟨fs,ht,hfl,hfi⟩:=QG (I.kept (t':=tk) kG) zs hzt'
   refine kat_kind (T:=.type "int") ht (by omega) (λv hv=>?_) (by decide) (by rw [show (Value.type "int" != Value.type "tuple")=true by decide];exact hq)
   obtain⟨n,t,rfl⟩:=hfi v hv
   exact Looks.of_pure rfl
  ·obtain⟨a1,a2,a3⟩:=gr i hi
   obtain⟨b1,b2,b3⟩:=gr j hj
   unfold kas_ask
   rw [a1,b1]
   refine zez (I.kept (t':=tk) kG) (hzt _ a3) (hzt _ b3) ?_
   rw [a2,b2] at hC
   exact hC
  ·obtain⟨zs',pm,pw,hm⟩:=zc9 hp hw
   rw [hm] at hat
   have I1:=I.kept (t':=tk) k1
   have hfree:H h'.objs.size=none:=I1.hok.fresh (Nat.le_refl _)
   have hl':zs'.length=zs.length:=pm.length_eq
   refine⟨.ref h'.objs.size,_,I1.laid (t':=tk) (o:=.lst (zs'.map λz=>V.ref z.1)) k2 (Nat.le_refl _) ⟨by rw [List.length_map];exact Nat.le_trans (show zs'.length<=60 by omega) (by decide),_,e,Yw zs',hat⟩,rfl,q _ zs' hfree (by rw [<- hz2];exact pm.map _) pw λz hz=>hzt z (pm.mem_iff.mp hz)⟩
end
open PySem PySem.Spec PyProof.Rows
section
variable {X:Cx} {tg:Expr}
end
open PySem PySem.Spec PyProof.Rows PySem.SeqAt
section
variable {X:Cx}
def zf7 (K:W.Frag):List V->Hp->VK->Prop:=λxs H Q=>∃ (a:Addr) (ns:List Int),xs=[.ref a]/\SqL K H a (ns.map V.int)/\Q (.int ns.sum) H
theorem zdy (hc:X.calm=true):wR X (.builtin "sum") (zf7 X.K):=by
 intro pins s Z H xs us Q I r h
 obtain⟨a,ns,rfl,hq,q⟩:=h
 obtain⟨u,rfl,rx⟩:=vals1 r
 cases rx
 obtain⟨its,rv,pl,hz⟩:=I.list hq
 have hi:=intsAre_of rv
 obtain⟨ys,hy⟩:=hi.allInts.items
 have hn:(ys.toList.map (·.1)).sum=ns.sum:=by
  have e:=hi.numsOf
  have e2:=nums_intItems ys
  rw [<- hy] at e2
  rw [<- e,<- e2]
 refine sum_intListG (xs:=ys) (I.ok.hd hc) (by rw [<- hy];exact pl.isList) λh' tk t' hk=>?_
 refine⟨.int ns.sum,H,I.kept λb o e=>hk b o e,?_,q⟩
 refine⟨t',?_⟩
 rw [preSum_eq,List.take_of_length_le (by simp),hn]
theorem zgb (K:W.Frag) (hc:X.calm=true) (e:X.K=K:=by rfl):wR X (.builtin "sum") (zf7 K):=by subst e;exact zdy hc
def zbZ (K:W.Frag):V->List V->Hp->VK->Prop:=λx vs H Q=>∃ l xs y ts u j,x=.ref l/\vs=[y]/\SqL K H l xs/\TrsAt K H ts xs/\TrAt K H u y/\xq ts<=8/\j<ts.length /\
 (∀ t,ts[j]?=some t->teq t u=true)/\(∀ m t,m<j->ts[m]?=some t->teq t u=false)/\Q (.int (j:Nat)) H
open Classical in
theorem zcC (hu:X.A.units+64<cLine):MtM X "list.index" (zbZ X.K):=by
 intro pins s Z H x vs v us Q I rx rv h
 obtain⟨l,xs,y,ts,u,j,rfl,rfl,hq,hts,ht,hd,hj,hit,hno,q⟩:=h
 cases rx
 obtain⟨u0,rfl,ru⟩:=Vals.one rv
 obtain⟨its,r,pl,hz⟩:=I.list hq
 obtain⟨⟨cls,dd,data,sl⟩,ho,hc,n,hdat⟩:=id pl.isList
 simp only at hc hdat
 subst hc hdat
 have l1:=hts.length
 have m1:=r.length
 have val:∀ (m:Nat) (hm:m<its.length) (t:Tr),ts[m]?=some t->decide (∃ t x,RelV x its[m]/\TrAt X.K H t x/\teq t u=true)=teq t u:=by
  intro m hm t et
  obtain⟨z,ez,hz'⟩:=hts.get et
  obtain⟨w,ew,rw'⟩:=r.get ez
  have e':its[m]=w:=by
   rw [List.getElem?_eq_getElem hm] at ew
   exact Option.some.inj ew
  rw [e',Bool.eq_iff_iff,decide_eq_true_iff]
  constructor
  ·rintro⟨t',x',r',h',e3⟩
   rw [rw'.inj r'] at hz'
   rw [V4 I 8 (Nat.le_trans (Z9 (List.mem_of_getElem? et)) hd) hz' h'];exact e3
  ·intro e3
   exact⟨t,z,rw',hz',e3⟩
 have hjs:j<its.length:=by omega
 have hsl:(sizeLine:Int)<2^63-1:=by decide
 refine call_meets PySem.F.slot_list_index ⟨_,ho,rfl⟩ PySem.F.entry_list_index (PySem.F.args_list_index_2 _ _)
  (list_indexAt l its.toArray n dd sl u0 (λy=>decide (∃ t x,RelV x y/\TrAt X.K H t x/\teq t u=true)) j (by simpa using hjs) (by omega) ?_ ?_) ⟨ho,JS I hu ht ru hd hts r,?_⟩
 ·have q:=val j hjs _ (List.getElem?_eq_getElem hj)
  rw [hit _ (List.getElem?_eq_getElem hj)] at q
  simpa using q
 ·intro m hm hlt
  have hm':m<ts.length:=by omega
  have q:=val m (by omega) _ (List.getElem?_eq_getElem hm')
  rw [hno m _ hlt (List.getElem?_eq_getElem hm')] at q
  simpa using q
 ·exact⟨.int (j:Nat),H,I.kept λb o e=>e,⟨_,rfl⟩,q⟩
theorem zdG (K:W.Frag) (hu:X.A.units+64<cLine) (e:X.K=K:=by rfl):MtM X "list.index" (zbZ K):=by subst e;exact zcC hu
end
structure Vp (sc:Scope) (scope:Scope) (xs:List Str) (M:List Str) (ys:List Str) (js:List Nat):Prop where
 kind:scope.kind=.function:=by rfl
 cell:∀ y∈scope.names,y.2≠.cell:=by decide +kernel
 loc:∀ y∈scope.names,y.2=.local->scope.names.lookup y.1=some .local:=by decide +kernel
 var:∀ x∈xs,scope.names.lookup x=some .local:=by decide +kernel
 free:∀ y∈scope.names,y.2=.free->sc.names.lookup y.1=some .cell\/sc.names.lookup y.1=some .free:=by decide +kernel
 caps:js.map (M[·]?)=ys.map some:=by rfl
 fr:∀ y∈ys,scope.names.lookup y=some .free:=by decide +kernel
 nd:(xs++ys).Nodup:=by decide +kernel
def nones (xs:List Str):St:=xs.map λ_=>none
theorem CScope.nofree {sc scope:Scope} {x:Str} {M:List Str} (kind:scope.kind=.function) (cell:∀ y∈scope.names,y.2≠.cell) (loc:∀ y∈scope.names,y.2=.local->scope.names.lookup y.1=some .local) (var:scope.names.lookup x=some .local) (free:∀ y∈scope.names,y.2≠.free):CScope sc scope x M [] [] :=
 ⟨kind,cell,loc,var,λy hy e=>absurd e (free y hy),rfl,by simp,by simp⟩
section
variable {X:Cx} {pins:List (Addr×Obj)} {Z:St} {H:Hp} {s:Shared}
theorem zb3 {scope:Scope} {xs ys:List Str} {js:List Nat} {fp:List Addr} {h₁:Heap} {tk:Nat} {C:Addr} (I:Inv X pins Z H s) (S:Vp X.env.scope scope xs X.N ys js) (hf:∀ b∈fp,Wb X pins H b) (ho:∀ b∈fp,∃ o,s.heap.get? b=some o)
  (hC:s.heap.objs.size<=C) (hk:∀ b o,s.heap.get? b=some o->h₁.get? b=some o) (hn:h₁.Ns C λ_=>none) :
  Inv (cxC X (xs++ys) scope C s H fp) [] (nones xs++xG js Z) H { s with heap:=h₁,toks:=tk }:=by
 have sub:∀ y c,(xR X.env.cells scope.names []).lookup y=some c->X.env.cells.lookup y=some c:=λy c e=>vK (λ_ _ z=>by simp at z) e
 have has:∀ y,scope.names.lookup y=some .free->∃ c,(xR X.env.cells scope.names []).lookup y=some c:=λy e=>by
  have m:(y,NameKind.free)∈scope.names:=PySem.mem_of_lookup e
  exact Y9 (.inr ⟨m,I.ok.has y (S.free _ m rfl)⟩)
 have lt:∀ b∈fp,b<s.heap.objs.size:=λb hb=>by obtain⟨o,e⟩:=ho b hb;exact Heap.lt_size e
 have ok:(cxC X (xs++ys) scope C s H fp).Ok:=by
  refine⟨I.ok.mod,S.kind,I.ok.glob,I.ok.blt,hC,λy z c e1 e2=>I.ok.inj y z c (sub _ _ e1) (sub _ _ e2),λy hy=>?_,λy c z=>?_,I.ok.hd,I.ok.frames,.inl rfl,λb hb=>?_,I.bs,Nat.le_trans I.ok.bsz I.sz,λb o e hb=>?_,λb hb z=>?_,I.stack,I.stkFree⟩
  ·have hy':(relabel scope X.env).names.lookup y=some .cell\/(relabel scope X.env).names.lookup y=some .free:=hy
   have nocell:scope.names.lookup y≠some .cell:=λz=>S.cell _ (PySem.mem_of_lookup z) rfl
   rcases hy' with e | e
   ·rcases yO e with z | ⟨_,z⟩
    ·exact absurd z nocell
    ·exact has y z
   ·rcases yO e with z | ⟨z,_⟩
    ·exact has y z
    ·cases z
  ·exact absurd (show false=true from z) Bool.false_ne_true
  ·refine⟨Nat.ne_of_lt (Nat.lt_of_lt_of_le (lt b hb) hC),λy c e=>(hf b hb).2.2.2.2.1 y c (sub y c e)⟩
  ·rcases (hf b hb).2.2.2.1 with z | z
   ·exact I.ok.noex b o e z
   ·exact absurd (Nat.lt_of_lt_of_le (Heap.lt_size e) (Nat.le_trans I.ok.bsz z)) (Nat.lt_irrefl _)
  ·rcases List.mem_cons.mp (I.stkSub b z) with e | e
   ·exact (hf b hb).2.1 e
   ·exact (hf b hb).2.2.1 e
 refine⟨ok,rfl,I.bare,Un.kept hk,⟨_,hn,λi y v e1 e2 e3=>?_⟩,λy c e=>?_,I.hok.fresh hC,λy c e=>I.freeC y c (sub y c e),λp hp=>absurd (show p∈([]:List (Addr×Obj)) from hp) (by simp),I.hok.kept hk,?_⟩
 ·by_cases hix:i<xs.length
  ·have z:(nones xs++xG js Z)[i]?=some none:=by
    rw [List.getElem?_append_left (by unfold nones;rw [List.length_map];exact hix)]
    unfold nones
    rw [List.getElem?_map,List.getElem?_eq_getElem hix];rfl
   rw [z] at e2;cases e2
  ·obtain⟨k,rfl⟩:∃ k,i=xs.length+k:=⟨i-xs.length,by omega⟩
   have e1':ys[k]?=some y:=by
    have e1:(xs++ys)[xs.length+k]?=some y:=e1
    rw [List.getElem?_append_right (by omega),Nat.add_sub_cancel_left] at e1;exact e1
   have e2':(xG js Z)[k]?=some (some v):=by
    rw [List.getElem?_append_right (by unfold nones;rw [List.length_map];omega)] at e2
    unfold nones at e2
    rw [List.length_map,Nat.add_sub_cancel_left] at e2;exact e2
   obtain⟨j,hj,hσ⟩:=zah e2'
   have hN:X.N[j]?=some y:=by
    have z:=congrArg (λl=>l[k]?) S.caps
    simp only [List.getElem?_map,hj,e1',Option.map_some] at z
    exact Option.some.inj z
   have hfr:=S.fr y (List.mem_of_getElem? e1')
   have m:(y,NameKind.free)∈scope.names:=PySem.mem_of_lookup hfr
   have hkind:=S.free _ m rfl
   obtain⟨m',hns,hl⟩:=I.loc
   obtain⟨u,r,lk⟩:=hl j y v hN hσ (by rcases hkind with z | z;exact .inr (.inl z);exact .inr (.inr z))
   refine⟨u,r,.inr ⟨?_,?_⟩⟩
   ·have e3':(relabel scope X.env).names.lookup y=some .local\/(relabel scope X.env).names.lookup y=some .cell\/(relabel scope X.env).names.lookup y=some .free:=e3
    rcases e3' with z | z | z
    ·rcases yO z with q | ⟨q,_⟩
     ·rw [hfr] at q;cases q
     ·cases q
    ·exact .inl z
    ·exact .inr z
   ·obtain⟨c,hc⟩:=has y hfr
    refine⟨c,hc,?_⟩
    rcases lk with ⟨z,_⟩ | ⟨_,c',hc',cell⟩
    ·rcases hkind with q | q
     ·have q':X.env.kindOf y=some .cell:=q
      rw [show X.env.kindOf y=some .local from z] at q';cases q'
     ·have q':X.env.kindOf y=some .free:=q
      rw [show X.env.kindOf y=some .local from z] at q';cases q'
    ·rw [sub y c hc] at hc'
     cases hc'
     obtain⟨o,e,d⟩:=cell
     exact⟨o,hk _ _ e,d⟩
 ·obtain⟨v,o,e',d⟩:=I.cell y c (sub y c e)
  exact⟨v,o,hk _ _ e',d⟩
 ·have z:=congrArg List.length S.caps
  simp only [List.length_map] at z
  show (nones xs++xG js Z).length=(xs++ys).length
  simp [xG,nones,z]
end
section
variable {prog:Program} {w:World} {A:Around} {R:Result->Shared->Prop} {s:Shared}
theorem zcu {elt target iter:Expr} {ifs:List Expr} {scope:Scope} {pos:Pos} {it acc:Value} {env:Env} {N:Value->Shared->Prop} (hN:N=notedBy (model prog w) A env λe s'=>R (.error e) s') (I:Nat->Shared->Prop)
  (turn:∀ n s,I n s->wpAny (model prog w) A (pyNext it) (λr s₁=>match r with
   | none=>R (.ok .next) s₁
   | some v=>wpAny (model prog w) A (letOwnedTupleGo target it v) (λ_ s₅=>wpAny (model prog w) A (assign target env v) (λ_ s₂ =>
     wpAny (model prog w) A (forIn ifs true λc r=>if r=true then do let ok <- isTrue c env (eval c env);pure (ForInStep.yield ok) else pure (ForInStep.yield r)) (λok s₃=>if ok=true then wpAny (model prog w) A (eval elt env) (λx s₄=>wpAny (model prog w) A (call (.builtin "list.append") [acc,x]) (λ_ s₅=>∃ m,m<n/\I m s₅) N s₄) N s₃ else ∃ m,m<n/\I m s₃) N s₂) N s₅) N s₁) N s)
  (n:Nat) (h:I n s):codeAny (model prog w) A (.compLoop (.ListComp elt [⟨target,iter,ifs,0⟩] scope pos) 0 it acc env) R s:=by
 subst hN
 refine codeAny_loop rfl I (λn s hI=>?_) n h
 show wpAny _ A ((compTurn (.ListComp elt [⟨target,iter,ifs,0⟩] scope pos) 0 it acc env).onRaise (λx=>do noteFrame x env;theTreesLotGoes x)) _ _ s
 rw [compTurn_list]
 refine wpAny_noted (wpAny_bind (wpAny_standAt (wpAny_bind (wpAny_mono (turn n s hI) (λr s₁ h₁=>?_) λ_ _ h'=>h'))))
 cases r with
 | none=>exact wpAny_pure h₁
 | some v =>
  refine wpAny_bind (wpAny_mono h₁ (λ_ s₅ h₅=>wpAny_bind (wpAny_mono h₅ (λ_ s₂ h₂=>wpAny_bind (wpAny_mono h₂ (λok s₃ h₃=>?_) λ_ _ h'=>h')) λ_ _ h'=>h')) λ_ _ h'=>h')
  cases ok with
  | false=>exact wpAny_pure ⟨rfl,h₃⟩
  | true=>exact wpAny_bind (wpAny_bind (wpAny_mono h₃ (λx s₄ h₄=>wpAny_bind (wpAny_mono h₄ (λ_ s₆ h₆=>wpAny_pure (wpAny_pure ⟨rfl,h₆⟩)) λ_ _ h'=>h')) λ_ _ h'=>h'))
end
def Q0 (J:It) (xs:List Str) (js:List Nat) (g:TG) (tt:TT) (te:TE) (Z:St) (Q:VK) (H:Hp):Prop:=∃ W:Nat->Nat->List V->Hp->Prop,(∃ m,W 0 m [] H)/\∀ i m ys H,W i m ys H ->
 (J.stop i H/\∀ D,H D=none->Q (.ref D) (upd H D (.lst ys))) \/
 (J.go i H/\ys.length<sizeLine/\∃ N:List V->Hp->Prop,(∀ ys' H',N ys' H'->∃ m',m'<m/\W (i+1) m' ys' H')/\∀ x H',J.yld i H x H'->g x (nones xs++xG js Z) H' fun σ' H1=>(∃ vs:St,vs.length=xs.length/\σ'=vs++xG js Z)/\tt σ' H1 λb H2=>if b=true then te σ' H2 λv H3=>N (ys++[v]) H3 else N ys H2)
def zfk (wi:TI) (xs:List Str) (js:List Nat) (g:TG) (tt:TT) (te:TE):TE:=λZ H Q=>wi Z H λJ H1=>Q0 J xs js g tt te Z Q H1
section
variable {X:Cx} {elt iter:Expr} {ifs:List Expr} {tg:Expr} {xs:List Str} {pos:Pos} {g:TG} {scope:Scope} {ys:List Str} {js:List Nat} {wi:TI} {tt:TT} {te:TE}
theorem zaC {pins:List (Addr×Obj)} {Z:St} {H:Hp} {s:Shared} {J:It} {fp:List Addr} {it:Addr} {tn:Nat->Heap->Prop} {Q:VK} {E:Value->Shared->Prop} {R:Value->Addr->Result->Shared->Prop}
  (S:Vp X.env.scope scope xs X.N ys js) (hc:X.calm=true) (hg:∀ C s₀ H₀ ex,PG (cxC X (xs++ys) scope C s₀ H₀ ex) tg g) (ht:∀ C s₀ H₀ ex,PTs (cxC X (xs++ys) scope C s₀ H₀ ex) ifs tt) (he:∀ C s₀ H₀ ex,PE (cxC X (xs++ys) scope C s₀ H₀ ex) elt te)
  (I:Inv X pins Z H s) (T:Turn X.prog X.w X.K tg J fp it tn) (st:tn 0 s.heap) (hf:∀ b∈fp,Wb X pins H b)
  (hw:∃ W:Nat->Nat->List V->Hp->Prop,(∃ m,W 0 m [] H)/\∀ i m zs H,W i m zs H ->
   (J.stop i H/\∀ D,H D=none->Q (.ref D) (upd H D (.lst zs))) \/
   (J.go i H/\zs.length<sizeLine/\∃ N:List V->Hp->Prop,(∀ ys' H',N ys' H'->∃ m',m'<m/\W (i+1) m' ys' H')/\∀ x H',J.yld i H x H'->g x (nones xs++xG js Z) H' fun σ' H1=>(∃ vs:St,vs.length=xs.length/\σ'=vs++xG js Z)/\tt σ' H1 λb H2=>if b=true then te σ' H2 λv H3=>N (zs++[v]) H3 else N zs H2))
  (hR:∀ D C s' H' m',Inv X pins Z H' s'->Q (.ref D) H'->s.heap.objs.size<=C->H' C=none->s'.heap.Ns C m'->R (.ref D) C (.ok .next) s') :
  wpAny (model X.prog X.w) X.A (newList []) (λacc s₃=>wpAny (model X.prog X.w) X.A (newFunctionEnv scope X.env.globals (xR X.env.cells scope.names []) [] X.env.qual none .none (some X.env)) (λcenv s₄ =>
   codeAny (model X.prog X.w) X.A (.compStart (.ListComp elt [⟨tg,iter,ifs,0⟩] scope pos) 0 (.ref it) acc { cenv with scope:=relabel scope X.env }) (R acc cenv.locals) s₄) E s₃) E s:=by
 obtain⟨W,⟨m0,w0⟩,turn⟩:=hw
 refine wpAny_newObj_type (wpAny_newFunctionEnv S.cell (by intro y hy;simp at hy) (λh₁ hns₁ hsb₁=>?_) S.kind)
 dsimp only at hns₁ hsb₁ ⊢
 generalize hH2:s.heap.push { cls:=.type "list",dict:=none,data:=.seq ([]:List Value).toArray }=G at hns₁ hsb₁ ⊢
 generalize hD:s.heap.objs.size=D at *
 generalize hCe:G.objs.size=C at *
 have hC:C=D+1:=by rw [<- hCe,<- hH2,Heap.size_push,hD]
 have hDlt:D<C:=by rw [hC];exact Nat.lt_succ_self D
 have hDC:D≠C:=Nat.ne_of_lt hDlt
 have old:∀ b o,s.heap.get? b=some o->h₁.get? b=some o:=λb o e=>by
  have hb:b<D:=hD▸Heap.lt_size e
  exact (hsb₁.2 b (Nat.ne_of_lt (Nat.lt_trans hb hDlt))).trans (Heap.get?_push_of_some _ (hH2▸Heap.get?_push_of_some _ e))
 have hacc:h₁.get? D=some { cls:=.type "list",data:=.seq ([]:List Value).toArray 0 }:=by
  refine (hsb₁.2 D hDC).trans (Heap.get?_push_of_some _ ?_)
  rw [<- hH2,<- hD]
  exact Heap.get?_push_size _ rfl
 have obj0:=T.obj 0 _ st
 have fplt:∀ b∈fp,b<D:=λb hb=>by obtain⟨o,e,_⟩:=obj0 b hb;exact hD▸Heap.lt_size e
 generalize hX:cxC X (xs++ys) scope C s H fp=X'
 have I1:Inv X' [] (nones xs++xG js Z) H { s with heap:=h₁,toks:=s.toks+([]:List (Str×Value)).length }:=by
  subst hX
  exact zb3 I S hf (λb hb=>by obtain⟨o,e,_⟩:=obj0 b hb;exact⟨o,e⟩) (by omega) old (by simpa using hns₁)
 have eP:X'.prog=X.prog:=by subst hX;rfl
 have eW:X'.w=X.w:=by subst hX;rfl
 have eK:X'.K=X.K:=by subst hX;rfl
 have eA:X'.A=X.A:=by subst hX;rfl
 have eC:X'.calm=true:=by subst hX;exact hc
 have eL:X'.env.locals=C:=by subst hX;rfl
 have eS:X'.s₀=s:=by subst hX;rfl
 have eN:X'.N=xs++ys:=by subst hX;rfl
 have eE:X'.env=compEnvC scope (xR X.env.cells scope.names []) C X.env:=by subst hX;rfl
 have eXe:X'.xe=λ_ _=>False:=by subst hX;rfl
 have eX:X'.ex=fp:=by subst hX;rfl
 have ePn:X'.pn=[]:=by subst hX;rfl
 have efs:∀ b,b∈X'.fs->b∈frs X.stack:=λb z=>by subst hX;exact z
 have cellLt:∀ y c,X'.env.cells.lookup y=some c->c<D:=λy c e=>by
  have e':(xR X.env.cells scope.names []).lookup y=some c:=by rw [eE] at e;exact e
  obtain⟨v,o,e2,_⟩:=I.cell y c (vK (λ_ _ z=>by simp at z) e')
  exact hD▸Heap.lt_size e2
 have frLt:∀ b,b∈X'.fs->b<D:=λb z=>by
  rcases List.mem_cons.mp (I.stkSub b (efs b z)) with e | e
  ·rw [e];exact hD▸I.lt
  ·exact Nat.lt_of_not_le λh=>I.nofs (hD▸h) e
 have fpOk:∀ (p:List (Addr×Obj)) (H':Hp),(∀ b∈fp,H' b=none)->(∀ q∈p,q.1=D)->∀ b∈fp,Wb X' p H' b:=λp H' hn hp b hb=>by
  refine⟨hn b hb,?_,λz=>?_,.inl (eX▸hb),λy c e=>?_,λq hq=>?_⟩
  ·rw [eL];exact Nat.ne_of_lt (Nat.lt_trans (fplt b hb) hDlt)
  ·rcases List.mem_cons.mp (I.stkSub b (efs b z)) with e | e
   ·exact (hf b hb).2.1 e
   ·exact (hf b hb).2.2.1 e
  ·have e':(xR X.env.cells scope.names []).lookup y=some c:=by rw [eE] at e;exact e
   exact (hf b hb).2.2.2.2.1 y c (vK (λ_ _ z=>by simp at z) e')
  ·rw [ePn,List.nil_append] at hq
   rw [hp q hq];exact Nat.ne_of_gt (fplt b hb)
 have noCell:∀ (its:List Value) (k:Nat) v,({ cls:=.type "list",data:=.seq its.toArray k }:Obj).data≠.cell v:=λits k v z=>by cases z
 have done:∀ {zs:List V} {its:List Value} {k:Nat} {H':Hp} {s':Shared},Inv X' [] (nones xs++xG js Z) H' s'->s'.heap.get? D=some { cls:=.type "list",data:=.seq its.toArray k }->Vals zs its->H' D=none->zs.length<=sizeLine ->
   (∀ D,H' D=none->Q (.ref D) (upd H' D (.lst zs)))->R (.ref D) C (.ok .next) s':=λ{zs its k H' s'} I' hd hv hn hz q=>by
  have un:=I'.base
  obtain⟨m',hns,_⟩:=I'.loc
  rw [eL] at hns
  have hCn:H' C=none:=by have:=I'.free;rw [eL] at this;exact this
  have hH0:X'.H₀=H:=by subst hX;rfl
  rw [hH0,eS,eX] at un
  have un2:Un (frs X.stack) fp H (upd H' D (.lst zs)) s.heap s'.heap:=by
   have ne:∀ b o,s.heap.get? b=some o->b≠D:=λb o e=>Nat.ne_of_lt (hD▸Heap.lt_size e)
   have un':Un (frs X.stack) fp H H' s.heap s'.heap:=by subst hX;exact un
   exact⟨un'.keep,un'.slot,λb o e n hx=>by rw [zx (ne b o e)];exact un'.free b o e n hx,un'.there,λb xs e=>by rw [zx (zz (un'.tups b xs e) hn)];exact un'.tups b xs e,
    λb o u e=>by rw [zx (zz (un'.frzs b o u e) hn)];exact un'.frzs b o u e,λb ps e=>by
     obtain⟨more,z⟩:=un'.tbls b ps e
     exact⟨more,by rw [zx (zz z hn)];exact z⟩⟩
  have hok:HOk X.prog X.w (upd H' D (.lst zs)) s'.heap:=by
   have h0:=I'.hok
   rw [eP,eW] at h0
   exact h0.track hn ⟨hz,its,k,hv,hd⟩
  have I2:Inv X pins Z (upd H' D (.lst zs)) s':=I.call' (by have:=I'.os;rw [eS] at this;exact this) un2 hok I'.bare λb hb=>⟨(hf b hb).2.2.2.1,(hf b hb).2.1,(hf b hb).2.2.2.2.1,(hf b hb).2.2.2.2.2⟩
  exact hR D C s' _ m' I2 (q D hn) (by omega) (by rw [zx (Ne.symm hDC)];exact hCn) hns
 have loop:codeAny (model X.prog X.w) X.A (.compLoop (.ListComp elt [⟨tg,iter,ifs,0⟩] scope pos) 0 (.ref it) (.ref D) X'.env) (R (.ref D) C) { s with heap:=h₁,toks:=s.toks+([]:List (Str×Value)).length }:=by
  refine zcu rfl (λn s'=>∃ i zs its k H',Inv X' [] (nones xs++xG js Z) H' s'/\tn i s'.heap/\(∀ b∈fp,H' b=none)/\s'.heap.get? D=some { cls:=.type "list",data:=.seq its.toArray k }/\Vals zs its/\H' D=none/\zs.length<=sizeLine/\W i n zs H')
   ?_ m0 ⟨0,[],[],0,H,I1,T.keep _ _ _ st (λb hb o e=>old b o e),λb hb=>(hf b hb).1,hacc,.nil,I.hok.fresh (by omega),Nat.zero_le _,w0⟩
  rintro n s3 ⟨i,zs,its,k,H3,I3,st3,fr3,d3,v3,n3,z3,w3⟩
  have pinD:Inv X' [(D,{ cls:=.type "list",data:=.seq its.toArray k })] (nones xs++xG js Z) H3 s3:=I3.pins_of λp hp=>by
   have e:p=(D,{ cls:=.type "list",data:=.seq its.toArray k }):=by simpa using hp
   subst e
   exact⟨d3,n3,by rw [eL];exact hDC,λz=>Nat.lt_irrefl _ (frLt D z),noCell its k⟩
  have hpD:∀ q∈[(D,({ cls:=.type "list",data:=.seq its.toArray k }:Obj))],q.1=D:=λq hq=>by
   have e:q=(D,{ cls:=.type "list",data:=.seq its.toArray k }):=by simpa using hq
   rw [e]
  rcases turn i n zs H3 w3 with ⟨stop,qn⟩ | ⟨go,hzl,NN,hNN,step⟩
  ·refine thn (eA▸T.done X' eP eW eK eC i _ s3 _ H3 _ pinD (fpOk _ _ fr3 hpD) st3 stop) λr s4 ⟨hr,I4⟩=>?_
   subst hr
   exact done (I4.pins_of λp hp=>absurd hp (by simp)) (I4.pin (D,{ cls:=.type "list",data:=.seq its.toArray k }) (List.mem_append_right _ (by simp))).1 v3 n3 z3 qn
  ·refine thn (eA▸T.item X' eP eW eK eC i _ s3 _ H3 _ pinD (fpOk _ _ fr3 hpD) st3 go) λr s4 ⟨u,hr,h4⟩=>?_
   subst hr
   refine thn h4 λ_ s4 ⟨v,H5,I5,r5,y5,st5,fr5⟩=>?_
   have I5':=I5.pinned (fpOk _ _ fr5 hpD) (T.obj _ _ st5)
   have ev:∀ {α:Type} {t:Sem α} {Q':α->Shared->Prop} {E':Value->Shared->Prop} {s':Shared},wpAny (model X'.prog X'.w) X'.A t Q' X'.xe s'->wpAny (model X.prog X.w) X.A t Q' E' s':=λ{α t Q' E' s'} hh=>by
    rw [eP,eW,eA,eXe] at hh
    exact wpAny_mono hh (λ_ _ q=>q) λ_ _ z=>z.elim
   have hgg:PG X' tg g:=hX▸hg C s H fp
   refine ev (thn (hgg _ s4 _ H5 v u _ I5' r5 (step v H5 y5)) λ_ s6 ⟨σ6,H6,I6,⟨vs6,hvl,e6⟩,q6⟩=>?_)
   subst e6
   have back:∀ {σ':St} {H7:Hp} {s7:Shared},Inv X' ([(D,{ cls:=.type "list",data:=.seq its.toArray k })]++ZV fp s4.heap) (vs6++xG js Z) H7 s7->Inv X' [] (nones xs++xG js Z) H7 s7:=λ{_ H7 s7} I7=>by
    refine (I7.pins_of λp hp=>absurd hp (by simp)).weak (by rw [List.length_append,List.length_append,hvl];unfold nones;rw [List.length_map]) λi v' e=>?_
    by_cases hix:i<xs.length
    ·have z:(nones xs++xG js Z)[i]?=some none:=by
      rw [List.getElem?_append_left (by unfold nones;rw [List.length_map];exact hix)]
      unfold nones
      rw [List.getElem?_map,List.getElem?_eq_getElem hix];rfl
     rw [z] at e;cases e
    ·have hn:(nones xs).length=xs.length:=by unfold nones;rw [List.length_map]
     rw [List.getElem?_append_right (by omega),hn] at e
     rw [List.getElem?_append_right (by omega),hvl]
     exact e
   have fps:∀ {σ':St} {H7:Hp} {s7:Shared},Inv X' ([(D,{ cls:=.type "list",data:=.seq its.toArray k })]++ZV fp s4.heap) σ' H7 s7->(∀ b∈fp,H7 b=none)/\(∀ b∈fp,∀ o,s4.heap.get? b=some o->s7.heap.get? b=some o)/\s7.heap.get? D=some { cls:=.type "list",data:=.seq its.toArray k }/\H7 D=none:=λ{σ' H7 s7} I7=>by
    have g:∀ b∈fp,∀ o,s4.heap.get? b=some o->s7.heap.get? b=some o/\H7 b=none:=λb hb o e=>by
     have z:=I7.pin (b,o) (List.mem_append_right _ (List.mem_append_right _ (Zq hb e)))
     exact⟨z.1,z.2.1⟩
    refine⟨λb hb=>?_,λb hb o e=>(g b hb o e).1,(I7.pin (D,{ cls:=.type "list",data:=.seq its.toArray k }) (List.mem_append_right _ (by simp))).1,(I7.pin (D,{ cls:=.type "list",data:=.seq its.toArray k }) (List.mem_append_right _ (by simp))).2.1⟩
    obtain⟨o,e,_⟩:=T.obj _ _ st5 b hb
    exact (g b hb o e).2
   have hte:PTs X' ifs tt:=hX▸ht C s H fp
   have hee:PE X' elt te:=hX▸he C s H fp
   refine ev (thn (hte _ s6 _ H6 _ I6 q6) λb s7 ⟨H7,I7,q7⟩=>?_)
   cases b with
   | false =>
    rw [if_neg Bool.false_ne_true]
    rw [if_neg Bool.false_ne_true] at q7
    obtain⟨m',hm,w7⟩:=hNN _ _ q7
    obtain⟨g1,g2,g3,g4⟩:=fps I7
    exact⟨m',hm,i+1,zs,its,k,H7,back (σ':=[]) I7,T.keep _ _ _ st5 g2,g1,g3,v3,g4,z3,w7⟩
   | true =>
    rw [if_pos rfl]
    rw [if_pos rfl] at q7
    refine ev (thn (hee _ s7 _ H7 _ I7 q7) λu8 s8 ⟨v8,H8,I8,r8,q8⟩=>?_)
    obtain⟨m',hm,w8⟩:=hNN _ _ q8
    obtain⟨g1,g2,g3,g4⟩:=fps I8
    have hil:=v3.length
    refine call_meets F.slot_list_append ⟨_,g3,rfl⟩ F.entry_list_append (F.args_list_append_2 _ _) (PySem.list_append D its.toArray k u8 (by rw [List.size_toArray];omega)) ⟨g3,?_⟩
    have q:=PySem.IsL.update g3 (λa=>a.push u8)
    have ea:its.toArray.push u8=(its++[u8]).toArray:=by simp
    rw [ea] at q
    have kk:∀ b o,b≠D->s8.heap.get? b=some o->(s8.heap.update D (Obj.mapSeq λa=>a.push u8)).get? b=some o:=λb o hb e=>(Heap.get?_update_other _ _ (Ne.symm hb)).trans e
    have I9:Inv X' [] (nones xs++xG js Z) H8 { s8 with heap:=s8.heap.update D (Obj.mapSeq λa=>a.push u8),toks:=s8.toks }:=by
     refine (back (σ':=[]) I8).turned kk g4 (by rw [eL];exact hDC) (.inr (by rw [eS];omega)) (λy c e=>Nat.ne_of_lt (cellLt y c e)) λp hp=>?_
     rw [ePn] at hp
     exact absurd hp (by simp)
    refine⟨m',hm,i+1,zs++[v8],its++[u8],_,H8,I9,T.keep _ _ _ st5 (λb hb o e=>kk b o (Nat.ne_of_lt (fplt b hb)) (g2 b hb o e)),g1,q,v3.append (.cons r8 .nil),g4,?_,w8⟩
    rw [List.length_append,List.length_singleton]
    omega
 rw [eE] at loop
 exact codeAny_compStart_list loop (T.self _ 0 _ _ _ (T.keep _ _ _ st (λb hb o e=>old b o e)) loop)
theorem zat {i:Nat} {y:Str} {py spos:Pos} (S:Vp X.env.scope scope xs X.N ys js) (hc:X.calm=true) (hN:X.N.Nodup) (hy:X.N[i]?=some y) (hl:Loc X.env.scope y) (hi:PI X tg iter wi) (hg:∀ C s₀ H₀ ex,PG (cxC X (xs++ys) scope C s₀ H₀ ex) tg g) (ht:∀ C s₀ H₀ ex,PTs (cxC X (xs++ys) scope C s₀ H₀ ex) ifs tt) (he:∀ C s₀ H₀ ex,PE (cxC X (xs++ys) scope C s₀ H₀ ex) elt te)
  (hf:X.fn y=true\/X.env.scope.names.lookup y=some .local:=by first | exact .inl rfl | exact .inr rfl | assumption)
  (hsw:swapsWith (.ListComp elt [⟨tg,iter,ifs,0⟩] scope pos) (some (.Name y py)) spos.line X.env=pure true:=by rfl)
  (hs:∀ x,foldedSetIterable iter X.env x=pure x:=by intro _;rfl):PS X (.Assign [.Name y py] (.ListComp elt [⟨tg,iter,ifs,0⟩] scope pos) spos) (U6 (zfk wi xs js g tt te) (jJ i)):=by
 intro pins s Z H D I h
 rw [exec_Assign_Name_used _ _ _ _ hsw]
 refine wpAny_bind (wpAny_standAt (wpAny_bind ?_))
 show wpAny _ X.A (do let _ <- comprehension (.ListComp elt [⟨tg,iter,ifs,0⟩] scope pos) scope X.env _ (newList []) false (eval iter X.env) (some (assign (.Name y py) X.env))) _ _ s
 refine wpAny_bind (wpAny_mono (wpAny_comprehension_free (use:=some (assign (.Name y py) X.env)) (Q:=λ_ s'=>SP X pins D .next s') rfl hs (jt λy hy e=>I.ok.has _ (S.free y hy e)) S.kind S.loc
  (thn (hi pins s Z H _ I h) λv s1 h1=>thn h1 λitv s2 h2=>?_)) (λ_ s' hq=>wpAny_pure (wpAny_pure hq)) λ_ _ e=>e)
 obtain⟨it,fp,tn,J,H2,e,I2,T,st2,f2,hw⟩:=h2
 subst e
 refine zaC (Q:=λv H'=>jJ i v Z H' D.nx) (R:=λacc C=>compPost (model X.prog X.w) X.A X.xe (some (assign (.Name y py) X.env)) (λ_ s'=>SP X pins D .next s') acc C) S hc hg ht he I2 T st2 f2 hw ?_
 intro Da C s' H' m' I' q hC hn hns
 have e:=I2.fpOk hC hn
 show wpAny _ X.A (assign (.Name y py) X.env (.ref Da)) _ _ _
 refine wpAny_assign_Name (WN I' hN hy hl (show RelV (.ref Da) (.ref Da) from rfl) (λs2' I3 ⟨a,sb,ha⟩=>?_) hf)
 have hCa:C≠a:=by
  rcases ha with z | z
  ·rw [z];exact e.2.1
  ·intro w;exact e.2.2.2.2.1 _ _ z w.symm
 refine⟨m',hns.sameBut sb hCa,λh' hs'=>⟨_,H',?_,q⟩⟩
 exact I3.turned (t':=s2'.toks) (λb o hb e=>(hs'.2 b hb).trans e) hn e.2.1 e.2.2.2.1 e.2.2.2.2.1 e.2.2.2.2.2
end
theorem zfd {X:Cx} (K:W.Frag) {es:List Expr} {k:Nat} {t:TGs} {pos:Pos} (n:Nat) (hc:X.calm=true) (h:PGs X es t) (e:X.K=K:=by rfl)
  (hn:(assignEach es X.env).length=n:=by rfl) (hst:(assignEach es X.env).findIdx? (·.1)=none:=by rfl):PG X (.Tuple es k pos) (zfC K n t):=by subst e;exact Ut hc h hn hst
theorem wI {X:Cx} (K:W.Frag) {e:Expr} {f:Str} {pos:Pos} {ta:TE} (he:PE X e ta) (hb:attributeBase e f X.env (eval e X.env)=eval e X.env:=by rfl) (ek:X.K=K:=by rfl):PE X (.Attribute e f pos) (zgl K ta f):=by subst ek;exact zfl he hb
structure Mt (K:W.Frag) (C:Addr) (q x:Str) (st:Stmt) (ps:List Str) (f:Addr) (fd:FuncData):Prop where
 fn:Fun K x q st f fd
 b:Binds K fd ps []
 m:Meth K C x f
theorem Yc {X:Cx} {C:Addr} {q x:Str} {st:Stmt} {ps:List Str} {f:Addr} {fd:FuncData} {k:Nat} {sp:Sp} {o e:Expr} {es:List Expr} {ta:TE} {t:TA} {apos pos:Pos} {pl:Sem Bool} (D:Mt X.K C q x st ps f fd) (c:Cls X.K C) (G:FnOk X.prog X.w X.K X.mg X.base CX0 k f fd ps sp) (hr:Room k X.A) (he:PE X o ta) (ha:PA X (e :: es) t)
  (hst:starEach (e :: es) X.env=(false,eval e X.env) :: starEach es X.env:=by rfl) (hpl:(backTo pos (starEach es X.env)).any (·.1)=false:=by rfl)
  (ht:eval (.Call (.Attribute o x apos) (e :: es) [] pos) X.env=(do
   let ov <- eval o X.env
   standAt apos.atName
   let (f,first) <- holding [ov] (getMethod ov x pl)
   callWith pos f first (backTo pos (starEach (e :: es) X.env)) (backToKw pos (keywordEach [] X.env))):=by rfl):PE X (.Call (.Attribute o x apos) (e :: es) [] pos) (zbM C x sp [] E0 ta t) :=
 zed he c D.m G hr D.b .nil Qv ha hst hpl ht
theorem zfD {X:Cx} {C:Addr} {q x:Str} {st:Stmt} {ps:List Str} {f:Addr} {fd:FuncData} {k:Nat} {sp:Sp} {o:Expr} {ta:TE} {apos pos:Pos} {pl:Sem Bool} (D:Mt X.K C q x st ps f fd) (c:Cls X.K C) (G:FnOk X.prog X.w X.K X.mg X.base CX0 k f fd ps sp) (hr:Room k X.A) (he:PE X o ta)
  (ht:eval (.Call (.Attribute o x apos) [] [] pos) X.env=(do
   let ov <- eval o X.env
   standAt apos.atName
   let (f,first) <- holding [ov] (getMethod ov x pl)
   callWith pos f first (backTo pos (starEach [] X.env)) (backToKw pos (keywordEach [] X.env))):=by rfl):PE X (.Call (.Attribute o x apos) [] [] pos) (zbM C x sp [] E0 ta qD) :=
 zdn he c D.m G hr D.b .nil Qv ht
structure zbv (mg:Str->Option Value):Prop where
 n_sum:mg "sum" = none
 n_abs:mg "abs" = none
 n_zip:mg "zip" = none
 n_str:mg "str" = none
section
variable {X:Cx} {tg:Expr}
end
section
variable {X:Cx}
end
structure zgC (sc:Scope) (scope:Scope) (x:Str) (M:List Str) (ys:List Str) (js:List Nat):Prop where
 kind:scope.kind=.function
 cell:∀ y∈scope.names,y.2=.cell->y.1=x
 loc:∀ y∈scope.names,y.2=.local->scope.names.lookup y.1=some .local
 var:scope.names.lookup x=some .cell
 free:∀ y∈scope.names,y.2=.free->sc.names.lookup y.1=some .cell\/sc.names.lookup y.1=some .free
 caps:js.map (M[·]?)=ys.map some
 fr:∀ y∈ys,scope.names.lookup y=some .free
 nd:(x :: ys).Nodup
 own:∀ n acc,cellsFrom n scope.names acc=(x,n) :: acc
 psh:∀ h:Heap,pushCells h scope.names=h.push { cls:=.type "cell",data:=.cell none }
theorem tU {env:Env}:∀ {names:List (Str×NameKind)} {x:Str},names.lookup x=some .cell ->
  (names.map λ(n,k)=>if (k == NameKind.free && env.scope.kind == .function && env.kindOf n == some .cell) then (n,NameKind.cell) else (n,k)).lookup x=some .cell
 | [],_,h=>by simp at h
 | (n,k) :: r,x,h=>by
  have ih:=@tU env r x
  rw [List.map_cons]
  have e:∀ b:Bool,(if b=true then (n,NameKind.cell) else (n,k)).1=n:=λb=>by cases b<;>rfl
  generalize hb:(k == NameKind.free && env.scope.kind == .function && env.kindOf n == some .cell)=b
  simp only [hb]
  rw [List.lookup_cons] at h
  cases hx:x == n with
  | true =>
   rw [hx] at h
   have hk:k=.cell:=Option.some.inj h
   cases b<;>simp [List.lookup_cons,hx,hk]
  | false =>
   rw [hx] at h
   cases b<;>(simp only [if_true,Bool.false_eq_true,if_false,List.lookup_cons,hx];exact ih h)
section
variable {X:Cx} {pins:List (Addr×Obj)} {Z:St} {H:Hp} {s:Shared}
end
section
variable {X:Cx} {elt iter:Expr} {ifs:List Expr} {x:Str} {px pos:Pos} {scope:Scope} {ys:List Str} {js:List Nat} {wi:TI} {tt:TT} {te:TE}
end
theorem tR {env:Env}:∀ {names:List (Str×NameKind)} {x:Str},names.lookup x=some .free ->
  (names.map λ(n,k)=>if (k == NameKind.free && env.scope.kind == .function && env.kindOf n == some .cell) then (n,NameKind.cell) else (n,k)).lookup x=some .cell\/(names.map λ(n,k)=>if (k == NameKind.free && env.scope.kind == .function && env.kindOf n == some .cell) then (n,NameKind.cell) else (n,k)).lookup x=some .free
 | [],_,h=>by simp at h
 | (n,k) :: r,x,h=>by
  have ih:=@tR env r x
  rw [List.map_cons]
  generalize hb:(k == NameKind.free && env.scope.kind == .function && env.kindOf n == some .cell)=b
  simp only [hb]
  rw [List.lookup_cons] at h
  cases hx:x == n with
  | true =>
   rw [hx] at h
   have hk:k=.free:=Option.some.inj h
   cases b<;>simp [List.lookup_cons,hx,hk]
  | false =>
   rw [hx] at h
   cases b<;>(simp only [if_true,Bool.false_eq_true,if_false,List.lookup_cons,hx];exact ih h)
theorem CScope.re {sc scope:Scope} {env:Env} {x:Str} {M ys:List Str} {js:List Nat} (S:CScope sc scope x M ys js):CScope (relabel sc env) scope x M ys js :=
 ⟨S.kind,S.cell,S.loc,S.var,λy hy e=>(S.free y hy e).elim (λz=>.inl (tU z)) λz=>tR z,S.caps,S.fr,S.nd⟩
def zgQ (t:TS):TS:=λD Z H=>∃ P:St->Hp->Prop,t { D with nx:=P } Z H/\∀ σ' H',P σ' H'->D.nx σ' H'
theorem zfa {X:Cx} {st:Stmt} {t:TS} (h:PS X st t):PS X st (zgQ t):=by
 intro pins s Z H D I hw
 obtain⟨P,h1,h2⟩:=hw
 refine thn (h pins s Z H _ I h1) λf s1 q=>?_
 cases f with
 | next=>obtain⟨σ',H',I',q⟩:=q;exact⟨σ',H',I',h2 _ _ q⟩
 | ret v=>exact q
 | brk=>exact q
 | cont=>exact q
theorem yW {X:Cx} {x:Str} {j} {pos:Pos} {es:List Expr} {t:TA} (h:PA X es t):PA X (.Constant (.str x) j pos :: es) (yQ (tC (.str x)) t):=zf tK h rfl
theorem zd3 {X:Cx} {i:Nat} {x:Str} {es:List Expr} {t:TA} {pos' lp pos:Pos} (hN:X.N.Nodup) (hi:X.N[i]?=some x) (hx:Loc X.env.scope x) (h:PA X es t) (hf:X.fn x=true\/X.env.scope.names.lookup x=some .local:=by first | exact .inl rfl | exact .inr rfl | assumption) :
  PS X (.Assign [.Name x pos'] (.List es lp) pos) (U6 (UT t) (jJ i)):=zG hN hi hx (zQ h) rfl hf
theorem zbW (xs:List V) (m:Nat):qH xs none (some (m:Int))=xs.take m:=by
 unfold qH
 rw [HT.Wf,HT.V6,List.drop_zero,Nat.sub_zero]
 by_cases h:m<=xs.length
 ·rw [Nat.min_eq_left h]
 ·rw [Nat.min_eq_right (by omega),List.take_of_length_le (Nat.le_refl _),List.take_of_length_le (by omega)]
def zdk (n:Addr->Prop) (h:Heap) (e:Addr) (c:Value):Prop :=
 ∃ (oe oT:Obj) (vs ts:Array Value) (a0:Value) (T:Addr),h.get? e=some oe/\oe.cls=c/\oe.data=.fields vs/\vs[0]?=some a0/\vs[1]?=some (.ref T)/\n T/\T≠e/\h.get? T=some oT/\oT.data=.fields ts/\ts[3]?=some .none
def CX1 (P:Program) (w:World):CXT:=λouter H s E e s' =>
 ∃ (ea:Addr) (c:Value) (H':Hp),e=.ref ea/\s'.os=s.os/\AllBare s'.gens/\Un (frs outer) [] H H' s.heap s'.heap/\HOk P w H' s'.heap/\s.heap.get? ea=none/\H' ea=none /\
  zdk (λT=>s.heap.get? T=none/\H' T=none) s'.heap ea c/\E c none H'
def zeO (X:Cx) (Ex:St->XK):Prop:=∀ (pins:List (Addr×Obj)) (Z:St) (H:Hp) (s:Shared) (h':Heap) (ea:Addr) (c:Value) (vs:List Value),Inv X pins Z H s->Heap.MadeExcOf s.heap h' ea c vs->Ex Z c none H->X.xe (.ref ea) { s with heap:=h' }
def QC (X:Cx) (Ex:St->XK):Prop:=∀ (pins:List (Addr×Obj)) (Z:St) (H:Hp) (s:Shared) (e:Value) (s':Shared),Inv X pins Z H s->CX1 X.prog X.w X.stack H s (Ex Z) e s'->X.xe e s'
theorem FnOk.up {P:Program} {w:World} {K:W.Frag} {mg:Str->Option Value} {base:Heap} {CX:CXT} {k:Nat} {f:Addr} {fd:FuncData} {ps:List Str} {sp:Sp} (F:FnOk P w K mg base CX0 k f fd ps sp):FnOk P w K mg base CX k f fd ps sp :=
 ⟨F.len,λA outer s H args us vs Q E hr e0 hb hv hs=>codeAny_mono (F.run A outer s H args us vs Q E hr e0 hb hv hs) λr s' q=>by
  cases r with
  | error e=>exact False.elim q
  | ok fl=>cases fl<;>exact q⟩
theorem ObjOk.thereO {P:Program} {w:World} {H:Hp} {h:Heap} {a:Addr} {o:HO} (x:ObjOk P w H h a o):∃ u,h.get? a=some u:=by
 cases o with
 | lst xs=>obtain⟨_,_,_,_,e⟩:=x;exact⟨_,e⟩
 | tup xs=>obtain⟨_,_,_,o,e,_⟩:=x;exact⟨_,e⟩
 | dK kvs=>obtain⟨_,_,_,_,o,_,_,e,_⟩:=x;exact⟨_,e⟩
 | dT kvs=>obtain⟨_,_,_,_,o,_,_,e,_⟩:=x;exact⟨_,e⟩
 | set S n=>obtain⟨o,_,_,_,e,_⟩:=x;exact⟨_,e⟩
 | ins C dx fs=>obtain⟨_,_,_,e,_⟩:=x;exact⟨_,e⟩
 | own y=>exact x
 | xd fs=>obtain⟨_,⟨_,_,_,e,_⟩,_⟩:=x;exact⟨_,e⟩
 | rng lo hi=>obtain⟨_,_,_,e⟩:=x;exact⟨_,e⟩
 | frz ob u=>obtain⟨e,_⟩:=x;exact⟨_,e⟩
 | tbl ps=>exact⟨_,(show h.get? a=some _ from x)⟩
 | met f y=>exact⟨_,(show h.get? a=some _ from x)⟩
 | ext φ=>obtain⟨_,e,_⟩:=x;exact e
theorem HOk.off {P:Program} {w:World} {H:Hp} {h:Heap} {a:Addr} (x:HOk P w H h) (e:h.get? a=none):H a=none:=by
 cases q:H a with
 | none=>rfl
 | some o=>obtain⟨u,z⟩:=(x a o q).thereO;rw [e] at z;cases z
section
variable {X:Cx} {pins:List (Addr×Obj)} {Z:St} {H H':Hp} {s s':Shared} {h' B:Heap} {ea:Addr} {c a0:Value}
def Ui (X:Cx) (H':Hp) (s s':Shared) (B:Heap):Prop:=∀ b o,s'.heap.get? b=some o->((∃ u,s.heap.get? b=some u)\/H' b≠none)->b∉frs X.stack->B.get? b=some o
theorem zaB (I:Inv X pins Z H s) (un:Un (frs X.stack) [] H H' s.heap s'.heap):∀ b∈frs X.stack,H' b=none:=λb hb=>by
 obtain⟨_,o,ho,_⟩:=I.stack.mem hb
 exact un.free b o ho (I.stkFree b hb) (by simp)
theorem zbb (I:Inv X pins Z H s) (un:Un (frs X.stack) [] H H' s.heap s'.heap) (hok:HOk X.prog X.w H' s'.heap) (hB:Ui X H' s s' B) (st:B.StaysIn h') (up:s'.heap.UpToSlots h') :
  Un (frs X.stack) [] H H' s.heap h'/\HOk X.prog X.w H' h':=by
 have fr:=zaB I un
 have sl:∀ b o,s.heap.get? b=some o->b∈frs X.stack->∃ q,h'.get? b=some { o with slots:=q }:=λb o e hb=>by
  obtain⟨_,o2,ho,hd⟩:=I.stack.mem hb
  rw [e] at ho;cases ho
  obtain⟨q,e1⟩:=un.slot b o e (I.stkFree b hb) hb (by simp)
  obtain⟨q2,e2⟩:=up b _ e1 hd
  exact⟨q2,e2⟩
 refine⟨⟨λb o e n hb _=>?_,λb o e _ hb _=>sl b o e hb,λb o e n _=>un.free b o e n (by simp),λb o e _=>?_,un.tups,un.frzs,un.tbls⟩,λa o e=>?_⟩
 ·exact st b o (hB b o (un.keep b o e n hb (by simp)) (.inl ⟨o,e⟩) hb)
 ·by_cases hb:b∈frs X.stack
  ·obtain⟨q,e1⟩:=sl b o e hb
   exact⟨_,e1⟩
  ·obtain⟨o1,e1⟩:=un.there b o e (by simp)
   exact⟨o1,st b o1 (hB b o1 e1 (.inl ⟨o,e⟩) hb)⟩
 ·refine (hok a o e).stay (λb u hc q=>?_) (λ_ q=>q) λ_ _ q=>q
  have nb:H' b≠none:=by
   rcases hc with z | z
   ·rw [z,e];intro z2;cases z2
   ·rw [z];intro z2;cases z2
  exact st b u (hB b u q (.inr nb) λhb=>nb (fr b hb))
theorem zf4 (I:Inv X pins Z H s) (un:Un (frs X.stack) [] H H' s.heap s'.heap) (hok:HOk X.prog X.w H' s'.heap) (hB:Ui X H' s s' B) (st:B.StaysIn h') (up:s'.heap.UpToSlots h') (t:h'.TracedW B ea c a0) :
  zdk (λT=>s.heap.get? T=none/\H' T=none) h' ea c:=by
 have fr:=zaB I un
 obtain⟨oe,vs,T,oT,ts,he,⟨hc,h0⟩,hd,h1,hnT,hTe,hT,hdT,h3⟩:=t
 have nF:T∉frs X.stack:=λhb=>by
  obtain⟨_,o,ho,hd⟩:=I.stack.mem hb
  obtain⟨q,e1⟩:=un.slot T o ho (I.stkFree T hb) hb (by simp)
  obtain⟨q2,e2⟩:=up T _ e1 hd
  rw [hT] at e2;cases e2
  exact hd _ hdT
 refine⟨oe,oT,vs,ts,a0,T,he,hc,hd,h0,h1,⟨?_,?_⟩,hTe,hT,hdT,h3⟩
 ·cases q:s.heap.get? T with
  | none=>rfl
  | some o =>
   obtain⟨o1,e1⟩:=un.there T o q (by simp)
   have:=hB T o1 e1 (.inl ⟨o,q⟩) nF
   rw [hnT] at this;cases this
 ·cases q:H' T with
  | none=>rfl
  | some o =>
   obtain⟨o1,e1⟩:=(hok T o q).thereO
   have:=hB T o1 e1 (.inr (by rw [q];intro z;cases z)) nF
   rw [hnT] at this;cases this
theorem zbL {E:XK} (I:Inv X pins Z H s) (hx:X.ex=[]) (os:s'.os=s.os) (bare:AllBare s'.gens) (un:Un (frs X.stack) [] H H' s.heap s'.heap) (hok:HOk X.prog X.w H' s'.heap) (n0:s.heap.get? ea=none) (n1:H' ea=none)
  (hB:Ui X H' s s' B) (st:B.StaysIn h') (t:h'.TracedW B ea c a0) (up:s'.heap.UpToSlots h') (hE:E c none H'):CX1 X.prog X.w X.outer X.H₀ X.s₀ E (.ref ea) { s' with heap:=h' }:=by
 obtain⟨u1,k1⟩:=zbb I un hok hB st up
 have J:Inv X pins Z H' { s' with heap:=h' }:=I.call' (ch:=[]) os u1 k1 bare λb z=>absurd z (by simp)
 have off:∀ b,s.heap.get? b=none->X.s₀.heap.get? b=none:=λb e=>by
  cases q:X.s₀.heap.get? b with
  | none=>rfl
  | some o =>
   obtain⟨o1,e1⟩:=I.base.there b o q (by rw [hx];simp)
   rw [e] at e1;cases e1
 have ub:=J.base
 rw [hx] at ub
 obtain⟨oe,oT,vs,ts,a1,T,he,hc,hd,h0,h1,⟨hn,hm⟩,r⟩:=zf4 I un hok hB st up t
 exact⟨ea,c,H',rfl,J.os,J.bare,ub,k1,off ea n0,n1,⟨oe,oT,vs,ts,a1,T,he,hc,hd,h0,h1,⟨off T hn,hm⟩,r⟩,hE⟩
theorem zbi {Ts:List Addr} (n0:s.heap.get? ea=none) (n1:H' ea=none) (nT:∀ T∈Ts,s.heap.get? T=none/\H' T=none):Ui X H' s s' (W.hideAll s'.heap (ea :: (Ts++frs X.stack))):=λb o e hb hf=>by
 refine W.hideAll_get _ e λhm=>?_
 have bad:∀ a,s.heap.get? a=none->H' a=none->b≠a:=λa h1 h2 z=>by
  subst z
  rcases hb with ⟨u,q⟩ | q
  ·rw [h1] at q;cases q
  ·exact q h2
 rcases List.mem_cons.mp hm with z | hm
 ·exact bad ea n0 n1 z
 ·rcases List.mem_append.mp hm with z | z
  ·exact bad b (nT b z).1 (nT b z).2 rfl
  ·exact hf z
theorem VD (I:Inv X pins Z H s) (os:s'.os=s.os) (bare:AllBare s'.gens) (un:Un (frs X.stack) [] H H' s.heap s'.heap) (hok:HOk X.prog X.w H' s'.heap) {as:List Addr} (ha:∀ b∈frs X.stack,b∈as):s'.heap.FunFrames (W.hideAll s'.heap as) X.stack:=by
 have J:Inv X pins Z H' s':=I.call' (ch:=[]) os un hok bare λb z=>absurd z (by simp)
 exact W.funFrames_hide J.stack λenv he b hb=>ha b (List.mem_filterMap.mpr ⟨env,he,hb⟩)
theorem zbY (I:Inv X pins Z H s) (os:s'.os=s.os) (bare:AllBare s'.gens) (un:Un (frs X.stack) [] H H' s.heap s'.heap) (hok:HOk X.prog X.w H' s'.heap) (n0:s.heap.get? ea=none) (n1:H' ea=none)
  (t:zdk (λT=>s.heap.get? T=none/\H' T=none) s'.heap ea c):∃ B a0,Ui X H' s s' B/\Heap.FlyingW B X.stack ea c a0 s'.heap:=by
 obtain⟨oe,oT,vs,ts,a0,T,he,hc,hd,h0,h1,⟨hn,hm⟩,hTe,hT,hdT,h3⟩:=t
 refine⟨W.hideAll s'.heap (ea :: ([T]++frs X.stack)),a0,zbi n0 n1 (λb hb=>by rw [List.mem_singleton.mp hb];exact⟨hn,hm⟩),λb o q=>W.of_hideAll _ q,W.hideAll_none _ (by simp),VD I os bare un hok (by intro b hb;simp [hb]),?_⟩
 exact⟨oe,vs,T,oT,ts,he,⟨hc,h0⟩,hd,h1,W.hideAll_none _ (by simp),hTe,hT,hdT,h3⟩
end
theorem uA {P:Program} {w:World} {K:W.Frag} {mg:Str->Option Value} {base:Heap} {N:List Str} {qual:Str} {scope:Scope} {f:Addr} {cd:Value} {A:Around} {outer:List Env} {s₀:Shared} {H₀:Hp} {E:XK} :
  QC (YG (CX1 P w) P w K mg base N qual scope f cd A outer s₀ H₀ E) λ_=>E:=by
 intro pins Z H s e s' I hcx
 obtain⟨ea,c,H',rfl,os,bare,un,hok,n0,n1,t,hE⟩:=hcx
 obtain⟨B,a0,hB,fl⟩:=zbY I os bare un hok n0 n1 t
 show wpAny _ _ (leaving (envOfC qual scope s₀.heap.objs.size f cd) (.ref ea)) _ _ s'
 refine wpAny_leaves_onW I.ok.frames rfl fl λh2 fl2 up=>?_
 exact zbL I rfl os bare un hok n0 n1 hB fl2.1 fl2.2.2.2 up hE
theorem jF {P:Program} {w:World} {K:W.Frag} {mg:Str->Option Value} {base:Heap} {N:List Str} {qual:Str} {scope:Scope} {f:Addr} {cd:Value} {A:Around} {outer:List Env} {s₀:Shared} {H₀:Hp} {E:XK} :
  zeO (YG (CX1 P w) P w K mg base N qual scope f cd A outer s₀ H₀ E) λ_=>E:=by
 intro pins Z H s h' ea c vs I hm hE
 show wpAny _ _ (leaving (envOfC qual scope s₀.heap.objs.size f cd) (.ref ea)) _ _ _
 refine wpAny_leaves_madeW (s:={ s with heap:=h' }) (base:=W.hideAll s.heap (frs (YG (CX1 P w) P w K mg base N qual scope f cd A outer s₀ H₀ E).stack)) I.ok.frames rfl (λb o q=>W.of_hideAll _ q)
  (VD I rfl I.bare Un.refl I.hok λb hb=>hb) hm λh2 t fl _ _ up=>?_
 refine zbL (s':={ s with heap:=h' }) I rfl rfl I.bare (Un.kept hm.keeps) (I.hok.kept hm.keeps) hm.new (I.hok.off hm.new) (λb o e hb hf=>?_) fl.1 fl.2.2.2 up hE
 refine W.hideAll_get _ ?_ hf
 rcases hb with ⟨u,q⟩ | q
 ·have z:=hm.keeps b u q
  rw [show h'.get? b=some o from e] at z;cases z;exact q
 ·cases r:H b with
  | none=>exact absurd r q
  | some x =>
   obtain⟨u,q⟩:=(I.hok b x r).thereO
   have z:=hm.keeps b u q
   rw [show h'.get? b=some o from e] at z;cases z;exact q
abbrev veT:List Value:=[.type "ValueError",.type "Exception",.type "BaseException",.type "object"]
structure W9 (K:W.Frag) (mg:Str->Option Value) (x:Str) (C:Addr):Prop where
 g:mg x=some (.ref C)
 ok:W.excIn K C veT "ValueError.__new__" = true
theorem zeA {K:W.Frag} {h:Heap} {C:Addr} {bmB:List Value} {newId:String} (X:K.In h) (q:W.excIn K C bmB newId=true) :
  ∃ (bm bs:List Value) (N:Addr) (nm qn:Str) (hd ab:Bool) (sn:List Str) (sub:List Value) (col:Option Bool) (dd:Option Addr) (k0 k1 k2 k3 k5:Option Value) (mN:Str->Option Value),
   h.get? C=some (excClassObj nm qn C N bs bm hd sn sub ab col dd k0 k1 k2 k3 k5 newId)/\h.Ns N mN/\mN "__init__" = none/\OwnTail h bmB bm:=by
 unfold W.excIn at q
 split at q
 ·rename_i dd cd sl e
  split at q
  ·rename_i C2 bm k0 k1 k2 k3 n k5 hm hs
   rw [Bool.and_eq_true,Bool.and_eq_true,Bool.and_eq_true,Bool.and_eq_true,Bool.and_eq_true] at q
   have z1:=eq_of_beq q.1.1.1.1.1
   have z2:=eq_of_beq q.1.1.1.1.2
   have z3:cd.hasDel=false:=by simpa using q.1.1.1.2
   cases cd with
   | mk nm bs mro ns qn hd sn sub ab col del =>
    cases sl with
    | mk l =>
     have hs':l=_:=hs
     have hm':mro=_:=hm
     have z3':del=false:=z3
     subst hs' hm' z3' z1 z2
     exact⟨bm,bs,ns,nm,qn,hd,ab,sn,sub,col,dd,k0,k1,k2,k3,k5,_,X _ _ e,Heap.Ns.of_isNs (W.isNs_of_in X q.1.2),W.nsMap_none_of_in X q.1.2 (eq_of_beq q.2),W.tail_of_in X q.1.1.2⟩
  ·cases q
 ·cases q
def zfz (c:Value) (Ex:St->XK) (t:TA):TS:=λ_ Z H=>t Z H λvs H1=>vs.length<=sizeLine/\Ex Z c none H1
theorem jK {X:Cx} {x:Str} {C:Addr} {Ex:St->XK} {e:Expr} {es:List Expr} {t:TA} {np cpos pos:Pos} (O:W9 X.K X.mg x C) (hx:zeO X Ex) (hc:X.calm=true) (ha:PA X (e :: es) t) (hg:Gl X x:=by rfl) (hdb:(x == ("__debug__" : Str))=false:=by decide)
  (he:starEach (e :: es) X.env=(false,eval e X.env) :: starEach es X.env:=by rfl) (hpl:(backTo cpos (starEach (e :: es) X.env)).any (·.1)=false:=by rfl):PS X (.Raise (some (.Call (.Name x np) (e :: es) [] cpos)) none pos) (zfz (.ref C) Ex t):=by
 intro pins s Z H D I h
 obtain⟨bm,bs,N,nm,qn,hd,ab,sn,sub,col,dd,k0,k1,k2,k3,k5,mN,hC,hN,hni,T⟩:=zeA (h:=X.base) I.ok.mod.kin O.ok
 refine wpAny_Raise_call_subT (C:=C) (nm:=nm) (q:=qn) (N:=N) (bs:=bs) (bm:=bm) (hdct:=hd) (sn:=sn) (sub:=sub) (ab:=ab) (col:=col) (dd:=dd) (k0:=k0) (k1:=k1) (k2:=k2) (k3:=k3) (k5:=k5)
  PySem.F.excBase_ValueError (mN:=mN) (T.hasType PySem.F.excBase_ValueError.hasBase) (I.ok.hd hc) hpl hni (jV I hg O.g ⟨rfl,?_⟩ hdb)
 have ha':=ha cpos pins s Z H _ I h
 rw [he] at ha' ⊢
 refine Calls.evalArgs_plain (thn ha' λus s1 ⟨vs,H1,I1,r,hz,q⟩=>?_)
 exact⟨rfl,by rw [<- r.length];exact hz,I1.bk _ _ hC,hN.keeps I1.bk,T.keeps I1.bk,λh' ea hm=>hx pins Z H1 s1 h' ea (.ref C) us I1 hm q⟩
def ze7 (sp:Sp) (Ex:St->XK) (t:TA):TE:=λZ H Q=>t Z H λvs H1=>sp vs H1 Q (Ex Z)
theorem zbG {X:Cx} {k:Nat} {f:Addr} {fd:FuncData} {ps:List Str} {sp:Sp} {Ex:St->XK} {pins:List (Addr×Obj)} {Z:St} {H:Hp} {s:Shared} {Q:VK} {us:List Value} {vs:List V} (F:FnOk X.prog X.w X.K X.mg X.base (CX1 X.prog X.w) k f fd ps sp) (hr:Room k X.A) (hb:Binds X.K fd ps []) (hx:QC X Ex)
  (I:Inv X pins Z H s) (r:Vals vs us) (h:sp vs H Q (Ex Z)):wpAny (model X.prog X.w) X.A (call (.ref f) us) (EP X pins Z Q) X.xe s:=by
 have hl:us.length=ps.length:=by rw [<- r.length];exact F.len _ _ _ _ h
 have hb':=hb s us I.kIn (by rw [List.append_nil];exact hl)
 rw [List.append_nil] at hb'
 refine wpAny_call (codeAny_mono (F.run X.A X.stack s H ⟨us,[]⟩ us vs Q (Ex Z) hr I.env0 hb' r h) λr s' hq=>?_)
 cases r with
 | error e=>exact hx pins Z H s e s' I hq
 | ok fl =>
  cases fl with
  | ret u=>exact I.after hq
  | next=>exact False.elim hq
  | brk=>exact False.elim hq
  | cont=>exact False.elim hq
theorem Y4 {X:Cx} {x:Str} {st:Stmt} {ps:List Str} {f:Addr} {fd:FuncData} {k:Nat} {sp:Sp} {Ex:St->XK} {e:Expr} {es:List Expr} {t:TA} {p pos:Pos} (D:Df X.K X.mg x st ps f fd) (G:FnOk X.prog X.w X.K X.mg X.base (CX1 X.prog X.w) k f fd ps sp) (hr:Room k X.A) (hx:QC X Ex) (ha:PA X (e :: es) t) (hg:Gl X x:=by rfl)
  (hdb:(x == ("__debug__" : Str))=false:=by decide) (he:starEach (e :: es) X.env=(false,eval e X.env) :: starEach es X.env:=by rfl) (hpl:(backTo pos (starEach es X.env)).any (·.1)=false:=by rfl):PE X (.Call (.Name x p) (e :: es) [] pos) (ze7 sp Ex t):=by
 intro pins s Z H Q I h
 refine wpAny_Call_Name_kw (jV I hg D.g ?_ hdb)
 refine W.callWith_K (h₀:=X.base) I.ok.mod.kin D.fn.kp (thn (ha pos pins s Z H _ I h) λus s1 ⟨vs,H1,I1,r,q⟩=>⟨I1.kIn,?_⟩) he hpl
 exact zbG G hr D.b hx I1 r q
theorem Fun.ok1 {P:Program} {w:World} {K:W.Frag} {mg:Str->Option Value} {base:Heap} {x qual:Str} {st:Stmt} {f:Addr} {fd:FuncData} {N ps:List Str} {k:Nat} {sp:Sp} (F:Fun K x qual st f fd) (S:zF N ps (zu st)) (len:∀ vs H Q E,sp vs H Q E->vs.length=ps.length)
  (hbody:∀ (cdv:Value) (A:Around) (outer:List Env) (s:Shared) (H:Hp) (vs:List V) (Q:VK) (E:XK),Room k (A.deeper (envOfC qual (zu st) s.heap.objs.size f cdv))->sp vs H Q E ->
   ∃ t,PSs (YG (CX1 P w) P w K mg base N qual (zu st) f cdv A outer s H E) (yR st) t/\t { nx:=λ_ H'=>Q .non H',rt:=Q } (start N vs) H):FnOk P w K mg base (CX1 P w) (k+1) f fd ps sp:=by
 obtain⟨oc,od,kV,doc,pm,an,cdv,ct,osl,rfl,lk,hcd⟩:=F.ex
 exact zdF lk hcd S len λA outer s H vs Q E hr hsp=>hbody cdv A outer s H vs Q E hr hsp
open PySem PySem.Spec PyProof.Rows Builtin Builtin.ObjectAttr Builtin.Getset_descriptor
structure Vi (K:W.Frag) (C:Addr):Prop where
 ga:W.findIn K (.ref C) "__getattribute__" = some (some (.builtin "BaseException.__getattribute__"))
 hk:W.findIn K (.ref C) "__getattr__" = some none
 at_:W.findIn K (.ref C) "__class__" = some (some (.builtin "object.__class__"))
 sp:W.specialIn K (.builtin "object.__class__") "__get__" = some (some (.builtin "getset_descriptor.__get__"))
 tk:W.takesIn K (.builtin "object.__class__")=some true
 mo:W.mroIn K C (.type "object")=some true
 mb:W.mroIn K C (.type "BaseException")=some true
def ExcAt (e C:Addr) (h:Heap):Prop:=∃ o,h.get? e=some o/\o.cls=.ref C
section
variable {prog:Program} {w:World} {A:Around} {K:W.Frag} {e C:Addr} {h:Heap}
theorem ExcAt.ty {M:Model} (x:ExcAt e C h):W.Looks M h (typeOf (.ref e)) (.ref C):=by
 obtain⟨o,h1,h2⟩:=x
 have L:W.Looks M h (typeOf (.ref e)) o.cls:=(W.Looks.ld h1).andThen .now
 rw [h2] at L
 exact L
theorem zaw {M:Model} (X:K.In h) (F:Vi K C):W.Looks M h (find (.ref e) (.ref C) "__class__") (.bind (.builtin "getset_descriptor.__get__") (.builtin "object.__class__")):=by
 have q3:W.Looks M h (dataDescriptor? (some (.builtin "object.__class__")) (some (.builtin "getset_descriptor.__get__"))) (some (.builtin "getset_descriptor.__get__",.builtin "object.__class__")):=(W.looks_takesIn X F.tk).andThen .now
 have q2:W.Looks M h (getOf (some (.builtin "object.__class__"))) (some (.builtin "getset_descriptor.__get__")):=W.looks_specialIn X F.sp
 exact (W.looks_findIn X F.at_).andThen (q2.andThen (q3.andThen (W.Looks.tag .now)))
theorem Jg {R:Result->Shared->Prop} {s:Shared} {tp:Value} (X:K.In s.heap) (x:ExcAt e C s.heap) (F:Vi K C) (q:R (.ok (.ret (.ref C))) s):codeAny (model prog w) A (.call (.builtin "getset_descriptor.__get__") ⟨[.builtin "object.__class__",.ref e,tp],[]⟩) R s:=by
 cases s with
 | mk hp gn dr tk os =>
  have y0:=x.ty (M:=model prog w)
  have y1:=W.looks_mroIn (M:=model prog w) X F.mo
  refine codeAny_call_builtin W.KF.slot_gs.plain W.KF.entry_gs (W.KF.slot_gs.check _ _ _ _ _ _ _ _ W.KF.type_class (W.KF.args_gs _ _ _) ?_)
  unfold «getset_descriptor.__get__» descrGet
  rw [W.dga_obj]
  refine wpAny_bind (wpAny_pure ?_)
  unfold descrGetter descrCheckInstance descrNameAndClass isInstance
  simp only [W.KF.owner_class]
  repeat lk
  refine⟨Code.quiet_builtin _ (by decide +kernel),codeAny_builtin W.KF.entry_class ?_⟩
  unfold «object.__class__» shownTypeOf
  repeat lk
  exact q
theorem ze8 {R:Result->Shared->Prop} {s:Shared} {t:Tok} (X:K.In s.heap) (x:ExcAt e C s.heap) (F:Vi K C) (q:R (.ok (.ret (.ref C))) s):codeAny (model prog w) A (.call (.builtin "BaseException.__getattribute__") ⟨[.ref e,.str "__class__" t],[]⟩) R s:=by
 cases s with
 | mk hp gn dr tk os =>
  have y0:=x.ty (M:=model prog w)
  have y3:=zaw (M:=model prog w) (e:=e) X F
  have y4:=W.looks_mroIn (M:=model prog w) X F.mb
  refine codeAny_call_builtin PySem.F.attr_ValueError.ga.plain PySem.F.entry_bexc_ga ?_
  have z1:builtinKind "BaseException.__getattribute__" = some .slot:=by decide +kernel
  have z2:splitId "BaseException.__getattribute__" = some ("BaseException","__getattribute__"):=by decide +kernel
  have z3:=PySem.F.args_bexc_ga (.ref e) (.str "__class__" t)
  simp only [checkBuiltinCall,z1,z2]
  refine wpAny_bind ?_
  unfold isInstance
  refine wpAny_bind (y0.at (y4.at ?_))
  repeat (any_goals (first | assumption | wp_step))
  obtain⟨o,h1,h2⟩:=id x
  refine wpAny_loadPart h1 (wpAny_pure ?_)
  rw [h2]
  refine wpAny_bind (y3.at ?_)
  dsimp only
  repeat (any_goals (first | assumption | with_reducible refine wpAny_holding ?_ | wp_step))
  exact Jg (s:=⟨hp,gn,dr,tk,os⟩) X x F (wpAny_pure q)
theorem zcz {E:Value->Shared->Prop} {Q:Option Value->Shared->Prop} {s:Shared} (X:K.In s.heap) (x:ExcAt e C s.heap) (F:Vi K C) (q:Q (some (.ref C)) { s with toks:=s.toks+1 }):wpAny (model prog w) A (getAttr? (.ref e) "__class__") Q E s:=by
 cases s with
 | mk hp gn dr tk os =>
  have y0:=x.ty (M:=model prog w)
  have y1:=W.looks_findIn (M:=model prog w) X F.ga
  have y2:=W.looks_findIn (M:=model prog w) X F.hk
  have y3:=zaw (M:=model prog w) (e:=e) X F
  have y4:=W.looks_mroIn (M:=model prog w) X F.mb
  unfold getAttr? getAttrBy? getAttrBy
  refine wpAny_bind (wpAny_mkText (wpAny_bind (wpAny_attempt (wpAny_holding (wpAny_bind (y0.at (wpAny_bind (y1.at ?_))))))))
  show wpAny _ _ (if (onTheHeap (.ref C) && (Value.builtin "BaseException.__getattribute__" == Value.builtin "object.__getattribute__"))=true then _ else _) _ _ _
  rw [show (Value.builtin "BaseException.__getattribute__" == Value.builtin "object.__getattribute__")=false from by decide +kernel,Bool.and_false,if_neg (by decide)]
  unfold getAttrByItsOwn hookBefore
  refine wpAny_bind ?_
  rw [if_pos (show onTheHeap (.ref C)=true from rfl)]
  refine y2.at (wpAny_bind (wpAny_attempt (wpAny_holding ?_)))
  unfold callGetattribute boundAndCalled
  rw [if_neg (by intro z;cases z)]
  refine wpAny_bind (wpAny_of_eq (PySem.F.attr_ValueError.ga.bind (.ref e)) ?_)
  exact wpAny_call (ze8 (s:=⟨hp,gn,dr,tk+1,os⟩) X x F (wpAny_pure (wpAny_pure q)))
theorem zds (F:Vi K C):W.KitX K (.ref e) (.ref C) (ExcAt e C) where
 ty:=λ_ _ _ x=>x.ty
 it:=λ_ _ X _=>by
  have z:=F.mo
  unfold W.mroIn W.clsIn at z
  split at z
  ·rename_i ho
   intro A1 Q1 E1 s1 k q
   unfold isType loadHead
   exact wpAny_bind (wpAny_loadPart (k _ _ (X _ _ ho)) (wpAny_pure q))
  ·cases z
 ne:=λh tp dd its n sl X htp=>by
  have z:=F.mo
  refine Bool.eq_false_iff.mpr λq=>?_
  have ec:C=tp:=Value.ref.inj (beq_iff_eq.mp q)
  subst ec
  unfold W.mroIn W.clsIn at z
  split at z
  ·rename_i ho
   have z2:=X _ _ ho
   rw [htp] at z2
   cases z2
  ·cases z
 ca:=λX x q=>zcz X x F q
def ue (e C:Addr):HO:=.ext λh=>ExcAt e C h
def zeT (K:W.Frag):List V->Hp->VK->Prop:=λxs H Q=>∃ e C c cu b,xs=[.ref e,c]/\RelV c cu/\(∀ u,RelV c u->u=cu)/\H e=some (ue e C)/\Vi K C/\W.kitOne K (.ref C) cu=some b/\Q (.bl b) H
theorem zcy {X:Cx}:wR X (.builtin "isinstance") (zeT X.K):=by
 intro pins s Z H xs us Q I r h
 obtain⟨e,C,c,cu,b,rfl,_,un,he,F,k,q⟩:=h
 obtain⟨u,v,rfl,rx,rt⟩:=vals2 r
 cases (show u=Value.ref e from rx)
 cases un v rt
 have o:ObjOk X.prog X.w H s.heap e (ue e C):=I.hok e _ he
 exact W.kia_one (zds F) I.kIn o.1 k (λz=>nomatch z) λtk=>⟨.bl b,H,I.tok tk,rfl,q⟩
theorem uf {X:Cx} (K:W.Frag) (e:X.K=K:=by rfl):wR X (.builtin "isinstance") (zeT K):=by subst e;exact zcy
end
structure JL (K:W.Frag) (mg:Str->Option Value) (y:Str) (Ch:Addr):Prop where
 g:mg y=some (.ref Ch)
 mb:W.mroIn K Ch (.type "BaseException")=some true
theorem zcH {prog:Program} {w:World} {A:Around} {E:Value->Shared->Prop} {K:W.Frag} {e C Ch:Addr} {s:Shared} {b:Bool} {Q:Bool->Shared->Prop} (X:K.In s.heap) (x:ExcAt e C s.heap) (m:W.kitCls K (.ref C) (.ref Ch)=some b)
  (hb:W.mroIn K Ch (.type "BaseException")=some true) (q:Q b s):wpAny (model prog w) A (excMatches (.ref e) (.ref Ch)) Q E s:=by
 cases s with
 | mk hp gn dr tk os =>
  obtain⟨y1,y2,y3⟩:=W.kit_cls (M:=model prog w) X m
  have y0:=x.ty (M:=model prog w)
  have y4:=W.looks_mroIn (M:=model prog w) X hb
  have y5:=tc_notTuple
  unfold excMatches isInstance isExcClass
  repeat (first | with_reducible refine W.Looks.at (by assumption) ?_ | (with_reducible refine wpAny_of_eq y5 ?_) | with_reducible refine wpAny_bind ?_ | wp_step)
  cases b
  ·exact wpAny_pure (wpAny_pure (wpAny_pure q))
  ·exact wpAny_pure (wpAny_pure (wpAny_pure q))
section
variable {X:Cx} {pins:List (Addr×Obj)} {Z:St} {H H':Hp} {s s':Shared}
abbrev Cx.sui (X:Cx) (e:Addr):Cx:={ X with A:=X.A.mark (some (.ref e)),calm:=false,xe:=λ_ _=>False }
theorem Inv.toSui (I:Inv X pins Z H s) (e:Addr):Inv (X.sui e) pins Z H s :=
 ⟨⟨I.ok.mod,I.ok.kind,I.ok.glob,I.ok.blt,I.ok.above,I.ok.inj,I.ok.has,I.ok.cab,(λz=>nomatch z),I.ok.frames,I.ok.stk,I.ok.exf,I.ok.bs,I.ok.bsz,I.ok.noex,I.ok.exfs,I.ok.funs,I.ok.frf⟩,I.os,I.bare,I.base,I.loc,I.cell,I.free,I.freeC,I.pin,I.hok,I.len⟩
theorem Inv.ofSui {e:Addr} (ok:X.Ok) (I:Inv (X.sui e) pins Z H s):Inv X pins Z H s:=⟨ok,I.os,I.bare,I.base,I.loc,I.cell,I.free,I.freeC,I.pin,I.hok,I.len⟩
abbrev Cx.body (X:Cx) (E:Value->Shared->Prop) (pn:List (Addr×Obj)):Cx:={ X with xe:=E,pn:=pn }
theorem Inv.toBody (I:Inv X pins Z H s) (E:Value->Shared->Prop):Inv (X.body E (X.pn++pins)) [] Z H s :=
 ⟨⟨I.ok.mod,I.ok.kind,I.ok.glob,I.ok.blt,I.ok.above,I.ok.inj,I.ok.has,I.ok.cab,I.ok.hd,I.ok.frames,I.ok.stk,I.ok.exf,I.ok.bs,I.ok.bsz,I.ok.noex,I.ok.exfs,I.ok.funs,I.ok.frf⟩,I.os,I.bare,I.base,I.loc,I.cell,I.free,I.freeC,λp hp=>I.pin p (by rw [List.append_nil] at hp;exact hp),I.hok,I.len⟩
theorem Inv.ofBody {E:Value->Shared->Prop} {pins':List (Addr×Obj)} (ok:X.Ok) (I:Inv (X.body E (X.pn++pins)) pins' Z H s):Inv X pins Z H s:=⟨ok,I.os,I.bare,I.base,I.loc,I.cell,I.free,I.freeC,λp hp=>I.pin p (List.mem_append_left _ hp),I.hok,I.len⟩
theorem SP.ofBody {E:Value->Shared->Prop} {D:Ends} {f:Flow} (ok:X.Ok) (h:SP (X.body E (X.pn++pins)) [] D f s'):SP X pins D f s':=by
 cases f with
 | next=>obtain⟨σ',H',I,q⟩:=h;exact⟨σ',H',I.ofBody ok,q⟩
 | brk=>obtain⟨σ',H',I,q⟩:=h;exact⟨σ',H',I.ofBody ok,q⟩
 | cont=>obtain⟨σ',H',I,q⟩:=h;exact⟨σ',H',I.ofBody ok,q⟩
 | ret u=>obtain⟨v,σ',H',I,r,q⟩:=h;exact⟨v,σ',H',I.ofBody ok,r,q⟩
theorem zcc {e C:Addr} {h':Heap} (un:Un (frs X.stack) [] H H' s.heap h') (hok:HOk X.prog X.w H' h') (n0:s.heap.get? e=none) (n1:H' e=none) (x:ExcAt e C h') :
  Un (frs X.stack) [] H (upd H' e (ue e C)) s.heap h'/\HOk X.prog X.w (upd H' e (ue e C)) h':=by
 have ne:∀ b o,s.heap.get? b=some o->b≠e:=λb o q z=>by rw [z,n0] at q;cases q
 refine⟨⟨un.keep,un.slot,λb o q n hx=>by rw [zx (ne b o q)];exact un.free b o q n hx,un.there,λb xs q=>?_,λb o u q=>?_,λb ps q=>?_⟩,λb o q=>?_⟩
 ·have z:=un.tups b xs q
  rw [zx (zz z n1)];exact z
 ·have z:=un.frzs b o u q
  rw [zx (zz z n1)];exact z
 ·obtain⟨more,z⟩:=un.tbls b ps q
  exact⟨more,by rw [zx (zz z n1)];exact z⟩
 ·by_cases hb:b=e
  ·subst hb
   rw [zj] at q
   cases q
   obtain⟨o,h1,h2⟩:=id x
   exact⟨x,⟨o,h1⟩,λha hb' xa ka=>let ⟨o,h1,h2⟩:=xa;⟨o,ka o h1,h2⟩⟩
  ·rw [zx hb] at q
   exact (hok b o q).stay (λc u _ z=>z) (λc z=>by rw [zx (zz z n1)];exact z) λc xs z=>by rw [zx (zz z n1)];exact z
theorem Inv.gone {i t:Nat} {n:Str} {h':Heap} (I:Inv X pins Z H s) (hN:X.N.Nodup) (hi:X.N[i]?=some n) (hs:Heap.SameBut X.env.locals s.heap h') (hn:∀ m,s.heap.Ns X.env.locals m->∃ v,h'.Ns X.env.locals λx=>if x=n then v else m x) :
  Inv X pins (Z.set i none) H { s with heap:=h',toks:=t }:=by
 have nl:∀ b o,X.s₀.heap.get? b=some o->b≠X.env.locals:=λb o e=>Nat.ne_of_lt (Nat.lt_of_lt_of_le (Heap.lt_size e) I.ok.above)
 have tr:∀ b u,H b=some u->b≠X.env.locals:=λb u e z=>by rw [z,I.free] at e;cases e
 obtain⟨m,hm,hl⟩:=id I.loc
 obtain⟨v,hv⟩:=hn m hm
 refine⟨I.ok,I.os,I.bare,⟨λb o e n hb hx=>(hs.2 b (nl b o e)).trans (I.base.keep b o e n hb hx),λb o e n hb hx=>?_,I.base.free,λb o e hx=>?_,I.base.tups,I.base.frzs,I.base.tbls⟩,⟨_,hv,λj y w e1 e2 e3=>?_⟩,λy c e=>?_,I.free,I.freeC,λp hp=>?_,λb u e=>?_,by rw [List.length_set];exact I.len⟩
 ·obtain⟨sl,q⟩:=I.base.slot b o e n hb hx
  exact⟨sl,(hs.2 b (nl b o e)).trans q⟩
 ·obtain⟨o1,q⟩:=I.base.there b o e hx
  exact⟨o1,(hs.2 b (nl b o e)).trans q⟩
 ·have hj:j≠i:=λz=>by
   subst z
   rw [List.getElem?_set] at e2
   split at e2
   ·split at e2<;>cases e2
   ·exact absurd rfl (by assumption)
  rw [List.getElem?_set_ne (Ne.symm hj)] at e2
  obtain⟨u,r,q⟩:=hl j y w e1 e2 e3
  refine⟨u,r,?_⟩
  rcases q with ⟨k,z⟩ | ⟨k,c,z,zc⟩
  ·refine .inl ⟨k,?_⟩
   have ny:y≠n:=λz=>hj (Ug hN e1 (z▸hi))
   show (if y=n then v else m y)=some u
   rw [if_neg ny];exact z
  ·exact .inr ⟨k,c,z,zc.sameBut hs (I.cne y c z)⟩
 ·obtain⟨w,z⟩:=I.cell y c e
  exact⟨w,z.sameBut hs (I.cne y c e)⟩
 ·obtain⟨e,n,ne,nf,d⟩:=I.pin p hp
  exact⟨(hs.2 p.1 ne).trans e,n,ne,nf,d⟩
 ·refine (I.hok b u e).stay (λc z hc q=>(hs.2 c ?_).trans q) (λ_ q=>q) λ_ _ q=>q
  rcases hc with z | z
  ·rw [z];exact tr b u e
  ·exact tr c _ z
end
def zeR (i:Nat) (D:Ends):Ends:={ nx:=λZ H=>D.nx (Z.set i none) H,rt:=D.rt,bk:=λZ H=>D.bk (Z.set i none) H,ct:=λZ H=>D.ct (Z.set i none) H }
def xAs (K:W.Frag) (Ch:Addr) (i:Nat) (ts:TS) (D:Ends):St->XK:=λZ c _ H=>∃ C,c=.ref C/\W.kitCls K (.ref C) (.ref Ch)=some true/\∀ e,H e=none->ts (zeR i D) (Z.set i (some (.ref e))) (upd H e (ue e C))
def zfu (K:W.Frag) (Ch:Addr) (i:Nat) (tb:(St->XK)->TS) (ts:TS):TS:=λD Z H=>tb (xAs K Ch i ts D) D Z H
section
variable {X:Cx} {y n:Str} {Ch:Addr} {i:Nat} {body suite:List Stmt} {b₀:Stmt} {tb:(St->XK)->TS} {ts:TS} {np hpos pos:Pos}
theorem zas (O:JL X.K X.mg y Ch) (hstk:X.stack=X.env :: X.outer) (hfr:X.env.frame=some X.env.locals) (nd:X.N.Nodup) (hi:X.N[i]?=some n) (hloc:X.env.scope.names.lookup n=some .local)
  (hb:∀ (E:Value->Shared->Prop) (pn:List (Addr×Obj)) (Ex:St->XK),QC (X.body E pn) Ex->PSs (X.body E pn) body (tb Ex)) (hs:∀ e,PSs (X.sui e) (b₀ :: suite) ts) (hg:Gl X y:=by rfl) (hdb:(y == ("__debug__" : Str))=false:=by decide) :
  PS X (.Try body [.ExceptHandler (some (.Name y np)) (some n) (b₀ :: suite) hpos] [] [] pos) (zfu X.K Ch i tb ts):=by
 intro pins s Z H D I h
 have ok:=I.ok
 refine wpAny_Try_except (wpAny_mono (hb (λe s₁=>wpAny (model X.prog X.w) X.A (noteFrame e X.env) (λ_ s₂=>wpAny (model X.prog X.w) X.A (setFlight e none) (λ_ s₃=>wpAny (model X.prog X.w) X.A (handleBy e X.env [.ExceptHandler (some (.Name y np)) (some n) (b₀ :: suite) hpos]) (SP X pins D) X.xe s₃) X.xe s₂) X.xe s₁)
  (X.pn++pins) (xAs X.K Ch i ts D) ?_ [] s Z H D (I.toBody _) h) (λf s1 q=>?_) λ_ _ z=>z)
 ·intro pins2 σ2 H2 s2 e s3 I2 hcx
  have I2:=I2.ofBody ok
  obtain⟨ea,c,H3,rfl,os,bare,un,hok,n0,n1,t,C,rfl,hk,hq⟩:=hcx
  obtain⟨B,a0,hB,fl⟩:=zbY I2 os bare un hok n0 n1 t
  have fl':Heap.FlyingW B (X.env :: X.outer) ea (.ref C) a0 s3.heap:=by rw [<- hstk];exact fl
  refine wpAny_looks_onW (by rw [ok.frames,hstk]) hfr fl' λh4 held up4=>wpAny_landsW held λh5 fl5 up5=>?_
  obtain⟨u5,k5⟩:=zbb I2 un hok hB fl5.1 (up4.trans up5)
  have J5:Inv X pins σ2 H3 { s3 with heap:=h5 }:=I2.call' (ch:=[]) os u5 k5 bare λb z=>absurd z (by simp)
  have x5:ExcAt ea C h5:=fl5.there
  refine wpAny_handleBy_cons (codeAny_handlers_test (jV (X:=X.sui ea) (J5.toSui ea) hg O.g ?_ hdb)) (by intro z;cases z)
  refine zcH J5.kIn x5 hk O.mb (codeAny_handlers_suite_as (lands_againW fl5 λh6 fl6 up6=>?_))
  obtain⟨u6,k6⟩:=zbb I2 un hok hB fl6.1 ((up4.trans up5).trans up6)
  obtain⟨u7,k7⟩:=zcc u6 k6 n0 n1 fl6.there
  have J7:Inv X pins σ2 (upd H3 ea (ue ea C)) { s3 with heap:=h6 }:=I2.call' (ch:=[]) os u7 k7 bare λb z=>absurd z (by simp)
  refine XQ (X:=X.sui ea) (v:=.ref ea) (J7.toSui ea) nd hi (.inl hloc) rfl (λs8 J8=>?_) (.inr hloc)
  refine wpAny_mono (hs ea pins s8 _ _ (zeR i D) J8 (hq ea n1)) (λf s9 q=>?_) λ_ _ z=>False.elim z
  have fin:∀ {σ9:St} {H9:Hp},Inv (X.sui ea) pins σ9 H9 s9->(∀ s10,Inv X pins (σ9.set i none) H9 s10->SP X pins D f s10)->wpAny (model X.prog X.w) X.A (do bindName X.env n .none;unbindBehindTheSuite X.env n hpos) (λ_ s10=>SP X pins D f s10) X.xe s9:=λ{σ9 H9} J k=>by
   have J':=J.ofSui ok
   obtain⟨m,hm,_⟩:=id J'.loc
   refine wpAny_nameGoes_keeps hloc hm (by rw [ok.kind];rfl) λh10 v hn hsb=>k _ (J'.gone nd hi hsb λm2 hm2=>?_)
   refine⟨v,?_⟩
   have e:m2=m:=by
    obtain⟨o1,es1,ep1,a1,b1,c1,d1⟩:=hm
    obtain⟨o2,es2,ep2,a2,b2,c2,d2⟩:=hm2
    rw [a1] at a2;cases a2
    rw [b1] at b2;cases b2
    funext z
    rw [<- d1,<- d2]
   rw [e];exact hn
  cases f with
  | next=>obtain⟨σ9,H9,J,q⟩:=q;exact fin J λs10 K10=>⟨_,_,K10,q⟩
  | brk=>obtain⟨σ9,H9,J,q⟩:=q;exact fin J λs10 K10=>⟨_,_,K10,q⟩
  | cont=>obtain⟨σ9,H9,J,q⟩:=q;exact fin J λs10 K10=>⟨_,_,K10,q⟩
  | ret u=>obtain⟨v,σ9,H9,J,r,q⟩:=q;exact fin J λs10 K10=>⟨v,_,_,K10,r,q⟩
 ·cases f with
  | next=>exact wpAny_execs_nil (SP.ofBody ok q)
  | ret u=>exact SP.ofBody ok q
  | brk=>exact SP.ofBody ok q
  | cont=>exact SP.ofBody ok q
end
open PySem PyProof.Rows
@[irreducible] def PEI (X:Cx) (e:Expr) (t:TE):Prop:=PE X e t
@[irreducible] def PAI (X:Cx) (es:List Expr) (t:TA):Prop:=PA X es t
@[irreducible] def PSsI (X:Cx) (st:List Stmt) (t:TS):Prop:=PSs X st t
theorem PEI.o {X:Cx} {e:Expr} {t:TE} (h:PEI X e t):PE X e t:=by unfold PEI at h;exact h
theorem PAI.o {X:Cx} {es:List Expr} {t:TA} (h:PAI X es t):PA X es t:=by unfold PAI at h;exact h
theorem PSsI.o {X:Cx} {l:List Stmt} {t:TS} (h:PSsI X l t):PSs X l t:=by unfold PSsI at h;exact h
theorem pei {X:Cx} {e:Expr} {t:TE} (h:PE X e t):PEI X e t:=by unfold PEI;exact h
theorem pai {X:Cx} {es:List Expr} {t:TA} (h:PA X es t):PAI X es t:=by unfold PAI;exact h
theorem zgH {X:Cx} {l:List Stmt} {t:TS} (h:PSs X l t):PSsI X l t:=by unfold PSsI;exact h
theorem zY {X:Cx} {i j pos}:PEI X (.Constant (.int i) j pos) (tC (.int i)):=pei zr
theorem zW {X:Cx} {es:List Expr} {t:TA} {pos:Pos} (h:PAI X es t):PEI X (.List es pos) (UT t):=pei (zQ h.o)
theorem Yq {X:Cx} {es:List Expr} {t:TA} {x1} {pos:Pos} (h:PAI X es t):PEI X (.Tuple es x1 pos) (zcb t):=pei (yX h.o)
theorem zR {X:Cx}:PAI X [] qD:=pai zg
theorem yC {X:Cx} {x:Str} {j} {pos:Pos} {es:List Expr} {t:TA} (h:PAI X es t):PAI X (.Constant (.str x) j pos :: es) (yQ (tC (.str x)) t):=pai (yW h.o)
theorem zp {X:Cx} {e:Expr} {es:List Expr} {te:TE} {t:TA} (ha:PEI X e te) (hr:PAI X es t) (hs:starEach (e :: es) X.env=(false,eval e X.env) :: starEach es X.env:=by rfl):PAI X (e :: es) (yQ te t):=pai (zf ha.o hr.o hs)
theorem Q3 {X:Cx} {st:Stmt} {rest:List Stmt} {t u:TS} (h1:PS X st t) (h2:PSsI X rest u):PSs X (st :: rest) (zdi t u):=zq h1 h2.o
theorem J3 {X:Cx} {i:Nat} {x:Str} {es:List Expr} {t:TA} {u:TS} {rest:List Stmt} {pos' lp pos:Pos} (hN:X.N.Nodup) (hi:X.N[i]?=some x) (hx:Loc X.env.scope x) (h:PAI X es t) (hr:PSs X rest u) (hf:X.fn x=true\/X.env.scope.names.lookup x=some .local:=by first | exact .inl rfl | exact .inr rfl | assumption) :
  PSsI X (.Assign [.Name x pos'] (.List es lp) pos :: rest) (zdi (U6 (UT t) (jJ i)) u):=zgH (zq (zd3 hN hi hx h.o hf) hr)
theorem zdI {X:Cx} {e:Expr} {es:List Expr} {te:TE} {t:TA} (ha:PEI X e te) (hr:PA X es t) (hs:starEach (e :: es) X.env=(false,eval e X.env) :: starEach es X.env:=by rfl):PA X (e :: es) (yQ te t):=zf ha.o hr hs
theorem Ja {X:Cx} {a b:Expr} {ta tb:TE} {pos:Pos} {r:R2} (hr:IxR X r) (ha:PEI X a ta) (hb:PE X b tb) (hs:zbK b):PE X (.Subscript a b pos) (tOp r ta tb):=yd hr ha.o hb hs
theorem zbB {X:Cx} {i:Nat} {x:Str} {e:Expr} {te:TE} {pos' pos:Pos} (hN:X.N.Nodup) (hi:X.N[i]?=some x) (hx:Loc X.env.scope x) (he:PEI X e te) (hs:swapsWith e (some (.Name x pos')) pos.line X.env=pure false:=by rfl) (hf:X.fn x=true\/X.env.scope.names.lookup x=some .local:=by first | exact .inl rfl | exact .inr rfl | assumption) :
  PS X (.Assign [.Name x pos'] e pos) (U6 te (jJ i)):=zG hN hi hx he.o hs hf
theorem Jd {X:Cx} {a b:Expr} {ta tb:TE} {pos:Pos} {op:Operator} {r:R2} (ho:OpR X (binaryOp op) r) (ha:PE X a ta) (hb:PEI X b tb):PE X (.BinOp a op b pos) (tOp r ta tb):=zJ ho ha hb.o
structure Fit (k n:Nat) (d:PyData):Prop where
 ls:d.leavesShort 40=true
 sh:d.showable=true
 dp:d.depth<=k
 wt:d.weight<=n
theorem Fit.shown {k n:Nat} {d:PyData} (f:Fit k n d) (hn:n<=100000):d.shown.length<=sizeLine:=by
 have h:=PyData.shown_le 40 (by decide) d f.ls
 have:=f.wt
 rw [sizeLine_eq]
 omega
def Th (H:Hp) (k n:Nat) (v:V):Prop:=∃ d,ThAt H d v/\Fit k n d
theorem Th.same {H H':Hp} {k n:Nat} {v:V} (t:Th H k n v) (m:Same H H'):Th H' k n v:=let ⟨d,h,f⟩:=t;⟨d,h.same m,f⟩
theorem Th.le {H:Hp} {k n k' n':Nat} {v:V} (t:Th H k n v) (hk:k<=k') (hn:n<=n'):Th H k' n' v:=let ⟨d,h,f⟩:=t;⟨d,h,f.ls,f.sh,Nat.le_trans f.dp hk,Nat.le_trans f.wt hn⟩
section
variable {H:Hp} {k n:Nat}
theorem Th.non:Th H k n .non:=⟨.none,by rw [ThAt],by rw [PyData.leavesShort],by rw [PyData.showable],by rw [PyData.depth];exact Nat.zero_le _,by rw [PyData.weight];exact Nat.zero_le _⟩
theorem Th.bl {b:Bool}:Th H k n (.bl b):=⟨.bool b,by rw [ThAt],by rw [PyData.leavesShort],by rw [PyData.showable],by rw [PyData.depth];exact Nat.zero_le _,by rw [PyData.weight];exact Nat.zero_le _⟩
theorem log2_small {m:Nat} (h:m<10^30):m.log2<100:=by
 by_cases z:m=0
 ·subst z;decide
 ·exact (Nat.log2_lt z).mpr (Nat.lt_trans h (by decide))
theorem Th.int {i:Int} (h:i.natAbs<10^30) (hn:100<=n):Th H k n (.int i):=by
 refine⟨.int i,by rw [ThAt],?_,?_,by rw [PyData.depth];exact Nat.zero_le _,?_⟩
 ·rw [PyData.leavesShort,PyData.shown]
  refine decide_eq_true ?_
  have:=int_text_length_le10 (a:=i) (k:=30) (by decide) h
  rw [PySem.ofString_length]
  omega
 ·rw [PyData.showable]
  exact decide_eq_true (Nat.lt_trans (log2_small h) (by decide))
 ·rw [PyData.weight]
  have:=log2_small h
  split<;>omega
theorem Th.str {x:Str} (h:(x.cps.toList.all λc=>decide (c<16^8))=true) (hn:x.cps.size<=n):Th H k n (.str x):=⟨.str x,by rw [ThAt],by rw [PyData.leavesShort];exact h,by rw [PyData.showable],by rw [PyData.depth];exact Nat.zero_le _,by rw [PyData.weight];exact hn⟩
theorem Th.emp {a:Addr} (h:H a=some (.dK [])) (hk:1<=k):Th H k n (.ref a):=⟨.dict [],by rw [ThAt];exact⟨rfl,a,rfl,h⟩,by rw [PyData.leavesShort,PyData.leavesShortKv],by rw [PyData.showable,PyData.showableKv],by rw [PyData.depth,PyData.depthKv];exact hk,by rw [PyData.weight,PyData.weightKv];exact Nat.zero_le _⟩
theorem Ths.of:∀ {vs:List V},(∀ v∈vs,Th H k n v)->∃ ds,ThsAt H ds vs/\PyData.leavesShortAll 40 ds=true/\PyData.showableAll ds=true/\PyData.depthAll ds<=k/\PyData.weightAll ds<=(n+1)*vs.length
 | [],_=>⟨[],by rw [ThsAt],by rw [PyData.leavesShortAll],by rw [PyData.showableAll],by rw [PyData.depthAll];exact Nat.zero_le _,by rw [PyData.weightAll];exact Nat.zero_le _⟩
 | v :: vs,h=>by
  obtain⟨d,h1,f⟩:=h v (.head _)
  obtain⟨ds,g1,g2,g3,g4,g5⟩:=Ths.of λv hv=>h v (.tail _ hv)
  refine⟨d :: ds,by rw [ThsAt];exact⟨_,_,rfl,h1,g1⟩,by rw [PyData.leavesShortAll,f.ls,g2];rfl,by rw [PyData.showableAll,f.sh,g3];rfl,?_,?_⟩
  ·rw [PyData.depthAll];have:=f.dp;omega
  ·rw [PyData.weightAll,List.length_cons,Nat.mul_succ];have:=f.wt;omega
theorem Th.lst {a:Addr} {vs:List V} {n':Nat} (h:H a=some (.lst vs)) (t:∀ v∈vs,Th H k n v) (hn:(n+1)*vs.length<=n'):Th H (k+1) n' (.ref a):=by
 obtain⟨ds,g1,g2,g3,g4,g5⟩:=Ths.of t
 exact⟨.list ds,by rw [ThAt];exact⟨a,vs,rfl,h,g1⟩,by rw [PyData.leavesShort];exact g2,by rw [PyData.showable];exact g3,by rw [PyData.depth];omega,by rw [PyData.weight];omega⟩
theorem Th.tup {a:Addr} {vs:List V} {n':Nat} (h:H a=some (.tup vs)) (t:∀ v∈vs,Th H k n v) (hn:(n+1)*vs.length<=n'):Th H (k+1) n' (.ref a):=by
 obtain⟨ds,g1,g2,g3,g4,g5⟩:=Ths.of t
 exact⟨.tuple ds,by rw [ThAt];exact⟨a,vs,rfl,h,g1⟩,by rw [PyData.leavesShort];exact g2,by rw [PyData.showable];exact g3,by rw [PyData.depth];omega,by rw [PyData.weight];omega⟩
theorem Th.ints {a:Addr} {ns:List Int} {n':Nat} (h:H a=some (.lst (ns.map V.int))) (t:∀ i∈ns,i.natAbs<10^30) (hn:101*ns.length<=n'):Th H (k+1) n' (.ref a) :=
 Th.lst (n:=100) h (λv hv=>by
  obtain⟨i,hi,rfl⟩:=List.mem_map.mp hv
  exact Th.int (t i hi) (Nat.le_refl _)) (by rw [List.length_map];exact hn)
end
structure Ty where
 p:Hp->V->Prop
 mo:∀ {G G':Hp} {v:V},Same G G'->p G v->p G' v
structure View where
 v:Hp->Hp
 ok:Hp->Prop
 out:∀ {H:Hp} {a:Addr} {o:HO},v H a=some o->H a=some o
 new:∀ {H:Hp} {p:Addr} (o:HO),ok H->H p=none->ok (upd H p o)/\Same (v H) (v (upd H p o))/\v (upd H p o) p=some o
abbrev Cxt:=List (Option Ty)
def Fits (Γ:Cxt) (G:Hp) (Z:St):Prop:=Z.length=Γ.length/\∀ (i:Nat) (T:Ty),Γ[i]?=some (some T)->∃ v:V,Z[i]?=some (some v)/\T.p G v
theorem Fits.same {Γ:Cxt} {G G':Hp} {Z:St} (f:Fits Γ G Z) (s:Same G G'):Fits Γ G' Z:=⟨f.1,λi T h=>let ⟨v,e,q⟩:=f.2 i T h;⟨v,e,T.mo s q⟩⟩
theorem Fits.set {Γ:Cxt} {G:Hp} {Z:St} {i:Nat} {T:Ty} {v:V} (f:Fits Γ G Z) (q:T.p G v):Fits (Γ.set i (some T)) G (Z.set i (some v)):=by
 refine⟨by rw [List.length_set,List.length_set,f.1],λj T' h=>?_⟩
 rw [List.getElem?_set] at h ⊢
 by_cases e:i=j
 ·rw [if_pos e] at h ⊢
  by_cases l:i<Γ.length
  ·rw [if_pos l] at h
   rw [if_pos (by rw [f.1];exact l)]
   cases h
   exact⟨v,rfl,q⟩
  ·rw [if_neg l] at h;cases h
 ·rw [if_neg e] at h ⊢
  exact f.2 j T' h
theorem Fits.nil {G:Hp}:Fits [] G []:=⟨rfl,λi T h=>by simp at h⟩
theorem Fits.cons {Γ:Cxt} {G:Hp} {Z:St} {T:Ty} {v:V} (q:T.p G v) (f:Fits Γ G Z):Fits (some T :: Γ) G (some v :: Z):=by
 refine⟨by rw [List.length_cons,List.length_cons,f.1],λi T' h=>?_⟩
 cases i with
 | zero=>cases h;exact⟨v,rfl,q⟩
 | succ i=>exact f.2 i T' h
theorem Fits.skip {Γ:Cxt} {G:Hp} {Z:St} {v:Option V} (f:Fits Γ G Z):Fits (none :: Γ) G (v :: Z):=by
 refine⟨by rw [List.length_cons,List.length_cons,f.1],λi T' h=>?_⟩
 cases i with
 | zero=>cases h
 | succ i=>exact f.2 i T' h
def Tp (w:View) (Γ:Cxt) (te:TE) (T:Ty):Prop:=∀ (Z:St) (H:Hp) (Q:VK),w.ok H->Fits Γ (w.v H) Z->(∀ v H',w.ok H'->Same (w.v H) (w.v H')->T.p (w.v H') v->Q v H')->te Z H Q
def Vu (k n:Nat):Ty:=⟨λG v=>Th G k n v,λs h=>h.same s⟩
def tyI (lo hi:Int):Ty:=⟨λ_ v=>∃ i,v=.int i/\lo<=i/\i<=hi,λ_ h=>h⟩
def yH (T:Ty) (lo hi:Nat):Ty:=⟨λG v=>∃ a vs,v=.ref a/\G a=some (.lst vs)/\lo<=vs.length/\vs.length<=hi/\∀ u∈vs,T.p G u,λs ⟨a,vs,h1,h2,h3,h4,h5⟩=>⟨a,vs,h1,s _ _ h2,h3,h4,λu hu=>T.mo s (h5 u hu)⟩⟩
abbrev tyL (k n lo hi:Nat):Ty:=yH (Vu k n) lo hi
def Uo (v:V):Ty:=⟨λ_ u=>u=v,λ_ h=>h⟩
def TpA (w:View) (Γ:Cxt) (ta:TA) (k n m:Nat):Prop:=∀ (Z:St) (H:Hp) (Q:List V->Hp->Prop),w.ok H->Fits Γ (w.v H) Z->(∀ vs H',w.ok H'->Same (w.v H) (w.v H')->vs.length=m->(∀ u∈vs,Th (w.v H') k n u)->Q vs H')->ta Z H Q
def TpB (w:View) (Γ:Cxt) (ta:TA) (T:Ty) (m:Nat):Prop:=∀ (Z:St) (H:Hp) (Q:List V->Hp->Prop),w.ok H->Fits Γ (w.v H) Z->(∀ vs H',w.ok H'->Same (w.v H) (w.v H')->vs.length=m->(∀ u∈vs,T.p (w.v H') u)->Q vs H')->ta Z H Q
def TpO (w:View) (Γ:Cxt) (to:TO):Prop:=∀ (Z:St) (H:Hp) (Q:Option Int->Hp->Prop),w.ok H->Fits Γ (w.v H) Z->(∀ o H',w.ok H'->Same (w.v H) (w.v H')->Q o H')->to Z H Q
section
variable {w:View} {Γ:Cxt} {te ta tb:TE} {K:W.Frag} {k n m k' n' m' lo hi lo' hi':Nat} {i j i' j':Int}
theorem Tp.sub {T T':Ty} (h:Tp w Γ te T) (s:∀ G v,T.p G v->T'.p G v):Tp w Γ te T':=λZ H Q o f q=>h Z H Q o f λv H' o' s' t=>q v H' o' s' (s _ _ t)
theorem Tp.var {x:Nat} {T:Ty} (h:Γ[x]?=some (some T)):Tp w Γ (Vc x) T:=λZ H Q o f q=>let ⟨v,e,t⟩:=f.2 x T h;⟨v,e,q v H o (Same.refl _) t⟩
theorem Tp.non:Tp w Γ (tC .non) (Vu 0 0):=λZ H Q o f q=>q _ H o (Same.refl _) Th.non
theorem Tp.bl {b:Bool}:Tp w Γ (tC (.bl b)) (Vu 0 0):=λZ H Q o f q=>q _ H o (Same.refl _) Th.bl
theorem Tp.str {x:Str} (h:(x.cps.toList.all λc=>decide (c<16^8))=true) (hn:x.cps.size<=100):Tp w Γ (tC (.str x)) (Vu 0 100):=λZ H Q o f q=>q _ H o (Same.refl _) (Th.str h hn)
theorem Tp.int:Tp w Γ (tC (.int i)) (tyI i i):=λZ H Q o f q=>q _ H o (Same.refl _) ⟨i,rfl,Int.le_refl _,Int.le_refl _⟩
theorem Tp.wide (h:Tp w Γ te (tyI i j)) (h1:i'<=i) (h2:j<=j'):Tp w Γ te (tyI i' j'):=h.sub λG v ⟨x,e,a,b⟩=>⟨x,e,Int.le_trans h1 a,Int.le_trans b h2⟩
theorem Tp.add (ha:Tp w Γ ta (tyI i j)) (hb:Tp w Γ tb (tyI i' j')):Tp w Γ (tOp (rI0 λx y=>.int (x+y)) ta tb) (tyI (i+i') (j+j')):=λZ H Q o f q=>ha Z H _ o f λv H1 o1 s1 ⟨x,e1,a1,b1⟩=>hb Z H1 _ o1 (f.same s1) λu H2 o2 s2 ⟨y,e2,a2,b2⟩=>⟨x,y,e1,e2,q _ H2 o2 (s1.trans s2) ⟨_,rfl,by omega,by omega⟩⟩
theorem Tp.subI (ha:Tp w Γ ta (tyI i j)) (hb:Tp w Γ tb (tyI i' j')):Tp w Γ (tOp (rI0 λx y=>.int (x-y)) ta tb) (tyI (i-j') (j-i')):=λZ H Q o f q=>ha Z H _ o f λv H1 o1 s1 ⟨x,e1,a1,b1⟩=>hb Z H1 _ o1 (f.same s1) λu H2 o2 s2 ⟨y,e2,a2,b2⟩=>⟨x,y,e1,e2,q _ H2 o2 (s1.trans s2) ⟨_,rfl,by omega,by omega⟩⟩
theorem Tp.neg (ha:Tp w Γ ta (tyI i j)):Tp w Γ (tUn (rU λx=>.int (-x)) ta) (tyI (-j) (-i)):=λZ H Q o f q=>ha Z H _ o f λv H1 o1 s1 ⟨x,e1,a1,b1⟩=>⟨x,e1,q _ H1 o1 s1 ⟨_,rfl,by omega,by omega⟩⟩
theorem Tp.pow {x y:Int} (c:zft x y):Tp w Γ (tOp (rI zft λi j=>.int (i^j.toNat)) (tC (.int x)) (tC (.int y))) (tyI (x^y.toNat) (x^y.toNat)):=λZ H Q o f q=>⟨x,y,rfl,rfl,c,q _ H o (Same.refl _) ⟨_,rfl,Int.le_refl _,Int.le_refl _⟩⟩
theorem Tp.ofI (h:Tp w Γ te (tyI i j)) (h1:-(10^29)<=i:=by decide) (h2:j<=10^29:=by decide):Tp w Γ te (Vu 0 100):=h.sub λG v ⟨x,e,a,b⟩=>by
 rw [e];exact Th.int (by omega) (Nat.le_refl _)
theorem Tp.ofL (h:Tp w Γ te (tyL k n lo hi)):Tp w Γ te (Vu (k+1) ((n+1)*hi)):=h.sub λG v ⟨a,vs,e,h1,_,h2,h3⟩=>by
 rw [e];exact Th.lst h1 h3 (Nat.mul_le_mul_left _ h2)
theorem Tp.le (h:Tp w Γ te (Vu k n)) (hk:k<=k') (hn:n<=n'):Tp w Γ te (Vu k' n'):=h.sub λG v t=>t.le hk hn
theorem TpA.nil:TpA w Γ qD 0 0 0:=λZ H Q o f q=>q [] H o (Same.refl _) rfl (by simp)
theorem TpA.cons {t:TA} (h:Tp w Γ te (Vu k n)) (ht:TpA w Γ t k' n' m):TpA w Γ (yQ te t) (max k k') (max n n') (m+1):=λZ H Q o f q=>h Z H _ o f λv H1 o1 s1 t1=>ht Z H1 _ o1 (f.same s1) λvs H2 o2 s2 e2 t2=>q (v :: vs) H2 o2 (s1.trans s2) (by rw [List.length_cons,e2]) λu hu=>by
 rcases List.mem_cons.mp hu with rfl | hu
 ·exact (t1.same s2).le (Nat.le_max_left _ _) (Nat.le_max_left _ _)
 ·exact (t2 u hu).le (Nat.le_max_right _ _) (Nat.le_max_right _ _)
theorem yc {x:Nat} (h:x<=10000):x<=sizeLine:=Nat.le_trans h (by decide)
theorem Tp.lst {t:TA} (h:TpA w Γ t k n m) (hm:m<=10000:=by decide):Tp w Γ (UT t) (tyL k n m m):=λZ H Q o f q=>h Z H _ o f λvs H1 o1 s1 e1 t1=>⟨yc (by rw [e1];exact hm),λp hp=>by
 obtain⟨o2,s2,e2⟩:=w.new (.lst vs) o1 hp
 exact q (.ref p) _ o2 (s1.trans s2) ⟨p,vs,rfl,e2,Nat.le_of_eq e1.symm,Nat.le_of_eq e1,λu hu=>(t1 u hu).same s2⟩⟩
theorem Tp.tup {t:TA} (h:TpA w Γ t k n m) (hm:m<=10000:=by decide):Tp w Γ (zcb t) (Vu (k+1) ((n+1)*m)):=λZ H Q o f q=>h Z H _ o f λvs H1 o1 s1 e1 t1=>⟨yc (by rw [e1];exact hm),λp hp=>by
 obtain⟨o2,s2,e2⟩:=w.new (.tup vs) o1 hp
 exact q (.ref p) _ o2 (s1.trans s2) (Th.tup e2 (λu hu=>(t1 u hu).same s2) (by rw [e1];exact Nat.le_refl _))⟩
theorem Tp.emp:Tp w Γ zbe (Vu 1 0):=λZ H Q o f q p hp=>by
 obtain⟨o2,s2,e2⟩:=w.new (.dK []) o hp
 exact q (.ref p) _ o2 s2 (Th.emp e2 (Nat.le_refl _))
theorem zbV {xs:List V} {c:Nat} {x:V} (h:x∈(List.replicate c xs).flatten):x∈xs:=by
 obtain⟨l,hl,hx⟩:=List.mem_flatten.mp h
 rw [(List.mem_replicate.mp hl).2] at hx;exact hx
theorem Tp.rep {c c':Nat} (ha:Tp w Γ ta (tyL k n lo hi)) (hb:Tp w Γ tb (tyI c c')) (hm:hi*c'<=10000:=by decide) (hc:c'<=10000:=by decide):Tp w Γ (tOp zdj ta tb) (tyL k n (lo*c) (hi*c')):=λZ H Q o f q=>ha Z H _ o f λv H1 o1 s1 t1=>hb Z H1 _ o1 (f.same s1) λu H2 o2 s2 ⟨y,e2,a2,b2⟩=>by
 obtain⟨a,vs,e1,g1,l1,m1,r1⟩:=(tyL k n lo hi).mo s2 t1
 have hy:y.toNat<=c':=by omega
 have hz:c<=y.toNat:=by omega
 refine⟨a,y,vs,e1,e2,w.out g1,by omega,by omega,yc (Nat.le_trans (Nat.mul_le_mul m1 hy) hm),λp hp=>?_⟩
 obtain⟨o3,s3,e3⟩:=w.new (.lst (List.replicate y.toNat vs).flatten) o2 hp
 refine q (.ref p) _ o3 (s1.trans (s2.trans s3)) ⟨p,_,rfl,e3,by rw [len_rep,Nat.mul_comm lo];exact Nat.mul_le_mul hz l1,by rw [len_rep,Nat.mul_comm hi];exact Nat.mul_le_mul hy m1,λx hx=>(r1 x (zbV hx)).same s3⟩
theorem TpO.none:TpO w Γ Vn:=λZ H Q o f q=>q _ H o (Same.refl _)
theorem TpO.some (h:Tp w Γ te (tyI i j)):TpO w Γ (zbS te):=λZ H Q o f q=>h Z H _ o f λv H1 o1 s1 ⟨x,e,_⟩=>⟨x,e,q _ H1 o1 s1⟩
theorem J2 (vs:List V) (lo hi:Option Int):(∀ v∈qH vs lo hi,v∈vs)/\(qH vs lo hi).length<=vs.length:=by
 unfold qH
 refine⟨λv hv=>List.mem_of_mem_drop (List.mem_of_mem_take hv),?_⟩
 rw [List.length_take,List.length_drop]
 omega
theorem Tp.sl {tl tu:TO} {T:Ty} (h:Tp w Γ te (yH T lo hi)) (hl:TpO w Γ tl) (hu:TpO w Γ tu):Tp w Γ (tSl (zdM K) te tl tu) (yH T 0 hi):=λZ H Q o f q=>h Z H _ o f λv H1 o1 s1 t1=>hl Z H1 _ o1 (f.same s1) λx H2 o2 s2=>hu Z H2 _ o2 ((f.same s1).same s2) λy H3 o3 s3=>by
 obtain⟨a,vs,e1,g1,l1,m1,r1⟩:=(yH T lo hi).mo (s2.trans s3) t1
 refine⟨a,vs,e1,SqL.of (w.out g1),λp hp=>?_⟩
 obtain⟨o4,s4,e4⟩:=w.new (.lst (qH vs x y)) o3 hp
 exact q (.ref p) _ o4 (s1.trans (s2.trans (s3.trans s4))) ⟨p,_,rfl,e4,Nat.zero_le _,Nat.le_trans (J2 vs x y).2 m1,λu hu=>T.mo s4 (r1 u ((J2 vs x y).1 u hu))⟩
theorem Tp.rev {T:Ty} (h:Tp w Γ te (yH T lo hi)):Tp w Γ (zf9 K te) (yH T lo hi):=λZ H Q o f q=>h Z H _ o f λv H1 o1 s1 ⟨a,vs,e1,g1,l1,m1,r1⟩=>⟨a,vs,e1,SqL.of (w.out g1),λp hp=>by
 obtain⟨o4,s4,e4⟩:=w.new (.lst vs.reverse) o1 hp
 exact q (.ref p) _ o4 (s1.trans s4) ⟨p,_,rfl,e4,by rw [List.length_reverse];exact l1,by rw [List.length_reverse];exact m1,λu hu=>T.mo s4 (r1 u (List.mem_reverse.mp hu))⟩⟩
theorem Tp.ix {T:Ty} (ha:Tp w Γ ta (yH T lo hi)) (hb:Tp w Γ tb (tyI 0 j)) (hj:j<lo:=by decide):Tp w Γ (tOp (zfR K) ta tb) T:=λZ H Q o f q=>ha Z H _ o f λv H1 o1 s1 t1=>hb Z H1 _ o1 (f.same s1) λu H2 o2 s2 ⟨y,e2,a2,b2⟩=>by
 obtain⟨a,vs,e1,g1,l1,m1,r1⟩:=(yH T lo hi).mo s2 t1
 have hy:y.toNat<vs.length:=by omega
 refine⟨a,vs,y,vs[y.toNat],e1,e2,SqL.of (w.out g1),?_,q _ H2 o2 (s1.trans s2) (r1 _ (List.getElem_mem hy))⟩
 have:=vB (List.getElem?_eq_getElem hy)
 rwa [show ((y.toNat:Nat):Int)=y by omega] at this
theorem Tp.len {T:Ty} (h:Tp w Γ te (yH T lo hi)):Tp w Γ (tCB (λxs H Q=>∃ p ys,xs=[.ref p]/\(SqL K H p ys\/SqT K H p ys)/\Q (.int ys.length) H) (yQ te qD)) (tyI lo hi):=λZ H Q o f q=>h Z H _ o f λv H1 o1 s1 ⟨a,vs,e1,g1,l1,m1,r1⟩=>⟨a,vs,by rw [e1],.inl (SqL.of (w.out g1)),q _ H1 o1 s1 ⟨_,rfl,by omega,by omega⟩⟩
theorem Tp.catT {T:Ty} (ha:Tp w Γ ta (yH T lo hi)) (hb:Tp w Γ tb (yH T lo' hi')) (hm:hi+hi'<=10000:=by first | decide | omega):Tp w Γ (tOp zaj ta tb) (yH T (lo+lo') (hi+hi')):=λZ H Q o f q=>ha Z H _ o f λv H1 o1 s1 t1=>hb Z H1 _ o1 (f.same s1) λu H2 o2 s2 t2=>by
 obtain⟨a,vs,e1,g1,l1,m1,r1⟩:=(yH T lo hi).mo s2 t1
 obtain⟨b,us,e2,g2,l2,m2,r2⟩:=t2
 refine⟨a,b,vs,us,e1,e2,w.out g1,w.out g2,yc (Nat.le_trans (Nat.add_le_add m1 m2) hm),λp hp=>?_⟩
 obtain⟨o3,s3,e3⟩:=w.new (.lst (vs++us)) o2 hp
 refine q (.ref p) _ o3 (s1.trans (s2.trans s3)) ⟨p,_,rfl,e3,by rw [List.length_append];omega,by rw [List.length_append];omega,λx hx=>?_⟩
 rcases List.mem_append.mp hx with hx | hx
 ·exact T.mo s3 (r1 x hx)
 ·exact T.mo s3 (r2 x hx)
theorem TpB.nil {T:Ty}:TpB w Γ qD T 0:=λZ H Q o f q=>q [] H o (Same.refl _) rfl (by simp)
theorem TpB.cons {T:Ty} {t:TA} (h:Tp w Γ te T) (ht:TpB w Γ t T m):TpB w Γ (yQ te t) T (m+1):=λZ H Q o f q=>h Z H _ o f λv H1 o1 s1 t1=>ht Z H1 _ o1 (f.same s1) λvs H2 o2 s2 e2 t2=>q (v :: vs) H2 o2 (s1.trans s2) (by rw [List.length_cons,e2]) λu hu=>by
 rcases List.mem_cons.mp hu with rfl | hu
 ·exact T.mo s2 t1
 ·exact t2 u hu
theorem Tp.lstT {T:Ty} {t:TA} (h:TpB w Γ t T m) (hm:m<=10000:=by decide):Tp w Γ (UT t) (yH T m m):=λZ H Q o f q=>h Z H _ o f λvs H1 o1 s1 e1 t1=>⟨yc (by rw [e1];exact hm),λp hp=>by
 obtain⟨o2,s2,e2⟩:=w.new (.lst vs) o1 hp
 exact q (.ref p) _ o2 (s1.trans s2) ⟨p,vs,rfl,e2,Nat.le_of_eq e1.symm,Nat.le_of_eq e1,λu hu=>T.mo s2 (t1 u hu)⟩⟩
theorem Tp.wideL {T T':Ty} (h:Tp w Γ te (yH T lo hi)) (s:∀ G v,T.p G v->T'.p G v) (h1:lo'<=lo) (h2:hi<=hi'):Tp w Γ te (yH T' lo' hi'):=h.sub λG v ⟨a,vs,e,g,l,m,r⟩=>⟨a,vs,e,g,Nat.le_trans h1 l,Nat.le_trans m h2,λu hu=>s G u (r u hu)⟩
end
def TpS (w:View) (Γ:Cxt) (ts:TS) (Γ':Cxt) (T:Ty):Prop:=∀ (D:Ends) (Z:St) (H:Hp),w.ok H->Fits Γ (w.v H) Z->(∀ σ' H',w.ok H'->Same (w.v H) (w.v H')->Fits Γ' (w.v H') σ'->D.nx σ' H')->(∀ v H',w.ok H'->Same (w.v H) (w.v H')->T.p (w.v H') v->D.rt v H')->ts D Z H
section
variable {w:View} {Γ Γ1 Γ2:Cxt} {te:TE} {t u:TS} {T T1:Ty}
theorem TpS.seq (h1:TpS w Γ t Γ1 T) (h2:TpS w Γ1 u Γ2 T):TpS w Γ (zdi t u) Γ2 T:=λD Z H o f qn qr=>h1 _ Z H o f (fun σ1 H1 o1 s1 f1=>h2 D σ1 H1 o1 f1 (fun σ2 H2 o2 s2 f2=>qn σ2 H2 o2 (s1.trans s2) f2) (λv H2 o2 s2 r2=>qr v H2 o2 (s1.trans s2) r2)) qr
theorem TpS.asg {i:Nat} (h:Tp w Γ te T1):TpS w Γ (U6 te (jJ i)) (Γ.set i (some T1)) T:=λD Z H o f qn qr=>h Z H _ o f λv H1 o1 s1 t1=>qn _ H1 o1 s1 ((f.same s1).set t1)
theorem TpS.weak {Γ':Cxt} (f:∀ G Z,Fits Γ G Z->Fits Γ' G Z) (h:TpS w Γ' t Γ2 T):TpS w Γ t Γ2 T:=λD Z H o g qn qr=>h D Z H o (f _ _ g) qn qr
theorem TpS.sub {T':Ty} (h:TpS w Γ t Γ2 T) (s:∀ G v,T.p G v->T'.p G v):TpS w Γ t Γ2 T':=λD Z H o g qn qr=>h D Z H o g qn λv H1 o1 s1 t1=>qr v H1 o1 s1 (s _ _ t1)
theorem TpS.ret (h:Tp w Γ te T):TpS w Γ (zgv te) Γ2 T:=λD Z H o f qn qr=>h Z H _ o f qr
end
theorem TpS.go {w:View} {Γ Γ':Cxt} {ts:TS} {T:Ty} {D:Ends} {Z:St} {H:Hp} (h:TpS w Γ ts Γ' T) (o:w.ok H) (f:Fits Γ (w.v H) Z) (qn:∀ σ' H',w.ok H'->Same (w.v H) (w.v H')->Fits Γ' (w.v H') σ'->D.nx σ' H') (qr:∀ v H',w.ok H'->Same (w.v H) (w.v H')->T.p (w.v H') v->D.rt v H'):ts D Z H:=h D Z H o f qn qr
theorem Tp.asg2 {w:View} {Γ:Cxt} {te:TE} {T1:Ty} {u:TS} {i:Nat} {D:Ends} {Z:St} {H:Hp} (h:Tp w Γ te T1) (o:w.ok H) (f:Fits Γ (w.v H) Z) (q:∀ v H',w.ok H'->Same (w.v H) (w.v H')->T1.p (w.v H') v->u D (Z.set i (some v)) H'):zdi (U6 te (jJ i)) u D Z H:=h Z H _ o f q
theorem Fits.any:∀ {G:Hp} (Z:St),Fits (Z.map λ_=>none) G Z:=λ{G} Z=>⟨by rw [List.length_map],λi T h=>by rw [List.getElem?_map] at h;cases e:Z[i]? with | none=>rw [e] at h;cases h | some x=>rw [e] at h;cases h⟩
def zd6:Ty:=⟨λ_ _=>False,λ_ h=>h⟩
theorem Fits.no {G:Hp} {Z:St} (f:Fits [some zd6] G Z):False:=let ⟨_,_,h⟩:=f.2 0 zd6 rfl;h
def CSub:Cxt->Cxt->Prop
 | [],[]=>True
 | _ :: Γ,none :: Γ'=>CSub Γ Γ'
 | some T :: Γ,some T' :: Γ'=>(∀ G v,T.p G v->T'.p G v)/\CSub Γ Γ'
 | _,_=>False
theorem CSub.fits:∀ {Γ Γ':Cxt} {G:Hp} {Z:St},CSub Γ Γ'->Fits Γ G Z->Fits Γ' G Z
 | [],[],_,_,_,f=>f
 | [],_ :: _,_,_,h,_=>by simp [CSub] at h
 | _ :: _,[],_,_,h,_=>by simp [CSub] at h
 | a :: Γ,none :: Γ',G,[],h,f=>by have:=f.1;simp at this
 | a :: Γ,none :: Γ',G,v :: Z,h,f=>Fits.skip (CSub.fits (Γ:=Γ) (by rw [CSub] at h;exact h) ⟨by simpa using f.1,λi T e=>f.2 (i+1) T e⟩)
 | none :: Γ,some T' :: Γ',G,Z,h,f=>by simp [CSub] at h
 | some T :: Γ,some T' :: Γ',G,[],h,f=>by have:=f.1;simp at this
 | some T :: Γ,some T' :: Γ',G,v :: Z,h,f=>by
  obtain⟨u,e,q⟩:=f.2 0 T rfl
  have e:v=some u:=by simpa using e
  subst e
  exact Fits.cons (h.1 _ _ q) (CSub.fits (Γ:=Γ) h.2 ⟨by simpa using f.1,λi T e=>f.2 (i+1) T e⟩)
def TpE (w:View) (Γ:Cxt) (ta:TA) (vs:List V):Prop:=∀ (Z:St) (H:Hp) (Q:List V->Hp->Prop),w.ok H->Fits Γ (w.v H) Z->(∀ H',w.ok H'->Same (w.v H) (w.v H')->Q vs H')->ta Z H Q
section
variable {w:View} {Γ:Cxt} {te ta tb:TE} {K:W.Frag} {vs us:List V}
theorem TpE.nil:TpE w Γ qD []:=λZ H Q o f q=>q H o (Same.refl _)
theorem TpE.cons {t:TA} {v:V} (h:Tp w Γ te (Uo v)) (ht:TpE w Γ t vs):TpE w Γ (yQ te t) (v :: vs):=λZ H Q o f q=>h Z H _ o f λu H1 o1 s1 e1=>ht Z H1 _ o1 (f.same s1) λH2 o2 s2=>by
 rw [show u=v from e1];exact q H2 o2 (s1.trans s2)
end
def tyQ (k n:Nat) (P:PyData->Bool):Ty:=⟨λG v=>∃ d,ThAt G d v/\Fit k n d/\P d=true,λs ⟨d,h,f,p⟩=>⟨d,h.same s,f,p⟩⟩
section
variable {w:View} {Γ:Cxt} {te ta tb:TE} {K:W.Frag} {k n m k' n' m' lo hi:Nat} {i j:Int} {P P':PyData->Bool}
theorem Fit.le {d:PyData} (f:Fit k n d) (hk:k<=k') (hn:n<=n'):Fit k' n' d:=⟨f.ls,f.sh,Nat.le_trans f.dp hk,Nat.le_trans f.wt hn⟩
theorem Th.q {G:Hp} {v:V} (t:Th G k n v) (h:∀ d,ThAt G d v->P d=true):(tyQ k n P).p G v:=let ⟨d,a,f⟩:=t;⟨d,a,f,h d a⟩
theorem tyQ.th {G:Hp} {v:V} (t:(tyQ k n P).p G v):Th G k n v:=let ⟨d,a,f,_⟩:=t;⟨d,a,f⟩
theorem Tp.qI (h:Tp w Γ te (tyI i j)) (hP:∀ x,i<=x->x<=j->P (.int x)=true) (h1:-(10^29)<=i:=by decide) (h2:j<=10^29:=by decide) (hn:100<=n':=by decide):Tp w Γ te (tyQ k' n' P):=h.sub λG v ⟨x,e,a,b⟩=>by
 rw [e]
 exact (Th.int (by omega) hn).q λd t=>by
  cases d<;>rw [ThAt] at t<;>first | (obtain⟨_,_,z,_⟩:=t;cases z;done) | (obtain⟨_,_,z,_⟩:=t;cases z;done) | (cases t;done) | (injection t with t;rw [<- t];exact hP x a b)
end
mutual
theorem ThAt.uniq {H:Hp}:∀ {d e:PyData} {v:V},ThAt H d v->ThAt H e v->d=e
 | .none,e,v,h,g=>by rw [ThAt] at h;subst h;cases e<;>rw [ThAt] at g<;>first | (obtain⟨a,ys,z,_⟩:=g;cases z;done) | (obtain⟨_,a,z,_⟩:=g;cases z;done) | rfl | (cases g;done)
 | .bool b,e,v,h,g=>by rw [ThAt] at h;subst h;cases e<;>rw [ThAt] at g<;>first | (obtain⟨a,ys,z,_⟩:=g;cases z;done) | (obtain⟨_,a,z,_⟩:=g;cases z;done) | (cases g;rfl) | (cases g;done)
 | .int i,e,v,h,g=>by rw [ThAt] at h;subst h;cases e<;>rw [ThAt] at g<;>first | (obtain⟨a,ys,z,_⟩:=g;cases z;done) | (obtain⟨_,a,z,_⟩:=g;cases z;done) | (cases g;rfl) | (cases g;done)
 | .str x,e,v,h,g=>by rw [ThAt] at h;subst h;cases e<;>rw [ThAt] at g<;>first | (obtain⟨a,ys,z,_⟩:=g;cases z;done) | (obtain⟨_,a,z,_⟩:=g;cases z;done) | (cases g;rfl) | (cases g;done)
 | .list xs,e,v,h,g=>by
  rw [ThAt] at h
  obtain⟨a,ys,rfl,h2,h3⟩:=h
  cases e with
  | list xs' =>
   rw [ThAt] at g
   obtain⟨b,zs,z,g2,g3⟩:=g
   cases z
   rw [h2] at g2;cases g2
   rw [ThsAt.uniq h3 g3]
  | tuple xs'=>rw [ThAt] at g;obtain⟨b,zs,z,g2,g3⟩:=g;cases z;rw [h2] at g2;cases g2
  | dict kvs=>rw [ThAt] at g;obtain⟨_,b,z,g2⟩:=g;cases z;rw [h2] at g2;cases g2
  | none=>rw [ThAt] at g;cases g
  | bool _=>rw [ThAt] at g;cases g
  | int _=>rw [ThAt] at g;cases g
  | str _=>rw [ThAt] at g;cases g
 | .tuple xs,e,v,h,g=>by
  rw [ThAt] at h
  obtain⟨a,ys,rfl,h2,h3⟩:=h
  cases e with
  | tuple xs' =>
   rw [ThAt] at g
   obtain⟨b,zs,z,g2,g3⟩:=g
   cases z
   rw [h2] at g2;cases g2
   rw [ThsAt.uniq h3 g3]
  | list xs'=>rw [ThAt] at g;obtain⟨b,zs,z,g2,g3⟩:=g;cases z;rw [h2] at g2;cases g2
  | dict kvs=>rw [ThAt] at g;obtain⟨_,b,z,g2⟩:=g;cases z;rw [h2] at g2;cases g2
  | none=>rw [ThAt] at g;cases g
  | bool _=>rw [ThAt] at g;cases g
  | int _=>rw [ThAt] at g;cases g
  | str _=>rw [ThAt] at g;cases g
 | .dict kvs,e,v,h,g=>by
  rw [ThAt] at h
  obtain⟨h0,a,rfl,h2⟩:=h
  cases e with
  | dict kvs' =>
   rw [ThAt] at g
   obtain⟨g0,b,z,g2⟩:=g
   cases z
   rw [h2] at g2
   have q:dV (unD kvs)=dV (unD kvs'):=by injection (Option.some.inj g2)
   rw [h0,g0,zdc q]
  | list xs'=>rw [ThAt] at g;obtain⟨b,zs,z,g2,g3⟩:=g;cases z;rw [h2] at g2;cases g2
  | tuple xs'=>rw [ThAt] at g;obtain⟨b,zs,z,g2,g3⟩:=g;cases z;rw [h2] at g2;cases g2
  | none=>rw [ThAt] at g;cases g
  | bool _=>rw [ThAt] at g;cases g
  | int _=>rw [ThAt] at g;cases g
  | str _=>rw [ThAt] at g;cases g
theorem ThsAt.uniq {H:Hp}:∀ {ds es:List PyData} {ys:List V},ThsAt H ds ys->ThsAt H es ys->ds=es
 | [],es,ys,h,g=>by
  rw [ThsAt] at h;subst h
  cases es with
  | nil=>rfl
  | cons e es=>rw [ThsAt] at g;obtain⟨y,zs,z,_⟩:=g;cases z
 | d :: ds,es,ys,h,g=>by
  rw [ThsAt] at h
  obtain⟨y,zs,rfl,h2,h3⟩:=h
  cases es with
  | nil=>rw [ThsAt] at g;cases g
  | cons e es =>
   rw [ThsAt] at g
   obtain⟨y',zs',z,g2,g3⟩:=g
   cases z
   rw [ThAt.uniq h2 g2,ThsAt.uniq h3 g3]
end
theorem Th.fit {H:Hp} {k n:Nat} {v:V} {d:PyData} (t:Th H k n v) (h:ThAt H d v):Fit k n d:=by
 obtain⟨e,g,f⟩:=t
 rw [h.uniq g];exact f
theorem ThsAt.map {α:Type} {H:Hp} {f:α->PyData} {g:α->V}:∀ {xs:List α},(∀ x∈xs,ThAt H (f x) (g x))->ThsAt H (xs.map f) (xs.map g)
 | [],_=>by rw [List.map_nil,List.map_nil,ThsAt]
 | x :: xs,h=>by
  rw [List.map_cons,List.map_cons,ThsAt]
  exact⟨_,_,rfl,h x (.head _),ThsAt.map λy hy=>h y (.tail _ hy)⟩
theorem ThAt.ints {H:Hp} {a:Addr} {ns:List Int} (h:H a=some (.lst (ns.map V.int))):ThAt H (.list (ns.map .int)) (.ref a):=by
 rw [ThAt]
 exact⟨a,_,rfl,h,ThsAt.map λi _=>by rw [ThAt]⟩
end L2
namespace L2
open PySem PyProof.Rows
def shT:PyData->Nat
 | .none=>0 | .bool _=>1 | .int _=>2 | .str _=>3 | .list _=>4 | .tuple _=>5 | .dict _=>6
def tyS (k n s:Nat):Ty:=⟨λG v=>∃ d,ThAt G d v/\Fit k n d/\shT d=s,λs ⟨d,h,f,p⟩=>⟨d,h.same s,f,p⟩⟩
def tyD (d:PyData):Ty:=⟨λG v=>ThAt G d v,λs h=>h.same s⟩
def zaS (k n lo hi:Nat) (P:PyData->Bool):Ty:=⟨λG v=>∃ a vs,v=.ref a/\G a=some (.lst vs)/\lo<=vs.length/\vs.length<=hi/\(∀ u∈vs,Th G k n u)/\∃ u∈vs,(tyQ k n P).p G u,
 λs ⟨a,vs,h1,h2,h3,h4,h5,u,h6,h7⟩=>⟨a,vs,h1,s _ _ h2,h3,h4,λu hu=>(h5 u hu).same s,u,h6,(tyQ _ _ P).mo s h7⟩⟩
theorem Ths.ofL {H:Hp} {vs:List V} {ds:List PyData} (h:ThsAt H ds vs):∀ {j:Nat} {v:V},vs[j]?=some v->∃ d,ds[j]?=some d/\ThAt H d v:=λe=>h.get e
theorem ThsAt.mem {H:Hp} {vs:List V} {ds:List PyData} (h:ThsAt H ds vs) {v:V} (hv:v∈vs):∃ d∈ds,ThAt H d v:=by
 obtain⟨j,hj,rfl⟩:=List.mem_iff_getElem.mp hv
 obtain⟨d,hd,t⟩:=h.get (List.getElem?_eq_getElem hj)
 exact⟨d,List.mem_of_getElem? hd,t⟩
theorem ThsAt.back {H:Hp}:∀ {ds:List PyData} {vs:List V},ThsAt H ds vs->∀ d∈ds,∃ v∈vs,ThAt H d v
 | [],_,_,d,hd=>by cases hd
 | e :: ds,vs,h,d,hd=>by
  rw [ThsAt] at h
  obtain⟨y,zs,rfl,h1,h2⟩:=h
  rcases List.mem_cons.mp hd with rfl | hd
  ·exact⟨y,.head _,h1⟩
  ·obtain⟨v,hv,t⟩:=ThsAt.back h2 d hd
   exact⟨v,.tail _ hv,t⟩
theorem ThsAt.drop {H:Hp}:∀ (k:Nat) {ds:List PyData} {vs:List V},ThsAt H ds vs->ThsAt H (ds.drop k) (vs.drop k)
 | 0,_,_,h=>h
 | k+1,[],vs,h=>by rw [ThsAt] at h;subst h;rw [List.drop_nil,List.drop_nil,ThsAt]
 | k+1,d :: ds,vs,h=>by
  rw [ThsAt] at h
  obtain⟨y,zs,rfl,h1,h2⟩:=h
  exact ThsAt.drop k h2
theorem ThsAt.take {H:Hp}:∀ (k:Nat) {ds:List PyData} {vs:List V},ThsAt H ds vs->ThsAt H (ds.take k) (vs.take k)
 | 0,_,_,h=>by rw [List.take_zero,List.take_zero,ThsAt]
 | k+1,[],vs,h=>by rw [ThsAt] at h;subst h;rw [List.take_nil,List.take_nil,ThsAt]
 | k+1,d :: ds,vs,h=>by
  rw [ThsAt] at h
  obtain⟨y,zs,rfl,h1,h2⟩:=h
  rw [List.take_succ_cons,List.take_succ_cons,ThsAt]
  exact⟨_,_,rfl,h1,ThsAt.take k h2⟩
theorem ThsAt.rev {H:Hp}:∀ {ds:List PyData} {vs:List V},ThsAt H ds vs->ThsAt H ds.reverse vs.reverse
 | [],vs,h=>by rw [ThsAt] at h;subst h;rw [List.reverse_nil,List.reverse_nil,ThsAt]
 | d :: ds,vs,h=>by
  rw [ThsAt] at h
  obtain⟨y,zs,rfl,h1,h2⟩:=h
  rw [List.reverse_cons,List.reverse_cons]
  exact (ThsAt.rev h2).app (by rw [ThsAt];exact⟨_,_,rfl,h1,by rw [ThsAt]⟩)
theorem ThsAt.rep {H:Hp} {ds:List PyData} {vs:List V}:∀ (c:Nat),ThsAt H ds vs->ThsAt H (List.replicate c ds).flatten (List.replicate c vs).flatten
 | 0,h=>by rw [List.replicate_zero,List.replicate_zero,List.flatten_nil,List.flatten_nil,ThsAt]
 | c+1,h=>by
  rw [List.replicate_succ,List.replicate_succ,List.flatten_cons,List.flatten_cons]
  exact h.app (ThsAt.rep c h)
theorem ThAt.lst {H:Hp} {a:Addr} {ds:List PyData} {vs:List V} (h:H a=some (.lst vs)) (t:ThsAt H ds vs):ThAt H (.list ds) (.ref a):=by rw [ThAt];exact⟨a,vs,rfl,h,t⟩
theorem ThAt.list_inv {H:Hp} {a:Addr} {ds:List PyData} {vs:List V} (h:H a=some (.lst vs)) (t:ThAt H (.list ds) (.ref a)):ThsAt H ds vs:=by
 rw [ThAt] at t
 obtain⟨b,us,e,h1,h2⟩:=t
 cases e
 rw [h] at h1;cases h1
 exact h2
theorem V9 {H:Hp} {a:Addr} {d:PyData} {vs:List V} (h:H a=some (.lst vs)) (t:ThAt H d (.ref a)):∃ ds,d=.list ds/\ThsAt H ds vs:=by
 cases d with
 | list ds=>exact⟨ds,rfl,t.list_inv h⟩
 | tuple ds=>rw [ThAt] at t;obtain⟨b,us,e,h1,_⟩:=t;cases e;rw [h] at h1;cases h1
 | dict _=>rw [ThAt] at t;obtain⟨_,b,e,h1⟩:=t;cases e;rw [h] at h1;cases h1
 | none=>rw [ThAt] at t;cases t
 | bool _=>rw [ThAt] at t;cases t
 | int _=>rw [ThAt] at t;cases t
 | str _=>rw [ThAt] at t;cases t
theorem JQ {H:Hp} {a:Addr} {d:PyData} {vs:List V} (h:H a=some (.tup vs)) (t:ThAt H d (.ref a)):∃ ds,d=.tuple ds/\ThsAt H ds vs:=by
 cases d with
 | tuple ds=>rw [ThAt] at t;obtain⟨b,us,e,h1,h2⟩:=t;cases e;rw [h] at h1;cases h1;exact⟨ds,rfl,h2⟩
 | list ds=>rw [ThAt] at t;obtain⟨b,us,e,h1,_⟩:=t;cases e;rw [h] at h1;cases h1
 | dict _=>rw [ThAt] at t;obtain⟨_,b,e,h1⟩:=t;cases e;rw [h] at h1;cases h1
 | none=>rw [ThAt] at t;cases t
 | bool _=>rw [ThAt] at t;cases t
 | int _=>rw [ThAt] at t;cases t
 | str _=>rw [ThAt] at t;cases t
section
variable {w:View} {Γ:Cxt} {te ta tb:TE} {K:W.Frag} {k n m k' n' m' lo hi lo' hi' s:Nat} {i j:Int} {P P':PyData->Bool} {d e:PyData}
theorem Tp.sQ (h:Tp w Γ te (tyS k n s)) (hP:∀ d,shT d=s->P d=true) (hk:k<=k':=by decide) (hn:n<=n':=by decide):Tp w Γ te (tyQ k' n' P):=h.sub λG v ⟨d,a,f,p⟩=>⟨d,a,f.le hk hn,hP d p⟩
theorem Th.sh {G:Hp} {v:V} (t:Th G k n v) (h:∀ d,ThAt G d v->shT d=s):(tyS k n s).p G v:=let ⟨d,a,f⟩:=t;⟨d,a,f,h d a⟩
theorem Tp.nonS:Tp w Γ (tC .non) (tyS 0 0 0):=λZ H Q o f q=>q _ H o (Same.refl _) (Th.non.sh λd t=>by rw [t.uniq (e:=.none) (by rw [ThAt])];rfl)
theorem Tp.blS {b:Bool}:Tp w Γ (tC (.bl b)) (tyS 0 0 1):=λZ H Q o f q=>q _ H o (Same.refl _) (Th.bl.sh λd t=>by rw [t.uniq (e:=.bool b) (by rw [ThAt])];rfl)
theorem Tp.strS {x:Str} (h:(x.cps.toList.all λc=>decide (c<16^8))=true) (hn:x.cps.size<=100):Tp w Γ (tC (.str x)) (tyS 0 100 3):=λZ H Q o f q=>q _ H o (Same.refl _) ((Th.str h hn).sh λd t=>by rw [t.uniq (e:=.str x) (by rw [ThAt])];rfl)
theorem Tp.lS (h:Tp w Γ te (tyL k n lo hi)):Tp w Γ te (tyS (k+1) ((n+1)*hi) 4):=h.sub λG v ⟨a,vs,e,h1,_,h2,h3⟩=>by
 rw [e];exact (Th.lst h1 h3 (Nat.mul_le_mul_left _ h2)).sh λd t=>by obtain⟨_,rfl,_⟩:=V9 h1 t;rfl
theorem Tp.empS:Tp w Γ zbe (tyS 1 0 6):=λZ H Q o f q p hp=>by
 obtain⟨o2,s2,e2⟩:=w.new (.dK []) o hp
 exact q (.ref p) _ o2 s2 ⟨.dict [],by rw [ThAt];exact⟨rfl,p,rfl,e2⟩,Th.fit (Th.emp e2 (Nat.le_refl _)) (by rw [ThAt];exact⟨rfl,p,rfl,e2⟩),rfl⟩
theorem Tp.tupQ {t:TA} (h:TpA w Γ t k n m) (hP:∀ ds:List PyData,ds.length=m->P (.tuple ds)=true) (hk:k+1<=k':=by decide) (hn:(n+1)*m<=n':=by decide) (hm:m<=10000:=by decide):Tp w Γ (zcb t) (tyQ k' n' P):=λZ H Q o f q=>h Z H _ o f λvs H1 o1 s1 e1 t1=>⟨yc (by rw [e1];exact hm),λp hp=>by
 obtain⟨o2,s2,e2⟩:=w.new (.tup vs) o1 hp
 exact q (.ref p) _ o2 (s1.trans s2) (((Th.tup e2 (λu hu=>(t1 u hu).same s2) (by rw [e1];exact Nat.le_refl _)).le hk hn).q λd t=>by
  obtain⟨ds,rfl,hd⟩:=JQ e2 t
  exact hP ds (by rw [<- hd.len,e1]))⟩
theorem Tp.tupOfS (h:Tp w Γ te (tyL k n lo hi)):Tp w Γ (tCB (λxs H Q=>∃ p ys,xs=[.ref p]/\((SqL K H p ys/\∀ l,H l=none->Q (.ref l) (upd H l (.tup ys)))\/(SqT K H p ys/\Q (.ref p) H))) (yQ te qD)) (tyS (k+1) ((n+1)*hi) 5):=λZ H Q o f q=>h Z H _ o f λv H1 o1 s1 ⟨a,vs,e1,g1,l1,m1,r1⟩=>⟨a,vs,by rw [e1],.inl ⟨SqL.of (w.out g1),λp hp=>by
 obtain⟨o4,s4,e4⟩:=w.new (.tup vs) o1 hp
 exact q (.ref p) _ o4 (s1.trans s4) ((Th.tup e4 (λu hu=>(r1 u hu).same s4) (Nat.mul_le_mul_left _ m1)).sh λd t=>by obtain⟨_,rfl,_⟩:=JQ e4 t;rfl)⟩⟩
theorem Tp.lenQ (h:Tp w Γ te (tyL k n lo hi)) (hP:∀ ds:List PyData,lo<=ds.length->ds.length<=hi->P (.list ds)=true) (hk:k+1<=k':=by decide) (hn:(n+1)*hi<=n':=by decide):Tp w Γ te (tyQ k' n' P):=h.sub λG v ⟨a,vs,e,h1,l1,h2,h3⟩=>by
 rw [e];exact ((Th.lst h1 h3 (Nat.mul_le_mul_left _ h2)).le hk hn).q λd t=>by
  obtain⟨ds,rfl,hd⟩:=V9 h1 t
  exact hP ds (by rw [<- hd.len];exact l1) (by rw [<- hd.len];exact h2)
theorem Tp.oneX (h:Tp w Γ te (tyQ k n P)):Tp w Γ (UT (yQ te qD)) (zaS k n 1 1 P):=λZ H Q o f q=>h Z H _ o f λv H1 o1 s1 t1=>⟨yc (by simp),λp hp=>by
 obtain⟨o2,s2,e2⟩:=w.new (.lst [v]) o1 hp
 have t2:=(tyQ k n P).mo s2 t1
 exact q (.ref p) _ o2 (s1.trans s2) ⟨p,[v],rfl,e2,Nat.le_refl _,Nat.le_refl _,λu hu=>by rw [List.mem_singleton.mp hu];exact tyQ.th t2,v,.head _,t2⟩⟩
theorem Tp.catXr (ha:Tp w Γ ta (tyL k n lo hi)) (hb:Tp w Γ tb (zaS k n lo' hi' P)) (hm:hi+hi'<=10000:=by decide):Tp w Γ (tOp zaj ta tb) (zaS k n (lo+lo') (hi+hi') P):=λZ H Q o f q=>ha Z H _ o f λv H1 o1 s1 t1=>hb Z H1 _ o1 (f.same s1) λu H2 o2 s2 t2=>by
 obtain⟨a,vs,e1,g1,l1,m1,r1⟩:=(tyL k n lo hi).mo s2 t1
 obtain⟨b,us,e2,g2,l2,m2,r2,y,hy,ty⟩:=t2
 refine⟨a,b,vs,us,e1,e2,w.out g1,w.out g2,yc (Nat.le_trans (Nat.add_le_add m1 m2) hm),λp hp=>?_⟩
 obtain⟨o3,s3,e3⟩:=w.new (.lst (vs++us)) o2 hp
 refine q (.ref p) _ o3 (s1.trans (s2.trans s3)) ⟨p,_,rfl,e3,by rw [List.length_append];omega,by rw [List.length_append];omega,λx hx=>?_,y,List.mem_append_right _ hy,(tyQ k n P).mo s3 ty⟩
 rcases List.mem_append.mp hx with hx | hx
 ·exact Th.same (r1 x hx) s3
 ·exact (r2 x hx).same s3
theorem Tp.catXl (ha:Tp w Γ ta (zaS k n lo hi P)) (hb:Tp w Γ tb (tyL k n lo' hi')) (hm:hi+hi'<=10000:=by decide):Tp w Γ (tOp zaj ta tb) (zaS k n (lo+lo') (hi+hi') P):=λZ H Q o f q=>ha Z H _ o f λv H1 o1 s1 t1=>hb Z H1 _ o1 (f.same s1) λu H2 o2 s2 t2=>by
 obtain⟨a,vs,e1,g1,l1,m1,r1,y,hy,ty⟩:=(zaS k n lo hi P).mo s2 t1
 obtain⟨b,us,e2,g2,l2,m2,r2⟩:=t2
 refine⟨a,b,vs,us,e1,e2,w.out g1,w.out g2,yc (Nat.le_trans (Nat.add_le_add m1 m2) hm),λp hp=>?_⟩
 obtain⟨o3,s3,e3⟩:=w.new (.lst (vs++us)) o2 hp
 refine q (.ref p) _ o3 (s1.trans (s2.trans s3)) ⟨p,_,rfl,e3,by rw [List.length_append];omega,by rw [List.length_append];omega,λx hx=>?_,y,List.mem_append_left _ hy,(tyQ k n P).mo s3 ty⟩
 rcases List.mem_append.mp hx with hx | hx
 ·exact (r1 x hx).same s3
 ·exact Th.same (r2 x hx) s3
theorem Tp.lxQ (h:Tp w Γ te (zaS k n lo hi P)) (hP:∀ (ds:List PyData) d,d∈ds->P d=true->P' (.list ds)=true) (hk:k+1<=k':=by decide) (hn:(n+1)*hi<=n':=by decide):Tp w Γ te (tyQ k' n' P'):=h.sub λG v ⟨a,vs,e,h1,l1,h2,h3,y,hy,dy,ty,fy,py⟩=>by
 rw [e];exact ((Th.lst h1 h3 (Nat.mul_le_mul_left _ h2)).le hk hn).q λd t=>by
  obtain⟨ds,rfl,hd⟩:=V9 h1 t
  obtain⟨d2,hd2,t2⟩:=hd.mem hy
  exact hP ds d2 hd2 (by rw [t2.uniq ty];exact py)
theorem Tp.leL (h:Tp w Γ te (tyL k n lo hi)) (hk:k<=k':=by decide) (hn:n<=n':=by decide):Tp w Γ te (tyL k' n' lo hi):=h.wideL (λ_ _ t=>Th.le t hk hn) (Nat.le_refl _) (Nat.le_refl _)
theorem Tp.dQ (h:Tp w Γ te (tyD d)) (f:Fit k n d) (hP:P d=true):Tp w Γ te (tyQ k n P):=h.sub λG v t=>⟨d,t,f,hP⟩
theorem Tp.intD:Tp w Γ (tC (.int i)) (tyD (.int i)):=λZ H Q o f q=>q _ H o (Same.refl _) (by show ThAt _ _ _;rw [ThAt])
def TpD (w:View) (Γ:Cxt) (ta:TA) (ds:List PyData):Prop:=∀ (Z:St) (H:Hp) (Q:List V->Hp->Prop),w.ok H->Fits Γ (w.v H) Z->(∀ vs H',w.ok H'->Same (w.v H) (w.v H')->ThsAt (w.v H') ds vs->Q vs H')->ta Z H Q
theorem ThsAt.same' {G G':Hp} {ds:List PyData} {vs:List V} (h:ThsAt G ds vs) (m:Same G G'):ThsAt G' ds vs:=ThsAt.same m h
theorem TpD.nil:TpD w Γ qD []:=λZ H Q o f q=>q [] H o (Same.refl _) (by rw [ThsAt])
theorem TpD.cons {t:TA} {ds:List PyData} (h:Tp w Γ te (tyD d)) (ht:TpD w Γ t ds):TpD w Γ (yQ te t) (d :: ds):=λZ H Q o f q=>h Z H _ o f λv H1 o1 s1 t1=>ht Z H1 _ o1 (f.same s1) λvs H2 o2 s2 t2=>q (v :: vs) H2 o2 (s1.trans s2) (by rw [ThsAt];exact⟨_,_,rfl,ThAt.same s2 t1,t2⟩)
theorem Tp.lstD {t:TA} {ds:List PyData} (h:TpD w Γ t ds) (hm:ds.length<=10000:=by first | decide | simp):Tp w Γ (UT t) (tyD (.list ds)):=λZ H Q o f q=>h Z H _ o f λvs H1 o1 s1 t1=>⟨yc (by rw [t1.len];exact hm),λp hp=>by
 obtain⟨o2,s2,e2⟩:=w.new (.lst vs) o1 hp
 exact q (.ref p) _ o2 (s1.trans s2) (ThAt.lst e2 (t1.same' s2))⟩
theorem Tp.takeD {ds:List PyData} {c:Nat} (h:Tp w Γ te (tyD (.list ds))):Tp w Γ (tSl (zdM K) te Vn (zbS (tC (.int c)))) (tyD (.list (ds.take c))):=λZ H Q o f q=>h Z H _ o f λv H1 o1 s1 t1=>⟨c,rfl,by
 have t1:ThAt (w.v H1) (.list ds) v:=t1
 rw [ThAt] at t1
 obtain⟨a,vs,e1,g1,r1⟩:=t1
 refine⟨a,vs,e1,SqL.of (w.out g1),λp hp=>?_⟩
 rw [zbW]
 obtain⟨o3,s3,e3⟩:=w.new (.lst (vs.take c)) o1 hp
 exact q (.ref p) _ o3 (s1.trans s3) (ThAt.lst e3 (ThsAt.take c (r1.same' s3)))⟩
theorem Tp.dL {ds:List PyData} (h:Tp w Γ te (tyD (.list ds))) (f:∀ d∈ds,Fit k n d):Tp w Γ te (tyL k n ds.length ds.length):=h.sub λG v t=>by
 have t:ThAt G (.list ds) v:=t
 rw [ThAt] at t
 obtain⟨a,vs,e,h1,h2⟩:=t
 refine⟨a,vs,e,h1,by rw [h2.len];exact Nat.le_refl _,by rw [h2.len];exact Nat.le_refl _,λu hu=>?_⟩
 obtain⟨d,hd,td⟩:=h2.mem hu
 exact⟨d,td,f d hd⟩
theorem Tp.tup2 {tx ty:TE} (hx:Tp w Γ tx (tyQ k n P)) (hy:Tp w Γ ty (tyQ k n P')) {R:PyData->Bool} (hP:∀ d e,P d=true->P' e=true->R (.tuple [d,e])=true) (hk:k+1<=k':=by decide) (hn:(n+1)*2<=n':=by decide):Tp w Γ (zcb (yQ tx (yQ ty qD))) (tyQ k' n' R):=λZ H Q o f q=>hx Z H _ o f λx H1 o1 s1 t1=>hy Z H1 _ o1 (f.same s1) λy H2 o2 s2 t2=>⟨yc (by simp),λp hp=>by
 obtain⟨o4,s4,e4⟩:=w.new (.tup [x,y]) o2 hp
 obtain⟨d,td,fd,pd⟩:=(tyQ k n P).mo (s2.trans s4) t1
 obtain⟨e,te,fe,pe⟩:=(tyQ k n P').mo s4 t2
 refine q (.ref p) _ o4 ((s1.trans s2).trans s4) (((Th.tup (n':=(n+1)*2) e4 (λu hu=>?_) (Nat.le_refl _)).le hk hn).q λdd t=>?_)
 ·simp only [List.mem_cons,List.not_mem_nil,or_false] at hu
  rcases hu with rfl | rfl
  ·exact⟨d,td,fd⟩
  ·exact⟨e,te,fe⟩
 ·obtain⟨ds,rfl,hd⟩:=JQ e4 t
  have:ds=[d,e]:=hd.uniq (by rw [ThsAt];exact⟨_,_,rfl,td,by rw [ThsAt];exact⟨_,_,rfl,te,by rw [ThsAt]⟩⟩)
  rw [this];exact hP d e pd pe⟩
theorem Q4 {G:Hp} {Z:St} {Γ:Cxt} (f:Fits Γ G Z):∀ js:List Nat,Fits (js.map λj=>(Γ[j]?).join) G (xG js Z)
 | []=>Fits.nil
 | j :: js=>by
  have ih:=Q4 f js
  show Fits ((Γ[j]?).join :: js.map λj=>(Γ[j]?).join) G ((Z[j]?).join :: xG js Z)
  cases e:Γ[j]? with
  | none=>exact Fits.skip ih
  | some T =>
   cases T with
   | none=>exact Fits.skip ih
   | some T =>
    obtain⟨v,ev,q⟩:=f.2 j T e
    rw [ev]
    exact Fits.cons q ih
theorem TpS.nil {TR:Ty}:TpS w Γ zeM Γ TR:=λD Z H o f qn qr=>qn Z H o (Same.refl _) f
theorem TpS.post {t:TS} {Γ1 Γ2:Cxt} {TR:Ty} (h:TpS w Γ t Γ1 TR) (c:CSub Γ1 Γ2):TpS w Γ t Γ2 TR:=λD Z H o f qn qr=>h D Z H o f (fun σ' H' o' s' f'=>qn σ' H' o' s' (c.fits f')) qr
end
open PySem PySem.Spec PyProof.Rows
def zeW (K:W.Frag) (te:TE):TE:=λZ H Q=>te Z H λx H1=>∃ a x0 x1 x2 x3 x4 x5,x=.ref a/\SqL K H1 a [x0,x1,x2,x3,x4,x5]/\∀ p,H1 p=none->Q (.ref p) (upd H1 p (.lst [x2,x1,x0]))
theorem zfY (a0 a1 a2 a3 a4 a5:Value):slicePick #[a0,a1,a2,a3,a4,a5] (some 2) none (some (-1))=#[a2,a1,a0]:=by rfl
theorem six {x0 x1 x2 x3 x4 x5:V} {us:List Value} (r:Vals [x0,x1,x2,x3,x4,x5] us):∃ u0 u1 u2 u3 u4 u5,us=[u0,u1,u2,u3,u4,u5]/\RelV x0 u0/\RelV x1 u1/\RelV x2 u2:=by
 cases r with
 | cons g0 r=>cases r with
  | cons g1 r=>cases r with
   | cons g2 r=>cases r with
    | cons _ r=>cases r with
     | cons _ r=>cases r with
      | cons _ r=>cases r;exact⟨_,_,_,_,_,_,rfl,g0,g1,g2⟩
theorem zd0 {X:Cx} {e:Expr} {te:TE} {j j2:Nat} {p0 p1 p2 p3 pos:Pos} (he:PE X e te):PE X (.Subscript e (.Slice (some (.Constant (.int 2) j2 p0)) none (some (.UnaryOp .USub (.Constant (.int 1) j p1) p2)) p3) pos) (zeW X.K te):=by
 intro pins s Z H Q I h
 refine Subscript_ (thn (he pins s Z H _ I h) λv s1 ⟨x,H1,I1,r1,q1⟩=>?_)
 obtain⟨a,x0,x1,x2,x3,x4,x5,rfl,hx,q⟩:=q1
 cases r1
 refine wpAny_Slice ?_
 rw [evalPart_some]
 refine thn (zr (X:=X) pins s1 Z H1 (λv H2=>v=.int 2/\H2=H1) I1 ⟨rfl,rfl⟩) λu s2 ⟨y,H2,I2,r2,e1,e2⟩=>?_
 subst e1 e2
 obtain⟨t2,rfl⟩:=r2
 rw [evalPart_none]
 refine wpAny_pure ?_
 rw [evalPart_some]
 refine thn (W2 ZW (zr (X:=X)) pins s2 Z H2 (λv H3=>v=.int (-1)/\H3=H2) I2 ⟨1,rfl,rfl,rfl⟩) λu s3 ⟨y,H3,I3,r3,e1,e2⟩=>?_
 subst e1 e2
 obtain⟨t,rfl⟩:=r3
 have I4:Inv X pins Z H3 { s3 with heap:=s3.heap.push { cls:=.type "slice",data:=.fields #[.int 2 t2,.none,.int (-1) t] } }:=I3.kept (t':=s3.toks) λb ob q=>Heap.get?_push_of_some _ q
 obtain⟨its',r',ht',hz'⟩:=I4.list hx
 have hlen':=r'.length
 show wpAny (model X.prog X.w) X.A (subscriptTail e (.Slice (some _) none (some _) p3) (.ref a) (.ref s3.heap.objs.size)) (EP X pins Z Q) X.xe { s3 with heap:=s3.heap.push { cls:=.type "slice",data:=.fields #[.int 2 t2,.none,.int (-1) t] } }
 refine tail_any (ops:=[.ref a,.ref s3.heap.objs.size]) ht'.isList.typeIs slot_list_getitem.lookup ?_ (by with_unfolding_all rfl)
 refine wpAny_getItem_list_slice ht'.isList (Heap.IsSliceOf.new ..) (.int 2 t2) .none (.int (-1) t) (by simp) ?_ (by rw [List.size_toArray]<;>omega)
 have e6:∃ u0 u1 u2 u3 u4 u5,its'=[u0,u1,u2,u3,u4,u5]/\RelV x0 u0/\RelV x1 u1/\RelV x2 u2:=six r'
 obtain⟨u0,u1,u2,u3,u4,u5,rfl,g0,g1,g2⟩:=e6
 rw [show slicePick ([u0,u1,u2,u3,u4,u5]:List Value).toArray (some 2) none (some (-1))=#[u2,u1,u0] from zfY u0 u1 u2 u3 u4 u5]
 refine⟨.ref _,_,I4.laid (t':=s3.toks) (o:=.lst [x2,x1,x0]) (λb ob q=>Heap.get?_push_of_some _ q) (Nat.le_refl _) ?_,rfl,q _ (I4.hok.fresh (Nat.le_refl _))⟩
 exact⟨by show 3<=sizeLine;decide,[u2,u1,u0],0,.cons g2 (.cons g1 (.cons g0 .nil)),Heap.get?_push_size _ rfl⟩
section
variable {w:View} {Γ:Cxt} {te ta tb:TE} {lo hi lo' hi':Nat} {i j i' j':Int} {K:W.Frag}
theorem Tp.rev3D {d0 d1 d2 d3 d4 d5:PyData} (h:Tp w Γ te (tyD (.list [d0,d1,d2,d3,d4,d5]))):Tp w Γ (zeW K te) (tyD (.list [d2,d1,d0])):=λZ H Q o f q=>h Z H _ o f λv H1 o1 s1 t1=>by
 have t1:ThAt (w.v H1) (.list [d0,d1,d2,d3,d4,d5]) v:=t1
 rw [ThAt] at t1
 obtain⟨a,vs,e,ha,hs⟩:=t1
 have hl:=hs.len
 match vs,hl,ha,hs with
 | [x0,x1,x2,x3,x4,x5],_,ha,hs =>
  refine⟨a,x0,x1,x2,x3,x4,x5,e,SqL.of (w.out ha),λp hp=>?_⟩
  obtain⟨o3,s3,e3⟩:=w.new (.lst [x2,x1,x0]) o1 hp
  have hr:=(hs.take 3).rev
  exact q (.ref p) _ o3 (s1.trans s3) (ThAt.lst (ds:=[d2,d1,d0]) e3 (ThsAt.same s3 hr))
theorem Tp.repT {T:Ty} {c c':Nat} (ha:Tp w Γ ta (yH T lo hi)) (hb:Tp w Γ tb (tyI c c')) (hm:hi*c'<=10000:=by decide) (hc:c'<=10000:=by decide):Tp w Γ (tOp zdj ta tb) (yH T (lo*c) (hi*c')):=λZ H Q o f q=>ha Z H _ o f λv H1 o1 s1 t1=>hb Z H1 _ o1 (f.same s1) λu H2 o2 s2 ⟨y,e2,a2,b2⟩=>by
 obtain⟨a,vs,e1,g1,l1,m1,r1⟩:=(yH T lo hi).mo s2 t1
 have hy:y.toNat<=c':=by omega
 have hz:c<=y.toNat:=by omega
 refine⟨a,y,vs,e1,e2,w.out g1,by omega,by omega,yc (Nat.le_trans (Nat.mul_le_mul m1 hy) hm),λp hp=>?_⟩
 obtain⟨o3,s3,e3⟩:=w.new (.lst (List.replicate y.toNat vs).flatten) o2 hp
 exact q (.ref p) _ o3 (s1.trans (s2.trans s3)) ⟨p,_,rfl,e3,by rw [len_rep,Nat.mul_comm lo];exact Nat.mul_le_mul hz l1,by rw [len_rep,Nat.mul_comm hi];exact Nat.mul_le_mul hy m1,λx hx=>T.mo s3 (r1 x (zbV hx))⟩
theorem Tp.min2 {l:Int} (ha:Tp w Γ ta (tyI i j)) (hb:Tp w Γ tb (tyI i' j')) (h1:l<=i:=by first | decide | omega) (h2:l<=i':=by first | decide | omega):Tp w Γ (tCB (λxs H Q=>∃ i j,xs=[.int i,.int j]/\Q (.int (if j<i then j else i)) H) (yQ ta (yQ tb qD))) (tyI l j'):=λZ H Q o f q=>ha Z H _ o f λv H1 o1 s1 ⟨x,e1,a1,b1⟩=>hb Z H1 _ o1 (f.same s1) λu H2 o2 s2 ⟨y,e2,a2,b2⟩ =>
 ⟨x,y,by rw [e1,e2],q _ H2 o2 (s1.trans s2) ⟨_,rfl,by split<;>omega,by split<;>omega⟩⟩
theorem Tp.compL {js:List Nat} {T T':Ty} (hl:Tp w Γ ta (yH T lo hi)) (h:Tp w (some T :: js.map λj=>(Γ[j]?).join) te T') (hc:hi<=10000:=by decide):Tp w Γ (zdm (zdr K ta) js Y5 te) (yH T' lo hi):=λZ H Q o f q=>hl Z H _ o f λv H1 o1 s1 ⟨a,vs,e1,g1,l1,m1,r1⟩=>by
 refine⟨a,e1,⟨_,SqL.of (w.out g1)⟩,yN (K:=K) (a:=a) (xs:=vs) (λi ys H2=>ys.length=i/\w.ok H2/\Same (w.v H1) (w.v H2)/\∀ u∈ys,T'.p (w.v H2) u) ⟨rfl,o1,Same.refl _,by simp⟩ (λi us H2 _ ⟨_,_,s2,_⟩=>SqL.of (w.out (s2 _ _ g1))) ?_ ?_⟩
 ·rintro i x ys H2 hx ⟨l2,o2,s2,r2⟩
  have hi2:i<vs.length:=(List.getElem?_eq_some_iff.mp hx).1
  refine⟨by rw [l2];exact Nat.lt_of_lt_of_le (show i<hi by omega) (yc hc),?_⟩
  show te (some x :: xG js Z) H2 _
  refine h _ H2 _ o2 (Fits.cons (T.mo s2 (r1 x (List.mem_of_getElem? hx))) (Q4 (f.same (s1.trans s2)) js)) λv H3 o3 s3 t3=>⟨by rw [List.length_append,l2];rfl,o3,s2.trans s3,λu hu=>?_⟩
  rcases List.mem_append.mp hu with hu | hu
  ·exact T'.mo s3 (r2 u hu)
  ·rw [List.mem_singleton.mp hu];exact t3
 ·rintro ys H2 ⟨l2,o2,s2,r2⟩ D hD
  obtain⟨o4,s4,e4⟩:=w.new (.lst ys) o2 hD
  exact q (.ref D) _ o4 (s1.trans (s2.trans s4)) ⟨D,ys,rfl,e4,by omega,by omega,λu hu=>T'.mo s4 (r2 u hu)⟩
theorem Tp.takeU {T:Ty} {c:Nat} (h:Tp w Γ te (yH T lo hi)):Tp w Γ (tSl (zdM K) te Vn (zbS (tC (.int c)))) (yH T 0 c):=λZ H Q o f q=>h Z H _ o f λv H1 o1 s1 ⟨a,vs,e1,g1,l1,m1,r1⟩=>⟨c,rfl,by
 refine⟨a,vs,e1,SqL.of (w.out g1),λp hp=>?_⟩
 rw [zbW]
 obtain⟨o3,s3,e3⟩:=w.new (.lst (vs.take c)) o1 hp
 exact q (.ref p) _ o3 (s1.trans s3) ⟨p,_,rfl,e3,Nat.zero_le _,by rw [List.length_take];omega,λu hu=>T.mo s3 (r1 u (List.mem_of_mem_take hu))⟩⟩
theorem JB:∀ {ds es:List PyData} {k:Nat},PyData.leavesShortAll 40 ds=true/\PyData.showableAll ds=true/\PyData.depthAll ds<=k->PyData.leavesShortAll 40 es=true/\PyData.showableAll es=true/\PyData.depthAll es<=k ->
  PyData.leavesShortAll 40 (ds++es)=true/\PyData.showableAll (ds++es)=true/\PyData.depthAll (ds++es)<=k/\PyData.weightAll (ds++es)=PyData.weightAll ds+PyData.weightAll es
 | [],es,k,_,h=>⟨h.1,h.2.1,h.2.2,by rw [PyData.weightAll,Nat.zero_add];rfl⟩
 | d :: ds,es,k,h,h'=>by
  obtain⟨h1,h2,h3⟩:=h
  rw [PyData.leavesShortAll,Bool.and_eq_true] at h1
  rw [PyData.showableAll,Bool.and_eq_true] at h2
  rw [PyData.depthAll] at h3
  obtain⟨g1,g2,g3,g4⟩:=JB (ds:=ds) (es:=es) (k:=k) ⟨h1.2,h2.2,by omega⟩ h'
  refine⟨by rw [List.cons_append,PyData.leavesShortAll,h1.1,g1];rfl,by rw [List.cons_append,PyData.showableAll,h2.1,g2];rfl,by rw [List.cons_append,PyData.depthAll];omega,by rw [List.cons_append,PyData.weightAll,PyData.weightAll,g4];omega⟩
theorem Tp.bent {tx:TE} {k n n' k' W:Nat} {P P':PyData->Bool} (ha:Tp w Γ ta (tyL k n lo hi)) (hx:Tp w Γ tx (tyQ k n' P)) (hb:Tp w Γ tb (tyL k n lo' hi')) (hP:∀ (ds:List PyData) d,d∈ds->P d=true->P' (.list ds)=true) (hm:hi+1+hi'<=10000:=by decide) (hk:k+1<=k':=by decide) (hn:(n+1)*hi+(n'+1)+(n+1)*hi'<=W:=by decide) :
  Tp w Γ (tOp zaj (tOp zaj ta (UT (yQ tx qD))) tb) (tyQ k' W P'):=λZ H Q o f q=>ha Z H _ o f λv H1 o1 s1 t1=>hx Z H1 _ o1 (f.same s1) λx H2 o2 s2 t2=>⟨yc (by simp),λp hp=>by
 obtain⟨o3,s3,e3⟩:=w.new (.lst [x]) o2 hp
 obtain⟨a,vs,e1,g1,l1,m1,r1⟩:=(tyL k n lo hi).mo (s2.trans s3) t1
 refine⟨a,p,vs,_,e1,rfl,w.out g1,w.out e3,yc (by show vs.length+1<=10000;omega),λl hl=>?_⟩
 obtain⟨o4,s4,e4⟩:=w.new (.lst (vs++[x])) o3 hl
 refine hb Z _ _ o4 (f.same (((s1.trans s2).trans s3).trans s4)) λu H5 o5 s5 ⟨b,us,e5,g5,l5,m5,r5⟩=>?_
 refine⟨l,b,_,us,rfl,e5,w.out (s5 _ _ e4),w.out g5,yc (by rw [List.length_append,List.length_singleton];omega),λr hr=>?_⟩
 obtain⟨o6,s6,e6⟩:=w.new (.lst (vs++[x]++us)) o5 hr
 obtain⟨ds,a1,a2,a3,a4,a5⟩:=Ths.of λy hy=>Th.same (r1 y hy) ((s4.trans s5).trans s6)
 obtain⟨es,b1,b2,b3,b4,b5⟩:=Ths.of λy hy=>Th.same (r5 y hy) s6
 obtain⟨d,c1,c2,c3⟩:=t2
 have c1:=ThAt.same (((s3.trans s4).trans s5).trans s6) c1
 have f1:PyData.leavesShortAll 40 [d]=true/\PyData.showableAll [d]=true/\PyData.depthAll [d]<=k:=⟨by rw [PyData.leavesShortAll,PyData.leavesShortAll,c2.ls];rfl,by rw [PyData.showableAll,PyData.showableAll,c2.sh];rfl,by rw [PyData.depthAll,PyData.depthAll];have:=c2.dp;omega⟩
 have w1:PyData.weightAll [d]<=n'+1:=by rw [PyData.weightAll,PyData.weightAll];have:=c2.wt;omega
 obtain⟨y1,y2,y3,y4⟩:=JB ⟨a2,a3,a4⟩ f1
 obtain⟨z1,z2,z3,z4⟩:=JB ⟨y1,y2,y3⟩ ⟨b2,b3,b4⟩
 have ww:(n+1)*vs.length<=(n+1)*hi:=Nat.mul_le_mul_left _ m1
 have wu:(n+1)*us.length<=(n+1)*hi':=Nat.mul_le_mul_left _ m5
 refine q (.ref r) _ o6 (((((s1.trans s2).trans s3).trans s4).trans s5).trans s6) ⟨.list (ds++[d]++es),ThAt.lst e6 (ThsAt.app (ThsAt.app a1 (by rw [ThsAt];exact⟨_,_,rfl,c1,by rw [ThsAt]⟩)) b1),⟨by rw [PyData.leavesShort];exact z1,by rw [PyData.showable];exact z2,by rw [PyData.depth];omega,by rw [PyData.weight,z4,y4];omega⟩,hP _ d (by simp) c3⟩⟩
end
section
variable {X:Cx} {pins:List (Addr×Obj)} {Z:St} {H:Hp} {s:Shared} {h':Heap} {T:Addr} {o:HO} {t':Nat} {fp:List Addr}
theorem Inv.turnedL (I:Inv X pins Z H s) (k:∀ b o,b∉fp->s.heap.get? b=some o->h'.get? b=some o) (hf:∀ b∈fp,Wb X pins H b):Inv X pins Z H { s with heap:=h',toks:=t' }:=by
 have nf:∀ b u,H b=some u->b∉fp:=λb u e hb=>by rw [(hf b hb).1] at e;cases e
 refine I.step (g':=s.gens) (d':=s.drawn) (ch:=fp) (λb hb=>⟨(hf b hb).2.2.2.1,(hf b hb).2.1,(hf b hb).2.2.2.2.1,(hf b hb).2.2.2.2.2⟩) (λb o _ _ hc q _=>k b o hc q) (λb o _ _ hc q _=>⟨o.slots,k b o hc q⟩) (λ_ _ _ _ n=>n)
  (λb o hc q=>⟨o,k b o hc q⟩) (λ_ _ q=>q) (λ_ _ _ q=>q) (λb ps q=>⟨#[],by rw [q];simp⟩) (λm hm=>?_) (λb u q=>?_) I.bare
 ·obtain⟨o,es,ep,ho,r⟩:=hm
  exact⟨o,es,ep,k _ o (λz=>(hf _ z).2.1 rfl) ho,r⟩
 ·refine (I.hok b u q).stay (λc v hc z=>k c v ?_ z) (λ_ z=>z) λ_ _ z=>z
  rcases hc with rfl | hc
  ·exact nf _ _ q
  ·exact nf _ _ hc
theorem Inv.turnedN (I:Inv X pins Z H s) (k:∀ b o,b∉fp->s.heap.get? b=some o->h'.get? b=some o) (hf:∀ b∈fp,Wb X pins H b) (hT:s.heap.objs.size<=T) (new:ObjOk X.prog X.w (upd H T o) h' T o) :
  Inv X pins Z (upd H T o) { s with heap:=h',toks:=t' }:=by
 have hn:H T=none:=I.hok.fresh hT
 have na:∀ b u,H b=some u->b≠T:=λb u e z=>by rw [z,hn] at e;cases e
 have nf:∀ b u,H b=some u->b∉fp:=λb u e hb=>by rw [(hf b hb).1] at e;cases e
 refine I.step (g':=s.gens) (d':=s.drawn) (ch:=fp) (λb hb=>⟨(hf b hb).2.2.2.1,(hf b hb).2.1,(hf b hb).2.2.2.2.1,(hf b hb).2.2.2.2.2⟩) (λb o _ _ hc q _=>k b o hc q) (λb o _ _ hc q _=>⟨o.slots,k b o hc q⟩) (λb o hc q n=>by rw [zx (Nat.ne_of_lt (Nat.lt_of_lt_of_le (Heap.lt_size q) hT))];exact n)
  (λb o hc q=>⟨o,k b o hc q⟩) (λb xs q=>by rw [zx (na b _ q)];exact q) (λb o u q=>by rw [zx (na b _ q)];exact q) (λb ps q=>⟨#[],by rw [zx (na b _ q),q];simp⟩) (λm hm=>?_) (λb u q=>?_) I.bare
 ·obtain⟨o,es,ep,ho,r⟩:=hm
  exact⟨o,es,ep,k _ o (λz=>(hf _ z).2.1 rfl) ho,r⟩
 ·by_cases hb:b=T
  ·subst hb
   rw [zj] at q
   cases q
   exact new
  ·rw [zx hb] at q
   refine (I.hok b u q).stay (λc v hc z=>k c v ?_ z) (λc z=>by rw [zx (na c _ z)];exact z) λc xs z=>by rw [zx (na c _ z)];exact z
   rcases hc with rfl | hc
   ·exact nf _ _ q
   ·exact nf _ _ hc
end
def Itz (K:W.Frag) (a b:Addr):It :=
 ⟨λi H=>∃ xs ys x y,SqL K H a xs/\SqL K H b ys/\xs[i]?=some x/\ys[i]?=some y,λi H v H'=>∃ T x y,v=.ref T/\H T=none/\H'=upd H T (.tup [x,y])/\(∀ xs,SqL K H a xs->xs[i]?=some x)/\∀ ys,SqL K H b ys->ys[i]?=some y,
  λi H=>∃ xs ys,SqL K H a xs/\SqL K H b ys/\(xs.length<=i\/ys.length<=i)⟩
theorem zdV {P:Program} {w:World} {K:W.Frag} {elts:List Expr} {k:Nat} {tp:Pos} (a b z TI TO i1 i2:Addr) (D:ZipApart z TI TO i1 i2 a b):Turn P w K (.Tuple elts k tp) (Itz K a b) [z,TI,TO,i1,i2] z
  (λi h=>IsZip h z TI TO .none/\IsPair h TI (.ref i1) (.ref i2)/\(∃ u v,IsPair h TO u v)/\h.IsListIter i1 a i/\h.IsListIter i2 b i) where
 mem:=by simp
 obj:=λi h st c hc=>by
  obtain⟨h1,h2,⟨u,v,h3⟩,⟨o4,h4,c4,d4⟩,⟨o5,h5,c5,d5⟩⟩:=st
  simp only [List.mem_cons,List.not_mem_nil,or_false] at hc
  rcases hc with rfl | rfl | rfl | rfl | rfl
  ·exact⟨_,h1,λv q=>by have q':Data.fields _=Data.cell v:=q;cases q'⟩
  ·exact⟨_,h2,λv q=>by have q':Data.seq _ _=Data.cell v:=q;cases q'⟩
  ·exact⟨_,h3,λv q=>by have q':Data.seq _ _=Data.cell v:=q;cases q'⟩
  ·exact⟨o4,h4,λv q=>by rw [d4] at q;cases q⟩
  ·exact⟨o5,h5,λv q=>by rw [d5] at q;cases q⟩
 keep:=λi h h' st kk=>by
  obtain⟨h1,h2,⟨u,v,h3⟩,h4,h5⟩:=st
  exact⟨kk z (by simp) _ h1,kk TI (by simp) _ h2,⟨u,v,kk TO (by simp) _ h3⟩,h4.at λo q=>kk i1 (by simp) o q,h5.at λo q=>kk i2 (by simp) o q⟩
 item:=by
  intro X hP hw hK hc i pins s Z H E I hf st hg
  subst hP hw hK
  obtain⟨xs,ys,x,y,hq1,hq2,hx,hy⟩:=hg
  obtain⟨its,rv,p,_⟩:=I.list hq1
  obtain⟨its2,rv2,p2,_⟩:=I.list hq2
  obtain⟨u,hu,ru⟩:=rv.get hx
  obtain⟨v,hv,rv'⟩:=rv2.get hy
  obtain⟨h1,h2,⟨u0,v0,h3⟩,h4,h5⟩:=st
  refine wpAny_pyNext_zip_item D h1 h2 h3 h4 h5 p.isList p2.isList (x:=u) (y:=v) (by simpa using hu) (by simpa using hv) λh' g1 g3 g4 g5 gT hsz hk=>?_
  refine⟨_,rfl,?_⟩
  refine wpAny_letOwnedTupleGo_zip (s:={ s with heap:=h' }) g1 λh'' g1' hs'=>?_
  have hzl:z<s.heap.objs.size:=Heap.lt_size h1
  have gT':h''.get? s.heap.objs.size=some { cls:=.type "tuple",data:=.seq #[u,v] }:=(hs'.2 _ (Nat.ne_of_gt hzl)).trans gT
  have I1:Inv X pins Z (upd H s.heap.objs.size (.tup [x,y])) { s with heap:=h'',toks:=s.toks }:=by
   refine I.turnedN (fp:=[z,TI,TO,i1,i2]) (λc o hc q=>?_) hf (Nat.le_refl _) ⟨by show 2<=sizeLine;decide,[u,v],.cons ru (.cons rv' .nil),_,gT',rfl,0,rfl⟩
   exact (hs'.2 c (λq=>hc (by simp [q]))).trans (hk c o (λq=>hc (by simp [q])) (λq=>hc (by simp [q])) (λq=>hc (by simp [q])) (λq=>hc (by simp [q])) q)
  have hTI:h''.get? TI=some _:=(hs'.2 _ D.TIz).trans (hk _ _ D.TIz D.TITO D.TIi1 D.TIi2 h2)
  refine⟨.ref s.heap.objs.size,_,I1,rfl,⟨s.heap.objs.size,x,y,rfl,I.hok.fresh (Nat.le_refl _),rfl,λzs hz=>by rw [I.list_inj hz hq1];exact hx,λzs hz=>by rw [I.list_inj hz hq2];exact hy⟩,⟨g1',hTI,⟨u,v,(hs'.2 _ D.TOz).trans g3⟩,g4.at λo q=>(hs'.2 _ D.i1z).trans q,g5.at λo q=>(hs'.2 _ D.i2z).trans q⟩,λc hc=>?_⟩
  have hcl:c<s.heap.objs.size:=by
   simp only [List.mem_cons,List.not_mem_nil,or_false] at hc
   obtain⟨o4,h4,_⟩:=h4
   obtain⟨o5,h5,_⟩:=h5
   rcases hc with rfl | rfl | rfl | rfl | rfl
   ·exact hzl
   ·exact Heap.lt_size h2
   ·exact Heap.lt_size h3
   ·exact Heap.lt_size h4
   ·exact Heap.lt_size h5
  rw [zx (Nat.ne_of_lt hcl)]
  exact (hf c hc).1
 done:=by
  intro X hP hw hK hc i pins s Z H E I hf st hg
  subst hP hw hK
  obtain⟨xs,ys,hq1,hq2,hx⟩:=hg
  obtain⟨its,rv,p,_⟩:=I.list hq1
  obtain⟨its2,rv2,p2,_⟩:=I.list hq2
  obtain⟨h1,h2,⟨u0,v0,h3⟩,h4,h5⟩:=st
  have l1:=rv.length
  have l2:=rv2.length
  refine wpAny_pyNext_zip_end (I.ok.hd hc) D h1 h2 h3 h4 h5 p.isList p2.isList (by
   rcases hx with hx | hx
   ·exact .inl (by simp;omega)
   ·exact .inr (by simp;omega)) λh' hk=>⟨rfl,I.turnedL (t':=s.toks) (fp:=[z,TI,TO,i1,i2]) (λc o hc q=>?_) hf⟩
  exact hk c o (λq=>hc (by simp [q])) (λq=>hc (by simp [q])) (λq=>hc (by simp [q])) (λq=>hc (by simp [q])) q
 self:=λ_ _ _ _ _ st h=>wpAny_pyIter_zip st.1 h
section
variable {X:Cx}
theorem boot_zip:bootBuiltins "zip" = some (.type "zip"):=by decide +kernel
def zgK (K:W.Frag) (tl:TA):TI:=λZ H R=>tl Z H λvs H1=>∃ a b,vs=[.ref a,.ref b]/\(∃ xs,SqL K H1 a xs)/\(∃ ys,SqL K H1 b ys)/\R (Itz K a b) H1
theorem zfE (K:W.Frag) {elts:List Expr} {k:Nat} {tp:Pos} {a b:Expr} {ta:TA} {p pos:Pos} (hg:Gl X "zip") (hm:X.mg "zip" = none) (ha:PA X [a,b] ta) (he:starEach [a,b] X.env=(false,eval a X.env) :: starEach [b] X.env:=by rfl) (hpl:(backTo pos (starEach [b] X.env)).any (·.1)=false:=by rfl) (ek:X.K=K:=by rfl) :
  PI X (.Tuple elts k tp) (.Call (.Name "zip" p) [a,b] [] pos) (zgK K ta):=by
 subst ek
 intro pins s Z H R I h
 refine Call_ (ZC I hg hm boot_zip (PyProof.Rows.callWith_type1 (thn (ha pos pins s Z H _ I h) λus s1 ⟨vs,H1,I1,r1,q1⟩=>?_) he hpl))
 obtain⟨l1,l2,e,⟨xs,hq1⟩,⟨ys,hq2⟩,q⟩:=q1
 subst e
 obtain⟨u1,u2,rfl,r1,r2⟩:=vals2 r1
 cases r1
 cases r2
 obtain⟨its,rv,pl,_⟩:=I1.list hq1
 obtain⟨its2,rv2,pl2,_⟩:=I1.list hq2
 have b1:l1<s1.heap.objs.size:=by obtain⟨_,e,_⟩:=pl.isList;exact Heap.lt_size e
 have b2:l2<s1.heap.objs.size:=by obtain⟨_,e,_⟩:=pl2.isList;exact Heap.lt_size e
 refine call_zip_2 pl.isList pl2.isList λh' g1 g2 g3 g4 g5 hsz hk=>?_
 refine wpAny_pyIter_zip (s:={ s1 with heap:=h' }) g1 ?_
 have I2:Inv X pins Z H1 { s1 with heap:=h' }:=I1.kept (t':=s1.toks) λb o q=>hk b o q
 refine⟨s1.heap.objs.size+4,[s1.heap.objs.size+4,s1.heap.objs.size+2,s1.heap.objs.size+3,s1.heap.objs.size,s1.heap.objs.size+1],_,_,H1,rfl,I2,zdV l1 l2 _ _ _ _ _ (zipApart_new b1 b2),⟨g1,g2,⟨_,_,g3⟩,g4,g5⟩,λb hb=>?_,q⟩
 have hb2:s1.heap.objs.size<=b:=by
  simp only [List.mem_cons,List.not_mem_nil,or_false] at hb
  rcases hb with rfl | rfl | rfl | rfl | rfl<;>first | exact Nat.le_refl _ | exact Nat.le_add_right _ _
 exact I1.fpOk hb2 (I1.hok.fresh hb2)
theorem zcw {K:W.Frag} {a b:Addr} {xs ys:List V} {ns:List Str} {js:List Nat} {g:TG} {tt:TT} {te:TE} {Z:St} {H:Hp} {Q:VK} (Pv:Nat->List V->Hp->Prop) (hlen:xs.length=ys.length) (h0:Pv 0 [] H) (hl:∀ i zs H,i<=xs.length->Pv i zs H->SqL K H a xs/\SqL K H b ys)
  (hs:∀ i x y zs H T,xs[i]?=some x->ys[i]?=some y->Pv i zs H->H T=none->g (.ref T) (nones ns++xG js Z) (upd H T (.tup [x,y])) fun σ' H1=>(∃ vs:St,vs.length=ns.length/\σ'=vs++xG js Z)/\tt σ' H1 λc H2=>if c=true then te σ' H2 λv H3=>Pv (i+1) (zs++[v]) H3 else Pv (i+1) zs H2)
  (hz:∀ i zs H,i<xs.length->Pv i zs H->zs.length<sizeLine)
  (hd:∀ zs H,Pv xs.length zs H->∀ D,H D=none->Q (.ref D) (upd H D (.lst zs))) :
  Q0 (Itz K a b) ns js g tt te Z Q H:=by
 refine⟨λi m zs H=>m=xs.length-i/\i<=xs.length/\Pv i zs H,⟨xs.length,by simp,Nat.zero_le _,h0⟩,?_⟩
 rintro i m zs H ⟨rfl,hi,p⟩
 obtain⟨q1,q2⟩:=hl i zs H hi p
 by_cases hlt:i<xs.length
 ·have hx:xs[i]?=some xs[i]:=List.getElem?_eq_getElem hlt
  have hy:ys[i]?=some (ys[i]'(by omega)):=List.getElem?_eq_getElem (by omega)
  refine .inr ⟨⟨xs,ys,_,_,q1,q2,hx,hy⟩,hz i zs H hlt p,Pv (i+1),λzs' H' p'=>⟨xs.length-(i+1),by omega,rfl,hlt,p'⟩,λv H' yl=>?_⟩
  obtain⟨T,x,y,rfl,hT,rfl,k1,k2⟩:=yl
  have e1:=k1 xs q1
  have e2:=k2 ys q2
  rw [hx] at e1
  rw [hy] at e2
  cases e1
  cases e2
  exact hs i _ _ zs H T hx hy p hT
 ·have e:i=xs.length:=by omega
  subst e
  exact .inl ⟨⟨xs,ys,q1,q2,.inl (Nat.le_refl _)⟩,hd zs H p⟩
end
section
variable {X:Cx} {tg:Expr}
end
section
variable {X:Cx} {o e:Expr} {es:List Expr} {to:TE} {t:TA} {name:Str} {apos cpos:Pos} {T id:String} {r:V->List V->Hp->VK->Prop}
end
end L2
namespace Lw
def figs (b n:Nat):List Int:=if h:2<=b/\b<=n then figs b (n / b)++[((n % b:Nat):Int)] else [(n:Int)]
termination_by n
decreasing_by exact Nat.div_lt_self (by omega) (by omega)
theorem Zd {b n:Nat} (h:n<b):figs b n=[(n:Int)]:=by
 rw [figs,dif_neg (by omega)]
theorem Vo {b n:Nat} (h2:2<=b) (h:b<=n):figs b n=figs b (n / b)++[((n % b:Nat):Int)]:=by
 rw [figs,dif_pos ⟨h2,h⟩]
def ahead (b r:Nat):List Int:=if r=0 then [] else figs b r
theorem QV {b n:Nat} (h2:2<=b):figs b n=ahead b (n / b)++[((n % b:Nat):Int)]:=by
 unfold ahead
 by_cases h:n<b
 ·rw [Zd h,if_pos (Nat.div_eq_of_lt h),Nat.mod_eq_of_lt h];rfl
 ·rw [Vo h2 (by omega),if_neg]
  have:=Nat.div_pos (a:=n) (b:=b) (by omega) (by omega)
  omega
theorem zaQ {b r:Nat} (h2:2<=b) (hr:0<r):ahead b r=ahead b (r / b)++[((r % b:Nat):Int)]:=by
 rw [<- QV h2]
 unfold ahead
 rw [if_neg (by omega)]
theorem Us {b:Nat} (h2:2<=b):∀ (m n:Nat),n<2^m->(figs b n).length<=m+1
 | 0,n,h=>by rw [Zd (by simp at h;omega)];simp
 | m+1,n,h=>by
  by_cases hn:n<b
  ·rw [Zd hn];simp
  ·rw [Vo h2 (by omega),List.length_append,List.length_singleton]
   have h3:n / b<=n / 2:=Nat.div_le_div_left h2 (by omega)
   have h4:n / 2<2^m:=by rw [Nat.pow_succ] at h;omega
   have:=Us h2 m (n / b) (by omega)
   omega
theorem zd2 {b n:Nat}:figs b n≠[]:=by
 rw [figs]
 split
 ·simp
 ·simp
def tops (b:Nat):Nat->Nat->List Int
 | 0,n=>[((n / b^0:Nat):Int)]
 | k+1,n=>((n / b^(k+1):Nat):Int) :: tops b k (n % b^(k+1))
theorem QK {b:Nat}:∀ (k n:Nat),tops b (k+1) n=tops b k (n / b)++[((n % b:Nat):Int)]
 | 0,n=>by simp [tops]
 | k+1,n=>by
  rw [tops,QK k (n % b^(k+2)),tops,List.cons_append]
  have e:b^(k+1+1)=b*b^(k+1):=by rw [Nat.pow_succ,Nat.mul_comm]
  have e1:n % b^(k+1+1) / b=n / b % b^(k+1):=by rw [e,Nat.mod_mul_right_div_self]
  have e2:n % b^(k+1+1) % b=n % b:=by rw [e,Nat.mod_mul_right_mod]
  have e3:n / b^(k+1+1)=n / b / b^(k+1):=by rw [e,Nat.div_div_eq_div_mul]
  rw [e1,e2,e3]
theorem Yp {b:Nat} (h2:2<=b):∀ (k n:Nat),n<b^(k+1)->(k=0\/b^k<=n)->tops b k n=figs b n
 | 0,n,h,_=>by
  rw [Zd (by simpa using h)];simp [tops]
 | k+1,n,h,hk=>by
  have hge:b^(k+1)<=n:=by
   rcases hk with z | z
   ·omega
   ·exact z
  have hb:b<=n:=Nat.le_trans (by rw [Nat.pow_succ];exact Nat.le_mul_of_pos_left b (Nat.pow_pos (by omega))) hge
  rw [QK,Vo h2 hb]
  have h3:n / b<b^(k+1):=by
   rw [Nat.div_lt_iff_lt_mul (by omega),<- Nat.pow_succ];exact h
  have h4:b^k<=n / b:=by
   rw [Nat.le_div_iff_mul_le (by omega),<- Nat.pow_succ];exact hge
  rw [Yp h2 k (n / b) h3 (.inr h4)]
theorem J4 {b:Nat}:∀ (k n:Nat),(tops b k n).length=k+1
 | 0,n=>rfl
 | k+1,n=>by rw [tops,List.length_cons,J4 k]
structure zgO (b:Nat) (ns:List Int):Prop where
 ne:ns≠[]
 len:ns.length<=200
 fig:∀ f∈ns,0<=f/\f<b
 first:ns.head?≠some 0\/ns.length=1
def Um (st fs:List Int):Bool:=(List.range fs.length).any λk=>decide ((fs.drop k).take st.length=st)
theorem qN {st fs:List Int} (h:st≠[]):Um st fs=true↔∃ k,(fs.drop k).take st.length=st:=by
 unfold Um
 simp only [List.any_eq_true,List.mem_range,decide_eq_true_eq]
 constructor
 ·rintro⟨k,_,e⟩;exact⟨k,e⟩
 ·rintro⟨k,e⟩
  refine⟨k,?_,e⟩
  have hl:=congrArg List.length e
  rw [List.length_take,List.length_drop] at hl
  have:0<st.length:=List.length_pos_iff.mpr h
  omega
theorem za1 {st fs:List Int} (h:st≠[]):Um st fs=(List.range ((fs.length:Int)-st.length+1).toNat).any λk=>decide ((fs.drop k).take st.length=st):=by
 rw [Bool.eq_iff_iff,qN h]
 simp only [List.any_eq_true,List.mem_range,decide_eq_true_eq]
 constructor
 ·rintro⟨k,e⟩
  refine⟨k,?_,e⟩
  have hl:=congrArg List.length e
  rw [List.length_take,List.length_drop] at hl
  have:0<st.length:=List.length_pos_iff.mpr h
  omega
 ·rintro⟨k,_,e⟩;exact⟨k,e⟩
def lacks (ls:ZA) (fs:List Int):Bool:=!ls.any λst=>Um st fs
theorem zdz {st fs gs:List Int} (h:st≠[]) (q:Um st fs=true):Um st (fs++gs)=true:=by
 rw [qN h] at q ⊢
 obtain⟨k,e⟩:=q
 refine⟨k,?_⟩
 have hl:=congrArg List.length e
 rw [List.length_take,List.length_drop] at hl
 have hp:0<st.length:=List.length_pos_iff.mpr h
 rw [List.drop_append_of_le_length (by omega),List.take_append_of_le_length (by rw [List.length_drop];omega)]
 exact e
theorem Qx {ls:ZA} {fs gs:List Int} (ne:∀ l∈ls,l≠[]) (h:lacks ls (fs++gs)=true):lacks ls fs=true:=by
 unfold lacks at *
 rw [Bool.not_eq_true',List.any_eq_false] at h ⊢
 intro l hl q
 exact h l hl (zdz (ne l hl) q)
def Zf (ls:ZA) (fs:List Int):Bool:=ls.any λst=>decide (st.take fs.length=fs)
def yf (ls:ZA):List Int->List Int
 | []=>[]
 | x :: fs=>if Zf ls (x :: fs) then x :: fs else yf ls fs
theorem jX {ls:ZA}:∀ (i:Nat) (fs:List Int),i<=fs.length->(∀ k,k<i->Zf ls (fs.drop k)=false)->yf ls fs=yf ls (fs.drop i)
 | 0,_,_,_=>rfl
 | i+1,[],h,_=>by simp at h
 | i+1,x :: fs,h,q=>by
  have h0:=q 0 (by omega)
  rw [List.drop_zero] at h0
  rw [yf,if_neg (by rw [h0];decide),List.drop_succ_cons]
  exact jX i fs (by simpa using h) λk hk=>by have:=q (k+1) (by omega);rwa [List.drop_succ_cons] at this
theorem zbc {ls:ZA} {fs:List Int} (h:Zf ls fs=true):yf ls fs=fs:=by
 cases fs with
 | nil=>rfl
 | cons x fs=>rw [yf,if_pos h]
theorem zc1 {ls:ZA} {fs:List Int} {i:Nat} (hi:i<=fs.length) (h:∀ k,k<i->Zf ls (fs.drop k)=false) (q:Zf ls (fs.drop i)=true):yf ls fs=fs.drop i:=by
 rw [jX i fs hi h,zbc q]
theorem zaV {ls:ZA} {fs:List Int} (h:∀ k,k<fs.length->Zf ls (fs.drop k)=false):yf ls fs=[]:=by
 rw [jX fs.length fs (Nat.le_refl _) h,List.drop_length];rfl
end Lw
namespace L2
open PySem PySem.Spec PyProof.Rows PySem.W
def zbA (c:Addr) (q:Str):HO:=.ext λh=>h.CodeRec (.ref c) q
def zbD (P:Addr) (pos:Pos) (q:Str) (H:Hp) (c:Addr):Prop:=H P=some (.tbl #[rawInt pos.line,rawInt pos.col,.ref c])/\H c=some (zbA c q)
def Wz (P:Addr) (pos:Pos) (q:Str) (H:Hp):Prop:=H P=some (.tbl #[])\/∃ c,zbD P pos q H c
section
variable {P:Program} {w:World} {K:Frag} {mg:Str->Option Value} {base:Heap} {N ps:List Str} {k:Nat} {A:Around} {outer:List Env} {s:Shared} {H:Hp} {us:List Value} {vs:List V} {Q:VK} {E:XK} {f:Addr} {o:Obj}
 {name qual:Str} {params:Arguments} {body:Expr} {scope:Scope} {pm cdv ct:Value} {args:Args}
theorem zee (ho:s.heap.get? f=some o) (hd:o.data=.func (kla_fn name qual params body scope [] pm cdv ct)) (hcd:s.heap.CodeRec cdv qual) (S:zF N ps scope) (hr:Room (k+1) A) (e0:Env0 P w K mg base A outer s H)
  (hb:BindsTo s (kla_fn name qual params body scope [] pm cdv ct) args (ps.zip us)) (hl:vs.length=ps.length) (r:Vals vs us)
  (hbody:∃ t,PE (YG CX0 P w K mg base N qual scope f cdv A outer s H E) body t/\t (start N vs) H Q):codeAny (model P w) A (.call (.ref f) args) (CR CX0 outer P w H s Q E) s:=by
 have lim:s.heap.NoLimit:=e0.mod.nolimit.keeps λb o e=>(e0.bs b o e).1
 have hkind:∀ y∈ps.zip us,scope.names.lookup y.1=some .local\/(scope.names.lookup y.1=some .cell/\((cellsFrom (s.heap.objs.size+1) scope.names []).lookup y.1).isSome=true):=λ⟨n,v⟩ hy=>by
  rcases S.par n (List.of_mem_zip hy).1 with q | q
  ·exact .inl q
  ·exact .inr ⟨q,W.cellsFrom_some _ _ _ (.inl q)⟩
 refine kla_callFunE hr.depth ho hd S.co S.gen rfl hcd (hb _ _ _ _ ?_)
 refine wpAny_newFunctionEnv_cells S.kind hkind λenv he s1 x=>?_
 subst he
 refine⟨lim.keeps x.toInCall.keep,kla_codeExpr ?_⟩
 obtain⟨t,ht,hq⟩:=hbody
 have I:Inv (YG CX0 P w K mg base N qual scope f cdv A outer s H E) [] (start N vs) H s1:=QF S hr.hd e0 hl r x
 refine wpAny_mono (ht [] s1 (start N vs) H _ I hq) (λu s' hs=>?_) λe s' hs=>hs
 obtain⟨v,H',J,rv,q⟩:=hs
 exact⟨v,H',J.os,J.bare,J.base,J.hok,rv,q⟩
end
section
variable {X:Cx} {pins:List (Addr×Obj)} {Z:St} {H:Hp} {s:Shared} {params:Arguments} {body:Expr} {scope:Scope} {pos:Pos} {c P:Addr} {Q:Value->Shared->Prop}
theorem zcQ (I:Inv X pins Z H s) (hdef:defaultsOf params X.env=([],[])) (hcl:closureFor scope X.env=pure []) (hcode:X.env.code=.ref c) (hK:codeHdIn X.K c P=true) (hB:X.base.BuiltinsAt X.mg P) (hgP:mainGlobals≠P)
  (hT:Wz P pos (X.env.qual ++ "<lambda>") H)
  (h:∀ (f c':Addr) (H':Hp) (s':Shared) (pm ct:Value),Inv X pins Z H' s'->zbD P pos (X.env.qual ++ "<lambda>") H' c'->s'.heap.get? f=some (kla_obj "<lambda>" (X.env.qual ++ "<lambda>") params body scope [] pm c' ct)->H' f=none->s.heap.objs.size<=f ->
   (∀ b u,b≠P->H b=some u->H' b=some u)->Q (.ref f) s') :
  wpAny (model X.prog X.w) X.A (eval (.Lambda params body scope pos) X.env) Q X.xe s:=by
 have C:CodeHd s.heap c P:=codeHd_of_K I.kIn hK
 have hg:s.heap.Ns mainGlobals X.mg:=I.mod.glob.keeps I.bk
 have hb:s.heap.BuiltinsAt X.mg P:=by
  obtain⟨bm,o,b1,b2,b3,b4,b5,b6,b7,b8⟩:=hB
  exact⟨bm,o,b1,b2,b3,b4,I.bk _ _ b5,b6,b7,b8⟩
 refine kla_eval hdef ?_
 rcases hT with hP | ⟨c',hP,hc'⟩
 ·have hPo:s.heap.get? P=some (tabObj #[]):=I.hok P _ hP
  refine kla_makeFunction hcl I.ok.glob hg hcode C hPo (show TriplesOk [] from trivial) rfl hgP hb λc' ct h' tk hx hge hlt hrec htb=>?_
  have htb':h'.get? P=some (tabObj #[rawInt pos.line,rawInt pos.col,.ref c']):=htb
  have hPc:P≠c':=λz=>by
   have:=Heap.lt_size hPo
   rw [z] at this
   exact absurd (Nat.lt_of_lt_of_le this hge) (Nat.lt_irrefl _)
  have hHc:H c'=none:=I.hok.fresh hge
  have old:∀ b o,b≠P->s.heap.get? b=some o->(h'.push (kla_obj "<lambda>" (X.env.qual ++ "<lambda>") params body scope [] ((X.mg "__name__").getD .none) c' ct)).get? b=some o:=λb o hb e=>Heap.get?_push_of_some _ (hx b o hb e)
  have nP:∀ b,H b=none->b≠P:=λb n z=>by rw [z,hP] at n;cases n
  have up:∀ b u,b≠P->H b=some u->upd (upd H P (.tbl #[rawInt pos.line,rawInt pos.col,.ref c'])) c' (zbA c' (X.env.qual ++ "<lambda>")) b=some u:=λb u hb e=>by
   rw [zx (λz=>by rw [z,hHc] at e;cases e),zx hb];exact e
  have upn:∀ b,b≠P->b≠c'->H b=none->upd (upd H P (.tbl #[rawInt pos.line,rawInt pos.col,.ref c'])) c' (zbA c' (X.env.qual ++ "<lambda>")) b=none:=λb h1 h2 e=>by
   rw [zx h2,zx h1];exact e
  have J:Inv X pins Z (upd (upd H P (.tbl #[rawInt pos.line,rawInt pos.col,.ref c'])) c' (zbA c' (X.env.qual ++ "<lambda>"))) { s with heap:=h'.push (kla_obj "<lambda>" (X.env.qual ++ "<lambda>") params body scope [] ((X.mg "__name__").getD .none) c' ct),toks:=tk }:=by
   refine I.un ⟨λb o e n _ _=>old b o (nP b n) e,λb o e n _ _=>⟨o.slots,old b o (nP b n) e⟩,λb o e n _=>upn b (nP b n) (Nat.ne_of_lt (Nat.lt_of_lt_of_le (Heap.lt_size e) hge)) n,λb o e _=>?_,λb xs e=>up b _ (λz=>by rw [z,hP] at e;cases e) e,λb o u e=>up b _ (λz=>by rw [z,hP] at e;cases e) e,λb ps e=>?_⟩ ?_
   ·by_cases hb:b=P
    ·rw [hb];exact⟨_,Heap.get?_push_of_some _ htb'⟩
    ·exact⟨o,old b o hb e⟩
   ·by_cases hb:b=P
    ·rw [hb] at e ⊢
     rw [hP] at e
     cases e
     exact⟨#[rawInt pos.line,rawInt pos.col,.ref c'],by rw [zx hPc,zj];rfl⟩
    ·exact⟨#[],by rw [up b _ hb e];simp⟩
   ·intro b u e
    by_cases hbc:b=c'
    ·subst hbc
     rw [zj] at e
     cases e
     obtain⟨c2,oc,vs,t,e1,e2,e3,e4⟩:=id hrec
     cases e1
     have q:=Heap.get?_push_of_some (kla_obj "<lambda>" (X.env.qual ++ "<lambda>") params body scope [] ((X.mg "__name__").getD .none) b ct) e2
     refine⟨⟨b,oc,vs,t,rfl,q,e3,e4⟩,⟨oc,q⟩,λh1 h2 ⟨c3,o3,v3,t3,a1,a2,a3,a4⟩ k=>?_⟩
     cases a1
     exact⟨b,o3,v3,t3,rfl,k _ a2,a3,a4⟩
    ·rw [zx hbc] at e
     by_cases hbP:b=P
     ·rw [hbP] at e ⊢
      rw [zj] at e
      cases e
      exact Heap.get?_push_of_some _ htb'
     ·rw [zx hbP] at e
      refine (I.hok b u e).stay (λd v hd q=>old d v ?_ q) (λd q=>?_) λd xs q=>?_
      ·rcases hd with rfl | hd
       ·exact hbP
       ·intro z;rw [z,hP] at hd;cases hd
      ·exact up d _ (λz=>by rw [z,hP] at q;cases q) q
      ·exact up d _ (λz=>by rw [z,hP] at q;cases q) q
  have hsz:s.heap.objs.size<=h'.objs.size:=Nat.le_of_lt (Nat.lt_of_le_of_lt hge hlt)
  refine h _ c' _ _ _ ct J ⟨by rw [zx hPc,zj],zj⟩ (Heap.get?_push_size _ rfl) ?_ hsz up
  exact upn _ (Nat.ne_of_gt (Nat.lt_of_lt_of_le (Heap.lt_size hPo) hsz)) (Nat.ne_of_gt hlt) (I.hok.fresh hsz)
 ·have hPo:s.heap.get? P=some (tabObj #[rawInt pos.line,rawInt pos.col,.ref c']):=I.hok P _ hP
  refine kla_makeFunctionHit hcl I.ok.glob hg hcode C hPo (show TriplesOk [rawInt pos.line,rawInt pos.col,.ref c'] from trivial) (cv:=.ref c') ?_ hb λct h' tk hk hsz=>?_
  ·have:=codeAmong_snoc (pos:=pos) (c:=.ref c') [] trivial rfl
   exact this
  ·exact h _ c' H _ _ ct (I.kept (t':=tk) λb u e=>Heap.get?_push_of_some _ (hk b u e)) ⟨hP,hc'⟩ (Heap.get?_push_size _ rfl) (I.hok.fresh hsz) hsz (λb u _ e=>e)
end
end L2
namespace HT
def vd (a b:List Int):Bool:=if a.length=b.length then lexLt a b else decide (a.length<b.length)
theorem X8 (a:List Int):vd a a=false:=by unfold vd;rw [if_pos rfl,yx]
theorem W5 (a b c:List Int) (h1:vd a b=true) (h2:vd b c=true):vd a c=true:=by
 unfold vd at *
 by_cases e1:a.length=b.length
 ·rw [if_pos e1] at h1
  by_cases e2:b.length=c.length
  ·rw [if_pos e2] at h2
   rw [if_pos (e1.trans e2)]
   exact wO a b c h1 h2
  ·rw [if_neg e2] at h2
   rw [if_neg (by omega)]
   have:=of_decide_eq_true h2
   exact decide_eq_true (by omega)
 ·rw [if_neg e1] at h1
  have h1':=of_decide_eq_true h1
  by_cases e2:b.length=c.length
  ·rw [if_neg (by omega)]
   exact decide_eq_true (by omega)
  ·rw [if_neg e2] at h2
   have:=of_decide_eq_true h2
   rw [if_neg (by omega)]
   exact decide_eq_true (by omega)
theorem za7 (a b:List Int) (h:a≠b):vd b a=!vd a b:=by
 unfold vd
 by_cases e:a.length=b.length
 ·rw [if_pos e,if_pos e.symm,Zo a b h]
 ·rw [if_neg e,if_neg (Ne.symm e),Bool.eq_iff_iff]
  simp
  omega
theorem zgT {ls:ZA} (nd:ls.Nodup):Ord (λi j=>vd (ls.getD i []) (ls.getD j [])) ls.length:=by
 have ge:∀ i,(h:i<ls.length)->ls.getD i []=ls[i]:=λi h=>by rw [List.getD_eq_getElem?_getD,List.getElem?_eq_getElem h];rfl
 refine⟨λi j k _ _ _ h1 h2=>W5 _ _ _ h1 h2,λi j hi hj hij h=>?_,λi j hi hj h=>?_⟩
 ·have ne:ls.getD i []≠ls.getD j []:=λz=>by
   rw [ge i hi,ge j hj] at z
   exact hij ((List.getElem_inj nd).mp z)
  have:=za7 _ _ ne
  rw [h] at this
  exact this
 ·cases e:vd (ls.getD j []) (ls.getD i []) with
  | false=>rfl
  | true =>
   have:=W5 _ _ _ h e
   rw [X8] at this
   cases this
end HT
namespace L2
open PySem PySem.Spec PyProof.Rows PySem.W
section
variable {X:Cx} {pins:List (Addr×Obj)} {Z:St} {H:Hp} {s:Shared}
theorem za5 (I:Inv X pins Z H s) {p z:Addr} {n:Int} (h:H p=some (.tup [.int n,.ref z])):∃ (t:Tok) (o:Obj) (m:Nat),s.heap.get? p=some o/\o.cls=.type "tuple"/\o.data=.seq #[.int n t,.ref z] m:=by
 obtain⟨_,its,r,o,e,hc,m,hd⟩:=I.hok p _ h
 cases r with
 | cons r1 r2 =>
  cases r2 with
  | cons r3 r4 =>
   cases r4
   obtain⟨t,rfl⟩:=r1
   cases r3
   exact⟨t,o,m,e,hc,hd⟩
theorem zfw (I:Inv X pins Z H s) {A:Around} {p q za zb:Addr} {as bs:List Int} (hp:H p=some (.tup [.int as.length,.ref za])) (hq:H q=some (.tup [.int bs.length,.ref zb])) (ha:H za=some (.lst (as.map V.int))) (hb:H zb=some (.lst (bs.map V.int)))
  (hu:A.units+2<cLine) {Q:Bool->Shared->Prop} {E:Value->Shared->Prop} (h:Q (HT.vd as bs) s):wpAny (model X.prog X.w) A (keyLt' (tuples' true) (.ref p) (.ref q)) Q E s:=by
 obtain⟨t,o,m,e,_,hd⟩:=za5 I hp
 obtain⟨t',o',m',e',_,hd'⟩:=za5 I hq
 refine kat_lt e hd e' hd' ?_
 refine kat_cons (wpAny_eqBool_int ?_)
 unfold HT.vd at h
 by_cases hl:as.length=bs.length
 ·rw [if_pos hl] at h
  have e1:((as.length:Int) == (bs.length:Int))=true:=by rw [hl];simp
  rw [e1]
  refine kat_yes (kat_cons ?_)
  refine (Vk I (A:=A) 1 (t:=yI as) (u:=yI bs) (v:=.ref za) (w:=.ref zb) (by rw [qL];exact Nat.le_refl _) (TrAt.ints (SqL.of ha)) (TrAt.ints (SqL.of hb)) rfl rfl (by omega)).eq _ _ _ _ ?_
  rw [qx]
  by_cases hab:as=bs
  ·rw [decide_eq_true hab]
   refine kat_yes (kat_nil ?_)
   rw [hab,HT.yx] at h
   exact h
  ·rw [decide_eq_false hab]
   refine kat_no (kat_one _ _ ?_)
   obtain⟨its,r1,p1,_⟩:=I.list (SqL.of ha)
   obtain⟨its2,r2,p2,_⟩:=I.list (SqL.of hb)
   exact HT.W4 p1.isList p2.isList (by simpa using intsAre_of r1) (by simpa using intsAre_of r2) (by omega) h
 ·rw [if_neg hl] at h
  have e1:((as.length:Int) == (bs.length:Int))=false:=by simp;omega
  rw [e1]
  refine kat_no ?_
  refine oneLt_int ?_
  have:decide ((as.length:Int)<(bs.length:Int))=decide (as.length<bs.length):=by
   rw [Bool.eq_iff_iff];simp
  rw [this]
  exact h
end
end L2
set_option maxHeartbeats 4000000
namespace L2
open PySem PySem.Spec PyProof.Rows PySem.W
section
variable {X:Cx} {pins:List (Addr×Obj)} {Z:St} {H:Hp} {s:Shared}
structure zca (X:Cx) (pins:List (Addr×Obj)) (n:Nat) (a:Addr):Prop where
 s0:X.s₀.heap.objs.size<=a
 lo:a≠X.env.locals
 ce:∀ x c,X.env.cells.lookup x=some c->c≠a
 fs:a∉X.fs
 pn:∀ p∈X.pn++pins,p.1≠a
 ge:n<=a
theorem Inv.late (I:Inv X pins Z H s) {a:Addr} (h:s.heap.objs.size<=a):zca X pins s.heap.objs.size a :=
 ⟨Nat.le_trans I.sz h,Nat.ne_of_gt (Nat.lt_of_lt_of_le I.lt h),λx c e z=>by
  obtain⟨v,o,ho,_⟩:=I.cell x c e
  rw [z] at ho
  exact absurd (Nat.lt_of_lt_of_le (Heap.lt_size ho) h) (Nat.lt_irrefl _),I.nofs h,λp hp z=>by
  obtain⟨e,_⟩:=I.pin p hp
  rw [z] at e
  exact absurd (Nat.lt_of_lt_of_le (Heap.lt_size e) h) (Nat.lt_irrefl _),h⟩
theorem Inv.tell {a:Addr} {xs:List V} {its:List Value} {n:Nat} {h':Heap} {t':Nat} (I:Inv X pins Z H s) {m:Nat} (L:zca X pins m a) (hn:H a=none) (k:∀ b o,b≠a->s.heap.get? b=some o->h'.get? b=some o)
  (hv:Vals xs its) (hz:xs.length<=sizeLine) (ha:h'.get? a=some (seqObj "list" its.toArray n)):Inv X pins Z (upd H a (.lst xs)) { s with heap:=h',toks:=t' }:=by
 have na:∀ b u,H b=some u->b≠a:=λb u e z=>by rw [z,hn] at e;cases e
 refine I.step (g':=s.gens) (d':=s.drawn) (ch:=[a]) (λb hb=>?_) (λb o _ _ hc e _=>k b o (λz=>hc (by simp [z])) e) (λb o _ _ hc e _=>⟨o.slots,k b o (λz=>hc (by simp [z])) e⟩) (λb o hc e n=>by rw [zx (λz=>hc (by simp [z]))];exact n)
  (λb o hc e=>⟨o,k b o (λz=>hc (by simp [z])) e⟩) (λb xs e=>by rw [zx (na b _ e)];exact e) (λb o u e=>by rw [zx (na b _ e)];exact e) (λb ps e=>⟨#[],by rw [zx (na b _ e),e];simp⟩) (λm hm=>?_) (λb u e=>?_) I.bare
 ·have e:b=a:=by simpa using hb
  subst e
  exact⟨.inr L.s0,L.lo,L.ce,L.pn⟩
 ·obtain⟨o,es,ep,ho,r⟩:=hm
  exact⟨o,es,ep,k _ o (Ne.symm L.lo) ho,r⟩
 ·by_cases hb:b=a
  ·subst hb
   rw [zj] at e
   cases e
   exact⟨hz,its,n,hv,ha⟩
  ·rw [zx hb] at e
   refine (I.hok b u e).stay (λc v hc q=>k c v ?_ q) (λc q=>by rw [zx (na c _ q)];exact q) λc xs q=>by rw [zx (na c _ q)];exact q
   rcases hc with rfl | hc
   ·exact hb
   ·exact na c _ hc
def zfN (H:Hp) (zs:ZB) (pl:List Addr):Prop:=∀ j z,zs[j]?=some z->j<pl.length->∃ p,pl[j]?=some p/\H p=some (.tup [.int z.2.length,.ref z.1])
theorem kat_tups (I:Inv X pins Z H s):∀ pl:List Addr,(∀ p∈pl,∃ (n:Int) (z:Addr),H p=some (.tup [.int n,.ref z]))->∃ fs:List Value,KatTups s.heap (pl.map Value.ref) fs/\fs.length=pl.length/\∀ v∈fs,∃ n t,v=Value.int n t
 | [],_=>⟨[],KatTups.nil,rfl,λv hv=>by cases hv⟩
 | p :: pl,h=>by
  obtain⟨fs,h1,h2,h3⟩:=kat_tups I pl λq hq=>h q (.tail _ hq)
  obtain⟨n,z,e⟩:=h p (.head _)
  obtain⟨t,o,m,e1,e2,e3⟩:=za5 I e
  refine⟨.int n t :: fs,KatTups.cons e1 e2 e3 rfl h1,by simp [h2],λv hv=>?_⟩
  rcases List.mem_cons.mp hv with rfl | hv
  ·exact⟨n,t,rfl⟩
  ·exact h3 v hv
theorem zdw {zs:ZB} {f kS a:Addr} {fo:Obj} {e1:Nat} {A:Around} {P:PySem.Fin->Shared->Prop} {E:Value->Shared->Prop} {n:Nat}
  (I:Inv X ((f,fo) :: (a,seqObj "list" #[] e1) :: pins) Z H s) (La:zca X pins n a) (Lk:zca X ((f,fo) :: (a,seqObj "list" #[] e1) :: pins) n kS) (hkS:s.heap.get? kS=some (seqObj "list" #[] 0)) (hkn:H kS=none)
  (hz:∀ z∈zs,H z.1=some (.lst (z.2.map V.int))) (nd:(zs.map (·.2)).Nodup) (h60:zs.length<=60) (hu:A.units+2<cLine)
  (turn:∀ (H':Hp) (s':Shared) (pins':List (Addr×Obj)) (z:Addr×List Int),Inv X pins' Z H' s'->(f,fo)∈pins'->Same H H'->z∈zs ->
   wpAny (model X.prog X.w) A (call (.ref f) [.ref z.1]) (EP X pins' Z λv H2=>∃ p,v=.ref p/\H' p=none/\H2=upd H' p (.tup [.int z.2.length,.ref z.1])) (λ_ _=>False) s')
  (done:∀ (H':Hp) (s':Shared) (zs':ZB),Inv X pins Z (upd H' a (.lst (zs'.map λz=>V.ref z.1))) s'->Same H H'->H' a=none->zs'.Perm zs->zs'.Pairwise (λx y=>HT.vd x.2 y.2=true)->P (.done (.ret .none)) s') :
  wpAny (model X.prog X.w) A (ksk_rest a (.ref f) false (zs.map λz=>Value.ref z.1).toArray e1 (.ref kS)) P E s:=by
 unfold ksk_rest
 refine wpAny_bind (wpAny_rule ?_)
 first
  | rw [List.forIn_toArray]
  | (rw [<- Array.forIn_toList];simp only [List.toList_toArray])
  | rw [<- Array.forIn_toList]
 refine wpAny_bind (ksk_fold (λi s'=>∃ (H':Hp) (pl:List Addr) (e:Nat),Inv X ((f,fo) :: (a,seqObj "list" #[] e1) :: pins) Z H' s'/\s'.heap.get? kS=some (seqObj "list" (pl.map Value.ref).toArray e)/\H' kS=none/\pl.length=i/\zfN H' zs pl/\Same H H') (zs.map λz=>Value.ref z.1) 0 s
  ⟨H,[],0,I,hkS,hkn,rfl,λj z _ h=>by simp at h,Same.refl _⟩ ?step ?fin)
 case step =>
  rintro j x s' hx ⟨H',pl,e,I',hk',hkn',hpl,hkeys,sm⟩
  rw [Nat.zero_add] at hpl ⊢
  rw [List.getElem?_map] at hx
  obtain⟨z,hzj,ez⟩:=Option.map_eq_some_iff.mp hx
  subst ez
  have hzm:=List.mem_of_getElem? hzj
  have hj:j<zs.length:=(List.getElem?_eq_some_iff.mp hzj).1
  have I2:Inv X ((kS,seqObj "list" (pl.map Value.ref).toArray e) :: (f,fo) :: (a,seqObj "list" #[] e1) :: pins) Z H' s':=I'.pins_of λp hp=>by
   rcases List.mem_cons.mp hp with rfl | hp
   ·exact⟨hk',hkn',Lk.lo,Lk.fs,λv z=>by cases z⟩
   ·exact I'.pin p (List.mem_append_right _ hp)
  refine wpAny_bind (wpAny_attempt (wpAny_mono (turn H' s' _ z I2 (by simp) sm hzm) (λv s'' he=>?_) λ_ _ hF=>hF.elim))
  obtain⟨v',H2,I3,rv,p,rfl,hpf,rfl⟩:=he
  cases rv
  have pk:=I3.pin (kS,seqObj "list" (pl.map Value.ref).toArray e) (List.mem_append_right _ (.head _))
  have I4:Inv X ((f,fo) :: (a,seqObj "list" #[] e1) :: pins) Z (upd H' p (.tup [.int z.2.length,.ref z.1])) s'':=I3.pins_of λq hq=>I3.pin q (List.mem_append_right _ (.tail _ hq))
  obtain⟨c2,hc2⟩:∃ c2,(s''.heap.update kS (Obj.mapSeq (·.push (.ref p)))).get? kS=some (seqObj "list" ((pl.map Value.ref).toArray.push (.ref p)) c2):=⟨_,get?_update_seq pk.1 (·.push (.ref p))⟩
  have hsl:(pl.map Value.ref).toArray.size<=60:=by rw [List.size_toArray,List.length_map];omega
  dsimp only
  refine wpAny_bind (listUpdate_at pk.1 rfl ?_ (Nat.le_trans hsl (by decide)) (by rw [Array.size_push];exact Nat.le_trans (Nat.succ_le_succ hsl) (by decide)))
  refine wpAny_pure ⟨rfl,_,pl++[p],c2,I4.turned (t':=s''.toks) (λb o hb q=>?_) pk.2.1 Lk.lo (.inr Lk.s0) Lk.ce Lk.pn,?_,pk.2.1,by rw [List.length_append,List.length_singleton,hpl],λi y hy hi=>?_,sm.trans (zm hpf)⟩
  ·rw [Heap.get?_update_other _ _ (Ne.symm hb)];exact q
  ·rw [hc2];simp
  ·by_cases hlt:i<pl.length
   ·obtain⟨p',e1',e2'⟩:=hkeys i y hy hlt
    exact⟨p',by rw [List.getElem?_append_left hlt];exact e1',by rw [zx (zz e2' hpf)];exact e2'⟩
   ·have ei:i=pl.length:=by rw [List.length_append,List.length_singleton] at hi;omega
    have ej:i=j:=by omega
    rw [ej,hzj] at hy
    cases hy
    exact⟨p,by rw [ei];simp,zj⟩
 case fin =>
  rintro s' ⟨H',pl,e,I',hk',hkn',hpl,hkeys,sm⟩
  rw [Nat.zero_add,List.length_map] at hpl
  try dsimp only
  refine wpAny_bind (listItems_at hk' rfl ?_)
  have ga:=I'.pin (a,seqObj "list" #[] e1) (List.mem_append_right _ (.tail _ (.head _)))
  have Ip:Inv X pins Z H' s':=I'.pins_of λq hq=>I'.pin q (by
   rcases List.mem_append.mp (List.mem_append_right X.pn hq) with h | h
   ·exact List.mem_append_left _ h
   ·exact List.mem_append_right _ (.tail _ (.tail _ h)))
  have nka:kS≠a:=λz=>Lk.pn (a,seqObj "list" #[] e1) (List.mem_append_right _ (.tail _ (.head _))) z.symm
  have tail:∀ (st:SortSt) (zs':ZB),(arrOf st).map (·.2)=(zs'.map λz=>Value.ref z.1).toArray->failedOf st=none->zs'.Perm zs->zs'.Pairwise (λx y=>HT.vd x.2 y.2=true) ->
    wpAny (model X.prog X.w) A (ksk_tail a false e1 (.ref kS) st) P E s':=by
   intro st zs' hout hfl pm pw
   have hlen:zs'.length<=60:=by rw [pm.length_eq];exact h60
   have s1:=Heap.SameBut.update s'.heap kS (Obj.mapSeq λ_=>(#[]:Array Value))
   have na1:(s'.heap.update kS (Obj.mapSeq λ_=>(#[]:Array Value))).get? a=some (seqObj "list" #[] e1):=(s1.2 a nka.symm).trans ga.1
   obtain⟨c2,hc2⟩:∃ c2,((s'.heap.update kS (Obj.mapSeq λ_=>(#[]:Array Value))).update a (Obj.mapSeq λ_=>(zs'.map λz=>Value.ref z.1).toArray)).get? a=some (seqObj "list" (zs'.map λz=>Value.ref z.1).toArray c2) :=
    ⟨_,get?_update_seq na1 λ_=>(zs'.map λz=>Value.ref z.1).toArray⟩
   have I5:Inv X pins Z H' { s' with heap:=s'.heap.update kS (Obj.mapSeq λ_=>(#[]:Array Value)),toks:=s'.toks }:=Ip.turned (λb o hb q=>by rw [Heap.get?_update_other _ _ (Ne.symm hb)];exact q) hkn' Lk.lo (.inr Lk.s0) Lk.ce (λq hq=>Lk.pn q (by
    rcases List.mem_append.mp hq with h | h
    ·exact List.mem_append_left _ h
    ·exact List.mem_append_right _ (.tail _ (.tail _ h))))
   have I6:=I5.tell (t':=s'.toks) (h':=(s'.heap.update kS (Obj.mapSeq λ_=>(#[]:Array Value))).update a (Obj.mapSeq λ_=>(zs'.map λz=>Value.ref z.1).toArray)) La ga.2.1 (λb o hb q=>by rw [Heap.get?_update_other _ _ (Ne.symm hb)];exact q) (Yw zs') (by rw [List.length_map];exact Nat.le_trans hlen (by decide)) hc2
   unfold ksk_tail
   try dsimp only
   refine wpAny_bind (listUpdate_at hk' rfl ?_ (by rw [List.size_toArray,List.length_map,hpl];exact Nat.le_trans h60 (by decide)) (Nat.zero_le _))
   refine wpAny_bind (wpAny_letGo ?_)
   refine wpAny_bind (seqEpoch_at na1 rfl ?_)
   simp only [Bool.false_eq_true,if_false]
   rw [hout]
   refine wpAny_bind (listUpdate_at na1 rfl ?_ (Nat.zero_le _) (by rw [List.size_toArray,List.length_map];exact Nat.le_trans hlen (by decide)))
   rw [hfl]
   simp only [bne_self_eq_false,Bool.false_eq_true,if_false]
   exact wpAny_pure (done H' _ zs' I6 sm ga.2.1 pm pw)
  unfold ksk_end
  try dsimp only
  simp only [Bool.false_eq_true,if_false]
  have hvl:(zs.map λz=>Value.ref z.1).toArray.size=zs.length:=by rw [List.size_toArray,List.length_map]
  by_cases h2:(zs.map λz=>Value.ref z.1).toArray.size<2
  ·rw [if_pos h2,if_pos h2]
   refine wpAny_bind (wpAny_pure ?_)
   rw [StateT.run_pure]
   refine wpAny_bind (wpAny_pure ?_)
   try dsimp only
   refine tail _ zs ?_ rfl (List.Perm.refl _) ?_
   ·show (((pl.map Value.ref).toArray.zip (zs.map λz=>Value.ref z.1).toArray).map (·.2))=_
    apply Array.toList_inj.mp
    rw [Array.toList_map,Array.toList_zip,List.map_snd_zip (by simp [hpl])]
   ·rw [hvl] at h2
    match zs,h2 with
    | [],_=>exact .nil
    | [_],_=>exact List.pairwise_singleton _ _
  ·rw [if_neg h2,if_neg h2]
   rw [hvl] at h2
   have hkl:(pl.map Value.ref).length=(zs.map λz=>Value.ref z.1).length:=by rw [List.length_map,List.length_map,hpl]
   have hk2:∀ j,j<zs.length->∃ p,pl[j]?=some p/\H' p=some (.tup [.int (zs.getD j (0,[])).2.length,.ref (zs.getD j (0,[])).1])/\zs.getD j (0,[])∈zs:=λj hj=>by
    have e:zs.getD j (0,[])=zs[j]:=by rw [List.getD_eq_getElem?_getD,List.getElem?_eq_getElem hj];rfl
    rw [e]
    obtain⟨p,e1,e2⟩:=hkeys j zs[j] (List.getElem?_eq_getElem hj) (by omega)
    exact⟨p,e1,e2,List.getElem_mem hj⟩
   obtain⟨fs,ht,hfl,hfi⟩:=kat_tups I' pl λp hp=>by
    obtain⟨j,hj,rfl⟩:=List.getElem_of_mem hp
    obtain⟨p',e1,e2,_⟩:=hk2 j (by omega)
    rw [List.getElem?_eq_getElem hj] at e1
    cases e1
    exact⟨_,_,e2⟩
   refine wpAny_bind (kat_kind (T:=.type "int") ht (by omega) (λv hv=>?_) (by decide) ?_)
   ·obtain⟨n,t,rfl⟩:=hfi v hv
    exact Looks.of_pure rfl
   have ls2:(zs.map (·.2)).length=zs.length:=List.length_map ..
   have ask:(kas_sort (zs.map λz=>Value.ref z.1).length).kasWp (kas_ask X.prog X.w A (tuples' true) (pl.map Value.ref)) (λp s''=>s''=s'/\(HT.Pm zs.length p/\HT.Up (λi j=>HT.vd ((zs.map (·.2)).getD i []) ((zs.map (·.2)).getD j [])) p zs.length)) s':=by
    rw [List.length_map]
    have O:=HT.zgT nd
    rw [ls2] at O
    refine HT.KW.wp (n:=zs.length) (λi j C hi hj hC=>?_) _ (HT.zeL O (by omega))
    obtain⟨p,e1,e2,e3⟩:=hk2 i hi
    obtain⟨q,d1,d2,d3⟩:=hk2 j hj
    have ei:(zs.map (·.2)).getD i []=(zs.getD i (0,[])).2:=by rw [List.getD_eq_getElem?_getD,List.getD_eq_getElem?_getD,List.getElem?_map,List.getElem?_eq_getElem hi];rfl
    have ej:(zs.map (·.2)).getD j []=(zs.getD j (0,[])).2:=by rw [List.getD_eq_getElem?_getD,List.getD_eq_getElem?_getD,List.getElem?_map,List.getElem?_eq_getElem hj];rfl
    have gi:(pl.map Value.ref).getD i Value.none=.ref p:=by rw [List.getD_eq_getElem?_getD,List.getElem?_map,e1];rfl
    have gj:(pl.map Value.ref).getD j Value.none=.ref q:=by rw [List.getD_eq_getElem?_getD,List.getElem?_map,d1];rfl
    unfold kas_ask
    rw [gi,gj]
    refine zfw I' e2 d2 (sm _ _ (hz _ e3)) (sm _ _ (hz _ d3)) hu ?_
    try dsimp only at hC
    rw [ei,ej] at hC
    exact hC
   have eT:(Value.type "int" != Value.type "tuple")=true:=by decide
   rw [eT]
   refine wpAny_bind (wpAny_mono (kat_run (ks:=pl.map Value.ref) (vs:=zs.map λz=>Value.ref z.1) (Q:=λst' s''=>∃ p:Array Nat,s''=s'/\arrOf st'=p.map (kas_item ((pl.map Value.ref).toArray.zip (zs.map λz=>Value.ref z.1).toArray))/\failedOf st'=none/\HT.Pm zs.length p/\HT.Up (λi j=>HT.vd ((zs.map (·.2)).getD i []) ((zs.map (·.2)).getD j [])) p zs.length)
    hkl (by rw [List.length_map];omega) (by rw [List.length_map];omega) (λp st' s'' _ a2 a3 a4=>⟨p,a4.1,a2,a3,a4.2⟩) ask) ?_ λ_ _ e=>e)
   rintro⟨⟨⟩,st'⟩ s'' ⟨p,rfl,har,hfl2,hpm,hup⟩
   try dsimp only
   have hout:=kat_snds hkl har
   have hpl2:p.toList.length=zs.length:=by rw [hpm.pm.length_eq,List.length_range]
   refine tail st' (p.toList.map λi=>zs.getD i (0,[])) ?_ hfl2 (HT.Wy _ zs hpm.pm) ?_
   ·rw [hout,List.map_map]
    congr 1
    refine List.map_congr_left λi hi=>?_
    have hi':=List.mem_range.mp (hpm.pm.mem_iff.mp hi)
    show _=Value.ref (zs.getD i (0,[])).1
    rw [List.getD_eq_getElem?_getD,List.getD_eq_getElem?_getD,List.getElem?_map,List.getElem?_eq_getElem hi'];rfl
   ·rw [List.pairwise_map,List.pairwise_iff_getElem]
    intro i j hi hj hij
    have q1:=hup i j hij (by omega)
    have e1:p.getD i 0=p.toList[i]:=by
     have:i<p.size:=by rw [hpm.sz];omega
     simp [Array.getD,this]
    have e2:p.getD j 0=p.toList[j]:=by
     have:j<p.size:=by rw [hpm.sz];omega
     simp [Array.getD,this]
    rw [e1,e2] at q1
    have m1:=List.mem_range.mp (hpm.pm.mem_iff.mp (List.getElem_mem hi))
    have m2:=List.mem_range.mp (hpm.pm.mem_iff.mp (List.getElem_mem hj))
    have ei:(zs.map (·.2)).getD p.toList[i] []=(zs.getD p.toList[i] (0,[])).2:=by rw [List.getD_eq_getElem?_getD,List.getD_eq_getElem?_getD,List.getElem?_map,List.getElem?_eq_getElem m1];rfl
    have ej:(zs.map (·.2)).getD p.toList[j] []=(zs.getD p.toList[j] (0,[])).2:=by rw [List.getD_eq_getElem?_getD,List.getD_eq_getElem?_getD,List.getElem?_map,List.getElem?_eq_getElem m2];rfl
    try dsimp only at q1
    rw [ei,ej] at q1
    exact q1
theorem zag {zs:ZB} {f l:Addr} {fo:Obj} {Q:VK} (I:Inv X ((f,fo) :: pins) Z H s) (hl:H l=some (.lst (zs.map λz=>V.ref z.1))) (hz:∀ z∈zs,H z.1=some (.lst (z.2.map V.int))) (nd:(zs.map (·.2)).Nodup) (h60:zs.length<=60)
  (hu:X.A.in1.in1.units+2<cLine)
  (turn:∀ (H':Hp) (s':Shared) (pins':List (Addr×Obj)) (z:Addr×List Int),Inv X pins' Z H' s'->(f,fo)∈pins'->Same H H'->z∈zs ->
   wpAny (model X.prog X.w) X.A.in1.in1 (call (.ref f) [.ref z.1]) (EP X pins' Z λv H2=>∃ p,v=.ref p/\H' p=none/\H2=upd H' p (.tup [.int z.2.length,.ref z.1])) (λ_ _=>False) s')
  (q:∀ (D:Addr) (H':Hp) (zs':ZB),H D=none->Same H H'->H' D=none->zs'.Perm zs->zs'.Pairwise (λx y=>HT.vd x.2 y.2=true)->Q (.ref D) (upd H' D (.lst (zs'.map λz=>V.ref z.1)))) :
  wpAny (model X.prog X.w) X.A (call (.builtin "sorted") [.ref l] [(Str.ofString "key",.ref f)]) (EP X pins Z Q) X.xe s:=by
 obtain⟨its,r1,p1,_⟩:=I.list (SqL.of hl)
 have e1:=Wv r1
 subst e1
 have hvl:(zs.map λz=>Value.ref z.1).length=zs.length:=List.length_map ..
 have hsl:(zs.map λz=>Value.ref z.1).length<=sizeLine:=by rw [hvl,sizeLine_eq];omega
 refine call_function_entry_kw kind_sorted plain_sorted entry_sorted (ksk_s1 _ _) ?_
 unfold Builtin.«sorted»
 refine wpAny_bind (m:=checkCount "sorted" 1 1 _) (wpAny_pure (wpAny_bind (collect_list p1.isList (wpAny_bind (wpAny_newList ?_ hsl)) hsl)))
 generalize hB:(s.heap.push (seqObj "list" #[] 0)).update s.heap.objs.size (Obj.mapSeq (·++(zs.map λz=>Value.ref z.1).toArray))=B
 have hsz:B.objs.size=s.heap.objs.size+1:=by rw [<- hB,Heap.size_update,size_push']
 have keep:∀ b o,s.heap.get? b=some o->(B.push (seqObj "list" (zs.map λz=>Value.ref z.1).toArray 0)).get? b=some o:=λb o q=>by
  have hlt:b<s.heap.objs.size:=Heap.lt_size q
  rw [Heap.get?_push_ne _ _ _ (by rw [hsz];exact Nat.ne_of_lt (Nat.lt_succ_of_lt hlt)),<- hB,Heap.get?_update_ne _ _ _ _ (Nat.ne_of_lt hlt),Heap.get?_push_ne _ _ _ (Nat.ne_of_lt hlt)];exact q
 have hoL:(B.push (seqObj "list" (zs.map λz=>Value.ref z.1).toArray 0)).get? (s.heap.objs.size+1)=some (seqObj "list" (zs.map λz=>Value.ref z.1).toArray 0):=by
  rw [<- hsz];exact Heap.get?_push_size _ rfl
 have hszB:(B.push (seqObj "list" (zs.map λz=>Value.ref z.1).toArray 0)).objs.size=s.heap.objs.size+2:=by rw [size_push',hsz]
 show wpAny _ _ _ _ _ { s with heap:=B.push (seqObj "list" (zs.map λz=>Value.ref z.1).toArray 0) }
 dsimp only
 rw [hsz]
 refine wpAny_bind (wpAny_holding (wpAny_call_entry_kw slot_list_sort ⟨_,hoL,rfl⟩ entry_list_sort ?body (ksk_l1 _ _)))
 case body =>
  show wpAny (model X.prog X.w) X.A.in1.in1 (Builtin.«list.sort» ⟨[.ref (s.heap.objs.size+1)],[(Str.ofString "key",.ref f)]⟩) _ _ _
  rw [ksk_t1]
  unfold ksk_tree
  generalize hG:B.push (seqObj "list" (zs.map λz=>Value.ref z.1).toArray 0)=G at keep hoL hszB
  generalize hLd:s.heap.objs.size+1=L at hoL
  have hLG:L<G.objs.size:=Heap.lt_size hoL
  obtain⟨e1,ho1⟩:∃ e1,(G.update L (Obj.mapSeq λ_=>(#[]:Array Value))).get? L=some (seqObj "list" #[] e1):=⟨_,get?_update_seq hoL λ_=>#[]⟩
  refine wpAny_bind (listItems_at (s:={ s with heap:=G }) hoL rfl ?_)
  refine wpAny_bind (listUpdate_at (s:={ s with heap:=G }) hoL rfl ?_ (by rw [List.size_toArray];exact hsl) (Nat.zero_le _))
  refine wpAny_bind (seqEpoch_at ho1 rfl ?_)
  refine wpAny_bind (wpAny_newTuple ?_ (by show (zs.map λz=>Value.ref z.1).length<=_;exact hsl))
  refine wpAny_bind (wpAny_newList ?_ (Nat.zero_le _))
  refine wpAny_holding ?_
  generalize hM:(G.update L (Obj.mapSeq λ_=>(#[]:Array Value))).push (seqObj "tuple" (zs.map λz=>Value.ref z.1).toArray 0)=M
  have hMs:M.objs.size=s.heap.objs.size+3:=by rw [<- hM,size_push',Heap.size_update,hszB]
  have hkS:(M.push (seqObj "list" #[] 0)).get? (s.heap.objs.size+3)=some (seqObj "list" #[] 0):=by rw [<- hMs];exact Heap.get?_push_size _ rfl
  have hL2:(M.push (seqObj "list" #[] 0)).get? L=some (seqObj "list" #[] e1):=Heap.get?_push_of_some _ (by rw [<- hM];exact Heap.get?_push_of_some _ ho1)
  have keep2:∀ b o,s.heap.get? b=some o->(M.push (seqObj "list" #[] 0)).get? b=some o:=λb o q=>by
   have hlt:b<s.heap.objs.size:=Heap.lt_size q
   refine Heap.get?_push_of_some _ ?_
   rw [<- hM]
   refine Heap.get?_push_of_some _ ?_
   rw [Heap.get?_update_ne _ _ _ _ (by rw [<- hLd];exact Nat.ne_of_lt (Nat.lt_succ_of_lt hlt))]
   exact keep b o q
  have La0:=I.late (a:=L) (by rw [<- hLd];exact Nat.le_succ _)
  have Lk0:=I.late (a:=s.heap.objs.size+3) (by omega)
  have I1:Inv X ((f,fo) :: pins) Z H { s with heap:=M.push (seqObj "list" #[] 0),toks:=s.toks }:=I.kept keep2
  have hLn:H L=none:=I.hok.fresh (by rw [<- hLd];exact Nat.le_succ _)
  have I2:Inv X ((f,fo) :: (L,seqObj "list" #[] e1) :: pins) Z H { s with heap:=M.push (seqObj "list" #[] 0),toks:=s.toks }:=I1.pins_of λp hp=>by
   rcases List.mem_cons.mp hp with rfl | hp
   ·exact I1.pin _ (List.mem_append_right _ (.head _))
   ·rcases List.mem_cons.mp hp with rfl | hp
    ·exact⟨hL2,hLn,La0.lo,La0.fs,λv z=>by cases z⟩
    ·exact I1.pin p (List.mem_append_right _ (.tail _ hp))
  have La:zca X pins s.heap.objs.size L:=⟨La0.s0,La0.lo,La0.ce,La0.fs,λp hp=>La0.pn p (by
   rcases List.mem_append.mp hp with h | h
   ·exact List.mem_append_left _ h
   ·exact List.mem_append_right _ (.tail _ h)),La0.ge⟩
  have Lk:zca X ((f,fo) :: (L,seqObj "list" #[] e1) :: pins) s.heap.objs.size (s.heap.objs.size+3):=⟨Lk0.s0,Lk0.lo,Lk0.ce,Lk0.fs,λp hp=>by
   rcases List.mem_append.mp hp with h | h
   ·exact Lk0.pn p (List.mem_append_left _ h)
   ·rcases List.mem_cons.mp h with rfl | h
    ·exact Lk0.pn _ (List.mem_append_right _ (.head _))
    ·rcases List.mem_cons.mp h with rfl | h
     ·show L≠_
      rw [<- hLd];omega
     ·exact Lk0.pn p (List.mem_append_right _ (.tail _ h)),Lk0.ge⟩
  rw [hMs]
  refine zdw (s:={ s with heap:=M.push (seqObj "list" #[] 0) }) I2 La Lk hkS (I.hok.fresh (by omega)) hz nd h60 hu turn λH' s' zs' I' sm hn pm pw=>⟨_,rfl,?_⟩
  exact wpAny_pure ⟨_,rfl,.ref L,_,I',rfl,q L H' zs' hLn sm hn pm pw⟩
end
section
variable {X:Cx} {Z:St} {H:Hp} {s:Shared} {params:Arguments} {body:Expr} {scope:Scope} {pos lpos kpos p:Pos} {c P:Addr} {y:Str} {e:Expr} {te:TE}
theorem zcT {pins:List (Addr×Obj)} {f c':Addr} {q:Str} {pm ct:Value} {k:Nat} {v:V} {u:Value} {Q:VK} (I:Inv X pins Z H s) (hf:(f,kla_obj "<lambda>" q params body scope [] pm c' ct)∈pins) (hL:zbD P lpos q H c') (S:zF [y] [y] scope) (hr:Room (k+1) X.A.in1.in1)
  (hb:∀ (pm ct:Value) (u:Value),bindArgs (kla_fn "<lambda>" q params body scope [] pm (.ref c') ct) ⟨[u],[]⟩=pure [(y,u)]) (rv:RelV v u)
  (hbody:∃ t,PE (YG CX0 X.prog X.w X.K X.mg X.base [y] q scope f (.ref c') X.A.in1.in1 X.stack s H E0) body t/\t (start [y] [v]) H Q) :
  wpAny (model X.prog X.w) X.A.in1.in1 (call (.ref f) [u]) (EP X pins Z Q) (λ_ _=>False) s:=by
 have pf:=I.pin _ (List.mem_append_right X.pn hf)
 have hcd:s.heap.CodeRec (.ref c') q:=(I.hok c' _ hL.2).1
 refine wpAny_call (codeAny_mono (zee (k:=k) (N:=[y]) (ps:=[y]) (us:=[u]) (vs:=[v]) (E:=E0) pf.1 rfl hcd S hr I.env0.in1.in1 (BindsTo.of_eq (hb pm ct u)) rfl (.cons rv .nil) hbody) λr s' hq=>?_)
 cases r with
 | error e=>exact hq
 | ok fl =>
  cases fl with
  | ret u=>exact I.after hq
  | next=>exact False.elim hq
  | brk=>exact False.elim hq
  | cont=>exact False.elim hq
def zc8 (P:Addr) (lpos:Pos) (q:Str) (te:TE):TE:=λZ H Q=>te Z H λx H1=>∃ (l:Addr) (zs:ZB),x=.ref l/\H1 l=some (.lst (zs.map λz=>V.ref z.1))/\(∀ z∈zs,H1 z.1=some (.lst (z.2.map V.int)))/\(zs.map (·.2)).Nodup/\zs.length<=60/\Wz P lpos q H1 /\
 ∀ (D:Addr) (zs':ZB) (H2:Hp),H1 D=none->H2 D=none->(∀ b u,b≠P->H1 b=some u->H2 b=some u)->Wz P lpos q H2->zs'.Perm zs->zs'.Pairwise (λx y=>HT.vd x.2 y.2=true)->Q (.ref D) (upd H2 D (.lst (zs'.map λz=>V.ref z.1)))
theorem zbd {k:Nat} (he:PE X e te) (hg:Gl X "sorted") (hm:X.mg "sorted" = none) (hr:Room (k+3) X.A) (hdef:defaultsOf params X.env=([],[])) (hcl:closureFor scope X.env=pure []) (hcode:X.env.code=.ref c) (hK:codeHdIn X.K c P=true) (hB:X.base.BuiltinsAt X.mg P) (hgP:mainGlobals≠P)
  (S:zF [y] [y] scope) (hb:∀ (pm cd ct:Value) (u:Value),bindArgs (kla_fn "<lambda>" (X.env.qual ++ "<lambda>") params body scope [] pm cd ct) ⟨[u],[]⟩=pure [(y,u)])
  (hbody:∀ (f c':Addr) (s:Shared) (H:Hp) (z:Addr×List Int),H z.1=some (.lst (z.2.map V.int))->∃ t,PE (YG CX0 X.prog X.w X.K X.mg X.base [y] (X.env.qual ++ "<lambda>") scope f (.ref c') X.A.in1.in1 X.stack s H E0) body t /\
   t (start [y] [.ref z.1]) H λv H2=>∃ p,v=.ref p/\H p=none/\H2=upd H p (.tup [.int z.2.length,.ref z.1]))
  (hs1:starEach [e] X.env=[(false,eval e X.env)]:=by rfl) :
  PE X (.Call (.Name "sorted" p) [e] [⟨some "key",.Lambda params body scope lpos,kpos⟩] pos) (zc8 P lpos (X.env.qual ++ "<lambda>") te):=by
 intro pins s Z H Q I h
 refine wpAny_Call_Name_kw (ZC I hg hm boot_sorted ?_ (by decide) (by decide))
 have ha:PA X [e] (yQ te qD):=zf he zg hs1
 refine callWith_kw (thn (ha pos pins s Z H (λvs H1=>match vs with
  | [x]=>∃ (l:Addr) (zs:ZB),x=.ref l/\H1 l=some (.lst (zs.map λz=>V.ref z.1))/\(∀ z∈zs,H1 z.1=some (.lst (z.2.map V.int)))/\(zs.map (·.2)).Nodup/\zs.length<=60/\Wz P lpos (X.env.qual ++ "<lambda>") H1 /\
   ∀ (D:Addr) (zs':ZB) (H2:Hp),H1 D=none->H2 D=none->(∀ b u,b≠P->H1 b=some u->H2 b=some u)->Wz P lpos (X.env.qual ++ "<lambda>") H2->zs'.Perm zs->zs'.Pairwise (λx y=>HT.vd x.2 y.2=true)->Q (.ref D) (upd H2 D (.lst (zs'.map λz=>V.ref z.1)))
  | _=>False) I h) λus s1 ⟨vs,H1,I1,r1,q1⟩=>?_) (by rw [hs1];rfl) (by rw [hs1];rfl)
 match vs,q1 with
 | [x],q1 =>
  obtain⟨l,zs,rfl,hl,hz,nd,h60,hT,q⟩:=q1
  obtain⟨u,rfl,rx⟩:=vals1 r1
  cases rx
  show wpAny _ _ (evalAll ((do let v <- eval (.Lambda params body scope lpos) X.env;standAt pos;pure v) :: [])) _ _ s1
  refine wpAny_evalAll_cons (wpAny_bind (zcQ I1 hdef hcl hcode hK hB hgP hT λf c' H2 s2 pm ct I2 hL hfo hfn hsz up=>wpAny_bind (wpAny_standAt (wpAny_pure ?_))))
  refine wpAny_evalAll_nil ?_
  have Lf:=I1.late hsz
  have I3:Inv X ((f,kla_obj "<lambda>" (X.env.qual ++ "<lambda>") params body scope [] pm c' ct) :: pins) Z H2 s2:=I2.pins_of λp hp=>by
   rcases List.mem_cons.mp hp with rfl | hp
   ·exact⟨hfo,hfn,Lf.lo,Lf.fs,λv z=>by cases z⟩
   ·exact I2.pin p (List.mem_append_right _ hp)
  have hPl:∀ b xs,H1 b=some (.lst xs)->b≠P:=λb xs e z=>by
   rw [z] at e
   rcases hT with t | ⟨c2,t,_⟩
   ·rw [t] at e;cases e
   ·rw [t] at e;cases e
  have hr2:Room (k+1) X.A.in1.in1:=(hr.in1).in1
  show wpAny _ _ (call (.builtin "sorted") [.ref l] [(Str.ofString "key",.ref f)]) _ _ s2
  refine zag I3 (up _ _ (hPl _ _ hl) hl) (λz hzm=>up _ _ (hPl _ _ (hz z hzm)) (hz z hzm)) nd h60 (by have:=hr2.units;omega) (λH' s' pins' z I' hf sm hzm=>?_) λD H' zs' hD sm hn pm pw=>?_
  ·have hL':zbD P lpos (X.env.qual ++ "<lambda>") H' c':=⟨sm _ _ hL.1,sm _ _ hL.2⟩
   exact zcT (v:=.ref z.1) I' hf hL' S hr2 (λpm ct u=>hb pm (.ref c') ct u) rfl (hbody f c' s' H' z (sm _ _ (up _ _ (hPl _ _ (hz z hzm)) (hz z hzm))))
  ·refine q D zs' H' ?_ hn (λb u hb e=>sm _ _ (up b u hb e)) (.inr ⟨c',sm _ _ hL.1,sm _ _ hL.2⟩) pm pw
   cases e:H1 D with
   | none=>rfl
   | some u =>
    by_cases hDP:D=P
    ·rw [hDP,hL.1] at hD;cases hD
    ·rw [up D u hDP e] at hD;cases hD
end
theorem zcD {P:Program} {w:World} {K:Frag} {mg mb:Str->Option Value} {CX:CXT} {k:Nat} {fa a c T:Addr} {fd:FuncData} {x:Str} {sp:Sp} {s₁:Shared} {vs:List Value} {ns:List Int}
  (KX:K.In s₁.heap) (hns:s₁.heap.Ns mainGlobals mg) (hb:s₁.heap.Ns builtinsNs mb) (hbb:∀ x:Str,x ≠ "__name__"->mb x=bootBuiltins x) (hlim:s₁.heap.NoLimit) (hg:s₁.gens=#[])
  (hBM:∃ bm ob,mg "__builtins__" = some (.ref bm)/\bm≠builtinsNs/\s₁.heap.get? bm=some ob/\ob.cls=.type "module"/\ob.dict=some builtinsNs/\ob.data=.plain)
  (hT:s₁.heap.get? T=some (tabObj #[])) (hKT:K.lookup T=none) (hcT:codeHdIn K c T=true)
  (ha:s₁.heap.get? a=some { cls:=.type "list",data:=.seq vs.toArray }) (hi:IntsAre vs ns) (hl:ns.length<=sizeLine) (hr:Room k callerA)
  (F:∀ base:Heap,K.In base->base.Ns mainGlobals mg->base.BuiltinsAt mg T->FnOk P w K mg base CX k fa fd [x] sp) (hbind:∀ (s:Shared) (u:Value),BindsTo s fd ⟨[u],[]⟩ [(x,u)])
  (hsp:∀ H:Hp,H T=some (.tbl #[])->SqL K H a (ns.map V.int)->sp [.ref a] H (λv _=>v=.bl true) λ_ _ _=>False)
  (hCX:∀ H e s',CX [] H s₁ (λ_ _ _=>False) e s'->False) :
  codeAny (model P w) callerA (.call (.ref fa) ⟨[.ref a],[]⟩) (λr s'=>r=.ok (.ret (.bool true))/\OldK s₁.heap s'.heap/\s'.os=s₁.os/\AllBare s'.gens) s₁:=by
 have rv:=QJ hi
 have lenV:=hi.length
 have tabT:s₁.heap.TableAt c T #[]:=(codeHd_of_K KX hcT).tab hT
 have core:∀ H:Hp,H T=some (.tbl #[])->SqL K H a (ns.map V.int)->HOk P w H s₁.heap->(∀ b,H b≠none->b=a\/b=T)->(∀ b,b≠T->H b=none\/∃ o xs,H b=some (.frz o (.lst xs)))->(∀ b,H b≠none->K.lookup b=none) ->
   codeAny (model P w) callerA (.call (.ref fa) ⟨[.ref a],[]⟩) (λr s'=>r=.ok (.ret (.bool true))/\OldK s₁.heap s'.heap/\s'.os=s₁.os/\AllBare s'.gens) s₁:=by
  intro H hHT hS hok hA hO hK
  have Xn:∀ {b:Addr} {o:Obj},s₁.heap.get? b=some o->H b=none->(Qj s₁.heap H).get? b=some o:=λe n=>zdW e n
  have noA:∀ {b:Addr} {o:Obj},s₁.heap.get? b=some o->(∀ xs n,o.data≠.seq xs n)->(∀ ps,o.data≠.fields ps)->H b=none:=λ{b o} e d1 d2=>by
   cases q:H b with
   | none=>rfl
   | some u =>
    rcases hA b (by rw [q];simp) with e' | e'
    ·subst e'
     rw [ha] at e;cases e
     exact absurd rfl (d1 _ _)
    ·subst e'
     rw [hT] at e;cases e
     exact absurd rfl (d2 _)
  have nsK:∀ {b:Addr} {m:Str->Option Value},s₁.heap.Ns b m->(Qj s₁.heap H).Ns b m:=λ{b m} ⟨o,es,ep,e,d,r⟩=>⟨o,es,ep,Xn e (noA e (λxs n z=>by rw [d] at z;cases z) (λps z=>by rw [d] at z;cases z)),d,r⟩
  have hKb:K.In (Qj s₁.heap H):=λb o e=>Xn (KX b o e) (by
   cases q:H b with
   | none=>rfl
   | some u=>rw [hK b (by rw [q];simp)] at e;cases e)
  have hM:Mod K mg (Qj s₁.heap H):=⟨hKb,nsK hns,⟨mb,nsK hb,hbb⟩,let ⟨mc,h1,h2⟩:=hlim;⟨mc,nsK h1,h2⟩⟩
  have hBA:(Qj s₁.heap H).BuiltinsAt mg T:=by
   obtain⟨bm,ob,b1,b2,b3,b4,b5,b6⟩:=hBM
   refine⟨bm,ob,b1,b2,λz=>?_,λz=>?_,Xn b3 (noA b3 (λxs n z=>by rw [b6] at z;cases z) (λps z=>by rw [b6] at z;cases z)),b4,b5,b6⟩
   ·obtain⟨o,es,ep,e,hd,_⟩:=hns
    rw [z,e] at b3;cases b3
    rw [hd] at b6;cases b6
   ·rw [z,hT] at b3;cases b3;cases b4
  have e0:Env0 P w K mg (Qj s₁.heap H) callerA [] s₁ H:=⟨rfl,hM,λb o e=>zd1 e,Nat.le_of_eq (zct _ _),trivial,λb hb=>absurd (show b∈([]:List Addr) from hb) (by simp),hok,.of_eq hg⟩
  refine codeAny_mono ((F _ hKb (nsK hns) hBA).run callerA [] s₁ H ⟨[.ref a],[]⟩ [.ref a] [.ref a] _ _ hr e0 (hbind s₁ (.ref a)) (.cons rfl .nil) (hsp H hHT hS)) λr s' h=>?_
  cases r with
  | error e=>exact (hCX H e s' h).elim
  | ok fl =>
   cases fl with
   | next=>exact False.elim h
   | brk=>exact False.elim h
   | cont=>exact False.elim h
   | ret u =>
    obtain⟨v,H',os,bare,un,hok',r',q⟩:=h
    have q':v=.bl true:=q
    subst q'
    obtain rfl:u=Value.bool true:=r'
    have oth:∀ b o,b≠T->s₁.heap.get? b=some o->s'.heap.get? b=some o:=λb o hbT e=>by
     cases q:H b with
     | none=>exact un.keep b o e q (by intro z;exact absurd (show b∈([]:List Addr) from z) (by simp)) (by simp)
     | some u =>
      rcases hO b hbT with z | ⟨ob,xs,z⟩
      ·rw [q] at z;cases z
      ·have z2:=un.frzs b ob _ z
       obtain⟨e1,_⟩:=hok b _ z
       obtain⟨e2,_⟩:=hok' b _ z2
       rw [e] at e1;cases e1
       exact e2
    obtain⟨more,hm⟩:=un.tbls T _ hHT
    have hTm:s'.heap.get? T=some { cls:=.none,data:=.fields (#[]++more) }:=hok' T _ hm
    refine⟨rfl,⟨λb o e=>?_,λb o e=>?_⟩,os,bare⟩
    ·by_cases hbT:b=T
     ·subst hbT
      rw [hT] at e;cases e
      exact .inr (.inl ⟨tabT.isCodeTable,rfl,#[],more,rfl,hTm⟩)
     ·exact .inl (oth b o hbT e)
    ·by_cases hbT:b=T
     ·subst hbT;exact⟨_,hTm⟩
     ·exact⟨o,oth b o hbT e⟩
 have hTa:T≠a:=λz=>by rw [z,ha] at hT;cases hT
 cases hk:K.lookup a with
 | some o =>
  have e:=KX a o hk
  rw [ha] at e
  cases e
  refine core (λb=>if b=T then some (.tbl #[]) else none) (if_pos rfl) (.inr ⟨_,vs.toArray,_,hk,rfl,rfl,rfl,by rw [List.size_toArray,lenV];exact hl,by simpa using rv⟩) (λb u z=>?_) (λb z=>?_) (λb hb=>.inl (if_neg hb)) λb z=>?_
  ·by_cases hb:b=T
   ·have z':=(if_pos hb).symm.trans z
    cases z'
    subst hb
    exact hT
   ·have z':=(if_neg hb).symm.trans z
    cases z'
  ·by_cases hb:b=T
   ·exact .inr hb
   ·exact absurd (if_neg hb) z
  ·by_cases hb:b=T
   ·rw [hb];exact hKT
   ·exact absurd (if_neg hb) z
 | none =>
  refine core (λb=>if b=a then some (.frz { cls:=.type "list",data:=.seq vs.toArray } (.lst (ns.map V.int))) else if b=T then some (.tbl #[]) else none) (by rw [if_neg hTa,if_pos rfl]) (.inl (.inr ⟨{ cls:=.type "list",data:=.seq vs.toArray },if_pos rfl⟩)) (λb u z=>?_) (λb z=>?_) (λb hb=>?_) λb z=>?_
  ·by_cases hb:b=a
   ·have z':=(if_pos hb).symm.trans z
    cases z'
    subst hb
    exact⟨ha,by rw [List.length_map];exact hl,vs,_,rv,ha⟩
   ·have z':=(if_neg hb).symm.trans z
    by_cases hb2:b=T
    ·have z2:=(if_pos hb2).symm.trans z'
     cases z2
     subst hb2
     exact hT
    ·have z2:=(if_neg hb2).symm.trans z'
     cases z2
  ·by_cases hb:b=a
   ·exact .inl hb
   ·by_cases hb2:b=T
    ·exact .inr hb2
    ·exact absurd (by rw [if_neg hb,if_neg hb2]) z
  ·by_cases hba:b=a
   ·exact .inr ⟨_,_,if_pos hba⟩
   ·exact .inl (by rw [if_neg hba,if_neg hb])
  ·by_cases hb:b=a
   ·rw [hb];exact hk
   ·by_cases hb2:b=T
    ·rw [hb2];exact hKT
    ·exact absurd (by rw [if_neg hb,if_neg hb2]) z
theorem zf1 {l:W.OpenLaw} {n k:Nat} {q:Program} {loose:List Str} {XP:(Str->Option Value)->Heap->Prop} {YP:World->Heap->Prop} {d:DefRec} {K:Params->W.Frag} {sp:World->Sp} {x:Str} {c T:Addr}
  (hn:l.most=some n) (hn2:n<=sizeLine) (hdf:d.params.defaults=[]) (hr:Room k callerA)
  (hY:∀ (w:World) (h:Heap),YP w h->(K w.params).In h) (hYT:∀ (w:World) (h:Heap),YP w h->h.get? T=some (tabObj #[])) (hKT:∀ w:World,(K w.params).lookup T=none) (hcT:∀ w:World,codeHdIn (K w.params) c T=true)
  (F:∀ (w:World) (mg:Str->Option Value) (fa:Addr) (h:Heap),(K w.params).In h->h.Ns mainGlobals mg->mg d.name=some (.ref fa) ->
   ∃ fd:FuncData,(∀ (s:Shared) (u:Value),BindsTo s fd ⟨[u],[]⟩ [(x,u)]) /\
    ∀ base:Heap,(K w.params).In base->base.Ns mainGlobals mg->base.BuiltinsAt mg T->FnOk l.prog w (K w.params) mg base CX0 k fa fd [x] (sp w))
  (hsp:∀ (w:World) (H:Hp) (a:Addr) (ns:List Int),ns.length<=n->H T=some (.tbl #[])->SqL (K w.params) H a (ns.map V.int)->sp w [.ref a] H (λv _=>v=.bl true) λ_ _ _=>False) :
  W.WalkO q loose XP YP l.row.toRowW d [] (λf vs=>PySem.call f vs):=by
 refine Att.zaA hn hdf λw s₀ s₁ mg mb fa o pm cd doc a vs ns G Y ho hd hcd hmg hobj hints hlen hg=>?_
 have KX:=hY w _ Y
 obtain⟨fd,hb,hF⟩:=F w mg fa _ KX G.T.g hmg
 exact zcD KX G.T.g G.T.b G.T.builtins G.T.nolimit hg G.T.bmain (hYT w _ Y) (hKT w) (hcT w) hobj hints (Nat.le_trans hlen hn2) hr hF hb (λH hO hS=>hsp w H a ns hlen hO hS) λH e s' h=>h
end L2
namespace Lw
def ze2 (ls:ZA) (x:List Int):Prop:=x=[]\/∃ st∈ls,∃ k,1<=k/\k<st.length/\x=st.take k/\lacks ls x=true
structure StandsL (ls:ZA) (xs:ZA):Prop where
 mem:∀ x,x∈xs↔ze2 ls x
 up:xs.Pairwise λx y=>HT.vd x y=true
theorem StandsL.nodup {ls xs:ZA} (h:StandsL ls xs):xs.Nodup:=by
 refine h.up.imp λ{x y} q z=>?_
 rw [z,HT.X8] at q
 cases q
theorem zdv {ls:ZA} (h:∀ st∈ls,st.length<=4) {x:List Int} (q:ze2 ls x):x.length<=3:=by
 rcases q with rfl | ⟨st,hst,k,h1,h2,rfl,_⟩
 ·decide
 ·have:=h st hst
  rw [List.length_take];omega
theorem zci {ls:ZA} {y:List Int} {x:Int} (h:Zf ls (y++[x])=true):Zf ls y=true:=by
 unfold Zf at *
 rw [List.any_eq_true] at h ⊢
 obtain⟨st,hst,q⟩:=h
 refine⟨st,hst,decide_eq_true ?_⟩
 have q:=of_decide_eq_true q
 have e:=congrArg (List.take y.length) q
 rw [List.take_left,List.take_take,List.length_append] at e
 rw [Nat.min_eq_left (by omega)] at e
 exact e
theorem j4 {ls:ZA}:∀ fs:List Int,∃ j,j<=fs.length/\yf ls fs=fs.drop j/\(∀ k,k<j->Zf ls (fs.drop k)=false)/\(j<fs.length->Zf ls (fs.drop j)=true)
 | []=>⟨0,Nat.le_refl _,rfl,λk hk=>by omega,λh=>by simp at h⟩
 | x :: fs=>by
  by_cases h:Zf ls (x :: fs)=true
  ·exact⟨0,Nat.zero_le _,by rw [yf,if_pos h];rfl,λk hk=>by omega,λ_=>h⟩
  ·obtain⟨j,h1,h2,h3,h4⟩:=j4 (ls:=ls) fs
   refine⟨j+1,by rw [List.length_cons];omega,by rw [yf,if_neg h,h2,List.drop_succ_cons],λk hk=>?_,λhj=>by rw [List.drop_succ_cons];exact h4 (by rw [List.length_cons] at hj;omega)⟩
   cases k with
   | zero=>rw [List.drop_zero];simpa using h
   | succ k=>rw [List.drop_succ_cons];exact h3 k (by omega)
theorem Xc {ls:ZA} (fs:List Int) (x:Int):yf ls (yf ls fs++[x])=yf ls (fs++[x]):=by
 obtain⟨j,h1,h2,h3,_⟩:=j4 (ls:=ls) fs
 rw [h2,jX j (fs++[x]) (by rw [List.length_append];omega) (λk hk=>?_),List.drop_append_of_le_length h1]
 rw [List.drop_append_of_le_length (by omega)]
 cases e:Zf ls (fs.drop k++[x]) with
 | false=>rfl
 | true=>rw [<- h3 k hk,zci e]
theorem zcs {st fs:List Int} (ne:st≠[]) {j:Nat} (h:Um st (fs.drop j)=true):Um st fs=true:=by
 rw [qN ne] at h ⊢
 obtain⟨k,e⟩:=h
 exact⟨j+k,by rw [<- List.drop_drop];exact e⟩
theorem Vv {ls:ZA} (ne:∀ l∈ls,l≠[]) {fs:List Int} (j:Nat) (h:lacks ls fs=true):lacks ls (fs.drop j)=true:=by
 unfold lacks at *
 rw [Bool.not_eq_true',List.any_eq_false] at h ⊢
 intro st hst q
 exact h st hst (zcs (ne st hst) q)
theorem Xl {ls:ZA} (ne:∀ l∈ls,l≠[]) {fs:List Int} (x:Int) (h:lacks ls fs=true):lacks ls (yf ls fs++[x])=lacks ls (fs++[x]):=by
 obtain⟨j,h1,h2,h3,_⟩:=j4 (ls:=ls) fs
 rw [h2,<- List.drop_append_of_le_length h1]
 rw [Bool.eq_iff_iff]
 constructor
 ·intro q
  unfold lacks at *
  rw [Bool.not_eq_true',List.any_eq_false] at h q ⊢
  intro st hst hs
  rw [qN (ne st hst)] at hs
  obtain⟨k,e⟩:=hs
  have hp:0<st.length:=List.length_pos_iff.mpr (ne st hst)
  have hl:=congrArg List.length e
  rw [List.length_take,List.length_drop,List.length_append,List.length_singleton] at hl
  by_cases hin:k+st.length<=fs.length
  ·refine h st hst ((qN (ne st hst)).mpr ⟨k,?_⟩)
   rw [List.drop_append_of_le_length (by omega),List.take_append_of_le_length (by rw [List.length_drop];omega)] at e
   exact e
  ·have hk:k+st.length=fs.length+1:=by omega
   rw [List.take_of_length_le (by rw [List.length_drop,List.length_append,List.length_singleton];omega)] at e
   by_cases hkj:j<=k
   ·refine q st hst ((qN (ne st hst)).mpr ⟨k-j,?_⟩)
    rw [List.drop_drop,show j+(k-j)=k by omega,e,List.take_of_length_le (Nat.le_refl _)]
   ·have h3k:=h3 k (by omega)
    rw [List.drop_append_of_le_length (by omega)] at e
    unfold Zf at h3k
    rw [List.any_eq_false] at h3k
    refine h3k st hst (decide_eq_true ?_)
    rw [<- e,List.take_left]
 ·intro q
  exact Vv ne j q
theorem Xm {ls:ZA} (ne:∀ l∈ls,l≠[]) {fs:List Int} (h:lacks ls fs=true):ze2 ls (yf ls fs):=by
 obtain⟨j,h1,h2,_,h4⟩:=j4 (ls:=ls) fs
 rw [h2]
 by_cases hj:j<fs.length
 ·have q:=h4 hj
  unfold Zf at q
  rw [List.any_eq_true] at q
  obtain⟨st,hst,q⟩:=q
  have q:=of_decide_eq_true q
  have hl:=congrArg List.length q
  rw [List.length_take] at hl
  have hlen:(fs.drop j).length=fs.length-j:=List.length_drop ..
  have hlk:=Vv ne j h
  refine .inr ⟨st,hst,(fs.drop j).length,by omega,?_,q.symm,hlk⟩
  by_cases hlt:(fs.drop j).length<st.length
  ·exact hlt
  ·exfalso
   have hle:st.length<=(fs.drop j).length:=by omega
   rw [List.take_of_length_le hle] at q
   unfold lacks at hlk
   rw [Bool.not_eq_true',List.any_eq_false] at hlk
   refine hlk st hst ((qN (ne st hst)).mpr ⟨0,?_⟩)
   rw [List.drop_zero,<- q,List.take_of_length_le (Nat.le_refl _)]
 ·left
  exact List.drop_of_length_le (by omega)
theorem StandsL.first {ls xs:ZA} (a:StandsL ls xs):∃ r,xs=[] :: r:=by
 have h0:([]:List Int)∈xs:=(a.mem []).mpr (.inl rfl)
 cases xs with
 | nil=>cases h0
 | cons x r =>
  rcases List.mem_cons.mp h0 with e | e
  ·exact⟨r,by rw [e]⟩
  ·have:=(List.pairwise_cons.mp a.up).1 [] e
   unfold HT.vd at this
   by_cases hl:x.length=([]:List Int).length
   ·have:x=[]:=List.eq_nil_of_length_eq_zero hl
    exact⟨r,by rw [this]⟩
   ·rw [if_neg hl] at this
    have:=of_decide_eq_true this
    simp at this
def cnt (ls:ZA) (b:Nat):Nat->List Int->Nat
 | 0,_=>1
 | t+1,x=>((List.range b).map λ(c:Nat)=>if lacks ls (x++[(c:Int)])=true then cnt ls b t (yf ls (x++[(c:Int)])) else 0).sum
def jm (b:Nat):Nat->Nat->List Int
 | 0,_=>[]
 | t+1,r=>((r / b^t:Nat):Int) :: jm b t (r % b^t)
def many (p:Nat->Bool):Nat->Nat
 | 0=>0
 | n+1=>many p n+(if p n=true then 1 else 0)
theorem uC {p q:Nat->Bool}:∀ {N:Nat},(∀ n,n<N->p n=q n)->many p N=many q N
 | 0,_=>rfl
 | N+1,h=>by rw [many,many,uC (N:=N) λn hn=>h n (by omega),h N (by omega)]
theorem Wt {p:Nat->Bool}:∀ {N:Nat},(∀ n,n<N->p n=false)->many p N=0
 | 0,_=>rfl
 | N+1,h=>by rw [many,Wt (N:=N) λn hn=>h n (by omega),h N (by omega)];rfl
theorem We (p:Nat->Bool) (A:Nat):∀ B:Nat,many p (A+B)=many p A+many (λn=>p (A+n)) B
 | 0=>rfl
 | B+1=>by rw [<- Nat.add_assoc,many,many,We p A B,Nat.add_assoc]
theorem Vs (p:Nat->Bool) (B:Nat):∀ A:Nat,many p (A*B)=((List.range A).map λc=>many (λr=>p (c*B+r)) B).sum
 | 0=>by simp [many]
 | A+1=>by
  rw [Nat.succ_mul,We,Vs p B A,List.range_succ,List.map_append,List.sum_append]
  simp
theorem Wd {b t c r:Nat} (hr:r<b^t):jm b (t+1) (c*b^t+r)=(c:Int) :: jm b t r:=by
 have h0:0<b^t:=by omega
 rw [jm,Nat.add_comm,Nat.add_mul_div_right _ _ h0,Nat.div_eq_of_lt hr,Nat.zero_add,Nat.add_mul_mod_self_right,Nat.mod_eq_of_lt hr]
theorem YL {f g:Nat->Nat}:∀ {N:Nat},(∀ c,c<N->f c=g c)->((List.range N).map f).sum=((List.range N).map g).sum:=by
 intro N h
 congr 1
 apply List.map_congr_left
 intro c hc
 exact h c (List.mem_range.mp hc)
theorem Ux {ls:ZA} (ne:∀ l∈ls,l≠[]) {b t:Nat} (ih:∀ x,lacks ls x=true->many (λr=>lacks ls (x++jm b t r)) (b^t)=cnt ls b t (yf ls x)) {x:List Int} (c:Nat) :
  many (λr=>lacks ls (x++jm b (t+1) (c*b^t+r))) (b^t)=if lacks ls (x++[(c:Int)])=true then cnt ls b t (yf ls (x++[(c:Int)])) else 0:=by
 have e1:many (λr=>lacks ls (x++jm b (t+1) (c*b^t+r))) (b^t)=many (λr=>lacks ls (x++[(c:Int)]++jm b t r)) (b^t):=by
  apply uC
  intro r hr
  show lacks ls _=lacks ls _
  rw [Wd hr,List.append_assoc]
  rfl
 rw [e1]
 by_cases h:lacks ls (x++[(c:Int)])=true
 ·rw [if_pos h,ih _ h]
 ·rw [if_neg h]
  apply Wt
  intro r _
  cases hc:lacks ls (x++[(c:Int)]++jm b t r) with
  | false=>rfl
  | true=>exact absurd (Qx ne hc) h
theorem J1 {ls:ZA} (ne:∀ l∈ls,l≠[]) {b:Nat}:∀ (t:Nat) (x:List Int),lacks ls x=true->many (λr=>lacks ls (x++jm b t r)) (b^t)=cnt ls b t (yf ls x)
 | 0,x,h=>by
  rw [Nat.pow_zero,many,many,cnt,jm,List.append_nil,if_pos h]
 | t+1,x,h=>by
  rw [Nat.pow_succ',Vs,cnt]
  apply YL
  intro c _
  rw [Ux ne (J1 ne t),Xl ne _ h,Xc]
def gd (ls:ZA) (b n:Nat):Bool:=lacks ls (figs b n)
theorem Uk {b:Nat}:∀ (t n:Nat),jm b (t+1) n=tops b t n
 | 0,n=>by simp [jm,tops]
 | t+1,n=>by rw [jm,Uk t,tops]
theorem zdK {b t c r:Nat} (h2:2<=b) (h1:1<=c) (hc:c<b) (hr:r<b^t):figs b (c*b^t+r)=(c:Int) :: jm b t r:=by
 rw [<- Wd hr,Uk]
 refine (Yp h2 t _ ?_ (.inr ?_)).symm
 ·rw [Nat.pow_succ']
  have:(c+1)*b^t<=b*b^t:=Nat.mul_le_mul_right _ hc
  rw [Nat.succ_mul] at this
  omega
 ·have:1*b^t<=c*b^t:=Nat.mul_le_mul_right _ h1
  omega
def Uw (ls:ZA) (b:Nat):Nat->Nat
 | 0=>if lacks ls [0]=true then 1 else 0
 | t+1=>((List.range b).map λ(c:Nat)=>if c=0 then Uw ls b t else if lacks ls [(c:Int)]=true then cnt ls b t (yf ls [(c:Int)]) else 0).sum
theorem QB {ls:ZA} (ne:∀ l∈ls,l≠[]) {b t c:Nat} (h2:2<=b) (h1:1<=c) (hc:c<b):many (λr=>gd ls b (c*b^t+r)) (b^t)=if lacks ls [(c:Int)]=true then cnt ls b t (yf ls [(c:Int)]) else 0:=by
 have e:=Ux (x:=[]) ne (b:=b) (t:=t) (J1 ne t) c
 rw [List.nil_append] at e
 rw [<- e]
 apply uC
 intro r hr
 show gd ls b _=lacks ls _
 rw [gd,zdK h2 h1 hc hr,List.nil_append,Wd hr]
theorem Qt {ls:ZA} (ne:∀ l∈ls,l≠[]) {b:Nat} (h2:2<=b):∀ t:Nat,Uw ls b t=many (gd ls b) (b^t)
 | 0=>by
  rw [Nat.pow_zero,many,many,Uw,Nat.zero_add]
  unfold gd
  rw [Zd (show 0<b by omega)]
  rfl
 | t+1=>by
  rw [Nat.pow_succ',Vs,Uw]
  apply YL
  intro c hc
  by_cases h0:c=0
  ·subst h0
   rw [if_pos rfl,Qt ne h2 t]
   apply uC
   intro r _
   rw [Nat.zero_mul,Nat.zero_add]
  ·rw [if_neg h0,QB ne h2 (by omega) hc]
theorem QT {b n k:Nat} (h2:2<=b) (hn:n<b^(k+1)) (h:k=0\/b^k<=n):(figs b n).length=k+1:=by
 rw [<- Yp h2 k n hn h,J4]
theorem zeB {b:Nat} (h2:2<=b) (n:Nat):∃ k,n<b^(k+1)/\(k=0\/b^k<=n):=by
 have key:∀ K:Nat,n<b^(K+1)->∃ k,n<b^(k+1)/\(k=0\/b^k<=n):=by
  intro K
  induction K with
  | zero=>intro h;exact⟨0,h,.inl rfl⟩
  | succ K ih =>
   intro h
   by_cases q:n<b^(K+1)
   ·exact ih q
   ·exact⟨K+1,h,.inr (by omega)⟩
 refine key n ?_
 have:n<2^n:=Nat.lt_two_pow_self
 have h3:2^n<=b^n:=Nat.pow_le_pow_left h2 n
 have h4:b^n<=b^(n+1):=Nat.pow_le_pow_right (by omega) (Nat.le_succ n)
 omega
theorem zaf {b n k:Nat} (h2:2<=b):(figs b n).length=k+1↔n<b^(k+1)/\(k=0\/b^k<=n):=by
 refine⟨λh=>?_,λh=>QT h2 h.1 h.2⟩
 obtain⟨m,h1,h3⟩:=zeB h2 n
 have e:=QT h2 h1 h3
 rw [h] at e
 obtain rfl:k=m:=by omega
 exact⟨h1,h3⟩
def Wh (ls:ZA) (b t:Nat):Option (List Int)->Nat->Nat
 | some x,c=>if lacks ls (x++[(c:Int)])=true then cnt ls b t (yf ls (x++[(c:Int)])) else 0
 | none,c=>if c=0 then Uw ls b t else if lacks ls [(c:Int)]=true then cnt ls b t (yf ls [(c:Int)]) else 0
def under (ls:ZA) (b t:Nat) (o:Option (List Int)) (s:Nat):Nat:=((List.range s).map (Wh ls b t o)).sum
theorem za4 (ls:ZA) (b t:Nat) (o:Option (List Int)):under ls b t o 0=0:=rfl
theorem VH (ls:ZA) (b t:Nat) (o:Option (List Int)) (s:Nat):under ls b t o (s+1)=under ls b t o s+Wh ls b t o s:=by
 unfold under
 rw [List.range_succ,List.map_append,List.sum_append]
 simp
def Rep (ls:ZA) (b m:Nat) (o:Option (List Int)):Prop:=(m=0/\o=none)\/(1<=m/\gd ls b m=true/\o=some (yf ls (figs b m)))
theorem Zi {b m c:Nat} (h2:2<=b) (h1:1<=m) (hc:c<b):figs b (m*b+c)=figs b m++[(c:Int)]:=by
 have hge:b<=m*b+c:=by
  have:1*b<=m*b:=Nat.mul_le_mul_right b h1
  omega
 rw [Vo h2 hge]
 have e1:(m*b+c) / b=m:=by rw [Nat.add_comm,Nat.add_mul_div_right _ _ (by omega),Nat.div_eq_of_lt hc,Nat.zero_add]
 have e2:(m*b+c) % b=c:=by rw [Nat.add_comm,Nat.add_mul_mod_self_right,Nat.mod_eq_of_lt hc]
 rw [e1,e2]
theorem zdU {b m c:Nat} (h2:2<=b) (h1:1<=m):1<=m*b+c:=by
 have:1*b<=m*b:=Nat.mul_le_mul_right b h1
 omega
theorem WP {b m:Nat} (h2:2<=b) (h1:1<=m):∀ (t r:Nat),r<b^t->figs b (m*b^t+r)=figs b m++jm b t r
 | 0,r,hr=>by
  have:r=0:=by rw [Nat.pow_zero] at hr;omega
  subst this
  rw [Nat.pow_zero,Nat.mul_one,Nat.add_zero,jm,List.append_nil]
 | t+1,r,hr=>by
  have hp:0<b^t:=Nat.pow_pos (by omega)
  have hc:r / b^t<b:=by
   rw [Nat.div_lt_iff_lt_mul hp]
   rw [Nat.pow_succ',] at hr
   exact hr
  have hm:r % b^t<b^t:=Nat.mod_lt _ hp
  have e:m*b^(t+1)+r=(m*b+r / b^t)*b^t+r % b^t:=by
   have h:=Nat.div_add_mod r (b^t)
   rw [Nat.pow_succ',Nat.add_mul,Nat.mul_assoc,Nat.add_assoc,Nat.mul_comm (r / b^t),h]
  have h1':1<=m*b+r / b^t:=zdU h2 h1
  rw [e,WP h2 h1' t _ hm,Zi h2 h1 hc,jm,List.append_assoc]
  rfl
theorem zbo {ls:ZA} (ne:∀ l∈ls,l≠[]) {b m:Nat} {o:Option (List Int)} (h2:2<=b) (R:Rep ls b m o) (t:Nat) {c:Nat} (hc:c<b):Wh ls b t o c=many (λr=>gd ls b ((m*b+c)*b^t+r)) (b^t):=by
 rcases R with ⟨rfl,rfl⟩ | ⟨h1,hg,rfl⟩
 ·rw [Nat.zero_mul,Nat.zero_add]
  show (if c=0 then _ else _)=_
  by_cases h0:c=0
  ·subst h0
   rw [if_pos rfl,Qt ne h2]
   apply uC
   intro r _
   rw [Nat.zero_mul,Nat.zero_add]
  ·rw [if_neg h0,QB ne h2 (by omega) hc]
 ·have e:=Ux (x:=figs b m) ne (b:=b) (t:=t) (J1 ne t) c
  show (if lacks ls (yf ls (figs b m)++[(c:Int)])=true then cnt ls b t (yf ls (yf ls (figs b m)++[(c:Int)])) else 0)=_
  rw [Xl ne _ hg,Xc,<- e]
  apply uC
  intro r hr
  show lacks ls _=gd ls b _
  rw [gd,WP h2 (zdU h2 h1) t r hr,Zi h2 h1 hc,Wd hr,List.append_assoc]
  rfl
theorem Vw {ls:ZA} (ne:∀ l∈ls,l≠[]) {b m:Nat} {o:Option (List Int)} (h2:2<=b) (R:Rep ls b m o) (t:Nat):∀ {s:Nat},s<=b->many (gd ls b) (m*b^(t+1))+under ls b t o s=many (gd ls b) ((m*b+s)*b^t)
 | 0,_=>by rw [za4,Nat.add_zero,Nat.pow_succ',show (m*b+0)*b^t=m*(b*b^t) by rw [Nat.add_zero,Nat.mul_assoc]]
 | s+1,hs=>by
  rw [VH,<- Nat.add_assoc,Vw ne h2 R t (s:=s) (by omega),zbo ne h2 R t (show s<b by omega),<- Nat.add_assoc,Nat.succ_mul (m*b+s),We]
theorem Rep.step {ls:ZA} (ne:∀ l∈ls,l≠[]) {b m:Nat} {o:Option (List Int)} (h2:2<=b) (R:Rep ls b m o) {c:Nat} (hc:c<b) :
  (o=none/\c=0/\Rep ls b (m*b+c) none)\/(¬ (o=none/\c=0)/\((lacks ls (o.getD []++[(c:Int)])=true/\Rep ls b (m*b+c) (some (yf ls (o.getD []++[(c:Int)]))))\/(lacks ls (o.getD []++[(c:Int)])=false/\1<=m*b+c/\gd ls b (m*b+c)=false))):=by
 rcases R with ⟨rfl,rfl⟩ | ⟨h1,hg,rfl⟩
 ·by_cases h0:c=0
  ·left;exact⟨rfl,h0,.inl ⟨by rw [h0];omega,rfl⟩⟩
  ·right
   refine⟨λz=>h0 z.2,?_⟩
   rw [Nat.zero_mul,Nat.zero_add]
   show (lacks ls [(c:Int)]=true/\_)\/(lacks ls [(c:Int)]=false/\_)
   have eg:gd ls b c=lacks ls [(c:Int)]:=by unfold gd;rw [Zd hc]
   cases hl:lacks ls [(c:Int)] with
   | true=>left;exact⟨rfl,.inr ⟨by omega,by rw [eg];exact hl,by rw [Zd hc];rfl⟩⟩
   | false=>right;exact⟨rfl,by omega,by rw [eg];exact hl⟩
 ·right
  refine⟨λz=>(nomatch z.1),?_⟩
  have hm:1<=m*b+c:=zdU h2 h1
  show (lacks ls (yf ls (figs b m)++[(c:Int)])=true/\Rep ls b (m*b+c) (some (yf ls (yf ls (figs b m)++[(c:Int)]))))\/(lacks ls (yf ls (figs b m)++[(c:Int)])=false/\_)
  rw [Xl ne _ hg,Xc]
  have eg:gd ls b (m*b+c)=lacks ls (figs b m++[(c:Int)]):=by unfold gd;rw [Zi h2 h1 hc]
  cases hl:lacks ls (figs b m++[(c:Int)]) with
  | true=>left;exact⟨rfl,.inr ⟨hm,by rw [eg];exact hl,by rw [Zi h2 h1 hc]⟩⟩
  | false=>right;exact⟨rfl,hm,by rw [eg];exact hl⟩
theorem zff {ls:ZA} (ne:∀ l∈ls,l≠[]) {b m:Nat} (h2:2<=b) (h1:1<=m) (hg:gd ls b m=false) (t:Nat) {r:Nat} (hr:r<=b^t):many (gd ls b) (m*b^t+r)=many (gd ls b) (m*b^t):=by
 rw [We,Wt (N:=r)]
 ·omega
 intro k hk
 show gd ls b _=false
 cases hc:gd ls b (m*b^t+k) with
 | false=>rfl
 | true =>
  unfold gd at hc hg
  rw [WP h2 h1 t k (by omega)] at hc
  rw [Qx ne hc] at hg
  cases hg
theorem J6 {b:Nat}:∀ {t n k:Nat},k<t->n<b^t->(jm b t n)[k]?=some (((n / b^(t-1-k)) % b:Nat):Int)
 | 0,_,_,hk,_=>by omega
 | t+1,n,0,_,hn=>by
  have:n / b^t<b:=by
   rw [Nat.pow_succ'] at hn
   rcases Nat.eq_zero_or_pos (b^t) with h | h
   ·rw [h] at hn;omega
   ·rw [Nat.div_lt_iff_lt_mul h];exact hn
  rw [jm,List.getElem?_cons_zero,show t+1-1-0=t by omega,Nat.mod_eq_of_lt this]
 | t+1,n,k+1,hk,hn=>by
  have hb:0<b:=by
   rcases Nat.eq_zero_or_pos b with h | h
   ·subst h;rw [Nat.zero_pow (by omega)] at hn;omega
   ·exact h
  rw [jm,List.getElem?_cons_succ,J6 (by omega) (Nat.mod_lt _ (Nat.pow_pos hb))]
  have e:t+1-1-(k+1)=t-1-k:=by omega
  rw [e]
  generalize hj:t-1-k=j
  obtain⟨q,hq⟩:∃ q,t=j+(q+1):=⟨t-j-1,by omega⟩
  rw [hq,Nat.pow_add,Nat.mod_mul_right_div_self,Nat.pow_succ',Nat.mod_mul_right_mod]
theorem zc3 {b n N k:Nat} (h2:2<=b) (hN:(figs b n).length=N) (hk:k<N):(figs b n)[k]?=some (((n / b^(N-1-k)) % b:Nat):Int):=by
 obtain⟨K,rfl⟩:∃ K,N=K+1:=⟨N-1,by omega⟩
 obtain⟨h1,h3⟩:=(zaf h2).mp hN
 rw [<- Yp h2 K n h1 h3,<- Uk]
 exact J6 hk h1
theorem zau {b n N:Nat} (h2:2<=b) (hN:(figs b n).length=N):n<b^N:=by
 cases N with
 | zero=>exact absurd (List.length_eq_zero_iff.mp hN) zd2
 | succ K=>exact ((zaf h2).mp hN).1
theorem zc2 {b n t:Nat} (hb:0<b):n / b^t=n / b^(t+1)*b+(n / b^t) % b:=by
 have h:=Nat.div_add_mod (n / b^t) b
 rw [Nat.div_div_eq_div_mul,<- Nat.pow_succ,Nat.mul_comm] at h
 exact h.symm
end Lw
namespace L2
open Lw
abbrev LPw (ls:ZA):Prop:=ls.Pairwise λx y=>HT.lexLt x y=true
theorem LPw.nodup {a:ZA} (h:LPw a):a.Nodup:=h.imp λq e=>by subst e;rw [HT.yx] at q;cases q
open PySem PySem.Spec PyProof.Rows
section
variable {X:Cx} {tg:Expr}
end
def ze6 (C:Addr) (m:Str) (sp:Sp) (Ex:St->XK) (ta:TE) (t:TA):TE:=λZ H Q=>ta Z H λx H1=>∃ a dx fs,x=.ref a/\H1 a=some (.ins C dx fs)/\fs.lookup m=none/\t Z H1 λvs H2=>sp (x :: vs) H2 Q (Ex Z)
def zfq (C:Addr) (sp:Sp) (Ex:St->XK) (t:TA):TE:=λZ H Q=>t Z H λvs H1=>∀ x dx,H1 x=none->H1 dx=none->dx≠x->sp (.ref x :: vs) (upd (upd H1 dx (.own x)) x (.ins C dx [])) (λv H2=>v=.non/\Q (.ref x) H2) (Ex Z)
section
variable {X:Cx} {C:Addr} {q x:Str} {st:Stmt} {ps:List Str} {f:Addr} {fd:FuncData} {k:Nat} {sp:Sp} {Ex:St->XK} {o e:Expr} {es:List Expr} {ta:TE} {t:TA} {apos p pos:Pos}
theorem Jr {pl:Sem Bool} (D:Mt X.K C q x st ps f fd) (c:Cls X.K C) (G:FnOk X.prog X.w X.K X.mg X.base (CX1 X.prog X.w) k f fd ps sp) (hr:Room k X.A) (hx:QC X Ex) (he:PE X o ta) (ha:PA X (e :: es) t)
  (hst:starEach (e :: es) X.env=(false,eval e X.env) :: starEach es X.env:=by rfl) (hpl:(backTo pos (starEach es X.env)).any (·.1)=false:=by rfl)
  (ht:eval (.Call (.Attribute o x apos) (e :: es) [] pos) X.env=(do
   let ov <- eval o X.env
   standAt apos.atName
   let (f,first) <- holding [ov] (getMethod ov x pl)
   callWith pos f first (backTo pos (starEach (e :: es) X.env)) (backToKw pos (keywordEach [] X.env))):=by rfl):PE X (.Call (.Attribute o x apos) (e :: es) [] pos) (ze6 C x sp Ex ta t):=by
 intro pins s Z H Q I h
 refine W.methodCall_KW (pl:=pl) (thn (he pins s Z H _ I h) λu s1 ⟨y,H1,I1,ry,a,dx,fs,ey,ea,l,z⟩=>?_) ht
 subst ey
 obtain rfl:u=Value.ref a:=ry
 refine YZ I1 ea c D.m l ?_
 refine W.callWith_K (first:=[.ref a]) (h₀:=X.base) I.ok.mod.kin D.m.kp (thn (ha pos pins s1 Z H1 _ I1 z) λus s2 ⟨vs,H2,I2,r,z2⟩=>⟨I2.kIn,?_⟩) hst hpl
 exact zbG (us:=.ref a :: us) (vs:=.ref a :: vs) G hr D.b hx I2 (.cons rfl r) z2
theorem ze1 (M:Mk X.K C f) (G:FnOk X.prog X.w X.K X.mg X.base (CX1 X.prog X.w) k f fd ps sp) (hr:Room (k+1) X.A) (hg:Gl X x) (hm:X.mg x=some (.ref C)) (hb:Binds X.K fd ps []) (hx:QC X Ex) (ha:PA X (e :: es) t)
  (hdb:(x == ("__debug__" : Str))=false:=by decide) (he:starEach (e :: es) X.env=(false,eval e X.env) :: starEach es X.env:=by rfl) (hpl:(backTo pos (starEach es X.env)).any (·.1)=false:=by rfl) :
  PE X (.Call (.Name x p) (e :: es) [] pos) (zfq C sp Ex t):=by
 intro pins s Z H Q I h
 refine wpAny_Call_Name_kw (jV I hg hm ?_ hdb)
 refine W.callWith_K (h₀:=X.base) I.ok.mod.kin M.kp (thn (ha pos pins s Z H _ I h) λus s1 ⟨vs,H1,I1,r,z⟩=>⟨I1.kIn,?_⟩) he hpl
 have hq:=z (s1.heap.objs.size+1) s1.heap.objs.size (I1.hok.fresh (Nat.le_succ _)) (I1.hok.fresh (Nat.le_refl _)) (Nat.ne_of_lt (Nat.lt_succ_self _))
 have I2:=Inv.made (C:=C) I1
 have r2:Vals (V.ref (s1.heap.objs.size+1) :: vs) (Value.ref (s1.heap.objs.size+1) :: us):=.cons rfl r
 have hl:(Value.ref (s1.heap.objs.size+1) :: us).length=ps.length:=by
  have e:=r2.length
  rw [G.len _ _ _ _ hq] at e
  exact e.symm
 have hb':=hb _ (Value.ref (s1.heap.objs.size+1) :: us) I2.kIn (by rw [List.append_nil];exact hl)
 rw [List.append_nil] at hb'
 refine wpAny_call (zax (f:=f) I1.kIn M.makes M.init (beq_iff_eq.mp M.fn) (codeAny_mono (G.run _ X.stack _ _ ⟨Value.ref (s1.heap.objs.size+1) :: us,[]⟩ (Value.ref (s1.heap.objs.size+1) :: us) _ _ (Ex Z) (hr.make C us []) (I2.env0.make C us []) hb' r2 hq) λr s' hq'=>?_))
 cases r with
 | error e=>exact hx pins Z _ _ e s' I2 hq'
 | ok fl =>
  cases fl with
  | ret u =>
   obtain⟨v,H',I3,rv,ev,q3⟩:=I2.after hq'
   subst ev
   exact⟨rv,⟨V.ref (s1.heap.objs.size+1),H',I3,rfl,q3⟩⟩
  | next=>exact False.elim hq'
  | brk=>exact False.elim hq'
  | cont=>exact False.elim hq'
end
theorem FnOk.calm {P:Program} {w:World} {K:W.Frag} {mg:Str->Option Value} {base:Heap} {k:Nat} {f:Addr} {fd:FuncData} {ps:List Str} {sp:Sp} (F:FnOk P w K mg base (CX1 P w) k f fd ps sp):FnOk P w K mg base CX0 k f fd ps (λvs H Q _=>sp vs H Q λ_ _ _=>False) :=
 ⟨λvs H Q E h=>F.len vs H Q _ h,λA outer s H args us vs Q E hr e0 hb hv hs=>codeAny_mono (F.run A outer s H args us vs Q (λ_ _ _=>False) hr e0 hb hv hs) λr s' q=>by
  cases r with
  | error e=>obtain⟨_,_,_,_,_,_,_,_,_,_,_,hE⟩:=q;exact hE.elim
  | ok fl=>cases fl<;>exact q⟩
end L2
namespace PySem.W.Fast
def tw6068165902604215328:=0
def tw12439266664869800138:=0
def tw100126908405132409:=0
def tw2783047819565057985:=0
def tw7484221630321752282:=0
def tw4854922639615662923:=0
def tw11523619916368967335:=0
def tw5893631762970435415:=0
def tw501860366703182093:=0
def tw15152872841163822592:=0
def tw15863642993070938951:=0
def tw14822821955258940327:=0
def tw4330563929395501766:=0
def tw7992962725961392974:=0
def tw10560886622833561531:=0
def tw17543566801646238004:=0
def tw9828849870668398259:=0
def tw16131695193849380495:=0
def tw10953218733453635734:=0
def tw6032943735863966245:=0
def tw14569145857932530601:=0
def tw14588819367588086995:=0
def tw11704475284398614542:=0
def tw3317332671409168413:=0
def tw13680009510654908567:=0
def tw3467038051648521415:=0
def tw16601011994728385896:=0
def tw7689698530070915692:=0
def tw2744078482891122486:=0
def tw331143647334637333:=0
def tw14940256773112428683:=0
def tw11330477193822315612:=0
def tw17596327898723982731:=0
def tw17671791754752191600:=0
def tw5643883411154750845:=0
def tw271159570007658697:=0
def tw2976557586352714848:=0
def tw2274884842291328874:=0
def tw12464670377611141397:=0
def tw14687976597353248339:=0
def tw17770755622842764001:=0
def tw362312742013030968:=0
def tw12943719871177484480:=0
def tw3504806721278170328:=0
def tw9572774973308369542:=0
def tw896531948600949357:=0
def tw9857185633637831486:=0
def tw1326565880241095819:=0
def tw3398900447189375110:=0
def tw18047076310390981870:=0
def tw12093942717934151878:=0
def tw636103372706016598:=0
def tw11395166518401082326:=0
def tw12713315492255965372:=0
def tw6921430997840246182:=0
def tw7329796540182397697:=0
def tw7388684012059640613:=0
def tw14376923405464927752:=0
def tw14639518342783477637:=0
def tw5320588362958140589:=0
def tw4553600211084029574:=0
def tw13524792051911476265:=0
def tw12426247635433632418:=0
def tw15831680336859804607:=0
def tw13835342557220689829:=0
def tw17202376457215221647:=0
def tw5573182778282675786:=0
def tw16910160678731289350:=0
def tw12200240206399648390:=0
def tw9221080849143250887:=0
def tw5071876246797858840:=0
def tw9292141160377758488:=0
def tw6044906983639049824:=0
def tw6509519211009889496:=0
def tw9929504374515708546:=0
def tw5581435761017596957:=0
def tw17916663596579423576:=0
def tw10814975243373309265:=0
def tw17627816220936435409:=0
def tw13022321312133410400:=0
def tw9477138332648417483:=0
def tw17575456687498148291:=0
def tw18115052175911458304:=0
def tw1646330164034482859:=0
def tw10625877071904711899:=0
def tw4936035556447175686:=0
def tw17076055535184610364:=0
def tw7131673914199569671:=0
def tw6193382065234912860:=0
def tw14884919386381471331:=0
def tw548257272858075972:=0
def tw10548591498998350700:=0
def tw15557597768938457145:=0
def tw6001834262336516861:=0
def tw14456838290422942110:=0
def tw13817040414706289173:=0
def tw1675795232551793553:=0
def tw3040393386468461505:=0
def tw17834266975711044264:=0
def tw2916376320408803729:=0
def tw16958299588020021225:=0
def tw5478770955552911413:=0
def tw9005951023567967643:=0
def tw28752083115389876:=0
def tw4616551433247961205:=0
def tw6796650076482341401:=0
def tw12133614105635156842:=0
def tw8193850040084316263:=0
def tw8920982310398059613:=0
def tw3041761892996377405:=0
def tw6258400401988458480:=0
def tw4140696063862401440:=0
def tw17078083689970012878:=0
def tw14127736248384414644:=0
def tw14096330701040226427:=0
def tw11996552599015952353:=0
def tw18311399569362392629:=0
def tw5749676152288017396:=0
def tw10561048337705853794:=0
def tw6992337428790286989:=0
def tw12975798937418689933:=0
def tw13930946965794776191:=0
def tw6123271789095254434:=0
def tw9030721772423076725:=0
def tw11382767884543750845:=0
def tw7318905569952995181:=0
def tw1847399317297847245:=0
def tw17575294400255243870:=0
def tw16945991425051079905:=0
def tw12367245344378039400:=0
def tw11702800420724037707:=0
def tw1620587311613269071:=0
def tw8236870929997685590:=0
def tw3635739808417323511:=0
def tw12829804468277149752:=0
def tw3006404729760056458:=0
def tw10091472751192700650:=0
def tw14809319473191936658:=0
def tw974547653599250142:=0
def tw9112033263348230099:=0
def tw4070838173573994369:=0
def tw7907395731277238317:=0
def tw3765781672886447852:=0
def tw5323400035961383885:=0
def tw15141427331464768864:=0
def tw6950344690791179863:=0
def tw4992309607308875993:=0
def tw7956332978120473763:=0
def tw18389880288456960858:=0
def tw9071148706888827007:=0
def tw13897854867370393597:=0
def tw6328894139398360666:=0
def tw2603669192430145773:=0
def tw1751425574138215620:=0
def tw9576538257823697401:=0
def tw10809032450256070776:=0
def tw7126173696268026481:=0
def tw4816046762869378431:=0
def tw9149831862126844455:=0
def tw3443172546486995986:=0
def tw20462892932840215:=0
def tw2897277258065457452:=0
def tw1583391113651621036:=0
def tw5623624473002000169:=0
def tw15453476182402380140:=0
def tw9415584347257516711:=0
def tw227826256506375334:=0
def tw5915160455668838651:=0
def tw1337206404081148538:=0
def tw5447122437213667704:=0
def tw15770788968036221512:=0
def tw1906358131403598520:=0
def tw14848826450333085048:=0
def tw7147937814938268897:=0
def tw6821786376644765111:=0
def tw2571171389754423951:=0
def tw2453931880560768250:=0
def tw4812765402738478457:=0
def tw18024618031321493667:=0
def tw5944407074449769775:=0
def tw13250237944327219521:=0
def tw5670218312135740032:=0
def tw11717468345298778147:=0
def tw14380356538670003676:=0
def tw3116268203130144615:=0
def tw13318874075903366689:=0
def tw12910970670641610822:=0
def tw8015392708795548827:=0
def tw12740323503874817602:=0
def tw3794163934349908774:=0
def tw12633711070436117870:=0
def tw2685386829037052788:=0
def tw8040949457690532209:=0
def tw9058744664788331178:=0
def tw11400274707937365542:=0
def tw9741250215750398409:=0
def tw1877673818717294791:=0
def tw10745272377340574866:=0
def tw9456488052471011775:=0
def tw16283508067061108670:=0
def tw545942355726606551:=0
def tw1358001251612001247:=0
def tw8000391625255302235:=0
def tw4089459011399098284:=0
def tw15302978639939448432:=0
def tw7184660802866853797:=0
def tw4919058993539941816:=0
def tw16084788271886741007:=0
def tw10526603325207389746:=0
def tw12986716726819203778:=0
def tw18150139315662245446:=0
def tw8630810255721322734:=0
def tw9062027605460224696:=0
def tw13982570475041129487:=0
def tw11469097422513462975:=0
def tw1442577762149408966:=0
def tw7511212675558292541:=0
def tw450826685814347891:=0
def tw2715924525885441594:=0
def tw17622255754326950136:=0
def tw11026353330418342011:=0
def tw8603491845442874051:=0
def tw9725138798562444954:=0
def tw9512513552710348891:=0
def tw15256627031420223785:=0
def tw12049202429523852633:=0
def tw16052675408583313784:=0
def tw7912033096043216919:=0
def tw3305084058775313523:=0
def tw4946875543816077574:=0
def tw7531588053537266765:=0
def tw2416130256374800332:=0
def tw2091959934508445701:=0
def tw17037554318152399297:=0
def tw9453582333914477578:=0
def tw2603139832615938156:=0
def tw13381629557358193551:=0
def tw7977371116051185494:=0
def tw12751545609817760502:=0
def tw6536533753478707979:=0
def tw10060003835374148696:=0
def tw2150791871377311098:=0
def tw740643585479325648:=0
def tw12472130951832628830:=0
def tw2870913598820965997:=0
def tw1633612693016919771:=0
def tw15581470626159798330:=0
def tw2036338250907078075:=0
def tw13502768566571386049:=0
def tw576215814972671712:=0
def tw16915695781506996572:=0
def tw6434488186184263947:=0
def tw17179131894553062192:=0
def tw10963800021851988557:=0
def tw13665820107238510574:=0
def tw18354849420328265068:=0
def tw12747301581907146567:=0
def tw583734679418110046:=0
def tw7430429791136960838:=0
def tw17096162840361761920:=0
def tw4020811518900073638:=0
def tw6728083140048817901:=0
def tw1244585849541273323:=0
def tw12265039560212419341:=0
def tw1052300905277926730:=0
def tw9980438409590580785:=0
def tw18206780298502455330:=0
def tw16575131531971874431:=0
def tw17761009723418337249:=0
def tw14099994484614416848:=0
def tw13205824657506586545:=0
def tw3033437485105104486:=0
def tw5962044564954257602:=0
def tw7371368309246238747:=0
def tw15302646987632655252:=0
def tw7615817052556535116:=0
def tw6095402057277208135:=0
def tw13123968871991229164:=0
def tw3601958149201916605:=0
def tw5122624041290642006:=0
def tw16870320985269470163:=0
def tw268226099356379044:=0
def tw13448524911037217171:=0
def tw14245204654299993045:=0
def tw7840998701043816757:=0
def tw15716373313165736287:=0
def tw11903521639878820901:=0
def tw8295577776862566182:=0
def tw14303647276206208711:=0
def tw16759763274358415030:=0
def tw15340331149501296042:=0
def tw2456683966375909086:=0
def tw8132658125825867192:=0
def tw2217554131601039653:=0
def tw3327074423072075846:=0
def tw6548256084533252783:=0
def tw10135488069026511587:=0
def tw1529182220620314845:=0
def tw9802764823264992134:=0
def tw1892397063695571404:=0
def tw15356778262305175951:=0
def tw11619374234431710462:=0
def tw10891291766652874856:=0
def tw9261631326383317868:=0
def tw3311563903571780337:=0
def tw14066454845871324189:=0
def tw11477698188395346350:=0
def tw14234586639080278116:=0
def tw1049415840977205362:=0
def tw8496233959738077483:=0
def tw6859309483193392775:=0
def tw11160601665429164047:=0
def tw1133366701061934498:=0
def tw17006595499372806445:=0
def tw6344763368242721112:=0
def tw3255182722833851610:=0
def tw15409252346483948904:=0
def tw6164162167016386486:=0
def tw688415949557136473:=0
def tw4895509200141590999:=0
def tw17919630501009535987:=0
def tw555359758165714115:=0
def tw5995171513523253730:=0
def tw591443038793114154:=0
def tw293287958579016344:=0
def tw1932215541549809360:=0
def tw12275370641026644078:=0
def tw13109352634484362995:=0
def tw2271354497981589898:=0
def tw2416454928949537125:=0
def tw8130967654121993334:=0
def tw3660680201758918903:=0
def tw12539881799731191031:=0
def tw2556012763930435:=0
def tw13001801005663661160:=0
def tw3430274561698098780:=0
def tw3322526325568205796:=0
def tw13749809352835604976:=0
def tw1393091155597217540:=0
def tw7921840860915786185:=0
def tw9827286712866522116:=0
def tw17985026060816800228:=0
def tw5625184050314319332:=0
def tw13948737197572525842:=0
def tw7212409892453984800:=0
def tw11878385165359894929:=0
def tw17619170754396161444:=0
def tw2766177646037024990:=0
def tw12095046773931806468:=0
def tw14831247747255599546:=0
def tw9811260636375891473:=0
def tw12907434787485943837:=0
def tw9098015476088185050:=0
def tw8083811919816363206:=0
def tw12620474731231446579:=0
def tw13674918995842981775:=0
def tw16475915578482696447:=0
def tw15862319507185259790:=0
def tw13860767970950173925:=0
def tw5557891000237885779:=0
def tw8440502139623180701:=0
def tw3493128673974759221:=0
def tw5420109877310714472:=0
def tw9918337799027632569:=0
def tw3483935715339999456:=0
def tw11290554542025401329:=0
def tw415256376293899305:=0
def tw15441089111688811739:=0
def tw556644550544704397:=0
def tw12604663638699235295:=0
def tw16476702396507106816:=0
def tw4638148036329016511:=0
def tw8349160192979580618:=0
def tw12711848828908366904:=0
def tw13691087305776985875:=0
def tw9082604979703895548:=0
def tw8771888044856546070:=0
def tw7723706268559534928:=0
def tw15220733883849427582:=0
def tw16463230264201648011:=0
def tw8911977685894745725:=0
def tw8241070200445473808:=0
def tw12817683322879678567:=0
def tw2842916842557358984:=0
def tw3969417346359529249:=0
def tw3071612434250828909:=0
def tw11279183165373527542:=0
def tw3426499206675914568:=0
def tw12039458634856472299:=0
def tw7853759872812801849:=0
def tw9188799004045934548:=0
def tw14519640367492180486:=0
def tw9265023026062235439:=0
def tw255343877205125226:=0
def tw8397443133367993871:=0
def tw8400140583754294283:=0
def tw9886761212384925762:=0
def tw15521172175665292093:=0
def tw17675643624454348463:=0
def tw4869852277237630975:=0
def tw10109846604619836297:=0
def tw1787802484473836842:=0
def tw4613640331204677789:=0
def tw9462551331494007368:=0
def tw3419683545105954849:=0
def tw6738419654720678078:=0
def tw1905061675787676916:=0
def tw16636487368239857618:=0
def tw2811225037885046997:=0
def tw5707462585972831409:=0
def tw17089542285940356726:=0
def tw12743796206693443498:=0
def tw18170399952210895597:=0
def tw4180564833406419398:=0
def tw14731104359106991781:=0
def tw8857198470224083947:=0
def tw1857850435072491721:=0
def tw12757967312258938260:=0
def tw5542889604542344435:=0
def tw14510996010025072984:=0
def tw6518343953514558444:=0
def tw16030852391568706560:=0
def tw11950850887633155511:=0
def tw11370207779836433518:=0
def tw15905296312252492421:=0
def tw16319768051201296172:=0
def tw2419402569566733650:=0
def tw5866919881691736306:=0
def tw5779803044612904752:=0
def tw906327236161037224:=0
def tw3136869212936759512:=0
def tw6519839534883876160:=0
def tw17987736651808329607:=0
def tw3161347981544200821:=0
def tw2704701393397587544:=0
def tw9944819786059110778:=0
def tw10099174327678228574:=0
def tw2549637002724005229:=0
def tw3446477454127170080:=0
def tw12436466697735070836:=0
def tw6372174603109492341:=0
def tw13374916235162116735:=0
def tw3176956168468294509:=0
def tw17768358425520112379:=0
def tw13297293007330872883:=0
def tw10371851978970389033:=0
def tw7340580104171499571:=0
def tw394007165620285762:=0
def tw4442085583336361435:=0
def tw5452625467587938351:=0
def tw7960947586300103138:=0
def tw16819948929433538580:=0
def tw17384699012075065672:=0
def tw4247106054043536334:=0
def tw14243548053049335317:=0
def tw10505395233971751781:=0
def tw8700371858636245804:=0
def tw934678549371374390:=0
def tw8429179955117004925:=0
def tw10713708152854846911:=0
def tw2236053893201650973:=0
def tw8195581173077600882:=0
def tw11526198887773307639:=0
def tw14710248893399459030:=0
def tw18289702622070691042:=0
def tw17695361625439898072:=0
def tw2673097468449560081:=0
def tw7416861429864351858:=0
def tw478276943250210909:=0
def tw14095900581138848939:=0
def tw12080012605355274316:=0
def tw7256382235547083297:=0
def tw13792265866569839248:=0
def tw12104236885909112696:=0
def tw13360019592784346225:=0
def tw7776615159988272749:=0
def tw4348786877302270988:=0
def tw4941202013192630935:=0
def tw6411848945312313173:=0
def tw125911414466702826:=0
def tw158658439685803557:=0
def tw16031578660767746390:=0
def tw81286528348081671:=0
def tw11785310792538797760:=0
def tw12341906977149244348:=0
def tw14415027767970659891:=0
def tw9831545048437029380:=0
def tw9001805262157676475:=0
def tw15106202869505097053:=0
def tw10919397397309121070:=0
def tw11361038605014380990:=0
def tw2650450904937399009:=0
def tw10442930521423705337:=0
def tw17339879608427212337:=0
def tw15000402256686513305:=0
def tw13905278991866928010:=0
def tw5205599478109320435:=0
def tw14198806394650697341:=0
def tw16859411276353005389:=0
def tw8761513989884574669:=0
def tw1272317603257862747:=0
def tw4060723158306792922:=0
def tw6983557153872155820:=0
def tw19167211216866601:=0
def tw1774331402180022798:=0
def tw16265831960918599497:=0
def tw16208549278192400895:=0
def tw6501009970801403602:=0
def tw7226456131355791328:=0
def tw9505504256876466700:=0
def tw12812521102327699792:=0
def tw16163429618583422585:=0
def tw8989147938379417499:=0
def tw14176056478329967841:=0
def tw6456076790080448447:=0
def tw17691670198447723691:=0
def tw4308814525388130319:=0
def tw11168673538536663995:=0
def tw8005578592741096801:=0
def tw18224566837888597856:=0
def tw15755410849089065014:=0
def tw533087939609375364:=0
def tw4726592918025899396:=0
def tw14420571921121086620:=0
def tw12208493467107054989:=0
def tw17497216632237772560:=0
def tw295257104489181393:=0
def tw15458544670951935808:=0
def tw2623553061830348142:=0
def tw3546443450888940908:=0
def tw7719581427676135019:=0
def tw11725993521664396163:=0
def tw14755995689965168624:=0
def tw4175967454575776042:=0
def tw15507621530329807556:=0
def tw4277148605715825440:=0
def tw7698638168751574587:=0
def tw10573064175747452633:=0
def tw3966845935922885206:=0
def tw14308427671916424329:=0
def tw1778948004902085957:=0
def tw13401436280036940916:=0
def tw12549593808499210850:=0
def tw9174812420249497837:=0
def tw10798198222968541710:=0
def tw11656645988771353881:=0
def tw10589710928767188554:=0
def tw151567488472130271:=0
def tw10530295414601482626:=0
def tw13358577899011531873:=0
def tw11555451110631281882:=0
def tw12494763819317810639:=0
def tw12125182314790509443:=0
def tw7928080690874529182:=0
def tw14169432737610857741:=0
def tw8763091905098009635:=0
def tw17150921962756601781:=0
def tw15445601553967731899:=0
end PySem.W.Fast
namespace Lw
open PySem L2 PyProof.Rows
def top (i:Nat):Stmt:=PySem.Challenge.pw_lackstretch_k33_what_a_keeper_refuses.main.body.getD i (.Pass ⟨0,0,0,0⟩)
abbrev uJ:Stmt:=top 20
abbrev qW:Stmt:=top 21
abbrev jT:Stmt:=top 22
abbrev qZ:Stmt:=top 23
abbrev vq:Stmt:=top 24
abbrev wW:Stmt:=top 25
abbrev uP:Stmt:=top 26
abbrev vh:Stmt:=top 27
abbrev Yy:Stmt:=top 28
abbrev qe:Stmt:=top 29
abbrev xP:Stmt:=top 30
abbrev tY:Stmt:=top 31
abbrev qp:Stmt:=top 32
abbrev wA:Stmt:=top 33
abbrev wU:Stmt:=top 34
abbrev t7:Stmt:=top 35
abbrev vV:Stmt:=top 37
abbrev vD:Stmt:=top 38
abbrev yg:Stmt:=top 39
abbrev vZ:Stmt:=top 42
abbrev uh:Stmt:=top 43
abbrev uU:Stmt:=top 44
abbrev uH:Stmt:=inClass (top 45) 0
abbrev vp:Stmt:=inClass (top 45) 1
abbrev xg:Stmt:=inClass (top 45) 2
abbrev wk:Stmt:=inClass (top 45) 3
abbrev xY:Stmt:=inClass (top 45) 4
abbrev YD:Stmt:=inClass (top 45) 5
abbrev Wa:Stmt:=inClass (top 45) 6
abbrev Xv:Stmt:=inClass (top 45) 7
abbrev YB:Stmt:=inClass (top 45) 8
abbrev Yr:Stmt:=top 47
abbrev vW:Stmt:=inClass (top 49) 0
abbrev uL:Stmt:=inClass (top 49) 1
abbrev tE:Stmt:=inClass (top 49) 2
abbrev xO:Stmt:=inClass (top 49) 3
abbrev uK:Stmt:=inClass (top 49) 4
abbrev uN:Stmt:=inClass (top 49) 5
abbrev xQ:Stmt:=inClass (top 49) 6
abbrev qX:Stmt:=top 51
abbrev qd:Stmt:=top 52
abbrev yD:Stmt:=top 53
abbrev yp:Stmt:=top 54
abbrev uI:Stmt:=top 55
abbrev uY:Stmt:=top 56
abbrev jc:Stmt:=top 57
abbrev uR:Stmt:=top 58
abbrev vO:Stmt:=top 59
abbrev wQ:Stmt:=top 60
abbrev vQ:Stmt:=top 61
abbrev uQ:Stmt:=top 62
abbrev wH:Stmt:=top 63
abbrev yP:Stmt:=top 64
abbrev qm:Stmt:=top 65
abbrev VM:Stmt:=top 66
def Wu:PyData->Bool
 | .int _=>true
 | _=>false
def t8:PyData->Int
 | .int i=>i
 | _=>0
def ux:PyData->Bool
 | .int i=>decide (2<=i/\i<=16)
 | _=>false
def Va (b:Int):PyData->Bool
 | .int i=>decide (0<=i/\i<b)
 | _=>false
def V0 (b:Int):PyData->Bool
 | .list xs=>xs.all (Va b)
 | _=>false
def QR:PyData->List PyData
 | .list xs=>xs
 | _=>[]
def yE (d:PyData):List Int:=(QR d).map t8
def zT (b:Int) (d:PyData):Bool:=V0 b d && decide (1<=(QR d).length/\(QR d).length<=4)
def vA (ls:ZA):Bool:=(List.range (ls.length-1)).all λk=>HT.lexLt (ls.getD k []) (ls.getD (k+1) [])
def Jo (b:Int):PyData->Bool
 | .list xs=>decide (xs.length<=4) && (xs.all (zT b) && vA (xs.map yE))
 | _=>false
def qO:PyData->Bool
 | .tuple [d,l]=>ux d && Jo (t8 d) l
 | _=>false
theorem zcv (d:PyData):Wu d=(isT "int" d && !isT "bool" d):=by cases d<;>rfl
theorem Xd {d:PyData} (h:Wu d=true):d=.int (t8 d):=by cases d<;>first | rfl | cases h
section
variable {P:Program} {w:World} {K:W.Frag} {mg:Str->Option Value} {base:Heap}
def uV:Sp:=λvs H Q _=>∃ (v:V) (d:PyData),vs=[v]/\ThAt H d v/\Q (.bl (Wu d)) H
theorem zaN:zF ["thing"] ["thing"] (zu uJ):={}
theorem je {f:Addr} {fd:FuncData} (D:Df K mg "is_whole" uJ Aa f fd) (T:Blt mg):FnOk P w K mg base CX0 1 f fd Aa uV:=by
 refine D.fn.ok zaN (λvs H Q E h=>?_) (λcdv A outer s H vs Q E hr h=>?_)
 ·obtain⟨v,d,rfl,_⟩:=h;rfl
 ·obtain⟨v,d,rfl,hd,q⟩:=h
  refine⟨_,(zy (zM (Zk (zB (zaK K) (by rfl) T.n_isinstance boot_isinstance (zf (pv 0) (zf (Yl (v:=.ty "int") rfl T.n_int boot_int rfl) zg))) (ZK (zcP (zB (zaK K) (by rfl) T.n_isinstance boot_isinstance (zf (pv 0) (zf (Yl (v:=.ty "bool") rfl T.n_bool boot_bool rfl) zg)))))))),?_⟩
  rw [zcv] at q
  refine⟨_,rfl,_,_,_,_,rfl,hd.ty,zeK d,_,rfl,?_⟩
  cases h1:isT "int" d with
  | false=>rw [h1] at q;exact xJ q
  | true =>
   rw [h1,Bool.true_and] at q
   exact yV ⟨_,rfl,_,_,_,_,rfl,hd.ty,zc4 d,_,rfl,q⟩
def ZL:Sp:=λvs H Q _=>∃ (v:V) (d:PyData),vs=[v]/\ThAt H d v/\Q (.bl (ux d)) H
theorem zaZ:zF ["thing"] ["thing"] (zu jT):={}
theorem zbg {f f1:Addr} {fd fd1:FuncData} {t1 t2:Tok} (D:Df K mg "is_base" jT Aa f fd) (yL:Df K mg "is_whole" uJ Aa f1 fd1) (T:Blt mg) (Zj:mg "LEAST_BASE" = some (.int 2 t1)) (tO:mg "GREATEST_BASE" = some (.int 16 t2)) :
  FnOk P w K mg base CX0 2 f fd Aa ZL:=by
 have qu:FnOk P w K mg base CX0 1 f1 fd1 Aa uV:=je yL T
 refine D.fn.ok zaZ (λvs H Q E h=>?_) (λcdv A outer s H vs Q E hr h=>?_)
 ·obtain⟨v,d,rfl,_⟩:=h;rfl
 ·obtain⟨v,d,rfl,hd,q⟩:=h
  refine⟨_,(zy (zM (Zk (zU yL qu (hr.mono (by decide)) (zf (pv 0) zg)) (ZK (Ua Qy Qy (yS (v:=.int 2) rfl Zj ⟨_,rfl⟩) (pv 0) (yS (v:=.int 16) rfl tO ⟨_,rfl⟩)))))),?_⟩
  refine⟨_,rfl,v,d,rfl,hd,_,rfl,?_⟩
  cases hw:Wu d with
  | false =>
   have:ux d=false:=by cases d<;>first | rfl | cases hw
   rw [this] at q
   exact xJ q
  | true =>
   have e:=Xd hw
   generalize t8 d=i at e
   subst e
   rw [ThAt] at hd
   subst hd
   refine yV ⟨_,rfl,_,_,rfl,rfl,_,rfl,?_⟩
   replace q:Q (.bl (decide (2<=i/\i<=16))) H:=q
   refine zb8 (λh1=>?_) (λh1=>?_)
   ·have h1':(2:Int)<=i:=of_decide_eq_true h1
    refine⟨_,_,rfl,rfl,?_⟩
    rw [show decide (2<=i/\i<=16)=decide (i<=16) by simp [h1']] at q
    exact q
   ·have h1':¬ (2:Int)<=i:=λz=>h1 (decide_eq_true z)
    rw [show decide (2<=i/\i<=16)=false by simp [h1']] at q
    exact q
def Zc:Sp:=λvs H Q _=>∃ (b:Int) (v:V) (d:PyData),vs=[.int b,v]/\ThAt H d v/\Q (.bl (Va b d)) H
theorem JD:zF ["base","thing"] ["base","thing"] (zu qZ):={}
theorem Jc {f f1:Addr} {fd fd1:FuncData} (D:Df K mg "is_figure" qZ Ab f fd) (yL:Df K mg "is_whole" uJ Aa f1 fd1) (T:Blt mg):FnOk P w K mg base CX0 2 f fd Ab Zc:=by
 have qu:FnOk P w K mg base CX0 1 f1 fd1 Aa uV:=je yL T
 refine D.fn.ok JD (λvs H Q E h=>?_) (λcdv A outer s H vs Q E hr h=>?_)
 ·obtain⟨b,v,d,rfl,_⟩:=h;rfl
 ·obtain⟨b,v,d,rfl,hd,q⟩:=h
  refine⟨_,(zy (zM (Zk (zU yL qu (hr.mono (by decide)) (zf (pv 1) zg)) (ZK (Ua Qy zeY zr (pv 1) (pv 0)))))),?_⟩
  refine⟨_,rfl,v,d,rfl,hd,_,rfl,?_⟩
  cases hw:Wu d with
  | false =>
   have:Va b d=false:=by cases d<;>first | rfl | cases hw
   rw [this] at q
   exact xJ q
  | true =>
   have e:=Xd hw
   generalize t8 d=i at e
   subst e
   rw [ThAt] at hd
   subst hd
   refine yV ⟨_,rfl,_,_,rfl,rfl,_,rfl,?_⟩
   replace q:Q (.bl (decide (0<=i/\i<b))) H:=q
   refine zb8 (λh1=>?_) (λh1=>?_)
   ·have h1':(0:Int)<=i:=of_decide_eq_true h1
    refine⟨_,rfl,_,_,rfl,rfl,?_⟩
    rw [show decide (0<=i/\i<b)=decide (i<b) by simp [h1']] at q
    exact q
   ·have h1':¬ (0:Int)<=i:=λz=>h1 (decide_eq_true z)
    rw [show decide (0<=i/\i<b)=false by simp [h1']] at q
    exact q
end
mutual
def uv:PyData->Nat
 | .list xs=>max xs.length (Z4 xs)
 | .tuple xs=>max xs.length (Z4 xs)
 | _=>0
def Z4:List PyData->Nat
 | []=>0
 | d :: ds=>max (uv d) (Z4 ds)
end
theorem QD {d:PyData}:∀ {ds:List PyData},d∈ds->uv d<=Z4 ds
 | e :: ds,h=>by
  rw [Z4]
  rcases List.mem_cons.mp h with rfl | h
  ·omega
  ·have:=QD h;omega
theorem Qw {H:Hp} {b:Int}:∀ {xs:List PyData} {ys:List V},ThsAt H xs ys->xs.all (Va b)=true->ys=(xs.map t8).map V.int
 | [],ys,h,_=>by rw [ThsAt] at h;rw [h];rfl
 | d :: ds,ys,h,q=>by
  rw [ThsAt] at h
  obtain⟨y,zs,h1,h2,h3⟩:=h
  rw [List.all_cons,Bool.and_eq_true] at q
  have e:d=.int (t8 d):=by cases d<;>first | rfl | cases q.1
  rw [e,ThAt] at h2
  rw [h1,h2,Qw h3 q.2]
  rfl
theorem ThAt.figs {H:Hp} {b:Int} {d:PyData} {v:V} (h:ThAt H d v) (q:V0 b d=true):∃ a,v=.ref a/\H a=some (.lst ((yE d).map V.int)):=by
 cases d with
 | list xs =>
  rw [ThAt] at h
  obtain⟨a,ys,h1,h2,h3⟩:=h
  exact⟨a,h1,by rw [h2,Qw h3 q];rfl⟩
 | _=>cases q
theorem zav {d:PyData} (h:isT "list" d=true):∃ xs,d=.list xs:=by
 cases d<;>first | exact⟨_,rfl⟩ | cases h
theorem zco {d:PyData} (h:isT "tuple" d=true):∃ xs,d=.tuple xs:=by
 cases d<;>first | exact⟨_,rfl⟩ | cases h
theorem WL {α:Type} {p:α->Bool} {l:List α}:(l.map p).all id=l.all p:=by rw [List.all_map];rfl
section
variable {P:Program} {w:World} {K:W.Frag} {mg:Str->Option Value} {base:Heap}
def qG:Sp:=λvs H Q _=>∃ (b:Int) (v:V) (d:PyData),vs=[.int b,v]/\ThAt H d v/\uv d<=100000/\∀ H',Same H H'->Q (.bl (V0 b d)) H'
theorem Uz:zF ["base","thing"] ["base","thing"] (zu vq):={}
theorem Uc {f f1:Addr} {fd fd1:FuncData} (D:Df K mg "are_figures" vq Ab f fd) (j6:Df K mg "is_figure" qZ Ab f1 fd1) (Y0:FnOk P w K mg base CX0 2 f1 fd1 Ab Zc) (T:Blt mg) :
  FnOk P w K mg base CX0 3 f fd Ab qG:=by
 refine D.fn.ok Uz (λvs H Q E h=>?_) (λcdv A outer s H vs Q E hr h=>?_)
 ·obtain⟨b,v,d,rfl,_⟩:=h;rfl
 ·obtain⟨b,v,d,rfl,hd,hs,kk⟩:=h
  refine⟨_,(zy (zM (Zk (zB (zaK K) (by rfl) T.n_isinstance boot_isinstance (zf (pv 1) (zf (Yl (v:=.ty "list") rfl T.n_list boot_list rfl) zg))) (ZK (zB (k_all K rfl) (by rfl) T.n_all boot_all (zf (yU (show CScope (zu vq) _ "each" ["base","thing"] ["base"] [0] from {}) rfl (Yz K (pv 1)) (λ_ _ _ _=>xW) (λ_ _ _ _=>(zU j6 Y0 (hr.mono (by decide)) (zf (pv 1) (zf (pv 0) zg))))) zg)))))),?_⟩
  refine⟨_,rfl,_,_,_,_,rfl,hd.ty,zap d,_,rfl,?_⟩
  cases hl:isT "list" d with
  | false =>
   have q:=kk H (Same.refl _)
   rw [show V0 b d=false by cases d<;>first | rfl | cases hl] at q
   exact xJ q
  | true =>
   obtain⟨xs,rfl⟩:=zav hl
   rw [ThAt] at hd
   obtain⟨a,ys,rfl,ha,hx⟩:=hd
   rw [uv] at hs
   refine yV ⟨_,rfl,a,rfl,⟨_,SqL.of ha⟩,yN (K:=K) (a:=a) (xs:=ys) (λi us H4=>us=((xs.take i).map (Va b)).map V.bl/\H4=H) ⟨by simp,rfl⟩ (λi us H4 _ ⟨_,e⟩=>by rw [e];exact SqL.of ha) ?_ ?_⟩
   ·rintro j x us H4 hj ⟨rfl,rfl⟩
    obtain⟨d,hdj,hd⟩:=hx.get hj
    refine⟨?_,?_⟩
    ·rw [List.length_map,List.length_map,List.length_take]
     exact Nat.lt_of_le_of_lt (show min j xs.length<=100000 by omega) (by decide)
    unfold Y5
    dsimp only
    rw [if_pos rfl]
    refine⟨_,rfl,_,rfl,b,x,d,rfl,hd,?_,rfl⟩
    rw [List.take_succ,hdj];simp
   ·rintro us H4 ⟨rfl,rfl⟩ Dd hD
    refine⟨Dd,_,rfl,SqL.of zj,?_⟩
    rw [hx.len,List.take_length,WL]
    exact kk _ (zm hD)
def vm:Sp:=λvs H Q _=>∃ (b:Int) (v:V) (d:PyData),vs=[.int b,v]/\ThAt H d v/\uv d<=100000/\∀ H',Same H H'->Q (.bl (zT b d)) H'
theorem Qi:zF ["base","thing"] ["base","thing"] (zu wW):={}
theorem Qo {f f1:Addr} {fd fd1:FuncData} {t1:Tok} (D:Df K mg "is_stretch" wW Ab f fd) (tX:Df K mg "are_figures" vq Ab f1 fd1) (j5:FnOk P w K mg base CX0 3 f1 fd1 Ab qG) (uo:mg "LONGEST_STRETCH" = some (.int 4 t1)) (T:Blt mg) :
  FnOk P w K mg base CX0 4 f fd Ab vm:=by
 refine D.fn.ok Qi (λvs H Q E h=>?_) (λcdv A outer s H vs Q E hr h=>?_)
 ·obtain⟨b,v,d,rfl,_⟩:=h;rfl
 ·obtain⟨b,v,d,rfl,hd,hs,kk⟩:=h
  refine⟨_,(zy (zM (Zk (zU tX j5 (hr.mono (by decide)) (zf (pv 0) (zf (pv 1) zg))) (ZK (Ua Qy Qy zr (zB (xT K) (by rfl) T.n_len PySem.boot_len (zf (pv 1) zg)) (yS (v:=.int 4) rfl uo ⟨_,rfl⟩)))))),?_⟩
  refine⟨_,rfl,_,rfl,b,v,d,rfl,hd,hs,λH1 m1=>⟨_,rfl,?_⟩⟩
  have q:=kk H1 m1
  unfold zT at q
  cases hf:V0 b d with
  | false=>rw [hf] at q;exact xJ q
  | true =>
   rw [hf,Bool.true_and] at q
   obtain⟨a,rfl,ha⟩:=ThAt.figs hd hf
   refine yV ⟨_,rfl,a,_,rfl,.inl (SqL.of (m1 _ _ ha)),_,_,rfl,rfl,_,rfl,?_⟩
   have el:(yE d).length=(QR d).length:=List.length_map _
   rw [List.length_map,el]
   generalize (QR d).length=n at q
   by_cases h1:1<=n
   ·rw [decide_eq_true (show (1:Int)<=(n:Int) by omega)]
    refine yV ⟨_,_,rfl,rfl,?_⟩
    rw [show decide (1<=n/\n<=4)=decide ((n:Int)<=4) from decide_eq_decide.mpr ⟨λz=>by omega,λz=>⟨h1,by omega⟩⟩] at q
    exact q
   ·rw [decide_eq_false (show ¬ (1:Int)<=(n:Int) by omega)]
    rw [decide_eq_false (show ¬ (1<=n/\n<=4) from λz=>h1 z.1)] at q
    exact xJ q
def ZJ:Sp:=λvs H Q _=>∃ (bl:Addr) (zs:ZB),vs=[.ref bl]/\H bl=some (.lst (zs.map λz=>V.ref z.1))/\(∀ z∈zs,H z.1=some (.lst (z.2.map V.int)))/\zs.length<=4/\∀ H',Same H H'->Q (.bl (vA (zs.map (·.2)))) H'
theorem JR:zF ["stretches"] ["stretches"] (zu uP):={}
theorem XH {f:Addr} {fd:FuncData} (D:Df K mg "is_rising" uP Aq f fd) (T:Blt mg):FnOk P w K mg base CX0 1 f fd Aq ZJ:=by
 refine D.fn.ok JR (λvs H Q E h=>?_) (λcdv A outer s H vs Q E hr h=>?_)
 ·obtain⟨bl,zs,rfl,_⟩:=h;rfl
 ·obtain⟨bl,zs,rfl,hb,hz,h4,kk⟩:=h
  have HU:=Wk hr
  refine⟨_,(zy (zM (zB (k_all K rfl) (by rfl) T.n_all boot_all (zf (yU (show CScope (zu uP) _ "k" ["stretches"] ["stretches"] [0] from {}) rfl (wC rfl T.n_range (zf (zJ Zz (zB (xT K) (by rfl) T.n_len PySem.boot_len (zf (pv 0) zg)) zr) zg)) (λ_ _ _ _=>xW) (λ_ _ _ _=>(Yt (zf3 K HU) (yd (yF K) (pv 1) (pv 0) (λ_ _=>rfl)) (yd (yF K) (pv 1) (zJ vU (pv 0) zr) (λ_ _=>rfl)) (ye _)))) zg)))),?_⟩
  refine⟨_,rfl,bl,_,rfl,.inl (SqL.of hb),_,_,rfl,rfl,_,rfl,?_⟩
  rw [List.length_map]
  refine⟨by omega,by omega,qw (lo:=0) (n:=((zs.length:Int)-1).toNat) (λi ys H4=>ys=((List.range i).map λk=>HT.lexLt ((zs.map (·.2)).getD k []) ((zs.map (·.2)).getD (k+1) [])).map V.bl/\H4=H) ⟨by simp,rfl⟩ ?_ ?_⟩
  ·rintro i ys H4 hi ⟨rfl,rfl⟩
   refine⟨by rw [List.length_map,List.length_map,List.length_range];exact Nat.lt_of_lt_of_le (show i<5 by omega) (by decide),?_⟩
   unfold Y5
   dsimp only
   rw [if_pos rfl]
   have hi0:i<zs.length:=by omega
   have hi1:i+1<zs.length:=by omega
   have g0:atI (zs.map λz=>V.ref z.1) (0+(i:Int))=some (.ref (zs[i]).1):=by rw [Int.zero_add];exact vB (by rw [List.getElem?_map,List.getElem?_eq_getElem hi0];rfl)
   have g1:atI (zs.map λz=>V.ref z.1) (0+(i:Int)+1)=some (.ref (zs[i+1]).1):=by rw [Int.zero_add];exact vB (j:=i+1) (by rw [List.getElem?_map,List.getElem?_eq_getElem hi1];rfl)
   refine⟨_,rfl,_,rfl,bl,_,_,_,rfl,rfl,SqL.of hb,g0,?_⟩
   refine⟨_,rfl,_,rfl,_,_,rfl,rfl,bl,_,_,_,rfl,rfl,SqL.of hb,g1,?_⟩
   refine⟨_,_,_,_,rfl,rfl,SqL.of (hz _ (List.getElem_mem hi0)),SqL.of (hz _ (List.getElem_mem hi1)),?_,rfl⟩
   rw [List.range_succ]
   have e0:(zs.map (·.2)).getD i []=(zs[i]).2:=by simp [List.getD,List.getElem?_map,List.getElem?_eq_getElem hi0]
   have e1:(zs.map (·.2)).getD (i+1) []=(zs[i+1]).2:=by simp [List.getD,List.getElem?_map,List.getElem?_eq_getElem hi1]
   rw [List.map_append,List.map_append,List.map_singleton,List.map_singleton,e0,e1]
  ·rintro ys H4 ⟨rfl,rfl⟩ Dd hD
   refine⟨Dd,_,rfl,SqL.of zj,?_⟩
   rw [WL]
   have q:=kk _ (zm hD (o:=.lst (((List.range ((zs.length:Int)-1).toNat).map λk=>HT.lexLt ((zs.map (·.2)).getD k []) ((zs.map (·.2)).getD (k+1) [])).map V.bl)))
   unfold vA at q
   rw [List.length_map,show zs.length-1=((zs.length:Int)-1).toNat by omega] at q
   exact q
end
end Lw
namespace Lw
open PySem L2 PyProof.Rows
theorem Wg {H:Hp} {b:Int}:∀ {xs:List PyData} {ys:List V},ThsAt H xs ys->xs.all (zT b)=true->∃ zs:ZB,ys=zs.map (λz=>V.ref z.1)/\zs.map (·.2)=xs.map yE/\∀ z∈zs,H z.1=some (.lst (z.2.map V.int))
 | [],ys,h,_=>by rw [ThsAt] at h;exact⟨[],h,rfl,by simp⟩
 | d :: ds,ys,h,q=>by
  rw [ThsAt] at h
  obtain⟨y,us,h1,h2,h3⟩:=h
  rw [List.all_cons,Bool.and_eq_true] at q
  obtain⟨zs,e1,e2,e3⟩:=Wg h3 q.2
  have qf:V0 b d=true:=by have:=q.1;unfold zT at this;rw [Bool.and_eq_true] at this;exact this.1
  obtain⟨a,ea,ha⟩:=ThAt.figs h2 qf
  refine⟨(a,yE d) :: zs,by rw [h1,ea,e1];rfl,by rw [List.map_cons,List.map_cons,e2],λz hz=>?_⟩
  rcases List.mem_cons.mp hz with rfl | hz
  ·exact ha
  ·exact e3 z hz
section
variable {P:Program} {w:World} {K:W.Frag} {mg:Str->Option Value} {base:Heap}
def qC:Sp:=λvs H Q _=>∃ (b:Int) (v:V) (d:PyData),vs=[.int b,v]/\ThAt H d v/\uv d<=100000/\∀ H',Same H H'->Q (.bl (Jo b d)) H'
theorem U3:zF ["base","thing"] ["base","thing"] (zu vh):={}
theorem VP {f f1 f2:Addr} {fd fd1 fd2:FuncData} {t1:Tok} (D:Df K mg "is_bad_list" vh Ab f fd) (yK:Df K mg "is_stretch" wW Ab f1 fd1) (xu:FnOk P w K mg base CX0 4 f1 fd1 Ab vm) (qy:Df K mg "is_rising" uP Aq f2 fd2) (yM:mg "MOST_STRETCHES" = some (.int 4 t1)) (T:Blt mg) :
  FnOk P w K mg base CX0 5 f fd Ab qC:=by
 have Uy:FnOk P w K mg base CX0 1 f2 fd2 Aq ZJ:=XH qy T
 refine D.fn.ok U3 (λvs H Q E h=>?_) (λcdv A outer s H vs Q E hr h=>?_)
 ·obtain⟨b,v,d,rfl,_⟩:=h;rfl
 ·obtain⟨b,v,d,rfl,hd,hs,kk⟩:=h
  refine⟨_,(zq (xF (PW.pt (Xo (ZD (vL (zB (zaK K) (by rfl) T.n_isinstance boot_isinstance (zf (pv 1) (zf (Yl (v:=.ty "list") rfl T.n_list boot_list rfl) zg))))) (jW (zZ zdH (zB (xT K) (by rfl) T.n_len PySem.boot_len (zf (pv 1) zg)) (yS (v:=.int 4) rfl yM ⟨_,rfl⟩) (ye _)))))
    (zy (zM wZ))
    yh)
   (zy (zM (Zk (zB (k_all K rfl) (by rfl) T.n_all boot_all (zf (yU (show CScope (zu vh) _ "each" ["base","thing"] ["base"] [0] from {}) rfl (Yz K (pv 1)) (λ_ _ _ _=>xW) (λ_ _ _ _=>(zU yK xu (hr.mono (by decide)) (zf (pv 1) (zf (pv 0) zg))))) zg)) (ZK (zU qy Uy (hr.mono (by decide)) (zf (pv 1) zg))))))),?_⟩
  refine⟨_,rfl,_,_,_,_,rfl,hd.ty,zap d,_,rfl,?_⟩
  cases hl:isT "list" d with
  | false =>
   have q:=kk H (Same.refl _)
   rw [show Jo b d=false by cases d<;>first | rfl | cases hl] at q
   exact yV (yV q)
  | true =>
   obtain⟨xs,rfl⟩:=zav hl
   rw [ThAt] at hd
   obtain⟨a,ys,rfl,ha,hx⟩:=hd
   rw [uv] at hs
   refine xJ ⟨_,rfl,a,_,rfl,.inl (SqL.of ha),_,_,rfl,rfl,_,rfl,?_⟩
   rw [hx.len]
   have kk':∀ H',Same H H'->Q (.bl (decide (xs.length<=4) && (xs.all (zT b) && vA (xs.map yE)))) H':=kk
   by_cases h4:xs.length<=4
   case neg =>
    rw [decide_eq_true (show (4:Int)<(xs.length:Int) by omega)]
    have q:=kk' H (Same.refl _)
    rw [decide_eq_false h4,Bool.false_and] at q
    exact yV q
   rw [decide_eq_false (show ¬ (4:Int)<(xs.length:Int) by omega)]
   rw [decide_eq_true h4,Bool.true_and] at kk'
   refine xJ ⟨_,rfl,a,rfl,⟨_,SqL.of ha⟩,yN (K:=K) (a:=a) (xs:=ys) (λi us H4=>us=((xs.take i).map (zT b)).map V.bl/\Same H H4) ⟨by simp,Same.refl _⟩ (λi us H4 _ ⟨_,e⟩=>SqL.of (e _ _ ha)) ?_ ?_⟩
   ·rintro j x us H4 hj ⟨rfl,m4⟩
    obtain⟨d,hdj,hd⟩:=hx.get hj
    refine⟨?_,?_⟩
    ·rw [List.length_map,List.length_map,List.length_take]
     exact Nat.lt_of_le_of_lt (show min j xs.length<=4 by omega) (by decide)
    unfold Y5
    dsimp only
    rw [if_pos rfl]
    have:=QD (List.mem_of_getElem? hdj)
    refine⟨_,rfl,_,rfl,b,x,d,rfl,hd.same m4,by omega,λH5 m5=>⟨?_,m4.trans m5⟩⟩
    rw [List.take_succ,hdj];simp
   ·rintro us H4 ⟨rfl,m4⟩ Dd hD
    refine⟨Dd,_,rfl,SqL.of zj,?_⟩
    have m5:=m4.trans (zm hD (o:=.lst (((xs.take ys.length).map (zT b)).map V.bl)))
    rw [hx.len,List.take_length,WL] at *
    refine⟨_,rfl,?_⟩
    cases hst:xs.all (zT b) with
    | false =>
     have q:=kk' _ m5
     rw [hst,Bool.false_and] at q
     exact xJ q
    | true =>
     rw [hst,Bool.true_and] at kk'
     obtain⟨zs,e1,e2,e3⟩:=Wg hx hst
     refine yV ⟨_,rfl,a,zs,rfl,by rw [<- e1];exact m5 _ _ ha,λz hz=>m5 _ _ (e3 z hz),?_,λH6 m6=>?_⟩
     ·have:=congrArg List.length e2;rw [List.length_map,List.length_map] at this;omega
     ·rw [e2];exact kk' H6 (m5.trans m6)
def Xb:Sp:=λvs H Q _=>∃ (v:V) (d:PyData),vs=[v]/\ThAt H d v/\uv d<=100000/\∀ H',Same H H'->Q (.bl (qO d)) H'
theorem zbw:zF ["thing"] ["thing"] (zu Yy):={}
theorem zbh {f f1 f2:Addr} {fd fd1 fd2:FuncData} (D:Df K mg "is_rule" Yy Aa f fd) (qP:Df K mg "is_base" jT Aa f1 fd1) (jN:FnOk P w K mg base CX0 2 f1 fd1 Aa ZL) (qb:Df K mg "is_bad_list" vh Ab f2 fd2) (Zb:FnOk P w K mg base CX0 5 f2 fd2 Ab qC) (T:Blt mg) :
  FnOk P w K mg base CX0 6 f fd Aa Xb:=by
 refine D.fn.ok zbw (λvs H Q E h=>?_) (λcdv A outer s H vs Q E hr h=>?_)
 ·obtain⟨v,d,rfl,_⟩:=h;rfl
 ·obtain⟨v,d,rfl,hd,hs,kk⟩:=h
  refine⟨_,(zq (xF (PW.pt (Xo (ZD (vL (zB (zaK K) (by rfl) T.n_isinstance boot_isinstance (zf (pv 0) (zf (Yl (v:=.ty "tuple") rfl T.n_tuple boot_tuple rfl) zg))))) (jW (zZ V5 (zB (xT K) (by rfl) T.n_len PySem.boot_len (zf (pv 0) zg)) zr (ye _)))))
    (zy (zM wZ))
    yh)
   (zy (zM (Zk (zU qP jN (hr.mono (by decide)) (zf (yd (u9 K) (pv 0) zr (λ_ _=>rfl)) zg)) (ZK (zU qb Zb (hr.mono (by decide)) (zf (yd (u9 K) (pv 0) zr (λ_ _=>rfl)) (zf (yd (u9 K) (pv 0) zr (λ_ _=>rfl)) zg)))))))),?_⟩
  refine⟨_,rfl,_,_,_,_,rfl,hd.ty,kit_tuple d,_,rfl,?_⟩
  cases hl:isT "tuple" d with
  | false =>
   have q:=kk H (Same.refl _)
   rw [show qO d=false by cases d<;>first | rfl | cases hl] at q
   exact yV (yV q)
  | true =>
   obtain⟨xs,rfl⟩:=zco hl
   rw [ThAt] at hd
   obtain⟨a,ys,rfl,ha,hx⟩:=hd
   rw [uv] at hs
   refine xJ ⟨_,rfl,a,_,rfl,.inr (SqT.of ha),rfl,_,rfl,?_⟩
   rw [hx.len]
   match xs,hx,hs,kk with
   | [],hx,hs,kk=>exact yV (kk H (Same.refl _))
   | [_],hx,hs,kk=>exact yV (kk H (Same.refl _))
   | _ :: _ :: _ :: t,hx,hs,kk =>
    have q:Q (.bl false) H:=kk H (Same.refl _)
    rename_i d1 d2 d3
    rw [show (!decide (V.int ((d1 :: d2 :: d3 :: t).length:Nat)=V.int 2))=true by
     rw [decide_eq_false (λz=>by injection z with z;rw [List.length_cons,List.length_cons,List.length_cons] at z;omega)];rfl]
    exact yV q
   | [d,e],hx,hs,kk =>
    rw [ThsAt] at hx
    obtain⟨y,us,rfl,hd,hx⟩:=hx
    rw [ThsAt] at hx
    obtain⟨z,ws,rfl,he,hx⟩:=hx
    rw [ThsAt] at hx
    subst hx
    rw [Z4,Z4,Z4] at hs
    refine xJ ?_
    refine⟨_,rfl,a,_,_,y,rfl,rfl,SqT.of ha,rfl,y,d,rfl,hd,_,rfl,?_⟩
    have kk':∀ H',Same H H'->Q (.bl (ux d && Jo (t8 d) e)) H':=kk
    cases hb:ux d with
    | false =>
     have q:=kk' H (Same.refl _)
     rw [hb,Bool.false_and] at q
     exact xJ q
    | true =>
     rw [hb,Bool.true_and] at kk'
     have ed:d=.int (t8 d):=by cases d<;>first | rfl | cases hb
     have ey:y=.int (t8 d):=by rw [ed,ThAt] at hd;exact hd
     subst ey
     exact yV ⟨_,rfl,a,_,_,V.int (t8 d),rfl,rfl,SqT.of ha,rfl,_,rfl,a,_,_,z,rfl,rfl,SqT.of ha,rfl,t8 d,z,e,rfl,he,by omega,kk'⟩
end
structure RuleAt (H:Hp) (r:Addr) (b:Nat) (bl:Addr) (zs:ZB):Prop where
 tu:H r=some (.tup [.int b,.ref bl])
 li:H bl=some (.lst (zs.map λz=>V.ref z.1))
 st:∀ z∈zs,H z.1=some (.lst (z.2.map V.int))
theorem RuleAt.same {H H':Hp} {r bl:Addr} {b:Nat} {zs:ZB} (R:RuleAt H r b bl zs) (s:Same H H'):RuleAt H' r b bl zs:=⟨s _ _ R.tu,s _ _ R.li,λz hz=>s _ _ (R.st z hz)⟩
structure YX (b:Nat) (l:List Int):Prop where
 ne:l≠[]
 len:l.length<=4
 fig:∀ f∈l,0<=f/\f<b
structure GoodRule (b:Nat) (ls:ZA):Prop where
 b2:2<=b
 b16:b<=16
 len:ls.length<=4
 st:∀ l∈ls,YX b l
 up:ls.Pairwise λx y=>HT.lexLt x y=true
theorem Ww (xs:List V) (m:Nat):qH xs none (some (m:Int))=xs.take m:=by
 unfold qH
 rw [HT.Wf,HT.V6,List.drop_zero,Nat.sub_zero]
 by_cases h:m<=xs.length
 ·rw [Nat.min_eq_left h]
 ·rw [Nat.min_eq_right (by omega),List.take_of_length_le (Nat.le_refl _),List.take_of_length_le (by omega)]
theorem Ym (xs:List V) (m:Nat):qH xs (some (m:Int)) none=xs.drop m:=by
 unfold qH
 rw [HT.Wf,HT.V6]
 by_cases h:m<=xs.length
 ·rw [Nat.min_eq_left h,List.take_of_length_le (by rw [List.length_drop];omega)]
 ·rw [Nat.min_eq_right (by omega),List.drop_of_length_le (Nat.le_refl _),List.drop_of_length_le (by omega)];simp
theorem RuleAt.all {fp:List Addr} {r bl:Addr} {H:Hp} {b:Nat} {zs:ZB} (R:RuleAt (aw fp H) r b bl zs):RuleAt H r b bl zs:=R.same (zH fp H)
theorem Yn {ls:ZA} {x:List Int}:((ls.map yI).any λt=>teq t (yI x))=decide (x∈ls):=by
 rw [Bool.eq_iff_iff]
 simp only [List.any_eq_true,List.mem_map,decide_eq_true_eq]
 constructor
 ·rintro⟨t,⟨l,hl,rfl⟩,e⟩
  rw [qx] at e
  rw [<- of_decide_eq_true e];exact hl
 ·intro h
  exact⟨yI x,⟨x,h,rfl⟩,Z0 _⟩
theorem xU:∀ ls:ZA,xq (ls.map yI)<=1
 | []=>by simp [xq]
 | l :: ls=>by rw [List.map_cons,xq,qL];have:=xU ls;omega
theorem TrsAt.lists {K:W.Frag} {H:Hp}:∀ {zs:ZB},(∀ z∈zs,H z.1=some (.lst (z.2.map V.int)))->TrsAt K H ((zs.map (·.2)).map yI) (zs.map λz=>V.ref z.1)
 | [],_=>by rw [List.map_nil,List.map_nil,TrsAt];rfl
 | z :: zs,h=>by
  rw [List.map_cons,List.map_cons,TrsAt]
  exact⟨_,_,rfl,TrAt.ints (SqL.of (h z List.mem_cons_self)),TrsAt.lists λz hz=>h z (List.mem_cons_of_mem _ hz)⟩
section
variable {P:Program} {w:World} {K:W.Frag} {mg:Str->Option Value} {base:Heap}
theorem zdO (xs:List V) (k m:Nat):qH xs (some (k:Int)) (some (m:Int))=(xs.drop k).take (m-k):=by
 unfold qH
 rw [HT.Wf,HT.Wf]
 by_cases hk:k<=xs.length
 ·rw [Nat.min_eq_left hk]
  by_cases hm:m<=xs.length
  ·rw [Nat.min_eq_left hm]
  ·rw [Nat.min_eq_right (by omega),List.take_of_length_le (by rw [List.length_drop];omega),List.take_of_length_le (by rw [List.length_drop];omega)]
 ·rw [List.drop_of_length_le (show xs.length<=k by omega),Nat.min_eq_right (show xs.length<=k by omega),List.drop_of_length_le (Nat.le_refl _)]
  simp
def uG:Sp:=λvs H Q _=>∃ (sa fa:Addr) (st fs:List Int),vs=[.ref sa,.ref fa]/\H sa=some (.lst (st.map V.int))/\H fa=some (.lst (fs.map V.int))/\st≠[]/\st.length<=1000/\fs.length<=1000/\∀ H',Same H H'->Q (.bl (Um st fs)) H'
theorem jE:zF ["stretch","figures","size"] ["stretch","figures"] (zu wA):={}
theorem jL {f:Addr} {fd:FuncData} (D:Df K mg "stands_within" wA Aw f fd) (T:Blt mg):FnOk P w K mg base CX0 1 f fd Aw uG:=by
 refine D.fn.ok jE (λvs H Q E h=>?_) (λcdv A outer s H vs Q E hr h=>?_)
 ·obtain⟨sa,fa,st,fs,rfl,_⟩:=h;rfl
 ·obtain⟨sa,fa,st,fs,rfl,hs,hf,ne,hl1,hl2,kk⟩:=h
  have HU:=Wk hr
  refine⟨_,(zq (zG (i:=2) jE.nd rfl (Or.inr rfl) (zB (xT K) (by rfl) T.n_len PySem.boot_len (zf (pv 0) zg)))
   (zy (zM (zB (zdC K rfl) (by rfl) T.n_any boot_any (zf (yU (show CScope (zu wA) _ "k" ["stretch","figures","size"] ["stretch","figures","size"] [0,1,2] from {}) rfl (wC rfl T.n_range (zf (zJ vU (zJ Zz (zB (xT K) (by rfl) T.n_len PySem.boot_len (zf (pv 1) zg)) (pv 2)) zr) zg)) (λ_ _ _ _=>xW) (λ_ _ _ _=>(Yt (zdo K HU) (yt (uy K) (pv 2) (yJ (pv 0)) (yJ (zJ vU (pv 0) (pv 3)))) (pv 1) (ye _)))) zg))))),?_⟩
  refine⟨_,rfl,sa,_,rfl,.inl (SqL.of hs),?_⟩
  rw [List.length_map]
  refine⟨_,rfl,fa,_,rfl,.inl (SqL.of hf),_,rfl,_,_,rfl,rfl,_,_,rfl,rfl,_,rfl,?_⟩
  rw [List.length_map]
  refine⟨by omega,by omega,qw (lo:=0) (n:=((fs.length:Int)-st.length+1).toNat) (λi ys H4=>ys=((List.range i).map λk=>decide ((fs.drop k).take st.length=st)).map V.bl/\Same H H4) ⟨by simp,Same.refl _⟩ ?_ ?_⟩
  ·rintro i ys H4 hi ⟨rfl,s4⟩
   refine⟨by rw [List.length_map,List.length_map,List.length_range];exact Nat.lt_of_lt_of_le (show i<2000 by omega) (by decide),?_⟩
   unfold Y5
   dsimp only
   rw [if_pos rfl]
   refine⟨_,rfl,_,rfl,_,rfl,_,rfl,_,rfl,_,_,rfl,rfl,_,rfl,fa,_,rfl,SqL.of (s4 _ _ hf),λp hp=>?_⟩
   have e1:qH (fs.map V.int) (some (0+(i:Int))) (some (0+(i:Int)+(st.length:Int)))=((fs.drop i).take st.length).map V.int:=by
    have e:(0+(i:Int)+(st.length:Int))=((i+st.length:Nat):Int):=by omega
    rw [e,Int.zero_add,zdO,List.map_take,List.map_drop,Nat.add_sub_cancel_left]
   rw [e1]
   refine⟨_,rfl,yI ((fs.drop i).take st.length),yI st,TrAt.ints (a:=p) (SqL.of zj),TrAt.ints (a:=sa) (SqL.of (zm hp _ _ (s4 _ _ hs))),(by rw [qL];decide),?_,s4.trans (zm hp)⟩
   rw [List.range_succ,List.map_append,List.map_append]
   have e2:=qx ((fs.drop i).take st.length) st
   show _=_++[V.bl (decide ((fs.drop i).take st.length=st))]
   rw [<- e2];rfl
  ·rintro ys H4 ⟨rfl,s4⟩ Dd hD
   refine⟨Dd,_,rfl,SqL.of zj,?_⟩
   have q:=kk _ (s4.trans (zm hD (o:=.lst (((List.range ((fs.length:Int)-st.length+1).toNat).map λk=>decide ((fs.drop k).take st.length=st)).map V.bl))))
   rw [za1 ne] at q
   rw [List.any_map]
   exact q
def ud:Sp:=λvs H Q _=>∃ (bl fa:Addr) (zs:ZB) (fs:List Int),vs=[.ref bl,.ref fa]/\H bl=some (.lst (zs.map λz=>V.ref z.1))/\(∀ z∈zs,H z.1=some (.lst (z.2.map V.int)))/\H fa=some (.lst (fs.map V.int))/\zs.length<=100/\fs.length<=1000/\(∀ z∈zs,z.2≠[]/\z.2.length<=1000)/\∀ H',Same H H'->Q (.bl (lacks (zs.map (·.2)) fs)) H'
theorem JW:zF ["bad","figures"] ["bad","figures"] (zu wU):={}
theorem J0 {f f1:Addr} {fd fd1:FuncData} (D:Df K mg "lacks_all" wU Ac f fd) (wK:Df K mg "stands_within" wA Aw f1 fd1) (T:Blt mg):FnOk P w K mg base CX0 2 f fd Ac ud:=by
 have Z1:FnOk P w K mg base CX0 1 f1 fd1 Aw uG:=jL wK T
 refine D.fn.ok JW (λvs H Q E h=>?_) (λcdv A outer s H vs Q E hr h=>?_)
 ·obtain⟨bl,fa,zs,fs,rfl,_⟩:=h;rfl
 ·obtain⟨bl,fa,zs,fs,rfl,hb,hz,hf,hl1,hl2,ne,kk⟩:=h
  refine⟨_,(zy (zM (zcP (zB (zdC K rfl) (by rfl) T.n_any boot_any (zf (yU (show CScope (zu wU) _ "stretch" ["bad","figures"] ["figures"] [1] from {}) rfl (Yz K (pv 0)) (λ_ _ _ _=>xW) (λ_ _ _ _=>(zU wK Z1 (hr.mono (by decide)) (zf (pv 0) (zf (pv 1) zg))))) zg))))),?_⟩
  refine⟨_,rfl,bl,rfl,⟨_,SqL.of hb⟩,yN (K:=K) (a:=bl) (xs:=zs.map λz=>V.ref z.1) (λi ys H4=>ys=((zs.take i).map λz=>Um z.2 fs).map V.bl/\Same H H4) ⟨by simp,Same.refl _⟩ (λi ys H4 _ ⟨_,e⟩=>SqL.of (e _ _ hb)) ?_ ?_⟩
  ·rintro j x ys H4 hx ⟨rfl,s4⟩
   rw [List.getElem?_map] at hx
   obtain⟨z,hzj,e⟩:=Option.map_eq_some_iff.mp hx
   subst e
   have hzm:=List.mem_of_getElem? hzj
   refine⟨?_,?_⟩
   ·rw [List.length_map,List.length_map,List.length_take]
    exact Nat.lt_of_le_of_lt (Nat.le_trans (Nat.min_le_right _ _) hl1) (by decide)
   unfold Y5
   dsimp only
   rw [if_pos rfl]
   refine⟨_,rfl,_,rfl,z.1,fa,z.2,fs,rfl,s4 _ _ (hz z hzm),s4 _ _ hf,(ne z hzm).1,(ne z hzm).2,hl2,λH5 s5=>⟨?_,s4.trans s5⟩⟩
   rw [List.take_succ,hzj]
   simp
  ·rintro ys H4 ⟨rfl,s4⟩ Dd hD
   refine⟨Dd,_,rfl,SqL.of zj,_,rfl,?_⟩
   have q:=kk _ (s4.trans (zm hD (o:=.lst (((zs.take (zs.map λz=>V.ref z.1).length).map λz=>Um z.2 fs).map V.bl))))
   rw [List.length_map,List.take_length] at q ⊢
   unfold lacks at q
   rw [List.any_map] at q ⊢
   exact q
end
def Sto (H:Hp) (s:Addr):Prop:=∃ g x k:Int,H s=some (.lst [.int g,.int x,.int k])
theorem Sto.ne {H:Hp} {s p:Addr} (S:Sto H s) (h:H p=none):p≠s:=λz=>by
 obtain⟨g,x,k,e⟩:=S
 rw [z,e] at h;cases h
structure Stq (s:Addr) (H H':Hp):Prop where
 st:Sto H' s
 sm:∀ b o,b≠s->H b=some o->H' b=some o
theorem Stq.refl {s:Addr} {H:Hp} (S:Sto H s):Stq s H H:=⟨S,λ_ _ _ e=>e⟩
theorem Stq.trans {s:Addr} {H H1 H2:Hp} (a:Stq s H H1) (b:Stq s H1 H2):Stq s H H2:=⟨b.st,λc o h e=>b.sm c o h (a.sm c o h e)⟩
theorem Stq.same {s:Addr} {H H1 H2:Hp} (a:Stq s H H1) (m:Same H1 H2):Stq s H H2:=⟨by obtain⟨g,x,k,e⟩:=a.st;exact⟨g,x,k,m _ _ e⟩,λc o h e=>m c o (a.sm c o h e)⟩
theorem Stq.of {s:Addr} {H H':Hp} (S:Sto H s) (m:Same H H'):Stq s H H':=(Stq.refl S).same m
theorem Stq.free {s p:Addr} {H H':Hp} (a:Stq s H H') (h:H' p=none):H p=none:=by
 cases e:H p with
 | none=>rfl
 | some o =>
  have:=a.sm p o (a.st.ne h) e
  rw [h] at this;cases this
theorem Stq.new {s p:Addr} {H H':Hp} {o:HO} (a:Stq s H H') (h:H' p=none):Stq s H (upd H' p o):=a.same (zm h)
theorem Stq.put {s p:Addr} {H H':Hp} {o:HO} (a:Stq s H H') (hs:p≠s) (h:H p=none):Stq s H (upd H' p o):=⟨by
 obtain⟨g,x,k,e⟩:=a.st
 exact⟨g,x,k,by rw [zx (Ne.symm hs)];exact e⟩,λc u hc e=>by
  rw [zx (zz e h)];exact a.sm c u hc e⟩
section
variable {P:Program} {w:World} {K:W.Frag} {mg:Str->Option Value} {base:Heap}
def j7 (K:W.Frag):Sp:=λvs H Q _=>∃ (a:Addr) (ns:List Int) (k:Nat),vs=[.ref a,.int k]/\SqL K H a (ns.map V.int)/\ns.length<=63/\k<=1000/\∀ c:Int,Q (.int c) H
theorem Q8:zF ["script","k"] ["script","k"] (zu qX):={}
theorem XJ {f:Addr} {fd:FuncData} (D:Df K mg "_law_cell" qX Ar f fd) (T:Blt mg):FnOk P w K mg base CX0 1 f fd Ar (j7 K):=by
 refine D.fn.ok Q8 (λvs H Q E h=>?_) (λcdv A outer s H vs Q E hr h=>?_)
 ·obtain⟨a,ns,k,rfl,_⟩:=h;rfl
 ·obtain⟨a,ns,k,rfl,hS,hlen,hk,kk⟩:=h
  refine⟨_,(zq (xF (zZ zeY (pv 1) (zB (xT K) (by rfl) T.n_len PySem.boot_len (zf (pv 0) zg)) (ye _))
    (zy (zM (yd (yF K) (pv 0) (pv 1) (λ_ _=>rfl))))
    yh)
   (zy (zM (zJ vU (zJ vU (zJ Z5 (zJ Z5 zr (pv 1)) (pv 1)) (zJ Z5 zr (pv 1))) zr)))),?_⟩
  refine⟨_,rfl,_,rfl,a,_,rfl,.inl hS,_,_,rfl,rfl,_,rfl,?_⟩
  refine zb8 (λhlt=>?_) (λ_=>?_)
  ·have hlt':k<ns.length:=by
    have:=of_decide_eq_true hlt
    rw [List.length_map] at this
    omega
   refine⟨_,rfl,_,rfl,a,_,_,.int (ns[k]),rfl,rfl,hS,?_,kk _⟩
   exact vB (by rw [List.getElem?_map,List.getElem?_eq_getElem hlt'];rfl)
  ·refine⟨_,rfl,_,_,rfl,rfl,.inl ⟨by decide,by decide⟩,_,rfl,_,_,rfl,rfl,.inr ⟨by omega,by omega⟩,_,rfl,_,_,rfl,rfl,.inl ⟨by decide,by decide⟩,_,_,rfl,rfl,_,_,rfl,rfl,kk _⟩
def jB:Sp:=λvs H Q _=>∃ c:Int,vs=[.int c]/\∀ (s:Addr) (H':Hp),H s=none->Sto H' s->Same H H'->Q (.ref s) H'
theorem jl:zF ["cell","great"] ["cell"] (zu qd):={}
theorem YJ {f:Addr} {fd:FuncData} (D:Df K mg "_law_store" qd ["cell"] f fd) (T:Blt mg):FnOk P w K mg base CX0 1 f fd ["cell"] jB:=by
 refine D.fn.ok jl (λvs H Q E h=>?_) (λcdv A outer s H vs Q E hr h=>?_)
 ·obtain⟨c,rfl,_⟩:=h;rfl
 ·obtain⟨c,rfl,kk⟩:=h
  refine⟨_,(zq (zG (i:=1) jl.nd rfl (Or.inl rfl) zr)
   (zq (xF (zZ zeQ (pv 0) (zJ ZZ zr zr) (ye _))
    (zy (zG (i:=1) jl.nd rfl (Or.inl rfl) (pv 0)))
    yh)
   (zy (zM (zQ (zf (pv 1) (zf (zJ Z3 (pv 0) zr) (zf zr zg)))))))),?_⟩
  refine⟨_,rfl,_,_,rfl,rfl,⟨by decide,by decide,by decide⟩,_,_,rfl,rfl,_,rfl,?_⟩
  generalize decide ((10:Int)^(18:Int).toNat<=c)=bb
  cases bb with
  | true =>
   refine yV ?_
   refine⟨_,rfl,_,rfl,_,rfl,_,_,rfl,rfl,(by decide:(0:Int)<2147483629),(by decide:3<=sizeLine),λl hl=>?_⟩
   exact kk l _ hl ⟨_,_,_,zj⟩ (zm hl)
  | false =>
   refine xJ ?_
   refine⟨_,rfl,_,rfl,_,_,rfl,rfl,(by decide:(0:Int)<2147483629),(by decide:3<=sizeLine),λl hl=>?_⟩
   exact kk l _ hl ⟨_,_,_,zj⟩ (zm hl)
def yz:Sp:=λvs H Q _=>∃ (s:Addr) (m:Int),vs=[.ref s,.int m]/\Sto H s/\0<m/\m<2^200/\∀ (r:Nat) (H':Hp),(r:Int)<m->Stq s H H'->Q (.int r) H'
theorem um:zF ["store","many","told","one"] ["store","many"] (zu yD):={}
theorem xn {f:Addr} {fd:FuncData} (D:Df K mg "_law_take" yD Ad f fd) (T:Blt mg):FnOk P w K mg base CX0 1 f fd Ad yz:=by
 refine D.fn.ok um (λvs H Q E h=>?_) (λcdv A outer s H vs Q E hr h=>?_)
 ·obtain⟨s,m,rfl,_⟩:=h;rfl
 ·obtain⟨sa,m,rfl,S,hm0,hm1,kk⟩:=h
  obtain⟨g,x,k,hs⟩:=id S
  refine⟨_,(zq (xF (zZ zdH (yd (yF K) (pv 0) zr (λ_ _=>rfl)) zr (ye _))
    (zq (zG (i:=2) um.nd rfl (Or.inl rfl) (zJ Z3 (yd (yF K) (pv 0) zr (λ_ _=>rfl)) (pv 1)))
    (zq (Vx (zJ XS (yd (yF K) (pv 0) zr (λ_ _=>rfl)) (pv 1)) (zcN (pv 0) zr set_list))
    (zy (zM (pv 2)))))
    yh)
   (zq (Vx (zJ vU (yd (yF K) (pv 0) zr (λ_ _=>rfl)) zr) (zcN (pv 0) zr set_list))
   (zq (zG (i:=3) um.nd rfl (Or.inl rfl) (zJ Z3 (zJ Z5 (zJ vU (yd (yF K) (pv 0) zr (λ_ _=>rfl)) (zJ Z5 zr (yd (yF K) (pv 0) zr (λ_ _=>rfl)))) zr) zr))
   (zq (zG (i:=3) um.nd rfl (Or.inl rfl) (zJ Z3 (zJ Z5 (pv 3) (pv 3)) zr))
   (zq (zG (i:=3) um.nd rfl (Or.inl rfl) (zJ Z3 (zJ Z5 (zJ vU (pv 3) (zJ Z5 zr (yd (yF K) (pv 0) zr (λ_ _=>rfl)))) zr) zr))
   (zy (zM (zJ Z3 (zJ XS (pv 3) zr) (pv 1))))))))),?_⟩
  have fin:∀ (H':Hp) (y:Int) (g x k:Int),H'=upd H sa (.lst [.int g,.int x,.int k])->Q (.int (y % m)) H':=by
   intro H' y g x k e
   subst e
   have h0:0<=y % m:=Int.emod_nonneg _ (by omega)
   have h1:y % m<m:=Int.emod_lt_of_pos _ hm0
   obtain⟨r,hr⟩:∃ r:Nat,y % m=(r:Int):=⟨(y % m).toNat,by omega⟩
   rw [hr]
   exact kk r _ (by omega) ⟨⟨_,_,_,zj⟩,λb o hb e=>by rw [zx hb];exact e⟩
  refine⟨_,rfl,sa,_,_,_,rfl,rfl,SqL.of hs,rfl,_,_,rfl,rfl,_,rfl,?_⟩
  refine zb8 (λ_=>?_) (λ_=>?_)
  ·refine⟨_,rfl,sa,_,_,V.int g,rfl,rfl,SqL.of hs,rfl,_,rfl,_,_,rfl,rfl,hm0,?_⟩
   refine⟨_,rfl,sa,_,_,V.int g,rfl,rfl,SqL.of hs,rfl,_,rfl,_,_,rfl,rfl,⟨hm0,hm1⟩,_,rfl,sa,_,_,0,rfl,rfl,hs,rfl,?_⟩
   refine⟨_,rfl,?_⟩
   exact fin _ g (g / m) x k rfl
  ·refine⟨_,rfl,sa,_,_,V.int k,rfl,rfl,SqL.of hs,rfl,_,_,rfl,rfl,_,rfl,sa,_,_,2,rfl,rfl,hs,rfl,?_⟩
   have hs1:upd H sa (.lst [V.int g,V.int x,V.int (k+1)]) sa=some (.lst [V.int g,V.int x,V.int (k+1)]):=zj
   refine⟨_,rfl,sa,_,_,V.int x,rfl,rfl,SqL.of hs1,rfl,?_⟩
   refine⟨_,rfl,sa,_,_,V.int (k+1),rfl,rfl,SqL.of hs1,rfl,_,_,rfl,rfl,.inl ⟨by decide,by decide⟩,_,_,rfl,rfl,_,_,rfl,rfl,.inr ⟨by decide,by decide⟩,_,_,rfl,rfl,(by decide:(0:Int)<2147483647),?_⟩
   generalize hn1:(x+7919*(k+1))*48271 % 2147483647=n1
   have n1b:0<=n1/\n1<2147483647:=by rw [<- hn1];exact⟨Int.emod_nonneg _ (by decide),Int.emod_lt_of_pos _ (by decide)⟩
   refine⟨_,rfl,_,rfl,_,_,rfl,rfl,.inl ⟨by omega,by omega⟩,_,_,rfl,rfl,(by decide:(0:Int)<2147483629),?_⟩
   generalize hn2:n1*n1 % 2147483629=n2
   refine⟨_,rfl,_,rfl,sa,_,_,V.int (k+1),rfl,rfl,SqL.of hs1,rfl,_,_,rfl,rfl,.inl ⟨by decide,by decide⟩,_,_,rfl,rfl,_,_,rfl,rfl,.inr ⟨by decide,by decide⟩,_,_,rfl,rfl,(by decide:(0:Int)<2147483587),?_⟩
   generalize hn3:(n2+40692*(k+1))*69621 % 2147483587=n3
   refine⟨_,rfl,_,_,rfl,rfl,⟨by decide,by decide⟩,_,rfl,_,_,rfl,rfl,hm0,?_⟩
   exact fin _ _ _ _ _ rfl
def Zy:Sp:=λvs H Q _=>∃ s:Addr,vs=[.ref s]/\Sto H s/\∀ (b:Nat) (H':Hp),2<=b->b<=16->Stq s H H'->Q (.int b) H'
theorem JH:zF ["store"] ["store"] (zu uY):={}
set_option maxHeartbeats 0 in
theorem Xx {f f1:Addr} {fd fd1:FuncData} (D:Df K mg "_law_base" uY Ag f fd) (zA:Df K mg "_law_take" yD Ad f1 fd1) (T:Blt mg):FnOk P w K mg base CX0 2 f fd Ag Zy:=by
 have zO:FnOk P w K mg base CX0 1 f1 fd1 Ad yz:=xn zA T
 refine D.fn.ok JH (λvs H Q E h=>?_) (λcdv A outer s H vs Q E hr h=>?_)
 ·obtain⟨s,rfl,_⟩:=h;rfl
 ·obtain⟨sa,rfl,S,kk⟩:=h
  refine⟨_,(zy (zM (yd (yF K) (zQ (zf zr (zf zr (zf zr (zf zr (zf (zJ vU zr (zU zA zO (hr.mono (by decide)) (zf (pv 0) (zf zr zg)))) zg)))))) (zU zA zO (hr.mono (by decide)) (zf (pv 0) (zf zr zg))) (λ_ _=>rfl)))),?_⟩
  refine⟨_,rfl,?_⟩
  refine⟨sa,15,rfl,S,(by decide),(by decide),λx1 H1 hx1 S1=>?_⟩
  refine⟨2,x1,rfl,rfl,?_⟩
  refine⟨(by show 5<=sizeLine;decide),λl1 hl1=>?_⟩
  have n1:=S1.st.ne hl1
  have S2:=S1.new hl1 (o:=.lst [.int 2,.int 3,.int 10,.int 16,.int (2+(x1:Int))])
  refine⟨_,rfl,sa,_,rfl,S2.st,(by decide),(by decide),λx2 H3 hx2 S3=>?_⟩
  obtain⟨b,hb,hb2,hb16⟩:∃ b:Nat,atI [V.int 2,V.int 3,V.int 10,V.int 16,V.int (2+(x1:Int))] (x2:Int)=some (.int b)/\2<=b/\b<=16:=by
   have h5:x2<5:=by omega
   match x2,h5 with
   | 0,_=>exact⟨2,rfl,by omega,by omega⟩
   | 1,_=>exact⟨3,rfl,by omega,by omega⟩
   | 2,_=>exact⟨10,rfl,by omega,by omega⟩
   | 3,_=>exact⟨16,rfl,by omega,by omega⟩
   | 4,_=>exact⟨2+x1,rfl,by omega,by omega⟩
  exact⟨l1,_,_,_,rfl,rfl,SqL.of (S3.sm _ _ n1 zj),hb,kk b H3 hb2 hb16 (S2.trans S3)⟩
def yZ:Sp:=λvs H Q _=>∃ (s:Addr) (b few:Nat),vs=[.ref s,.int b,.int few]/\Sto H s/\2<=few/\few<=b/\b<=16/\∀ (l:Addr) (ms:List Int) (H':Hp),Stq s H H'->H l=none->H' l=some (.lst (ms.map V.int))->YX b ms->Q (.ref l) H'
theorem ZM:zF ["store","base","few","many"] ["store","base","few"] (zu yp):={}
theorem vG {f f1:Addr} {fd fd1:FuncData} (D:Df K mg "_law_stretch" yp Aj f fd) (zA:Df K mg "_law_take" yD Ad f1 fd1) (T:Blt mg):FnOk P w K mg base CX0 2 f fd Aj yZ:=by
 have zO:FnOk P w K mg base CX0 1 f1 fd1 Ad yz:=xn zA T
 refine D.fn.ok ZM (λvs H Q E h=>?_) (λcdv A outer s H vs Q E hr h=>?_)
 ·obtain⟨s,b,few,rfl,_⟩:=h;rfl
 ·obtain⟨sa,b,few,rfl,S,hf2,hfb,hb16,kk⟩:=h
  refine⟨_,(zq (zG (i:=3) ZM.nd rfl (Or.inl rfl) (zJ vU zr (zU zA zO (hr.mono (by decide)) (zf (pv 0) (zf zr zg)))))
   (zy (zM (yU (show CScope (zu yp) _ "k" ["store","base","few","many"] ["store","few","base"] [0,2,1] from {}) rfl (wC rfl T.n_range (zf (pv 3) zg)) (λ_ _ _ _=>xW) (λ_ _ _ _=>(zU zA zO (hr.mono (by decide)) (zf (pv 1) (zf (yd (yF K) (zQ (zf (pv 2) (zf (pv 2) (zf (pv 3) zg)))) (zU zA zO (hr.mono (by decide)) (zf (pv 1) (zf zr zg))) (λ_ _=>rfl)) zg)))))))),?_⟩
  refine⟨_,rfl,sa,_,rfl,S,(by decide),(by decide),λx1 H1 hx1 S1=>⟨_,_,rfl,rfl,?_⟩⟩
  refine⟨_,rfl,(1+(x1:Int)),rfl,by omega,by omega,qw (lo:=0) (n:=(1+(x1:Int)).toNat) (λj ys Hc=>Stq sa H Hc/\∃ ms:List Int,ys=ms.map V.int/\ms.length=j/\∀ f∈ms,0<=f/\f<(b:Int)) ⟨S1,[],rfl,rfl,by simp⟩ ?_ ?_⟩
  ·rintro j ys Hc hj ⟨Sc,ms,rfl,hml,hmf⟩
   refine⟨by rw [List.length_map,hml];exact Nat.lt_of_lt_of_le (show j<5 by omega) (by decide),?_⟩
   unfold Y5
   dsimp only
   rw [if_pos rfl]
   refine⟨_,rfl,_,rfl,_,rfl,_,rfl,(by show 3<=sizeLine;decide),λl2 hl2=>?_⟩
   have n2:=Sc.st.ne hl2
   have S3:=Sc.new hl2 (o:=.lst [.int few,.int few,.int b])
   refine⟨_,rfl,sa,_,rfl,S3.st,(by decide),(by decide),λx2 H4 hx2 S4=>?_⟩
   obtain⟨m,hm,hm1,hm2⟩:∃ m:Nat,atI [V.int few,V.int few,V.int b] (x2:Int)=some (.int m)/\2<=m/\m<=b:=by
    have h3:x2<3:=by omega
    match x2,h3 with
    | 0,_=>exact⟨few,rfl,by omega,by omega⟩
    | 1,_=>exact⟨few,rfl,by omega,by omega⟩
    | 2,_=>exact⟨b,rfl,by omega,by omega⟩
   refine⟨l2,_,_,_,rfl,rfl,SqL.of (S4.sm _ _ n2 zj),hm,sa,_,rfl,S4.st,by omega,by omega,λx3 H5 hx3 S5=>⟨(S3.trans S4).trans S5,ms++[(x3:Int)],by simp,by simp [hml],λf hf=>?_⟩⟩
   rcases List.mem_append.mp hf with hf | hf
   ·exact hmf f hf
   ·have e:f=(x3:Int):=by simpa using hf
    omega
  ·rintro ys Hc ⟨Sc,ms,rfl,hml,hmf⟩ p hp
   exact kk p ms _ (Sc.new hp) (Sc.free hp) zj ⟨λz=>by rw [z] at hml;simp at hml;omega,by omega,hmf⟩
structure zgj (H0 H:Hp) (bl:Addr) (b:Nat) (zs:ZB):Prop where
 li:H bl=some (.lst (zs.map λz=>V.ref z.1))
 st:∀ z∈zs,H z.1=some (.lst (z.2.map V.int))
 nl:H0 bl=none
 ns:∀ z∈zs,H0 z.1=none
 len:zs.length<=4
 good:∀ z∈zs,YX b z.2
 up:(zs.map (·.2)).Pairwise λx y=>HT.lexLt x y=true
def Yb:Sp:=λvs H Q _=>∃ (s:Addr) (b:Nat),vs=[.ref s,.int b]/\Sto H s/\2<=b/\b<=16/\∀ (bl:Addr) (zs:ZB) (H':Hp),Stq s H H'->zgj H H' bl b zs->Q (.ref bl) H'
theorem tG:zF ["store","base","few","known","k","one"] ["store","base"] (zu uI):={}
theorem W3 {f f1 f2:Addr} {fd fd1 fd2:FuncData} (D:Df K mg "_law_bad" uI Ah f fd) (zA:Df K mg "_law_take" yD Ad f1 fd1) (zP:Df K mg "_law_stretch" yp Aj f2 fd2) (T:Blt mg):FnOk P w K mg base CX0 3 f fd Ah Yb:=by
 have zO:FnOk P w K mg base CX0 1 f1 fd1 Ad yz:=xn zA T
 have wB:FnOk P w K mg base CX0 2 f2 fd2 Aj yZ:=vG zP zA T
 refine D.fn.ok tG (λvs H Q E h=>?_) (λcdv A outer s H vs Q E hr h=>?_)
 ·obtain⟨s,b,rfl,_⟩:=h;rfl
 ·obtain⟨sa,b,rfl,S,hb2,hb16,kk⟩:=h
  refine⟨_,(zq (zG (i:=2) tG.nd rfl (Or.inl rfl) (zB (Wq rfl) (by rfl) T.n_min boot_min (zf (pv 1) (zf (yd (yF K) (zQ (zf zr (zf zr (zf (pv 1) zg)))) (zU zA zO (hr.mono (by decide)) (zf (pv 0) (zf zr zg))) (λ_ _=>rfl)) zg))))
   (zq (zG (i:=3) tG.nd rfl (Or.inl rfl) zdu)
   (zq (jY PassesOwn.never rfl (wC rfl T.n_range (zf (zU zA zO (hr.mono (by decide)) (zf (pv 0) (zf zr zg))) zg)) (yG (i:=4) tG.nd rfl (Or.inl rfl))
    (zq (zG (i:=5) tG.nd rfl (Or.inl rfl) (zU zP wB (hr.mono (by decide)) (zf (pv 0) (zf (pv 1) (zf (pv 2) zg)))))
    (zy (zeq (zgo hr) (pv 3) (xf jn (by rfl) T.n_tuple boot_tuple (zf (pv 5) zg)) wZ rfl))))
   (zy (zM (yU (show CScope (zu uI) _ "one" ["store","base","few","known","k","one"] [] [] from {}) rfl (Yz K (zB zen (by rfl) T.n_sorted boot_sorted (zf (pv 3) zg))) (λ_ _ _ _=>xW) (λ_ _ _ _=>(xf (uZ K) (by rfl) T.n_list boot_list (zf (pv 0) zg))))))))),?_⟩
  refine⟨_,rfl,_,rfl,(by show 3<=sizeLine;decide),λl1 hl1=>?_⟩
  have n1:=S.ne hl1
  have S1:=(Stq.refl S).new hl1 (o:=.lst [.int 2,.int 3,.int b])
  refine⟨_,rfl,sa,_,rfl,S1.st,(by decide),(by decide),λx1 H2 hx1 S2=>?_⟩
  obtain⟨m,hm,hm2⟩:∃ m:Nat,atI [V.int 2,V.int 3,V.int b] (x1:Int)=some (.int m)/\2<=m:=by
   have h3:x1<3:=by omega
   match x1,h3 with
   | 0,_=>exact⟨2,rfl,by omega⟩
   | 1,_=>exact⟨3,rfl,by omega⟩
   | 2,_=>exact⟨b,rfl,by omega⟩
  refine⟨l1,_,_,_,rfl,rfl,SqL.of (S2.sm _ _ n1 zj),hm,_,_,rfl,?_⟩
  obtain⟨few,hfew,hfew1,hfew2⟩:∃ few:Nat,(if (m:Int)<(b:Int) then (m:Int) else (b:Int))=(few:Int)/\2<=few/\few<=b:=by
   by_cases z:m<b
   ·exact⟨m,by rw [if_pos (by omega)],by omega,by omega⟩
   ·exact⟨b,by rw [if_neg (by omega)],by omega,by omega⟩
  rw [hfew]
  have S12:=S1.trans S2
  intro kd hkd
  have nkd:=S12.st.ne hkd
  have hkd0:=S12.free hkd
  have S3:=S12.new hkd (o:=.dT [])
  refine⟨_,rfl,sa,_,rfl,S3.st,(by decide),(by decide),λx2 H4 hx2 S4=>?_⟩
  refine⟨_,rfl,by omega,by omega,qt (lo:=0) (n:=(x2:Int).toNat) (λi Z H5=>∃ (v1 v2:Option V) (kvs:List (List Key×V)) (ls:ZA),Z=[some (.ref sa),some (.int b),some (.int few),some (.ref kd),v1,v2]/\Stq sa H H5/\H5 kd=some (.dT kvs)/\kvs.map (·.1)=ls.map kI/\ls.length<=i/\∀ l∈ls,YX b l)
   ⟨none,none,[],[],rfl,S3.trans S4,S4.sm _ _ nkd zj,rfl,Nat.le_refl _,by simp⟩ ?_ ?_⟩
  ·rintro i Z H5 hi ⟨v1,v2,kvs,ls,rfl,S5,hk5,hks,hll,hgd⟩
   refine⟨_,rfl,_,rfl,_,rfl,sa,b,few,rfl,S5.st,hfew1,hfew2,hb16,λl ms H6 S6 hl0 hl6 gms=>?_⟩
   have hk6:=S6.sm _ _ nkd hk5
   refine⟨_,rfl,_,rfl,l,_,rfl,.inl ⟨SqL.of hl6,λtp htp=>?_⟩⟩
   have hk7:upd H6 tp (.tup (ms.map V.int)) kd=some (.dT kvs):=zm htp _ _ hk6
   have hkl:kvs.length=ls.length:=by have:=congrArg List.length hks;rwa [List.length_map,List.length_map] at this
   refine⟨kd,_,rfl,DPut.t (k:=kI ms) hk7 (by rw [zgr];exact zj) (Nat.lt_of_le_of_lt (show kvs.length<=4 by omega) (by decide)),?_⟩
   have S7:=((S5.trans S6).new htp (o:=.tup (ms.map V.int))).put (p:=kd) (o:=.dT (putK kvs (kI ms) (.bl true))) nkd hkd0
   by_cases hin:ms∈ls
   ·refine⟨_,_,putK kvs (kI ms) (.bl true),ls,rfl,S7,zj,?_,by omega,hgd⟩
    unfold putK
    rw [if_pos (by
     rw [List.any_eq_true]
     have:kI ms∈kvs.map (·.1):=by rw [hks];exact List.mem_map.mpr ⟨ms,hin,rfl⟩
     obtain⟨kv,h1,h2⟩:=List.mem_map.mp this
     exact⟨kv,h1,decide_eq_true h2⟩),List.map_map,<- hks]
    refine List.map_congr_left λkv _=>?_
    show (if kv.1=kI ms then (kv.1,V.bl true) else kv).1=kv.1
    split<;>rfl
   ·refine⟨_,_,putK kvs (kI ms) (.bl true),ls++[ms],rfl,S7,zj,?_,by rw [List.length_append,List.length_singleton];omega,λl hl=>?_⟩
    ·unfold putK
     rw [if_neg (by
      rw [List.any_eq_true]
      rintro⟨kv,h1,h2⟩
      have h3:kI ms∈kvs.map (·.1):=List.mem_map.mpr ⟨kv,h1,of_decide_eq_true h2⟩
      rw [hks] at h3
      obtain⟨l,h4,h5⟩:=List.mem_map.mp h3
      exact hin (zfJ h5▸h4)),List.map_append,List.map_append,hks]
     rfl
    ·rcases List.mem_append.mp hl with hl | hl
     ·exact hgd l hl
     ·have e:l=ms:=by simpa using hl
      rw [e];exact gms
  ·rintro Z H5 ⟨v1,v2,kvs,ls,rfl,S5,hk5,hks,hll,hgd⟩
   refine⟨_,rfl,kd,kvs,ls,rfl,hk5,hks,by omega,λl hl=>(hgd l hl).ne,λp zs hp pm pw hz=>?_⟩
   have hzl:zs.length=ls.length:=by have:=pm.length_eq;rwa [List.length_map] at this
   have S6:=S5.new hp (o:=.lst (zs.map λz=>V.ref z.1))
   refine⟨p,rfl,⟨_,SqL.of zj⟩,yN (K:=K) (a:=p) (xs:=zs.map λz=>V.ref z.1) (λi ys H7=>Same (upd H5 p (.lst (zs.map λz=>V.ref z.1))) H7/\∃ ws:ZB,ys=ws.map (λz=>V.ref z.1)/\ws.map (·.2)=(zs.take i).map (·.2)/\∀ z∈ws,H z.1=none/\H7 z.1=some (.lst (z.2.map V.int))) ⟨Same.refl _,[],rfl,by simp,by simp⟩ (λi ys H7 _ ⟨m7,_⟩=>SqL.of (m7 _ _ zj)) ?_ ?_⟩
   ·rintro j x ys H7 hx ⟨m7,ws,rfl,hw2,hws⟩
    rw [List.getElem?_map] at hx
    obtain⟨z,hzj,e⟩:=Option.map_eq_some_iff.mp hx
    subst e
    have hzm:=List.mem_of_getElem? hzj
    have hj:j<zs.length:=(List.getElem?_eq_some_iff.mp hzj).1
    have hwl:ws.length<=j:=by have:=congrArg List.length hw2;rw [List.length_map,List.length_map,List.length_take] at this;omega
    refine⟨by rw [List.length_map];exact Nat.lt_of_le_of_lt (show ws.length<=4 by omega) (by decide),?_⟩
    unfold Y5
    dsimp only
    rw [if_pos rfl]
    refine⟨_,rfl,z.1,_,rfl,.inr (SqT.of (m7 _ _ (zm hp _ _ (hz z hzm)))),λq hq=>⟨m7.trans (zm hq),ws++[(q,z.2)],by simp,?_,λy hy=>?_⟩⟩
    ·rw [List.map_append,hw2,List.take_succ,hzj];simp
    ·rcases List.mem_append.mp hy with hy | hy
     ·exact⟨(hws y hy).1,zm hq _ _ (hws y hy).2⟩
     ·have e:y=(q,z.2):=by simpa using hy
      subst e
      exact⟨S6.free (m7.free hq),zj⟩
   ·rintro ys H7 ⟨m7,ws,rfl,hw2,hws⟩ bl hbl
    rw [List.length_map,List.take_length] at hw2
    have hwl:ws.length=zs.length:=by have:=congrArg List.length hw2;rwa [List.length_map,List.length_map] at this
    have m8:=zm hbl (o:=.lst (ws.map λz=>V.ref z.1))
    refine kk bl ws _ (S6.same (m7.trans m8)) ⟨zj,λz hz'=>m8 _ _ (hws z hz').2,S6.free (m7.free hbl),λz hz'=>(hws z hz').1,by omega,λz hz'=>?_,?_⟩
    ·refine hgd _ ?_
     have:z.2∈zs.map (·.2):=by rw [<- hw2];exact List.mem_map.mpr ⟨z,hz',rfl⟩
     exact pm.mem_iff.mp this
    ·rw [hw2,List.pairwise_map];exact pw
end
theorem Zx {b:Nat} {ls:ZA} (g:GoodRule b ls):qO (.tuple [.int b,.list (ls.map λl=>.list (l.map .int))])=true:=by
 have hb:ux (.int b)=true:=decide_eq_true (by have:=g.b2;have:=g.b16;omega)
 have hs:∀ l∈ls,zT b (.list (l.map .int))=true:=λl hl=>by
  have s:=g.st l hl
  have h1:V0 b (.list (l.map .int))=true:=by
   show (l.map PyData.int).all (Va b)=true
   rw [List.all_eq_true]
   intro x hx
   obtain⟨i,hi,rfl⟩:=List.mem_map.mp hx
   exact decide_eq_true (s.fig i hi)
  have h2:(QR (.list (l.map .int))).length=l.length:=List.length_map ..
  unfold zT
  rw [h1,h2,Bool.true_and]
  exact decide_eq_true ⟨List.length_pos_iff.mpr s.ne,s.len⟩
 have hi:(ls.map λl=>PyData.list (l.map .int)).map yE=ls:=by
  rw [List.map_map]
  conv=>rhs;rw [<- List.map_id ls]
  refine List.map_congr_left λl _=>?_
  show (l.map PyData.int).map t8=l
  rw [List.map_map]
  conv=>rhs;rw [<- List.map_id l]
  rfl
 show (ux (.int b) && Jo b (.list (ls.map λl=>.list (l.map .int))))=true
 rw [hb,Bool.true_and]
 show (decide ((ls.map λl=>PyData.list (l.map .int)).length<=4) && ((ls.map λl=>PyData.list (l.map .int)).all (zT b) && vA ((ls.map λl=>PyData.list (l.map .int)).map yE)))=true
 rw [hi,List.length_map,decide_eq_true g.len,Bool.true_and,Bool.and_eq_true]
 refine⟨?_,?_⟩
 ·rw [List.all_eq_true]
  intro x hx
  obtain⟨l,hl,rfl⟩:=List.mem_map.mp hx
  exact hs l hl
 ·unfold vA
  rw [List.all_eq_true]
  intro k hk
  have hk:=List.mem_range.mp hk
  rw [List.getD_eq_getElem?_getD,List.getD_eq_getElem?_getD,List.getElem?_eq_getElem (show k<ls.length by omega),List.getElem?_eq_getElem (show k+1<ls.length by omega)]
  exact List.pairwise_iff_getElem.mp g.up k (k+1) (by omega) (by omega) (by omega)
theorem RuleAt.th {H:Hp} {r bl:Addr} {b:Nat} {zs:ZB} (R:RuleAt H r b bl zs):ThAt H (.tuple [.int b,.list ((zs.map (·.2)).map λl=>.list (l.map .int))]) (.ref r):=by
 rw [ThAt]
 refine⟨r,_,rfl,R.tu,?_⟩
 rw [ThsAt]
 refine⟨_,_,rfl,by rw [ThAt],?_⟩
 rw [ThsAt]
 refine⟨_,_,rfl,?_,by rw [ThsAt]⟩
 rw [ThAt]
 refine⟨bl,_,rfl,R.li,?_⟩
 rw [List.map_map]
 exact ThsAt.map λz hz=>ThAt.ints (R.st z hz)
theorem RuleAt.thing {H:Hp} {r bl:Addr} {b:Nat} {zs:ZB} (R:RuleAt H r b bl zs) (g:GoodRule b (zs.map (·.2))):∃ d,ThAt H d (.ref r)/\qO d=true/\Fit 3 5000 d:=by
 have h:=R.th
 refine⟨_,h,Zx g,Th.fit ?_ h⟩
 have hl:=g.len
 rw [List.length_map] at hl
 have b16:=g.b16
 have hz:∀ z∈zs,Th H 1 404 (.ref z.1):=λz hz=>by
  have s:=g.st _ (List.mem_map.mpr ⟨z,hz,rfl⟩)
  refine Th.ints (R.st z hz) (λi hi=>by have:=s.fig i hi;omega) (by have:=s.len;omega)
 have hb:Th H 2 1620 (.ref bl):=Th.lst R.li (λv hv=>by
  obtain⟨z,hz',rfl⟩:=List.mem_map.mp hv
  exact hz z hz') (by rw [List.length_map];omega)
 refine Th.tup (k:=2) (n:=1620) R.tu (λv hv=>?_) (by show 1621*2<=5000;decide)
 simp only [List.mem_cons,List.not_mem_nil,or_false] at hv
 rcases hv with rfl | rfl
 ·exact Th.int (by omega) (by decide)
 ·exact hb
theorem V1 {b:Int} {d:PyData} (h:zT b d=true):∃ l:List Int,d=.list (l.map .int)/\l≠[]/\l.length<=4/\∀ i∈l,0<=i/\i<b:=by
 unfold zT at h
 rw [Bool.and_eq_true] at h
 obtain⟨h1,h2⟩:=h
 have h2:=of_decide_eq_true h2
 cases d with
 | list xs =>
  have h1:xs.all (Va b)=true:=h1
  rw [List.all_eq_true] at h1
  have h2:1<=xs.length/\xs.length<=4:=h2
  have hx:∀ x∈xs,x=.int (t8 x)/\0<=t8 x/\t8 x<b:=λx hx=>by
   have q:=h1 x hx
   cases x with
   | int i=>exact⟨rfl,of_decide_eq_true q⟩
   | _=>cases q
  refine⟨xs.map t8,?_,λz=>?_,by rw [List.length_map];exact h2.2,λi hi=>?_⟩
  ·rw [List.map_map]
   conv=>lhs;rw [<- List.map_id xs]
   exact congrArg PyData.list (List.map_congr_left λx hx'=>(hx x hx').1)
  ·have:xs.length=0:=by rw [<- List.length_map (f:=t8),z];rfl
   omega
  ·obtain⟨x,hx',rfl⟩:=List.mem_map.mp hi
   exact (hx x hx').2
 | _=>cases h1
theorem Qu {H:Hp} {b:Int}:∀ {xs:List PyData} {ys:List V},ThsAt H xs ys->xs.all (zT b)=true->∃ zs:ZB,ys=zs.map (λz=>V.ref z.1)/\xs.map yE=zs.map (·.2)/\(∀ z∈zs,H z.1=some (.lst (z.2.map V.int)))/\∀ z∈zs,z.2≠[]/\z.2.length<=4/\∀ i∈z.2,0<=i/\i<b
 | [],ys,h,_=>by rw [ThsAt] at h;subst h;exact⟨[],rfl,rfl,by simp,by simp⟩
 | d :: ds,ys,h,g=>by
  rw [ThsAt] at h
  obtain⟨y,us,rfl,h1,h2⟩:=h
  rw [List.all_cons,Bool.and_eq_true] at g
  obtain⟨zs,rfl,e,h3,h4⟩:=Qu h2 g.2
  obtain⟨l,rfl,l1,l2,l3⟩:=V1 g.1
  rw [ThAt] at h1
  obtain⟨a,vs,rfl,h5,h6⟩:=h1
  have ev:vs=l.map V.int:=by
   clear l1 l2 l3 h5 g
   induction l generalizing vs with
   | nil=>rw [List.map_nil,ThsAt] at h6;exact h6
   | cons i l ih =>
    rw [List.map_cons,ThsAt] at h6
    obtain⟨y,us,rfl,q1,q2⟩:=h6
    rw [ThAt] at q1
    rw [q1,ih us q2];rfl
  subst ev
  refine⟨(a,l) :: zs,rfl,?_,λz hz=>?_,λz hz=>?_⟩
  ·rw [List.map_cons,List.map_cons,e]
   congr 1
   show (l.map PyData.int).map t8=l
   rw [List.map_map]
   conv=>rhs;rw [<- List.map_id l]
   rfl
  ·rcases List.mem_cons.mp hz with rfl | hz
   ·exact h5
   ·exact h3 z hz
  ·rcases List.mem_cons.mp hz with rfl | hz
   ·exact⟨l1,l2,l3⟩
   ·exact h4 z hz
theorem zcp:∀ {ls:ZA},vA ls=true->ls.Pairwise λx y=>HT.lexLt x y=true:=by
 intro ls h
 unfold vA at h
 rw [List.all_eq_true] at h
 have nxt:∀ k,(hk:k+1<ls.length)->HT.lexLt (ls[k]'(by omega)) ls[k+1]=true:=λk hk=>by
  have q:=h k (List.mem_range.mpr (by omega))
  rwa [List.getD_eq_getElem?_getD,List.getD_eq_getElem?_getD,List.getElem?_eq_getElem (show k<ls.length by omega),List.getElem?_eq_getElem hk] at q
 refine List.pairwise_iff_getElem.mpr λi j hi hj hij=>?_
 obtain⟨n,rfl⟩:∃ n,j=i+1+n:=⟨j-(i+1),by omega⟩
 induction n with
 | zero=>exact nxt i hj
 | succ n ih=>exact HT.wO _ _ _ (ih (by omega) (by omega)) (nxt (i+1+n) hj)
theorem zeg {H:Hp} {d:PyData} {v:V} (h:ThAt H d v) (hr:qO d=true):∃ (r:Addr) (b:Nat) (bl:Addr) (zs:ZB),v=.ref r/\RuleAt H r b bl zs/\GoodRule b (zs.map (·.2)):=by
 have go:∀ e l,d=.tuple [e,l]->∃ (r:Addr) (b:Nat) (bl:Addr) (zs:ZB),v=.ref r/\RuleAt H r b bl zs/\GoodRule b (zs.map (·.2)):=by
  rintro e l rfl
  have hr:(ux e && Jo (t8 e) l)=true:=hr
  rw [Bool.and_eq_true] at hr
  obtain⟨h1,h2⟩:=hr
  cases e with
  | int i =>
   have h1:2<=i/\i<=16:=of_decide_eq_true h1
   cases l with
   | list xs =>
    have h2:(decide (xs.length<=4) && (xs.all (zT i) && vA (xs.map yE)))=true:=h2
    rw [Bool.and_eq_true,Bool.and_eq_true] at h2
    obtain⟨h3,h4,h5⟩:=h2
    have h3:=of_decide_eq_true h3
    rw [ThAt] at h
    obtain⟨a,ys,rfl,h6,h7⟩:=h
    rw [ThsAt] at h7
    obtain⟨y,us,rfl,h8,h7⟩:=h7
    rw [ThAt] at h8
    rw [ThsAt] at h7
    obtain⟨z,ws,rfl,h9,h7⟩:=h7
    rw [ThsAt] at h7
    subst h7 h8
    rw [ThAt] at h9
    obtain⟨bl,vs,rfl,g1,g2⟩:=h9
    obtain⟨zs,rfl,e,g3,g4⟩:=Qu g2 h4
    rw [e] at h5
    have hn:((i.toNat:Nat):Int)=i:=by omega
    refine⟨a,i.toNat,bl,zs,rfl,⟨by rw [hn];exact h6,g1,g3⟩,⟨by omega,by omega,?_,λl hl=>?_,zcp h5⟩⟩
    ·rw [<- e,List.length_map];exact h3
    ·obtain⟨z,hz,rfl⟩:=List.mem_map.mp hl
     obtain⟨q1,q2,q3⟩:=g4 z hz
     exact⟨q1,q2,λf hf=>by rw [hn];exact q3 f hf⟩
   | _=>cases h2
  | _=>cases h1
 cases d with
 | tuple xs =>
  match xs,hr with
  | [e,l],_=>exact go e l rfl
  | [],hr=>cases hr
  | [_],hr=>cases hr
  | _ :: _ :: _ :: _,hr=>cases hr
 | _=>cases hr
def ju:PyData->Bool
 | .int i=>decide (0<=i)
 | _=>false
section
variable {P:Program} {w:World} {K:W.Frag} {mg:Str->Option Value} {base:Heap}
def Zu:Sp:=λvs H Q _=>∃ (v:V) (d:PyData),vs=[v]/\ThAt H d v/\Q (.bl (ju d)) H
theorem JK:zF ["thing"] ["thing"] (zu qW):={}
theorem JC {f f1:Addr} {fd fd1:FuncData} (D:Df K mg "is_number" qW Aa f fd) (yL:Df K mg "is_whole" uJ Aa f1 fd1) (T:Blt mg):FnOk P w K mg base CX0 2 f fd Aa Zu:=by
 have qu:FnOk P w K mg base CX0 1 f1 fd1 Aa uV:=je yL T
 refine D.fn.ok JK (λvs H Q E h=>?_) (λcdv A outer s H vs Q E hr h=>?_)
 ·obtain⟨v,d,rfl,_⟩:=h;rfl
 ·obtain⟨v,d,rfl,hd,q⟩:=h
  refine⟨_,(zy (zM (Zk (zU yL qu (hr.mono (by decide)) (zf (pv 0) zg)) (ZK (Yt zeQ (pv 0) zr (ye _)))))),?_⟩
  refine⟨_,rfl,v,d,rfl,hd,_,rfl,?_⟩
  cases hw:Wu d with
  | false =>
   have:ju d=false:=by cases d<;>first | rfl | cases hw
   rw [this] at q
   exact xJ q
  | true =>
   have e:=Xd hw
   generalize t8 d=i at e
   subst e
   rw [ThAt] at hd
   subst hd
   exact yV ⟨_,rfl,_,_,rfl,rfl,q⟩
def jz (qS:Addr):Sp:=λvs H Q E=>∃ (v:V) (d:PyData),vs=[v]/\ThAt H d v/\uv d<=100000/\(qO d=false->∀ H',Same H H'->E (.ref qS) none H')/\(qO d=true->∀ H',Same H H'->Q .non H')
theorem Qa:zF ["thing"] ["thing"] (zu tY):={}
theorem Qh {qS:Addr} {f f1:Addr} {fd fd1:FuncData} (D:Df K mg "check_rule" tY Aa f fd) (X6:Df K mg "is_rule" Yy Aa f1 fd1) (UV:FnOk P w K mg base CX0 6 f1 fd1 Aa Xb) (qMg:W9 K mg "NoRule" qS):FnOk P w K mg base (CX1 P w) 7 f fd Aa (jz qS):=by
 refine D.fn.ok1 Qa (λvs H Q E h=>?_) (λcdv A outer s H vs Q E hr h=>?_)
 ·obtain⟨v,d,rfl,_⟩:=h;rfl
 ·obtain⟨v,d,rfl,hd,hs,kNo,kOk⟩:=h
  refine⟨_,(zy (xF (ZD (vL (zU X6 UV (hr.mono (by decide)) (zf (pv 0) zg))))
    (zy (jK qMg jF rfl (zf tK zg)))
    yh)),?_⟩
  refine⟨_,rfl,v,d,rfl,hd,hs,λH1 m1=>⟨_,rfl,?_⟩⟩
  cases hr:qO d with
  | false=>exact yV ⟨by show 1<=sizeLine;decide,kNo hr _ m1⟩
  | true=>exact xJ (kOk hr _ m1)
end
theorem zbj:∀ ds:List PyData,ds.length<=PyData.weightAll ds
 | []=>Nat.zero_le _
 | d :: ds=>by rw [PyData.weightAll,List.length_cons];have:=zbj ds;omega
mutual
theorem Wn:∀ d:PyData,uv d<=d.weight
 | .none=>by rw [uv.eq_def];exact Nat.zero_le _
 | .bool _=>by rw [uv.eq_def];exact Nat.zero_le _
 | .int _=>by rw [uv.eq_def];exact Nat.zero_le _
 | .str _=>by rw [uv.eq_def];exact Nat.zero_le _
 | .list xs=>by rw [uv,PyData.weight];have:=zbj xs;have:=JP xs;omega
 | .tuple xs=>by rw [uv,PyData.weight];have:=zbj xs;have:=JP xs;omega
 | .dict _=>by rw [uv.eq_def];exact Nat.zero_le _
theorem JP:∀ ds:List PyData,Z4 ds<=PyData.weightAll ds
 | []=>by rw [Z4];exact Nat.zero_le _
 | d :: ds=>by rw [Z4,PyData.weightAll];have:=Wn d;have:=JP ds;omega
end
end Lw
namespace Lw
open PySem L2 PyProof.Rows
section
variable {P:Program} {w:World} {K:W.Frag} {mg:Str->Option Value} {base:Heap}
def jy (qA:Addr):Sp:=λvs H Q E=>∃ (v:V) (d:PyData),vs=[v]/\ThAt H d v/\(ux d=false->E (.ref qA) none H)/\(ux d=true->Q .non H)
theorem Qc:zF ["thing"] ["thing"] (zu qe):={}
theorem Qm {qA:Addr} {f f1:Addr} {fd fd1:FuncData} (D:Df K mg "check_base" qe Aa f fd) (qP:Df K mg "is_base" jT Aa f1 fd1) (jN:FnOk P w K mg base CX0 2 f1 fd1 Aa ZL) (qMe:W9 K mg "NoBase" qA):FnOk P w K mg base (CX1 P w) 3 f fd Aa (jy qA):=by
 refine D.fn.ok1 Qc (λvs H Q E h=>?_) (λcdv A outer s H vs Q E hr h=>?_)
 ·obtain⟨v,d,rfl,_⟩:=h;rfl
 ·obtain⟨v,d,rfl,hd,kNo,kOk⟩:=h
  refine⟨_,(zy (xF (ZD (vL (zU qP jN (hr.mono (by decide)) (zf (pv 0) zg))))
    (zy (jK qMe jF rfl (zf tK zg)))
    yh)),?_⟩
  refine⟨_,rfl,v,d,rfl,hd,_,rfl,?_⟩
  cases hr:ux d with
  | false=>exact yV ⟨by show 1<=sizeLine;decide,kNo hr⟩
  | true=>exact xJ (kOk hr)
def wz (qB:Addr):Sp:=λvs H Q E=>∃ (v:V) (d:PyData),vs=[v]/\ThAt H d v/\(ju d=false->E (.ref qB) none H)/\(ju d=true->Q .non H)
theorem Vj:zF ["thing"] ["thing"] (zu xP):={}
theorem Vf {qB:Addr} {f f1:Addr} {fd fd1:FuncData} (D:Df K mg "check_number" xP Aa f fd) (Ze:Df K mg "is_number" qW Aa f1 fd1) (YW:FnOk P w K mg base CX0 2 f1 fd1 Aa Zu) (qMf:W9 K mg "NoNumber" qB):FnOk P w K mg base (CX1 P w) 3 f fd Aa (wz qB):=by
 refine D.fn.ok1 Vj (λvs H Q E h=>?_) (λcdv A outer s H vs Q E hr h=>?_)
 ·obtain⟨v,d,rfl,_⟩:=h;rfl
 ·obtain⟨v,d,rfl,hd,kNo,kOk⟩:=h
  refine⟨_,(zy (xF (ZD (vL (zU Ze YW (hr.mono (by decide)) (zf (pv 0) zg))))
    (zy (jK qMf jF rfl (zf tK zg)))
    yh)),?_⟩
  refine⟨_,rfl,v,d,rfl,hd,_,rfl,?_⟩
  cases hr:ju d with
  | false=>exact yV ⟨by show 1<=sizeLine;decide,kNo hr⟩
  | true=>exact xJ (kOk hr)
theorem Xn {H:Hp} {d:PyData} {v:V} (h:ThAt H d v) (hb:ux d=true):∃ b:Nat,d=.int b/\v=.int b/\2<=b/\b<=16:=by
 cases d with
 | int i =>
  have hb:2<=i/\i<=16:=of_decide_eq_true hb
  rw [ThAt] at h
  have e:((i.toNat:Nat):Int)=i:=by omega
  exact⟨i.toNat,by rw [e],by rw [h,e],by omega,by omega⟩
 | _=>cases hb
theorem zcS {H:Hp} {d:PyData} {v:V} (h:ThAt H d v) (hb:ju d=true):∃ n:Nat,d=.int n/\v=.int n:=by
 cases d with
 | int i =>
  have hb:0<=i:=of_decide_eq_true hb
  rw [ThAt] at h
  have e:((i.toNat:Nat):Int)=i:=by omega
  exact⟨i.toNat,by rw [e],by rw [h,e]⟩
 | _=>cases hb
def jw (qA qB:Addr):Sp:=λvs H Q E=>∃ (v u:V) (d e:PyData),vs=[v,u]/\ThAt H d v/\ThAt H e u/\(ux d=false->E (.ref qA) none H)/\(ux d=true->ju e=false->E (.ref qB) none H) /\
 ∀ b n:Nat,d=.int b->2<=b->b<=16->e=.int n->n<2^900/\∀ l H',H l=none->H' l=some (.lst ((figs b n).map V.int))->Same H H'->Q (.ref l) H'
theorem uO:zF ["base","n","backwards","rest"] ["base","n"] (zu t7):={}
theorem Qq {qA qB:Addr} {f f1 f2:Addr} {fd fd1 fd2:FuncData} (D:Df K mg "figures_of" t7 Ax f fd) (jf:Df K mg "check_base" qe Aa f1 fd1) (Z8:FnOk P w K mg base (CX1 P w) 3 f1 fd1 Aa (jy qA))
  (yo:Df K mg "check_number" xP Aa f2 fd2) (yw:FnOk P w K mg base (CX1 P w) 3 f2 fd2 Aa (wz qB)) (T:Blt mg):FnOk P w K mg base (CX1 P w) 4 f fd Ax (jw qA qB):=by
 refine D.fn.ok1 uO (λvs H Q E h=>?_) (λcdv A outer s H vs Q E hr h=>?_)
 ·obtain⟨v,u,d,e,rfl,_⟩:=h;rfl
 ·obtain⟨v,u,d,e,rfl,hd,he,kB,kN,kOk⟩:=h
  refine⟨_,(zq (xX (Y4 jf Z8 (hr.mono (by decide)) uA (zf (pv 0) zg)))
   (zq (xX (Y4 yo yw (hr.mono (by decide)) uA (zf (pv 1) zg)))
   (zq (zG (i:=2) uO.nd rfl (Or.inl rfl) (zQ (zf (zJ Z3 (pv 1) (pv 0)) zg)))
   (zq (zG (i:=3) uO.nd rfl (Or.inl rfl) (zJ XS (pv 1) (pv 0)))
   (zq (zaE PassesOwn.leaving (zZ zdH (pv 3) zr (ye _))
    (zq (xX (Q5 PySem.F.plainAttrs_list PySem.F.slot_list_append PySem.F.type_list_append jH (pv 2) (zf (zJ Z3 (pv 3) (pv 0)) zg)))
    (zy (zG (i:=3) uO.nd rfl (Or.inl rfl) (zJ XS (pv 3) (pv 0))))))
   (zy (zM (zbs rfl rfl T.n_list rfl T.n_reversed (pv 2))))))))),?_⟩
  refine⟨_,rfl,v,d,rfl,hd,kB,λhb=>?_⟩
  refine⟨_,rfl,u,e,rfl,he,kN hb,λhn'=>?_⟩
  obtain⟨b,rfl,rfl,h2,h16⟩:=Xn hd hb
  obtain⟨n,rfl,rfl⟩:=zcS he hn'
  obtain⟨hn,k⟩:=kOk b n rfl h2 h16 rfl
  refine⟨_,rfl,_,rfl,_,_,rfl,rfl,(by omega:(0:Int)<b),(by decide:1<=sizeLine),λl hl=>?_⟩
  refine⟨_,rfl,_,rfl,_,_,rfl,rfl,⟨by omega,by omega⟩,?_⟩
  have hlen:=Us h2 900 n hn
  refine zaG (λZ H2=>∃ (r:Nat) (L:List Int),Z=[some (.int b),some (.int n),some (.ref l),some (.int r)]/\H2 l=some (.lst (L.map V.int))/\Same H H2/\figs b n=ahead b r++L.reverse)
   (λZ _=>match Z with | [_,_,_,some (.int r)]=>r.toNat | _=>0) ?_ ?_ ?_
  ·refine⟨n / b,[((n % b:Nat):Int)],?_,?_,zm hl,?_⟩
   ·rfl
   ·rw [zj];simp
   ·rw [QV h2];simp
  ·rintro Z H2 ⟨r,L,rfl,hL,sH,he⟩
   refine⟨_,rfl,_,_,rfl,rfl,_,rfl,?_⟩
   refine zb8 (λh1=>?_) (λh1=>?_)
   ·have hr0:0<r:=by have:=of_decide_eq_true h1;omega
    have hLl:L.length<=901:=by
     have:=congrArg List.length he
     rw [List.length_append,List.length_reverse] at this
     omega
    refine⟨_,rfl,.inl ⟨rfl,_,SqL.of hL⟩,_,rfl,_,rfl,_,_,rfl,rfl,(by omega:(0:Int)<b),l,_,_,rfl,rfl,hL,by rw [List.length_map];exact Nat.lt_of_le_of_lt hLl (by decide),?_⟩
    refine⟨_,rfl,_,rfl,_,_,rfl,rfl,⟨by omega,by omega⟩,?_⟩
    refine⟨⟨r / b,L++[((r % b:Nat):Int)],?_,?_,?_,?_⟩,?_⟩
    ·simp
    ·rw [zj];simp
    ·exact λb' o e=>by rw [zx (zz e hl)];exact sH b' o e
    ·rw [he,zaQ h2 hr0,List.reverse_append];simp
    ·show ((r:Int) / (b:Int)).toNat<(r:Int).toNat
     have:r / b<r:=Nat.div_lt_self hr0 (by omega)
     omega
   ·have hr0:r=0:=by
     by_cases z:r=0
     ·exact z
     ·exact absurd (decide_eq_true (by omega:(0:Int)<r)) h1
    subst hr0
    refine⟨_,rfl,l,_,rfl,SqL.of hL,λq hq=>?_⟩
    have hlq:q≠l:=λz=>by rw [z,hL] at hq;cases hq
    refine k q _ (sH.free hq) ?_ (sH.trans (zm hq))
    rw [zj,he]
    simp [ahead]
  ·intro Z H2 Q Q' hq
   rintro⟨v,e,i,j,e1,e2,k,e3,q⟩
   exact⟨v,e,i,j,e1,e2,k,e3,hq _ _ q⟩
end
theorem Stq.aw {s:Addr} {H H':Hp} (a:Stq s H H'):Same (aw [s] H) (aw [s] H'):=λb o e=>by
 have hb:b∉[s]:=λhb=>by rw [qY hb] at e;cases e
 rw [zL hb] at e ⊢
 exact a.sm b o (λz=>hb (by simp [z])) e
theorem Xg {s c:Addr} {H:Hp} {o:HO} (h:aw [s] H c=some o):c≠s/\H c=some o:=by
 have hc:c∉[s]:=λz=>by rw [qY z] at h;cases h
 rw [zL hc] at h
 exact⟨by simpa using hc,h⟩
def sV (s:Addr):View:=⟨aw [s],λH=>Sto H s,λh=>zH _ _ _ _ h,λ{H p} o ok hp=>by
 refine⟨?_,(zm hp).aw _,?_⟩
 ·obtain⟨g,x,k,e⟩:=ok
  exact⟨g,x,k,zm hp _ _ e⟩
 rw [zL,zj]
 intro z
 exact ok.ne hp (List.mem_singleton.mp z)⟩
section
variable {K:W.Frag} {s:Addr} {Γ:Cxt} {te:TE} {lo hi:Int} {x:Nat}
theorem wY (hd:Γ[x]?=some (some (Uo (.ref s)))) (h:Tp (sV s) Γ te (tyI lo hi)) (h1:1<=lo:=by first | decide | omega) (h2:hi<=1000:=by first | decide | omega):Tp (sV s) Γ (zbE yz [] E0 (yQ (Vc x) (yQ te qD))) (tyI 0 (hi-1)):=λZ H Q o f q=>by
 obtain⟨v,e,t⟩:=f.2 x _ hd
 refine⟨v,e,h Z H _ o f λu H1 o1 s1 ⟨m,e1,a1,b1⟩=>⟨s,m,by rw [show v=V.ref s from t,e1];rfl,o1,by omega,Int.lt_of_le_of_lt (Int.le_trans b1 h2) (by decide +kernel),λr H' hr S=>q _ H' S.st (s1.trans S.aw) ⟨r,rfl,by omega,by omega⟩⟩⟩
def zdJ (ls:ZA):PyData:=.list (ls.map λl=>.list (l.map .int))
def tyRx (b:Nat) (ls:ZA):Ty:=⟨λG v=>∃ r bl,v=.ref r/\G r=some (.tup [.int b,.ref bl])/\ThAt G (zdJ ls) (.ref bl),λs ⟨r,bl,h1,h2,h3⟩=>⟨r,bl,h1,s _ _ h2,h3.same s⟩⟩
theorem tyRx.of {G:Hp} {r bl:Addr} {b:Nat} {zs:ZB} (R:RuleAt G r b bl zs):(tyRx b (zs.map (·.2))).p G (.ref r):=by
 refine⟨r,bl,rfl,R.tu,?_⟩
 unfold zdJ
 rw [List.map_map]
 exact ThAt.lst R.li (ThsAt.map λz hz=>ThAt.ints (R.st z hz))
theorem zet {w:View} {b i j:Nat} {ls:ZA} {T:Ty} (h:Γ[x]?=some (some (tyRx b ls))):TpS w Γ (U6 (Vc x) (zfC K 2 (zcX (jJ i) (zcX (jJ j) zgt)))) ((Γ.set i (some (tyI b b))).set j (some (tyD (zdJ ls)))) T:=λD Z H o f qn qr=>by
 obtain⟨v,e,r,bl,e1,h1,h2⟩:=f.2 x _ h
 refine⟨v,e,r,_,e1,SqT.of (w.out h1),rfl,_,_,rfl,_,_,rfl,rfl,qn _ H o (Same.refl _) ?_⟩
 exact (f.set (T:=tyI b b) ⟨b,rfl,Int.le_refl _,Int.le_refl _⟩).set (T:=tyD (zdJ ls)) h2
end
def Qz (b:Int):PyData->Bool:=λd=>!Va b d
def noStr (b:Int):PyData->Bool:=λd=>!zT b d
def W7 (b:Int):PyData->Bool:=λd=>!Jo b d
def Xp:PyData->Bool:=λd=>!qO d
def zak:PyData->Bool:=λd=>!ux d
def Xu:PyData->Bool:=λd=>!ju d
def isI (b:Int):PyData->Bool
 | .int i=>decide (i=b)
 | _=>false
section
variable {b:Int} {s:Nat}
theorem xj (hs:s≠2):∀ d,shT d=s->Qz b d=true:=λd h=>by cases d<;>first | rfl | exact absurd h.symm hs
theorem vg (hs:s≠4):∀ d,shT d=s->noStr b d=true:=λd h=>by cases d<;>first | rfl | exact absurd h.symm hs
theorem Wl (hs:s≠4):∀ d,shT d=s->W7 b d=true:=λd h=>by cases d<;>first | rfl | exact absurd h.symm hs
theorem jG (hs:s≠5):∀ d,shT d=s->Xp d=true:=λd h=>by cases d<;>first | rfl | exact absurd h.symm hs
theorem XX (hs:s≠2):∀ d,shT d=s->zak d=true:=λd h=>by cases d<;>first | rfl | exact absurd h.symm hs
theorem xN (hs:s≠2):∀ d,shT d=s->Xu d=true:=λd h=>by cases d<;>first | rfl | exact absurd h.symm hs
theorem Ys {x:Int} (h:x<0\/b<=x):Qz b (.int x)=true:=by
 show (!decide (0<=x/\x<b))=true
 rw [decide_eq_false (by omega)];rfl
theorem Vq {x:Int} (h:x<2\/16<x):zak (.int x)=true:=by
 show (!decide (2<=x/\x<=16))=true
 rw [decide_eq_false (by omega)];rfl
theorem XD {x:Int} (h:x<0):Xu (.int x)=true:=by
 show (!decide (0<=x))=true
 rw [decide_eq_false (by omega)];rfl
theorem Z2 {c:Bool} (h:(!c)=true):c=false:=by cases c<;>first | rfl | cases h
theorem Yi (ds:List PyData) (d:PyData) (h:d∈ds) (hd:Qz b d=true):noStr b (.list ds)=true:=by
 have:ds.all (Va b)=false:=by
  rw [List.all_eq_false]
  exact⟨d,h,by rw [Z2 hd];intro z;cases z⟩
 show (!(ds.all (Va b) && _))=true
 rw [this];rfl
theorem Yx {ds:List PyData} (h:ds.length<1\/4<ds.length):noStr b (.list ds)=true:=by
 show (!(ds.all (Va b) && decide (1<=ds.length/\ds.length<=4)))=true
 rw [decide_eq_false (by omega),Bool.and_false];rfl
theorem Vt (ds:List PyData) (d:PyData) (h:d∈ds) (hd:noStr b d=true):W7 b (.list ds)=true:=by
 have:ds.all (zT b)=false:=by
  rw [List.all_eq_false]
  exact⟨d,h,by rw [Z2 hd];intro z;cases z⟩
 show (!(decide (ds.length<=4) && (ds.all (zT b) && vA (ds.map yE))))=true
 rw [this,Bool.false_and,Bool.and_false];rfl
theorem zcf {ds:List PyData} (h:4<ds.length):W7 b (.list ds)=true:=by
 show (!(decide (ds.length<=4) && _))=true
 rw [decide_eq_false (by omega),Bool.false_and];rfl
theorem Zm {ds:List PyData} (h:vA (ds.map yE)=false):W7 b (.list ds)=true:=by
 show (!(decide (ds.length<=4) && (ds.all (zT b) && vA (ds.map yE))))=true
 rw [h,Bool.and_false,Bool.and_false];rfl
theorem zd9 {b:Int} (d e:PyData) (h:isI b d=true) (he:W7 b e=true):Xp (.tuple [d,e])=true:=by
 cases d with
 | int i =>
  have h:i=b:=of_decide_eq_true h
  subst h
  show (!(ux (.int i) && Jo i e))=true
  rw [Z2 he,Bool.and_false];rfl
 | _=>cases h
theorem zeH (d e:PyData) (h:zak d=true) (_:(λ_=>true) e=true):Xp (.tuple [d,e])=true:=by
 show (!(ux d && Jo (t8 d) e))=true
 rw [Z2 h,Bool.false_and];rfl
theorem Wr {ds:List PyData} (h:ds.length≠2):Xp (.tuple ds)=true:=by
 match ds,h with
 | [],_=>rfl
 | [_],_=>rfl
 | [_,_],h=>exact absurd rfl h
 | _ :: _ :: _ :: _,_=>rfl
theorem ints_map (l:List Int):yE (.list (l.map .int))=l:=by
 show (l.map PyData.int).map t8=l
 rw [List.map_map]
 conv=>rhs;rw [<- List.map_id l]
 rfl
theorem QM (ls:ZA):(ls.map λl=>PyData.list (l.map .int)).map yE=ls:=by
 rw [List.map_map]
 conv=>rhs;rw [<- List.map_id ls]
 exact List.map_congr_left λl _=>ints_map l
end
theorem Fit.lst {k n n':Nat} {ds:List PyData} (h:∀ d∈ds,Fit k n d) (hn:(n+1)*ds.length<=n'):Fit (k+1) n' (.list ds):=by
 have go:∀ ds:List PyData,(∀ d∈ds,Fit k n d)->PyData.leavesShortAll 40 ds=true/\PyData.showableAll ds=true/\PyData.depthAll ds<=k/\PyData.weightAll ds<=(n+1)*ds.length:=by
  intro ds
  induction ds with
  | nil=>intro _;exact⟨by rw [PyData.leavesShortAll],by rw [PyData.showableAll],by rw [PyData.depthAll];exact Nat.zero_le _,by rw [PyData.weightAll];exact Nat.zero_le _⟩
  | cons d ds ih =>
   intro h
   obtain⟨g2,g3,g4,g5⟩:=ih λd hd=>h d (.tail _ hd)
   have f:=h d (.head _)
   refine⟨by rw [PyData.leavesShortAll,f.ls,g2];rfl,by rw [PyData.showableAll,f.sh,g3];rfl,?_,?_⟩
   ·rw [PyData.depthAll];have:=f.dp;omega
   ·rw [PyData.weightAll,List.length_cons,Nat.mul_succ];have:=f.wt;omega
 obtain⟨g2,g3,g4,g5⟩:=go ds h
 exact⟨by rw [PyData.leavesShort];exact g2,by rw [PyData.showable];exact g3,by rw [PyData.depth];omega,by rw [PyData.weight];omega⟩
theorem Fit.int {k n:Nat} {i:Int} (h:i.natAbs<10^30) (hn:100<=n):Fit k n (.int i):=Th.fit (H:=λ_=>none) (v:=.int i) (Th.int h hn) (by rw [ThAt])
theorem Fit.ints {n:Nat} {l:List Int} (h:∀ i∈l,i.natAbs<10^30) (hn:101*l.length<=n):Fit 1 n (.list (l.map .int)):=Fit.lst (k:=0) (n:=100) (λd hd=>by
 obtain⟨i,hi,rfl⟩:=List.mem_map.mp hd
 exact Fit.int (h i hi) (Nat.le_refl _)) (by rw [List.length_map];exact hn)
theorem JF {b:Nat} {ls:ZA} (g:GoodRule b ls):∀ d∈ls.map (λl=>PyData.list (l.map .int)),Fit 1 404 d:=λd hd=>by
 obtain⟨l,hl,rfl⟩:=List.mem_map.mp hd
 have st:=g.st l hl
 have b16:=g.b16
 exact Fit.ints (λi hi=>by have:=st.fig i hi;omega) (by have:=st.len;omega)
theorem zdD (ls:ZA) (h1:ls.length<=6) (h2:∀ l∈ls,l.length<=4) (h3:∀ l∈ls,∀ i∈l,i.natAbs<10^30):Fit 3 9856 (.list (ls.map λl=>.list (l.map .int))) :=
 (Fit.lst (k:=1) (n:=404) (n':=9856) (λd hd=>by
  obtain⟨l,hl,rfl⟩:=List.mem_map.mp hd
  exact Fit.ints (h3 l hl) (by have:=h2 l hl;omega)) (by rw [List.length_map];omega)).le (by decide) (by decide)
section
variable {P:Program} {w:World} {K:W.Frag} {mg:Str->Option Value} {base:Heap}
def tL:Sp:=λvs H Q _=>∃ (s:Addr) (r:Addr) (b:Nat) (bl:Addr) (zs:ZB),vs=[.ref s,.ref r]/\Sto H s/\RuleAt (aw [s] H) r b bl zs/\GoodRule b (zs.map (·.2))/\∀ (v:V) (H':Hp),Sto H' s->Same (aw [s] H) (aw [s] H')->(tyQ 4 19714 Xp).p (aw [s] H') v->Q v H'
theorem zN:zF ["store","rule","base","bad","at","figure","odd","spot","wrong","few","rising","lists","some"] ["store","rule"] (zu wQ):={}
set_option maxHeartbeats 0 in
theorem ZP {f f1:Addr} {fd fd1:FuncData} (D:Df K mg "_law_no_rule" wQ Ay f fd) (zA:Df K mg "_law_take" yD Ad f1 fd1) (T:Blt mg):FnOk P w K mg base CX0 2 f fd Ay tL:=by
 have zO:FnOk P w K mg base CX0 1 f1 fd1 Ad yz:=xn zA T
 refine D.fn.ok zN (λvs H Q E h=>?_) (λcdv A outer s H vs Q E hr h=>?_)
 ·obtain⟨s,r,b,bl,zs,rfl,_⟩:=h;rfl
 ·obtain⟨s,r,b,bl,zs,rfl,St,R,g,kk⟩:=h
  have HU:=Wk hr
  refine⟨_,(zq (Vx (pv 1) (Ut rfl (wM (yG (i:=2) zN.nd rfl (Or.inl rfl)) (wM (yG (i:=3) zN.nd rfl (Or.inr rfl)) X5))))
   (zq (zG (i:=4) zN.nd rfl (Or.inl rfl) (zU zA zO (hr.mono (by decide)) (zf (pv 0) (zf (zJ vU (zB (xT K) (by rfl) T.n_len PySem.boot_len (zf (pv 3) zg)) zr) zg))))
   (zq (zG (i:=5) zN.nd rfl (Or.inl rfl) (zU zA zO (hr.mono (by decide)) (zf (pv 0) (zf (pv 2) zg))))
   (zq (zG (i:=6) zN.nd rfl (Or.inl rfl) (Ja (yF K) (zW (zp (pei (pv 2)) (zp (pei (W2 ZW zr)) (zp (pei wZ) (zp (pei wZ) (zp (pei wD) (yC (zp (zW (zp zY zR)) (zp (Yq (zp zY zR)) (zp (pei uT) (zp (pei (zJ ZZ zr zr)) zR))))))))))) (zU zA zO (hr.mono (by decide)) (zf (pv 0) (zf zr zg))) (λ_ _=>rfl)))
   (zq (zG (i:=7) zN.nd rfl (Or.inl rfl) (zU zA zO (hr.mono (by decide)) (zf (pv 0) (zf zr zg))))
   (zq (zbB (i:=8) zN.nd rfl (Or.inl rfl) (zW (zp (pei (zJ yq (zJ Y7 (zQ (zf (pv 5) zg)) (pv 7)) (zQ (zf (pv 6) zg)))) (zp (zW zR) (zp (pei (zJ Y7 (zQ (zf (pv 5) zg)) zr)) (zp (pei (yX (zf (pv 5) zg))) (zp (pei (zJ yq (zJ yq (zJ Y7 (zQ (zf (pv 5) zg)) (pv 7)) (zQ (zf (pv 6) zg))) (zJ Y7 (zQ (zf (pv 5) zg)) (zJ Zz zr (pv 7))))) zR)))))))
   (zq (zG (i:=8) zN.nd rfl (Or.inl rfl) (yd (yF K) (Jd yq (pv 8) (zW (zp (pei wD) (zp (pei (pv 5)) (yC (zp (pei uT) (zp (pei (zQ (zf (zQ (zf (pv 5) zg)) zg))) (zp (pei wZ) zR)))))))) (zU zA zO (hr.mono (by decide)) (zf (pv 0) (zf zr zg))) (λ_ _=>rfl)))
   (zq (zG (i:=9) zN.nd rfl (Or.inl rfl) (yt (uy K) (pv 3) xx (yJ zr)))
   (Q3 (zG (i:=4) zN.nd rfl (Or.inl rfl) (zB (Wq rfl) (by rfl) T.n_min boot_min (zf (pv 4) (zf (zB (xT K) (by rfl) T.n_len PySem.boot_len (zf (pv 9) zg)) zg))))
   (J3 (i:=10) zN.nd rfl (Or.inl rfl) (zp (zW (zp zY zR)) (zp (zW (zp zY (zp zY zR))) (zp (zW (zp zY (zp zY zR))) (zp (zW (zp zY zR)) (zp (zW (zp zY (zp zY zR))) (zp (zW (zp zY (zp zY zR))) zR))))))
   (zq (zG (i:=11) zN.nd rfl (Or.inl rfl) (zQ (zf (zJ yq (zJ yq (yt (uy K) (pv 9) xx (yJ (pv 4))) (zQ (zf (pv 8) zg))) (yt (uy K) (pv 9) (yJ (pv 4)) xx)) (zf (zJ yq (zJ yq (yt (uy K) (pv 9) xx (yJ (pv 4))) (zQ (zf (pv 8) zg))) (yt (uy K) (pv 9) (yJ (pv 4)) xx)) (zf (zJ yq (zJ yq (yt (uy K) (pv 9) xx (yJ (pv 4))) (zQ (zf (pv 8) zg))) (yt (uy K) (pv 9) (yJ (zJ vU (pv 4) zr)) xx)) zg)))))
   (zq (zG (i:=11) zN.nd rfl (Or.inl rfl) (Jd yq (pv 11) (zW (zp (pei (yt (uy K) (pv 10) xx (yJ zr))) (zp (zW (zp (zW (zp zY zR)) (zp (zW (zp zY (zp zY zR))) zR))) (zp (zW (zp (zW (zp zY (zp zY zR))) (zp (zW (zp zY (zp zY zR))) zR))) (zp (zW (zp (zW (zp zY zR)) (zp (zW (zp zY zR)) zR))) (zp (pei (zd0 (pv 10))) (zp (pei (xf jn (by rfl) T.n_tuple boot_tuple (zf (pv 3) zg))) (zp (pei wD) (zp (pei uT) (yC zR))))))))))))
   (zq (zG (i:=12) zN.nd rfl (Or.inl rfl) (zJ Y7 (zQ (zf (yX (zf (pv 2) (zf (yd (yF K) (pv 11) (zU zA zO (hr.mono (by decide)) (zf (pv 0) (zf zr zg))) (λ_ _=>rfl)) zg))) zg)) zr))
   (zq (zG (i:=12) zN.nd rfl (Or.inl rfl) (zJ yq (pv 12) (yU (show CScope (zu wQ) _ "one" ["store","rule","base","bad","at","figure","odd","spot","wrong","few","rising","lists","some"] ["bad"] [3] from {}) rfl (Yz K (zQ (zf zr (zf zr (zf zr (zf (W2 ZW zr) (zf wZ (zf wD (yW (zf (zQ (zf zr zg)) zg)))))))))) (λ_ _ _ _=>xW) (λ_ _ _ _=>(yX (zf (pv 0) (zf (yt (uy K) (pv 1) xx (yJ zr)) zg)))))))
   (zq (zG (i:=12) zN.nd rfl (Or.inl rfl) (Jd yq (pv 12) (zW (zp (pei (yX (zf (pv 2) (zf (pv 3) (zf (zQ zg) zg))))) (zp (pei (yX (zf (pv 2) zg))) (zp (pei (zQ (zf (pv 2) (zf (pv 3) zg)))) (zp (pei (pv 2)) (zp (pei (pv 3)) (zp (pei wD) (yC (zp (pei uT) (zp (Yq zR) (zp (pei wZ) (zp (pei (zJ ZZ zr zr)) zR))))))))))))))
   (zy (zM (yd (yF K) (pv 12) (zU zA zO (hr.mono (by decide)) (zf (pv 0) (zf zr zg))) (λ_ _=>rfl))))))))))))))))))),?_⟩
  have R0:=tyRx.of R
  generalize zs.map (·.2)=ls at g R0
  have b2:=g.b2
  have b16:=g.b16
  have h4:=g.len
  have hb25:(b:Int)<=10^Int.toNat 25:=Int.le_trans (show (b:Int)<=16 by omega) (by decide)
  have hB:∀ {Γ:Cxt} {x:Nat},Γ[x]?=some (some (tyD (zdJ ls)))->Tp (sV s) Γ (Vc x) (tyL 1 404 0 4):=λh=>Tp.wideL (Tp.dL (Tp.var h) (JF g)) (λ_ _ t=>t) (Nat.zero_le _) (by rw [List.length_map];exact h4)
  refine TpS.go (w:=sV s) (Γ:=[some (Uo (.ref s)),some (tyRx b ls),none,none,none,none,none,none,none,none,none,none,none]) (Γ':=[some zd6]) (T:=tyQ 4 19714 Xp) ?ty St (Fits.cons rfl (Fits.cons R0 (Fits.any [none,none,none,none,none,none,none,none,none,none,none]))) (λ_ _ _ _ h=>h.no.elim) ?qr
  case ty=>exact
   (TpS.seq (zet rfl)
   (TpS.seq (TpS.asg (T1:=tyI 0 4) (Tp.wide (wY rfl (Tp.add (Tp.len (hB rfl)) Tp.int)) (by decide) (by decide)))
   (TpS.seq (TpS.asg (wY rfl (Tp.var rfl)))
   (TpS.seq (TpS.asg (Tp.ix (T:=tyQ 1 200 (Qz b)) (Tp.lstT (TpB.cons (Tp.qI (Tp.var rfl) (λx h1 h2=>Ys (.inr (by omega))) (by omega) (by omega))
    (TpB.cons (Tp.qI (Tp.neg Tp.int) (λx h1 h2=>Ys (.inl (by omega))))
    (TpB.cons (Tp.sQ Tp.blS (xj (by decide)))
    (TpB.cons (Tp.sQ Tp.blS (xj (by decide)))
    (TpB.cons (Tp.sQ Tp.nonS (xj (by decide)))
    (TpB.cons (Tp.sQ (Tp.strS (by decide +kernel) (by decide +kernel)) (xj (by decide)))
    (TpB.cons (Tp.sQ (Tp.lS (Tp.lst (TpA.cons (Tp.ofI Tp.int) TpA.nil))) (xj (by decide)))
    (TpB.cons (Tp.tupQ (TpA.cons (Tp.ofI Tp.int) TpA.nil) (λ_ _=>rfl))
    (TpB.cons (Tp.sQ Tp.empS (xj (by decide)))
    (TpB.cons (Tp.qI (Tp.pow ⟨by decide,by decide,by decide⟩) (λx h1 h2=>Ys (.inr (Int.le_trans hb25 h1))))
    TpB.nil))))))))))) (wY rfl Tp.int) (by decide)))
   (TpS.seq (TpS.asg (T1:=tyI 0 3) (Tp.wide (wY rfl Tp.int) (by decide) (by decide)))
   (TpS.seq (TpS.asg (T1:=yH (tyQ 2 1407 (noStr b)) 5 5) (Tp.lstT (TpB.cons (Tp.lxQ (Tp.catXr (Tp.leL (Tp.rep (c:=0) (c':=3) (Tp.lst (TpA.cons (Tp.ofI (Tp.var rfl) (by omega) (by omega)) TpA.nil)) (Tp.wide (Tp.var rfl) (by decide) (by decide)))) (Tp.oneX (Tp.var rfl))) Yi)
    (TpB.cons (Tp.lenQ (Tp.lst TpA.nil) (λds _ h=>Yx (.inl (by omega))))
    (TpB.cons (Tp.lenQ (Tp.rep (c:=5) (c':=5) (Tp.lst (TpA.cons (Tp.ofI (Tp.var rfl) (by omega) (by omega)) TpA.nil)) Tp.int) (λds h _=>Yx (.inr (by omega))))
    (TpB.cons (Tp.tupQ (TpA.cons (Tp.ofI (Tp.var rfl) (by omega) (by omega)) TpA.nil) (λ_ _=>rfl))
    (TpB.cons (Tp.lxQ (Tp.catXl (Tp.catXr (Tp.leL (Tp.rep (c:=0) (c':=3) (Tp.lst (TpA.cons (Tp.ofI (Tp.var rfl) (by omega) (by omega)) TpA.nil)) (Tp.wide (Tp.var rfl) (by decide) (by decide)))) (Tp.oneX (Tp.var rfl))) (Tp.leL (Tp.rep (c:=0) (c':=3) (Tp.lst (TpA.cons (Tp.ofI (Tp.var rfl) (by omega) (by omega)) TpA.nil)) (Tp.wide (Tp.subI Tp.int (Tp.var rfl)) (by decide) (by decide))))) Yi)
    TpB.nil)))))))
   (TpS.seq (TpS.asg (T1:=tyQ 2 1407 (noStr b)) (Tp.ix (Tp.catT (Tp.var rfl) (Tp.lstT (TpB.cons (Tp.sQ Tp.nonS (vg (by decide)))
    (TpB.cons (Tp.qI (Tp.var rfl) (λ_ _ _=>rfl) (by omega) (by omega))
    (TpB.cons (Tp.sQ (Tp.strS (by decide +kernel) (by decide +kernel)) (vg (by decide)))
    (TpB.cons (Tp.sQ Tp.empS (vg (by decide)))
    (TpB.cons (Tp.lxQ (Tp.oneX (k:=1) (n:=200) (P:=Qz b) (Tp.sQ (Tp.lS (Tp.lst (TpA.cons (Tp.ofI (Tp.var rfl) (by omega) (by omega)) TpA.nil))) (xj (by decide)))) Yi)
    (TpB.cons (Tp.sQ Tp.blS (vg (by decide)))
    TpB.nil)))))))) (wY rfl Tp.int) (by decide)))
   (TpS.seq (TpS.asg (T1:=tyL 2 1407 0 3) (Tp.leL (Tp.takeU (c:=3) (hB rfl))))
   (TpS.seq (TpS.asg (T1:=tyI 0 3) (Tp.min2 (Tp.var rfl) (Tp.len (Tp.var rfl))))
   (TpS.seq (TpS.asg (T1:=tyD (.list [.list [.int 0],.list [.int 0,.int 0],.list [.int 0,.int 1],.list [.int 1],.list [.int 1,.int 0],.list [.int 1,.int 1]])) (Tp.lstD (TpD.cons (Tp.lstD (TpD.cons Tp.intD TpD.nil)) (TpD.cons (Tp.lstD (TpD.cons Tp.intD (TpD.cons Tp.intD TpD.nil))) (TpD.cons (Tp.lstD (TpD.cons Tp.intD (TpD.cons Tp.intD TpD.nil))) (TpD.cons (Tp.lstD (TpD.cons Tp.intD TpD.nil)) (TpD.cons (Tp.lstD (TpD.cons Tp.intD (TpD.cons Tp.intD TpD.nil))) (TpD.cons (Tp.lstD (TpD.cons Tp.intD (TpD.cons Tp.intD TpD.nil))) TpD.nil))))))))
   (TpS.seq (TpS.asg (T1:=yH (tyQ 3 9856 (W7 b)) 3 3) (Tp.lstT (TpB.cons (Tp.lxQ (Tp.catXl (Tp.catXr (Tp.sl (Tp.var rfl) TpO.none (TpO.some (Tp.var rfl))) (Tp.oneX (Tp.var rfl))) (Tp.sl (Tp.var rfl) (TpO.some (Tp.var rfl)) TpO.none)) Vt)
    (TpB.cons (Tp.lxQ (Tp.catXl (Tp.catXr (Tp.sl (Tp.var rfl) TpO.none (TpO.some (Tp.var rfl))) (Tp.oneX (Tp.var rfl))) (Tp.sl (Tp.var rfl) (TpO.some (Tp.var rfl)) TpO.none)) Vt)
    (TpB.cons (Tp.lxQ (Tp.catXl (Tp.catXr (Tp.sl (Tp.var rfl) TpO.none (TpO.some (Tp.var rfl))) (Tp.oneX (Tp.var rfl))) (Tp.sl (Tp.var rfl) (TpO.some (Tp.add (Tp.var rfl) Tp.int)) TpO.none)) Vt)
    TpB.nil)))))
   (TpS.seq (TpS.asg (T1:=yH (tyQ 3 9856 (W7 b)) 12 12) (Tp.catT (Tp.var rfl) (Tp.lstT (TpB.cons (Tp.dQ (Tp.takeD (c:=5) (Tp.var rfl)) (zdD [[0],[0,0],[0,1],[1],[1,0]] (by decide) (by decide) (by decide)) (zcf (by decide)))
    (TpB.cons (Tp.dQ (Tp.lstD (TpD.cons (Tp.lstD (TpD.cons Tp.intD TpD.nil)) (TpD.cons (Tp.lstD (TpD.cons Tp.intD (TpD.cons Tp.intD TpD.nil))) TpD.nil))) (zdD [[1],[0,1]] (by decide) (by decide) (by decide)) (Zm (by rfl)))
    (TpB.cons (Tp.dQ (Tp.lstD (TpD.cons (Tp.lstD (TpD.cons Tp.intD (TpD.cons Tp.intD TpD.nil))) (TpD.cons (Tp.lstD (TpD.cons Tp.intD (TpD.cons Tp.intD TpD.nil))) TpD.nil))) (zdD [[0,1],[0,1]] (by decide) (by decide) (by decide)) (Zm (by rfl)))
    (TpB.cons (Tp.dQ (Tp.lstD (TpD.cons (Tp.lstD (TpD.cons Tp.intD TpD.nil)) (TpD.cons (Tp.lstD (TpD.cons Tp.intD TpD.nil)) TpD.nil))) (zdD [[0],[0]] (by decide) (by decide) (by decide)) (Zm (by rfl)))
    (TpB.cons (Tp.dQ (Tp.rev3D (Tp.var rfl)) (zdD [[0,1],[0,0],[0]] (by decide) (by decide) (by decide)) (Zm (by rfl)))
    (TpB.cons (Tp.sQ (Tp.tupOfS (hB rfl)) (Wl (by decide)))
    (TpB.cons (Tp.sQ Tp.nonS (Wl (by decide)))
    (TpB.cons (Tp.sQ Tp.empS (Wl (by decide)))
    (TpB.cons (Tp.sQ (Tp.strS (by decide +kernel) (by decide +kernel)) (Wl (by decide)))
    TpB.nil))))))))))))
   (TpS.seq (TpS.asg (T1:=yH (tyQ 4 19714 Xp) 6 6) (Tp.repT (c:=6) (c':=6) (Tp.lstT (TpB.cons (Tp.tup2 (k:=3) (n:=9856) (P:=isI b) (P':=W7 b) (Tp.qI (Tp.var rfl) (λx h1 h2=>decide_eq_true (by omega)) (by omega) (by omega)) (Tp.ix (Tp.var rfl) (wY rfl Tp.int) (by decide)) zd9) TpB.nil)) Tp.int))
   (TpS.seq (TpS.asg (T1:=yH (tyQ 4 19714 Xp) 14 14) (Tp.catT (Tp.var rfl) (Tp.compL (T:=tyQ 3 9856 zak) (Tp.lstT (TpB.cons (Tp.qI Tp.int (λx h1 h2=>Vq (.inl (by omega))))
    (TpB.cons (Tp.qI Tp.int (λx h1 h2=>Vq (.inr (by omega))))
    (TpB.cons (Tp.qI Tp.int (λx h1 h2=>Vq (.inl (by omega))))
    (TpB.cons (Tp.qI (Tp.neg Tp.int) (λx h1 h2=>Vq (.inl (by omega))))
    (TpB.cons (Tp.sQ Tp.blS (XX (by decide)))
    (TpB.cons (Tp.sQ Tp.nonS (XX (by decide)))
    (TpB.cons (Tp.sQ (Tp.strS (by decide +kernel) (by decide +kernel)) (XX (by decide)))
    (TpB.cons (Tp.sQ (Tp.lS (Tp.lst (TpA.cons (Tp.ofI Tp.int) TpA.nil))) (XX (by decide)))
    TpB.nil))))))))) (Tp.tup2 (k:=3) (n:=9856) (P:=zak) (P':=λ_=>true) (Tp.var rfl) (Tp.lenQ (Tp.sl (hB rfl) TpO.none (TpO.some Tp.int)) (λ_ _ _=>rfl)) zeH))))
   (TpS.seq (TpS.asg (T1:=yH (tyQ 4 19714 Xp) 25 25) (Tp.catT (Tp.var rfl) (Tp.lstT (TpB.cons (Tp.tupQ (TpA.cons (Tp.ofI (Tp.var rfl) (by omega) (by omega)) (TpA.cons (Tp.ofL (hB rfl)) (TpA.cons (Tp.ofL (Tp.lst TpA.nil)) TpA.nil))) (λds h=>Wr (by omega)))
    (TpB.cons (Tp.tupQ (TpA.cons (Tp.ofI (Tp.var rfl) (by omega) (by omega)) TpA.nil) (λds h=>Wr (by omega)))
    (TpB.cons (Tp.sQ (Tp.lS (Tp.lst (TpA.cons (Tp.ofI (Tp.var rfl) (by omega) (by omega)) (TpA.cons (Tp.ofL (hB rfl)) TpA.nil)))) (jG (by decide)))
    (TpB.cons (Tp.qI (Tp.var rfl) (λ_ _ _=>rfl) (by omega) (by omega))
    (TpB.cons (Tp.sQ (Tp.lS (hB rfl)) (jG (by decide)))
    (TpB.cons (Tp.sQ Tp.nonS (jG (by decide)))
    (TpB.cons (Tp.sQ (Tp.strS (by decide +kernel) (by decide +kernel)) (jG (by decide)))
    (TpB.cons (Tp.sQ Tp.empS (jG (by decide)))
    (TpB.cons (Tp.tupQ TpA.nil (λds h=>Wr (by omega)))
    (TpB.cons (Tp.sQ Tp.blS (jG (by decide)))
    (TpB.cons (Tp.qI (Tp.pow ⟨by decide,by decide,by decide⟩) (λ_ _ _=>rfl))
    TpB.nil))))))))))))))
   (TpS.ret (Tp.ix (Tp.var rfl) (wY rfl Tp.int) (by decide))))))))))))))))))
  case qr=>exact λv H' o s t=>kk v H' o s t
end
theorem Fits.re {Γ:Cxt} {G:Hp} {Z:L2.St} {x:Nat} {T:Ty} {v:V} (f:Fits Γ G Z) (h:Z[x]?=some (some v)) (t:T.p G v):Fits (Γ.set x (some T)) G Z:=by
 have q:=f.set (i:=x) t
 have e:Z.set x (some v)=Z:=by
  refine List.ext_getElem? λj=>?_
  rw [List.getElem?_set]
  by_cases z:x=j
  ·subst z
   rw [if_pos rfl,if_pos (List.getElem?_eq_some_iff.mp h).1,h]
  ·rw [if_neg z]
 rwa [e] at q
def tySt (b:Nat):Ty:=⟨λG v=>∃ (a:Addr) (l:List Int),v=.ref a/\G a=some (.lst (l.map V.int))/\YX b l,λs ⟨a,l,e,h,g⟩=>⟨a,l,e,s _ _ h,g⟩⟩
section
variable {K:W.Frag} {s:Addr} {Γ:Cxt} {te tf:TE} {x b:Nat}
theorem zbx (b2:2<=b) (b16:b<=16) (hd:Γ[x]?=some (some (Uo (.ref s)))) (h:Tp (sV s) Γ te (tyI b b)) (h':Tp (sV s) Γ tf (tyI b b)):Tp (sV s) Γ (zbE yZ [] E0 (yQ (Vc x) (yQ te (yQ tf qD)))) (tySt b):=λZ H Q o f q=>by
 obtain⟨v,e,t⟩:=f.2 x _ hd
 refine⟨v,e,h Z H _ o f λu H1 o1 s1 ⟨m,e1,a1,b1⟩=>h' Z H1 _ o1 (f.same s1) λu2 H2 o2 s2 ⟨m2,e2,a2,c2⟩=>⟨s,b,b,by rw [show v=V.ref s from t,e1,e2,show m=(b:Int) by omega,show m2=(b:Int) by omega];rfl,o2,b2,Nat.le_refl _,b16,λl ms H' S hl hm g=>q _ H' S.st (s1.trans (s2.trans S.aw)) ⟨l,ms,rfl,?_,g⟩⟩⟩
 show aw [s] H' l=_
 rw [zL (λz=>o2.ne hl (List.mem_singleton.mp z))]
 exact hm
theorem tySt.ints {G:Hp} {v:V} (b16:b<=16) (t:(tySt b).p G v):∃ m,1<=m/\m<=4/\(tyL 0 100 m m).p G v:=by
 obtain⟨a,l,e,h,g⟩:=t
 refine⟨l.length,List.length_pos_iff.mpr g.ne,g.len,a,_,e,h,by rw [List.length_map];exact Nat.le_refl _,by rw [List.length_map];exact Nat.le_refl _,λu hu=>?_⟩
 obtain⟨i,hi,rfl⟩:=List.mem_map.mp hu
 exact Th.int (by have:=g.fig i hi;omega) (Nat.le_refl _)
theorem Ue {w:View} (b16:b<=16) (h:Γ[x]?=some (some (tySt b))):Tp w Γ (Vc x) (tyL 1 100 1 4):=Tp.sub (Tp.var h) λG v t=>by
 obtain⟨m,h1,h4,a,vs,e,g,l1,l2,r⟩:=tySt.ints b16 t
 exact⟨a,vs,e,g,by omega,by omega,λu hu=>(r u hu).le (by decide) (Nat.le_refl _)⟩
theorem zcY {w:View} {m:Nat} (hm:1<=m) (hm4:m<=4) (h:Γ[x]?=some (some (tyL 0 100 m m))):Tp w Γ (tOp zaj (Vc x) (tOp zdj (UT (yQ (tC (.int 0)) qD)) (tOp (rI0 λx y=>.int (x-y)) (tC (.int 5)) (tCB (λxs H Q=>∃ p ys,xs=[.ref p]/\(SqL K H p ys\/SqT K H p ys)/\Q (.int ys.length) H) (yQ (Vc x) qD))))) (tyQ 3 2000 (noStr b)) :=
 Tp.lenQ (Tp.catT (Tp.var h) (Tp.rep (c:=5-m) (c':=5-m) (Tp.lst (TpA.cons (Tp.ofI Tp.int) TpA.nil)) (Tp.wide (Tp.subI Tp.int (Tp.len (Tp.var h))) (by omega) (by omega)) (by omega) (by omega)) (by omega)) (λds h1 h2=>Yx (.inr (by omega))) (by decide) (by omega)
theorem zeo {w:View} (b16:b<=16) (h:Γ[x]?=some (some (tySt b))):Tp w Γ (tOp zaj (Vc x) (tOp zdj (UT (yQ (tC (.int 0)) qD)) (tOp (rI0 λx y=>.int (x-y)) (tC (.int 5)) (tCB (λxs H Q=>∃ p ys,xs=[.ref p]/\(SqL K H p ys\/SqT K H p ys)/\Q (.int ys.length) H) (yQ (Vc x) qD))))) (tyQ 3 2000 (noStr b)):=λZ H Q o f q=>by
 obtain⟨v,e,t⟩:=f.2 x _ h
 obtain⟨m,h1,h4,t⟩:=tySt.ints b16 t
 have hx:x<Γ.length:=(List.getElem?_eq_some_iff.mp h).1
 exact zcY h1 h4 (by rw [List.getElem?_set,if_pos rfl,if_pos hx]) Z H Q o (Fits.re f e t) q
end
section
variable {P:Program} {w:World} {K:W.Frag} {mg:Str->Option Value} {base:Heap}
def vI:Sp:=λvs H Q _=>∃ (s:Addr) (b:Nat),vs=[.ref s,.int b]/\Sto H s/\2<=b/\b<=16/\∀ (v:V) (H':Hp),Sto H' s->Same (aw [s] H) (aw [s] H')->(tyQ 3 2000 (noStr b)).p (aw [s] H') v->Q v H'
theorem yu:zF ["store","base","stretch","at","odd","bent","some"] ["store","base"] (zu wH):={}
set_option maxHeartbeats 0 in
theorem qJ {f f1 f2:Addr} {fd fd1 fd2:FuncData} (D:Df K mg "_law_no_stretch" wH Ah f fd) (zA:Df K mg "_law_take" yD Ad f1 fd1) (zP:Df K mg "_law_stretch" yp Aj f2 fd2) (T:Blt mg):FnOk P w K mg base CX0 3 f fd Ah vI:=by
 have zO:FnOk P w K mg base CX0 1 f1 fd1 Ad yz:=xn zA T
 have wB:FnOk P w K mg base CX0 2 f2 fd2 Aj yZ:=vG zP zA T
 refine D.fn.ok yu (λvs H Q E h=>?_) (λcdv A outer s H vs Q E hr h=>?_)
 ·obtain⟨s,b,rfl,_⟩:=h;rfl
 ·obtain⟨s,b,rfl,St,b2,b16,kk⟩:=h
  have HU:=Wk hr
  refine⟨_,(zq (zG (i:=2) yu.nd rfl (Or.inl rfl) (zU zP wB (hr.mono (by decide)) (zf (pv 0) (zf (pv 1) (zf (pv 1) zg)))))
   (zq (zG (i:=3) yu.nd rfl (Or.inl rfl) (zU zA zO (hr.mono (by decide)) (zf (pv 0) (zf (zB (xT K) (by rfl) T.n_len PySem.boot_len (zf (pv 2) zg)) zg))))
   (zq (zG (i:=4) yu.nd rfl (Or.inl rfl) (Ja (yF K) (zW (zp (pei (pv 1)) (zp (pei (W2 ZW zr)) (zp (pei wZ) (zp (pei wZ) (zp (pei wD) (yC (zp (zW (zp zY zR)) (zp (pei (zJ ZZ zr zr)) (zp (Yq (zp zY zR)) (zp (pei uT) zR))))))))))) (zU zA zO (hr.mono (by decide)) (zf (pv 0) (zf zr zg))) (λ_ _=>rfl)))
   (zq (zG (i:=5) yu.nd rfl (Or.inl rfl) (zJ yq (zJ yq (yt (uy K) (pv 2) xx (yJ (pv 3))) (zQ (zf (pv 4) zg))) (yt (uy K) (pv 2) (yJ (zJ vU (pv 3) zr)) xx)))
   (zq (zbB (i:=6) yu.nd rfl (Or.inl rfl) (zW (zp (pei (pv 5)) (zp (pei (pv 5)) (zp (pei (pv 5)) (zp (zW zR) (zp (pei (zJ yq (pv 2) (zJ Y7 (zQ (zf zr zg)) (zJ Zz zr (zB (xT K) (by rfl) T.n_len PySem.boot_len (zf (pv 2) zg)))))) (zp (pei (xf jn (by rfl) T.n_tuple boot_tuple (zf (pv 2) zg))) (zp (pei wD) (yC (zp zY (zp (pei uT) zR))))))))))))
   (zy (zM (yd (yF K) (Jd yq (pv 6) (zW (zp (pei wZ) (zp (pei (zQ (zf (pv 2) zg))) (zp (Yq zR) (yC (zp (pei (zJ ZZ zr zr)) zR))))))) (zU zA zO (hr.mono (by decide)) (zf (pv 0) (zf zr zg))) (λ_ _=>rfl))))))))),?_⟩
  have hb25:(b:Int)<=10^Int.toNat 25:=Int.le_trans (show (b:Int)<=16 by omega) (by decide)
  refine TpS.go (w:=sV s) (Γ:=[some (Uo (.ref s)),some (tyI b b),none,none,none,none,none]) (Γ':=[some zd6]) (T:=tyQ 3 2000 (noStr b)) ?ty St (Fits.cons rfl (Fits.cons ⟨b,rfl,Int.le_refl _,Int.le_refl _⟩ (Fits.any [none,none,none,none,none]))) (λ_ _ _ _ h=>h.no.elim) ?qr
  case ty=>exact
   (TpS.seq (TpS.asg (zbx b2 b16 rfl (Tp.var rfl) (Tp.var rfl)))
   (TpS.seq (TpS.asg (T1:=tyI 0 3) (Tp.wide (wY rfl (Tp.len (Ue b16 rfl))) (by decide) (by decide)))
   (TpS.seq (TpS.asg (Tp.ix (T:=tyQ 1 200 (Qz b)) (Tp.lstT (TpB.cons (Tp.qI (Tp.var rfl) (λx h1 h2=>Ys (.inr (by omega))) (by omega) (by omega))
    (TpB.cons (Tp.qI (Tp.neg Tp.int) (λx h1 h2=>Ys (.inl (by omega))))
    (TpB.cons (Tp.sQ Tp.blS (xj (by decide)))
    (TpB.cons (Tp.sQ Tp.blS (xj (by decide)))
    (TpB.cons (Tp.sQ Tp.nonS (xj (by decide)))
    (TpB.cons (Tp.sQ (Tp.strS (by decide +kernel) (by decide +kernel)) (xj (by decide)))
    (TpB.cons (Tp.sQ (Tp.lS (Tp.lst (TpA.cons (Tp.ofI Tp.int) TpA.nil))) (xj (by decide)))
    (TpB.cons (Tp.qI (Tp.pow ⟨by decide,by decide,by decide⟩) (λx h1 h2=>Ys (.inr (Int.le_trans hb25 h1))))
    (TpB.cons (Tp.tupQ (TpA.cons (Tp.ofI Tp.int) TpA.nil) (λ_ _=>rfl))
    (TpB.cons (Tp.sQ Tp.empS (xj (by decide)))
    TpB.nil))))))))))) (wY rfl Tp.int) (by decide)))
   (TpS.seq (TpS.asg (T1:=tyQ 3 2000 (noStr b)) (Tp.bent (Tp.sl (Ue b16 rfl) TpO.none (TpO.some (Tp.var rfl))) (Tp.var rfl) (Tp.sl (Ue b16 rfl) (TpO.some (Tp.add (Tp.var rfl) Tp.int)) TpO.none) Yi))
   (TpS.seq (TpS.asg (T1:=yH (tyQ 3 2000 (noStr b)) 10 10) (Tp.lstT (TpB.cons (Tp.var rfl) (TpB.cons (Tp.var rfl) (TpB.cons (Tp.var rfl)
    (TpB.cons (Tp.lenQ (Tp.lst TpA.nil) (λds _ h=>Yx (.inl (by omega))))
    (TpB.cons (zeo b16 rfl)
    (TpB.cons (Tp.sQ (Tp.tupOfS (Ue b16 rfl)) (vg (by decide)))
    (TpB.cons (Tp.sQ Tp.nonS (vg (by decide)))
    (TpB.cons (Tp.sQ (Tp.strS (by decide +kernel) (by decide +kernel)) (vg (by decide)))
    (TpB.cons (Tp.qI Tp.int (λ_ _ _=>rfl))
    (TpB.cons (Tp.sQ Tp.empS (vg (by decide)))
    TpB.nil))))))))))))
   (TpS.ret (Tp.ix (Tp.catT (Tp.var rfl) (Tp.lstT (TpB.cons (Tp.sQ Tp.blS (vg (by decide)))
    (TpB.cons (Tp.lxQ (Tp.oneX (k:=2) (n:=404) (Tp.sQ (Tp.lS (Ue b16 rfl)) (xj (by decide)))) Yi)
    (TpB.cons (Tp.tupQ TpA.nil (λ_ _=>rfl))
    (TpB.cons (Tp.sQ (Tp.strS (by decide +kernel) (by decide +kernel)) (vg (by decide)))
    (TpB.cons (Tp.qI (Tp.pow ⟨by decide,by decide,by decide⟩) (λ_ _ _=>rfl))
    TpB.nil))))))) (wY rfl Tp.int) (by decide))))))))
  case qr=>exact λv H' o s t=>kk v H' o s t
def jx:Sp:=λvs H Q _=>∃ (bl fa:Addr) (zs:ZB) (fs:List Int),vs=[.ref bl,.ref fa]/\H bl=some (.lst (zs.map λz=>V.ref z.1))/\(∀ z∈zs,H z.1=some (.lst (z.2.map V.int)))/\H fa=some (.lst (fs.map V.int))/\zs.length<=100/\∀ H',Same H H'->Q (.bl (Zf (zs.map (·.2)) fs)) H'
theorem Qg:zF ["bad","figures"] ["bad","figures"] (zu vV):={}
theorem YM {f:Addr} {fd:FuncData} (D:Df K mg "begins_one" vV Ac f fd) (T:Blt mg):FnOk P w K mg base CX0 1 f fd Ac jx:=by
 refine D.fn.ok Qg (λvs H Q E h=>?_) (λcdv A outer s H vs Q E hr h=>?_)
 ·obtain⟨bl,fa,zs,fs,rfl,_⟩:=h;rfl
 ·obtain⟨bl,fa,zs,fs,rfl,hb,hz,hf,hl1,kk⟩:=h
  have HU:=Wk hr
  refine⟨_,(zy (zM (zB (zdC K rfl) (by rfl) T.n_any boot_any (zf (yU (show CScope (zu vV) _ "stretch" ["bad","figures"] ["figures"] [1] from {}) rfl (Yz K (pv 0)) (λ_ _ _ _=>xW) (λ_ _ _ _=>(Yt (zdo K HU) (yt (uy K) (pv 0) xx (yJ (zB (xT K) (by rfl) T.n_len PySem.boot_len (zf (pv 1) zg)))) (pv 1) (ye _)))) zg)))),?_⟩
  refine⟨_,rfl,bl,rfl,⟨_,SqL.of hb⟩,yN (K:=K) (a:=bl) (xs:=zs.map λz=>V.ref z.1) (λi ys H4=>ys=((zs.take i).map λz=>decide (z.2.take fs.length=fs)).map V.bl/\Same H H4) ⟨by simp,Same.refl _⟩ (λi ys H4 _ ⟨_,e⟩=>SqL.of (e _ _ hb)) ?_ ?_⟩
  ·rintro j x ys H4 hx ⟨rfl,s4⟩
   rw [List.getElem?_map] at hx
   obtain⟨z,hzj,e⟩:=Option.map_eq_some_iff.mp hx
   subst e
   have hzm:=List.mem_of_getElem? hzj
   refine⟨?_,?_⟩
   ·rw [List.length_map,List.length_map,List.length_take]
    exact Nat.lt_of_le_of_lt (Nat.le_trans (Nat.min_le_right _ _) hl1) (by decide)
   unfold Y5
   dsimp only
   rw [if_pos rfl]
   refine⟨_,rfl,_,rfl,fa,_,rfl,.inl (SqL.of (s4 _ _ hf)),_,rfl,z.1,_,rfl,SqL.of (s4 _ _ (hz z hzm)),λp hp=>?_⟩
   rw [List.length_map,Ww,<- List.map_take]
   refine⟨_,rfl,yI (z.2.take fs.length),yI fs,TrAt.ints (a:=p) (SqL.of zj),TrAt.ints (a:=fa) (SqL.of (zm hp _ _ (s4 _ _ hf))),(by rw [qL];decide),?_,s4.trans (zm hp)⟩
   rw [List.take_succ,hzj]
   have e2:=qx (z.2.take fs.length) fs
   show _++[V.bl (teq _ _)]=_
   rw [e2]
   simp
  ·rintro ys H4 ⟨rfl,s4⟩ Dd hD
   refine⟨Dd,_,rfl,SqL.of zj,?_⟩
   have q:=kk _ (s4.trans (zm hD (o:=.lst (((zs.take (zs.map λz=>V.ref z.1).length).map λz=>decide (z.2.take fs.length=fs)).map V.bl))))
   rw [List.length_map,List.take_length] at q ⊢
   unfold Zf at q
   rw [List.any_map] at q ⊢
   exact q
def zfo (ls:ZA) (fs:List Int) (H H':Hp) (v:V):Prop:=(lacks ls fs=false/\v=.non)\/(lacks ls fs=true/\∃ l,v=.ref l/\H l=none/\H' l=some (.lst ((yf ls fs).map V.int)))
def uB:Sp:=λvs H Q _=>∃ (bl fa:Addr) (zs:ZB) (fs:List Int),vs=[.ref bl,.ref fa]/\H bl=some (.lst (zs.map λz=>V.ref z.1))/\(∀ z∈zs,H z.1=some (.lst (z.2.map V.int)))/\H fa=some (.lst (fs.map V.int))/\zs.length<=100/\fs.length<=1000/\(∀ z∈zs,z.2≠[]/\z.2.length<=1000) /\
 ∀ v H',zfo (zs.map (·.2)) fs H H' v->Same H H'->Q v H'
theorem jU:zF ["bad","figures","start"] ["bad","figures"] (zu vD):={}
theorem WR {f f1 f2:Addr} {fd fd1 fd2:FuncData} (D:Df K mg "longest_stand" vD Ac f fd) (xH:Df K mg "lacks_all" wU Ac f1 fd1) (wj:FnOk P w K mg base CX0 2 f1 fd1 Ac ud)
  (uW:Df K mg "begins_one" vV Ac f2 fd2) (T:Blt mg):FnOk P w K mg base CX0 3 f fd Ac uB:=by
 have WW:FnOk P w K mg base CX0 1 f2 fd2 Ac jx:=YM uW T
 refine D.fn.ok jU (λvs H Q E h=>?_) (λcdv A outer s H vs Q E hr h=>?_)
 ·obtain⟨bl,fa,zs,fs,rfl,_⟩:=h;rfl
 ·obtain⟨bl,fa,zs,fs,rfl,hb,hz,hf,hl1,hl2,ne,kk⟩:=h
  refine⟨_,(zq (xF (ZD (vL (zU xH wj (hr.mono (by decide)) (zf (pv 0) (zf (pv 1) zg)))))
    (zy (zM wD))
    yh)
   (zq (jY PassesOwn.never rfl (wC rfl T.n_range (zf (zB (xT K) (by rfl) T.n_len PySem.boot_len (zf (pv 1) zg)) zg)) (yG (i:=2) jU.nd rfl (Or.inl rfl))
    (zy (xF (vL (zU uW WW (hr.mono (by decide)) (zf (pv 0) (zf (yt (uy K) (pv 1) (yJ (pv 2)) xx) zg))))
     (zy (zM (yt (uy K) (pv 1) (yJ (pv 2)) xx)))
     yh)))
   (zy (zM (zQ zg))))),?_⟩
  refine⟨_,rfl,_,rfl,bl,fa,zs,fs,rfl,hb,hz,hf,hl1,hl2,ne,λH1 s1=>⟨_,rfl,?_⟩⟩
  cases hL:lacks (zs.map (·.2)) fs with
  | false=>exact yV (kk _ _ (.inl ⟨hL,rfl⟩) s1)
  | true =>
   refine xJ ?_
   refine⟨_,rfl,fa,_,rfl,.inl (SqL.of (s1 _ _ hf)),(((fs.map V.int).length:Nat):Int),rfl,by rw [List.length_map];omega,by rw [List.length_map];omega,qt (lo:=0) (n:=(((fs.map V.int).length:Nat):Int).toNat) (λi Z H2=>∃ v1:Option V,Z=[some (.ref bl),some (.ref fa),v1]/\Same H H2/\∀ k,k<i->Zf (zs.map (·.2)) (fs.drop k)=false) ⟨none,rfl,s1,λk hk=>by omega⟩ ?_ ?_⟩
   ·rintro i Z H2 hi ⟨v1,rfl,s2,hno⟩
    have hi':i<fs.length:=by rw [List.length_map] at hi;omega
    refine⟨_,rfl,_,rfl,_,rfl,_,rfl,fa,_,rfl,SqL.of (s2 _ _ hf),λp hp=>?_⟩
    rw [Int.zero_add,Ym,<- List.map_drop]
    have t:=s2.trans (zm hp (o:=.lst ((fs.drop i).map V.int)))
    refine⟨bl,p,zs,fs.drop i,rfl,t _ _ hb,λz hzm=>t _ _ (hz z hzm),zj,hl1,λH3 s3=>⟨_,rfl,?_⟩⟩
    have t3:=t.trans s3
    cases hB:Zf (zs.map (·.2)) (fs.drop i) with
    | true =>
     refine yV ⟨_,rfl,_,rfl,_,rfl,fa,_,rfl,SqL.of (t3 _ _ hf),λq hq=>?_⟩
     rw [Ym,<- List.map_drop]
     refine kk _ _ (.inr ⟨hL,q,rfl,t3.free hq,?_⟩) (t3.trans (zm hq))
     rw [zj,zc1 (by omega) hno hB]
    | false =>
     refine xJ ⟨_,rfl,t3,λk hk=>?_⟩
     by_cases e:k<i
     ·exact hno k e
     ·have:k=i:=by omega
      rw [this];exact hB
   ·rintro Z H2 ⟨v1,rfl,s2,hno⟩
    refine⟨(by decide:0<=sizeLine),λq hq=>kk _ _ (.inr ⟨hL,q,rfl,s2.free hq,?_⟩) (s2.trans (zm hq))⟩
    rw [zj,zaV (λk hk=>hno k (by rw [List.length_map];omega))]
    rfl
end
section
variable {P:Program} {w:World} {K:W.Frag} {mg:Str->Option Value} {base:Heap} {T0:Addr}
def lamP:Pos:=⟨99,29,99,59⟩
def zeU:Scope:=match (yR yg).getLast? with
 | some (.Return (some (.Call _ _ [⟨_,.Lambda _ _ sc _,_⟩] _)) _)=>sc
 | _=>zu yg
theorem zfi:zF ["each"] ["each"] zeU:={}
theorem zdS {H H':Hp} {p:Addr} {o:HO} (s:Same H H') (h:H p=none):Same H (upd H' p o):=λb u e=>by rw [zx (zz e h)];exact s b u e
def SameL (T:Addr) (H H':Hp):Prop:=∀ b u,b≠T->H b=some u->H' b=some u
abbrev LT (T:Addr) (H:Hp):Prop:=Wz T lamP ((("stands_of" : Str)++(".<locals>." : Str))++("<lambda>" : Str)) H
theorem SameL.of {T:Addr} {H H':Hp} (s:Same H H'):SameL T H H':=λb u _ e=>s b u e
theorem SameL.trans {T:Addr} {H H1 H2:Hp} (a:SameL T H H1) (b:SameL T H1 H2):SameL T H H2:=λc u h e=>b c u h (a c u h e)
theorem LT.same {T:Addr} {H H':Hp} (h:LT T H) (s:Same H H'):LT T H':=by
 rcases h with h | ⟨c,h1,h2⟩
 ·exact .inl (s _ _ h)
 ·exact .inr ⟨c,s _ _ h1,s _ _ h2⟩
theorem LT.lst {T:Addr} {H:Hp} (h:LT T H) {b:Addr} {xs:List V} (e:H b=some (.lst xs)):b≠T:=λz=>by
 rw [z] at e
 rcases h with h | ⟨c,h,_⟩
 ·rw [h] at e;cases e
 ·rw [h] at e;cases e
theorem LT.tup {T:Addr} {H:Hp} (h:LT T H) {b:Addr} {xs:List V} (e:H b=some (.tup xs)):b≠T:=λz=>by
 rw [z] at e
 rcases h with h | ⟨c,h,_⟩
 ·rw [h] at e;cases e
 ·rw [h] at e;cases e
theorem LT.none {T:Addr} {H:Hp} (h:LT T H) {b:Addr} (e:H b=none):b≠T:=λz=>by
 rw [z] at e
 rcases h with h | ⟨c,h,_⟩
 ·rw [h] at e;cases e
 ·rw [h] at e;cases e
def Zh (T:Addr):Sp:=λvs H Q _=>∃ (bl:Addr) (zs:ZB),vs=[.ref bl]/\H bl=some (.lst (zs.map λz=>V.ref z.1))/\(∀ z∈zs,H z.1=some (.lst (z.2.map V.int)))/\zs.length<=4/\(∀ z∈zs,z.2≠[]/\z.2.length<=4)/\LT T H /\
 ∀ (D:Addr) (ws:ZB) (H':Hp),H D=none->H' D=some (.lst (ws.map λz=>V.ref z.1))->(∀ z∈ws,H z.1=none/\H' z.1=some (.lst (z.2.map V.int))/\z.1≠D)->StandsL (zs.map (·.2)) (ws.map (·.2))->ws.length<=13->SameL T H H'->LT T H'->Q (.ref D) H'
theorem ut:zF ["bad","found","stretch","size","stand"] ["bad"] (zu yg):={}
theorem JM {f f1 c:Addr} {fd fd1:FuncData} (D:Df K mg "stands_of" yg ["bad"] f fd) (hc:fd.code=.ref c) (hcT:W.codeHdIn K c T0=true) (hBM:base.BuiltinsAt mg T0) (hgT:mainGlobals≠T0) (xH:Df K mg "lacks_all" wU Ac f1 fd1) (wj:FnOk P w K mg base CX0 2 f1 fd1 Ac ud) (T:Blt mg) :
  FnOk P w K mg base CX0 6 f fd ["bad"] (Zh T0):=by
 obtain⟨oc,od,kV,doc,pm,an,cdv,ct,osl,rfl,lk,hcd⟩:=D.fn.ex
 obtain rfl:cdv=.ref c:=hc
 refine zdF lk hcd ut (λvs H Q E h=>?_) (λA outer s H vs Q E hr h=>?_)
 ·obtain⟨bl,zs,rfl,_⟩:=h;rfl
 ·obtain⟨bl,zs,rfl,hb,hz,h4,hst,hLT,kk⟩:=h
  have HU:=Wk hr
  have lam_body:∀ (f' c':Addr) (s':Shared) (H':Hp) (z:Addr×List Int),H' z.1=some (.lst (z.2.map V.int))->∃ t,PE (YG CX0 P w K mg base ["each"] ((("stands_of" : Str)++(".<locals>." : Str))++("<lambda>" : Str)) zeU f' (.ref c') (A.deeper (envOfC "stands_of" (zu yg) s.heap.objs.size f (.ref c))).in1.in1 (envOfC "stands_of" (zu yg) s.heap.objs.size f (.ref c) :: outer) s' H' E0)
    (match (yR yg).getLast? with
     | some (.Return (some (.Call _ _ [⟨_,.Lambda _ b _ _,_⟩] _)) _)=>b
     | _=>.Constant .none 0 ⟨0,0,0,0⟩) t /\
    t (start ["each"] [.ref z.1]) H' λv H2=>∃ p,v=.ref p/\H' p=none/\H2=upd H' p (.tup [.int z.2.length,.ref z.1]):=by
   intro f' c' s' H' z hz'
   refine⟨_,(yX (zf (zB (xT K) (by rfl) T.n_len PySem.boot_len (zf (pv 0) zg)) (zf (pv 0) zg))),?_⟩
   refine⟨_,rfl,z.1,_,rfl,.inl (SqL.of hz'),_,rfl,(by show 2<=sizeLine;decide),λp hp=>⟨p,rfl,hp,?_⟩⟩
   rw [List.length_map]
  refine Exists.elim (?key:∃ t,PSs (YG CX0 P w K mg base ["bad","found","stretch","size","stand"] "stands_of" (zu yg) f (.ref c) A outer s H E).nox (yR yg) t/\t { nx:=λ_ H'=>Q .non H',rt:=Q } (start ["bad","found","stretch","size","stand"] [.ref bl]) H) λt h=>⟨t,h.1.nox,h.2⟩
  refine⟨_,(zq (zG (i:=1) ut.nd rfl (Or.inl rfl) (zQ (zf (zQ zg) zg)))
   (zq (jY PassesOwn.never rfl (Yz K (pv 0)) (yG (i:=2) ut.nd rfl (Or.inl rfl))
    (zy (jY PassesOwn.never rfl (zck rfl T.n_range (zf zr (zf (zB (xT K) (by rfl) T.n_len PySem.boot_len (zf (pv 2) zg)) zg))) (yG (i:=3) ut.nd rfl (Or.inl rfl))
     (zq (zG (i:=4) ut.nd rfl (Or.inl rfl) (yt (uy K) (pv 2) xx (yJ (pv 3))))
     (zy (xF (PW.pt (zfs (zZ (Uq K HU) (pv 4) (pv 1) (by with_unfolding_all rfl)) (zdX (vL (zU xH wj (hr.mono (by decide)) (zf (pv 0) (zf (pv 4) zg)))))))
      (zy (xX (Q5 PySem.F.plainAttrs_list PySem.F.slot_list_append PySem.F.type_list_append jH (pv 1) (zf (pv 4) zg))))
      yh))))))
   (zy (zM (zbd (k:=1) (pv 1) rfl T.n_sorted (hr.mono (by decide)) rfl rfl rfl hcT hBM hgT zfi (λ_ _ _ _=>rfl) lam_body))))),?_⟩
  have hls:∀ st∈zs.map (·.2),st≠[]/\st.length<=4:=λst h=>by obtain⟨z,hz,rfl⟩:=List.mem_map.mp h;exact hst z hz
  refine⟨(by decide:0<=sizeLine),λe0 he0=>⟨(by show 1<=sizeLine;decide),λfo hfo=>?_⟩⟩
  have hfoH:H fo=none:=(zm he0).free hfo
  have nef:e0≠fo:=λz=>by rw [<- z,zj] at hfo;cases hfo
  let Inv1:ZB->(List Int->Prop)->Hp->Prop:=λws M H2=>H2 fo=some (.lst (ws.map λz=>V.ref z.1))/\(∀ z∈ws,H z.1=none/\H2 z.1=some (.lst (z.2.map V.int))/\z.1≠fo)/\(ws.map (·.2)).Nodup/\(∀ x,x∈ws.map (·.2)↔M x)/\Same H H2
  let M1:Nat->List Int->Prop:=λi x=>x=[]\/∃ z∈zs.take i,∃ k,1<=k/\k<z.2.length/\x=z.2.take k/\lacks (zs.map (·.2)) x=true
  refine⟨_,rfl,bl,rfl,⟨_,SqL.of ((zm he0).trans (zm hfo) _ _ hb)⟩,zae (K:=K) (a:=bl) (xs:=zs.map λz=>V.ref z.1) (λi Z H2=>∃ (v2 v3 v4:Option V) (ws:ZB),Z=[some (.ref bl),some (.ref fo),v2,v3,v4]/\Inv1 ws (M1 i) H2/\ws.length<=1+3*i)
   ⟨none,none,none,[(e0,[])],rfl,⟨zj,λz hz'=>?_,by simp,λx=>?_,(zm he0).trans (zm hfo)⟩,by simp⟩ (λi Z H2 _ ⟨_,_,_,_,_,⟨_,_,_,_,e⟩,_⟩=>SqL.of (e _ _ hb)) ?_ ?_⟩
  ·have e:z=(e0,[]):=by simpa using hz'
   subst e
   exact⟨he0,by rw [zx nef,zj];rfl,nef⟩
  ·constructor
   ·intro hx
    exact .inl (by simpa using hx)
   ·rintro (rfl | ⟨z,hz',_⟩)
    ·simp
    ·simp at hz'
  ·rintro i x Z H2 hx ⟨v2,v3,v4,ws,rfl,⟨hF,hW,ndW,hM,sm⟩,hlen⟩
   rw [List.getElem?_map] at hx
   obtain⟨z,hzj,e⟩:=Option.map_eq_some_iff.mp hx
   subst e
   have hzm:=List.mem_of_getElem? hzj
   have hi4:i<zs.length:=(List.getElem?_eq_some_iff.mp hzj).1
   obtain⟨hne,hz4⟩:=hst z hzm
   have hpos:0<z.2.length:=List.length_pos_iff.mpr hne
   refine⟨_,rfl,z.1,_,rfl,.inl (SqL.of (sm _ _ (hz z hzm))),1,_,rfl,?_,?_⟩
   ·rw [List.length_map];omega
   rw [List.length_map]
   refine qt (lo:=1) (n:=((z.2.length:Int)-1).toNat) (λj Z H3=>∃ (v3 v4:Option V) (ws:ZB),Z=[some (.ref bl),some (.ref fo),some (.ref z.1),v3,v4]/\Inv1 ws (λx=>M1 i x\/∃ k,1<=k/\k<=j/\x=z.2.take k/\lacks (zs.map (·.2)) x=true) H3/\ws.length<=1+3*i+j)
    ⟨_,_,ws,rfl,⟨hF,hW,ndW,λx=>?_,sm⟩,hlen⟩ ?_ ?_
   ·rw [hM]
    constructor
    ·exact .inl
    ·rintro (h | ⟨k,h1,h2,_⟩)
     ·exact h
     ·omega
   ·rintro j Z H3 hj ⟨v3,v4,ws,rfl,⟨hF,hW,ndW,hM,sm⟩,hlen⟩
    have hj':j+1<z.2.length:=by omega
    refine⟨_,rfl,_,rfl,_,rfl,z.1,_,rfl,SqL.of (sm _ _ (hz z hzm)),λp hp=>?_⟩
    rw [show (1:Int)+(j:Int)=((j+1:Nat):Int) by omega,Ww,<- List.map_take]
    have sm2:=sm.trans (zm hp (o:=.lst ((z.2.take (j+1)).map V.int)))
    have hF2:(upd H3 p (.lst ((z.2.take (j+1)).map V.int))) fo=some (.lst (ws.map λz=>V.ref z.1)):=zm hp _ _ hF
    have hW2:∀ y∈ws,H y.1=none/\(upd H3 p (.lst ((z.2.take (j+1)).map V.int))) y.1=some (.lst (y.2.map V.int))/\y.1≠fo:=λy hy=>⟨(hW y hy).1,zm hp _ _ (hW y hy).2.1,(hW y hy).2.2⟩
    have npf:p≠fo:=λy=>by rw [y,hF] at hp;cases hp
    have hpH:H p=none:=sm.free hp
    generalize hx:z.2.take (j+1)=x at *
    have hxl:x.length<=4:=by rw [<- hx,List.length_take];omega
    have stay:(x∈ws.map (·.2)\/lacks (zs.map (·.2)) x=false)->∀ y,y∈ws.map (·.2)↔(M1 i y\/∃ k,1<=k/\k<=j+1/\y=z.2.take k/\lacks (zs.map (·.2)) y=true):=λhor y=>by
     constructor
     ·intro hy
      rcases (hM y).mp hy with h | ⟨k,h1,h2,h3⟩
      ·exact .inl h
      ·exact .inr ⟨k,h1,by omega,h3⟩
     ·rintro (h | ⟨k,h1,h2,h3,h4⟩)
      ·exact (hM y).mpr (.inl h)
      ·by_cases hk:k<=j
       ·exact (hM y).mpr (.inr ⟨k,h1,hk,h3,h4⟩)
       ·have:k=j+1:=by omega
        rw [this,hx] at h3
        rw [h3] at h4 ⊢
        rcases hor with h | h
        ·exact h
        ·rw [h] at h4;cases h4
    refine⟨_,rfl,_,rfl,fo,_,(ws.map (·.2)).map yI,yI x,rfl,SqL.of hF2,TrsAt.lists (λy hy=>(hW2 y hy).2.1),TrAt.ints (a:=p) (SqL.of zj),Nat.le_trans (xU _) (by decide),_,rfl,?_⟩
    rw [if_pos rfl,Yn]
    by_cases hin:x∈ws.map (·.2)
    ·rw [decide_eq_true hin]
     refine xJ ?_
     exact xJ ⟨_,_,ws,rfl,⟨hF2,hW2,ndW,stay (.inl hin),sm2⟩,by omega⟩
    ·rw [decide_eq_false hin]
     refine yV ?_
     refine⟨_,rfl,_,rfl,bl,p,zs,x,rfl,sm2 _ _ hb,λy hy=>sm2 _ _ (hz y hy),zj,by omega,by omega,λy hy=>⟨(hst y hy).1,Nat.le_trans (hst y hy).2 (by decide)⟩,λH4 s4=>⟨_,rfl,?_⟩⟩
     have sm4:=sm2.trans s4
     have hF4:=s4 _ _ hF2
     have hW4:∀ y∈ws,H y.1=none/\H4 y.1=some (.lst (y.2.map V.int))/\y.1≠fo:=λy hy=>⟨(hW2 y hy).1,s4 _ _ (hW2 y hy).2.1,(hW2 y hy).2.2⟩
     have hp4:=s4 _ _ (zj (H:=H3) (a:=p) (o:=.lst (x.map V.int)))
     cases hLk:lacks (zs.map (·.2)) x with
     | false=>exact xJ ⟨_,_,ws,rfl,⟨hF4,hW4,ndW,stay (.inr hLk),sm4⟩,by omega⟩
     | true =>
      refine yV ⟨_,rfl,.inl ⟨rfl,_,SqL.of hF4⟩,_,rfl,fo,_,_,rfl,rfl,hF4,by rw [List.length_map];exact Nat.lt_of_le_of_lt (show ws.length<=100 by omega) (by decide),?_⟩
      refine⟨_,_,ws++[(p,x)],rfl,⟨by rw [zj,List.map_append];rfl,λy hy=>?_,?_,λy=>?_,zdS sm4 hfoH⟩,by rw [List.length_append,List.length_singleton];omega⟩
      ·rcases List.mem_append.mp hy with hy | hy
       ·obtain⟨a1,a2,a3⟩:=hW4 y hy
        exact⟨a1,by rw [zx a3];exact a2,a3⟩
       ·rw [List.mem_singleton.mp hy]
        exact⟨hpH,by rw [zx npf];exact hp4,npf⟩
      ·rw [List.map_append]
       refine List.nodup_append.mpr ⟨ndW,by simp,λa ha b hb'=>?_⟩
       have e:b=x:=by simpa using hb'
       rw [e]
       exact λq=>hin (q▸ha)
      ·rw [List.map_append,List.mem_append]
       constructor
       ·rintro (h | h)
        ·rcases (hM y).mp h with h | ⟨k,h1,h2,h3⟩
         ·exact .inl h
         ·exact .inr ⟨k,h1,by omega,h3⟩
        ·have e:y=x:=by simpa using h
         rw [e]
         exact .inr ⟨j+1,by omega,Nat.le_refl _,hx.symm,hLk⟩
       ·rintro (h | ⟨k,h1,h2,h3,h4⟩)
        ·exact .inl ((hM y).mpr (.inl h))
        ·by_cases hk:k<=j
         ·exact .inl ((hM y).mpr (.inr ⟨k,h1,hk,h3,h4⟩))
         ·have:k=j+1:=by omega
          rw [this,hx] at h3
          exact .inr (by simp [h3])
   ·rintro Z H3 ⟨v3,v4,ws,rfl,⟨hF,hW,ndW,hM,sm⟩,hlen⟩
    refine⟨_,_,_,ws,rfl,⟨hF,hW,ndW,λx=>?_,sm⟩,by omega⟩
    rw [hM]
    constructor
    ·rintro ((h | ⟨y,hy,h⟩) | ⟨k,h1,h2,h3⟩)
     ·exact .inl h
     ·exact .inr ⟨y,by rw [List.take_succ];exact List.mem_append_left _ hy,h⟩
     ·exact .inr ⟨z,by rw [List.take_succ,hzj];simp,k,h1,by omega,h3⟩
    ·rintro (h | ⟨y,hy,k,h1,h2,h3⟩)
     ·exact .inl (.inl h)
     ·rw [List.take_succ,hzj] at hy
      rcases List.mem_append.mp hy with hy | hy
      ·exact .inl (.inr ⟨y,hy,k,h1,h2,h3⟩)
      ·have e:y=z:=by simpa using hy
       rw [e] at h2 h3
       exact .inr ⟨k,h1,by omega,h3⟩
  ·rintro Z H2 ⟨v2,v3,v4,ws,rfl,⟨hF,hW,ndW,hM,sm⟩,hlen⟩
   rw [List.length_map] at hM hlen
   refine⟨_,rfl,fo,ws,rfl,hF,λz hz'=>(hW z hz').2.1,ndW,by omega,hLT.same sm,λD ws' H3 hD hD3 up lt pm pw=>?_⟩
   have lt2:=hLT.same sm
   have inw:∀ z∈ws',z∈ws:=λz hz'=>pm.mem_iff.mp hz'
   refine kk D ws' _ (sm.free hD) zj (λz hz'=>?_) ⟨λx=>?_,by rw [List.pairwise_map];exact pw⟩ (by rw [pm.length_eq];omega) (λb u hb' e=>?_) ?_
   ·obtain⟨a1,a2,a3⟩:=hW z (inw z hz')
    have n1:z.1≠D:=zz a2 hD
    exact⟨a1,by rw [zx n1];exact up _ _ (lt2.lst a2) a2,n1⟩
   ·have e:x∈ws'.map (·.2)↔x∈ws.map (·.2):=(pm.map (·.2)).mem_iff
    rw [e,hM]
    show (x=[]\/_)↔(x=[]\/_)
    constructor
    ·rintro (h | ⟨z,hz',k,h1,h2,h3,h4⟩)
     ·exact .inl h
     ·rw [List.take_length] at hz'
      exact .inr ⟨z.2,List.mem_map.mpr ⟨z,hz',rfl⟩,k,h1,h2,h3,h4⟩
    ·rintro (h | ⟨st,hst',k,h1,h2,h3,h4⟩)
     ·exact .inl h
     ·obtain⟨z,hz',rfl⟩:=List.mem_map.mp hst'
      exact .inr ⟨z,by rw [List.take_length];exact hz',k,h1,h2,h3,h4⟩
   ·have q:=up b u hb' (sm _ _ e)
    rw [zx (zz q hD3)];exact q
   ·exact LT.same (show LT T0 H3 from lt) (zm hD3)
def plc (ls ws:ZA) (fs:List Int):V:=if lacks ls fs=true then .int ((ws.idxOf (yf ls fs):Nat):Int) else .non
theorem ZQ {x:List Int}:∀ {xs:ZA} {m:Nat},m<xs.idxOf x->∀ h:m<xs.length,xs[m]≠x
 | [],m,h,h'=>by simp at h'
 | y :: ys,m,h,h'=>by
  rw [List.idxOf_cons] at h
  by_cases e:y=x
  ·subst e;simp at h
  ·have e':(y == x)=false:=by simpa using e
   rw [e'] at h
   cases m with
   | zero=>simpa using e
   | succ m=>simpa using ZQ (x:=x) (xs:=ys) (m:=m) (by simpa using h) (by simpa using h')
def tQ:Sp:=λvs H Q _=>∃ (bl Dd fa:Addr) (zs ws:ZB) (fs:List Int),vs=[.ref bl,.ref Dd,.ref fa]/\H bl=some (.lst (zs.map λz=>V.ref z.1))/\(∀ z∈zs,H z.1=some (.lst (z.2.map V.int)))/\H Dd=some (.lst (ws.map λz=>V.ref z.1))/\(∀ z∈ws,H z.1=some (.lst (z.2.map V.int)))/\H fa=some (.lst (fs.map V.int))/\zs.length<=4/\ws.length<=13/\fs.length<=1000/\(∀ z∈zs,z.2≠[]/\z.2.length<=4) /\
 (lacks (zs.map (·.2)) fs=true->yf (zs.map (·.2)) fs∈ws.map (·.2))/\∀ H',Same H H'->Q (plc (zs.map (·.2)) (ws.map (·.2)) fs) H'
theorem ZR:zF ["bad","stands","figures","stand"] ["bad","stands","figures"] (zu vZ):={}
theorem Vg {f f1:Addr} {fd fd1:FuncData} (D:Df K mg "place_behind" vZ Az f fd) (ul:Df K mg "longest_stand" vD Ac f1 fd1) (qM:FnOk P w K mg base CX0 3 f1 fd1 Ac uB):FnOk P w K mg base CX0 4 f fd Az tQ:=by
 refine D.fn.ok ZR (λvs H Q E h=>?_) (λcdv A outer s H vs Q E hr h=>?_)
 ·obtain⟨bl,Dd,fa,zs,ws,fs,rfl,_⟩:=h;rfl
 ·obtain⟨bl,Dd,fa,zs,ws,fs,rfl,hb,hz,hD,hw,hf,h4,h13,hl,hst,hin,kk⟩:=h
  have HU:=Wk hr
  refine⟨_,(zq (zG (i:=3) ZR.nd rfl (Or.inl rfl) (zU ul qM (hr.mono (by decide)) (zf (pv 0) (zf (pv 2) zg))))
   (zq (xF (zZ Q9 (pv 3) wD (ye _))
    (zy (zM wD))
    yh)
   (zy (zM (Q5 PySem.F.plainAttrs_list PySem.F.slot_list_index PySem.F.type_list_index (zdG K HU) (pv 1) (zf (pv 3) zg)))))),?_⟩
  refine⟨_,rfl,_,rfl,bl,fa,zs,fs,rfl,hb,hz,hf,by omega,hl,λz hz=>⟨(hst z hz).1,Nat.le_trans (hst z hz).2 (by decide)⟩,λv H1 sv s1=>?_⟩
  have q:=kk H1 s1
  unfold plc at q
  rcases sv with ⟨hL,rfl⟩ | ⟨hL,l,rfl,hn,hv⟩
  ·rw [hL,if_neg (by decide)] at q
   exact⟨_,rfl,rfl,_,rfl,yV q⟩
  ·rw [if_pos hL] at q
   have hm:=hin hL
   have hlt:=List.idxOf_lt_length_iff.mpr hm
   refine⟨_,rfl,rfl,_,rfl,xJ ?_⟩
   refine⟨_,rfl,.inl ⟨rfl,_,SqL.of (s1 _ _ hD)⟩,_,rfl,Dd,_,_,(ws.map (·.2)).map yI,yI (yf (zs.map (·.2)) fs),(ws.map (·.2)).idxOf (yf (zs.map (·.2)) fs),rfl,rfl,SqL.of (s1 _ _ hD),TrsAt.lists (λz hz=>s1 _ _ (hw z hz)),TrAt.ints (a:=l) (SqL.of hv),Nat.le_trans (xU _) (by decide),by rw [List.length_map];exact hlt,?_,?_,q⟩
   ·intro t ht
    rw [List.getElem?_map,List.getElem?_eq_getElem hlt,Option.map_some] at ht
    rw [<- Option.some.inj ht,List.getElem_idxOf hlt,qx,decide_eq_true rfl]
   ·intro m t hm' ht
    rw [List.getElem?_map,List.getElem?_eq_getElem (Nat.lt_trans hm' hlt),Option.map_some] at ht
    rw [<- Option.some.inj ht,qx,decide_eq_false]
    intro e
    have q3:=ZQ hm' (Nat.lt_trans hm' hlt)
    exact q3 e
def Vh (ls ws:ZA) (b:Nat) (x:List Int):List V:=(List.range b).map λ(c:Nat)=>plc ls ws (x++[(c:Int)])
def jk:Sp:=λvs H Q _=>∃ (r:Addr) (b:Nat) (bl:Addr) (zs:ZB) (Dd:Addr) (ws:ZB) (sa:Addr) (xs:List Int),vs=[.ref r,.ref Dd,.ref sa]/\RuleAt H r b bl zs/\GoodRule b (zs.map (·.2))/\H Dd=some (.lst (ws.map λz=>V.ref z.1))/\(∀ z∈ws,H z.1=some (.lst (z.2.map V.int)))/\StandsL (zs.map (·.2)) (ws.map (·.2))/\ws.length<=13/\H sa=some (.lst (xs.map V.int))/\xs.length<=100 /\
 ∀ p H',H p=none->Same H H'->H' p=some (.lst (Vh (zs.map (·.2)) (ws.map (·.2)) b xs))->Q (.ref p) H'
theorem Qd:zF ["rule","stands","stand"] ["rule","stands","stand"] (zu uh):={}
theorem Qf {f f1:Addr} {fd fd1:FuncData} (D:Df K mg "steps_from" uh As f fd) (uM:Df K mg "place_behind" vZ Az f1 fd1) (jq:FnOk P w K mg base CX0 4 f1 fd1 Az tQ) (T:Blt mg):FnOk P w K mg base CX0 5 f fd As jk:=by
 refine D.fn.ok Qd (λvs H Q E h=>?_) (λcdv A outer s H vs Q E hr h=>?_)
 ·obtain⟨r,b,bl,zs,Dd,ws,sa,xs,rfl,_⟩:=h;rfl
 ·obtain⟨r,b,bl,zs,Dd,ws,sa,xs,rfl,R,g,hD,hw,SL,h13,hs,hl,kk⟩:=h
  have h4:zs.length<=4:=by have:=g.len;rwa [List.length_map] at this
  have ne:∀ l∈zs.map (·.2),l≠[]:=λl hl=>(g.st l hl).ne
  refine⟨_,(zy (zM (yU (show CScope (zu uh) _ "figure" ["rule","stands","stand"] ["stands","rule","stand"] [1,0,2] from {}) rfl (wC rfl T.n_range (zf (yd (u9 K) (pv 0) zr (λ_ _=>rfl)) zg)) (λ_ _ _ _=>xW) (λ_ _ _ _=>(zU uM jq (hr.mono (by decide)) (zf (yd (u9 K) (pv 2) zr (λ_ _=>rfl)) (zf (pv 1) (zf (zJ yq (pv 3) (zQ (zf (pv 0) zg))) zg)))))))),?_⟩
  have b16:=g.b16
  refine⟨_,rfl,r,_,_,V.int b,rfl,rfl,SqT.of R.tu,rfl,(b:Int),rfl,by omega,by omega,qw (lo:=0) (n:=(b:Int).toNat) (λi ys H4=>ys=Vh (zs.map (·.2)) (ws.map (·.2)) i xs/\Same H H4) ⟨rfl,Same.refl _⟩ ?_ ?_⟩
  ·rintro i ys H4 hi ⟨rfl,s4⟩
   have hi':i<b:=by omega
   refine⟨?_,?_⟩
   ·unfold Vh
    rw [List.length_map,List.length_range]
    exact Nat.lt_of_lt_of_le (show i<16 by omega) (by decide)
   unfold Y5
   dsimp only
   rw [if_pos rfl]
   have R4:=R.same s4
   have hs4:=s4 _ _ hs
   refine⟨_,rfl,r,_,_,V.ref bl,rfl,rfl,SqT.of R4.tu,rfl,_,rfl,_,rfl,_,rfl,(by show 1<=sizeLine;decide),λp1 q1=>?_⟩
   have n1:sa≠p1:=zz hs4 q1
   refine⟨sa,p1,_,_,rfl,rfl,by rw [zx n1];exact hs4,zj,by rw [List.length_map];exact Nat.le_trans (show xs.length+1<=101 by omega) (by decide),λp2 q2=>?_⟩
   have t2:=s4.trans ((zm q1 (o:=.lst [V.int (0+(i:Int))])).trans (zm q2 (o:=.lst (xs.map V.int++[V.int (0+(i:Int))]))))
   have R5:=R.same t2
   refine⟨bl,Dd,p2,zs,ws,xs++[0+(i:Int)],rfl,R5.li,R5.st,t2 _ _ hD,λz hz=>t2 _ _ (hw z hz),by rw [zj,List.map_append];rfl,h4,h13,by rw [List.length_append,List.length_singleton];omega,λz hz=>⟨(g.st _ (List.mem_map.mpr ⟨z,hz,rfl⟩)).ne,(g.st _ (List.mem_map.mpr ⟨z,hz,rfl⟩)).len⟩,λh=>(SL.mem _).mpr (Xm ne h),λH5 s5=>⟨?_,t2.trans s5⟩⟩
   unfold Vh
   rw [List.range_succ,List.map_append,Int.zero_add]
   rfl
  ·rintro ys H4 ⟨rfl,s4⟩ p hp
   refine kk p _ (s4.free hp) (s4.trans (zm hp)) ?_
   rw [zj,Int.toNat_natCast]
def U0 (ls ws:ZA) (b:Nat):List (List V):=ws.map (Vh ls ws b)++[V.int (ws.length:Nat) :: (Vh ls ws b []).drop 1]
def j0:Sp:=λvs H Q _=>∃ (r:Addr) (b:Nat) (bl:Addr) (zs:ZB) (Dd:Addr) (ws:ZB),vs=[.ref r,.ref Dd]/\RuleAt H r b bl zs/\GoodRule b (zs.map (·.2))/\H Dd=some (.lst (ws.map λz=>V.ref z.1))/\(∀ z∈ws,H z.1=some (.lst (z.2.map V.int)))/\StandsL (zs.map (·.2)) (ws.map (·.2))/\ws.length<=13 /\
 ∀ (p:Addr) (rs:List (Addr×List V)) (H':Hp),H p=none->Same H H'->H' p=some (.lst (rs.map λz=>V.ref z.1))->(∀ z∈rs,H z.1=none/\H' z.1=some (.lst z.2))->rs.map (·.2)=U0 (zs.map (·.2)) (ws.map (·.2)) b->Q (.ref p) H'
theorem XF:zF ["rule","stands","steps"] ["rule","stands"] (zu uU):={}
theorem JT {f f1:Addr} {fd fd1:FuncData} (D:Df K mg "all_steps" uU A0 f fd) (qU:Df K mg "steps_from" uh As f1 fd1) (Yj:FnOk P w K mg base CX0 5 f1 fd1 As jk) (T:Blt mg):FnOk P w K mg base CX0 6 f fd A0 j0:=by
 refine D.fn.ok XF (λvs H Q E h=>?_) (λcdv A outer s H vs Q E hr h=>?_)
 ·obtain⟨r,b,bl,zs,Dd,ws,rfl,_⟩:=h;rfl
 ·obtain⟨r,b,bl,zs,Dd,ws,rfl,R,g,hD,hw,SL,h13,kk⟩:=h
  have l3:∀ z∈ws,z.2.length<=3:=λz hz=>zdv (λst h=>(g.st st h).len) ((SL.mem _).mp (List.mem_map.mpr ⟨z,hz,rfl⟩))
  obtain⟨w1,hw1⟩:=SL.first
  refine⟨_,(zq (zbl (i:=2) (show CScope (zu uU) _ "stand" ["rule","stands","steps"] ["rule","stands"] [0,1] from {}) rfl XF.nd rfl (Or.inl rfl) (Yz K (pv 1)) (λ_ _ _ _=>xW) (λ_ _ _ _=>(zU qU Yj (hr.mono (by decide)) (zf (pv 1) (zf (pv 2) (zf (pv 0) zg))))))
   (zy (zM (zJ yq (pv 2) (zQ (zf (zJ yq (zQ (zf (zB (xT K) (by rfl) T.n_len PySem.boot_len (zf (pv 1) zg)) zg)) (yt (uy K) (yd (yF K) (pv 2) zr (λ_ _=>rfl)) (yJ zr) xx)) zg)))))),?_⟩
  refine⟨_,rfl,Dd,rfl,⟨_,SqL.of hD⟩,yN (K:=K) (a:=Dd) (xs:=ws.map λz=>V.ref z.1) (λi ys H4=>∃ rs:List (Addr×List V),ys=(rs.map λz=>V.ref z.1)/\(∀ z∈rs,H z.1=none/\H4 z.1=some (.lst z.2))/\rs.map (·.2)=(ws.take i).map (λz=>Vh (zs.map (·.2)) (ws.map (·.2)) b z.2)/\Same H H4) ⟨[],rfl,λz hz=>(by cases hz),rfl,Same.refl _⟩ (λi ys H4 _ ⟨_,_,_,_,e⟩=>SqL.of (e _ _ hD)) ?_ ?_⟩
  ·rintro j x ys H4 hx ⟨rs,rfl,hrs,hr2,s4⟩
   rw [List.getElem?_map] at hx
   obtain⟨z,hzj,e⟩:=Option.map_eq_some_iff.mp hx
   subst e
   have hzm:=List.mem_of_getElem? hzj
   refine⟨?_,?_⟩
   ·have e1:=congrArg List.length hr2
    rw [List.length_map,List.length_map,List.length_take] at e1
    rw [List.length_map,e1]
    exact Nat.lt_of_le_of_lt (Nat.le_trans (Nat.min_le_right _ _) h13) (by decide)
   unfold Y5
   dsimp only
   rw [if_pos rfl]
   refine⟨_,rfl,_,rfl,_,rfl,r,b,bl,zs,Dd,ws,z.1,z.2,rfl,R.same s4,g,s4 _ _ hD,λz hz=>s4 _ _ (hw z hz),SL,h13,s4 _ _ (hw z hzm),Nat.le_trans (l3 z hzm) (by decide),λp H5 hp s5 hv=>?_⟩
   refine⟨rs++[(p,Vh (zs.map (·.2)) (ws.map (·.2)) b z.2)],by simp,λy hy=>?_,?_,s4.trans s5⟩
   ·rcases List.mem_append.mp hy with h | h
    ·exact⟨(hrs y h).1,s5 _ _ (hrs y h).2⟩
    ·rw [List.mem_singleton] at h
     subst h
     exact⟨s4.free hp,hv⟩
   ·rw [List.map_append,hr2,List.take_succ,hzj]
    simp
  ·rintro ys H4 ⟨rs,rfl,hrs,hr2,s4⟩ p hp
   have hl2:=congrArg List.length hr2
   rw [List.length_map,List.take_length] at hr2
   rw [List.length_map,List.length_map,List.length_take,List.length_map,Nat.min_self] at hl2
   obtain⟨w0,ws',rfl⟩:∃ w0 ws',ws=w0 :: ws':=by
    cases ws with
    | nil=>simp at hw1
    | cons a b=>exact⟨a,b,rfl⟩
   have hw0:w0.2=[]:=by
    rw [List.map_cons] at hw1
    exact (List.cons.inj hw1).1
   obtain⟨r0,rs',rfl⟩:∃ r0 rs',rs=r0 :: rs':=by
    cases rs with
    | nil=>simp at hl2
    | cons a b=>exact⟨a,b,rfl⟩
   have hr0:r0.2=Vh (zs.map (·.2)) ((w0 :: ws').map (·.2)) b []:=by
    have e:=(List.cons.inj hr2).1
    rw [<- hw0]
    exact e
   have t4:=s4.trans (zm hp (o:=.lst ((r0 :: rs').map λz=>V.ref z.1)))
   have hr04:∀ z∈r0 :: rs',upd H4 p (.lst ((r0 :: rs').map λz=>V.ref z.1)) z.1=some (.lst z.2):=λz hz=>zm hp _ _ (hrs z hz).2
   refine⟨_,rfl,_,rfl,Dd,_,rfl,.inl (SqL.of (t4 _ _ hD)),(by show 1<=sizeLine;decide),λp1 q1=>?_⟩
   have u1:=zm q1 (o:=.lst [V.int (((w0 :: ws').map λz=>V.ref z.1).length:Nat)])
   refine⟨_,rfl,p,_,_,V.ref r0.1,rfl,rfl,SqL.of (u1 _ _ zj),vB (j:=0) rfl,_,rfl,r0.1,_,rfl,SqL.of (u1 _ _ (hr04 r0 List.mem_cons_self)),λp2 q2=>?_⟩
   have hb1:r0.2.length<=16:=by
    rw [hr0]
    unfold Vh
    rw [List.length_map,List.length_range]
    exact g.b16
   have u2:=u1.trans (zm q2 (o:=.lst (qH r0.2 (some 1) none)))
   refine⟨p1,p2,_,_,rfl,rfl,zm q2 _ _ zj,zj,?_,λp3 q3=>?_⟩
   ·rw [show (1:Int)=((1:Nat):Int) from rfl,Ym,List.length_drop,List.length_singleton]
    exact Nat.le_trans (show 1+(r0.2.length-1)<=100 by omega) (by decide)
   have ev:([V.int (((w0 :: ws').map λz=>V.ref z.1).length:Nat)]++qH r0.2 (some 1) none)=V.int (((w0 :: ws').map (·.2)).length:Nat) :: (Vh (zs.map (·.2)) ((w0 :: ws').map (·.2)) b []).drop 1:=by
    rw [show (1:Int)=((1:Nat):Int) from rfl,Ym,hr0,List.length_map,List.length_map]
    rfl
   have u3:=u2.trans (zm q3 (o:=.lst ([V.int (((w0 :: ws').map λz=>V.ref z.1).length:Nat)]++qH r0.2 (some 1) none)))
   refine⟨(by show 1<=sizeLine;decide),λp4 q4=>?_⟩
   have u4:=u3.trans (zm q4 (o:=.lst [V.ref p3]))
   refine⟨p,p4,_,_,rfl,rfl,u4 _ _ zj,zj,?_,λp5 q5=>?_⟩
   ·rw [List.length_map,List.length_singleton]
    exact Nat.le_trans (show (r0 :: rs').length+1<=100 by omega) (by decide)
   have u5:=u4.trans (zm q5 (o:=.lst ((r0 :: rs').map (λz=>V.ref z.1)++[V.ref p3])))
   refine kk p5 (r0 :: rs'++[(p3,[V.int (((w0 :: ws').map λz=>V.ref z.1).length:Nat)]++qH r0.2 (some 1) none)]) _ (t4.free (u4.free q5)) (t4.trans u5) ?_ ?_ ?_
   ·rw [zj,List.map_append]
    rfl
   ·intro z hz
    rcases List.mem_append.mp hz with h | h
    ·exact⟨(hrs z h).1,u5 _ _ (hr04 z h)⟩
    ·rw [List.mem_singleton] at h
     subst h
     exact⟨t4.free (u2.free q3),zm q5 _ _ (zm q4 _ _ zj)⟩
   ·rw [List.map_append,hr2,ev]
    unfold U0
    rw [List.map_map]
    rfl
end
structure ClT (K:W.Frag) (mg:Str->Option Value) (C:Addr):Prop where
 cl:Cls K C
 nm:mg "Tails" = some (.ref C)
 n_base:NoAttr K C "base"
 n_outset:NoAttr K C "outset"
 n_steps:NoAttr K C "steps"
 n_layers:NoAttr K C "layers"
def ZX (b n:Nat) (sa la:Addr):List (Str×V):=zX "layers" (.ref la) (zX "steps" (.ref sa) (zX "outset" (.int n) (zX "base" (.int b) [])))
theorem zcm (b n:Nat) (sa la:Addr):(ZX b n sa la).lookup ("base" : Str)=some (.int b):=by
 unfold ZX
 rw [zE,if_neg (by decide +kernel),zE,if_neg (by decide +kernel),zE,if_neg (by decide +kernel),zE,if_pos rfl]
theorem W6 (b n:Nat) (sa la:Addr):(ZX b n sa la).lookup ("outset" : Str)=some (.int n):=by
 unfold ZX
 rw [zE,if_neg (by decide +kernel),zE,if_neg (by decide +kernel),zE,if_pos rfl]
theorem wN (b n:Nat) (sa la:Addr):(ZX b n sa la).lookup ("steps" : Str)=some (.ref sa):=by
 unfold ZX
 rw [zE,if_neg (by decide +kernel),zE,if_pos rfl]
theorem jd (b n:Nat) (sa la:Addr):(ZX b n sa la).lookup ("layers" : Str)=some (.ref la):=by
 unfold ZX
 rw [zE,if_pos rfl]
theorem Wm (b n:Nat) (sa la:Addr) {m:Str} (h1:¬ m = "layers":=by decide +kernel) (h2:¬ m = "steps":=by decide +kernel) (h3:¬ m = "outset":=by decide +kernel) (h4:¬ m = "base":=by decide +kernel):(ZX b n sa la).lookup m=none:=by
 unfold ZX
 rw [zE,if_neg h1,zE,if_neg h2,zE,if_neg h3,zE,if_neg h4]
 rfl
def xZ (ls ws:ZA) (b t:Nat):List Int:=(ws.map λx=>((cnt ls b t x:Nat):Int))++[((Uw ls b t:Nat):Int)]
def stepV (ls ws:ZA):Option (List Int)->Nat->V
 | some x,c=>plc ls ws (x++[(c:Int)])
 | none,c=>if c=0 then .int (ws.length:Nat) else plc ls ws [(c:Int)]
theorem qQ (ls ws:ZA) (c:Nat):stepV ls ws none c=if c=0 then .int (ws.length:Nat) else plc ls ws [(c:Int)]:=rfl
theorem za9 (ls:ZA) (b t:Nat) (x:List Int) (c:Nat):Wh ls b t (some x) c=if lacks ls (x++[(c:Int)])=true then cnt ls b t (yf ls (x++[(c:Int)])) else 0:=rfl
theorem Xf (ls:ZA) (b t:Nat) (c:Nat):Wh ls b t none c=if c=0 then Uw ls b t else if lacks ls [(c:Int)]=true then cnt ls b t (yf ls [(c:Int)]) else 0:=rfl
theorem Ur {ls ws:ZA} {b i:Nat} (hb:1<=b) (hi:i<=ws.length):(U0 ls ws b)[i]?=some ((List.range b).map (stepV ls ws ws[i]?)):=by
 unfold U0
 by_cases h:i<ws.length
 ·rw [List.getElem?_append_left (by rw [List.length_map];exact h),List.getElem?_map,List.getElem?_eq_getElem h]
  rfl
 ·have e:i=ws.length:=by omega
  subst e
  rw [List.getElem?_append_right (by rw [List.length_map];exact Nat.le_refl _),List.length_map,Nat.sub_self,List.getElem?_eq_none (Nat.le_refl _)]
  show some _=some _
  congr 1
  obtain⟨k,rfl⟩:∃ k,b=k+1:=⟨b-1,by omega⟩
  unfold Vh
  rw [List.range_succ_eq_map,List.map_cons,List.map_cons,List.drop_succ_cons,List.drop_zero]
  rw [List.map_map,List.map_map]
  rfl
structure TailsAt (C:Addr) (H:Hp) (p la:Addr) (b:Nat) (ls ws:ZA) (L:Nat):Prop where
 ob:∃ (dx sa:Addr) (srs:List (Addr×List V)),aw [la] H p=some (.ins C dx (ZX b ws.length sa la))/\aw [la] H sa=some (.lst (srs.map λz=>V.ref z.1))/\(∀ z∈srs,aw [la] H z.1=some (.lst z.2))/\srs.map (·.2)=U0 ls ws b
 ly:∃ lrs:ZB,H la=some (.lst (lrs.map λz=>V.ref z.1))/\(∀ z∈lrs,aw [la] H z.1=some (.lst (z.2.map V.int)))/\lrs.map (·.2)=(List.range L).map (xZ ls ws b)
 l1:1<=L
structure GoodT (b:Nat) (ls ws:ZA):Prop where
 g:GoodRule b ls
 s:StandsL ls ws
 h13:ws.length<=13
theorem GoodT.ne {b:Nat} {ls ws:ZA} (G:GoodT b ls ws):∀ l∈ls,l≠[]:=λl hl=>(G.g.st l hl).ne
theorem TailsAt.same {C p la b:Nat} {H H':Hp} {ls ws:ZA} {L:Nat} (A:TailsAt C H p la b ls ws L) (m:Same H H'):TailsAt C H' p la b ls ws L:=by
 obtain⟨dx,sa,srs,h1,h2,h3,h4⟩:=A.ob
 obtain⟨lrs,g1,g2,g3⟩:=A.ly
 have m':=m.aw [la]
 exact⟨⟨dx,sa,srs,m' _ _ h1,m' _ _ h2,λz hz=>m' _ _ (h3 z hz),h4⟩,⟨lrs,m _ _ g1,λz hz=>m' _ _ (g2 z hz),g3⟩,A.l1⟩
theorem zaI {ls ws:ZA} {b t:Nat} (G:GoodT b ls ws) {i c:Nat} (hi:i<=ws.length) :
  (stepV ls ws ws[i]? c=.non/\Wh ls b t ws[i]? c=0)\/∃ j:Nat,stepV ls ws ws[i]? c=.int j/\j<=ws.length/\(xZ ls ws b t)[j]?=some ((Wh ls b t ws[i]? c:Nat):Int):=by
 have at_:∀ fs:List Int,lacks ls fs=true->∃ j:Nat,plc ls ws fs=.int j/\j<=ws.length/\(xZ ls ws b t)[j]?=some ((cnt ls b t (yf ls fs):Nat):Int):=by
  intro fs h
  have hm:yf ls fs∈ws:=(G.s.mem _).mpr (Xm G.ne h)
  have hlt:=List.idxOf_lt_length_iff.mpr hm
  refine⟨ws.idxOf (yf ls fs),by unfold plc;rw [if_pos h],Nat.le_of_lt hlt,?_⟩
  unfold xZ
  rw [List.getElem?_append_left (by rw [List.length_map];exact hlt),List.getElem?_map,List.getElem?_eq_getElem hlt,List.getElem_idxOf hlt]
  rfl
 cases hw:ws[i]? with
 | some x =>
  show (plc ls ws (x++[(c:Int)])=.non/\(if lacks ls (x++[(c:Int)])=true then _ else 0)=0)\/_
  by_cases h:lacks ls (x++[(c:Int)])=true
  ·right
   obtain⟨j,h1,h2,h3⟩:=at_ _ h
   refine⟨j,h1,h2,?_⟩
   rw [h3,za9,if_pos h]
  ·left
   exact⟨by unfold plc;rw [if_neg h],by rw [if_neg h]⟩
 | none =>
  by_cases h0:c=0
  ·right
   refine⟨ws.length,by rw [qQ,if_pos h0],Nat.le_refl _,?_⟩
   unfold xZ
   rw [Xf,if_pos h0,List.getElem?_append_right (by rw [List.length_map];exact Nat.le_refl _),List.length_map,Nat.sub_self]
   rfl
  ·by_cases h:lacks ls [(c:Int)]=true
   ·right
    obtain⟨j,h1,h2,h3⟩:=at_ _ h
    refine⟨j,by rw [qQ,if_neg h0];exact h1,h2,?_⟩
    rw [h3,Xf,if_neg h0,if_pos h]
   ·left
    refine⟨?_,?_⟩
    ·rw [qQ,if_neg h0];unfold plc;rw [if_neg h]
    ·rw [Xf,if_neg h0,if_neg h]
theorem VG {fp:List Addr} {H:Hp} {b:Addr} {o:HO} (h:b∈fp):aw fp (upd H b o)=aw fp H:=by
 funext c
 by_cases hc:c∈fp
 ·rw [qY hc,qY hc]
 ·rw [zL hc,zL hc,zx (λz:c=b=>hc (by rw [z];exact h))]
section
variable {P:Program} {w:World} {K:W.Frag} {mg:Str->Option Value} {base:Heap} {T0 C:Addr}
def ZF (C:Addr):Sp:=λvs H Q _=>∃ (p la:Addr) (b:Nat) (ls ws:ZA) (L t:Nat) (lay:Addr) (i s:Nat),vs=[.ref p,.ref lay,.int i,.int s]/\TailsAt C H p la b ls ws L/\GoodT b ls ws/\H lay=some (.lst ((xZ ls ws b t).map V.int))/\i<=ws.length/\s<=b /\
 ∀ H',Same H H'->Q (.int (under ls b t ws[i]? s:Nat)) H'
theorem WK:zF ["self","layer","place","stop"] ["self","layer","place","stop"] (zu xg):={}
theorem Y8 {f:Addr} {fd:FuncData} (D:Mt K C "Tails.many_by" "many_by" xg Al f fd) (zV:ClT K mg C) (T:Blt mg) (U:zbv mg):FnOk P w K mg base CX0 1 f fd Al (ZF C):=by
 refine D.fn.ok WK (λvs H Q E h=>?_) (λcdv A outer s H vs Q E hr h=>?_)
 ·obtain⟨p,la,b,ls,ws,L,t,lay,i,s,rfl,_⟩:=h;rfl
 ·obtain⟨p,la,b,ls,ws,L,t,lay,i,s,rfl,TA,G,hlay,hi,hs,kk⟩:=h
  obtain⟨dx,sa,srs,h1,h2,h3,h4⟩:=TA.ob
  have b16:=G.g.b16
  have b2:=G.g.b2
  refine⟨_,(zy (zM (zB (zgb K rfl) (by rfl) U.n_sum boot_sum (zf (yU (show CScope (zu xg) _ "behind" ["self","layer","place","stop"] ["layer"] [1] from {}) rfl (Yz K (yt (uy K) (yd (yF K) (wI K (pv 0)) (pv 2) (λ_ _=>rfl)) xx (yJ (pv 3)))) (λ_ _ _ _=>(X3 (zZ zey (pv 0) wD (ye _)))) (λ_ _ _ _=>(yd (yF K) (pv 1) (pv 0) (λ_ _=>rfl)))) zg)))),?_⟩
  have hrow:=Ur (ls:=ls) (b:=b) (by omega) hi
  rw [<- h4,List.getElem?_map] at hrow
  obtain⟨z,hz,ez⟩:=Option.map_eq_some_iff.mp hrow
  have hzm:=List.mem_of_getElem? hz
  have hz3:=zH _ _ _ _ (h3 z hzm)
  refine⟨_,rfl,p,C,dx,_,_,rfl,zH _ _ _ _ h1,zV.cl,zV.n_steps,wN _ _ _ _,_,rfl,sa,_,_,V.ref z.1,rfl,rfl,SqL.of (zH _ _ _ _ h2),vB (by rw [List.getElem?_map,hz];rfl),?_⟩
  refine⟨_,rfl,_,rfl,z.1,_,rfl,SqL.of hz3,λq hq=>?_⟩
  have m1:=zm hq (o:=.lst (qH z.2 none (some (s:Int))))
  have ecut:qH z.2 none (some (s:Int))=(List.range s).map (stepV ls ws ws[i]?):=by
   rw [Ww,ez,<- List.map_take,List.take_range,Nat.min_eq_left hs]
  rw [ecut] at m1 ⊢
  refine⟨q,rfl,⟨_,SqL.of zj⟩,yN (K:=K) (a:=q) (xs:=(List.range s).map (stepV ls ws ws[i]?)) (λk ys H4=>H4=upd H q (.lst ((List.range s).map (stepV ls ws ws[i]?)))/\∃ ms:List Int,ys=ms.map V.int/\ms.length<=k/\ms.sum=((under ls b t ws[i]? k:Nat):Int)) ⟨rfl,[],rfl,Nat.le_refl _,by simp [under]⟩ (λk ys H4 _ ⟨e,_⟩=>by rw [e];exact SqL.of zj) ?_ ?_⟩
  ·rintro k x ys H4 hx ⟨rfl,ms,rfl,hml,hms⟩
   rw [List.getElem?_map] at hx
   obtain⟨c,hc,e⟩:=Option.map_eq_some_iff.mp hx
   have hk:k<s:=by have:=(List.getElem?_eq_some_iff.mp hc).1;rwa [List.length_range] at this
   have ec:c=k:=by
    rw [List.getElem?_range hk] at hc
    exact (Option.some.inj hc).symm
   subst ec
   subst e
   refine⟨by rw [List.length_map];exact Nat.lt_of_le_of_lt (show ms.length<=16 by omega) (by decide),?_⟩
   have hus:=VH ls b t ws[i]? c
   rcases zaI (t:=t) G (c:=c) hi with ⟨e1,e2⟩ | ⟨j,e1,e2,e3⟩
   ·rw [e1]
    refine⟨_,rfl,rfl,_,rfl,xJ ⟨rfl,ms,rfl,by omega,?_⟩⟩
    rw [hus,e2,hms]
    omega
   ·rw [e1]
    refine⟨_,rfl,rfl,_,rfl,yV ?_⟩
    refine⟨_,rfl,_,rfl,lay,_,_,V.int ((Wh ls b t ws[i]? c:Nat):Int),rfl,rfl,SqL.of (m1 _ _ hlay),vB (by rw [List.getElem?_map,e3];rfl),rfl,ms++[((Wh ls b t ws[i]? c:Nat):Int)],by simp,by rw [List.length_append,List.length_singleton];omega,?_⟩
    rw [List.sum_append,hms,hus]
    simp
  ·rintro ys H4 ⟨rfl,ms,rfl,hml,hms⟩ Dd hD
   refine⟨Dd,ms,rfl,SqL.of zj,?_⟩
   rw [hms,List.length_map,List.length_range]
   exact kk _ (m1.trans (zm hD))
def NoRef (H:Hp) (a c:Addr):Prop:=∀ xs,H a=some (.lst xs)->V.ref c∉xs
def NR (la:Addr) (H H':Hp):Prop:=∀ c o,c≠la->H c=some o->NoRef H la c->NoRef H' la c
theorem NR.refl (la:Addr) (H:Hp):NR la H H:=λ_ _ _ _ h=>h
theorem UW {la c:Addr} {H H':Hp} {o:HO} (m:Same (aw [la] H) (aw [la] H')) (hc:c≠la) (e:H c=some o):H' c=some o:=by
 have hc':c∉[la]:=by simpa using hc
 have:=m c o (by rw [zL hc'];exact e)
 rwa [zL hc'] at this
theorem NR.trans {la:Addr} {H H1 H2:Hp} (a:NR la H H1) (m:Same (aw [la] H) (aw [la] H1)) (b:NR la H1 H2):NR la H H2:=λc o hc e h=>b c o hc (UW m hc e) (a c o hc e h)
theorem NoRef.same {H H':Hp} {a c:Addr} {o:HO} (n:NoRef H a c) (h:H a=some o) (h':H' a=some o):NoRef H' a c:=λxs hx=>n xs (by rw [h,<- h'];exact hx)
theorem NR.same {la:Addr} {H H1 H2:Hp} {o:HO} (a:NR la H H1) (h:H1 la=some o) (m:Same H1 H2):NR la H H2:=λc u hc e n=>(a c u hc e n).same h (m _ _ h)
def TQ (C:Addr) (H:Hp) (p la:Addr) (b:Nat) (ls ws:ZA) (L:Nat) (R:Nat->Hp->Prop):Prop:=∀ (L':Nat) (H':Hp),L<=L'->TailsAt C H' p la b ls ws L'->Same (aw [la] H) (aw [la] H')->NR la H H'->R L' H'
def Ub (C:Addr):Sp:=λvs H Q _=>∃ (p la:Addr) (b:Nat) (ls ws:ZA) (L t:Nat),vs=[.ref p,.int t]/\TailsAt C H p la b ls ws L/\GoodT b ls ws/\L<=1000/\t<1000 /\
 ∀ lay:Addr,TQ C H p la b ls ws L λL' H'=>L'<=max L (t+1)->aw [la] H' lay=some (.lst ((xZ ls ws b t).map V.int))->Q (.ref lay) H'
theorem Z6:zF ["self","left","shorter"] ["self","left"] (zu vp):={}
theorem zad {ls ws:ZA} {b t:Nat}:((List.range (ws.length+1)).map λi=>((under ls b t ws[i]? b:Nat):Int))=xZ ls ws b (t+1):=by
 unfold xZ
 apply List.ext_getElem?
 intro i
 rw [List.getElem?_map]
 by_cases h:i<ws.length
 ·rw [List.getElem?_range (by omega),List.getElem?_append_left (by rw [List.length_map];exact h),List.getElem?_map,Option.map_some,List.getElem?_eq_getElem h]
  rfl
 ·by_cases h2:i=ws.length
  ·subst h2
   rw [List.getElem?_range (by omega),List.getElem?_append_right (by rw [List.length_map];exact Nat.le_refl _),List.length_map,Nat.sub_self,Option.map_some,List.getElem?_eq_none (Nat.le_refl _)]
   rfl
  ·rw [List.getElem?_eq_none (by rw [List.length_range];omega),List.getElem?_eq_none (by rw [List.length_append,List.length_map,List.length_singleton];omega)]
   rfl
theorem J9 {f f1:Addr} {fd fd1:FuncData} (D:Mt K C "Tails.layer" "layer" vp A4 f fd) (ym:Mt K C "Tails.many_by" "many_by" xg Al f1 fd1) (zV:ClT K mg C) (T:Blt mg) (U:zbv mg):FnOk P w K mg base CX0 2 f fd A4 (Ub C):=by
 have ur:FnOk P w K mg base CX0 1 f1 fd1 Al (ZF C):=Y8 ym zV T U
 refine D.fn.ok Z6 (λvs H Q E h=>?_) (λcdv A outer s H vs Q E hr h=>?_)
 ·obtain⟨p,la,b,ls,ws,L,t,rfl,_⟩:=h;rfl
 ·obtain⟨p,la,b,ls,ws,L,t,rfl,TA,G,hL,ht,kk⟩:=h
  have h13:=G.h13
  refine⟨_,(zq (zaE PassesOwn.never (zZ Qy (zB (xT K) (by rfl) T.n_len PySem.boot_len (zf (wI K (pv 0)) zg)) (pv 1) (ye _))
    (zq (zG (i:=2) Z6.nd rfl (Or.inr rfl) (yd (yF K) (wI K (pv 0)) (W2 ZW zr) (λ_ _=>rfl)))
    (zy (xX (Q5 PySem.F.plainAttrs_list PySem.F.slot_list_append PySem.F.type_list_append jH (wI K (pv 0)) (zf (yU (show CScope (zu vp) _ "place" ["self","left","shorter"] ["shorter","self"] [2,0] from {}) rfl (wC rfl T.n_range (zf (zJ vU (wI K (pv 0)) zr) zg)) (λ_ _ _ _=>xW) (λ_ _ _ _=>(Yc ym zV.cl ur (hr.mono (by decide)) (pv 2) (zf (pv 1) (zf (pv 0) (zf (wI K (pv 2)) zg)))))) zg))))))
   (zy (zM (yd (yF K) (wI K (pv 0)) (pv 1) (λ_ _=>rfl))))),?_⟩
  refine zaG (λZ H2=>∃ (v:Option V) (L':Nat),Z=[some (.ref p),some (.int t),v]/\L<=L'/\L'<=max L (t+1)/\TailsAt C H2 p la b ls ws L'/\Same (aw [la] H) (aw [la] H2)/\NR la H H2)
   (λZ H2=>match H2 la with | some (.lst xs)=>t+1-xs.length | _=>0) ⟨none,L,rfl,Nat.le_refl _,Nat.le_max_left _ _,TA,Same.refl _,NR.refl _ _⟩ ?_ ?_
  ·rintro Z H2 ⟨v,L',rfl,hLL,hLm,TA2,m2,nr2⟩
   obtain⟨dx,sa,srs,h1,h2,h3,h4⟩:=TA2.ob
   obtain⟨lrs,g1,g2,g3⟩:=TA2.ly
   have hl:lrs.length=L':=by have:=congrArg List.length g3;rwa [List.length_map,List.length_map,List.length_range] at this
   have hp:=zH _ _ _ _ h1
   have l1:=TA2.l1
   refine⟨_,rfl,p,C,dx,_,_,rfl,hp,zV.cl,zV.n_layers,jd _ _ _ _,la,_,rfl,.inl (SqL.of g1),_,rfl,_,_,rfl,rfl,_,rfl,?_⟩
   rw [List.length_map,hl]
   refine zb8 (λhc=>?_) (λhc=>?_)
   ·have hc':L'<=t:=by have:=of_decide_eq_true hc;omega
    have hlast:lrs[L'-1]?=some lrs[L'-1]:=List.getElem?_eq_getElem (by omega)
    generalize hz:lrs[L'-1]=z at hlast
    have hzm:z∈lrs:=List.mem_of_getElem? hlast
    have hz2:z.2=xZ ls ws b (L'-1):=by
     have e:=congrArg (λl=>l[L'-1]?) g3
     simp only [List.getElem?_map,hlast,List.getElem?_range (show L'-1<L' by omega),Option.map_some] at e
     exact Option.some.inj e
    have elr:lrs=lrs.take (L'-1)++[z]:=by
     have e:=(List.take_append_drop (L'-1) lrs).symm
     rw [List.drop_eq_getElem_cons (show L'-1<lrs.length by omega),hz,List.drop_of_length_le (by omega)] at e
     exact e
    have eat:atI (lrs.map λz=>V.ref z.1) (-1)=some (V.ref z.1):=by
     rw [elr,List.map_append]
     exact zc5 _ _
    refine⟨_,rfl,p,C,dx,_,_,rfl,hp,zV.cl,zV.n_layers,jd _ _ _ _,_,rfl,la,_,_,V.ref z.1,rfl,rfl,SqL.of g1,eat,?_⟩
    refine⟨_,rfl,p,C,dx,_,_,rfl,hp,zV.cl,zV.n_layers,jd _ _ _ _,.inl ⟨rfl,_,SqL.of g1⟩,?_⟩
    refine⟨_,rfl,p,C,dx,_,_,rfl,hp,zV.cl,zV.n_outset,W6 _ _ _ _,_,_,rfl,rfl,((ws.length:Int)+1),rfl,by omega,by omega,qw (lo:=0) (n:=((ws.length:Int)+1).toNat) (λi ys H4=>ys=(((List.range i).map λi=>((under ls b (L'-1) ws[i]? b:Nat):Int))).map V.int/\Same H2 H4) ⟨rfl,Same.refl _⟩ ?_ ?_⟩
    ·rintro i ys H4 hi ⟨rfl,m4⟩
     refine⟨by rw [List.length_map,List.length_map,List.length_range];exact Nat.lt_of_lt_of_le (show i<20 by omega) (by decide),?_⟩
     unfold Y5
     dsimp only
     rw [if_pos rfl]
     have TA4:=TA2.same m4
     have hp4:=m4 _ _ hp
     refine⟨_,rfl,p,dx,_,rfl,hp4,Wm _ _ _ _,_,rfl,_,rfl,_,rfl,p,C,dx,_,_,rfl,hp4,zV.cl,zV.n_base,zcm _ _ _ _,?_⟩
     refine⟨p,la,b,ls,ws,L',L'-1,z.1,i,b,by rw [Int.zero_add];rfl,TA4,G,?_,by omega,Nat.le_refl _,λH5 m5=>⟨?_,m4.trans m5⟩⟩
     ·rw [<- hz2];exact m4 _ _ (zH _ _ _ _ (g2 z hzm))
     ·rw [List.range_succ,List.map_append,List.map_append]
      rfl
    rintro ys H4 ⟨rfl,m4⟩ q hq
    rw [show ((ws.length:Int)+1).toNat=ws.length+1 by omega,zad,show L'-1+1=L' by omega]
    have m5:=zm hq (o:=.lst ((xZ ls ws b L').map V.int))
    have gla:=m5 _ _ (m4 _ _ g1)
    have nq:q≠la:=λe=>by rw [e,m4 _ _ g1] at hq;cases hq
    refine⟨la,_,_,rfl,rfl,gla,by rw [List.length_map,hl];exact Nat.lt_of_le_of_lt (show L'<=1000 by omega) (by decide),?_⟩
    have m25:Same (aw [la] H2) (aw [la] (upd (upd H4 q (.lst ((xZ ls ws b L').map V.int))) la (.lst (lrs.map (λz=>V.ref z.1)++[.ref q])))):=by
     rw [VG (by simp)]
     exact (m4.trans m5).aw [la]
    refine⟨⟨_,L'+1,rfl,by omega,by omega,⟨⟨dx,sa,srs,m25 _ _ h1,m25 _ _ h2,λy hy=>m25 _ _ (h3 y hy),h4⟩,⟨lrs++[(q,xZ ls ws b L')],by rw [zj];simp,λy hy=>?_,?_⟩,by omega⟩,m2.trans m25,nr2.trans m2 ?_⟩,?_⟩
    ·rcases List.mem_append.mp hy with hy | hy
     ·exact m25 _ _ (g2 y hy)
     ·have e:y=(q,xZ ls ws b L'):=by simpa using hy
      subst e
      rw [VG (by simp),zL (by simp [nq]),zj]
    ·rw [List.map_append,g3,List.range_succ,List.map_append]
     rfl
    ·intro c o hc e n xs hx
     rw [zj] at hx
     injection hx with hx
     injection hx with hx
     rw [<- hx,List.mem_append]
     rintro (h | h)
     ·exact n _ g1 h
     ·rw [List.mem_singleton] at h
      injection h with h
      rw [<- h,m4 _ _ e] at hq;cases hq
    ·show (match (upd (upd H4 q (.lst ((xZ ls ws b L').map V.int))) la (.lst (lrs.map (λz=>V.ref z.1)++[.ref q]))) la with | some (.lst xs)=>t+1-xs.length | _=>0)<(match H2 la with | some (.lst xs)=>t+1-xs.length | _=>0)
     rw [zj,g1]
     show t+1-(lrs.map (λz=>V.ref z.1)++[V.ref q]).length<t+1-(lrs.map λz=>V.ref z.1).length
     rw [List.length_append,List.length_map,List.length_singleton]
     omega
   ·have hc':t<L':=by
     by_cases z:t<L'
     ·exact z
     ·exact absurd (decide_eq_true (by omega:(L':Int)<=t)) hc
    have hlast:lrs[t]?=some lrs[t]:=List.getElem?_eq_getElem (by omega)
    generalize hz:lrs[t]=z at hlast
    have hzm:z∈lrs:=List.mem_of_getElem? hlast
    have hz2:z.2=xZ ls ws b t:=by
     have e:=congrArg (λl=>l[t]?) g3
     simp only [List.getElem?_map,hlast,List.getElem?_range hc',Option.map_some] at e
     exact Option.some.inj e
    refine⟨_,rfl,p,C,dx,_,_,rfl,hp,zV.cl,zV.n_layers,jd _ _ _ _,_,rfl,la,_,_,V.ref z.1,rfl,rfl,SqL.of g1,vB (by rw [List.getElem?_map,hlast];rfl),?_⟩
    exact kk z.1 L' H2 hLL TA2 m2 nr2 hLm (by rw [<- hz2];exact g2 z hzm)
  ·intro Z H2 Q Q' hq
   rintro⟨v0,e0,a,C',dx,fs,v,h1,h2,h3,h4,h5,p',ys,h6,h7,v1,e1,i,j,e3,e4,k,e5,q⟩
   exact⟨v0,e0,a,C',dx,fs,v,h1,h2,h3,h4,h5,p',ys,h6,h7,v1,e1,i,j,e3,e4,k,e5,hq _ _ q⟩
def jo (C:Addr):Sp:=λvs H Q _=>∃ (p la:Addr) (b:Nat) (ls ws:ZA) (L i s t:Nat),vs=[.ref p,.int i,.int s,.int t]/\TailsAt C H p la b ls ws L/\GoodT b ls ws/\L<=1000/\t<1000/\i<=ws.length/\s<=b/\TQ C H p la b ls ws L λL' H'=>L'<=max L (t+1)->Q (.int (under ls b t ws[i]? s:Nat)) H'
theorem YC:zF ["self","place","stop","left"] ["self","place","stop","left"] (zu wk):={}
theorem Qp {f f1 f2:Addr} {fd fd1 fd2:FuncData} (D:Mt K C "Tails.many_under" "many_under" wk At f fd) (vX:Mt K C "Tails.layer" "layer" vp A4 f1 fd1) (ym:Mt K C "Tails.many_by" "many_by" xg Al f2 fd2) (zV:ClT K mg C) (T:Blt mg) (U:zbv mg):FnOk P w K mg base CX0 3 f fd At (jo C):=by
 have ur:FnOk P w K mg base CX0 1 f2 fd2 Al (ZF C):=Y8 ym zV T U
 have Wj:FnOk P w K mg base CX0 2 f1 fd1 A4 (Ub C):=J9 vX ym zV T U
 refine D.fn.ok YC (λvs H Q E h=>?_) (λcdv A outer s H vs Q E hr h=>?_)
 ·obtain⟨p,la,b,ls,ws,L,i,s,t,rfl,_⟩:=h;rfl
 ·obtain⟨p,la,b,ls,ws,L,i,s,t,rfl,TA,G,hL,ht,hi,hs,kk⟩:=h
  obtain⟨dx,sa,srs,h1,h2,h3,h4⟩:=TA.ob
  have hp:=zH _ _ _ _ h1
  refine⟨_,(zy (zM (Yc ym zV.cl ur (hr.mono (by decide)) (pv 0) (zf (Yc vX zV.cl Wj (hr.mono (by decide)) (pv 0) (zf (pv 3) zg)) (zf (pv 1) (zf (pv 2) zg)))))),?_⟩
  refine⟨_,rfl,p,dx,_,rfl,hp,Wm _ _ _ _,?_⟩
  refine⟨_,rfl,p,dx,_,rfl,hp,Wm _ _ _ _,_,rfl,p,la,b,ls,ws,L,t,rfl,TA,G,hL,ht,λlay L' H' hLL TA' m' nr' hm hlay=>?_⟩
  exact⟨_,rfl,_,rfl,p,la,b,ls,ws,L',t,lay,i,s,rfl,TA',G,zH _ _ _ _ hlay,hi,hs,λH2 m2=>kk L' H2 hLL (TA'.same m2) (m'.trans (m2.aw [la])) (let ⟨_,g,_⟩:=TA'.ly;nr'.same g m2) hm⟩
end
theorem zcA {ls ws:ZA} {b m:Nat} (G:GoodT b ls ws) {i c:Nat} (hi:i<=ws.length) (R:Rep ls b m ws[i]?) (hc:c<b) :
  (∃ j:Nat,stepV ls ws ws[i]? c=.int j/\j<=ws.length/\Rep ls b (m*b+c) ws[j]?)\/(stepV ls ws ws[i]? c=.non/\1<=m*b+c/\gd ls b (m*b+c)=false):=by
 have b2:=G.g.b2
 have ep:∀ h:¬ (ws[i]?=none/\c=0),stepV ls ws ws[i]? c=plc ls ws (ws[i]?.getD []++[(c:Int)]):=by
  intro h
  cases hw:ws[i]? with
  | some x=>rfl
  | none =>
   rw [qQ,if_neg (λz=>h ⟨hw,z⟩)]
   rfl
 rcases R.step G.ne b2 hc with ⟨h1,h2,h3⟩ | ⟨h0,⟨h1,h2⟩ | ⟨h1,h2,h3⟩⟩
 ·left
  refine⟨ws.length,by rw [h1,qQ,if_pos h2],Nat.le_refl _,by rw [List.getElem?_eq_none (Nat.le_refl _)];exact h3⟩
 ·left
  have hm:yf ls (ws[i]?.getD []++[(c:Int)])∈ws:=(G.s.mem _).mpr (Xm G.ne h1)
  have hlt:=List.idxOf_lt_length_iff.mpr hm
  refine⟨ws.idxOf (yf ls (ws[i]?.getD []++[(c:Int)])),by rw [ep h0];unfold plc;rw [if_pos h1],Nat.le_of_lt hlt,?_⟩
  rw [List.getElem?_eq_getElem hlt,List.getElem_idxOf hlt]
  exact h2
 ·right
  exact⟨by rw [ep h0];unfold plc;rw [if_neg (by rw [h1];exact Bool.false_ne_true)],h2,h3⟩
section
variable {P:Program} {w:World} {K:W.Frag} {mg:Str->Option Value} {base:Heap} {T0 C:Addr}
theorem zcU {H:Hp} {p la b:Nat} {ls ws:ZA} {L i c:Nat} (TA:TailsAt C H p la b ls ws L) (G:GoodT b ls ws) (hi:i<=ws.length) (hc:c<b) :
  ∃ (dx sa:Addr) (srs:List (Addr×List V)) (z:Addr×List V),H p=some (.ins C dx (ZX b ws.length sa la))/\H sa=some (.lst (srs.map λz=>V.ref z.1))/\atI (srs.map λz=>V.ref z.1) (i:Int)=some (V.ref z.1)/\H z.1=some (.lst z.2)/\atI z.2 (c:Int)=some (stepV ls ws ws[i]? c):=by
 obtain⟨dx,sa,srs,h1,h2,h3,h4⟩:=TA.ob
 have hrow:=Ur (ls:=ls) (b:=b) (by have:=G.g.b2;omega) hi
 rw [<- h4,List.getElem?_map] at hrow
 obtain⟨z,hz,ez⟩:=Option.map_eq_some_iff.mp hrow
 refine⟨dx,sa,srs,z,zH _ _ _ _ h1,zH _ _ _ _ h2,vB (by rw [List.getElem?_map,hz];rfl),zH _ _ _ _ (h3 z (List.mem_of_getElem? hz)),vB ?_⟩
 rw [ez,List.getElem?_map,List.getElem?_range hc]
 rfl
theorem TailsAt.obj {H:Hp} {p la b:Nat} {ls ws:ZA} {L:Nat} (TA:TailsAt C H p la b ls ws L):∃ dx sa,H p=some (.ins C dx (ZX b ws.length sa la)):=by
 obtain⟨dx,sa,srs,h1,_⟩:=TA.ob
 exact⟨dx,sa,zH _ _ _ _ h1⟩
def jr (C:Addr):Sp:=λvs H Q _=>∃ (p la:Addr) (b:Nat) (ls ws:ZA) (L:Nat) (fa:Addr) (n:Nat),vs=[.ref p,.ref fa]/\TailsAt C H p la b ls ws L/\GoodT b ls ws/\L<=1000/\aw [la] H fa=some (.lst ((figs b n).map V.int))/\n<2^900/\TQ C H p la b ls ws L λL' H'=>L'<=1000->Q (.int (many (gd ls b) n:Nat)) H'
theorem yr:zF ["self","figures","place","many","k"] ["self","figures"] (zu xY):={}
theorem U7 {f f1:Addr} {fd fd1:FuncData} (D:Mt K C "Tails.many_below" "many_below" xY A6 f fd) (wF:Mt K C "Tails.many_under" "many_under" wk At f1 fd1) (uq:FnOk P w K mg base CX0 3 f1 fd1 At (jo C)) (zV:ClT K mg C) (T:Blt mg):FnOk P w K mg base CX0 4 f fd A6 (jr C):=by
 refine D.fn.ok yr (λvs H Q E h=>?_) (λcdv A outer s H vs Q E hr h=>?_)
 ·obtain⟨p,la,b,ls,ws,L,fa,n,rfl,_⟩:=h;rfl
 ·obtain⟨p,la,b,ls,ws,L,fa,n,rfl,TA,G,hL,hf,hn,kk⟩:=h
  have b2:=G.g.b2
  have hlen:=Us b2 900 n hn
  obtain⟨dx0,sa0,hp0⟩:=TA.obj
  generalize hN:(figs b n).length=N at hlen
  have hnN:=zau b2 hN
  refine⟨_,(zq (zG (i:=2) yr.nd rfl (Or.inl rfl) (wI K (pv 0)))
   (zq (zG (i:=3) yr.nd rfl (Or.inl rfl) zr)
   (zq (jY PassesOwn.never rfl (wC rfl T.n_range (zf (zB (xT K) (by rfl) T.n_len PySem.boot_len (zf (pv 1) zg)) zg)) (yG (i:=4) yr.nd rfl (Or.inl rfl))
    (zq (zfn (i:=3) yr.nd rfl (Or.inl rfl) (Yc wF zV.cl uq (hr.mono (by decide)) (pv 0) (zf (pv 2) (zf (yd (yF K) (pv 1) (pv 4) (λ_ _=>rfl)) (zf (zJ Zz (zJ Zz (zB (xT K) (by rfl) T.n_len PySem.boot_len (zf (pv 1) zg)) (pv 4)) zr) zg)))) zfP)
    (zq (zG (i:=2) yr.nd rfl (Or.inl rfl) (yd (yF K) (yd (yF K) (wI K (pv 0)) (pv 2) (λ_ _=>rfl)) (yd (yF K) (pv 1) (pv 4) (λ_ _=>rfl)) (λ_ _=>rfl)))
    (zy (xF (zZ Q9 (pv 2) wD (ye _))
     (zy (zM (pv 3)))
     yh)))))
   (zy (zM (pv 3)))))),?_⟩
  refine⟨_,rfl,p,C,dx0,_,_,rfl,hp0,zV.cl,zV.n_outset,W6 _ _ _ _,?_⟩
  refine⟨_,rfl,fa,_,rfl,.inl (SqL.of (zH _ _ _ _ hf)),?_⟩
  rw [List.length_map,hN]
  refine⟨_,rfl,by omega,by omega,qt (lo:=0) (n:=(N:Int).toNat) (λk Z H2=>∃ (v4:Option V) (i L':Nat),Z=[some (.ref p),some (.ref fa),some (.int i),some (.int (many (gd ls b) (n / b^(N-k)*b^(N-k)):Nat)),v4]/\i<=ws.length/\Rep ls b (n / b^(N-k)) ws[i]?/\L<=L'/\L'<=1000/\TailsAt C H2 p la b ls ws L'/\Same (aw [la] H) (aw [la] H2)/\NR la H H2) ⟨none,ws.length,L,?_,Nat.le_refl _,?_,Nat.le_refl _,hL,TA,Same.refl _,NR.refl _ _⟩ ?_ ?_⟩
  ·rw [Nat.sub_zero,Nat.div_eq_of_lt hnN,Nat.zero_mul]
   rfl
  ·rw [Nat.sub_zero,Nat.div_eq_of_lt hnN,List.getElem?_eq_none (Nat.le_refl _)]
   exact .inl ⟨rfl,rfl⟩
  ·rintro k Z H2 hk ⟨v4,i,L',rfl,hi,R,hLL,hL',TA2,m2,nr2⟩
   have hkN:k<N:=by omega
   obtain⟨t,ht⟩:∃ t,N-k=t+1:=⟨N-k-1,by omega⟩
   have et:N-1-k=t:=by omega
   have hfk:=zc3 b2 hN hkN
   rw [et] at hfk
   rw [ht] at R ⊢
   have hnx:=zc2 (b:=b) (n:=n) (t:=t) (by omega)
   have hcb:n / b^t % b<b:=Nat.mod_lt _ (by omega)
   generalize hc:n / b^t % b=c at hfk hnx hcb
   have hf2:=m2 _ _ hf
   have hfH2:=zH _ _ _ _ hf2
   obtain⟨dx2,sa2,hp2⟩:=TA2.obj
   have hat:atI ((figs b n).map V.int) (0+(k:Int))=some (V.int (c:Nat)):=by rw [Int.zero_add];exact vB (by rw [List.getElem?_map,hfk];rfl)
   refine⟨_,rfl,_,rfl,p,dx2,_,rfl,hp2,Wm _ _ _ _,_,rfl,_,rfl,_,rfl,fa,_,_,_,rfl,rfl,SqL.of hfH2,hat,_,rfl,fa,_,rfl,.inl (SqL.of hfH2),_,rfl,_,_,rfl,rfl,_,_,rfl,rfl,?_⟩
   refine⟨p,la,b,ls,ws,L',i,c,t,?_,TA2,G,hL',by omega,hi,by omega,λL3 H3 hL3 TA3 m3 nr3 hmx=>?_⟩
   ·rw [List.length_map,hN]
    show [V.ref p,V.int i,V.int c,V.int ((N:Int)-(0+(k:Int))-1)]=_
    rw [show ((N:Int)-(0+(k:Int))-1)=(t:Int) by omega]
   have hL3':L3<=1000:=by omega
   have m23:=m2.trans m3
   have nr23:=nr2.trans m2 nr3
   have hf3:=zH _ _ _ _ (m23 _ _ hf)
   refine⟨_,_,rfl,rfl,?_⟩
   have eum:=Vw G.ne b2 R t (s:=c) (by omega)
   rw [<- hnx] at eum
   obtain⟨dx3,sa3,srs3,z3,q1,q2,q3,q4,q5⟩:=zcU TA3 G hi hcb
   refine⟨_,rfl,p,C,dx3,_,_,rfl,q1,zV.cl,zV.n_steps,wN _ _ _ _,_,rfl,sa3,_,_,_,rfl,rfl,SqL.of q2,q3,_,rfl,_,rfl,fa,_,_,_,rfl,rfl,SqL.of hf3,hat,z3.1,_,_,_,rfl,rfl,SqL.of q4,q5,?_⟩
   rcases zcA G hi R hcb with ⟨j,e1,e2,e3⟩ | ⟨e1,e2,e3⟩
   ·rw [e1]
    refine⟨_,rfl,rfl,_,rfl,xJ ⟨some (.int (0+(k:Int))),j,L3,?_,e2,?_,by omega,hL3',TA3,m23,nr23⟩⟩
    ·rw [show N-(k+1)=t by omega,<- eum]
     show [_,_,_,some (V.int ((many (gd ls b) (n / b^(t+1)*b^(t+1)):Nat)+(under ls b t ws[i]? c:Nat):Int)),_]=[_,_,_,some (V.int ((many (gd ls b) (n / b^(t+1)*b^(t+1))+under ls b t ws[i]? c:Nat):Int)),_]
     rw [Int.natCast_add]
    ·rw [show N-(k+1)=t by omega,hnx];exact e3
   ·rw [e1]
    refine⟨_,rfl,rfl,_,rfl,yV ⟨_,rfl,?_⟩⟩
    have q:=kk L3 H3 (by omega) TA3 m23 nr23 hL3'
    rw [<- hnx] at e2 e3
    have ebad:=zff G.ne b2 e2 e3 t (r:=n % b^t) (Nat.le_of_lt (Nat.mod_lt _ (Nat.pow_pos (by omega))))
    rw [Nat.mul_comm,Nat.div_add_mod,Nat.mul_comm] at ebad
    rw [ebad,<- eum,Int.natCast_add] at q
    exact q
  ·rintro Z H2 ⟨v4,i,L',rfl,hi,R,hLL,hL',TA2,m2,nr2⟩
   refine⟨_,rfl,?_⟩
   have q:=kk L' H2 hLL TA2 m2 nr2 hL'
   rw [Int.toNat_natCast,Nat.sub_self,Nat.pow_zero,Nat.div_one,Nat.mul_one]
   exact q
end
theorem LT.off {T la:Addr} {H H':Hp} {xs:List V} (h:LT T H) (hla:H la=some (.lst xs)) (m:Same (aw [la] H) (aw [la] H')):LT T H':=by
 have go:∀ c o,c≠la->H c=some o->H' c=some o:=λc o hc e=>by
  have hc':c∉[la]:=by simpa using hc
  have:=m c o (by rw [zL hc'];exact e)
  rwa [zL hc'] at this
 have n0:T≠la:=Ne.symm (h.lst hla)
 rcases h with h | ⟨c,h1,h2⟩
 ·exact .inl (go _ _ n0 h)
 ·refine .inr ⟨c,go _ _ n0 h1,go _ _ (λz=>?_) h2⟩
  rw [z,hla] at h2
  cases h2
theorem Jq {α:Type} {f:α->V} (h:∀ a,f a=V.int 1):∀ l:List α,(List.replicate l.length [V.int 1]).flatten=l.map f
 | []=>rfl
 | a :: l=>by rw [List.length_cons,List.replicate_succ,List.flatten_cons,Jq h l,List.map_cons,h a];rfl
section
variable {P:Program} {w:World} {K:W.Frag} {mg:Str->Option Value} {base:Heap} {T0 C:Addr}
def Yd (T0 C:Addr):Sp:=λvs H Q _=>∃ (p dx r:Addr) (b:Nat) (bl:Addr) (zs:ZB),vs=[.ref p,.ref r]/\H p=some (.ins C dx [])/\RuleAt H r b bl zs/\GoodRule b (zs.map (·.2))/\LT T0 H /\
 ∀ (la:Addr) (ws:ZA) (H':Hp),TailsAt C H' p la b (zs.map (·.2)) ws 1->GoodT b (zs.map (·.2)) ws->(∀ c o,c≠p->c≠T0->H c=some o->H' c=some o)->LT T0 H'->H la=none->(∃ dx sa,H' p=some (.ins C dx (ZX b ws.length sa la))/\H sa=none/\∀ c o,H c=some o->NoRef H' la c/\NoRef H' sa c)->Q .non H'
theorem jh:zF ["self","rule","stands"] ["self","rule"] (zu uH):={}
theorem zcZ {f f1 f2 f3:Addr} {fd fd1 fd2 fd3:FuncData} (D:Mt K C "Tails.__init__" "__init__" uH Am f fd) (Zv:Df K mg "stands_of" yg ["bad"] f1 fd1) (YS:FnOk P w K mg base CX0 6 f1 fd1 ["bad"] (Zh T0)) (Zt:Df K mg "all_steps" uU A0 f2 fd2) (Xa:FnOk P w K mg base CX0 6 f2 fd2 A0 j0)
  (xH:Df K mg "lacks_all" wU Ac f3 fd3) (wj:FnOk P w K mg base CX0 2 f3 fd3 Ac ud) (zV:ClT K mg C) (T:Blt mg):FnOk P w K mg base CX0 7 f fd Am (Yd T0 C):=by
 refine D.fn.ok jh (λvs H Q E h=>?_) (λcdv A outer s H vs Q E hr h=>?_)
 ·obtain⟨p,dx,r,b,bl,zs,rfl,_⟩:=h;rfl
 ·obtain⟨p,dx,r,b,bl,zs,rfl,hp,R,g,hT,kk⟩:=h
  have h4:zs.length<=4:=by have:=g.len;rwa [List.length_map] at this
  have gz:∀ z∈zs,z.2≠[]/\z.2.length<=4:=λz hz=>⟨(g.st _ (List.mem_map.mpr ⟨z,hz,rfl⟩)).ne,(g.st _ (List.mem_map.mpr ⟨z,hz,rfl⟩)).len⟩
  have npT:p≠T0:=λz=>by
   rw [z] at hp
   rcases hT with h | ⟨c,h,_⟩
   ·rw [h] at hp;cases hp
   ·rw [h] at hp;cases hp
  refine⟨_,(zq (zG (i:=2) jh.nd rfl (Or.inl rfl) (zU Zv YS (hr.mono (by decide)) (zf (yd (u9 K) (pv 1) zr (λ_ _=>rfl)) zg)))
   (zq (jj (pv 0) (yd (u9 K) (pv 1) zr (λ_ _=>rfl)) rfl)
   (zq (jj (pv 0) (zB (xT K) (by rfl) T.n_len PySem.boot_len (zf (pv 2) zg)) rfl)
   (zq (jj (pv 0) (zU Zt Xa (hr.mono (by decide)) (zf (pv 1) (zf (pv 2) zg))) rfl)
   (zy (jj (pv 0) (zQ (zf (zJ yq (zJ Y7 (zQ (zf zr zg)) (zB (xT K) (by rfl) T.n_len PySem.boot_len (zf (pv 2) zg))) (zQ (zf (zcV (vL (zU xH wj (hr.mono (by decide)) (zf (yd (u9 K) (pv 1) zr (λ_ _=>rfl)) (zf (zQ (zf zr zg)) zg)))) zr zr) zg))) zg)) rfl)))))),?_⟩
  refine⟨_,rfl,r,_,_,V.ref bl,rfl,rfl,SqT.of R.tu,rfl,bl,zs,rfl,R.li,R.st,h4,gz,hT,λDd ws H1 hDn hD hws SL h13 mL hT1=>?_⟩
  have R1:RuleAt H1 r b bl zs:=⟨mL _ _ (hT.tup R.tu) R.tu,mL _ _ (hT.lst R.li) R.li,λz hz=>mL _ _ (hT.lst (R.st z hz)) (R.st z hz)⟩
  have hp1:=mL _ _ npT hp
  have rp:r≠p:=uz R1.tu hp1 (λz=>nomatch z)
  have lp:∀ {c:Addr} {xs:List V},H1 c=some (.lst xs)->c≠p:=λh=>uz h hp1 (λz=>nomatch z)
  refine⟨_,rfl,r,_,_,V.int b,rfl,rfl,SqT.of R1.tu,rfl,_,rfl,p,C,dx,_,rfl,hp1,zV.cl,zV.n_base,(by show 0<1000;decide),?_⟩
  refine⟨_,rfl,Dd,_,rfl,.inl (SqL.of (by rw [zx (lp hD)];exact hD)),_,rfl,p,C,dx,_,rfl,zj,zV.cl,zV.n_outset,(by show 1<1000;decide),?_⟩
  rw [zb0,List.length_map]
  generalize hH3:upd H1 p (.ins C dx (zX "outset" (.int (ws.length:Nat)) (zX "base" (.int b) [])))=H3
  have m3:∀ c o,c≠p->H1 c=some o->H3 c=some o:=λc o hc e=>by rw [<- hH3,zx hc];exact e
  have hp3:H3 p=some (.ins C dx (zX "outset" (.int (ws.length:Nat)) (zX "base" (.int b) []))):=by rw [<- hH3,zj]
  have R3:RuleAt H3 r b bl zs:=⟨m3 _ _ rp R1.tu,m3 _ _ (lp R1.li) R1.li,λz hz=>m3 _ _ (lp (R1.st z hz)) (R1.st z hz)⟩
  refine⟨_,rfl,_,rfl,r,b,bl,zs,Dd,ws,rfl,R3,g,m3 _ _ (lp hD) hD,λz hz=>m3 _ _ (lp (hws z hz).2.1) (hws z hz).2.1,SL,h13,λsa srs H4 hsa m4 hsal hsrs hsr2=>?_⟩
  have hp4:=m4 _ _ hp3
  have len2:(zX "outset" (.int (ws.length:Nat)) (zX "base" (.int b) [])).length<=2:=Nat.le_trans (xr _ _ _) (Nat.succ_le_succ (xr _ _ _))
  refine⟨_,rfl,p,C,dx,_,rfl,hp4,zV.cl,zV.n_steps,by omega,?_⟩
  generalize hH5:upd H4 p (.ins C dx (zX "steps" (.ref sa) (zX "outset" (.int (ws.length:Nat)) (zX "base" (.int b) []))))=H5
  have m5:∀ c o,c≠p->H4 c=some o->H5 c=some o:=λc o hc e=>by rw [<- hH5,zx hc];exact e
  have hp5:H5 p=some (.ins C dx (zX "steps" (.ref sa) (zX "outset" (.int (ws.length:Nat)) (zX "base" (.int b) [])))):=by rw [<- hH5,zj]
  have lp4:∀ {c:Addr} {xs:List V},H4 c=some (.lst xs)->c≠p:=λh=>uz h hp4 (λz=>nomatch z)
  have R4:=R3.same m4
  have R5:RuleAt H5 r b bl zs:=⟨m5 _ _ (uz R4.tu hp4 (λz=>nomatch z)) R4.tu,m5 _ _ (lp4 R4.li) R4.li,λz hz=>m5 _ _ (lp4 (R4.st z hz)) (R4.st z hz)⟩
  have hD5:H5 Dd=some (.lst (ws.map λz=>V.ref z.1)):=m5 _ _ (lp4 (m4 _ _ (m3 _ _ (lp hD) hD))) (m4 _ _ (m3 _ _ (lp hD) hD))
  refine⟨(by show 1<=sizeLine;decide),λq1 n1=>?_⟩
  refine⟨_,rfl,Dd,_,rfl,.inl (SqL.of (zm n1 _ _ hD5)),?_⟩
  rw [List.length_map]
  refine⟨q1,_,_,rfl,rfl,zj,by omega,by omega,?_,λq2 n2=>?_⟩
  ·show 1*(ws.length:Int).toNat<=sizeLine
   exact Nat.le_trans (show 1*(ws.length:Int).toNat<=13 by omega) (by decide)
  have s1:=zm n1 (o:=.lst [V.int 1])
  have s2:=s1.trans (zm n2 (o:=.lst (List.replicate (ws.length:Int).toNat [V.int 1]).flatten))
  have R6:=R5.same s2
  refine⟨_,rfl,r,_,_,V.ref bl,rfl,rfl,SqT.of R6.tu,rfl,(by show 1<=sizeLine;decide),λq3 n3=>?_⟩
  have s3:=s2.trans (zm n3 (o:=.lst [V.int 0]))
  have R7:=R5.same s3
  refine⟨bl,q3,zs,[0],rfl,R7.li,R7.st,zj,by omega,by decide,λz hz=>⟨(gz z hz).1,Nat.le_trans (gz z hz).2 (by decide)⟩,λH8 s8=>⟨_,rfl,?_⟩⟩
  have s38:=s3.trans s8
  have fin:∀ x:Int,x=((Uw (zs.map (·.2)) b 0:Nat):Int)->∀ q4,H8 q4=none->q2≠q4->∀ q5,upd H8 q4 (.lst [V.int x]) q5=none->∀ q6,upd (upd H8 q4 (.lst [V.int x])) q5 (.lst ((List.replicate (ws.length:Int).toNat [V.int 1]).flatten++[V.int x])) q6=none ->
    Q .non (upd (upd (upd (upd H8 q4 (.lst [V.int x])) q5 (.lst ((List.replicate (ws.length:Int).toNat [V.int 1]).flatten++[V.int x]))) q6 (.lst [V.ref q5])) p (.ins C dx (zX "layers" (.ref q6) (zX "steps" (.ref sa) (zX "outset" (.int (ws.length:Nat)) (zX "base" (.int b) [])))))):=by
   intro x hx q4 n4 _ q5 n5 q6 n6
   have t4:=zm n4 (o:=.lst [V.int x])
   have t5:=zm n5 (o:=.lst ((List.replicate (ws.length:Int).toNat [V.int 1]).flatten++[V.int x]))
   have t6:=zm n6 (o:=.lst [V.ref q5])
   have t46:=t4.trans (t5.trans t6)
   have s56:=s38.trans t46
   have hp9:=s56 _ _ hp5
   have f3:∀ c,H3 c=none->H c=none:=λc h3'=>by
    have h1':H1 c=none:=by
     rw [<- hH3] at h3'
     by_cases z:c=p
     ·subst z;rw [zj] at h3';cases h3'
     ·rwa [zx z] at h3'
    cases e:H c with
    | none=>rfl
    | some o =>
     by_cases z:c=T0
     ·subst z
      exact absurd h1' (by
       rcases hT1 with h | ⟨d,h,_⟩
       ·rw [h];simp
       ·rw [h];simp)
     ·rw [mL c o z e] at h1';cases h1'
   have f5:∀ c,H5 c=none->H c=none:=λc hc=>by
    have h5:H4 c=none:=by
     rw [<- hH5] at hc
     by_cases z:c=p
     ·subst z;rw [zj] at hc;cases hc
     ·rwa [zx z] at hc
    exact f3 c (m4.free h5)
   have q6H5:H5 q6=none:=(s38.trans (t4.trans t5)).free n6
   have q6p:q6≠p:=λz=>by rw [z,hp5] at q6H5;cases q6H5
   have np5:q5≠q6:=λz=>by rw [<- z,zj] at n6;cases n6
   generalize hH9:upd (upd (upd H8 q4 (.lst [V.int x])) q5 (.lst ((List.replicate (ws.length:Int).toNat [V.int 1]).flatten++[V.int x]))) q6 (.lst [V.ref q5])=H9 at t6 t46 s56 hp9
   have hq6:H9 q6=some (.lst [V.ref q5]):=by rw [<- hH9,zj]
   have hq5:H9 q5=some (.lst ((List.replicate (ws.length:Int).toNat [V.int 1]).flatten++[V.int x])):=by rw [<- hH9,zx np5,zj]
   have q5p:q5≠p:=uz hq5 hp9 (λz=>nomatch z)
   have off:∀ c o,c≠p->H5 c=some o->aw [q6] (upd H9 p (.ins C dx (ZX b ws.length sa q6))) c=some o:=λc o hc e=>by
    have hcq:c≠q6:=zz e q6H5
    rw [zL (by simpa using hcq),zx hc]
    exact s56 c o e
   have sa4:H4 sa=some (.lst (srs.map λz=>V.ref z.1)):=hsal
   have l1:∀ {c:Addr} {xs:List V},H4 c=some (.lst xs)->H5 c=some (.lst xs)/\c≠p:=λh=>⟨m5 _ _ (lp4 h) h,lp4 h⟩
   refine kk q6 (ws.map (·.2)) _ ⟨⟨dx,sa,srs,?_,off _ _ (l1 hsal).2 (l1 hsal).1,λz hz=>off _ _ (l1 (hsrs z hz).2).2 (l1 (hsrs z hz).2).1,hsr2⟩,⟨[(q5,xZ (zs.map (·.2)) (ws.map (·.2)) b 0)],by rw [zx q6p];exact hq6,λz hz=>?_,rfl⟩,Nat.le_refl _⟩ ⟨g,SL,by rw [List.length_map];exact h13⟩ (λc o hc hcT e=>?_) ?_ (f5 _ q6H5) ⟨dx,sa,by rw [zj,List.length_map];rfl,f3 _ hsa,λc o e=>⟨λxs hx=>?_,λxs hx=>?_⟩⟩
   ·rw [zL (by simpa using Ne.symm q6p),List.length_map]
    exact zj
   ·have e:z=(q5,xZ (zs.map (·.2)) (ws.map (·.2)) b 0):=by simpa using hz
    subst e
    rw [zL (by simpa using np5),zx q5p,hq5]
    congr 2
    unfold xZ
    rw [List.map_append,hx,Int.toNat_natCast,List.map_map,List.map_map]
    rw [Jq (λ_=>rfl) ws]
    rfl
   ·rw [zx hc]
    have h1:=mL c o hcT e
    exact s56 c o (m5 c o hc (m4 c o (m3 c o hc h1)))
   ·have a1:LT T0 H3:=by
     rcases hT1 with h | ⟨d,h1,h2⟩
     ·exact .inl (m3 _ _ (Ne.symm npT) h)
     ·exact .inr ⟨d,m3 _ _ (Ne.symm npT) h1,m3 _ _ (uz h2 hp1 (λz=>nomatch z)) h2⟩
    have a2:=a1.same m4
    have a3:LT T0 H5:=by
     rcases a2 with h | ⟨d,h1,h2⟩
     ·exact .inl (m5 _ _ (Ne.symm npT) h)
     ·exact .inr ⟨d,m5 _ _ (Ne.symm npT) h1,m5 _ _ (uz h2 hp4 (λz=>nomatch z)) h2⟩
    have a4:=a3.same s56
    rcases a4 with h | ⟨d,h1,h2⟩
    ·exact .inl (by rw [zx (Ne.symm npT)];exact h)
    ·exact .inr ⟨d,by rw [zx (Ne.symm npT)];exact h1,by rw [zx (uz h2 hp9 (λz=>nomatch z))];exact h2⟩
   ·rw [zx q6p,hq6] at hx
    injection hx with hx
    injection hx with hx
    rw [<- hx,List.mem_singleton]
    intro z
    injection z with z
    have q5n:H5 q5=none:=(s38.trans t4).free n5
    rw [z,f5 _ q5n] at e;cases e
   ·rw [zx (l1 hsal).2,s56 _ _ (l1 hsal).1] at hx
    injection hx with hx
    injection hx with hx
    rw [<- hx]
    intro hm
    obtain⟨z,hz,ez⟩:=List.mem_map.mp hm
    injection ez with ez
    rw [<- ez,f3 _ (hsrs z hz).1] at e;cases e
  have hq2:H8 q2=some (.lst (List.replicate (ws.length:Int).toNat [V.int 1]).flatten):=s8 _ _ (zm n3 _ _ zj)
  have lenr:(List.replicate (ws.length:Int).toNat [V.int 1]).flatten.length<=13:=by rw [Int.toNat_natCast,Jq (f:=λ_=>V.int 1) (λ_=>rfl) ws,List.length_map];exact h13
  have len3:(zX "steps" (.ref sa) (zX "outset" (.int (ws.length:Nat)) (zX "base" (.int b) []))).length<=3:=Nat.le_trans (xr _ _ _) (Nat.succ_le_succ len2)
  have tail:∀ x:Int,x=((Uw (zs.map (·.2)) b 0:Nat):Int)->∀ q4,H8 q4=none->∃ l b' xs zs',V.ref q2=V.ref l/\V.ref q4=V.ref b'/\upd H8 q4 (.lst [V.int x]) l=some (.lst xs)/\upd H8 q4 (.lst [V.int x]) b'=some (.lst zs')/\xs.length+zs'.length<=sizeLine/\∀ q5,upd H8 q4 (.lst [V.int x]) q5=none ->
    1<=sizeLine/\∀ q6,upd (upd H8 q4 (.lst [V.int x])) q5 (.lst (xs++zs')) q6=none->∃ v,some (some (V.ref p))=some (some v)/\∃ a C' dx' fs,v=.ref a/\upd (upd (upd H8 q4 (.lst [V.int x])) q5 (.lst (xs++zs'))) q6 (.lst [V.ref q5]) a=some (.ins C' dx' fs)/\Cls K C'/\NoAttr K C' "layers"/\fs.length<1000/\Q .non (upd (upd (upd (upd H8 q4 (.lst [V.int x])) q5 (.lst (xs++zs'))) q6 (.lst [V.ref q5])) a (.ins C' dx' (zX "layers" (.ref q6) fs))):=by
   intro x hx q4 n4
   have nq:q2≠q4:=zz hq2 n4
   refine⟨q2,q4,_,_,rfl,rfl,by rw [zx nq];exact hq2,zj,Nat.le_trans (Nat.add_le_add lenr (Nat.le_refl 1)) (by decide),λq5 n5=>⟨(by decide),λq6 n6=>?_⟩⟩
   have hp8:=s38 _ _ hp5
   exact⟨_,rfl,p,C,dx,_,rfl,(zm n4).trans ((zm n5).trans (zm n6)) _ _ hp8,zV.cl,zV.n_layers,by omega,fin x hx q4 n4 nq q5 n5 q6 n6⟩
  cases hlk:lacks (zs.map (·.2)) [0] with
  | true =>
   refine yV ?_
   refine⟨(by show 1<=sizeLine;decide),λq4 n4=>?_⟩
   exact tail 1 (by unfold Uw;rw [hlk];rfl) q4 n4
  | false =>
   refine xJ ?_
   refine⟨(by show 1<=sizeLine;decide),λq4 n4=>?_⟩
   exact tail 0 (by unfold Uw;rw [hlk];rfl) q4 n4
end
theorem Je {H:Hp} {x dx:Addr} {C:Addr} (nx:H x=none) (ndx:H dx=none):Same H (upd (upd H dx (.own x)) x (.ins C dx [])):=λb o e=>by
 rw [zx (zz e nx),zx (zz e ndx)]
 exact e
theorem RuleAt.sameL {T0 r bl:Addr} {H H':Hp} {b:Nat} {zs:ZB} (R:RuleAt H r b bl zs) (hT:LT T0 H) (m:SameL T0 H H'):RuleAt H' r b bl zs :=
 ⟨m _ _ (hT.tup R.tu) R.tu,m _ _ (hT.lst R.li) R.li,λz hz=>m _ _ (hT.lst (R.st z hz)) (R.st z hz)⟩
theorem TailsAt.la {C p la b:Nat} {H:Hp} {ls ws:ZA} {L:Nat} (TA:TailsAt C H p la b ls ws L):∃ xs,H la=some (.lst xs):=let ⟨_,h,_⟩:=TA.ly;⟨_,h⟩
section
variable {P:Program} {w:World} {K:W.Frag} {mg:Str->Option Value} {base:Heap} {T0 C:Addr}
def zgB (T0 C:Addr) (b:Nat) (ls:ZA) (H:Hp) (x:Addr) (H':Hp):Prop:=∃ (la:Addr) (ws:ZA),TailsAt C H' x la b ls ws 1/\GoodT b ls ws/\SameL T0 H H'/\LT T0 H'/\H la=none/\H x=none/\∃ dx sa,H' x=some (.ins C dx (ZX b ws.length sa la))/\H sa=none/\∀ c o,H c=some o->NoRef H' la c/\NoRef H' sa c
theorem zbO {r:Addr} {b:Nat} {bl:Addr} {zs:ZB} {H:Hp} (R:RuleAt H r b bl zs) (g:GoodRule b (zs.map (·.2))) (hT:LT T0 H) {R':Addr->Hp->Prop} (k:∀ x H',zgB T0 C b (zs.map (·.2)) H x H'->R' x H') :
  ∀ x dx,H x=none->H dx=none->dx≠x->Yd T0 C (.ref x :: ([.ref r]++[])) (upd (upd H dx (.own x)) x (.ins C dx [])) (λv H2=>v=.non/\R' x H2) E0:=by
 intro x dx nx ndx nex
 have s0:=Je (C:=C) nx ndx
 refine⟨x,dx,r,b,bl,zs,rfl,zj,R.same s0,g,hT.same s0,λla ws H' TA G fr hT' hla ⟨dx',sa,e1,e2,e3⟩=>⟨rfl,k x H' ⟨la,ws,TA,G,λc o hc e=>fr c o (zz e nx) hc (s0 c o e),hT',s0.free hla,nx,dx',sa,e1,s0.free e2,λc o e=>e3 c o (s0 _ _ e)⟩⟩⟩
end
theorem TailsAt.updI {C tl la b p CS dxp:Nat} {H:Hp} {ls ws:ZA} {L:Nat} {o:HO} {fs:List (Str×V)} (TA:TailsAt C H tl la b ls ws L) (h:H p=some (.ins CS dxp fs)) (hne:tl≠p):TailsAt C (upd H p o) tl la b ls ws L:=by
 obtain⟨dx,sa,srs,h1,h2,h3,h4⟩:=TA.ob
 obtain⟨lrs,g1,g2,g3⟩:=TA.ly
 have nl:∀ {c:Addr} {xs:List V},H c=some (.lst xs)->c≠p:=λe z=>by rw [z,h] at e;cases e
 have go:∀ c u,c≠p->aw [la] H c=some u->aw [la] (upd H p o) c=some u:=λc u hc e=>by
  have hcl:c∉[la]:=λhz=>by rw [qY hz] at e;cases e
  rw [zL hcl] at e ⊢
  rw [zx hc];exact e
 exact⟨⟨dx,sa,srs,go _ _ hne h1,go _ _ (nl (zH _ _ _ _ h2)) h2,λz hz=>go _ _ (nl (zH _ _ _ _ (h3 z hz))) (h3 z hz),h4⟩,⟨lrs,by rw [zx (nl g1)];exact g1,λz hz=>go _ _ (nl (zH _ _ _ _ (g2 z hz))) (g2 z hz),g3⟩,TA.l1⟩
theorem LT.putI {T p CS dx:Addr} {H:Hp} {o:HO} {fs:List (Str×V)} (h:LT T H) (e:H p=some (.ins CS dx fs)):LT T (upd H p o):=by
 have nT:p≠T:=λz=>by
  rw [z] at e
  rcases h with h | ⟨c,h,_⟩
  ·rw [h] at e;cases e
  ·rw [h] at e;cases e
 rcases h with h | ⟨c,h1,h2⟩
 ·exact .inl (by rw [zx (Ne.symm nT)];exact h)
 ·exact .inr ⟨c,by rw [zx (Ne.symm nT)];exact h1,by rw [zx (λz=>by rw [z,e] at h2;cases h2)];exact h2⟩
structure ClK (K:W.Frag) (mg:Str->Option Value) (C:Addr):Prop where
 cl:Cls K C
 nm:mg "Keeper" = some (.ref C)
 n_base:NoAttr K C "base"
 n_bad:NoAttr K C "bad"
 n_bound:NoAttr K C "bound"
 n_tails:NoAttr K C "tails"
def vR (b:Nat) (bl:Addr) (bd:Nat) (tl:Addr):List (Str×V):=zX "tails" (.ref tl) (zX "bound" (.int bd) (zX "bad" (.ref bl) (zX "base" (.int b) [])))
section
variable (b:Nat) (bl:Addr) (bd:Nat) (tl:Addr)
theorem V3:(vR b bl bd tl).lookup ("tails" : Str)=some (.ref tl):=by unfold vR;rw [zE,if_pos rfl]
theorem Uu:(vR b bl bd tl).lookup ("bound" : Str)=some (.int bd):=by unfold vR;rw [zE,if_neg (by decide +kernel),zE,if_pos rfl]
theorem jP:(vR b bl bd tl).lookup ("bad" : Str)=some (.ref bl):=by unfold vR;rw [zE,if_neg (by decide +kernel),zE,if_neg (by decide +kernel),zE,if_pos rfl]
theorem jM:(vR b bl bd tl).lookup ("base" : Str)=some (.int b):=by unfold vR;rw [zE,if_neg (by decide +kernel),zE,if_neg (by decide +kernel),zE,if_neg (by decide +kernel),zE,if_pos rfl]
theorem vC {m:Str} (h1:¬ m = "tails":=by decide +kernel) (h2:¬ m = "bound":=by decide +kernel) (h3:¬ m = "bad":=by decide +kernel) (h4:¬ m = "base":=by decide +kernel):(vR b bl bd tl).lookup m=none:=by
 unfold vR
 rw [zE,if_neg h1,zE,if_neg h2,zE,if_neg h3,zE,if_neg h4]
 rfl
theorem zab:(vR b bl bd tl).length<=4:=Nat.le_trans (xr _ _ _) (Nat.succ_le_succ (Nat.le_trans (xr _ _ _) (Nat.succ_le_succ (Nat.le_trans (xr _ _ _) (Nat.succ_le_succ (xr _ _ _))))))
theorem Vl:vR b bl bd tl=[(("base" : Str),V.int (b:Int)),(("bad" : Str),V.ref bl),(("bound" : Str),V.int (bd:Int)),(("tails" : Str),V.ref tl)]:=by
 unfold vR
 rw [zX,zX,if_neg (by decide +kernel),zX,zX,if_neg (by decide +kernel),zX,if_neg (by decide +kernel),zX,zX,if_neg (by decide +kernel),zX,if_neg (by decide +kernel),zX,if_neg (by decide +kernel),zX]
theorem zam (bl2:Addr):zX "bad" (.ref bl2) (vR b bl bd tl)=vR b bl2 bd tl:=by
 rw [Vl,Vl,zX,if_neg (by decide +kernel),zX,if_pos rfl]
theorem Qk (tl2:Addr):zX "tails" (.ref tl2) (vR b bl bd tl)=vR b bl bd tl2:=by
 rw [Vl,Vl,zX,if_neg (by decide +kernel),zX,if_neg (by decide +kernel),zX,if_neg (by decide +kernel),zX,if_pos rfl]
end
structure KpAt (C CK:Addr) (H:Hp) (k tl sa la:Addr) (b bd:Nat) (bl:Addr) (zs:ZB) (ws:ZA) (L:Nat):Prop where
 ob:∃ dx,H k=some (.ins CK dx (vR b bl bd tl))
 li:H bl=some (.lst (zs.map λz=>V.ref z.1))
 st:∀ z∈zs,H z.1=some (.lst (z.2.map V.int))
 ta:TailsAt C H tl la b (zs.map (·.2)) ws L
 sa:∃ dx,H tl=some (.ins C dx (ZX b ws.length sa la))
 gt:GoodT b (zs.map (·.2)) ws
 bla:bl≠la
 l:L<=1000
section
variable {C CK:Addr} {H H':Hp} {k tl sa la:Addr} {b bd:Nat} {bl:Addr} {zs:ZB} {ws:ZA} {L L':Nat}
theorem KpAt.zla (A:KpAt C CK H k tl sa la b bd bl zs ws L) {z:Addr×List Int} (hz:z∈zs):z.1≠la:=λe=>by
 obtain⟨lrs,h1,_,h3⟩:=A.ta.ly
 have h:=A.st z hz
 rw [e,h1] at h
 have hne:=(A.gt.g.st z.2 (List.mem_map.mpr ⟨z,hz,rfl⟩)).ne
 injection h with h
 injection h with h
 cases hz2:z.2 with
 | nil=>exact hne hz2
 | cons x y =>
  rw [hz2] at h
  cases lrs with
  | nil=>cases h
  | cons x' y'=>injection h with h _;cases h
theorem KpAt.kla (A:KpAt C CK H k tl sa la b bd bl zs ws L):k≠la:=by
 obtain⟨dx,h⟩:=A.ob
 obtain⟨lrs,h1,_⟩:=A.ta.ly
 exact uz h h1 (λz=>nomatch z)
theorem KpAt.tla (A:KpAt C CK H k tl sa la b bd bl zs ws L):tl≠la:=by
 obtain⟨dx,h⟩:=A.sa
 obtain⟨lrs,h1,_⟩:=A.ta.ly
 exact uz h h1 (λz=>nomatch z)
theorem KpAt.more (A:KpAt C CK H k tl sa la b bd bl zs ws L) (TA:TailsAt C H' tl la b (zs.map (·.2)) ws L') (m:Same (aw [la] H) (aw [la] H')) (hL:L'<=1000):KpAt C CK H' k tl sa la b bd bl zs ws L':=by
 have go:∀ c o,c≠la->H c=some o->H' c=some o:=λc o hc e=>by
  have hc':c∉[la]:=by simpa using hc
  have:=m c o (by rw [zL hc'];exact e)
  rwa [zL hc'] at this
 obtain⟨dx,h1⟩:=A.ob
 obtain⟨dt,h2⟩:=A.sa
 exact⟨⟨dx,go _ _ A.kla h1⟩,go _ _ A.bla A.li,λz hz=>go _ _ (A.zla hz) (A.st z hz),TA,⟨dt,go _ _ A.tla h2⟩,A.gt,A.bla,hL⟩
theorem KpAt.same (A:KpAt C CK H k tl sa la b bd bl zs ws L) (m:Same H H'):KpAt C CK H' k tl sa la b bd bl zs ws L:=A.more (A.ta.same m) (m.aw [la]) A.l
end
theorem KpAt.las {C CK:Addr} {H:Hp} {k tl sa la:Addr} {b bd:Nat} {bl:Addr} {zs:ZB} {ws:ZA} {L:Nat} (A:KpAt C CK H k tl sa la b bd bl zs ws L):∃ as:List Addr,H la=some (.lst (as.map V.ref)):=by
 obtain⟨lrs,g1,_⟩:=A.ta.ly
 exact⟨lrs.map (·.1),by rw [List.map_map];exact g1⟩
theorem KpAt.sas' {C CK:Addr} {H:Hp} {k tl sa la:Addr} {b bd:Nat} {bl:Addr} {zs:ZB} {ws:ZA} {L:Nat} (A:KpAt C CK H k tl sa la b bd bl zs ws L):∃ xs,aw [la] H sa=some (.lst xs):=by
 obtain⟨dq,saq,srs,q1,q2,_⟩:=A.ta.ob
 obtain⟨dt,q3⟩:=A.sa
 have es:saq=sa:=by
  have:=zH _ _ _ _ q1
  rw [q3] at this
  injection this with this
  injection this with _ _ this
  have e:=wN b ws.length saq la
  rw [<- this,wN] at e
  injection e with e
  injection e with e
  exact e.symm
 rw [es] at q2
 exact⟨_,q2⟩
theorem KpAt.sas {C CK:Addr} {H:Hp} {k tl sa la:Addr} {b bd:Nat} {bl:Addr} {zs:ZB} {ws:ZA} {L:Nat} (A:KpAt C CK H k tl sa la b bd bl zs ws L):∃ xs,H sa=some (.lst xs):=let ⟨_,h⟩:=A.sas';⟨_,zH _ _ _ _ h⟩
theorem KpAt.sla {C CK:Addr} {H:Hp} {k tl sa la:Addr} {b bd:Nat} {bl:Addr} {zs:ZB} {ws:ZA} {L:Nat} (A:KpAt C CK H k tl sa la b bd bl zs ws L):sa≠la:=λe=>by
 obtain⟨xs,h⟩:=A.sas'
 rw [qY (by simp [e])] at h;cases h
structure ClrK (c:Addr) (H:Hp) (k tl sa la bl:Addr) (zs:ZB):Prop where
 nk:c≠k
 ntl:c≠tl
 nsa:c≠sa
 nla:c≠la
 nbl:c≠bl
 nz:∀ z∈zs,c≠z.1
 rla:NoRef H la c
 rsa:NoRef H sa c
def KpS (H H':Hp) (k tl sa la bl:Addr) (zs:ZB):Prop:=∀ c o,H c=some o->ClrK c H k tl sa la bl zs->ClrK c H' k tl sa la bl zs
theorem KpAt.kps {C CK:Addr} {H H':Hp} {k tl sa la:Addr} {b bd:Nat} {bl:Addr} {zs:ZB} {ws:ZA} {L:Nat} (A:KpAt C CK H k tl sa la b bd bl zs ws L) (m:Same H H'):KpS H H' k tl sa la bl zs:=λc o e q=>by
 obtain⟨_,h1⟩:=A.las
 obtain⟨_,h2⟩:=A.sas
 exact⟨q.nk,q.ntl,q.nsa,q.nla,q.nbl,q.nz,q.rla.same h1 (m _ _ h1),q.rsa.same h2 (m _ _ h2)⟩
section
variable {P:Program} {w:World} {K:W.Frag} {mg:Str->Option Value} {base:Heap} {T0 C CK:Addr}
def Zw:Sp:=λvs H Q _=>∃ (r:Addr) (b:Nat) (bl:Addr) (zs:ZB),vs=[.ref r]/\RuleAt H r b bl zs/\zs.length<=100 /\
 ∀ (r' bl':Addr) (zs':ZB) (H':Hp),Same H H'->RuleAt H' r' b bl' zs'->zs'.map (·.2)=zs.map (·.2)->H bl'=none->H r'=none->(∀ z∈zs',H z.1=none/\z.1≠bl')->Q (.ref r') H'
theorem zaW:zF ["rule"] ["rule"] (zu qp):={}
theorem zbr {f:Addr} {fd:FuncData} (D:Df K mg "copy_of" qp Ae f fd) (T:Blt mg):FnOk P w K mg base CX0 1 f fd Ae Zw:=by
 refine D.fn.ok zaW (λvs H Q E h=>?_) (λcdv A outer s H vs Q E hr h=>?_)
 ·obtain⟨r,b,bl,zs,rfl,_⟩:=h;rfl
 ·obtain⟨r,b,bl,zs,rfl,R,hl,kk⟩:=h
  refine⟨_,(zy (zM (yX (zf (yd (u9 K) (pv 0) zr (λ_ _=>rfl)) (zf (yU (show CScope (zu qp) _ "stretch" ["rule"] [] [] from {}) rfl (Yz K (yd (u9 K) (pv 0) zr (λ_ _=>rfl))) (λ_ _ _ _=>xW) (λ_ _ _ _=>(xf (uZ K) (by rfl) T.n_list boot_list (zf (pv 0) zg)))) zg))))),?_⟩
  refine⟨_,rfl,r,_,_,V.int b,rfl,rfl,SqT.of R.tu,rfl,?_⟩
  refine⟨_,rfl,r,_,_,V.ref bl,rfl,rfl,SqT.of R.tu,rfl,bl,rfl,⟨_,SqL.of R.li⟩,yN (K:=K) (a:=bl) (xs:=zs.map λz=>V.ref z.1) (λi ys H4=>Same H H4/\∃ ws:ZB,ys=ws.map (λz=>V.ref z.1)/\ws.length=i/\ws.map (·.2)=(zs.take i).map (·.2)/\∀ z∈ws,H z.1=none/\H4 z.1=some (.lst (z.2.map V.int))) ⟨Same.refl _,[],rfl,rfl,rfl,by simp⟩ (λi ys H4 _ ⟨e,_⟩=>SqL.of (e _ _ R.li)) ?_ ?_⟩
  ·rintro j x ys H4 hx ⟨s4,ws,rfl,hwl,hw2,hws⟩
   rw [List.getElem?_map] at hx
   obtain⟨z,hzj,e⟩:=Option.map_eq_some_iff.mp hx
   subst e
   have hzm:=List.mem_of_getElem? hzj
   have hj:j<zs.length:=(List.getElem?_eq_some_iff.mp hzj).1
   refine⟨by rw [List.length_map,hwl];exact Nat.lt_of_lt_of_le (show j<101 by omega) (by decide),?_⟩
   unfold Y5
   dsimp only
   rw [if_pos rfl]
   refine⟨_,rfl,z.1,_,rfl,.inl (SqL.of (s4 _ _ (R.st z hzm))),λp hp=>⟨s4.trans (zm hp),ws++[(p,z.2)],by simp,by simp [hwl],?_,λy hy=>?_⟩⟩
   ·rw [List.map_append,hw2,List.take_succ,hzj];simp
   ·rcases List.mem_append.mp hy with hy | hy
    ·exact⟨(hws y hy).1,zm hp _ _ (hws y hy).2⟩
    ·have e:y=(p,z.2):=by simpa using hy
     subst e
     exact⟨s4.free hp,zj⟩
  ·rintro ys H4 ⟨s4,ws,rfl,hwl,hw2,hws⟩ bl' hbl'
   refine⟨(by show 2<=sizeLine;decide),λr' hr'=>?_⟩
   have s5:=zm hbl' (o:=.lst (ws.map λz=>V.ref z.1))
   have s6:=zm hr' (o:=.tup [.int b,.ref bl'])
   refine kk r' bl' ws _ (s4.trans (s5.trans s6)) ⟨zj,s6 _ _ zj,λz hz=>s6 _ _ (s5 _ _ (hws z hz).2)⟩ ?_ (s4.free hbl') (s4.free (s5.free hr')) λz hz=>⟨(hws z hz).1,zz (hws z hz).2 hbl'⟩
   rw [hw2,List.length_map,List.take_length]
def jZ:Sp:=λvs H Q _=>∃ (r:Addr) (b:Nat) (bl:Addr) (zs:ZB),vs=[.ref r]/\RuleAt H r b bl zs/\zs.length<=100 /\
 ∀ (r' bl':Addr) (zs':ZB) (H':Hp),Same H H'->RuleAt H' r' b bl' zs'->zs'.map (·.2)=zs.map (·.2)->H bl'=none->H r'=none->(∀ z∈zs',H z.1=none/\z.1≠bl')->Q (.ref r') H'
theorem Jw:zF ["rule"] ["rule"] (zu uR):={}
theorem Xw {f:Addr} {fd:FuncData} (D:Df K mg "_law_copy" uR Ae f fd) (T:Blt mg):FnOk P w K mg base CX0 1 f fd Ae jZ:=by
 refine D.fn.ok Jw (λvs H Q E h=>?_) (λcdv A outer s H vs Q E hr h=>?_)
 ·obtain⟨r,b,bl,zs,rfl,_⟩:=h;rfl
 ·obtain⟨r,b,bl,zs,rfl,R,hl,kk⟩:=h
  refine⟨_,(zy (zM (yX (zf (yd (u9 K) (pv 0) zr (λ_ _=>rfl)) (zf (yU (show CScope (zu uR) _ "one" ["rule"] [] [] from {}) rfl (Yz K (yd (u9 K) (pv 0) zr (λ_ _=>rfl))) (λ_ _ _ _=>xW) (λ_ _ _ _=>(xf (uZ K) (by rfl) T.n_list boot_list (zf (pv 0) zg)))) zg))))),?_⟩
  refine⟨_,rfl,r,_,_,V.int b,rfl,rfl,SqT.of R.tu,rfl,?_⟩
  refine⟨_,rfl,r,_,_,V.ref bl,rfl,rfl,SqT.of R.tu,rfl,bl,rfl,⟨_,SqL.of R.li⟩,yN (K:=K) (a:=bl) (xs:=zs.map λz=>V.ref z.1) (λi ys H4=>Same H H4/\∃ ws:ZB,ys=ws.map (λz=>V.ref z.1)/\ws.length=i/\ws.map (·.2)=(zs.take i).map (·.2)/\∀ z∈ws,H z.1=none/\H4 z.1=some (.lst (z.2.map V.int))) ⟨Same.refl _,[],rfl,rfl,rfl,by simp⟩ (λi ys H4 _ ⟨e,_⟩=>SqL.of (e _ _ R.li)) ?_ ?_⟩
  ·rintro j x ys H4 hx ⟨s4,ws,rfl,hwl,hw2,hws⟩
   rw [List.getElem?_map] at hx
   obtain⟨z,hzj,e⟩:=Option.map_eq_some_iff.mp hx
   subst e
   have hzm:=List.mem_of_getElem? hzj
   have hj:j<zs.length:=(List.getElem?_eq_some_iff.mp hzj).1
   refine⟨by rw [List.length_map,hwl];exact Nat.lt_of_lt_of_le (show j<101 by omega) (by decide),?_⟩
   unfold Y5
   dsimp only
   rw [if_pos rfl]
   refine⟨_,rfl,z.1,_,rfl,.inl (SqL.of (s4 _ _ (R.st z hzm))),λp hp=>⟨s4.trans (zm hp),ws++[(p,z.2)],by simp,by simp [hwl],?_,λy hy=>?_⟩⟩
   ·rw [List.map_append,hw2,List.take_succ,hzj];simp
   ·rcases List.mem_append.mp hy with hy | hy
    ·exact⟨(hws y hy).1,zm hp _ _ (hws y hy).2⟩
    ·have e:y=(p,z.2):=by simpa using hy
     subst e
     exact⟨s4.free hp,zj⟩
  ·rintro ys H4 ⟨s4,ws,rfl,hwl,hw2,hws⟩ bl' hbl'
   refine⟨(by show 2<=sizeLine;decide),λr' hr'=>?_⟩
   have s5:=zm hbl' (o:=.lst (ws.map λz=>V.ref z.1))
   have s6:=zm hr' (o:=.tup [.int b,.ref bl'])
   refine kk r' bl' ws _ (s4.trans (s5.trans s6)) ⟨zj,s6 _ _ zj,λz hz=>s6 _ _ (s5 _ _ (hws z hz).2)⟩ ?_ (s4.free hbl') (s4.free (s5.free hr')) λz hz=>⟨(hws z hz).1,zz (hws z hz).2 hbl'⟩
   rw [hw2,List.length_map,List.take_length]
theorem zeG {b:Nat} (b2:2<=b) (b16:b<=16) (z:ux (.int b)=false):False:=by
 have q:decide (2<=(b:Int)/\(b:Int)<=16)=false:=z
 rw [decide_eq_true (by omega)] at q;cases q
theorem Js {n:Nat} (z:ju (.int n)=false):False:=by
 have q:decide (0<=(n:Int))=false:=z
 rw [decide_eq_true (by omega)] at q;cases q
def Yv (T0 C CK qB:Addr):Sp:=λvs H Q E=>∃ (k tl sa la:Addr) (b bd:Nat) (bl:Addr) (zs:ZB) (ws:ZA) (L:Nat) (v:V) (e:PyData),vs=[.ref k,v]/\KpAt C CK H k tl sa la b bd bl zs ws L/\ThAt H e v/\LT T0 H/\(ju e=false->E (.ref qB) none H) /\
 ∀ n:Nat,e=.int n->n<2^900/\∀ (L':Nat) (H':Hp),KpAt C CK H' k tl sa la b bd bl zs ws L'->Same (aw [la] H) (aw [la] H')->LT T0 H'->KpS H H' k tl sa la bl zs->Q (.int (many (gd (zs.map (·.2)) b) n:Nat)) H'
theorem Ve:zF ["self","n"] ["self","n"] (zu xQ):={}
theorem zcG {qA qB:Addr} {f f1 f2:Addr} {fd fd1 fd2:FuncData} (D:Mt K CK "Keeper.below" "below" xQ Af f fd) (wJ:Mt K C "Tails.many_below" "many_below" xY A6 f1 fd1) (uc:FnOk P w K mg base CX0 4 f1 fd1 A6 (jr C)) (jg:Df K mg "figures_of" t7 Ax f2 fd2) (Ye:FnOk P w K mg base (CX1 P w) 4 f2 fd2 Ax (jw qA qB)) (zV:ClT K mg C) (cKeeper:ClK K mg CK):FnOk P w K mg base (CX1 P w) 5 f fd Af (Yv T0 C CK qB):=by
 refine D.fn.ok1 Ve (λvs H Q E h=>?_) (λcdv A outer s H vs Q E hr h=>?_)
 ·obtain⟨k,tl,sa,la,b,bd,bl,zs,ws,L,v,e,rfl,_⟩:=h;rfl
 ·obtain⟨k,tl,sa,la,b,bd,bl,zs,ws,L,v,e,rfl,KA,he,hT,kN,kG⟩:=h
  have b2:=KA.gt.g.b2
  have b16:=KA.gt.g.b16
  obtain⟨dx,hk⟩:=KA.ob
  obtain⟨dt,htl⟩:=KA.sa
  obtain⟨lx,hla⟩:=KA.ta.la
  refine⟨_,(zy (zM (Yc wJ zV.cl uc (hr.mono (by decide)) (wI K (pv 0)) (zf (Y4 jg Ye (hr.mono (by decide)) uA (zf (wI K (pv 0)) (zf (pv 1) zg))) zg)))),?_⟩
  refine⟨_,rfl,k,CK,dx,_,_,rfl,hk,cKeeper.cl,cKeeper.n_tails,V3 _ _ _ _,tl,dt,_,rfl,htl,Wm _ _ _ _,?_⟩
  refine⟨_,rfl,k,CK,dx,_,_,rfl,hk,cKeeper.cl,cKeeper.n_base,jM _ _ _ _,_,rfl,.int b,v,.int b,e,rfl,by rw [ThAt],he,λz=>(zeG b2 b16 z).elim,λ_ hn=>kN hn,λb' n eb h2 h16 en=>?_⟩
  obtain rfl:b=b':=by injection eb with eb;omega
  obtain⟨hn,kk⟩:=kG n en
  refine⟨hn,λfa H1 hfa hv s1=>?_⟩
  have KA1:=KA.same s1
  have fala:fa≠la:=λz=>by rw [z,hla] at hfa;cases hfa
  refine⟨tl,la,b,_,ws,L,fa,n,rfl,KA1.ta,KA.gt,KA.l,by rw [zL (by simpa using fala)];exact hv,hn,λL2 H2 hL2 TA2 m2 nr2 hL'=>?_⟩
  refine kk L2 H2 (KA1.more TA2 m2 hL') ((s1.aw [la]).trans m2) ((hT.same s1).off (s1 _ _ hla) m2) λc o e q=>?_
  have q1:=KA.kps s1 c o e q
  obtain⟨_,hs⟩:=KA1.sas
  exact⟨q.nk,q.ntl,q.nsa,q.nla,q.nbl,q.nz,nr2 c o q.nla (s1 _ _ e) q1.rla,q1.rsa.same hs (UW m2 KA1.sla hs)⟩
def Xz (T0 C CK:Addr):Sp:=λvs H Q _=>∃ (k tl sa la:Addr) (b bd:Nat) (bl:Addr) (zs:ZB) (ws:ZA) (L n:Nat),vs=[.ref k,.int n]/\KpAt C CK H k tl sa la b bd bl zs ws L/\n<2^900/\LT T0 H /\
 ∀ (L':Nat) (H':Hp),KpAt C CK H' k tl sa la b bd bl zs ws L'->Same (aw [la] H) (aw [la] H')->LT T0 H'->KpS H H' k tl sa la bl zs->Q (.int (many (gd (zs.map (·.2)) b) n:Nat)) H'
theorem zaX {qB:Addr} {f:Addr} {fd:FuncData} (G:FnOk P w K mg base (CX1 P w) 5 f fd Af (Yv T0 C CK qB)):FnOk P w K mg base CX0 5 f fd Af (Xz T0 C CK) :=
 G.calm.imp λvs H Q E ⟨k,tl,sa,la,b,bd,bl,zs,ws,L,n,e,KA,hn,hT,kk⟩=>⟨k,tl,sa,la,b,bd,bl,zs,ws,L,.int n,.int n,e,KA,by rw [ThAt],hT,λz=>Js z,λm em=>by
  obtain rfl:n=m:=by injection em with em;omega
  exact⟨hn,kk⟩⟩
def Xe (qB:Addr):Sp:=λvs H Q E=>∃ (t v:V) (e:PyData),vs=[t,v]/\ThAt H e v/\ju e=false/\E (.ref qB) none H
theorem zbn:zF ["tails","k","size"] ["tails","k"] (zu Yr):={}
theorem zbq {qB:Addr} {f f1:Addr} {fd fd1:FuncData} (D:Df K mg "good_at" Yr A7 f fd) (yo:Df K mg "check_number" xP Aa f1 fd1) (yw:FnOk P w K mg base (CX1 P w) 3 f1 fd1 Aa (wz qB)):FnOk P w K mg base (CX1 P w) 4 f fd A7 (Xe qB):=by
 refine D.fn.ok1 zbn (λvs H Q E h=>?_) (λcdv A outer s H vs Q E hr h=>?_)
 ·obtain⟨t,v,e,rfl,_⟩:=h;rfl
 ·obtain⟨t,v,e,rfl,he,hn,q⟩:=h
  refine⟨_,(zq (xX (Y4 yo yw (hr.mono (by decide)) uA (zf (pv 1) zg)))
   zcI),?_⟩
  exact⟨_,rfl,v,e,rfl,he,λ_=>q,λz=>by rw [hn] at z;cases z⟩
def Jj (C CK qB:Addr):Sp:=λvs H Q E=>∃ (k tl sa la:Addr) (b bd:Nat) (bl:Addr) (zs:ZB) (ws:ZA) (L:Nat) (v:V) (e:PyData),vs=[.ref k,v]/\KpAt C CK H k tl sa la b bd bl zs ws L/\ThAt H e v/\ju e=false/\E (.ref qB) none H
theorem UJ:zF ["self","k"] ["self","k"] (zu uN):={}
theorem zdR {qB:Addr} {f f1:Addr} {fd fd1:FuncData} (D:Mt K CK "Keeper.good" "good" uN Au f fd) (Wi:Df K mg "good_at" Yr A7 f1 fd1) (UG:FnOk P w K mg base (CX1 P w) 4 f1 fd1 A7 (Xe qB)) (cKeeper:ClK K mg CK):FnOk P w K mg base (CX1 P w) 5 f fd Au (Jj C CK qB):=by
 refine D.fn.ok1 UJ (λvs H Q E h=>?_) (λcdv A outer s H vs Q E hr h=>?_)
 ·obtain⟨k,tl,sa,la,b,bd,bl,zs,ws,L,v,e,rfl,_⟩:=h;rfl
 ·obtain⟨k,tl,sa,la,b,bd,bl,zs,ws,L,v,e,rfl,KA,he,hn,q⟩:=h
  obtain⟨dx,hk⟩:=KA.ob
  refine⟨_,(zy (zM (Y4 Wi UG (hr.mono (by decide)) uA (zf (wI K (pv 0)) (zf (pv 1) zg))))),?_⟩
  exact⟨_,rfl,k,CK,dx,_,_,rfl,hk,cKeeper.cl,cKeeper.n_tails,V3 _ _ _ _,_,rfl,_,v,e,rfl,he,hn,q⟩
def Off (T k la:Addr) (H H':Hp):Prop:=∀ c o,c≠k->c≠la->c≠T->H c=some o->H' c=some o
def Q6 (C CK:Addr):Sp:=λvs H Q _=>∃ (k tl sa la:Addr) (b bd:Nat) (bl:Addr) (zs:ZB) (ws:ZA) (L:Nat),vs=[.ref k]/\KpAt C CK H k tl sa la b bd bl zs ws L /\
 ∀ (r bl':Addr) (zs':ZB) (H':Hp),Same H H'->RuleAt H' r b bl' zs'->zs'.map (·.2)=zs.map (·.2)->H bl'=none->H r=none->(∀ z∈zs',H z.1=none/\z.1≠bl')->Q (.ref r) H'
theorem V7:zF ["self"] ["self"] (zu uK):={}
theorem zd7 {f f1:Addr} {fd fd1:FuncData} (D:Mt K CK "Keeper.rule" "rule" uK ["self"] f fd) (qK:Df K mg "copy_of" qp Ae f1 fd1) (jR:FnOk P w K mg base CX0 1 f1 fd1 Ae Zw) (cKeeper:ClK K mg CK):FnOk P w K mg base CX0 2 f fd ["self"] (Q6 C CK):=by
 refine D.fn.ok V7 (λvs H Q E h=>?_) (λcdv A outer s H vs Q E hr h=>?_)
 ·obtain⟨k,tl,sa,la,b,bd,bl,zs,ws,L,rfl,_⟩:=h;rfl
 ·obtain⟨k,tl,sa,la,b,bd,bl,zs,ws,L,rfl,KA,kk⟩:=h
  obtain⟨dx,hk⟩:=KA.ob
  have h4:zs.length<=4:=by have:=KA.gt.g.len;rwa [List.length_map] at this
  refine⟨_,(zy (zM (zU qK jR (hr.mono (by decide)) (zf (yX (zf (wI K (pv 0)) (zf (wI K (pv 0)) zg))) zg)))),?_⟩
  refine⟨_,rfl,k,CK,dx,_,_,rfl,hk,cKeeper.cl,cKeeper.n_base,jM _ _ _ _,_,rfl,k,CK,dx,_,_,rfl,hk,cKeeper.cl,cKeeper.n_bad,jP _ _ _ _,(by show 2<=sizeLine;decide),λt ht=>?_⟩
  have s1:=zm ht (o:=.tup [.int b,.ref bl])
  refine⟨t,b,bl,zs,rfl,⟨zj,s1 _ _ KA.li,λz hz=>s1 _ _ (KA.st z hz)⟩,by omega,λr bl' zs' H' s' R' e' n1 n2 n3=>?_⟩
  exact kk r bl' zs' H' (s1.trans s') R' e' (s1.free n1) (s1.free n2) (λz hz=>⟨s1.free (n3 z hz).1,(n3 z hz).2⟩)
def Zg (T0 C CK qS qB:Addr):Sp:=λvs H Q E=>∃ (k dx:Addr) (v u:V) (d e:PyData),vs=[.ref k,v,u]/\H k=some (.ins CK dx [])/\ThAt H d v/\ThAt H e u/\uv d<=100000/\LT T0 H/\(qO d=false->∀ H',Same H H'->E (.ref qS) none H')/\(qO d=true->ju e=false->∀ H',Same H H'->E (.ref qB) none H') /\
 ∀ (r:Addr) (b:Nat) (bl:Addr) (zs:ZB) (bd:Nat),v=.ref r->RuleAt H r b bl zs->GoodRule b (zs.map (·.2))->e=.int bd ->
 ∀ (tl sa la bl2:Addr) (zs2:ZB) (ws:ZA) (L:Nat) (H':Hp),KpAt C CK H' k tl sa la b bd bl2 zs2 ws L->zs2.map (·.2)=zs.map (·.2)->(∀ c o,c≠k->c≠T0->H c=some o->H' c=some o)->LT T0 H'->H la=none->H sa=none->H bl2=none->(∀ c o,H c=some o->c≠k->ClrK c H' k tl sa la bl2 zs2)->Q .non H'
theorem Xj:zF ["self","rule","b"] ["self","rule","b"] (zu vW):={}
theorem zby {qS qB:Addr} {f f1 f2 f3 f4:Addr} {fd fd1 fd2 fd3 fd4:FuncData} (D:Mt K CK "Keeper.__init__" "__init__" vW Ak f fd) (ji:Df K mg "check_rule" tY Aa f1 fd1) (Yk:FnOk P w K mg base (CX1 P w) 7 f1 fd1 Aa (jz qS)) (yo:Df K mg "check_number" xP Aa f2 fd2) (yw:FnOk P w K mg base (CX1 P w) 3 f2 fd2 Aa (wz qB)) (qK:Df K mg "copy_of" qp Ae f3 fd3) (jR:FnOk P w K mg base CX0 1 f3 fd3 Ae Zw)
  (WD:Mk K C f4) (Ws:Binds K fd4 ["self","rule"] []) (vN:FnOk P w K mg base CX0 7 f4 fd4 Am (Yd T0 C)) (zV:ClT K mg C) (cKeeper:ClK K mg CK):FnOk P w K mg base (CX1 P w) 9 f fd Ak (Zg T0 C CK qS qB):=by
 refine D.fn.ok1 Xj (λvs H Q E h=>?_) (λcdv A outer s H vs Q E hr h=>?_)
 ·obtain⟨k,dx,v,u,d,e,rfl,_⟩:=h;rfl
 ·obtain⟨k,dx,v,u,d,e,rfl,hk,hd,he,hs,hT,kR,kN,kG⟩:=h
  refine⟨_,(zq (xX (Y4 ji Yk (hr.mono (by decide)) uA (zf (pv 1) zg)))
   (zq (xX (Y4 yo yw (hr.mono (by decide)) uA (zf (pv 2) zg)))
   (zq (jj (pv 0) (yd (u9 K) (pv 1) zr (λ_ _=>rfl)) rfl)
   (zq (jj (pv 0) (yd (u9 K) (zU qK jR (hr.mono (by decide)) (zf (pv 1) zg)) zr (λ_ _=>rfl)) rfl)
   (zq (jj (pv 0) (pv 2) rfl)
   (zy (jj (pv 0) (JV WD vN (hr.mono (by decide)) rfl zV.nm Ws .nil Qv (zf (pv 1) zg)) rfl))))))),?_⟩
  refine⟨_,rfl,v,d,rfl,hd,hs,kR,λhru H1 m1=>?_⟩
  refine⟨_,rfl,u,e,rfl,he.same m1,λhn=>kN hru hn H1 m1,λhnum=>?_⟩
  obtain⟨r,b,bl,zs,rfl,R,g⟩:=zeg hd hru
  obtain⟨bd,rfl,rfl⟩:=zcS he hnum
  have kk:=kG r b bl zs bd rfl R g rfl
  have h4:zs.length<=4:=by have:=g.len;rwa [List.length_map] at this
  have hk1:=m1 _ _ hk
  have R1:=R.same m1
  have T1:=hT.same m1
  have rk:r≠k:=uz R1.tu hk1 (λz=>nomatch z)
  have lk:∀ {c:Addr} {xs:List V},H1 c=some (.lst xs)->c≠k:=λh=>uz h hk1 (λz=>nomatch z)
  refine⟨_,rfl,r,_,_,V.int b,rfl,rfl,SqT.of R1.tu,rfl,_,rfl,k,CK,dx,_,rfl,hk1,cKeeper.cl,cKeeper.n_base,(by show 0<1000;decide),?_⟩
  have R2:RuleAt (upd H1 k (.ins CK dx (zX "base" (.int b) []))) r b bl zs:=⟨by rw [zx rk];exact R1.tu,by rw [zx (lk R1.li)];exact R1.li,λz hz=>by rw [zx (lk (R1.st z hz))];exact R1.st z hz⟩
  have T2:=T1.putI (o:=.ins CK dx (zX "base" (.int b) [])) hk1
  have hk2:upd H1 k (.ins CK dx (zX "base" (.int b) [])) k=some (.ins CK dx (zX "base" (.int b) [])):=zj
  have n2:∀ c o,c≠k->H c=some o->upd H1 k (.ins CK dx (zX "base" (.int b) [])) c=some o:=λc o hc e=>by rw [zx hc];exact m1 c o e
  generalize upd H1 k (.ins CK dx (zX "base" (.int b) []))=H2 at R2 T2 hk2 n2
  refine⟨_,rfl,r,b,bl,zs,rfl,R2,by omega,λr3 bl3 zs3 H3 s3 R3 e3 nb3 nr3 nz3=>?_⟩
  have hk3:=s3 _ _ hk2
  refine⟨r3,_,_,V.ref bl3,rfl,rfl,SqT.of R3.tu,rfl,_,rfl,k,CK,dx,_,rfl,hk3,cKeeper.cl,cKeeper.n_bad,(by show 1<1000;decide),?_⟩
  refine⟨_,rfl,_,rfl,k,CK,dx,_,rfl,zj,cKeeper.cl,cKeeper.n_bound,(by show 2<1000;decide),?_⟩
  rw [zb0]
  have lk3:∀ {c:Addr} {xs:List V},H3 c=some (.lst xs)->c≠k:=λh=>uz h hk3 (λz=>nomatch z)
  have R2':=R2.same s3
  have R4:RuleAt (upd H3 k (.ins CK dx (zX "bound" (.int bd) (zX "bad" (.ref bl3) (zX "base" (.int b) []))))) r b bl zs:=⟨by rw [zx rk];exact R2'.tu,by rw [zx (lk3 R2'.li)];exact R2'.li,λz hz=>by rw [zx (lk3 (R2'.st z hz))];exact R2'.st z hz⟩
  have T4:=(T2.same s3).putI (o:=.ins CK dx (zX "bound" (.int bd) (zX "bad" (.ref bl3) (zX "base" (.int b) [])))) hk3
  have hk4:upd H3 k (.ins CK dx (zX "bound" (.int bd) (zX "bad" (.ref bl3) (zX "base" (.int b) [])))) k=some (.ins CK dx (zX "bound" (.int bd) (zX "bad" (.ref bl3) (zX "base" (.int b) [])))):=zj
  have n4:∀ c o,c≠k->H3 c=some o->upd H3 k (.ins CK dx (zX "bound" (.int bd) (zX "bad" (.ref bl3) (zX "base" (.int b) [])))) c=some o:=λc o hc e=>by rw [zx hc];exact e
  have f4:∀ c,upd H3 k (.ins CK dx (zX "bound" (.int bd) (zX "bad" (.ref bl3) (zX "base" (.int b) [])))) c=none->H c=none:=λc hc=>by
   have hck:c≠k:=λz=>by rw [z,zj] at hc;cases hc
   rw [zx hck] at hc
   cases e:H c with
   | none=>rfl
   | some o=>rw [s3 _ _ (n2 c o hck e)] at hc;cases hc
  generalize upd H3 k (.ins CK dx (zX "bound" (.int bd) (zX "bad" (.ref bl3) (zX "base" (.int b) []))))=H4 at R4 T4 hk4 n4 f4
  refine⟨_,rfl,?_⟩
  refine zbO R4 g T4 ?_
  rintro tl H5 ⟨la,ws,TA5,G,m5,T5,hla,ntl4,dt,sa,htl,hsa,nrs⟩
  have npT:k≠T0:=λz=>by
   rw [z] at hk4
   rcases T4 with h | ⟨c,h,_⟩
   ·rw [h] at hk4;cases hk4
   ·rw [h] at hk4;cases hk4
  have hk5:=m5 _ _ npT hk4
  have tlk:tl≠k:=λz=>by
   rw [z,hk5] at htl
   injection htl with e
   injection e with _ _ e
   have:=wN b ws.length sa la
   rw [<- e] at this
   rw [zE,if_neg (by decide +kernel),zE,if_neg (by decide +kernel),zE,if_neg (by decide +kernel)] at this
   cases this
  refine⟨_,rfl,k,CK,dx,_,rfl,hk5,cKeeper.cl,cKeeper.n_tails,(by show 3<1000;decide),?_⟩
  have hbl4:=n4 _ _ (lk3 R3.li) R3.li
  have hbl5:=m5 _ _ (T4.lst hbl4) hbl4
  have lk5:∀ {c:Addr} {xs:List V},H5 c=some (.lst xs)->c≠k:=λh=>uz h hk5 (λz=>nomatch z)
  have hz5:∀ z∈zs3,H5 z.1=some (.lst (z.2.map V.int)):=λz hz=>m5 _ _ (T4.lst (n4 _ _ (lk3 (R3.st z hz)) (R3.st z hz))) (n4 _ _ (lk3 (R3.st z hz)) (R3.st z hz))
  rw [<- e3] at G TA5
  have hblH:H bl3=none:=by
   cases e:H bl3 with
   | none=>rfl
   | some o =>
    rw [n2 bl3 o (lk3 R3.li) e] at nb3;cases nb3
  refine kk tl sa la bl3 zs3 ws 1 _ ⟨⟨dx,by rw [zj];rfl⟩,by rw [zx (lk5 hbl5)];exact hbl5,λz hz=>by rw [zx (lk5 (hz5 z hz))];exact hz5 z hz,TA5.updI hk5 tlk,⟨dt,by rw [zx tlk];exact htl⟩,G,zz hbl4 hla,by decide⟩ e3 (λc o hc hcT e=>?_) (T5.putI hk5) (f4 _ hla) (f4 _ hsa) hblH (λc o e hc=>?_)
  ·rw [zx hc]
   exact m5 c o hcT (n4 c o hc (s3 c o (n2 c o hc e)))
  ·obtain⟨o4,e4⟩:∃ o4,H4 c=some o4:=by
    cases e':H4 c with
    | none=>rw [f4 c e'] at e;cases e
    | some o4=>exact⟨o4,rfl⟩
   have h2c:=n2 c o hc e
   have lak:la≠k:=λz=>by rw [z,hk4] at hla;cases hla
   have sak:sa≠k:=λz=>by rw [z,hk4] at hsa;cases hsa
   obtain⟨r1,r2⟩:=nrs c o4 e4
   exact⟨hc,zz e4 ntl4,zz e4 hsa,zz e4 hla,zz e hblH,λz hz=>zz h2c (nz3 z hz).1,λxs hx=>r1 xs (by rwa [zx lak] at hx),λxs hx=>r2 xs (by rwa [zx sak] at hx)⟩
theorem KpAt.ila {H:Hp} {k tl sa la:Addr} {b bd:Nat} {bl:Addr} {zs:ZB} {ws:ZA} {L:Nat} (A:KpAt C CK H k tl sa la b bd bl zs ws L) {c:Addr} {ns:List Int} (h:H c=some (.lst (ns.map V.int))) (hne:ns≠[]):c≠la:=λe=>by
 obtain⟨lrs,h1,_,h3⟩:=A.ta.ly
 rw [e,h1] at h
 injection h with h
 injection h with h
 cases hz2:ns with
 | nil=>exact hne hz2
 | cons x y =>
  rw [hz2] at h
  cases lrs with
  | nil=>cases h
  | cons x' y'=>injection h with h _;cases h
theorem Off.trans {T k la la1:Addr} {H H1 H2:Hp} (a:Off T k la H H1) (b:Off T k la1 H1 H2) (h:H la1=none\/la1=la):Off T k la H H2:=λc o h1 h2 h3 e=>b c o h1 (λz=>by
 rcases h with h | h
 ·rw [z,h] at e;cases e
 ·exact h2 (z.trans h)) h3 (a c o h1 h2 h3 e)
theorem Off.of {T k la:Addr} {H H':Hp} (m:Same H H'):Off T k la H H':=λc o _ _ _ e=>m c o e
theorem Off.aw {T k la:Addr} {H H':Hp} (m:Same (aw [la] H) (aw [la] H')):Off T k la H H':=λc o _ h _ e=>by
 have hc':c∉[la]:=by simpa using h
 have:=m c o (by rw [zL hc'];exact e)
 rwa [zL hc'] at this
def ZG (T0 C CK:Addr):Sp:=λvs H Q _=>∃ (k tl sa la:Addr) (b bd:Nat) (bl:Addr) (zs:ZB) (ws:ZA) (L:Nat) (bl2:Addr) (zs2:ZB),vs=[.ref k,.ref bl2]/\KpAt C CK H k tl sa la b bd bl zs ws L/\bd<2^900/\LT T0 H/\H bl2=some (.lst (zs2.map λz=>V.ref z.1))/\(∀ z∈zs2,H z.1=some (.lst (z.2.map V.int)))/\GoodRule b (zs2.map (·.2))/\bl2≠la /\
 ∀ (p tl2 sa2 la2:Addr) (ws2:ZA) (L2:Nat) (H':Hp),H p=none->H' p=some (.tup [.int (many (gd (zs.map (·.2)) b) bd:Nat),.int (many (gd (zs2.map (·.2)) b) bd:Nat)])->KpAt C CK H' k tl2 sa2 la2 b bd bl2 zs2 ws2 L2->Off T0 k la H H'->LT T0 H'->H la2=none->H sa2=none->p≠la2->(∀ c o,H c=some o->c≠k->c≠bl2->(∀ z∈zs2,c≠z.1)->ClrK c H' k tl2 sa2 la2 bl2 zs2)->Q (.ref p) H'
theorem jb:zF ["self","bad","before"] ["self","bad"] (zu xO):={}
theorem zbz {f f1 f4:Addr} {fd fd1 fd4:FuncData} (D:Mt K CK "Keeper.turn_to" "turn_to" xO An f fd) (MKeeper_below:Mt K CK "Keeper.below" "below" xQ Af f1 fd1) (GKeeper_below:FnOk P w K mg base CX0 5 f1 fd1 Af (Xz T0 C CK)) (WD:Mk K C f4) (Ws:Binds K fd4 ["self","rule"] []) (vN:FnOk P w K mg base CX0 7 f4 fd4 Am (Yd T0 C)) (zV:ClT K mg C) (cKeeper:ClK K mg CK):FnOk P w K mg base CX0 9 f fd An (ZG T0 C CK):=by
 refine D.fn.ok jb (λvs H Q E h=>?_) (λcdv A outer s H vs Q E hr h=>?_)
 ·obtain⟨k,tl,sa,la,b,bd,bl,zs,ws,L,bl2,zs2,rfl,_⟩:=h;rfl
 ·obtain⟨k,tl,sa,la,b,bd,bl,zs,ws,L,bl2,zs2,rfl,KA,hbd,hT,hb2,hz2,g2,bla,kk⟩:=h
  obtain⟨dx,hk⟩:=KA.ob
  refine⟨_,(zq (zG (i:=2) jb.nd rfl (Or.inl rfl) (Yc MKeeper_below cKeeper.cl GKeeper_below (hr.mono (by decide)) (pv 0) (zf (wI K (pv 0)) zg)))
   (zq (jj (pv 0) (pv 1) rfl)
   (zq (jj (pv 0) (JV WD vN (hr.mono (by decide)) rfl zV.nm Ws .nil Qv (zf (yX (zf (wI K (pv 0)) (zf (pv 1) zg))) zg)) rfl)
   (zy (zM (yX (zf (pv 2) (zf (Yc MKeeper_below cKeeper.cl GKeeper_below (hr.mono (by decide)) (pv 0) (zf (wI K (pv 0)) zg)) zg)))))))),?_⟩
  refine⟨_,rfl,k,dx,_,rfl,hk,vC _ _ _ _,_,rfl,k,CK,dx,_,_,rfl,hk,cKeeper.cl,cKeeper.n_bound,Uu _ _ _ _,k,tl,sa,la,b,bd,bl,zs,ws,L,bd,rfl,KA,hbd,hT,λL1 H1 KA1 m1 T1 _=>?_⟩
  obtain⟨dx1,hk1⟩:=KA1.ob
  have O1:Off T0 k la H H1:=Off.aw m1
  have go1:∀ c o,c≠la->H c=some o->H1 c=some o:=λc o hc e=>by
   have hc':c∉[la]:=by simpa using hc
   have:=m1 c o (by rw [zL hc'];exact e)
   rwa [zL hc'] at this
  have hb1:=go1 _ _ bla hb2
  have hz1:∀ z∈zs2,H1 z.1=some (.lst (z.2.map V.int)):=λz hz=>go1 _ _ (KA.ila (hz2 z hz) (g2.st z.2 (List.mem_map.mpr ⟨z,hz,rfl⟩)).ne) (hz2 z hz)
  have f1:∀ c,H1 c=none->H c=none:=λc hc=>by
   cases e:H c with
   | none=>rfl
   | some o =>
    by_cases z:c=la
    ·obtain⟨lx,hx⟩:=KA1.ta.la
     rw [z,hx] at hc;cases hc
    ·rw [go1 c o z e] at hc;cases hc
  refine⟨_,rfl,_,rfl,k,CK,dx1,_,rfl,hk1,cKeeper.cl,cKeeper.n_bad,Nat.lt_of_le_of_lt (zab _ _ _ _) (by decide),?_⟩
  rw [zam]
  have lk1:∀ {c:Addr} {xs:List V},H1 c=some (.lst xs)->c≠k:=λh=>uz h hk1 (λz=>nomatch z)
  have hk2:upd H1 k (.ins CK dx1 (vR b bl2 bd tl)) k=some (.ins CK dx1 (vR b bl2 bd tl)):=zj
  have T2:=T1.putI (o:=.ins CK dx1 (vR b bl2 bd tl)) hk1
  have n2:∀ c o,c≠k->H1 c=some o->upd H1 k (.ins CK dx1 (vR b bl2 bd tl)) c=some o:=λc o hc e=>by rw [zx hc];exact e
  have f2:∀ c,upd H1 k (.ins CK dx1 (vR b bl2 bd tl)) c=none->H c=none:=λc hc=>by
   have hck:c≠k:=λz=>by rw [z,zj] at hc;cases hc
   rw [zx hck] at hc
   exact f1 c hc
  generalize upd H1 k (.ins CK dx1 (vR b bl2 bd tl))=H2 at hk2 T2 n2 f2
  refine⟨_,rfl,k,CK,dx1,_,_,rfl,hk2,cKeeper.cl,cKeeper.n_base,jM _ _ _ _,_,rfl,(by show 2<=sizeLine;decide),λt ht=>?_⟩
  have s3:=zm ht (o:=.tup [.int b,.ref bl2])
  have hb3:=s3 _ _ (n2 _ _ (lk1 hb1) hb1)
  have hz3:∀ z∈zs2,upd H2 t (.tup [.int b,.ref bl2]) z.1=some (.lst (z.2.map V.int)):=λz hz=>s3 _ _ (n2 _ _ (lk1 (hz1 z hz)) (hz1 z hz))
  have T3:=T2.same s3
  refine zbO ⟨zj,hb3,hz3⟩ g2 T3 ?_
  have hk3:=s3 _ _ hk2
  generalize upd H2 t (.tup [.int b,.ref bl2])=H3 at s3 hb3 hz3 T3 hk3
  rintro tl2 H4 ⟨la2,ws2,TA4,G,m4,T4,hla2,ntl3,dt,sa2,htl,hsa2,nrs⟩
  have npT:k≠T0:=λz=>by
   rw [z] at hk3
   rcases T3 with h | ⟨c,h,_⟩
   ·rw [h] at hk3;cases hk3
   ·rw [h] at hk3;cases hk3
  have hk4:=m4 _ _ npT hk3
  have tlk:tl2≠k:=λz=>by
   rw [z,hk4] at htl
   injection htl with e
   injection e with _ _ e
   have:=wN b ws2.length sa2 la2
   rw [<- e,vC] at this
   cases this
  have hb4:=m4 _ _ (T3.lst hb3) hb3
  have hz4:∀ z∈zs2,H4 z.1=some (.lst (z.2.map V.int)):=λz hz=>m4 _ _ (T3.lst (hz3 z hz)) (hz3 z hz)
  have lk4:∀ {c:Addr} {xs:List V},H4 c=some (.lst xs)->c≠k:=λh=>uz h hk4 (λz=>nomatch z)
  refine⟨_,rfl,k,CK,dx1,_,rfl,hk4,cKeeper.cl,cKeeper.n_tails,Nat.lt_of_le_of_lt (zab _ _ _ _) (by decide),?_⟩
  rw [Qk]
  have KA5:KpAt C CK (upd H4 k (.ins CK dx1 (vR b bl2 bd tl2))) k tl2 sa2 la2 b bd bl2 zs2 ws2 1:=⟨⟨dx1,zj⟩,by rw [zx (lk4 hb4)];exact hb4,λz hz=>by rw [zx (lk4 (hz4 z hz))];exact hz4 z hz,TA4.updI hk4 tlk,⟨dt,by rw [zx tlk];exact htl⟩,G,zz hb3 hla2,by decide⟩
  have T5:=T4.putI (o:=.ins CK dx1 (vR b bl2 bd tl2)) hk4
  have O5:Off T0 k la H (upd H4 k (.ins CK dx1 (vR b bl2 bd tl2))):=λc o h1 h2 h3 e=>by rw [zx h1];exact m4 c o h3 (s3 _ _ (n2 c o h1 (go1 c o h2 e)))
  have f5:∀ c,upd H4 k (.ins CK dx1 (vR b bl2 bd tl2)) c=none->H3 c=none:=λc hc=>by
   have hck:c≠k:=λz=>by rw [z,zj] at hc;cases hc
   rw [zx hck] at hc
   cases e:H3 c with
   | none=>rfl
   | some o =>
    by_cases z:c=T0
    ·rw [z] at hc
     exact absurd rfl (T4.none hc)
    ·rw [m4 c o z e] at hc;cases hc
  have fr:∀ c,H3 c=none->H c=none:=λc hc=>f2 c (s3.free hc)
  have CL5:∀ c o,H c=some o->c≠k->c≠bl2->(∀ z∈zs2,c≠z.1)->ClrK c (upd H4 k (.ins CK dx1 (vR b bl2 bd tl2))) k tl2 sa2 la2 bl2 zs2:=λc o e hc hb hz=>by
   obtain⟨o3,e3⟩:∃ o3,H3 c=some o3:=by
    cases e':H3 c with
    | none=>rw [fr c e'] at e;cases e
    | some o3=>exact⟨o3,rfl⟩
   have lak:la2≠k:=λz=>by rw [z,hk3] at hla2;cases hla2
   have sak:sa2≠k:=λz=>by rw [z,hk3] at hsa2;cases hsa2
   obtain⟨r1,r2⟩:=nrs c o3 e3
   exact⟨hc,zz e3 ntl3,zz e3 hsa2,zz e3 hla2,hb,hz,λxs hx=>r1 xs (by rwa [zx lak] at hx),λxs hx=>r2 xs (by rwa [zx sak] at hx)⟩
  generalize upd H4 k (.ins CK dx1 (vR b bl2 bd tl2))=H5 at KA5 T5 O5 f5 CL5
  obtain⟨dx5,hk5⟩:=KA5.ob
  refine⟨_,rfl,_,rfl,k,dx5,_,rfl,hk5,vC _ _ _ _,_,rfl,k,CK,dx5,_,_,rfl,hk5,cKeeper.cl,cKeeper.n_bound,Uu _ _ _ _,k,tl2,sa2,la2,b,bd,bl2,zs2,ws2,1,bd,rfl,KA5,hbd,T5,λL6 H6 KA6 m6 T6 ks6=>⟨(by show 2<=sizeLine;decide),λp hp=>?_⟩⟩
  have s7:=zm hp (o:=.tup [.int (many (gd (zs.map (·.2)) b) bd:Nat),.int (many (gd (zs2.map (·.2)) b) bd:Nat)])
  have O6:=(O5.trans (Off.aw (T:=T0) (k:=k) m6) (.inl (fr _ hla2)))
  obtain⟨lx6,hlx6⟩:=KA6.ta.la
  have pla:p≠la2:=λz=>by rw [z,hlx6] at hp;cases hp
  have hp5:H5 p=none:=by
   cases e:H5 p with
   | none=>rfl
   | some o =>
    have:=Off.aw (T:=T0) (k:=k) m6
    have hc':p∉[la2]:=by simpa using pla
    have:=m6 p o (by rw [zL hc'];exact e)
    rw [zL hc',hp] at this;cases this
  exact kk p tl2 sa2 la2 ws2 L6 _ (fr _ (f5 _ hp5)) zj (KA6.same s7) (λc o h1 h2 h3 e=>s7 _ _ (O6 c o h1 h2 h3 e)) (T6.same s7) (fr _ hla2) (fr _ hsa2) pla λc o e hc hb hz=>by
   obtain⟨o5,e5⟩:∃ o5,H5 c=some o5:=by
    cases e':H5 c with
    | none=>rw [fr c (f5 c e')] at e;cases e
    | some o5=>exact⟨o5,rfl⟩
   have q6:=ks6 c o5 e5 (CL5 c o e hc hb hz)
   have e6:=UW m6 q6.nla e5
   exact KA6.kps s7 c _ e6 q6
def KQ (T0 C CK:Addr) (H:Hp) (k la:Addr) (b bd:Nat) (zs:ZB) (ok:ZA->Prop) (Q:VK):Prop :=
 ∀ (p tl2 sa2 la2 bl2:Addr) (zs2:ZB) (ws2:ZA) (L2:Nat) (H':Hp),H p=none->H' p=some (.tup [.int (many (gd (zs.map (·.2)) b) bd:Nat),.int (many (gd (zs2.map (·.2)) b) bd:Nat)])->KpAt C CK H' k tl2 sa2 la2 b bd bl2 zs2 ws2 L2->ok (zs2.map (·.2))->Off T0 k la H H'->LT T0 H'->H la2=none->H sa2=none->H bl2=none->p≠la2->(∀ c o,H c=some o->c≠k->(∀ z∈zs,c≠z.1)->ClrK c H' k tl2 sa2 la2 bl2 zs2)->Q (.ref p) H'
theorem GoodRule.nodup {b:Nat} {ls:ZA} (g:GoodRule b ls):ls.Nodup:=g.up.imp λ{x y} h z=>by rw [z,HT.yx] at h;cases h
theorem zeV {H:Hp} {b:Nat} {d:PyData} {v:V} (hd:ThAt H d v) (hs:zT b d=true):∃ st,v=.ref st/\H st=some (.lst ((yE d).map V.int))/\YX b (yE d):=by
 obtain⟨l,rfl,h1,h2,h3⟩:=V1 hs
 obtain⟨a,rfl,e⟩:=ThAt.figs (b:=b) hd (by unfold zT at hs;rw [Bool.and_eq_true] at hs;exact hs.1)
 have el:yE (.list (l.map .int))=l:=by
  show (l.map PyData.int).map t8=l
  rw [List.map_map]
  conv=>rhs;rw [<- List.map_id l]
  rfl
 rw [el] at e ⊢
 exact⟨a,rfl,e,h1,h2,h3⟩
def Ul (T0 C CK xD xE:Addr):Sp:=λvs H Q E=>∃ (k tl sa la:Addr) (b bd:Nat) (bl:Addr) (zs:ZB) (ws:ZA) (L:Nat) (v:V) (d:PyData),vs=[.ref k,v]/\KpAt C CK H k tl sa la b bd bl zs ws L/\bd<2^900/\LT T0 H/\ThAt H d v/\uv d<=100000/\(zs.length=4->E (.ref xE) none H) /\
 (zs.length≠4->zT b d=false\/yE d∈zs.map (·.2)->∀ H',Same H H'->E (.ref xD) none H')/\(zs.length≠4->zT b d=true->yE d∉zs.map (·.2)->KQ T0 C CK H k la b bd zs (λls2=>ls2.Perm (zs.map (·.2)++[yE d])) Q)
theorem VV:zF ["self","stretch"] ["self","stretch"] (zu uL):={}
theorem zdd {xD xE:Addr} {f f1 f2:Addr} {fd fd1 fd2:FuncData} {t1:Tok} (D:Mt K CK "Keeper.come" "come" uL Ai f fd) (MKeeper_turn_to:Mt K CK "Keeper.turn_to" "turn_to" xO An f1 fd1) (GKeeper_turn_to:FnOk P w K mg base CX0 9 f1 fd1 An (ZG T0 C CK)) (yK:Df K mg "is_stretch" wW Ab f2 fd2) (xu:FnOk P w K mg base CX0 4 f2 fd2 Ab vm) (yM:mg "MOST_STRETCHES" = some (.int 4 t1)) (cKeeper:ClK K mg CK) (qMh:W9 K mg "NoStretch" xD) (qMi:W9 K mg "TooMany" xE) (T:Blt mg):FnOk P w K mg base (CX1 P w) 10 f fd Ai (Ul T0 C CK xD xE):=by
 refine D.fn.ok1 VV (λvs H Q E h=>?_) (λcdv A outer s H vs Q E hr h=>?_)
 ·obtain⟨k,tl,sa,la,b,bd,bl,zs,ws,L,v,d,rfl,_⟩:=h;rfl
 ·obtain⟨k,tl,sa,la,b,bd,bl,zs,ws,L,v,d,rfl,KA,hbd,hT,hd,hs,kM,kS,kG⟩:=h
  have h4:zs.length<=4:=by have:=KA.gt.g.len;rwa [List.length_map] at this
  have HU:=Wk hr
  have g:=KA.gt.g
  obtain⟨dx,hk⟩:=KA.ob
  refine⟨_,(zq (xF (zZ QZ (zB (xT K) (by rfl) T.n_len PySem.boot_len (zf (wI K (pv 0)) zg)) (yS (v:=.int 4) rfl yM ⟨_,rfl⟩) (ye _))
    (zy (jK qMi jF rfl (zf tK zg)))
    yh)
   (zq (xF (PW.pt (Xo (ZD (vL (zU yK xu (hr.mono (by decide)) (zf (wI K (pv 0)) (zf (pv 1) zg))))) (jW (zZ (zgk K HU) (pv 1) (wI K (pv 0)) (by with_unfolding_all rfl)))))
    (zy (jK qMh jF rfl (zf tK zg)))
    yh)
   (zy (zM (Yc MKeeper_turn_to cKeeper.cl GKeeper_turn_to (hr.mono (by decide)) (pv 0) (zf (zB (zel K HU) (by rfl) T.n_sorted boot_sorted (zf (zJ yq (wI K (pv 0)) (zQ (zf (xf (uZ K) (by rfl) T.n_list boot_list (zf (pv 1) zg)) zg))) zg)) zg)))))),?_⟩
  refine⟨_,rfl,k,CK,dx,_,_,rfl,hk,cKeeper.cl,cKeeper.n_bad,jP _ _ _ _,bl,_,rfl,.inl (SqL.of KA.li),rfl,_,rfl,?_⟩
  rw [List.length_map]
  by_cases hl4:zs.length=4
  ·rw [decide_eq_true (by rw [hl4];rfl)]
   exact yV ⟨by show 1<=sizeLine;decide,kM hl4⟩
  rw [decide_eq_false (λz=>hl4 (by injection z with z;omega))]
  refine xJ ?_
  refine⟨_,rfl,k,CK,dx,_,_,rfl,hk,cKeeper.cl,cKeeper.n_base,jM _ _ _ _,_,rfl,b,v,d,rfl,hd,hs,λH1 s1=>⟨_,rfl,?_⟩⟩
  cases hstr:zT b d with
  | false=>exact yV ⟨by show 1<=sizeLine;decide,kS hl4 (.inl hstr) H1 s1⟩
  | true =>
  refine xJ ?_
  obtain⟨st,rfl,hst,gst⟩:=zeV hd hstr
  have kk:=kG hl4 hstr
  have kS:=λz=>kS hl4 (.inr z)
  have h3:zs.length<=3:=by omega
  generalize yE d=ns at hst gst kk kS
  have KA1:=KA.same s1
  have hk1:=s1 _ _ hk
  refine⟨_,rfl,_,rfl,k,CK,dx,_,_,rfl,hk1,cKeeper.cl,cKeeper.n_bad,jP _ _ _ _,bl,_,(zs.map (·.2)).map yI,yI ns,rfl,SqL.of KA1.li,TrsAt.lists KA1.st,TrAt.ints (a:=st) (SqL.of (s1 _ _ hst)),Nat.le_trans (xU _) (by decide),_,rfl,?_⟩
  rw [if_neg (by decide),Yn]
  by_cases hnot:ns∈zs.map (·.2)
  ·rw [decide_eq_true hnot]
   exact yV ⟨by show 1<=sizeLine;decide,kS hnot H1 s1⟩
  rw [decide_eq_false hnot]
  have kk:=kk hnot
  refine xJ ?_
  refine⟨_,rfl,k,dx,_,rfl,hk1,vC _ _ _ _,?_⟩
  refine⟨_,rfl,k,CK,dx,_,_,rfl,hk1,cKeeper.cl,cKeeper.n_bad,jP _ _ _ _,_,rfl,st,_,rfl,.inl (SqL.of (s1 _ _ hst)),λq hq=>⟨(by show 1<=sizeLine;decide),λl1 hl1=>?_⟩⟩
  have s2:=s1.trans (zm hq (o:=.lst (ns.map V.int)))
  have s3:=s2.trans (zm hl1 (o:=.lst [.ref q]))
  have hq3:=zm hl1 (o:=.lst [.ref q]) _ _ (zj (H:=H1) (a:=q) (o:=.lst (ns.map V.int)))
  refine⟨bl,l1,_,_,rfl,rfl,s3 _ _ KA.li,zj,by rw [List.length_map];exact Nat.le_trans (show zs.length+1<=5 by omega) (by decide),λl2 hl2=>?_⟩
  have s4:=s3.trans (zm hl2 (o:=.lst (zs.map (λz=>V.ref z.1)++[.ref q])))
  have hq4:=zm hl2 (o:=.lst (zs.map (λz=>V.ref z.1)++[.ref q])) _ _ hq3
  have nd:((zs++[(q,ns)]).map (·.2)).Nodup:=by
   rw [List.map_append]
   refine List.nodup_append.mpr ⟨g.nodup,by simp,λx hx y hy=>?_⟩
   have e:y=ns:=by simpa using hy
   rw [e]
   exact λz=>hnot (z▸hx)
  have hst4:∀ z∈zs++[(q,ns)],upd (upd (upd H1 q (.lst (ns.map V.int))) l1 (.lst [.ref q])) l2 (.lst (zs.map (λz=>V.ref z.1)++[.ref q])) z.1=some (.lst (z.2.map V.int)):=λz hz=>by
   rcases List.mem_append.mp hz with hz | hz
   ·exact s4 _ _ (KA.st z hz)
   ·have e:z=(q,ns):=by simpa using hz
    subst e;exact hq4
  refine⟨l2,zs++[(q,ns)],rfl,SqL.of (by rw [zj];simp),by rw [List.length_append,List.length_singleton];omega,λz hz=>SqL.of (hst4 z hz),nd,λbq zs' hbq pm pw=>?_⟩
  have s5:=zm hbq (o:=.lst (zs'.map λz=>V.ref z.1))
  have s15:=s4.trans s5
  have hmem:∀ z,z∈zs'↔z∈zs++[(q,ns)]:=λz=>pm.mem_iff
  have gm:GoodRule b (zs'.map (·.2)):=⟨g.b2,g.b16,by rw [List.length_map,pm.length_eq,List.length_append,List.length_singleton];omega,λl hl=>by
   obtain⟨z,hz,rfl⟩:=List.mem_map.mp hl
   rcases List.mem_append.mp ((hmem z).mp hz) with hz | hz
   ·exact g.st _ (List.mem_map.mpr ⟨z,hz,rfl⟩)
   ·have e:z=(q,ns):=by simpa using hz
    subst e;exact gst,by rw [List.pairwise_map];exact pw⟩
  have KA5:=KA.same s15
  obtain⟨lx,hlx⟩:=KA.ta.la
  have bqla:bq≠la:=λz=>by rw [z,s4 _ _ hlx] at hbq;cases hbq
  refine⟨k,tl,sa,la,b,bd,bl,zs,ws,L,bq,zs',rfl,KA5,hbd,hT.same s15,zj,λz hz=>s5 _ _ (hst4 z ((hmem z).mp hz)),gm,bqla,λp tl2 sa2 la2 ws2 L2 H' hp hv KA2 O2 T2 hla2 hsa2 pla cl2=>?_⟩
  have hqH:H q=none:=s1.free hq
  refine kk p tl2 sa2 la2 bq zs' ws2 L2 H' (s15.free hp) hv KA2 ?_ ((Off.of s15).trans O2 (.inr rfl)) T2 (s15.free hla2) (s15.free hsa2) (s4.free hbq) pla λc o e hc hz=>cl2 c o (s15 _ _ e) hc (zz e (s4.free hbq)) λz hzm=>by
   rcases List.mem_append.mp ((hmem z).mp hzm) with h | h
   ·exact hz z h
   ·have e':z=(q,ns):=by simpa using h
    subst e';exact zz e hqH
  have:=pm.map (·.2)
  rwa [List.map_append] at this
def za8 (T0 C CK xD:Addr):Sp:=λvs H Q E=>∃ (k tl sa la:Addr) (b bd:Nat) (bl:Addr) (zs:ZB) (ws:ZA) (L:Nat) (v:V) (d:PyData),vs=[.ref k,v]/\KpAt C CK H k tl sa la b bd bl zs ws L/\bd<2^900/\LT T0 H/\ThAt H d v/\uv d<=100000 /\
 (zT b d=false\/yE d∉zs.map (·.2)->∀ H',Same H H'->E (.ref xD) none H')/\(zT b d=true->yE d∈zs.map (·.2)->KQ T0 C CK H k la b bd zs (λls2=>ls2=(zs.map (·.2)).filter λl=>decide (l≠yE d)) Q)
theorem JN:zF ["self","stretch"] ["self","stretch"] (zu tE):={}
theorem zfb {xD:Addr} {f f1 f2:Addr} {fd fd1 fd2:FuncData} (D:Mt K CK "Keeper.go" "go" tE Ai f fd) (MKeeper_turn_to:Mt K CK "Keeper.turn_to" "turn_to" xO An f1 fd1) (GKeeper_turn_to:FnOk P w K mg base CX0 9 f1 fd1 An (ZG T0 C CK)) (yK:Df K mg "is_stretch" wW Ab f2 fd2) (xu:FnOk P w K mg base CX0 4 f2 fd2 Ab vm) (cKeeper:ClK K mg CK) (qMh:W9 K mg "NoStretch" xD) (T:Blt mg):FnOk P w K mg base (CX1 P w) 10 f fd Ai (za8 T0 C CK xD):=by
 refine D.fn.ok1 JN (λvs H Q E h=>?_) (λcdv A outer s H vs Q E hr h=>?_)
 ·obtain⟨k,tl,sa,la,b,bd,bl,zs,ws,L,v,d,rfl,_⟩:=h;rfl
 ·obtain⟨k,tl,sa,la,b,bd,bl,zs,ws,L,v,d,rfl,KA,hbd,hT,hd,hs,kS,kG⟩:=h
  have HU:=Wk hr
  have g:=KA.gt.g
  obtain⟨dx,hk⟩:=KA.ob
  refine⟨_,(zq (xF (PW.pt (Xo (ZD (vL (zU yK xu (hr.mono (by decide)) (zf (wI K (pv 0)) (zf (pv 1) zg))))) (jW (zZ (Uq K HU) (pv 1) (wI K (pv 0)) (by with_unfolding_all rfl)))))
    (zy (jK qMh jF rfl (zf tK zg)))
    yh)
   (zy (zM (Yc MKeeper_turn_to cKeeper.cl GKeeper_turn_to (hr.mono (by decide)) (pv 0) (zf (yU (show CScope (zu tE) _ "each" ["self","stretch"] ["stretch"] [1] from {}) rfl (Yz K (wI K (pv 0))) (λ_ _ _ _=>(X3 (zZ (zaH K HU) (pv 0) (pv 1) (ye _)))) (λ_ _ _ _=>(pv 0))) zg))))),?_⟩
  refine⟨_,rfl,k,CK,dx,_,_,rfl,hk,cKeeper.cl,cKeeper.n_base,jM _ _ _ _,_,rfl,b,v,d,rfl,hd,hs,λH1 s1=>⟨_,rfl,?_⟩⟩
  cases hstr:zT b d with
  | false=>exact yV ⟨by show 1<=sizeLine;decide,kS (.inl hstr) H1 s1⟩
  | true =>
  refine xJ ?_
  obtain⟨st,rfl,hst,gst⟩:=zeV hd hstr
  have kk:=kG hstr
  have kS:=λz=>kS (.inr z)
  generalize yE d=ns at hst gst kk kS
  have KA1:=KA.same s1
  have hk1:=s1 _ _ hk
  refine⟨_,rfl,_,rfl,k,CK,dx,_,_,rfl,hk1,cKeeper.cl,cKeeper.n_bad,jP _ _ _ _,bl,_,(zs.map (·.2)).map yI,yI ns,rfl,SqL.of KA1.li,TrsAt.lists KA1.st,TrAt.ints (a:=st) (SqL.of (s1 _ _ hst)),Nat.le_trans (xU _) (by decide),_,rfl,?_⟩
  rw [if_pos rfl,Yn]
  by_cases hin:ns∈zs.map (·.2)
  case neg =>
   rw [decide_eq_false hin]
   exact yV ⟨by show 1<=sizeLine;decide,kS hin H1 s1⟩
  rw [decide_eq_true hin]
  have kk:=kk hin
  refine xJ ?_
  refine⟨_,rfl,k,dx,_,rfl,hk1,vC _ _ _ _,?_⟩
  refine⟨_,rfl,k,CK,dx,_,_,rfl,hk1,cKeeper.cl,cKeeper.n_bad,jP _ _ _ _,bl,rfl,⟨_,SqL.of KA1.li⟩,yN (K:=K) (a:=bl) (xs:=zs.map λz=>V.ref z.1) (λi ys H4=>H4=H1/\ys=((zs.take i).filter λz=>decide (z.2≠ns)).map λz=>V.ref z.1) ⟨rfl,rfl⟩ (λi ys H4 _ ⟨e,_⟩=>by rw [e];exact SqL.of KA1.li) ?_ ?_⟩
  ·rintro j x ys H4 hx ⟨rfl,rfl⟩
   rw [List.getElem?_map] at hx
   obtain⟨z,hzj,e⟩:=Option.map_eq_some_iff.mp hx
   subst e
   have hzm:=List.mem_of_getElem? hzj
   have h4:zs.length<=4:=by have:=g.len;rwa [List.length_map] at this
   refine⟨by rw [List.length_map];exact Nat.lt_of_le_of_lt (Nat.le_trans (List.length_filter_le _ _) (Nat.le_trans (List.length_take_le' _ _) h4)) (by decide),?_⟩
   refine⟨_,rfl,_,rfl,yI z.2,yI ns,TrAt.ints (a:=z.1) (SqL.of (KA1.st z hzm)),TrAt.ints (a:=st) (SqL.of (s1 _ _ hst)),(by rw [qL];decide),_,rfl,?_⟩
   rw [if_pos rfl,qx,List.take_succ,hzj]
   by_cases e:z.2=ns
   ·rw [decide_eq_true e]
    refine xJ ⟨rfl,?_⟩
    simp [List.filter_append,e]
   ·rw [decide_eq_false e]
    refine yV ⟨_,rfl,rfl,?_⟩
    simp [List.filter_append,e]
  rintro ys H4 ⟨rfl,rfl⟩ bq hbq
  rw [List.length_map,List.take_length]
  have s5:=zm hbq (o:=.lst ((zs.filter λz=>decide (z.2≠ns)).map λz=>V.ref z.1))
  have s15:=s1.trans s5
  have ef:(zs.filter λz=>decide (z.2≠ns)).map (·.2)=(zs.map (·.2)).filter λl=>decide (l≠ns):=by
   rw [List.filter_map];rfl
  have gm:GoodRule b ((zs.filter λz=>decide (z.2≠ns)).map (·.2)):=by
   rw [ef]
   exact⟨g.b2,g.b16,Nat.le_trans (List.length_filter_le _ _) g.len,λl hl=>g.st l (List.mem_filter.mp hl).1,g.up.sublist List.filter_sublist⟩
  obtain⟨lx,hlx⟩:=KA.ta.la
  have bqla:bq≠la:=λz=>by rw [z,s1 _ _ hlx] at hbq;cases hbq
  refine⟨k,tl,sa,la,b,bd,bl,zs,ws,L,bq,zs.filter λz=>decide (z.2≠ns),rfl,KA.same s15,hbd,hT.same s15,zj,λz hz=>s15 _ _ (KA.st z (List.mem_filter.mp hz).1),gm,bqla,λp tl2 sa2 la2 ws2 L2 H' hp hv KA2 O2 T2 hla2 hsa2 pla cl2=>?_⟩
  exact kk p tl2 sa2 la2 bq _ ws2 L2 H' (s15.free hp) hv KA2 ef ((Off.of s15).trans O2 (.inr rfl)) T2 (s15.free hla2) (s15.free hsa2) (s1.free hbq) pla λc o e hc hz=>cl2 c o (s15 _ _ e) hc (zz e (s1.free hbq)) λz hzm=>hz z (List.mem_filter.mp hzm).1
end
structure Jt (mg:Str->Option Value) (qA qB qE qS qV xA xB xC xD xE xI xL xS:Addr):Prop where
 qAb:mg "NoBase" = some (.ref qA)
 qAf:mg "NoNumber" = some (.ref qB)
 qAc:mg "NoFigures" = some (.ref qE)
 qAh:mg "NoRule" = some (.ref qS)
 qAj:mg "NoStand" = some (.ref qV)
 qAd:mg "NoGood" = some (.ref xA)
 qAa:mg "Endless" = some (.ref xB)
 qAi:mg "NoRules" = some (.ref xC)
 qBa:mg "NoStretch" = some (.ref xD)
 qBc:mg "TooMany" = some (.ref xE)
 qBb:mg "NoText" = some (.ref xI)
 qAe:mg "NoName" = some (.ref xL)
 qAg:mg "NoRow" = some (.ref xS)
structure tV (K:W.Frag) (C qA qB qE qS qV xA xB xC xD xE xI xL xS:Addr) (k:Nat):Prop where
 i:Vi K C
 v:W.kitOne K (.ref C) (.type "ValueError")=some true
 k0:W.kitOne K (.ref C) (.ref qA)=some (decide (0=k))
 k1:W.kitOne K (.ref C) (.ref qB)=some (decide (1=k))
 k2:W.kitOne K (.ref C) (.ref qE)=some (decide (2=k))
 k3:W.kitOne K (.ref C) (.ref qS)=some (decide (3=k))
 k4:W.kitOne K (.ref C) (.ref qV)=some (decide (4=k))
 k5:W.kitOne K (.ref C) (.ref xA)=some (decide (5=k))
 k6:W.kitOne K (.ref C) (.ref xB)=some (decide (6=k))
 k7:W.kitOne K (.ref C) (.ref xC)=some (decide (7=k))
 k8:W.kitOne K (.ref C) (.ref xD)=some (decide (8=k))
 k9:W.kitOne K (.ref C) (.ref xE)=some (decide (9=k))
 k10:W.kitOne K (.ref C) (.ref xI)=some (decide (10=k))
 k11:W.kitOne K (.ref C) (.ref xL)=some (decide (11=k))
 k12:W.kitOne K (.ref C) (.ref xS)=some (decide (12=k))
def Wc:List Str:=["base","number","figures","rule","stand","good","endless","rules","stretch","many","text","name","row"]
theorem W8:bootBuiltins "ValueError" = some (.type "ValueError"):=by decide +kernel
section
variable {P:Program} {w:World} {K:W.Frag} {mg:Str->Option Value} {base:Heap}
def qg (K:W.Frag) (qA qB qE qS qV xA xB xC xD xE xI xL xS:Addr):Sp:=λvs H Q _=>∃ (e C:Addr) (k:Nat) (dk d:Str),vs=[.ref e,.str d]/\H e=some (ue e C)/\tV K C qA qB qE qS qV xA xB xC xD xE xI xL xS k/\Wc[k]?=some dk/\∀ H',Same H H'->Q (.bl (decide (dk=d))) H'
theorem xV:zF ["e","due","kinds","words","found"] ["e","due"] (zu vO):={}
set_option maxHeartbeats 0 in
theorem Zn {qA qB qE qS qV xA xB xC xD xE xI xL xS:Addr} {f:Addr} {fd:FuncData} (D:Df K mg "_law_kind" vO Ao f fd) (XN:Jt mg qA qB qE qS qV xA xB xC xD xE xI xL xS) (qJj:mg "ValueError" = none) (T:Blt mg) (U:zbv mg):FnOk P w K mg base CX0 1 f fd Ao (qg K qA qB qE qS qV xA xB xC xD xE xI xL xS):=by
 obtain⟨qAb,qAf,qAc,qAh,qAj,qAd,qAa,qAi,qBa,qBc,qBb,qAe,qAg⟩:=XN
 refine D.fn.ok xV (λvs H Q E h=>?_) (λcdv A outer s H vs Q E hr h=>?_)
 ·obtain⟨e,C,k,dk,d,rfl,_⟩:=h;rfl
 ·obtain⟨e,C,k,dk,d,rfl,he,Kd,hd,kk⟩:=h
  have HU:=Wk hr
  have hk:k<13:=(List.getElem?_eq_some_iff.mp hd).1
  refine⟨_,(zq (zG (i:=2) xV.nd rfl (Or.inl rfl) (zQ (zf (zB (uf K) (by rfl) T.n_isinstance boot_isinstance (zf (pv 0) (zf (yS (v:=.ref qA) rfl qAb rfl) zg))) (zf (zB (uf K) (by rfl) T.n_isinstance boot_isinstance (zf (pv 0) (zf (yS (v:=.ref qB) rfl qAf rfl) zg))) (zf (zB (uf K) (by rfl) T.n_isinstance boot_isinstance (zf (pv 0) (zf (yS (v:=.ref qE) rfl qAc rfl) zg))) (zf (zB (uf K) (by rfl) T.n_isinstance boot_isinstance (zf (pv 0) (zf (yS (v:=.ref qS) rfl qAh rfl) zg))) zg))))))
   (zq (zG (i:=2) xV.nd rfl (Or.inl rfl) (zJ yq (pv 2) (zQ (zf (zB (uf K) (by rfl) T.n_isinstance boot_isinstance (zf (pv 0) (zf (yS (v:=.ref qV) rfl qAj rfl) zg))) (zf (zB (uf K) (by rfl) T.n_isinstance boot_isinstance (zf (pv 0) (zf (yS (v:=.ref xA) rfl qAd rfl) zg))) (zf (zB (uf K) (by rfl) T.n_isinstance boot_isinstance (zf (pv 0) (zf (yS (v:=.ref xB) rfl qAa rfl) zg))) (zf (zB (uf K) (by rfl) T.n_isinstance boot_isinstance (zf (pv 0) (zf (yS (v:=.ref xC) rfl qAi rfl) zg))) zg)))))))
   (zq (zG (i:=2) xV.nd rfl (Or.inl rfl) (zJ yq (pv 2) (zQ (zf (zB (uf K) (by rfl) T.n_isinstance boot_isinstance (zf (pv 0) (zf (yS (v:=.ref xD) rfl qBa rfl) zg))) (zf (zB (uf K) (by rfl) T.n_isinstance boot_isinstance (zf (pv 0) (zf (yS (v:=.ref xE) rfl qBc rfl) zg))) (zf (zB (uf K) (by rfl) T.n_isinstance boot_isinstance (zf (pv 0) (zf (yS (v:=.ref xI) rfl qBb rfl) zg))) zg))))))
   (Q3 (zG (i:=2) xV.nd rfl (Or.inl rfl) (zJ yq (pv 2) (zQ (zf (zB (uf K) (by rfl) T.n_isinstance boot_isinstance (zf (pv 0) (zf (yS (v:=.ref xL) rfl qAe rfl) zg))) (zf (zB (uf K) (by rfl) T.n_isinstance boot_isinstance (zf (pv 0) (zf (yS (v:=.ref xS) rfl qAg rfl) zg))) zg)))))
   (J3 (i:=3) xV.nd rfl (Or.inl rfl) (yC (yC (yC (yC (yC (yC (yC (yC (yC (yC (yC zR)))))))))))
   (zq (zat (i:=4) (show Vp (zu vO) _ ["word","kind"] ["e","due","kinds","words","found"] [] [] from {}) rfl xV.nd rfl (Or.inl rfl) (zfE K rfl U.n_zip (zf (zJ yq (pv 3) (zQ (yW (yW zg)))) (zf (pv 2) zg))) (λ_ _ _ _=>(zfd K 2 rfl (wM (yG (i:=0) (show List.Nodup (α:=Str) ["word","kind"] by decide) rfl (.inl (lookup_relabel_local rfl)) (.inr (lookup_relabel_local rfl))) (wM (yG (i:=1) (show List.Nodup (α:=Str) ["word","kind"] by decide) rfl (.inl (lookup_relabel_local rfl)) (.inr (lookup_relabel_local rfl))) X5)))) (λ_ _ _ _=>(X3 (vL (pv 1)))) (λ_ _ _ _=>(pv 0)))
   (zy (zM (Zk (zB (uf K) (by rfl) T.n_isinstance boot_isinstance (zf (pv 0) (zf (Yl (v:=.ty "ValueError") rfl qJj W8 rfl) zg))) (ZK (Yt (zdo K HU) (pv 4) (zQ (zf (pv 1) zg)) (ye _)))))))))))),?_⟩
  refine⟨_,rfl,e,C,_,_,_,rfl,rfl,(λ_ h=>h),he,Kd.i,Kd.k0,_,rfl,e,C,_,_,_,rfl,rfl,(λ_ h=>h),he,Kd.i,Kd.k1,_,rfl,e,C,_,_,_,rfl,rfl,(λ_ h=>h),he,Kd.i,Kd.k2,_,rfl,e,C,_,_,_,rfl,rfl,(λ_ h=>h),he,Kd.i,Kd.k3,(by show 4<=sizeLine;decide),λl0 hl0=>?_⟩
  have m0:=zm hl0 (o:=.lst [V.bl (decide (0=k)),V.bl (decide (1=k)),V.bl (decide (2=k)),V.bl (decide (3=k))])
  have h0:upd H l0 (.lst [V.bl (decide (0=k)),V.bl (decide (1=k)),V.bl (decide (2=k)),V.bl (decide (3=k))]) l0=some (.lst [V.bl (decide (0=k)),V.bl (decide (1=k)),V.bl (decide (2=k)),V.bl (decide (3=k))]):=zj
  generalize hG0:upd H l0 (.lst [V.bl (decide (0=k)),V.bl (decide (1=k)),V.bl (decide (2=k)),V.bl (decide (3=k))])=G0 at m0 h0
  refine⟨_,rfl,_,rfl,e,C,_,_,_,rfl,rfl,(λ_ h=>h),(m0 _ _ he),Kd.i,Kd.k4,_,rfl,e,C,_,_,_,rfl,rfl,(λ_ h=>h),(m0 _ _ he),Kd.i,Kd.k5,_,rfl,e,C,_,_,_,rfl,rfl,(λ_ h=>h),(m0 _ _ he),Kd.i,Kd.k6,_,rfl,e,C,_,_,_,rfl,rfl,(λ_ h=>h),(m0 _ _ he),Kd.i,Kd.k7,(by show 4<=sizeLine;decide),λa1 ha1=>?_⟩
  have n1:=zm ha1 (o:=.lst [V.bl (decide (4=k)),V.bl (decide (5=k)),V.bl (decide (6=k)),V.bl (decide (7=k))])
  refine⟨l0,a1,_,_,rfl,rfl,n1 _ _ h0,zj,(by show 4+4<=sizeLine;decide),λl1 hl1=>?_⟩
  rw [show ([V.bl (decide (0=k)),V.bl (decide (1=k)),V.bl (decide (2=k)),V.bl (decide (3=k))]++[V.bl (decide (4=k)),V.bl (decide (5=k)),V.bl (decide (6=k)),V.bl (decide (7=k))]:List V)=[V.bl (decide (0=k)),V.bl (decide (1=k)),V.bl (decide (2=k)),V.bl (decide (3=k)),V.bl (decide (4=k)),V.bl (decide (5=k)),V.bl (decide (6=k)),V.bl (decide (7=k))] from rfl]
  have m1:=m0.trans (n1.trans (zm hl1 (o:=.lst [V.bl (decide (0=k)),V.bl (decide (1=k)),V.bl (decide (2=k)),V.bl (decide (3=k)),V.bl (decide (4=k)),V.bl (decide (5=k)),V.bl (decide (6=k)),V.bl (decide (7=k))])))
  have h1:upd (upd G0 a1 (.lst [V.bl (decide (4=k)),V.bl (decide (5=k)),V.bl (decide (6=k)),V.bl (decide (7=k))])) l1 (.lst [V.bl (decide (0=k)),V.bl (decide (1=k)),V.bl (decide (2=k)),V.bl (decide (3=k)),V.bl (decide (4=k)),V.bl (decide (5=k)),V.bl (decide (6=k)),V.bl (decide (7=k))]) l1=some (.lst [V.bl (decide (0=k)),V.bl (decide (1=k)),V.bl (decide (2=k)),V.bl (decide (3=k)),V.bl (decide (4=k)),V.bl (decide (5=k)),V.bl (decide (6=k)),V.bl (decide (7=k))]):=zj
  generalize hG1:upd (upd G0 a1 (.lst [V.bl (decide (4=k)),V.bl (decide (5=k)),V.bl (decide (6=k)),V.bl (decide (7=k))])) l1 (.lst [V.bl (decide (0=k)),V.bl (decide (1=k)),V.bl (decide (2=k)),V.bl (decide (3=k)),V.bl (decide (4=k)),V.bl (decide (5=k)),V.bl (decide (6=k)),V.bl (decide (7=k))])=G1 at m1 h1
  refine⟨_,rfl,_,rfl,e,C,_,_,_,rfl,rfl,(λ_ h=>h),(m1 _ _ he),Kd.i,Kd.k8,_,rfl,e,C,_,_,_,rfl,rfl,(λ_ h=>h),(m1 _ _ he),Kd.i,Kd.k9,_,rfl,e,C,_,_,_,rfl,rfl,(λ_ h=>h),(m1 _ _ he),Kd.i,Kd.k10,(by show 3<=sizeLine;decide),λa2 ha2=>?_⟩
  have n2:=zm ha2 (o:=.lst [V.bl (decide (8=k)),V.bl (decide (9=k)),V.bl (decide (10=k))])
  refine⟨l1,a2,_,_,rfl,rfl,n2 _ _ h1,zj,(by show 8+3<=sizeLine;decide),λl2 hl2=>?_⟩
  rw [show ([V.bl (decide (0=k)),V.bl (decide (1=k)),V.bl (decide (2=k)),V.bl (decide (3=k)),V.bl (decide (4=k)),V.bl (decide (5=k)),V.bl (decide (6=k)),V.bl (decide (7=k))]++[V.bl (decide (8=k)),V.bl (decide (9=k)),V.bl (decide (10=k))]:List V)=[V.bl (decide (0=k)),V.bl (decide (1=k)),V.bl (decide (2=k)),V.bl (decide (3=k)),V.bl (decide (4=k)),V.bl (decide (5=k)),V.bl (decide (6=k)),V.bl (decide (7=k)),V.bl (decide (8=k)),V.bl (decide (9=k)),V.bl (decide (10=k))] from rfl]
  have m2:=m1.trans (n2.trans (zm hl2 (o:=.lst [V.bl (decide (0=k)),V.bl (decide (1=k)),V.bl (decide (2=k)),V.bl (decide (3=k)),V.bl (decide (4=k)),V.bl (decide (5=k)),V.bl (decide (6=k)),V.bl (decide (7=k)),V.bl (decide (8=k)),V.bl (decide (9=k)),V.bl (decide (10=k))])))
  have h2:upd (upd G1 a2 (.lst [V.bl (decide (8=k)),V.bl (decide (9=k)),V.bl (decide (10=k))])) l2 (.lst [V.bl (decide (0=k)),V.bl (decide (1=k)),V.bl (decide (2=k)),V.bl (decide (3=k)),V.bl (decide (4=k)),V.bl (decide (5=k)),V.bl (decide (6=k)),V.bl (decide (7=k)),V.bl (decide (8=k)),V.bl (decide (9=k)),V.bl (decide (10=k))]) l2=some (.lst [V.bl (decide (0=k)),V.bl (decide (1=k)),V.bl (decide (2=k)),V.bl (decide (3=k)),V.bl (decide (4=k)),V.bl (decide (5=k)),V.bl (decide (6=k)),V.bl (decide (7=k)),V.bl (decide (8=k)),V.bl (decide (9=k)),V.bl (decide (10=k))]):=zj
  generalize hG2:upd (upd G1 a2 (.lst [V.bl (decide (8=k)),V.bl (decide (9=k)),V.bl (decide (10=k))])) l2 (.lst [V.bl (decide (0=k)),V.bl (decide (1=k)),V.bl (decide (2=k)),V.bl (decide (3=k)),V.bl (decide (4=k)),V.bl (decide (5=k)),V.bl (decide (6=k)),V.bl (decide (7=k)),V.bl (decide (8=k)),V.bl (decide (9=k)),V.bl (decide (10=k))])=G2 at m2 h2
  refine⟨_,rfl,_,rfl,e,C,_,_,_,rfl,rfl,(λ_ h=>h),(m2 _ _ he),Kd.i,Kd.k11,_,rfl,e,C,_,_,_,rfl,rfl,(λ_ h=>h),(m2 _ _ he),Kd.i,Kd.k12,(by show 2<=sizeLine;decide),λa3 ha3=>?_⟩
  have n3:=zm ha3 (o:=.lst [V.bl (decide (11=k)),V.bl (decide (12=k))])
  refine⟨l2,a3,_,_,rfl,rfl,n3 _ _ h2,zj,(by show 11+2<=sizeLine;decide),λl3 hl3=>?_⟩
  rw [show ([V.bl (decide (0=k)),V.bl (decide (1=k)),V.bl (decide (2=k)),V.bl (decide (3=k)),V.bl (decide (4=k)),V.bl (decide (5=k)),V.bl (decide (6=k)),V.bl (decide (7=k)),V.bl (decide (8=k)),V.bl (decide (9=k)),V.bl (decide (10=k))]++[V.bl (decide (11=k)),V.bl (decide (12=k))]:List V)=[V.bl (decide (0=k)),V.bl (decide (1=k)),V.bl (decide (2=k)),V.bl (decide (3=k)),V.bl (decide (4=k)),V.bl (decide (5=k)),V.bl (decide (6=k)),V.bl (decide (7=k)),V.bl (decide (8=k)),V.bl (decide (9=k)),V.bl (decide (10=k)),V.bl (decide (11=k)),V.bl (decide (12=k))] from rfl]
  have m3:=m2.trans (n3.trans (zm hl3 (o:=.lst [V.bl (decide (0=k)),V.bl (decide (1=k)),V.bl (decide (2=k)),V.bl (decide (3=k)),V.bl (decide (4=k)),V.bl (decide (5=k)),V.bl (decide (6=k)),V.bl (decide (7=k)),V.bl (decide (8=k)),V.bl (decide (9=k)),V.bl (decide (10=k)),V.bl (decide (11=k)),V.bl (decide (12=k))])))
  have h3:upd (upd G2 a3 (.lst [V.bl (decide (11=k)),V.bl (decide (12=k))])) l3 (.lst [V.bl (decide (0=k)),V.bl (decide (1=k)),V.bl (decide (2=k)),V.bl (decide (3=k)),V.bl (decide (4=k)),V.bl (decide (5=k)),V.bl (decide (6=k)),V.bl (decide (7=k)),V.bl (decide (8=k)),V.bl (decide (9=k)),V.bl (decide (10=k)),V.bl (decide (11=k)),V.bl (decide (12=k))]) l3=some (.lst [V.bl (decide (0=k)),V.bl (decide (1=k)),V.bl (decide (2=k)),V.bl (decide (3=k)),V.bl (decide (4=k)),V.bl (decide (5=k)),V.bl (decide (6=k)),V.bl (decide (7=k)),V.bl (decide (8=k)),V.bl (decide (9=k)),V.bl (decide (10=k)),V.bl (decide (11=k)),V.bl (decide (12=k))]):=zj
  generalize hG3:upd (upd G2 a3 (.lst [V.bl (decide (11=k)),V.bl (decide (12=k))])) l3 (.lst [V.bl (decide (0=k)),V.bl (decide (1=k)),V.bl (decide (2=k)),V.bl (decide (3=k)),V.bl (decide (4=k)),V.bl (decide (5=k)),V.bl (decide (6=k)),V.bl (decide (7=k)),V.bl (decide (8=k)),V.bl (decide (9=k)),V.bl (decide (10=k)),V.bl (decide (11=k)),V.bl (decide (12=k))])=G3 at m3 h3
  refine⟨(by show 11<=sizeLine;decide),λwl hwl=>?_⟩
  have m4:=m3.trans (zm hwl (o:=.lst [V.str "base",V.str "number",V.str "figures",V.str "rule",V.str "stand",V.str "good",V.str "endless",V.str "rules",V.str "stretch",V.str "many",V.str "text"]))
  have h34:=zm hwl (o:=.lst [V.str "base",V.str "number",V.str "figures",V.str "rule",V.str "stand",V.str "good",V.str "endless",V.str "rules",V.str "stretch",V.str "many",V.str "text"]) _ _ h3
  refine⟨_,rfl,(by show 2<=sizeLine;decide),λw2 hw2=>?_⟩
  have n5:=zm hw2 (o:=.lst [V.str "name",V.str "row"])
  refine⟨wl,w2,_,_,rfl,rfl,n5 _ _ zj,zj,(by show 11+2<=sizeLine;decide),λw3 hw3=>?_⟩
  rw [show ([V.str "base",V.str "number",V.str "figures",V.str "rule",V.str "stand",V.str "good",V.str "endless",V.str "rules",V.str "stretch",V.str "many",V.str "text"]++[V.str "name",V.str "row"]:List V)=[V.str "base",V.str "number",V.str "figures",V.str "rule",V.str "stand",V.str "good",V.str "endless",V.str "rules",V.str "stretch",V.str "many",V.str "text",V.str "name",V.str "row"] from rfl]
  have n6:=zm hw3 (o:=.lst [V.str "base",V.str "number",V.str "figures",V.str "rule",V.str "stand",V.str "good",V.str "endless",V.str "rules",V.str "stretch",V.str "many",V.str "text",V.str "name",V.str "row"])
  have m6:=m4.trans (n5.trans n6)
  have h36:=n6 _ _ (n5 _ _ h34)
  have hw36:upd (upd (upd G3 wl (.lst [V.str "base",V.str "number",V.str "figures",V.str "rule",V.str "stand",V.str "good",V.str "endless",V.str "rules",V.str "stretch",V.str "many",V.str "text"])) w2 (.lst [V.str "name",V.str "row"])) w3 (.lst [V.str "base",V.str "number",V.str "figures",V.str "rule",V.str "stand",V.str "good",V.str "endless",V.str "rules",V.str "stretch",V.str "many",V.str "text",V.str "name",V.str "row"]) w3=some (.lst (Wc.map V.str)):=zj
  have e36:[V.bl (decide (0=k)),V.bl (decide (1=k)),V.bl (decide (2=k)),V.bl (decide (3=k)),V.bl (decide (4=k)),V.bl (decide (5=k)),V.bl (decide (6=k)),V.bl (decide (7=k)),V.bl (decide (8=k)),V.bl (decide (9=k)),V.bl (decide (10=k)),V.bl (decide (11=k)),V.bl (decide (12=k))]=(List.range 13).map λj=>V.bl (decide (j=k)):=rfl
  rw [e36] at h36
  generalize hG6:upd (upd (upd G3 wl (.lst [V.str "base",V.str "number",V.str "figures",V.str "rule",V.str "stand",V.str "good",V.str "endless",V.str "rules",V.str "stretch",V.str "many",V.str "text"])) w2 (.lst [V.str "name",V.str "row"])) w3 (.lst [V.str "base",V.str "number",V.str "figures",V.str "rule",V.str "stand",V.str "good",V.str "endless",V.str "rules",V.str "stretch",V.str "many",V.str "text",V.str "name",V.str "row"])=G6 at m6 h36 hw36
  refine⟨_,rfl,w3,l3,rfl,⟨_,SqL.of hw36⟩,⟨_,SqL.of h36⟩,zcw (K:=K) (a:=w3) (b:=l3) (xs:=Wc.map V.str) (ys:=(List.range 13).map λj=>V.bl (decide (j=k))) (λi zs G7=>zs=(if k<i then [V.str dk] else [])/\Same G6 G7) rfl ⟨by rw [if_neg (by omega)],Same.refl _⟩ (λi zs G7 _ ⟨_,m7⟩=>⟨SqL.of (m7 _ _ hw36),SqL.of (m7 _ _ h36)⟩) ?_ (λi zs G7 _ ⟨e,_⟩=>by rw [e];split;exact (by decide:1<sizeLine);exact (by decide:0<sizeLine)) ?_⟩
  ·rintro i x y zs G7 Tp hx hy ⟨rfl,m7⟩ hT
   rw [List.getElem?_map] at hx hy
   obtain⟨wd,hwd,e1⟩:=Option.map_eq_some_iff.mp hx
   obtain⟨j,hj,e2⟩:=Option.map_eq_some_iff.mp hy
   have ej:j=i:=by
    have q:=List.getElem?_eq_some_iff.mp hj
    obtain⟨_,q⟩:=q
    rw [List.getElem_range] at q
    exact q.symm
   subst e1 e2 ej
   have m8:=m7.trans (zm hT (o:=.tup [V.str wd,V.bl (decide (j=k))]))
   refine⟨Tp,_,rfl,SqT.of zj,rfl,_,_,rfl,_,_,rfl,rfl,⟨[some (.str wd),some (.bl (decide (j=k)))],rfl,rfl⟩,?_⟩
   refine⟨_,rfl,_,rfl,?_⟩
   by_cases hjk:j=k
   ·rw [decide_eq_true hjk] at m8 ⊢
    refine yV ⟨_,rfl,?_,m8⟩
    subst hjk
    rw [hd] at hwd
    cases hwd
    rw [if_neg (by omega),if_pos (by omega)];rfl
   ·rw [decide_eq_false hjk] at m8 ⊢
    refine xJ ⟨?_,m8⟩
    by_cases hlt:k<j
    ·rw [if_pos hlt,if_pos (by omega)]
    ·rw [if_neg hlt,if_neg (by omega)]
  rintro zs G7 ⟨rfl,m7⟩ fd hfd
  rw [if_pos (show k<(Wc.map V.str).length from hk)]
  have m8:=m6.trans (m7.trans (zm hfd (o:=.lst [V.str dk])))
  refine⟨_,rfl,e,C,_,_,_,rfl,rfl,(λ_ h=>h),m8 _ _ he,Kd.i,Kd.v,_,rfl,yV ?_⟩
  refine⟨_,rfl,_,rfl,(by show 1<=sizeLine;decide),λdl hdl=>?_⟩
  refine⟨.lst [.str dk],.lst [.str d],?_,?_,(by simp [uw,xq]),?_⟩
  ·rw [TrAt];exact⟨fd,_,rfl,SqL.of (zm hdl _ _ zj),by rw [TrsAt];exact⟨_,_,rfl,by rw [TrAt],by rw [TrsAt]⟩⟩
  ·rw [TrAt];exact⟨dl,_,rfl,SqL.of zj,by rw [TrsAt];exact⟨_,_,rfl,by rw [TrAt],by rw [TrsAt]⟩⟩
  have et:teq (.lst [.str dk]) (.lst [.str d])=decide (dk=d):=by
   simp only [teq,qj,Bool.and_true]
   rw [Bool.eq_iff_iff,beq_iff_eq,decide_eq_true_iff]
  have q:=kk _ (m8.trans (zm hdl (o:=.lst [V.str d])))
  rw [<- et] at q
  exact q
end
theorem YT {c:Bool} {A B:Prop} (hc:c=false) (h:B):if c=true then A else B:=by rw [hc];exact xJ h
theorem ze3 {c:Bool} {A B:Prop} (hc:c=true) (h:A):if c=true then A else B:=by rw [hc];exact yV h
theorem jD {i j:Int} (h:¬ i=j):decide (V.int i=V.int j)=false:=decide_eq_false (λz=>h (by injection z))
theorem KQ.mono {T0 C CK:Addr} {H:Hp} {k la:Addr} {b bd:Nat} {zs:ZB} {ok:ZA->Prop} {Q Q':VK} (h:KQ T0 C CK H k la b bd zs ok Q) (m:∀ v H',Q v H'->Q' v H'):KQ T0 C CK H k la b bd zs ok Q':=λp tl2 sa2 la2 bl2 zs2 ws2 L2 H' a1 a2 a3 a4 a5 a6 a7 a8 a9 a10 a11=>m _ _ (h p tl2 sa2 la2 bl2 zs2 ws2 L2 H' a1 a2 a3 a4 a5 a6 a7 a8 a9 a10 a11)
def uE (b:Nat) (ls:ZA) (d:PyData) (door:Nat):Option Str :=
 if door=0 then (if ls.length=4 then some ("many" : Str) else if zT b d=false\/yE d∈ls then some ("stretch" : Str) else none)
 else if door=1 then (if zT b d=false\/yE d∉ls then some ("stretch" : Str) else none)
 else if ju d=false then some ("number" : Str) else none
section
variable {b:Nat} {ls:ZA} {d:PyData}
theorem Yo (h:ls.length=4):uE b ls d 0=some ("many" : Str):=by unfold uE;rw [if_pos rfl,if_pos h]
theorem Wx (h:ls.length≠4) (q:zT b d=false\/yE d∈ls):uE b ls d 0=some ("stretch" : Str):=by unfold uE;rw [if_pos rfl,if_neg h,if_pos q]
theorem VF (h:ls.length≠4) (q:zT b d=true) (q2:yE d∉ls):uE b ls d 0=none:=by unfold uE;rw [if_pos rfl,if_neg h,if_neg (by rintro (z | z);rw [q] at z;cases z;exact q2 z)]
theorem XM (q:zT b d=false\/yE d∉ls):uE b ls d 1=some ("stretch" : Str):=by unfold uE;rw [if_neg (by decide),if_pos rfl,if_pos q]
theorem zal (q:zT b d=true) (q2:yE d∈ls):uE b ls d 1=none:=by unfold uE;rw [if_neg (by decide),if_pos rfl,if_neg (by rintro (z | z);rw [q] at z;cases z;exact z q2)]
theorem XR {door:Nat} (h:2<=door) (q:ju d=false):uE b ls d door=some ("number" : Str):=by unfold uE;rw [if_neg (by omega),if_neg (by omega),if_pos q]
end
section
variable {P:Program} {w:World} {K:W.Frag} {mg:Str->Option Value} {base:Heap} {T0 C CK:Addr}
def tW (T0 C CK:Addr):Sp:=λvs H Q _=>∃ (k tl sa la:Addr) (b bd:Nat) (bl:Addr) (zs:ZB) (ws:ZA) (L:Nat) (door:Nat) (v:V) (d:PyData),vs=[.ref k,.int door,v]/\KpAt C CK H k tl sa la b bd bl zs ws L/\bd<2^900/\LT T0 H/\ThAt H d v/\uv d<=100000/\door<4/\(2<=door->ju d=false) /\
 (∀ x,uE b (zs.map (·.2)) d door=some x->∀ H',Same H H'->Q (.str x) H') /\
 (uE b (zs.map (·.2)) d door=none->door=0->KQ T0 C CK H k la b bd zs (λls2=>ls2.Perm (zs.map (·.2)++[yE d])) λ_ H'=>Q (.str "") H') /\
 (uE b (zs.map (·.2)) d door=none->door=1->KQ T0 C CK H k la b bd zs (λls2=>ls2=(zs.map (·.2)).filter λl=>decide (l≠yE d)) λ_ H'=>Q (.str "") H')
theorem ql:zF ["keeper","door","thing","caught","e"] ["keeper","door","thing"] (zu vQ):={}
set_option maxHeartbeats 0 in
theorem Jx {qA qB qE qS qV xA xB xC xD xE xI xL xS yA:Addr} {f f1 f2 f3 f4 f6:Addr} {fd fd1 fd2 fd3 fd4 fd6:FuncData} (D:Df K mg "_law_word" vQ Ap f fd) (MKeeper_come:Mt K CK "Keeper.come" "come" uL Ai f1 fd1) (GKeeper_comeX:FnOk P w K mg base (CX1 P w) 10 f1 fd1 Ai (Ul T0 C CK xD xE)) (MKeeper_go:Mt K CK "Keeper.go" "go" tE Ai f2 fd2) (GKeeper_goX:FnOk P w K mg base (CX1 P w) 10 f2 fd2 Ai (za8 T0 C CK xD))
  (MKeeper_good:Mt K CK "Keeper.good" "good" uN Au f3 fd3) (GKeeper_goodX:FnOk P w K mg base (CX1 P w) 5 f3 fd3 Au (Jj C CK qB)) (MKeeper_below:Mt K CK "Keeper.below" "below" xQ Af f4 fd4) (GKeeper_belowX:FnOk P w K mg base (CX1 P w) 5 f4 fd4 Af (Yv T0 C CK qB)) (cKeeper:ClK K mg CK)
  (wg:Df K mg "_law_kind" vO Ao f6 fd6) (XN:Jt mg qA qB qE qS qV xA xB xC xD xE xI xL xS) (qJj:mg "ValueError" = none) (qBd:JL K mg "LackError" yA)
  (qCh:W.kitCls K (.ref xD) (.ref yA)=some true) (qCf:W.kitCls K (.ref qB) (.ref yA)=some true) (qCi:W.kitCls K (.ref xE) (.ref yA)=some true) (qCc:tV K xD qA qB qE qS qV xA xB xC xD xE xI xL xS 8) (qCa:tV K qB qA qB qE qS qV xA xB xC xD xE xI xL xS 1) (qCd:tV K xE qA qB qE qS qV xA xB xC xD xE xI xL xS 9)
  (T:Blt mg) (U:zbv mg):FnOk P w K mg base CX0 11 f fd Ap (tW T0 C CK):=by
 have Zr:FnOk P w K mg base CX0 1 f6 fd6 Ao (qg K qA qB qE qS qV xA xB xC xD xE xI xL xS):=Zn wg XN qJj T U
 refine D.fn.ok ql (λvs H Q E h=>?_) (λcdv A outer s H vs Q E hr h=>?_)
 ·obtain⟨k,tl,sa,la,b,bd,bl,zs,ws,L,door,v,d,rfl,_⟩:=h;rfl
 ·obtain⟨k,tl,sa,la,b,bd,bl,zs,ws,L,door,v,d,rfl,KA,hbd,hT,hd,hs,h4,hN,kk,kC,kG⟩:=h
  have HU:=Wk hr
  obtain⟨dx,hk⟩:=KA.ob
  have hl:(zs.map (·.2)).length=zs.length:=List.length_map _
  refine⟨_,(zq (zG (i:=3) ql.nd rfl (Or.inr rfl) wD)
   (zq (zas (i:=4) qBd rfl rfl ql.nd rfl rfl (λ_ _ _ hS =>
    (zy (xF (zZ QZ (pv 1) zr (ye _))
     (zy (xX (Jr MKeeper_come cKeeper.cl GKeeper_comeX (hr.mono (by decide)) hS (pv 0) (zf (pv 2) zg))))
     (zy (xF (zZ QZ (pv 1) zr (ye _))
      (zy (xX (Jr MKeeper_go cKeeper.cl GKeeper_goX (hr.mono (by decide)) hS (pv 0) (zf (pv 2) zg))))
      (zy (xF (zZ QZ (pv 1) zr (ye _))
       (zy (xX (Jr MKeeper_good cKeeper.cl GKeeper_goodX (hr.mono (by decide)) hS (pv 0) (zf (pv 2) zg))))
       (zy (xX (Jr MKeeper_below cKeeper.cl GKeeper_belowX (hr.mono (by decide)) hS (pv 0) (zf (pv 2) zg))))))))))) (λ_ =>
    (zy (zG (i:=3) ql.nd rfl (Or.inr rfl) (pv 4)))))
   (zq (xF (zZ Q9 (pv 3) wD (ye _))
    (zy (zM tK))
    yh)
   (zy (zM (yd (yF K) (zJ yq (yU (show CScope (zu vQ) _ "word" ["keeper","door","thing","caught","e"] ["caught"] [3] from {}) rfl (Yz K (zQ (yW (yW (yW zg))))) (λ_ _ _ _=>(X3 (vL (zU wg Zr (hr.mono (by decide)) (zf (pv 1) (zf (pv 0) zg)))))) (λ_ _ _ _=>(pv 0))) (zQ (yW zg))) zr (λ_ _=>rfl))))))),?_⟩
  have eM:∀ (x:Addr) (H1:Hp),uE b (zs.map (·.2)) d door=some ("many" : Str)->Same H H1->H1 x=none->∃ (C:Addr) (k:Nat) (dk:Str),upd H1 x (ue x xE) x=some (ue x C)/\tV K C qA qB qE qS qV xA xB xC xD xE xI xL xS k/\Wc[k]?=some dk/\(dk = "many"\/dk = "stretch"\/dk = "number")/\Same H (upd H1 x (ue x xE))/\uE b (zs.map (·.2)) d door=some dk:=λx H1 q m hx =>
   ⟨xE,9,"many",zj,qCd,rfl,.inl rfl,m.trans (zm hx),q⟩
  have eS:∀ (x:Addr) (H1:Hp),uE b (zs.map (·.2)) d door=some ("stretch" : Str)->Same H H1->H1 x=none->∃ (C:Addr) (k:Nat) (dk:Str),upd H1 x (ue x xD) x=some (ue x C)/\tV K C qA qB qE qS qV xA xB xC xD xE xI xL xS k/\Wc[k]?=some dk/\(dk = "many"\/dk = "stretch"\/dk = "number")/\Same H (upd H1 x (ue x xD))/\uE b (zs.map (·.2)) d door=some dk:=λx H1 q m hx =>
   ⟨xD,8,"stretch",zj,qCc,rfl,.inr (.inl rfl),m.trans (zm hx),q⟩
  have eN:∀ (x:Addr) (H1:Hp),uE b (zs.map (·.2)) d door=some ("number" : Str)->Same H H1->H1 x=none->∃ (C:Addr) (k:Nat) (dk:Str),upd H1 x (ue x qB) x=some (ue x C)/\tV K C qA qB qE qS qV xA xB xC xD xE xI xL xS k/\Wc[k]?=some dk/\(dk = "many"\/dk = "stretch"\/dk = "number")/\Same H (upd H1 x (ue x qB))/\uE b (zs.map (·.2)) d door=some dk:=λx H1 q m hx =>
   ⟨qB,1,"number",zj,qCa,rfl,.inr (.inr rfl),m.trans (zm hx),q⟩
  have dd:door=0\/door=1\/door=2\/door=3:=by omega
  rcases dd with rfl | rfl | rfl | rfl
  case' inl =>
   refine⟨_,rfl,rfl,_,rfl,ze3 (decide_eq_true rfl) ⟨_,rfl,k,dx,_,rfl,hk,vC _ _ _ _,_,rfl,k,tl,sa,la,b,bd,bl,zs,ws,L,v,d,rfl,KA,hbd,hT,hd,hs,λq=>⟨_,rfl,qCi,λx hx=>?m0⟩,λq q2 H1 m=>⟨_,rfl,qCh,λx hx=>?s0⟩,λq q2 q3=>(kC (VF (by rw [hl];exact q) q2 q3) rfl).mono λ_ H1 z=>⟨_,rfl,rfl,_,rfl,yV z⟩⟩⟩
  case' m0 =>
   obtain⟨C,k,dk,hC,Kd,hw,hdk,m2,hq⟩:=eM x H (Yo (by rw [hl];exact q)) (Same.refl _) hx
   generalize upd H x (ue x xE)=H2 at hC m2
  case' s0 =>
   obtain⟨C,k,dk,hC,Kd,hw,hdk,m2,hq⟩:=eS x H1 (Wx (by rw [hl];exact q) q2) m hx
   generalize upd H1 x (ue x xD)=H2 at hC m2
  case' inr.inl =>
   refine⟨_,rfl,rfl,_,rfl,YT (jD (by decide)) ⟨_,rfl,rfl,_,rfl,ze3 (decide_eq_true rfl) ⟨_,rfl,k,dx,_,rfl,hk,vC _ _ _ _,_,rfl,k,tl,sa,la,b,bd,bl,zs,ws,L,v,d,rfl,KA,hbd,hT,hd,hs,λq H1 m=>⟨_,rfl,qCh,λx hx=>?s1⟩,λq q2=>(kG (zal q q2) rfl).mono λ_ H1 z=>⟨_,rfl,rfl,_,rfl,yV z⟩⟩⟩⟩
   obtain⟨C,k,dk,hC,Kd,hw,hdk,m2,hq⟩:=eS x H1 (XM q) m hx
   generalize upd H1 x (ue x xD)=H2 at hC m2
  case' inr.inr.inl =>
   refine⟨_,rfl,rfl,_,rfl,YT (jD (by decide)) ⟨_,rfl,rfl,_,rfl,YT (jD (by decide)) ⟨_,rfl,rfl,_,rfl,ze3 (decide_eq_true rfl) ⟨_,rfl,k,dx,_,rfl,hk,vC _ _ _ _,_,rfl,k,tl,sa,la,b,bd,bl,zs,ws,L,v,d,rfl,KA,hd,hN (by decide),⟨_,rfl,qCf,λx hx=>?n2⟩⟩⟩⟩⟩
   obtain⟨C,k,dk,hC,Kd,hw,hdk,m2,hq⟩:=eN x H (XR (by decide) (hN (by decide))) (Same.refl _) hx
   generalize upd H x (ue x qB)=H2 at hC m2
  case' inr.inr.inr =>
   refine⟨_,rfl,rfl,_,rfl,YT (jD (by decide)) ⟨_,rfl,rfl,_,rfl,YT (jD (by decide)) ⟨_,rfl,rfl,_,rfl,YT (jD (by decide)) ⟨_,rfl,k,dx,_,rfl,hk,vC _ _ _ _,_,rfl,k,tl,sa,la,b,bd,bl,zs,ws,L,v,d,rfl,KA,hd,hT,λq=>⟨_,rfl,qCf,λx hx=>?n3⟩,λn en=>absurd (hN (by decide)) (by rw [en];exact λz=>Js z)⟩⟩⟩⟩
   obtain⟨C,k,dk,hC,Kd,hw,hdk,m2,hq⟩:=eN x H (XR (by decide) (hN (by decide))) (Same.refl _) hx
   generalize upd H x (ue x qB)=H2 at hC m2
  all_goals
   refine⟨_,rfl,_,rfl,rfl,_,rfl,xJ ?_⟩
   have z:=kk dk hq
   refine⟨(by show 3<=sizeLine;decide),λli hli=>⟨li,rfl,⟨_,SqL.of zj⟩,yN (K:=K) (a:=li) (xs:=(["many","stretch","number"]:List Str).map V.str) (λi ys H4=>ys=(((["many","stretch","number"]:List Str).take i).filter λz=>decide (dk=z)).map V.str/\Same (upd H2 li (.lst [V.str "many",V.str "stretch",V.str "number"])) H4) ⟨by simp,Same.refl _⟩ (λi ys H4 _ ⟨_,m4⟩=>SqL.of (m4 _ _ zj)) ?_ ?_⟩⟩
   ·rintro j y ys H4 hj ⟨rfl,m4⟩
    rw [List.getElem?_map] at hj
    obtain⟨wd,hwd,rfl⟩:=Option.map_eq_some_iff.mp hj
    refine⟨?_,?_⟩
    ·rw [List.length_map]
     exact Nat.lt_of_le_of_lt (Nat.le_trans (List.length_filter_le _ _) (by rw [List.length_take];exact Nat.min_le_right _ _)) (by show 3<sizeLine;decide)
    refine⟨_,rfl,_,rfl,x,C,k,dk,wd,rfl,m4 _ _ (zm hli _ _ hC),Kd,hw,λH5 m5=>⟨_,rfl,?_⟩⟩
    rw [List.take_succ,hwd,List.filter_append,List.map_append]
    by_cases e:dk=wd
    ·rw [decide_eq_true e]
     refine yV ⟨_,rfl,?_,m4.trans m5⟩
     simp [e]
    ·rw [decide_eq_false e]
     refine xJ ⟨?_,m4.trans m5⟩
     simp [e]
   ·rintro ys H4 ⟨rfl,m4⟩ Dd hD
    have hf:(((["many","stretch","number"]:List Str).take ((["many","stretch","number"]:List Str).map V.str).length).filter λz=>decide (dk=z)).map V.str=[V.str dk]:=by rcases hdk with rfl | rfl | rfl<;>rfl
    rw [hf]
    refine⟨(by show 1<=sizeLine;decide),λo ho=>⟨Dd,o,_,_,rfl,rfl,zm ho _ _ zj,zj,(by show 1+1<=sizeLine;decide),λr hr=>?_⟩⟩
    exact⟨r,_,_,.str dk,rfl,rfl,SqL.of zj,rfl,z _ ((((m2.trans (zm hli)).trans m4).trans (zm hD)).trans ((zm ho).trans (zm hr)))⟩
def Xr (d e:PyData):Str:=if qO d=false then ("rule" : Str) else if ju e=false then ("number" : Str) else ("" : Str)
def Za (T0:Addr):Sp:=λvs H Q _=>∃ (v u:V) (d e:PyData),vs=[v,u]/\ThAt H d v/\ThAt H e u/\uv d<=100000/\LT T0 H/\∀ H',SameL T0 H H'->LT T0 H'->Q (.str (Xr d e)) H'
theorem qi:zF ["rule","b","caught","e"] ["rule","b"] (zu uQ):={}
set_option maxHeartbeats 0 in
theorem Jb {qA qB qE qS qV xA xB xC xD xE xI xL xS yA:Addr} {f f1 f6:Addr} {fd fd1 fd6:FuncData} (D:Df K mg "_law_made" uQ A8 f fd) (KKeeper:Mk K CK f1) (BKeeper:Binds K fd1 ["self","rule","b"] []) (GKeeper_initX:FnOk P w K mg base (CX1 P w) 9 f1 fd1 Ak (Zg T0 C CK qS qB)) (cKeeper:ClK K mg CK)
  (wg:Df K mg "_law_kind" vO Ao f6 fd6) (XN:Jt mg qA qB qE qS qV xA xB xC xD xE xI xL xS) (qJj:mg "ValueError" = none) (qBd:JL K mg "LackError" yA)
  (qCg:W.kitCls K (.ref qS) (.ref yA)=some true) (qCf:W.kitCls K (.ref qB) (.ref yA)=some true) (qCb:tV K qS qA qB qE qS qV xA xB xC xD xE xI xL xS 3) (qCa:tV K qB qA qB qE qS qV xA xB xC xD xE xI xL xS 1)
  (T:Blt mg) (U:zbv mg):FnOk P w K mg base CX0 11 f fd A8 (Za T0):=by
 have Zr:FnOk P w K mg base CX0 1 f6 fd6 Ao (qg K qA qB qE qS qV xA xB xC xD xE xI xL xS):=Zn wg XN qJj T U
 refine D.fn.ok qi (λvs H Q E h=>?_) (λcdv A outer s H vs Q E hr h=>?_)
 ·obtain⟨v,u,d,e,rfl,_⟩:=h;rfl
 ·obtain⟨v,u,d,e,rfl,hd,he,hs,hT,kk⟩:=h
  have HU:=Wk hr
  refine⟨_,(zq (zG (i:=2) qi.nd rfl (Or.inr rfl) wD)
   (zq (zas (i:=3) qBd rfl rfl qi.nd rfl rfl (λ_ _ _ hS =>
    (zy (xX (ze1 KKeeper GKeeper_initX (hr.mono (by decide)) rfl cKeeper.nm BKeeper hS (zf (pv 0) (zf (pv 1) zg)))))) (λ_ =>
    (zy (zG (i:=2) qi.nd rfl (Or.inr rfl) (pv 3)))))
   (zq (xF (zZ Q9 (pv 2) wD (ye _))
    (zy (zM tK))
    yh)
   (zy (zM (yd (yF K) (zJ yq (yU (show CScope (zu uQ) _ "word" ["rule","b","caught","e"] ["caught"] [2] from {}) rfl (Yz K (zQ (yW (yW zg)))) (λ_ _ _ _=>(X3 (vL (zU wg Zr (hr.mono (by decide)) (zf (pv 1) (zf (pv 0) zg)))))) (λ_ _ _ _=>(pv 0))) (zQ (yW zg))) zr (λ_ _=>rfl))))))),?_⟩
  refine⟨_,rfl,_,rfl,λkx dx nk ndx nek=>?_⟩
  have s0:=Je (C:=CK) nk ndx
  refine⟨kx,dx,v,u,d,e,rfl,zj,hd.same s0,he.same s0,hs,hT.same s0,λq H1 m=>⟨_,rfl,qCg,λx hx=>?r0⟩,λq q2 H1 m=>⟨_,rfl,qCf,λx hx=>?n0⟩,λr b bl zs bd er R g ee tl sa la bl2 zs2 ws L H1 KA ez fr T1 _ _ _ _=>⟨rfl,?g0⟩⟩
  case g0 =>
   have hru:qO d=true:=by
    cases hr:qO d with
    | true=>rfl
    | false =>
     have:=(ThAt.uniq (er▸hd.same s0) R.th)
     rw [this,Zx g] at hr;cases hr
   have z:=kk H1 (λc o hc h=>fr c o (zz h nk) hc (s0 c o h)) T1
   unfold Xr at z
   rw [if_neg (by rw [hru];intro z;cases z),if_neg (by rw [ee];exact λz=>Js z)] at z
   exact⟨_,rfl,rfl,_,rfl,yV z⟩
  case' r0 =>
   obtain⟨C,k,dk,hC,Kd,hw,hdk,m2,hq⟩:∃ (C:Addr) (k:Nat) (dk:Str),upd H1 x (ue x qS) x=some (ue x C)/\tV K C qA qB qE qS qV xA xB xC xD xE xI xL xS k/\Wc[k]?=some dk/\(dk = "rule"\/dk = "number")/\Same H (upd H1 x (ue x qS))/\Xr d e=dk:=⟨qS,3,"rule",zj,qCb,rfl,.inl rfl,(s0.trans m).trans (zm hx),by unfold Xr;rw [if_pos q]⟩
   generalize upd H1 x (ue x qS)=H2 at hC m2
  case' n0 =>
   obtain⟨C,k,dk,hC,Kd,hw,hdk,m2,hq⟩:∃ (C:Addr) (k:Nat) (dk:Str),upd H1 x (ue x qB) x=some (ue x C)/\tV K C qA qB qE qS qV xA xB xC xD xE xI xL xS k/\Wc[k]?=some dk/\(dk = "rule"\/dk = "number")/\Same H (upd H1 x (ue x qB))/\Xr d e=dk:=⟨qB,1,"number",zj,qCa,rfl,.inr rfl,(s0.trans m).trans (zm hx),by unfold Xr;rw [if_neg (by rw [q];intro z;cases z),if_pos q2]⟩
   generalize upd H1 x (ue x qB)=H2 at hC m2
  all_goals
   refine⟨_,rfl,_,rfl,rfl,_,rfl,xJ ?_⟩
   have z:=λG m=>kk G (SameL.of m) (hT.same m)
   rw [hq] at z
   refine⟨(by show 2<=sizeLine;decide),λli hli=>⟨li,rfl,⟨_,SqL.of zj⟩,yN (K:=K) (a:=li) (xs:=(["rule","number"]:List Str).map V.str) (λi ys H4=>ys=(((["rule","number"]:List Str).take i).filter λz=>decide (dk=z)).map V.str/\Same (upd H2 li (.lst [V.str "rule",V.str "number"])) H4) ⟨by simp,Same.refl _⟩ (λi ys H4 _ ⟨_,m4⟩=>SqL.of (m4 _ _ zj)) ?_ ?_⟩⟩
   ·rintro j y ys H4 hj ⟨rfl,m4⟩
    rw [List.getElem?_map] at hj
    obtain⟨wd,hwd,rfl⟩:=Option.map_eq_some_iff.mp hj
    refine⟨?_,?_⟩
    ·rw [List.length_map]
     exact Nat.lt_of_le_of_lt (Nat.le_trans (List.length_filter_le _ _) (by rw [List.length_take];exact Nat.min_le_right _ _)) (by show 2<sizeLine;decide)
    refine⟨_,rfl,_,rfl,x,C,k,dk,wd,rfl,m4 _ _ (zm hli _ _ hC),Kd,hw,λH5 m5=>⟨_,rfl,?_⟩⟩
    rw [List.take_succ,hwd,List.filter_append,List.map_append]
    by_cases e:dk=wd
    ·rw [decide_eq_true e]
     refine yV ⟨_,rfl,?_,m4.trans m5⟩
     simp [e]
    ·rw [decide_eq_false e]
     refine xJ ⟨?_,m4.trans m5⟩
     simp [e]
   ·rintro ys H4 ⟨rfl,m4⟩ Dd hD
    have hf:(((["rule","number"]:List Str).take ((["rule","number"]:List Str).map V.str).length).filter λz=>decide (dk=z)).map V.str=[V.str dk]:=by rcases hdk with rfl | rfl<;>rfl
    rw [hf]
    refine⟨(by show 1<=sizeLine;decide),λo ho=>⟨Dd,o,_,_,rfl,rfl,zm ho _ _ zj,zj,(by show 1+1<=sizeLine;decide),λr hr=>?_⟩⟩
    exact⟨r,_,_,.str dk,rfl,rfl,SqL.of zj,rfl,z _ ((((m2.trans (zm hli)).trans m4).trans (zm hD)).trans ((zm ho).trans (zm hr)))⟩
end
section
variable {P:Program} {w:World} {K:W.Frag} {mg:Str->Option Value} {base:Heap}
def zbT (b:Nat) (ls:ZA):Tr:=.tup [.int b,.lst (ls.map yI)]
theorem TrAt.rule {H:Hp} {r bl:Addr} {b:Nat} {zs:ZB} (R:RuleAt H r b bl zs):TrAt K H (zbT b (zs.map (·.2))) (.ref r):=by
 unfold zbT
 rw [TrAt]
 refine⟨r,_,rfl,SqT.of R.tu,?_⟩
 rw [TrsAt]
 refine⟨_,_,rfl,by rw [TrAt],?_⟩
 rw [TrsAt]
 refine⟨_,_,rfl,?_,by rw [TrsAt]⟩
 rw [TrAt]
 exact⟨bl,_,rfl,SqL.of R.li,TrsAt.lists R.st⟩
end
structure StAt (H:Hp) (p r bl:Addr) (zs:ZB) (b:Nat) (ls:ZA):Prop where
 li:H p=some (.lst [.ref r,.int (many (gd ls b) 5000:Nat),.int (many (gd ls b) (10^24):Nat)])
 ru:RuleAt H r b bl zs
 e:zs.map (·.2)=ls
theorem StAt.same {H H':Hp} {p r bl:Addr} {zs:ZB} {b:Nat} {ls:ZA} (A:StAt H p r bl zs b ls) (m:Same H H'):StAt H' p r bl zs b ls:=⟨m _ _ A.li,A.ru.same m,A.e⟩
structure FrS (H:Hp) (p r bl:Addr) (zs:ZB):Prop where
 p:H p=none
 r:H r=none
 bl:H bl=none
 z:∀ z∈zs,H z.1=none
def tSt (b:Nat) (ls:ZA):Tr:=.lst [zbT b ls,.int (many (gd ls b) 5000:Nat),.int (many (gd ls b) (10^24):Nat)]
theorem zbJ (b:Nat) (ls:ZA):uw (tSt b ls)<=8:=by
 unfold tSt zbT
 rw [uw,xq,xq,xq,xq,uw,xq,xq,xq,uw,uw,uw,uw]
 ·have:=xU ls;omega
 all_goals (intros;rename_i z;cases z)
theorem TrAt.stand {K:W.Frag} {H:Hp} {p r bl:Addr} {zs:ZB} {b:Nat} {ls:ZA} (A:StAt H p r bl zs b ls):TrAt K H (tSt b ls) (.ref p):=by
 unfold tSt
 rw [TrAt]
 refine⟨p,_,rfl,SqL.of A.li,?_⟩
 rw [TrsAt]
 refine⟨_,_,rfl,by rw [<- A.e];exact TrAt.rule A.ru,?_⟩
 rw [TrsAt]
 refine⟨_,_,rfl,by rw [TrAt],?_⟩
 rw [TrsAt]
 exact⟨_,_,rfl,by rw [TrAt],by rw [TrsAt]⟩
section
variable {P:Program} {w:World} {K:W.Frag} {mg:Str->Option Value} {base:Heap} {T0 C CK:Addr}
theorem KpS.aw {H H1 H2:Hp} {k tl sa la bl:Addr} {zs:ZB} (a:KpS H H1 k tl sa la bl zs) (m:Same (L2.aw [la] H) (L2.aw [la] H1)) (b:KpS H1 H2 k tl sa la bl zs):KpS H H2 k tl sa la bl zs:=λc o e q=>b c o (UW m q.nla e) (a c o e q)
theorem ClrK.put {c t:Addr} {H:Hp} {k tl sa la bl:Addr} {zs:ZB} {o:HO} (q:ClrK c H k tl sa la bl zs) (h1:la≠t) (h2:sa≠t):ClrK c (upd H t o) k tl sa la bl zs:=⟨q.nk,q.ntl,q.nsa,q.nla,q.nbl,q.nz,λxs hx=>q.rla xs (by rwa [zx h1] at hx),λxs hx=>q.rsa xs (by rwa [zx h2] at hx)⟩
def jA (T0 C CK:Addr):Sp:=λvs H Q _=>∃ (k tl sa la:Addr) (b bd:Nat) (bl:Addr) (zs:ZB) (ws:ZA) (L:Nat),vs=[.ref k]/\KpAt C CK H k tl sa la b bd bl zs ws L/\LT T0 H /\
 ∀ (p r bl':Addr) (zs':ZB) (L':Nat) (H':Hp),StAt H' p r bl' zs' b (zs.map (·.2))->KpAt C CK H' k tl sa la b bd bl zs ws L'->Same (aw [la] H) (aw [la] H')->LT T0 H'->FrS H p r bl' zs'->KpS H H' k tl sa la bl zs->Q (.ref p) H'
theorem Qe:zF ["keeper"] ["keeper"] (zu qm):={}
theorem U8 {f f1 f2:Addr} {fd fd1 fd2:FuncData} (D:Df K mg "_law_stand" qm Av f fd) (MKeeper_rule:Mt K CK "Keeper.rule" "rule" uK ["self"] f1 fd1) (GKeeper_rule:FnOk P w K mg base CX0 2 f1 fd1 ["self"] (Q6 C CK)) (MKeeper_below:Mt K CK "Keeper.below" "below" xQ Af f2 fd2) (GKeeper_below:FnOk P w K mg base CX0 5 f2 fd2 Af (Xz T0 C CK)) (cKeeper:ClK K mg CK):FnOk P w K mg base CX0 6 f fd Av (jA T0 C CK):=by
 refine D.fn.ok Qe (λvs H Q E h=>?_) (λcdv A outer s H vs Q E hr h=>?_)
 ·obtain⟨k,tl,sa,la,b,bd,bl,zs,ws,L,rfl,_⟩:=h;rfl
 ·obtain⟨k,tl,sa,la,b,bd,bl,zs,ws,L,rfl,KA,hT,kk⟩:=h
  obtain⟨dx,hk⟩:=KA.ob
  obtain⟨lx,hlx⟩:=KA.ta.la
  refine⟨_,(zy (zM (zQ (zf (zfD MKeeper_rule cKeeper.cl GKeeper_rule (hr.mono (by decide)) (pv 0)) (zf (Yc MKeeper_below cKeeper.cl GKeeper_below (hr.mono (by decide)) (pv 0) (zf zr zg)) (zf (Yc MKeeper_below cKeeper.cl GKeeper_below (hr.mono (by decide)) (pv 0) (zf (zJ ZZ zr zr) zg)) zg)))))),?_⟩
  refine⟨_,rfl,k,dx,_,rfl,hk,vC _ _ _ _,k,tl,sa,la,b,bd,bl,zs,ws,L,rfl,KA,λr bl' zs' H1 s1 R1 e1 n1 n2 n3=>?_⟩
  have KA1:=KA.same s1
  have T1:=hT.same s1
  obtain⟨dx1,hk1⟩:=KA1.ob
  refine⟨_,rfl,k,dx1,_,rfl,hk1,vC _ _ _ _,k,tl,sa,la,b,bd,bl,zs,ws,L,5000,rfl,KA1,by decide,T1,λL2 H2 KA2 m2 T2 ks2=>?_⟩
  obtain⟨dx2,hk2⟩:=KA2.ob
  refine⟨_,rfl,k,dx2,_,rfl,hk2,vC _ _ _ _,_,_,rfl,rfl,⟨by decide,by decide,by decide⟩,k,tl,sa,la,b,bd,bl,zs,ws,L2,10^24,congrArg (λz=>[V.ref k,V.int z]) (by decide:(10:Int)^(24:Int).toNat=((10^24:Nat):Int)),KA2,by decide,T2,λL3 H3 KA3 m3 T3 ks3=>⟨(by show 3<=sizeLine;decide),λp hp=>?_⟩⟩
  have m23:=m2.trans m3
  have go:∀ c o,c≠la->H1 c=some o->H3 c=some o:=λc o hc e=>by
   have hc':c∉[la]:=by simpa using hc
   have:=m23 c o (by rw [zL hc'];exact e)
   rwa [zL hc'] at this
  have bla:bl'≠la:=λz=>by rw [z,hlx] at n1;cases n1
  have hlx1:=s1 _ _ hlx
  obtain⟨lx3,hlx3⟩:=KA3.ta.la
  have R3:RuleAt H3 r b bl' zs':=⟨go _ _ (uz R1.tu hlx1 (λz=>nomatch z)) R1.tu,go _ _ bla R1.li,λz hz=>go _ _ (λz'=>by have:=(n3 z hz).1;rw [z',hlx] at this;cases this) (R1.st z hz)⟩
  have s4:=zm hp (o:=.lst [.ref r,.int (many (gd (zs.map (·.2)) b) 5000:Nat),.int (many (gd (zs.map (·.2)) b) (10^24):Nat)])
  have pla:p≠la:=λz=>by rw [z,hlx3] at hp;cases hp
  have hpH:H p=none:=by
   cases e:H p with
   | none=>rfl
   | some o=>rw [go p o pla (s1 _ _ e)] at hp;cases hp
  exact kk p r bl' zs' L3 _ ⟨zj,R3.same s4,e1⟩ (KA3.same s4) ((s1.aw [la]).trans (m23.trans (s4.aw [la]))) (T3.same s4) ⟨hpH,n2,n1,λz hz=>(n3 z hz).1⟩ ((((KA.kps s1).aw (s1.aw [la]) ks2).aw ((s1.aw [la]).trans m2) ks3).aw ((s1.aw [la]).trans m23) (KA3.kps s4))
end
def tyRow (b:Nat) (ls:ZA):Ty:=⟨λG v=>∃ (t:Addr) (door:Nat) (u:V) (x:Str) (d:PyData),v=.ref t/\G t=some (.tup [.int door,u,.str x])/\ThAt G d u/\Fit 9 10000 d/\door<4/\(2<=door->ju d=false)/\uE b ls d door=some x,λs ⟨t,door,u,x,d,e,h,td,r⟩=>⟨t,door,u,x,d,e,s _ _ h,td.same s,r⟩⟩
def zch (ls:ZA):Ty:=⟨λG v=>∃ (a:Addr) (l:List Int),v=.ref a/\G a=some (.lst (l.map V.int))/\l∈ls,λs ⟨a,l,e,h,g⟩=>⟨a,l,e,s _ _ h,g⟩⟩
def U9 (ls:ZA):Str:=if ls.length=4 then ("many" : Str) else ("stretch" : Str)
section
variable {w:View} {Γ:Cxt} {te tx:TE} {K:W.Frag} {b door:Nat} {ls:ZA} {x:Str} {T:Ty}
theorem Tp.eqS:Tp w Γ (tC (.str x)) (Uo (.str x)):=λZ H Q o f q=>q _ H o (Same.refl _) rfl
theorem VJ (hx:Tp w Γ te T) (hw:Tp w Γ tx (Uo (.str x))) (hT:∀ G v,T.p G v->∃ d,ThAt G d v/\Fit 9 10000 d/\(2<=door->ju d=false)/\uE b ls d door=some x) (hd:door<4:=by decide):Tp w Γ (zcb (yQ (tC (.int door)) (yQ te (yQ tx qD)))) (tyRow b ls):=λZ H Q o f q=>hx Z H _ o f λv H1 o1 s1 t1=>hw Z H1 _ o1 (f.same s1) λu H2 o2 s2 e2=>by
 have e2:u=.str x:=e2
 subst e2
 refine⟨yc (by simp),λp hp=>?_⟩
 obtain⟨o3,s3,e3⟩:=w.new (.tup [.int door,v,.str x]) o2 hp
 obtain⟨d,td,fd,h1,h2⟩:=hT _ _ t1
 exact q (.ref p) _ o3 (s1.trans (s2.trans s3)) ⟨p,door,v,x,d,rfl,e3,(td.same s2).same s3,fd,hd,h1,h2⟩
theorem zcB (h:Tp w Γ te (zch ls)):Tp w Γ (tCB (λxs H Q=>∃ p ys,xs=[.ref p]/\(SqL K H p ys\/SqT K H p ys)/\∀ l,H l=none->Q (.ref l) (upd H l (.lst ys))) (yQ te qD)) (zch ls):=λZ H Q o f q=>h Z H _ o f λv H1 o1 s1 ⟨a,l,e,g,hl⟩=>⟨a,_,by rw [e],.inl (SqL.of (w.out g)),λp hp=>by
 obtain⟨o2,s2,e2⟩:=w.new (.lst (l.map V.int)) o1 hp
 exact q (.ref p) _ o2 (s1.trans s2) ⟨p,l,rfl,e2,hl⟩⟩
theorem zbQ {d:PyData} (h:noStr b d=true):uE b ls d 0=some (U9 ls)/\uE b ls d 1=some ("stretch" : Str):=by
 have h:=Z2 h
 refine⟨?_,XM (.inl h)⟩
 unfold U9
 by_cases h4:ls.length=4
 ·rw [if_pos h4,Yo h4]
 ·rw [if_neg h4,Wx h4 (.inl h)]
theorem ze4 (g:GoodRule b ls) (G:Hp) (v:V) (t:(zch ls).p G v):∃ d,ThAt G d v/\Fit 9 10000 d/\(2<=0->ju d=false)/\uE b ls d 0=some (U9 ls):=by
 obtain⟨a,l,rfl,h,hl⟩:=t
 refine⟨.list (l.map .int),ThAt.ints h,(JF g _ (List.mem_map.mpr ⟨l,hl,rfl⟩)).le (by decide) (by decide),λz=>absurd z (by decide),?_⟩
 unfold U9
 by_cases h4:ls.length=4
 ·rw [if_pos h4,Yo h4]
 ·rw [if_neg h4,Wx h4 (.inr (by rw [ints_map];exact hl))]
theorem tyRow.siz {d:PyData} (f:Fit 9 10000 d):uv d<=100000:=Nat.le_trans (Wn d) (Nat.le_trans f.wt (by decide))
end
section
variable {P:Program} {w:World} {K:W.Frag} {mg:Str->Option Value} {base:Heap} {T0 C CK:Addr}
def vf (T0 C CK:Addr):Sp:=λvs H Q _=>∃ (s k tl sa la:Addr) (b bd:Nat) (bl:Addr) (zs:ZB) (ws:ZA) (L:Nat) (r bl':Addr) (zs':ZB),vs=[.ref s,.ref k,.ref r]/\Sto H s/\KpAt C CK (aw [s] H) k tl sa la b bd bl zs ws L/\bd<2^900/\LT T0 (aw [s] H)/\RuleAt (aw [s] H) r b bl' zs'/\zs'.map (·.2)=zs.map (·.2)/\∀ H',Sto H' s->Same (aw [s] H) (aw [s] H')->Q (.bl true) H'
theorem zK:zF ["store","keeper","rule","base","bad","turn","wrong","odd","due","rows","fresh","door","thing","word","kept"] ["store","keeper","rule"] (zu yP):={}
set_option maxHeartbeats 0 in
theorem YF {f f1 f2 f3 f4:Addr} {fd fd1 fd2 fd3 fd4:FuncData} (D:Df K mg "_law_all_refused" yP A9 f fd) (zA:Df K mg "_law_take" yD Ad f1 fd1) (zP:Df K mg "_law_stretch" yp Aj f2 fd2) (xM:Df K mg "_law_no_stretch" wH Ah f3 fd3) (wy:Df K mg "_law_word" vQ Ap f4 fd4) (wV:FnOk P w K mg base CX0 11 f4 fd4 Ap (tW T0 C CK)) (T:Blt mg):FnOk P w K mg base CX0 12 f fd A9 (vf T0 C CK):=by
 have zO:FnOk P w K mg base CX0 1 f1 fd1 Ad yz:=xn zA T
 have wB:FnOk P w K mg base CX0 2 f2 fd2 Aj yZ:=vG zP zA T
 have jQ:FnOk P w K mg base CX0 3 f3 fd3 Ah vI:=qJ xM zA zP T
 refine D.fn.ok zK (λvs H Q E h=>?_) (λcdv A outer s H vs Q E hr h=>?_)
 ·obtain⟨s,k,tl,sa,la,b,bd,bl,zs,ws,L,r,bl',zs',rfl,_⟩:=h;rfl
 ·obtain⟨s,k,tl,sa,la,b,bd,bl,zs,ws,L,r,bl',zs',rfl,St,KA,hbd,hT,R,ez,kk⟩:=h
  have HU:=Wk hr
  have g:=KA.gt.g
  obtain⟨ls,hls⟩:∃ ls:ZA,zs.map (·.2)=ls:=⟨_,rfl⟩
  rw [hls] at g ez
  have b2:=g.b2
  have b16:=g.b16
  have h4l:=g.len
  have ezl:zs'.length=ls.length:=by have:=congrArg List.length ez;rwa [List.length_map] at this
  have h4:zs'.length<=4:=by have:=g.len;rw [<- ez,List.length_map] at this;exact this
  refine⟨_,(zq (Vx (pv 2) (Ut rfl (wM (yG (i:=3) zK.nd rfl (Or.inl rfl)) (wM (yG (i:=4) zK.nd rfl (Or.inl rfl)) X5))))
   (zq (jY PassesOwn.never rfl (wC rfl T.n_range (zf zr zg)) (yG (i:=5) zK.nd rfl (Or.inl rfl))
    (zq (zG (i:=6) zK.nd rfl (Or.inl rfl) (zU xM jQ (hr.mono (by decide)) (zf (pv 0) (zf (pv 3) zg))))
    (zq (zG (i:=7) zK.nd rfl (Or.inl rfl) (Ja (yF K) (zW (zp (pei (W2 ZW zr)) (zp (pei wZ) (zp (pei wZ) (zp (pei wD) (yC (zp (zW (zp zY zR)) (zp (Yq (zp zY zR)) (zp (pei uT) (zp (pei (zJ Zz zr (zJ ZZ zr zr))) (zp (pei (zJ Zz (W2 ZW zr) (zU zA zO (hr.mono (by decide)) (zf (pv 0) (zf zr zg))))) zR))))))))))) (zU zA zO (hr.mono (by decide)) (zf (pv 0) (zf zr zg))) (λ_ _=>rfl)))
    (zq (zG (i:=8) zK.nd rfl (Or.inr rfl) (yd (yF K) (zQ (yW (yW zg))) (xf zcg (by rfl) T.n_int boot_int (zf (Yt QZ (zB (xT K) (by rfl) T.n_len PySem.boot_len (zf (pv 4) zg)) zr (ye _)) zg)) (λ_ _=>rfl)))
    (zq (zG (i:=9) zK.nd rfl (Or.inl rfl) (zQ (zf (yX (zf zr (zf (pv 6) (zf (pv 8) zg)))) (zf (yX (zf zr (zf (pv 6) (yW zg)))) (zf (yX (zf zr (zf (pv 7) (yW zg)))) (zf (yX (zf zr (zf (pv 7) (yW zg)))) zg))))))
    (zq (zG (i:=9) zK.nd rfl (Or.inl rfl) (zJ yq (pv 9) (yU (show CScope (zu yP) _ "one" ["store","keeper","rule","base","bad","turn","wrong","odd","due","rows","fresh","door","thing","word","kept"] ["due"] [8] from {}) rfl (Yz K (pv 4)) (λ_ _ _ _=>xW) (λ_ _ _ _=>(yX (zf zr (zf (xf (uZ K) (by rfl) T.n_list boot_list (zf (pv 0) zg)) (zf (pv 1) zg))))))))
    (zq (zG (i:=10) zK.nd rfl (Or.inl rfl) (zU zP wB (hr.mono (by decide)) (zf (pv 0) (zf (pv 3) (zf (pv 3) zg)))))
    (zq (zfa (xF (zZ (Uq K HU) (pv 10) (pv 4) (by with_unfolding_all rfl))
     (zq (xX (Q5 PySem.F.plainAttrs_list PySem.F.slot_list_append PySem.F.type_list_append jH (pv 9) (zf (yX (zf zr (zf (pv 10) (yW zg)))) zg)))
     (zy (xF (zZ QZ (zB (xT K) (by rfl) T.n_len PySem.boot_len (zf (pv 4) zg)) zr (ye _))
      (zy (xX (Q5 PySem.F.plainAttrs_list PySem.F.slot_list_append PySem.F.type_list_append jH (pv 9) (zf (yX (zf zr (zf (pv 10) (yW zg)))) zg))))
      yh)))
     yh))
    (zy (jY PassesOwn.never rfl (Yz K (pv 9)) (Ut rfl (wM (yG (i:=11) zK.nd rfl (Or.inl rfl)) (wM (yG (i:=12) zK.nd rfl (Or.inl rfl)) (wM (yG (i:=13) zK.nd rfl (Or.inl rfl)) X5))))
     (zq (zG (i:=14) zK.nd rfl (Or.inl rfl) (zB (j9 hr.gd HU) (by rfl) T.n_repr PyProof.Rows.boot_repr (zf (pv 12) zg)))
     (zy (xF (PW.pt (Xo (zZ V5 (zU wy wV (hr.mono (by decide)) (zf (pv 1) (zf (pv 11) (zf (pv 12) zg)))) (pv 13) (ye _)) (jW (zZ V5 (zB (j9 hr.gd HU) (by rfl) T.n_repr PyProof.Rows.boot_repr (zf (pv 12) zg)) (pv 14) (ye _)))))
      (zy (zM wZ))
      yh)))))))))))))
   (zy (zM wZ)))),?_⟩
  refine⟨_,rfl,r,_,rfl,SqT.of (zH _ _ _ _ R.tu),rfl,_,_,rfl,_,_,rfl,rfl,?_⟩
  refine⟨8,rfl,by decide,by decide,qt (lo:=0) (n:=8) (λi Z H2=>∃ v5 v6 v7 v8 v9 v10 v11 v12 v13 v14:Option V,Z=[some (.ref s),some (.ref k),some (.ref r),some (.int b),some (.ref bl'),v5,v6,v7,v8,v9,v10,v11,v12,v13,v14]/\Sto H2 s/\Same (aw [s] H) (aw [s] H2)) ⟨_,_,_,_,_,_,_,_,_,_,rfl,St,Same.refl _⟩ ?_ ?_⟩
  ·rintro i Z H2 hi ⟨v5,v6,v7,v8,v9,v10,v11,v12,v13,v14,rfl,S2,m2⟩
   refine⟨_,rfl,_,rfl,s,b,rfl,S2,b2,b16,λvw H3 S3 m3 tw=>?_⟩
   refine Tp.asg2 (w:=sV s) (Γ:=[some (Uo (.ref s)),none,none,none,none,none,none,none,none,none,none,none,none,none,none]) (T1:=tyQ 9 10000 Xu) (Tp.ix (Tp.lstT (TpB.cons (Tp.qI (Tp.neg Tp.int) (λx h1 h2=>XD (by omega))) (TpB.cons (Tp.sQ Tp.blS (xN (by decide))) (TpB.cons (Tp.sQ Tp.blS (xN (by decide))) (TpB.cons (Tp.sQ Tp.nonS (xN (by decide))) (TpB.cons (Tp.sQ (Tp.strS (by decide +kernel) (by decide +kernel)) (xN (by decide))) (TpB.cons (Tp.sQ (Tp.lS (Tp.lst (TpA.cons (Tp.ofI Tp.int) TpA.nil))) (xN (by decide))) (TpB.cons (Tp.tupQ (TpA.cons (Tp.ofI Tp.int) TpA.nil) (λ_ _=>rfl)) (TpB.cons (Tp.sQ Tp.empS (xN (by decide))) (TpB.cons (Tp.qI (Tp.subI Tp.int (Tp.pow ⟨by decide,by decide,by decide⟩)) (λx h1 h2=>XD (Int.lt_of_le_of_lt h2 (by decide)))) (TpB.cons (Tp.qI (Tp.subI (Tp.neg Tp.int) (wY rfl Tp.int)) (λx h1 h2=>XD (by omega))) TpB.nil))))))))))) (wY rfl Tp.int) (by decide)) S3 (Fits.cons rfl (Fits.any _)) λvo H4 S4 m4 to=>?_
   have tw4:=(tyQ 3 2000 (noStr b)).mo m4 tw
   have m24:=m3.trans m4
   have R4:=(R.same m2).same m24
   refine⟨(by show 2<=sizeLine;decide),λp1 hp1=>?_⟩
   have s5:=zm hp1 (o:=.lst [.str "stretch",.str "many"])
   have S5:Sto (upd H4 p1 (.lst [.str "stretch",.str "many"])) s:=by obtain⟨x,y,z,e⟩:=S4;exact⟨x,y,z,s5 _ _ e⟩
   refine⟨_,rfl,bl',_,rfl,.inl (SqL.of (s5 _ _ (zH _ _ _ _ R4.li))),rfl,.inr ⟨_,rfl,p1,_,_,.str (U9 (zs'.map (·.2))),rfl,rfl,SqL.of zj,?_,?_⟩⟩
   ·rw [List.length_map]
    unfold U9
    rw [List.length_map]
    by_cases e4:zs'.length=4
    ·rw [if_pos e4,decide_eq_true (by rw [e4];rfl)];rfl
    ·rw [if_neg e4,decide_eq_false (λz=>e4 (by injection z with z;omega))];rfl
   have m25:=m24.trans (s5.aw [s])
   have tw5:=(tyQ 3 2000 (noStr b)).mo (s5.aw [s]) tw4
   have to5:=(tyQ 9 10000 Xu).mo (s5.aw [s]) to
   generalize upd H4 p1 (.lst [.str "stretch",.str "many"])=H5 at s5 S5 m25 tw5 to5 ⊢
   rw [ez]
   refine Tp.asg2 (w:=sV s) (Γ:=[none,none,none,none,none,none,some (tyQ 3 2000 (noStr b)),some (tyQ 9 10000 Xu),some (Uo (.str (U9 ls))),none,none,none,none,none,none]) (T1:=yH (tyRow b ls) 4 4) (Tp.lstT (TpB.cons (VJ (T:=tyQ 3 2000 (noStr b)) (Tp.var rfl) (Tp.var rfl) (λG v ⟨d,td,fd,pd⟩=>⟨d,td,fd.le (by decide) (by decide),λz=>absurd z (by decide),(zbQ pd).1⟩)) (TpB.cons (VJ (T:=tyQ 3 2000 (noStr b)) (Tp.var rfl) Tp.eqS (λG v ⟨d,td,fd,pd⟩=>⟨d,td,fd.le (by decide) (by decide),λz=>absurd z (by decide),(zbQ pd).2⟩)) (TpB.cons (VJ (T:=tyQ 9 10000 Xu) (Tp.var rfl) Tp.eqS (λG v ⟨d,td,fd,pd⟩=>⟨d,td,fd,λ_=>Z2 pd,XR (by decide) (Z2 pd)⟩)) (TpB.cons (VJ (T:=tyQ 9 10000 Xu) (Tp.var rfl) Tp.eqS (λG v ⟨d,td,fd,pd⟩=>⟨d,td,fd,λ_=>Z2 pd,XR (by decide) (Z2 pd)⟩)) TpB.nil))))) S5 (Fits.skip (Fits.skip (Fits.skip (Fits.skip (Fits.skip (Fits.skip (Fits.cons tw5 (Fits.cons to5 (Fits.cons rfl (Fits.any _)))))))))) λvr H6 S6 m6 tr=>?_
   have m26:=m25.trans m6
   have R6:=(R.same m2).same m26
   have inB:(yH (zch ls) ls.length ls.length).p (aw [s] H6) (.ref bl'):=by
    refine⟨bl',_,rfl,R6.li,by rw [List.length_map];omega,by rw [List.length_map];omega,λu hu=>?_⟩
    obtain⟨z,hz,rfl⟩:=List.mem_map.mp hu
    exact⟨z.1,z.2,rfl,R6.st z hz,by rw [<- ez];exact List.mem_map.mpr ⟨z,hz,rfl⟩⟩
   refine⟨vr,rfl,Tp.compL (w:=sV s) (Γ:=[none,none,none,none,some (yH (zch ls) ls.length ls.length),none,none,none,some (Uo (.str (U9 ls))),none,none,none,none,none,none]) (js:=[8]) (T:=zch ls) (T':=tyRow b ls) (Tp.var rfl) (VJ (zcB (Tp.var rfl)) (Tp.var rfl) (ze4 g)) (by omega) _ H6 _ S6 (Fits.skip (Fits.skip (Fits.skip (Fits.skip (Fits.cons inB (Fits.skip (Fits.skip (Fits.skip (Fits.cons rfl (Fits.any _))))))))) ) λvc H7 S7 m7 tc=>?_⟩
   obtain⟨ra,rs,e1,g1,l1,l2,r1⟩:=(yH (tyRow b ls) 4 4).mo m7 tr
   obtain⟨ca,cs,e2,g2,l3,l4,r2⟩:=tc
   refine⟨ra,ca,rs,cs,e1,e2,zH _ _ _ _ g1,zH _ _ _ _ g2,yc (by omega),λp hp=>?_⟩
   have np:=S7.ne hp
   have m27:=m26.trans m7
   have R7:=(R.same m2).same m27
   have hrow7:∀ u∈rs++cs,(tyRow b ls).p (aw [s] H7) u:=λu hu=>by
    rcases List.mem_append.mp hu with hu | hu
    ·exact r1 u hu
    ·exact r2 u hu
   have hlen:(rs++cs).length<=8:=by rw [List.length_append];omega
   generalize rs++cs=us at hrow7 hlen
   have s8:=zm hp (o:=.lst us)
   have S8:Sto (upd H7 p (.lst us)) s:=by obtain⟨x,y,z,e⟩:=S7;exact⟨x,y,z,s8 _ _ e⟩
   refine⟨_,rfl,_,rfl,_,rfl,s,b,b,rfl,S8,b2,Nat.le_refl _,b16,λfr ms H9 q9 nfr hfr gms=>?_⟩
   have hp9:=q9.sm p _ np zj
   have into:Same (aw [s] H7) (aw [p] (aw [s] H9)):=λc o e=>by
    obtain⟨n1,e1⟩:=Xg e
    have n2:=zz e1 hp
    rw [zL (by simpa using n2),zL (by simpa using n1)]
    exact q9.sm c o n1 (s8 _ _ e1)
   have m29:Same (aw [s] H2) (aw [p] (aw [s] H9)):=m27.trans into
   have R9:=(R.same m2).same m29
   have hrow9:∀ u∈us,(tyRow b ls).p (aw [p] (aw [s] H9)) u:=λu hu=>(tyRow b ls).mo into (hrow7 u hu)
   have S9:=q9.st
   have nfp:fr≠p:=λz=>by rw [z,zj] at nfr;cases nfr
   have nfs:=S8.ne nfr
   refine⟨λZ H'=>∃ (xs:List V) (v11 v12 v13 v14:Option V),Z=[some (.ref s),some (.ref k),some (.ref r),some (.int b),some (.ref bl'),some (.int (0+(i:Int))),some vw,some vo,some (.str (U9 ls)),some (.ref p),some (.ref fr),v11,v12,v13,v14]/\Sto H' s/\Same (aw [s] H2) (aw [s] H')/\H' p=some (.lst xs)/\xs.length<=10/\∀ u∈xs,(tyRow b ls).p (aw [s] H') u,?_,?_⟩
   ·have all:∀ {M:List Addr} {c:Addr} {o:HO} {G:Hp},aw [p] (aw M G) c=some o->G c=some o:=λe=>zH _ _ _ _ (zH _ _ _ _ e)
    refine⟨_,rfl,_,rfl,bl',_,(zs'.map (·.2)).map yI,yI ms,rfl,SqL.of (all R9.li),TrsAt.lists λz hz=>all (R9.st z hz),TrAt.ints (a:=fr) (SqL.of hfr),Nat.le_trans (xU _) (by decide),_,rfl,?_⟩
    rw [if_pos rfl,Yn,ez]
    by_cases hin:ms∈ls
    ·rw [decide_eq_true hin]
     exact xJ ⟨us,_,_,_,_,rfl,S9,m29.trans (zH _ _),hp9,by omega,λu hu=>(tyRow b ls).mo (zH _ _) (hrow9 u hu)⟩
    ·rw [decide_eq_false hin]
     refine yV ?_
     have step:∀ (Hx:Hp) (xs:List V) (door:Nat) (x:Str) (t1:Addr),Sto Hx s->Same (aw [p] (aw [s] H9)) (aw [p] (aw [s] Hx))->Hx p=some (.lst xs)->(∀ u∈xs,(tyRow b ls).p (aw [p] (aw [s] Hx)) u)->Hx fr=some (.lst (ms.map V.int))->Hx t1=none->door<2->uE b ls (.list (ms.map .int)) door=some x ->
       Sto (upd (upd Hx t1 (.tup [.int door,.ref fr,.str x])) p (.lst (xs++[.ref t1]))) s/\Same (aw [p] (aw [s] H9)) (aw [p] (aw [s] (upd (upd Hx t1 (.tup [.int door,.ref fr,.str x])) p (.lst (xs++[.ref t1])))))/\(∀ u∈xs++[.ref t1],(tyRow b ls).p (aw [p] (aw [s] (upd (upd Hx t1 (.tup [.int door,.ref fr,.str x])) p (.lst (xs++[.ref t1]))))) u)/\upd (upd Hx t1 (.tup [.int door,.ref fr,.str x])) p (.lst (xs++[.ref t1])) fr=some (.lst (ms.map V.int)):=by
      intro Hx xs door x t1 Sx mx hpx hrx hfx ht1 hd2 hre
      have nt1p:t1≠p:=λz=>by rw [z,hpx] at ht1;cases ht1
      have nt1s:=Sx.ne ht1
      have kp:∀ c o,c≠p->Hx c=some o->upd (upd Hx t1 (.tup [.int door,.ref fr,.str x])) p (.lst (xs++[.ref t1])) c=some o:=λc o hc e=>by rw [zx hc];exact zm ht1 _ _ e
      have mk:Same (aw [p] (aw [s] Hx)) (aw [p] (aw [s] (upd (upd Hx t1 (.tup [.int door,.ref fr,.str x])) p (.lst (xs++[.ref t1]))))):=λc o e=>by
       obtain⟨c1,e⟩:=Xg e
       obtain⟨c2,e⟩:=Xg e
       rw [zL (by simpa using c1),zL (by simpa using c2)]
       exact kp c o c1 e
      refine⟨?_,mx.trans mk,λu hu=>?_,kp _ _ nfp hfx⟩
      ·obtain⟨x1,y1,z1,e⟩:=Sx
       exact⟨x1,y1,z1,kp _ _ (Ne.symm np) e⟩
      ·rcases List.mem_append.mp hu with hu | hu
       ·exact (tyRow b ls).mo mk (hrx u hu)
       ·rw [List.mem_singleton.mp hu]
        refine⟨t1,door,.ref fr,x,.list (ms.map .int),rfl,?_,ThAt.ints ?_,(Fit.ints (n:=404) (λi hi=>by have:=gms.fig i hi;omega) (by have:=gms.len;omega)).le (by decide) (by decide),by omega,λz=>absurd z (by omega),hre⟩
        ·rw [zL (by simpa using nt1p),zL (by simpa using nt1s),zx nt1p,zj]
        ·rw [zL (by simpa using nfp),zL (by simpa using nfs)]
         exact kp _ _ nfp hfx
     refine⟨_,rfl,.inl ⟨rfl,_,SqL.of hp9⟩,_,rfl,(by show 3<=sizeLine;decide),λt1 ht1=>⟨p,_,_,rfl,rfl,zm ht1 _ _ hp9,Nat.lt_of_le_of_lt hlen (by decide),?_⟩⟩
     obtain⟨S10,m10,hrow10,hfr10⟩:=step H9 us 1 ("stretch" : Str) t1 S9 (Same.refl _) hp9 hrow9 hfr ht1 (by decide) (XM (.inr (by rw [ints_map];exact hin)))
     have hp10:upd (upd H9 t1 (.tup [.int (1:Nat),.ref fr,.str "stretch"])) p (.lst (us++[.ref t1])) p=some (.lst (us++[.ref t1])):=zj
     have R10:=R9.same m10
     have hlen10:(us++[V.ref t1]).length<=9:=by rw [List.length_append,List.length_singleton];omega
     generalize upd (upd H9 t1 (.tup [.int (1:Nat),.ref fr,.str "stretch"])) p (.lst (us++[.ref t1]))=H10 at S10 m10 hrow10 hfr10 hp10 R10 ⊢
     generalize us++[V.ref t1]=xs at hrow10 hp10 hlen10
     refine⟨_,rfl,bl',_,rfl,.inl (SqL.of (all R10.li)),rfl,_,rfl,?_⟩
     rw [List.length_map]
     by_cases e4:zs'.length=4
     ·rw [decide_eq_true (by rw [e4];rfl)]
      refine yV ⟨_,rfl,.inl ⟨rfl,_,SqL.of hp10⟩,_,rfl,(by show 3<=sizeLine;decide),λt2 ht2=>⟨p,_,_,rfl,rfl,zm ht2 _ _ hp10,Nat.lt_of_le_of_lt hlen10 (by decide),?_⟩⟩
      obtain⟨S11,m11,hrow11,hfr11⟩:=step H10 xs 0 ("many" : Str) t2 S10 m10 hp10 hrow10 hfr10 ht2 (by decide) (Yo (by omega))
      exact⟨_,_,_,_,_,rfl,S11,(m29.trans m11).trans (zH _ _),zj,by rw [List.length_append,List.length_singleton];omega,λu hu=>(tyRow b ls).mo (zH _ _) (hrow11 u hu)⟩
     ·rw [decide_eq_false (λz=>e4 (by injection z with z;omega))]
      exact xJ ⟨_,_,_,_,_,rfl,S10,(m29.trans m10).trans (zH _ _),hp10,by omega,λu hu=>(tyRow b ls).mo (zH _ _) (hrow10 u hu)⟩
   ·rintro Z H' ⟨xs,v11,v12,v13,v14,rfl,S',m',hp',hl',hrow⟩
    refine⟨_,rfl,p,rfl,⟨_,SqL.of hp'⟩,zae (K:=K) (a:=p) (xs:=xs) (λj Z G=>∃ v11 v12 v13 v14:Option V,Z=[some (.ref s),some (.ref k),some (.ref r),some (.int b),some (.ref bl'),some (.int (0+(i:Int))),some vw,some vo,some (.str (U9 ls)),some (.ref p),some (.ref fr),v11,v12,v13,v14]/\Sto G s/\Same H' G) ⟨_,_,_,_,rfl,S',Same.refl _⟩ (λj Z G _ ⟨_,_,_,_,_,_,m⟩=>SqL.of (m _ _ hp')) ?_ ?_⟩
    ·rintro j x Z G hx ⟨u11,u12,u13,u14,rfl,SG,mG⟩
     obtain⟨t,door,u,xw,d,rfl,ht,td,fd,hdo,hnum,href⟩:=(tyRow b ls).mo (mG.aw [s]) (hrow x (List.mem_of_getElem? hx))
     have td:ThAt G d u:=td.same (zH _ _)
     have mA:=((m2.trans m').trans (mG.aw [s])).trans (zH [s] G)
     refine⟨t,_,rfl,SqT.of (zH _ _ _ _ ht),rfl,_,_,rfl,_,_,rfl,_,_,rfl,rfl,?_⟩
     refine⟨_,rfl,_,_,rfl,td,fd.sh,fd.shown (by decide),Nat.le_trans fd.dp (by decide),?_⟩
     refine⟨_,rfl,_,rfl,_,rfl,k,tl,sa,la,b,bd,bl,zs,ws,L,door,u,d,rfl,KA.same mA,hbd,hT.same mA,td,tyRow.siz fd,hdo,hnum,λx' hx' H3 m3=>?_,(λz=>by rw [hls,href] at z;cases z),(λz=>by rw [hls,href] at z;cases z)⟩
     rw [hls,href] at hx'
     obtain rfl:xw=x':=by injection hx'
     refine⟨_,rfl,rfl,_,rfl,YT (by rw [decide_eq_true rfl];rfl) ?_⟩
     refine⟨_,rfl,_,_,rfl,td.same m3,fd.sh,fd.shown (by decide),Nat.le_trans fd.dp (by decide),_,rfl,rfl,_,rfl,YT (by rw [decide_eq_true rfl];rfl) ?_⟩
     exact⟨_,_,_,_,rfl,by obtain⟨x1,y1,z1,e⟩:=SG;exact⟨x1,y1,z1,m3 _ _ e⟩,mG.trans m3⟩
    ·rintro Z G ⟨u11,u12,u13,u14,rfl,SG,mG⟩
     exact⟨_,_,_,_,_,_,_,_,_,_,rfl,SG,(m2.trans m').trans (mG.aw [s])⟩
  ·rintro Z H2 ⟨v5,v6,v7,v8,v9,v10,v11,v12,v13,v14,rfl,S2,m2⟩
   exact kk H2 S2 m2
end
theorem KpAt.clr {C CK:Addr} {H H':Hp} {s k tl sa la:Addr} {b bd:Nat} {bl:Addr} {zs:ZB} {ws:ZA} {L:Nat} (A:KpAt C CK H k tl sa la b bd bl zs ws L) (q:ClrK s H k tl sa la bl zs) (m:∀ c o,c≠s->H c=some o->H' c=some o):KpAt C CK H' k tl sa la b bd bl zs ws L/\ClrK s H' k tl sa la bl zs:=by
 obtain⟨dx,h1⟩:=A.ob
 obtain⟨dt,h2⟩:=A.sa
 obtain⟨xs1,w1⟩:=A.las
 obtain⟨xs2,w2⟩:=A.sas
 obtain⟨dx',sa',srs,t1,t2,t3,t4⟩:=A.ta.ob
 obtain⟨lrs,g1,g2,g3⟩:=A.ta.ly
 have esa:sa=sa':=by
  have:=zH _ _ _ _ t1
  rw [h2] at this
  injection this with this
  injection this with _ _ this
  have e:=wN b ws.length sa' la
  rw [<- this,wN] at e
  injection e with e
  injection e
 subst esa
 have go:∀ c u,c≠s->aw [la] H c=some u->aw [la] H' c=some u:=λc u hc e=>by
  have hcl:c∉[la]:=λhz=>by rw [qY hz] at e;cases e
  rw [zL hcl] at e ⊢
  exact m c u hc e
 refine⟨⟨⟨dx,m _ _ (Ne.symm q.nk) h1⟩,m _ _ (Ne.symm q.nbl) A.li,λz hz=>m _ _ (Ne.symm (q.nz z hz)) (A.st z hz),⟨⟨dx',sa,srs,go _ _ (Ne.symm q.ntl) t1,go _ _ (Ne.symm q.nsa) t2,λz hz=>go _ _ (λe=>?_) (t3 z hz),t4⟩,⟨lrs,m _ _ (Ne.symm q.nla) g1,λz hz=>go _ _ (λe=>?_) (g2 z hz),g3⟩,A.ta.l1⟩,⟨dt,m _ _ (Ne.symm q.ntl) h2⟩,A.gt,A.bla,A.l⟩,⟨q.nk,q.ntl,q.nsa,q.nla,q.nbl,q.nz,q.rla.same w1 (m _ _ (Ne.symm q.nla) w1),q.rsa.same w2 (m _ _ (Ne.symm q.nsa) w2)⟩⟩
 ·exact q.rsa _ (zH _ _ _ _ t2) (List.mem_map.mpr ⟨z,hz,by rw [e]⟩)
 ·exact q.rla _ g1 (List.mem_map.mpr ⟨z,hz,by rw [e]⟩)
theorem LT.stq {T s:Addr} {H H':Hp} (h:LT T H) (S:Sto H s) (m:∀ c o,c≠s->H c=some o->H' c=some o):LT T H':=by
 obtain⟨g,x,k,e⟩:=S
 have n0:T≠s:=Ne.symm (h.lst e)
 rcases h with h | ⟨c,h1,h2⟩
 ·exact .inl (m _ _ n0 h)
 ·refine .inr ⟨c,m _ _ n0 h1,m _ _ (λz=>?_) h2⟩
  rw [z,e] at h2
  cases h2
theorem zaJ {M:List Addr} {c:Addr} {H:Hp} {o:HO} (h:aw M H c=some o):c∉M/\H c=some o:=by
 have hc:c∉M:=λz=>by rw [qY z] at h;cases h
 rw [zL hc] at h
 exact⟨hc,h⟩
theorem StAt.into {H:Hp} {M:List Addr} {p r bl:Addr} {zs:ZB} {b:Nat} {ls:ZA} (A:StAt H p r bl zs b ls) (h1:p∉M) (h2:r∉M) (h3:bl∉M) (h4:∀ z∈zs,z.1∉M):StAt (aw M H) p r bl zs b ls :=
 ⟨by rw [zL h1];exact A.li,⟨by rw [zL h2];exact A.ru.tu,by rw [zL h3];exact A.ru.li,λz hz=>by rw [zL (h4 z hz)];exact A.ru.st z hz⟩,A.e⟩
theorem zeI {M:List Addr} {H:Hp} {c:Addr} (hM:∀ m∈M,H m≠none) (h:H c=none):c∉M:=λz=>hM c z h
theorem zbF:∀ {l1 l2:ZA},l1.Pairwise (λx y=>HT.lexLt x y=true)->l2.Pairwise (λx y=>HT.lexLt x y=true)->(∀ x,x∈l1↔x∈l2)->l1=l2
 | [],[],_,_,_=>rfl
 | [],y :: l2,_,_,h=>absurd ((h y).mpr List.mem_cons_self) List.not_mem_nil
 | x :: l1,[],_,_,h=>absurd ((h x).mp List.mem_cons_self) List.not_mem_nil
 | x :: l1,y :: l2,p1,p2,h=>by
  rw [List.pairwise_cons] at p1 p2
  have e:x=y:=by
   rcases List.mem_cons.mp ((h x).mp List.mem_cons_self) with e | e
   ·exact e
   ·rcases List.mem_cons.mp ((h y).mpr List.mem_cons_self) with e' | e'
    ·exact e'.symm
    ·have a1:=p2.1 x e
     have a2:=p1.1 y e'
     have:=HT.wO _ _ _ a1 a2
     rw [HT.yx] at this;cases this
  subst e
  rw [zbF p1.2 p2.2 λz=>?_]
  constructor
  ·intro hz
   rcases List.mem_cons.mp ((h z).mp (List.mem_cons_of_mem _ hz)) with e | e
   ·have:=p1.1 z hz
    rw [e,HT.yx] at this;cases this
   ·exact e
  ·intro hz
   rcases List.mem_cons.mp ((h z).mpr (List.mem_cons_of_mem _ hz)) with e | e
   ·have:=p2.1 z hz
    rw [e,HT.yx] at this;cases this
   ·exact e
theorem LT.ins {T:Addr} {H:Hp} (h:LT T H) {b CS dx:Addr} {fs:List (Str×V)} (e:H b=some (.ins CS dx fs)):b≠T:=λz=>by
 rw [z] at e
 rcases h with h | ⟨c,h,_⟩
 ·rw [h] at e;cases e
 ·rw [h] at e;cases e
theorem LT.sq {K:W.Frag} {T a:Addr} {H H':Hp} {xs:List V} (h:LT T H) (m:SameL T H H') (q:SqL K H a xs):SqL K H' a xs:=by
 rcases q with (q | ⟨o,q⟩) | q
 ·exact .inl (.inl (m _ _ (h.lst q) q))
 ·refine .inl (.inr ⟨o,m _ _ (λz=>?_) q⟩)
  rw [z] at q
  rcases h with h | ⟨c,h,_⟩
  ·rw [h] at q;cases q
  ·rw [h] at q;cases q
 ·exact .inr q
def Yu (T0 C CK:Addr):Sp:=λvs H Q _=>∃ (k dx r:Addr) (b:Nat) (bl:Addr) (zs:ZB) (bd:Nat),vs=[.ref k,.ref r,.int bd]/\H k=some (.ins CK dx [])/\RuleAt H r b bl zs/\GoodRule b (zs.map (·.2))/\LT T0 H /\
 ∀ (tl sa la bl2:Addr) (zs2:ZB) (ws:ZA) (L:Nat) (H':Hp),KpAt C CK H' k tl sa la b bd bl2 zs2 ws L->zs2.map (·.2)=zs.map (·.2)->(∀ c o,c≠k->c≠T0->H c=some o->H' c=some o)->LT T0 H'->H la=none->H sa=none->H bl2=none->(∀ c o,H c=some o->c≠k->ClrK c H' k tl sa la bl2 zs2)->Q .non H'
def zf2 (T0 C CK:Addr) (b bd:Nat) (ls:ZA) (H:Hp) (k:Addr) (H':Hp):Prop:=∃ (tl sa la bl:Addr) (zs:ZB) (ws:ZA) (L:Nat),KpAt C CK H' k tl sa la b bd bl zs ws L/\zs.map (·.2)=ls/\SameL T0 H H'/\LT T0 H'/\H k=none/\H la=none/\H sa=none/\H bl=none/\∀ c o,H c=some o->ClrK c H' k tl sa la bl zs
theorem zfj {T0 C CK:Addr} {r:Addr} {b bd:Nat} {bl:Addr} {zs:ZB} {H:Hp} (R:RuleAt H r b bl zs) (g:GoodRule b (zs.map (·.2))) (hT:LT T0 H) {R':Addr->Hp->Prop} (k:∀ x H',zf2 T0 C CK b bd (zs.map (·.2)) H x H'->R' x H') :
  ∀ x dx,H x=none->H dx=none->dx≠x->Yu T0 C CK (.ref x :: ([.ref r,.int bd]++[])) (upd (upd H dx (.own x)) x (.ins CK dx [])) (λv H2=>v=.non/\R' x H2) E0:=by
 intro x dx nx ndx nex
 have s0:=Je (C:=CK) nx ndx
 refine⟨x,dx,r,b,bl,zs,bd,rfl,zj,R.same s0,g,hT.same s0,λtl sa la bl2 zs2 ws L H' KA e fr hT' hla hsa hbl cl=>⟨rfl,k x H' ⟨tl,sa,la,bl2,zs2,ws,L,KA,e,λc o hc e=>fr c o (zz e nx) hc (s0 c o e),hT',nx,s0.free hla,s0.free hsa,s0.free hbl,λc o e=>cl c o (s0 _ _ e) (zz e nx)⟩⟩⟩
theorem zao {P:Program} {w:World} {K:W.Frag} {mg:Str->Option Value} {base:Heap} {T0 C CK qS qB:Addr} {f:Addr} {fd:FuncData} (G:FnOk P w K mg base (CX1 P w) 9 f fd Ak (Zg T0 C CK qS qB)):FnOk P w K mg base CX0 9 f fd Ak (Yu T0 C CK) :=
 G.calm.imp λvs H Q E ⟨k,dx,r,b,bl,zs,bd,e,hk,R,g,hT,kk⟩=>by
  have t:=R.th
  have f:uv (.tuple [.int b,.list ((zs.map (·.2)).map λl=>.list (l.map .int))])<=100000:=by
   obtain⟨d,td,_,ft⟩:=R.thing g
   rw [t.uniq td]
   exact Nat.le_trans (Wn d) (Nat.le_trans ft.wt (by decide))
  refine⟨k,dx,.ref r,.int bd,_,.int bd,e,hk,t,by rw [ThAt],f,hT,λz=>absurd z (by rw [Zx g];intro z;cases z),λ_ z=>(Js z).elim,λr' b' bl' zs' bd' er R' g' ee=>?_⟩
  obtain rfl:r=r':=by injection er
  obtain rfl:bd=bd':=by injection ee with ee;omega
  have e:=t.uniq R'.th
  injection e with e
  injection e with e1 e
  injection e with e2 _
  injection e1 with e1
  injection e2 with e2
  obtain rfl:b=b':=by omega
  have e3:=congrArg (List.map yE) e2
  rw [QM,QM] at e3
  intro tl sa la bl2 zs2 ws L H' A1 A2
  exact kk tl sa la bl2 zs2 ws L H' A1 (A2.trans e3.symm)
theorem Qn {b:Nat} {l:List Int} (g:YX b l):zT b (.list (l.map .int))=true:=by
 unfold zT
 rw [Bool.and_eq_true]
 refine⟨?_,decide_eq_true ?_⟩
 ·show (l.map PyData.int).all (Va b)=true
  rw [List.all_eq_true]
  intro x hx
  obtain⟨i,hi,rfl⟩:=List.mem_map.mp hx
  exact decide_eq_true (g.fig i hi)
 ·show 1<=(l.map PyData.int).length/\(l.map PyData.int).length<=4
  rw [List.length_map]
  exact⟨List.length_pos_iff.mpr g.ne,g.len⟩
theorem zbN {T k la:Addr} {X Ha Hb:Hp} (m:Same X Ha) (hk:X k=none) (hl:X la=none) (hT:X T=none) (O:Off T k la Ha Hb):Same X Hb:=λc o e=>O c o (zz e hk) (zz e hl) (zz e hT) (m c o e)
theorem zdp {la:Addr} {X Ha Hb:Hp} (m:Same X Ha) (hl:X la=none) (a:Same (aw [la] Ha) (aw [la] Hb)):Same X Hb:=λc o e=>by
 have hc:c∉[la]:=by simpa using zz e hl
 have:=a c o (by rw [zL hc];exact m c o e)
 rwa [zL hc] at this
theorem zeS {s:Addr} {X Ha Hb:Hp} (m:Same X Ha) (hs:X s=none) (a:∀ c o,c≠s->Ha c=some o->Hb c=some o):Same X Hb:=λc o e=>a c o (zz e hs) (m c o e)
theorem zdL {X H:Hp} {M:List Addr} (m:Same X H) (h:∀ c∈M,X c=none):Same X (aw M H):=λc o e=>by
 rw [zL (λz=>by rw [h c z] at e;cases e)]
 exact m c o e
structure Two (H2:Hp) (T s r f tp:Addr) (b:Nat) (bl fbl:Addr) (zs fzs:ZB) (Y:Hp):Prop where
 ru:RuleAt Y r b bl zs
 fo:RuleAt Y f b fbl fzs
 tt:Y tp=some (.tup [.ref r,.ref f])
 up:∀ c o,c≠T->H2 c=some o->Y c=some o
theorem Two.same {H2:Hp} {T s r f tp:Addr} {b:Nat} {bl fbl:Addr} {zs fzs:ZB} {Y Y':Hp} (A:Two H2 T s r f tp b bl fbl zs fzs Y) (m:Same Y Y'):Two H2 T s r f tp b bl fbl zs fzs Y':=⟨A.ru.same m,A.fo.same m,m _ _ A.tt,λc o h e=>m c o (A.up c o h e)⟩
section
variable {P:Program} {w:World} {K:W.Frag} {mg:Str->Option Value} {base:Heap}
def j8:Sp:=λvs H Q _=>∃ s:Addr,vs=[.ref s]/\Sto H s/\∀ (r:Addr) (b:Nat) (bl:Addr) (zs:ZB) (H':Hp),Stq s H H'->RuleAt (aw [s] H') r b bl zs->GoodRule b (zs.map (·.2))->Q (.ref r) H'
theorem X4:zF ["store","base"] ["store"] (zu jc):={}
theorem X7 {f f1 f2 f3 f4:Addr} {fd fd1 fd2 fd3 fd4:FuncData} (D:Df K mg "_law_rule" jc Ag f fd) (zA:Df K mg "_law_take" yD Ad f1 fd1) (zP:Df K mg "_law_stretch" yp Aj f2 fd2) (wL:Df K mg "_law_base" uY Ag f3 fd3) (vP:Df K mg "_law_bad" uI Ah f4 fd4) (T:Blt mg):FnOk P w K mg base CX0 4 f fd Ag j8:=by
 have Uh:FnOk P w K mg base CX0 2 f3 fd3 Ag Zy:=Xx wL zA T
 have QH:FnOk P w K mg base CX0 3 f4 fd4 Ah Yb:=W3 vP zA zP T
 refine D.fn.ok X4 (λvs H Q E h=>?_) (λcdv A outer s H vs Q E hr h=>?_)
 ·obtain⟨s,rfl,_⟩:=h;rfl
 ·obtain⟨sa,rfl,S,kk⟩:=h
  refine⟨_,(zq (zG (i:=1) X4.nd rfl (Or.inl rfl) (zU wL Uh (hr.mono (by decide)) (zf (pv 0) zg)))
   (zy (zM (yX (zf (pv 1) (zf (zU vP QH (hr.mono (by decide)) (zf (pv 0) (zf (pv 1) zg))) zg)))))),?_⟩
  refine⟨_,rfl,sa,rfl,S,λb H1 b2 b16 S1=>?_⟩
  refine⟨_,rfl,_,rfl,_,rfl,sa,b,rfl,S1.st,b2,b16,λbl zs H2 S2 B=>⟨(by show 2<=sizeLine;decide),λr hr=>?_⟩⟩
  have m3:=zm hr (o:=.tup [.int b,.ref bl])
  have o:∀ p,H1 p=none->p∉[sa]:=λp hp z=>S1.st.ne hp (by simpa using z)
  have nr:r∉[sa]:=λz=>S2.st.ne hr (by simpa using z)
  exact kk r b bl zs _ ((S1.trans S2).same m3) ⟨by rw [zL nr];exact zj,by rw [zL (o _ B.nl)];exact m3 _ _ B.li,λz hz=>by rw [zL (o _ (B.ns z hz))];exact m3 _ _ (B.st z hz)⟩ ⟨b2,b16,by rw [List.length_map];exact B.len,λl hl=>by
   obtain⟨z,hz,rfl⟩:=List.mem_map.mp hl
   exact B.good z hz,B.up⟩
end
theorem zde {H:Hp} {q:Addr} {v u:V} {d e:PyData} (hq:H q=none) (hd:ThAt H d v) (fd:Fit 6 50000 d) (he:ThAt H e u) (fe:Fit 9 10000 e):ThAt (upd H q (.lst [v,u])) (.list [d,e]) (.ref q)/\Fit 20 100000 (.list [d,e]):=by
 have m:=zm hq (o:=.lst [v,u])
 refine⟨ThAt.lst zj (by rw [ThsAt];exact⟨_,_,rfl,hd.same m,by rw [ThsAt];exact⟨_,_,rfl,he.same m,by rw [ThsAt]⟩⟩),⟨?_,?_,?_,?_⟩⟩
 ·rw [PyData.leavesShort,PyData.leavesShortAll,PyData.leavesShortAll,PyData.leavesShortAll,fd.ls,fe.ls];rfl
 ·rw [PyData.showable,PyData.showableAll,PyData.showableAll,PyData.showableAll,fd.sh,fe.sh];rfl
 ·rw [PyData.depth,PyData.depthAll,PyData.depthAll,PyData.depthAll];have:=fd.dp;have:=fe.dp;omega
 ·rw [PyData.weight,PyData.weightAll,PyData.weightAll,PyData.weightAll];have:=fd.wt;have:=fe.wt;omega
theorem LT.dk {T:Addr} {H:Hp} (h:LT T H) {b:Addr} {kvs:List (Key×V)} (e:H b=some (.dK kvs)):b≠T:=λz=>by
 rw [z] at e
 rcases h with h | ⟨c,h,_⟩
 ·rw [h] at e;cases e
 ·rw [h] at e;cases e
mutual
theorem tD {T:Addr} {H H':Hp} (lt:LT T H) (m:SameL T H H'):∀ {d:PyData} {v:V},ThAt H d v->ThAt H' d v
 | .none,v,h=>by rw [ThAt] at h ⊢;exact h
 | .bool b,v,h=>by rw [ThAt] at h ⊢;exact h
 | .int i,v,h=>by rw [ThAt] at h ⊢;exact h
 | .str x,v,h=>by rw [ThAt] at h ⊢;exact h
 | .list xs,v,h=>by
  rw [ThAt] at h ⊢
  obtain⟨a,ys,h1,h2,h3⟩:=h
  exact⟨a,ys,h1,m _ _ (lt.lst h2) h2,WM lt m h3⟩
 | .tuple xs,v,h=>by
  rw [ThAt] at h ⊢
  obtain⟨a,ys,h1,h2,h3⟩:=h
  exact⟨a,ys,h1,m _ _ (lt.tup h2) h2,WM lt m h3⟩
 | .dict kvs,v,h=>by
  rw [ThAt] at h ⊢
  obtain⟨h0,a,h1,h2⟩:=h
  exact⟨h0,a,h1,m _ _ (lt.dk h2) h2⟩
theorem WM {T:Addr} {H H':Hp} (lt:LT T H) (m:SameL T H H'):∀ {ds:List PyData} {ys:List V},ThsAt H ds ys->ThsAt H' ds ys
 | [],ys,h=>by rw [ThsAt] at h ⊢;exact h
 | d :: ds,ys,h=>by
  rw [ThsAt] at h ⊢
  obtain⟨y,zs,h1,h2,h3⟩:=h
  exact⟨y,zs,h1,tD lt m h2,WM lt m h3⟩
end
theorem LT.mask {T s:Addr} {H:Hp} (h:LT T H) (S:Sto H s):LT T (aw [s] H):=by
 obtain⟨x,y,z,e⟩:=S
 have n1:T≠s:=λq=>(h.lst e) q.symm
 rcases h with h | ⟨c,h1,h2⟩
 ·exact .inl (by rw [zL (by simpa using n1)];exact h)
 ·exact .inr ⟨c,by rw [zL (by simpa using n1)];exact h1,by rw [zL (by simpa using (λq:c=s=>by rw [q,e] at h2;cases h2))];exact h2⟩
theorem Sto.same {s:Addr} {H H':Hp} (S:Sto H s) (m:Same H H'):Sto H' s:=by obtain⟨x,y,z,e⟩:=S;exact⟨x,y,z,m _ _ e⟩
theorem Sto.sameL {T s:Addr} {H H':Hp} (S:Sto H s) (h:LT T H) (m:SameL T H H'):Sto H' s:=by obtain⟨x,y,z,e⟩:=S;exact⟨x,y,z,m _ _ (h.lst e) e⟩
theorem zgs {b:Nat} (b2:2<=b) (b16:b<=16):GoodRule b [[0],[0,0],[0,1],[1]]:=by
 refine⟨b2,b16,by decide,λl hl=>?_,by simp [HT.lexLt]⟩
 have e:l=[0]\/l=[0,0]\/l=[0,1]\/l=[1]:=by simpa using hl
 rcases e with rfl | rfl | rfl | rfl
 all_goals
  refine⟨by simp,by decide,λf hf=>?_⟩
  simp at hf
  omega
section
variable {P:Program} {w:World} {K:W.Frag} {mg:Str->Option Value} {base:Heap} {T0 C CK:Addr}
theorem zem {G:Hp} {z1 z2 z3 z4 fl f:Addr} {b:Nat} (h1:G z1=some (.lst [.int 0])) (h2:G z2=some (.lst [.int 0,.int 0])) (h3:G z3=some (.lst [.int 0,.int 1])) (h4:G z4=some (.lst [.int 1])) (h5:G fl=some (.lst [.ref z1,.ref z2,.ref z3,.ref z4])) (h6:G f=some (.tup [.int b,.ref fl])):RuleAt G f b fl [(z1,[0]),(z2,[0,0]),(z3,[0,1]),(z4,[1])]:=⟨h6,h5,λz hz=>by
 have e:z=(z1,[0])\/z=(z2,[0,0])\/z=(z3,[0,1])\/z=(z4,[1]):=by simpa using hz
 rcases e with rfl | rfl | rfl | rfl
 ·exact h1
 ·exact h2
 ·exact h3
 ·exact h4⟩
theorem ze0 {H:Hp} {p:Addr} {a b c d:Str} (h:H p=some (.lst [.str a,.str b,.str c,.str d])):TrAt K H (.lst [.str a,.str b,.str c,.str d]) (.ref p):=by
 rw [TrAt]
 refine⟨p,_,rfl,SqL.of h,?_⟩
 rw [TrsAt];refine⟨_,_,rfl,by rw [TrAt],?_⟩
 rw [TrsAt];refine⟨_,_,rfl,by rw [TrAt],?_⟩
 rw [TrsAt];refine⟨_,_,rfl,by rw [TrAt],?_⟩
 rw [TrsAt];exact⟨_,_,rfl,by rw [TrAt],by rw [TrsAt]⟩
theorem zbI {s T c:Addr} {H:Hp} {o:HO} (h:aw [s] H c=some o) (n:c≠T):aw [s,T] H c=some o:=by
 obtain⟨n1,e⟩:=Xg h
 rw [zL (by simp [n1,n])];exact e
theorem RuleAt.vw {s T r bl:Addr} {b:Nat} {zs:ZB} {H:Hp} (R:RuleAt (aw [s] H) r b bl zs) (lt:LT T H):RuleAt (aw [s,T] H) r b bl zs :=
 ⟨zbI R.tu (lt.tup (Xg R.tu).2),zbI R.li (lt.lst (Xg R.li).2),λz hz=>zbI (R.st z hz) (lt.lst (Xg (R.st z hz)).2)⟩
theorem zgS {s T:Addr} {H H':Hp} (m:SameL T H H'):Same (aw [s,T] H) (aw [s,T] H'):=λc o e=>by
 obtain⟨n,e⟩:=zaJ e
 rw [zL n]
 exact m c o (λz=>n (by simp [z])) e
theorem Xh {s T p:Addr} {H:Hp} (S:Sto H s) (lt:LT T H) (h:H p=none):p∉[s,T]:=λz=>by
 rcases List.mem_cons.mp z with z | z
 ·exact S.ne h z
 ·exact lt.none h (List.mem_singleton.mp z)
theorem zex {T:Addr} {H:Hp} (lt:LT T H):H T≠none:=λz=>lt.none z rfl
theorem Sto.off {s la:Addr} {H H':Hp} (S:Sto H s) (n:s≠la) (m:Same (aw [la] H) (aw [la] H')):Sto H' s:=by
 obtain⟨x,y,z,e⟩:=S
 exact⟨x,y,z,UW m n e⟩
theorem zes {s:Addr} {H H':Hp} (m:Same (aw [s] H) (aw [s] H')):∀ c o,c≠s->H c=some o->H' c=some o:=λc o n e=>UW m n e
theorem zd5 (ls:ZA):teq (.lst (ls.map yI)) (.lst [])=decide (ls=[]):=by
 cases ls with
 | nil=>rfl
 | cons l ls=>simp [teq,qj]
def Jl (K:W.Frag) (T:Addr):Sp:=λvs H Q _=>∃ (a:Addr) (ns:List Int),vs=[.ref a]/\SqL K H a (ns.map V.int)/\ns.length<=63/\LT T H/\∀ H',Q (.bl true) H'
theorem vJ:zF ["script","at","store","rule","base","bad","odd","wrong","kept","told","four","own","keeper","early","one"] ["script"] (zu VM):={}
set_option maxHeartbeats 0 in
theorem zfH {f f1 f2 f3 f4 f5 f6 f7 f8 f9 f10 f11 f12 f13 f14:Addr} {fd fd1 fd2 fd3 fd4 fd5 fd6 fd7 fd8 fd9 fd10 fd11 fd12 fd13 fd14:FuncData} (D:Df K mg "law" VM ["script"] f fd) (qF:Df K mg "_law_cell" qX Ar f1 fd1) (uX:Df K mg "_law_store" qd ["cell"] f2 fd2) (zA:Df K mg "_law_take" yD Ad f3 fd3) (zP:Df K mg "_law_stretch" yp Aj f4 fd4) (vP:Df K mg "_law_bad" uI Ah f5 fd5) (wL:Df K mg "_law_base" uY Ag f6 fd6)
  (qT:Df K mg "_law_rule" jc Ag f7 fd7) (qR:Df K mg "_law_copy" uR Ae f8 fd8) (vz:Df K mg "_law_no_rule" wQ Ay f9 fd9) (vH:Df K mg "_law_made" uQ A8 f10 fd10) (uD:FnOk P w K mg base CX0 11 f10 fd10 A8 (Za T0)) (wy:Df K mg "_law_word" vQ Ap f11 fd11) (wV:FnOk P w K mg base CX0 11 f11 fd11 Ap (tW T0 C CK)) (vM:Df K mg "_law_stand" qm Av f12 fd12) (tH:FnOk P w K mg base CX0 6 f12 fd12 Av (jA T0 C CK))
  (wG:Df K mg "_law_all_refused" yP A9 f13 fd13) (vY:FnOk P w K mg base CX0 12 f13 fd13 A9 (vf T0 C CK)) (KKeeper:Mk K CK f14) (BKeeper:Binds K fd14 ["self","rule","b"] []) (GKeeper_init:FnOk P w K mg base CX0 9 f14 fd14 Ak (Yu T0 C CK)) (cKeeper:ClK K mg CK) (T:Blt mg):FnOk P w K mg base CX0 13 f fd ["script"] (Jl K T0):=by
 have VN:FnOk P w K mg base CX0 1 f1 fd1 Ar (j7 K):=XJ qF T
 have WX:FnOk P w K mg base CX0 1 f2 fd2 ["cell"] jB:=YJ uX T
 have zO:FnOk P w K mg base CX0 1 f3 fd3 Ad yz:=xn zA T
 have Vy:FnOk P w K mg base CX0 4 f7 fd7 Ag j8:=X7 qT zA zP wL vP T
 have V2:FnOk P w K mg base CX0 1 f8 fd8 Ae jZ:=Xw qR T
 have YQ:FnOk P w K mg base CX0 2 f9 fd9 Ay tL:=ZP vz zA T
 refine D.fn.ok vJ (λvs H Q E h=>?_) (λcdv A outer s H vs Q E hr h=>?_)
 ·obtain⟨a,ns,rfl,_⟩:=h;rfl
 ·obtain⟨a,ns,rfl,hS,hlen,hT,kk⟩:=h
  have HU:=Wk hr
  refine⟨_,(zq (jY PassesOwn.never rfl (wC rfl T.n_range (zf (zB (Wq rfl) (by rfl) T.n_min boot_min (zf (zB (zb7 rfl) (by rfl) T.n_max boot_max (zf (zB (xT K) (by rfl) T.n_len PySem.boot_len (zf (pv 0) zg)) (zf zr zg))) (zf zr zg))) zg)) (yG (i:=1) vJ.nd rfl (Or.inl rfl))
    (zq (zG (i:=2) vJ.nd rfl (Or.inl rfl) (zU uX WX (hr.mono (by decide)) (zf (zU qF VN (hr.mono (by decide)) (zf (pv 0) (zf (pv 1) zg))) zg)))
    (zq (zG (i:=3) vJ.nd rfl (Or.inl rfl) (zU qT Vy (hr.mono (by decide)) (zf (pv 2) zg)))
    (zq (Vx (pv 3) (Ut rfl (wM (yG (i:=4) vJ.nd rfl (Or.inl rfl)) (wM (yG (i:=5) vJ.nd rfl (Or.inl rfl)) X5))))
    (zq (zG (i:=6) vJ.nd rfl (Or.inl rfl) (Ja (yF K) (zW (zp (pei (W2 ZW zr)) (zp (pei wZ) (zp (pei wZ) (zp (pei wD) (yC (zp (zW (zp zY zR)) (zp (Yq (zp zY zR)) (zp (pei uT) (zp (pei (zJ Zz zr (zJ ZZ zr zr))) (yC zR))))))))))) (zU zA zO (hr.mono (by decide)) (zf (pv 2) (zf zr zg))) (λ_ _=>rfl)))
    (zq (zG (i:=7) vJ.nd rfl (Or.inl rfl) (zU vz YQ (hr.mono (by decide)) (zf (pv 2) (zf (pv 3) zg))))
    (zq (zG (i:=8) vJ.nd rfl (Or.inl rfl) (zB (j9 hr.gd HU) (by rfl) T.n_repr PyProof.Rows.boot_repr (zf (zQ (zf (pv 7) (zf (pv 6) zg))) zg)))
    (zq (zG (i:=9) vJ.nd rfl (Or.inl rfl) (zQ (zf (zU vH uD (hr.mono (by decide)) (zf (pv 7) (zf zr zg))) (zf (zU vH uD (hr.mono (by decide)) (zf (pv 7) (zf (pv 6) zg))) (zf (zU vH uD (hr.mono (by decide)) (zf (pv 3) (zf (pv 6) zg))) (zf (zU vH uD (hr.mono (by decide)) (zf (pv 3) (zf zr zg))) zg))))))
    (zq (xF (PW.pt (Xo (zZ (zaH K HU) (pv 9) (zQ (yW (yW (yW (yW zg))))) (ye _)) (jW (zZ V5 (zB (j9 hr.gd HU) (by rfl) T.n_repr PyProof.Rows.boot_repr (zf (zQ (zf (pv 7) (zf (pv 6) zg))) zg)) (pv 8) (ye _)))))
     (zy (zM wZ))
     yh)
    (zq (zG (i:=10) vJ.nd rfl (Or.inl rfl) (yX (zf (pv 4) (zdI (zW (zp (zW (zp zY zR)) (zp (zW (zp zY (zp zY zR))) (zp (zW (zp zY (zp zY zR))) (zp (zW (zp zY zR)) zR))))) zg))))
    (zy (jY PassesOwn.never rfl (zfc (yX (zf (pv 3) (zf (pv 10) zg)))) (yG (i:=11) vJ.nd rfl (Or.inl rfl))
     (zq (zG (i:=12) vJ.nd rfl (Or.inl rfl) (JV KKeeper GKeeper_init (hr.mono (by decide)) rfl cKeeper.nm BKeeper .nil Qv (zf (zU qR V2 (hr.mono (by decide)) (zf (pv 11) zg)) (zf zr zg))))
     (zq (zG (i:=13) vJ.nd rfl (Or.inl rfl) (zU vM tH (hr.mono (by decide)) (zf (pv 12) zg)))
     (zq (xF (PW.pt (Xo (ZD (vL (zU wG vY (hr.mono (by decide)) (zf (pv 2) (zf (pv 12) (zf (pv 11) zg)))))) (jW (zZ (zaH K HU) (zU vM tH (hr.mono (by decide)) (zf (pv 12) zg)) (pv 13) (ye _)))))
      (zy (zM wZ))
      yh)
     (zy (xF (zZ (zaH K HU) (yd (u9 K) (pv 11) zr (λ_ _=>rfl)) (zQ zg) (ye _))
      (zq (zG (i:=14) vJ.nd rfl (Or.inl rfl) (yd (yF K) (yd (u9 K) (pv 11) zr (λ_ _=>rfl)) (zU zA zO (hr.mono (by decide)) (zf (pv 2) (zf (zB (xT K) (by rfl) T.n_len PySem.boot_len (zf (yd (u9 K) (pv 11) zr (λ_ _=>rfl)) zg)) zg))) (λ_ _=>rfl)))
      (zq (xF (PW.pt (Xo (zZ V5 (zU wy wV (hr.mono (by decide)) (zf (pv 12) (zf zr (zf (xf (uZ K) (by rfl) T.n_list boot_list (zf (pv 14) zg)) zg)))) tK (ye _)) (jW (zZ V5 (zU wy wV (hr.mono (by decide)) (zf (pv 12) (zf zr (zf (xf (uZ K) (by rfl) T.n_list boot_list (zf (pv 14) zg)) zg)))) tK (ye _)))))
       (zy (zM wZ))
       yh)
      (zy (xF (PW.pt (Xo (zZ V5 (zU wy wV (hr.mono (by decide)) (zf (pv 12) (zf zr (zf (xf (uZ K) (by rfl) T.n_list boot_list (zf (pv 14) zg)) zg)))) tK (ye _)) (jW (zZ (zaH K HU) (zU vM tH (hr.mono (by decide)) (zf (pv 12) zg)) (pv 13) (ye _)))))
       (zy (zM wZ))
       yh))))
      yh)))))))))))))))))
   (zy (zM wZ))),?_⟩
  refine⟨_,rfl,a,_,rfl,.inl hS,_,_,rfl,_,_,rfl,?_⟩
  generalize hM:(if (8:Int)<(if (3:Int)>((ns.map V.int).length:Int) then 3 else ((ns.map V.int).length:Int)) then (8:Int) else (if (3:Int)>((ns.map V.int).length:Int) then 3 else ((ns.map V.int).length:Int)))=M
  have hM1:0<=M/\M<=8:=by
   rw [<- hM];split<;>split<;>omega
  refine⟨M,rfl,by omega,by omega,qt (lo:=0) (n:=M.toNat) (λi Z H2=>∃ v1 v2 v3 v4 v5 v6 v7 v8 v9 v10 v11 v12 v13 v14:Option V,Z=[some (.ref a),v1,v2,v3,v4,v5,v6,v7,v8,v9,v10,v11,v12,v13,v14]/\SameL T0 H H2/\LT T0 H2) ⟨_,_,_,_,_,_,_,_,_,_,_,_,_,_,rfl,SameL.of (Same.refl _),hT⟩ ?_ ?_⟩
  ·rintro i Z H2 hi ⟨v1,v2,v3,v4,v5,v6,v7,v8,v9,v10,v11,v12,v13,v14,rfl,m2,T2⟩
   refine⟨_,rfl,_,rfl,a,ns,i,by rw [Int.zero_add];rfl,hT.sq m2 hS,hlen,by omega,λc=>⟨c,rfl,λs H3 hs St3 m3=>?_⟩⟩
   refine⟨_,rfl,s,rfl,St3,λr b bl zs H4 q4 R4 g=>?_⟩
   have b2:=g.b2
   have b16:=g.b16
   have T4:=(T2.same m3).stq St3 q4.sm
   refine⟨_,rfl,r,_,rfl,SqT.of (zH _ _ _ _ R4.tu),rfl,_,_,rfl,_,_,rfl,rfl,?_⟩
   refine Tp.asg2 (w:=sV s) (Γ:=[none,none,some (Uo (.ref s)),none,none,none,none,none,none,none,none,none,none,none,none]) (T1:=tyQ 9 10000 Xu) (Tp.ix (Tp.lstT (TpB.cons (Tp.qI (Tp.neg Tp.int) (λx h1 h2=>XD (by omega))) (TpB.cons (Tp.sQ Tp.blS (xN (by decide))) (TpB.cons (Tp.sQ Tp.blS (xN (by decide))) (TpB.cons (Tp.sQ Tp.nonS (xN (by decide))) (TpB.cons (Tp.sQ (Tp.strS (by decide +kernel) (by decide +kernel)) (xN (by decide))) (TpB.cons (Tp.sQ (Tp.lS (Tp.lst (TpA.cons (Tp.ofI Tp.int) TpA.nil))) (xN (by decide))) (TpB.cons (Tp.tupQ (TpA.cons (Tp.ofI Tp.int) TpA.nil) (λ_ _=>rfl)) (TpB.cons (Tp.sQ Tp.empS (xN (by decide))) (TpB.cons (Tp.qI (Tp.subI Tp.int (Tp.pow ⟨by decide,by decide,by decide⟩)) (λx h1 h2=>XD (Int.lt_of_le_of_lt h2 (by decide)))) (TpB.cons (Tp.sQ (Tp.strS (by decide +kernel) (by decide +kernel)) (xN (by decide))) TpB.nil))))))))))) (wY rfl Tp.int) (by decide)) q4.st (Fits.skip (Fits.skip (Fits.cons rfl (Fits.any _)))) λvo H5 S5 m5 to=>?_
   refine⟨_,rfl,_,rfl,s,r,b,bl,zs,rfl,S5,R4.same m5,g,λvw H6 S6 m6 tw=>?_⟩
   have m46:Same (aw [s] H4) (aw [s] H6):=m5.trans m6
   have T6:=((T4.mask q4.st).same m46).same (zH _ _)
   have R6:=R4.same m46
   have up6:∀ c o,H2 c=some o->aw [s] H6 c=some o:=λc o e=>m46 c o (by
    have n:=zz e hs
    rw [zL (by simpa using n)]
    exact q4.sm c o n (m3 _ _ e))
   obtain⟨dw,hdw,fw,pw⟩:=tw
   obtain⟨eo,heo,fo,po⟩:=(tyQ 9 10000 Xu).mo m6 to
   have hdw:ThAt (aw [s] H6) dw vw:=hdw
   have heo:ThAt (aw [s] H6) eo vo:=heo
   have rw0:qO dw=false:=Z2 pw
   have no0:ju eo=false:=Z2 po
   have fw:=fw.le (k':=6) (n':=50000) (by decide) (by decide)
   refine⟨_,rfl,_,rfl,(by show 2<=sizeLine;decide),λq hq=>?_⟩
   obtain⟨hD,fD⟩:=zde hq (hdw.same (zH _ _)) fw (heo.same (zH _ _)) fo
   refine⟨_,_,rfl,hD,fD.sh,fD.shown (Nat.le_refl _),Nat.le_trans fD.dp (by decide),?_⟩
   have m7:=zm hq (o:=.lst [vw,vo])
   have T7:=T6.same m7
   have S7:=S6.same m7
   have hdw7:=hdw.same (m7.aw [s])
   have heo7:=heo.same (m7.aw [s])
   have R7:=R6.same (m7.aw [s])
   have up7:∀ c o,H2 c=some o->aw [s] (upd H6 q (.lst [vw,vo])) c=some o:=λc o e=>(m7.aw [s]) c o (up6 c o e)
   generalize upd H6 q (.lst [vw,vo])=H7 at m7 T7 S7 hdw7 heo7 R7 up7 ⊢
   have dws:uv dw<=100000:=Nat.le_trans (Wn dw) (Nat.le_trans fw.wt (by decide))
   have rs:uv (.tuple [.int b,.list ((zs.map (·.2)).map λl=>.list (l.map .int))])<=100000:=by
    obtain⟨d,td,_,ft⟩:=R7.thing g
    rw [R7.th.uniq td]
    exact Nat.le_trans (Wn d) (Nat.le_trans ft.wt (by decide))
   refine⟨_,rfl,vw,.int 5,dw,.int 5,rfl,hdw7.same (zH _ _),by rw [ThAt],dws,T7,λH8 m8 T8=>?_⟩
   have hdw8:=tD T7 m8 (hdw7.same (zH _ _))
   have heo8:=tD T7 m8 (heo7.same (zH _ _))
   refine⟨_,rfl,_,rfl,vw,vo,dw,eo,rfl,hdw8,heo8,dws,T8,λH9 m9 T9=>?_⟩
   have m79:=m8.trans m9
   refine⟨_,rfl,_,rfl,.ref r,vo,_,eo,rfl,tD T7 m79 (R7.same (zH _ _)).th,tD T8 m9 heo8,rs,T9,λH10 m10 T10=>?_⟩
   have m710:=m79.trans m10
   refine⟨_,rfl,.ref r,.int 0,_,.int 0,rfl,tD T7 m710 (R7.same (zH _ _)).th,by rw [ThAt],rs,T10,λH11 m11 T11=>⟨(by show 4<=sizeLine;decide),λtd htd=>?_⟩⟩
   have e1:Xr dw (.int 5)=("rule" : Str):=by unfold Xr;rw [if_pos rw0]
   have e2:Xr dw eo=("rule" : Str):=by unfold Xr;rw [if_pos rw0]
   have gR:=Zx g
   have e3:Xr (.tuple [.int b,.list ((zs.map (·.2)).map λl=>.list (l.map .int))]) eo=("number" : Str):=by unfold Xr;rw [if_neg (by rw [gR];intro z;cases z),if_pos no0]
   have e4:Xr (.tuple [.int b,.list ((zs.map (·.2)).map λl=>.list (l.map .int))]) (.int 0)=("" : Str):=by unfold Xr;rw [if_neg (by rw [gR];intro z;cases z),if_neg (by decide)]
   rw [e1,e2,e3,e4]
   have m12:=zm htd (o:=.lst [.str "rule",.str "rule",.str "number",.str ""])
   have htd12:upd H11 td (.lst [.str "rule",.str "rule",.str "number",.str ""]) td=some (.lst [.str "rule",.str "rule",.str "number",.str ""]):=zj
   have m712:SameL T0 H7 (upd H11 td (.lst [.str "rule",.str "rule",.str "number",.str ""])):=(m710.trans m11).trans (SameL.of m12)
   have T12:=T11.same m12
   generalize upd H11 td (.lst [.str "rule",.str "rule",.str "number",.str ""])=H12 at m12 htd12 m712 T12 ⊢
   refine⟨_,rfl,(by show 4<=sizeLine;decide),λl2 hl2=>⟨_,_,ze0 (zm hl2 _ _ htd12),ze0 zj,(by simp [uw,xq]),_,rfl,YT (by rw [Z0];rfl) ?_⟩⟩
   have m13:=zm hl2 (o:=.lst [.str "rule",.str "rule",.str "number",.str ""])
   have m713:SameL T0 H7 (upd H12 l2 (.lst [.str "rule",.str "rule",.str "number",.str ""])):=m712.trans (SameL.of m13)
   have T13:=T12.same m13
   generalize upd H12 l2 (.lst [.str "rule",.str "rule",.str "number",.str ""])=H13 at m13 m713 T13 ⊢
   have hdw13:=tD T7 m713 (hdw7.same (zH _ _))
   have heo13:=tD T7 m713 (heo7.same (zH _ _))
   refine⟨_,rfl,_,rfl,(by show 2<=sizeLine;decide),λq3 hq3=>⟨_,_,rfl,(zde hq3 hdw13 fw heo13 fo).1,fD.sh,fD.shown (Nat.le_refl _),Nat.le_trans fD.dp (by decide),_,rfl,rfl,_,rfl,YT (by rw [decide_eq_true rfl];rfl) ?_⟩⟩
   have m14:=zm hq3 (o:=.lst [vw,vo])
   have m714:SameL T0 H7 (upd H13 q3 (.lst [vw,vo])):=m713.trans (SameL.of m14)
   have T14:=T13.same m14
   have S14:=S7.sameL T7 m714
   generalize upd H13 q3 (.lst [vw,vo])=H14 at m14 m714 T14 S14 ⊢
   refine⟨_,rfl,(by show 1<=sizeLine;decide),λz1 hz1=>⟨(by show 2<=sizeLine;decide),λz2 hz2=>⟨(by show 2<=sizeLine;decide),λz3 hz3=>⟨(by show 1<=sizeLine;decide),λz4 hz4=>⟨(by show 4<=sizeLine;decide),λfl hfl=>⟨(by show 2<=sizeLine;decide),λf hf=>?_⟩⟩⟩⟩⟩⟩
   have k1:=zm hz1 (o:=.lst [.int 0])
   have k2:=zm hz2 (o:=.lst [.int 0,.int 0])
   have k3:=zm hz3 (o:=.lst [.int 0,.int 1])
   have k4:=zm hz4 (o:=.lst [.int 1])
   have k5:=zm hfl (o:=.lst [.ref z1,.ref z2,.ref z3,.ref z4])
   have k6:=zm hf (o:=.tup [.int b,.ref fl])
   have k12:=k1.trans k2
   have k13:=k12.trans k3
   have k14:=k13.trans k4
   have k15:=k14.trans k5
   have k16:=k15.trans k6
   have F15:=zem (b:=b) ((k2.trans (k3.trans (k4.trans (k5.trans k6)))) _ _ zj) ((k3.trans (k4.trans (k5.trans k6))) _ _ zj) ((k4.trans (k5.trans k6)) _ _ zj) ((k5.trans k6) _ _ zj) (k6 _ _ zj) zj
   have w1:=Xh S14 T14 hz1
   have w2:=Xh S14 T14 (k1.free hz2)
   have w3:=Xh S14 T14 (k12.free hz3)
   have w4:=Xh S14 T14 (k13.free hz4)
   have w5:=Xh S14 T14 (k14.free hfl)
   have w6:=Xh S14 T14 (k15.free hf)
   generalize upd (upd (upd (upd (upd (upd H14 z1 (.lst [.int 0])) z2 (.lst [.int 0,.int 0])) z3 (.lst [.int 0,.int 1])) z4 (.lst [.int 1])) fl (.lst [.ref z1,.ref z2,.ref z3,.ref z4])) f (.tup [.int b,.ref fl])=H15 at k16 F15 ⊢
   have T15:=T14.same k16
   have S15:=S14.same k16
   have F15':RuleAt (aw [s,T0] H15) f b fl [(z1,[0]),(z2,[0,0]),(z3,[0,1]),(z4,[1])]:=⟨by rw [zL w6];exact F15.tu,by rw [zL w5];exact F15.li,λz hz=>by
    rw [zL]
    ·exact F15.st z hz
    ·have e:z=(z1,[0])\/z=(z2,[0,0])\/z=(z3,[0,1])\/z=(z4,[1]):=by simpa using hz
     rcases e with rfl | rfl | rfl | rfl
     ·exact w1
     ·exact w2
     ·exact w3
     ·exact w4⟩
   have mY:Same (aw [s,T0] H7) (aw [s,T0] H15):=zgS (m714.trans (SameL.of k16))
   refine⟨_,rfl,_,rfl,(by show 2<=sizeLine;decide),λtp htp=>⟨tp,rfl,⟨_,SqT.of zj⟩,zeD (K:=K) (a:=tp) (xs:=[.ref r,.ref f]) (λj Z G=>∃ v11 v12 v13 v14:Option V,Z=[some (.ref a),some (.int (0+(i:Int))),some (.ref s),some (.ref r),some (.int b),some (.ref bl),some vo,some vw,some (.str (PyData.list [dw,eo]).shown),some (.ref td),some (.ref f),v11,v12,v13,v14]/\Two H2 T0 s r f tp b bl fl zs [(z1,[0]),(z2,[0,0]),(z3,[0,1]),(z4,[1])] (aw [s,T0] G)/\Sto G s/\LT T0 G) ⟨_,_,_,_,rfl,?_,S15.same (zm htp),T15.same (zm htp)⟩ (λj Z G _ ⟨_,_,_,_,_,W,_⟩=>SqT.of (zH _ _ _ _ W.tt)) ?_ ?_⟩⟩
   ·have kt:=zm htp (o:=.tup [.ref r,.ref f])
    refine⟨((R7.vw T7).same mY).same (kt.aw _),F15'.same (kt.aw _),?_,λc o hc e=>(kt.aw _) _ _ (mY _ _ (zbI (up7 c o e) hc))⟩
    rw [zL (Xh S15 T15 htp)];exact zj
   ·rintro j x Z G0 hx ⟨v11,v12,v13,v14,rfl,W0,S0,L0⟩
    obtain⟨ro,blo,zso,rfl,hO,go⟩:∃ (ro blo:Addr) (zso:ZB),x=.ref ro/\(∀ Y,Two H2 T0 s r f tp b bl fl zs [(z1,[0]),(z2,[0,0]),(z3,[0,1]),(z4,[1])] Y->RuleAt Y ro b blo zso)/\GoodRule b (zso.map (·.2)):=by
     match j,hx with
     | 0,hx=>exact⟨r,bl,zs,by injection hx with hx;exact hx.symm,λY W=>W.ru,g⟩
     | 1,hx=>exact⟨f,fl,_,by injection hx with hx;exact hx.symm,λY W=>W.fo,zgs b2 b16⟩
     | n+2,hx=>cases hx
    have hz4:zso.length<=4:=by have:=go.len;rwa [List.length_map] at this
    have RO0:=(hO _ W0).same (zH _ _)
    refine⟨_,rfl,ro,b,blo,zso,rfl,RO0,by omega,λrc blc zsc G1 s1 Rc ec _ _ _=>zfj (bd:=1000) Rc (by rw [ec];exact go) (L0.same s1) ?_⟩
    rintro k G2 ⟨tl,sa,la,bk,zk,ws,L,KA2,ek,mL,L2,nk,nla,nsa,nbl,clr⟩
    rw [ec] at ek
    have S1:=S0.same s1
    have S2:=S1.sameL (L0.same s1) mL
    have clr2:ClrK s G2 k tl sa la bk zk:=by obtain⟨x1,y1,w1,e⟩:=S1;exact clr s _ e
    refine⟨_,rfl,k,tl,sa,la,b,1000,bk,zk,ws,L,rfl,KA2,L2,λpe re ble zse L3n G3 A3 KA3 m3 L3 fr3 ks3=>?_⟩
    have clr3:ClrK s G3 k tl sa la bk zk:=by obtain⟨x1,y1,w1,e⟩:=S2;exact ks3 s _ e clr2
    have S3:=S2.off clr2.nla m3
    have lk:G2 k≠none:=by obtain⟨dx,e⟩:=KA2.ob;rw [e];intro z;cases z
    have lla:G2 la≠none:=by obtain⟨lx,e⟩:=KA2.ta.la;rw [e];intro z;cases z
    have ls0:G2 s≠none:=by obtain⟨x1,y1,w1,e⟩:=S2;rw [e];intro z;cases z
    have out:∀ c,G2 c=none->c∉[s,k,la,T0]:=λc hc=>zeI (λm hm=>by
     have e:m=s\/m=k\/m=la\/m=T0:=by simpa using hm
     rcases e with rfl | rfl | rfl | rfl
     ·exact ls0
     ·exact lk
     ·exact lla
     ·exact zex L2) hc
    have XE:=A3.into (M:=[s,k,la,T0]) (out _ fr3.p) (out _ fr3.r) (out _ fr3.bl) (λz hz=>out _ (fr3.z z hz))
    have XW:Two H2 T0 s r f tp b bl fl zs [(z1,[0]),(z2,[0,0]),(z3,[0,1]),(z4,[1])] (aw [s,k,la,T0] G3):=W0.same λc o e=>by
     obtain⟨n,e0⟩:=zaJ e
     have e1:=s1 _ _ e0
     have n1:c≠T0:=λz=>n (by simp [z])
     have n2:=zz e1 nk
     have n3:=zz e1 nla
     have n4:c≠s:=λz=>n (by simp [z])
     rw [zL (by simp [n1,n2,n3,n4])]
     exact UW m3 n3 (mL c o n1 e1)
    have Xs:aw [s,k,la,T0] G3 s=none:=qY (by simp)
    have Xk:aw [s,k,la,T0] G3 k=none:=qY (by simp)
    have Xla:aw [s,k,la,T0] G3 la=none:=qY (by simp)
    have XT:aw [s,k,la,T0] G3 T0=none:=qY (by simp)
    have mX3:Same (aw [s,k,la,T0] G3) G3:=zH _ _
    generalize aw [s,k,la,T0] G3=X at XE XW Xs Xk Xla XT mX3
    have RO:=hO _ XW
    have fin:∀ G,Same X G->Two H2 T0 s r f tp b bl fl zs [(z1,[0]),(z2,[0,0]),(z3,[0,1]),(z4,[1])] (aw [s,T0] G):=λG m=>XW.same (zdL m λc hc=>by
     rcases List.mem_cons.mp hc with rfl | hc
     ·exact Xs
     ·rw [List.mem_singleton.mp hc];exact XT)
    have KA3s:=(KA3.clr clr3 (H':=aw [s] G3) λc o hc e=>by rw [zL (by simpa using hc)];exact e).1
    refine⟨_,rfl,_,rfl,_,rfl,s,k,tl,sa,la,b,1000,bk,zk,ws,L3n,ro,blo,zso,rfl,S3,KA3s,by decide +kernel,L3.mask S3,RO.same (zdL mX3 λc hc=>by rw [List.mem_singleton.mp hc];exact Xs),ek.symm,λG4 S4 m4=>⟨_,rfl,xJ ?_⟩⟩
    have m4:=zes m4
    obtain⟨KA4,clr4⟩:=KA3.clr clr3 m4
    have L4:=L3.stq S3 m4
    have mX4:=zeS mX3 Xs m4
    refine⟨_,rfl,k,tl,sa,la,b,1000,bk,zk,ws,L3n,rfl,KA4,L4,λp5 r5 bl5 zs5 L5n G5 A5 KA5 m5' L5 fr5 ks5=>?_⟩
    have clr5:ClrK s G5 k tl sa la bk zk:=by obtain⟨x1,y1,w1,e⟩:=S4;exact ks5 s _ e clr4
    have S5':=S4.off clr4.nla m5'
    have mX5:=zdp mX4 Xla m5'
    refine⟨_,rfl,_,_,TrAt.stand A5,TrAt.stand (XE.same mX5),zbJ _ _,_,rfl,YT (by rw [Z0];rfl) ?_⟩
    have RO5:=RO.same mX5
    refine⟨_,rfl,ro,_,_,.ref blo,rfl,rfl,SqT.of RO5.tu,rfl,(by show 0<=sizeLine;decide),λle hle=>⟨.lst ((zso.map (·.2)).map yI),.lst [],?_,?_,?_,_,rfl,?_⟩⟩
    ·rw [TrAt];exact⟨blo,_,rfl,SqL.of (zm hle _ _ RO5.li),TrsAt.lists λz hz=>zm hle _ _ (RO5.st z hz)⟩
    ·rw [TrAt];exact⟨le,_,rfl,SqL.of zj,by rw [TrsAt]⟩
    ·have:=xU (zso.map (·.2));simp only [uw];omega
    have k6:=zm hle (o:=.lst [])
    have KA6:=KA5.same k6
    have clr6:ClrK s (upd G5 le (.lst [])) k tl sa la bk zk:=by obtain⟨x1,y1,w1,e⟩:=S5';exact KA5.kps k6 s _ e clr5
    have S6':=S5'.same k6
    have L6:=L5.same k6
    have mX6:=mX5.trans k6
    generalize upd G5 le (.lst [])=G6 at k6 KA6 clr6 S6' L6 mX6 ⊢
    rw [zd5]
    by_cases hnil:zso.map (·.2)=[]
    ·rw [decide_eq_true hnil]
     exact xJ ⟨_,_,_,_,rfl,fin _ mX6,S6',L6⟩
    rw [decide_eq_false hnil]
    refine yV ?_
    have RO6:=RO.same mX6
    have hz1':0<zso.length:=List.length_pos_iff.mpr (λz=>hnil (by rw [z];rfl))
    refine⟨_,rfl,ro,_,_,.ref blo,rfl,rfl,SqT.of RO6.tu,rfl,_,rfl,_,rfl,ro,_,_,.ref blo,rfl,rfl,SqT.of RO6.tu,rfl,blo,_,rfl,.inl (SqL.of RO6.li),s,_,rfl,S6',by rw [List.length_map];omega,by rw [List.length_map];exact Int.lt_of_le_of_lt (show (zso.length:Int)<=4 by omega) (by decide +kernel),λx G7 hx7 q7=>?_⟩
    rw [List.length_map] at hx7
    obtain⟨z,hz⟩:∃ z,zso[x]?=some z:=⟨_,List.getElem?_eq_getElem (by omega)⟩
    have hzm:=List.mem_of_getElem? hz
    obtain⟨KA7,clr7⟩:=KA6.clr clr6 q7.sm
    have L7:=L6.stq S6' q7.sm
    have mX7:=zeS mX6 Xs q7.sm
    have RO7:=RO.same mX7
    refine⟨blo,_,_,.ref z.1,rfl,rfl,SqL.of RO7.li,vB (by rw [List.getElem?_map,hz];rfl),?_⟩
    have hzl:z.2∈zk.map (·.2):=by rw [ek];exact List.mem_map.mpr ⟨z,hzm,rfl⟩
    have gz:=go.st z.2 (List.mem_map.mpr ⟨z,hzm,rfl⟩)
    have sz:uv (.list (z.2.map .int))<=100000:=Nat.le_trans (Wn _) (Nat.le_trans (JF go _ (List.mem_map.mpr ⟨z.2,List.mem_map.mpr ⟨z,hzm,rfl⟩,rfl⟩)).wt (by decide))
    have st:=Qn gz
    refine⟨_,rfl,_,rfl,z.1,_,rfl,.inl (SqL.of (RO7.st z hzm)),λq8 hq8=>?_⟩
    have k8:=zm hq8 (o:=.lst (z.2.map V.int))
    have hq8':upd G7 q8 (.lst (z.2.map V.int)) q8=some (.lst (z.2.map V.int)):=zj
    have KA8:=KA7.same k8
    have S8:=q7.st.same k8
    have clr8:ClrK s (upd G7 q8 (.lst (z.2.map V.int))) k tl sa la bk zk:=by obtain⟨x1,y1,w1,e⟩:=q7.st;exact KA7.kps k8 s _ e clr7
    have L8:=L7.same k8
    have mX8:=mX7.trans k8
    generalize upd G7 q8 (.lst (z.2.map V.int))=G8 at k8 hq8' KA8 S8 clr8 L8 mX8 ⊢
    refine⟨k,tl,sa,la,b,1000,bk,zk,ws,L5n,1,.ref q8,.list (z.2.map .int),rfl,KA8,by decide +kernel,L8,ThAt.ints hq8',sz,by decide,λh=>absurd h (by decide),(λx' h=>by rw [zal st (by rw [ints_map];exact hzl)] at h;cases h),λ_ h=>absurd h (by decide),λ_ _=>?_⟩
    intro p9 tl9 sa9 la9 bl9 zs9 ws9 L9n G9 np9 hp9 KA9 e9 O9 L9 nla9 nsa9 nbl9 _ clr9
    rw [ints_map] at e9
    have S9:Sto G9 s:=by
     obtain⟨x1,y1,w1,e⟩:=S8
     exact⟨x1,y1,w1,O9 s _ clr8.nk clr8.nla (L8.lst e) e⟩
    have clr9':ClrK s G9 k tl9 sa9 la9 bl9 zs9:=by
     obtain⟨x1,y1,w1,e⟩:=S8
     exact clr9 s _ e clr8.nk clr8.nz
    have Xla9:=mX8.free nla9
    have mX9:=zbN mX8 Xk Xla XT O9
    have RO9:=RO.same mX9
    have nin9:z.2∉zs9.map (·.2):=λh=>by
     rw [e9] at h
     exact absurd rfl (of_decide_eq_true (List.mem_filter.mp h).2)
    refine⟨rfl,_,rfl,YT (by rw [decide_eq_true rfl];rfl) ?_⟩
    refine⟨_,rfl,_,rfl,z.1,_,rfl,.inl (SqL.of (RO9.st z hzm)),λq10 hq10=>?_⟩
    have k10:=zm hq10 (o:=.lst (z.2.map V.int))
    have hq10':upd G9 q10 (.lst (z.2.map V.int)) q10=some (.lst (z.2.map V.int)):=zj
    refine⟨k,tl9,sa9,la9,b,1000,bl9,zs9,ws9,L9n,1,.ref q10,.list (z.2.map .int),rfl,KA9.same k10,by decide +kernel,L9.same k10,ThAt.ints hq10',sz,by decide,λh=>absurd h (by decide),λx' h G11 m11=>?_,λ_ h=>absurd h (by decide),(λh=>by rw [XM (.inr (by rw [ints_map];exact nin9))] at h;cases h)⟩
    rw [XM (.inr (by rw [ints_map];exact nin9))] at h
    obtain rfl:("stretch" : Str)=x':=by injection h
    refine⟨rfl,_,rfl,YT (by rw [decide_eq_true rfl];rfl) ?_⟩
    have m911:=k10.trans m11
    have KA11:=KA9.same m911
    have S11:=S9.same m911
    have clr11:ClrK s G11 k tl9 sa9 la9 bl9 zs9:=by obtain⟨x1,y1,w1,e⟩:=S9;exact KA9.kps m911 s _ e clr9'
    have L11:=L9.same m911
    have mX11:=mX9.trans m911
    have RO11:=RO.same mX11
    refine⟨_,rfl,_,rfl,z.1,_,rfl,.inl (SqL.of (RO11.st z hzm)),λq12 hq12=>?_⟩
    have k12':=zm hq12 (o:=.lst (z.2.map V.int))
    have hq12':upd G11 q12 (.lst (z.2.map V.int)) q12=some (.lst (z.2.map V.int)):=zj
    have KA12:=KA11.same k12'
    have S12:=S11.same k12'
    have clr12:ClrK s (upd G11 q12 (.lst (z.2.map V.int))) k tl9 sa9 la9 bl9 zs9:=by obtain⟨x1,y1,w1,e⟩:=S11;exact KA11.kps k12' s _ e clr11
    have L12:=L11.same k12'
    have mX12:=mX11.trans k12'
    generalize upd G11 q12 (.lst (z.2.map V.int))=G12 at k12' hq12' KA12 S12 clr12 L12 mX12 ⊢
    have hl9:(zs9.map (·.2)).length≠4:=λh=>by
     have h1:=KA2.gt.g.len
     have h2:(zs9.map (·.2)).length=(zk.map (·.2)).length:=by
      rw [e9]
      rw [e9] at h
      have:=List.length_filter_le (λl=>decide (l≠z.2)) (zk.map (·.2))
      omega
     rw [e9,List.length_filter_eq_length_iff] at h2
     exact absurd rfl (of_decide_eq_true (h2 _ hzl))
    refine⟨k,tl9,sa9,la9,b,1000,bl9,zs9,ws9,L9n,0,.ref q12,.list (z.2.map .int),rfl,KA12,by decide +kernel,L12,ThAt.ints hq12',sz,by decide,λh=>absurd h (by decide),(λx' h=>by rw [VF hl9 st (by rw [ints_map];exact nin9)] at h;cases h),λ_ _=>?_,λ_ h=>absurd h (by decide)⟩
    intro p13 tl13 sa13 la13 bl13 zs13 ws13 L13n G13 np13 hp13 KA13 e13 O13 L13 nla13 nsa13 nbl13 _ clr13
    rw [ints_map] at e13
    have S13:Sto G13 s:=by
     obtain⟨x1,y1,w1,e⟩:=S12
     exact⟨x1,y1,w1,O13 s _ clr12.nk clr12.nla (L12.lst e) e⟩
    have clr13':ClrK s G13 k tl13 sa13 la13 bl13 zs13:=by
     obtain⟨x1,y1,w1,e⟩:=S12
     exact clr13 s _ e clr12.nk clr12.nz
    have Xla13:=mX12.free nla13
    have mX13:=zbN mX12 Xk Xla9 XT O13
    have els:zs13.map (·.2)=zk.map (·.2):=zbF KA13.gt.g.up KA2.gt.g.up λl=>by
     rw [e13.mem_iff,List.mem_append,List.mem_singleton,e9,List.mem_filter]
     constructor
     ·rintro (⟨h,_⟩ | rfl)
      ·exact h
      ·exact hzl
     ·intro h
      by_cases e:l=z.2
      ·exact .inr e
      ·exact .inl ⟨h,decide_eq_true e⟩
    refine⟨rfl,_,rfl,YT (by rw [decide_eq_true rfl];rfl) ?_⟩
    refine⟨_,rfl,k,tl13,sa13,la13,b,1000,bl13,zs13,ws13,L13n,rfl,KA13,L13,λp14 r14 bl14 zs14 L14n G14 A14 KA14 m14' L14 fr14 ks14=>?_⟩
    have S14':=S13.off clr13'.nla m14'
    have mX14:=zdp mX13 Xla13 m14'
    rw [els] at A14
    refine⟨_,rfl,_,_,TrAt.stand A14,TrAt.stand (XE.same mX14),zbJ _ _,_,rfl,YT (by rw [Z0];rfl) ?_⟩
    exact⟨_,_,_,_,rfl,fin _ mX14,S14',L14⟩
   ·rintro Z G ⟨v11,v12,v13,v14,rfl,W0,S0,L0⟩
    exact⟨_,_,_,_,_,_,_,_,_,_,_,_,_,_,rfl,λc o hc e=>(zH _ _ _ _ (W0.up c o hc (m2 c o hc e))),L0⟩
  ·rintro Z H2 ⟨v1,v2,v3,v4,v5,v6,v7,v8,v9,v10,v11,v12,v13,v14,rfl,m2,T2⟩
   exact kk H2
end
end Lw
namespace Lw
open PySem L2
theorem fb1 {P:List Value->Prop} (h:∀ a,P [a]):∀ us:List Value,us.length=1->P us
 | [a],_=>h a
theorem fb2 {P:List Value->Prop} (h:∀ a b,P [a,b]):∀ us:List Value,us.length=2->P us
 | [a,b],_=>h a b
theorem fb3 {P:List Value->Prop} (h:∀ a b c,P [a,b,c]):∀ us:List Value,us.length=3->P us
 | [a,b,c],_=>h a b c
def FF (K:W.Frag) (n q:Str) (st:Stmt) (f:Addr) (cd:Value):Prop:=∃ (od an:Option Addr) (sl:Array (Option Value)) (oc kV dc pm ct:Value),K.lookup f=some ⟨oc,od,.func (W.fnOf n q (wX st) (yR st) (zu st) .none kV dc pm an cd ct),sl⟩/\W.codeIn K cd q=true/\W.keepIn K (.ref f)=true
def FD (K:W.Frag) (n:Str) (st:Stmt):Prop:=∃ (f:Addr) (cd:Value),W.nsIn K mainGlobals n=some (some (.ref f))/\FF K n n st f cd
def FM (K:W.Frag) (C:Addr) (n q:Str) (st:Stmt):Prop:=∃ (f:Addr) (cd:Value),W.findIn K (.ref C) n=some (some (.ref f))/\W.isFn K (.ref f)=true/\FF K n q st f cd
section
variable {K:W.Frag} {n q:Str} {st:Stmt} {f C:Addr} {cd:Value} {od an:Option Addr} {sl:Array (Option Value)} {oc kV dc pm ct:Value}
theorem fdm (a:W.nsIn K mainGlobals n=some (some (.ref f))) (l:K.lookup f=some ⟨oc,od,.func (W.fnOf n n (wX st) (yR st) (zu st) .none kV dc pm an cd ct),sl⟩) (e:W.codeIn K cd n=true) (k:W.keepIn K (.ref f)=true):FD K n st:=⟨f,cd,a,od,an,sl,oc,kV,dc,pm,ct,l,e,k⟩
theorem fmm (a:W.findIn K (.ref C) n=some (some (.ref f))) (i:W.isFn K (.ref f)=true) (l:K.lookup f=some ⟨oc,od,.func (W.fnOf n q (wX st) (yR st) (zu st) .none kV dc pm an cd ct),sl⟩) (e:W.codeIn K cd q=true) (k:W.keepIn K (.ref f)=true):FM K C n q st:=⟨f,cd,a,i,od,an,sl,oc,kV,dc,pm,ct,l,e,k⟩
def FB (n q:Str) (st:Stmt) (ps:List Str):Prop:=∀ (kV doc pm:Value) (an:Option Addr) (cdv ct:Value) (us:List Value),us.length=ps.length->bindArgs (W.fnOf n q (wX st) (yR st) (zu st) .none kV doc pm an cdv ct) ⟨us,[]⟩=pure (ps.zip us)
theorem FD.df {h:Heap} {mg:Str->Option Value} {ps:List Str} (x:FD K n st) (X:K.In h) (G:h.Ns mainGlobals mg) (b:FB n n st ps):∃ f fd,Df K mg n st ps f fd:=by
 obtain⟨f,cd,a,od,an,sl,oc,kV,dc,pm,ct,l,e,k⟩:=x
 exact⟨_,_,zdB X G a l e k b⟩
theorem FM.mt {ps:List Str} (x:FM K C n q st) (b:FB n q st ps):∃ f fd,Mt K C q n st ps f fd:=by
 obtain⟨f,cd,a,i,od,an,sl,oc,kV,dc,pm,ct,l,e,k⟩:=x
 exact⟨_,_,⟨Jv (st:=st) l e k,(Jv (st:=st) l e k).binds b,⟨a,i,k⟩⟩⟩
end
structure CF (K:W.Frag) (n:Str) (C:Addr):Prop where
 g:W.nsIn K mainGlobals n=some (some (.ref C))
 m:W.mroIn K C (.type "object")=some true
 t:W.typeIn K (.ref C)=some (.type "type")
theorem CF.cls {K:W.Frag} {n:Str} {C D:Addr} {b:Bool} (x:CF K n D) (e:W.mroIn K C (.ref D)=some b):W.kitCls K (.ref C) (.ref D)=some b:=by
 obtain⟨cd,h,_⟩:=Option.bind_eq_some_iff.mp x.m
 show (if ((W.clsIn K D).isSome && W.typeIn K (.ref D) == some (.type "type"))=true then W.subIn K (.ref C) (.ref D) else none)=_
 rw [if_pos (by rw [h,x.t,Option.isSome_some,Bool.true_and];exact beq_self_eq_true _)]
 exact e
theorem CF.no {K:W.Frag} {n:Str} {C D:Addr} (x:CF K n D) (s:W.mroIn K C (.ref C)=some true) (e:W.mroIn K C (.ref D)=some false):W.kitOne K (.ref C) (.ref D)=some false:=by
 unfold W.kitOne
 rw [if_neg (λq=>by
  have h:Value.ref C=Value.ref D:=eq_of_beq q
  injection h with h
  rw [<- h,s] at e
  cases e)]
 exact x.cls e
theorem Yg {K:W.Frag} {C:Addr}:W.kitOne K (.ref C) (.ref C)=some true:=by
 unfold W.kitOne
 rw [if_pos (beq_self_eq_true _)]
theorem V8 {K:W.Frag} {C:Addr} (e:W.mroIn K C (.type "ValueError")=some true):W.kitOne K (.ref C) (.type "ValueError")=some true:=by
 unfold W.kitOne
 split
 ·rfl
 ·show (if W.kitMeta "ValueError" = true then W.subIn K (.ref C) (.type "ValueError") else none)=_
  rw [if_pos (by decide +kernel)]
  exact e
set_option maxHeartbeats 0 in
theorem zfh {l:W.OpenLaw} {w:World} {K:W.Frag} {h:Heap} {mg:Str->Option Value} {fa T0 c0:Addr} (X:K.In h) (G:h.Ns mainGlobals mg) (hfa:mg "law" = some (.ref fa)) (hcT:W.codeHdIn K c0 T0=true) (hgT:mainGlobals≠T0)
  (x0:FD K "is_whole" uJ)
  (x1:FD K "is_number" qW)
  (x2:FD K "is_base" jT)
  (x3:FD K "is_figure" qZ)
  (x4:FD K "are_figures" vq)
  (x5:FD K "is_stretch" wW)
  (x6:FD K "is_rising" uP)
  (x7:FD K "is_bad_list" vh)
  (x8:FD K "is_rule" Yy)
  (x9:FD K "check_base" qe)
  (x10:FD K "check_number" xP)
  (x11:FD K "check_rule" tY)
  (x12:FD K "copy_of" qp)
  (x13:FD K "stands_within" wA)
  (x14:FD K "lacks_all" wU)
  (x15:FD K "figures_of" t7)
  (x16:FD K "begins_one" vV)
  (x17:FD K "longest_stand" vD)
  {f18:Addr} {od18 an18:Option Addr} {sl18:Array (Option Value)} {oc18 kV18 dc18 pm18 ct18:Value} (a18:W.nsIn K mainGlobals "stands_of" = some (some (.ref f18)))
  (l18:K.lookup f18=some ⟨oc18,od18,.func (W.fnOf "stands_of" "stands_of" (wX yg) (yR yg) (zu yg) .none kV18 dc18 pm18 an18 (.ref c0) ct18),sl18⟩) (e18:W.codeIn K (.ref c0) "stands_of" = true) (k18:W.keepIn K (.ref f18)=true)
  (x19:FD K "place_behind" vZ)
  (x20:FD K "steps_from" uh)
  (x21:FD K "all_steps" uU)
  (x22:FD K "good_at" Yr)
  (x23:FD K "_law_cell" qX)
  (x24:FD K "_law_store" qd)
  (x25:FD K "_law_take" yD)
  (x26:FD K "_law_stretch" yp)
  (x27:FD K "_law_bad" uI)
  (x28:FD K "_law_base" uY)
  (x29:FD K "_law_rule" jc)
  (x30:FD K "_law_copy" uR)
  (x31:FD K "_law_kind" vO)
  (x32:FD K "_law_no_rule" wQ)
  (x33:FD K "_law_word" vQ)
  (x34:FD K "_law_made" uQ)
  (x35:FD K "_law_no_stretch" wH)
  (x36:FD K "_law_all_refused" yP)
  (x37:FD K "_law_stand" qm)
  (x38:FD K "law" VM)
  {qA:Addr} (qKh:CF K "NoBase" qA)
  {qB:Addr} (qLb:CF K "NoNumber" qB)
  {qE:Addr} (qKi:CF K "NoFigures" qE)
  {qS:Addr} (qLd:CF K "NoRule" qS)
  {qV:Addr} (qLf:CF K "NoStand" qV)
  {xA:Addr} (qKj:CF K "NoGood" xA)
  {xB:Addr} (qKf:CF K "Endless" xB)
  {xC:Addr} (qLe:CF K "NoRules" xC)
  {xD:Addr} (qLg:CF K "NoStretch" xD)
  {xE:Addr} (qLi:CF K "TooMany" xE)
  {xI:Addr} (qLh:CF K "NoText" xI)
  {xL:Addr} (qLa:CF K "NoName" xL)
  {xS:Addr} (qLc:CF K "NoRow" xS)
  {yA:Addr} (qKg:CF K "LackError" yA)
  (mLE:W.mroIn K yA (.type "BaseException")=some true)
  (nVE:W.nsIn K mainGlobals "ValueError" = some none)
  (qKc:W.excIn K qS veT "ValueError.__new__" = true) (qDb:W.mroIn K qS (.ref yA)=some true)
  (qBg:Vi K qS) (qMb:W.mroIn K qS (.type "ValueError")=some true)
  (qGb:W.mroIn K qS (.ref qA)=some false)
  (qGf:W.mroIn K qS (.ref qB)=some false)
  (qGc:W.mroIn K qS (.ref qE)=some false)
  (qGh:W.mroIn K qS (.ref qS)=some true)
  (qGj:W.mroIn K qS (.ref qV)=some false)
  (qGd:W.mroIn K qS (.ref xA)=some false)
  (qGa:W.mroIn K qS (.ref xB)=some false)
  (qGi:W.mroIn K qS (.ref xC)=some false)
  (qHa:W.mroIn K qS (.ref xD)=some false)
  (qHc:W.mroIn K qS (.ref xE)=some false)
  (qHb:W.mroIn K qS (.ref xI)=some false)
  (qGe:W.mroIn K qS (.ref xL)=some false)
  (qGg:W.mroIn K qS (.ref xS)=some false)
  (qKb:W.excIn K qB veT "ValueError.__new__" = true) (qDa:W.mroIn K qB (.ref yA)=some true)
  (qBf:Vi K qB) (qMa:W.mroIn K qB (.type "ValueError")=some true)
  (qEi:W.mroIn K qB (.ref qA)=some false)
  (qFc:W.mroIn K qB (.ref qB)=some true)
  (qEj:W.mroIn K qB (.ref qE)=some false)
  (qFe:W.mroIn K qB (.ref qS)=some false)
  (qFg:W.mroIn K qB (.ref qV)=some false)
  (qFa:W.mroIn K qB (.ref xA)=some false)
  (qEh:W.mroIn K qB (.ref xB)=some false)
  (qFf:W.mroIn K qB (.ref xC)=some false)
  (qFh:W.mroIn K qB (.ref xD)=some false)
  (qFj:W.mroIn K qB (.ref xE)=some false)
  (qFi:W.mroIn K qB (.ref xI)=some false)
  (qFb:W.mroIn K qB (.ref xL)=some false)
  (qFd:W.mroIn K qB (.ref xS)=some false)
  (qKa:W.excIn K qA veT "ValueError.__new__" = true) (qCj:W.mroIn K qA (.ref yA)=some true)
  (qBe:Vi K qA) (qLj:W.mroIn K qA (.type "ValueError")=some true)
  (qDf:W.mroIn K qA (.ref qA)=some true)
  (qDj:W.mroIn K qA (.ref qB)=some false)
  (qDg:W.mroIn K qA (.ref qE)=some false)
  (qEb:W.mroIn K qA (.ref qS)=some false)
  (qEd:W.mroIn K qA (.ref qV)=some false)
  (qDh:W.mroIn K qA (.ref xA)=some false)
  (qDe:W.mroIn K qA (.ref xB)=some false)
  (qEc:W.mroIn K qA (.ref xC)=some false)
  (qEe:W.mroIn K qA (.ref xD)=some false)
  (qEg:W.mroIn K qA (.ref xE)=some false)
  (qEf:W.mroIn K qA (.ref xI)=some false)
  (qDi:W.mroIn K qA (.ref xL)=some false)
  (qEa:W.mroIn K qA (.ref xS)=some false)
  (qKd:W.excIn K xD veT "ValueError.__new__" = true) (qDc:W.mroIn K xD (.ref yA)=some true)
  (qBh:Vi K xD) (qMc:W.mroIn K xD (.type "ValueError")=some true)
  (qHe:W.mroIn K xD (.ref qA)=some false)
  (qHi:W.mroIn K xD (.ref qB)=some false)
  (qHf:W.mroIn K xD (.ref qE)=some false)
  (qIa:W.mroIn K xD (.ref qS)=some false)
  (qIc:W.mroIn K xD (.ref qV)=some false)
  (qHg:W.mroIn K xD (.ref xA)=some false)
  (qHd:W.mroIn K xD (.ref xB)=some false)
  (qIb:W.mroIn K xD (.ref xC)=some false)
  (qId:W.mroIn K xD (.ref xD)=some true)
  (qIf:W.mroIn K xD (.ref xE)=some false)
  (qIe:W.mroIn K xD (.ref xI)=some false)
  (qHh:W.mroIn K xD (.ref xL)=some false)
  (qHj:W.mroIn K xD (.ref xS)=some false)
  (qKe:W.excIn K xE veT "ValueError.__new__" = true) (qDd:W.mroIn K xE (.ref yA)=some true)
  (qBi:Vi K xE) (qMd:W.mroIn K xE (.type "ValueError")=some true)
  (qIh:W.mroIn K xE (.ref qA)=some false)
  (qJb:W.mroIn K xE (.ref qB)=some false)
  (qIi:W.mroIn K xE (.ref qE)=some false)
  (qJd:W.mroIn K xE (.ref qS)=some false)
  (qJf:W.mroIn K xE (.ref qV)=some false)
  (qIj:W.mroIn K xE (.ref xA)=some false)
  (qIg:W.mroIn K xE (.ref xB)=some false)
  (qJe:W.mroIn K xE (.ref xC)=some false)
  (qJg:W.mroIn K xE (.ref xD)=some false)
  (qJi:W.mroIn K xE (.ref xE)=some true)
  (qJh:W.mroIn K xE (.ref xI)=some false)
  (qJa:W.mroIn K xE (.ref xL)=some false)
  (qJc:W.mroIn K xE (.ref xS)=some false)
  {C:Addr} (aC:W.nsIn K mainGlobals "Tails" = some (some (.ref C)))
  (yC0:FM K C "__init__" "Tails.__init__" uH)
  (yC1:FM K C "layer" "Tails.layer" vp)
  (yC2:FM K C "many_by" "Tails.many_by" xg)
  (yC3:FM K C "many_under" "Tails.many_under" wk)
  (yC4:FM K C "many_below" "Tails.many_below" xY)
  (yC5:FM K C "many_within" "Tails.many_within" YD)
  (yC6:FM K C "figure_at" "Tails.figure_at" Wa)
  (yC7:FM K C "number_at" "Tails.number_at" Xv)
  (yC8:FM K C "are_endless" "Tails.are_endless" YB)
  (pgC:W.plainGet K C Str.empty=true) (hdC:W.hasDictIn K C=true) (poC:W.plainOver K C=true) (saC:W.findIn K (.ref C) "__setattr__" = some (some (.builtin "object.__setattr__"))) (mkC:W.makesIn K C=true) (kcC:W.keepIn K (.ref C)=true)
  (nC_base:W.findIn K (.ref C) "base" = some none)
  (nC_outset:W.findIn K (.ref C) "outset" = some none)
  (nC_steps:W.findIn K (.ref C) "steps" = some none)
  (nC_layers:W.findIn K (.ref C) "layers" = some none)
  {CK:Addr} (aCK:W.nsIn K mainGlobals "Keeper" = some (some (.ref CK)))
  (yCK0:FM K CK "__init__" "Keeper.__init__" vW)
  (yCK1:FM K CK "come" "Keeper.come" uL)
  (yCK2:FM K CK "go" "Keeper.go" tE)
  (yCK3:FM K CK "turn_to" "Keeper.turn_to" xO)
  (yCK4:FM K CK "rule" "Keeper.rule" uK)
  (yCK5:FM K CK "good" "Keeper.good" uN)
  (yCK6:FM K CK "below" "Keeper.below" xQ)
  (pgCK:W.plainGet K CK Str.empty=true) (hdCK:W.hasDictIn K CK=true) (poCK:W.plainOver K CK=true) (saCK:W.findIn K (.ref CK) "__setattr__" = some (some (.builtin "object.__setattr__"))) (mkCK:W.makesIn K CK=true) (kcCK:W.keepIn K (.ref CK)=true)
  (nCK_base:W.findIn K (.ref CK) "base" = some none)
  (nCK_bad:W.findIn K (.ref CK) "bad" = some none)
  (nCK_bound:W.findIn K (.ref CK) "bound" = some none)
  (nCK_tails:W.findIn K (.ref CK) "tails" = some none)
  {t0:Tok} (g0:W.nsIn K mainGlobals "LEAST_BASE" = some (some (.int 2 t0)))
  {t1:Tok} (g1:W.nsIn K mainGlobals "GREATEST_BASE" = some (some (.int 16 t1)))
  {t2:Tok} (g2:W.nsIn K mainGlobals "MOST_STRETCHES" = some (some (.int 4 t2)))
  {t3:Tok} (g3:W.nsIn K mainGlobals "LONGEST_STRETCH" = some (some (.int 4 t3)))
  {t4:Tok} (g4:W.nsIn K mainGlobals "MOST_FIGURES" = some (some (.int 60 t4)))
  (z0:W.nsIn K mainGlobals "isinstance" = some none)
  (z1:W.nsIn K mainGlobals "int" = some none)
  (z2:W.nsIn K mainGlobals "bool" = some none)
  (z3:W.nsIn K mainGlobals "list" = some none)
  (z4:W.nsIn K mainGlobals "tuple" = some none)
  (z5:W.nsIn K mainGlobals "reversed" = some none)
  (z6:W.nsIn K mainGlobals "len" = some none)
  (z7:W.nsIn K mainGlobals "max" = some none)
  (z8:W.nsIn K mainGlobals "min" = some none)
  (z9:W.nsIn K mainGlobals "range" = some none)
  (z10:W.nsIn K mainGlobals "all" = some none)
  (z11:W.nsIn K mainGlobals "any" = some none)
  (z12:W.nsIn K mainGlobals "sorted" = some none)
  (z13:W.nsIn K mainGlobals "enumerate" = some none)
  (z14:W.nsIn K mainGlobals "repr" = some none)
  (z15:W.nsIn K mainGlobals "sum" = some none)
  (z16:W.nsIn K mainGlobals "abs" = some none)
  (z17:W.nsIn K mainGlobals "zip" = some none)
  (z18:W.nsIn K mainGlobals "str" = some none)
  : ∃ fd:FuncData,(∀ (s:Shared) (v:Value),BindsTo s fd ⟨[v],[]⟩ [("script",v)])/\∀ base:Heap,K.In base->base.Ns mainGlobals mg->base.BuiltinsAt mg T0->FnOk l.prog w K mg base CX0 13 fa fd ["script"] (Jl K T0):=by
 obtain⟨fL,cd38,aL,od38,an38,sl38,oc38,kV38,dc38,pm38,ct38,lL,eL,kL⟩:=x38
 have e:=hfa.symm.trans (W.mg_of X G aL)
 cases e
 have T:Blt mg:=⟨W.mg_none_of X G z0,W.mg_none_of X G z1,W.mg_none_of X G z2,W.mg_none_of X G z3,W.mg_none_of X G z4,W.mg_none_of X G z5,W.mg_none_of X G z6,W.mg_none_of X G z7,W.mg_none_of X G z8,W.mg_none_of X G z9,W.mg_none_of X G z10,W.mg_none_of X G z11,W.mg_none_of X G z12,W.mg_none_of X G z13,W.mg_none_of X G z14⟩
 have U:zbv mg:=⟨W.mg_none_of X G z15,W.mg_none_of X G z16,W.mg_none_of X G z17,W.mg_none_of X G z18⟩
 have Zj:=W.mg_of X G g0
 have tO:=W.mg_of X G g1
 have yM:=W.mg_of X G g2
 have uo:=W.mg_of X G g3
 have zdt:=W.mg_of X G g4
 obtain⟨_,_,yL⟩:=x0.df (ps:=["thing"]) X G λ_ _ _ _ _ _=>fb1 λ_=>rfl
 obtain⟨_,_,Ze⟩:=x1.df (ps:=["thing"]) X G λ_ _ _ _ _ _=>fb1 λ_=>rfl
 obtain⟨_,_,qP⟩:=x2.df (ps:=["thing"]) X G λ_ _ _ _ _ _=>fb1 λ_=>rfl
 obtain⟨_,_,j6⟩:=x3.df (ps:=["base","thing"]) X G λ_ _ _ _ _ _=>fb2 λ_ _=>rfl
 obtain⟨_,_,tX⟩:=x4.df (ps:=["base","thing"]) X G λ_ _ _ _ _ _=>fb2 λ_ _=>rfl
 obtain⟨_,_,yK⟩:=x5.df (ps:=["base","thing"]) X G λ_ _ _ _ _ _=>fb2 λ_ _=>rfl
 obtain⟨_,_,qy⟩:=x6.df (ps:=["stretches"]) X G λ_ _ _ _ _ _=>fb1 λ_=>rfl
 obtain⟨_,_,qb⟩:=x7.df (ps:=["base","thing"]) X G λ_ _ _ _ _ _=>fb2 λ_ _=>rfl
 obtain⟨_,_,X6⟩:=x8.df (ps:=["thing"]) X G λ_ _ _ _ _ _=>fb1 λ_=>rfl
 obtain⟨_,_,jf⟩:=x9.df (ps:=["thing"]) X G λ_ _ _ _ _ _=>fb1 λ_=>rfl
 obtain⟨_,_,yo⟩:=x10.df (ps:=["thing"]) X G λ_ _ _ _ _ _=>fb1 λ_=>rfl
 obtain⟨_,_,ji⟩:=x11.df (ps:=["thing"]) X G λ_ _ _ _ _ _=>fb1 λ_=>rfl
 obtain⟨_,_,qK⟩:=x12.df (ps:=["rule"]) X G λ_ _ _ _ _ _=>fb1 λ_=>rfl
 obtain⟨_,_,wK⟩:=x13.df (ps:=["stretch","figures"]) X G λ_ _ _ _ _ _=>fb2 λ_ _=>rfl
 obtain⟨_,_,xH⟩:=x14.df (ps:=["bad","figures"]) X G λ_ _ _ _ _ _=>fb2 λ_ _=>rfl
 obtain⟨_,_,jg⟩:=x15.df (ps:=["base","n"]) X G λ_ _ _ _ _ _=>fb2 λ_ _=>rfl
 obtain⟨_,_,uW⟩:=x16.df (ps:=["bad","figures"]) X G λ_ _ _ _ _ _=>fb2 λ_ _=>rfl
 obtain⟨_,_,ul⟩:=x17.df (ps:=["bad","figures"]) X G λ_ _ _ _ _ _=>fb2 λ_ _=>rfl
 have Zv:Df K mg "stands_of" yg ["bad"] _ _:=zdB X G a18 l18 e18 k18 λ_ _ _ _ _ _=>fb1 λ_=>rfl
 obtain⟨_,_,uM⟩:=x19.df (ps:=["bad","stands","figures"]) X G λ_ _ _ _ _ _=>fb3 λ_ _ _=>rfl
 obtain⟨_,_,qU⟩:=x20.df (ps:=["rule","stands","stand"]) X G λ_ _ _ _ _ _=>fb3 λ_ _ _=>rfl
 obtain⟨_,_,Zt⟩:=x21.df (ps:=["rule","stands"]) X G λ_ _ _ _ _ _=>fb2 λ_ _=>rfl
 obtain⟨_,_,Wi⟩:=x22.df (ps:=["tails","k"]) X G λ_ _ _ _ _ _=>fb2 λ_ _=>rfl
 obtain⟨_,_,qF⟩:=x23.df (ps:=["script","k"]) X G λ_ _ _ _ _ _=>fb2 λ_ _=>rfl
 obtain⟨_,_,uX⟩:=x24.df (ps:=["cell"]) X G λ_ _ _ _ _ _=>fb1 λ_=>rfl
 obtain⟨_,_,zA⟩:=x25.df (ps:=["store","many"]) X G λ_ _ _ _ _ _=>fb2 λ_ _=>rfl
 obtain⟨_,_,zP⟩:=x26.df (ps:=["store","base","few"]) X G λ_ _ _ _ _ _=>fb3 λ_ _ _=>rfl
 obtain⟨_,_,vP⟩:=x27.df (ps:=["store","base"]) X G λ_ _ _ _ _ _=>fb2 λ_ _=>rfl
 obtain⟨_,_,wL⟩:=x28.df (ps:=["store"]) X G λ_ _ _ _ _ _=>fb1 λ_=>rfl
 obtain⟨_,_,qT⟩:=x29.df (ps:=["store"]) X G λ_ _ _ _ _ _=>fb1 λ_=>rfl
 obtain⟨_,_,qR⟩:=x30.df (ps:=["rule"]) X G λ_ _ _ _ _ _=>fb1 λ_=>rfl
 obtain⟨_,_,wg⟩:=x31.df (ps:=["e","due"]) X G λ_ _ _ _ _ _=>fb2 λ_ _=>rfl
 obtain⟨_,_,vz⟩:=x32.df (ps:=["store","rule"]) X G λ_ _ _ _ _ _=>fb2 λ_ _=>rfl
 obtain⟨_,_,wy⟩:=x33.df (ps:=["keeper","door","thing"]) X G λ_ _ _ _ _ _=>fb3 λ_ _ _=>rfl
 obtain⟨_,_,vH⟩:=x34.df (ps:=["rule","b"]) X G λ_ _ _ _ _ _=>fb2 λ_ _=>rfl
 obtain⟨_,_,xM⟩:=x35.df (ps:=["store","base"]) X G λ_ _ _ _ _ _=>fb2 λ_ _=>rfl
 obtain⟨_,_,wG⟩:=x36.df (ps:=["store","keeper","rule"]) X G λ_ _ _ _ _ _=>fb3 λ_ _ _=>rfl
 obtain⟨_,_,vM⟩:=x37.df (ps:=["keeper"]) X G λ_ _ _ _ _ _=>fb1 λ_=>rfl
 have Dlaw:Df K mg "law" VM ["script"] _ _:=zdB X G aL lL eL kL λ_ _ _ _ _ _=>fb1 λ_=>rfl
 obtain⟨_,_,tM⟩:=yC0.mt (ps:=["self","rule"]) λ_ _ _ _ _ _=>fb2 λ_ _=>rfl
 have WD:Mk K C _:=let ⟨a,i,_⟩:=tM.m;⟨mkC,a,i,kcC⟩
 have Ws:=tM.b
 obtain⟨_,_,vX⟩:=yC1.mt (ps:=["self","left"]) λ_ _ _ _ _ _=>fb2 λ_ _=>rfl
 obtain⟨_,_,ym⟩:=yC2.mt (ps:=["self","layer","place","stop"]) λ_ _ _ _ _ _ us hl=>match us,hl with | [_,_,_,_],_=>rfl
 obtain⟨_,_,wF⟩:=yC3.mt (ps:=["self","place","stop","left"]) λ_ _ _ _ _ _ us hl=>match us,hl with | [_,_,_,_],_=>rfl
 obtain⟨_,_,wJ⟩:=yC4.mt (ps:=["self","figures"]) λ_ _ _ _ _ _=>fb2 λ_ _=>rfl
 obtain⟨_,_,zba⟩:=yC5.mt (ps:=["self","size"]) λ_ _ _ _ _ _=>fb2 λ_ _=>rfl
 obtain⟨_,_,zb5⟩:=yC6.mt (ps:=["self","place","k","left"]) λ_ _ _ _ _ _ us hl=>match us,hl with | [_,_,_,_],_=>rfl
 obtain⟨_,_,zcE⟩:=yC7.mt (ps:=["self","size","k"]) λ_ _ _ _ _ _=>fb3 λ_ _ _=>rfl
 obtain⟨_,_,zbm⟩:=yC8.mt (ps:=["self"]) λ_ _ _ _ _ _=>fb1 λ_=>rfl
 have zV:ClT K mg C:=⟨⟨pgC,hdC,poC,saC⟩,W.mg_of X G aC,nC_base,nC_outset,nC_steps,nC_layers⟩
 obtain⟨_,_,MKeeper___init__⟩:=yCK0.mt (ps:=["self","rule","b"]) λ_ _ _ _ _ _=>fb3 λ_ _ _=>rfl
 have KKeeper:Mk K CK _:=let ⟨a,i,_⟩:=MKeeper___init__.m;⟨mkCK,a,i,kcCK⟩
 have BKeeper:=MKeeper___init__.b
 obtain⟨_,_,MKeeper_come⟩:=yCK1.mt (ps:=["self","stretch"]) λ_ _ _ _ _ _=>fb2 λ_ _=>rfl
 obtain⟨_,_,MKeeper_go⟩:=yCK2.mt (ps:=["self","stretch"]) λ_ _ _ _ _ _=>fb2 λ_ _=>rfl
 obtain⟨_,_,MKeeper_turn_to⟩:=yCK3.mt (ps:=["self","bad"]) λ_ _ _ _ _ _=>fb2 λ_ _=>rfl
 obtain⟨_,_,MKeeper_rule⟩:=yCK4.mt (ps:=["self"]) λ_ _ _ _ _ _=>fb1 λ_=>rfl
 obtain⟨_,_,MKeeper_good⟩:=yCK5.mt (ps:=["self","k"]) λ_ _ _ _ _ _=>fb2 λ_ _=>rfl
 obtain⟨_,_,MKeeper_below⟩:=yCK6.mt (ps:=["self","n"]) λ_ _ _ _ _ _=>fb2 λ_ _=>rfl
 have cKeeper:ClK K mg CK:=⟨⟨pgCK,hdCK,poCK,saCK⟩,W.mg_of X G aCK,nCK_base,nCK_bad,nCK_bound,nCK_tails⟩
 refine⟨W.fnOf "law" "law" (wX VM) (yR VM) (zu VM) .none kV38 dc38 pm38 an38 cd38 ct38,λs v=>.of_eq rfl,λbase _ _ hBM=>?_⟩
 have XN:Jt mg qA qB qE qS qV xA xB xC xD xE xI xL xS:=⟨W.mg_of X G qKh.g,W.mg_of X G qLb.g,W.mg_of X G qKi.g,W.mg_of X G qLd.g,W.mg_of X G qLf.g,W.mg_of X G qKj.g,W.mg_of X G qKf.g,W.mg_of X G qLe.g,W.mg_of X G qLg.g,W.mg_of X G qLi.g,W.mg_of X G qLh.g,W.mg_of X G qLa.g,W.mg_of X G qLc.g⟩
 have qJj:mg "ValueError" = none:=W.mg_none_of X G nVE
 have qBd:JL K mg "LackError" yA:=⟨W.mg_of X G qKg.g,mLE⟩
 have qMg:W9 K mg "NoRule" qS:=⟨W.mg_of X G qLd.g,qKc⟩
 have qCg:W.kitCls K (.ref qS) (.ref yA)=some true:=qKg.cls qDb
 have qCb:tV K qS qA qB qE qS qV xA xB xC xD xE xI xL xS 3:=⟨qBg,V8 qMb,qKh.no qGh qGb,qLb.no qGh qGf,qKi.no qGh qGc,Yg,qLf.no qGh qGj,qKj.no qGh qGd,qKf.no qGh qGa,qLe.no qGh qGi,qLg.no qGh qHa,qLi.no qGh qHc,qLh.no qGh qHb,qLa.no qGh qGe,qLc.no qGh qGg⟩
 have qMf:W9 K mg "NoNumber" qB:=⟨W.mg_of X G qLb.g,qKb⟩
 have qCf:W.kitCls K (.ref qB) (.ref yA)=some true:=qKg.cls qDa
 have qCa:tV K qB qA qB qE qS qV xA xB xC xD xE xI xL xS 1:=⟨qBf,V8 qMa,qKh.no qFc qEi,Yg,qKi.no qFc qEj,qLd.no qFc qFe,qLf.no qFc qFg,qKj.no qFc qFa,qKf.no qFc qEh,qLe.no qFc qFf,qLg.no qFc qFh,qLi.no qFc qFj,qLh.no qFc qFi,qLa.no qFc qFb,qLc.no qFc qFd⟩
 have qMe:W9 K mg "NoBase" qA:=⟨W.mg_of X G qKh.g,qKa⟩
 have qCe:W.kitCls K (.ref qA) (.ref yA)=some true:=qKg.cls qCj
 have qBj:tV K qA qA qB qE qS qV xA xB xC xD xE xI xL xS 0:=⟨qBe,V8 qLj,Yg,qLb.no qDf qDj,qKi.no qDf qDg,qLd.no qDf qEb,qLf.no qDf qEd,qKj.no qDf qDh,qKf.no qDf qDe,qLe.no qDf qEc,qLg.no qDf qEe,qLi.no qDf qEg,qLh.no qDf qEf,qLa.no qDf qDi,qLc.no qDf qEa⟩
 have qMh:W9 K mg "NoStretch" xD:=⟨W.mg_of X G qLg.g,qKd⟩
 have qCh:W.kitCls K (.ref xD) (.ref yA)=some true:=qKg.cls qDc
 have qCc:tV K xD qA qB qE qS qV xA xB xC xD xE xI xL xS 8:=⟨qBh,V8 qMc,qKh.no qId qHe,qLb.no qId qHi,qKi.no qId qHf,qLd.no qId qIa,qLf.no qId qIc,qKj.no qId qHg,qKf.no qId qHd,qLe.no qId qIb,Yg,qLi.no qId qIf,qLh.no qId qIe,qLa.no qId qHh,qLc.no qId qHj⟩
 have qMi:W9 K mg "TooMany" xE:=⟨W.mg_of X G qLi.g,qKe⟩
 have qCi:W.kitCls K (.ref xE) (.ref yA)=some true:=qKg.cls qDd
 have qCd:tV K xE qA qB qE qS qV xA xB xC xD xE xI xL xS 9:=⟨qBi,V8 qMd,qKh.no qJi qIh,qLb.no qJi qJb,qKi.no qJi qIi,qLd.no qJi qJd,qLf.no qJi qJf,qKj.no qJi qIj,qKf.no qJi qIg,qLe.no qJi qJe,qLg.no qJi qJg,Yg,qLh.no qJi qJh,qLa.no qJi qJa,qLc.no qJi qJc⟩
 have qu:FnOk l.prog w K mg base CX0 1 _ _ Aa uV:=je yL T
 have jN:FnOk l.prog w K mg base CX0 2 _ _ Aa ZL:=zbg qP yL T Zj tO
 have Y0:FnOk l.prog w K mg base CX0 2 _ _ Ab Zc:=Jc j6 yL T
 have j5:FnOk l.prog w K mg base CX0 3 _ _ Ab qG:=Uc tX j6 Y0 T
 have xu:FnOk l.prog w K mg base CX0 4 _ _ Ab vm:=Qo yK tX j5 uo T
 have Uy:FnOk l.prog w K mg base CX0 1 _ _ Aq ZJ:=XH qy T
 have Zb:FnOk l.prog w K mg base CX0 5 _ _ Ab qC:=VP qb yK xu qy yM T
 have UV:FnOk l.prog w K mg base CX0 6 _ _ Aa Xb:=zbh X6 qP jN qb Zb T
 have Z1:FnOk l.prog w K mg base CX0 1 _ _ Aw uG:=jL wK T
 have wj:FnOk l.prog w K mg base CX0 2 _ _ Ac ud:=J0 xH wK T
 have YW:FnOk l.prog w K mg base CX0 2 _ _ Aa Zu:=JC Ze yL T
 have Yk:FnOk l.prog w K mg base (CX1 l.prog w) 7 _ _ Aa (jz qS):=Qh ji X6 UV qMg
 have Z8:FnOk l.prog w K mg base (CX1 l.prog w) 3 _ _ Aa (jy qA):=Qm jf qP jN qMe
 have yw:FnOk l.prog w K mg base (CX1 l.prog w) 3 _ _ Aa (wz qB):=Vf yo Ze YW qMf
 have Ye:FnOk l.prog w K mg base (CX1 l.prog w) 4 _ _ Ax (jw qA qB):=Qq jg jf Z8 yo yw T
 have WW:FnOk l.prog w K mg base CX0 1 _ _ Ac jx:=YM uW T
 have qM:FnOk l.prog w K mg base CX0 3 _ _ Ac uB:=WR ul xH wj uW T
 have YS:FnOk l.prog w K mg base CX0 6 _ _ ["bad"] (Zh T0):=JM Zv rfl hcT hBM hgT xH wj T
 have jq:FnOk l.prog w K mg base CX0 4 _ _ Az tQ:=Vg uM ul qM
 have Yj:FnOk l.prog w K mg base CX0 5 _ _ As jk:=Qf qU uM jq T
 have Xa:FnOk l.prog w K mg base CX0 6 _ _ A0 j0:=JT Zt qU Yj T
 have ur:FnOk l.prog w K mg base CX0 1 _ _ Al (ZF C):=Y8 ym zV T U
 have Wj:FnOk l.prog w K mg base CX0 2 _ _ A4 (Ub C):=J9 vX ym zV T U
 have uq:FnOk l.prog w K mg base CX0 3 _ _ At (jo C):=Qp wF vX ym zV T U
 have uc:FnOk l.prog w K mg base CX0 4 _ _ A6 (jr C):=U7 wJ wF uq zV T
 have vN:FnOk l.prog w K mg base CX0 7 _ _ Am (Yd T0 C):=zcZ tM Zv YS Zt Xa xH wj zV T
 have VN:FnOk l.prog w K mg base CX0 1 _ _ Ar (j7 K):=XJ qF T
 have WX:FnOk l.prog w K mg base CX0 1 _ _ ["cell"] jB:=YJ uX T
 have zO:FnOk l.prog w K mg base CX0 1 _ _ Ad yz:=xn zA T
 have Uh:FnOk l.prog w K mg base CX0 2 _ _ Ag Zy:=Xx wL zA T
 have wB:FnOk l.prog w K mg base CX0 2 _ _ Aj yZ:=vG zP zA T
 have QH:FnOk l.prog w K mg base CX0 3 _ _ Ah Yb:=W3 vP zA zP T
 have jR:FnOk l.prog w K mg base CX0 1 _ _ Ae Zw:=zbr qK T
 have V2:FnOk l.prog w K mg base CX0 1 _ _ Ae jZ:=Xw qR T
 have GKeeper_belowX:FnOk l.prog w K mg base (CX1 l.prog w) 5 _ _ Af (Yv T0 C CK qB):=zcG MKeeper_below wJ uc jg Ye zV cKeeper
 have GKeeper_below:FnOk l.prog w K mg base CX0 5 _ _ Af (Xz T0 C CK):=zaX GKeeper_belowX
 have UG:FnOk l.prog w K mg base (CX1 l.prog w) 4 _ _ A7 (Xe qB):=zbq Wi yo yw
 have GKeeper_goodX:FnOk l.prog w K mg base (CX1 l.prog w) 5 _ _ Au (Jj C CK qB):=zdR MKeeper_good Wi UG cKeeper
 have GKeeper_rule:FnOk l.prog w K mg base CX0 2 _ _ ["self"] (Q6 C CK):=zd7 MKeeper_rule qK jR cKeeper
 have GKeeper_initX:FnOk l.prog w K mg base (CX1 l.prog w) 9 _ _ Ak (Zg T0 C CK qS qB):=zby MKeeper___init__ ji Yk yo yw qK jR WD Ws vN zV cKeeper
 have GKeeper_init:FnOk l.prog w K mg base CX0 9 _ _ Ak (Yu T0 C CK):=zao GKeeper_initX
 have GKeeper_turn_to:FnOk l.prog w K mg base CX0 9 _ _ An (ZG T0 C CK):=zbz MKeeper_turn_to MKeeper_below GKeeper_below WD Ws vN zV cKeeper
 have GKeeper_comeX:FnOk l.prog w K mg base (CX1 l.prog w) 10 _ _ Ai (Ul T0 C CK xD xE):=zdd MKeeper_come MKeeper_turn_to GKeeper_turn_to yK xu yM cKeeper qMh qMi T
 have GKeeper_goX:FnOk l.prog w K mg base (CX1 l.prog w) 10 _ _ Ai (za8 T0 C CK xD):=zfb MKeeper_go MKeeper_turn_to GKeeper_turn_to yK xu cKeeper qMh T
 have Zr:FnOk l.prog w K mg base CX0 1 _ _ Ao (qg K qA qB qE qS qV xA xB xC xD xE xI xL xS):=Zn wg XN qJj T U
 have YQ:FnOk l.prog w K mg base CX0 2 _ _ Ay tL:=ZP vz zA T
 have wV:FnOk l.prog w K mg base CX0 11 _ _ Ap (tW T0 C CK):=Jx wy MKeeper_come GKeeper_comeX MKeeper_go GKeeper_goX MKeeper_good GKeeper_goodX MKeeper_below GKeeper_belowX cKeeper wg XN qJj qBd qCh qCf qCi qCc qCa qCd T U
 have uD:FnOk l.prog w K mg base CX0 11 _ _ A8 (Za T0):=Jb vH KKeeper BKeeper GKeeper_initX cKeeper wg XN qJj qBd qCg qCf qCb qCa T U
 have tH:FnOk l.prog w K mg base CX0 6 _ _ Av (jA T0 C CK):=U8 vM MKeeper_rule GKeeper_rule MKeeper_below GKeeper_below cKeeper
 have jQ:FnOk l.prog w K mg base CX0 3 _ _ Ah vI:=qJ xM zA zP T
 have vY:FnOk l.prog w K mg base CX0 12 _ _ A9 (vf T0 C CK):=YF wG zA zP xM wy wV T
 have Vy:FnOk l.prog w K mg base CX0 4 _ _ Ag j8:=X7 qT zA zP wL vP T
 exact zfH Dlaw qF uX zA zP vP wL qT qR vz vH uD wy wV vM tH wG vY KKeeper BKeeper GKeeper_init cKeeper T
theorem walk2 {l:W.OpenLaw} {q:Program} {loose:List Str} {XP:(Str->Option Value)->Heap->Prop} {YP:World->Heap->Prop} {d:DefRec} {K:Params->W.Frag} {c T0:Addr} (hn:l.most=some 63) (hdf:d.params.defaults=[])
  (hY:∀ (w:World) (h:Heap),YP w h->(K w.params).In h) (hYT:∀ (w:World) (h:Heap),YP w h->h.get? T0=some (W.tabObj #[])) (hKT:∀ w:World,(K w.params).lookup T0=none) (hcT:∀ w:World,W.codeHdIn (K w.params) c T0=true)
  (F:∀ (w:World) (mg:Str->Option Value) (fa:Addr) (h:Heap),(K w.params).In h->h.Ns mainGlobals mg->mg d.name=some (.ref fa) ->
   ∃ fd:FuncData,(∀ (s:Shared) (u:Value),BindsTo s fd ⟨[u],[]⟩ [("script",u)])/\∀ base:Heap,(K w.params).In base->base.Ns mainGlobals mg->base.BuiltinsAt mg T0->FnOk l.prog w (K w.params) mg base CX0 13 fa fd ["script"] (Jl (K w.params) T0)) :
  W.WalkO q loose XP YP l.row.toRowW d [] (λf vs=>PySem.call f vs) :=
 L2.zf1 (n:=63) (k:=13) (x:="script") (sp:=λw=>Jl (K w.params) T0) hn (by decide) hdf ⟨rfl,by decide,by decide,rfl⟩ hY hYT hKT hcT F (λw H a ns hl hT hS=>⟨a,ns,rfl,hS,hl,.inl hT,λ_=>rfl⟩)
end Lw
open PySem PySem.W PyProof.Rows
set_option maxRecDepth 100000 in
set_option maxHeartbeats 0 in
theorem PySem.Challenge.cw_lackstretch_k33_what_a_keeper_refuses_holds : PySem.Challenge.rw_lackstretch_k33_what_a_keeper_refuses.Holds := by
 w_on;o_law;k_head;(case hw=>w_witness2)
 k_fill
 refine Lw.walk2 (l:=PySem.Challenge.rw_lackstretch_k33_what_a_keeper_refuses) (c:=301) (T0:=297) rfl rfl (λw h Y=>W.km_in_of Y) (λw h Y=>W.km_tabs_of Y 297 (by decide)) (λw=>by kernel_rfl) (λw=>by kernel_rfl) ?F
 case F =>
  intro w mg fa h KX G hmg
  refine' Lw.zfh (c0:=301) (T0:=297) KX G hmg (by kernel_rfl) (by decide) ?yyx0 ?yyx1 ?yyx2 ?yyx3 ?yyx4 ?yyx5 ?yyx6 ?yyx7 ?yyx8 ?yyx9 ?yyx10 ?yyx11 ?yyx12 ?yyx13 ?yyx14 ?yyx15 ?yyx16 ?yyx17 ?yya18 ?yyl18 ?yye18 ?yyk18 ?yyx19 ?yyx20 ?yyx21 ?yyx22 ?yyx23 ?yyx24 ?yyx25 ?yyx26 ?yyx27 ?yyx28 ?yyx29 ?yyx30 ?yyx31 ?yyx32 ?yyx33 ?yyx34 ?yyx35 ?yyx36 ?yyx37 ?yyx38 ?yyqKh ?yyqLb ?yyqKi ?yyqLd ?yyqLf ?yyqKj ?yyqKf ?yyqLe ?yyqLg ?yyqLi ?yyqLh ?yyqLa ?yyqLc ?yyqKg ?yymLE ?yynVE ?yyqKc ?yyqDb ?yyqBg ?yyqMb ?yyqGb ?yyqGf ?yyqGc ?yyqGh ?yyqGj ?yyqGd ?yyqGa ?yyqGi ?yyqHa ?yyqHc ?yyqHb ?yyqGe ?yyqGg ?yyqKb ?yyqDa ?yyqBf ?yyqMa ?yyqEi ?yyqFc ?yyqEj ?yyqFe ?yyqFg ?yyqFa ?yyqEh ?yyqFf ?yyqFh ?yyqFj ?yyqFi ?yyqFb ?yyqFd ?yyqKa ?yyqCj ?yyqBe ?yyqLj ?yyqDf ?yyqDj ?yyqDg ?yyqEb ?yyqEd ?yyqDh ?yyqDe ?yyqEc ?yyqEe ?yyqEg ?yyqEf ?yyqDi ?yyqEa ?yyqKd ?yyqDc ?yyqBh ?yyqMc ?yyqHe ?yyqHi ?yyqHf ?yyqIa ?yyqIc ?yyqHg ?yyqHd ?yyqIb ?yyqId ?yyqIf ?yyqIe ?yyqHh ?yyqHj ?yyqKe ?yyqDd ?yyqBi ?yyqMd ?yyqIh ?yyqJb ?yyqIi ?yyqJd ?yyqJf ?yyqIj ?yyqIg ?yyqJe ?yyqJg ?yyqJi ?yyqJh ?yyqJa ?yyqJc ?yyaC ?yyyC0 ?yyyC1 ?yyyC2 ?yyyC3 ?yyyC4 ?yyyC5 ?yyyC6 ?yyyC7 ?yyyC8 ?yypgC ?yyhdC ?yypoC ?yysaC ?yymkC ?yykcC ?yynC_base ?yynC_outset ?yynC_steps ?yynC_layers ?yyaCK ?yyyCK0 ?yyyCK1 ?yyyCK2 ?yyyCK3 ?yyyCK4 ?yyyCK5 ?yyyCK6 ?yypgCK ?yyhdCK ?yypoCK ?yysaCK ?yymkCK ?yykcCK ?yynCK_base ?yynCK_bad ?yynCK_bound ?yynCK_tails ?yyg0 ?yyg1 ?yyg2 ?yyg3 ?yyg4 ?yyz0 ?yyz1 ?yyz2 ?yyz3 ?yyz4 ?yyz5 ?yyz6 ?yyz7 ?yyz8 ?yyz9 ?yyz10 ?yyz11 ?yyz12 ?yyz13 ?yyz14 ?yyz15 ?yyz16 ?yyz17 ?yyz18
  (case yyx0=>refine' Lw.fdm ?_ ?_ ?_ ?_<;>try k_is)
  (case yyx1=>refine' Lw.fdm ?_ ?_ ?_ ?_<;>try k_is)
  (case yyx2=>refine' Lw.fdm ?_ ?_ ?_ ?_<;>try k_is)
  (case yyx3=>refine' Lw.fdm ?_ ?_ ?_ ?_<;>try k_is)
  (case yyx4=>refine' Lw.fdm ?_ ?_ ?_ ?_<;>try k_is)
  (case yyx5=>refine' Lw.fdm ?_ ?_ ?_ ?_<;>try k_is)
  (case yyx6=>refine' Lw.fdm ?_ ?_ ?_ ?_<;>try k_is)
  (case yyx7=>refine' Lw.fdm ?_ ?_ ?_ ?_<;>try k_is)
  (case yyx8=>refine' Lw.fdm ?_ ?_ ?_ ?_<;>try k_is)
  (case yyx9=>refine' Lw.fdm ?_ ?_ ?_ ?_<;>try k_is)
  (case yyx10=>refine' Lw.fdm ?_ ?_ ?_ ?_<;>try k_is)
  (case yyx11=>refine' Lw.fdm ?_ ?_ ?_ ?_<;>try k_is)
  (case yyx12=>refine' Lw.fdm ?_ ?_ ?_ ?_<;>try k_is)
  (case yyx13=>refine' Lw.fdm ?_ ?_ ?_ ?_<;>try k_is)
  (case yyx14=>refine' Lw.fdm ?_ ?_ ?_ ?_<;>try k_is)
  (case yyx15=>refine' Lw.fdm ?_ ?_ ?_ ?_<;>try k_is)
  (case yyx16=>refine' Lw.fdm ?_ ?_ ?_ ?_<;>try k_is)
  (case yyx17=>refine' Lw.fdm ?_ ?_ ?_ ?_<;>try k_is)
  (case yya18=>k_is)
  (case yyl18=>k_is)
  (case yye18=>k_is)
  (case yyk18=>k_is)
  (case yyx19=>refine' Lw.fdm ?_ ?_ ?_ ?_<;>try k_is)
  (case yyx20=>refine' Lw.fdm ?_ ?_ ?_ ?_<;>try k_is)
  (case yyx21=>refine' Lw.fdm ?_ ?_ ?_ ?_<;>try k_is)
  (case yyx22=>refine' Lw.fdm ?_ ?_ ?_ ?_<;>try k_is)
  (case yyx23=>refine' Lw.fdm ?_ ?_ ?_ ?_<;>try k_is)
  (case yyx24=>refine' Lw.fdm ?_ ?_ ?_ ?_<;>try k_is)
  (case yyx25=>refine' Lw.fdm ?_ ?_ ?_ ?_<;>try k_is)
  (case yyx26=>refine' Lw.fdm ?_ ?_ ?_ ?_<;>try k_is)
  (case yyx27=>refine' Lw.fdm ?_ ?_ ?_ ?_<;>try k_is)
  (case yyx28=>refine' Lw.fdm ?_ ?_ ?_ ?_<;>try k_is)
  (case yyx29=>refine' Lw.fdm ?_ ?_ ?_ ?_<;>try k_is)
  (case yyx30=>refine' Lw.fdm ?_ ?_ ?_ ?_<;>try k_is)
  (case yyx31=>refine' Lw.fdm ?_ ?_ ?_ ?_<;>try k_is)
  (case yyx32=>refine' Lw.fdm ?_ ?_ ?_ ?_<;>try k_is)
  (case yyx33=>refine' Lw.fdm ?_ ?_ ?_ ?_<;>try k_is)
  (case yyx34=>refine' Lw.fdm ?_ ?_ ?_ ?_<;>try k_is)
  (case yyx35=>refine' Lw.fdm ?_ ?_ ?_ ?_<;>try k_is)
  (case yyx36=>refine' Lw.fdm ?_ ?_ ?_ ?_<;>try k_is)
  (case yyx37=>refine' Lw.fdm ?_ ?_ ?_ ?_<;>try k_is)
  (case yyx38=>refine' Lw.fdm ?_ ?_ ?_ ?_<;>try k_is)
  (case yyqKh=>refine' ⟨?_,?_,?_⟩<;>try k_is)
  (case yyqLb=>refine' ⟨?_,?_,?_⟩<;>try k_is)
  (case yyqKi=>refine' ⟨?_,?_,?_⟩<;>try k_is)
  (case yyqLd=>refine' ⟨?_,?_,?_⟩<;>try k_is)
  (case yyqLf=>refine' ⟨?_,?_,?_⟩<;>try k_is)
  (case yyqKj=>refine' ⟨?_,?_,?_⟩<;>try k_is)
  (case yyqKf=>refine' ⟨?_,?_,?_⟩<;>try k_is)
  (case yyqLe=>refine' ⟨?_,?_,?_⟩<;>try k_is)
  (case yyqLg=>refine' ⟨?_,?_,?_⟩<;>try k_is)
  (case yyqLi=>refine' ⟨?_,?_,?_⟩<;>try k_is)
  (case yyqLh=>refine' ⟨?_,?_,?_⟩<;>try k_is)
  (case yyqLa=>refine' ⟨?_,?_,?_⟩<;>try k_is)
  (case yyqLc=>refine' ⟨?_,?_,?_⟩<;>try k_is)
  (case yyqKg=>refine' ⟨?_,?_,?_⟩<;>try k_is)
  (case yymLE=>k_is)
  (case yynVE=>k_is)
  (case yyqKc=>k_exc)
  (case yyqDb=>k_is)
  (case yyqBg=>refine' ⟨?_,?_,?_,?_,?_,?_,?_⟩<;>k_is)
  (case yyqMb=>k_is)
  (case yyqGb=>k_is)
  (case yyqGf=>k_is)
  (case yyqGc=>k_is)
  (case yyqGh=>k_is)
  (case yyqGj=>k_is)
  (case yyqGd=>k_is)
  (case yyqGa=>k_is)
  (case yyqGi=>k_is)
  (case yyqHa=>k_is)
  (case yyqHc=>k_is)
  (case yyqHb=>k_is)
  (case yyqGe=>k_is)
  (case yyqGg=>k_is)
  (case yyqKb=>k_exc)
  (case yyqDa=>k_is)
  (case yyqBf=>refine' ⟨?_,?_,?_,?_,?_,?_,?_⟩<;>k_is)
  (case yyqMa=>k_is)
  (case yyqEi=>k_is)
  (case yyqFc=>k_is)
  (case yyqEj=>k_is)
  (case yyqFe=>k_is)
  (case yyqFg=>k_is)
  (case yyqFa=>k_is)
  (case yyqEh=>k_is)
  (case yyqFf=>k_is)
  (case yyqFh=>k_is)
  (case yyqFj=>k_is)
  (case yyqFi=>k_is)
  (case yyqFb=>k_is)
  (case yyqFd=>k_is)
  (case yyqKa=>k_exc)
  (case yyqCj=>k_is)
  (case yyqBe=>refine' ⟨?_,?_,?_,?_,?_,?_,?_⟩<;>k_is)
  (case yyqLj=>k_is)
  (case yyqDf=>k_is)
  (case yyqDj=>k_is)
  (case yyqDg=>k_is)
  (case yyqEb=>k_is)
  (case yyqEd=>k_is)
  (case yyqDh=>k_is)
  (case yyqDe=>k_is)
  (case yyqEc=>k_is)
  (case yyqEe=>k_is)
  (case yyqEg=>k_is)
  (case yyqEf=>k_is)
  (case yyqDi=>k_is)
  (case yyqEa=>k_is)
  (case yyqKd=>k_exc)
  (case yyqDc=>k_is)
  (case yyqBh=>refine' ⟨?_,?_,?_,?_,?_,?_,?_⟩<;>k_is)
  (case yyqMc=>k_is)
  (case yyqHe=>k_is)
  (case yyqHi=>k_is)
  (case yyqHf=>k_is)
  (case yyqIa=>k_is)
  (case yyqIc=>k_is)
  (case yyqHg=>k_is)
  (case yyqHd=>k_is)
  (case yyqIb=>k_is)
  (case yyqId=>k_is)
  (case yyqIf=>k_is)
  (case yyqIe=>k_is)
  (case yyqHh=>k_is)
  (case yyqHj=>k_is)
  (case yyqKe=>k_exc)
  (case yyqDd=>k_is)
  (case yyqBi=>refine' ⟨?_,?_,?_,?_,?_,?_,?_⟩<;>k_is)
  (case yyqMd=>k_is)
  (case yyqIh=>k_is)
  (case yyqJb=>k_is)
  (case yyqIi=>k_is)
  (case yyqJd=>k_is)
  (case yyqJf=>k_is)
  (case yyqIj=>k_is)
  (case yyqIg=>k_is)
  (case yyqJe=>k_is)
  (case yyqJg=>k_is)
  (case yyqJi=>k_is)
  (case yyqJh=>k_is)
  (case yyqJa=>k_is)
  (case yyqJc=>k_is)
  (case yyaC=>k_is)
  (case yyyC0=>refine' Lw.fmm ?_ ?_ ?_ ?_ ?_<;>try k_is)
  (case yyyC1=>refine' Lw.fmm ?_ ?_ ?_ ?_ ?_<;>try k_is)
  (case yyyC2=>refine' Lw.fmm ?_ ?_ ?_ ?_ ?_<;>try k_is)
  (case yyyC3=>refine' Lw.fmm ?_ ?_ ?_ ?_ ?_<;>try k_is)
  (case yyyC4=>refine' Lw.fmm ?_ ?_ ?_ ?_ ?_<;>try k_is)
  (case yyyC5=>refine' Lw.fmm ?_ ?_ ?_ ?_ ?_<;>try k_is)
  (case yyyC6=>refine' Lw.fmm ?_ ?_ ?_ ?_ ?_<;>try k_is)
  (case yyyC7=>refine' Lw.fmm ?_ ?_ ?_ ?_ ?_<;>try k_is)
  (case yyyC8=>refine' Lw.fmm ?_ ?_ ?_ ?_ ?_<;>try k_is)
  (case yypgC=>k_is)
  (case yyhdC=>k_is)
  (case yypoC=>k_is)
  (case yysaC=>k_is)
  (case yymkC=>k_is)
  (case yykcC=>k_is)
  (case yynC_base=>k_is)
  (case yynC_outset=>k_is)
  (case yynC_steps=>k_is)
  (case yynC_layers=>k_is)
  (case yyaCK=>k_is)
  (case yyyCK0=>refine' Lw.fmm ?_ ?_ ?_ ?_ ?_<;>try k_is)
  (case yyyCK1=>refine' Lw.fmm ?_ ?_ ?_ ?_ ?_<;>try k_is)
  (case yyyCK2=>refine' Lw.fmm ?_ ?_ ?_ ?_ ?_<;>try k_is)
  (case yyyCK3=>refine' Lw.fmm ?_ ?_ ?_ ?_ ?_<;>try k_is)
  (case yyyCK4=>refine' Lw.fmm ?_ ?_ ?_ ?_ ?_<;>try k_is)
  (case yyyCK5=>refine' Lw.fmm ?_ ?_ ?_ ?_ ?_<;>try k_is)
  (case yyyCK6=>refine' Lw.fmm ?_ ?_ ?_ ?_ ?_<;>try k_is)
  (case yypgCK=>k_is)
  (case yyhdCK=>k_is)
  (case yypoCK=>k_is)
  (case yysaCK=>k_is)
  (case yymkCK=>k_is)
  (case yykcCK=>k_is)
  (case yynCK_base=>k_is)
  (case yynCK_bad=>k_is)
  (case yynCK_bound=>k_is)
  (case yynCK_tails=>k_is)
  (case yyg0=>k_is)
  (case yyg1=>k_is)
  (case yyg2=>k_is)
  (case yyg3=>k_is)
  (case yyg4=>k_is)
  (case yyz0=>k_is)
  (case yyz1=>k_is)
  (case yyz2=>k_is)
  (case yyz3=>k_is)
  (case yyz4=>k_is)
  (case yyz5=>k_is)
  (case yyz6=>k_is)
  (case yyz7=>k_is)
  (case yyz8=>k_is)
  (case yyz9=>k_is)
  (case yyz10=>k_is)
  (case yyz11=>k_is)
  (case yyz12=>k_is)
  (case yyz13=>k_is)
  (case yyz14=>k_is)
  (case yyz15=>k_is)
  (case yyz16=>k_is)
  (case yyz17=>k_is)
  (case yyz18=>k_is)
