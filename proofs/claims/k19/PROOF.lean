import PyProof.Rows.All
import Wide.All
import OpenK.AllK
import Wide.FinOn
import Lean
import PyProof.EqAt
import PyProof.EqKinds
import PyProof.TupleCall
import PyProof.NeKinds
import KE.KRevSl
import KE.KRevIter
import PyProof.ConsumeWalk
import PyProof.Rows.SumAny
import PyProof.EnumStmt
import PyProof.EnumMake
import PyProof.Rows.EnumRows
import PyProof.Rows.FactsN_abs
import PyProof.ListRange
import PyProof.FitsBits
import PyProof.Rows.IntMath
import KE.KSortAsk
import KE.KSortTup
import KE.KDictSum
import KE.KLam
import PyProof.LongRange
import PyProof.StrCalls2
import PyProof.PureStr
import PyProof.CallStr
import PyProof.StrLoop
import PyProof.StrWalks
import PyProof.RulesTry
import PyProof.StrOps
import KE.KUnpack
import PyProof.ZipIter
import PyProof.Rows.ZipGen
import PyProof.Rows.SeqMore
import PySem.Challenge.RW_lackstretch_k19_figures_of_good_ones
set_option Elab.async false
set_option linter.all false
set_option maxRecDepth 100000
abbrev Aa:List PySem.Str:=["thing"]
abbrev Ab:List PySem.Str:=["base","thing"]
abbrev Ac:List PySem.Str:=["bad","figures"]
abbrev Ad:List PySem.Str:=["base","n"]
abbrev Ae:List PySem.Str:=["self","left"]
abbrev Af:List PySem.Str:=["store","many"]
abbrev Ag:List PySem.Str:=["rule"]
abbrev Ah:List PySem.Str:=["reader","stand","left","ends","memory"]
abbrev Ai:List PySem.Str:=["reader","stand","figure"]
abbrev Aj:List PySem.Str:=["rule","n"]
abbrev Ak:List PySem.Str:=["store","base"]
abbrev Al:List PySem.Str:=["reader","stand","left","memory"]
abbrev Am:List PySem.Str:=["self","behind","figure","left"]
abbrev An:List PySem.Str:=["self","layer","place","stop"]
abbrev Ao:List PySem.Str:=["self","place","stop","left","ahead"]
abbrev Ap:List PySem.Str:=["self","rule","weights","scale","size"]
abbrev Aq:List PySem.Str:=["self","figures"]
abbrev Ar:List PySem.Str:=["reader","n"]
abbrev As:List PySem.Str:=["stretches"]
abbrev At:List PySem.Str:=["rule","stands","stand"]
abbrev Au:List PySem.Str:=["self","size"]
abbrev Av:List PySem.Str:=["base","text"]
abbrev Aw:List PySem.Str:=["found","due"]
abbrev Ax:List PySem.Str:=["stretch","figures"]
abbrev Ay:List PySem.Str:=["bad","stands","figures"]
abbrev Az:List PySem.Str:=["rule","stands"]
abbrev A0:List PySem.Str:=["self","rule"]
abbrev A1:List PySem.Str:=["weights","scale","size"]
abbrev A2:List PySem.Str:=["rule","n","figure"]
abbrev A3:List PySem.Str:=["script","many"]
abbrev A4:List PySem.Str:=["base","figures"]
abbrev A5:List PySem.Str:=["rule","n","often"]
abbrev A6:List PySem.Str:=["bad","found","stretch","size","stand"]
abbrev ZA:=List (List Int)
abbrev ZB:=List (PySem.Addr×List Int)
namespace L2
open PySem PySem.Spec PyProof.Rows
abbrev Key:=Sum Int Str
def Jf:Key->Value->Bool
 | .inl k,v=>Value.isInt k v
 | .inr x,v=>Value.isStrOf x v
def zg3 (w:World):Key->Int
 | .inl k=>hashInt k
 | .inr x=>hashStr w x
theorem xR:∀ {k:Key} {v:Value},Jf k v=true->(∃ i t,k=Sum.inl i/\v=Value.int i t)\/(∃ x t,k=Sum.inr x/\v=Value.str x t)
 | .inl i,v,h=>by
  obtain⟨t,e⟩:=Value.isInt_shape (k:=i) (v:=v) h
  exact .inl ⟨i,t,rfl,e⟩
 | .inr x,v,h=>by
  obtain⟨t,e⟩:=Value.isStrOf_shape (x:=x) (v:=v) h
  exact .inr ⟨x,t,rfl,e⟩
theorem zcJ (i:Int) (t:Tok):Jf (.inl i) (.int i t)=true:=by simp [Jf,Value.isInt]
theorem zdb (x:Str) (t:Tok):Jf (.inr x) (.str x t)=true:=by simp [Jf,Value.isStrOf]
theorem zfI (a b:Int):decide ((Sum.inl a:Key)=Sum.inl b)=(a == b):=by
 by_cases e:a=b
 ·subst e;simp
 ·have h:¬ (Sum.inl a:Key)=Sum.inl b:=λq=>e (Sum.inl.inj q)
  rw [decide_eq_false h]
  exact (beq_eq_false_iff_ne.mpr e).symm
theorem zfQ (a b:Str):decide ((Sum.inr a:Key)=Sum.inr b)=decide (a=b):=by
 by_cases e:a=b
 ·subst e;simp
 ·have h:¬ (Sum.inr a:Key)=Sum.inr b:=λq=>e (Sum.inr.inj q)
  rw [decide_eq_false h,decide_eq_false e]
theorem zfM (a:Int) (b:Str):decide ((Sum.inl a:Key)=Sum.inr b)=false:=decide_eq_false (λq=>nomatch q)
theorem zfV (a:Str) (b:Int):decide ((Sum.inr a:Key)=Sum.inl b)=false:=decide_eq_false (λq=>nomatch q)
def yF (prog:Program) (w:World):PySem.KeyKind prog w Key where
 is:=Jf
 hash:=zg3 w
 inj:=λv a b ha hb=>by
  rcases xR ha with ⟨i,t,rfl,rfl⟩ | ⟨x,t,rfl,rfl⟩
  ·rcases xR hb with ⟨j,u,rfl,e⟩ | ⟨y,u,rfl,e⟩
   ·injection e with e1 _;rw [e1]
   ·exact nomatch e
  ·rcases xR hb with ⟨j,u,rfl,e⟩ | ⟨y,u,rfl,e⟩
   ·exact nomatch e
   ·injection e with e1 _;rw [e1]
 byValue:=λk v h=>by
  rcases xR h with ⟨i,t,rfl,rfl⟩ | ⟨x,t,rfl,rfl⟩<;>rfl
 pyHash:=λhv h=>by
  rcases xR hv with ⟨i,t,rfl,rfl⟩ | ⟨x,t,rfl,rfl⟩
  ·exact wpAny_pyHash_int h
  ·exact wpAny_pyHash_str h
 eqBool:=λhu hv h=>by
  rcases xR hu with ⟨i,t,rfl,rfl⟩ | ⟨x,t,rfl,rfl⟩
  ·rcases xR hv with ⟨j,u,rfl,rfl⟩ | ⟨y,u,rfl,rfl⟩
   ·rw [zfI] at h;exact wpAny_eqBool_int h
   ·rw [zfM] at h;exact SeqAt.EqAt.int_str i t y u _ _ _ _ h
  ·rcases xR hv with ⟨j,u,rfl,rfl⟩ | ⟨y,u,rfl,rfl⟩
   ·rw [zfV] at h;exact SeqAt.EqAt.str_int x t j u _ _ _ _ h
   ·rw [zfQ] at h;exact wpAny_eqBool_str h
 «strs»:=λk x t v h=>by
  rcases xR h with ⟨i,u,rfl,e⟩ | ⟨y,u,rfl,e⟩
  ·exact nomatch e
  ·injection e with e1 _
   subst e1
   cases v<;>rfl
theorem zaO (prog:Program) (w:World) (i:Int) (t:Tok):(yF prog w).is (.inl i) (.int i t)=true:=zcJ i t
theorem zas (prog:Program) (w:World) (x:Str) (t:Tok):(yF prog w).is (.inr x) (.str x t)=true:=zdb x t
inductive V where
 | non | bl (b:Bool) | int (i:Int) | str (x:Str) | byt (b:Array UInt8) | flt (b:UInt64) | ref (a:Addr) | ty (n:String)
 deriving DecidableEq
def RelV:V->Value->Prop
 | .non,u=>u=Value.none
 | .bl b,u=>u=Value.bool b
 | .int i,u=>∃ t,u=Value.int i t
 | .str x,u=>∃ t,u=Value.str x t
 | .byt b,u=>∃ t,u=Value.bytes b t
 | .flt b,u=>∃ t,u=Value.float b t
 | .ref a,u=>u=Value.ref a
 | .ty n,u=>u=Value.type n
abbrev Vals:List V->List Value->Prop:=Paired RelV
theorem Vals.length {xs:List V} {us:List Value} (r:Vals xs us):xs.length=us.length:=Paired.length r
theorem Vals.get:∀ {xs:List V} {us:List Value} {i:Nat} {x:V},Vals xs us->xs[i]?=some x->∃ u,us[i]?=some u/\RelV x u
 | _,_,_,_,.nil,e=>by simp at e
 | _,_,0,_,.cons r _,e=>by simp at e;subst e;exact⟨_,rfl,r⟩
 | _,_,i+1,x,.cons _ t,e=>by
  obtain⟨u,h1,h2⟩:=Vals.get (i:=i) (x:=x) t (by simpa using e)
  exact⟨u,by simpa using h1,h2⟩
theorem Vals.set {x:V} {u:Value} (r:RelV x u):∀ {xs:List V} {us:List Value} (i:Nat),Vals xs us->Vals (xs.set i x) (us.set i u)
 | _,_,_,.nil=>.nil
 | _,_,0,.cons _ t=>.cons r t
 | _,_,i+1,.cons q t=>.cons q (Vals.set r i t)
theorem Vals.append:∀ {xs ys:List V} {us ws:List Value},Vals xs us->Vals ys ws->Vals (xs++ys) (us++ws)
 | _,_,_,_,.nil,s=>s
 | _,_,_,_,.cons r t,s=>.cons r (Vals.append t s)
theorem Vals.take:∀ {xs:List V} {us:List Value} (n:Nat),Vals xs us->Vals (xs.take n) (us.take n)
 | _,_,0,_=>.nil
 | _,_,_+1,.nil=>.nil
 | _,_,n+1,.cons r t=>.cons r (Vals.take n t)
theorem Vals.drop:∀ {xs:List V} {us:List Value} (n:Nat),Vals xs us->Vals (xs.drop n) (us.drop n)
 | _,_,0,r=>r
 | _,_,_+1,.nil=>.nil
 | _,_,n+1,.cons _ t=>Vals.drop n t
def RelO:Option V->Option Value->Prop
 | some v,some u=>RelV v u
 | none,none=>True
 | _,_=>False
def KV {κ:Type}:List (κ×V)->List (κ×Value)->Prop:=Paired λ(p:κ×V) (q:κ×Value)=>p.1=q.1/\RelV p.2 q.2
def kV:Key->V
 | .inl i=>.int i
 | .inr x=>.str x
inductive HO where
 | lst (xs:List V)
 | tup (xs:List V)
 | dK (kvs:List (Key×V)) | dT (kvs:List (List Key×V))
 | set (S:Int->Bool) (n:Nat)
 | ins (C dx:Addr) (fs:List (Str×V))
 | own (x:Addr)
 | xd (fs:List (Str×V))
 | met (f x:Addr)
 | rng (lo hi:Int)
 | frz (o:Obj) (u:HO)
 | tbl (ps:Array Value)
 | ext (φ:Heap->Prop)
abbrev Hp:=Addr->Option HO
def upd (H:Hp) (a:Addr) (o:HO):Hp:=λb=>if b=a then some o else H b
theorem zf {H:Hp} {a:Addr} {o:HO}:upd H a o a=some o:=by unfold upd;rw [if_pos rfl]
theorem zq {H:Hp} {a b:Addr} {o:HO} (h:b≠a):upd H a o b=H b:=by unfold upd;rw [if_neg h]
theorem ze8 {H:Hp} {a:Addr} {o u:HO}:upd (upd H a o) a u=upd H a u:=by
 funext b;unfold upd;split<;>rfl
theorem jO {H:Hp} {a b:Addr} {o u:HO} (h:H a=some o) (h':H b=some u) (d:o≠u):a≠b:=by
 intro e;subst e;rw [h] at h';exact d (Option.some.inj h')
theorem zy {H:Hp} {a b:Addr} {o:HO} (h:H a=some o) (h':H b=none):a≠b:=by
 intro e;subst e;rw [h] at h';cases h'
section
variable (P:Program) (w:World)
def ObjOk (H:Hp) (h:Heap) (a:Addr):HO->Prop
 | .lst xs=>xs.length<=sizeLine/\∃ (its:List Value) (n:Nat),Vals xs its/\h.get? a=some { cls:=.type "list",data:=.seq its.toArray n }
 | .tup xs=>xs.length<=sizeLine/\∃ its:List Value,Vals xs its/\IsTup h a its.toArray
 | .dK kvs=>kvs.length<=sizeLine/\(a == sysModules)=false/\∃ vs,KV kvs vs/\h.DictOf (yF P w) a vs
 | .dT kvs=>kvs.length<=sizeLine/\(a == sysModules)=false/\∃ xs:List (List Key×Addr×Value),
   Paired (λ(p:List Key×V) (q:List Key×Addr×Value)=>p.1=q.1/\H q.2.1=some (.tup (p.1.map kV))/\RelV p.2 q.2.2) kvs xs /\
   ∃ o es ep,h.get? a=some o/\o.ExactDict/\o.data=.dict es ep/\es.toList=xs.map (entryOfKey (tupleKind (yF P w)))/\(xs.map (·.1)).Nodup
 | .set S n=>h.SetOf (intKind P w) a S n
 | .ins C dx fs=>H dx=some (.own a)/\fs.length<=1000/\dx≠a/\h.get? a=some (W.instObj C dx) /\
   ∃ mA,h.Ns1 dx mA/\(∀ f,RelO (fs.lookup f) (mA f))/\PySem.Within mA (fs.map (·.1))
 | .own _=>∃ o,h.get? a=some o
 | .xd fs=>∃ mA,h.Ns1 a mA/\∀ f,RelO (fs.lookup f) (mA f)
 | .rng lo hi=>∃ t u v,h.get? a=some { cls:=.type "range",data:=.fields #[.int lo t,.int hi u,.int 1 v] }
 | .frz o u=>h.get? a=some o/\ObjOk H h a u
 | .tbl ps=>h.get? a=some { cls:=.none,data:=.fields ps }
 | .met f x=>h.get? a=some (W.methodObj (.ref f) (.ref x))
 | .ext φ=>φ h/\(∃ o,h.get? a=some o)/\∀ h1 h2:Heap,φ h1->(∀ o,h1.get? a=some o->h2.get? a=some o)->φ h2
def HOk (H:Hp) (h:Heap):Prop:=∀ a o,H a=some o->ObjOk P w H h a o
end
section
variable {P:Program} {w:World} {H H':Hp} {h h':Heap} {a:Addr} {o:HO}
theorem ObjOk.lt (x:ObjOk P w H h a o):a<h.objs.size:=by
 cases o with
 | lst xs=>obtain⟨_,_,_,_,e⟩:=x;exact Heap.lt_size e
 | tup xs=>obtain⟨_,_,_,p⟩:=x;exact p.lt
 | dK kvs=>obtain⟨_,_,_,_,o,_,_,e,_⟩:=x;exact Heap.lt_size e
 | dT kvs=>obtain⟨_,_,_,_,o,_,_,e,_⟩:=x;exact Heap.lt_size e
 | set S n=>obtain⟨o,_,_,_,e,_⟩:=x;exact Heap.lt_size e
 | ins C dx fs=>obtain⟨_,_,_,e,_⟩:=x;exact Heap.lt_size e
 | own y=>obtain⟨_,e⟩:=x;exact Heap.lt_size e
 | xd fs=>obtain⟨_,⟨_,_,_,e,_⟩,_⟩:=x;exact Heap.lt_size e
 | rng lo hi=>obtain⟨_,_,_,e⟩:=x;exact Heap.lt_size e
 | frz ob u=>obtain⟨e,_⟩:=x;exact Heap.lt_size e
 | tbl ps=>exact Heap.lt_size (show h.get? a=some _ from x)
 | met f y=>exact Heap.lt_size (show h.get? a=some _ from x)
 | ext φ=>obtain⟨_,⟨_,e⟩,_⟩:=x;exact Heap.lt_size e
theorem Paired.mapP {α β:Type} {F G:α->β->Prop}:∀ {l₁:List α} {l₂:List β},Paired F l₁ l₂->(∀ a b,F a b->G a b)->Paired G l₁ l₂
 | _,_,.nil,_=>.nil
 | _,_,.cons r t,f=>.cons (f _ _ r) (Paired.mapP t f)
theorem ObjOk.stay (x:ObjOk P w H h a o) (k:∀ b u,(b=a\/H b=some (.own a))->h.get? b=some u->h'.get? b=some u)
  (ho:∀ b,H b=some (.own a)->H' b=some (.own a)) (ht:∀ b xs,H b=some (.tup xs)->H' b=some (.tup xs)):ObjOk P w H' h' a o:=by
 induction o with
 | lst xs=>obtain⟨z,its,n,r,e⟩:=x;exact⟨z,its,n,r,k _ _ (.inl rfl) e⟩
 | tup xs=>obtain⟨z,its,r,ob,e,c⟩:=x;exact⟨z,its,r,ob,k _ _ (.inl rfl) e,c⟩
 | dK kvs=>obtain⟨z,y,vs,r,ob,es,ep,e,c⟩:=x;exact⟨z,y,vs,r,ob,es,ep,k _ _ (.inl rfl) e,c⟩
 | dT kvs =>
  obtain⟨z,y,xs,r,ob,es,ep,e,c⟩:=x
  exact⟨z,y,xs,Paired.mapP r λp q z=>⟨z.1,ht _ _ z.2.1,z.2.2⟩,ob,es,ep,k _ _ (.inl rfl) e,c⟩
 | set S n=>obtain⟨ob,es,ep,t,e,c⟩:=x;exact⟨ob,es,ep,t,k _ _ (.inl rfl) e,c⟩
 | ins C dx fs =>
  obtain⟨d,z,ne,e,mA,⟨od,es,ep,e2,c⟩,r⟩:=x
  exact⟨ho _ d,z,ne,k _ _ (.inl rfl) e,mA,⟨od,es,ep,k _ _ (.inr d) e2,c⟩,r⟩
 | own y=>obtain⟨ob,e⟩:=x;exact⟨ob,k _ _ (.inl rfl) e⟩
 | xd fs=>obtain⟨mA,⟨od,es,ep,e,c⟩,r⟩:=x;exact⟨mA,⟨od,es,ep,k _ _ (.inl rfl) e,c⟩,r⟩
 | rng lo hi=>obtain⟨t,u,v,e⟩:=x;exact⟨t,u,v,k _ _ (.inl rfl) e⟩
 | frz ob u ih=>obtain⟨e,q⟩:=x;exact⟨k _ _ (.inl rfl) e,ih q⟩
 | tbl ps =>
  have e:h.get? a=some { cls:=.none,data:=.fields ps }:=x
  show h'.get? a=some { cls:=.none,data:=.fields ps }
  exact k a _ (.inl rfl) e
 | met f y =>
  have e:h.get? a=some (W.methodObj (.ref f) (.ref y)):=x
  show h'.get? a=some (W.methodObj (.ref f) (.ref y))
  exact k a _ (.inl rfl) e
 | ext φ=>obtain⟨p,⟨o,e⟩,st⟩:=x;exact⟨st _ _ p λo q=>k _ _ (.inl rfl) q,⟨o,k _ _ (.inl rfl) e⟩,st⟩
theorem HOk.lt (x:HOk P w H h) (e:H a=some o):a<h.objs.size:=(x a o e).lt
theorem HOk.fresh (x:HOk P w H h) (e:h.objs.size<=a):H a=none:=by
 cases q:H a with
 | none=>rfl
 | some u=>exact absurd (Nat.lt_of_lt_of_le (x.lt q) e) (Nat.lt_irrefl _)
theorem HOk.kept (x:HOk P w H h) (k:∀ b u,h.get? b=some u->h'.get? b=some u):HOk P w H h':=λa o e =>
 (x a o e).stay (λb u _ q=>k b u q) (λ_ q=>q) λ_ _ q=>q
theorem HOk.laid (x:HOk P w H h) (k:∀ b u,h.get? b=some u->h'.get? b=some u) (hp:h.objs.size<=a) (new:ObjOk P w (upd H a o) h' a o):HOk P w (upd H a o) h':=λb u e=>by
 have hn:=x.fresh hp
 by_cases hb:b=a
 ·subst hb;rw [zf] at e;cases e;exact new
 ·rw [zq hb] at e
  exact (x b u e).stay (λc v _ q=>k c v q) (λc q=>by rw [zq (zy q hn)];exact q) λc xs q=>by rw [zq (zy q hn)];exact q
end
def Rd (H:Hp) (a:Addr) (u:HO):Prop:=H a=some u\/∃ o,H a=some (.frz o u)
theorem Rd.ok {P:Program} {w:World} {H:Hp} {h:Heap} {a:Addr} {u:HO} (r:Rd H a u) (x:HOk P w H h):ObjOk P w H h a u:=by
 rcases r with r | ⟨o,r⟩
 ·exact x a u r
 ·obtain⟨_,q⟩:=x a _ r
  exact q
def Mut:Option HO->Prop
 | some (.lst _)=>True
 | some (.dK _)=>True
 | some (.dT _)=>True
 | some (.set _ _)=>True
 | some (.ins _ _ _)=>True
 | some (.ext _)=>True
 | _=>False
section
variable {P:Program} {w:World} {H:Hp} {h h':Heap} {x e:Addr} {o':HO}
theorem HOk.write (ok:HOk P w H h) (mu:Mut (H x)) (he:e=x\/H e=some (.own x)) (k:∀ b u,b≠e->h.get? b=some u->h'.get? b=some u) (heo:∃ u,h'.get? e=some u)
  (new:ObjOk P w (upd H x o') h' x o'):HOk P w (upd H x o') h':=λb u q=>by
 have nown:∀ c y,H c=some (.own y)->c≠x:=λc y r z=>by subst z;rw [r] at mu;exact mu
 have ntup:∀ c xs,H c=some (.tup xs)->c≠x:=λc xs r z=>by subst z;rw [r] at mu;exact mu
 by_cases hb:b=x
 ·subst hb;rw [zf] at q;cases q;exact new
 ·rw [zq hb] at q
  by_cases hbe:b=e
  ·have q':H b=some (.own x):=by
    rcases he with z | z
    ·exact absurd (hbe.trans z) hb
    ·rw [hbe];exact z
   rw [q] at q';cases q'
   obtain⟨v,hv⟩:=heo
   exact⟨v,by rw [hbe];exact hv⟩
  ·refine (ok b u q).stay (λc v hc r=>k c v ?_ r) (λc r=>by rw [zq (nown c b r)];exact r) λc xs r=>by rw [zq (ntup c xs r)];exact r
   rcases hc with rfl | hc
   ·exact hbe
   ·rintro rfl
    rcases he with z | z
    ·exact nown c b hc z
    ·rw [hc] at z;cases z;exact hb rfl
end
structure Un (fs ex:List Addr) (H H':Hp) (h h':Heap):Prop where
 keep:∀ b o,h.get? b=some o->H b=none->b∉fs->b∉ex->h'.get? b=some o
 slot:∀ b o,h.get? b=some o->H b=none->b∈fs->b∉ex->∃ sl,h'.get? b=some { o with slots:=sl }
 free:∀ b o,h.get? b=some o->H b=none->b∉ex->H' b=none
 there:∀ b o,h.get? b=some o->b∉ex->∃ o',h'.get? b=some o'
 tups:∀ b xs,H b=some (.tup xs)->H' b=some (.tup xs)
 frzs:∀ b o u,H b=some (.frz o u)->H' b=some (.frz o u)
 tbls:∀ b ps,H b=some (.tbl ps)->∃ more,H' b=some (.tbl (ps++more))
section
variable {fs fs' ex ex':List Addr} {H H1 H2:Hp} {h h1 h2 h':Heap} {a x e:Addr} {o:HO}
theorem Un.any (u:Un fs ex H H1 h h1) {b:Addr} {ob:Obj} (q:h.get? b=some ob) (n:H b=none) (hx:b∉ex):∃ sl,h1.get? b=some { ob with slots:=sl }:=by
 by_cases hb:b∈fs
 ·exact u.slot b ob q n hb hx
 ·exact⟨ob.slots,u.keep b ob q n hb hx⟩
theorem Un.kept (k:∀ b u,h.get? b=some u->h'.get? b=some u):Un fs ex H H h h' :=
 ⟨λb ob q _ _ _=>k b ob q,λb ob q _ _ _=>⟨ob.slots,k b ob q⟩,λ_ _ _ n _=>n,λb ob q _=>⟨ob,k b ob q⟩,λ_ _ q=>q,λ_ _ _ q=>q,λ_ ps q=>⟨#[],by rw [q];simp⟩⟩
theorem Un.refl:Un fs ex H H h h:=Un.kept λ_ _ q=>q
theorem Un.laid (k:∀ b u,h.get? b=some u->h'.get? b=some u) (hp:h.objs.size<=a) (hn:H a=none):Un fs ex H (upd H a o) h h' where
 keep:=λb u q _ _ _=>k b u q
 slot:=λb u q _ _ _=>⟨u.slots,k b u q⟩
 free:=λb u q n _=>by rw [zq (Nat.ne_of_lt (Nat.lt_of_lt_of_le (Heap.lt_size q) hp))];exact n
 there:=λb u q _=>⟨u,k b u q⟩
 tups:=λb xs q=>by rw [zq (zy q hn)];exact q
 frzs:=λb u xs q=>by rw [zq (zy q hn)];exact q
 tbls:=λb ps q=>⟨#[],by rw [zq (zy q hn),q];simp⟩
theorem Un.write (mu:Mut (H x)) (he:e=x\/H e=some (.own x)) (k:∀ b u,b≠e->h.get? b=some u->h'.get? b=some u) (heo:∃ u,h'.get? e=some u):Un fs ex H (upd H x o) h h':=by
 have hx:∀ b,H b=none->b≠x:=λb n z=>by subst z;rw [n] at mu;exact mu
 have hb:∀ b,H b=none->b≠e:=λb n z=>by
  subst z
  rcases he with r | r
  ·exact hx b n r
  ·rw [n] at r;cases r
 have hm:∀ b u,H b=some u->¬ Mut (some u)->b≠x:=λb u q nm z=>by subst z;rw [q] at mu;exact nm mu
 refine⟨λb u q n _ _=>k b u (hb b n) q,λb u q n _ _=>⟨u.slots,k b u (hb b n) q⟩,λb u q n _=>by rw [zq (hx b n)];exact n,λb u q _=>?_,
  λb xs q=>by rw [zq (hm b _ q λz=>z)];exact q,λb u xs q=>by rw [zq (hm b _ q λz=>z)];exact q,λb ps q=>⟨#[],by rw [zq (hm b _ q λz=>z),q];simp⟩⟩
 by_cases hbe:b=e
 ·subst hbe;exact heo
 ·exact⟨u,k b u hbe q⟩
end
def trk (h:Heap) (H:Hp):List Addr:=(List.range h.objs.size).filter λa=>(H a).isSome
def QM (h:Heap) (H:Hp):Heap:=W.hideAll h (trk h H)
theorem zde (h:Heap) (H:Hp):(QM h H).objs.size=h.objs.size:=W.hideAll_size _ _
theorem zdW {h:Heap} {H:Hp} {b:Addr} {o:Obj} (e:h.get? b=some o) (n:H b=none):(QM h H).get? b=some o :=
 W.hideAll_get _ e λhm=>by
  have q:(H b).isSome=true:=(List.mem_filter.mp hm).2
  rw [n] at q;simp at q
theorem ze1 {h:Heap} {H:Hp} {b:Addr} {o:Obj} (e:(QM h H).get? b=some o):h.get? b=some o/\H b=none:=by
 have e':h.get? b=some o:=W.of_hideAll (trk h H) e
 refine⟨e',?_⟩
 cases q:H b with
 | none=>rfl
 | some x =>
  have hm:b∈trk h H:=List.mem_filter.mpr ⟨List.mem_range.mpr (Heap.lt_size e'),by simp [q]⟩
  have z:(QM h H).get? b=none:=W.hideAll_none (trk h H) hm
  rw [z] at e;cases e
def ze3 (g h:Heap) (L:Addr):List (Addr×Obj):=(List.range h.objs.size).filterMap λa=>if a=L\/(g.get? a).isSome=true then none else (h.get? a).map λo=>(a,o)
def rest (g h:Heap) (L d:Addr):List (Addr×Obj):=(ze3 g h L).filter λp=>decide (p.1≠d)
structure Mod (K:W.Frag) (mg:Str->Option Value) (base:Heap):Prop where
 kin:K.In base
 glob:base.Ns mainGlobals mg
 blt:∃ mb,base.Ns builtinsNs mb/\∀ x:Str,x ≠ "__name__"->mb x=bootBuiltins x
 nolimit:base.NoLimit
structure Cx where
 prog:Program
 w:World
 K:W.Frag
 mg:Str->Option Value
 base:Heap
 A:Around
 N:List Str
 s₀:Shared
 H₀:Hp
 env:Env
 outer:List Env
 stack:List Env
 ex:List Addr
 fn:Str->Bool
 calm:Bool
 pn:List (Addr×Obj)
 xe:Value->Shared->Prop
def frs (l:List Env):List Addr:=l.filterMap (·.frame)
abbrev Cx.fs (X:Cx):List Addr:=frs X.outer
def Vis (sc:Scope) (x:Str):Prop:=sc.names.lookup x=some .local\/sc.names.lookup x=some .cell\/sc.names.lookup x=some .free
def Loc (sc:Scope) (x:Str):Prop:=sc.names.lookup x=some .local\/sc.names.lookup x=some .cell
def Look (env:Env) (h:Heap) (m:Str->Option Value) (x:Str) (u:Value):Prop :=
 (env.kindOf x=some .local/\m x=some u)\/((env.kindOf x=some .cell\/env.kindOf x=some .free)/\∃ c,env.cells.lookup x=some c/\h.IsCell c (some u))
structure Cx.Ok (X:Cx):Prop where
 mod:Mod X.K X.mg X.base
 kind:X.env.scope.kind=.function
 glob:X.env.globals=mainGlobals
 blt:X.env.builtins=builtinsNs
 above:X.s₀.heap.objs.size<=X.env.locals
 inj:∀ x y c,X.env.cells.lookup x=some c->X.env.cells.lookup y=some c->x=y
 has:∀ x,(X.env.kindOf x=some .cell\/X.env.kindOf x=some .free)->∃ c,X.env.cells.lookup x=some c
 cab:∀ x c,X.fn x=true->X.env.cells.lookup x=some c->X.s₀.heap.objs.size<=c
 hd:X.calm=true->X.A.handled=none
 frames:X.A.frames=some X.stack
 stk:X.stack=X.outer\/(X.stack=X.env :: X.outer/\X.env.frame=some X.env.locals)
 exf:∀ b∈X.ex,b≠X.env.locals/\∀ x c,X.env.cells.lookup x=some c->c≠b
 bs:∀ b o,X.base.get? b=some o->X.s₀.heap.get? b=some o/\X.H₀ b=none
 bsz:X.base.objs.size<=X.s₀.heap.objs.size
 noex:∀ b o,X.base.get? b=some o->b∉X.ex
 exfs:∀ b∈X.ex,b∉X.fs
 funs:X.s₀.heap.FunFrames X.base X.outer
 frf:∀ b∈X.fs,X.H₀ b=none
structure Inv (X:Cx) (pins:List (Addr×Obj)) (Z:List (Option V)) (H:Hp) (s:Shared):Prop where
 ok:X.Ok
 os:s.os=X.s₀.os
 bare:AllBare s.gens
 base:Un X.fs X.ex X.H₀ H X.s₀.heap s.heap
 loc:∃ m,s.heap.Ns X.env.locals m/\∀ (i:Nat) (x:Str) (v:V),X.N[i]?=some x->Z[i]?=some (some v)->Vis X.env.scope x->∃ u,RelV v u/\Look X.env s.heap m x u
 cell:∀ x c,X.env.cells.lookup x=some c->∃ v,s.heap.IsCell c v
 free:H X.env.locals=none
 freeC:∀ x c,X.env.cells.lookup x=some c->H c=none
 pin:∀ p∈X.pn++pins,s.heap.get? p.1=some p.2/\H p.1=none/\p.1≠X.env.locals/\p.1∉X.fs/\∀ v,p.2.data≠.cell v
 hok:HOk X.prog X.w H s.heap
 len:Z.length=X.N.length
section
variable {X:Cx} {pins:List (Addr×Obj)} {Z:List (Option V)} {H H':Hp} {s:Shared} {h':Heap}
theorem Cx.Ok.nofr (ok:X.Ok) {b:Addr} {o:Obj} (e:X.base.get? b=some o):b∉X.fs:=λhb=>by
 have:=(ok.funs.mem hb).1
 rw [e] at this;cases this
theorem Inv.bs (I:Inv X pins Z H s):∀ b o,X.base.get? b=some o->s.heap.get? b=some o/\H b=none:=λb o e =>
 ⟨I.base.keep b o (I.ok.bs b o e).1 (I.ok.bs b o e).2 (I.ok.nofr e) (I.ok.noex b o e),I.base.free b o (I.ok.bs b o e).1 (I.ok.bs b o e).2 (I.ok.noex b o e)⟩
theorem Inv.bk (I:Inv X pins Z H s):∀ b o,X.base.get? b=some o->s.heap.get? b=some o:=λb o e=>(I.bs b o e).1
theorem Inv.mod (I:Inv X pins Z H s):Mod X.K X.mg X.base:=I.ok.mod
theorem Inv.kIn (I:Inv X pins Z H s):X.K.In s.heap:=I.ok.mod.kin.keeps I.bk
theorem Inv.nolimit (I:Inv X pins Z H s):s.heap.NoLimit:=I.ok.mod.nolimit.keeps I.bk
theorem Inv.fr (I:Inv X pins Z H s):∃ m,Fr X.base X.env.locals s.heap m :=
 let ⟨m,hn,_⟩:=I.loc
 ⟨m,hn,I.bk,Nat.le_trans I.ok.bsz I.ok.above⟩
theorem Inv.lt (I:Inv X pins Z H s):X.env.locals<s.heap.objs.size:=let ⟨_,hn,_⟩:=I.loc;hn.lt
theorem Inv.sz (I:Inv X pins Z H s):X.s₀.heap.objs.size<=s.heap.objs.size:=Nat.le_trans I.ok.above (Nat.le_of_lt I.lt)
theorem Inv.nofs (I:Inv X pins Z H s) {a:Addr} (h:s.heap.objs.size<=a):a∉X.fs:=λhb=>by
 obtain⟨_,o,ho,_⟩:=I.ok.funs.mem hb
 exact absurd (Nat.lt_of_lt_of_le (Heap.lt_size ho) (Nat.le_trans I.sz h)) (Nat.lt_irrefl _)
theorem Inv.cne (I:Inv X pins Z H s):∀ x c,X.env.cells.lookup x=some c->c≠X.env.locals:=λx c e z=>by
 obtain⟨v,o,ho,hd⟩:=I.cell x c e
 obtain⟨m,⟨o',es,ep,ho',hd',_⟩,_⟩:=I.loc
 rw [z,ho'] at ho;cases ho;rw [hd'] at hd;cases hd
theorem Inv.funs (I:Inv X pins Z H s):s.heap.FunFrames X.base X.outer:=by
 have all:∀ (l:List Env),(∀ b∈frs l,b∈X.fs)->X.s₀.heap.FunFrames X.base l->s.heap.FunFrames X.base l:=by
  intro l
  induction l with
  | nil=>intro _ _;trivial
  | cons env r ih =>
   intro hs hl
   obtain⟨hk,⟨L,o,hf,hn,ho,hd⟩,hr⟩:=hl
   have hL:L∈X.fs:=hs L (by unfold frs;rw [List.filterMap_cons,hf];exact List.mem_cons_self)
   obtain⟨sl,e⟩:=I.base.slot L o ho (I.ok.frf L hL) hL λz=>I.ok.exfs L z hL
   exact⟨hk,⟨L,_,hf,hn,e,hd⟩,ih (λb hb=>hs b (by unfold frs;rw [List.filterMap_cons,hf];exact List.mem_cons_of_mem _ hb)) hr⟩
 exact all X.outer (λ_ hb=>hb) I.ok.funs
theorem Inv.stack (I:Inv X pins Z H s):s.heap.FunFrames X.base X.stack:=by
 rcases I.ok.stk with e | ⟨e,hf⟩
 ·rw [e];exact I.funs
 ·rw [e]
  obtain⟨m,hn,_⟩:=I.loc
  refine .cons (by rw [I.ok.kind];decide) hf hn ?_ I.funs
  exact Heap.get?_none_of_le (Nat.le_trans I.ok.bsz I.ok.above)
theorem Inv.stkSub (I:Inv X pins Z H s):∀ b∈frs X.stack,b∈X.env.locals :: X.fs:=λb hb=>by
 rcases I.ok.stk with e | ⟨e,hf⟩
 ·rw [e] at hb;exact List.mem_cons_of_mem _ hb
 ·rw [e] at hb
  unfold frs at hb
  rw [List.filterMap_cons,hf] at hb
  exact hb
theorem Inv.stkFree (I:Inv X pins Z H s):∀ b∈frs X.stack,H b=none:=λb hb=>by
 rcases List.mem_cons.mp (I.stkSub b hb) with e | hb
 ·rw [e];exact I.free
 ·obtain⟨_,o,ho,_⟩:=I.ok.funs.mem hb
  exact I.base.free b o ho (I.ok.frf b hb) λz=>I.ok.exfs b z hb
theorem Inv.step {g':Array GenState} {t':Nat} {d':Drawn} {ch:List Addr} (I:Inv X pins Z H s)
  (hch:∀ b∈ch,(b∈X.ex\/X.s₀.heap.objs.size<=b)/\b≠X.env.locals/\(∀ x c,X.env.cells.lookup x=some c->c≠b)/\∀ p∈X.pn++pins,p.1≠b)
  (keep:∀ b o,b≠X.env.locals->b∉X.fs->b∉ch->s.heap.get? b=some o->H b=none->h'.get? b=some o)
  (slot:∀ b o,b≠X.env.locals->b∈X.fs->b∉ch->s.heap.get? b=some o->H b=none->∃ sl,h'.get? b=some { o with slots:=sl }) (free:∀ b o,b∉ch->s.heap.get? b=some o->H b=none->H' b=none)
  (there:∀ b o,b∉ch->s.heap.get? b=some o->∃ o',h'.get? b=some o')
  (tups:∀ b xs,H b=some (.tup xs)->H' b=some (.tup xs)) (frzs:∀ b o u,H b=some (.frz o u)->H' b=some (.frz o u)) (tbls:∀ b ps,H b=some (.tbl ps)->∃ more,H' b=some (.tbl (ps++more)))
  (ns:∀ m,s.heap.Ns X.env.locals m->h'.Ns X.env.locals m) (hok:HOk X.prog X.w H' h') (hg:AllBare g') :
  Inv X pins Z H' { s with heap:=h',gens:=g',drawn:=d',toks:=t' }:=by
 have neL:∀ b o,X.s₀.heap.get? b=some o->b≠X.env.locals:=λb o e=>Nat.ne_of_lt (Nat.lt_of_lt_of_le (Heap.lt_size e) I.ok.above)
 have neC:∀ b o,X.s₀.heap.get? b=some o->b∉X.ex->b∉ch:=λb o e hx hb=>by
  rcases (hch b hb).1 with z | z
  ·exact hx z
  ·exact absurd (Nat.lt_of_lt_of_le (Heap.lt_size e) z) (Nat.lt_irrefl _)
 have cellK:∀ x c,X.env.cells.lookup x=some c->∀ v,s.heap.IsCell c v->h'.IsCell c v:=λx c e v ⟨o,ho,hd⟩=>by
  have nch:c∉ch:=λz=>(hch c z).2.2.1 x c e rfl
  by_cases hc:c∈X.fs
  ·obtain⟨sl,q⟩:=slot c o (I.cne x c e) hc nch ho (I.freeC x c e)
   exact⟨_,q,hd⟩
  ·exact⟨o,keep c o (I.cne x c e) hc nch ho (I.freeC x c e),hd⟩
 refine⟨I.ok,I.os,hg,⟨λb o e n hb hx=>?_,λb o e n hb hx=>?_,λb o e n hx=>?_,λb o e hx=>?_,λb xs e=>tups b xs (I.base.tups b xs e),λb o xs e=>frzs b o xs (I.base.frzs b o xs e),λb ps e=>?_⟩,?_,λx c e=>?_,?_,λx c e=>?_,λp hp=>?_,hok,I.len⟩
 ·exact keep b o (neL b o e) hb (neC b o e hx) (I.base.keep b o e n hb hx) (I.base.free b o e n hx)
 ·obtain⟨sl,e1⟩:=I.base.slot b o e n hb hx
  obtain⟨sl',e2⟩:=slot b _ (neL b o e) hb (neC b o e hx) e1 (I.base.free b o e n hx)
  exact⟨sl',e2⟩
 ·obtain⟨o',e1⟩:=I.base.there b o e hx
  exact free b o' (neC b o e hx) e1 (I.base.free b o e n hx)
 ·obtain⟨o',e1⟩:=I.base.there b o e hx
  exact there b o' (neC b o e hx) e1
 ·obtain⟨m1,e1⟩:=I.base.tbls b ps e
  obtain⟨m2,e2⟩:=tbls b _ e1
  exact⟨m1++m2,by rw [e2,Array.append_assoc]⟩
 ·obtain⟨m,hn,hl⟩:=I.loc
  refine⟨m,ns m hn,λi x v e1 e2 e3=>?_⟩
  obtain⟨u,r,l⟩:=hl i x v e1 e2 e3
  refine⟨u,r,?_⟩
  rcases l with l | ⟨k,c,e,z⟩
  ·exact .inl l
  ·exact .inr ⟨k,c,e,cellK x c e _ z⟩
 ·obtain⟨v,z⟩:=I.cell x c e
  exact⟨v,cellK x c e v z⟩
 ·obtain⟨m,⟨o,_,_,ho,_⟩,_⟩:=I.loc
  exact free _ o (λz=>(hch _ z).2.1 rfl) ho I.free
 ·obtain⟨v,o,ho,hd⟩:=I.cell x c e
  exact free c o (λz=>(hch c z).2.2.1 x c e rfl) ho (I.freeC x c e)
 ·obtain⟨e,n,ne,nf,d⟩:=I.pin p hp
  have nch:p.1∉ch:=λz=>(hch p.1 z).2.2.2 p hp rfl
  exact⟨keep p.1 p.2 ne nf nch e n,free p.1 p.2 nch e n,ne,nf,d⟩
theorem Inv.un {t':Nat} (I:Inv X pins Z H s) (u:Un X.fs [] H H' s.heap h') (hok:HOk X.prog X.w H' h'):Inv X pins Z H' { s with heap:=h',toks:=t' }:=by
 obtain⟨m,⟨o,es,ep,ho,r⟩,_⟩:=id I.loc
 obtain⟨sl,hL⟩:=u.any ho I.free (by simp)
 exact I.step (g':=s.gens) (d':=s.drawn) (ch:=[]) (λ_ z=>nomatch z) (λb o _ hb _ e n=>u.keep b o e n hb (by simp)) (λb o _ hb _ e n=>u.slot b o e n hb (by simp)) (λb o _ e n=>u.free b o e n (by simp)) (λb o _ e=>u.there b o e (by simp)) u.tups u.frzs u.tbls (λm' hm=>by
  obtain⟨o',es',ep',ho',r'⟩:=hm
  rw [ho] at ho';cases ho'
  exact⟨_,es',ep',hL,r'⟩) hok I.bare
theorem Inv.call {g':Array GenState} {t':Nat} {d':Drawn} {ch:List Addr} (I:Inv X pins Z H s) (u:Un (frs X.stack) ch H H' s.heap h') (hok:HOk X.prog X.w H' h') (hg:AllBare g')
  (hch:∀ b∈ch,(b∈X.ex\/X.s₀.heap.objs.size<=b)/\b≠X.env.locals/\(∀ x c,X.env.cells.lookup x=some c->c≠b)/\∀ p∈X.pn++pins,p.1≠b) :
  Inv X pins Z H' { s with heap:=h',gens:=g',drawn:=d',toks:=t' }:=by
 obtain⟨m,⟨o,es,ep,ho,r⟩,_⟩:=id I.loc
 obtain⟨sl,hL⟩:=u.any ho I.free λz=>(hch _ z).2.1 rfl
 exact I.step (ch:=ch) hch (λb o hL hb hc e n=>u.keep b o e n (λz=>(List.mem_cons.mp (I.stkSub b z)).elim hL hb) hc) (λb o _ _ hc e n=>u.any e n hc) (λb o hc e n=>u.free b o e n hc) (λb o hc e=>u.there b o e hc) u.tups u.frzs u.tbls (λm' hm=>by
  obtain⟨o',es',ep',ho',r'⟩:=hm
  rw [ho] at ho';cases ho'
  exact⟨_,es',ep',hL,r'⟩) hok hg
theorem Inv.turned {t':Nat} {it:Addr} (I:Inv X pins Z H s) (k:∀ b o,b≠it->s.heap.get? b=some o->h'.get? b=some o) (hn:H it=none) (hL:it≠X.env.locals)
  (h1:it∈X.ex\/X.s₀.heap.objs.size<=it) (h2:∀ x c,X.env.cells.lookup x=some c->c≠it) (h3:∀ p∈X.pn++pins,p.1≠it):Inv X pins Z H { s with heap:=h',toks:=t' }:=by
 have nit:∀ b u,H b=some u->b≠it:=λb u e z=>by rw [z,hn] at e;cases e
 refine I.step (g':=s.gens) (d':=s.drawn) (ch:=[it]) (λb hb=>?_) (λb o _ _ hc e _=>k b o (λz=>hc (by simp [z])) e) (λb o _ _ hc e _=>⟨o.slots,k b o (λz=>hc (by simp [z])) e⟩) (λ_ _ _ _ n=>n)
  (λb o hc e=>⟨o,k b o (λz=>hc (by simp [z])) e⟩) (λ_ _ e=>e) (λ_ _ _ e=>e) (λb ps e=>⟨#[],by rw [e];simp⟩) (λm hm=>?_) (λb u e=>?_) I.bare
 ·have e:b=it:=by simpa using hb
  subst e
  exact⟨h1,hL,h2,h3⟩
 ·obtain⟨o,es,ep,ho,r⟩:=hm
  exact⟨o,es,ep,k _ o (Ne.symm hL) ho,r⟩
 ·refine (I.hok b u e).stay (λc v hc q=>k c v ?_ q) (λ_ q=>q) λ_ _ q=>q
  rcases hc with z | z
  ·rw [z];exact nit b u e
  ·exact nit c _ z
theorem Inv.tok (I:Inv X pins Z H s) (t:Nat):Inv X pins Z H { s with toks:=t }:=I.un (h':=s.heap) (t':=t) Un.refl I.hok
theorem Inv.kept {t':Nat} (I:Inv X pins Z H s) (k:∀ b u,s.heap.get? b=some u->h'.get? b=some u):Inv X pins Z H { s with heap:=h',toks:=t' }:=I.un (Un.kept k) (I.hok.kept k)
theorem Inv.laid {a:Addr} {o:HO} {t':Nat} (I:Inv X pins Z H s) (k:∀ b u,s.heap.get? b=some u->h'.get? b=some u) (hp:s.heap.objs.size<=a) (new:ObjOk X.prog X.w (upd H a o) h' a o) :
  Inv X pins Z (upd H a o) { s with heap:=h',toks:=t' }:=I.un (Un.laid k hp (I.hok.fresh hp)) (I.hok.laid k hp new)
theorem Inv.write {x e:Addr} {o:HO} {t':Nat} (I:Inv X pins Z H s) (mu:Mut (H x)) (he:e=x\/H e=some (.own x)) (k:∀ b u,b≠e->s.heap.get? b=some u->h'.get? b=some u) (heo:∃ u,h'.get? e=some u)
  (new:ObjOk X.prog X.w (upd H x o) h' x o):Inv X pins Z (upd H x o) { s with heap:=h',toks:=t' }:=I.un (Un.write mu he k heo) (I.hok.write mu he k heo new)
theorem Inv.weak {σ':List (Option V)} (I:Inv X pins Z H s) (hl:σ'.length=Z.length) (w:∀ (i:Nat) v,σ'[i]?=some (some v)->Z[i]?=some (some v)):Inv X pins σ' H s :=
 ⟨I.ok,I.os,I.bare,I.base,let ⟨m,hn,hl'⟩:=I.loc;⟨m,hn,λi x v e1 e2 e3=>hl' i x v e1 (w i v e2) e3⟩,I.cell,I.free,I.freeC,I.pin,I.hok,hl.trans I.len⟩
theorem Inv.pins_of {pins':List (Addr×Obj)} (I:Inv X pins Z H s) (h:∀ p∈pins',s.heap.get? p.1=some p.2/\H p.1=none/\p.1≠X.env.locals/\p.1∉X.fs/\∀ v,p.2.data≠.cell v):Inv X pins' Z H s :=
 ⟨I.ok,I.os,I.bare,I.base,I.loc,I.cell,I.free,I.freeC,λp hp=>(List.mem_append.mp hp).elim (λz=>I.pin p (List.mem_append_left _ z)) (h p),I.hok,I.len⟩
theorem zaP {N:List Str} (hN:N.Nodup) {i j:Nat} {x:Str} (a:N[i]?=some x) (b:N[j]?=some x):i=j:=by
 obtain⟨h1,e1⟩:=List.getElem?_eq_some_iff.mp a
 obtain⟨h2,e2⟩:=List.getElem?_eq_some_iff.mp b
 exact (List.getElem_inj hN).mp (e1.trans e2.symm)
theorem Xl {M:Model} {A:Around} {E:Value->Shared->Prop} {i:Nat} {x:Str} {v:V} {u:Value} {Q:Unit->Shared->Prop} (I:Inv X pins Z H s) (hN:X.N.Nodup) (hi:X.N[i]?=some x) (hx:Loc X.env.scope x) (r:RelV v u)
  (h:∀ s',Inv X pins (Z.set i (some v)) H s'->(∃ a,Heap.SameBut a s.heap s'.heap/\(a=X.env.locals\/X.env.cells.lookup x=some a))->Q () s') (hf:X.fn x=true\/X.env.scope.names.lookup x=some .local:=by first | exact .inl rfl | exact .inr rfl | assumption):wpAny M A (storeName X.env x u) Q E s:=by
 obtain⟨m,hn,hl⟩:=id I.loc
 have hcls:(X.env.scope.kind == .class || (X.env.scope.kind == .module && X.env.locals != X.env.globals))=false:=by rw [I.ok.kind];rfl
 have hiσ:i<Z.length:=by rw [I.len];exact (List.getElem?_eq_some_iff.mp hi).1
 have cne:=I.cne
 have tracked:∀ {a:Addr} {h':Heap},(∃ o,s.heap.get? a=some o/\H a=none)->Heap.SameBut a s.heap h'->HOk X.prog X.w H h':=λ{a h'} ha hs b ob e=>by
  obtain⟨_,_,hfree⟩:=ha
  refine (I.hok b ob e).stay (λc w' hc q=>(hs.2 c ?_).trans q) (λ_ q=>q) λ_ _ q=>q
  rintro rfl
  rcases hc with rfl | hc
  ·rw [hfree] at e;cases e
  ·rw [hfree] at hc;cases hc
 rcases hx with hk | hk
 ·refine wpAny_storeName_local hk hn (λh' hn' hs=>?_) hcls
  obtain⟨oL,_,_,hoL,_⟩:=id hn
  refine h _ ⟨I.ok,I.os,I.bare,⟨λb o e n hb hx=>?_,λb o e n hb hx=>?_,I.base.free,λb o e hx=>?_,I.base.tups,I.base.frzs,I.base.tbls⟩,⟨_,hn',λj y v' e1 e2 e3=>?_⟩,λy c e=>?_,I.free,I.freeC,λp hp=>?_,tracked ⟨oL,hoL,I.free⟩ hs,by simpa using I.len⟩ ⟨_,hs,.inl rfl⟩
  ·exact (hs.2 b (Nat.ne_of_lt (Nat.lt_of_lt_of_le (Heap.lt_size e) I.ok.above))).trans (I.base.keep b o e n hb hx)
  ·obtain⟨sl,e1⟩:=I.base.slot b o e n hb hx
   exact⟨sl,(hs.2 b (Nat.ne_of_lt (Nat.lt_of_lt_of_le (Heap.lt_size e) I.ok.above))).trans e1⟩
  ·obtain⟨o',e1⟩:=I.base.there b o e hx
   exact⟨o',(hs.2 b (Nat.ne_of_lt (Nat.lt_of_lt_of_le (Heap.lt_size e) I.ok.above))).trans e1⟩
  ·by_cases hj:j=i
   ·subst hj
    rw [hi] at e1;cases e1
    rw [List.getElem?_set_self hiσ] at e2
    cases e2
    exact⟨u,r,.inl ⟨hk,by simp⟩⟩
   ·rw [List.getElem?_set_ne (Ne.symm hj)] at e2
    obtain⟨u',r',q⟩:=hl j y v' e1 e2 e3
    refine⟨u',r',?_⟩
    rcases q with ⟨k,e⟩ | ⟨k,c,e,z⟩
    ·refine .inl ⟨k,?_⟩
     have:y≠x:=λe=>hj (zaP hN e1 (e▸hi))
     simp [this,e]
    ·exact .inr ⟨k,c,e,z.sameBut hs (cne y c e)⟩
  ·obtain⟨w',z⟩:=I.cell y c e
   exact⟨w',z.sameBut hs (cne y c e)⟩
  ·obtain⟨e,n,ne,nf,d⟩:=I.pin p hp
   exact⟨(hs.2 p.1 ne).trans e,n,ne,nf,d⟩
 ·have hfn:X.fn x=true:=by
   rcases hf with z | z
   ·exact z
   ·rw [z] at hk;cases hk
  obtain⟨c,hc⟩:=I.ok.has x (.inl hk)
  obtain⟨w',z⟩:=I.cell x c hc
  refine wpAny_storeName_cell I.ok.kind hk hc z (λh' hc' hs=>?_)
  obtain⟨oc,hoc,hocd⟩:=id z
  refine h { s with heap:=h' } ⟨I.ok,I.os,I.bare,⟨λb o e n hb hx=>?_,λb o e n hb hx=>?_,I.base.free,λb o e hx=>?_,I.base.tups,I.base.frzs,I.base.tbls⟩,⟨m,hn.sameBut hs (Ne.symm (cne x c hc)),λj y v' e1 e2 e3=>?_⟩,λy c' e=>?_,I.free,I.freeC,λp hp=>?_,tracked ⟨oc,hoc,I.freeC x c hc⟩ hs,by simpa using I.len⟩ ⟨c,hs,.inr hc⟩
  ·exact (hs.2 b (Nat.ne_of_lt (Nat.lt_of_lt_of_le (Heap.lt_size e) (I.ok.cab x c hfn hc)))).trans (I.base.keep b o e n hb hx)
  ·obtain⟨sl,e1⟩:=I.base.slot b o e n hb hx
   exact⟨sl,(hs.2 b (Nat.ne_of_lt (Nat.lt_of_lt_of_le (Heap.lt_size e) (I.ok.cab x c hfn hc)))).trans e1⟩
  ·obtain⟨o',e1⟩:=I.base.there b o e hx
   exact⟨o',(hs.2 b (Nat.ne_of_lt (Nat.lt_of_lt_of_le (Heap.lt_size e) (I.ok.cab x c hfn hc)))).trans e1⟩
  ·by_cases hj:j=i
   ·subst hj
    rw [hi] at e1;cases e1
    rw [List.getElem?_set_self hiσ] at e2
    cases e2
    exact⟨u,r,.inr ⟨.inl hk,c,hc,hc'⟩⟩
   ·rw [List.getElem?_set_ne (Ne.symm hj)] at e2
    obtain⟨u',r',q⟩:=hl j y v' e1 e2 e3
    refine⟨u',r',?_⟩
    rcases q with q | ⟨k,c',e,z'⟩
    ·exact .inl q
    ·refine .inr ⟨k,c',e,z'.sameBut hs ?_⟩
     rintro rfl
     exact hj (zaP hN e1 (I.ok.inj _ _ _ e hc▸hi))
  ·by_cases hcc:c'=c
   ·subst hcc;exact⟨_,hc'⟩
   ·obtain⟨w2,z2⟩:=I.cell y c' e
    exact⟨w2,z2.sameBut hs hcc⟩
  ·obtain⟨e,n,ne,nf,d⟩:=I.pin p hp
   refine⟨(hs.2 p.1 ?_).trans e,n,ne,nf,d⟩
   intro q
   rw [q,hoc] at e
   have q':oc=p.2:=Option.some.inj e
   exact d w' (by rw [<- q'];exact hocd)
theorem U9 {M:Model} {A:Around} {E:Value->Shared->Prop} {i:Nat} {x:Str} {v:V} {u:Value} {Q:Unit->Shared->Prop} (I:Inv X pins Z H s) (hN:X.N.Nodup) (hi:X.N[i]?=some x) (hx:Loc X.env.scope x) (r:RelV v u)
  (h:∀ s',Inv X pins (Z.set i (some v)) H s'->Q () s') (hf:X.fn x=true\/X.env.scope.names.lookup x=some .local:=by first | exact .inl rfl | exact .inr rfl | assumption):wpAny M A (storeName X.env x u) Q E s :=
 Xl I hN hi hx r (λs' I' _=>h s' I') hf
theorem Inv.call' {s':Shared} {ch:List Addr} (I:Inv X pins Z H s) (ho:s'.os=s.os) (u:Un (frs X.stack) ch H H' s.heap s'.heap) (hok:HOk X.prog X.w H' s'.heap) (hg:AllBare s'.gens)
  (hch:∀ b∈ch,(b∈X.ex\/X.s₀.heap.objs.size<=b)/\b≠X.env.locals/\(∀ x c,X.env.cells.lookup x=some c->c≠b)/\∀ p∈X.pn++pins,p.1≠b):Inv X pins Z H' s':=by
 obtain⟨h',g',d',t',o'⟩:=s'
 have e:o'=s.os:=ho
 subst e
 exact I.call (g':=g') (t':=t') (d':=d') u hok hg hch
end
abbrev XK:=Value->Option Addr->Hp->Prop
abbrev St:=List (Option V)
abbrev VK:=V->Hp->Prop
abbrev TE:=St->Hp->VK->Prop
abbrev TT:=St->Hp->(Bool->Hp->Prop)->Prop
abbrev TA:=St->Hp->(List V->Hp->Prop)->Prop
structure Ends where
 nx:St->Hp->Prop
 rt:VK
 bk:St->Hp->Prop:=λ_ _=>False
 ct:St->Hp->Prop:=λ_ _=>False
abbrev TS:=Ends->St->Hp->Prop
def EP (X:Cx) (pins:List (Addr×Obj)) (Z:St) (Q:VK) (u:Value) (s':Shared):Prop:=∃ v H',Inv X pins Z H' s'/\RelV v u/\Q v H'
def TP (X:Cx) (pins:List (Addr×Obj)) (Z:St) (Q:Bool->Hp->Prop) (b:Bool) (s':Shared):Prop:=∃ H',Inv X pins Z H' s'/\Q b H'
def AP (X:Cx) (pins:List (Addr×Obj)) (Z:St) (Q:List V->Hp->Prop) (us:List Value) (s':Shared):Prop:=∃ vs H',Inv X pins Z H' s'/\Vals vs us/\Q vs H'
def SP (X:Cx) (pins:List (Addr×Obj)) (D:Ends) (f:Flow) (s':Shared):Prop :=
 match f with
 | .next=>∃ σ' H',Inv X pins σ' H' s'/\D.nx σ' H'
 | .brk=>∃ σ' H',Inv X pins σ' H' s'/\D.bk σ' H'
 | .cont=>∃ σ' H',Inv X pins σ' H' s'/\D.ct σ' H'
 | .ret u=>∃ v σ' H',Inv X pins σ' H' s'/\RelV v u/\D.rt v H'
def PE (X:Cx) (e:Expr) (t:TE):Prop :=
 ∀ (pins:List (Addr×Obj)) (s:Shared) (Z:St) (H:Hp) (Q:VK),Inv X pins Z H s->t Z H Q->wpAny (model X.prog X.w) X.A (eval e X.env) (EP X pins Z Q) X.xe s
def PT (X:Cx) (e:Expr) (t:TT):Prop :=
 ∀ (pins:List (Addr×Obj)) (s:Shared) (Z:St) (H:Hp) (Q:Bool->Hp->Prop),Inv X pins Z H s->t Z H Q->wpAny (model X.prog X.w) X.A (isTrue e X.env (eval e X.env)) (TP X pins Z Q) X.xe s
def PW (X:Cx) (e:Expr) (t:TT):Prop :=
 ∀ (whole:Sem Value) (pins:List (Addr×Obj)) (s:Shared) (Z:St) (H:Hp) (Q:Bool->Hp->Prop),Inv X pins Z H s->t Z H Q->wpAny (model X.prog X.w) X.A (isTrue e X.env whole) (TP X pins Z Q) X.xe s
theorem PW.pt {X:Cx} {e:Expr} {t:TT} (h:PW X e t):PT X e t:=h _
def PA (X:Cx) (es:List Expr) (t:TA):Prop :=
 ∀ (pos:Pos) (pins:List (Addr×Obj)) (s:Shared) (Z:St) (H:Hp) (Q:List V->Hp->Prop),Inv X pins Z H s->t Z H Q->wpAny (model X.prog X.w) X.A (spliced (backTo pos (starEach es X.env))) (AP X pins Z Q) X.xe s
def PS (X:Cx) (st:Stmt) (t:TS):Prop :=
 ∀ (pins:List (Addr×Obj)) (s:Shared) (Z:St) (H:Hp) (D:Ends),Inv X pins Z H s->t D Z H->wpAny (model X.prog X.w) X.A (exec st X.env) (SP X pins D) X.xe s
def PSs (X:Cx) (st:List Stmt) (t:TS):Prop :=
 ∀ (pins:List (Addr×Obj)) (s:Shared) (Z:St) (H:Hp) (D:Ends),Inv X pins Z H s->t D Z H->wpAny (model X.prog X.w) X.A (execs st X.env) (SP X pins D) X.xe s
theorem thn {α:Type} {t:Sem α} {Q Q':α->Shared->Prop} {M:Model} {A:Around} {E:Value->Shared->Prop} {s:Shared} (h:wpAny M A t Q E s) (hQ:∀ a s,Q a s->Q' a s):wpAny M A t Q' E s:=wpAny_mono h hQ λ_ _ x=>x
section
variable {X:Cx}
def zgM (i:Nat):TE:=λZ H Q=>∃ v,Z[i]?=some (some v)/\Q v H
def tC (v:V):TE:=λ_ H Q=>Q v H
theorem zga {i:Nat} {x:Str} {pos:Pos} (hN:X.N[i]?=some x) (hv:Vis X.env.scope x) (hd:(x == ("__debug__" : Str))=false:=by decide) (hcd:(x == ("__classdict__" : Str))=false:=by decide):PE X (.Name x pos) (zgM i):=by
 intro pins s Z H Q I h
 obtain⟨v,e,h⟩:=h
 obtain⟨m,hn,hl⟩:=I.loc
 obtain⟨u,r,l⟩:=hl i x v hN e hv
 have fin:EP X pins Z Q u s:=⟨v,H,I,r,h⟩
 rcases l with ⟨hk,hm⟩ | ⟨hk,c,hc,hcell⟩
 ·exact wpAny_Name (wpAny_loadName_local I.ok.kind hk hn hm fin) hd
 ·rcases hk with hk | hk
  ·exact wpAny_Name (wpAny_loadName_cell I.ok.kind hk hc hcell fin) hd
  ·exact wpAny_Name (wpAny_loadName_free I.ok.kind hk hc hcell fin hcd) hd
theorem zm {i j pos}:PE X (.Constant (.int i) j pos) (tC (.int i)):=λ_ _ _ H _ I h=>wpAny_Constant_int ⟨.int i,H,I.tok _,⟨_,rfl⟩,h⟩
theorem XH {b j pos}:PE X (.Constant (.bool b) j pos) (tC (.bl b)):=λ_ _ _ H _ I h=>Constant_bool ⟨.bl b,H,I,rfl,h⟩
theorem jW {j pos}:PE X (.Constant .none j pos) (tC .non):=λ_ _ _ H _ I h=>Constant_none ⟨.non,H,I,rfl,h⟩
theorem zfX {x j pos}:PE X (.Constant (.str x) j pos) (tC (.str x)):=λ_ _ _ H _ I h=>Calls.Constant_str ⟨.str x,H,I.tok _,⟨_,rfl⟩,h⟩
def Gl (X:Cx) (x:Str):Prop:=X.env.kindOf x=some .globalImplicit
theorem J6 {E:Value->Shared->Prop} {pins:List (Addr×Obj)} {s:Shared} {Z:St} {H:Hp} {x:Str} {u:Value} {pos:Pos} {Q:Value->Shared->Prop} (I:Inv X pins Z H s) (hg:Gl X x) (hm:X.mg x=some u) (h:Q u s)
  (hd:(x == ("__debug__" : Str))=false:=by decide):wpAny (model X.prog X.w) X.A (eval (.Name x pos) X.env) Q E s :=
 Calls.Name_function_global I.ok.kind hg (Calls.loadGlobal_global (by rw [I.ok.glob];exact I.mod.glob.keeps I.bk) hm h) hd
theorem jm {E:Value->Shared->Prop} {pins:List (Addr×Obj)} {s:Shared} {Z:St} {H:Hp} {x:Str} {u:Value} {pos:Pos} {Q:Value->Shared->Prop} (I:Inv X pins Z H s) (hg:Gl X x) (hm:X.mg x=none) (hv:bootBuiltins x=some u) (h:Q u s)
  (hn:x ≠ "__name__":=by decide) (hd:(x == ("__debug__" : Str))=false:=by decide):wpAny (model X.prog X.w) X.A (eval (.Name x pos) X.env) Q E s:=by
 obtain⟨mb,h1,h2⟩:=I.mod.blt
 exact Calls.Name_function_global I.ok.kind hg (Calls.loadGlobal_builtin (by rw [I.ok.glob];exact I.mod.glob.keeps I.bk) hm (by rw [I.ok.blt];exact h1.keeps I.bk) ((h2 x hn).trans hv) h) hd
theorem Xr {x:Str} {v:V} {u:Value} {pos:Pos} (hg:Gl X x) (hm:X.mg x=some u) (r:RelV v u) (hd:(x == ("__debug__" : Str))=false:=by decide):PE X (.Name x pos) (tC v) :=
 λ_ _ _ H _ I h=>J6 I hg hm ⟨v,H,I,r,h⟩ hd
theorem Zb {x:Str} {v:V} {u:Value} {pos:Pos} (hg:Gl X x) (hm:X.mg x=none) (hv:bootBuiltins x=some u) (r:RelV v u) (hn:x ≠ "__name__":=by decide) (hd:(x == ("__debug__" : Str))=false:=by decide):PE X (.Name x pos) (tC v) :=
 λ_ _ _ H _ I h=>jm I hg hm hv ⟨v,H,I,r,h⟩ hn hd
variable {a b:Expr} {ta tb:TE} {pos:Pos}
def PC (X:Cx) (op:CmpOp) (a b:Expr) (t:TE):Prop :=
 ∀ (pins:List (Addr×Obj)) (s:Shared) (Z:St) (H:Hp) (Q:VK),Inv X pins Z H s->t Z H Q ->
  wpAny (model X.prog X.w) X.A (eval a X.env) (λv s₁=>wpAny (model X.prog X.w) X.A (eval b X.env) (λu s₂=>wpAny (model X.prog X.w) X.A (compareOp op v u) (EP X pins Z Q) X.xe s₂) X.xe s₁) X.xe s
theorem zeb (b:Expr) {op:CmpOp} (h:op≠.In) (h2:op≠.NotIn):behindInMarks op b=false:=by
 have e1:(op == CmpOp.In)=false:=by cases op<;>first | rfl | exact absurd rfl h
 have e2:(op == CmpOp.NotIn)=false:=by cases op<;>first | rfl | exact absurd rfl h2
 cases b<;>simp [behindInMarks,e1,e2]
def tB (t:TE):TT:=λZ H Q=>t Z H λx H1=>∃ c,x=.bl c/\Q c H1
theorem zei {op:CmpOp} {t:TE} (h:PC X op a b t) (h1:behindInMarks op b=false:=by first | exact zeb _ (by decide) (by decide) | rfl):PT X (.Compare a [op] [b] pos) (tB t):=by
 intro pins s Z H Q I hw
 refine wpAny_isTrue_Compare1 (thn (h pins s Z H _ I hw) λv s1 h1=>thn h1 λu s2 h2=>thn h2 λc s3 ⟨x,H1,I1,r1,q1⟩=>?_) h1
 obtain⟨d,rfl,q⟩:=q1
 cases r1
 exact wpAny_truthy_bool ⟨H1,I1,q⟩
theorem wY {e:Expr} {t:TE} (h:PE X e t) (he:∀ whole,isTrue e X.env whole=(do let v <- whole;standAt e.pos;holding [v] (truthy v)):=by intro _;rfl):PT X e (tB t):=by
 intro pins s Z H Q I hw
 refine isTrue_plain (thn (h pins s Z H _ I hw) λv s1 ⟨x,H1,I1,r1,q1⟩=>?_) (he _)
 obtain⟨d,rfl,q⟩:=q1
 cases r1
 exact wpAny_truthy_bool ⟨H1,I1,q⟩
variable {tA tB':TT} {rest:List Expr}
def zhh (t u:TT):TT:=λZ H Q=>t Z H λc H1=>if c=true then u Z H1 Q else Q false H1
def tOr (t u:TT):TT:=λZ H Q=>t Z H λc H1=>if c=true then Q true H1 else u Z H1 Q
def zhd (t:TT):TT:=λZ H Q=>t Z H λc H1=>Q (!c) H1
theorem V8 (ha:PT X a tA):PW X (.BoolOp .And [a] pos) tA:=by
 intro wh pins s Z H Q I h
 refine isTrue_and (thn (ha pins s Z H Q I h) λc s1 e=>?_)
 cases c with
 | true=>exact isTrue_and_nil e
 | false=>exact e
theorem Qd (ha:PT X a tA):PW X (.BoolOp .Or [a] pos) tA:=by
 intro wh pins s Z H Q I h
 refine isTrue_or (thn (ha pins s Z H Q I h) λc s1 e=>?_)
 cases c with
 | false=>exact isTrue_or_nil e
 | true=>exact e
theorem zad (ha:PT X a tA) (hb:PW X (.BoolOp .And (b :: rest) pos) tB'):PW X (.BoolOp .And (a :: b :: rest) pos) (zhh tA tB'):=by
 intro wh pins s Z H Q I h
 refine isTrue_and (thn (ha pins s Z H _ I h) λc s1 ⟨H1,I1,q1⟩=>?_)
 cases c with
 | true=>exact hb wh pins s1 Z H1 Q I1 q1
 | false=>exact⟨H1,I1,q1⟩
theorem zaK (ha:PT X a tA) (hb:PW X (.BoolOp .Or (b :: rest) pos) tB'):PW X (.BoolOp .Or (a :: b :: rest) pos) (tOr tA tB'):=by
 intro wh pins s Z H Q I h
 refine isTrue_or (thn (ha pins s Z H _ I h) λc s1 ⟨H1,I1,q1⟩=>?_)
 cases c with
 | true=>exact⟨H1,I1,q1⟩
 | false=>exact hb wh pins s1 Z H1 Q I1 q1
theorem uP (ha:PT X a tA):PT X (.UnaryOp .Not a pos) (zhd tA):=by
 intro pins s Z H Q I h
 exact isTrue_not (ha pins s Z H (λc H1=>Q (!c) H1) I h)
def zgI (ta tb:TE):TE:=λZ H Q=>ta Z H λx H1=>∃ c,x=.bl c/\if c=true then tb Z H1 Q else Q (.bl false) H1
def zg0 (ta tb:TE):TE:=λZ H Q=>ta Z H λx H1=>∃ c,x=.bl c/\if c=true then Q (.bl true) H1 else tb Z H1 Q
def zgL (ta:TE):TE:=λZ H Q=>ta Z H λx H1=>∃ c,x=.bl c/\Q (.bl (!c)) H1
theorem jj {op} {t:TE} (h:PE X a t):PE X (.BoolOp op [a] pos) t:=λpins s Z H Q I hw=>BoolOp_one (h pins s Z H Q I hw)
theorem jq (ha:PE X a ta) (hb:PE X (.BoolOp .And (b :: rest) pos) tb):PE X (.BoolOp .And (a :: b :: rest) pos) (zgI ta tb):=by
 intro pins s Z H Q I h
 refine BoolOp_and (thn (ha pins s Z H _ I h) λv s1 ⟨x,H1,I1,r1,q1⟩=>?_)
 obtain⟨c,rfl,q1⟩:=q1
 cases r1
 refine wpAny_truthy_bool ?_
 cases c with
 | true=>exact hb pins s1 Z H1 Q I1 q1
 | false=>exact⟨.bl false,H1,I1,rfl,q1⟩
theorem zgE (ha:PE X a ta) (hb:PE X (.BoolOp .Or (b :: rest) pos) tb):PE X (.BoolOp .Or (a :: b :: rest) pos) (zg0 ta tb):=by
 intro pins s Z H Q I h
 refine BoolOp_or (thn (ha pins s Z H _ I h) λv s1 ⟨x,H1,I1,r1,q1⟩=>?_)
 obtain⟨c,rfl,q1⟩:=q1
 cases r1
 refine wpAny_truthy_bool ?_
 cases c with
 | false=>exact hb pins s1 Z H1 Q I1 q1
 | true=>exact⟨.bl true,H1,I1,rfl,q1⟩
theorem zbO (ha:PE X a ta):PE X (.UnaryOp .Not a pos) (zgL ta):=by
 intro pins s Z H Q I h
 refine UnaryOp_ (thn (ha pins s Z H _ I h) λv s1 ⟨x,H1,I1,r1,q1⟩=>?_)
 obtain⟨c,rfl,q1⟩:=q1
 cases r1
 exact not_of (wpAny_truthy_bool ⟨.bl (!c),H1,I1,rfl,q1⟩)
def tIf (t:TT) (ta tb:TE):TE:=λZ H Q=>t Z H λc H1=>if c=true then ta Z H1 Q else tb Z H1 Q
theorem zaX {c:Expr} (hc:PT X c tA) (ha:PE X a ta) (hb:PE X b tb):PE X (.IfExp c a b pos) (tIf tA ta tb):=by
 intro pins s Z H Q I h
 refine wpAny_IfExp (thn (hc pins s Z H _ I h) λd s1 ⟨H1,I1,q1⟩=>?_)
 cases d with
 | true=>exact ha pins s1 Z H1 Q I1 q1
 | false=>exact hb pins s1 Z H1 Q I1 q1
end
def SqL (K:W.Frag) (H:Hp) (a:Addr) (xs:List V):Prop :=
 Rd H a (.lst xs) \/
  ∃ (o:Obj) (its:Array Value) (n:Nat),K.lookup a=some o/\o.cls=.type "list"/\o.dict=none/\o.data=.seq its n/\its.size<=sizeLine/\Vals xs its.toList
def SqT (K:W.Frag) (H:Hp) (a:Addr) (xs:List V):Prop :=
 Rd H a (.tup xs) \/
  ∃ (o:Obj) (its:Array Value) (n:Nat),K.lookup a=some o/\o.cls=.type "tuple"/\o.data=.seq its n/\its.size<=sizeLine/\Vals xs its.toList
def zhq:Value->Option V
 | .none=>some .non
 | .bool b=>some (.bl b)
 | .int i _=>some (.int i)
 | .str x _=>some (.str x)
 | .bytes b _=>some (.byt b)
 | .float b _=>some (.flt b)
 | .ref a=>some (.ref a)
 | .type n=>some (.ty n)
 | _=>none
theorem RelV.abs {x:V} {u:Value} (r:RelV x u):zhq u=some x:=by
 cases x with
 | non=>cases r;rfl
 | bl _=>cases r;rfl
 | int _=>obtain⟨t,rfl⟩:=r;rfl
 | str _=>obtain⟨t,rfl⟩:=r;rfl
 | byt _=>obtain⟨t,rfl⟩:=r;rfl
 | flt _=>obtain⟨t,rfl⟩:=r;rfl
 | ref _=>cases r;rfl
 | ty _=>cases r;rfl
theorem RelV.inj {x y:V} {u:Value} (r:RelV x u) (q:RelV y u):x=y:=Option.some.inj (r.abs.symm.trans q.abs)
theorem Vals.inj:∀ {xs ys:List V} {us:List Value},Vals xs us->Vals ys us->xs=ys
 | _,_,_,.nil,.nil=>rfl
 | _,_,_,.cons r t,.cons r' t'=>by rw [r.inj r',Vals.inj t t']
section
variable {X:Cx} {pins:List (Addr×Obj)} {Z:St} {H:Hp} {s:Shared} {a:Addr} {xs ys:List V}
theorem SqL.of {K:W.Frag} (h:H a=some (.lst xs)):SqL K H a xs:=.inl (.inl h)
theorem SqT.of {K:W.Frag} (h:H a=some (.tup xs)):SqT K H a xs:=.inl (.inl h)
theorem Inv.list (I:Inv X pins Z H s) (h:SqL X.K H a xs):∃ its:List Value,Vals xs its/\PlainL s.heap a its.toArray/\xs.length<=sizeLine:=by
 rcases h with h | ⟨o,its,n,hk,hc,hd,hs,hz,r⟩
 ·obtain⟨z,its,n,r,e⟩:=h.ok I.hok
  exact⟨its,r,⟨_,n,e,rfl,rfl,rfl⟩,z⟩
 ·refine⟨its.toList,r,⟨o,n,I.kIn a o hk,hc,hd,by simpa using hs⟩,?_⟩
  have e:=r.length
  simp only [Array.length_toList] at e
  omega
theorem Inv.tuple (I:Inv X pins Z H s) (h:SqT X.K H a xs):∃ its:List Value,Vals xs its/\IsTup s.heap a its.toArray/\xs.length<=sizeLine:=by
 rcases h with h | ⟨o,its,n,hk,hc,hs,hz,r⟩
 ·obtain⟨z,its,r,p⟩:=h.ok I.hok
  exact⟨its,r,p,z⟩
 ·refine⟨its.toList,r,⟨o,I.kIn a o hk,hc,n,by simpa using hs⟩,?_⟩
  have e:=r.length
  simp only [Array.length_toList] at e
  omega
theorem Inv.list_inj (I:Inv X pins Z H s) (h:SqL X.K H a xs) (h':SqL X.K H a ys):xs=ys:=by
 obtain⟨its,r,⟨o,n,e,_,_,d⟩,_⟩:=I.list h
 obtain⟨its',r',⟨o',n',e',_,_,d'⟩,_⟩:=I.list h'
 rw [e] at e';cases e'
 rw [d] at d'
 injection d' with d1 _
 have:its=its':=by simpa using congrArg Array.toList d1
 subst this
 exact r.inj r'
theorem Inv.tuple_inj (I:Inv X pins Z H s) (h:SqT X.K H a xs) (h':SqT X.K H a ys):xs=ys:=by
 obtain⟨its,r,⟨o,e,_,n,d⟩,_⟩:=I.tuple h
 obtain⟨its',r',⟨o',e',_,n',d'⟩,_⟩:=I.tuple h'
 rw [e] at e';cases e'
 rw [d] at d'
 injection d' with d1 _
 have:its=its':=by simpa using congrArg Array.toList d1
 subst this
 exact r.inj r'
end
abbrev Cx.wish (X:Cx) (E:Value->Shared->Prop):Cx:={ X with xe:=E }
abbrev Cx.nox (X:Cx):Cx:=X.wish λ_ _=>False
theorem Cx.Ok.wish {X:Cx} (ok:X.Ok) (E:Value->Shared->Prop):(X.wish E).Ok :=
 ⟨ok.mod,ok.kind,ok.glob,ok.blt,ok.above,ok.inj,ok.has,ok.cab,ok.hd,ok.frames,ok.stk,ok.exf,ok.bs,ok.bsz,ok.noex,ok.exfs,ok.funs,ok.frf⟩
theorem Cx.Ok.unwish {X:Cx} {E:Value->Shared->Prop} (ok:(X.wish E).Ok):X.Ok :=
 ⟨ok.mod,ok.kind,ok.glob,ok.blt,ok.above,ok.inj,ok.has,ok.cab,ok.hd,ok.frames,ok.stk,ok.exf,ok.bs,ok.bsz,ok.noex,ok.exfs,ok.funs,ok.frf⟩
section
variable {X:Cx} {pins:List (Addr×Obj)} {Z:St} {H:Hp} {s:Shared} {E:Value->Shared->Prop}
theorem Inv.wish (I:Inv X pins Z H s) (E:Value->Shared->Prop):Inv (X.wish E) pins Z H s:=⟨I.ok.wish E,I.os,I.bare,I.base,I.loc,I.cell,I.free,I.freeC,I.pin,I.hok,I.len⟩
theorem Inv.unwish (I:Inv (X.wish E) pins Z H s):Inv X pins Z H s:=⟨I.ok.unwish,I.os,I.bare,I.base,I.loc,I.cell,I.free,I.freeC,I.pin,I.hok,I.len⟩
theorem SP.unwish {D:Ends} {f:Flow} {s':Shared} (h:SP (X.wish E) pins D f s'):SP X pins D f s':=by
 cases f with
 | next=>obtain⟨σ',H',I,q⟩:=h;exact⟨σ',H',I.unwish,q⟩
 | brk=>obtain⟨σ',H',I,q⟩:=h;exact⟨σ',H',I.unwish,q⟩
 | cont=>obtain⟨σ',H',I,q⟩:=h;exact⟨σ',H',I.unwish,q⟩
 | ret u=>obtain⟨v,σ',H',I,r,q⟩:=h;exact⟨v,σ',H',I.unwish,r,q⟩
theorem PSs.nox {st:List Stmt} {t:TS} (h:PSs X.nox st t):PSs X st t:=λpins s Z H D I hw =>
 wpAny_mono (h pins s Z H D (I.wish _) hw) (λ_ _ q=>q.unwish) λ_ _ z=>False.elim z
end
section
variable {X:Cx} {st:Stmt} {rest:List Stmt} {t u:TS} {e:Expr} {te:TE} {pos:Pos}
def zgj:TS:=λD Z H=>D.nx Z H
def zg4 (t u:TS):TS:=λD Z H=>t { D with nx:=u D } Z H
theorem yj:PSs X [] zgj:=λ_ _ Z H _ I h=>wpAny_execs_nil ⟨Z,H,I,h⟩
theorem zp (h1:PS X st t) (h2:PSs X rest u):PSs X (st :: rest) (zg4 t u):=by
 intro pins s Z H D I h
 refine wpAny_execs_cons (thn (h1 pins s Z H { D with nx:=u D } I h) λf s1 q=>?_)
 cases f with
 | next =>
  obtain⟨σ',H',I',q⟩:=q
  exact h2 pins s1 σ' H' D I' q
 | ret v=>exact q
 | brk=>exact q
 | cont=>exact q
theorem zx (h1:PS X st t):PSs X [st] t:=by
 intro pins s Z H D I h
 refine wpAny_execs_cons (thn (h1 pins s Z H D I h) λf s1 q=>?_)
 cases f with
 | next=>exact wpAny_execs_nil q
 | ret v=>exact q
 | brk=>exact q
 | cont=>exact q
theorem Inv.quiet {pins:List (Addr×Obj)} {Z:St} {H:Hp} {s:Shared} (I:Inv X pins Z H s):interactive X.env=false:=by simp [interactive,I.ok.kind]
def zgD (te:TE):TS:=λD Z H=>te Z H λ_ H1=>D.nx Z H1
theorem xP (he:PE X e te) (hs:swapsWith e none pos.line X.env=pure false:=by rfl):PS X (.Expr e pos) (zgD te):=by
 intro pins s Z H D I h
 exact wpAny_Expr_any (thn (he pins s Z H _ I h) λv s1 ⟨x,H1,I1,r1,q1⟩=>⟨Z,H1,I1,q1⟩) I.quiet hs
def zhl (te:TE):TS:=λD Z H=>te Z H D.rt
theorem zL (he:PE X e te):PS X (.Return (some e) pos) (zhl te):=by
 intro pins s Z H D I h
 exact wpAny_Return_some (thn (he pins s Z H _ I h) λv s1 ⟨x,H1,I1,r1,q1⟩=>⟨x,Z,H1,I1,r1,q1⟩)
def zhk (c:TT) (t u:TS):TS:=λD Z H=>c Z H λb H1=>if b=true then t D Z H1 else u D Z H1
theorem xr {c:Expr} {a b:List Stmt} {tc:TT} (hc:PT X c tc) (ha:PSs X a t) (hb:PSs X b u):PS X (.If c a b pos) (zhk tc t u):=by
 intro pins s Z H D I h
 refine wpAny_If (thn (hc pins s Z H _ I h) λd s1 ⟨H1,I1,q1⟩=>?_)
 cases d with
 | true=>exact ha pins s1 Z H1 D I1 q1
 | false=>exact hb pins s1 Z H1 D I1 q1
def zfH:TS:=λ_ _ _=>False
theorem YW:PS X st zfH:=λ_ _ _ _ _ _ h=>h.elim
end
abbrev TG:=V->St->Hp->(St->Hp->Prop)->Prop
abbrev TGs:=List V->St->Hp->(St->Hp->Prop)->Prop
def PG (X:Cx) (target:Expr) (t:TG):Prop :=
 ∀ (pins:List (Addr×Obj)) (s:Shared) (Z:St) (H:Hp) (v:V) (u:Value) (Q:St->Hp->Prop),Inv X pins Z H s->RelV v u->t v Z H Q ->
  wpAny (model X.prog X.w) X.A (assign target X.env u) (λ_ s'=>∃ σ' H',Inv X pins σ' H' s'/\Q σ' H') X.xe s
def PGs (X:Cx) (ts:List Expr) (t:TGs):Prop :=
 ∀ (pins:List (Addr×Obj)) (s:Shared) (Z:St) (H:Hp) (vs:List V) (us:List Value) (Q:St->Hp->Prop),Inv X pins Z H s->Vals vs us->t vs Z H Q ->
  wpAny (model X.prog X.w) X.A (assignInOrder ((assignEach ts X.env).map (·.2)) us) (λ_ s'=>∃ σ' H',Inv X pins σ' H' s'/\Q σ' H') X.xe s
abbrev zf9:=V->V->V->Hp->(Hp->Prop)->Prop
def zgb (X:Cx) (t:zf9):Prop :=
 ∀ (pins:List (Addr×Obj)) (s:Shared) (Z:St) (H:Hp) (o i v:V) (ov iv u:Value) (Q:Hp->Prop),Inv X pins Z H s->RelV o ov->RelV i iv->RelV v u->t o i v H Q ->
  wpAny (model X.prog X.w) X.A (setItem ov iv u) (λ_ s'=>∃ H',Inv X pins Z H' s'/\Q H') X.xe s
abbrev TIp:=V->V->Hp->VK->Prop
def PIp (X:Cx) (op:Operator) (t:TIp):Prop :=
 ∀ (pins:List (Addr×Obj)) (s:Shared) (Z:St) (H:Hp) (x y:V) (v u:Value) (Q:VK),Inv X pins Z H s->RelV x v->RelV y u->t x y H Q ->
  wpAny (model X.prog X.w) X.A (inplaceOp op v u) (EP X pins Z Q) X.xe s
section
variable {X:Cx} {pos:Pos}
def Vn (i:Nat):TG:=λv Z H Q=>Q (Z.set i (some v)) H
theorem zQ {i:Nat} {x:Str} (hN:X.N.Nodup) (hi:X.N[i]?=some x) (hx:Loc X.env.scope x) (hf:X.fn x=true\/X.env.scope.names.lookup x=some .local:=by first | exact .inl rfl | exact .inr rfl | assumption):PG X (.Name x pos) (Vn i):=by
 intro pins s Z H v u Q I r h
 exact wpAny_assign_Name (U9 I hN hi hx r (λs' I'=>⟨_,H,I',h⟩) hf)
def zg9:TGs:=λvs Z H Q=>vs=[]/\Q Z H
def zgn (t:TG) (u:TGs):TGs:=λvs Z H Q=>∃ v r,vs=v :: r/\t v Z H fun σ' H'=>u r σ' H' Q
theorem qK:PGs X [] zg9:=by
 intro pins s Z H vs us Q I r h
 obtain⟨e,h⟩:=h
 subst e
 cases r
 exact assignInOrder_nil ⟨Z,H,I,h⟩
theorem yG {e:Expr} {es:List Expr} {t:TG} {u:TGs} (h1:PG X e t) (h2:PGs X es u)
  (hs:(assignEach (e :: es) X.env).map (·.2)=assign e X.env :: (assignEach es X.env).map (·.2):=by rfl):PGs X (e :: es) (zgn t u):=by
 intro pins s Z H vs us Q I r h
 obtain⟨v,vr,e1,h⟩:=h
 subst e1
 cases r with
 | cons r rr =>
  rw [hs]
  refine assignInOrder_cons (thn (h1 pins s Z H _ _ _ I r h) λ_ s1 ⟨σ1,H1,I1,q1⟩=>?_)
  exact h2 pins s1 σ1 H1 _ _ Q I1 rr q1
def zgx (K:W.Frag) (n:Nat) (t:TGs):TG:=λv Z H Q=>∃ a xs,v=.ref a/\SqT K H a xs/\xs.length=n/\t xs Z H Q
theorem J3 {es:List Expr} {k:Nat} {t:TGs} {n:Nat} (hc:X.calm=true) (h:PGs X es t)
  (hn:(assignEach es X.env).length=n:=by rfl) (hst:(assignEach es X.env).findIdx? (·.1)=none:=by rfl):PG X (.Tuple es k pos) (zgx X.K n t):=by
 intro pins s Z H v u Q I r hw
 obtain⟨a,xs,e1,hq,hl,hw⟩:=hw
 subst e1
 cases r
 obtain⟨its,rv,ht,hz⟩:=I.tuple hq
 refine assign_Tuple_tuple (I.ok.hd hc) ht (by simp [hn,<- hl,rv.length]) hst λh' hx=>?_
 have I1:Inv X pins Z H { s with heap:=h' }:=I.kept (t':=s.toks) λb o e=>hx b o (Nat.ne_of_lt (Heap.lt_size e)) e
 exact h pins _ Z H xs _ Q I1 (by simpa using rv) hw
def zha (to ti:TE) (t:zf9):TG:=λv Z H Q=>to Z H λo H1=>ti Z H1 λi H2=>t o i v H2 λH3=>Q Z H3
theorem Jv {o i:Expr} {to ti:TE} {t:zf9} (ho:PE X o to) (hi:PE X i ti) (hs:zgb X t)
  (ha:∀ v,assign (.Subscript o i pos) X.env v=(do
   let ov <- holding [v] (eval o X.env)
   let iv <- holding [v,ov] (eval i X.env)
   standAt pos
   holding [v,ov,iv] (setItem ov iv v)
   release [v,ov,iv] []):=by intro _;rfl):PG X (.Subscript o i pos) (zha to ti t):=by
 intro pins s Z H v u Q I r h
 rw [ha]
 refine wpAny_bind (wpAny_holding (thn (ho pins s Z H _ I h) λov s1 ⟨x,H1,I1,r1,q1⟩=>?_))
 refine wpAny_bind (wpAny_holding (thn (hi pins s1 Z H1 _ I1 q1) λiv s2 ⟨y,H2,I2,r2,q2⟩=>?_))
 refine wpAny_bind (wpAny_standAt (wpAny_bind (wpAny_holding (thn (hs pins s2 Z H2 x y v ov iv u _ I2 r1 r2 r q2) λ_ s3 ⟨H3,I3,q3⟩=>?_))))
 exact wpAny_release ⟨Z,H3,I3,q3⟩
def zd3 (te:TE) (g:TG):TS:=λD Z H=>te Z H λx H1=>g x Z H1 D.nx
theorem Vm {tg e:Expr} {te:TE} {g:TG} (he:PE X e te) (hg:PG X tg g) (hs:swapsWithSole [tg] e pos.line X.env=pure false:=by rfl) (hw:swappedStores [tg] e X.env=pure none:=by rfl)
  (h1:(assignEach [tg] X.env).map (·.2)=[assign tg X.env]:=by rfl):PS X (.Assign [tg] e pos) (zd3 te g):=by
 intro pins s Z H D I h
 refine wpAny_Assign_stores (thn (he pins s Z H _ I h) λv s1 ⟨x,H1,I1,r1,q1⟩=>?_) hs hw
 rw [h1]
 exact thn (hg pins s1 Z H1 x v _ I1 r1 q1) λ_ s2 q=>q
theorem zB {i:Nat} {x:Str} {e:Expr} {te:TE} {pos':Pos} (hN:X.N.Nodup) (hi:X.N[i]?=some x) (hx:Loc X.env.scope x) (he:PE X e te) (hs:swapsWith e (some (.Name x pos')) pos.line X.env=pure false:=by rfl) (hf:X.fn x=true\/X.env.scope.names.lookup x=some .local:=by first | exact .inl rfl | exact .inr rfl | assumption) :
  PS X (.Assign [.Name x pos'] e pos) (zd3 te (Vn i)):=by
 intro pins s Z H D I h
 refine wpAny_Assign_Name (thn (he pins s Z H _ I h) λv s1 ⟨y,H1,I1,r1,q1⟩=>?_) hs
 exact U9 I1 hN hi hx r1 (λs2 I2=>⟨_,H1,I2,q1⟩) hf
def zg1 (i:Nat) (te:TE) (ti:TIp):TS:=λD Z H=>∃ x,Z[i]?=some (some x)/\te Z H λy H1=>ti x y H1 λz H2=>D.nx (Z.set i (some z)) H2
theorem zbZ {i:Nat} {x:Str} {e:Expr} {te:TE} {op:Operator} {ti:TIp} {pos':Pos} (hN:X.N.Nodup) (hi:X.N[i]?=some x) (hx:Loc X.env.scope x) (he:PE X e te) (ho:PIp X op ti) (hf:X.fn x=true\/X.env.scope.names.lookup x=some .local:=by first | exact .inl rfl | exact .inr rfl | assumption) :
  PS X (.AugAssign (.Name x pos') op e pos) (zg1 i te ti):=by
 intro pins s Z H D I h
 obtain⟨v,e1,h⟩:=h
 obtain⟨m,hn,hl⟩:=I.loc
 have vis:Vis X.env.scope x:=by rcases hx with k | k;exact .inl k;exact .inr (.inl k)
 obtain⟨u,r,l⟩:=hl i x v hi e1 vis
 refine wpAny_AugAssign_Name ?_
 have go:wpAny (model X.prog X.w) X.A (eval e X.env) (λw s₂=>wpAny (model X.prog X.w) X.A (inplaceOp op u w) (λr s₃=>wpAny (model X.prog X.w) X.A (storeName X.env x r) (λ_=>SP X pins D .next) X.xe s₃) X.xe s₂) X.xe s:=by
  refine thn (he pins s Z H _ I h) λw s1 ⟨y,H1,I1,r1,q1⟩=>?_
  refine thn (ho pins s1 Z H1 v y u w _ I1 r r1 q1) λz s2 ⟨zv,H2,I2,r2,q2⟩=>?_
  exact U9 I2 hN hi hx r2 (λs3 I3=>⟨_,H2,I3,q2⟩) hf
 rcases l with ⟨hk,hm⟩ | ⟨hk,c,hc,hcell⟩
 ·exact wpAny_loadName_local I.ok.kind hk hn hm go
 ·rcases hk with hk | hk
  ·exact wpAny_loadName_cell I.ok.kind hk hc hcell go
  ·rcases hx with k | k
   ·have:X.env.scope.names.lookup x=some .free:=hk
    rw [k] at this;cases this
   ·have:X.env.scope.names.lookup x=some .free:=hk
    rw [k] at this;cases this
def ipI (f:Int->Int->Int):TIp:=λx y H Q=>∃ i j,x=.int i/\y=.int j/\Q (.int (f i j)) H
theorem zbx:PIp X .Add (ipI λi j=>i+j):=by
 intro pins s Z H x y v u Q I r1 r2 h
 obtain⟨i,j,e1,e2,q⟩:=h
 subst e1;subst e2
 obtain⟨t,rfl⟩:=r1
 obtain⟨t',rfl⟩:=r2
 exact iadd_int ⟨.int _,H,I.tok _,⟨_,rfl⟩,q⟩
def zd0 (c:TT) (tb:TS):TS:=λD Z H=>∃ W:Nat->St->Hp->Prop,(∃ m,W m Z H)/\∀ m Z H,W m Z H ->
 c Z H λb H1=>if b=true then ∃ N:St->Hp->Prop,(∀ σ' H',N σ' H'->∃ m',m'<m/\W m' σ' H')/\tb { D with nx:=N,ct:=N,bk:=D.nx } Z H1 else D.nx Z H1
theorem Wx {c:Expr} {body:List Stmt} {tc:TT} {tb:TS} (hp:PassesOwn (model X.prog X.w) X.A X.env X.xe) (hc:PT X c tc) (hb:PSs X body tb):PS X (.While c body [] pos) (zd0 tc tb):=by
 intro pins s Z H D I h
 obtain⟨W,⟨m0,w0⟩,turn⟩:=h
 refine wpAny_While (codeAny_whileLoop (λn s'=>∃ σ' H',Inv X pins σ' H' s'/\W n σ' H') ?_ m0 ⟨Z,H,I,w0⟩)
 rintro n s1 ⟨σ1,H1,I1,w1⟩
 refine wpAny_passesOwn hp (thn (hc pins s1 σ1 H1 _ I1 (turn n σ1 H1 w1)) λb s2 ⟨H2,I2,q2⟩=>?_)
 cases b with
 | true =>
  obtain⟨N,hN,q2⟩:=q2
  rw [if_pos rfl]
  refine wpAny_passesOwn hp (thn (hb pins s2 σ1 H2 _ I2 q2) λf s3 q3=>?_)
  cases f with
  | next =>
   obtain⟨σ3,H3,I3,n3⟩:=q3
   obtain⟨m',hm,w3⟩:=hN σ3 H3 n3
   exact⟨m',hm,σ3,H3,I3,w3⟩
  | cont =>
   obtain⟨σ3,H3,I3,n3⟩:=q3
   obtain⟨m',hm,w3⟩:=hN σ3 H3 n3
   exact⟨m',hm,σ3,H3,I3,w3⟩
  | brk=>exact q3
  | ret v=>exact q3
 | false =>
  rw [if_neg Bool.false_ne_true]
  exact wpAny_execs_nil ⟨σ1,H2,I2,q2⟩
end
structure It where
 go:Nat->Hp->Prop
 yld:Nat->Hp->V->Hp->Prop
 stop:Nat->Hp->Prop
def YD (X:Cx) (pins:List (Addr×Obj)) (H:Hp) (b:Addr):Prop :=
 H b=none/\b≠X.env.locals/\b∉X.fs/\(b∈X.ex\/X.s₀.heap.objs.size<=b)/\(∀ x c,X.env.cells.lookup x=some c->c≠b)/\∀ p∈X.pn++pins,p.1≠b
theorem Inv.fpOk {X:Cx} {pins:List (Addr×Obj)} {Z:St} {H H':Hp} {s:Shared} {b:Addr} (I:Inv X pins Z H s) (hb:s.heap.objs.size<=b) (hn:H' b=none):YD X pins H' b:=by
 refine⟨hn,Nat.ne_of_gt (Nat.lt_of_lt_of_le I.lt hb),I.nofs hb,.inr (Nat.le_trans I.sz hb),λx c e z=>?_,λp hp z=>?_⟩
 ·obtain⟨v,q⟩:=I.cell x c e
  exact absurd (Nat.lt_of_lt_of_le q.lt (by rw [z];exact hb)) (Nat.lt_irrefl _)
 ·exact absurd (Nat.lt_of_lt_of_le (Heap.lt_size (I.pin p hp).1) (by rw [z];exact hb)) (Nat.lt_irrefl _)
structure Turn (P:Program) (w:World) (K:W.Frag) (tg:Expr) (J:It) (fp:List Addr) (it:Addr) (tn:Nat->Heap->Prop):Prop where
 mem:it∈fp
 obj:∀ i h,tn i h->∀ b∈fp,∃ o,h.get? b=some o/\∀ v,o.data≠.cell v
 keep:∀ i h h',tn i h->(∀ b∈fp,∀ o,h.get? b=some o->h'.get? b=some o)->tn i h'
 item:∀ (X:Cx),X.prog=P->X.w=w->X.K=K->X.calm=true->∀ (i:Nat) (pins:List (Addr×Obj)) (s:Shared) (Z:St) (H:Hp) (E:Value->Shared->Prop),Inv X pins Z H s->(∀ b∈fp,YD X pins H b)->tn i s.heap->J.go i H ->
  wpAny (model P w) X.A (pyNext (.ref it)) (λr s1=>∃ u,r=some u /\
   wpAny (model P w) X.A (letOwnedTupleGo tg (.ref it) u) (λ_ s2=>∃ x H',Inv X pins Z H' s2/\RelV x u/\J.yld i H x H'/\tn (i+1) s2.heap/\∀ b∈fp,H' b=none) E s1) E s
 done:∀ (X:Cx),X.prog=P->X.w=w->X.K=K->X.calm=true->∀ (i:Nat) (pins:List (Addr×Obj)) (s:Shared) (Z:St) (H:Hp) (E:Value->Shared->Prop),Inv X pins Z H s->(∀ b∈fp,YD X pins H b)->tn i s.heap->J.stop i H ->
  wpAny (model P w) X.A (pyNext (.ref it)) (λr s1=>r=none/\Inv X pins Z H s1) E s
 self:∀ (A:Around) (i:Nat) (s:Shared) (Q:Value->Shared->Prop) (E:Value->Shared->Prop),tn i s.heap->Q (.ref it) s->wpAny (model P w) A (pyIter (.ref it)) Q E s
abbrev TI:=St->Hp->(It->Hp->Prop)->Prop
def PIE (X:Cx) (pins:List (Addr×Obj)) (Z:St) (tg:Expr) (R:It->Hp->Prop) (itv:Value) (s2:Shared):Prop :=
 ∃ (it:Addr) (fp:List Addr) (tn:Nat->Heap->Prop) (J:It) (H':Hp),itv=.ref it/\Inv X pins Z H' s2/\Turn X.prog X.w X.K tg J fp it tn/\tn 0 s2.heap/\(∀ b∈fp,YD X pins H' b)/\R J H'
def PI (X:Cx) (tg iter:Expr) (wi:TI):Prop :=
 ∀ (pins:List (Addr×Obj)) (s:Shared) (Z:St) (H:Hp) (R:It->Hp->Prop),Inv X pins Z H s->wi Z H R ->
  wpAny (model X.prog X.w) X.A (eval iter X.env) (λv s1=>wpAny (model X.prog X.w) X.A (pyIter v) (PIE X pins Z tg R) X.xe s1) X.xe s
theorem zd6 {M:Model} {A:Around} {E:Value->Shared->Prop} {s:Shared} {tg:Expr} {it:Addr} {u:Value} {o:Obj} {n:String} {vs:Array Value} {Q:Unit->Shared->Prop} (ho:s.heap.get? it=some o) (hc:o.cls=.type n) (hd:o.data=.fields vs)
    (hn:["enumerate","zip","dict_itemiterator","dict_reverseitemiterator","odict_iterator","itertools.zip_longest","itertools.pairwise"].contains n=false) (hQ:Q () s):wpAny M A (letOwnedTupleGo tg (.ref it) u) Q E s:=by
  unfold letOwnedTupleGo
  cases tg<;>first
    | exact wpAny_pure hQ
    | (cases u<;>first
        | exact wpAny_pure hQ
        | (refine wpAny_bind (wpAny_load ho ?_)
           rw [hc,hd]
           show wpAny M A (if (["enumerate","zip","dict_itemiterator","dict_reverseitemiterator","odict_iterator","itertools.zip_longest","itertools.pairwise"].contains n && vs[0]? == some (rawInt _))=true then _ else _) Q E s
           rw [if_neg (by intro h;rw [hn,Bool.false_and] at h;cases h)]
           exact wpAny_pure hQ))
def Itl (K:W.Frag) (a:Addr):It :=
 ⟨λi H=>∃ xs x,SqL K H a xs/\xs[i]?=some x,λi H x H'=>H'=H/\∀ xs,SqL K H a xs->xs[i]?=some x,λi H=>∃ xs,SqL K H a xs/\xs.length<=i⟩
def Itr (lo:Int) (n:Nat):It:=⟨λi _=>i<n,λi H x H'=>H'=H/\x=.int (lo+i),λi _=>n<=i⟩
theorem zcL {P:Program} {w:World} {K:W.Frag} {tg:Expr} (a it:Addr):Turn P w K tg (Itl K a) [it] it (λi h=>h.IsListIter it a i) where
 mem:=by simp
 obj:=λi h st b hb=>by
  have e:b=it:=by simpa using hb
  subst e
  obtain⟨o,e,c,d⟩:=st
  exact⟨o,e,λv z=>by rw [d] at z;cases z⟩
 keep:=λi h h' st k=>st.at λo e=>k it (by simp) o e
 item:=by
  intro X hP hw hK hc i pins s Z H E I hf st hg
  subst hP hw hK
  obtain⟨xs,x,hq,hx⟩:=hg
  obtain⟨its,rv,p,hz⟩:=I.list hq
  obtain⟨u,hu,ru⟩:=rv.get hx
  obtain⟨f0,f1,f2,f3,f4,f5⟩:=hf it (by simp)
  refine wpAny_pyNext_list_item st p.isList (x:=u) (by simpa using hu) λh' st' sb=>?_
  have I1:Inv X pins Z H { s with heap:=h' }:=I.turned (t':=s.toks) (λb o hb e=>(sb.2 b hb).trans e) f0 f1 f3 f4 f5
  obtain⟨o,e,c,d⟩:=id st'
  exact⟨u,rfl,zd6 (s:={ s with heap:=h' }) e c d (by decide) ⟨x,H,I1,ru,⟨rfl,λys hy=>by rw [I.list_inj hy hq];exact hx⟩,st',λb hb=>(hf b hb).1⟩⟩
 done:=by
  intro X hP hw hK hc i pins s Z H E I hf st hg
  subst hP hw hK
  obtain⟨xs,hq,hx⟩:=hg
  obtain⟨its,rv,p,hz⟩:=I.list hq
  obtain⟨f0,f1,f2,f3,f4,f5⟩:=hf it (by simp)
  have hl:=rv.length
  exact wpAny_pyNext_list_end (I.ok.hd hc) st p.isList (by simp;omega) λh' eb=>⟨rfl,I.turned (t':=s.toks) (λb o hb e=>eb b o hb e) f0 f1 f3 f4 f5⟩
 self:=λ_ _ _ _ _ st h=>wpAny_pyIter_listiter st h
theorem zbw {P:Program} {w:World} {K:W.Frag} {tg:Expr} (it:Addr) (lo:Int) (n:Nat):Turn P w K tg (Itr lo n) [it] it (λi h=>IsRangeIter h it (lo+(i:Nat)*1) ((n:Int)-(i:Nat)) 1) where
 mem:=by simp
 obj:=λi h st b hb=>by
  have e:b=it:=by simpa using hb
  subst e
  exact⟨_,st,λv z=>by
   have z':Data.fields _=Data.cell v:=z
   cases z'⟩
 keep:=λi h h' st k=>k it (by simp) _ st
 item:=by
  intro X hP hw hK hc i pins s Z H E I hf st hg
  subst hP hw hK
  obtain⟨f0,f1,f2,f3,f4,f5⟩:=hf it (by simp)
  have W:=Walks.range (prog:=X.prog) (w:=X.w) (I.ok.hd hc) it lo 1 n
  refine W.item i s _ _ hg st λv h' tk hv st' kk=>?_
  obtain⟨t,rfl⟩:=hv
  have I1:Inv X pins Z H { s with heap:=h',toks:=tk }:=I.turned (λb o hb e=>kk b o (by simpa using hb) e) f0 f1 f3 f4 f5
  refine⟨_,rfl,zd6 (s:={ s with heap:=h',toks:=tk }) (n:="range_iterator") st' rfl rfl (by decide) ⟨.int (lo+i),H,I1,⟨t,?_⟩,⟨rfl,rfl⟩,st',λb hb=>(hf b hb).1⟩⟩
  rw [Int.mul_one]
 done:=by
  intro X hP hw hK hc i pins s Z H E I hf st hg
  subst hP hw hK
  obtain⟨f0,f1,f2,f3,f4,f5⟩:=hf it (by simp)
  exact wpAny_pyNext_range_end (I.ok.hd hc) st (by have:n<=i:=hg;omega) λh' eb=>⟨rfl,I.turned (t':=s.toks) (λb o hb e=>eb b o hb e) f0 f1 f3 f4 f5⟩
 self:=λ_ _ _ _ _ st h=>wpAny_pyIter_rangeiter st h
section
variable {X:Cx} {tg:Expr}
def zfu (K:W.Frag) (tl:TE):TI:=λZ H R=>tl Z H λx H1=>∃ a,x=.ref a/\(∃ xs,SqL K H1 a xs)/\R (Itl K a) H1
theorem zeF {l:Expr} {tl:TE} (hl:PE X l tl):PI X tg l (zfu X.K tl):=by
 intro pins s Z H R I h
 refine thn (hl pins s Z H _ I h) λv s1 ⟨x,H1,I1,r1,q1⟩=>?_
 obtain⟨a,e,⟨xs,hq⟩,q⟩:=q1
 subst e
 cases r1
 obtain⟨its,rv,p,hz⟩:=I1.list hq
 refine wpAny_pyIter_list p.isList ?_
 refine⟨s1.heap.objs.size,[s1.heap.objs.size],_,_,H1,rfl,I1.kept (t':=s1.toks) λb o e=>Heap.get?_push_of_some _ e,zcL a _,⟨_,Heap.get?_push_size _ rfl,rfl,rfl⟩,λb hb=>?_,q⟩
 have e:b=s1.heap.objs.size:=by simpa using hb
 subst e
 exact I1.fpOk (Nat.le_refl _) (I1.hok.fresh (Nat.le_refl _))
theorem zaD {pins:List (Addr×Obj)} {Z:St} {H:Hp} {s:Shared} {R:It->Hp->Prop} {E:Value->Shared->Prop} {lo hi:Int} {t u v:Tok} {tk:Nat} (I:Inv X pins Z H s) (h1:-(2^62)<=lo) (h2:lo<2^62) (h3:-(2^62)<=hi) (h4:hi<2^62)
  (q:R (Itr lo (hi-lo).toNat) H):wpAny (model X.prog X.w) X.A (pyIter (.ref s.heap.objs.size)) (PIE X pins Z tg R) E { s with heap:=s.heap.push { cls:=.type "range",data:=.fields #[.int lo t,.int hi u,.int 1 v] },toks:=tk }:=by
 refine wpAny_pyIter_range (IsRange.new ..) (small_one h1 h2 h3 h4) ?_
 have I1:Inv X pins Z H { s with heap:=s.heap.push { cls:=.type "range",data:=.fields #[.int lo t,.int hi u,.int 1 v] },toks:=tk }:=I.kept λb o e=>Heap.get?_push_of_some _ e
 refine⟨(s.heap.push { cls:=.type "range",data:=.fields #[.int lo t,.int hi u,.int 1 v] }).objs.size,[(s.heap.push { cls:=.type "range",data:=.fields #[.int lo t,.int hi u,.int 1 v] }).objs.size],_,_,H,rfl,
  I1.kept (t':=tk) λb o e=>Heap.get?_push_of_some _ e,zbw _ lo (hi-lo).toNat,?_,λb hb=>?_,q⟩
 ·have e1:lo+((0:Nat):Int)*1=lo:=by simp
  have e2:(((hi-lo).toNat:Nat):Int)-((0:Nat):Int)=Builtin.Range.rangeSize lo hi 1:=by rw [rangeSize_one];split<;>omega
  show IsRangeIter _ _ (lo+((0:Nat):Int)*1) ((((hi-lo).toNat:Nat):Int)-((0:Nat):Int)) 1
  rw [e1,e2]
  exact Heap.get?_push_size _ rfl
 ·have e:b=(s.heap.push { cls:=.type "range",data:=.fields #[.int lo t,.int hi u,.int 1 v] }).objs.size:=by simpa using hb
  subst e
  exact I1.fpOk (Nat.le_refl _) (I1.hok.fresh (Nat.le_refl _))
def zgP (ta:TA):TI:=λZ H R=>ta Z H λvs H1=>∃ j:Int,vs=[.int j]/\-(2^62)<=j/\j<2^62/\R (Itr 0 j.toNat) H1
def zgF (ta:TA):TI:=λZ H R=>ta Z H λvs H1=>∃ i j:Int,vs=[.int i,.int j]/\(-(2^62)<=i/\i<2^62/\-(2^62)<=j/\j<2^62)/\R (Itr i (j-i).toNat) H1
theorem yg {a:Expr} {ta:TA} {p pos:Pos} (hg:Gl X "range") (hm:X.mg "range" = none) (ha:PA X [a] ta) (hs:starEach [a] X.env=[(false,eval a X.env)]:=by rfl):PI X tg (.Call (.Name "range" p) [a] [] pos) (zgP ta):=by
 intro pins s Z H R I h
 refine Call_ (jm I hg hm boot_range (PyProof.Rows.callWith_type1 (thn (ha pos pins s Z H _ I h) λus s1 ⟨vs,H1,I1,r1,q1⟩=>?_) hs rfl))
 obtain⟨j,e,q1,q2,q⟩:=q1
 subst e
 cases r1 with
 | cons r rr =>
  cases rr
  obtain⟨t,rfl⟩:=r
  exact call_range_1 (zaD I1 (by omega) (by omega) q1 q2 (by simpa using q))
theorem Vc {a b:Expr} {ta:TA} {p pos:Pos} (hg:Gl X "range") (hm:X.mg "range" = none) (ha:PA X [a,b] ta) (hs:starEach [a,b] X.env=[(false,eval a X.env),(false,eval b X.env)]:=by rfl) (hs2:starEach [b] X.env=[(false,eval b X.env)]:=by rfl) :
  PI X tg (.Call (.Name "range" p) [a,b] [] pos) (zgF ta):=by
 intro pins s Z H R I h
 refine Call_ (jm I hg hm boot_range (PyProof.Rows.callWith_type1 (thn (ha pos pins s Z H _ I h) λus s1 ⟨vs,H1,I1,r1,q1⟩=>?_) (by rw [hs,hs2]) (by rw [hs2];rfl)))
 obtain⟨i,j,e,⟨q1,q2,q3,q4⟩,q⟩:=q1
 subst e
 cases r1 with
 | cons r rr =>
  cases rr with
  | cons r' rr =>
   cases rr
   obtain⟨t,rfl⟩:=r
   obtain⟨t',rfl⟩:=r'
   exact call_range_2 (zaD I1 q1 q2 q3 q4 q)
def zht (wi:TI) (g:TG) (tb:TS):TS:=λD Z H=>wi Z H λJ H1=>∃ W:Nat->Nat->St->Hp->Prop,(∃ m,W 0 m Z H1)/\∀ i m Z H,W i m Z H ->
 (J.stop i H/\D.nx Z H)\/(J.go i H/\∃ N:St->Hp->Prop,(∀ σ' H',N σ' H'->∃ m',m'<m/\W (i+1) m' σ' H')/\∀ x H',J.yld i H x H'->g x Z H' fun σ2 H2=>tb { D with nx:=N,ct:=N,bk:=D.nx } σ2 H2)
def Zw (fp:List Addr) (h:Heap):List (Addr×Obj):=fp.filterMap λb=>(h.get? b).map λo=>(b,o)
theorem jR {fp:List Addr} {h:Heap} {b:Addr} {o:Obj} (hb:b∈fp) (e:h.get? b=some o):(b,o)∈Zw fp h:=List.mem_filterMap.mpr ⟨b,hb,by rw [e];rfl⟩
theorem zcP {fp:List Addr} {h:Heap} {p:Addr×Obj} (hp:p∈Zw fp h):p.1∈fp/\h.get? p.1=some p.2:=by
 obtain⟨b,hb,e⟩:=List.mem_filterMap.mp hp
 cases q:h.get? b with
 | none=>rw [q] at e;cases e
 | some o =>
  rw [q] at e
  have e':(b,o)=p:=Option.some.inj e
  subst e'
  exact⟨hb,q⟩
theorem Inv.pinned {pins:List (Addr×Obj)} {Z:St} {H:Hp} {s:Shared} {fp:List Addr} (I:Inv X pins Z H s) (hf:∀ b∈fp,YD X pins H b) (ho:∀ b∈fp,∃ o,s.heap.get? b=some o/\∀ v,o.data≠.cell v):Inv X (pins++Zw fp s.heap) Z H s :=
 I.pins_of λp hp=>(List.mem_append.mp hp).elim (λz=>I.pin p (List.mem_append_right _ z)) λz=>by
  obtain⟨hb,e⟩:=zcP z
  obtain⟨f0,f1,f2,_⟩:=hf p.1 hb
  obtain⟨o,e',d⟩:=ho p.1 hb
  rw [e] at e';cases e'
  exact⟨e,f0,f1,f2,d⟩
theorem Inv.unpinned {pins pl:List (Addr×Obj)} {Z:St} {H:Hp} {s:Shared} (I:Inv X (pins++pl) Z H s):Inv X pins Z H s:=I.pins_of λp hp=>I.pin p (List.mem_append_right _ (List.mem_append_left _ hp))
theorem yU {iter:Expr} {body:List Stmt} {wi:TI} {g:TG} {tb:TS} {pos:Pos} (hp:PassesOwn (model X.prog X.w) X.A X.env X.xe) (hc:X.calm=true) (hi:PI X tg iter wi) (hg:PG X tg g) (hb:PSs X body tb)
  (hs:∀ x,foldedSetIterable iter X.env x=pure x:=by intro _;rfl):PS X (.For tg iter body [] pos) (zht wi g tb):=by
 intro pins s Z H D I h
 refine wpAny_For (thn (hi pins s Z H _ I h) λv s1 h1=>thn h1 λitv s2 h2=>?_) hs
 obtain⟨it,fp,tn,J,H2,e,I2,T,st2,f2,W,⟨m0,w0⟩,turn⟩:=h2
 subst e
 have stat:∀ {H':Hp},(∀ b∈fp,H' b=none)->∀ b∈fp,YD X pins H' b:=λhn b hb=>⟨hn b hb,(f2 b hb).2⟩
 refine codeAny_forLoop_any (λn s'=>∃ i σ' H',Inv X pins σ' H' s'/\tn i s'.heap/\(∀ b∈fp,H' b=none)/\W i n σ' H') ?_ m0 ⟨0,Z,H2,I2,st2,λb hb=>(f2 b hb).1,w0⟩
 rintro n s3 ⟨i,σ3,H3,I3,st3,fr3,w3⟩
 rcases turn i n σ3 H3 w3 with ⟨stop,qn⟩ | ⟨go,N,hN,step⟩
 ·refine wpAny_passesOwn hp (thn (T.done X rfl rfl rfl hc i pins s3 σ3 H3 X.xe I3 (stat fr3) st3 stop) λr s4 ⟨hr,I4⟩=>?_)
  subst hr
  exact wpAny_execs_nil ⟨σ3,H3,I4,qn⟩
 ·refine wpAny_passesOwn hp (thn (T.item X rfl rfl rfl hc i pins s3 σ3 H3 X.xe I3 (stat fr3) st3 go) λr s4 ⟨u,hr,h4⟩=>?_)
  subst hr
  refine wpAny_passesOwn hp (thn h4 λ_ s5 ⟨x,H5,I5,r5,y5,st5,fr5⟩=>?_)
  have I5':=I5.pinned (stat fr5) (T.obj _ _ st5)
  refine wpAny_passesOwn hp (thn (hg _ s5 σ3 H5 x u _ I5' r5 (step x H5 y5)) λ_ s6 ⟨σ6,H6,I6,q6⟩=>?_)
  refine wpAny_passesOwn hp (thn (hb _ s6 σ6 H6 _ I6 q6) λf s7 q7=>?_)
  have again:∀ {σ7:St} {H7:Hp},Inv X (pins++Zw fp s5.heap) σ7 H7 s7->N σ7 H7->∃ m,m<n/\∃ i σ' H',Inv X pins σ' H' s7/\tn i s7.heap/\(∀ b∈fp,H' b=none)/\W i m σ' H':=λ{σ7 H7} I7 n7=>by
   obtain⟨m',hm,w7⟩:=hN σ7 H7 n7
   refine⟨m',hm,i+1,σ7,H7,I7.unpinned,T.keep _ _ _ st5 λb hb o e=>(I7.pin (b,o) (List.mem_append_right _ (List.mem_append_right _ (jR hb e)))).1,λb hb=>?_,w7⟩
   obtain⟨o,e,d⟩:=T.obj _ _ st5 b hb
   exact (I7.pin (b,o) (List.mem_append_right _ (List.mem_append_right _ (jR hb e)))).2.1
  cases f with
  | next=>obtain⟨σ7,H7,I7,n7⟩:=q7;exact again I7 n7
  | cont=>obtain⟨σ7,H7,I7,n7⟩:=q7;exact again I7 n7
  | brk=>obtain⟨σ7,H7,I7,q7⟩:=q7;exact⟨σ7,H7,I7.unpinned,q7⟩
  | ret v=>obtain⟨x7,σ7,H7,I7,r7,q7⟩:=q7;exact⟨x7,σ7,H7,I7.unpinned,r7,q7⟩
end
theorem Z6 {K:W.Frag} {a:Addr} {xs:List V} {g:TG} {tb:TS} {D:Ends} {Z:St} {H:Hp} (Pv:Nat->St->Hp->Prop) (h0:Pv 0 Z H) (hl:∀ i Z H,i<=xs.length->Pv i Z H->SqL K H a xs)
  (hs:∀ i x Z H,xs[i]?=some x->Pv i Z H->g x Z H fun σ2 H2=>tb { D with nx:=Pv (i+1),ct:=Pv (i+1),bk:=D.nx } σ2 H2) (hd:∀ Z H,Pv xs.length Z H->D.nx Z H) :
  ∃ W:Nat->Nat->St->Hp->Prop,(∃ m,W 0 m Z H)/\∀ i m Z H,W i m Z H ->
   ((Itl K a).stop i H/\D.nx Z H)\/((Itl K a).go i H/\∃ N:St->Hp->Prop,(∀ σ' H',N σ' H'->∃ m',m'<m/\W (i+1) m' σ' H')/\∀ x H',(Itl K a).yld i H x H'->g x Z H' fun σ2 H2=>tb { D with nx:=N,ct:=N,bk:=D.nx } σ2 H2):=by
 refine⟨λi m Z H=>m=xs.length-i/\i<=xs.length/\Pv i Z H,⟨xs.length,by simp,Nat.zero_le _,h0⟩,?_⟩
 rintro i m Z H ⟨rfl,hi,p⟩
 have q:=hl i Z H hi p
 by_cases hlt:i<xs.length
 ·refine .inr ⟨⟨xs,xs[i],q,by simp [hlt]⟩,Pv (i+1),fun σ' H' p'=>⟨xs.length-(i+1),by omega,rfl,hlt,p'⟩,λx H' y=>?_⟩
  obtain⟨e,y⟩:=y
  subst e
  exact hs i x Z _ (y xs q) p
 ·have e:i=xs.length:=by omega
  subst e
  exact .inl ⟨⟨xs,q,Nat.le_refl _⟩,hd Z H p⟩
theorem yH {lo:Int} {n:Nat} {g:TG} {tb:TS} {D:Ends} {Z:St} {H:Hp} (Pv:Nat->St->Hp->Prop) (h0:Pv 0 Z H)
  (hs:∀ i Z H,i<n->Pv i Z H->g (.int (lo+i)) Z H fun σ2 H2=>tb { D with nx:=Pv (i+1),ct:=Pv (i+1),bk:=D.nx } σ2 H2) (hd:∀ Z H,Pv n Z H->D.nx Z H) :
  ∃ W:Nat->Nat->St->Hp->Prop,(∃ m,W 0 m Z H)/\∀ i m Z H,W i m Z H ->
   ((Itr lo n).stop i H/\D.nx Z H)\/((Itr lo n).go i H/\∃ N:St->Hp->Prop,(∀ σ' H',N σ' H'->∃ m',m'<m/\W (i+1) m' σ' H')/\∀ x H',(Itr lo n).yld i H x H'->g x Z H' fun σ2 H2=>tb { D with nx:=N,ct:=N,bk:=D.nx } σ2 H2):=by
 refine⟨λi m Z H=>m=n-i/\i<=n/\Pv i Z H,⟨n,by simp,Nat.zero_le _,h0⟩,?_⟩
 rintro i m Z H ⟨rfl,hi,p⟩
 by_cases hlt:i<n
 ·refine .inr ⟨hlt,Pv (i+1),fun σ' H' p'=>⟨n-(i+1),by omega,rfl,hlt,p'⟩,λx H' y=>?_⟩
  obtain⟨e,y⟩:=y
  subst e y
  exact hs i Z _ hlt p
 ·have e:i=n:=by omega
  subst e
  exact .inl ⟨Nat.le_refl _,hd Z H p⟩
theorem WT {c:TT} {tb:TS} {D:Ends} {Z:St} {H:Hp} (Pv:St->Hp->Prop) (μ:St->Hp->Nat) (h0:Pv Z H)
  (hs:∀ Z H,Pv Z H->c Z H λb H1=>if b=true then tb { D with nx:=fun σ' H'=>Pv σ' H'/\μ σ' H'<μ Z H,ct:=fun σ' H'=>Pv σ' H'/\μ σ' H'<μ Z H,bk:=D.nx } Z H1 else D.nx Z H1)
  (mono:∀ Z H Q Q',(∀ b H1,Q b H1->Q' b H1)->c Z H Q->c Z H Q'):zd0 c tb D Z H:=by
 refine⟨λm Z H=>m=μ Z H/\Pv Z H,⟨_,rfl,h0⟩,?_⟩
 rintro m Z H ⟨rfl,p⟩
 refine mono Z H _ _ (λb H1 q=>?_) (hs Z H p)
 cases b with
 | true=>exact⟨_,fun σ' H' ⟨p',l⟩=>⟨_,l,rfl,p'⟩,q⟩
 | false=>exact q
abbrev R2:=V->V->Hp->VK->Prop
def OpR (X:Cx) (f:Value->Value->Sem Value) (r:R2):Prop :=
 ∀ (pins:List (Addr×Obj)) (s:Shared) (Z:St) (H:Hp) (x y:V) (v u:Value) (Q:VK),Inv X pins Z H s->RelV x v->RelV y u->r x y H Q ->
  wpAny (model X.prog X.w) X.A (f v u) (EP X pins Z Q) X.xe s
def UnR (X:Cx) (f:Value->Sem Value) (r:V->Hp->VK->Prop):Prop :=
 ∀ (pins:List (Addr×Obj)) (s:Shared) (Z:St) (H:Hp) (x:V) (v:Value) (Q:VK),Inv X pins Z H s->RelV x v->r x H Q ->
  wpAny (model X.prog X.w) X.A (f v) (EP X pins Z Q) X.xe s
def ul (X:Cx) (f:Value) (r:List V->Hp->VK->Prop):Prop :=
 ∀ (pins:List (Addr×Obj)) (s:Shared) (Z:St) (H:Hp) (xs:List V) (us:List Value) (Q:VK),Inv X pins Z H s->Vals xs us->r xs H Q ->
  wpAny (model X.prog X.w) X.A (call f us) (EP X pins Z Q) X.xe s
def tOp (r:R2) (ta tb:TE):TE:=λZ H Q=>ta Z H λx H1=>tb Z H1 λy H2=>r x y H2 Q
def tUn (r:V->Hp->VK->Prop) (ta:TE):TE:=λZ H Q=>ta Z H λx H1=>r x H1 Q
def rI (C:Int->Int->Prop) (g:Int->Int->V):R2:=λx y H Q=>∃ i j,x=.int i/\y=.int j/\C i j/\Q (g i j) H
def rI0 (g:Int->Int->V):R2:=λx y H Q=>∃ i j,x=.int i/\y=.int j/\Q (g i j) H
def rU (g:Int->V):V->Hp->VK->Prop:=λx H Q=>∃ i,x=.int i/\Q (g i) H
section
variable {X:Cx} {a b c:Expr} {ta tb tc:TE} {pos:Pos}
theorem zf3 (ha:PE X a ta) (hb:PE X b tb) {pins:List (Addr×Obj)} {s:Shared} {Z:St} {H:Hp} {R:V->V->Hp->Prop} (I:Inv X pins Z H s)
  (h:ta Z H λx H1=>tb Z H1 λy H2=>R x y H2) {Q:Value->Shared->Prop} {f:Value->Value->Sem Value}
  (hf:∀ v u s2 x y H2,Inv X pins Z H2 s2->RelV x v->RelV y u->R x y H2->wpAny (model X.prog X.w) X.A (f v u) Q X.xe s2) :
  wpAny (model X.prog X.w) X.A (eval a X.env) (λv s₁=>wpAny (model X.prog X.w) X.A (eval b X.env) (λu s₂=>wpAny (model X.prog X.w) X.A (f v u) Q X.xe s₂) X.xe s₁) X.xe s:=by
 refine thn (ha pins s Z H _ I h) λv s1 ⟨x,H1,I1,r1,q1⟩=>?_
 refine thn (hb pins s1 Z H1 _ I1 q1) λu s2 ⟨y,H2,I2,r2,q2⟩=>?_
 exact hf v u s2 x y H2 I2 r1 r2 q2
theorem zA {op:Operator} {r:R2} (ho:OpR X (binaryOp op) r) (ha:PE X a ta) (hb:PE X b tb):PE X (.BinOp a op b pos) (tOp r ta tb):=by
 intro pins s Z H Q I h
 exact wpAny_BinOp (zf3 ha hb I h λv u s2 x y H2 I2 rx ry q=>ho pins s2 Z H2 x y v u Q I2 rx ry q)
theorem zfp {op:UnaryOp} {r:V->Hp->VK->Prop} (ho:UnR X (unaryOp op) r) (ha:PE X a ta):PE X (.UnaryOp op a pos) (tUn r ta):=by
 intro pins s Z H Q I h
 exact UnaryOp_ (thn (ha pins s Z H _ I h) λv s1 ⟨x,H1,I1,r1,q1⟩=>ho pins s1 Z H1 x v Q I1 r1 q1)
theorem opI {f:Value->Value->Sem Value} {C:Int->Int->Prop} {g:Int->Int->Int}
  (rule:∀ (i j:Int) (t u:Tok) (s:Shared) (Q:Value->Shared->Prop) (E:Value->Shared->Prop),C i j->Q (.int (g i j) s.toks) { s with toks:=s.toks+1 }->wpAny (model X.prog X.w) X.A (f (.int i t) (.int j u)) Q E s) :
  OpR X f (rI C λi j=>.int (g i j)):=by
 intro pins s Z H x y v u Q I rx ry h
 obtain⟨i,j,rfl,rfl,hc,q⟩:=h
 obtain⟨t,rfl⟩:=rx
 obtain⟨t',rfl⟩:=ry
 exact rule i j t t' s _ _ hc ⟨.int (g i j),H,I.tok _,⟨_,rfl⟩,q⟩
theorem zgs {f:Value->Value->Sem Value} {g:Int->Int->Int}
  (rule:∀ (i j:Int) (t u:Tok) (s:Shared) (Q:Value->Shared->Prop) (E:Value->Shared->Prop),Q (.int (g i j) s.toks) { s with toks:=s.toks+1 }->wpAny (model X.prog X.w) X.A (f (.int i t) (.int j u)) Q E s) :
  OpR X f (rI0 λi j=>.int (g i j)):=by
 intro pins s Z H x y v u Q I rx ry h
 obtain⟨i,j,rfl,rfl,q⟩:=h
 obtain⟨t,rfl⟩:=rx
 obtain⟨t',rfl⟩:=ry
 exact rule i j t t' s _ _ ⟨.int (g i j),H,I.tok _,⟨_,rfl⟩,q⟩
theorem zez {f:Value->Value->Sem Value} {g:Int->Int->Bool}
  (rule:∀ (i j:Int) (t u:Tok) (s:Shared) (Q:Value->Shared->Prop) (E:Value->Shared->Prop),Q (.bool (g i j)) s->wpAny (model X.prog X.w) X.A (f (.int i t) (.int j u)) Q E s) :
  OpR X f (rI0 λi j=>.bl (g i j)):=by
 intro pins s Z H x y v u Q I rx ry h
 obtain⟨i,j,rfl,rfl,q⟩:=h
 obtain⟨t,rfl⟩:=rx
 obtain⟨t',rfl⟩:=ry
 exact rule i j t t' s _ _ ⟨.bl (g i j),H,I,rfl,q⟩
def zg6 (i j:Int):Prop:=0<=j/\j<=1000000/\i.natAbs<2^64
def CMul (i j:Int):Prop:=(-(2^64)<i/\i<2^64)\/(-(2^64)<j/\j<2^64)
theorem CMul.ok {i j:Int} (h:CMul i j):IntMulOk i j:=by
 rcases h with ⟨h1,h2⟩ | ⟨h1,h2⟩
 ·exact .of_left (intBits_le_64 h1 h2)
 ·exact .of_right (intBits_le_64 h1 h2)
theorem yq:OpR X (binaryOp .Add) (rI0 λi j=>.int (i+j)):=zgs λ_ _ _ _ _ _ _ q=>add_int q
theorem uc:OpR X (binaryOp .Sub) (rI0 λi j=>.int (i-j)):=zgs λ_ _ _ _ _ _ _ q=>sub_int q
theorem wu:OpR X (binaryOp .Mult) (rI CMul λi j=>.int (i*j)):=opI λ_ _ _ _ _ _ _ hc q=>mul_int q hc.ok
theorem yp:OpR X (binaryOp .Mod) (rI (λ_ j=>0<j) λi j=>.int (i % j)):=opI λi j _ _ _ _ _ hc q=>by
 have h1:(0:Int)<j:=hc
 exact mod_int' (by omega) (by rw [Int.fmod_eq_emod_of_nonneg i (by omega)];exact q)
theorem JP:OpR X (binaryOp .Pow) (rI zg6 λi j=>.int (i^j.toNat)):=opI λ_ _ _ _ _ _ _ hc q=>pow_int_small hc.1 hc.2.1 hc.2.2 q
theorem unI {f:Value->Sem Value} {g:Int->Int}
  (rule:∀ (i:Int) (t:Tok) (s:Shared) (Q:Value->Shared->Prop) (E:Value->Shared->Prop),Q (.int (g i) s.toks) { s with toks:=s.toks+1 }->wpAny (model X.prog X.w) X.A (f (.int i t)) Q E s) :
  UnR X f (rU λi=>.int (g i)):=by
 intro pins s Z H x v Q I rx h
 obtain⟨i,rfl,q⟩:=h
 obtain⟨t,rfl⟩:=rx
 exact rule i t s _ _ ⟨.int (g i),H,I.tok _,⟨_,rfl⟩,q⟩
theorem zdF:UnR X (unaryOp .USub) (rU λi=>.int (-i)):=unI λ_ _ _ _ _ q=>neg_int q
end
def zgf:V->V->Bool
 | .non,.non=>true | .non,.int _=>true | .int _,.non=>true | .non,.bl _=>true | .bl _,.non=>true | .non,.str _=>true | .str _,.non=>true
 | .int _,.int _=>true | .bl _,.bl _=>true | .str _,.str _=>true | .byt _,.byt _=>true
 | .int _,.str _=>true | .str _,.int _=>true | .bl _,.str _=>true | .str _,.bl _=>true
 | _,_=>false
def rEq:R2:=λx y H Q=>zgf x y=true/\Q (.bl (decide (x=y))) H
def rNe:R2:=λx y H Q=>zgf x y=true/\Q (.bl (!decide (x=y))) H
theorem zce {i j:Int}:decide (V.int i=V.int j)=(i == j):=by
 rw [Bool.eq_iff_iff]
 simp
theorem zdn {i j:Bool}:decide (V.bl i=V.bl j)=(i == j):=by
 rw [Bool.eq_iff_iff]
 simp
theorem zcu {i j:Str}:decide (V.str i=V.str j)=(i == j):=by
 rw [Bool.eq_iff_iff]
 simp
theorem zcj {i j:Array UInt8}:decide (V.byt i=V.byt j)=(i.toList == j.toList):=by
 rw [Bool.eq_iff_iff]
 cases i
 cases j
 simp
section
variable {X:Cx} {a b c:Expr} {ta tb tc:TE} {pos:Pos}
theorem yz {pins:List (Addr×Obj)} {Z:St} {H:Hp} {s:Shared} {Q:VK} {k k':Bool} (I:Inv X pins Z H s) (q:Q (.bl k) H) (e:k=k'):EP X pins Z Q (.bool k') s:=by
 subst e
 exact⟨.bl k,H,I,rfl,q⟩
theorem ZP:OpR X (compareOp .Eq) rEq:=by
 intro pins s Z H x y v u Q I rx ry h
 obtain⟨hs,q⟩:=h
 cases x with
 | non =>
  cases rx
  cases y with
  | non=>cases ry;exact PySem.EqNone.eq_none_none (yz I q (by simp))
  | bl j=>cases ry;exact PySem.EqNone.eq_none_bool (yz I q (by simp))
  | int j=>obtain⟨t',rfl⟩:=ry;exact PySem.EqNone.eq_none_int (yz I q (by simp))
  | str j=>obtain⟨t',rfl⟩:=ry;exact PySem.EqNone.eq_none_str (yz I q (by simp))
  | _=>exact absurd (show false=true from hs) Bool.false_ne_true
 | bl i =>
  cases rx
  cases y with
  | non=>cases ry;exact PySem.EqNone.eq_bool_none (yz I q (by simp))
  | bl j=>cases ry;exact eq_bool (yz I q zdn)
  | str j=>obtain⟨t',rfl⟩:=ry;exact PySem.EqMixed.eq_bool_str (yz I q (by simp))
  | _=>exact absurd (show false=true from hs) Bool.false_ne_true
 | int i =>
  obtain⟨t,rfl⟩:=rx
  cases y with
  | non=>cases ry;exact PySem.EqNone.eq_int_none (yz I q (by simp))
  | int j=>obtain⟨t',rfl⟩:=ry;exact eq_int (yz I q zce)
  | str j=>obtain⟨t',rfl⟩:=ry;exact PySem.EqMixed.eq_int_str (yz I q (by simp))
  | _=>exact absurd (show false=true from hs) Bool.false_ne_true
 | str i =>
  obtain⟨t,rfl⟩:=rx
  cases y with
  | non=>cases ry;exact PySem.EqNone.eq_str_none (yz I q (by simp))
  | bl j=>cases ry;exact PySem.EqMixed.eq_str_bool (yz I q (by simp))
  | int j=>obtain⟨t',rfl⟩:=ry;exact PySem.EqMixed.eq_str_int (yz I q (by simp))
  | str j=>obtain⟨t',rfl⟩:=ry;exact eq_str (yz I q zcu)
  | _=>exact absurd (show false=true from hs) Bool.false_ne_true
 | byt i =>
  obtain⟨t,rfl⟩:=rx
  cases y with
  | byt j=>obtain⟨t',rfl⟩:=ry;exact W.eq_bytes (yz I q zcj)
  | _=>exact absurd (show false=true from hs) Bool.false_ne_true
 | _=>cases y<;>exact absurd (show false=true from hs) Bool.false_ne_true
theorem zfo:OpR X (compareOp .NotEq) rNe:=by
 intro pins s Z H x y v u Q I rx ry h
 obtain⟨hs,q⟩:=h
 cases x with
 | non =>
  cases rx
  cases y with
  | non=>cases ry;exact PySem.EqNone.ne_none_none (yz I q (by simp))
  | bl j=>cases ry;exact PySem.EqNone.ne_none_bool (yz I q (by simp))
  | int j=>obtain⟨t',rfl⟩:=ry;exact PySem.EqNone.ne_none_int (yz I q (by simp))
  | str j=>obtain⟨t',rfl⟩:=ry;exact PySem.EqNone.ne_none_str (yz I q (by simp))
  | _=>exact absurd (show false=true from hs) Bool.false_ne_true
 | bl i =>
  cases rx
  cases y with
  | non=>cases ry;exact PySem.EqNone.ne_bool_none (yz I q (by simp))
  | bl j=>cases ry;exact ne_bool (yz I q (congrArg not zdn))
  | str j=>obtain⟨t',rfl⟩:=ry;exact PySem.EqMixed.ne_bool_str (yz I q (by simp))
  | _=>exact absurd (show false=true from hs) Bool.false_ne_true
 | int i =>
  obtain⟨t,rfl⟩:=rx
  cases y with
  | non=>cases ry;exact PySem.EqNone.ne_int_none (yz I q (by simp))
  | int j=>obtain⟨t',rfl⟩:=ry;exact ne_int (yz I q (congrArg not zce))
  | str j=>obtain⟨t',rfl⟩:=ry;exact PySem.EqMixed.ne_int_str (yz I q (by simp))
  | _=>exact absurd (show false=true from hs) Bool.false_ne_true
 | str i =>
  obtain⟨t,rfl⟩:=rx
  cases y with
  | non=>cases ry;exact PySem.EqNone.ne_str_none (yz I q (by simp))
  | bl j=>cases ry;exact PySem.EqMixed.ne_str_bool (yz I q (by simp))
  | int j=>obtain⟨t',rfl⟩:=ry;exact PySem.EqMixed.ne_str_int (yz I q (by simp))
  | str j=>obtain⟨t',rfl⟩:=ry;exact ne_str (yz I q (congrArg not zcu))
  | _=>exact absurd (show false=true from hs) Bool.false_ne_true
 | byt i =>
  obtain⟨t,rfl⟩:=rx
  cases y with
  | byt j=>obtain⟨t',rfl⟩:=ry;exact W.ne_bytes (yz I q (congrArg not zcj))
  | _=>exact absurd (show false=true from hs) Bool.false_ne_true
 | _=>cases y<;>exact absurd (show false=true from hs) Bool.false_ne_true
theorem zes:OpR X (compareOp .Lt) (rI0 λi j=>.bl (decide (i<j))):=zez λ_ _ _ _ _ _ _ q=>lt_int q
theorem Jb:OpR X (compareOp .LtE) (rI0 λi j=>.bl (decide (i<=j))):=zez λ_ _ _ _ _ _ _ q=>le_int q
theorem za9:OpR X (compareOp .Gt) (rI0 λi j=>.bl (decide (j<i))):=zez λ_ _ _ _ _ _ _ q=>gt_int q
theorem zdQ:OpR X (compareOp .GtE) (rI0 λi j=>.bl (decide (j<=i))):=zez λ_ _ _ _ _ _ _ q=>ge_int q
theorem zdy:OpR X (compareOp .Is) (λx y H Q=>y=.non/\Q (.bl (decide (x=.non))) H):=by
 intro pins s Z H x y v u Q I rx ry h
 obtain⟨rfl,q⟩:=h
 cases ry
 refine is_none_gen (yz I q ?_)
 cases x<;>first
  | (cases rx;rfl)
  | (obtain⟨t,rfl⟩:=rx;rfl)
theorem W3:OpR X (compareOp .IsNot) (λx y H Q=>y=.non/\Q (.bl (!decide (x=.non))) H):=by
 intro pins s Z H x y v u Q I rx ry h
 obtain⟨rfl,q⟩:=h
 cases ry
 refine isnot_none_gen (yz I q ?_)
 cases x<;>first
  | (cases rx;rfl)
  | (obtain⟨t,rfl⟩:=rx;rfl)
theorem ye (b:Expr) {op:CmpOp} (h:op≠.In:=by decide) (h2:op≠.NotIn:=by decide):behindInMarks op b=false:=by
 have e1:(op == CmpOp.In)=false:=by cases op<;>first | rfl | exact absurd rfl h
 have e2:(op == CmpOp.NotIn)=false:=by cases op<;>first | rfl | exact absurd rfl h2
 cases b<;>simp [behindInMarks,e1,e2]
theorem xT {op:CmpOp} {r:R2} (ho:OpR X (compareOp op) r) (ha:PE X a ta) (hb:PE X b tb) (hm:behindInMarks op b=false):PE X (.Compare a [op] [b] pos) (tOp r ta tb):=by
 intro pins s Z H Q I h
 exact wpAny_Compare1 (zf3 ha hb I h λv u s2 x y H2 I2 rx ry q=>ho pins s2 Z H2 x y v u Q I2 rx ry q) hm
def zgK (t:TE):TT:=λZ H Q=>t Z H λx H'=>∃ k,x=.bl k/\Q k H'
theorem ym {op:CmpOp} {r:R2} (ho:OpR X (compareOp op) r) (ha:PE X a ta) (hb:PE X b tb) (hm:behindInMarks op b=false):PT X (.Compare a [op] [b] pos) (zgK (tOp r ta tb)):=by
 intro pins s Z H Q I h
 refine wpAny_isTrue_Compare1 (thn (ha pins s Z H _ I h) λv s1 ⟨x,H1,I1,r1,q1⟩=>thn (hb pins s1 Z H1 _ I1 q1) λu s2 ⟨y,H2,I2,r2,q2⟩ =>
  thn (ho pins s2 Z H2 x y v u _ I2 r1 r2 q2) λc s3 ⟨z,H3,I3,r3,k,e,q3⟩=>?_) hm
 subst e
 cases r3
 exact wpAny_truthy_bool ⟨H3,I3,q3⟩
def zf6 (r r':R2) (ta tb tc:TE):TE:=λZ H Q=>ta Z H λx H1=>tb Z H1 λy H2=>r x y H2 λz H3=>∃ k,z=.bl k /\
 (if k=true then tc Z H3 λw' H4=>r' y w' H4 Q else Q (.bl false) H3)
theorem Us {op op':CmpOp} {r r':R2} (ho:OpR X (compareOp op) r) (ho':OpR X (compareOp op') r') (ha:PE X a ta) (hb:PE X b tb) (hc:PE X c tc)
  (hm:lastMarks [op,op'] [b,c]=false:=by with_unfolding_all rfl):PE X (.Compare a [op,op'] [b,c] pos) (zf6 r r' ta tb tc):=by
 intro pins s Z H Q I h
 refine Compare_chain (thn (ha pins s Z H _ I h) λv s1 ⟨x,H1,I1,r1,q1⟩=>chain_link (thn (hb pins s1 Z H1 _ I1 q1) λu s2 ⟨y,H2,I2,r2,q2⟩ =>
  thn (ho pins s2 Z H2 x y v u _ I2 r1 r2 q2) λd s3 ⟨z,H3,I3,r3,k,e,q3⟩=>?_)) hm
 subst e
 cases r3
 refine wpAny_truthy_bool ?_
 cases k with
 | false=>exact ite_ff ⟨.bl false,H3,I3,rfl,q3⟩
 | true=>exact ite_tt (chain_last (thn (hc pins s3 Z H3 _ I3 q3) λw' s4 ⟨z',H4,I4,r4,q4⟩=>ho' pins s4 Z H4 y z' u w' Q I4 r2 r4 q4))
theorem UG:(sizeLine:Nat)<2^63:=by rw [sizeLine_eq];decide
theorem zbE:OpR X (binaryOp .Add) (λx y H Q=>∃ i j,x=.str i/\y=.str j/\i.length+j.length<=sizeLine/\Q (.str (i++j)) H):=by
 intro pins s Z H x y v u Q I rx ry h
 obtain⟨i,j,rfl,rfl,hz,q⟩:=h
 obtain⟨t,rfl⟩:=rx
 obtain⟨t',rfl⟩:=ry
 exact add_str (λt' tk=>⟨.str (i++j),H,I.tok _,⟨_,rfl⟩,q⟩) hz
theorem vals1 {x:V} {us:List Value} (r:Vals [x] us):∃ u,us=[u]/\RelV x u:=by
 cases r with
 | cons r1 r2=>cases r2;exact⟨_,rfl,r1⟩
theorem vals2 {x y:V} {us:List Value} (r:Vals [x,y] us):∃ u w',us=[u,w']/\RelV x u/\RelV y w':=by
 cases r with
 | cons r1 r2 =>
  cases r2 with
  | cons r3 r4=>cases r4;exact⟨_,_,rfl,r1,r3⟩
theorem zec:ul X (.builtin "abs") (λxs H Q=>∃ i,xs=[.int i]/\Q (.int (if i<0 then -i else i)) H):=by
 intro pins s Z H xs us Q I r h
 obtain⟨i,rfl,q⟩:=h
 obtain⟨u,rfl,t,rfl⟩:=vals1 r
 exact call_abs_int λu tk=>⟨.int (if i<0 then -i else i),H,I.tok _,⟨_,rfl⟩,q⟩
theorem zcT (hc:X.calm=true):ul X (.builtin "max") (λxs H Q=>∃ i j,xs=[.int i,.int j]/\Q (.int (if j>i then j else i)) H):=by
 intro pins s Z H xs us Q I r h
 obtain⟨i,j,rfl,q⟩:=h
 obtain⟨u,w',rfl,⟨t,rfl⟩,⟨t',rfl⟩⟩:=vals2 r
 refine max_two_ints (I.ok.hd hc) λh' tk k=>⟨_,H,I.kept k,?_,q⟩
 by_cases hj:j>i
 ·rw [if_pos hj,if_pos hj];exact⟨_,rfl⟩
 ·rw [if_neg hj,if_neg hj];exact⟨_,rfl⟩
theorem zcY (hc:X.calm=true):ul X (.builtin "min") (λxs H Q=>∃ i j,xs=[.int i,.int j]/\Q (.int (if j<i then j else i)) H):=by
 intro pins s Z H xs us Q I r h
 obtain⟨i,j,rfl,q⟩:=h
 obtain⟨u,w',rfl,⟨t,rfl⟩,⟨t',rfl⟩⟩:=vals2 r
 refine min_two_ints (I.ok.hd hc) λh' tk k=>⟨_,H,I.kept k,?_,q⟩
 by_cases hj:j<i
 ·rw [if_pos hj,if_pos hj];exact⟨_,rfl⟩
 ·rw [if_neg hj,if_neg hj];exact⟨_,rfl⟩
theorem Z0:ul X (.type "int") (λxs H Q=>(∃ i,xs=[.int i]/\Q (.int i) H)\/∃ k,xs=[.bl k]/\Q (.int (if k then 1 else 0)) H):=by
 intro pins s Z H xs us Q I r h
 rcases h with ⟨i,rfl,q⟩ | ⟨k,rfl,q⟩
 ·obtain⟨u,rfl,t,rfl⟩:=vals1 r
  exact call_int_int ⟨.int i,H,I,⟨_,rfl⟩,q⟩
 ·obtain⟨u,rfl,r1⟩:=vals1 r
  cases r1
  exact call_int_bool ⟨.int (if k then 1 else 0),H,I.tok _,⟨_,rfl⟩,q⟩
end
structure ObjM (h:Heap) (x dx C:Addr) (mA:Str->Option Value):Prop where
 obj:h.get? x=some (W.instObj C dx)
 ns:h.Ns1 dx mA
 ne:dx≠x
theorem zcN {h:Heap} {dx:Addr} {mA:Str->Option Value} (n:h.Ns1 dx mA):∃ od,h.get? dx=some od/\∀ name,W.lookIn name od=some (mA name):=by
 obtain⟨o,es,ep,ho,hd,hk,_,hm⟩:=n
 refine⟨o,ho,λname=>?_⟩
 have e:=hm name
 unfold nsFind findBy at e
 rw [<- Array.find?_toList] at e
 unfold W.lookIn
 rw [hd]
 dsimp only
 split
 ·rename_i y q
  rw [q] at e
  exact congrArg some e
 ·rename_i q
  rw [q] at e
  have a:es.toList.any (·.refKey)=false:=by
   rw [List.any_eq_false]
   intro y hy
   obtain⟨z,t,hkey⟩:=hk y (Array.mem_toList_iff.mp hy)
   simp [DictEntry.refKey,hkey]
  have a':¬ es.toList.any (·.refKey)=true:=by rw [a];exact Bool.false_ne_true
  rw [if_neg a']
  exact congrArg some e
theorem ObjM.look {h:Heap} {x dx C:Addr} {mA:Str->Option Value} (I:ObjM h x dx C mA):∃ od,W.InstAt h x (W.instObj C dx) C (some od)/\∀ name,W.lookIn name od=some (mA name) :=
 let ⟨od,ho,hl⟩:=zcN I.ns
 ⟨od,⟨I.obj,rfl,rfl,ho⟩,hl⟩
section
variable {prog:Program} {w:World} {A:Around} {E:Value->Shared->Prop} {s:Shared} {K:W.Frag} {x dx C f:Addr} {mA:Str->Option Value} {name:Str} {v:Value}
theorem zeH {expr:Bool} {Q:Value->Shared->Prop} (X:K.In s.heap) (I:ObjM s.heap x dx C mA) (hg:W.plainGet K C name=true) (hh:W.hasDictIn K C=true)
  (ha:W.findIn K (.ref C) name=some none) (hv:mA name=some v) (hv':W.handedIn v=true) (h:Q v { s with toks:=s.toks+1 }) :
  wpAny (model prog w) A (getAttr (.ref x) name expr) Q E s:=by
 obtain⟨od,J,hl⟩:=I.look
 exact W.get_value X J (W.plainGet_of hg).1 (W.findObj_own hh ha rfl (by rw [hl,hv])) hv' h
theorem zdR {pl:Sem Bool} {Q:Value×List Value->Shared->Prop} (X:K.In s.heap) (I:ObjM s.heap x dx C mA) (hg:W.plainGet K C name=true)
  (hf:W.findIn K (.ref C) name=some (some (.ref f))) (ht:W.isFn K (.ref f)=true) (hv:mA name=none) (h:Q (.ref f,[.ref x]) s) :
  wpAny (model prog w) A (getMethod (.ref x) name pl) Q E s:=by
 obtain⟨od,J,hl⟩:=I.look
 exact W.method_fn X J (W.plainGet_of hg).1 (W.plainGet_of hg).2 hf (beq_iff_eq.mp ht) (by show (W.lookIn name od).map (·.isSome)=some false;rw [hl,hv];rfl) h
theorem zeG {ns:List Str} {Q:Unit->Shared->Prop} (X:K.In s.heap) (I:ObjM s.heap x dx C mA)
  (hs:W.findIn K (.ref C) "__setattr__" = some (some (.builtin "object.__setattr__"))) (hp:W.plainOver K C=true) (ht:W.takerIn K C name=some none) (hh:W.hasDictIn K C=true)
  (hw:PySem.Within mA ns) (hsz:ns.length<=sizeLine)
  (h:∀ h',ObjM h' x dx C (λy=>if y=name then some v else mA y)->Heap.SameBut dx s.heap h'->Q () { s with heap:=h',toks:=s.toks+2 }) :
  wpAny (model prog w) A (setAttr (.ref x) name v) Q E s:=by
 obtain⟨od,J,hl⟩:=I.look
 refine W.set_plain X J hs (W.osa_open (s:={ s with toks:=s.toks+1 }) (r:=none) X J hp ht λb=>?_)
 obtain⟨cd,hc,hd'⟩:=W.any_some hh
 have hx:s.heap.get? x=some ⟨.ref C,some dx,.plain,#[]⟩:=I.obj
 refine wpAny_bind (wpAny_pure (wpAny_bind (wpAny_bind (wpAny_loadPart hx (wpAny_bind (W.Looks.here (s:={ s with toks:=s.toks+1 }) (W.looks_clsIn X hc) ?_))))))
 rw [hd']
 refine wpAny_pure (a:=some dx) (wpAny_bind (wpAny_pure (wpAny_bind ?_)))
 refine wpAny_nsSet1 (s:={ s with toks:=s.toks+1 }) I.ns λh' hn2 hs2=>?_
 obtain⟨oD,esD,epD,hoD,hdD,hcD⟩:=hn2.count (PySem.Within.cons name v hw)
 refine wpAny_bind (wpAny_lookBehind hoD (by rw [hdD];exact pastItsLine_dict (Nat.le_trans hcD (by rw [List.length_cons];omega))) ?_)
 exact wpAny_pure (h _ ⟨(hs2.2 _ (Ne.symm I.ne)).trans I.obj,hn2,I.ne⟩ hs2)
theorem zee {R:Result->Shared->Prop} {vs:List Value} {kw:List (Str×Value)} (X:K.In s.heap) (hm:W.makesIn K C=true)
  (hi:W.findIn K (.ref C) "__init__" = some (some (.ref f))) (hf:W.typeIn K (.ref f)=some (.type "function"))
  (h:codeAny (model prog w) (A.under (.builtin "type.__call__" ⟨.ref C :: vs,kw⟩)) (.call (.ref f) ⟨.ref (s.heap.objs.size+1) :: vs,kw⟩) (W.InitBack (s.heap.objs.size+1) R)
   { s with heap:=(s.heap.push W.emptyDict).push (W.instObj C s.heap.objs.size) }) :
  codeAny (model prog w) A (.call (.ref C) ⟨vs,kw⟩) R s:=by
 obtain⟨hh,g,d,t,os⟩:=s
 exact W.make_core (W.makes_of X hm) (W.looks_findIn X hi) (λself=>W.bind_fn X self hf) (.inl rfl) h
end
def yr (f:Str) (v:V):List (Str×V)->List (Str×V)
 | []=>[(f,v)]
 | (g,x) :: r=>if g=f then (g,v) :: r else (g,x) :: yr f v r
theorem zM (f g:Str) (v:V):∀ fs:List (Str×V),(yr f v fs).lookup g=if g=f then some v else fs.lookup g
 | []=>by
  show List.lookup g [(f,v)]=_
  by_cases h:g=f
  ·have hb:(g == f)=true:=beq_iff_eq.mpr h
   simp only [List.lookup,hb,if_pos h]
  ·have hb:(g == f)=false:=beq_eq_false_iff_ne.mpr h
   simp only [List.lookup,hb,if_neg h]
 | (k,x) :: r=>by
  have ih:=zM f g v r
  rw [show yr f v ((k,x) :: r)=(if k=f then (k,v) :: r else (k,x) :: yr f v r) from rfl]
  by_cases hk:k=f
  ·rw [if_pos hk]
   by_cases h:g=k
   ·have hb:(g == k)=true:=beq_iff_eq.mpr h
    simp only [List.lookup,hb,if_pos (h.trans hk)]
   ·have hb:(g == k)=false:=beq_eq_false_iff_ne.mpr h
    simp only [List.lookup,hb,if_neg (λe:g=f=>h (e.trans hk.symm))]
  ·rw [if_neg hk]
   by_cases h:g=k
   ·have hb:(g == k)=true:=beq_iff_eq.mpr h
    simp only [List.lookup,hb,if_neg (λe:g=f=>hk (h.symm.trans e))]
   ·have hb:(g == k)=false:=beq_eq_false_iff_ne.mpr h
    simp only [List.lookup,hb]
    exact ih
theorem Vi (f:Str) (v:V):∀ fs:List (Str×V),f∈(yr f v fs).map (·.1)/\∀ g,g∈fs.map (·.1)->g∈(yr f v fs).map (·.1)
 | []=>⟨by simp [yr],λg h=>by simp at h⟩
 | (k,x) :: r=>by
  obtain⟨i1,i2⟩:=Vi f v r
  rw [show yr f v ((k,x) :: r)=(if k=f then (k,v) :: r else (k,x) :: yr f v r) from rfl]
  by_cases hk:k=f
  ·rw [if_pos hk]
   subst hk
   exact⟨by simp,λg h=>by simpa using h⟩
  ·rw [if_neg hk]
   refine⟨?_,λg h=>?_⟩
   ·rw [List.map_cons]
    exact List.mem_cons_of_mem _ i1
   ·rw [List.map_cons] at h ⊢
    rcases List.mem_cons.mp h with e | e
    ·exact List.mem_cons.mpr (.inl e)
    ·exact List.mem_cons_of_mem _ (i2 g e)
theorem jh (f:Str) (v:V):∀ fs:List (Str×V),(yr f v fs).length<=fs.length+1
 | []=>by simp [yr]
 | (k,x) :: r=>by
  have ih:=jh f v r
  rw [show yr f v ((k,x) :: r)=(if k=f then (k,v) :: r else (k,x) :: yr f v r) from rfl]
  by_cases hk:k=f
  ·rw [if_pos hk,List.length_cons,List.length_cons];omega
  ·rw [if_neg hk,List.length_cons,List.length_cons];omega
theorem RelO.some_of {v:V} {o:Option Value} (r:RelO (some v) o):∃ u,o=some u/\RelV v u:=by
 cases o with
 | none=>exact (show False from r).elim
 | some u=>exact⟨u,rfl,r⟩
theorem RelO.none_of {o:Option Value} (r:RelO none o):o=none:=by
 cases o with
 | none=>rfl
 | some u=>exact (show False from r).elim
theorem zc6 {v:V} {u:Value} (r:RelV v u):W.handedIn u=true:=by
 cases v with
 | non=>cases (show u=Value.none from r);rfl
 | bl b=>cases (show u=Value.bool b from r);rfl
 | int i=>obtain⟨t,e⟩:=(show ∃ t,u=Value.int i t from r);cases e;rfl
 | str x=>obtain⟨t,e⟩:=(show ∃ t,u=Value.str x t from r);cases e;rfl
 | byt b=>obtain⟨t,e⟩:=(show ∃ t,u=Value.bytes b t from r);cases e;rfl
 | flt b=>obtain⟨t,e⟩:=(show ∃ t,u=Value.float b t from r);cases e;rfl
 | ref a=>cases (show u=Value.ref a from r);rfl
 | ty n=>cases (show u=Value.type n from r);rfl
section
variable {P:Program} {w:World} {H H':Hp} {h h':Heap} {a C dx:Addr} {fs fs':List (Str×V)}
theorem V2 (hok:HOk P w H h) (e:H a=some (.ins C dx fs)):∃ mA,ObjM h a dx C mA/\(∀ f,RelO (fs.lookup f) (mA f))/\PySem.Within mA (fs.map (·.1))/\fs.length<=1000/\H dx=some (.own a):=by
 obtain⟨d,z,ne,ob,mA,n,r,q⟩:=(show ObjOk P w H h a (.ins C dx fs) from hok a _ e)
 exact⟨mA,⟨ob,n,ne⟩,r,q,z,d⟩
end
structure Cls (K:W.Frag) (C:Addr):Prop where
 pg:W.plainGet K C Str.empty=true
 hd:W.hasDictIn K C=true
 po:W.plainOver K C=true
 sa:W.findIn K (.ref C) "__setattr__" = some (some (.builtin "object.__setattr__"))
theorem Cls.get {K:W.Frag} {C:Addr} (c:Cls K C) (f:Str):W.plainGet K C f=true:=c.pg
def NoAttr (K:W.Frag) (C:Addr) (f:Str):Prop:=W.findIn K (.ref C) f=some none
theorem NoAttr.taker {K:W.Frag} {C:Addr} {f:Str} (n:NoAttr K C f):W.takerIn K C f=some none:=by
 unfold W.takerIn
 rw [show W.findIn K (.ref C) f=some none from n]
 rfl
structure Meth (K:W.Frag) (C:Addr) (m:Str) (f:Addr):Prop where
 at_:W.findIn K (.ref C) m=some (some (.ref f))
 fn:W.isFn K (.ref f)=true
 kp:W.keepIn K (.ref f)=true
section
variable {X:Cx} {pins:List (Addr×Obj)} {Z:St} {H:Hp} {s:Shared} {a C dx:Addr} {fs:List (Str×V)} {f:Str} {v:V} {A:Around} {E:Value->Shared->Prop}
theorem zbh {b:Bool} {Q:Value->Shared->Prop} (I:Inv X pins Z H s) (e:H a=some (.ins C dx fs)) (c:Cls X.K C) (n:NoAttr X.K C f) (l:fs.lookup f=some v)
  (h:∀ u s',Inv X pins Z H s'->RelV v u->Q u s'):wpAny (model X.prog X.w) A (getAttr (.ref a) f b) Q E s:=by
 obtain⟨mA,O,r,_,_,_⟩:=V2 I.hok e
 obtain⟨u,hu,ru⟩:=RelO.some_of (v:=v) (o:=mA f) (by rw [<- l];exact r f)
 exact zeH I.kIn O (c.get f) c.hd n hu (zc6 ru) (h u _ (I.tok _) ru)
theorem zbo {m:Str} {g:Addr} {pl:Sem Bool} {Q:Value×List Value->Shared->Prop} (I:Inv X pins Z H s) (e:H a=some (.ins C dx fs)) (c:Cls X.K C) (k:Meth X.K C m g) (l:fs.lookup m=none)
  (h:Q (.ref g,[.ref a]) s):wpAny (model X.prog X.w) A (getMethod (.ref a) m pl) Q E s:=by
 obtain⟨mA,O,r,_,_,_⟩:=V2 I.hok e
 have hn:mA m=none:=RelO.none_of (by rw [<- l];exact r m)
 exact zdR I.kIn O (c.get m) k.at_ k.fn hn h
theorem zbH {y:V} {u:Value} {Q:Unit->Shared->Prop} (I:Inv X pins Z H s) (e:H a=some (.ins C dx fs)) (c:Cls X.K C) (n:NoAttr X.K C f) (hl:fs.length<1000) (ry:RelV y u)
  (h:∀ s',Inv X pins Z (upd H a (.ins C dx (yr f y fs))) s'->Q () s'):wpAny (model X.prog X.w) A (setAttr (.ref a) f u) Q E s:=by
 obtain⟨mA,O,r,wi,_,ho⟩:=V2 I.hok e
 have hz:(fs.map (·.1)).length<=sizeLine:=by rw [List.length_map,sizeLine_eq];omega
 refine zeG I.kIn O c.sa c.po n.taker c.hd wi hz λh' O' sb=>h _ ?_
 have hd:∃ o,h'.get? dx=some o:=let ⟨o,_,_,e',_⟩:=O'.ns;⟨o,e'⟩
 refine I.write (x:=a) (e:=dx) (by rw [e];exact True.intro) (.inr ho) (λb q hb z=>(sb.2 b hb).trans z) hd ?_
 refine⟨by rw [zq O.ne];exact ho,?_,O.ne,O'.obj,_,O'.ns,λg=>?_,λg hg=>?_⟩
 ·have:=jh f y fs;omega
 ·show RelO ((yr f y fs).lookup g) (if g=f then some u else mA g)
  rw [zM]
  by_cases q:g=f
  ·rw [if_pos q,if_pos q];exact ry
  ·rw [if_neg q,if_neg q];exact r g
 ·by_cases q:g=f
  ·rw [q];exact (Vi f y fs).1
  ·refine (Vi f y fs).2 g (wi g λz=>hg ?_)
   show (if g=f then some u else mA g)=none
   rw [if_neg q];exact z
theorem Inv.made (I:Inv X pins Z H s):Inv X pins Z (upd (upd H s.heap.objs.size (.own (s.heap.objs.size+1))) (s.heap.objs.size+1) (.ins C s.heap.objs.size []))
  { s with heap:=(s.heap.push W.emptyDict).push (W.instObj C s.heap.objs.size) }:=by
 have e1:(s.heap.push W.emptyDict).get? s.heap.objs.size=some W.emptyDict:=Heap.get?_push_size s.heap rfl
 have e2:((s.heap.push W.emptyDict).push (W.instObj C s.heap.objs.size)).get? (s.heap.objs.size+1)=some (W.instObj C s.heap.objs.size):=by
  have:=Heap.get?_push_size (s.heap.push W.emptyDict) (o:=W.instObj C s.heap.objs.size) rfl
  rwa [Heap.size_push] at this
 have e3:(s.heap.push W.emptyDict).Ns s.heap.objs.size (λ_=>none):=⟨W.emptyDict,#[],_,e1,rfl,(λe he=>absurd he (by simp)),λ_=>rfl⟩
 have I1:=I.laid (a:=s.heap.objs.size) (o:=.own (s.heap.objs.size+1)) (h':=s.heap.push W.emptyDict) (t':=s.toks) (λb u q=>Heap.get?_push_of_some _ q) (Nat.le_refl _) ⟨_,e1⟩
 refine I1.laid (a:=s.heap.objs.size+1) (o:=.ins C s.heap.objs.size []) (t':=s.toks) (λb u q=>Heap.get?_push_of_some _ q) (Nat.le_of_eq (Heap.size_push _ _)) ?_
 have ne:s.heap.objs.size≠s.heap.objs.size+1:=Nat.ne_of_lt (Nat.lt_succ_self _)
 refine⟨by rw [zq ne,zf],Nat.zero_le _,ne,e2,λ_=>none,(Heap.Ns1.of_empty e3).at λo q=>Heap.get?_push_of_some _ q,λ_=>True.intro,λy hy=>absurd rfl hy⟩
theorem zeC {prog:Program} {w:World} {env:Env} {e:Expr} {f:Str} {pos:Pos} {s:Shared} {Q:Value->Shared->Prop} (hb:attributeBase e f env (eval e env)=eval e env)
  (h:wpAny (model prog w) A (eval e env) (λo s₁=>wpAny (model prog w) A (getAttr o f true) Q E s₁) E s):wpAny (model prog w) A (eval (.Attribute e f pos) env) Q E s :=
 Attribute_any_ h (by rw [arm_eval_Attribute,hb])
end
def zgX (K:W.Frag) (ta:TE) (f:Str):TE:=λZ H Q=>ta Z H λx H1=>∃ a C dx fs v,x=.ref a/\H1 a=some (.ins C dx fs)/\Cls K C/\NoAttr K C f/\fs.lookup f=some v/\Q v H1
def zhb (K:W.Frag) (ta tv:TE) (f:Str):TS:=λD Z H=>tv Z H λy H1=>ta Z H1 λx H2=>∃ a C dx fs,x=.ref a/\H2 a=some (.ins C dx fs)/\Cls K C/\NoAttr K C f/\fs.length<1000 /\
 D.nx Z (upd H2 a (.ins C dx (yr f y fs)))
section
variable {X:Cx} {o e value:Expr} {f:Str} {pos pos' tpos:Pos} {ta tv:TE}
theorem zf5 (he:PE X e ta) (hb:attributeBase e f X.env (eval e X.env)=eval e X.env):PE X (.Attribute e f pos) (zgX X.K ta f):=by
 intro pins s Z H Q I h
 refine zeC hb (thn (he pins s Z H _ I h) λu s1 ⟨x,H1,I1,rx,a,C,dx,fs,v,ex,ea,c,n,l,q⟩=>?_)
 subst ex
 obtain rfl:u=Value.ref a:=rx
 exact zbh I1 ea c n l λu' s2 I2 ru=>⟨v,H1,I2,ru,q⟩
theorem Wr (ha:PE X o ta) (hv:PE X value tv) (hs:swapsWith value (some (.Attribute o f pos')) pos.line X.env=pure false):PS X (.Assign [.Attribute o f pos'] value pos) (zhb X.K ta tv f):=by
 intro pins s Z H D I h
 refine plainObj_wpAny_Assign_Attribute (thn (hv pins s Z H _ I h) λu s1 ⟨y,H1,I1,ry,q⟩=>thn (ha pins s1 Z H1 _ I1 q) λov s2 ⟨x,H2,I2,rx,a,C,dx,fs,ex,ea,c,n,l,q2⟩=>?_) hs
 subst ex
 obtain rfl:ov=Value.ref a:=rx
 exact zbH I2 ea c n l ry λs3 I3=>⟨Z,_,I3,q2⟩
end
section
variable {X:Cx} {pins:List (Addr×Obj)} {Z:St} {H:Hp} {s:Shared} {A:Around} {E:Value->Shared->Prop} {Q:Value->Shared->Prop} {c:Value} {b:Bool}
inductive Vk (K:W.Frag) (H:Hp):V->Value->Prop where
 | non:Vk K H .non (.type "NoneType")
 | bl (x:Bool):Vk K H (.bl x) (.type "bool")
 | int (i:Int):Vk K H (.int i) (.type "int")
 | str (x:Str):Vk K H (.str x) (.type "str")
 | flt (x:UInt64):Vk K H (.flt x) (.type "float")
 | lst {a:Addr} {xs:List V} (e:H a=some (.lst xs)):Vk K H (.ref a) (.type "list")
 | frz {a:Addr} {o:Obj} {xs:List V} (e:H a=some (.frz o (.lst xs))):Vk K H (.ref a) (.type "list")
 | tup {a:Addr} {xs:List V} (e:H a=some (.tup xs)):Vk K H (.ref a) (.type "tuple")
 | dK {a:Addr} {kvs:List (Key×V)} (e:H a=some (.dK kvs)):Vk K H (.ref a) (.type "dict")
 | dT {a:Addr} {kvs:List (List Key×V)} (e:H a=some (.dT kvs)):Vk K H (.ref a) (.type "dict")
 | ins {a C dx:Addr} {fs:List (Str×V)} (e:H a=some (.ins C dx fs)) (cl:Cls K C) (ha:W.findIn K (.ref C) "__class__" = some (some (.builtin "object.__class__")))
   (hn:W.specialIn K (.builtin "object.__class__") "__get__" = some (some (.builtin "getset_descriptor.__get__"))) (htk:W.takesIn K (.builtin "object.__class__")=some true)
   (hm:W.mroIn K C (.type "object")=some true):Vk K H (.ref a) (.ref C)
theorem zc5 {x:V} {u t:Value} (I:Inv X pins Z H s) (rx:RelV x u) (ty:Vk X.K H x t) (e:W.kitOne X.K t c=some b) (h:∀ tk,Q (.bool b) { s with toks:=tk }) :
  wpAny (model X.prog X.w) A (call (.builtin "isinstance") [u,c]) Q E s:=by
 cases ty with
 | non=>cases (show u=Value.none from rx);exact W.kia_one W.kitx_none I.kIn True.intro e (λz=>nomatch z) h
 | bl y=>cases (show u=Value.bool y from rx);exact W.kia_one W.kitx_bool I.kIn True.intro e (λz=>nomatch z) h
 | int i=>obtain⟨t,q⟩:=(show ∃ t,u=Value.int i t from rx);cases q;exact W.kia_one W.kitx_int I.kIn True.intro e (λz=>nomatch z) h
 | str y=>obtain⟨t,q⟩:=(show ∃ t,u=Value.str y t from rx);cases q;exact W.kia_one W.kitx_str I.kIn True.intro e (λz=>nomatch z) h
 | flt y=>obtain⟨t,q⟩:=(show ∃ t,u=Value.float y t from rx);cases q;exact W.kia_one W.kitx_float I.kIn True.intro e (λz=>nomatch z) h
 | @lst a xs ea =>
  cases (show u=Value.ref a from rx)
  obtain⟨_,_,n,_,h1⟩:=(show ObjOk X.prog X.w H s.heap a (.lst xs) from I.hok a _ ea)
  exact W.kia_one W.kitx_list I.kIn ⟨_,h1,rfl⟩ e (λz=>nomatch z) h
 | @frz a ob xs ea =>
  cases (show u=Value.ref a from rx)
  obtain⟨_,_,_,n,_,h1⟩:=(show ObjOk X.prog X.w H s.heap a (.frz ob (.lst xs)) from I.hok a _ ea)
  exact W.kia_one W.kitx_list I.kIn ⟨_,h1,rfl⟩ e (λz=>nomatch z) h
 | @tup a xs ea =>
  cases (show u=Value.ref a from rx)
  obtain⟨_,_,_,p⟩:=(show ObjOk X.prog X.w H s.heap a (.tup xs) from I.hok a _ ea)
  obtain⟨o,h1,h2,_⟩:=p
  exact W.kia_one W.kitx_tuple I.kIn ⟨o,h1,h2⟩ e (λz=>nomatch z) h
 | @dK a kvs ea =>
  cases (show u=Value.ref a from rx)
  obtain⟨_,_,vs,_,p⟩:=(show ObjOk X.prog X.w H s.heap a (.dK kvs) from I.hok a _ ea)
  obtain⟨o,es,ep,h1,h2,_⟩:=p
  exact W.kia_one W.kitx_dict I.kIn ⟨o,h1,h2.1⟩ e (λz=>nomatch z) h
 | @dT a kvs ea =>
  cases (show u=Value.ref a from rx)
  obtain⟨_,_,xs,_,o,es,ep,h1,h2,_⟩:=(show ObjOk X.prog X.w H s.heap a (.dT kvs) from I.hok a _ ea)
  exact W.kia_one W.kitx_dict I.kIn ⟨o,h1,h2.1⟩ e (λz=>nomatch z) h
 | @ins a C dx fs ea cl ha hn htk hm =>
  cases (show u=Value.ref a from rx)
  obtain⟨mA,O,_⟩:=V2 I.hok ea
  obtain⟨od,J,_⟩:=O.look
  exact W.kia_one (W.kitx_own (cl.get _) cl.hd ha hn htk hm) I.kIn J e (λz=>nomatch z) h
end
structure Room (k:Nat) (A:Around):Prop where
 hd:A.handled=none
 dp:A.depth+k+5<recursionLimit
 un:A.units+16*k+200<cLine
 gd:A.guards=some []
theorem Room.mono {j k:Nat} {A:Around} (r:Room k A) (h:j<=k):Room j A:=⟨r.hd,by have:=r.dp;omega,by have:=r.un;omega,r.gd⟩
theorem Room.deeper {k:Nat} {A:Around} (r:Room (k+1) A) (env:Env):Room k (A.deeper env) :=
 ⟨r.hd,by have:=r.dp;show A.depth+1+k+5<_;omega,by have:=r.un;show A.units+3+16*k+200<_;omega,r.gd⟩
theorem Room.in1 {k:Nat} {A:Around} (r:Room (k+1) A):Room k A.in1 :=
 ⟨r.hd,by have:=r.dp;show A.depth+k+5<_;omega,by have:=r.un;show A.units+1+16*k+200<_;omega,r.gd⟩
theorem zbR {A:Around} {C:Addr} {us:List Value} {kw:List (Str×Value)}:(A.under (.builtin "type.__call__" ⟨.ref C :: us,kw⟩)).depth=A.depth+1:=by
 first | rfl | simp [Around.under,Code.weight,Code.isCreation,Code.isGuard,Code.isCaller,Code.frames,Code.isFrame,guardIds]
theorem zbV {A:Around} {C:Addr} {us:List Value} {kw:List (Str×Value)}:(A.under (.builtin "type.__call__" ⟨.ref C :: us,kw⟩)).units=A.units+1:=by
 first | rfl | simp [Around.under,Code.cUnits,Code.frames,Code.isFrame]
theorem Room.make {k:Nat} {A:Around} (r:Room (k+1) A) (C:Addr) (us:List Value) (kw:List (Str×Value)):Room k (A.under (.builtin "type.__call__" ⟨.ref C :: us,kw⟩)) :=
 ⟨r.hd,by have:=r.dp;rw [zbR];omega,by have:=r.un;rw [zbV];omega,by first | exact r.gd | (simp [Around.under,Code.guards,Code.isGuard,guardIds];exact r.gd)⟩
theorem Room.depth {k:Nat} {A:Around} (r:Room k A):A.depth<recursionLimit:=by have:=r.dp;omega
theorem Room.units {k:Nat} {A:Around} (r:Room k A):A.units+64<cLine:=by have:=r.un;omega
def zgr:TA:=λ_ H Q=>Q [] H
def zfh (ta:TE) (tr:TA):TA:=λZ H Q=>ta Z H λx H1=>tr Z H1 λxs H2=>Q (x :: xs) H2
section
variable {X:Cx} {e:Expr} {es:List Expr} {te:TE} {t:TA} {pos:Pos}
theorem zg:PA X [] zgr:=λ_ _ _ _ H Q I h=>Calls.spliced_nil ⟨[],H,I,.nil,h⟩
theorem zc (ha:PE X e te) (hr:PA X es t) (hs:starEach (e :: es) X.env=(false,eval e X.env) :: starEach es X.env:=by rfl):PA X (e :: es) (zfh te t):=by
 intro pos pins s Z H Q I h
 rw [hs]
 show wpAny _ _ (spliced ((false,eval e X.env) :: backTo pos (starEach es X.env))) _ _ s
 refine Calls.spliced_cons (thn (ha pins s Z H _ I h) λu s1 ⟨x,H1,I1,r1,q1⟩=>?_)
 exact thn (hr pos pins s1 Z H1 _ I1 q1) λus s2 ⟨xs,H2,I2,r2,q2⟩=>⟨x :: xs,H2,I2,.cons r1 r2,q2⟩
def zgZ (t:TA):TE:=λZ H Q=>t Z H λxs H1=>xs.length<=sizeLine/\∀ p,H1 p=none->Q (.ref p) (upd H1 p (.tup xs))
def zho (t:TA):TE:=λZ H Q=>t Z H λxs H1=>xs.length<=sizeLine/\∀ p,H1 p=none->Q (.ref p) (upd H1 p (.lst xs))
theorem vd {x1} (h:PA X es t):PE X (.Tuple es x1 pos) (zgZ t):=by
 intro pins s Z H Q I hq
 refine wpAny_Tuple_spliced (thn (h pos pins s Z H _ I hq) λus s1 ⟨xs,H1,I1,r,z,q⟩=>⟨by rw [<- r.length];exact z,?_⟩)
 have hf:H1 s1.heap.objs.size=none:=I1.hok.fresh (Nat.le_refl _)
 refine⟨.ref s1.heap.objs.size,upd H1 s1.heap.objs.size (.tup xs),I1.laid (t':=s1.toks) (λb u e=>Heap.get?_push_of_some _ e) (Nat.le_refl _) ?_,rfl,q _ hf⟩
 exact⟨z,us,r,⟨_,Heap.get?_push_size _ rfl,rfl,_,rfl⟩⟩
theorem zZ (h:PA X es t):PE X (.List es pos) (zho t):=by
 intro pins s Z H Q I hq
 refine wpAny_List_spliced (thn (h pos pins s Z H _ I hq) λus s1 ⟨xs,H1,I1,r,z,q⟩=>⟨by rw [<- r.length];exact z,?_⟩)
 have hf:H1 s1.heap.objs.size=none:=I1.hok.fresh (Nat.le_refl _)
 refine⟨.ref s1.heap.objs.size,upd H1 s1.heap.objs.size (.lst xs),I1.laid (t':=s1.toks) (λb u e=>Heap.get?_push_of_some _ e) (Nat.le_refl _) ?_,rfl,q _ hf⟩
 exact⟨z,us,0,r,Heap.get?_push_size _ rfl⟩
end
abbrev Sp:=List V->Hp->VK->XK->Prop
abbrev CXT:=List Env->Hp->Shared->XK->Value->Shared->Prop
structure Env0 (P:Program) (w:World) (K:W.Frag) (mg:Str->Option Value) (base:Heap) (A:Around) (outer:List Env) (s:Shared) (H:Hp):Prop where
 frames:A.frames=some outer
 mod:Mod K mg base
 bs:∀ b o,base.get? b=some o->s.heap.get? b=some o/\H b=none
 bsz:base.objs.size<=s.heap.objs.size
 funs:s.heap.FunFrames base outer
 frf:∀ b∈frs outer,H b=none
 hok:HOk P w H s.heap
 bare:AllBare s.gens
def CE (outer:List Env) (P:Program) (w:World) (H:Hp) (s:Shared) (Q:VK) (u:Value) (s':Shared):Prop :=
 ∃ v H',s'.os=s.os/\AllBare s'.gens/\Un (frs outer) [] H H' s.heap s'.heap/\HOk P w H' s'.heap/\RelV v u/\Q v H'
def CR (CX:CXT) (outer:List Env) (P:Program) (w:World) (H:Hp) (s:Shared) (Q:VK) (E:XK) (r:Result) (s':Shared):Prop :=
 match r with
 | .ok (.ret u)=>CE outer P w H s Q u s'
 | .ok _=>False
 | .error e=>CX outer H s E e s'
structure FnOk (P:Program) (w:World) (K:W.Frag) (mg:Str->Option Value) (base:Heap) (CX:CXT) (k:Nat) (f:Addr) (fd:FuncData) (ps:List Str) (sp:Sp):Prop where
 len:∀ vs H Q E,sp vs H Q E->vs.length=ps.length
 run:∀ (A:Around) (outer:List Env) (s:Shared) (H:Hp) (args:Args) (us:List Value) (vs:List V) (Q:VK) (E:XK),Room k A->Env0 P w K mg base A outer s H->BindsTo s fd args (ps.zip us)->Vals vs us->sp vs H Q E ->
  codeAny (model P w) A (.call (.ref f) args) (CR CX outer P w H s Q E) s
theorem FnOk.imp {P:Program} {w:World} {K:W.Frag} {mg:Str->Option Value} {base:Heap} {CX:CXT} {k:Nat} {f:Addr} {fd:FuncData} {ps:List Str} {sp sp':Sp} (F:FnOk P w K mg base CX k f fd ps sp)
  (h:∀ vs H Q E,sp' vs H Q E->sp vs H Q E):FnOk P w K mg base CX k f fd ps sp' :=
 ⟨λvs H Q E q=>F.len vs H Q E (h _ _ _ _ q),λA outer s H args us vs Q E hr he hb hv hs=>F.run A outer s H args us vs Q E hr he hb hv (h _ _ _ _ hs)⟩
theorem Env0.make {P:Program} {w:World} {K:W.Frag} {mg:Str->Option Value} {base:Heap} {A:Around} {outer:List Env} {s:Shared} {H:Hp} (e:Env0 P w K mg base A outer s H) (C:Addr) (us:List Value) (kw:List (Str×Value)) :
  Env0 P w K mg base (A.under (.builtin "type.__call__" ⟨.ref C :: us,kw⟩)) outer s H:=⟨by first | exact e.frames | (simpa [Around.under,Code.envs,Code.isFrame,pushEnvs] using e.frames),e.mod,e.bs,e.bsz,e.funs,e.frf,e.hok,e.bare⟩
theorem Env0.in1 {P:Program} {w:World} {K:W.Frag} {mg:Str->Option Value} {base:Heap} {A:Around} {outer:List Env} {s:Shared} {H:Hp} (e:Env0 P w K mg base A outer s H) :
  Env0 P w K mg base A.in1 outer s H:=⟨e.frames,e.mod,e.bs,e.bsz,e.funs,e.frf,e.hok,e.bare⟩
section
variable {X:Cx} {pins:List (Addr×Obj)} {Z:St} {H:Hp} {s s':Shared}
theorem Inv.env0 (I:Inv X pins Z H s):Env0 X.prog X.w X.K X.mg X.base X.A X.stack s H :=
 ⟨I.ok.frames,I.ok.mod,I.bs,Nat.le_trans I.ok.bsz I.sz,I.stack,I.stkFree,I.hok,I.bare⟩
theorem Inv.after {Q:VK} {u:Value} (I:Inv X pins Z H s) (h:CE X.stack X.prog X.w H s Q u s'):EP X pins Z Q u s':=by
 obtain⟨v,H',os,bare,un,hok,r,q⟩:=h
 obtain⟨hh,g,d,t,os'⟩:=s'
 obtain rfl:os'=s.os:=os
 exact⟨v,H',I.call (h':=hh) (g':=g) (d':=d) (t':=t) (ch:=[]) un hok bare (λb z=>absurd z (by simp)),r,q⟩
end
def zfn (sp:Sp) (dvs:List V) (E:XK) (t:TA):TE:=λZ H Q=>t Z H λvs H1=>sp (vs++dvs) H1 Q E
def zfg (C:Addr) (m:Str) (sp:Sp) (dvs:List V) (E:XK) (ta:TE) (t:TA):TE:=λZ H Q=>ta Z H λx H1=>∃ a dx fs,x=.ref a/\H1 a=some (.ins C dx fs)/\fs.lookup m=none /\
 t Z H1 λvs H2=>sp (x :: (vs++dvs)) H2 Q E
def zgd (C:Addr) (sp:Sp) (dvs:List V) (E:XK) (t:TA):TE:=λZ H Q=>t Z H λvs H1=>∀ x dx,H1 x=none->H1 dx=none->dx≠x ->
 sp (.ref x :: (vs++dvs)) (upd (upd H1 dx (.own x)) x (.ins C dx [])) (λv H2=>v=.non/\Q (.ref x) H2) E
def Binds (K:W.Frag) (fd:FuncData) (ps:List Str) (ds:List Value):Prop :=
 ∀ (s:Shared) (us:List Value),K.In s.heap->(us++ds).length=ps.length->BindsTo s fd ⟨us,[]⟩ (ps.zip (us++ds))
theorem Binds.all {K:W.Frag} {fd:FuncData} {ps:List Str} (h:∀ us:List Value,us.length=ps.length->bindArgs fd ⟨us,[]⟩=pure (ps.zip us)):Binds K fd ps []:=λs us _ hl=>by
 rw [List.append_nil] at hl ⊢
 exact .of_eq (h us hl)
def Vd (CX:CXT) (X:Cx) (E:XK):Prop:=∀ (pins:List (Addr×Obj)) (Z:St) (H:Hp) (s:Shared) (e:Value) (s':Shared),Inv X pins Z H s->CX X.stack H s E e s'->X.xe e s'
section
variable {X:Cx} {CX:CXT} {k:Nat} {f C:Addr} {fd:FuncData} {ps:List Str} {sp:Sp} {dvs:List V} {ds:List Value} {E:XK} {x m:Str} {p pos apos:Pos} {e o:Expr} {es:List Expr} {ta:TE} {t:TA}
theorem zdp {pins:List (Addr×Obj)} {Z:St} {H:Hp} {s:Shared} {Q:VK} {us:List Value} {vs:List V} (F:FnOk X.prog X.w X.K X.mg X.base CX k f fd ps sp) (hr:Room k X.A) (hb:Binds X.K fd ps ds) (hd:Vals dvs ds) (hx:Vd CX X E)
  (I:Inv X pins Z H s) (r:Vals vs us) (h:sp (vs++dvs) H Q E):wpAny (model X.prog X.w) X.A (call (.ref f) us) (EP X pins Z Q) X.xe s:=by
 have r2:Vals (vs++dvs) (us++ds):=r.append hd
 have hl:(us++ds).length=ps.length:=by rw [<- r2.length];exact F.len _ _ _ _ h
 refine wpAny_call (codeAny_mono (F.run X.A X.stack s H ⟨us,[]⟩ (us++ds) (vs++dvs) Q E hr I.env0 (hb s us I.kIn hl) r2 h) λr s' hq=>?_)
 cases r with
 | error e=>exact hx pins Z H s e s' I hq
 | ok fl =>
  cases fl with
  | ret u=>exact I.after hq
  | next=>exact False.elim hq
  | brk=>exact False.elim hq
  | cont=>exact False.elim hq
theorem zeW (F:FnOk X.prog X.w X.K X.mg X.base CX k f fd ps sp) (hr:Room k X.A) (hg:Gl X x) (hm:X.mg x=some (.ref f)) (hk:W.keepIn X.K (.ref f)=true) (hb:Binds X.K fd ps ds) (hd:Vals dvs ds) (hx:Vd CX X E)
  (ha:PA X (e :: es) t) (hdb:(x == ("__debug__" : Str))=false:=by decide) (he:starEach (e :: es) X.env=(false,eval e X.env) :: starEach es X.env:=by rfl) (hpl:(backTo pos (starEach es X.env)).any (·.1)=false:=by rfl) :
  PE X (.Call (.Name x p) (e :: es) [] pos) (zfn sp dvs E t):=by
 intro pins s Z H Q I h
 refine wpAny_Call_Name_kw (J6 I hg hm ?_ hdb)
 refine W.callWith_K (h₀:=X.base) I.ok.mod.kin hk (thn (ha pos pins s Z H _ I h) λus s1 ⟨vs,H1,I1,r,q⟩=>⟨I1.kIn,?_⟩) he hpl
 exact zdp F hr hb hd hx I1 r q
theorem zeT {pl:Sem Bool} (he:PE X o ta) (c:Cls X.K C) (hm:Meth X.K C m f) (F:FnOk X.prog X.w X.K X.mg X.base CX k f fd ps sp) (hr:Room k X.A) (hb:Binds X.K fd ps ds) (hd:Vals dvs ds) (hx:Vd CX X E) (ha:PA X (e :: es) t)
  (hst:starEach (e :: es) X.env=(false,eval e X.env) :: starEach es X.env:=by rfl) (hpl:(backTo pos (starEach es X.env)).any (·.1)=false:=by rfl)
  (ht:eval (.Call (.Attribute o m apos) (e :: es) [] pos) X.env=(do
   let ov <- eval o X.env
   standAt apos.atName
   let (f,first) <- holding [ov] (getMethod ov m pl)
   callWith pos f first (backTo pos (starEach (e :: es) X.env)) (backToKw pos (keywordEach [] X.env))):=by rfl) :
  PE X (.Call (.Attribute o m apos) (e :: es) [] pos) (zfg C m sp dvs E ta t):=by
 intro pins s Z H Q I h
 refine W.methodCall_KW (pl:=pl) (thn (he pins s Z H _ I h) λu s1 ⟨x,H1,I1,rx,a,dx,fs,ex,ea,l,q⟩=>?_) ht
 subst ex
 obtain rfl:u=Value.ref a:=rx
 refine zbo I1 ea c hm l ?_
 refine W.callWith_K (first:=[.ref a]) (h₀:=X.base) I.ok.mod.kin hm.kp (thn (ha pos pins s1 Z H1 _ I1 q) λus s2 ⟨vs,H2,I2,r,q2⟩=>⟨I2.kIn,?_⟩) hst hpl
 exact zdp (us:=.ref a :: us) (vs:=.ref a :: vs) F hr hb hd hx I2 (.cons rfl r) q2
structure Mk (K:W.Frag) (C f:Addr):Prop where
 makes:W.makesIn K C=true
 init:W.findIn K (.ref C) "__init__" = some (some (.ref f))
 fn:W.isFn K (.ref f)=true
 kp:W.keepIn K (.ref C)=true
theorem zdO {pins:List (Addr×Obj)} {Z:St} {H:Hp} {s:Shared} {Q:VK} {us:List Value} {vs:List V} (M:Mk X.K C f) (F:FnOk X.prog X.w X.K X.mg X.base CX k f fd ps sp) (hr:Room (k+1) X.A) (hb:Binds X.K fd ps ds) (hd:Vals dvs ds)
  (hx:Vd CX X E) (I:Inv X pins Z H s) (r:Vals vs us)
  (h:∀ x dx,H x=none->H dx=none->dx≠x->sp (.ref x :: (vs++dvs)) (upd (upd H dx (.own x)) x (.ins C dx [])) (λv H2=>v=.non/\Q (.ref x) H2) E) :
  wpAny (model X.prog X.w) X.A (call (.ref C) us) (EP X pins Z Q) X.xe s:=by
 have hq:=h (s.heap.objs.size+1) s.heap.objs.size (I.hok.fresh (Nat.le_succ _)) (I.hok.fresh (Nat.le_refl _)) (Nat.ne_of_lt (Nat.lt_succ_self _))
 have I2:=Inv.made (C:=C) I
 have r2:Vals (V.ref (s.heap.objs.size+1) :: (vs++dvs)) (Value.ref (s.heap.objs.size+1) :: (us++ds)):=.cons rfl (r.append hd)
 have hl:(Value.ref (s.heap.objs.size+1) :: us++ds).length=ps.length:=by
  have e:=r2.length
  rw [F.len _ _ _ _ hq] at e
  exact e.symm
 refine wpAny_call (zee (f:=f) I.kIn M.makes M.init (beq_iff_eq.mp M.fn) (codeAny_mono (F.run _ X.stack _ _ ⟨Value.ref (s.heap.objs.size+1) :: us,[]⟩ (Value.ref (s.heap.objs.size+1) :: (us++ds)) _ _ E (hr.make C us [])
  (I2.env0.make C us []) (hb _ (Value.ref (s.heap.objs.size+1) :: us) I2.kIn hl) r2 hq) λr s' hq'=>?_))
 cases r with
 | error e=>exact hx pins Z _ _ e s' I2 hq'
 | ok fl =>
  cases fl with
  | ret u =>
   obtain⟨v,H',I3,rv,ev,q3⟩:=I2.after hq'
   subst ev
   exact⟨rv,⟨V.ref (s.heap.objs.size+1),H',I3,rfl,q3⟩⟩
  | next=>exact False.elim hq'
  | brk=>exact False.elim hq'
  | cont=>exact False.elim hq'
theorem JT (M:Mk X.K C f) (F:FnOk X.prog X.w X.K X.mg X.base CX k f fd ps sp) (hr:Room (k+1) X.A) (hg:Gl X x) (hm:X.mg x=some (.ref C)) (hb:Binds X.K fd ps ds) (hd:Vals dvs ds) (hx:Vd CX X E)
  (ha:PA X (e :: es) t) (hdb:(x == ("__debug__" : Str))=false:=by decide) (he:starEach (e :: es) X.env=(false,eval e X.env) :: starEach es X.env:=by rfl) (hpl:(backTo pos (starEach es X.env)).any (·.1)=false:=by rfl) :
  PE X (.Call (.Name x p) (e :: es) [] pos) (zgd C sp dvs E t):=by
 intro pins s Z H Q I h
 refine wpAny_Call_Name_kw (J6 I hg hm ?_ hdb)
 refine W.callWith_K (h₀:=X.base) I.ok.mod.kin M.kp (thn (ha pos pins s Z H _ I h) λus s1 ⟨vs,H1,I1,r,q⟩=>⟨I1.kIn,?_⟩) he hpl
 exact zdO M F hr hb hd hx I1 r q
end
section
variable {X:Cx} {CX:CXT} {k:Nat} {f C:Addr} {fd:FuncData} {ps ks:List Str} {sp:Sp} {E:XK} {x m:Str} {p pos apos kpos:Pos} {e o:Expr} {es:List Expr} {kws:List Keyword} {te ta:TE} {t tk:TA} {nm:Option Str}
variable {g:List Value->List Value->List Value} {gV:List V->List V->List V}
end
structure zF (N P:List Str) (sc:Scope):Prop where
 kind:sc.kind=.function:=by rfl
 co:sc.isCoroutine=false:=by rfl
 gen:sc.isGenerator=false:=by rfl
 nd:N.Nodup:=by decide +kernel
 pre:N.take P.length=P:=by rfl
 par:∀ x∈P,sc.names.lookup x=some .local\/sc.names.lookup x=some .cell:=by decide +kernel
 nofree:∀ y∈sc.names,y.2≠.free:=by decide +kernel
theorem Jm {kindOf:Str->Option NameKind} {x:Str}:∀ {binds:List (Str×Value)} {m:Str->Option Value},(∀ v,(x,v)∉binds)->bindL kindOf binds m x=m x
 | [],_,_=>rfl
 | (n,v) :: r,m,h=>by
  unfold bindL
  rw [Jm λw hw=>h w (List.mem_cons_of_mem _ hw)]
  split
  ·have:x≠n:=by rintro rfl;exact h v List.mem_cons_self
   simp [this]
  ·rfl
theorem Jc {kindOf:Str->Option NameKind} {x:Str}:∀ {binds:List (Str×Value)} {m:Str->Option Value},(∀ v,(x,v)∉binds)->bindC kindOf binds m x=m x
 | [],_,_=>rfl
 | (n,v) :: r,m,h=>by
  unfold bindC
  rw [Jc λw hw=>h w (List.mem_cons_of_mem _ hw)]
  split
  ·rfl
  ·have:x≠n:=by rintro rfl;exact h v List.mem_cons_self
   simp [this]
theorem Jd {kindOf:Str->Option NameKind} {x:Str} {v:Value}:∀ {P:List Str} {vs:List Value} {i:Nat} {m:Str->Option Value},P.Nodup->P[i]?=some x->vs[i]?=some v->kindOf x=some .local ->
  bindL kindOf (P.zip vs) m x=some v
 | [],_,_,_,_,h,_,_=>by simp at h
 | _ :: _,[],_,_,_,_,h,_=>by simp at h
 | p :: P,w :: vs,0,m,nd,h1,h2,hk=>by
  simp at h1 h2;subst h1;subst h2
  show bindL kindOf ((p,w) :: P.zip vs) m p=_
  unfold bindL
  rw [Jm λv hv=>(List.nodup_cons.mp nd).1 (List.of_mem_zip hv).1,if_pos hk]
  simp
 | p :: P,w :: vs,i+1,m,nd,h1,h2,hk=>by
  show bindL kindOf ((p,w) :: P.zip vs) m x=_
  unfold bindL
  exact Jd (i:=i) (List.nodup_cons.mp nd).2 (by simpa using h1) (by simpa using h2) hk
theorem Q7 {kindOf:Str->Option NameKind} {x:Str} {v:Value}:∀ {P:List Str} {vs:List Value} {i:Nat} {m:Str->Option Value},P.Nodup->P[i]?=some x->vs[i]?=some v->kindOf x≠some .local ->
  bindC kindOf (P.zip vs) m x=some v
 | [],_,_,_,_,h,_,_=>by simp at h
 | _ :: _,[],_,_,_,_,h,_=>by simp at h
 | p :: P,w :: vs,0,m,nd,h1,h2,hk=>by
  simp at h1 h2;subst h1;subst h2
  show bindC kindOf ((p,w) :: P.zip vs) m p=_
  unfold bindC
  rw [Jc λv hv=>(List.nodup_cons.mp nd).1 (List.of_mem_zip hv).1,if_neg hk]
  simp
 | p :: P,w :: vs,i+1,m,nd,h1,h2,hk=>by
  show bindC kindOf ((p,w) :: P.zip vs) m x=_
  unfold bindC
  exact Q7 (i:=i) (List.nodup_cons.mp nd).2 (by simpa using h1) (by simpa using h2) hk
def start (N:List Str) (vs:List V):St:=vs.map some++List.replicate (N.length-vs.length) none
def VP (CX:CXT) (P:Program) (w:World) (K:W.Frag) (mg:Str->Option Value) (base:Heap) (N:List Str) (qual:Str) (scope:Scope) (f:Addr) (cd:Value) (A:Around) (outer:List Env) (s:Shared) (H:Hp) (E:XK):Cx where
 prog:=P
 w:=w
 K:=K
 mg:=mg
 base:=base
 A:=A.deeper (envOfC qual scope s.heap.objs.size f cd)
 N:=N
 s₀:=s
 H₀:=H
 env:=envOfC qual scope s.heap.objs.size f cd
 outer:=outer
 stack:=envOfC qual scope s.heap.objs.size f cd :: outer
 ex:=[]
 calm:=true
 fn:=λ_=>true
 pn:=[]
 xe:=λe s'=>wpAny (model P w) (A.deeper (envOfC qual scope s.heap.objs.size f cd)) (leaving (envOfC qual scope s.heap.objs.size f cd) e) (λ_ s''=>CX outer H s E e s'') (λe' s''=>CX outer H s E e' s'') s'
theorem zax {sc:Scope} {n:Nat} {x:Str} (h:sc.names.lookup x=some .cell):∃ c,(cellsFrom n sc.names []).lookup x=some c:=by
 have q:=W.cellsFrom_some sc.names n [] (.inl h)
 exact Option.isSome_iff_exists.mp q
theorem QT {CX:CXT} {P:Program} {w:World} {K:W.Frag} {mg:Str->Option Value} {base:Heap} {N ps:List Str} {qual:Str} {scope:Scope} {f:Addr} {cd:Value} {A:Around} {outer:List Env} {s s1:Shared} {H:Hp} {E:XK} {us:List Value} {vs:List V}
  (S:zF N ps scope) (hd:A.handled=none) (e0:Env0 P w K mg base A outer s H) (hl:vs.length=ps.length) (r:Vals vs us)
  (x:InCallC s s.heap.objs.size (bindL (envOfC qual scope s.heap.objs.size f cd).kindOf (ps.zip us) λ_=>none) (cellsFrom (s.heap.objs.size+1) scope.names []) (bindC (envOfC qual scope s.heap.objs.size f cd).kindOf (ps.zip us) λ_=>none) s1) :
  Inv (VP CX P w K mg base N qual scope f cd A outer s H E) [] (start N vs) H s1:=by
 have hpl:ps.length<=N.length:=by have:=congrArg List.length S.pre;rw [List.length_take] at this;omega
 obtain⟨h1,tk,rfl,hk⟩:=x.done
 have noA:∀ b:Addr,b∉(VP CX P w K mg base N qual scope f cd A outer s H E).ex:=λb z=>absurd (show b∈([]:List Addr) from z) (by simp)
 refine⟨⟨e0.mod,S.kind,rfl,rfl,Nat.le_refl _,λy z c h1 h2=>?_,λy hy=>?_,λy c _ h=>?_,λ_=>hd,Around.frames_deeper e0.frames,.inr ⟨rfl,rfl⟩,λb z=>absurd z (noA b),e0.bs,e0.bsz,λb _ _=>noA b,λb z=>absurd z (noA b),e0.funs,e0.frf⟩,
  rfl,e0.bare,Un.kept hk,⟨_,x.toInCall.ns,λi y v h1 h2 h3=>?_⟩,λy c h=>⟨_,x.cell y c h⟩,e0.hok.fresh (Nat.le_refl _),λy c h=>?_,λp hp=>absurd (show p∈([]:List (Addr×Obj)) from hp) (by simp),e0.hok.kept hk,?_⟩
 ·exact name_of_addr x.apart (PySem.mem_of_lookup h1) (PySem.mem_of_lookup h2)
 ·have hy:scope.names.lookup y=some .cell\/scope.names.lookup y=some .free:=hy
  rcases hy with hy | hy
  ·exact zax hy
  ·exact absurd rfl (S.nofree _ (PySem.mem_of_lookup hy))
 ·exact Nat.le_of_lt (x.above y c (PySem.mem_of_lookup h))
 ·have hi:i<vs.length:=by
   unfold start at h2
   by_cases hi:i<vs.length
   ·exact hi
   ·rw [List.getElem?_append_right (by simpa using hi)] at h2
    rw [List.getElem?_replicate] at h2
    split at h2<;>cases h2
  have ha:vs[i]?=some v:=by
   unfold start at h2
   rw [List.getElem?_append_left (by simpa using hi),List.getElem?_map] at h2
   cases e:vs[i]? with
   | none=>rw [e] at h2;cases h2
   | some a=>rw [e] at h2;cases h2;rfl
  obtain⟨u,hu,rv⟩:=r.get ha
  have hp:ps[i]?=some y:=by
   rw [<- S.pre,List.getElem?_take_of_lt (by omega)];exact h1
  have ndP:ps.Nodup:=by rw [<- S.pre];exact S.nd.sublist (List.take_sublist _ _)
  refine⟨u,rv,?_⟩
  rcases S.par y (List.mem_of_getElem? hp) with k | k
  ·exact .inl ⟨k,Jd ndP hp hu k⟩
  ·obtain⟨c,e⟩:=zax (n:=s.heap.objs.size+1) k
   refine .inr ⟨.inl k,c,e,?_⟩
   have q:=x.cell y c e
   rw [Q7 ndP hp hu (by show scope.names.lookup y≠_;rw [k];decide)] at q
   exact q
 ·exact e0.hok.fresh (Nat.le_of_lt (x.above y c (PySem.mem_of_lookup h)))
 ·unfold start
  show _=N.length
  rw [List.length_append,List.length_map,List.length_replicate]
  omega
theorem zfq {CX:CXT} {P:Program} {w:World} {K:W.Frag} {mg:Str->Option Value} {base:Heap} {k:Nat} {f:Addr} {name qual:Str} {params:Arguments} {body:List Stmt} {scope:Scope} {dV kV doc pm cdv ct oc:Value} {an od:Option Addr}
  {osl:Array (Option Value)} {N ps:List Str} {sp:Sp} (lk:K.lookup f=some ⟨oc,od,.func (W.fnOf name qual params body scope dV kV doc pm an cdv ct),osl⟩) (hcd:W.codeIn K cdv qual=true) (S:zF N ps scope)
  (len:∀ vs H Q E,sp vs H Q E->vs.length=ps.length)
  (hbody:∀ (A:Around) (outer:List Env) (s:Shared) (H:Hp) (vs:List V) (Q:VK) (E:XK),Room k (A.deeper (envOfC qual scope s.heap.objs.size f cdv))->sp vs H Q E ->
   ∃ t,PSs (VP CX P w K mg base N qual scope f cdv A outer s H E) body t/\t { nx:=λ_ H'=>Q .non H',rt:=Q } (start N vs) H) :
  FnOk P w K mg base CX (k+1) f (W.fnOf name qual params body scope dV kV doc pm an cdv ct) ps sp:=by
 refine⟨len,λA outer s H args us vs Q E hr e0 hb r hsp=>?_⟩
 have hl:=len _ _ _ _ hsp
 have KX:K.In s.heap:=e0.mod.kin.keeps λb o e=>(e0.bs b o e).1
 have lim:s.heap.NoLimit:=e0.mod.nolimit.keeps λb o e=>(e0.bs b o e).1
 have hkind:∀ y∈ps.zip us,scope.names.lookup y.1=some .local\/(scope.names.lookup y.1=some .cell/\((cellsFrom (s.heap.objs.size+1) scope.names []).lookup y.1).isSome=true):=λ⟨n,v⟩ hy=>by
  rcases S.par n (List.of_mem_zip hy).1 with q | q
  ·exact .inl q
  ·exact .inr ⟨q,W.cellsFrom_some _ _ _ (.inl q)⟩
 refine codeAny_call_function hr.depth (KX _ _ lk) rfl S.co S.gen rfl (W.codeRec_of KX hcd) (hb _ _ _ _ ?_)
 refine wpAny_newFunctionEnv_cells S.kind hkind λenv he s1 x=>?_
 subst he
 refine⟨lim.keeps x.toInCall.keep,codeAny_func ?_⟩
 obtain⟨t,ht,hq⟩:=hbody A outer s H vs Q E (hr.deeper _) hsp
 have I:Inv (VP CX P w K mg base N qual scope f cdv A outer s H E) [] (start N vs) H s1:=QT S hr.hd e0 hl r x
 refine wpAny_mono (ht [] s1 (start N vs) H _ I hq) (λfl s' hs=>?_) λe s' hs=>hs
 have fin:∀ {σ':St} {H':Hp} {v:V} {u:Value},Inv (VP CX P w K mg base N qual scope f cdv A outer s H E) [] σ' H' s'->RelV v u->Q v H'->CE outer P w H s Q u s' :=
  λ{σ' H' v u} J rv q=>⟨v,H',J.os,J.bare,J.base,J.hok,rv,q⟩
 cases fl with
 | ret u =>
  obtain⟨v,σ',H',J,rv,q⟩:=hs
  exact fin J rv q
 | next =>
  obtain⟨σ',H',J,q⟩:=hs
  exact fin (v:=V.non) (u:=Value.none) J rfl q
 | brk =>
  obtain⟨_,_,_,q⟩:=hs
  exact False.elim q
 | cont =>
  obtain⟨_,_,_,q⟩:=hs
  exact False.elim q
section
variable {X:Cx} {x:Str} {p pos:Pos} {e:Expr} {es:List Expr} {t:TA} {id T:String} {r:List V->Hp->VK->Prop}
def tCB (r:List V->Hp->VK->Prop) (t:TA):TE:=λZ H Q=>t Z H λvs H1=>r vs H1 Q
theorem zE (hc:ul X (.builtin id) r) (hg:Gl X x) (hm:X.mg x=none) (hv:bootBuiltins x=some (.builtin id)) (ha:PA X (e :: es) t) (hn:x ≠ "__name__":=by decide) (hdb:(x == ("__debug__" : Str))=false:=by decide)
  (he:starEach (e :: es) X.env=(false,eval e X.env) :: starEach es X.env:=by rfl) (hpl:(backTo pos (starEach es X.env)).any (·.1)=false:=by rfl):PE X (.Call (.Name x p) (e :: es) [] pos) (tCB r t):=by
 intro pins s Z H Q I h
 refine wpAny_Call_Name_kw (jm I hg hm hv ?_ hn hdb)
 exact PyProof.Rows.callWith_builtin1 (thn (ha pos pins s Z H _ I h) λus s1 ⟨vs,H1,I1,r1,q1⟩=>hc pins s1 Z H1 vs us Q I1 r1 q1) he hpl
theorem vV (hc:ul X (.type T) r) (hg:Gl X x) (hm:X.mg x=none) (hv:bootBuiltins x=some (.type T)) (ha:PA X (e :: es) t) (hn:x ≠ "__name__":=by decide) (hdb:(x == ("__debug__" : Str))=false:=by decide)
  (he:starEach (e :: es) X.env=(false,eval e X.env) :: starEach es X.env:=by rfl) (hpl:(backTo pos (starEach es X.env)).any (·.1)=false:=by rfl):PE X (.Call (.Name x p) (e :: es) [] pos) (tCB r t):=by
 intro pins s Z H Q I h
 refine wpAny_Call_Name_kw (jm I hg hm hv ?_ hn hdb)
 exact PyProof.Rows.callWith_type1 (thn (ha pos pins s Z H _ I h) λus s1 ⟨vs,H1,I1,r1,q1⟩=>hc pins s1 Z H1 vs us Q I1 r1 q1) he hpl
end
end L2
namespace HT
open PySem PyProof.Rows
def lexLt:List Int->List Int->Bool
 | [],[]=>false
 | [],_ :: _=>true
 | _ :: _,[]=>false
 | x :: xs,y :: ys=>if x=y then lexLt xs ys else decide (x<y)
theorem qy (x y:Int) (xs ys:List Int):lexLt (x :: xs) (y :: ys)=if x=y then lexLt xs ys else decide (x<y):=rfl
theorem XF:lexLt [] []=false:=rfl
theorem Uk (y:Int) (ys:List Int):lexLt [] (y :: ys)=true:=rfl
theorem uZ (x:Int) (xs:List Int):lexLt (x :: xs) []=false:=rfl
theorem zeh (A:Around) (s:Shared) (a:Int) (t:Tok) (c:Int) (u:Tok):∃ e,SeqAt.EqAt A s (.int a t) (.int c u) e/\(e=true↔a=c) :=
 ⟨(a == c),SeqAt.EqAt.int_int a t c u,by simp⟩
theorem zaG (A:Around) (s:Shared) (a:Int) (t:Tok) (c:Int) (u:Tok) (prog:Program) (w:World) (E:Value->Shared->Prop) (Q:Value->Shared->Prop) (h:Q (.bool (decide (a<c))) s) :
  wpAny (model prog w) A (richCompare .Lt (.int a t) (.int c u)) Q E s :=
 (PyProof.Rows.lt_int h:wpAny (model prog w) A (compareOp .Lt (.int a t) (.int c u)) Q E s)
section
open PySem.SeqAt
open PySem.AutoSeq1 (wpAny_loadPart')
open PySem.MeetsSeq PySem.MeetsSeq2 PySem.MeetsSeq3
end
section
variable {prog:Program} {w:World} {A:Around} {E:Value->Shared->Prop} {s:Shared}
theorem zeI {t b:Addr} {vs ws:List Value} {Q:Value->Shared->Prop} (ht:IsTup s.heap t vs.toArray) (hb:IsTup s.heap b ws.toArray) (hv:vs≠[])
  (h1:ws=[]->Q (.ref t) s) (h2:ws≠[]->Q (.ref s.heap.objs.size) { s with heap:=s.heap.push { cls:=.type "tuple",data:=.seq (vs++ws).toArray } })
  (hsz:vs.length+ws.length<=sizeLine):wpAny (model prog w) A (binaryOp .Add (.ref t) (.ref b)) Q E s:=by
 obtain⟨⟨cls,dd,data,sl⟩,ho,hc,n,hd⟩:=id ht
 obtain⟨⟨cls2,dd2,data2,sl2⟩,ho2,hc2,n2,hd2⟩:=id hb
 simp only at hc hd hc2 hd2
 subst hc hd hc2 hd2
 have e:vs.toArray++ws.toArray=(vs++ws).toArray:=by simp
 by_cases hw:ws=[]
 ·exact concat_meets ⟨_,ho,rfl⟩ ⟨_,ho2,rfl⟩ noFill_tuple_add seq_tuple_add PySem.F.slot_tuple_add PySem.F.entry_tuple_add (PySem.F.args_tuple_add_2 _ _)
   (tuple_addW1 t b vs.toArray ws.toArray n n2 dd dd2 sl sl2 (by simpa using hv) (by simp [hw])) ⟨ho,ho2,h1 hw⟩
 ·refine concat_meets ⟨_,ho,rfl⟩ ⟨_,ho2,rfl⟩ noFill_tuple_add seq_tuple_add PySem.F.slot_tuple_add PySem.F.entry_tuple_add (PySem.F.args_tuple_add_2 _ _)
   (tuple_addW2 t b vs.toArray ws.toArray n n2 dd dd2 sl sl2 (by simpa using hv) (by simpa using hw) (by rw [List.size_toArray,List.size_toArray];exact hsz)) ⟨ho,ho2,?_⟩
  rw [e]
  exact h2 hw
def sIx (n d:Nat):Option Int->Nat
 | none=>d
 | some v=>if v<0 then (v+(n:Int)).toNat else min v.toNat n
theorem zaJ (n d:Nat):sIx n d none=d:=rfl
theorem Uc (n d k:Nat):sIx n d (some (k:Int))=min k n:=by
 show (if (k:Int)<0 then ((k:Int)+(n:Int)).toNat else min (k:Int).toNat n)=min k n
 rw [if_neg (by omega),Int.toNat_natCast]
theorem zfA (n d:Nat) (hd:d<=n) (o:Option Int):sIx n d o<=n:=by
 cases o with
 | none=>exact hd
 | some v =>
  show (if v<0 then (v+(n:Int)).toNat else min v.toNat n)<=n
  by_cases hv:v<0
  ·rw [if_pos hv];omega
  ·rw [if_neg hv];exact Nat.min_le_right _ _
theorem zco (v:Int) (n d:Nat):(if v<0 then max (v+(n:Int)) 0 else min v (n:Int))=((sIx n d (some v):Nat):Int):=by
 show (if v<0 then max (v+(n:Int)) 0 else min v (n:Int))=(((if v<0 then (v+(n:Int)).toNat else min v.toNat n):Nat):Int)
 by_cases hv:v<0
 ·simp only [if_pos hv];omega
 ·simp only [if_neg hv];omega
theorem zbr (lo hi:Option Int) (n:Nat):Builtin.Slice.sliceAdjust lo hi 1 (n:Int)=(((sIx n 0 lo:Nat):Int),((sIx n n hi:Nat):Int)):=by
 have h1:¬ ((1:Int)<0):=by omega
 unfold Builtin.Slice.sliceAdjust
 simp only [h1,if_false]
 refine Prod.ext ?_ ?_
 ·cases lo with
  | none=>rfl
  | some v=>exact zco v n 0
 ·cases hi with
  | none=>rfl
  | some v=>exact zco v n n
theorem zbz (i j:Nat):Builtin.Slice.slicePlaces (i:Int) (j:Int) 1=j-i:=by
 unfold Builtin.Slice.slicePlaces
 have h1:(1:Int)>0:=by omega
 simp only [h1,if_true,Int.ediv_one]
 split<;>omega
theorem Qh {v:Value} {o:Option Int} {Q:Option Int->Shared->Prop} (p:IsPart v o) (h:Q o s):wpAny (model prog w) A (Builtin.Slice.slicePartIndex v) Q E s:=by
 cases p with
 | none=>exact slicePart_none h
 | int i t=>exact slicePart_int h
theorem ZZ {sl:Addr} {vl vu:Value} {lo hi:Option Int} {n:Nat} {Q:Int×Int×Nat->Shared->Prop} (hs:s.heap.IsSliceOf sl vl vu .none) (pl:IsPart vl lo) (pu:IsPart vu hi)
  (h:Q (((sIx n 0 lo:Nat):Int),1,sIx n n hi-sIx n 0 lo) s):wpAny (model prog w) A (Builtin.Slice.sliceApplied (.ref sl) (pure (n:Int))) Q E s:=by
 obtain⟨os,hos,hcs,hds⟩:=id hs
 unfold Builtin.Slice.sliceApplied Builtin.Slice.sliceFields
 refine wpAny_bind (wpAny_bind (wpAny_field hos hds (x:=vl) rfl (wpAny_bind (wpAny_field hos hds (x:=vu) rfl (wpAny_bind (wpAny_field hos hds (x:=.none) rfl (wpAny_pure ?_)))))))
 refine wpAny_bind (slicePart_none ?_)
 show wpAny _ _ (if ((1:Int) == 0)=true then _ else _) _ _ s
 rw [if_neg (by decide)]
 refine wpAny_bind (Qh pl (wpAny_bind (Qh pu (wpAny_bind (wpAny_pure ?_)))))
 show wpAny _ _ (match Builtin.Slice.sliceAdjust lo hi 1 (n:Int) with | (lo,hi)=>pure (lo,(1:Int),Builtin.Slice.slicePlaces lo hi 1)) _ _ s
 rw [zbr lo hi n]
 show wpAny _ _ (pure (((sIx n 0 lo:Nat):Int),(1:Int),Builtin.Slice.slicePlaces ((sIx n 0 lo:Nat):Int) ((sIx n n hi:Nat):Int) 1)) _ _ s
 rw [zbz]
 exact wpAny_pure h
theorem zdG (xs:Array Value) (i k:Nat):((List.range k).filterMap λ(m:Nat)=>xs[((i:Int)+(m:Int)*1).toNat]?).toArray=((xs.toList.drop i).take k).toArray:=by
 have e:(λ(m:Nat)=>xs[((i:Int)+(m:Int)*1).toNat]?)=λm=>xs[i+m]?:=by
  funext m
  have:((i:Int)+(m:Int)*1).toNat=i+m:=by omega
  rw [this]
 rw [e]
 have:=pick_run xs i k
 rw [List.filterMap_map] at this
 have e2:((λx=>xs[x]?) ∘ λx=>i+x)=λm=>xs[i+m]?:=rfl
 rw [e2] at this
 rw [this]
theorem WM {t sl:Addr} {items:Array Value} {vl vu:Value} {lo hi:Option Int} {Q:Value->Shared->Prop} (ht:IsTup s.heap t items) (hs:s.heap.IsSliceOf sl vl vu .none) (pl:IsPart vl lo) (pu:IsPart vu hi)
  (hw:¬ (sIx items.size 0 lo=0/\sIx items.size items.size hi=items.size))
  (h:Q (.ref s.heap.objs.size) { s with heap:=s.heap.push { cls:=.type "tuple",data:=.seq ((items.toList.drop (sIx items.size 0 lo)).take (sIx items.size items.size hi-sIx items.size 0 lo)).toArray } })
  (hsz:items.size<=sizeLine):wpAny (model prog w) A (getItem (.ref t) (.ref sl)) Q E s:=by
 have htake:sizeOk (.seq ((items.toList.drop (sIx items.size 0 lo)).take (sIx items.size items.size hi-sIx items.size 0 lo)).toArray):=by
  show ((items.toList.drop (sIx items.size 0 lo)).take (sIx items.size items.size hi-sIx items.size 0 lo)).toArray.size<=sizeLine
  rw [List.size_toArray,List.length_take,List.length_drop,Array.length_toList]
  omega
 have hj:sIx items.size items.size hi<=items.size:=zfA _ _ (Nat.le_refl _) hi
 obtain⟨os,hos,hcs,hds⟩:=id hs
 have hTs:s.TypeIs (.ref sl) "slice":=⟨os,hos,hcs⟩
 unfold getItem
 try with_reducible refine wpAny_holding ?_
 first | refine wpAny_bind (wpAny_pure ?_) | skip
 refine wpAny_bind (wpAny_sequenceKey ht.typeIs (by decide) ?_)
 refine wpAny_bind (wpAny_callSpecial?_slot (name:=Str.ofString "__getitem__") ht.typeIs PyProof.Rows.slot_tuple_getitem
  (wpAny_call_entry PyProof.Rows.slot_tuple_getitem ht.typeIs entry_tuple_getitem ?_ (args_tuple_getitem _ _)))
 show wpAny _ _ (Builtin.Tuple.tupleItemsOf (.ref t) >>= _) _ _ s
 refine wpAny_bind (tupleItemsOf_ ht ?_)
 refine wpAny_bind (wpAny_typeOf hTs ?_)
 rw [if_pos (by decide)]
 refine wpAny_bind (ZZ hs pl pu ?_)
 have hno:¬ ((((sIx items.size 0 lo:Nat):Int) == 0 && (1:Int) == 1 && (sIx items.size items.size hi-sIx items.size 0 lo) == items.size)=true):=by
  intro q
  rw [Bool.and_eq_true,Bool.and_eq_true] at q
  have q1:((sIx items.size 0 lo:Nat):Int)=0:=eq_of_beq q.1.1
  have q2:sIx items.size items.size hi-sIx items.size 0 lo=items.size:=eq_of_beq q.2
  exact hw ⟨by omega,by omega⟩
 show wpAny _ _ (if (((sIx items.size 0 lo:Nat):Int) == 0 && (1:Int) == 1 && (sIx items.size items.size hi-sIx items.size 0 lo) == items.size)=true then _ else _) _ _ s
 rw [if_neg hno,zdG]
 first
  | exact wpAny_bind (m:=Builtin.Tuple.tupleExact _) (wpAny_newObj_type (wpAny_pure ⟨_,rfl,wpAny_pure h⟩) htake)
  | exact wpAny_bind (m:=Builtin.Tuple.tupleExact _) (wpAny_newObj_type (wpAny_bind (wpAny_pure (wpAny_pure ⟨_,rfl,wpAny_pure h⟩))) htake)
  | exact wpAny_bind (wpAny_bind (m:=Builtin.Tuple.tupleExact _) (wpAny_newObj_type (wpAny_pure (wpAny_pure ⟨_,rfl,wpAny_pure h⟩)) htake))
  | exact wpAny_bind (wpAny_bind (m:=Builtin.Tuple.tupleExact _) (wpAny_newObj_type (wpAny_pure ⟨_,rfl,wpAny_pure h⟩) htake))
end
end HT
namespace L2
open PySem PySem.Spec PyProof.Rows
abbrev TO:=St->Hp->(Option Int->Hp->Prop)->Prop
def PO (X:Cx) (e:Option Expr) (t:TO):Prop :=
 ∀ (pins:List (Addr×Obj)) (s:Shared) (Z:St) (H:Hp) (Q:Option Int->Hp->Prop),Inv X pins Z H s->t Z H Q ->
  wpAny (model X.prog X.w) X.A (evalPart e X.env) (λu s'=>∃ o H',Inv X pins Z H' s'/\IsPart u o/\Q o H') X.xe s
def zeY:TO:=λ_ H Q=>Q none H
def zgY (t:TE):TO:=λZ H Q=>t Z H λx H1=>∃ i,x=.int i/\Q (some i) H1
theorem intsAre_of {ns:List Int}:∀ {us:List Value},Vals (ns.map V.int) us->IntsAre us ns:=by
 induction ns with
 | nil=>intro us r;rw [List.map_nil] at r;cases r;exact .nil
 | cons n ns ih =>
  intro us r
  rw [List.map_cons] at r
  cases r with
  | cons r1 r2 =>
   obtain⟨t,e⟩:=r1
   subst e
   exact .cons n t (ih r2)
section
variable {X:Cx} {e:Expr} {te:TE} {lo hi:Option Expr} {tl th:TO} {pos p2:Pos}
theorem uW:PO X none zeY:=by
 intro pins s Z H Q I h
 rw [evalPart_none]
 exact wpAny_pure ⟨none,H,I,.none,h⟩
theorem wF (h:PE X e te):PO X (some e) (zgY te):=by
 intro pins s Z H Q I hw
 rw [evalPart_some]
 refine thn (h pins s Z H _ I hw) λu s1 ⟨x,H1,I1,r1,q1⟩=>?_
 obtain⟨i,rfl,q⟩:=q1
 obtain⟨t,rfl⟩:=r1
 exact⟨some i,H1,I1,.int i t,q⟩
def SlR (X:Cx) (r:V->Option Int->Option Int->Hp->VK->Prop):Prop :=
 ∀ (pins:List (Addr×Obj)) (s:Shared) (Z:St) (H:Hp) (x:V) (v vl vu:Value) (lo hi:Option Int) (sl:Addr) (Q:VK),Inv X pins Z H s->RelV x v->s.heap.IsSliceOf sl vl vu .none->IsPart vl lo->IsPart vu hi->r x lo hi H Q ->
  ∃ T id,typeLookup (.type T) "__getitem__" = pure (some (.builtin id))/\s.TypeIs v T/\wpAny (model X.prog X.w) X.A (getItem v (.ref sl)) (EP X pins Z Q) X.xe s
def tSl (r:V->Option Int->Option Int->Hp->VK->Prop) (te:TE) (tl th:TO):TE:=λZ H Q=>te Z H λx H1=>tl Z H1 λl H2=>th Z H2 λu H3=>r x l u H3 Q
theorem wz {r:V->Option Int->Option Int->Hp->VK->Prop} (hr:SlR X r) (he:PE X e te) (hl:PO X lo tl) (hu:PO X hi th):PE X (.Subscript e (.Slice lo hi none p2) pos) (tSl r te tl th):=by
 intro pins s Z H Q I h
 refine Subscript_ (thn (he pins s Z H _ I h) λv s1 ⟨x,H1,I1,r1,q1⟩=>?_)
 refine wpAny_Slice (thn (hl pins s1 Z H1 _ I1 q1) λvl s2 ⟨l,H2,I2,pl,q2⟩=>thn (hu pins s2 Z H2 _ I2 q2) λvu s3 ⟨u,H3,I3,pu,q3⟩=>?_)
 rw [evalPart_none]
 refine wpAny_pure ?_
 have I4:Inv X pins Z H3 { s3 with heap:=s3.heap.push { cls:=.type "slice",data:=.fields #[vl,vu,.none] } }:=I3.kept (t':=s3.toks) λb ob q=>Heap.get?_push_of_some _ q
 obtain⟨T,id,hT,ht,hg⟩:=hr pins { s3 with heap:=s3.heap.push { cls:=.type "slice",data:=.fields #[vl,vu,.none] } } Z H3 x v vl vu l u s3.heap.objs.size Q I4 r1 (Heap.IsSliceOf.new ..) pl pu q3
 show wpAny (model X.prog X.w) X.A (subscriptTail e (.Slice lo hi none p2) v (.ref s3.heap.objs.size)) (EP X pins Z Q) X.xe { s3 with heap:=s3.heap.push { cls:=.type "slice",data:=.fields #[vl,vu,.none] } }
 exact tail_any (ops:=[.ref s3.heap.objs.size,v]) ht hT hg (by with_unfolding_all rfl)
def uV (xs:List V) (lo hi:Option Int):List V:=(xs.drop (HT.sIx xs.length 0 lo)).take (HT.sIx xs.length xs.length hi-HT.sIx xs.length 0 lo)
theorem Vo (xs:List V) (lo hi:Option Int):(uV xs lo hi).length<=xs.length:=by
 unfold uV
 rw [List.length_take,List.length_drop]
 omega
def zhj (K:W.Frag):V->Option Int->Option Int->Hp->VK->Prop:=λx lo hi H Q=>∃ a xs,x=.ref a/\SqT K H a xs /\
 ¬ (HT.sIx xs.length 0 lo=0/\HT.sIx xs.length xs.length hi=xs.length)/\∀ p,H p=none->Q (.ref p) (upd H p (.tup (uV xs lo hi)))
theorem zfO:SlR X (zhj X.K):=by
 intro pins s Z H x v vl vu lo hi sl Q I rx hs pl pu h
 obtain⟨a,xs,rfl,hx,hw,q⟩:=h
 cases rx
 obtain⟨its,r,ht,hz⟩:=I.tuple hx
 have hlen:its.toArray.size=xs.length:=by rw [List.size_toArray];exact r.length.symm
 refine⟨"tuple",_,PyProof.Rows.slot_tuple_getitem.lookup,ht.typeIs,?_⟩
 refine HT.WM ht hs pl pu (by rw [hlen];exact hw) ?_ (by rw [hlen];exact hz)
 rw [hlen]
 refine⟨.ref s.heap.objs.size,_,I.laid (t':=s.toks) (o:=.tup (uV xs lo hi)) (λb ob q=>Heap.get?_push_of_some _ q) (Nat.le_refl _) ?_,rfl,q _ (I.hok.fresh (Nat.le_refl _))⟩
 exact⟨Nat.le_trans (Vo xs lo hi) hz,_,(r.drop (HT.sIx xs.length 0 lo)).take (HT.sIx xs.length xs.length hi-HT.sIx xs.length 0 lo),IsTup.new _ _⟩
def zgU (K:W.Frag):R2:=λx y H Q=>∃ a b xs ys,x=.ref a/\y=.ref b/\SqT K H a xs/\SqT K H b ys/\xs≠[]/\xs.length+ys.length<=sizeLine /\
 (ys=[]->Q (.ref a) H)/\(ys≠[]->∀ p,H p=none->Q (.ref p) (upd H p (.tup (xs++ys))))
theorem Vals.nil_iff {xs:List V} {us:List Value} (r:Vals xs us):us=[]↔xs=[]:=by
 cases r with
 | nil=>simp
 | cons _ _=>simp
theorem ze6:OpR X (binaryOp .Add) (zgU X.K):=by
 intro pins s Z H x y v u Q I rx ry h
 obtain⟨a,b,xs,ys,rfl,rfl,ha,hb,hx,hz,q1,q2⟩:=h
 cases rx
 cases ry
 obtain⟨its,r1,p1,_⟩:=I.tuple ha
 obtain⟨its2,r2,p2,_⟩:=I.tuple hb
 refine HT.zeI p1 p2 (λz=>hx (r1.nil_iff.mp z)) (λz=>⟨.ref a,H,I,rfl,q1 (r2.nil_iff.mp z)⟩) (λz=>?_) (by rw [<- r1.length,<- r2.length];exact hz)
 refine⟨.ref s.heap.objs.size,_,I.laid (t':=s.toks) (o:=.tup (xs++ys)) (λb ob q=>Heap.get?_push_of_some _ q) (Nat.le_refl _) ?_,rfl,q2 (λw=>z (r2.nil_iff.mpr w)) _ (I.hok.fresh (Nat.le_refl _))⟩
 exact⟨by rw [List.length_append];exact hz,_,r1.append r2,IsTup.new _ _⟩
end
def ixN (n:Nat) (i:Int):Option Nat:=if 0<=i then (if i<n then some i.toNat else none) else if -(n:Int)<=i then some (i+n).toNat else none
def atI {α:Type} (xs:List α) (i:Int):Option α:=(ixN xs.length i).bind λj=>xs[j]?
theorem zcl {n:Nat} {i:Int} {j:Nat} (h:ixN n i=some j):seqIndex? i n=some j/\j<n/\-(n:Int)<=i/\i<n:=by
 unfold ixN at h
 by_cases h0:0<=i
 ·rw [if_pos h0] at h
  by_cases h1:i<n
  ·rw [if_pos h1] at h
   have e:i.toNat=j:=Option.some.inj h
   exact⟨by rw [seqIndex_of h0 h1,e],by omega,by omega,h1⟩
  ·rw [if_neg h1] at h;cases h
 ·rw [if_neg h0] at h
  by_cases h1:-(n:Int)<=i
  ·rw [if_pos h1] at h
   have e:(i+n).toNat=j:=Option.some.inj h
   exact⟨by rw [seqIndex_neg (by omega) h1,e],by omega,h1,by omega⟩
  ·rw [if_neg h1] at h;cases h
theorem zah {α:Type} {xs:List α} {i:Int} {v:α} (h:atI xs i=some v):∃ j,seqIndex? i xs.length=some j/\xs[j]?=some v/\j<xs.length/\-(xs.length:Int)<=i/\i<xs.length:=by
 unfold atI at h
 cases e:ixN xs.length i with
 | none=>rw [e] at h;cases h
 | some j =>
  rw [e] at h
  obtain⟨h1,h2,h3,h4⟩:=zcl e
  exact⟨j,h1,h,h2,h3,h4⟩
theorem yI {α:Type} {xs:List α} {j:Nat} {v:α} (h:xs[j]?=some v):atI xs (j:Int)=some v:=by
 have hj:j<xs.length:=(List.getElem?_eq_some_iff.mp h).1
 have e:ixN xs.length (j:Int)=some j:=by
  unfold ixN
  rw [if_pos (by omega),if_pos (by omega)];simp
 unfold atI;rw [e];exact h
theorem zeu {α:Type} (xs:List α) (v:α):atI (xs++[v]) (-1)=some v:=by
 have hl:(xs++[v]).length=xs.length+1:=by simp
 have e:ixN (xs++[v]).length (-1)=some xs.length:=by
  unfold ixN
  rw [hl,if_neg (by decide),if_pos (by omega)]
  congr 1
  omega
 unfold atI
 rw [e]
 show (xs++[v])[xs.length]?=some v
 simp
def zfd (b:Expr):Prop:=∀ o i,subscripted b false o i=operate [o,i] (getItem o i)
def IxR (X:Cx) (r:R2):Prop :=
 ∀ (value slice:Expr) (pins:List (Addr×Obj)) (s:Shared) (Z:St) (H:Hp) (x y:V) (v u:Value) (Q:VK),Inv X pins Z H s->RelV x v->RelV y u->r x y H Q ->
  subscripted slice false v u=operate [v,u] (getItem v u)->wpAny (model X.prog X.w) X.A (subscriptTail value slice v u) (EP X pins Z Q) X.xe s
def MtR (X:Cx) (id:String) (r:V->List V->Hp->VK->Prop):Prop :=
 ∀ (pins:List (Addr×Obj)) (s:Shared) (Z:St) (H:Hp) (x:V) (xs:List V) (v:Value) (us:List Value) (Q:VK),Inv X pins Z H s->RelV x v->Vals xs us->r x xs H Q ->
  wpAny (model X.prog X.w) X.A (call (.builtin id) (v :: us)) (EP X pins Z Q) X.xe s
section
variable {X:Cx} {a b:Expr} {ta tb:TE} {pos:Pos}
theorem zP {r:R2} (hr:IxR X r) (ha:PE X a ta) (hb:PE X b tb) (hs:zfd b):PE X (.Subscript a b pos) (tOp r ta tb):=by
 intro pins s Z H Q I h
 exact Subscript_ (zf3 ha hb I h λv u s2 x y H2 I2 rx ry q=>hr a b pins s2 Z H2 x y v u Q I2 rx ry q (hs _ _))
def zgT (K:W.Frag):R2:=λx y H Q=>∃ p xs i v,x=.ref p/\y=.int i/\SqL K H p xs/\atI xs i=some v/\Q v H
def zgz (K:W.Frag):R2:=λx y H Q=>∃ p xs i v,x=.ref p/\y=.int i/\SqT K H p xs/\atI xs i=some v/\Q v H
def zhf:R2:=λx y H Q=>∃ z i c,x=.str z/\y=.int i/\z.length<=sizeLine/\atI z.cps.toList i=some c/\Q (.str ⟨#[c]⟩) H
theorem zeQ:IxR X (zgT X.K):=by
 intro value slice pins s Z H x y v u Q I rx ry h hs
 obtain⟨p,xs,i,z,rfl,rfl,hq,he,q⟩:=h
 cases rx
 obtain⟨t,rfl⟩:=ry
 obtain⟨its,r,pl,hz⟩:=I.list hq
 obtain⟨j,h1,h2,h3,h4,h5⟩:=zah he
 obtain⟨w,ew,rw'⟩:=r.get h2
 have hl:=r.length
 have hn:=UG
 have fin:EP X pins Z Q w s:=⟨z,H,I,rw',q⟩
 by_cases h0:0<=i
 ·have hj:i.toNat=j:=by
   rw [seqIndex_of h0 h5] at h1
   exact Option.some.inj h1
  exact item_listR pl.isList h0 (by omega) (by rw [hj];simpa using ew) fin hs
 ·have hj:(i+(its.toArray.size:Int)).toNat=j:=by
   rw [seqIndex_neg (by omega) h4] at h1
   rw [List.size_toArray,<- hl]
   exact Option.some.inj h1
  exact subscriptTail_builtinR (x:=w) pl.isList.typeIs slot_list_getitem.lookup
   (wpAny_getItem_list_neg (Q:=λr s'=>r=w/\EP X pins Z Q r s') pl.isList (by omega) (by rw [List.size_toArray]<;>omega) (by omega) (by rw [hj];simpa using ew) ⟨rfl,fin⟩) hs
theorem zfN:IxR X (zgz X.K):=by
 intro value slice pins s Z H x y v u Q I rx ry h hs
 obtain⟨p,xs,i,z,rfl,rfl,hq,he,q⟩:=h
 cases rx
 obtain⟨t,rfl⟩:=ry
 obtain⟨its,r,pl,hz⟩:=I.tuple hq
 obtain⟨j,h1,h2,h3,h4,h5⟩:=zah he
 obtain⟨w,ew,rw'⟩:=r.get h2
 have hl:=r.length
 have hn:=UG
 have fin:EP X pins Z Q w s:=⟨z,H,I,rw',q⟩
 exact subscriptTail_builtinR (x:=w) pl.typeIs slot_tuple_getitem.lookup
  (getItem_tuple (j:=j) (Q:=λr s'=>r=w/\EP X pins Z Q r s') pl (by omega) (by omega) (by rw [List.size_toArray,<- hl];exact h1) (by simpa using ew) ⟨rfl,fin⟩) hs
theorem zer:IxR X zhf:=by
 intro value slice pins s Z H x y v u Q I rx ry h hs
 obtain⟨z,i,c,rfl,rfl,hz,he,q⟩:=h
 obtain⟨t,rfl⟩:=rx
 obtain⟨t',rfl⟩:=ry
 obtain⟨j,h1,h2,h3,h4,h5⟩:=zah he
 have hl:z.cps.toList.length=z.length:=by simp [Str.length]
 rw [hl] at h1 h4 h5
 have hn:=UG
 exact tail_any (typeIs_str s z t) slot_str_getitem.lookup (getItem_str (c:=c) (by
  have e1:decide (i < -(2^63:Int))=false:=decide_eq_false (by omega)
  have e2:decide (i>=2^63)=false:=decide_eq_false (by omega)
  rw [e1,e2,Bool.or_false]) (by rw [h1];simpa using h2) ⟨.str ⟨#[c]⟩,H,I.tok _,⟨_,rfl⟩,q⟩) hs
theorem zbQ (its:List Value) (n j:Nat) (u:Value):Obj.mapSeq (·.setIfInBounds j u) { cls:=.type "list",data:=.seq its.toArray n }={ cls:=.type "list",data:=.seq (its.set j u).toArray n }:=by
 simp [Obj.mapSeq]
theorem Inv.lst {pins:List (Addr×Obj)} {Z:St} {H:Hp} {s:Shared} {p:Addr} {xs:List V} (I:Inv X pins Z H s) (h:H p=some (.lst xs)) :
  ∃ (its:List Value) (n:Nat),Vals xs its/\s.heap.get? p=some { cls:=.type "list",data:=.seq its.toArray n }/\xs.length<=sizeLine:=by
 obtain⟨z,its,n,r,e⟩:=I.hok p _ h
 exact⟨its,n,r,e,z⟩
theorem Inv.lstUpd {pins:List (Addr×Obj)} {Z:St} {H:Hp} {s:Shared} {p:Addr} {xs ys:List V} {its its':List Value} {n n':Nat} {f:Obj->Obj} (I:Inv X pins Z H s) (h:H p=some (.lst xs))
  (ho:s.heap.get? p=some { cls:=.type "list",data:=.seq its.toArray n }) (hf:f { cls:=.type "list",data:=.seq its.toArray n }={ cls:=.type "list",data:=.seq its'.toArray n' }) (r:Vals ys its') (hz:ys.length<=sizeLine) (t:Nat) :
  Inv X pins Z (upd H p (.lst ys)) { s with heap:=s.heap.update p f,toks:=t }:=by
 have e:(s.heap.update p f).get? p=some { cls:=.type "list",data:=.seq its'.toArray n' }:=by
  rw [Heap.get?_update_self f ho (by rw [hf]<;>rfl),hf]
 refine I.write (x:=p) (e:=p) (by rw [h];trivial) (.inl rfl) (λb u hb q=>(Heap.get?_update_other _ _ (Ne.symm hb)).trans q) ⟨_,e⟩ ?_
 exact⟨hz,its',n',r,e⟩
def zgo:V->V->V->Hp->(Hp->Prop)->Prop:=λo i v H Q=>∃ p xs k j,o=.ref p/\i=.int k/\H p=some (.lst xs)/\ixN xs.length k=some j/\Q (upd H p (.lst (xs.set j v)))
theorem set_list:zgb X zgo:=by
 intro pins s Z H o i v ov iv u Q I ro ri rv h
 obtain⟨p,xs,k,j,rfl,rfl,hp,hj,q⟩:=h
 cases ro
 obtain⟨t,rfl⟩:=ri
 obtain⟨its,n,r,ho,hz⟩:=I.lst hp
 obtain⟨h1,h2,h3,h4⟩:=zcl hj
 have hl:=r.length
 have hn:=UG
 have I':Inv X pins Z (upd H p (.lst (xs.set j v))) { s with heap:=s.heap.update p (Obj.mapSeq (·.setIfInBounds j u)) } :=
  I.lstUpd hp ho (zbQ its n j u) (r.set rv j) (by rw [List.length_set];exact hz) s.toks
 by_cases h0:0<=k
 ·have hk:k.toNat=j:=by
   rw [seqIndex_of h0 h4] at h1
   exact Option.some.inj h1
  exact W.ki_setAt ho h0 (by omega) (by rw [List.size_toArray,<- hl];exact h4) (by rw [hk];exact⟨_,I',q⟩)
 ·have hk:(k+(its.toArray.size:Int)).toNat=j:=by
   rw [seqIndex_neg (by omega) h3] at h1
   rw [List.size_toArray,<- hl]
   exact Option.some.inj h1
  exact W.ki_setBack ho (by omega) (by rw [List.size_toArray,<- hl];exact h3) (by omega) (by rw [hk];exact⟨_,I',q⟩)
theorem zac (lo hi:Option Int) (n:Nat):(sliceBounds lo hi none n).1=((HT.sIx n 0 lo:Nat):Int)/\(sliceBounds lo hi none n).2.1=((HT.sIx n n hi:Nat):Int)/\(sliceBounds lo hi none n).2.2=1:=by
 refine⟨?_,?_,rfl⟩
 ·cases lo with
  | none=>simp [sliceBounds,HT.sIx]
  | some i =>
   simp only [sliceBounds,HT.sIx,Option.getD_none,show (1:Int)>0 by decide,if_true]
   by_cases h:i<0
   ·simp only [h,if_true]<;>omega
   ·simp only [h,if_false]<;>omega
 ·cases hi with
  | none=>simp [sliceBounds,HT.sIx]
  | some i =>
   simp only [sliceBounds,HT.sIx,Option.getD_none,show (1:Int)>0 by decide,if_true]
   by_cases h:i<0
   ·simp only [h,if_true]<;>omega
   ·simp only [h,if_false]<;>omega
theorem QF (its:List Value) (lo hi:Option Int):slicePick its.toArray lo hi none=((its.drop (HT.sIx its.length 0 lo)).take (HT.sIx its.length its.length hi-HT.sIx its.length 0 lo)).toArray:=by
 obtain⟨h1,h2,h3⟩:=zac lo hi its.toArray.size
 unfold slicePick
 rw [h1,h2,h3]
 simp only [sliceRange_one,pick_run,List.size_toArray]<;>rfl
def zgm (K:W.Frag):V->Option Int->Option Int->Hp->VK->Prop:=λx lo hi H Q=>∃ a xs,x=.ref a/\SqL K H a xs/\∀ p,H p=none->Q (.ref p) (upd H p (.lst (uV xs lo hi)))
theorem ze0:SlR X (zgm X.K):=by
 intro pins s Z H x v vl vu lo hi sl Q I rx hs pl pu h
 obtain⟨a,xs,rfl,hx,q⟩:=h
 cases rx
 obtain⟨its,r,ht,hz⟩:=I.list hx
 have hlen:=r.length
 refine⟨"list",_,slot_list_getitem.lookup,ht.isList.typeIs,?_⟩
 refine wpAny_getItem_list_slice ht.isList hs pl pu .none (by simp) ?_ (by rw [List.size_toArray]<;>omega)
 rw [QF,<- hlen]
 refine⟨.ref s.heap.objs.size,_,I.laid (t':=s.toks) (o:=.lst (uV xs lo hi)) (λb ob q=>Heap.get?_push_of_some _ q) (Nat.le_refl _) ?_,rfl,q _ (I.hok.fresh (Nat.le_refl _))⟩
 exact⟨Nat.le_trans (Vo xs lo hi) hz,_,0,(r.drop (HT.sIx xs.length 0 lo)).take (HT.sIx xs.length xs.length hi-HT.sIx xs.length 0 lo),Heap.get?_push_size _ rfl⟩
theorem JS:ul X (.builtin "len") (λxs H Q=>∃ p ys,xs=[.ref p]/\(SqL X.K H p ys\/SqT X.K H p ys)/\Q (.int ys.length) H):=by
 intro pins s Z H xs us Q I r h
 obtain⟨p,ys,rfl,hq,q⟩:=h
 obtain⟨u,rfl,rx⟩:=vals1 r
 cases rx
 have hn:=UG
 rcases hq with hq | hq
 ·obtain⟨its,r',pl,hz⟩:=I.list hq
  have hlen:=r'.length
  exact Calls.call_len_list pl.isList (by simp only [List.size_toArray]<;>omega) ⟨.int ys.length,H,I.tok _,⟨s.toks+1,by rw [List.size_toArray,hlen]⟩,q⟩
 ·obtain⟨its,r',pl,hz⟩:=I.tuple hq
  have hlen:=r'.length
  exact len_tuple pl (by simp only [List.size_toArray]<;>omega) ⟨.int ys.length,H,I.tok _,⟨s.toks+1,by rw [List.size_toArray,hlen]⟩,q⟩
theorem zaf:ul X (.type "list") (λxs H Q=>∃ p ys,xs=[.ref p]/\(SqL X.K H p ys\/SqT X.K H p ys)/\∀ l,H l=none->Q (.ref l) (upd H l (.lst ys))):=by
 intro pins s Z H xs us Q I r h
 obtain⟨p,ys,rfl,hq,q⟩:=h
 obtain⟨u,rfl,rx⟩:=vals1 r
 cases rx
 have fin:∀ (its:List Value),Vals ys its->ys.length<=sizeLine->∀ (h':Heap) (c':Nat),(∀ b o',s.heap.get? b=some o'->h'.get? b=some o') ->
   h'.get? s.heap.objs.size=some { cls:=.type "list",dict:=none,data:=.seq its.toArray c',slots:=#[] }->EP X pins Z Q (.ref s.heap.objs.size) { s with heap:=h' }:=λits r' hz h' c' kp e =>
  ⟨.ref s.heap.objs.size,_,I.laid (t':=s.toks) kp (Nat.le_refl _) (show ObjOk X.prog X.w _ h' _ (.lst ys) from ⟨hz,its,c',r',e⟩),rfl,q _ (I.hok.fresh (Nat.le_refl _))⟩
 rcases hq with hq | hq
 ·obtain⟨its,r',pl,hz⟩:=I.list hq
  have hlen:=r'.length
  obtain⟨o,ho,hc,n,hd⟩:=pl.isList
  exact call_list_seq p (.inl rfl) ho hc hd (λh' c' kp e=>fin its r' hz h' c' kp e) (by simp only [List.size_toArray]<;>omega)
 ·obtain⟨its,r',pl,hz⟩:=I.tuple hq
  have hlen:=r'.length
  obtain⟨o,ho,hc,n,hd⟩:=pl
  exact call_list_seq p (.inr rfl) ho hc hd (λh' c' kp e=>fin its r' hz h' c' kp e) (by simp only [List.size_toArray]<;>omega)
theorem XC:ul X (.type "tuple") (λxs H Q=>∃ p ys,xs=[.ref p]/\((SqL X.K H p ys/\∀ l,H l=none->Q (.ref l) (upd H l (.tup ys)))\/(SqT X.K H p ys/\Q (.ref p) H))):=by
 intro pins s Z H xs us Q I r h
 obtain⟨p,ys,rfl,h⟩:=h
 obtain⟨u,rfl,rx⟩:=vals1 r
 cases rx
 rcases h with ⟨hq,q⟩ | ⟨hq,q⟩
 ·obtain⟨its,r',pl,hz⟩:=I.list hq
  have hlen:=r'.length
  refine call_tuple_list pl.isList (λh' kp=>?_) (by simp only [List.size_toArray]<;>omega)
  have I1:Inv X pins Z H { s with heap:=h' }:=I.kept (t':=s.toks) kp
  have I2:Inv X pins Z (upd H h'.objs.size (.tup ys)) { s with heap:=h'.push { cls:=.type "tuple",data:=.seq its.toArray } } :=
   I1.laid (t':=s.toks) (λb o e=>Heap.get?_push_of_some _ e) (Nat.le_refl _) (show ObjOk X.prog X.w _ _ _ (.tup ys) from ⟨hz,its,r',IsTup.new _ _⟩)
  exact⟨.ref h'.objs.size,_,I2,rfl,q _ (I1.hok.fresh (Nat.le_refl _))⟩
 ·obtain⟨its,r',pl,hz⟩:=I.tuple hq
  exact call_tuple_same pl ⟨.ref p,H,I,rfl,q⟩
def tyV (K:W.Frag) (T:String) (x:V) (H:Hp):Prop:=match x with
 | .str _=>T = "str"
 | .int _=>T = "int"
 | .ref p=>(T = "list"/\∃ xs,SqL K H p xs)\/(T = "tuple"/\∃ o,K.lookup p=some o/\o.cls=.type "tuple"/\o.dict=none) \/
   (T = "dict"/\((∃ kvs,H p=some (.dK kvs))\/∃ kvs,H p=some (.dT kvs)))\/(T = "set"/\∃ S n,H p=some (.set S n))
 | _=>False
theorem zf7 {pins:List (Addr×Obj)} {Z:St} {H:Hp} {s:Shared} {T:String} {x:V} {v:Value} (I:Inv X pins Z H s) (r:RelV x v) (ty:tyV X.K T x H) :
  s.TypeIs v T/\∀ a,v=.ref a->∃ ob,s.heap.get? a=some ob/\ob.dict=none:=by
 cases x with
 | str z =>
  obtain⟨t,rfl⟩:=r
  cases (show T = "str" from ty)
  exact⟨typeIs_str s z t,λ_ e=>nomatch e⟩
 | int i =>
  obtain⟨t,rfl⟩:=r
  cases (show T = "int" from ty)
  exact⟨typeIs_int s i t,λ_ e=>nomatch e⟩
 | ref p =>
  cases r
  rcases ty with ⟨rfl,xs,hq⟩ | ⟨rfl,o,hk,hc,hd⟩ | ⟨rfl,hk⟩ | ⟨rfl,S,n,hk⟩
  ·obtain⟨its,_,pl,_⟩:=I.list hq
   refine⟨pl.isList.typeIs,λa e=>?_⟩
   cases e
   obtain⟨o,n,e,c,hd,_⟩:=pl
   exact⟨o,e,hd⟩
  ·refine⟨⟨o,I.kIn p o hk,hc⟩,λa e=>?_⟩
   cases e
   exact⟨o,I.kIn _ o hk,hd⟩
  ·have z:∃ o,s.heap.get? p=some o/\o.ExactDict:=by
    rcases hk with ⟨kvs,hk⟩ | ⟨kvs,hk⟩
    ·obtain⟨_,_,_,_,o,_,_,e,ex,_⟩:=I.hok p _ hk
     exact⟨o,e,ex⟩
    ·obtain⟨_,_,_,_,o,_,_,e,ex,_⟩:=I.hok p _ hk
     exact⟨o,e,ex⟩
   obtain⟨o,e,ex⟩:=z
   refine⟨⟨o,e,ex.1⟩,λa e2=>?_⟩
   cases e2
   exact⟨o,e,ex.2.1⟩
  ·obtain⟨o,_,_,_,e,ex,_⟩:=I.hok p _ hk
   refine⟨⟨o,e,ex.1⟩,λa e2=>?_⟩
   cases e2
   exact⟨o,e,ex.2.1⟩
 | _=>exact False.elim ty
def tBM (K:W.Frag) (T:String) (r:V->List V->Hp->VK->Prop) (to:TE) (t:TA):TE:=λZ H Q=>to Z H λx H1=>tyV K T x H1/\t Z H1 λxs H2=>r x xs H2 Q
variable {o e:Expr} {es:List Expr} {to:TE} {t:TA} {name:Str} {apos cpos:Pos} {T id:String} {r:V->List V->Hp->VK->Prop}
theorem Zq (pa:PlainAttrs T) (slot:Slot T name id) (hty:typeOf (.builtin id)=pure (.type "method_descriptor")) (hm:MtR X id r) (ho:PE X o to) (ha:PA X (e :: es) t)
  (hbase:attributeBase o name X.env (eval o X.env)=eval o X.env:=by rfl)
  (hfew:((backTo cpos (starEach (e :: es) X.env)).all (λx=>!x.1) && (backToKw cpos (keywordEach [] X.env)).all (λx=>x.1.isSome)
   && decide ((e :: es).length+([]:List Keyword).length+(if ([]:List Keyword).isEmpty then 0 else 1)<30))=true:=by rfl)
  (hline:(apos.endLine == cpos.line)=true:=by rfl) (hs:starEach (e :: es) X.env=(false,eval e X.env) :: starEach es X.env:=by rfl) (hplain:(backTo cpos (starEach es X.env)).any (·.1)=false:=by rfl) :
  PE X (.Call (.Attribute o name apos) (e :: es) [] cpos) (tBM X.K T r to t):=by
 intro pins s Z H Q I h
 refine wpAny_Call_method_late hbase hfew hline rfl (thn (ho pins s Z H _ I h) λv s1 ⟨x,H1,I1,r1,ty,q1⟩=>?_)
 obtain⟨h1,h2⟩:=zf7 I1 r1 ty
 refine⟨T,id,pa,slot,hty,h1,h2,?_⟩
 have hA:=ha cpos pins s1 Z H1 _ I1 q1
 rw [hs] at hA ⊢
 refine Calls.callWith_builtin (by show (false || (backTo cpos (starEach es X.env)).any (·.1))=false;rw [hplain]<;>rfl) (Calls.evalArgs_plain ?_)
 exact thn hA λus s2 ⟨vs,H2,I2,r2,q2⟩=>hm pins s2 Z H2 x vs v us Q I2 r1 r2 q2
end
def MtM (X:Cx) (id:String) (r:V->List V->Hp->VK->Prop):Prop :=
 ∀ (pins:List (Addr×Obj)) (s:Shared) (Z:St) (H:Hp) (x:V) (xs:List V) (v:Value) (us:List Value) (Q:VK),Inv X pins Z H s->RelV x v->Vals xs us->r x xs H Q ->
  wpAny (model X.prog X.w) X.A (call (.builtin id) (v :: us)) (EP X pins Z Q) X.xe s
theorem Vals.one:∀ {x:V} {us:List Value},Vals [x] us->∃ u,us=[u]/\RelV x u
 | _,_,.cons r .nil=>⟨_,rfl,r⟩
theorem Vals.zero:∀ {us:List Value},Vals [] us->us=[]
 | _,.nil=>rfl
theorem Vals.dropLast {xs:List V} {us:List Value} (h:Vals xs us):Vals xs.dropLast us.dropLast:=by
 induction h with
 | nil=>exact .nil
 | cons r t ih =>
  cases t with
  | nil=>exact .nil
  | cons q t'=>exact .cons r ih
theorem Vals.reverse {xs:List V} {us:List Value} (h:Vals xs us):Vals xs.reverse us.reverse:=by
 induction h with
 | nil=>exact .nil
 | cons r t ih=>rw [List.reverse_cons,List.reverse_cons];exact Vals.append ih (.cons r .nil)
theorem Vals.rep {xs:List V} {us:List Value} (h:Vals xs us):∀ k:Nat,Vals (List.replicate k xs).flatten (List.replicate k us).flatten
 | 0=>.nil
 | k+1=>by
  rw [List.replicate_succ,List.replicate_succ,List.flatten_cons,List.flatten_cons]
  exact Vals.append h (Vals.rep h k)
theorem foldl_rep (its:List Value):∀ (k:Nat) (acc:List Value),
  List.foldl (λx1 x2=>x1++x2) acc.toArray (List.replicate k its.toArray)=(acc++(List.replicate k its).flatten).toArray
 | 0,acc=>by simp
 | k+1,acc=>by
  have e:acc.toArray++its.toArray=(acc++its).toArray:=by simp
  have e2:(acc++its)++(List.replicate k its).flatten=acc++(List.replicate (k+1) its).flatten:=by
   rw [List.replicate_succ,List.flatten_cons,List.append_assoc]
  rw [<- e2,<- foldl_rep its k (acc++its),<- e,List.replicate_succ,List.foldl_cons]
section
variable {X:Cx} {pins:List (Addr×Obj)} {Z:St} {H:Hp} {s:Shared} {l b:Addr} {xs ys zs:List V}
theorem Inv.lset {its its':List Value} {n:Nat} {f:Array Value->Array Value} {t':Nat} (I:Inv X pins Z H s) (hH:H l=some (.lst xs))
  (e:s.heap.get? l=some { cls:=.type "list",data:=.seq its.toArray n }) (hf:f its.toArray=its'.toArray) (hv:Vals ys its') (hz:ys.length<=sizeLine) :
  Inv X pins Z (upd H l (.lst ys)) { s with heap:=s.heap.update l (Obj.mapSeq f),toks:=t' }:=by
 have q:=PySem.IsL.update e f
 rw [hf] at q
 refine I.write (x:=l) (e:=l) (by rw [hH];exact trivial) (.inl rfl) (λb' u hb hu=>(Heap.get?_update_other s.heap (Obj.mapSeq f) (Ne.symm hb)).trans hu) ⟨_,q⟩ ?_
 exact⟨hz,its',_,hv,q⟩
theorem Inv.lnew {its:List Value} {t':Nat} (I:Inv X pins Z H s) (hv:Vals ys its) (hz:ys.length<=sizeLine) :
  Inv X pins Z (upd H s.heap.objs.size (.lst ys)) { s with heap:=s.heap.push { cls:=.type "list",data:=.seq its.toArray },toks:=t' } :=
 I.laid (λ_ _ q=>Heap.get?_push_of_some _ q) (Nat.le_refl _) ⟨hz,its,0,hv,Heap.get?_push_size _ rfl⟩
theorem Inv.fresh (I:Inv X pins Z H s):H s.heap.objs.size=none:=I.hok.fresh (Nat.le_refl _)
theorem Inv.lstM (I:Inv X pins Z H s) (hH:H l=some (.lst xs)):xs.length<=sizeLine/\∃ (its:List Value) (n:Nat),Vals xs its/\xs.length=its.length/\s.heap.get? l=some { cls:=.type "list",data:=.seq its.toArray n }:=by
 obtain⟨z,its,n,r,e⟩:=I.hok l _ hH
 exact⟨z,its,n,r,r.length,e⟩
theorem zd4 {n:Nat} (h:n<=sizeLine):Builtin.List.listTooLong n=false:=by
 unfold Builtin.List.listTooLong
 exact decide_eq_false (by omega)
end
section
variable {X:Cx}
def zeS:V->List V->Hp->VK->Prop:=λx vs H Q=>∃ l xs y,x=.ref l/\vs=[y]/\H l=some (.lst xs)/\xs.length<sizeLine/\Q .non (upd H l (.lst (xs++[y])))
theorem xF:MtM X "list.append" zeS:=by
 intro pins s Z H x vs v us Q I rx rv h
 obtain⟨l,xs,y,rfl,rfl,hH,hz,q⟩:=h
 cases rx
 obtain⟨u,rfl,ru⟩:=rv.one
 obtain⟨z,its,n,r,hl,e⟩:=I.lstM hH
 refine call_meets F.slot_list_append ⟨_,e,rfl⟩ F.entry_list_append (F.args_list_append_2 _ _) (PySem.list_append l its.toArray n u (by rw [List.size_toArray];omega)) ⟨e,?_⟩
 refine⟨.non,_,I.lset (its':=its++[u]) hH e (by simp) (r.append (.cons ru .nil)) ?_,rfl,q⟩
 rw [List.length_append,List.length_singleton]
 omega
def zg2:R2:=λx y H Q=>∃ l b xs zs,x=.ref l/\y=.ref b/\H l=some (.lst xs)/\H b=some (.lst zs)/\xs.length+zs.length<=sizeLine/\∀ p,H p=none->Q (.ref p) (upd H p (.lst (xs++zs)))
theorem We:OpR X (binaryOp .Add) zg2:=by
 intro pins s Z H x y v u Q I rx ry h
 obtain⟨l,b,xs,zs,rfl,rfl,hH,hB,hz,q⟩:=h
 cases rx
 cases ry
 obtain⟨z,its,n,r,hl,e⟩:=I.lstM hH
 obtain⟨z2,its2,n2,r2,hl2,e2⟩:=I.lstM hB
 refine PySem.P.add_list e e2 ?_ (by rw [List.size_toArray,List.size_toArray];omega)
 have ea:its.toArray++its2.toArray=(its++its2).toArray:=by simp
 rw [ea]
 exact⟨.ref _,_,I.lnew (t':=s.toks) (r.append r2) (by rw [List.length_append];omega),rfl,q _ I.fresh⟩
def zg7:R2:=λx y H Q=>∃ l k xs,x=.ref l/\y=.int k/\H l=some (.lst xs)/\-(2^63)<=k/\k<2^63/\xs.length*k.toNat<=sizeLine /\
 ∀ p,H p=none->Q (.ref p) (upd H p (.lst (List.replicate k.toNat xs).flatten))
theorem len_rep {α:Type} (xs:List α) (k:Nat):(List.replicate k xs).flatten.length=k*xs.length:=by
 induction k with
 | zero=>simp
 | succ k ih=>rw [List.replicate_succ,List.flatten_cons,List.length_append,ih,Nat.succ_mul,Nat.add_comm]
theorem Vg:OpR X (binaryOp .Mult) zg7:=by
 intro pins s Z H x y v u Q I rx ry h
 obtain⟨l,k,xs,rfl,rfl,hH,h1,h2,hz,q⟩:=h
 cases rx
 obtain⟨t,rfl⟩:=ry
 obtain⟨z,its,n,r,hl,e⟩:=I.lstM hH
 have hlen:its.toArray.size*k.toNat<=sizeLine:=by rw [List.size_toArray,<- hl];exact hz
 have hcap:¬ its.toArray.size*k.toNat>(2^63-1) / 8:=by
  have:(sizeLine:Nat)<=(2^63-1) / 8:=by decide
  omega
 have hfit:¬ (!Builtin.List.listFitsIndex k)=true:=by
  rw [fitsIndex_both h1 h2]
  exact Bool.false_ne_true
 have hlong:¬ Builtin.List.listTooLong (its.toArray.size*k.toNat)=true:=by
  rw [zd4 hlen]
  exact Bool.false_ne_true
 have hnew:List.foldl (λx1 x2=>x1++x2) #[] (List.replicate (if its.toArray.isEmpty=true then 0 else k.toNat) its.toArray)=(List.replicate k.toNat its).flatten.toArray:=by
  have f0:∀ m:Nat,List.foldl (λx1 x2=>x1++x2) #[] (List.replicate m its.toArray)=(List.replicate m its).flatten.toArray:=λm=>by
   have:=foldl_rep its m []
   rw [List.nil_append] at this
   exact this
  rw [f0]
  cases its with
  | nil=>simp
  | cons a r'=>rw [if_neg (by simp)]
 refine wpAny_binaryOp_repeat_ref (T:="list") (U:="int") (by decide) ⟨_,e,rfl⟩ (λs'=>typeIs_int s' k t) noFill_list_mul F.fills_int_mul F.slot_int_rmul repeat_list F.slot_int_index.lookup
  (call_meets F.slot_int_rmul (typeIs_int s k t) F.entry_int_rmul (F.args_int_rmul_2 _ _) (int___rmul___int_list k t l its.toArray n)
   ⟨e,rfl,⟨_,e,rfl⟩,call_meets F.slot_list_mul ⟨_,e,rfl⟩ F.entry_list_mul (F.args_list_mul_2 _ _) (AutoListH.list___mul___list_int_3 l its.toArray n k t hfit hcap hlong) ⟨e,?_⟩⟩)
 rw [hnew]
 exact⟨.ref _,_,I.lnew (t':=s.toks) (r.rep k.toNat) (by rw [len_rep,Nat.mul_comm];exact hz),rfl,q _ I.fresh⟩
end
section
variable {prog:Program} {w:World} {A:Around} {E:Value->Shared->Prop} {s:Shared}
end
section
variable {X:Cx}
end
end L2
namespace Att
open PySem PySem.W PySem.Calls PyProof.Rows
theorem VH {P:Params} {h:Heap}:∀ (ns:List Int) (vs:List Value),WellAll P h vs (ns.map WData.int)->IntsAre vs ns:=by
 intro ns
 induction ns with
 | nil =>
  intro vs w
  rw [List.map_nil] at w
  cases w
  exact .nil
 | cons n ns ih =>
  intro vs w
  rw [List.map_cons] at w
  cases w with
  | cons a b =>
   cases a
   exact .cons _ _ (ih _ b)
theorem zc2 {l:OpenLaw} {n:Nat} (hn:l.most=some n) {P:Params} {h:Heap} {args:List WData} {vals:List Value}
  (hpre:l.row.toRowW.claim.pre args=true) (hwl:WellAll P h vals args) :
  ∃ a vs ns,vals=[Value.ref a]/\args=[WData.list (ns.map WData.int)]/\h.get? a=some { cls:=.type "list",data:=.seq vs.toArray }/\IntsAre vs ns/\ns.length<=n:=by
 have hsh:WShape.hasAll [] args [.list .int]=true:=(pre_splitW hpre).1
 have hc:l.pre.holds [] { args:=args }=true:=(pre_splitW hpre).2
 obtain⟨d,r,rfl,h1,h2⟩:=hasAllW_cons hsh
 obtain rfl:=hasAllW_nil h2
 obtain⟨xs,rfl,h3⟩:=hasW_list h1
 obtain⟨ns,rfl⟩:=items_int h3
 have hlen:ns.length<=n:=by
  unfold OpenLaw.pre at hc
  have h4:(WTm.not (.lt (.lit (.int (n:Int))) (.len (.arg 0)))).holds [] { args:=[.list (ns.map .int)] }=true:=by
   have h4:=(holds_andW hc).1
   rw [hn] at h4
   exact h4
  have h5:=condW_of h4 (w_not (w_lt w_lit (w_len_list (w_arg rfl))))
  rw [List.length_map] at h5
  refine Nat.le_of_not_lt λq=>?_
  have q':(n:Int)<((ns.length:Nat):Int):=by omega
  first
   | (rw [decide_eq_true q'] at h5;exact absurd h5 (by decide))
   | (simp at h5;omega)
 cases hwl with
 | cons w1 w2 =>
  cases w2
  cases w1 with
  | list ho hall=>exact⟨_,_,ns,rfl,rfl,ho,VH ns _ hall,hlen⟩
theorem zdg (l:OpenLaw) (args:List WData):l.row.toRowW.claim.post args (.bool true) args=true :=
 postW_of (r:=l.row.toRowW) (X:=(true == true))
  (show WShape.has [] (.bool true) .bool=true by first | rfl | decide | simp [WShape.has,WShape.arms,WShape.armsAll])
  (show (WTm.eq .res (.lit (.bool true))).value [] { args:=args,res:=some (.bool true),after:=args }=some (.bool (true == true)) from w_eq_bool (w_res rfl) w_lit) rfl
theorem za5 {l:OpenLaw} {n:Nat} {q:Program} {loose:List Str} {XP:(Str->Option Value)->Heap->Prop} {YP:World->Heap->Prop} {d:DefRec}
  (hn:l.most=some n) (hdf:d.params.defaults=[])
  (call:∀ (w:World) (s₀ s₁:Shared) (mg mb:Str->Option Value) (fa:Addr) (o:Obj) (pm cd doc:Value) (a:Addr) (vs:List Value) (ns:List Int),
   Ground q loose [] XP w s₀ mg mb s₁.heap->YP w s₁.heap ->
   s₁.heap.get? fa=some o->o.data=.func (docDef d.name d.params d.body d.scope pm cd doc)->s₁.heap.CodeRec cd d.name->mg d.name=some (.ref fa) ->
   s₁.heap.get? a=some { cls:=.type "list",data:=.seq vs.toArray }->IntsAre vs ns->ns.length<=n->s₁.gens=#[] ->
   codeAny (model l.prog w) callerA (.call (.ref fa) ⟨[.ref a],[]⟩) (λr s'=>r=.ok (.ret (.bool true))/\OldK s₁.heap s'.heap/\s'.os=s₁.os/\AllBare s'.gens) s₁) :
  WalkO q loose XP YP l.row.toRowW d [] (λf vs=>PySem.call f vs):=by
 intro w s₀ s₁ mg mb G Y fa o pm cd doc dV kV ho hd hcd hD hmg hg args vals as hpre hlay hrd hwl hlo
 obtain rfl:dV=.none:=Dflts.none hD hdf
 obtain rfl:kV=.none:=Dflts.noKw hD
 obtain⟨a,vs,ns,rfl,rfl,hobj,hints,hlen⟩:=zc2 hn hpre hwl
 refine enter_call (codeAny_mono (call w s₀ s₁ mg mb fa o pm cd doc a vs ns G Y ho (fd_plain hd) hcd hmg hobj hints hlen hg) λr s' hq=>?_)
 obtain⟨rfl,h2,h3,h4⟩:=hq
 exact⟨.inl ⟨.bool true,.bool true,[],rfl,λ_=>rfl,.bool true,zdg l _,λ_=>⟨List.Pairwise.nil,λ_ hm=>(nomatch hm)⟩⟩,h2,h3,h4⟩
section
variable {prog:Program} {w:World} {A:Around} {E:Value->Shared->Prop} {s:Shared} {K:Frag}
end
end Att
namespace L2
open PySem PySem.Spec PyProof.Rows
theorem Q0:∀ {vs:List Value} {ns:List Int},IntsAre vs ns->Vals (ns.map V.int) vs
 | _,_,.nil=>.nil
 | _,_,.cons n t h=>.cons ⟨t,rfl⟩ (Q0 h)
def inClass (s:Stmt) (j:Nat):Stmt:=match s with
 | .ClassDef _ _ _ body _ _ _ _ _ _ _=>body.getD j (.Pass ⟨0,0,0,0⟩)
 | _=>.Pass ⟨0,0,0,0⟩
def vP (s:Stmt):Arguments:=match s with
 | .FunctionDef _ a _ _ _ _ _ _ _ _=>a
 | _=>{ posonlyargs:=[],args:=[],vararg:=none,kwonlyargs:=[],kw_defaults:=[],kwarg:=none,defaults:=[] }
def xU (s:Stmt):List Stmt:=match s with
 | .FunctionDef _ _ b _ _ _ _ _ _ _=>b
 | _=>[]
def zu (s:Stmt):Scope:=match s with
 | .FunctionDef _ _ _ _ _ _ sc _ _ _=>sc
 | _=>{ kind:=.function,names:=[],isGenerator:=false,isCoroutine:=false }
abbrev CX0:CXT:=λ_ _ _ _ _ _=>False
abbrev E0:XK:=λ_ _ _=>False
theorem zaF {X:Cx}:Vd CX0 X E0:=λ_ _ _ _ _ _ _ h=>h.elim
structure Fun (K:W.Frag) (x qual:Str) (st:Stmt) (f:Addr) (fd:FuncData):Prop where
 ex:∃ (oc:Value) (od:Option Addr) (kV doc pm:Value) (an:Option Addr) (cdv ct:Value) (osl:Array (Option Value)),
  fd=W.fnOf x qual (vP st) (xU st) (zu st) .none kV doc pm an cdv ct/\K.lookup f=some ⟨oc,od,.func fd,osl⟩/\W.codeIn K cdv qual=true
 kp:W.keepIn K (.ref f)=true
section
variable {P:Program} {w:World} {K:W.Frag} {mg:Str->Option Value} {base:Heap}
theorem Fun.ok {x qual:Str} {st:Stmt} {f:Addr} {fd:FuncData} {N ps:List Str} {k:Nat} {sp:Sp} (F:Fun K x qual st f fd) (S:zF N ps (zu st)) (len:∀ vs H Q E,sp vs H Q E->vs.length=ps.length)
  (hbody:∀ (cdv:Value) (A:Around) (outer:List Env) (s:Shared) (H:Hp) (vs:List V) (Q:VK) (E:XK),Room k (A.deeper (envOfC qual (zu st) s.heap.objs.size f cdv))->sp vs H Q E ->
   ∃ t,PSs (VP CX0 P w K mg base N qual (zu st) f cdv A outer s H E).nox (xU st) t/\t { nx:=λ_ H'=>Q .non H',rt:=Q } (start N vs) H):FnOk P w K mg base CX0 (k+1) f fd ps sp:=by
 obtain⟨oc,od,kV,doc,pm,an,cdv,ct,osl,rfl,lk,hcd⟩:=F.ex
 refine zfq lk hcd S len λA outer s H vs Q E hr hsp=>?_
 obtain⟨t,h,q⟩:=hbody cdv A outer s H vs Q E hr hsp
 exact⟨t,h.nox,q⟩
theorem Fun.binds {x qual:Str} {st:Stmt} {f:Addr} {fd:FuncData} {ps:List Str} (F:Fun K x qual st f fd)
  (h:∀ (kV doc pm:Value) (an:Option Addr) (cdv ct:Value) (us:List Value),us.length=ps.length->bindArgs (W.fnOf x qual (vP st) (xU st) (zu st) .none kV doc pm an cdv ct) ⟨us,[]⟩=pure (ps.zip us)):Binds K fd ps []:=by
 obtain⟨oc,od,kV,doc,pm,an,cdv,ct,osl,rfl,lk,hcd⟩:=F.ex
 exact .all (h kV doc pm an cdv ct)
theorem JL {x qual:Str} {st:Stmt} {f:Addr} {oc:Value} {od an:Option Addr} {osl:Array (Option Value)} {kV doc pm cdv ct:Value} (l:K.lookup f=some ⟨oc,od,.func (W.fnOf x qual (vP st) (xU st) (zu st) .none kV doc pm an cdv ct),osl⟩)
  (c:W.codeIn K cdv qual=true) (k:W.keepIn K (.ref f)=true):Fun K x qual st f (W.fnOf x qual (vP st) (xU st) (zu st) .none kV doc pm an cdv ct):=⟨⟨oc,od,kV,doc,pm,an,cdv,ct,osl,rfl,l,c⟩,k⟩
end
theorem zgi {A:Around} {k:Nat} (hr:Room k A):A.units+1<cLine:=Nat.lt_of_le_of_lt (Nat.add_le_add_left (by decide:1<=64) _) hr.units
section
variable {X:Cx}
theorem pv (i:Nat) {x:Str} {pos:Pos} (hN:X.N[i]?=some x:=by rfl) (hv:Vis X.env.scope x:=by first | exact Or.inl rfl | exact Or.inr (Or.inl rfl) | exact Or.inr (Or.inr rfl)) (hd:(x == ("__debug__" : Str))=false:=by decide)
  (hcd:(x == ("__classdict__" : Str))=false:=by decide):PE X (.Name x pos) (zgM i):=zga hN hv hd hcd
end
theorem xX {A B:Prop} (h:B):if false=true then A else B:=by
 rw [if_neg Bool.false_ne_true]
 exact h
theorem vL {A B:Prop} (h:A):if true=true then A else B:=by
 rw [if_pos rfl]
 exact h
theorem J5 {c A B:Prop} [Decidable c] (h1:c->A) (h2:¬ c->B):if c then A else B:=by
 by_cases h:c
 ·rw [if_pos h]
  exact h1 h
 ·rw [if_neg h]
  exact h2 h
def Same (H H':Hp):Prop:=∀ b o,H b=some o->H' b=some o
theorem Same.refl (H:Hp):Same H H:=λ_ _ h=>h
theorem Same.trans {H H1 H2:Hp} (a:Same H H1) (b:Same H1 H2):Same H H2:=λc o h=>b c o (a c o h)
theorem Same.free {H H':Hp} (e:Same H H') {l:Addr} (h:H' l=Option.none):H l=Option.none:=by
 cases q:H l with
 | none=>rfl
 | some o =>
  rw [e l o q] at h
  cases h
theorem Same.seq {K:W.Frag} {H H':Hp} {a:Addr} {xs:List V} (e:Same H H') (h:SqL K H a xs):SqL K H' a xs:=by
 rcases h with (h | ⟨o,h⟩) | h
 ·exact .inl (.inl (e _ _ h))
 ·exact .inl (.inr ⟨o,e _ _ h⟩)
 ·exact .inr h
def yt (cells:List (Str×Addr)):List (Str×NameKind)->List (Str×Addr)->List (Str×Addr)
 | [],cs=>cs
 | (n,k) :: r,cs=>yt cells r (if k=.free then (match cells.lookup n with | some c=>(n,c) :: cs | none=>cs) else cs)
theorem YK {env:Env}:∀ (names:List (Str×NameKind)) (cs:List (Str×Addr)),(∀ x∈names,x.2=.free->∃ c,env.cells.lookup x.1=some c) ->
  (forIn names cs λ(x:Str×NameKind) (r:List (Str×Addr))=>if (x.2 == .free)=true then (do let c <- cellOf env x.1;pure (ForInStep.yield ((x.1,c) :: r)):Sem _) else pure (ForInStep.yield r))=pure (yt env.cells names cs)
 | [],cs,_=>rfl
 | (n,k) :: r,cs,h=>by
  have ih:=λcs'=>YK (env:=env) r cs' λx hx=>h x (List.mem_cons_of_mem _ hx)
  rw [List.forIn_cons]
  by_cases hk:k=.free
  ·subst hk
   obtain⟨c,hc⟩:=h (n,.free) List.mem_cons_self rfl
   have e:cellOf env n=pure c:=by unfold cellOf;rw [hc]
   simp only [beq_self_eq_true,if_true,e,pure_bind,yt,hc]
   exact ih _
  ·have hb:(k == NameKind.free)=false:=by simpa using hk
   simp only [hb,Bool.false_eq_true,if_false,pure_bind,yt,hk]
   exact ih _
theorem uf {scope:Scope} {env:Env} (h:∀ x∈scope.names,x.2=.free->∃ c,env.cells.lookup x.1=some c):closureFor scope env=pure (yt env.cells scope.names []):=by
  have e:=YK scope.names [] h
  unfold closureFor
  first
    | (simp only [bind_pure];exact e)
    | (show (forIn scope.names [] _ >>= λr=>pure r)=_
       rw [show (forIn scope.names ([]:List (Str×Addr)) _:Sem _)=_ from e]
       rfl)
theorem xW {cells:List (Str×Addr)} {y:Str} {c:Addr}:∀ {names:List (Str×NameKind)} {cs:List (Str×Addr)},(∀ y c,cs.lookup y=some c->cells.lookup y=some c)->(yt cells names cs).lookup y=some c->cells.lookup y=some c
 | [],cs,h,e=>h y c e
 | (n,k) :: r,cs,h,e=>by
  refine xW (names:=r) ?_ e
  intro y' c' e'
  by_cases hk:k=.free
  ·rw [if_pos hk] at e'
   cases q:cells.lookup n with
   | none=>rw [q] at e';exact h _ _ e'
   | some d =>
    rw [q] at e'
    simp only [List.lookup_cons] at e'
    cases hb:y' == n with
    | true =>
     rw [hb] at e'
     cases e'
     have:y'=n:=by simpa using hb
     rw [this];exact q
    | false=>rw [hb] at e';exact h _ _ e'
  ·rw [if_neg hk] at e';exact h _ _ e'
theorem YC {cells:List (Str×Addr)} {y:Str}:∀ {names:List (Str×NameKind)} {cs:List (Str×Addr)},((∃ c,cs.lookup y=some c)\/((y,NameKind.free)∈names/\∃ c,cells.lookup y=some c))->∃ c,(yt cells names cs).lookup y=some c
 | [],cs,h=>by
  rcases h with h | ⟨h,_⟩
  ·exact h
  ·cases h
 | (n,k) :: r,cs,h=>by
  refine YC (names:=r) ?_
  rcases h with ⟨c,h⟩ | ⟨h,c,hc⟩
  ·left
   by_cases hk:k=.free
   ·rw [if_pos hk]
    cases q:cells.lookup n with
    | none=>exact⟨c,h⟩
    | some d =>
     simp only [List.lookup_cons]
     cases hb:y == n with
     | true=>exact⟨d,rfl⟩
     | false=>exact⟨c,h⟩
   ·rw [if_neg hk];exact⟨c,h⟩
  ·rcases List.mem_cons.mp h with e | h
   ·cases e
    left
    rw [if_pos rfl,hc]
    exact⟨c,by simp⟩
   ·exact .inr ⟨h,c,hc⟩
theorem yD {env:Env}:∀ {names:List (Str×NameKind)} {x:Str} {k:NameKind},
  (names.map λ(n,k)=>if (k == NameKind.free && env.scope.kind == .function && env.kindOf n == some .cell) then (n,NameKind.cell) else (n,k)).lookup x=some k->names.lookup x=some k\/(k=.cell/\names.lookup x=some .free)
 | [],_,_,h=>by simp at h
 | (n,k0) :: r,x,k,h=>by
  have ih:=@yD env r x k
  rw [List.map_cons] at h
  by_cases hc:(k0 == NameKind.free && env.scope.kind == .function && env.kindOf n == some .cell)=true
  ·simp only [hc,if_true,List.lookup_cons] at h
   have hk0:k0=.free:=by
    simp only [Bool.and_eq_true] at hc
    simpa using hc.1.1
   cases hx:x == n with
   | true=>rw [hx] at h;cases h;right;simp [List.lookup_cons,hx,hk0]
   | false=>rw [hx] at h;simp only [List.lookup_cons,hx];exact ih h
  ·have hc':(k0 == NameKind.free && env.scope.kind == .function && env.kindOf n == some .cell)=false:=by simpa using hc
   simp only [hc',Bool.false_eq_true,if_false,List.lookup_cons] at h
   cases hx:x == n with
   | true=>rw [hx] at h;cases h;left;simp [List.lookup_cons,hx]
   | false=>rw [hx] at h;simp only [List.lookup_cons,hx];exact ih h
def cxC (X:Cx) (N:List Str) (scope:Scope) (C:Addr) (s₀:Shared) (H₀:Hp) (ex:List Addr):Cx where
 prog:=X.prog
 w:=X.w
 K:=X.K
 mg:=X.mg
 base:=X.base
 A:=X.A
 N:=N
 s₀:=s₀
 H₀:=H₀
 env:=compEnvC scope (yt X.env.cells scope.names []) C X.env
 outer:=X.stack
 stack:=X.stack
 ex:=ex
 fn:=λ_=>false
 calm:=X.calm
 pn:=[]
 xe:=λ_ _=>False
def yK (js:List Nat) (Z:St):St:=js.map λj=>(Z[j]?).join
theorem Uw {js:List Nat} {Z:St} {i:Nat} {v:V} (h:(yK js Z)[i]?=some (some v)):∃ j,js[i]?=some j/\Z[j]?=some (some v):=by
 unfold yK at h
 rw [List.getElem?_map] at h
 cases e:js[i]? with
 | none=>rw [e] at h;cases h
 | some j =>
  rw [e] at h
  have h':(Z[j]?).join=some v:=Option.some.inj h
  refine⟨j,rfl,?_⟩
  cases q:Z[j]? with
  | none=>rw [q] at h';cases h'
  | some z=>rw [q] at h';exact congrArg some h'
structure CScope (sc:Scope) (scope:Scope) (x:Str) (M:List Str) (ys:List Str) (js:List Nat):Prop where
 kind:scope.kind=.function:=by rfl
 cell:∀ y∈scope.names,y.2≠.cell:=by decide +kernel
 loc:∀ y∈scope.names,y.2=.local->scope.names.lookup y.1=some .local:=by decide +kernel
 var:scope.names.lookup x=some .local:=by rfl
 free:∀ y∈scope.names,y.2=.free->sc.names.lookup y.1=some .cell\/sc.names.lookup y.1=some .free:=by decide +kernel
 caps:js.map (M[·]?)=ys.map some:=by rfl
 fr:∀ y∈ys,scope.names.lookup y=some .free:=by decide +kernel
 nd:(x :: ys).Nodup:=by decide +kernel
section
variable {X:Cx} {pins:List (Addr×Obj)} {Z:St} {H:Hp} {s:Shared}
theorem zdZ {scope:Scope} {x:Str} {ys:List Str} {js:List Nat} {fp:List Addr} {h₁:Heap} {tk:Nat} {C:Addr} (I:Inv X pins Z H s) (S:CScope X.env.scope scope x X.N ys js) (hf:∀ b∈fp,YD X pins H b) (ho:∀ b∈fp,∃ o,s.heap.get? b=some o)
  (hC:s.heap.objs.size<=C) (hk:∀ b o,s.heap.get? b=some o->h₁.get? b=some o) (hn:h₁.Ns C λ_=>none) :
  Inv (cxC X (x :: ys) scope C s H fp) [] (none :: yK js Z) H { s with heap:=h₁,toks:=tk }:=by
 have sub:∀ y c,(yt X.env.cells scope.names []).lookup y=some c->X.env.cells.lookup y=some c:=λy c e=>xW (λ_ _ z=>by simp at z) e
 have has:∀ y,scope.names.lookup y=some .free->∃ c,(yt X.env.cells scope.names []).lookup y=some c:=λy e=>by
  have m:(y,NameKind.free)∈scope.names:=PySem.mem_of_lookup e
  exact YC (.inr ⟨m,I.ok.has y (S.free _ m rfl)⟩)
 have lt:∀ b∈fp,b<s.heap.objs.size:=λb hb=>by obtain⟨o,e⟩:=ho b hb;exact Heap.lt_size e
 have ok:(cxC X (x :: ys) scope C s H fp).Ok:=by
  refine⟨I.ok.mod,S.kind,I.ok.glob,I.ok.blt,hC,λy z c e1 e2=>I.ok.inj y z c (sub _ _ e1) (sub _ _ e2),λy hy=>?_,λy c z=>?_,I.ok.hd,I.ok.frames,.inl rfl,λb hb=>?_,I.bs,Nat.le_trans I.ok.bsz I.sz,λb o e hb=>?_,λb hb z=>?_,I.stack,I.stkFree⟩
  ·have hy':(relabel scope X.env).names.lookup y=some .cell\/(relabel scope X.env).names.lookup y=some .free:=hy
   have nocell:scope.names.lookup y≠some .cell:=λz=>S.cell _ (PySem.mem_of_lookup z) rfl
   rcases hy' with e | e
   ·rcases yD e with z | ⟨_,z⟩
    ·exact absurd z nocell
    ·exact has y z
   ·rcases yD e with z | ⟨z,_⟩
    ·exact has y z
    ·cases z
  ·exact absurd (show false=true from z) Bool.false_ne_true
  ·refine⟨Nat.ne_of_lt (Nat.lt_of_lt_of_le (lt b hb) hC),λy c e=>(hf b hb).2.2.2.2.1 y c (sub y c e)⟩
  ·rcases (hf b hb).2.2.2.1 with z | z
   ·exact I.ok.noex b o e z
   ·exact absurd (Nat.lt_of_lt_of_le (Heap.lt_size e) (Nat.le_trans I.ok.bsz z)) (Nat.lt_irrefl _)
  ·rcases List.mem_cons.mp (I.stkSub b z) with e | e
   ·exact (hf b hb).2.1 e
   ·exact (hf b hb).2.2.1 e
 refine⟨ok,rfl,I.bare,Un.kept hk,⟨_,hn,λi y v e1 e2 e3=>?_⟩,λy c e=>?_,I.hok.fresh hC,λy c e=>I.freeC y c (sub y c e),λp hp=>absurd (show p∈([]:List (Addr×Obj)) from hp) (by simp),I.hok.kept hk,?_⟩
 ·cases i with
  | zero=>simp at e2
  | succ i =>
   have e1':ys[i]?=some y:=by simpa [cxC] using e1
   have e2':(yK js Z)[i]?=some (some v):=by simpa using e2
   obtain⟨j,hj,hσ⟩:=Uw e2'
   have hN:X.N[j]?=some y:=by
    have z:=congrArg (λl=>l[i]?) S.caps
    simp only [List.getElem?_map,hj,e1',Option.map_some] at z
    exact Option.some.inj z
   have hfr:=S.fr y (List.mem_of_getElem? e1')
   have m:(y,NameKind.free)∈scope.names:=PySem.mem_of_lookup hfr
   have hkind:=S.free _ m rfl
   obtain⟨m',hns,hl⟩:=I.loc
   obtain⟨u,r,lk⟩:=hl j y v hN hσ (by rcases hkind with z | z;exact .inr (.inl z);exact .inr (.inr z))
   refine⟨u,r,.inr ⟨?_,?_⟩⟩
   ·have e3':(relabel scope X.env).names.lookup y=some .local\/(relabel scope X.env).names.lookup y=some .cell\/(relabel scope X.env).names.lookup y=some .free:=e3
    rcases e3' with z | z | z
    ·rcases yD z with q | ⟨q,_⟩
     ·rw [hfr] at q;cases q
     ·cases q
    ·exact .inl z
    ·exact .inr z
   ·obtain⟨c,hc⟩:=has y hfr
    refine⟨c,hc,?_⟩
    rcases lk with ⟨z,_⟩ | ⟨_,c',hc',cell⟩
    ·rcases hkind with q | q
     ·have q':X.env.kindOf y=some .cell:=q
      rw [show X.env.kindOf y=some .local from z] at q';cases q'
     ·have q':X.env.kindOf y=some .free:=q
      rw [show X.env.kindOf y=some .local from z] at q';cases q'
    ·rw [sub y c hc] at hc'
     cases hc'
     obtain⟨o,e,d⟩:=cell
     exact⟨o,hk _ _ e,d⟩
 ·obtain⟨v,o,e',d⟩:=I.cell y c (sub y c e)
  exact⟨v,o,hk _ _ e',d⟩
 ·have z:=congrArg List.length S.caps
  simp only [List.length_map] at z
  show (none :: yK js Z).length=(x :: ys).length
  simp [yK,z]
end
theorem QS {α β:Type} {M:Model} {A:Around} {a:α} {Q:α->Shared->Prop} {E E':Value->Shared->Prop} {s:Shared} {t:Sem β} {Q':β->Shared->Prop} (h:wpAny M A (pure a) Q E s) (k:Q a s->wpAny M A t Q' E' s):wpAny M A t Q' E' s :=
 fun Γ p hΓ=>k (h Γ p hΓ) Γ p hΓ
def PTs (X:Cx) (ifs:List Expr) (t:TT):Prop :=
 ∀ (pins:List (Addr×Obj)) (s:Shared) (Z:St) (H:Hp) (Q:Bool->Hp->Prop),Inv X pins Z H s->t Z H Q ->
  wpAny (model X.prog X.w) X.A (forIn ifs true λc r=>if r=true then do let ok <- isTrue c X.env (eval c X.env);pure (ForInStep.yield ok) else pure (ForInStep.yield r)) (TP X pins Z Q) X.xe s
def jl:TT:=λ_ H Q=>Q true H
theorem yJ {X:Cx}:PTs X [] jl:=λpins s Z H Q I h=>wpAny_tests_nil ⟨H,I,h⟩
theorem Ud {X:Cx} {c:Expr} {t:TT} (h:PT X c t):PTs X [c] t:=λpins s Z H Q I hw=>wpAny_tests_one (h pins s Z H Q I hw)
def W0 (J:It) (js:List Nat) (tt:TT) (te:TE) (Z:St) (Q:VK) (H:Hp):Prop:=∃ W:Nat->Nat->List V->Hp->Prop,(∃ m,W 0 m [] H)/\∀ i m ys H,W i m ys H ->
 (J.stop i H/\∀ D,H D=none->Q (.ref D) (upd H D (.lst ys))) \/
 (J.go i H/\ys.length<sizeLine/\∃ N:List V->Hp->Prop,(∀ ys' H',N ys' H'->∃ m',m'<m/\W (i+1) m' ys' H')/\∀ x H',J.yld i H x H'->tt (some x :: yK js Z) H' λb H2=>if b=true then te (some x :: yK js Z) H2 λv H3=>N (ys++[v]) H3 else N ys H2)
def zeg (wi:TI) (js:List Nat) (tt:TT) (te:TE):TE:=λZ H Q=>wi Z H λJ H1=>W0 J js tt te Z Q H1
theorem HOk.track {P:Program} {w:World} {H:Hp} {h:Heap} {a:Addr} {o:HO} (x:HOk P w H h) (hn:H a=none) (new:ObjOk P w (upd H a o) h a o):HOk P w (upd H a o) h:=λb u e=>by
 by_cases hb:b=a
 ·subst hb;rw [zf] at e;cases e;exact new
 ·rw [zq hb] at e
  exact (x b u e).stay (λ_ _ _ q=>q) (λc q=>by rw [zq (zy q hn)];exact q) λc xs q=>by rw [zq (zy q hn)];exact q
section
variable {X:Cx} {elt iter:Expr} {ifs:List Expr} {x:Str} {px pos:Pos} {scope:Scope} {ys:List Str} {js:List Nat} {wi:TI} {tt:TT} {te:TE}
theorem Qw {pins:List (Addr×Obj)} {Z:St} {H:Hp} {s:Shared} {J:It} {fp:List Addr} {it:Addr} {tn:Nat->Heap->Prop} {Q:VK} {E:Value->Shared->Prop} {R:Value->Addr->Result->Shared->Prop}
  (S:CScope X.env.scope scope x X.N ys js) (hc:X.calm=true) (ht:∀ C s₀ H₀ ex,PTs (cxC X (x :: ys) scope C s₀ H₀ ex) ifs tt) (he:∀ C s₀ H₀ ex,PE (cxC X (x :: ys) scope C s₀ H₀ ex) elt te)
  (I:Inv X pins Z H s) (T:Turn X.prog X.w X.K (.Name x px) J fp it tn) (st:tn 0 s.heap) (hf:∀ b∈fp,YD X pins H b)
  (hw:∃ W:Nat->Nat->List V->Hp->Prop,(∃ m,W 0 m [] H)/\∀ i m zs H,W i m zs H ->
   (J.stop i H/\∀ D,H D=none->Q (.ref D) (upd H D (.lst zs))) \/
   (J.go i H/\zs.length<sizeLine/\∃ N:List V->Hp->Prop,(∀ ys' H',N ys' H'->∃ m',m'<m/\W (i+1) m' ys' H')/\∀ x H',J.yld i H x H'->tt (some x :: yK js Z) H' λb H2=>if b=true then te (some x :: yK js Z) H2 λv H3=>N (zs++[v]) H3 else N zs H2))
  (hR:∀ D C s' H' m',Inv X pins Z H' s'->Q (.ref D) H'->s.heap.objs.size<=C->H' C=none->s'.heap.Ns C m'->R (.ref D) C (.ok .next) s') :
  wpAny (model X.prog X.w) X.A (newList []) (λacc s₃=>wpAny (model X.prog X.w) X.A (newFunctionEnv scope X.env.globals (yt X.env.cells scope.names []) [] X.env.qual none .none (some X.env)) (λcenv s₄ =>
   codeAny (model X.prog X.w) X.A (.compStart (.ListComp elt [⟨.Name x px,iter,ifs,0⟩] scope pos) 0 (.ref it) acc { cenv with scope:=relabel scope X.env }) (R acc cenv.locals) s₄) E s₃) E s:=by
 obtain⟨W,⟨m0,w0⟩,turn⟩:=hw
 refine wpAny_newObj_type (wpAny_newFunctionEnv S.cell (by intro y hy;simp at hy) (λh₁ hns₁ hsb₁=>?_) S.kind)
 dsimp only at hns₁ hsb₁ ⊢
 generalize hH2:s.heap.push { cls:=.type "list",dict:=none,data:=.seq ([]:List Value).toArray }=G at hns₁ hsb₁ ⊢
 generalize hD:s.heap.objs.size=D at *
 generalize hCe:G.objs.size=C at *
 have hC:C=D+1:=by rw [<- hCe,<- hH2,Heap.size_push,hD]
 have hDlt:D<C:=by rw [hC];exact Nat.lt_succ_self D
 have hDC:D≠C:=Nat.ne_of_lt hDlt
 have old:∀ b o,s.heap.get? b=some o->h₁.get? b=some o:=λb o e=>by
  have hb:b<D:=hD▸Heap.lt_size e
  exact (hsb₁.2 b (Nat.ne_of_lt (Nat.lt_trans hb hDlt))).trans (Heap.get?_push_of_some _ (hH2▸Heap.get?_push_of_some _ e))
 have hacc:h₁.get? D=some { cls:=.type "list",data:=.seq ([]:List Value).toArray 0 }:=by
  refine (hsb₁.2 D hDC).trans (Heap.get?_push_of_some _ ?_)
  rw [<- hH2,<- hD]
  exact Heap.get?_push_size _ rfl
 have obj0:=T.obj 0 _ st
 have fplt:∀ b∈fp,b<D:=λb hb=>by obtain⟨o,e,_⟩:=obj0 b hb;exact hD▸Heap.lt_size e
 generalize hX:cxC X (x :: ys) scope C s H fp=X'
 have I1:Inv X' [] (none :: yK js Z) H { s with heap:=h₁,toks:=s.toks+([]:List (Str×Value)).length }:=by
  subst hX
  exact zdZ I S hf (λb hb=>by obtain⟨o,e,_⟩:=obj0 b hb;exact⟨o,e⟩) (by omega) old (by simpa using hns₁)
 have eP:X'.prog=X.prog:=by subst hX;rfl
 have eW:X'.w=X.w:=by subst hX;rfl
 have eK:X'.K=X.K:=by subst hX;rfl
 have eA:X'.A=X.A:=by subst hX;rfl
 have eC:X'.calm=true:=by subst hX;exact hc
 have eL:X'.env.locals=C:=by subst hX;rfl
 have eS:X'.s₀=s:=by subst hX;rfl
 have eN:X'.N=x :: ys:=by subst hX;rfl
 have eE:X'.env=compEnvC scope (yt X.env.cells scope.names []) C X.env:=by subst hX;rfl
 have eXe:X'.xe=λ_ _=>False:=by subst hX;rfl
 have eX:X'.ex=fp:=by subst hX;rfl
 have ePn:X'.pn=[]:=by subst hX;rfl
 have efs:∀ b,b∈X'.fs->b∈frs X.stack:=λb z=>by subst hX;exact z
 have cellLt:∀ y c,X'.env.cells.lookup y=some c->c<D:=λy c e=>by
  have e':(yt X.env.cells scope.names []).lookup y=some c:=by rw [eE] at e;exact e
  obtain⟨v,o,e2,_⟩:=I.cell y c (xW (λ_ _ z=>by simp at z) e')
  exact hD▸Heap.lt_size e2
 have frLt:∀ b,b∈X'.fs->b<D:=λb z=>by
  rcases List.mem_cons.mp (I.stkSub b (efs b z)) with e | e
  ·rw [e];exact hD▸I.lt
  ·exact Nat.lt_of_not_le λh=>I.nofs (hD▸h) e
 have fpOk:∀ (p:List (Addr×Obj)) (H':Hp),(∀ b∈fp,H' b=none)->(∀ q∈p,q.1=D)->∀ b∈fp,YD X' p H' b:=λp H' hn hp b hb=>by
  refine⟨hn b hb,?_,λz=>?_,.inl (eX▸hb),λy c e=>?_,λq hq=>?_⟩
  ·rw [eL];exact Nat.ne_of_lt (Nat.lt_trans (fplt b hb) hDlt)
  ·rcases List.mem_cons.mp (I.stkSub b (efs b z)) with e | e
   ·exact (hf b hb).2.1 e
   ·exact (hf b hb).2.2.1 e
  ·have e':(yt X.env.cells scope.names []).lookup y=some c:=by rw [eE] at e;exact e
   exact (hf b hb).2.2.2.2.1 y c (xW (λ_ _ z=>by simp at z) e')
  ·rw [ePn,List.nil_append] at hq
   rw [hp q hq];exact Nat.ne_of_gt (fplt b hb)
 have noCell:∀ (its:List Value) (k:Nat) v,({ cls:=.type "list",data:=.seq its.toArray k }:Obj).data≠.cell v:=λits k v z=>by cases z
 have done:∀ {zs:List V} {its:List Value} {k:Nat} {H':Hp} {s':Shared},Inv X' [] (none :: yK js Z) H' s'->s'.heap.get? D=some { cls:=.type "list",data:=.seq its.toArray k }->Vals zs its->H' D=none->zs.length<=sizeLine ->
   (∀ D,H' D=none->Q (.ref D) (upd H' D (.lst zs)))->R (.ref D) C (.ok .next) s':=λ{zs its k H' s'} I' hd hv hn hz q=>by
  have un:=I'.base
  obtain⟨m',hns,_⟩:=I'.loc
  rw [eL] at hns
  have hCn:H' C=none:=by have:=I'.free;rw [eL] at this;exact this
  have hH0:X'.H₀=H:=by subst hX;rfl
  rw [hH0,eS,eX] at un
  have un2:Un (frs X.stack) fp H (upd H' D (.lst zs)) s.heap s'.heap:=by
   have ne:∀ b o,s.heap.get? b=some o->b≠D:=λb o e=>Nat.ne_of_lt (hD▸Heap.lt_size e)
   have un':Un (frs X.stack) fp H H' s.heap s'.heap:=by subst hX;exact un
   exact⟨un'.keep,un'.slot,λb o e n hx=>by rw [zq (ne b o e)];exact un'.free b o e n hx,un'.there,λb xs e=>by rw [zq (zy (un'.tups b xs e) hn)];exact un'.tups b xs e,
    λb o u e=>by rw [zq (zy (un'.frzs b o u e) hn)];exact un'.frzs b o u e,λb ps e=>by
     obtain⟨more,z⟩:=un'.tbls b ps e
     exact⟨more,by rw [zq (zy z hn)];exact z⟩⟩
  have hok:HOk X.prog X.w (upd H' D (.lst zs)) s'.heap:=by
   have h0:=I'.hok
   rw [eP,eW] at h0
   exact h0.track hn ⟨hz,its,k,hv,hd⟩
  have I2:Inv X pins Z (upd H' D (.lst zs)) s':=I.call' (by have:=I'.os;rw [eS] at this;exact this) un2 hok I'.bare λb hb=>⟨(hf b hb).2.2.2.1,(hf b hb).2.1,(hf b hb).2.2.2.2.1,(hf b hb).2.2.2.2.2⟩
  exact hR D C s' _ m' I2 (q D hn) (by omega) (by rw [zq (Ne.symm hDC)];exact hCn) hns
 have loop:codeAny (model X.prog X.w) X.A (.compLoop (.ListComp elt [⟨.Name x px,iter,ifs,0⟩] scope pos) 0 (.ref it) (.ref D) X'.env) (R (.ref D) C) { s with heap:=h₁,toks:=s.toks+([]:List (Str×Value)).length }:=by
  refine codeAny_compLoop_tests (λn s'=>∃ i zs its k H',Inv X' [] (none :: yK js Z) H' s'/\tn i s'.heap/\(∀ b∈fp,H' b=none)/\s'.heap.get? D=some { cls:=.type "list",data:=.seq its.toArray k }/\Vals zs its/\H' D=none/\zs.length<=sizeLine/\W i n zs H')
   ?_ m0 ⟨0,[],[],0,H,I1,T.keep _ _ _ st (λb hb o e=>old b o e),λb hb=>(hf b hb).1,hacc,.nil,I.hok.fresh (by omega),Nat.zero_le _,w0⟩ (λ_=>rfl)
  rintro n s3 ⟨i,zs,its,k,H3,I3,st3,fr3,d3,v3,n3,z3,w3⟩
  have pinD:Inv X' [(D,{ cls:=.type "list",data:=.seq its.toArray k })] (none :: yK js Z) H3 s3:=I3.pins_of λp hp=>by
   have e:p=(D,{ cls:=.type "list",data:=.seq its.toArray k }):=by simpa using hp
   subst e
   exact⟨d3,n3,by rw [eL];exact hDC,λz=>Nat.lt_irrefl _ (frLt D z),noCell its k⟩
  have hpD:∀ q∈[(D,({ cls:=.type "list",data:=.seq its.toArray k }:Obj))],q.1=D:=λq hq=>by
   have e:q=(D,{ cls:=.type "list",data:=.seq its.toArray k }):=by simpa using hq
   rw [e]
  rcases turn i n zs H3 w3 with ⟨stop,qn⟩ | ⟨go,hzl,NN,hNN,step⟩
  ·refine thn (eA▸T.done X' eP eW eK eC i _ s3 _ H3 _ pinD (fpOk _ _ fr3 hpD) st3 stop) λr s4 ⟨hr,I4⟩=>?_
   subst hr
   exact done (I4.pins_of λp hp=>absurd hp (by simp)) (I4.pin (D,{ cls:=.type "list",data:=.seq its.toArray k }) (List.mem_append_right _ (by simp))).1 v3 n3 z3 qn
  ·refine thn (eA▸T.item X' eP eW eK eC i _ s3 _ H3 _ pinD (fpOk _ _ fr3 hpD) st3 go) λr s4 ⟨u,hr,h4⟩=>?_
   subst hr
   refine QS (a:=()) h4 λ⟨v,H5,I5,r5,y5,st5,fr5⟩=>?_
   have I5':=I5.pinned (fpOk _ _ fr5 hpD) (T.obj _ _ st5)
   have ev:∀ {α:Type} {t:Sem α} {Q':α->Shared->Prop} {E':Value->Shared->Prop} {s':Shared},wpAny (model X'.prog X'.w) X'.A t Q' X'.xe s'->wpAny (model X.prog X.w) X.A t Q' E' s':=λ{α t Q' E' s'} hh=>by
    rw [eP,eW,eA,eXe] at hh
    exact wpAny_mono hh (λ_ _ q=>q) λ_ _ z=>z.elim
   refine ev (thn (zQ (X:=X') (i:=0) (by rw [eN];exact S.nd) (by rw [eN];rfl) (.inl (by rw [eE];exact lookup_relabel_local S.var)) (.inr (by rw [eE];exact lookup_relabel_local S.var)) _ s4 _ H5 v u (fun σ' H'=>σ'=some v :: yK js Z/\H'=H5) I5' r5 ⟨rfl,rfl⟩) λ_ s6 ⟨σ6,H6,I6,e6,e6'⟩=>?_)
   subst e6 e6'
   have back:∀ {σ':St} {H7:Hp} {s7:Shared},Inv X' ([(D,{ cls:=.type "list",data:=.seq its.toArray k })]++Zw fp s4.heap) (some v :: yK js Z) H7 s7->Inv X' [] (none :: yK js Z) H7 s7:=λ{_ H7 s7} I7=>by
    refine (I7.pins_of λp hp=>absurd hp (by simp)).weak rfl λi v' e=>?_
    cases i with
    | zero=>simp at e
    | succ i=>simpa using e
   have fps:∀ {σ':St} {H7:Hp} {s7:Shared},Inv X' ([(D,{ cls:=.type "list",data:=.seq its.toArray k })]++Zw fp s4.heap) σ' H7 s7->(∀ b∈fp,H7 b=none)/\(∀ b∈fp,∀ o,s4.heap.get? b=some o->s7.heap.get? b=some o)/\s7.heap.get? D=some { cls:=.type "list",data:=.seq its.toArray k }/\H7 D=none:=λ{σ' H7 s7} I7=>by
    have g:∀ b∈fp,∀ o,s4.heap.get? b=some o->s7.heap.get? b=some o/\H7 b=none:=λb hb o e=>by
     have z:=I7.pin (b,o) (List.mem_append_right _ (List.mem_append_right _ (jR hb e)))
     exact⟨z.1,z.2.1⟩
    refine⟨λb hb=>?_,λb hb o e=>(g b hb o e).1,(I7.pin (D,{ cls:=.type "list",data:=.seq its.toArray k }) (List.mem_append_right _ (by simp))).1,(I7.pin (D,{ cls:=.type "list",data:=.seq its.toArray k }) (List.mem_append_right _ (by simp))).2.1⟩
    obtain⟨o,e,_⟩:=T.obj _ _ st5 b hb
    exact (g b hb o e).2
   have hte:PTs X' ifs tt:=hX▸ht C s H fp
   have hee:PE X' elt te:=hX▸he C s H fp
   refine ev (thn (hte _ s6 _ H6 _ I6 (step v H6 y5)) λb s7 ⟨H7,I7,q7⟩=>?_)
   cases b with
   | false =>
    rw [if_neg Bool.false_ne_true]
    rw [if_neg Bool.false_ne_true] at q7
    obtain⟨m',hm,w7⟩:=hNN _ _ q7
    obtain⟨g1,g2,g3,g4⟩:=fps I7
    exact⟨m',hm,i+1,zs,its,k,H7,back (σ':=[]) I7,T.keep _ _ _ st5 g2,g1,g3,v3,g4,z3,w7⟩
   | true =>
    rw [if_pos rfl]
    rw [if_pos rfl] at q7
    refine ev (thn (hee _ s7 _ H7 _ I7 q7) λu8 s8 ⟨v8,H8,I8,r8,q8⟩=>?_)
    obtain⟨m',hm,w8⟩:=hNN _ _ q8
    obtain⟨g1,g2,g3,g4⟩:=fps I8
    have hil:=v3.length
    refine call_meets F.slot_list_append ⟨_,g3,rfl⟩ F.entry_list_append (F.args_list_append_2 _ _) (PySem.list_append D its.toArray k u8 (by rw [List.size_toArray];omega)) ⟨g3,?_⟩
    have q:=PySem.IsL.update g3 (λa=>a.push u8)
    have ea:its.toArray.push u8=(its++[u8]).toArray:=by simp
    rw [ea] at q
    have kk:∀ b o,b≠D->s8.heap.get? b=some o->(s8.heap.update D (Obj.mapSeq λa=>a.push u8)).get? b=some o:=λb o hb e=>(Heap.get?_update_other _ _ (Ne.symm hb)).trans e
    have I9:Inv X' [] (none :: yK js Z) H8 { s8 with heap:=s8.heap.update D (Obj.mapSeq λa=>a.push u8),toks:=s8.toks }:=by
     refine (back (σ':=[]) I8).turned kk g4 (by rw [eL];exact hDC) (.inr (by rw [eS];omega)) (λy c e=>Nat.ne_of_lt (cellLt y c e)) λp hp=>?_
     rw [ePn] at hp
     exact absurd hp (by simp)
    refine⟨m',hm,i+1,zs++[v8],its++[u8],_,H8,I9,T.keep _ _ _ st5 (λb hb o e=>kk b o (Nat.ne_of_lt (fplt b hb)) (g2 b hb o e)),g1,q,v3.append (.cons r8 .nil),g4,?_,w8⟩
    rw [List.length_append,List.length_singleton]
    omega
 rw [eE] at loop
 exact codeAny_compStart_list loop (T.self _ 0 _ _ _ (T.keep _ _ _ st (λb hb o e=>old b o e)) loop)
theorem xK (S:CScope X.env.scope scope x X.N ys js) (hc:X.calm=true) (hi:PI X (.Name x px) iter wi) (ht:∀ C s₀ H₀ ex,PTs (cxC X (x :: ys) scope C s₀ H₀ ex) ifs tt) (he:∀ C s₀ H₀ ex,PE (cxC X (x :: ys) scope C s₀ H₀ ex) elt te)
  (hs:∀ x,foldedSetIterable iter X.env x=pure x:=by intro _;rfl):PE X (.ListComp elt [⟨.Name x px,iter,ifs,0⟩] scope pos) (zeg wi js tt te):=by
 intro pins s Z H Q I h
 rw [eval_ListComp]
 refine wpAny_comprehension_free (use:=none) rfl hs (uf λy hy e=>I.ok.has _ (S.free y hy e)) S.kind S.loc (thn (hi pins s Z H _ I h) λv s1 h1=>thn h1 λitv s2 h2=>?_)
 obtain⟨it,fp,tn,J,H2,e,I2,T,st2,f2,hw⟩:=h2
 subst e
 refine Qw (Q:=Q) (R:=λacc C=>compPost (model X.prog X.w) X.A X.xe none (EP X pins Z Q) acc C) S hc ht he I2 T st2 f2 hw ?_
 intro D C s' H' m' I' q hC hn hns
 refine⟨m',hns,λh' hs'=>⟨.ref D,H',?_,rfl,q⟩⟩
 have e:=I2.fpOk hC hn
 exact I'.turned (t':=s'.toks) (λb o hb e=>(hs'.2 b hb).trans e) hn e.2.1 e.2.2.2.1 e.2.2.2.2.1 e.2.2.2.2.2
theorem qw {i:Nat} {y:Str} {py spos:Pos} (S:CScope X.env.scope scope x X.N ys js) (hc:X.calm=true) (hN:X.N.Nodup) (hy:X.N[i]?=some y) (hl:Loc X.env.scope y) (hi:PI X (.Name x px) iter wi) (ht:∀ C s₀ H₀ ex,PTs (cxC X (x :: ys) scope C s₀ H₀ ex) ifs tt) (he:∀ C s₀ H₀ ex,PE (cxC X (x :: ys) scope C s₀ H₀ ex) elt te)
  (hf:X.fn y=true\/X.env.scope.names.lookup y=some .local:=by first | exact .inl rfl | exact .inr rfl | assumption)
  (hsw:swapsWith (.ListComp elt [⟨.Name x px,iter,ifs,0⟩] scope pos) (some (.Name y py)) spos.line X.env=pure true:=by rfl)
  (hs:∀ x,foldedSetIterable iter X.env x=pure x:=by intro _;rfl):PS X (.Assign [.Name y py] (.ListComp elt [⟨.Name x px,iter,ifs,0⟩] scope pos) spos) (zd3 (zeg wi js tt te) (Vn i)):=by
 intro pins s Z H D I h
 rw [exec_Assign_Name_used _ _ _ _ hsw]
 refine wpAny_bind (wpAny_standAt (wpAny_bind ?_))
 show wpAny _ X.A (do let _ <- comprehension (.ListComp elt [⟨.Name x px,iter,ifs,0⟩] scope pos) scope X.env _ (newList []) false (eval iter X.env) (some (assign (.Name y py) X.env))) _ _ s
 refine wpAny_bind (wpAny_mono (wpAny_comprehension_free (use:=some (assign (.Name y py) X.env)) (Q:=λ_ s'=>SP X pins D .next s') rfl hs (uf λy hy e=>I.ok.has _ (S.free y hy e)) S.kind S.loc
  (thn (hi pins s Z H _ I h) λv s1 h1=>thn h1 λitv s2 h2=>?_)) (λ_ s' hq=>wpAny_pure (wpAny_pure hq)) λ_ _ e=>e)
 obtain⟨it,fp,tn,J,H2,e,I2,T,st2,f2,hw⟩:=h2
 subst e
 refine Qw (Q:=λv H'=>Vn i v Z H' D.nx) (R:=λacc C=>compPost (model X.prog X.w) X.A X.xe (some (assign (.Name y py) X.env)) (λ_ s'=>SP X pins D .next s') acc C) S hc ht he I2 T st2 f2 hw ?_
 intro Da C s' H' m' I' q hC hn hns
 have e:=I2.fpOk hC hn
 show wpAny _ X.A (assign (.Name y py) X.env (.ref Da)) _ _ _
 refine wpAny_assign_Name (Xl I' hN hy hl (show RelV (.ref Da) (.ref Da) from rfl) (λs2' I3 ⟨a,sb,ha⟩=>?_) hf)
 have hCa:C≠a:=by
  rcases ha with z | z
  ·rw [z];exact e.2.1
  ·intro w;exact e.2.2.2.2.1 _ _ z w.symm
 refine⟨m',hns.sameBut sb hCa,λh' hs'=>⟨_,H',?_,q⟩⟩
 exact I3.turned (t':=s2'.toks) (λb o hb e=>(hs'.2 b hb).trans e) hn e.2.1 e.2.2.2.1 e.2.2.2.2.1 e.2.2.2.2.2
end
theorem xm {K:W.Frag} {a:Addr} {xs:List V} {js:List Nat} {tt:TT} {te:TE} {Z:St} {H:Hp} {Q:VK} (Pv:Nat->List V->Hp->Prop) (h0:Pv 0 [] H) (hl:∀ i ys H,i<=xs.length->Pv i ys H->SqL K H a xs)
  (hs:∀ i x ys H,xs[i]?=some x->Pv i ys H->ys.length<sizeLine/\tt (some x :: yK js Z) H λb H2=>if b=true then te (some x :: yK js Z) H2 λv H3=>Pv (i+1) (ys++[v]) H3 else Pv (i+1) ys H2)
  (hd:∀ ys H,Pv xs.length ys H->∀ D,H D=none->Q (.ref D) (upd H D (.lst ys))) :
  W0 (Itl K a) js tt te Z Q H:=by
 refine⟨λi m ys H=>m=xs.length-i/\i<=xs.length/\Pv i ys H,⟨xs.length,by simp,Nat.zero_le _,h0⟩,?_⟩
 rintro i m ys H ⟨rfl,hi,p⟩
 have q:=hl i ys H hi p
 by_cases hlt:i<xs.length
 ·have hx:xs[i]?=some xs[i]:=List.getElem?_eq_getElem hlt
  obtain⟨hz,hst⟩:=hs i xs[i] ys H hx p
  refine .inr ⟨⟨xs,xs[i],q,hx⟩,hz,Pv (i+1),λys' H' p'=>⟨xs.length-(i+1),by omega,rfl,hlt,p'⟩,λx H' y=>?_⟩
  obtain⟨e,y⟩:=y
  subst e
  have e2:=y xs q
  rw [hx] at e2
  cases e2
  exact hst
 ·have e:i=xs.length:=by omega
  subst e
  exact .inl ⟨⟨xs,q,Nat.le_refl _⟩,hd ys H p⟩
theorem wK {lo:Int} {n:Nat} {js:List Nat} {tt:TT} {te:TE} {Z:St} {H:Hp} {Q:VK} (Pv:Nat->List V->Hp->Prop) (h0:Pv 0 [] H)
  (hs:∀ i ys H,i<n->Pv i ys H->ys.length<sizeLine/\tt (some (.int (lo+i)) :: yK js Z) H λb H2=>if b=true then te (some (.int (lo+i)) :: yK js Z) H2 λv H3=>Pv (i+1) (ys++[v]) H3 else Pv (i+1) ys H2)
  (hd:∀ ys H,Pv n ys H->∀ D,H D=none->Q (.ref D) (upd H D (.lst ys))) :
  W0 (Itr lo n) js tt te Z Q H:=by
 refine⟨λi m ys H=>m=n-i/\i<=n/\Pv i ys H,⟨n,by simp,Nat.zero_le _,h0⟩,?_⟩
 rintro i m ys H ⟨rfl,hi,p⟩
 by_cases hlt:i<n
 ·obtain⟨hz,hst⟩:=hs i ys H hlt p
  refine .inr ⟨hlt,hz,Pv (i+1),λys' H' p'=>⟨n-(i+1),by omega,rfl,hlt,p'⟩,λx H' y=>?_⟩
  obtain⟨e,y⟩:=y
  subst e y
  exact hst
 ·have e:i=n:=by omega
  subst e
  exact .inl ⟨Nat.le_refl _,hd ys H p⟩
open PySem PySem.Spec PyProof.Rows PySem.SeqAt
inductive Tr where
 | non | bl (b:Bool) | int (i:Int) | str (x:Str) | lst (ts:List Tr) | tup (ts:List Tr)
mutual
def TrAt (K:W.Frag) (H:Hp):Tr->V->Prop
 | .non,v=>v=.non
 | .bl b,v=>v=.bl b
 | .int i,v=>v=.int i
 | .str x,v=>v=.str x
 | .lst ts,v=>∃ a xs,v=.ref a/\SqL K H a xs/\TrsAt K H ts xs
 | .tup ts,v=>∃ a xs,v=.ref a/\SqT K H a xs/\TrsAt K H ts xs
def TrsAt (K:W.Frag) (H:Hp):List Tr->List V->Prop
 | [],xs=>xs=[]
 | t :: ts,xs=>∃ y ys,xs=y :: ys/\TrAt K H t y/\TrsAt K H ts ys
end
mutual
def teq:Tr->Tr->Bool
 | .non,.non=>true
 | .bl a,.bl b=>a == b
 | .bl a,.int b=>(if a then 1 else 0) == b
 | .int a,.bl b=>a == (if b then 1 else 0)
 | .int a,.int b=>a == b
 | .str a,.str b=>a == b
 | .lst a,.lst b=>Za a b
 | .tup a,.tup b=>Za a b
 | _,_=>false
def Za:List Tr->List Tr->Bool
 | [],[]=>true
 | t :: ts,u :: us=>teq t u && Za ts us
 | _,_=>false
end
mutual
def q9:Tr->Nat
 | .lst ts=>wC ts+1
 | .tup ts=>wC ts+1
 | _=>0
def wC:List Tr->Nat
 | []=>0
 | t :: ts=>max (q9 t) (wC ts)
end
theorem YZ {t:Tr}:∀ {ts:List Tr},t∈ts->q9 t<=wC ts
 | u :: ts,h=>by
  rw [wC]
  rcases List.mem_cons.mp h with e | h
  ·rw [e];exact Nat.le_max_left _ _
  ·exact Nat.le_trans (YZ h) (Nat.le_max_right _ _)
section
variable {K:W.Frag} {H:Hp}
theorem TrsAt.length:∀ {ts:List Tr} {xs:List V},TrsAt K H ts xs->ts.length=xs.length
 | [],xs,h=>by rw [TrsAt] at h;subst h;rfl
 | t :: ts,xs,h=>by
  rw [TrsAt] at h
  obtain⟨y,ys,rfl,_,h⟩:=h
  rw [List.length_cons,List.length_cons,TrsAt.length h]
theorem TrsAt.get:∀ {ts:List Tr} {xs:List V} {j:Nat} {t:Tr},TrsAt K H ts xs->ts[j]?=some t->∃ x,xs[j]?=some x/\TrAt K H t x
 | [],xs,j,t,h,e=>by simp at e
 | u :: ts,xs,0,t,h,e=>by
  rw [TrsAt] at h
  obtain⟨y,ys,rfl,hy,h⟩:=h
  simp at e
  subst e
  exact⟨y,rfl,hy⟩
 | u :: ts,xs,j+1,t,h,e=>by
  rw [TrsAt] at h
  obtain⟨y,ys,rfl,hy,h⟩:=h
  obtain⟨x,e1,e2⟩:=TrsAt.get (j:=j) h (by simpa using e)
  exact⟨x,by simpa using e1,e2⟩
theorem TrsAt.mk:∀ {ts:List Tr} {xs:List V},ts.length=xs.length->(∀ (j:Nat) (t:Tr) (x:V),ts[j]?=some t->xs[j]?=some x->TrAt K H t x)->TrsAt K H ts xs
 | [],[],_,_=>by rw [TrsAt]
 | [],_ :: _,h,_=>by simp at h
 | _ :: _,[],h,_=>by simp at h
 | t :: ts,x :: xs,h,f=>by
  rw [TrsAt]
  exact⟨x,xs,rfl,f 0 t x rfl rfl,TrsAt.mk (by simpa using h) λj t x e1 e2=>f (j+1) t x (by simpa using e1) (by simpa using e2)⟩
theorem TrsAt.ints:∀ {ns:List Int},TrsAt K H (ns.map Tr.int) (ns.map V.int)
 | []=>by rw [List.map_nil,TrsAt];rfl
 | n :: ns=>by rw [List.map_cons,TrsAt];exact⟨_,_,rfl,by rw [TrAt],TrsAt.ints⟩
def xO (ns:List Int):Tr:=.lst (ns.map Tr.int)
theorem TrAt.ints {a:Addr} {ns:List Int} (h:SqL K H a (ns.map V.int)):TrAt K H (xO ns) (.ref a):=by
 unfold xO;rw [TrAt];exact⟨a,_,rfl,h,TrsAt.ints⟩
end
mutual
theorem Wt:∀ t:Tr,teq t t=true
 | .non=>by rw [teq]
 | .bl b=>by rw [teq];simp
 | .int i=>by rw [teq];simp
 | .str x=>by rw [teq];simp
 | .lst ts=>by rw [teq];exact ZS ts
 | .tup ts=>by rw [teq];exact ZS ts
theorem ZS:∀ ts:List Tr,Za ts ts=true
 | []=>by rw [Za]
 | t :: ts=>by rw [Za,Wt t,ZS ts];rfl
end
theorem Ux {α:Type} [DecidableEq α] {f:α->Tr} (h:∀ a b,teq (f a) (f b)=decide (a=b)):∀ (xs ys:List α),Za (xs.map f) (ys.map f)=decide (xs=ys)
 | [],[]=>by simp [Za]
 | [],_ :: _=>by simp [Za]
 | _ :: _,[]=>by simp [Za]
 | x :: xs,y :: ys=>by
  rw [List.map_cons,List.map_cons,Za,h,Ux h xs ys,Bool.eq_iff_iff]
  simp
theorem zcm (a b:Int):teq (.int a) (.int b)=decide (a=b):=by rw [teq,Bool.eq_iff_iff];simp
theorem jc (a b:List Int):teq (xO a) (xO b)=decide (a=b):=by unfold xO;rw [teq];exact Ux zcm a b
theorem X5:∀ ns:List Int,wC (ns.map Tr.int)=0
 | []=>by simp [wC]
 | n :: ns=>by rw [List.map_cons,wC,X5 ns,q9]<;>simp
theorem qd (ns:List Int):q9 (xO ns)=1:=by unfold xO;rw [q9,X5]
theorem Zu:∀ {ts us:List Tr},ts.length≠us.length->Za ts us=false
 | [],[],h=>absurd rfl h
 | [],_ :: _,_=>by simp [Za]
 | _ :: _,[],_=>by simp [Za]
 | t :: ts,u :: us,h=>by rw [Za,Zu (by simpa using h),Bool.and_false]
def eAt (ts us:List Tr) (j:Nat):Bool:=match ts[j]?,us[j]? with
 | some t,some u=>teq t u
 | _,_=>true
theorem zaa:∀ {ts us:List Tr},ts.length=us.length->(List.range ts.length).all (eAt ts us)=Za ts us
 | [],[],_=>by simp [Za]
 | [],_ :: _,h=>by simp at h
 | _ :: _,[],h=>by simp at h
 | t :: ts,u :: us,h=>by
  rw [List.length_cons,List.range_succ_eq_map,List.all_cons,List.all_map,Za,<- zaa (ts:=ts) (us:=us) (by simpa using h)]
  rfl
section
variable {X:Cx} {pins:List (Addr×Obj)} {Z:St} {H:Hp} {s:Shared}
theorem Qq (I:Inv X pins Z H s):∀ (n:Nat) {t u:Tr} {v:V},q9 t<=n->TrAt X.K H t v->TrAt X.K H u v->t=u:=by
 intro n
 induction n with
 | zero =>
  intro t u v hd ht hu
  cases t with
  | lst ts=>rw [q9] at hd;omega
  | tup ts=>rw [q9] at hd;omega
  | _=>(rw [TrAt] at ht;subst ht;cases u<;>(rw [TrAt] at hu)<;>first | rfl | (obtain⟨_,_,z,_⟩:=hu;cases z) | (cases hu;rfl) | cases hu)
 | succ n ih =>
  intro t u v hd ht hu
  have lists:∀ {ts us:List Tr} {xs:List V},wC ts<=n->TrsAt X.K H ts xs->TrsAt X.K H us xs->ts=us:=by
   intro ts us xs hd h1 h2
   apply List.ext_getElem?
   intro j
   have l1:=h1.length
   have l2:=h2.length
   by_cases hj:j<ts.length
   ·obtain⟨t,e⟩:∃ t,ts[j]?=some t:=⟨_,List.getElem?_eq_getElem hj⟩
    obtain⟨u,e'⟩:∃ u,us[j]?=some u:=⟨_,List.getElem?_eq_getElem (by omega)⟩
    obtain⟨x,ex,hx⟩:=h1.get e
    obtain⟨y,ey,hy⟩:=h2.get e'
    rw [ex] at ey
    cases ey
    rw [e,e',ih (Nat.le_trans (YZ (List.mem_of_getElem? e)) hd) hx hy]
   ·rw [List.getElem?_eq_none (by omega),List.getElem?_eq_none (by omega)]
  cases t with
  | lst ts =>
   rw [TrAt] at ht
   obtain⟨a,xs,rfl,q,h1⟩:=ht
   cases u with
   | lst us =>
    rw [TrAt] at hu
    obtain⟨b,ys,e,q',h2⟩:=hu
    cases e
    rw [I.list_inj q' q] at h2
    rw [lists (by rw [q9] at hd;omega) h1 h2]
   | tup us =>
    rw [TrAt] at hu
    obtain⟨b,ys,e,q',h2⟩:=hu
    cases e
    obtain⟨_,_,pl,_⟩:=I.list q
    obtain⟨_,_,pt,_⟩:=I.tuple q'
    exact absurd rfl (ne_of_list_tuple pl.isList pt)
   | _=>rw [TrAt] at hu;cases hu
  | tup ts =>
   rw [TrAt] at ht
   obtain⟨a,xs,rfl,q,h1⟩:=ht
   cases u with
   | tup us =>
    rw [TrAt] at hu
    obtain⟨b,ys,e,q',h2⟩:=hu
    cases e
    rw [I.tuple_inj q' q] at h2
    rw [lists (by rw [q9] at hd;omega) h1 h2]
   | lst us =>
    rw [TrAt] at hu
    obtain⟨b,ys,e,q',h2⟩:=hu
    cases e
    obtain⟨_,_,pl,_⟩:=I.list q'
    obtain⟨_,_,pt,_⟩:=I.tuple q
    exact absurd rfl (ne_of_list_tuple pl.isList pt)
   | _=>rw [TrAt] at hu;cases hu
  | _=>(rw [TrAt] at ht;subst ht;cases u<;>(rw [TrAt] at hu)<;>first | rfl | (obtain⟨_,_,z,_⟩:=hu;cases z) | (cases hu;rfl) | cases hu)
structure zhn (A:Around) (s:Shared) (a b:Value) (r:Bool):Prop where
 rc:RcAt A s a b r
 ne:RcNeAt A s a b (!r)
 eq:EqAt A s a b r
theorem units_in1 (A:Around):A.in1.units=A.units+1:=rfl
theorem V3 (I:Inv X pins Z H s):∀ (n:Nat) {t u:Tr} {v w:V} {a b:Value} {A:Around},q9 t<=n->TrAt X.K H t v->TrAt X.K H u w->RelV v a->RelV w b->A.units+n<cLine->zhn A s a b (teq t u):=by
 intro n
 induction n with
 | zero =>
  intro t u v w a b A hd ht hu ra rb hA
  have hA':A.units<cLine:=by omega
  cases t with
  | lst ts=>rw [q9] at hd;omega
  | tup ts=>rw [q9] at hd;omega
  | non =>
   rw [TrAt] at ht;subst ht;cases ra
   cases u with
   | non=>rw [TrAt] at hu;subst hu;cases rb;rw [teq];exact⟨.none_none,.none_none,.same _⟩
   | bl b=>rw [TrAt] at hu;subst hu;cases rb;simp only [teq];exact⟨.none_bool _,.none_bool _,.none_bool _⟩
   | int b=>rw [TrAt] at hu;subst hu;obtain⟨_,rfl⟩:=rb;simp only [teq];exact⟨.none_int _ _,.none_int _ _,.none_int _ _⟩
   | str b=>rw [TrAt] at hu;subst hu;obtain⟨_,rfl⟩:=rb;simp only [teq];exact⟨.none_str _ _,.none_str _ _,.none_str _ _⟩
   | lst us=>rw [TrAt] at hu;obtain⟨p,ys,rfl,q,_⟩:=hu;cases rb;obtain⟨_,_,pl,_⟩:=I.list q;simp only [teq];exact⟨.none_list pl.isList hA',.none_list pl.isList hA',.none_list pl.isList hA'⟩
   | tup us=>rw [TrAt] at hu;obtain⟨p,ys,rfl,q,_⟩:=hu;cases rb;obtain⟨_,_,pl,_⟩:=I.tuple q;simp only [teq];exact⟨.none_tuple pl hA',.none_tuple pl hA',.none_tuple pl hA'⟩
  | bl c =>
   rw [TrAt] at ht;subst ht;cases ra
   cases u with
   | non=>rw [TrAt] at hu;subst hu;cases rb;simp only [teq];exact⟨.bool_none _,.bool_none _,.bool_none _⟩
   | bl b=>rw [TrAt] at hu;subst hu;cases rb;rw [teq];exact⟨.bool_bool _ _,.bool_bool _ _,.bool_bool _ _⟩
   | int b=>rw [TrAt] at hu;subst hu;obtain⟨_,rfl⟩:=rb;rw [teq];exact⟨.bool_int _ _ _,.bool_int _ _ _,.bool_int _ _ _⟩
   | str b=>rw [TrAt] at hu;subst hu;obtain⟨_,rfl⟩:=rb;simp only [teq];exact⟨.bool_str _ _ _,.bool_str _ _ _,.bool_str _ _ _⟩
   | lst us=>rw [TrAt] at hu;obtain⟨p,ys,rfl,q,_⟩:=hu;cases rb;obtain⟨_,_,pl,_⟩:=I.list q;simp only [teq];exact⟨.bool_list _ pl.isList hA',.bool_list _ pl.isList hA',.bool_list _ pl.isList hA'⟩
   | tup us=>rw [TrAt] at hu;obtain⟨p,ys,rfl,q,_⟩:=hu;cases rb;obtain⟨_,_,pl,_⟩:=I.tuple q;simp only [teq];exact⟨.bool_tuple _ pl hA',.bool_tuple _ pl hA',.bool_tuple _ pl hA'⟩
  | int c =>
   rw [TrAt] at ht;subst ht;obtain⟨_,rfl⟩:=ra
   cases u with
   | non=>rw [TrAt] at hu;subst hu;cases rb;simp only [teq];exact⟨.int_none _ _,.int_none _ _,.int_none _ _⟩
   | bl b=>rw [TrAt] at hu;subst hu;cases rb;rw [teq];exact⟨.int_bool _ _ _,.int_bool _ _ _,.int_bool _ _ _⟩
   | int b=>rw [TrAt] at hu;subst hu;obtain⟨_,rfl⟩:=rb;rw [teq];exact⟨.int_int _ _ _ _,.int_int _ _ _ _,.int_int _ _ _ _⟩
   | str b=>rw [TrAt] at hu;subst hu;obtain⟨_,rfl⟩:=rb;simp only [teq];exact⟨.int_str _ _ _ _,.int_str _ _ _ _,.int_str _ _ _ _⟩
   | lst us=>rw [TrAt] at hu;obtain⟨p,ys,rfl,q,_⟩:=hu;cases rb;obtain⟨_,_,pl,_⟩:=I.list q;simp only [teq];exact⟨.int_list _ _ pl.isList hA',.int_list _ _ pl.isList hA',.int_list _ _ pl.isList hA'⟩
   | tup us=>rw [TrAt] at hu;obtain⟨p,ys,rfl,q,_⟩:=hu;cases rb;obtain⟨_,_,pl,_⟩:=I.tuple q;simp only [teq];exact⟨.int_tuple _ _ pl hA',.int_tuple _ _ pl hA',.int_tuple _ _ pl hA'⟩
  | str c =>
   rw [TrAt] at ht;subst ht;obtain⟨_,rfl⟩:=ra
   cases u with
   | non=>rw [TrAt] at hu;subst hu;cases rb;simp only [teq];exact⟨.str_none _ _,.str_none _ _,.str_none _ _⟩
   | bl b=>rw [TrAt] at hu;subst hu;cases rb;simp only [teq];exact⟨.str_bool _ _ _,.str_bool _ _ _,.str_bool _ _ _⟩
   | int b=>rw [TrAt] at hu;subst hu;obtain⟨_,rfl⟩:=rb;simp only [teq];exact⟨.str_int _ _ _ _,.str_int _ _ _ _,.str_int _ _ _ _⟩
   | str b=>rw [TrAt] at hu;subst hu;obtain⟨_,rfl⟩:=rb;rw [teq];exact⟨.str_str _ _ _ _,.str_str _ _ _ _,.str_str _ _ _ _⟩
   | lst us=>rw [TrAt] at hu;obtain⟨p,ys,rfl,q,_⟩:=hu;cases rb;obtain⟨_,_,pl,_⟩:=I.list q;simp only [teq];exact⟨.str_list _ _ pl.isList hA',.str_list _ _ pl.isList hA',.str_list _ _ pl.isList hA'⟩
   | tup us=>rw [TrAt] at hu;obtain⟨p,ys,rfl,q,_⟩:=hu;cases rb;obtain⟨_,_,pl,_⟩:=I.tuple q;simp only [teq];exact⟨.str_tuple _ _ pl hA',.str_tuple _ _ pl hA',.str_tuple _ _ pl hA'⟩
 | succ n ih =>
  intro t u v w a b A hd ht hu ra rb hA
  have hA':A.units<cLine:=by omega
  have items:∀ {ts us:List Tr} {xs ys:List V} {its its2:List Value},wC ts<=n->TrsAt X.K H ts xs->TrsAt X.K H us ys->Vals xs its->Vals ys its2 ->
    ∀ j (h1:j<its.toArray.size) (h2:j<its2.toArray.size),EqAt A.in1 s its.toArray[j] its2.toArray[j] (eAt ts us j):=by
   intro ts us xs ys its its2 hdn h1 h2 r1 r2 j hj1 hj2
   have l1:=h1.length
   have l2:=h2.length
   have m1:=r1.length
   have m2:=r2.length
   rw [List.size_toArray] at hj1 hj2
   obtain⟨t,e⟩:∃ t,ts[j]?=some t:=⟨_,List.getElem?_eq_getElem (by omega)⟩
   obtain⟨u,e'⟩:∃ u,us[j]?=some u:=⟨_,List.getElem?_eq_getElem (by omega)⟩
   obtain⟨x,ex,hx⟩:=h1.get e
   obtain⟨y,ey,hy⟩:=h2.get e'
   obtain⟨vx,fx,rx⟩:=r1.get ex
   obtain⟨vy,fy,ry⟩:=r2.get ey
   have g1:its.toArray[j]'(by simpa using hj1)=vx:=by
    have z:its[j]=vx:=Option.some.inj ((List.getElem?_eq_getElem hj1).symm.trans fx)
    simpa using z
   have g2:its2.toArray[j]'(by simpa using hj2)=vy:=by
    have z:its2[j]=vy:=Option.some.inj ((List.getElem?_eq_getElem hj2).symm.trans fy)
    simpa using z
   rw [g1,g2]
   have q:=(ih (A:=A.in1) (Nat.le_trans (YZ (List.mem_of_getElem? e)) hdn) hx hy rx ry (by rw [units_in1];omega)).eq
   unfold eAt
   rw [e,e']
   exact q
  by_cases hz:q9 t<=n
  ·exact ih hz ht hu ra rb (by omega)
  cases t with
  | lst ts =>
   rw [TrAt] at ht;obtain⟨p,xs,rfl,q,h1⟩:=ht;cases ra
   obtain⟨its,r1,pl,_⟩:=I.list q
   cases u with
   | non=>rw [TrAt] at hu;subst hu;cases rb;simp only [teq];exact⟨.list_none pl.isList hA',.list_none pl.isList hA',.list_none pl.isList hA'⟩
   | bl b=>rw [TrAt] at hu;subst hu;cases rb;simp only [teq];exact⟨.list_bool _ pl.isList hA',.list_bool _ pl.isList hA',.list_bool _ pl.isList hA'⟩
   | int b=>rw [TrAt] at hu;subst hu;obtain⟨_,rfl⟩:=rb;simp only [teq];exact⟨.list_int _ _ pl.isList hA',.list_int _ _ pl.isList hA',.list_int _ _ pl.isList hA'⟩
   | str b=>rw [TrAt] at hu;subst hu;obtain⟨_,rfl⟩:=rb;simp only [teq];exact⟨.list_str _ _ pl.isList hA',.list_str _ _ pl.isList hA',.list_str _ _ pl.isList hA'⟩
   | tup us=>rw [TrAt] at hu;obtain⟨p',ys,rfl,q',_⟩:=hu;cases rb;obtain⟨_,_,pl',_⟩:=I.tuple q';simp only [teq];exact⟨.list_tuple pl.isList pl' hA',.list_tuple pl.isList pl' hA',.list_tuple pl.isList pl' hA'⟩
   | lst us =>
    have hu0:=hu
    rw [TrAt] at hu;obtain⟨p',ys,rfl,q',h2⟩:=hu;cases rb
    obtain⟨its2,r2,pl',_⟩:=I.list q'
    have l1:=h1.length
    have l2:=h2.length
    have m1:=r1.length
    have m2:=r2.length
    have hdn:wC ts<=n:=by rw [q9] at hd;omega
    have both:RcAt A s (.ref p) (.ref p') (Za ts us)/\RcNeAt A s (.ref p) (.ref p') (!Za ts us):=by
     by_cases hsz:ts.length=us.length
     ·have hs:its.toArray.size=its2.toArray.size:=by rw [List.size_toArray,List.size_toArray];omega
      have it:=items hdn h1 h2 r1 r2
      have e1:(List.range its.toArray.size).all (eAt ts us)=Za ts us:=by
       rw [List.size_toArray,<- m1,<- l1];exact zaa hsz
      have a1:=RcAt.lists pl.isList pl'.isList hs hA' it
      have a2:=RcNeAt.lists pl.isList pl'.isList hs hA' it
      rw [e1] at a1 a2
      exact⟨a1,a2⟩
     ·have hs:(its.toArray.size != its2.toArray.size)=true:=by
       rw [List.size_toArray,List.size_toArray,bne_iff_ne];omega
      rw [Zu hsz]
      exact⟨.lists_lengths pl.isList pl'.isList hs hA',.lists_lengths pl.isList pl'.isList hs hA'⟩
    rw [teq]
    refine⟨both.1,both.2,?_⟩
    by_cases hpp:p=p'
    ·subst hpp
     have e:Tr.lst ts=Tr.lst us:=Qq I (n+1) hd (show TrAt X.K H (.lst ts) (.ref p) by rw [TrAt];exact⟨p,xs,rfl,q,h1⟩) hu0
     cases e
     rw [ZS]
     exact .same _
    ·exact .of_refs hpp both.1
  | tup ts =>
   rw [TrAt] at ht;obtain⟨p,xs,rfl,q,h1⟩:=ht;cases ra
   obtain⟨its,r1,pl,_⟩:=I.tuple q
   cases u with
   | non=>rw [TrAt] at hu;subst hu;cases rb;simp only [teq];exact⟨.tuple_none pl hA',.tuple_none pl hA',.tuple_none pl hA'⟩
   | bl b=>rw [TrAt] at hu;subst hu;cases rb;simp only [teq];exact⟨.tuple_bool _ pl hA',.tuple_bool _ pl hA',.tuple_bool _ pl hA'⟩
   | int b=>rw [TrAt] at hu;subst hu;obtain⟨_,rfl⟩:=rb;simp only [teq];exact⟨.tuple_int _ _ pl hA',.tuple_int _ _ pl hA',.tuple_int _ _ pl hA'⟩
   | str b=>rw [TrAt] at hu;subst hu;obtain⟨_,rfl⟩:=rb;simp only [teq];exact⟨.tuple_str _ _ pl hA',.tuple_str _ _ pl hA',.tuple_str _ _ pl hA'⟩
   | lst us=>rw [TrAt] at hu;obtain⟨p',ys,rfl,q',_⟩:=hu;cases rb;obtain⟨_,_,pl',_⟩:=I.list q';simp only [teq];exact⟨.tuple_list pl pl'.isList hA',.tuple_list pl pl'.isList hA',.tuple_list pl pl'.isList hA'⟩
   | tup us =>
    have hu0:=hu
    rw [TrAt] at hu;obtain⟨p',ys,rfl,q',h2⟩:=hu;cases rb
    obtain⟨its2,r2,pl',_⟩:=I.tuple q'
    have l1:=h1.length
    have l2:=h2.length
    have m1:=r1.length
    have m2:=r2.length
    have hdn:wC ts<=n:=by rw [q9] at hd;omega
    have e1:((List.range (min its.toArray.size its2.toArray.size)).all (eAt ts us) && its.toArray.size == its2.toArray.size)=Za ts us:=by
     rw [List.size_toArray,List.size_toArray,<- m1,<- l1,<- m2,<- l2]
     by_cases hsz:ts.length=us.length
     ·rw [<- hsz,Nat.min_self,beq_self_eq_true,Bool.and_true];exact zaa hsz
     ·rw [Zu hsz,beq_eq_false_iff_ne.mpr hsz,Bool.and_false]
    have it:=items hdn h1 h2 r1 r2
    have a1:=RcAt.tuples pl pl' hA' it
    have a2:=RcNeAt.tuples pl pl' hA' it
    rw [e1] at a1 a2
    rw [teq]
    refine⟨a1,a2,?_⟩
    by_cases hpp:p=p'
    ·subst hpp
     have e:Tr.tup ts=Tr.tup us:=Qq I (n+1) hd (show TrAt X.K H (.tup ts) (.ref p) by rw [TrAt];exact⟨p,xs,rfl,q,h1⟩) hu0
     cases e
     rw [ZS]
     exact .same _
    ·exact .of_refs hpp a1
  | non=>exact absurd (Nat.zero_le _) hz
  | bl b=>exact absurd (Nat.zero_le _) hz
  | int b=>exact absurd (Nat.zero_le _) hz
  | str b=>exact absurd (Nat.zero_le _) hz
end
section
variable {X:Cx}
def zeA (K:W.Frag) (neg:Bool):R2:=λx y H Q=>∃ t u,TrAt K H t x/\TrAt K H u y/\q9 t<=8/\Q (.bl (if neg then !teq t u else teq t u)) H
theorem zfC (hu:X.A.units+64<cLine):OpR X (compareOp .Eq) (zeA X.K false):=by
 intro pins s Z H x y v u Q I rx ry h
 obtain⟨t,t',h1,h2,hd,q⟩:=h
 exact (V3 I 8 hd h1 h2 rx ry (by omega)).rc _ _ _ _ ⟨.bl _,H,I,rfl,q⟩
theorem zfF (hu:X.A.units+64<cLine):OpR X (compareOp .NotEq) (zeA X.K true):=by
 intro pins s Z H x y v u Q I rx ry h
 obtain⟨t,t',h1,h2,hd,q⟩:=h
 exact (V3 I 8 hd h1 h2 rx ry (by omega)).ne _ _ _ _ ⟨.bl _,H,I,rfl,q⟩
open Classical in
def zeZ (K:W.Frag) (neg:Bool):R2:=λx y H Q=>∃ p xs ts u,y=.ref p/\SqL K H p xs/\TrsAt K H ts xs/\TrAt K H u x/\wC ts<=8/\Q (.bl (if neg then !(ts.any λt=>teq t u) else ts.any λt=>teq t u)) H
open Classical in
theorem zbJ {pins:List (Addr×Obj)} {Z:St} {H:Hp} {s:Shared} (I:Inv X pins Z H s) {u:Tr}:∀ {ts:List Tr} {xs:List V} {its:List Value},wC ts<=8->TrsAt X.K H ts xs->Vals xs its ->
  its.any (λy=>decide (∃ t x,RelV x y/\TrAt X.K H t x/\teq t u=true))=ts.any λt=>teq t u
 | [],xs,its,_,h,r=>by rw [TrsAt] at h;subst h;cases r;rfl
 | t :: ts,xs,its,hd,h,r=>by
  rw [TrsAt] at h
  obtain⟨y,ys,rfl,hy,h⟩:=h
  cases r with
  | cons r1 r2 =>
   rw [wC] at hd
   rw [List.any_cons,List.any_cons,zbJ I (by omega) h r2]
   congr 1
   rw [Bool.eq_iff_iff,decide_eq_true_iff]
   constructor
   ·rintro⟨t',x',r',h',e⟩
    rw [r1.inj r'] at hy
    rw [Qq I 8 (by omega) hy h'];exact e
   ·intro e
    exact⟨t,y,r1,hy,e⟩
open Classical in
theorem J9 {pins:List (Addr×Obj)} {Z:St} {H:Hp} {s:Shared} (I:Inv X pins Z H s) (hu:X.A.units+64<cLine) {u:Tr} {x:V} {v:Value} (hx:TrAt X.K H u x) (rx:RelV x v) {ts:List Tr} {xs:List V} {its:List Value} (hd:wC ts<=8) (h:TrsAt X.K H ts xs) (r:Vals xs its) :
  ∀ y,y∈its.toArray->SeqAt.EqAt X.A.in1 s y v (decide (∃ t x,RelV x y/\TrAt X.K H t x/\teq t u=true)):=by
 intro y hy
 have hy':y∈its:=by simpa using hy
 obtain⟨j,hj,e⟩:=List.getElem_of_mem hy'
 have l1:=h.length
 have m1:=r.length
 obtain⟨t,et⟩:∃ t,ts[j]?=some t:=⟨_,List.getElem?_eq_getElem (by omega)⟩
 obtain⟨z,ez,hz⟩:=h.get et
 obtain⟨w,ew,rw'⟩:=r.get ez
 have e':y=w:=by
  rw [List.getElem?_eq_getElem hj] at ew
  exact e.symm.trans (Option.some.inj ew)
 subst e'
 have hd':q9 t<=8:=Nat.le_trans (YZ (List.mem_of_getElem? et)) hd
 have q:=(V3 I 8 (A:=X.A.in1) hd' hz hx rw' rx (by rw [units_in1];omega)).eq
 have e2:decide (∃ t x,RelV x y/\TrAt X.K H t x/\teq t u=true)=teq t u:=by
  rw [Bool.eq_iff_iff,decide_eq_true_iff]
  constructor
  ·rintro⟨t',x',r',h',e3⟩
   rw [rw'.inj r'] at hz
   rw [Qq I 8 hd' hz h'];exact e3
  ·intro e3
   exact⟨t,z,rw',hz,e3⟩
 rw [e2]
 exact q
open Classical in
theorem zf8 (hu:X.A.units+64<cLine):OpR X (compareOp .In) (zeZ X.K false):=by
 intro pins s Z H x y v u Q I rx ry h
 obtain⟨p,xs,ts,t,rfl,hq,hts,ht,hd,q⟩:=h
 cases ry
 obtain⟨its,r,pl,hz⟩:=I.list hq
 refine SeqAt.in_listAt _ pl.isList (J9 I hu ht rx hd hts r) ⟨.bl _,H,I,rfl,?_⟩
 simp only [List.any_toArray]
 rw [zbJ I hd hts r]
 exact q
open Classical in
theorem zdh (hu:X.A.units+64<cLine):OpR X (compareOp .NotIn) (zeZ X.K true):=by
 intro pins s Z H x y v u Q I rx ry h
 obtain⟨p,xs,ts,t,rfl,hq,hts,ht,hd,q⟩:=h
 cases ry
 obtain⟨its,r,pl,hz⟩:=I.list hq
 refine SeqAt.notIn_listAt _ pl.isList (J9 I hu ht rx hd hts r) ⟨.bl _,H,I,rfl,?_⟩
 simp only [List.any_toArray]
 rw [zbJ I hd hts r]
 exact q
end
end L2
namespace L2
open PySem PySem.Spec PyProof.Rows
theorem Qc {K:W.Frag} {T U:String} {b:Bool} (h1:W.kitMeta U=true) (h2:(fastBuiltinMro T).map (·.contains (Value.type U))=some b) (hb:T=U->b=true):W.kitOne K (.type T) (.type U)=some b:=by
 unfold W.kitOne
 by_cases e:T=U
 ·subst e
  rw [if_pos (by simp),hb rfl]
 ·rw [if_neg (by simpa using e)]
  show (if W.kitMeta U=true then W.subIn K (.type T) (.type U) else none)=some b
  rw [if_pos h1]
  exact h2
section
variable {K:W.Frag}
theorem Vw:W.kitOne K (.type "int") (.type "int")=some true:=Qc (by decide +kernel) (by decide +kernel) (λ_=>rfl)
theorem Wv:W.kitOne K (.type "int") (.type "bool")=some false:=Qc (by decide +kernel) (by decide +kernel) (λe=>absurd e (by decide))
theorem XN:W.kitOne K (.type "list") (.type "list")=some true:=Qc (by decide +kernel) (by decide +kernel) (λ_=>rfl)
theorem VG:W.kitOne K (.type "tuple") (.type "tuple")=some true:=Qc (by decide +kernel) (by decide +kernel) (λ_=>rfl)
end
section
variable {X:Cx}
def zgq (K:W.Frag):List V->Hp->VK->Prop:=λxs H Q=>∃ x T t b,xs=[x,.ty T]/\Vk K H x t/\W.kitOne K t (.type T)=some b/\Q (.bl b) H
theorem U0:ul X (.builtin "isinstance") (zgq X.K):=by
 intro pins s Z H xs us Q I r h
 obtain⟨x,T,t,b,rfl,ty,e,q⟩:=h
 obtain⟨u,v,rfl,rx,rt⟩:=vals2 r
 cases rt
 exact zc5 I rx ty e λtk=>⟨.bl b,H,I.tok tk,rfl,q⟩
def zgw (i j:Int):Prop:=0<j/\j<2^200
theorem vh:OpR X (binaryOp .FloorDiv) (rI zgw λi j=>.int (i / j)):=opI λi j _ _ _ _ _ hc q=>by
 have h1:(0:Int)<j:=hc.1
 have h2:j<2^200:=hc.2
 refine floordiv_int (by omega) (by rw [Int.fdiv_eq_ediv_of_nonneg i (by omega)];exact q) (.inl (PyProof.noPylong_of_log2 ?_))
 have h3:j.natAbs<2^200:=by omega
 have h4:j.natAbs.log2<200:=(Nat.log2_lt (by omega)).mpr h3
 omega
theorem VF {P:Program} {w:World} {A:Around} {its:List Value} {bs:List Bool} (r:Vals (bs.map V.bl) its):TruthOf P w A (λi v=>its.toArray[i]?=some v) (λi=>bs.getD i false):=by
 intro i v s Q E hP hQ
 have hl:=r.length
 rw [List.length_map] at hl
 have e:its[i]?=some v:=by simpa using hP
 have hi:i<its.length:=(List.getElem?_eq_some_iff.mp e).1
 have e2:(bs.map V.bl)[i]?=some (.bl (bs[i]'(by omega))):=by rw [List.getElem?_map,List.getElem?_eq_getElem (by omega)];rfl
 obtain⟨u,e3,r3⟩:=r.get e2
 rw [e] at e3
 cases e3
 cases r3
 have e4:bs.getD i false=bs[i]:=by rw [List.getD_eq_getElem?_getD,List.getElem?_eq_getElem (by omega)];rfl
 exact wpAny_truthy_bool (e4▸hQ)
theorem zaV:∀ bs:List Bool,(List.range bs.length).all (λi=>bs.getD i false)=bs.all id
 | []=>rfl
 | b :: bs=>by
  rw [List.length_cons,List.range_succ_eq_map,List.all_cons,List.all_map,List.all_cons,<- zaV bs]
  rfl
theorem za1:∀ bs:List Bool,(List.range bs.length).any (λi=>bs.getD i false)=bs.any id
 | []=>rfl
 | b :: bs=>by
  rw [List.length_cons,List.range_succ_eq_map,List.any_cons,List.any_map,List.any_cons,<- za1 bs]
  rfl
def zgN (K:W.Frag):List V->Hp->VK->Prop:=λxs H Q=>∃ (a:Addr) (bs:List Bool),xs=[.ref a]/\SqL K H a (bs.map V.bl)/\Q (.bl (bs.all id)) H
def zgl (K:W.Frag):List V->Hp->VK->Prop:=λxs H Q=>∃ (a:Addr) (bs:List Bool),xs=[.ref a]/\SqL K H a (bs.map V.bl)/\Q (.bl (bs.any id)) H
theorem zet (hc:X.calm=true):ul X (.builtin "all") (zgN X.K):=by
 intro pins s Z H xs us Q I r h
 obtain⟨a,bs,rfl,hq,q⟩:=h
 obtain⟨u,rfl,rx⟩:=vals1 r
 cases rx
 obtain⟨its,rv,pl,hz⟩:=I.list hq
 have hl:=rv.length
 rw [List.length_map] at hl
 obtain⟨o,n,eo,_⟩:=id pl
 have hne:a≠s.heap.objs.size:=Nat.ne_of_lt (Heap.lt_size eo)
 refine call_all_walk (wpAny_pyIter_list pl.isList ?_)
 refine⟨_,_,_,_,_,_,_,rfl,Walks.list (A:=X.A.in1) (show X.A.in1.handled=none from I.ok.hd hc) s.heap.objs.size a hne its.toArray,⟨⟨_,Heap.get?_push_size _ rfl,rfl,rfl⟩,pl.isList.at λo e=>Heap.get?_push_of_some _ e⟩,VF rv,λh' tk hk=>?_⟩
 have I1:Inv X pins Z H { s with heap:=h',toks:=tk }:=I.kept λb o e=>hk b o (by have:=Heap.lt_size e;simp;exact Nat.ne_of_lt this) (Heap.get?_push_of_some _ e)
 refine⟨.bl _,H,I1,rfl,?_⟩
 rw [List.size_toArray,<- hl,zaV]
 exact q
theorem zdH (hc:X.calm=true):ul X (.builtin "any") (zgl X.K):=by
 intro pins s Z H xs us Q I r h
 obtain⟨a,bs,rfl,hq,q⟩:=h
 obtain⟨u,rfl,rx⟩:=vals1 r
 cases rx
 obtain⟨its,rv,pl,hz⟩:=I.list hq
 have hl:=rv.length
 rw [List.length_map] at hl
 obtain⟨o,n,eo,_⟩:=id pl
 have hne:a≠s.heap.objs.size:=Nat.ne_of_lt (Heap.lt_size eo)
 refine call_any_walk (wpAny_pyIter_list pl.isList ?_)
 refine⟨_,_,_,_,_,_,_,rfl,Walks.list (A:=X.A.in1) (show X.A.in1.handled=none from I.ok.hd hc) s.heap.objs.size a hne its.toArray,⟨⟨_,Heap.get?_push_size _ rfl,rfl,rfl⟩,pl.isList.at λo e=>Heap.get?_push_of_some _ e⟩,VF rv,λh' tk hk=>?_⟩
 have I1:Inv X pins Z H { s with heap:=h',toks:=tk }:=I.kept λb o e=>hk b o (by have:=Heap.lt_size e;simp;exact Nat.ne_of_lt this) (Heap.get?_push_of_some _ e)
 refine⟨.bl _,H,I1,rfl,?_⟩
 rw [List.size_toArray,<- hl,za1]
 exact q
def zgu (K:W.Frag) (te:TE):TE:=λZ H Q=>te Z H λx H1=>∃ a xs,x=.ref a/\SqL K H1 a xs/\∀ p,H1 p=none->Q (.ref p) (upd H1 p (.lst xs.reverse))
theorem zaY {e:Expr} {te:TE} {j:Nat} {p1 p2 p3 pos:Pos} (he:PE X e te):PE X (.Subscript e (.Slice none none (some (.UnaryOp .USub (.Constant (.int 1) j p1) p2)) p3) pos) (zgu X.K te):=by
 intro pins s Z H Q I h
 refine Subscript_ (thn (he pins s Z H _ I h) λv s1 ⟨x,H1,I1,r1,q1⟩=>?_)
 obtain⟨a,xs,rfl,hx,q⟩:=q1
 cases r1
 refine wpAny_Slice ?_
 rw [evalPart_none]
 refine wpAny_pure (wpAny_pure ?_)
 rw [evalPart_some]
 refine thn (zfp zdF (zm (X:=X)) pins s1 Z H1 (λv H2=>v=.int (-1)/\H2=H1) I1 ⟨1,rfl,rfl,rfl⟩) λu s2 ⟨y,H2,I2,r2,e1,e2⟩=>?_
 subst e1 e2
 obtain⟨t,rfl⟩:=r2
 obtain⟨its,r,ht,hz⟩:=I2.list hx
 have hlen:=r.length
 have I3:Inv X pins Z H2 { s2 with heap:=s2.heap.push { cls:=.type "slice",data:=.fields #[.none,.none,.int (-1) t] } }:=I2.kept (t':=s2.toks) λb ob q=>Heap.get?_push_of_some _ q
 obtain⟨its',r',ht',hz'⟩:=I3.list hx
 have hlen':=r'.length
 show wpAny (model X.prog X.w) X.A (subscriptTail e (.Slice none none (some _) p3) (.ref a) (.ref s2.heap.objs.size)) (EP X pins Z Q) X.xe { s2 with heap:=s2.heap.push { cls:=.type "slice",data:=.fields #[.none,.none,.int (-1) t] } }
 refine tail_any (ops:=[.ref a,.ref s2.heap.objs.size]) ht'.isList.typeIs slot_list_getitem.lookup ?_ (by with_unfolding_all rfl)
 refine wpAny_getItem_list_slice ht'.isList (Heap.IsSliceOf.new ..) .none .none (.int (-1) t) (by simp) ?_ (by rw [List.size_toArray]<;>omega)
 rw [W.krv_pick]
 refine⟨.ref _,_,I3.laid (t':=s2.toks) (o:=.lst xs.reverse) (λb ob q=>Heap.get?_push_of_some _ q) (Nat.le_refl _) ?_,rfl,q _ (I3.hok.fresh (Nat.le_refl _))⟩
 exact⟨by rw [List.length_reverse];exact hz,_,0,r'.reverse,Heap.get?_push_size _ rfl⟩
theorem zdY:typeLookup (.type "list_reverseiterator") "__len__" = pure none:=by rw [typeLookup_type,builtinLookup_eq_fast];kernel_rfl
theorem zeU:typeLookup (.type "list_reverseiterator") "__length_hint__" = pure (some (.builtin "list_reverseiterator.__length_hint__")):=by rw [typeLookup_type,builtinLookup_eq_fast];kernel_rfl
section
variable {prog:Program} {w:World} {A:Around} {E:Value->Shared->Prop} {s:Shared}
theorem zbp {R:Result->Shared->Prop} (hh:A.handled=none) {I l:Addr} {items:Array Value} (hit:s.heap.IsRevIter I l ((items.size:Int)-1)) (hL:s.heap.IsList l items) (S:Addr) (res:Value) (c₀:Nat) (hS:s.heap.get? S=some { cls:=.type "list",data:=.seq #[] c₀ })
  (hSl:S≠l) (hR:∀ s' acc' c',Moved [S,I] (λa b=>b=a) s s'->s'.heap.get? S=some { cls:=.type "list",dict:=none,data:=.seq acc' c',slots:=#[] } ->
   ItemsOf (λi v=>items[items.size-1-i]?=some v) acc' items.size->R (.ok (.ret res)) s') (hn:items.size<=sizeLine) :
  wpAny (model prog w) A.in1 (Builtin.List.listExtendWith (.ref S) (.ref I) res)
   (λfin s'=>match fin with | .done f=>R (.ok f) s' | .again c'=>c'.quiet=true/\codeAny (model prog w) A c' R s') (λe s'=>R (.error e) s') s:=by
 obtain⟨oi,hoi,hci,hdi⟩:=id hit
 obtain⟨ol,hol,hcl,nl,hdl⟩:=id hL
 have hSI:S≠I:=by
  rintro rfl
  rw [hS] at hoi;cases hoi;exact absurd (show Value.type "list" = Value.type "list_reverseiterator" from hci) (by decide)
 have hne:l≠I:=by
  rintro rfl
  rw [hol] at hoi;cases hoi;rw [hcl] at hci;exact absurd hci (by decide)
 have hSf:S∉[I,l]:=λhm=>by
  rcases List.mem_cons.mp hm with e | hm
  ·exact hSI e
  ·exact hSl (List.mem_singleton.mp hm)
 unfold Builtin.List.listExtendWith
 refine wpAny_bind (wpAny_typeOf (T:="list_reverseiterator") hit.typeIs ?_)
 have h1:Builtin.List.listSameRef (.ref S) (.ref I)=false:=by simp [Builtin.List.listSameRef,hSI]
 have h2:(Value.type "list_reverseiterator" == Value.type "list")=false:=by decide
 have h3:(Value.type "list_reverseiterator" == Value.type "tuple")=false:=by decide
 simp only [h1,h2,h3,Bool.or_false,Bool.false_eq_true,if_false]
 refine wpAny_bind (wpAny_pyIter_revIter hit ?_)
 refine wpAny_bind (wpAny_holding ?_)
 unfold Builtin.List.listLengthHint
 refine wpAny_bind (wpAny_specialOf hit.typeIs zdY ?_)
 show wpAny _ A.in1 (specialOf (Value.ref I) (Str.ofString "__length_hint__") >>= _) _ _ _
 refine wpAny_bind (wpAny_specialOf hit.typeIs zeU ?_)
 generalize hid:("list_reverseiterator.__length_hint__" : String)=id0
 wp_delta
 rw [show splitId id0=some ("list_reverseiterator","__length_hint__") from by subst hid;decide +kernel]
 subst hid
 refine wpAny_bind (wpAny_isInstance (b:=true) hit.typeIs (by rw [isSubtype_type];kernel_rfl) ?_)
 refine wpAny_pure ?_
 rw [if_neg (by decide)]
 have W:=Walks.listRev (prog:=prog) (w:=w) (A:=A.in1) hh I l hne items
 refine wpAny_pure ⟨plainId_quiet F.plain_extend_loop _,codeAny_extend_loopS W.toS hn _ hSf _ items.size 0 _ _ _ rfl (Nat.zero_le _) ⟨Nat.zero_le _,by simpa using hit,hL⟩ hS (ItemsOf.nil _) λs' acc' c' hm hS' hacc=>?_⟩
 exact hR s' acc' c' hm hS' hacc
theorem zd1 {R:Result->Shared->Prop} (hh:A.handled=none) {I l:Addr} {items:Array Value} (hit:s.heap.IsRevIter I l ((items.size:Int)-1)) (hL:s.heap.IsList l items) (S:Addr) (hS:s.heap.get? S=some { cls:=.type "list",data:=.seq #[] }) (hSl:S≠l) (hSI:S≠I)
  (hR:∀ s' acc' c',s'.gens=s.gens->s'.os=s.os->(∀ b o,b≠S->b≠I->s.heap.get? b=some o->s'.heap.get? b=some o)->s'.heap.get? S=some { cls:=.type "list",dict:=none,data:=.seq acc' c',slots:=#[] } ->
   ItemsOf (λi v=>items[items.size-1-i]?=some v) acc' items.size->R (.ok (.ret .none)) s') (hn:items.size<=sizeLine) :
  wpAny (model prog w) A.in1 (Builtin.«list.__init__» ⟨[.ref S,.ref I],[]⟩)
   (λfin s'=>match fin with | .done f=>R (.ok f) s' | .again c'=>c'.quiet=true/\codeAny (model prog w) A c' R s') (λe s'=>R (.error e) s') s:=by
 show wpAny _ _ (do let old <- Builtin.List.listItems (.ref S);Builtin.List.listUpdate (.ref S) (λ_=>#[]);letGo old.toList.reverse;Builtin.List.listExtendWith (.ref S) (.ref I) .none) _ _ s
 refine wpAny_bind ?_
 unfold Builtin.List.listItems
 refine wpAny_bind (wpAny_seqItems hS rfl (wpAny_pure ?_))
 show wpAny _ _ (updateSeq S (λ_=>#[]) >>= λ_=>letGo (#[]:Array Value).toList.reverse >>= λ_=>Builtin.List.listExtendWith (.ref S) (.ref I) .none) _ _ s
 refine wpAny_bind (wpAny_updateSeq hS rfl ?_)
 have hS₂:=Heap.get?_update_self (Obj.mapSeq (λ_=>(#[]:Array Value))) hS rfl
 have oth:∀ b o,b≠S->s.heap.get? b=some o->(s.heap.update S (Obj.mapSeq (λ_=>(#[]:Array Value)))).get? b=some o :=
  λb o hb e=>(Heap.get?_update_other _ _ (Ne.symm hb)).trans e
 refine wpAny_bind (wpAny_letGo ?_)
 refine zbp (hn:=hn) hh (hit.at λo e=>oth I o (Ne.symm hSI) e) (hL.at λo e=>oth l o (Ne.symm hSl) e) S .none _ hS₂ hSl λs' acc' c' hm hS' hacc=>?_
 refine hR s' acc' c' hm.gens hm.os (λb o hb hi e=>hm.heap b o (λz=>?_) (oth b o hb e)) hS' hacc
 rcases List.mem_cons.mp z with e' | z
 ·exact hb e'
 ·exact hi (List.mem_singleton.mp z)
theorem WR {Q:Value->Shared->Prop} (hh:A.handled=none) {I l:Addr} {items:Array Value} (hit:s.heap.IsRevIter I l ((items.size:Int)-1)) (hL:s.heap.IsList l items)
  (hQ:∀ s' acc' c',s'.gens=s.gens->s'.os=s.os->(∀ b o,b≠I->s.heap.get? b=some o->s'.heap.get? b=some o) ->
   s'.heap.get? s.heap.objs.size=some { cls:=.type "list",dict:=none,data:=.seq acc' c',slots:=#[] }->ItemsOf (λi v=>items[items.size-1-i]?=some v) acc' items.size->Q (.ref s.heap.objs.size) s') (hn:items.size<=sizeLine) :
  wpAny (model prog w) A (call (.type "list") [.ref I]) Q E s:=by
 refine callType_codes (Q₁:=λobj s₁=>obj=.ref s.heap.objs.size/\s₁={ s with heap:=s.heap.push { cls:=.type "list",data:=.seq #[] } }) F.called_list (F.typeCall_list_1 _) F.entry_list_init
  (code_list_new _ ⟨rfl,rfl⟩) λobj s₁ h₁=>?_
 obtain⟨rfl,rfl⟩:=h₁
 have hS:(s.heap.push { cls:=.type "list",data:=.seq #[] }).get? s.heap.objs.size=some { cls:=.type "list",data:=.seq #[] }:=Heap.get?_push_size _ rfl
 obtain⟨oi,hoi,_⟩:=id hit
 obtain⟨ol,hol,_⟩:=id hL
 refine⟨⟨_,hS,rfl⟩,F.args_list_init_2 _ _,zd1 (A:=A.in1) (hn:=hn) hh (hit.at λo e=>Heap.get?_push_of_some _ e) (hL.at λo e=>Heap.get?_push_of_some _ e) _ hS (Nat.ne_of_gt (Heap.lt_size hol)) (Nat.ne_of_gt (Heap.lt_size hoi)) λs' acc' c' hg ho hk hS' hacc=>?_⟩
 exact⟨rfl,hQ s' acc' c' hg ho (λb o hI e=>hk b o (Nat.ne_of_lt (Heap.lt_size e)) hI (Heap.get?_push_of_some _ e)) hS' hacc⟩
end
theorem zdf {items acc:Array Value} (h:ItemsOf (λi v=>items[items.size-1-i]?=some v) acc items.size):acc=items.toList.reverse.toArray:=by
 apply Array.ext_getElem?
 intro i
 by_cases hi:i<items.size
 ·have e:acc[i]?=some (acc[i]'(by rw [h.1];exact hi)):=Array.getElem?_eq_getElem _
  have q:=h.2 i _ e
  rw [e,<- q]
  simp [List.getElem?_reverse,hi]
 ·rw [Array.getElem?_eq_none (by rw [h.1];omega),Array.getElem?_eq_none (by simp;omega)]
def zdq (K:W.Frag) (te:TE):TE:=λZ H Q=>te Z H λx H1=>∃ (l:Addr) (ys:List V),x=.ref l/\SqL K H1 l ys/\∀ q,H1 q=none->Q (.ref q) (upd H1 q (.lst ys.reverse))
theorem zbI {e:Expr} {te:TE} {p1 p2 pos1 pos2:Pos} (hc:X.calm=true) (hg1:Gl X "list") (hm1:X.mg "list" = none) (hg2:Gl X "reversed") (hm2:X.mg "reversed" = none) (he:PE X e te)
  (hs:starEach [e] X.env=[(false,eval e X.env)]:=by rfl) (hs2:starEach [.Call (.Name "reversed" p2) [e] [] pos2] X.env=[(false,eval (.Call (.Name "reversed" p2) [e] [] pos2) X.env)]:=by rfl) :
  PE X (.Call (.Name "list" p1) [.Call (.Name "reversed" p2) [e] [] pos2] [] pos1) (zdq X.K te):=by
 intro pins s Z H Q I h
 refine wpAny_Call_Name_kw (jm I hg1 hm1 boot_list ?_)
 refine PyProof.Rows.callWith_type1 ?_ hs2 rfl
 rw [hs2]
 show wpAny _ _ (spliced ((false,eval (.Call (.Name "reversed" p2) [e] [] pos2) X.env) :: backTo pos1 [])) _ _ s
 refine Calls.spliced_cons ?_
 refine wpAny_Call_Name_kw (jm I hg2 hm2 boot_reversed ?_)
 refine PyProof.Rows.callWith_type1 ?_ hs rfl
 rw [hs]
 show wpAny _ _ (spliced ((false,eval e X.env) :: backTo pos2 [])) _ _ s
 refine Calls.spliced_cons (thn (he pins s Z H _ I h) λv s1 ⟨x,H1,I1,r1,q1⟩=>Calls.spliced_nil ?_)
 obtain⟨l,ys,rfl,hq,q⟩:=q1
 cases r1
 obtain⟨its,rv,pl,hz⟩:=I1.list hq
 have hl:=rv.length
 refine call_reversed_list pl.isList (Calls.spliced_nil ?_)
 have hsz:(its.toArray.size:Int)=(ys.length:Int):=by rw [List.size_toArray,hl]
 refine WR (s:={ s1 with heap:=s1.heap.push (revObj l ((its.toArray.size:Int)-1)) }) (I1.ok.hd hc) (I:=s1.heap.objs.size) (l:=l) (items:=its.toArray) ⟨_,Heap.get?_push_size _ rfl,rfl,rfl⟩ (pl.isList.at λo e=>Heap.get?_push_of_some _ e) (λs' acc c hgn ho hk hS hacc=>?_) (by rw [List.size_toArray,<- hl];exact hz)
 have e1:(s1.heap.push (revObj l ((its.toArray.size:Int)-1))).objs.size=s1.heap.objs.size+1:=Heap.size_push _ _
 rw [show ({ s1 with heap:=s1.heap.push (revObj l ((its.toArray.size:Int)-1)) }:Shared).heap.objs.size=s1.heap.objs.size+1 from e1] at hS ⊢
 have kept:∀ b o,s1.heap.get? b=some o->s'.heap.get? b=some o:=λb o e=>hk b o (Nat.ne_of_lt (Heap.lt_size e)) (Heap.get?_push_of_some _ e)
 have hokL:=I1.laid (a:=s1.heap.objs.size+1) (o:=.lst ys.reverse) (h':=s'.heap) (t':=s'.toks) kept (Nat.le_succ _) ⟨by rw [List.length_reverse];exact hz,its.reverse,c,rv.reverse,by rw [hS,zdf hacc]⟩
 have I2:Inv X pins Z (upd H1 (s1.heap.objs.size+1) (.lst ys.reverse)) s':=by
  refine I1.call' (ch:=[]) (by rw [ho]) ?_ hokL.hok (by rw [hgn];exact I1.bare) λb z=>absurd z (by simp)
  exact Un.laid kept (Nat.le_succ _) (I1.hok.fresh (Nat.le_succ _))
 exact⟨.ref _,_,I2,rfl,q _ (I1.hok.fresh (Nat.le_succ _))⟩
end
section
variable {X:Cx} (K:W.Frag)
theorem Q9 (e:X.K=K:=by rfl):ul X (.builtin "isinstance") (zgq K):=by subst e;exact U0
theorem xQ (e:X.K=K:=by rfl):ul X (.builtin "len") (λxs H Q=>∃ p ys,xs=[.ref p]/\(SqL K H p ys\/SqT K H p ys)/\Q (.int ys.length) H):=by subst e;exact JS
theorem yo (e:X.K=K:=by rfl):IxR X (zgT K):=by subst e;exact zeQ
theorem wB (e:X.K=K:=by rfl):IxR X (zgz K):=by subst e;exact zfN
theorem Xb (e:X.K=K:=by rfl):SlR X (zgm K):=by subst e;exact ze0
theorem k_all (hc:X.calm=true) (e:X.K=K:=by rfl):ul X (.builtin "all") (zgN K):=by subst e;exact zet hc
theorem zd8 (hc:X.calm=true) (e:X.K=K:=by rfl):ul X (.builtin "any") (zgl K):=by subst e;exact zdH hc
theorem zaR (e:X.K=K:=by rfl):ul X (.type "list") (λxs H Q=>∃ p ys,xs=[.ref p]/\(SqL K H p ys\/SqT K H p ys)/\∀ l,H l=none->Q (.ref l) (upd H l (.lst ys))):=by subst e;exact zaf
theorem zbf (hu:X.A.units+64<cLine) (e:X.K=K:=by rfl):OpR X (compareOp .Eq) (zeA K false):=by subst e;exact zfC hu
theorem zcv (hu:X.A.units+64<cLine) (e:X.K=K:=by rfl):OpR X (compareOp .NotEq) (zeA K true):=by subst e;exact zfF hu
theorem zgh (hu:X.A.units+64<cLine) (e:X.K=K:=by rfl):OpR X (compareOp .In) (zeZ K false):=by subst e;exact zf8 hu
theorem zdP (hu:X.A.units+64<cLine) (e:X.K=K:=by rfl):OpR X (compareOp .NotIn) (zeZ K true):=by subst e;exact zdh hu
theorem Yt {tg l:Expr} {tl:TE} (hl:PE X l tl) (e:X.K=K:=by rfl):PI X tg l (zfu K tl):=by subst e;exact zeF hl
end
structure Df (K:W.Frag) (mg:Str->Option Value) (x:Str) (st:Stmt) (ps:List Str) (f:Addr) (fd:FuncData):Prop where
 fn:Fun K x x st f fd
 b:Binds K fd ps []
 g:mg x=some (.ref f)
theorem zN {X:Cx} {x:Str} {st:Stmt} {ps:List Str} {f:Addr} {fd:FuncData} {k:Nat} {sp:Sp} {e:Expr} {es:List Expr} {t:TA} {p pos:Pos} (D:Df X.K X.mg x st ps f fd) (G:FnOk X.prog X.w X.K X.mg X.base CX0 k f fd ps sp) (hr:Room k X.A) (ha:PA X (e :: es) t) (hg:Gl X x:=by rfl)
  (hdb:(x == ("__debug__" : Str))=false:=by decide) (he:starEach (e :: es) X.env=(false,eval e X.env) :: starEach es X.env:=by rfl) (hpl:(backTo pos (starEach es X.env)).any (·.1)=false:=by rfl):PE X (.Call (.Name x p) (e :: es) [] pos) (zfn sp [] E0 t) :=
 zeW G hr hg D.g D.fn.kp D.b .nil zaF ha hdb he hpl
theorem zdv {K:W.Frag} {h:Heap} {mg:Str->Option Value} {x:Str} {st:Stmt} {ps:List Str} {f:Addr} {oc:Value} {od an:Option Addr} {osl:Array (Option Value)} {kV doc pm cdv ct:Value} (X:K.In h) (G:h.Ns mainGlobals mg)
  (a:W.nsIn K mainGlobals x=some (some (.ref f))) (l:K.lookup f=some ⟨oc,od,.func (W.fnOf x x (vP st) (xU st) (zu st) .none kV doc pm an cdv ct),osl⟩) (c:W.codeIn K cdv x=true) (k:W.keepIn K (.ref f)=true)
  (hb:∀ (kV doc pm:Value) (an:Option Addr) (cdv ct:Value) (us:List Value),us.length=ps.length->bindArgs (W.fnOf x x (vP st) (xU st) (zu st) .none kV doc pm an cdv ct) ⟨us,[]⟩=pure (ps.zip us)) :
  Df K mg x st ps f (W.fnOf x x (vP st) (xU st) (zu st) .none kV doc pm an cdv ct) :=
 ⟨JL l c k,(JL (st:=st) l c k).binds hb,W.mg_of X G a⟩
structure Blt (mg:Str->Option Value):Prop where
 n_isinstance:mg "isinstance" = none
 n_int:mg "int" = none
 n_bool:mg "bool" = none
 n_list:mg "list" = none
 n_tuple:mg "tuple" = none
 n_reversed:mg "reversed" = none
 n_len:mg "len" = none
 n_max:mg "max" = none
 n_min:mg "min" = none
 n_range:mg "range" = none
 n_all:mg "all" = none
 n_any:mg "any" = none
 n_sorted:mg "sorted" = none
 n_enumerate:mg "enumerate" = none
 n_repr:mg "repr" = none
theorem Jy {A:Around} {k:Nat} (hr:Room k A):A.units+64<cLine:=hr.units
def aw (fp:List Addr) (H:Hp):Hp:=λb=>if b∈fp then none else H b
theorem Y8 {fp:List Addr} {H:Hp} {b:Addr} (h:b∈fp):aw fp H b=none:=by unfold aw;rw [if_pos h]
theorem yc {fp:List Addr} {H:Hp} {b:Addr} (h:b∉fp):aw fp H b=H b:=by unfold aw;rw [if_neg h]
theorem zX (fp:List Addr) (H:Hp):Same (aw fp H) H:=λb o e=>by
 by_cases h:b∈fp
 ·rw [Y8 h] at e;cases e
 ·rw [yc h] at e;exact e
theorem Same.aw {H H':Hp} (h:Same H H') (fp:List Addr):Same (aw fp H) (aw fp H'):=λb o e=>by
 by_cases hb:b∈fp
 ·rw [Y8 hb] at e;cases e
 ·rw [yc hb] at e ⊢;exact h b o e
theorem zj {H:Hp} {p:Addr} {o:HO} (h:H p=none):Same H (upd H p o):=λb u e=>by rw [zq (zy e h)];exact e
section
variable {X:Cx} {tg:Expr}
end
open PySem PySem.Spec PyProof.Rows PySem.SeqAt
section
variable {X:Cx}
def zgB (K:W.Frag):List V->Hp->VK->Prop:=λxs H Q=>∃ (a:Addr) (ns:List Int),xs=[.ref a]/\SqL K H a (ns.map V.int)/\Q (.int ns.sum) H
theorem zds (hc:X.calm=true):ul X (.builtin "sum") (zgB X.K):=by
 intro pins s Z H xs us Q I r h
 obtain⟨a,ns,rfl,hq,q⟩:=h
 obtain⟨u,rfl,rx⟩:=vals1 r
 cases rx
 obtain⟨its,rv,pl,hz⟩:=I.list hq
 have hi:=intsAre_of rv
 obtain⟨ys,hy⟩:=hi.allInts.items
 have hn:(ys.toList.map (·.1)).sum=ns.sum:=by
  have e:=hi.numsOf
  have e2:=nums_intItems ys
  rw [<- hy] at e2
  rw [<- e,<- e2]
 refine sum_intListG (xs:=ys) (I.ok.hd hc) (by rw [<- hy];exact pl.isList) λh' tk t' hk=>?_
 refine⟨.int ns.sum,H,I.kept λb o e=>hk b o e,?_,q⟩
 refine⟨t',?_⟩
 rw [preSum_eq,List.take_of_length_le (by simp),hn]
theorem zfk (K:W.Frag) (hc:X.calm=true) (e:X.K=K:=by rfl):ul X (.builtin "sum") (zgB K):=by subst e;exact zds hc
def zcp (K:W.Frag):V->List V->Hp->VK->Prop:=λx vs H Q=>∃ l xs y ts u j,x=.ref l/\vs=[y]/\SqL K H l xs/\TrsAt K H ts xs/\TrAt K H u y/\wC ts<=8/\j<ts.length /\
 (∀ t,ts[j]?=some t->teq t u=true)/\(∀ m t,m<j->ts[m]?=some t->teq t u=false)/\Q (.int (j:Nat)) H
open Classical in
theorem zda (hu:X.A.units+64<cLine):MtM X "list.index" (zcp X.K):=by
 intro pins s Z H x vs v us Q I rx rv h
 obtain⟨l,xs,y,ts,u,j,rfl,rfl,hq,hts,ht,hd,hj,hit,hno,q⟩:=h
 cases rx
 obtain⟨u0,rfl,ru⟩:=Vals.one rv
 obtain⟨its,r,pl,hz⟩:=I.list hq
 obtain⟨⟨cls,dd,data,sl⟩,ho,hc,n,hdat⟩:=id pl.isList
 simp only at hc hdat
 subst hc hdat
 have l1:=hts.length
 have m1:=r.length
 have val:∀ (m:Nat) (hm:m<its.length) (t:Tr),ts[m]?=some t->decide (∃ t x,RelV x its[m]/\TrAt X.K H t x/\teq t u=true)=teq t u:=by
  intro m hm t et
  obtain⟨z,ez,hz'⟩:=hts.get et
  obtain⟨w,ew,rw'⟩:=r.get ez
  have e':its[m]=w:=by
   rw [List.getElem?_eq_getElem hm] at ew
   exact Option.some.inj ew
  rw [e',Bool.eq_iff_iff,decide_eq_true_iff]
  constructor
  ·rintro⟨t',x',r',h',e3⟩
   rw [rw'.inj r'] at hz'
   rw [Qq I 8 (Nat.le_trans (YZ (List.mem_of_getElem? et)) hd) hz' h'];exact e3
  ·intro e3
   exact⟨t,z,rw',hz',e3⟩
 have hjs:j<its.length:=by omega
 have hsl:(sizeLine:Int)<2^63-1:=by decide
 refine call_meets PySem.F.slot_list_index ⟨_,ho,rfl⟩ PySem.F.entry_list_index (PySem.F.args_list_index_2 _ _)
  (list_indexAt l its.toArray n dd sl u0 (λy=>decide (∃ t x,RelV x y/\TrAt X.K H t x/\teq t u=true)) j (by simpa using hjs) (by omega) ?_ ?_) ⟨ho,J9 I hu ht ru hd hts r,?_⟩
 ·have q:=val j hjs _ (List.getElem?_eq_getElem hj)
  rw [hit _ (List.getElem?_eq_getElem hj)] at q
  simpa using q
 ·intro m hm hlt
  have hm':m<ts.length:=by omega
  have q:=val m (by omega) _ (List.getElem?_eq_getElem hm')
  rw [hno m _ hlt (List.getElem?_eq_getElem hm')] at q
  simpa using q
 ·exact⟨.int (j:Nat),H,I.kept λb o e=>e,⟨_,rfl⟩,q⟩
theorem zel (K:W.Frag) (hu:X.A.units+64<cLine) (e:X.K=K:=by rfl):MtM X "list.index" (zcp K):=by subst e;exact zda hu
end
structure Zg (sc:Scope) (scope:Scope) (xs:List Str) (M:List Str) (ys:List Str) (js:List Nat):Prop where
 kind:scope.kind=.function:=by rfl
 cell:∀ y∈scope.names,y.2≠.cell:=by decide +kernel
 loc:∀ y∈scope.names,y.2=.local->scope.names.lookup y.1=some .local:=by decide +kernel
 var:∀ x∈xs,scope.names.lookup x=some .local:=by decide +kernel
 free:∀ y∈scope.names,y.2=.free->sc.names.lookup y.1=some .cell\/sc.names.lookup y.1=some .free:=by decide +kernel
 caps:js.map (M[·]?)=ys.map some:=by rfl
 fr:∀ y∈ys,scope.names.lookup y=some .free:=by decide +kernel
 nd:(xs++ys).Nodup:=by decide +kernel
def nones (xs:List Str):St:=xs.map λ_=>none
theorem CScope.nofree {sc scope:Scope} {x:Str} {M:List Str} (kind:scope.kind=.function) (cell:∀ y∈scope.names,y.2≠.cell) (loc:∀ y∈scope.names,y.2=.local->scope.names.lookup y.1=some .local) (var:scope.names.lookup x=some .local) (free:∀ y∈scope.names,y.2≠.free):CScope sc scope x M [] [] :=
 ⟨kind,cell,loc,var,λy hy e=>absurd e (free y hy),rfl,by simp,by simp⟩
section
variable {X:Cx} {pins:List (Addr×Obj)} {Z:St} {H:Hp} {s:Shared}
theorem zcy {scope:Scope} {xs ys:List Str} {js:List Nat} {fp:List Addr} {h₁:Heap} {tk:Nat} {C:Addr} (I:Inv X pins Z H s) (S:Zg X.env.scope scope xs X.N ys js) (hf:∀ b∈fp,YD X pins H b) (ho:∀ b∈fp,∃ o,s.heap.get? b=some o)
  (hC:s.heap.objs.size<=C) (hk:∀ b o,s.heap.get? b=some o->h₁.get? b=some o) (hn:h₁.Ns C λ_=>none) :
  Inv (cxC X (xs++ys) scope C s H fp) [] (nones xs++yK js Z) H { s with heap:=h₁,toks:=tk }:=by
 have sub:∀ y c,(yt X.env.cells scope.names []).lookup y=some c->X.env.cells.lookup y=some c:=λy c e=>xW (λ_ _ z=>by simp at z) e
 have has:∀ y,scope.names.lookup y=some .free->∃ c,(yt X.env.cells scope.names []).lookup y=some c:=λy e=>by
  have m:(y,NameKind.free)∈scope.names:=PySem.mem_of_lookup e
  exact YC (.inr ⟨m,I.ok.has y (S.free _ m rfl)⟩)
 have lt:∀ b∈fp,b<s.heap.objs.size:=λb hb=>by obtain⟨o,e⟩:=ho b hb;exact Heap.lt_size e
 have ok:(cxC X (xs++ys) scope C s H fp).Ok:=by
  refine⟨I.ok.mod,S.kind,I.ok.glob,I.ok.blt,hC,λy z c e1 e2=>I.ok.inj y z c (sub _ _ e1) (sub _ _ e2),λy hy=>?_,λy c z=>?_,I.ok.hd,I.ok.frames,.inl rfl,λb hb=>?_,I.bs,Nat.le_trans I.ok.bsz I.sz,λb o e hb=>?_,λb hb z=>?_,I.stack,I.stkFree⟩
  ·have hy':(relabel scope X.env).names.lookup y=some .cell\/(relabel scope X.env).names.lookup y=some .free:=hy
   have nocell:scope.names.lookup y≠some .cell:=λz=>S.cell _ (PySem.mem_of_lookup z) rfl
   rcases hy' with e | e
   ·rcases yD e with z | ⟨_,z⟩
    ·exact absurd z nocell
    ·exact has y z
   ·rcases yD e with z | ⟨z,_⟩
    ·exact has y z
    ·cases z
  ·exact absurd (show false=true from z) Bool.false_ne_true
  ·refine⟨Nat.ne_of_lt (Nat.lt_of_lt_of_le (lt b hb) hC),λy c e=>(hf b hb).2.2.2.2.1 y c (sub y c e)⟩
  ·rcases (hf b hb).2.2.2.1 with z | z
   ·exact I.ok.noex b o e z
   ·exact absurd (Nat.lt_of_lt_of_le (Heap.lt_size e) (Nat.le_trans I.ok.bsz z)) (Nat.lt_irrefl _)
  ·rcases List.mem_cons.mp (I.stkSub b z) with e | e
   ·exact (hf b hb).2.1 e
   ·exact (hf b hb).2.2.1 e
 refine⟨ok,rfl,I.bare,Un.kept hk,⟨_,hn,λi y v e1 e2 e3=>?_⟩,λy c e=>?_,I.hok.fresh hC,λy c e=>I.freeC y c (sub y c e),λp hp=>absurd (show p∈([]:List (Addr×Obj)) from hp) (by simp),I.hok.kept hk,?_⟩
 ·by_cases hix:i<xs.length
  ·have z:(nones xs++yK js Z)[i]?=some none:=by
    rw [List.getElem?_append_left (by unfold nones;rw [List.length_map];exact hix)]
    unfold nones
    rw [List.getElem?_map,List.getElem?_eq_getElem hix];rfl
   rw [z] at e2;cases e2
  ·obtain⟨k,rfl⟩:∃ k,i=xs.length+k:=⟨i-xs.length,by omega⟩
   have e1':ys[k]?=some y:=by
    have e1:(xs++ys)[xs.length+k]?=some y:=e1
    rw [List.getElem?_append_right (by omega),Nat.add_sub_cancel_left] at e1;exact e1
   have e2':(yK js Z)[k]?=some (some v):=by
    rw [List.getElem?_append_right (by unfold nones;rw [List.length_map];omega)] at e2
    unfold nones at e2
    rw [List.length_map,Nat.add_sub_cancel_left] at e2;exact e2
   obtain⟨j,hj,hσ⟩:=Uw e2'
   have hN:X.N[j]?=some y:=by
    have z:=congrArg (λl=>l[k]?) S.caps
    simp only [List.getElem?_map,hj,e1',Option.map_some] at z
    exact Option.some.inj z
   have hfr:=S.fr y (List.mem_of_getElem? e1')
   have m:(y,NameKind.free)∈scope.names:=PySem.mem_of_lookup hfr
   have hkind:=S.free _ m rfl
   obtain⟨m',hns,hl⟩:=I.loc
   obtain⟨u,r,lk⟩:=hl j y v hN hσ (by rcases hkind with z | z;exact .inr (.inl z);exact .inr (.inr z))
   refine⟨u,r,.inr ⟨?_,?_⟩⟩
   ·have e3':(relabel scope X.env).names.lookup y=some .local\/(relabel scope X.env).names.lookup y=some .cell\/(relabel scope X.env).names.lookup y=some .free:=e3
    rcases e3' with z | z | z
    ·rcases yD z with q | ⟨q,_⟩
     ·rw [hfr] at q;cases q
     ·cases q
    ·exact .inl z
    ·exact .inr z
   ·obtain⟨c,hc⟩:=has y hfr
    refine⟨c,hc,?_⟩
    rcases lk with ⟨z,_⟩ | ⟨_,c',hc',cell⟩
    ·rcases hkind with q | q
     ·have q':X.env.kindOf y=some .cell:=q
      rw [show X.env.kindOf y=some .local from z] at q';cases q'
     ·have q':X.env.kindOf y=some .free:=q
      rw [show X.env.kindOf y=some .local from z] at q';cases q'
    ·rw [sub y c hc] at hc'
     cases hc'
     obtain⟨o,e,d⟩:=cell
     exact⟨o,hk _ _ e,d⟩
 ·obtain⟨v,o,e',d⟩:=I.cell y c (sub y c e)
  exact⟨v,o,hk _ _ e',d⟩
 ·have z:=congrArg List.length S.caps
  simp only [List.length_map] at z
  show (nones xs++yK js Z).length=(xs++ys).length
  simp [yK,nones,z]
end
section
variable {prog:Program} {w:World} {A:Around} {R:Result->Shared->Prop} {s:Shared}
theorem zcO {elt target iter:Expr} {ifs:List Expr} {scope:Scope} {pos:Pos} {it acc:Value} {env:Env} {N:Value->Shared->Prop} (hN:N=notedBy (model prog w) A env λe s'=>R (.error e) s') (I:Nat->Shared->Prop)
  (turn:∀ n s,I n s->wpAny (model prog w) A (pyNext it) (λr s₁=>match r with
   | none=>R (.ok .next) s₁
   | some v=>wpAny (model prog w) A (letOwnedTupleGo target it v) (λ_ s₅=>wpAny (model prog w) A (assign target env v) (λ_ s₂ =>
     wpAny (model prog w) A (forIn ifs true λc r=>if r=true then do let ok <- isTrue c env (eval c env);pure (ForInStep.yield ok) else pure (ForInStep.yield r)) (λok s₃=>if ok=true then wpAny (model prog w) A (eval elt env) (λx s₄=>wpAny (model prog w) A (call (.builtin "list.append") [acc,x]) (λ_ s₅=>∃ m,m<n/\I m s₅) N s₄) N s₃ else ∃ m,m<n/\I m s₃) N s₂) N s₅) N s₁) N s)
  (n:Nat) (h:I n s):codeAny (model prog w) A (.compLoop (.ListComp elt [⟨target,iter,ifs,0⟩] scope pos) 0 it acc env) R s:=by
 subst hN
 refine codeAny_loop rfl I (λn s hI=>?_) n h
 show wpAny _ A ((compTurn (.ListComp elt [⟨target,iter,ifs,0⟩] scope pos) 0 it acc env).onRaise (λx=>do noteFrame x env;theTreesLotGoes x)) _ _ s
 rw [compTurn_list]
 refine wpAny_noted (wpAny_bind (wpAny_standAt (wpAny_bind (wpAny_mono (turn n s hI) (λr s₁ h₁=>?_) λ_ _ h'=>h'))))
 cases r with
 | none=>exact wpAny_pure h₁
 | some v =>
  refine wpAny_bind (wpAny_mono h₁ (λ_ s₅ h₅=>wpAny_bind (wpAny_mono h₅ (λ_ s₂ h₂=>wpAny_bind (wpAny_mono h₂ (λok s₃ h₃=>?_) λ_ _ h'=>h')) λ_ _ h'=>h')) λ_ _ h'=>h')
  cases ok with
  | false=>exact wpAny_pure ⟨rfl,h₃⟩
  | true=>exact wpAny_bind (wpAny_bind (wpAny_mono h₃ (λx s₄ h₄=>wpAny_bind (wpAny_mono h₄ (λ_ s₆ h₆=>wpAny_pure (wpAny_pure ⟨rfl,h₆⟩)) λ_ _ h'=>h')) λ_ _ h'=>h'))
end
def Xu (J:It) (xs:List Str) (js:List Nat) (g:TG) (tt:TT) (te:TE) (Z:St) (Q:VK) (H:Hp):Prop:=∃ W:Nat->Nat->List V->Hp->Prop,(∃ m,W 0 m [] H)/\∀ i m ys H,W i m ys H ->
 (J.stop i H/\∀ D,H D=none->Q (.ref D) (upd H D (.lst ys))) \/
 (J.go i H/\ys.length<sizeLine/\∃ N:List V->Hp->Prop,(∀ ys' H',N ys' H'->∃ m',m'<m/\W (i+1) m' ys' H')/\∀ x H',J.yld i H x H'->g x (nones xs++yK js Z) H' fun σ' H1=>(∃ vs:St,vs.length=xs.length/\σ'=vs++yK js Z)/\tt σ' H1 λb H2=>if b=true then te σ' H2 λv H3=>N (ys++[v]) H3 else N ys H2)
def zdN (wi:TI) (xs:List Str) (js:List Nat) (g:TG) (tt:TT) (te:TE):TE:=λZ H Q=>wi Z H λJ H1=>Xu J xs js g tt te Z Q H1
section
variable {X:Cx} {elt iter:Expr} {ifs:List Expr} {tg:Expr} {xs:List Str} {pos:Pos} {g:TG} {scope:Scope} {ys:List Str} {js:List Nat} {wi:TI} {tt:TT} {te:TE}
theorem Vp {pins:List (Addr×Obj)} {Z:St} {H:Hp} {s:Shared} {J:It} {fp:List Addr} {it:Addr} {tn:Nat->Heap->Prop} {Q:VK} {E:Value->Shared->Prop} {R:Value->Addr->Result->Shared->Prop}
  (S:Zg X.env.scope scope xs X.N ys js) (hc:X.calm=true) (hg:∀ C s₀ H₀ ex,PG (cxC X (xs++ys) scope C s₀ H₀ ex) tg g) (ht:∀ C s₀ H₀ ex,PTs (cxC X (xs++ys) scope C s₀ H₀ ex) ifs tt) (he:∀ C s₀ H₀ ex,PE (cxC X (xs++ys) scope C s₀ H₀ ex) elt te)
  (I:Inv X pins Z H s) (T:Turn X.prog X.w X.K tg J fp it tn) (st:tn 0 s.heap) (hf:∀ b∈fp,YD X pins H b)
  (hw:∃ W:Nat->Nat->List V->Hp->Prop,(∃ m,W 0 m [] H)/\∀ i m zs H,W i m zs H ->
   (J.stop i H/\∀ D,H D=none->Q (.ref D) (upd H D (.lst zs))) \/
   (J.go i H/\zs.length<sizeLine/\∃ N:List V->Hp->Prop,(∀ ys' H',N ys' H'->∃ m',m'<m/\W (i+1) m' ys' H')/\∀ x H',J.yld i H x H'->g x (nones xs++yK js Z) H' fun σ' H1=>(∃ vs:St,vs.length=xs.length/\σ'=vs++yK js Z)/\tt σ' H1 λb H2=>if b=true then te σ' H2 λv H3=>N (zs++[v]) H3 else N zs H2))
  (hR:∀ D C s' H' m',Inv X pins Z H' s'->Q (.ref D) H'->s.heap.objs.size<=C->H' C=none->s'.heap.Ns C m'->R (.ref D) C (.ok .next) s') :
  wpAny (model X.prog X.w) X.A (newList []) (λacc s₃=>wpAny (model X.prog X.w) X.A (newFunctionEnv scope X.env.globals (yt X.env.cells scope.names []) [] X.env.qual none .none (some X.env)) (λcenv s₄ =>
   codeAny (model X.prog X.w) X.A (.compStart (.ListComp elt [⟨tg,iter,ifs,0⟩] scope pos) 0 (.ref it) acc { cenv with scope:=relabel scope X.env }) (R acc cenv.locals) s₄) E s₃) E s:=by
 obtain⟨W,⟨m0,w0⟩,turn⟩:=hw
 refine wpAny_newObj_type (wpAny_newFunctionEnv S.cell (by intro y hy;simp at hy) (λh₁ hns₁ hsb₁=>?_) S.kind)
 dsimp only at hns₁ hsb₁ ⊢
 generalize hH2:s.heap.push { cls:=.type "list",dict:=none,data:=.seq ([]:List Value).toArray }=G at hns₁ hsb₁ ⊢
 generalize hD:s.heap.objs.size=D at *
 generalize hCe:G.objs.size=C at *
 have hC:C=D+1:=by rw [<- hCe,<- hH2,Heap.size_push,hD]
 have hDlt:D<C:=by rw [hC];exact Nat.lt_succ_self D
 have hDC:D≠C:=Nat.ne_of_lt hDlt
 have old:∀ b o,s.heap.get? b=some o->h₁.get? b=some o:=λb o e=>by
  have hb:b<D:=hD▸Heap.lt_size e
  exact (hsb₁.2 b (Nat.ne_of_lt (Nat.lt_trans hb hDlt))).trans (Heap.get?_push_of_some _ (hH2▸Heap.get?_push_of_some _ e))
 have hacc:h₁.get? D=some { cls:=.type "list",data:=.seq ([]:List Value).toArray 0 }:=by
  refine (hsb₁.2 D hDC).trans (Heap.get?_push_of_some _ ?_)
  rw [<- hH2,<- hD]
  exact Heap.get?_push_size _ rfl
 have obj0:=T.obj 0 _ st
 have fplt:∀ b∈fp,b<D:=λb hb=>by obtain⟨o,e,_⟩:=obj0 b hb;exact hD▸Heap.lt_size e
 generalize hX:cxC X (xs++ys) scope C s H fp=X'
 have I1:Inv X' [] (nones xs++yK js Z) H { s with heap:=h₁,toks:=s.toks+([]:List (Str×Value)).length }:=by
  subst hX
  exact zcy I S hf (λb hb=>by obtain⟨o,e,_⟩:=obj0 b hb;exact⟨o,e⟩) (by omega) old (by simpa using hns₁)
 have eP:X'.prog=X.prog:=by subst hX;rfl
 have eW:X'.w=X.w:=by subst hX;rfl
 have eK:X'.K=X.K:=by subst hX;rfl
 have eA:X'.A=X.A:=by subst hX;rfl
 have eC:X'.calm=true:=by subst hX;exact hc
 have eL:X'.env.locals=C:=by subst hX;rfl
 have eS:X'.s₀=s:=by subst hX;rfl
 have eN:X'.N=xs++ys:=by subst hX;rfl
 have eE:X'.env=compEnvC scope (yt X.env.cells scope.names []) C X.env:=by subst hX;rfl
 have eXe:X'.xe=λ_ _=>False:=by subst hX;rfl
 have eX:X'.ex=fp:=by subst hX;rfl
 have ePn:X'.pn=[]:=by subst hX;rfl
 have efs:∀ b,b∈X'.fs->b∈frs X.stack:=λb z=>by subst hX;exact z
 have cellLt:∀ y c,X'.env.cells.lookup y=some c->c<D:=λy c e=>by
  have e':(yt X.env.cells scope.names []).lookup y=some c:=by rw [eE] at e;exact e
  obtain⟨v,o,e2,_⟩:=I.cell y c (xW (λ_ _ z=>by simp at z) e')
  exact hD▸Heap.lt_size e2
 have frLt:∀ b,b∈X'.fs->b<D:=λb z=>by
  rcases List.mem_cons.mp (I.stkSub b (efs b z)) with e | e
  ·rw [e];exact hD▸I.lt
  ·exact Nat.lt_of_not_le λh=>I.nofs (hD▸h) e
 have fpOk:∀ (p:List (Addr×Obj)) (H':Hp),(∀ b∈fp,H' b=none)->(∀ q∈p,q.1=D)->∀ b∈fp,YD X' p H' b:=λp H' hn hp b hb=>by
  refine⟨hn b hb,?_,λz=>?_,.inl (eX▸hb),λy c e=>?_,λq hq=>?_⟩
  ·rw [eL];exact Nat.ne_of_lt (Nat.lt_trans (fplt b hb) hDlt)
  ·rcases List.mem_cons.mp (I.stkSub b (efs b z)) with e | e
   ·exact (hf b hb).2.1 e
   ·exact (hf b hb).2.2.1 e
  ·have e':(yt X.env.cells scope.names []).lookup y=some c:=by rw [eE] at e;exact e
   exact (hf b hb).2.2.2.2.1 y c (xW (λ_ _ z=>by simp at z) e')
  ·rw [ePn,List.nil_append] at hq
   rw [hp q hq];exact Nat.ne_of_gt (fplt b hb)
 have noCell:∀ (its:List Value) (k:Nat) v,({ cls:=.type "list",data:=.seq its.toArray k }:Obj).data≠.cell v:=λits k v z=>by cases z
 have done:∀ {zs:List V} {its:List Value} {k:Nat} {H':Hp} {s':Shared},Inv X' [] (nones xs++yK js Z) H' s'->s'.heap.get? D=some { cls:=.type "list",data:=.seq its.toArray k }->Vals zs its->H' D=none->zs.length<=sizeLine ->
   (∀ D,H' D=none->Q (.ref D) (upd H' D (.lst zs)))->R (.ref D) C (.ok .next) s':=λ{zs its k H' s'} I' hd hv hn hz q=>by
  have un:=I'.base
  obtain⟨m',hns,_⟩:=I'.loc
  rw [eL] at hns
  have hCn:H' C=none:=by have:=I'.free;rw [eL] at this;exact this
  have hH0:X'.H₀=H:=by subst hX;rfl
  rw [hH0,eS,eX] at un
  have un2:Un (frs X.stack) fp H (upd H' D (.lst zs)) s.heap s'.heap:=by
   have ne:∀ b o,s.heap.get? b=some o->b≠D:=λb o e=>Nat.ne_of_lt (hD▸Heap.lt_size e)
   have un':Un (frs X.stack) fp H H' s.heap s'.heap:=by subst hX;exact un
   exact⟨un'.keep,un'.slot,λb o e n hx=>by rw [zq (ne b o e)];exact un'.free b o e n hx,un'.there,λb xs e=>by rw [zq (zy (un'.tups b xs e) hn)];exact un'.tups b xs e,
    λb o u e=>by rw [zq (zy (un'.frzs b o u e) hn)];exact un'.frzs b o u e,λb ps e=>by
     obtain⟨more,z⟩:=un'.tbls b ps e
     exact⟨more,by rw [zq (zy z hn)];exact z⟩⟩
  have hok:HOk X.prog X.w (upd H' D (.lst zs)) s'.heap:=by
   have h0:=I'.hok
   rw [eP,eW] at h0
   exact h0.track hn ⟨hz,its,k,hv,hd⟩
  have I2:Inv X pins Z (upd H' D (.lst zs)) s':=I.call' (by have:=I'.os;rw [eS] at this;exact this) un2 hok I'.bare λb hb=>⟨(hf b hb).2.2.2.1,(hf b hb).2.1,(hf b hb).2.2.2.2.1,(hf b hb).2.2.2.2.2⟩
  exact hR D C s' _ m' I2 (q D hn) (by omega) (by rw [zq (Ne.symm hDC)];exact hCn) hns
 have loop:codeAny (model X.prog X.w) X.A (.compLoop (.ListComp elt [⟨tg,iter,ifs,0⟩] scope pos) 0 (.ref it) (.ref D) X'.env) (R (.ref D) C) { s with heap:=h₁,toks:=s.toks+([]:List (Str×Value)).length }:=by
  refine zcO rfl (λn s'=>∃ i zs its k H',Inv X' [] (nones xs++yK js Z) H' s'/\tn i s'.heap/\(∀ b∈fp,H' b=none)/\s'.heap.get? D=some { cls:=.type "list",data:=.seq its.toArray k }/\Vals zs its/\H' D=none/\zs.length<=sizeLine/\W i n zs H')
   ?_ m0 ⟨0,[],[],0,H,I1,T.keep _ _ _ st (λb hb o e=>old b o e),λb hb=>(hf b hb).1,hacc,.nil,I.hok.fresh (by omega),Nat.zero_le _,w0⟩
  rintro n s3 ⟨i,zs,its,k,H3,I3,st3,fr3,d3,v3,n3,z3,w3⟩
  have pinD:Inv X' [(D,{ cls:=.type "list",data:=.seq its.toArray k })] (nones xs++yK js Z) H3 s3:=I3.pins_of λp hp=>by
   have e:p=(D,{ cls:=.type "list",data:=.seq its.toArray k }):=by simpa using hp
   subst e
   exact⟨d3,n3,by rw [eL];exact hDC,λz=>Nat.lt_irrefl _ (frLt D z),noCell its k⟩
  have hpD:∀ q∈[(D,({ cls:=.type "list",data:=.seq its.toArray k }:Obj))],q.1=D:=λq hq=>by
   have e:q=(D,{ cls:=.type "list",data:=.seq its.toArray k }):=by simpa using hq
   rw [e]
  rcases turn i n zs H3 w3 with ⟨stop,qn⟩ | ⟨go,hzl,NN,hNN,step⟩
  ·refine thn (eA▸T.done X' eP eW eK eC i _ s3 _ H3 _ pinD (fpOk _ _ fr3 hpD) st3 stop) λr s4 ⟨hr,I4⟩=>?_
   subst hr
   exact done (I4.pins_of λp hp=>absurd hp (by simp)) (I4.pin (D,{ cls:=.type "list",data:=.seq its.toArray k }) (List.mem_append_right _ (by simp))).1 v3 n3 z3 qn
  ·refine thn (eA▸T.item X' eP eW eK eC i _ s3 _ H3 _ pinD (fpOk _ _ fr3 hpD) st3 go) λr s4 ⟨u,hr,h4⟩=>?_
   subst hr
   refine thn h4 λ_ s4 ⟨v,H5,I5,r5,y5,st5,fr5⟩=>?_
   have I5':=I5.pinned (fpOk _ _ fr5 hpD) (T.obj _ _ st5)
   have ev:∀ {α:Type} {t:Sem α} {Q':α->Shared->Prop} {E':Value->Shared->Prop} {s':Shared},wpAny (model X'.prog X'.w) X'.A t Q' X'.xe s'->wpAny (model X.prog X.w) X.A t Q' E' s':=λ{α t Q' E' s'} hh=>by
    rw [eP,eW,eA,eXe] at hh
    exact wpAny_mono hh (λ_ _ q=>q) λ_ _ z=>z.elim
   have hgg:PG X' tg g:=hX▸hg C s H fp
   refine ev (thn (hgg _ s4 _ H5 v u _ I5' r5 (step v H5 y5)) λ_ s6 ⟨σ6,H6,I6,⟨vs6,hvl,e6⟩,q6⟩=>?_)
   subst e6
   have back:∀ {σ':St} {H7:Hp} {s7:Shared},Inv X' ([(D,{ cls:=.type "list",data:=.seq its.toArray k })]++Zw fp s4.heap) (vs6++yK js Z) H7 s7->Inv X' [] (nones xs++yK js Z) H7 s7:=λ{_ H7 s7} I7=>by
    refine (I7.pins_of λp hp=>absurd hp (by simp)).weak (by rw [List.length_append,List.length_append,hvl];unfold nones;rw [List.length_map]) λi v' e=>?_
    by_cases hix:i<xs.length
    ·have z:(nones xs++yK js Z)[i]?=some none:=by
      rw [List.getElem?_append_left (by unfold nones;rw [List.length_map];exact hix)]
      unfold nones
      rw [List.getElem?_map,List.getElem?_eq_getElem hix];rfl
     rw [z] at e;cases e
    ·have hn:(nones xs).length=xs.length:=by unfold nones;rw [List.length_map]
     rw [List.getElem?_append_right (by omega),hn] at e
     rw [List.getElem?_append_right (by omega),hvl]
     exact e
   have fps:∀ {σ':St} {H7:Hp} {s7:Shared},Inv X' ([(D,{ cls:=.type "list",data:=.seq its.toArray k })]++Zw fp s4.heap) σ' H7 s7->(∀ b∈fp,H7 b=none)/\(∀ b∈fp,∀ o,s4.heap.get? b=some o->s7.heap.get? b=some o)/\s7.heap.get? D=some { cls:=.type "list",data:=.seq its.toArray k }/\H7 D=none:=λ{σ' H7 s7} I7=>by
    have g:∀ b∈fp,∀ o,s4.heap.get? b=some o->s7.heap.get? b=some o/\H7 b=none:=λb hb o e=>by
     have z:=I7.pin (b,o) (List.mem_append_right _ (List.mem_append_right _ (jR hb e)))
     exact⟨z.1,z.2.1⟩
    refine⟨λb hb=>?_,λb hb o e=>(g b hb o e).1,(I7.pin (D,{ cls:=.type "list",data:=.seq its.toArray k }) (List.mem_append_right _ (by simp))).1,(I7.pin (D,{ cls:=.type "list",data:=.seq its.toArray k }) (List.mem_append_right _ (by simp))).2.1⟩
    obtain⟨o,e,_⟩:=T.obj _ _ st5 b hb
    exact (g b hb o e).2
   have hte:PTs X' ifs tt:=hX▸ht C s H fp
   have hee:PE X' elt te:=hX▸he C s H fp
   refine ev (thn (hte _ s6 _ H6 _ I6 q6) λb s7 ⟨H7,I7,q7⟩=>?_)
   cases b with
   | false =>
    rw [if_neg Bool.false_ne_true]
    rw [if_neg Bool.false_ne_true] at q7
    obtain⟨m',hm,w7⟩:=hNN _ _ q7
    obtain⟨g1,g2,g3,g4⟩:=fps I7
    exact⟨m',hm,i+1,zs,its,k,H7,back (σ':=[]) I7,T.keep _ _ _ st5 g2,g1,g3,v3,g4,z3,w7⟩
   | true =>
    rw [if_pos rfl]
    rw [if_pos rfl] at q7
    refine ev (thn (hee _ s7 _ H7 _ I7 q7) λu8 s8 ⟨v8,H8,I8,r8,q8⟩=>?_)
    obtain⟨m',hm,w8⟩:=hNN _ _ q8
    obtain⟨g1,g2,g3,g4⟩:=fps I8
    have hil:=v3.length
    refine call_meets F.slot_list_append ⟨_,g3,rfl⟩ F.entry_list_append (F.args_list_append_2 _ _) (PySem.list_append D its.toArray k u8 (by rw [List.size_toArray];omega)) ⟨g3,?_⟩
    have q:=PySem.IsL.update g3 (λa=>a.push u8)
    have ea:its.toArray.push u8=(its++[u8]).toArray:=by simp
    rw [ea] at q
    have kk:∀ b o,b≠D->s8.heap.get? b=some o->(s8.heap.update D (Obj.mapSeq λa=>a.push u8)).get? b=some o:=λb o hb e=>(Heap.get?_update_other _ _ (Ne.symm hb)).trans e
    have I9:Inv X' [] (nones xs++yK js Z) H8 { s8 with heap:=s8.heap.update D (Obj.mapSeq λa=>a.push u8),toks:=s8.toks }:=by
     refine (back (σ':=[]) I8).turned kk g4 (by rw [eL];exact hDC) (.inr (by rw [eS];omega)) (λy c e=>Nat.ne_of_lt (cellLt y c e)) λp hp=>?_
     rw [ePn] at hp
     exact absurd hp (by simp)
    refine⟨m',hm,i+1,zs++[v8],its++[u8],_,H8,I9,T.keep _ _ _ st5 (λb hb o e=>kk b o (Nat.ne_of_lt (fplt b hb)) (g2 b hb o e)),g1,q,v3.append (.cons r8 .nil),g4,?_,w8⟩
    rw [List.length_append,List.length_singleton]
    omega
 rw [eE] at loop
 exact codeAny_compStart_list loop (T.self _ 0 _ _ _ (T.keep _ _ _ st (λb hb o e=>old b o e)) loop)
theorem zaN (S:Zg X.env.scope scope xs X.N ys js) (hc:X.calm=true) (hi:PI X tg iter wi) (hg:∀ C s₀ H₀ ex,PG (cxC X (xs++ys) scope C s₀ H₀ ex) tg g) (ht:∀ C s₀ H₀ ex,PTs (cxC X (xs++ys) scope C s₀ H₀ ex) ifs tt) (he:∀ C s₀ H₀ ex,PE (cxC X (xs++ys) scope C s₀ H₀ ex) elt te)
  (hs:∀ x,foldedSetIterable iter X.env x=pure x:=by intro _;rfl):PE X (.ListComp elt [⟨tg,iter,ifs,0⟩] scope pos) (zdN wi xs js g tt te):=by
 intro pins s Z H Q I h
 rw [eval_ListComp]
 refine wpAny_comprehension_free (use:=none) rfl hs (uf λy hy e=>I.ok.has _ (S.free y hy e)) S.kind S.loc (thn (hi pins s Z H _ I h) λv s1 h1=>thn h1 λitv s2 h2=>?_)
 obtain⟨it,fp,tn,J,H2,e,I2,T,st2,f2,hw⟩:=h2
 subst e
 refine Vp (Q:=Q) (R:=λacc C=>compPost (model X.prog X.w) X.A X.xe none (EP X pins Z Q) acc C) S hc hg ht he I2 T st2 f2 hw ?_
 intro D C s' H' m' I' q hC hn hns
 refine⟨m',hns,λh' hs'=>⟨.ref D,H',?_,rfl,q⟩⟩
 have e:=I2.fpOk hC hn
 exact I'.turned (t':=s'.toks) (λb o hb e=>(hs'.2 b hb).trans e) hn e.2.1 e.2.2.2.1 e.2.2.2.2.1 e.2.2.2.2.2
theorem Vt {i:Nat} {y:Str} {py spos:Pos} (S:Zg X.env.scope scope xs X.N ys js) (hc:X.calm=true) (hN:X.N.Nodup) (hy:X.N[i]?=some y) (hl:Loc X.env.scope y) (hi:PI X tg iter wi) (hg:∀ C s₀ H₀ ex,PG (cxC X (xs++ys) scope C s₀ H₀ ex) tg g) (ht:∀ C s₀ H₀ ex,PTs (cxC X (xs++ys) scope C s₀ H₀ ex) ifs tt) (he:∀ C s₀ H₀ ex,PE (cxC X (xs++ys) scope C s₀ H₀ ex) elt te)
  (hf:X.fn y=true\/X.env.scope.names.lookup y=some .local:=by first | exact .inl rfl | exact .inr rfl | assumption)
  (hsw:swapsWith (.ListComp elt [⟨tg,iter,ifs,0⟩] scope pos) (some (.Name y py)) spos.line X.env=pure true:=by rfl)
  (hs:∀ x,foldedSetIterable iter X.env x=pure x:=by intro _;rfl):PS X (.Assign [.Name y py] (.ListComp elt [⟨tg,iter,ifs,0⟩] scope pos) spos) (zd3 (zdN wi xs js g tt te) (Vn i)):=by
 intro pins s Z H D I h
 rw [exec_Assign_Name_used _ _ _ _ hsw]
 refine wpAny_bind (wpAny_standAt (wpAny_bind ?_))
 show wpAny _ X.A (do let _ <- comprehension (.ListComp elt [⟨tg,iter,ifs,0⟩] scope pos) scope X.env _ (newList []) false (eval iter X.env) (some (assign (.Name y py) X.env))) _ _ s
 refine wpAny_bind (wpAny_mono (wpAny_comprehension_free (use:=some (assign (.Name y py) X.env)) (Q:=λ_ s'=>SP X pins D .next s') rfl hs (uf λy hy e=>I.ok.has _ (S.free y hy e)) S.kind S.loc
  (thn (hi pins s Z H _ I h) λv s1 h1=>thn h1 λitv s2 h2=>?_)) (λ_ s' hq=>wpAny_pure (wpAny_pure hq)) λ_ _ e=>e)
 obtain⟨it,fp,tn,J,H2,e,I2,T,st2,f2,hw⟩:=h2
 subst e
 refine Vp (Q:=λv H'=>Vn i v Z H' D.nx) (R:=λacc C=>compPost (model X.prog X.w) X.A X.xe (some (assign (.Name y py) X.env)) (λ_ s'=>SP X pins D .next s') acc C) S hc hg ht he I2 T st2 f2 hw ?_
 intro Da C s' H' m' I' q hC hn hns
 have e:=I2.fpOk hC hn
 show wpAny _ X.A (assign (.Name y py) X.env (.ref Da)) _ _ _
 refine wpAny_assign_Name (Xl I' hN hy hl (show RelV (.ref Da) (.ref Da) from rfl) (λs2' I3 ⟨a,sb,ha⟩=>?_) hf)
 have hCa:C≠a:=by
  rcases ha with z | z
  ·rw [z];exact e.2.1
  ·intro w;exact e.2.2.2.2.1 _ _ z w.symm
 refine⟨m',hns.sameBut sb hCa,λh' hs'=>⟨_,H',?_,q⟩⟩
 exact I3.turned (t':=s2'.toks) (λb o hb e=>(hs'.2 b hb).trans e) hn e.2.1 e.2.2.2.1 e.2.2.2.2.1 e.2.2.2.2.2
end
theorem Jw {X:Cx} (K:W.Frag) {es:List Expr} {k:Nat} {t:TGs} {pos:Pos} (n:Nat) (hc:X.calm=true) (h:PGs X es t) (e:X.K=K:=by rfl)
  (hn:(assignEach es X.env).length=n:=by rfl) (hst:(assignEach es X.env).findIdx? (·.1)=none:=by rfl):PG X (.Tuple es k pos) (zgx K n t):=by subst e;exact J3 hc h hn hst
theorem wy {X:Cx} (K:W.Frag) {e:Expr} {f:Str} {pos:Pos} {ta:TE} (he:PE X e ta) (hb:attributeBase e f X.env (eval e X.env)=eval e X.env:=by rfl) (ek:X.K=K:=by rfl):PE X (.Attribute e f pos) (zgX K ta f):=by subst ek;exact zf5 he hb
structure Mt (K:W.Frag) (C:Addr) (q x:Str) (st:Stmt) (ps:List Str) (f:Addr) (fd:FuncData):Prop where
 fn:Fun K x q st f fd
 b:Binds K fd ps []
 m:Meth K C x f
theorem Y0 {X:Cx} {C:Addr} {q x:Str} {st:Stmt} {ps:List Str} {f:Addr} {fd:FuncData} {k:Nat} {sp:Sp} {o e:Expr} {es:List Expr} {ta:TE} {t:TA} {apos pos:Pos} {pl:Sem Bool} (D:Mt X.K C q x st ps f fd) (c:Cls X.K C) (G:FnOk X.prog X.w X.K X.mg X.base CX0 k f fd ps sp) (hr:Room k X.A) (he:PE X o ta) (ha:PA X (e :: es) t)
  (hst:starEach (e :: es) X.env=(false,eval e X.env) :: starEach es X.env:=by rfl) (hpl:(backTo pos (starEach es X.env)).any (·.1)=false:=by rfl)
  (ht:eval (.Call (.Attribute o x apos) (e :: es) [] pos) X.env=(do
   let ov <- eval o X.env
   standAt apos.atName
   let (f,first) <- holding [ov] (getMethod ov x pl)
   callWith pos f first (backTo pos (starEach (e :: es) X.env)) (backToKw pos (keywordEach [] X.env))):=by rfl):PE X (.Call (.Attribute o x apos) (e :: es) [] pos) (zfg C x sp [] E0 ta t) :=
 zeT he c D.m G hr D.b .nil zaF ha hst hpl ht
structure Vh (mg:Str->Option Value):Prop where
 n_sum:mg "sum" = none
 n_abs:mg "abs" = none
 n_zip:mg "zip" = none
 n_str:mg "str" = none
section
variable {X:Cx} {tg:Expr}
end
theorem Inv.turned2 {X:Cx} {pins:List (Addr×Obj)} {Z:St} {H:Hp} {s:Shared} {h':Heap} {e it T:Addr} {o:HO} {t':Nat} (I:Inv X pins Z H s) (k:∀ b o,b≠e->b≠it->s.heap.get? b=some o->h'.get? b=some o) (fe:YD X pins H e) (fi:YD X pins H it) (hT:s.heap.objs.size<=T)
  (new:ObjOk X.prog X.w (upd H T o) h' T o):Inv X pins Z (upd H T o) { s with heap:=h',toks:=t' }:=by
 have hn:H T=none:=I.hok.fresh hT
 have na:∀ b u,H b=some u->b≠T:=λb u e z=>by rw [z,hn] at e;cases e
 have ne:∀ b u,H b=some u->b≠e:=λb u q z=>by rw [z,fe.1] at q;cases q
 have ni:∀ b u,H b=some u->b≠it:=λb u q z=>by rw [z,fi.1] at q;cases q
 have k':∀ b o,b∉[e,it]->s.heap.get? b=some o->h'.get? b=some o:=λb o hb q=>k b o (λz=>hb (by simp [z])) (λz=>hb (by simp [z])) q
 refine I.step (g':=s.gens) (d':=s.drawn) (ch:=[e,it]) (λb hb=>?_) (λb o _ _ hc q _=>k' b o hc q) (λb o _ _ hc q _=>⟨o.slots,k' b o hc q⟩) (λb o hc q n=>by rw [zq (Nat.ne_of_lt (Nat.lt_of_lt_of_le (Heap.lt_size q) hT))];exact n)
  (λb o hc q=>⟨o,k' b o hc q⟩) (λb xs q=>by rw [zq (na b _ q)];exact q) (λb o u q=>by rw [zq (na b _ q)];exact q) (λb ps q=>⟨#[],by rw [zq (na b _ q),q];simp⟩) (λm hm=>?_) (λb u q=>?_) I.bare
 ·rcases List.mem_cons.mp hb with z | hb
  ·subst z;exact⟨fe.2.2.2.1,fe.2.1,fe.2.2.2.2.1,fe.2.2.2.2.2⟩
  ·have z:b=it:=by simpa using hb
   subst z;exact⟨fi.2.2.2.1,fi.2.1,fi.2.2.2.2.1,fi.2.2.2.2.2⟩
 ·obtain⟨o,es,ep,ho,r⟩:=hm
  exact⟨o,es,ep,k _ o (Ne.symm fe.2.1) (Ne.symm fi.2.1) ho,r⟩
 ·by_cases hb:b=T
  ·subst hb
   rw [zf] at q
   cases q
   exact new
  ·rw [zq hb] at q
   refine (I.hok b u q).stay (λc v hc z=>k c v ?_ ?_ z) (λc z=>by rw [zq (na c _ z)];exact z) λc xs z=>by rw [zq (na c _ z)];exact z
   ·rcases hc with rfl | hc
    ·exact ne _ _ q
    ·exact ne _ _ hc
   ·rcases hc with rfl | hc
    ·exact ni _ _ q
    ·exact ni _ _ hc
def Ite (K:W.Frag) (a:Addr):It :=
 ⟨λi H=>∃ xs x,SqL K H a xs/\xs[i]?=some x,λi H v H'=>∃ T x,v=.ref T/\H T=none/\H'=upd H T (.tup [.int (i:Nat),x])/\∀ xs,SqL K H a xs->xs[i]?=some x,λi H=>∃ xs,SqL K H a xs/\xs.length<=i⟩
theorem zcC {P:Program} {w:World} {K:W.Frag} {elts:List Expr} {k:Nat} {tp:Pos} (a e it:Addr) (hei:e≠it):Turn P w K (.Tuple elts k tp) (Ite K a) [e,it] e (λi h=>(∃ old,IsEnum h e it i old)/\h.IsListIter it a i) where
 mem:=by simp
 obj:=λi h st b hb=>by
  obtain⟨⟨old,he⟩,o,hi,c,d⟩:=st
  rcases List.mem_cons.mp hb with z | hb
  ·subst z
   exact⟨_,he,λv z=>by
    have z':Data.fields _=Data.cell v:=z
    cases z'⟩
  ·have z:b=it:=by simpa using hb
   subst z
   exact⟨o,hi,λv z=>by rw [d] at z;cases z⟩
 keep:=λi h h' st k=>by
  obtain⟨⟨old,he⟩,hi⟩:=st
  exact⟨⟨old,k e (by simp) _ he⟩,hi.at λo q=>k it (by simp) o q⟩
 item:=by
  intro X hP hw hK hc i pins s Z H E I hf st hg
  subst hP hw hK
  obtain⟨xs,x,hq,hx⟩:=hg
  obtain⟨its,rv,p,hz⟩:=I.list hq
  obtain⟨u,hu,ru⟩:=rv.get hx
  obtain⟨⟨old,he⟩,hi⟩:=st
  refine wpAny_pyNext_enum_item he hi p.isList (x:=u) (by simpa using hu) hei λh' ho hi' hT hsz hk=>?_
  refine⟨_,rfl,?_⟩
  refine wpAny_letOwnedTupleGo_enum (s:={ s with heap:=h',toks:=s.toks+1 }) ho λh'' he' hs'=>?_
  have helt:e<s.heap.objs.size:=Heap.lt_size he
  have hT2:h''.get? s.heap.objs.size=some { cls:=.type "tuple",data:=.seq #[.int i s.toks,u] }:=(hs'.2 _ (Nat.ne_of_gt helt)).trans hT
  have fe:=hf e (by simp)
  have fi:=hf it (by simp)
  have I1:Inv X pins Z (upd H s.heap.objs.size (.tup [.int (i:Nat),x])) { s with heap:=h'',toks:=s.toks+1 }:=by
   refine I.turned2 (λb o hb1 hb2 q=>(hs'.2 b hb1).trans (hk b o hb1 hb2 q)) fe fi (Nat.le_refl _) ⟨by show 2<=sizeLine;decide,[.int i s.toks,u],.cons ⟨_,rfl⟩ (.cons ru .nil),_,hT2,rfl,0,rfl⟩
  refine⟨.ref s.heap.objs.size,_,I1,rfl,⟨s.heap.objs.size,x,rfl,I.hok.fresh (Nat.le_refl _),rfl,λys hy=>by rw [I.list_inj hy hq];exact hx⟩,⟨⟨_,by simpa using he'⟩,hi'.at λo q=>(hs'.2 it (Ne.symm hei)).trans q⟩,λb hb=>?_⟩
  have hbl:b<s.heap.objs.size:=by
   rcases List.mem_cons.mp hb with z | hb
   ·rw [z];exact helt
   ·have z:b=it:=by simpa using hb
    obtain⟨o,q,_⟩:=hi
    rw [z];exact Heap.lt_size q
  rw [zq (Nat.ne_of_lt hbl)]
  exact (hf b hb).1
 done:=by
  intro X hP hw hK hc i pins s Z H E I hf st hg
  subst hP hw hK
  obtain⟨xs,hq,hx⟩:=hg
  obtain⟨its,rv,p,hz⟩:=I.list hq
  obtain⟨⟨old,he⟩,hi⟩:=st
  obtain⟨f0,f1,f2,f3,f4,f5⟩:=hf it (by simp)
  have hl:=rv.length
  exact wpAny_pyNext_enum_end (I.ok.hd hc) he hi p.isList (by simp;omega) λh' eb=>⟨rfl,I.turned (t':=s.toks) (λb o hb q=>eb b o hb q) f0 f1 f3 f4 f5⟩
 self:=λ_ _ _ _ _ st h=>by
  obtain⟨⟨old,he⟩,_⟩:=st
  exact wpAny_pyIter_enum he h
section
variable {X:Cx}
def zgR (K:W.Frag) (tl:TA):TI:=λZ H R=>tl Z H λvs H1=>∃ a,vs=[.ref a]/\(∃ xs,SqL K H1 a xs)/\R (Ite K a) H1
theorem V7 (K:W.Frag) {elts:List Expr} {k:Nat} {tp:Pos} {a:Expr} {ta:TA} {p pos:Pos} (hg:Gl X "enumerate") (hm:X.mg "enumerate" = none) (ha:PA X [a] ta) (hs:starEach [a] X.env=[(false,eval a X.env)]:=by rfl) (ek:X.K=K:=by rfl) :
  PI X (.Tuple elts k tp) (.Call (.Name "enumerate" p) [a] [] pos) (zgR K ta):=by
 subst ek
 intro pins s Z H R I h
 refine Call_ (jm I hg hm boot_enumerate (PyProof.Rows.callWith_type1 (thn (ha pos pins s Z H _ I h) λus s1 ⟨vs,H1,I1,r1,q1⟩=>?_) (by rw [hs];rfl) (by rfl)))
 obtain⟨l,e,⟨xs,hq⟩,q⟩:=q1
 subst e
 cases r1 with
 | cons r rr =>
  cases rr
  cases r
  obtain⟨its,rv,pl,hz⟩:=I1.list hq
  refine call_enumerate_list pl.isList λh' he hi hsz hk=>?_
  refine wpAny_pyIter_enum (s:={ s1 with heap:=h' }) he ?_
  have I2:Inv X pins Z H1 { s1 with heap:=h' }:=I1.kept (t':=s1.toks) λb o q=>hk b o q
  refine⟨s1.heap.objs.size+1,[s1.heap.objs.size+1,s1.heap.objs.size],_,_,H1,rfl,I2,zcC l _ _ (Nat.succ_ne_self _),⟨⟨_,he⟩,hi⟩,λb hb=>?_,q⟩
  have hb2:s1.heap.objs.size<=b:=by
   rcases List.mem_cons.mp hb with z | hb
   ·rw [z];exact Nat.le_succ _
   ·have z:b=s1.heap.objs.size:=by simpa using hb
    rw [z];exact Nat.le_refl _
  exact I1.fpOk hb2 (I1.hok.fresh hb2)
theorem UJ {K:W.Frag} {a:Addr} {xs:List V} {g:TG} {tb:TS} {D:Ends} {Z:St} {H:Hp} (Pv:Nat->St->Hp->Prop) (h0:Pv 0 Z H) (hl:∀ i Z H,i<=xs.length->Pv i Z H->SqL K H a xs)
  (hs:∀ i x Z H T,xs[i]?=some x->Pv i Z H->H T=none->g (.ref T) Z (upd H T (.tup [.int (i:Nat),x])) fun σ2 H2=>tb { D with nx:=Pv (i+1),ct:=Pv (i+1),bk:=D.nx } σ2 H2) (hd:∀ Z H,Pv xs.length Z H->D.nx Z H) :
  ∃ W:Nat->Nat->St->Hp->Prop,(∃ m,W 0 m Z H)/\∀ i m Z H,W i m Z H ->
   ((Ite K a).stop i H/\D.nx Z H)\/((Ite K a).go i H/\∃ N:St->Hp->Prop,(∀ σ' H',N σ' H'->∃ m',m'<m/\W (i+1) m' σ' H')/\∀ x H',(Ite K a).yld i H x H'->g x Z H' fun σ2 H2=>tb { D with nx:=N,ct:=N,bk:=D.nx } σ2 H2):=by
 refine⟨λi m Z H=>m=xs.length-i/\i<=xs.length/\Pv i Z H,⟨xs.length,by simp,Nat.zero_le _,h0⟩,?_⟩
 rintro i m Z H ⟨rfl,hi,p⟩
 have q:=hl i Z H hi p
 by_cases hlt:i<xs.length
 ·have hx:xs[i]?=some xs[i]:=List.getElem?_eq_getElem hlt
  refine .inr ⟨⟨xs,xs[i],q,hx⟩,Pv (i+1),fun σ' H' p'=>⟨xs.length-(i+1),by omega,rfl,hlt,p'⟩,λv H' y=>?_⟩
  obtain⟨T,x,rfl,hT,rfl,hy⟩:=y
  have e2:=hy xs q
  rw [hx] at e2
  cases e2
  exact hs i xs[i] Z H T hx p hT
 ·have e:i=xs.length:=by omega
  subst e
  exact .inl ⟨⟨xs,q,Nat.le_refl _⟩,hd Z H p⟩
def zbL (te:TE):TE:=λZ H Q=>te Z H λx H1=>∃ n:Nat,x=.int n/\n<=1000/\∀ q,H1 q=none->Q (.ref q) (upd H1 q (.lst ((List.range n).map λ(c:Nat)=>V.int c)))
theorem zbU:∀ {n:Nat} {its:List Value},its.length=n->(∀ (i:Nat) v,its[i]?=some v->∃ t,v=Value.int (0+(i:Int)*1) t)->Vals ((List.range n).map λ(c:Nat)=>V.int c) its:=by
 intro n its hl h
 have key:∀ (k:Nat) (its:List Value),(∀ (i:Nat) v,its[i]?=some v->∃ t,v=Value.int ((k:Int)+(i:Int)) t)->Vals ((List.range' k its.length).map λ(c:Nat)=>V.int c) its:=by
  intro k its
  induction its generalizing k with
  | nil=>intro _;exact .nil
  | cons x l ih =>
   intro h
   rw [List.length_cons,List.range'_succ,List.map_cons]
   refine .cons ?_ (ih (k+1) λi v e=>?_)
   ·obtain⟨t,e⟩:=h 0 x rfl
    exact⟨t,by rw [e];simp⟩
   ·obtain⟨t,e'⟩:=h (i+1) v (by simpa using e)
    exact⟨t,by rw [e'];congr 1;omega⟩
 subst hl
 rw [List.range_eq_range']
 exact key 0 its λi v e=>by
  obtain⟨t,e'⟩:=h i v e
  exact⟨t,by rw [e'];congr 1;omega⟩
theorem zap {e:Expr} {te:TE} {p1 p2 pos1 pos2:Pos} (hc:X.calm=true) (hg1:Gl X "list") (hm1:X.mg "list" = none) (hg2:Gl X "range") (hm2:X.mg "range" = none) (he:PE X e te)
  (hs:starEach [e] X.env=[(false,eval e X.env)]:=by rfl) (hs2:starEach [.Call (.Name "range" p2) [e] [] pos2] X.env=[(false,eval (.Call (.Name "range" p2) [e] [] pos2) X.env)]:=by rfl) :
  PE X (.Call (.Name "list" p1) [.Call (.Name "range" p2) [e] [] pos2] [] pos1) (zbL te):=by
 intro pins s Z H Q I h
 refine wpAny_Call_Name_kw (jm I hg1 hm1 boot_list ?_)
 refine PyProof.Rows.callWith_type1 ?_ hs2 rfl
 rw [hs2]
 show wpAny _ _ (spliced ((false,eval (.Call (.Name "range" p2) [e] [] pos2) X.env) :: backTo pos1 [])) _ _ s
 refine Calls.spliced_cons ?_
 refine wpAny_Call_Name_kw (jm I hg2 hm2 boot_range ?_)
 refine PyProof.Rows.callWith_type1 ?_ hs rfl
 rw [hs]
 show wpAny _ _ (spliced ((false,eval e X.env) :: backTo pos2 [])) _ _ s
 refine Calls.spliced_cons (thn (he pins s Z H _ I h) λv s1 ⟨x,H1,I1,r1,q1⟩=>Calls.spliced_nil ?_)
 obtain⟨n,rfl,hn,q⟩:=q1
 obtain⟨t,rfl⟩:=r1
 refine call_range_1 (Calls.spliced_nil ?_)
 have hsz:Builtin.Range.rangeSize 0 (n:Int) 1=(n:Nat):=by rw [rangeSize_one];split<;>omega
 refine call_list_range (n:=n) (I1.ok.hd hc) (IsRange.new ..) (small_one (by decide) (by decide) (by omega) (by omega)) hsz (Nat.le_trans hn (by decide)) λh' tk acc' c' hk hS hacc=>?_
 simp only [Heap.size_push] at hS ⊢
 have kept:∀ b o,s1.heap.get? b=some o->h'.get? b=some o:=λb o e=>hk b o (Heap.get?_push_of_some _ e)
 have rv:Vals ((List.range n).map λ(c:Nat)=>V.int c) acc'.toList:=zbU (by rw [Array.length_toList];exact hacc.1) λi v e=>hacc.2 i v (by rw [<- Array.getElem?_toList];exact e)
 have hokL:=I1.laid (a:=s1.heap.objs.size+1) (o:=.lst ((List.range n).map λ(c:Nat)=>V.int c)) (h':=h') (t':=tk) kept (Nat.le_succ _) ⟨by rw [List.length_map,List.length_range];exact Nat.le_trans hn (by decide),acc'.toList,c',rv,by rw [hS]⟩
 exact⟨.ref _,_,hokL,rfl,q _ (I1.hok.fresh (Nat.le_succ _))⟩
end
def CMulB (i j:Int):Prop:=i.natAbs<2^100000/\j.natAbs<2^100000
theorem zb1 {X:Cx}:OpR X (binaryOp .Mult) (rI CMulB λi j=>.int (i*j)):=opI λi j _ _ _ _ _ hc q=>by
 have h:(100000:Nat)<=2^20:=by decide
 exact mul_int q (IntMulOk.of_bits (Nat.le_trans (intBits_le hc.1) h) (Nat.le_trans (intBits_le hc.2) h))
theorem CMulB.nat {i j k l:Nat} (h1:i<2^k) (h2:j<2^l) (hk:k<=100000) (hl:l<=100000):CMulB (i:Int) (j:Int) :=
 ⟨by rw [Int.natAbs_natCast];exact Nat.lt_of_lt_of_le h1 (Nat.pow_le_pow_right (Nat.le_succ 1) hk),by rw [Int.natAbs_natCast];exact Nat.lt_of_lt_of_le h2 (Nat.pow_le_pow_right (Nat.le_succ 1) hl)⟩
end L2
namespace HT
open PySem PyProof.Rows
section
open PySem.SeqAt
open PySem.AutoSeq1 (wpAny_loadPart')
open PySem.MeetsSeq PySem.MeetsSeq2 PySem.MeetsSeq3 PySem.SeqRoads2
theorem zcf {vs:List Value} {ns:List Int} (h:IntsAre vs ns) {i:Nat} (hi:i<ns.length):∃ t,vs[i]?=some (.int (ns[i]) t):=by
 induction h generalizing i with
 | nil=>simp at hi
 | cons a t h ih =>
  cases i with
  | zero=>exact⟨t,rfl⟩
  | succ i =>
   obtain⟨t',e⟩:=ih (i:=i) (by simpa using hi)
   exact⟨t',by simpa using e⟩
theorem zeB (l b:Addr) (items items2:Array Value) (n n2:Nat) (dd dd2:Option Addr) (sl sl2:Array (Option Value)) (ns ms:List Int) (hi:IntsAre items.toList ns) (hj:IntsAre items2.toList ms) (k:Nat) :
  ∀ i:Nat,ns.length-i=k->i<=ns.length->i<=ms.length->Meets (Builtin.«list.__eq__.loop» ⟨[.ref l,.ref b,rawInt i,rawInt 0],[]⟩)
   (λ_ R s=>s.heap.get? l=some { cls:=.type "list",dict:=dd,data:=.seq items n,slots:=sl }/\s.heap.get? b=some { cls:=.type "list",dict:=dd2,data:=.seq items2 n2,slots:=sl2 } /\
    R (.ok (.ret (.bool (lexLt (ns.drop i) (ms.drop i))))) s):=by
 have z1:items.size=ns.length:=by rw [<- hi.length];simp
 have z2:items2.size=ms.length:=by rw [<- hj.length];simp
 induction k with
 | zero =>
  intro i hk h1 h2 prog w A R s h
  obtain⟨hp,g,d,tk,os⟩:=s;obtain⟨hl,hb,h⟩:=h
  have hin:i=ns.length:=by omega
  wp_walk using wpAny_loadPart' hl,wpAny_loadPart' hb
  have hi1:items[((i:Nat):Int).toNat]?=none:=by simp;omega
  have hd:ns.drop i=[]:=by simp;omega
  rw [hd] at h
  rw [hi1]
  wp_walk using wpAny_loadPart' hl,wpAny_loadPart' hb
  show R (.ok (.ret (.bool (decide (items.size<items2.size))))) _
  have e:lexLt [] (ms.drop i)=decide (items.size<items2.size):=by
   cases q:ms.drop i with
   | nil =>
    rw [XF]
    have:ms.length<=i:=by simpa using List.drop_eq_nil_iff.mp q
    exact (decide_eq_false (by omega)).symm
   | cons x y =>
    rw [Uk]
    have:i<ms.length:=by
     by_cases z:i<ms.length
     ·exact z
     ·rw [List.drop_of_length_le (by omega)] at q;cases q
    exact (decide_eq_true (by omega)).symm
  rw [<- e]
  exact h
 | succ k ih =>
  intro i hk h1 h2 prog w A R s h
  obtain⟨hp,g,d,tk,os⟩:=s;obtain⟨hl,hb,h⟩:=h
  have hlt:i<ns.length:=by omega
  obtain⟨t,et⟩:=zcf hi hlt
  have hi1:items[((i:Nat):Int).toNat]?=some (.int (ns[i]) t):=by simpa using et
  by_cases hm:i<ms.length
  ·obtain⟨u,eu⟩:=zcf hj hm
   have hi2:items2[((i:Nat):Int).toNat]?=some (.int (ms[i]) u):=by simpa using eu
   wp_walk using wpAny_loadPart' hl,wpAny_loadPart' hb
   rw [List.drop_eq_getElem_cons hlt,List.drop_eq_getElem_cons hm,qy] at h
   have hc:((i:Int)+1)=((i+1:Nat):Int):=by push_cast;rfl
   rw [hi1,hi2]
   obtain⟨e,he,hiff⟩:=zeh A.in1 ⟨hp,g,d,tk,os⟩ (ns[i]) t (ms[i]) u
   refine wpAny_bind (he prog w _ _ ?_)
   cases e with
   | true =>
    rw [if_pos (hiff.mp rfl)] at h
    wp_walk
    rw [hc]
    exact⟨plainId_quiet plain_eq_loop _,codeAny_builtin entry_eq_loop (by
     rw [Around.under_plainId plain_eq_loop _]
     exact ih (i+1) (by omega) (by omega) (by omega) prog w A R _ ⟨hl,hb,h⟩)⟩
   | false =>
    rw [if_neg (λq=>absurd (hiff.mpr q) Bool.false_ne_true)] at h
    have hri:=zaG A.in1 ⟨hp,g,d,tk,os⟩ (ns[i]) t (ms[i]) u prog w
    wp_walk using wpAny_loadPart' hl,wpAny_loadPart' hb
    rw [hi1,hi2]
    wp_walk using hri
    simpa using h
  ·have hi2:items2[((i:Nat):Int).toNat]?=none:=by simp;omega
   wp_walk using wpAny_loadPart' hl,wpAny_loadPart' hb
   rw [List.drop_eq_getElem_cons hlt,List.drop_of_length_le (show ms.length<=i by omega),uZ] at h
   rw [hi1,hi2]
   wp_walk using wpAny_loadPart' hl,wpAny_loadPart' hb
   show R (.ok (.ret (.bool (decide (items.size<items2.size))))) _
   rw [decide_eq_false (by omega)]
   exact h
theorem J7 (l b:Addr) (items items2:Array Value) (n n2:Nat) (dd dd2:Option Addr) (sl sl2:Array (Option Value)) (ns ms:List Int) (hi:IntsAre items.toList ns) (hj:IntsAre items2.toList ms) :
  Meets (Builtin.«list.__lt__» ⟨[.ref l,.ref b],[]⟩)
   (λ_ R s=>s.heap.get? l=some { cls:=.type "list",dict:=dd,data:=.seq items n,slots:=sl }/\s.heap.get? b=some { cls:=.type "list",dict:=dd2,data:=.seq items2 n2,slots:=sl2 } /\
    R (.ok (.ret (.bool (lexLt ns ms)))) s):=by
 intro prog w A R s h
 obtain⟨hp,g,d,tk,os⟩:=s;obtain⟨hl,hb,h⟩:=h
 have f3:=AutoSeq1.sub_list_list
 wp_walk using wpAny_loadPart' hl,wpAny_loadPart' hb
 exact⟨plainId_quiet plain_eq_loop _,codeAny_builtin entry_eq_loop (by
  rw [Around.under_plainId plain_eq_loop _]
  exact zeB l b items items2 n n2 dd dd2 sl sl2 ns ms hi hj _ 0 rfl (Nat.zero_le _) (Nat.zero_le _) prog w A R _ ⟨hl,hb,by simpa using h⟩)⟩
end
section
variable {prog:Program} {w:World} {A:Around} {E:Value->Shared->Prop} {s:Shared}
theorem Vz {l b:Addr} {items items2:Array Value} {ns ms:List Int} {Q:Value->Shared->Prop} (hl:s.heap.IsList l items) (hb:s.heap.IsList b items2) (hi:IntsAre items.toList ns) (hj:IntsAre items2.toList ms)
  (hu:A.units<cLine) (h:Q (.bool (lexLt ns ms)) s):wpAny (model prog w) A (richCompare .Lt (.ref l) (.ref b)) Q E s:=by
 obtain⟨⟨cls,dd,data,sl⟩,ho,hc,n,hd⟩:=id hl
 obtain⟨⟨cls2,dd2,data2,sl2⟩,ho2,hc2,n2,hd2⟩:=id hb
 simp only at hc hd hc2 hd2
 subst hc hd hc2 hd2
 exact richCompare_meets_room (op:=.Lt) ⟨_,ho,rfl⟩ ⟨_,ho2,rfl⟩ PySem.F.slot_list_lt PySem.F.entry_list_lt (PySem.F.args_list_lt_2 _ _) (J7 l b items items2 n n2 dd dd2 sl sl2 ns ms hi hj)
  ⟨ho,ho2,show Value.bool (lexLt ns ms)≠Value.notImplemented/\Q (.bool (lexLt ns ms)) s from ⟨(λx=>nomatch x),h⟩⟩ hu
end
open PySem PyProof.Rows PySem.W
def kin {α:Type} (n:Nat):KasT α->Bool
 | .ret _=>true
 | .ask i j k=>decide (i<n) && decide (j<n) && kin n (k true) && kin n (k false)
def tab (b:Nat->Nat->Bool) (i j:Nat):Bool:=if i<j then b i j else if j<i then !b j i else false
theorem jD:∀ a:List Int,lexLt a a=false
 | []=>rfl
 | x :: a=>by rw [qy,if_pos rfl,jD a]
theorem Wm:∀ a b:List Int,a≠b->lexLt b a=!lexLt a b
 | [],[],h=>absurd rfl h
 | [],_ :: _,_=>rfl
 | _ :: _,[],_=>rfl
 | x :: a,y :: b,h=>by
  rw [qy,qy]
  by_cases e:x=y
  ·subst e
   rw [if_pos rfl,if_pos rfl]
   exact Wm a b λz=>h (by rw [z])
  ·rw [if_neg e,if_neg (Ne.symm e),Bool.eq_iff_iff]
   simp
   omega
theorem Zi:∀ a b c:List Int,lexLt a b=true->lexLt b c=true->lexLt a c=true
 | [],[],_,h,_=>by rw [XF] at h;cases h
 | [],_ :: _,[],_,h=>by rw [uZ] at h;cases h
 | [],_ :: _,_ :: _,_,_=>rfl
 | _ :: _,[],_,h,_=>by rw [uZ] at h;cases h
 | _ :: _,_ :: _,[],_,h=>by rw [uZ] at h;cases h
 | x :: a,y :: b,z :: c,h1,h2=>by
  rw [qy] at h1 h2 ⊢
  by_cases e1:x=y
  ·subst e1
   rw [if_pos rfl] at h1
   by_cases e2:x=z
   ·subst e2
    rw [if_pos rfl] at h2 ⊢
    exact Zi a b c h1 h2
   ·rw [if_neg e2] at h2 ⊢;exact h2
  ·rw [if_neg e1] at h1
   have h1':=of_decide_eq_true h1
   by_cases e2:y=z
   ·subst e2
    rw [if_neg e1];exact h1
   ·rw [if_neg e2] at h2
    have h2':=of_decide_eq_true h2
    rw [if_neg (show x≠z by omega)]
    exact decide_eq_true (by omega)
end HT
namespace L2
open PySem PySem.Spec PyProof.Rows
section
variable {X:Cx}
def zhs (K:W.Frag):R2:=λx y H Q=>∃ (a b:Addr) (ns ms:List Int),x=.ref a/\y=.ref b/\SqL K H a (ns.map V.int)/\SqL K H b (ms.map V.int)/\Q (.bl (HT.lexLt ns ms)) H
theorem zgt (K:W.Frag) (hu:X.A.units+64<cLine) (e:X.K=K:=by rfl):OpR X (compareOp .Lt) (zhs K):=by
 subst e
 intro pins s Z H x y v u Q I rx ry h
 obtain⟨a,b,ns,ms,rfl,rfl,ha,hb,q⟩:=h
 cases rx
 cases ry
 obtain⟨its,r1,p1,_⟩:=I.list ha
 obtain⟨its2,r2,p2,_⟩:=I.list hb
 exact HT.Vz p1.isList p2.isList (intsAre_of r1) (intsAre_of r2) (by omega) ⟨.bl (HT.lexLt ns ms),H,I,rfl,q⟩
end
end L2
namespace HT
open PySem PyProof.Rows PySem.W
def KW {α:Type} (c:Nat->Nat->Bool) (n:Nat):KasT α->(α->Prop)->Prop
 | .ret a,Q=>Q a
 | .ask i j k,Q=>i<n/\j<n/\KW c n (k (c i j)) Q
theorem KW.bind {α β:Type} {c:Nat->Nat->Bool} {n:Nat} {f:α->KasT β} {Q:β->Prop}:∀ {t:KasT α},KW c n t (λa=>KW c n (f a) Q)->KW c n (t.bind f) Q
 | .ret _,h=>h
 | .ask _ _ k,h=>⟨h.1,h.2.1,KW.bind (t:=k _) h.2.2⟩
theorem KW.mono {α:Type} {c:Nat->Nat->Bool} {n:Nat} {Q Q':α->Prop} (hq:∀ a,Q a->Q' a):∀ {t:KasT α},KW c n t Q->KW c n t Q'
 | .ret a,h=>hq a h
 | .ask _ _ k,h=>⟨h.1,h.2.1,KW.mono hq (t:=k _) h.2.2⟩
theorem KW.wp {α:Type} {n:Nat} {c:Nat->Nat->Bool} {cmp:Nat->Nat->(Bool->Shared->Prop)->Shared->Prop} {s:Shared} {Q:α->Prop} (hc:∀ i j C,i<n->j<n->C (c i j) s->cmp i j C s) :
  ∀ t:KasT α,KW c n t Q->t.kasWp cmp (λa s'=>s'=s/\Q a) s
 | .ret _,h=>⟨rfl,h⟩
 | .ask i j k,h=>hc i j _ h.1 h.2.1 (KW.wp hc (k (c i j)) h.2.2)
structure Ord (c:Nat->Nat->Bool) (n:Nat):Prop where
 tr:∀ i j k,i<n->j<n->k<n->c i j=true->c j k=true->c i k=true
 tot:∀ i j,i<n->j<n->i≠j->c i j=false->c j i=true
 asy:∀ i j,i<n->j<n->c i j=true->c j i=false
structure Pm (n:Nat) (p:Array Nat):Prop where
 sz:p.size=n
 pm:p.toList.Perm (List.range n)
theorem Pm.lt {n:Nat} {p:Array Nat} (h:Pm n p) (i:Nat) (hi:i<n):p.getD i 0<n:=by
 have hs:=h.sz
 have e:p.getD i 0=p[i]:=by simp [Array.getD,hs,hi]
 rw [e]
 exact List.mem_range.mp (h.pm.mem_iff.mp (by simp))
theorem Pm.ne {n:Nat} {p:Array Nat} (h:Pm n p) {i j:Nat} (hi:i<n) (hj:j<n) (hij:i≠j):p.getD i 0≠p.getD j 0:=by
 have hs:=h.sz
 have e1:p.getD i 0=p.toList[i]'(by simp [hs,hi]):=by simp [Array.getD,hs,hi]
 have e2:p.getD j 0=p.toList[j]'(by simp [hs,hj]):=by simp [Array.getD,hs,hj]
 rw [e1,e2]
 have nd:p.toList.Nodup:=h.pm.nodup_iff.mpr List.nodup_range
 intro z
 exact hij ((List.getElem_inj nd).mp z)
theorem Pm.of {n:Nat} {p q:Array Nat} (h:Pm n p) (z:q.Perm p):Pm n q:=⟨by rw [z.size_eq];exact h.sz,(Array.perm_iff_toList_perm.mp z).trans h.pm⟩
def Up (c:Nat->Nat->Bool) (p:Array Nat) (m:Nat):Prop:=∀ i j,i<j->j<m->c (p.getD i 0) (p.getD j 0)=true
def Dn (c:Nat->Nat->Bool) (p:Array Nat) (m:Nat):Prop:=∀ i j,i<j->j<m->c (p.getD j 0) (p.getD i 0)=true
section
variable {c:Nat->Nat->Bool} {n:Nat}
theorem zbY (O:Ord c n) {p:Array Nat} (hp:Pm n p):∀ (f m:Nat),1<=m->m+f<=n->Up c p m->KW c n (kas_asc p f m) (λr=>m<=r/\r<=m+f/\Up c p r/\(r<m+f->c (p.getD r 0) (p.getD (r-1) 0)=true))
 | 0,m,_,_,u=>⟨Nat.le_refl _,Nat.le_refl _,u,λz=>absurd z (Nat.lt_irrefl _)⟩
 | f+1,m,h1,h2,u=>by
  refine⟨hp.lt m (by omega),hp.lt (m-1) (by omega),?_⟩
  cases e:c (p.getD m 0) (p.getD (m-1) 0) with
  | true=>exact⟨Nat.le_refl _,by omega,u,λ_=>e⟩
  | false =>
   have hs:c (p.getD (m-1) 0) (p.getD m 0)=true:=O.tot _ _ (hp.lt m (by omega)) (hp.lt (m-1) (by omega)) (hp.ne (by omega) (by omega) (by omega)) e
   have u':Up c p (m+1):=λi j hij hj=>by
    by_cases hjm:j<m
    ·exact u i j hij hjm
    ·have ej:j=m:=by omega
     subst ej
     by_cases hi:i=j-1
     ·rw [hi];exact hs
     ·exact O.tr _ _ _ (hp.lt i (by omega)) (hp.lt (j-1) (by omega)) (hp.lt j (by omega)) (u i (j-1) (by omega) (by omega)) hs
   refine KW.mono (λr h=>?_) (zbY O hp f (m+1) (by omega) (by omega) u')
   exact⟨by omega,by omega,h.2.2.1,λz=>h.2.2.2 (by omega)⟩
theorem zct (O:Ord c n) {p:Array Nat} (hp:Pm n p):∀ (f m:Nat),1<=m->m+f<=n->Dn c p m->KW c n (kas_desc f p m 0) (λr=>r.1=p/\r.2.2=0/\m<=r.2.1/\r.2.1<=m+f/\Dn c p r.2.1)
 | 0,m,_,_,u=>⟨rfl,rfl,Nat.le_refl _,Nat.le_refl _,u⟩
 | f+1,m,h1,h2,u=>by
  refine⟨hp.lt m (by omega),hp.lt (m-1) (by omega),?_⟩
  cases e:c (p.getD m 0) (p.getD (m-1) 0) with
  | true =>
   have u':Dn c p (m+1):=λi j hij hj=>by
    by_cases hjm:j<m
    ·exact u i j hij hjm
    ·have ej:j=m:=by omega
     subst ej
     by_cases hi:i=j-1
     ·rw [hi];exact e
     ·exact O.tr _ _ _ (hp.lt j (by omega)) (hp.lt (j-1) (by omega)) (hp.lt i (by omega)) e (u i (j-1) (by omega) (by omega))
   refine KW.mono (λr h=>?_) (zct O hp f (m+1) (by omega) (by omega) u')
   exact⟨h.1,h.2.1,by omega,by omega,h.2.2.2.2⟩
  | false =>
   have hs:c (p.getD (m-1) 0) (p.getD m 0)=true:=O.tot _ _ (hp.lt m (by omega)) (hp.lt (m-1) (by omega)) (hp.ne (by omega) (by omega) (by omega)) e
   refine⟨hp.lt (m-1) (by omega),hp.lt m (by omega),?_⟩
   rw [hs]
   exact⟨rfl,rfl,Nat.le_refl _,(show m<=m+(f+1) by omega),u⟩
theorem rev_getD {p:Array Nat} {m:Nat} (hm:m<=p.size) (k:Nat):(kas_rev p 0 m).getD k 0=if k<m then p.getD (m-1-k) 0 else p.getD k 0:=by
 have q:=getElem?_mirror_all (xs:=p) (i:=0) hm k
 have e:∀ (a:Array Nat) (j:Nat),a.getD j 0=(a[j]?).getD 0:=λa j=>by simp [Array.getD_eq_getD_getElem?]
 unfold kas_rev
 rw [e,q]
 by_cases h:k<m
 ·rw [if_pos ⟨Nat.zero_le _,h⟩,if_pos h,e,Nat.zero_add]
 ·rw [if_neg (by omega),if_neg h,e]
theorem zd2 (O:Ord c n) {p:Array Nat} (hp:Pm n p) {m:Nat} (h1:1<=m) (h2:m<=n) (u:Dn c p m):KW c n (kas_tail3 m n p) (λr=>1<=r.1/\r.1<=n/\Pm n r.2/\Up c r.2 r.1):=by
 have hr:Pm n (kas_rev p 0 m):=hp.of (mirror_perm _ _ _ _)
 have hsz:m<=p.size:=by rw [hp.sz];exact h2
 have u':Up c (kas_rev p 0 m) m:=λi j hij hj=>by
  rw [rev_getD hsz,rev_getD hsz,if_pos (by omega),if_pos hj]
  exact u _ _ (by omega) (by omega)
 refine KW.bind (KW.mono (λr h=>?_) (zbY O hr (n-m) m h1 (by omega) u'))
 exact⟨by omega,by omega,hr,h.2.2.1⟩
theorem zdM (O:Ord c n) {p:Array Nat} (hp:Pm n p) (h2:2<=n):KW c n (kas_count n p) (λr=>1<=r.1/\r.1<=n/\Pm n r.2/\Up c r.2 r.1):=by
 refine KW.bind (KW.mono (λr h=>?_) (zbY O hp (n-1) 1 (Nat.le_refl _) (by omega) (λi j hij hj=>by omega)))
 obtain⟨h1,h3,u,st⟩:=h
 by_cases e:r=n
 ·subst e
  rw [if_pos (by simp)]
  exact⟨h1,Nat.le_refl _,hp,u⟩
 ·rw [if_neg (by simpa using e)]
  by_cases hr:r>1
  ·rw [if_pos hr]
   refine⟨hp.lt 0 (by omega),hp.lt (r-1) (by omega),?_⟩
   rw [u 0 (r-1) (by omega) (by omega)]
   exact⟨h1,by omega,hp,u⟩
  ·rw [if_neg hr]
   have er:r=1:=by omega
   subst er
   have s1:=st (by omega)
   have d:Dn c p 2:=λi j hij hj=>by
    have ei:i=0:=by omega
    have ej:j=1:=by omega
    subst ei;subst ej
    exact s1
   refine KW.bind (KW.mono (λr h=>?_) (zct O hp (n-2) 2 (by omega) (by omega) d))
   obtain⟨a1,a2,a3,a4,a5⟩:=h
   obtain⟨q,m,z⟩:=r
   simp only at a1 a2 a3 a4 a5
   subst a1;subst a2
   show KW c n (if 0>0 then _ else _) _
   rw [if_neg (Nat.lt_irrefl 0)]
   exact zd2 O hp (show 1<=m by omega) (show m<=n by omega) a5
theorem UT (O:Ord c n) {p:Array Nat} (hp:Pm n p) {k:Nat} (hk:k<n) (u:Up c p k):∀ (f l r:Nat),l<=r->r<=k->r-l<=f->(∀ i,i<l->c (p.getD i 0) (p.getD k 0)=true)->(∀ i,r<=i->i<k->c (p.getD k 0) (p.getD i 0)=true) ->
  KW c n (kas_place p k f l r) (λl=>l<=k/\(∀ i,i<l->c (p.getD i 0) (p.getD k 0)=true)/\(∀ i,l<=i->i<k->c (p.getD k 0) (p.getD i 0)=true))
 | 0,l,r,h1,h2,h3,lo,hi=>⟨by omega,lo,λi a b=>hi i (by omega) b⟩
 | f+1,l,r,h1,h2,h3,lo,hi=>by
  unfold kas_place
  by_cases hlr:l>=r
  ·rw [if_pos hlr]
   exact⟨by omega,lo,λi a b=>hi i (by omega) b⟩
  ·rw [if_neg hlr]
   have hm:(l+r) / 2<k:=by omega
   refine⟨hp.lt k hk,hp.lt _ (by omega),?_⟩
   cases e:c (p.getD k 0) (p.getD ((l+r) / 2) 0) with
   | true =>
    dsimp only
    rw [if_pos rfl]
    refine UT O hp hk u f l ((l+r) / 2) (by omega) (by omega) (by omega) lo λi a b=>?_
    by_cases ei:i=(l+r) / 2
    ·rw [ei];exact e
    ·exact O.tr _ _ _ (hp.lt k hk) (hp.lt _ (by omega)) (hp.lt i (by omega)) e (u _ _ (by omega) b)
   | false =>
    dsimp only
    rw [if_neg Bool.false_ne_true]
    have hs:c (p.getD ((l+r) / 2) 0) (p.getD k 0)=true:=O.tot _ _ (hp.lt k hk) (hp.lt _ (by omega)) (hp.ne hk (by omega) (by omega)) e
    refine UT O hp hk u f ((l+r) / 2+1) r (by omega) h2 (by omega) (λi a=>?_) hi
    by_cases ei:i=(l+r) / 2
    ·rw [ei];exact hs
    ·exact O.tr _ _ _ (hp.lt i (by omega)) (hp.lt _ (by omega)) (hp.lt k hk) (u _ _ (by omega) (by omega)) hs
theorem zbe {p:Array Nat} {k l:Nat} (hk:k<p.size) (hl:l<=k) (i:Nat):(bubble p k (k-l)).getD i 0=if i=l then p.getD k 0 else if l<i/\i<=k then p.getD (i-1) 0 else p.getD i 0:=by
 have q:=getElem?_bubble hk (k-l) (by omega) i
 have e:∀ (a:Array Nat) (j:Nat),a.getD j 0=(a[j]?).getD 0:=λa j=>by simp [Array.getD_eq_getD_getElem?]
 rw [show k-(k-l)=l by omega] at q
 rw [e,e p k,e p (i-1),e p i,q]
 split
 ·rfl
 ·split
  ·rfl
  ·rfl
theorem zdB (O:Ord c n):∀ (f:Nat) {p:Array Nat} {k:Nat},Pm n p->1<=k->k+f=n->Up c p k->KW c n (kas_bin f p k) (λq=>Pm n q/\Up c q n)
 | 0,p,k,hp,h1,h2,u=>by
  have:k=n:=by omega
  subst this
  exact⟨hp,u⟩
 | f+1,p,k,hp,h1,h2,u=>by
  refine KW.bind (KW.mono (λl h=>?_) (UT O hp (show k<n by omega) u k 0 k (Nat.zero_le _) (Nat.le_refl _) (by omega) (λi hi=>by omega) (λi a b=>by omega)))
  obtain⟨hlk,lo,hi⟩:=h
  have hks:k<p.size:=by rw [hp.sz];omega
  refine zdB O f (hp.of (bubble_perm _ _ _)) (by omega) (by omega) λi j hij hj=>?_
  rw [zbe hks hlk,zbe hks hlk]
  by_cases hi1:i=l
  ·rw [if_pos hi1,if_neg (by omega),if_pos (by omega)]
   exact hi _ (by omega) (by omega)
  ·rw [if_neg hi1]
   by_cases hi2:l<i/\i<=k
   ·rw [if_pos hi2,if_neg (by omega),if_pos (by omega)]
    exact u _ _ (by omega) (by omega)
   ·rw [if_neg hi2]
    by_cases hj1:j=l
    ·rw [if_pos hj1]
     exact lo _ (by omega)
    ·rw [if_neg hj1]
     by_cases hj2:l<j/\j<=k
     ·rw [if_pos hj2]
      exact u _ _ (by omega) (by omega)
     ·rw [if_neg hj2]
      exact u _ _ (by omega) (by omega)
theorem zfr (O:Ord c n) (h2:2<=n):KW c n (kas_sort n) (λp=>Pm n p/\Up c p n):=by
 have h0:Pm n (List.toArray (List.range n)):=⟨by simp,by simp⟩
 refine KW.bind (KW.mono (λr h=>?_) (zdM O h0 h2))
 obtain⟨h1,h3,hp,u⟩:=h
 by_cases hr:r.1<n
 ·rw [if_pos hr,Nat.max_eq_left h1]
  exact zdB O _ hp h1 (by omega) u
 ·rw [if_neg hr]
  have:r.1=n:=by omega
  rw [this] at u
  exact⟨hp,u⟩
end
section
variable {prog:Program} {w:World} {A:Around} {E:Value->Shared->Prop} {s:Shared}
theorem Ji {α:Type} (d:α) (zs:List α) {p:List Nat} (h:p.Perm (List.range zs.length)):(p.map λi=>zs.getD i d).Perm zs:=by
 have e:(List.range zs.length).map (λi=>zs.getD i d)=zs:=by
  apply List.ext_getElem?
  intro i
  rw [List.getElem?_map]
  by_cases hi:i<zs.length
  ·rw [List.getElem?_range hi,Option.map_some,List.getD_eq_getElem?_getD,List.getElem?_eq_getElem hi];rfl
  ·rw [List.getElem?_eq_none (by simpa using hi),List.getElem?_eq_none (by omega)];rfl
 have q:=h.map λi=>zs.getD i d
 rw [e] at q
 exact q
end
end HT
namespace L2
open PySem PySem.Spec PyProof.Rows
section
variable {X:Cx}
theorem Jl:∀ {zs:ZB} {its:List Value},Vals (zs.map λz=>V.ref z.1) its->its=zs.map λz=>Value.ref z.1
 | [],its,h=>by cases h;rfl
 | z :: zs,its,h=>by
  cases h with
  | cons r t=>rw [Jl t];cases r;rfl
theorem W5:∀ (zs:ZB),Vals (zs.map λz=>V.ref z.1) (zs.map λz=>Value.ref z.1)
 | []=>.nil
 | z :: zs=>.cons rfl (W5 zs)
end
section
variable {κ:Type} [DecidableEq κ]
def wQ (kvs:List (κ×V)) (k:κ):Option V:=(kvs.find? λkv=>decide (kv.1=k)).map (·.2)
def putK (kvs:List (κ×V)) (k:κ) (v:V):List (κ×V) :=
 if (kvs.any λkv=>decide (kv.1=k))=true then kvs.map (λkv=>if kv.1=k then (kv.1,v) else kv) else kvs++[(k,v)]
theorem wk {p:κ×V} {r:List (κ×V)} {k:κ} (e:p.1=k):wQ (p :: r) k=some p.2:=by simp [wQ,List.find?_cons,e]
theorem ww {p:κ×V} {r:List (κ×V)} {k:κ} (e:¬ p.1=k):wQ (p :: r) k=wQ r k:=by simp [wQ,List.find?_cons,e]
theorem qY (k:κ):∀ kvs:List (κ×V),(kvs.any λkv=>decide (kv.1=k))=(wQ kvs k).isSome
 | []=>rfl
 | p :: r=>by
  rw [List.any_cons]
  by_cases e:p.1=k
  ·simp only [wk e,decide_eq_true e,Bool.true_or,Option.isSome_some]
  ·rw [ww e,decide_eq_false e,Bool.false_or];exact qY k r
theorem zaC (k j:κ) (y:V):∀ kvs:List (κ×V),wQ (kvs.map λkv=>if kv.1=k then (kv.1,y) else kv) j=(wQ kvs j).map λx=>if j=k then y else x
 | []=>rfl
 | p :: r=>by
  have ih:=zaC k j y r
  rw [List.map_cons]
  by_cases h:p.1=k
  ·rw [if_pos h]
   by_cases e:p.1=j
   ·rw [wk (p:=(p.1,y)) e,wk e,Option.map_some,if_pos (e.symm.trans h)]
   ·rw [ww (p:=(p.1,y)) e,ww e,ih]
  ·rw [if_neg h]
   by_cases e:p.1=j
   ·rw [wk (p:=p) e,wk e,Option.map_some,if_neg (λz=>h (e.trans z))]
   ·rw [ww (p:=p) e,ww e,ih]
theorem Ja (k j:κ) (y:V):∀ kvs:List (κ×V),wQ kvs k=none->wQ (kvs++[(k,y)]) j=if j=k then some y else wQ kvs j
 | [],_=>by
  by_cases e:k=j
  ·rw [if_pos e.symm];exact wk (p:=(k,y)) e
  ·rw [if_neg (λz=>e z.symm)];exact ww (p:=(k,y)) e
 | p :: r,hn=>by
  rw [List.cons_append]
  have hk:¬ p.1=k:=λz=>by rw [wk z] at hn;cases hn
  rw [ww hk] at hn
  have ih:=Ja k j y r hn
  by_cases e:p.1=j
  ·rw [wk e,wk e,if_neg (λz=>hk (e.trans z))]
  ·rw [ww e,ww e,ih]
theorem za7 (kvs:List (κ×V)) (k j:κ) (y:V):wQ (putK kvs k y) j=if j=k then some y else wQ kvs j:=by
 unfold putK
 by_cases a:(kvs.any λkv=>decide (kv.1=k))=true
 ·rw [if_pos a,zaC]
  rw [qY] at a
  by_cases e:j=k
  ·obtain⟨x,hx⟩:=Option.isSome_iff_exists.mp a
   rw [if_pos e,e,hx,Option.map_some,if_pos rfl]
  ·rw [if_neg e]
   cases wQ kvs j with
   | none=>rfl
   | some x=>rw [Option.map_some,if_neg e]
 ·rw [if_neg a]
  refine Ja k j y kvs ?_
  rw [qY] at a
  cases q:wQ kvs k with
  | none=>rfl
  | some x=>rw [q] at a;exact (a rfl).elim
theorem Zj (kvs:List (κ×V)) (k:κ) (v:V):(putK kvs k v).length<=kvs.length+1:=by
 unfold putK
 split
 ·rw [List.length_map];omega
 ·rw [List.length_append,List.length_cons,List.length_nil];omega
theorem Xd {kvs:List (κ×V)} {k:κ} (v:V) (h:wQ kvs k=none):putK kvs k v=kvs++[(k,v)]:=by
 unfold putK
 rw [qY,h]
 exact if_neg (by decide)
theorem RelO.isSome_eq {o:Option V} {u:Option Value} (r:RelO o u):o.isSome=u.isSome:=by
 cases o with
 | none=>cases u with
  | none=>rfl
  | some _=>exact (show False from r).elim
 | some _=>cases u with
  | none=>exact (show False from r).elim
  | some _=>rfl
theorem RelO.getD {o:Option V} {u:Option Value} {d:V} {d':Value} (r:RelO o u) (rd:RelV d d'):RelV (o.getD d) (u.getD d'):=by
 cases o with
 | none=>cases u with
  | none=>exact rd
  | some _=>exact (show False from r).elim
 | some _=>cases u with
  | none=>exact (show False from r).elim
  | some _=>exact r
theorem KV.any {kvs:List (κ×V)} {vs:List (κ×Value)} (r:KV kvs vs) (k:κ):(kvs.any λkv=>decide (kv.1=k))=vs.any λkv=>decide (kv.1=k):=by
 unfold KV at r
 induction r with
 | nil=>rfl
 | cons h t ih=>rw [List.any_cons,List.any_cons,ih,h.1]
theorem KV.repl {kvs:List (κ×V)} {vs:List (κ×Value)} (r:KV kvs vs) (k:κ) {y:V} {u:Value} (ry:RelV y u) :
  KV (kvs.map λkv=>if kv.1=k then (kv.1,y) else kv) (vs.map λkv=>if kv.1=k then (kv.1,u) else kv):=by
 unfold KV at r ⊢
 induction r with
 | nil=>exact .nil
 | @cons p q ps qs h t ih =>
  rw [List.map_cons,List.map_cons]
  refine .cons ?_ ih
  obtain⟨h1,h2⟩:=h
  by_cases e:p.1=k
  ·rw [if_pos e,if_pos (h1.symm.trans e)];exact⟨h1,ry⟩
  ·rw [if_neg e,if_neg (λz=>e (h1.trans z))];exact⟨h1,h2⟩
theorem KV.put {kvs:List (κ×V)} {vs:List (κ×Value)} (r:KV kvs vs) (k:κ) {y:V} {u:Value} (ry:RelV y u):KV (putK kvs k y) (stored vs k u):=by
 unfold putK stored
 rw [r.any k]
 by_cases e:(vs.any λkv=>decide (kv.1=k))=true
 ·rw [if_pos e,if_pos e];exact r.repl k ry
 ·rw [if_neg e,if_neg e];exact Paired.snoc r ⟨rfl,ry⟩
theorem KV.length {kvs:List (κ×V)} {vs:List (κ×Value)} (r:KV kvs vs):kvs.length=vs.length:=Paired.length r
end
theorem zfs {P:Program} {w:World} {k:Key} {u:Value} (r:RelV (kV k) u):(yF P w).is k u=true:=by
 cases k with
 | inl i=>obtain⟨t,e⟩:=(show ∃ t,u=Value.int i t from r);subst e;exact zaO P w i t
 | inr x=>obtain⟨t,e⟩:=(show ∃ t,u=Value.str x t from r);subst e;exact zas P w x t
theorem Vl {P:Program} {w:World}:∀ {ks:List Key} {us:List Value},Vals (ks.map kV) us->ItemsAre (yF P w) ks us
 | [],_,r=>by rw [List.map_nil] at r;cases r;exact .nil
 | k :: ks,_,r=>by
  rw [List.map_cons] at r
  cases r with
  | cons h t=>exact .cons (zfs h) (Vl t)
abbrev KT (H:Hp):List (List Key×V)->List (List Key×Addr×Value)->Prop:=Paired λp q=>p.1=q.1/\H q.2.1=some (.tup (p.1.map kV))/\RelV p.2 q.2.2
theorem KT.val {H:Hp} {kvs:List (List Key×V)} {xs:List (List Key×Addr×Value)} (r:KT H kvs xs) (k:List Key):RelO (wQ kvs k) ((atKey xs k).map (·.2)):=by
 induction r with
 | nil=>exact True.intro
 | @cons p q ps qs h t ih =>
  obtain⟨h1,_,h2⟩:=h
  by_cases e:p.1=k
  ·have e':q.1=k:=h1.symm.trans e
   have b:atKey (q :: qs) k=some q.2:=by simp [atKey,List.find?_cons,e']
   rw [wk e,b];exact h2
  ·have e':¬ q.1=k:=λz=>e (h1.trans z)
   have b:atKey (q :: qs) k=atKey qs k:=by simp [atKey,List.find?_cons,e']
   rw [ww e,b];exact ih
theorem KT.repl {H:Hp} {kvs:List (List Key×V)} {xs:List (List Key×Addr×Value)} (r:KT H kvs xs) (k:List Key) {y:V} {u:Value} (ry:RelV y u) :
  KT H (kvs.map λkv=>if kv.1=k then (kv.1,y) else kv) (xs.map (putAt k u)):=by
 induction r with
 | nil=>exact .nil
 | @cons p q ps qs h t ih =>
  rw [List.map_cons,List.map_cons]
  refine .cons ?_ ih
  obtain⟨h1,h2,h3⟩:=h
  unfold putAt
  by_cases e:p.1=k
  ·rw [if_pos e,if_pos (h1.symm.trans e)];exact⟨h1,h2,ry⟩
  ·rw [if_neg e,if_neg (λz=>e (h1.trans z))];exact⟨h1,h2,h3⟩
theorem KT.put {H:Hp} {kvs:List (List Key×V)} {xs:List (List Key×Addr×Value)} (r:KT H kvs xs) (k:List Key) {b:Addr} {y:V} {u:Value} (hb:H b=some (.tup (k.map kV))) (ry:RelV y u) :
  KT H (putK kvs k y) (storedH xs k b u):=by
 have e:(kvs.any λkv=>decide (kv.1=k))=(atKey xs k).isSome:=by
  rw [qY,(r.val k).isSome_eq,Option.isSome_map]
 unfold putK storedH
 rw [e]
 by_cases q:(atKey xs k).isSome=true
 ·rw [if_pos q,if_pos q];exact r.repl k ry
 ·rw [if_neg q,if_neg q];exact Paired.snoc r ⟨rfl,hb,ry⟩
theorem KT.keeps {H H':Hp} {kvs:List (List Key×V)} {xs:List (List Key×Addr×Value)} (r:KT H kvs xs) (ht:∀ b ys,H b=some (.tup ys)->H' b=some (.tup ys)):KT H' kvs xs :=
 Paired.mapP r λ_ _ z=>⟨z.1,ht _ _ z.2.1,z.2.2⟩
section
variable {P:Program} {w:World} {H:Hp} {h:Heap} {a:Addr}
theorem zfl {u:HO} (ok:HOk P w H h) (e:Rd H a u):ObjOk P w H h a u:=e.ok ok
theorem zgk {kvs:List (Key×V)} (ok:HOk P w H h) (e:Rd H a (.dK kvs)):kvs.length<=sizeLine/\(a == sysModules)=false/\∃ vs,KV kvs vs/\h.DictOf (yF P w) a vs :=
 show ObjOk P w H h a (.dK kvs) from zfl ok e
theorem zgA {kvs:List (Key×V)} (ok:HOk P w H h) (e:H a=some (.dK kvs)):kvs.length<=sizeLine/\(a == sysModules)=false/\∃ vs,KV kvs vs/\h.DictOf (yF P w) a vs:=zgk ok (.inl e)
theorem zbF {ks:List Key} (ok:HOk P w H h) (e:H a=some (.tup (ks.map kV))):(tupleKind (yF P w)).is h ks a:=by
 obtain⟨_,its,r,o,h1,h2,n,h3⟩:=(show ObjOk P w H h a (.tup (ks.map kV)) from ok a _ e)
 exact⟨o,its.toArray,n,h1,h2,h3,by simpa using Vl r⟩
theorem zgp {kvs:List (List Key×V)} (ok:HOk P w H h) (e:Rd H a (.dT kvs)):kvs.length<=sizeLine/\(a == sysModules)=false /\
  ∃ xs,KT H kvs xs/\h.DictOfH (tupleKind (yF P w)) a xs:=by
 obtain⟨z,y,xs,r,o,es,ep,h1,h2,h3,h4,h5⟩:=(show ObjOk P w H h a (.dT kvs) from zfl ok e)
 refine⟨z,y,xs,r,o,es,ep,h1,h2,h3,h4,λx hx=>?_,h5⟩
 have all:∀ {l:List (List Key×V)} {m:List (List Key×Addr×Value)},KT H l m->∀ x∈m,(tupleKind (yF P w)).is h x.1 x.2.1:=by
  intro l m q
  induction q with
  | nil=>intro x hx;exact nomatch hx
  | @cons p q ps qs hq t ih =>
   intro x hx
   rcases List.mem_cons.mp hx with e | hx
   ·subst e
    exact zbF ok (by rw [<- hq.1];exact hq.2.1)
   ·exact ih x hx
 exact all r x hx
theorem zfm {kvs:List (List Key×V)} (ok:HOk P w H h) (e:H a=some (.dT kvs)):kvs.length<=sizeLine/\(a == sysModules)=false /\
  ∃ xs,KT H kvs xs/\h.DictOfH (tupleKind (yF P w)) a xs:=zgp ok (.inl e)
end
def DGet (H:Hp) (a:Addr) (y:V) (r:Option V):Prop :=
 (∃ kvs k,Rd H a (.dK kvs)/\y=kV k/\r=wQ kvs k)\/∃ kvs k b,Rd H a (.dT kvs)/\y=.ref b/\H b=some (.tup (k.map kV))/\r=wQ kvs k
def DPut (H:Hp) (a:Addr) (y v:V) (H':Hp):Prop :=
 (∃ kvs k,H a=some (.dK kvs)/\y=kV k/\kvs.length<sizeLine/\H'=upd H a (.dK (putK kvs k v))) \/
 ∃ kvs k b,H a=some (.dT kvs)/\y=.ref b/\H b=some (.tup (k.map kV))/\kvs.length<sizeLine/\H'=upd H a (.dT (putK kvs k v))
theorem DGet.k {H:Hp} {a:Addr} {kvs:List (Key×V)} {k:Key} (e:H a=some (.dK kvs)):DGet H a (kV k) (wQ kvs k):=.inl ⟨kvs,k,.inl e,rfl,rfl⟩
theorem DPut.k {H:Hp} {a:Addr} {kvs:List (Key×V)} {k:Key} {v:V} (e:H a=some (.dK kvs)) (hl:kvs.length<sizeLine):DPut H a (kV k) v (upd H a (.dK (putK kvs k v))):=.inl ⟨kvs,k,e,rfl,hl,rfl⟩
theorem DPut.t {H:Hp} {a b:Addr} {kvs:List (List Key×V)} {k:List Key} {v:V} (e:H a=some (.dT kvs)) (eb:H b=some (.tup (k.map kV))) (hl:kvs.length<sizeLine) :
  DPut H a (.ref b) v (upd H a (.dT (putK kvs k v))):=.inr ⟨kvs,k,b,e,rfl,eb,hl,rfl⟩
section
variable {X:Cx} {pins:List (Addr×Obj)} {Z:St} {H:Hp} {s:Shared} {a:Addr} {y v:V} {u r:Value} {o:Option V} {A:Around} {E:Value->Shared->Prop}
theorem Inv.big (I:Inv X pins Z H s):sysModules<s.heap.objs.size:=by
 have h:mainGlobals<s.heap.objs.size:=(I.mod.glob.keeps I.bk).lt
 exact Nat.lt_trans (by decide) h
theorem JQ {h':Heap} {t':Nat} {ob:HO} (I:Inv X pins Z H s) (mu:Mut (H a)) (hs:Heap.SameBut a s.heap h') (he:∃ q,h'.get? a=some q) (new:ObjOk X.prog X.w (upd H a ob) h' a ob) :
  Inv X pins Z (upd H a ob) { s with heap:=h',toks:=t' } :=
 I.write (x:=a) (e:=a) mu (.inl rfl) (λb q hb z=>(hs.2 b hb).trans z) he new
theorem zfL {P:Program} {w:World} {H':Hp} {h':Heap} {kvs:List (Key×V)} {vs:List (Key×Value)} (z:kvs.length<=sizeLine) (hd:(a == sysModules)=false) (rel:KV kvs vs) (dd:h'.DictOf (yF P w) a vs) :
  ObjOk P w H' h' a (.dK kvs):=⟨z,hd,vs,rel,dd⟩
theorem zcU {H':Hp} {Q:Unit->Shared->Prop} (hu:A.units+1<cLine) (I:Inv X pins Z H s) (g:DPut H a y v H') (ry:RelV y u) (rv:RelV v r) (h:∀ s',Inv X pins Z H' s'->Q () s') :
  wpAny (model X.prog X.w) A (setItem (.ref a) u r) Q E s:=by
 rcases g with ⟨kvs,k,e,ey,l,eH⟩ | ⟨kvs,k,b,e,ey,eb,l,eH⟩
 ·subst ey eH
  obtain⟨z,hd,vs,rel,dd⟩:=zgA I.hok e
  have hz:vs.length<=sizeLine:=by rw [<- rel.length];exact z
  have hl:(putK kvs k v).length<=sizeLine:=by have:=Zj kvs k v;omega
  refine wpAny_setItem_pairs (hsz:=hz) (zfs ry) dd λh' dd' hs=>h _ ?_
  have he:∃ q,h'.get? a=some q:=let ⟨q,_,_,hq,_⟩:=dd';⟨q,hq⟩
  exact JQ I (by rw [e];exact True.intro) hs he (zfL hl hd (rel.put k rv) dd')
 ·subst ey eH
  cases (show u=Value.ref b from ry)
  obtain⟨z,hd,xs,rel,dd⟩:=zfm I.hok e
  have hz:xs.length<=sizeLine:=by rw [<- Paired.length rel];exact z
  have hl:(putK kvs k v).length<=sizeLine:=by have:=Zj kvs k v;omega
  refine wpAny_setItem_heap (hsz:=hz) (tupleKind_room_in1 hu) (zbF I.hok eb) dd λh' dd' hs=>h _ ?_
  obtain⟨q,es,ep,hq,h2,h3,h4,_,h5⟩:=dd'
  refine JQ I (by rw [e];exact True.intro) hs ⟨q,hq⟩ ⟨hl,hd,_,(rel.put k eb rv).keeps λc ys ec=>?_,q,es,ep,hq,h2,h3,h4,h5⟩
  rw [zq (jO ec e (λz=>nomatch z))]
  exact ec
end
section
variable {X:Cx} {pins:List (Addr×Obj)} {Z:St} {H:Hp} {s:Shared} {a:Addr} {kvs:List (Key×V)} {k:Key} {u:Value} {A:Around} {E:Value->Shared->Prop}
end
def zgS (i:Expr):Prop:=∀ ov iv,subscripted i false ov iv=operate [ov,iv] (getItem ov iv)
theorem zeK {prog:Program} {w:World} {A:Around} {E:Value->Shared->Prop} {s:Shared} {env:Env} {value slice:Expr} {pos:Pos} {T id:String} {Q:Value->Shared->Prop}
  (hl:typeLookup (.type T) "__getitem__" = pure (some (.builtin id))) (hs:zgS slice)
  (h:wpAny (model prog w) A (eval value env) (λo s₁=>wpAny (model prog w) A (eval slice env) (λi s₂=>s₂.TypeIs o T/\wpAny (model prog w) A (getItem o i) Q E s₂) E s₁) E s) :
  wpAny (model prog w) A (eval (.Subscript value slice pos) env) Q E s:=by
 refine Subscript_ (wpAny_mono h (λo s₁ h₁=>wpAny_mono h₁ (λi s₂ h₂=>?_) λ_ _ x=>x) λ_ _ x=>x)
 obtain⟨hT,h₂⟩:=h₂
 unfold subscriptTail
 refine wpAny_bind ?_
 rw [getitemInPython_of_ne hT.not_modules]
 refine wpAny_bind (wpAny_specialOf hT hl ?_)
 have fin:wpAny (model prog w) A (subscripted slice false o i) (λr s₃=>wpAny (model prog w) A (letTemporaryGo value o r >>= λ_=>pure r) Q E s₃) E s₂:=by
  rw [hs o i]
  exact wpAny_operating (wpAny_mono h₂ (λr s₃ h₃=>wpAny_bind (wpAny_letTemporaryGo (wpAny_pure h₃))) λ_ _ x=>x)
 first
  | exact wpAny_pure (wpAny_bind fin)
  | exact wpAny_bind (wpAny_pure (wpAny_bind fin))
  | exact wpAny_bind fin
def zgg (td ty tv:TE):TS:=λD Z H=>tv Z H λv H1=>td Z H1 λx H2=>ty Z H2 λy H3=>∃ a H4,x=.ref a/\DPut H3 a y v H4/\D.nx Z H4
section
variable {X:Cx} {o i e value:Expr} {pos pos' tpos:Pos} {td ty tv:TE}
theorem zeD (hu:X.A.units+1<cLine) (ho:PE X o td) (hi:PE X i ty) (hv:PE X value tv) (hs:swapsWith value (some (.Subscript o i pos')) pos.line X.env=pure false) :
  PS X (.Assign [.Subscript o i pos'] value pos) (zgg td ty tv):=by
 intro pins s Z H D I h
 refine wpAny_Assign_Subscript (thn (hv pins s Z H _ I h) λr s1 ⟨v,H1,I1,rv,q1⟩=>thn (ho pins s1 Z H1 _ I1 q1) λu s2 ⟨x,H2,I2,rx,q2⟩=>thn (hi pins s2 Z H2 _ I2 q2) λiv s3 ⟨y,H3,I3,ry,a,H4,ex,g,q3⟩=>?_) hs
 subst ex
 obtain rfl:u=Value.ref a:=rx
 exact zcU hu I3 g ry rv λs4 I4=>⟨Z,H4,I4,q3⟩
end
theorem zdE {P:Program} {w:World} {H:Hp} (h:Heap) (hb:sysModules<h.objs.size):ObjOk P w H (h.push { cls:=.type "dict",data:=.dict #[] }) h.objs.size (.dT []) :=
 ⟨Nat.zero_le _,beq_eq_false_iff_ne.mpr (Ne.symm (Nat.ne_of_lt hb)),[],.nil,_,#[],0,Heap.get?_push_size _ rfl,⟨rfl,rfl,rfl⟩,rfl,rfl,List.nodup_nil⟩
def zfB:TE:=λ_ H Q=>∀ p,H p=none->Q (.ref p) (upd H p (.dT []))
section
variable {X:Cx} {pos:Pos}
theorem zdT:PE X (.Dict [] [] pos) zfB:=λpins s Z H Q I h =>
 wpAny_Dict_empty ⟨.ref s.heap.objs.size,_,I.laid (a:=s.heap.objs.size) (o:=.dT []) (t':=s.toks) (λ_ _ q=>Heap.get?_push_of_some _ q) (Nat.le_refl _) (zdE s.heap I.big),rfl,h _ (I.hok.fresh (Nat.le_refl _))⟩
end
structure M1 (X:Cx) (o:Expr) (m:Str) (apos:Pos) (e:Expr) (cpos:Pos):Prop where
 base:attributeBase o m X.env (eval o X.env)=eval o X.env
 few:((backTo cpos (starEach [e] X.env)).all (λx=>!x.1) && (backToKw cpos (keywordEach [] X.env)).all (λx=>x.1.isSome)
  && decide (([e]:List Expr).length+([]:List Keyword).length+(if ([]:List Keyword).isEmpty then 0 else 1)<30))=true
 line:(apos.endLine == cpos.line)=true
 trees:backTo cpos (starEach [e] X.env)=[(false,eval e X.env)]
section
variable {X:Cx} {pins:List (Addr×Obj)} {Z:St} {H:Hp} {s:Shared} {a:Addr} {y d:V} {u r:Value} {o:Option V} {A:Around} {E:Value->Shared->Prop}
end
section
variable {X:Cx} {o e f:Expr} {apos cpos:Pos} {td ty tx:TE}
end
section
variable {X:Cx} {pins:List (Addr×Obj)} {Z:St} {H:Hp} {s:Shared} {a:Addr} {kvs:List (Key×V)} {A:Around} {E:Value->Shared->Prop}
end
section
variable {X:Cx} {pins:List (Addr×Obj)} {Z:St} {H:Hp} {s:Shared} {a:Addr} {y:V} {u:Value} {A:Around} {E:Value->Shared->Prop}
end
section
variable {X:Cx}
end
section
variable {κ:Type} [DecidableEq κ]
theorem zbb {kvs:List (κ×V)} {k:κ} (h:wQ kvs k=none):¬ k∈kvs.map (·.1):=by
 intro m
 obtain⟨p,hp,e⟩:=List.mem_map.mp m
 have q:(kvs.any λkv=>decide (kv.1=k))=true:=List.any_eq_true.mpr ⟨p,hp,decide_eq_true e⟩
 rw [qY,h] at q
 exact absurd q (by simp)
theorem zcx:∀ {l:List κ} {k:κ},l.Nodup->¬ k∈l->(l++[k]).Nodup
 | [],k,_,_=>by simp
 | a :: r,k,h,hk=>by
  obtain⟨h1,h2⟩:=List.nodup_cons.mp h
  show (a :: (r++[k])).Nodup
  refine List.nodup_cons.mpr ⟨λm=>?_,zcx h2 λm=>hk (List.mem_cons.mpr (Or.inr m))⟩
  rcases List.mem_append.mp m with q | q
  ·exact h1 q
  ·exact hk (List.mem_cons.mpr (Or.inl (List.mem_singleton.mp q).symm))
theorem zck {kvs:List (κ×V)} {k:κ} (v:V) (hn:(kvs.map (·.1)).Nodup) (h:wQ kvs k=none):((putK kvs k v).map (·.1)).Nodup:=by
 rw [Xd v h,List.map_append]
 exact zcx hn (zbb h)
end
end L2
namespace HT
open PySem PyProof.Rows PySem.W
section
variable {prog:Program} {w:World} {A:Around} {E:Value->Shared->Prop} {s:Shared}
theorem zbG {a:Addr} {vs:List Value} {n0:Nat} {κ:SortKind} {c:Nat->Nat->Bool} {P:PySem.Fin->Shared->Prop} (ho:s.heap.get? a=some (seqObj "list" vs.toArray n0)) (h60:vs.length<=60) (O:Ord c vs.length)
  (hkind:∀ G:Heap,(∀ b o,b≠a->s.heap.get? b=some o->G.get? b=some o)->2<=vs.length->∀ Q:SortKind->Shared->Prop,Q κ { s with heap:=G }->wpAny (model prog w) A (keyKind' vs.toArray) Q E { s with heap:=G })
  (hcmp:∀ G:Heap,(∀ b o,b≠a->s.heap.get? b=some o->G.get? b=some o)->∀ i j (C:Bool->Shared->Prop),i<vs.length->j<vs.length->C (c i j) { s with heap:=G }->kas_ask prog w A κ vs i j C { s with heap:=G })
  (h:∀ p:List Nat,p.Perm (List.range vs.length)->p.Pairwise (λi j=>c i j=true)->P (.done (.ret .none)) { s with heap:=sortedHeap s.heap a vs (p.map λi=>vs.getD i Value.none).toArray }) :
  wpAny (model prog w) A (Builtin.«list.sort» ⟨[.ref a],[]⟩) P E s:=by
 rw [list_sort_plain]
 have hsl:vs.length<=sizeLine:=Nat.le_trans h60 (by decide)
 have ha:a<s.heap.objs.size:=Heap.lt_size ho
 obtain⟨e1,ho1⟩:∃ e1,(s.heap.update a (Obj.mapSeq λ_=>#[])).get? a=some (seqObj "list" #[] e1):=⟨_,get?_update_seq ho (λ_=>#[])⟩
 refine wpAny_bind (listItems_at ho rfl (wpAny_bind (listUpdate_at ho rfl (wpAny_bind (seqEpoch_at ho1 rfl (wpAny_bind (wpAny_newTuple (wpAny_bind (wpAny_newList (wpAny_holding ?_) (Nat.zero_le _))) (by show vs.length<=_;exact hsl))))) (by rw [List.size_toArray];exact hsl) (Nat.zero_le _))))
 generalize hG:(((s.heap.update a (Obj.mapSeq λ_=>(#[]:Array Value))).push (seqObj "tuple" vs.toArray 0)).push (seqObj "list" #[] 0))=G
 have ho6:G.get? a=some (seqObj "list" #[] e1):=by
  rw [<- hG,Heap.get?_push_ne _ _ _ (by rw [size_push',Heap.size_update];exact Nat.ne_of_lt (Nat.lt_succ_of_lt ha)),Heap.get?_push_ne _ _ _ (by rw [Heap.size_update];exact Nat.ne_of_lt ha)];exact ho1
 have keep:∀ b o,b≠a->s.heap.get? b=some o->G.get? b=some o:=λb o hb e=>by
  have hlt:=Heap.lt_size e
  rw [<- hG,Heap.get?_push_ne _ _ _ (by rw [size_push',Heap.size_update];exact Nat.ne_of_lt (Nat.lt_succ_of_lt hlt)),Heap.get?_push_ne _ _ _ (by rw [Heap.size_update];exact Nat.ne_of_lt hlt),Heap.get?_update_other _ _ (Ne.symm hb)];exact e
 show wpAny (model prog w) A _ P E { s with heap:=G }
 dsimp only
 have e2:∀ out:Array Value,G.update a (Obj.mapSeq λ_=>out)=sortedHeap s.heap a vs out:=λout=>by rw [<- hG];rfl
 by_cases h2:vs.toArray.size<2
 ·rw [if_pos h2,if_pos h2]
  refine wpAny_bind (wpAny_pure ?_)
  rw [StateT.run_pure]
  refine wpAny_bind (wpAny_pure ?_)
  dsimp only
  rw [List.size_toArray] at h2
  have hout:(arrOf (SortSt.mk' general' (vs.toArray.zip vs.toArray) #[] 7 none)).map (·.2)=((List.range vs.length).map λi=>vs.getD i Value.none).toArray:=by
   show ((vs.toArray.zip vs.toArray).map (·.2))=_
   apply Array.toList_inj.mp
   rw [Array.toList_map,Array.toList_zip,List.map_snd_zip (by simp)]
   apply List.ext_getElem?
   intro i
   rw [List.getElem?_map]
   by_cases hi:i<vs.length
   ·rw [List.getElem?_range hi,Option.map_some,List.getD_eq_getElem?_getD,List.getElem?_eq_getElem hi];rfl
   ·rw [List.getElem?_eq_none (by simpa using hi),List.getElem?_eq_none (by simpa using hi)];rfl
  rw [hout]
  refine wpAny_bind (seqEpoch_at ho6 rfl (wpAny_bind (listUpdate_at ho6 rfl ?_ (Nat.zero_le _) (by rw [List.size_toArray,List.length_map,List.length_range];exact Nat.le_succ_of_le hsl))))
  simp only [bne_self_eq_false,Bool.false_eq_true,if_false]
  rw [e2]
  refine wpAny_pure (h _ (List.Perm.refl _) ?_)
  rw [List.pairwise_iff_getElem]
  intro i j hi hj hij
  rw [List.length_range] at hj
  omega
 ·rw [if_neg h2,if_neg h2]
  rw [List.size_toArray] at h2
  refine wpAny_bind (hkind G keep (by omega) _ ?_)
  have ask:(kas_sort vs.length).kasWp (kas_ask prog w A κ vs) (λp s'=>s'={ s with heap:=G }/\(Pm vs.length p/\Up c p vs.length)) { s with heap:=G } :=
   KW.wp (n:=vs.length) (λi j C hi hj hC=>hcmp G keep i j C hi hj hC) _ (zfr O (by omega))
  refine wpAny_bind (wpAny_mono (kat_run (E:=E) (ks:=vs) (vs:=vs) (Q:=λst' s'=>∃ p:Array Nat,s'={ s with heap:=G }/\arrOf st'=p.map (kas_item (vs.toArray.zip vs.toArray))/\failedOf st'=none/\Pm vs.length p/\Up c p vs.length)
   rfl (by omega) (by omega) (λp st' s' _ a2 a3 a4=>⟨p,a4.1,a2,a3,a4.2⟩) ask) ?_ λ_ _ e=>e)
  rintro⟨⟨⟩,st'⟩ s' ⟨p,rfl,har,hfl,hpm,hup⟩
  dsimp only
  have hpl:p.toList.length=vs.length:=by rw [hpm.pm.length_eq,List.length_range]
  have hol:(p.toList.map λi=>vs.getD i Value.none).length=vs.length:=by rw [List.length_map,hpl]
  rw [kat_snds rfl har]
  refine wpAny_bind (seqEpoch_at ho6 rfl (wpAny_bind (listUpdate_at ho6 rfl ?_ (Nat.zero_le _) (by rw [List.size_toArray,hol];exact Nat.le_succ_of_le hsl))))
  rw [hfl]
  simp only [bne_self_eq_false,Bool.false_eq_true,if_false]
  rw [e2]
  refine wpAny_pure (h _ hpm.pm ?_)
  rw [List.pairwise_iff_getElem]
  intro i j hi hj hij
  have q1:=hup i j hij (by omega)
  have g1:p.getD i 0=p.toList[i]:=by
   have:i<p.size:=by rw [hpm.sz];omega
   simp [Array.getD,this]
  have g2:p.getD j 0=p.toList[j]:=by
   have:j<p.size:=by rw [hpm.sz];omega
   simp [Array.getD,this]
  rw [g1,g2] at q1
  exact q1
theorem zeE {r:Addr} {n:Nat} {κ:SortKind} {Pv:List Value->Prop} {Q:Value->Shared->Prop} (h60:n<=60)
  (hcol:∀ R:List Value->Shared->Prop,(∀ h' tk vs,(∀ b o,s.heap.get? b=some o->h'.get? b=some o)->vs.length=n->Pv vs->R vs { s with heap:=h',toks:=tk })->wpAny (model prog w) A.in1 (collect (.ref r)) R E s)
  (hord:∀ vs,vs.length=n->Pv vs->∃ c:Nat->Nat->Bool,Ord c n /\
   (∀ (G:Heap) (tk:Nat),(∀ b o,s.heap.get? b=some o->G.get? b=some o)->2<=n->∀ Q:SortKind->Shared->Prop,Q κ { s with heap:=G,toks:=tk }->wpAny (model prog w) A.in1.in1 (keyKind' vs.toArray) Q E { s with heap:=G,toks:=tk }) /\
   (∀ (G:Heap) (tk:Nat),(∀ b o,s.heap.get? b=some o->G.get? b=some o)->∀ i j (C:Bool->Shared->Prop),i<n->j<n->C (c i j) { s with heap:=G,toks:=tk }->kas_ask prog w A.in1.in1 κ vs i j C { s with heap:=G,toks:=tk }) /\
   ∀ (p:List Nat) (h' h'':Heap) (tk e:Nat),p.Perm (List.range n)->p.Pairwise (λi j=>c i j=true)->(∀ b o,s.heap.get? b=some o->h'.get? b=some o)->(∀ b o,h'.get? b=some o->h''.get? b=some o)->h''.get? h'.objs.size=some (seqObj "list" (p.map λi=>vs.getD i Value.none).toArray e)->Q (.ref h'.objs.size) { s with heap:=h'',toks:=tk }) :
  wpAny (model prog w) A (call (.builtin "sorted") [.ref r]) Q E s:=by
 refine Calls.call_function_entry kind_sorted plain_sorted entry_sorted (args_sorted1 _) ?_
 unfold Builtin.«sorted»
 refine wpAny_bind (m:=checkCount "sorted" 1 1 _) (wpAny_pure (wpAny_bind (hcol _ λh' tk vs hk hl pv=>?_)))
 obtain⟨c,O,hkind,hcmp,fin⟩:=hord vs hl pv
 subst hl
 have hsl:vs.length<=sizeLine:=Nat.le_trans h60 (by decide)
 refine wpAny_bind (wpAny_newList ?_ hsl)
 have hoL:(h'.push (seqObj "list" vs.toArray 0)).get? h'.objs.size=some (seqObj "list" vs.toArray 0):=Heap.get?_push_size _ rfl
 have ne:∀ b o,s.heap.get? b=some o->b≠h'.objs.size:=λb o q=>Nat.ne_of_lt (Heap.lt_size (hk b o q))
 show wpAny _ _ _ _ _ { s with heap:=h'.push (seqObj "list" vs.toArray 0),toks:=tk }
 dsimp only
 refine wpAny_bind (wpAny_holding (wpAny_call_entry slot_list_sort ⟨_,hoL,rfl⟩ entry_list_sort (zbG (A:=A.in1.in1) (s:={ s with heap:=h'.push (seqObj "list" vs.toArray 0),toks:=tk }) (κ:=κ) (c:=c) hoL h60 O (λG kG h2 Q' hq=>hkind G tk (λb o q=>kG b o (ne b o q) (Heap.get?_push_of_some _ (hk b o q))) h2 Q' hq)
  (λG kG i j C hi hj hC=>hcmp G tk (λb o q=>kG b o (ne b o q) (Heap.get?_push_of_some _ (hk b o q))) i j C hi hj hC) λp hp hw=>⟨_,rfl,?_⟩) (args_list_sort _)))
 refine wpAny_pure ⟨_,rfl,?_⟩
 obtain⟨e,he⟩:=sortedHeap_at (out:=(p.map λi=>vs.getD i Value.none).toArray) hoL
 refine fin p h' _ tk e hp hw hk (λb o q=>?_) he
 have hlt:=Heap.lt_size q
 rw [sortedHeap_old (Nat.ne_of_lt hlt) (by rw [size_push'];exact Nat.lt_succ_of_lt hlt)]
 exact Heap.get?_push_of_some _ q
end
def RawD (h:Heap) (d:Addr) (ks:List Value) (ep:Nat):Prop:=∃ (o:Obj) (es:Array DictEntry),h.get? d=some o/\o.ExactDict/\o.data=.dict es ep/\es.toList.map (·.key)=ks
theorem RawD.at {h h':Heap} {d:Addr} {ks:List Value} {ep:Nat} (x:RawD h d ks ep) (e:∀ o,h.get? d=some o->h'.get? d=some o):RawD h' d ks ep:=let ⟨o,es,ho,r⟩:=x;⟨o,es,e _ ho,r⟩
theorem RawD.lt {h:Heap} {d:Addr} {ks:List Value} {ep:Nat} (x:RawD h d ks ep):d<h.objs.size:=let ⟨_,_,ho,_⟩:=x;Heap.lt_size ho
theorem RawD.ty {s:Shared} {d:Addr} {ks:List Value} {ep:Nat} (x:RawD s.heap d ks ep):s.TypeIs (.ref d) "dict":=let ⟨o,_,ho,hc,_⟩:=x;⟨o,ho,hc.1⟩
section
variable {prog:Program} {w:World} {A:Around} {E:Value->Shared->Prop} {s:Shared} {d it:Addr} {ks:List Value} {ep i:Nat}
theorem ze5 {Q:Value->Shared->Prop} (hd:(d == sysModules)=false) (hm:RawD s.heap d ks ep) (hQ:Q (.ref s.heap.objs.size) { s with heap:=s.heap.push { cls:=.type "dict_keyiterator",data:=.fields #[.ref d,.int 0 0,.int ks.length 0,.int ep 0] } }) :
  wpAny (model prog w) A (pyIter (.ref d)) Q E s:=by
 obtain⟨o,es,ho,hc,hdat,hk⟩:=id hm
 refine wpAny_pyIter_slot hm.ty F.slot_dict_iter (wpAny_call_entry F.slot_dict_iter hm.ty F.entry_dict_iter ?_ (F.args_dict_iter_1 _))
 unfold Builtin.«dict.__iter__» Builtin.Dict.dictSlotNone
 refine wpAny_bind (wpAny_bind (wpAny_notOrdered_dict hm.ty ?_))
 show wpAny _ _ (pure (Value.ref d)) _ _ s
 refine wpAny_pure ?_
 show wpAny _ _ (Builtin.Dict.showsAll d >>= _) _ _ s
 unfold Builtin.Dict.showsAll
 rw [hd,if_neg Bool.false_ne_true]
 have hsz:es.size=ks.length:=by rw [<- hk];simp
 refine wpAny_bind (wpAny_pure (wpAny_bind (wpAny_dictEntries ho hdat (wpAny_bind (wpAny_dictEpoch ho hdat (wpAny_bind (wpAny_newObj_type (wpAny_pure ⟨_,rfl,"dict_keyiterator",_,⟨_,Heap.get?_push_size _ rfl,rfl⟩,F.slot_dict_keyiterator_next.lookup,?_⟩))))))))
 simpa [rawInt,hsz] using hQ
theorem zfb {v:Value} {Q:Option Value->Shared->Prop} (hit:s.heap.IsKeyIter it d i ks.length ep) (hm:RawD s.heap d ks ep) (hx:ks[i]?=some v)
  (hQ:∀ h',h'.IsKeyIter it d (i+1) ks.length ep->Heap.SameBut it s.heap h'->Q (some v) { s with heap:=h' }):wpAny (model prog w) A (pyNext (.ref it)) Q E s:=by
 obtain⟨o,ho,hc,hd⟩:=id hit
 obtain⟨od,es,hod,hcd,hdd,hk⟩:=id hm
 have hsz:es.size=ks.length:=by rw [<- hk];simp
 have hlt:i<es.size:=by rw [hsz];exact (List.getElem?_eq_some_iff.mp hx).1
 have hkey:es[i].key=v:=by
  rw [<- hk,List.getElem?_map] at hx
  simpa [hlt] using hx
 have hown:Builtin.Dict_items.ownsTuple "dict_keyiterator" = false:=by decide
 unfold pyNext
 refine wpAny_bind (wpAny_attempt (wpAny_callSpecial?_slot (name:=Str.ofString "__next__") hit.typeIs F.slot_dict_keyiterator_next (wpAny_call_entry F.slot_dict_keyiterator_next hit.typeIs F.entry_dict_keyiterator_next ?_ (F.args_dict_keyiterator_next_1 _))))
 refine wpAny_bind (wpAny_pure (wpAny_bind (wpAny_bind ?_)))
 first | refine wpAny_bind (wpAny_typeNameOfWhole_keyiter hit.typeIs (wpAny_pure (wpAny_bind (wpAny_fieldsOf ho hd ?_)))) | refine wpAny_bind (wpAny_typeNameOf_keyiter hit.typeIs (wpAny_pure (wpAny_bind (wpAny_fieldsOf ho hd ?_))))
 simp only [hown,Bool.false_eq_true,if_false]
 show wpAny _ _ (if (Value.ref d == Value.none)=true then _ else _) _ _ s
 rw [if_neg (show ¬ ((Value.ref d == Value.none)=true) from Bool.false_ne_true)]
 refine wpAny_bind (wpAny_pure (wpAny_bind (wpAny_dictEntries hod hdd ?_)))
 rw [if_neg (by rw [hsz];simp)]
 refine wpAny_bind (wpAny_pure (wpAny_bind (wpAny_dictEpoch hod hdd ?_)))
 rw [if_neg (by simp)]
 refine wpAny_pure ?_
 simp only [show ¬ ((i:Int)<0) from by omega,if_false,Int.toNat_natCast,Array.getElem?_eq_getElem hlt]
 refine wpAny_bind ?_
 first | refine wpAny_bind (wpAny_typeNameOfWhole_keyiter hit.typeIs (wpAny_pure (wpAny_bind (wpAny_isOneOf_keyiter hit.typeIs ?_)))) | refine wpAny_bind (wpAny_typeNameOf_keyiter hit.typeIs (wpAny_pure (wpAny_bind (wpAny_isOneOf_keyiter hit.typeIs ?_))))
 show wpAny _ _ (setField (.ref it) 1 (rawInt ((i:Int)+1)) >>= _) _ _ s
 refine wpAny_bind (wpAny_setField ho hd (by simp) ?_)
 have hit':(s.heap.update it (Obj.mapFields (·.setIfInBounds 1 (rawInt ((i:Int)+1))))).IsKeyIter it d (i+1) ks.length ep :=
  ⟨_,Heap.get?_update_self _ ho (Obj.isFreed_of_fields (Obj.data_mapFields hd _)),(Obj.cls_mapFields ..).trans hc,by rw [Obj.data_mapFields hd];simp [rawInt]⟩
 refine wpAny_bind (wpAny_holding (wpAny_bind (wpAny_isOneOf_keyiter (s:={ s with heap:=s.heap.update it (Obj.mapFields (·.setIfInBounds 1 (rawInt ((i:Int)+1)))) }) hit'.typeIs ?_)))
 show wpAny _ _ (pure es[i].key) _ _ _
 rw [hkey]
 exact wpAny_pure (wpAny_pure ⟨_,rfl,wpAny_pure (hQ _ hit' (Heap.SameBut.update ..))⟩)
theorem zfZ {Q:Option Value->Shared->Prop} (hh:A.handled=none) (hit:s.heap.IsKeyIter it d ks.length ks.length ep) (hm:RawD s.heap d ks ep) (hQ:∀ h',Heap.ExtBut it s.heap h'->Q none { s with heap:=h' }):wpAny (model prog w) A (pyNext (.ref it)) Q E s:=by
 obtain⟨o,ho,hc,hd⟩:=id hit
 obtain⟨od,es,hod,hcd,hdd,hk⟩:=id hm
 have hsz:es.size=ks.length:=by rw [<- hk];simp
 have hge:es.size<=ks.length:=Nat.le_of_eq hsz
 have hown:Builtin.Dict_items.ownsTuple "dict_keyiterator" = false:=by decide
 unfold pyNext
 refine wpAny_bind (wpAny_attempt (wpAny_callSpecial?_slot (name:=Str.ofString "__next__") hit.typeIs F.slot_dict_keyiterator_next (wpAny_call_entry F.slot_dict_keyiterator_next hit.typeIs F.entry_dict_keyiterator_next ?_ (F.args_dict_keyiterator_next_1 _))))
 refine wpAny_bind (wpAny_pure (wpAny_bind (wpAny_bind ?_)))
 first | refine wpAny_bind (wpAny_typeNameOfWhole_keyiter hit.typeIs (wpAny_pure (wpAny_bind (wpAny_fieldsOf ho hd ?_)))) | refine wpAny_bind (wpAny_typeNameOf_keyiter hit.typeIs (wpAny_pure (wpAny_bind (wpAny_fieldsOf ho hd ?_))))
 simp only [hown,Bool.false_eq_true,if_false]
 show wpAny _ _ (if (Value.ref d == Value.none)=true then _ else _) _ _ s
 rw [if_neg (show ¬ ((Value.ref d == Value.none)=true) from Bool.false_ne_true)]
 refine wpAny_bind (wpAny_pure (wpAny_bind (wpAny_dictEntries hod hdd ?_)))
 rw [if_neg (by rw [hsz];simp)]
 refine wpAny_bind (wpAny_pure (wpAny_bind (wpAny_dictEpoch hod hdd ?_)))
 rw [if_neg (by simp)]
 refine wpAny_pure ?_
 simp only [show ¬ ((ks.length:Int)<0) from by omega,if_false,Int.toNat_natCast,Array.getElem?_eq_none hge]
 refine wpAny_bind ?_
 first | refine wpAny_bind (wpAny_typeNameOfWhole_keyiter hit.typeIs (wpAny_pure ?_)) | refine wpAny_bind (wpAny_typeNameOf_keyiter hit.typeIs (wpAny_pure ?_))
 show wpAny _ _ (setField (.ref it) 0 .none >>= _) _ _ s
 refine wpAny_bind (wpAny_setField ho hd (by simp) ?_)
 show wpAny _ _ (newExc (.type "StopIteration") [] >>= _) _ _ _
 refine wpAny_bind ?_
 simp only [newExc,newTuple]
 refine wpAny_bind (wpAny_newObj_type (wpAny_bind (m:=firstArgMember _ _) (wpAny_of_eq (a:=Value.none) (by first | rfl | (simp only [firstArgMember];rfl)) (wpAny_newObj_type ?_ (by size_fits)))) (by size_fits))
 simp only [raiseNew]
 refine wpAny_bind (wpAny_handled ?_)
 rw [show A.in1.handled=none from hh]
 refine wpAny_bind (wpAny_pure (wpAny_throw ?_))
 refine wpAny_bind (wpAny_isInstance (T:="StopIteration") (b:=true) ⟨_,Heap.get?_push_size _ rfl,rfl⟩ isSubtype_stop ?_)
 exact wpAny_pure (hQ _ (((Heap.SameBut.update ..).extBut.push _).push _))
theorem zd5 (hh:A.handled=none) (I d:Addr) (hne:d≠I) (ks:List Value) (ep:Nat):Walks prog w A I [I,d] [I] ks.length (λi v=>ks[i]?=some v) (λi h=>h.IsKeyIter I d i ks.length ep/\RawD h d ks ep) where
 sub:=λb hb=>by simp at hb;simp [hb]
 frame:=λ_ _ _ st hk=>⟨st.1.at λo e=>hk I (by simp) o e,st.2.at λo e=>hk d (by simp) o e⟩
 item:=λi s Q E hi st hQ=>by
  refine zfb (v:=ks[i]) st.1 st.2 (List.getElem?_eq_getElem hi) λh' hit' hs'=>hQ _ h' s.toks (List.getElem?_eq_getElem hi) ⟨hit',st.2.at λo e=>hs'.extBut _ _ hne e⟩ λb o hb e=>hs'.extBut b o (λh=>hb (by simp [h])) e
 done:=λs Q E st hQ=>zfZ hh st.1 st.2 λh' he'=>hQ h' s.toks λb o hb e=>he' b o (λh=>hb (by simp [h])) e
 self:=λ_ _ _ _ st hQ=>wpAny_pyIter_keyiter st.1 hQ
theorem zf2 (lo:(d == sysModules)=false):KdlSrc prog w "dict" d d ks.length (λi v=>ks[i]?=some v) (λh=>RawD h d ks ep) where
 type:=λ_ hm=>hm.ty
 there:=λ_ hm=>⟨hm.lt,hm.lt⟩
 keep:=λ_ _ hm hk=>hm.at λo e=>hk d (.inl rfl) o e
 notList:=by decide
 notTuple:=by decide
 hint:=λ_ _ _ _ hm hq=>kdl_hint_dict hm.ty hq
 iter:=λ_ _ hh hm=>⟨_,_,(λ_ _ hq=>ze5 lo hm hq),zd5 hh _ d (Nat.ne_of_lt hm.lt) ks ep,⟨⟨_,Heap.get?_push_size _ rfl,rfl,rfl⟩,hm.at λo e=>Heap.get?_push_of_some _ e⟩⟩
end
end HT
namespace L2
open PySem PySem.Spec PyProof.Rows PySem.W
def kI (ns:List Int):List Key:=ns.map Sum.inl
theorem zeq (ns:List Int):(kI ns).map kV=ns.map V.int:=by unfold kI;rw [List.map_map];rfl
section
variable {X:Cx} {pins:List (Addr×Obj)} {Z:St} {H:Hp} {s:Shared}
theorem zab (I:Inv X pins Z H s) {p:Addr} {ns:List Int} (h:H p=some (.tup (ns.map V.int))):∃ (its:List Value) (o:Obj) (m:Nat),IntsAre its ns/\s.heap.get? p=some o/\o.cls=.type "tuple"/\o.data=.seq its.toArray m:=by
 obtain⟨_,its,r,o,e,hc,m,hd⟩:=I.hok p _ h
 exact⟨its,o,m,by simpa using intsAre_of r,e,hc,hd⟩
end
theorem za0 {prog:Program} {w:World} {A:Around} {Q:Bool->Shared->Prop} {s:Shared} {f:Bool}:∀ {xs ys:List Value} {as bs:List Int} (i:Nat),IntsAre xs as->IntsAre ys bs->f=decide (as.length<bs.length)->Q (HT.lexLt as bs) s->KatLex prog w A true f Q (xs.zip ys) i s
 | [],_,_,_,i,.nil,.nil,hf,h=>by subst hf;exact kat_nil h
 | [],_,_,_,i,.nil,.cons m u hj,hf,h=>by subst hf;exact kat_nil h
 | _,[],_,_,i,.cons n t hi,.nil,hf,h=>by subst hf;exact kat_nil h
 | _,_,_,_,i,.cons n t (ns:=as) hi,.cons m u (ns:=bs) hj,hf,h=>by
  rw [List.zip_cons_cons]
  refine kat_cons (wpAny_eqBool_int ?_)
  rw [HT.qy] at h
  by_cases e:n=m
  ·rw [if_pos e] at h
   rw [show (n == m)=true by simp [e]]
   exact kat_yes (za0 (i+1) hi hj (by rw [hf];simp) h)
  ·rw [if_neg e] at h
   rw [show (n == m)=false by simp [e]]
   refine kat_no ?_
   by_cases hi0:i=0
   ·subst hi0
    exact oneLt_int h
   ·rw [show (true && i == 0)=false by simp [hi0]]
    exact kat_one _ _ (HT.zaG A s n t m u prog w _ _ h)
section
variable {X:Cx} {pins:List (Addr×Obj)} {Z:St} {H:Hp} {s:Shared}
theorem ze7 (I:Inv X pins Z H s) {A:Around} {p q:Addr} {as bs:List Int} (hp:H p=some (.tup (as.map V.int))) (hq:H q=some (.tup (bs.map V.int))) {Q:Bool->Shared->Prop} {E:Value->Shared->Prop} (h:Q (HT.lexLt as bs) s) :
  wpAny (model X.prog X.w) A (keyLt' (tuples' true) (.ref p) (.ref q)) Q E s:=by
 obtain⟨its,o,m,hi,e,_,hd⟩:=zab I hp
 obtain⟨its',o',m',hi',e',_,hd'⟩:=zab I hq
 refine kat_lt e hd e' hd' ?_
 rw [List.size_toArray,List.size_toArray,hi.length,hi'.length]
 exact za0 0 (by simpa using hi) (by simpa using hi') rfl h
end
theorem Jq {X:Cx} {pins:List (Addr×Obj)} {Z:St} {H:Hp} {s:Shared} (I:Inv X pins Z H s):∀ zs:ZB,(∀ z∈zs,H z.1=some (.tup (z.2.map V.int))/\z.2≠[])->∃ fs:List Value,KatTups s.heap (zs.map λz=>Value.ref z.1) fs/\fs.length=zs.length/\∀ v∈fs,∃ n t,v=Value.int n t
 | [],_=>⟨[],KatTups.nil,rfl,λv hv=>by cases hv⟩
 | z :: zs,h=>by
  obtain⟨fs,h1,h2,h3⟩:=Jq I zs λq hq=>h q (.tail _ hq)
  obtain⟨za,zl⟩:=z
  obtain⟨hz,hne⟩:=h (za,zl) (.head _)
  obtain⟨its,o,m,hi,e,hc,hd⟩:=zab I hz
  simp only at hi hne
  cases hi with
  | nil=>exact absurd rfl hne
  | cons n t hi =>
   refine⟨.int n t :: fs,KatTups.cons e hc hd (by simp) h1,by simp [h2],λv hv=>?_⟩
   rcases List.mem_cons.mp hv with rfl | hv
   ·exact⟨n,t,rfl⟩
   ·exact h3 v hv
theorem zfT {ls:ZA} (nd:ls.Nodup):HT.Ord (λi j=>HT.lexLt (ls.getD i []) (ls.getD j [])) ls.length:=by
 have ge:∀ i,(h:i<ls.length)->ls.getD i []=ls[i]:=λi h=>by rw [List.getD_eq_getElem?_getD,List.getElem?_eq_getElem h];rfl
 refine⟨λi j k _ _ _ h1 h2=>HT.Zi _ _ _ h1 h2,λi j hi hj hij h=>?_,λi j hi hj h=>?_⟩
 ·have ne:ls.getD i []≠ls.getD j []:=λz=>by
   rw [ge i hi,ge j hj] at z
   exact hij ((List.getElem_inj nd).mp z)
  have:=HT.Wm _ _ ne
  rw [h] at this
  exact this
 ·cases e:HT.lexLt (ls.getD j []) (ls.getD i []) with
  | false=>rfl
  | true =>
   have:=HT.Zi _ _ _ h e
   rw [HT.jD] at this
   cases this
theorem zdD {zs:ZB} {p:List Nat} (hp:p.Perm (List.range zs.length)) (hw:p.Pairwise (λi j=>HT.lexLt ((zs.map (·.2)).getD i []) ((zs.map (·.2)).getD j [])=true)) :
  ∃ zs':ZB,zs'.Perm zs/\zs'.Pairwise (λx y=>HT.lexLt x.2 y.2=true)/\(p.map λi=>(zs.map λz=>Value.ref z.1).getD i Value.none)=zs'.map λz=>Value.ref z.1:=by
 have g:∀ i∈p,(zs.map (·.2)).getD i []=(zs.getD i (0,[])).2/\(zs.map λz=>Value.ref z.1).getD i Value.none=Value.ref (zs.getD i (0,[])).1:=λi hi=>by
  have hi':=List.mem_range.mp (hp.mem_iff.mp hi)
  constructor
  ·rw [List.getD_eq_getElem?_getD,List.getD_eq_getElem?_getD,List.getElem?_map,List.getElem?_eq_getElem hi'];rfl
  ·rw [List.getD_eq_getElem?_getD,List.getD_eq_getElem?_getD,List.getElem?_map,List.getElem?_eq_getElem hi'];rfl
 refine⟨p.map λi=>zs.getD i (0,[]),HT.Ji _ zs hp,?_,?_⟩
 ·rw [List.pairwise_map]
  refine List.Pairwise.imp_of_mem ?_ hw
  intro i j hi hj h
  rw [(g i hi).1,(g j hj).1] at h
  exact h
 ·rw [List.map_map]
  exact List.map_congr_left λi hi=>(g i hi).2
theorem zaE {H:Hp}:∀ {kvs:List (List Key×V)} {xs:List (List Key×Addr×Value)} {ls:ZA},KT H kvs xs->kvs.map (·.1)=ls.map kI->∃ zs:ZB,zs.map (·.2)=ls/\(xs.map λx=>Value.ref x.2.1)=zs.map (λz=>Value.ref z.1)/\(∀ z∈zs,H z.1=some (.tup (z.2.map V.int)))/\xs.map (·.1)=ls.map kI
 | [],[],ls,.nil,e=>by
  cases ls with
  | nil=>exact⟨[],rfl,rfl,by simp,rfl⟩
  | cons _ _=>simp at e
 | p :: kvs,q :: xs,ls,.cons h t,e=>by
  cases ls with
  | nil=>simp at e
  | cons l ls =>
   rw [List.map_cons,List.map_cons] at e
   injection e with e1 e2
   obtain⟨zs,h1,h2,h3,h4⟩:=zaE t e2
   refine⟨(q.2.1,l) :: zs,by simp [h1],by simp [h2],λz hz=>?_,?_⟩
   ·rcases List.mem_cons.mp hz with rfl | hz
    ·have:=h.2.1
     rw [e1,zeq] at this
     exact this
    ·exact h3 z hz
   ·rw [List.map_cons,List.map_cons,h4,<- h.1,e1]
section
variable {X:Cx}
def zfD:List V->Hp->VK->Prop:=λxs H Q=>∃ (a:Addr) (kvs:List (List Key×V)) (ls:ZA),xs=[.ref a]/\H a=some (.dT kvs)/\kvs.map (·.1)=ls.map kI/\ls.length<=60/\(∀ l∈ls,l≠[]) /\
 ∀ (p:Addr) (zs':ZB),H p=none->(zs'.map (·.2)).Perm ls->zs'.Pairwise (λx y=>HT.lexLt x.2 y.2=true)->(∀ z∈zs',H z.1=some (.tup (z.2.map V.int)))->Q (.ref p) (upd H p (.lst (zs'.map λz=>V.ref z.1)))
theorem zfa (hcalm:X.calm=true:=by rfl):ul X (.builtin "sorted") zfD:=by
 intro pins s Z H xs us Q I r h
 obtain⟨a,kvs,ls,rfl,ha,hks,h60,hne,q⟩:=h
 obtain⟨u,rfl,rx⟩:=vals1 r
 cases rx
 obtain⟨z,hd,xs,rel,o,es,ep,h1,h2,h3,h4,h5,h6⟩:=zfm I.hok ha
 obtain⟨zs,hz2,hzr,hzt,hx1⟩:=zaE rel hks
 have hzl:zs.length=ls.length:=by rw [<- hz2,List.length_map]
 have nd:(zs.map (·.2)).Nodup:=by
  rw [hz2]
  rw [hx1] at h6
  exact (List.pairwise_map.mp h6).imp λhab e=>hab (by rw [e])
 have hraw:HT.RawD s.heap a (zs.map λz=>Value.ref z.1) ep:=⟨o,es,h1,h2,h3,by rw [h4,List.map_map,<- hzr];rfl⟩
 have hkl:(zs.map λz=>Value.ref z.1).length=zs.length:=List.length_map ..
 have hO:=zfT nd
 rw [List.length_map] at hO
 have hzt':∀ z∈zs,H z.1=some (.tup (z.2.map V.int))/\z.2≠[]:=λz hz=>⟨hzt z hz,hne _ (by rw [<- hz2];exact List.mem_map.mpr ⟨z,hz,rfl⟩)⟩
 refine HT.zeE (n:=zs.length) (κ:=tuples' true) (Pv:=λvs=>vs=zs.map λz=>Value.ref z.1) (by omega) (λR hR=>?_) λvs hl hv=>?_
 ·refine kdu_collect (A:=X.A.in1) (HT.zf2 (ks:=zs.map λz=>Value.ref z.1) (ep:=ep) hd) (I.ok.hd hcalm) hraw (by rw [hkl];exact Nat.le_trans (show zs.length<=60 by omega) (by decide)) λh' tk acc hk hacc=>?_
  have hal:acc.toList.length=zs.length:=by rw [Array.length_toList,hacc.1,hkl]
  refine hR h' tk acc.toList hk hal ?_
  apply List.ext_getElem?
  intro i
  cases e:acc.toList[i]? with
  | some v=>exact (hacc.2 i v (by rw [<- Array.getElem?_toList];exact e)).symm
  | none=>rw [List.getElem?_eq_none (by rw [hkl,<- hal];exact List.getElem?_eq_none_iff.mp e)]
 ·subst hv
  have gr:∀ i,i<zs.length->(zs.map λz=>Value.ref z.1).getD i Value.none=.ref (zs.getD i (0,[])).1/\(zs.map (·.2)).getD i []=(zs.getD i (0,[])).2/\zs.getD i (0,[])∈zs:=λi hi=>by
   have e:zs.getD i (0,[])=zs[i]:=by rw [List.getD_eq_getElem?_getD,List.getElem?_eq_getElem hi];rfl
   rw [e]
   refine⟨?_,?_,List.getElem_mem _⟩
   ·rw [List.getD_eq_getElem?_getD,List.getElem?_map,List.getElem?_eq_getElem hi];rfl
   ·rw [List.getD_eq_getElem?_getD,List.getElem?_map,List.getElem?_eq_getElem hi];rfl
  refine⟨_,hO,λG tk kG hn2 Q' hq=>?_,λG tk kG i j C hi hj hC=>?_,λp h' h'' tk e hp hw k1 k2 hat=>?_⟩
  ·obtain⟨fs,ht,hfl,hfi⟩:=Jq (I.kept (t':=tk) kG) zs hzt'
   refine kat_kind (T:=.type "int") ht (by omega) (λv hv=>?_) (by decide) (by rw [show (Value.type "int" != Value.type "tuple")=true by decide];exact hq)
   obtain⟨n,t,rfl⟩:=hfi v hv
   exact Looks.of_pure rfl
  ·obtain⟨a1,a2,a3⟩:=gr i hi
   obtain⟨b1,b2,b3⟩:=gr j hj
   unfold kas_ask
   rw [a1,b1]
   refine ze7 (I.kept (t':=tk) kG) (hzt _ a3) (hzt _ b3) ?_
   rw [a2,b2] at hC
   exact hC
  ·obtain⟨zs',pm,pw,hm⟩:=zdD hp hw
   rw [hm] at hat
   have I1:=I.kept (t':=tk) k1
   have hfree:H h'.objs.size=none:=I1.hok.fresh (Nat.le_refl _)
   have hl':zs'.length=zs.length:=pm.length_eq
   refine⟨.ref h'.objs.size,_,I1.laid (t':=tk) (o:=.lst (zs'.map λz=>V.ref z.1)) k2 (Nat.le_refl _) ⟨by rw [List.length_map];exact Nat.le_trans (show zs'.length<=60 by omega) (by decide),_,e,W5 zs',hat⟩,rfl,q _ zs' hfree (by rw [<- hz2];exact pm.map _) pw λz hz=>hzt z (pm.mem_iff.mp hz)⟩
end
def Ug (c:Addr) (q:Str):HO:=.ext λh=>h.CodeRec (.ref c) q
def zci (P:Addr) (pos:Pos) (q:Str) (H:Hp) (c:Addr):Prop:=H P=some (.tbl #[rawInt pos.line,rawInt pos.col,.ref c])/\H c=some (Ug c q)
def Wb (P:Addr) (pos:Pos) (q:Str) (H:Hp):Prop:=H P=some (.tbl #[])\/∃ c,zci P pos q H c
section
variable {P:Program} {w:World} {K:Frag} {mg:Str->Option Value} {base:Heap} {N ps:List Str} {k:Nat} {A:Around} {outer:List Env} {s:Shared} {H:Hp} {us:List Value} {vs:List V} {Q:VK} {E:XK} {f:Addr} {o:Obj}
 {name qual:Str} {params:Arguments} {body:Expr} {scope:Scope} {pm cdv ct:Value} {args:Args}
theorem zeJ (ho:s.heap.get? f=some o) (hd:o.data=.func (kla_fn name qual params body scope [] pm cdv ct)) (hcd:s.heap.CodeRec cdv qual) (S:zF N ps scope) (hr:Room (k+1) A) (e0:Env0 P w K mg base A outer s H)
  (hb:BindsTo s (kla_fn name qual params body scope [] pm cdv ct) args (ps.zip us)) (hl:vs.length=ps.length) (r:Vals vs us)
  (hbody:∃ t,PE (VP CX0 P w K mg base N qual scope f cdv A outer s H E) body t/\t (start N vs) H Q):codeAny (model P w) A (.call (.ref f) args) (CR CX0 outer P w H s Q E) s:=by
 have lim:s.heap.NoLimit:=e0.mod.nolimit.keeps λb o e=>(e0.bs b o e).1
 have hkind:∀ y∈ps.zip us,scope.names.lookup y.1=some .local\/(scope.names.lookup y.1=some .cell/\((cellsFrom (s.heap.objs.size+1) scope.names []).lookup y.1).isSome=true):=λ⟨n,v⟩ hy=>by
  rcases S.par n (List.of_mem_zip hy).1 with q | q
  ·exact .inl q
  ·exact .inr ⟨q,W.cellsFrom_some _ _ _ (.inl q)⟩
 refine kla_callFunE hr.depth ho hd S.co S.gen rfl hcd (hb _ _ _ _ ?_)
 refine wpAny_newFunctionEnv_cells S.kind hkind λenv he s1 x=>?_
 subst he
 refine⟨lim.keeps x.toInCall.keep,kla_codeExpr ?_⟩
 obtain⟨t,ht,hq⟩:=hbody
 have I:Inv (VP CX0 P w K mg base N qual scope f cdv A outer s H E) [] (start N vs) H s1:=QT S hr.hd e0 hl r x
 refine wpAny_mono (ht [] s1 (start N vs) H _ I hq) (λu s' hs=>?_) λe s' hs=>hs
 obtain⟨v,H',J,rv,q⟩:=hs
 exact⟨v,H',J.os,J.bare,J.base,J.hok,rv,q⟩
end
section
variable {X:Cx} {pins:List (Addr×Obj)} {Z:St} {H:Hp} {s:Shared} {params:Arguments} {body:Expr} {scope:Scope} {pos:Pos} {c P:Addr} {Q:Value->Shared->Prop}
theorem zdr (I:Inv X pins Z H s) (hdef:defaultsOf params X.env=([],[])) (hcl:closureFor scope X.env=pure []) (hcode:X.env.code=.ref c) (hK:codeHdIn X.K c P=true) (hB:X.base.BuiltinsAt X.mg P) (hgP:mainGlobals≠P)
  (hT:Wb P pos (X.env.qual ++ "<lambda>") H)
  (h:∀ (f c':Addr) (H':Hp) (s':Shared) (pm ct:Value),Inv X pins Z H' s'->zci P pos (X.env.qual ++ "<lambda>") H' c'->s'.heap.get? f=some (kla_obj "<lambda>" (X.env.qual ++ "<lambda>") params body scope [] pm c' ct)->H' f=none->s.heap.objs.size<=f ->
   (∀ b u,b≠P->H b=some u->H' b=some u)->Q (.ref f) s') :
  wpAny (model X.prog X.w) X.A (eval (.Lambda params body scope pos) X.env) Q X.xe s:=by
 have C:CodeHd s.heap c P:=codeHd_of_K I.kIn hK
 have hg:s.heap.Ns mainGlobals X.mg:=I.mod.glob.keeps I.bk
 have hb:s.heap.BuiltinsAt X.mg P:=by
  obtain⟨bm,o,b1,b2,b3,b4,b5,b6,b7,b8⟩:=hB
  exact⟨bm,o,b1,b2,b3,b4,I.bk _ _ b5,b6,b7,b8⟩
 refine kla_eval hdef ?_
 rcases hT with hP | ⟨c',hP,hc'⟩
 ·have hPo:s.heap.get? P=some (tabObj #[]):=I.hok P _ hP
  refine kla_makeFunction hcl I.ok.glob hg hcode C hPo (show TriplesOk [] from trivial) rfl hgP hb λc' ct h' tk hx hge hlt hrec htb=>?_
  have htb':h'.get? P=some (tabObj #[rawInt pos.line,rawInt pos.col,.ref c']):=htb
  have hPc:P≠c':=λz=>by
   have:=Heap.lt_size hPo
   rw [z] at this
   exact absurd (Nat.lt_of_lt_of_le this hge) (Nat.lt_irrefl _)
  have hHc:H c'=none:=I.hok.fresh hge
  have old:∀ b o,b≠P->s.heap.get? b=some o->(h'.push (kla_obj "<lambda>" (X.env.qual ++ "<lambda>") params body scope [] ((X.mg "__name__").getD .none) c' ct)).get? b=some o:=λb o hb e=>Heap.get?_push_of_some _ (hx b o hb e)
  have nP:∀ b,H b=none->b≠P:=λb n z=>by rw [z,hP] at n;cases n
  have up:∀ b u,b≠P->H b=some u->upd (upd H P (.tbl #[rawInt pos.line,rawInt pos.col,.ref c'])) c' (Ug c' (X.env.qual ++ "<lambda>")) b=some u:=λb u hb e=>by
   rw [zq (λz=>by rw [z,hHc] at e;cases e),zq hb];exact e
  have upn:∀ b,b≠P->b≠c'->H b=none->upd (upd H P (.tbl #[rawInt pos.line,rawInt pos.col,.ref c'])) c' (Ug c' (X.env.qual ++ "<lambda>")) b=none:=λb h1 h2 e=>by
   rw [zq h2,zq h1];exact e
  have J:Inv X pins Z (upd (upd H P (.tbl #[rawInt pos.line,rawInt pos.col,.ref c'])) c' (Ug c' (X.env.qual ++ "<lambda>"))) { s with heap:=h'.push (kla_obj "<lambda>" (X.env.qual ++ "<lambda>") params body scope [] ((X.mg "__name__").getD .none) c' ct),toks:=tk }:=by
   refine I.un ⟨λb o e n _ _=>old b o (nP b n) e,λb o e n _ _=>⟨o.slots,old b o (nP b n) e⟩,λb o e n _=>upn b (nP b n) (Nat.ne_of_lt (Nat.lt_of_lt_of_le (Heap.lt_size e) hge)) n,λb o e _=>?_,λb xs e=>up b _ (λz=>by rw [z,hP] at e;cases e) e,λb o u e=>up b _ (λz=>by rw [z,hP] at e;cases e) e,λb ps e=>?_⟩ ?_
   ·by_cases hb:b=P
    ·rw [hb];exact⟨_,Heap.get?_push_of_some _ htb'⟩
    ·exact⟨o,old b o hb e⟩
   ·by_cases hb:b=P
    ·rw [hb] at e ⊢
     rw [hP] at e
     cases e
     exact⟨#[rawInt pos.line,rawInt pos.col,.ref c'],by rw [zq hPc,zf];rfl⟩
    ·exact⟨#[],by rw [up b _ hb e];simp⟩
   ·intro b u e
    by_cases hbc:b=c'
    ·subst hbc
     rw [zf] at e
     cases e
     obtain⟨c2,oc,vs,t,e1,e2,e3,e4⟩:=id hrec
     cases e1
     have q:=Heap.get?_push_of_some (kla_obj "<lambda>" (X.env.qual ++ "<lambda>") params body scope [] ((X.mg "__name__").getD .none) b ct) e2
     refine⟨⟨b,oc,vs,t,rfl,q,e3,e4⟩,⟨oc,q⟩,λh1 h2 ⟨c3,o3,v3,t3,a1,a2,a3,a4⟩ k=>?_⟩
     cases a1
     exact⟨b,o3,v3,t3,rfl,k _ a2,a3,a4⟩
    ·rw [zq hbc] at e
     by_cases hbP:b=P
     ·rw [hbP] at e ⊢
      rw [zf] at e
      cases e
      exact Heap.get?_push_of_some _ htb'
     ·rw [zq hbP] at e
      refine (I.hok b u e).stay (λd v hd q=>old d v ?_ q) (λd q=>?_) λd xs q=>?_
      ·rcases hd with rfl | hd
       ·exact hbP
       ·intro z;rw [z,hP] at hd;cases hd
      ·exact up d _ (λz=>by rw [z,hP] at q;cases q) q
      ·exact up d _ (λz=>by rw [z,hP] at q;cases q) q
  have hsz:s.heap.objs.size<=h'.objs.size:=Nat.le_of_lt (Nat.lt_of_le_of_lt hge hlt)
  refine h _ c' _ _ _ ct J ⟨by rw [zq hPc,zf],zf⟩ (Heap.get?_push_size _ rfl) ?_ hsz up
  exact upn _ (Nat.ne_of_gt (Nat.lt_of_lt_of_le (Heap.lt_size hPo) hsz)) (Nat.ne_of_gt hlt) (I.hok.fresh hsz)
 ·have hPo:s.heap.get? P=some (tabObj #[rawInt pos.line,rawInt pos.col,.ref c']):=I.hok P _ hP
  refine kla_makeFunctionHit hcl I.ok.glob hg hcode C hPo (show TriplesOk [rawInt pos.line,rawInt pos.col,.ref c'] from trivial) (cv:=.ref c') ?_ hb λct h' tk hk hsz=>?_
  ·have:=codeAmong_snoc (pos:=pos) (c:=.ref c') [] trivial rfl
   exact this
  ·exact h _ c' H _ _ ct (I.kept (t':=tk) λb u e=>Heap.get?_push_of_some _ (hk b u e)) ⟨hP,hc'⟩ (Heap.get?_push_size _ rfl) (I.hok.fresh hsz) hsz (λb u _ e=>e)
end
end L2
namespace HT
def vX (a b:List Int):Bool:=if a.length=b.length then lexLt a b else decide (a.length<b.length)
theorem JD (a:List Int):vX a a=false:=by unfold vX;rw [if_pos rfl,jD]
theorem Vs (a b c:List Int) (h1:vX a b=true) (h2:vX b c=true):vX a c=true:=by
 unfold vX at *
 by_cases e1:a.length=b.length
 ·rw [if_pos e1] at h1
  by_cases e2:b.length=c.length
  ·rw [if_pos e2] at h2
   rw [if_pos (e1.trans e2)]
   exact Zi a b c h1 h2
  ·rw [if_neg e2] at h2
   rw [if_neg (by omega)]
   have:=of_decide_eq_true h2
   exact decide_eq_true (by omega)
 ·rw [if_neg e1] at h1
  have h1':=of_decide_eq_true h1
  by_cases e2:b.length=c.length
  ·rw [if_neg (by omega)]
   exact decide_eq_true (by omega)
  ·rw [if_neg e2] at h2
   have:=of_decide_eq_true h2
   rw [if_neg (by omega)]
   exact decide_eq_true (by omega)
theorem zbg (a b:List Int) (h:a≠b):vX b a=!vX a b:=by
 unfold vX
 by_cases e:a.length=b.length
 ·rw [if_pos e,if_pos e.symm,Wm a b h]
 ·rw [if_neg e,if_neg (Ne.symm e),Bool.eq_iff_iff]
  simp
  omega
theorem zhi {ls:ZA} (nd:ls.Nodup):Ord (λi j=>vX (ls.getD i []) (ls.getD j [])) ls.length:=by
 have ge:∀ i,(h:i<ls.length)->ls.getD i []=ls[i]:=λi h=>by rw [List.getD_eq_getElem?_getD,List.getElem?_eq_getElem h];rfl
 refine⟨λi j k _ _ _ h1 h2=>Vs _ _ _ h1 h2,λi j hi hj hij h=>?_,λi j hi hj h=>?_⟩
 ·have ne:ls.getD i []≠ls.getD j []:=λz=>by
   rw [ge i hi,ge j hj] at z
   exact hij ((List.getElem_inj nd).mp z)
  have:=zbg _ _ ne
  rw [h] at this
  exact this
 ·cases e:vX (ls.getD j []) (ls.getD i []) with
  | false=>rfl
  | true =>
   have:=Vs _ _ _ h e
   rw [JD] at this
   cases this
end HT
namespace L2
open PySem PySem.Spec PyProof.Rows PySem.W
section
variable {X:Cx} {pins:List (Addr×Obj)} {Z:St} {H:Hp} {s:Shared}
theorem zbq (I:Inv X pins Z H s) {p z:Addr} {n:Int} (h:H p=some (.tup [.int n,.ref z])):∃ (t:Tok) (o:Obj) (m:Nat),s.heap.get? p=some o/\o.cls=.type "tuple"/\o.data=.seq #[.int n t,.ref z] m:=by
 obtain⟨_,its,r,o,e,hc,m,hd⟩:=I.hok p _ h
 cases r with
 | cons r1 r2 =>
  cases r2 with
  | cons r3 r4 =>
   cases r4
   obtain⟨t,rfl⟩:=r1
   cases r3
   exact⟨t,o,m,e,hc,hd⟩
theorem zf4 (I:Inv X pins Z H s) {A:Around} {p q za zb:Addr} {as bs:List Int} (hp:H p=some (.tup [.int as.length,.ref za])) (hq:H q=some (.tup [.int bs.length,.ref zb])) (ha:H za=some (.lst (as.map V.int))) (hb:H zb=some (.lst (bs.map V.int)))
  (hu:A.units+2<cLine) {Q:Bool->Shared->Prop} {E:Value->Shared->Prop} (h:Q (HT.vX as bs) s):wpAny (model X.prog X.w) A (keyLt' (tuples' true) (.ref p) (.ref q)) Q E s:=by
 obtain⟨t,o,m,e,_,hd⟩:=zbq I hp
 obtain⟨t',o',m',e',_,hd'⟩:=zbq I hq
 refine kat_lt e hd e' hd' ?_
 refine kat_cons (wpAny_eqBool_int ?_)
 unfold HT.vX at h
 by_cases hl:as.length=bs.length
 ·rw [if_pos hl] at h
  have e1:((as.length:Int) == (bs.length:Int))=true:=by rw [hl];simp
  rw [e1]
  refine kat_yes (kat_cons ?_)
  refine (V3 I (A:=A) 1 (t:=xO as) (u:=xO bs) (v:=.ref za) (w:=.ref zb) (by rw [qd];exact Nat.le_refl _) (TrAt.ints (SqL.of ha)) (TrAt.ints (SqL.of hb)) rfl rfl (by omega)).eq _ _ _ _ ?_
  rw [jc]
  by_cases hab:as=bs
  ·rw [decide_eq_true hab]
   refine kat_yes (kat_nil ?_)
   rw [hab,HT.jD] at h
   exact h
  ·rw [decide_eq_false hab]
   refine kat_no (kat_one _ _ ?_)
   obtain⟨its,r1,p1,_⟩:=I.list (SqL.of ha)
   obtain⟨its2,r2,p2,_⟩:=I.list (SqL.of hb)
   exact HT.Vz p1.isList p2.isList (by simpa using intsAre_of r1) (by simpa using intsAre_of r2) (by omega) h
 ·rw [if_neg hl] at h
  have e1:((as.length:Int) == (bs.length:Int))=false:=by simp;omega
  rw [e1]
  refine kat_no ?_
  refine oneLt_int ?_
  have:decide ((as.length:Int)<(bs.length:Int))=decide (as.length<bs.length):=by
   rw [Bool.eq_iff_iff];simp
  rw [this]
  exact h
end
end L2
set_option maxHeartbeats 4000000
namespace L2
open PySem PySem.Spec PyProof.Rows PySem.W
section
variable {X:Cx} {pins:List (Addr×Obj)} {Z:St} {H:Hp} {s:Shared}
structure zdc (X:Cx) (pins:List (Addr×Obj)) (n:Nat) (a:Addr):Prop where
 s0:X.s₀.heap.objs.size<=a
 lo:a≠X.env.locals
 ce:∀ x c,X.env.cells.lookup x=some c->c≠a
 fs:a∉X.fs
 pn:∀ p∈X.pn++pins,p.1≠a
 ge:n<=a
theorem Inv.late (I:Inv X pins Z H s) {a:Addr} (h:s.heap.objs.size<=a):zdc X pins s.heap.objs.size a :=
 ⟨Nat.le_trans I.sz h,Nat.ne_of_gt (Nat.lt_of_lt_of_le I.lt h),λx c e z=>by
  obtain⟨v,o,ho,_⟩:=I.cell x c e
  rw [z] at ho
  exact absurd (Nat.lt_of_lt_of_le (Heap.lt_size ho) h) (Nat.lt_irrefl _),I.nofs h,λp hp z=>by
  obtain⟨e,_⟩:=I.pin p hp
  rw [z] at e
  exact absurd (Nat.lt_of_lt_of_le (Heap.lt_size e) h) (Nat.lt_irrefl _),h⟩
theorem Inv.tell {a:Addr} {xs:List V} {its:List Value} {n:Nat} {h':Heap} {t':Nat} (I:Inv X pins Z H s) {m:Nat} (L:zdc X pins m a) (hn:H a=none) (k:∀ b o,b≠a->s.heap.get? b=some o->h'.get? b=some o)
  (hv:Vals xs its) (hz:xs.length<=sizeLine) (ha:h'.get? a=some (seqObj "list" its.toArray n)):Inv X pins Z (upd H a (.lst xs)) { s with heap:=h',toks:=t' }:=by
 have na:∀ b u,H b=some u->b≠a:=λb u e z=>by rw [z,hn] at e;cases e
 refine I.step (g':=s.gens) (d':=s.drawn) (ch:=[a]) (λb hb=>?_) (λb o _ _ hc e _=>k b o (λz=>hc (by simp [z])) e) (λb o _ _ hc e _=>⟨o.slots,k b o (λz=>hc (by simp [z])) e⟩) (λb o hc e n=>by rw [zq (λz=>hc (by simp [z]))];exact n)
  (λb o hc e=>⟨o,k b o (λz=>hc (by simp [z])) e⟩) (λb xs e=>by rw [zq (na b _ e)];exact e) (λb o u e=>by rw [zq (na b _ e)];exact e) (λb ps e=>⟨#[],by rw [zq (na b _ e),e];simp⟩) (λm hm=>?_) (λb u e=>?_) I.bare
 ·have e:b=a:=by simpa using hb
  subst e
  exact⟨.inr L.s0,L.lo,L.ce,L.pn⟩
 ·obtain⟨o,es,ep,ho,r⟩:=hm
  exact⟨o,es,ep,k _ o (Ne.symm L.lo) ho,r⟩
 ·by_cases hb:b=a
  ·subst hb
   rw [zf] at e
   cases e
   exact⟨hz,its,n,hv,ha⟩
  ·rw [zq hb] at e
   refine (I.hok b u e).stay (λc v hc q=>k c v ?_ q) (λc q=>by rw [zq (na c _ q)];exact q) λc xs q=>by rw [zq (na c _ q)];exact q
   rcases hc with rfl | hc
   ·exact hb
   ·exact na c _ hc
def zfS (H:Hp) (zs:ZB) (pl:List Addr):Prop:=∀ j z,zs[j]?=some z->j<pl.length->∃ p,pl[j]?=some p/\H p=some (.tup [.int z.2.length,.ref z.1])
theorem kat_tups (I:Inv X pins Z H s):∀ pl:List Addr,(∀ p∈pl,∃ (n:Int) (z:Addr),H p=some (.tup [.int n,.ref z]))->∃ fs:List Value,KatTups s.heap (pl.map Value.ref) fs/\fs.length=pl.length/\∀ v∈fs,∃ n t,v=Value.int n t
 | [],_=>⟨[],KatTups.nil,rfl,λv hv=>by cases hv⟩
 | p :: pl,h=>by
  obtain⟨fs,h1,h2,h3⟩:=kat_tups I pl λq hq=>h q (.tail _ hq)
  obtain⟨n,z,e⟩:=h p (.head _)
  obtain⟨t,o,m,e1,e2,e3⟩:=zbq I e
  refine⟨.int n t :: fs,KatTups.cons e1 e2 e3 rfl h1,by simp [h2],λv hv=>?_⟩
  rcases List.mem_cons.mp hv with rfl | hv
  ·exact⟨n,t,rfl⟩
  ·exact h3 v hv
theorem zdU {zs:ZB} {f kS a:Addr} {fo:Obj} {e1:Nat} {A:Around} {P:PySem.Fin->Shared->Prop} {E:Value->Shared->Prop} {n:Nat}
  (I:Inv X ((f,fo) :: (a,seqObj "list" #[] e1) :: pins) Z H s) (La:zdc X pins n a) (Lk:zdc X ((f,fo) :: (a,seqObj "list" #[] e1) :: pins) n kS) (hkS:s.heap.get? kS=some (seqObj "list" #[] 0)) (hkn:H kS=none)
  (hz:∀ z∈zs,H z.1=some (.lst (z.2.map V.int))) (nd:(zs.map (·.2)).Nodup) (h60:zs.length<=60) (hu:A.units+2<cLine)
  (turn:∀ (H':Hp) (s':Shared) (pins':List (Addr×Obj)) (z:Addr×List Int),Inv X pins' Z H' s'->(f,fo)∈pins'->Same H H'->z∈zs ->
   wpAny (model X.prog X.w) A (call (.ref f) [.ref z.1]) (EP X pins' Z λv H2=>∃ p,v=.ref p/\H' p=none/\H2=upd H' p (.tup [.int z.2.length,.ref z.1])) (λ_ _=>False) s')
  (done:∀ (H':Hp) (s':Shared) (zs':ZB),Inv X pins Z (upd H' a (.lst (zs'.map λz=>V.ref z.1))) s'->Same H H'->H' a=none->zs'.Perm zs->zs'.Pairwise (λx y=>HT.vX x.2 y.2=true)->P (.done (.ret .none)) s') :
  wpAny (model X.prog X.w) A (ksk_rest a (.ref f) false (zs.map λz=>Value.ref z.1).toArray e1 (.ref kS)) P E s:=by
 unfold ksk_rest
 refine wpAny_bind (wpAny_rule ?_)
 first
  | rw [List.forIn_toArray]
  | (rw [<- Array.forIn_toList];simp only [List.toList_toArray])
  | rw [<- Array.forIn_toList]
 refine wpAny_bind (ksk_fold (λi s'=>∃ (H':Hp) (pl:List Addr) (e:Nat),Inv X ((f,fo) :: (a,seqObj "list" #[] e1) :: pins) Z H' s'/\s'.heap.get? kS=some (seqObj "list" (pl.map Value.ref).toArray e)/\H' kS=none/\pl.length=i/\zfS H' zs pl/\Same H H') (zs.map λz=>Value.ref z.1) 0 s
  ⟨H,[],0,I,hkS,hkn,rfl,λj z _ h=>by simp at h,Same.refl _⟩ ?step ?fin)
 case step =>
  rintro j x s' hx ⟨H',pl,e,I',hk',hkn',hpl,hkeys,sm⟩
  rw [Nat.zero_add] at hpl ⊢
  rw [List.getElem?_map] at hx
  obtain⟨z,hzj,ez⟩:=Option.map_eq_some_iff.mp hx
  subst ez
  have hzm:=List.mem_of_getElem? hzj
  have hj:j<zs.length:=(List.getElem?_eq_some_iff.mp hzj).1
  have I2:Inv X ((kS,seqObj "list" (pl.map Value.ref).toArray e) :: (f,fo) :: (a,seqObj "list" #[] e1) :: pins) Z H' s':=I'.pins_of λp hp=>by
   rcases List.mem_cons.mp hp with rfl | hp
   ·exact⟨hk',hkn',Lk.lo,Lk.fs,λv z=>by cases z⟩
   ·exact I'.pin p (List.mem_append_right _ hp)
  refine wpAny_bind (wpAny_attempt (wpAny_mono (turn H' s' _ z I2 (by simp) sm hzm) (λv s'' he=>?_) λ_ _ hF=>hF.elim))
  obtain⟨v',H2,I3,rv,p,rfl,hpf,rfl⟩:=he
  cases rv
  have pk:=I3.pin (kS,seqObj "list" (pl.map Value.ref).toArray e) (List.mem_append_right _ (.head _))
  have I4:Inv X ((f,fo) :: (a,seqObj "list" #[] e1) :: pins) Z (upd H' p (.tup [.int z.2.length,.ref z.1])) s'':=I3.pins_of λq hq=>I3.pin q (List.mem_append_right _ (.tail _ hq))
  obtain⟨c2,hc2⟩:∃ c2,(s''.heap.update kS (Obj.mapSeq (·.push (.ref p)))).get? kS=some (seqObj "list" ((pl.map Value.ref).toArray.push (.ref p)) c2):=⟨_,get?_update_seq pk.1 (·.push (.ref p))⟩
  have hsl:(pl.map Value.ref).toArray.size<=60:=by rw [List.size_toArray,List.length_map];omega
  dsimp only
  refine wpAny_bind (listUpdate_at pk.1 rfl ?_ (Nat.le_trans hsl (by decide)) (by rw [Array.size_push];exact Nat.le_trans (Nat.succ_le_succ hsl) (by decide)))
  refine wpAny_pure ⟨rfl,_,pl++[p],c2,I4.turned (t':=s''.toks) (λb o hb q=>?_) pk.2.1 Lk.lo (.inr Lk.s0) Lk.ce Lk.pn,?_,pk.2.1,by rw [List.length_append,List.length_singleton,hpl],λi y hy hi=>?_,sm.trans (zj hpf)⟩
  ·rw [Heap.get?_update_other _ _ (Ne.symm hb)];exact q
  ·rw [hc2];simp
  ·by_cases hlt:i<pl.length
   ·obtain⟨p',e1',e2'⟩:=hkeys i y hy hlt
    exact⟨p',by rw [List.getElem?_append_left hlt];exact e1',by rw [zq (zy e2' hpf)];exact e2'⟩
   ·have ei:i=pl.length:=by rw [List.length_append,List.length_singleton] at hi;omega
    have ej:i=j:=by omega
    rw [ej,hzj] at hy
    cases hy
    exact⟨p,by rw [ei];simp,zf⟩
 case fin =>
  rintro s' ⟨H',pl,e,I',hk',hkn',hpl,hkeys,sm⟩
  rw [Nat.zero_add,List.length_map] at hpl
  try dsimp only
  refine wpAny_bind (listItems_at hk' rfl ?_)
  have ga:=I'.pin (a,seqObj "list" #[] e1) (List.mem_append_right _ (.tail _ (.head _)))
  have Ip:Inv X pins Z H' s':=I'.pins_of λq hq=>I'.pin q (by
   rcases List.mem_append.mp (List.mem_append_right X.pn hq) with h | h
   ·exact List.mem_append_left _ h
   ·exact List.mem_append_right _ (.tail _ (.tail _ h)))
  have nka:kS≠a:=λz=>Lk.pn (a,seqObj "list" #[] e1) (List.mem_append_right _ (.tail _ (.head _))) z.symm
  have tail:∀ (st:SortSt) (zs':ZB),(arrOf st).map (·.2)=(zs'.map λz=>Value.ref z.1).toArray->failedOf st=none->zs'.Perm zs->zs'.Pairwise (λx y=>HT.vX x.2 y.2=true) ->
    wpAny (model X.prog X.w) A (ksk_tail a false e1 (.ref kS) st) P E s':=by
   intro st zs' hout hfl pm pw
   have hlen:zs'.length<=60:=by rw [pm.length_eq];exact h60
   have s1:=Heap.SameBut.update s'.heap kS (Obj.mapSeq λ_=>(#[]:Array Value))
   have na1:(s'.heap.update kS (Obj.mapSeq λ_=>(#[]:Array Value))).get? a=some (seqObj "list" #[] e1):=(s1.2 a nka.symm).trans ga.1
   obtain⟨c2,hc2⟩:∃ c2,((s'.heap.update kS (Obj.mapSeq λ_=>(#[]:Array Value))).update a (Obj.mapSeq λ_=>(zs'.map λz=>Value.ref z.1).toArray)).get? a=some (seqObj "list" (zs'.map λz=>Value.ref z.1).toArray c2) :=
    ⟨_,get?_update_seq na1 λ_=>(zs'.map λz=>Value.ref z.1).toArray⟩
   have I5:Inv X pins Z H' { s' with heap:=s'.heap.update kS (Obj.mapSeq λ_=>(#[]:Array Value)),toks:=s'.toks }:=Ip.turned (λb o hb q=>by rw [Heap.get?_update_other _ _ (Ne.symm hb)];exact q) hkn' Lk.lo (.inr Lk.s0) Lk.ce (λq hq=>Lk.pn q (by
    rcases List.mem_append.mp hq with h | h
    ·exact List.mem_append_left _ h
    ·exact List.mem_append_right _ (.tail _ (.tail _ h))))
   have I6:=I5.tell (t':=s'.toks) (h':=(s'.heap.update kS (Obj.mapSeq λ_=>(#[]:Array Value))).update a (Obj.mapSeq λ_=>(zs'.map λz=>Value.ref z.1).toArray)) La ga.2.1 (λb o hb q=>by rw [Heap.get?_update_other _ _ (Ne.symm hb)];exact q) (W5 zs') (by rw [List.length_map];exact Nat.le_trans hlen (by decide)) hc2
   unfold ksk_tail
   try dsimp only
   refine wpAny_bind (listUpdate_at hk' rfl ?_ (by rw [List.size_toArray,List.length_map,hpl];exact Nat.le_trans h60 (by decide)) (Nat.zero_le _))
   refine wpAny_bind (wpAny_letGo ?_)
   refine wpAny_bind (seqEpoch_at na1 rfl ?_)
   simp only [Bool.false_eq_true,if_false]
   rw [hout]
   refine wpAny_bind (listUpdate_at na1 rfl ?_ (Nat.zero_le _) (by rw [List.size_toArray,List.length_map];exact Nat.le_trans hlen (by decide)))
   rw [hfl]
   simp only [bne_self_eq_false,Bool.false_eq_true,if_false]
   exact wpAny_pure (done H' _ zs' I6 sm ga.2.1 pm pw)
  unfold ksk_end
  try dsimp only
  simp only [Bool.false_eq_true,if_false]
  have hvl:(zs.map λz=>Value.ref z.1).toArray.size=zs.length:=by rw [List.size_toArray,List.length_map]
  by_cases h2:(zs.map λz=>Value.ref z.1).toArray.size<2
  ·rw [if_pos h2,if_pos h2]
   refine wpAny_bind (wpAny_pure ?_)
   rw [StateT.run_pure]
   refine wpAny_bind (wpAny_pure ?_)
   try dsimp only
   refine tail _ zs ?_ rfl (List.Perm.refl _) ?_
   ·show (((pl.map Value.ref).toArray.zip (zs.map λz=>Value.ref z.1).toArray).map (·.2))=_
    apply Array.toList_inj.mp
    rw [Array.toList_map,Array.toList_zip,List.map_snd_zip (by simp [hpl])]
   ·rw [hvl] at h2
    match zs,h2 with
    | [],_=>exact .nil
    | [_],_=>exact List.pairwise_singleton _ _
  ·rw [if_neg h2,if_neg h2]
   rw [hvl] at h2
   have hkl:(pl.map Value.ref).length=(zs.map λz=>Value.ref z.1).length:=by rw [List.length_map,List.length_map,hpl]
   have hk2:∀ j,j<zs.length->∃ p,pl[j]?=some p/\H' p=some (.tup [.int (zs.getD j (0,[])).2.length,.ref (zs.getD j (0,[])).1])/\zs.getD j (0,[])∈zs:=λj hj=>by
    have e:zs.getD j (0,[])=zs[j]:=by rw [List.getD_eq_getElem?_getD,List.getElem?_eq_getElem hj];rfl
    rw [e]
    obtain⟨p,e1,e2⟩:=hkeys j zs[j] (List.getElem?_eq_getElem hj) (by omega)
    exact⟨p,e1,e2,List.getElem_mem hj⟩
   obtain⟨fs,ht,hfl,hfi⟩:=kat_tups I' pl λp hp=>by
    obtain⟨j,hj,rfl⟩:=List.getElem_of_mem hp
    obtain⟨p',e1,e2,_⟩:=hk2 j (by omega)
    rw [List.getElem?_eq_getElem hj] at e1
    cases e1
    exact⟨_,_,e2⟩
   refine wpAny_bind (kat_kind (T:=.type "int") ht (by omega) (λv hv=>?_) (by decide) ?_)
   ·obtain⟨n,t,rfl⟩:=hfi v hv
    exact Looks.of_pure rfl
   have ls2:(zs.map (·.2)).length=zs.length:=List.length_map ..
   have ask:(kas_sort (zs.map λz=>Value.ref z.1).length).kasWp (kas_ask X.prog X.w A (tuples' true) (pl.map Value.ref)) (λp s''=>s''=s'/\(HT.Pm zs.length p/\HT.Up (λi j=>HT.vX ((zs.map (·.2)).getD i []) ((zs.map (·.2)).getD j [])) p zs.length)) s':=by
    rw [List.length_map]
    have O:=HT.zhi nd
    rw [ls2] at O
    refine HT.KW.wp (n:=zs.length) (λi j C hi hj hC=>?_) _ (HT.zfr O (by omega))
    obtain⟨p,e1,e2,e3⟩:=hk2 i hi
    obtain⟨q,d1,d2,d3⟩:=hk2 j hj
    have ei:(zs.map (·.2)).getD i []=(zs.getD i (0,[])).2:=by rw [List.getD_eq_getElem?_getD,List.getD_eq_getElem?_getD,List.getElem?_map,List.getElem?_eq_getElem hi];rfl
    have ej:(zs.map (·.2)).getD j []=(zs.getD j (0,[])).2:=by rw [List.getD_eq_getElem?_getD,List.getD_eq_getElem?_getD,List.getElem?_map,List.getElem?_eq_getElem hj];rfl
    have gi:(pl.map Value.ref).getD i Value.none=.ref p:=by rw [List.getD_eq_getElem?_getD,List.getElem?_map,e1];rfl
    have gj:(pl.map Value.ref).getD j Value.none=.ref q:=by rw [List.getD_eq_getElem?_getD,List.getElem?_map,d1];rfl
    unfold kas_ask
    rw [gi,gj]
    refine zf4 I' e2 d2 (sm _ _ (hz _ e3)) (sm _ _ (hz _ d3)) hu ?_
    try dsimp only at hC
    rw [ei,ej] at hC
    exact hC
   have eT:(Value.type "int" != Value.type "tuple")=true:=by decide
   rw [eT]
   refine wpAny_bind (wpAny_mono (kat_run (ks:=pl.map Value.ref) (vs:=zs.map λz=>Value.ref z.1) (Q:=λst' s''=>∃ p:Array Nat,s''=s'/\arrOf st'=p.map (kas_item ((pl.map Value.ref).toArray.zip (zs.map λz=>Value.ref z.1).toArray))/\failedOf st'=none/\HT.Pm zs.length p/\HT.Up (λi j=>HT.vX ((zs.map (·.2)).getD i []) ((zs.map (·.2)).getD j [])) p zs.length)
    hkl (by rw [List.length_map];omega) (by rw [List.length_map];omega) (λp st' s'' _ a2 a3 a4=>⟨p,a4.1,a2,a3,a4.2⟩) ask) ?_ λ_ _ e=>e)
   rintro⟨⟨⟩,st'⟩ s'' ⟨p,rfl,har,hfl2,hpm,hup⟩
   try dsimp only
   have hout:=kat_snds hkl har
   have hpl2:p.toList.length=zs.length:=by rw [hpm.pm.length_eq,List.length_range]
   refine tail st' (p.toList.map λi=>zs.getD i (0,[])) ?_ hfl2 (HT.Ji _ zs hpm.pm) ?_
   ·rw [hout,List.map_map]
    congr 1
    refine List.map_congr_left λi hi=>?_
    have hi':=List.mem_range.mp (hpm.pm.mem_iff.mp hi)
    show _=Value.ref (zs.getD i (0,[])).1
    rw [List.getD_eq_getElem?_getD,List.getD_eq_getElem?_getD,List.getElem?_map,List.getElem?_eq_getElem hi'];rfl
   ·rw [List.pairwise_map,List.pairwise_iff_getElem]
    intro i j hi hj hij
    have q1:=hup i j hij (by omega)
    have e1:p.getD i 0=p.toList[i]:=by
     have:i<p.size:=by rw [hpm.sz];omega
     simp [Array.getD,this]
    have e2:p.getD j 0=p.toList[j]:=by
     have:j<p.size:=by rw [hpm.sz];omega
     simp [Array.getD,this]
    rw [e1,e2] at q1
    have m1:=List.mem_range.mp (hpm.pm.mem_iff.mp (List.getElem_mem hi))
    have m2:=List.mem_range.mp (hpm.pm.mem_iff.mp (List.getElem_mem hj))
    have ei:(zs.map (·.2)).getD p.toList[i] []=(zs.getD p.toList[i] (0,[])).2:=by rw [List.getD_eq_getElem?_getD,List.getD_eq_getElem?_getD,List.getElem?_map,List.getElem?_eq_getElem m1];rfl
    have ej:(zs.map (·.2)).getD p.toList[j] []=(zs.getD p.toList[j] (0,[])).2:=by rw [List.getD_eq_getElem?_getD,List.getD_eq_getElem?_getD,List.getElem?_map,List.getElem?_eq_getElem m2];rfl
    try dsimp only at q1
    rw [ei,ej] at q1
    exact q1
theorem zaL {zs:ZB} {f l:Addr} {fo:Obj} {Q:VK} (I:Inv X ((f,fo) :: pins) Z H s) (hl:H l=some (.lst (zs.map λz=>V.ref z.1))) (hz:∀ z∈zs,H z.1=some (.lst (z.2.map V.int))) (nd:(zs.map (·.2)).Nodup) (h60:zs.length<=60)
  (hu:X.A.in1.in1.units+2<cLine)
  (turn:∀ (H':Hp) (s':Shared) (pins':List (Addr×Obj)) (z:Addr×List Int),Inv X pins' Z H' s'->(f,fo)∈pins'->Same H H'->z∈zs ->
   wpAny (model X.prog X.w) X.A.in1.in1 (call (.ref f) [.ref z.1]) (EP X pins' Z λv H2=>∃ p,v=.ref p/\H' p=none/\H2=upd H' p (.tup [.int z.2.length,.ref z.1])) (λ_ _=>False) s')
  (q:∀ (D:Addr) (H':Hp) (zs':ZB),H D=none->Same H H'->H' D=none->zs'.Perm zs->zs'.Pairwise (λx y=>HT.vX x.2 y.2=true)->Q (.ref D) (upd H' D (.lst (zs'.map λz=>V.ref z.1)))) :
  wpAny (model X.prog X.w) X.A (call (.builtin "sorted") [.ref l] [(Str.ofString "key",.ref f)]) (EP X pins Z Q) X.xe s:=by
 obtain⟨its,r1,p1,_⟩:=I.list (SqL.of hl)
 have e1:=Jl r1
 subst e1
 have hvl:(zs.map λz=>Value.ref z.1).length=zs.length:=List.length_map ..
 have hsl:(zs.map λz=>Value.ref z.1).length<=sizeLine:=by rw [hvl,sizeLine_eq];omega
 refine call_function_entry_kw kind_sorted plain_sorted entry_sorted (ksk_s1 _ _) ?_
 unfold Builtin.«sorted»
 refine wpAny_bind (m:=checkCount "sorted" 1 1 _) (wpAny_pure (wpAny_bind (collect_list p1.isList (wpAny_bind (wpAny_newList ?_ hsl)) hsl)))
 generalize hB:(s.heap.push (seqObj "list" #[] 0)).update s.heap.objs.size (Obj.mapSeq (·++(zs.map λz=>Value.ref z.1).toArray))=B
 have hsz:B.objs.size=s.heap.objs.size+1:=by rw [<- hB,Heap.size_update,size_push']
 have keep:∀ b o,s.heap.get? b=some o->(B.push (seqObj "list" (zs.map λz=>Value.ref z.1).toArray 0)).get? b=some o:=λb o q=>by
  have hlt:b<s.heap.objs.size:=Heap.lt_size q
  rw [Heap.get?_push_ne _ _ _ (by rw [hsz];exact Nat.ne_of_lt (Nat.lt_succ_of_lt hlt)),<- hB,Heap.get?_update_ne _ _ _ _ (Nat.ne_of_lt hlt),Heap.get?_push_ne _ _ _ (Nat.ne_of_lt hlt)];exact q
 have hoL:(B.push (seqObj "list" (zs.map λz=>Value.ref z.1).toArray 0)).get? (s.heap.objs.size+1)=some (seqObj "list" (zs.map λz=>Value.ref z.1).toArray 0):=by
  rw [<- hsz];exact Heap.get?_push_size _ rfl
 have hszB:(B.push (seqObj "list" (zs.map λz=>Value.ref z.1).toArray 0)).objs.size=s.heap.objs.size+2:=by rw [size_push',hsz]
 show wpAny _ _ _ _ _ { s with heap:=B.push (seqObj "list" (zs.map λz=>Value.ref z.1).toArray 0) }
 dsimp only
 rw [hsz]
 refine wpAny_bind (wpAny_holding (wpAny_call_entry_kw slot_list_sort ⟨_,hoL,rfl⟩ entry_list_sort ?body (ksk_l1 _ _)))
 case body =>
  show wpAny (model X.prog X.w) X.A.in1.in1 (Builtin.«list.sort» ⟨[.ref (s.heap.objs.size+1)],[(Str.ofString "key",.ref f)]⟩) _ _ _
  rw [ksk_t1]
  unfold ksk_tree
  generalize hG:B.push (seqObj "list" (zs.map λz=>Value.ref z.1).toArray 0)=G at keep hoL hszB
  generalize hLd:s.heap.objs.size+1=L at hoL
  have hLG:L<G.objs.size:=Heap.lt_size hoL
  obtain⟨e1,ho1⟩:∃ e1,(G.update L (Obj.mapSeq λ_=>(#[]:Array Value))).get? L=some (seqObj "list" #[] e1):=⟨_,get?_update_seq hoL λ_=>#[]⟩
  refine wpAny_bind (listItems_at (s:={ s with heap:=G }) hoL rfl ?_)
  refine wpAny_bind (listUpdate_at (s:={ s with heap:=G }) hoL rfl ?_ (by rw [List.size_toArray];exact hsl) (Nat.zero_le _))
  refine wpAny_bind (seqEpoch_at ho1 rfl ?_)
  refine wpAny_bind (wpAny_newTuple ?_ (by show (zs.map λz=>Value.ref z.1).length<=_;exact hsl))
  refine wpAny_bind (wpAny_newList ?_ (Nat.zero_le _))
  refine wpAny_holding ?_
  generalize hM:(G.update L (Obj.mapSeq λ_=>(#[]:Array Value))).push (seqObj "tuple" (zs.map λz=>Value.ref z.1).toArray 0)=M
  have hMs:M.objs.size=s.heap.objs.size+3:=by rw [<- hM,size_push',Heap.size_update,hszB]
  have hkS:(M.push (seqObj "list" #[] 0)).get? (s.heap.objs.size+3)=some (seqObj "list" #[] 0):=by rw [<- hMs];exact Heap.get?_push_size _ rfl
  have hL2:(M.push (seqObj "list" #[] 0)).get? L=some (seqObj "list" #[] e1):=Heap.get?_push_of_some _ (by rw [<- hM];exact Heap.get?_push_of_some _ ho1)
  have keep2:∀ b o,s.heap.get? b=some o->(M.push (seqObj "list" #[] 0)).get? b=some o:=λb o q=>by
   have hlt:b<s.heap.objs.size:=Heap.lt_size q
   refine Heap.get?_push_of_some _ ?_
   rw [<- hM]
   refine Heap.get?_push_of_some _ ?_
   rw [Heap.get?_update_ne _ _ _ _ (by rw [<- hLd];exact Nat.ne_of_lt (Nat.lt_succ_of_lt hlt))]
   exact keep b o q
  have La0:=I.late (a:=L) (by rw [<- hLd];exact Nat.le_succ _)
  have Lk0:=I.late (a:=s.heap.objs.size+3) (by omega)
  have I1:Inv X ((f,fo) :: pins) Z H { s with heap:=M.push (seqObj "list" #[] 0),toks:=s.toks }:=I.kept keep2
  have hLn:H L=none:=I.hok.fresh (by rw [<- hLd];exact Nat.le_succ _)
  have I2:Inv X ((f,fo) :: (L,seqObj "list" #[] e1) :: pins) Z H { s with heap:=M.push (seqObj "list" #[] 0),toks:=s.toks }:=I1.pins_of λp hp=>by
   rcases List.mem_cons.mp hp with rfl | hp
   ·exact I1.pin _ (List.mem_append_right _ (.head _))
   ·rcases List.mem_cons.mp hp with rfl | hp
    ·exact⟨hL2,hLn,La0.lo,La0.fs,λv z=>by cases z⟩
    ·exact I1.pin p (List.mem_append_right _ (.tail _ hp))
  have La:zdc X pins s.heap.objs.size L:=⟨La0.s0,La0.lo,La0.ce,La0.fs,λp hp=>La0.pn p (by
   rcases List.mem_append.mp hp with h | h
   ·exact List.mem_append_left _ h
   ·exact List.mem_append_right _ (.tail _ h)),La0.ge⟩
  have Lk:zdc X ((f,fo) :: (L,seqObj "list" #[] e1) :: pins) s.heap.objs.size (s.heap.objs.size+3):=⟨Lk0.s0,Lk0.lo,Lk0.ce,Lk0.fs,λp hp=>by
   rcases List.mem_append.mp hp with h | h
   ·exact Lk0.pn p (List.mem_append_left _ h)
   ·rcases List.mem_cons.mp h with rfl | h
    ·exact Lk0.pn _ (List.mem_append_right _ (.head _))
    ·rcases List.mem_cons.mp h with rfl | h
     ·show L≠_
      rw [<- hLd];omega
     ·exact Lk0.pn p (List.mem_append_right _ (.tail _ h)),Lk0.ge⟩
  rw [hMs]
  refine zdU (s:={ s with heap:=M.push (seqObj "list" #[] 0) }) I2 La Lk hkS (I.hok.fresh (by omega)) hz nd h60 hu turn λH' s' zs' I' sm hn pm pw=>⟨_,rfl,?_⟩
  exact wpAny_pure ⟨_,rfl,.ref L,_,I',rfl,q L H' zs' hLn sm hn pm pw⟩
end
section
variable {X:Cx} {Z:St} {H:Hp} {s:Shared} {params:Arguments} {body:Expr} {scope:Scope} {pos lpos kpos p:Pos} {c P:Addr} {y:Str} {e:Expr} {te:TE}
theorem zdC {pins:List (Addr×Obj)} {f c':Addr} {q:Str} {pm ct:Value} {k:Nat} {v:V} {u:Value} {Q:VK} (I:Inv X pins Z H s) (hf:(f,kla_obj "<lambda>" q params body scope [] pm c' ct)∈pins) (hL:zci P lpos q H c') (S:zF [y] [y] scope) (hr:Room (k+1) X.A.in1.in1)
  (hb:∀ (pm ct:Value) (u:Value),bindArgs (kla_fn "<lambda>" q params body scope [] pm (.ref c') ct) ⟨[u],[]⟩=pure [(y,u)]) (rv:RelV v u)
  (hbody:∃ t,PE (VP CX0 X.prog X.w X.K X.mg X.base [y] q scope f (.ref c') X.A.in1.in1 X.stack s H E0) body t/\t (start [y] [v]) H Q) :
  wpAny (model X.prog X.w) X.A.in1.in1 (call (.ref f) [u]) (EP X pins Z Q) (λ_ _=>False) s:=by
 have pf:=I.pin _ (List.mem_append_right X.pn hf)
 have hcd:s.heap.CodeRec (.ref c') q:=(I.hok c' _ hL.2).1
 refine wpAny_call (codeAny_mono (zeJ (k:=k) (N:=[y]) (ps:=[y]) (us:=[u]) (vs:=[v]) (E:=E0) pf.1 rfl hcd S hr I.env0.in1.in1 (BindsTo.of_eq (hb pm ct u)) rfl (.cons rv .nil) hbody) λr s' hq=>?_)
 cases r with
 | error e=>exact hq
 | ok fl =>
  cases fl with
  | ret u=>exact I.after hq
  | next=>exact False.elim hq
  | brk=>exact False.elim hq
  | cont=>exact False.elim hq
def zdx (P:Addr) (lpos:Pos) (q:Str) (te:TE):TE:=λZ H Q=>te Z H λx H1=>∃ (l:Addr) (zs:ZB),x=.ref l/\H1 l=some (.lst (zs.map λz=>V.ref z.1))/\(∀ z∈zs,H1 z.1=some (.lst (z.2.map V.int)))/\(zs.map (·.2)).Nodup/\zs.length<=60/\Wb P lpos q H1 /\
 ∀ (D:Addr) (zs':ZB) (H2:Hp),H1 D=none->H2 D=none->(∀ b u,b≠P->H1 b=some u->H2 b=some u)->Wb P lpos q H2->zs'.Perm zs->zs'.Pairwise (λx y=>HT.vX x.2 y.2=true)->Q (.ref D) (upd H2 D (.lst (zs'.map λz=>V.ref z.1)))
theorem zbk {k:Nat} (he:PE X e te) (hg:Gl X "sorted") (hm:X.mg "sorted" = none) (hr:Room (k+3) X.A) (hdef:defaultsOf params X.env=([],[])) (hcl:closureFor scope X.env=pure []) (hcode:X.env.code=.ref c) (hK:codeHdIn X.K c P=true) (hB:X.base.BuiltinsAt X.mg P) (hgP:mainGlobals≠P)
  (S:zF [y] [y] scope) (hb:∀ (pm cd ct:Value) (u:Value),bindArgs (kla_fn "<lambda>" (X.env.qual ++ "<lambda>") params body scope [] pm cd ct) ⟨[u],[]⟩=pure [(y,u)])
  (hbody:∀ (f c':Addr) (s:Shared) (H:Hp) (z:Addr×List Int),H z.1=some (.lst (z.2.map V.int))->∃ t,PE (VP CX0 X.prog X.w X.K X.mg X.base [y] (X.env.qual ++ "<lambda>") scope f (.ref c') X.A.in1.in1 X.stack s H E0) body t /\
   t (start [y] [.ref z.1]) H λv H2=>∃ p,v=.ref p/\H p=none/\H2=upd H p (.tup [.int z.2.length,.ref z.1]))
  (hs1:starEach [e] X.env=[(false,eval e X.env)]:=by rfl) :
  PE X (.Call (.Name "sorted" p) [e] [⟨some "key",.Lambda params body scope lpos,kpos⟩] pos) (zdx P lpos (X.env.qual ++ "<lambda>") te):=by
 intro pins s Z H Q I h
 refine wpAny_Call_Name_kw (jm I hg hm boot_sorted ?_ (by decide) (by decide))
 have ha:PA X [e] (zfh te zgr):=zc he zg hs1
 refine callWith_kw (thn (ha pos pins s Z H (λvs H1=>match vs with
  | [x]=>∃ (l:Addr) (zs:ZB),x=.ref l/\H1 l=some (.lst (zs.map λz=>V.ref z.1))/\(∀ z∈zs,H1 z.1=some (.lst (z.2.map V.int)))/\(zs.map (·.2)).Nodup/\zs.length<=60/\Wb P lpos (X.env.qual ++ "<lambda>") H1 /\
   ∀ (D:Addr) (zs':ZB) (H2:Hp),H1 D=none->H2 D=none->(∀ b u,b≠P->H1 b=some u->H2 b=some u)->Wb P lpos (X.env.qual ++ "<lambda>") H2->zs'.Perm zs->zs'.Pairwise (λx y=>HT.vX x.2 y.2=true)->Q (.ref D) (upd H2 D (.lst (zs'.map λz=>V.ref z.1)))
  | _=>False) I h) λus s1 ⟨vs,H1,I1,r1,q1⟩=>?_) (by rw [hs1];rfl) (by rw [hs1];rfl)
 match vs,q1 with
 | [x],q1 =>
  obtain⟨l,zs,rfl,hl,hz,nd,h60,hT,q⟩:=q1
  obtain⟨u,rfl,rx⟩:=vals1 r1
  cases rx
  show wpAny _ _ (evalAll ((do let v <- eval (.Lambda params body scope lpos) X.env;standAt pos;pure v) :: [])) _ _ s1
  refine wpAny_evalAll_cons (wpAny_bind (zdr I1 hdef hcl hcode hK hB hgP hT λf c' H2 s2 pm ct I2 hL hfo hfn hsz up=>wpAny_bind (wpAny_standAt (wpAny_pure ?_))))
  refine wpAny_evalAll_nil ?_
  have Lf:=I1.late hsz
  have I3:Inv X ((f,kla_obj "<lambda>" (X.env.qual ++ "<lambda>") params body scope [] pm c' ct) :: pins) Z H2 s2:=I2.pins_of λp hp=>by
   rcases List.mem_cons.mp hp with rfl | hp
   ·exact⟨hfo,hfn,Lf.lo,Lf.fs,λv z=>by cases z⟩
   ·exact I2.pin p (List.mem_append_right _ hp)
  have hPl:∀ b xs,H1 b=some (.lst xs)->b≠P:=λb xs e z=>by
   rw [z] at e
   rcases hT with t | ⟨c2,t,_⟩
   ·rw [t] at e;cases e
   ·rw [t] at e;cases e
  have hr2:Room (k+1) X.A.in1.in1:=(hr.in1).in1
  show wpAny _ _ (call (.builtin "sorted") [.ref l] [(Str.ofString "key",.ref f)]) _ _ s2
  refine zaL I3 (up _ _ (hPl _ _ hl) hl) (λz hzm=>up _ _ (hPl _ _ (hz z hzm)) (hz z hzm)) nd h60 (by have:=hr2.units;omega) (λH' s' pins' z I' hf sm hzm=>?_) λD H' zs' hD sm hn pm pw=>?_
  ·have hL':zci P lpos (X.env.qual ++ "<lambda>") H' c':=⟨sm _ _ hL.1,sm _ _ hL.2⟩
   exact zdC (v:=.ref z.1) I' hf hL' S hr2 (λpm ct u=>hb pm (.ref c') ct u) rfl (hbody f c' s' H' z (sm _ _ (up _ _ (hPl _ _ (hz z hzm)) (hz z hzm))))
  ·refine q D zs' H' ?_ hn (λb u hb e=>sm _ _ (up b u hb e)) (.inr ⟨c',sm _ _ hL.1,sm _ _ hL.2⟩) pm pw
   cases e:H1 D with
   | none=>rfl
   | some u =>
    by_cases hDP:D=P
    ·rw [hDP,hL.1] at hD;cases hD
    ·rw [up D u hDP e] at hD;cases hD
end
theorem zcM {P:Program} {w:World} {K:Frag} {mg mb:Str->Option Value} {CX:CXT} {k:Nat} {fa a c T:Addr} {fd:FuncData} {x:Str} {sp:Sp} {s₁:Shared} {vs:List Value} {ns:List Int}
  (KX:K.In s₁.heap) (hns:s₁.heap.Ns mainGlobals mg) (hb:s₁.heap.Ns builtinsNs mb) (hbb:∀ x:Str,x ≠ "__name__"->mb x=bootBuiltins x) (hlim:s₁.heap.NoLimit) (hg:s₁.gens=#[])
  (hBM:∃ bm ob,mg "__builtins__" = some (.ref bm)/\bm≠builtinsNs/\s₁.heap.get? bm=some ob/\ob.cls=.type "module"/\ob.dict=some builtinsNs/\ob.data=.plain)
  (hT:s₁.heap.get? T=some (tabObj #[])) (hKT:K.lookup T=none) (hcT:codeHdIn K c T=true)
  (ha:s₁.heap.get? a=some { cls:=.type "list",data:=.seq vs.toArray }) (hi:IntsAre vs ns) (hl:ns.length<=sizeLine) (hr:Room k callerA)
  (F:∀ base:Heap,K.In base->base.Ns mainGlobals mg->base.BuiltinsAt mg T->FnOk P w K mg base CX k fa fd [x] sp) (hbind:∀ (s:Shared) (u:Value),BindsTo s fd ⟨[u],[]⟩ [(x,u)])
  (hsp:∀ H:Hp,H T=some (.tbl #[])->SqL K H a (ns.map V.int)->sp [.ref a] H (λv _=>v=.bl true) λ_ _ _=>False)
  (hCX:∀ H e s',CX [] H s₁ (λ_ _ _=>False) e s'->False) :
  codeAny (model P w) callerA (.call (.ref fa) ⟨[.ref a],[]⟩) (λr s'=>r=.ok (.ret (.bool true))/\OldK s₁.heap s'.heap/\s'.os=s₁.os/\AllBare s'.gens) s₁:=by
 have rv:=Q0 hi
 have lenV:=hi.length
 have tabT:s₁.heap.TableAt c T #[]:=(codeHd_of_K KX hcT).tab hT
 have core:∀ H:Hp,H T=some (.tbl #[])->SqL K H a (ns.map V.int)->HOk P w H s₁.heap->(∀ b,H b≠none->b=a\/b=T)->(∀ b,b≠T->H b=none\/∃ o xs,H b=some (.frz o (.lst xs)))->(∀ b,H b≠none->K.lookup b=none) ->
   codeAny (model P w) callerA (.call (.ref fa) ⟨[.ref a],[]⟩) (λr s'=>r=.ok (.ret (.bool true))/\OldK s₁.heap s'.heap/\s'.os=s₁.os/\AllBare s'.gens) s₁:=by
  intro H hHT hS hok hA hO hK
  have base_of:∀ {b:Addr} {o:Obj},s₁.heap.get? b=some o->H b=none->(QM s₁.heap H).get? b=some o:=λe n=>zdW e n
  have noA:∀ {b:Addr} {o:Obj},s₁.heap.get? b=some o->(∀ xs n,o.data≠.seq xs n)->(∀ ps,o.data≠.fields ps)->H b=none:=λ{b o} e d1 d2=>by
   cases q:H b with
   | none=>rfl
   | some u =>
    rcases hA b (by rw [q];simp) with e' | e'
    ·subst e'
     rw [ha] at e;cases e
     exact absurd rfl (d1 _ _)
    ·subst e'
     rw [hT] at e;cases e
     exact absurd rfl (d2 _)
  have nsK:∀ {b:Addr} {m:Str->Option Value},s₁.heap.Ns b m->(QM s₁.heap H).Ns b m:=λ{b m} ⟨o,es,ep,e,d,r⟩=>⟨o,es,ep,base_of e (noA e (λxs n z=>by rw [d] at z;cases z) (λps z=>by rw [d] at z;cases z)),d,r⟩
  have hKb:K.In (QM s₁.heap H):=λb o e=>base_of (KX b o e) (by
   cases q:H b with
   | none=>rfl
   | some u=>rw [hK b (by rw [q];simp)] at e;cases e)
  have hM:Mod K mg (QM s₁.heap H):=⟨hKb,nsK hns,⟨mb,nsK hb,hbb⟩,let ⟨mc,h1,h2⟩:=hlim;⟨mc,nsK h1,h2⟩⟩
  have hBA:(QM s₁.heap H).BuiltinsAt mg T:=by
   obtain⟨bm,ob,b1,b2,b3,b4,b5,b6⟩:=hBM
   refine⟨bm,ob,b1,b2,λz=>?_,λz=>?_,base_of b3 (noA b3 (λxs n z=>by rw [b6] at z;cases z) (λps z=>by rw [b6] at z;cases z)),b4,b5,b6⟩
   ·obtain⟨o,es,ep,e,hd,_⟩:=hns
    rw [z,e] at b3;cases b3
    rw [hd] at b6;cases b6
   ·rw [z,hT] at b3;cases b3;cases b4
  have e0:Env0 P w K mg (QM s₁.heap H) callerA [] s₁ H:=⟨rfl,hM,λb o e=>ze1 e,Nat.le_of_eq (zde _ _),trivial,λb hb=>absurd (show b∈([]:List Addr) from hb) (by simp),hok,.of_eq hg⟩
  refine codeAny_mono ((F _ hKb (nsK hns) hBA).run callerA [] s₁ H ⟨[.ref a],[]⟩ [.ref a] [.ref a] _ _ hr e0 (hbind s₁ (.ref a)) (.cons rfl .nil) (hsp H hHT hS)) λr s' h=>?_
  cases r with
  | error e=>exact (hCX H e s' h).elim
  | ok fl =>
   cases fl with
   | next=>exact False.elim h
   | brk=>exact False.elim h
   | cont=>exact False.elim h
   | ret u =>
    obtain⟨v,H',os,bare,un,hok',r',q⟩:=h
    have q':v=.bl true:=q
    subst q'
    obtain rfl:u=Value.bool true:=r'
    have oth:∀ b o,b≠T->s₁.heap.get? b=some o->s'.heap.get? b=some o:=λb o hbT e=>by
     cases q:H b with
     | none=>exact un.keep b o e q (by intro z;exact absurd (show b∈([]:List Addr) from z) (by simp)) (by simp)
     | some u =>
      rcases hO b hbT with z | ⟨ob,xs,z⟩
      ·rw [q] at z;cases z
      ·have z2:=un.frzs b ob _ z
       obtain⟨e1,_⟩:=hok b _ z
       obtain⟨e2,_⟩:=hok' b _ z2
       rw [e] at e1;cases e1
       exact e2
    obtain⟨more,hm⟩:=un.tbls T _ hHT
    have hTm:s'.heap.get? T=some { cls:=.none,data:=.fields (#[]++more) }:=hok' T _ hm
    refine⟨rfl,⟨λb o e=>?_,λb o e=>?_⟩,os,bare⟩
    ·by_cases hbT:b=T
     ·subst hbT
      rw [hT] at e;cases e
      exact .inr (.inl ⟨tabT.isCodeTable,rfl,#[],more,rfl,hTm⟩)
     ·exact .inl (oth b o hbT e)
    ·by_cases hbT:b=T
     ·subst hbT;exact⟨_,hTm⟩
     ·exact⟨o,oth b o hbT e⟩
 have hTa:T≠a:=λz=>by rw [z,ha] at hT;cases hT
 cases hk:K.lookup a with
 | some o =>
  have e:=KX a o hk
  rw [ha] at e
  cases e
  refine core (λb=>if b=T then some (.tbl #[]) else none) (if_pos rfl) (.inr ⟨_,vs.toArray,_,hk,rfl,rfl,rfl,by rw [List.size_toArray,lenV];exact hl,by simpa using rv⟩) (λb u z=>?_) (λb z=>?_) (λb hb=>.inl (if_neg hb)) λb z=>?_
  ·by_cases hb:b=T
   ·have z':=(if_pos hb).symm.trans z
    cases z'
    subst hb
    exact hT
   ·have z':=(if_neg hb).symm.trans z
    cases z'
  ·by_cases hb:b=T
   ·exact .inr hb
   ·exact absurd (if_neg hb) z
  ·by_cases hb:b=T
   ·rw [hb];exact hKT
   ·exact absurd (if_neg hb) z
 | none =>
  refine core (λb=>if b=a then some (.frz { cls:=.type "list",data:=.seq vs.toArray } (.lst (ns.map V.int))) else if b=T then some (.tbl #[]) else none) (by rw [if_neg hTa,if_pos rfl]) (.inl (.inr ⟨{ cls:=.type "list",data:=.seq vs.toArray },if_pos rfl⟩)) (λb u z=>?_) (λb z=>?_) (λb hb=>?_) λb z=>?_
  ·by_cases hb:b=a
   ·have z':=(if_pos hb).symm.trans z
    cases z'
    subst hb
    exact⟨ha,by rw [List.length_map];exact hl,vs,_,rv,ha⟩
   ·have z':=(if_neg hb).symm.trans z
    by_cases hb2:b=T
    ·have z2:=(if_pos hb2).symm.trans z'
     cases z2
     subst hb2
     exact hT
    ·have z2:=(if_neg hb2).symm.trans z'
     cases z2
  ·by_cases hb:b=a
   ·exact .inl hb
   ·by_cases hb2:b=T
    ·exact .inr hb2
    ·exact absurd (by rw [if_neg hb,if_neg hb2]) z
  ·by_cases hba:b=a
   ·exact .inr ⟨_,_,if_pos hba⟩
   ·exact .inl (by rw [if_neg hba,if_neg hb])
  ·by_cases hb:b=a
   ·rw [hb];exact hk
   ·by_cases hb2:b=T
    ·rw [hb2];exact hKT
    ·exact absurd (by rw [if_neg hb,if_neg hb2]) z
theorem zgc {l:W.OpenLaw} {n k:Nat} {q:Program} {loose:List Str} {XP:(Str->Option Value)->Heap->Prop} {YP:World->Heap->Prop} {d:DefRec} {K:Params->W.Frag} {sp:World->Sp} {x:Str} {c T:Addr}
  (hn:l.most=some n) (hn2:n<=sizeLine) (hdf:d.params.defaults=[]) (hr:Room k callerA)
  (hY:∀ (w:World) (h:Heap),YP w h->(K w.params).In h) (hYT:∀ (w:World) (h:Heap),YP w h->h.get? T=some (tabObj #[])) (hKT:∀ w:World,(K w.params).lookup T=none) (hcT:∀ w:World,codeHdIn (K w.params) c T=true)
  (F:∀ (w:World) (mg:Str->Option Value) (fa:Addr) (h:Heap),(K w.params).In h->h.Ns mainGlobals mg->mg d.name=some (.ref fa) ->
   ∃ fd:FuncData,(∀ (s:Shared) (u:Value),BindsTo s fd ⟨[u],[]⟩ [(x,u)]) /\
    ∀ base:Heap,(K w.params).In base->base.Ns mainGlobals mg->base.BuiltinsAt mg T->FnOk l.prog w (K w.params) mg base CX0 k fa fd [x] (sp w))
  (hsp:∀ (w:World) (H:Hp) (a:Addr) (ns:List Int),ns.length<=n->H T=some (.tbl #[])->SqL (K w.params) H a (ns.map V.int)->sp w [.ref a] H (λv _=>v=.bl true) λ_ _ _=>False) :
  W.WalkO q loose XP YP l.row.toRowW d [] (λf vs=>PySem.call f vs):=by
 refine Att.za5 hn hdf λw s₀ s₁ mg mb fa o pm cd doc a vs ns G Y ho hd hcd hmg hobj hints hlen hg=>?_
 have KX:=hY w _ Y
 obtain⟨fd,hb,hF⟩:=F w mg fa _ KX G.T.g hmg
 exact zcM KX G.T.g G.T.b G.T.builtins G.T.nolimit hg G.T.bmain (hYT w _ Y) (hKT w) (hcT w) hobj hints (Nat.le_trans hlen hn2) hr hF hb (λH hO hS=>hsp w H a ns hlen hO hS) λH e s' h=>h
open PySem PySem.Spec PyProof.Rows
abbrev NK:=List Key×List Key
section
variable {P:Program} {w:World}
def IsNK (P:Program) (w:World) (h:Heap) (k:NK) (a:Addr):Prop :=
 ∃ ob its n c us,h.get? a=some ob/\ob.cls=.type "tuple"/\ob.data=.seq its n/\its.toList=.ref c :: us/\IsTupleKey (yF P w) h k.1 c/\ItemsAre (yF P w) k.2 us
def Xf (P:Program) (w:World) (k:NK):List Int:=tupleKeyHash (yF P w) k.1 :: k.2.map (yF P w).hash
theorem IsNK.ty {s:Shared} {k:NK} {a:Addr} (x:IsNK P w s.heap k a):s.TypeIs (.ref a) "tuple":=let ⟨ob,_,_,_,_,e,c,_⟩:=x;⟨ob,e,c⟩
theorem IsNK.one {h:Heap} {a:Addr} {x y:NK} (p:IsNK P w h x a) (q:IsNK P w h y a):x=y:=by
 obtain⟨ob,its,n,c,us,e1,_,e2,e3,e4,e5⟩:=p
 obtain⟨ob',its',n',c',us',f1,_,f2,f3,f4,f5⟩:=q
 rw [e1] at f1;cases f1
 rw [e2] at f2;cases f2
 rw [e3] at f3;cases f3
 exact Prod.ext (e4.inj f4) (e5.inj f5)
theorem IsNK.kept {h h':Heap} {k:NK} {a d:Addr} {o:Obj} {es ep} (x:IsNK P w h k a) (ho:h.get? d=some o) (hd:o.data=.dict es ep) (hs:Heap.SameBut d h h'):IsNK P w h' k a:=by
 obtain⟨ob,its,n,c,us,e1,ec,e2,e3,e4,e5⟩:=x
 have ne:a≠d:=λz=>by
  subst z
  rw [e1] at ho;cases ho
  rw [hd] at e2;cases e2
 exact⟨ob,its,n,c,us,(hs.2 a ne).trans e1,ec,e2,e3,e4.keeps ho hd hs,e5⟩
variable {A:Around} {E:Value->Shared->Prop} {s:Shared}
theorem zeV {k:NK} {a:Addr} {Q:Int->Shared->Prop} (hu:A.units+1<cLine) (hk:IsNK P w s.heap k a) (h:Q (reduceHash (Builtin.Tuple.tupleHashOf (Xf P w k))) { s with toks:=s.toks+(k.1.length+1+k.2.length+1) }) :
  wpAny (model P w) A (pyHash (.ref a)) Q E s:=by
 have tY:=hk.ty
 obtain⟨ob,its,n,c,us,e1,ec,e2,e3,e4,e5⟩:=hk
 unfold pyHash
 first | unfold pyHashByItsType | skip
 first | refine wpAny_bind (wpAny_cRoomFor_or (.inr (Nat.lt_of_succ_lt hu)) ?_) | skip
 refine wpAny_bind (wpAny_specialOf tY F.slot_tuple_hash.lookup ?_)
 show wpAny _ _ (if (some (Value.builtin "tuple.__hash__") == some Value.none)=true then _ else _) Q E s;rw [if_neg (by rw [beq_builtin_none];exact Bool.false_ne_true)]
 refine wpAny_bind (wpAny_specialOf tY F.slot_tuple_hash.lookup ?_)
 show wpAny _ _ (callSpecialIfBoundUnlessNone? (.ref a) "__hash__" _ >>= _) Q E s
 refine wpAny_bind (wpAny_callSpecialIfBoundUnlessNone?_slot tY F.slot_tuple_hash (wpAny_call_entry F.slot_tuple_hash tY F.entry_tuple_hash ?_ (F.args_tuple_hash_1 _)))
 show wpAny _ _ (Builtin.Tuple.tupleItemsOf (.ref a) >>= _) _ _ s
 refine wpAny_bind (wpAny_tupleItemsOf e1 e2 ?_)
 refine wpAny_bind ?_
 rw [<- Array.forIn_toList,e3]
 refine wpAny_forIn_list _
  (λrest (b:Array Int) s'=>(rest=.ref c :: us/\b=#[]/\s'=s)\/∃ done left,k.2=done++left/\ItemsAre (yF P w) left rest/\b.toList=tupleKeyHash (yF P w) k.1 :: done.map (yF P w).hash/\s'={ s with toks:=s.toks+(k.1.length+1)+done.length })
  _ ?_ ?_ _ _ (.inl ⟨rfl,rfl,rfl⟩)
 ·rintro x rest b s' (⟨z1,rfl,rfl⟩ | ⟨done,left,z1,hl,hb,rfl⟩)
  ·cases z1
   refine wpAny_bind (wpAny_pyHash_tuple (A:=A.in1) hu e4 ?_)
   first
    | exact wpAny_pure (.inr ⟨[],k.2,rfl,e5,rfl,rfl⟩)
    | exact wpAny_bind (wpAny_pure (wpAny_pure (.inr ⟨[],k.2,rfl,e5,rfl,rfl⟩)))
  ·cases hl with
   | @cons i _ is _ h1 hl' =>
    refine wpAny_bind ((yF P w).pyHash h1 ?_)
    first
     | exact wpAny_pure (.inr ⟨done++[i],is,by rw [z1];simp,hl',by simp [hb],by simp [Nat.add_assoc]⟩)
     | exact wpAny_bind (wpAny_pure (wpAny_pure (.inr ⟨done++[i],is,by rw [z1];simp,hl',by simp [hb],by simp [Nat.add_assoc]⟩)))
 ·rintro b s' (⟨z1,_,_⟩ | ⟨done,left,z1,hl,hb,rfl⟩)
  ·cases z1
  ·cases hl
   rw [List.append_nil] at z1
   show wpAny _ _ (retInt (Builtin.Tuple.tupleHashOf b.toList)) _ _ _
   have eH:b.toList=Xf P w k:=by rw [hb];unfold Xf;rw [z1]
   rw [eH]
   refine wpAny_ret_mkInt ?_
   generalize Builtin.Tuple.tupleHashOf (Xf P w k)=m at h
   show wpAny _ _ (if (decide (-(2:Int)^63<=m) && decide (m<2^63))=true then _ else _) Q E _
   unfold reduceHash at h
   have et:∀ t:Nat,t+(k.1.length+1)+done.length+1=t+(k.1.length+1+k.2.length+1):=λt=>by rw [z1];omega
   by_cases hr:(decide (-(2:Int)^63<=m) && decide (m<2^63))=true
   ·rw [if_pos hr] at h ⊢
    refine wpAny_pure ?_
    first | (rw [<- et] at h;exact h) | (simp only [Nat.add_assoc] at et ⊢;rw [<- et] at h;exact h)
   ·rw [if_neg hr] at h ⊢
    refine wpAny_bind (wpAny_rule (wpAny_pure ?_))
    first | (rw [<- et] at h;exact h) | (simp only [Nat.add_assoc] at et ⊢;rw [<- et] at h;exact h)
theorem zbS {x y:NK} {a b:Addr} {R:Fin->Shared->Prop} (hu:A.units<cLine) (hx:IsNK P w s.heap x a) (hy:IsNK P w s.heap y b) (h:R (.done (.ret (.bool (decide (x=y))))) s) :
  wpAny (model P w) A (Builtin.«tuple.__eq__» ⟨[.ref a,.ref b],[]⟩) R E s:=by
 have tY:=hy.ty
 obtain⟨oa,ia,na,ca,ua,a1,ac,a2,a3,a4,a5⟩:=hx
 obtain⟨ob,ib,nb,cb,ub,b1,bc,b2,b3,b4,b5⟩:=hy
 have eD:decide (x=y)=(decide (x.1=y.1) && decide (x.2=y.2)):=by
  rw [<- Bool.decide_and];exact decide_eq_decide.mpr Prod.ext_iff
 have eS:(ia.size == ib.size)=(ua.length == ub.length):=by
  rw [<- Array.length_toList,<- Array.length_toList,a3,b3,List.length_cons,List.length_cons];simp
 show wpAny _ _ (isInstance (.ref b) (.type "tuple") >>= _) _ _ s
 refine wpAny_bind (wpAny_isInstance tY isSubtype_tuple_tuple ?_)
 simp only [Bool.not_true,Bool.false_eq_true,if_false]
 refine wpAny_bind (wpAny_tupleItemsOf a1 a2 ?_)
 refine wpAny_bind (wpAny_tupleItemsOf b1 b2 ?_)
 refine wpAny_bind ?_
 refine wpAny_forIn_list _
  (λrest r s'=>r.1=none/\s'=s/\(rest=List.zip (.ref ca :: ua) (.ref cb :: ub)\/(x.1=y.1/\∃ x' y' xs' ys',rest=List.zip xs' ys'/\ItemsAre (yF P w) x' xs'/\ItemsAre (yF P w) y' ys'/\decide (x'=y')=decide (x.2=y.2)/\(xs'.length == ys'.length)=(ua.length == ub.length))))
  _ ?_ ?_ _ _ ⟨rfl,rfl,.inl (by rw [<- a3,<- b3])⟩
 ·rintro⟨u,v⟩ rest r s' ⟨hr,rfl,hz | ⟨hE,x',y',xs',ys',hz,hx',hy',hdec,hlen⟩⟩
  ·simp only [List.zip_cons_cons,List.cons.injEq,Prod.mk.injEq] at hz
   obtain⟨⟨rfl,rfl⟩,rfl⟩:=hz
   refine wpAny_bind (wpAny_eqBool_tuple hu a4 b4 ?_)
   by_cases hk:x.1=y.1
   ·rw [decide_eq_true hk]
    simp only [Bool.not_true,Bool.false_eq_true,if_false]
    exact wpAny_pure ⟨rfl,rfl,.inr ⟨hk,x.2,y.2,ua,ub,rfl,a5,b5,rfl,rfl⟩⟩
   ·rw [decide_eq_false hk]
    simp only [Bool.not_false,if_true]
    rw [eD,decide_eq_false hk,Bool.false_and] at h
    exact wpAny_bind (wpAny_pure (wpAny_pure (wpAny_pure h)))
  ·cases hx' with
   | nil=>simp at hz
   | @cons k1 u' x'' xs'' h1 hx'' =>
    cases hy' with
    | nil=>simp at hz
    | @cons k2 v' y'' ys'' h2 hy'' =>
     simp only [List.zip_cons_cons,List.cons.injEq,Prod.mk.injEq] at hz
     obtain⟨⟨rfl,rfl⟩,rfl⟩:=hz
     refine wpAny_bind ((yF P w).eqBool (a:=k1) (b:=k2) h1 h2 ?_)
     by_cases hk:k1=k2
     ·subst hk
      rw [decide_eq_true rfl]
      simp only [Bool.not_true,Bool.false_eq_true,if_false]
      exact wpAny_pure ⟨rfl,rfl,.inr ⟨hE,x'',y'',xs'',ys'',rfl,hx'',hy'',by rw [<- hdec];by_cases q:x''=y''<;>simp [q],by simpa using hlen⟩⟩
     ·rw [decide_eq_false hk]
      simp only [Bool.not_false,if_true]
      have hf:decide (x.2=y.2)=false:=by rw [<- hdec];simp [hk]
      rw [eD,hf,Bool.and_false] at h
      exact wpAny_bind (wpAny_pure (wpAny_pure (wpAny_pure h)))
 ·rintro⟨r1,r2⟩ s' ⟨hr,rfl,hz | ⟨hE,x',y',xs',ys',hz,hx',hy',hdec,hlen⟩⟩
  ·simp at hz
  simp only at hr
  subst hr
  refine wpAny_pure ?_
  have fin:(ia.size == ib.size)=decide (x=y):=by
   rw [eS,eD,decide_eq_true hE,Bool.true_and,<- hdec,<- hlen]
   cases hx' with
   | nil =>
    cases hy' with
    | nil=>simp
    | cons _ _=>simp
   | cons _ _ =>
    cases hy' with
    | nil=>simp
    | cons _ _=>simp at hz
  show R (.done (.ret (.bool (ia.size == ib.size)))) s'
  rw [fin];exact h
theorem zgO {x y:NK} {a b:Addr} {Q:Bool->Shared->Prop} (hu:A.units+1<cLine) (hx:IsNK P w s.heap x a) (hy:IsNK P w s.heap y b) (h:Q (decide (x=y)) s):wpAny (model P w) A (eqBool (.ref a) (.ref b)) Q E s:=by
 unfold eqBool
 try with_reducible refine wpAny_holding ?_
 show wpAny _ _ (if (Value.ref a == Value.ref b)=true then _ else _) Q E s
 by_cases hab:(Value.ref a == Value.ref b)=true
 ·rw [if_pos hab]
  have e:a=b:=by have:=eq_of_beq hab;injection this
  subst e
  obtain rfl:=hx.one hy
  exact wpAny_bind (wpAny_rule (wpAny_pure (by simpa using h)))
 ·rw [if_neg hab]
  exact wpAny_bind (wpAny_richCompare_same_room (op:=.Eq) hx.ty hy.ty F.slot_tuple_eq (wpAny_call_entry F.slot_tuple_eq hx.ty F.entry_tuple_eq (zbS (A:=A.in1) hu hx hy ⟨_,rfl,(λe=>nomatch e),wpAny_truthy_bool h⟩) (F.args_tuple_eq_2 _ _)) (Nat.lt_of_succ_lt hu))
theorem Vv {n:Nat} {a:Addr} {ob:Obj} {its m} {Q:Bool->Shared->Prop} (e1:s.heap.get? a=some ob) (ec:ob.cls=.type "tuple") (e2:ob.data=.seq its m) (hq:∀ v∈its.toList,∀ {Q:Bool->Shared->Prop},Q true s->wpAny (model P w) A (eqIsQuiet n v) Q E s) (h:Q true s):wpAny (model P w) A (eqIsQuiet (n+1) (.ref a)) Q E s:=by
 have tY:s.TypeIs (.ref a) "tuple":=⟨ob,e1,ec⟩
 unfold eqIsQuiet
 refine wpAny_bind (wpAny_specialOf tY F.slot_tuple_eq.lookup ?_)
 show wpAny _ _ (isInstance (.ref a) (.type "tuple") >>= _) _ _ s
 refine wpAny_bind (wpAny_isInstance tY isSubtype_tuple_tuple ?_)
 simp only [Bool.not_true,Bool.false_eq_true,if_false]
 refine wpAny_bind (wpAny_seqItems e1 e2 ?_)
 refine wpAny_bind ?_
 show wpAny _ _ (forIn its _ _) _ _ s
 rw [<- Array.forIn_toList]
 refine wpAny_forIn_list _ (λrest r s'=>r.1=none/\s'=s/\∀ v∈rest,v∈its.toList) _ ?_ ?_ _ _ ⟨rfl,rfl,λ_ z=>z⟩
 ·rintro v rest r s' ⟨hr,rfl,hall⟩
  refine wpAny_bind (hq v (hall v List.mem_cons_self) ?_)
  simp only [Bool.not_true,Bool.false_eq_true,if_false]
  exact wpAny_pure ⟨rfl,rfl,λu hu'=>hall u (List.mem_cons_of_mem _ hu')⟩
 ·rintro⟨r1,r2⟩ s' ⟨hr,rfl,_⟩
  simp only at hr
  subst hr
  exact wpAny_pure h
theorem Qs {n:Nat} {ks:List Key} {us:List Value} (hi:ItemsAre (yF P w) ks us):∀ v∈us,∀ {Q:Bool->Shared->Prop},Q true s->wpAny (model P w) A (eqIsQuiet n v) Q E s:=λv hv Q q=>by
 rw [eqIsQuiet_byValue _ (hi.byValue v hv)];exact wpAny_pure q
theorem zdA {k:NK} {a:Addr} {Q:Bool->Shared->Prop} (hk:IsNK P w s.heap k a) (h:Q true s):wpAny (model P w) A (eqIsQuiet 8 (.ref a)) Q E s:=by
 obtain⟨ob,its,n,c,us,e1,ec,e2,e3,⟨oc,jts,m,c1,cc,c2,c3⟩,e5⟩:=hk
 refine Vv e1 ec e2 (λv hv=>?_) h
 rw [e3] at hv
 rcases List.mem_cons.mp hv with rfl | hv
 ·exact λq=>Vv c1 cc c2 (Qs c3) q
 ·exact Qs e5 v hv
end
def ZV (P:Program) (w:World):HeapKind P w NK where
 is:=IsNK P w
 hash:=λk=>reduceHash (Builtin.Tuple.tupleHashOf (Xf P w k))
 draws:=λk=>k.1.length+1+k.2.length+1
 room:=λA=>A.units+1<cLine
 inj:=λp q=>p.one q
 keeps:=λx ho hd hs=>x.kept ho hd hs
 pyHash:=λhu hk h=>zeV hu hk h
 eqBool:=λhu hx hy h=>zgO hu hx hy h
 quiet:=λhk h=>zdA hk h
end L2
namespace HT
open PySem PySem.Spec PyProof.Rows
section
variable {prog:Program} {w:World} {A:Around} {E:Value->Shared->Prop} {s:Shared}
theorem zff {t b:Addr} {ws:List Value} {Q:Value->Shared->Prop} (ht:IsTup s.heap t ([]:List Value).toArray) (hb:IsTup s.heap b ws.toArray) (h:Q (.ref b) s):wpAny (model prog w) A (binaryOp .Add (.ref t) (.ref b)) Q E s:=by
 obtain⟨⟨c1,d1,x1,l1⟩,p1,q1,n1,r1⟩:=id ht
 obtain⟨⟨c2,d2,x2,l2⟩,p2,q2,n2,r2⟩:=id hb
 simp only at q1 r1 q2 r2
 subst q1 r1 q2 r2
 exact concat_meets ⟨_,p1,rfl⟩ ⟨_,p2,rfl⟩ noFill_tuple_add seq_tuple_add PySem.F.slot_tuple_add PySem.F.entry_tuple_add (PySem.F.args_tuple_add_2 _ _) (tuple_addW0 t b #[] ws.toArray n1 n2 d1 d2 l1 l2 rfl) ⟨p1,p2,h⟩
theorem zc3 {t sl:Addr} {items:Array Value} {vl vu:Value} {lo hi:Option Int} {Q:Value->Shared->Prop} (ht:IsTup s.heap t items) (hs:s.heap.IsSliceOf sl vl vu .none) (pl:IsPart vl lo) (pu:IsPart vu hi)
  (hw:sIx items.size 0 lo=0/\sIx items.size items.size hi=items.size) (h:Q (.ref t) s):wpAny (model prog w) A (getItem (.ref t) (.ref sl)) Q E s:=by
 obtain⟨os,hos,hcs,hds⟩:=id hs
 have tS:s.TypeIs (.ref sl) "slice":=⟨os,hos,hcs⟩
 unfold getItem
 try with_reducible refine wpAny_holding ?_
 first | refine wpAny_bind (wpAny_pure ?_) | skip
 refine wpAny_bind (wpAny_sequenceKey ht.typeIs (by decide) ?_)
 refine wpAny_bind (wpAny_callSpecial?_slot (name:=Str.ofString "__getitem__") ht.typeIs PyProof.Rows.slot_tuple_getitem
  (wpAny_call_entry PyProof.Rows.slot_tuple_getitem ht.typeIs entry_tuple_getitem ?_ (args_tuple_getitem _ _)))
 show wpAny _ _ (Builtin.Tuple.tupleItemsOf (.ref t) >>= _) _ _ s
 refine wpAny_bind (tupleItemsOf_ ht ?_)
 refine wpAny_bind (wpAny_typeOf tS ?_)
 rw [if_pos (by decide)]
 refine wpAny_bind (ZZ hs pl pu ?_)
 have yes:(((sIx items.size 0 lo:Nat):Int) == 0 && (1:Int) == 1 && (sIx items.size items.size hi-sIx items.size 0 lo) == items.size)=true:=by
  rw [hw.1,hw.2];simp
 show wpAny _ _ (if (((sIx items.size 0 lo:Nat):Int) == 0 && (1:Int) == 1 && (sIx items.size items.size hi-sIx items.size 0 lo) == items.size)=true then _ else _) _ _ s
 rw [if_pos yes]
 have ex:∀ {R:Bool->Shared->Prop} {E':Value->Shared->Prop},R true s->wpAny (model prog w) A.in1 (Builtin.Tuple.tupleIsExact (.ref t)) R E' s:=λ{R E'} q=>by
  unfold Builtin.Tuple.tupleIsExact
  exact wpAny_bind (wpAny_typeOf ht.typeIs (wpAny_pure (by rw [show (Value.type "tuple" == Value.type "tuple")=true by decide];exact q)))
 first
  | exact wpAny_bind (ex (by simp only [if_true];exact wpAny_bind (wpAny_rule (wpAny_pure ⟨_,rfl,wpAny_pure h⟩))))
  | exact wpAny_bind (wpAny_bind (ex (by simp only [if_true];exact wpAny_bind (wpAny_rule (wpAny_bind (wpAny_pure (wpAny_pure ⟨_,rfl,wpAny_pure h⟩)))))))
  | exact wpAny_bind (ex (by simp only [if_true];exact wpAny_bind (wpAny_rule (wpAny_bind (wpAny_pure (wpAny_pure ⟨_,rfl,wpAny_pure h⟩))))))
end
end HT
namespace L2
open PySem PySem.Spec PyProof.Rows
section
variable {X:Cx}
def zgJ:R2:=λx y H Q=>∃ a b xs ys,x=.ref a/\y=.ref b/\H a=some (.tup xs)/\H b=some (.tup ys)/\xs.length+ys.length<=sizeLine/\∀ p H',Same H H'->H' p=some (.tup (xs++ys))->Q (.ref p) H'
theorem zfe:OpR X (binaryOp .Add) zgJ:=by
 intro pins s Z H x y v u Q I rx ry h
 obtain⟨a,b,xs,ys,rfl,rfl,ha,hb,hz,q⟩:=h
 cases rx
 cases ry
 by_cases hx:xs=[]
 ·subst hx
  obtain⟨its,r1,p1,_⟩:=I.tuple (SqT.of ha)
  obtain⟨its2,r2,p2,_⟩:=I.tuple (SqT.of hb)
  obtain rfl:its=[]:=r1.nil_iff.mpr rfl
  exact HT.zff p1 p2 ⟨.ref b,H,I,rfl,q b H (Same.refl _) hb⟩
 ·refine ze6 pins s Z H (.ref a) (.ref b) (.ref a) (.ref b) Q I rfl rfl ⟨a,b,xs,ys,rfl,rfl,SqT.of ha,SqT.of hb,hx,hz,λe=>q a H (Same.refl _) (by rw [e,List.append_nil];exact ha),λ_ p hp=>q p _ (zj hp) zf⟩
theorem zex (K:W.Frag) (e:X.K=K:=by rfl):ul X (.type "tuple") (λxs H Q=>∃ p ys,xs=[.ref p]/\((SqL K H p ys/\∀ l,H l=none->Q (.ref l) (upd H l (.tup ys)))\/(SqT K H p ys/\Q (.ref p) H))):=by subst e;exact XC
def zhc:V->Option Int->Option Int->Hp->VK->Prop:=λx lo hi H Q=>∃ a xs,x=.ref a/\H a=some (.tup xs)/\∀ p H',Same H H'->H' p=some (.tup (uV xs lo hi))->Q (.ref p) H'
theorem zb4:SlR X zhc:=by
 intro pins s Z H x v vl vu lo hi sl Q I rx hs pl pu h
 obtain⟨a,xs,rfl,hx,q⟩:=h
 by_cases hw:HT.sIx xs.length 0 lo=0/\HT.sIx xs.length xs.length hi=xs.length
 ·cases rx
  obtain⟨its,r,ht,hz⟩:=I.tuple (SqT.of hx)
  have hlen:its.toArray.size=xs.length:=by rw [List.size_toArray];exact r.length.symm
  refine⟨"tuple",_,PyProof.Rows.slot_tuple_getitem.lookup,ht.typeIs,?_⟩
  refine HT.zc3 ht hs pl pu (by rw [hlen];exact hw) ⟨.ref a,H,I,rfl,q a H (Same.refl _) ?_⟩
  unfold uV
  rw [hw.1,hw.2,List.drop_zero,Nat.sub_zero,List.take_length]
  exact hx
 ·exact zfO pins s Z H (.ref a) v vl vu lo hi sl Q I rx hs pl pu ⟨a,xs,rfl,SqT.of hx,hw,λp hp=>q p _ (zj hp) zf⟩
end
def zan (P:Program) (w:World) (a:Addr) (xs:List (NK×Addr×Value)):Heap->Prop:=λh=>∃ o es ep,h.get? a=some o/\o.ExactDict/\o.data=.dict es ep/\es.toList=xs.map (entryOfKey (ZV P w))/\(xs.map (·.1)).Nodup
def NTup (H:Hp) (k:NK) (b:Addr):Prop:=∃ c,H b=some (.tup (.ref c :: k.2.map kV))/\H c=some (.tup (k.1.map kV))
theorem NTup.same {H H':Hp} {k:NK} {b:Addr} (h:NTup H k b) (s:∀ b xs,H b=some (.tup xs)->H' b=some (.tup xs)):NTup H' k b:=let ⟨c,h1,h2⟩:=h;⟨c,s _ _ h1,s _ _ h2⟩
abbrev KN (H:Hp):List (NK×V)->List (NK×Addr×Value)->Prop:=Paired λp q=>p.1=q.1/\NTup H p.1 q.2.1/\RelV p.2 q.2.2
theorem KN.val {H:Hp} {kvs:List (NK×V)} {xs:List (NK×Addr×Value)} (r:KN H kvs xs) (k:NK):RelO (wQ kvs k) ((atKey xs k).map (·.2)):=by
 induction r with
 | nil=>exact True.intro
 | @cons p q ps qs h t ih =>
  obtain⟨h1,_,h2⟩:=h
  by_cases e:p.1=k
  ·have e':q.1=k:=h1.symm.trans e
   rw [wk e,show atKey (q :: qs) k=some q.2 by simp [atKey,List.find?_cons,e']];exact h2
  ·have e':¬ q.1=k:=λz=>e (h1.trans z)
   rw [ww e,show atKey (q :: qs) k=atKey qs k by simp [atKey,List.find?_cons,e']];exact ih
theorem KN.put {H:Hp} {kvs:List (NK×V)} {xs:List (NK×Addr×Value)} (r:KN H kvs xs) (k:NK) {b:Addr} {y:V} {u:Value} (hb:NTup H k b) (ry:RelV y u):KN H (putK kvs k y) (storedH xs k b u):=by
 have e:(kvs.any λkv=>decide (kv.1=k))=(atKey xs k).isSome:=by
  rw [qY,(r.val k).isSome_eq,Option.isSome_map]
 have rep:∀ {kvs:List (NK×V)} {xs:List (NK×Addr×Value)},KN H kvs xs->KN H (kvs.map λkv=>if kv.1=k then (kv.1,y) else kv) (xs.map (putAt k u)):=λ{kvs xs} r=>by
  induction r with
  | nil=>exact .nil
  | @cons p q ps qs h t ih =>
   rw [List.map_cons,List.map_cons]
   refine .cons ?_ ih
   obtain⟨h1,h2,h3⟩:=h
   unfold putAt
   by_cases e:p.1=k
   ·rw [if_pos e,if_pos (h1.symm.trans e)];exact⟨h1,h2,ry⟩
   ·rw [if_neg e,if_neg (λz=>e (h1.trans z))];exact⟨h1,h2,h3⟩
 unfold putK storedH
 rw [e]
 by_cases q:(atKey xs k).isSome=true
 ·rw [if_pos q,if_pos q];exact rep r
 ·rw [if_neg q,if_neg q];exact Paired.snoc r ⟨rfl,hb,ry⟩
theorem KN.keeps {H H':Hp} {kvs:List (NK×V)} {xs:List (NK×Addr×Value)} (r:KN H kvs xs) (s:∀ b xs,H b=some (.tup xs)->H' b=some (.tup xs)):KN H' kvs xs:=Paired.mapP r λ_ _ z=>⟨z.1,z.2.1.same s,z.2.2⟩
def DN (P:Program) (w:World) (H:Hp) (a:Addr) (kvs:List (NK×V)):Prop:=∃ xs,H a=some (.ext (zan P w a xs))/\KN H kvs xs/\kvs.length<=sizeLine/\(a == sysModules)=false
theorem DN.same {P:Program} {w:World} {H H':Hp} {a:Addr} {kvs:List (NK×V)} (h:DN P w H a kvs) (s:Same H H'):DN P w H' a kvs:=let ⟨xs,h1,h2,h3⟩:=h;⟨xs,s _ _ h1,h2.keeps λb xs e=>s _ _ e,h3⟩
theorem DN.stay {P:Program} {w:World} {H H':Hp} {a:Addr} {kvs:List (NK×V)} (h:DN P w H a kvs) (e:H' a=H a) (s:∀ b xs,H b=some (.tup xs)->H' b=some (.tup xs)):DN P w H' a kvs:=let ⟨xs,h1,h2,h3⟩:=h;⟨xs,by rw [e];exact h1,h2.keeps s,h3⟩
theorem DN.ne {P:Program} {w:World} {H:Hp} {a b:Addr} {kvs:List (NK×V)} {xs:List V} (h:DN P w H a kvs) (e:H b=some (.tup xs)):b≠a:=let ⟨_,h1,_⟩:=h;jO e h1 (λz=>nomatch z)
section
variable {P:Program} {w:World} {H:Hp} {h:Heap} {a b:Addr} {k:NK}
theorem zcg (ok:HOk P w H h) (e:NTup H k b):IsNK P w h k b:=by
 obtain⟨c,e1,e2⟩:=e
 obtain⟨_,its,r,o,h1,h2,n,h3⟩:=(show ObjOk P w H h b (.tup (.ref c :: k.2.map kV)) from ok b _ e1)
 cases r with
 | @cons _ v _ vs hv hr =>
  obtain rfl:v=.ref c:=hv
  exact⟨o,_,n,c,vs,h1,h2,h3,by simp,zbF ok e2,Vl hr⟩
theorem zch {kvs:List (NK×V)} (ok:HOk P w H h) (d:DN P w H a kvs):∃ xs,KN H kvs xs/\h.DictOfH (ZV P w) a xs:=by
 obtain⟨xs,e,r,_,_⟩:=d
 obtain⟨⟨o,es,ep,h1,h2,h3,h4,h5⟩,_⟩:=(show ObjOk P w H h a (.ext (zan P w a xs)) from ok a _ e)
 refine⟨xs,r,o,es,ep,h1,h2,h3,h4,?_,h5⟩
 have all:∀ {l:List (NK×V)} {m:List (NK×Addr×Value)},KN H l m->∀ x∈m,(ZV P w).is h x.1 x.2.1:=λ{l m} q=>by
  induction q with
  | nil=>intro x hx;exact nomatch hx
  | @cons p q ps qs hq t ih =>
   intro x hx
   rcases List.mem_cons.mp hx with e | hx
   ·subst e
    exact zcg ok (by rw [<- hq.1];exact hq.2.1)
   ·exact ih x hx
 exact all r
theorem zcd {xs:List (NK×Addr×Value)} {h':Heap} {H':Hp} (p:zan P w a xs h'):ObjOk P w H' h' a (.ext (zan P w a xs)) :=
 ⟨p,let ⟨o,_,_,e,_⟩:=p;⟨o,e⟩,λh1 h2 ⟨o,es,ep,e,c⟩ k=>⟨o,es,ep,k _ e,c⟩⟩
end
section
variable {X:Cx} {pins:List (Addr×Obj)} {Z:St} {H:Hp} {s:Shared} {a b:Addr} {v:V} {u r:Value} {A:Around} {E:Value->Shared->Prop} {kvs:List (NK×V)} {k:NK}
theorem zdi {Q:Value->Shared->Prop} (hu:A.units+2<cLine) (I:Inv X pins Z H s) (d:DN X.prog X.w H a kvs) (t:NTup H k b) (l:wQ kvs k=some v) (h:∀ w' s',Inv X pins Z H s'->RelV v w'->Q w' s'):wpAny (model X.prog X.w) A (getItem (.ref a) (.ref b)) Q E s:=by
 obtain⟨xs,rel,dd⟩:=zch I.hok d
 obtain⟨w',hw,rw'⟩:=RelO.some_of (v:=v) (o:=(atKey xs k).map (·.2)) (by rw [<- l];exact rel.val k)
 obtain⟨p,hp,hp2⟩:=Option.map_eq_some_iff.mp hw
 refine wpAny_getItem_heap (knd:=ZV X.prog X.w) (A:=A) hu (zcg I.hok t) dd hp ?_
 rw [hp2]
 exact h w' _ (I.tok _) rw'
theorem ze9 {Q:Value->Shared->Prop} (hu:A.units+2<cLine) (I:Inv X pins Z H s) (d:DN X.prog X.w H a kvs) (t:NTup H k b) (h:∀ s',Inv X pins Z H s'->Q (.bool (!(wQ kvs k).isSome)) s'):wpAny (model X.prog X.w) A (compareOp .NotIn (.ref b) (.ref a)) Q E s:=by
 obtain⟨xs,rel,dd⟩:=zch I.hok d
 obtain⟨_,_,_,_,hd⟩:=d
 refine wpAny_notIn_heap (knd:=ZV X.prog X.w) (A:=A) hu (zcg I.hok t) hd dd ?_
 have q:=(rel.val k).isSome_eq
 rw [Option.isSome_map] at q
 rw [<- q]
 exact h _ (I.tok _)
theorem zcE {Q:Unit->Shared->Prop} (hu:A.units+2<cLine) (I:Inv X pins Z H s) (d:DN X.prog X.w H a kvs) (t:NTup H k b) (hl:kvs.length<sizeLine) (rv:RelV v r)
  (h:∀ s' H',DN X.prog X.w H' a (putK kvs k v)->(∀ b,b≠a->H' b=H b)->Inv X pins Z H' s'->Q () s'):wpAny (model X.prog X.w) A (setItem (.ref a) (.ref b) r) Q E s:=by
 obtain⟨xs,rel,dd⟩:=zch I.hok d
 have nt:=λb ys=>d.ne (b:=b) (xs:=ys)
 obtain⟨ys,e,_,z,hd⟩:=d
 have hz:xs.length<=sizeLine:=by rw [<- Paired.length rel];exact z
 refine wpAny_setItem_heap (knd:=ZV X.prog X.w) (A:=A) (hsz:=hz) hu (zcg I.hok t) dd λh' dd' hs=>?_
 obtain⟨q,es,ep,hq,h2,h3,h4,_,h5⟩:=dd'
 have sm:∀ c,c≠a->upd H a (.ext (zan X.prog X.w a (storedH xs k b r))) c=H c:=λc hc=>zq hc
 refine h _ _ ⟨storedH xs k b r,zf,(rel.put k t rv).keeps λc zs ec=>by rw [zq (nt c zs ec)];exact ec,by have:=Zj kvs k v;omega,hd⟩ sm (JQ I (by rw [e];exact True.intro) hs ⟨q,hq⟩ (zcd ⟨q,es,ep,hq,h2,h3,h4,h5⟩))
theorem zem (I:Inv X pins Z H s) (d:DN X.prog X.w H a kvs):s.TypeIs (.ref a) "dict":=let ⟨_,_,dd⟩:=zch I.hok d;dd.typeIs
end
theorem X7 {A:Around} {k:Nat} (hr:Room k A):A.units+2<cLine:=by have:=hr.units;omega
def zgy (P:Program) (w:World) (td ty:TE):TE:=λZ H Q=>td Z H λx H1=>ty Z H1 λy H2=>∃ a kvs k b v,x=.ref a/\DN P w H2 a kvs/\y=.ref b/\NTup H2 k b/\wQ kvs k=some v/\Q v H2
def ze4 (P:Program) (w:World) (ty td:TE):TE:=λZ H Q=>ty Z H λy H1=>td Z H1 λx H2=>∃ a kvs k b,x=.ref a/\DN P w H2 a kvs/\y=.ref b/\NTup H2 k b/\Q (.bl (!(wQ kvs k).isSome)) H2
def zgH (P:Program) (w:World) (td ty tv:TE):TS:=λD Z H=>tv Z H λv H1=>td Z H1 λx H2=>ty Z H2 λy H3=>∃ a kvs k b,x=.ref a/\DN P w H3 a kvs/\y=.ref b/\NTup H3 k b/\kvs.length<sizeLine/\∀ H4,DN P w H4 a (putK kvs k v)->(∀ c,c≠a->H4 c=H3 c)->D.nx Z H4
def zge (P:Program) (w:World):TE:=λ_ H Q=>∀ p H',H p=none->DN P w H' p []->(∀ c,c≠p->H' c=H c)->Q (.ref p) H'
section
variable {X:Cx} {o i value:Expr} {pos pos':Pos} {td ty tv:TE}
theorem zb7 (hu:X.A.units+2<cLine) (ho:PE X o td) (hi:PE X i ty) (hs:zgS i):PE X (.Subscript o i pos) (zgy X.prog X.w td ty):=by
 intro pins s Z H Q I h
 refine zeK PySem.F.slot_dict_getitem.lookup hs (thn (ho pins s Z H _ I h) λu s1 ⟨x,H1,I1,rx,q1⟩=>thn (hi pins s1 Z H1 _ I1 q1) λiv s2 ⟨y,H2,I2,ry,a,kvs,k,b,v,ex,d,ey,t,l,q2⟩=>?_)
 subst ex ey
 obtain rfl:u=Value.ref a:=rx
 obtain rfl:iv=Value.ref b:=ry
 exact⟨zem I2 d,zdi hu I2 d t l λw' s3 I3 rw'=>⟨v,H2,I3,rw',q2⟩⟩
theorem Jr (hu:X.A.units+2<cLine) (hi:PE X i ty) (ho:PE X o td):PC X .NotIn i o (ze4 X.prog X.w ty td):=by
 intro pins s Z H Q I h
 refine thn (hi pins s Z H _ I h) λiv s1 ⟨y,H1,I1,ry,q1⟩=>thn (ho pins s1 Z H1 _ I1 q1) λu s2 ⟨x,H2,I2,rx,a,kvs,k,b,ex,d,ey,t,q2⟩=>?_
 subst ex ey
 obtain rfl:u=Value.ref a:=rx
 obtain rfl:iv=Value.ref b:=ry
 exact ze9 hu I2 d t λs3 I3=>⟨.bl _,H2,I3,rfl,q2⟩
theorem zam (hu:X.A.units+2<cLine) (ho:PE X o td) (hi:PE X i ty) (hv:PE X value tv) (hs:swapsWith value (some (.Subscript o i pos')) pos.line X.env=pure false) :
  PS X (.Assign [.Subscript o i pos'] value pos) (zgH X.prog X.w td ty tv):=by
 intro pins s Z H D I h
 refine wpAny_Assign_Subscript (thn (hv pins s Z H _ I h) λr s1 ⟨v,H1,I1,rv,q1⟩=>thn (ho pins s1 Z H1 _ I1 q1) λu s2 ⟨x,H2,I2,rx,q2⟩=>thn (hi pins s2 Z H2 _ I2 q2) λiv s3 ⟨y,H3,I3,ry,a,kvs,k,b,ex,d,ey,t,hl,q3⟩=>?_) hs
 subst ex ey
 obtain rfl:u=Value.ref a:=rx
 obtain rfl:iv=Value.ref b:=ry
 exact zcE hu I3 d t hl rv λs4 H4 d4 c4 I4=>⟨Z,H4,I4,q3 H4 d4 c4⟩
theorem zcr:PE X (.Dict [] [] pos) (zge X.prog X.w):=λpins s Z H Q I h=>by
 have p0:zan X.prog X.w s.heap.objs.size [] (s.heap.push { cls:=.type "dict",data:=.dict #[] }):=⟨_,#[],0,Heap.get?_push_size _ rfl,⟨rfl,rfl,rfl⟩,rfl,rfl,List.nodup_nil⟩
 have fr:=I.hok.fresh (Nat.le_refl s.heap.objs.size)
 exact wpAny_Dict_empty ⟨.ref s.heap.objs.size,_,I.laid (a:=s.heap.objs.size) (o:=.ext (zan X.prog X.w s.heap.objs.size [])) (t':=s.toks) (λ_ _ q=>Heap.get?_push_of_some _ q) (Nat.le_refl _) (zcd p0),rfl,h _ _ fr ⟨[],zf,.nil,Nat.zero_le _,beq_eq_false_iff_ne.mpr (Ne.symm (Nat.ne_of_lt I.big))⟩ λc hc=>zq hc⟩
end
end L2
namespace Lw
def zR (b n:Nat):List Int:=if h:2<=b/\b<=n then zR b (n / b)++[((n % b:Nat):Int)] else [(n:Int)]
termination_by n
decreasing_by exact Nat.div_lt_self (by omega) (by omega)
theorem zY {b n:Nat} (h:n<b):zR b n=[(n:Int)]:=by
 rw [zR,dif_neg (by omega)]
theorem Xi {b n:Nat} (h2:2<=b) (h:b<=n):zR b n=zR b (n / b)++[((n % b:Nat):Int)]:=by
 rw [zR,dif_pos ⟨h2,h⟩]
def ahead (b r:Nat):List Int:=if r=0 then [] else zR b r
theorem Vf {b n:Nat} (h2:2<=b):zR b n=ahead b (n / b)++[((n % b:Nat):Int)]:=by
 unfold ahead
 by_cases h:n<b
 ·rw [zY h,if_pos (Nat.div_eq_of_lt h),Nat.mod_eq_of_lt h];rfl
 ·rw [Xi h2 (by omega),if_neg]
  have:=Nat.div_pos (a:=n) (b:=b) (by omega) (by omega)
  omega
theorem Uo {b r:Nat} (h2:2<=b) (hr:0<r):ahead b r=ahead b (r / b)++[((r % b:Nat):Int)]:=by
 rw [<- Vf h2]
 unfold ahead
 rw [if_neg (by omega)]
theorem jY {b:Nat} (h2:2<=b):∀ (m n:Nat),n<2^m->(zR b n).length<=m+1
 | 0,n,h=>by rw [zY (by simp at h;omega)];simp
 | m+1,n,h=>by
  by_cases hn:n<b
  ·rw [zY hn];simp
  ·rw [Xi h2 (by omega),List.length_append,List.length_singleton]
   have h3:n / b<=n / 2:=Nat.div_le_div_left h2 (by omega)
   have h4:n / 2<2^m:=by rw [Nat.pow_succ] at h;omega
   have:=jY h2 m (n / b) (by omega)
   omega
theorem ZR {b:Nat} (h2:2<=b):∀ (n:Nat),∀ f∈zR b n,0<=f/\f<b:=by
 intro n
 induction n using Nat.strongRecOn with
 | _ n ih =>
  intro f hf
  by_cases hn:n<b
  ·rw [zY hn] at hf
   have:f=(n:Int):=by simpa using hf
   omega
  ·rw [Xi h2 (by omega)] at hf
   rcases List.mem_append.mp hf with hf | hf
   ·exact ih (n / b) (Nat.div_lt_self (by omega) (by omega)) f hf
   ·have e:f=((n % b:Nat):Int):=by simpa using hf
    have:=Nat.mod_lt n (show 0<b by omega)
    omega
theorem zb8 {b n:Nat}:zR b n≠[]:=by
 rw [zR]
 split
 ·simp
 ·simp
def tops (b:Nat):Nat->Nat->List Int
 | 0,n=>[((n / b^0:Nat):Int)]
 | k+1,n=>((n / b^(k+1):Nat):Int) :: tops b k (n % b^(k+1))
theorem Q5 {b:Nat}:∀ (k n:Nat),tops b (k+1) n=tops b k (n / b)++[((n % b:Nat):Int)]
 | 0,n=>by simp [tops]
 | k+1,n=>by
  rw [tops,Q5 k (n % b^(k+2)),tops,List.cons_append]
  have e:b^(k+1+1)=b*b^(k+1):=by rw [Nat.pow_succ,Nat.mul_comm]
  have e1:n % b^(k+1+1) / b=n / b % b^(k+1):=by rw [e,Nat.mod_mul_right_div_self]
  have e2:n % b^(k+1+1) % b=n % b:=by rw [e,Nat.mod_mul_right_mod]
  have e3:n / b^(k+1+1)=n / b / b^(k+1):=by rw [e,Nat.div_div_eq_div_mul]
  rw [e1,e2,e3]
theorem Xp {b:Nat} (h2:2<=b):∀ (k n:Nat),n<b^(k+1)->(k=0\/b^k<=n)->tops b k n=zR b n
 | 0,n,h,_=>by
  rw [zY (by simpa using h)];simp [tops]
 | k+1,n,h,hk=>by
  have hge:b^(k+1)<=n:=by
   rcases hk with z | z
   ·omega
   ·exact z
  have hb:b<=n:=Nat.le_trans (by rw [Nat.pow_succ];exact Nat.le_mul_of_pos_left b (Nat.pow_pos (by omega))) hge
  rw [Q5,Xi h2 hb]
  have h3:n / b<b^(k+1):=by
   rw [Nat.div_lt_iff_lt_mul (by omega),<- Nat.pow_succ];exact h
  have h4:b^k<=n / b:=by
   rw [Nat.le_div_iff_mul_le (by omega),<- Nat.pow_succ];exact hge
  rw [Xp h2 k (n / b) h3 (.inr h4)]
theorem za3 {b:Nat}:∀ (k n:Nat),(tops b k n).length=k+1
 | 0,n=>rfl
 | k+1,n=>by rw [tops,List.length_cons,za3 k]
def JM (b:Int) (ns:List Int):Int:=ns.foldl (λn f=>n*b+f) 0
theorem QZ (b f:Int) (ns:List Int):JM b (ns++[f])=JM b ns*b+f:=by
 unfold JM;rw [List.foldl_append];rfl
structure JN (b:Nat) (ns:List Int):Prop where
 ne:ns≠[]
 len:ns.length<=200
 fig:∀ f∈ns,0<=f/\f<b
 first:ns.head?≠some 0\/ns.length=1
def Yl (st fs:List Int):Bool:=(List.range fs.length).any λk=>decide ((fs.drop k).take st.length=st)
theorem vo {st fs:List Int} (h:st≠[]):Yl st fs=true↔∃ k,(fs.drop k).take st.length=st:=by
 unfold Yl
 simp only [List.any_eq_true,List.mem_range,decide_eq_true_eq]
 constructor
 ·rintro⟨k,_,e⟩;exact⟨k,e⟩
 ·rintro⟨k,e⟩
  refine⟨k,?_,e⟩
  have hl:=congrArg List.length e
  rw [List.length_take,List.length_drop] at hl
  have:0<st.length:=List.length_pos_iff.mpr h
  omega
theorem Ql {st fs:List Int} (h:st≠[]):Yl st fs=(List.range ((fs.length:Int)-st.length+1).toNat).any λk=>decide ((fs.drop k).take st.length=st):=by
 rw [Bool.eq_iff_iff,vo h]
 simp only [List.any_eq_true,List.mem_range,decide_eq_true_eq]
 constructor
 ·rintro⟨k,e⟩
  refine⟨k,?_,e⟩
  have hl:=congrArg List.length e
  rw [List.length_take,List.length_drop] at hl
  have:0<st.length:=List.length_pos_iff.mpr h
  omega
 ·rintro⟨k,_,e⟩;exact⟨k,e⟩
def lacks (ls:ZA) (fs:List Int):Bool:=!ls.any λst=>Yl st fs
theorem zcV {b n f:Nat} (h2:2<=b) (hn:0<n) (hf:f<b):zR b (n*b+f)=zR b n++[(f:Int)]:=by
 have hge:b<=n*b+f:=Nat.le_trans (Nat.le_mul_of_pos_left b hn) (Nat.le_add_right _ _)
 have e1:(n*b+f) / b=n:=by rw [Nat.mul_comm,Nat.mul_add_div (by omega),Nat.div_eq_of_lt hf];rfl
 have e2:(n*b+f) % b=f:=by rw [Nat.mul_comm,Nat.mul_add_mod,Nat.mod_eq_of_lt hf]
 rw [Xi h2 hge,e1,e2]
theorem zcF {b:Nat} (h2:2<=b):∀ (k:Nat) (st:List Int),st.length=k->st≠[]->(∀ f∈st,0<=f/\f<(b:Int))->(st.head?≠some 0\/st.length=1)->∃ n:Nat,JM b st=n/\zR b n=st/\(st.head?≠some 0->0<n):=by
 intro k
 induction k with
 | zero=>intro st hk ne;exact absurd (List.eq_nil_of_length_eq_zero hk) ne
 | succ k ih =>
  intro st hk ne hf h0
  obtain⟨ini,x,rfl⟩:∃ ini x,st=ini++[x]:=⟨st.dropLast,st.getLast ne,(List.dropLast_concat_getLast ne).symm⟩
  have hx:=hf x (by simp)
  obtain⟨g,rfl⟩:=Int.eq_ofNat_of_zero_le hx.1
  cases hi:ini with
  | nil =>
   subst hi
   refine⟨g,by simp [JM],by rw [zY (by omega)];rfl,λh=>?_⟩
   have:(g:Int)≠0:=by simpa using h
   omega
  | cons y ys =>
   have hne:ini≠[]:=by rw [hi];simp
   have hhead:ini.head?≠some 0:=by
    rcases h0 with h | h
    ·rw [hi] at h ⊢;simpa using h
    ·rw [hi] at h;simp at h
   obtain⟨m,e1,e2,e3⟩:=ih ini (by simpa using hk) hne (λf hm=>hf f (by simp [hm])) (.inl hhead)
   have hm:=e3 hhead
   rw [<- hi]
   refine⟨m*b+g,?_,?_,λ_=>?_⟩
   ·rw [QZ,e1];push_cast;rfl
   ·rw [zcV h2 hm (by omega),e2]
   ·have:=Nat.le_mul_of_pos_right m (show 0<b by omega);omega
theorem zdu {st fs gs:List Int} (h:st≠[]) (q:Yl st fs=true):Yl st (fs++gs)=true:=by
 rw [vo h] at q ⊢
 obtain⟨k,e⟩:=q
 refine⟨k,?_⟩
 have hl:=congrArg List.length e
 rw [List.length_take,List.length_drop] at hl
 have hp:0<st.length:=List.length_pos_iff.mpr h
 rw [List.drop_append_of_le_length (by omega),List.take_append_of_le_length (by rw [List.length_drop];omega)]
 exact e
theorem Vj {ls:ZA} {fs gs:List Int} (ne:∀ l∈ls,l≠[]) (h:lacks ls (fs++gs)=true):lacks ls fs=true:=by
 unfold lacks at *
 rw [Bool.not_eq_true',List.any_eq_false] at h ⊢
 intro l hl q
 exact h l hl (zdu (ne l hl) q)
theorem zbt {ls:ZA} {st:List Int} (h:st∈ls) (ne:st≠[]) (pre:List Int):lacks ls (pre++st)=false:=by
 unfold lacks
 rw [Bool.not_eq_false',List.any_eq_true]
 refine⟨st,h,(vo ne).mpr ⟨pre.length,?_⟩⟩
 rw [List.drop_left,List.take_of_length_le (Nat.le_refl _)]
def uB (ls:ZA) (fs:List Int):Bool:=ls.any λst=>decide (st.take fs.length=fs)
def zO (ls:ZA):List Int->List Int
 | []=>[]
 | x :: fs=>if uB ls (x :: fs) then x :: fs else zO ls fs
theorem Yz {ls:ZA}:∀ (i:Nat) (fs:List Int),i<=fs.length->(∀ k,k<i->uB ls (fs.drop k)=false)->zO ls fs=zO ls (fs.drop i)
 | 0,_,_,_=>rfl
 | i+1,[],h,_=>by simp at h
 | i+1,x :: fs,h,q=>by
  have h0:=q 0 (by omega)
  rw [List.drop_zero] at h0
  rw [zO,if_neg (by rw [h0];decide),List.drop_succ_cons]
  exact Yz i fs (by simpa using h) λk hk=>by have:=q (k+1) (by omega);rwa [List.drop_succ_cons] at this
theorem Qe {ls:ZA} {fs:List Int} (h:uB ls fs=true):zO ls fs=fs:=by
 cases fs with
 | nil=>rfl
 | cons x fs=>rw [zO,if_pos h]
theorem zdI {ls:ZA} {fs:List Int} {i:Nat} (hi:i<=fs.length) (h:∀ k,k<i->uB ls (fs.drop k)=false) (q:uB ls (fs.drop i)=true):zO ls fs=fs.drop i:=by
 rw [Yz i fs hi h,Qe q]
theorem zbm {ls:ZA} {fs:List Int} (h:∀ k,k<fs.length->uB ls (fs.drop k)=false):zO ls fs=[]:=by
 rw [Yz fs.length fs (Nat.le_refl _) h,List.drop_length];rfl
def XS (ls:ZA) (x:List Int):Prop:=x=[]\/∃ st∈ls,∃ k,1<=k/\k<st.length/\x=st.take k/\lacks ls x=true
structure StandsL (ls:ZA) (xs:ZA):Prop where
 mem:∀ x,x∈xs↔XS ls x
 up:xs.Pairwise λx y=>HT.vX x y=true
theorem zaz {ls:ZA} (h:∀ st∈ls,st.length<=4) {x:List Int} (q:XS ls x):x.length<=3:=by
 rcases q with rfl | ⟨st,hst,k,h1,h2,rfl,_⟩
 ·decide
 ·have:=h st hst
  rw [List.length_take];omega
theorem zc8 {ls:ZA} {y:List Int} {x:Int} (h:uB ls (y++[x])=true):uB ls y=true:=by
 unfold uB at *
 rw [List.any_eq_true] at h ⊢
 obtain⟨st,hst,q⟩:=h
 refine⟨st,hst,decide_eq_true ?_⟩
 have q:=of_decide_eq_true q
 have e:=congrArg (List.take y.length) q
 rw [List.take_left,List.take_take,List.length_append] at e
 rw [Nat.min_eq_left (by omega)] at e
 exact e
theorem jZ {ls:ZA}:∀ fs:List Int,∃ j,j<=fs.length/\zO ls fs=fs.drop j/\(∀ k,k<j->uB ls (fs.drop k)=false)/\(j<fs.length->uB ls (fs.drop j)=true)
 | []=>⟨0,Nat.le_refl _,rfl,λk hk=>by omega,λh=>by simp at h⟩
 | x :: fs=>by
  by_cases h:uB ls (x :: fs)=true
  ·exact⟨0,Nat.zero_le _,by rw [zO,if_pos h];rfl,λk hk=>by omega,λ_=>h⟩
  ·obtain⟨j,h1,h2,h3,h4⟩:=jZ (ls:=ls) fs
   refine⟨j+1,by rw [List.length_cons];omega,by rw [zO,if_neg h,h2,List.drop_succ_cons],λk hk=>?_,λhj=>by rw [List.drop_succ_cons];exact h4 (by rw [List.length_cons] at hj;omega)⟩
   cases k with
   | zero=>rw [List.drop_zero];simpa using h
   | succ k=>rw [List.drop_succ_cons];exact h3 k (by omega)
theorem qi {ls:ZA} (fs:List Int) (x:Int):zO ls (zO ls fs++[x])=zO ls (fs++[x]):=by
 obtain⟨j,h1,h2,h3,_⟩:=jZ (ls:=ls) fs
 rw [h2,Yz j (fs++[x]) (by rw [List.length_append];omega) (λk hk=>?_),List.drop_append_of_le_length h1]
 rw [List.drop_append_of_le_length (by omega)]
 cases e:uB ls (fs.drop k++[x]) with
 | false=>rfl
 | true=>rw [<- h3 k hk,zc8 e]
theorem zcI {st fs:List Int} (ne:st≠[]) {j:Nat} (h:Yl st (fs.drop j)=true):Yl st fs=true:=by
 rw [vo ne] at h ⊢
 obtain⟨k,e⟩:=h
 exact⟨j+k,by rw [<- List.drop_drop];exact e⟩
theorem U4 {ls:ZA} (ne:∀ l∈ls,l≠[]) {fs:List Int} (j:Nat) (h:lacks ls fs=true):lacks ls (fs.drop j)=true:=by
 unfold lacks at *
 rw [Bool.not_eq_true',List.any_eq_false] at h ⊢
 intro st hst q
 exact h st hst (zcI (ne st hst) q)
theorem qp {ls:ZA} (ne:∀ l∈ls,l≠[]) {fs:List Int} (x:Int) (h:lacks ls fs=true):lacks ls (zO ls fs++[x])=lacks ls (fs++[x]):=by
 obtain⟨j,h1,h2,h3,_⟩:=jZ (ls:=ls) fs
 rw [h2,<- List.drop_append_of_le_length h1]
 rw [Bool.eq_iff_iff]
 constructor
 ·intro q
  unfold lacks at *
  rw [Bool.not_eq_true',List.any_eq_false] at h q ⊢
  intro st hst hs
  rw [vo (ne st hst)] at hs
  obtain⟨k,e⟩:=hs
  have hp:0<st.length:=List.length_pos_iff.mpr (ne st hst)
  have hl:=congrArg List.length e
  rw [List.length_take,List.length_drop,List.length_append,List.length_singleton] at hl
  by_cases hin:k+st.length<=fs.length
  ·refine h st hst ((vo (ne st hst)).mpr ⟨k,?_⟩)
   rw [List.drop_append_of_le_length (by omega),List.take_append_of_le_length (by rw [List.length_drop];omega)] at e
   exact e
  ·have hk:k+st.length=fs.length+1:=by omega
   rw [List.take_of_length_le (by rw [List.length_drop,List.length_append,List.length_singleton];omega)] at e
   by_cases hkj:j<=k
   ·refine q st hst ((vo (ne st hst)).mpr ⟨k-j,?_⟩)
    rw [List.drop_drop,show j+(k-j)=k by omega,e,List.take_of_length_le (Nat.le_refl _)]
   ·have h3k:=h3 k (by omega)
    rw [List.drop_append_of_le_length (by omega)] at e
    unfold uB at h3k
    rw [List.any_eq_false] at h3k
    refine h3k st hst (decide_eq_true ?_)
    rw [<- e,List.take_left]
 ·intro q
  exact U4 ne j q
theorem j7 {ls:ZA} (ne:∀ l∈ls,l≠[]) {fs:List Int} (h:lacks ls fs=true):XS ls (zO ls fs):=by
 obtain⟨j,h1,h2,_,h4⟩:=jZ (ls:=ls) fs
 rw [h2]
 by_cases hj:j<fs.length
 ·have q:=h4 hj
  unfold uB at q
  rw [List.any_eq_true] at q
  obtain⟨st,hst,q⟩:=q
  have q:=of_decide_eq_true q
  have hl:=congrArg List.length q
  rw [List.length_take] at hl
  have hlen:(fs.drop j).length=fs.length-j:=List.length_drop ..
  have hlk:=U4 ne j h
  refine .inr ⟨st,hst,(fs.drop j).length,by omega,?_,q.symm,hlk⟩
  by_cases hlt:(fs.drop j).length<st.length
  ·exact hlt
  ·exfalso
   have hle:st.length<=(fs.drop j).length:=by omega
   rw [List.take_of_length_le hle] at q
   unfold lacks at hlk
   rw [Bool.not_eq_true',List.any_eq_false] at hlk
   refine hlk st hst ((vo (ne st hst)).mpr ⟨0,?_⟩)
   rw [List.drop_zero,<- q,List.take_of_length_le (Nat.le_refl _)]
 ·left
  exact List.drop_of_length_le (by omega)
theorem StandsL.first {ls xs:ZA} (a:StandsL ls xs):∃ r,xs=[] :: r:=by
 have h0:([]:List Int)∈xs:=(a.mem []).mpr (.inl rfl)
 cases xs with
 | nil=>cases h0
 | cons x r =>
  rcases List.mem_cons.mp h0 with e | e
  ·exact⟨r,by rw [e]⟩
  ·have:=(List.pairwise_cons.mp a.up).1 [] e
   unfold HT.vX at this
   by_cases hl:x.length=([]:List Int).length
   ·have:x=[]:=List.eq_nil_of_length_eq_zero hl
    exact⟨r,by rw [this]⟩
   ·rw [if_neg hl] at this
    have:=of_decide_eq_true this
    simp at this
def cnt (ls:ZA) (b:Nat):Nat->List Int->Nat
 | 0,_=>1
 | t+1,x=>((List.range b).map λ(c:Nat)=>if lacks ls (x++[(c:Int)])=true then cnt ls b t (zO ls (x++[(c:Int)])) else 0).sum
def wA (b:Nat):Nat->Nat->List Int
 | 0,_=>[]
 | t+1,r=>((r / b^t:Nat):Int) :: wA b t (r % b^t)
def many (p:Nat->Bool):Nat->Nat
 | 0=>0
 | n+1=>many p n+(if p n=true then 1 else 0)
theorem uA {p q:Nat->Bool}:∀ {N:Nat},(∀ n,n<N->p n=q n)->many p N=many q N
 | 0,_=>rfl
 | N+1,h=>by rw [many,many,uA (N:=N) λn hn=>h n (by omega),h N (by omega)]
theorem Xj {p:Nat->Bool}:∀ {N:Nat},(∀ n,n<N->p n=false)->many p N=0
 | 0,_=>rfl
 | N+1,h=>by rw [many,Xj (N:=N) λn hn=>h n (by omega),h N (by omega)];rfl
theorem YX (p:Nat->Bool) (A:Nat):∀ B:Nat,many p (A+B)=many p A+many (λn=>p (A+n)) B
 | 0=>rfl
 | B+1=>by rw [<- Nat.add_assoc,many,many,YX p A B,Nat.add_assoc]
theorem U8 (p:Nat->Bool) (B:Nat):∀ A:Nat,many p (A*B)=((List.range A).map λc=>many (λr=>p (c*B+r)) B).sum
 | 0=>by simp [many]
 | A+1=>by
  rw [Nat.succ_mul,YX,U8 p B A,List.range_succ,List.map_append,List.sum_append]
  simp
theorem QX (p:Nat->Bool) {A B:Nat} (h:A<=B):many p A<=many p B:=by
 obtain⟨k,rfl⟩:=Nat.exists_eq_add_of_le h
 rw [YX];omega
theorem zeM (p:Nat->Bool) {A B:Nat} (h:A<B) (q:p A=true):many p A<many p B:=by
 have e:many p (A+1)=many p A+1:=by rw [many,if_pos q]
 have:=QX p (A:=A+1) (B:=B) h
 omega
theorem tR {b t c r:Nat} (hr:r<b^t):wA b (t+1) (c*b^t+r)=(c:Int) :: wA b t r:=by
 have h0:0<b^t:=by omega
 rw [wA,Nat.add_comm,Nat.add_mul_div_right _ _ h0,Nat.div_eq_of_lt hr,Nat.zero_add,Nat.add_mul_mod_self_right,Nat.mod_eq_of_lt hr]
theorem qP {f g:Nat->Nat}:∀ {N:Nat},(∀ c,c<N->f c=g c)->((List.range N).map f).sum=((List.range N).map g).sum:=by
 intro N h
 congr 1
 apply List.map_congr_left
 intro c hc
 exact h c (List.mem_range.mp hc)
theorem Uu {ls:ZA} (ne:∀ l∈ls,l≠[]) {b t:Nat} (ih:∀ x,lacks ls x=true->many (λr=>lacks ls (x++wA b t r)) (b^t)=cnt ls b t (zO ls x)) {x:List Int} (c:Nat) :
  many (λr=>lacks ls (x++wA b (t+1) (c*b^t+r))) (b^t)=if lacks ls (x++[(c:Int)])=true then cnt ls b t (zO ls (x++[(c:Int)])) else 0:=by
 have e1:many (λr=>lacks ls (x++wA b (t+1) (c*b^t+r))) (b^t)=many (λr=>lacks ls (x++[(c:Int)]++wA b t r)) (b^t):=by
  apply uA
  intro r hr
  show lacks ls _=lacks ls _
  rw [tR hr,List.append_assoc]
  rfl
 rw [e1]
 by_cases h:lacks ls (x++[(c:Int)])=true
 ·rw [if_pos h,ih _ h]
 ·rw [if_neg h]
  apply Xj
  intro r _
  cases hc:lacks ls (x++[(c:Int)]++wA b t r) with
  | false=>rfl
  | true=>exact absurd (Vj ne hc) h
theorem V4 {ls:ZA} (ne:∀ l∈ls,l≠[]) {b:Nat}:∀ (t:Nat) (x:List Int),lacks ls x=true->many (λr=>lacks ls (x++wA b t r)) (b^t)=cnt ls b t (zO ls x)
 | 0,x,h=>by
  rw [Nat.pow_zero,many,many,cnt,wA,List.append_nil,if_pos h]
 | t+1,x,h=>by
  rw [Nat.pow_succ',U8,cnt]
  apply qP
  intro c _
  rw [Uu ne (V4 ne t),qp ne _ h,qi]
def gd (ls:ZA) (b n:Nat):Bool:=lacks ls (zR b n)
theorem Qi {b:Nat}:∀ (t n:Nat),wA b (t+1) n=tops b t n
 | 0,n=>by simp [wA,tops]
 | t+1,n=>by rw [wA,Qi t,tops]
theorem Qu {b t c r:Nat} (h2:2<=b) (h1:1<=c) (hc:c<b) (hr:r<b^t):zR b (c*b^t+r)=(c:Int) :: wA b t r:=by
 rw [<- tR hr,Qi]
 refine (Xp h2 t _ ?_ (.inr ?_)).symm
 ·rw [Nat.pow_succ']
  have:(c+1)*b^t<=b*b^t:=Nat.mul_le_mul_right _ hc
  rw [Nat.succ_mul] at this
  omega
 ·have:1*b^t<=c*b^t:=Nat.mul_le_mul_right _ h1
  omega
def ug (ls:ZA) (b:Nat):Nat->Nat
 | 0=>if lacks ls [0]=true then 1 else 0
 | t+1=>((List.range b).map λ(c:Nat)=>if c=0 then ug ls b t else if lacks ls [(c:Int)]=true then cnt ls b t (zO ls [(c:Int)]) else 0).sum
theorem Q4 {ls:ZA} (ne:∀ l∈ls,l≠[]) {b t c:Nat} (h2:2<=b) (h1:1<=c) (hc:c<b):many (λr=>gd ls b (c*b^t+r)) (b^t)=if lacks ls [(c:Int)]=true then cnt ls b t (zO ls [(c:Int)]) else 0:=by
 have e:=Uu (x:=[]) ne (b:=b) (t:=t) (V4 ne t) c
 rw [List.nil_append] at e
 rw [<- e]
 apply uA
 intro r hr
 show gd ls b _=lacks ls _
 rw [gd,Qu h2 h1 hc hr,List.nil_append,tR hr]
theorem W8 {ls:ZA} (ne:∀ l∈ls,l≠[]) {b:Nat} (h2:2<=b):∀ t:Nat,ug ls b t=many (gd ls b) (b^t)
 | 0=>by
  rw [Nat.pow_zero,many,many,ug,Nat.zero_add]
  unfold gd
  rw [zY (show 0<b by omega)]
  rfl
 | t+1=>by
  rw [Nat.pow_succ',U8,ug]
  apply qP
  intro c hc
  by_cases h0:c=0
  ·subst h0
   rw [if_pos rfl,W8 ne h2 t]
   apply uA
   intro r _
   rw [Nat.zero_mul,Nat.zero_add]
  ·rw [if_neg h0,Q4 ne h2 (by omega) hc]
theorem zbT {α:Type} [DecidableEq α]:∀ (xs ws:List α),(∀ x∈xs,x∈ws)->ws.length<xs.length->∃ (i j:Nat) (x:α),i<j/\xs[i]?=some x/\xs[j]?=some x
 | [],ws,_,h=>by simp at h
 | x :: xs,ws,hm,h=>by
  by_cases hx:x∈xs
  ·obtain⟨j,hj⟩:=List.getElem?_of_mem hx
   exact⟨0,j+1,x,by omega,rfl,by simpa using hj⟩
  ·have hxw:=hm x List.mem_cons_self
   obtain⟨i,j,z,hij,h1,h2⟩:=zbT xs (ws.erase x) (λy hy=>(List.mem_erase_of_ne (λe:y=x=>hx (by rw [<- e];exact hy))).mpr (hm y (List.mem_cons_of_mem _ hy))) (by
    rw [List.length_erase_of_mem hxw]
    rw [List.length_cons] at h
    have:0<ws.length:=List.length_pos_of_mem hxw
    omega)
   exact⟨i+1,j+1,z,by omega,by simpa using h1,by simpa using h2⟩
theorem Xk {b n k:Nat} (h2:2<=b) (hn:n<b^(k+1)) (h:k=0\/b^k<=n):(zR b n).length=k+1:=by
 rw [<- Xp h2 k n hn h,za3]
theorem zae {b:Nat} (h2:2<=b) (n:Nat):∃ k,n<b^(k+1)/\(k=0\/b^k<=n):=by
 have key:∀ K:Nat,n<b^(K+1)->∃ k,n<b^(k+1)/\(k=0\/b^k<=n):=by
  intro K
  induction K with
  | zero=>intro h;exact⟨0,h,.inl rfl⟩
  | succ K ih =>
   intro h
   by_cases q:n<b^(K+1)
   ·exact ih q
   ·exact⟨K+1,h,.inr (by omega)⟩
 refine key n ?_
 have:n<2^n:=Nat.lt_two_pow_self
 have h3:2^n<=b^n:=Nat.pow_le_pow_left h2 n
 have h4:b^n<=b^(n+1):=Nat.pow_le_pow_right (by omega) (Nat.le_succ n)
 omega
theorem Wz {b n k:Nat} (h2:2<=b):(zR b n).length=k+1↔n<b^(k+1)/\(k=0\/b^k<=n):=by
 refine⟨λh=>?_,λh=>Xk h2 h.1 h.2⟩
 obtain⟨m,h1,h3⟩:=zae h2 n
 have e:=Xk h2 h1 h3
 rw [h] at e
 obtain rfl:k=m:=by omega
 exact⟨h1,h3⟩
def tV (ls:ZA) (b t:Nat):Option (List Int)->Nat->Nat
 | some x,c=>if lacks ls (x++[(c:Int)])=true then cnt ls b t (zO ls (x++[(c:Int)])) else 0
 | none,c=>if c=0 then ug ls b t else if lacks ls [(c:Int)]=true then cnt ls b t (zO ls [(c:Int)]) else 0
def under (ls:ZA) (b t:Nat) (o:Option (List Int)) (s:Nat):Nat:=((List.range s).map (tV ls b t o)).sum
theorem zcW (ls:ZA) (b t:Nat) (x:List Int):under ls b t (some x) b=cnt ls b (t+1) x:=rfl
theorem Wg (ls:ZA) (b t:Nat) (o:Option (List Int)):under ls b t o 0=0:=rfl
theorem uz (ls:ZA) (b t:Nat) (o:Option (List Int)) (s:Nat):under ls b t o (s+1)=under ls b t o s+tV ls b t o s:=by
 unfold under
 rw [List.range_succ,List.map_append,List.sum_append]
 simp
def Rep (ls:ZA) (b m:Nat) (o:Option (List Int)):Prop:=(m=0/\o=none)\/(1<=m/\gd ls b m=true/\o=some (zO ls (zR b m)))
theorem vp {b m c:Nat} (h2:2<=b) (h1:1<=m) (hc:c<b):zR b (m*b+c)=zR b m++[(c:Int)]:=by
 have hge:b<=m*b+c:=by
  have:1*b<=m*b:=Nat.mul_le_mul_right b h1
  omega
 rw [Xi h2 hge]
 have e1:(m*b+c) / b=m:=by rw [Nat.add_comm,Nat.add_mul_div_right _ _ (by omega),Nat.div_eq_of_lt hc,Nat.zero_add]
 have e2:(m*b+c) % b=c:=by rw [Nat.add_comm,Nat.add_mul_mod_self_right,Nat.mod_eq_of_lt hc]
 rw [e1,e2]
theorem Jg {b m c:Nat} (h2:2<=b) (h1:1<=m):1<=m*b+c:=by
 have:1*b<=m*b:=Nat.mul_le_mul_right b h1
 omega
theorem Z5 {b m:Nat} (h2:2<=b) (h1:1<=m):∀ (t r:Nat),r<b^t->zR b (m*b^t+r)=zR b m++wA b t r
 | 0,r,hr=>by
  have:r=0:=by rw [Nat.pow_zero] at hr;omega
  subst this
  rw [Nat.pow_zero,Nat.mul_one,Nat.add_zero,wA,List.append_nil]
 | t+1,r,hr=>by
  have hp:0<b^t:=Nat.pow_pos (by omega)
  have hc:r / b^t<b:=by
   rw [Nat.div_lt_iff_lt_mul hp]
   rw [Nat.pow_succ',] at hr
   exact hr
  have hm:r % b^t<b^t:=Nat.mod_lt _ hp
  have e:m*b^(t+1)+r=(m*b+r / b^t)*b^t+r % b^t:=by
   have h:=Nat.div_add_mod r (b^t)
   rw [Nat.pow_succ',Nat.add_mul,Nat.mul_assoc,Nat.add_assoc,Nat.mul_comm (r / b^t),h]
  have h1':1<=m*b+r / b^t:=Jg h2 h1
  rw [e,Z5 h2 h1' t _ hm,vp h2 h1 hc,wA,List.append_assoc]
  rfl
theorem Qp {ls:ZA} (ne:∀ l∈ls,l≠[]) {b m:Nat} {o:Option (List Int)} (h2:2<=b) (R:Rep ls b m o) (t:Nat) {c:Nat} (hc:c<b):tV ls b t o c=many (λr=>gd ls b ((m*b+c)*b^t+r)) (b^t):=by
 rcases R with ⟨rfl,rfl⟩ | ⟨h1,hg,rfl⟩
 ·rw [Nat.zero_mul,Nat.zero_add]
  show (if c=0 then _ else _)=_
  by_cases h0:c=0
  ·subst h0
   rw [if_pos rfl,W8 ne h2]
   apply uA
   intro r _
   rw [Nat.zero_mul,Nat.zero_add]
  ·rw [if_neg h0,Q4 ne h2 (by omega) hc]
 ·have e:=Uu (x:=zR b m) ne (b:=b) (t:=t) (V4 ne t) c
  show (if lacks ls (zO ls (zR b m)++[(c:Int)])=true then cnt ls b t (zO ls (zO ls (zR b m)++[(c:Int)])) else 0)=_
  rw [qp ne _ hg,qi,<- e]
  apply uA
  intro r hr
  show lacks ls _=gd ls b _
  rw [gd,Z5 h2 (Jg h2 h1) t r hr,vp h2 h1 hc,tR hr,List.append_assoc]
  rfl
theorem Wq {ls:ZA} (ne:∀ l∈ls,l≠[]) {b m:Nat} {o:Option (List Int)} (h2:2<=b) (R:Rep ls b m o) (t:Nat):∀ {s:Nat},s<=b->many (gd ls b) (m*b^(t+1))+under ls b t o s=many (gd ls b) ((m*b+s)*b^t)
 | 0,_=>by rw [Wg,Nat.add_zero,Nat.pow_succ',show (m*b+0)*b^t=m*(b*b^t) by rw [Nat.add_zero,Nat.mul_assoc]]
 | s+1,hs=>by
  rw [uz,<- Nat.add_assoc,Wq ne h2 R t (s:=s) (by omega),Qp ne h2 R t (show s<b by omega),<- Nat.add_assoc,Nat.succ_mul (m*b+s),YX]
theorem Rep.step {ls:ZA} (ne:∀ l∈ls,l≠[]) {b m:Nat} {o:Option (List Int)} (h2:2<=b) (R:Rep ls b m o) {c:Nat} (hc:c<b) :
  (o=none/\c=0/\Rep ls b (m*b+c) none)\/(¬ (o=none/\c=0)/\((lacks ls (o.getD []++[(c:Int)])=true/\Rep ls b (m*b+c) (some (zO ls (o.getD []++[(c:Int)]))))\/(lacks ls (o.getD []++[(c:Int)])=false/\1<=m*b+c/\gd ls b (m*b+c)=false))):=by
 rcases R with ⟨rfl,rfl⟩ | ⟨h1,hg,rfl⟩
 ·by_cases h0:c=0
  ·left;exact⟨rfl,h0,.inl ⟨by rw [h0];omega,rfl⟩⟩
  ·right
   refine⟨λz=>h0 z.2,?_⟩
   rw [Nat.zero_mul,Nat.zero_add]
   show (lacks ls [(c:Int)]=true/\_)\/(lacks ls [(c:Int)]=false/\_)
   have eg:gd ls b c=lacks ls [(c:Int)]:=by unfold gd;rw [zY hc]
   cases hl:lacks ls [(c:Int)] with
   | true=>left;exact⟨rfl,.inr ⟨by omega,by rw [eg];exact hl,by rw [zY hc];rfl⟩⟩
   | false=>right;exact⟨rfl,by omega,by rw [eg];exact hl⟩
 ·right
  refine⟨λz=>(nomatch z.1),?_⟩
  have hm:1<=m*b+c:=Jg h2 h1
  show (lacks ls (zO ls (zR b m)++[(c:Int)])=true/\Rep ls b (m*b+c) (some (zO ls (zO ls (zR b m)++[(c:Int)]))))\/(lacks ls (zO ls (zR b m)++[(c:Int)])=false/\_)
  rw [qp ne _ hg,qi]
  have eg:gd ls b (m*b+c)=lacks ls (zR b m++[(c:Int)]):=by unfold gd;rw [vp h2 h1 hc]
  cases hl:lacks ls (zR b m++[(c:Int)]) with
  | true=>left;exact⟨rfl,.inr ⟨hm,by rw [eg];exact hl,by rw [vp h2 h1 hc]⟩⟩
  | false=>right;exact⟨rfl,hm,by rw [eg];exact hl⟩
theorem zdX {ls:ZA} (ne:∀ l∈ls,l≠[]) {b m:Nat} (h2:2<=b) (h1:1<=m) (hg:gd ls b m=false) (t:Nat) {r:Nat} (hr:r<=b^t):many (gd ls b) (m*b^t+r)=many (gd ls b) (m*b^t):=by
 rw [YX,Xj (N:=r)]
 ·omega
 intro k hk
 show gd ls b _=false
 cases hc:gd ls b (m*b^t+k) with
 | false=>rfl
 | true =>
  unfold gd at hc hg
  rw [Z5 h2 h1 t k (by omega)] at hc
  rw [Vj ne hc] at hg
  cases hg
theorem zau {b:Nat}:∀ {t n k:Nat},k<t->n<b^t->(wA b t n)[k]?=some (((n / b^(t-1-k)) % b:Nat):Int)
 | 0,_,_,hk,_=>by omega
 | t+1,n,0,_,hn=>by
  have:n / b^t<b:=by
   rw [Nat.pow_succ'] at hn
   rcases Nat.eq_zero_or_pos (b^t) with h | h
   ·rw [h] at hn;omega
   ·rw [Nat.div_lt_iff_lt_mul h];exact hn
  rw [wA,List.getElem?_cons_zero,show t+1-1-0=t by omega,Nat.mod_eq_of_lt this]
 | t+1,n,k+1,hk,hn=>by
  have hb:0<b:=by
   rcases Nat.eq_zero_or_pos b with h | h
   ·subst h;rw [Nat.zero_pow (by omega)] at hn;omega
   ·exact h
  rw [wA,List.getElem?_cons_succ,zau (by omega) (Nat.mod_lt _ (Nat.pow_pos hb))]
  have e:t+1-1-(k+1)=t-1-k:=by omega
  rw [e]
  generalize hj:t-1-k=j
  obtain⟨q,hq⟩:∃ q,t=j+(q+1):=⟨t-j-1,by omega⟩
  rw [hq,Nat.pow_add,Nat.mod_mul_right_div_self,Nat.pow_succ',Nat.mod_mul_right_mod]
theorem U5 {b n N k:Nat} (h2:2<=b) (hN:(zR b n).length=N) (hk:k<N):(zR b n)[k]?=some (((n / b^(N-1-k)) % b:Nat):Int):=by
 obtain⟨K,rfl⟩:∃ K,N=K+1:=⟨N-1,by omega⟩
 obtain⟨h1,h3⟩:=(Wz h2).mp hN
 rw [<- Xp h2 K n h1 h3,<- Qi]
 exact zau hk h1
theorem xG {b n N:Nat} (h2:2<=b) (hN:(zR b n).length=N):n<b^N:=by
 cases N with
 | zero=>exact absurd (List.length_eq_zero_iff.mp hN) zb8
 | succ K=>exact ((Wz h2).mp hN).1
theorem Uy {b n t:Nat} (hb:0<b):n / b^t=n / b^(t+1)*b+(n / b^t) % b:=by
 have h:=Nat.div_add_mod (n / b^t) b
 rw [Nat.div_div_eq_div_mul,<- Nat.pow_succ,Nat.mul_comm] at h
 exact h.symm
def aft (ls:ZA) (x:List Int) (f:Int):Option (List Int):=if lacks ls (x++[f])=true then some (zO ls (x++[f])) else none
def ends (fs:List Int):ZA:=(List.range (fs.length+1)).map fs.drop
theorem zcX {ls:ZA} (fs:List Int):((ends fs).filter (uB ls)++[[]]).head?=some (zO ls fs):=by
 obtain⟨j,h1,h2,h3,h4⟩:=jZ (ls:=ls) fs
 rw [List.head?_append,List.head?_filter]
 unfold ends
 rw [List.find?_map]
 by_cases hj:j<fs.length
 ·have:(List.range (fs.length+1)).find? (uB ls ∘ fs.drop)=some j:=by
   rw [List.find?_range_eq_some]
   refine⟨h4 hj,List.mem_range.mpr (by omega),λk hk=>?_⟩
   show (!uB ls (fs.drop k))=true
   rw [h3 k hk];rfl
  rw [this,h2];rfl
 ·have ej:j=fs.length:=by omega
  subst ej
  rw [List.drop_length] at h2
  rw [h2]
  cases e:(List.range (fs.length+1)).find? (uB ls ∘ fs.drop) with
  | none=>rfl
  | some i =>
   rw [List.find?_range_eq_some] at e
   obtain⟨e1,e2,_⟩:=e
   have e2:=List.mem_range.mp e2
   by_cases hi:i<fs.length
   ·have:=h3 i hi
    rw [show uB ls (fs.drop i)=true from e1] at this;cases this
   ·have:i=fs.length:=by omega
    rw [this]
    simp
theorem zeR {ls:ZA} (ne:∀ l∈ls,l≠[]) {x:List Int} (f:Int) (h:lacks ls x=true):(∃ e∈ends (x++[f]),e∈ls)↔lacks ls (x++[f])=false:=by
 constructor
 ·rintro⟨e,he,hl⟩
  obtain⟨i,_,rfl⟩:=List.mem_map.mp he
  have:=zbt hl (ne _ hl) ((x++[f]).take i)
  rwa [List.take_append_drop] at this
 ·intro hf
  obtain⟨st,hst,hs⟩:∃ st∈ls,Yl st (x++[f])=true:=by
   unfold lacks at hf
   have hf:(ls.any λst=>Yl st (x++[f]))=true:=by simpa using hf
   exact List.any_eq_true.mp hf
  obtain⟨k,hk⟩:=(vo (ne st hst)).mp hs
  have hlen:=congrArg List.length hk
  rw [List.length_take,List.length_drop,List.length_append,List.length_singleton] at hlen
  have hpos:0<st.length:=List.length_pos_iff.mpr (ne st hst)
  by_cases hx:k+st.length<=x.length
  ·exfalso
   have:Yl st x=true:=by
    rw [vo (ne st hst)]
    refine⟨k,?_⟩
    rw [List.drop_append_of_le_length (by omega),List.take_append_of_le_length (by rw [List.length_drop];omega)] at hk
    exact hk
   unfold lacks at h
   have h:(ls.any λst=>Yl st x)=false:=by simpa using h
   rw [List.any_eq_false] at h
   exact h st hst this
  ·refine⟨(x++[f]).drop k,List.mem_map.mpr ⟨k,List.mem_range.mpr (by rw [List.length_append,List.length_singleton];omega),rfl⟩,?_⟩
   rw [List.take_of_length_le (by rw [List.length_drop,List.length_append,List.length_singleton];omega)] at hk
   rw [hk];exact hst
open PySem L2 PyProof.Rows
def zdS (ls F:ZA) (x:List Int):ZA:=if x∈F then F else if lacks ls x=true then F++[x] else F
def XJ (ls:ZA) (st:List Int):Nat->ZA->ZA
 | 0,F=>F
 | j+1,F=>zdS ls (XJ ls st j F) (st.take (j+1))
def VR (ls xs:ZA):ZA:=xs.foldl (λF st=>XJ ls st (st.length-1) F) [[]]
theorem zea {ls F:ZA} {x y:List Int}:y∈zdS ls F x↔y∈F\/(y=x/\lacks ls y=true):=by
 unfold zdS
 by_cases h:x∈F
 ·rw [if_pos h]
  exact⟨.inl,λz=>z.elim id λz=>by rw [z.1];exact h⟩
 ·rw [if_neg h]
  by_cases h2:lacks ls x=true
  ·rw [if_pos h2,List.mem_append,List.mem_singleton]
   exact⟨λz=>z.imp id λz=>⟨z,by rw [z];exact h2⟩,λz=>z.imp id λz=>z.1⟩
  ·rw [if_neg h2]
   exact⟨.inl,λz=>z.elim id λz=>absurd (by rw [<- z.1];exact z.2) h2⟩
theorem Jh {ls F:ZA} {st y:List Int}:∀ {j:Nat},y∈XJ ls st j F↔y∈F\/∃ k,1<=k/\k<=j/\y=st.take k/\lacks ls y=true
 | 0=>⟨.inl,λz=>z.elim id λ⟨k,h1,h2,_⟩=>by omega⟩
 | j+1=>by
  rw [XJ,zea,Jh]
  constructor
  ·rintro ((h | ⟨k,h1,h2,h3⟩) | ⟨h1,h2⟩)
   ·exact .inl h
   ·exact .inr ⟨k,h1,by omega,h3⟩
   ·exact .inr ⟨j+1,by omega,by omega,h1,h2⟩
  ·rintro (h | ⟨k,h1,h2,h3,h4⟩)
   ·exact .inl (.inl h)
   ·by_cases hk:k<=j
    ·exact .inl (.inr ⟨k,h1,hk,h3,h4⟩)
    ·exact .inr ⟨by rw [h3];congr 1;omega,h4⟩
theorem Jk {ls:ZA} {y:List Int}:∀ {xs F:ZA},y∈xs.foldl (λF st=>XJ ls st (st.length-1) F) F↔y∈F\/∃ st∈xs,∃ k,1<=k/\k<st.length/\y=st.take k/\lacks ls y=true
 | [],F=>by simp
 | st :: xs,F=>by
  rw [List.foldl_cons,Jk,Jh]
  constructor
  ·rintro ((h | ⟨k,h1,h2,h3⟩) | ⟨s,hs,h⟩)
   ·exact .inl h
   ·exact .inr ⟨st,by simp,k,h1,by omega,h3⟩
   ·exact .inr ⟨s,by simp [hs],h⟩
  ·rintro (h | ⟨s,hs,k,h1,h2,h3⟩)
   ·exact .inl (.inl h)
   ·rcases List.mem_cons.mp hs with rfl | hs
    ·exact .inl (.inr ⟨k,h1,by omega,h3⟩)
    ·exact .inr ⟨s,hs,k,h1,h2,h3⟩
theorem UL {ls:ZA} {y:List Int}:y∈VR ls ls↔XS ls y:=by
 unfold VR XS
 rw [Jk,List.mem_singleton]
theorem zdw (ls F:ZA) (x:List Int):(zdS ls F x).length<=F.length+1:=by
 unfold zdS
 split
 ·omega
 ·split
  ·rw [List.length_append,List.length_singleton];omega
  ·omega
theorem QV (ls:ZA) (st:List Int) (F:ZA):∀ j,(XJ ls st j F).length<=F.length+j
 | 0=>Nat.le_refl _
 | j+1=>by rw [XJ];have:=zdw ls (XJ ls st j F) (st.take (j+1));have:=QV ls st F j;omega
theorem Jp {ls:ZA}:∀ {xs F:ZA},(∀ st∈xs,st.length<=4)->(xs.foldl (λF st=>XJ ls st (st.length-1) F) F).length<=F.length+3*xs.length
 | [],F,_=>by simp
 | st :: xs,F,h=>by
  rw [List.foldl_cons,List.length_cons]
  have:=Jp (ls:=ls) (xs:=xs) (F:=XJ ls st (st.length-1) F) λs hs=>h s (List.mem_cons_of_mem _ hs)
  have:=QV ls st F (st.length-1)
  have:=h st List.mem_cons_self
  omega
theorem zaH {ls:ZA} (h4:ls.length<=4) (h:∀ st∈ls,st.length<=4):(VR ls ls).length<=13:=by
 have:=Jp (ls:=ls) (xs:=ls) (F:=[[]]) h
 unfold VR
 rw [List.length_singleton] at this
 omega
def kI (x:List Int):List Key:=x.map Sum.inl
theorem zeq (x:List Int):(kI x).map kV=x.map V.int:=by unfold kI;rw [List.map_map];rfl
theorem Ut {x y:List Int} (h:kI x=kI y):x=y:=by
 unfold kI at h
 exact (List.map_inj_right (λa b e=>by injection e)).mp h
def AftV (H:Hp):Option (List Int)->V->Prop
 | none,v=>v=.non
 | some y,v=>∃ c,v=.ref c/\H c=some (.tup (y.map V.int))
theorem AftV.same {H H':Hp} {o:Option (List Int)} {v:V} (h:AftV H o v) (s:∀ b xs,H b=some (.tup xs)->H' b=some (.tup xs)):AftV H' o v:=by
 cases o with
 | none=>exact h
 | some y=>obtain⟨c,e,q⟩:=h;exact⟨c,e,s _ _ q⟩
def kA (x:List Int) (f:Nat):NK:=(kI x,[.inl (f:Int),.inl 0])
def kW (x:List Int) (t:Nat):NK:=(kI x,[.inl (t:Int)])
def Ent (ls:ZA) (b:Nat) (H:Hp) (k:NK) (v:V):Prop :=
 (∃ (x:List Int) (f:Nat),XS ls x/\f<b/\k=kA x f/\AftV H (aft ls x f) v)\/∃ (x:List Int) (t:Nat),XS ls x/\1<=t/\t<=1000/\k=kW x t/\v=.int (cnt ls b t x:Nat)
structure Tab (ls:ZA) (b:Nat) (H:Hp) (kvs:List (NK×V)):Prop where
 nd:(kvs.map (·.1)).Nodup
 ok:∀ p∈kvs,Ent ls b H p.1 p.2
section
variable {ls:ZA} {b:Nat} {H H':Hp} {kvs:List (NK×V)}
theorem Tab.nil:Tab ls b H []:=⟨List.nodup_nil,λp hp=>nomatch hp⟩
theorem Tab.same (t:Tab ls b H kvs) (s:∀ b xs,H b=some (.tup xs)->H' b=some (.tup xs)):Tab ls b H' kvs:=⟨t.nd,λp hp=>by
 rcases t.ok p hp with ⟨x,f,h1,h2,h3,h4⟩ | h
 ·exact .inl ⟨x,f,h1,h2,h3,h4.same s⟩
 ·exact .inr h⟩
theorem Yy {k:NK} {v:V}:∀ {kvs:List (NK×V)},wQ kvs k=some v->(k,v)∈kvs
 | [],h=>by cases h
 | p :: kvs,h=>by
  by_cases e:p.1=k
  ·rw [wk e] at h
   cases h
   exact List.mem_cons.mpr (.inl (by rw [<- e]))
  ·rw [ww e] at h
   exact List.mem_cons_of_mem _ (Yy h)
theorem Tab.aft (t:Tab ls b H kvs) {x:List Int} {f:Nat} {v:V} (h:wQ kvs (kA x f)=some v):AftV H (aft ls x f) v:=by
 rcases t.ok _ (Yy h) with ⟨y,g,_,_,e,q⟩ | ⟨y,n,_,_,_,e,_⟩
 ·unfold kA at e
  injection e with e1 e2
  injection e2 with e2 e3
  injection e2 with e2
  have e1:=Ut e1
  have e2:f=g:=by omega
  subst e1 e2
  exact q
 ·exfalso
  have e:=congrArg (λz:NK=>z.2.length) e
  simp [kA,kW] at e
theorem Tab.way (t:Tab ls b H kvs) {x:List Int} {n:Nat} {v:V} (h:wQ kvs (kW x n)=some v):v=.int (cnt ls b n x:Nat):=by
 rcases t.ok _ (Yy h) with ⟨y,g,_,_,e,q⟩ | ⟨y,m,_,_,_,e,q⟩
 ·exfalso
  have e:=congrArg (λz:NK=>z.2.length) e
  simp [kA,kW] at e
 ·unfold kW at e
  injection e with e1 e2
  injection e2 with e2 e3
  injection e2 with e2
  have e1:=Ut e1
  have e2:n=m:=by omega
  subst e1 e2
  exact q
theorem Tab.put (t:Tab ls b H kvs) {k:NK} {v:V} (h:wQ kvs k=none) (e:Ent ls b H k v):Tab ls b H (putK kvs k v):=by
 refine⟨zck v t.nd h,λp hp=>?_⟩
 rw [Xd v h] at hp
 rcases List.mem_append.mp hp with hp | hp
 ·exact t.ok p hp
 ·rw [List.mem_singleton.mp hp];exact e
theorem zbN {k:NK} {u v:V} (h:wQ kvs k=none):putK (putK kvs k u) k v=putK kvs k v:=by
 rw [Xd u h,Xd v h]
 unfold putK
 have a1:((kvs++[(k,u)]).any λkv=>decide (kv.1=k))=true:=by rw [List.any_append];simp
 rw [if_pos a1,List.map_append]
 have hn:=zbb h
 have e:(kvs.map λkv=>if kv.1=k then (kv.1,v) else kv)=kvs:=by
  conv=>rhs;rw [<- List.map_id kvs]
  refine List.map_congr_left λp hp=>?_
  rw [if_neg (λz=>hn (List.mem_map.mpr ⟨p,hp,z⟩))];rfl
 rw [e]
 simp
def zaQ (ls:ZA) (b:Nat):List NK:=((VR ls ls).map λx=>(List.range b).map λf=>kA x f).flatten++((VR ls ls).map λx=>(List.range 1001).map λt=>kW x t).flatten
theorem WK {α β:Type} {f:α->List β} {n:Nat} (h:∀ a,(f a).length<=n):∀ l:List α,((l.map f).flatten).length<=n*l.length
 | []=>by simp
 | a :: l=>by
  rw [List.map_cons,List.flatten_cons,List.length_append,List.length_cons,Nat.mul_succ]
  have:=WK h l
  have:=h a
  omega
theorem Tab.len (t:Tab ls b H kvs) (h4:ls.length<=4) (h:∀ st∈ls,st.length<=4) (hb:b<=16):kvs.length<=20000:=by
 have hk:(zaQ ls b).length<=20000:=by
  have h1:=WK (f:=λx=>(List.range b).map λf=>kA x f) (n:=16) (λx=>by rw [List.length_map,List.length_range];exact hb) (VR ls ls)
  have h2:=WK (f:=λx=>(List.range 1001).map λt=>kW x t) (n:=1001) (λx=>by rw [List.length_map,List.length_range];exact Nat.le_refl _) (VR ls ls)
  have h3:=zaH h4 h
  unfold zaQ
  rw [List.length_append]
  omega
 by_cases hc:kvs.length<=(zaQ ls b).length
 ·omega
 ·exfalso
  obtain⟨i,j,x,hij,h1,h2⟩:=zbT (kvs.map (·.1)) (zaQ ls b) (λk hk=>by
   obtain⟨p,hp,rfl⟩:=List.mem_map.mp hk
   unfold zaQ
   rw [List.mem_append]
   rcases t.ok p hp with ⟨x,f,q1,q2,q3,_⟩ | ⟨x,n,q1,q2,q3,q4,_⟩
   ·exact .inl (List.mem_flatten.mpr ⟨_,List.mem_map.mpr ⟨x,UL.mpr q1,rfl⟩,List.mem_map.mpr ⟨f,List.mem_range.mpr q2,q3.symm⟩⟩)
   ·exact .inr (List.mem_flatten.mpr ⟨_,List.mem_map.mpr ⟨x,UL.mpr q1,rfl⟩,List.mem_map.mpr ⟨n,List.mem_range.mpr (by omega),q4.symm⟩⟩)) (by rw [List.length_map];omega)
  have hj:=(List.getElem?_eq_some_iff.mp h2).1
  have:=(List.getElem?_inj (by omega) t.nd).mp (h1.trans h2.symm)
  omega
end
structure RdS (G:Hp) (rd tl dd:Addr) (b:Nat) (ts:ZB):Prop where
 hd:G rd=some (.lst [.int b,.ref tl,.ref dd])
 li:G tl=some (.lst (ts.map λt=>V.ref t.1))
 st:∀ t∈ts,G t.1=some (.tup (t.2.map V.int))
def RdD (P:Program) (w:World) (H:Hp) (dd:Addr) (ls:ZA) (b:Nat):Prop:=∃ kvs,DN P w H dd kvs/\Tab ls b H kvs
theorem RdS.same {G G':Hp} {rd tl dd:Addr} {b:Nat} {ts:ZB} (R:RdS G rd tl dd b ts) (s:Same G G'):RdS G' rd tl dd b ts:=⟨s _ _ R.hd,s _ _ R.li,λt ht=>s _ _ (R.st t ht)⟩
theorem RdD.same {P:Program} {w:World} {H H':Hp} {dd:Addr} {ls:ZA} {b:Nat} (R:RdD P w H dd ls b) (s:Same H H'):RdD P w H' dd ls b:=let ⟨kvs,h1,h2⟩:=R;⟨kvs,h1.same s,h2.same λb xs e=>s _ _ e⟩
theorem zeL {P:Program} {w:World} {c:Addr} {q:Str} {xs:List (NK×Addr×Value)}:Ug c q≠.ext (zan P w c xs):=λe=>by
 have e':(λh:Heap=>h.CodeRec (.ref c) q)=zan P w c xs:=by unfold Ug at e;injection e
 have g0:(⟨Array.replicate (c+1) { cls:=.none,data:=.fields #[.none,.str q default] },{}⟩:Heap).get? c=some { cls:=.none,data:=.fields #[.none,.str q default] }:=by
  unfold Heap.get?
  simp
 have h1:(λh:Heap=>h.CodeRec (.ref c) q) ⟨Array.replicate (c+1) { cls:=.none,data:=.fields #[.none,.str q default] },{}⟩:=⟨c,_,_,default,rfl,g0,rfl,rfl⟩
 rw [e'] at h1
 obtain⟨o,es,ep,g,_,d,_⟩:=h1
 rw [g0] at g
 cases g
 cases d
theorem DN.lam {P:Program} {w:World} {H:Hp} {a T:Addr} {kvs:List (NK×V)} {pos:Pos} {q:Str} (h:DN P w H a kvs) (lt:Wb T pos q H):T≠a/\∀ c,H c=some (Ug c q)->c≠a:=by
 obtain⟨xs,e,_⟩:=h
 refine⟨λz=>?_,λc hc z=>?_⟩
 ·rw [<- z] at e
  rcases lt with l | ⟨c,l,_⟩
  ·rw [l] at e;cases e
  ·rw [l] at e;cases e
 ·subst z
  rw [hc] at e
  injection e with e
  exact zeL e
def SameD (d:Addr) (H H':Hp):Prop:=∀ b u,b≠d->H b=some u->H' b=some u
theorem SameD.of {d:Addr} {H H':Hp} (s:Same H H'):SameD d H H':=λb u _ e=>s b u e
theorem SameD.trans {d:Addr} {H H1 H2:Hp} (a:SameD d H H1) (b:SameD d H1 H2):SameD d H H2:=λc u h e=>b c u h (a c u h e)
theorem RdD.ne {P:Program} {w:World} {H:Hp} {dd:Addr} {ls:ZA} {b:Nat} (R:RdD P w H dd ls b) {c:Addr} {u:HO} (h:H c=some u) (hu:∀ φ,u≠.ext φ):c≠dd:=let ⟨_,⟨_,e,_⟩,_⟩:=R;λz=>by
 rw [z,e] at h;cases h;exact hu _ rfl
theorem RdS.sameD {P:Program} {w:World} {H H':Hp} {rd tl dd:Addr} {ls:ZA} {b b':Nat} {ts:ZB} (R:RdS H rd tl dd b ts) (D:RdD P w H dd ls b') (s:SameD dd H H'):RdS H' rd tl dd b ts :=
 ⟨s _ _ (D.ne R.hd λ_ z=>nomatch z) R.hd,s _ _ (D.ne R.li λ_ z=>nomatch z) R.li,λt ht=>s _ _ (D.ne (R.st t ht) λ_ z=>nomatch z) (R.st t ht)⟩
def vH (x:List Int):Tr:=.tup (x.map Tr.int)
theorem TrAt.tupI {K:W.Frag} {H:Hp} {a:Addr} {x:List Int} (h:H a=some (.tup (x.map V.int))):TrAt K H (vH x) (.ref a):=by
 unfold vH;rw [TrAt];exact⟨a,_,rfl,SqT.of h,TrsAt.ints⟩
theorem zbd (a b:List Int):teq (vH a) (vH b)=decide (a=b):=by unfold vH;rw [teq];exact Ux zcm a b
theorem QW (x:List Int):q9 (vH x)=1:=by unfold vH;rw [q9,X5]
theorem Yg:∀ ls:ZA,wC (ls.map vH)<=1
 | []=>by rw [List.map_nil,wC];omega
 | x :: ls=>by rw [List.map_cons,wC,QW];have:=Yg ls;omega
theorem TrsAt.tups {K:W.Frag} {H:Hp}:∀ {zs:ZB},(∀ z∈zs,H z.1=some (.tup (z.2.map V.int)))->TrsAt K H ((zs.map (·.2)).map vH) (zs.map λz=>V.ref z.1)
 | [],_=>by rw [List.map_nil,List.map_nil,List.map_nil,TrsAt]
 | z :: zs,h=>by
  rw [List.map_cons,List.map_cons,List.map_cons,TrsAt]
  exact⟨_,_,rfl,TrAt.tupI (h z List.mem_cons_self),TrsAt.tups λy hy=>h y (List.mem_cons_of_mem _ hy)⟩
theorem zeO {ls:ZA} {x:List Int}:((ls.map vH).any λt=>teq t (vH x))=decide (x∈ls):=by
 induction ls with
 | nil=>simp
 | cons y ls ih =>
  rw [List.map_cons,List.any_cons,ih,zbd,<- Bool.decide_or]
  refine decide_eq_decide.mpr ?_
  rw [List.mem_cons]
  exact⟨λz=>z.imp Eq.symm id,λz=>z.imp Eq.symm id⟩
theorem Jj (ts:List Tr):teq (.lst ts) (.lst [])=ts.isEmpty:=by
 cases ts with
 | nil=>rfl
 | cons t ts=>rw [teq,Zu (by simp)];rfl
def wsum (w:Nat->Nat) (sc:Nat):List Int->Nat
 | []=>0
 | c :: l=>sc^l.length*w c.toNat+wsum w sc l
def tot (p:Nat->Bool) (f:Nat->Nat):Nat->Nat
 | 0=>0
 | n+1=>tot p f n+(if p n=true then f n else 0)
theorem tW {p q:Nat->Bool} {f g:Nat->Nat}:∀ {N:Nat},(∀ n,n<N->p n=q n)->(∀ n,n<N->f n=g n)->tot p f N=tot q g N
 | 0,_,_=>rfl
 | N+1,h,k=>by rw [tot,tot,tW (N:=N) (λn hn=>h n (by omega)) (λn hn=>k n (by omega)),h N (by omega),k N (by omega)]
theorem Uj {p:Nat->Bool} {f:Nat->Nat}:∀ {N:Nat},(∀ n,n<N->p n=false)->tot p f N=0
 | 0,_=>rfl
 | N+1,h=>by rw [tot,Uj (N:=N) λn hn=>h n (by omega),h N (by omega)];rfl
theorem Ua (p:Nat->Bool) (f:Nat->Nat) (A:Nat):∀ B:Nat,tot p f (A+B)=tot p f A+tot (λn=>p (A+n)) (λn=>f (A+n)) B
 | 0=>rfl
 | B+1=>by rw [<- Nat.add_assoc,tot,tot,Ua p f A B,Nat.add_assoc]
theorem zaq (p:Nat->Bool) (f:Nat->Nat) (B:Nat):∀ A:Nat,tot p f (A*B)=((List.range A).map λc=>tot (λr=>p (c*B+r)) (λr=>f (c*B+r)) B).sum
 | 0=>by simp [tot]
 | A+1=>by
  rw [Nat.succ_mul,Ua,zaq p f B A,List.range_succ,List.map_append,List.sum_append]
  simp
theorem Ur (p:Nat->Bool) (f:Nat->Nat) (a:Nat):∀ N:Nat,tot p (λn=>a+f n) N=a*many p N+tot p f N
 | 0=>by simp [tot,many]
 | N+1=>by
  rw [tot,tot,many,Ur p f a N]
  by_cases h:p N=true
  ·rw [if_pos h,if_pos h,if_pos h,Nat.mul_add];omega
  ·rw [if_neg h,if_neg h,if_neg h,Nat.add_zero,Nat.add_zero,Nat.add_zero]
theorem WF (b:Nat):∀ t r:Nat,(wA b t r).length=t
 | 0,_=>rfl
 | t+1,r=>by rw [wA,List.length_cons,WF b t]
def tt (ls:ZA) (b:Nat) (w:Nat->Nat) (sc:Nat):Nat->List Int->Nat
 | 0,_=>0
 | t+1,x=>((List.range b).map λ(c:Nat)=>if lacks ls (x++[(c:Int)])=true then sc^t*w c*cnt ls b t (zO ls (x++[(c:Int)]))+tt ls b w sc t (zO ls (x++[(c:Int)])) else 0).sum
def ttO (ls:ZA) (b:Nat) (w:Nat->Nat) (sc:Nat):Nat->Nat
 | 0=>w 0*ug ls b 0
 | t+1=>((List.range b).map λ(c:Nat)=>if c=0 then ttO ls b w sc t else if lacks ls [(c:Int)]=true then sc^t*w c*cnt ls b t (zO ls [(c:Int)])+tt ls b w sc t (zO ls [(c:Int)]) else 0).sum
theorem Ju {ls:ZA} (ne:∀ l∈ls,l≠[]) {b t sc:Nat} {w:Nat->Nat} (ih:∀ x,lacks ls x=true->tot (λr=>lacks ls (x++wA b t r)) (λr=>wsum w sc (wA b t r)) (b^t)=tt ls b w sc t (zO ls x)) {x:List Int} (c:Nat) :
  tot (λr=>lacks ls (x++wA b (t+1) (c*b^t+r))) (λr=>wsum w sc (wA b (t+1) (c*b^t+r))) (b^t)=if lacks ls (x++[(c:Int)])=true then sc^t*w c*cnt ls b t (zO ls (x++[(c:Int)]))+tt ls b w sc t (zO ls (x++[(c:Int)])) else 0:=by
 have e1:tot (λr=>lacks ls (x++wA b (t+1) (c*b^t+r))) (λr=>wsum w sc (wA b (t+1) (c*b^t+r))) (b^t)=tot (λr=>lacks ls (x++[(c:Int)]++wA b t r)) (λr=>sc^t*w c+wsum w sc (wA b t r)) (b^t):=by
  apply tW
  ·intro r hr
   show lacks ls _=lacks ls _
   rw [tR hr,List.append_assoc]
   rfl
  ·intro r hr
   show wsum w sc _=_
   rw [tR hr,wsum,WF]
   rfl
 rw [e1,Ur]
 by_cases h:lacks ls (x++[(c:Int)])=true
 ·rw [if_pos h,ih _ h,V4 ne t _ h]
 ·rw [if_neg h]
  have hn:∀ r,r<b^t->lacks ls (x++[(c:Int)]++wA b t r)=false:=by
   intro r _
   cases hc:lacks ls (x++[(c:Int)]++wA b t r) with
   | false=>rfl
   | true=>exact absurd (Vj ne hc) h
  rw [Xj hn,Uj hn]
  simp
theorem zbW {ls:ZA} (ne:∀ l∈ls,l≠[]) {b sc:Nat} {w:Nat->Nat}:∀ (t:Nat) (x:List Int),lacks ls x=true->tot (λr=>lacks ls (x++wA b t r)) (λr=>wsum w sc (wA b t r)) (b^t)=tt ls b w sc t (zO ls x)
 | 0,x,h=>by
  rw [Nat.pow_zero,tot,tot,tt,wA,wsum]
  simp
 | t+1,x,h=>by
  rw [Nat.pow_succ',zaq,tt]
  apply qP
  intro c _
  rw [Ju ne (zbW ne t),qp ne _ h,qi]
theorem zaW {ls:ZA} (ne:∀ l∈ls,l≠[]) {b t c sc:Nat} {w:Nat->Nat} (h2:2<=b) (h1:1<=c) (hc:c<b):tot (λr=>gd ls b (c*b^t+r)) (λr=>wsum w sc (zR b (c*b^t+r))) (b^t)=if lacks ls [(c:Int)]=true then sc^t*w c*cnt ls b t (zO ls [(c:Int)])+tt ls b w sc t (zO ls [(c:Int)]) else 0:=by
 have e:=Ju (x:=[]) ne (b:=b) (t:=t) (w:=w) (sc:=sc) (zbW ne t) c
 rw [List.nil_append] at e
 rw [<- e]
 apply tW
 ·intro r hr
  show gd ls b _=lacks ls _
  rw [gd,Qu h2 h1 hc hr,List.nil_append,tR hr]
 ·intro r hr
  show wsum w sc _=wsum w sc _
  rw [Qu h2 h1 hc hr,tR hr]
theorem zca {ls:ZA} (ne:∀ l∈ls,l≠[]) {b sc:Nat} {w:Nat->Nat} (h2:2<=b):∀ t:Nat,ttO ls b w sc t=tot (gd ls b) (λn=>wsum w sc (zR b n)) (b^t)
 | 0=>by
  rw [Nat.pow_zero,tot,tot,ttO,Nat.zero_add]
  unfold gd
  rw [zY (show 0<b by omega),ug]
  show w 0*(if lacks ls [0]=true then 1 else 0)=if lacks ls [0]=true then wsum w sc [0] else 0
  split<;>simp [wsum]
 | t+1=>by
  rw [Nat.pow_succ',zaq,ttO]
  apply qP
  intro c hc
  by_cases h0:c=0
  ·subst h0
   rw [if_pos rfl,zca ne h2 t]
   apply tW<;>intro r _<;>simp
  ·rw [if_neg h0,zaW ne h2 (by omega) hc]
theorem wsum_snoc (w:Nat->Nat) (sc:Nat) (c:Int):∀ l:List Int,wsum w sc (l++[c])=sc*wsum w sc l+w c.toNat
 | []=>by simp [wsum]
 | d :: l=>by
  rw [List.cons_append,wsum,wsum,wsum_snoc w sc c l,List.length_append,List.length_singleton,Nat.pow_succ',Nat.mul_add,Nat.mul_assoc]
  omega
theorem zaT {p:Nat->Bool} {f:Nat->Nat} {A B:Nat} (hAB:A<=B) (h:many p A=many p B):tot p f B=tot p f A:=by
 obtain⟨k,rfl⟩:=Nat.exists_eq_add_of_le hAB
 rw [Ua,Uj (p:=λn=>p (A+n)) (f:=λn=>f (A+n)) (N:=k) λn hn=>?_]
 ·rfl
 ·show p (A+n)=false
  cases hp:p (A+n) with
  | false=>rfl
  | true =>
   have:=zeM p (show A+n<A+k by omega) hp
   have:=QX p (show A<=A+n by omega)
   omega
theorem VD (w:Nat->Nat) (sc:Nat) (k:List Int):∀ l:List Int,wsum w sc (l++k)=sc^k.length*wsum w sc l+wsum w sc k
 | []=>by simp [wsum]
 | c :: l=>by
  rw [List.cons_append,wsum,wsum,VD w sc k l,List.length_append,Nat.pow_add,Nat.mul_add,<- Nat.add_assoc]
  congr 2
  rw [Nat.mul_comm (sc^l.length),Nat.mul_assoc]
def ahd (w:Nat->Nat) (sc b m:Nat):Nat:=if m=0 then 0 else wsum w sc (zR b m)
theorem zdz {w:Nat->Nat} {sc b m c:Nat} (h2:2<=b) (hc:c<b) (h:1<=m*b+c):ahd w sc b (m*b+c)=sc*ahd w sc b m+w c:=by
 unfold ahd
 rw [if_neg (by omega)]
 by_cases hm:m=0
 ·subst hm
  rw [if_pos rfl,Nat.zero_mul,Nat.zero_add,zY hc]
  simp [wsum]
 ·rw [if_neg hm,vp h2 (by omega) hc,wsum_snoc]
  rfl
def fw (w:Nat->Nat) (sc b n:Nat):Nat:=wsum w sc (zR b n)
theorem zcb (p:Nat->Bool) (g:Nat->Nat->Nat) (k:Nat->Nat) (M:Nat):∀ N:Nat,((List.range M).map λc=>k c*tot p (g c) N).sum=tot p (λn=>((List.range M).map λc=>k c*g c n).sum) N
 | 0=>by
  rw [tot]
  induction M with
  | zero=>rfl
  | succ M ih=>rw [List.range_succ,List.map_append,List.sum_append,ih];simp [tot]
 | N+1=>by
  rw [tot,<- zcb p g k M N]
  induction M with
  | zero=>simp
  | succ M ih =>
   rw [List.range_succ,List.map_append,List.sum_append,List.map_append,List.sum_append,List.map_append,List.sum_append,ih]
   simp only [List.map_cons,List.map_nil,List.sum_cons,List.sum_nil,Nat.add_zero,tot]
   by_cases h:p N=true
   ·rw [if_pos h,if_pos h,if_pos h,Nat.mul_add];omega
   ·rw [if_neg h,if_neg h,if_neg h,Nat.add_zero,Nat.add_zero,Nat.add_zero]
def one (c:Nat):Nat->Nat:=λd=>if d=c then 1 else 0
theorem Q3 (k:Nat->Nat) (d:Nat):∀ M:Nat,((List.range M).map λc=>k c*one c d).sum=if d<M then k d else 0
 | 0=>by simp
 | M+1=>by
  rw [List.range_succ,List.map_append,List.sum_append,Q3 k d M]
  simp only [List.map_cons,List.map_nil,List.sum_cons,List.sum_nil,Nat.add_zero,one]
  by_cases h:d=M
  ·subst h
   rw [if_neg (Nat.lt_irrefl _),if_pos rfl,if_pos (by omega)];omega
  ·rw [if_neg h,Nat.mul_zero,Nat.add_zero]
   by_cases h2:d<M
   ·rw [if_pos h2,if_pos (by omega)]
   ·rw [if_neg h2,if_neg (by omega)]
theorem UW (k:Nat->Nat) (M:Nat):∀ l:List Int,(∀ f∈l,f.toNat<M)->((List.range M).map λc=>k c*wsum (one c) 1 l).sum=wsum k 1 l
 | [],_=>by
  simp only [wsum,Nat.mul_zero]
  induction M with
  | zero=>rfl
  | succ M ih=>rw [List.range_succ,List.map_append,List.sum_append,ih (by simp)];rfl
 | f :: l,h=>by
  have ih:=UW k M l λx hx=>h x (List.mem_cons_of_mem _ hx)
  have hf:=Q3 k f.toNat M
  rw [if_pos (h f List.mem_cons_self)] at hf
  have add:∀ (u v:Nat->Nat) (N:Nat),((List.range N).map λc=>u c+v c).sum=((List.range N).map u).sum+((List.range N).map v).sum:=by
   intro u v N
   induction N with
   | zero=>rfl
   | succ N ih=>rw [List.range_succ,List.map_append,List.sum_append,List.map_append,List.sum_append,List.map_append,List.sum_append,ih];simp;omega
  have e:((List.range M).map λc=>k c*wsum (one c) 1 (f :: l)).sum=((List.range M).map λc=>k c*one c f.toNat+k c*wsum (one c) 1 l).sum:=by
   congr 1
   apply List.map_congr_left
   intro c _
   rw [wsum,Nat.one_pow,Nat.one_mul,Nat.mul_add]
  rw [e,add,hf,ih,wsum,Nat.one_pow,Nat.one_mul]
theorem Wc (c:Nat):∀ l:List Int,(∀ f∈l,0<=f)->wsum (one c) 1 l=l.count (c:Int)
 | [],_=>rfl
 | f :: l,h=>by
  rw [wsum,Wc c l λx hx=>h x (List.mem_cons_of_mem _ hx),Nat.one_pow,Nat.one_mul,List.count_cons]
  have h0:=h f List.mem_cons_self
  unfold one
  by_cases e:f=(c:Int)
  ·subst e;simp;omega
  ·rw [if_neg (by omega),if_neg (by simpa using e)];omega
end Lw
namespace L2
open PySem PySem.Spec PyProof.Rows
def cxD (X:Cx) (x:Str) (N:List Str) (scope:Scope) (C:Addr) (s₀:Shared) (H₀:Hp) (ex:List Addr):Cx where
 prog:=X.prog
 w:=X.w
 K:=X.K
 mg:=X.mg
 base:=X.base
 A:=X.A
 N:=N
 s₀:=s₀
 H₀:=H₀
 env:=compEnvC scope ((x,C+1) :: yt X.env.cells scope.names []) C X.env
 outer:=X.stack
 stack:=X.stack
 ex:=ex
 fn:=λy=>y == x
 calm:=X.calm
 pn:=[]
 xe:=λ_ _=>False
structure Ub (sc:Scope) (scope:Scope) (x:Str) (M:List Str) (ys:List Str) (js:List Nat):Prop where
 kind:scope.kind=.function
 cell:∀ y∈scope.names,y.2=.cell->y.1=x
 loc:∀ y∈scope.names,y.2=.local->scope.names.lookup y.1=some .local
 var:scope.names.lookup x=some .cell
 free:∀ y∈scope.names,y.2=.free->sc.names.lookup y.1=some .cell\/sc.names.lookup y.1=some .free
 caps:js.map (M[·]?)=ys.map some
 fr:∀ y∈ys,scope.names.lookup y=some .free
 nd:(x :: ys).Nodup
 own:∀ n acc,cellsFrom n scope.names acc=(x,n) :: acc
 psh:∀ h:Heap,pushCells h scope.names=h.push { cls:=.type "cell",data:=.cell none }
theorem vZ {env:Env}:∀ {names:List (Str×NameKind)} {x:Str},names.lookup x=some .cell ->
  (names.map λ(n,k)=>if (k == NameKind.free && env.scope.kind == .function && env.kindOf n == some .cell) then (n,NameKind.cell) else (n,k)).lookup x=some .cell
 | [],_,h=>by simp at h
 | (n,k) :: r,x,h=>by
  have ih:=@vZ env r x
  rw [List.map_cons]
  have e:∀ b:Bool,(if b=true then (n,NameKind.cell) else (n,k)).1=n:=λb=>by cases b<;>rfl
  generalize hb:(k == NameKind.free && env.scope.kind == .function && env.kindOf n == some .cell)=b
  simp only [hb]
  rw [List.lookup_cons] at h
  cases hx:x == n with
  | true =>
   rw [hx] at h
   have hk:k=.cell:=Option.some.inj h
   cases b<;>simp [List.lookup_cons,hx,hk]
  | false =>
   rw [hx] at h
   cases b<;>(simp only [if_true,Bool.false_eq_true,if_false,List.lookup_cons,hx];exact ih h)
theorem zbC {M:Model} {A:Around} {E:Value->Shared->Prop} {s:Shared} {scope:Scope} {globals:Addr} {cl:List (Str×Addr)} {qual:Str} {outer:Env} {x:Str} {Q:Env->Shared->Prop}
  (own:∀ n acc,cellsFrom n scope.names acc=(x,n) :: acc) (psh:∀ h:Heap,pushCells h scope.names=h.push { cls:=.type "cell",data:=.cell none })
  (hQ:∀ h',h'.Ns s.heap.objs.size (λ_=>none)->h'.get? (s.heap.objs.size+1)=some { cls:=.type "cell",data:=.cell none }->(∀ b o,s.heap.get? b=some o->h'.get? b=some o) ->
   Q { scope,locals:=s.heap.objs.size,globals,cells:=(x,s.heap.objs.size+1) :: cl,qual,func:=none,code:=outer.code,frame:=outer.frame,builtins:=outer.builtins } { s with heap:=h' }) :
  wpAny M A (newFunctionEnv scope globals cl [] qual none .none (some outer)) Q E s:=by
 simp only [newFunctionEnv,Option.isSome_some,if_true]
 refine wpAny_bind (wpAny_alloc ?_)
 refine wpAny_bind (wpAny_layCells _ (λname kind cells=>by cases hkc:kind == NameKind.cell<;>simp [hkc]) _ _ _ _ ?_)
 rw [own,psh]
 simp only [List.forIn_nil]
 refine wpAny_bind (wpAny_pure (wpAny_pure ?_))
 have hsz:(s.heap.push { cls:=.type "dict",data:=.dict #[] }).objs.size=s.heap.objs.size+1:=Heap.size_push ..
 have q:=hQ ((s.heap.push { cls:=.type "dict",data:=.dict #[] }).push { cls:=.type "cell",data:=.cell none })
  ((Heap.Ns.new s.heap (.type "dict")).keeps λb o e=>Heap.get?_push_of_some _ e) (by rw [<- hsz];exact Heap.get?_push_size _ rfl) λb o e=>Heap.get?_push_of_some _ (Heap.get?_push_of_some _ e)
 rw [<- hsz] at q
 exact q
section
variable {X:Cx} {pins:List (Addr×Obj)} {Z:St} {H:Hp} {s:Shared}
theorem zdd {scope:Scope} {x:Str} {ys:List Str} {js:List Nat} {fp:List Addr} {h₁:Heap} {tk:Nat} {C:Addr} (I:Inv X pins Z H s) (S:Ub X.env.scope scope x X.N ys js) (hf:∀ b∈fp,YD X pins H b) (ho:∀ b∈fp,∃ o,s.heap.get? b=some o)
  (hC:s.heap.objs.size<=C) (hk:∀ b o,s.heap.get? b=some o->h₁.get? b=some o) (hn:h₁.Ns C λ_=>none) (hcell:h₁.get? (C+1)=some { cls:=.type "cell",data:=.cell none }) :
  Inv (cxD X x (x :: ys) scope C s H fp) [] (none :: yK js Z) H { s with heap:=h₁,toks:=tk }:=by
 have sub:∀ y c,(yt X.env.cells scope.names []).lookup y=some c->X.env.cells.lookup y=some c:=λy c e=>xW (λ_ _ z=>by simp at z) e
 have has:∀ y,scope.names.lookup y=some .free->∃ c,(yt X.env.cells scope.names []).lookup y=some c:=λy e=>by
  have m:(y,NameKind.free)∈scope.names:=PySem.mem_of_lookup e
  exact YC (.inr ⟨m,I.ok.has y (S.free _ m rfl)⟩)
 have look:∀ y c,((x,C+1) :: yt X.env.cells scope.names []).lookup y=some c->(y=x/\c=C+1)\/(y≠x/\(yt X.env.cells scope.names []).lookup y=some c):=λy c e=>by
  rw [List.lookup_cons] at e
  cases hb:y == x with
  | true=>rw [hb] at e;exact .inl ⟨eq_of_beq hb,(Option.some.inj e).symm⟩
  | false=>rw [hb] at e;exact .inr ⟨λz=>by rw [z] at hb;simp at hb,e⟩
 have lookN:∀ y,y≠x->((x,C+1) :: yt X.env.cells scope.names []).lookup y=(yt X.env.cells scope.names []).lookup y:=λy hy=>by
  rw [List.lookup_cons,show (y == x)=false from beq_eq_false_iff_ne.mpr hy]
 have old:∀ y c,(yt X.env.cells scope.names []).lookup y=some c->c<s.heap.objs.size:=λy c e=>by
  obtain⟨v,o,e2,_⟩:=I.cell y c (sub y c e)
  exact Heap.lt_size e2
 have lt:∀ b∈fp,b<s.heap.objs.size:=λb hb=>by obtain⟨o,e⟩:=ho b hb;exact Heap.lt_size e
 have ok:(cxD X x (x :: ys) scope C s H fp).Ok:=by
  refine⟨I.ok.mod,S.kind,I.ok.glob,I.ok.blt,hC,λy z c e1 e2=>?inj,λy hy=>?_,λy c z=>?_,I.ok.hd,I.ok.frames,.inl rfl,λb hb=>?_,I.bs,Nat.le_trans I.ok.bsz I.sz,λb o e hb=>?_,λb hb z=>?_,I.stack,I.stkFree⟩
  case inj =>
   rcases look y c e1 with ⟨h1,h2⟩ | ⟨_,h1⟩<;>rcases look z c e2 with ⟨h3,h4⟩ | ⟨_,h3⟩
   ·rw [h1,h3]
   ·exact absurd (old z c h3) (by rw [h2];exact Nat.not_lt.mpr (Nat.le_succ_of_le hC))
   ·exact absurd (old y c h1) (by rw [h4];exact Nat.not_lt.mpr (Nat.le_succ_of_le hC))
   ·exact I.ok.inj y z c (sub _ _ h1) (sub _ _ h3)
  ·have hy':(relabel scope X.env).names.lookup y=some .cell\/(relabel scope X.env).names.lookup y=some .free:=hy
   by_cases hyx:y=x
   ·exact⟨C+1,by show ((x,C+1) :: yt X.env.cells scope.names []).lookup y=_;rw [hyx];simp⟩
   have nocell:scope.names.lookup y≠some .cell:=λz=>hyx (S.cell _ (PySem.mem_of_lookup z) rfl)
   have has':scope.names.lookup y=some .free->∃ c,((x,C+1) :: yt X.env.cells scope.names []).lookup y=some c:=λz=>by rw [lookN y hyx];exact has y z
   rcases hy' with e | e
   ·rcases yD e with z | ⟨_,z⟩
    ·exact absurd z nocell
    ·exact has' z
   ·rcases yD e with z | ⟨z,_⟩
    ·exact has' z
    ·cases z
  ·intro e
   have z':y=x:=eq_of_beq z
   rcases look y c e with ⟨_,h⟩ | ⟨h,_⟩
   ·rw [h];exact Nat.le_succ_of_le hC
   ·exact absurd z' h
  ·refine⟨Nat.ne_of_lt (Nat.lt_of_lt_of_le (lt b hb) hC),λy c e=>?_⟩
   rcases look y c e with ⟨_,h⟩ | ⟨_,h⟩
   ·rw [h];exact Nat.ne_of_gt (Nat.lt_of_lt_of_le (lt b hb) (Nat.le_succ_of_le hC))
   ·exact (hf b hb).2.2.2.2.1 y c (sub y c h)
  ·rcases (hf b hb).2.2.2.1 with z | z
   ·exact I.ok.noex b o e z
   ·exact absurd (Nat.lt_of_lt_of_le (Heap.lt_size e) (Nat.le_trans I.ok.bsz z)) (Nat.lt_irrefl _)
  ·rcases List.mem_cons.mp (I.stkSub b z) with e | e
   ·exact (hf b hb).2.1 e
   ·exact (hf b hb).2.2.1 e
 refine⟨ok,rfl,I.bare,Un.kept hk,⟨_,hn,λi y v e1 e2 e3=>?_⟩,λy c e=>?_,I.hok.fresh hC,λy c e=>(look y c e).elim (λh=>by rw [h.2];exact I.hok.fresh (Nat.le_succ_of_le hC)) (λh=>I.freeC y c (sub y c h.2)),λp hp=>absurd (show p∈([]:List (Addr×Obj)) from hp) (by simp),I.hok.kept hk,?_⟩
 ·cases i with
  | zero=>simp at e2
  | succ i =>
   have e1':ys[i]?=some y:=by simpa [cxD] using e1
   have e2':(yK js Z)[i]?=some (some v):=by simpa using e2
   obtain⟨j,hj,hσ⟩:=Uw e2'
   have hN:X.N[j]?=some y:=by
    have z:=congrArg (λl=>l[i]?) S.caps
    simp only [List.getElem?_map,hj,e1',Option.map_some] at z
    exact Option.some.inj z
   have hfr:=S.fr y (List.mem_of_getElem? e1')
   have hyx:y≠x:=λz=>(List.nodup_cons.mp S.nd).1 (z▸List.mem_of_getElem? e1')
   have m:(y,NameKind.free)∈scope.names:=PySem.mem_of_lookup hfr
   have hkind:=S.free _ m rfl
   obtain⟨m',hns,hl⟩:=I.loc
   obtain⟨u,r,lk⟩:=hl j y v hN hσ (by rcases hkind with z | z;exact .inr (.inl z);exact .inr (.inr z))
   refine⟨u,r,.inr ⟨?_,?_⟩⟩
   ·have e3':(relabel scope X.env).names.lookup y=some .local\/(relabel scope X.env).names.lookup y=some .cell\/(relabel scope X.env).names.lookup y=some .free:=e3
    rcases e3' with z | z | z
    ·rcases yD z with q | ⟨q,_⟩
     ·rw [hfr] at q;cases q
     ·cases q
    ·exact .inl z
    ·exact .inr z
   ·obtain⟨c,hc⟩:=has y hfr
    refine⟨c,(lookN y hyx).trans hc,?_⟩
    rcases lk with ⟨z,_⟩ | ⟨_,c',hc',cell⟩
    ·rcases hkind with q | q
     ·have q':X.env.kindOf y=some .cell:=q
      rw [show X.env.kindOf y=some .local from z] at q';cases q'
     ·have q':X.env.kindOf y=some .free:=q
      rw [show X.env.kindOf y=some .local from z] at q';cases q'
    ·rw [sub y c hc] at hc'
     cases hc'
     obtain⟨o,e,d⟩:=cell
     exact⟨o,hk _ _ e,d⟩
 ·rcases look y c e with ⟨_,h⟩ | ⟨_,h⟩
  ·rw [h];exact⟨none,_,hcell,rfl⟩
  ·obtain⟨v,o,e',d⟩:=I.cell y c (sub y c h)
   exact⟨v,o,hk _ _ e',d⟩
 ·have z:=congrArg List.length S.caps
  simp only [List.length_map] at z
  show (none :: yK js Z).length=(x :: ys).length
  simp [yK,z]
end
section
variable {X:Cx} {elt iter:Expr} {ifs:List Expr} {x:Str} {px pos:Pos} {scope:Scope} {ys:List Str} {js:List Nat} {wi:TI} {tt:TT} {te:TE}
theorem zaw {pins:List (Addr×Obj)} {Z:St} {H:Hp} {s:Shared} {J:It} {fp:List Addr} {it:Addr} {tn:Nat->Heap->Prop} {Q:VK} {E:Value->Shared->Prop} {R:Value->Addr->Result->Shared->Prop}
  (S:Ub X.env.scope scope x X.N ys js) (hc:X.calm=true) (ht:∀ C s₀ H₀ ex,PTs (cxD X x (x :: ys) scope C s₀ H₀ ex) ifs tt) (he:∀ C s₀ H₀ ex,PE (cxD X x (x :: ys) scope C s₀ H₀ ex) elt te)
  (I:Inv X pins Z H s) (T:Turn X.prog X.w X.K (.Name x px) J fp it tn) (st:tn 0 s.heap) (hf:∀ b∈fp,YD X pins H b)
  (hw:∃ W:Nat->Nat->List V->Hp->Prop,(∃ m,W 0 m [] H)/\∀ i m zs H,W i m zs H ->
   (J.stop i H/\∀ D,H D=none->Q (.ref D) (upd H D (.lst zs))) \/
   (J.go i H/\zs.length<sizeLine/\∃ N:List V->Hp->Prop,(∀ ys' H',N ys' H'->∃ m',m'<m/\W (i+1) m' ys' H')/\∀ x H',J.yld i H x H'->tt (some x :: yK js Z) H' λb H2=>if b=true then te (some x :: yK js Z) H2 λv H3=>N (zs++[v]) H3 else N zs H2))
  (hR:∀ D C s' H' m',Inv X pins Z H' s'->Q (.ref D) H'->s.heap.objs.size<=C->H' C=none->s'.heap.Ns C m'->R (.ref D) C (.ok .next) s') :
  wpAny (model X.prog X.w) X.A (newList []) (λacc s₃=>wpAny (model X.prog X.w) X.A (newFunctionEnv scope X.env.globals (yt X.env.cells scope.names []) [] X.env.qual none .none (some X.env)) (λcenv s₄ =>
   codeAny (model X.prog X.w) X.A (.compStart (.ListComp elt [⟨.Name x px,iter,ifs,0⟩] scope pos) 0 (.ref it) acc { cenv with scope:=relabel scope X.env }) (R acc cenv.locals) s₄) E s₃) E s:=by
 obtain⟨W,⟨m0,w0⟩,turn⟩:=hw
 refine wpAny_newObj_type (zbC S.own S.psh λh₁ hns₁ hce₁ hsb₁=>?_)
 dsimp only at hns₁ hce₁ hsb₁ ⊢
 generalize hH2:s.heap.push { cls:=.type "list",dict:=none,data:=.seq ([]:List Value).toArray }=G at hns₁ hce₁ hsb₁ ⊢
 generalize hD:s.heap.objs.size=D at *
 generalize hCe:G.objs.size=C at *
 have hC:C=D+1:=by rw [<- hCe,<- hH2,Heap.size_push,hD]
 have hDlt:D<C:=by rw [hC];exact Nat.lt_succ_self D
 have hDC:D≠C:=Nat.ne_of_lt hDlt
 have old:∀ b o,s.heap.get? b=some o->h₁.get? b=some o:=λb o e=>by
  exact hsb₁ b o (hH2▸Heap.get?_push_of_some _ e)
 have hacc:h₁.get? D=some { cls:=.type "list",data:=.seq ([]:List Value).toArray 0 }:=by
  refine hsb₁ D _ ?_
  rw [<- hH2,<- hD]
  exact Heap.get?_push_size _ rfl
 have obj0:=T.obj 0 _ st
 have fplt:∀ b∈fp,b<D:=λb hb=>by obtain⟨o,e,_⟩:=obj0 b hb;exact hD▸Heap.lt_size e
 generalize hX:cxD X x (x :: ys) scope C s H fp=X'
 have I1:Inv X' [] (none :: yK js Z) H { s with heap:=h₁,toks:=s.toks }:=by
  subst hX
  exact zdd I S hf (λb hb=>by obtain⟨o,e,_⟩:=obj0 b hb;exact⟨o,e⟩) (by omega) old hns₁ hce₁
 have eP:X'.prog=X.prog:=by subst hX;rfl
 have eW:X'.w=X.w:=by subst hX;rfl
 have eK:X'.K=X.K:=by subst hX;rfl
 have eA:X'.A=X.A:=by subst hX;rfl
 have eC:X'.calm=true:=by subst hX;exact hc
 have eL:X'.env.locals=C:=by subst hX;rfl
 have eS:X'.s₀=s:=by subst hX;rfl
 have eN:X'.N=x :: ys:=by subst hX;rfl
 have eE:X'.env=compEnvC scope ((x,C+1) :: yt X.env.cells scope.names []) C X.env:=by subst hX;rfl
 have eXe:X'.xe=λ_ _=>False:=by subst hX;rfl
 have eFn:X'.fn x=true:=by subst hX;exact beq_self_eq_true x
 have eX:X'.ex=fp:=by subst hX;rfl
 have ePn:X'.pn=[]:=by subst hX;rfl
 have efs:∀ b,b∈X'.fs->b∈frs X.stack:=λb z=>by subst hX;exact z
 have look:∀ y c,X'.env.cells.lookup y=some c->c=C+1\/(yt X.env.cells scope.names []).lookup y=some c:=λy c e=>by
  have e':((x,C+1) :: yt X.env.cells scope.names []).lookup y=some c:=by rw [eE] at e;exact e
  rw [List.lookup_cons] at e'
  cases hb:y == x with
  | true=>rw [hb] at e';exact .inl (Option.some.inj e').symm
  | false=>rw [hb] at e';exact .inr e'
 have cellNe:∀ y c,X'.env.cells.lookup y=some c->c≠D:=λy c e=>by
  rcases look y c e with z | z
  ·rw [z];exact Nat.ne_of_gt (Nat.lt_succ_of_lt hDlt)
  ·obtain⟨v,o,e2,_⟩:=I.cell y c (xW (λ_ _ z=>by simp at z) z)
   exact Nat.ne_of_lt (hD▸Heap.lt_size e2)
 have frLt:∀ b,b∈X'.fs->b<D:=λb z=>by
  rcases List.mem_cons.mp (I.stkSub b (efs b z)) with e | e
  ·rw [e];exact hD▸I.lt
  ·exact Nat.lt_of_not_le λh=>I.nofs (hD▸h) e
 have fpOk:∀ (p:List (Addr×Obj)) (H':Hp),(∀ b∈fp,H' b=none)->(∀ q∈p,q.1=D)->∀ b∈fp,YD X' p H' b:=λp H' hn hp b hb=>by
  refine⟨hn b hb,?_,λz=>?_,.inl (eX▸hb),λy c e=>?_,λq hq=>?_⟩
  ·rw [eL];exact Nat.ne_of_lt (Nat.lt_trans (fplt b hb) hDlt)
  ·rcases List.mem_cons.mp (I.stkSub b (efs b z)) with e | e
   ·exact (hf b hb).2.1 e
   ·exact (hf b hb).2.2.1 e
  ·rcases look y c e with z | z
   ·rw [z];exact Nat.ne_of_gt (Nat.lt_trans (fplt b hb) (Nat.lt_succ_of_lt hDlt))
   ·exact (hf b hb).2.2.2.2.1 y c (xW (λ_ _ z=>by simp at z) z)
  ·rw [ePn,List.nil_append] at hq
   rw [hp q hq];exact Nat.ne_of_gt (fplt b hb)
 have noCell:∀ (its:List Value) (k:Nat) v,({ cls:=.type "list",data:=.seq its.toArray k }:Obj).data≠.cell v:=λits k v z=>by cases z
 have done:∀ {zs:List V} {its:List Value} {k:Nat} {H':Hp} {s':Shared},Inv X' [] (none :: yK js Z) H' s'->s'.heap.get? D=some { cls:=.type "list",data:=.seq its.toArray k }->Vals zs its->H' D=none->zs.length<=sizeLine ->
   (∀ D,H' D=none->Q (.ref D) (upd H' D (.lst zs)))->R (.ref D) C (.ok .next) s':=λ{zs its k H' s'} I' hd hv hn hz q=>by
  have un:=I'.base
  obtain⟨m',hns,_⟩:=I'.loc
  rw [eL] at hns
  have hCn:H' C=none:=by have:=I'.free;rw [eL] at this;exact this
  have hH0:X'.H₀=H:=by subst hX;rfl
  rw [hH0,eS,eX] at un
  have un2:Un (frs X.stack) fp H (upd H' D (.lst zs)) s.heap s'.heap:=by
   have ne:∀ b o,s.heap.get? b=some o->b≠D:=λb o e=>Nat.ne_of_lt (hD▸Heap.lt_size e)
   have un':Un (frs X.stack) fp H H' s.heap s'.heap:=by subst hX;exact un
   exact⟨un'.keep,un'.slot,λb o e n hx=>by rw [zq (ne b o e)];exact un'.free b o e n hx,un'.there,λb xs e=>by rw [zq (zy (un'.tups b xs e) hn)];exact un'.tups b xs e,
    λb o u e=>by rw [zq (zy (un'.frzs b o u e) hn)];exact un'.frzs b o u e,λb ps e=>by
     obtain⟨more,z⟩:=un'.tbls b ps e
     exact⟨more,by rw [zq (zy z hn)];exact z⟩⟩
  have hok:HOk X.prog X.w (upd H' D (.lst zs)) s'.heap:=by
   have h0:=I'.hok
   rw [eP,eW] at h0
   exact h0.track hn ⟨hz,its,k,hv,hd⟩
  have I2:Inv X pins Z (upd H' D (.lst zs)) s':=I.call' (by have:=I'.os;rw [eS] at this;exact this) un2 hok I'.bare λb hb=>⟨(hf b hb).2.2.2.1,(hf b hb).2.1,(hf b hb).2.2.2.2.1,(hf b hb).2.2.2.2.2⟩
  exact hR D C s' _ m' I2 (q D hn) (by omega) (by rw [zq (Ne.symm hDC)];exact hCn) hns
 have loop:codeAny (model X.prog X.w) X.A (.compLoop (.ListComp elt [⟨.Name x px,iter,ifs,0⟩] scope pos) 0 (.ref it) (.ref D) X'.env) (R (.ref D) C) { s with heap:=h₁,toks:=s.toks }:=by
  refine codeAny_compLoop_tests (λn s'=>∃ i zs its k H',Inv X' [] (none :: yK js Z) H' s'/\tn i s'.heap/\(∀ b∈fp,H' b=none)/\s'.heap.get? D=some { cls:=.type "list",data:=.seq its.toArray k }/\Vals zs its/\H' D=none/\zs.length<=sizeLine/\W i n zs H')
   ?_ m0 ⟨0,[],[],0,H,I1,T.keep _ _ _ st (λb hb o e=>old b o e),λb hb=>(hf b hb).1,hacc,.nil,I.hok.fresh (by omega),Nat.zero_le _,w0⟩ (λ_=>rfl)
  rintro n s3 ⟨i,zs,its,k,H3,I3,st3,fr3,d3,v3,n3,z3,w3⟩
  have pinD:Inv X' [(D,{ cls:=.type "list",data:=.seq its.toArray k })] (none :: yK js Z) H3 s3:=I3.pins_of λp hp=>by
   have e:p=(D,{ cls:=.type "list",data:=.seq its.toArray k }):=by simpa using hp
   subst e
   exact⟨d3,n3,by rw [eL];exact hDC,λz=>Nat.lt_irrefl _ (frLt D z),noCell its k⟩
  have hpD:∀ q∈[(D,({ cls:=.type "list",data:=.seq its.toArray k }:Obj))],q.1=D:=λq hq=>by
   have e:q=(D,{ cls:=.type "list",data:=.seq its.toArray k }):=by simpa using hq
   rw [e]
  rcases turn i n zs H3 w3 with ⟨stop,qn⟩ | ⟨go,hzl,NN,hNN,step⟩
  ·refine thn (eA▸T.done X' eP eW eK eC i _ s3 _ H3 _ pinD (fpOk _ _ fr3 hpD) st3 stop) λr s4 ⟨hr,I4⟩=>?_
   subst hr
   exact done (I4.pins_of λp hp=>absurd hp (by simp)) (I4.pin (D,{ cls:=.type "list",data:=.seq its.toArray k }) (List.mem_append_right _ (by simp))).1 v3 n3 z3 qn
  ·refine thn (eA▸T.item X' eP eW eK eC i _ s3 _ H3 _ pinD (fpOk _ _ fr3 hpD) st3 go) λr s4 ⟨u,hr,h4⟩=>?_
   subst hr
   refine QS (a:=()) h4 λ⟨v,H5,I5,r5,y5,st5,fr5⟩=>?_
   have I5':=I5.pinned (fpOk _ _ fr5 hpD) (T.obj _ _ st5)
   have ev:∀ {α:Type} {t:Sem α} {Q':α->Shared->Prop} {E':Value->Shared->Prop} {s':Shared},wpAny (model X'.prog X'.w) X'.A t Q' X'.xe s'->wpAny (model X.prog X.w) X.A t Q' E' s':=λ{α t Q' E' s'} hh=>by
    rw [eP,eW,eA,eXe] at hh
    exact wpAny_mono hh (λ_ _ q=>q) λ_ _ z=>z.elim
   refine ev (thn (zQ (X:=X') (i:=0) (by rw [eN];exact S.nd) (by rw [eN];rfl) (.inr (by rw [eE];exact vZ S.var)) (.inl eFn) _ s4 _ H5 v u (fun σ' H'=>σ'=some v :: yK js Z/\H'=H5) I5' r5 ⟨rfl,rfl⟩) λ_ s6 ⟨σ6,H6,I6,e6,e6'⟩=>?_)
   subst e6 e6'
   have back:∀ {σ':St} {H7:Hp} {s7:Shared},Inv X' ([(D,{ cls:=.type "list",data:=.seq its.toArray k })]++Zw fp s4.heap) (some v :: yK js Z) H7 s7->Inv X' [] (none :: yK js Z) H7 s7:=λ{_ H7 s7} I7=>by
    refine (I7.pins_of λp hp=>absurd hp (by simp)).weak rfl λi v' e=>?_
    cases i with
    | zero=>simp at e
    | succ i=>simpa using e
   have fps:∀ {σ':St} {H7:Hp} {s7:Shared},Inv X' ([(D,{ cls:=.type "list",data:=.seq its.toArray k })]++Zw fp s4.heap) σ' H7 s7->(∀ b∈fp,H7 b=none)/\(∀ b∈fp,∀ o,s4.heap.get? b=some o->s7.heap.get? b=some o)/\s7.heap.get? D=some { cls:=.type "list",data:=.seq its.toArray k }/\H7 D=none:=λ{σ' H7 s7} I7=>by
    have g:∀ b∈fp,∀ o,s4.heap.get? b=some o->s7.heap.get? b=some o/\H7 b=none:=λb hb o e=>by
     have z:=I7.pin (b,o) (List.mem_append_right _ (List.mem_append_right _ (jR hb e)))
     exact⟨z.1,z.2.1⟩
    refine⟨λb hb=>?_,λb hb o e=>(g b hb o e).1,(I7.pin (D,{ cls:=.type "list",data:=.seq its.toArray k }) (List.mem_append_right _ (by simp))).1,(I7.pin (D,{ cls:=.type "list",data:=.seq its.toArray k }) (List.mem_append_right _ (by simp))).2.1⟩
    obtain⟨o,e,_⟩:=T.obj _ _ st5 b hb
    exact (g b hb o e).2
   have hte:PTs X' ifs tt:=hX▸ht C s H fp
   have hee:PE X' elt te:=hX▸he C s H fp
   refine ev (thn (hte _ s6 _ H6 _ I6 (step v H6 y5)) λb s7 ⟨H7,I7,q7⟩=>?_)
   cases b with
   | false =>
    rw [if_neg Bool.false_ne_true]
    rw [if_neg Bool.false_ne_true] at q7
    obtain⟨m',hm,w7⟩:=hNN _ _ q7
    obtain⟨g1,g2,g3,g4⟩:=fps I7
    exact⟨m',hm,i+1,zs,its,k,H7,back (σ':=[]) I7,T.keep _ _ _ st5 g2,g1,g3,v3,g4,z3,w7⟩
   | true =>
    rw [if_pos rfl]
    rw [if_pos rfl] at q7
    refine ev (thn (hee _ s7 _ H7 _ I7 q7) λu8 s8 ⟨v8,H8,I8,r8,q8⟩=>?_)
    obtain⟨m',hm,w8⟩:=hNN _ _ q8
    obtain⟨g1,g2,g3,g4⟩:=fps I8
    have hil:=v3.length
    refine call_meets F.slot_list_append ⟨_,g3,rfl⟩ F.entry_list_append (F.args_list_append_2 _ _) (PySem.list_append D its.toArray k u8 (by rw [List.size_toArray];omega)) ⟨g3,?_⟩
    have q:=PySem.IsL.update g3 (λa=>a.push u8)
    have ea:its.toArray.push u8=(its++[u8]).toArray:=by simp
    rw [ea] at q
    have kk:∀ b o,b≠D->s8.heap.get? b=some o->(s8.heap.update D (Obj.mapSeq λa=>a.push u8)).get? b=some o:=λb o hb e=>(Heap.get?_update_other _ _ (Ne.symm hb)).trans e
    have I9:Inv X' [] (none :: yK js Z) H8 { s8 with heap:=s8.heap.update D (Obj.mapSeq λa=>a.push u8),toks:=s8.toks }:=by
     refine (back (σ':=[]) I8).turned kk g4 (by rw [eL];exact hDC) (.inr (by rw [eS];omega)) (λy c e=>cellNe y c e) λp hp=>?_
     rw [ePn] at hp
     exact absurd hp (by simp)
    refine⟨m',hm,i+1,zs++[v8],its++[u8],_,H8,I9,T.keep _ _ _ st5 (λb hb o e=>kk b o (Nat.ne_of_lt (fplt b hb)) (g2 b hb o e)),g1,q,v3.append (.cons r8 .nil),g4,?_,w8⟩
    rw [List.length_append,List.length_singleton]
    omega
 rw [eE] at loop
 exact codeAny_compStart_list loop (T.self _ 0 _ _ _ (T.keep _ _ _ st (λb hb o e=>old b o e)) loop)
theorem zaM {i:Nat} {y:Str} {py spos:Pos} (S:Ub X.env.scope scope x X.N ys js) (hc:X.calm=true) (hN:X.N.Nodup) (hy:X.N[i]?=some y) (hl:Loc X.env.scope y) (hi:PI X (.Name x px) iter wi) (ht:∀ C s₀ H₀ ex,PTs (cxD X x (x :: ys) scope C s₀ H₀ ex) ifs tt) (he:∀ C s₀ H₀ ex,PE (cxD X x (x :: ys) scope C s₀ H₀ ex) elt te)
  (hf:X.fn y=true\/X.env.scope.names.lookup y=some .local:=by first | exact .inl rfl | exact .inr rfl | assumption)
  (hsw:swapsWith (.ListComp elt [⟨.Name x px,iter,ifs,0⟩] scope pos) (some (.Name y py)) spos.line X.env=pure true:=by rfl)
  (hs:∀ x,foldedSetIterable iter X.env x=pure x:=by intro _;rfl):PS X (.Assign [.Name y py] (.ListComp elt [⟨.Name x px,iter,ifs,0⟩] scope pos) spos) (zd3 (zeg wi js tt te) (Vn i)):=by
 intro pins s Z H D I h
 rw [exec_Assign_Name_used _ _ _ _ hsw]
 refine wpAny_bind (wpAny_standAt (wpAny_bind ?_))
 show wpAny _ X.A (do let _ <- comprehension (.ListComp elt [⟨.Name x px,iter,ifs,0⟩] scope pos) scope X.env _ (newList []) false (eval iter X.env) (some (assign (.Name y py) X.env))) _ _ s
 refine wpAny_bind (wpAny_mono (wpAny_comprehension_free (use:=some (assign (.Name y py) X.env)) (Q:=λ_ s'=>SP X pins D .next s') rfl hs (uf λy hy e=>I.ok.has _ (S.free y hy e)) S.kind S.loc
  (thn (hi pins s Z H _ I h) λv s1 h1=>thn h1 λitv s2 h2=>?_)) (λ_ s' hq=>wpAny_pure (wpAny_pure hq)) λ_ _ e=>e)
 obtain⟨it,fp,tn,J,H2,e,I2,T,st2,f2,hw⟩:=h2
 subst e
 refine zaw (Q:=λv H'=>Vn i v Z H' D.nx) (R:=λacc C=>compPost (model X.prog X.w) X.A X.xe (some (assign (.Name y py) X.env)) (λ_ s'=>SP X pins D .next s') acc C) S hc ht he I2 T st2 f2 hw ?_
 intro Da C s' H' m' I' q hC hn hns
 have e:=I2.fpOk hC hn
 show wpAny _ X.A (assign (.Name y py) X.env (.ref Da)) _ _ _
 refine wpAny_assign_Name (Xl I' hN hy hl (show RelV (.ref Da) (.ref Da) from rfl) (λs2' I3 ⟨a,sb,ha⟩=>?_) hf)
 have hCa:C≠a:=by
  rcases ha with z | z
  ·rw [z];exact e.2.1
  ·intro w;exact e.2.2.2.2.1 _ _ z w.symm
 refine⟨m',hns.sameBut sb hCa,λh' hs'=>⟨_,H',?_,q⟩⟩
 exact I3.turned (t':=s2'.toks) (λb o hb e=>(hs'.2 b hb).trans e) hn e.2.1 e.2.2.2.1 e.2.2.2.2.1 e.2.2.2.2.2
end
theorem jw {env:Env}:∀ {names:List (Str×NameKind)} {x:Str},names.lookup x=some .free ->
  (names.map λ(n,k)=>if (k == NameKind.free && env.scope.kind == .function && env.kindOf n == some .cell) then (n,NameKind.cell) else (n,k)).lookup x=some .cell\/(names.map λ(n,k)=>if (k == NameKind.free && env.scope.kind == .function && env.kindOf n == some .cell) then (n,NameKind.cell) else (n,k)).lookup x=some .free
 | [],_,h=>by simp at h
 | (n,k) :: r,x,h=>by
  have ih:=@jw env r x
  rw [List.map_cons]
  generalize hb:(k == NameKind.free && env.scope.kind == .function && env.kindOf n == some .cell)=b
  simp only [hb]
  rw [List.lookup_cons] at h
  cases hx:x == n with
  | true =>
   rw [hx] at h
   have hk:k=.free:=Option.some.inj h
   cases b<;>simp [List.lookup_cons,hx,hk]
  | false =>
   rw [hx] at h
   cases b<;>(simp only [if_true,Bool.false_eq_true,if_false,List.lookup_cons,hx];exact ih h)
theorem CScope.re {sc scope:Scope} {env:Env} {x:Str} {M ys:List Str} {js:List Nat} (S:CScope sc scope x M ys js):CScope (relabel sc env) scope x M ys js :=
 ⟨S.kind,S.cell,S.loc,S.var,λy hy e=>(S.free y hy e).elim (λz=>.inl (vZ z)) λz=>jw z,S.caps,S.fr,S.nd⟩
section
variable {X:Cx} {tg:Expr}
end
theorem FnOk.up {P:Program} {w:World} {K:W.Frag} {mg:Str->Option Value} {base:Heap} {CX:CXT} {k:Nat} {f:Addr} {fd:FuncData} {ps:List Str} {sp:Sp} (F:FnOk P w K mg base CX0 k f fd ps sp):FnOk P w K mg base CX k f fd ps sp :=
 ⟨F.len,λA outer s H args us vs Q E hr e0 hb hv hs=>codeAny_mono (F.run A outer s H args us vs Q E hr e0 hb hv hs) λr s' q=>by
  cases r with
  | error e=>exact False.elim q
  | ok fl=>cases fl<;>exact q⟩
section
variable {X:Cx} {pins:List (Addr×Obj)} {Z:St} {H H':Hp} {s s':Shared} {h' B:Heap} {ea:Addr} {c a0:Value}
end
open PySem PySem.Spec PyProof.Rows Builtin Builtin.ObjectAttr Builtin.Getset_descriptor
section
variable {prog:Program} {w:World} {A:Around} {K:W.Frag} {e C:Addr} {h:Heap}
end
section
variable {X:Cx} {pins:List (Addr×Obj)} {Z:St} {H H':Hp} {s s':Shared}
abbrev Cx.body (X:Cx) (E:Value->Shared->Prop) (pn:List (Addr×Obj)):Cx:={ X with xe:=E,pn:=pn }
end
section
variable {X:Cx} {y n:Str} {Ch:Addr} {i:Nat} {body suite:List Stmt} {b₀:Stmt} {tb:(St->XK)->TS} {ts:TS} {np hpos pos:Pos}
end
section
variable {X:Cx}
def zew:V->List V->Hp->VK->Prop:=λx vs H Q=>∃ (z y:Str) (i:Nat) (rest:List Nat),x=.str z/\vs=[.str y]/\Builtin.Str.occurrences z y 0 z.length 1=i :: rest/\Q (.int i) H
theorem zcQ:MtM X "str.index" zew:=by
 intro pins s Z H x vs v us Q I rx rv h
 obtain⟨z,y,i,rest,rfl,rfl,ho,q⟩:=h
 obtain⟨t,rfl⟩:=rx
 obtain⟨u0,rfl,ru⟩:=Vals.one rv
 obtain⟨u,rfl⟩:=ru
 exact call_gives F.slot_str_index (typeIs_str _ _ _) F.entry_str_index (F.args_str_index_2 _ _) (gives_str_index z y t u i rest ho) ⟨.int i,H,I.tok _,⟨_,rfl⟩,q⟩
def zg5:R2:=λx y H Q=>∃ u v:Str,x=.str u/\y=.str v/\Q (.bl (!(Builtin.Str.occurrences v u 0 v.length 1).isEmpty)) H
theorem zfy:OpR X (compareOp .In) zg5:=by
 intro pins s Z H x y u v Q I rx ry h
 obtain⟨a,b,rfl,rfl,q⟩:=h
 obtain⟨t,rfl⟩:=rx
 obtain⟨t',rfl⟩:=ry
 exact P.in_str ⟨.bl _,H,I,rfl,q⟩
end
def Its (z:Str):It:=⟨λi _=>i<z.cps.size,λi H v H'=>(∃ c,z.cps[i]?=some c/\v=.str ⟨#[c]⟩)/\H'=H,λi _=>z.cps.size<=i⟩
theorem zep {P:Program} {w:World} {K:W.Frag} {tg:Expr} (z:Str) (t:Tok) (it:Addr):Turn P w K tg (Its z) [it] it (λi h=>h.IsStrIter it "str_ascii_iterator" z t i) where
 mem:=by simp
 obj:=λi h st b hb=>by
  have e:b=it:=by simpa using hb
  subst e
  obtain⟨o,e,c,d⟩:=st
  exact⟨o,e,λv z=>by rw [d] at z;cases z⟩
 keep:=λi h h' st k=>by
  obtain⟨o,e,r⟩:=st
  exact⟨o,k it (by simp) o e,r⟩
 item:=by
  intro X hP hw hK hc i pins s Z H E I hf st hg
  subst hP hw hK
  obtain⟨f0,f1,f2,f3,f4,f5⟩:=hf it (by simp)
  have hx:z.cps[i]?=some z.cps[i]:=Array.getElem?_eq_getElem hg
  refine wpAny_pyNext_ascii_item st hx λh' st' sb=>?_
  have I1:Inv X pins Z H { s with heap:=h',toks:=s.toks+1 }:=I.turned (t':=s.toks+1) (λb o hb e=>(sb.2 b hb).trans e) f0 f1 f3 f4 f5
  obtain⟨o,e,c,d⟩:=id st'
  exact⟨_,rfl,zd6 (s:={ s with heap:=h',toks:=s.toks+1 }) e c d (by decide) ⟨.str ⟨#[z.cps[i]]⟩,H,I1,⟨_,rfl⟩,⟨⟨_,hx,rfl⟩,rfl⟩,st',λb hb=>(hf b hb).1⟩⟩
 done:=by
  intro X hP hw hK hc i pins s Z H E I hf st hg
  subst hP hw hK
  obtain⟨f0,f1,f2,f3,f4,f5⟩:=hf it (by simp)
  have hg':z.cps.size<=i:=hg
  exact wpAny_pyNext_ascii_end (I.ok.hd hc) st (by simpa using hg') λh' eb=>⟨rfl,I.turned (t':=s.toks) (λb o hb e=>eb b o hb e) f0 f1 f3 f4 f5⟩
 self:=λ_ _ _ _ _ st h=>wpAny_pyIter_striter_ascii st h
section
variable {X:Cx} {tg:Expr}
def zhp (tl:TE):TI:=λZ H R=>tl Z H λx H1=>∃ z:Str,x=.str z/\z.cps.all (·<128)=true/\R (Its z) H1
theorem zd7 {l:Expr} {tl:TE} (hl:PE X l tl):PI X tg l (zhp tl):=by
 intro pins s Z H R I h
 refine thn (hl pins s Z H _ I h) λv s1 ⟨x,H1,I1,r1,q1⟩=>?_
 obtain⟨z,rfl,ha,q⟩:=q1
 obtain⟨t,rfl⟩:=r1
 refine wpAny_pyIter_ascii ha ?_
 refine⟨s1.heap.objs.size,[s1.heap.objs.size],_,_,H1,rfl,I1.kept (t':=s1.toks) λb o e=>Heap.get?_push_of_some _ e,zep z t _,⟨_,Heap.get?_push_size _ rfl,rfl,rfl⟩,λb hb=>?_,q⟩
 have e:b=s1.heap.objs.size:=by simpa using hb
 subst e
 exact I1.fpOk (Nat.le_refl _) (I1.hok.fresh (Nat.le_refl _))
theorem ze2 {body:List Stmt} {h0:ExceptHandler} {hs:List ExceptHandler} {pos:Pos} {t:TS} (hx:∀ e s,¬ X.xe e s) (hb:PSs X body t):PS X (.Try body (h0 :: hs) [] [] pos) t:=by
 intro pins s Z H D I h
 refine wpAny_Try_except (wpAny_mono (hb pins s Z H D I h) (λf s1 q=>?_) λe s1 z=>absurd z (hx e s1))
 cases f with
 | next=>exact wpAny_execs_nil q
 | ret v=>exact q
 | brk=>exact q
 | cont=>exact q
end
section
variable {X:Cx} {o e:Expr} {es:List Expr} {to:TE} {t:TA} {name:Str} {apos cpos:Pos} {T id:String} {r:V->List V->Hp->VK->Prop}
theorem zgv (K:W.Frag) (pa:PlainAttrs T) (slot:Slot T name id) (hty:typeOf (.builtin id)=pure (.type "method_descriptor")) (hm:MtM X id r) (ho:PE X o to) (ha:PA X (e :: es) t)
  (hk:X.K=K:=by rfl) (hbase:attributeBase o name X.env (eval o X.env)=eval o X.env:=by rfl)
  (hfew:((backTo cpos (starEach (e :: es) X.env)).all (λx=>!x.1) && (backToKw cpos (keywordEach [] X.env)).all (λx=>x.1.isSome)
   && decide ((e :: es).length+([]:List Keyword).length+(if ([]:List Keyword).isEmpty then 0 else 1)<30))=true:=by rfl)
  (hline:(apos.endLine == cpos.line)=true:=by rfl) (hs:starEach (e :: es) X.env=(false,eval e X.env) :: starEach es X.env:=by rfl) (hplain:(backTo cpos (starEach es X.env)).any (·.1)=false:=by rfl) :
  PE X (.Call (.Attribute o name apos) (e :: es) [] cpos) (tBM K T r to t):=by
 subst hk
 exact Zq pa slot hty hm ho ha hbase hfew hline hs hplain
end
theorem za2 {z:Str} {js:List Nat} {tt:TT} {te:TE} {Z:St} {H:Hp} {Q:VK} (Pv:Nat->List V->Hp->Prop) (h0:Pv 0 [] H)
  (hs:∀ i c ys H,z.cps[i]?=some c->Pv i ys H->ys.length<sizeLine/\tt (some (.str ⟨#[c]⟩) :: yK js Z) H λb H2=>if b=true then te (some (.str ⟨#[c]⟩) :: yK js Z) H2 λv H3=>Pv (i+1) (ys++[v]) H3 else Pv (i+1) ys H2)
  (hd:∀ ys H,Pv z.cps.size ys H->∀ D,H D=none->Q (.ref D) (upd H D (.lst ys))) :
  W0 (Its z) js tt te Z Q H:=by
 refine⟨λi m ys H=>m=z.cps.size-i/\i<=z.cps.size/\Pv i ys H,⟨z.cps.size,by simp,Nat.zero_le _,h0⟩,?_⟩
 rintro i m ys H ⟨rfl,hi,p⟩
 by_cases hlt:i<z.cps.size
 ·have hx:z.cps[i]?=some z.cps[i]:=Array.getElem?_eq_getElem hlt
  obtain⟨hz,hst⟩:=hs i _ ys H hx p
  refine .inr ⟨hlt,hz,Pv (i+1),λys' H' p'=>⟨z.cps.size-(i+1),by omega,rfl,hlt,p'⟩,λx H' y=>?_⟩
  obtain⟨⟨c,hc,rfl⟩,rfl⟩:=y
  rw [hx] at hc
  cases hc
  exact hst
 ·have e:i=z.cps.size:=by omega
  subst e
  exact .inl ⟨Nat.le_refl _,hd ys H p⟩
end L2
namespace Lw
open PySem
def cd (f:Nat):Nat:=if f<10 then 48+f else 87+f
abbrev SIG:Str:="0123456789abcdef"
theorem signs_at:∀ {f:Nat},f<16->SIG.cps.toList[f]?=some (cd f):=by
 have h:∀ f,f<16->SIG.cps.toList[f]?=some (cd f):=by decide +kernel
 exact λ{f} hf=>h f hf
theorem Je:∀ {f:Nat},f<16->Builtin.Str.occurrences SIG ⟨#[cd f]⟩ 0 SIG.length 1=[f]:=by
 have h:∀ f,f<16->Builtin.Str.occurrences SIG ⟨#[cd f]⟩ 0 SIG.length 1=[f]:=by decide +kernel
 exact λ{f} hf=>h f hf
theorem zgW {f:Nat} (h:f<16):cd f<128:=by unfold cd;split<;>omega
def txt (fs:List Int):Str:=⟨(fs.map λf=>cd f.toNat).toArray⟩
theorem Qv (fs:List Int):(txt fs).cps.toList=fs.map λf=>cd f.toNat:=by simp [txt]
theorem Js {fs:List Int} (h:∀ f∈fs,0<=f/\f<16):(txt fs).cps.all (·<128)=true:=by
 rw [<- Array.all_toList,Qv,List.all_eq_true]
 intro c hc
 obtain⟨f,hf,rfl⟩:=List.mem_map.mp hc
 have:=h f hf
 exact decide_eq_true (zgW (by omega))
end Lw
namespace L2
open PySem PySem.Spec PyProof.Rows
def zgQ (K:W.Frag) (n:Nat) (t:TGs):TG:=λv Z H Q=>∃ a xs,v=.ref a/\SqL K H a xs/\xs.length=n/\t xs Z H Q
theorem JB {X:Cx} {es:List Expr} {k:Nat} {pos:Pos} {t:TGs} {n:Nat} (hc:X.calm=true) (h:PGs X es t)
  (hn:(assignEach es X.env).length=n:=by rfl) (hst:(assignEach es X.env).findIdx? (·.1)=none:=by rfl):PG X (.Tuple es k pos) (zgQ X.K n t):=by
 intro pins s Z H v u Q I r hw
 obtain⟨a,xs,e1,hq,hl,hw⟩:=hw
 subst e1
 cases r
 obtain⟨its,rv,ht,hz⟩:=I.list hq
 have hli:s.heap.IsList a its.toArray:=by
  obtain⟨o,m,e,c,_,d⟩:=ht
  exact⟨_,e,c,_,d⟩
 rw [assign_Tuple]
 refine wpAny_bind (wpAny_standAt ?_)
 unfold unpack
 rw [show (assignEach es X.env).length=its.toArray.size by simp [hn,<- hl,rv.length],hst]
 refine wpAny_bind (wpAny_holding (W.kun_itemsOf (I.ok.hd hc) hli λh' hx=>?_))
 have I1:Inv X pins Z H { s with heap:=h' }:=I.kept (t':=s.toks) λb o e=>hx b o (Nat.ne_of_lt (Heap.lt_size e)) e
 exact h pins _ Z H xs _ Q I1 (by simpa using rv) hw
section
variable {X:Cx} {pins:List (Addr×Obj)} {Z:St} {H:Hp} {s:Shared} {h':Heap} {T:Addr} {o:HO} {t':Nat} {fp:List Addr}
theorem Inv.turnedL (I:Inv X pins Z H s) (k:∀ b o,b∉fp->s.heap.get? b=some o->h'.get? b=some o) (hf:∀ b∈fp,YD X pins H b):Inv X pins Z H { s with heap:=h',toks:=t' }:=by
 have nf:∀ b u,H b=some u->b∉fp:=λb u e hb=>by rw [(hf b hb).1] at e;cases e
 refine I.step (g':=s.gens) (d':=s.drawn) (ch:=fp) (λb hb=>⟨(hf b hb).2.2.2.1,(hf b hb).2.1,(hf b hb).2.2.2.2.1,(hf b hb).2.2.2.2.2⟩) (λb o _ _ hc q _=>k b o hc q) (λb o _ _ hc q _=>⟨o.slots,k b o hc q⟩) (λ_ _ _ _ n=>n)
  (λb o hc q=>⟨o,k b o hc q⟩) (λ_ _ q=>q) (λ_ _ _ q=>q) (λb ps q=>⟨#[],by rw [q];simp⟩) (λm hm=>?_) (λb u q=>?_) I.bare
 ·obtain⟨o,es,ep,ho,r⟩:=hm
  exact⟨o,es,ep,k _ o (λz=>(hf _ z).2.1 rfl) ho,r⟩
 ·refine (I.hok b u q).stay (λc v hc z=>k c v ?_ z) (λ_ z=>z) λ_ _ z=>z
  rcases hc with rfl | hc
  ·exact nf _ _ q
  ·exact nf _ _ hc
theorem Inv.turnedN (I:Inv X pins Z H s) (k:∀ b o,b∉fp->s.heap.get? b=some o->h'.get? b=some o) (hf:∀ b∈fp,YD X pins H b) (hT:s.heap.objs.size<=T) (new:ObjOk X.prog X.w (upd H T o) h' T o) :
  Inv X pins Z (upd H T o) { s with heap:=h',toks:=t' }:=by
 have hn:H T=none:=I.hok.fresh hT
 have na:∀ b u,H b=some u->b≠T:=λb u e z=>by rw [z,hn] at e;cases e
 have nf:∀ b u,H b=some u->b∉fp:=λb u e hb=>by rw [(hf b hb).1] at e;cases e
 refine I.step (g':=s.gens) (d':=s.drawn) (ch:=fp) (λb hb=>⟨(hf b hb).2.2.2.1,(hf b hb).2.1,(hf b hb).2.2.2.2.1,(hf b hb).2.2.2.2.2⟩) (λb o _ _ hc q _=>k b o hc q) (λb o _ _ hc q _=>⟨o.slots,k b o hc q⟩) (λb o hc q n=>by rw [zq (Nat.ne_of_lt (Nat.lt_of_lt_of_le (Heap.lt_size q) hT))];exact n)
  (λb o hc q=>⟨o,k b o hc q⟩) (λb xs q=>by rw [zq (na b _ q)];exact q) (λb o u q=>by rw [zq (na b _ q)];exact q) (λb ps q=>⟨#[],by rw [zq (na b _ q),q];simp⟩) (λm hm=>?_) (λb u q=>?_) I.bare
 ·obtain⟨o,es,ep,ho,r⟩:=hm
  exact⟨o,es,ep,k _ o (λz=>(hf _ z).2.1 rfl) ho,r⟩
 ·by_cases hb:b=T
  ·subst hb
   rw [zf] at q
   cases q
   exact new
  ·rw [zq hb] at q
   refine (I.hok b u q).stay (λc v hc z=>k c v ?_ z) (λc z=>by rw [zq (na c _ z)];exact z) λc xs z=>by rw [zq (na c _ z)];exact z
   rcases hc with rfl | hc
   ·exact nf _ _ q
   ·exact nf _ _ hc
end
def Itz (K:W.Frag) (a b:Addr):It :=
 ⟨λi H=>∃ xs ys x y,SqL K H a xs/\SqL K H b ys/\xs[i]?=some x/\ys[i]?=some y,λi H v H'=>∃ T x y,v=.ref T/\H T=none/\H'=upd H T (.tup [x,y])/\(∀ xs,SqL K H a xs->xs[i]?=some x)/\∀ ys,SqL K H b ys->ys[i]?=some y,
  λi H=>∃ xs ys,SqL K H a xs/\SqL K H b ys/\(xs.length<=i\/ys.length<=i)⟩
theorem zeo {P:Program} {w:World} {K:W.Frag} {elts:List Expr} {k:Nat} {tp:Pos} (a b z TI TO i1 i2:Addr) (D:ZipApart z TI TO i1 i2 a b):Turn P w K (.Tuple elts k tp) (Itz K a b) [z,TI,TO,i1,i2] z
  (λi h=>IsZip h z TI TO .none/\IsPair h TI (.ref i1) (.ref i2)/\(∃ u v,IsPair h TO u v)/\h.IsListIter i1 a i/\h.IsListIter i2 b i) where
 mem:=by simp
 obj:=λi h st c hc=>by
  obtain⟨h1,h2,⟨u,v,h3⟩,⟨o4,h4,c4,d4⟩,⟨o5,h5,c5,d5⟩⟩:=st
  simp only [List.mem_cons,List.not_mem_nil,or_false] at hc
  rcases hc with rfl | rfl | rfl | rfl | rfl
  ·exact⟨_,h1,λv q=>by have q':Data.fields _=Data.cell v:=q;cases q'⟩
  ·exact⟨_,h2,λv q=>by have q':Data.seq _ _=Data.cell v:=q;cases q'⟩
  ·exact⟨_,h3,λv q=>by have q':Data.seq _ _=Data.cell v:=q;cases q'⟩
  ·exact⟨o4,h4,λv q=>by rw [d4] at q;cases q⟩
  ·exact⟨o5,h5,λv q=>by rw [d5] at q;cases q⟩
 keep:=λi h h' st kk=>by
  obtain⟨h1,h2,⟨u,v,h3⟩,h4,h5⟩:=st
  exact⟨kk z (by simp) _ h1,kk TI (by simp) _ h2,⟨u,v,kk TO (by simp) _ h3⟩,h4.at λo q=>kk i1 (by simp) o q,h5.at λo q=>kk i2 (by simp) o q⟩
 item:=by
  intro X hP hw hK hc i pins s Z H E I hf st hg
  subst hP hw hK
  obtain⟨xs,ys,x,y,hq1,hq2,hx,hy⟩:=hg
  obtain⟨its,rv,p,_⟩:=I.list hq1
  obtain⟨its2,rv2,p2,_⟩:=I.list hq2
  obtain⟨u,hu,ru⟩:=rv.get hx
  obtain⟨v,hv,rv'⟩:=rv2.get hy
  obtain⟨h1,h2,⟨u0,v0,h3⟩,h4,h5⟩:=st
  refine wpAny_pyNext_zip_item D h1 h2 h3 h4 h5 p.isList p2.isList (x:=u) (y:=v) (by simpa using hu) (by simpa using hv) λh' g1 g3 g4 g5 gT hsz hk=>?_
  refine⟨_,rfl,?_⟩
  refine wpAny_letOwnedTupleGo_zip (s:={ s with heap:=h' }) g1 λh'' g1' hs'=>?_
  have hzl:z<s.heap.objs.size:=Heap.lt_size h1
  have gT':h''.get? s.heap.objs.size=some { cls:=.type "tuple",data:=.seq #[u,v] }:=(hs'.2 _ (Nat.ne_of_gt hzl)).trans gT
  have I1:Inv X pins Z (upd H s.heap.objs.size (.tup [x,y])) { s with heap:=h'',toks:=s.toks }:=by
   refine I.turnedN (fp:=[z,TI,TO,i1,i2]) (λc o hc q=>?_) hf (Nat.le_refl _) ⟨by show 2<=sizeLine;decide,[u,v],.cons ru (.cons rv' .nil),_,gT',rfl,0,rfl⟩
   exact (hs'.2 c (λq=>hc (by simp [q]))).trans (hk c o (λq=>hc (by simp [q])) (λq=>hc (by simp [q])) (λq=>hc (by simp [q])) (λq=>hc (by simp [q])) q)
  have hTI:h''.get? TI=some _:=(hs'.2 _ D.TIz).trans (hk _ _ D.TIz D.TITO D.TIi1 D.TIi2 h2)
  refine⟨.ref s.heap.objs.size,_,I1,rfl,⟨s.heap.objs.size,x,y,rfl,I.hok.fresh (Nat.le_refl _),rfl,λzs hz=>by rw [I.list_inj hz hq1];exact hx,λzs hz=>by rw [I.list_inj hz hq2];exact hy⟩,⟨g1',hTI,⟨u,v,(hs'.2 _ D.TOz).trans g3⟩,g4.at λo q=>(hs'.2 _ D.i1z).trans q,g5.at λo q=>(hs'.2 _ D.i2z).trans q⟩,λc hc=>?_⟩
  have hcl:c<s.heap.objs.size:=by
   simp only [List.mem_cons,List.not_mem_nil,or_false] at hc
   obtain⟨o4,h4,_⟩:=h4
   obtain⟨o5,h5,_⟩:=h5
   rcases hc with rfl | rfl | rfl | rfl | rfl
   ·exact hzl
   ·exact Heap.lt_size h2
   ·exact Heap.lt_size h3
   ·exact Heap.lt_size h4
   ·exact Heap.lt_size h5
  rw [zq (Nat.ne_of_lt hcl)]
  exact (hf c hc).1
 done:=by
  intro X hP hw hK hc i pins s Z H E I hf st hg
  subst hP hw hK
  obtain⟨xs,ys,hq1,hq2,hx⟩:=hg
  obtain⟨its,rv,p,_⟩:=I.list hq1
  obtain⟨its2,rv2,p2,_⟩:=I.list hq2
  obtain⟨h1,h2,⟨u0,v0,h3⟩,h4,h5⟩:=st
  have l1:=rv.length
  have l2:=rv2.length
  refine wpAny_pyNext_zip_end (I.ok.hd hc) D h1 h2 h3 h4 h5 p.isList p2.isList (by
   rcases hx with hx | hx
   ·exact .inl (by simp;omega)
   ·exact .inr (by simp;omega)) λh' hk=>⟨rfl,I.turnedL (t':=s.toks) (fp:=[z,TI,TO,i1,i2]) (λc o hc q=>?_) hf⟩
  exact hk c o (λq=>hc (by simp [q])) (λq=>hc (by simp [q])) (λq=>hc (by simp [q])) (λq=>hc (by simp [q])) q
 self:=λ_ _ _ _ _ st h=>wpAny_pyIter_zip st.1 h
section
variable {X:Cx}
theorem boot_zip:bootBuiltins "zip" = some (.type "zip"):=by decide +kernel
def zhm (K:W.Frag) (tl:TA):TI:=λZ H R=>tl Z H λvs H1=>∃ a b,vs=[.ref a,.ref b]/\(∃ xs,SqL K H1 a xs)/\(∃ ys,SqL K H1 b ys)/\R (Itz K a b) H1
theorem zbD (K:W.Frag) {elts:List Expr} {k:Nat} {tp:Pos} {a b:Expr} {ta:TA} {p pos:Pos} (hg:Gl X "zip") (hm:X.mg "zip" = none) (ha:PA X [a,b] ta) (he:starEach [a,b] X.env=(false,eval a X.env) :: starEach [b] X.env:=by rfl) (hpl:(backTo pos (starEach [b] X.env)).any (·.1)=false:=by rfl) (ek:X.K=K:=by rfl) :
  PI X (.Tuple elts k tp) (.Call (.Name "zip" p) [a,b] [] pos) (zhm K ta):=by
 subst ek
 intro pins s Z H R I h
 refine Call_ (jm I hg hm boot_zip (PyProof.Rows.callWith_type1 (thn (ha pos pins s Z H _ I h) λus s1 ⟨vs,H1,I1,r1,q1⟩=>?_) he hpl))
 obtain⟨l1,l2,e,⟨xs,hq1⟩,⟨ys,hq2⟩,q⟩:=q1
 subst e
 obtain⟨u1,u2,rfl,r1,r2⟩:=vals2 r1
 cases r1
 cases r2
 obtain⟨its,rv,pl,_⟩:=I1.list hq1
 obtain⟨its2,rv2,pl2,_⟩:=I1.list hq2
 have b1:l1<s1.heap.objs.size:=by obtain⟨_,e,_⟩:=pl.isList;exact Heap.lt_size e
 have b2:l2<s1.heap.objs.size:=by obtain⟨_,e,_⟩:=pl2.isList;exact Heap.lt_size e
 refine call_zip_2 pl.isList pl2.isList λh' g1 g2 g3 g4 g5 hsz hk=>?_
 refine wpAny_pyIter_zip (s:={ s1 with heap:=h' }) g1 ?_
 have I2:Inv X pins Z H1 { s1 with heap:=h' }:=I1.kept (t':=s1.toks) λb o q=>hk b o q
 refine⟨s1.heap.objs.size+4,[s1.heap.objs.size+4,s1.heap.objs.size+2,s1.heap.objs.size+3,s1.heap.objs.size,s1.heap.objs.size+1],_,_,H1,rfl,I2,zeo l1 l2 _ _ _ _ _ (zipApart_new b1 b2),⟨g1,g2,⟨_,_,g3⟩,g4,g5⟩,λb hb=>?_,q⟩
 have hb2:s1.heap.objs.size<=b:=by
  simp only [List.mem_cons,List.not_mem_nil,or_false] at hb
  rcases hb with rfl | rfl | rfl | rfl | rfl<;>first | exact Nat.le_refl _ | exact Nat.le_add_right _ _
 exact I1.fpOk hb2 (I1.hok.fresh hb2)
theorem zc9 {K:W.Frag} {a b:Addr} {xs ys:List V} {ns:List Str} {js:List Nat} {g:TG} {tt:TT} {te:TE} {Z:St} {H:Hp} {Q:VK} (Pv:Nat->List V->Hp->Prop) (hlen:xs.length=ys.length) (h0:Pv 0 [] H) (hl:∀ i zs H,i<=xs.length->Pv i zs H->SqL K H a xs/\SqL K H b ys)
  (hs:∀ i x y zs H T,xs[i]?=some x->ys[i]?=some y->Pv i zs H->H T=none->g (.ref T) (nones ns++yK js Z) (upd H T (.tup [x,y])) fun σ' H1=>(∃ vs:St,vs.length=ns.length/\σ'=vs++yK js Z)/\tt σ' H1 λc H2=>if c=true then te σ' H2 λv H3=>Pv (i+1) (zs++[v]) H3 else Pv (i+1) zs H2)
  (hz:∀ i zs H,i<xs.length->Pv i zs H->zs.length<sizeLine)
  (hd:∀ zs H,Pv xs.length zs H->∀ D,H D=none->Q (.ref D) (upd H D (.lst zs))) :
  Xu (Itz K a b) ns js g tt te Z Q H:=by
 refine⟨λi m zs H=>m=xs.length-i/\i<=xs.length/\Pv i zs H,⟨xs.length,by simp,Nat.zero_le _,h0⟩,?_⟩
 rintro i m zs H ⟨rfl,hi,p⟩
 obtain⟨q1,q2⟩:=hl i zs H hi p
 by_cases hlt:i<xs.length
 ·have hx:xs[i]?=some xs[i]:=List.getElem?_eq_getElem hlt
  have hy:ys[i]?=some (ys[i]'(by omega)):=List.getElem?_eq_getElem (by omega)
  refine .inr ⟨⟨xs,ys,_,_,q1,q2,hx,hy⟩,hz i zs H hlt p,Pv (i+1),λzs' H' p'=>⟨xs.length-(i+1),by omega,rfl,hlt,p'⟩,λv H' yl=>?_⟩
  obtain⟨T,x,y,rfl,hT,rfl,k1,k2⟩:=yl
  have e1:=k1 xs q1
  have e2:=k2 ys q2
  rw [hx] at e1
  rw [hy] at e2
  cases e1
  cases e2
  exact hs i _ _ zs H T hx hy p hT
 ·have e:i=xs.length:=by omega
  subst e
  exact .inl ⟨⟨xs,ys,q1,q2,.inl (Nat.le_refl _)⟩,hd zs H p⟩
end
open PySem PySem.Spec PyProof.Rows PySem.SeqAt
section
variable {X:Cx}
def zb2 (K:W.Frag):V->List V->Hp->VK->Prop:=λx vs H Q=>∃ (l:Addr) (ns:List Int) (k:Int),x=.ref l/\vs=[.int k]/\SqL K H l (ns.map V.int)/\Q (.int (ns.count k:Nat)) H
theorem zc4:MtM X "list.count" (zb2 X.K):=by
 intro pins s Z H x vs v us Q I rx rv h
 obtain⟨l,ns,k,rfl,rfl,hq,q⟩:=h
 cases rx
 obtain⟨u0,rfl,ru⟩:=Vals.one rv
 obtain⟨its,r,pl,hz⟩:=I.list hq
 obtain⟨t,rfl⟩:=ru
 exact count_list_ints pl.isList (intsAre_of r) ⟨.int (ns.count k:Nat),H,I.kept λb o e=>e,⟨_,rfl⟩,q⟩
theorem zdL (K:W.Frag) (e:X.K=K:=by rfl):MtM X "list.count" (zb2 K):=by subst e;exact zc4
end
theorem zbK {K:W.Frag} {a:Addr} {xs:List V} {ns:List Str} {js:List Nat} {g:TG} {tt:TT} {te:TE} {Z:St} {H:Hp} {Q:VK} (Pv:Nat->List V->Hp->Prop) (h0:Pv 0 [] H) (hl:∀ i ys H,i<=xs.length->Pv i ys H->SqL K H a xs)
  (hs:∀ i x ys H T,xs[i]?=some x->Pv i ys H->H T=none->ys.length<sizeLine/\g (.ref T) (nones ns++yK js Z) (upd H T (.tup [.int (i:Nat),x])) fun σ' H1=>(∃ vs:St,vs.length=ns.length/\σ'=vs++yK js Z)/\tt σ' H1 λb H2=>if b=true then te σ' H2 λv H3=>Pv (i+1) (ys++[v]) H3 else Pv (i+1) ys H2)
  (hz:∀ i ys H,i<xs.length->Pv i ys H->ys.length<sizeLine)
  (hd:∀ ys H,Pv xs.length ys H->∀ D,H D=none->Q (.ref D) (upd H D (.lst ys))) :
  Xu (Ite K a) ns js g tt te Z Q H:=by
 refine⟨λi m ys H=>m=xs.length-i/\i<=xs.length/\Pv i ys H,⟨xs.length,by simp,Nat.zero_le _,h0⟩,?_⟩
 rintro i m ys H ⟨rfl,hi,p⟩
 have q:=hl i ys H hi p
 by_cases hlt:i<xs.length
 ·have hx:xs[i]?=some xs[i]:=List.getElem?_eq_getElem hlt
  refine .inr ⟨⟨xs,xs[i],q,hx⟩,hz i ys H hlt p,Pv (i+1),λys' H' p'=>⟨xs.length-(i+1),by omega,rfl,hlt,p'⟩,λv H' y=>?_⟩
  obtain⟨T,x,rfl,hT,rfl,hy⟩:=y
  have e2:=hy xs q
  rw [hx] at e2
  cases e2
  exact (hs i xs[i] ys H T hx p hT).2
 ·have e:i=xs.length:=by omega
  subst e
  exact .inl ⟨⟨xs,q,Nat.le_refl _⟩,hd ys H p⟩
end L2
namespace PySem.W.Fast
def tw18170292831361714160:=0
def tw8348367191256402259:=0
def tw16569378325758938065:=0
def tw5915224382850504157:=0
def tw10785383652117488615:=0
def tw6570723895468717434:=0
def tw8862594175178509491:=0
def tw11790379013193700332:=0
def tw2283125190318442964:=0
def tw15771565799596019374:=0
def tw13408331069153460653:=0
def tw3743891233684059413:=0
def tw11803578605361920796:=0
def tw3575346189009429867:=0
def tw6539530278465074979:=0
def tw3882206906565647865:=0
def tw14001707697255715476:=0
def tw14262479531505268717:=0
def tw15120452683663819196:=0
def tw13292843110016521359:=0
def tw14816785355908169154:=0
def tw2102791638077762006:=0
def tw11318962181601350673:=0
def tw12339686974527035722:=0
def tw9628323378604746879:=0
def tw15848760301857901815:=0
def tw8885407701004470851:=0
def tw8680921145454048912:=0
def tw5125594566350307193:=0
def tw4007879773217853883:=0
def tw5087592634886599954:=0
def tw13745385570446836282:=0
def tw16047969594590794668:=0
def tw16529266592634598327:=0
def tw175329048653573447:=0
def tw11704379901406911378:=0
def tw12698934264925191268:=0
def tw4019200145466171134:=0
def tw11684592990695175596:=0
def tw5387361504045507956:=0
def tw4162378045998576604:=0
def tw6516755025111736754:=0
def tw903474768448940636:=0
def tw15277737601452976332:=0
def tw15934528544198732145:=0
def tw2142140515033039746:=0
def tw8466524909742732383:=0
def tw4318032023821899143:=0
def tw16776030297986910124:=0
def tw2610245393163001640:=0
def tw4596008918475834085:=0
def tw537602561981333119:=0
def tw9069916015330634773:=0
def tw17992880920548522683:=0
def tw8491532939621443116:=0
def tw14378918421326004867:=0
def tw13882220736193710858:=0
def tw7788447910168108228:=0
def tw12665912105879782386:=0
def tw260193550723885530:=0
def tw10495123756085614514:=0
def tw14416542982313764729:=0
def tw11591247411941723912:=0
def tw14757087013047581591:=0
def tw10380928293892798155:=0
def tw6433369163312148555:=0
def tw12450396505366716890:=0
def tw15003686577845801809:=0
def tw15748277076909702879:=0
def tw2183648664276350330:=0
def tw17559459236458352433:=0
def tw9155348836007014913:=0
def tw18055559564367620141:=0
def tw899086576533475286:=0
def tw8226692897499847198:=0
def tw12917304255499518022:=0
def tw7421916539854903150:=0
def tw5447808346197080851:=0
def tw11945892808560934007:=0
def tw17760609424051243204:=0
def tw5497826240320596235:=0
def tw2353618340639730063:=0
def tw7951881047751893157:=0
def tw17953474796910454939:=0
def tw14432143171756376610:=0
def tw12611626245779346351:=0
def tw950660154502236647:=0
def tw2403468406842127855:=0
def tw9653130381181325555:=0
def tw17440832869754299024:=0
def tw18422937896339967885:=0
def tw1615951350887861719:=0
def tw15813539620379711690:=0
def tw9126850338739543834:=0
def tw13116216885376286021:=0
def tw13585331642468638036:=0
def tw9844533752003852590:=0
def tw5035434829396233403:=0
def tw4001777132704200407:=0
def tw16416330492331394479:=0
def tw2428808383843392627:=0
def tw9950716361882280936:=0
def tw2012629855391702375:=0
def tw10095601167712891301:=0
def tw10836943252470939688:=0
def tw17934691563422927599:=0
def tw13128271771650828359:=0
def tw12672888072104797654:=0
def tw13613758248429522641:=0
def tw9969738802069509333:=0
def tw16596648176490833547:=0
def tw16615180722238816042:=0
def tw384141506659646940:=0
def tw15107319786813203355:=0
def tw2091791658322854013:=0
def tw2964594446964274192:=0
def tw5625718102071070667:=0
def tw6261340771547354628:=0
def tw12977069123146988281:=0
def tw10314020850042978666:=0
def tw4923107909563354375:=0
def tw15407709305758105542:=0
def tw12616779311924199373:=0
def tw14892255735506171613:=0
def tw17174872664843259827:=0
def tw9024376408819392090:=0
def tw912446071911184681:=0
def tw3499134699538098144:=0
def tw9836707516214662828:=0
def tw5747679690198593315:=0
def tw18251556035735649701:=0
def tw1596292069279575927:=0
def tw15936852023004415200:=0
def tw6083218187241665636:=0
def tw3483900072923610864:=0
def tw16279842378136847303:=0
def tw14656589078430068126:=0
def tw16586787700691550419:=0
def tw14987559513475361106:=0
def tw1423711063111578091:=0
def tw5259732666138148173:=0
def tw5111535443877350923:=0
def tw13855747856158182939:=0
def tw17245739211324652344:=0
def tw5495062035212879878:=0
def tw16887493584576702854:=0
def tw1001839817564983878:=0
def tw17141542735492573815:=0
def tw9438971285651168801:=0
def tw15219509588778157603:=0
def tw18222010006429694034:=0
def tw17961264042497478514:=0
def tw10752227080542331698:=0
def tw1878342211614181314:=0
def tw5838144488027664786:=0
def tw13162541894760227922:=0
def tw8236851162434245181:=0
def tw11426158238724778880:=0
def tw5410656444151733545:=0
def tw10085759400180897059:=0
def tw18050179959508937653:=0
def tw11486658997664145435:=0
def tw2847787045553696250:=0
def tw5488992194103120553:=0
def tw2355150170711468886:=0
def tw16252178460667588749:=0
def tw15846922053088671995:=0
def tw14445814616728978284:=0
def tw6649693529661632076:=0
def tw16866926707456247534:=0
def tw12939106174144459499:=0
def tw11453000139995712976:=0
def tw13296340340142768451:=0
def tw6661090729500640237:=0
def tw12436729794416664504:=0
def tw4154605003161263333:=0
def tw14355028579297579748:=0
def tw6925616062007808349:=0
def tw16889639762731658501:=0
def tw18361258522369702172:=0
def tw1146873973448595078:=0
def tw14915219547032678218:=0
def tw673060400758038143:=0
def tw16504467429561865874:=0
def tw17074166035734947506:=0
def tw9873201414066456725:=0
def tw17239259116928307886:=0
def tw11039909429121827672:=0
def tw11282280138761409667:=0
def tw17871155363306080486:=0
def tw3046433347079740780:=0
def tw13226701633366079860:=0
def tw1444649288789987730:=0
def tw3342601894532946581:=0
def tw14310962752649156581:=0
def tw582106094730336153:=0
def tw8429416668561417170:=0
def tw4885998106379109705:=0
def tw6130045312392861472:=0
def tw9764606654709066476:=0
def tw16538856739410752675:=0
def tw15333788270335541299:=0
def tw13147624379754131538:=0
def tw10420273971785897542:=0
def tw1871892737793108889:=0
def tw17033298115984323453:=0
def tw4808945157069709356:=0
def tw10678176979154129703:=0
def tw18117702430701771144:=0
def tw6115621603037266143:=0
def tw387102821099815794:=0
def tw16781833678346173083:=0
def tw16607113710849558320:=0
def tw2948170636205448006:=0
def tw2689209305252857877:=0
def tw2645384994481076700:=0
def tw4050410070178161532:=0
def tw6203203344668451217:=0
def tw3449035524281748786:=0
def tw10976350853664190852:=0
def tw13770126661641118023:=0
def tw6105042074294080797:=0
def tw1147767981050451969:=0
def tw12801432968161658779:=0
def tw16964970605670807265:=0
def tw14132805133367876822:=0
def tw4567524155433438298:=0
def tw1461592800976401297:=0
def tw2206344037116635146:=0
def tw14813739807798555943:=0
def tw12770975440010549876:=0
def tw15414919856875685446:=0
def tw17500535709306335341:=0
def tw17563561590670958468:=0
def tw13093134456602368620:=0
def tw16758077828055645178:=0
def tw14839612546757182919:=0
def tw17279636624132836721:=0
def tw2249603399413919856:=0
def tw3966639848724101607:=0
def tw17569395537520041737:=0
def tw6874840667446975403:=0
def tw18266596800039831461:=0
def tw2765249120291776503:=0
def tw2526775177932192955:=0
def tw11467207687798268593:=0
def tw15790425262487973166:=0
def tw10515348771503288945:=0
def tw13010606037134372651:=0
def tw17169838890987030856:=0
def tw4422539069630155814:=0
def tw5122110509894240621:=0
def tw2560591560149778103:=0
def tw17082426907460508614:=0
def tw2721770976356315703:=0
def tw15230680927092181118:=0
def tw4983034275944220345:=0
def tw3417308844811602838:=0
def tw7621432561872564315:=0
def tw12086873519659647663:=0
def tw14511833181554778757:=0
def tw11821395839539682849:=0
def tw1075957041025967359:=0
def tw12790156089352804940:=0
def tw9422053792078104045:=0
def tw11002322144211844048:=0
def tw8621577202031216132:=0
def tw7513778601101155986:=0
def tw8268749849593317375:=0
def tw2136285167639747244:=0
def tw5048042620986460196:=0
def tw6875945166016583703:=0
def tw5638969247355835362:=0
def tw7418856925997916230:=0
def tw3626224900166559339:=0
def tw10168892765050399639:=0
def tw5373263737993293766:=0
def tw7076634655882339892:=0
def tw4036050402323583384:=0
def tw13970762532962471345:=0
def tw17650167167074053037:=0
def tw10241229632032106133:=0
def tw5984010864927589416:=0
def tw18306475041415268066:=0
def tw4822748894965868928:=0
def tw10647585963007904585:=0
def tw18206324655296229234:=0
def tw13753321962447249834:=0
def tw3874954446253246776:=0
def tw2255332267142178480:=0
def tw1421467741379316287:=0
def tw17572675363065058556:=0
def tw7202230432153707181:=0
def tw14656129211532803453:=0
def tw15438195609845070793:=0
def tw26212944715411426:=0
def tw1426964111982397398:=0
def tw11373691223806086858:=0
def tw5371066387385443806:=0
def tw3250352843956310339:=0
def tw15322189120580235486:=0
def tw12957995921226321086:=0
def tw5674676801514534968:=0
def tw3421362083189683098:=0
def tw8114659641452169995:=0
def tw15131526585606912590:=0
def tw15161002014863963140:=0
def tw3406168830862144395:=0
def tw11113218130708101015:=0
def tw15769332139231807328:=0
def tw16739800093297035756:=0
def tw14241080439237500965:=0
def tw1763586424795980223:=0
def tw2905228889550320407:=0
def tw8043675560176260271:=0
def tw14472893229689541090:=0
def tw11146340813478532755:=0
def tw18415406697286717859:=0
def tw912542446662513767:=0
def tw2777247259400936826:=0
def tw12926571577584756375:=0
def tw15278039502625801542:=0
def tw4650313207203461616:=0
def tw6842208273818714898:=0
def tw2941376982603445305:=0
def tw16935359127517141878:=0
def tw2021674564665082780:=0
def tw3595209779895566865:=0
def tw5787177237706683383:=0
def tw4999044487390254826:=0
def tw14842313467697543053:=0
def tw5122653372235771:=0
def tw12344486868268565186:=0
def tw6487056241966566419:=0
def tw7267979654294226254:=0
def tw10570005169443829548:=0
def tw11889410583558325648:=0
def tw14476096287878002613:=0
def tw14364257372250611857:=0
def tw10082541408100477381:=0
def tw6041562279098409253:=0
def tw5106721615915689219:=0
def tw11818368703483485264:=0
def tw18159615153474743888:=0
def tw14377704349949654978:=0
def tw7685071718832680699:=0
def tw693411518253072051:=0
def tw15719075200517354810:=0
def tw14933068399562226936:=0
def tw9167693423098380367:=0
def tw8376182385840892835:=0
def tw2674151290906317564:=0
def tw11501883166680533547:=0
def tw7494369158965516743:=0
def tw5450641638019929324:=0
def tw5985743149467383921:=0
def tw4827492086863185166:=0
def tw14597527265712664626:=0
def tw14773585802081632122:=0
def tw14475437640384379530:=0
def tw9430089861244446865:=0
def tw8818626649925482008:=0
def tw10372674809399518218:=0
def tw10334743441105901858:=0
def tw10553563824778488754:=0
def tw8443519846786294445:=0
def tw16733219062155129839:=0
def tw2770954493615672114:=0
def tw7432642354016622833:=0
def tw4474738387422450247:=0
def tw14507739348235262874:=0
def tw13014337934083875641:=0
def tw15713128924404508333:=0
def tw1401850066922198873:=0
def tw7129059902108398499:=0
def tw17467966933562641753:=0
def tw13631085560609648072:=0
def tw6460813290453004545:=0
def tw11224132683627233166:=0
def tw5377834767892730050:=0
def tw17563882045993536596:=0
def tw13294296402365687871:=0
def tw9967972809592270342:=0
def tw17750126763096343996:=0
def tw3061161777885628539:=0
def tw15241950030622769381:=0
def tw8914440841896869757:=0
def tw17419514824635404636:=0
def tw11536076292344859946:=0
def tw14961107408395720839:=0
def tw7052537595261665688:=0
def tw5621620298139797975:=0
def tw17975588137256308017:=0
def tw5443890280648392998:=0
def tw3785674336103496486:=0
def tw2861660683975336810:=0
def tw3719044666822627307:=0
def tw11354792317018930406:=0
def tw7911053185949318416:=0
def tw11473636403005213754:=0
def tw13726173023647513910:=0
def tw11191419164782815065:=0
def tw9271721342460345054:=0
def tw14848771653878062305:=0
def tw15831920945867427031:=0
def tw13656688806653859255:=0
def tw1083174820005157230:=0
def tw11005975090375905972:=0
def tw8078088920415629540:=0
def tw1003382923195980219:=0
def tw1649515518203483603:=0
def tw17946184040019448747:=0
def tw8847499428495274867:=0
def tw18348300990577730551:=0
def tw17798997502303258663:=0
def tw8773677185474191015:=0
def tw9077139574637737857:=0
def tw12345916211427557984:=0
def tw15336295010414469510:=0
def tw2751249829643537513:=0
def tw9688901635530219715:=0
def tw17733242168494347768:=0
def tw1359738464356516698:=0
def tw11214880672577273574:=0
def tw11915546927928642090:=0
def tw2454100510906710147:=0
def tw7081917932605540179:=0
def tw12269855720643560641:=0
def tw17508821452155045819:=0
def tw12790854534680188546:=0
def tw9094192408385230129:=0
def tw16978887351091432538:=0
def tw14712785953316624609:=0
def tw3701066015905458394:=0
def tw8523576614494442846:=0
def tw7784534963831425103:=0
def tw16477256008782961642:=0
def tw16878420872055949300:=0
def tw8681855184156964427:=0
def tw7022071738119421510:=0
def tw4276054097441245937:=0
def tw16162701007782277641:=0
def tw16092721276871706826:=0
def tw10375521522222281028:=0
def tw10805443987338246736:=0
def tw15743537771617616538:=0
def tw17920722030665335219:=0
def tw494327361956756483:=0
def tw14419925395074805468:=0
def tw15620822886866146847:=0
def tw13762650159115089128:=0
def tw2627826534501934023:=0
def tw5942564342971562666:=0
def tw16204560657883424916:=0
def tw13617594023969654259:=0
def tw6148294904771037040:=0
def tw12257911628876376072:=0
def tw3167156188429546811:=0
def tw1419974384290102112:=0
def tw11076235093461057621:=0
def tw8381716522491224585:=0
def tw9770837950693978239:=0
def tw14370103124117622759:=0
def tw4033575549951104681:=0
def tw11682476377825042735:=0
def tw17243540886505015265:=0
end PySem.W.Fast
namespace Lw
open PySem L2 PyProof.Rows
def top (i:Nat):Stmt:=PySem.Challenge.pw_lackstretch_k19_figures_of_good_ones.main.body.getD i (.Pass ⟨0,0,0,0⟩)
abbrev zeN:Stmt:=top 0
abbrev ut:Stmt:=top 13
abbrev Zt:Stmt:=top 14
abbrev ZM:Stmt:=top 15
abbrev jb:Stmt:=top 16
abbrev wR:Stmt:=top 17
abbrev um:Stmt:=top 18
abbrev jH:Stmt:=top 19
abbrev jg:Stmt:=top 20
abbrev ud:Stmt:=top 21
abbrev Xq:Stmt:=top 22
abbrev uK:Stmt:=top 23
abbrev tG:Stmt:=top 24
abbrev uN:Stmt:=top 25
abbrev wO:Stmt:=top 26
abbrev vm:Stmt:=top 27
abbrev uO:Stmt:=top 28
abbrev Zo:Stmt:=top 29
abbrev uL:Stmt:=top 31
abbrev uq:Stmt:=top 32
abbrev yx:Stmt:=top 33
abbrev u9:Stmt:=top 35
abbrev uU:Stmt:=top 36
abbrev jd:Stmt:=top 37
abbrev qj:Stmt:=inClass (top 38) 0
abbrev wW:Stmt:=inClass (top 38) 1
abbrev xu:Stmt:=inClass (top 38) 2
abbrev Wh:Stmt:=inClass (top 38) 3
abbrev Wk:Stmt:=inClass (top 38) 4
abbrev wg:Stmt:=inClass (top 38) 5
abbrev WQ:Stmt:=inClass (top 38) 6
abbrev Wu:Stmt:=inClass (top 38) 7
abbrev Xy:Stmt:=inClass (top 38) 8
abbrev xH:Stmt:=top 40
abbrev tO:Stmt:=inClass (top 41) 0
abbrev yS:Stmt:=inClass (top 41) 1
abbrev xq:Stmt:=inClass (top 41) 2
abbrev yX:Stmt:=inClass (top 41) 3
abbrev yV:Stmt:=inClass (top 41) 4
abbrev YM:Stmt:=inClass (top 41) 5
abbrev uo:Stmt:=top 42
abbrev ue:Stmt:=top 43
abbrev vQ:Stmt:=top 46
abbrev qM:Stmt:=top 47
abbrev jx:Stmt:=top 49
abbrev vJ:Stmt:=top 50
abbrev qW:Stmt:=top 51
abbrev qT:Stmt:=top 52
abbrev qL:Stmt:=top 53
abbrev xn:Stmt:=top 54
abbrev uY:Stmt:=top 55
abbrev uh:Stmt:=top 56
abbrev yE:Stmt:=top 57
abbrev wX:Stmt:=top 58
abbrev xN:Stmt:=top 59
abbrev yh:Stmt:=top 60
abbrev Ze:Stmt:=top 61
abbrev jy:Stmt:=top 62
abbrev wH:Stmt:=top 63
abbrev Vu:Stmt:=top 64
section
variable {P:Program} {w:World} {K:W.Frag} {mg:Str->Option Value} {base:Heap}
def qX:Sp:=λvs H Q _=>∃ i:Int,vs=[.int i]/\Q (.bl true) H
theorem zaS:zF ["thing"] ["thing"] (zu ut):={}
theorem Zk {f:Addr} {fd:FuncData} (D:Df K mg "is_whole" ut Aa f fd) (T:Blt mg):FnOk P w K mg base CX0 1 f fd Aa qX:=by
 refine D.fn.ok zaS (λvs H Q E h=>?_) (λcdv A outer s H vs Q E hr h=>?_)
 ·obtain⟨i,rfl,_⟩:=h;rfl
 ·obtain⟨i,rfl,q⟩:=h
  refine⟨_,(zx (zL (jq (zE U0 (by rfl) T.n_isinstance boot_isinstance (zc (pv 0) (zc (Zb (v:=.ty "int") rfl T.n_int boot_int rfl) zg))) (jj (zbO (zE U0 (by rfl) T.n_isinstance boot_isinstance (zc (pv 0) (zc (Zb (v:=.ty "bool") rfl T.n_bool boot_bool rfl) zg)))))))),?_⟩
  refine⟨_,rfl,_,_,_,_,rfl,.int i,Vw,_,rfl,vL ?_⟩
  refine⟨_,rfl,_,_,_,_,rfl,.int i,Wv,_,rfl,?_⟩
  exact q
def Yw:Sp:=λvs H Q _=>∃ i:Int,vs=[.int i]/\Q (.bl (decide (2<=i/\i<=16))) H
theorem zbv:zF ["thing"] ["thing"] (zu ZM):={}
theorem zbl {f f1:Addr} {fd fd1:FuncData} {t1 t2:Tok} (D:Df K mg "is_base" ZM Aa f fd) (yQ:Df K mg "is_whole" ut Aa f1 fd1) (T:Blt mg) (YB:mg "LEAST_BASE" = some (.int 2 t1)) (jo:mg "GREATEST_BASE" = some (.int 16 t2)) :
  FnOk P w K mg base CX0 2 f fd Aa Yw:=by
 have jJ:FnOk P w K mg base CX0 1 f1 fd1 Aa qX:=Zk yQ T
 refine D.fn.ok zbv (λvs H Q E h=>?_) (λcdv A outer s H vs Q E hr h=>?_)
 ·obtain⟨i,rfl,_⟩:=h;rfl
 ·obtain⟨i,rfl,q⟩:=h
  refine⟨_,(zx (zL (jq (zN yQ jJ (hr.mono (by decide)) (zc (pv 0) zg)) (jj (Us Jb Jb (Xr (v:=.int 2) rfl YB ⟨_,rfl⟩) (pv 0) (Xr (v:=.int 16) rfl jo ⟨_,rfl⟩)))))),?_⟩
  refine⟨_,rfl,i,rfl,_,rfl,vL ?_⟩
  refine⟨_,rfl,_,_,rfl,rfl,_,rfl,?_⟩
  refine J5 (λh1=>?_) (λh1=>?_)
  ·have h1':(2:Int)<=i:=of_decide_eq_true h1
   refine⟨_,_,rfl,rfl,?_⟩
   rw [show decide (2<=i/\i<=16)=decide (i<=16) by simp [h1']] at q
   exact q
  ·have h1':¬ (2:Int)<=i:=λz=>h1 (decide_eq_true z)
   rw [show decide (2<=i/\i<=16)=false by simp [h1']] at q
   exact q
def qO:Sp:=λvs H Q _=>∃ i:Int,vs=[.int i]/\2<=i/\i<=16/\Q .non H
theorem QJ:zF ["thing"] ["thing"] (zu uK):={}
theorem Qy {f f1:Addr} {fd fd1:FuncData} (D:Df K mg "check_base" uK Aa f fd) (jQ:Df K mg "is_base" ZM Aa f1 fd1) (ZW:FnOk P w K mg base CX0 2 f1 fd1 Aa Yw) :
  FnOk P w K mg base CX0 3 f fd Aa qO:=by
 refine D.fn.ok QJ (λvs H Q E h=>?_) (λcdv A outer s H vs Q E hr h=>?_)
 ·obtain⟨i,rfl,_⟩:=h;rfl
 ·obtain⟨i,rfl,h1,h2,q⟩:=h
  refine⟨_,(zx (xr (uP (wY (zN jQ ZW (hr.mono (by decide)) (zc (pv 0) zg))))
    (zx YW)
    yj)),?_⟩
  refine⟨_,rfl,i,rfl,_,rfl,?_⟩
  rw [decide_eq_true (show 2<=i/\i<=16 from ⟨h1,h2⟩)]
  exact xX q
def Yc:Sp:=λvs H Q _=>∃ i:Int,vs=[.int i]/\Q (.bl (decide (0<=i))) H
theorem Jx:zF ["thing"] ["thing"] (zu Zt):={}
theorem WX {f f1:Addr} {fd fd1:FuncData} (D:Df K mg "is_number" Zt Aa f fd) (yQ:Df K mg "is_whole" ut Aa f1 fd1) (T:Blt mg) :
  FnOk P w K mg base CX0 2 f fd Aa Yc:=by
 have jJ:FnOk P w K mg base CX0 1 f1 fd1 Aa qX:=Zk yQ T
 refine D.fn.ok Jx (λvs H Q E h=>?_) (λcdv A outer s H vs Q E hr h=>?_)
 ·obtain⟨i,rfl,_⟩:=h;rfl
 ·obtain⟨i,rfl,q⟩:=h
  refine⟨_,(zx (zL (jq (zN yQ jJ (hr.mono (by decide)) (zc (pv 0) zg)) (jj (xT zdQ (pv 0) zm (ye _)))))),?_⟩
  refine⟨_,rfl,i,rfl,_,rfl,vL ?_⟩
  exact⟨_,rfl,_,_,rfl,rfl,q⟩
def jn:Sp:=λvs H Q _=>∃ i:Int,vs=[.int i]/\0<=i/\Q .non H
theorem VV:zF ["thing"] ["thing"] (zu tG):={}
theorem VM {f f1 f2:Addr} {fd fd1 fd2:FuncData} (D:Df K mg "check_number" tG Aa f fd) (jV:Df K mg "is_number" Zt Aa f2 fd2) (yQ:Df K mg "is_whole" ut Aa f1 fd1) (T:Blt mg) :
  FnOk P w K mg base CX0 3 f fd Aa jn:=by
 have Qg:FnOk P w K mg base CX0 2 f2 fd2 Aa Yc:=WX jV yQ T
 refine D.fn.ok VV (λvs H Q E h=>?_) (λcdv A outer s H vs Q E hr h=>?_)
 ·obtain⟨i,rfl,_⟩:=h;rfl
 ·obtain⟨i,rfl,h1,q⟩:=h
  refine⟨_,(zx (xr (uP (wY (zN jV Qg (hr.mono (by decide)) (zc (pv 0) zg))))
    (zx YW)
    yj)),?_⟩
  refine⟨_,rfl,i,rfl,_,rfl,?_⟩
  rw [decide_eq_true h1]
  exact xX q
def qQ:Sp:=λvs H Q _=>∃ b n:Nat,vs=[.int b,.int n]/\2<=b/\b<=16/\n<2^900 /\
 ∀ l H',H l=none->H' l=some (.lst ((zR b n).map V.int))->Same H H'->Q (.ref l) H'
theorem qR:zF ["base","n","backwards","rest"] ["base","n"] (zu uO):={}
theorem QL {f f1 f2:Addr} {fd fd1 fd2:FuncData} (D:Df K mg "figures_of" uO Ad f fd) (vA:Df K mg "check_base" uK Aa f1 fd1) (uH:FnOk P w K mg base CX0 3 f1 fd1 Aa qO)
  (qG:Df K mg "check_number" tG Aa f2 fd2) (ZL:FnOk P w K mg base CX0 3 f2 fd2 Aa jn) (T:Blt mg):FnOk P w K mg base CX0 4 f fd Ad qQ:=by
 refine D.fn.ok qR (λvs H Q E h=>?_) (λcdv A outer s H vs Q E hr h=>?_)
 ·obtain⟨b,n,rfl,_⟩:=h;rfl
 ·obtain⟨b,n,rfl,h2,h16,hn,k⟩:=h
  refine⟨_,(zp (xP (zN vA uH (hr.mono (by decide)) (zc (pv 0) zg)))
   (zp (xP (zN qG ZL (hr.mono (by decide)) (zc (pv 1) zg)))
   (zp (zB (i:=2) qR.nd rfl (Or.inl rfl) (zZ (zc (zA yp (pv 1) (pv 0)) zg)))
   (zp (zB (i:=3) qR.nd rfl (Or.inl rfl) (zA vh (pv 1) (pv 0)))
   (zp (Wx PassesOwn.never (ym za9 (pv 3) zm (ye _))
    (zp (xP (Zq PySem.F.plainAttrs_list PySem.F.slot_list_append PySem.F.type_list_append xF (pv 2) (zc (zA yp (pv 3) (pv 0)) zg)))
    (zx (zB (i:=3) qR.nd rfl (Or.inl rfl) (zA vh (pv 3) (pv 0))))))
   (zx (zL (zbI rfl rfl T.n_list rfl T.n_reversed (pv 2))))))))),?_⟩
  refine⟨_,rfl,(b:Int),rfl,by omega,by omega,?_⟩
  refine⟨_,rfl,(n:Int),rfl,by omega,?_⟩
  refine⟨_,rfl,_,rfl,_,_,rfl,rfl,(by omega:(0:Int)<b),(by decide:1<=sizeLine),λl hl=>?_⟩
  refine⟨_,rfl,_,rfl,_,_,rfl,rfl,⟨by omega,by omega⟩,?_⟩
  have hlen:=jY h2 900 n hn
  refine WT (λZ H2=>∃ (r:Nat) (L:List Int),Z=[some (.int b),some (.int n),some (.ref l),some (.int r)]/\H2 l=some (.lst (L.map V.int))/\Same H H2/\zR b n=ahead b r++L.reverse)
   (λZ _=>match Z with | [_,_,_,some (.int r)]=>r.toNat | _=>0) ?_ ?_ ?_
  ·refine⟨n / b,[((n % b:Nat):Int)],?_,?_,zj hl,?_⟩
   ·rfl
   ·rw [zf];simp
   ·rw [Vf h2];simp
  ·rintro Z H2 ⟨r,L,rfl,hL,sH,he⟩
   refine⟨_,rfl,_,_,rfl,rfl,_,rfl,?_⟩
   refine J5 (λh1=>?_) (λh1=>?_)
   ·have hr0:0<r:=by have:=of_decide_eq_true h1;omega
    have hLl:L.length<=901:=by
     have:=congrArg List.length he
     rw [List.length_append,List.length_reverse] at this
     omega
    refine⟨_,rfl,.inl ⟨rfl,_,SqL.of hL⟩,_,rfl,_,rfl,_,_,rfl,rfl,(by omega:(0:Int)<b),l,_,_,rfl,rfl,hL,by rw [List.length_map];exact Nat.lt_of_le_of_lt hLl (by decide),?_⟩
    refine⟨_,rfl,_,rfl,_,_,rfl,rfl,⟨by omega,by omega⟩,?_⟩
    refine⟨⟨r / b,L++[((r % b:Nat):Int)],?_,?_,?_,?_⟩,?_⟩
    ·simp
    ·rw [zf];simp
    ·exact λb' o e=>by rw [zq (zy e hl)];exact sH b' o e
    ·rw [he,Uo h2 hr0,List.reverse_append];simp
    ·show ((r:Int) / (b:Int)).toNat<(r:Int).toNat
     have:r / b<r:=Nat.div_lt_self hr0 (by omega)
     omega
   ·have hr0:r=0:=by
     by_cases z:r=0
     ·exact z
     ·exact absurd (decide_eq_true (by omega:(0:Int)<r)) h1
    subst hr0
    refine⟨_,rfl,l,_,rfl,SqL.of hL,λq hq=>?_⟩
    have hlq:q≠l:=λz=>by rw [z,hL] at hq;cases hq
    refine k q _ (sH.free hq) ?_ (sH.trans (zj hq))
    rw [zf,he]
    simp [ahead]
  ·intro Z H2 Q Q' hq
   rintro⟨v,e,i,j,e1,e2,k,e3,q⟩
   exact⟨v,e,i,j,e1,e2,k,e3,hq _ _ q⟩
def jC:Sp:=λvs H Q _=>∃ b i:Int,vs=[.int b,.int i]/\Q (.bl (decide (0<=i/\i<b))) H
theorem zai:zF ["base","thing"] ["base","thing"] (zu jb):={}
theorem Jz {f f1:Addr} {fd fd1:FuncData} (D:Df K mg "is_figure" jb Ab f fd) (yQ:Df K mg "is_whole" ut Aa f1 fd1) (T:Blt mg):FnOk P w K mg base CX0 2 f fd Ab jC:=by
 have jJ:FnOk P w K mg base CX0 1 f1 fd1 Aa qX:=Zk yQ T
 refine D.fn.ok zai (λvs H Q E h=>?_) (λcdv A outer s H vs Q E hr h=>?_)
 ·obtain⟨b,i,rfl,_⟩:=h;rfl
 ·obtain⟨b,i,rfl,q⟩:=h
  refine⟨_,(zx (zL (jq (zN yQ jJ (hr.mono (by decide)) (zc (pv 1) zg)) (jj (Us Jb zes zm (pv 1) (pv 0)))))),?_⟩
  refine⟨_,rfl,i,rfl,_,rfl,vL ?_⟩
  refine⟨_,rfl,_,_,rfl,rfl,_,rfl,?_⟩
  refine J5 (λh1=>?_) (λh1=>?_)
  ·have h1':(0:Int)<=i:=of_decide_eq_true h1
   refine⟨_,rfl,_,_,rfl,rfl,?_⟩
   rw [show decide (0<=i/\i<b)=decide (i<b) by simp [h1']] at q
   exact q
  ·have h1':¬ (0:Int)<=i:=λz=>h1 (decide_eq_true z)
   rw [show decide (0<=i/\i<b)=false by simp [h1']] at q
   exact q
def uQ:Sp:=λvs H Q _=>∃ (b:Int) (a:Addr) (ns:List Int),vs=[.int b,.ref a]/\H a=some (.lst (ns.map V.int))/\ns.length<=1000/\∀ H',Same H H'->Q (.bl (ns.all λi=>decide (0<=i/\i<b))) H'
theorem Ue:zF ["base","thing"] ["base","thing"] (zu wR):={}
theorem Ui {f f1:Addr} {fd fd1:FuncData} (D:Df K mg "are_figures" wR Ab f fd) (uw:Df K mg "is_figure" jb Ab f1 fd1) (qt:FnOk P w K mg base CX0 2 f1 fd1 Ab jC) (T:Blt mg) :
  FnOk P w K mg base CX0 3 f fd Ab uQ:=by
 refine D.fn.ok Ue (λvs H Q E h=>?_) (λcdv A outer s H vs Q E hr h=>?_)
 ·obtain⟨b,a,ns,rfl,_⟩:=h;rfl
 ·obtain⟨b,a,ns,rfl,ha,hlen,kk⟩:=h
  refine⟨_,(zx (zL (jq (zE (Q9 K) (by rfl) T.n_isinstance boot_isinstance (zc (pv 1) (zc (Zb (v:=.ty "list") rfl T.n_list boot_list rfl) zg))) (jj (zE (k_all K rfl) (by rfl) T.n_all boot_all (zc (xK (show CScope (zu wR) _ "each" ["base","thing"] ["base"] [0] from {}) rfl (Yt K (pv 1)) (λ_ _ _ _=>yJ) (λ_ _ _ _=>(zN uw qt (hr.mono (by decide)) (zc (pv 1) (zc (pv 0) zg))))) zg)))))),?_⟩
  refine⟨_,rfl,_,_,_,_,rfl,.lst ha,XN,_,rfl,vL ?_⟩
  refine⟨_,rfl,a,rfl,⟨_,SqL.of ha⟩,xm (K:=K) (a:=a) (xs:=ns.map V.int) (λi ys H4=>ys=((ns.take i).map λi=>decide (0<=i/\i<b)).map V.bl/\H4=H) ⟨by simp,rfl⟩ (λi ys H4 _ ⟨_,e⟩=>by rw [e];exact SqL.of ha) ?_ ?_⟩
  ·rintro j x ys H4 hx ⟨rfl,rfl⟩
   refine⟨?_,?_⟩
   ·rw [List.length_map,List.length_map,List.length_take]
    exact Nat.lt_of_le_of_lt (Nat.le_trans (Nat.min_le_right _ _) hlen) (by decide)
   obtain⟨z,hz,rfl⟩:∃ z,ns[j]?=some z/\x=V.int z:=by
    rw [List.getElem?_map] at hx
    obtain⟨z,h,e⟩:=Option.map_eq_some_iff.mp hx
    exact⟨z,h,e.symm⟩
   unfold jl
   dsimp only
   rw [if_pos rfl]
   refine⟨_,rfl,_,rfl,b,z,rfl,?_,rfl⟩
   rw [List.take_succ,hz]
   simp
  ·rintro ys H4 ⟨rfl,rfl⟩ Dd hD
   refine⟨Dd,_,rfl,SqL.of zf,?_⟩
   have q:=kk _ (zj hD (o:=.lst (((ns.take (ns.map V.int).length).map λi=>decide (0<=i/\i<b)).map V.bl)))
   rw [List.length_map,List.take_length] at q ⊢
   rw [List.all_map]
   exact q
structure RuleAt (H:Hp) (r:Addr) (b:Nat) (bl:Addr) (zs:ZB):Prop where
 tu:H r=some (.tup [.int b,.ref bl])
 li:H bl=some (.lst (zs.map λz=>V.ref z.1))
 st:∀ z∈zs,H z.1=some (.lst (z.2.map V.int))
theorem RuleAt.same {H H':Hp} {r bl:Addr} {b:Nat} {zs:ZB} (R:RuleAt H r b bl zs) (s:Same H H'):RuleAt H' r b bl zs:=⟨s _ _ R.tu,s _ _ R.li,λz hz=>s _ _ (R.st z hz)⟩
structure J8 (b:Nat) (l:List Int):Prop where
 ne:l≠[]
 len:l.length<=4
 fig:∀ f∈l,0<=f/\f<b
structure yC (b:Nat) (ls:ZA):Prop where
 b2:2<=b
 b16:b<=16
 len:ls.length<=4
 st:∀ l∈ls,J8 b l
 up:ls.Pairwise λx y=>HT.lexLt x y=true
theorem zdj {b:Nat} {ns:List Int} (h:∀ f∈ns,0<=f/\f<(b:Int)):(ns.all λi=>decide (0<=i/\i<(b:Int)))=true:=by
 rw [List.all_eq_true];intro x hx;exact decide_eq_true (h x hx)
def Zz:Sp:=λvs H Q _=>∃ (b:Nat) (a:Addr) (ns:List Int),vs=[.int b,.ref a]/\H a=some (.lst (ns.map V.int))/\J8 b ns/\∀ H',Same H H'->Q (.bl true) H'
theorem QH:zF ["base","thing"] ["base","thing"] (zu jH):={}
theorem QG {f f1:Addr} {fd fd1:FuncData} {t1:Tok} (D:Df K mg "is_stretch" jH Ab f fd) (wI:Df K mg "are_figures" wR Ab f1 fd1) (vK:FnOk P w K mg base CX0 3 f1 fd1 Ab uQ) (uX:mg "LONGEST_STRETCH" = some (.int 4 t1)) (T:Blt mg) :
  FnOk P w K mg base CX0 4 f fd Ab Zz:=by
 refine D.fn.ok QH (λvs H Q E h=>?_) (λcdv A outer s H vs Q E hr h=>?_)
 ·obtain⟨b,a,ns,rfl,_⟩:=h;rfl
 ·obtain⟨b,a,ns,rfl,ha,g,kk⟩:=h
  refine⟨_,(zx (zL (jq (zN wI vK (hr.mono (by decide)) (zc (pv 0) (zc (pv 1) zg))) (jj (Us Jb Jb zm (zE (xQ K) (by rfl) T.n_len PySem.boot_len (zc (pv 1) zg)) (Xr (v:=.int 4) rfl uX ⟨_,rfl⟩)))))),?_⟩
  have hlen:=g.len
  refine⟨_,rfl,_,rfl,b,a,ns,rfl,ha,Nat.le_trans hlen (by decide),λH1 s1=>?_⟩
  rw [zdj g.fig]
  refine⟨_,rfl,vL ?_⟩
  have hpos:0<ns.length:=List.length_pos_iff.mpr g.ne
  refine⟨_,rfl,a,_,rfl,.inl (SqL.of (s1 _ _ ha)),_,_,rfl,rfl,_,rfl,?_⟩
  rw [List.length_map,decide_eq_true (show (1:Int)<=(ns.length:Int) by omega)]
  refine vL ?_
  refine⟨_,_,rfl,rfl,?_⟩
  dsimp only
  rw [decide_eq_true (show (ns.length:Int)<=4 by omega)]
  exact kk H1 s1
def Yv:Sp:=λvs H Q _=>∃ (bl:Addr) (zs:ZB),vs=[.ref bl]/\H bl=some (.lst (zs.map λz=>V.ref z.1))/\(∀ z∈zs,H z.1=some (.lst (z.2.map V.int)))/\zs.length<=4/\(zs.map (·.2)).Pairwise (λx y=>HT.lexLt x y=true)/\∀ H',Same H H'->Q (.bl true) H'
theorem JZ:zF ["stretches"] ["stretches"] (zu jg):={}
theorem zb9 {n:Nat}:(List.replicate n true).all id=true:=by
 rw [List.all_eq_true];intro x hx;exact (List.mem_replicate.mp hx).2
theorem WL {f:Addr} {fd:FuncData} (D:Df K mg "is_rising" jg As f fd) (T:Blt mg):FnOk P w K mg base CX0 1 f fd As Yv:=by
 refine D.fn.ok JZ (λvs H Q E h=>?_) (λcdv A outer s H vs Q E hr h=>?_)
 ·obtain⟨bl,zs,rfl,_⟩:=h;rfl
 ·obtain⟨bl,zs,rfl,hb,hz,h4,up,kk⟩:=h
  have HU:=Jy hr
  refine⟨_,(zx (zL (zE (k_all K rfl) (by rfl) T.n_all boot_all (zc (xK (show CScope (zu jg) _ "k" ["stretches"] ["stretches"] [0] from {}) rfl (yg rfl T.n_range (zc (zA uc (zE (xQ K) (by rfl) T.n_len PySem.boot_len (zc (pv 0) zg)) zm) zg)) (λ_ _ _ _=>yJ) (λ_ _ _ _=>(xT (zgt K HU) (zP (yo K) (pv 1) (pv 0) (λ_ _=>rfl)) (zP (yo K) (pv 1) (zA yq (pv 0) zm) (λ_ _=>rfl)) (ye _)))) zg)))),?_⟩
  refine⟨_,rfl,bl,_,rfl,.inl (SqL.of hb),_,_,rfl,rfl,_,rfl,?_⟩
  rw [List.length_map]
  refine⟨by omega,by omega,wK (lo:=0) (n:=((zs.length:Int)-1).toNat) (λi ys H4=>ys=(List.replicate i true).map V.bl/\H4=H) ⟨by simp,rfl⟩ ?_ ?_⟩
  ·rintro i ys H4 hi ⟨rfl,rfl⟩
   refine⟨by rw [List.length_map,List.length_replicate];exact Nat.lt_of_lt_of_le (show i<5 by omega) (by decide),?_⟩
   unfold jl
   dsimp only
   rw [if_pos rfl]
   have hi0:i<zs.length:=by omega
   have hi1:i+1<zs.length:=by omega
   have g0:atI (zs.map λz=>V.ref z.1) (0+(i:Int))=some (.ref (zs[i]).1):=by rw [Int.zero_add];exact yI (by rw [List.getElem?_map,List.getElem?_eq_getElem hi0];rfl)
   have g1:atI (zs.map λz=>V.ref z.1) (0+(i:Int)+1)=some (.ref (zs[i+1]).1):=by rw [Int.zero_add];exact yI (j:=i+1) (by rw [List.getElem?_map,List.getElem?_eq_getElem hi1];rfl)
   refine⟨_,rfl,_,rfl,bl,_,_,_,rfl,rfl,SqL.of hb,g0,?_⟩
   refine⟨_,rfl,_,rfl,_,_,rfl,rfl,bl,_,_,_,rfl,rfl,SqL.of hb,g1,?_⟩
   refine⟨_,_,_,_,rfl,rfl,SqL.of (hz _ (List.getElem_mem hi0)),SqL.of (hz _ (List.getElem_mem hi1)),?_,rfl⟩
   rw [List.pairwise_map,List.pairwise_iff_getElem] at up
   rw [up i (i+1) hi0 hi1 (by omega),List.replicate_succ']
   simp
  ·rintro ys H4 ⟨rfl,rfl⟩ Dd hD
   refine⟨Dd,_,rfl,SqL.of zf,?_⟩
   rw [zb9]
   exact kk _ (zj hD)
def jK:Sp:=λvs H Q _=>∃ (b:Nat) (bl:Addr) (zs:ZB),vs=[.int b,.ref bl]/\H bl=some (.lst (zs.map λz=>V.ref z.1))/\(∀ z∈zs,H z.1=some (.lst (z.2.map V.int)))/\yC b (zs.map (·.2))/\∀ H',Same H H'->Q (.bl true) H'
theorem Qk:zF ["base","thing"] ["base","thing"] (zu ud):={}
theorem UV {f f1 f2:Addr} {fd fd1 fd2:FuncData} {t1:Tok} (D:Df K mg "is_bad_list" ud Ab f fd) (Zh:Df K mg "is_stretch" jH Ab f1 fd1) (YT:FnOk P w K mg base CX0 4 f1 fd1 Ab Zz) (jX:Df K mg "is_rising" jg As f2 fd2) (qD:mg "MOST_STRETCHES" = some (.int 4 t1)) (T:Blt mg) :
  FnOk P w K mg base CX0 5 f fd Ab jK:=by
 have Qj:FnOk P w K mg base CX0 1 f2 fd2 As Yv:=WL jX T
 refine D.fn.ok Qk (λvs H Q E h=>?_) (λcdv A outer s H vs Q E hr h=>?_)
 ·obtain⟨b,bl,zs,rfl,_⟩:=h;rfl
 ·obtain⟨b,bl,zs,rfl,hb,hz,g,kk⟩:=h
  have h4:zs.length<=4:=by have:=g.len;rwa [List.length_map] at this
  refine⟨_,(zp (xr (PW.pt (zaK (uP (wY (zE (Q9 K) (by rfl) T.n_isinstance boot_isinstance (zc (pv 1) (zc (Zb (v:=.ty "list") rfl T.n_list boot_list rfl) zg))))) (Qd (ym za9 (zE (xQ K) (by rfl) T.n_len PySem.boot_len (zc (pv 1) zg)) (Xr (v:=.int 4) rfl qD ⟨_,rfl⟩) (ye _)))))
    (zx (zL XH))
    yj)
   (zx (zL (jq (zE (k_all K rfl) (by rfl) T.n_all boot_all (zc (xK (show CScope (zu ud) _ "each" ["base","thing"] ["base"] [0] from {}) rfl (Yt K (pv 1)) (λ_ _ _ _=>yJ) (λ_ _ _ _=>(zN Zh YT (hr.mono (by decide)) (zc (pv 1) (zc (pv 0) zg))))) zg)) (jj (zN jX Qj (hr.mono (by decide)) (zc (pv 1) zg))))))),?_⟩
  refine⟨_,rfl,_,_,_,_,rfl,.lst hb,XN,_,rfl,xX ?_⟩
  refine⟨_,rfl,bl,_,rfl,.inl (SqL.of hb),_,_,rfl,rfl,_,rfl,?_⟩
  rw [List.length_map,decide_eq_false (show ¬ (4:Int)<(zs.length:Int) by omega)]
  refine xX ?_
  refine⟨_,rfl,bl,rfl,⟨_,SqL.of hb⟩,xm (K:=K) (a:=bl) (xs:=zs.map λz=>V.ref z.1) (λi ys H4=>ys=(List.replicate i true).map V.bl/\Same H H4) ⟨by simp,Same.refl _⟩ (λi ys H4 _ ⟨_,e⟩=>SqL.of (e _ _ hb)) ?_ ?_⟩
  ·rintro j x ys H4 hx ⟨rfl,s4⟩
   rw [List.getElem?_map] at hx
   obtain⟨z,hzj,e⟩:=Option.map_eq_some_iff.mp hx
   subst e
   have hzm:=List.mem_of_getElem? hzj
   have hj:j<zs.length:=(List.getElem?_eq_some_iff.mp hzj).1
   refine⟨by rw [List.length_map,List.length_replicate];exact Nat.lt_of_lt_of_le (show j<5 by omega) (by decide),?_⟩
   unfold jl
   dsimp only
   rw [if_pos rfl]
   refine⟨_,rfl,_,rfl,b,z.1,z.2,rfl,s4 _ _ (hz z hzm),g.st _ (List.mem_map.mpr ⟨z,hzm,rfl⟩),λH5 s5=>⟨?_,s4.trans s5⟩⟩
   rw [List.replicate_succ'];simp
  ·rintro ys H4 ⟨rfl,s4⟩ Dd hD
   refine⟨Dd,_,rfl,SqL.of zf,?_⟩
   rw [zb9]
   have s5:=s4.trans (zj hD (o:=.lst ((List.replicate (zs.map λz=>V.ref z.1).length true).map V.bl)))
   refine⟨_,rfl,vL ?_⟩
   exact⟨_,rfl,bl,zs,rfl,s5 _ _ hb,λz hzm=>s5 _ _ (hz z hzm),h4,g.up,λH6 s6=>kk H6 (s5.trans s6)⟩
def X8:Sp:=λvs H Q _=>∃ (r:Addr) (b:Nat) (bl:Addr) (zs:ZB),vs=[.ref r]/\RuleAt H r b bl zs/\yC b (zs.map (·.2))/\∀ H',Same H H'->Q (.bl true) H'
theorem zbi:zF ["thing"] ["thing"] (zu Xq):={}
theorem zbB {f f1 f2:Addr} {fd fd1 fd2:FuncData} (D:Df K mg "is_rule" Xq Aa f fd) (jQ:Df K mg "is_base" ZM Aa f1 fd1) (ZW:FnOk P w K mg base CX0 2 f1 fd1 Aa Yw) (jA:Df K mg "is_bad_list" ud Ab f2 fd2) (Ys:FnOk P w K mg base CX0 5 f2 fd2 Ab jK) (T:Blt mg) :
  FnOk P w K mg base CX0 6 f fd Aa X8:=by
 refine D.fn.ok zbi (λvs H Q E h=>?_) (λcdv A outer s H vs Q E hr h=>?_)
 ·obtain⟨r,b,bl,zs,rfl,_⟩:=h;rfl
 ·obtain⟨r,b,bl,zs,rfl,R,g,kk⟩:=h
  have b2:=g.b2
  have b16:=g.b16
  refine⟨_,(zp (xr (PW.pt (zaK (uP (wY (zE (Q9 K) (by rfl) T.n_isinstance boot_isinstance (zc (pv 0) (zc (Zb (v:=.ty "tuple") rfl T.n_tuple boot_tuple rfl) zg))))) (Qd (ym zfo (zE (xQ K) (by rfl) T.n_len PySem.boot_len (zc (pv 0) zg)) zm (ye _)))))
    (zx (zL XH))
    yj)
   (zx (zL (jq (zN jQ ZW (hr.mono (by decide)) (zc (zP (wB K) (pv 0) zm (λ_ _=>rfl)) zg)) (jj (zN jA Ys (hr.mono (by decide)) (zc (zP (wB K) (pv 0) zm (λ_ _=>rfl)) (zc (zP (wB K) (pv 0) zm (λ_ _=>rfl)) zg)))))))),?_⟩
  refine⟨_,rfl,_,_,_,_,rfl,.tup R.tu,VG,_,rfl,xX ?_⟩
  refine⟨_,rfl,r,_,rfl,.inr (SqT.of R.tu),rfl,_,rfl,?_⟩
  refine xX ?_
  refine⟨_,rfl,r,_,_,V.int b,rfl,rfl,SqT.of R.tu,rfl,(b:Int),rfl,?_⟩
  rw [decide_eq_true (show (2:Int)<=b/\(b:Int)<=16 from ⟨by omega,by omega⟩)]
  refine⟨_,rfl,vL ?_⟩
  refine⟨_,rfl,r,_,_,V.int b,rfl,rfl,SqT.of R.tu,rfl,_,rfl,r,_,_,V.ref bl,rfl,rfl,SqT.of R.tu,rfl,b,bl,zs,rfl,R.li,R.st,g,kk⟩
def qN:Sp:=λvs H Q _=>∃ (r:Addr) (b:Nat) (bl:Addr) (zs:ZB),vs=[.ref r]/\RuleAt H r b bl zs/\yC b (zs.map (·.2))/\∀ H',Same H H'->Q .non H'
theorem Qz:zF ["thing"] ["thing"] (zu uN):={}
theorem QQ {f f1:Addr} {fd fd1:FuncData} (D:Df K mg "check_rule" uN Aa f fd) (WD:Df K mg "is_rule" Xq Aa f1 fd1) (Qm:FnOk P w K mg base CX0 6 f1 fd1 Aa X8):FnOk P w K mg base CX0 7 f fd Aa qN:=by
 refine D.fn.ok Qz (λvs H Q E h=>?_) (λcdv A outer s H vs Q E hr h=>?_)
 ·obtain⟨r,b,bl,zs,rfl,_⟩:=h;rfl
 ·obtain⟨r,b,bl,zs,rfl,R,g,kk⟩:=h
  refine⟨_,(zx (xr (uP (wY (zN WD Qm (hr.mono (by decide)) (zc (pv 0) zg))))
    (zx YW)
    yj)),?_⟩
  exact⟨_,rfl,r,b,bl,zs,rfl,R,g,λH1 s1=>⟨_,rfl,xX (kk H1 s1)⟩⟩
theorem zaA (xs:List V) (k m:Nat):uV xs (some (k:Int)) (some (m:Int))=(xs.drop k).take (m-k):=by
 unfold uV
 rw [HT.Uc,HT.Uc]
 by_cases hk:k<=xs.length
 ·rw [Nat.min_eq_left hk]
  by_cases hm:m<=xs.length
  ·rw [Nat.min_eq_left hm]
  ·rw [Nat.min_eq_right (by omega),List.take_of_length_le (by rw [List.length_drop];omega),List.take_of_length_le (by rw [List.length_drop];omega)]
 ·rw [List.drop_of_length_le (show xs.length<=k by omega),Nat.min_eq_right (show xs.length<=k by omega),List.drop_of_length_le (Nat.le_refl _)]
  simp
def qe:Sp:=λvs H Q _=>∃ (sa fa:Addr) (st fs:List Int),vs=[.ref sa,.ref fa]/\H sa=some (.lst (st.map V.int))/\H fa=some (.lst (fs.map V.int))/\st≠[]/\st.length<=1000/\fs.length<=1000/\∀ H',Same H H'->Q (.bl (Yl st fs)) H'
theorem Z4:zF ["stretch","figures","size"] ["stretch","figures"] (zu wO):={}
theorem ZX {f:Addr} {fd:FuncData} (D:Df K mg "stands_within" wO Ax f fd) (T:Blt mg):FnOk P w K mg base CX0 1 f fd Ax qe:=by
 refine D.fn.ok Z4 (λvs H Q E h=>?_) (λcdv A outer s H vs Q E hr h=>?_)
 ·obtain⟨sa,fa,st,fs,rfl,_⟩:=h;rfl
 ·obtain⟨sa,fa,st,fs,rfl,hs,hf,ne,hl1,hl2,kk⟩:=h
  have HU:=Jy hr
  refine⟨_,(zp (zB (i:=2) Z4.nd rfl (Or.inr rfl) (zE (xQ K) (by rfl) T.n_len PySem.boot_len (zc (pv 0) zg)))
   (zx (zL (zE (zd8 K rfl) (by rfl) T.n_any boot_any (zc (xK (show CScope (zu wO) _ "k" ["stretch","figures","size"] ["stretch","figures","size"] [0,1,2] from {}) rfl (yg rfl T.n_range (zc (zA yq (zA uc (zE (xQ K) (by rfl) T.n_len PySem.boot_len (zc (pv 1) zg)) (pv 2)) zm) zg)) (λ_ _ _ _=>yJ) (λ_ _ _ _=>(xT (zbf K HU) (wz (Xb K) (pv 2) (wF (pv 0)) (wF (zA yq (pv 0) (pv 3)))) (pv 1) (ye _)))) zg))))),?_⟩
  refine⟨_,rfl,sa,_,rfl,.inl (SqL.of hs),?_⟩
  rw [List.length_map]
  refine⟨_,rfl,fa,_,rfl,.inl (SqL.of hf),_,rfl,_,_,rfl,rfl,_,_,rfl,rfl,_,rfl,?_⟩
  rw [List.length_map]
  refine⟨by omega,by omega,wK (lo:=0) (n:=((fs.length:Int)-st.length+1).toNat) (λi ys H4=>ys=((List.range i).map λk=>decide ((fs.drop k).take st.length=st)).map V.bl/\Same H H4) ⟨by simp,Same.refl _⟩ ?_ ?_⟩
  ·rintro i ys H4 hi ⟨rfl,s4⟩
   refine⟨by rw [List.length_map,List.length_map,List.length_range];exact Nat.lt_of_lt_of_le (show i<2000 by omega) (by decide),?_⟩
   unfold jl
   dsimp only
   rw [if_pos rfl]
   refine⟨_,rfl,_,rfl,_,rfl,_,rfl,_,rfl,_,_,rfl,rfl,_,rfl,fa,_,rfl,SqL.of (s4 _ _ hf),λp hp=>?_⟩
   have e1:uV (fs.map V.int) (some (0+(i:Int))) (some (0+(i:Int)+(st.length:Int)))=((fs.drop i).take st.length).map V.int:=by
    have e:(0+(i:Int)+(st.length:Int))=((i+st.length:Nat):Int):=by omega
    rw [e,Int.zero_add,zaA,List.map_take,List.map_drop,Nat.add_sub_cancel_left]
   rw [e1]
   refine⟨_,rfl,xO ((fs.drop i).take st.length),xO st,TrAt.ints (a:=p) (SqL.of zf),TrAt.ints (a:=sa) (SqL.of (zj hp _ _ (s4 _ _ hs))),(by rw [qd];decide),?_,s4.trans (zj hp)⟩
   rw [List.range_succ,List.map_append,List.map_append]
   have e2:=jc ((fs.drop i).take st.length) st
   show _=_++[V.bl (decide ((fs.drop i).take st.length=st))]
   rw [<- e2];rfl
  ·rintro ys H4 ⟨rfl,s4⟩ Dd hD
   refine⟨Dd,_,rfl,SqL.of zf,?_⟩
   have q:=kk _ (s4.trans (zj hD (o:=.lst (((List.range ((fs.length:Int)-st.length+1).toNat).map λk=>decide ((fs.drop k).take st.length=st)).map V.bl))))
   rw [Ql ne] at q
   rw [List.any_map]
   exact q
def tQ:Sp:=λvs H Q _=>∃ (bl fa:Addr) (zs:ZB) (fs:List Int),vs=[.ref bl,.ref fa]/\H bl=some (.lst (zs.map λz=>V.ref z.1))/\(∀ z∈zs,H z.1=some (.lst (z.2.map V.int)))/\H fa=some (.lst (fs.map V.int))/\zs.length<=100/\fs.length<=1000/\(∀ z∈zs,z.2≠[]/\z.2.length<=1000)/\∀ H',Same H H'->Q (.bl (lacks (zs.map (·.2)) fs)) H'
theorem J0:zF ["bad","figures"] ["bad","figures"] (zu vm):={}
theorem zal {f f1:Addr} {fd fd1:FuncData} (D:Df K mg "lacks_all" vm Ac f fd) (vq:Df K mg "stands_within" wO Ax f1 fd1) (T:Blt mg):FnOk P w K mg base CX0 2 f fd Ac tQ:=by
 have Xg:FnOk P w K mg base CX0 1 f1 fd1 Ax qe:=ZX vq T
 refine D.fn.ok J0 (λvs H Q E h=>?_) (λcdv A outer s H vs Q E hr h=>?_)
 ·obtain⟨bl,fa,zs,fs,rfl,_⟩:=h;rfl
 ·obtain⟨bl,fa,zs,fs,rfl,hb,hz,hf,hl1,hl2,ne,kk⟩:=h
  refine⟨_,(zx (zL (zbO (zE (zd8 K rfl) (by rfl) T.n_any boot_any (zc (xK (show CScope (zu vm) _ "stretch" ["bad","figures"] ["figures"] [1] from {}) rfl (Yt K (pv 0)) (λ_ _ _ _=>yJ) (λ_ _ _ _=>(zN vq Xg (hr.mono (by decide)) (zc (pv 0) (zc (pv 1) zg))))) zg))))),?_⟩
  refine⟨_,rfl,bl,rfl,⟨_,SqL.of hb⟩,xm (K:=K) (a:=bl) (xs:=zs.map λz=>V.ref z.1) (λi ys H4=>ys=((zs.take i).map λz=>Yl z.2 fs).map V.bl/\Same H H4) ⟨by simp,Same.refl _⟩ (λi ys H4 _ ⟨_,e⟩=>SqL.of (e _ _ hb)) ?_ ?_⟩
  ·rintro j x ys H4 hx ⟨rfl,s4⟩
   rw [List.getElem?_map] at hx
   obtain⟨z,hzj,e⟩:=Option.map_eq_some_iff.mp hx
   subst e
   have hzm:=List.mem_of_getElem? hzj
   refine⟨?_,?_⟩
   ·rw [List.length_map,List.length_map,List.length_take]
    exact Nat.lt_of_le_of_lt (Nat.le_trans (Nat.min_le_right _ _) hl1) (by decide)
   unfold jl
   dsimp only
   rw [if_pos rfl]
   refine⟨_,rfl,_,rfl,z.1,fa,z.2,fs,rfl,s4 _ _ (hz z hzm),s4 _ _ hf,(ne z hzm).1,(ne z hzm).2,hl2,λH5 s5=>⟨?_,s4.trans s5⟩⟩
   rw [List.take_succ,hzj]
   simp
  ·rintro ys H4 ⟨rfl,s4⟩ Dd hD
   refine⟨Dd,_,rfl,SqL.of zf,_,rfl,?_⟩
   have q:=kk _ (s4.trans (zj hD (o:=.lst (((zs.take (zs.map λz=>V.ref z.1).length).map λz=>Yl z.2 fs).map V.bl))))
   rw [List.length_map,List.take_length] at q ⊢
   unfold lacks at q
   rw [List.any_map] at q ⊢
   exact q
end
theorem qu (xs:List V) (m:Nat):uV xs none (some (m:Int))=xs.take m:=by
 unfold uV
 rw [HT.Uc,HT.zaJ,List.drop_zero,Nat.sub_zero]
 by_cases h:m<=xs.length
 ·rw [Nat.min_eq_left h]
 ·rw [Nat.min_eq_right (by omega),List.take_of_length_le (Nat.le_refl _),List.take_of_length_le (by omega)]
theorem Z3 (xs:List V) (m:Nat):uV xs (some (m:Int)) none=xs.drop m:=by
 unfold uV
 rw [HT.Uc,HT.zaJ]
 by_cases h:m<=xs.length
 ·rw [Nat.min_eq_left h,List.take_of_length_le (by rw [List.length_drop];omega)]
 ·rw [Nat.min_eq_right (by omega),List.drop_of_length_le (Nat.le_refl _),List.drop_of_length_le (by omega)];simp
theorem RuleAt.all {fp:List Addr} {r bl:Addr} {H:Hp} {b:Nat} {zs:ZB} (R:RuleAt (aw fp H) r b bl zs):RuleAt H r b bl zs:=R.same (zX fp H)
theorem zc7 {ls:ZA} {x:List Int}:((ls.map xO).any λt=>teq t (xO x))=decide (x∈ls):=by
 rw [Bool.eq_iff_iff]
 simp only [List.any_eq_true,List.mem_map,decide_eq_true_eq]
 constructor
 ·rintro⟨t,⟨l,hl,rfl⟩,e⟩
  rw [jc] at e
  rw [<- of_decide_eq_true e];exact hl
 ·intro h
  exact⟨xO x,⟨x,h,rfl⟩,Wt _⟩
theorem Zf:∀ ls:ZA,wC (ls.map xO)<=1
 | []=>by simp [wC]
 | l :: ls=>by rw [List.map_cons,wC,qd];have:=Zf ls;omega
theorem TrsAt.lists {K:W.Frag} {H:Hp}:∀ {zs:ZB},(∀ z∈zs,H z.1=some (.lst (z.2.map V.int)))->TrsAt K H ((zs.map (·.2)).map xO) (zs.map λz=>V.ref z.1)
 | [],_=>by rw [List.map_nil,List.map_nil,TrsAt];rfl
 | z :: zs,h=>by
  rw [List.map_cons,List.map_cons,TrsAt]
  exact⟨_,_,rfl,TrAt.ints (SqL.of (h z List.mem_cons_self)),TrsAt.lists λz hz=>h z (List.mem_cons_of_mem _ hz)⟩
section
variable {P:Program} {w:World} {K:W.Frag} {mg:Str->Option Value} {base:Heap}
def ZD:Sp:=λvs H Q _=>∃ (bl fa:Addr) (zs:ZB) (fs:List Int),vs=[.ref bl,.ref fa]/\H bl=some (.lst (zs.map λz=>V.ref z.1))/\(∀ z∈zs,H z.1=some (.lst (z.2.map V.int)))/\H fa=some (.lst (fs.map V.int))/\zs.length<=100/\∀ H',Same H H'->Q (.bl (uB (zs.map (·.2)) fs)) H'
theorem QC:zF ["bad","figures"] ["bad","figures"] (zu uL):={}
theorem XQ {f:Addr} {fd:FuncData} (D:Df K mg "begins_one" uL Ac f fd) (T:Blt mg):FnOk P w K mg base CX0 1 f fd Ac ZD:=by
 refine D.fn.ok QC (λvs H Q E h=>?_) (λcdv A outer s H vs Q E hr h=>?_)
 ·obtain⟨bl,fa,zs,fs,rfl,_⟩:=h;rfl
 ·obtain⟨bl,fa,zs,fs,rfl,hb,hz,hf,hl1,kk⟩:=h
  have HU:=Jy hr
  refine⟨_,(zx (zL (zE (zd8 K rfl) (by rfl) T.n_any boot_any (zc (xK (show CScope (zu uL) _ "stretch" ["bad","figures"] ["figures"] [1] from {}) rfl (Yt K (pv 0)) (λ_ _ _ _=>yJ) (λ_ _ _ _=>(xT (zbf K HU) (wz (Xb K) (pv 0) uW (wF (zE (xQ K) (by rfl) T.n_len PySem.boot_len (zc (pv 1) zg)))) (pv 1) (ye _)))) zg)))),?_⟩
  refine⟨_,rfl,bl,rfl,⟨_,SqL.of hb⟩,xm (K:=K) (a:=bl) (xs:=zs.map λz=>V.ref z.1) (λi ys H4=>ys=((zs.take i).map λz=>decide (z.2.take fs.length=fs)).map V.bl/\Same H H4) ⟨by simp,Same.refl _⟩ (λi ys H4 _ ⟨_,e⟩=>SqL.of (e _ _ hb)) ?_ ?_⟩
  ·rintro j x ys H4 hx ⟨rfl,s4⟩
   rw [List.getElem?_map] at hx
   obtain⟨z,hzj,e⟩:=Option.map_eq_some_iff.mp hx
   subst e
   have hzm:=List.mem_of_getElem? hzj
   refine⟨?_,?_⟩
   ·rw [List.length_map,List.length_map,List.length_take]
    exact Nat.lt_of_le_of_lt (Nat.le_trans (Nat.min_le_right _ _) hl1) (by decide)
   unfold jl
   dsimp only
   rw [if_pos rfl]
   refine⟨_,rfl,_,rfl,fa,_,rfl,.inl (SqL.of (s4 _ _ hf)),_,rfl,z.1,_,rfl,SqL.of (s4 _ _ (hz z hzm)),λp hp=>?_⟩
   rw [List.length_map,qu,<- List.map_take]
   refine⟨_,rfl,xO (z.2.take fs.length),xO fs,TrAt.ints (a:=p) (SqL.of zf),TrAt.ints (a:=fa) (SqL.of (zj hp _ _ (s4 _ _ hf))),(by rw [qd];decide),?_,s4.trans (zj hp)⟩
   rw [List.take_succ,hzj]
   have e2:=jc (z.2.take fs.length) fs
   show _++[V.bl (teq _ _)]=_
   rw [e2]
   simp
  ·rintro ys H4 ⟨rfl,s4⟩ Dd hD
   refine⟨Dd,_,rfl,SqL.of zf,?_⟩
   have q:=kk _ (s4.trans (zj hD (o:=.lst (((zs.take (zs.map λz=>V.ref z.1).length).map λz=>decide (z.2.take fs.length=fs)).map V.bl))))
   rw [List.length_map,List.take_length] at q ⊢
   unfold uB at q
   rw [List.any_map] at q ⊢
   exact q
def zfW (ls:ZA) (fs:List Int) (H H':Hp) (v:V):Prop:=(lacks ls fs=false/\v=.non)\/(lacks ls fs=true/\∃ l,v=.ref l/\H l=none/\H' l=some (.lst ((zO ls fs).map V.int)))
def qm:Sp:=λvs H Q _=>∃ (bl fa:Addr) (zs:ZB) (fs:List Int),vs=[.ref bl,.ref fa]/\H bl=some (.lst (zs.map λz=>V.ref z.1))/\(∀ z∈zs,H z.1=some (.lst (z.2.map V.int)))/\H fa=some (.lst (fs.map V.int))/\zs.length<=100/\fs.length<=1000/\(∀ z∈zs,z.2≠[]/\z.2.length<=1000) /\
 ∀ v H',zfW (zs.map (·.2)) fs H H' v->Same H H'->Q v H'
theorem Z2:zF ["bad","figures","start"] ["bad","figures"] (zu uq):={}
theorem W7 {f f1 f2:Addr} {fd fd1 fd2:FuncData} (D:Df K mg "longest_stand" uq Ac f fd) (xV:Df K mg "lacks_all" vm Ac f1 fd1) (wL:FnOk P w K mg base CX0 2 f1 fd1 Ac tQ)
  (je:Df K mg "begins_one" uL Ac f2 fd2) (T:Blt mg):FnOk P w K mg base CX0 3 f fd Ac qm:=by
 have Vy:FnOk P w K mg base CX0 1 f2 fd2 Ac ZD:=XQ je T
 refine D.fn.ok Z2 (λvs H Q E h=>?_) (λcdv A outer s H vs Q E hr h=>?_)
 ·obtain⟨bl,fa,zs,fs,rfl,_⟩:=h;rfl
 ·obtain⟨bl,fa,zs,fs,rfl,hb,hz,hf,hl1,hl2,ne,kk⟩:=h
  refine⟨_,(zp (xr (uP (wY (zN xV wL (hr.mono (by decide)) (zc (pv 0) (zc (pv 1) zg)))))
    (zx (zL jW))
    yj)
   (zp (yU PassesOwn.never rfl (yg rfl T.n_range (zc (zE (xQ K) (by rfl) T.n_len PySem.boot_len (zc (pv 1) zg)) zg)) (zQ (i:=2) Z2.nd rfl (Or.inl rfl))
    (zx (xr (wY (zN je Vy (hr.mono (by decide)) (zc (pv 0) (zc (wz (Xb K) (pv 1) (wF (pv 2)) uW) zg))))
     (zx (zL (wz (Xb K) (pv 1) (wF (pv 2)) uW)))
     yj)))
   (zx (zL (zZ zg))))),?_⟩
  refine⟨_,rfl,_,rfl,bl,fa,zs,fs,rfl,hb,hz,hf,hl1,hl2,ne,λH1 s1=>⟨_,rfl,?_⟩⟩
  cases hL:lacks (zs.map (·.2)) fs with
  | false=>exact vL (kk _ _ (.inl ⟨hL,rfl⟩) s1)
  | true =>
   refine xX ?_
   refine⟨_,rfl,fa,_,rfl,.inl (SqL.of (s1 _ _ hf)),(((fs.map V.int).length:Nat):Int),rfl,by rw [List.length_map];omega,by rw [List.length_map];omega,yH (lo:=0) (n:=(((fs.map V.int).length:Nat):Int).toNat) (λi Z H2=>∃ v1:Option V,Z=[some (.ref bl),some (.ref fa),v1]/\Same H H2/\∀ k,k<i->uB (zs.map (·.2)) (fs.drop k)=false) ⟨none,rfl,s1,λk hk=>by omega⟩ ?_ ?_⟩
   ·rintro i Z H2 hi ⟨v1,rfl,s2,hno⟩
    have hi':i<fs.length:=by rw [List.length_map] at hi;omega
    refine⟨_,rfl,_,rfl,_,rfl,_,rfl,fa,_,rfl,SqL.of (s2 _ _ hf),λp hp=>?_⟩
    rw [Int.zero_add,Z3,<- List.map_drop]
    have t:=s2.trans (zj hp (o:=.lst ((fs.drop i).map V.int)))
    refine⟨bl,p,zs,fs.drop i,rfl,t _ _ hb,λz hzm=>t _ _ (hz z hzm),zf,hl1,λH3 s3=>⟨_,rfl,?_⟩⟩
    have t3:=t.trans s3
    cases hB:uB (zs.map (·.2)) (fs.drop i) with
    | true =>
     refine vL ⟨_,rfl,_,rfl,_,rfl,fa,_,rfl,SqL.of (t3 _ _ hf),λq hq=>?_⟩
     rw [Z3,<- List.map_drop]
     refine kk _ _ (.inr ⟨hL,q,rfl,t3.free hq,?_⟩) (t3.trans (zj hq))
     rw [zf,zdI (by omega) hno hB]
    | false =>
     refine xX ⟨_,rfl,t3,λk hk=>?_⟩
     by_cases e:k<i
     ·exact hno k e
     ·have:k=i:=by omega
      rw [this];exact hB
   ·rintro Z H2 ⟨v1,rfl,s2,hno⟩
    refine⟨(by decide:0<=sizeLine),λq hq=>kk _ _ (.inr ⟨hL,q,rfl,s2.free hq,?_⟩) (s2.trans (zj hq))⟩
    rw [zf,zbm (λk hk=>hno k (by rw [List.length_map];omega))]
    rfl
end
section
variable {P:Program} {w:World} {K:W.Frag} {mg:Str->Option Value} {base:Heap} {T0:Addr}
def lamP:Pos:=⟨96,29,96,59⟩
def zfv:Scope:=match (xU yx).getLast? with
 | some (.Return (some (.Call _ _ [⟨_,.Lambda _ _ sc _,_⟩] _)) _)=>sc
 | _=>zu yx
theorem zfU:zF ["each"] ["each"] zfv:={}
theorem zdV {H H':Hp} {p:Addr} {o:HO} (s:Same H H') (h:H p=none):Same H (upd H' p o):=λb u e=>by rw [zq (zy e h)];exact s b u e
def SameL (T:Addr) (H H':Hp):Prop:=∀ b u,b≠T->H b=some u->H' b=some u
abbrev LT (T:Addr) (H:Hp):Prop:=Wb T lamP ((("stands_of" : Str)++(".<locals>." : Str))++("<lambda>" : Str)) H
theorem SameL.of {T:Addr} {H H':Hp} (s:Same H H'):SameL T H H':=λb u _ e=>s b u e
theorem SameL.trans {T:Addr} {H H1 H2:Hp} (a:SameL T H H1) (b:SameL T H1 H2):SameL T H H2:=λc u h e=>b c u h (a c u h e)
theorem LT.same {T:Addr} {H H':Hp} (h:LT T H) (s:Same H H'):LT T H':=by
 rcases h with h | ⟨c,h1,h2⟩
 ·exact .inl (s _ _ h)
 ·exact .inr ⟨c,s _ _ h1,s _ _ h2⟩
theorem LT.lst {T:Addr} {H:Hp} (h:LT T H) {b:Addr} {xs:List V} (e:H b=some (.lst xs)):b≠T:=λz=>by
 rw [z] at e
 rcases h with h | ⟨c,h,_⟩
 ·rw [h] at e;cases e
 ·rw [h] at e;cases e
theorem LT.tup {T:Addr} {H:Hp} (h:LT T H) {b:Addr} {xs:List V} (e:H b=some (.tup xs)):b≠T:=λz=>by
 rw [z] at e
 rcases h with h | ⟨c,h,_⟩
 ·rw [h] at e;cases e
 ·rw [h] at e;cases e
theorem LT.none {T:Addr} {H:Hp} (h:LT T H) {b:Addr} (e:H b=none):b≠T:=λz=>by
 rw [z] at e
 rcases h with h | ⟨c,h,_⟩
 ·rw [h] at e;cases e
 ·rw [h] at e;cases e
def YF (T:Addr):Sp:=λvs H Q _=>∃ (bl:Addr) (zs:ZB),vs=[.ref bl]/\H bl=some (.lst (zs.map λz=>V.ref z.1))/\(∀ z∈zs,H z.1=some (.lst (z.2.map V.int)))/\zs.length<=4/\(∀ z∈zs,z.2≠[]/\z.2.length<=4)/\LT T H /\
 ∀ (D:Addr) (ws:ZB) (H':Hp),H D=none->H' D=some (.lst (ws.map λz=>V.ref z.1))->(∀ z∈ws,H z.1=none/\H' z.1=some (.lst (z.2.map V.int))/\z.1≠D)->StandsL (zs.map (·.2)) (ws.map (·.2))->ws.length<=13->SameL T H H'->LT T H'->Q (.ref D) H'
theorem tD:zF ["bad","found","stretch","size","stand"] ["bad"] (zu yx):={}
theorem JH {f f1 c:Addr} {fd fd1:FuncData} (D:Df K mg "stands_of" yx ["bad"] f fd) (hc:fd.code=.ref c) (hcT:W.codeHdIn K c T0=true) (hBM:base.BuiltinsAt mg T0) (hgT:mainGlobals≠T0) (xV:Df K mg "lacks_all" vm Ac f1 fd1) (wL:FnOk P w K mg base CX0 2 f1 fd1 Ac tQ) (T:Blt mg) :
  FnOk P w K mg base CX0 6 f fd ["bad"] (YF T0):=by
 obtain⟨oc,od,kV,doc,pm,an,cdv,ct,osl,rfl,lk,hcd⟩:=D.fn.ex
 obtain rfl:cdv=.ref c:=hc
 refine zfq lk hcd tD (λvs H Q E h=>?_) (λA outer s H vs Q E hr h=>?_)
 ·obtain⟨bl,zs,rfl,_⟩:=h;rfl
 ·obtain⟨bl,zs,rfl,hb,hz,h4,hst,hLT,kk⟩:=h
  have HU:=Jy hr
  have lam_body:∀ (f' c':Addr) (s':Shared) (H':Hp) (z:Addr×List Int),H' z.1=some (.lst (z.2.map V.int))->∃ t,PE (VP CX0 P w K mg base ["each"] ((("stands_of" : Str)++(".<locals>." : Str))++("<lambda>" : Str)) zfv f' (.ref c') (A.deeper (envOfC "stands_of" (zu yx) s.heap.objs.size f (.ref c))).in1.in1 (envOfC "stands_of" (zu yx) s.heap.objs.size f (.ref c) :: outer) s' H' E0)
    (match (xU yx).getLast? with
     | some (.Return (some (.Call _ _ [⟨_,.Lambda _ b _ _,_⟩] _)) _)=>b
     | _=>.Constant .none 0 ⟨0,0,0,0⟩) t /\
    t (start ["each"] [.ref z.1]) H' λv H2=>∃ p,v=.ref p/\H' p=none/\H2=upd H' p (.tup [.int z.2.length,.ref z.1]):=by
   intro f' c' s' H' z hz'
   refine⟨_,(vd (zc (zE (xQ K) (by rfl) T.n_len PySem.boot_len (zc (pv 0) zg)) (zc (pv 0) zg))),?_⟩
   refine⟨_,rfl,z.1,_,rfl,.inl (SqL.of hz'),_,rfl,(by show 2<=sizeLine;decide),λp hp=>⟨p,rfl,hp,?_⟩⟩
   rw [List.length_map]
  refine Exists.elim (?key:∃ t,PSs (VP CX0 P w K mg base ["bad","found","stretch","size","stand"] "stands_of" (zu yx) f (.ref c) A outer s H E).nox (xU yx) t/\t { nx:=λ_ H'=>Q .non H',rt:=Q } (start ["bad","found","stretch","size","stand"] [.ref bl]) H) λt h=>⟨t,h.1.nox,h.2⟩
  refine⟨_,(zp (zB (i:=1) tD.nd rfl (Or.inl rfl) (zZ (zc (zZ zg) zg)))
   (zp (yU PassesOwn.never rfl (Yt K (pv 0)) (zQ (i:=2) tD.nd rfl (Or.inl rfl))
    (zx (yU PassesOwn.never rfl (Vc rfl T.n_range (zc zm (zc (zE (xQ K) (by rfl) T.n_len PySem.boot_len (zc (pv 2) zg)) zg))) (zQ (i:=3) tD.nd rfl (Or.inl rfl))
     (zp (zB (i:=4) tD.nd rfl (Or.inl rfl) (wz (Xb K) (pv 2) uW (wF (pv 3))))
     (zx (xr (PW.pt (zad (ym (zdP K HU) (pv 4) (pv 1) (by with_unfolding_all rfl)) (V8 (wY (zN xV wL (hr.mono (by decide)) (zc (pv 0) (zc (pv 4) zg)))))))
      (zx (xP (Zq PySem.F.plainAttrs_list PySem.F.slot_list_append PySem.F.type_list_append xF (pv 1) (zc (pv 4) zg))))
      yj))))))
   (zx (zL (zbk (k:=1) (pv 1) rfl T.n_sorted (hr.mono (by decide)) rfl rfl rfl hcT hBM hgT zfU (λ_ _ _ _=>rfl) lam_body))))),?_⟩
  have hls:∀ st∈zs.map (·.2),st≠[]/\st.length<=4:=λst h=>by obtain⟨z,hz,rfl⟩:=List.mem_map.mp h;exact hst z hz
  refine⟨(by decide:0<=sizeLine),λe0 he0=>⟨(by show 1<=sizeLine;decide),λfo hfo=>?_⟩⟩
  have hfoH:H fo=none:=(zj he0).free hfo
  have nef:e0≠fo:=λz=>by rw [<- z,zf] at hfo;cases hfo
  let Inv1:ZB->(List Int->Prop)->Hp->Prop:=λws M H2=>H2 fo=some (.lst (ws.map λz=>V.ref z.1))/\(∀ z∈ws,H z.1=none/\H2 z.1=some (.lst (z.2.map V.int))/\z.1≠fo)/\(ws.map (·.2)).Nodup/\(∀ x,x∈ws.map (·.2)↔M x)/\Same H H2
  let M1:Nat->List Int->Prop:=λi x=>x=[]\/∃ z∈zs.take i,∃ k,1<=k/\k<z.2.length/\x=z.2.take k/\lacks (zs.map (·.2)) x=true
  refine⟨_,rfl,bl,rfl,⟨_,SqL.of ((zj he0).trans (zj hfo) _ _ hb)⟩,Z6 (K:=K) (a:=bl) (xs:=zs.map λz=>V.ref z.1) (λi Z H2=>∃ (v2 v3 v4:Option V) (ws:ZB),Z=[some (.ref bl),some (.ref fo),v2,v3,v4]/\Inv1 ws (M1 i) H2/\ws.length<=1+3*i)
   ⟨none,none,none,[(e0,[])],rfl,⟨zf,λz hz'=>?_,by simp,λx=>?_,(zj he0).trans (zj hfo)⟩,by simp⟩ (λi Z H2 _ ⟨_,_,_,_,_,⟨_,_,_,_,e⟩,_⟩=>SqL.of (e _ _ hb)) ?_ ?_⟩
  ·have e:z=(e0,[]):=by simpa using hz'
   subst e
   exact⟨he0,by rw [zq nef,zf];rfl,nef⟩
  ·constructor
   ·intro hx
    exact .inl (by simpa using hx)
   ·rintro (rfl | ⟨z,hz',_⟩)
    ·simp
    ·simp at hz'
  ·rintro i x Z H2 hx ⟨v2,v3,v4,ws,rfl,⟨hF,hW,ndW,hM,sm⟩,hlen⟩
   rw [List.getElem?_map] at hx
   obtain⟨z,hzj,e⟩:=Option.map_eq_some_iff.mp hx
   subst e
   have hzm:=List.mem_of_getElem? hzj
   have hi4:i<zs.length:=(List.getElem?_eq_some_iff.mp hzj).1
   obtain⟨hne,hz4⟩:=hst z hzm
   have hpos:0<z.2.length:=List.length_pos_iff.mpr hne
   refine⟨_,rfl,z.1,_,rfl,.inl (SqL.of (sm _ _ (hz z hzm))),1,_,rfl,?_,?_⟩
   ·rw [List.length_map];omega
   rw [List.length_map]
   refine yH (lo:=1) (n:=((z.2.length:Int)-1).toNat) (λj Z H3=>∃ (v3 v4:Option V) (ws:ZB),Z=[some (.ref bl),some (.ref fo),some (.ref z.1),v3,v4]/\Inv1 ws (λx=>M1 i x\/∃ k,1<=k/\k<=j/\x=z.2.take k/\lacks (zs.map (·.2)) x=true) H3/\ws.length<=1+3*i+j)
    ⟨_,_,ws,rfl,⟨hF,hW,ndW,λx=>?_,sm⟩,hlen⟩ ?_ ?_
   ·rw [hM]
    constructor
    ·exact .inl
    ·rintro (h | ⟨k,h1,h2,_⟩)
     ·exact h
     ·omega
   ·rintro j Z H3 hj ⟨v3,v4,ws,rfl,⟨hF,hW,ndW,hM,sm⟩,hlen⟩
    have hj':j+1<z.2.length:=by omega
    refine⟨_,rfl,_,rfl,_,rfl,z.1,_,rfl,SqL.of (sm _ _ (hz z hzm)),λp hp=>?_⟩
    rw [show (1:Int)+(j:Int)=((j+1:Nat):Int) by omega,qu,<- List.map_take]
    have sm2:=sm.trans (zj hp (o:=.lst ((z.2.take (j+1)).map V.int)))
    have hF2:(upd H3 p (.lst ((z.2.take (j+1)).map V.int))) fo=some (.lst (ws.map λz=>V.ref z.1)):=zj hp _ _ hF
    have hW2:∀ y∈ws,H y.1=none/\(upd H3 p (.lst ((z.2.take (j+1)).map V.int))) y.1=some (.lst (y.2.map V.int))/\y.1≠fo:=λy hy=>⟨(hW y hy).1,zj hp _ _ (hW y hy).2.1,(hW y hy).2.2⟩
    have npf:p≠fo:=λy=>by rw [y,hF] at hp;cases hp
    have hpH:H p=none:=sm.free hp
    generalize hx:z.2.take (j+1)=x at *
    have hxl:x.length<=4:=by rw [<- hx,List.length_take];omega
    have stay:(x∈ws.map (·.2)\/lacks (zs.map (·.2)) x=false)->∀ y,y∈ws.map (·.2)↔(M1 i y\/∃ k,1<=k/\k<=j+1/\y=z.2.take k/\lacks (zs.map (·.2)) y=true):=λhor y=>by
     constructor
     ·intro hy
      rcases (hM y).mp hy with h | ⟨k,h1,h2,h3⟩
      ·exact .inl h
      ·exact .inr ⟨k,h1,by omega,h3⟩
     ·rintro (h | ⟨k,h1,h2,h3,h4⟩)
      ·exact (hM y).mpr (.inl h)
      ·by_cases hk:k<=j
       ·exact (hM y).mpr (.inr ⟨k,h1,hk,h3,h4⟩)
       ·have:k=j+1:=by omega
        rw [this,hx] at h3
        rw [h3] at h4 ⊢
        rcases hor with h | h
        ·exact h
        ·rw [h] at h4;cases h4
    refine⟨_,rfl,_,rfl,fo,_,(ws.map (·.2)).map xO,xO x,rfl,SqL.of hF2,TrsAt.lists (λy hy=>(hW2 y hy).2.1),TrAt.ints (a:=p) (SqL.of zf),Nat.le_trans (Zf _) (by decide),_,rfl,?_⟩
    rw [if_pos rfl,zc7]
    by_cases hin:x∈ws.map (·.2)
    ·rw [decide_eq_true hin]
     refine xX ?_
     exact xX ⟨_,_,ws,rfl,⟨hF2,hW2,ndW,stay (.inl hin),sm2⟩,by omega⟩
    ·rw [decide_eq_false hin]
     refine vL ?_
     refine⟨_,rfl,_,rfl,bl,p,zs,x,rfl,sm2 _ _ hb,λy hy=>sm2 _ _ (hz y hy),zf,by omega,by omega,λy hy=>⟨(hst y hy).1,Nat.le_trans (hst y hy).2 (by decide)⟩,λH4 s4=>⟨_,rfl,?_⟩⟩
     have sm4:=sm2.trans s4
     have hF4:=s4 _ _ hF2
     have hW4:∀ y∈ws,H y.1=none/\H4 y.1=some (.lst (y.2.map V.int))/\y.1≠fo:=λy hy=>⟨(hW2 y hy).1,s4 _ _ (hW2 y hy).2.1,(hW2 y hy).2.2⟩
     have hp4:=s4 _ _ (zf (H:=H3) (a:=p) (o:=.lst (x.map V.int)))
     cases hLk:lacks (zs.map (·.2)) x with
     | false=>exact xX ⟨_,_,ws,rfl,⟨hF4,hW4,ndW,stay (.inr hLk),sm4⟩,by omega⟩
     | true =>
      refine vL ⟨_,rfl,.inl ⟨rfl,_,SqL.of hF4⟩,_,rfl,fo,_,_,rfl,rfl,hF4,by rw [List.length_map];exact Nat.lt_of_le_of_lt (show ws.length<=100 by omega) (by decide),?_⟩
      refine⟨_,_,ws++[(p,x)],rfl,⟨by rw [zf,List.map_append];rfl,λy hy=>?_,?_,λy=>?_,zdV sm4 hfoH⟩,by rw [List.length_append,List.length_singleton];omega⟩
      ·rcases List.mem_append.mp hy with hy | hy
       ·obtain⟨a1,a2,a3⟩:=hW4 y hy
        exact⟨a1,by rw [zq a3];exact a2,a3⟩
       ·rw [List.mem_singleton.mp hy]
        exact⟨hpH,by rw [zq npf];exact hp4,npf⟩
      ·rw [List.map_append]
       refine List.nodup_append.mpr ⟨ndW,by simp,λa ha b hb'=>?_⟩
       have e:b=x:=by simpa using hb'
       rw [e]
       exact λq=>hin (q▸ha)
      ·rw [List.map_append,List.mem_append]
       constructor
       ·rintro (h | h)
        ·rcases (hM y).mp h with h | ⟨k,h1,h2,h3⟩
         ·exact .inl h
         ·exact .inr ⟨k,h1,by omega,h3⟩
        ·have e:y=x:=by simpa using h
         rw [e]
         exact .inr ⟨j+1,by omega,Nat.le_refl _,hx.symm,hLk⟩
       ·rintro (h | ⟨k,h1,h2,h3,h4⟩)
        ·exact .inl ((hM y).mpr (.inl h))
        ·by_cases hk:k<=j
         ·exact .inl ((hM y).mpr (.inr ⟨k,h1,hk,h3,h4⟩))
         ·have:k=j+1:=by omega
          rw [this,hx] at h3
          exact .inr (by simp [h3])
   ·rintro Z H3 ⟨v3,v4,ws,rfl,⟨hF,hW,ndW,hM,sm⟩,hlen⟩
    refine⟨_,_,_,ws,rfl,⟨hF,hW,ndW,λx=>?_,sm⟩,by omega⟩
    rw [hM]
    constructor
    ·rintro ((h | ⟨y,hy,h⟩) | ⟨k,h1,h2,h3⟩)
     ·exact .inl h
     ·exact .inr ⟨y,by rw [List.take_succ];exact List.mem_append_left _ hy,h⟩
     ·exact .inr ⟨z,by rw [List.take_succ,hzj];simp,k,h1,by omega,h3⟩
    ·rintro (h | ⟨y,hy,k,h1,h2,h3⟩)
     ·exact .inl (.inl h)
     ·rw [List.take_succ,hzj] at hy
      rcases List.mem_append.mp hy with hy | hy
      ·exact .inl (.inr ⟨y,hy,k,h1,h2,h3⟩)
      ·have e:y=z:=by simpa using hy
       rw [e] at h2 h3
       exact .inr ⟨k,h1,by omega,h3⟩
  ·rintro Z H2 ⟨v2,v3,v4,ws,rfl,⟨hF,hW,ndW,hM,sm⟩,hlen⟩
   rw [List.length_map] at hM hlen
   refine⟨_,rfl,fo,ws,rfl,hF,λz hz'=>(hW z hz').2.1,ndW,by omega,hLT.same sm,λD ws' H3 hD hD3 up lt pm pw=>?_⟩
   have lt2:=hLT.same sm
   have inw:∀ z∈ws',z∈ws:=λz hz'=>pm.mem_iff.mp hz'
   refine kk D ws' _ (sm.free hD) zf (λz hz'=>?_) ⟨λx=>?_,by rw [List.pairwise_map];exact pw⟩ (by rw [pm.length_eq];omega) (λb u hb' e=>?_) ?_
   ·obtain⟨a1,a2,a3⟩:=hW z (inw z hz')
    have n1:z.1≠D:=zy a2 hD
    exact⟨a1,by rw [zq n1];exact up _ _ (lt2.lst a2) a2,n1⟩
   ·have e:x∈ws'.map (·.2)↔x∈ws.map (·.2):=(pm.map (·.2)).mem_iff
    rw [e,hM]
    show (x=[]\/_)↔(x=[]\/_)
    constructor
    ·rintro (h | ⟨z,hz',k,h1,h2,h3,h4⟩)
     ·exact .inl h
     ·rw [List.take_length] at hz'
      exact .inr ⟨z.2,List.mem_map.mpr ⟨z,hz',rfl⟩,k,h1,h2,h3,h4⟩
    ·rintro (h | ⟨st,hst',k,h1,h2,h3,h4⟩)
     ·exact .inl h
     ·obtain⟨z,hz',rfl⟩:=List.mem_map.mp hst'
      exact .inr ⟨z,by rw [List.take_length];exact hz',k,h1,h2,h3,h4⟩
   ·have q:=up b u hb' (sm _ _ e)
    rw [zq (zy q hD3)];exact q
   ·exact LT.same (show LT T0 H3 from lt) (zj hD3)
def plc (ls ws:ZA) (fs:List Int):V:=if lacks ls fs=true then .int ((ws.idxOf (zO ls fs):Nat):Int) else .non
theorem YJ {x:List Int}:∀ {xs:ZA} {m:Nat},m<xs.idxOf x->∀ h:m<xs.length,xs[m]≠x
 | [],m,h,h'=>by simp at h'
 | y :: ys,m,h,h'=>by
  rw [List.idxOf_cons] at h
  by_cases e:y=x
  ·subst e;simp at h
  ·have e':(y == x)=false:=by simpa using e
   rw [e'] at h
   cases m with
   | zero=>simpa using e
   | succ m=>simpa using YJ (x:=x) (xs:=ys) (m:=m) (by simpa using h) (by simpa using h')
def jr:Sp:=λvs H Q _=>∃ (bl Dd fa:Addr) (zs ws:ZB) (fs:List Int),vs=[.ref bl,.ref Dd,.ref fa]/\H bl=some (.lst (zs.map λz=>V.ref z.1))/\(∀ z∈zs,H z.1=some (.lst (z.2.map V.int)))/\H Dd=some (.lst (ws.map λz=>V.ref z.1))/\(∀ z∈ws,H z.1=some (.lst (z.2.map V.int)))/\H fa=some (.lst (fs.map V.int))/\zs.length<=4/\ws.length<=13/\fs.length<=1000/\(∀ z∈zs,z.2≠[]/\z.2.length<=4) /\
 (lacks (zs.map (·.2)) fs=true->zO (zs.map (·.2)) fs∈ws.map (·.2))/\∀ H',Same H H'->Q (plc (zs.map (·.2)) (ws.map (·.2)) fs) H'
theorem YL:zF ["bad","stands","figures","stand"] ["bad","stands","figures"] (zu u9):={}
theorem V0 {f f1:Addr} {fd fd1:FuncData} (D:Df K mg "place_behind" u9 Ay f fd) (tL:Df K mg "longest_stand" uq Ac f1 fd1) (jP:FnOk P w K mg base CX0 3 f1 fd1 Ac qm):FnOk P w K mg base CX0 4 f fd Ay jr:=by
 refine D.fn.ok YL (λvs H Q E h=>?_) (λcdv A outer s H vs Q E hr h=>?_)
 ·obtain⟨bl,Dd,fa,zs,ws,fs,rfl,_⟩:=h;rfl
 ·obtain⟨bl,Dd,fa,zs,ws,fs,rfl,hb,hz,hD,hw,hf,h4,h13,hl,hst,hin,kk⟩:=h
  have HU:=Jy hr
  refine⟨_,(zp (zB (i:=3) YL.nd rfl (Or.inl rfl) (zN tL jP (hr.mono (by decide)) (zc (pv 0) (zc (pv 2) zg))))
   (zp (xr (ym zdy (pv 3) jW (ye _))
    (zx (zL jW))
    yj)
   (zx (zL (Zq PySem.F.plainAttrs_list PySem.F.slot_list_index PySem.F.type_list_index (zel K HU) (pv 1) (zc (pv 3) zg)))))),?_⟩
  refine⟨_,rfl,_,rfl,bl,fa,zs,fs,rfl,hb,hz,hf,by omega,hl,λz hz=>⟨(hst z hz).1,Nat.le_trans (hst z hz).2 (by decide)⟩,λv H1 sv s1=>?_⟩
  have q:=kk H1 s1
  unfold plc at q
  rcases sv with ⟨hL,rfl⟩ | ⟨hL,l,rfl,hn,hv⟩
  ·rw [hL,if_neg (by decide)] at q
   exact⟨_,rfl,rfl,_,rfl,vL q⟩
  ·rw [if_pos hL] at q
   have hm:=hin hL
   have hlt:=List.idxOf_lt_length_iff.mpr hm
   refine⟨_,rfl,rfl,_,rfl,xX ?_⟩
   refine⟨_,rfl,.inl ⟨rfl,_,SqL.of (s1 _ _ hD)⟩,_,rfl,Dd,_,_,(ws.map (·.2)).map xO,xO (zO (zs.map (·.2)) fs),(ws.map (·.2)).idxOf (zO (zs.map (·.2)) fs),rfl,rfl,SqL.of (s1 _ _ hD),TrsAt.lists (λz hz=>s1 _ _ (hw z hz)),TrAt.ints (a:=l) (SqL.of hv),Nat.le_trans (Zf _) (by decide),by rw [List.length_map];exact hlt,?_,?_,q⟩
   ·intro t ht
    rw [List.getElem?_map,List.getElem?_eq_getElem hlt,Option.map_some] at ht
    rw [<- Option.some.inj ht,List.getElem_idxOf hlt,jc,decide_eq_true rfl]
   ·intro m t hm' ht
    rw [List.getElem?_map,List.getElem?_eq_getElem (Nat.lt_trans hm' hlt),Option.map_some] at ht
    rw [<- Option.some.inj ht,jc,decide_eq_false]
    intro e
    have q3:=YJ hm' (Nat.lt_trans hm' hlt)
    exact q3 e
def VL (ls ws:ZA) (b:Nat) (x:List Int):List V:=(List.range b).map λ(c:Nat)=>plc ls ws (x++[(c:Int)])
def Zx:Sp:=λvs H Q _=>∃ (r:Addr) (b:Nat) (bl:Addr) (zs:ZB) (Dd:Addr) (ws:ZB) (sa:Addr) (xs:List Int),vs=[.ref r,.ref Dd,.ref sa]/\RuleAt H r b bl zs/\yC b (zs.map (·.2))/\H Dd=some (.lst (ws.map λz=>V.ref z.1))/\(∀ z∈ws,H z.1=some (.lst (z.2.map V.int)))/\StandsL (zs.map (·.2)) (ws.map (·.2))/\ws.length<=13/\H sa=some (.lst (xs.map V.int))/\xs.length<=100 /\
 ∀ p H',H p=none->Same H H'->H' p=some (.lst (VL (zs.map (·.2)) (ws.map (·.2)) b xs))->Q (.ref p) H'
theorem QB:zF ["rule","stands","stand"] ["rule","stands","stand"] (zu uU):={}
theorem QR {f f1:Addr} {fd fd1:FuncData} (D:Df K mg "steps_from" uU At f fd) (qI:Df K mg "place_behind" u9 Ay f1 fd1) (ZF:FnOk P w K mg base CX0 4 f1 fd1 Ay jr) (T:Blt mg):FnOk P w K mg base CX0 5 f fd At Zx:=by
 refine D.fn.ok QB (λvs H Q E h=>?_) (λcdv A outer s H vs Q E hr h=>?_)
 ·obtain⟨r,b,bl,zs,Dd,ws,sa,xs,rfl,_⟩:=h;rfl
 ·obtain⟨r,b,bl,zs,Dd,ws,sa,xs,rfl,R,g,hD,hw,SL,h13,hs,hl,kk⟩:=h
  have h4:zs.length<=4:=by have:=g.len;rwa [List.length_map] at this
  have ne:∀ l∈zs.map (·.2),l≠[]:=λl hl=>(g.st l hl).ne
  refine⟨_,(zx (zL (xK (show CScope (zu uU) _ "figure" ["rule","stands","stand"] ["stands","rule","stand"] [1,0,2] from {}) rfl (yg rfl T.n_range (zc (zP (wB K) (pv 0) zm (λ_ _=>rfl)) zg)) (λ_ _ _ _=>yJ) (λ_ _ _ _=>(zN qI ZF (hr.mono (by decide)) (zc (zP (wB K) (pv 2) zm (λ_ _=>rfl)) (zc (pv 1) (zc (zA We (pv 3) (zZ (zc (pv 0) zg))) zg)))))))),?_⟩
  have b16:=g.b16
  refine⟨_,rfl,r,_,_,V.int b,rfl,rfl,SqT.of R.tu,rfl,(b:Int),rfl,by omega,by omega,wK (lo:=0) (n:=(b:Int).toNat) (λi ys H4=>ys=VL (zs.map (·.2)) (ws.map (·.2)) i xs/\Same H H4) ⟨rfl,Same.refl _⟩ ?_ ?_⟩
  ·rintro i ys H4 hi ⟨rfl,s4⟩
   have hi':i<b:=by omega
   refine⟨?_,?_⟩
   ·unfold VL
    rw [List.length_map,List.length_range]
    exact Nat.lt_of_lt_of_le (show i<16 by omega) (by decide)
   unfold jl
   dsimp only
   rw [if_pos rfl]
   have R4:=R.same s4
   have hs4:=s4 _ _ hs
   refine⟨_,rfl,r,_,_,V.ref bl,rfl,rfl,SqT.of R4.tu,rfl,_,rfl,_,rfl,_,rfl,(by show 1<=sizeLine;decide),λp1 q1=>?_⟩
   have n1:sa≠p1:=zy hs4 q1
   refine⟨sa,p1,_,_,rfl,rfl,by rw [zq n1];exact hs4,zf,by rw [List.length_map];exact Nat.le_trans (show xs.length+1<=101 by omega) (by decide),λp2 q2=>?_⟩
   have t2:=s4.trans ((zj q1 (o:=.lst [V.int (0+(i:Int))])).trans (zj q2 (o:=.lst (xs.map V.int++[V.int (0+(i:Int))]))))
   have R5:=R.same t2
   refine⟨bl,Dd,p2,zs,ws,xs++[0+(i:Int)],rfl,R5.li,R5.st,t2 _ _ hD,λz hz=>t2 _ _ (hw z hz),by rw [zf,List.map_append];rfl,h4,h13,by rw [List.length_append,List.length_singleton];omega,λz hz=>⟨(g.st _ (List.mem_map.mpr ⟨z,hz,rfl⟩)).ne,(g.st _ (List.mem_map.mpr ⟨z,hz,rfl⟩)).len⟩,λh=>(SL.mem _).mpr (j7 ne h),λH5 s5=>⟨?_,t2.trans s5⟩⟩
   unfold VL
   rw [List.range_succ,List.map_append,Int.zero_add]
   rfl
  ·rintro ys H4 ⟨rfl,s4⟩ p hp
   refine kk p _ (s4.free hp) (s4.trans (zj hp)) ?_
   rw [zf,Int.toNat_natCast]
def Z8 (ls ws:ZA) (b:Nat):List (List V):=ws.map (VL ls ws b)++[V.int (ws.length:Nat) :: (VL ls ws b []).drop 1]
def Yn:Sp:=λvs H Q _=>∃ (r:Addr) (b:Nat) (bl:Addr) (zs:ZB) (Dd:Addr) (ws:ZB),vs=[.ref r,.ref Dd]/\RuleAt H r b bl zs/\yC b (zs.map (·.2))/\H Dd=some (.lst (ws.map λz=>V.ref z.1))/\(∀ z∈ws,H z.1=some (.lst (z.2.map V.int)))/\StandsL (zs.map (·.2)) (ws.map (·.2))/\ws.length<=13 /\
 ∀ (p:Addr) (rs:List (Addr×List V)) (H':Hp),H p=none->Same H H'->H' p=some (.lst (rs.map λz=>V.ref z.1))->(∀ z∈rs,H z.1=none/\H' z.1=some (.lst z.2))->rs.map (·.2)=Z8 (zs.map (·.2)) (ws.map (·.2)) b->Q (.ref p) H'
theorem W2:zF ["rule","stands","steps"] ["rule","stands"] (zu jd):={}
theorem J2 {f f1:Addr} {fd fd1:FuncData} (D:Df K mg "all_steps" jd Az f fd) (Zr:Df K mg "steps_from" uU At f1 fd1) (Xa:FnOk P w K mg base CX0 5 f1 fd1 At Zx) (T:Blt mg):FnOk P w K mg base CX0 6 f fd Az Yn:=by
 refine D.fn.ok W2 (λvs H Q E h=>?_) (λcdv A outer s H vs Q E hr h=>?_)
 ·obtain⟨r,b,bl,zs,Dd,ws,rfl,_⟩:=h;rfl
 ·obtain⟨r,b,bl,zs,Dd,ws,rfl,R,g,hD,hw,SL,h13,kk⟩:=h
  have l3:∀ z∈ws,z.2.length<=3:=λz hz=>zaz (λst h=>(g.st st h).len) ((SL.mem _).mp (List.mem_map.mpr ⟨z,hz,rfl⟩))
  obtain⟨w1,hw1⟩:=SL.first
  refine⟨_,(zp (qw (i:=2) (show CScope (zu jd) _ "stand" ["rule","stands","steps"] ["rule","stands"] [0,1] from {}) rfl W2.nd rfl (Or.inl rfl) (Yt K (pv 1)) (λ_ _ _ _=>yJ) (λ_ _ _ _=>(zN Zr Xa (hr.mono (by decide)) (zc (pv 1) (zc (pv 2) (zc (pv 0) zg))))))
   (zx (zL (zA We (pv 2) (zZ (zc (zA We (zZ (zc (zE (xQ K) (by rfl) T.n_len PySem.boot_len (zc (pv 1) zg)) zg)) (wz (Xb K) (zP (yo K) (pv 2) zm (λ_ _=>rfl)) (wF zm) uW)) zg)))))),?_⟩
  refine⟨_,rfl,Dd,rfl,⟨_,SqL.of hD⟩,xm (K:=K) (a:=Dd) (xs:=ws.map λz=>V.ref z.1) (λi ys H4=>∃ rs:List (Addr×List V),ys=(rs.map λz=>V.ref z.1)/\(∀ z∈rs,H z.1=none/\H4 z.1=some (.lst z.2))/\rs.map (·.2)=(ws.take i).map (λz=>VL (zs.map (·.2)) (ws.map (·.2)) b z.2)/\Same H H4) ⟨[],rfl,λz hz=>(by cases hz),rfl,Same.refl _⟩ (λi ys H4 _ ⟨_,_,_,_,e⟩=>SqL.of (e _ _ hD)) ?_ ?_⟩
  ·rintro j x ys H4 hx ⟨rs,rfl,hrs,hr2,s4⟩
   rw [List.getElem?_map] at hx
   obtain⟨z,hzj,e⟩:=Option.map_eq_some_iff.mp hx
   subst e
   have hzm:=List.mem_of_getElem? hzj
   refine⟨?_,?_⟩
   ·have e1:=congrArg List.length hr2
    rw [List.length_map,List.length_map,List.length_take] at e1
    rw [List.length_map,e1]
    exact Nat.lt_of_le_of_lt (Nat.le_trans (Nat.min_le_right _ _) h13) (by decide)
   unfold jl
   dsimp only
   rw [if_pos rfl]
   refine⟨_,rfl,_,rfl,_,rfl,r,b,bl,zs,Dd,ws,z.1,z.2,rfl,R.same s4,g,s4 _ _ hD,λz hz=>s4 _ _ (hw z hz),SL,h13,s4 _ _ (hw z hzm),Nat.le_trans (l3 z hzm) (by decide),λp H5 hp s5 hv=>?_⟩
   refine⟨rs++[(p,VL (zs.map (·.2)) (ws.map (·.2)) b z.2)],by simp,λy hy=>?_,?_,s4.trans s5⟩
   ·rcases List.mem_append.mp hy with h | h
    ·exact⟨(hrs y h).1,s5 _ _ (hrs y h).2⟩
    ·rw [List.mem_singleton] at h
     subst h
     exact⟨s4.free hp,hv⟩
   ·rw [List.map_append,hr2,List.take_succ,hzj]
    simp
  ·rintro ys H4 ⟨rs,rfl,hrs,hr2,s4⟩ p hp
   have hl2:=congrArg List.length hr2
   rw [List.length_map,List.take_length] at hr2
   rw [List.length_map,List.length_map,List.length_take,List.length_map,Nat.min_self] at hl2
   obtain⟨w0,ws',rfl⟩:∃ w0 ws',ws=w0 :: ws':=by
    cases ws with
    | nil=>simp at hw1
    | cons a b=>exact⟨a,b,rfl⟩
   have hw0:w0.2=[]:=by
    rw [List.map_cons] at hw1
    exact (List.cons.inj hw1).1
   obtain⟨r0,rs',rfl⟩:∃ r0 rs',rs=r0 :: rs':=by
    cases rs with
    | nil=>simp at hl2
    | cons a b=>exact⟨a,b,rfl⟩
   have hr0:r0.2=VL (zs.map (·.2)) ((w0 :: ws').map (·.2)) b []:=by
    have e:=(List.cons.inj hr2).1
    rw [<- hw0]
    exact e
   have t4:=s4.trans (zj hp (o:=.lst ((r0 :: rs').map λz=>V.ref z.1)))
   have hr04:∀ z∈r0 :: rs',upd H4 p (.lst ((r0 :: rs').map λz=>V.ref z.1)) z.1=some (.lst z.2):=λz hz=>zj hp _ _ (hrs z hz).2
   refine⟨_,rfl,_,rfl,Dd,_,rfl,.inl (SqL.of (t4 _ _ hD)),(by show 1<=sizeLine;decide),λp1 q1=>?_⟩
   have u1:=zj q1 (o:=.lst [V.int (((w0 :: ws').map λz=>V.ref z.1).length:Nat)])
   refine⟨_,rfl,p,_,_,V.ref r0.1,rfl,rfl,SqL.of (u1 _ _ zf),yI (j:=0) rfl,_,rfl,r0.1,_,rfl,SqL.of (u1 _ _ (hr04 r0 List.mem_cons_self)),λp2 q2=>?_⟩
   have hb1:r0.2.length<=16:=by
    rw [hr0]
    unfold VL
    rw [List.length_map,List.length_range]
    exact g.b16
   have u2:=u1.trans (zj q2 (o:=.lst (uV r0.2 (some 1) none)))
   refine⟨p1,p2,_,_,rfl,rfl,zj q2 _ _ zf,zf,?_,λp3 q3=>?_⟩
   ·rw [show (1:Int)=((1:Nat):Int) from rfl,Z3,List.length_drop,List.length_singleton]
    exact Nat.le_trans (show 1+(r0.2.length-1)<=100 by omega) (by decide)
   have ev:([V.int (((w0 :: ws').map λz=>V.ref z.1).length:Nat)]++uV r0.2 (some 1) none)=V.int (((w0 :: ws').map (·.2)).length:Nat) :: (VL (zs.map (·.2)) ((w0 :: ws').map (·.2)) b []).drop 1:=by
    rw [show (1:Int)=((1:Nat):Int) from rfl,Z3,hr0,List.length_map,List.length_map]
    rfl
   have u3:=u2.trans (zj q3 (o:=.lst ([V.int (((w0 :: ws').map λz=>V.ref z.1).length:Nat)]++uV r0.2 (some 1) none)))
   refine⟨(by show 1<=sizeLine;decide),λp4 q4=>?_⟩
   have u4:=u3.trans (zj q4 (o:=.lst [V.ref p3]))
   refine⟨p,p4,_,_,rfl,rfl,u4 _ _ zf,zf,?_,λp5 q5=>?_⟩
   ·rw [List.length_map,List.length_singleton]
    exact Nat.le_trans (show (r0 :: rs').length+1<=100 by omega) (by decide)
   have u5:=u4.trans (zj q5 (o:=.lst ((r0 :: rs').map (λz=>V.ref z.1)++[V.ref p3])))
   refine kk p5 (r0 :: rs'++[(p3,[V.int (((w0 :: ws').map λz=>V.ref z.1).length:Nat)]++uV r0.2 (some 1) none)]) _ (t4.free (u4.free q5)) (t4.trans u5) ?_ ?_ ?_
   ·rw [zf,List.map_append]
    rfl
   ·intro z hz
    rcases List.mem_append.mp hz with h | h
    ·exact⟨(hrs z h).1,u5 _ _ (hr04 z h)⟩
    ·rw [List.mem_singleton] at h
     subst h
     exact⟨t4.free (u2.free q3),zj q5 _ _ (zj q4 _ _ zf)⟩
   ·rw [List.map_append,hr2,ev]
    unfold Z8
    rw [List.map_map]
    rfl
end
structure ClT (K:W.Frag) (mg:Str->Option Value) (C:Addr):Prop where
 cl:Cls K C
 nm:mg "Tails" = some (.ref C)
 n_base:NoAttr K C "base"
 n_outset:NoAttr K C "outset"
 n_steps:NoAttr K C "steps"
 n_layers:NoAttr K C "layers"
def Xw (b n:Nat) (sa la:Addr):List (Str×V):=yr "layers" (.ref la) (yr "steps" (.ref sa) (yr "outset" (.int n) (yr "base" (.int b) [])))
theorem Q6 (b n:Nat) (sa la:Addr):(Xw b n sa la).lookup ("base" : Str)=some (.int b):=by
 unfold Xw
 rw [zM,if_neg (by decide +kernel),zM,if_neg (by decide +kernel),zM,if_neg (by decide +kernel),zM,if_pos rfl]
theorem uC (b n:Nat) (sa la:Addr):(Xw b n sa la).lookup ("outset" : Str)=some (.int n):=by
 unfold Xw
 rw [zM,if_neg (by decide +kernel),zM,if_neg (by decide +kernel),zM,if_pos rfl]
theorem tX (b n:Nat) (sa la:Addr):(Xw b n sa la).lookup ("steps" : Str)=some (.ref sa):=by
 unfold Xw
 rw [zM,if_neg (by decide +kernel),zM,if_pos rfl]
theorem Zc (b n:Nat) (sa la:Addr):(Xw b n sa la).lookup ("layers" : Str)=some (.ref la):=by
 unfold Xw
 rw [zM,if_pos rfl]
theorem V1 (b n:Nat) (sa la:Addr) {m:Str} (h1:¬ m = "layers":=by decide +kernel) (h2:¬ m = "steps":=by decide +kernel) (h3:¬ m = "outset":=by decide +kernel) (h4:¬ m = "base":=by decide +kernel):(Xw b n sa la).lookup m=none:=by
 unfold Xw
 rw [zM,if_neg h1,zM,if_neg h2,zM,if_neg h3,zM,if_neg h4]
 rfl
def xf (ls ws:ZA) (b t:Nat):List Int:=(ws.map λx=>((cnt ls b t x:Nat):Int))++[((ug ls b t:Nat):Int)]
def stepV (ls ws:ZA):Option (List Int)->Nat->V
 | some x,c=>plc ls ws (x++[(c:Int)])
 | none,c=>if c=0 then .int (ws.length:Nat) else plc ls ws [(c:Int)]
theorem zbj (ls ws:ZA) (x:List Int) (c:Nat):stepV ls ws (some x) c=plc ls ws (x++[(c:Int)]):=rfl
theorem vg (ls ws:ZA) (c:Nat):stepV ls ws none c=if c=0 then .int (ws.length:Nat) else plc ls ws [(c:Int)]:=rfl
theorem Ws (ls:ZA) (b t:Nat) (x:List Int) (c:Nat):tV ls b t (some x) c=if lacks ls (x++[(c:Int)])=true then cnt ls b t (zO ls (x++[(c:Int)])) else 0:=rfl
theorem qC (ls:ZA) (b t:Nat) (c:Nat):tV ls b t none c=if c=0 then ug ls b t else if lacks ls [(c:Int)]=true then cnt ls b t (zO ls [(c:Int)]) else 0:=rfl
theorem Ym {ls ws:ZA} {b i:Nat} (hb:1<=b) (hi:i<=ws.length):(Z8 ls ws b)[i]?=some ((List.range b).map (stepV ls ws ws[i]?)):=by
 unfold Z8
 by_cases h:i<ws.length
 ·rw [List.getElem?_append_left (by rw [List.length_map];exact h),List.getElem?_map,List.getElem?_eq_getElem h]
  rfl
 ·have e:i=ws.length:=by omega
  subst e
  rw [List.getElem?_append_right (by rw [List.length_map];exact Nat.le_refl _),List.length_map,Nat.sub_self,List.getElem?_eq_none (Nat.le_refl _)]
  show some _=some _
  congr 1
  obtain⟨k,rfl⟩:∃ k,b=k+1:=⟨b-1,by omega⟩
  unfold VL
  rw [List.range_succ_eq_map,List.map_cons,List.map_cons,List.drop_succ_cons,List.drop_zero]
  rw [List.map_map,List.map_map]
  rfl
structure TailsAt (C:Addr) (H:Hp) (p la:Addr) (b:Nat) (ls ws:ZA) (L:Nat):Prop where
 ob:∃ (dx sa:Addr) (srs:List (Addr×List V)),aw [la] H p=some (.ins C dx (Xw b ws.length sa la))/\aw [la] H sa=some (.lst (srs.map λz=>V.ref z.1))/\(∀ z∈srs,aw [la] H z.1=some (.lst z.2))/\srs.map (·.2)=Z8 ls ws b
 ly:∃ lrs:ZB,H la=some (.lst (lrs.map λz=>V.ref z.1))/\(∀ z∈lrs,aw [la] H z.1=some (.lst (z.2.map V.int)))/\lrs.map (·.2)=(List.range L).map (xf ls ws b)
 l1:1<=L
structure GoodT (b:Nat) (ls ws:ZA):Prop where
 g:yC b ls
 s:StandsL ls ws
 h13:ws.length<=13
theorem GoodT.ne {b:Nat} {ls ws:ZA} (G:GoodT b ls ws):∀ l∈ls,l≠[]:=λl hl=>(G.g.st l hl).ne
theorem TailsAt.same {C p la b:Nat} {H H':Hp} {ls ws:ZA} {L:Nat} (A:TailsAt C H p la b ls ws L) (m:Same H H'):TailsAt C H' p la b ls ws L:=by
 obtain⟨dx,sa,srs,h1,h2,h3,h4⟩:=A.ob
 obtain⟨lrs,g1,g2,g3⟩:=A.ly
 have m':=m.aw [la]
 exact⟨⟨dx,sa,srs,m' _ _ h1,m' _ _ h2,λz hz=>m' _ _ (h3 z hz),h4⟩,⟨lrs,m _ _ g1,λz hz=>m' _ _ (g2 z hz),g3⟩,A.l1⟩
theorem Vq {ls ws:ZA} {b t:Nat} (G:GoodT b ls ws) {i c:Nat} (hi:i<=ws.length) :
  (stepV ls ws ws[i]? c=.non/\tV ls b t ws[i]? c=0)\/∃ j:Nat,stepV ls ws ws[i]? c=.int j/\j<=ws.length/\(xf ls ws b t)[j]?=some ((tV ls b t ws[i]? c:Nat):Int):=by
 have at_:∀ fs:List Int,lacks ls fs=true->∃ j:Nat,plc ls ws fs=.int j/\j<=ws.length/\(xf ls ws b t)[j]?=some ((cnt ls b t (zO ls fs):Nat):Int):=by
  intro fs h
  have hm:zO ls fs∈ws:=(G.s.mem _).mpr (j7 G.ne h)
  have hlt:=List.idxOf_lt_length_iff.mpr hm
  refine⟨ws.idxOf (zO ls fs),by unfold plc;rw [if_pos h],Nat.le_of_lt hlt,?_⟩
  unfold xf
  rw [List.getElem?_append_left (by rw [List.length_map];exact hlt),List.getElem?_map,List.getElem?_eq_getElem hlt,List.getElem_idxOf hlt]
  rfl
 cases hw:ws[i]? with
 | some x =>
  show (plc ls ws (x++[(c:Int)])=.non/\(if lacks ls (x++[(c:Int)])=true then _ else 0)=0)\/_
  by_cases h:lacks ls (x++[(c:Int)])=true
  ·right
   obtain⟨j,h1,h2,h3⟩:=at_ _ h
   refine⟨j,h1,h2,?_⟩
   rw [h3,Ws,if_pos h]
  ·left
   exact⟨by unfold plc;rw [if_neg h],by rw [if_neg h]⟩
 | none =>
  by_cases h0:c=0
  ·right
   refine⟨ws.length,by rw [vg,if_pos h0],Nat.le_refl _,?_⟩
   unfold xf
   rw [qC,if_pos h0,List.getElem?_append_right (by rw [List.length_map];exact Nat.le_refl _),List.length_map,Nat.sub_self]
   rfl
  ·by_cases h:lacks ls [(c:Int)]=true
   ·right
    obtain⟨j,h1,h2,h3⟩:=at_ _ h
    refine⟨j,by rw [vg,if_neg h0];exact h1,h2,?_⟩
    rw [h3,qC,if_neg h0,if_pos h]
   ·left
    refine⟨?_,?_⟩
    ·rw [vg,if_neg h0];unfold plc;rw [if_neg h]
    ·rw [qC,if_neg h0,if_neg h]
theorem Yp {fp:List Addr} {H:Hp} {b:Addr} {o:HO} (h:b∈fp):aw fp (upd H b o)=aw fp H:=by
 funext c
 by_cases hc:c∈fp
 ·rw [Y8 hc,Y8 hc]
 ·rw [yc hc,yc hc,zq (λz:c=b=>hc (by rw [z];exact h))]
section
variable {P:Program} {w:World} {K:W.Frag} {mg:Str->Option Value} {base:Heap} {T0 C:Addr}
def Wj (C:Addr):Sp:=λvs H Q _=>∃ (p la:Addr) (b:Nat) (ls ws:ZA) (L t:Nat) (lay:Addr) (i s:Nat),vs=[.ref p,.ref lay,.int i,.int s]/\TailsAt C H p la b ls ws L/\GoodT b ls ws/\H lay=some (.lst ((xf ls ws b t).map V.int))/\i<=ws.length/\s<=b /\
 ∀ H',Same H H'->Q (.int (under ls b t ws[i]? s:Nat)) H'
theorem Ve:zF ["self","layer","place","stop"] ["self","layer","place","stop"] (zu xu):={}
theorem Qf {f:Addr} {fd:FuncData} (D:Mt K C "Tails.many_by" "many_by" xu An f fd) (zK:ClT K mg C) (T:Blt mg) (U:Vh mg):FnOk P w K mg base CX0 1 f fd An (Wj C):=by
 refine D.fn.ok Ve (λvs H Q E h=>?_) (λcdv A outer s H vs Q E hr h=>?_)
 ·obtain⟨p,la,b,ls,ws,L,t,lay,i,s,rfl,_⟩:=h;rfl
 ·obtain⟨p,la,b,ls,ws,L,t,lay,i,s,rfl,TA,G,hlay,hi,hs,kk⟩:=h
  obtain⟨dx,sa,srs,h1,h2,h3,h4⟩:=TA.ob
  have b16:=G.g.b16
  have b2:=G.g.b2
  refine⟨_,(zx (zL (zE (zfk K rfl) (by rfl) U.n_sum boot_sum (zc (xK (show CScope (zu xu) _ "behind" ["self","layer","place","stop"] ["layer"] [1] from {}) rfl (Yt K (wz (Xb K) (zP (yo K) (wy K (pv 0)) (pv 2) (λ_ _=>rfl)) uW (wF (pv 3)))) (λ_ _ _ _=>(Ud (ym W3 (pv 0) jW (ye _)))) (λ_ _ _ _=>(zP (yo K) (pv 1) (pv 0) (λ_ _=>rfl)))) zg)))),?_⟩
  have hrow:=Ym (ls:=ls) (b:=b) (by omega) hi
  rw [<- h4,List.getElem?_map] at hrow
  obtain⟨z,hz,ez⟩:=Option.map_eq_some_iff.mp hrow
  have hzm:=List.mem_of_getElem? hz
  have hz3:=zX _ _ _ _ (h3 z hzm)
  refine⟨_,rfl,p,C,dx,_,_,rfl,zX _ _ _ _ h1,zK.cl,zK.n_steps,tX _ _ _ _,_,rfl,sa,_,_,V.ref z.1,rfl,rfl,SqL.of (zX _ _ _ _ h2),yI (by rw [List.getElem?_map,hz];rfl),?_⟩
  refine⟨_,rfl,_,rfl,z.1,_,rfl,SqL.of hz3,λq hq=>?_⟩
  have m1:=zj hq (o:=.lst (uV z.2 none (some (s:Int))))
  have ecut:uV z.2 none (some (s:Int))=(List.range s).map (stepV ls ws ws[i]?):=by
   rw [qu,ez,<- List.map_take,List.take_range,Nat.min_eq_left hs]
  rw [ecut] at m1 ⊢
  refine⟨q,rfl,⟨_,SqL.of zf⟩,xm (K:=K) (a:=q) (xs:=(List.range s).map (stepV ls ws ws[i]?)) (λk ys H4=>H4=upd H q (.lst ((List.range s).map (stepV ls ws ws[i]?)))/\∃ ms:List Int,ys=ms.map V.int/\ms.length<=k/\ms.sum=((under ls b t ws[i]? k:Nat):Int)) ⟨rfl,[],rfl,Nat.le_refl _,by simp [under]⟩ (λk ys H4 _ ⟨e,_⟩=>by rw [e];exact SqL.of zf) ?_ ?_⟩
  ·rintro k x ys H4 hx ⟨rfl,ms,rfl,hml,hms⟩
   rw [List.getElem?_map] at hx
   obtain⟨c,hc,e⟩:=Option.map_eq_some_iff.mp hx
   have hk:k<s:=by have:=(List.getElem?_eq_some_iff.mp hc).1;rwa [List.length_range] at this
   have ec:c=k:=by
    rw [List.getElem?_range hk] at hc
    exact (Option.some.inj hc).symm
   subst ec
   subst e
   refine⟨by rw [List.length_map];exact Nat.lt_of_le_of_lt (show ms.length<=16 by omega) (by decide),?_⟩
   have hus:=uz ls b t ws[i]? c
   rcases Vq (t:=t) G (c:=c) hi with ⟨e1,e2⟩ | ⟨j,e1,e2,e3⟩
   ·rw [e1]
    refine⟨_,rfl,rfl,_,rfl,xX ⟨rfl,ms,rfl,by omega,?_⟩⟩
    rw [hus,e2,hms]
    omega
   ·rw [e1]
    refine⟨_,rfl,rfl,_,rfl,vL ?_⟩
    refine⟨_,rfl,_,rfl,lay,_,_,V.int ((tV ls b t ws[i]? c:Nat):Int),rfl,rfl,SqL.of (m1 _ _ hlay),yI (by rw [List.getElem?_map,e3];rfl),rfl,ms++[((tV ls b t ws[i]? c:Nat):Int)],by simp,by rw [List.length_append,List.length_singleton];omega,?_⟩
    rw [List.sum_append,hms,hus]
    simp
  ·rintro ys H4 ⟨rfl,ms,rfl,hml,hms⟩ Dd hD
   refine⟨Dd,ms,rfl,SqL.of zf,?_⟩
   rw [hms,List.length_map,List.length_range]
   exact kk _ (m1.trans (zj hD))
def TQ (C:Addr) (H:Hp) (p la:Addr) (b:Nat) (ls ws:ZA) (L:Nat) (R:Nat->Hp->Prop):Prop:=∀ (L':Nat) (H':Hp),L<=L'->TailsAt C H' p la b ls ws L'->Same (aw [la] H) (aw [la] H')->R L' H'
def Ww (C:Addr):Sp:=λvs H Q _=>∃ (p la:Addr) (b:Nat) (ls ws:ZA) (L t:Nat),vs=[.ref p,.int t]/\TailsAt C H p la b ls ws L/\GoodT b ls ws/\L<=1000/\t<1000 /\
 ∀ lay:Addr,TQ C H p la b ls ws L λL' H'=>L'<=max L (t+1)->aw [la] H' lay=some (.lst ((xf ls ws b t).map V.int))->Q (.ref lay) H'
theorem Y5:zF ["self","left","shorter"] ["self","left"] (zu wW):={}
theorem zat {ls ws:ZA} {b t:Nat}:((List.range (ws.length+1)).map λi=>((under ls b t ws[i]? b:Nat):Int))=xf ls ws b (t+1):=by
 unfold xf
 apply List.ext_getElem?
 intro i
 rw [List.getElem?_map]
 by_cases h:i<ws.length
 ·rw [List.getElem?_range (by omega),List.getElem?_append_left (by rw [List.length_map];exact h),List.getElem?_map,Option.map_some,List.getElem?_eq_getElem h]
  rfl
 ·by_cases h2:i=ws.length
  ·subst h2
   rw [List.getElem?_range (by omega),List.getElem?_append_right (by rw [List.length_map];exact Nat.le_refl _),List.length_map,Nat.sub_self,Option.map_some,List.getElem?_eq_none (Nat.le_refl _)]
   rfl
  ·rw [List.getElem?_eq_none (by rw [List.length_range];omega),List.getElem?_eq_none (by rw [List.length_append,List.length_map,List.length_singleton];omega)]
   rfl
theorem zaZ {f f1:Addr} {fd fd1:FuncData} (D:Mt K C "Tails.layer" "layer" wW Ae f fd) (yW:Mt K C "Tails.many_by" "many_by" xu An f1 fd1) (zK:ClT K mg C) (T:Blt mg) (U:Vh mg):FnOk P w K mg base CX0 2 f fd Ae (Ww C):=by
 have Xh:FnOk P w K mg base CX0 1 f1 fd1 An (Wj C):=Qf yW zK T U
 refine D.fn.ok Y5 (λvs H Q E h=>?_) (λcdv A outer s H vs Q E hr h=>?_)
 ·obtain⟨p,la,b,ls,ws,L,t,rfl,_⟩:=h;rfl
 ·obtain⟨p,la,b,ls,ws,L,t,rfl,TA,G,hL,ht,kk⟩:=h
  have h13:=G.h13
  refine⟨_,(zp (Wx PassesOwn.never (ym Jb (zE (xQ K) (by rfl) T.n_len PySem.boot_len (zc (wy K (pv 0)) zg)) (pv 1) (ye _))
    (zp (zB (i:=2) Y5.nd rfl (Or.inr rfl) (zP (yo K) (wy K (pv 0)) (zfp zdF zm) (λ_ _=>rfl)))
    (zx (xP (Zq PySem.F.plainAttrs_list PySem.F.slot_list_append PySem.F.type_list_append xF (wy K (pv 0)) (zc (xK (show CScope (zu wW) _ "place" ["self","left","shorter"] ["shorter","self"] [2,0] from {}) rfl (yg rfl T.n_range (zc (zA yq (wy K (pv 0)) zm) zg)) (λ_ _ _ _=>yJ) (λ_ _ _ _=>(Y0 yW zK.cl Xh (hr.mono (by decide)) (pv 2) (zc (pv 1) (zc (pv 0) (zc (wy K (pv 2)) zg)))))) zg))))))
   (zx (zL (zP (yo K) (wy K (pv 0)) (pv 1) (λ_ _=>rfl))))),?_⟩
  refine WT (λZ H2=>∃ (v:Option V) (L':Nat),Z=[some (.ref p),some (.int t),v]/\L<=L'/\L'<=max L (t+1)/\TailsAt C H2 p la b ls ws L'/\Same (aw [la] H) (aw [la] H2))
   (λZ H2=>match H2 la with | some (.lst xs)=>t+1-xs.length | _=>0) ⟨none,L,rfl,Nat.le_refl _,Nat.le_max_left _ _,TA,Same.refl _⟩ ?_ ?_
  ·rintro Z H2 ⟨v,L',rfl,hLL,hLm,TA2,m2⟩
   obtain⟨dx,sa,srs,h1,h2,h3,h4⟩:=TA2.ob
   obtain⟨lrs,g1,g2,g3⟩:=TA2.ly
   have hl:lrs.length=L':=by have:=congrArg List.length g3;rwa [List.length_map,List.length_map,List.length_range] at this
   have hp:=zX _ _ _ _ h1
   have l1:=TA2.l1
   refine⟨_,rfl,p,C,dx,_,_,rfl,hp,zK.cl,zK.n_layers,Zc _ _ _ _,la,_,rfl,.inl (SqL.of g1),_,rfl,_,_,rfl,rfl,_,rfl,?_⟩
   rw [List.length_map,hl]
   refine J5 (λhc=>?_) (λhc=>?_)
   ·have hc':L'<=t:=by have:=of_decide_eq_true hc;omega
    have hlast:lrs[L'-1]?=some lrs[L'-1]:=List.getElem?_eq_getElem (by omega)
    generalize hz:lrs[L'-1]=z at hlast
    have hzm:z∈lrs:=List.mem_of_getElem? hlast
    have hz2:z.2=xf ls ws b (L'-1):=by
     have e:=congrArg (λl=>l[L'-1]?) g3
     simp only [List.getElem?_map,hlast,List.getElem?_range (show L'-1<L' by omega),Option.map_some] at e
     exact Option.some.inj e
    have elr:lrs=lrs.take (L'-1)++[z]:=by
     have e:=(List.take_append_drop (L'-1) lrs).symm
     rw [List.drop_eq_getElem_cons (show L'-1<lrs.length by omega),hz,List.drop_of_length_le (by omega)] at e
     exact e
    have eat:atI (lrs.map λz=>V.ref z.1) (-1)=some (V.ref z.1):=by
     rw [elr,List.map_append]
     exact zeu _ _
    refine⟨_,rfl,p,C,dx,_,_,rfl,hp,zK.cl,zK.n_layers,Zc _ _ _ _,_,rfl,la,_,_,V.ref z.1,rfl,rfl,SqL.of g1,eat,?_⟩
    refine⟨_,rfl,p,C,dx,_,_,rfl,hp,zK.cl,zK.n_layers,Zc _ _ _ _,.inl ⟨rfl,_,SqL.of g1⟩,?_⟩
    refine⟨_,rfl,p,C,dx,_,_,rfl,hp,zK.cl,zK.n_outset,uC _ _ _ _,_,_,rfl,rfl,((ws.length:Int)+1),rfl,by omega,by omega,wK (lo:=0) (n:=((ws.length:Int)+1).toNat) (λi ys H4=>ys=(((List.range i).map λi=>((under ls b (L'-1) ws[i]? b:Nat):Int))).map V.int/\Same H2 H4) ⟨rfl,Same.refl _⟩ ?_ ?_⟩
    ·rintro i ys H4 hi ⟨rfl,m4⟩
     refine⟨by rw [List.length_map,List.length_map,List.length_range];exact Nat.lt_of_lt_of_le (show i<20 by omega) (by decide),?_⟩
     unfold jl
     dsimp only
     rw [if_pos rfl]
     have TA4:=TA2.same m4
     have hp4:=m4 _ _ hp
     refine⟨_,rfl,p,dx,_,rfl,hp4,V1 _ _ _ _,_,rfl,_,rfl,_,rfl,p,C,dx,_,_,rfl,hp4,zK.cl,zK.n_base,Q6 _ _ _ _,?_⟩
     refine⟨p,la,b,ls,ws,L',L'-1,z.1,i,b,by rw [Int.zero_add];rfl,TA4,G,?_,by omega,Nat.le_refl _,λH5 m5=>⟨?_,m4.trans m5⟩⟩
     ·rw [<- hz2];exact m4 _ _ (zX _ _ _ _ (g2 z hzm))
     ·rw [List.range_succ,List.map_append,List.map_append]
      rfl
    rintro ys H4 ⟨rfl,m4⟩ q hq
    rw [show ((ws.length:Int)+1).toNat=ws.length+1 by omega,zat,show L'-1+1=L' by omega]
    have m5:=zj hq (o:=.lst ((xf ls ws b L').map V.int))
    have gla:=m5 _ _ (m4 _ _ g1)
    have nq:q≠la:=λe=>by rw [e,m4 _ _ g1] at hq;cases hq
    refine⟨la,_,_,rfl,rfl,gla,by rw [List.length_map,hl];exact Nat.lt_of_le_of_lt (show L'<=1000 by omega) (by decide),?_⟩
    have m25:Same (aw [la] H2) (aw [la] (upd (upd H4 q (.lst ((xf ls ws b L').map V.int))) la (.lst (lrs.map (λz=>V.ref z.1)++[.ref q])))):=by
     rw [Yp (by simp)]
     exact (m4.trans m5).aw [la]
    refine⟨⟨_,L'+1,rfl,by omega,by omega,⟨⟨dx,sa,srs,m25 _ _ h1,m25 _ _ h2,λy hy=>m25 _ _ (h3 y hy),h4⟩,⟨lrs++[(q,xf ls ws b L')],by rw [zf];simp,λy hy=>?_,?_⟩,by omega⟩,m2.trans m25⟩,?_⟩
    ·rcases List.mem_append.mp hy with hy | hy
     ·exact m25 _ _ (g2 y hy)
     ·have e:y=(q,xf ls ws b L'):=by simpa using hy
      subst e
      rw [Yp (by simp),yc (by simp [nq]),zf]
    ·rw [List.map_append,g3,List.range_succ,List.map_append]
     rfl
    ·show (match (upd (upd H4 q (.lst ((xf ls ws b L').map V.int))) la (.lst (lrs.map (λz=>V.ref z.1)++[.ref q]))) la with | some (.lst xs)=>t+1-xs.length | _=>0)<(match H2 la with | some (.lst xs)=>t+1-xs.length | _=>0)
     rw [zf,g1]
     show t+1-(lrs.map (λz=>V.ref z.1)++[V.ref q]).length<t+1-(lrs.map λz=>V.ref z.1).length
     rw [List.length_append,List.length_map,List.length_singleton]
     omega
   ·have hc':t<L':=by
     by_cases z:t<L'
     ·exact z
     ·exact absurd (decide_eq_true (by omega:(L':Int)<=t)) hc
    have hlast:lrs[t]?=some lrs[t]:=List.getElem?_eq_getElem (by omega)
    generalize hz:lrs[t]=z at hlast
    have hzm:z∈lrs:=List.mem_of_getElem? hlast
    have hz2:z.2=xf ls ws b t:=by
     have e:=congrArg (λl=>l[t]?) g3
     simp only [List.getElem?_map,hlast,List.getElem?_range hc',Option.map_some] at e
     exact Option.some.inj e
    refine⟨_,rfl,p,C,dx,_,_,rfl,hp,zK.cl,zK.n_layers,Zc _ _ _ _,_,rfl,la,_,_,V.ref z.1,rfl,rfl,SqL.of g1,yI (by rw [List.getElem?_map,hlast];rfl),?_⟩
    exact kk z.1 L' H2 hLL TA2 m2 hLm (by rw [<- hz2];exact g2 z hzm)
  ·intro Z H2 Q Q' hq
   rintro⟨v0,e0,a,C',dx,fs,v,h1,h2,h3,h4,h5,p',ys,h6,h7,v1,e1,i,j,e3,e4,k,e5,q⟩
   exact⟨v0,e0,a,C',dx,fs,v,h1,h2,h3,h4,h5,p',ys,h6,h7,v1,e1,i,j,e3,e4,k,e5,hq _ _ q⟩
def j8 (C:Addr):Sp:=λvs H Q _=>∃ (p la:Addr) (b:Nat) (ls ws:ZA) (L t:Nat),vs=[.ref p,.int t]/\TailsAt C H p la b ls ws L/\GoodT b ls ws/\L<=1000/\t<1000/\TQ C H p la b ls ws L λL' H'=>L'<=max L (t+1)->Q (.int (ug ls b t:Nat)) H'
theorem Xc:zF ["self","size"] ["self","size"] (zu wg):={}
theorem Qt {f f1 f2:Addr} {fd fd1 fd2:FuncData} (D:Mt K C "Tails.many_within" "many_within" wg Au f fd) (xJ:Mt K C "Tails.layer" "layer" wW Ae f1 fd1) (yW:Mt K C "Tails.many_by" "many_by" xu An f2 fd2) (zK:ClT K mg C) (T:Blt mg) (U:Vh mg):FnOk P w K mg base CX0 3 f fd Au (j8 C):=by
 have uJ:FnOk P w K mg base CX0 2 f1 fd1 Ae (Ww C):=zaZ xJ yW zK T U
 refine D.fn.ok Xc (λvs H Q E h=>?_) (λcdv A outer s H vs Q E hr h=>?_)
 ·obtain⟨p,la,b,ls,ws,L,t,rfl,_⟩:=h;rfl
 ·obtain⟨p,la,b,ls,ws,L,t,rfl,TA,G,hL,ht,kk⟩:=h
  obtain⟨dx,sa,srs,h1,h2,h3,h4⟩:=TA.ob
  have hp:=zX _ _ _ _ h1
  refine⟨_,(zx (zL (zP (yo K) (Y0 xJ zK.cl uJ (hr.mono (by decide)) (pv 0) (zc (pv 1) zg)) (wy K (pv 0)) (λ_ _=>rfl)))),?_⟩
  refine⟨_,rfl,p,dx,_,rfl,hp,V1 _ _ _ _,_,rfl,p,la,b,ls,ws,L,t,rfl,TA,G,hL,ht,λlay L' H' hLL TA' m' hm hlay=>?_⟩
  obtain⟨dx',sa',srs',h1',h2',h3',h4'⟩:=TA'.ob
  refine⟨_,rfl,p,C,dx',_,_,rfl,zX _ _ _ _ h1',zK.cl,zK.n_outset,uC _ _ _ _,lay,_,_,V.int ((ug ls b t:Nat):Int),rfl,rfl,SqL.of (zX _ _ _ _ hlay),yI ?_,kk L' H' hLL TA' m' hm⟩
  unfold xf
  rw [List.map_append,List.getElem?_append_right (by rw [List.length_map,List.length_map];exact Nat.le_refl _),List.length_map,List.length_map,Nat.sub_self]
  rfl
end
theorem LT.off {T la:Addr} {H H':Hp} {xs:List V} (h:LT T H) (hla:H la=some (.lst xs)) (m:Same (aw [la] H) (aw [la] H')):LT T H':=by
 have go:∀ c o,c≠la->H c=some o->H' c=some o:=λc o hc e=>by
  have hc':c∉[la]:=by simpa using hc
  have:=m c o (by rw [yc hc'];exact e)
  rwa [yc hc'] at this
 have n0:T≠la:=Ne.symm (h.lst hla)
 rcases h with h | ⟨c,h1,h2⟩
 ·exact .inl (go _ _ n0 h)
 ·refine .inr ⟨c,go _ _ n0 h1,go _ _ (λz=>?_) h2⟩
  rw [z,hla] at h2
  cases h2
theorem JW {α:Type} {f:α->V} (h:∀ a,f a=V.int 1):∀ l:List α,(List.replicate l.length [V.int 1]).flatten=l.map f
 | []=>rfl
 | a :: l=>by rw [List.length_cons,List.replicate_succ,List.flatten_cons,JW h l,List.map_cons,h a];rfl
section
variable {P:Program} {w:World} {K:W.Frag} {mg:Str->Option Value} {base:Heap} {T0 C:Addr}
def WY (T0 C:Addr):Sp:=λvs H Q _=>∃ (p dx r:Addr) (b:Nat) (bl:Addr) (zs:ZB),vs=[.ref p,.ref r]/\H p=some (.ins C dx [])/\RuleAt H r b bl zs/\yC b (zs.map (·.2))/\LT T0 H /\
 ∀ (la:Addr) (ws:ZA) (H':Hp),TailsAt C H' p la b (zs.map (·.2)) ws 1->GoodT b (zs.map (·.2)) ws->(∀ c o,c≠p->c≠T0->H c=some o->H' c=some o)->LT T0 H'->H la=none->Q .non H'
theorem Zd:zF ["self","rule","stands"] ["self","rule"] (zu qj):={}
theorem zdJ {f f1 f2 f3:Addr} {fd fd1 fd2 fd3:FuncData} (D:Mt K C "Tails.__init__" "__init__" qj A0 f fd) (Yu:Df K mg "stands_of" yx ["bad"] f1 fd1) (Wn:FnOk P w K mg base CX0 6 f1 fd1 ["bad"] (YF T0)) (Ye:Df K mg "all_steps" jd Az f2 fd2) (X4:FnOk P w K mg base CX0 6 f2 fd2 Az Yn)
  (xV:Df K mg "lacks_all" vm Ac f3 fd3) (wL:FnOk P w K mg base CX0 2 f3 fd3 Ac tQ) (zK:ClT K mg C) (T:Blt mg):FnOk P w K mg base CX0 7 f fd A0 (WY T0 C):=by
 refine D.fn.ok Zd (λvs H Q E h=>?_) (λcdv A outer s H vs Q E hr h=>?_)
 ·obtain⟨p,dx,r,b,bl,zs,rfl,_⟩:=h;rfl
 ·obtain⟨p,dx,r,b,bl,zs,rfl,hp,R,g,hT,kk⟩:=h
  have h4:zs.length<=4:=by have:=g.len;rwa [List.length_map] at this
  have gz:∀ z∈zs,z.2≠[]/\z.2.length<=4:=λz hz=>⟨(g.st _ (List.mem_map.mpr ⟨z,hz,rfl⟩)).ne,(g.st _ (List.mem_map.mpr ⟨z,hz,rfl⟩)).len⟩
  have npT:p≠T0:=λz=>by
   rw [z] at hp
   rcases hT with h | ⟨c,h,_⟩
   ·rw [h] at hp;cases hp
   ·rw [h] at hp;cases hp
  refine⟨_,(zp (zB (i:=2) Zd.nd rfl (Or.inl rfl) (zN Yu Wn (hr.mono (by decide)) (zc (zP (wB K) (pv 1) zm (λ_ _=>rfl)) zg)))
   (zp (Wr (pv 0) (zP (wB K) (pv 1) zm (λ_ _=>rfl)) rfl)
   (zp (Wr (pv 0) (zE (xQ K) (by rfl) T.n_len PySem.boot_len (zc (pv 2) zg)) rfl)
   (zp (Wr (pv 0) (zN Ye X4 (hr.mono (by decide)) (zc (pv 1) (zc (pv 2) zg))) rfl)
   (zx (Wr (pv 0) (zZ (zc (zA We (zA Vg (zZ (zc zm zg)) (zE (xQ K) (by rfl) T.n_len PySem.boot_len (zc (pv 2) zg))) (zZ (zc (zaX (wY (zN xV wL (hr.mono (by decide)) (zc (zP (wB K) (pv 1) zm (λ_ _=>rfl)) (zc (zZ (zc zm zg)) zg)))) zm zm) zg))) zg)) rfl)))))),?_⟩
  refine⟨_,rfl,r,_,_,V.ref bl,rfl,rfl,SqT.of R.tu,rfl,bl,zs,rfl,R.li,R.st,h4,gz,hT,λDd ws H1 hDn hD hws SL h13 mL hT1=>?_⟩
  have R1:RuleAt H1 r b bl zs:=⟨mL _ _ (hT.tup R.tu) R.tu,mL _ _ (hT.lst R.li) R.li,λz hz=>mL _ _ (hT.lst (R.st z hz)) (R.st z hz)⟩
  have hp1:=mL _ _ npT hp
  have rp:r≠p:=jO R1.tu hp1 (λz=>nomatch z)
  have lp:∀ {c:Addr} {xs:List V},H1 c=some (.lst xs)->c≠p:=λh=>jO h hp1 (λz=>nomatch z)
  refine⟨_,rfl,r,_,_,V.int b,rfl,rfl,SqT.of R1.tu,rfl,_,rfl,p,C,dx,_,rfl,hp1,zK.cl,zK.n_base,(by show 0<1000;decide),?_⟩
  refine⟨_,rfl,Dd,_,rfl,.inl (SqL.of (by rw [zq (lp hD)];exact hD)),_,rfl,p,C,dx,_,rfl,zf,zK.cl,zK.n_outset,(by show 1<1000;decide),?_⟩
  rw [ze8,List.length_map]
  generalize hH3:upd H1 p (.ins C dx (yr "outset" (.int (ws.length:Nat)) (yr "base" (.int b) [])))=H3
  have m3:∀ c o,c≠p->H1 c=some o->H3 c=some o:=λc o hc e=>by rw [<- hH3,zq hc];exact e
  have hp3:H3 p=some (.ins C dx (yr "outset" (.int (ws.length:Nat)) (yr "base" (.int b) []))):=by rw [<- hH3,zf]
  have R3:RuleAt H3 r b bl zs:=⟨m3 _ _ rp R1.tu,m3 _ _ (lp R1.li) R1.li,λz hz=>m3 _ _ (lp (R1.st z hz)) (R1.st z hz)⟩
  refine⟨_,rfl,_,rfl,r,b,bl,zs,Dd,ws,rfl,R3,g,m3 _ _ (lp hD) hD,λz hz=>m3 _ _ (lp (hws z hz).2.1) (hws z hz).2.1,SL,h13,λsa srs H4 hsa m4 hsal hsrs hsr2=>?_⟩
  have hp4:=m4 _ _ hp3
  have len2:(yr "outset" (.int (ws.length:Nat)) (yr "base" (.int b) [])).length<=2:=Nat.le_trans (jh _ _ _) (Nat.succ_le_succ (jh _ _ _))
  refine⟨_,rfl,p,C,dx,_,rfl,hp4,zK.cl,zK.n_steps,by omega,?_⟩
  generalize hH5:upd H4 p (.ins C dx (yr "steps" (.ref sa) (yr "outset" (.int (ws.length:Nat)) (yr "base" (.int b) []))))=H5
  have m5:∀ c o,c≠p->H4 c=some o->H5 c=some o:=λc o hc e=>by rw [<- hH5,zq hc];exact e
  have hp5:H5 p=some (.ins C dx (yr "steps" (.ref sa) (yr "outset" (.int (ws.length:Nat)) (yr "base" (.int b) [])))):=by rw [<- hH5,zf]
  have lp4:∀ {c:Addr} {xs:List V},H4 c=some (.lst xs)->c≠p:=λh=>jO h hp4 (λz=>nomatch z)
  have R4:=R3.same m4
  have R5:RuleAt H5 r b bl zs:=⟨m5 _ _ (jO R4.tu hp4 (λz=>nomatch z)) R4.tu,m5 _ _ (lp4 R4.li) R4.li,λz hz=>m5 _ _ (lp4 (R4.st z hz)) (R4.st z hz)⟩
  have hD5:H5 Dd=some (.lst (ws.map λz=>V.ref z.1)):=m5 _ _ (lp4 (m4 _ _ (m3 _ _ (lp hD) hD))) (m4 _ _ (m3 _ _ (lp hD) hD))
  refine⟨(by show 1<=sizeLine;decide),λq1 n1=>?_⟩
  refine⟨_,rfl,Dd,_,rfl,.inl (SqL.of (zj n1 _ _ hD5)),?_⟩
  rw [List.length_map]
  refine⟨q1,_,_,rfl,rfl,zf,by omega,by omega,?_,λq2 n2=>?_⟩
  ·show 1*(ws.length:Int).toNat<=sizeLine
   exact Nat.le_trans (show 1*(ws.length:Int).toNat<=13 by omega) (by decide)
  have s1:=zj n1 (o:=.lst [V.int 1])
  have s2:=s1.trans (zj n2 (o:=.lst (List.replicate (ws.length:Int).toNat [V.int 1]).flatten))
  have R6:=R5.same s2
  refine⟨_,rfl,r,_,_,V.ref bl,rfl,rfl,SqT.of R6.tu,rfl,(by show 1<=sizeLine;decide),λq3 n3=>?_⟩
  have s3:=s2.trans (zj n3 (o:=.lst [V.int 0]))
  have R7:=R5.same s3
  refine⟨bl,q3,zs,[0],rfl,R7.li,R7.st,zf,by omega,by decide,λz hz=>⟨(gz z hz).1,Nat.le_trans (gz z hz).2 (by decide)⟩,λH8 s8=>⟨_,rfl,?_⟩⟩
  have s38:=s3.trans s8
  have fin:∀ x:Int,x=((ug (zs.map (·.2)) b 0:Nat):Int)->∀ q4,H8 q4=none->q2≠q4->∀ q5,upd H8 q4 (.lst [V.int x]) q5=none->∀ q6,upd (upd H8 q4 (.lst [V.int x])) q5 (.lst ((List.replicate (ws.length:Int).toNat [V.int 1]).flatten++[V.int x])) q6=none ->
    Q .non (upd (upd (upd (upd H8 q4 (.lst [V.int x])) q5 (.lst ((List.replicate (ws.length:Int).toNat [V.int 1]).flatten++[V.int x]))) q6 (.lst [V.ref q5])) p (.ins C dx (yr "layers" (.ref q6) (yr "steps" (.ref sa) (yr "outset" (.int (ws.length:Nat)) (yr "base" (.int b) [])))))):=by
   intro x hx q4 n4 _ q5 n5 q6 n6
   have t4:=zj n4 (o:=.lst [V.int x])
   have t5:=zj n5 (o:=.lst ((List.replicate (ws.length:Int).toNat [V.int 1]).flatten++[V.int x]))
   have t6:=zj n6 (o:=.lst [V.ref q5])
   have t46:=t4.trans (t5.trans t6)
   have s56:=s38.trans t46
   have hp9:=s56 _ _ hp5
   have f5:∀ c,H5 c=none->H c=none:=λc hc=>by
    have h5:H4 c=none:=by
     rw [<- hH5] at hc
     by_cases z:c=p
     ·subst z;rw [zf] at hc;cases hc
     ·rwa [zq z] at hc
    have h3':H3 c=none:=m4.free h5
    have h1':H1 c=none:=by
     rw [<- hH3] at h3'
     by_cases z:c=p
     ·subst z;rw [zf] at h3';cases h3'
     ·rwa [zq z] at h3'
    cases e:H c with
    | none=>rfl
    | some o =>
     by_cases z:c=T0
     ·subst z
      exact absurd h1' (by
       rcases hT1 with h | ⟨d,h,_⟩
       ·rw [h];simp
       ·rw [h];simp)
     ·rw [mL c o z e] at h1';cases h1'
   have q6H5:H5 q6=none:=(s38.trans (t4.trans t5)).free n6
   have q6p:q6≠p:=λz=>by rw [z,hp5] at q6H5;cases q6H5
   have np5:q5≠q6:=λz=>by rw [<- z,zf] at n6;cases n6
   generalize hH9:upd (upd (upd H8 q4 (.lst [V.int x])) q5 (.lst ((List.replicate (ws.length:Int).toNat [V.int 1]).flatten++[V.int x]))) q6 (.lst [V.ref q5])=H9 at t6 t46 s56 hp9
   have hq6:H9 q6=some (.lst [V.ref q5]):=by rw [<- hH9,zf]
   have hq5:H9 q5=some (.lst ((List.replicate (ws.length:Int).toNat [V.int 1]).flatten++[V.int x])):=by rw [<- hH9,zq np5,zf]
   have q5p:q5≠p:=jO hq5 hp9 (λz=>nomatch z)
   have off:∀ c o,c≠p->H5 c=some o->aw [q6] (upd H9 p (.ins C dx (Xw b ws.length sa q6))) c=some o:=λc o hc e=>by
    have hcq:c≠q6:=zy e q6H5
    rw [yc (by simpa using hcq),zq hc]
    exact s56 c o e
   have sa4:H4 sa=some (.lst (srs.map λz=>V.ref z.1)):=hsal
   have l1:∀ {c:Addr} {xs:List V},H4 c=some (.lst xs)->H5 c=some (.lst xs)/\c≠p:=λh=>⟨m5 _ _ (lp4 h) h,lp4 h⟩
   refine kk q6 (ws.map (·.2)) _ ⟨⟨dx,sa,srs,?_,off _ _ (l1 hsal).2 (l1 hsal).1,λz hz=>off _ _ (l1 (hsrs z hz).2).2 (l1 (hsrs z hz).2).1,hsr2⟩,⟨[(q5,xf (zs.map (·.2)) (ws.map (·.2)) b 0)],by rw [zq q6p];exact hq6,λz hz=>?_,rfl⟩,Nat.le_refl _⟩ ⟨g,SL,by rw [List.length_map];exact h13⟩ (λc o hc hcT e=>?_) ?_ (f5 _ q6H5)
   ·rw [yc (by simpa using Ne.symm q6p),List.length_map]
    exact zf
   ·have e:z=(q5,xf (zs.map (·.2)) (ws.map (·.2)) b 0):=by simpa using hz
    subst e
    rw [yc (by simpa using np5),zq q5p,hq5]
    congr 2
    unfold xf
    rw [List.map_append,hx,Int.toNat_natCast,List.map_map,List.map_map]
    rw [JW (λ_=>rfl) ws]
    rfl
   ·rw [zq hc]
    have h1:=mL c o hcT e
    exact s56 c o (m5 c o hc (m4 c o (m3 c o hc h1)))
   ·have a1:LT T0 H3:=by
     rcases hT1 with h | ⟨d,h1,h2⟩
     ·exact .inl (m3 _ _ (Ne.symm npT) h)
     ·exact .inr ⟨d,m3 _ _ (Ne.symm npT) h1,m3 _ _ (jO h2 hp1 (λz=>nomatch z)) h2⟩
    have a2:=a1.same m4
    have a3:LT T0 H5:=by
     rcases a2 with h | ⟨d,h1,h2⟩
     ·exact .inl (m5 _ _ (Ne.symm npT) h)
     ·exact .inr ⟨d,m5 _ _ (Ne.symm npT) h1,m5 _ _ (jO h2 hp4 (λz=>nomatch z)) h2⟩
    have a4:=a3.same s56
    rcases a4 with h | ⟨d,h1,h2⟩
    ·exact .inl (by rw [zq (Ne.symm npT)];exact h)
    ·exact .inr ⟨d,by rw [zq (Ne.symm npT)];exact h1,by rw [zq (jO h2 hp9 (λz=>nomatch z))];exact h2⟩
  have hq2:H8 q2=some (.lst (List.replicate (ws.length:Int).toNat [V.int 1]).flatten):=s8 _ _ (zj n3 _ _ zf)
  have lenr:(List.replicate (ws.length:Int).toNat [V.int 1]).flatten.length<=13:=by rw [Int.toNat_natCast,JW (f:=λ_=>V.int 1) (λ_=>rfl) ws,List.length_map];exact h13
  have len3:(yr "steps" (.ref sa) (yr "outset" (.int (ws.length:Nat)) (yr "base" (.int b) []))).length<=3:=Nat.le_trans (jh _ _ _) (Nat.succ_le_succ len2)
  have tail:∀ x:Int,x=((ug (zs.map (·.2)) b 0:Nat):Int)->∀ q4,H8 q4=none->∃ l b' xs zs',V.ref q2=V.ref l/\V.ref q4=V.ref b'/\upd H8 q4 (.lst [V.int x]) l=some (.lst xs)/\upd H8 q4 (.lst [V.int x]) b'=some (.lst zs')/\xs.length+zs'.length<=sizeLine/\∀ q5,upd H8 q4 (.lst [V.int x]) q5=none ->
    1<=sizeLine/\∀ q6,upd (upd H8 q4 (.lst [V.int x])) q5 (.lst (xs++zs')) q6=none->∃ v,some (some (V.ref p))=some (some v)/\∃ a C' dx' fs,v=.ref a/\upd (upd (upd H8 q4 (.lst [V.int x])) q5 (.lst (xs++zs'))) q6 (.lst [V.ref q5]) a=some (.ins C' dx' fs)/\Cls K C'/\NoAttr K C' "layers"/\fs.length<1000/\Q .non (upd (upd (upd (upd H8 q4 (.lst [V.int x])) q5 (.lst (xs++zs'))) q6 (.lst [V.ref q5])) a (.ins C' dx' (yr "layers" (.ref q6) fs))):=by
   intro x hx q4 n4
   have nq:q2≠q4:=zy hq2 n4
   refine⟨q2,q4,_,_,rfl,rfl,by rw [zq nq];exact hq2,zf,Nat.le_trans (Nat.add_le_add lenr (Nat.le_refl 1)) (by decide),λq5 n5=>⟨(by decide),λq6 n6=>?_⟩⟩
   have hp8:=s38 _ _ hp5
   exact⟨_,rfl,p,C,dx,_,rfl,(zj n4).trans ((zj n5).trans (zj n6)) _ _ hp8,zK.cl,zK.n_layers,by omega,fin x hx q4 n4 nq q5 n5 q6 n6⟩
  cases hlk:lacks (zs.map (·.2)) [0] with
  | true =>
   refine vL ?_
   refine⟨(by show 1<=sizeLine;decide),λq4 n4=>?_⟩
   exact tail 1 (by unfold ug;rw [hlk];rfl) q4 n4
  | false =>
   refine xX ?_
   refine⟨(by show 1<=sizeLine;decide),λq4 n4=>?_⟩
   exact tail 0 (by unfold ug;rw [hlk];rfl) q4 n4
end
theorem zcq {H:Hp} {x dx:Addr} {C:Addr} (nx:H x=none) (ndx:H dx=none):Same H (upd (upd H dx (.own x)) x (.ins C dx [])):=λb o e=>by
 rw [zq (zy e nx),zq (zy e ndx)]
 exact e
theorem zcS {T0 la:Addr} {H H1 H2:Hp} (m:SameL T0 H H1) (hla:H la=none) (a:Same (aw [la] H1) (aw [la] H2)):SameL T0 H H2:=λc o hc e=>by
 have hcl:c∉[la]:=by simpa using zy e hla
 have:=a c o (by rw [yc hcl];exact m c o hc e)
 rwa [yc hcl] at this
theorem TailsAt.la {C p la b:Nat} {H:Hp} {ls ws:ZA} {L:Nat} (TA:TailsAt C H p la b ls ws L):∃ xs,H la=some (.lst xs):=let ⟨_,h,_⟩:=TA.ly;⟨_,h⟩
theorem zcH {ls ws:ZA} {b m:Nat} (G:GoodT b ls ws) {i c:Nat} (hi:i<=ws.length) (R:Rep ls b m ws[i]?) (hc:c<b) :
  (∃ j:Nat,stepV ls ws ws[i]? c=.int j/\j<=ws.length/\Rep ls b (m*b+c) ws[j]?)\/(stepV ls ws ws[i]? c=.non/\1<=m*b+c/\gd ls b (m*b+c)=false):=by
 have b2:=G.g.b2
 have ep:∀ h:¬ (ws[i]?=none/\c=0),stepV ls ws ws[i]? c=plc ls ws (ws[i]?.getD []++[(c:Int)]):=by
  intro h
  cases hw:ws[i]? with
  | some x=>rfl
  | none =>
   rw [vg,if_neg (λz=>h ⟨hw,z⟩)]
   rfl
 rcases R.step G.ne b2 hc with ⟨h1,h2,h3⟩ | ⟨h0,⟨h1,h2⟩ | ⟨h1,h2,h3⟩⟩
 ·left
  refine⟨ws.length,by rw [h1,vg,if_pos h2],Nat.le_refl _,by rw [List.getElem?_eq_none (Nat.le_refl _)];exact h3⟩
 ·left
  have hm:zO ls (ws[i]?.getD []++[(c:Int)])∈ws:=(G.s.mem _).mpr (j7 G.ne h1)
  have hlt:=List.idxOf_lt_length_iff.mpr hm
  refine⟨ws.idxOf (zO ls (ws[i]?.getD []++[(c:Int)])),by rw [ep h0];unfold plc;rw [if_pos h1],Nat.le_of_lt hlt,?_⟩
  rw [List.getElem?_eq_getElem hlt,List.getElem_idxOf hlt]
  exact h2
 ·right
  exact⟨by rw [ep h0];unfold plc;rw [if_neg (by rw [h1];exact Bool.false_ne_true)],h2,h3⟩
section
variable {C:Addr}
theorem TailsAt.obj {H:Hp} {p la b:Nat} {ls ws:ZA} {L:Nat} (TA:TailsAt C H p la b ls ws L):∃ dx sa,H p=some (.ins C dx (Xw b ws.length sa la)):=by
 obtain⟨dx,sa,srs,h1,_⟩:=TA.ob
 exact⟨dx,sa,zX _ _ _ _ h1⟩
theorem zef {H:Hp} {p la b:Nat} {ls ws:ZA} {L i c:Nat} (TA:TailsAt C H p la b ls ws L) (G:GoodT b ls ws) (hi:i<=ws.length) (hc:c<b) :
  ∃ (dx sa:Addr) (srs:List (Addr×List V)) (z:Addr×List V),H p=some (.ins C dx (Xw b ws.length sa la))/\H sa=some (.lst (srs.map λz=>V.ref z.1))/\atI (srs.map λz=>V.ref z.1) (i:Int)=some (V.ref z.1)/\H z.1=some (.lst z.2)/\atI z.2 (c:Int)=some (stepV ls ws ws[i]? c):=by
 obtain⟨dx,sa,srs,h1,h2,h3,h4⟩:=TA.ob
 have hrow:=Ym (ls:=ls) (b:=b) (by have:=G.g.b2;omega) hi
 rw [<- h4,List.getElem?_map] at hrow
 obtain⟨z,hz,ez⟩:=Option.map_eq_some_iff.mp hrow
 refine⟨dx,sa,srs,z,zX _ _ _ _ h1,zX _ _ _ _ h2,yI (by rw [List.getElem?_map,hz];rfl),zX _ _ _ _ (h3 z (List.mem_of_getElem? hz)),yI ?_⟩
 rw [ez,List.getElem?_map,List.getElem?_range hc]
 rfl
end
section
variable {P:Program} {w:World} {K:W.Frag} {mg:Str->Option Value} {base:Heap} {T0 C:Addr}
def zgC (T0 C:Addr) (b:Nat) (ls:ZA) (H:Hp) (x:Addr) (H':Hp):Prop:=∃ (la:Addr) (ws:ZA),TailsAt C H' x la b ls ws 1/\GoodT b ls ws/\SameL T0 H H'/\LT T0 H'/\H la=none
theorem zeX {r:Addr} {b:Nat} {bl:Addr} {zs:ZB} {H:Hp} (R:RuleAt H r b bl zs) (g:yC b (zs.map (·.2))) (hT:LT T0 H) {R':Addr->Hp->Prop} (k:∀ x H',zgC T0 C b (zs.map (·.2)) H x H'->R' x H') :
  ∀ x dx,H x=none->H dx=none->dx≠x->WY T0 C (.ref x :: ([.ref r]++[])) (upd (upd H dx (.own x)) x (.ins C dx [])) (λv H2=>v=.non/\R' x H2) E0:=by
 intro x dx nx ndx nex
 have s0:=zcq (C:=C) nx ndx
 refine⟨x,dx,r,b,bl,zs,rfl,zf,R.same s0,g,hT.same s0,λla ws H' TA G fr hT' hla=>⟨rfl,k x H' ⟨la,ws,TA,G,λc o hc e=>fr c o (zy e nx) hc (s0 c o e),hT',s0.free hla⟩⟩⟩
end
structure ClS (K:W.Frag) (mg:Str->Option Value) (C:Addr):Prop where
 cl:Cls K C
 nm:mg "Totals" = some (.ref C)
 n_tails:NoAttr K C "tails"
 n_weights:NoAttr K C "weights"
 n_layers:NoAttr K C "layers"
def Y9 (tl wa l2:Addr):List (Str×V):=yr "layers" (.ref l2) (yr "weights" (.ref wa) (yr "tails" (.ref tl) []))
theorem ux (tl wa l2:Addr):(Y9 tl wa l2).lookup ("tails" : Str)=some (.ref tl):=by
 unfold Y9
 rw [zM,if_neg (by decide +kernel),zM,if_neg (by decide +kernel),zM,if_pos rfl]
theorem JK (tl wa l2:Addr):(Y9 tl wa l2).lookup ("weights" : Str)=some (.ref wa):=by
 unfold Y9
 rw [zM,if_neg (by decide +kernel),zM,if_pos rfl]
theorem VB (tl wa l2:Addr):(Y9 tl wa l2).lookup ("layers" : Str)=some (.ref l2):=by
 unfold Y9
 rw [zM,if_pos rfl]
theorem Xm (tl wa l2:Addr) {m:Str} (h1:¬ m = "layers":=by decide +kernel) (h2:¬ m = "weights":=by decide +kernel) (h3:¬ m = "tails":=by decide +kernel):(Y9 tl wa l2).lookup m=none:=by
 unfold Y9
 rw [zM,if_neg h1,zM,if_neg h2,zM,if_neg h3]
 rfl
def vC (b:Nat) (w:Nat->Nat) (sc k:Nat):List Int:=(List.range b).map λ(c:Nat)=>((sc^k*w c:Nat):Int)
def Z1 (ls ws:ZA) (b:Nat) (w:Nat->Nat) (sc t:Nat):List Int:=(ws.map λx=>((tt ls b w sc t x:Nat):Int))++[((ttO ls b w sc t:Nat):Int)]
def stepT (ls:ZA) (b:Nat) (w:Nat->Nat) (sc t:Nat):Option (List Int)->Nat->Nat
 | some x,c=>if lacks ls (x++[(c:Int)])=true then sc^t*w c*cnt ls b t (zO ls (x++[(c:Int)]))+tt ls b w sc t (zO ls (x++[(c:Int)])) else 0
 | none,c=>if c=0 then ttO ls b w sc t else if lacks ls [(c:Int)]=true then sc^t*w c*cnt ls b t (zO ls [(c:Int)])+tt ls b w sc t (zO ls [(c:Int)]) else 0
def tK (ls:ZA) (b:Nat) (w:Nat->Nat) (sc t:Nat) (o:Option (List Int)) (s:Nat):Nat:=((List.range s).map (stepT ls b w sc t o)).sum
theorem qU (ls:ZA) (b:Nat) (w:Nat->Nat) (sc t:Nat) (o:Option (List Int)) (s:Nat):tK ls b w sc t o (s+1)=tK ls b w sc t o s+stepT ls b w sc t o s:=by
 unfold tK
 rw [List.range_succ,List.map_append,List.sum_append]
 simp
theorem zcZ {ls ws:ZA} {b sc t:Nat} {w:Nat->Nat}:((List.range (ws.length+1)).map λi=>((tK ls b w sc t ws[i]? b:Nat):Int))=Z1 ls ws b w sc (t+1):=by
 unfold Z1
 apply List.ext_getElem?
 intro i
 rw [List.getElem?_map]
 by_cases h:i<ws.length
 ·rw [List.getElem?_range (by omega),List.getElem?_append_left (by rw [List.length_map];exact h),List.getElem?_map,Option.map_some,List.getElem?_eq_getElem h]
  rfl
 ·by_cases h2:i=ws.length
  ·subst h2
   rw [List.getElem?_range (by omega),List.getElem?_append_right (by rw [List.length_map];exact Nat.le_refl _),List.length_map,Nat.sub_self,Option.map_some,List.getElem?_eq_none (Nat.le_refl _)]
   rfl
  ·rw [List.getElem?_eq_none (by rw [List.length_range];omega),List.getElem?_eq_none (by rw [List.length_append,List.length_map,List.length_singleton];omega)]
   rfl
theorem zbc {ls ws:ZA} {b sc t:Nat} {w:Nat->Nat} (G:GoodT b ls ws) {i c:Nat} (hi:i<=ws.length) :
  (stepV ls ws ws[i]? c=.non/\stepT ls b w sc t ws[i]? c=0/\tV ls b t ws[i]? c=0)\/∃ (j x y z:Nat),stepV ls ws ws[i]? c=.int j/\j<=ws.length/\(xf ls ws b t)[j]?=some ((x:Nat):Int)/\(Z1 ls ws b w sc t)[j]?=some ((y:Nat):Int)/\z=(if j=ws.length then 0 else sc^t*w c)/\stepT ls b w sc t ws[i]? c=z*x+y/\tV ls b t ws[i]? c=x:=by
 have at_:∀ fs:List Int,lacks ls fs=true->∃ j:Nat,plc ls ws fs=.int j/\j<ws.length/\(xf ls ws b t)[j]?=some ((cnt ls b t (zO ls fs):Nat):Int)/\(Z1 ls ws b w sc t)[j]?=some ((tt ls b w sc t (zO ls fs):Nat):Int):=by
  intro fs h
  have hm:zO ls fs∈ws:=(G.s.mem _).mpr (j7 G.ne h)
  have hlt:=List.idxOf_lt_length_iff.mpr hm
  refine⟨ws.idxOf (zO ls fs),by unfold plc;rw [if_pos h],hlt,?_,?_⟩
  ·unfold xf
   rw [List.getElem?_append_left (by rw [List.length_map];exact hlt),List.getElem?_map,List.getElem?_eq_getElem hlt,List.getElem_idxOf hlt]
   rfl
  ·unfold Z1
   rw [List.getElem?_append_left (by rw [List.length_map];exact hlt),List.getElem?_map,List.getElem?_eq_getElem hlt,List.getElem_idxOf hlt]
   rfl
 cases hw:ws[i]? with
 | some x =>
  by_cases h:lacks ls (x++[(c:Int)])=true
  ·right
   obtain⟨j,h1,h2,h3,h4⟩:=at_ _ h
   refine⟨j,_,_,sc^t*w c,h1,Nat.le_of_lt h2,h3,h4,by rw [if_neg (by omega)],?_,by rw [Ws,if_pos h]⟩
   show (if lacks ls (x++[(c:Int)])=true then _ else 0)=_
   rw [if_pos h]
  ·left
   refine⟨by rw [zbj];unfold plc;rw [if_neg h],?_,by rw [Ws,if_neg h]⟩
   show (if lacks ls (x++[(c:Int)])=true then _ else 0)=_
   rw [if_neg h]
 | none =>
  by_cases h0:c=0
  ·right
   refine⟨ws.length,ug ls b t,ttO ls b w sc t,0,by rw [vg,if_pos h0],Nat.le_refl _,?_,?_,by rw [if_pos rfl],?_,by rw [qC,if_pos h0]⟩
   ·unfold xf
    rw [List.getElem?_append_right (by rw [List.length_map];exact Nat.le_refl _),List.length_map,Nat.sub_self]
    rfl
   ·unfold Z1
    rw [List.getElem?_append_right (by rw [List.length_map];exact Nat.le_refl _),List.length_map,Nat.sub_self]
    rfl
   ·show (if c=0 then _ else _)=_
    rw [if_pos h0];omega
  ·by_cases h:lacks ls [(c:Int)]=true
   ·right
    obtain⟨j,h1,h2,h3,h4⟩:=at_ _ h
    refine⟨j,_,_,sc^t*w c,by rw [vg,if_neg h0];exact h1,Nat.le_of_lt h2,h3,h4,by rw [if_neg (by omega)],?_,by rw [qC,if_neg h0,if_pos h]⟩
    show (if c=0 then _ else if lacks ls [(c:Int)]=true then _ else 0)=_
    rw [if_neg h0,if_pos h]
   ·left
    refine⟨?_,?_,by rw [qC,if_neg h0,if_neg h]⟩
    ·rw [vg,if_neg h0];unfold plc;rw [if_neg h]
    ·show (if c=0 then _ else if lacks ls [(c:Int)]=true then _ else 0)=_
     rw [if_neg h0,if_neg h]
structure RowsAt (H:Hp) (a:Addr) (rs:ZA):Prop where
 ex:∃ zs:ZB,H a=some (.lst (zs.map λz=>V.ref z.1))/\(∀ z∈zs,H z.1=some (.lst (z.2.map V.int)))/\zs.map (·.2)=rs
theorem RowsAt.same {H H':Hp} {a:Addr} {rs:ZA} (R:RowsAt H a rs) (m:Same H H'):RowsAt H' a rs:=by
 obtain⟨zs,h1,h2,h3⟩:=R.ex
 exact⟨⟨zs,m _ _ h1,λz hz=>m _ _ (h2 z hz),h3⟩⟩
theorem RowsAt.get {H:Hp} {a:Addr} {rs:ZA} (R:RowsAt H a rs) {k:Nat} {r:List Int} (h:rs[k]?=some r):∃ (zs:List V) (q:Addr),H a=some (.lst zs)/\atI zs (k:Int)=some (V.ref q)/\H q=some (.lst (r.map V.int)):=by
 obtain⟨zs,h1,h2,h3⟩:=R.ex
 rw [<- h3,List.getElem?_map] at h
 obtain⟨z,hz,e⟩:=Option.map_eq_some_iff.mp h
 subst e
 exact⟨_,z.1,h1,yI (by rw [List.getElem?_map,hz];rfl),h2 z (List.mem_of_getElem? hz)⟩
section
variable {P:Program} {w:World} {K:W.Frag} {mg:Str->Option Value} {base:Heap} {T0 C CS:Addr}
def uy:Sp:=λvs H Q _=>∃ (wl:Addr) (b:Nat) (w:Nat->Nat) (sc sz:Nat),vs=[.ref wl,.int sc,.int sz]/\H wl=some (.lst ((vC b w sc 0).map V.int))/\b<=16/\sc<=16/\sz<=900/\∀ (q:Addr) (H':Hp),H q=none->RowsAt H' q ((List.range sz).map (vC b w sc))->Same H H'->Q (.ref q) H'
theorem wD:zF ["weights","scale","size","told","left"] ["weights","scale","size"] (zu xH):={}
theorem Wl {f:Addr} {fd:FuncData} (D:Df K mg "weights_by_left" xH A1 f fd) (T:Blt mg):FnOk P w K mg base CX0 1 f fd A1 uy:=by
 refine D.fn.ok wD (λvs H Q E h=>?_) (λcdv A outer s H vs Q E hr h=>?_)
 ·obtain⟨wl,b,w,sc,sz,rfl,_⟩:=h;rfl
 ·obtain⟨wl,b,wt,sc,sz,rfl,hw,hb,hsc,hsz,kk⟩:=h
  refine⟨_,(zp (zB (i:=3) wD.nd rfl (Or.inl rfl) (zZ zg))
   (zp (yU PassesOwn.never rfl (yg rfl T.n_range (zc (pv 2) zg)) (zQ (i:=4) wD.nd rfl (Or.inl rfl))
    (zp (xP (Zq PySem.F.plainAttrs_list PySem.F.slot_list_append PySem.F.type_list_append xF (pv 3) (zc (pv 0) zg)))
    (zx (qw (i:=0) (show CScope (zu xH) _ "weight" ["weights","scale","size","told","left"] ["scale"] [1] from {}) rfl wD.nd rfl (Or.inl rfl) (Yt K (pv 0)) (λ_ _ _ _=>yJ) (λ_ _ _ _=>(zA wu (pv 1) (pv 0)))))))
   (zx (zL (pv 3))))),?_⟩
  refine⟨(by decide:0<=sizeLine),λto hto=>?_⟩
  have m1:=zj hto (o:=.lst [])
  refine⟨_,rfl,_,rfl,by omega,by omega,yH (lo:=0) (n:=(sz:Int).toNat) (λi Z H2=>∃ (v4:Option V) (wi:Addr) (zs:ZB),Z=[some (.ref wi),some (.int sc),some (.int sz),some (.ref to),v4]/\wi≠to/\H2 wi=some (.lst ((vC b wt sc i).map V.int))/\H2 to=some (.lst (zs.map λz=>V.ref z.1))/\(∀ z∈zs,z.1≠to/\H2 z.1=some (.lst (z.2.map V.int)))/\zs.map (·.2)=(List.range i).map (vC b wt sc)/\Same H H2)
   ⟨none,wl,[],rfl,zy hw hto,m1 _ _ hw,zf,by simp,rfl,m1⟩ ?_ ?_⟩
  ·rintro i Z H2 hi ⟨v4,wi,zs,rfl,nw,hwi,hto2,hzs,ezs,m2⟩
   have hzl:zs.length=i:=by have:=congrArg List.length ezs;rwa [List.length_map,List.length_map,List.length_range] at this
   refine⟨_,rfl,.inl ⟨rfl,_,SqL.of hto2⟩,_,rfl,to,_,_,rfl,rfl,hto2,by rw [List.length_map,hzl];exact Nat.lt_of_lt_of_le (show i<1000 by omega) (by decide),?_⟩
   have m3:Same H (upd H2 to (.lst (zs.map (λz=>V.ref z.1)++[V.ref wi]))):=λc o e=>by rw [zq (zy e hto)];exact m2 c o e
   have hwi3:upd H2 to (.lst (zs.map (λz=>V.ref z.1)++[V.ref wi])) wi=some (.lst ((vC b wt sc i).map V.int)):=by rw [zq nw];exact hwi
   have hz3:∀ z∈zs++[(wi,vC b wt sc i)],z.1≠to/\upd H2 to (.lst (zs.map (λz=>V.ref z.1)++[V.ref wi])) z.1=some (.lst (z.2.map V.int)):=λz hz=>by
    rcases List.mem_append.mp hz with hz | hz
    ·exact⟨(hzs z hz).1,by rw [zq (hzs z hz).1];exact (hzs z hz).2⟩
    ·have e:z=(wi,vC b wt sc i):=by simpa using hz
     subst e;exact⟨nw,hwi3⟩
   have hto3:upd H2 to (.lst (zs.map (λz=>V.ref z.1)++[V.ref wi])) to=some (.lst ((zs++[(wi,vC b wt sc i)]).map λz=>V.ref z.1)):=by rw [zf];simp
   generalize upd H2 to (.lst (zs.map (λz=>V.ref z.1)++[V.ref wi]))=H3 at m3 hwi3 hz3 hto3
   refine⟨_,rfl,wi,rfl,⟨_,SqL.of hwi3⟩,xm (K:=K) (a:=wi) (xs:=(vC b wt sc i).map V.int) (λk ys H4=>H4=H3/\ys=((vC b wt sc (i+1)).take k).map V.int) ⟨rfl,rfl⟩ (λk ys H4 _ ⟨e,_⟩=>by rw [e];exact SqL.of hwi3) ?_ ?_⟩
   ·rintro k x ys H4 hx ⟨rfl,rfl⟩
    unfold vC at hx
    rw [List.getElem?_map,List.getElem?_map] at hx
    obtain⟨y,hy,e⟩:=Option.map_eq_some_iff.mp hx
    obtain⟨c,hc,e2⟩:=Option.map_eq_some_iff.mp hy
    subst e2;subst e
    have hk:k<b:=by have:=(List.getElem?_eq_some_iff.mp hc).1;rwa [List.length_range] at this
    have ec:c=k:=by rw [List.getElem?_range hk] at hc;exact (Option.some.inj hc).symm
    subst ec
    refine⟨by rw [List.length_map];exact Nat.lt_of_le_of_lt (Nat.le_trans (List.length_take_le' _ _) (by unfold vC;rw [List.length_map,List.length_range];exact hb)) (by decide),?_⟩
    unfold jl
    dsimp only
    rw [if_pos rfl]
    refine⟨_,rfl,_,rfl,_,_,rfl,rfl,.inl ⟨by omega,by omega⟩,rfl,?_⟩
    have e3:(vC b wt sc (i+1))[c]?=some ((sc:Int)*((sc^i*wt c:Nat):Int)):=by
     unfold vC
     rw [List.getElem?_map,List.getElem?_range hk,Option.map_some,Nat.pow_succ',Nat.mul_assoc,Int.natCast_mul]
    rw [List.take_succ,e3,List.map_append]
    rfl
   ·rintro ys H4 ⟨rfl,rfl⟩ q hq
    have m4:=zj hq (o:=.lst (((vC b wt sc (i+1)).take ((vC b wt sc i).map V.int).length).map V.int))
    have nq:q≠to:=Ne.symm (zy hto3 hq)
    have etk:(vC b wt sc (i+1)).take ((vC b wt sc i).map V.int).length=vC b wt sc (i+1):=List.take_of_length_le (by unfold vC;simp)
    refine⟨_,q,zs++[(wi,vC b wt sc i)],rfl,nq,by rw [zf,etk],m4 _ _ hto3,λz hz=>⟨(hz3 z hz).1,m4 _ _ (hz3 z hz).2⟩,?_,m3.trans m4⟩
    rw [List.map_append,ezs,List.range_succ,List.map_append]
    rfl
  ·rintro Z H2 ⟨v4,wi,zs,rfl,nw,hwi,hto2,hzs,ezs,m2⟩
   exact⟨_,rfl,kk to H2 hto ⟨⟨zs,hto2,λz hz=>(hzs z hz).2,by rw [ezs,Int.toNat_natCast]⟩⟩ m2⟩
end
structure TotAt (C CS:Addr) (H:Hp) (p tl la wa l2:Addr) (b:Nat) (ls ws:ZA) (L:Nat) (wt:Nat->Nat) (sc sz M:Nat):Prop where
 ob:∃ dx,aw [la,l2] H p=some (.ins CS dx (Y9 tl wa l2))
 ta:TailsAt C H tl la b ls ws L
 sa:∃ dx sa,aw [la,l2] H tl=some (.ins C dx (Xw b ws.length sa la))/\sa≠l2
 wr:RowsAt (aw [la,l2] H) wa ((List.range sz).map (vC b wt sc))
 ly:∃ zs:ZB,H l2=some (.lst (zs.map λz=>V.ref z.1))/\(∀ z∈zs,aw [la,l2] H z.1=some (.lst (z.2.map V.int)))/\zs.map (·.2)=(List.range M).map (Z1 ls ws b wt sc)
 ne:la≠l2
theorem zfK {la l2:Addr} {H H':Hp} (m:Same (aw [la] H) (aw [la] H')):Same (aw [la,l2] H) (aw [la,l2] H'):=λc o e=>by
 have hc:c∉[la,l2]:=λhc=>by rw [Y8 hc] at e;cases e
 have hc1:c∉[la]:=λz=>hc (by simp at z;simp [z])
 rw [yc hc] at e ⊢
 have:=m c o (by rw [yc hc1];exact e)
 rwa [yc hc1] at this
section
variable {C CS:Addr} {H H':Hp} {p tl la wa l2:Addr} {b:Nat} {ls ws:ZA} {L L':Nat} {wt:Nat->Nat} {sc sz M:Nat}
theorem TotAt.more (A:TotAt C CS H p tl la wa l2 b ls ws L wt sc sz M) (TA:TailsAt C H' tl la b ls ws L') (m:Same (aw [la] H) (aw [la] H')):TotAt C CS H' p tl la wa l2 b ls ws L' wt sc sz M:=by
 have m2:=zfK (l2:=l2) m
 obtain⟨dx,h1⟩:=A.ob
 obtain⟨dx2,sa,h2,h3⟩:=A.sa
 obtain⟨zs,g1,g2,g3⟩:=A.ly
 have hn:l2∉[la]:=by simpa using Ne.symm A.ne
 exact⟨⟨dx,m2 _ _ h1⟩,TA,⟨dx2,sa,m2 _ _ h2,h3⟩,A.wr.same m2,⟨zs,by
  have:=m l2 _ (by rw [yc hn];exact g1)
  rwa [yc hn] at this,λz hz=>m2 _ _ (g2 z hz),g3⟩,A.ne⟩
theorem TotAt.same (A:TotAt C CS H p tl la wa l2 b ls ws L wt sc sz M) (m:Same H H'):TotAt C CS H' p tl la wa l2 b ls ws L wt sc sz M:=A.more (A.ta.same m) (m.aw [la])
theorem TotAt.obj (A:TotAt C CS H p tl la wa l2 b ls ws L wt sc sz M):∃ dx,H p=some (.ins CS dx (Y9 tl wa l2)):=let ⟨dx,h⟩:=A.ob;⟨dx,zX _ _ _ _ h⟩
theorem TotAt.lay (A:TotAt C CS H p tl la wa l2 b ls ws L wt sc sz M) {t:Nat} (ht:t<M):∃ (zs:List V) (q:Addr),H l2=some (.lst zs)/\atI zs (t:Int)=some (V.ref q)/\aw [la] H q=some (.lst ((Z1 ls ws b wt sc t).map V.int)):=by
 obtain⟨zs,g1,g2,g3⟩:=A.ly
 have h:((List.range M).map (Z1 ls ws b wt sc))[t]?=some (Z1 ls ws b wt sc t):=by rw [List.getElem?_map,List.getElem?_range ht];rfl
 rw [<- g3,List.getElem?_map] at h
 obtain⟨z,hz,e⟩:=Option.map_eq_some_iff.mp h
 refine⟨_,z.1,g1,yI (by rw [List.getElem?_map,hz];rfl),?_⟩
 have:=g2 z (List.mem_of_getElem? hz)
 rw [e] at this
 have hc:z.1∉[la,l2]:=λhc=>by rw [Y8 hc] at this;cases this
 rw [yc hc] at this
 rw [yc (λz=>hc (by simp at z;simp [z]))]
 exact this
end
theorem zag (ls:ZA) (b:Nat):∀ (t:Nat) (x:List Int),cnt ls b t x<=b^t
 | 0,_=>by simp [cnt]
 | t+1,x=>by
  rw [cnt,Nat.pow_succ']
  have:∀ (n:Nat),((List.range n).map λ(c:Nat)=>if lacks ls (x++[(c:Int)])=true then cnt ls b t (zO ls (x++[(c:Int)])) else 0).sum<=n*b^t:=by
   intro n
   induction n with
   | zero=>simp
   | succ n ih =>
    rw [List.range_succ,List.map_append,List.sum_append,Nat.succ_mul]
    simp only [List.map_cons,List.map_nil,List.sum_cons,List.sum_nil,Nat.add_zero]
    have:(if lacks ls (x++[(n:Int)])=true then cnt ls b t (zO ls (x++[(n:Int)])) else 0)<=b^t:=by
     split
     ·exact zag ls b t _
     ·exact Nat.zero_le _
    omega
  exact this b
theorem zb0 (p:Nat->Bool):∀ N:Nat,many p N<=N
 | 0=>Nat.le_refl _
 | N+1=>by
  rw [many]
  have:=zb0 p N
  split<;>omega
theorem zed {ls:ZA} (ne:∀ l∈ls,l≠[]) {b:Nat} (h2:2<=b) (t:Nat) (o:Option (List Int)) (c:Nat):tV ls b t o c<=b^t:=by
 cases o with
 | some x =>
  show (if _ then _ else 0)<=_
  split
  ·exact zag ls b t _
  ·exact Nat.zero_le _
 | none =>
  show (if c=0 then _ else if _ then _ else 0)<=_
  split
  ·rw [W8 ne h2];exact zb0 _ _
  ·split
   ·exact zag ls b t _
   ·exact Nat.zero_le _
theorem zfi {b t:Nat} (h:b<=16) (ht:t<=1000):b^t<2^4001:=by
 have h1:b^t<=16^t:=Nat.pow_le_pow_left h t
 have h2:(16:Nat)^t=2^(4*t):=by rw [show (16:Nat)=2^4 from rfl,<- Nat.pow_mul]
 have h3:2^(4*t)<2^4001:=Nat.pow_lt_pow_right (Nat.lt_succ_self 1) (by omega)
 omega
section
variable {P:Program} {w:World} {K:W.Frag} {mg:Str->Option Value} {base:Heap} {T0 C CS:Addr}
def jG (C CS:Addr):Sp:=λvs H Q _=>∃ (p tl la wa l2:Addr) (b:Nat) (ls ws:ZA) (L:Nat) (wt:Nat->Nat) (sc sz M j c t:Nat),vs=[.ref p,.int j,.int c,.int t]/\TotAt C CS H p tl la wa l2 b ls ws L wt sc sz M/\c<b/\t<sz/\Q (.int ((if j=ws.length then 0 else sc^t*wt c:Nat):Int)) H
theorem Xz:zF ["self","behind","figure","left"] ["self","behind","figure","left"] (zu xq):={}
theorem JC {f:Addr} {fd:FuncData} (D:Mt K CS "Totals.weight_of" "weight_of" xq Am f fd) (zK:ClT K mg C) (zH:ClS K mg CS):FnOk P w K mg base CX0 1 f fd Am (jG C CS):=by
 refine D.fn.ok Xz (λvs H Q E h=>?_) (λcdv A outer s H vs Q E hr h=>?_)
 ·obtain⟨p,tl,la,wa,l2,b,ls,ws,L,wt,sc,sz,M,j,c,t,rfl,_⟩:=h;rfl
 ·obtain⟨p,tl,la,wa,l2,b,ls,ws,L,wt,sc,sz,M,j,c,t,rfl,TT,hc,ht,kk⟩:=h
  obtain⟨dx,hp⟩:=TT.obj
  obtain⟨dt,sa,htl⟩:=TT.ta.obj
  obtain⟨zs,q,w1,w2,w3⟩:=TT.wr.get (k:=t) (r:=vC b wt sc t) (by rw [List.getElem?_map,List.getElem?_range ht];rfl)
  refine⟨_,(zp (xr (ym ZP (pv 1) (wy K (wy K (pv 0))) (ye _))
    (zx (zL zm))
    yj)
   (zx (zL (zP (yo K) (zP (yo K) (wy K (pv 0)) (pv 3) (λ_ _=>rfl)) (pv 2) (λ_ _=>rfl))))),?_⟩
  refine⟨_,rfl,_,rfl,p,CS,dx,_,_,rfl,hp,zH.cl,zH.n_tails,ux _ _ _,tl,C,dt,_,_,rfl,htl,zK.cl,zK.n_outset,uC _ _ _ _,rfl,_,rfl,?_⟩
  refine J5 (λh=>?_) (λh=>?_)
  ·have e:j=ws.length:=by have z:=of_decide_eq_true h;injection z with z;omega
   rw [if_pos e] at kk
   exact kk
  ·have e:¬ j=ws.length:=λz=>h (decide_eq_true (by rw [z]))
   rw [if_neg e] at kk
   refine⟨_,rfl,p,CS,dx,_,_,rfl,hp,zH.cl,zH.n_weights,JK _ _ _,_,rfl,wa,_,_,V.ref q,rfl,rfl,SqL.of (zX _ _ _ _ w1),w2,_,rfl,q,_,_,V.int ((sc^t*wt c:Nat):Int),rfl,rfl,SqL.of (zX _ _ _ _ w3),yI ?_,kk⟩
   unfold vC
   rw [List.getElem?_map,List.getElem?_map,List.getElem?_range hc]
   rfl
def SQ (C CS:Addr) (H:Hp) (p tl la wa l2:Addr) (b:Nat) (ls ws:ZA) (L:Nat) (wt:Nat->Nat) (sc sz M:Nat) (R:Nat->Hp->Prop):Prop:=∀ (L':Nat) (H':Hp),L<=L'->TotAt C CS H' p tl la wa l2 b ls ws L' wt sc sz M->Same (aw [la] H) (aw [la] H')->R L' H'
def uR (C CS:Addr):Sp:=λvs H Q _=>∃ (p tl la wa l2:Addr) (b:Nat) (ls ws:ZA) (L:Nat) (wt:Nat->Nat) (sc sz M i s t ah:Nat),vs=[.ref p,.int i,.int s,.int t,.int ah]/\TotAt C CS H p tl la wa l2 b ls ws L wt sc sz M/\GoodT b ls ws/\L<=1000/\t<900/\t<sz/\t<M/\i<=ws.length/\s<=b/\sc<=16/\(∀ c,c<b->wt c<2^64)/\ah<2^5000 /\
 SQ C CS H p tl la wa l2 b ls ws L wt sc sz M λL' H'=>L'<=max L (t+1)->Q (.int ((ah*under ls b t ws[i]? s+tK ls b wt sc t ws[i]? s:Nat):Int)) H'
theorem yf:zF ["self","place","stop","left","ahead","counts","totals","total","figure","behind","weight"] ["self","place","stop","left","ahead"] (zu yX):={}
set_option maxHeartbeats 0 in
theorem Uq {f f1 f2:Addr} {fd fd1 fd2:FuncData} (D:Mt K CS "Totals.total_under" "total_under" yX Ao f fd) (xJ:Mt K C "Tails.layer" "layer" wW Ae f1 fd1) (uJ:FnOk P w K mg base CX0 2 f1 fd1 Ae (Ww C)) (yM:Mt K CS "Totals.weight_of" "weight_of" xq Am f2 fd2) (yZ:FnOk P w K mg base CX0 1 f2 fd2 Am (jG C CS)) (zK:ClT K mg C) (zH:ClS K mg CS) (T:Blt mg):FnOk P w K mg base CX0 3 f fd Ao (uR C CS):=by
 refine D.fn.ok yf (λvs H Q E h=>?_) (λcdv A outer s H vs Q E hr h=>?_)
 ·obtain⟨p,tl,la,wa,l2,b,ls,ws,L,wt,sc,sz,M,i,s,t,ah,rfl,_⟩:=h;rfl
 ·obtain⟨p,tl,la,wa,l2,b,ls,ws,L,wt,sc,sz,M,i,s,t,ah,rfl,TT,G,hL,ht,hts,htM,hi,hs,hsc,hwt,hah,kk⟩:=h
  have b2:=G.g.b2
  have b16:=G.g.b16
  obtain⟨dx,hp⟩:=TT.obj
  obtain⟨dt,sa0,htl⟩:=TT.ta.obj
  refine⟨_,(zp (zB (i:=5) yf.nd rfl (Or.inl rfl) (Y0 xJ zK.cl uJ (hr.mono (by decide)) (wy K (pv 0)) (zc (pv 3) zg)))
   (zp (zB (i:=6) yf.nd rfl (Or.inl rfl) (zP (yo K) (wy K (pv 0)) (pv 3) (λ_ _=>rfl)))
   (zp (zB (i:=7) yf.nd rfl (Or.inl rfl) zm)
   (zp (yU PassesOwn.never rfl (V7 K rfl T.n_enumerate (zc (wz (Xb K) (zP (yo K) (wy K (wy K (pv 0))) (pv 1) (λ_ _=>rfl)) uW (wF (pv 2))) zg)) (J3 rfl (yG (zQ (i:=8) yf.nd rfl (Or.inl rfl)) (yG (zQ (i:=9) yf.nd rfl (Or.inl rfl)) qK)))
    (zx (xr (ym W3 (pv 9) jW (ye _))
     (zp (zB (i:=10) yf.nd rfl (Or.inl rfl) (zA yq (pv 4) (Y0 yM zH.cl yZ (hr.mono (by decide)) (pv 0) (zc (pv 9) (zc (pv 8) (zc (pv 3) zg))))))
     (zx (zbZ (i:=7) yf.nd rfl (Or.inl rfl) (zA yq (zA zb1 (pv 10) (zP (yo K) (pv 5) (pv 9) (λ_ _=>rfl))) (zP (yo K) (pv 6) (pv 9) (λ_ _=>rfl))) zbx)))
     yj)))
   (zx (zL (pv 7))))))),?_⟩
  refine⟨_,rfl,p,CS,dx,_,_,rfl,hp,zH.cl,zH.n_tails,ux _ _ _,tl,dt,_,rfl,htl,V1 _ _ _ _,_,rfl,tl,la,b,ls,ws,L,t,rfl,TT.ta,G,hL,by omega,λlay L1 H1 hL1 TA1 m1 hmx hlay=>?_⟩
  have TT1:=TT.more TA1 m1
  obtain⟨dx1,hp1⟩:=TT1.obj
  obtain⟨zs,tq,g1,g2,g3⟩:=TT1.lay htM
  refine⟨_,rfl,p,CS,dx1,_,_,rfl,hp1,zH.cl,zH.n_layers,VB _ _ _,_,rfl,l2,_,_,V.ref tq,rfl,rfl,SqL.of g1,g2,?_⟩
  obtain⟨dt1,sa,srs,h1,h2,h3,h4⟩:=TA1.ob
  have hrow:=Ym (ls:=ls) (b:=b) (by omega) hi
  rw [<- h4,List.getElem?_map] at hrow
  obtain⟨z,hz,ez⟩:=Option.map_eq_some_iff.mp hrow
  have hz3:=zX _ _ _ _ (h3 z (List.mem_of_getElem? hz))
  refine⟨_,rfl,p,CS,dx1,_,_,rfl,hp1,zH.cl,zH.n_tails,ux _ _ _,tl,C,dt1,_,_,rfl,zX _ _ _ _ h1,zK.cl,zK.n_steps,tX _ _ _ _,_,rfl,sa,_,_,V.ref z.1,rfl,rfl,SqL.of (zX _ _ _ _ h2),yI (by rw [List.getElem?_map,hz];rfl),?_⟩
  refine⟨_,rfl,_,rfl,z.1,_,rfl,SqL.of hz3,λq hq=>?_⟩
  have ecut:uV z.2 none (some (s:Int))=(List.range s).map (stepV ls ws ws[i]?):=by
   rw [qu,ez,<- List.map_take,List.take_range,Nat.min_eq_left hs]
  rw [ecut]
  have m2:=zj hq (o:=.lst ((List.range s).map (stepV ls ws ws[i]?)))
  have TT2:=TT1.same m2
  have hq2:upd H1 q (.lst ((List.range s).map (stepV ls ws ws[i]?))) q=some (.lst ((List.range s).map (stepV ls ws ws[i]?))):=zf
  have hlay2:=m2 _ _ (zX _ _ _ _ hlay)
  have htq2:=m2 _ _ (zX _ _ _ _ g3)
  generalize upd H1 q (.lst ((List.range s).map (stepV ls ws ws[i]?)))=H2 at m2 TT2 hq2 hlay2 htq2
  refine⟨q,rfl,⟨_,SqL.of hq2⟩,UJ (K:=K) (a:=q) (xs:=(List.range s).map (stepV ls ws ws[i]?)) (λk Z H3=>∃ (v8 v9 v10:Option V),Z=[some (.ref p),some (.int i),some (.int s),some (.int t),some (.int ah),some (.ref lay),some (.ref tq),some (.int ((ah*under ls b t ws[i]? k+tK ls b wt sc t ws[i]? k:Nat):Int)),v8,v9,v10]/\Same H2 H3)
   ⟨none,none,none,rfl,Same.refl _⟩ (λk Z H3 _ ⟨_,_,_,_,m⟩=>SqL.of (m _ _ hq2)) ?_ ?_⟩
  ·rintro k x Z H3 T1 hx ⟨v8,v9,v10,rfl,m3⟩ hT1
   rw [List.getElem?_map] at hx
   obtain⟨c,hc,e⟩:=Option.map_eq_some_iff.mp hx
   have hk:k<s:=by have:=(List.getElem?_eq_some_iff.mp hc).1;rwa [List.length_range] at this
   have ec:c=k:=by rw [List.getElem?_range hk] at hc;exact (Option.some.inj hc).symm
   subst ec
   subst e
   refine⟨T1,_,rfl,SqT.of zf,rfl,_,_,rfl,_,_,rfl,rfl,?_⟩
   have m4:=m3.trans (zj hT1 (o:=.tup [.int (c:Nat),stepV ls ws ws[i]? c]))
   generalize upd H3 T1 (.tup [.int (c:Nat),stepV ls ws ws[i]? c])=H4 at m4
   have hus:=uz ls b t ws[i]? c
   have hut:=qU ls b wt sc t ws[i]? c
   rcases zbc (t:=t) (w:=wt) (sc:=sc) G (c:=c) hi with ⟨e1,e2,e3⟩ | ⟨j,xx,y,zz,e1,e2,e3,e4,e5,e6,e7⟩
   ·rw [e1]
    refine⟨_,rfl,rfl,_,rfl,xX ⟨some (.int (c:Nat)),some .non,v10,?_,m4⟩⟩
    rw [hus,hut,e2,e3]
    rfl
   ·rw [e1]
    refine⟨_,rfl,rfl,_,rfl,vL ?_⟩
    have TT4:=TT2.same m4
    obtain⟨dx4,hp4⟩:=TT4.obj
    refine⟨_,rfl,_,rfl,p,dx4,_,rfl,hp4,Xm _ _ _,_,rfl,_,rfl,_,rfl,p,tl,la,wa,l2,b,ls,ws,L1,wt,sc,sz,M,j,c,t,rfl,TT4,by omega,hts,?_⟩
    rw [<- e5]
    have hzz:zz<2^5000:=by
     rw [e5]
     split
     ·exact Nat.pow_pos (by decide)
     ·have a1:=zfi (b:=sc) hsc (show t<=1000 by omega)
      have a2:=hwt c (by omega)
      exact Nat.lt_of_lt_of_le (Nat.mul_lt_mul'' a1 a2) (by rw [<- Nat.pow_add];exact Nat.pow_le_pow_right (Nat.le_succ 1) (by decide))
    have hxx:xx<2^4001:=by
     have:=zed G.ne b2 t ws[i]? c
     rw [e7] at this
     exact Nat.lt_of_le_of_lt this (zfi b16 (by omega))
    have haz:ah+zz<2^5001:=by rw [Nat.pow_succ];omega
    refine⟨_,_,rfl,rfl,?_⟩
    refine⟨_,rfl,_,rfl,_,rfl,_,rfl,lay,_,_,V.int ((xx:Nat):Int),rfl,rfl,SqL.of (m4 _ _ hlay2),yI (by rw [List.getElem?_map,e3];rfl),_,_,rfl,rfl,(CMulB.nat (i:=ah+zz) (j:=xx) haz hxx (by decide) (by decide):CMulB ((ah+zz:Nat):Int) (xx:Int)),?_⟩
    refine⟨_,rfl,_,rfl,tq,_,_,V.int ((y:Nat):Int),rfl,rfl,SqL.of (m4 _ _ htq2),yI (by rw [List.getElem?_map,e4];rfl),_,_,rfl,rfl,_,_,rfl,rfl,some (.int (c:Nat)),some (.int (j:Nat)),some (.int ((ah+zz:Nat):Int)),?_,m4⟩
    have ev:((ah*under ls b t ws[i]? (c+1)+tK ls b wt sc t ws[i]? (c+1):Nat):Int)=((ah*under ls b t ws[i]? c+tK ls b wt sc t ws[i]? c:Nat):Int)+(((ah+zz:Nat):Int)*(xx:Int)+(y:Int)):=by
     rw [hus,hut,e6,e7,<- Int.natCast_mul,<- Int.natCast_add,<- Int.natCast_add]
     congr 1
     rw [Nat.mul_add,Nat.add_mul]
     omega
    rw [ev]
    rfl
  ·rintro Z H3 ⟨v8,v9,v10,rfl,m3⟩
   rw [List.length_map,List.length_range]
   exact⟨_,rfl,kk L1 H3 hL1 (TT2.same m3) (m1.trans ((m2.trans m3).aw [la])) hmx⟩
end
theorem JX {ls ws:ZA} {b:Nat} (G:GoodT b ls ws) {r:List V} (hr:r∈Z8 ls ws b) {a:Addr}:V.ref a∉r:=by
 obtain⟨i,hi,e⟩:=List.mem_iff_getElem.mp hr
 have hlen:(Z8 ls ws b).length=ws.length+1:=by unfold Z8;rw [List.length_append,List.length_map,List.length_singleton]
 have hi':i<=ws.length:=by omega
 have h:=Ym (ls:=ls) (b:=b) (by have:=G.g.b2;omega) hi'
 rw [List.getElem?_eq_getElem hi,e] at h
 have h':=Option.some.inj h
 intro hm
 rw [h'] at hm
 obtain⟨c,_,hc⟩:=List.mem_map.mp hm
 rcases Vq (b:=b) (t:=0) G (c:=c) hi' with ⟨e1,_⟩ | ⟨j,e1,_⟩
 ·rw [e1] at hc;cases hc
 ·rw [e1] at hc;cases hc
theorem TailsAt.updL {C tl la b l2:Nat} {H:Hp} {ls ws:ZA} {L:Nat} {o:HO} {r0:Addr} {rest:List V} (TA:TailsAt C H tl la b ls ws L) (G:GoodT b ls ws) (h:H l2=some (.lst (V.ref r0 :: rest))) (hne:la≠l2) (hsa:∃ dx sa,H tl=some (.ins C dx (Xw b ws.length sa la))/\sa≠l2):TailsAt C (upd H l2 o) tl la b ls ws L:=by
 obtain⟨dx,sa,srs,h1,h2,h3,h4⟩:=TA.ob
 obtain⟨lrs,g1,g2,g3⟩:=TA.ly
 obtain⟨dx',sa',k1,k2⟩:=hsa
 have esa:sa'=sa:=by
  have:=zX _ _ _ _ h1
  rw [k1] at this
  injection this with this
  injection this with _ _ this
  have e:=tX b ws.length sa la
  rw [<- this,tX] at e
  injection e with e
  injection e
 have go:∀ c u,c≠l2->aw [la] H c=some u->aw [la] (upd H l2 o) c=some u:=λc u hc e=>by
  have hcl:c∉[la]:=λhz=>by rw [Y8 hz] at e;cases e
  rw [yc hcl] at e ⊢
  rw [zq hc];exact e
 refine⟨⟨dx,sa,srs,go _ _ (λz=>?_) h1,go _ _ (λz=>k2 (by rw [esa,z])) h2,λz hz=>go _ _ (λy=>?_) (h3 z hz),h4⟩,⟨lrs,by rw [zq hne];exact g1,λz hz=>go _ _ (λy=>?_) (g2 z hz),g3⟩,TA.l1⟩
 ·have:=zX _ _ _ _ h1
  rw [z,h] at this;cases this
 ·have e:=zX _ _ _ _ (h3 z hz)
  rw [y,h] at e
  injection e with e
  injection e with e
  have hm:z.2∈Z8 ls ws b:=by rw [<- h4];exact List.mem_map.mpr ⟨z,hz,rfl⟩
  exact JX G hm (a:=r0) (by rw [<- e];exact List.mem_cons_self)
 ·have e:=zX _ _ _ _ (g2 z hz)
  rw [y,h] at e
  injection e with e
  injection e with e
  cases hz2:z.2 with
  | nil=>rw [hz2] at e;cases e
  | cons a l=>rw [hz2,List.map_cons] at e;injection e with e _;cases e
theorem TailsAt.updI {C tl la b p CS dxp:Nat} {H:Hp} {ls ws:ZA} {L:Nat} {o:HO} {fs:List (Str×V)} (TA:TailsAt C H tl la b ls ws L) (h:H p=some (.ins CS dxp fs)) (hne:tl≠p):TailsAt C (upd H p o) tl la b ls ws L:=by
 obtain⟨dx,sa,srs,h1,h2,h3,h4⟩:=TA.ob
 obtain⟨lrs,g1,g2,g3⟩:=TA.ly
 have nl:∀ {c:Addr} {xs:List V},H c=some (.lst xs)->c≠p:=λe z=>by rw [z,h] at e;cases e
 have go:∀ c u,c≠p->aw [la] H c=some u->aw [la] (upd H p o) c=some u:=λc u hc e=>by
  have hcl:c∉[la]:=λhz=>by rw [Y8 hz] at e;cases e
  rw [yc hcl] at e ⊢
  rw [zq hc];exact e
 exact⟨⟨dx,sa,srs,go _ _ hne h1,go _ _ (nl (zX _ _ _ _ h2)) h2,λz hz=>go _ _ (nl (zX _ _ _ _ (h3 z hz))) (h3 z hz),h4⟩,⟨lrs,by rw [zq (nl g1)];exact g1,λz hz=>go _ _ (nl (zX _ _ _ _ (g2 z hz))) (g2 z hz),g3⟩,TA.l1⟩
theorem RowsAt.updI {H:Hp} {a p CS dxp:Addr} {rs:ZA} {o:HO} {fs:List (Str×V)} (R:RowsAt H a rs) (h:H p=some (.ins CS dxp fs)):RowsAt (upd H p o) a rs:=by
 obtain⟨zs,h1,h2,h3⟩:=R.ex
 have nl:∀ {c:Addr} {xs:List V},H c=some (.lst xs)->c≠p:=λe z=>by rw [z,h] at e;cases e
 exact⟨⟨zs,by rw [zq (nl h1)];exact h1,λz hz=>by rw [zq (nl (h2 z hz))];exact h2 z hz,h3⟩⟩
theorem LT.putI {T p CS dx:Addr} {H:Hp} {o:HO} {fs:List (Str×V)} (h:LT T H) (e:H p=some (.ins CS dx fs)):LT T (upd H p o):=by
 have nT:p≠T:=λz=>by
  rw [z] at e
  rcases h with h | ⟨c,h,_⟩
  ·rw [h] at e;cases e
  ·rw [h] at e;cases e
 rcases h with h | ⟨c,h1,h2⟩
 ·exact .inl (by rw [zq (Ne.symm nT)];exact h)
 ·exact .inr ⟨c,by rw [zq (Ne.symm nT)];exact h1,by rw [zq (λz=>by rw [z,e] at h2;cases h2)];exact h2⟩
section
variable {C CS:Addr} {H H':Hp} {p tl la wa l2:Addr} {b:Nat} {ls ws:ZA} {L L':Nat} {wt:Nat->Nat} {sc sz M:Nat}
theorem TotAt.push (A:TotAt C CS H p tl la wa l2 b ls ws L wt sc sz M) (G:GoodT b ls ws) (hM:1<=M) {q:Addr} {xs:List V} (hx:H l2=some (.lst xs)) (hq:aw [la,l2] H q=some (.lst ((Z1 ls ws b wt sc M).map V.int))):TotAt C CS (upd H l2 (.lst (xs++[.ref q]))) p tl la wa l2 b ls ws L wt sc sz (M+1):=by
 obtain⟨dx,h1⟩:=A.ob
 obtain⟨dx2,sa,h2,h3⟩:=A.sa
 obtain⟨zs,g1,g2,g3⟩:=A.ly
 have ex:xs=zs.map λz=>V.ref z.1:=by
  rw [hx] at g1
  injection g1 with g1
  injection g1
 have hzl:zs.length=M:=by have:=congrArg List.length g3;rwa [List.length_map,List.length_map,List.length_range] at this
 have e0:=Yp (fp:=[la,l2]) (H:=H) (b:=l2) (o:=.lst (xs++[.ref q])) (by simp)
 obtain⟨z0,zr,ez⟩:∃ z0 zr,zs=z0 :: zr:=by
  cases zs with
  | nil=>simp at hzl;omega
  | cons a l=>exact⟨a,l,rfl⟩
 refine⟨⟨dx,by rw [e0];exact h1⟩,A.ta.updL G (r0:=z0.1) (rest:=zr.map λz=>V.ref z.1) (by rw [hx,ex,ez];rfl) A.ne ⟨dx2,sa,zX _ _ _ _ h2,h3⟩,⟨dx2,sa,by rw [e0];exact h2,h3⟩,by rw [e0];exact A.wr,⟨zs++[(q,Z1 ls ws b wt sc M)],by rw [zf,ex];simp,λz hz=>?_,?_⟩,A.ne⟩
 ·rw [e0]
  rcases List.mem_append.mp hz with hz | hz
  ·exact g2 z hz
  ·have e:z=(q,Z1 ls ws b wt sc M):=by simpa using hz
   subst e;exact hq
 ·rw [List.map_append,g3,List.range_succ,List.map_append]
  rfl
end
section
variable {P:Program} {w:World} {K:W.Frag} {mg:Str->Option Value} {base:Heap} {T0 C CS:Addr}
def jk (C CS:Addr):Sp:=λvs H Q _=>∃ (p tl la wa l2:Addr) (b:Nat) (ls ws:ZA) (L:Nat) (wt:Nat->Nat) (sc sz M t:Nat),vs=[.ref p,.int t]/\TotAt C CS H p tl la wa l2 b ls ws L wt sc sz M/\GoodT b ls ws/\L<=900/\t<900/\t<sz/\t<M/\sc<=16/\(∀ c,c<b->wt c<2^64) /\
 ∀ q,SQ C CS H p tl la wa l2 b ls ws L wt sc sz M λL' H'=>L'<=max L (t+1)->aw [la,l2] H' q=some (.lst ((Z1 ls ws b wt sc (t+1)).map V.int))->Q (.ref q) H'
theorem Z9:zF ["self","left"] ["self","left"] (zu yS):={}
set_option maxHeartbeats 0 in
theorem VN {f f1:Addr} {fd fd1:FuncData} (D:Mt K CS "Totals.longer_layer" "longer_layer" yS Ae f fd) (yw:Mt K CS "Totals.total_under" "total_under" yX Ao f1 fd1) (yP:FnOk P w K mg base CX0 3 f1 fd1 Ao (uR C CS)) (zK:ClT K mg C) (zH:ClS K mg CS) (T:Blt mg):FnOk P w K mg base CX0 4 f fd Ae (jk C CS):=by
 refine D.fn.ok Z9 (λvs H Q E h=>?_) (λcdv A outer s H vs Q E hr h=>?_)
 ·obtain⟨p,tl,la,wa,l2,b,ls,ws,L,wt,sc,sz,M,t,rfl,_⟩:=h;rfl
 ·obtain⟨p,tl,la,wa,l2,b,ls,ws,L,wt,sc,sz,M,t,rfl,TT,G,hL,ht,hts,htM,hsc,hwt,kk⟩:=h
  have h13:=G.h13
  obtain⟨dx,hp⟩:=TT.obj
  obtain⟨dt,sa0,htl⟩:=TT.ta.obj
  refine⟨_,(zx (zL (xK (show CScope (zu yS) _ "place" ["self","left"] ["left","self"] [1,0] from {}) rfl (yg rfl T.n_range (zc (zA yq (wy K (wy K (pv 0))) zm) zg)) (λ_ _ _ _=>yJ) (λ_ _ _ _=>(Y0 yw zH.cl yP (hr.mono (by decide)) (pv 2) (zc (pv 0) (zc (wy K (wy K (pv 2))) (zc (pv 1) (zc zm zg))))))))),?_⟩
  refine⟨_,rfl,p,CS,dx,_,_,rfl,hp,zH.cl,zH.n_tails,ux _ _ _,tl,C,dt,_,_,rfl,htl,zK.cl,zK.n_outset,uC _ _ _ _,_,_,rfl,rfl,((ws.length:Int)+1),rfl,by omega,by omega,wK (lo:=0) (n:=((ws.length:Int)+1).toNat) (λi ys H4=>∃ L',ys=(((List.range i).map λi=>((tK ls b wt sc t ws[i]? b:Nat):Int))).map V.int/\L<=L'/\L'<=max L (t+1)/\TotAt C CS H4 p tl la wa l2 b ls ws L' wt sc sz M/\Same (aw [la] H) (aw [la] H4)) ⟨L,rfl,Nat.le_refl _,Nat.le_max_left _ _,TT,Same.refl _⟩ ?_ ?_⟩
  ·rintro i ys H4 hi ⟨L',rfl,hLL,hLm,TT4,m4⟩
   refine⟨by rw [List.length_map,List.length_map,List.length_range];exact Nat.lt_of_lt_of_le (show i<20 by omega) (by decide),?_⟩
   unfold jl
   dsimp only
   rw [if_pos rfl]
   obtain⟨dx4,hp4⟩:=TT4.obj
   obtain⟨dt4,sa4,htl4⟩:=TT4.ta.obj
   refine⟨_,rfl,p,dx4,_,rfl,hp4,Xm _ _ _,_,rfl,_,rfl,p,CS,dx4,_,_,rfl,hp4,zH.cl,zH.n_tails,ux _ _ _,tl,C,dt4,_,_,rfl,htl4,zK.cl,zK.n_base,Q6 _ _ _ _,_,rfl,p,tl,la,wa,l2,b,ls,ws,L',wt,sc,sz,M,i,b,t,0,by rw [Int.zero_add];rfl,TT4,G,by omega,ht,hts,htM,by omega,Nat.le_refl _,hsc,hwt,Nat.pow_pos (by decide),λL5 H5 hL5 TT5 m5 hm5=>⟨L5,?_,by omega,by omega,TT5,m4.trans m5⟩⟩
   rw [List.range_succ,List.map_append,List.map_append,Nat.zero_mul,Nat.zero_add]
   rfl
  ·rintro ys H4 ⟨L',rfl,hLL,hLm,TT4,m4⟩ q hq
   rw [show ((ws.length:Int)+1).toNat=ws.length+1 by omega,zcZ]
   have m5:=zj hq (o:=.lst ((Z1 ls ws b wt sc (t+1)).map V.int))
   obtain⟨xs,hla⟩:=TT4.ta.la
   obtain⟨zs,hl2,_⟩:=TT4.ly
   exact kk q L' _ hLL (TT4.same m5) (m4.trans (m5.aw [la])) hLm (by rw [yc (by simp [Ne.symm (zy hla hq),Ne.symm (zy hl2 hq)]),zf])
end
theorem LT.putL2 {T p:Addr} {H:Hp} {o:HO} {xs:List V} (h:LT T H) (e:H p=some (.lst xs)):LT T (upd H p o) :=
 h.off e (by rw [Yp (by simp)];exact Same.refl _)
theorem Wf {α:Type} {f:α->V} (h:∀ a,f a=V.int 0):∀ l:List α,(List.replicate l.length [V.int 0]).flatten=l.map f
 | []=>rfl
 | a :: l=>by rw [List.length_cons,List.replicate_succ,List.flatten_cons,Wf h l,List.map_cons,h a];rfl
theorem zdk {ls ws:ZA} {b sc:Nat} {wt:Nat->Nat}:(Z1 ls ws b wt sc 0).map V.int=(List.replicate ws.length [V.int 0]).flatten++[V.int ((wt 0:Nat)*(ug ls b 0:Nat):Int)]:=by
 unfold Z1
 rw [List.map_append,List.map_map,Wf (f:=V.int ∘ λx=>((tt ls b wt sc 0 x:Nat):Int)) (λ_=>rfl) ws]
 congr 1
section
variable {P:Program} {w:World} {K:W.Frag} {mg:Str->Option Value} {base:Heap} {T0 C CS:Addr}
def Z7 (T0 C CS:Addr):Sp:=λvs H Q _=>∃ (p dx r:Addr) (b:Nat) (bl:Addr) (zs:ZB) (wl:Addr) (wt:Nat->Nat) (sc sz:Nat),vs=[.ref p,.ref r,.ref wl,.int sc,.int sz]/\H p=some (.ins CS dx [])/\RuleAt H r b bl zs/\yC b (zs.map (·.2))/\LT T0 H/\H wl=some (.lst ((vC b wt sc 0).map V.int))/\sc<=16/\sz<=800/\(∀ c,c<b->wt c<2^64) /\
 ∀ (tl la wa l2:Addr) (ws:ZA) (L:Nat) (H':Hp),TotAt C CS H' p tl la wa l2 b (zs.map (·.2)) ws L wt sc sz (sz+1)->GoodT b (zs.map (·.2)) ws->L<=801->(∀ c o,c≠p->c≠T0->H c=some o->H' c=some o)->LT T0 H'->H la=none->H l2=none->Q .non H'
theorem j4:zF ["self","rule","weights","scale","size","left"] ["self","rule","weights","scale","size"] (zu tO):={}
set_option maxHeartbeats 0 in
theorem zcD {f f1 f2 f3 f4:Addr} {fd fd1 fd2 fd3 fd4:FuncData} (D:Mt K CS "Totals.__init__" "__init__" tO Ap f fd) (zbP:Mk K C f1) (zbu:Binds K fd1 ["self","rule"] []) (Y6:FnOk P w K mg base CX0 7 f1 fd1 A0 (WY T0 C)) (vO:Df K mg "weights_by_left" xH A1 f2 fd2) (tZ:FnOk P w K mg base CX0 1 f2 fd2 A1 uy)
  (wG:Mt K C "Tails.many_within" "many_within" wg Au f3 fd3) (uv:FnOk P w K mg base CX0 3 f3 fd3 Au (j8 C)) (xM:Mt K CS "Totals.longer_layer" "longer_layer" yS Ae f4 fd4) (vD:FnOk P w K mg base CX0 4 f4 fd4 Ae (jk C CS)) (zK:ClT K mg C) (zH:ClS K mg CS) (T:Blt mg):FnOk P w K mg base CX0 9 f fd Ap (Z7 T0 C CS):=by
 refine D.fn.ok j4 (λvs H Q E h=>?_) (λcdv A outer s H vs Q E hr h=>?_)
 ·obtain⟨p,dx,r,b,bl,zs,wl,wt,sc,sz,rfl,_⟩:=h;rfl
 ·obtain⟨p,dx,r,b,bl,zs,wl,wt,sc,sz,rfl,hp,R,g,hT,hwl,hsc,hsz,hwt,kk⟩:=h
  have b2:=g.b2
  have b16:=g.b16
  have npT:p≠T0:=λz=>by
   rw [z] at hp
   rcases hT with h | ⟨c,h,_⟩
   ·rw [h] at hp;cases hp
   ·rw [h] at hp;cases hp
  have wlp:wl≠p:=jO hwl hp (λz=>nomatch z)
  refine⟨_,(zp (Wr (pv 0) (JT zbP Y6 (hr.mono (by decide)) rfl zK.nm zbu .nil zaF (zc (pv 1) zg)) rfl)
   (zp (Wr (pv 0) (zN vO tZ (hr.mono (by decide)) (zc (pv 2) (zc (pv 3) (zc (pv 4) zg)))) rfl)
   (zp (Wr (pv 0) (zZ (zc (zA We (zA Vg (zZ (zc zm zg)) (wy K (wy K (pv 0)))) (zZ (zc (zA wu (zP (yo K) (pv 2) zm (λ_ _=>rfl)) (Y0 wG zK.cl uv (hr.mono (by decide)) (wy K (pv 0)) (zc zm zg))) zg))) zg)) rfl)
   (zx (yU PassesOwn.never rfl (yg rfl T.n_range (zc (pv 4) zg)) (zQ (i:=5) j4.nd rfl (Or.inl rfl))
    (zx (xP (Zq PySem.F.plainAttrs_list PySem.F.slot_list_append PySem.F.type_list_append xF (wy K (pv 0)) (zc (Y0 xM zH.cl vD (hr.mono (by decide)) (pv 0) (zc (pv 5) zg)) zg))))))))),?_⟩
  refine⟨_,rfl,?_⟩
  refine zeX R g hT ?_
  rintro tl H1 ⟨la,ws,TA1,G,m1,hT1,hla⟩
  have h13:=G.h13
  have hp1:=m1 _ _ npT hp
  have hwl1:=m1 _ _ (hT.lst hwl) hwl
  have tlp:tl≠p:=λz=>by
   obtain⟨dt,sa,e⟩:=TA1.obj
   rw [z,hp1] at e
   injection e with e
   injection e with _ _ e
   have:=tX b ws.length sa la
   rw [<- e] at this
   cases this
  refine⟨_,rfl,p,CS,dx,_,rfl,hp1,zH.cl,zH.n_tails,(by show 0<1000;decide),?_⟩
  have TA2:=TA1.updI (o:=.ins CS dx (yr "tails" (.ref tl) [])) hp1 tlp
  have hT2:=hT1.putI (o:=.ins CS dx (yr "tails" (.ref tl) [])) hp1
  have hp2:upd H1 p (.ins CS dx (yr "tails" (.ref tl) [])) p=some (.ins CS dx (yr "tails" (.ref tl) [])):=zf
  have hwl2:upd H1 p (.ins CS dx (yr "tails" (.ref tl) [])) wl=some (.lst ((vC b wt sc 0).map V.int)):=by rw [zq wlp];exact hwl1
  have n2:∀ c o,c≠p->c≠T0->H c=some o->upd H1 p (.ins CS dx (yr "tails" (.ref tl) [])) c=some o:=λc o h1 h2 e=>by rw [zq h1];exact m1 c o h2 e
  generalize upd H1 p (.ins CS dx (yr "tails" (.ref tl) []))=H2 at TA2 hT2 hp2 hwl2 n2
  refine⟨_,rfl,_,rfl,_,rfl,wl,b,wt,sc,sz,rfl,hwl2,b16,hsc,by omega,λwa H3 hwa RW3 m3=>?_⟩
  have hp3:=m3 _ _ hp2
  refine⟨_,rfl,p,CS,dx,_,rfl,hp3,zH.cl,zH.n_weights,(by show 1<1000;decide),?_⟩
  have TA3:=TA2.same m3
  have TA4:=TA3.updI (o:=.ins CS dx (yr "weights" (.ref wa) (yr "tails" (.ref tl) []))) hp3 tlp
  have hT4:=(hT2.same m3).putI (o:=.ins CS dx (yr "weights" (.ref wa) (yr "tails" (.ref tl) []))) hp3
  have RW4:=RW3.updI (o:=.ins CS dx (yr "weights" (.ref wa) (yr "tails" (.ref tl) []))) hp3
  have hp4:upd H3 p (.ins CS dx (yr "weights" (.ref wa) (yr "tails" (.ref tl) []))) p=some (.ins CS dx (yr "weights" (.ref wa) (yr "tails" (.ref tl) []))):=zf
  have hwl4:upd H3 p (.ins CS dx (yr "weights" (.ref wa) (yr "tails" (.ref tl) []))) wl=some (.lst ((vC b wt sc 0).map V.int)):=by rw [zq wlp];exact m3 _ _ hwl2
  have n4:∀ c o,c≠p->c≠T0->H c=some o->upd H3 p (.ins CS dx (yr "weights" (.ref wa) (yr "tails" (.ref tl) []))) c=some o:=λc o h1 h2 e=>by rw [zq h1];exact m3 _ _ (n2 c o h1 h2 e)
  generalize upd H3 p (.ins CS dx (yr "weights" (.ref wa) (yr "tails" (.ref tl) [])))=H4 at TA4 hT4 RW4 hp4 hwl4 n4
  have lkt:(yr "weights" (.ref wa) (yr "tails" (.ref tl) [])).lookup ("tails" : Str)=some (V.ref tl):=by rw [zM,if_neg (by decide +kernel),zM,if_pos rfl]
  refine⟨(by show 1<=sizeLine;decide),λq1 k1=>?_⟩
  have s1:=zj k1 (o:=.lst [V.int 0])
  obtain⟨dt,sa,htl⟩:=(TA4.same s1).obj
  refine⟨_,rfl,p,CS,dx,_,_,rfl,s1 _ _ hp4,zH.cl,zH.n_tails,lkt,tl,C,dt,_,_,rfl,htl,zK.cl,zK.n_outset,uC _ _ _ _,?_⟩
  refine⟨q1,_,_,rfl,rfl,zf,by omega,by omega,?_,λq2 k2=>?_⟩
  ·show 1*(ws.length:Int).toNat<=sizeLine
   exact Nat.le_trans (show 1*(ws.length:Int).toNat<=13 by omega) (by decide)
  have q2la:q2≠la:=λz=>by
   obtain⟨lx,hlx⟩:=TA4.la
   have:=s1 _ _ hlx
   rw [<- z,k2] at this;cases this
  have s2:=s1.trans (zj k2 (o:=.lst (List.replicate (ws.length:Int).toNat [V.int 0]).flatten))
  have hq2:upd (upd H4 q1 (.lst [V.int 0])) q2 (.lst (List.replicate (ws.length:Int).toNat [V.int 0]).flatten) q2=some (.lst (List.replicate (ws.length:Int).toNat [V.int 0]).flatten):=zf
  generalize upd (upd H4 q1 (.lst [V.int 0])) q2 (.lst (List.replicate (ws.length:Int).toNat [V.int 0]).flatten)=H5 at s2 hq2
  have TA5:=TA4.same s2
  obtain⟨dt5,sa5,htl5⟩:=TA5.obj
  refine⟨_,rfl,wl,_,_,V.int ((sc^0*wt 0:Nat):Int),rfl,rfl,SqL.of (s2 _ _ hwl4),?_,?_⟩
  ·refine yI (j:=0) ?_
   unfold vC
   rw [List.getElem?_map,List.getElem?_map,List.getElem?_range (by omega)]
   rfl
  refine⟨_,rfl,p,CS,dx,_,_,rfl,s2 _ _ hp4,zH.cl,zH.n_tails,lkt,tl,dt5,_,rfl,htl5,V1 _ _ _ _,tl,la,b,_,ws,1,0,rfl,TA5,G,by decide,by decide,λL6 H6 hL6 TA6 m6 hmx=>?_⟩
  have w0:=hwt 0 (by omega)
  have e00:sc^0*wt 0=wt 0:=by rw [Nat.pow_zero,Nat.one_mul]
  refine⟨_,_,rfl,rfl,.inl ⟨by omega,by omega⟩,?_⟩
  have hT6:LT T0 H6:=(hT4.same s2).off (la:=la) (xs:=_) (TA5.la.choose_spec) m6
  have off6:∀ c o,c≠la->H5 c=some o->H6 c=some o:=λc o hc e=>by
   have hc':c∉[la]:=by simpa using hc
   have:=m6 c o (by rw [yc hc'];exact e)
   rwa [yc hc'] at this
  obtain⟨lx,hlx⟩:=TA4.la
  have pla:p≠la:=jO hp4 hlx (λz=>nomatch z)
  have hp6:=off6 _ _ pla (s2 _ _ hp4)
  have hq6':=off6 _ _ q2la hq2
  refine⟨(by show 1<=sizeLine;decide),λq4 k4=>?_⟩
  have nq:q2≠q4:=zy hq6' k4
  refine⟨q2,q4,_,_,rfl,rfl,by rw [zq nq];exact hq6',zf,?_,λq5 k5=>⟨(by show 1<=sizeLine;decide),λq6 k6=>?_⟩⟩
  ·rw [Int.toNat_natCast,Wf (f:=λ_=>V.int 0) (λ_=>rfl) ws,List.length_map]
   exact Nat.le_trans (show ws.length+1<=14 by omega) (by decide)
  have t4:=zj k4 (o:=.lst [V.int (((sc^0*wt 0:Nat):Int)*((ug (zs.map (·.2)) b 0:Nat):Int))])
  have t5:=t4.trans (zj k5 (o:=.lst ((List.replicate (ws.length:Int).toNat [V.int 0]).flatten++[V.int (((sc^0*wt 0:Nat):Int)*((ug (zs.map (·.2)) b 0:Nat):Int))])))
  have t6:=t5.trans (zj k6 (o:=.lst [V.ref q5]))
  have f6:=t5.free k6
  refine⟨_,rfl,p,CS,dx,_,rfl,t6 _ _ hp6,zH.cl,zH.n_layers,(by show 2<1000;decide),?_⟩
  have np5:q5≠q6:=λz=>by rw [<- z,zf] at k6;cases k6
  have hp9:=t6 _ _ hp6
  have hq6:=(zf:upd (upd (upd H6 q4 (.lst [V.int (((sc^0*wt 0:Nat):Int)*((ug (zs.map (·.2)) b 0:Nat):Int))])) q5 (.lst ((List.replicate (ws.length:Int).toNat [V.int 0]).flatten++[V.int (((sc^0*wt 0:Nat):Int)*((ug (zs.map (·.2)) b 0:Nat):Int))]))) q6 (.lst [V.ref q5]) q6=_)
  have hq5:upd (upd (upd H6 q4 (.lst [V.int (((sc^0*wt 0:Nat):Int)*((ug (zs.map (·.2)) b 0:Nat):Int))])) q5 (.lst ((List.replicate (ws.length:Int).toNat [V.int 0]).flatten++[V.int (((sc^0*wt 0:Nat):Int)*((ug (zs.map (·.2)) b 0:Nat):Int))]))) q6 (.lst [V.ref q5]) q5=some (.lst ((Z1 (zs.map (·.2)) ws b wt sc 0).map V.int)):=by
   rw [zq np5,zf,zdk,Int.toNat_natCast,Nat.pow_zero,Nat.one_mul]
  have f5:H6 q5=none:=t4.free k5
  generalize upd (upd (upd H6 q4 (.lst [V.int (((sc^0*wt 0:Nat):Int)*((ug (zs.map (·.2)) b 0:Nat):Int))])) q5 (.lst ((List.replicate (ws.length:Int).toNat [V.int 0]).flatten++[V.int (((sc^0*wt 0:Nat):Int)*((ug (zs.map (·.2)) b 0:Nat):Int))]))) q6 (.lst [V.ref q5])=H9 at t6 hp9 hq6 hq5
  have q6p:q6≠p:=λz=>by rw [z,hp6] at f6;cases f6
  have q5p:q5≠p:=λz=>by rw [z,hp6] at f5;cases f5
  obtain⟨lx6,hlx6⟩:=TA6.la
  have q6la:q6≠la:=λz=>by rw [z,hlx6] at f6;cases f6
  have q5la:q5≠la:=λz=>by rw [z,hlx6] at f5;cases f5
  have TA9:=(TA6.same t6).updI (o:=.ins CS dx (Y9 tl wa q6)) hp9 tlp
  have go:∀ c o,c≠p->c≠la->H5 c=some o->aw [la,q6] (upd H9 p (.ins CS dx (Y9 tl wa q6))) c=some o:=λc o h1 h2 e=>by
   have e6:=off6 c o h2 e
   have h3:c≠q6:=zy e6 f6
   rw [yc (by simp [h2,h3]),zq h1]
   exact t6 _ _ e6
  have TT:TotAt C CS (upd H9 p (.ins CS dx (Y9 tl wa q6))) p tl la wa q6 b (zs.map (·.2)) ws L6 wt sc sz 1:=by
   refine⟨⟨dx,by rw [yc (by simp [pla,Ne.symm q6p]),zf]⟩,TA9,?_,?_,⟨[(q5,Z1 (zs.map (·.2)) ws b wt sc 0)],by rw [zq q6p];exact hq6,λz hz=>?_,rfl⟩,Ne.symm q6la⟩
   ·obtain⟨dz,sz',srs,e1,e2,_⟩:=TA6.ob
    have e1':=zX _ _ _ _ e1
    have e2':=zX _ _ _ _ e2
    have tla:tl≠la:=jO e1' hlx6 (λz=>nomatch z)
    refine⟨dz,sz',?_,zy e2' f6⟩
    rw [yc (by simp [tla,zy e1' f6]),zq tlp]
    exact t6 _ _ e1'
   ·obtain⟨rz,r1,r2,r3⟩:=RW4.ex
    have wane:wa≠la:=λz=>by
     obtain⟨lx2,h2⟩:=TA2.la
     rw [z,h2] at hwa;cases hwa
    have wap:wa≠p:=jO r1 hp4 (λz=>nomatch z)
    refine⟨⟨rz,go _ _ wap wane (s2 _ _ r1),λz hz=>go _ _ (jO (r2 z hz) hp4 (λz=>nomatch z)) (λe=>?_) (s2 _ _ (r2 z hz)),r3⟩⟩
    obtain⟨lrs,y1,_,_⟩:=TA4.ly
    have y2:=r2 z hz
    rw [e,y1] at y2
    have hm:z.2∈(List.range sz).map (vC b wt sc):=by rw [<- r3];exact List.mem_map.mpr ⟨z,hz,rfl⟩
    obtain⟨k,_,ek⟩:=List.mem_map.mp hm
    have hl:z.2.length=b:=by rw [<- ek];unfold vC;rw [List.length_map,List.length_range]
    injection y2 with y2
    injection y2 with y2
    cases hz2:z.2 with
    | nil=>rw [hz2] at hl;simp at hl;omega
    | cons a l =>
     rw [hz2] at y2
     cases lrs with
     | nil=>cases y2
     | cons a' l'=>injection y2 with y3 _;cases y3
   ·have e:z=(q5,Z1 (zs.map (·.2)) ws b wt sc 0):=by simpa using hz
    subst e
    rw [yc (by simp [q5la,np5]),zq q5p]
    exact hq5
  have hT9:=(hT6.same t6).putI (o:=.ins CS dx (Y9 tl wa q6)) hp9
  have hfr:∀ c o,c≠p->c≠T0->H c=some o->upd H9 p (.ins CS dx (Y9 tl wa q6)) c=some o:=λc o h1 h2 e=>by
   rw [zq h1]
   exact t6 _ _ (off6 _ _ (zy e hla) (s2 _ _ (n4 c o h1 h2 e)))
  have q6H:H q6=none:=by
   cases e:H q6 with
   | none=>rfl
   | some o =>
    have:=off6 _ _ (zy e hla) (s2 _ _ (n4 q6 o q6p (hT6.none f6) e))
    rw [f6] at this;cases this
  have eF:Y9 tl wa q6=yr "layers" (.ref q6) (yr "weights" (.ref wa) (yr "tails" (.ref tl) [])):=rfl
  rw [<- eF]
  generalize upd H9 p (.ins CS dx (Y9 tl wa q6))=H10 at TT hT9 hfr
  refine⟨_,rfl,_,rfl,by omega,by omega,yH (lo:=0) (n:=(sz:Int).toNat) (λi Z H2=>∃ (v5:Option V) (L:Nat),Z=[some (.ref p),some (.ref r),some (.ref wl),some (.int sc),some (.int sz),v5]/\L<=i+1/\TotAt C CS H2 p tl la wa q6 b (zs.map (·.2)) ws L wt sc sz (i+1)/\(∀ c o,c≠p->c≠T0->H c=some o->H2 c=some o)/\LT T0 H2)
   ⟨none,L6,rfl,by omega,TT,hfr,hT9⟩ ?_ ?_⟩
  ·rintro i Z Hi hi ⟨v5,L,rfl,hL,TTi,fri,hTi⟩
   obtain⟨dxi,hpi⟩:=TTi.obj
   obtain⟨zi,hl2,_⟩:=TTi.ly
   refine⟨_,rfl,p,CS,dxi,_,_,rfl,hpi,zH.cl,zH.n_layers,VB _ _ _,.inl ⟨rfl,_,SqL.of hl2⟩,_,rfl,p,dxi,_,rfl,hpi,Xm _ _ _,_,rfl,p,tl,la,wa,q6,b,_,ws,L,wt,sc,sz,i+1,i,by rw [Int.zero_add];rfl,TTi,G,by omega,by omega,by omega,by omega,hsc,hwt,λq L' H' hLL TT' m' hLm hq=>?_⟩
   obtain⟨zi',hl2',_,e3⟩:=TT'.ly
   have hzl:zi'.length=i+1:=by have:=congrArg List.length e3;rwa [List.length_map,List.length_map,List.length_range] at this
   refine⟨q6,_,_,rfl,rfl,hl2',by rw [List.length_map,hzl];exact Nat.lt_of_lt_of_le (show i+1<1000 by omega) (by decide),?_⟩
   refine⟨_,L',rfl,by omega,TT'.push G (by omega) hl2' hq,λc o h1 h2 e=>?_,(hTi.off TTi.ta.la.choose_spec m').putL2 hl2'⟩
   have e2:=fri c o h1 h2 e
   have hcl:c≠la:=zy e hla
   have hc':c∉[la]:=by simpa using hcl
   have:=m' c o (by rw [yc hc'];exact e2)
   rw [yc hc'] at this
   rw [zq (zy e q6H)]
   exact this
  ·rintro Z Hn ⟨v5,L,rfl,hL,TTn,frn,hTn⟩
   rw [Int.toNat_natCast] at hL TTn
   exact kk tl la wa q6 ws L Hn TTn G (by omega) frn hTn hla q6H
end
theorem zcz {ls:ZA} (ne:∀ l∈ls,l≠[]) {b m:Nat} {o:Option (List Int)} {w:Nat->Nat} {sc:Nat} (h2:2<=b) (R:Rep ls b m o) (t:Nat) {c:Nat} (hc:c<b) :
  tot (λr=>gd ls b ((m*b+c)*b^t+r)) (λr=>fw w sc b ((m*b+c)*b^t+r)) (b^t)=sc^(t+1)*ahd w sc b m*tV ls b t o c+stepT ls b w sc t o c:=by
 rcases R with ⟨rfl,rfl⟩ | ⟨h1,hg,rfl⟩
 ·have e0:ahd w sc b 0=0:=rfl
  rw [e0,Nat.mul_zero,Nat.zero_mul,Nat.zero_add,Nat.zero_mul,Nat.zero_add]
  by_cases h0:c=0
  ·subst h0
   rw [show stepT ls b w sc t none 0=ttO ls b w sc t from (by unfold stepT;exact if_pos rfl),zca ne h2]
   apply tW<;>intro r _<;>rw [Nat.zero_mul,Nat.zero_add]<;>rfl
  ·show _=if c=0 then _ else _
   rw [if_neg h0]
   exact zaW ne h2 (by omega) hc
 ·have h1':1<=m*b+c:=Jg h2 h1
  have ef:∀ r,r<b^t->zR b ((m*b+c)*b^t+r)=zR b m++wA b (t+1) (c*b^t+r):=λr hr=>by
   rw [Z5 h2 h1' t r hr,vp h2 h1 hc,tR hr,List.append_assoc]
   rfl
  have e1:tot (λr=>gd ls b ((m*b+c)*b^t+r)) (λr=>fw w sc b ((m*b+c)*b^t+r)) (b^t)=tot (λr=>lacks ls (zR b m++wA b (t+1) (c*b^t+r))) (λr=>sc^(t+1)*ahd w sc b m+wsum w sc (wA b (t+1) (c*b^t+r))) (b^t):=by
   apply tW
   ·intro r hr
    show lacks ls (zR b _)=_
    rw [ef r hr]
   ·intro r hr
    show wsum w sc (zR b _)=_
    rw [ef r hr,VD,WF]
    unfold ahd
    rw [if_neg (by omega)]
  have e2:many (λr=>lacks ls (zR b m++wA b (t+1) (c*b^t+r))) (b^t)=tV ls b t (some (zO ls (zR b m))) c:=by
   rw [Qp ne h2 (.inr ⟨h1,hg,rfl⟩) t hc]
   apply uA
   intro r hr
   show _=lacks ls (zR b _)
   rw [ef r hr]
  rw [e1,Ur,e2,Ju ne (zbW ne t)]
  congr 1
  show _=if lacks ls (zO ls (zR b m)++[(c:Int)])=true then _ else 0
  rw [qp ne _ hg,qi]
theorem X6 {ls:ZA} (ne:∀ l∈ls,l≠[]) {b m:Nat} {o:Option (List Int)} {w:Nat->Nat} {sc:Nat} (h2:2<=b) (R:Rep ls b m o) (t:Nat):∀ {s:Nat},s<=b->tot (gd ls b) (fw w sc b) (m*b^(t+1))+(sc^(t+1)*ahd w sc b m*under ls b t o s+tK ls b w sc t o s)=tot (gd ls b) (fw w sc b) ((m*b+s)*b^t)
 | 0,_=>by
  rw [Wg,Nat.mul_zero,Nat.add_zero,Nat.pow_succ',<- Nat.mul_assoc]
  rfl
 | s+1,hs=>by
  have ih:=X6 ne h2 R t (w:=w) (sc:=sc) (s:=s) (by omega)
  have e:(m*b+(s+1))*b^t=(m*b+s)*b^t+b^t:=by rw [<- Nat.add_assoc,Nat.succ_mul]
  rw [e,Ua,zcz ne h2 R t (by omega),<- ih,uz,qU,Nat.mul_add]
  omega
section
variable {P:Program} {w:World} {K:W.Frag} {mg:Str->Option Value} {base:Heap} {T0 C CS:Addr}
def vz (C CS:Addr):Sp:=λvs H Q _=>∃ (p tl la wa l2:Addr) (b:Nat) (ls ws:ZA) (L:Nat) (wt:Nat->Nat) (sc sz M:Nat) (fa:Addr) (n:Nat),vs=[.ref p,.ref fa]/\TotAt C CS H p tl la wa l2 b ls ws L wt sc sz M/\GoodT b ls ws/\L<=801/\sz=(zR b n).length/\M=sz+1/\sc<=16/\(∀ c,c<b->wt c<2^64)/\aw [la] H fa=some (.lst ((zR b n).map V.int))/\n<2^800 /\
 SQ C CS H p tl la wa l2 b ls ws L wt sc sz M λL' H'=>L'<=1000->Q (.int ((tot (gd ls b) (fw wt sc b) n:Nat):Int)) H'
theorem zcn {w:Nat->Nat} {sc b:Nat} (hsc:sc<=16) (hw:∀ c,c<b->w c<2^64):∀ l:List Int,(∀ f∈l,f.toNat<b)->wsum w sc l<2^(4*l.length+64)
 | [],_=>Nat.pow_pos (by decide)
 | c :: l,h=>by
  have ih:=zcn hsc hw l λx hx=>h x (List.mem_cons_of_mem _ hx)
  rw [wsum,List.length_cons]
  have h1:sc^l.length<=2^(4*l.length):=by rw [Nat.pow_mul];exact Nat.pow_le_pow_left hsc _
  have h2:=hw c.toNat (h c List.mem_cons_self)
  have h3:sc^l.length*w c.toNat<=2^(4*l.length+64):=by rw [Nat.pow_add];exact Nat.mul_le_mul h1 (Nat.le_of_lt h2)
  have h4:2^(4*(l.length+1)+64)=16*2^(4*l.length+64):=by rw [show 4*(l.length+1)+64=4+(4*l.length+64) by omega,Nat.pow_add]
  omega
theorem zfJ {w:Nat->Nat} {sc b n N k:Nat} (h2:2<=b) (hsc:sc<=16) (hw:∀ c,c<b->w c<2^64) (hn:n<b^N) (hk:k<=N) (hN:N<=900):sc^(N-k)*ahd w sc b (n / b^(N-k))<2^5000:=by
 unfold ahd
 split
 ·rw [Nat.mul_zero];exact Nat.pow_pos (by decide)
 ·rename_i hz
  have hlt:n / b^(N-k)<b^k:=by
   rw [Nat.div_lt_iff_lt_mul (Nat.pow_pos (by omega)),<- Nat.pow_add,show k+(N-k)=N by omega]
   exact hn
  have hl:(zR b (n / b^(N-k))).length<=k:=by
   obtain⟨j,j1,j2⟩:=zae h2 (n / b^(N-k))
   rw [Xk h2 j1 j2]
   rcases j2 with j2 | j2
   ·subst j2
    cases k with
    | zero=>exact absurd (Nat.lt_one_iff.mp hlt) hz
    | succ k=>omega
   ·exact (Nat.pow_lt_pow_iff_right (show 1<b by omega)).mp (Nat.lt_of_le_of_lt j2 hlt)
  have hb:=zcn hsc hw (zR b (n / b^(N-k))) (λf hf=>by have:=ZR h2 _ f hf;omega)
  have h1:sc^(N-k)<=2^(4*(N-k)):=by rw [Nat.pow_mul];exact Nat.pow_le_pow_left hsc _
  refine Nat.lt_of_lt_of_le (Nat.mul_lt_mul_of_le_of_lt h1 hb (Nat.pow_pos (by decide))) ?_
  rw [<- Nat.pow_add]
  exact Nat.pow_le_pow_right (by decide) (by omega)
theorem zU:zF ["self","figures","place","ahead","total","k","left"] ["self","figures"] (zu yV):={}
set_option maxHeartbeats 0 in
theorem U3 {f f1 f2:Addr} {fd fd1 fd2:FuncData} (D:Mt K CS "Totals.total_below" "total_below" yV Aq f fd) (yw:Mt K CS "Totals.total_under" "total_under" yX Ao f1 fd1) (yP:FnOk P w K mg base CX0 3 f1 fd1 Ao (uR C CS)) (yM:Mt K CS "Totals.weight_of" "weight_of" xq Am f2 fd2) (yZ:FnOk P w K mg base CX0 1 f2 fd2 Am (jG C CS)) (zK:ClT K mg C) (zH:ClS K mg CS) (T:Blt mg):FnOk P w K mg base CX0 4 f fd Aq (vz C CS):=by
 refine D.fn.ok zU (λvs H Q E h=>?_) (λcdv A outer s H vs Q E hr h=>?_)
 ·obtain⟨p,tl,la,wa,l2,b,ls,ws,L,wt,sc,sz,M,fa,n,rfl,_⟩:=h;rfl
 ·obtain⟨p,tl,la,wa,l2,b,ls,ws,L,wt,sc,sz,M,fa,n,rfl,TT,G,hL,hsz,hM,hsc,hwt,hf,hn,kk⟩:=h
  have b2:=G.g.b2
  have hlen:=jY b2 800 n hn
  obtain⟨dx0,hp0⟩:=TT.obj
  obtain⟨dt0,sa0,htl0⟩:=TT.ta.obj
  generalize hN:(zR b n).length=N at hlen hsz
  have hnN:=xG b2 hN
  refine⟨_,(zp (zB (i:=2) zU.nd rfl (Or.inl rfl) (wy K (wy K (pv 0))))
   (zp (zB (i:=3) zU.nd rfl (Or.inl rfl) zm)
   (zp (zB (i:=4) zU.nd rfl (Or.inl rfl) zm)
   (zp (yU PassesOwn.never rfl (yg rfl T.n_range (zc (zE (xQ K) (by rfl) T.n_len PySem.boot_len (zc (pv 1) zg)) zg)) (zQ (i:=5) zU.nd rfl (Or.inl rfl))
    (zp (zB (i:=6) zU.nd rfl (Or.inl rfl) (zA uc (zA uc (zE (xQ K) (by rfl) T.n_len PySem.boot_len (zc (pv 1) zg)) (pv 5)) zm))
    (zp (zbZ (i:=4) zU.nd rfl (Or.inl rfl) (Y0 yw zH.cl yP (hr.mono (by decide)) (pv 0) (zc (pv 2) (zc (zP (yo K) (pv 1) (pv 5) (λ_ _=>rfl)) (zc (pv 6) (zc (pv 3) zg))))) zbx)
    (zp (zB (i:=2) zU.nd rfl (Or.inl rfl) (zP (yo K) (zP (yo K) (wy K (wy K (pv 0))) (pv 2) (λ_ _=>rfl)) (zP (yo K) (pv 1) (pv 5) (λ_ _=>rfl)) (λ_ _=>rfl)))
    (zp (xr (ym zdy (pv 2) jW (ye _))
     (zx (zL (pv 4)))
     yj)
    (zx (zbZ (i:=3) zU.nd rfl (Or.inl rfl) (Y0 yM zH.cl yZ (hr.mono (by decide)) (pv 0) (zc (pv 2) (zc (zP (yo K) (pv 1) (pv 5) (λ_ _=>rfl)) (zc (pv 6) zg)))) zbx)))))))
   (zx (zL (pv 4))))))),?_⟩
  refine⟨_,rfl,p,CS,dx0,_,_,rfl,hp0,zH.cl,zH.n_tails,ux _ _ _,tl,C,dt0,_,_,rfl,htl0,zK.cl,zK.n_outset,uC _ _ _ _,?_⟩
  refine⟨_,rfl,fa,_,rfl,.inl (SqL.of (zX _ _ _ _ hf)),?_⟩
  rw [List.length_map,hN]
  refine⟨_,rfl,by omega,by omega,yH (lo:=0) (n:=(N:Int).toNat) (λk Z H2=>∃ (v5 v6:Option V) (i L':Nat),Z=[some (.ref p),some (.ref fa),some (.int i),some (.int ((sc^(N-k)*ahd wt sc b (n / b^(N-k)):Nat):Int)),some (.int (tot (gd ls b) (fw wt sc b) (n / b^(N-k)*b^(N-k)):Nat)),v5,v6]/\i<=ws.length/\Rep ls b (n / b^(N-k)) ws[i]?/\L<=L'/\L'<=1000/\TotAt C CS H2 p tl la wa l2 b ls ws L' wt sc sz M/\Same (aw [la] H) (aw [la] H2)) ⟨none,none,ws.length,L,?_,Nat.le_refl _,?_,Nat.le_refl _,by omega,TT,Same.refl _⟩ ?_ ?_⟩
  ·rw [Nat.sub_zero,Nat.div_eq_of_lt hnN,Nat.zero_mul]
   rfl
  ·rw [Nat.sub_zero,Nat.div_eq_of_lt hnN,List.getElem?_eq_none (Nat.le_refl _)]
   exact .inl ⟨rfl,rfl⟩
  ·rintro k Z H2 hk ⟨v5,v6,i,L',rfl,hi,R,hLL,hL',TT2,m2⟩
   have hkN:k<N:=by omega
   have hah:=zfJ (w:=wt) b2 hsc hwt hnN (Nat.le_of_lt hkN) (by omega)
   obtain⟨t,ht⟩:∃ t,N-k=t+1:=⟨N-k-1,by omega⟩
   have et:N-1-k=t:=by omega
   have hfk:=U5 b2 hN hkN
   rw [et] at hfk
   rw [ht] at R hah ⊢
   have hnx:=Uy (b:=b) (n:=n) (t:=t) (by omega)
   have hcb:n / b^t % b<b:=Nat.mod_lt _ (by omega)
   generalize hc:n / b^t % b=c at hfk hnx hcb
   have hf2:=m2 _ _ hf
   have hfH2:=zX _ _ _ _ hf2
   obtain⟨dx2,hp2⟩:=TT2.obj
   have hat:atI ((zR b n).map V.int) (0+(k:Int))=some (V.int (c:Nat)):=by rw [Int.zero_add];exact yI (by rw [List.getElem?_map,hfk];rfl)
   refine⟨_,rfl,fa,_,rfl,.inl (SqL.of hfH2),_,rfl,_,_,rfl,rfl,_,_,rfl,rfl,?_⟩
   dsimp only
   rw [List.length_map,hN,show ((N:Int)-(0+(k:Int))-1)=(t:Int) by omega]
   refine⟨_,rfl,_,rfl,p,dx2,_,rfl,hp2,Xm _ _ _,_,rfl,_,rfl,_,rfl,fa,_,_,_,rfl,rfl,SqL.of hfH2,hat,_,rfl,_,rfl,?_⟩
   refine⟨p,tl,la,wa,l2,b,ls,ws,L',wt,sc,sz,M,i,c,t,sc^(t+1)*ahd wt sc b (n / b^(t+1)),rfl,TT2,G,hL',by omega,by omega,by omega,hi,by omega,hsc,hwt,hah,λL3 H3 hL3 TT3 m3 hmx=>?_⟩
   have hL3':L3<=1000:=by omega
   have m23:=m2.trans m3
   have hf3:=zX _ _ _ _ (m23 _ _ hf)
   refine⟨_,_,rfl,rfl,?_⟩
   have eum:=X6 G.ne b2 (w:=wt) (sc:=sc) R t (s:=c) (by omega)
   rw [<- hnx] at eum
   obtain⟨dx3,sa3,srs3,z3,q1,q2,q3,q4,q5⟩:=zef TT3.ta G hi hcb
   obtain⟨dp3,hp3⟩:=TT3.obj
   refine⟨_,rfl,p,CS,dp3,_,_,rfl,hp3,zH.cl,zH.n_tails,ux _ _ _,tl,C,dx3,_,_,rfl,q1,zK.cl,zK.n_steps,tX _ _ _ _,_,rfl,sa3,_,_,_,rfl,rfl,SqL.of q2,q3,_,rfl,_,rfl,fa,_,_,_,rfl,rfl,SqL.of hf3,hat,z3.1,_,_,_,rfl,rfl,SqL.of q4,q5,?_⟩
   rcases zcH G hi R hcb with ⟨j,e1,e2,e3⟩ | ⟨e1,e2,e3⟩
   ·rw [e1]
    refine⟨_,rfl,rfl,_,rfl,xX ?_⟩
    refine⟨_,rfl,_,rfl,p,dp3,_,rfl,hp3,Xm _ _ _,_,rfl,_,rfl,_,rfl,fa,_,_,_,rfl,rfl,SqL.of hf3,hat,_,rfl,p,tl,la,wa,l2,b,ls,ws,L3,wt,sc,sz,M,j,c,t,rfl,TT3,hcb,by omega,?_⟩
    refine⟨_,_,rfl,rfl,⟨some (.int (0+(k:Int))),some (.int t),j,L3,?_,e2,?_,by omega,hL3',TT3,m23⟩⟩
    ·have ea:sc^t*ahd wt sc b (n / b^t)=sc^(t+1)*ahd wt sc b (n / b^(t+1))+(if j=ws.length then 0 else sc^t*wt c):=by
      by_cases z:j=ws.length
      ·rw [if_pos z]
       rw [z,List.getElem?_eq_none (Nat.le_refl _)] at e3
       rcases e3 with ⟨e3,_⟩ | ⟨_,_,e3⟩
       ·have hm0:n / b^(t+1)=0:=by
         by_cases y:n / b^(t+1)=0
         ·exact y
         ·exact absurd e3 (Nat.ne_of_gt (Jg b2 (Nat.pos_of_ne_zero y)))
        rw [hnx,e3,hm0]
        show sc^t*0=sc^(t+1)*0+0
        simp
       ·cases e3
      ·rw [if_neg z]
       have hjl:j<ws.length:=by omega
       rw [List.getElem?_eq_getElem hjl] at e3
       rcases e3 with ⟨_,e3⟩ | ⟨e3,_,_⟩
       ·cases e3
       ·rw [hnx,zdz b2 hcb e3,Nat.mul_add,<- Nat.mul_assoc,show sc^(t+1)=sc^t*sc from Nat.pow_succ _ _]
     rw [show N-(k+1)=t by omega,<- eum,ea]
     show [_,_,_,some (V.int (((sc^(t+1)*ahd wt sc b (n / b^(t+1)):Nat):Int)+((if j=ws.length then 0 else sc^t*wt c:Nat):Int))),some (V.int ((tot (gd ls b) (fw wt sc b) (n / b^(t+1)*b^(t+1)):Nat)+((sc^(t+1)*ahd wt sc b (n / b^(t+1))*under ls b t ws[i]? c+tK ls b wt sc t ws[i]? c:Nat):Int))),_,_]=[_,_,_,some (V.int ((sc^(t+1)*ahd wt sc b (n / b^(t+1))+(if j=ws.length then 0 else sc^t*wt c):Nat):Int)),some (V.int ((tot (gd ls b) (fw wt sc b) (n / b^(t+1)*b^(t+1))+(sc^(t+1)*ahd wt sc b (n / b^(t+1))*under ls b t ws[i]? c+tK ls b wt sc t ws[i]? c):Nat):Int)),_,_]
     rw [<- Int.natCast_add,<- Int.natCast_add]
    ·rw [show N-(k+1)=t by omega,hnx];exact e3
   ·rw [e1]
    refine⟨_,rfl,rfl,_,rfl,vL ⟨_,rfl,?_⟩⟩
    have q:=kk L3 H3 (by omega) TT3 m23 hL3'
    rw [<- hnx] at e2 e3
    have ebad:=zdX G.ne b2 e2 e3 t (r:=n % b^t) (Nat.le_of_lt (Nat.mod_lt _ (Nat.pow_pos (by omega))))
    rw [Nat.mul_comm,Nat.div_add_mod,Nat.mul_comm] at ebad
    have et:=zaT (f:=fw wt sc b) (p:=gd ls b) (A:=n / b^t*b^t) (B:=n) (Nat.div_mul_le_self _ _) ebad.symm
    rw [et,<- eum,Int.natCast_add] at q
    exact q
  ·rintro Z H2 ⟨v5,v6,i,L',rfl,hi,R,hLL,hL',TT2,m2⟩
   have q:=kk L' H2 hLL TT2 m2 hL'
   have e:n / b^(N-(N:Int).toNat)*b^(N-(N:Int).toNat)=n:=by rw [Int.toNat_natCast,Nat.sub_self,Nat.pow_zero,Nat.div_one,Nat.mul_one]
   rw [e]
   exact⟨_,rfl,q⟩
end
theorem zgG {c:Bool} {A B:Prop} (hc:c=true) (h:A):if c=true then A else B:=by rw [hc];exact vL h
theorem zgV {c:Bool} {A B:Prop} (hc:c=false) (h:B):if c=true then A else B:=by rw [hc];exact xX h
section
variable {P:Program} {w:World} {K:W.Frag} {mg:Str->Option Value} {base:Heap} {T0 C CS:Addr}
def zfw (T0 C CS:Addr) (b:Nat) (ls:ZA) (wt:Nat->Nat) (sc sz:Nat) (H:Hp) (x:Addr) (H':Hp):Prop:=∃ (tl la wa l2:Addr) (ws:ZA) (L:Nat),TotAt C CS H' x tl la wa l2 b ls ws L wt sc sz (sz+1)/\GoodT b ls ws/\L<=801/\SameL T0 H H'/\LT T0 H'/\H la=none/\H l2=none
theorem Jt {r:Addr} {b:Nat} {bl:Addr} {zs:ZB} {wl:Addr} {wt:Nat->Nat} {sc sz:Nat} {H:Hp} (R:RuleAt H r b bl zs) (g:yC b (zs.map (·.2))) (hT:LT T0 H) (hwl:H wl=some (.lst ((vC b wt sc 0).map V.int))) (hsc:sc<=16) (hsz:sz<=800) (hwt:∀ c,c<b->wt c<2^64) {R':Addr->Hp->Prop} (k:∀ x H',zfw T0 C CS b (zs.map (·.2)) wt sc sz H x H'->R' x H') :
  ∀ x dx,H x=none->H dx=none->dx≠x->Z7 T0 C CS (.ref x :: ([.ref r,.ref wl,.int (sc:Nat),.int (sz:Nat)]++[])) (upd (upd H dx (.own x)) x (.ins CS dx [])) (λv H2=>v=.non/\R' x H2) E0:=by
 intro x dx nx ndx nex
 have s0:=zcq (C:=CS) nx ndx
 refine⟨x,dx,r,b,bl,zs,wl,wt,sc,sz,rfl,zf,R.same s0,g,hT.same s0,s0 _ _ hwl,hsc,hsz,hwt,λtl la wa l2 ws L H' TT G hL fr hT' hla hl2=>⟨rfl,k x H' ⟨tl,la,wa,l2,ws,L,TT,G,hL,λc o hc e=>fr c o (zy e nx) hc (s0 c o e),hT',s0.free hla,s0.free hl2⟩⟩⟩
theorem zaB {Q:VK} {b n:Nat} {ls:ZA} {wt:Nat->Nat} {sc:Nat} {H H2 H3:Hp} {x fa:Addr} (hsc:sc<=16) (hwt:∀ c,c<b->wt c<2^64) (hn:n<2^800) (M:zfw T0 C CS b ls wt sc (zR b n).length H2 x H3) (hfa:H2 fa=some (.lst ((zR b n).map V.int))) (hT2:LT T0 H2) (hs:SameL T0 H H2) (hfr:∀ c,H2 c=none->H c=none) (kk:∀ H',SameL T0 H H'->LT T0 H'->Q (.int ((tot (gd ls b) (fw wt sc b) n:Nat):Int)) H'):∃ dx fs,H3 x=some (.ins CS dx fs)/\fs.lookup ("total_below" : Str)=none/\vz C CS [.ref x,.ref fa] H3 Q E0:=by
 obtain⟨tl,la,wa,l2,ws,L,TT,G,hL,sL,hT3,hla,hl2⟩:=M
 obtain⟨dx,hp⟩:=TT.obj
 have fala:fa≠la:=zy hfa hla
 refine⟨dx,_,hp,Xm _ _ _,x,tl,la,wa,l2,b,ls,ws,L,wt,sc,_,_,fa,n,rfl,TT,G,hL,rfl,rfl,hsc,hwt,?_,hn,λL' H' hL' TT' m' hL2=>?_⟩
 ·rw [yc (by simpa using fala)]
  exact sL _ _ (hT2.lst hfa) hfa
 ·obtain⟨xs,hx⟩:=TT.ta.la
  exact kk H' (zcS (hs.trans sL) (hfr la hla) m') (hT3.off hx m')
def zfY (T0:Addr) (pre:ZA->Nat->Nat->Prop) (R:ZA->Nat->Nat->V->Prop):Sp:=λvs H Q _=>∃ (r:Addr) (b:Nat) (bl:Addr) (zs:ZB) (n:Nat),vs=[.ref r,.int n]/\RuleAt H r b bl zs/\yC b (zs.map (·.2))/\pre (zs.map (·.2)) b n/\LT T0 H/\∀ v H',R (zs.map (·.2)) b n v->SameL T0 H H'->LT T0 H'->Q v H'
def zfR:ZA->Nat->Nat->Prop:=λ_ b n=>n<2^800/\(zR b n).length<=800
theorem wid {b:Nat} (b16:b<=16):∀ c,c<b->(λc:Nat=>c) c<2^64:=λc hc=>Nat.lt_of_lt_of_le (show c<16 by omega) (by decide)
abbrev qg (T0:Addr):Sp:=zfY T0 zfR (λls b n v=>v=.int ((tot (gd ls b) (fw (λc=>c) 1 b) n:Nat):Int))
theorem za4 (b:Nat) (w:Nat->Nat):(vC b w 1 0).map V.int=(List.range b).map λ(c:Nat)=>V.int (w c:Nat):=by
 unfold vC
 rw [List.map_map]
 apply List.map_congr_left
 intro c _
 show V.int ((1^0*w c:Nat):Int)=V.int (w c:Int)
 rw [Nat.pow_zero,Nat.one_mul]
theorem ZQ:zF ["rule","n","figures"] ["rule","n"] (zu uo):={}
theorem W4 {f f1 f2 f3 f4:Addr} {fd fd1 fd2 fd3 fd4:FuncData} (D:Df K mg "figures_below" uo Aj f fd) (vI:Df K mg "check_rule" uN Aa f1 fd1) (uF:FnOk P w K mg base CX0 7 f1 fd1 Aa qN) (vG:Df K mg "figures_of" uO Ad f2 fd2) (uE:FnOk P w K mg base CX0 4 f2 fd2 Ad qQ)
  (Xo:Mk K CS f3) (Xn:Binds K fd3 ["self","rule","weights","scale","size"] []) (vM:FnOk P w K mg base CX0 9 f3 fd3 Ap (Z7 T0 C CS)) (yu:Mt K CS "Totals.total_below" "total_below" yV Aq f4 fd4) (yR:FnOk P w K mg base CX0 4 f4 fd4 Aq (vz C CS)) (zH:ClS K mg CS) (T:Blt mg):FnOk P w K mg base CX0 12 f fd Aj (qg T0):=by
 refine D.fn.ok ZQ (λvs H Q E h=>?_) (λcdv A outer s H vs Q E hr h=>?_)
 ·obtain⟨r,b,bl,zs,n,rfl,_⟩:=h;rfl
 ·obtain⟨r,b,bl,zs,n,rfl,R,g,hn,hT,kk⟩:=h
  have b2:=g.b2
  have b16:=g.b16
  have hlen:(zR b n).length<=800:=hn.2
  have hn8:n<2^800:=hn.1
  refine⟨_,(zp (xP (zN vI uF (hr.mono (by decide)) (zc (pv 0) zg)))
   (zp (zB (i:=2) ZQ.nd rfl (Or.inl rfl) (zN vG uE (hr.mono (by decide)) (zc (zP (wB K) (pv 0) zm (λ_ _=>rfl)) (zc (pv 1) zg))))
   (zx (zL (Y0 yu zH.cl yR (hr.mono (by decide)) (JT Xo vM (hr.mono (by decide)) rfl zH.nm Xn .nil zaF (zc (pv 0) (zc (zap rfl rfl T.n_list rfl T.n_range (zP (wB K) (pv 0) zm (λ_ _=>rfl))) (zc zm (zc (zE (xQ K) (by rfl) T.n_len PySem.boot_len (zc (pv 2) zg)) zg))))) (zc (pv 2) zg)))))),?_⟩
  refine⟨_,rfl,r,b,bl,zs,rfl,R,g,λH1 m1=>?_⟩
  have R1:=R.same m1
  refine⟨_,rfl,r,_,_,V.int b,rfl,rfl,SqT.of R1.tu,rfl,_,rfl,b,n,rfl,b2,b16,Nat.lt_of_lt_of_le hn8 (Nat.pow_le_pow_right (by decide) (by decide)),λfa H2 hfa hv s2=>?_⟩
  have R2:=R1.same s2
  refine⟨_,rfl,_,rfl,r,_,_,V.int b,rfl,rfl,SqT.of R2.tu,rfl,b,rfl,by omega,λq hq=>?_⟩
  have m3:=(m1.trans s2).trans (zj hq (o:=.lst ((List.range b).map λ(c:Nat)=>V.int c)))
  have hv3:=zj hq (o:=.lst ((List.range b).map λ(c:Nat)=>V.int c)) _ _ hv
  have hwl:upd H2 q (.lst ((List.range b).map λ(c:Nat)=>V.int c)) q=some (.lst ((vC b (λc=>c) 1 0).map V.int)):=by rw [zf,za4]
  generalize upd H2 q (.lst ((List.range b).map λ(c:Nat)=>V.int c))=H3 at m3 hv3 hwl
  refine⟨_,rfl,fa,_,rfl,.inl (SqL.of hv3),?_⟩
  rw [List.length_map]
  refine Jt (sc:=1) (R.same m3) g (hT.same m3) hwl (by decide) hlen (wid b16) ?_
  intro x H4 M
  obtain⟨dx,fs,e1,e2,e3⟩:=zaB (T0:=T0) (Q:=Q) (H:=H) (n:=n) (fa:=fa) (by decide) (wid b16) hn8 M hv3 (hT.same m3) (SameL.of m3) (λc hc=>m3.free hc) (λH' s' hT'=>kk _ H' rfl s' hT')
  exact⟨x,dx,fs,rfl,e1,e2,_,rfl,e3⟩
def jM (T0:Addr):Sp:=λvs H Q _=>∃ (r:Addr) (b:Nat) (bl:Addr) (zs:ZB) (n c:Nat),vs=[.ref r,.int n,.int c]/\RuleAt H r b bl zs/\yC b (zs.map (·.2))/\zfR (zs.map (·.2)) b n/\c<b/\LT T0 H/\∀ H',SameL T0 H H'->LT T0 H'->Q (.int ((tot (gd (zs.map (·.2)) b) (fw (one c) 1 b) n:Nat):Int)) H'
theorem jN:zF ["rule","n","figure","figures","weights"] ["rule","n","figure"] (zu ue):={}
theorem U7 {f f1 f2 f3 f4 f5:Addr} {fd fd1 fd2 fd3 fd4 fd5:FuncData} (D:Df K mg "often_below" ue A2 f fd) (vI:Df K mg "check_rule" uN Aa f1 fd1) (uF:FnOk P w K mg base CX0 7 f1 fd1 Aa qN) (vG:Df K mg "figures_of" uO Ad f2 fd2) (uE:FnOk P w K mg base CX0 4 f2 fd2 Ad qQ) (uw:Df K mg "is_figure" jb Ab f5 fd5) (qt:FnOk P w K mg base CX0 2 f5 fd5 Ab jC)
  (Xo:Mk K CS f3) (Xn:Binds K fd3 ["self","rule","weights","scale","size"] []) (vM:FnOk P w K mg base CX0 9 f3 fd3 Ap (Z7 T0 C CS)) (yu:Mt K CS "Totals.total_below" "total_below" yV Aq f4 fd4) (yR:FnOk P w K mg base CX0 4 f4 fd4 Aq (vz C CS)) (zH:ClS K mg CS) (T:Blt mg):FnOk P w K mg base CX0 12 f fd A2 (jM T0):=by
 refine D.fn.ok jN (λvs H Q E h=>?_) (λcdv A outer s H vs Q E hr h=>?_)
 ·obtain⟨r,b,bl,zs,n,c,rfl,_⟩:=h;rfl
 ·obtain⟨r,b,bl,zs,n,c,rfl,R,g,hn,hcb,hT,kk⟩:=h
  have b2:=g.b2
  have b16:=g.b16
  have hlen:(zR b n).length<=800:=hn.2
  have hn8:n<2^800:=hn.1
  refine⟨_,(zp (xP (zN vI uF (hr.mono (by decide)) (zc (pv 0) zg)))
   (zp (zB (i:=3) jN.nd rfl (Or.inl rfl) (zN vG uE (hr.mono (by decide)) (zc (zP (wB K) (pv 0) zm (λ_ _=>rfl)) (zc (pv 1) zg))))
   (zp (xr (uP (wY (zN uw qt (hr.mono (by decide)) (zc (zP (wB K) (pv 0) zm (λ_ _=>rfl)) (zc (pv 2) zg)))))
    (zx YW)
    yj)
   (zp (qw (i:=4) (show CScope (zu ue) _ "each" ["rule","n","figure","figures","weights"] ["figure"] [2] from {}) rfl jN.nd rfl (Or.inl rfl) (yg rfl T.n_range (zc (zP (wB K) (pv 0) zm (λ_ _=>rfl)) zg)) (λ_ _ _ _=>yJ) (λ_ _ _ _=>(zaX (ym ZP (pv 0) (pv 1) (ye _)) zm zm)))
   (zx (zL (Y0 yu zH.cl yR (hr.mono (by decide)) (JT Xo vM (hr.mono (by decide)) rfl zH.nm Xn .nil zaF (zc (pv 0) (zc (pv 4) (zc zm (zc (zE (xQ K) (by rfl) T.n_len PySem.boot_len (zc (pv 3) zg)) zg))))) (zc (pv 3) zg)))))))),?_⟩
  refine⟨_,rfl,r,b,bl,zs,rfl,R,g,λH1 m1=>?_⟩
  have R1:=R.same m1
  refine⟨_,rfl,r,_,_,V.int b,rfl,rfl,SqT.of R1.tu,rfl,_,rfl,b,n,rfl,b2,b16,Nat.lt_of_lt_of_le hn8 (Nat.pow_le_pow_right (by decide) (by decide)),λfa H2 hfa hv s2=>?_⟩
  have R2:=R1.same s2
  refine⟨_,rfl,r,_,_,V.int b,rfl,rfl,SqT.of R2.tu,rfl,_,rfl,(b:Int),(c:Int),rfl,_,rfl,?_⟩
  rw [decide_eq_true (show (0:Int)<=(c:Int)/\(c:Int)<(b:Int) by omega)]
  refine xX ?_
  refine⟨_,rfl,r,_,_,V.int b,rfl,rfl,SqT.of R2.tu,rfl,(b:Int),rfl,by omega,by omega,wK (lo:=0) (n:=(b:Int).toNat) (λj ys Hc=>Hc=H2/\ys=(List.range j).map λ(d:Nat)=>V.int (one c d:Nat)) ⟨rfl,rfl⟩ ?_ ?_⟩
  ·rintro j ys Hc hj ⟨rfl,rfl⟩
   refine⟨by rw [List.length_map,List.length_range];exact Nat.lt_of_lt_of_le (show j<17 by omega) (by decide),?_⟩
   unfold jl
   dsimp only
   rw [if_pos rfl]
   refine⟨_,rfl,_,rfl,rfl,_,rfl,?_⟩
   by_cases e:j=c
   ·subst e
    refine zgG (by simp) ⟨rfl,?_⟩
    rw [List.range_succ,List.map_append]
    simp [one]
   ·refine zgV (by simp;omega) ⟨rfl,?_⟩
    rw [List.range_succ,List.map_append]
    simp [one,e]
  rintro ys Hc ⟨rfl,rfl⟩ q hq
  have m3:=(m1.trans s2).trans (zj hq (o:=.lst ((List.range (b:Int).toNat).map λ(d:Nat)=>V.int (one c d:Nat))))
  have hv3:=zj hq (o:=.lst ((List.range (b:Int).toNat).map λ(d:Nat)=>V.int (one c d:Nat))) _ _ hv
  have hwl:upd Hc q (.lst ((List.range (b:Int).toNat).map λ(d:Nat)=>V.int (one c d:Nat))) q=some (.lst ((vC b (one c) 1 0).map V.int)):=by rw [zf,za4,Int.toNat_natCast]
  generalize upd Hc q (.lst ((List.range (b:Int).toNat).map λ(d:Nat)=>V.int (one c d:Nat)))=H3 at m3 hv3 hwl
  have hone:∀ d,d<b->one c d<2^64:=λd _=>by unfold one;split<;>decide
  refine⟨_,rfl,_,rfl,_,rfl,fa,_,rfl,.inl (SqL.of hv3),?_⟩
  rw [List.length_map]
  refine Jt (sc:=1) (R.same m3) g (hT.same m3) hwl (by decide) hlen hone ?_
  intro x H4 M
  obtain⟨dx,fs,e1,e2,e3⟩:=zaB (T0:=T0) (Q:=Q) (H:=H) (n:=n) (fa:=fa) (by decide) hone hn8 M hv3 (hT.same m3) (SameL.of m3) (λc hc=>m3.free hc) (λH' s' hT'=>kk H' s' hT')
  exact⟨x,dx,fs,rfl,e1,e2,_,rfl,e3⟩
end
structure Sto2 (H:Hp) (s dr:Addr) (ds:List Int):Prop where
 st:∃ i:Int,H s=some (.lst [.ref dr,.int i])
 dr:H dr=some (.lst (ds.map V.int))
 ne:ds≠[]
 len:ds.length<=1000
 nn:∀ d∈ds,0<=d/\d<10007
theorem Sto2.nes {H:Hp} {s dr p:Addr} {ds:List Int} (S:Sto2 H s dr ds) (h:H p=none):p≠s:=λz=>by
 obtain⟨i,e⟩:=S.st
 rw [z,e] at h;cases h
theorem Sto2.ned {H:Hp} {s dr:Addr} {ds:List Int} (S:Sto2 H s dr ds):dr≠s:=λz=>by
 obtain⟨i,e⟩:=S.st
 have h:=S.dr
 rw [z,e] at h
 injection h with h
 injection h with h
 cases hd:ds with
 | nil=>exact S.ne hd
 | cons a l=>rw [hd,List.map_cons] at h;injection h with h1 _;cases h1
structure Stq2 (T s dr:Addr) (ds:List Int) (H H':Hp):Prop where
 st:Sto2 H' s dr ds
 sm:∀ b o,b≠s->b≠T->H b=some o->H' b=some o
section
variable {T s dr p:Addr} {ds:List Int} {H H1 H2 H':Hp} {o:HO}
theorem Stq2.refl (S:Sto2 H s dr ds):Stq2 T s dr ds H H:=⟨S,λ_ _ _ _ e=>e⟩
theorem Stq2.trans (a:Stq2 T s dr ds H H1) (b:Stq2 T s dr ds H1 H2):Stq2 T s dr ds H H2:=⟨b.st,λc o h t e=>b.sm c o h t (a.sm c o h t e)⟩
theorem Sto2.sameL (S:Sto2 H s dr ds) (hT:LT T H) (m:SameL T H H'):Sto2 H' s dr ds:=by
 obtain⟨i,e⟩:=S.st
 exact⟨⟨i,m _ _ (hT.lst e) e⟩,m _ _ (hT.lst S.dr) S.dr,S.ne,S.len,S.nn⟩
theorem Sto2.same (S:Sto2 H s dr ds) (m:Same H H'):Sto2 H' s dr ds:=by
 obtain⟨i,e⟩:=S.st
 exact⟨⟨i,m _ _ e⟩,m _ _ S.dr,S.ne,S.len,S.nn⟩
theorem Stq2.same (a:Stq2 T s dr ds H H1) (m:Same H1 H2):Stq2 T s dr ds H H2:=⟨a.st.same m,λc o h t e=>m c o (a.sm c o h t e)⟩
theorem Stq2.sameL (a:Stq2 T s dr ds H H1) (hT:LT T H1) (m:SameL T H1 H2):Stq2 T s dr ds H H2:=⟨a.st.sameL hT m,λc o h t e=>m c o t (a.sm c o h t e)⟩
theorem Stq2.put (a:Stq2 T s dr ds H H1) (hs:p≠s) (hd:p≠dr) (h:H p=none):Stq2 T s dr ds H (upd H1 p o):=⟨by
 obtain⟨i,e⟩:=a.st.st
 exact⟨⟨i,by rw [zq (Ne.symm hs)];exact e⟩,by rw [zq (Ne.symm hd)];exact a.st.dr,a.st.ne,a.st.len,a.st.nn⟩,λc u hc ht e=>by
  rw [zq (zy e h)];exact a.sm c u hc ht e⟩
end
theorem RuleAt.q {T s dr r bl:Addr} {ds:List Int} {H H':Hp} {b:Nat} {zs:ZB} (R:RuleAt (aw [s] H) r b bl zs) (hT:LT T H) (S:Stq2 T s dr ds H H'):RuleAt (aw [s] H') r b bl zs:=by
 have go:∀ c o,c≠T->aw [s] H c=some o->aw [s] H' c=some o:=λc o ht e=>by
  have hc:c∉[s]:=λhc=>by rw [Y8 hc] at e;cases e
  rw [yc hc] at e ⊢
  exact S.sm c o (λz=>hc (by simp [z])) ht e
 have f:∀ {c:Addr} {o:HO},aw [s] H c=some o->H c=some o:=λe=>zX _ _ _ _ e
 exact⟨go _ _ (hT.tup (f R.tu)) R.tu,go _ _ (hT.lst (f R.li)) R.li,λz hz=>go _ _ (hT.lst (f (R.st z hz))) (R.st z hz)⟩
section
variable {P:Program} {w:World} {K:W.Frag} {mg:Str->Option Value} {base:Heap} {T0:Addr}
def vW (T0:Addr):Sp:=λvs H Q _=>∃ (s dr:Addr) (ds:List Int) (m:Nat),vs=[.ref s,.int m]/\Sto2 H s dr ds/\0<m/\LT T0 H/\∀ (r:Nat) (H':Hp),r<m->r<10007->Stq2 T0 s dr ds H H'->LT T0 H'->Q (.int r) H'
theorem JV:zF ["store","many"] ["store","many"] (zu vJ):={}
theorem tM {f:Addr} {fd:FuncData} (D:Df K mg "_law_take" vJ Af f fd) (T:Blt mg):FnOk P w K mg base CX0 1 f fd Af (vW T0):=by
 refine D.fn.ok JV (λvs H Q E h=>?_) (λcdv A outer s H vs Q E hr h=>?_)
 ·obtain⟨s,dr,ds,m,rfl,_⟩:=h;rfl
 ·obtain⟨sa,dr,ds,m,rfl,S,hm0,hT,kk⟩:=h
  obtain⟨i,hs⟩:=S.st
  have nd:=S.ned
  refine⟨_,(zp (Vm (zA yq (zP (yo K) (pv 0) zm (λ_ _=>rfl)) zm) (Jv (pv 0) zm set_list))
   (zx (zL (zA yp (zP (yo K) (zP (yo K) (pv 0) zm (λ_ _=>rfl)) (zA yp (zA uc (zP (yo K) (pv 0) zm (λ_ _=>rfl)) zm) (zE (xQ K) (by rfl) T.n_len PySem.boot_len (zc (zP (yo K) (pv 0) zm (λ_ _=>rfl)) zg))) (λ_ _=>rfl)) (pv 1))))),?_⟩
  refine⟨_,rfl,sa,_,_,V.int i,rfl,rfl,SqL.of hs,rfl,_,_,rfl,rfl,_,rfl,sa,_,_,1,rfl,rfl,hs,rfl,?_⟩
  have hs1:upd H sa (.lst [V.ref dr,V.int (i+1)]) sa=some (.lst [V.ref dr,V.int (i+1)]):=zf
  have hd1:upd H sa (.lst [V.ref dr,V.int (i+1)]) dr=some (.lst (ds.map V.int)):=by rw [zq nd];exact S.dr
  have hdl:0<ds.length:=List.length_pos_iff.mpr S.ne
  refine⟨_,rfl,sa,_,_,V.ref dr,rfl,rfl,SqL.of hs1,rfl,?_⟩
  refine⟨_,rfl,sa,_,_,V.int (i+1),rfl,rfl,SqL.of hs1,rfl,_,_,rfl,rfl,?_⟩
  refine⟨_,rfl,sa,_,_,V.ref dr,rfl,rfl,SqL.of hs1,rfl,dr,_,rfl,.inl (SqL.of hd1),_,_,rfl,rfl,(by rw [List.length_map];omega),?_⟩
  rw [List.length_map]
  have hj0:0<=(i+1-1) % (ds.length:Int):=Int.emod_nonneg _ (by omega)
  have hj1:(i+1-1) % (ds.length:Int)<ds.length:=Int.emod_lt_of_pos _ (by omega)
  obtain⟨j,hj⟩:∃ j:Nat,(i+1-1) % (ds.length:Int)=(j:Int):=⟨((i+1-1) % (ds.length:Int)).toNat,by omega⟩
  have hjl:j<ds.length:=by omega
  refine⟨dr,_,_,V.int ds[j],rfl,rfl,SqL.of hd1,?_,_,rfl,_,_,rfl,rfl,(by omega:(0:Int)<m),?_⟩
  ·show atI (ds.map V.int) ((i+1-1) % (ds.length:Int))=_
   rw [hj]
   exact yI (by rw [List.getElem?_map,List.getElem?_eq_getElem hjl];rfl)
  have hn:=S.nn ds[j] (List.getElem_mem hjl)
  have h0:0<=ds[j] % (m:Int):=Int.emod_nonneg _ (by omega)
  have h1:ds[j] % (m:Int)<m:=Int.emod_lt_of_pos _ (by omega)
  have h2:ds[j] % (m:Int)<=ds[j]:=by
   have:=Int.mul_ediv_add_emod ds[j] (m:Int)
   have h3:=Int.mul_nonneg (show (0:Int)<=m by omega) (Int.ediv_nonneg hn.1 (show (0:Int)<=m by omega))
   omega
  obtain⟨r,hr'⟩:∃ r:Nat,ds[j] % (m:Int)=(r:Int):=⟨(ds[j] % (m:Int)).toNat,by omega⟩
  show Q (V.int (ds[j] % (m:Int))) _
  rw [hr']
  refine kk r _ (by omega) (by omega) ⟨⟨⟨_,hs1⟩,hd1,S.ne,S.len,S.nn⟩,λb o hb _ e=>by rw [zq hb];exact e⟩ ?_
  have nT:=hT.lst hs
  rcases hT with h | ⟨c,h1,h2⟩
  ·exact .inl (by rw [zq (Ne.symm nT)];exact h)
  ·exact .inr ⟨c,by rw [zq (Ne.symm nT)];exact h1,by rw [zq (λz=>by rw [z,hs] at h2;cases h2)];exact h2⟩
structure Drw (H:Hp) (p:Addr) (ds:List Int):Prop where
 li:H p=some (.lst (ds.map V.int))
 nn:∀ d∈ds,0<=d/\d<10007
def ZC (K:W.Frag):Sp:=λvs H Q _=>∃ (a:Addr) (ns:List Int),vs=[.ref a,.int 300]/\SqL K H a (ns.map V.int)/\ns.length<=63/\∀ (p:Addr) (ds:List Int) (H':Hp),H p=none->Drw H' p ds->ds≠[]->ds.length<=1000->Same H H'->Q (.ref p) H'
theorem zW:zF ["script","many","drawn","base","k","cell","number","one"] ["script","many"] (zu jx):={}
theorem XD {f:Addr} {fd:FuncData} (D:Df K mg "_law_draws" jx A3 f fd) (T:Blt mg) (U:Vh mg):FnOk P w K mg base CX0 1 f fd A3 (ZC K):=by
 refine D.fn.ok zW (λvs H Q E h=>?_) (λcdv A outer s H vs Q E hr h=>?_)
 ·obtain⟨a,ns,rfl,_⟩:=h;rfl
 ·obtain⟨a,ns,rfl,hS,hlen,kk⟩:=h
  refine⟨_,(zp (zB (i:=2) zW.nd rfl (Or.inl rfl) (zZ zg))
   (zp (zB (i:=3) zW.nd rfl (Or.inl rfl) zm)
   (zp (yU PassesOwn.never rfl (V7 K rfl T.n_enumerate (zc (wz (Xb K) (pv 0) uW (wF zm)) zg)) (J3 rfl (yG (zQ (i:=4) zW.nd rfl (Or.inl rfl)) (yG (zQ (i:=5) zW.nd rfl (Or.inl rfl)) qK)))
    (zp (zB (i:=6) zW.nd rfl (Or.inl rfl) (zE zec (by rfl) U.n_abs boot_abs (zc (pv 5) zg)))
    (zp (zB (i:=3) zW.nd rfl (Or.inl rfl) (zA yp (zA yq (zA wu (pv 3) zm) (pv 6)) zm))
    (zx (xr (ym zdQ (pv 6) (zA JP zm zm) (ye _))
     (zx (Wx PassesOwn.never (PW.pt (zad (ym za9 (pv 6) zm (ye _)) (V8 (ym zes (zE (xQ K) (by rfl) T.n_len PySem.boot_len (zc (pv 2) zg)) (pv 1) (ye _)))))
      (zp (xP (Zq PySem.F.plainAttrs_list PySem.F.slot_list_append PySem.F.type_list_append xF (pv 2) (zc (zA yp (pv 6) zm) zg)))
      (zx (zB (i:=6) zW.nd rfl (Or.inl rfl) (zA vh (pv 6) zm))))))
     (zp (zB (i:=7) zW.nd rfl (Or.inl rfl) (zA yp (zA wu (zA yq (zA yq (zA yp (pv 6) zm) (pv 4)) zm) zm) zm))
     (zp (zB (i:=7) zW.nd rfl (Or.inl rfl) (zA yp (zA wu (pv 7) (pv 7)) zm))
     (zp (xP (Zq PySem.F.plainAttrs_list PySem.F.slot_list_append PySem.F.type_list_append xF (pv 2) (zc (zA yp (zA vh (pv 7) zm) zm) zg)))
     (zp (zB (i:=7) zW.nd rfl (Or.inl rfl) (zA yp (zA yq (zA yq (zA wu (pv 7) zm) (zA wu zm (pv 4))) zm) zm))
     (zp (zB (i:=7) zW.nd rfl (Or.inl rfl) (zA yp (zA wu (pv 7) (pv 7)) zm))
     (zx (xP (Zq PySem.F.plainAttrs_list PySem.F.slot_list_append PySem.F.type_list_append xF (pv 2) (zc (zA yp (zA vh (pv 7) zm) zm) zg))))))))))))))
   (zp (yU PassesOwn.never rfl (yg rfl T.n_range (zc (zA uc (pv 1) (zE (xQ K) (by rfl) T.n_len PySem.boot_len (zc (pv 2) zg))) zg)) (zQ (i:=4) zW.nd rfl (Or.inl rfl))
    (zp (zB (i:=7) zW.nd rfl (Or.inl rfl) (zA yp (zA yq (zA yq (pv 3) (zA wu zm (pv 4))) zm) zm))
    (zp (zB (i:=7) zW.nd rfl (Or.inl rfl) (zA yp (zA wu (pv 7) (pv 7)) zm))
    (zp (zB (i:=7) zW.nd rfl (Or.inl rfl) (zA yp (zA yq (zA wu (pv 7) zm) (pv 4)) zm))
    (zx (xP (Zq PySem.F.plainAttrs_list PySem.F.slot_list_append PySem.F.type_list_append xF (pv 2) (zc (zA yp (zA vh (zA yp (zA wu (pv 7) (pv 7)) zm) zm) zm) zg))))))))
   (zx (zL (pv 2))))))),?_⟩
  refine⟨(by decide:0<=sizeLine),λdr hdr=>?_⟩
  have m1:Same H (upd H dr (.lst [])):=zj hdr
  have add:∀ {H2:Hp} {ds:List Int} (y:Int),Drw H2 dr ds->Drw (upd H2 dr (.lst (ds.map V.int++[.int (y % 10007)]))) dr (ds++[y % 10007]):=λ{H2 ds} y Dr=>⟨by rw [zf];simp,λd hd=>by
   rcases List.mem_append.mp hd with hd | hd
   ·exact Dr.nn d hd
   ·have e:d=y % 10007:=by simpa using hd
    rw [e]
    exact⟨Int.emod_nonneg _ (by decide),Int.emod_lt_of_pos _ (by decide)⟩⟩
  have smp:∀ {H2:Hp} {o:HO},Same H H2->Same H (upd H2 dr o):=λm b o e=>by rw [zq (zy e hdr)];exact m b o e
  refine⟨_,rfl,_,rfl,a,_,rfl,m1.seq hS,λq hq=>?_⟩
  have ecut:uV (ns.map V.int) none (some 63)=ns.map V.int:=by
   rw [show (63:Int)=((63:Nat):Int) from rfl,qu,List.take_of_length_le (by rw [List.length_map];exact hlen)]
  rw [ecut]
  have m2:=m1.trans (zj hq (o:=.lst (ns.map V.int)))
  have ndq:dr≠q:=λz=>by rw [<- z,zf] at hq;cases hq
  refine⟨q,rfl,⟨_,SqL.of zf⟩,UJ (K:=K) (a:=q) (xs:=ns.map V.int) (λi Z H2=>∃ (v4 v5 v6 v7:Option V) (bs:Int) (ds:List Int),Z=[some (.ref a),some (.int 300),some (.ref dr),some (.int bs),v4,v5,v6,v7]/\0<=bs/\bs<2147483629/\Drw H2 dr ds/\ds.length<=300+2*i/\Same H H2/\H2 q=some (.lst (ns.map V.int)))
   ⟨none,none,none,none,7,[],rfl,by decide,by decide,⟨by rw [zq ndq,zf];rfl,by simp⟩,by simp,m2,zf⟩ (λi Z H2 _ ⟨_,_,_,_,_,_,_,_,_,_,_,_,h⟩=>SqL.of h) ?_ ?_⟩
  ·rintro i x Z H2 T1 hx ⟨v4,v5,v6,v7,bs,ds,rfl,hb0,hb1,Dr,hdl,m,hq2⟩ hT1
   rw [List.getElem?_map] at hx
   obtain⟨cell,hc,e⟩:=Option.map_eq_some_iff.mp hx
   subst e
   have hi:i<ns.length:=(List.getElem?_eq_some_iff.mp hc).1
   have t1:=zj hT1 (o:=.tup [.int (i:Nat),.int cell])
   refine⟨T1,_,rfl,SqT.of zf,rfl,_,_,rfl,_,_,rfl,rfl,?_⟩
   have m3:=m.trans t1
   have Dr3:Drw (upd H2 T1 (.tup [.int (i:Nat),.int cell])) dr ds:=⟨t1 _ _ Dr.li,Dr.nn⟩
   have hq3:=t1 _ _ hq2
   generalize upd H2 T1 (.tup [.int (i:Nat),.int cell])=H3 at m3 Dr3 hq3
   have ndq3:dr≠q:=ndq
   refine⟨_,rfl,cell,rfl,?_⟩
   try dsimp only
   generalize hnum:(if cell<0 then -cell else cell)=num
   have hn0:0<=num:=by rw [<- hnum];split<;>omega
   refine⟨_,rfl,_,_,rfl,rfl,.inr ⟨by decide,by decide⟩,_,rfl,_,_,rfl,rfl,_,_,rfl,rfl,(by decide:(0:Int)<2147483629),?_⟩
   try dsimp only
   generalize hbs:(bs*31+num) % 2147483629=bs'
   have hb0':0<=bs':=by rw [<- hbs];exact Int.emod_nonneg _ (by decide)
   have hb1':bs'<2147483629:=by rw [<- hbs];exact Int.emod_lt_of_pos _ (by decide)
   refine⟨_,rfl,_,_,rfl,rfl,⟨by decide,by decide,by decide⟩,_,_,rfl,rfl,_,rfl,?_⟩
   generalize decide ((10:Int)^(18:Int).toNat<=num)=bb
   cases bb with
   | true =>
    refine vL ?_
    refine WT (λZ H4=>∃ (ds':List Int) (nu:Int),Z=[some (.ref a),some (.int 300),some (.ref dr),some (.int bs'),some (.int (i:Nat)),some (.int cell),some (.int nu),v7]/\0<=nu/\Drw H4 dr ds'/\(ds'.length<=300\/ds'.length<=300+2*i)/\Same H H4/\H4 q=some (.lst (ns.map V.int)))
     (λZ _=>match Z with | [_,_,_,_,_,_,some (.int nu),_]=>nu.toNat | _=>0) ⟨ds,num,rfl,hn0,Dr3,.inr hdl,m3,hq3⟩ ?_ ?_
    ·rintro Z H4 ⟨ds',nu,rfl,hnu,Dr4,hl4,m4,hq4⟩
     refine⟨_,rfl,_,_,rfl,rfl,_,rfl,?_⟩
     refine J5 (λhp=>?_) (λhp=>?_)
     ·have hp':0<nu:=of_decide_eq_true hp
      refine⟨_,rfl,dr,_,rfl,.inl (SqL.of Dr4.li),_,rfl,_,_,rfl,rfl,_,rfl,?_⟩
      rw [List.length_map]
      refine J5 (λhlt=>?_) (λhlt=>?_)
      ·have hlt':ds'.length<300:=by have:=of_decide_eq_true hlt;omega
       refine⟨_,rfl,.inl ⟨rfl,_,SqL.of Dr4.li⟩,_,rfl,_,_,rfl,rfl,(by decide:(0:Int)<10007),dr,_,_,rfl,rfl,Dr4.li,by rw [List.length_map];exact Nat.lt_of_lt_of_le hlt' (by decide),?_⟩
       refine⟨_,rfl,_,_,rfl,rfl,⟨by decide,by decide⟩,⟨ds'++[nu % 10007],nu / 10007,rfl,Int.ediv_nonneg hnu (by decide),add nu Dr4,.inl (by rw [List.length_append,List.length_singleton];omega),smp m4,by rw [zq (Ne.symm ndq)];exact hq4⟩,?_⟩
       show (nu / 10007).toNat<nu.toNat
       have:nu / 10007<nu:=Int.ediv_lt_of_lt_mul (by decide) (by omega)
       omega
      ·exact⟨_,_,_,_,bs',ds',rfl,hb0',hb1',Dr4,by omega,m4,hq4⟩
     ·exact⟨_,_,_,_,bs',ds',rfl,hb0',hb1',Dr4,by omega,m4,hq4⟩
    ·intro Z H4 Q Q' hq'
     rintro⟨v0,e0,i0,j0,e1,e2,k0,e3,q0⟩
     refine⟨v0,e0,i0,j0,e1,e2,k0,e3,?_⟩
     by_cases hk:k0=true
     ·rw [if_pos hk] at q0 ⊢
      obtain⟨v1,e4,a1,ys1,e5,s1,v2,e6,i2,j2,e7,e8,k2,e9,q2⟩:=q0
      exact⟨v1,e4,a1,ys1,e5,s1,v2,e6,i2,j2,e7,e8,k2,e9,hq' _ _ q2⟩
     ·rw [if_neg hk] at q0 ⊢
      exact hq' _ _ q0
   | false =>
    refine xX ?_
    refine⟨_,rfl,_,_,rfl,rfl,(by decide:(0:Int)<2147483647),_,rfl,_,_,rfl,rfl,_,_,rfl,rfl,_,_,rfl,rfl,.inr ⟨by decide,by decide⟩,_,_,rfl,rfl,(by decide:(0:Int)<2147483647),?_⟩
    try dsimp only
    generalize ho1:(num % 2147483647+(i:Int)+1)*48271 % 2147483647=o1
    have o1b:0<=o1/\o1<2147483647:=by rw [<- ho1];exact⟨Int.emod_nonneg _ (by decide),Int.emod_lt_of_pos _ (by decide)⟩
    refine⟨_,rfl,_,rfl,_,_,rfl,rfl,.inl ⟨by omega,by omega⟩,_,_,rfl,rfl,(by decide:(0:Int)<2147483629),?_⟩
    try dsimp only
    generalize ho2:o1*o1 % 2147483629=o2
    have o2b:0<=o2/\o2<2147483629:=by rw [<- ho2];exact⟨Int.emod_nonneg _ (by decide),Int.emod_lt_of_pos _ (by decide)⟩
    refine⟨_,rfl,.inl ⟨rfl,_,SqL.of Dr3.li⟩,_,rfl,_,_,rfl,rfl,⟨by decide,by decide⟩,_,_,rfl,rfl,(by decide:(0:Int)<10007),dr,_,_,rfl,rfl,Dr3.li,by rw [List.length_map];exact Nat.lt_of_le_of_lt (show ds.length<=500 by omega) (by decide),?_⟩
    have Dr4:=add (o2 / 8) Dr3
    refine⟨_,rfl,_,_,rfl,rfl,.inl ⟨by omega,by omega⟩,_,rfl,_,_,rfl,rfl,.inl ⟨by decide,by decide⟩,_,_,rfl,rfl,_,_,rfl,rfl,_,_,rfl,rfl,(by decide:(0:Int)<2147483563),?_⟩
    try dsimp only
    generalize ho3:(o2*40692+2*(i:Int)+1) % 2147483563=o3
    have o3b:0<=o3/\o3<2147483563:=by rw [<- ho3];exact⟨Int.emod_nonneg _ (by decide),Int.emod_lt_of_pos _ (by decide)⟩
    refine⟨_,rfl,_,rfl,_,_,rfl,rfl,.inl ⟨by omega,by omega⟩,_,_,rfl,rfl,(by decide:(0:Int)<2147483647),?_⟩
    try dsimp only
    generalize ho4:o3*o3 % 2147483647=o4
    refine⟨_,rfl,.inl ⟨rfl,_,SqL.of Dr4.li⟩,_,rfl,_,_,rfl,rfl,⟨by decide,by decide⟩,_,_,rfl,rfl,(by decide:(0:Int)<10007),dr,_,_,rfl,rfl,Dr4.li,by rw [List.length_map,List.length_append,List.length_singleton];exact Nat.lt_of_le_of_lt (show ds.length+1<=500 by omega) (by decide),?_⟩
    exact⟨_,_,_,_,bs',ds++[o2 / 8 % 10007]++[o4 / 8 % 10007],rfl,hb0',hb1',add (o4 / 8) Dr4,by rw [List.length_append,List.length_append,List.length_singleton,List.length_singleton];omega,smp (smp m3),by rw [zq (Ne.symm ndq),zq (Ne.symm ndq)];exact hq3⟩
  ·rintro Z H2 ⟨v4,v5,v6,v7,bs,ds,rfl,hb0,hb1,Dr,hdl,m,hq2⟩
   rw [List.length_map] at hdl
   refine⟨_,rfl,_,rfl,dr,_,rfl,.inl (SqL.of Dr.li),_,_,rfl,rfl,_,rfl,?_⟩
   rw [List.length_map]
   refine⟨by omega,by omega,yH (lo:=0) (n:=(300-(ds.length:Int)).toNat) (λi Z H3=>∃ (v4 v5 v6 v7:Option V) (ds':List Int),Z=[some (.ref a),some (.int 300),some (.ref dr),some (.int bs),v4,v5,v6,v7]/\Drw H3 dr ds'/\ds'.length=ds.length+i/\Same H H3) ⟨_,_,_,_,ds,rfl,Dr,rfl,m⟩ ?_ ?_⟩
   ·rintro i Z H3 hi ⟨v4,v5,v6,v7,ds',rfl,Dr3,hl3,m3⟩
    refine⟨_,rfl,_,rfl,_,_,rfl,rfl,.inl ⟨by decide,by decide⟩,_,_,rfl,rfl,_,_,rfl,rfl,_,_,rfl,rfl,(by decide:(0:Int)<2147483629),?_⟩
    try dsimp only
    generalize ho1:(bs+7919*(0+(i:Int))+13) % 2147483629=o1
    have o1b:0<=o1/\o1<2147483629:=by rw [<- ho1];exact⟨Int.emod_nonneg _ (by decide),Int.emod_lt_of_pos _ (by decide)⟩
    refine⟨_,rfl,_,rfl,_,_,rfl,rfl,.inl ⟨by omega,by omega⟩,_,_,rfl,rfl,(by decide:(0:Int)<2147483647),?_⟩
    try dsimp only
    generalize ho2:o1*o1 % 2147483647=o2
    have o2b:0<=o2/\o2<2147483647:=by rw [<- ho2];exact⟨Int.emod_nonneg _ (by decide),Int.emod_lt_of_pos _ (by decide)⟩
    refine⟨_,rfl,_,_,rfl,rfl,.inl ⟨by omega,by omega⟩,_,rfl,_,_,rfl,rfl,_,_,rfl,rfl,(by decide:(0:Int)<2147483563),?_⟩
    try dsimp only
    generalize ho3:(o2*69621+(0+(i:Int))) % 2147483563=o3
    have o3b:0<=o3/\o3<2147483563:=by rw [<- ho3];exact⟨Int.emod_nonneg _ (by decide),Int.emod_lt_of_pos _ (by decide)⟩
    refine⟨_,rfl,.inl ⟨rfl,_,SqL.of Dr3.li⟩,_,rfl,_,rfl,_,_,rfl,rfl,.inl ⟨by omega,by omega⟩,_,_,rfl,rfl,(by decide:(0:Int)<2147483629),_,_,rfl,rfl,⟨by decide,by decide⟩,_,_,rfl,rfl,(by decide:(0:Int)<10007),dr,_,_,rfl,rfl,Dr3.li,by rw [List.length_map,hl3];exact Nat.lt_of_le_of_lt (show ds.length+i<=500 by omega) (by decide),?_⟩
    exact⟨_,_,_,_,ds'++[o3*o3 % 2147483629 / 8 % 10007],rfl,add _ Dr3,by rw [List.length_append,List.length_singleton];omega,smp m3⟩
   ·rintro Z H3 ⟨v4,v5,v6,v7,ds',rfl,Dr3,hl3,m3⟩
    refine⟨_,rfl,kk dr ds' H3 hdr Dr3 (λz=>?_) (by omega) m3⟩
    rw [z] at hl3
    simp at hl3
    omega
end
theorem LT.putL {T p:Addr} {H:Hp} {o:HO} {xs:List V} (h:LT T H) (e:H p=some (.lst xs)):LT T (upd H p o):=by
 have nT:=h.lst e
 rcases h with h | ⟨c,h1,h2⟩
 ·exact .inl (by rw [zq (Ne.symm nT)];exact h)
 ·exact .inr ⟨c,by rw [zq (Ne.symm nT)];exact h1,by rw [zq (λz=>by rw [z,e] at h2;cases h2)];exact h2⟩
theorem LT.putD {T p:Addr} {H:Hp} {o:HO} {xs:List (List Key×V)} (h:LT T H) (e:H p=some (.dT xs)):LT T (upd H p o):=by
 have nT:p≠T:=λz=>by
  rw [z] at e
  rcases h with h | ⟨c,h,_⟩
  ·rw [h] at e;cases e
  ·rw [h] at e;cases e
 rcases h with h | ⟨c,h1,h2⟩
 ·exact .inl (by rw [zq (Ne.symm nT)];exact h)
 ·exact .inr ⟨c,by rw [zq (Ne.symm nT)];exact h1,by rw [zq (λz=>by rw [z,e] at h2;cases h2)];exact h2⟩
structure Fr (T s dr:Addr) (ds:List Int) (H H':Hp):Prop where
 q:Stq2 T s dr ds H H'
 lt:LT T H'
section
variable {T s dr p:Addr} {ds:List Int} {H H1 H2 H':Hp} {o:HO}
theorem Fr.st (a:Fr T s dr ds H H1):Sto2 H1 s dr ds:=a.q.st
theorem Fr.refl (S:Sto2 H s dr ds) (h:LT T H):Fr T s dr ds H H:=⟨.refl S,h⟩
theorem Fr.trans (a:Fr T s dr ds H H1) (b:Fr T s dr ds H1 H2):Fr T s dr ds H H2:=⟨a.q.trans b.q,b.lt⟩
theorem Fr.same (a:Fr T s dr ds H H1) (m:Same H1 H2):Fr T s dr ds H H2:=⟨a.q.same m,a.lt.same m⟩
theorem Fr.sameL (a:Fr T s dr ds H H1) (m:SameL T H1 H2) (h:LT T H2):Fr T s dr ds H H2:=⟨a.q.sameL a.lt m,h⟩
theorem Fr.new (a:Fr T s dr ds H H1) (h:H1 p=none):Fr T s dr ds H (upd H1 p o):=a.same (zj h)
theorem Fr.free (a:Fr T s dr ds H H1) (h:H1 p=none):H p=none:=by
 cases e:H p with
 | none=>rfl
 | some u =>
  have:=a.q.sm p u (a.st.nes h) (a.lt.none h) e
  rw [h] at this;cases this
theorem Fr.get (a:Fr T s dr ds H H1) (hs:p≠s) (ht:p≠T) (e:H p=some o):H1 p=some o:=a.q.sm p o hs ht e
theorem Sto2.nedn (S:Sto2 H s dr ds) (h:H p=none):p≠dr:=λz=>by rw [z,S.dr] at h;cases h
theorem Fr.putL {xs:List V} (a:Fr T s dr ds H H1) (hs:p≠s) (hd:p≠dr) (h:H p=none) (e:H1 p=some (.lst xs)):Fr T s dr ds H (upd H1 p o):=⟨a.q.put hs hd h,a.lt.putL e⟩
theorem Fr.putD {xs:List (List Key×V)} (a:Fr T s dr ds H H1) (hs:p≠s) (hd:p≠dr) (h:H p=none) (e:H1 p=some (.dT xs)):Fr T s dr ds H (upd H1 p o):=⟨a.q.put hs hd h,a.lt.putD e⟩
end
section
variable {P:Program} {w:World} {K:W.Frag} {mg:Str->Option Value} {base:Heap} {T0:Addr}
def Yk (T0:Addr):Sp:=λvs H Q _=>∃ (s dr:Addr) (ds:List Int),vs=[.ref s]/\Sto2 H s dr ds/\LT T0 H/\∀ (r:Addr) (b:Nat) (bl:Addr) (zs:ZB) (H':Hp),Fr T0 s dr ds H H'->RuleAt (aw [s] H') r b bl zs->yC b (zs.map (·.2))->Q (.ref r) H'
theorem xg:zF ["store","x","base","found","k","few","stretch","at","y"] ["store"] (zu qW):={}
set_option maxHeartbeats 0 in
theorem JG {f f1:Addr} {fd fd1:FuncData} (D:Df K mg "_law_rule" qW ["store"] f fd) (zJ:Df K mg "_law_take" vJ Af f1 fd1) (T:Blt mg):FnOk P w K mg base CX0 2 f fd ["store"] (Yk T0):=by
 have zT:FnOk P w K mg base CX0 1 f1 fd1 Af (vW T0):=tM zJ T
 refine D.fn.ok xg (λvs H Q E h=>?_) (λcdv A outer s H vs Q E hr h=>?_)
 ·obtain⟨s,dr,ds,rfl,_⟩:=h;rfl
 ·obtain⟨sa,dr,ds,rfl,S,hT,kk⟩:=h
  refine⟨_,(zp (zB (i:=1) xg.nd rfl (Or.inl rfl) (zN zJ zT (hr.mono (by decide)) (zc (pv 0) (zc zm zg))))
   (zp (zB (i:=2) xg.nd rfl (Or.inl rfl) (zP (yo K) (zZ (zc zm (zc zm (zc zm (zc zm (zc (zA yq zm (zA yp (pv 1) zm)) zg)))))) (zN zJ zT (hr.mono (by decide)) (zc (pv 0) (zc zm zg))) (λ_ _=>rfl)))
   (zp (zB (i:=3) xg.nd rfl (Or.inl rfl) zdT)
   (zp (yU PassesOwn.never rfl (yg rfl T.n_range (zc (zP (yo K) (zZ (zc (zA yp (zA vh (pv 1) zm) zm) (zc (zA yq zm (zA yp (zA vh (pv 1) zm) zm)) (zc zm zg)))) (zN zJ zT (hr.mono (by decide)) (zc (pv 0) (zc zm zg))) (λ_ _=>rfl)) zg)) (zQ (i:=4) xg.nd rfl (Or.inl rfl))
    (zp (zB (i:=5) xg.nd rfl (Or.inl rfl) (zP (yo K) (zZ (zc (pv 2) (zc (zE (zcY rfl) (by rfl) T.n_min boot_min (zc (pv 2) (zc zm zg))) (zc zm zg)))) (zN zJ zT (hr.mono (by decide)) (zc (pv 0) (zc zm zg))) (λ_ _=>rfl)))
    (zp (zB (i:=6) xg.nd rfl (Or.inl rfl) (zZ zg))
    (zp (yU PassesOwn.never rfl (yg rfl T.n_range (zc (zA yq zm (zN zJ zT (hr.mono (by decide)) (zc (pv 0) (zc zm zg)))) zg)) (zQ (i:=7) xg.nd rfl (Or.inl rfl))
     (zp (zB (i:=8) xg.nd rfl (Or.inl rfl) (zN zJ zT (hr.mono (by decide)) (zc (pv 0) (zc zm zg))))
     (zx (xP (Zq PySem.F.plainAttrs_list PySem.F.slot_list_append PySem.F.type_list_append xF (pv 6) (zc (zP (yo K) (zZ (zc (zA yp (pv 8) (pv 5)) (zc (zA uc (zA uc (pv 2) zm) (zA yp (pv 8) (pv 5))) zg))) (vV Z0 (by rfl) T.n_int boot_int (zc (xT ZP (zA yp (zA vh (pv 8) zm) zm) zm (ye _)) zg)) (λ_ _=>rfl)) zg))))))
    (zx (zeD (zgi hr) (pv 3) (vV XC (by rfl) T.n_tuple boot_tuple (zc (pv 6) zg)) XH rfl))))))
   (zx (zL (vd (zc (pv 2) (zc (xK (show CScope (zu qW) _ "stretch" ["store","x","base","found","k","few","stretch","at","y"] [] [] from {}) rfl (Yt K (zE zfa (by rfl) T.n_sorted boot_sorted (zc (pv 3) zg))) (λ_ _ _ _=>yJ) (λ_ _ _ _=>(vV (zaR K) (by rfl) T.n_list boot_list (zc (pv 0) zg)))) zg))))))))),?_⟩
  refine⟨_,rfl,sa,dr,ds,10007,rfl,(Fr.refl S hT:Fr T0 sa dr ds H H).st,(by decide),(Fr.refl S hT:Fr T0 sa dr ds H H).lt,λx H1 hx _ qf_ tf_=>?_⟩
  have fq_:=Fr.mk qf_ tf_
  have F1:=(Fr.refl S hT:Fr T0 sa dr ds H H).trans fq_
  refine⟨_,rfl,_,_,rfl,rfl,(by decide:(0:Int)<15),_,_,rfl,rfl,(by show 5<=sizeLine;decide),λl1 hl1=>?_⟩
  have n1:=F1.st.nes hl1
  have t1:=F1.lt.none hl1
  have F2:=F1.new hl1 (o:=.lst [.int 2,.int 3,.int 10,.int 16,.int (2+(x:Int) % 15)])
  refine⟨_,rfl,sa,dr,ds,5,rfl,F2.st,(by decide),F2.lt,λx2 H3 hx2 _ qf_ tf_=>?_⟩
  have f3:=Fr.mk qf_ tf_
  have F3:=F2.trans f3
  obtain⟨b,hb,hb2,hb16⟩:∃ b:Nat,atI [V.int 2,V.int 3,V.int 10,V.int 16,V.int (2+(x:Int) % 15)] (x2:Int)=some (.int b)/\2<=b/\b<=16:=by
   match x2,hx2 with
   | 0,_=>exact⟨2,rfl,by omega,by omega⟩
   | 1,_=>exact⟨3,rfl,by omega,by omega⟩
   | 2,_=>exact⟨10,rfl,by omega,by omega⟩
   | 3,_=>exact⟨16,rfl,by omega,by omega⟩
   | 4,_=>exact⟨2+x % 15,rfl,by omega,by omega⟩
  refine⟨l1,_,_,_,rfl,rfl,SqL.of (f3.get n1 t1 zf),hb,?_⟩
  intro kd hkd
  have nkd:=F3.st.nes hkd
  have ndk:=F3.st.nedn hkd
  have tkd:=F3.lt.none hkd
  have hkd0:=F3.free hkd
  have F4:=F3.new hkd (o:=.dT [])
  refine⟨_,rfl,_,_,rfl,rfl,⟨by decide,by decide⟩,_,_,rfl,rfl,(by decide:(0:Int)<5),_,rfl,_,_,rfl,rfl,⟨by decide,by decide⟩,_,_,rfl,rfl,(by decide:(0:Int)<2),_,_,rfl,rfl,(by show 3<=sizeLine;decide),λl2 hl2=>?_⟩
  have n2:=F4.st.nes hl2
  have t2:=F4.lt.none hl2
  have hk5:=zj hl2 (o:=.lst [.int ((x:Int) / 15 % 5),.int (1+(x:Int) / 15 % 2),.int 4]) kd _ zf
  have F5:=F4.new hl2 (o:=.lst [.int ((x:Int) / 15 % 5),.int (1+(x:Int) / 15 % 2),.int 4])
  refine⟨_,rfl,sa,dr,ds,3,rfl,F5.st,(by decide),F5.lt,λx3 H6 hx3 _ qf_ tf_=>?_⟩
  have f6:=Fr.mk qf_ tf_
  have F6:=F5.trans f6
  obtain⟨mm,hmm,hm4⟩:∃ m:Nat,atI [V.int ((x:Int) / 15 % 5),V.int (1+(x:Int) / 15 % 2),V.int 4] (x3:Int)=some (.int m)/\m<=4:=by
   match x3,hx3 with
   | 0,_=>exact⟨x / 15 % 5,rfl,by omega⟩
   | 1,_=>exact⟨1+x / 15 % 2,rfl,by omega⟩
   | 2,_=>exact⟨4,rfl,by omega⟩
  refine⟨l2,_,_,_,rfl,rfl,SqL.of (f6.get n2 t2 zf),hmm,?_⟩
  refine⟨_,rfl,by omega,by omega,yH (lo:=0) (n:=(mm:Int).toNat) (λi Z H5=>∃ (v4 v5 v6 v7 v8:Option V) (kvs:List (List Key×V)) (ls:ZA),Z=[some (.ref sa),some (.int x),some (.int b),some (.ref kd),v4,v5,v6,v7,v8]/\Fr T0 sa dr ds H H5/\H5 kd=some (.dT kvs)/\kvs.map (·.1)=ls.map kI/\ls.length<=i/\∀ l∈ls,J8 b l)
   ⟨none,none,none,none,none,[],[],rfl,F6,f6.get nkd tkd hk5,rfl,Nat.le_refl _,by simp⟩ ?_ ?_⟩
  ·rintro i Z H7 hi ⟨v4,v5,v6,v7,v8,kvs,ls,rfl,F7,hk7,hks,hll,hgd⟩
   refine⟨_,rfl,_,rfl,_,_,rfl,(by show 3<=sizeLine;decide),λl3 hl3=>?_⟩
   have n3:=F7.st.nes hl3
   have t3:=F7.lt.none hl3
   have hk8:=zj hl3 (o:=.lst [.int b,.int (if (3:Int)<(b:Int) then 3 else (b:Int)),.int 2]) kd _ hk7
   have F8:=F7.new hl3 (o:=.lst [.int b,.int (if (3:Int)<(b:Int) then 3 else (b:Int)),.int 2])
   refine⟨_,rfl,sa,dr,ds,3,rfl,F8.st,(by decide),F8.lt,λx4 H9 hx4 _ qf_ tf_=>?_⟩
   have f9:=Fr.mk qf_ tf_
   have F9:=F8.trans f9
   obtain⟨few,hfew,hfew1,hfew2⟩:∃ m:Nat,atI [V.int b,V.int (if (3:Int)<(b:Int) then 3 else (b:Int)),V.int 2] (x4:Int)=some (.int m)/\2<=m/\m<=b:=by
    match x4,hx4 with
    | 0,_=>exact⟨b,rfl,by omega,by omega⟩
    | 1,_ =>
     by_cases z:3<b
     ·exact⟨3,by rw [if_pos (by omega)];rfl,by omega,by omega⟩
     ·exact⟨b,by rw [if_neg (by omega)];rfl,by omega,by omega⟩
    | 2,_=>exact⟨2,rfl,by omega,by omega⟩
   refine⟨l3,_,_,_,rfl,rfl,SqL.of (f9.get n3 t3 zf),hfew,?_⟩
   have hk9:=f9.get nkd tkd hk8
   refine⟨(by decide:0<=sizeLine),λsl hsl=>?_⟩
   have nsl:=F9.st.nes hsl
   have dsl:=F9.st.nedn hsl
   have tsl:=F9.lt.none hsl
   have hsl0:=F9.free hsl
   have nks:kd≠sl:=λz=>by rw [z,hsl] at hk9;cases hk9
   have hk10:=zj hsl (o:=.lst []) kd _ hk9
   have F10:=F9.new hsl (o:=.lst [])
   refine⟨_,rfl,sa,dr,ds,4,rfl,F10.st,(by decide),F10.lt,λx5 H11 hx5 _ qf_ tf_=>?_⟩
   have f11:=Fr.mk qf_ tf_
   have F11:=F10.trans f11
   refine⟨_,_,rfl,rfl,?_⟩
   refine⟨_,rfl,by omega,by omega,yH (lo:=0) (n:=(1+(x5:Int)).toNat) (λj Z Hc=>∃ (v4 v7 v8:Option V) (ms:List Int),Z=[some (.ref sa),some (.int x),some (.int b),some (.ref kd),v4,some (.int few),some (.ref sl),v7,v8]/\Fr T0 sa dr ds H Hc/\Hc kd=some (.dT kvs)/\Hc sl=some (.lst (ms.map V.int))/\ms.length=j/\∀ f∈ms,0<=f/\f<(b:Int))
    ⟨_,_,_,[],rfl,F11,f11.get nkd tkd hk10,f11.get nsl tsl zf,rfl,by simp⟩ ?_ ?_⟩
   ·rintro j Z Hc hj ⟨v4,v7,v8,ms,rfl,Fc,hkc,hsc,hml,hmf⟩
    refine⟨_,rfl,sa,dr,ds,10007,rfl,Fc.st,(by decide),Fc.lt,λy Hd hy _ qf_ tf_=>?_⟩
    have fd:=Fr.mk qf_ tf_
    have Fd:=Fc.trans fd
    have hkd':=fd.get nkd tkd hkc
    have hsd:=fd.get nsl tsl hsc
    refine⟨_,rfl,.inl ⟨rfl,_,SqL.of hsd⟩,_,rfl,_,rfl,_,_,rfl,rfl,(by omega:(0:Int)<few),_,rfl,_,_,rfl,rfl,_,rfl,_,rfl,_,_,rfl,rfl,(by omega:(0:Int)<few),_,_,rfl,rfl,(by show 2<=sizeLine;decide),λl4 hl4=>?_⟩
    have nl4:sl≠l4:=λz=>by rw [<- z,hsd] at hl4;cases hl4
    have s4:=zj hl4 (o:=.lst [.int ((y:Int) % (few:Int)),.int ((b:Int)-1-(y:Int) % (few:Int))])
    have Fe:=Fd.new hl4 (o:=.lst [.int ((y:Int) % (few:Int)),.int ((b:Int)-1-(y:Int) % (few:Int))])
    have hke:=s4 _ _ hkd'
    have hse:=s4 _ _ hsd
    refine⟨_,rfl,_,_,rfl,rfl,⟨by decide,by decide⟩,_,_,rfl,rfl,(by decide:(0:Int)<6),rfl,.inr ⟨_,rfl,?_⟩⟩
    have hy0:0<=(y:Int) % (few:Int):=Int.emod_nonneg _ (by omega)
    have hy1:(y:Int) % (few:Int)<few:=Int.emod_lt_of_pos _ (by omega)
    have key:∀ bb:Bool,∃ fg:Int,atI [V.int ((y:Int) % (few:Int)),V.int ((b:Int)-1-(y:Int) % (few:Int))] (if bb=true then 1 else 0)=some (.int fg)/\0<=fg/\fg<b:=by
     intro bb
     cases bb with
     | true=>exact⟨_,rfl,by omega,by omega⟩
     | false=>exact⟨_,rfl,by omega,by omega⟩
    obtain⟨fg,hfg,hf0,hf1⟩:=key (decide (V.int ((y:Int) / 16 % 6)=V.int 0))
    refine⟨l4,_,_,_,rfl,rfl,SqL.of zf,hfg,sl,_,_,rfl,rfl,hse,by rw [List.length_map,hml];exact Nat.lt_of_lt_of_le (show j<5 by omega) (by decide),?_⟩
    refine⟨_,_,_,ms++[fg],rfl,Fe.putL nsl dsl hsl0 hse,by rw [zq nks];exact hke,by rw [zf];simp,by simp [hml],λf hf=>?_⟩
    rcases List.mem_append.mp hf with hf | hf
    ·exact hmf f hf
    ·have e:f=fg:=by simpa using hf
     rw [e];exact⟨hf0,hf1⟩
   ·rintro Z Hc ⟨v4,v7,v8,ms,rfl,Fc,hkc,hsc,hml,hmf⟩
    have gms:J8 b ms:=⟨λz=>by rw [z] at hml;simp at hml;omega,by omega,hmf⟩
    refine⟨_,rfl,_,rfl,sl,_,rfl,.inl ⟨SqL.of hsc,λtp htp=>?_⟩⟩
    have hk7:upd Hc tp (.tup (ms.map V.int)) kd=some (.dT kvs):=zj htp _ _ hkc
    have hkl:kvs.length=ls.length:=by have:=congrArg List.length hks;rwa [List.length_map,List.length_map] at this
    refine⟨kd,_,rfl,DPut.t (k:=kI ms) hk7 (by rw [zeq];exact zf) (Nat.lt_of_le_of_lt (show kvs.length<=4 by omega) (by decide)),?_⟩
    have S7:=(Fc.new htp (o:=.tup (ms.map V.int))).putD (p:=kd) (o:=.dT (putK kvs (kI ms) (.bl true))) nkd ndk hkd0 hk7
    by_cases hin:ms∈ls
    ·refine⟨_,_,_,_,_,putK kvs (kI ms) (.bl true),ls,rfl,S7,zf,?_,by omega,hgd⟩
     unfold putK
     rw [if_pos (by
      rw [List.any_eq_true]
      have:kI ms∈kvs.map (·.1):=by rw [hks];exact List.mem_map.mpr ⟨ms,hin,rfl⟩
      obtain⟨kv,h1,h2⟩:=List.mem_map.mp this
      exact⟨kv,h1,decide_eq_true h2⟩),List.map_map,<- hks]
     refine List.map_congr_left λkv _=>?_
     show (if kv.1=kI ms then (kv.1,V.bl true) else kv).1=kv.1
     split<;>rfl
    ·refine⟨_,_,_,_,_,putK kvs (kI ms) (.bl true),ls++[ms],rfl,S7,zf,?_,by rw [List.length_append,List.length_singleton];omega,λl hl=>?_⟩
     ·unfold putK
      rw [if_neg (by
       rw [List.any_eq_true]
       rintro⟨kv,h1,h2⟩
       have h3:kI ms∈kvs.map (·.1):=List.mem_map.mpr ⟨kv,h1,of_decide_eq_true h2⟩
       rw [hks] at h3
       obtain⟨l,h4,h5⟩:=List.mem_map.mp h3
       exact hin (Ut h5▸h4)),List.map_append,List.map_append,hks]
      rfl
     ·rcases List.mem_append.mp hl with hl | hl
      ·exact hgd l hl
      ·have e:l=ms:=by simpa using hl
       rw [e];exact gms
  ·rintro Z H5 ⟨v4,v5,v6,v7,v8,kvs,ls,rfl,S5,hk5,hks,hll,hgd⟩
   refine⟨_,rfl,_,rfl,kd,kvs,ls,rfl,hk5,hks,by omega,λl hl=>(hgd l hl).ne,λp zs hp pm pw hz=>?_⟩
   have hzl:zs.length=ls.length:=by have:=pm.length_eq;rwa [List.length_map] at this
   have S6:=S5.new hp (o:=.lst (zs.map λz=>V.ref z.1))
   refine⟨p,rfl,⟨_,SqL.of zf⟩,xm (K:=K) (a:=p) (xs:=zs.map λz=>V.ref z.1) (λi ys H7=>Same (upd H5 p (.lst (zs.map λz=>V.ref z.1))) H7/\∃ ws:ZB,ys=ws.map (λz=>V.ref z.1)/\ws.map (·.2)=(zs.take i).map (·.2)/\∀ z∈ws,H z.1=none/\z.1≠sa/\H7 z.1=some (.lst (z.2.map V.int))) ⟨Same.refl _,[],rfl,by simp,by simp⟩ (λi ys H7 _ ⟨m7,_⟩=>SqL.of (m7 _ _ zf)) ?_ ?_⟩
   ·rintro j x ys H7 hx ⟨m7,ws,rfl,hw2,hws⟩
    rw [List.getElem?_map] at hx
    obtain⟨z,hzj,e⟩:=Option.map_eq_some_iff.mp hx
    subst e
    have hzm:=List.mem_of_getElem? hzj
    have hj:j<zs.length:=(List.getElem?_eq_some_iff.mp hzj).1
    have hwl:ws.length<=j:=by have:=congrArg List.length hw2;rw [List.length_map,List.length_map,List.length_take] at this;omega
    refine⟨by rw [List.length_map];exact Nat.lt_of_le_of_lt (show ws.length<=4 by omega) (by decide),?_⟩
    unfold jl
    dsimp only
    rw [if_pos rfl]
    refine⟨_,rfl,z.1,_,rfl,.inr (SqT.of (m7 _ _ (zj hp _ _ (hz z hzm)))),λq hq=>⟨m7.trans (zj hq),ws++[(q,z.2)],by simp,?_,λy hy=>?_⟩⟩
    ·rw [List.map_append,hw2,List.take_succ,hzj];simp
    ·rcases List.mem_append.mp hy with hy | hy
     ·exact⟨(hws y hy).1,(hws y hy).2.1,zj hq _ _ (hws y hy).2.2⟩
     ·have e:y=(q,z.2):=by simpa using hy
      subst e
      exact⟨S6.free (m7.free hq),(S6.same m7).st.nes hq,zf⟩
   ·rintro ys H7 ⟨m7,ws,rfl,hw2,hws⟩ bl hbl
    rw [List.length_map,List.take_length] at hw2
    have hwl:ws.length=zs.length:=by have:=congrArg List.length hw2;rwa [List.length_map,List.length_map] at this
    have m8:=zj hbl (o:=.lst (ws.map λz=>V.ref z.1))
    have S7:=S6.same m7
    have S8:=S6.same (m7.trans m8)
    refine⟨(by show 2<=sizeLine;decide),λr hr=>?_⟩
    have m9:=zj hr (o:=.tup [.int b,.ref bl])
    have nb:=S7.st.nes hbl
    have nr:=S8.st.nes hr
    refine kk r b bl ws _ (S8.same m9) ⟨?_,?_,λz hz'=>?_⟩ ⟨hb2,hb16,by rw [List.length_map];omega,λl hl=>?_,?_⟩
    ·rw [yc (by simpa using nr)];exact zf
    ·rw [yc (by simpa using nb)];exact m9 _ _ zf
    ·rw [yc (by simpa using (hws z hz').2.1)];exact m9 _ _ (m8 _ _ (hws z hz').2.2)
    ·rw [hw2] at hl
     exact hgd _ (pm.mem_iff.mp hl)
    ·rw [hw2,List.pairwise_map];exact pw
def jT (T0:Addr):Sp:=λvs H Q _=>∃ (s dr:Addr) (ds:List Int) (b:Nat),vs=[.ref s,.int b]/\Sto2 H s dr ds/\LT T0 H/\2<=b/\b<=16/\∀ (n:Nat) (H':Hp),n<2^100->Fr T0 s dr ds H H'->Q (.int n) H'
theorem yO:zF ["store","base","x","great","turn","power","some"] ["store","base"] (zu qL):={}
set_option maxHeartbeats 0 in
theorem U6 {f f1:Addr} {fd fd1:FuncData} (D:Df K mg "_law_number" qL Ak f fd) (zJ:Df K mg "_law_take" vJ Af f1 fd1) (T:Blt mg):FnOk P w K mg base CX0 2 f fd Ak (jT T0):=by
 have zT:FnOk P w K mg base CX0 1 f1 fd1 Af (vW T0):=tM zJ T
 refine D.fn.ok yO (λvs H Q E h=>?_) (λcdv A outer s H vs Q E hr h=>?_)
 ·obtain⟨s,dr,ds,b,rfl,_⟩:=h;rfl
 ·obtain⟨sa,dr,ds,b,rfl,S,hT,hb2,hb16,kk⟩:=h
  refine⟨_,(zp (zB (i:=2) yO.nd rfl (Or.inl rfl) (zN zJ zT (hr.mono (by decide)) (zc (pv 0) (zc zm zg))))
   (zp (zB (i:=3) yO.nd rfl (Or.inl rfl) zm)
   (zp (yU PassesOwn.never rfl (yg rfl T.n_range (zc zm zg)) (zQ (i:=4) yO.nd rfl (Or.inl rfl))
    (zx (zB (i:=3) yO.nd rfl (Or.inl rfl) (zA yq (zA wu (pv 3) zm) (zN zJ zT (hr.mono (by decide)) (zc (pv 0) (zc zm zg)))))))
   (zp (zB (i:=5) yO.nd rfl (Or.inl rfl) zm)
   (zp (yU PassesOwn.never rfl (yg rfl T.n_range (zc (zA yp (pv 2) zm) zg)) (zQ (i:=4) yO.nd rfl (Or.inl rfl))
    (zx (zB (i:=5) yO.nd rfl (Or.inl rfl) (zA wu (pv 5) (pv 1)))))
   (zp (zB (i:=6) yO.nd rfl (Or.inl rfl) (zZ (zc (zA yp (pv 2) zm) (zc (pv 2) (zc (zA yp (pv 3) (zA JP zm zm)) (zc (zA yp (pv 3) (zA JP zm zm)) (zc (zA yp (pv 3) (zA JP zm zm)) zg)))))))
   (zx (zL (zP (yo K) (zA We (pv 6) (zZ (zc (zE (zcT rfl) (by rfl) T.n_max boot_max (zc zm (zc (zA uc (zA yq (pv 5) (zN zJ zT (hr.mono (by decide)) (zc (pv 0) (zc zm zg)))) zm) zg))) zg))) (zN zJ zT (hr.mono (by decide)) (zc (pv 0) (zc zm zg))) (λ_ _=>rfl)))))))))),?_⟩
  refine⟨_,rfl,sa,dr,ds,10007,rfl,(Fr.refl S hT:Fr T0 sa dr ds H H).st,(by decide),(Fr.refl S hT:Fr T0 sa dr ds H H).lt,λx H1 hx _ qf_ tf_=>?_⟩
  have fq_:=Fr.mk qf_ tf_
  have F1:=(Fr.refl S hT:Fr T0 sa dr ds H H).trans fq_
  refine⟨_,rfl,by decide,by decide,yH (lo:=0) (n:=(7:Int).toNat) (λi Z H2=>∃ (v4 v5 v6:Option V) (gr:Nat),Z=[some (.ref sa),some (.int b),some (.int x),some (.int gr),v4,v5,v6]/\Fr T0 sa dr ds H H2)
   ⟨none,none,none,0,rfl,F1⟩ ?_ ?_⟩
  ·rintro i Z H2 hi ⟨v4,v5,v6,gr,rfl,F2⟩
   refine⟨_,rfl,_,_,rfl,rfl,.inr ⟨by decide,by decide⟩,_,rfl,sa,dr,ds,10007,rfl,F2.st,(by decide),F2.lt,λy H3 hy _ qf_ tf_=>?_⟩
   have fq_:=Fr.mk qf_ tf_
   have F3:=F2.trans fq_
   refine⟨_,_,rfl,rfl,some (.int (0+(i:Int))),v5,v6,gr*10007+y,?_,F3⟩
   simp
  ·rintro Z H2 ⟨v4,v5,v6,gr,rfl,F2⟩
   refine⟨_,rfl,_,_,rfl,rfl,(by decide:(0:Int)<21),?_⟩
   have h21:0<=(x:Int) % 21/\(x:Int) % 21<21:=⟨Int.emod_nonneg _ (by decide),Int.emod_lt_of_pos _ (by decide)⟩
   refine⟨_,rfl,by omega,by omega,yH (lo:=0) (n:=((x:Int) % 21).toNat) (λi Z H3=>∃ (v4 v6:Option V) (pw:Nat),Z=[some (.ref sa),some (.int b),some (.int x),some (.int gr),v4,some (.int pw),v6]/\pw<=16^i/\Fr T0 sa dr ds H H3)
    ⟨_,_,1,rfl,by simp,F2⟩ ?_ ?_⟩
   ·rintro i Z H3 hi ⟨v4,v6,pw,rfl,hpw,F3⟩
    refine⟨_,rfl,_,rfl,_,_,rfl,rfl,.inr ⟨by omega,by omega⟩,some (.int (0+(i:Int))),v6,pw*b,?_,by rw [Nat.pow_succ];exact Nat.mul_le_mul hpw hb16,F3⟩
    simp
   ·rintro Z H3 ⟨v4,v6,pw,rfl,hpw,F3⟩
    have hpw:pw<=2^80:=Nat.le_trans hpw (Nat.le_trans (Nat.pow_le_pow_right (by decide) (show ((x:Int) % 21).toNat<=20 by omega)) (by decide))
    refine⟨_,rfl,_,_,rfl,rfl,(by decide:(0:Int)<40),_,rfl,_,rfl,_,_,rfl,rfl,⟨by decide,by decide,by decide⟩,_,_,rfl,rfl,(by decide:(0:Int)<(10:Int)^(9:Int).toNat),_,rfl,_,_,rfl,rfl,⟨by decide,by decide,by decide⟩,_,_,rfl,rfl,(by decide:(0:Int)<(10:Int)^(26:Int).toNat),_,rfl,_,_,rfl,rfl,⟨by decide,by decide,by decide⟩,_,_,rfl,rfl,(by decide:(0:Int)<(10:Int)^(18:Int).toNat),(by show 5<=sizeLine;decide),λl hl=>?_⟩
    have nl:=F3.st.nes hl
    have tl:=F3.lt.none hl
    have F4:=F3.new hl (o:=.lst [.int ((x:Int) % 40),.int x,.int ((gr:Int) % 10^(9:Int).toNat),.int ((gr:Int) % 10^(26:Int).toNat),.int ((gr:Int) % 10^(18:Int).toNat)])
    refine⟨_,rfl,_,rfl,_,rfl,sa,dr,ds,3,rfl,F4.st,(by decide),F4.lt,λy H5 hy _ qf_ tf_=>?_⟩
    have f5:=Fr.mk qf_ tf_
    have F5:=F4.trans f5
    refine⟨_,_,rfl,rfl,_,_,rfl,rfl,_,_,rfl,(by show 1<=sizeLine;decide),λl2 hl2=>?_⟩
    have hl5:=f5.get nl tl zf
    have n2:=F5.st.nes hl2
    generalize hmx:(if (pw:Int)+(y:Int)-1>0 then (pw:Int)+(y:Int)-1 else 0)=mx
    have hmx0:0<=mx/\mx<2^100:=by rw [<- hmx];split<;>omega
    have F6:=F5.new hl2 (o:=.lst [.int mx])
    refine⟨l,l2,_,_,rfl,rfl,zj hl2 _ _ hl5,zf,(by show 5+1<=sizeLine;decide),λl3 hl3=>?_⟩
    have n3:=F6.st.nes hl3
    have t3:=F6.lt.none hl3
    have F7:=F6.new hl3 (o:=.lst ([.int ((x:Int) % 40),.int x,.int ((gr:Int) % 10^(9:Int).toNat),.int ((gr:Int) % 10^(26:Int).toNat),.int ((gr:Int) % 10^(18:Int).toNat)]++[.int mx]))
    refine⟨_,rfl,sa,dr,ds,6,rfl,F7.st,(by decide),F7.lt,λz H8 hz _ qf_ tf_=>?_⟩
    have f8:=Fr.mk qf_ tf_
    have F8:=F7.trans f8
    obtain⟨c,hc,hc0⟩:∃ c:Int,atI ([V.int ((x:Int) % 40),.int x,.int ((gr:Int) % 10^(9:Int).toNat),.int ((gr:Int) % 10^(26:Int).toNat),.int ((gr:Int) % 10^(18:Int).toNat)]++[.int mx]) (z:Int)=some (.int c)/\0<=c/\c<2^100:=by
     match z,hz with
     | 0,_=>exact⟨_,rfl,Int.emod_nonneg _ (by decide),Int.lt_trans (Int.emod_lt_of_pos _ (by decide)) (by decide)⟩
     | 1,_=>exact⟨_,rfl,by omega,Int.lt_trans (show (x:Int)<10007 by omega) (by decide)⟩
     | 2,_=>exact⟨_,rfl,Int.emod_nonneg _ (by decide),Int.lt_trans (Int.emod_lt_of_pos _ (by decide)) (by decide)⟩
     | 3,_=>exact⟨_,rfl,Int.emod_nonneg _ (by decide),Int.lt_trans (Int.emod_lt_of_pos _ (by decide)) (by decide)⟩
     | 4,_=>exact⟨_,rfl,Int.emod_nonneg _ (by decide),Int.lt_trans (Int.emod_lt_of_pos _ (by decide)) (by decide)⟩
     | 5,_=>exact⟨_,rfl,hmx0⟩
    obtain⟨n,rfl⟩:∃ n:Nat,c=(n:Int):=⟨c.toNat,by omega⟩
    exact⟨l3,_,_,_,rfl,rfl,SqL.of (f8.get n3 t3 zf),hc,kk n H8 (by omega) F8⟩
end
section
variable {P:Program} {w:World} {K:W.Frag} {mg:Str->Option Value} {base:Heap}
theorem zek {b:Nat} {ns:List Int} (h:∀ f∈ns,0<=f/\f<(b:Int)):(ns.all λi=>decide (0<=i/\i<(b:Int)))=true:=by
 rw [List.all_eq_true];intro x hx;exact decide_eq_true (h x hx)
theorem zd9 {α:Type} (x:α) (xs:List α):atI (x :: xs) 0=some x:=yI (xs:=x :: xs) (j:=0) rfl
def qF:Sp:=λvs H Q _=>∃ (b:Nat) (a:Addr) (ns:List Int),vs=[.int b,.ref a]/\H a=some (.lst (ns.map V.int))/\JN b ns/\∀ H',Same H H'->Q (.bl true) H'
theorem Vb:zF ["base","thing"] ["base","thing"] (zu um):={}
theorem W9 {f f1:Addr} {fd fd1:FuncData} (D:Df K mg "writes_number" um Ab f fd) (wI:Df K mg "are_figures" wR Ab f1 fd1) (vK:FnOk P w K mg base CX0 3 f1 fd1 Ab uQ) (T:Blt mg) :
  FnOk P w K mg base CX0 4 f fd Ab qF:=by
 refine D.fn.ok Vb (λvs H Q E h=>?_) (λcdv A outer s H vs Q E hr h=>?_)
 ·obtain⟨b,a,ns,rfl,_⟩:=h;rfl
 ·obtain⟨b,a,ns,rfl,ha,g,kk⟩:=h
  refine⟨_,(zp (xr (PW.pt (zaK (uP (wY (zN wI vK (hr.mono (by decide)) (zc (pv 0) (zc (pv 1) zg))))) (Qd (ym ZP (zE (xQ K) (by rfl) T.n_len PySem.boot_len (zc (pv 1) zg)) zm (ye _)))))
    (zx (zL XH))
    yj)
   (zx (zL (zgE (xT zfo (zP (yo K) (pv 1) zm (λ_ _=>rfl)) zm (ye _)) (jj (xT ZP (zE (xQ K) (by rfl) T.n_len PySem.boot_len (zc (pv 1) zg)) zm (ye _))))))),?_⟩
  refine⟨_,rfl,_,rfl,b,a,ns,rfl,ha,Nat.le_trans g.len (by decide),λH1 s1=>?_⟩
  rw [zek g.fig]
  refine⟨_,rfl,xX ?_⟩
  have ha1:=s1 _ _ ha
  have hl:(ns.map V.int).length≠0:=by rw [List.length_map];exact λz=>g.ne (List.eq_nil_of_length_eq_zero z)
  refine⟨_,rfl,a,_,rfl,.inl (SqL.of ha1),rfl,_,rfl,?_⟩
  rw [decide_eq_false (by intro z;injection z with z;omega)]
  refine xX ?_
  obtain⟨f0,nr,rfl⟩:∃ f0 nr,ns=f0 :: nr:=by
   cases ns with
   | nil=>exact absurd rfl g.ne
   | cons x y=>exact⟨x,y,rfl⟩
  refine⟨_,rfl,a,_,_,V.int f0,rfl,rfl,SqL.of ha1,zd9 _ _,rfl,_,rfl,?_⟩
  refine J5 (λ_=>kk H1 s1) (λhz=>?_)
  refine⟨_,rfl,a,_,rfl,.inl (SqL.of ha1),rfl,?_⟩
  have h1:nr=[]:=by
   have hz':f0=0:=by
    by_cases z:f0=0
    ·exact z
    ·exact absurd (by simp [z]) hz
   rcases g.first with q | q
   ·exact absurd (by rw [hz'];rfl) q
   ·exact List.eq_nil_of_length_eq_zero (by simpa using q)
  subst h1
  exact kk H1 s1
def Yq:Sp:=λvs H Q _=>∃ (b:Nat) (a:Addr) (ns:List Int),vs=[.int b,.ref a]/\2<=b/\b<=16/\H a=some (.lst (ns.map V.int))/\JN b ns/\∀ H',Same H H'->Q (.int (JM b ns)) H'
theorem jF:zF ["base","figures","n","figure"] ["base","figures"] (zu Zo):={}
theorem zak {f f1 f2:Addr} {fd fd1 fd2:FuncData} (D:Df K mg "number_by" Zo A4 f fd) (vA:Df K mg "check_base" uK Aa f1 fd1) (uH:FnOk P w K mg base CX0 3 f1 fd1 Aa qO)
  (uM:Df K mg "writes_number" um Ab f2 fd2) (j9:FnOk P w K mg base CX0 4 f2 fd2 Ab qF) (T:Blt mg):FnOk P w K mg base CX0 5 f fd A4 Yq:=by
 refine D.fn.ok jF (λvs H Q E h=>?_) (λcdv A outer s H vs Q E hr h=>?_)
 ·obtain⟨b,a,ns,rfl,_⟩:=h;rfl
 ·obtain⟨b,a,ns,rfl,h2,h16,ha,g,kk⟩:=h
  refine⟨_,(zp (xP (zN vA uH (hr.mono (by decide)) (zc (pv 0) zg)))
   (zp (xr (uP (wY (zN uM j9 (hr.mono (by decide)) (zc (pv 0) (zc (pv 1) zg)))))
    (zx YW)
    yj)
   (zp (zB (i:=2) jF.nd rfl (Or.inl rfl) zm)
   (zp (yU PassesOwn.never rfl (Yt K (pv 1)) (zQ (i:=3) jF.nd rfl (Or.inl rfl))
    (zx (zB (i:=2) jF.nd rfl (Or.inl rfl) (zA yq (zA wu (pv 2) (pv 0)) (pv 3)))))
   (zx (zL (pv 2))))))),?_⟩
  refine⟨_,rfl,(b:Int),rfl,by omega,by omega,?_⟩
  refine⟨_,rfl,_,rfl,b,a,ns,rfl,ha,g,λH1 s1=>⟨_,rfl,xX ?_⟩⟩
  have ha1:=s1 _ _ ha
  refine⟨_,rfl,a,rfl,⟨_,SqL.of ha1⟩,Z6 (K:=K) (a:=a) (xs:=ns.map V.int) (λi Z H2=>H2=H1/\∃ v:Option V,Z=[some (.int b),some (.ref a),some (.int (JM b (ns.take i))),v]) ⟨rfl,none,rfl⟩ (λi Z H2 _ ⟨e,_⟩=>by rw [e];exact SqL.of ha1) ?_ ?_⟩
  ·rintro i x Z H2 hx ⟨rfl,v,rfl⟩
   obtain⟨z,hz,rfl⟩:∃ z,ns[i]?=some z/\x=V.int z:=by
    rw [List.getElem?_map] at hx
    obtain⟨z,h,e⟩:=Option.map_eq_some_iff.mp hx
    exact⟨z,h,e.symm⟩
   refine⟨_,rfl,_,rfl,_,_,rfl,rfl,.inr ⟨by omega,by omega⟩,_,rfl,_,_,rfl,rfl,rfl,some (.int z),?_⟩
   rw [List.take_succ,hz]
   show _=[some (V.int b),some (V.ref a),some (V.int (JM b (ns.take i++[z]))),_]
   rw [QZ]
   rfl
  ·rintro Z H2 ⟨rfl,v,rfl⟩
   refine⟨_,rfl,?_⟩
   rw [List.length_map,List.take_length]
   exact kk _ s1
end
theorem za8 {K:W.Frag}:W.kitOne K (.type "str") (.type "str")=some true:=Qc (by decide +kernel) (by decide +kernel) (λ_=>rfl)
def OkF (fs:List Int):Prop:=∀ f∈fs,0<=f/\f<16
theorem zfP {b:Nat} {fs:List Int} (h16:b<=16) (h:∀ f∈fs,0<=f/\f<(b:Int)):OkF fs:=λf hf=>⟨(h f hf).1,by have:=(h f hf).2;omega⟩
theorem zb6 (fs:List Int):(txt fs).length=fs.length:=by
 show (txt fs).cps.size=_
 rw [<- Array.length_toList,Qv,List.length_map]
section
variable {P:Program} {w:World} {K:W.Frag} {mg:Str->Option Value} {base:Heap}
def Zv:Sp:=λvs H Q _=>∃ fs:List Int,vs=[.str (txt fs)]/\OkF fs/\fs.length<=1000/\∀ (l:Addr) (H':Hp),H l=none->Same H H'->H' l=some (.lst (fs.map V.int))->Q (.ref l) H'
theorem Qx:zF ["thing"] ["thing"] (zu vQ):={}
theorem QD {f:Addr} {fd:FuncData} {t1:Tok} (D:Df K mg "figures_in" vQ Aa f fd) (V5:mg "SIGNS" = some (.str SIG t1)) (T:Blt mg) (U:Vh mg):FnOk P w K mg base CX0 1 f fd Aa Zv:=by
 refine D.fn.ok Qx (λvs H Q E h=>?_) (λcdv A outer s H vs Q E hr h=>?_)
 ·obtain⟨fs,rfl,_⟩:=h;rfl
 ·obtain⟨fs,rfl,hf,hl,kk⟩:=h
  have hsz:(txt fs).cps.size=fs.length:=zb6 fs
  have hat:∀ i c,(txt fs).cps[i]?=some c->∃ z:Int,fs[i]?=some z/\c=cd z.toNat/\0<=z/\z<16:=λi c h=>by
   rw [<- Array.getElem?_toList,Qv,List.getElem?_map] at h
   obtain⟨z,hz,e⟩:=Option.map_eq_some_iff.mp h
   exact⟨z,hz,e.symm,hf z (List.mem_of_getElem? hz)⟩
  refine⟨_,(zp (xr (PW.pt (zaK (uP (wY (zE (Q9 K) (by rfl) T.n_isinstance boot_isinstance (zc (pv 0) (zc (Zb (v:=.ty "str") rfl U.n_str boot_str rfl) zg))))) (Qd (uP (wY (zE (k_all K rfl) (by rfl) T.n_all boot_all (zc (xK (show CScope (zu vQ) _ "sign" ["thing"] [] [] from {}) rfl (zd7 (pv 0)) (λ_ _ _ _=>yJ) (λ_ _ _ _=>(xT zfy (pv 0) (Xr (v:=.str "0123456789abcdef") (by rfl) (by exact V5) (by exact⟨_,rfl⟩)) (by with_unfolding_all rfl)))) zg)))))))
    (zx (zL jW))
    yj)
   (zx (zL (xK (show CScope (zu vQ) _ "sign" ["thing"] [] [] from {}) rfl (zd7 (pv 0)) (λ_ _ _ _=>yJ) (λ_ _ _ _=>(zgv K PySem.F.plainAttrs_str PySem.F.slot_str_index PySem.F.type_str_index zcQ (Xr (v:=.str "0123456789abcdef") (by rfl) (by exact V5) (by exact⟨_,rfl⟩)) (zc (pv 0) zg))))))),?_⟩
  refine⟨_,rfl,_,_,_,_,rfl,.str _,za8,_,rfl,xX ?_⟩
  refine⟨_,rfl,txt fs,rfl,Js hf,za2 (z:=txt fs) (λi ys H4=>H4=H/\ys=((fs.take i).map λ_=>true).map V.bl) ⟨rfl,rfl⟩ ?_ ?_⟩
  ·rintro j c ys H4 hc ⟨rfl,rfl⟩
   obtain⟨z,hz,rfl,z0,z16⟩:=hat j c hc
   refine⟨by rw [List.length_map,List.length_map];exact Nat.lt_of_le_of_lt (Nat.le_trans (List.length_take_le' _ _) hl) (by decide),?_⟩
   unfold jl
   dsimp only
   rw [if_pos rfl]
   refine⟨_,rfl,_,_,rfl,rfl,rfl,?_⟩
   rw [Je (show z.toNat<16 by omega),List.take_succ,hz]
   simp
  rintro ys H4 ⟨rfl,rfl⟩ Dd hD
  rw [hsz,List.take_length]
  refine⟨Dd,_,rfl,SqL.of zf,_,rfl,?_⟩
  rw [show ((fs.map λ_=>true).all id)=true from by simp]
  refine xX ?_
  have s1:=zj hD (o:=.lst ((fs.map λ_=>true).map V.bl))
  generalize upd H4 Dd (.lst ((fs.map λ_=>true).map V.bl))=H5 at s1
  refine⟨_,rfl,txt fs,rfl,Js hf,za2 (z:=txt fs) (λi ys H6=>H6=H5/\ys=(fs.take i).map V.int) ⟨rfl,rfl⟩ ?_ ?_⟩
  ·rintro j c ys H6 hc ⟨rfl,rfl⟩
   obtain⟨z,hz,rfl,z0,z16⟩:=hat j c hc
   refine⟨by rw [List.length_map];exact Nat.lt_of_le_of_lt (Nat.le_trans (List.length_take_le' _ _) hl) (by decide),?_⟩
   unfold jl
   dsimp only
   rw [if_pos rfl]
   refine⟨rfl,_,rfl,_,_,z.toNat,[],rfl,rfl,Je (by omega),rfl,?_⟩
   rw [List.take_succ,hz,show ((z.toNat:Nat):Int)=z by omega]
   simp
  rintro ys H6 ⟨rfl,rfl⟩ l hl'
  rw [hsz,List.take_length]
  exact kk l _ (s1.free hl') (s1.trans (zj hl')) zf
end
section
variable {P:Program} {w:World} {K:W.Frag} {mg:Str->Option Value} {base:Heap} {T0:Addr}
def jU:Sp:=λvs H Q _=>∃ (b:Nat) (fs:List Int),vs=[.int b,.str (txt fs)]/\2<=b/\b<=16/\JN b fs/\∀ H',Same H H'->Q (.int (JM b fs)) H'
theorem Ul:zF ["base","text"] ["base","text"] (zu qM):={}
theorem Qo {f f1 f2:Addr} {fd fd1 fd2:FuncData} (D:Df K mg "read_number" qM Av f fd) (Yi:Df K mg "number_by" Zo A4 f1 fd1) (Wd:FnOk P w K mg base CX0 5 f1 fd1 A4 Yq) (Zm:Df K mg "figures_in" vQ Aa f2 fd2) (Y4:FnOk P w K mg base CX0 1 f2 fd2 Aa Zv):FnOk P w K mg base CX0 6 f fd Av jU:=by
 refine D.fn.ok Ul (λvs H Q E h=>?_) (λcdv A outer s H vs Q E hr h=>?_)
 ·obtain⟨b,fs,rfl,_⟩:=h;rfl
 ·obtain⟨b,fs,rfl,b2,b16,g,kk⟩:=h
  refine⟨_,(zx (ze2 (λ_ _ h=>h)
    (zx (zL (zN Yi Wd (hr.mono (by decide)) (zc (pv 0) (zc (zN Zm Y4 (hr.mono (by decide)) (zc (pv 1) zg)) zg))))))),?_⟩
  refine⟨_,rfl,_,rfl,fs,rfl,zfP b16 g.fig,Nat.le_trans g.len (by decide),λl H1 hl s1 hv=>?_⟩
  exact⟨b,l,fs,rfl,b2,b16,hv,g,λH2 s2=>kk H2 (s1.trans s2)⟩
theorem zcc {f:Nat} (h:f<16):atI SIG.cps.toList (f:Int)=some (cd f):=yI (signs_at h)
theorem txt_snoc (fs:List Int) (f:Int):txt fs++(⟨#[cd f.toNat]⟩:Str)=txt (fs++[f]):=by
 unfold txt
 show (⟨_++_⟩:Str)=_
 simp
def Yx (T0:Addr):Sp:=λvs H Q _=>∃ (s dr:Addr) (ds:List Int) (b:Nat),vs=[.ref s,.int b]/\Sto2 H s dr ds/\LT T0 H/\2<=b/\b<=16/\∀ (n:Nat) (H':Hp),(zR b n).length<=200->Fr T0 s dr ds H H'->Q (.int n) H'
theorem yN:zF ["store","base","signs","many","way","one","other","text","k","turn","some"] ["store","base"] (zu Ze):={}
set_option maxHeartbeats 0 in
theorem J1 {f f1 f2:Addr} {fd fd1 fd2:FuncData} (D:Df K mg "_law_read" Ze Ak f fd) (zJ:Df K mg "_law_take" vJ Af f1 fd1) (jE:Df K mg "read_number" qM Av f2 fd2) (Yh:FnOk P w K mg base CX0 6 f2 fd2 Av jU) (T:Blt mg):FnOk P w K mg base CX0 7 f fd Ak (Yx T0):=by
 have zT:FnOk P w K mg base CX0 1 f1 fd1 Af (vW T0):=tM zJ T
 refine D.fn.ok yN (λvs H Q E h=>?_) (λcdv A outer s H vs Q E hr h=>?_)
 ·obtain⟨s,dr,ds,b,rfl,_⟩:=h;rfl
 ·obtain⟨sa,dr,ds,b,rfl,S,hT,b2,b16,kk⟩:=h
  refine⟨_,(zp (zB (i:=2) yN.nd rfl (Or.inl rfl) zfX)
   (zp (zB (i:=3) yN.nd rfl (Or.inl rfl) (zP (yo K) (zZ (zc (zA yq zm (zN zJ zT (hr.mono (by decide)) (zc (pv 0) (zc zm zg)))) (zc zm (zc (zA yq zm (zN zJ zT (hr.mono (by decide)) (zc (pv 0) (zc zm zg)))) zg)))) (zN zJ zT (hr.mono (by decide)) (zc (pv 0) (zc zm zg))) (λ_ _=>rfl)))
   (zp (zB (i:=4) yN.nd rfl (Or.inl rfl) (zN zJ zT (hr.mono (by decide)) (zc (pv 0) (zc zm zg))))
   (zp (zB (i:=5) yN.nd rfl (Or.inl rfl) (zN zJ zT (hr.mono (by decide)) (zc (pv 0) (zc zm zg))))
   (zp (zB (i:=6) yN.nd rfl (Or.inl rfl) (zN zJ zT (hr.mono (by decide)) (zc (pv 0) (zc zm zg))))
   (zp (zB (i:=7) yN.nd rfl (Or.inl rfl) (zP zer (pv 2) (zA yq zm (zN zJ zT (hr.mono (by decide)) (zc (pv 0) (zc (zA uc (pv 1) zm) zg)))) (λ_ _=>rfl)))
   (zp (yU PassesOwn.never rfl (yg rfl T.n_range (zc (zA uc (pv 3) zm) zg)) (zQ (i:=8) yN.nd rfl (Or.inl rfl))
    (zp (zB (i:=9) yN.nd rfl (Or.inl rfl) (zA yp (zA yq (zA yq (zA wu (zA wu (pv 8) (pv 8)) (pv 5)) (zA wu (pv 8) (pv 6))) (zA vh (pv 5) zm)) zm))
    (zp (zB (i:=10) yN.nd rfl (Or.inl rfl) (zZ (zc (zA yp (pv 9) (pv 1)) (zc (zA yp (pv 9) zm) (zc (zA wu (zA uc (pv 1) zm) (vV Z0 (by rfl) T.n_int boot_int (zc (xT za9 (zA yp (pv 9) zm) zm (ye _)) zg))) (zc (vV Z0 (by rfl) T.n_int boot_int (zc (xT ZP (zA yp (pv 9) zm) zm (ye _)) zg)) zg))))))
    (zx (zB (i:=7) yN.nd rfl (Or.inl rfl) (zA zbE (pv 7) (zP zer (pv 2) (zP (yo K) (pv 10) (pv 4) (λ_ _=>rfl)) (λ_ _=>rfl))))))))
   (zx (zL (zN jE Yh (hr.mono (by decide)) (zc (pv 1) (zc (pv 7) zg)))))))))))),?_⟩
  have F0:Fr T0 sa dr ds H H:=Fr.refl S hT
  refine⟨_,rfl,sa,dr,ds,174,rfl,F0.st,by decide,F0.lt,λx1 H1 hx1 _ q1 t1=>⟨_,_,rfl,rfl,?_⟩⟩
  have F1:=F0.trans (Fr.mk q1 t1)
  refine⟨_,rfl,sa,dr,ds,60,rfl,F1.st,by decide,F1.lt,λx2 H2 hx2 _ q2 t2=>⟨_,_,rfl,rfl,(by show 3<=sizeLine;decide),λl hl=>?_⟩⟩
  have F2:=F1.trans (Fr.mk q2 t2)
  have F3:=F2.new hl (o:=.lst [.int (27+(x1:Int)),.int 200,.int (61+(x2:Int))])
  have nl:=F2.st.nes hl
  have tl:=F2.lt.none hl
  refine⟨_,rfl,sa,dr,ds,3,rfl,F3.st,by decide,F3.lt,λx3 H4 hx3 _ q3 t3=>?_⟩
  have f3:=Fr.mk q3 t3
  have F4:=F3.trans f3
  obtain⟨M,hM,hM1,hM2⟩:∃ M:Nat,atI [V.int (27+(x1:Int)),.int 200,.int (61+(x2:Int))] (x3:Int)=some (.int M)/\2<=M/\M<=200:=by
   match x3,hx3 with
   | 0,_=>exact⟨27+x1,rfl,by omega,by omega⟩
   | 1,_=>exact⟨200,rfl,by omega,by omega⟩
   | 2,_=>exact⟨61+x2,rfl,by omega,by omega⟩
  refine⟨l,_,_,_,rfl,rfl,SqL.of (f3.get nl tl zf),hM,?_⟩
  refine⟨_,rfl,sa,dr,ds,4,rfl,F4.st,by decide,F4.lt,λway H5 hway _ q5 t5=>?_⟩
  have F5:=F4.trans (Fr.mk q5 t5)
  refine⟨_,rfl,sa,dr,ds,10007,rfl,F5.st,by decide,F5.lt,λone H6 hone _ q6 t6=>?_⟩
  have F6:=F5.trans (Fr.mk q6 t6)
  refine⟨_,rfl,sa,dr,ds,10007,rfl,F6.st,by decide,F6.lt,λoth H7 hoth _ q7 t7=>?_⟩
  have F7:=F6.trans (Fr.mk q7 t7)
  refine⟨_,rfl,_,rfl,_,rfl,_,_,rfl,rfl,sa,dr,ds,b-1,by dsimp only;rw [show (b:Int)-1=((b-1:Nat):Int) by omega];rfl,F7.st,by omega,F7.lt,λd0 H8 hd0 _ q8 t8=>⟨_,_,rfl,rfl,?_⟩⟩
  have F8:=F7.trans (Fr.mk q8 t8)
  refine⟨SIG,1+(d0:Int),cd (1+d0),rfl,rfl,by decide +kernel,by rw [show (1:Int)+(d0:Int)=((1+d0:Nat):Int) by omega];exact zcc (by omega),?_⟩
  have hsig:∀ f:Nat,(⟨#[cd f]⟩:Str)=txt [(f:Int)]:=λf=>rfl
  refine⟨_,rfl,_,_,rfl,rfl,_,rfl,by omega,by omega,yH (lo:=0) (n:=((M:Int)-1).toNat) (λi Z Hc=>∃ (fs:List Int) (v8 v9 v10:Option V),Z=[some (.ref sa),some (.int b),some (.str SIG),some (.int M),some (.int way),some (.int one),some (.int oth),some (.str (txt fs)),v8,v9,v10]/\fs.length=i+1/\(∀ f∈fs,0<=f/\f<(b:Int))/\fs.head?=some ((1+d0:Nat):Int)/\Fr T0 sa dr ds H Hc) ⟨[((1+d0:Nat):Int)],none,none,none,rfl,rfl,λf hf=>by rw [List.mem_singleton.mp hf];omega,rfl,F8⟩ ?_ ?_⟩
  ·rintro i Z Hc hi ⟨fs,v8,v9,v10,rfl,hlen,hfig,hhd,Fc⟩
   have hi':i<200:=by omega
   have e0:(0:Int)+(i:Int)=(i:Int):=by omega
   refine⟨_,rfl,_,rfl,_,_,rfl,rfl,.inr ⟨by omega,by omega⟩,_,rfl,_,_,rfl,rfl,.inr ⟨by omega,by omega⟩,_,rfl,_,rfl,_,_,rfl,rfl,.inr ⟨by omega,by omega⟩,_,_,rfl,rfl,_,rfl,_,_,rfl,rfl,⟨by omega,by omega⟩,_,_,rfl,rfl,_,_,rfl,rfl,(by show (0:Int)<9973;decide),?_⟩
   dsimp only
   generalize htu:((0+(i:Int))*(0+(i:Int))*(one:Int)+(0+(i:Int))*(oth:Int)+(one:Int) / 7) % 9973=tu
   have tu0:0<=tu:=by rw [<- htu];exact Int.emod_nonneg _ (by decide)
   have tb:=Int.emod_nonneg tu (show (b:Int)≠0 by omega)
   have tb2:=Int.emod_lt_of_pos tu (show (0:Int)<(b:Int) by omega)
   have t2:=Int.emod_nonneg tu (show (2:Int)≠0 by decide)
   have t22:=Int.emod_lt_of_pos tu (show (0:Int)<2 by decide)
   refine⟨_,rfl,_,rfl,_,_,rfl,rfl,(by omega:(0:Int)<(b:Int)),_,rfl,_,_,rfl,rfl,(by show (0:Int)<2;decide),?_⟩
   refine⟨_,rfl,_,_,rfl,rfl,_,rfl,_,_,rfl,rfl,(by show (0:Int)<5;decide),_,_,rfl,rfl,.inr ⟨_,rfl,?_⟩⟩
   dsimp only
   generalize hg1:decide (tu % 5>0)=g1
   refine⟨_,_,rfl,rfl,.inr ⟨by split<;>omega,by split<;>omega⟩,?_⟩
   refine⟨_,rfl,_,_,rfl,rfl,(by show (0:Int)<9;decide),rfl,.inr ⟨_,rfl,?_⟩⟩
   dsimp only
   generalize hg2:decide (V.int (tu % 9)=V.int 0)=g2
   refine⟨(by show 4<=sizeLine;decide),λl2 hl2=>?_⟩
   have F9:=Fc.new hl2 (o:=.lst [.int (tu % (b:Int)),.int (tu % 2),.int (((b:Int)-1)*(if g1=true then 1 else 0)),.int (if g2=true then 1 else 0)])
   obtain⟨c,hc,hcb⟩:∃ c:Nat,atI [V.int (tu % (b:Int)),.int (tu % 2),.int (((b:Int)-1)*(if g1=true then 1 else 0)),.int (if g2=true then 1 else 0)] (way:Int)=some (.int c)/\c<b:=by
    match way,hway with
    | 0,_=>exact⟨(tu % (b:Int)).toNat,by show some _=_;rw [show (((tu % (b:Int)).toNat:Nat):Int)=tu % (b:Int) by omega],by omega⟩
    | 1,_=>exact⟨(tu % 2).toNat,by show some _=_;rw [show (((tu % 2).toNat:Nat):Int)=tu % 2 by omega],by omega⟩
    | 2,_ =>
     cases g1
     ·exact⟨0,by show some _=_;simp,by omega⟩
     ·exact⟨b-1,by show some _=_;simp;omega,by omega⟩
    | 3,_ =>
     cases g2
     ·exact⟨0,rfl,by omega⟩
     ·exact⟨1,rfl,by omega⟩
   refine⟨_,rfl,_,rfl,_,rfl,_,rfl,l2,_,_,_,rfl,rfl,SqL.of zf,hc,?_⟩
   refine⟨SIG,(c:Int),cd c,rfl,rfl,by decide +kernel,zcc (by omega),?_⟩
   refine⟨_,_,rfl,rfl,?_,?_⟩
   ·rw [zb6,hlen];exact Nat.le_trans (show i+1+1<=1000 by omega) (by decide)
   refine⟨fs++[(c:Int)],some (.int (0+(i:Int))),some (.int tu),some (.ref l2),?_,by rw [List.length_append,hlen];rfl,λf hf=>?_,by rw [List.head?_append,hhd];rfl,F9⟩
   ·rw [<- txt_snoc];rfl
   ·rcases List.mem_append.mp hf with h | h
    ·exact hfig f h
    ·rw [List.mem_singleton.mp h];omega
  ·rintro Z Hc ⟨fs,v8,v9,v10,rfl,hlen,hfig,hhd,Fc⟩
   have hl2:fs.length=M:=by rw [hlen];omega
   have g:JN b fs:=⟨(λz=>by rw [z] at hhd;cases hhd),by omega,hfig,.inl (by rw [hhd];intro z;injection z with z;omega)⟩
   obtain⟨n,hn,hfn,_⟩:=zcF b2 fs.length fs rfl g.ne g.fig g.first
   refine⟨_,rfl,_,rfl,b,fs,rfl,b2,b16,g,λH9 s9=>?_⟩
   rw [hn]
   exact kk n H9 (by rw [hfn];exact g.len) (Fc.same s9)
end
theorem zbn {ls:ZA} {x:List Int} (h:XS ls x):lacks ls x=true/\zO ls x=x:=by
 rcases h with rfl | ⟨st,hst,k,h1,h2,rfl,h3⟩
 ·refine⟨?_,rfl⟩
  unfold lacks
  rw [Bool.not_eq_true',List.any_eq_false]
  intro st _ h
  simp [Yl] at h
 ·refine⟨h3,Qe ?_⟩
  unfold uB
  rw [List.any_eq_true]
  refine⟨st,hst,decide_eq_true ?_⟩
  rw [List.length_take,Nat.min_eq_left (by omega)]
theorem zcR (x:List Int) (i:Nat):uV (x.map V.int) (some (i:Int)) none=(x.drop i).map V.int:=by rw [Z3,<- List.map_drop]
theorem zc0 (x:List Int) (i:Nat):uV (x.map V.int) none (some (i:Int))=(x.take i).map V.int:=by rw [qu,<- List.map_take]
section
variable {P:Program} {w:World} {K:W.Frag} {mg:Str->Option Value} {base:Heap}
structure Rdr (P:Program) (w:World) (H:Hp) (rd tl dd:Addr) (b:Nat) (ts:ZB):Prop where
 s:RdS H rd tl dd b ts
 d:RdD P w H dd (ts.map (·.2)) b
 g:yC b (ts.map (·.2))
theorem Rdr.same {H H':Hp} {rd tl dd:Addr} {b:Nat} {ts:ZB} (R:Rdr P w H rd tl dd b ts) (s:Same H H'):Rdr P w H' rd tl dd b ts:=⟨R.s.same s,R.d.same s,R.g⟩
theorem Rdr.sameD {H H':Hp} {rd tl dd:Addr} {b:Nat} {ts:ZB} (R:Rdr P w H rd tl dd b ts) (s:SameD dd H H') (d:RdD P w H' dd (ts.map (·.2)) b):Rdr P w H' rd tl dd b ts:=⟨R.s.sameD R.d s,d,R.g⟩
theorem Rdr.tup {H:Hp} {rd tl dd:Addr} {b:Nat} {ts:ZB} (R:Rdr P w H rd tl dd b ts) {c:Addr} {xs:List V} (h:H c=some (.tup xs)):c≠dd:=R.d.ne h λ_ z=>nomatch z
def j6 (P:Program) (w:World):Sp:=λvs H Q _=>∃ (r:Addr) (b:Nat) (bl:Addr) (zs:ZB),vs=[.ref r]/\RuleAt H r b bl zs/\yC b (zs.map (·.2)) /\
 ∀ (rd tl dd:Addr) (ts:ZB) (H':Hp),H rd=none->H tl=none->H dd=none->(∀ t∈ts,H t.1=none)->Rdr P w H' rd tl dd b ts->ts.map (·.2)=zs.map (·.2)->Same H H'->Q (.ref rd) H'
theorem Qn:zF ["rule"] ["rule"] (zu uh):={}
theorem YS {f:Addr} {fd:FuncData} (D:Df K mg "_law_reader" uh Ag f fd) (T:Blt mg):FnOk P w K mg base CX0 1 f fd Ag (j6 P w):=by
 refine D.fn.ok Qn (λvs H Q E h=>?_) (λcdv A outer s H vs Q E hr h=>?_)
 ·obtain⟨r,b,bl,zs,rfl,_⟩:=h;rfl
 ·obtain⟨r,b,bl,zs,rfl,R,g,kk⟩:=h
  have h4:zs.length<=4:=by have:=g.len;rwa [List.length_map] at this
  refine⟨_,(zx (zL (zZ (zc (zP (wB K) (pv 0) zm (λ_ _=>rfl)) (zc (xK (show CScope (zu uh) _ "stretch" ["rule"] [] [] from {}) rfl (Yt K (zP (wB K) (pv 0) zm (λ_ _=>rfl))) (λ_ _ _ _=>yJ) (λ_ _ _ _=>(vV (zex K) (by rfl) T.n_tuple boot_tuple (zc (pv 0) zg)))) (zc zcr zg)))))),?_⟩
  refine⟨_,rfl,r,_,_,V.int b,rfl,rfl,SqT.of R.tu,rfl,?_⟩
  refine⟨_,rfl,r,_,_,V.ref bl,rfl,rfl,SqT.of R.tu,rfl,bl,rfl,⟨_,SqL.of R.li⟩,xm (K:=K) (a:=bl) (xs:=zs.map λz=>V.ref z.1) (λi ys Hc=>∃ ts:ZB,ys=ts.map (λt=>V.ref t.1)/\ts.map (·.2)=(zs.take i).map (·.2)/\(∀ t∈ts,H t.1=none/\Hc t.1=some (.tup (t.2.map V.int)))/\Same H Hc) ⟨[],rfl,by simp,by simp,Same.refl _⟩ (λi ys Hc _ ⟨_,_,_,_,e⟩=>SqL.of (e _ _ R.li)) ?_ ?_⟩
  ·rintro i x ys Hc hx ⟨ts,rfl,e2,ht,sc⟩
   rw [List.getElem?_map] at hx
   obtain⟨z,hzj,e⟩:=Option.map_eq_some_iff.mp hx
   subst e
   have hzm:=List.mem_of_getElem? hzj
   have hi:=(List.getElem?_eq_some_iff.mp hzj).1
   refine⟨by have:=congrArg List.length e2;rw [List.length_map,List.length_map,List.length_take] at this;rw [List.length_map];exact Nat.lt_of_le_of_lt (show ts.length<=4 by omega) (by decide),?_⟩
   unfold jl
   dsimp only
   rw [if_pos rfl]
   refine⟨_,rfl,z.1,_,rfl,.inl ⟨SqL.of (sc _ _ (R.st z hzm)),λp hp=>?_⟩⟩
   have m:=zj hp (o:=.tup (z.2.map V.int))
   refine⟨ts++[(p,z.2)],by simp,by rw [List.map_append,e2,List.take_succ,hzj,List.map_append];rfl,λt ht'=>?_,sc.trans m⟩
   rcases List.mem_append.mp ht' with h | h
   ·exact⟨(ht t h).1,m _ _ (ht t h).2⟩
   ·rw [List.mem_singleton.mp h];exact⟨sc.free hp,zf⟩
  ·rintro ys Hc ⟨ts,rfl,e2,ht,sc⟩ tl htl
   have m:=zj htl (o:=.lst (ts.map λt=>V.ref t.1))
   rw [List.length_map,List.take_length] at e2
   intro dd H2 hdd d2 c2
   have ned:∀ {c u},(upd Hc tl (.lst (ts.map λt=>V.ref t.1))) c=some u->c≠dd:=λe z=>by rw [z,hdd] at e;cases e
   have s2:Same (upd Hc tl (.lst (ts.map λt=>V.ref t.1))) H2:=λc u e=>by rw [c2 c (ned e)];exact e
   refine⟨(by show 3<=sizeLine;decide),λrd hrd=>?_⟩
   have m3:=zj hrd (o:=.lst [.int b,.ref tl,.ref dd])
   have s03:=(sc.trans m).trans (s2.trans m3)
   exact kk rd tl dd ts _ ((sc.trans (m.trans s2)).free hrd) (sc.free htl) ((sc.trans m).free hdd) (λt h=>(ht t h).1) ⟨⟨zf,m3 _ _ (s2 _ _ zf),λt h=>m3 _ _ (s2 _ _ (m _ _ (ht t h).2))⟩,⟨[],d2.same m3,Tab.nil⟩,by rw [e2];exact g⟩ e2 s03
def qJ (P:Program) (w:World):Sp:=λvs H Q _=>∃ (rd tl dd:Addr) (b:Nat) (ts:ZB) (sa:Addr) (x:List Int) (f:Nat),vs=[.ref rd,.ref sa,.int f]/\Rdr P w H rd tl dd b ts/\H sa=some (.tup (x.map V.int))/\XS (ts.map (·.2)) x/\f<b /\
 ∀ v H',SameD dd H H'->RdD P w H' dd (ts.map (·.2)) b->AftV H' (aft (ts.map (·.2)) x f) v->Q v H'
theorem ZJ:zF ["reader","stand","figure","ends","good"] ["reader","stand","figure"] (zu yE):={}
set_option maxHeartbeats 0 in
theorem ZG {f:Addr} {fd:FuncData} (D:Df K mg "_law_after" yE Ai f fd) (T:Blt mg):FnOk P w K mg base CX0 1 f fd Ai (qJ P w):=by
 refine D.fn.ok ZJ (λvs H Q E h=>?_) (λcdv A outer s H vs Q E hr h=>?_)
 ·obtain⟨rd,tl,dd,b,ts,sa,x,f,rfl,_⟩:=h;rfl
 ·obtain⟨rd,tl,dd,b,ts,sa,x,f,rfl,R,hsa,hx,hf,kk⟩:=h
  have HU:=Jy hr
  have h4:ts.length<=4:=by have:=R.g.len;rwa [List.length_map] at this
  have hst4:∀ st∈ts.map (·.2),st.length<=4:=λst h=>(R.g.st st h).len
  have ne:∀ st∈ts.map (·.2),st≠[]:=λst h=>(R.g.st st h).ne
  have hx3:=zaz hst4 hx
  have hLx:lacks (ts.map (·.2)) x=true:=(zbn hx).1
  have tupK:∀ {H1:Hp} {q:Addr},H1 sa=some (.tup (x.map V.int))->H1 q=none->NTup (upd H1 q (.tup [.ref sa,.int f,.int 0])) (kA x f) q:=λ{H1 q} h hq=>⟨sa,zf,by rw [show (kA x f).1.map kV=x.map V.int from zeq x];exact zj hq _ _ h⟩
  refine⟨_,(zp (xr (zei (Jr (X7 hr) (vd (zc (pv 1) (zc (pv 2) (zc zm zg)))) (zP (yo K) (pv 0) zm (λ_ _=>rfl))) (by with_unfolding_all rfl))
    (zp (qw (i:=3) (show CScope (zu yE) _ "at" ["reader","stand","figure","ends","good"] ["stand","figure"] [1,2] from {}) rfl ZJ.nd rfl (Or.inl rfl) (yg rfl T.n_range (zc (zA yq (zE (xQ K) (by rfl) T.n_len PySem.boot_len (zc (pv 1) zg)) zm) zg)) (λ_ _ _ _=>yJ) (λ_ _ _ _=>(wz zb4 (zA zfe (pv 1) (vd (zc (pv 2) zg))) (wF (pv 0)) uW)))
    (zp (zaM (i:=4) (show Ub (zu yE) _ "end" ["reader","stand","figure","ends","good"] ["reader"] [0] from ⟨rfl,by decide +kernel,by decide +kernel,rfl,by decide +kernel,rfl,by decide +kernel,by decide +kernel,λ_ _=>rfl,λ_=>rfl⟩) rfl ZJ.nd rfl (Or.inl rfl) (Yt K (pv 3)) (λ_ _ _ _=>(Ud (ym (zcv K HU) (xK (CScope.re (show CScope _ _ "one" ["end","reader"] ["end"] [0] from {})) rfl (Yt K (zP (yo K) (pv 1) zm (λ_ _=>rfl))) (λ_ _ _ _=>(Ud (ym (zbf K HU) (wz zb4 (pv 0) uW (wF (zE (xQ K) (by rfl) T.n_len PySem.boot_len (zc (pv 1) zg)))) (pv 1) (ye _)))) (λ_ _ _ _=>(pv 0))) (zZ zg) (ye _)))) (λ_ _ _ _=>(pv 0)))
    (zp (zam (X7 hr) (zP (yo K) (pv 0) zm (λ_ _=>rfl)) (vd (zc (pv 1) (zc (pv 2) (zc zm zg)))) (zP (yo K) (zA We (pv 4) (zZ (zc (vd zg) zg))) zm (λ_ _=>rfl)) rfl)
    (zx (xr (ym (zcv K HU) (xK (show CScope (zu yE) _ "end" ["reader","stand","figure","ends","good"] ["reader"] [0] from {}) rfl (Yt K (pv 3)) (λ_ _ _ _=>(Ud (ym (zgh K HU) (pv 0) (zP (yo K) (pv 1) zm (λ_ _=>rfl)) (by with_unfolding_all rfl)))) (λ_ _ _ _=>(pv 0))) (zZ zg) (ye _))
     (zx (zam (X7 hr) (zP (yo K) (pv 0) zm (λ_ _=>rfl)) (vd (zc (pv 1) (zc (pv 2) (zc zm zg)))) jW rfl))
     yj)))))
    yj)
   (zx (zL (zb7 (X7 hr) (zP (yo K) (pv 0) zm (λ_ _=>rfl)) (vd (zc (pv 1) (zc (pv 2) (zc zm zg)))) (λ_ _=>rfl))))),?_⟩
  refine⟨_,rfl,_,rfl,(by show 3<=sizeLine;decide),λq1 hq1=>?_⟩
  have m1:=zj hq1 (o:=.tup [.ref sa,.int f,.int 0])
  have R1:=R.same m1
  obtain⟨kvs,d1,t1⟩:=R1.d
  have nt1:=tupK hsa hq1
  generalize upd H q1 (.tup [.ref sa,.int f,.int 0])=H1 at m1 R1 d1 t1 nt1
  refine⟨_,rfl,rd,_,_,.ref dd,rfl,rfl,SqL.of R1.s.hd,rfl,dd,kvs,kA x f,q1,rfl,d1,rfl,nt1,_,rfl,?_⟩
  have m0:SameD dd H H1:=SameD.of m1
  cases hv:wQ kvs (kA x f) with
  | some v =>
   refine xX ?_
   refine⟨_,rfl,rd,_,_,.ref dd,rfl,rfl,SqL.of R1.s.hd,rfl,_,rfl,_,rfl,(by show 3<=sizeLine;decide),λq2 hq2=>?_⟩
   have m2:=zj hq2 (o:=.tup [.ref sa,.int f,.int 0])
   refine⟨dd,kvs,kA x f,q2,v,rfl,d1.same m2,rfl,tupK (m1 _ _ hsa) hq2,hv,?_⟩
   exact kk v _ (m0.trans (SameD.of m2)) ⟨kvs,d1.same m2,t1.same λb xs e=>m2 _ _ e⟩ ((t1.aft hv).same λb xs e=>m2 _ _ e)
  | none =>
  refine vL ?_
  have hsa1:=m1 _ _ hsa
  have hlen:(x.map V.int).length=x.length:=List.length_map ..
  refine⟨_,rfl,sa,_,rfl,.inr (SqT.of hsa1),_,_,rfl,rfl,_,rfl,by rw [hlen];omega,by rw [hlen];omega,wK (lo:=0) (n:=(((x.map V.int).length:Nat)+(2:Int)).toNat) (λi ys Hc=>∃ es:ZB,ys=es.map (λt=>V.ref t.1)/\es.map (·.2)=(List.range i).map (x++[(f:Int)]).drop/\(∀ t∈es,Hc t.1=some (.tup (t.2.map V.int)))/\Same H1 Hc) ⟨[],rfl,rfl,by simp,Same.refl _⟩ ?_ ?_⟩
  ·rintro i ys Hc hi ⟨es,rfl,e2,he,sc⟩
   refine⟨by have:=congrArg List.length e2;rw [List.length_map,List.length_map,List.length_range] at this;rw [List.length_map,this];exact Nat.lt_of_le_of_lt (show i<=10 by rw [hlen] at hi;omega) (by decide),?_⟩
   unfold jl
   dsimp only
   rw [if_pos rfl]
   refine⟨_,rfl,_,rfl,(by show 1<=sizeLine;decide),λp1 hp1=>?_⟩
   have mp:=zj hp1 (o:=.tup [.int f])
   refine⟨sa,p1,_,_,rfl,rfl,mp _ _ (sc _ _ hsa1),zf,by rw [hlen];exact Nat.le_trans (show x.length+1<=100 by omega) (by decide),λp2 H2 s2 h2=>?_⟩
   refine⟨_,rfl,_,rfl,p2,_,rfl,h2,λp3 H3 s3 h3=>?_⟩
   have e3:uV (x.map V.int++[.int f]) (some (0+(i:Int))) none=((x++[(f:Int)]).drop i).map V.int:=by
    rw [Int.zero_add,show x.map V.int++[V.int f]=(x++[(f:Int)]).map V.int by rw [List.map_append];rfl,zcR]
   rw [e3] at h3
   have s13:=(mp.trans s2).trans s3
   refine⟨es++[(p3,(x++[(f:Int)]).drop i)],by simp,by rw [List.map_append,e2,List.range_succ,List.map_append];rfl,λt ht=>?_,sc.trans s13⟩
   rcases List.mem_append.mp ht with h | h
   ·exact s13 _ _ (he t h)
   ·rw [List.mem_singleton.mp h];exact h3
  rintro ys H2 ⟨es,rfl,e2,he,s2⟩ el hel
  rw [show (((x.map V.int).length:Nat)+(2:Int)).toNat=(x++[(f:Int)]).length+1 by rw [hlen,List.length_append,List.length_singleton];omega] at e2
  have e2:es.map (·.2)=ends (x++[(f:Int)]):=e2
  have hel10:es.length<=10:=by
   have:=congrArg List.length e2
   unfold ends at this
   rw [List.length_map,List.length_map,List.length_range,List.length_append,List.length_singleton] at this
   omega
  have m3:=zj hel (o:=.lst (es.map λt=>V.ref t.1))
  have s13:=s2.trans m3
  have hE3:(upd H2 el (.lst (es.map λt=>V.ref t.1))) el=some (.lst (es.map λt=>V.ref t.1)):=zf
  have he3:∀ t∈es,(upd H2 el (.lst (es.map λt=>V.ref t.1))) t.1=some (.tup (t.2.map V.int)):=λt h=>m3 _ _ (he t h)
  generalize upd H2 el (.lst (es.map λt=>V.ref t.1))=H3 at s13 hE3 he3
  have R3:=R1.same s13
  refine⟨_,rfl,el,rfl,⟨_,SqL.of hE3⟩,xm (K:=K) (a:=el) (xs:=es.map λt=>V.ref t.1) (λi ys Hc=>ys=((es.take i).filter λt=>uB (ts.map (·.2)) t.2).map (λt=>V.ref t.1)/\Same H3 Hc) ⟨by simp,Same.refl _⟩ (λi ys Hc _ ⟨_,e⟩=>SqL.of (e _ _ hE3)) ?_ ?_⟩
  ·rintro i v ys Hc hi ⟨rfl,sc⟩
   rw [List.getElem?_map] at hi
   obtain⟨t,htj,e⟩:=Option.map_eq_some_iff.mp hi
   subst e
   have htm:=List.mem_of_getElem? htj
   have Rc:=R3.same sc
   have hil:=(List.getElem?_eq_some_iff.mp htj).1
   refine⟨by rw [List.length_map];exact Nat.lt_of_le_of_lt (Nat.le_trans (List.length_filter_le _ _) (by rw [List.length_take];exact show min i es.length<=10 by omega)) (by decide),?_⟩
   refine⟨_,rfl,rd,_,_,.ref tl,rfl,rfl,SqL.of Rc.s.hd,rfl,tl,rfl,⟨_,SqL.of Rc.s.li⟩,xm (K:=K) (a:=tl) (xs:=ts.map λt=>V.ref t.1) (λj us Hd=>us=((ts.take j).filter λz=>decide (z.2.take t.2.length=t.2)).map (λz=>V.ref z.1)/\Same Hc Hd) ⟨by simp,Same.refl _⟩ (λj us Hd _ ⟨_,e⟩=>SqL.of (e _ _ Rc.s.li)) ?_ ?_⟩
   ·rintro j u us Hd hj ⟨rfl,sd⟩
    rw [List.getElem?_map] at hj
    obtain⟨z,hzj,e⟩:=Option.map_eq_some_iff.mp hj
    subst e
    have hzm:=List.mem_of_getElem? hzj
    have hjl:=(List.getElem?_eq_some_iff.mp hzj).1
    refine⟨by rw [List.length_map];exact Nat.lt_of_le_of_lt (Nat.le_trans (List.length_filter_le _ _) (by rw [List.length_take];exact show min j ts.length<=10 by omega)) (by decide),?_⟩
    have htd:=sd _ _ (sc _ _ (he3 t htm))
    refine⟨_,rfl,_,rfl,t.1,_,rfl,.inr (SqT.of htd),_,rfl,z.1,_,rfl,sd _ _ (Rc.s.st z hzm),λp4 H4 s4 h4'=>?_⟩
    rw [List.length_map,zc0] at h4'
    refine⟨_,rfl,vH (z.2.take t.2.length),vH t.2,TrAt.tupI h4',TrAt.tupI (s4 _ _ htd),(by rw [QW];decide),_,rfl,?_⟩
    show if teq (vH (z.2.take t.2.length)) (vH t.2)=true then _ else _
    rw [zbd]
    by_cases hq:z.2.take t.2.length=t.2
    ·rw [decide_eq_true hq]
     refine vL ⟨_,rfl,?_,sd.trans s4⟩
     rw [List.take_succ,hzj,Option.toList_some,List.filter_append,List.filter_cons,if_pos (decide_eq_true hq),List.map_append];rfl
    ·rw [decide_eq_false hq]
     refine xX ⟨?_,sd.trans s4⟩
     rw [List.take_succ,hzj,Option.toList_some,List.filter_append,List.filter_cons,if_neg (by rw [decide_eq_false hq];exact Bool.false_ne_true),List.filter_nil,List.append_nil]
   ·rintro us Hd ⟨rfl,sd⟩ D4 hD4
    rw [List.length_map,List.take_length]
    refine⟨(by decide:0<=sizeLine),λp0 hp0=>?_⟩
    generalize hks:(ts.filter λz=>decide (z.2.take t.2.length=t.2))=ks at hD4 hp0
    have m4:=zj hD4 (o:=.lst (ks.map λz=>V.ref z.1))
    have m5:=zj hp0 (o:=.lst [])
    have hkt:∀ z∈ks,(upd (upd Hd D4 (.lst (ks.map λz=>V.ref z.1))) p0 (.lst [])) z.1=some (.tup (z.2.map V.int)):=λz hz=>m5 _ _ (m4 _ _ (sd _ _ (Rc.s.st z (by rw [<- hks] at hz;exact (List.mem_filter.mp hz).1))))
    refine⟨.lst ((ks.map (·.2)).map vH),.lst [],?_,?_,(by rw [q9];have:=Yg (ks.map (·.2));omega),_,rfl,?_⟩
    ·rw [TrAt];exact⟨D4,_,rfl,SqL.of (m5 _ _ zf),TrsAt.tups hkt⟩
    ·rw [TrAt];exact⟨p0,_,rfl,SqL.of zf,by rw [TrsAt]⟩
    have sE:=sc.trans (sd.trans (m4.trans m5))
    show if (!teq (.lst ((ks.map (·.2)).map vH)) (.lst []))=true then _ else _
    rw [Jj]
    have hb:uB (ts.map (·.2)) t.2=!((ks.map (·.2)).map vH).isEmpty:=by
     unfold uB
     rw [List.any_map,<- hks,Bool.eq_iff_iff]
     simp [List.any_eq_true,List.isEmpty_iff]
    rw [<- hb]
    cases hbb:uB (ts.map (·.2)) t.2 with
    | true =>
     refine vL ⟨_,rfl,?_,sE⟩
     rw [List.take_succ,htj,Option.toList_some,List.filter_append,List.filter_cons,if_pos hbb,List.map_append];rfl
    | false =>
     refine xX ⟨?_,sE⟩
     rw [List.take_succ,htj,Option.toList_some,List.filter_append,List.filter_cons,if_neg (by rw [hbb];exact Bool.false_ne_true),List.filter_nil,List.append_nil]
  rintro ys H4 ⟨rfl,s4⟩ gl hgl
  rw [List.length_map,List.take_length]
  generalize hgsd:(es.filter λt=>uB (ts.map (·.2)) t.2)=gs at hgl
  have hgl10:gs.length<=10:=by rw [<- hgsd];exact Nat.le_trans (List.length_filter_le _ _) hel10
  have m5:=zj hgl (o:=.lst (gs.map λt=>V.ref t.1))
  have hG5:(upd H4 gl (.lst (gs.map λt=>V.ref t.1))) gl=some (.lst (gs.map λt=>V.ref t.1)):=zf
  have s35:=s4.trans m5
  generalize upd H4 gl (.lst (gs.map λt=>V.ref t.1))=H5 at s35 hG5
  have s15:=s13.trans s35
  have R5:=R3.same s35
  have he5:∀ t∈es,H5 t.1=some (.tup (t.2.map V.int)):=λt h=>s35 _ _ (he3 t h)
  have hls:∃ ls,ls=ts.map (·.2):=⟨_,rfl⟩
  refine⟨_,rfl,(by decide:0<=sizeLine),λe0 he0=>?_⟩
  have m6:=zj he0 (o:=.tup [])
  refine⟨(by show 1<=sizeLine;decide),λp5 hp5=>?_⟩
  have m7:=zj hp5 (o:=.lst [.ref e0])
  refine⟨gl,p5,_,_,rfl,rfl,m7 _ _ (m6 _ _ hG5),zf,by rw [List.length_map];exact Nat.le_trans (show gs.length+1<=100 by omega) (by decide),λp6 hp6=>?_⟩
  have m8:=zj hp6 (o:=.lst (gs.map (λt=>V.ref t.1)++[.ref e0]))
  have m58:=m6.trans (m7.trans m8)
  have he00:(upd (upd (upd H5 e0 (.tup [])) p5 (.lst [.ref e0])) p6 (.lst (gs.map (λt=>V.ref t.1)++[.ref e0]))) e0=some (.tup (([]:List Int).map V.int)):=m8 _ _ (m7 _ _ zf)
  have hp66:(upd (upd (upd H5 e0 (.tup [])) p5 (.lst [.ref e0])) p6 (.lst (gs.map (λt=>V.ref t.1)++[.ref e0]))) p6=some (.lst ((gs++[((e0,[]):Addr×List Int)]).map λt=>V.ref t.1)):=by rw [zf,List.map_append];rfl
  generalize upd (upd (upd H5 e0 (.tup [])) p5 (.lst [.ref e0])) p6 (.lst (gs.map (λt=>V.ref t.1)++[.ref e0]))=H6 at m58 he00 hp66
  obtain⟨c,hc0,hc2,hct⟩:∃ c:Addr×List Int,(gs++[((e0,[]):Addr×List Int)])[0]?=some c/\c.2=zO (ts.map (·.2)) (x++[(f:Int)])/\H6 c.1=some (.tup (c.2.map V.int)):=by
   have hh:=zcX (ls:=ts.map (·.2)) (x++[(f:Int)])
   have em:(gs++[((e0,[]):Addr×List Int)]).map (·.2)=(ends (x++[(f:Int)])).filter (uB (ts.map (·.2)))++[[]]:=by
    rw [List.map_append,<- e2,List.filter_map,<- hgsd];rfl
   rw [<- em,List.head?_map,List.head?_eq_getElem?] at hh
   obtain⟨c,h1,h2⟩:=Option.map_eq_some_iff.mp hh
   refine⟨c,h1,h2,?_⟩
   rcases List.mem_append.mp (List.mem_of_getElem? h1) with h | h
   ·exact m58 _ _ (he5 c (by rw [<- hgsd] at h;exact (List.mem_filter.mp h).1))
   ·rw [List.mem_singleton.mp h];exact he00
  refine⟨p6,_,_,.ref c.1,rfl,rfl,SqL.of hp66,yI (j:=0) (by rw [List.getElem?_map,hc0];rfl),?_⟩
  have s16:=s15.trans m58
  have R6:=R5.same m58
  refine⟨_,rfl,rd,_,_,.ref dd,rfl,rfl,SqL.of R6.s.hd,rfl,_,rfl,_,rfl,(by show 3<=sizeLine;decide),λq7 hq7=>?_⟩
  have m9:=zj hq7 (o:=.tup [.ref sa,.int f,.int 0])
  have s17:=s16.trans m9
  have kl:kvs.length<sizeLine:=Nat.lt_of_le_of_lt (t1.len R.g.len hst4 R.g.b16) (by decide)
  refine⟨dd,kvs,kA x f,q7,rfl,d1.same s17,rfl,tupK (s16 _ _ hsa1) hq7,kl,λH8 d8 c8=>?_⟩
  have R7:=R6.same m9
  have hct7:=m9 _ _ hct
  have he7:∀ t∈es,(upd H6 q7 (.tup [.ref sa,.int f,.int 0])) t.1=some (.tup (t.2.map V.int)):=λt h=>m9 _ _ (m58 _ _ (he5 t h))
  have hel7:(upd H6 q7 (.tup [.ref sa,.int f,.int 0])) el=some (.lst (es.map λt=>V.ref t.1)):=m9 _ _ (m58 _ _ (s35 _ _ hE3))
  generalize upd H6 q7 (.tup [.ref sa,.int f,.int 0])=H7 at c8 s17 R7 hct7 he7 hel7
  have nd:∀ {a u},H7 a=some u->(∀ φ,u≠.ext φ)->H8 a=some u:=λ{a u} h hu=>by rw [c8 a (R7.d.ne h hu)];exact h
  have s78:SameD dd H7 H8:=λa u ha h=>by rw [c8 a ha];exact h
  have tp78:∀ a xs,H7 a=some (.tup xs)->H8 a=some (.tup xs):=λa xs h=>nd h (λ_ z=>nomatch z)
  have S8:RdS H8 rd tl dd b ts:=⟨nd R7.s.hd (λ_ z=>nomatch z),nd R7.s.li (λ_ z=>nomatch z),λt h=>tp78 _ _ (R7.s.st t h)⟩
  have t8:Tab (ts.map (·.2)) b H8 kvs:=t1.same λa xs h=>tp78 _ _ (s17 _ _ h)
  have hel8:H8 el=some (.lst (es.map λt=>V.ref t.1)):=nd hel7 (λ_ z=>nomatch z)
  have he8:∀ t∈es,H8 t.1=some (.tup (t.2.map V.int)):=λt h=>tp78 _ _ (he7 t h)
  have hc8:=tp78 _ _ hct7
  have hsa8:=tp78 _ _ (s17 _ _ hsa1)
  have s08:SameD dd H H8:=(m0.trans (SameD.of s17)).trans s78
  refine⟨_,rfl,el,rfl,⟨_,SqL.of hel8⟩,xm (K:=K) (a:=el) (xs:=es.map λt=>V.ref t.1) (λi ys Hc=>ys=((es.take i).filter λt=>decide (t.2∈ts.map (·.2))).map (λt=>V.ref t.1)/\Same H8 Hc) ⟨by simp,Same.refl _⟩ (λi ys Hc _ ⟨_,e⟩=>SqL.of (e _ _ hel8)) ?_ ?_⟩
  ·rintro i v ys Hc hi ⟨rfl,sc⟩
   rw [List.getElem?_map] at hi
   obtain⟨t,htj,e⟩:=Option.map_eq_some_iff.mp hi
   subst e
   have htm:=List.mem_of_getElem? htj
   have Sc:=S8.same sc
   refine⟨by rw [List.length_map];exact Nat.lt_of_le_of_lt (Nat.le_trans (List.length_filter_le _ _) (by rw [List.length_take];exact show min i es.length<=10 by omega)) (by decide),?_⟩
   refine⟨_,rfl,_,rfl,rd,_,_,.ref tl,rfl,rfl,SqL.of Sc.hd,rfl,tl,_,(ts.map (·.2)).map vH,vH t.2,rfl,SqL.of Sc.li,TrsAt.tups Sc.st,TrAt.tupI (sc _ _ (he8 t htm)),Nat.le_trans (Yg _) (by decide),_,rfl,?_⟩
   rw [if_neg (by decide),zeO]
   by_cases hq:t.2∈ts.map (·.2)
   ·rw [decide_eq_true hq]
    refine vL ⟨_,rfl,?_,sc⟩
    rw [List.take_succ,htj,Option.toList_some,List.filter_append,List.filter_cons,if_pos (decide_eq_true hq),List.map_append];rfl
   ·rw [decide_eq_false hq]
    refine xX ⟨?_,sc⟩
    rw [List.take_succ,htj,Option.toList_some,List.filter_append,List.filter_cons,if_neg (by rw [decide_eq_false hq];exact Bool.false_ne_true),List.filter_nil,List.append_nil]
  rintro ys H9 ⟨rfl,s9⟩ D9 hD9
  rw [List.length_map,List.take_length]
  refine⟨(by decide:0<=sizeLine),λp0 hp0=>?_⟩
  generalize hks:(es.filter λt=>decide (t.2∈ts.map (·.2)))=ks at hD9 hp0
  have ma:=zj hD9 (o:=.lst (ks.map λz=>V.ref z.1))
  have mb:=zj hp0 (o:=.lst [])
  have s8a:=s9.trans (ma.trans mb)
  have hkt:∀ z∈ks,(upd (upd H9 D9 (.lst (ks.map λz=>V.ref z.1))) p0 (.lst [])) z.1=some (.tup (z.2.map V.int)):=λz hz=>s8a _ _ (he8 z (by rw [<- hks] at hz;exact (List.mem_filter.mp hz).1))
  refine⟨.lst ((ks.map (·.2)).map vH),.lst [],?_,?_,(by rw [q9];have:=Yg (ks.map (·.2));omega),_,rfl,?_⟩
  ·rw [TrAt];exact⟨D9,_,rfl,SqL.of (mb _ _ zf),TrsAt.tups hkt⟩
  ·rw [TrAt];exact⟨p0,_,rfl,SqL.of zf,by rw [TrsAt]⟩
  show if (!teq (.lst ((ks.map (·.2)).map vH)) (.lst []))=true then _ else _
  rw [Jj]
  have hk:(!((ks.map (·.2)).map vH).isEmpty)=!lacks (ts.map (·.2)) (x++[(f:Int)]):=by
   have q:=zeR ne (f:Int) hLx
   cases hL:lacks (ts.map (·.2)) (x++[(f:Int)]) with
   | false =>
    obtain⟨e,h1,h2⟩:=q.mpr hL
    rw [<- e2] at h1
    obtain⟨t,ht,rfl⟩:=List.mem_map.mp h1
    have:t∈ks:=by rw [<- hks];exact List.mem_filter.mpr ⟨ht,decide_eq_true h2⟩
    cases ks with
    | nil=>cases this
    | cons _ _=>rfl
   | true =>
    cases ks with
    | nil=>rfl
    | cons t ks' =>
     exfalso
     have ht:t∈es.filter λt=>decide (t.2∈ts.map (·.2)):=by rw [hks];exact List.mem_cons_self
     have ht:=List.mem_filter.mp ht
     have:=q.mp ⟨t.2,by rw [<- e2];exact List.mem_map.mpr ⟨t,ht.1,rfl⟩,of_decide_eq_true ht.2⟩
     rw [hL] at this;cases this
  rw [hk]
  have Sa:=S8.same s8a
  have da:=d8.same s8a
  have hsaa:=s8a _ _ hsa8
  have hca:=s8a _ _ hc8
  have ta:Tab (ts.map (·.2)) b (upd (upd H9 D9 (.lst (ks.map λz=>V.ref z.1))) p0 (.lst [])) kvs:=t8.same λa xs h=>s8a _ _ h
  have s0a:SameD dd H (upd (upd H9 D9 (.lst (ks.map λz=>V.ref z.1))) p0 (.lst [])):=s08.trans (SameD.of s8a)
  generalize upd (upd H9 D9 (.lst (ks.map λz=>V.ref z.1))) p0 (.lst [])=Ha at Sa da hsaa hca ta s0a
  have kl2:(putK kvs (kA x f) (.ref c.1)).length<sizeLine:=by
   have h1:=Zj kvs (kA x f) (.ref c.1)
   have h2:=t1.len R.g.len hst4 R.g.b16
   exact Nat.lt_of_le_of_lt (show _<=20001 by omega) (by decide)
  cases hL:lacks (ts.map (·.2)) (x++[(f:Int)])
  case' false =>
   refine vL ?_
   refine⟨_,rfl,rd,_,_,.ref dd,rfl,rfl,SqL.of Sa.hd,rfl,_,rfl,_,rfl,(by show 3<=sizeLine;decide),λqb hqb=>?_⟩
   have mb2:=zj hqb (o:=.tup [.ref sa,.int f,.int 0])
   refine⟨dd,_,kA x f,qb,rfl,da.same mb2,rfl,tupK hsaa hqb,kl2,λHb db cb=>?_⟩
   rw [zbN hv] at db
   have nz:∀ {a u},(upd Ha qb (.tup [.ref sa,.int f,.int 0])) a=some u->(∀ φ,u≠.ext φ)->Hb a=some u:=λ{a u} h hu=>by
    rw [cb a (λz=>by
     obtain⟨_,e,_⟩:=da.same mb2
     rw [z,e] at h;cases h;exact hu _ rfl)]
    exact h
   have tz0:∀ a xs,Ha a=some (.tup xs)->Hb a=some (.tup xs):=λa xs h=>nz (mb2 _ _ h) (λ_ z=>nomatch z)
   have Sz:RdS Hb rd tl dd b ts:=⟨nz (mb2 _ _ Sa.hd) (λ_ z=>nomatch z),nz (mb2 _ _ Sa.li) (λ_ z=>nomatch z),λt h=>tz0 _ _ (Sa.st t h)⟩
   have hsaz:=tz0 _ _ hsaa
   have av:AftV Hb (aft (ts.map (·.2)) x f) V.non:=by unfold aft;rw [if_neg (by rw [hL];exact Bool.false_ne_true)];rfl
   have dz:=db
   have tz:=(ta.same tz0).put hv (.inl ⟨x,f,hx,hf,rfl,av⟩)
   have sz:SameD dd H Hb:=(s0a.trans (SameD.of mb2)).trans λa u ha h=>by rw [cb a ha];exact h
  case' true =>
   refine xX ?_
   have Sz:=Sa
   have hsaz:=hsaa
   have av:AftV Ha (aft (ts.map (·.2)) x f) (V.ref c.1):=by unfold aft;rw [if_pos hL];exact⟨c.1,rfl,by rw [<- hc2];exact hca⟩
   have dz:=da
   have tz:=ta.put hv (.inl ⟨x,f,hx,hf,rfl,av⟩)
   have sz:=s0a
  all_goals
   refine⟨_,rfl,rd,_,_,.ref dd,rfl,rfl,SqL.of Sz.hd,rfl,_,rfl,_,rfl,(by show 3<=sizeLine;decide),λqz hqz=>?_⟩
   have mz:=zj hqz (o:=.tup [.ref sa,.int f,.int 0])
   refine⟨dd,_,kA x f,qz,_,rfl,dz.same mz,rfl,tupK hsaz hqz,by rw [za7,if_pos rfl],?_⟩
   exact kk _ _ (sz.trans (SameD.of mz)) ⟨_,dz.same mz,tz.same λb xs e=>mz _ _ e⟩ (av.same λb xs e=>mz _ _ e)
end
abbrev zdt:=Hp->Nat->List Int->Addr->Prop
structure Mem (E:zdt) (ls:ZA) (H:Hp) (kvs:List (NK×V)):Prop where
 nd:(kvs.map (·.1)).Nodup
 ok:∀ p∈kvs,∃ (x:List Int) (t:Nat) (l:Addr),XS ls x/\1<=t/\t<=1000/\p.1=kW x t/\p.2=.ref l/\E H t x l
section
variable {E:zdt} {ls:ZA} {H H':Hp} {kvs:List (NK×V)}
theorem Mem.nil:Mem E ls H []:=⟨List.nodup_nil,λp hp=>nomatch hp⟩
theorem Mem.same (m:Mem E ls H kvs) (s:∀ t x l,E H t x l->E H' t x l):Mem E ls H' kvs:=⟨m.nd,λp hp=>by
 obtain⟨x,t,l,h1,h2,h3,h4,h5,h6⟩:=m.ok p hp
 exact⟨x,t,l,h1,h2,h3,h4,h5,s t x l h6⟩⟩
theorem zfx {x y:List Int} {n m:Nat} (e:kW x n=kW y m):x=y/\n=m:=by
 unfold kW at e
 injection e with e1 e2
 injection e2 with e2 e3
 injection e2 with e2
 exact⟨Ut e1,by omega⟩
theorem Mem.get (m:Mem E ls H kvs) {x:List Int} {n:Nat} {v:V} (h:wQ kvs (kW x n)=some v):∃ l,v=.ref l/\E H n x l:=by
 obtain⟨y,t,l,_,_,_,h4,h5,h6⟩:=m.ok _ (Yy h)
 obtain⟨e1,e2⟩:=zfx h4
 subst e1 e2
 exact⟨l,h5,h6⟩
theorem Mem.put (m:Mem E ls H kvs) {x:List Int} {t:Nat} {l:Addr} (h1:XS ls x) (h2:1<=t) (h3:t<=1000) (e:E H t x l):Mem E ls H (putK kvs (kW x t) (.ref l)):=by
 cases h:wQ kvs (kW x t) with
 | none =>
  refine⟨zck _ m.nd h,λp hp=>?_⟩
  rw [Xd _ h] at hp
  rcases List.mem_append.mp hp with hp | hp
  ·exact m.ok p hp
  ·rw [List.mem_singleton.mp hp];exact⟨x,t,l,h1,h2,h3,rfl,rfl,e⟩
 | some u =>
  have ha:(kvs.any λkv=>decide (kv.1=kW x t))=true:=by rw [qY,h];rfl
  unfold putK
  rw [if_pos ha]
  refine⟨?_,λp hp=>?_⟩
  ·rw [List.map_map,show ((λx:NK×V=>x.1) ∘ λkv:NK×V=>if kv.1=kW x t then (kv.1,V.ref l) else kv)=(λx:NK×V=>x.1) from funext λkv=>by
    show (if kv.1=kW x t then (kv.1,V.ref l) else kv).1=kv.1
    split<;>rfl]
   exact m.nd
  ·obtain⟨q,hq,rfl⟩:=List.mem_map.mp hp
   by_cases z:q.1=kW x t
   ·rw [if_pos z];exact⟨x,t,l,h1,h2,h3,z,rfl,e⟩
   ·rw [if_neg z];exact m.ok q hq
theorem Mem.len (m:Mem E ls H kvs) (h4:ls.length<=4) (h:∀ st∈ls,st.length<=4):kvs.length<=20000:=by
 have hk:(((VR ls ls).map λx=>(List.range 1001).map λt=>kW x t).flatten).length<=20000:=by
  have h2:=WK (f:=λx=>(List.range 1001).map λt=>kW x t) (n:=1001) (λx=>by rw [List.length_map,List.length_range];exact Nat.le_refl _) (VR ls ls)
  have h3:=zaH h4 h
  omega
 by_cases hc:kvs.length<=(((VR ls ls).map λx=>(List.range 1001).map λt=>kW x t).flatten).length
 ·omega
 ·exfalso
  obtain⟨i,j,x,hij,h1,h2⟩:=zbT (kvs.map (·.1)) (((VR ls ls).map λx=>(List.range 1001).map λt=>kW x t).flatten) (λk hk=>by
   obtain⟨p,hp,rfl⟩:=List.mem_map.mp hk
   obtain⟨x,n,l,q1,q2,q3,q4,_⟩:=m.ok p hp
   exact List.mem_flatten.mpr ⟨_,List.mem_map.mpr ⟨x,UL.mpr q1,rfl⟩,List.mem_map.mpr ⟨n,List.mem_range.mpr (by omega),q4.symm⟩⟩) (by rw [List.length_map];omega)
  have hj:=(List.getElem?_eq_some_iff.mp h2).1
  have:=(List.getElem?_inj (by omega) m.nd).mp (h1.trans h2.symm)
  omega
end
def MemD (P:Program) (w:World) (E:zdt) (H:Hp) (md:Addr) (ls:ZA):Prop:=∃ kvs,DN P w H md kvs/\Mem E ls H kvs
def SameM (dd md:Addr) (H H':Hp):Prop:=∀ c u,c≠dd->c≠md->H c=some u->H' c=some u
theorem SameM.of {dd md:Addr} {H H':Hp} (s:Same H H'):SameM dd md H H':=λc u _ _ e=>s c u e
theorem SameM.ofD {dd md:Addr} {H H':Hp} (s:SameD dd H H'):SameM dd md H H':=λc u h _ e=>s c u h e
theorem SameM.trans {dd md:Addr} {H H1 H2:Hp} (a:SameM dd md H H1) (b:SameM dd md H1 H2):SameM dd md H H2:=λc u h1 h2 e=>b c u h1 h2 (a c u h1 h2 e)
theorem MemD.ne {P:Program} {w:World} {E:zdt} {H:Hp} {md:Addr} {ls:ZA} (R:MemD P w E H md ls) {c:Addr} {u:HO} (h:H c=some u) (hu:∀ φ,u≠.ext φ):c≠md:=let ⟨_,⟨_,e,_⟩,_⟩:=R;λz=>by rw [z,e] at h;cases h;exact hu _ rfl
def zaj (ls:ZA) (x:List Int) (a n:Nat):List Nat:=((List.range n).map (a+·)).filter λ(c:Nat)=>lacks ls (x++[(c:Int)])
def uD (ls:ZA) (b t:Nat) (x:List Int) (a n:Nat):Nat:=((zaj ls x a n).map λ(c:Nat)=>cnt ls b t (zO ls (x++[(c:Int)]))).sum
theorem zaI (ls:ZA) (x:List Int) (a n:Nat):zaj ls x a (n+1)=zaj ls x a n++(if lacks ls (x++[((a+n:Nat):Int)])=true then [a+n] else []):=by
 unfold zaj
 rw [List.range_succ,List.map_append,List.filter_append]
 congr 1
 rw [List.map_cons,List.map_nil,List.filter_cons]
 split<;>rfl
theorem jL (ls:ZA) (b t:Nat) (x:List Int) (a n:Nat):uD ls b t x a (n+1)=uD ls b t x a n+tV ls b t (some x) (a+n):=by
 unfold uD
 rw [zaI,List.map_append,List.sum_append]
 congr 1
 show _=if lacks ls (x++[((a+n:Nat):Int)])=true then _ else 0
 split<;>simp
theorem Zn (ls:ZA) (b t:Nat) (x:List Int):∀ n,uD ls b t x 0 n=under ls b t (some x) n
 | 0=>rfl
 | n+1=>by rw [jL,Zn,uz,Nat.zero_add]
theorem Yo (ls:ZA) (b t:Nat):∀ n,ug ls b t+uD ls b t [] 1 n=under ls b t none (n+1)
 | 0=>by
  rw [uz,Wg]
  show ug ls b t+0=0+(if (0:Nat)=0 then ug ls b t else if lacks ls [((0:Nat):Int)]=true then cnt ls b t (zO ls [((0:Nat):Int)]) else 0)
  rw [if_pos rfl]
  omega
 | n+1=>by
  rw [jL,<- Nat.add_assoc,Yo,uz ls b t none (n+1)]
  congr 1
  show (if lacks ls ([]++[((1+n:Nat):Int)])=true then cnt ls b t (zO ls ([]++[((1+n:Nat):Int)])) else 0)=if n+1=0 then ug ls b t else if lacks ls [((n+1:Nat):Int)]=true then cnt ls b t (zO ls [((n+1:Nat):Int)]) else 0
  rw [if_neg (by omega:¬ n+1=0),Nat.add_comm 1 n]
  rfl
def PartN (ls:ZA) (b n L k:Nat) (o:Option (List Int)) (tot:Nat):Prop :=
 (k=0/\o=some []/\tot=ug ls b (L-1))\/(1<=k/\gd ls b (n / b^(L-k))=true/\o=some (zO ls (zR b (n / b^(L-k))))/\tot=many (gd ls b) (n / b^(L-k)*b^(L-k)))\/(1<=k/\o=none/\tot=many (gd ls b) n)
theorem PartN.rep {ls:ZA} {b n L k:Nat} {x:List Int} {tot:Nat} (h2:2<=b) (hn:0<n) (hL:(zR b n).length=L) (hk:k<L) (p:PartN ls b n L k (some x) tot) :
  ∃ o,Rep ls b (n / b^(L-k)) o/\((k=0/\x=[]/\o=none/\tot=ug ls b (L-1))\/(1<=k/\o=some x/\tot=many (gd ls b) (n / b^(L-k)*b^(L-k)))):=by
 rcases p with ⟨rfl,e,t⟩ | ⟨h1,g,e,t⟩ | ⟨h1,e,_⟩
 ·cases e
  have:n / b^(L-0)=0:=Nat.div_eq_of_lt (xG h2 hL)
  exact⟨none,.inl ⟨this,rfl⟩,.inl ⟨rfl,rfl,rfl,t⟩⟩
 ·cases e
  refine⟨_,.inr ⟨?_,g,rfl⟩,.inr ⟨h1,rfl,t⟩⟩
  have hs:=(Wz (k:=L-1) h2).mp (by rw [hL];omega)
  have hp:0<b^(L-k):=Nat.pow_pos (by omega)
  have:b^(L-k)<=n:=by
   rcases hs.2 with z | z
   ·omega
   ·exact Nat.le_trans (Nat.pow_le_pow_right (by omega) (by omega)) z
  exact Nat.div_pos this hp
 ·cases e
theorem PartN.next {ls:ZA} (ne:∀ l∈ls,l≠[]) {b n L k:Nat} {x:List Int} {tot:Nat} (h2:2<=b) (hn:0<n) (hL:(zR b n).length=L) (hk:k<L) (p:PartN ls b n L k (some x) tot) {c:Nat} (hc:(zR b n)[k]?=some (c:Int)) :
  c<b/\(k=0->1<=c)/\PartN ls b n L (k+1) (aft ls x c) (tot+uD ls b (L-1-k) x (if k=0 then 1 else 0) (c-(if k=0 then 1 else 0))):=by
 have ec:c=(n / b^(L-1-k)) % b:=by
  rw [U5 h2 hL hk] at hc
  have hc:((n / b^(L-1-k) % b:Nat):Int)=(c:Int):=by simpa using hc
  omega
 have hcb:c<b:=by rw [ec];exact Nat.mod_lt _ (by omega)
 have et:L-k=L-1-k+1:=by omega
 have htop:n / b^(L-1-k)=n / b^(L-k)*b+c:=by rw [et,ec];exact Uy (by omega)
 obtain⟨o,R,hor⟩:=p.rep h2 hn hL hk
 have hu:=Wq ne h2 R (L-1-k) (s:=c) (by omega)
 have hs:=R.step ne h2 hcb
 rw [<- et,<- htop] at hu
 have hstep:c≠0\/k≠0:=by
  by_cases hk0:k=0
  ·left
   intro hc0
   have hs:=(Wz (k:=L-1) h2).mp (by rw [hL];omega)
   have z:n / b^(L-k)=0:=by rw [hk0];exact Nat.div_eq_of_lt (xG h2 hL)
   rw [z,hc0,hk0] at htop
   have hlt:n<b^(L-1):=by
    have hp:0<b^(L-1):=Nat.pow_pos (by omega)
    have:n / b^(L-1)=0:=by simpa using htop
    rcases Nat.div_eq_zero_iff.mp this with q | q
    ·omega
    ·exact q
   rcases hs.2 with q | q
   ·rw [q,Nat.pow_zero] at hlt;omega
   ·omega
  ·exact .inr hk0
 have hm1:1<=n / b^(L-1-k):=by
  rcases hor with ⟨rfl,_,_,_⟩ | ⟨h1,rfl,_⟩
  ·rw [htop];rcases hstep with q | q
   ·omega
   ·exact absurd rfl q
  ·rcases R with ⟨_,z⟩ | ⟨z,_⟩
   ·cases z
   ·rw [htop];exact Jg h2 z
 refine⟨hcb,λz=>by rcases hstep with q | q;omega;exact absurd z q,?_⟩
 have etot:tot+uD ls b (L-1-k) x (if k=0 then 1 else 0) (c-(if k=0 then 1 else 0))=many (gd ls b) (n / b^(L-1-k)*b^(L-1-k)):=by
  rcases hor with ⟨rfl,rfl,rfl,rfl⟩ | ⟨h1,rfl,rfl⟩
  ·rw [if_pos rfl]
   have q:=Yo ls b (L-1) (c-1)
   have hc1:1<=c:=by rcases hstep with q | q;omega;exact absurd rfl q
   rw [show c-1+1=c by omega] at q
   have e0:L-1-0=L-1:=Nat.sub_zero _
   rw [e0] at hu ⊢
   rw [q,<- hu]
   have z:n / b^(L-0)=0:=Nat.div_eq_of_lt (xG h2 hL)
   rw [z,Nat.zero_mul]
   simp [many]
  ·rw [if_neg (by omega),Nat.sub_zero,Zn,hu]
 rw [etot]
 have eL:L-(k+1)=L-1-k:=by omega
 have key:(lacks ls (x++[(c:Int)])=true->gd ls b (n / b^(L-1-k))=true/\zO ls (x++[(c:Int)])=zO ls (zR b (n / b^(L-1-k))))/\(lacks ls (x++[(c:Int)])=false->gd ls b (n / b^(L-1-k))=false):=by
  rcases hor with ⟨rfl,rfl,rfl,_⟩ | ⟨h1,rfl,_⟩
  ·have z:n / b^(L-0)=0:=Nat.div_eq_of_lt (xG h2 hL)
   rw [z,Nat.zero_mul,Nat.zero_add] at htop
   rw [htop]
   unfold gd
   rw [zY hcb]
   exact⟨λh=>⟨h,rfl⟩,λh=>h⟩
  ·rcases R with ⟨_,z⟩ | ⟨z1,z2,z3⟩
   ·cases z
   ·cases z3
    rw [htop]
    unfold gd at z2 ⊢
    rw [vp h2 z1 hcb,<- qp ne (c:Int) z2,qi]
    exact⟨λh=>⟨h,rfl⟩,λh=>h⟩
 unfold aft
 cases hl:lacks ls (x++[(c:Int)]) with
 | true =>
  obtain⟨g,e⟩:=key.1 hl
  rw [if_pos rfl]
  exact .inr (.inl ⟨by omega,by rw [eL];exact g,by rw [eL,e],by rw [eL]⟩)
 | false =>
  have g:=key.2 hl
  rw [if_neg Bool.false_ne_true]
  refine .inr (.inr ⟨by omega,rfl,?_⟩)
  have hb:=zdX ne h2 hm1 g (L-1-k) (r:=n % b^(L-1-k)) (Nat.le_of_lt (Nat.mod_lt _ (Nat.pow_pos (by omega))))
  have en:n / b^(L-1-k)*b^(L-1-k)+n % b^(L-1-k)=n:=by rw [Nat.mul_comm];exact Nat.div_add_mod n _
  rw [en] at hb
  exact hb.symm
theorem PartN.done {ls:ZA} {b n L:Nat} {o:Option (List Int)} {tot:Nat} (hL:1<=L) (p:PartN ls b n L L o tot):tot=many (gd ls b) n:=by
 rcases p with ⟨z,_⟩ | ⟨_,_,_,t⟩ | ⟨_,_,t⟩
 ·omega
 ·rw [t,Nat.sub_self,Nat.pow_zero,Nat.div_one,Nat.mul_one]
 ·exact t
def vec (b:Nat) (f:Nat->Nat):List V:=(List.range b).map λd=>V.int ((f d:Nat):Int)
theorem xZ (b:Nat) (f:Nat->Nat):(vec b f).length=b:=by unfold vec;rw [List.length_map,List.length_range]
theorem Yd {b d:Nat} {f:Nat->Nat} (h:d<b):(vec b f)[d]?=some (V.int ((f d:Nat):Int)):=by
 unfold vec
 rw [List.getElem?_map,List.getElem?_range h]
 rfl
theorem wV {b:Nat} {f g:Nat->Nat} (h:∀ d,d<b->f d=g d):vec b f=vec b g:=by
 unfold vec
 apply List.map_congr_left
 intro d hd
 rw [h d (List.mem_range.mp hd)]
theorem Wy (b:Nat):(List.replicate (b:Int).toNat [V.int 0]).flatten=vec b λ_=>0:=by
 rw [Int.toNat_natCast]
 unfold vec
 induction b with
 | zero=>rfl
 | succ b ih =>
  rw [List.range_succ,List.map_append,<- ih,List.replicate_succ']
  simp
theorem zdK {n a i:Nat} (h:a+i<n):ixN n ((a:Int)+(i:Int))=some (a+i):=by
 unfold ixN
 rw [if_pos (by omega),if_pos (by omega)]
 exact congrArg some (by omega)
theorem V6 {b c:Nat} {f:Nat->Nat} {v:Nat} (h:c<b):(vec b f).set c (V.int ((v:Nat):Int))=vec b λd=>if d=c then v else f d:=by
 apply List.ext_getElem?
 intro i
 rw [List.getElem?_set]
 by_cases hi:i<b
 ·rw [Yd (f:=λd=>if d=c then v else f d) hi]
  by_cases z:c=i
  ·subst z
   rw [if_pos rfl,if_pos (by rw [xZ];exact hi),if_pos rfl]
  ·rw [if_neg z,Yd hi,if_neg (λq=>z q.symm)]
 ·rw [List.getElem?_eq_none (by rw [xZ];omega),if_neg (by omega),List.getElem?_eq_none (by rw [xZ];omega)]
theorem J4 {K:W.Frag} {a b:Addr} {n:Nat} {f g:Nat->Nat} {ns:List Str} {js:List Nat} {gg:TG} {tt:TT} {te:TE} {Z:L2.St} {H:Hp} {Q:VK} (ha:H a=some (.lst (vec n f))) (hb:H b=some (.lst (vec n g))) (hn:n<=1000)
  (hs:∀ (i j:Nat) (T:Addr) (H1:Hp) (R:V->Hp->Prop) (E:Hp->Prop),H1 T=some (.tup [.int i,.int j])->R (.int ((i:Int)+(j:Int))) H1->gg (.ref T) (nones ns++yK js Z) H1 fun σ' H2=>(∃ vs:L2.St,vs.length=ns.length/\σ'=vs++yK js Z)/\tt σ' H2 λc H3=>if c=true then te σ' H3 λv H4=>R v H4 else E H3)
  (hd:∀ D H',H D=none->Same H H'->H' D=some (.lst (vec n λd=>f d+g d))->Q (.ref D) H'):Xu (Itz K a b) ns js gg tt te Z Q H:=by
 refine zc9 (xs:=vec n f) (ys:=vec n g) (λi zs H'=>zs=vec i (λd=>f d+g d)/\Same H H') (by rw [xZ,xZ]) ⟨rfl,Same.refl _⟩ (λi zs H' _ ⟨_,s⟩=>⟨SqL.of (s _ _ ha),SqL.of (s _ _ hb)⟩) ?_ ?_ ?_
 ·rintro i x y zs H' T hx hy ⟨rfl,s⟩ hT
  have hi:i<n:=by have:=(List.getElem?_eq_some_iff.mp hx).1;rwa [xZ] at this
  rw [Yd hi] at hx hy
  cases hx
  cases hy
  refine hs (f i) (g i) T _ _ _ zf ⟨?_,s.trans (zj hT)⟩
  unfold vec
  rw [List.range_succ,List.map_append]
  simp
 ·rintro i zs H' hi ⟨rfl,_⟩
  rw [xZ] at hi ⊢
  exact Nat.lt_of_le_of_lt (show i<=1000 by omega) (by decide)
 ·rintro zs H' ⟨rfl,s⟩ D hD
  rw [xZ]
  exact hd D _ (s.free hD) (s.trans (zj hD)) zf
theorem zen {c:Bool} {A B:Prop} (hc:c=false) (h:B):if c=true then A else B:=by rw [hc];exact xX h
theorem zcK {c:Bool} {A B:Prop} (hc:c=true) (h:A):if c=true then A else B:=by rw [hc];exact vL h
theorem Um {ls:ZA} (ne:∀ l∈ls,l≠[]) {x y:List Int} {c:Int} (h:aft ls x c=some y):lacks ls (x++[c])=true/\y=zO ls (x++[c])/\XS ls y:=by
 unfold aft at h
 by_cases hl:lacks ls (x++[c])=true
 ·rw [if_pos hl] at h
  cases h
  exact⟨hl,rfl,j7 ne hl⟩
 ·rw [if_neg hl] at h;cases h
theorem Uv {ls:ZA} {x:List Int} {c:Int} (h:aft ls x c=none):lacks ls (x++[c])=false:=by
 unfold aft at h
 cases hl:lacks ls (x++[c]) with
 | false=>rfl
 | true=>rw [if_pos hl] at h;cases h
def onO (ls:ZA) (b t:Nat) (x:List Int) (d a:Nat):Nat->Nat
 | 0=>0
 | n+1=>onO ls b t x d a n+stepT ls b (one d) 1 t (some x) (a+n)
theorem W6 (ls:ZA) (b t:Nat) (x:List Int) (d:Nat):∀ n,onO ls b t x d 0 n=tK ls b (one d) 1 t (some x) n
 | 0=>rfl
 | n+1=>by rw [onO,W6 ls b t x d n,qU,Nat.zero_add]
theorem zfc (ls:ZA) (b t:Nat) (x:List Int) (d:Nat):onO ls b t x d 0 b=tt ls b (one d) 1 (t+1) x:=by rw [W6];rfl
def zfz (ls:ZA) (b:Nat):zdt:=λH t x l=>∃ oa,H l=some (.lst [.int (cnt ls b t x:Nat),.ref oa])/\H oa=some (.lst (vec b λd=>tt ls b (one d) 1 t x))
structure RM (P:Program) (w:World) (H:Hp) (rd tl dd:Addr) (b:Nat) (ts:ZB) (md:Addr):Prop where
 R:Rdr P w H rd tl dd b ts
 M:MemD P w (zfz (ts.map (·.2)) b) H md (ts.map (·.2))
 ne:dd≠md
section
variable {P:Program} {w:World} {H H':Hp} {rd tl dd:Addr} {b:Nat} {ts:ZB} {md:Addr}
theorem RM.lst (m:RM P w H rd tl dd b ts md) {c:Addr} {xs:List V} (h:H c=some (.lst xs)):c≠dd/\c≠md:=⟨m.R.d.ne h (λ_ z=>nomatch z),m.M.ne h (λ_ z=>nomatch z)⟩
theorem RM.tup (m:RM P w H rd tl dd b ts md) {c:Addr} {xs:List V} (h:H c=some (.tup xs)):c≠dd/\c≠md:=⟨m.R.d.ne h (λ_ z=>nomatch z),m.M.ne h (λ_ z=>nomatch z)⟩
theorem RM.go (m:RM P w H rd tl dd b ts md) (s:SameM dd md H H') (d:RdD P w H' dd (ts.map (·.2)) b) (M:MemD P w (zfz (ts.map (·.2)) b) H' md (ts.map (·.2))):RM P w H' rd tl dd b ts md :=
 ⟨⟨⟨s _ _ (m.lst m.R.s.hd).1 (m.lst m.R.s.hd).2 m.R.s.hd,s _ _ (m.lst m.R.s.li).1 (m.lst m.R.s.li).2 m.R.s.li,λz hz=>s _ _ (m.tup (m.R.s.st z hz)).1 (m.tup (m.R.s.st z hz)).2 (m.R.s.st z hz)⟩,d,m.R.g⟩,M,m.ne⟩
theorem RM.sameD (m:RM P w H rd tl dd b ts md) (s:SameD dd H H') (d:RdD P w H' dd (ts.map (·.2)) b):RM P w H' rd tl dd b ts md:=by
 refine m.go (.ofD s) d ?_
 obtain⟨kvs,dn,mm⟩:=id m.M
 have e:H' md=H md:=by obtain⟨xs,q,_⟩:=dn;rw [q];exact s _ _ m.ne.symm q
 exact⟨kvs,dn.stay e λc xs h=>s _ _ (m.tup h).1 h,mm.same λt x l ⟨oa,h1,h2⟩=>⟨oa,s _ _ (m.lst h1).1 h1,s _ _ (m.lst h2).1 h2⟩⟩
theorem RM.same (m:RM P w H rd tl dd b ts md) (s:Same H H'):RM P w H' rd tl dd b ts md:=m.sameD (SameD.of s) (m.R.d.same s)
end
section
variable {P:Program} {w:World} {K:W.Frag} {mg:Str->Option Value} {base:Heap}
def w6 (P:Program) (w:World) (N:Nat):Sp:=λvs H Q _=>∃ (rd tl dd:Addr) (b:Nat) (ts:ZB) (sa:Addr) (x:List Int) (t:Nat) (md:Addr),vs=[.ref rd,.ref sa,.int t,.ref md]/\t<N/\RM P w H rd tl dd b ts md/\H sa=some (.tup (x.map V.int))/\XS (ts.map (·.2)) x /\
 ∀ l H',SameM dd md H H'->RM P w H' rd tl dd b ts md->zfz (ts.map (·.2)) b H' t x l->Q (.ref l) H'
def vN (P:Program) (w:World) (N:Nat):Sp:=λvs H Q _=>∃ (rd tl dd:Addr) (b:Nat) (ts:ZB) (sa:Addr) (x:List Int) (t:Nat) (ea md:Addr) (a e:Nat),vs=[.ref rd,.ref sa,.int ((t+1:Nat):Int),.ref ea,.ref md]/\t<N/\a<=b/\e<=b/\H ea=some (.lst [.int a,.int e])/\RM P w H rd tl dd b ts md/\H sa=some (.tup (x.map V.int))/\XS (ts.map (·.2)) x /\
 ∀ l oa H',SameM dd md H H'->RM P w H' rd tl dd b ts md->H' l=some (.lst [.int (uD (ts.map (·.2)) b t x a (e-a):Nat),.ref oa])->H' oa=some (.lst (vec b λd=>onO (ts.map (·.2)) b t x d a (e-a)))->Q (.ref l) H'
theorem xj:zF ["reader","stand","left","ends","memory","many","often","figure","behind","more","rest"] ["reader","stand","left","ends","memory"] (zu xN):={}
set_option maxHeartbeats 0 in
theorem XR {N:Nat} {k:Nat} {f f1 f2:Addr} {fd fd1 fd2:FuncData} (hN:N<=900) (hk:k<=2000) (D:Df K mg "_law_from" xN Ah f fd) (zV:Df K mg "_law_after" yE Ai f1 fd1) (vU:Df K mg "_law_oftens" wX Al f2 fd2) (wJ:FnOk P w K mg base CX0 (k+1) f2 fd2 Al (w6 P w N)) (T:Blt mg) (U:Vh mg):FnOk P w K mg base CX0 (k+2) f fd Ah (vN P w N):=by
 have qZ:FnOk P w K mg base CX0 1 f1 fd1 Ai (qJ P w):=ZG zV T
 refine D.fn.ok xj (λvs H Q E h=>?_) (λcdv A outer s H vs Q E hr h=>?_)
 ·obtain⟨rd,tl,dd,b,ts,sa,x,t,ea,md,a,n,rfl,_⟩:=h;rfl
 ·obtain⟨rd,tl,dd,b,ts,sa,x,t,ea,md,a,e,rfl,ht,hab,heb,hea,R,hsa,hx,kk⟩:=h
  obtain⟨n,en⟩:∃ n,n=e-a:=⟨_,rfl⟩
  rw [<- en] at kk
  have b2:=R.R.g.b2
  have b16:=R.R.g.b16
  have ne:∀ st∈ts.map (·.2),st≠[]:=λst h=>(R.R.g.st st h).ne
  refine⟨_,(zp (zB (i:=5) xj.nd rfl (Or.inl rfl) zm)
   (zp (zB (i:=6) xj.nd rfl (Or.inl rfl) (zA Vg (zZ (zc zm zg)) (zP (yo K) (pv 0) zm (λ_ _=>rfl))))
   (zp (yU PassesOwn.never rfl (Vc rfl T.n_range (zc (zP (yo K) (pv 3) zm (λ_ _=>rfl)) (zc (zP (yo K) (pv 3) zm (λ_ _=>rfl)) zg))) (zQ (i:=7) xj.nd rfl (Or.inl rfl))
    (zp (zB (i:=8) xj.nd rfl (Or.inl rfl) (zN zV qZ (hr.mono (by omega)) (zc (pv 0) (zc (pv 1) (zc (pv 7) zg)))))
    (zx (xr (ym W3 (pv 8) jW (ye _))
     (zp (Vm (zN vU wJ (hr.mono (by omega)) (zc (pv 0) (zc (pv 8) (zc (zA uc (pv 2) zm) (zc (pv 4) zg))))) (JB rfl (yG (zQ (i:=9) xj.nd rfl (Or.inl rfl)) (yG (zQ (i:=10) xj.nd rfl (Or.inl rfl)) qK))))
     (zp (zB (i:=5) xj.nd rfl (Or.inl rfl) (zA yq (pv 5) (pv 9)))
     (zp (Vt (i:=6) (show Zg (zu xN) _ ["one","other"] ["reader","stand","left","ends","memory","many","often","figure","behind","more","rest"] [] [] from {}) rfl xj.nd rfl (Or.inl rfl) (zbD K rfl U.n_zip (zc (pv 6) (zc (pv 10) zg))) (λ_ _ _ _=>(Jw K 2 rfl (yG (zQ (i:=0) (show List.Nodup (α:=Str) ["one","other"] by decide) rfl (.inl (lookup_relabel_local rfl)) (.inr (lookup_relabel_local rfl))) (yG (zQ (i:=1) (show List.Nodup (α:=Str) ["one","other"] by decide) rfl (.inl (lookup_relabel_local rfl)) (.inr (lookup_relabel_local rfl))) qK)))) (λ_ _ _ _=>yJ) (λ_ _ _ _=>(zA yq (pv 0) (pv 1))))
     (zx (Vm (zA yq (zP (yo K) (pv 6) (pv 7) (λ_ _=>rfl)) (pv 9)) (Jv (pv 6) (pv 7) set_list))))))
     yj))))
   (zx (zL (zZ (zc (pv 5) (zc (pv 6) zg)))))))),?_⟩
  refine⟨(by show 1<=sizeLine;decide),λz0 hz0=>?_⟩
  have mz:=zj hz0 (o:=.lst [.int 0])
  have Rz:=R.same mz
  refine⟨_,rfl,rd,_,_,.int b,rfl,rfl,SqL.of Rz.R.s.hd,rfl,z0,_,_,rfl,rfl,zf,by omega,by omega,(by show 1*_<=_;exact Nat.le_trans (show 1*(b:Int).toNat<=16 by omega) (by decide)),λo0 ho0=>?_⟩
  rw [Wy]
  have mo:=zj ho0 (o:=.lst (vec b λ_=>0))
  have Ro:=Rz.same mo
  have so:SameM dd md H (upd (upd H z0 (.lst [.int 0])) o0 (.lst (vec b λ_=>0))):=(SameM.of mz).trans (.of mo)
  have ho:(upd (upd H z0 (.lst [.int 0])) o0 (.lst (vec b λ_=>0))) o0=some (.lst (vec b λd=>onO (ts.map (·.2)) b t x d a 0)):=zf
  have heo:=(mz.trans mo) _ _ hea
  have hsao:=(mz.trans mo) _ _ hsa
  generalize upd (upd H z0 (.lst [.int 0])) o0 (.lst (vec b λ_=>0))=Hc at Ro so ho heo hsao
  refine⟨_,rfl,ea,_,_,.int a,rfl,rfl,SqL.of heo,rfl,_,rfl,ea,_,_,.int e,rfl,rfl,SqL.of heo,rfl,_,_,rfl,⟨by omega,by omega,by omega,by omega⟩,?_⟩
  rw [show ((e:Int)-(a:Int)).toNat=n by omega]
  refine yH (lo:=(a:Int)) (n:=n) (λi Z Hd=>∃ (oa:Addr) (v7 v8 v9 v10:Option V),Z=[some (.ref rd),some (.ref sa),some (.int ((t+1:Nat):Int)),some (.ref ea),some (.ref md),some (.int (uD (ts.map (·.2)) b t x a i:Nat)),some (.ref oa),v7,v8,v9,v10]/\Hd oa=some (.lst (vec b λd=>onO (ts.map (·.2)) b t x d a i))/\RM P w Hd rd tl dd b ts md/\SameM dd md Hc Hd) ⟨o0,_,_,_,_,rfl,ho,Ro,SameM.of (Same.refl _)⟩ ?_ ?_
  ·rintro i Z Hd hi ⟨oa,v7,v8,v9,v10,rfl,hoa,Rd,sd⟩
   have hib:a+i<b:=by omega
   have hsad:=sd _ _ (Ro.tup hsao).1 (Ro.tup hsao).2 hsao
   refine⟨_,rfl,_,rfl,_,rfl,rd,tl,dd,b,ts,sa,x,a+i,by rw [Int.natCast_add];rfl,Rd.R,hsad,hx,hib,λv He se rde av=>?_⟩
   have Re:=Rd.sameD se rde
   have sde:=sd.trans (.ofD se)
   have hoe:=se _ _ (Rd.lst hoa).1 hoa
   cases ha:aft (ts.map (·.2)) x ((a+i:Nat):Int) with
   | none =>
    rw [ha] at av
    obtain rfl:v=.non:=av
    refine⟨_,rfl,rfl,_,rfl,zen (by rw [decide_eq_true rfl];rfl) ⟨oa,some (.int ((a:Int)+(i:Int))),some .non,v9,v10,?_,?_,Re,sde⟩⟩
    ·rw [jL,show tV (ts.map (·.2)) b t (some x) (a+i)=0 by show (if lacks (ts.map (·.2)) (x++[((a+i:Nat):Int)])=true then _ else 0)=0;rw [if_neg (by rw [Uv ha];exact Bool.false_ne_true)],Nat.add_zero]
     rfl
    ·rw [hoe]
     congr 2
     apply wV
     intro d _
     rw [onO,show stepT (ts.map (·.2)) b (one d) 1 t (some x) (a+i)=0 by show (if lacks (ts.map (·.2)) (x++[((a+i:Nat):Int)])=true then _ else 0)=0;rw [if_neg (by rw [Uv ha];exact Bool.false_ne_true)],Nat.add_zero]
   | some y =>
    rw [ha] at av
    obtain⟨c,rfl,hc⟩:=av
    obtain⟨hl,hy,hys⟩:=Um ne ha
    refine⟨_,rfl,rfl,_,rfl,zcK (by rw [decide_eq_false (λz=>by cases z)];rfl) ?_⟩
    refine⟨_,rfl,_,rfl,_,rfl,_,_,rfl,rfl,_,rfl,rd,tl,dd,b,ts,c,y,t,md,by dsimp only;rw [show (((t+1:Nat):Int)-1)=(t:Int) by omega];rfl,ht,Re,hc,hys,λl Hf sf Rf hl'=>?_⟩
    obtain⟨ra,hl',hra⟩:=hl'
    have hof:=sf _ _ (Re.lst hoe).1 (Re.lst hoe).2 hoe
    refine⟨l,_,rfl,SqL.of hl',rfl,_,_,rfl,_,_,rfl,rfl,?_⟩
    refine⟨_,rfl,_,rfl,_,_,rfl,rfl,?_⟩
    refine⟨_,rfl,_,rfl,oa,ra,rfl,⟨_,SqL.of hof⟩,⟨_,SqL.of hra⟩,J4 hof hra (by omega) ?_ ?_⟩
    ·intro i j T H1 R' E' hT r
     refine⟨T,_,rfl,SqT.of hT,rfl,_,_,rfl,_,_,rfl,rfl,⟨[_,_],rfl,rfl⟩,?_⟩
     unfold jl
     dsimp only
     rw [if_pos rfl]
     exact⟨_,rfl,_,rfl,_,_,rfl,rfl,r⟩
    intro q Hg hq sg hqv
    have Rg:=Rf.same sg
    have hix:ixN (vec b λd=>onO (ts.map (·.2)) b t x d a i+tt (ts.map (·.2)) b (one d) 1 t y).length ((a:Int)+(i:Int))=some (a+i):=by
     rw [xZ]
     exact zdK hib
    refine⟨_,rfl,_,rfl,q,_,_,.int ((onO (ts.map (·.2)) b t x (a+i) a i+tt (ts.map (·.2)) b (one (a+i)) 1 t y:Nat):Int),rfl,rfl,SqL.of hqv,?_,_,rfl,_,_,rfl,rfl,_,rfl,_,rfl,q,_,_,a+i,rfl,rfl,hqv,hix,?_⟩
    ·rw [show (a:Int)+(i:Int)=((a+i:Nat):Int) by omega]
     exact yI (Yd hib)
    dsimp only
    have hqf:Hf q=none:=hq
    have sh:SameM dd md Hf (upd Hg q (.lst (vec b λd=>onO (ts.map (·.2)) b t x d a (i+1)))):=λc u _ _ h=>by rw [zq (zy h hqf)];exact sg _ _ h
    have Rh:RM P w (upd Hg q (.lst (vec b λd=>onO (ts.map (·.2)) b t x d a (i+1)))) rd tl dd b ts md:=Rf.same λc u h=>by rw [zq (zy h hqf)];exact sg _ _ h
    rw [show ((onO (ts.map (·.2)) b t x (a+i) a i+tt (ts.map (·.2)) b (one (a+i)) 1 t y:Nat):Int)+((cnt (ts.map (·.2)) b t y:Nat):Int)=((onO (ts.map (·.2)) b t x (a+i) a i+tt (ts.map (·.2)) b (one (a+i)) 1 t y+cnt (ts.map (·.2)) b t y:Nat):Int) from (Int.natCast_add _ _).symm,V6 hib,show (vec b λd=>if d=a+i then onO (ts.map (·.2)) b t x (a+i) a i+tt (ts.map (·.2)) b (one (a+i)) 1 t y+cnt (ts.map (·.2)) b t y else onO (ts.map (·.2)) b t x d a i+tt (ts.map (·.2)) b (one d) 1 t y)=vec b λd=>onO (ts.map (·.2)) b t x d a (i+1) from wV λd _=>by
     rw [onO,show stepT (ts.map (·.2)) b (one d) 1 t (some x) (a+i)=1^t*one d (a+i)*cnt (ts.map (·.2)) b t y+tt (ts.map (·.2)) b (one d) 1 t y by show (if lacks (ts.map (·.2)) (x++[((a+i:Nat):Int)])=true then _ else 0)=_;rw [if_pos hl,hy],Nat.one_pow,Nat.one_mul]
     unfold one
     by_cases z:d=a+i
     ·subst z
      rw [if_pos rfl,if_pos rfl,Nat.one_mul];omega
     ·rw [if_neg z,if_neg (λq=>z q.symm),Nat.zero_mul];omega]
    refine⟨q,some (.int ((a:Int)+(i:Int))),some (.ref c),some (.int (cnt (ts.map (·.2)) b t y:Nat)),some (.ref ra),?_,zf,Rh,(sde.trans sf).trans sh⟩
    rw [jL,show tV (ts.map (·.2)) b t (some x) (a+i)=cnt (ts.map (·.2)) b t y by show (if lacks (ts.map (·.2)) (x++[((a+i:Nat):Int)])=true then _ else 0)=_;rw [if_pos hl,hy]]
    rw [Int.natCast_add (uD _ _ _ _ _ _)]
    rfl
  ·rintro Z Hd ⟨oa,v7,v8,v9,v10,rfl,hoa,Rd,sd⟩
   refine⟨_,rfl,_,rfl,(by show 2<=sizeLine;decide),λl hl=>?_⟩
   have ml:=zj hl (o:=.lst [.int (uD (ts.map (·.2)) b t x a n:Nat),.ref oa])
   exact kk l oa _ ((so.trans sd).trans (.of ml)) (Rd.same ml) zf (ml _ _ hoa)
theorem Y7:zF ["reader","stand","left","memory"] ["reader","stand","left","memory"] (zu wX):={}
theorem YH {f f1 f2:Addr} {fd fd1 fd2:FuncData} (D:Df K mg "_law_oftens" wX Al f fd) (zV:Df K mg "_law_after" yE Ai f1 fd1) (yL:Df K mg "_law_from" xN Ah f2 fd2) (T:Blt mg) (U:Vh mg):∀ N,N<=400->FnOk P w K mg base CX0 (2*N+2) f fd Al (w6 P w N)
 | 0,_=>by
  refine D.fn.ok Y7 (λvs H Q E h=>?_) (λcdv A outer s H vs Q E hr h=>?_)
  ·obtain⟨rd,tl,dd,b,ts,sa,x,t,md,rfl,ht,_⟩:=h;omega
  ·obtain⟨rd,tl,dd,b,ts,sa,x,t,md,rfl,ht,_⟩:=h;omega
 | N+1,hN=>by
  have wJ:=YH D zV yL T U N (by omega)
  have vB:FnOk P w K mg base CX0 (2*N+1+2) f2 fd2 Ah (vN P w N):=XR (N:=N) (k:=2*N+1) (by omega) (by omega) yL zV D wJ T U
  refine D.fn.ok Y7 (λvs H Q E h=>?_) (λcdv A outer s H vs Q E hr h=>?_)
  ·obtain⟨rd,tl,dd,b,ts,sa,x,t,md,rfl,_⟩:=h;rfl
  obtain⟨rd,tl,dd,b,ts,sa,x,t,md,rfl,ht,R,hsa,hx,kk⟩:=h
  have b2:=R.R.g.b2
  have b16:=R.R.g.b16
  have hst4:∀ st∈ts.map (·.2),st.length<=4:=λst h=>(R.R.g.st st h).len
  have tupK:∀ {H1:Hp} {q:Addr},H1 sa=some (.tup (x.map V.int))->H1 q=none->NTup (upd H1 q (.tup [.ref sa,.int t])) (kW x t) q:=λ{H1 q} h hq=>⟨sa,zf,by rw [show (kW x t).1.map kV=x.map V.int from zeq x];exact zj hq _ _ h⟩
  refine⟨_,(zp (xr (ym ZP (pv 2) zm (ye _))
    (zx (zL (zZ (zc zm (zc (zA Vg (zZ (zc zm zg)) (zP (yo K) (pv 0) zm (λ_ _=>rfl))) zg)))))
    yj)
   (zp (xr (zei (Jr (X7 hr) (vd (zc (pv 1) (zc (pv 2) zg))) (pv 3)) (by with_unfolding_all rfl))
    (zx (zam (X7 hr) (pv 3) (vd (zc (pv 1) (zc (pv 2) zg))) (zN yL vB (hr.mono (by omega)) (zc (pv 0) (zc (pv 1) (zc (pv 2) (zc (zZ (zc zm (zc (zP (yo K) (pv 0) zm (λ_ _=>rfl)) zg))) (zc (pv 3) zg)))))) rfl))
    yj)
   (zx (zL (zb7 (X7 hr) (pv 3) (vd (zc (pv 1) (zc (pv 2) zg))) (λ_ _=>rfl)))))),?_⟩
  cases t with
  | zero =>
   refine⟨_,rfl,rfl,_,rfl,zcK (decide_eq_true rfl) ⟨(by show 1<=sizeLine;decide),λz0 hz0=>?_⟩⟩
   have mz:=zj hz0 (o:=.lst [.int 0])
   have Rz:=R.same mz
   refine⟨_,rfl,rd,_,_,.int b,rfl,rfl,SqL.of Rz.R.s.hd,rfl,z0,_,_,rfl,rfl,zf,by omega,by omega,(by show 1*_<=_;exact Nat.le_trans (show 1*(b:Int).toNat<=16 by omega) (by decide)),λo0 ho0=>?_⟩
   rw [Wy]
   have mo:=zj ho0 (o:=.lst (vec b λ_=>0))
   have Ro:=Rz.same mo
   refine⟨(by show 2<=sizeLine;decide),λl hl=>?_⟩
   have ml:=zj hl (o:=.lst [.int 1,.ref o0])
   exact kk l _ (.of ((mz.trans mo).trans ml)) (Ro.same ml) ⟨o0,zf,ml _ _ zf⟩
  | succ t =>
  refine⟨_,rfl,rfl,_,rfl,zen (decide_eq_false (λz=>by injection z with z;omega)) ?_⟩
  refine⟨_,rfl,_,rfl,(by show 2<=sizeLine;decide),λq1 hq1=>?_⟩
  have m1:=zj hq1 (o:=.tup [.ref sa,.int (t+1:Nat)])
  have R1:=R.same m1
  obtain⟨kvs,d1,t1⟩:=R1.M
  have nt1:=tupK hsa hq1
  have hsa1:=m1 _ _ hsa
  generalize upd H q1 (.tup [.ref sa,.int (t+1:Nat)])=H1 at m1 R1 d1 t1 nt1 hsa1
  have m0:SameM dd md H H1:=.of m1
  refine⟨_,rfl,md,kvs,kW x (t+1),q1,rfl,d1,rfl,nt1,_,rfl,?_⟩
  cases hv:wQ kvs (kW x (t+1)) with
  | some v =>
   refine xX ?_
   refine⟨_,rfl,_,rfl,_,rfl,(by show 2<=sizeLine;decide),λq2 hq2=>?_⟩
   have m2:=zj hq2 (o:=.tup [.ref sa,.int (t+1:Nat)])
   obtain⟨l,rfl,hE⟩:=t1.get hv
   refine⟨md,kvs,kW x (t+1),q2,.ref l,rfl,d1.same m2,rfl,tupK hsa1 hq2,hv,?_⟩
   obtain⟨oa,hE1,hE2⟩:=hE
   exact kk l _ (m0.trans (.of m2)) (R1.same m2) ⟨oa,m2 _ _ hE1,m2 _ _ hE2⟩
  | none =>
  refine vL ?_
  refine⟨_,rfl,_,rfl,_,rfl,_,rfl,rd,_,_,.int b,rfl,rfl,SqL.of R1.R.s.hd,rfl,(by show 2<=sizeLine;decide),λea hea=>?_⟩
  have m2:=zj hea (o:=.lst [.int 0,.int b])
  have R2:=R1.same m2
  refine⟨_,rfl,rd,tl,dd,b,ts,sa,x,t,ea,md,0,b,rfl,by omega,by omega,Nat.le_refl _,zf,R2,m2 _ _ hsa1,hx,λl oa Hc sc Rc hl hoa=>?_⟩
  have hsac:=sc _ _ (R2.tup (m2 _ _ hsa1)).1 (R2.tup (m2 _ _ hsa1)).2 (m2 _ _ hsa1)
  have s0c:=(m0.trans (.of m2)).trans sc
  obtain⟨ks,dc,tc⟩:=Rc.M
  rw [Nat.sub_zero,Zn,zcW] at hl
  have eoa:(vec b λd=>onO (ts.map (·.2)) b t x d 0 (b-0))=vec b λd=>tt (ts.map (·.2)) b (one d) 1 (t+1) x:=wV λd _=>by rw [Nat.sub_zero,zfc]
  rw [eoa] at hoa
  refine⟨_,rfl,_,rfl,_,rfl,(by show 2<=sizeLine;decide),λq3 hq3=>?_⟩
  have m3:=zj hq3 (o:=.tup [.ref sa,.int (t+1:Nat)])
  refine⟨md,ks,kW x (t+1),q3,rfl,dc.same m3,rfl,tupK hsac hq3,Nat.lt_of_le_of_lt (tc.len R.R.g.len hst4) (by decide),λH4 d4 c4=>?_⟩
  have R3:=Rc.same m3
  have hsa3:=m3 _ _ hsac
  have hl3:=m3 _ _ hl
  have hoa3:=m3 _ _ hoa
  have t3:=tc.same (H':=upd Hc q3 (.tup [.ref sa,.int (t+1:Nat)])) λ_ _ _ ⟨q,h1,h2⟩=>⟨q,m3 _ _ h1,m3 _ _ h2⟩
  have s3:SameM dd md H (upd Hc q3 (.tup [.ref sa,.int (t+1:Nat)])):=s0c.trans (.of m3)
  generalize upd Hc q3 (.tup [.ref sa,.int (t+1:Nat)])=H3 at R3 hsa3 hl3 hoa3 t3 s3 c4
  have s34:SameM dd md H3 H4:=λc u _ hc h=>by rw [c4 c hc];exact h
  have R4:RM P w H4 rd tl dd b ts md:=by
   refine R3.go s34 ?_ ⟨_,d4,?_⟩
   ·obtain⟨k5,d5,t5⟩:=R3.R.d
    exact⟨k5,d5.stay (c4 dd R3.ne) λc xs h=>s34 _ _ (R3.tup h).1 (R3.tup h).2 h,t5.same λc xs h=>s34 _ _ (R3.tup h).1 (R3.tup h).2 h⟩
   ·exact (t3.same λ_ _ _ ⟨q,h1,h2⟩=>⟨q,s34 _ _ (R3.lst h1).1 (R3.lst h1).2 h1,s34 _ _ (R3.lst h2).1 (R3.lst h2).2 h2⟩).put hx (by omega) (by omega) ⟨oa,s34 _ _ (R3.lst hl3).1 (R3.lst hl3).2 hl3,s34 _ _ (R3.lst hoa3).1 (R3.lst hoa3).2 hoa3⟩
  refine⟨_,rfl,_,rfl,_,rfl,(by show 2<=sizeLine;decide),λq5 hq5=>?_⟩
  have m5:=zj hq5 (o:=.tup [.ref sa,.int (t+1:Nat)])
  refine⟨md,_,kW x (t+1),q5,_,rfl,d4.same m5,rfl,tupK (s34 _ _ (R3.tup hsa3).1 (R3.tup hsa3).2 hsa3) hq5,by rw [za7,if_pos rfl],?_⟩
  exact kk l _ ((s3.trans s34).trans (.of m5)) (R4.same m5) ⟨oa,m5 _ _ (s34 _ _ (R3.lst hl3).1 (R3.lst hl3).2 hl3),m5 _ _ (s34 _ _ (R3.lst hoa3).1 (R3.lst hoa3).2 hoa3)⟩
end
def vR (ls:ZA) (b d n:Nat):Nat:=tot (gd ls b) (fw (one d) 1 b) n
def hdO (b n k d:Nat):Nat:=((zR b n).take k).count (d:Int)
theorem zeP {b n L k:Nat} (h2:2<=b) (hn:0<n) (hL:(zR b n).length=L) (hk:k<L) (d:Nat):ahd (one d) 1 b (n / b^(L-k))=hdO b n k d:=by
 unfold hdO ahd
 by_cases k0:k=0
 ·subst k0
  rw [Nat.sub_zero,if_pos (Nat.div_eq_of_lt (xG h2 hL))]
  rfl
 ·have hm:1<=n / b^(L-k):=by
   have h3:b^(L-k)<=n:=by
    obtain⟨j,j1,j2⟩:=zae h2 n
    rw [Xk h2 j1 j2] at hL
    rcases j2 with j2 | j2
    ·omega
    ·exact Nat.le_trans (Nat.pow_le_pow_right (by omega) (by omega)) j2
   exact Nat.div_pos h3 (Nat.pow_pos (by omega))
  rw [if_neg (by omega)]
  have e:=Z5 h2 hm (L-k) (n % b^(L-k)) (Nat.mod_lt _ (Nat.pow_pos (by omega)))
  rw [Nat.mul_comm,Nat.div_add_mod] at e
  have el:(zR b (n / b^(L-k))).length=k:=by
   have:=congrArg List.length e
   rw [List.length_append,WF,hL] at this
   omega
  rw [Wc d _ (λf hf=>(ZR h2 _ f hf).1),e,List.take_append_of_le_length (by omega),List.take_of_length_le (by omega)]
theorem zbM (ls:ZA) (b d t:Nat):stepT ls b (one d) 1 t none 0=ttO ls b (one d) 1 t:=by unfold stepT;exact if_pos rfl
theorem zc1 (ls:ZA) (b d t n:Nat):stepT ls b (one d) 1 t none (n+1)=stepT ls b (one d) 1 t (some []) (n+1):=by
 unfold stepT
 dsimp only
 rw [if_neg (by omega)]
 rfl
theorem XX (ls:ZA) (b d t:Nat):∀ n,ttO ls b (one d) 1 t+onO ls b t [] d 1 n=tK ls b (one d) 1 t none (n+1)
 | 0=>by
  rw [qU,onO,zbM]
  show ttO ls b (one d) 1 t+0=0+_
  omega
 | n+1=>by
  rw [qU,<- XX ls b d t n,onO,zc1,Nat.add_comm 1 n]
  omega
def Q8 (ls:ZA) (b d t:Nat):Nat:=onO ls b t [] d 1 (b-1)
theorem zcB (ls:ZA) {b:Nat} (h2:2<=b) (d t:Nat):ttO ls b (one d) 1 t+Q8 ls b d t=ttO ls b (one d) 1 (t+1):=by
 unfold Q8
 rw [XX,show b-1+1=b by omega]
 rfl
theorem Uh (ls:ZA) {b:Nat} (h2:2<=b) (d:Nat):∀ m,ttO ls b (one d) 1 0+((List.range m).map λt=>Q8 ls b d t).sum=ttO ls b (one d) 1 m
 | 0=>rfl
 | m+1=>by
  have ih:=Uh ls h2 d m
  rw [List.range_succ,List.map_append,List.sum_append,<- zcB ls h2 d m,<- ih]
  simp
  omega
def PartO (ls:ZA) (b n L k d:Nat) (o:Option (List Int)) (f:Nat):Prop :=
 (∃ c,PartN ls b n L k o c)/\((k=0/\f=ttO ls b (one d) 1 (L-1))\/(1<=k/\o≠none/\f=vR ls b d (n / b^(L-k)*b^(L-k)))\/(1<=k/\o=none/\f=vR ls b d n))
theorem PartO.next {ls:ZA} (ne:∀ l∈ls,l≠[]) {b n L k d:Nat} {x:List Int} {f:Nat} (h2:2<=b) (hn:0<n) (hL:(zR b n).length=L) (hk:k<L) (p:PartO ls b n L k d (some x) f) {c:Nat} (hc:(zR b n)[k]?=some (c:Int)) :
  c<b/\(k=0->1<=c)/\n / b^(L-1-k)=n / b^(L-k)*b+c/\PartO ls b n L (k+1) d (aft ls x c) (f+onO ls b (L-1-k) x d (if k=0 then 1 else 0) (c-(if k=0 then 1 else 0))+uD ls b (L-1-k) x (if k=0 then 1 else 0) (c-(if k=0 then 1 else 0))*hdO b n k d):=by
 obtain⟨⟨t0,pN⟩,pS⟩:=p
 have ec:c=(n / b^(L-1-k)) % b:=by
  rw [U5 h2 hL hk] at hc
  have hc:((n / b^(L-1-k) % b:Nat):Int)=(c:Int):=by simpa using hc
  omega
 have et:L-k=L-1-k+1:=by omega
 have htop:n / b^(L-1-k)=n / b^(L-k)*b+c:=by rw [et,ec];exact Uy (by omega)
 obtain⟨hcb,hc1,pN'⟩:=pN.next ne h2 hn hL hk hc
 obtain⟨o,R,hor⟩:=pN.rep h2 hn hL hk
 refine⟨hcb,hc1,htop,⟨_,pN'⟩,?_⟩
 have hu:=Wq ne h2 R (L-1-k) (s:=c) (by omega)
 have hT:=X6 ne h2 R (L-1-k) (w:=one d) (sc:=1) (s:=c) (by omega)
 change vR ls b d _+_=vR ls b d _ at hT
 rw [zeP h2 hn hL hk d,Nat.one_pow,Nat.one_mul] at hT
 rw [<- et,<- htop] at hu hT
 have eL:L-(k+1)=L-1-k:=by omega
 have key:f+onO ls b (L-1-k) x d (if k=0 then 1 else 0) (c-(if k=0 then 1 else 0))+uD ls b (L-1-k) x (if k=0 then 1 else 0) (c-(if k=0 then 1 else 0))*hdO b n k d=vR ls b d (n / b^(L-1-k)*b^(L-1-k))/\t0+uD ls b (L-1-k) x (if k=0 then 1 else 0) (c-(if k=0 then 1 else 0))=many (gd ls b) (n / b^(L-1-k)*b^(L-1-k)):=by
  rcases hor with ⟨rfl,rfl,rfl,rfl⟩ | ⟨h1,rfl,rfl⟩
  ·rw [if_pos rfl]
   have hc1:=hc1 rfl
   have q:=Yo ls b (L-1) (c-1)
   have q2:=XX ls b d (L-1) (c-1)
   have zh:hdO b n 0 d=0:=rfl
   rw [show c-1+1=c by omega] at q q2
   have e0:L-1-0=L-1:=Nat.sub_zero _
   have z:n / b^(L-0)=0:=Nat.div_eq_of_lt (xG h2 hL)
   rw [e0] at hu hT ⊢
   rw [z] at hu hT
   rw [zh] at hT ⊢
   rcases pS with ⟨_,rfl⟩ | ⟨h,_⟩ | ⟨h,_⟩
   ·simp only [Nat.zero_mul,Nat.mul_zero,Nat.add_zero,Nat.zero_add] at hu hT ⊢
    have z1:many (gd ls b) 0=0:=rfl
    have z2:vR ls b d 0=0:=rfl
    omega
   ·omega
   ·omega
  ·rw [if_neg (by omega),Nat.sub_zero,Zn,W6]
   rcases pS with ⟨h,_⟩ | ⟨_,_,rfl⟩ | ⟨_,h,_⟩
   ·omega
   ·refine⟨?_,hu⟩
    rw [<- hT,Nat.mul_comm (under _ _ _ _ _)]
    omega
   ·cases h
 obtain⟨k1,k2⟩:=key
 rw [k1]
 cases ha:aft ls x c with
 | some y=>exact .inr (.inl ⟨by omega,by simp,by rw [eL]⟩)
 | none =>
  refine .inr (.inr ⟨by omega,rfl,?_⟩)
  rw [ha,k2] at pN'
  rcases pN' with ⟨h,_⟩ | ⟨_,_,h,_⟩ | ⟨_,_,h⟩
  ·omega
  ·cases h
  ·exact (zaT (Nat.div_mul_le_self _ _) h).symm
theorem PartO.done {ls:ZA} {b n L d:Nat} {o:Option (List Int)} {f:Nat} (hL:1<=L) (p:PartO ls b n L L d o f):f=vR ls b d n:=by
 rcases p.2 with ⟨z,_⟩ | ⟨_,_,t⟩ | ⟨_,_,t⟩
 ·omega
 ·rw [t,Nat.sub_self,Nat.pow_zero,Nat.div_one,Nat.mul_one]
 ·exact t
def InvO (ls:ZA) (b n L k d:Nat) (o:Option (List Int)) (f:Nat):Prop:=(n=0/\f=0)\/(0<n/\PartO ls b n L k d o f)
theorem InvO.next {ls:ZA} (ne:∀ l∈ls,l≠[]) {b n L k d:Nat} {x:List Int} {f:Nat} (h2:2<=b) (hL:(zR b n).length=L) (hk:k<L) (p:InvO ls b n L k d (some x) f) {c:Nat} (hc:(zR b n)[k]?=some (c:Int)) :
  c<b/\n / b^(L-1-k)=n / b^(L-k)*b+c/\InvO ls b n L (k+1) d (aft ls x c) (f+onO ls b (L-1-k) x d (if k=0 then 1 else 0) (c-(if k=0 then 1 else 0))+uD ls b (L-1-k) x (if k=0 then 1 else 0) (c-(if k=0 then 1 else 0))*hdO b n k d):=by
 rcases p with ⟨rfl,rfl⟩ | ⟨h0,p⟩
 ·rw [zY (show 0<b by omega)] at hc hL
  have hL1:L=1:=by rw [<- hL];rfl
  have hk0:k=0:=by omega
  subst hL1 hk0
  have hc0:c=0:=by
   have:((0:Nat):Int)=(c:Int):=by simpa using hc
   omega
  subst hc0
  refine⟨by omega,by simp,.inl ⟨rfl,?_⟩⟩
  rw [if_pos rfl,show (0-1:Nat)=0 from rfl,onO,show uD ls b (1-1-0) x 1 0=0 from rfl]
  simp
 ·obtain⟨h1,_,h3,h4⟩:=p.next ne h2 h0 hL hk hc
  exact⟨h1,h3,.inr ⟨h0,h4⟩⟩
theorem InvO.stay {ls:ZA} {b n L k d:Nat} {f:Nat} (p:InvO ls b n L k d none f):InvO ls b n L (k+1) d none f:=by
 rcases p with h | ⟨h0,⟨c,pN⟩,pS⟩
 ·exact .inl h
 ·rcases pN with ⟨_,z,_⟩ | ⟨_,_,z,_⟩ | ⟨h1,_,h3⟩
  ·cases z
  ·cases z
  ·refine .inr ⟨h0,⟨c,.inr (.inr ⟨by omega,rfl,h3⟩)⟩,?_⟩
   rcases pS with ⟨z,_⟩ | ⟨_,z,_⟩ | ⟨_,_,z⟩
   ·omega
   ·exact absurd rfl z
   ·exact .inr (.inr ⟨by omega,rfl,z⟩)
theorem InvO.done {ls:ZA} {b n L d:Nat} {o:Option (List Int)} {f:Nat} (hL:1<=L) (p:InvO ls b n L L d o f):f=vR ls b d n:=by
 rcases p with ⟨rfl,rfl⟩ | ⟨_,p⟩
 ·rfl
 ·exact p.done hL
theorem InvO.start {ls:ZA} {b n L d:Nat} (h2:2<=b) (hL:(zR b n).length=L):InvO ls b n L 0 d (some []) ((if 0<n then ttO ls b (one d) 1 0 else 0)+((List.range (L-1)).map λt=>Q8 ls b d t).sum):=by
 by_cases h0:n=0
 ·subst h0
  rw [zY (show 0<b by omega)] at hL
  have hL1:L=1:=by rw [<- hL];rfl
  subst hL1
  exact .inl ⟨rfl,rfl⟩
 ·exact .inr ⟨by omega,⟨_,.inl ⟨rfl,rfl,rfl⟩⟩,.inl ⟨rfl,by rw [if_pos (by omega)];exact Uh ls h2 d _⟩⟩
end Lw
namespace L2
open PySem PySem.Spec PyProof.Rows
def zhr (t:TS):TS:=λD Z H=>∃ P:St->Hp->Prop,t { D with nx:=P } Z H/\∀ σ' H',P σ' H'->D.nx σ' H'
theorem zby {X:Cx} {st:Stmt} {t:TS} (h:PS X st t):PS X st (zhr t):=by
 intro pins s Z H D I hw
 obtain⟨P,h1,h2⟩:=hw
 refine thn (h pins s Z H _ I h1) λf s1 q=>?_
 cases f with
 | next=>obtain⟨σ',H',I',q⟩:=q;exact⟨σ',H',I',h2 _ _ q⟩
 | ret v=>exact q
 | brk=>exact q
 | cont=>exact q
end L2
namespace Lw
open PySem L2 PyProof.Rows
section
variable {P:Program} {w:World} {K:W.Frag} {mg:Str->Option Value} {base:Heap}
def wN:Sp:=λvs H Q _=>∃ b n:Nat,vs=[.int b,.int n]/\2<=b/\b<=16/\n<2^900 /\
 ∀ l H',H l=none->H' l=some (.lst ((zR b n).map V.int))->Same H H'->Q (.ref l) H'
theorem jt:zF ["base","n","found"] ["base","n"] (zu xn):={}
theorem ur {f:Addr} {fd:FuncData} (D:Df K mg "_law_figures" xn Ad f fd) (T:Blt mg):FnOk P w K mg base CX0 1 f fd Ad wN:=by
 refine D.fn.ok jt (λvs H Q E h=>?_) (λcdv A outer s H vs Q E hr h=>?_)
 ·obtain⟨b,n,rfl,_⟩:=h;rfl
 ·obtain⟨b,n,rfl,h2,h16,hn,k⟩:=h
  refine⟨_,(zp (zB (i:=2) jt.nd rfl (Or.inl rfl) (zZ (zc (zA yp (pv 1) (pv 0)) zg)))
   (zp (Wx PassesOwn.never (ym zdQ (pv 1) (pv 0) (ye _))
    (zp (zB (i:=1) jt.nd rfl (Or.inl rfl) (zA vh (pv 1) (pv 0)))
    (zx (xP (Zq PySem.F.plainAttrs_list PySem.F.slot_list_append PySem.F.type_list_append xF (pv 2) (zc (zA yp (pv 1) (pv 0)) zg))))))
   (zx (zL (zaY (pv 2)))))),?_⟩
  refine⟨_,rfl,_,rfl,_,_,rfl,rfl,(by omega:(0:Int)<b),(by decide:1<=sizeLine),λl hl=>?_⟩
  have hlen:=jY h2 900 n hn
  refine WT (λZ H2=>∃ (r:Nat) (L:List Int),Z=[some (.int b),some (.int r),some (.ref l)]/\H2 l=some (.lst (L.map V.int))/\Same H H2/\zR b n=ahead b (r / b)++L.reverse)
   (λZ _=>match Z with | [_,some (.int r),_]=>r.toNat | _=>0) ?_ ?_ ?_
  ·refine⟨n,[((n % b:Nat):Int)],rfl,?_,zj hl,?_⟩
   ·rw [zf];simp
   ·rw [Vf h2];simp
  ·rintro Z H2 ⟨r,L,rfl,hL,sH,he⟩
   refine⟨_,rfl,_,rfl,_,_,rfl,rfl,_,rfl,?_⟩
   refine J5 (λh1=>?_) (λh1=>?_)
   ·have hr0:b<=r:=by have:=of_decide_eq_true h1;omega
    have hrb:0<r / b:=Nat.div_pos hr0 (by omega)
    have hLl:L.length<=901:=by
     have:=congrArg List.length he
     rw [List.length_append,List.length_reverse] at this
     omega
    refine⟨_,rfl,_,rfl,_,_,rfl,rfl,⟨by omega,by omega⟩,?_⟩
    refine⟨_,rfl,.inl ⟨rfl,_,SqL.of hL⟩,_,rfl,_,rfl,_,_,rfl,rfl,(by omega:(0:Int)<b),l,_,_,rfl,rfl,hL,by rw [List.length_map];exact Nat.lt_of_le_of_lt hLl (by decide),?_⟩
    refine⟨⟨r / b,L++[((r / b % b:Nat):Int)],?_,?_,?_,?_⟩,?_⟩
    ·simp
    ·rw [zf];simp
    ·exact λb' o e=>by rw [zq (zy e hl)];exact sH b' o e
    ·rw [he,Uo h2 hrb,List.reverse_append];simp
    ·show ((r:Int) / (b:Int)).toNat<(r:Int).toNat
     have:r / b<r:=Nat.div_lt_self (by omega) (by omega)
     omega
   ·have hr0:r<b:=by
     by_cases z:r<b
     ·exact z
     ·exact absurd (decide_eq_true (by omega:(b:Int)<=r)) h1
    refine⟨_,rfl,l,_,rfl,SqL.of hL,λq hq=>?_⟩
    refine k q _ (sH.free hq) ?_ (sH.trans (zj hq))
    rw [zf,he,Nat.div_eq_of_lt hr0]
    simp [ahead]
  ·intro Z H2 Q Q' hq
   rintro⟨v,e,v2,e2,i,j,e3,e4,k,e5,q⟩
   exact⟨v,e,v2,e2,i,j,e3,e4,k,e5,hq _ _ q⟩
end
abbrev zay:=List (Addr×Addr×Nat×(Nat->Nat))
def RowsO (H:Hp) (b:Nat) (rs:zay):Prop:=∀ r∈rs,H r.1=some (.lst [.int ((r.2.2.1:Nat):Int),.ref r.2.1])/\H r.2.1=some (.lst (vec b r.2.2.2))
def JR (rs:zay) (d:Nat):Nat:=(rs.map λr=>r.2.2.2 d).sum
theorem Va (rs:zay) (r:Addr×Addr×Nat×(Nat->Nat)) (d:Nat):JR (rs++[r]) d=JR rs d+r.2.2.2 d:=by
 unfold JR
 rw [List.map_append,List.sum_append]
 simp
def refs (rs:zay):List V:=rs.map λr=>V.ref r.1
theorem RowsO.keep {H H':Hp} {b:Nat} {rs:zay} (h:RowsO H b rs) (s:∀ c xs,H c=some (.lst xs)->(∃ i ys,xs=V.int i :: ys)->H' c=some (.lst xs)) (hb:1<=b):RowsO H' b rs:=λr hr=>by
 obtain⟨h1,h2⟩:=h r hr
 refine⟨s _ _ h1 ⟨_,_,rfl⟩,s _ _ h2 ?_⟩
 cases b with
 | zero=>omega
 | succ b=>exact⟨_,_,by unfold vec;rw [List.range_succ_eq_map,List.map_cons]⟩
theorem V9 {b:Nat} {f:Nat->Nat} (hb:1<=b):∃ i ys,vec b f=V.int i :: ys:=by
 cases b with
 | zero=>omega
 | succ b=>exact⟨_,_,by unfold vec;rw [List.range_succ_eq_map,List.map_cons]⟩
theorem zcs (rs:zay):∀ i ys,refs rs≠V.int i :: ys:=λi ys e=>by
 cases rs with
 | nil=>cases e
 | cons r rs=>injection e with e;cases e
theorem zba {α:Type} (f:α->Nat):∀ l:List α,(l.map λr=>((f r:Nat):Int)).sum=(((l.map f).sum:Nat):Int)
 | []=>rfl
 | a :: l=>by rw [List.map_cons,List.sum_cons,List.map_cons,List.sum_cons,zba f l,Int.natCast_add]
theorem za6 (ls:ZA) (b t:Nat) (x:List Int) (a:Nat):∀ n,uD ls b t x a n<=n*b^t
 | 0=>by rw [Nat.zero_mul];exact Nat.le_refl _
 | n+1=>by
  have h:tV ls b t (some x) (a+n)<=b^t:=by
   show (if lacks ls (x++[((a+n:Nat):Int)])=true then _ else 0)<=_
   split
   ·exact zag _ _ _ _
   ·exact Nat.zero_le _
  rw [jL,Nat.succ_mul]
  exact Nat.add_le_add (za6 ls b t x a n) h
section
variable {P:Program} {w:World} {H H':Hp} {rd tl dd:Addr} {b:Nat} {ts:ZB} {md:Addr}
theorem RM.updR (m:RM P w H rd tl dd b ts md) {fa:Addr} {xs ys:List V} (hf:H fa=some (.lst xs)) (hx:∀ i zs,xs≠V.int i :: zs) (ht:fa≠tl):RM P w (upd H fa (.lst ys)) rd tl dd b ts md:=by
 have b2:=m.R.g.b2
 have ki:∀ c zs,H c=some (.lst zs)->(∃ i us,zs=V.int i :: us)->upd H fa (.lst ys) c=some (.lst zs):=λc zs h ⟨i,us,e⟩=>by
  rw [zq (λz=>by rw [z,hf] at h;cases h;exact hx _ _ e)]
  exact h
 have kt:∀ c zs,H c=some (.tup zs)->upd H fa (.lst ys) c=some (.tup zs):=λc zs h=>by
  rw [zq (λz=>by rw [z,hf] at h;cases h)]
  exact h
 have kd:∀ c φ,H c=some (.ext φ)->upd H fa (.lst ys) c=H c:=λc φ h=>by
  rw [zq (λz=>by rw [z,hf] at h;cases h)]
 refine⟨⟨⟨ki _ _ m.R.s.hd ⟨_,_,rfl⟩,by rw [zq (λz=>ht z.symm)];exact m.R.s.li,λt h=>kt _ _ (m.R.s.st t h)⟩,?_,m.R.g⟩,?_,m.ne⟩
 ·obtain⟨kvs,d,t⟩:=m.R.d
  have d0:=d
  obtain⟨_,e,_⟩:=d0
  exact⟨kvs,d.stay (kd _ _ e) kt,t.same kt⟩
 ·obtain⟨kvs,d,t⟩:=m.M
  have d0:=d
  obtain⟨_,e,_⟩:=d0
  exact⟨kvs,d.stay (kd _ _ e) kt,t.same λ_ _ _ ⟨oa,h1,h2⟩=>⟨oa,ki _ _ h1 ⟨_,_,rfl⟩,ki _ _ h2 (V9 (by omega))⟩⟩
theorem Rdr.updF (R:Rdr P w H rd tl dd b ts) {fa:Addr} {xs ys:List V} (hf:H fa=some (.lst xs)) (hr:fa≠rd) (ht:fa≠tl):Rdr P w (upd H fa (.lst ys)) rd tl dd b ts:=by
 have kt:∀ c zs,H c=some (.tup zs)->upd H fa (.lst ys) c=some (.tup zs):=λc zs h=>by
  rw [zq (λz=>by rw [z,hf] at h;cases h)]
  exact h
 refine⟨⟨by rw [zq (λz=>hr z.symm)];exact R.s.hd,by rw [zq (λz=>ht z.symm)];exact R.s.li,λt h=>kt _ _ (R.s.st t h)⟩,?_,R.g⟩
 obtain⟨kvs,d,t⟩:=R.d
 have d0:=d
 obtain⟨_,e,_⟩:=d0
 exact⟨kvs,d.stay (by rw [zq (λz=>by rw [z,hf] at e;cases e)]) kt,t.same kt⟩
end
section
variable {P:Program} {w:World} {K:W.Frag} {mg:Str->Option Value} {base:Heap}
def wj (P:Program) (w:World) (N:Nat):Sp:=λvs H Q _=>∃ (rd tl dd:Addr) (b:Nat) (ts:ZB) (n:Nat),vs=[.ref rd,.int n]/\n<2^900/\(zR b n).length<=N/\Rdr P w H rd tl dd b ts/\∀ oa H',SameD dd H H'->RdD P w H' dd (ts.map (·.2)) b->H' oa=some (.lst (vec b λd=>vR (ts.map (·.2)) b d n))->Q (.ref oa) H'
theorem zG:zF ["reader","n","base","figures","memory","found","rows","stand","at","own","many","often","begun"] ["reader","n"] (zu yh):={}
set_option maxHeartbeats 0 in
theorem Xe {N k:Nat} {f f1 f2 f3:Addr} {fd fd1 fd2 fd3:FuncData} (hN:N<=400) (D:Df K mg "_law_often_below" yh Ar f fd) (yd:Df K mg "_law_figures" xn Ad f1 fd1) (zV:Df K mg "_law_after" yE Ai f2 fd2) (yL:Df K mg "_law_from" xN Ah f3 fd3) (vB:FnOk P w K mg base CX0 (k+2) f3 fd3 Ah (vN P w N)) (T:Blt mg) (U:Vh mg):FnOk P w K mg base CX0 (k+3) f fd Ar (wj P w N):=by
 have wU:FnOk P w K mg base CX0 1 f1 fd1 Ad wN:=ur yd T
 have qZ:FnOk P w K mg base CX0 1 f2 fd2 Ai (qJ P w):=ZG zV T
 refine D.fn.ok zG (λvs H Q E h=>?_) (λcdv A outer s H vs Q E hr h=>?_)
 ·obtain⟨rd,tl,dd,b,ts,n,rfl,_⟩:=h;rfl
 ·obtain⟨rd,tl,dd,b,ts,n,rfl,hn,hNn,R,kk⟩:=h
  have b2:=R.g.b2
  have b16:=R.g.b16
  have ne:∀ st∈ts.map (·.2),st≠[]:=λst h=>(R.g.st st h).ne
  refine⟨_,(zp (zB (i:=2) zG.nd rfl (Or.inr rfl) (zP (yo K) (pv 0) zm (λ_ _=>rfl)))
   (zp (zB (i:=3) zG.nd rfl (Or.inr rfl) (zN yd wU (hr.mono (by omega)) (zc (pv 2) (zc (pv 1) zg))))
   (zp (zB (i:=4) zG.nd rfl (Or.inr rfl) zcr)
   (zp (zB (i:=5) zG.nd rfl (Or.inl rfl) (zA Vg (zZ (zc zm zg)) (pv 2)))
   (zp (zby (Vm (vV Z0 (by rfl) T.n_int boot_int (zc (jq (xT za9 (pv 1) zm (ye _)) (jj (xT W3 (zN zV qZ (hr.mono (by omega)) (zc (pv 0) (zc (vd zg) (zc zm zg)))) jW (ye _)))) zg)) (Jv (pv 5) zm set_list)))
   (zp (qw (i:=6) (show CScope (zu yh) _ "length" ["reader","n","base","figures","memory","found","rows","stand","at","own","many","often","begun"] ["reader","memory","base"] [0,4,2] from {}) rfl zG.nd rfl (Or.inl rfl) (Vc rfl T.n_range (zc zm (zc (zE (xQ K) (by rfl) T.n_len PySem.boot_len (zc (pv 3) zg)) zg))) (λ_ _ _ _=>yJ) (λ_ _ _ _=>(zN yL vB (hr.mono (by omega)) (zc (pv 1) (zc (vd zg) (zc (pv 0) (zc (zZ (zc zm (zc (pv 3) zg))) (zc (pv 2) zg))))))))
   (zp (zB (i:=7) zG.nd rfl (Or.inl rfl) (vd zg))
   (zp (yU PassesOwn.never rfl (V7 K rfl T.n_enumerate (zc (pv 3) zg)) (J3 rfl (yG (zQ (i:=8) zG.nd rfl (Or.inr rfl)) (yG (zQ (i:=9) zG.nd rfl (Or.inl rfl)) qK)))
    (zx (xr (ym W3 (pv 7) jW (ye _))
     (zp (Vm (zN yL vB (hr.mono (by omega)) (zc (pv 0) (zc (pv 7) (zc (zA uc (zE (xQ K) (by rfl) T.n_len PySem.boot_len (zc (pv 3) zg)) (pv 8)) (zc (zZ (zc (vV Z0 (by rfl) T.n_int boot_int (zc (xT ZP (pv 8) zm (ye _)) zg)) (zc (pv 9) zg))) (zc (pv 4) zg)))))) (JB rfl (yG (zQ (i:=10) zG.nd rfl (Or.inr rfl)) (yG (zQ (i:=11) zG.nd rfl (Or.inl rfl)) qK))))
     (zp (qw (i:=12) (show CScope (zu yh) _ "figure" ["reader","n","base","figures","memory","found","rows","stand","at","own","many","often","begun"] ["many","figures","at"] [10,3,8] from {}) rfl zG.nd rfl (Or.inl rfl) (yg rfl T.n_range (zc (pv 2) zg)) (λ_ _ _ _=>yJ) (λ_ _ _ _=>(zA zb1 (pv 1) (zgv K PySem.F.plainAttrs_list PySem.F.slot_list_count PySem.F.type_list_count (zdL K) (wz (Xb K) (pv 2) uW (wF (pv 3))) (zc (pv 0) zg)))))
     (zp (xP (Zq PySem.F.plainAttrs_list PySem.F.slot_list_append PySem.F.type_list_append xF (pv 6) (zc (zZ (zc (pv 10) (zc (zaN (show Zg (zu yh) _ ["one","other"] ["reader","n","base","figures","memory","found","rows","stand","at","own","many","often","begun"] [] [] from {}) rfl (zbD K rfl U.n_zip (zc (pv 11) (zc (pv 12) zg))) (λ_ _ _ _=>(Jw K 2 rfl (yG (zQ (i:=0) (show List.Nodup (α:=Str) ["one","other"] by decide) rfl (.inl (lookup_relabel_local rfl)) (.inr (lookup_relabel_local rfl))) (yG (zQ (i:=1) (show List.Nodup (α:=Str) ["one","other"] by decide) rfl (.inl (lookup_relabel_local rfl)) (.inr (lookup_relabel_local rfl))) qK)))) (λ_ _ _ _=>yJ) (λ_ _ _ _=>(zA yq (pv 0) (pv 1)))) zg))) zg)))
     (zx (zB (i:=7) zG.nd rfl (Or.inl rfl) (zN zV qZ (hr.mono (by omega)) (zc (pv 0) (zc (pv 7) (zc (pv 9) zg)))))))))
     yj)))
   (zp (yU PassesOwn.never rfl (Yt K (pv 6)) (JB rfl (yG (zQ (i:=10) zG.nd rfl (Or.inr rfl)) (yG (zQ (i:=11) zG.nd rfl (Or.inl rfl)) qK)))
    (zx (Vt (i:=5) (show Zg (zu yh) _ ["one","other"] ["reader","n","base","figures","memory","found","rows","stand","at","own","many","often","begun"] [] [] from {}) rfl zG.nd rfl (Or.inl rfl) (zbD K rfl U.n_zip (zc (pv 5) (zc (pv 11) zg))) (λ_ _ _ _=>(Jw K 2 rfl (yG (zQ (i:=0) (show List.Nodup (α:=Str) ["one","other"] by decide) rfl (.inl (lookup_relabel_local rfl)) (.inr (lookup_relabel_local rfl))) (yG (zQ (i:=1) (show List.Nodup (α:=Str) ["one","other"] by decide) rfl (.inl (lookup_relabel_local rfl)) (.inr (lookup_relabel_local rfl))) qK)))) (λ_ _ _ _=>yJ) (λ_ _ _ _=>(zA yq (pv 0) (pv 1))))))
   (zx (zL (pv 5)))))))))))),?_⟩
  refine⟨_,rfl,rd,_,_,.int b,rfl,rfl,SqL.of R.s.hd,rfl,_,rfl,_,rfl,b,n,rfl,b2,b16,hn,λl H1 hl hL s1=>?_⟩
  have R1:=R.same s1
  obtain⟨L,eL⟩:∃ L,(zR b n).length=L:=⟨_,rfl⟩
  have hL1:1<=L:=by rw [<- eL];exact List.length_pos_iff.mpr zb8
  refine λmd H2 hmd dn c2=>?_
  have s12:Same H1 H2:=λc u e=>by rw [c2 c (zy e hmd)];exact e
  have hmd0:H md=none:=s1.free hmd
  have R2:=R1.same s12
  have hdm:dd≠md:=λz=>by
   obtain⟨_,⟨_,e,_⟩,_⟩:=R1.d
   rw [z,hmd] at e;cases e
  have s02:=s1.trans s12
  have hL2:=s12 _ _ hL
  refine⟨(by show 1<=sizeLine;decide),λz0 hz0=>?_⟩
  have mz:=zj hz0 (o:=.lst [.int 0])
  refine⟨_,rfl,z0,_,_,rfl,rfl,zf,by omega,by omega,(by show 1*_<=_;exact Nat.le_trans (show 1*(b:Int).toNat<=16 by omega) (by decide)),λfa hfa=>?_⟩
  rw [Wy]
  have mf:=zj hfa (o:=.lst (vec b λ_=>0))
  have hfa2:H2 fa=none:=mz.free hfa
  have s23:=mz.trans mf
  have R3:=R2.same s23
  have dn3:DN P w (upd (upd H2 z0 (.lst [.int 0])) fa (.lst (vec b λ_=>0))) md []:=dn.same s23
  have hf3:(upd (upd H2 z0 (.lst [.int 0])) fa (.lst (vec b λ_=>0))) fa=some (.lst (vec b λ_=>0)):=zf
  generalize upd (upd H2 z0 (.lst [.int 0])) fa (.lst (vec b λ_=>0))=H3 at s23 R3 dn3 hf3
  have hfrd:fa≠rd:=λz=>by have:=R2.s.hd;rw [<- z,hfa2] at this;cases this
  have hftl:fa≠tl:=λz=>by have:=R2.s.li;rw [<- z,hfa2] at this;cases this
  obtain⟨f0,ef0⟩:∃ f0:Nat->Nat,f0=λd=>if 0<n then ttO (ts.map (·.2)) b (one d) 1 0 else 0:=⟨_,rfl⟩
  refine⟨λZ H5=>Z=[some (.ref rd),some (.int n),some (.int b),some (.ref l),some (.ref md),some (.ref fa),none,none,none,none,none,none,none]/\RM P w H5 rd tl dd b ts md/\SameD dd H H5/\H5 l=some (.lst ((zR b n).map V.int))/\H5 fa=some (.lst (vec b f0)),?_,?_⟩
  ·by_cases h0:0<n
   case' pos =>
    refine⟨_,rfl,_,_,rfl,rfl,_,rfl,?_⟩
    rw [decide_eq_true (show (0:Int)<(n:Int) by omega)]
    refine vL ⟨_,rfl,(by decide:0<=sizeLine),λe0 he0=>?_⟩
    have m4:=zj he0 (o:=.tup [])
    refine⟨rd,tl,dd,b,ts,e0,[],0,rfl,R3.same m4,zf,.inl rfl,by omega,λv H4 s4 r4 av=>?_⟩
    have s34:SameD dd H3 H4:=(SameD.of m4).trans s4
    have R4:=R3.sameD s34 r4
    have ev:decide (v=V.non)=!lacks (ts.map (·.2)) [0]:=by
     cases ha:aft (ts.map (·.2)) [] (0:Nat) with
     | none =>
      rw [ha] at av
      obtain rfl:v=.non:=av
      rw [decide_eq_true rfl,show lacks (ts.map (·.2)) [0]=false from Uv ha];rfl
     | some y =>
      rw [ha] at av
      obtain⟨c,rfl,_⟩:=av
      rw [decide_eq_false (λz=>by cases z),show lacks (ts.map (·.2)) [0]=true from (Um ne ha).1];rfl
    refine⟨rfl,.inr ⟨_,rfl,?_⟩⟩
    rw [ev,Bool.not_not]
    have hf4:=s34 _ _ (R3.d.ne hf3 λ_ z=>nomatch z) hf3
    refine⟨_,rfl,fa,_,_,0,rfl,rfl,hf4,by rw [xZ];unfold ixN;rw [if_pos (by omega),if_pos (by omega)];rfl,?_⟩
    rw [show (V.int (if lacks (ts.map (·.2)) [0]=true then 1 else 0))=V.int (((if lacks (ts.map (·.2)) [0]=true then 1 else 0:Nat)):Int) by split<;>rfl,V6 (by omega),show (vec b λd=>if d=0 then (if lacks (ts.map (·.2)) [0]=true then 1 else 0:Nat) else 0)=vec b f0 from wV λd _=>by
     rw [ef0]
     show _=if 0<n then one d 0*ug (ts.map (·.2)) b 0 else 0
     rw [if_pos h0]
     unfold one
     by_cases z:d=0
     ·subst z
      rw [if_pos rfl,if_pos rfl,Nat.one_mul]
      rfl
     ·rw [if_neg z,if_neg (λq=>z q.symm),Nat.zero_mul]]
   case' neg =>
    refine⟨_,rfl,_,_,rfl,rfl,_,rfl,?_⟩
    rw [decide_eq_false (show ¬ (0:Int)<(n:Int) by omega)]
    have s34:SameD dd H3 H3:=SameD.of (Same.refl _)
    have R4:=R3
    have hf4:=hf3
    obtain⟨H4,eH4⟩:∃ H4:Hp,H4=H3:=⟨_,rfl⟩
    rw [<- eH4] at R4 hf4
    rw [show SameD dd H3 H3↔SameD dd H3 H4 by rw [eH4]] at s34
    rw [<- eH4]
    refine xX (.inr ⟨_,rfl,?_⟩)
    refine⟨_,rfl,fa,_,_,0,rfl,rfl,hf4,by rw [xZ];unfold ixN;rw [if_pos (by omega),if_pos (by omega)];rfl,?_⟩
    rw [show (V.int (if false=true then 1 else 0))=V.int ((0:Nat):Int) from rfl,V6 (by omega),show (vec b λd=>if d=0 then (0:Nat) else 0)=vec b f0 from wV λd _=>by
     rw [ef0]
     show _=if 0<n then _ else 0
     rw [if_neg h0]
     split<;>rfl]
   all_goals
    have R5':=R4.updF (ys:=vec b f0) hf4 hfrd hftl
    have keep4:∀ c u,c≠dd->H2 c=some u->upd H4 fa (.lst (vec b f0)) c=some u:=λc u hc e=>by rw [zq (zy e hfa2)];exact s34 _ _ hc (s23 _ _ e)
    have R5:RM P w (upd H4 fa (.lst (vec b f0))) rd tl dd b ts md:=⟨R5',⟨[],by
     have dn':=dn
     obtain⟨_,e,_⟩:=dn'
     exact dn.stay (by rw [e];exact keep4 _ _ hdm.symm e) λc xs h=>keep4 _ _ (R2.d.ne h λ_ z=>nomatch z) h,Mem.nil⟩,hdm⟩
    have sd5:SameD dd H (upd H4 fa (.lst (vec b f0))):=λc u hc e=>keep4 c u hc (s02 _ _ e)
    have hL5:=keep4 _ _ (R2.d.ne hL2 λ_ z=>nomatch z) hL2
    have hf5:(upd H4 fa (.lst (vec b f0))) fa=some (.lst (vec b f0)):=zf
    generalize upd H4 fa (.lst (vec b f0))=H5 at R5 sd5 hL5 hf5
    exact⟨rfl,R5,sd5,hL5,hf5⟩
  rintro Z H5 ⟨rfl,R5,sd5,hL5,hf5⟩
  have ltr:∀ {c:Addr} {xs:List V} {Ha Hb:Hp},RM P w Ha rd tl dd b ts md->SameM dd md Ha Hb->Ha c=some (.lst xs)->Hb c=some (.lst xs):=λ{c xs Ha Hb} r s h=>s _ _ (r.lst h).1 (r.lst h).2 h
  have out:∀ {Ha Hb:Hp},SameD dd H Ha->SameM dd md Ha Hb->SameD dd H Hb:=λ{Ha Hb} a s c u hc e=>s c u hc (zy e hmd0) (a c u hc e)
  refine⟨_,rfl,l,_,rfl,.inl (SqL.of hL5),1,_,rfl,by rw [List.length_map];omega,?_⟩
  rw [List.length_map,eL,show ((L:Int)-1).toNat=L-1 by omega]
  refine wK (lo:=1) (n:=L-1) (λi ys Hc=>∃ rs:zay,ys=refs rs/\rs.length=i/\RowsO Hc b rs/\(∀ d,JR rs d=((List.range i).map λt=>Q8 (ts.map (·.2)) b d t).sum)/\RM P w Hc rd tl dd b ts md/\SameM dd md H5 Hc) ⟨[],rfl,rfl,(λr h=>nomatch h),(λd=>rfl),R5,.of (Same.refl _)⟩ ?_ ?_
  ·rintro i ys Hc hi ⟨rs,rfl,hrl,hrs,hsum,Rc,sc⟩
   refine⟨by unfold refs;rw [List.length_map];exact Nat.lt_of_le_of_lt (show rs.length<=1000 by omega) (by decide),?_⟩
   unfold jl
   dsimp only
   rw [if_pos rfl]
   refine⟨_,rfl,(by decide:0<=sizeLine),λe0 he0=>⟨_,rfl,_,rfl,(by show 2<=sizeLine;decide),λea hea=>⟨_,rfl,?_⟩⟩⟩
   have m0:=zj he0 (o:=.tup [])
   have ma:=zj hea (o:=.lst [.int 1,.int b])
   refine⟨rd,tl,dd,b,ts,e0,[],i,ea,md,1,b,by rw [show (1:Int)+(i:Int)=((i+1:Nat):Int) by omega];rfl,by omega,by omega,Nat.le_refl _,zf,(Rc.same m0).same ma,ma _ _ zf,.inl rfl,λl' oa Hd sd Rd hl' hoa=>?_⟩
   have scd:=((SameM.of (dd:=dd) (md:=md) m0).trans (.of ma)).trans sd
   refine⟨rs++[(l',oa,uD (ts.map (·.2)) b i [] 1 (b-1),λd=>onO (ts.map (·.2)) b i [] d 1 (b-1))],by unfold refs;rw [List.map_append];rfl,by rw [List.length_append,hrl];rfl,λr hr=>?_,λd=>?_,Rd,sc.trans scd⟩
   ·rcases List.mem_append.mp hr with h | h
    ·exact⟨ltr Rc scd (hrs r h).1,ltr Rc scd (hrs r h).2⟩
    ·rw [List.mem_singleton.mp h];exact⟨hl',hoa⟩
   ·rw [Va,hsum,List.range_succ,List.map_append,List.sum_append]
    simp [Q8]
  rintro ys Hc ⟨rs,rfl,hrl,hrs,hsum,Rc,sc⟩ ra hra
  have mD:=zj hra (o:=.lst (refs rs))
  have hratl:ra≠tl:=λz=>by have:=Rc.R.s.li;rw [<- z,hra] at this;cases this
  have hral:ra≠l:=λz=>by have:=ltr R5 sc hL5;rw [<- z,hra] at this;cases this
  have hraf:ra≠fa:=λz=>by have:=ltr R5 sc hf5;rw [<- z,hra] at this;cases this
  have hra0:∀ c u,c≠dd->H c=some u->c≠ra:=λc u hc e=>zy (out sd5 sc c u hc e) hra
  have R6:=Rc.same mD
  have s56:=sc.trans (.of mD)
  have sd6:=out sd5 s56
  have hL6:=ltr R5 s56 hL5
  have hf6:=ltr R5 s56 hf5
  have hr6:(upd Hc ra (.lst (refs rs))) ra=some (.lst (refs rs)):=zf
  have hrs6:RowsO (upd Hc ra (.lst (refs rs))) b rs:=λr h=>⟨mD _ _ (hrs r h).1,mD _ _ (hrs r h).2⟩
  generalize upd Hc ra (.lst (refs rs))=H6 at R6 sd6 hL6 hf6 hr6 hrs6
  refine⟨(by decide:0<=sizeLine),λe1 he1=>?_⟩
  have m7:=zj he1 (o:=.tup [])
  have he17:(upd H6 e1 (.tup [])) e1=some (.tup (([]:List Int).map V.int)):=zf
  have R7:=R6.same m7
  have sd7:SameD dd H (upd H6 e1 (.tup [])):=out sd6 (.of m7)
  have hL7:=m7 _ _ hL6
  have hf7:=m7 _ _ hf6
  have hr7:=m7 _ _ hr6
  have hrs7:RowsO (upd H6 e1 (.tup [])) b rs:=λr h=>⟨m7 _ _ (hrs6 r h).1,m7 _ _ (hrs6 r h).2⟩
  generalize upd H6 e1 (.tup [])=H7 at he17 R7 sd7 hL7 hf7 hr7 hrs7
  refine⟨_,rfl,l,rfl,⟨_,SqL.of hL7⟩,UJ (K:=K) (a:=l) (xs:=(zR b n).map V.int) (λk Z Hc=>∃ (sv:V) (rs:zay) (o:Option (List Int)) (v8 v9 v10 v11 v12:Option V),Z=[some (.ref rd),some (.int n),some (.int b),some (.ref l),some (.ref md),some (.ref fa),some (.ref ra),some sv,v8,v9,v10,v11,v12]/\(∀ d,InvO (ts.map (·.2)) b n L k d o (f0 d+JR rs d))/\AftV Hc o sv/\(∀ x,o=some x->XS (ts.map (·.2)) x)/\rs.length<=L-1+k/\RowsO Hc b rs/\Hc ra=some (.lst (refs rs))/\Hc l=some (.lst ((zR b n).map V.int))/\Hc fa=some (.lst (vec b f0))/\RM P w Hc rd tl dd b ts md/\SameD dd H Hc)
   ⟨.ref e1,rs,some [],none,none,none,none,none,rfl,(λd=>by rw [ef0,hsum];exact InvO.start b2 eL),⟨e1,rfl,he17⟩,(λx e=>by cases e;exact .inl rfl),by omega,hrs7,hr7,hL7,hf7,R7,sd7⟩ (λk Z Hc _ ⟨_,_,_,_,_,_,_,_,_,_,_,_,_,_,_,h,_⟩=>SqL.of h) ?_ ?_⟩
  ·rintro k z Z Hc tq hkz ⟨sv,rs,o,v8,v9,v10,v11,v12,rfl,pI,av,ist,hrl,hrs,hrc,hLc,hfc,Rc,sdc⟩ htq
   rw [List.getElem?_map] at hkz
   obtain⟨ci,hki,e⟩:=Option.map_eq_some_iff.mp hkz
   subst e
   have hkL:k<L:=by rw [<- eL];exact (List.getElem?_eq_some_iff.mp hki).1
   obtain⟨c,rfl⟩:∃ c:Nat,ci=(c:Int):=by
    have:=ZR b2 n ci (List.mem_of_getElem? hki)
    exact⟨ci.toNat,by omega⟩
   have m8:=zj htq (o:=.tup [.int (k:Nat),.int c])
   refine⟨tq,_,rfl,SqT.of zf,rfl,_,_,rfl,_,_,rfl,rfl,?_⟩
   have av8:=av.same λb xs e=>m8 _ _ e
   have R8:=Rc.same m8
   have sd8:SameD dd H (upd Hc tq (.tup [.int (k:Nat),.int c])):=out sdc (.of m8)
   have hL8:=m8 _ _ hLc
   have hf8:=m8 _ _ hfc
   have hr8:=m8 _ _ hrc
   have hrs8:RowsO (upd Hc tq (.tup [.int (k:Nat),.int c])) b rs:=λr h=>⟨m8 _ _ (hrs r h).1,m8 _ _ (hrs r h).2⟩
   generalize upd Hc tq (.tup [.int (k:Nat),.int c])=H8 at av8 R8 sd8 hL8 hf8 hr8 hrs8
   cases o with
   | none =>
    obtain rfl:sv=.non:=av8
    exact⟨_,rfl,rfl,_,rfl,zen (by rw [decide_eq_true rfl];rfl) ⟨.non,rs,none,_,_,_,_,_,rfl,λd=>(pI d).stay,rfl,(λx e=>by cases e),by omega,hrs8,hr8,hL8,hf8,R8,sd8⟩⟩
   | some x =>
    obtain⟨sa,rfl,hsa⟩:=av8
    have hx:=ist x rfl
    have hcb:=((pI 0).next ne b2 eL hkL hki).1
    have pI':=λd=>((pI d).next ne b2 eL hkL hki).2.2
    refine⟨_,rfl,rfl,_,rfl,zcK (by rw [decide_eq_false (λz=>by cases z)];rfl) ?_⟩
    have hint:(if decide (V.int ((k:Nat):Int)=V.int 0)=true then (1:Int) else 0)=(((if k=0 then 1 else 0:Nat)):Int):=by
     by_cases z:k=0
     ·subst z;rfl
     ·rw [if_neg z,if_neg (by rw [decide_eq_false (λq=>by injection q with q;omega)];exact Bool.false_ne_true)];rfl
    refine⟨_,rfl,_,rfl,_,rfl,l,_,rfl,.inl (SqL.of hL8),_,rfl,_,_,rfl,rfl,_,rfl,rfl,.inr ⟨_,rfl,_,rfl,(by show 2<=sizeLine;decide),λea hea=>⟨_,rfl,?_⟩⟩⟩
    rw [hint]
    have ma:=zj hea (o:=.lst [.int ((if k=0 then 1 else 0:Nat):Int),.int c])
    have Ra:=R8.same ma
    have hsaa:=ma _ _ hsa
    refine⟨rd,tl,dd,b,ts,sa,x,L-1-k,ea,md,(if k=0 then 1 else 0),c,by dsimp only;rw [List.length_map,eL,show (L:Int)-(k:Int)=((L-1-k+1:Nat):Int) by omega];rfl,by omega,by split<;>omega,by omega,zf,Ra,hsaa,hx,λl' oa H9 s9 R9 hl' hoa=>?_⟩
    have s89:=(SameM.of (dd:=dd) (md:=md) ma).trans s9
    generalize hA:(if k=0 then 1 else 0:Nat)=a0 at hl' hoa pI'
    have hsa9:=s9 _ _ (Ra.tup hsaa).1 (Ra.tup hsaa).2 hsaa
    have sd9:=out sd8 s89
    have hL9:=ltr R8 s89 hL8
    have hf9:=ltr R8 s89 hf8
    have hr9:=ltr R8 s89 hr8
    have hrs9:RowsO H9 b rs:=λr h=>⟨ltr R8 s89 (hrs8 r h).1,ltr R8 s89 (hrs8 r h).2⟩
    have hS0:uD (ts.map (·.2)) b (L-1-k) x a0 (c-a0)<=16*2^(4*900):=by
     refine Nat.le_trans (za6 _ _ _ _ _ _) (Nat.mul_le_mul (by omega) ?_)
     have h3:b^(L-1-k)<=16^900:=Nat.le_trans (Nat.pow_le_pow_left b16 _) (Nat.pow_le_pow_right (by decide) (by omega))
     rwa [show (16:Nat)=2^4 from rfl,<- Nat.pow_mul] at h3
    generalize hS:uD (ts.map (·.2)) b (L-1-k) x a0 (c-a0)=S0 at hl' pI' hS0
    refine⟨l',_,rfl,SqL.of hl',rfl,_,_,rfl,_,_,rfl,rfl,?_⟩
    refine⟨_,rfl,b,rfl,by omega,by omega,wK (lo:=0) (n:=(b:Int).toNat) (λj ys Hd=>ys=vec j (λd=>S0*hdO b n k d)/\Same H9 Hd) ⟨rfl,Same.refl _⟩ ?_ ?_⟩
    ·rintro j ys Hd hj ⟨rfl,sd⟩
     refine⟨by rw [xZ];exact Nat.lt_of_le_of_lt (show j<=1000 by omega) (by decide),?_⟩
     unfold jl
     dsimp only
     rw [if_pos rfl]
     refine⟨_,rfl,_,rfl,_,rfl,_,rfl,l,_,rfl,SqL.of (sd _ _ hL9),λq hq=>?_⟩
     have mq:=zj hq (o:=.lst (uV ((zR b n).map V.int) none (some (k:Int))))
     have eq:uV ((zR b n).map V.int) none (some (k:Int))=((zR b n).take k).map V.int:=by rw [qu,List.map_take]
     refine⟨.inl ⟨rfl,_,SqL.of zf⟩,_,rfl,q,(zR b n).take k,_,rfl,rfl,by rw [eq];exact SqL.of zf,_,_,rfl,rfl,⟨?_,?_⟩,?_,sd.trans mq⟩
     ·rw [Int.natAbs_natCast]
      exact Nat.lt_of_le_of_lt hS0 (by rw [show (16:Nat)=2^4 from rfl,<- Nat.pow_add];exact Nat.pow_lt_pow_right (by decide) (by decide))
     ·rw [Int.natAbs_natCast]
      refine Nat.lt_of_le_of_lt (List.count_le_length ..) (Nat.lt_of_le_of_lt (show _<=2^9 from ?_) (Nat.pow_lt_pow_right (by decide) (by decide)))
      rw [List.length_take];omega
     ·unfold vec
      rw [List.range_succ,List.map_append,Int.zero_add]
      congr 1
    rintro ys Hd ⟨rfl,sd⟩ bg hbg
    rw [Int.toNat_natCast]
    have mb:=sd.trans (zj hbg (o:=.lst (vec b λd=>S0*hdO b n k d)))
    have hbv:(upd Hd bg (.lst (vec b λd=>S0*hdO b n k d))) bg=some (.lst (vec b λd=>S0*hdO b n k d)):=zf
    generalize upd Hd bg (.lst (vec b λd=>S0*hdO b n k d))=H10 at mb hbv
    have hr10:=mb _ _ hr9
    refine⟨_,rfl,.inl ⟨rfl,_,SqL.of hr10⟩,_,rfl,_,rfl,_,rfl,oa,bg,rfl,⟨_,SqL.of (mb _ _ hoa)⟩,⟨_,SqL.of hbv⟩,J4 (mb _ _ hoa) hbv (by omega) ?_ ?_⟩
    ·intro i j T H1 R' E' hT r
     refine⟨T,_,rfl,SqT.of hT,rfl,_,_,rfl,_,_,rfl,rfl,⟨[_,_],rfl,rfl⟩,?_⟩
     unfold jl
     dsimp only
     rw [if_pos rfl]
     exact⟨_,rfl,_,rfl,_,_,rfl,rfl,r⟩
    intro ql H11 hql s11 hqv
    refine⟨(by show 2<=sizeLine;decide),λl2 hl2=>?_⟩
    have ml:=zj hl2 (o:=.lst [.int (S0:Nat),.ref ql])
    have sAll:=(mb.trans s11).trans ml
    have hl2v:(upd H11 l2 (.lst [.int (S0:Nat),.ref ql])) l2=some (.lst [.int (S0:Nat),.ref ql]):=zf
    have hq12:=ml _ _ hqv
    generalize upd H11 l2 (.lst [.int (S0:Nat),.ref ql])=H12 at sAll hl2v hq12
    have hr12:=sAll _ _ hr9
    have R12:=R9.same sAll
    have R13:RM P w (upd H12 ra (.lst (refs rs++[.ref l2]))) rd tl dd b ts md:=R12.updR hr12 (zcs rs) hratl
    have ki:∀ {c xs},H12 c=some (.lst xs)->(∃ i ys,xs=V.int i :: ys)->upd H12 ra (.lst (refs rs++[.ref l2])) c=some (.lst xs):=λ{c xs} h ⟨i,ys,e⟩=>by
     rw [zq (λz=>by rw [z,hr12] at h;cases h;exact zcs rs _ _ e)]
     exact h
    refine⟨ra,_,_,rfl,rfl,hr12,by unfold refs;rw [List.length_map];exact Nat.lt_of_le_of_lt (show rs.length<=1000 by omega) (by decide),?_⟩
    have hrs13:RowsO (upd H12 ra (.lst (refs rs++[.ref l2]))) b (rs++[(l2,ql,S0,λd=>onO (ts.map (·.2)) b (L-1-k) x d a0 (c-a0)+S0*hdO b n k d)]):=λr h=>by
     rcases List.mem_append.mp h with h | h
     ·exact⟨ki (sAll _ _ (hrs9 r h).1) ⟨_,_,rfl⟩,ki (sAll _ _ (hrs9 r h).2) (V9 (by omega))⟩
     ·rw [List.mem_singleton.mp h]
      exact⟨ki hl2v ⟨_,_,rfl⟩,ki hq12 (V9 (by omega))⟩
    have hr13:(upd H12 ra (.lst (refs rs++[.ref l2]))) ra=some (.lst (refs (rs++[(l2,ql,S0,λd=>onO (ts.map (·.2)) b (L-1-k) x d a0 (c-a0)+S0*hdO b n k d)]))):=by rw [zf];unfold refs;rw [List.map_append];rfl
    have hL13:(upd H12 ra (.lst (refs rs++[.ref l2]))) l=some (.lst ((zR b n).map V.int)):=by rw [zq (λz=>hral z.symm)];exact sAll _ _ hL9
    have hf13:(upd H12 ra (.lst (refs rs++[.ref l2]))) fa=some (.lst (vec b f0)):=by rw [zq (λz=>hraf z.symm)];exact sAll _ _ hf9
    have hsa13:(upd H12 ra (.lst (refs rs++[.ref l2]))) sa=some (.tup (x.map V.int)):=by
     rw [zq (λz=>by have:=sAll _ _ hsa9;rw [z,hr12] at this;cases this)]
     exact sAll _ _ hsa9
    have sd13:SameD dd H (upd H12 ra (.lst (refs rs++[.ref l2]))):=λc u hc e=>by
     rw [zq (hra0 c u hc e)]
     exact sAll _ _ (sd9 c u hc e)
    generalize upd H12 ra (.lst (refs rs++[.ref l2]))=H13 at R13 hrs13 hr13 hL13 hf13 hsa13 sd13
    refine⟨_,rfl,_,rfl,_,rfl,rd,tl,dd,b,ts,sa,x,c,rfl,R13.R,hsa13,hx,hcb,λv H14 s14 r14 av14=>?_⟩
    have sm14:SameM dd md H13 H14:=.ofD s14
    refine⟨v,_,aft (ts.map (·.2)) x c,_,_,_,_,_,rfl,λd=>?_,av14,λy e=>(Um ne e).2.2,?_,(λr h=>⟨ltr R13 sm14 (hrs13 r h).1,ltr R13 sm14 (hrs13 r h).2⟩),ltr R13 sm14 hr13,ltr R13 sm14 hL13,ltr R13 sm14 hf13,R13.sameD s14 r14,out sd13 sm14⟩
    ·rw [Va]
     have:=pI' d
     rwa [show f0 d+(JR rs d+(onO (ts.map (·.2)) b (L-1-k) x d a0 (c-a0)+S0*hdO b n k d))=f0 d+JR rs d+onO (ts.map (·.2)) b (L-1-k) x d a0 (c-a0)+S0*hdO b n k d by omega]
    ·rw [List.length_append]
     show rs.length+1<=_
     omega
  ·rintro Z Hc ⟨sv,rs,o,v8,v9,v10,v11,v12,rfl,pI,av,ist,hrl,hrs,hrc,hLc,hfc,Rc,sdc⟩
   rw [List.length_map,eL] at pI
   refine⟨_,rfl,ra,rfl,⟨_,SqL.of hrc⟩,Z6 (K:=K) (a:=ra) (xs:=refs rs) (λi Z Hd=>∃ (oa:Addr) (v8 v9 v10 v11 v12:Option V),Z=[some (.ref rd),some (.int n),some (.int b),some (.ref l),some (.ref md),some (.ref oa),some (.ref ra),some sv,v8,v9,v10,v11,v12]/\Hd oa=some (.lst (vec b λd=>f0 d+JR (rs.take i) d))/\Same Hc Hd) ⟨fa,_,_,_,_,_,rfl,hfc,Same.refl _⟩ (λi Z Hd _ ⟨_,_,_,_,_,_,_,_,s⟩=>SqL.of (s _ _ hrc)) ?_ ?_⟩
   ·rintro i z Z Hd hz ⟨oa,v8,v9,v10,v11,v12,rfl,hoa,sd⟩
    unfold refs at hz
    rw [List.getElem?_map] at hz
    obtain⟨r,hri,rfl⟩:=Option.map_eq_some_iff.mp hz
    obtain⟨q1,q2⟩:=hrs r (List.mem_of_getElem? hri)
    refine⟨r.1,_,rfl,SqL.of (sd _ _ q1),rfl,_,_,rfl,_,_,rfl,rfl,?_⟩
    refine⟨_,rfl,_,rfl,oa,r.2.1,rfl,⟨_,SqL.of hoa⟩,⟨_,SqL.of (sd _ _ q2)⟩,J4 hoa (sd _ _ q2) (by omega) ?_ ?_⟩
    ·intro i j T H1 R' E' hT r
     refine⟨T,_,rfl,SqT.of hT,rfl,_,_,rfl,_,_,rfl,rfl,⟨[_,_],rfl,rfl⟩,?_⟩
     unfold jl
     dsimp only
     rw [if_pos rfl]
     exact⟨_,rfl,_,rfl,_,_,rfl,rfl,r⟩
    intro ql He hql se hqv
    refine⟨ql,_,_,_,_,_,rfl,?_,sd.trans se⟩
    rw [hqv]
    congr 2
    apply wV
    intro d _
    rw [List.take_succ,hri]
    show _=f0 d+JR (rs.take i++[r]) d
    rw [Va]
    omega
   ·rintro Z Hd ⟨oa,v8,v9,v10,v11,v12,rfl,hoa,sd⟩
    refine⟨_,rfl,kk oa Hd (λc u hc e=>sd _ _ (sdc c u hc e)) (Rc.R.d.same sd) ?_⟩
    rw [hoa]
    congr 2
    apply wV
    intro d _
    rw [show (refs rs).length=rs.length by unfold refs;rw [List.length_map],List.take_length]
    exact (pI d).done hL1
theorem Uz {f f1 f2:Addr} {fd fd1 fd2:FuncData} (D:Df K mg "_law_oftens" wX Al f fd) (zV:Df K mg "_law_after" yE Ai f1 fd1) (yL:Df K mg "_law_from" xN Ah f2 fd2) (T:Blt mg) (U:Vh mg):FnOk P w K mg base CX0 412 f fd Al (w6 P w 205):=by
 exact YH D zV yL T U 205 (by decide)
theorem zar {f f1 f2:Addr} {fd fd1 fd2:FuncData} (D:Df K mg "_law_from" xN Ah f fd) (zV:Df K mg "_law_after" yE Ai f1 fd1) (vU:Df K mg "_law_oftens" wX Al f2 fd2) (wJ:FnOk P w K mg base CX0 412 f2 fd2 Al (w6 P w 205)) (T:Blt mg) (U:Vh mg):FnOk P w K mg base CX0 413 f fd Ah (vN P w 205):=by
 exact XR (k:=411) (by decide) (by decide) D zV vU wJ T U
theorem Xv {f f1 f2 f3:Addr} {fd fd1 fd2 fd3:FuncData} (D:Df K mg "_law_often_below" yh Ar f fd) (yd:Df K mg "_law_figures" xn Ad f1 fd1) (zV:Df K mg "_law_after" yE Ai f2 fd2) (yL:Df K mg "_law_from" xN Ah f3 fd3) (vB:FnOk P w K mg base CX0 413 f3 fd3 Ah (vN P w 205)) (T:Blt mg) (U:Vh mg):FnOk P w K mg base CX0 414 f fd Ar (wj P w 205):=by
 exact Xe (k:=411) (by decide) D yd zV yL vB T U
end
section
variable {P:Program} {w:World} {T0:Addr}
theorem LT.sameD {T dd:Addr} {H H':Hp} {ls:ZA} {b:Nat} (h:LT T H) (D:RdD P w H dd ls b) (s:SameD dd H H'):LT T H':=by
 obtain⟨kvs,d,_⟩:=D
 obtain⟨n1,n2⟩:=DN.lam d h
 rcases h with h | ⟨c,h1,h2⟩
 ·exact .inl (s _ _ n1 h)
 ·exact .inr ⟨c,s _ _ n1 h1,s _ _ (n2 c h2) h2⟩
theorem RdD.keep {dd:Addr} {H H':Hp} {ls:ZA} {b:Nat} (D:RdD P w H dd ls b) (e:∀ φ,H dd=some (.ext φ)->H' dd=some (.ext φ)) (s:∀ a xs,H a=some (.tup xs)->H' a=some (.tup xs)):RdD P w H' dd ls b:=by
 obtain⟨kvs,d,t⟩:=D
 have ed:H' dd=H dd:=by obtain⟨xs,q,_⟩:=d;rw [q];exact e _ q
 exact⟨kvs,d.stay ed s,t.same s⟩
structure Now (P:Program) (w:World) (T0 s p:Addr) (ds:List Int) (r:Addr) (b:Nat) (bl:Addr) (zs:ZB) (r' bl':Addr) (zs':ZB) (rd tl dd:Addr) (ts:ZB) (H:Hp):Prop where
 st:Sto2 H s p ds
 lt:LT T0 H
 R:RuleAt (aw [s] H) r b bl zs
 R':RuleAt (aw [s] H) r' b bl' zs'
 S:RdS (aw [s] H) rd tl dd b ts
 D:RdD P w H dd (ts.map (·.2)) b
section
variable {s p:Addr} {ds:List Int} {r:Addr} {b:Nat} {bl:Addr} {zs:ZB} {r' bl':Addr} {zs':ZB} {rd tl dd:Addr} {ts:ZB} {H H':Hp}
theorem Now.go (N:Now P w T0 s p ds r b bl zs r' bl' zs' rd tl dd ts H) (st:Sto2 H' s p ds) (lt:LT T0 H') (D:RdD P w H' dd (ts.map (·.2)) b) (k:∀ c o,c≠s->c≠T0->c≠dd->H c=some o->H' c=some o):Now P w T0 s p ds r b bl zs r' bl' zs' rd tl dd ts H':=by
 have gl:∀ {c xs},aw [s] H c=some (.lst xs)->aw [s] H' c=some (.lst xs):=λ{c xs} e=>by
  have hi:c∉[s]:=λz=>by rw [Y8 z] at e;cases e
  rw [yc hi] at e ⊢
  exact k c _ (by simpa using hi) (N.lt.lst e) (N.D.ne e λ_ z=>nomatch z) e
 have gt:∀ {c xs},aw [s] H c=some (.tup xs)->aw [s] H' c=some (.tup xs):=λ{c xs} e=>by
  have hi:c∉[s]:=λz=>by rw [Y8 z] at e;cases e
  rw [yc hi] at e ⊢
  exact k c _ (by simpa using hi) (N.lt.tup e) (N.D.ne e λ_ z=>nomatch z) e
 exact⟨st,lt,⟨gt N.R.tu,gl N.R.li,λz hz=>gl (N.R.st z hz)⟩,⟨gt N.R'.tu,gl N.R'.li,λz hz=>gl (N.R'.st z hz)⟩,⟨gl N.S.hd,gl N.S.li,λz hz=>gt (N.S.st z hz)⟩,D⟩
theorem Sto2.tupne {a:Addr} {xs:List V} (S:Sto2 H s p ds) (e:H a=some (.tup xs)):a≠s:=λz=>by obtain⟨i,q⟩:=S.st;rw [z,q] at e;cases e
theorem Now.fr (N:Now P w T0 s p ds r b bl zs r' bl' zs' rd tl dd ts H) (F:Fr T0 s p ds H H'):Now P w T0 s p ds r b bl zs r' bl' zs' rd tl dd ts H':=by
 obtain⟨kvs,d,t⟩:=N.D
 have nds:dd≠s:=λz=>by obtain⟨xs,q,_⟩:=d;obtain⟨i,e⟩:=N.st.st;rw [z,e] at q;cases q
 exact N.go F.st F.lt (N.D.keep (fun φ q=>F.get nds (DN.lam d N.lt).1.symm q) λa xs q=>F.get (N.st.tupne q) (N.lt.tup q) q) λc o h1 h2 _ e=>F.get h1 h2 e
theorem Now.sameL (N:Now P w T0 s p ds r b bl zs r' bl' zs' rd tl dd ts H) (m:SameL T0 H H') (lt:LT T0 H'):Now P w T0 s p ds r b bl zs r' bl' zs' rd tl dd ts H':=N.fr ((Fr.refl N.st N.lt).sameL m lt)
theorem Now.same (N:Now P w T0 s p ds r b bl zs r' bl' zs' rd tl dd ts H) (m:Same H H'):Now P w T0 s p ds r b bl zs r' bl' zs' rd tl dd ts H':=N.sameL (SameL.of m) (N.lt.same m)
theorem Now.sameD (N:Now P w T0 s p ds r b bl zs r' bl' zs' rd tl dd ts H) (m:SameD dd H H') (D:RdD P w H' dd (ts.map (·.2)) b):Now P w T0 s p ds r b bl zs r' bl' zs' rd tl dd ts H':=by
 have nl:∀ {c xs},H c=some (.lst xs)->H' c=some (.lst xs):=λ{c xs} e=>m _ _ (N.D.ne e λ_ z=>nomatch z) e
 obtain⟨i,e⟩:=N.st.st
 exact N.go ⟨⟨i,nl e⟩,nl N.st.dr,N.st.ne,N.st.len,N.st.nn⟩ (N.lt.sameD N.D m) D λc o _ _ h e=>m c o h e
theorem Now.rdr (N:Now P w T0 s p ds r b bl zs r' bl' zs' rd tl dd ts H) (g:yC b (ts.map (·.2))):Rdr P w H rd tl dd b ts:=⟨N.S.same (zX _ _),N.D,g⟩
end
end
section
variable {P:Program} {w:World} {K:W.Frag} {mg:Str->Option Value} {base:Heap} {T0:Addr}
def ji:Sp:=λvs H Q _=>∃ (r:Addr) (b:Nat) (bl:Addr) (zs:ZB) (n:Nat),vs=[.ref r,.int n]/\RuleAt H r b bl zs/\yC b (zs.map (·.2))/\n<2^900/\∀ H',Same H H'->Q (.bl (gd (zs.map (·.2)) b n)) H'
theorem wM:zF ["rule","n","figures","stretch","size","at"] ["rule","n"] (zu uY):={}
theorem VJ {f f1:Addr} {fd fd1:FuncData} (D:Df K mg "_law_is_good" uY Aj f fd) (yd:Df K mg "_law_figures" xn Ad f1 fd1) (T:Blt mg):FnOk P w K mg base CX0 2 f fd Aj ji:=by
 have wU:FnOk P w K mg base CX0 1 f1 fd1 Ad wN:=ur yd T
 refine D.fn.ok wM (λvs H Q E h=>?_) (λcdv A outer s H vs Q E hr h=>?_)
 ·obtain⟨r,b,bl,zs,n,rfl,_⟩:=h;rfl
 ·obtain⟨r,b,bl,zs,n,rfl,R,g,hn,kk⟩:=h
  have HU:=Jy hr
  have h901:=jY g.b2 900 n hn
  refine⟨_,(zp (zB (i:=2) wM.nd rfl (Or.inl rfl) (zN yd wU (hr.mono (by decide)) (zc (zP (wB K) (pv 0) zm (λ_ _=>rfl)) (zc (pv 1) zg))))
   (zp (yU PassesOwn.never rfl (Yt K (zP (wB K) (pv 0) zm (λ_ _=>rfl))) (zQ (i:=3) wM.nd rfl (Or.inl rfl))
    (zp (zB (i:=4) wM.nd rfl (Or.inl rfl) (zE (xQ K) (by rfl) T.n_len PySem.boot_len (zc (pv 3) zg)))
    (zx (yU PassesOwn.never rfl (yg rfl T.n_range (zc (zA yq (zA uc (zE (xQ K) (by rfl) T.n_len PySem.boot_len (zc (pv 2) zg)) (pv 4)) zm) zg)) (zQ (i:=5) wM.nd rfl (Or.inl rfl))
     (zx (xr (ym (zbf K HU) (wz (Xb K) (pv 2) (wF (pv 5)) (wF (zA yq (pv 5) (pv 4)))) (pv 3) (ye _))
      (zx (zL XH))
      yj))))))
   (zx (zL XH)))),?_⟩
  refine⟨_,rfl,r,_,_,.int b,rfl,rfl,SqT.of R.tu,rfl,_,rfl,b,n,rfl,g.b2,g.b16,hn,λl H1 hl hL s1=>?_⟩
  have R1:=R.same s1
  generalize hfs:zR b n=fs at hL h901
  have kk':∀ H',Same H H'->Q (.bl (lacks (zs.map (·.2)) fs)) H':=λH' m=>by have q:=kk H' m;unfold gd at q;rw [hfs] at q;exact q
  refine⟨_,rfl,r,_,_,.ref bl,rfl,rfl,SqT.of R1.tu,rfl,bl,rfl,⟨_,SqL.of R1.li⟩,Z6 (K:=K) (a:=bl) (xs:=zs.map λz=>V.ref z.1) (λi Z H2=>∃ v3 v4 v5:Option V,Z=[some (.ref r),some (.int n),some (.ref l),v3,v4,v5]/\Same H1 H2/\∀ z∈zs.take i,Yl z.2 fs=false) ⟨_,_,_,rfl,Same.refl _,by simp⟩ (λi Z H2 _ ⟨_,_,_,_,e,_⟩=>SqL.of (e _ _ R1.li)) ?_ ?_⟩
  ·rintro i x Z H2 hx ⟨v3,v4,v5,rfl,s2,hno⟩
   rw [List.getElem?_map] at hx
   obtain⟨z,hzj,e⟩:=Option.map_eq_some_iff.mp hx
   subst e
   have hzm:=List.mem_of_getElem? hzj
   have hzne:=(g.st _ (List.mem_map.mpr ⟨z,hzm,rfl⟩)).ne
   have hz4:=(g.st _ (List.mem_map.mpr ⟨z,hzm,rfl⟩)).len
   have hzl:=R1.st z hzm
   refine⟨_,rfl,z.1,_,rfl,.inl (SqL.of (s2 _ _ hzl)),?_⟩
   rw [List.length_map]
   refine⟨_,rfl,l,_,rfl,.inl (SqL.of (s2 _ _ hL)),_,rfl,_,_,rfl,rfl,_,_,rfl,rfl,_,rfl,?_⟩
   rw [List.length_map]
   refine⟨by omega,by omega,yH (lo:=0) (n:=((fs.length:Int)-z.2.length+1).toNat) (λj Z H3=>∃ v5:Option V,Z=[some (.ref r),some (.int n),some (.ref l),some (.ref z.1),some (.int z.2.length),v5]/\Same H1 H3/\∀ k,k<j->(fs.drop k).take z.2.length≠z.2) ⟨_,rfl,s2,λk hk=>by omega⟩ ?_ ?_⟩
   ·rintro j Z H3 hj ⟨v5,rfl,s3,hno2⟩
    refine⟨_,rfl,_,rfl,_,rfl,_,rfl,_,rfl,_,_,rfl,rfl,_,rfl,l,_,rfl,SqL.of (s3 _ _ hL),λp hp=>?_⟩
    have e1:uV (fs.map V.int) (some (0+(j:Int))) (some (0+(j:Int)+(z.2.length:Int)))=((fs.drop j).take z.2.length).map V.int:=by
     have e:(0+(j:Int)+(z.2.length:Int))=((j+z.2.length:Nat):Int):=by omega
     rw [e,Int.zero_add,zaA,List.map_take,List.map_drop,Nat.add_sub_cancel_left]
    rw [e1]
    have s4:=s3.trans (zj hp (o:=.lst (((fs.drop j).take z.2.length).map V.int)))
    refine⟨_,rfl,xO ((fs.drop j).take z.2.length),xO z.2,TrAt.ints (a:=p) (SqL.of zf),TrAt.ints (a:=z.1) (SqL.of (s4 _ _ hzl)),(by rw [qd];decide),_,rfl,?_⟩
    show if teq (xO ((fs.drop j).take z.2.length)) (xO z.2)=true then _ else _
    rw [jc]
    by_cases hq:(fs.drop j).take z.2.length=z.2
    ·rw [decide_eq_true hq]
     refine vL ?_
     have q:=kk' _ (s1.trans s4)
     rw [show lacks (zs.map (·.2)) fs=false by
      unfold lacks
      rw [show ((zs.map (·.2)).any λst=>Yl st fs)=true from List.any_eq_true.mpr ⟨z.2,List.mem_map.mpr ⟨z,hzm,rfl⟩,(vo hzne).mpr ⟨j,hq⟩⟩]
      rfl] at q
     exact q
    ·rw [decide_eq_false hq]
     refine xX ⟨_,rfl,s4,λk hk=>?_⟩
     by_cases e:k<j
     ·exact hno2 k e
     ·have:k=j:=by omega
      rw [this];exact hq
   ·rintro Z H3 ⟨v5,rfl,s3,hno2⟩
    refine⟨_,_,_,rfl,s3,λy hy=>?_⟩
    rw [List.take_succ,hzj] at hy
    rcases List.mem_append.mp hy with hy | hy
    ·exact hno y hy
    ·have e:y=z:=by simpa using hy
     rw [e,Ql hzne,List.any_eq_false]
     intro k hk
     have hk:=List.mem_range.mp hk
     rw [decide_eq_false (hno2 k hk)];exact Bool.false_ne_true
  ·rintro Z H2 ⟨v3,v4,v5,rfl,s2,hno⟩
   rw [List.length_map,List.take_length] at hno
   have q:=kk' _ (s1.trans s2)
   rw [show lacks (zs.map (·.2)) fs=true by
    unfold lacks
    rw [show ((zs.map (·.2)).any λst=>Yl st fs)=false from List.any_eq_false.mpr λst hst=>by
     obtain⟨z,hz,rfl⟩:=List.mem_map.mp hst
     rw [hno z hz];exact Bool.false_ne_true]
    rfl] at q
   exact q
def ZK:Sp:=λvs H Q _=>∃ i j:Int,vs=[.int i,.int j]/\Q (.bl (decide (i=j))) H
theorem QK:zF ["found","due"] ["found","due"] (zu jy):={}
theorem XM {f:Addr} {fd:FuncData} (D:Df K mg "_law_whole" jy Aw f fd) (T:Blt mg):FnOk P w K mg base CX0 1 f fd Aw ZK:=by
 refine D.fn.ok QK (λvs H Q E h=>?_) (λcdv A outer s H vs Q E hr h=>?_)
 ·obtain⟨i,j,rfl,_⟩:=h;rfl
 ·obtain⟨i,j,rfl,kk⟩:=h
  refine⟨_,(zx (zL (jq (zE (Q9 K) (by rfl) T.n_isinstance boot_isinstance (zc (pv 0) (zc (Zb (v:=.ty "int") rfl T.n_int boot_int rfl) zg))) (jq (zbO (zE (Q9 K) (by rfl) T.n_isinstance boot_isinstance (zc (pv 0) (zc (Zb (v:=.ty "bool") rfl T.n_bool boot_bool rfl) zg)))) (jj (xT ZP (pv 0) (pv 1) (ye _))))))),?_⟩
  refine⟨_,rfl,_,_,_,_,rfl,.int _,Vw,_,rfl,vL ⟨_,rfl,_,_,_,_,rfl,.int _,Wv,_,rfl,_,rfl,vL ⟨_,rfl,_,rfl,rfl,?_⟩⟩⟩
  rw [show decide (V.int i=V.int j)=decide (i=j) from decide_eq_decide.mpr ⟨λz=>by injection z,λz=>by rw [z]⟩]
  exact kk
end
section
variable {P:Program} {w:World} {K:W.Frag} {mg:Str->Option Value} {base:Heap}
def YG:Sp:=λvs H Q _=>∃ (r:Addr) (b:Nat) (bl:Addr) (zs:ZB),vs=[.ref r]/\RuleAt H r b bl zs/\zs.length<=100 /\
 ∀ (r' bl':Addr) (zs':ZB) (H':Hp),Same H H'->RuleAt H' r' b bl' zs'->zs'.map (·.2)=zs.map (·.2)->H bl'=none->H r'=none->(∀ z∈zs',H z.1=none/\z.1≠bl')->Q (.ref r') H'
theorem JF:zF ["rule"] ["rule"] (zu qT):={}
theorem WN {f:Addr} {fd:FuncData} (D:Df K mg "_law_copy" qT Ag f fd) (T:Blt mg):FnOk P w K mg base CX0 1 f fd Ag YG:=by
 refine D.fn.ok JF (λvs H Q E h=>?_) (λcdv A outer s H vs Q E hr h=>?_)
 ·obtain⟨r,b,bl,zs,rfl,_⟩:=h;rfl
 ·obtain⟨r,b,bl,zs,rfl,R,hl,kk⟩:=h
  refine⟨_,(zx (zL (vd (zc (zP (wB K) (pv 0) zm (λ_ _=>rfl)) (zc (xK (show CScope (zu qT) _ "stretch" ["rule"] [] [] from {}) rfl (Yt K (zP (wB K) (pv 0) zm (λ_ _=>rfl))) (λ_ _ _ _=>yJ) (λ_ _ _ _=>(vV (zaR K) (by rfl) T.n_list boot_list (zc (pv 0) zg)))) zg))))),?_⟩
  refine⟨_,rfl,r,_,_,V.int b,rfl,rfl,SqT.of R.tu,rfl,?_⟩
  refine⟨_,rfl,r,_,_,V.ref bl,rfl,rfl,SqT.of R.tu,rfl,bl,rfl,⟨_,SqL.of R.li⟩,xm (K:=K) (a:=bl) (xs:=zs.map λz=>V.ref z.1) (λi ys H4=>Same H H4/\∃ ws:ZB,ys=ws.map (λz=>V.ref z.1)/\ws.length=i/\ws.map (·.2)=(zs.take i).map (·.2)/\∀ z∈ws,H z.1=none/\H4 z.1=some (.lst (z.2.map V.int))) ⟨Same.refl _,[],rfl,rfl,rfl,by simp⟩ (λi ys H4 _ ⟨e,_⟩=>SqL.of (e _ _ R.li)) ?_ ?_⟩
  ·rintro j x ys H4 hx ⟨s4,ws,rfl,hwl,hw2,hws⟩
   rw [List.getElem?_map] at hx
   obtain⟨z,hzj,e⟩:=Option.map_eq_some_iff.mp hx
   subst e
   have hzm:=List.mem_of_getElem? hzj
   have hj:j<zs.length:=(List.getElem?_eq_some_iff.mp hzj).1
   refine⟨by rw [List.length_map,hwl];exact Nat.lt_of_lt_of_le (show j<101 by omega) (by decide),?_⟩
   unfold jl
   dsimp only
   rw [if_pos rfl]
   refine⟨_,rfl,z.1,_,rfl,.inl (SqL.of (s4 _ _ (R.st z hzm))),λp hp=>⟨s4.trans (zj hp),ws++[(p,z.2)],by simp,by simp [hwl],?_,λy hy=>?_⟩⟩
   ·rw [List.map_append,hw2,List.take_succ,hzj];simp
   ·rcases List.mem_append.mp hy with hy | hy
    ·exact⟨(hws y hy).1,zj hp _ _ (hws y hy).2⟩
    ·have e:y=(p,z.2):=by simpa using hy
     subst e
     exact⟨s4.free hp,zf⟩
  ·rintro ys H4 ⟨s4,ws,rfl,hwl,hw2,hws⟩ bl' hbl'
   refine⟨(by show 2<=sizeLine;decide),λr' hr'=>?_⟩
   have s5:=zj hbl' (o:=.lst (ws.map λz=>V.ref z.1))
   have s6:=zj hr' (o:=.tup [.int b,.ref bl'])
   refine kk r' bl' ws _ (s4.trans (s5.trans s6)) ⟨zf,s6 _ _ zf,λz hz=>s6 _ _ (s5 _ _ (hws z hz).2)⟩ ?_ (s4.free hbl') (s4.free (s5.free hr')) λz hz=>⟨(hws z hz).1,zy (hws z hz).2 hbl'⟩
   rw [hw2,List.length_map,List.take_length]
end
theorem zbA {b n:Nat} (h2:2<=b) (h16:b<=16) (h:(zR b n).length<=200):n<2^900:=by
 have h1:=xG h2 (rfl:(zR b n).length=_)
 have h3:b^(zR b n).length<=16^200:=Nat.le_trans (Nat.pow_le_pow_left h16 _) (Nat.pow_le_pow_right (by decide) h)
 have h4:(16:Nat)^200<=2^900:=by
  rw [show (16:Nat)=2^4 from rfl,<- Nat.pow_mul]
  exact Nat.pow_le_pow_right (by decide) (by decide)
 omega
theorem RuleAt.off {s r bl:Addr} {H:Hp} {b:Nat} {zs:ZB} (R:RuleAt H r b bl zs) (h1:r≠s) (h2:bl≠s) (h3:∀ z∈zs,z.1≠s):RuleAt (aw [s] H) r b bl zs :=
 ⟨by rw [yc (by simpa using h1)];exact R.tu,by rw [yc (by simpa using h2)];exact R.li,λz hz=>by rw [yc (by simpa using h3 z hz)];exact R.st z hz⟩
theorem RdS.off {s rd tl dd:Addr} {H:Hp} {b:Nat} {ts:ZB} (R:RdS H rd tl dd b ts) (h1:rd≠s) (h2:tl≠s) (h3:∀ z∈ts,z.1≠s):RdS (aw [s] H) rd tl dd b ts :=
 ⟨by rw [yc (by simpa using h1)];exact R.hd,by rw [yc (by simpa using h2)];exact R.li,λz hz=>by rw [yc (by simpa using h3 z hz)];exact R.st z hz⟩
def Vr (b:Nat) (ls:ZA):Tr:=.tup [.int b,.lst (ls.map xO)]
theorem Jo (b:Nat) (ls:ZA):q9 (Vr b ls)<=8:=by
 unfold Vr
 rw [q9,wC,wC,wC,q9,q9]
 ·have:=Zf ls;omega
 all_goals (intros;rename_i z;cases z)
theorem TrAt.rule {K:W.Frag} {H:Hp} {r bl:Addr} {b:Nat} {zs:ZB} (R:RuleAt H r b bl zs):TrAt K H (Vr b (zs.map (·.2))) (.ref r):=by
 unfold Vr
 rw [TrAt]
 refine⟨r,_,rfl,SqT.of R.tu,?_⟩
 rw [TrsAt]
 refine⟨_,_,rfl,by rw [TrAt],?_⟩
 rw [TrsAt]
 refine⟨_,_,rfl,?_,by rw [TrsAt]⟩
 rw [TrAt]
 exact⟨bl,_,rfl,SqL.of R.li,TrsAt.lists R.st⟩
theorem zfE {n c:Nat} (h:c<n):ixN n (c:Int)=some c:=by
 unfold ixN
 rw [if_pos (by omega),if_pos (by omega)]
 exact congrArg some (by omega)
def zey (b:Nat) (f:Nat->Nat):List Int:=(List.range b).map λd=>((f d:Nat):Int)
theorem zfj (b:Nat) (f:Nat->Nat):vec b f=(zey b f).map V.int:=by
 unfold vec zey
 rw [List.map_map]
 rfl
theorem zfG {b:Nat} (h2:2<=b) (d i:Nat):fw (one d) 1 b i=(zR b i).count (d:Int):=by
 unfold fw
 exact Wc d _ λf hf=>(ZR h2 _ f hf).1
section
variable {P:Program} {w:World} {K:W.Frag} {mg:Str->Option Value} {base:Heap}
def vY:Sp:=λvs H Q _=>∃ (r:Addr) (b:Nat) (bl:Addr) (zs:ZB) (n:Nat) (oa:Addr),vs=[.ref r,.int n,.ref oa]/\RuleAt H r b bl zs/\yC b (zs.map (·.2))/\n<=300/\H oa=some (.lst (vec b λd=>vR (zs.map (·.2)) b d n))/\∀ H',Same H H'->Q (.bl true) H'
theorem xY:zF ["rule","n","often","found","one","figure"] ["rule","n","often"] (zu wH):={}
theorem Xx {f f1 f2:Addr} {fd fd1 fd2:FuncData} (D:Df K mg "_law_small_right" wH A5 f fd) (qH:Df K mg "_law_is_good" uY Aj f1 fd1) (Zy:FnOk P w K mg base CX0 2 f1 fd1 Aj ji) (yd:Df K mg "_law_figures" xn Ad f2 fd2) (T:Blt mg):FnOk P w K mg base CX0 3 f fd A5 vY:=by
 have wU:FnOk P w K mg base CX0 1 f2 fd2 Ad wN:=ur yd T
 refine D.fn.ok xY (λvs H Q E h=>?_) (λcdv A outer s H vs Q E hr h=>?_)
 ·obtain⟨r,b,bl,zs,n,oa,rfl,_⟩:=h;rfl
 ·obtain⟨r,b,bl,zs,n,oa,rfl,R,g,hn,hoa,kk⟩:=h
  have b2:=g.b2
  have b16:=g.b16
  have HU:=Jy hr
  have big:∀ i:Nat,i<n->i<2^900:=λi hi=>Nat.lt_of_le_of_lt (show i<=2^9 by omega) (Nat.pow_lt_pow_right (by decide) (by decide))
  refine⟨_,(zp (zB (i:=3) xY.nd rfl (Or.inl rfl) (zA Vg (zZ (zc zm zg)) (zP (wB K) (pv 0) zm (λ_ _=>rfl))))
   (zp (yU PassesOwn.never rfl (yg rfl T.n_range (zc (pv 1) zg)) (zQ (i:=4) xY.nd rfl (Or.inl rfl))
    (zx (xr (wY (zN qH Zy (hr.mono (by decide)) (zc (pv 0) (zc (pv 4) zg))))
     (zx (yU PassesOwn.never rfl (Yt K (zN yd wU (hr.mono (by decide)) (zc (zP (wB K) (pv 0) zm (λ_ _=>rfl)) (zc (pv 4) zg)))) (zQ (i:=5) xY.nd rfl (Or.inl rfl))
      (zx (Vm (zA yq (zP (yo K) (pv 3) (pv 5) (λ_ _=>rfl)) zm) (Jv (pv 3) (pv 5) set_list)))))
     yj)))
   (zx (zL (xT (zbf K HU) (pv 3) (pv 2) (ye _)))))),?_⟩
  refine⟨(by show 1<=sizeLine;decide),λz0 hz0=>?_⟩
  have mz:=zj hz0 (o:=.lst [.int 0])
  refine⟨_,rfl,r,_,_,.int b,rfl,rfl,SqT.of (R.same mz).tu,rfl,z0,_,_,rfl,rfl,zf,by omega,by omega,(by show 1*_<=_;exact Nat.le_trans (show 1*(b:Int).toNat<=16 by omega) (by decide)),λfa hfa=>?_⟩
  rw [Wy]
  have mf:=zj hfa (o:=.lst (vec b λ_=>0))
  have hfa0:H fa=none:=mz.free hfa
  have s1:=mz.trans mf
  have hf1:(upd (upd H z0 (.lst [.int 0])) fa (.lst (vec b λ_=>0))) fa=some (.lst (vec b λd=>vR (zs.map (·.2)) b d 0)):=zf
  generalize upd (upd H z0 (.lst [.int 0])) fa (.lst (vec b λ_=>0))=H1 at s1 hf1
  refine⟨_,rfl,_,rfl,by omega,by omega,?_⟩
  rw [Int.toNat_natCast]
  refine yH (lo:=0) (n:=n) (λi Z Hc=>∃ v4 v5:Option V,Z=[some (.ref r),some (.int n),some (.ref oa),some (.ref fa),v4,v5]/\Hc fa=some (.lst (vec b λd=>vR (zs.map (·.2)) b d i))/\Same H Hc) ⟨_,_,rfl,hf1,s1⟩ ?_ ?_
  ·rintro i Z Hc hi ⟨v4,v5,rfl,hfc,sc⟩
   refine⟨_,rfl,_,rfl,r,b,bl,zs,i,by rw [Int.zero_add];rfl,R.same sc,g,big i hi,λHd sd=>⟨_,rfl,?_⟩⟩
   have hfd:=sd _ _ hfc
   have s0d:=sc.trans sd
   cases hg:gd (zs.map (·.2)) b i with
   | false =>
    refine xX ⟨_,_,rfl,?_,s0d⟩
    rw [hfd]
    congr 2
    apply wV
    intro d _
    unfold vR
    rw [tot,if_neg (by rw [hg];exact Bool.false_ne_true),Nat.add_zero]
   | true =>
    refine vL ⟨_,rfl,r,_,_,.int b,rfl,rfl,SqT.of (R.same s0d).tu,rfl,_,rfl,b,i,by rw [Int.zero_add];rfl,b2,b16,big i hi,λl He hl hL se=>?_⟩
    have hfe:=se _ _ hfd
    have hlf:l≠fa:=λz=>by rw [z,hfd] at hl;cases hl
    refine⟨l,rfl,⟨_,SqL.of hL⟩,Z6 (K:=K) (a:=l) (xs:=(zR b i).map V.int) (λj Z Hf=>∃ v5:Option V,Z=[some (.ref r),some (.int n),some (.ref oa),some (.ref fa),some (.int (0+(i:Int))),v5]/\Hf fa=some (.lst (vec b λd=>vR (zs.map (·.2)) b d i+((zR b i).take j).count (d:Int)))/\Hf l=some (.lst ((zR b i).map V.int))/\Same H Hf) ⟨_,rfl,hfe,hL,s0d.trans se⟩ (λj Z Hf _ ⟨_,_,_,h,_⟩=>SqL.of h) ?_ ?_⟩
    ·rintro j z Z Hf hz ⟨v5,rfl,hff,hlf',sf⟩
     rw [List.getElem?_map] at hz
     obtain⟨ci,hki,rfl⟩:=Option.map_eq_some_iff.mp hz
     have hcm:=ZR b2 i ci (List.mem_of_getElem? hki)
     obtain⟨c,rfl⟩:∃ c:Nat,ci=(c:Int):=⟨ci.toNat,by omega⟩
     have hcb:c<b:=by omega
     refine⟨_,rfl,_,rfl,fa,_,_,.int ((vR (zs.map (·.2)) b c i+((zR b i).take j).count (c:Int):Nat):Int),rfl,rfl,SqL.of hff,yI (Yd hcb),_,_,rfl,rfl,_,rfl,_,rfl,fa,_,_,c,rfl,rfl,hff,by rw [xZ];exact zfE hcb,?_⟩
     dsimp only
     rw [show ((vR (zs.map (·.2)) b c i+((zR b i).take j).count (c:Int):Nat):Int)+1=((vR (zs.map (·.2)) b c i+((zR b i).take j).count (c:Int)+1:Nat):Int) by omega,V6 hcb]
     refine⟨_,rfl,?_,?_,λc' u e=>?_⟩
     ·rw [zf]
      congr 2
      apply wV
      intro d _
      rw [List.take_succ,hki,show ((some (c:Int)).toList)=[(c:Int)] from rfl,List.count_append,List.count_singleton]
      by_cases z:d=c
      ·subst z
       simp
       omega
      ·rw [if_neg z,if_neg (by simp;omega),Nat.add_zero]
     ·rw [zq hlf];exact hlf'
     ·rw [zq (zy e hfa0)];exact sf _ _ e
    ·rintro Z Hf ⟨v5,rfl,hff,hlf',sf⟩
     refine⟨_,_,rfl,?_,sf⟩
     rw [hff]
     congr 2
     apply wV
     intro d _
     unfold vR
     rw [tot,if_pos hg,zfG b2,List.length_map,List.take_length]
  ·rintro Z Hc ⟨v4,v5,rfl,hfc,sc⟩
   refine⟨_,rfl,_,rfl,xO (zey b λd=>vR (zs.map (·.2)) b d n),xO (zey b λd=>vR (zs.map (·.2)) b d n),TrAt.ints (a:=fa) (by rw [<- zfj];exact SqL.of hfc),TrAt.ints (a:=oa) (by rw [<- zfj];exact SqL.of (sc _ _ hoa)),(by rw [qd];decide),?_⟩
   rw [jc,decide_eq_true rfl]
   exact kk Hc sc
end
theorem zbs {b n:Nat} (h2:2<=b) (h16:b<=16) (h:(zR b n).length<=200):n<2^800:=by
 have h1:=xG h2 (rfl:(zR b n).length=_)
 have h3:b^(zR b n).length<=16^200:=Nat.le_trans (Nat.pow_le_pow_left h16 _) (Nat.pow_le_pow_right (by decide) h)
 rw [show (16:Nat)=2^4 from rfl,<- Nat.pow_mul] at h3
 exact Nat.lt_of_lt_of_le h1 h3
theorem zej:yC 10 []:=⟨by decide,by decide,by decide,(λl hl=>by cases hl),by decide⟩
theorem zcw (f:Nat->Nat):tot (gd [] 10) f 11=f 0+f 1+f 2+f 3+f 4+f 5+f 6+f 7+f 8+f 9+f 10:=by
 have h:∀ n,gd [] 10 n=true:=λn=>rfl
 simp [tot,h]
theorem zav:zR 10 10=[1,0]:=by
 rw [show (10:Nat)=1*10+0 from rfl,vp (by decide) (by decide) (by decide),zY (by decide)]
 rfl
theorem v46:tot (gd [] 10) (fw (λc=>c) 1 10) 11=46:=by
 rw [zcw]
 unfold fw
 rw [zav,zY (n:=0) (by decide),zY (n:=1) (by decide),zY (n:=2) (by decide),zY (n:=3) (by decide),zY (n:=4) (by decide),zY (n:=5) (by decide),zY (n:=6) (by decide),zY (n:=7) (by decide),zY (n:=8) (by decide),zY (n:=9) (by decide)]
 decide +kernel
theorem zhg:tot (gd [] 10) (fw (one 0) 1 10) 11=2:=by
 rw [zcw]
 unfold fw
 rw [zav,zY (n:=0) (by decide),zY (n:=1) (by decide),zY (n:=2) (by decide),zY (n:=3) (by decide),zY (n:=4) (by decide),zY (n:=5) (by decide),zY (n:=6) (by decide),zY (n:=7) (by decide),zY (n:=8) (by decide),zY (n:=9) (by decide)]
 decide +kernel
theorem zdo {ls:ZA} {b:Nat} (h2:2<=b) (n:Nat):((List.range b).map λd=>d*vR ls b d n).sum=tot (gd ls b) (fw (λc=>c) 1 b) n:=by
 unfold vR
 rw [zcb (gd ls b) (λd=>fw (one d) 1 b) (λd=>d) b n]
 apply tW
 ·intros;rfl
 ·intro k _
  exact UW (λc=>c) b (zR b k) λf hf=>by have:=ZR h2 k f hf;omega
section
variable {P:Program} {w:World} {K:W.Frag} {mg:Str->Option Value} {base:Heap} {T0:Addr}
def zao (K:W.Frag) (T0:Addr):Sp:=λvs H Q _=>∃ (a:Addr) (ns:List Int),vs=[.ref a]/\SqL K H a (ns.map V.int)/\ns.length<=63/\LT T0 H/\∀ H',Q (.bl true) H'
theorem tE:zF ["script","store","turn","rule","handed","reader","k","n","often","due","some","again","figure"] ["script"] (zu Vu):={}
set_option maxHeartbeats 0 in
theorem zf0 {f f1 f2 f3 f4 f5 f6 f7 f8 f9 f10 f11 f12:Addr} {fd fd1 fd2 fd3 fd4 fd5 fd6 fd7 fd8 fd9 fd10 fd11 fd12:FuncData} (D:Df K mg "law" Vu ["script"] f fd) (jf:Df K mg "_law_draws" jx A3 f1 fd1) (Yr:Df K mg "_law_rule" qW ["store"] f2 fd2) (Wo:FnOk P w K mg base CX0 2 f2 fd2 ["store"] (Yk T0)) (j5:Df K mg "_law_copy" qT Ag f3 fd3) (u6:Df K mg "_law_reader" uh Ag f4 fd4)
  (jB:Df K mg "_law_number" qL Ak f5 fd5) (Yb:FnOk P w K mg base CX0 2 f5 fd5 Ak (jT T0)) (Yj:Df K mg "_law_read" Ze Ak f6 fd6) (Wa:FnOk P w K mg base CX0 7 f6 fd6 Ak (Yx T0)) (w5:Df K mg "_law_often_below" yh Ar f7 fd7) (tU:FnOk P w K mg base CX0 414 f7 fd7 Ar (wj P w 205))
  (wZ:Df K mg "_law_small_right" wH A5 f8 fd8) (tH:FnOk P w K mg base CX0 3 f8 fd8 A5 vY) (uG:Df K mg "_law_whole" jy Aw f9 fd9) (vf:Df K mg "figures_below" uo Aj f10 fd10) (uI:FnOk P w K mg base CX0 12 f10 fd10 Aj (qg T0)) (uT:Df K mg "often_below" ue A2 f11 fd11) (jz:FnOk P w K mg base CX0 12 f11 fd11 A2 (jM T0)) (zJ:Df K mg "_law_take" vJ Af f12 fd12) (T:Blt mg) (U:Vh mg):FnOk P w K mg base CX0 415 f fd ["script"] (zao K T0):=by
 have Vx:FnOk P w K mg base CX0 1 f1 fd1 A3 (ZC K):=XD jf T U
 have Qa:FnOk P w K mg base CX0 1 f3 fd3 Ag YG:=WN j5 T
 have WW:FnOk P w K mg base CX0 1 f4 fd4 Ag (j6 P w):=YS u6 T
 have YQ:FnOk P w K mg base CX0 1 f9 fd9 Aw ZK:=XM uG T
 have zT:FnOk P w K mg base CX0 1 f12 fd12 Af (vW T0):=tM zJ T
 refine D.fn.ok tE (λvs H Q E h=>?_) (λcdv A outer s H vs Q E hr h=>?_)
 ·obtain⟨a,ns,rfl,_⟩:=h;rfl
 ·obtain⟨a,ns,rfl,hS,hlen,hT,kk⟩:=h
  have HU:=Jy hr
  refine⟨_,(zp (zB (i:=1) tE.nd rfl (Or.inl rfl) (zZ (zc (zN jf Vx (hr.mono (by decide)) (zc (pv 0) (zc zm zg))) (zc zm zg))))
   (zp (yU PassesOwn.never rfl (yg rfl T.n_range (zc zm zg)) (zQ (i:=2) tE.nd rfl (Or.inl rfl))
    (zp (zB (i:=3) tE.nd rfl (Or.inl rfl) (zN Yr Wo (hr.mono (by decide)) (zc (pv 1) zg)))
    (zp (zB (i:=4) tE.nd rfl (Or.inl rfl) (zN j5 Qa (hr.mono (by decide)) (zc (pv 3) zg)))
    (zp (zB (i:=5) tE.nd rfl (Or.inl rfl) (zN u6 WW (hr.mono (by decide)) (zc (pv 3) zg)))
    (zx (yU PassesOwn.never rfl (yg rfl T.n_range (zc zm zg)) (zQ (i:=6) tE.nd rfl (Or.inl rfl))
     (zp (zB (i:=7) tE.nd rfl (Or.inl rfl) (zN jB Yb (hr.mono (by decide)) (zc (pv 1) (zc (zP (wB K) (pv 3) zm (λ_ _=>rfl)) zg))))
     (zp (zby (xr (PW.pt (zad (ym ZP (pv 2) zm (ye _)) (V8 (ym ZP (pv 6) zm (ye _)))))
      (zx (zB (i:=7) tE.nd rfl (Or.inl rfl) (zN Yj Wa (hr.mono (by decide)) (zc (pv 1) (zc (zP (wB K) (pv 3) zm (λ_ _=>rfl)) zg)))))
      yj))
     (zp (zB (i:=8) tE.nd rfl (Or.inl rfl) (zN w5 tU (hr.mono (by decide)) (zc (pv 5) (zc (pv 7) zg))))
     (zp (zby (xr (PW.pt (zad (ym zes (pv 7) zm (ye _)) (V8 (uP (wY (zN wZ tH (hr.mono (by decide)) (zc (pv 3) (zc (pv 7) (zc (pv 8) zg)))))))))
      (zx (zL XH))
      yj))
     (zp (zB (i:=9) tE.nd rfl (Or.inl rfl) (zE (zfk K rfl) (by rfl) U.n_sum boot_sum (zc (zaN (show Zg (zu Vu) _ ["figure","many"] ["script","store","turn","rule","handed","reader","k","n","often","due","some","again","figure"] [] [] from {}) rfl (V7 K rfl T.n_enumerate (zc (pv 8) zg)) (λ_ _ _ _=>(Jw K 2 rfl (yG (zQ (i:=0) (show List.Nodup (α:=Str) ["figure","many"] by decide) rfl (.inl (lookup_relabel_local rfl)) (.inr (lookup_relabel_local rfl))) (yG (zQ (i:=1) (show List.Nodup (α:=Str) ["figure","many"] by decide) rfl (.inl (lookup_relabel_local rfl)) (.inr (lookup_relabel_local rfl))) qK)))) (λ_ _ _ _=>yJ) (λ_ _ _ _=>(zA wu (pv 0) (pv 1)))) zg)))
     (zp (zB (i:=10) tE.nd rfl (Or.inl rfl) (zZ (zc zm (zc zm (zc (zA uc (zP (wB K) (pv 3) zm (λ_ _=>rfl)) zm) (zc (zN zJ zT (hr.mono (by decide)) (zc (pv 1) (zc (zP (wB K) (pv 3) zm (λ_ _=>rfl)) zg))) (zc (zN zJ zT (hr.mono (by decide)) (zc (pv 1) (zc (zP (wB K) (pv 3) zm (λ_ _=>rfl)) zg))) zg)))))))
     (zx (yU PassesOwn.never rfl (yg rfl T.n_range (zc zm zg)) (zQ (i:=11) tE.nd rfl (Or.inl rfl))
      (zp (xr (PW.pt (zaK (uP (wY (zN uG YQ (hr.mono (by decide)) (zc (zN vf uI (hr.mono (by decide)) (zc (pv 4) (zc (pv 7) zg))) (zc (pv 9) zg))))) (Qd (ym (zcv K HU) (pv 4) (pv 3) (ye _)))))
       (zx (zL XH))
       yj)
      (zp (yU PassesOwn.never rfl (Yt K (pv 10)) (zQ (i:=12) tE.nd rfl (Or.inl rfl))
       (zx (xr (uP (wY (zN uG YQ (hr.mono (by decide)) (zc (zN uT jz (hr.mono (by decide)) (zc (pv 4) (zc (pv 7) (zc (pv 12) zg)))) (zc (zP (yo K) (pv 8) (pv 12) (λ_ _=>rfl)) zg)))))
        (zx (zL XH))
        yj)))
      (zx (xr (ym (zcv K HU) (pv 4) (pv 3) (ye _))
       (zx (zL XH))
       yj))))))))))))))))))
   (zx (zL (jq (xT ZP (zN vf uI (hr.mono (by decide)) (zc (vd (zc zm (zc (zZ zg) zg))) (zc zm zg))) zm (ye _)) (jj (xT ZP (zN uT jz (hr.mono (by decide)) (zc (vd (zc zm (zc (zZ zg) zg))) (zc zm (zc zm zg)))) zm (ye _)))))))),?_⟩
  refine⟨_,rfl,a,ns,rfl,hS,hlen,λp ds H1 hp Dr dne dlen m1=>⟨(by show 2<=sizeLine;decide),λst hst=>?_⟩⟩
  have m2:=zj hst (o:=.lst [.ref p,.int 0])
  have S:Sto2 (upd H1 st (.lst [.ref p,.int 0])) st p ds:=⟨⟨0,zf⟩,m2 _ _ Dr.li,dne,dlen,Dr.nn⟩
  have T2:=(hT.same m1).same m2
  generalize upd H1 st (.lst [.ref p,.int 0])=H2 at m2 S T2
  refine⟨4,rfl,by decide,by decide,yH (lo:=0) (n:=4) (λi Z H3=>∃ (v2 v3 v4 v5 v6 v7 v8 v9 v10 v11 v12:Option V),Z=[some (.ref a),some (.ref st),v2,v3,v4,v5,v6,v7,v8,v9,v10,v11,v12]/\Sto2 H3 st p ds/\LT T0 H3) ⟨_,_,_,_,_,_,_,_,_,_,_,rfl,S,T2⟩ ?_ ?_⟩
  ·rintro i Z H3 hi ⟨v2,v3,v4,v5,v6,v7,v8,v9,v10,v11,v12,rfl,S3,lt3⟩
   refine⟨_,rfl,st,p,ds,rfl,S3,lt3,λr b bl zs H4 F4 R4 g=>?_⟩
   have b2:=g.b2
   have b16:=g.b16
   have hz4:zs.length<=4:=by have:=g.len;rwa [List.length_map] at this
   refine⟨_,rfl,r,b,bl,zs,rfl,R4.all,by omega,λr' bl' zs' H5 s5 R5 e5 n1 n2 n3=>?_⟩
   have S4:=F4.st
   have lt5:=F4.lt.same s5
   have S5:=S4.same s5
   have g':yC b (zs'.map (·.2)):=by rw [e5];exact g
   refine⟨_,rfl,r,b,bl,zs,rfl,R4.all.same s5,g,λrd tl dd ts H6 f1 f2 f3 f4 Rd6 e6 s6=>?_⟩
   have gt:yC b (ts.map (·.2)):=by rw [e6];exact g
   have N6:Now P w T0 st p ds r b bl zs r' bl' zs' rd tl dd ts H6:=⟨S5.same s6,lt5.same s6,(R4.same (s5.aw _)).same (s6.aw _),(R5.off (S4.nes n2) (S4.nes n1) λz hz=>S4.nes (n3 z hz).1).same (s6.aw _),Rd6.s.off (S5.nes f1) (S5.nes f2) (λz hz=>S5.nes (f4 z hz)),Rd6.d⟩
   refine⟨2,rfl,by decide,by decide,yH (lo:=0) (n:=2) (λj Z H7=>∃ (v6 v7 v8 v9 v10 v11 v12:Option V),Z=[some (.ref a),some (.ref st),some (.int (0+(i:Int))),some (.ref r),some (.ref r'),some (.ref rd),v6,v7,v8,v9,v10,v11,v12]/\Now P w T0 st p ds r b bl zs r' bl' zs' rd tl dd ts H7) ⟨_,_,_,_,_,_,_,rfl,N6⟩ ?_ ?_⟩
   ·rintro j Z H7 hj ⟨v6,v7,v8,v9,v10,v11,v12,rfl,N7⟩
    have hj:j<2:=hj
    refine⟨_,rfl,_,rfl,r,_,_,.int b,rfl,rfl,SqT.of N7.R.all.tu,rfl,st,p,ds,b,rfl,N7.st,N7.lt,b2,b16,λn H8 hn F8=>?_⟩
    have N8:=N7.fr F8
    have hn1:(zR b n).length<=200:=Nat.le_trans (jY b2 100 n hn) (by decide)
    refine⟨λZ H9=>∃ m:Nat,Z=[some (.ref a),some (.ref st),some (.int (0+(i:Int))),some (.ref r),some (.ref r'),some (.ref rd),some (.int (0+(j:Int))),some (.int m),v8,v9,v10,v11,v12]/\(zR b m).length<=200/\Now P w T0 st p ds r b bl zs r' bl' zs' rd tl dd ts H9,?_,?_⟩
    ·rcases (show (i=0/\j=1)\/(i=0/\j≠1)\/i≠0 by omega) with hij | hij | hij
     ·refine⟨_,rfl,rfl,_,rfl,zcK (decide_eq_true (by rw [hij.1];rfl)) ⟨_,rfl,rfl,_,rfl,zcK (decide_eq_true (by rw [hij.2];rfl)) ?_⟩⟩
      exact⟨_,rfl,_,rfl,r,_,_,.int b,rfl,rfl,SqT.of N8.R.all.tu,rfl,st,p,ds,b,rfl,N8.st,N8.lt,b2,b16,λm H9 hm F9=>⟨m,rfl,hm,N8.fr F9⟩⟩
     ·exact⟨_,rfl,rfl,_,rfl,zcK (decide_eq_true (by rw [hij.1];rfl)) ⟨_,rfl,rfl,_,rfl,zen (decide_eq_false (λz=>by injection z with z;omega)) ⟨n,rfl,hn1,N8⟩⟩⟩
     ·exact⟨_,rfl,rfl,_,rfl,zen (decide_eq_false (λz=>by injection z with z;omega)) (xX ⟨n,rfl,hn1,N8⟩)⟩
    rintro Z H9 ⟨m,rfl,hq1,N9⟩
    have hq9:=zbA b2 b16 hq1
    have hq8:=zbs b2 b16 hq1
    refine⟨_,rfl,_,rfl,rd,tl,dd,b,ts,_,rfl,hq9,by omega,N9.rdr gt,λoa Ha sa da hoa=>?_⟩
    have Na:=N9.sameD sa da
    rw [e6] at hoa
    have nst:∀ {Hx:Hp} {c:Addr} {xs:List V},Sto2 Hx st p ds->Hx c=some (.lst xs)->(∃ i ys,xs=V.int i :: ys)->c≠st:=λ{Hx c xs} S h ⟨i,ys,e⟩ z=>by
     obtain⟨k,q⟩:=S.st
     rw [z,q] at h
     injection h with h
     injection h with h
     rw [<- h] at e
     injection e with e
     cases e
    have voa:∃ i ys,(vec b λd=>vR (zs.map (·.2)) b d m)=V.int i :: ys:=V9 (by omega)
    refine⟨λZ Hs=>Z=[some (.ref a),some (.ref st),some (.int (0+(i:Int))),some (.ref r),some (.ref r'),some (.ref rd),some (.int (0+(j:Int))),some (.int m),some (.ref oa),v9,v10,v11,v12]/\Now P w T0 st p ds r b bl zs r' bl' zs' rd tl dd ts Hs/\Hs oa=some (.lst (vec b λd=>vR (zs.map (·.2)) b d m)),?_,?_⟩
    ·refine⟨_,rfl,_,_,rfl,rfl,_,rfl,?_⟩
     by_cases hm3:(m:Int)<300
     ·rw [decide_eq_true hm3]
      exact vL ⟨_,rfl,_,rfl,_,rfl,r,b,bl,zs,m,oa,rfl,Na.R.all,g,by omega,hoa,λHs ss=>⟨_,rfl,xX ⟨rfl,Na.same ss,ss _ _ hoa⟩⟩⟩
     ·rw [decide_eq_false hm3]
      exact xX (xX ⟨rfl,Na,hoa⟩)
    rintro Z Hs ⟨rfl,Ns,hos⟩
    clear Na hoa
    refine⟨_,rfl,oa,rfl,⟨_,SqL.of hos⟩,zbK (K:=K) (a:=oa) (xs:=vec b λd=>vR (zs.map (·.2)) b d m) (λj ys H2=>Same Hs H2/\ys=((List.range j).map λ(c:Nat)=>((c*vR (zs.map (·.2)) b c m:Nat):Int)).map V.int) ⟨Same.refl _,rfl⟩ (λj ys H2 _ ⟨m,_⟩=>SqL.of (m _ _ hos)) ?_ ?_ ?_⟩
    ·rintro c x ys H2 T2 hx ⟨m2,rfl⟩ hT2
     have hcb:c<b:=by have:=(List.getElem?_eq_some_iff.mp hx).1;rwa [xZ] at this
     rw [Yd hcb] at hx
     cases hx
     refine⟨by rw [List.length_map,List.length_map,List.length_range];exact Nat.lt_of_lt_of_le (show c<17 by omega) (by decide),?_⟩
     refine⟨T2,_,rfl,SqT.of zf,rfl,_,_,rfl,_,_,rfl,rfl,⟨[some (.int (c:Nat)),some (.int (vR (zs.map (·.2)) b c m:Nat))],rfl,rfl⟩,?_⟩
     unfold jl
     dsimp only
     rw [if_pos rfl]
     refine⟨_,rfl,_,rfl,_,_,rfl,rfl,.inl ⟨by omega,by omega⟩,m2.trans (zj hT2),?_⟩
     rw [List.range_succ,List.map_append,List.map_append]
     simp
    ·rintro c ys H2 hc ⟨m2,rfl⟩
     rw [xZ] at hc
     rw [List.length_map,List.length_map,List.length_range]
     exact Nat.lt_of_lt_of_le (show c<17 by omega) (by decide)
    rintro ys H2 ⟨m2,rfl⟩ Dd hDd
    rw [xZ]
    refine⟨Dd,_,rfl,SqL.of zf,?_⟩
    have m3:=m2.trans (zj hDd (o:=.lst (((List.range b).map λ(c:Nat)=>((c*vR (zs.map (·.2)) b c m:Nat):Int)).map V.int)))
    generalize upd H2 Dd (.lst (((List.range b).map λ(c:Nat)=>((c*vR (zs.map (·.2)) b c m:Nat):Int)).map V.int))=H3 at m3
    have N3:=Ns.same m3
    have ho3:=m3 _ _ hos
    have ed:((List.range b).map λ(c:Nat)=>((c*vR (zs.map (·.2)) b c m:Nat):Int)).sum=((tot (gd (zs.map (·.2)) b) (fw (λc=>c) 1 b) m:Nat):Int):=by rw [zba,zdo b2]
    rw [ed]
    refine⟨_,rfl,r,_,_,.int b,rfl,rfl,SqT.of N3.R.all.tu,rfl,_,_,rfl,rfl,_,rfl,_,rfl,r,_,_,.int b,rfl,rfl,SqT.of N3.R.all.tu,rfl,st,p,ds,b,rfl,N3.st,by omega,N3.lt,λx1 H10 hx1 _ q10 lt10=>?_⟩
    have N10:=N3.fr ⟨q10,lt10⟩
    have ho10:=Fr.get ⟨q10,lt10⟩ (nst N3.st ho3 voa) (N3.lt.lst ho3) ho3
    refine⟨_,rfl,_,rfl,r,_,_,.int b,rfl,rfl,SqT.of N10.R.all.tu,rfl,st,p,ds,b,rfl,N10.st,by omega,N10.lt,λx2 H11 hx2 _ q11 lt11=>?_⟩
    have N11:=N10.fr ⟨q11,lt11⟩
    have ho11:=Fr.get ⟨q11,lt11⟩ (nst N10.st ho10 voa) (N10.lt.lst ho10) ho10
    refine⟨(by show 5<=sizeLine;decide),λsm hsm=>?_⟩
    obtain⟨cs,ecs,hcs⟩:∃ cs:List Nat,([V.int 0,V.int 1,V.int ((b:Int)-1),V.int x1,V.int x2]:List V)=cs.map (λc:Nat=>V.int (c:Int))/\∀ c∈cs,c<b:=⟨[0,1,b-1,x1,x2],by simp;omega,by simp;omega⟩
    dsimp only
    rw [ecs]
    have m12:=zj hsm (o:=.lst (cs.map (λc:Nat=>V.int (c:Int))))
    have N12:=N11.same m12
    have ho12:=m12 _ _ ho11
    have hs12:(upd H11 sm (.lst (cs.map (λc:Nat=>V.int (c:Int))))) sm=some (.lst (cs.map (λc:Nat=>V.int (c:Int)))):=zf
    generalize upd H11 sm (.lst (cs.map (λc:Nat=>V.int (c:Int))))=H12 at N12 ho12 hs12
    refine⟨2,rfl,by decide,by decide,yH (lo:=0) (n:=2) (λl Z He=>∃ v11 v12:Option V,Z=[some (.ref a),some (.ref st),some (.int (0+(i:Int))),some (.ref r),some (.ref r'),some (.ref rd),some (.int (0+(j:Int))),some (.int m),some (.ref oa),some (.int (tot (gd (zs.map (·.2)) b) (fw (λc=>c) 1 b) m:Nat)),some (.ref sm),v11,v12]/\Now P w T0 st p ds r b bl zs r' bl' zs' rd tl dd ts He/\He oa=some (.lst (vec b λd=>vR (zs.map (·.2)) b d m))/\He sm=some (.lst (cs.map (λc:Nat=>V.int (c:Int))))) ⟨_,_,rfl,N12,ho12,hs12⟩ ?_ ?_⟩
    ·rintro l Z He hl ⟨v11,v12,rfl,Ne,hoe,hse⟩
     refine⟨_,rfl,_,rfl,r',b,bl',zs',m,rfl,Ne.R'.all,g',⟨hq8,by omega⟩,Ne.lt,λv Hf hv sf ltf=>?_⟩
     rw [e5] at hv
     have hv:v=.int ((tot (gd (zs.map (·.2)) b) (fw (λc=>c) 1 b) m:Nat):Int):=hv
     subst hv
     refine⟨_,rfl,_,_,rfl,_,rfl,?_⟩
     have Nf:=Ne.sameL sf ltf
     have hof:=sf _ _ (Ne.lt.lst hoe) hoe
     have hsf:=sf _ _ (Ne.lt.lst hse) hse
     rw [decide_eq_true rfl]
     refine xX ⟨_,rfl,_,rfl,Vr b (zs'.map (·.2)),Vr b (zs.map (·.2)),TrAt.rule Nf.R'.all,TrAt.rule Nf.R.all,Jo _ _,_,rfl,?_⟩
     rw [e5,Wt]
     refine xX ⟨_,rfl,sm,rfl,⟨_,SqL.of hsf⟩,Z6 (K:=K) (a:=sm) (xs:=cs.map (λc:Nat=>V.int (c:Int))) (λq Z Hg=>∃ v12:Option V,Z=[some (.ref a),some (.ref st),some (.int (0+(i:Int))),some (.ref r),some (.ref r'),some (.ref rd),some (.int (0+(j:Int))),some (.int m),some (.ref oa),some (.int (tot (gd (zs.map (·.2)) b) (fw (λc=>c) 1 b) m:Nat)),some (.ref sm),some (.int (0+(l:Int))),v12]/\Now P w T0 st p ds r b bl zs r' bl' zs' rd tl dd ts Hg/\Hg oa=some (.lst (vec b λd=>vR (zs.map (·.2)) b d m))/\Hg sm=some (.lst (cs.map (λc:Nat=>V.int (c:Int))))) ⟨_,rfl,Nf,hof,hsf⟩ (λq Z Hg _ ⟨_,_,_,_,h⟩=>SqL.of h) ?_ ?_⟩
     ·rintro q z Z Hg hz ⟨v12,rfl,Ng,hog,hsg⟩
      rw [List.getElem?_map] at hz
      obtain⟨c,hc,rfl⟩:=Option.map_eq_some_iff.mp hz
      have hcb:=hcs c (List.mem_of_getElem? hc)
      refine⟨_,rfl,_,rfl,_,rfl,r',b,bl',zs',m,c,rfl,Ng.R'.all,g',⟨hq8,by omega⟩,hcb,Ng.lt,λHh sh lth=>?_⟩
      have Nh:=Ng.sameL sh lth
      have hoh:=sh _ _ (Ng.lt.lst hog) hog
      have hsh:=sh _ _ (Ng.lt.lst hsg) hsg
      refine⟨_,rfl,_,rfl,oa,_,_,.int ((vR (zs.map (·.2)) b c m:Nat):Int),rfl,rfl,SqL.of hoh,yI (Yd hcb),_,_,rfl,_,rfl,?_⟩
      have hd:decide (((tot (gd (zs.map (·.2)) b) (fw (one c) 1 b) m:Nat):Int)=((vR (zs.map (·.2)) b c m:Nat):Int))=true:=decide_eq_true rfl
      rw [e5,hd]
      exact xX ⟨_,rfl,Nh,hoh,hsh⟩
     ·rintro Z Hg ⟨v12,rfl,Ng,hog,hsg⟩
      refine⟨_,rfl,_,rfl,Vr b (zs'.map (·.2)),Vr b (zs.map (·.2)),TrAt.rule Ng.R'.all,TrAt.rule Ng.R.all,Jo _ _,_,rfl,?_⟩
      rw [e5,Wt]
      exact xX ⟨_,_,rfl,Ng,hog,hsg⟩
    ·rintro Z He ⟨v11,v12,rfl,Ne,_,_⟩
     exact⟨_,_,_,_,_,_,_,rfl,Ne⟩
   ·rintro Z H7 ⟨v6,v7,v8,v9,v10,v11,v12,rfl,N7⟩
    exact⟨_,_,_,_,_,_,_,_,_,_,_,rfl,N7.st,N7.lt⟩
  ·rintro Z H3 ⟨v2,v3,v4,v5,v6,v7,v8,v9,v10,v11,v12,rfl,S3,lt3⟩
   have pre11:zfR [] 10 11:=⟨Nat.lt_of_le_of_lt (show 11<=2^9 by decide) (Nat.pow_lt_pow_right (by decide) (by decide)),Nat.le_trans (jY (by decide) 9 11 (by decide)) (by decide)⟩
   refine⟨(by decide:0<=sizeLine),λa5 h5=>⟨(by show 2<=sizeLine;decide),λa6 h6=>?_⟩⟩
   have q5:=zj h5 (o:=.lst [])
   have q6:=zj h6 (o:=.tup [.int 10,.ref a5])
   refine⟨a6,10,a5,[],11,rfl,⟨zf,q6 _ _ zf,λz hz=>by cases hz⟩,zej,pre11,(lt3.same q5).same q6,λv H4 hv s4 lt4=>?_⟩
   rw [hv,show tot (gd (([]:ZB).map (·.2)) 10) (fw (λc=>c) 1 10) 11=46 from v46]
   refine⟨rfl,_,rfl,vL ?_⟩
   refine⟨(by decide:0<=sizeLine),λa7 h7=>⟨(by show 2<=sizeLine;decide),λa8 h8=>?_⟩⟩
   have q7:=zj h7 (o:=.lst [])
   have q8:=zj h8 (o:=.tup [.int 10,.ref a7])
   refine⟨a8,10,a7,[],11,0,rfl,⟨zf,q8 _ _ zf,λz hz=>by cases hz⟩,zej,pre11,by decide,(lt4.same q7).same q8,λH5 s5 lt5=>?_⟩
   rw [show tot (gd (([]:ZB).map (·.2)) 10) (fw (one 0) 1 10) 11=2 from zhg]
   exact⟨rfl,kk H5⟩
end
open PySem L2
theorem fb1 {P:List Value->Prop} (h:∀ a,P [a]):∀ us:List Value,us.length=1->P us
 | [a],_=>h a
theorem fb2 {P:List Value->Prop} (h:∀ a b,P [a,b]):∀ us:List Value,us.length=2->P us
 | [a,b],_=>h a b
theorem fb3 {P:List Value->Prop} (h:∀ a b c,P [a,b,c]):∀ us:List Value,us.length=3->P us
 | [a,b,c],_=>h a b c
def FF (K:W.Frag) (n q:Str) (st:Stmt) (f:Addr) (cd:Value):Prop:=∃ (od an:Option Addr) (sl:Array (Option Value)) (oc kV dc pm ct:Value),K.lookup f=some ⟨oc,od,.func (W.fnOf n q (vP st) (xU st) (zu st) .none kV dc pm an cd ct),sl⟩/\W.codeIn K cd q=true/\W.keepIn K (.ref f)=true
def FD (K:W.Frag) (n:Str) (st:Stmt):Prop:=∃ (f:Addr) (cd:Value),W.nsIn K mainGlobals n=some (some (.ref f))/\FF K n n st f cd
def FM (K:W.Frag) (C:Addr) (n q:Str) (st:Stmt):Prop:=∃ (f:Addr) (cd:Value),W.findIn K (.ref C) n=some (some (.ref f))/\W.isFn K (.ref f)=true/\FF K n q st f cd
section
variable {K:W.Frag} {n q:Str} {st:Stmt} {f C:Addr} {cd:Value} {od an:Option Addr} {sl:Array (Option Value)} {oc kV dc pm ct:Value}
theorem fdm (a:W.nsIn K mainGlobals n=some (some (.ref f))) (l:K.lookup f=some ⟨oc,od,.func (W.fnOf n n (vP st) (xU st) (zu st) .none kV dc pm an cd ct),sl⟩) (e:W.codeIn K cd n=true) (k:W.keepIn K (.ref f)=true):FD K n st:=⟨f,cd,a,od,an,sl,oc,kV,dc,pm,ct,l,e,k⟩
theorem fmm (a:W.findIn K (.ref C) n=some (some (.ref f))) (i:W.isFn K (.ref f)=true) (l:K.lookup f=some ⟨oc,od,.func (W.fnOf n q (vP st) (xU st) (zu st) .none kV dc pm an cd ct),sl⟩) (e:W.codeIn K cd q=true) (k:W.keepIn K (.ref f)=true):FM K C n q st:=⟨f,cd,a,i,od,an,sl,oc,kV,dc,pm,ct,l,e,k⟩
def FB (n q:Str) (st:Stmt) (ps:List Str):Prop:=∀ (kV doc pm:Value) (an:Option Addr) (cdv ct:Value) (us:List Value),us.length=ps.length->bindArgs (W.fnOf n q (vP st) (xU st) (zu st) .none kV doc pm an cdv ct) ⟨us,[]⟩=pure (ps.zip us)
theorem FD.df {h:Heap} {mg:Str->Option Value} {ps:List Str} (x:FD K n st) (X:K.In h) (G:h.Ns mainGlobals mg) (b:FB n n st ps):∃ f fd,Df K mg n st ps f fd:=by
 obtain⟨f,cd,a,od,an,sl,oc,kV,dc,pm,ct,l,e,k⟩:=x
 exact⟨_,_,zdv X G a l e k b⟩
theorem FM.mt {ps:List Str} (x:FM K C n q st) (b:FB n q st ps):∃ f fd,Mt K C q n st ps f fd:=by
 obtain⟨f,cd,a,i,od,an,sl,oc,kV,dc,pm,ct,l,e,k⟩:=x
 exact⟨_,_,⟨JL (st:=st) l e k,(JL (st:=st) l e k).binds b,⟨a,i,k⟩⟩⟩
end
set_option maxHeartbeats 0 in
theorem zf1 {l:W.OpenLaw} {w:World} {K:W.Frag} {h:Heap} {mg:Str->Option Value} {fa T0 c0:Addr} (X:K.In h) (G:h.Ns mainGlobals mg) (hfa:mg "law" = some (.ref fa)) (hcT:W.codeHdIn K c0 T0=true) (hgT:mainGlobals≠T0)
  (x0:FD K "_wall" zeN)
  (x1:FD K "is_whole" ut)
  (x2:FD K "is_number" Zt)
  (x3:FD K "is_base" ZM)
  (x4:FD K "is_figure" jb)
  (x5:FD K "are_figures" wR)
  (x6:FD K "writes_number" um)
  (x7:FD K "is_stretch" jH)
  (x8:FD K "is_rising" jg)
  (x9:FD K "is_bad_list" ud)
  (x10:FD K "is_rule" Xq)
  (x11:FD K "check_base" uK)
  (x12:FD K "check_number" tG)
  (x13:FD K "check_rule" uN)
  (x14:FD K "stands_within" wO)
  (x15:FD K "lacks_all" vm)
  (x16:FD K "figures_of" uO)
  (x17:FD K "number_by" Zo)
  (x18:FD K "begins_one" uL)
  (x19:FD K "longest_stand" uq)
  {f20:Addr} {od20 an20:Option Addr} {sl20:Array (Option Value)} {oc20 kV20 dc20 pm20 ct20:Value} (a20:W.nsIn K mainGlobals "stands_of" = some (some (.ref f20)))
  (l20:K.lookup f20=some ⟨oc20,od20,.func (W.fnOf "stands_of" "stands_of" (vP yx) (xU yx) (zu yx) .none kV20 dc20 pm20 an20 (.ref c0) ct20),sl20⟩) (e20:W.codeIn K (.ref c0) "stands_of" = true) (k20:W.keepIn K (.ref f20)=true)
  (x21:FD K "place_behind" u9)
  (x22:FD K "steps_from" uU)
  (x23:FD K "all_steps" jd)
  (x24:FD K "weights_by_left" xH)
  (x25:FD K "figures_below" uo)
  (x26:FD K "often_below" ue)
  (x27:FD K "figures_in" vQ)
  (x28:FD K "read_number" qM)
  (x29:FD K "_law_draws" jx)
  (x30:FD K "_law_take" vJ)
  (x31:FD K "_law_rule" qW)
  (x32:FD K "_law_copy" qT)
  (x33:FD K "_law_number" qL)
  (x34:FD K "_law_figures" xn)
  (x35:FD K "_law_is_good" uY)
  (x36:FD K "_law_reader" uh)
  (x37:FD K "_law_after" yE)
  (x38:FD K "_law_oftens" wX)
  (x39:FD K "_law_from" xN)
  (x40:FD K "_law_often_below" yh)
  (x41:FD K "_law_read" Ze)
  (x42:FD K "_law_whole" jy)
  (x43:FD K "_law_small_right" wH)
  (x44:FD K "law" Vu)
  {C:Addr} (aC:W.nsIn K mainGlobals "Tails" = some (some (.ref C)))
  (yC0:FM K C "__init__" "Tails.__init__" qj)
  (yC1:FM K C "layer" "Tails.layer" wW)
  (yC2:FM K C "many_by" "Tails.many_by" xu)
  (yC3:FM K C "many_under" "Tails.many_under" Wh)
  (yC4:FM K C "many_below" "Tails.many_below" Wk)
  (yC5:FM K C "many_within" "Tails.many_within" wg)
  (yC6:FM K C "figure_at" "Tails.figure_at" WQ)
  (yC7:FM K C "number_at" "Tails.number_at" Wu)
  (yC8:FM K C "are_endless" "Tails.are_endless" Xy)
  (pgC:W.plainGet K C Str.empty=true) (hdC:W.hasDictIn K C=true) (poC:W.plainOver K C=true) (saC:W.findIn K (.ref C) "__setattr__" = some (some (.builtin "object.__setattr__"))) (mkC:W.makesIn K C=true) (kcC:W.keepIn K (.ref C)=true)
  (nC_base:W.findIn K (.ref C) "base" = some none)
  (nC_outset:W.findIn K (.ref C) "outset" = some none)
  (nC_steps:W.findIn K (.ref C) "steps" = some none)
  (nC_layers:W.findIn K (.ref C) "layers" = some none)
  {CS:Addr} (aCS:W.nsIn K mainGlobals "Totals" = some (some (.ref CS)))
  (yCS0:FM K CS "__init__" "Totals.__init__" tO)
  (yCS1:FM K CS "longer_layer" "Totals.longer_layer" yS)
  (yCS2:FM K CS "weight_of" "Totals.weight_of" xq)
  (yCS3:FM K CS "total_under" "Totals.total_under" yX)
  (yCS4:FM K CS "total_below" "Totals.total_below" yV)
  (yCS5:FM K CS "total_within" "Totals.total_within" YM)
  (pgCS:W.plainGet K CS Str.empty=true) (hdCS:W.hasDictIn K CS=true) (poCS:W.plainOver K CS=true) (saCS:W.findIn K (.ref CS) "__setattr__" = some (some (.builtin "object.__setattr__"))) (mkCS:W.makesIn K CS=true) (kcCS:W.keepIn K (.ref CS)=true)
  (nCS_tails:W.findIn K (.ref CS) "tails" = some none)
  (nCS_weights:W.findIn K (.ref CS) "weights" = some none)
  (nCS_layers:W.findIn K (.ref CS) "layers" = some none)
  {t0:Tok} (g0:W.nsIn K mainGlobals "LEAST_BASE" = some (some (.int 2 t0)))
  {t1:Tok} (g1:W.nsIn K mainGlobals "GREATEST_BASE" = some (some (.int 16 t1)))
  {t2:Tok} (g2:W.nsIn K mainGlobals "MOST_STRETCHES" = some (some (.int 4 t2)))
  {t3:Tok} (g3:W.nsIn K mainGlobals "LONGEST_STRETCH" = some (some (.int 4 t3)))
  {t4:Tok} (g4:W.nsIn K mainGlobals "SIGNS" = some (some (.str "0123456789abcdef" t4)))
  (z0:W.nsIn K mainGlobals "isinstance" = some none)
  (z1:W.nsIn K mainGlobals "int" = some none)
  (z2:W.nsIn K mainGlobals "bool" = some none)
  (z3:W.nsIn K mainGlobals "list" = some none)
  (z4:W.nsIn K mainGlobals "tuple" = some none)
  (z5:W.nsIn K mainGlobals "reversed" = some none)
  (z6:W.nsIn K mainGlobals "len" = some none)
  (z7:W.nsIn K mainGlobals "max" = some none)
  (z8:W.nsIn K mainGlobals "min" = some none)
  (z9:W.nsIn K mainGlobals "range" = some none)
  (z10:W.nsIn K mainGlobals "all" = some none)
  (z11:W.nsIn K mainGlobals "any" = some none)
  (z12:W.nsIn K mainGlobals "sorted" = some none)
  (z13:W.nsIn K mainGlobals "enumerate" = some none)
  (z14:W.nsIn K mainGlobals "repr" = some none)
  (z15:W.nsIn K mainGlobals "sum" = some none)
  (z16:W.nsIn K mainGlobals "abs" = some none)
  (z17:W.nsIn K mainGlobals "zip" = some none)
  (z18:W.nsIn K mainGlobals "str" = some none)
  : ∃ fd:FuncData,(∀ (s:Shared) (v:Value),BindsTo s fd ⟨[v],[]⟩ [("script",v)])/\∀ base:Heap,K.In base->base.Ns mainGlobals mg->base.BuiltinsAt mg T0->FnOk l.prog w K mg base CX0 415 fa fd ["script"] (zao K T0):=by
 obtain⟨fL,cd44,aL,od44,an44,sl44,oc44,kV44,dc44,pm44,ct44,lL,eL,kL⟩:=x44
 have e:=hfa.symm.trans (W.mg_of X G aL)
 cases e
 have T:Blt mg:=⟨W.mg_none_of X G z0,W.mg_none_of X G z1,W.mg_none_of X G z2,W.mg_none_of X G z3,W.mg_none_of X G z4,W.mg_none_of X G z5,W.mg_none_of X G z6,W.mg_none_of X G z7,W.mg_none_of X G z8,W.mg_none_of X G z9,W.mg_none_of X G z10,W.mg_none_of X G z11,W.mg_none_of X G z12,W.mg_none_of X G z13,W.mg_none_of X G z14⟩
 have U:Vh mg:=⟨W.mg_none_of X G z15,W.mg_none_of X G z16,W.mg_none_of X G z17,W.mg_none_of X G z18⟩
 have YB:=W.mg_of X G g0
 have jo:=W.mg_of X G g1
 have qD:=W.mg_of X G g2
 have uX:=W.mg_of X G g3
 have V5:=W.mg_of X G g4
 obtain⟨_,_,D_wall⟩:=x0.df (ps:=["k"]) X G λ_ _ _ _ _ _=>fb1 λ_=>rfl
 obtain⟨_,_,yQ⟩:=x1.df (ps:=["thing"]) X G λ_ _ _ _ _ _=>fb1 λ_=>rfl
 obtain⟨_,_,jV⟩:=x2.df (ps:=["thing"]) X G λ_ _ _ _ _ _=>fb1 λ_=>rfl
 obtain⟨_,_,jQ⟩:=x3.df (ps:=["thing"]) X G λ_ _ _ _ _ _=>fb1 λ_=>rfl
 obtain⟨_,_,uw⟩:=x4.df (ps:=["base","thing"]) X G λ_ _ _ _ _ _=>fb2 λ_ _=>rfl
 obtain⟨_,_,wI⟩:=x5.df (ps:=["base","thing"]) X G λ_ _ _ _ _ _=>fb2 λ_ _=>rfl
 obtain⟨_,_,uM⟩:=x6.df (ps:=["base","thing"]) X G λ_ _ _ _ _ _=>fb2 λ_ _=>rfl
 obtain⟨_,_,Zh⟩:=x7.df (ps:=["base","thing"]) X G λ_ _ _ _ _ _=>fb2 λ_ _=>rfl
 obtain⟨_,_,jX⟩:=x8.df (ps:=["stretches"]) X G λ_ _ _ _ _ _=>fb1 λ_=>rfl
 obtain⟨_,_,jA⟩:=x9.df (ps:=["base","thing"]) X G λ_ _ _ _ _ _=>fb2 λ_ _=>rfl
 obtain⟨_,_,WD⟩:=x10.df (ps:=["thing"]) X G λ_ _ _ _ _ _=>fb1 λ_=>rfl
 obtain⟨_,_,vA⟩:=x11.df (ps:=["thing"]) X G λ_ _ _ _ _ _=>fb1 λ_=>rfl
 obtain⟨_,_,qG⟩:=x12.df (ps:=["thing"]) X G λ_ _ _ _ _ _=>fb1 λ_=>rfl
 obtain⟨_,_,vI⟩:=x13.df (ps:=["thing"]) X G λ_ _ _ _ _ _=>fb1 λ_=>rfl
 obtain⟨_,_,vq⟩:=x14.df (ps:=["stretch","figures"]) X G λ_ _ _ _ _ _=>fb2 λ_ _=>rfl
 obtain⟨_,_,xV⟩:=x15.df (ps:=["bad","figures"]) X G λ_ _ _ _ _ _=>fb2 λ_ _=>rfl
 obtain⟨_,_,vG⟩:=x16.df (ps:=["base","n"]) X G λ_ _ _ _ _ _=>fb2 λ_ _=>rfl
 obtain⟨_,_,Yi⟩:=x17.df (ps:=["base","figures"]) X G λ_ _ _ _ _ _=>fb2 λ_ _=>rfl
 obtain⟨_,_,je⟩:=x18.df (ps:=["bad","figures"]) X G λ_ _ _ _ _ _=>fb2 λ_ _=>rfl
 obtain⟨_,_,tL⟩:=x19.df (ps:=["bad","figures"]) X G λ_ _ _ _ _ _=>fb2 λ_ _=>rfl
 have Yu:Df K mg "stands_of" yx ["bad"] _ _:=zdv X G a20 l20 e20 k20 λ_ _ _ _ _ _=>fb1 λ_=>rfl
 obtain⟨_,_,qI⟩:=x21.df (ps:=["bad","stands","figures"]) X G λ_ _ _ _ _ _=>fb3 λ_ _ _=>rfl
 obtain⟨_,_,Zr⟩:=x22.df (ps:=["rule","stands","stand"]) X G λ_ _ _ _ _ _=>fb3 λ_ _ _=>rfl
 obtain⟨_,_,Ye⟩:=x23.df (ps:=["rule","stands"]) X G λ_ _ _ _ _ _=>fb2 λ_ _=>rfl
 obtain⟨_,_,vO⟩:=x24.df (ps:=["weights","scale","size"]) X G λ_ _ _ _ _ _=>fb3 λ_ _ _=>rfl
 obtain⟨_,_,vf⟩:=x25.df (ps:=["rule","n"]) X G λ_ _ _ _ _ _=>fb2 λ_ _=>rfl
 obtain⟨_,_,uT⟩:=x26.df (ps:=["rule","n","figure"]) X G λ_ _ _ _ _ _=>fb3 λ_ _ _=>rfl
 obtain⟨_,_,Zm⟩:=x27.df (ps:=["thing"]) X G λ_ _ _ _ _ _=>fb1 λ_=>rfl
 obtain⟨_,_,jE⟩:=x28.df (ps:=["base","text"]) X G λ_ _ _ _ _ _=>fb2 λ_ _=>rfl
 obtain⟨_,_,jf⟩:=x29.df (ps:=["script","many"]) X G λ_ _ _ _ _ _=>fb2 λ_ _=>rfl
 obtain⟨_,_,zJ⟩:=x30.df (ps:=["store","many"]) X G λ_ _ _ _ _ _=>fb2 λ_ _=>rfl
 obtain⟨_,_,Yr⟩:=x31.df (ps:=["store"]) X G λ_ _ _ _ _ _=>fb1 λ_=>rfl
 obtain⟨_,_,j5⟩:=x32.df (ps:=["rule"]) X G λ_ _ _ _ _ _=>fb1 λ_=>rfl
 obtain⟨_,_,jB⟩:=x33.df (ps:=["store","base"]) X G λ_ _ _ _ _ _=>fb2 λ_ _=>rfl
 obtain⟨_,_,yd⟩:=x34.df (ps:=["base","n"]) X G λ_ _ _ _ _ _=>fb2 λ_ _=>rfl
 obtain⟨_,_,qH⟩:=x35.df (ps:=["rule","n"]) X G λ_ _ _ _ _ _=>fb2 λ_ _=>rfl
 obtain⟨_,_,u6⟩:=x36.df (ps:=["rule"]) X G λ_ _ _ _ _ _=>fb1 λ_=>rfl
 obtain⟨_,_,zV⟩:=x37.df (ps:=["reader","stand","figure"]) X G λ_ _ _ _ _ _=>fb3 λ_ _ _=>rfl
 obtain⟨_,_,vU⟩:=x38.df (ps:=["reader","stand","left","memory"]) X G λ_ _ _ _ _ _ us hl=>match us,hl with | [_,_,_,_],_=>rfl
 obtain⟨_,_,yL⟩:=x39.df (ps:=["reader","stand","left","ends","memory"]) X G λ_ _ _ _ _ _ us hl=>match us,hl with | [_,_,_,_,_],_=>rfl
 obtain⟨_,_,w5⟩:=x40.df (ps:=["reader","n"]) X G λ_ _ _ _ _ _=>fb2 λ_ _=>rfl
 obtain⟨_,_,Yj⟩:=x41.df (ps:=["store","base"]) X G λ_ _ _ _ _ _=>fb2 λ_ _=>rfl
 obtain⟨_,_,uG⟩:=x42.df (ps:=["found","due"]) X G λ_ _ _ _ _ _=>fb2 λ_ _=>rfl
 obtain⟨_,_,wZ⟩:=x43.df (ps:=["rule","n","often"]) X G λ_ _ _ _ _ _=>fb3 λ_ _ _=>rfl
 have Dlaw:Df K mg "law" Vu ["script"] _ _:=zdv X G aL lL eL kL λ_ _ _ _ _ _=>fb1 λ_=>rfl
 obtain⟨_,_,ju⟩:=yC0.mt (ps:=["self","rule"]) λ_ _ _ _ _ _=>fb2 λ_ _=>rfl
 have zbP:Mk K C _:=let ⟨a,i,_⟩:=ju.m;⟨mkC,a,i,kcC⟩
 have zbu:=ju.b
 obtain⟨_,_,xJ⟩:=yC1.mt (ps:=["self","left"]) λ_ _ _ _ _ _=>fb2 λ_ _=>rfl
 obtain⟨_,_,yW⟩:=yC2.mt (ps:=["self","layer","place","stop"]) λ_ _ _ _ _ _ us hl=>match us,hl with | [_,_,_,_],_=>rfl
 obtain⟨_,_,zb3⟩:=yC3.mt (ps:=["self","place","stop","left"]) λ_ _ _ _ _ _ us hl=>match us,hl with | [_,_,_,_],_=>rfl
 obtain⟨_,_,zb5⟩:=yC4.mt (ps:=["self","figures"]) λ_ _ _ _ _ _=>fb2 λ_ _=>rfl
 obtain⟨_,_,wG⟩:=yC5.mt (ps:=["self","size"]) λ_ _ _ _ _ _=>fb2 λ_ _=>rfl
 obtain⟨_,_,zcA⟩:=yC6.mt (ps:=["self","place","k","left"]) λ_ _ _ _ _ _ us hl=>match us,hl with | [_,_,_,_],_=>rfl
 obtain⟨_,_,zcG⟩:=yC7.mt (ps:=["self","size","k"]) λ_ _ _ _ _ _=>fb3 λ_ _ _=>rfl
 obtain⟨_,_,zbX⟩:=yC8.mt (ps:=["self"]) λ_ _ _ _ _ _=>fb1 λ_=>rfl
 have zK:ClT K mg C:=⟨⟨pgC,hdC,poC,saC⟩,W.mg_of X G aC,nC_base,nC_outset,nC_steps,nC_layers⟩
 obtain⟨_,_,qx⟩:=yCS0.mt (ps:=["self","rule","weights","scale","size"]) λ_ _ _ _ _ _ us hl=>match us,hl with | [_,_,_,_,_],_=>rfl
 have Xo:Mk K CS _:=let ⟨a,i,_⟩:=qx.m;⟨mkCS,a,i,kcCS⟩
 have Xn:=qx.b
 obtain⟨_,_,xM⟩:=yCS1.mt (ps:=["self","left"]) λ_ _ _ _ _ _=>fb2 λ_ _=>rfl
 obtain⟨_,_,yM⟩:=yCS2.mt (ps:=["self","behind","figure","left"]) λ_ _ _ _ _ _ us hl=>match us,hl with | [_,_,_,_],_=>rfl
 obtain⟨_,_,yw⟩:=yCS3.mt (ps:=["self","place","stop","left","ahead"]) λ_ _ _ _ _ _ us hl=>match us,hl with | [_,_,_,_,_],_=>rfl
 obtain⟨_,_,yu⟩:=yCS4.mt (ps:=["self","figures"]) λ_ _ _ _ _ _=>fb2 λ_ _=>rfl
 obtain⟨_,_,zaU⟩:=yCS5.mt (ps:=["self","size"]) λ_ _ _ _ _ _=>fb2 λ_ _=>rfl
 have zH:ClS K mg CS:=⟨⟨pgCS,hdCS,poCS,saCS⟩,W.mg_of X G aCS,nCS_tails,nCS_weights,nCS_layers⟩
 refine⟨W.fnOf "law" "law" (vP Vu) (xU Vu) (zu Vu) .none kV44 dc44 pm44 an44 cd44 ct44,λs v=>.of_eq rfl,λbase _ _ hBM=>?_⟩
 have jJ:FnOk l.prog w K mg base CX0 1 _ _ Aa qX:=Zk yQ T
 have ZW:FnOk l.prog w K mg base CX0 2 _ _ Aa Yw:=zbl jQ yQ T YB jo
 have uH:FnOk l.prog w K mg base CX0 3 _ _ Aa qO:=Qy vA jQ ZW
 have Qg:FnOk l.prog w K mg base CX0 2 _ _ Aa Yc:=WX jV yQ T
 have ZL:FnOk l.prog w K mg base CX0 3 _ _ Aa jn:=VM qG jV yQ T
 have uE:FnOk l.prog w K mg base CX0 4 _ _ Ad qQ:=QL vG vA uH qG ZL T
 have qt:FnOk l.prog w K mg base CX0 2 _ _ Ab jC:=Jz uw yQ T
 have vK:FnOk l.prog w K mg base CX0 3 _ _ Ab uQ:=Ui wI uw qt T
 have YT:FnOk l.prog w K mg base CX0 4 _ _ Ab Zz:=QG Zh wI vK uX T
 have Qj:FnOk l.prog w K mg base CX0 1 _ _ As Yv:=WL jX T
 have Ys:FnOk l.prog w K mg base CX0 5 _ _ Ab jK:=UV jA Zh YT jX qD T
 have Qm:FnOk l.prog w K mg base CX0 6 _ _ Aa X8:=zbB WD jQ ZW jA Ys T
 have uF:FnOk l.prog w K mg base CX0 7 _ _ Aa qN:=QQ vI WD Qm
 have Xg:FnOk l.prog w K mg base CX0 1 _ _ Ax qe:=ZX vq T
 have wL:FnOk l.prog w K mg base CX0 2 _ _ Ac tQ:=zal xV vq T
 have Vy:FnOk l.prog w K mg base CX0 1 _ _ Ac ZD:=XQ je T
 have jP:FnOk l.prog w K mg base CX0 3 _ _ Ac qm:=W7 tL xV wL je T
 have Wn:FnOk l.prog w K mg base CX0 6 _ _ ["bad"] (YF T0):=JH Yu rfl hcT hBM hgT xV wL T
 have ZF:FnOk l.prog w K mg base CX0 4 _ _ Ay jr:=V0 qI tL jP
 have Xa:FnOk l.prog w K mg base CX0 5 _ _ At Zx:=QR Zr qI ZF T
 have X4:FnOk l.prog w K mg base CX0 6 _ _ Az Yn:=J2 Ye Zr Xa T
 have Xh:FnOk l.prog w K mg base CX0 1 _ _ An (Wj C):=Qf yW zK T U
 have uJ:FnOk l.prog w K mg base CX0 2 _ _ Ae (Ww C):=zaZ xJ yW zK T U
 have uv:FnOk l.prog w K mg base CX0 3 _ _ Au (j8 C):=Qt wG xJ yW zK T U
 have Y6:FnOk l.prog w K mg base CX0 7 _ _ A0 (WY T0 C):=zdJ ju Yu Wn Ye X4 xV wL zK T
 have tZ:FnOk l.prog w K mg base CX0 1 _ _ A1 uy:=Wl vO T
 have yZ:FnOk l.prog w K mg base CX0 1 _ _ Am (jG C CS):=JC yM zK zH
 have yP:FnOk l.prog w K mg base CX0 3 _ _ Ao (uR C CS):=Uq yw xJ uJ yM yZ zK zH T
 have vD:FnOk l.prog w K mg base CX0 4 _ _ Ae (jk C CS):=VN xM yw yP zK zH T
 have vM:FnOk l.prog w K mg base CX0 9 _ _ Ap (Z7 T0 C CS):=zcD qx zbP zbu Y6 vO tZ wG uv xM vD zK zH T
 have yR:FnOk l.prog w K mg base CX0 4 _ _ Aq (vz C CS):=U3 yu yw yP yM yZ zK zH T
 have uI:FnOk l.prog w K mg base CX0 12 _ _ Aj (qg T0):=W4 vf vI uF vG uE Xo Xn vM yu yR zH T
 have jz:FnOk l.prog w K mg base CX0 12 _ _ A2 (jM T0):=U7 uT vI uF vG uE uw qt Xo Xn vM yu yR zH T
 have WW:FnOk l.prog w K mg base CX0 1 _ _ Ag (j6 l.prog w):=YS u6 T
 have qZ:FnOk l.prog w K mg base CX0 1 _ _ Ai (qJ l.prog w):=ZG zV T
 have wU:FnOk l.prog w K mg base CX0 1 _ _ Ad wN:=ur yd T
 have wJ:FnOk l.prog w K mg base CX0 412 _ _ Al (w6 l.prog w 205):=Uz vU zV yL T U
 have vB:FnOk l.prog w K mg base CX0 413 _ _ Ah (vN l.prog w 205):=zar yL zV vU wJ T U
 have tU:FnOk l.prog w K mg base CX0 414 _ _ Ar (wj l.prog w 205):=Xv w5 yd zV yL vB T U
 have zT:FnOk l.prog w K mg base CX0 1 _ _ Af (vW T0):=tM zJ T
 have Vx:FnOk l.prog w K mg base CX0 1 _ _ A3 (ZC K):=XD jf T U
 have Wo:FnOk l.prog w K mg base CX0 2 _ _ ["store"] (Yk T0):=JG Yr zJ T
 have Yb:FnOk l.prog w K mg base CX0 2 _ _ Ak (jT T0):=U6 jB zJ T
 have j9:FnOk l.prog w K mg base CX0 4 _ _ Ab qF:=W9 uM wI vK T
 have Wd:FnOk l.prog w K mg base CX0 5 _ _ A4 Yq:=zak Yi vA uH uM j9 T
 have Y4:FnOk l.prog w K mg base CX0 1 _ _ Aa Zv:=QD Zm V5 T U
 have Yh:FnOk l.prog w K mg base CX0 6 _ _ Av jU:=Qo jE Yi Wd Zm Y4
 have Wa:FnOk l.prog w K mg base CX0 7 _ _ Ak (Yx T0):=J1 Yj zJ jE Yh T
 have Zy:FnOk l.prog w K mg base CX0 2 _ _ Aj ji:=VJ qH yd T
 have YQ:FnOk l.prog w K mg base CX0 1 _ _ Aw ZK:=XM uG T
 have Qa:FnOk l.prog w K mg base CX0 1 _ _ Ag YG:=WN j5 T
 have tH:FnOk l.prog w K mg base CX0 3 _ _ A5 vY:=Xx wZ qH Zy yd T
 exact zf0 Dlaw jf Yr Wo j5 u6 jB Yb Yj Wa w5 tU wZ tH uG vf uI uT jz zJ T U
theorem walk2 {l:W.OpenLaw} {q:Program} {loose:List Str} {XP:(Str->Option Value)->Heap->Prop} {YP:World->Heap->Prop} {d:DefRec} {K:Params->W.Frag} {c T0:Addr} (hn:l.most=some 63) (hdf:d.params.defaults=[])
  (hY:∀ (w:World) (h:Heap),YP w h->(K w.params).In h) (hYT:∀ (w:World) (h:Heap),YP w h->h.get? T0=some (W.tabObj #[])) (hKT:∀ w:World,(K w.params).lookup T0=none) (hcT:∀ w:World,W.codeHdIn (K w.params) c T0=true)
  (F:∀ (w:World) (mg:Str->Option Value) (fa:Addr) (h:Heap),(K w.params).In h->h.Ns mainGlobals mg->mg d.name=some (.ref fa) ->
   ∃ fd:FuncData,(∀ (s:Shared) (u:Value),BindsTo s fd ⟨[u],[]⟩ [("script",u)])/\∀ base:Heap,(K w.params).In base->base.Ns mainGlobals mg->base.BuiltinsAt mg T0->FnOk l.prog w (K w.params) mg base CX0 415 fa fd ["script"] (zao (K w.params) T0)) :
  W.WalkO q loose XP YP l.row.toRowW d [] (λf vs=>PySem.call f vs) :=
 L2.zgc (n:=63) (k:=415) (x:="script") (sp:=λw=>zao (K w.params) T0) hn (by decide) hdf ⟨rfl,by decide,by decide,rfl⟩ hY hYT hKT hcT F (λw H a ns hl hT hS=>⟨a,ns,rfl,hS,hl,.inl hT,λ_=>rfl⟩)
end Lw
open PySem PySem.W PyProof.Rows
set_option maxRecDepth 100000 in
set_option maxHeartbeats 0 in
theorem PySem.Challenge.cw_lackstretch_k19_figures_of_good_ones_holds : PySem.Challenge.rw_lackstretch_k19_figures_of_good_ones.Holds := by
 w_on;o_law;k_head;(case hw=>w_witness2)
 k_fill
 refine Lw.walk2 (l:=PySem.Challenge.rw_lackstretch_k19_figures_of_good_ones) (c:=221) (T0:=217) rfl rfl (λw h Y=>W.km_in_of Y) (λw h Y=>W.km_tabs_of Y 217 (by decide)) (λw=>by kernel_rfl) (λw=>by kernel_rfl) ?F
 case F =>
  intro w mg fa h KX G hmg
  refine' Lw.zf1 (c0:=221) (T0:=217) KX G hmg (by kernel_rfl) (by decide) ?yyx0 ?yyx1 ?yyx2 ?yyx3 ?yyx4 ?yyx5 ?yyx6 ?yyx7 ?yyx8 ?yyx9 ?yyx10 ?yyx11 ?yyx12 ?yyx13 ?yyx14 ?yyx15 ?yyx16 ?yyx17 ?yyx18 ?yyx19 ?yya20 ?yyl20 ?yye20 ?yyk20 ?yyx21 ?yyx22 ?yyx23 ?yyx24 ?yyx25 ?yyx26 ?yyx27 ?yyx28 ?yyx29 ?yyx30 ?yyx31 ?yyx32 ?yyx33 ?yyx34 ?yyx35 ?yyx36 ?yyx37 ?yyx38 ?yyx39 ?yyx40 ?yyx41 ?yyx42 ?yyx43 ?yyx44 ?yyaC ?yyyC0 ?yyyC1 ?yyyC2 ?yyyC3 ?yyyC4 ?yyyC5 ?yyyC6 ?yyyC7 ?yyyC8 ?yypgC ?yyhdC ?yypoC ?yysaC ?yymkC ?yykcC ?yynC_base ?yynC_outset ?yynC_steps ?yynC_layers ?yyaCS ?yyyCS0 ?yyyCS1 ?yyyCS2 ?yyyCS3 ?yyyCS4 ?yyyCS5 ?yypgCS ?yyhdCS ?yypoCS ?yysaCS ?yymkCS ?yykcCS ?yynCS_tails ?yynCS_weights ?yynCS_layers ?yyg0 ?yyg1 ?yyg2 ?yyg3 ?yyg4 ?yyz0 ?yyz1 ?yyz2 ?yyz3 ?yyz4 ?yyz5 ?yyz6 ?yyz7 ?yyz8 ?yyz9 ?yyz10 ?yyz11 ?yyz12 ?yyz13 ?yyz14 ?yyz15 ?yyz16 ?yyz17 ?yyz18
  (case yyx0=>refine' Lw.fdm ?_ ?_ ?_ ?_<;>try k_is)
  (case yyx1=>refine' Lw.fdm ?_ ?_ ?_ ?_<;>try k_is)
  (case yyx2=>refine' Lw.fdm ?_ ?_ ?_ ?_<;>try k_is)
  (case yyx3=>refine' Lw.fdm ?_ ?_ ?_ ?_<;>try k_is)
  (case yyx4=>refine' Lw.fdm ?_ ?_ ?_ ?_<;>try k_is)
  (case yyx5=>refine' Lw.fdm ?_ ?_ ?_ ?_<;>try k_is)
  (case yyx6=>refine' Lw.fdm ?_ ?_ ?_ ?_<;>try k_is)
  (case yyx7=>refine' Lw.fdm ?_ ?_ ?_ ?_<;>try k_is)
  (case yyx8=>refine' Lw.fdm ?_ ?_ ?_ ?_<;>try k_is)
  (case yyx9=>refine' Lw.fdm ?_ ?_ ?_ ?_<;>try k_is)
  (case yyx10=>refine' Lw.fdm ?_ ?_ ?_ ?_<;>try k_is)
  (case yyx11=>refine' Lw.fdm ?_ ?_ ?_ ?_<;>try k_is)
  (case yyx12=>refine' Lw.fdm ?_ ?_ ?_ ?_<;>try k_is)
  (case yyx13=>refine' Lw.fdm ?_ ?_ ?_ ?_<;>try k_is)
  (case yyx14=>refine' Lw.fdm ?_ ?_ ?_ ?_<;>try k_is)
  (case yyx15=>refine' Lw.fdm ?_ ?_ ?_ ?_<;>try k_is)
  (case yyx16=>refine' Lw.fdm ?_ ?_ ?_ ?_<;>try k_is)
  (case yyx17=>refine' Lw.fdm ?_ ?_ ?_ ?_<;>try k_is)
  (case yyx18=>refine' Lw.fdm ?_ ?_ ?_ ?_<;>try k_is)
  (case yyx19=>refine' Lw.fdm ?_ ?_ ?_ ?_<;>try k_is)
  (case yya20=>k_is)
  (case yyl20=>k_is)
  (case yye20=>k_is)
  (case yyk20=>k_is)
  (case yyx21=>refine' Lw.fdm ?_ ?_ ?_ ?_<;>try k_is)
  (case yyx22=>refine' Lw.fdm ?_ ?_ ?_ ?_<;>try k_is)
  (case yyx23=>refine' Lw.fdm ?_ ?_ ?_ ?_<;>try k_is)
  (case yyx24=>refine' Lw.fdm ?_ ?_ ?_ ?_<;>try k_is)
  (case yyx25=>refine' Lw.fdm ?_ ?_ ?_ ?_<;>try k_is)
  (case yyx26=>refine' Lw.fdm ?_ ?_ ?_ ?_<;>try k_is)
  (case yyx27=>refine' Lw.fdm ?_ ?_ ?_ ?_<;>try k_is)
  (case yyx28=>refine' Lw.fdm ?_ ?_ ?_ ?_<;>try k_is)
  (case yyx29=>refine' Lw.fdm ?_ ?_ ?_ ?_<;>try k_is)
  (case yyx30=>refine' Lw.fdm ?_ ?_ ?_ ?_<;>try k_is)
  (case yyx31=>refine' Lw.fdm ?_ ?_ ?_ ?_<;>try k_is)
  (case yyx32=>refine' Lw.fdm ?_ ?_ ?_ ?_<;>try k_is)
  (case yyx33=>refine' Lw.fdm ?_ ?_ ?_ ?_<;>try k_is)
  (case yyx34=>refine' Lw.fdm ?_ ?_ ?_ ?_<;>try k_is)
  (case yyx35=>refine' Lw.fdm ?_ ?_ ?_ ?_<;>try k_is)
  (case yyx36=>refine' Lw.fdm ?_ ?_ ?_ ?_<;>try k_is)
  (case yyx37=>refine' Lw.fdm ?_ ?_ ?_ ?_<;>try k_is)
  (case yyx38=>refine' Lw.fdm ?_ ?_ ?_ ?_<;>try k_is)
  (case yyx39=>refine' Lw.fdm ?_ ?_ ?_ ?_<;>try k_is)
  (case yyx40=>refine' Lw.fdm ?_ ?_ ?_ ?_<;>try k_is)
  (case yyx41=>refine' Lw.fdm ?_ ?_ ?_ ?_<;>try k_is)
  (case yyx42=>refine' Lw.fdm ?_ ?_ ?_ ?_<;>try k_is)
  (case yyx43=>refine' Lw.fdm ?_ ?_ ?_ ?_<;>try k_is)
  (case yyx44=>refine' Lw.fdm ?_ ?_ ?_ ?_<;>try k_is)
  (case yyaC=>k_is)
  (case yyyC0=>refine' Lw.fmm ?_ ?_ ?_ ?_ ?_<;>try k_is)
  (case yyyC1=>refine' Lw.fmm ?_ ?_ ?_ ?_ ?_<;>try k_is)
  (case yyyC2=>refine' Lw.fmm ?_ ?_ ?_ ?_ ?_<;>try k_is)
  (case yyyC3=>refine' Lw.fmm ?_ ?_ ?_ ?_ ?_<;>try k_is)
  (case yyyC4=>refine' Lw.fmm ?_ ?_ ?_ ?_ ?_<;>try k_is)
  (case yyyC5=>refine' Lw.fmm ?_ ?_ ?_ ?_ ?_<;>try k_is)
  (case yyyC6=>refine' Lw.fmm ?_ ?_ ?_ ?_ ?_<;>try k_is)
  (case yyyC7=>refine' Lw.fmm ?_ ?_ ?_ ?_ ?_<;>try k_is)
  (case yyyC8=>refine' Lw.fmm ?_ ?_ ?_ ?_ ?_<;>try k_is)
  (case yypgC=>k_is)
  (case yyhdC=>k_is)
  (case yypoC=>k_is)
  (case yysaC=>k_is)
  (case yymkC=>k_is)
  (case yykcC=>k_is)
  (case yynC_base=>k_is)
  (case yynC_outset=>k_is)
  (case yynC_steps=>k_is)
  (case yynC_layers=>k_is)
  (case yyaCS=>k_is)
  (case yyyCS0=>refine' Lw.fmm ?_ ?_ ?_ ?_ ?_<;>try k_is)
  (case yyyCS1=>refine' Lw.fmm ?_ ?_ ?_ ?_ ?_<;>try k_is)
  (case yyyCS2=>refine' Lw.fmm ?_ ?_ ?_ ?_ ?_<;>try k_is)
  (case yyyCS3=>refine' Lw.fmm ?_ ?_ ?_ ?_ ?_<;>try k_is)
  (case yyyCS4=>refine' Lw.fmm ?_ ?_ ?_ ?_ ?_<;>try k_is)
  (case yyyCS5=>refine' Lw.fmm ?_ ?_ ?_ ?_ ?_<;>try k_is)
  (case yypgCS=>k_is)
  (case yyhdCS=>k_is)
  (case yypoCS=>k_is)
  (case yysaCS=>k_is)
  (case yymkCS=>k_is)
  (case yykcCS=>k_is)
  (case yynCS_tails=>k_is)
  (case yynCS_weights=>k_is)
  (case yynCS_layers=>k_is)
  (case yyg0=>k_is)
  (case yyg1=>k_is)
  (case yyg2=>k_is)
  (case yyg3=>k_is)
  (case yyg4=>k_is)
  (case yyz0=>k_is)
  (case yyz1=>k_is)
  (case yyz2=>k_is)
  (case yyz3=>k_is)
  (case yyz4=>k_is)
  (case yyz5=>k_is)
  (case yyz6=>k_is)
  (case yyz7=>k_is)
  (case yyz8=>k_is)
  (case yyz9=>k_is)
  (case yyz10=>k_is)
  (case yyz11=>k_is)
  (case yyz12=>k_is)
  (case yyz13=>k_is)
  (case yyz14=>k_is)
  (case yyz15=>k_is)
  (case yyz16=>k_is)
  (case yyz17=>k_is)
  (case yyz18=>k_is)
