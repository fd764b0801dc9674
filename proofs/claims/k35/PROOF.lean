import PyProof.Rows.All
import Wide.All
import OpenK.AllK
import Wide.FinOn
import Lean
import PyProof.EqAt
import PyProof.EqKinds
import PyProof.TupleCall
import PyProof.NeKinds
import KE.KRevSl
import KE.KRevIter
import PyProof.ConsumeWalk
import PyProof.ReprRoads
import PyProof.CallFns
import KE.KSortAsk
import KE.KSortTup
import KE.KDictSum
import PyProof.Rows.SumAny
import PyProof.EnumStmt
import PyProof.EnumMake
import PyProof.Rows.EnumRows
import PyProof.Rows.FactsN_abs
import PyProof.ReprLen
import PyProof.ZipIter
import PyProof.Rows.ZipGen
import PyProof.StrCalls2
import PyProof.PureStr
import PyProof.CallStr
import PyProof.StrLoop
import PyProof.StrWalks
import PyProof.RulesTry
import PyProof.StrOps
import KE.KLam
import PyProof.LongRange
import PySem.Challenge.RW_lackstretch_k35_whole_as_anew
set_option Elab.async false
set_option linter.all false
set_option maxRecDepth 100000
abbrev Aa:List PySem.Str:=["thing"]
abbrev Ab:List PySem.Str:=["base","thing"]
abbrev Ac:List PySem.Str:=["bad","figures"]
abbrev Ad:List PySem.Str:=["store"]
abbrev Ae:List PySem.Str:=["store","many"]
abbrev Af:List PySem.Str:=["rules","n"]
abbrev Ag:List PySem.Str:=["rule"]
abbrev Ah:List PySem.Str:=["rule","n"]
abbrev Ai:List PySem.Str:=["self","stretch"]
abbrev Aj:List PySem.Str:=["self","rule"]
abbrev Ak:List PySem.Str:=["self","n"]
abbrev Al:List PySem.Str:=["self","place","stop","left"]
abbrev Am:List PySem.Str:=["self","layer","place","stop"]
abbrev An:List PySem.Str:=["store","base","few"]
abbrev Ao:List PySem.Str:=["base","n"]
abbrev Ap:List PySem.Str:=["self","rule","b"]
abbrev Aq:List PySem.Str:=["self"]
abbrev Ar:List PySem.Str:=["self","left"]
abbrev As:List PySem.Str:=["self","figures"]
abbrev At:List PySem.Str:=["store","base"]
abbrev Au:List PySem.Str:=["tails","k"]
abbrev Av:List PySem.Str:=["self","bad"]
abbrev Aw:List PySem.Str:=["stretches"]
abbrev Ax:List PySem.Str:=["stretch","figures"]
abbrev Ay:List PySem.Str:=["rule","stands","stand"]
abbrev Az:List PySem.Str:=["self","size"]
abbrev A0:List PySem.Str:=["script","k"]
abbrev A3:List PySem.Str:=["self","k"]
abbrev A4:List PySem.Str:=["rule","k"]
abbrev A5:List PySem.Str:=["bad","stands","figures"]
abbrev A6:List PySem.Str:=["rule","stands"]
abbrev A7:List PySem.Str:=["self","place","k","left"]
abbrev A8:List PySem.Str:=["self","size","k"]
abbrev A9:List PySem.Str:=["store","rule"]
abbrev Ba:List PySem.Str:=["rule","deed"]
abbrev Bb:List PySem.Str:=["keeper","deed","due"]
abbrev Bc:List PySem.Str:=["store","keeper","rule"]
abbrev Bd:List PySem.Str:=["bad","found","stretch","size","stand"]
abbrev ZA:=List (List Int)
abbrev ZB:=List (PySem.Addr×List Int)
namespace L2
open PySem PySem.Spec PyProof.Rows
abbrev Key:=Sum Int Str
def JV:Key->Value->Bool
 | .inl k,v=>Value.isInt k v
 | .inr x,v=>Value.isStrOf x v
def zhg (w:World):Key->Int
 | .inl k=>hashInt k
 | .inr x=>hashStr w x
theorem xM:∀ {k:Key} {v:Value},JV k v=true->(∃ i t,k=Sum.inl i/\v=Value.int i t)\/(∃ x t,k=Sum.inr x/\v=Value.str x t)
 | .inl i,v,h=>by
  obtain⟨t,e⟩:=Value.isInt_shape (k:=i) (v:=v) h
  exact .inl ⟨i,t,rfl,e⟩
 | .inr x,v,h=>by
  obtain⟨t,e⟩:=Value.isStrOf_shape (x:=x) (v:=v) h
  exact .inr ⟨x,t,rfl,e⟩
theorem zc5 (i:Int) (t:Tok):JV (.inl i) (.int i t)=true:=by simp [JV,Value.isInt]
theorem zdk (x:Str) (t:Tok):JV (.inr x) (.str x t)=true:=by simp [JV,Value.isStrOf]
theorem zgl (a b:Int):decide ((Sum.inl a:Key)=Sum.inl b)=(a == b):=by
 by_cases e:a=b
 ·subst e;simp
 ·have h:¬ (Sum.inl a:Key)=Sum.inl b:=λq=>e (Sum.inl.inj q)
  rw [decide_eq_false h]
  exact (beq_eq_false_iff_ne.mpr e).symm
theorem zfK (a b:Str):decide ((Sum.inr a:Key)=Sum.inr b)=decide (a=b):=by
 by_cases e:a=b
 ·subst e;simp
 ·have h:¬ (Sum.inr a:Key)=Sum.inr b:=λq=>e (Sum.inr.inj q)
  rw [decide_eq_false h,decide_eq_false e]
theorem zfW (a:Int) (b:Str):decide ((Sum.inl a:Key)=Sum.inr b)=false:=decide_eq_false (λq=>nomatch q)
theorem zf8 (a:Str) (b:Int):decide ((Sum.inr a:Key)=Sum.inl b)=false:=decide_eq_false (λq=>nomatch q)
def xR (prog:Program) (w:World):PySem.KeyKind prog w Key where
 is:=JV
 hash:=zhg w
 inj:=λv a b ha hb=>by
  rcases xM ha with ⟨i,t,rfl,rfl⟩ | ⟨x,t,rfl,rfl⟩
  ·rcases xM hb with ⟨j,u,rfl,e⟩ | ⟨y,u,rfl,e⟩
   ·injection e with e1 _;rw [e1]
   ·exact nomatch e
  ·rcases xM hb with ⟨j,u,rfl,e⟩ | ⟨y,u,rfl,e⟩
   ·exact nomatch e
   ·injection e with e1 _;rw [e1]
 byValue:=λk v h=>by
  rcases xM h with ⟨i,t,rfl,rfl⟩ | ⟨x,t,rfl,rfl⟩<;>rfl
 pyHash:=λhv h=>by
  rcases xM hv with ⟨i,t,rfl,rfl⟩ | ⟨x,t,rfl,rfl⟩
  ·exact wpAny_pyHash_int h
  ·exact wpAny_pyHash_str h
 eqBool:=λhu hv h=>by
  rcases xM hu with ⟨i,t,rfl,rfl⟩ | ⟨x,t,rfl,rfl⟩
  ·rcases xM hv with ⟨j,u,rfl,rfl⟩ | ⟨y,u,rfl,rfl⟩
   ·rw [zgl] at h;exact wpAny_eqBool_int h
   ·rw [zfW] at h;exact SeqAt.EqAt.int_str i t y u _ _ _ _ h
  ·rcases xM hv with ⟨j,u,rfl,rfl⟩ | ⟨y,u,rfl,rfl⟩
   ·rw [zf8] at h;exact SeqAt.EqAt.str_int x t j u _ _ _ _ h
   ·rw [zfK] at h;exact wpAny_eqBool_str h
 «strs»:=λk x t v h=>by
  rcases xM h with ⟨i,u,rfl,e⟩ | ⟨y,u,rfl,e⟩
  ·exact nomatch e
  ·injection e with e1 _
   subst e1
   cases v<;>rfl
theorem zbq (prog:Program) (w:World) (i:Int) (t:Tok):(xR prog w).is (.inl i) (.int i t)=true:=zc5 i t
theorem zby (prog:Program) (w:World) (x:Str) (t:Tok):(xR prog w).is (.inr x) (.str x t)=true:=zdk x t
inductive V where
 | non | bl (b:Bool) | int (i:Int) | str (x:Str) | byt (b:Array UInt8) | flt (b:UInt64) | ref (a:Addr) | ty (n:String)
 deriving DecidableEq
def RelV:V->Value->Prop
 | .non,u=>u=Value.none
 | .bl b,u=>u=Value.bool b
 | .int i,u=>∃ t,u=Value.int i t
 | .str x,u=>∃ t,u=Value.str x t
 | .byt b,u=>∃ t,u=Value.bytes b t
 | .flt b,u=>∃ t,u=Value.float b t
 | .ref a,u=>u=Value.ref a
 | .ty n,u=>u=Value.type n
abbrev Vals:List V->List Value->Prop:=Paired RelV
theorem Vals.length {xs:List V} {us:List Value} (r:Vals xs us):xs.length=us.length:=Paired.length r
theorem Vals.get:∀ {xs:List V} {us:List Value} {i:Nat} {x:V},Vals xs us->xs[i]?=some x->∃ u,us[i]?=some u/\RelV x u
 | _,_,_,_,.nil,e=>by simp at e
 | _,_,0,_,.cons r _,e=>by simp at e;subst e;exact⟨_,rfl,r⟩
 | _,_,i+1,x,.cons _ t,e=>by
  obtain⟨u,h1,h2⟩:=Vals.get (i:=i) (x:=x) t (by simpa using e)
  exact⟨u,by simpa using h1,h2⟩
theorem Vals.set {x:V} {u:Value} (r:RelV x u):∀ {xs:List V} {us:List Value} (i:Nat),Vals xs us->Vals (xs.set i x) (us.set i u)
 | _,_,_,.nil=>.nil
 | _,_,0,.cons _ t=>.cons r t
 | _,_,i+1,.cons q t=>.cons q (Vals.set r i t)
theorem Vals.append:∀ {xs ys:List V} {us ws:List Value},Vals xs us->Vals ys ws->Vals (xs++ys) (us++ws)
 | _,_,_,_,.nil,s=>s
 | _,_,_,_,.cons r t,s=>.cons r (Vals.append t s)
theorem Vals.take:∀ {xs:List V} {us:List Value} (n:Nat),Vals xs us->Vals (xs.take n) (us.take n)
 | _,_,0,_=>.nil
 | _,_,_+1,.nil=>.nil
 | _,_,n+1,.cons r t=>.cons r (Vals.take n t)
theorem Vals.drop:∀ {xs:List V} {us:List Value} (n:Nat),Vals xs us->Vals (xs.drop n) (us.drop n)
 | _,_,0,r=>r
 | _,_,_+1,.nil=>.nil
 | _,_,n+1,.cons _ t=>Vals.drop n t
theorem Vals.none_of:∀ {xs:List V} {us:List Value} {i:Nat},Vals xs us->xs[i]?=none->us[i]?=none:=λ{xs us i} r e=>by
 have h1:=r.length
 have h2:xs.length<=i:=List.getElem?_eq_none_iff.mp e
 exact List.getElem?_eq_none_iff.mpr (by omega)
def RelO:Option V->Option Value->Prop
 | some v,some u=>RelV v u
 | none,none=>True
 | _,_=>False
def KV {κ:Type}:List (κ×V)->List (κ×Value)->Prop:=Paired λ(p:κ×V) (q:κ×Value)=>p.1=q.1/\RelV p.2 q.2
def kV:Key->V
 | .inl i=>.int i
 | .inr x=>.str x
inductive HO where
 | lst (xs:List V)
 | tup (xs:List V)
 | dK (kvs:List (Key×V)) | dT (kvs:List (List Key×V))
 | set (S:Int->Bool) (n:Nat)
 | ins (C dx:Addr) (fs:List (Str×V))
 | own (x:Addr)
 | xd (fs:List (Str×V))
 | met (f x:Addr)
 | rng (lo hi:Int)
 | frz (o:Obj) (u:HO)
 | tbl (ps:Array Value)
 | ext (φ:Heap->Prop)
abbrev Hp:=Addr->Option HO
def upd (H:Hp) (a:Addr) (o:HO):Hp:=λb=>if b=a then some o else H b
theorem zj {H:Hp} {a:Addr} {o:HO}:upd H a o a=some o:=by unfold upd;rw [if_pos rfl]
theorem zy {H:Hp} {a b:Addr} {o:HO} (h:b≠a):upd H a o b=H b:=by unfold upd;rw [if_neg h]
theorem zcq {H:Hp} {a:Addr} {o u:HO}:upd (upd H a o) a u=upd H a u:=by
 funext b;unfold upd;split<;>rfl
theorem tY {H:Hp} {a b:Addr} {o u:HO} (h:H a=some o) (h':H b=some u) (d:o≠u):a≠b:=by
 intro e;subst e;rw [h] at h';exact d (Option.some.inj h')
theorem zx {H:Hp} {a b:Addr} {o:HO} (h:H a=some o) (h':H b=none):a≠b:=by
 intro e;subst e;rw [h] at h';cases h'
section
variable (P:Program) (w:World)
def ObjOk (H:Hp) (h:Heap) (a:Addr):HO->Prop
 | .lst xs=>xs.length<=sizeLine/\∃ (its:List Value) (n:Nat),Vals xs its/\h.get? a=some { cls:=.type "list",data:=.seq its.toArray n }
 | .tup xs=>xs.length<=sizeLine/\∃ its:List Value,Vals xs its/\IsTup h a its.toArray
 | .dK kvs=>kvs.length<=sizeLine/\(a == sysModules)=false/\∃ vs,KV kvs vs/\h.DictOf (xR P w) a vs
 | .dT kvs=>kvs.length<=sizeLine/\(a == sysModules)=false/\∃ xs:List (List Key×Addr×Value),
   Paired (λ(p:List Key×V) (q:List Key×Addr×Value)=>p.1=q.1/\H q.2.1=some (.tup (p.1.map kV))/\RelV p.2 q.2.2) kvs xs /\
   ∃ o es ep,h.get? a=some o/\o.ExactDict/\o.data=.dict es ep/\es.toList=xs.map (entryOfKey (tupleKind (xR P w)))/\(xs.map (·.1)).Nodup
 | .set S n=>h.SetOf (intKind P w) a S n
 | .ins C dx fs=>H dx=some (.own a)/\fs.length<=1000/\dx≠a/\h.get? a=some (W.instObj C dx) /\
   ∃ mA,h.Ns1 dx mA/\(∀ f,RelO (fs.lookup f) (mA f))/\PySem.Within mA (fs.map (·.1))
 | .own _=>∃ o,h.get? a=some o
 | .xd fs=>∃ mA,h.Ns1 a mA/\∀ f,RelO (fs.lookup f) (mA f)
 | .rng lo hi=>∃ t u v,h.get? a=some { cls:=.type "range",data:=.fields #[.int lo t,.int hi u,.int 1 v] }
 | .frz o u=>h.get? a=some o/\ObjOk H h a u
 | .tbl ps=>h.get? a=some { cls:=.none,data:=.fields ps }
 | .met f x=>h.get? a=some (W.methodObj (.ref f) (.ref x))
 | .ext φ=>φ h/\(∃ o,h.get? a=some o)/\∀ h1 h2:Heap,φ h1->(∀ o,h1.get? a=some o->h2.get? a=some o)->φ h2
def HOk (H:Hp) (h:Heap):Prop:=∀ a o,H a=some o->ObjOk P w H h a o
end
section
variable {P:Program} {w:World} {H H':Hp} {h h':Heap} {a:Addr} {o:HO}
theorem ObjOk.lt (x:ObjOk P w H h a o):a<h.objs.size:=by
 cases o with
 | lst xs=>obtain⟨_,_,_,_,e⟩:=x;exact Heap.lt_size e
 | tup xs=>obtain⟨_,_,_,p⟩:=x;exact p.lt
 | dK kvs=>obtain⟨_,_,_,_,o,_,_,e,_⟩:=x;exact Heap.lt_size e
 | dT kvs=>obtain⟨_,_,_,_,o,_,_,e,_⟩:=x;exact Heap.lt_size e
 | set S n=>obtain⟨o,_,_,_,e,_⟩:=x;exact Heap.lt_size e
 | ins C dx fs=>obtain⟨_,_,_,e,_⟩:=x;exact Heap.lt_size e
 | own y=>obtain⟨_,e⟩:=x;exact Heap.lt_size e
 | xd fs=>obtain⟨_,⟨_,_,_,e,_⟩,_⟩:=x;exact Heap.lt_size e
 | rng lo hi=>obtain⟨_,_,_,e⟩:=x;exact Heap.lt_size e
 | frz ob u=>obtain⟨e,_⟩:=x;exact Heap.lt_size e
 | tbl ps=>exact Heap.lt_size (show h.get? a=some _ from x)
 | met f y=>exact Heap.lt_size (show h.get? a=some _ from x)
 | ext φ=>obtain⟨_,⟨_,e⟩,_⟩:=x;exact Heap.lt_size e
theorem Paired.mapP {α β:Type} {F G:α->β->Prop}:∀ {l₁:List α} {l₂:List β},Paired F l₁ l₂->(∀ a b,F a b->G a b)->Paired G l₁ l₂
 | _,_,.nil,_=>.nil
 | _,_,.cons r t,f=>.cons (f _ _ r) (Paired.mapP t f)
theorem ObjOk.stay (x:ObjOk P w H h a o) (k:∀ b u,(b=a\/H b=some (.own a))->h.get? b=some u->h'.get? b=some u)
  (ho:∀ b,H b=some (.own a)->H' b=some (.own a)) (ht:∀ b xs,H b=some (.tup xs)->H' b=some (.tup xs)):ObjOk P w H' h' a o:=by
 induction o with
 | lst xs=>obtain⟨z,its,n,r,e⟩:=x;exact⟨z,its,n,r,k _ _ (.inl rfl) e⟩
 | tup xs=>obtain⟨z,its,r,ob,e,c⟩:=x;exact⟨z,its,r,ob,k _ _ (.inl rfl) e,c⟩
 | dK kvs=>obtain⟨z,y,vs,r,ob,es,ep,e,c⟩:=x;exact⟨z,y,vs,r,ob,es,ep,k _ _ (.inl rfl) e,c⟩
 | dT kvs =>
  obtain⟨z,y,xs,r,ob,es,ep,e,c⟩:=x
  exact⟨z,y,xs,Paired.mapP r λp q z=>⟨z.1,ht _ _ z.2.1,z.2.2⟩,ob,es,ep,k _ _ (.inl rfl) e,c⟩
 | set S n=>obtain⟨ob,es,ep,t,e,c⟩:=x;exact⟨ob,es,ep,t,k _ _ (.inl rfl) e,c⟩
 | ins C dx fs =>
  obtain⟨d,z,ne,e,mA,⟨od,es,ep,e2,c⟩,r⟩:=x
  exact⟨ho _ d,z,ne,k _ _ (.inl rfl) e,mA,⟨od,es,ep,k _ _ (.inr d) e2,c⟩,r⟩
 | own y=>obtain⟨ob,e⟩:=x;exact⟨ob,k _ _ (.inl rfl) e⟩
 | xd fs=>obtain⟨mA,⟨od,es,ep,e,c⟩,r⟩:=x;exact⟨mA,⟨od,es,ep,k _ _ (.inl rfl) e,c⟩,r⟩
 | rng lo hi=>obtain⟨t,u,v,e⟩:=x;exact⟨t,u,v,k _ _ (.inl rfl) e⟩
 | frz ob u ih=>obtain⟨e,q⟩:=x;exact⟨k _ _ (.inl rfl) e,ih q⟩
 | tbl ps =>
  have e:h.get? a=some { cls:=.none,data:=.fields ps }:=x
  show h'.get? a=some { cls:=.none,data:=.fields ps }
  exact k a _ (.inl rfl) e
 | met f y =>
  have e:h.get? a=some (W.methodObj (.ref f) (.ref y)):=x
  show h'.get? a=some (W.methodObj (.ref f) (.ref y))
  exact k a _ (.inl rfl) e
 | ext φ=>obtain⟨p,⟨o,e⟩,st⟩:=x;exact⟨st _ _ p λo q=>k _ _ (.inl rfl) q,⟨o,k _ _ (.inl rfl) e⟩,st⟩
theorem HOk.lt (x:HOk P w H h) (e:H a=some o):a<h.objs.size:=(x a o e).lt
theorem HOk.fresh (x:HOk P w H h) (e:h.objs.size<=a):H a=none:=by
 cases q:H a with
 | none=>rfl
 | some u=>exact absurd (Nat.lt_of_lt_of_le (x.lt q) e) (Nat.lt_irrefl _)
theorem HOk.kept (x:HOk P w H h) (k:∀ b u,h.get? b=some u->h'.get? b=some u):HOk P w H h':=λa o e =>
 (x a o e).stay (λb u _ q=>k b u q) (λ_ q=>q) λ_ _ q=>q
theorem HOk.laid (x:HOk P w H h) (k:∀ b u,h.get? b=some u->h'.get? b=some u) (hp:h.objs.size<=a) (new:ObjOk P w (upd H a o) h' a o):HOk P w (upd H a o) h':=λb u e=>by
 have hn:=x.fresh hp
 by_cases hb:b=a
 ·subst hb;rw [zj] at e;cases e;exact new
 ·rw [zy hb] at e
  exact (x b u e).stay (λc v _ q=>k c v q) (λc q=>by rw [zy (zx q hn)];exact q) λc xs q=>by rw [zy (zx q hn)];exact q
end
def Rd (H:Hp) (a:Addr) (u:HO):Prop:=H a=some u\/∃ o,H a=some (.frz o u)
theorem Rd.of {H:Hp} {a:Addr} {u:HO} (h:H a=some u):Rd H a u:=.inl h
theorem Rd.ok {P:Program} {w:World} {H:Hp} {h:Heap} {a:Addr} {u:HO} (r:Rd H a u) (x:HOk P w H h):ObjOk P w H h a u:=by
 rcases r with r | ⟨o,r⟩
 ·exact x a u r
 ·obtain⟨_,q⟩:=x a _ r
  exact q
def Mut:Option HO->Prop
 | some (.lst _)=>True
 | some (.dK _)=>True
 | some (.dT _)=>True
 | some (.set _ _)=>True
 | some (.ins _ _ _)=>True
 | some (.ext _)=>True
 | _=>False
section
variable {P:Program} {w:World} {H:Hp} {h h':Heap} {x e:Addr} {o':HO}
theorem HOk.write (ok:HOk P w H h) (mu:Mut (H x)) (he:e=x\/H e=some (.own x)) (k:∀ b u,b≠e->h.get? b=some u->h'.get? b=some u) (heo:∃ u,h'.get? e=some u)
  (new:ObjOk P w (upd H x o') h' x o'):HOk P w (upd H x o') h':=λb u q=>by
 have nown:∀ c y,H c=some (.own y)->c≠x:=λc y r z=>by subst z;rw [r] at mu;exact mu
 have ntup:∀ c xs,H c=some (.tup xs)->c≠x:=λc xs r z=>by subst z;rw [r] at mu;exact mu
 by_cases hb:b=x
 ·subst hb;rw [zj] at q;cases q;exact new
 ·rw [zy hb] at q
  by_cases hbe:b=e
  ·have q':H b=some (.own x):=by
    rcases he with z | z
    ·exact absurd (hbe.trans z) hb
    ·rw [hbe];exact z
   rw [q] at q';cases q'
   obtain⟨v,hv⟩:=heo
   exact⟨v,by rw [hbe];exact hv⟩
  ·refine (ok b u q).stay (λc v hc r=>k c v ?_ r) (λc r=>by rw [zy (nown c b r)];exact r) λc xs r=>by rw [zy (ntup c xs r)];exact r
   rcases hc with rfl | hc
   ·exact hbe
   ·rintro rfl
    rcases he with z | z
    ·exact nown c b hc z
    ·rw [hc] at z;cases z;exact hb rfl
end
structure Un (fs ex:List Addr) (H H':Hp) (h h':Heap):Prop where
 keep:∀ b o,h.get? b=some o->H b=none->b∉fs->b∉ex->h'.get? b=some o
 slot:∀ b o,h.get? b=some o->H b=none->b∈fs->b∉ex->∃ sl,h'.get? b=some { o with slots:=sl }
 free:∀ b o,h.get? b=some o->H b=none->b∉ex->H' b=none
 there:∀ b o,h.get? b=some o->b∉ex->∃ o',h'.get? b=some o'
 tups:∀ b xs,H b=some (.tup xs)->H' b=some (.tup xs)
 frzs:∀ b o u,H b=some (.frz o u)->H' b=some (.frz o u)
 tbls:∀ b ps,H b=some (.tbl ps)->∃ more,H' b=some (.tbl (ps++more))
section
variable {fs fs' ex ex':List Addr} {H H1 H2:Hp} {h h1 h2 h':Heap} {a x e:Addr} {o:HO}
theorem Un.any (u:Un fs ex H H1 h h1) {b:Addr} {ob:Obj} (q:h.get? b=some ob) (n:H b=none) (hx:b∉ex):∃ sl,h1.get? b=some { ob with slots:=sl }:=by
 by_cases hb:b∈fs
 ·exact u.slot b ob q n hb hx
 ·exact⟨ob.slots,u.keep b ob q n hb hx⟩
theorem Un.trans (a:Un fs ex H H1 h h1) (b:Un fs ex H1 H2 h1 h2):Un fs ex H H2 h h2 where
 keep:=λc ob q n hc hx=>b.keep c ob (a.keep c ob q n hc hx) (a.free c ob q n hx) hc hx
 slot:=λc ob q n hc hx=>by
  obtain⟨sl,e1⟩:=a.slot c ob q n hc hx
  obtain⟨sl',e2⟩:=b.slot c _ e1 (a.free c ob q n hx) hc hx
  exact⟨sl',e2⟩
 free:=λc ob q n hx=>by
  obtain⟨o',e1⟩:=a.there c ob q hx
  exact b.free c o' e1 (a.free c ob q n hx) hx
 there:=λc ob q hx=>by
  obtain⟨o',e1⟩:=a.there c ob q hx
  exact b.there c o' e1 hx
 tups:=λc xs q=>b.tups c xs (a.tups c xs q)
 frzs:=λc ob xs q=>b.frzs c ob xs (a.frzs c ob xs q)
 tbls:=λc ps q=>by
  obtain⟨m1,e1⟩:=a.tbls c ps q
  obtain⟨m2,e2⟩:=b.tbls c _ e1
  exact⟨m1++m2,by rw [e2,Array.append_assoc]⟩
theorem Un.kept (k:∀ b u,h.get? b=some u->h'.get? b=some u):Un fs ex H H h h' :=
 ⟨λb ob q _ _ _=>k b ob q,λb ob q _ _ _=>⟨ob.slots,k b ob q⟩,λ_ _ _ n _=>n,λb ob q _=>⟨ob,k b ob q⟩,λ_ _ q=>q,λ_ _ _ q=>q,λ_ ps q=>⟨#[],by rw [q];simp⟩⟩
theorem Un.refl:Un fs ex H H h h:=Un.kept λ_ _ q=>q
theorem Un.laid (k:∀ b u,h.get? b=some u->h'.get? b=some u) (hp:h.objs.size<=a) (hn:H a=none):Un fs ex H (upd H a o) h h' where
 keep:=λb u q _ _ _=>k b u q
 slot:=λb u q _ _ _=>⟨u.slots,k b u q⟩
 free:=λb u q n _=>by rw [zy (Nat.ne_of_lt (Nat.lt_of_lt_of_le (Heap.lt_size q) hp))];exact n
 there:=λb u q _=>⟨u,k b u q⟩
 tups:=λb xs q=>by rw [zy (zx q hn)];exact q
 frzs:=λb u xs q=>by rw [zy (zx q hn)];exact q
 tbls:=λb ps q=>⟨#[],by rw [zy (zx q hn),q];simp⟩
theorem Un.write (mu:Mut (H x)) (he:e=x\/H e=some (.own x)) (k:∀ b u,b≠e->h.get? b=some u->h'.get? b=some u) (heo:∃ u,h'.get? e=some u):Un fs ex H (upd H x o) h h':=by
 have hx:∀ b,H b=none->b≠x:=λb n z=>by subst z;rw [n] at mu;exact mu
 have hb:∀ b,H b=none->b≠e:=λb n z=>by
  subst z
  rcases he with r | r
  ·exact hx b n r
  ·rw [n] at r;cases r
 have hm:∀ b u,H b=some u->¬ Mut (some u)->b≠x:=λb u q nm z=>by subst z;rw [q] at mu;exact nm mu
 refine⟨λb u q n _ _=>k b u (hb b n) q,λb u q n _ _=>⟨u.slots,k b u (hb b n) q⟩,λb u q n _=>by rw [zy (hx b n)];exact n,λb u q _=>?_,
  λb xs q=>by rw [zy (hm b _ q λz=>z)];exact q,λb u xs q=>by rw [zy (hm b _ q λz=>z)];exact q,λb ps q=>⟨#[],by rw [zy (hm b _ q λz=>z),q];simp⟩⟩
 by_cases hbe:b=e
 ·subst hbe;exact heo
 ·exact⟨u,k b u hbe q⟩
theorem Un.mono (u:Un fs ex H H1 h h1) (hs:∀ b∈fs,b∈fs') (hx:∀ b∈ex,b∈ex'):Un fs' ex' H H1 h h1 :=
 ⟨λb ob q n hb he=>u.keep b ob q n (λz=>hb (hs b z)) λz=>he (hx b z),λ_ _ q n _ he=>u.any q n λz=>he (hx _ z),λb ob q n he=>u.free b ob q n λz=>he (hx b z),λb ob q he=>u.there b ob q λz=>he (hx b z),u.tups,u.frzs,u.tbls⟩
end
def trk (h:Heap) (H:Hp):List Addr:=(List.range h.objs.size).filter λa=>(H a).isSome
def Je (h:Heap) (H:Hp):Heap:=W.hideAll h (trk h H)
theorem zdf (h:Heap) (H:Hp):(Je h H).objs.size=h.objs.size:=W.hideAll_size _ _
theorem zdG {h:Heap} {H:Hp} {b:Addr} {o:Obj} (e:h.get? b=some o) (n:H b=none):(Je h H).get? b=some o :=
 W.hideAll_get _ e λhm=>by
  have q:(H b).isSome=true:=(List.mem_filter.mp hm).2
  rw [n] at q;simp at q
theorem zfo {h:Heap} {H:Hp} {b:Addr} {o:Obj} (e:(Je h H).get? b=some o):h.get? b=some o/\H b=none:=by
 have e':h.get? b=some o:=W.of_hideAll (trk h H) e
 refine⟨e',?_⟩
 cases q:H b with
 | none=>rfl
 | some x =>
  have hm:b∈trk h H:=List.mem_filter.mpr ⟨List.mem_range.mpr (Heap.lt_size e'),by simp [q]⟩
  have z:(Je h H).get? b=none:=W.hideAll_none (trk h H) hm
  rw [z] at e;cases e
def zfq (g h:Heap) (L:Addr):List (Addr×Obj):=(List.range h.objs.size).filterMap λa=>if a=L\/(g.get? a).isSome=true then none else (h.get? a).map λo=>(a,o)
def rest (g h:Heap) (L d:Addr):List (Addr×Obj):=(zfq g h L).filter λp=>decide (p.1≠d)
structure Mod (K:W.Frag) (mg:Str->Option Value) (base:Heap):Prop where
 kin:K.In base
 glob:base.Ns mainGlobals mg
 blt:∃ mb,base.Ns builtinsNs mb/\∀ x:Str,x ≠ "__name__"->mb x=bootBuiltins x
 nolimit:base.NoLimit
structure Cx where
 prog:Program
 w:World
 K:W.Frag
 mg:Str->Option Value
 base:Heap
 A:Around
 N:List Str
 s₀:Shared
 H₀:Hp
 env:Env
 outer:List Env
 stack:List Env
 ex:List Addr
 fn:Str->Bool
 calm:Bool
 pn:List (Addr×Obj)
 xe:Value->Shared->Prop
def frs (l:List Env):List Addr:=l.filterMap (·.frame)
abbrev Cx.fs (X:Cx):List Addr:=frs X.outer
def Vis (sc:Scope) (x:Str):Prop:=sc.names.lookup x=some .local\/sc.names.lookup x=some .cell\/sc.names.lookup x=some .free
def Loc (sc:Scope) (x:Str):Prop:=sc.names.lookup x=some .local\/sc.names.lookup x=some .cell
def Look (env:Env) (h:Heap) (m:Str->Option Value) (x:Str) (u:Value):Prop :=
 (env.kindOf x=some .local/\m x=some u)\/((env.kindOf x=some .cell\/env.kindOf x=some .free)/\∃ c,env.cells.lookup x=some c/\h.IsCell c (some u))
structure Cx.Ok (X:Cx):Prop where
 mod:Mod X.K X.mg X.base
 kind:X.env.scope.kind=.function
 glob:X.env.globals=mainGlobals
 blt:X.env.builtins=builtinsNs
 above:X.s₀.heap.objs.size<=X.env.locals
 inj:∀ x y c,X.env.cells.lookup x=some c->X.env.cells.lookup y=some c->x=y
 has:∀ x,(X.env.kindOf x=some .cell\/X.env.kindOf x=some .free)->∃ c,X.env.cells.lookup x=some c
 cab:∀ x c,X.fn x=true->X.env.cells.lookup x=some c->X.s₀.heap.objs.size<=c
 hd:X.calm=true->X.A.handled=none
 frames:X.A.frames=some X.stack
 stk:X.stack=X.outer\/(X.stack=X.env :: X.outer/\X.env.frame=some X.env.locals)
 exf:∀ b∈X.ex,b≠X.env.locals/\∀ x c,X.env.cells.lookup x=some c->c≠b
 bs:∀ b o,X.base.get? b=some o->X.s₀.heap.get? b=some o/\X.H₀ b=none
 bsz:X.base.objs.size<=X.s₀.heap.objs.size
 noex:∀ b o,X.base.get? b=some o->b∉X.ex
 exfs:∀ b∈X.ex,b∉X.fs
 funs:X.s₀.heap.FunFrames X.base X.outer
 frf:∀ b∈X.fs,X.H₀ b=none
structure Inv (X:Cx) (pins:List (Addr×Obj)) (σ:List (Option V)) (H:Hp) (s:Shared):Prop where
 ok:X.Ok
 os:s.os=X.s₀.os
 bare:AllBare s.gens
 base:Un X.fs X.ex X.H₀ H X.s₀.heap s.heap
 loc:∃ m,s.heap.Ns X.env.locals m/\∀ (i:Nat) (x:Str) (v:V),X.N[i]?=some x->σ[i]?=some (some v)->Vis X.env.scope x->∃ u,RelV v u/\Look X.env s.heap m x u
 cell:∀ x c,X.env.cells.lookup x=some c->∃ v,s.heap.IsCell c v
 free:H X.env.locals=none
 freeC:∀ x c,X.env.cells.lookup x=some c->H c=none
 pin:∀ p∈X.pn++pins,s.heap.get? p.1=some p.2/\H p.1=none/\p.1≠X.env.locals/\p.1∉X.fs/\∀ v,p.2.data≠.cell v
 hok:HOk X.prog X.w H s.heap
 len:σ.length=X.N.length
section
variable {X:Cx} {pins:List (Addr×Obj)} {σ:List (Option V)} {H H':Hp} {s:Shared} {h':Heap}
theorem Cx.Ok.nofr (ok:X.Ok) {b:Addr} {o:Obj} (e:X.base.get? b=some o):b∉X.fs:=λhb=>by
 have:=(ok.funs.mem hb).1
 rw [e] at this;cases this
theorem Inv.bs (I:Inv X pins σ H s):∀ b o,X.base.get? b=some o->s.heap.get? b=some o/\H b=none:=λb o e =>
 ⟨I.base.keep b o (I.ok.bs b o e).1 (I.ok.bs b o e).2 (I.ok.nofr e) (I.ok.noex b o e),I.base.free b o (I.ok.bs b o e).1 (I.ok.bs b o e).2 (I.ok.noex b o e)⟩
theorem Inv.bk (I:Inv X pins σ H s):∀ b o,X.base.get? b=some o->s.heap.get? b=some o:=λb o e=>(I.bs b o e).1
theorem Inv.mod (I:Inv X pins σ H s):Mod X.K X.mg X.base:=I.ok.mod
theorem Inv.kIn (I:Inv X pins σ H s):X.K.In s.heap:=I.ok.mod.kin.keeps I.bk
theorem Inv.nolimit (I:Inv X pins σ H s):s.heap.NoLimit:=I.ok.mod.nolimit.keeps I.bk
theorem Inv.fr (I:Inv X pins σ H s):∃ m,Fr X.base X.env.locals s.heap m :=
 let ⟨m,hn,_⟩:=I.loc
 ⟨m,hn,I.bk,Nat.le_trans I.ok.bsz I.ok.above⟩
theorem Inv.lt (I:Inv X pins σ H s):X.env.locals<s.heap.objs.size:=let ⟨_,hn,_⟩:=I.loc;hn.lt
theorem Inv.sz (I:Inv X pins σ H s):X.s₀.heap.objs.size<=s.heap.objs.size:=Nat.le_trans I.ok.above (Nat.le_of_lt I.lt)
theorem Inv.nofs (I:Inv X pins σ H s) {a:Addr} (h:s.heap.objs.size<=a):a∉X.fs:=λhb=>by
 obtain⟨_,o,ho,_⟩:=I.ok.funs.mem hb
 exact absurd (Nat.lt_of_lt_of_le (Heap.lt_size ho) (Nat.le_trans I.sz h)) (Nat.lt_irrefl _)
theorem Inv.cne (I:Inv X pins σ H s):∀ x c,X.env.cells.lookup x=some c->c≠X.env.locals:=λx c e z=>by
 obtain⟨v,o,ho,hd⟩:=I.cell x c e
 obtain⟨m,⟨o',es,ep,ho',hd',_⟩,_⟩:=I.loc
 rw [z,ho'] at ho;cases ho;rw [hd'] at hd;cases hd
theorem Inv.funs (I:Inv X pins σ H s):s.heap.FunFrames X.base X.outer:=by
 have all:∀ (l:List Env),(∀ b∈frs l,b∈X.fs)->X.s₀.heap.FunFrames X.base l->s.heap.FunFrames X.base l:=by
  intro l
  induction l with
  | nil=>intro _ _;trivial
  | cons env r ih =>
   intro hs hl
   obtain⟨hk,⟨L,o,hf,hn,ho,hd⟩,hr⟩:=hl
   have hL:L∈X.fs:=hs L (by unfold frs;rw [List.filterMap_cons,hf];exact List.mem_cons_self)
   obtain⟨sl,e⟩:=I.base.slot L o ho (I.ok.frf L hL) hL λz=>I.ok.exfs L z hL
   exact⟨hk,⟨L,_,hf,hn,e,hd⟩,ih (λb hb=>hs b (by unfold frs;rw [List.filterMap_cons,hf];exact List.mem_cons_of_mem _ hb)) hr⟩
 exact all X.outer (λ_ hb=>hb) I.ok.funs
theorem Inv.stack (I:Inv X pins σ H s):s.heap.FunFrames X.base X.stack:=by
 rcases I.ok.stk with e | ⟨e,hf⟩
 ·rw [e];exact I.funs
 ·rw [e]
  obtain⟨m,hn,_⟩:=I.loc
  refine .cons (by rw [I.ok.kind];decide) hf hn ?_ I.funs
  exact Heap.get?_none_of_le (Nat.le_trans I.ok.bsz I.ok.above)
theorem Inv.stkSub (I:Inv X pins σ H s):∀ b∈frs X.stack,b∈X.env.locals :: X.fs:=λb hb=>by
 rcases I.ok.stk with e | ⟨e,hf⟩
 ·rw [e] at hb;exact List.mem_cons_of_mem _ hb
 ·rw [e] at hb
  unfold frs at hb
  rw [List.filterMap_cons,hf] at hb
  exact hb
theorem Inv.stkFree (I:Inv X pins σ H s):∀ b∈frs X.stack,H b=none:=λb hb=>by
 rcases List.mem_cons.mp (I.stkSub b hb) with e | hb
 ·rw [e];exact I.free
 ·obtain⟨_,o,ho,_⟩:=I.ok.funs.mem hb
  exact I.base.free b o ho (I.ok.frf b hb) λz=>I.ok.exfs b z hb
theorem Inv.step {g':Array GenState} {t':Nat} {d':Drawn} {ch:List Addr} (I:Inv X pins σ H s)
  (hch:∀ b∈ch,(b∈X.ex\/X.s₀.heap.objs.size<=b)/\b≠X.env.locals/\(∀ x c,X.env.cells.lookup x=some c->c≠b)/\∀ p∈X.pn++pins,p.1≠b)
  (keep:∀ b o,b≠X.env.locals->b∉X.fs->b∉ch->s.heap.get? b=some o->H b=none->h'.get? b=some o)
  (slot:∀ b o,b≠X.env.locals->b∈X.fs->b∉ch->s.heap.get? b=some o->H b=none->∃ sl,h'.get? b=some { o with slots:=sl }) (free:∀ b o,b∉ch->s.heap.get? b=some o->H b=none->H' b=none)
  (there:∀ b o,b∉ch->s.heap.get? b=some o->∃ o',h'.get? b=some o')
  (tups:∀ b xs,H b=some (.tup xs)->H' b=some (.tup xs)) (frzs:∀ b o u,H b=some (.frz o u)->H' b=some (.frz o u)) (tbls:∀ b ps,H b=some (.tbl ps)->∃ more,H' b=some (.tbl (ps++more)))
  (ns:∀ m,s.heap.Ns X.env.locals m->h'.Ns X.env.locals m) (hok:HOk X.prog X.w H' h') (hg:AllBare g') :
  Inv X pins σ H' { s with heap:=h',gens:=g',drawn:=d',toks:=t' }:=by
 have neL:∀ b o,X.s₀.heap.get? b=some o->b≠X.env.locals:=λb o e=>Nat.ne_of_lt (Nat.lt_of_lt_of_le (Heap.lt_size e) I.ok.above)
 have neC:∀ b o,X.s₀.heap.get? b=some o->b∉X.ex->b∉ch:=λb o e hx hb=>by
  rcases (hch b hb).1 with z | z
  ·exact hx z
  ·exact absurd (Nat.lt_of_lt_of_le (Heap.lt_size e) z) (Nat.lt_irrefl _)
 have cellK:∀ x c,X.env.cells.lookup x=some c->∀ v,s.heap.IsCell c v->h'.IsCell c v:=λx c e v ⟨o,ho,hd⟩=>by
  have nch:c∉ch:=λz=>(hch c z).2.2.1 x c e rfl
  by_cases hc:c∈X.fs
  ·obtain⟨sl,q⟩:=slot c o (I.cne x c e) hc nch ho (I.freeC x c e)
   exact⟨_,q,hd⟩
  ·exact⟨o,keep c o (I.cne x c e) hc nch ho (I.freeC x c e),hd⟩
 refine⟨I.ok,I.os,hg,⟨λb o e n hb hx=>?_,λb o e n hb hx=>?_,λb o e n hx=>?_,λb o e hx=>?_,λb xs e=>tups b xs (I.base.tups b xs e),λb o xs e=>frzs b o xs (I.base.frzs b o xs e),λb ps e=>?_⟩,?_,λx c e=>?_,?_,λx c e=>?_,λp hp=>?_,hok,I.len⟩
 ·exact keep b o (neL b o e) hb (neC b o e hx) (I.base.keep b o e n hb hx) (I.base.free b o e n hx)
 ·obtain⟨sl,e1⟩:=I.base.slot b o e n hb hx
  obtain⟨sl',e2⟩:=slot b _ (neL b o e) hb (neC b o e hx) e1 (I.base.free b o e n hx)
  exact⟨sl',e2⟩
 ·obtain⟨o',e1⟩:=I.base.there b o e hx
  exact free b o' (neC b o e hx) e1 (I.base.free b o e n hx)
 ·obtain⟨o',e1⟩:=I.base.there b o e hx
  exact there b o' (neC b o e hx) e1
 ·obtain⟨m1,e1⟩:=I.base.tbls b ps e
  obtain⟨m2,e2⟩:=tbls b _ e1
  exact⟨m1++m2,by rw [e2,Array.append_assoc]⟩
 ·obtain⟨m,hn,hl⟩:=I.loc
  refine⟨m,ns m hn,λi x v e1 e2 e3=>?_⟩
  obtain⟨u,r,l⟩:=hl i x v e1 e2 e3
  refine⟨u,r,?_⟩
  rcases l with l | ⟨k,c,e,z⟩
  ·exact .inl l
  ·exact .inr ⟨k,c,e,cellK x c e _ z⟩
 ·obtain⟨v,z⟩:=I.cell x c e
  exact⟨v,cellK x c e v z⟩
 ·obtain⟨m,⟨o,_,_,ho,_⟩,_⟩:=I.loc
  exact free _ o (λz=>(hch _ z).2.1 rfl) ho I.free
 ·obtain⟨v,o,ho,hd⟩:=I.cell x c e
  exact free c o (λz=>(hch c z).2.2.1 x c e rfl) ho (I.freeC x c e)
 ·obtain⟨e,n,ne,nf,d⟩:=I.pin p hp
  have nch:p.1∉ch:=λz=>(hch p.1 z).2.2.2 p hp rfl
  exact⟨keep p.1 p.2 ne nf nch e n,free p.1 p.2 nch e n,ne,nf,d⟩
theorem Inv.un {t':Nat} (I:Inv X pins σ H s) (u:Un X.fs [] H H' s.heap h') (hok:HOk X.prog X.w H' h'):Inv X pins σ H' { s with heap:=h',toks:=t' }:=by
 obtain⟨m,⟨o,es,ep,ho,r⟩,_⟩:=id I.loc
 obtain⟨sl,hL⟩:=u.any ho I.free (by simp)
 exact I.step (g':=s.gens) (d':=s.drawn) (ch:=[]) (λ_ z=>nomatch z) (λb o _ hb _ e n=>u.keep b o e n hb (by simp)) (λb o _ hb _ e n=>u.slot b o e n hb (by simp)) (λb o _ e n=>u.free b o e n (by simp)) (λb o _ e=>u.there b o e (by simp)) u.tups u.frzs u.tbls (λm' hm=>by
  obtain⟨o',es',ep',ho',r'⟩:=hm
  rw [ho] at ho';cases ho'
  exact⟨_,es',ep',hL,r'⟩) hok I.bare
theorem Inv.call {g':Array GenState} {t':Nat} {d':Drawn} {ch:List Addr} (I:Inv X pins σ H s) (u:Un (frs X.stack) ch H H' s.heap h') (hok:HOk X.prog X.w H' h') (hg:AllBare g')
  (hch:∀ b∈ch,(b∈X.ex\/X.s₀.heap.objs.size<=b)/\b≠X.env.locals/\(∀ x c,X.env.cells.lookup x=some c->c≠b)/\∀ p∈X.pn++pins,p.1≠b) :
  Inv X pins σ H' { s with heap:=h',gens:=g',drawn:=d',toks:=t' }:=by
 obtain⟨m,⟨o,es,ep,ho,r⟩,_⟩:=id I.loc
 obtain⟨sl,hL⟩:=u.any ho I.free λz=>(hch _ z).2.1 rfl
 exact I.step (ch:=ch) hch (λb o hL hb hc e n=>u.keep b o e n (λz=>(List.mem_cons.mp (I.stkSub b z)).elim hL hb) hc) (λb o _ _ hc e n=>u.any e n hc) (λb o hc e n=>u.free b o e n hc) (λb o hc e=>u.there b o e hc) u.tups u.frzs u.tbls (λm' hm=>by
  obtain⟨o',es',ep',ho',r'⟩:=hm
  rw [ho] at ho';cases ho'
  exact⟨_,es',ep',hL,r'⟩) hok hg
theorem Inv.turned {t':Nat} {it:Addr} (I:Inv X pins σ H s) (k:∀ b o,b≠it->s.heap.get? b=some o->h'.get? b=some o) (hn:H it=none) (hL:it≠X.env.locals)
  (h1:it∈X.ex\/X.s₀.heap.objs.size<=it) (h2:∀ x c,X.env.cells.lookup x=some c->c≠it) (h3:∀ p∈X.pn++pins,p.1≠it):Inv X pins σ H { s with heap:=h',toks:=t' }:=by
 have nit:∀ b u,H b=some u->b≠it:=λb u e z=>by rw [z,hn] at e;cases e
 refine I.step (g':=s.gens) (d':=s.drawn) (ch:=[it]) (λb hb=>?_) (λb o _ _ hc e _=>k b o (λz=>hc (by simp [z])) e) (λb o _ _ hc e _=>⟨o.slots,k b o (λz=>hc (by simp [z])) e⟩) (λ_ _ _ _ n=>n)
  (λb o hc e=>⟨o,k b o (λz=>hc (by simp [z])) e⟩) (λ_ _ e=>e) (λ_ _ _ e=>e) (λb ps e=>⟨#[],by rw [e];simp⟩) (λm hm=>?_) (λb u e=>?_) I.bare
 ·have e:b=it:=by simpa using hb
  subst e
  exact⟨h1,hL,h2,h3⟩
 ·obtain⟨o,es,ep,ho,r⟩:=hm
  exact⟨o,es,ep,k _ o (Ne.symm hL) ho,r⟩
 ·refine (I.hok b u e).stay (λc v hc q=>k c v ?_ q) (λ_ q=>q) λ_ _ q=>q
  rcases hc with z | z
  ·rw [z];exact nit b u e
  ·exact nit c _ z
theorem Inv.tok (I:Inv X pins σ H s) (t:Nat):Inv X pins σ H { s with toks:=t }:=I.un (h':=s.heap) (t':=t) Un.refl I.hok
theorem Inv.kept {t':Nat} (I:Inv X pins σ H s) (k:∀ b u,s.heap.get? b=some u->h'.get? b=some u):Inv X pins σ H { s with heap:=h',toks:=t' }:=I.un (Un.kept k) (I.hok.kept k)
theorem Inv.laid {a:Addr} {o:HO} {t':Nat} (I:Inv X pins σ H s) (k:∀ b u,s.heap.get? b=some u->h'.get? b=some u) (hp:s.heap.objs.size<=a) (new:ObjOk X.prog X.w (upd H a o) h' a o) :
  Inv X pins σ (upd H a o) { s with heap:=h',toks:=t' }:=I.un (Un.laid k hp (I.hok.fresh hp)) (I.hok.laid k hp new)
theorem Inv.write {x e:Addr} {o:HO} {t':Nat} (I:Inv X pins σ H s) (mu:Mut (H x)) (he:e=x\/H e=some (.own x)) (k:∀ b u,b≠e->s.heap.get? b=some u->h'.get? b=some u) (heo:∃ u,h'.get? e=some u)
  (new:ObjOk X.prog X.w (upd H x o) h' x o):Inv X pins σ (upd H x o) { s with heap:=h',toks:=t' }:=I.un (Un.write mu he k heo) (I.hok.write mu he k heo new)
theorem Inv.weak {σ':List (Option V)} (I:Inv X pins σ H s) (hl:σ'.length=σ.length) (w:∀ (i:Nat) v,σ'[i]?=some (some v)->σ[i]?=some (some v)):Inv X pins σ' H s :=
 ⟨I.ok,I.os,I.bare,I.base,let ⟨m,hn,hl'⟩:=I.loc;⟨m,hn,λi x v e1 e2 e3=>hl' i x v e1 (w i v e2) e3⟩,I.cell,I.free,I.freeC,I.pin,I.hok,hl.trans I.len⟩
theorem Inv.pins_of {pins':List (Addr×Obj)} (I:Inv X pins σ H s) (h:∀ p∈pins',s.heap.get? p.1=some p.2/\H p.1=none/\p.1≠X.env.locals/\p.1∉X.fs/\∀ v,p.2.data≠.cell v):Inv X pins' σ H s :=
 ⟨I.ok,I.os,I.bare,I.base,I.loc,I.cell,I.free,I.freeC,λp hp=>(List.mem_append.mp hp).elim (λz=>I.pin p (List.mem_append_left _ z)) (h p),I.hok,I.len⟩
theorem UG {N:List Str} (hN:N.Nodup) {i j:Nat} {x:Str} (a:N[i]?=some x) (b:N[j]?=some x):i=j:=by
 obtain⟨h1,e1⟩:=List.getElem?_eq_some_iff.mp a
 obtain⟨h2,e2⟩:=List.getElem?_eq_some_iff.mp b
 exact (List.getElem_inj hN).mp (e1.trans e2.symm)
theorem Vh {M:Model} {A:Around} {E:Value->Shared->Prop} {i:Nat} {x:Str} {v:V} {u:Value} {Q:Unit->Shared->Prop} (I:Inv X pins σ H s) (hN:X.N.Nodup) (hi:X.N[i]?=some x) (hx:Loc X.env.scope x) (r:RelV v u)
  (h:∀ s',Inv X pins (σ.set i (some v)) H s'->(∃ a,Heap.SameBut a s.heap s'.heap/\(a=X.env.locals\/X.env.cells.lookup x=some a))->Q () s') (hf:X.fn x=true\/X.env.scope.names.lookup x=some .local:=by first | exact .inl rfl | exact .inr rfl | assumption):wpAny M A (storeName X.env x u) Q E s:=by
 obtain⟨m,hn,hl⟩:=id I.loc
 have hcls:(X.env.scope.kind == .class || (X.env.scope.kind == .module && X.env.locals != X.env.globals))=false:=by rw [I.ok.kind];rfl
 have hiσ:i<σ.length:=by rw [I.len];exact (List.getElem?_eq_some_iff.mp hi).1
 have cne:=I.cne
 have tracked:∀ {a:Addr} {h':Heap},(∃ o,s.heap.get? a=some o/\H a=none)->Heap.SameBut a s.heap h'->HOk X.prog X.w H h':=λ{a h'} ha hs b ob e=>by
  obtain⟨_,_,hfree⟩:=ha
  refine (I.hok b ob e).stay (λc w' hc q=>(hs.2 c ?_).trans q) (λ_ q=>q) λ_ _ q=>q
  rintro rfl
  rcases hc with rfl | hc
  ·rw [hfree] at e;cases e
  ·rw [hfree] at hc;cases hc
 rcases hx with hk | hk
 ·refine wpAny_storeName_local hk hn (λh' hn' hs=>?_) hcls
  obtain⟨oL,_,_,hoL,_⟩:=id hn
  refine h _ ⟨I.ok,I.os,I.bare,⟨λb o e n hb hx=>?_,λb o e n hb hx=>?_,I.base.free,λb o e hx=>?_,I.base.tups,I.base.frzs,I.base.tbls⟩,⟨_,hn',λj y v' e1 e2 e3=>?_⟩,λy c e=>?_,I.free,I.freeC,λp hp=>?_,tracked ⟨oL,hoL,I.free⟩ hs,by simpa using I.len⟩ ⟨_,hs,.inl rfl⟩
  ·exact (hs.2 b (Nat.ne_of_lt (Nat.lt_of_lt_of_le (Heap.lt_size e) I.ok.above))).trans (I.base.keep b o e n hb hx)
  ·obtain⟨sl,e1⟩:=I.base.slot b o e n hb hx
   exact⟨sl,(hs.2 b (Nat.ne_of_lt (Nat.lt_of_lt_of_le (Heap.lt_size e) I.ok.above))).trans e1⟩
  ·obtain⟨o',e1⟩:=I.base.there b o e hx
   exact⟨o',(hs.2 b (Nat.ne_of_lt (Nat.lt_of_lt_of_le (Heap.lt_size e) I.ok.above))).trans e1⟩
  ·by_cases hj:j=i
   ·subst hj
    rw [hi] at e1;cases e1
    rw [List.getElem?_set_self hiσ] at e2
    cases e2
    exact⟨u,r,.inl ⟨hk,by simp⟩⟩
   ·rw [List.getElem?_set_ne (Ne.symm hj)] at e2
    obtain⟨u',r',q⟩:=hl j y v' e1 e2 e3
    refine⟨u',r',?_⟩
    rcases q with ⟨k,e⟩ | ⟨k,c,e,z⟩
    ·refine .inl ⟨k,?_⟩
     have:y≠x:=λe=>hj (UG hN e1 (e▸hi))
     simp [this,e]
    ·exact .inr ⟨k,c,e,z.sameBut hs (cne y c e)⟩
  ·obtain⟨w',z⟩:=I.cell y c e
   exact⟨w',z.sameBut hs (cne y c e)⟩
  ·obtain⟨e,n,ne,nf,d⟩:=I.pin p hp
   exact⟨(hs.2 p.1 ne).trans e,n,ne,nf,d⟩
 ·have hfn:X.fn x=true:=by
   rcases hf with z | z
   ·exact z
   ·rw [z] at hk;cases hk
  obtain⟨c,hc⟩:=I.ok.has x (.inl hk)
  obtain⟨w',z⟩:=I.cell x c hc
  refine wpAny_storeName_cell I.ok.kind hk hc z (λh' hc' hs=>?_)
  obtain⟨oc,hoc,hocd⟩:=id z
  refine h { s with heap:=h' } ⟨I.ok,I.os,I.bare,⟨λb o e n hb hx=>?_,λb o e n hb hx=>?_,I.base.free,λb o e hx=>?_,I.base.tups,I.base.frzs,I.base.tbls⟩,⟨m,hn.sameBut hs (Ne.symm (cne x c hc)),λj y v' e1 e2 e3=>?_⟩,λy c' e=>?_,I.free,I.freeC,λp hp=>?_,tracked ⟨oc,hoc,I.freeC x c hc⟩ hs,by simpa using I.len⟩ ⟨c,hs,.inr hc⟩
  ·exact (hs.2 b (Nat.ne_of_lt (Nat.lt_of_lt_of_le (Heap.lt_size e) (I.ok.cab x c hfn hc)))).trans (I.base.keep b o e n hb hx)
  ·obtain⟨sl,e1⟩:=I.base.slot b o e n hb hx
   exact⟨sl,(hs.2 b (Nat.ne_of_lt (Nat.lt_of_lt_of_le (Heap.lt_size e) (I.ok.cab x c hfn hc)))).trans e1⟩
  ·obtain⟨o',e1⟩:=I.base.there b o e hx
   exact⟨o',(hs.2 b (Nat.ne_of_lt (Nat.lt_of_lt_of_le (Heap.lt_size e) (I.ok.cab x c hfn hc)))).trans e1⟩
  ·by_cases hj:j=i
   ·subst hj
    rw [hi] at e1;cases e1
    rw [List.getElem?_set_self hiσ] at e2
    cases e2
    exact⟨u,r,.inr ⟨.inl hk,c,hc,hc'⟩⟩
   ·rw [List.getElem?_set_ne (Ne.symm hj)] at e2
    obtain⟨u',r',q⟩:=hl j y v' e1 e2 e3
    refine⟨u',r',?_⟩
    rcases q with q | ⟨k,c',e,z'⟩
    ·exact .inl q
    ·refine .inr ⟨k,c',e,z'.sameBut hs ?_⟩
     rintro rfl
     exact hj (UG hN e1 (I.ok.inj _ _ _ e hc▸hi))
  ·by_cases hcc:c'=c
   ·subst hcc;exact⟨_,hc'⟩
   ·obtain⟨w2,z2⟩:=I.cell y c' e
    exact⟨w2,z2.sameBut hs hcc⟩
  ·obtain⟨e,n,ne,nf,d⟩:=I.pin p hp
   refine⟨(hs.2 p.1 ?_).trans e,n,ne,nf,d⟩
   intro q
   rw [q,hoc] at e
   have q':oc=p.2:=Option.some.inj e
   exact d w' (by rw [<- q'];exact hocd)
theorem WF {M:Model} {A:Around} {E:Value->Shared->Prop} {i:Nat} {x:Str} {v:V} {u:Value} {Q:Unit->Shared->Prop} (I:Inv X pins σ H s) (hN:X.N.Nodup) (hi:X.N[i]?=some x) (hx:Loc X.env.scope x) (r:RelV v u)
  (h:∀ s',Inv X pins (σ.set i (some v)) H s'->Q () s') (hf:X.fn x=true\/X.env.scope.names.lookup x=some .local:=by first | exact .inl rfl | exact .inr rfl | assumption):wpAny M A (storeName X.env x u) Q E s :=
 Vh I hN hi hx r (λs' I' _=>h s' I') hf
theorem Inv.call' {s':Shared} {ch:List Addr} (I:Inv X pins σ H s) (ho:s'.os=s.os) (u:Un (frs X.stack) ch H H' s.heap s'.heap) (hok:HOk X.prog X.w H' s'.heap) (hg:AllBare s'.gens)
  (hch:∀ b∈ch,(b∈X.ex\/X.s₀.heap.objs.size<=b)/\b≠X.env.locals/\(∀ x c,X.env.cells.lookup x=some c->c≠b)/\∀ p∈X.pn++pins,p.1≠b):Inv X pins σ H' s':=by
 obtain⟨h',g',d',t',o'⟩:=s'
 have e:o'=s.os:=ho
 subst e
 exact I.call (g':=g') (t':=t') (d':=d') u hok hg hch
end
abbrev XK:=Value->Option Addr->Hp->Prop
abbrev St:=List (Option V)
abbrev VK:=V->Hp->Prop
abbrev TE:=St->Hp->VK->Prop
abbrev TT:=St->Hp->(Bool->Hp->Prop)->Prop
abbrev TA:=St->Hp->(List V->Hp->Prop)->Prop
structure Ends where
 nx:St->Hp->Prop
 rt:VK
 bk:St->Hp->Prop:=λ_ _=>False
 ct:St->Hp->Prop:=λ_ _=>False
abbrev TS:=Ends->St->Hp->Prop
def EP (X:Cx) (pins:List (Addr×Obj)) (σ:St) (Q:VK) (u:Value) (s':Shared):Prop:=∃ v H',Inv X pins σ H' s'/\RelV v u/\Q v H'
def TP (X:Cx) (pins:List (Addr×Obj)) (σ:St) (Q:Bool->Hp->Prop) (b:Bool) (s':Shared):Prop:=∃ H',Inv X pins σ H' s'/\Q b H'
def AP (X:Cx) (pins:List (Addr×Obj)) (σ:St) (Q:List V->Hp->Prop) (us:List Value) (s':Shared):Prop:=∃ vs H',Inv X pins σ H' s'/\Vals vs us/\Q vs H'
def SP (X:Cx) (pins:List (Addr×Obj)) (D:Ends) (f:Flow) (s':Shared):Prop :=
 match f with
 | .next=>∃ σ' H',Inv X pins σ' H' s'/\D.nx σ' H'
 | .brk=>∃ σ' H',Inv X pins σ' H' s'/\D.bk σ' H'
 | .cont=>∃ σ' H',Inv X pins σ' H' s'/\D.ct σ' H'
 | .ret u=>∃ v σ' H',Inv X pins σ' H' s'/\RelV v u/\D.rt v H'
def PE (X:Cx) (e:Expr) (t:TE):Prop :=
 ∀ (pins:List (Addr×Obj)) (s:Shared) (σ:St) (H:Hp) (Q:VK),Inv X pins σ H s->t σ H Q->wpAny (model X.prog X.w) X.A (eval e X.env) (EP X pins σ Q) X.xe s
def PT (X:Cx) (e:Expr) (t:TT):Prop :=
 ∀ (pins:List (Addr×Obj)) (s:Shared) (σ:St) (H:Hp) (Q:Bool->Hp->Prop),Inv X pins σ H s->t σ H Q->wpAny (model X.prog X.w) X.A (isTrue e X.env (eval e X.env)) (TP X pins σ Q) X.xe s
def PW (X:Cx) (e:Expr) (t:TT):Prop :=
 ∀ (whole:Sem Value) (pins:List (Addr×Obj)) (s:Shared) (σ:St) (H:Hp) (Q:Bool->Hp->Prop),Inv X pins σ H s->t σ H Q->wpAny (model X.prog X.w) X.A (isTrue e X.env whole) (TP X pins σ Q) X.xe s
theorem PW.pt {X:Cx} {e:Expr} {t:TT} (h:PW X e t):PT X e t:=h _
def PA (X:Cx) (es:List Expr) (t:TA):Prop :=
 ∀ (pos:Pos) (pins:List (Addr×Obj)) (s:Shared) (σ:St) (H:Hp) (Q:List V->Hp->Prop),Inv X pins σ H s->t σ H Q->wpAny (model X.prog X.w) X.A (spliced (backTo pos (starEach es X.env))) (AP X pins σ Q) X.xe s
def PS (X:Cx) (st:Stmt) (t:TS):Prop :=
 ∀ (pins:List (Addr×Obj)) (s:Shared) (σ:St) (H:Hp) (D:Ends),Inv X pins σ H s->t D σ H->wpAny (model X.prog X.w) X.A (exec st X.env) (SP X pins D) X.xe s
def PSs (X:Cx) (st:List Stmt) (t:TS):Prop :=
 ∀ (pins:List (Addr×Obj)) (s:Shared) (σ:St) (H:Hp) (D:Ends),Inv X pins σ H s->t D σ H->wpAny (model X.prog X.w) X.A (execs st X.env) (SP X pins D) X.xe s
theorem thn {α:Type} {t:Sem α} {Q Q':α->Shared->Prop} {M:Model} {A:Around} {E:Value->Shared->Prop} {s:Shared} (h:wpAny M A t Q E s) (hQ:∀ a s,Q a s->Q' a s):wpAny M A t Q' E s:=wpAny_mono h hQ λ_ _ x=>x
section
variable {X:Cx}
def ze7 (i:Nat):TE:=fun σ H Q=>∃ v,σ[i]?=some (some v)/\Q v H
def tC (v:V):TE:=λ_ H Q=>Q v H
theorem zgf {i:Nat} {x:Str} {pos:Pos} (hN:X.N[i]?=some x) (hv:Vis X.env.scope x) (hd:(x == ("__debug__" : Str))=false:=by decide) (hcd:(x == ("__classdict__" : Str))=false:=by decide):PE X (.Name x pos) (ze7 i):=by
 intro pins s σ H Q I h
 obtain⟨v,e,h⟩:=h
 obtain⟨m,hn,hl⟩:=I.loc
 obtain⟨u,r,l⟩:=hl i x v hN e hv
 have fin:EP X pins σ Q u s:=⟨v,H,I,r,h⟩
 rcases l with ⟨hk,hm⟩ | ⟨hk,c,hc,hcell⟩
 ·exact wpAny_Name (wpAny_loadName_local I.ok.kind hk hn hm fin) hd
 ·rcases hk with hk | hk
  ·exact wpAny_Name (wpAny_loadName_cell I.ok.kind hk hc hcell fin) hd
  ·exact wpAny_Name (wpAny_loadName_free I.ok.kind hk hc hcell fin hcd) hd
theorem zr {i j pos}:PE X (.Constant (.int i) j pos) (tC (.int i)):=λ_ _ _ H _ I h=>wpAny_Constant_int ⟨.int i,H,I.tok _,⟨_,rfl⟩,h⟩
theorem jn {b j pos}:PE X (.Constant (.bool b) j pos) (tC (.bl b)):=λ_ _ _ H _ I h=>Constant_bool ⟨.bl b,H,I,rfl,h⟩
theorem Zm {j pos}:PE X (.Constant .none j pos) (tC .non):=λ_ _ _ H _ I h=>Constant_none ⟨.non,H,I,rfl,h⟩
theorem uv {x j pos}:PE X (.Constant (.str x) j pos) (tC (.str x)):=λ_ _ _ H _ I h=>Calls.Constant_str ⟨.str x,H,I.tok _,⟨_,rfl⟩,h⟩
def Gl (X:Cx) (x:Str):Prop:=X.env.kindOf x=some .globalImplicit
theorem Xh {E:Value->Shared->Prop} {pins:List (Addr×Obj)} {s:Shared} {σ:St} {H:Hp} {x:Str} {u:Value} {pos:Pos} {Q:Value->Shared->Prop} (I:Inv X pins σ H s) (hg:Gl X x) (hm:X.mg x=some u) (h:Q u s)
  (hd:(x == ("__debug__" : Str))=false:=by decide):wpAny (model X.prog X.w) X.A (eval (.Name x pos) X.env) Q E s :=
 Calls.Name_function_global I.ok.kind hg (Calls.loadGlobal_global (by rw [I.ok.glob];exact I.mod.glob.keeps I.bk) hm h) hd
theorem Zk {E:Value->Shared->Prop} {pins:List (Addr×Obj)} {s:Shared} {σ:St} {H:Hp} {x:Str} {u:Value} {pos:Pos} {Q:Value->Shared->Prop} (I:Inv X pins σ H s) (hg:Gl X x) (hm:X.mg x=none) (hv:bootBuiltins x=some u) (h:Q u s)
  (hn:x ≠ "__name__":=by decide) (hd:(x == ("__debug__" : Str))=false:=by decide):wpAny (model X.prog X.w) X.A (eval (.Name x pos) X.env) Q E s:=by
 obtain⟨mb,h1,h2⟩:=I.mod.blt
 exact Calls.Name_function_global I.ok.kind hg (Calls.loadGlobal_builtin (by rw [I.ok.glob];exact I.mod.glob.keeps I.bk) hm (by rw [I.ok.blt];exact h1.keeps I.bk) ((h2 x hn).trans hv) h) hd
theorem yH {x:Str} {v:V} {u:Value} {pos:Pos} (hg:Gl X x) (hm:X.mg x=some u) (r:RelV v u) (hd:(x == ("__debug__" : Str))=false:=by decide):PE X (.Name x pos) (tC v) :=
 λ_ _ _ H _ I h=>Xh I hg hm ⟨v,H,I,r,h⟩ hd
theorem vq {x:Str} {v:V} {u:Value} {pos:Pos} (hg:Gl X x) (hm:X.mg x=none) (hv:bootBuiltins x=some u) (r:RelV v u) (hn:x ≠ "__name__":=by decide) (hd:(x == ("__debug__" : Str))=false:=by decide):PE X (.Name x pos) (tC v) :=
 λ_ _ _ H _ I h=>Zk I hg hm hv ⟨v,H,I,r,h⟩ hn hd
variable {a b:Expr} {ta tb:TE} {pos:Pos}
def tB (t:TE):TT:=fun σ H Q=>t σ H λx H1=>∃ c,x=.bl c/\Q c H1
theorem xm {e:Expr} {t:TE} (h:PE X e t) (he:∀ whole,isTrue e X.env whole=(do let v <- whole;standAt e.pos;holding [v] (truthy v)):=by intro _;rfl):PT X e (tB t):=by
 intro pins s σ H Q I hw
 refine isTrue_plain (thn (h pins s σ H _ I hw) λv s1 ⟨x,H1,I1,r1,q1⟩=>?_) (he _)
 obtain⟨d,rfl,q⟩:=q1
 cases r1
 exact wpAny_truthy_bool ⟨H1,I1,q⟩
variable {tA tB':TT} {rest:List Expr}
def zhd (t u:TT):TT:=fun σ H Q=>t σ H λc H1=>if c=true then u σ H1 Q else Q false H1
def tOr (t u:TT):TT:=fun σ H Q=>t σ H λc H1=>if c=true then Q true H1 else u σ H1 Q
def zhq (t:TT):TT:=fun σ H Q=>t σ H λc H1=>Q (!c) H1
theorem zas (ha:PT X a tA):PW X (.BoolOp .And [a] pos) tA:=by
 intro wh pins s σ H Q I h
 refine isTrue_and (thn (ha pins s σ H Q I h) λc s1 e=>?_)
 cases c with
 | true=>exact isTrue_and_nil e
 | false=>exact e
theorem uR (ha:PT X a tA):PW X (.BoolOp .Or [a] pos) tA:=by
 intro wh pins s σ H Q I h
 refine isTrue_or (thn (ha pins s σ H Q I h) λc s1 e=>?_)
 cases c with
 | false=>exact isTrue_or_nil e
 | true=>exact e
theorem zbP (ha:PT X a tA) (hb:PW X (.BoolOp .And (b :: rest) pos) tB'):PW X (.BoolOp .And (a :: b :: rest) pos) (zhd tA tB'):=by
 intro wh pins s σ H Q I h
 refine isTrue_and (thn (ha pins s σ H _ I h) λc s1 ⟨H1,I1,q1⟩=>?_)
 cases c with
 | true=>exact hb wh pins s1 σ H1 Q I1 q1
 | false=>exact⟨H1,I1,q1⟩
theorem jX (ha:PT X a tA) (hb:PW X (.BoolOp .Or (b :: rest) pos) tB'):PW X (.BoolOp .Or (a :: b :: rest) pos) (tOr tA tB'):=by
 intro wh pins s σ H Q I h
 refine isTrue_or (thn (ha pins s σ H _ I h) λc s1 ⟨H1,I1,q1⟩=>?_)
 cases c with
 | true=>exact⟨H1,I1,q1⟩
 | false=>exact hb wh pins s1 σ H1 Q I1 q1
theorem wz (ha:PT X a tA):PT X (.UnaryOp .Not a pos) (zhq tA):=by
 intro pins s σ H Q I h
 exact isTrue_not (ha pins s σ H (λc H1=>Q (!c) H1) I h)
def zg9 (ta tb:TE):TE:=fun σ H Q=>ta σ H λx H1=>∃ c,x=.bl c/\if c=true then tb σ H1 Q else Q (.bl false) H1
def zho (ta tb:TE):TE:=fun σ H Q=>ta σ H λx H1=>∃ c,x=.bl c/\if c=true then Q (.bl true) H1 else tb σ H1 Q
def zgB (ta:TE):TE:=fun σ H Q=>ta σ H λx H1=>∃ c,x=.bl c/\Q (.bl (!c)) H1
theorem jz {op} {t:TE} (h:PE X a t):PE X (.BoolOp op [a] pos) t:=λpins s σ H Q I hw=>BoolOp_one (h pins s σ H Q I hw)
theorem Zv (ha:PE X a ta) (hb:PE X (.BoolOp .And (b :: rest) pos) tb):PE X (.BoolOp .And (a :: b :: rest) pos) (zg9 ta tb):=by
 intro pins s σ H Q I h
 refine BoolOp_and (thn (ha pins s σ H _ I h) λv s1 ⟨x,H1,I1,r1,q1⟩=>?_)
 obtain⟨c,rfl,q1⟩:=q1
 cases r1
 refine wpAny_truthy_bool ?_
 cases c with
 | true=>exact hb pins s1 σ H1 Q I1 q1
 | false=>exact⟨.bl false,H1,I1,rfl,q1⟩
theorem zgD (ha:PE X a ta) (hb:PE X (.BoolOp .Or (b :: rest) pos) tb):PE X (.BoolOp .Or (a :: b :: rest) pos) (zho ta tb):=by
 intro pins s σ H Q I h
 refine BoolOp_or (thn (ha pins s σ H _ I h) λv s1 ⟨x,H1,I1,r1,q1⟩=>?_)
 obtain⟨c,rfl,q1⟩:=q1
 cases r1
 refine wpAny_truthy_bool ?_
 cases c with
 | false=>exact hb pins s1 σ H1 Q I1 q1
 | true=>exact⟨.bl true,H1,I1,rfl,q1⟩
theorem zdZ (ha:PE X a ta):PE X (.UnaryOp .Not a pos) (zgB ta):=by
 intro pins s σ H Q I h
 refine UnaryOp_ (thn (ha pins s σ H _ I h) λv s1 ⟨x,H1,I1,r1,q1⟩=>?_)
 obtain⟨c,rfl,q1⟩:=q1
 cases r1
 exact not_of (wpAny_truthy_bool ⟨.bl (!c),H1,I1,rfl,q1⟩)
def tIf (t:TT) (ta tb:TE):TE:=fun σ H Q=>t σ H λc H1=>if c=true then ta σ H1 Q else tb σ H1 Q
theorem zeL {c:Expr} (hc:PT X c tA) (ha:PE X a ta) (hb:PE X b tb):PE X (.IfExp c a b pos) (tIf tA ta tb):=by
 intro pins s σ H Q I h
 refine wpAny_IfExp (thn (hc pins s σ H _ I h) λd s1 ⟨H1,I1,q1⟩=>?_)
 cases d with
 | true=>exact ha pins s1 σ H1 Q I1 q1
 | false=>exact hb pins s1 σ H1 Q I1 q1
end
def SqL (K:W.Frag) (H:Hp) (a:Addr) (xs:List V):Prop :=
 Rd H a (.lst xs) \/
  ∃ (o:Obj) (its:Array Value) (n:Nat),K.lookup a=some o/\o.cls=.type "list"/\o.dict=none/\o.data=.seq its n/\its.size<=sizeLine/\Vals xs its.toList
def SqT (K:W.Frag) (H:Hp) (a:Addr) (xs:List V):Prop :=
 Rd H a (.tup xs) \/
  ∃ (o:Obj) (its:Array Value) (n:Nat),K.lookup a=some o/\o.cls=.type "tuple"/\o.data=.seq its n/\its.size<=sizeLine/\Vals xs its.toList
def zhr:Value->Option V
 | .none=>some .non
 | .bool b=>some (.bl b)
 | .int i _=>some (.int i)
 | .str x _=>some (.str x)
 | .bytes b _=>some (.byt b)
 | .float b _=>some (.flt b)
 | .ref a=>some (.ref a)
 | .type n=>some (.ty n)
 | _=>none
theorem RelV.abs {x:V} {u:Value} (r:RelV x u):zhr u=some x:=by
 cases x with
 | non=>cases r;rfl
 | bl _=>cases r;rfl
 | int _=>obtain⟨t,rfl⟩:=r;rfl
 | str _=>obtain⟨t,rfl⟩:=r;rfl
 | byt _=>obtain⟨t,rfl⟩:=r;rfl
 | flt _=>obtain⟨t,rfl⟩:=r;rfl
 | ref _=>cases r;rfl
 | ty _=>cases r;rfl
theorem RelV.inj {x y:V} {u:Value} (r:RelV x u) (q:RelV y u):x=y:=Option.some.inj (r.abs.symm.trans q.abs)
theorem Vals.inj:∀ {xs ys:List V} {us:List Value},Vals xs us->Vals ys us->xs=ys
 | _,_,_,.nil,.nil=>rfl
 | _,_,_,.cons r t,.cons r' t'=>by rw [r.inj r',Vals.inj t t']
section
variable {X:Cx} {pins:List (Addr×Obj)} {σ:St} {H:Hp} {s:Shared} {a:Addr} {xs ys:List V}
theorem SqL.of {K:W.Frag} (h:H a=some (.lst xs)):SqL K H a xs:=.inl (.inl h)
theorem SqT.of {K:W.Frag} (h:H a=some (.tup xs)):SqT K H a xs:=.inl (.inl h)
theorem Inv.list (I:Inv X pins σ H s) (h:SqL X.K H a xs):∃ its:List Value,Vals xs its/\PlainL s.heap a its.toArray/\xs.length<=sizeLine:=by
 rcases h with h | ⟨o,its,n,hk,hc,hd,hs,hz,r⟩
 ·obtain⟨z,its,n,r,e⟩:=h.ok I.hok
  exact⟨its,r,⟨_,n,e,rfl,rfl,rfl⟩,z⟩
 ·refine⟨its.toList,r,⟨o,n,I.kIn a o hk,hc,hd,by simpa using hs⟩,?_⟩
  have e:=r.length
  simp only [Array.length_toList] at e
  omega
theorem Inv.tuple (I:Inv X pins σ H s) (h:SqT X.K H a xs):∃ its:List Value,Vals xs its/\IsTup s.heap a its.toArray/\xs.length<=sizeLine:=by
 rcases h with h | ⟨o,its,n,hk,hc,hs,hz,r⟩
 ·obtain⟨z,its,r,p⟩:=h.ok I.hok
  exact⟨its,r,p,z⟩
 ·refine⟨its.toList,r,⟨o,I.kIn a o hk,hc,n,by simpa using hs⟩,?_⟩
  have e:=r.length
  simp only [Array.length_toList] at e
  omega
theorem Inv.list_inj (I:Inv X pins σ H s) (h:SqL X.K H a xs) (h':SqL X.K H a ys):xs=ys:=by
 obtain⟨its,r,⟨o,n,e,_,_,d⟩,_⟩:=I.list h
 obtain⟨its',r',⟨o',n',e',_,_,d'⟩,_⟩:=I.list h'
 rw [e] at e';cases e'
 rw [d] at d'
 injection d' with d1 _
 have:its=its':=by simpa using congrArg Array.toList d1
 subst this
 exact r.inj r'
theorem Inv.tuple_inj (I:Inv X pins σ H s) (h:SqT X.K H a xs) (h':SqT X.K H a ys):xs=ys:=by
 obtain⟨its,r,⟨o,e,_,n,d⟩,_⟩:=I.tuple h
 obtain⟨its',r',⟨o',e',_,n',d'⟩,_⟩:=I.tuple h'
 rw [e] at e';cases e'
 rw [d] at d'
 injection d' with d1 _
 have:its=its':=by simpa using congrArg Array.toList d1
 subst this
 exact r.inj r'
end
abbrev Cx.wish (X:Cx) (E:Value->Shared->Prop):Cx:={ X with xe:=E }
abbrev Cx.nox (X:Cx):Cx:=X.wish λ_ _=>False
theorem Cx.Ok.wish {X:Cx} (ok:X.Ok) (E:Value->Shared->Prop):(X.wish E).Ok :=
 ⟨ok.mod,ok.kind,ok.glob,ok.blt,ok.above,ok.inj,ok.has,ok.cab,ok.hd,ok.frames,ok.stk,ok.exf,ok.bs,ok.bsz,ok.noex,ok.exfs,ok.funs,ok.frf⟩
theorem Cx.Ok.unwish {X:Cx} {E:Value->Shared->Prop} (ok:(X.wish E).Ok):X.Ok :=
 ⟨ok.mod,ok.kind,ok.glob,ok.blt,ok.above,ok.inj,ok.has,ok.cab,ok.hd,ok.frames,ok.stk,ok.exf,ok.bs,ok.bsz,ok.noex,ok.exfs,ok.funs,ok.frf⟩
section
variable {X:Cx} {pins:List (Addr×Obj)} {σ:St} {H:Hp} {s:Shared} {E:Value->Shared->Prop}
theorem Inv.wish (I:Inv X pins σ H s) (E:Value->Shared->Prop):Inv (X.wish E) pins σ H s:=⟨I.ok.wish E,I.os,I.bare,I.base,I.loc,I.cell,I.free,I.freeC,I.pin,I.hok,I.len⟩
theorem Inv.unwish (I:Inv (X.wish E) pins σ H s):Inv X pins σ H s:=⟨I.ok.unwish,I.os,I.bare,I.base,I.loc,I.cell,I.free,I.freeC,I.pin,I.hok,I.len⟩
theorem SP.unwish {D:Ends} {f:Flow} {s':Shared} (h:SP (X.wish E) pins D f s'):SP X pins D f s':=by
 cases f with
 | next=>obtain⟨σ',H',I,q⟩:=h;exact⟨σ',H',I.unwish,q⟩
 | brk=>obtain⟨σ',H',I,q⟩:=h;exact⟨σ',H',I.unwish,q⟩
 | cont=>obtain⟨σ',H',I,q⟩:=h;exact⟨σ',H',I.unwish,q⟩
 | ret u=>obtain⟨v,σ',H',I,r,q⟩:=h;exact⟨v,σ',H',I.unwish,r,q⟩
theorem PE.nox {e:Expr} {t:TE} (h:PE X.nox e t):PE X e t:=λpins s σ H Q I hw =>
 wpAny_mono (h pins s σ H Q (I.wish _) hw) (λ_ _ ⟨v,H',I',r,q⟩=>⟨v,H',I'.unwish,r,q⟩) λ_ _ z=>False.elim z
theorem PT.nox {e:Expr} {t:TT} (h:PT X.nox e t):PT X e t:=λpins s σ H Q I hw =>
 wpAny_mono (h pins s σ H Q (I.wish _) hw) (λ_ _ ⟨H',I',q⟩=>⟨H',I'.unwish,q⟩) λ_ _ z=>False.elim z
theorem PSs.nox {st:List Stmt} {t:TS} (h:PSs X.nox st t):PSs X st t:=λpins s σ H D I hw =>
 wpAny_mono (h pins s σ H D (I.wish _) hw) (λ_ _ q=>q.unwish) λ_ _ z=>False.elim z
end
section
variable {X:Cx} {st:Stmt} {rest:List Stmt} {t u:TS} {e:Expr} {te:TE} {pos:Pos}
def zfJ:TS:=λD σ H=>D.nx σ H
def zdM (t u:TS):TS:=λD σ H=>t { D with nx:=u D } σ H
theorem zT:PSs X [] zfJ:=λ_ _ σ H _ I h=>wpAny_execs_nil ⟨σ,H,I,h⟩
theorem zp (h1:PS X st t) (h2:PSs X rest u):PSs X (st :: rest) (zdM t u):=by
 intro pins s σ H D I h
 refine wpAny_execs_cons (thn (h1 pins s σ H { D with nx:=u D } I h) λf s1 q=>?_)
 cases f with
 | next =>
  obtain⟨σ',H',I',q⟩:=q
  exact h2 pins s1 σ' H' D I' q
 | ret v=>exact q
 | brk=>exact q
 | cont=>exact q
theorem zu (h1:PS X st t):PSs X [st] t:=by
 intro pins s σ H D I h
 refine wpAny_execs_cons (thn (h1 pins s σ H D I h) λf s1 q=>?_)
 cases f with
 | next=>exact wpAny_execs_nil q
 | ret v=>exact q
 | brk=>exact q
 | cont=>exact q
theorem Inv.quiet {pins:List (Addr×Obj)} {σ:St} {H:Hp} {s:Shared} (I:Inv X pins σ H s):interactive X.env=false:=by simp [interactive,I.ok.kind]
def zgR (te:TE):TS:=λD σ H=>te σ H λ_ H1=>D.nx σ H1
theorem vg (he:PE X e te) (hs:swapsWith e none pos.line X.env=pure false:=by rfl):PS X (.Expr e pos) (zgR te):=by
 intro pins s σ H D I h
 exact wpAny_Expr_any (thn (he pins s σ H _ I h) λv s1 ⟨x,H1,I1,r1,q1⟩=>⟨σ,H1,I1,q1⟩) I.quiet hs
def zgU (te:TE):TS:=λD σ H=>te σ H D.rt
theorem zF (he:PE X e te):PS X (.Return (some e) pos) (zgU te):=by
 intro pins s σ H D I h
 exact wpAny_Return_some (thn (he pins s σ H _ I h) λv s1 ⟨x,H1,I1,r1,q1⟩=>⟨x,σ,H1,I1,r1,q1⟩)
def zhi (c:TT) (t u:TS):TS:=λD σ H=>c σ H λb H1=>if b=true then t D σ H1 else u D σ H1
theorem yE {c:Expr} {a b:List Stmt} {tc:TT} (hc:PT X c tc) (ha:PSs X a t) (hb:PSs X b u):PS X (.If c a b pos) (zhi tc t u):=by
 intro pins s σ H D I h
 refine wpAny_If (thn (hc pins s σ H _ I h) λd s1 ⟨H1,I1,q1⟩=>?_)
 cases d with
 | true=>exact ha pins s1 σ H1 D I1 q1
 | false=>exact hb pins s1 σ H1 D I1 q1
def zen:TS:=λ_ _ _=>False
theorem zaY:PS X st zen:=λ_ _ _ _ _ _ h=>h.elim
theorem zcW {sts:List Stmt}:PSs X sts zen:=λ_ _ _ _ _ _ h=>h.elim
end
abbrev TG:=V->St->Hp->(St->Hp->Prop)->Prop
abbrev TGs:=List V->St->Hp->(St->Hp->Prop)->Prop
def PG (X:Cx) (target:Expr) (t:TG):Prop :=
 ∀ (pins:List (Addr×Obj)) (s:Shared) (σ:St) (H:Hp) (v:V) (u:Value) (Q:St->Hp->Prop),Inv X pins σ H s->RelV v u->t v σ H Q ->
  wpAny (model X.prog X.w) X.A (assign target X.env u) (λ_ s'=>∃ σ' H',Inv X pins σ' H' s'/\Q σ' H') X.xe s
def PGs (X:Cx) (ts:List Expr) (t:TGs):Prop :=
 ∀ (pins:List (Addr×Obj)) (s:Shared) (σ:St) (H:Hp) (vs:List V) (us:List Value) (Q:St->Hp->Prop),Inv X pins σ H s->Vals vs us->t vs σ H Q ->
  wpAny (model X.prog X.w) X.A (assignInOrder ((assignEach ts X.env).map (·.2)) us) (λ_ s'=>∃ σ' H',Inv X pins σ' H' s'/\Q σ' H') X.xe s
abbrev zfL:=V->V->V->Hp->(Hp->Prop)->Prop
def zgu (X:Cx) (t:zfL):Prop :=
 ∀ (pins:List (Addr×Obj)) (s:Shared) (σ:St) (H:Hp) (o i v:V) (ov iv u:Value) (Q:Hp->Prop),Inv X pins σ H s->RelV o ov->RelV i iv->RelV v u->t o i v H Q ->
  wpAny (model X.prog X.w) X.A (setItem ov iv u) (λ_ s'=>∃ H',Inv X pins σ H' s'/\Q H') X.xe s
abbrev TIp:=V->V->Hp->VK->Prop
def PIp (X:Cx) (op:Operator) (t:TIp):Prop :=
 ∀ (pins:List (Addr×Obj)) (s:Shared) (σ:St) (H:Hp) (x y:V) (v u:Value) (Q:VK),Inv X pins σ H s->RelV x v->RelV y u->t x y H Q ->
  wpAny (model X.prog X.w) X.A (inplaceOp op v u) (EP X pins σ Q) X.xe s
section
variable {X:Cx} {pos:Pos}
def XX (i:Nat):TG:=λv σ H Q=>Q (σ.set i (some v)) H
theorem yV {i:Nat} {x:Str} (hN:X.N.Nodup) (hi:X.N[i]?=some x) (hx:Loc X.env.scope x) (hf:X.fn x=true\/X.env.scope.names.lookup x=some .local:=by first | exact .inl rfl | exact .inr rfl | assumption):PG X (.Name x pos) (XX i):=by
 intro pins s σ H v u Q I r h
 exact wpAny_assign_Name (WF I hN hi hx r (λs' I'=>⟨_,H,I',h⟩) hf)
def zhh:TGs:=λvs σ H Q=>vs=[]/\Q σ H
def zhb (t:TG) (u:TGs):TGs:=λvs σ H Q=>∃ v r,vs=v :: r/\t v σ H fun σ' H'=>u r σ' H' Q
theorem Uh:PGs X [] zhh:=by
 intro pins s σ H vs us Q I r h
 obtain⟨e,h⟩:=h
 subst e
 cases r
 exact assignInOrder_nil ⟨σ,H,I,h⟩
theorem qi {e:Expr} {es:List Expr} {t:TG} {u:TGs} (h1:PG X e t) (h2:PGs X es u)
  (hs:(assignEach (e :: es) X.env).map (·.2)=assign e X.env :: (assignEach es X.env).map (·.2):=by rfl):PGs X (e :: es) (zhb t u):=by
 intro pins s σ H vs us Q I r h
 obtain⟨v,vr,e1,h⟩:=h
 subst e1
 cases r with
 | cons r rr =>
  rw [hs]
  refine assignInOrder_cons (thn (h1 pins s σ H _ _ _ I r h) λ_ s1 ⟨σ1,H1,I1,q1⟩=>?_)
  exact h2 pins s1 σ1 H1 _ _ Q I1 rr q1
def zgS (K:W.Frag) (n:Nat) (t:TGs):TG:=λv σ H Q=>∃ a xs,v=.ref a/\SqT K H a xs/\xs.length=n/\t xs σ H Q
theorem zaB {es:List Expr} {k:Nat} {t:TGs} {n:Nat} (hc:X.calm=true) (h:PGs X es t)
  (hn:(assignEach es X.env).length=n:=by rfl) (hst:(assignEach es X.env).findIdx? (·.1)=none:=by rfl):PG X (.Tuple es k pos) (zgS X.K n t):=by
 intro pins s σ H v u Q I r hw
 obtain⟨a,xs,e1,hq,hl,hw⟩:=hw
 subst e1
 cases r
 obtain⟨its,rv,ht,hz⟩:=I.tuple hq
 refine assign_Tuple_tuple (I.ok.hd hc) ht (by simp [hn,<- hl,rv.length]) hst λh' hx=>?_
 have I1:Inv X pins σ H { s with heap:=h' }:=I.kept (t':=s.toks) λb o e=>hx b o (Nat.ne_of_lt (Heap.lt_size e)) e
 exact h pins _ σ H xs _ Q I1 (by simpa using rv) hw
def zhs (to ti:TE) (t:zfL):TG:=λv σ H Q=>to σ H λo H1=>ti σ H1 λi H2=>t o i v H2 λH3=>Q σ H3
theorem zet {o i:Expr} {to ti:TE} {t:zfL} (ho:PE X o to) (hi:PE X i ti) (hs:zgu X t)
  (ha:∀ v,assign (.Subscript o i pos) X.env v=(do
   let ov <- holding [v] (eval o X.env)
   let iv <- holding [v,ov] (eval i X.env)
   standAt pos
   holding [v,ov,iv] (setItem ov iv v)
   release [v,ov,iv] []):=by intro _;rfl):PG X (.Subscript o i pos) (zhs to ti t):=by
 intro pins s σ H v u Q I r h
 rw [ha]
 refine wpAny_bind (wpAny_holding (thn (ho pins s σ H _ I h) λov s1 ⟨x,H1,I1,r1,q1⟩=>?_))
 refine wpAny_bind (wpAny_holding (thn (hi pins s1 σ H1 _ I1 q1) λiv s2 ⟨y,H2,I2,r2,q2⟩=>?_))
 refine wpAny_bind (wpAny_standAt (wpAny_bind (wpAny_holding (thn (hs pins s2 σ H2 x y v ov iv u _ I2 r1 r2 r q2) λ_ s3 ⟨H3,I3,q3⟩=>?_))))
 exact wpAny_release ⟨σ,H3,I3,q3⟩
def za4 (te:TE) (g:TG):TS:=λD σ H=>te σ H λx H1=>g x σ H1 D.nx
theorem QQ {tg e:Expr} {te:TE} {g:TG} (he:PE X e te) (hg:PG X tg g) (hs:swapsWithSole [tg] e pos.line X.env=pure false:=by rfl) (hw:swappedStores [tg] e X.env=pure none:=by rfl)
  (h1:(assignEach [tg] X.env).map (·.2)=[assign tg X.env]:=by rfl):PS X (.Assign [tg] e pos) (za4 te g):=by
 intro pins s σ H D I h
 refine wpAny_Assign_stores (thn (he pins s σ H _ I h) λv s1 ⟨x,H1,I1,r1,q1⟩=>?_) hs hw
 rw [h1]
 exact thn (hg pins s1 σ H1 x v _ I1 r1 q1) λ_ s2 q=>q
theorem zH {i:Nat} {x:Str} {e:Expr} {te:TE} {pos':Pos} (hN:X.N.Nodup) (hi:X.N[i]?=some x) (hx:Loc X.env.scope x) (he:PE X e te) (hs:swapsWith e (some (.Name x pos')) pos.line X.env=pure false:=by rfl) (hf:X.fn x=true\/X.env.scope.names.lookup x=some .local:=by first | exact .inl rfl | exact .inr rfl | assumption) :
  PS X (.Assign [.Name x pos'] e pos) (za4 te (XX i)):=by
 intro pins s σ H D I h
 refine wpAny_Assign_Name (thn (he pins s σ H _ I h) λv s1 ⟨y,H1,I1,r1,q1⟩=>?_) hs
 exact WF I1 hN hi hx r1 (λs2 I2=>⟨_,H1,I2,q1⟩) hf
def zhk (i:Nat) (te:TE) (ti:TIp):TS:=λD σ H=>∃ x,σ[i]?=some (some x)/\te σ H λy H1=>ti x y H1 λz H2=>D.nx (σ.set i (some z)) H2
theorem zb7 {i:Nat} {x:Str} {e:Expr} {te:TE} {op:Operator} {ti:TIp} {pos':Pos} (hN:X.N.Nodup) (hi:X.N[i]?=some x) (hx:Loc X.env.scope x) (he:PE X e te) (ho:PIp X op ti) (hf:X.fn x=true\/X.env.scope.names.lookup x=some .local:=by first | exact .inl rfl | exact .inr rfl | assumption) :
  PS X (.AugAssign (.Name x pos') op e pos) (zhk i te ti):=by
 intro pins s σ H D I h
 obtain⟨v,e1,h⟩:=h
 obtain⟨m,hn,hl⟩:=I.loc
 have vis:Vis X.env.scope x:=by rcases hx with k | k;exact .inl k;exact .inr (.inl k)
 obtain⟨u,r,l⟩:=hl i x v hi e1 vis
 refine wpAny_AugAssign_Name ?_
 have go:wpAny (model X.prog X.w) X.A (eval e X.env) (λw s₂=>wpAny (model X.prog X.w) X.A (inplaceOp op u w) (λr s₃=>wpAny (model X.prog X.w) X.A (storeName X.env x r) (λ_=>SP X pins D .next) X.xe s₃) X.xe s₂) X.xe s:=by
  refine thn (he pins s σ H _ I h) λw s1 ⟨y,H1,I1,r1,q1⟩=>?_
  refine thn (ho pins s1 σ H1 v y u w _ I1 r r1 q1) λz s2 ⟨zv,H2,I2,r2,q2⟩=>?_
  exact WF I2 hN hi hx r2 (λs3 I3=>⟨_,H2,I3,q2⟩) hf
 rcases l with ⟨hk,hm⟩ | ⟨hk,c,hc,hcell⟩
 ·exact wpAny_loadName_local I.ok.kind hk hn hm go
 ·rcases hk with hk | hk
  ·exact wpAny_loadName_cell I.ok.kind hk hc hcell go
  ·rcases hx with k | k
   ·have:X.env.scope.names.lookup x=some .free:=hk
    rw [k] at this;cases this
   ·have:X.env.scope.names.lookup x=some .free:=hk
    rw [k] at this;cases this
def ipI (f:Int->Int->Int):TIp:=λx y H Q=>∃ i j,x=.int i/\y=.int j/\Q (.int (f i j)) H
theorem zeD:PIp X .Add (ipI λi j=>i+j):=by
 intro pins s σ H x y v u Q I r1 r2 h
 obtain⟨i,j,e1,e2,q⟩:=h
 subst e1;subst e2
 obtain⟨t,rfl⟩:=r1
 obtain⟨t',rfl⟩:=r2
 exact iadd_int ⟨.int _,H,I.tok _,⟨_,rfl⟩,q⟩
theorem zfN:PIp X .Sub (ipI λi j=>i-j):=by
 intro pins s σ H x y v u Q I r1 r2 h
 obtain⟨i,j,e1,e2,q⟩:=h
 subst e1;subst e2
 obtain⟨t,rfl⟩:=r1
 obtain⟨t',rfl⟩:=r2
 exact isub_int ⟨.int _,H,I.tok _,⟨_,rfl⟩,q⟩
def zdL (c:TT) (tb:TS):TS:=λD σ H=>∃ W:Nat->St->Hp->Prop,(∃ m,W m σ H)/\∀ m σ H,W m σ H ->
 c σ H λb H1=>if b=true then ∃ N:St->Hp->Prop,(∀ σ' H',N σ' H'->∃ m',m'<m/\W m' σ' H')/\tb { D with nx:=N,ct:=N,bk:=D.nx } σ H1 else D.nx σ H1
theorem Qo {c:Expr} {body:List Stmt} {tc:TT} {tb:TS} (hp:PassesOwn (model X.prog X.w) X.A X.env X.xe) (hc:PT X c tc) (hb:PSs X body tb):PS X (.While c body [] pos) (zdL tc tb):=by
 intro pins s σ H D I h
 obtain⟨W,⟨m0,w0⟩,turn⟩:=h
 refine wpAny_While (codeAny_whileLoop (λn s'=>∃ σ' H',Inv X pins σ' H' s'/\W n σ' H') ?_ m0 ⟨σ,H,I,w0⟩)
 rintro n s1 ⟨σ1,H1,I1,w1⟩
 refine wpAny_passesOwn hp (thn (hc pins s1 σ1 H1 _ I1 (turn n σ1 H1 w1)) λb s2 ⟨H2,I2,q2⟩=>?_)
 cases b with
 | true =>
  obtain⟨N,hN,q2⟩:=q2
  rw [if_pos rfl]
  refine wpAny_passesOwn hp (thn (hb pins s2 σ1 H2 _ I2 q2) λf s3 q3=>?_)
  cases f with
  | next =>
   obtain⟨σ3,H3,I3,n3⟩:=q3
   obtain⟨m',hm,w3⟩:=hN σ3 H3 n3
   exact⟨m',hm,σ3,H3,I3,w3⟩
  | cont =>
   obtain⟨σ3,H3,I3,n3⟩:=q3
   obtain⟨m',hm,w3⟩:=hN σ3 H3 n3
   exact⟨m',hm,σ3,H3,I3,w3⟩
  | brk=>exact q3
  | ret v=>exact q3
 | false =>
  rw [if_neg Bool.false_ne_true]
  exact wpAny_execs_nil ⟨σ1,H2,I2,q2⟩
end
structure It where
 go:Nat->Hp->Prop
 yld:Nat->Hp->V->Hp->Prop
 stop:Nat->Hp->Prop
def W8 (X:Cx) (pins:List (Addr×Obj)) (H:Hp) (b:Addr):Prop :=
 H b=none/\b≠X.env.locals/\b∉X.fs/\(b∈X.ex\/X.s₀.heap.objs.size<=b)/\(∀ x c,X.env.cells.lookup x=some c->c≠b)/\∀ p∈X.pn++pins,p.1≠b
theorem Inv.fpOk {X:Cx} {pins:List (Addr×Obj)} {σ:St} {H H':Hp} {s:Shared} {b:Addr} (I:Inv X pins σ H s) (hb:s.heap.objs.size<=b) (hn:H' b=none):W8 X pins H' b:=by
 refine⟨hn,Nat.ne_of_gt (Nat.lt_of_lt_of_le I.lt hb),I.nofs hb,.inr (Nat.le_trans I.sz hb),λx c e z=>?_,λp hp z=>?_⟩
 ·obtain⟨v,q⟩:=I.cell x c e
  exact absurd (Nat.lt_of_lt_of_le q.lt (by rw [z];exact hb)) (Nat.lt_irrefl _)
 ·exact absurd (Nat.lt_of_lt_of_le (Heap.lt_size (I.pin p hp).1) (by rw [z];exact hb)) (Nat.lt_irrefl _)
structure Turn (P:Program) (w:World) (K:W.Frag) (tg:Expr) (J:It) (fp:List Addr) (it:Addr) (tn:Nat->Heap->Prop):Prop where
 mem:it∈fp
 obj:∀ i h,tn i h->∀ b∈fp,∃ o,h.get? b=some o/\∀ v,o.data≠.cell v
 keep:∀ i h h',tn i h->(∀ b∈fp,∀ o,h.get? b=some o->h'.get? b=some o)->tn i h'
 item:∀ (X:Cx),X.prog=P->X.w=w->X.K=K->X.calm=true->∀ (i:Nat) (pins:List (Addr×Obj)) (s:Shared) (σ:St) (H:Hp) (E:Value->Shared->Prop),Inv X pins σ H s->(∀ b∈fp,W8 X pins H b)->tn i s.heap->J.go i H ->
  wpAny (model P w) X.A (pyNext (.ref it)) (λr s1=>∃ u,r=some u /\
   wpAny (model P w) X.A (letOwnedTupleGo tg (.ref it) u) (λ_ s2=>∃ x H',Inv X pins σ H' s2/\RelV x u/\J.yld i H x H'/\tn (i+1) s2.heap/\∀ b∈fp,H' b=none) E s1) E s
 done:∀ (X:Cx),X.prog=P->X.w=w->X.K=K->X.calm=true->∀ (i:Nat) (pins:List (Addr×Obj)) (s:Shared) (σ:St) (H:Hp) (E:Value->Shared->Prop),Inv X pins σ H s->(∀ b∈fp,W8 X pins H b)->tn i s.heap->J.stop i H ->
  wpAny (model P w) X.A (pyNext (.ref it)) (λr s1=>r=none/\Inv X pins σ H s1) E s
 self:∀ (A:Around) (i:Nat) (s:Shared) (Q:Value->Shared->Prop) (E:Value->Shared->Prop),tn i s.heap->Q (.ref it) s->wpAny (model P w) A (pyIter (.ref it)) Q E s
abbrev TI:=St->Hp->(It->Hp->Prop)->Prop
def PIE (X:Cx) (pins:List (Addr×Obj)) (σ:St) (tg:Expr) (R:It->Hp->Prop) (itv:Value) (s2:Shared):Prop :=
 ∃ (it:Addr) (fp:List Addr) (tn:Nat->Heap->Prop) (J:It) (H':Hp),itv=.ref it/\Inv X pins σ H' s2/\Turn X.prog X.w X.K tg J fp it tn/\tn 0 s2.heap/\(∀ b∈fp,W8 X pins H' b)/\R J H'
def PI (X:Cx) (tg iter:Expr) (wi:TI):Prop :=
 ∀ (pins:List (Addr×Obj)) (s:Shared) (σ:St) (H:Hp) (R:It->Hp->Prop),Inv X pins σ H s->wi σ H R ->
  wpAny (model X.prog X.w) X.A (eval iter X.env) (λv s1=>wpAny (model X.prog X.w) X.A (pyIter v) (PIE X pins σ tg R) X.xe s1) X.xe s
theorem zdz {M:Model} {A:Around} {E:Value->Shared->Prop} {s:Shared} {tg:Expr} {it:Addr} {u:Value} {o:Obj} {n:String} {vs:Array Value} {Q:Unit->Shared->Prop} (ho:s.heap.get? it=some o) (hc:o.cls=.type n) (hd:o.data=.fields vs)
    (hn:["enumerate","zip","dict_itemiterator","dict_reverseitemiterator","odict_iterator","itertools.zip_longest","itertools.pairwise"].contains n=false) (hQ:Q () s):wpAny M A (letOwnedTupleGo tg (.ref it) u) Q E s:=by
  unfold letOwnedTupleGo
  cases tg<;>first
    | exact wpAny_pure hQ
    | (cases u<;>first
        | exact wpAny_pure hQ
        | (refine wpAny_bind (wpAny_load ho ?_)
           rw [hc,hd]
           show wpAny M A (if (["enumerate","zip","dict_itemiterator","dict_reverseitemiterator","odict_iterator","itertools.zip_longest","itertools.pairwise"].contains n && vs[0]? == some (rawInt _))=true then _ else _) Q E s
           rw [if_neg (by intro h;rw [hn,Bool.false_and] at h;cases h)]
           exact wpAny_pure hQ))
def Itl (K:W.Frag) (a:Addr):It :=
 ⟨λi H=>∃ xs x,SqL K H a xs/\xs[i]?=some x,λi H x H'=>H'=H/\∀ xs,SqL K H a xs->xs[i]?=some x,λi H=>∃ xs,SqL K H a xs/\xs.length<=i⟩
def Itr (lo:Int) (n:Nat):It:=⟨λi _=>i<n,λi H x H'=>H'=H/\x=.int (lo+i),λi _=>n<=i⟩
theorem zdi {P:Program} {w:World} {K:W.Frag} {tg:Expr} (a it:Addr):Turn P w K tg (Itl K a) [it] it (λi h=>h.IsListIter it a i) where
 mem:=by simp
 obj:=λi h st b hb=>by
  have e:b=it:=by simpa using hb
  subst e
  obtain⟨o,e,c,d⟩:=st
  exact⟨o,e,λv z=>by rw [d] at z;cases z⟩
 keep:=λi h h' st k=>st.at λo e=>k it (by simp) o e
 item:=by
  intro X hP hw hK hc i pins s σ H E I hf st hg
  subst hP hw hK
  obtain⟨xs,x,hq,hx⟩:=hg
  obtain⟨its,rv,p,hz⟩:=I.list hq
  obtain⟨u,hu,ru⟩:=rv.get hx
  obtain⟨f0,f1,f2,f3,f4,f5⟩:=hf it (by simp)
  refine wpAny_pyNext_list_item st p.isList (x:=u) (by simpa using hu) λh' st' sb=>?_
  have I1:Inv X pins σ H { s with heap:=h' }:=I.turned (t':=s.toks) (λb o hb e=>(sb.2 b hb).trans e) f0 f1 f3 f4 f5
  obtain⟨o,e,c,d⟩:=id st'
  exact⟨u,rfl,zdz (s:={ s with heap:=h' }) e c d (by decide) ⟨x,H,I1,ru,⟨rfl,λys hy=>by rw [I.list_inj hy hq];exact hx⟩,st',λb hb=>(hf b hb).1⟩⟩
 done:=by
  intro X hP hw hK hc i pins s σ H E I hf st hg
  subst hP hw hK
  obtain⟨xs,hq,hx⟩:=hg
  obtain⟨its,rv,p,hz⟩:=I.list hq
  obtain⟨f0,f1,f2,f3,f4,f5⟩:=hf it (by simp)
  have hl:=rv.length
  exact wpAny_pyNext_list_end (I.ok.hd hc) st p.isList (by simp;omega) λh' eb=>⟨rfl,I.turned (t':=s.toks) (λb o hb e=>eb b o hb e) f0 f1 f3 f4 f5⟩
 self:=λ_ _ _ _ _ st h=>wpAny_pyIter_listiter st h
theorem zbU {P:Program} {w:World} {K:W.Frag} {tg:Expr} (it:Addr) (lo:Int) (n:Nat):Turn P w K tg (Itr lo n) [it] it (λi h=>IsRangeIter h it (lo+(i:Nat)*1) ((n:Int)-(i:Nat)) 1) where
 mem:=by simp
 obj:=λi h st b hb=>by
  have e:b=it:=by simpa using hb
  subst e
  exact⟨_,st,λv z=>by
   have z':Data.fields _=Data.cell v:=z
   cases z'⟩
 keep:=λi h h' st k=>k it (by simp) _ st
 item:=by
  intro X hP hw hK hc i pins s σ H E I hf st hg
  subst hP hw hK
  obtain⟨f0,f1,f2,f3,f4,f5⟩:=hf it (by simp)
  have W:=Walks.range (prog:=X.prog) (w:=X.w) (I.ok.hd hc) it lo 1 n
  refine W.item i s _ _ hg st λv h' tk hv st' kk=>?_
  obtain⟨t,rfl⟩:=hv
  have I1:Inv X pins σ H { s with heap:=h',toks:=tk }:=I.turned (λb o hb e=>kk b o (by simpa using hb) e) f0 f1 f3 f4 f5
  refine⟨_,rfl,zdz (s:={ s with heap:=h',toks:=tk }) (n:="range_iterator") st' rfl rfl (by decide) ⟨.int (lo+i),H,I1,⟨t,?_⟩,⟨rfl,rfl⟩,st',λb hb=>(hf b hb).1⟩⟩
  rw [Int.mul_one]
 done:=by
  intro X hP hw hK hc i pins s σ H E I hf st hg
  subst hP hw hK
  obtain⟨f0,f1,f2,f3,f4,f5⟩:=hf it (by simp)
  exact wpAny_pyNext_range_end (I.ok.hd hc) st (by have:n<=i:=hg;omega) λh' eb=>⟨rfl,I.turned (t':=s.toks) (λb o hb e=>eb b o hb e) f0 f1 f3 f4 f5⟩
 self:=λ_ _ _ _ _ st h=>wpAny_pyIter_rangeiter st h
section
variable {X:Cx} {tg:Expr}
def zfF (K:W.Frag) (tl:TE):TI:=fun σ H R=>tl σ H λx H1=>∃ a,x=.ref a/\(∃ xs,SqL K H1 a xs)/\R (Itl K a) H1
theorem zeU {l:Expr} {tl:TE} (hl:PE X l tl):PI X tg l (zfF X.K tl):=by
 intro pins s σ H R I h
 refine thn (hl pins s σ H _ I h) λv s1 ⟨x,H1,I1,r1,q1⟩=>?_
 obtain⟨a,e,⟨xs,hq⟩,q⟩:=q1
 subst e
 cases r1
 obtain⟨its,rv,p,hz⟩:=I1.list hq
 refine wpAny_pyIter_list p.isList ?_
 refine⟨s1.heap.objs.size,[s1.heap.objs.size],_,_,H1,rfl,I1.kept (t':=s1.toks) λb o e=>Heap.get?_push_of_some _ e,zdi a _,⟨_,Heap.get?_push_size _ rfl,rfl,rfl⟩,λb hb=>?_,q⟩
 have e:b=s1.heap.objs.size:=by simpa using hb
 subst e
 exact I1.fpOk (Nat.le_refl _) (I1.hok.fresh (Nat.le_refl _))
theorem zbl {pins:List (Addr×Obj)} {σ:St} {H:Hp} {s:Shared} {R:It->Hp->Prop} {E:Value->Shared->Prop} {lo hi:Int} {t u v:Tok} {tk:Nat} (I:Inv X pins σ H s) (h1:-(2^62)<=lo) (h2:lo<2^62) (h3:-(2^62)<=hi) (h4:hi<2^62)
  (q:R (Itr lo (hi-lo).toNat) H):wpAny (model X.prog X.w) X.A (pyIter (.ref s.heap.objs.size)) (PIE X pins σ tg R) E { s with heap:=s.heap.push { cls:=.type "range",data:=.fields #[.int lo t,.int hi u,.int 1 v] },toks:=tk }:=by
 refine wpAny_pyIter_range (IsRange.new ..) (small_one h1 h2 h3 h4) ?_
 have I1:Inv X pins σ H { s with heap:=s.heap.push { cls:=.type "range",data:=.fields #[.int lo t,.int hi u,.int 1 v] },toks:=tk }:=I.kept λb o e=>Heap.get?_push_of_some _ e
 refine⟨(s.heap.push { cls:=.type "range",data:=.fields #[.int lo t,.int hi u,.int 1 v] }).objs.size,[(s.heap.push { cls:=.type "range",data:=.fields #[.int lo t,.int hi u,.int 1 v] }).objs.size],_,_,H,rfl,
  I1.kept (t':=tk) λb o e=>Heap.get?_push_of_some _ e,zbU _ lo (hi-lo).toNat,?_,λb hb=>?_,q⟩
 ·have e1:lo+((0:Nat):Int)*1=lo:=by simp
  have e2:(((hi-lo).toNat:Nat):Int)-((0:Nat):Int)=Builtin.Range.rangeSize lo hi 1:=by rw [rangeSize_one];split<;>omega
  show IsRangeIter _ _ (lo+((0:Nat):Int)*1) ((((hi-lo).toNat:Nat):Int)-((0:Nat):Int)) 1
  rw [e1,e2]
  exact Heap.get?_push_size _ rfl
 ·have e:b=(s.heap.push { cls:=.type "range",data:=.fields #[.int lo t,.int hi u,.int 1 v] }).objs.size:=by simpa using hb
  subst e
  exact I1.fpOk (Nat.le_refl _) (I1.hok.fresh (Nat.le_refl _))
def zgM (ta:TA):TI:=fun σ H R=>ta σ H λvs H1=>∃ j:Int,vs=[.int j]/\-(2^62)<=j/\j<2^62/\R (Itr 0 j.toNat) H1
def zgC (ta:TA):TI:=fun σ H R=>ta σ H λvs H1=>∃ i j:Int,vs=[.int i,.int j]/\(-(2^62)<=i/\i<2^62/\-(2^62)<=j/\j<2^62)/\R (Itr i (j-i).toNat) H1
theorem xg {a:Expr} {ta:TA} {p pos:Pos} (hg:Gl X "range") (hm:X.mg "range" = none) (ha:PA X [a] ta) (hs:starEach [a] X.env=[(false,eval a X.env)]:=by rfl):PI X tg (.Call (.Name "range" p) [a] [] pos) (zgM ta):=by
 intro pins s σ H R I h
 refine Call_ (Zk I hg hm boot_range (PyProof.Rows.callWith_type1 (thn (ha pos pins s σ H _ I h) λus s1 ⟨vs,H1,I1,r1,q1⟩=>?_) hs rfl))
 obtain⟨j,e,q1,q2,q⟩:=q1
 subst e
 cases r1 with
 | cons r rr =>
  cases rr
  obtain⟨t,rfl⟩:=r
  exact call_range_1 (zbl I1 (by omega) (by omega) q1 q2 (by simpa using q))
theorem zdj {a b:Expr} {ta:TA} {p pos:Pos} (hg:Gl X "range") (hm:X.mg "range" = none) (ha:PA X [a,b] ta) (hs:starEach [a,b] X.env=[(false,eval a X.env),(false,eval b X.env)]:=by rfl) (hs2:starEach [b] X.env=[(false,eval b X.env)]:=by rfl) :
  PI X tg (.Call (.Name "range" p) [a,b] [] pos) (zgC ta):=by
 intro pins s σ H R I h
 refine Call_ (Zk I hg hm boot_range (PyProof.Rows.callWith_type1 (thn (ha pos pins s σ H _ I h) λus s1 ⟨vs,H1,I1,r1,q1⟩=>?_) (by rw [hs,hs2]) (by rw [hs2];rfl)))
 obtain⟨i,j,e,⟨q1,q2,q3,q4⟩,q⟩:=q1
 subst e
 cases r1 with
 | cons r rr =>
  cases rr with
  | cons r' rr =>
   cases rr
   obtain⟨t,rfl⟩:=r
   obtain⟨t',rfl⟩:=r'
   exact call_range_2 (zbl I1 q1 q2 q3 q4 q)
def zhm (wi:TI) (g:TG) (tb:TS):TS:=λD σ H=>wi σ H λJ H1=>∃ W:Nat->Nat->St->Hp->Prop,(∃ m,W 0 m σ H1)/\∀ i m σ H,W i m σ H ->
 (J.stop i H/\D.nx σ H)\/(J.go i H/\∃ N:St->Hp->Prop,(∀ σ' H',N σ' H'->∃ m',m'<m/\W (i+1) m' σ' H')/\∀ x H',J.yld i H x H'->g x σ H' fun σ2 H2=>tb { D with nx:=N,ct:=N,bk:=D.nx } σ2 H2)
def YW (fp:List Addr) (h:Heap):List (Addr×Obj):=fp.filterMap λb=>(h.get? b).map λo=>(b,o)
theorem Z3 {fp:List Addr} {h:Heap} {b:Addr} {o:Obj} (hb:b∈fp) (e:h.get? b=some o):(b,o)∈YW fp h:=List.mem_filterMap.mpr ⟨b,hb,by rw [e];rfl⟩
theorem zdc {fp:List Addr} {h:Heap} {p:Addr×Obj} (hp:p∈YW fp h):p.1∈fp/\h.get? p.1=some p.2:=by
 obtain⟨b,hb,e⟩:=List.mem_filterMap.mp hp
 cases q:h.get? b with
 | none=>rw [q] at e;cases e
 | some o =>
  rw [q] at e
  have e':(b,o)=p:=Option.some.inj e
  subst e'
  exact⟨hb,q⟩
theorem Inv.pinned {pins:List (Addr×Obj)} {σ:St} {H:Hp} {s:Shared} {fp:List Addr} (I:Inv X pins σ H s) (hf:∀ b∈fp,W8 X pins H b) (ho:∀ b∈fp,∃ o,s.heap.get? b=some o/\∀ v,o.data≠.cell v):Inv X (pins++YW fp s.heap) σ H s :=
 I.pins_of λp hp=>(List.mem_append.mp hp).elim (λz=>I.pin p (List.mem_append_right _ z)) λz=>by
  obtain⟨hb,e⟩:=zdc z
  obtain⟨f0,f1,f2,_⟩:=hf p.1 hb
  obtain⟨o,e',d⟩:=ho p.1 hb
  rw [e] at e';cases e'
  exact⟨e,f0,f1,f2,d⟩
theorem Inv.unpinned {pins pl:List (Addr×Obj)} {σ:St} {H:Hp} {s:Shared} (I:Inv X (pins++pl) σ H s):Inv X pins σ H s:=I.pins_of λp hp=>I.pin p (List.mem_append_right _ (List.mem_append_left _ hp))
theorem Zi {iter:Expr} {body:List Stmt} {wi:TI} {g:TG} {tb:TS} {pos:Pos} (hp:PassesOwn (model X.prog X.w) X.A X.env X.xe) (hc:X.calm=true) (hi:PI X tg iter wi) (hg:PG X tg g) (hb:PSs X body tb)
  (hs:∀ x,foldedSetIterable iter X.env x=pure x:=by intro _;rfl):PS X (.For tg iter body [] pos) (zhm wi g tb):=by
 intro pins s σ H D I h
 refine wpAny_For (thn (hi pins s σ H _ I h) λv s1 h1=>thn h1 λitv s2 h2=>?_) hs
 obtain⟨it,fp,tn,J,H2,e,I2,T,st2,f2,W,⟨m0,w0⟩,turn⟩:=h2
 subst e
 have stat:∀ {H':Hp},(∀ b∈fp,H' b=none)->∀ b∈fp,W8 X pins H' b:=λhn b hb=>⟨hn b hb,(f2 b hb).2⟩
 refine codeAny_forLoop_any (λn s'=>∃ i σ' H',Inv X pins σ' H' s'/\tn i s'.heap/\(∀ b∈fp,H' b=none)/\W i n σ' H') ?_ m0 ⟨0,σ,H2,I2,st2,λb hb=>(f2 b hb).1,w0⟩
 rintro n s3 ⟨i,σ3,H3,I3,st3,fr3,w3⟩
 rcases turn i n σ3 H3 w3 with ⟨stop,qn⟩ | ⟨go,N,hN,step⟩
 ·refine wpAny_passesOwn hp (thn (T.done X rfl rfl rfl hc i pins s3 σ3 H3 X.xe I3 (stat fr3) st3 stop) λr s4 ⟨hr,I4⟩=>?_)
  subst hr
  exact wpAny_execs_nil ⟨σ3,H3,I4,qn⟩
 ·refine wpAny_passesOwn hp (thn (T.item X rfl rfl rfl hc i pins s3 σ3 H3 X.xe I3 (stat fr3) st3 go) λr s4 ⟨u,hr,h4⟩=>?_)
  subst hr
  refine wpAny_passesOwn hp (thn h4 λ_ s5 ⟨x,H5,I5,r5,y5,st5,fr5⟩=>?_)
  have I5':=I5.pinned (stat fr5) (T.obj _ _ st5)
  refine wpAny_passesOwn hp (thn (hg _ s5 σ3 H5 x u _ I5' r5 (step x H5 y5)) λ_ s6 ⟨σ6,H6,I6,q6⟩=>?_)
  refine wpAny_passesOwn hp (thn (hb _ s6 σ6 H6 _ I6 q6) λf s7 q7=>?_)
  have again:∀ {σ7:St} {H7:Hp},Inv X (pins++YW fp s5.heap) σ7 H7 s7->N σ7 H7->∃ m,m<n/\∃ i σ' H',Inv X pins σ' H' s7/\tn i s7.heap/\(∀ b∈fp,H' b=none)/\W i m σ' H':=λ{σ7 H7} I7 n7=>by
   obtain⟨m',hm,w7⟩:=hN σ7 H7 n7
   refine⟨m',hm,i+1,σ7,H7,I7.unpinned,T.keep _ _ _ st5 λb hb o e=>(I7.pin (b,o) (List.mem_append_right _ (List.mem_append_right _ (Z3 hb e)))).1,λb hb=>?_,w7⟩
   obtain⟨o,e,d⟩:=T.obj _ _ st5 b hb
   exact (I7.pin (b,o) (List.mem_append_right _ (List.mem_append_right _ (Z3 hb e)))).2.1
  cases f with
  | next=>obtain⟨σ7,H7,I7,n7⟩:=q7;exact again I7 n7
  | cont=>obtain⟨σ7,H7,I7,n7⟩:=q7;exact again I7 n7
  | brk=>obtain⟨σ7,H7,I7,q7⟩:=q7;exact⟨σ7,H7,I7.unpinned,q7⟩
  | ret v=>obtain⟨x7,σ7,H7,I7,r7,q7⟩:=q7;exact⟨x7,σ7,H7,I7.unpinned,r7,q7⟩
end
theorem zdA {K:W.Frag} {a:Addr} {xs:List V} {g:TG} {tb:TS} {D:Ends} {σ:St} {H:Hp} (Pv:Nat->St->Hp->Prop) (h0:Pv 0 σ H) (hl:∀ i σ H,i<=xs.length->Pv i σ H->SqL K H a xs)
  (hs:∀ i x σ H,xs[i]?=some x->Pv i σ H->g x σ H fun σ2 H2=>tb { D with nx:=Pv (i+1),ct:=Pv (i+1),bk:=D.nx } σ2 H2) (hd:∀ σ H,Pv xs.length σ H->D.nx σ H) :
  ∃ W:Nat->Nat->St->Hp->Prop,(∃ m,W 0 m σ H)/\∀ i m σ H,W i m σ H ->
   ((Itl K a).stop i H/\D.nx σ H)\/((Itl K a).go i H/\∃ N:St->Hp->Prop,(∀ σ' H',N σ' H'->∃ m',m'<m/\W (i+1) m' σ' H')/\∀ x H',(Itl K a).yld i H x H'->g x σ H' fun σ2 H2=>tb { D with nx:=N,ct:=N,bk:=D.nx } σ2 H2):=by
 refine⟨λi m σ H=>m=xs.length-i/\i<=xs.length/\Pv i σ H,⟨xs.length,by simp,Nat.zero_le _,h0⟩,?_⟩
 rintro i m σ H ⟨rfl,hi,p⟩
 have q:=hl i σ H hi p
 by_cases hlt:i<xs.length
 ·refine .inr ⟨⟨xs,xs[i],q,by simp [hlt]⟩,Pv (i+1),fun σ' H' p'=>⟨xs.length-(i+1),by omega,rfl,hlt,p'⟩,λx H' y=>?_⟩
  obtain⟨e,y⟩:=y
  subst e
  exact hs i x σ _ (y xs q) p
 ·have e:i=xs.length:=by omega
  subst e
  exact .inl ⟨⟨xs,q,Nat.le_refl _⟩,hd σ H p⟩
theorem uh {lo:Int} {n:Nat} {g:TG} {tb:TS} {D:Ends} {σ:St} {H:Hp} (Pv:Nat->St->Hp->Prop) (h0:Pv 0 σ H)
  (hs:∀ i σ H,i<n->Pv i σ H->g (.int (lo+i)) σ H fun σ2 H2=>tb { D with nx:=Pv (i+1),ct:=Pv (i+1),bk:=D.nx } σ2 H2) (hd:∀ σ H,Pv n σ H->D.nx σ H) :
  ∃ W:Nat->Nat->St->Hp->Prop,(∃ m,W 0 m σ H)/\∀ i m σ H,W i m σ H ->
   ((Itr lo n).stop i H/\D.nx σ H)\/((Itr lo n).go i H/\∃ N:St->Hp->Prop,(∀ σ' H',N σ' H'->∃ m',m'<m/\W (i+1) m' σ' H')/\∀ x H',(Itr lo n).yld i H x H'->g x σ H' fun σ2 H2=>tb { D with nx:=N,ct:=N,bk:=D.nx } σ2 H2):=by
 refine⟨λi m σ H=>m=n-i/\i<=n/\Pv i σ H,⟨n,by simp,Nat.zero_le _,h0⟩,?_⟩
 rintro i m σ H ⟨rfl,hi,p⟩
 by_cases hlt:i<n
 ·refine .inr ⟨hlt,Pv (i+1),fun σ' H' p'=>⟨n-(i+1),by omega,rfl,hlt,p'⟩,λx H' y=>?_⟩
  obtain⟨e,y⟩:=y
  subst e y
  exact hs i σ _ hlt p
 ·have e:i=n:=by omega
  subst e
  exact .inl ⟨Nat.le_refl _,hd σ H p⟩
theorem QF {c:TT} {tb:TS} {D:Ends} {σ:St} {H:Hp} (Pv:St->Hp->Prop) (μ:St->Hp->Nat) (h0:Pv σ H)
  (hs:∀ σ H,Pv σ H->c σ H λb H1=>if b=true then tb { D with nx:=fun σ' H'=>Pv σ' H'/\μ σ' H'<μ σ H,ct:=fun σ' H'=>Pv σ' H'/\μ σ' H'<μ σ H,bk:=D.nx } σ H1 else D.nx σ H1)
  (mono:∀ σ H Q Q',(∀ b H1,Q b H1->Q' b H1)->c σ H Q->c σ H Q'):zdL c tb D σ H:=by
 refine⟨λm σ H=>m=μ σ H/\Pv σ H,⟨_,rfl,h0⟩,?_⟩
 rintro m σ H ⟨rfl,p⟩
 refine mono σ H _ _ (λb H1 q=>?_) (hs σ H p)
 cases b with
 | true=>exact⟨_,fun σ' H' ⟨p',l⟩=>⟨_,l,rfl,p'⟩,q⟩
 | false=>exact q
abbrev R2:=V->V->Hp->VK->Prop
def OpR (X:Cx) (f:Value->Value->Sem Value) (r:R2):Prop :=
 ∀ (pins:List (Addr×Obj)) (s:Shared) (σ:St) (H:Hp) (x y:V) (v u:Value) (Q:VK),Inv X pins σ H s->RelV x v->RelV y u->r x y H Q ->
  wpAny (model X.prog X.w) X.A (f v u) (EP X pins σ Q) X.xe s
def UnR (X:Cx) (f:Value->Sem Value) (r:V->Hp->VK->Prop):Prop :=
 ∀ (pins:List (Addr×Obj)) (s:Shared) (σ:St) (H:Hp) (x:V) (v:Value) (Q:VK),Inv X pins σ H s->RelV x v->r x H Q ->
  wpAny (model X.prog X.w) X.A (f v) (EP X pins σ Q) X.xe s
def vB (X:Cx) (f:Value) (r:List V->Hp->VK->Prop):Prop :=
 ∀ (pins:List (Addr×Obj)) (s:Shared) (σ:St) (H:Hp) (xs:List V) (us:List Value) (Q:VK),Inv X pins σ H s->Vals xs us->r xs H Q ->
  wpAny (model X.prog X.w) X.A (call f us) (EP X pins σ Q) X.xe s
def tOp (r:R2) (ta tb:TE):TE:=fun σ H Q=>ta σ H λx H1=>tb σ H1 λy H2=>r x y H2 Q
def tUn (r:V->Hp->VK->Prop) (ta:TE):TE:=fun σ H Q=>ta σ H λx H1=>r x H1 Q
def rI (C:Int->Int->Prop) (g:Int->Int->V):R2:=λx y H Q=>∃ i j,x=.int i/\y=.int j/\C i j/\Q (g i j) H
def rI0 (g:Int->Int->V):R2:=λx y H Q=>∃ i j,x=.int i/\y=.int j/\Q (g i j) H
def rU (g:Int->V):V->Hp->VK->Prop:=λx H Q=>∃ i,x=.int i/\Q (g i) H
section
variable {X:Cx} {a b c:Expr} {ta tb tc:TE} {pos:Pos}
theorem zfO (ha:PE X a ta) (hb:PE X b tb) {pins:List (Addr×Obj)} {s:Shared} {σ:St} {H:Hp} {R:V->V->Hp->Prop} (I:Inv X pins σ H s)
  (h:ta σ H λx H1=>tb σ H1 λy H2=>R x y H2) {Q:Value->Shared->Prop} {f:Value->Value->Sem Value}
  (hf:∀ v u s2 x y H2,Inv X pins σ H2 s2->RelV x v->RelV y u->R x y H2->wpAny (model X.prog X.w) X.A (f v u) Q X.xe s2) :
  wpAny (model X.prog X.w) X.A (eval a X.env) (λv s₁=>wpAny (model X.prog X.w) X.A (eval b X.env) (λu s₂=>wpAny (model X.prog X.w) X.A (f v u) Q X.xe s₂) X.xe s₁) X.xe s:=by
 refine thn (ha pins s σ H _ I h) λv s1 ⟨x,H1,I1,r1,q1⟩=>?_
 refine thn (hb pins s1 σ H1 _ I1 q1) λu s2 ⟨y,H2,I2,r2,q2⟩=>?_
 exact hf v u s2 x y H2 I2 r1 r2 q2
theorem zN {op:Operator} {r:R2} (ho:OpR X (binaryOp op) r) (ha:PE X a ta) (hb:PE X b tb):PE X (.BinOp a op b pos) (tOp r ta tb):=by
 intro pins s σ H Q I h
 exact wpAny_BinOp (zfO ha hb I h λv u s2 x y H2 I2 rx ry q=>ho pins s2 σ H2 x y v u Q I2 rx ry q)
theorem J3 {op:UnaryOp} {r:V->Hp->VK->Prop} (ho:UnR X (unaryOp op) r) (ha:PE X a ta):PE X (.UnaryOp op a pos) (tUn r ta):=by
 intro pins s σ H Q I h
 exact UnaryOp_ (thn (ha pins s σ H _ I h) λv s1 ⟨x,H1,I1,r1,q1⟩=>ho pins s1 σ H1 x v Q I1 r1 q1)
theorem opI {f:Value->Value->Sem Value} {C:Int->Int->Prop} {g:Int->Int->Int}
  (rule:∀ (i j:Int) (t u:Tok) (s:Shared) (Q:Value->Shared->Prop) (E:Value->Shared->Prop),C i j->Q (.int (g i j) s.toks) { s with toks:=s.toks+1 }->wpAny (model X.prog X.w) X.A (f (.int i t) (.int j u)) Q E s) :
  OpR X f (rI C λi j=>.int (g i j)):=by
 intro pins s σ H x y v u Q I rx ry h
 obtain⟨i,j,rfl,rfl,hc,q⟩:=h
 obtain⟨t,rfl⟩:=rx
 obtain⟨t',rfl⟩:=ry
 exact rule i j t t' s _ _ hc ⟨.int (g i j),H,I.tok _,⟨_,rfl⟩,q⟩
theorem zg4 {f:Value->Value->Sem Value} {g:Int->Int->Int}
  (rule:∀ (i j:Int) (t u:Tok) (s:Shared) (Q:Value->Shared->Prop) (E:Value->Shared->Prop),Q (.int (g i j) s.toks) { s with toks:=s.toks+1 }->wpAny (model X.prog X.w) X.A (f (.int i t) (.int j u)) Q E s) :
  OpR X f (rI0 λi j=>.int (g i j)):=by
 intro pins s σ H x y v u Q I rx ry h
 obtain⟨i,j,rfl,rfl,q⟩:=h
 obtain⟨t,rfl⟩:=rx
 obtain⟨t',rfl⟩:=ry
 exact rule i j t t' s _ _ ⟨.int (g i j),H,I.tok _,⟨_,rfl⟩,q⟩
theorem zfn {f:Value->Value->Sem Value} {g:Int->Int->Bool}
  (rule:∀ (i j:Int) (t u:Tok) (s:Shared) (Q:Value->Shared->Prop) (E:Value->Shared->Prop),Q (.bool (g i j)) s->wpAny (model X.prog X.w) X.A (f (.int i t) (.int j u)) Q E s) :
  OpR X f (rI0 λi j=>.bl (g i j)):=by
 intro pins s σ H x y v u Q I rx ry h
 obtain⟨i,j,rfl,rfl,q⟩:=h
 obtain⟨t,rfl⟩:=rx
 obtain⟨t',rfl⟩:=ry
 exact rule i j t t' s _ _ ⟨.bl (g i j),H,I,rfl,q⟩
def zfZ (i j:Int):Prop:=0<=j/\j<=1000000/\i.natAbs<2^64
def CMul (i j:Int):Prop:=(-(2^64)<i/\i<2^64)\/(-(2^64)<j/\j<2^64)
theorem CMul.ok {i j:Int} (h:CMul i j):IntMulOk i j:=by
 rcases h with ⟨h1,h2⟩ | ⟨h1,h2⟩
 ·exact .of_left (intBits_le_64 h1 h2)
 ·exact .of_right (intBits_le_64 h1 h2)
theorem wJ:OpR X (binaryOp .Add) (rI0 λi j=>.int (i+j)):=zg4 λ_ _ _ _ _ _ _ q=>add_int q
theorem Vg:OpR X (binaryOp .Sub) (rI0 λi j=>.int (i-j)):=zg4 λ_ _ _ _ _ _ _ q=>sub_int q
theorem ji:OpR X (binaryOp .Mult) (rI CMul λi j=>.int (i*j)):=opI λ_ _ _ _ _ _ _ hc q=>mul_int q hc.ok
theorem Y8:OpR X (binaryOp .Mod) (rI (λ_ j=>0<j) λi j=>.int (i % j)):=opI λi j _ _ _ _ _ hc q=>by
 have h1:(0:Int)<j:=hc
 exact mod_int' (by omega) (by rw [Int.fmod_eq_emod_of_nonneg i (by omega)];exact q)
theorem zaz:OpR X (binaryOp .Pow) (rI zfZ λi j=>.int (i^j.toNat)):=opI λ_ _ _ _ _ _ _ hc q=>pow_int_small hc.1 hc.2.1 hc.2.2 q
theorem unI {f:Value->Sem Value} {g:Int->Int}
  (rule:∀ (i:Int) (t:Tok) (s:Shared) (Q:Value->Shared->Prop) (E:Value->Shared->Prop),Q (.int (g i) s.toks) { s with toks:=s.toks+1 }->wpAny (model X.prog X.w) X.A (f (.int i t)) Q E s) :
  UnR X f (rU λi=>.int (g i)):=by
 intro pins s σ H x v Q I rx h
 obtain⟨i,rfl,q⟩:=h
 obtain⟨t,rfl⟩:=rx
 exact rule i t s _ _ ⟨.int (g i),H,I.tok _,⟨_,rfl⟩,q⟩
theorem Vr:UnR X (unaryOp .USub) (rU λi=>.int (-i)):=unI λ_ _ _ _ _ q=>neg_int q
end
def zg2:V->V->Bool
 | .non,.non=>true | .non,.int _=>true | .int _,.non=>true | .non,.bl _=>true | .bl _,.non=>true | .non,.str _=>true | .str _,.non=>true
 | .int _,.int _=>true | .bl _,.bl _=>true | .str _,.str _=>true | .byt _,.byt _=>true
 | .int _,.str _=>true | .str _,.int _=>true | .bl _,.str _=>true | .str _,.bl _=>true
 | _,_=>false
def rEq:R2:=λx y H Q=>zg2 x y=true/\Q (.bl (decide (x=y))) H
def rNe:R2:=λx y H Q=>zg2 x y=true/\Q (.bl (!decide (x=y))) H
theorem zcK {i j:Int}:decide (V.int i=V.int j)=(i == j):=by
 rw [Bool.eq_iff_iff]
 simp
theorem zdE {i j:Bool}:decide (V.bl i=V.bl j)=(i == j):=by
 rw [Bool.eq_iff_iff]
 simp
theorem zcG {i j:Str}:decide (V.str i=V.str j)=(i == j):=by
 rw [Bool.eq_iff_iff]
 simp
theorem zcp {i j:Array UInt8}:decide (V.byt i=V.byt j)=(i.toList == j.toList):=by
 rw [Bool.eq_iff_iff]
 cases i
 cases j
 simp
section
variable {X:Cx} {a b c:Expr} {ta tb tc:TE} {pos:Pos}
theorem yh {pins:List (Addr×Obj)} {σ:St} {H:Hp} {s:Shared} {Q:VK} {k k':Bool} (I:Inv X pins σ H s) (q:Q (.bl k) H) (e:k=k'):EP X pins σ Q (.bool k') s:=by
 subst e
 exact⟨.bl k,H,I,rfl,q⟩
theorem YZ:OpR X (compareOp .Eq) rEq:=by
 intro pins s σ H x y v u Q I rx ry h
 obtain⟨hs,q⟩:=h
 cases x with
 | non =>
  cases rx
  cases y with
  | non=>cases ry;exact PySem.EqNone.eq_none_none (yh I q (by simp))
  | bl j=>cases ry;exact PySem.EqNone.eq_none_bool (yh I q (by simp))
  | int j=>obtain⟨t',rfl⟩:=ry;exact PySem.EqNone.eq_none_int (yh I q (by simp))
  | str j=>obtain⟨t',rfl⟩:=ry;exact PySem.EqNone.eq_none_str (yh I q (by simp))
  | _=>exact absurd (show false=true from hs) Bool.false_ne_true
 | bl i =>
  cases rx
  cases y with
  | non=>cases ry;exact PySem.EqNone.eq_bool_none (yh I q (by simp))
  | bl j=>cases ry;exact eq_bool (yh I q zdE)
  | str j=>obtain⟨t',rfl⟩:=ry;exact PySem.EqMixed.eq_bool_str (yh I q (by simp))
  | _=>exact absurd (show false=true from hs) Bool.false_ne_true
 | int i =>
  obtain⟨t,rfl⟩:=rx
  cases y with
  | non=>cases ry;exact PySem.EqNone.eq_int_none (yh I q (by simp))
  | int j=>obtain⟨t',rfl⟩:=ry;exact eq_int (yh I q zcK)
  | str j=>obtain⟨t',rfl⟩:=ry;exact PySem.EqMixed.eq_int_str (yh I q (by simp))
  | _=>exact absurd (show false=true from hs) Bool.false_ne_true
 | str i =>
  obtain⟨t,rfl⟩:=rx
  cases y with
  | non=>cases ry;exact PySem.EqNone.eq_str_none (yh I q (by simp))
  | bl j=>cases ry;exact PySem.EqMixed.eq_str_bool (yh I q (by simp))
  | int j=>obtain⟨t',rfl⟩:=ry;exact PySem.EqMixed.eq_str_int (yh I q (by simp))
  | str j=>obtain⟨t',rfl⟩:=ry;exact eq_str (yh I q zcG)
  | _=>exact absurd (show false=true from hs) Bool.false_ne_true
 | byt i =>
  obtain⟨t,rfl⟩:=rx
  cases y with
  | byt j=>obtain⟨t',rfl⟩:=ry;exact W.eq_bytes (yh I q zcp)
  | _=>exact absurd (show false=true from hs) Bool.false_ne_true
 | _=>cases y<;>exact absurd (show false=true from hs) Bool.false_ne_true
theorem zcQ:OpR X (compareOp .NotEq) rNe:=by
 intro pins s σ H x y v u Q I rx ry h
 obtain⟨hs,q⟩:=h
 cases x with
 | non =>
  cases rx
  cases y with
  | non=>cases ry;exact PySem.EqNone.ne_none_none (yh I q (by simp))
  | bl j=>cases ry;exact PySem.EqNone.ne_none_bool (yh I q (by simp))
  | int j=>obtain⟨t',rfl⟩:=ry;exact PySem.EqNone.ne_none_int (yh I q (by simp))
  | str j=>obtain⟨t',rfl⟩:=ry;exact PySem.EqNone.ne_none_str (yh I q (by simp))
  | _=>exact absurd (show false=true from hs) Bool.false_ne_true
 | bl i =>
  cases rx
  cases y with
  | non=>cases ry;exact PySem.EqNone.ne_bool_none (yh I q (by simp))
  | bl j=>cases ry;exact ne_bool (yh I q (congrArg not zdE))
  | str j=>obtain⟨t',rfl⟩:=ry;exact PySem.EqMixed.ne_bool_str (yh I q (by simp))
  | _=>exact absurd (show false=true from hs) Bool.false_ne_true
 | int i =>
  obtain⟨t,rfl⟩:=rx
  cases y with
  | non=>cases ry;exact PySem.EqNone.ne_int_none (yh I q (by simp))
  | int j=>obtain⟨t',rfl⟩:=ry;exact ne_int (yh I q (congrArg not zcK))
  | str j=>obtain⟨t',rfl⟩:=ry;exact PySem.EqMixed.ne_int_str (yh I q (by simp))
  | _=>exact absurd (show false=true from hs) Bool.false_ne_true
 | str i =>
  obtain⟨t,rfl⟩:=rx
  cases y with
  | non=>cases ry;exact PySem.EqNone.ne_str_none (yh I q (by simp))
  | bl j=>cases ry;exact PySem.EqMixed.ne_str_bool (yh I q (by simp))
  | int j=>obtain⟨t',rfl⟩:=ry;exact PySem.EqMixed.ne_str_int (yh I q (by simp))
  | str j=>obtain⟨t',rfl⟩:=ry;exact ne_str (yh I q (congrArg not zcG))
  | _=>exact absurd (show false=true from hs) Bool.false_ne_true
 | byt i =>
  obtain⟨t,rfl⟩:=rx
  cases y with
  | byt j=>obtain⟨t',rfl⟩:=ry;exact W.ne_bytes (yh I q (congrArg not zcp))
  | _=>exact absurd (show false=true from hs) Bool.false_ne_true
 | _=>cases y<;>exact absurd (show false=true from hs) Bool.false_ne_true
theorem JW:OpR X (compareOp .Lt) (rI0 λi j=>.bl (decide (i<j))):=zfn λ_ _ _ _ _ _ _ q=>lt_int q
theorem XD:OpR X (compareOp .LtE) (rI0 λi j=>.bl (decide (i<=j))):=zfn λ_ _ _ _ _ _ _ q=>le_int q
theorem zba:OpR X (compareOp .Gt) (rI0 λi j=>.bl (decide (j<i))):=zfn λ_ _ _ _ _ _ _ q=>gt_int q
theorem zfz:OpR X (compareOp .GtE) (rI0 λi j=>.bl (decide (j<=i))):=zfn λ_ _ _ _ _ _ _ q=>ge_int q
theorem zbF:OpR X (compareOp .Is) (λx y H Q=>y=.non/\Q (.bl (decide (x=.non))) H):=by
 intro pins s σ H x y v u Q I rx ry h
 obtain⟨rfl,q⟩:=h
 cases ry
 refine is_none_gen (yh I q ?_)
 cases x<;>first
  | (cases rx;rfl)
  | (obtain⟨t,rfl⟩:=rx;rfl)
theorem zfc:OpR X (compareOp .IsNot) (λx y H Q=>y=.non/\Q (.bl (!decide (x=.non))) H):=by
 intro pins s σ H x y v u Q I rx ry h
 obtain⟨rfl,q⟩:=h
 cases ry
 refine isnot_none_gen (yh I q ?_)
 cases x<;>first
  | (cases rx;rfl)
  | (obtain⟨t,rfl⟩:=rx;rfl)
theorem zV (b:Expr) {op:CmpOp} (h:op≠.In:=by decide) (h2:op≠.NotIn:=by decide):behindInMarks op b=false:=by
 have e1:(op == CmpOp.In)=false:=by cases op<;>first | rfl | exact absurd rfl h
 have e2:(op == CmpOp.NotIn)=false:=by cases op<;>first | rfl | exact absurd rfl h2
 cases b<;>simp [behindInMarks,e1,e2]
theorem tR {op:CmpOp} {r:R2} (ho:OpR X (compareOp op) r) (ha:PE X a ta) (hb:PE X b tb) (hm:behindInMarks op b=false):PE X (.Compare a [op] [b] pos) (tOp r ta tb):=by
 intro pins s σ H Q I h
 exact wpAny_Compare1 (zfO ha hb I h λv u s2 x y H2 I2 rx ry q=>ho pins s2 σ H2 x y v u Q I2 rx ry q) hm
def zfA (t:TE):TT:=fun σ H Q=>t σ H λx H'=>∃ k,x=.bl k/\Q k H'
theorem zP {op:CmpOp} {r:R2} (ho:OpR X (compareOp op) r) (ha:PE X a ta) (hb:PE X b tb) (hm:behindInMarks op b=false):PT X (.Compare a [op] [b] pos) (zfA (tOp r ta tb)):=by
 intro pins s σ H Q I h
 refine wpAny_isTrue_Compare1 (thn (ha pins s σ H _ I h) λv s1 ⟨x,H1,I1,r1,q1⟩=>thn (hb pins s1 σ H1 _ I1 q1) λu s2 ⟨y,H2,I2,r2,q2⟩ =>
  thn (ho pins s2 σ H2 x y v u _ I2 r1 r2 q2) λc s3 ⟨z,H3,I3,r3,k,e,q3⟩=>?_) hm
 subst e
 cases r3
 exact wpAny_truthy_bool ⟨H3,I3,q3⟩
def zex (r r':R2) (ta tb tc:TE):TE:=fun σ H Q=>ta σ H λx H1=>tb σ H1 λy H2=>r x y H2 λz H3=>∃ k,z=.bl k /\
 (if k=true then tc σ H3 λw' H4=>r' y w' H4 Q else Q (.bl false) H3)
theorem QL {op op':CmpOp} {r r':R2} (ho:OpR X (compareOp op) r) (ho':OpR X (compareOp op') r') (ha:PE X a ta) (hb:PE X b tb) (hc:PE X c tc)
  (hm:lastMarks [op,op'] [b,c]=false:=by with_unfolding_all rfl):PE X (.Compare a [op,op'] [b,c] pos) (zex r r' ta tb tc):=by
 intro pins s σ H Q I h
 refine Compare_chain (thn (ha pins s σ H _ I h) λv s1 ⟨x,H1,I1,r1,q1⟩=>chain_link (thn (hb pins s1 σ H1 _ I1 q1) λu s2 ⟨y,H2,I2,r2,q2⟩ =>
  thn (ho pins s2 σ H2 x y v u _ I2 r1 r2 q2) λd s3 ⟨z,H3,I3,r3,k,e,q3⟩=>?_)) hm
 subst e
 cases r3
 refine wpAny_truthy_bool ?_
 cases k with
 | false=>exact ite_ff ⟨.bl false,H3,I3,rfl,q3⟩
 | true=>exact ite_tt (chain_last (thn (hc pins s3 σ H3 _ I3 q3) λw' s4 ⟨z',H4,I4,r4,q4⟩=>ho' pins s4 σ H4 y z' u w' Q I4 r2 r4 q4))
theorem QZ {op op':CmpOp} {r r':R2} (ho:OpR X (compareOp op) r) (ho':OpR X (compareOp op') r') (ha:PE X a ta) (hb:PE X b tb) (hc:PE X c tc)
  (hm:lastMarks [op,op'] [b,c]=false:=by with_unfolding_all rfl):PT X (.Compare a [op,op'] [b,c] pos) (zfA (zex r r' ta tb tc)):=by
 intro pins s σ H Q I h
 refine isTrue_chain (thn (ha pins s σ H _ I h) λv s1 ⟨x,H1,I1,r1,q1⟩=>test_link (thn (hb pins s1 σ H1 _ I1 q1) λu s2 ⟨y,H2,I2,r2,q2⟩ =>
  thn (ho pins s2 σ H2 x y v u _ I2 r1 r2 q2) λd s3 ⟨z,H3,I3,r3,k,e,q3⟩=>?_)) hm
 subst e
 cases r3
 refine wpAny_truthy_bool ?_
 cases k with
 | false =>
  obtain⟨k',e',q'⟩:=q3
  cases e'
  exact ite_ff ⟨H3,I3,q'⟩
 | true =>
  refine ite_tt (test_last (thn (hc pins s3 σ H3 _ I3 q3) λw' s4 ⟨z',H4,I4,r4,q4⟩=>thn (ho' pins s4 σ H4 y z' u w' _ I4 r2 r4 q4) λd' s5 ⟨z2,H5,I5,r5,k2,e2,q5⟩=>?_))
  subst e2
  cases r5
  exact wpAny_truthy_bool ⟨H5,I5,q5⟩
theorem zaI:(sizeLine:Nat)<2^63:=by rw [sizeLine_eq];decide
theorem vals1 {x:V} {us:List Value} (r:Vals [x] us):∃ u,us=[u]/\RelV x u:=by
 cases r with
 | cons r1 r2=>cases r2;exact⟨_,rfl,r1⟩
theorem vals2 {x y:V} {us:List Value} (r:Vals [x,y] us):∃ u w',us=[u,w']/\RelV x u/\RelV y w':=by
 cases r with
 | cons r1 r2 =>
  cases r2 with
  | cons r3 r4=>cases r4;exact⟨_,_,rfl,r1,r3⟩
theorem zac (hc:X.calm=true):vB X (.builtin "max") (λxs H Q=>∃ i j,xs=[.int i,.int j]/\Q (.int (if j>i then j else i)) H):=by
 intro pins s σ H xs us Q I r h
 obtain⟨i,j,rfl,q⟩:=h
 obtain⟨u,w',rfl,⟨t,rfl⟩,⟨t',rfl⟩⟩:=vals2 r
 refine max_two_ints (I.ok.hd hc) λh' tk k=>⟨_,H,I.kept k,?_,q⟩
 by_cases hj:j>i
 ·rw [if_pos hj,if_pos hj];exact⟨_,rfl⟩
 ·rw [if_neg hj,if_neg hj];exact⟨_,rfl⟩
theorem Vi (hc:X.calm=true):vB X (.builtin "min") (λxs H Q=>∃ i j,xs=[.int i,.int j]/\Q (.int (if j<i then j else i)) H):=by
 intro pins s σ H xs us Q I r h
 obtain⟨i,j,rfl,q⟩:=h
 obtain⟨u,w',rfl,⟨t,rfl⟩,⟨t',rfl⟩⟩:=vals2 r
 refine min_two_ints (I.ok.hd hc) λh' tk k=>⟨_,H,I.kept k,?_,q⟩
 by_cases hj:j<i
 ·rw [if_pos hj,if_pos hj];exact⟨_,rfl⟩
 ·rw [if_neg hj,if_neg hj];exact⟨_,rfl⟩
theorem JP:vB X (.type "int") (λxs H Q=>(∃ i,xs=[.int i]/\Q (.int i) H)\/∃ k,xs=[.bl k]/\Q (.int (if k then 1 else 0)) H):=by
 intro pins s σ H xs us Q I r h
 rcases h with ⟨i,rfl,q⟩ | ⟨k,rfl,q⟩
 ·obtain⟨u,rfl,t,rfl⟩:=vals1 r
  exact call_int_int ⟨.int i,H,I,⟨_,rfl⟩,q⟩
 ·obtain⟨u,rfl,r1⟩:=vals1 r
  cases r1
  exact call_int_bool ⟨.int (if k then 1 else 0),H,I.tok _,⟨_,rfl⟩,q⟩
end
structure ObjM (h:Heap) (x dx C:Addr) (mA:Str->Option Value):Prop where
 obj:h.get? x=some (W.instObj C dx)
 ns:h.Ns1 dx mA
 ne:dx≠x
theorem zc1 {h:Heap} {dx:Addr} {mA:Str->Option Value} (n:h.Ns1 dx mA):∃ od,h.get? dx=some od/\∀ name,W.lookIn name od=some (mA name):=by
 obtain⟨o,es,ep,ho,hd,hk,_,hm⟩:=n
 refine⟨o,ho,λname=>?_⟩
 have e:=hm name
 unfold nsFind findBy at e
 rw [<- Array.find?_toList] at e
 unfold W.lookIn
 rw [hd]
 dsimp only
 split
 ·rename_i y q
  rw [q] at e
  exact congrArg some e
 ·rename_i q
  rw [q] at e
  have a:es.toList.any (·.refKey)=false:=by
   rw [List.any_eq_false]
   intro y hy
   obtain⟨z,t,hkey⟩:=hk y (Array.mem_toList_iff.mp hy)
   simp [DictEntry.refKey,hkey]
  have a':¬ es.toList.any (·.refKey)=true:=by rw [a];exact Bool.false_ne_true
  rw [if_neg a']
  exact congrArg some e
theorem ObjM.look {h:Heap} {x dx C:Addr} {mA:Str->Option Value} (I:ObjM h x dx C mA):∃ od,W.InstAt h x (W.instObj C dx) C (some od)/\∀ name,W.lookIn name od=some (mA name) :=
 let ⟨od,ho,hl⟩:=zc1 I.ns
 ⟨od,⟨I.obj,rfl,rfl,ho⟩,hl⟩
section
variable {prog:Program} {w:World} {A:Around} {E:Value->Shared->Prop} {s:Shared} {K:W.Frag} {x dx C f:Addr} {mA:Str->Option Value} {name:Str} {v:Value}
theorem zfj {expr:Bool} {Q:Value->Shared->Prop} (X:K.In s.heap) (I:ObjM s.heap x dx C mA) (hg:W.plainGet K C name=true) (hh:W.hasDictIn K C=true)
  (ha:W.findIn K (.ref C) name=some none) (hv:mA name=some v) (hv':W.handedIn v=true) (h:Q v { s with toks:=s.toks+1 }) :
  wpAny (model prog w) A (getAttr (.ref x) name expr) Q E s:=by
 obtain⟨od,J,hl⟩:=I.look
 exact W.get_value X J (W.plainGet_of hg).1 (W.findObj_own hh ha rfl (by rw [hl,hv])) hv' h
theorem zdN {pl:Sem Bool} {Q:Value×List Value->Shared->Prop} (X:K.In s.heap) (I:ObjM s.heap x dx C mA) (hg:W.plainGet K C name=true)
  (hf:W.findIn K (.ref C) name=some (some (.ref f))) (ht:W.isFn K (.ref f)=true) (hv:mA name=none) (h:Q (.ref f,[.ref x]) s) :
  wpAny (model prog w) A (getMethod (.ref x) name pl) Q E s:=by
 obtain⟨od,J,hl⟩:=I.look
 exact W.method_fn X J (W.plainGet_of hg).1 (W.plainGet_of hg).2 hf (beq_iff_eq.mp ht) (by show (W.lookIn name od).map (·.isSome)=some false;rw [hl,hv];rfl) h
theorem zfl {ns:List Str} {Q:Unit->Shared->Prop} (X:K.In s.heap) (I:ObjM s.heap x dx C mA)
  (hs:W.findIn K (.ref C) "__setattr__" = some (some (.builtin "object.__setattr__"))) (hp:W.plainOver K C=true) (ht:W.takerIn K C name=some none) (hh:W.hasDictIn K C=true)
  (hw:PySem.Within mA ns) (hsz:ns.length<=sizeLine)
  (h:∀ h',ObjM h' x dx C (λy=>if y=name then some v else mA y)->Heap.SameBut dx s.heap h'->Q () { s with heap:=h',toks:=s.toks+2 }) :
  wpAny (model prog w) A (setAttr (.ref x) name v) Q E s:=by
 obtain⟨od,J,hl⟩:=I.look
 refine W.set_plain X J hs (W.osa_open (s:={ s with toks:=s.toks+1 }) (r:=none) X J hp ht λb=>?_)
 obtain⟨cd,hc,hd'⟩:=W.any_some hh
 have hx:s.heap.get? x=some ⟨.ref C,some dx,.plain,#[]⟩:=I.obj
 refine wpAny_bind (wpAny_pure (wpAny_bind (wpAny_bind (wpAny_loadPart hx (wpAny_bind (W.Looks.here (s:={ s with toks:=s.toks+1 }) (W.looks_clsIn X hc) ?_))))))
 rw [hd']
 refine wpAny_pure (a:=some dx) (wpAny_bind (wpAny_pure (wpAny_bind ?_)))
 refine wpAny_nsSet1 (s:={ s with toks:=s.toks+1 }) I.ns λh' hn2 hs2=>?_
 obtain⟨oD,esD,epD,hoD,hdD,hcD⟩:=hn2.count (PySem.Within.cons name v hw)
 refine wpAny_bind (wpAny_lookBehind hoD (by rw [hdD];exact pastItsLine_dict (Nat.le_trans hcD (by rw [List.length_cons];omega))) ?_)
 exact wpAny_pure (h _ ⟨(hs2.2 _ (Ne.symm I.ne)).trans I.obj,hn2,I.ne⟩ hs2)
theorem zdP {R:Result->Shared->Prop} {vs:List Value} {kw:List (Str×Value)} (X:K.In s.heap) (hm:W.makesIn K C=true)
  (hi:W.findIn K (.ref C) "__init__" = some (some (.ref f))) (hf:W.typeIn K (.ref f)=some (.type "function"))
  (h:codeAny (model prog w) (A.under (.builtin "type.__call__" ⟨.ref C :: vs,kw⟩)) (.call (.ref f) ⟨.ref (s.heap.objs.size+1) :: vs,kw⟩) (W.InitBack (s.heap.objs.size+1) R)
   { s with heap:=(s.heap.push W.emptyDict).push (W.instObj C s.heap.objs.size) }) :
  codeAny (model prog w) A (.call (.ref C) ⟨vs,kw⟩) R s:=by
 obtain⟨hh,g,d,t,os⟩:=s
 exact W.make_core (W.makes_of X hm) (W.looks_findIn X hi) (λself=>W.bind_fn X self hf) (.inl rfl) h
end
def zU (f:Str) (v:V):List (Str×V)->List (Str×V)
 | []=>[(f,v)]
 | (g,x) :: r=>if g=f then (g,v) :: r else (g,x) :: zU f v r
theorem zG (f g:Str) (v:V):∀ fs:List (Str×V),(zU f v fs).lookup g=if g=f then some v else fs.lookup g
 | []=>by
  show List.lookup g [(f,v)]=_
  by_cases h:g=f
  ·have hb:(g == f)=true:=beq_iff_eq.mpr h
   simp only [List.lookup,hb,if_pos h]
  ·have hb:(g == f)=false:=beq_eq_false_iff_ne.mpr h
   simp only [List.lookup,hb,if_neg h]
 | (k,x) :: r=>by
  have ih:=zG f g v r
  rw [show zU f v ((k,x) :: r)=(if k=f then (k,v) :: r else (k,x) :: zU f v r) from rfl]
  by_cases hk:k=f
  ·rw [if_pos hk]
   by_cases h:g=k
   ·have hb:(g == k)=true:=beq_iff_eq.mpr h
    simp only [List.lookup,hb,if_pos (h.trans hk)]
   ·have hb:(g == k)=false:=beq_eq_false_iff_ne.mpr h
    simp only [List.lookup,hb,if_neg (λe:g=f=>h (e.trans hk.symm))]
  ·rw [if_neg hk]
   by_cases h:g=k
   ·have hb:(g == k)=true:=beq_iff_eq.mpr h
    simp only [List.lookup,hb,if_neg (λe:g=f=>hk (h.symm.trans e))]
   ·have hb:(g == k)=false:=beq_eq_false_iff_ne.mpr h
    simp only [List.lookup,hb]
    exact ih
theorem Vq (f:Str) (v:V):∀ fs:List (Str×V),f∈(zU f v fs).map (·.1)/\∀ g,g∈fs.map (·.1)->g∈(zU f v fs).map (·.1)
 | []=>⟨by simp [zU],λg h=>by simp at h⟩
 | (k,x) :: r=>by
  obtain⟨i1,i2⟩:=Vq f v r
  rw [show zU f v ((k,x) :: r)=(if k=f then (k,v) :: r else (k,x) :: zU f v r) from rfl]
  by_cases hk:k=f
  ·rw [if_pos hk]
   subst hk
   exact⟨by simp,λg h=>by simpa using h⟩
  ·rw [if_neg hk]
   refine⟨?_,λg h=>?_⟩
   ·rw [List.map_cons]
    exact List.mem_cons_of_mem _ i1
   ·rw [List.map_cons] at h ⊢
    rcases List.mem_cons.mp h with e | e
    ·exact List.mem_cons.mpr (.inl e)
    ·exact List.mem_cons_of_mem _ (i2 g e)
theorem xJ (f:Str) (v:V):∀ fs:List (Str×V),(zU f v fs).length<=fs.length+1
 | []=>by simp [zU]
 | (k,x) :: r=>by
  have ih:=xJ f v r
  rw [show zU f v ((k,x) :: r)=(if k=f then (k,v) :: r else (k,x) :: zU f v r) from rfl]
  by_cases hk:k=f
  ·rw [if_pos hk,List.length_cons,List.length_cons];omega
  ·rw [if_neg hk,List.length_cons,List.length_cons];omega
theorem RelO.some_of {v:V} {o:Option Value} (r:RelO (some v) o):∃ u,o=some u/\RelV v u:=by
 cases o with
 | none=>exact (show False from r).elim
 | some u=>exact⟨u,rfl,r⟩
theorem RelO.none_of {o:Option Value} (r:RelO none o):o=none:=by
 cases o with
 | none=>rfl
 | some u=>exact (show False from r).elim
theorem zdb {v:V} {u:Value} (r:RelV v u):W.handedIn u=true:=by
 cases v with
 | non=>cases (show u=Value.none from r);rfl
 | bl b=>cases (show u=Value.bool b from r);rfl
 | int i=>obtain⟨t,e⟩:=(show ∃ t,u=Value.int i t from r);cases e;rfl
 | str x=>obtain⟨t,e⟩:=(show ∃ t,u=Value.str x t from r);cases e;rfl
 | byt b=>obtain⟨t,e⟩:=(show ∃ t,u=Value.bytes b t from r);cases e;rfl
 | flt b=>obtain⟨t,e⟩:=(show ∃ t,u=Value.float b t from r);cases e;rfl
 | ref a=>cases (show u=Value.ref a from r);rfl
 | ty n=>cases (show u=Value.type n from r);rfl
section
variable {P:Program} {w:World} {H H':Hp} {h h':Heap} {a C dx:Addr} {fs fs':List (Str×V)}
theorem Ur (hok:HOk P w H h) (e:H a=some (.ins C dx fs)):∃ mA,ObjM h a dx C mA/\(∀ f,RelO (fs.lookup f) (mA f))/\PySem.Within mA (fs.map (·.1))/\fs.length<=1000/\H dx=some (.own a):=by
 obtain⟨d,z,ne,ob,mA,n,r,q⟩:=(show ObjOk P w H h a (.ins C dx fs) from hok a _ e)
 exact⟨mA,⟨ob,n,ne⟩,r,q,z,d⟩
end
structure Cls (K:W.Frag) (C:Addr):Prop where
 pg:W.plainGet K C Str.empty=true
 hd:W.hasDictIn K C=true
 po:W.plainOver K C=true
 sa:W.findIn K (.ref C) "__setattr__" = some (some (.builtin "object.__setattr__"))
theorem Cls.get {K:W.Frag} {C:Addr} (c:Cls K C) (f:Str):W.plainGet K C f=true:=c.pg
def NoAttr (K:W.Frag) (C:Addr) (f:Str):Prop:=W.findIn K (.ref C) f=some none
theorem NoAttr.taker {K:W.Frag} {C:Addr} {f:Str} (n:NoAttr K C f):W.takerIn K C f=some none:=by
 unfold W.takerIn
 rw [show W.findIn K (.ref C) f=some none from n]
 rfl
structure Con (K:W.Frag) (C:Addr) (f:Str) (v:V) (u:Value):Prop where
 at_:W.findIn K (.ref C) f=some (some u)
 rel:RelV v u
 get:W.specialIn K u "__get__" = some none
 cp:W.copiedNames.contains f=false
structure Meth (K:W.Frag) (C:Addr) (m:Str) (f:Addr):Prop where
 at_:W.findIn K (.ref C) m=some (some (.ref f))
 fn:W.isFn K (.ref f)=true
 kp:W.keepIn K (.ref f)=true
section
variable {X:Cx} {pins:List (Addr×Obj)} {σ:St} {H:Hp} {s:Shared} {a C dx:Addr} {fs:List (Str×V)} {f:Str} {v:V} {A:Around} {E:Value->Shared->Prop}
theorem zbB {b:Bool} {Q:Value->Shared->Prop} (I:Inv X pins σ H s) (e:H a=some (.ins C dx fs)) (c:Cls X.K C) (n:NoAttr X.K C f) (l:fs.lookup f=some v)
  (h:∀ u s',Inv X pins σ H s'->RelV v u->Q u s'):wpAny (model X.prog X.w) A (getAttr (.ref a) f b) Q E s:=by
 obtain⟨mA,O,r,_,_,_⟩:=Ur I.hok e
 obtain⟨u,hu,ru⟩:=RelO.some_of (v:=v) (o:=mA f) (by rw [<- l];exact r f)
 exact zfj I.kIn O (c.get f) c.hd n hu (zdb ru) (h u _ (I.tok _) ru)
theorem Wm {m:Str} {g:Addr} {pl:Sem Bool} {Q:Value×List Value->Shared->Prop} (I:Inv X pins σ H s) (e:H a=some (.ins C dx fs)) (c:Cls X.K C) (k:Meth X.K C m g) (l:fs.lookup m=none)
  (h:Q (.ref g,[.ref a]) s):wpAny (model X.prog X.w) A (getMethod (.ref a) m pl) Q E s:=by
 obtain⟨mA,O,r,_,_,_⟩:=Ur I.hok e
 have hn:mA m=none:=RelO.none_of (by rw [<- l];exact r m)
 exact zdN I.kIn O (c.get m) k.at_ k.fn hn h
theorem zbZ {y:V} {u:Value} {Q:Unit->Shared->Prop} (I:Inv X pins σ H s) (e:H a=some (.ins C dx fs)) (c:Cls X.K C) (n:NoAttr X.K C f) (hl:fs.length<1000) (ry:RelV y u)
  (h:∀ s',Inv X pins σ (upd H a (.ins C dx (zU f y fs))) s'->Q () s'):wpAny (model X.prog X.w) A (setAttr (.ref a) f u) Q E s:=by
 obtain⟨mA,O,r,wi,_,ho⟩:=Ur I.hok e
 have hz:(fs.map (·.1)).length<=sizeLine:=by rw [List.length_map,sizeLine_eq];omega
 refine zfl I.kIn O c.sa c.po n.taker c.hd wi hz λh' O' sb=>h _ ?_
 have hd:∃ o,h'.get? dx=some o:=let ⟨o,_,_,e',_⟩:=O'.ns;⟨o,e'⟩
 refine I.write (x:=a) (e:=dx) (by rw [e];exact True.intro) (.inr ho) (λb q hb z=>(sb.2 b hb).trans z) hd ?_
 refine⟨by rw [zy O.ne];exact ho,?_,O.ne,O'.obj,_,O'.ns,λg=>?_,λg hg=>?_⟩
 ·have:=xJ f y fs;omega
 ·show RelO ((zU f y fs).lookup g) (if g=f then some u else mA g)
  rw [zG]
  by_cases q:g=f
  ·rw [if_pos q,if_pos q];exact ry
  ·rw [if_neg q,if_neg q];exact r g
 ·by_cases q:g=f
  ·rw [q];exact (Vq f y fs).1
  ·refine (Vq f y fs).2 g (wi g λz=>hg ?_)
   show (if g=f then some u else mA g)=none
   rw [if_neg q];exact z
theorem Inv.made (I:Inv X pins σ H s):Inv X pins σ (upd (upd H s.heap.objs.size (.own (s.heap.objs.size+1))) (s.heap.objs.size+1) (.ins C s.heap.objs.size []))
  { s with heap:=(s.heap.push W.emptyDict).push (W.instObj C s.heap.objs.size) }:=by
 have e1:(s.heap.push W.emptyDict).get? s.heap.objs.size=some W.emptyDict:=Heap.get?_push_size s.heap rfl
 have e2:((s.heap.push W.emptyDict).push (W.instObj C s.heap.objs.size)).get? (s.heap.objs.size+1)=some (W.instObj C s.heap.objs.size):=by
  have:=Heap.get?_push_size (s.heap.push W.emptyDict) (o:=W.instObj C s.heap.objs.size) rfl
  rwa [Heap.size_push] at this
 have e3:(s.heap.push W.emptyDict).Ns s.heap.objs.size (λ_=>none):=⟨W.emptyDict,#[],_,e1,rfl,(λe he=>absurd he (by simp)),λ_=>rfl⟩
 have I1:=I.laid (a:=s.heap.objs.size) (o:=.own (s.heap.objs.size+1)) (h':=s.heap.push W.emptyDict) (t':=s.toks) (λb u q=>Heap.get?_push_of_some _ q) (Nat.le_refl _) ⟨_,e1⟩
 refine I1.laid (a:=s.heap.objs.size+1) (o:=.ins C s.heap.objs.size []) (t':=s.toks) (λb u q=>Heap.get?_push_of_some _ q) (Nat.le_of_eq (Heap.size_push _ _)) ?_
 have ne:s.heap.objs.size≠s.heap.objs.size+1:=Nat.ne_of_lt (Nat.lt_succ_self _)
 refine⟨by rw [zy ne,zj],Nat.zero_le _,ne,e2,λ_=>none,(Heap.Ns1.of_empty e3).at λo q=>Heap.get?_push_of_some _ q,λ_=>True.intro,λy hy=>absurd rfl hy⟩
theorem zeR {prog:Program} {w:World} {env:Env} {e:Expr} {f:Str} {pos:Pos} {s:Shared} {Q:Value->Shared->Prop} (hb:attributeBase e f env (eval e env)=eval e env)
  (h:wpAny (model prog w) A (eval e env) (λo s₁=>wpAny (model prog w) A (getAttr o f true) Q E s₁) E s):wpAny (model prog w) A (eval (.Attribute e f pos) env) Q E s :=
 Attribute_any_ h (by rw [arm_eval_Attribute,hb])
end
def zgF (K:W.Frag) (ta:TE) (f:Str):TE:=fun σ H Q=>ta σ H λx H1=>∃ a C dx fs v,x=.ref a/\H1 a=some (.ins C dx fs)/\Cls K C/\NoAttr K C f/\fs.lookup f=some v/\Q v H1
def zhp (K:W.Frag) (ta tv:TE) (f:Str):TS:=λD σ H=>tv σ H λy H1=>ta σ H1 λx H2=>∃ a C dx fs,x=.ref a/\H2 a=some (.ins C dx fs)/\Cls K C/\NoAttr K C f/\fs.length<1000 /\
 D.nx σ (upd H2 a (.ins C dx (zU f y fs)))
section
variable {X:Cx} {o e value:Expr} {f:Str} {pos pos' tpos:Pos} {ta tv:TE}
theorem zf3 (he:PE X e ta) (hb:attributeBase e f X.env (eval e X.env)=eval e X.env):PE X (.Attribute e f pos) (zgF X.K ta f):=by
 intro pins s σ H Q I h
 refine zeR hb (thn (he pins s σ H _ I h) λu s1 ⟨x,H1,I1,rx,a,C,dx,fs,v,ex,ea,c,n,l,q⟩=>?_)
 subst ex
 obtain rfl:u=Value.ref a:=rx
 exact zbB I1 ea c n l λu' s2 I2 ru=>⟨v,H1,I2,ru,q⟩
theorem Zo (ha:PE X o ta) (hv:PE X value tv) (hs:swapsWith value (some (.Attribute o f pos')) pos.line X.env=pure false):PS X (.Assign [.Attribute o f pos'] value pos) (zhp X.K ta tv f):=by
 intro pins s σ H D I h
 refine plainObj_wpAny_Assign_Attribute (thn (hv pins s σ H _ I h) λu s1 ⟨y,H1,I1,ry,q⟩=>thn (ha pins s1 σ H1 _ I1 q) λov s2 ⟨x,H2,I2,rx,a,C,dx,fs,ex,ea,c,n,l,q2⟩=>?_) hs
 subst ex
 obtain rfl:ov=Value.ref a:=rx
 exact zbZ I2 ea c n l ry λs3 I3=>⟨σ,_,I3,q2⟩
end
section
variable {X:Cx} {pins:List (Addr×Obj)} {σ:St} {H:Hp} {s:Shared} {A:Around} {E:Value->Shared->Prop} {Q:Value->Shared->Prop} {c:Value} {b:Bool}
inductive WX (K:W.Frag) (H:Hp):V->Value->Prop where
 | non:WX K H .non (.type "NoneType")
 | bl (x:Bool):WX K H (.bl x) (.type "bool")
 | int (i:Int):WX K H (.int i) (.type "int")
 | str (x:Str):WX K H (.str x) (.type "str")
 | flt (x:UInt64):WX K H (.flt x) (.type "float")
 | lst {a:Addr} {xs:List V} (e:H a=some (.lst xs)):WX K H (.ref a) (.type "list")
 | frz {a:Addr} {o:Obj} {xs:List V} (e:H a=some (.frz o (.lst xs))):WX K H (.ref a) (.type "list")
 | tup {a:Addr} {xs:List V} (e:H a=some (.tup xs)):WX K H (.ref a) (.type "tuple")
 | dK {a:Addr} {kvs:List (Key×V)} (e:H a=some (.dK kvs)):WX K H (.ref a) (.type "dict")
 | dT {a:Addr} {kvs:List (List Key×V)} (e:H a=some (.dT kvs)):WX K H (.ref a) (.type "dict")
 | ins {a C dx:Addr} {fs:List (Str×V)} (e:H a=some (.ins C dx fs)) (cl:Cls K C) (ha:W.findIn K (.ref C) "__class__" = some (some (.builtin "object.__class__")))
   (hn:W.specialIn K (.builtin "object.__class__") "__get__" = some (some (.builtin "getset_descriptor.__get__"))) (htk:W.takesIn K (.builtin "object.__class__")=some true)
   (hm:W.mroIn K C (.type "object")=some true):WX K H (.ref a) (.ref C)
theorem zc3 {x:V} {u t:Value} (I:Inv X pins σ H s) (rx:RelV x u) (ty:WX X.K H x t) (e:W.kitOne X.K t c=some b) (h:∀ tk,Q (.bool b) { s with toks:=tk }) :
  wpAny (model X.prog X.w) A (call (.builtin "isinstance") [u,c]) Q E s:=by
 cases ty with
 | non=>cases (show u=Value.none from rx);exact W.kia_one W.kitx_none I.kIn True.intro e (λz=>nomatch z) h
 | bl y=>cases (show u=Value.bool y from rx);exact W.kia_one W.kitx_bool I.kIn True.intro e (λz=>nomatch z) h
 | int i=>obtain⟨t,q⟩:=(show ∃ t,u=Value.int i t from rx);cases q;exact W.kia_one W.kitx_int I.kIn True.intro e (λz=>nomatch z) h
 | str y=>obtain⟨t,q⟩:=(show ∃ t,u=Value.str y t from rx);cases q;exact W.kia_one W.kitx_str I.kIn True.intro e (λz=>nomatch z) h
 | flt y=>obtain⟨t,q⟩:=(show ∃ t,u=Value.float y t from rx);cases q;exact W.kia_one W.kitx_float I.kIn True.intro e (λz=>nomatch z) h
 | @lst a xs ea =>
  cases (show u=Value.ref a from rx)
  obtain⟨_,_,n,_,h1⟩:=(show ObjOk X.prog X.w H s.heap a (.lst xs) from I.hok a _ ea)
  exact W.kia_one W.kitx_list I.kIn ⟨_,h1,rfl⟩ e (λz=>nomatch z) h
 | @frz a ob xs ea =>
  cases (show u=Value.ref a from rx)
  obtain⟨_,_,_,n,_,h1⟩:=(show ObjOk X.prog X.w H s.heap a (.frz ob (.lst xs)) from I.hok a _ ea)
  exact W.kia_one W.kitx_list I.kIn ⟨_,h1,rfl⟩ e (λz=>nomatch z) h
 | @tup a xs ea =>
  cases (show u=Value.ref a from rx)
  obtain⟨_,_,_,p⟩:=(show ObjOk X.prog X.w H s.heap a (.tup xs) from I.hok a _ ea)
  obtain⟨o,h1,h2,_⟩:=p
  exact W.kia_one W.kitx_tuple I.kIn ⟨o,h1,h2⟩ e (λz=>nomatch z) h
 | @dK a kvs ea =>
  cases (show u=Value.ref a from rx)
  obtain⟨_,_,vs,_,p⟩:=(show ObjOk X.prog X.w H s.heap a (.dK kvs) from I.hok a _ ea)
  obtain⟨o,es,ep,h1,h2,_⟩:=p
  exact W.kia_one W.kitx_dict I.kIn ⟨o,h1,h2.1⟩ e (λz=>nomatch z) h
 | @dT a kvs ea =>
  cases (show u=Value.ref a from rx)
  obtain⟨_,_,xs,_,o,es,ep,h1,h2,_⟩:=(show ObjOk X.prog X.w H s.heap a (.dT kvs) from I.hok a _ ea)
  exact W.kia_one W.kitx_dict I.kIn ⟨o,h1,h2.1⟩ e (λz=>nomatch z) h
 | @ins a C dx fs ea cl ha hn htk hm =>
  cases (show u=Value.ref a from rx)
  obtain⟨mA,O,_⟩:=Ur I.hok ea
  obtain⟨od,J,_⟩:=O.look
  exact W.kia_one (W.kitx_own (cl.get _) cl.hd ha hn htk hm) I.kIn J e (λz=>nomatch z) h
end
structure Room (k:Nat) (A:Around):Prop where
 hd:A.handled=none
 dp:A.depth+k+5<recursionLimit
 un:A.units+16*k+200<cLine
 gd:A.guards=some []
theorem Room.mono {j k:Nat} {A:Around} (r:Room k A) (h:j<=k):Room j A:=⟨r.hd,by have:=r.dp;omega,by have:=r.un;omega,r.gd⟩
theorem Room.deeper {k:Nat} {A:Around} (r:Room (k+1) A) (env:Env):Room k (A.deeper env) :=
 ⟨r.hd,by have:=r.dp;show A.depth+1+k+5<_;omega,by have:=r.un;show A.units+3+16*k+200<_;omega,r.gd⟩
theorem Room.in1 {k:Nat} {A:Around} (r:Room (k+1) A):Room k A.in1 :=
 ⟨r.hd,by have:=r.dp;show A.depth+k+5<_;omega,by have:=r.un;show A.units+1+16*k+200<_;omega,r.gd⟩
theorem zbR {A:Around} {C:Addr} {us:List Value} {kw:List (Str×Value)}:(A.under (.builtin "type.__call__" ⟨.ref C :: us,kw⟩)).depth=A.depth+1:=by
 first | rfl | simp [Around.under,Code.weight,Code.isCreation,Code.isGuard,Code.isCaller,Code.frames,Code.isFrame,guardIds]
theorem zbz {A:Around} {C:Addr} {us:List Value} {kw:List (Str×Value)}:(A.under (.builtin "type.__call__" ⟨.ref C :: us,kw⟩)).units=A.units+1:=by
 first | rfl | simp [Around.under,Code.cUnits,Code.frames,Code.isFrame]
theorem Room.make {k:Nat} {A:Around} (r:Room (k+1) A) (C:Addr) (us:List Value) (kw:List (Str×Value)):Room k (A.under (.builtin "type.__call__" ⟨.ref C :: us,kw⟩)) :=
 ⟨r.hd,by have:=r.dp;rw [zbR];omega,by have:=r.un;rw [zbz];omega,by first | exact r.gd | (simp [Around.under,Code.guards,Code.isGuard,guardIds];exact r.gd)⟩
theorem Room.depth {k:Nat} {A:Around} (r:Room k A):A.depth<recursionLimit:=by have:=r.dp;omega
theorem Room.units {k:Nat} {A:Around} (r:Room k A):A.units+64<cLine:=by have:=r.un;omega
def WR:TA:=λ_ H Q=>Q [] H
def Ze (ta:TE) (tr:TA):TA:=fun σ H Q=>ta σ H λx H1=>tr σ H1 λxs H2=>Q (x :: xs) H2
section
variable {X:Cx} {e:Expr} {es:List Expr} {te:TE} {t:TA} {pos:Pos}
theorem zg:PA X [] WR:=λ_ _ _ _ H Q I h=>Calls.spliced_nil ⟨[],H,I,.nil,h⟩
theorem zf (ha:PE X e te) (hr:PA X es t) (hs:starEach (e :: es) X.env=(false,eval e X.env) :: starEach es X.env:=by rfl):PA X (e :: es) (Ze te t):=by
 intro pos pins s σ H Q I h
 rw [hs]
 show wpAny _ _ (spliced ((false,eval e X.env) :: backTo pos (starEach es X.env))) _ _ s
 refine Calls.spliced_cons (thn (ha pins s σ H _ I h) λu s1 ⟨x,H1,I1,r1,q1⟩=>?_)
 exact thn (hr pos pins s1 σ H1 _ I1 q1) λus s2 ⟨xs,H2,I2,r2,q2⟩=>⟨x :: xs,H2,I2,.cons r1 r2,q2⟩
def zg7 (t:TA):TE:=fun σ H Q=>t σ H λxs H1=>xs.length<=sizeLine/\∀ p,H1 p=none->Q (.ref p) (upd H1 p (.tup xs))
def zcX (t:TA):TE:=fun σ H Q=>t σ H λxs H1=>xs.length<=sizeLine/\∀ p,H1 p=none->Q (.ref p) (upd H1 p (.lst xs))
theorem qG {x1} (h:PA X es t):PE X (.Tuple es x1 pos) (zg7 t):=by
 intro pins s σ H Q I hq
 refine wpAny_Tuple_spliced (thn (h pos pins s σ H _ I hq) λus s1 ⟨xs,H1,I1,r,z,q⟩=>⟨by rw [<- r.length];exact z,?_⟩)
 have hf:H1 s1.heap.objs.size=none:=I1.hok.fresh (Nat.le_refl _)
 refine⟨.ref s1.heap.objs.size,upd H1 s1.heap.objs.size (.tup xs),I1.laid (t':=s1.toks) (λb u e=>Heap.get?_push_of_some _ e) (Nat.le_refl _) ?_,rfl,q _ hf⟩
 exact⟨z,us,r,⟨_,Heap.get?_push_size _ rfl,rfl,_,rfl⟩⟩
theorem yc (h:PA X es t):PE X (.List es pos) (zcX t):=by
 intro pins s σ H Q I hq
 refine wpAny_List_spliced (thn (h pos pins s σ H _ I hq) λus s1 ⟨xs,H1,I1,r,z,q⟩=>⟨by rw [<- r.length];exact z,?_⟩)
 have hf:H1 s1.heap.objs.size=none:=I1.hok.fresh (Nat.le_refl _)
 refine⟨.ref s1.heap.objs.size,upd H1 s1.heap.objs.size (.lst xs),I1.laid (t':=s1.toks) (λb u e=>Heap.get?_push_of_some _ e) (Nat.le_refl _) ?_,rfl,q _ hf⟩
 exact⟨z,us,0,r,Heap.get?_push_size _ rfl⟩
end
abbrev Sp:=List V->Hp->VK->XK->Prop
abbrev CXT:=List Env->Hp->Shared->XK->Value->Shared->Prop
structure Env0 (P:Program) (w:World) (K:W.Frag) (mg:Str->Option Value) (base:Heap) (A:Around) (outer:List Env) (s:Shared) (H:Hp):Prop where
 frames:A.frames=some outer
 mod:Mod K mg base
 bs:∀ b o,base.get? b=some o->s.heap.get? b=some o/\H b=none
 bsz:base.objs.size<=s.heap.objs.size
 funs:s.heap.FunFrames base outer
 frf:∀ b∈frs outer,H b=none
 hok:HOk P w H s.heap
 bare:AllBare s.gens
def CE (outer:List Env) (P:Program) (w:World) (H:Hp) (s:Shared) (Q:VK) (u:Value) (s':Shared):Prop :=
 ∃ v H',s'.os=s.os/\AllBare s'.gens/\Un (frs outer) [] H H' s.heap s'.heap/\HOk P w H' s'.heap/\RelV v u/\Q v H'
def CR (CX:CXT) (outer:List Env) (P:Program) (w:World) (H:Hp) (s:Shared) (Q:VK) (E:XK) (r:Result) (s':Shared):Prop :=
 match r with
 | .ok (.ret u)=>CE outer P w H s Q u s'
 | .ok _=>False
 | .error e=>CX outer H s E e s'
structure FnOk (P:Program) (w:World) (K:W.Frag) (mg:Str->Option Value) (base:Heap) (CX:CXT) (k:Nat) (f:Addr) (fd:FuncData) (ps:List Str) (sp:Sp):Prop where
 len:∀ vs H Q E,sp vs H Q E->vs.length=ps.length
 run:∀ (A:Around) (outer:List Env) (s:Shared) (H:Hp) (args:Args) (us:List Value) (vs:List V) (Q:VK) (E:XK),Room k A->Env0 P w K mg base A outer s H->BindsTo s fd args (ps.zip us)->Vals vs us->sp vs H Q E ->
  codeAny (model P w) A (.call (.ref f) args) (CR CX outer P w H s Q E) s
theorem FnOk.mono {P:Program} {w:World} {K:W.Frag} {mg:Str->Option Value} {base:Heap} {CX:CXT} {j k:Nat} {f:Addr} {fd:FuncData} {ps:List Str} {sp:Sp} (F:FnOk P w K mg base CX j f fd ps sp) (h:j<=k) :
  FnOk P w K mg base CX k f fd ps sp:=⟨F.len,λA outer s H args us vs Q E hr=>F.run A outer s H args us vs Q E (hr.mono h)⟩
theorem FnOk.imp {P:Program} {w:World} {K:W.Frag} {mg:Str->Option Value} {base:Heap} {CX:CXT} {k:Nat} {f:Addr} {fd:FuncData} {ps:List Str} {sp sp':Sp} (F:FnOk P w K mg base CX k f fd ps sp)
  (h:∀ vs H Q E,sp' vs H Q E->sp vs H Q E):FnOk P w K mg base CX k f fd ps sp' :=
 ⟨λvs H Q E q=>F.len vs H Q E (h _ _ _ _ q),λA outer s H args us vs Q E hr he hb hv hs=>F.run A outer s H args us vs Q E hr he hb hv (h _ _ _ _ hs)⟩
theorem Env0.make {P:Program} {w:World} {K:W.Frag} {mg:Str->Option Value} {base:Heap} {A:Around} {outer:List Env} {s:Shared} {H:Hp} (e:Env0 P w K mg base A outer s H) (C:Addr) (us:List Value) (kw:List (Str×Value)) :
  Env0 P w K mg base (A.under (.builtin "type.__call__" ⟨.ref C :: us,kw⟩)) outer s H:=⟨by first | exact e.frames | (simpa [Around.under,Code.envs,Code.isFrame,pushEnvs] using e.frames),e.mod,e.bs,e.bsz,e.funs,e.frf,e.hok,e.bare⟩
theorem Env0.in1 {P:Program} {w:World} {K:W.Frag} {mg:Str->Option Value} {base:Heap} {A:Around} {outer:List Env} {s:Shared} {H:Hp} (e:Env0 P w K mg base A outer s H) :
  Env0 P w K mg base A.in1 outer s H:=⟨e.frames,e.mod,e.bs,e.bsz,e.funs,e.frf,e.hok,e.bare⟩
section
variable {X:Cx} {pins:List (Addr×Obj)} {σ:St} {H:Hp} {s s':Shared}
theorem Inv.env0 (I:Inv X pins σ H s):Env0 X.prog X.w X.K X.mg X.base X.A X.stack s H :=
 ⟨I.ok.frames,I.ok.mod,I.bs,Nat.le_trans I.ok.bsz I.sz,I.stack,I.stkFree,I.hok,I.bare⟩
theorem Inv.after {Q:VK} {u:Value} (I:Inv X pins σ H s) (h:CE X.stack X.prog X.w H s Q u s'):EP X pins σ Q u s':=by
 obtain⟨v,H',os,bare,un,hok,r,q⟩:=h
 obtain⟨hh,g,d,t,os'⟩:=s'
 obtain rfl:os'=s.os:=os
 exact⟨v,H',I.call (h':=hh) (g':=g) (d':=d) (t':=t) (ch:=[]) un hok bare (λb z=>absurd z (by simp)),r,q⟩
end
def zeI (sp:Sp) (dvs:List V) (E:XK) (t:TA):TE:=fun σ H Q=>t σ H λvs H1=>sp (vs++dvs) H1 Q E
def zcs (C:Addr) (m:Str) (sp:Sp) (dvs:List V) (E:XK) (ta:TE) (t:TA):TE:=fun σ H Q=>ta σ H λx H1=>∃ a dx fs,x=.ref a/\H1 a=some (.ins C dx fs)/\fs.lookup m=none /\
 t σ H1 λvs H2=>sp (x :: (vs++dvs)) H2 Q E
def zgA (C:Addr) (sp:Sp) (dvs:List V) (E:XK) (t:TA):TE:=fun σ H Q=>t σ H λvs H1=>∀ x dx,H1 x=none->H1 dx=none->dx≠x ->
 sp (.ref x :: (vs++dvs)) (upd (upd H1 dx (.own x)) x (.ins C dx [])) (λv H2=>v=.non/\Q (.ref x) H2) E
def Binds (K:W.Frag) (fd:FuncData) (ps:List Str) (ds:List Value):Prop :=
 ∀ (s:Shared) (us:List Value),K.In s.heap->(us++ds).length=ps.length->BindsTo s fd ⟨us,[]⟩ (ps.zip (us++ds))
theorem Binds.all {K:W.Frag} {fd:FuncData} {ps:List Str} (h:∀ us:List Value,us.length=ps.length->bindArgs fd ⟨us,[]⟩=pure (ps.zip us)):Binds K fd ps []:=λs us _ hl=>by
 rw [List.append_nil] at hl ⊢
 exact .of_eq (h us hl)
def Wj (CX:CXT) (X:Cx) (E:XK):Prop:=∀ (pins:List (Addr×Obj)) (σ:St) (H:Hp) (s:Shared) (e:Value) (s':Shared),Inv X pins σ H s->CX X.stack H s E e s'->X.xe e s'
section
variable {X:Cx} {CX:CXT} {k:Nat} {f C:Addr} {fd:FuncData} {ps:List Str} {sp:Sp} {dvs:List V} {ds:List Value} {E:XK} {x m:Str} {p pos apos:Pos} {e o:Expr} {es:List Expr} {ta:TE} {t:TA}
theorem zbN {pins:List (Addr×Obj)} {σ:St} {H:Hp} {s:Shared} {Q:VK} {us:List Value} {vs:List V} (F:FnOk X.prog X.w X.K X.mg X.base CX k f fd ps sp) (hr:Room k X.A) (hb:Binds X.K fd ps ds) (hd:Vals dvs ds) (hx:Wj CX X E)
  (I:Inv X pins σ H s) (r:Vals vs us) (h:sp (vs++dvs) H Q E):wpAny (model X.prog X.w) X.A (call (.ref f) us) (EP X pins σ Q) X.xe s:=by
 have r2:Vals (vs++dvs) (us++ds):=r.append hd
 have hl:(us++ds).length=ps.length:=by rw [<- r2.length];exact F.len _ _ _ _ h
 refine wpAny_call (codeAny_mono (F.run X.A X.stack s H ⟨us,[]⟩ (us++ds) (vs++dvs) Q E hr I.env0 (hb s us I.kIn hl) r2 h) λr s' hq=>?_)
 cases r with
 | error e=>exact hx pins σ H s e s' I hq
 | ok fl =>
  cases fl with
  | ret u=>exact I.after hq
  | next=>exact False.elim hq
  | brk=>exact False.elim hq
  | cont=>exact False.elim hq
theorem zfg (F:FnOk X.prog X.w X.K X.mg X.base CX k f fd ps sp) (hr:Room k X.A) (hg:Gl X x) (hm:X.mg x=some (.ref f)) (hk:W.keepIn X.K (.ref f)=true) (hb:Binds X.K fd ps ds) (hd:Vals dvs ds) (hx:Wj CX X E)
  (ha:PA X (e :: es) t) (hdb:(x == ("__debug__" : Str))=false:=by decide) (he:starEach (e :: es) X.env=(false,eval e X.env) :: starEach es X.env:=by rfl) (hpl:(backTo pos (starEach es X.env)).any (·.1)=false:=by rfl) :
  PE X (.Call (.Name x p) (e :: es) [] pos) (zeI sp dvs E t):=by
 intro pins s σ H Q I h
 refine wpAny_Call_Name_kw (Xh I hg hm ?_ hdb)
 refine W.callWith_K (h₀:=X.base) I.ok.mod.kin hk (thn (ha pos pins s σ H _ I h) λus s1 ⟨vs,H1,I1,r,q⟩=>⟨I1.kIn,?_⟩) he hpl
 exact zbN F hr hb hd hx I1 r q
theorem zfi {pl:Sem Bool} (he:PE X o ta) (c:Cls X.K C) (hm:Meth X.K C m f) (F:FnOk X.prog X.w X.K X.mg X.base CX k f fd ps sp) (hr:Room k X.A) (hb:Binds X.K fd ps ds) (hd:Vals dvs ds) (hx:Wj CX X E) (ha:PA X (e :: es) t)
  (hst:starEach (e :: es) X.env=(false,eval e X.env) :: starEach es X.env:=by rfl) (hpl:(backTo pos (starEach es X.env)).any (·.1)=false:=by rfl)
  (ht:eval (.Call (.Attribute o m apos) (e :: es) [] pos) X.env=(do
   let ov <- eval o X.env
   standAt apos.atName
   let (f,first) <- holding [ov] (getMethod ov m pl)
   callWith pos f first (backTo pos (starEach (e :: es) X.env)) (backToKw pos (keywordEach [] X.env))):=by rfl) :
  PE X (.Call (.Attribute o m apos) (e :: es) [] pos) (zcs C m sp dvs E ta t):=by
 intro pins s σ H Q I h
 refine W.methodCall_KW (pl:=pl) (thn (he pins s σ H _ I h) λu s1 ⟨x,H1,I1,rx,a,dx,fs,ex,ea,l,q⟩=>?_) ht
 subst ex
 obtain rfl:u=Value.ref a:=rx
 refine Wm I1 ea c hm l ?_
 refine W.callWith_K (first:=[.ref a]) (h₀:=X.base) I.ok.mod.kin hm.kp (thn (ha pos pins s1 σ H1 _ I1 q) λus s2 ⟨vs,H2,I2,r,q2⟩=>⟨I2.kIn,?_⟩) hst hpl
 exact zbN (us:=.ref a :: us) (vs:=.ref a :: vs) F hr hb hd hx I2 (.cons rfl r) q2
theorem zem {pl:Sem Bool} (he:PE X o ta) (c:Cls X.K C) (hm:Meth X.K C m f) (F:FnOk X.prog X.w X.K X.mg X.base CX k f fd ps sp) (hr:Room k X.A) (hb:Binds X.K fd ps ds) (hd:Vals dvs ds) (hx:Wj CX X E)
  (ht:eval (.Call (.Attribute o m apos) [] [] pos) X.env=(do
   let ov <- eval o X.env
   standAt apos.atName
   let (f,first) <- holding [ov] (getMethod ov m pl)
   callWith pos f first (backTo pos (starEach [] X.env)) (backToKw pos (keywordEach [] X.env))):=by rfl) :
  PE X (.Call (.Attribute o m apos) [] [] pos) (zcs C m sp dvs E ta WR):=by
 intro pins s σ H Q I h
 refine W.methodCall_KW (pl:=pl) (thn (he pins s σ H _ I h) λu s1 ⟨x,H1,I1,rx,a,dx,fs,ex,ea,l,q⟩=>?_) ht
 subst ex
 obtain rfl:u=Value.ref a:=rx
 refine Wm I1 ea c hm l ?_
 exact W.callWith_K0 (first:=[.ref a]) I1.kIn hm.kp (zbN (us:=[.ref a]) (vs:=[.ref a]) F hr hb hd hx I1 (.cons rfl .nil) q)
structure Mk (K:W.Frag) (C f:Addr):Prop where
 makes:W.makesIn K C=true
 init:W.findIn K (.ref C) "__init__" = some (some (.ref f))
 fn:W.isFn K (.ref f)=true
 kp:W.keepIn K (.ref C)=true
theorem zeo {pins:List (Addr×Obj)} {σ:St} {H:Hp} {s:Shared} {Q:VK} {us:List Value} {vs:List V} (M:Mk X.K C f) (F:FnOk X.prog X.w X.K X.mg X.base CX k f fd ps sp) (hr:Room (k+1) X.A) (hb:Binds X.K fd ps ds) (hd:Vals dvs ds)
  (hx:Wj CX X E) (I:Inv X pins σ H s) (r:Vals vs us)
  (h:∀ x dx,H x=none->H dx=none->dx≠x->sp (.ref x :: (vs++dvs)) (upd (upd H dx (.own x)) x (.ins C dx [])) (λv H2=>v=.non/\Q (.ref x) H2) E) :
  wpAny (model X.prog X.w) X.A (call (.ref C) us) (EP X pins σ Q) X.xe s:=by
 have hq:=h (s.heap.objs.size+1) s.heap.objs.size (I.hok.fresh (Nat.le_succ _)) (I.hok.fresh (Nat.le_refl _)) (Nat.ne_of_lt (Nat.lt_succ_self _))
 have I2:=Inv.made (C:=C) I
 have r2:Vals (V.ref (s.heap.objs.size+1) :: (vs++dvs)) (Value.ref (s.heap.objs.size+1) :: (us++ds)):=.cons rfl (r.append hd)
 have hl:(Value.ref (s.heap.objs.size+1) :: us++ds).length=ps.length:=by
  have e:=r2.length
  rw [F.len _ _ _ _ hq] at e
  exact e.symm
 refine wpAny_call (zdP (f:=f) I.kIn M.makes M.init (beq_iff_eq.mp M.fn) (codeAny_mono (F.run _ X.stack _ _ ⟨Value.ref (s.heap.objs.size+1) :: us,[]⟩ (Value.ref (s.heap.objs.size+1) :: (us++ds)) _ _ E (hr.make C us [])
  (I2.env0.make C us []) (hb _ (Value.ref (s.heap.objs.size+1) :: us) I2.kIn hl) r2 hq) λr s' hq'=>?_))
 cases r with
 | error e=>exact hx pins σ _ _ e s' I2 hq'
 | ok fl =>
  cases fl with
  | ret u =>
   obtain⟨v,H',I3,rv,ev,q3⟩:=I2.after hq'
   subst ev
   exact⟨rv,⟨V.ref (s.heap.objs.size+1),H',I3,rfl,q3⟩⟩
  | next=>exact False.elim hq'
  | brk=>exact False.elim hq'
  | cont=>exact False.elim hq'
theorem Xl (M:Mk X.K C f) (F:FnOk X.prog X.w X.K X.mg X.base CX k f fd ps sp) (hr:Room (k+1) X.A) (hg:Gl X x) (hm:X.mg x=some (.ref C)) (hb:Binds X.K fd ps ds) (hd:Vals dvs ds) (hx:Wj CX X E)
  (ha:PA X (e :: es) t) (hdb:(x == ("__debug__" : Str))=false:=by decide) (he:starEach (e :: es) X.env=(false,eval e X.env) :: starEach es X.env:=by rfl) (hpl:(backTo pos (starEach es X.env)).any (·.1)=false:=by rfl) :
  PE X (.Call (.Name x p) (e :: es) [] pos) (zgA C sp dvs E t):=by
 intro pins s σ H Q I h
 refine wpAny_Call_Name_kw (Xh I hg hm ?_ hdb)
 refine W.callWith_K (h₀:=X.base) I.ok.mod.kin M.kp (thn (ha pos pins s σ H _ I h) λus s1 ⟨vs,H1,I1,r,q⟩=>⟨I1.kIn,?_⟩) he hpl
 exact zeo M F hr hb hd hx I1 r q
end
section
variable {X:Cx} {CX:CXT} {k:Nat} {f C:Addr} {fd:FuncData} {ps ks:List Str} {sp:Sp} {E:XK} {x m:Str} {p pos apos kpos:Pos} {e o:Expr} {es:List Expr} {kws:List Keyword} {te ta:TE} {t tk:TA} {nm:Option Str}
structure zhf (K:W.Frag) (fd:FuncData) (ps ks:List Str) (g:List Value->List Value->List Value) (gV:List V->List V->List V):Prop where
 to:∀ (s:Shared) (us ws:List Value),K.In s.heap->(g us ws).length=ps.length->BindsTo s fd ⟨us,ks.zip ws⟩ (ps.zip (g us ws))
 rel:∀ {vs:List V} {us:List Value} {zs:List V} {ws:List Value},Vals vs us->Vals zs ws->Vals (gV vs zs) (g us ws)
variable {g:List Value->List Value->List Value} {gV:List V->List V->List V}
end
structure zB (N P:List Str) (sc:Scope):Prop where
 kind:sc.kind=.function:=by rfl
 co:sc.isCoroutine=false:=by rfl
 gen:sc.isGenerator=false:=by rfl
 nd:N.Nodup:=by decide +kernel
 pre:N.take P.length=P:=by rfl
 par:∀ x∈P,sc.names.lookup x=some .local\/sc.names.lookup x=some .cell:=by decide +kernel
 nofree:∀ y∈sc.names,y.2≠.free:=by decide +kernel
theorem JL {kindOf:Str->Option NameKind} {x:Str}:∀ {binds:List (Str×Value)} {m:Str->Option Value},(∀ v,(x,v)∉binds)->bindL kindOf binds m x=m x
 | [],_,_=>rfl
 | (n,v) :: r,m,h=>by
  unfold bindL
  rw [JL λw hw=>h w (List.mem_cons_of_mem _ hw)]
  split
  ·have:x≠n:=by rintro rfl;exact h v List.mem_cons_self
   simp [this]
  ·rfl
theorem zae {kindOf:Str->Option NameKind} {x:Str}:∀ {binds:List (Str×Value)} {m:Str->Option Value},(∀ v,(x,v)∉binds)->bindC kindOf binds m x=m x
 | [],_,_=>rfl
 | (n,v) :: r,m,h=>by
  unfold bindC
  rw [zae λw hw=>h w (List.mem_cons_of_mem _ hw)]
  split
  ·rfl
  ·have:x≠n:=by rintro rfl;exact h v List.mem_cons_self
   simp [this]
theorem JN {kindOf:Str->Option NameKind} {x:Str} {v:Value}:∀ {P:List Str} {vs:List Value} {i:Nat} {m:Str->Option Value},P.Nodup->P[i]?=some x->vs[i]?=some v->kindOf x=some .local ->
  bindL kindOf (P.zip vs) m x=some v
 | [],_,_,_,_,h,_,_=>by simp at h
 | _ :: _,[],_,_,_,_,h,_=>by simp at h
 | p :: P,w :: vs,0,m,nd,h1,h2,hk=>by
  simp at h1 h2;subst h1;subst h2
  show bindL kindOf ((p,w) :: P.zip vs) m p=_
  unfold bindL
  rw [JL λv hv=>(List.nodup_cons.mp nd).1 (List.of_mem_zip hv).1,if_pos hk]
  simp
 | p :: P,w :: vs,i+1,m,nd,h1,h2,hk=>by
  show bindL kindOf ((p,w) :: P.zip vs) m x=_
  unfold bindL
  exact JN (i:=i) (List.nodup_cons.mp nd).2 (by simpa using h1) (by simpa using h2) hk
theorem J1 {kindOf:Str->Option NameKind} {x:Str} {v:Value}:∀ {P:List Str} {vs:List Value} {i:Nat} {m:Str->Option Value},P.Nodup->P[i]?=some x->vs[i]?=some v->kindOf x≠some .local ->
  bindC kindOf (P.zip vs) m x=some v
 | [],_,_,_,_,h,_,_=>by simp at h
 | _ :: _,[],_,_,_,_,h,_=>by simp at h
 | p :: P,w :: vs,0,m,nd,h1,h2,hk=>by
  simp at h1 h2;subst h1;subst h2
  show bindC kindOf ((p,w) :: P.zip vs) m p=_
  unfold bindC
  rw [zae λv hv=>(List.nodup_cons.mp nd).1 (List.of_mem_zip hv).1,if_neg hk]
  simp
 | p :: P,w :: vs,i+1,m,nd,h1,h2,hk=>by
  show bindC kindOf ((p,w) :: P.zip vs) m x=_
  unfold bindC
  exact J1 (i:=i) (List.nodup_cons.mp nd).2 (by simpa using h1) (by simpa using h2) hk
def start (N:List Str) (vs:List V):St:=vs.map some++List.replicate (N.length-vs.length) none
def Xv (CX:CXT) (P:Program) (w:World) (K:W.Frag) (mg:Str->Option Value) (base:Heap) (N:List Str) (qual:Str) (scope:Scope) (f:Addr) (cd:Value) (A:Around) (outer:List Env) (s:Shared) (H:Hp) (E:XK):Cx where
 prog:=P
 w:=w
 K:=K
 mg:=mg
 base:=base
 A:=A.deeper (envOfC qual scope s.heap.objs.size f cd)
 N:=N
 s₀:=s
 H₀:=H
 env:=envOfC qual scope s.heap.objs.size f cd
 outer:=outer
 stack:=envOfC qual scope s.heap.objs.size f cd :: outer
 ex:=[]
 calm:=true
 fn:=λ_=>true
 pn:=[]
 xe:=λe s'=>wpAny (model P w) (A.deeper (envOfC qual scope s.heap.objs.size f cd)) (leaving (envOfC qual scope s.heap.objs.size f cd) e) (λ_ s''=>CX outer H s E e s'') (λe' s''=>CX outer H s E e' s'') s'
theorem zaX {sc:Scope} {n:Nat} {x:Str} (h:sc.names.lookup x=some .cell):∃ c,(cellsFrom n sc.names []).lookup x=some c:=by
 have q:=W.cellsFrom_some sc.names n [] (.inl h)
 exact Option.isSome_iff_exists.mp q
theorem JQ {CX:CXT} {P:Program} {w:World} {K:W.Frag} {mg:Str->Option Value} {base:Heap} {N ps:List Str} {qual:Str} {scope:Scope} {f:Addr} {cd:Value} {A:Around} {outer:List Env} {s s1:Shared} {H:Hp} {E:XK} {us:List Value} {vs:List V}
  (S:zB N ps scope) (hd:A.handled=none) (e0:Env0 P w K mg base A outer s H) (hl:vs.length=ps.length) (r:Vals vs us)
  (x:InCallC s s.heap.objs.size (bindL (envOfC qual scope s.heap.objs.size f cd).kindOf (ps.zip us) λ_=>none) (cellsFrom (s.heap.objs.size+1) scope.names []) (bindC (envOfC qual scope s.heap.objs.size f cd).kindOf (ps.zip us) λ_=>none) s1) :
  Inv (Xv CX P w K mg base N qual scope f cd A outer s H E) [] (start N vs) H s1:=by
 have hpl:ps.length<=N.length:=by have:=congrArg List.length S.pre;rw [List.length_take] at this;omega
 obtain⟨h1,tk,rfl,hk⟩:=x.done
 have noA:∀ b:Addr,b∉(Xv CX P w K mg base N qual scope f cd A outer s H E).ex:=λb z=>absurd (show b∈([]:List Addr) from z) (by simp)
 refine⟨⟨e0.mod,S.kind,rfl,rfl,Nat.le_refl _,λy z c h1 h2=>?_,λy hy=>?_,λy c _ h=>?_,λ_=>hd,Around.frames_deeper e0.frames,.inr ⟨rfl,rfl⟩,λb z=>absurd z (noA b),e0.bs,e0.bsz,λb _ _=>noA b,λb z=>absurd z (noA b),e0.funs,e0.frf⟩,
  rfl,e0.bare,Un.kept hk,⟨_,x.toInCall.ns,λi y v h1 h2 h3=>?_⟩,λy c h=>⟨_,x.cell y c h⟩,e0.hok.fresh (Nat.le_refl _),λy c h=>?_,λp hp=>absurd (show p∈([]:List (Addr×Obj)) from hp) (by simp),e0.hok.kept hk,?_⟩
 ·exact name_of_addr x.apart (PySem.mem_of_lookup h1) (PySem.mem_of_lookup h2)
 ·have hy:scope.names.lookup y=some .cell\/scope.names.lookup y=some .free:=hy
  rcases hy with hy | hy
  ·exact zaX hy
  ·exact absurd rfl (S.nofree _ (PySem.mem_of_lookup hy))
 ·exact Nat.le_of_lt (x.above y c (PySem.mem_of_lookup h))
 ·have hi:i<vs.length:=by
   unfold start at h2
   by_cases hi:i<vs.length
   ·exact hi
   ·rw [List.getElem?_append_right (by simpa using hi)] at h2
    rw [List.getElem?_replicate] at h2
    split at h2<;>cases h2
  have ha:vs[i]?=some v:=by
   unfold start at h2
   rw [List.getElem?_append_left (by simpa using hi),List.getElem?_map] at h2
   cases e:vs[i]? with
   | none=>rw [e] at h2;cases h2
   | some a=>rw [e] at h2;cases h2;rfl
  obtain⟨u,hu,rv⟩:=r.get ha
  have hp:ps[i]?=some y:=by
   rw [<- S.pre,List.getElem?_take_of_lt (by omega)];exact h1
  have ndP:ps.Nodup:=by rw [<- S.pre];exact S.nd.sublist (List.take_sublist _ _)
  refine⟨u,rv,?_⟩
  rcases S.par y (List.mem_of_getElem? hp) with k | k
  ·exact .inl ⟨k,JN ndP hp hu k⟩
  ·obtain⟨c,e⟩:=zaX (n:=s.heap.objs.size+1) k
   refine .inr ⟨.inl k,c,e,?_⟩
   have q:=x.cell y c e
   rw [J1 ndP hp hu (by show scope.names.lookup y≠_;rw [k];decide)] at q
   exact q
 ·exact e0.hok.fresh (Nat.le_of_lt (x.above y c (PySem.mem_of_lookup h)))
 ·unfold start
  show _=N.length
  rw [List.length_append,List.length_map,List.length_replicate]
  omega
theorem zdY {CX:CXT} {P:Program} {w:World} {K:W.Frag} {mg:Str->Option Value} {base:Heap} {k:Nat} {f:Addr} {name qual:Str} {params:Arguments} {body:List Stmt} {scope:Scope} {dV kV doc pm cdv ct oc:Value} {an od:Option Addr}
  {osl:Array (Option Value)} {N ps:List Str} {sp:Sp} (lk:K.lookup f=some ⟨oc,od,.func (W.fnOf name qual params body scope dV kV doc pm an cdv ct),osl⟩) (hcd:W.codeIn K cdv qual=true) (S:zB N ps scope)
  (len:∀ vs H Q E,sp vs H Q E->vs.length=ps.length)
  (hbody:∀ (A:Around) (outer:List Env) (s:Shared) (H:Hp) (vs:List V) (Q:VK) (E:XK),Room k (A.deeper (envOfC qual scope s.heap.objs.size f cdv))->sp vs H Q E ->
   ∃ t,PSs (Xv CX P w K mg base N qual scope f cdv A outer s H E) body t/\t { nx:=λ_ H'=>Q .non H',rt:=Q } (start N vs) H) :
  FnOk P w K mg base CX (k+1) f (W.fnOf name qual params body scope dV kV doc pm an cdv ct) ps sp:=by
 refine⟨len,λA outer s H args us vs Q E hr e0 hb r hsp=>?_⟩
 have hl:=len _ _ _ _ hsp
 have KX:K.In s.heap:=e0.mod.kin.keeps λb o e=>(e0.bs b o e).1
 have lim:s.heap.NoLimit:=e0.mod.nolimit.keeps λb o e=>(e0.bs b o e).1
 have hkind:∀ y∈ps.zip us,scope.names.lookup y.1=some .local\/(scope.names.lookup y.1=some .cell/\((cellsFrom (s.heap.objs.size+1) scope.names []).lookup y.1).isSome=true):=λ⟨n,v⟩ hy=>by
  rcases S.par n (List.of_mem_zip hy).1 with q | q
  ·exact .inl q
  ·exact .inr ⟨q,W.cellsFrom_some _ _ _ (.inl q)⟩
 refine codeAny_call_function hr.depth (KX _ _ lk) rfl S.co S.gen rfl (W.codeRec_of KX hcd) (hb _ _ _ _ ?_)
 refine wpAny_newFunctionEnv_cells S.kind hkind λenv he s1 x=>?_
 subst he
 refine⟨lim.keeps x.toInCall.keep,codeAny_func ?_⟩
 obtain⟨t,ht,hq⟩:=hbody A outer s H vs Q E (hr.deeper _) hsp
 have I:Inv (Xv CX P w K mg base N qual scope f cdv A outer s H E) [] (start N vs) H s1:=JQ S hr.hd e0 hl r x
 refine wpAny_mono (ht [] s1 (start N vs) H _ I hq) (λfl s' hs=>?_) λe s' hs=>hs
 have fin:∀ {σ':St} {H':Hp} {v:V} {u:Value},Inv (Xv CX P w K mg base N qual scope f cdv A outer s H E) [] σ' H' s'->RelV v u->Q v H'->CE outer P w H s Q u s' :=
  λ{σ' H' v u} J rv q=>⟨v,H',J.os,J.bare,J.base,J.hok,rv,q⟩
 cases fl with
 | ret u =>
  obtain⟨v,σ',H',J,rv,q⟩:=hs
  exact fin J rv q
 | next =>
  obtain⟨σ',H',J,q⟩:=hs
  exact fin (v:=V.non) (u:=Value.none) J rfl q
 | brk =>
  obtain⟨_,_,_,q⟩:=hs
  exact False.elim q
 | cont =>
  obtain⟨_,_,_,q⟩:=hs
  exact False.elim q
section
variable {X:Cx} {x:Str} {p pos:Pos} {e:Expr} {es:List Expr} {t:TA} {id T:String} {r:List V->Hp->VK->Prop}
def tCB (r:List V->Hp->VK->Prop) (t:TA):TE:=fun σ H Q=>t σ H λvs H1=>r vs H1 Q
theorem zA (hc:vB X (.builtin id) r) (hg:Gl X x) (hm:X.mg x=none) (hv:bootBuiltins x=some (.builtin id)) (ha:PA X (e :: es) t) (hn:x ≠ "__name__":=by decide) (hdb:(x == ("__debug__" : Str))=false:=by decide)
  (he:starEach (e :: es) X.env=(false,eval e X.env) :: starEach es X.env:=by rfl) (hpl:(backTo pos (starEach es X.env)).any (·.1)=false:=by rfl):PE X (.Call (.Name x p) (e :: es) [] pos) (tCB r t):=by
 intro pins s σ H Q I h
 refine wpAny_Call_Name_kw (Zk I hg hm hv ?_ hn hdb)
 exact PyProof.Rows.callWith_builtin1 (thn (ha pos pins s σ H _ I h) λus s1 ⟨vs,H1,I1,r1,q1⟩=>hc pins s1 σ H1 vs us Q I1 r1 q1) he hpl
theorem wG (hc:vB X (.type T) r) (hg:Gl X x) (hm:X.mg x=none) (hv:bootBuiltins x=some (.type T)) (ha:PA X (e :: es) t) (hn:x ≠ "__name__":=by decide) (hdb:(x == ("__debug__" : Str))=false:=by decide)
  (he:starEach (e :: es) X.env=(false,eval e X.env) :: starEach es X.env:=by rfl) (hpl:(backTo pos (starEach es X.env)).any (·.1)=false:=by rfl):PE X (.Call (.Name x p) (e :: es) [] pos) (tCB r t):=by
 intro pins s σ H Q I h
 refine wpAny_Call_Name_kw (Zk I hg hm hv ?_ hn hdb)
 exact PyProof.Rows.callWith_type1 (thn (ha pos pins s σ H _ I h) λus s1 ⟨vs,H1,I1,r1,q1⟩=>hc pins s1 σ H1 vs us Q I1 r1 q1) he hpl
end
end L2
namespace HT
open PySem PyProof.Rows
def lexLt:List Int->List Int->Bool
 | [],[]=>false
 | [],_ :: _=>true
 | _ :: _,[]=>false
 | x :: xs,y :: ys=>if x=y then lexLt xs ys else decide (x<y)
theorem uQ (x y:Int) (xs ys:List Int):lexLt (x :: xs) (y :: ys)=if x=y then lexLt xs ys else decide (x<y):=rfl
theorem XC:lexLt [] []=false:=rfl
theorem Qu (y:Int) (ys:List Int):lexLt [] (y :: ys)=true:=rfl
theorem ut (x:Int) (xs:List Int):lexLt (x :: xs) []=false:=rfl
theorem zeH (A:Around) (s:Shared) (a:Int) (t:Tok) (c:Int) (u:Tok):∃ e,SeqAt.EqAt A s (.int a t) (.int c u) e/\(e=true↔a=c) :=
 ⟨(a == c),SeqAt.EqAt.int_int a t c u,by simp⟩
theorem zbf (A:Around) (s:Shared) (a:Int) (t:Tok) (c:Int) (u:Tok) (prog:Program) (w:World) (E:Value->Shared->Prop) (Q:Value->Shared->Prop) (h:Q (.bool (decide (a<c))) s) :
  wpAny (model prog w) A (richCompare .Lt (.int a t) (.int c u)) Q E s :=
 (PyProof.Rows.lt_int h:wpAny (model prog w) A (compareOp .Lt (.int a t) (.int c u)) Q E s)
section
open PySem.SeqAt
open PySem.AutoSeq1 (wpAny_loadPart')
open PySem.MeetsSeq PySem.MeetsSeq2 PySem.MeetsSeq3
end
section
variable {prog:Program} {w:World} {A:Around} {E:Value->Shared->Prop} {s:Shared}
def sIx (n d:Nat):Option Int->Nat
 | none=>d
 | some v=>if v<0 then (v+(n:Int)).toNat else min v.toNat n
theorem QS (n d:Nat):sIx n d none=d:=rfl
theorem Wu (n d k:Nat):sIx n d (some (k:Int))=min k n:=by
 show (if (k:Int)<0 then ((k:Int)+(n:Int)).toNat else min (k:Int).toNat n)=min k n
 rw [if_neg (by omega),Int.toNat_natCast]
end
end HT
namespace L2
open PySem PySem.Spec PyProof.Rows
abbrev TO:=St->Hp->(Option Int->Hp->Prop)->Prop
def PO (X:Cx) (e:Option Expr) (t:TO):Prop :=
 ∀ (pins:List (Addr×Obj)) (s:Shared) (σ:St) (H:Hp) (Q:Option Int->Hp->Prop),Inv X pins σ H s->t σ H Q ->
  wpAny (model X.prog X.w) X.A (evalPart e X.env) (λu s'=>∃ o H',Inv X pins σ H' s'/\IsPart u o/\Q o H') X.xe s
def zat:TO:=λ_ H Q=>Q none H
def zeN (t:TE):TO:=fun σ H Q=>t σ H λx H1=>∃ i,x=.int i/\Q (some i) H1
theorem intsAre_of {ns:List Int}:∀ {us:List Value},Vals (ns.map V.int) us->IntsAre us ns:=by
 induction ns with
 | nil=>intro us r;rw [List.map_nil] at r;cases r;exact .nil
 | cons n ns ih =>
  intro us r
  rw [List.map_cons] at r
  cases r with
  | cons r1 r2 =>
   obtain⟨t,e⟩:=r1
   subst e
   exact .cons n t (ih r2)
section
variable {X:Cx} {e:Expr} {te:TE} {lo hi:Option Expr} {tl th:TO} {pos p2:Pos}
theorem tG:PO X none zat:=by
 intro pins s σ H Q I h
 rw [evalPart_none]
 exact wpAny_pure ⟨none,H,I,.none,h⟩
theorem vV (h:PE X e te):PO X (some e) (zeN te):=by
 intro pins s σ H Q I hw
 rw [evalPart_some]
 refine thn (h pins s σ H _ I hw) λu s1 ⟨x,H1,I1,r1,q1⟩=>?_
 obtain⟨i,rfl,q⟩:=q1
 obtain⟨t,rfl⟩:=r1
 exact⟨some i,H1,I1,.int i t,q⟩
def SlR (X:Cx) (r:V->Option Int->Option Int->Hp->VK->Prop):Prop :=
 ∀ (pins:List (Addr×Obj)) (s:Shared) (σ:St) (H:Hp) (x:V) (v vl vu:Value) (lo hi:Option Int) (sl:Addr) (Q:VK),Inv X pins σ H s->RelV x v->s.heap.IsSliceOf sl vl vu .none->IsPart vl lo->IsPart vu hi->r x lo hi H Q ->
  ∃ T id,typeLookup (.type T) "__getitem__" = pure (some (.builtin id))/\s.TypeIs v T/\wpAny (model X.prog X.w) X.A (getItem v (.ref sl)) (EP X pins σ Q) X.xe s
def tSl (r:V->Option Int->Option Int->Hp->VK->Prop) (te:TE) (tl th:TO):TE:=fun σ H Q=>te σ H λx H1=>tl σ H1 λl H2=>th σ H2 λu H3=>r x l u H3 Q
theorem wV {r:V->Option Int->Option Int->Hp->VK->Prop} (hr:SlR X r) (he:PE X e te) (hl:PO X lo tl) (hu:PO X hi th):PE X (.Subscript e (.Slice lo hi none p2) pos) (tSl r te tl th):=by
 intro pins s σ H Q I h
 refine Subscript_ (thn (he pins s σ H _ I h) λv s1 ⟨x,H1,I1,r1,q1⟩=>?_)
 refine wpAny_Slice (thn (hl pins s1 σ H1 _ I1 q1) λvl s2 ⟨l,H2,I2,pl,q2⟩=>thn (hu pins s2 σ H2 _ I2 q2) λvu s3 ⟨u,H3,I3,pu,q3⟩=>?_)
 rw [evalPart_none]
 refine wpAny_pure ?_
 have I4:Inv X pins σ H3 { s3 with heap:=s3.heap.push { cls:=.type "slice",data:=.fields #[vl,vu,.none] } }:=I3.kept (t':=s3.toks) λb ob q=>Heap.get?_push_of_some _ q
 obtain⟨T,id,hT,ht,hg⟩:=hr pins { s3 with heap:=s3.heap.push { cls:=.type "slice",data:=.fields #[vl,vu,.none] } } σ H3 x v vl vu l u s3.heap.objs.size Q I4 r1 (Heap.IsSliceOf.new ..) pl pu q3
 show wpAny (model X.prog X.w) X.A (subscriptTail e (.Slice lo hi none p2) v (.ref s3.heap.objs.size)) (EP X pins σ Q) X.xe { s3 with heap:=s3.heap.push { cls:=.type "slice",data:=.fields #[vl,vu,.none] } }
 exact tail_any (ops:=[.ref s3.heap.objs.size,v]) ht hT hg (by with_unfolding_all rfl)
def ju (xs:List V) (lo hi:Option Int):List V:=(xs.drop (HT.sIx xs.length 0 lo)).take (HT.sIx xs.length xs.length hi-HT.sIx xs.length 0 lo)
theorem za8 (xs:List V) (lo hi:Option Int):(ju xs lo hi).length<=xs.length:=by
 unfold ju
 rw [List.length_take,List.length_drop]
 omega
end
def ixN (n:Nat) (i:Int):Option Nat:=if 0<=i then (if i<n then some i.toNat else none) else if -(n:Int)<=i then some (i+n).toNat else none
def atI {α:Type} (xs:List α) (i:Int):Option α:=(ixN xs.length i).bind λj=>xs[j]?
theorem zcx {n:Nat} {i:Int} {j:Nat} (h:ixN n i=some j):seqIndex? i n=some j/\j<n/\-(n:Int)<=i/\i<n:=by
 unfold ixN at h
 by_cases h0:0<=i
 ·rw [if_pos h0] at h
  by_cases h1:i<n
  ·rw [if_pos h1] at h
   have e:i.toNat=j:=Option.some.inj h
   exact⟨by rw [seqIndex_of h0 h1,e],by omega,by omega,h1⟩
  ·rw [if_neg h1] at h;cases h
 ·rw [if_neg h0] at h
  by_cases h1:-(n:Int)<=i
  ·rw [if_pos h1] at h
   have e:(i+n).toNat=j:=Option.some.inj h
   exact⟨by rw [seqIndex_neg (by omega) h1,e],by omega,h1,by omega⟩
  ·rw [if_neg h1] at h;cases h
theorem zcz {α:Type} {xs:List α} {i:Int} {v:α} (h:atI xs i=some v):∃ j,seqIndex? i xs.length=some j/\xs[j]?=some v/\j<xs.length/\-(xs.length:Int)<=i/\i<xs.length:=by
 unfold atI at h
 cases e:ixN xs.length i with
 | none=>rw [e] at h;cases h
 | some j =>
  rw [e] at h
  obtain⟨h1,h2,h3,h4⟩:=zcx e
  exact⟨j,h1,h,h2,h3,h4⟩
theorem vf {α:Type} {xs:List α} {j:Nat} {v:α} (h:xs[j]?=some v):atI xs (j:Int)=some v:=by
 have hj:j<xs.length:=(List.getElem?_eq_some_iff.mp h).1
 have e:ixN xs.length (j:Int)=some j:=by
  unfold ixN
  rw [if_pos (by omega),if_pos (by omega)];simp
 unfold atI;rw [e];exact h
theorem zei {α:Type} (xs:List α) (v:α):atI (xs++[v]) (-1)=some v:=by
 have hl:(xs++[v]).length=xs.length+1:=by simp
 have e:ixN (xs++[v]).length (-1)=some xs.length:=by
  unfold ixN
  rw [hl,if_neg (by decide),if_pos (by omega)]
  congr 1
  omega
 unfold atI
 rw [e]
 show (xs++[v])[xs.length]?=some v
 simp
def zcD (b:Expr):Prop:=∀ o i,subscripted b false o i=operate [o,i] (getItem o i)
def IxR (X:Cx) (r:R2):Prop :=
 ∀ (value slice:Expr) (pins:List (Addr×Obj)) (s:Shared) (σ:St) (H:Hp) (x y:V) (v u:Value) (Q:VK),Inv X pins σ H s->RelV x v->RelV y u->r x y H Q ->
  subscripted slice false v u=operate [v,u] (getItem v u)->wpAny (model X.prog X.w) X.A (subscriptTail value slice v u) (EP X pins σ Q) X.xe s
def MtR (X:Cx) (id:String) (r:V->List V->Hp->VK->Prop):Prop :=
 ∀ (pins:List (Addr×Obj)) (s:Shared) (σ:St) (H:Hp) (x:V) (xs:List V) (v:Value) (us:List Value) (Q:VK),Inv X pins σ H s->RelV x v->Vals xs us->r x xs H Q ->
  wpAny (model X.prog X.w) X.A (call (.builtin id) (v :: us)) (EP X pins σ Q) X.xe s
section
variable {X:Cx} {a b:Expr} {ta tb:TE} {pos:Pos}
theorem zW {r:R2} (hr:IxR X r) (ha:PE X a ta) (hb:PE X b tb) (hs:zcD b):PE X (.Subscript a b pos) (tOp r ta tb):=by
 intro pins s σ H Q I h
 exact Subscript_ (zfO ha hb I h λv u s2 x y H2 I2 rx ry q=>hr a b pins s2 σ H2 x y v u Q I2 rx ry q (hs _ _))
def zf7 (K:W.Frag):R2:=λx y H Q=>∃ p xs i v,x=.ref p/\y=.int i/\SqL K H p xs/\atI xs i=some v/\Q v H
def zgY (K:W.Frag):R2:=λx y H Q=>∃ p xs i v,x=.ref p/\y=.int i/\SqT K H p xs/\atI xs i=some v/\Q v H
theorem zeP:IxR X (zf7 X.K):=by
 intro value slice pins s σ H x y v u Q I rx ry h hs
 obtain⟨p,xs,i,z,rfl,rfl,hq,he,q⟩:=h
 cases rx
 obtain⟨t,rfl⟩:=ry
 obtain⟨its,r,pl,hz⟩:=I.list hq
 obtain⟨j,h1,h2,h3,h4,h5⟩:=zcz he
 obtain⟨w,ew,rw'⟩:=r.get h2
 have hl:=r.length
 have hn:=zaI
 have fin:EP X pins σ Q w s:=⟨z,H,I,rw',q⟩
 by_cases h0:0<=i
 ·have hj:i.toNat=j:=by
   rw [seqIndex_of h0 h5] at h1
   exact Option.some.inj h1
  exact item_listR pl.isList h0 (by omega) (by rw [hj];simpa using ew) fin hs
 ·have hj:(i+(its.toArray.size:Int)).toNat=j:=by
   rw [seqIndex_neg (by omega) h4] at h1
   rw [List.size_toArray,<- hl]
   exact Option.some.inj h1
  exact subscriptTail_builtinR (x:=w) pl.isList.typeIs slot_list_getitem.lookup
   (wpAny_getItem_list_neg (Q:=λr s'=>r=w/\EP X pins σ Q r s') pl.isList (by omega) (by rw [List.size_toArray]<;>omega) (by omega) (by rw [hj];simpa using ew) ⟨rfl,fin⟩) hs
theorem zf6:IxR X (zgY X.K):=by
 intro value slice pins s σ H x y v u Q I rx ry h hs
 obtain⟨p,xs,i,z,rfl,rfl,hq,he,q⟩:=h
 cases rx
 obtain⟨t,rfl⟩:=ry
 obtain⟨its,r,pl,hz⟩:=I.tuple hq
 obtain⟨j,h1,h2,h3,h4,h5⟩:=zcz he
 obtain⟨w,ew,rw'⟩:=r.get h2
 have hl:=r.length
 have hn:=zaI
 have fin:EP X pins σ Q w s:=⟨z,H,I,rw',q⟩
 exact subscriptTail_builtinR (x:=w) pl.typeIs slot_tuple_getitem.lookup
  (getItem_tuple (j:=j) (Q:=λr s'=>r=w/\EP X pins σ Q r s') pl (by omega) (by omega) (by rw [List.size_toArray,<- hl];exact h1) (by simpa using ew) ⟨rfl,fin⟩) hs
theorem zch (its:List Value) (n j:Nat) (u:Value):Obj.mapSeq (·.setIfInBounds j u) { cls:=.type "list",data:=.seq its.toArray n }={ cls:=.type "list",data:=.seq (its.set j u).toArray n }:=by
 simp [Obj.mapSeq]
theorem Inv.lst {pins:List (Addr×Obj)} {σ:St} {H:Hp} {s:Shared} {p:Addr} {xs:List V} (I:Inv X pins σ H s) (h:H p=some (.lst xs)) :
  ∃ (its:List Value) (n:Nat),Vals xs its/\s.heap.get? p=some { cls:=.type "list",data:=.seq its.toArray n }/\xs.length<=sizeLine:=by
 obtain⟨z,its,n,r,e⟩:=I.hok p _ h
 exact⟨its,n,r,e,z⟩
theorem Inv.lstUpd {pins:List (Addr×Obj)} {σ:St} {H:Hp} {s:Shared} {p:Addr} {xs ys:List V} {its its':List Value} {n n':Nat} {f:Obj->Obj} (I:Inv X pins σ H s) (h:H p=some (.lst xs))
  (ho:s.heap.get? p=some { cls:=.type "list",data:=.seq its.toArray n }) (hf:f { cls:=.type "list",data:=.seq its.toArray n }={ cls:=.type "list",data:=.seq its'.toArray n' }) (r:Vals ys its') (hz:ys.length<=sizeLine) (t:Nat) :
  Inv X pins σ (upd H p (.lst ys)) { s with heap:=s.heap.update p f,toks:=t }:=by
 have e:(s.heap.update p f).get? p=some { cls:=.type "list",data:=.seq its'.toArray n' }:=by
  rw [Heap.get?_update_self f ho (by rw [hf]<;>rfl),hf]
 refine I.write (x:=p) (e:=p) (by rw [h];trivial) (.inl rfl) (λb u hb q=>(Heap.get?_update_other _ _ (Ne.symm hb)).trans q) ⟨_,e⟩ ?_
 exact⟨hz,its',n',r,e⟩
def zgW:V->V->V->Hp->(Hp->Prop)->Prop:=λo i v H Q=>∃ p xs k j,o=.ref p/\i=.int k/\H p=some (.lst xs)/\ixN xs.length k=some j/\Q (upd H p (.lst (xs.set j v)))
theorem set_list:zgu X zgW:=by
 intro pins s σ H o i v ov iv u Q I ro ri rv h
 obtain⟨p,xs,k,j,rfl,rfl,hp,hj,q⟩:=h
 cases ro
 obtain⟨t,rfl⟩:=ri
 obtain⟨its,n,r,ho,hz⟩:=I.lst hp
 obtain⟨h1,h2,h3,h4⟩:=zcx hj
 have hl:=r.length
 have hn:=zaI
 have I':Inv X pins σ (upd H p (.lst (xs.set j v))) { s with heap:=s.heap.update p (Obj.mapSeq (·.setIfInBounds j u)) } :=
  I.lstUpd hp ho (zch its n j u) (r.set rv j) (by rw [List.length_set];exact hz) s.toks
 by_cases h0:0<=k
 ·have hk:k.toNat=j:=by
   rw [seqIndex_of h0 h4] at h1
   exact Option.some.inj h1
  exact W.ki_setAt ho h0 (by omega) (by rw [List.size_toArray,<- hl];exact h4) (by rw [hk];exact⟨_,I',q⟩)
 ·have hk:(k+(its.toArray.size:Int)).toNat=j:=by
   rw [seqIndex_neg (by omega) h3] at h1
   rw [List.size_toArray,<- hl]
   exact Option.some.inj h1
  exact W.ki_setBack ho (by omega) (by rw [List.size_toArray,<- hl];exact h3) (by omega) (by rw [hk];exact⟨_,I',q⟩)
theorem zah (lo hi:Option Int) (n:Nat):(sliceBounds lo hi none n).1=((HT.sIx n 0 lo:Nat):Int)/\(sliceBounds lo hi none n).2.1=((HT.sIx n n hi:Nat):Int)/\(sliceBounds lo hi none n).2.2=1:=by
 refine⟨?_,?_,rfl⟩
 ·cases lo with
  | none=>simp [sliceBounds,HT.sIx]
  | some i =>
   simp only [sliceBounds,HT.sIx,Option.getD_none,show (1:Int)>0 by decide,if_true]
   by_cases h:i<0
   ·simp only [h,if_true]<;>omega
   ·simp only [h,if_false]<;>omega
 ·cases hi with
  | none=>simp [sliceBounds,HT.sIx]
  | some i =>
   simp only [sliceBounds,HT.sIx,Option.getD_none,show (1:Int)>0 by decide,if_true]
   by_cases h:i<0
   ·simp only [h,if_true]<;>omega
   ·simp only [h,if_false]<;>omega
theorem Jg (its:List Value) (lo hi:Option Int):slicePick its.toArray lo hi none=((its.drop (HT.sIx its.length 0 lo)).take (HT.sIx its.length its.length hi-HT.sIx its.length 0 lo)).toArray:=by
 obtain⟨h1,h2,h3⟩:=zah lo hi its.toArray.size
 unfold slicePick
 rw [h1,h2,h3]
 simp only [sliceRange_one,pick_run,List.size_toArray]<;>rfl
def zeS (K:W.Frag):V->Option Int->Option Int->Hp->VK->Prop:=λx lo hi H Q=>∃ a xs,x=.ref a/\SqL K H a xs/\∀ p,H p=none->Q (.ref p) (upd H p (.lst (ju xs lo hi)))
theorem zff:SlR X (zeS X.K):=by
 intro pins s σ H x v vl vu lo hi sl Q I rx hs pl pu h
 obtain⟨a,xs,rfl,hx,q⟩:=h
 cases rx
 obtain⟨its,r,ht,hz⟩:=I.list hx
 have hlen:=r.length
 refine⟨"list",_,slot_list_getitem.lookup,ht.isList.typeIs,?_⟩
 refine wpAny_getItem_list_slice ht.isList hs pl pu .none (by simp) ?_ (by rw [List.size_toArray]<;>omega)
 rw [Jg,<- hlen]
 refine⟨.ref s.heap.objs.size,_,I.laid (t':=s.toks) (o:=.lst (ju xs lo hi)) (λb ob q=>Heap.get?_push_of_some _ q) (Nat.le_refl _) ?_,rfl,q _ (I.hok.fresh (Nat.le_refl _))⟩
 exact⟨Nat.le_trans (za8 xs lo hi) hz,_,0,(r.drop (HT.sIx xs.length 0 lo)).take (HT.sIx xs.length xs.length hi-HT.sIx xs.length 0 lo),Heap.get?_push_size _ rfl⟩
theorem zaJ:vB X (.builtin "len") (λxs H Q=>∃ p ys,xs=[.ref p]/\(SqL X.K H p ys\/SqT X.K H p ys)/\Q (.int ys.length) H):=by
 intro pins s σ H xs us Q I r h
 obtain⟨p,ys,rfl,hq,q⟩:=h
 obtain⟨u,rfl,rx⟩:=vals1 r
 cases rx
 have hn:=zaI
 rcases hq with hq | hq
 ·obtain⟨its,r',pl,hz⟩:=I.list hq
  have hlen:=r'.length
  exact Calls.call_len_list pl.isList (by simp only [List.size_toArray]<;>omega) ⟨.int ys.length,H,I.tok _,⟨s.toks+1,by rw [List.size_toArray,hlen]⟩,q⟩
 ·obtain⟨its,r',pl,hz⟩:=I.tuple hq
  have hlen:=r'.length
  exact len_tuple pl (by simp only [List.size_toArray]<;>omega) ⟨.int ys.length,H,I.tok _,⟨s.toks+1,by rw [List.size_toArray,hlen]⟩,q⟩
theorem zaO:vB X (.type "list") (λxs H Q=>∃ p ys,xs=[.ref p]/\(SqL X.K H p ys\/SqT X.K H p ys)/\∀ l,H l=none->Q (.ref l) (upd H l (.lst ys))):=by
 intro pins s σ H xs us Q I r h
 obtain⟨p,ys,rfl,hq,q⟩:=h
 obtain⟨u,rfl,rx⟩:=vals1 r
 cases rx
 have fin:∀ (its:List Value),Vals ys its->ys.length<=sizeLine->∀ (h':Heap) (c':Nat),(∀ b o',s.heap.get? b=some o'->h'.get? b=some o') ->
   h'.get? s.heap.objs.size=some { cls:=.type "list",dict:=none,data:=.seq its.toArray c',slots:=#[] }->EP X pins σ Q (.ref s.heap.objs.size) { s with heap:=h' }:=λits r' hz h' c' kp e =>
  ⟨.ref s.heap.objs.size,_,I.laid (t':=s.toks) kp (Nat.le_refl _) (show ObjOk X.prog X.w _ h' _ (.lst ys) from ⟨hz,its,c',r',e⟩),rfl,q _ (I.hok.fresh (Nat.le_refl _))⟩
 rcases hq with hq | hq
 ·obtain⟨its,r',pl,hz⟩:=I.list hq
  have hlen:=r'.length
  obtain⟨o,ho,hc,n,hd⟩:=pl.isList
  exact call_list_seq p (.inl rfl) ho hc hd (λh' c' kp e=>fin its r' hz h' c' kp e) (by simp only [List.size_toArray]<;>omega)
 ·obtain⟨its,r',pl,hz⟩:=I.tuple hq
  have hlen:=r'.length
  obtain⟨o,ho,hc,n,hd⟩:=pl
  exact call_list_seq p (.inr rfl) ho hc hd (λh' c' kp e=>fin its r' hz h' c' kp e) (by simp only [List.size_toArray]<;>omega)
theorem XJ:vB X (.type "tuple") (λxs H Q=>∃ p ys,xs=[.ref p]/\((SqL X.K H p ys/\∀ l,H l=none->Q (.ref l) (upd H l (.tup ys)))\/(SqT X.K H p ys/\Q (.ref p) H))):=by
 intro pins s σ H xs us Q I r h
 obtain⟨p,ys,rfl,h⟩:=h
 obtain⟨u,rfl,rx⟩:=vals1 r
 cases rx
 rcases h with ⟨hq,q⟩ | ⟨hq,q⟩
 ·obtain⟨its,r',pl,hz⟩:=I.list hq
  have hlen:=r'.length
  refine call_tuple_list pl.isList (λh' kp=>?_) (by simp only [List.size_toArray]<;>omega)
  have I1:Inv X pins σ H { s with heap:=h' }:=I.kept (t':=s.toks) kp
  have I2:Inv X pins σ (upd H h'.objs.size (.tup ys)) { s with heap:=h'.push { cls:=.type "tuple",data:=.seq its.toArray } } :=
   I1.laid (t':=s.toks) (λb o e=>Heap.get?_push_of_some _ e) (Nat.le_refl _) (show ObjOk X.prog X.w _ _ _ (.tup ys) from ⟨hz,its,r',IsTup.new _ _⟩)
  exact⟨.ref h'.objs.size,_,I2,rfl,q _ (I1.hok.fresh (Nat.le_refl _))⟩
 ·obtain⟨its,r',pl,hz⟩:=I.tuple hq
  exact call_tuple_same pl ⟨.ref p,H,I,rfl,q⟩
def tyV (K:W.Frag) (T:String) (x:V) (H:Hp):Prop:=match x with
 | .str _=>T = "str"
 | .int _=>T = "int"
 | .ref p=>(T = "list"/\∃ xs,SqL K H p xs)\/(T = "tuple"/\∃ o,K.lookup p=some o/\o.cls=.type "tuple"/\o.dict=none) \/
   (T = "dict"/\((∃ kvs,H p=some (.dK kvs))\/∃ kvs,H p=some (.dT kvs)))\/(T = "set"/\∃ S n,H p=some (.set S n))
 | _=>False
theorem zgn {pins:List (Addr×Obj)} {σ:St} {H:Hp} {s:Shared} {T:String} {x:V} {v:Value} (I:Inv X pins σ H s) (r:RelV x v) (ty:tyV X.K T x H) :
  s.TypeIs v T/\∀ a,v=.ref a->∃ ob,s.heap.get? a=some ob/\ob.dict=none:=by
 cases x with
 | str z =>
  obtain⟨t,rfl⟩:=r
  cases (show T = "str" from ty)
  exact⟨typeIs_str s z t,λ_ e=>nomatch e⟩
 | int i =>
  obtain⟨t,rfl⟩:=r
  cases (show T = "int" from ty)
  exact⟨typeIs_int s i t,λ_ e=>nomatch e⟩
 | ref p =>
  cases r
  rcases ty with ⟨rfl,xs,hq⟩ | ⟨rfl,o,hk,hc,hd⟩ | ⟨rfl,hk⟩ | ⟨rfl,S,n,hk⟩
  ·obtain⟨its,_,pl,_⟩:=I.list hq
   refine⟨pl.isList.typeIs,λa e=>?_⟩
   cases e
   obtain⟨o,n,e,c,hd,_⟩:=pl
   exact⟨o,e,hd⟩
  ·refine⟨⟨o,I.kIn p o hk,hc⟩,λa e=>?_⟩
   cases e
   exact⟨o,I.kIn _ o hk,hd⟩
  ·have z:∃ o,s.heap.get? p=some o/\o.ExactDict:=by
    rcases hk with ⟨kvs,hk⟩ | ⟨kvs,hk⟩
    ·obtain⟨_,_,_,_,o,_,_,e,ex,_⟩:=I.hok p _ hk
     exact⟨o,e,ex⟩
    ·obtain⟨_,_,_,_,o,_,_,e,ex,_⟩:=I.hok p _ hk
     exact⟨o,e,ex⟩
   obtain⟨o,e,ex⟩:=z
   refine⟨⟨o,e,ex.1⟩,λa e2=>?_⟩
   cases e2
   exact⟨o,e,ex.2.1⟩
  ·obtain⟨o,_,_,_,e,ex,_⟩:=I.hok p _ hk
   refine⟨⟨o,e,ex.1⟩,λa e2=>?_⟩
   cases e2
   exact⟨o,e,ex.2.1⟩
 | _=>exact False.elim ty
def tBM (K:W.Frag) (T:String) (r:V->List V->Hp->VK->Prop) (to:TE) (t:TA):TE:=fun σ H Q=>to σ H λx H1=>tyV K T x H1/\t σ H1 λxs H2=>r x xs H2 Q
variable {o e:Expr} {es:List Expr} {to:TE} {t:TA} {name:Str} {apos cpos:Pos} {T id:String} {r:V->List V->Hp->VK->Prop}
theorem zcH (pa:PlainAttrs T) (slot:Slot T name id) (hty:typeOf (.builtin id)=pure (.type "method_descriptor")) (hm:MtR X id r) (ho:PE X o to) (ha:PA X (e :: es) t)
  (hbase:attributeBase o name X.env (eval o X.env)=eval o X.env:=by rfl)
  (hfew:((backTo cpos (starEach (e :: es) X.env)).all (λx=>!x.1) && (backToKw cpos (keywordEach [] X.env)).all (λx=>x.1.isSome)
   && decide ((e :: es).length+([]:List Keyword).length+(if ([]:List Keyword).isEmpty then 0 else 1)<30))=true:=by rfl)
  (hline:(apos.endLine == cpos.line)=true:=by rfl) (hs:starEach (e :: es) X.env=(false,eval e X.env) :: starEach es X.env:=by rfl) (hplain:(backTo cpos (starEach es X.env)).any (·.1)=false:=by rfl) :
  PE X (.Call (.Attribute o name apos) (e :: es) [] cpos) (tBM X.K T r to t):=by
 intro pins s σ H Q I h
 refine wpAny_Call_method_late hbase hfew hline rfl (thn (ho pins s σ H _ I h) λv s1 ⟨x,H1,I1,r1,ty,q1⟩=>?_)
 obtain⟨h1,h2⟩:=zgn I1 r1 ty
 refine⟨T,id,pa,slot,hty,h1,h2,?_⟩
 have hA:=ha cpos pins s1 σ H1 _ I1 q1
 rw [hs] at hA ⊢
 refine Calls.callWith_builtin (by show (false || (backTo cpos (starEach es X.env)).any (·.1))=false;rw [hplain]<;>rfl) (Calls.evalArgs_plain ?_)
 exact thn hA λus s2 ⟨vs,H2,I2,r2,q2⟩=>hm pins s2 σ H2 x vs v us Q I2 r1 r2 q2
end
def MtM (X:Cx) (id:String) (r:V->List V->Hp->VK->Prop):Prop :=
 ∀ (pins:List (Addr×Obj)) (s:Shared) (σ:St) (H:Hp) (x:V) (xs:List V) (v:Value) (us:List Value) (Q:VK),Inv X pins σ H s->RelV x v->Vals xs us->r x xs H Q ->
  wpAny (model X.prog X.w) X.A (call (.builtin id) (v :: us)) (EP X pins σ Q) X.xe s
theorem Vals.one:∀ {x:V} {us:List Value},Vals [x] us->∃ u,us=[u]/\RelV x u
 | _,_,.cons r .nil=>⟨_,rfl,r⟩
theorem Vals.zero:∀ {us:List Value},Vals [] us->us=[]
 | _,.nil=>rfl
theorem Vals.reverse {xs:List V} {us:List Value} (h:Vals xs us):Vals xs.reverse us.reverse:=by
 induction h with
 | nil=>exact .nil
 | cons r t ih=>rw [List.reverse_cons,List.reverse_cons];exact Vals.append ih (.cons r .nil)
theorem Vals.rep {xs:List V} {us:List Value} (h:Vals xs us):∀ k:Nat,Vals (List.replicate k xs).flatten (List.replicate k us).flatten
 | 0=>.nil
 | k+1=>by
  rw [List.replicate_succ,List.replicate_succ,List.flatten_cons,List.flatten_cons]
  exact Vals.append h (Vals.rep h k)
theorem foldl_rep (its:List Value):∀ (k:Nat) (acc:List Value),
  List.foldl (λx1 x2=>x1++x2) acc.toArray (List.replicate k its.toArray)=(acc++(List.replicate k its).flatten).toArray
 | 0,acc=>by simp
 | k+1,acc=>by
  have e:acc.toArray++its.toArray=(acc++its).toArray:=by simp
  have e2:(acc++its)++(List.replicate k its).flatten=acc++(List.replicate (k+1) its).flatten:=by
   rw [List.replicate_succ,List.flatten_cons,List.append_assoc]
  rw [<- e2,<- foldl_rep its k (acc++its),<- e,List.replicate_succ,List.foldl_cons]
section
variable {X:Cx} {pins:List (Addr×Obj)} {σ:St} {H:Hp} {s:Shared} {l b:Addr} {xs ys zs:List V}
theorem Inv.lset {its its':List Value} {n:Nat} {f:Array Value->Array Value} {t':Nat} (I:Inv X pins σ H s) (hH:H l=some (.lst xs))
  (e:s.heap.get? l=some { cls:=.type "list",data:=.seq its.toArray n }) (hf:f its.toArray=its'.toArray) (hv:Vals ys its') (hz:ys.length<=sizeLine) :
  Inv X pins σ (upd H l (.lst ys)) { s with heap:=s.heap.update l (Obj.mapSeq f),toks:=t' }:=by
 have q:=PySem.IsL.update e f
 rw [hf] at q
 refine I.write (x:=l) (e:=l) (by rw [hH];exact trivial) (.inl rfl) (λb' u hb hu=>(Heap.get?_update_other s.heap (Obj.mapSeq f) (Ne.symm hb)).trans hu) ⟨_,q⟩ ?_
 exact⟨hz,its',_,hv,q⟩
theorem Inv.lnew {its:List Value} {t':Nat} (I:Inv X pins σ H s) (hv:Vals ys its) (hz:ys.length<=sizeLine) :
  Inv X pins σ (upd H s.heap.objs.size (.lst ys)) { s with heap:=s.heap.push { cls:=.type "list",data:=.seq its.toArray },toks:=t' } :=
 I.laid (λ_ _ q=>Heap.get?_push_of_some _ q) (Nat.le_refl _) ⟨hz,its,0,hv,Heap.get?_push_size _ rfl⟩
theorem Inv.fresh (I:Inv X pins σ H s):H s.heap.objs.size=none:=I.hok.fresh (Nat.le_refl _)
theorem Inv.lstM (I:Inv X pins σ H s) (hH:H l=some (.lst xs)):xs.length<=sizeLine/\∃ (its:List Value) (n:Nat),Vals xs its/\xs.length=its.length/\s.heap.get? l=some { cls:=.type "list",data:=.seq its.toArray n }:=by
 obtain⟨z,its,n,r,e⟩:=I.hok l _ hH
 exact⟨z,its,n,r,r.length,e⟩
theorem zea {n:Nat} (h:n<=sizeLine):Builtin.List.listTooLong n=false:=by
 unfold Builtin.List.listTooLong
 exact decide_eq_false (by omega)
end
section
variable {X:Cx}
def zeW:V->List V->Hp->VK->Prop:=λx vs H Q=>∃ l xs y,x=.ref l/\vs=[y]/\H l=some (.lst xs)/\xs.length<sizeLine/\Q .non (upd H l (.lst (xs++[y])))
theorem VG:MtM X "list.append" zeW:=by
 intro pins s σ H x vs v us Q I rx rv h
 obtain⟨l,xs,y,rfl,rfl,hH,hz,q⟩:=h
 cases rx
 obtain⟨u,rfl,ru⟩:=rv.one
 obtain⟨z,its,n,r,hl,e⟩:=I.lstM hH
 refine call_meets F.slot_list_append ⟨_,e,rfl⟩ F.entry_list_append (F.args_list_append_2 _ _) (PySem.list_append l its.toArray n u (by rw [List.size_toArray];omega)) ⟨e,?_⟩
 refine⟨.non,_,I.lset (its':=its++[u]) hH e (by simp) (r.append (.cons ru .nil)) ?_,rfl,q⟩
 rw [List.length_append,List.length_singleton]
 omega
def zgX:R2:=λx y H Q=>∃ l b xs zs,x=.ref l/\y=.ref b/\H l=some (.lst xs)/\H b=some (.lst zs)/\xs.length+zs.length<=sizeLine/\∀ p,H p=none->Q (.ref p) (upd H p (.lst (xs++zs)))
theorem uG:OpR X (binaryOp .Add) zgX:=by
 intro pins s σ H x y v u Q I rx ry h
 obtain⟨l,b,xs,zs,rfl,rfl,hH,hB,hz,q⟩:=h
 cases rx
 cases ry
 obtain⟨z,its,n,r,hl,e⟩:=I.lstM hH
 obtain⟨z2,its2,n2,r2,hl2,e2⟩:=I.lstM hB
 refine PySem.P.add_list e e2 ?_ (by rw [List.size_toArray,List.size_toArray];omega)
 have ea:its.toArray++its2.toArray=(its++its2).toArray:=by simp
 rw [ea]
 exact⟨.ref _,_,I.lnew (t':=s.toks) (r.append r2) (by rw [List.length_append];omega),rfl,q _ I.fresh⟩
def zgr:R2:=λx y H Q=>∃ l k xs,x=.ref l/\y=.int k/\H l=some (.lst xs)/\-(2^63)<=k/\k<2^63/\xs.length*k.toNat<=sizeLine /\
 ∀ p,H p=none->Q (.ref p) (upd H p (.lst (List.replicate k.toNat xs).flatten))
theorem len_rep {α:Type} (xs:List α) (k:Nat):(List.replicate k xs).flatten.length=k*xs.length:=by
 induction k with
 | zero=>simp
 | succ k ih=>rw [List.replicate_succ,List.flatten_cons,List.length_append,ih,Nat.succ_mul,Nat.add_comm]
theorem zeC:OpR X (binaryOp .Mult) zgr:=by
 intro pins s σ H x y v u Q I rx ry h
 obtain⟨l,k,xs,rfl,rfl,hH,h1,h2,hz,q⟩:=h
 cases rx
 obtain⟨t,rfl⟩:=ry
 obtain⟨z,its,n,r,hl,e⟩:=I.lstM hH
 have hlen:its.toArray.size*k.toNat<=sizeLine:=by rw [List.size_toArray,<- hl];exact hz
 have hcap:¬ its.toArray.size*k.toNat>(2^63-1) / 8:=by
  have:(sizeLine:Nat)<=(2^63-1) / 8:=by decide
  omega
 have hfit:¬ (!Builtin.List.listFitsIndex k)=true:=by
  rw [fitsIndex_both h1 h2]
  exact Bool.false_ne_true
 have hlong:¬ Builtin.List.listTooLong (its.toArray.size*k.toNat)=true:=by
  rw [zea hlen]
  exact Bool.false_ne_true
 have hnew:List.foldl (λx1 x2=>x1++x2) #[] (List.replicate (if its.toArray.isEmpty=true then 0 else k.toNat) its.toArray)=(List.replicate k.toNat its).flatten.toArray:=by
  have f0:∀ m:Nat,List.foldl (λx1 x2=>x1++x2) #[] (List.replicate m its.toArray)=(List.replicate m its).flatten.toArray:=λm=>by
   have:=foldl_rep its m []
   rw [List.nil_append] at this
   exact this
  rw [f0]
  cases its with
  | nil=>simp
  | cons a r'=>rw [if_neg (by simp)]
 refine wpAny_binaryOp_repeat_ref (T:="list") (U:="int") (by decide) ⟨_,e,rfl⟩ (λs'=>typeIs_int s' k t) noFill_list_mul F.fills_int_mul F.slot_int_rmul repeat_list F.slot_int_index.lookup
  (call_meets F.slot_int_rmul (typeIs_int s k t) F.entry_int_rmul (F.args_int_rmul_2 _ _) (int___rmul___int_list k t l its.toArray n)
   ⟨e,rfl,⟨_,e,rfl⟩,call_meets F.slot_list_mul ⟨_,e,rfl⟩ F.entry_list_mul (F.args_list_mul_2 _ _) (AutoListH.list___mul___list_int_3 l its.toArray n k t hfit hcap hlong) ⟨e,?_⟩⟩)
 rw [hnew]
 exact⟨.ref _,_,I.lnew (t':=s.toks) (r.rep k.toNat) (by rw [len_rep,Nat.mul_comm];exact hz),rfl,q _ I.fresh⟩
end
section
variable {prog:Program} {w:World} {A:Around} {E:Value->Shared->Prop} {s:Shared}
end
section
variable {X:Cx}
end
end L2
namespace Att
open PySem PySem.W PySem.Calls PyProof.Rows
theorem V6 {P:Params} {h:Heap}:∀ (ns:List Int) (vs:List Value),WellAll P h vs (ns.map WData.int)->IntsAre vs ns:=by
 intro ns
 induction ns with
 | nil =>
  intro vs w
  rw [List.map_nil] at w
  cases w
  exact .nil
 | cons n ns ih =>
  intro vs w
  rw [List.map_cons] at w
  cases w with
  | cons a b =>
   cases a
   exact .cons _ _ (ih _ b)
theorem zdo {l:OpenLaw} {n:Nat} (hn:l.most=some n) {P:Params} {h:Heap} {args:List WData} {vals:List Value}
  (hpre:l.row.toRowW.claim.pre args=true) (hwl:WellAll P h vals args) :
  ∃ a vs ns,vals=[Value.ref a]/\args=[WData.list (ns.map WData.int)]/\h.get? a=some { cls:=.type "list",data:=.seq vs.toArray }/\IntsAre vs ns/\ns.length<=n:=by
 have hsh:WShape.hasAll [] args [.list .int]=true:=(pre_splitW hpre).1
 have hc:l.pre.holds [] { args:=args }=true:=(pre_splitW hpre).2
 obtain⟨d,r,rfl,h1,h2⟩:=hasAllW_cons hsh
 obtain rfl:=hasAllW_nil h2
 obtain⟨xs,rfl,h3⟩:=hasW_list h1
 obtain⟨ns,rfl⟩:=items_int h3
 have hlen:ns.length<=n:=by
  unfold OpenLaw.pre at hc
  have h4:(WTm.not (.lt (.lit (.int (n:Int))) (.len (.arg 0)))).holds [] { args:=[.list (ns.map .int)] }=true:=by
   have h4:=(holds_andW hc).1
   rw [hn] at h4
   exact h4
  have h5:=condW_of h4 (w_not (w_lt w_lit (w_len_list (w_arg rfl))))
  rw [List.length_map] at h5
  refine Nat.le_of_not_lt λq=>?_
  have q':(n:Int)<((ns.length:Nat):Int):=by omega
  first
   | (rw [decide_eq_true q'] at h5;exact absurd h5 (by decide))
   | (simp at h5;omega)
 cases hwl with
 | cons w1 w2 =>
  cases w2
  cases w1 with
  | list ho hall=>exact⟨_,_,ns,rfl,rfl,ho,V6 ns _ hall,hlen⟩
theorem zdr (l:OpenLaw) (args:List WData):l.row.toRowW.claim.post args (.bool true) args=true :=
 postW_of (r:=l.row.toRowW) (X:=(true == true))
  (show WShape.has [] (.bool true) .bool=true by first | rfl | decide | simp [WShape.has,WShape.arms,WShape.armsAll])
  (show (WTm.eq .res (.lit (.bool true))).value [] { args:=args,res:=some (.bool true),after:=args }=some (.bool (true == true)) from w_eq_bool (w_res rfl) w_lit) rfl
theorem za1 {l:OpenLaw} {n:Nat} {q:Program} {loose:List Str} {XP:(Str->Option Value)->Heap->Prop} {YP:World->Heap->Prop} {d:DefRec}
  (hn:l.most=some n) (hdf:d.params.defaults=[])
  (call:∀ (w:World) (s₀ s₁:Shared) (mg mb:Str->Option Value) (fa:Addr) (o:Obj) (pm cd doc:Value) (a:Addr) (vs:List Value) (ns:List Int),
   Ground q loose [] XP w s₀ mg mb s₁.heap->YP w s₁.heap ->
   s₁.heap.get? fa=some o->o.data=.func (docDef d.name d.params d.body d.scope pm cd doc)->s₁.heap.CodeRec cd d.name->mg d.name=some (.ref fa) ->
   s₁.heap.get? a=some { cls:=.type "list",data:=.seq vs.toArray }->IntsAre vs ns->ns.length<=n->s₁.gens=#[] ->
   codeAny (model l.prog w) callerA (.call (.ref fa) ⟨[.ref a],[]⟩) (λr s'=>r=.ok (.ret (.bool true))/\OldK s₁.heap s'.heap/\s'.os=s₁.os/\AllBare s'.gens) s₁) :
  WalkO q loose XP YP l.row.toRowW d [] (λf vs=>PySem.call f vs):=by
 intro w s₀ s₁ mg mb G Y fa o pm cd doc dV kV ho hd hcd hD hmg hg args vals as hpre hlay hrd hwl hlo
 obtain rfl:dV=.none:=Dflts.none hD hdf
 obtain rfl:kV=.none:=Dflts.noKw hD
 obtain⟨a,vs,ns,rfl,rfl,hobj,hints,hlen⟩:=zdo hn hpre hwl
 refine enter_call (codeAny_mono (call w s₀ s₁ mg mb fa o pm cd doc a vs ns G Y ho (fd_plain hd) hcd hmg hobj hints hlen hg) λr s' hq=>?_)
 obtain⟨rfl,h2,h3,h4⟩:=hq
 exact⟨.inl ⟨.bool true,.bool true,[],rfl,λ_=>rfl,.bool true,zdr l _,λ_=>⟨List.Pairwise.nil,λ_ hm=>(nomatch hm)⟩⟩,h2,h3,h4⟩
section
variable {prog:Program} {w:World} {A:Around} {E:Value->Shared->Prop} {s:Shared} {K:Frag}
end
end Att
namespace L2
open PySem PySem.Spec PyProof.Rows
theorem JC:∀ {vs:List Value} {ns:List Int},IntsAre vs ns->Vals (ns.map V.int) vs
 | _,_,.nil=>.nil
 | _,_,.cons n t h=>.cons ⟨t,rfl⟩ (JC h)
def inClass (s:Stmt) (j:Nat):Stmt:=match s with
 | .ClassDef _ _ _ body _ _ _ _ _ _ _=>body.getD j (.Pass ⟨0,0,0,0⟩)
 | _=>.Pass ⟨0,0,0,0⟩
def vz (s:Stmt):Arguments:=match s with
 | .FunctionDef _ a _ _ _ _ _ _ _ _=>a
 | _=>{ posonlyargs:=[],args:=[],vararg:=none,kwonlyargs:=[],kw_defaults:=[],kwarg:=none,defaults:=[] }
def xu (s:Stmt):List Stmt:=match s with
 | .FunctionDef _ _ b _ _ _ _ _ _ _=>b
 | _=>[]
def zq (s:Stmt):Scope:=match s with
 | .FunctionDef _ _ _ _ _ _ sc _ _ _=>sc
 | _=>{ kind:=.function,names:=[],isGenerator:=false,isCoroutine:=false }
abbrev CX0:CXT:=λ_ _ _ _ _ _=>False
abbrev E0:XK:=λ_ _ _=>False
theorem W7 {X:Cx}:Wj CX0 X E0:=λ_ _ _ _ _ _ _ h=>h.elim
structure Fun (K:W.Frag) (x qual:Str) (st:Stmt) (f:Addr) (fd:FuncData):Prop where
 ex:∃ (oc:Value) (od:Option Addr) (kV doc pm:Value) (an:Option Addr) (cdv ct:Value) (osl:Array (Option Value)),
  fd=W.fnOf x qual (vz st) (xu st) (zq st) .none kV doc pm an cdv ct/\K.lookup f=some ⟨oc,od,.func fd,osl⟩/\W.codeIn K cdv qual=true
 kp:W.keepIn K (.ref f)=true
section
variable {P:Program} {w:World} {K:W.Frag} {mg:Str->Option Value} {base:Heap}
theorem Fun.ok {x qual:Str} {st:Stmt} {f:Addr} {fd:FuncData} {N ps:List Str} {k:Nat} {sp:Sp} (F:Fun K x qual st f fd) (S:zB N ps (zq st)) (len:∀ vs H Q E,sp vs H Q E->vs.length=ps.length)
  (hbody:∀ (cdv:Value) (A:Around) (outer:List Env) (s:Shared) (H:Hp) (vs:List V) (Q:VK) (E:XK),Room k (A.deeper (envOfC qual (zq st) s.heap.objs.size f cdv))->sp vs H Q E ->
   ∃ t,PSs (Xv CX0 P w K mg base N qual (zq st) f cdv A outer s H E).nox (xu st) t/\t { nx:=λ_ H'=>Q .non H',rt:=Q } (start N vs) H):FnOk P w K mg base CX0 (k+1) f fd ps sp:=by
 obtain⟨oc,od,kV,doc,pm,an,cdv,ct,osl,rfl,lk,hcd⟩:=F.ex
 refine zdY lk hcd S len λA outer s H vs Q E hr hsp=>?_
 obtain⟨t,h,q⟩:=hbody cdv A outer s H vs Q E hr hsp
 exact⟨t,h.nox,q⟩
theorem Fun.binds {x qual:Str} {st:Stmt} {f:Addr} {fd:FuncData} {ps:List Str} (F:Fun K x qual st f fd)
  (h:∀ (kV doc pm:Value) (an:Option Addr) (cdv ct:Value) (us:List Value),us.length=ps.length->bindArgs (W.fnOf x qual (vz st) (xu st) (zq st) .none kV doc pm an cdv ct) ⟨us,[]⟩=pure (ps.zip us)):Binds K fd ps []:=by
 obtain⟨oc,od,kV,doc,pm,an,cdv,ct,osl,rfl,lk,hcd⟩:=F.ex
 exact .all (h kV doc pm an cdv ct)
theorem zav {x qual:Str} {st:Stmt} {f:Addr} {oc:Value} {od an:Option Addr} {osl:Array (Option Value)} {kV doc pm cdv ct:Value} (l:K.lookup f=some ⟨oc,od,.func (W.fnOf x qual (vz st) (xu st) (zq st) .none kV doc pm an cdv ct),osl⟩)
  (c:W.codeIn K cdv qual=true) (k:W.keepIn K (.ref f)=true):Fun K x qual st f (W.fnOf x qual (vz st) (xu st) (zq st) .none kV doc pm an cdv ct):=⟨⟨oc,od,kV,doc,pm,an,cdv,ct,osl,rfl,l,c⟩,k⟩
end
theorem zg0 {A:Around} {k:Nat} (hr:Room k A):A.units+1<cLine:=Nat.lt_of_le_of_lt (Nat.add_le_add_left (by decide:1<=64) _) hr.units
section
variable {X:Cx}
theorem pv (i:Nat) {x:Str} {pos:Pos} (hN:X.N[i]?=some x:=by rfl) (hv:Vis X.env.scope x:=by first | exact Or.inl rfl | exact Or.inr (Or.inl rfl) | exact Or.inr (Or.inr rfl)) (hd:(x == ("__debug__" : Str))=false:=by decide)
  (hcd:(x == ("__classdict__" : Str))=false:=by decide):PE X (.Name x pos) (ze7 i):=zgf hN hv hd hcd
end
theorem yf {A B:Prop} (h:B):if false=true then A else B:=by
 rw [if_neg Bool.false_ne_true]
 exact h
theorem yp {A B:Prop} (h:A):if true=true then A else B:=by
 rw [if_pos rfl]
 exact h
theorem zbw {c A B:Prop} [Decidable c] (h1:c->A) (h2:¬ c->B):if c then A else B:=by
 by_cases h:c
 ·rw [if_pos h]
  exact h1 h
 ·rw [if_neg h]
  exact h2 h
def Same (H H':Hp):Prop:=∀ b o,H b=some o->H' b=some o
theorem Same.refl (H:Hp):Same H H:=λ_ _ h=>h
theorem Same.trans {H H1 H2:Hp} (a:Same H H1) (b:Same H1 H2):Same H H2:=λc o h=>b c o (a c o h)
theorem Same.free {H H':Hp} (e:Same H H') {l:Addr} (h:H' l=Option.none):H l=Option.none:=by
 cases q:H l with
 | none=>rfl
 | some o =>
  rw [e l o q] at h
  cases h
theorem Same.seq {K:W.Frag} {H H':Hp} {a:Addr} {xs:List V} (e:Same H H') (h:SqL K H a xs):SqL K H' a xs:=by
 rcases h with (h | ⟨o,h⟩) | h
 ·exact .inl (.inl (e _ _ h))
 ·exact .inl (.inr ⟨o,e _ _ h⟩)
 ·exact .inr h
def xY (cells:List (Str×Addr)):List (Str×NameKind)->List (Str×Addr)->List (Str×Addr)
 | [],cs=>cs
 | (n,k) :: r,cs=>xY cells r (if k=.free then (match cells.lookup n with | some c=>(n,c) :: cs | none=>cs) else cs)
theorem YH {env:Env}:∀ (names:List (Str×NameKind)) (cs:List (Str×Addr)),(∀ x∈names,x.2=.free->∃ c,env.cells.lookup x.1=some c) ->
  (forIn names cs λ(x:Str×NameKind) (r:List (Str×Addr))=>if (x.2 == .free)=true then (do let c <- cellOf env x.1;pure (ForInStep.yield ((x.1,c) :: r)):Sem _) else pure (ForInStep.yield r))=pure (xY env.cells names cs)
 | [],cs,_=>rfl
 | (n,k) :: r,cs,h=>by
  have ih:=λcs'=>YH (env:=env) r cs' λx hx=>h x (List.mem_cons_of_mem _ hx)
  rw [List.forIn_cons]
  by_cases hk:k=.free
  ·subst hk
   obtain⟨c,hc⟩:=h (n,.free) List.mem_cons_self rfl
   have e:cellOf env n=pure c:=by unfold cellOf;rw [hc]
   simp only [beq_self_eq_true,if_true,e,pure_bind,xY,hc]
   exact ih _
  ·have hb:(k == NameKind.free)=false:=by simpa using hk
   simp only [hb,Bool.false_eq_true,if_false,pure_bind,xY,hk]
   exact ih _
theorem Zn {scope:Scope} {env:Env} (h:∀ x∈scope.names,x.2=.free->∃ c,env.cells.lookup x.1=some c):closureFor scope env=pure (xY env.cells scope.names []):=by
  have e:=YH scope.names [] h
  unfold closureFor
  first
    | (simp only [bind_pure];exact e)
    | (show (forIn scope.names [] _ >>= λr=>pure r)=_
       rw [show (forIn scope.names ([]:List (Str×Addr)) _:Sem _)=_ from e]
       rfl)
theorem uc {cells:List (Str×Addr)} {y:Str} {c:Addr}:∀ {names:List (Str×NameKind)} {cs:List (Str×Addr)},(∀ y c,cs.lookup y=some c->cells.lookup y=some c)->(xY cells names cs).lookup y=some c->cells.lookup y=some c
 | [],cs,h,e=>h y c e
 | (n,k) :: r,cs,h,e=>by
  refine uc (names:=r) ?_ e
  intro y' c' e'
  by_cases hk:k=.free
  ·rw [if_pos hk] at e'
   cases q:cells.lookup n with
   | none=>rw [q] at e';exact h _ _ e'
   | some d =>
    rw [q] at e'
    simp only [List.lookup_cons] at e'
    cases hb:y' == n with
    | true =>
     rw [hb] at e'
     cases e'
     have:y'=n:=by simpa using hb
     rw [this];exact q
    | false=>rw [hb] at e';exact h _ _ e'
  ·rw [if_neg hk] at e';exact h _ _ e'
theorem Wa {cells:List (Str×Addr)} {y:Str}:∀ {names:List (Str×NameKind)} {cs:List (Str×Addr)},((∃ c,cs.lookup y=some c)\/((y,NameKind.free)∈names/\∃ c,cells.lookup y=some c))->∃ c,(xY cells names cs).lookup y=some c
 | [],cs,h=>by
  rcases h with h | ⟨h,_⟩
  ·exact h
  ·cases h
 | (n,k) :: r,cs,h=>by
  refine Wa (names:=r) ?_
  rcases h with ⟨c,h⟩ | ⟨h,c,hc⟩
  ·left
   by_cases hk:k=.free
   ·rw [if_pos hk]
    cases q:cells.lookup n with
    | none=>exact⟨c,h⟩
    | some d =>
     simp only [List.lookup_cons]
     cases hb:y == n with
     | true=>exact⟨d,rfl⟩
     | false=>exact⟨c,h⟩
   ·rw [if_neg hk];exact⟨c,h⟩
  ·rcases List.mem_cons.mp h with e | h
   ·cases e
    left
    rw [if_pos rfl,hc]
    exact⟨c,by simp⟩
   ·exact .inr ⟨h,c,hc⟩
theorem xn {env:Env}:∀ {names:List (Str×NameKind)} {x:Str} {k:NameKind},
  (names.map λ(n,k)=>if (k == NameKind.free && env.scope.kind == .function && env.kindOf n == some .cell) then (n,NameKind.cell) else (n,k)).lookup x=some k->names.lookup x=some k\/(k=.cell/\names.lookup x=some .free)
 | [],_,_,h=>by simp at h
 | (n,k0) :: r,x,k,h=>by
  have ih:=@xn env r x k
  rw [List.map_cons] at h
  by_cases hc:(k0 == NameKind.free && env.scope.kind == .function && env.kindOf n == some .cell)=true
  ·simp only [hc,if_true,List.lookup_cons] at h
   have hk0:k0=.free:=by
    simp only [Bool.and_eq_true] at hc
    simpa using hc.1.1
   cases hx:x == n with
   | true=>rw [hx] at h;cases h;right;simp [List.lookup_cons,hx,hk0]
   | false=>rw [hx] at h;simp only [List.lookup_cons,hx];exact ih h
  ·have hc':(k0 == NameKind.free && env.scope.kind == .function && env.kindOf n == some .cell)=false:=by simpa using hc
   simp only [hc',Bool.false_eq_true,if_false,List.lookup_cons] at h
   cases hx:x == n with
   | true=>rw [hx] at h;cases h;left;simp [List.lookup_cons,hx]
   | false=>rw [hx] at h;simp only [List.lookup_cons,hx];exact ih h
def cxC (X:Cx) (N:List Str) (scope:Scope) (C:Addr) (s₀:Shared) (H₀:Hp) (ex:List Addr):Cx where
 prog:=X.prog
 w:=X.w
 K:=X.K
 mg:=X.mg
 base:=X.base
 A:=X.A
 N:=N
 s₀:=s₀
 H₀:=H₀
 env:=compEnvC scope (xY X.env.cells scope.names []) C X.env
 outer:=X.stack
 stack:=X.stack
 ex:=ex
 fn:=λ_=>false
 calm:=X.calm
 pn:=[]
 xe:=λ_ _=>False
def xZ (js:List Nat) (σ:St):St:=js.map λj=>(σ[j]?).join
theorem zaW {js:List Nat} {σ:St} {i:Nat} {v:V} (h:(xZ js σ)[i]?=some (some v)):∃ j,js[i]?=some j/\σ[j]?=some (some v):=by
 unfold xZ at h
 rw [List.getElem?_map] at h
 cases e:js[i]? with
 | none=>rw [e] at h;cases h
 | some j =>
  rw [e] at h
  have h':(σ[j]?).join=some v:=Option.some.inj h
  refine⟨j,rfl,?_⟩
  cases q:σ[j]? with
  | none=>rw [q] at h';cases h'
  | some z=>rw [q] at h';exact congrArg some h'
structure CScope (sc:Scope) (scope:Scope) (x:Str) (M:List Str) (ys:List Str) (js:List Nat):Prop where
 kind:scope.kind=.function:=by rfl
 cell:∀ y∈scope.names,y.2≠.cell:=by decide +kernel
 loc:∀ y∈scope.names,y.2=.local->scope.names.lookup y.1=some .local:=by decide +kernel
 var:scope.names.lookup x=some .local:=by rfl
 free:∀ y∈scope.names,y.2=.free->sc.names.lookup y.1=some .cell\/sc.names.lookup y.1=some .free:=by decide +kernel
 caps:js.map (M[·]?)=ys.map some:=by rfl
 fr:∀ y∈ys,scope.names.lookup y=some .free:=by decide +kernel
 nd:(x :: ys).Nodup:=by decide +kernel
section
variable {X:Cx} {pins:List (Addr×Obj)} {σ:St} {H:Hp} {s:Shared}
theorem zdX {scope:Scope} {x:Str} {ys:List Str} {js:List Nat} {fp:List Addr} {h₁:Heap} {tk:Nat} {C:Addr} (I:Inv X pins σ H s) (S:CScope X.env.scope scope x X.N ys js) (hf:∀ b∈fp,W8 X pins H b) (ho:∀ b∈fp,∃ o,s.heap.get? b=some o)
  (hC:s.heap.objs.size<=C) (hk:∀ b o,s.heap.get? b=some o->h₁.get? b=some o) (hn:h₁.Ns C λ_=>none) :
  Inv (cxC X (x :: ys) scope C s H fp) [] (none :: xZ js σ) H { s with heap:=h₁,toks:=tk }:=by
 have sub:∀ y c,(xY X.env.cells scope.names []).lookup y=some c->X.env.cells.lookup y=some c:=λy c e=>uc (λ_ _ z=>by simp at z) e
 have has:∀ y,scope.names.lookup y=some .free->∃ c,(xY X.env.cells scope.names []).lookup y=some c:=λy e=>by
  have m:(y,NameKind.free)∈scope.names:=PySem.mem_of_lookup e
  exact Wa (.inr ⟨m,I.ok.has y (S.free _ m rfl)⟩)
 have lt:∀ b∈fp,b<s.heap.objs.size:=λb hb=>by obtain⟨o,e⟩:=ho b hb;exact Heap.lt_size e
 have ok:(cxC X (x :: ys) scope C s H fp).Ok:=by
  refine⟨I.ok.mod,S.kind,I.ok.glob,I.ok.blt,hC,λy z c e1 e2=>I.ok.inj y z c (sub _ _ e1) (sub _ _ e2),λy hy=>?_,λy c z=>?_,I.ok.hd,I.ok.frames,.inl rfl,λb hb=>?_,I.bs,Nat.le_trans I.ok.bsz I.sz,λb o e hb=>?_,λb hb z=>?_,I.stack,I.stkFree⟩
  ·have hy':(relabel scope X.env).names.lookup y=some .cell\/(relabel scope X.env).names.lookup y=some .free:=hy
   have nocell:scope.names.lookup y≠some .cell:=λz=>S.cell _ (PySem.mem_of_lookup z) rfl
   rcases hy' with e | e
   ·rcases xn e with z | ⟨_,z⟩
    ·exact absurd z nocell
    ·exact has y z
   ·rcases xn e with z | ⟨z,_⟩
    ·exact has y z
    ·cases z
  ·exact absurd (show false=true from z) Bool.false_ne_true
  ·refine⟨Nat.ne_of_lt (Nat.lt_of_lt_of_le (lt b hb) hC),λy c e=>(hf b hb).2.2.2.2.1 y c (sub y c e)⟩
  ·rcases (hf b hb).2.2.2.1 with z | z
   ·exact I.ok.noex b o e z
   ·exact absurd (Nat.lt_of_lt_of_le (Heap.lt_size e) (Nat.le_trans I.ok.bsz z)) (Nat.lt_irrefl _)
  ·rcases List.mem_cons.mp (I.stkSub b z) with e | e
   ·exact (hf b hb).2.1 e
   ·exact (hf b hb).2.2.1 e
 refine⟨ok,rfl,I.bare,Un.kept hk,⟨_,hn,λi y v e1 e2 e3=>?_⟩,λy c e=>?_,I.hok.fresh hC,λy c e=>I.freeC y c (sub y c e),λp hp=>absurd (show p∈([]:List (Addr×Obj)) from hp) (by simp),I.hok.kept hk,?_⟩
 ·cases i with
  | zero=>simp at e2
  | succ i =>
   have e1':ys[i]?=some y:=by simpa [cxC] using e1
   have e2':(xZ js σ)[i]?=some (some v):=by simpa using e2
   obtain⟨j,hj,hσ⟩:=zaW e2'
   have hN:X.N[j]?=some y:=by
    have z:=congrArg (λl=>l[i]?) S.caps
    simp only [List.getElem?_map,hj,e1',Option.map_some] at z
    exact Option.some.inj z
   have hfr:=S.fr y (List.mem_of_getElem? e1')
   have m:(y,NameKind.free)∈scope.names:=PySem.mem_of_lookup hfr
   have hkind:=S.free _ m rfl
   obtain⟨m',hns,hl⟩:=I.loc
   obtain⟨u,r,lk⟩:=hl j y v hN hσ (by rcases hkind with z | z;exact .inr (.inl z);exact .inr (.inr z))
   refine⟨u,r,.inr ⟨?_,?_⟩⟩
   ·have e3':(relabel scope X.env).names.lookup y=some .local\/(relabel scope X.env).names.lookup y=some .cell\/(relabel scope X.env).names.lookup y=some .free:=e3
    rcases e3' with z | z | z
    ·rcases xn z with q | ⟨q,_⟩
     ·rw [hfr] at q;cases q
     ·cases q
    ·exact .inl z
    ·exact .inr z
   ·obtain⟨c,hc⟩:=has y hfr
    refine⟨c,hc,?_⟩
    rcases lk with ⟨z,_⟩ | ⟨_,c',hc',cell⟩
    ·rcases hkind with q | q
     ·have q':X.env.kindOf y=some .cell:=q
      rw [show X.env.kindOf y=some .local from z] at q';cases q'
     ·have q':X.env.kindOf y=some .free:=q
      rw [show X.env.kindOf y=some .local from z] at q';cases q'
    ·rw [sub y c hc] at hc'
     cases hc'
     obtain⟨o,e,d⟩:=cell
     exact⟨o,hk _ _ e,d⟩
 ·obtain⟨v,o,e',d⟩:=I.cell y c (sub y c e)
  exact⟨v,o,hk _ _ e',d⟩
 ·have z:=congrArg List.length S.caps
  simp only [List.length_map] at z
  show (none :: xZ js σ).length=(x :: ys).length
  simp [xZ,z]
end
theorem zdg {α β:Type} {M:Model} {A:Around} {a:α} {Q:α->Shared->Prop} {E E':Value->Shared->Prop} {s:Shared} {t:Sem β} {Q':β->Shared->Prop} (h:wpAny M A (pure a) Q E s) (k:Q a s->wpAny M A t Q' E' s):wpAny M A t Q' E' s :=
 fun Γ p hΓ=>k (h Γ p hΓ) Γ p hΓ
def PTs (X:Cx) (ifs:List Expr) (t:TT):Prop :=
 ∀ (pins:List (Addr×Obj)) (s:Shared) (σ:St) (H:Hp) (Q:Bool->Hp->Prop),Inv X pins σ H s->t σ H Q ->
  wpAny (model X.prog X.w) X.A (forIn ifs true λc r=>if r=true then do let ok <- isTrue c X.env (eval c X.env);pure (ForInStep.yield ok) else pure (ForInStep.yield r)) (TP X pins σ Q) X.xe s
def Xu:TT:=λ_ H Q=>Q true H
theorem wA {X:Cx}:PTs X [] Xu:=λpins s σ H Q I h=>wpAny_tests_nil ⟨H,I,h⟩
theorem Xf {X:Cx} {c:Expr} {t:TT} (h:PT X c t):PTs X [c] t:=λpins s σ H Q I hw=>wpAny_tests_one (h pins s σ H Q I hw)
def Qy (J:It) (js:List Nat) (tt:TT) (te:TE) (σ:St) (Q:VK) (H:Hp):Prop:=∃ W:Nat->Nat->List V->Hp->Prop,(∃ m,W 0 m [] H)/\∀ i m ys H,W i m ys H ->
 (J.stop i H/\∀ D,H D=none->Q (.ref D) (upd H D (.lst ys))) \/
 (J.go i H/\ys.length<sizeLine/\∃ N:List V->Hp->Prop,(∀ ys' H',N ys' H'->∃ m',m'<m/\W (i+1) m' ys' H')/\∀ x H',J.yld i H x H'->tt (some x :: xZ js σ) H' λb H2=>if b=true then te (some x :: xZ js σ) H2 λv H3=>N (ys++[v]) H3 else N ys H2)
def zfI (wi:TI) (js:List Nat) (tt:TT) (te:TE):TE:=fun σ H Q=>wi σ H λJ H1=>Qy J js tt te σ Q H1
theorem HOk.track {P:Program} {w:World} {H:Hp} {h:Heap} {a:Addr} {o:HO} (x:HOk P w H h) (hn:H a=none) (new:ObjOk P w (upd H a o) h a o):HOk P w (upd H a o) h:=λb u e=>by
 by_cases hb:b=a
 ·subst hb;rw [zj] at e;cases e;exact new
 ·rw [zy hb] at e
  exact (x b u e).stay (λ_ _ _ q=>q) (λc q=>by rw [zy (zx q hn)];exact q) λc xs q=>by rw [zy (zx q hn)];exact q
section
variable {X:Cx} {elt iter:Expr} {ifs:List Expr} {x:Str} {px pos:Pos} {scope:Scope} {ys:List Str} {js:List Nat} {wi:TI} {tt:TT} {te:TE}
theorem Qa {pins:List (Addr×Obj)} {σ:St} {H:Hp} {s:Shared} {J:It} {fp:List Addr} {it:Addr} {tn:Nat->Heap->Prop} {Q:VK} {E:Value->Shared->Prop} {R:Value->Addr->Result->Shared->Prop}
  (S:CScope X.env.scope scope x X.N ys js) (hc:X.calm=true) (ht:∀ C s₀ H₀ ex,PTs (cxC X (x :: ys) scope C s₀ H₀ ex) ifs tt) (he:∀ C s₀ H₀ ex,PE (cxC X (x :: ys) scope C s₀ H₀ ex) elt te)
  (I:Inv X pins σ H s) (T:Turn X.prog X.w X.K (.Name x px) J fp it tn) (st:tn 0 s.heap) (hf:∀ b∈fp,W8 X pins H b)
  (hw:∃ W:Nat->Nat->List V->Hp->Prop,(∃ m,W 0 m [] H)/\∀ i m zs H,W i m zs H ->
   (J.stop i H/\∀ D,H D=none->Q (.ref D) (upd H D (.lst zs))) \/
   (J.go i H/\zs.length<sizeLine/\∃ N:List V->Hp->Prop,(∀ ys' H',N ys' H'->∃ m',m'<m/\W (i+1) m' ys' H')/\∀ x H',J.yld i H x H'->tt (some x :: xZ js σ) H' λb H2=>if b=true then te (some x :: xZ js σ) H2 λv H3=>N (zs++[v]) H3 else N zs H2))
  (hR:∀ D C s' H' m',Inv X pins σ H' s'->Q (.ref D) H'->s.heap.objs.size<=C->H' C=none->s'.heap.Ns C m'->R (.ref D) C (.ok .next) s') :
  wpAny (model X.prog X.w) X.A (newList []) (λacc s₃=>wpAny (model X.prog X.w) X.A (newFunctionEnv scope X.env.globals (xY X.env.cells scope.names []) [] X.env.qual none .none (some X.env)) (λcenv s₄ =>
   codeAny (model X.prog X.w) X.A (.compStart (.ListComp elt [⟨.Name x px,iter,ifs,0⟩] scope pos) 0 (.ref it) acc { cenv with scope:=relabel scope X.env }) (R acc cenv.locals) s₄) E s₃) E s:=by
 obtain⟨W,⟨m0,w0⟩,turn⟩:=hw
 refine wpAny_newObj_type (wpAny_newFunctionEnv S.cell (by intro y hy;simp at hy) (λh₁ hns₁ hsb₁=>?_) S.kind)
 dsimp only at hns₁ hsb₁ ⊢
 generalize hH2:s.heap.push { cls:=.type "list",dict:=none,data:=.seq ([]:List Value).toArray }=G at hns₁ hsb₁ ⊢
 generalize hD:s.heap.objs.size=D at *
 generalize hCe:G.objs.size=C at *
 have hC:C=D+1:=by rw [<- hCe,<- hH2,Heap.size_push,hD]
 have hDlt:D<C:=by rw [hC];exact Nat.lt_succ_self D
 have hDC:D≠C:=Nat.ne_of_lt hDlt
 have old:∀ b o,s.heap.get? b=some o->h₁.get? b=some o:=λb o e=>by
  have hb:b<D:=hD▸Heap.lt_size e
  exact (hsb₁.2 b (Nat.ne_of_lt (Nat.lt_trans hb hDlt))).trans (Heap.get?_push_of_some _ (hH2▸Heap.get?_push_of_some _ e))
 have hacc:h₁.get? D=some { cls:=.type "list",data:=.seq ([]:List Value).toArray 0 }:=by
  refine (hsb₁.2 D hDC).trans (Heap.get?_push_of_some _ ?_)
  rw [<- hH2,<- hD]
  exact Heap.get?_push_size _ rfl
 have obj0:=T.obj 0 _ st
 have fplt:∀ b∈fp,b<D:=λb hb=>by obtain⟨o,e,_⟩:=obj0 b hb;exact hD▸Heap.lt_size e
 generalize hX:cxC X (x :: ys) scope C s H fp=X'
 have I1:Inv X' [] (none :: xZ js σ) H { s with heap:=h₁,toks:=s.toks+([]:List (Str×Value)).length }:=by
  subst hX
  exact zdX I S hf (λb hb=>by obtain⟨o,e,_⟩:=obj0 b hb;exact⟨o,e⟩) (by omega) old (by simpa using hns₁)
 have eP:X'.prog=X.prog:=by subst hX;rfl
 have eW:X'.w=X.w:=by subst hX;rfl
 have eK:X'.K=X.K:=by subst hX;rfl
 have eA:X'.A=X.A:=by subst hX;rfl
 have eC:X'.calm=true:=by subst hX;exact hc
 have eL:X'.env.locals=C:=by subst hX;rfl
 have eS:X'.s₀=s:=by subst hX;rfl
 have eN:X'.N=x :: ys:=by subst hX;rfl
 have eE:X'.env=compEnvC scope (xY X.env.cells scope.names []) C X.env:=by subst hX;rfl
 have eXe:X'.xe=λ_ _=>False:=by subst hX;rfl
 have eX:X'.ex=fp:=by subst hX;rfl
 have ePn:X'.pn=[]:=by subst hX;rfl
 have efs:∀ b,b∈X'.fs->b∈frs X.stack:=λb z=>by subst hX;exact z
 have cellLt:∀ y c,X'.env.cells.lookup y=some c->c<D:=λy c e=>by
  have e':(xY X.env.cells scope.names []).lookup y=some c:=by rw [eE] at e;exact e
  obtain⟨v,o,e2,_⟩:=I.cell y c (uc (λ_ _ z=>by simp at z) e')
  exact hD▸Heap.lt_size e2
 have frLt:∀ b,b∈X'.fs->b<D:=λb z=>by
  rcases List.mem_cons.mp (I.stkSub b (efs b z)) with e | e
  ·rw [e];exact hD▸I.lt
  ·exact Nat.lt_of_not_le λh=>I.nofs (hD▸h) e
 have fpOk:∀ (p:List (Addr×Obj)) (H':Hp),(∀ b∈fp,H' b=none)->(∀ q∈p,q.1=D)->∀ b∈fp,W8 X' p H' b:=λp H' hn hp b hb=>by
  refine⟨hn b hb,?_,λz=>?_,.inl (eX▸hb),λy c e=>?_,λq hq=>?_⟩
  ·rw [eL];exact Nat.ne_of_lt (Nat.lt_trans (fplt b hb) hDlt)
  ·rcases List.mem_cons.mp (I.stkSub b (efs b z)) with e | e
   ·exact (hf b hb).2.1 e
   ·exact (hf b hb).2.2.1 e
  ·have e':(xY X.env.cells scope.names []).lookup y=some c:=by rw [eE] at e;exact e
   exact (hf b hb).2.2.2.2.1 y c (uc (λ_ _ z=>by simp at z) e')
  ·rw [ePn,List.nil_append] at hq
   rw [hp q hq];exact Nat.ne_of_gt (fplt b hb)
 have noCell:∀ (its:List Value) (k:Nat) v,({ cls:=.type "list",data:=.seq its.toArray k }:Obj).data≠.cell v:=λits k v z=>by cases z
 have done:∀ {zs:List V} {its:List Value} {k:Nat} {H':Hp} {s':Shared},Inv X' [] (none :: xZ js σ) H' s'->s'.heap.get? D=some { cls:=.type "list",data:=.seq its.toArray k }->Vals zs its->H' D=none->zs.length<=sizeLine ->
   (∀ D,H' D=none->Q (.ref D) (upd H' D (.lst zs)))->R (.ref D) C (.ok .next) s':=λ{zs its k H' s'} I' hd hv hn hz q=>by
  have un:=I'.base
  obtain⟨m',hns,_⟩:=I'.loc
  rw [eL] at hns
  have hCn:H' C=none:=by have:=I'.free;rw [eL] at this;exact this
  have hH0:X'.H₀=H:=by subst hX;rfl
  rw [hH0,eS,eX] at un
  have un2:Un (frs X.stack) fp H (upd H' D (.lst zs)) s.heap s'.heap:=by
   have ne:∀ b o,s.heap.get? b=some o->b≠D:=λb o e=>Nat.ne_of_lt (hD▸Heap.lt_size e)
   have un':Un (frs X.stack) fp H H' s.heap s'.heap:=by subst hX;exact un
   exact⟨un'.keep,un'.slot,λb o e n hx=>by rw [zy (ne b o e)];exact un'.free b o e n hx,un'.there,λb xs e=>by rw [zy (zx (un'.tups b xs e) hn)];exact un'.tups b xs e,
    λb o u e=>by rw [zy (zx (un'.frzs b o u e) hn)];exact un'.frzs b o u e,λb ps e=>by
     obtain⟨more,z⟩:=un'.tbls b ps e
     exact⟨more,by rw [zy (zx z hn)];exact z⟩⟩
  have hok:HOk X.prog X.w (upd H' D (.lst zs)) s'.heap:=by
   have h0:=I'.hok
   rw [eP,eW] at h0
   exact h0.track hn ⟨hz,its,k,hv,hd⟩
  have I2:Inv X pins σ (upd H' D (.lst zs)) s':=I.call' (by have:=I'.os;rw [eS] at this;exact this) un2 hok I'.bare λb hb=>⟨(hf b hb).2.2.2.1,(hf b hb).2.1,(hf b hb).2.2.2.2.1,(hf b hb).2.2.2.2.2⟩
  exact hR D C s' _ m' I2 (q D hn) (by omega) (by rw [zy (Ne.symm hDC)];exact hCn) hns
 have loop:codeAny (model X.prog X.w) X.A (.compLoop (.ListComp elt [⟨.Name x px,iter,ifs,0⟩] scope pos) 0 (.ref it) (.ref D) X'.env) (R (.ref D) C) { s with heap:=h₁,toks:=s.toks+([]:List (Str×Value)).length }:=by
  refine codeAny_compLoop_tests (λn s'=>∃ i zs its k H',Inv X' [] (none :: xZ js σ) H' s'/\tn i s'.heap/\(∀ b∈fp,H' b=none)/\s'.heap.get? D=some { cls:=.type "list",data:=.seq its.toArray k }/\Vals zs its/\H' D=none/\zs.length<=sizeLine/\W i n zs H')
   ?_ m0 ⟨0,[],[],0,H,I1,T.keep _ _ _ st (λb hb o e=>old b o e),λb hb=>(hf b hb).1,hacc,.nil,I.hok.fresh (by omega),Nat.zero_le _,w0⟩ (λ_=>rfl)
  rintro n s3 ⟨i,zs,its,k,H3,I3,st3,fr3,d3,v3,n3,z3,w3⟩
  have pinD:Inv X' [(D,{ cls:=.type "list",data:=.seq its.toArray k })] (none :: xZ js σ) H3 s3:=I3.pins_of λp hp=>by
   have e:p=(D,{ cls:=.type "list",data:=.seq its.toArray k }):=by simpa using hp
   subst e
   exact⟨d3,n3,by rw [eL];exact hDC,λz=>Nat.lt_irrefl _ (frLt D z),noCell its k⟩
  have hpD:∀ q∈[(D,({ cls:=.type "list",data:=.seq its.toArray k }:Obj))],q.1=D:=λq hq=>by
   have e:q=(D,{ cls:=.type "list",data:=.seq its.toArray k }):=by simpa using hq
   rw [e]
  rcases turn i n zs H3 w3 with ⟨stop,qn⟩ | ⟨go,hzl,NN,hNN,step⟩
  ·refine thn (eA▸T.done X' eP eW eK eC i _ s3 _ H3 _ pinD (fpOk _ _ fr3 hpD) st3 stop) λr s4 ⟨hr,I4⟩=>?_
   subst hr
   exact done (I4.pins_of λp hp=>absurd hp (by simp)) (I4.pin (D,{ cls:=.type "list",data:=.seq its.toArray k }) (List.mem_append_right _ (by simp))).1 v3 n3 z3 qn
  ·refine thn (eA▸T.item X' eP eW eK eC i _ s3 _ H3 _ pinD (fpOk _ _ fr3 hpD) st3 go) λr s4 ⟨u,hr,h4⟩=>?_
   subst hr
   refine zdg (a:=()) h4 λ⟨v,H5,I5,r5,y5,st5,fr5⟩=>?_
   have I5':=I5.pinned (fpOk _ _ fr5 hpD) (T.obj _ _ st5)
   have ev:∀ {α:Type} {t:Sem α} {Q':α->Shared->Prop} {E':Value->Shared->Prop} {s':Shared},wpAny (model X'.prog X'.w) X'.A t Q' X'.xe s'->wpAny (model X.prog X.w) X.A t Q' E' s':=λ{α t Q' E' s'} hh=>by
    rw [eP,eW,eA,eXe] at hh
    exact wpAny_mono hh (λ_ _ q=>q) λ_ _ z=>z.elim
   refine ev (thn (yV (X:=X') (i:=0) (by rw [eN];exact S.nd) (by rw [eN];rfl) (.inl (by rw [eE];exact lookup_relabel_local S.var)) (.inr (by rw [eE];exact lookup_relabel_local S.var)) _ s4 _ H5 v u (fun σ' H'=>σ'=some v :: xZ js σ/\H'=H5) I5' r5 ⟨rfl,rfl⟩) λ_ s6 ⟨σ6,H6,I6,e6,e6'⟩=>?_)
   subst e6 e6'
   have back:∀ {σ':St} {H7:Hp} {s7:Shared},Inv X' ([(D,{ cls:=.type "list",data:=.seq its.toArray k })]++YW fp s4.heap) (some v :: xZ js σ) H7 s7->Inv X' [] (none :: xZ js σ) H7 s7:=λ{_ H7 s7} I7=>by
    refine (I7.pins_of λp hp=>absurd hp (by simp)).weak rfl λi v' e=>?_
    cases i with
    | zero=>simp at e
    | succ i=>simpa using e
   have fps:∀ {σ':St} {H7:Hp} {s7:Shared},Inv X' ([(D,{ cls:=.type "list",data:=.seq its.toArray k })]++YW fp s4.heap) σ' H7 s7->(∀ b∈fp,H7 b=none)/\(∀ b∈fp,∀ o,s4.heap.get? b=some o->s7.heap.get? b=some o)/\s7.heap.get? D=some { cls:=.type "list",data:=.seq its.toArray k }/\H7 D=none:=λ{σ' H7 s7} I7=>by
    have g:∀ b∈fp,∀ o,s4.heap.get? b=some o->s7.heap.get? b=some o/\H7 b=none:=λb hb o e=>by
     have z:=I7.pin (b,o) (List.mem_append_right _ (List.mem_append_right _ (Z3 hb e)))
     exact⟨z.1,z.2.1⟩
    refine⟨λb hb=>?_,λb hb o e=>(g b hb o e).1,(I7.pin (D,{ cls:=.type "list",data:=.seq its.toArray k }) (List.mem_append_right _ (by simp))).1,(I7.pin (D,{ cls:=.type "list",data:=.seq its.toArray k }) (List.mem_append_right _ (by simp))).2.1⟩
    obtain⟨o,e,_⟩:=T.obj _ _ st5 b hb
    exact (g b hb o e).2
   have hte:PTs X' ifs tt:=hX▸ht C s H fp
   have hee:PE X' elt te:=hX▸he C s H fp
   refine ev (thn (hte _ s6 _ H6 _ I6 (step v H6 y5)) λb s7 ⟨H7,I7,q7⟩=>?_)
   cases b with
   | false =>
    rw [if_neg Bool.false_ne_true]
    rw [if_neg Bool.false_ne_true] at q7
    obtain⟨m',hm,w7⟩:=hNN _ _ q7
    obtain⟨g1,g2,g3,g4⟩:=fps I7
    exact⟨m',hm,i+1,zs,its,k,H7,back (σ':=[]) I7,T.keep _ _ _ st5 g2,g1,g3,v3,g4,z3,w7⟩
   | true =>
    rw [if_pos rfl]
    rw [if_pos rfl] at q7
    refine ev (thn (hee _ s7 _ H7 _ I7 q7) λu8 s8 ⟨v8,H8,I8,r8,q8⟩=>?_)
    obtain⟨m',hm,w8⟩:=hNN _ _ q8
    obtain⟨g1,g2,g3,g4⟩:=fps I8
    have hil:=v3.length
    refine call_meets F.slot_list_append ⟨_,g3,rfl⟩ F.entry_list_append (F.args_list_append_2 _ _) (PySem.list_append D its.toArray k u8 (by rw [List.size_toArray];omega)) ⟨g3,?_⟩
    have q:=PySem.IsL.update g3 (λa=>a.push u8)
    have ea:its.toArray.push u8=(its++[u8]).toArray:=by simp
    rw [ea] at q
    have kk:∀ b o,b≠D->s8.heap.get? b=some o->(s8.heap.update D (Obj.mapSeq λa=>a.push u8)).get? b=some o:=λb o hb e=>(Heap.get?_update_other _ _ (Ne.symm hb)).trans e
    have I9:Inv X' [] (none :: xZ js σ) H8 { s8 with heap:=s8.heap.update D (Obj.mapSeq λa=>a.push u8),toks:=s8.toks }:=by
     refine (back (σ':=[]) I8).turned kk g4 (by rw [eL];exact hDC) (.inr (by rw [eS];omega)) (λy c e=>Nat.ne_of_lt (cellLt y c e)) λp hp=>?_
     rw [ePn] at hp
     exact absurd hp (by simp)
    refine⟨m',hm,i+1,zs++[v8],its++[u8],_,H8,I9,T.keep _ _ _ st5 (λb hb o e=>kk b o (Nat.ne_of_lt (fplt b hb)) (g2 b hb o e)),g1,q,v3.append (.cons r8 .nil),g4,?_,w8⟩
    rw [List.length_append,List.length_singleton]
    omega
 rw [eE] at loop
 exact codeAny_compStart_list loop (T.self _ 0 _ _ _ (T.keep _ _ _ st (λb hb o e=>old b o e)) loop)
theorem yW (S:CScope X.env.scope scope x X.N ys js) (hc:X.calm=true) (hi:PI X (.Name x px) iter wi) (ht:∀ C s₀ H₀ ex,PTs (cxC X (x :: ys) scope C s₀ H₀ ex) ifs tt) (he:∀ C s₀ H₀ ex,PE (cxC X (x :: ys) scope C s₀ H₀ ex) elt te)
  (hs:∀ x,foldedSetIterable iter X.env x=pure x:=by intro _;rfl):PE X (.ListComp elt [⟨.Name x px,iter,ifs,0⟩] scope pos) (zfI wi js tt te):=by
 intro pins s σ H Q I h
 rw [eval_ListComp]
 refine wpAny_comprehension_free (use:=none) rfl hs (Zn λy hy e=>I.ok.has _ (S.free y hy e)) S.kind S.loc (thn (hi pins s σ H _ I h) λv s1 h1=>thn h1 λitv s2 h2=>?_)
 obtain⟨it,fp,tn,J,H2,e,I2,T,st2,f2,hw⟩:=h2
 subst e
 refine Qa (Q:=Q) (R:=λacc C=>compPost (model X.prog X.w) X.A X.xe none (EP X pins σ Q) acc C) S hc ht he I2 T st2 f2 hw ?_
 intro D C s' H' m' I' q hC hn hns
 refine⟨m',hns,λh' hs'=>⟨.ref D,H',?_,rfl,q⟩⟩
 have e:=I2.fpOk hC hn
 exact I'.turned (t':=s'.toks) (λb o hb e=>(hs'.2 b hb).trans e) hn e.2.1 e.2.2.2.1 e.2.2.2.2.1 e.2.2.2.2.2
theorem zb6 {i:Nat} {y:Str} {py spos:Pos} (S:CScope X.env.scope scope x X.N ys js) (hc:X.calm=true) (hN:X.N.Nodup) (hy:X.N[i]?=some y) (hl:Loc X.env.scope y) (hi:PI X (.Name x px) iter wi) (ht:∀ C s₀ H₀ ex,PTs (cxC X (x :: ys) scope C s₀ H₀ ex) ifs tt) (he:∀ C s₀ H₀ ex,PE (cxC X (x :: ys) scope C s₀ H₀ ex) elt te)
  (hf:X.fn y=true\/X.env.scope.names.lookup y=some .local:=by first | exact .inl rfl | exact .inr rfl | assumption)
  (hsw:swapsWith (.ListComp elt [⟨.Name x px,iter,ifs,0⟩] scope pos) (some (.Name y py)) spos.line X.env=pure true:=by rfl)
  (hs:∀ x,foldedSetIterable iter X.env x=pure x:=by intro _;rfl):PS X (.Assign [.Name y py] (.ListComp elt [⟨.Name x px,iter,ifs,0⟩] scope pos) spos) (za4 (zfI wi js tt te) (XX i)):=by
 intro pins s σ H D I h
 rw [exec_Assign_Name_used _ _ _ _ hsw]
 refine wpAny_bind (wpAny_standAt (wpAny_bind ?_))
 show wpAny _ X.A (do let _ <- comprehension (.ListComp elt [⟨.Name x px,iter,ifs,0⟩] scope pos) scope X.env _ (newList []) false (eval iter X.env) (some (assign (.Name y py) X.env))) _ _ s
 refine wpAny_bind (wpAny_mono (wpAny_comprehension_free (use:=some (assign (.Name y py) X.env)) (Q:=λ_ s'=>SP X pins D .next s') rfl hs (Zn λy hy e=>I.ok.has _ (S.free y hy e)) S.kind S.loc
  (thn (hi pins s σ H _ I h) λv s1 h1=>thn h1 λitv s2 h2=>?_)) (λ_ s' hq=>wpAny_pure (wpAny_pure hq)) λ_ _ e=>e)
 obtain⟨it,fp,tn,J,H2,e,I2,T,st2,f2,hw⟩:=h2
 subst e
 refine Qa (Q:=λv H'=>XX i v σ H' D.nx) (R:=λacc C=>compPost (model X.prog X.w) X.A X.xe (some (assign (.Name y py) X.env)) (λ_ s'=>SP X pins D .next s') acc C) S hc ht he I2 T st2 f2 hw ?_
 intro Da C s' H' m' I' q hC hn hns
 have e:=I2.fpOk hC hn
 show wpAny _ X.A (assign (.Name y py) X.env (.ref Da)) _ _ _
 refine wpAny_assign_Name (Vh I' hN hy hl (show RelV (.ref Da) (.ref Da) from rfl) (λs2' I3 ⟨a,sb,ha⟩=>?_) hf)
 have hCa:C≠a:=by
  rcases ha with z | z
  ·rw [z];exact e.2.1
  ·intro w;exact e.2.2.2.2.1 _ _ z w.symm
 refine⟨m',hns.sameBut sb hCa,λh' hs'=>⟨_,H',?_,q⟩⟩
 exact I3.turned (t':=s2'.toks) (λb o hb e=>(hs'.2 b hb).trans e) hn e.2.1 e.2.2.2.1 e.2.2.2.2.1 e.2.2.2.2.2
end
theorem yQ {K:W.Frag} {a:Addr} {xs:List V} {js:List Nat} {tt:TT} {te:TE} {σ:St} {H:Hp} {Q:VK} (Pv:Nat->List V->Hp->Prop) (h0:Pv 0 [] H) (hl:∀ i ys H,i<=xs.length->Pv i ys H->SqL K H a xs)
  (hs:∀ i x ys H,xs[i]?=some x->Pv i ys H->ys.length<sizeLine/\tt (some x :: xZ js σ) H λb H2=>if b=true then te (some x :: xZ js σ) H2 λv H3=>Pv (i+1) (ys++[v]) H3 else Pv (i+1) ys H2)
  (hd:∀ ys H,Pv xs.length ys H->∀ D,H D=none->Q (.ref D) (upd H D (.lst ys))) :
  Qy (Itl K a) js tt te σ Q H:=by
 refine⟨λi m ys H=>m=xs.length-i/\i<=xs.length/\Pv i ys H,⟨xs.length,by simp,Nat.zero_le _,h0⟩,?_⟩
 rintro i m ys H ⟨rfl,hi,p⟩
 have q:=hl i ys H hi p
 by_cases hlt:i<xs.length
 ·have hx:xs[i]?=some xs[i]:=List.getElem?_eq_getElem hlt
  obtain⟨hz,hst⟩:=hs i xs[i] ys H hx p
  refine .inr ⟨⟨xs,xs[i],q,hx⟩,hz,Pv (i+1),λys' H' p'=>⟨xs.length-(i+1),by omega,rfl,hlt,p'⟩,λx H' y=>?_⟩
  obtain⟨e,y⟩:=y
  subst e
  have e2:=y xs q
  rw [hx] at e2
  cases e2
  exact hst
 ·have e:i=xs.length:=by omega
  subst e
  exact .inl ⟨⟨xs,q,Nat.le_refl _⟩,hd ys H p⟩
theorem uU {lo:Int} {n:Nat} {js:List Nat} {tt:TT} {te:TE} {σ:St} {H:Hp} {Q:VK} (Pv:Nat->List V->Hp->Prop) (h0:Pv 0 [] H)
  (hs:∀ i ys H,i<n->Pv i ys H->ys.length<sizeLine/\tt (some (.int (lo+i)) :: xZ js σ) H λb H2=>if b=true then te (some (.int (lo+i)) :: xZ js σ) H2 λv H3=>Pv (i+1) (ys++[v]) H3 else Pv (i+1) ys H2)
  (hd:∀ ys H,Pv n ys H->∀ D,H D=none->Q (.ref D) (upd H D (.lst ys))) :
  Qy (Itr lo n) js tt te σ Q H:=by
 refine⟨λi m ys H=>m=n-i/\i<=n/\Pv i ys H,⟨n,by simp,Nat.zero_le _,h0⟩,?_⟩
 rintro i m ys H ⟨rfl,hi,p⟩
 by_cases hlt:i<n
 ·obtain⟨hz,hst⟩:=hs i ys H hlt p
  refine .inr ⟨hlt,hz,Pv (i+1),λys' H' p'=>⟨n-(i+1),by omega,rfl,hlt,p'⟩,λx H' y=>?_⟩
  obtain⟨e,y⟩:=y
  subst e y
  exact hst
 ·have e:i=n:=by omega
  subst e
  exact .inl ⟨Nat.le_refl _,hd ys H p⟩
open PySem PySem.Spec PyProof.Rows PySem.SeqAt
inductive Tr where
 | non | bl (b:Bool) | int (i:Int) | str (x:Str) | lst (ts:List Tr) | tup (ts:List Tr)
mutual
def TrAt (K:W.Frag) (H:Hp):Tr->V->Prop
 | .non,v=>v=.non
 | .bl b,v=>v=.bl b
 | .int i,v=>v=.int i
 | .str x,v=>v=.str x
 | .lst ts,v=>∃ a xs,v=.ref a/\SqL K H a xs/\TrsAt K H ts xs
 | .tup ts,v=>∃ a xs,v=.ref a/\SqT K H a xs/\TrsAt K H ts xs
def TrsAt (K:W.Frag) (H:Hp):List Tr->List V->Prop
 | [],xs=>xs=[]
 | t :: ts,xs=>∃ y ys,xs=y :: ys/\TrAt K H t y/\TrsAt K H ts ys
end
mutual
def teq:Tr->Tr->Bool
 | .non,.non=>true
 | .bl a,.bl b=>a == b
 | .bl a,.int b=>(if a then 1 else 0) == b
 | .int a,.bl b=>a == (if b then 1 else 0)
 | .int a,.int b=>a == b
 | .str a,.str b=>a == b
 | .lst a,.lst b=>qT a b
 | .tup a,.tup b=>qT a b
 | _,_=>false
def qT:List Tr->List Tr->Bool
 | [],[]=>true
 | t :: ts,u :: us=>teq t u && qT ts us
 | _,_=>false
end
mutual
def uC:Tr->Nat
 | .lst ts=>wg ts+1
 | .tup ts=>wg ts+1
 | _=>0
def wg:List Tr->Nat
 | []=>0
 | t :: ts=>max (uC t) (wg ts)
end
theorem Y6 {t:Tr}:∀ {ts:List Tr},t∈ts->uC t<=wg ts
 | u :: ts,h=>by
  rw [wg]
  rcases List.mem_cons.mp h with e | h
  ·rw [e];exact Nat.le_max_left _ _
  ·exact Nat.le_trans (Y6 h) (Nat.le_max_right _ _)
section
variable {K:W.Frag} {H:Hp}
theorem TrsAt.length:∀ {ts:List Tr} {xs:List V},TrsAt K H ts xs->ts.length=xs.length
 | [],xs,h=>by rw [TrsAt] at h;subst h;rfl
 | t :: ts,xs,h=>by
  rw [TrsAt] at h
  obtain⟨y,ys,rfl,_,h⟩:=h
  rw [List.length_cons,List.length_cons,TrsAt.length h]
theorem TrsAt.get:∀ {ts:List Tr} {xs:List V} {j:Nat} {t:Tr},TrsAt K H ts xs->ts[j]?=some t->∃ x,xs[j]?=some x/\TrAt K H t x
 | [],xs,j,t,h,e=>by simp at e
 | u :: ts,xs,0,t,h,e=>by
  rw [TrsAt] at h
  obtain⟨y,ys,rfl,hy,h⟩:=h
  simp at e
  subst e
  exact⟨y,rfl,hy⟩
 | u :: ts,xs,j+1,t,h,e=>by
  rw [TrsAt] at h
  obtain⟨y,ys,rfl,hy,h⟩:=h
  obtain⟨x,e1,e2⟩:=TrsAt.get (j:=j) h (by simpa using e)
  exact⟨x,by simpa using e1,e2⟩
theorem TrsAt.mk:∀ {ts:List Tr} {xs:List V},ts.length=xs.length->(∀ (j:Nat) (t:Tr) (x:V),ts[j]?=some t->xs[j]?=some x->TrAt K H t x)->TrsAt K H ts xs
 | [],[],_,_=>by rw [TrsAt]
 | [],_ :: _,h,_=>by simp at h
 | _ :: _,[],h,_=>by simp at h
 | t :: ts,x :: xs,h,f=>by
  rw [TrsAt]
  exact⟨x,xs,rfl,f 0 t x rfl rfl,TrsAt.mk (by simpa using h) λj t x e1 e2=>f (j+1) t x (by simpa using e1) (by simpa using e2)⟩
theorem TrsAt.ints:∀ {ns:List Int},TrsAt K H (ns.map Tr.int) (ns.map V.int)
 | []=>by rw [List.map_nil,TrsAt];rfl
 | n :: ns=>by rw [List.map_cons,TrsAt];exact⟨_,_,rfl,by rw [TrAt],TrsAt.ints⟩
def yK (ns:List Int):Tr:=.lst (ns.map Tr.int)
theorem TrAt.ints {a:Addr} {ns:List Int} (h:SqL K H a (ns.map V.int)):TrAt K H (yK ns) (.ref a):=by
 unfold yK;rw [TrAt];exact⟨a,_,rfl,h,TrsAt.ints⟩
end
mutual
theorem qg:∀ t:Tr,teq t t=true
 | .non=>by rw [teq]
 | .bl b=>by rw [teq];simp
 | .int i=>by rw [teq];simp
 | .str x=>by rw [teq];simp
 | .lst ts=>by rw [teq];exact ZD ts
 | .tup ts=>by rw [teq];exact ZD ts
theorem ZD:∀ ts:List Tr,qT ts ts=true
 | []=>by rw [qT]
 | t :: ts=>by rw [qT,qg t,ZD ts];rfl
end
theorem zbs {α:Type} [DecidableEq α] {f:α->Tr} (h:∀ a b,teq (f a) (f b)=decide (a=b)):∀ (xs ys:List α),qT (xs.map f) (ys.map f)=decide (xs=ys)
 | [],[]=>by simp [qT]
 | [],_ :: _=>by simp [qT]
 | _ :: _,[]=>by simp [qT]
 | x :: xs,y :: ys=>by
  rw [List.map_cons,List.map_cons,qT,h,zbs h xs ys,Bool.eq_iff_iff]
  simp
theorem ze4 (a b:Int):teq (.int a) (.int b)=decide (a=b):=by rw [teq,Bool.eq_iff_iff];simp
theorem ql (a b:List Int):teq (yK a) (yK b)=decide (a=b):=by unfold yK;rw [teq];exact zbs ze4 a b
theorem Qd:∀ ns:List Int,wg (ns.map Tr.int)=0
 | []=>by simp [wg]
 | n :: ns=>by rw [List.map_cons,wg,Qd ns,uC]<;>simp
theorem uO (ns:List Int):uC (yK ns)=1:=by unfold yK;rw [uC,Qd]
theorem Y7:∀ {ts us:List Tr},ts.length≠us.length->qT ts us=false
 | [],[],h=>absurd rfl h
 | [],_ :: _,_=>by simp [qT]
 | _ :: _,[],_=>by simp [qT]
 | t :: ts,u :: us,h=>by rw [qT,Y7 (by simpa using h),Bool.and_false]
def eAt (ts us:List Tr) (j:Nat):Bool:=match ts[j]?,us[j]? with
 | some t,some u=>teq t u
 | _,_=>true
theorem zax:∀ {ts us:List Tr},ts.length=us.length->(List.range ts.length).all (eAt ts us)=qT ts us
 | [],[],_=>by simp [qT]
 | [],_ :: _,h=>by simp at h
 | _ :: _,[],h=>by simp at h
 | t :: ts,u :: us,h=>by
  rw [List.length_cons,List.range_succ_eq_map,List.all_cons,List.all_map,qT,<- zax (ts:=ts) (us:=us) (by simpa using h)]
  rfl
section
variable {X:Cx} {pins:List (Addr×Obj)} {σ:St} {H:Hp} {s:Shared}
theorem UJ (I:Inv X pins σ H s):∀ (n:Nat) {t u:Tr} {v:V},uC t<=n->TrAt X.K H t v->TrAt X.K H u v->t=u:=by
 intro n
 induction n with
 | zero =>
  intro t u v hd ht hu
  cases t with
  | lst ts=>rw [uC] at hd;omega
  | tup ts=>rw [uC] at hd;omega
  | _=>(rw [TrAt] at ht;subst ht;cases u<;>(rw [TrAt] at hu)<;>first | rfl | (obtain⟨_,_,z,_⟩:=hu;cases z) | (cases hu;rfl) | cases hu)
 | succ n ih =>
  intro t u v hd ht hu
  have lists:∀ {ts us:List Tr} {xs:List V},wg ts<=n->TrsAt X.K H ts xs->TrsAt X.K H us xs->ts=us:=by
   intro ts us xs hd h1 h2
   apply List.ext_getElem?
   intro j
   have l1:=h1.length
   have l2:=h2.length
   by_cases hj:j<ts.length
   ·obtain⟨t,e⟩:∃ t,ts[j]?=some t:=⟨_,List.getElem?_eq_getElem hj⟩
    obtain⟨u,e'⟩:∃ u,us[j]?=some u:=⟨_,List.getElem?_eq_getElem (by omega)⟩
    obtain⟨x,ex,hx⟩:=h1.get e
    obtain⟨y,ey,hy⟩:=h2.get e'
    rw [ex] at ey
    cases ey
    rw [e,e',ih (Nat.le_trans (Y6 (List.mem_of_getElem? e)) hd) hx hy]
   ·rw [List.getElem?_eq_none (by omega),List.getElem?_eq_none (by omega)]
  cases t with
  | lst ts =>
   rw [TrAt] at ht
   obtain⟨a,xs,rfl,q,h1⟩:=ht
   cases u with
   | lst us =>
    rw [TrAt] at hu
    obtain⟨b,ys,e,q',h2⟩:=hu
    cases e
    rw [I.list_inj q' q] at h2
    rw [lists (by rw [uC] at hd;omega) h1 h2]
   | tup us =>
    rw [TrAt] at hu
    obtain⟨b,ys,e,q',h2⟩:=hu
    cases e
    obtain⟨_,_,pl,_⟩:=I.list q
    obtain⟨_,_,pt,_⟩:=I.tuple q'
    exact absurd rfl (ne_of_list_tuple pl.isList pt)
   | _=>rw [TrAt] at hu;cases hu
  | tup ts =>
   rw [TrAt] at ht
   obtain⟨a,xs,rfl,q,h1⟩:=ht
   cases u with
   | tup us =>
    rw [TrAt] at hu
    obtain⟨b,ys,e,q',h2⟩:=hu
    cases e
    rw [I.tuple_inj q' q] at h2
    rw [lists (by rw [uC] at hd;omega) h1 h2]
   | lst us =>
    rw [TrAt] at hu
    obtain⟨b,ys,e,q',h2⟩:=hu
    cases e
    obtain⟨_,_,pl,_⟩:=I.list q'
    obtain⟨_,_,pt,_⟩:=I.tuple q
    exact absurd rfl (ne_of_list_tuple pl.isList pt)
   | _=>rw [TrAt] at hu;cases hu
  | _=>(rw [TrAt] at ht;subst ht;cases u<;>(rw [TrAt] at hu)<;>first | rfl | (obtain⟨_,_,z,_⟩:=hu;cases z) | (cases hu;rfl) | cases hu)
structure zhe (A:Around) (s:Shared) (a b:Value) (r:Bool):Prop where
 rc:RcAt A s a b r
 ne:RcNeAt A s a b (!r)
 eq:EqAt A s a b r
theorem units_in1 (A:Around):A.in1.units=A.units+1:=rfl
theorem Us (I:Inv X pins σ H s):∀ (n:Nat) {t u:Tr} {v w:V} {a b:Value} {A:Around},uC t<=n->TrAt X.K H t v->TrAt X.K H u w->RelV v a->RelV w b->A.units+n<cLine->zhe A s a b (teq t u):=by
 intro n
 induction n with
 | zero =>
  intro t u v w a b A hd ht hu ra rb hA
  have hA':A.units<cLine:=by omega
  cases t with
  | lst ts=>rw [uC] at hd;omega
  | tup ts=>rw [uC] at hd;omega
  | non =>
   rw [TrAt] at ht;subst ht;cases ra
   cases u with
   | non=>rw [TrAt] at hu;subst hu;cases rb;rw [teq];exact⟨.none_none,.none_none,.same _⟩
   | bl b=>rw [TrAt] at hu;subst hu;cases rb;simp only [teq];exact⟨.none_bool _,.none_bool _,.none_bool _⟩
   | int b=>rw [TrAt] at hu;subst hu;obtain⟨_,rfl⟩:=rb;simp only [teq];exact⟨.none_int _ _,.none_int _ _,.none_int _ _⟩
   | str b=>rw [TrAt] at hu;subst hu;obtain⟨_,rfl⟩:=rb;simp only [teq];exact⟨.none_str _ _,.none_str _ _,.none_str _ _⟩
   | lst us=>rw [TrAt] at hu;obtain⟨p,ys,rfl,q,_⟩:=hu;cases rb;obtain⟨_,_,pl,_⟩:=I.list q;simp only [teq];exact⟨.none_list pl.isList hA',.none_list pl.isList hA',.none_list pl.isList hA'⟩
   | tup us=>rw [TrAt] at hu;obtain⟨p,ys,rfl,q,_⟩:=hu;cases rb;obtain⟨_,_,pl,_⟩:=I.tuple q;simp only [teq];exact⟨.none_tuple pl hA',.none_tuple pl hA',.none_tuple pl hA'⟩
  | bl c =>
   rw [TrAt] at ht;subst ht;cases ra
   cases u with
   | non=>rw [TrAt] at hu;subst hu;cases rb;simp only [teq];exact⟨.bool_none _,.bool_none _,.bool_none _⟩
   | bl b=>rw [TrAt] at hu;subst hu;cases rb;rw [teq];exact⟨.bool_bool _ _,.bool_bool _ _,.bool_bool _ _⟩
   | int b=>rw [TrAt] at hu;subst hu;obtain⟨_,rfl⟩:=rb;rw [teq];exact⟨.bool_int _ _ _,.bool_int _ _ _,.bool_int _ _ _⟩
   | str b=>rw [TrAt] at hu;subst hu;obtain⟨_,rfl⟩:=rb;simp only [teq];exact⟨.bool_str _ _ _,.bool_str _ _ _,.bool_str _ _ _⟩
   | lst us=>rw [TrAt] at hu;obtain⟨p,ys,rfl,q,_⟩:=hu;cases rb;obtain⟨_,_,pl,_⟩:=I.list q;simp only [teq];exact⟨.bool_list _ pl.isList hA',.bool_list _ pl.isList hA',.bool_list _ pl.isList hA'⟩
   | tup us=>rw [TrAt] at hu;obtain⟨p,ys,rfl,q,_⟩:=hu;cases rb;obtain⟨_,_,pl,_⟩:=I.tuple q;simp only [teq];exact⟨.bool_tuple _ pl hA',.bool_tuple _ pl hA',.bool_tuple _ pl hA'⟩
  | int c =>
   rw [TrAt] at ht;subst ht;obtain⟨_,rfl⟩:=ra
   cases u with
   | non=>rw [TrAt] at hu;subst hu;cases rb;simp only [teq];exact⟨.int_none _ _,.int_none _ _,.int_none _ _⟩
   | bl b=>rw [TrAt] at hu;subst hu;cases rb;rw [teq];exact⟨.int_bool _ _ _,.int_bool _ _ _,.int_bool _ _ _⟩
   | int b=>rw [TrAt] at hu;subst hu;obtain⟨_,rfl⟩:=rb;rw [teq];exact⟨.int_int _ _ _ _,.int_int _ _ _ _,.int_int _ _ _ _⟩
   | str b=>rw [TrAt] at hu;subst hu;obtain⟨_,rfl⟩:=rb;simp only [teq];exact⟨.int_str _ _ _ _,.int_str _ _ _ _,.int_str _ _ _ _⟩
   | lst us=>rw [TrAt] at hu;obtain⟨p,ys,rfl,q,_⟩:=hu;cases rb;obtain⟨_,_,pl,_⟩:=I.list q;simp only [teq];exact⟨.int_list _ _ pl.isList hA',.int_list _ _ pl.isList hA',.int_list _ _ pl.isList hA'⟩
   | tup us=>rw [TrAt] at hu;obtain⟨p,ys,rfl,q,_⟩:=hu;cases rb;obtain⟨_,_,pl,_⟩:=I.tuple q;simp only [teq];exact⟨.int_tuple _ _ pl hA',.int_tuple _ _ pl hA',.int_tuple _ _ pl hA'⟩
  | str c =>
   rw [TrAt] at ht;subst ht;obtain⟨_,rfl⟩:=ra
   cases u with
   | non=>rw [TrAt] at hu;subst hu;cases rb;simp only [teq];exact⟨.str_none _ _,.str_none _ _,.str_none _ _⟩
   | bl b=>rw [TrAt] at hu;subst hu;cases rb;simp only [teq];exact⟨.str_bool _ _ _,.str_bool _ _ _,.str_bool _ _ _⟩
   | int b=>rw [TrAt] at hu;subst hu;obtain⟨_,rfl⟩:=rb;simp only [teq];exact⟨.str_int _ _ _ _,.str_int _ _ _ _,.str_int _ _ _ _⟩
   | str b=>rw [TrAt] at hu;subst hu;obtain⟨_,rfl⟩:=rb;rw [teq];exact⟨.str_str _ _ _ _,.str_str _ _ _ _,.str_str _ _ _ _⟩
   | lst us=>rw [TrAt] at hu;obtain⟨p,ys,rfl,q,_⟩:=hu;cases rb;obtain⟨_,_,pl,_⟩:=I.list q;simp only [teq];exact⟨.str_list _ _ pl.isList hA',.str_list _ _ pl.isList hA',.str_list _ _ pl.isList hA'⟩
   | tup us=>rw [TrAt] at hu;obtain⟨p,ys,rfl,q,_⟩:=hu;cases rb;obtain⟨_,_,pl,_⟩:=I.tuple q;simp only [teq];exact⟨.str_tuple _ _ pl hA',.str_tuple _ _ pl hA',.str_tuple _ _ pl hA'⟩
 | succ n ih =>
  intro t u v w a b A hd ht hu ra rb hA
  have hA':A.units<cLine:=by omega
  have items:∀ {ts us:List Tr} {xs ys:List V} {its its2:List Value},wg ts<=n->TrsAt X.K H ts xs->TrsAt X.K H us ys->Vals xs its->Vals ys its2 ->
    ∀ j (h1:j<its.toArray.size) (h2:j<its2.toArray.size),EqAt A.in1 s its.toArray[j] its2.toArray[j] (eAt ts us j):=by
   intro ts us xs ys its its2 hdn h1 h2 r1 r2 j hj1 hj2
   have l1:=h1.length
   have l2:=h2.length
   have m1:=r1.length
   have m2:=r2.length
   rw [List.size_toArray] at hj1 hj2
   obtain⟨t,e⟩:∃ t,ts[j]?=some t:=⟨_,List.getElem?_eq_getElem (by omega)⟩
   obtain⟨u,e'⟩:∃ u,us[j]?=some u:=⟨_,List.getElem?_eq_getElem (by omega)⟩
   obtain⟨x,ex,hx⟩:=h1.get e
   obtain⟨y,ey,hy⟩:=h2.get e'
   obtain⟨vx,fx,rx⟩:=r1.get ex
   obtain⟨vy,fy,ry⟩:=r2.get ey
   have g1:its.toArray[j]'(by simpa using hj1)=vx:=by
    have z:its[j]=vx:=Option.some.inj ((List.getElem?_eq_getElem hj1).symm.trans fx)
    simpa using z
   have g2:its2.toArray[j]'(by simpa using hj2)=vy:=by
    have z:its2[j]=vy:=Option.some.inj ((List.getElem?_eq_getElem hj2).symm.trans fy)
    simpa using z
   rw [g1,g2]
   have q:=(ih (A:=A.in1) (Nat.le_trans (Y6 (List.mem_of_getElem? e)) hdn) hx hy rx ry (by rw [units_in1];omega)).eq
   unfold eAt
   rw [e,e']
   exact q
  by_cases hz:uC t<=n
  ·exact ih hz ht hu ra rb (by omega)
  cases t with
  | lst ts =>
   rw [TrAt] at ht;obtain⟨p,xs,rfl,q,h1⟩:=ht;cases ra
   obtain⟨its,r1,pl,_⟩:=I.list q
   cases u with
   | non=>rw [TrAt] at hu;subst hu;cases rb;simp only [teq];exact⟨.list_none pl.isList hA',.list_none pl.isList hA',.list_none pl.isList hA'⟩
   | bl b=>rw [TrAt] at hu;subst hu;cases rb;simp only [teq];exact⟨.list_bool _ pl.isList hA',.list_bool _ pl.isList hA',.list_bool _ pl.isList hA'⟩
   | int b=>rw [TrAt] at hu;subst hu;obtain⟨_,rfl⟩:=rb;simp only [teq];exact⟨.list_int _ _ pl.isList hA',.list_int _ _ pl.isList hA',.list_int _ _ pl.isList hA'⟩
   | str b=>rw [TrAt] at hu;subst hu;obtain⟨_,rfl⟩:=rb;simp only [teq];exact⟨.list_str _ _ pl.isList hA',.list_str _ _ pl.isList hA',.list_str _ _ pl.isList hA'⟩
   | tup us=>rw [TrAt] at hu;obtain⟨p',ys,rfl,q',_⟩:=hu;cases rb;obtain⟨_,_,pl',_⟩:=I.tuple q';simp only [teq];exact⟨.list_tuple pl.isList pl' hA',.list_tuple pl.isList pl' hA',.list_tuple pl.isList pl' hA'⟩
   | lst us =>
    have hu0:=hu
    rw [TrAt] at hu;obtain⟨p',ys,rfl,q',h2⟩:=hu;cases rb
    obtain⟨its2,r2,pl',_⟩:=I.list q'
    have l1:=h1.length
    have l2:=h2.length
    have m1:=r1.length
    have m2:=r2.length
    have hdn:wg ts<=n:=by rw [uC] at hd;omega
    have both:RcAt A s (.ref p) (.ref p') (qT ts us)/\RcNeAt A s (.ref p) (.ref p') (!qT ts us):=by
     by_cases hsz:ts.length=us.length
     ·have hs:its.toArray.size=its2.toArray.size:=by rw [List.size_toArray,List.size_toArray];omega
      have it:=items hdn h1 h2 r1 r2
      have e1:(List.range its.toArray.size).all (eAt ts us)=qT ts us:=by
       rw [List.size_toArray,<- m1,<- l1];exact zax hsz
      have a1:=RcAt.lists pl.isList pl'.isList hs hA' it
      have a2:=RcNeAt.lists pl.isList pl'.isList hs hA' it
      rw [e1] at a1 a2
      exact⟨a1,a2⟩
     ·have hs:(its.toArray.size != its2.toArray.size)=true:=by
       rw [List.size_toArray,List.size_toArray,bne_iff_ne];omega
      rw [Y7 hsz]
      exact⟨.lists_lengths pl.isList pl'.isList hs hA',.lists_lengths pl.isList pl'.isList hs hA'⟩
    rw [teq]
    refine⟨both.1,both.2,?_⟩
    by_cases hpp:p=p'
    ·subst hpp
     have e:Tr.lst ts=Tr.lst us:=UJ I (n+1) hd (show TrAt X.K H (.lst ts) (.ref p) by rw [TrAt];exact⟨p,xs,rfl,q,h1⟩) hu0
     cases e
     rw [ZD]
     exact .same _
    ·exact .of_refs hpp both.1
  | tup ts =>
   rw [TrAt] at ht;obtain⟨p,xs,rfl,q,h1⟩:=ht;cases ra
   obtain⟨its,r1,pl,_⟩:=I.tuple q
   cases u with
   | non=>rw [TrAt] at hu;subst hu;cases rb;simp only [teq];exact⟨.tuple_none pl hA',.tuple_none pl hA',.tuple_none pl hA'⟩
   | bl b=>rw [TrAt] at hu;subst hu;cases rb;simp only [teq];exact⟨.tuple_bool _ pl hA',.tuple_bool _ pl hA',.tuple_bool _ pl hA'⟩
   | int b=>rw [TrAt] at hu;subst hu;obtain⟨_,rfl⟩:=rb;simp only [teq];exact⟨.tuple_int _ _ pl hA',.tuple_int _ _ pl hA',.tuple_int _ _ pl hA'⟩
   | str b=>rw [TrAt] at hu;subst hu;obtain⟨_,rfl⟩:=rb;simp only [teq];exact⟨.tuple_str _ _ pl hA',.tuple_str _ _ pl hA',.tuple_str _ _ pl hA'⟩
   | lst us=>rw [TrAt] at hu;obtain⟨p',ys,rfl,q',_⟩:=hu;cases rb;obtain⟨_,_,pl',_⟩:=I.list q';simp only [teq];exact⟨.tuple_list pl pl'.isList hA',.tuple_list pl pl'.isList hA',.tuple_list pl pl'.isList hA'⟩
   | tup us =>
    have hu0:=hu
    rw [TrAt] at hu;obtain⟨p',ys,rfl,q',h2⟩:=hu;cases rb
    obtain⟨its2,r2,pl',_⟩:=I.tuple q'
    have l1:=h1.length
    have l2:=h2.length
    have m1:=r1.length
    have m2:=r2.length
    have hdn:wg ts<=n:=by rw [uC] at hd;omega
    have e1:((List.range (min its.toArray.size its2.toArray.size)).all (eAt ts us) && its.toArray.size == its2.toArray.size)=qT ts us:=by
     rw [List.size_toArray,List.size_toArray,<- m1,<- l1,<- m2,<- l2]
     by_cases hsz:ts.length=us.length
     ·rw [<- hsz,Nat.min_self,beq_self_eq_true,Bool.and_true];exact zax hsz
     ·rw [Y7 hsz,beq_eq_false_iff_ne.mpr hsz,Bool.and_false]
    have it:=items hdn h1 h2 r1 r2
    have a1:=RcAt.tuples pl pl' hA' it
    have a2:=RcNeAt.tuples pl pl' hA' it
    rw [e1] at a1 a2
    rw [teq]
    refine⟨a1,a2,?_⟩
    by_cases hpp:p=p'
    ·subst hpp
     have e:Tr.tup ts=Tr.tup us:=UJ I (n+1) hd (show TrAt X.K H (.tup ts) (.ref p) by rw [TrAt];exact⟨p,xs,rfl,q,h1⟩) hu0
     cases e
     rw [ZD]
     exact .same _
    ·exact .of_refs hpp a1
  | non=>exact absurd (Nat.zero_le _) hz
  | bl b=>exact absurd (Nat.zero_le _) hz
  | int b=>exact absurd (Nat.zero_le _) hz
  | str b=>exact absurd (Nat.zero_le _) hz
end
section
variable {X:Cx}
def ze9 (K:W.Frag) (neg:Bool):R2:=λx y H Q=>∃ t u,TrAt K H t x/\TrAt K H u y/\uC t<=8/\Q (.bl (if neg then !teq t u else teq t u)) H
theorem zgg (hu:X.A.units+64<cLine):OpR X (compareOp .Eq) (ze9 X.K false):=by
 intro pins s σ H x y v u Q I rx ry h
 obtain⟨t,t',h1,h2,hd,q⟩:=h
 exact (Us I 8 hd h1 h2 rx ry (by omega)).rc _ _ _ _ ⟨.bl _,H,I,rfl,q⟩
theorem zgk (hu:X.A.units+64<cLine):OpR X (compareOp .NotEq) (ze9 X.K true):=by
 intro pins s σ H x y v u Q I rx ry h
 obtain⟨t,t',h1,h2,hd,q⟩:=h
 exact (Us I 8 hd h1 h2 rx ry (by omega)).ne _ _ _ _ ⟨.bl _,H,I,rfl,q⟩
open Classical in
def zeQ (K:W.Frag) (neg:Bool):R2:=λx y H Q=>∃ p xs ts u,y=.ref p/\SqL K H p xs/\TrsAt K H ts xs/\TrAt K H u x/\wg ts<=8/\Q (.bl (if neg then !(ts.any λt=>teq t u) else ts.any λt=>teq t u)) H
open Classical in
theorem zaF {pins:List (Addr×Obj)} {σ:St} {H:Hp} {s:Shared} (I:Inv X pins σ H s) {u:Tr}:∀ {ts:List Tr} {xs:List V} {its:List Value},wg ts<=8->TrsAt X.K H ts xs->Vals xs its ->
  its.any (λy=>decide (∃ t x,RelV x y/\TrAt X.K H t x/\teq t u=true))=ts.any λt=>teq t u
 | [],xs,its,_,h,r=>by rw [TrsAt] at h;subst h;cases r;rfl
 | t :: ts,xs,its,hd,h,r=>by
  rw [TrsAt] at h
  obtain⟨y,ys,rfl,hy,h⟩:=h
  cases r with
  | cons r1 r2 =>
   rw [wg] at hd
   rw [List.any_cons,List.any_cons,zaF I (by omega) h r2]
   congr 1
   rw [Bool.eq_iff_iff,decide_eq_true_iff]
   constructor
   ·rintro⟨t',x',r',h',e⟩
    rw [r1.inj r'] at hy
    rw [UJ I 8 (by omega) hy h'];exact e
   ·intro e
    exact⟨t,y,r1,hy,e⟩
open Classical in
theorem Uj {pins:List (Addr×Obj)} {σ:St} {H:Hp} {s:Shared} (I:Inv X pins σ H s) (hu:X.A.units+64<cLine) {u:Tr} {x:V} {v:Value} (hx:TrAt X.K H u x) (rx:RelV x v) {ts:List Tr} {xs:List V} {its:List Value} (hd:wg ts<=8) (h:TrsAt X.K H ts xs) (r:Vals xs its) :
  ∀ y,y∈its.toArray->SeqAt.EqAt X.A.in1 s y v (decide (∃ t x,RelV x y/\TrAt X.K H t x/\teq t u=true)):=by
 intro y hy
 have hy':y∈its:=by simpa using hy
 obtain⟨j,hj,e⟩:=List.getElem_of_mem hy'
 have l1:=h.length
 have m1:=r.length
 obtain⟨t,et⟩:∃ t,ts[j]?=some t:=⟨_,List.getElem?_eq_getElem (by omega)⟩
 obtain⟨z,ez,hz⟩:=h.get et
 obtain⟨w,ew,rw'⟩:=r.get ez
 have e':y=w:=by
  rw [List.getElem?_eq_getElem hj] at ew
  exact e.symm.trans (Option.some.inj ew)
 subst e'
 have hd':uC t<=8:=Nat.le_trans (Y6 (List.mem_of_getElem? et)) hd
 have q:=(Us I 8 (A:=X.A.in1) hd' hz hx rw' rx (by rw [units_in1];omega)).eq
 have e2:decide (∃ t x,RelV x y/\TrAt X.K H t x/\teq t u=true)=teq t u:=by
  rw [Bool.eq_iff_iff,decide_eq_true_iff]
  constructor
  ·rintro⟨t',x',r',h',e3⟩
   rw [rw'.inj r'] at hz
   rw [UJ I 8 hd' hz h'];exact e3
  ·intro e3
   exact⟨t,z,rw',hz,e3⟩
 rw [e2]
 exact q
open Classical in
theorem zgd (hu:X.A.units+64<cLine):OpR X (compareOp .In) (zeQ X.K false):=by
 intro pins s σ H x y v u Q I rx ry h
 obtain⟨p,xs,ts,t,rfl,hq,hts,ht,hd,q⟩:=h
 cases ry
 obtain⟨its,r,pl,hz⟩:=I.list hq
 refine SeqAt.in_listAt _ pl.isList (Uj I hu ht rx hd hts r) ⟨.bl _,H,I,rfl,?_⟩
 simp only [List.any_toArray]
 rw [zaF I hd hts r]
 exact q
open Classical in
theorem zcV (hu:X.A.units+64<cLine):OpR X (compareOp .NotIn) (zeQ X.K true):=by
 intro pins s σ H x y v u Q I rx ry h
 obtain⟨p,xs,ts,t,rfl,hq,hts,ht,hd,q⟩:=h
 cases ry
 obtain⟨its,r,pl,hz⟩:=I.list hq
 refine SeqAt.notIn_listAt _ pl.isList (Uj I hu ht rx hd hts r) ⟨.bl _,H,I,rfl,?_⟩
 simp only [List.any_toArray]
 rw [zaF I hd hts r]
 exact q
end
end L2
namespace L2
open PySem PySem.Spec PyProof.Rows
theorem Qe {K:W.Frag} {T U:String} {b:Bool} (h1:W.kitMeta U=true) (h2:(fastBuiltinMro T).map (·.contains (Value.type U))=some b) (hb:T=U->b=true):W.kitOne K (.type T) (.type U)=some b:=by
 unfold W.kitOne
 by_cases e:T=U
 ·subst e
  rw [if_pos (by simp),hb rfl]
 ·rw [if_neg (by simpa using e)]
  show (if W.kitMeta U=true then W.subIn K (.type T) (.type U) else none)=some b
  rw [if_pos h1]
  exact h2
section
variable {K:W.Frag}
theorem Jj:W.kitOne K (.type "list") (.type "list")=some true:=Qe (by decide +kernel) (by decide +kernel) (λ_=>rfl)
end
section
variable {X:Cx}
def zgV (K:W.Frag):List V->Hp->VK->Prop:=λxs H Q=>∃ x T t b,xs=[x,.ty T]/\WX K H x t/\W.kitOne K t (.type T)=some b/\Q (.bl b) H
theorem zdU:vB X (.builtin "isinstance") (zgV X.K):=by
 intro pins s σ H xs us Q I r h
 obtain⟨x,T,t,b,rfl,ty,e,q⟩:=h
 obtain⟨u,v,rfl,rx,rt⟩:=vals2 r
 cases rt
 exact zc3 I rx ty e λtk=>⟨.bl b,H,I.tok tk,rfl,q⟩
def zgI (i j:Int):Prop:=0<j/\j<2^200
theorem W4:OpR X (binaryOp .FloorDiv) (rI zgI λi j=>.int (i / j)):=opI λi j _ _ _ _ _ hc q=>by
 have h1:(0:Int)<j:=hc.1
 have h2:j<2^200:=hc.2
 refine floordiv_int (by omega) (by rw [Int.fdiv_eq_ediv_of_nonneg i (by omega)];exact q) (.inl (PyProof.noPylong_of_log2 ?_))
 have h3:j.natAbs<2^200:=by omega
 have h4:j.natAbs.log2<200:=(Nat.log2_lt (by omega)).mpr h3
 omega
theorem VJ {P:Program} {w:World} {A:Around} {its:List Value} {bs:List Bool} (r:Vals (bs.map V.bl) its):TruthOf P w A (λi v=>its.toArray[i]?=some v) (λi=>bs.getD i false):=by
 intro i v s Q E hP hQ
 have hl:=r.length
 rw [List.length_map] at hl
 have e:its[i]?=some v:=by simpa using hP
 have hi:i<its.length:=(List.getElem?_eq_some_iff.mp e).1
 have e2:(bs.map V.bl)[i]?=some (.bl (bs[i]'(by omega))):=by rw [List.getElem?_map,List.getElem?_eq_getElem (by omega)];rfl
 obtain⟨u,e3,r3⟩:=r.get e2
 rw [e] at e3
 cases e3
 cases r3
 have e4:bs.getD i false=bs[i]:=by rw [List.getD_eq_getElem?_getD,List.getElem?_eq_getElem (by omega)];rfl
 exact wpAny_truthy_bool (e4▸hQ)
theorem zbt:∀ bs:List Bool,(List.range bs.length).all (λi=>bs.getD i false)=bs.all id
 | []=>rfl
 | b :: bs=>by
  rw [List.length_cons,List.range_succ_eq_map,List.all_cons,List.all_map,List.all_cons,<- zbt bs]
  rfl
theorem za3:∀ bs:List Bool,(List.range bs.length).any (λi=>bs.getD i false)=bs.any id
 | []=>rfl
 | b :: bs=>by
  rw [List.length_cons,List.range_succ_eq_map,List.any_cons,List.any_map,List.any_cons,<- za3 bs]
  rfl
def zgK (K:W.Frag):List V->Hp->VK->Prop:=λxs H Q=>∃ (a:Addr) (bs:List Bool),xs=[.ref a]/\SqL K H a (bs.map V.bl)/\Q (.bl (bs.all id)) H
def zgE (K:W.Frag):List V->Hp->VK->Prop:=λxs H Q=>∃ (a:Addr) (bs:List Bool),xs=[.ref a]/\SqL K H a (bs.map V.bl)/\Q (.bl (bs.any id)) H
theorem zeb (hc:X.calm=true):vB X (.builtin "all") (zgK X.K):=by
 intro pins s σ H xs us Q I r h
 obtain⟨a,bs,rfl,hq,q⟩:=h
 obtain⟨u,rfl,rx⟩:=vals1 r
 cases rx
 obtain⟨its,rv,pl,hz⟩:=I.list hq
 have hl:=rv.length
 rw [List.length_map] at hl
 obtain⟨o,n,eo,_⟩:=id pl
 have hne:a≠s.heap.objs.size:=Nat.ne_of_lt (Heap.lt_size eo)
 refine call_all_walk (wpAny_pyIter_list pl.isList ?_)
 refine⟨_,_,_,_,_,_,_,rfl,Walks.list (A:=X.A.in1) (show X.A.in1.handled=none from I.ok.hd hc) s.heap.objs.size a hne its.toArray,⟨⟨_,Heap.get?_push_size _ rfl,rfl,rfl⟩,pl.isList.at λo e=>Heap.get?_push_of_some _ e⟩,VJ rv,λh' tk hk=>?_⟩
 have I1:Inv X pins σ H { s with heap:=h',toks:=tk }:=I.kept λb o e=>hk b o (by have:=Heap.lt_size e;simp;exact Nat.ne_of_lt this) (Heap.get?_push_of_some _ e)
 refine⟨.bl _,H,I1,rfl,?_⟩
 rw [List.size_toArray,<- hl,zbt]
 exact q
theorem zes (hc:X.calm=true):vB X (.builtin "any") (zgE X.K):=by
 intro pins s σ H xs us Q I r h
 obtain⟨a,bs,rfl,hq,q⟩:=h
 obtain⟨u,rfl,rx⟩:=vals1 r
 cases rx
 obtain⟨its,rv,pl,hz⟩:=I.list hq
 have hl:=rv.length
 rw [List.length_map] at hl
 obtain⟨o,n,eo,_⟩:=id pl
 have hne:a≠s.heap.objs.size:=Nat.ne_of_lt (Heap.lt_size eo)
 refine call_any_walk (wpAny_pyIter_list pl.isList ?_)
 refine⟨_,_,_,_,_,_,_,rfl,Walks.list (A:=X.A.in1) (show X.A.in1.handled=none from I.ok.hd hc) s.heap.objs.size a hne its.toArray,⟨⟨_,Heap.get?_push_size _ rfl,rfl,rfl⟩,pl.isList.at λo e=>Heap.get?_push_of_some _ e⟩,VJ rv,λh' tk hk=>?_⟩
 have I1:Inv X pins σ H { s with heap:=h',toks:=tk }:=I.kept λb o e=>hk b o (by have:=Heap.lt_size e;simp;exact Nat.ne_of_lt this) (Heap.get?_push_of_some _ e)
 refine⟨.bl _,H,I1,rfl,?_⟩
 rw [List.size_toArray,<- hl,za3]
 exact q
def zfu (K:W.Frag) (te:TE):TE:=fun σ H Q=>te σ H λx H1=>∃ a xs,x=.ref a/\SqL K H1 a xs/\∀ p,H1 p=none->Q (.ref p) (upd H1 p (.lst xs.reverse))
theorem za2 {e:Expr} {te:TE} {j:Nat} {p1 p2 p3 pos:Pos} (he:PE X e te):PE X (.Subscript e (.Slice none none (some (.UnaryOp .USub (.Constant (.int 1) j p1) p2)) p3) pos) (zfu X.K te):=by
 intro pins s σ H Q I h
 refine Subscript_ (thn (he pins s σ H _ I h) λv s1 ⟨x,H1,I1,r1,q1⟩=>?_)
 obtain⟨a,xs,rfl,hx,q⟩:=q1
 cases r1
 refine wpAny_Slice ?_
 rw [evalPart_none]
 refine wpAny_pure (wpAny_pure ?_)
 rw [evalPart_some]
 refine thn (J3 Vr (zr (X:=X)) pins s1 σ H1 (λv H2=>v=.int (-1)/\H2=H1) I1 ⟨1,rfl,rfl,rfl⟩) λu s2 ⟨y,H2,I2,r2,e1,e2⟩=>?_
 subst e1 e2
 obtain⟨t,rfl⟩:=r2
 obtain⟨its,r,ht,hz⟩:=I2.list hx
 have hlen:=r.length
 have I3:Inv X pins σ H2 { s2 with heap:=s2.heap.push { cls:=.type "slice",data:=.fields #[.none,.none,.int (-1) t] } }:=I2.kept (t':=s2.toks) λb ob q=>Heap.get?_push_of_some _ q
 obtain⟨its',r',ht',hz'⟩:=I3.list hx
 have hlen':=r'.length
 show wpAny (model X.prog X.w) X.A (subscriptTail e (.Slice none none (some _) p3) (.ref a) (.ref s2.heap.objs.size)) (EP X pins σ Q) X.xe { s2 with heap:=s2.heap.push { cls:=.type "slice",data:=.fields #[.none,.none,.int (-1) t] } }
 refine tail_any (ops:=[.ref a,.ref s2.heap.objs.size]) ht'.isList.typeIs slot_list_getitem.lookup ?_ (by with_unfolding_all rfl)
 refine wpAny_getItem_list_slice ht'.isList (Heap.IsSliceOf.new ..) .none .none (.int (-1) t) (by simp) ?_ (by rw [List.size_toArray]<;>omega)
 rw [W.krv_pick]
 refine⟨.ref _,_,I3.laid (t':=s2.toks) (o:=.lst xs.reverse) (λb ob q=>Heap.get?_push_of_some _ q) (Nat.le_refl _) ?_,rfl,q _ (I3.hok.fresh (Nat.le_refl _))⟩
 exact⟨by rw [List.length_reverse];exact hz,_,0,r'.reverse,Heap.get?_push_size _ rfl⟩
theorem zdC:typeLookup (.type "list_reverseiterator") "__len__" = pure none:=by rw [typeLookup_type,builtinLookup_eq_fast];kernel_rfl
theorem zfe:typeLookup (.type "list_reverseiterator") "__length_hint__" = pure (some (.builtin "list_reverseiterator.__length_hint__")):=by rw [typeLookup_type,builtinLookup_eq_fast];kernel_rfl
section
variable {prog:Program} {w:World} {A:Around} {E:Value->Shared->Prop} {s:Shared}
theorem zbT {R:Result->Shared->Prop} (hh:A.handled=none) {I l:Addr} {items:Array Value} (hit:s.heap.IsRevIter I l ((items.size:Int)-1)) (hL:s.heap.IsList l items) (S:Addr) (res:Value) (c₀:Nat) (hS:s.heap.get? S=some { cls:=.type "list",data:=.seq #[] c₀ })
  (hSl:S≠l) (hR:∀ s' acc' c',Moved [S,I] (λa b=>b=a) s s'->s'.heap.get? S=some { cls:=.type "list",dict:=none,data:=.seq acc' c',slots:=#[] } ->
   ItemsOf (λi v=>items[items.size-1-i]?=some v) acc' items.size->R (.ok (.ret res)) s') (hn:items.size<=sizeLine) :
  wpAny (model prog w) A.in1 (Builtin.List.listExtendWith (.ref S) (.ref I) res)
   (λfin s'=>match fin with | .done f=>R (.ok f) s' | .again c'=>c'.quiet=true/\codeAny (model prog w) A c' R s') (λe s'=>R (.error e) s') s:=by
 obtain⟨oi,hoi,hci,hdi⟩:=id hit
 obtain⟨ol,hol,hcl,nl,hdl⟩:=id hL
 have hSI:S≠I:=by
  rintro rfl
  rw [hS] at hoi;cases hoi;exact absurd (show Value.type "list" = Value.type "list_reverseiterator" from hci) (by decide)
 have hne:l≠I:=by
  rintro rfl
  rw [hol] at hoi;cases hoi;rw [hcl] at hci;exact absurd hci (by decide)
 have hSf:S∉[I,l]:=λhm=>by
  rcases List.mem_cons.mp hm with e | hm
  ·exact hSI e
  ·exact hSl (List.mem_singleton.mp hm)
 unfold Builtin.List.listExtendWith
 refine wpAny_bind (wpAny_typeOf (T:="list_reverseiterator") hit.typeIs ?_)
 have h1:Builtin.List.listSameRef (.ref S) (.ref I)=false:=by simp [Builtin.List.listSameRef,hSI]
 have h2:(Value.type "list_reverseiterator" == Value.type "list")=false:=by decide
 have h3:(Value.type "list_reverseiterator" == Value.type "tuple")=false:=by decide
 simp only [h1,h2,h3,Bool.or_false,Bool.false_eq_true,if_false]
 refine wpAny_bind (wpAny_pyIter_revIter hit ?_)
 refine wpAny_bind (wpAny_holding ?_)
 unfold Builtin.List.listLengthHint
 refine wpAny_bind (wpAny_specialOf hit.typeIs zdC ?_)
 show wpAny _ A.in1 (specialOf (Value.ref I) (Str.ofString "__length_hint__") >>= _) _ _ _
 refine wpAny_bind (wpAny_specialOf hit.typeIs zfe ?_)
 generalize hid:("list_reverseiterator.__length_hint__" : String)=id0
 wp_delta
 rw [show splitId id0=some ("list_reverseiterator","__length_hint__") from by subst hid;decide +kernel]
 subst hid
 refine wpAny_bind (wpAny_isInstance (b:=true) hit.typeIs (by rw [isSubtype_type];kernel_rfl) ?_)
 refine wpAny_pure ?_
 rw [if_neg (by decide)]
 have W:=Walks.listRev (prog:=prog) (w:=w) (A:=A.in1) hh I l hne items
 refine wpAny_pure ⟨plainId_quiet F.plain_extend_loop _,codeAny_extend_loopS W.toS hn _ hSf _ items.size 0 _ _ _ rfl (Nat.zero_le _) ⟨Nat.zero_le _,by simpa using hit,hL⟩ hS (ItemsOf.nil _) λs' acc' c' hm hS' hacc=>?_⟩
 exact hR s' acc' c' hm hS' hacc
theorem zdI {R:Result->Shared->Prop} (hh:A.handled=none) {I l:Addr} {items:Array Value} (hit:s.heap.IsRevIter I l ((items.size:Int)-1)) (hL:s.heap.IsList l items) (S:Addr) (hS:s.heap.get? S=some { cls:=.type "list",data:=.seq #[] }) (hSl:S≠l) (hSI:S≠I)
  (hR:∀ s' acc' c',s'.gens=s.gens->s'.os=s.os->(∀ b o,b≠S->b≠I->s.heap.get? b=some o->s'.heap.get? b=some o)->s'.heap.get? S=some { cls:=.type "list",dict:=none,data:=.seq acc' c',slots:=#[] } ->
   ItemsOf (λi v=>items[items.size-1-i]?=some v) acc' items.size->R (.ok (.ret .none)) s') (hn:items.size<=sizeLine) :
  wpAny (model prog w) A.in1 (Builtin.«list.__init__» ⟨[.ref S,.ref I],[]⟩)
   (λfin s'=>match fin with | .done f=>R (.ok f) s' | .again c'=>c'.quiet=true/\codeAny (model prog w) A c' R s') (λe s'=>R (.error e) s') s:=by
 show wpAny _ _ (do let old <- Builtin.List.listItems (.ref S);Builtin.List.listUpdate (.ref S) (λ_=>#[]);letGo old.toList.reverse;Builtin.List.listExtendWith (.ref S) (.ref I) .none) _ _ s
 refine wpAny_bind ?_
 unfold Builtin.List.listItems
 refine wpAny_bind (wpAny_seqItems hS rfl (wpAny_pure ?_))
 show wpAny _ _ (updateSeq S (λ_=>#[]) >>= λ_=>letGo (#[]:Array Value).toList.reverse >>= λ_=>Builtin.List.listExtendWith (.ref S) (.ref I) .none) _ _ s
 refine wpAny_bind (wpAny_updateSeq hS rfl ?_)
 have hS₂:=Heap.get?_update_self (Obj.mapSeq (λ_=>(#[]:Array Value))) hS rfl
 have oth:∀ b o,b≠S->s.heap.get? b=some o->(s.heap.update S (Obj.mapSeq (λ_=>(#[]:Array Value)))).get? b=some o :=
  λb o hb e=>(Heap.get?_update_other _ _ (Ne.symm hb)).trans e
 refine wpAny_bind (wpAny_letGo ?_)
 refine zbT (hn:=hn) hh (hit.at λo e=>oth I o (Ne.symm hSI) e) (hL.at λo e=>oth l o (Ne.symm hSl) e) S .none _ hS₂ hSl λs' acc' c' hm hS' hacc=>?_
 refine hR s' acc' c' hm.gens hm.os (λb o hb hi e=>hm.heap b o (λz=>?_) (oth b o hb e)) hS' hacc
 rcases List.mem_cons.mp z with e' | z
 ·exact hb e'
 ·exact hi (List.mem_singleton.mp z)
theorem WM {Q:Value->Shared->Prop} (hh:A.handled=none) {I l:Addr} {items:Array Value} (hit:s.heap.IsRevIter I l ((items.size:Int)-1)) (hL:s.heap.IsList l items)
  (hQ:∀ s' acc' c',s'.gens=s.gens->s'.os=s.os->(∀ b o,b≠I->s.heap.get? b=some o->s'.heap.get? b=some o) ->
   s'.heap.get? s.heap.objs.size=some { cls:=.type "list",dict:=none,data:=.seq acc' c',slots:=#[] }->ItemsOf (λi v=>items[items.size-1-i]?=some v) acc' items.size->Q (.ref s.heap.objs.size) s') (hn:items.size<=sizeLine) :
  wpAny (model prog w) A (call (.type "list") [.ref I]) Q E s:=by
 refine callType_codes (Q₁:=λobj s₁=>obj=.ref s.heap.objs.size/\s₁={ s with heap:=s.heap.push { cls:=.type "list",data:=.seq #[] } }) F.called_list (F.typeCall_list_1 _) F.entry_list_init
  (code_list_new _ ⟨rfl,rfl⟩) λobj s₁ h₁=>?_
 obtain⟨rfl,rfl⟩:=h₁
 have hS:(s.heap.push { cls:=.type "list",data:=.seq #[] }).get? s.heap.objs.size=some { cls:=.type "list",data:=.seq #[] }:=Heap.get?_push_size _ rfl
 obtain⟨oi,hoi,_⟩:=id hit
 obtain⟨ol,hol,_⟩:=id hL
 refine⟨⟨_,hS,rfl⟩,F.args_list_init_2 _ _,zdI (A:=A.in1) (hn:=hn) hh (hit.at λo e=>Heap.get?_push_of_some _ e) (hL.at λo e=>Heap.get?_push_of_some _ e) _ hS (Nat.ne_of_gt (Heap.lt_size hol)) (Nat.ne_of_gt (Heap.lt_size hoi)) λs' acc' c' hg ho hk hS' hacc=>?_⟩
 exact⟨rfl,hQ s' acc' c' hg ho (λb o hI e=>hk b o (Nat.ne_of_lt (Heap.lt_size e)) hI (Heap.get?_push_of_some _ e)) hS' hacc⟩
end
theorem zdv {items acc:Array Value} (h:ItemsOf (λi v=>items[items.size-1-i]?=some v) acc items.size):acc=items.toList.reverse.toArray:=by
 apply Array.ext_getElem?
 intro i
 by_cases hi:i<items.size
 ·have e:acc[i]?=some (acc[i]'(by rw [h.1];exact hi)):=Array.getElem?_eq_getElem _
  have q:=h.2 i _ e
  rw [e,<- q]
  simp [List.getElem?_reverse,hi]
 ·rw [Array.getElem?_eq_none (by rw [h.1];omega),Array.getElem?_eq_none (by simp;omega)]
def zez (K:W.Frag) (te:TE):TE:=fun σ H Q=>te σ H λx H1=>∃ (l:Addr) (ys:List V),x=.ref l/\SqL K H1 l ys/\∀ q,H1 q=none->Q (.ref q) (upd H1 q (.lst ys.reverse))
theorem zcc {e:Expr} {te:TE} {p1 p2 pos1 pos2:Pos} (hc:X.calm=true) (hg1:Gl X "list") (hm1:X.mg "list" = none) (hg2:Gl X "reversed") (hm2:X.mg "reversed" = none) (he:PE X e te)
  (hs:starEach [e] X.env=[(false,eval e X.env)]:=by rfl) (hs2:starEach [.Call (.Name "reversed" p2) [e] [] pos2] X.env=[(false,eval (.Call (.Name "reversed" p2) [e] [] pos2) X.env)]:=by rfl) :
  PE X (.Call (.Name "list" p1) [.Call (.Name "reversed" p2) [e] [] pos2] [] pos1) (zez X.K te):=by
 intro pins s σ H Q I h
 refine wpAny_Call_Name_kw (Zk I hg1 hm1 boot_list ?_)
 refine PyProof.Rows.callWith_type1 ?_ hs2 rfl
 rw [hs2]
 show wpAny _ _ (spliced ((false,eval (.Call (.Name "reversed" p2) [e] [] pos2) X.env) :: backTo pos1 [])) _ _ s
 refine Calls.spliced_cons ?_
 refine wpAny_Call_Name_kw (Zk I hg2 hm2 boot_reversed ?_)
 refine PyProof.Rows.callWith_type1 ?_ hs rfl
 rw [hs]
 show wpAny _ _ (spliced ((false,eval e X.env) :: backTo pos2 [])) _ _ s
 refine Calls.spliced_cons (thn (he pins s σ H _ I h) λv s1 ⟨x,H1,I1,r1,q1⟩=>Calls.spliced_nil ?_)
 obtain⟨l,ys,rfl,hq,q⟩:=q1
 cases r1
 obtain⟨its,rv,pl,hz⟩:=I1.list hq
 have hl:=rv.length
 refine call_reversed_list pl.isList (Calls.spliced_nil ?_)
 have hsz:(its.toArray.size:Int)=(ys.length:Int):=by rw [List.size_toArray,hl]
 refine WM (s:={ s1 with heap:=s1.heap.push (revObj l ((its.toArray.size:Int)-1)) }) (I1.ok.hd hc) (I:=s1.heap.objs.size) (l:=l) (items:=its.toArray) ⟨_,Heap.get?_push_size _ rfl,rfl,rfl⟩ (pl.isList.at λo e=>Heap.get?_push_of_some _ e) (λs' acc c hgn ho hk hS hacc=>?_) (by rw [List.size_toArray,<- hl];exact hz)
 have e1:(s1.heap.push (revObj l ((its.toArray.size:Int)-1))).objs.size=s1.heap.objs.size+1:=Heap.size_push _ _
 rw [show ({ s1 with heap:=s1.heap.push (revObj l ((its.toArray.size:Int)-1)) }:Shared).heap.objs.size=s1.heap.objs.size+1 from e1] at hS ⊢
 have kept:∀ b o,s1.heap.get? b=some o->s'.heap.get? b=some o:=λb o e=>hk b o (Nat.ne_of_lt (Heap.lt_size e)) (Heap.get?_push_of_some _ e)
 have hokL:=I1.laid (a:=s1.heap.objs.size+1) (o:=.lst ys.reverse) (h':=s'.heap) (t':=s'.toks) kept (Nat.le_succ _) ⟨by rw [List.length_reverse];exact hz,its.reverse,c,rv.reverse,by rw [hS,zdv hacc]⟩
 have I2:Inv X pins σ (upd H1 (s1.heap.objs.size+1) (.lst ys.reverse)) s':=by
  refine I1.call' (ch:=[]) (by rw [ho]) ?_ hokL.hok (by rw [hgn];exact I1.bare) λb z=>absurd z (by simp)
  exact Un.laid kept (Nat.le_succ _) (I1.hok.fresh (Nat.le_succ _))
 exact⟨.ref _,_,I2,rfl,q _ (I1.hok.fresh (Nat.le_succ _))⟩
end
section
variable {X:Cx} (K:W.Frag)
theorem YK (e:X.K=K:=by rfl):vB X (.builtin "isinstance") (zgV K):=by subst e;exact zdU
theorem wF (e:X.K=K:=by rfl):vB X (.builtin "len") (λxs H Q=>∃ p ys,xs=[.ref p]/\(SqL K H p ys\/SqT K H p ys)/\Q (.int ys.length) H):=by subst e;exact zaJ
theorem yO (e:X.K=K:=by rfl):IxR X (zf7 K):=by subst e;exact zeP
theorem wU (e:X.K=K:=by rfl):IxR X (zgY K):=by subst e;exact zf6
theorem Y9 (e:X.K=K:=by rfl):SlR X (zeS K):=by subst e;exact zff
theorem k_all (hc:X.calm=true) (e:X.K=K:=by rfl):vB X (.builtin "all") (zgK K):=by subst e;exact zeb hc
theorem zeF (hc:X.calm=true) (e:X.K=K:=by rfl):vB X (.builtin "any") (zgE K):=by subst e;exact zes hc
theorem Z0 (e:X.K=K:=by rfl):vB X (.type "list") (λxs H Q=>∃ p ys,xs=[.ref p]/\(SqL K H p ys\/SqT K H p ys)/\∀ l,H l=none->Q (.ref l) (upd H l (.lst ys))):=by subst e;exact zaO
theorem zcF (hu:X.A.units+64<cLine) (e:X.K=K:=by rfl):OpR X (compareOp .Eq) (ze9 K false):=by subst e;exact zgg hu
theorem Q0 (hu:X.A.units+64<cLine) (e:X.K=K:=by rfl):OpR X (compareOp .NotEq) (ze9 K true):=by subst e;exact zgk hu
theorem zfw (hu:X.A.units+64<cLine) (e:X.K=K:=by rfl):OpR X (compareOp .In) (zeQ K false):=by subst e;exact zgd hu
theorem zbx (hu:X.A.units+64<cLine) (e:X.K=K:=by rfl):OpR X (compareOp .NotIn) (zeQ K true):=by subst e;exact zcV hu
theorem X5 {tg l:Expr} {tl:TE} (hl:PE X l tl) (e:X.K=K:=by rfl):PI X tg l (zfF K tl):=by subst e;exact zeU hl
end
structure Df (K:W.Frag) (mg:Str->Option Value) (x:Str) (st:Stmt) (ps:List Str) (f:Addr) (fd:FuncData):Prop where
 fn:Fun K x x st f fd
 b:Binds K fd ps []
 g:mg x=some (.ref f)
theorem zJ {X:Cx} {x:Str} {st:Stmt} {ps:List Str} {f:Addr} {fd:FuncData} {k:Nat} {sp:Sp} {e:Expr} {es:List Expr} {t:TA} {p pos:Pos} (D:Df X.K X.mg x st ps f fd) (G:FnOk X.prog X.w X.K X.mg X.base CX0 k f fd ps sp) (hr:Room k X.A) (ha:PA X (e :: es) t) (hg:Gl X x:=by rfl)
  (hdb:(x == ("__debug__" : Str))=false:=by decide) (he:starEach (e :: es) X.env=(false,eval e X.env) :: starEach es X.env:=by rfl) (hpl:(backTo pos (starEach es X.env)).any (·.1)=false:=by rfl):PE X (.Call (.Name x p) (e :: es) [] pos) (zeI sp [] E0 t) :=
 zfg G hr hg D.g D.fn.kp D.b .nil W7 ha hdb he hpl
theorem zeq {K:W.Frag} {h:Heap} {mg:Str->Option Value} {x:Str} {st:Stmt} {ps:List Str} {f:Addr} {oc:Value} {od an:Option Addr} {osl:Array (Option Value)} {kV doc pm cdv ct:Value} (X:K.In h) (G:h.Ns mainGlobals mg)
  (a:W.nsIn K mainGlobals x=some (some (.ref f))) (l:K.lookup f=some ⟨oc,od,.func (W.fnOf x x (vz st) (xu st) (zq st) .none kV doc pm an cdv ct),osl⟩) (c:W.codeIn K cdv x=true) (k:W.keepIn K (.ref f)=true)
  (hb:∀ (kV doc pm:Value) (an:Option Addr) (cdv ct:Value) (us:List Value),us.length=ps.length->bindArgs (W.fnOf x x (vz st) (xu st) (zq st) .none kV doc pm an cdv ct) ⟨us,[]⟩=pure (ps.zip us)) :
  Df K mg x st ps f (W.fnOf x x (vz st) (xu st) (zq st) .none kV doc pm an cdv ct) :=
 ⟨zav l c k,(zav (st:=st) l c k).binds hb,W.mg_of X G a⟩
structure Blt (mg:Str->Option Value):Prop where
 n_isinstance:mg "isinstance" = none
 n_int:mg "int" = none
 n_bool:mg "bool" = none
 n_list:mg "list" = none
 n_tuple:mg "tuple" = none
 n_reversed:mg "reversed" = none
 n_len:mg "len" = none
 n_max:mg "max" = none
 n_min:mg "min" = none
 n_range:mg "range" = none
 n_all:mg "all" = none
 n_any:mg "any" = none
 n_sorted:mg "sorted" = none
 n_enumerate:mg "enumerate" = none
 n_repr:mg "repr" = none
theorem Wt {A:Around} {k:Nat} (hr:Room k A):A.units+64<cLine:=hr.units
def aw (fp:List Addr) (H:Hp):Hp:=λb=>if b∈fp then none else H b
theorem qI {fp:List Addr} {H:Hp} {b:Addr} (h:b∈fp):aw fp H b=none:=by unfold aw;rw [if_pos h]
theorem zO {fp:List Addr} {H:Hp} {b:Addr} (h:b∉fp):aw fp H b=H b:=by unfold aw;rw [if_neg h]
theorem zK (fp:List Addr) (H:Hp):Same (aw fp H) H:=λb o e=>by
 by_cases h:b∈fp
 ·rw [qI h] at e;cases e
 ·rw [zO h] at e;exact e
theorem Same.aw {H H':Hp} (h:Same H H') (fp:List Addr):Same (aw fp H) (aw fp H'):=λb o e=>by
 by_cases hb:b∈fp
 ·rw [qI hb] at e;cases e
 ·rw [zO hb] at e ⊢;exact h b o e
theorem zm {H:Hp} {p:Addr} {o:HO} (h:H p=none):Same H (upd H p o):=λb u e=>by rw [zy (zx e h)];exact e
open PySem PyProof.Rows
def unD:List (PyData×PyData)->List (Int×Int)
 | (.int k,.int v) :: r=>(k,v) :: unD r
 | _=>[]
def dD (ps:List (Int×Int)):List (PyData×PyData):=ps.map λp=>(.int p.1,.int p.2)
def dV (ps:List (Int×Int)):List (Key×V):=ps.map λp=>(.inl p.1,.int p.2)
theorem zdD:∀ {ps qs:List (Int×Int)},dV ps=dV qs->ps=qs
 | [],[],_=>rfl
 | [],_ :: _,h=>by cases h
 | _ :: _,[],h=>by cases h
 | (k,v) :: r,(k',v') :: r',h=>by
  have h':((Sum.inl k:Key),V.int v) :: dV r=(Sum.inl k',V.int v') :: dV r':=h
  injection h' with h1 h2
  injection h1 with h3 h4
  injection h3 with h3
  injection h4 with h4
  rw [h3,h4,zdD h2]
mutual
def ThAt (H:Hp):PyData->V->Prop
 | .none,v=>v=.non
 | .bool b,v=>v=.bl b
 | .int i,v=>v=.int i
 | .str x,v=>v=.str x
 | .list xs,v=>∃ a ys,v=.ref a/\H a=some (.lst ys)/\ThsAt H xs ys
 | .tuple xs,v=>∃ a ys,v=.ref a/\H a=some (.tup ys)/\ThsAt H xs ys
 | .dict kvs,v=>kvs=dD (unD kvs)/\∃ a,v=.ref a/\H a=some (.dK (dV (unD kvs)))
def ThsAt (H:Hp):List PyData->List V->Prop
 | [],ys=>ys=[]
 | d :: ds,ys=>∃ y zs,ys=y :: zs/\ThAt H d y/\ThsAt H ds zs
end
mutual
theorem ThAt.same {H H':Hp} (m:Same H H'):∀ {d:PyData} {v:V},ThAt H d v->ThAt H' d v
 | .none,v,h=>by rw [ThAt] at h ⊢;exact h
 | .bool b,v,h=>by rw [ThAt] at h ⊢;exact h
 | .int i,v,h=>by rw [ThAt] at h ⊢;exact h
 | .str x,v,h=>by rw [ThAt] at h ⊢;exact h
 | .list xs,v,h=>by
  rw [ThAt] at h ⊢
  obtain⟨a,ys,h1,h2,h3⟩:=h
  exact⟨a,ys,h1,m _ _ h2,ThsAt.same m h3⟩
 | .tuple xs,v,h=>by
  rw [ThAt] at h ⊢
  obtain⟨a,ys,h1,h2,h3⟩:=h
  exact⟨a,ys,h1,m _ _ h2,ThsAt.same m h3⟩
 | .dict kvs,v,h=>by
  rw [ThAt] at h ⊢
  obtain⟨h0,a,h1,h2⟩:=h
  exact⟨h0,a,h1,m _ _ h2⟩
theorem ThsAt.same {H H':Hp} (m:Same H H'):∀ {ds:List PyData} {ys:List V},ThsAt H ds ys->ThsAt H' ds ys
 | [],ys,h=>by rw [ThsAt] at h ⊢;exact h
 | d :: ds,ys,h=>by
  rw [ThsAt] at h ⊢
  obtain⟨y,zs,h1,h2,h3⟩:=h
  exact⟨y,zs,h1,ThAt.same m h2,ThsAt.same m h3⟩
end
theorem ThsAt.len {H:Hp}:∀ {ds:List PyData} {ys:List V},ThsAt H ds ys->ys.length=ds.length
 | [],ys,h=>by rw [ThsAt] at h;rw [h];rfl
 | d :: ds,ys,h=>by
  rw [ThsAt] at h
  obtain⟨y,zs,h1,h2,h3⟩:=h
  rw [h1,List.length_cons,List.length_cons,ThsAt.len h3]
theorem ThsAt.get {H:Hp}:∀ {ds:List PyData} {ys:List V} {k:Nat} {v:V},ThsAt H ds ys->ys[k]?=some v->∃ d,ds[k]?=some d/\ThAt H d v
 | [],ys,k,v,h,e=>by rw [ThsAt] at h;rw [h] at e;simp at e
 | d :: ds,ys,k,v,h,e=>by
  rw [ThsAt] at h
  obtain⟨y,zs,h1,h2,h3⟩:=h
  rw [h1] at e
  cases k with
  | zero =>
   have e':y=v:=by simpa using e
   exact⟨d,rfl,by rw [<- e'];exact h2⟩
  | succ k=>exact ThsAt.get (ds:=ds) (k:=k) h3 (by simpa using e)
theorem ThsAt.app {H:Hp}:∀ {ds es:List PyData} {ys zs:List V},ThsAt H ds ys->ThsAt H es zs->ThsAt H (ds++es) (ys++zs)
 | [],es,ys,zs,h,q=>by rw [ThsAt] at h;rw [h];exact q
 | d :: ds,es,ys,zs,h,q=>by
  rw [ThsAt] at h
  obtain⟨y,us,h1,h2,h3⟩:=h
  rw [h1,List.cons_append,List.cons_append,ThsAt]
  exact⟨y,us++zs,rfl,h2,ThsAt.app h3 q⟩
def tyT:PyData->String
 | .none=>"NoneType" | .bool _=>"bool" | .int _=>"int" | .str _=>"str" | .list _=>"list" | .tuple _=>"tuple" | .dict _=>"dict"
theorem ThAt.ty {K:W.Frag} {H:Hp} {d:PyData} {v:V} (h:ThAt H d v):WX K H v (.type (tyT d)):=by
 cases d with
 | none=>rw [ThAt] at h;rw [h];exact .non
 | bool b=>rw [ThAt] at h;rw [h];exact .bl b
 | int i=>rw [ThAt] at h;rw [h];exact .int i
 | str x=>rw [ThAt] at h;rw [h];exact .str x
 | list xs=>rw [ThAt] at h;obtain⟨a,ys,rfl,h2,_⟩:=h;exact .lst h2
 | tuple xs=>rw [ThAt] at h;obtain⟨a,ys,rfl,h2,_⟩:=h;exact .tup h2
 | dict kvs=>rw [ThAt] at h;obtain⟨_,a,rfl,h2⟩:=h;exact .dK h2
def isS (T t:String):Bool:=t == T || (t == "bool" && T == "int")
def isT (T:String) (d:PyData):Bool:=isS T (tyT d)
section
variable {K:W.Frag}
theorem zay {T t:String} (hT:T = "int"\/T = "bool"\/T = "list"\/T = "tuple"\/T = "str") (ht:t = "NoneType"\/t = "bool"\/t = "int"\/t = "str"\/t = "list"\/t = "tuple"\/t = "dict"):W.kitOne K (.type t) (.type T)=some (isS T t):=by
 rcases hT with rfl | rfl | rfl | rfl | rfl<;>rcases ht with rfl | rfl | rfl | rfl | rfl | rfl | rfl <;>
  first
  | exact Qe (by decide +kernel) (by decide +kernel) (λ_=>rfl)
  | exact Qe (by decide +kernel) (by decide +kernel) (λe=>absurd e (by decide))
theorem Ui (d:PyData):tyT d = "NoneType"\/tyT d = "bool"\/tyT d = "int"\/tyT d = "str"\/tyT d = "list"\/tyT d = "tuple"\/tyT d = "dict":=by
 cases d<;>simp [tyT]
theorem zcP (d:PyData):W.kitOne K (.type (tyT d)) (.type "int")=some (isT "int" d):=zay (by simp) (Ui d)
theorem za0 (d:PyData):W.kitOne K (.type (tyT d)) (.type "bool")=some (isT "bool" d):=zay (by simp) (Ui d)
theorem Qz (d:PyData):W.kitOne K (.type (tyT d)) (.type "list")=some (isT "list" d):=zay (by simp) (Ui d)
theorem kit_tuple (d:PyData):W.kitOne K (.type (tyT d)) (.type "tuple")=some (isT "tuple" d):=zay (by simp) (Ui d)
end
end L2
namespace L2
open PySem PyProof.Rows
section
variable {P:Program} {w:World} {H:Hp} {h:Heap}
theorem zcy {a:Addr} {ys:List V} (ok:HOk P w H h) (e:H a=some (.lst ys)):∃ (its:List Value) (n:Nat),Vals ys its/\h.get? a=some { cls:=.type "list",data:=.seq its.toArray n }:=(ok a _ e).2
theorem zcR {a:Addr} {ys:List V} (ok:HOk P w H h) (e:H a=some (.tup ys)):∃ (its:List Value) (o:Obj) (n:Nat),Vals ys its/\h.get? a=some o/\o.cls=.type "tuple"/\o.data=.seq its.toArray n:=by
 obtain⟨_,its,r,o,h1,h2,n,h3⟩:=ok a _ e
 exact⟨its,o,n,r,h1,h2,h3⟩
theorem U0:∀ {l:List DictEntry} {vs:List (Key×Value)} {ps:List (Int×Int)},Pairs (xR P w) l vs->KV (dV ps) vs ->
  ReadsAll h (l.map (·.key)) ((dD ps).map (·.1)) []/\ReadsAll h (l.map (·.val)) ((dD ps).map (·.2)) []
 | _,_,[],pr,r=>by
  cases r;cases pr
  exact⟨.nil,.nil⟩
 | _,_,(k,v) :: ps,pr,r=>by
  have r':KV ((Sum.inl k,V.int v) :: dV ps) _:=r
  cases r' with
  | cons r1 r2 =>
   cases pr with
   | cons p1 p2 p3 =>
    obtain⟨q1,q2⟩:=U0 p3 r2
    obtain⟨e1,t1,e2⟩:=r1
    rw [<- e1] at p1
    obtain⟨t,e3⟩:=Value.isInt_shape (show Value.isInt k _=true from p1)
    refine⟨?_,?_⟩
    ·refine ReadsAll.cons (as:=[]) (bs:=[]) (d:=.int k) ?_ q1
     show Reads h (DictEntry.key _) (.int k) []
     rw [e3];exact .int _ _
    ·refine ReadsAll.cons (as:=[]) (bs:=[]) (d:=.int v) ?_ q2
     show Reads h (DictEntry.val _) (.int v) []
     rw [p2,e2];exact .int _ _
theorem Jc {as:List Addr} {d:Nat}:∀ {l:List DictEntry} {vs:List (Key×Value)} {ps:List (Int×Int)},Pairs (xR P w) l vs->KV (dV ps) vs->PyData.showableKv (dD ps)=true ->
  ReprEntriesK P w as h d l (PyData.shownKv (dD ps))
 | _,_,[],pr,r,_=>by
  cases r;cases pr
  show ReprEntriesK P w as h d [] (PyData.shownKv [])
  rw [PyData.shownKv];exact .nil
 | _,_,(k,v) :: ps,pr,r,hs=>by
  have r':KV ((Sum.inl k,V.int v) :: dV ps) _:=r
  have hs':PyData.showableKv ((.int k,.int v) :: dD ps)=true:=hs
  rw [PyData.showableKv,PyData.showable,PyData.showable,Bool.and_eq_true,Bool.and_eq_true] at hs'
  cases r' with
  | cons r1 r2 =>
   cases pr with
   | cons p1 p2 p3 =>
    obtain⟨e1,t1,e2⟩:=r1
    rw [<- e1] at p1
    obtain⟨t,e3⟩:=Value.isInt_shape (show Value.isInt k _=true from p1)
    show ReprEntriesK P w as h d _ (PyData.shownKv ((.int k,.int v) :: dD ps))
    rw [PyData.shownKv,PyData.shown,PyData.shown]
    refine .cons ?_ ?_ (Jc p3 r2 hs'.2)
    ·rw [e3];exact .of_is (ReprIs.int t (of_decide_eq_true hs'.1.1)) _ _ _
    ·rw [p2,e2];exact .of_is (ReprIs.int t1 (of_decide_eq_true hs'.1.2)) _ _ _
theorem za5:∀ ps:List (Int×Int),PyData.depthKv (dD ps)=0
 | []=>by show PyData.depthKv []=0;rw [PyData.depthKv]
 | (k,v) :: ps=>by
  show PyData.depthKv ((.int k,.int v) :: dD ps)=0
  rw [PyData.depthKv,PyData.depth,PyData.depth,za5 ps];rfl
theorem zcL {a:Addr} {ps:List (Int×Int)} (ok:HOk P w H h) (e:H a=some (.dK (dV ps))):(a == sysModules)=false/\∃ (o:Obj) (es:Array DictEntry) (n:Nat) (vs:List (Key×Value)),h.get? a=some o/\o.cls=.type "dict"/\o.data=.dict es n/\Pairs (xR P w) es.toList vs/\KV (dV ps) vs:=by
 obtain⟨_,hs,vs,r,o,es,ep,e1,ex,ed,_,pr,_⟩:=ok a _ e
 exact⟨hs,o,es,ep,vs,e1,ex.1,ed,pr,r⟩
mutual
theorem Ws (ok:HOk P w H h):∀ {d:PyData} {v:V} {u:Value},ThAt H d v->RelV v u->∃ as,Reads h u d as
 | .none,v,u,t,r=>by
  rw [ThAt] at t;subst t
  have e:u=Value.none:=r
  subst e;exact⟨_,.none⟩
 | .bool b,v,u,t,r=>by
  rw [ThAt] at t;subst t
  have e:u=Value.bool b:=r
  subst e;exact⟨_,.bool b⟩
 | .int i,v,u,t,r=>by
  rw [ThAt] at t;subst t
  obtain⟨k,rfl⟩:∃ k,u=Value.int i k:=r
  exact⟨_,.int i k⟩
 | .str x,v,u,t,r=>by
  rw [ThAt] at t;subst t
  obtain⟨k,rfl⟩:∃ k,u=Value.str x k:=r
  exact⟨_,.str x k⟩
 | .list xs,v,u,t,r=>by
  rw [ThAt] at t
  obtain⟨a,ys,rfl,ha,hx⟩:=t
  have e:u=Value.ref a:=r
  subst e
  obtain⟨its,n,rv,ho⟩:=zcy ok ha
  obtain⟨as,q⟩:=Vx ok hx rv
  exact⟨_,.list ho rfl rfl q⟩
 | .tuple xs,v,u,t,r=>by
  rw [ThAt] at t
  obtain⟨a,ys,rfl,ha,hx⟩:=t
  have e:u=Value.ref a:=r
  subst e
  obtain⟨its,o,n,rv,h1,h2,h3⟩:=zcR ok ha
  obtain⟨as,q⟩:=Vx ok hx rv
  exact⟨_,.tuple h1 h2 h3 q⟩
 | .dict kvs,v,u,t,r=>by
  rw [ThAt] at t
  obtain⟨hk,a,rfl,ha⟩:=t
  generalize unD kvs=ps at hk ha
  subst hk
  have e:u=Value.ref a:=r
  subst e
  obtain⟨_,o,es,n,vs,h1,h2,h3,h4,h5⟩:=zcL ok ha
  obtain⟨q1,q2⟩:=U0 (h:=h) h4 h5
  exact⟨_,.dict h1 h2 h3 q1 q2⟩
theorem Vx (ok:HOk P w H h):∀ {ds:List PyData} {ys:List V} {us:List Value},ThsAt H ds ys->Vals ys us->∃ as,ReadsAll h us ds as
 | [],ys,us,t,r=>by
  rw [ThsAt] at t;subst t
  cases r
  exact⟨_,.nil⟩
 | d :: ds,ys,us,t,r=>by
  rw [ThsAt] at t
  obtain⟨y,zs,rfl,h1,h2⟩:=t
  cases r with
  | cons r1 r2 =>
   obtain⟨as,q⟩:=Ws ok h1 r1
   obtain⟨bs,q2⟩:=Vx ok h2 r2
   exact⟨_,.cons q q2⟩
end
mutual
theorem zdV (ok:HOk P w H h):∀ {d:PyData} {v:V} {u:Value},ThAt H d v->RelV v u->d.showable=true->d.shown.length<=sizeLine->∃ bs,ReadAtMost h d.depth bs/\ReprK P w bs h d.depth u d.shown
 | .none,v,u,t,r,_,_=>by
  rw [ThAt] at t;subst t
  have e:u=Value.none:=r
  subst e
  exact⟨[],by simp [ReadAtMost],by rw [PyData.shown];exact .of_is ReprIs.none _ _ _⟩
 | .bool b,v,u,t,r,_,_=>by
  rw [ThAt] at t;subst t
  have e:u=Value.bool b:=r
  subst e
  exact⟨[],by simp [ReadAtMost],by rw [PyData.shown];exact .of_is (ReprIs.bool b) _ _ _⟩
 | .int i,v,u,t,r,hs,_=>by
  rw [ThAt] at t;subst t
  obtain⟨k,rfl⟩:∃ k,u=Value.int i k:=r
  rw [PyData.showable] at hs
  exact⟨[],by simp [ReadAtMost],by rw [PyData.shown];exact .of_is (ReprIs.int k (of_decide_eq_true hs)) _ _ _⟩
 | .str x,v,u,t,r,_,hz=>by
  rw [ThAt] at t;subst t
  obtain⟨k,rfl⟩:∃ k,u=Value.str x k:=r
  rw [PyData.shown] at hz
  exact⟨[],by simp [ReadAtMost],by rw [PyData.shown];exact .of_is (ReprIs.str x k hz) _ _ _⟩
 | .list xs,v,u,t,r,hs,hz=>by
  obtain⟨as,rd⟩:=Ws ok t r
  rw [ThAt] at t
  obtain⟨a,ys,rfl,ha,hx⟩:=t
  have e:u=Value.ref a:=r
  subst e
  obtain⟨its,n,rv,ho⟩:=zcy ok ha
  rw [PyData.showable] at hs
  rw [PyData.shown] at hz
  obtain⟨bs,hb,hk⟩:=Vp ok hx rv hs λs hsm=>Nat.le_trans (listText_mem_le hsm) hz
  have dd:(PyData.list xs).depth=PyData.depthAll xs+1:=by rw [PyData.depth]
  refine⟨a :: bs,ReadAtMost.cons rd (by omega) hb,?_⟩
  rw [dd,PyData.shown]
  cases its with
  | nil =>
   cases rv
   cases xs with
   | nil=>rw [PyData.shownAll,listText_nil];exact ReprK.listEmpty ho rfl rfl
   | cons _ _=>rw [ThsAt] at hx;obtain⟨_,_,z,_⟩:=hx;cases z
  | cons x l=>exact ReprK.list ho rfl rfl (not_mem_of_deeper rd (by omega) hb) (by rw [hk.length_eq];simp) λi y q=>hk.item i y (by simpa using q)
 | .tuple xs,v,u,t,r,hs,hz=>by
  obtain⟨as,rd⟩:=Ws ok t r
  rw [ThAt] at t
  obtain⟨a,ys,rfl,ha,hx⟩:=t
  have e:u=Value.ref a:=r
  subst e
  obtain⟨its,o,n,rv,h1,h2,h3⟩:=zcR ok ha
  rw [PyData.showable] at hs
  rw [PyData.shown] at hz
  obtain⟨bs,hb,hk⟩:=Vp ok hx rv hs λs hsm=>Nat.le_trans (tupleText_mem_le hsm) hz
  have dd:(PyData.tuple xs).depth=PyData.depthAll xs+1:=by rw [PyData.depth]
  refine⟨a :: bs,ReadAtMost.cons rd (by omega) hb,?_⟩
  rw [dd,PyData.shown]
  exact ReprK.tuple h1 h2 h3 (not_mem_of_deeper rd (by omega) hb) hk
 | .dict kvs,v,u,t,r,hs,hz=>by
  obtain⟨as,rd⟩:=Ws ok t r
  rw [ThAt] at t
  obtain⟨hk,a,rfl,ha⟩:=t
  generalize unD kvs=ps at hk ha
  subst hk
  have e:u=Value.ref a:=r
  subst e
  obtain⟨sy,o,es,n,vs,h1,h2,h3,h4,h5⟩:=zcL ok ha
  have dd:(PyData.dict (dD ps)).depth=0+1:=by rw [PyData.depth,za5]
  rw [PyData.showable] at hs
  refine⟨[a],ReadAtMost.cons (d:=.dict (dD ps)) (n:=0) rd (Nat.zero_le _) (by simp [ReadAtMost]),?_⟩
  rw [dd,PyData.shown]
  exact ReprK.dict h1 h2 h3 sy (by simp) (Jc h4 h5 hs)
theorem Vp (ok:HOk P w H h):∀ {ds:List PyData} {ys:List V} {us:List Value},ThsAt H ds ys->Vals ys us->PyData.showableAll ds=true->(∀ s∈PyData.shownAll ds,s.length<=sizeLine)->∃ bs,ReadAtMost h (PyData.depthAll ds) bs/\ReprAllK P w bs h (PyData.depthAll ds) us (PyData.shownAll ds)
 | [],ys,us,t,r,_,_=>by
  rw [ThsAt] at t;subst t
  cases r
  exact⟨[],by simp [ReadAtMost],by rw [PyData.shownAll];exact .nil⟩
 | d :: ds,ys,us,t,r,hs,hz=>by
  rw [ThsAt] at t
  obtain⟨y,zs,rfl,h1,h2⟩:=t
  rw [PyData.showableAll,Bool.and_eq_true] at hs
  rw [PyData.shownAll] at hz
  cases r with
  | cons r1 r2 =>
   obtain⟨b1,q1,k1⟩:=zdV ok h1 r1 hs.1 (hz _ (.head _))
   obtain⟨b2,q2,k2⟩:=Vp ok h2 r2 hs.2 λs hsm=>hz s (.tail _ hsm)
   have dd:PyData.depthAll (d :: ds)=max d.depth (PyData.depthAll ds):=by rw [PyData.depthAll]
   refine⟨b1++b2,(q1.mono (by omega)).append (q2.mono (by omega)),?_⟩
   rw [PyData.shownAll]
   exact .cons ((k1.more λb hb=>List.mem_append_left _ hb).level_le (by omega)) (k2.more_le (λb hb=>List.mem_append_right _ hb) (by omega))
end
end
end L2
namespace HT
open PySem PyProof.Rows
section
open PySem.SeqAt
open PySem.AutoSeq1 (wpAny_loadPart')
open PySem.MeetsSeq PySem.MeetsSeq2 PySem.MeetsSeq3 PySem.SeqRoads2
theorem zcS {vs:List Value} {ns:List Int} (h:IntsAre vs ns) {i:Nat} (hi:i<ns.length):∃ t,vs[i]?=some (.int (ns[i]) t):=by
 induction h generalizing i with
 | nil=>simp at hi
 | cons a t h ih =>
  cases i with
  | zero=>exact⟨t,rfl⟩
  | succ i =>
   obtain⟨t',e⟩:=ih (i:=i) (by simpa using hi)
   exact⟨t',by simpa using e⟩
theorem zfs (l b:Addr) (items items2:Array Value) (n n2:Nat) (dd dd2:Option Addr) (sl sl2:Array (Option Value)) (ns ms:List Int) (hi:IntsAre items.toList ns) (hj:IntsAre items2.toList ms) (k:Nat) :
  ∀ i:Nat,ns.length-i=k->i<=ns.length->i<=ms.length->Meets (Builtin.«list.__eq__.loop» ⟨[.ref l,.ref b,rawInt i,rawInt 0],[]⟩)
   (λ_ R s=>s.heap.get? l=some { cls:=.type "list",dict:=dd,data:=.seq items n,slots:=sl }/\s.heap.get? b=some { cls:=.type "list",dict:=dd2,data:=.seq items2 n2,slots:=sl2 } /\
    R (.ok (.ret (.bool (lexLt (ns.drop i) (ms.drop i))))) s):=by
 have z1:items.size=ns.length:=by rw [<- hi.length];simp
 have z2:items2.size=ms.length:=by rw [<- hj.length];simp
 induction k with
 | zero =>
  intro i hk h1 h2 prog w A R s h
  obtain⟨hp,g,d,tk,os⟩:=s;obtain⟨hl,hb,h⟩:=h
  have hin:i=ns.length:=by omega
  wp_walk using wpAny_loadPart' hl,wpAny_loadPart' hb
  have hi1:items[((i:Nat):Int).toNat]?=none:=by simp;omega
  have hd:ns.drop i=[]:=by simp;omega
  rw [hd] at h
  rw [hi1]
  wp_walk using wpAny_loadPart' hl,wpAny_loadPart' hb
  show R (.ok (.ret (.bool (decide (items.size<items2.size))))) _
  have e:lexLt [] (ms.drop i)=decide (items.size<items2.size):=by
   cases q:ms.drop i with
   | nil =>
    rw [XC]
    have:ms.length<=i:=by simpa using List.drop_eq_nil_iff.mp q
    exact (decide_eq_false (by omega)).symm
   | cons x y =>
    rw [Qu]
    have:i<ms.length:=by
     by_cases z:i<ms.length
     ·exact z
     ·rw [List.drop_of_length_le (by omega)] at q;cases q
    exact (decide_eq_true (by omega)).symm
  rw [<- e]
  exact h
 | succ k ih =>
  intro i hk h1 h2 prog w A R s h
  obtain⟨hp,g,d,tk,os⟩:=s;obtain⟨hl,hb,h⟩:=h
  have hlt:i<ns.length:=by omega
  obtain⟨t,et⟩:=zcS hi hlt
  have hi1:items[((i:Nat):Int).toNat]?=some (.int (ns[i]) t):=by simpa using et
  by_cases hm:i<ms.length
  ·obtain⟨u,eu⟩:=zcS hj hm
   have hi2:items2[((i:Nat):Int).toNat]?=some (.int (ms[i]) u):=by simpa using eu
   wp_walk using wpAny_loadPart' hl,wpAny_loadPart' hb
   rw [List.drop_eq_getElem_cons hlt,List.drop_eq_getElem_cons hm,uQ] at h
   have hc:((i:Int)+1)=((i+1:Nat):Int):=by push_cast;rfl
   rw [hi1,hi2]
   obtain⟨e,he,hiff⟩:=zeH A.in1 ⟨hp,g,d,tk,os⟩ (ns[i]) t (ms[i]) u
   refine wpAny_bind (he prog w _ _ ?_)
   cases e with
   | true =>
    rw [if_pos (hiff.mp rfl)] at h
    wp_walk
    rw [hc]
    exact⟨plainId_quiet plain_eq_loop _,codeAny_builtin entry_eq_loop (by
     rw [Around.under_plainId plain_eq_loop _]
     exact ih (i+1) (by omega) (by omega) (by omega) prog w A R _ ⟨hl,hb,h⟩)⟩
   | false =>
    rw [if_neg (λq=>absurd (hiff.mpr q) Bool.false_ne_true)] at h
    have hri:=zbf A.in1 ⟨hp,g,d,tk,os⟩ (ns[i]) t (ms[i]) u prog w
    wp_walk using wpAny_loadPart' hl,wpAny_loadPart' hb
    rw [hi1,hi2]
    wp_walk using hri
    simpa using h
  ·have hi2:items2[((i:Nat):Int).toNat]?=none:=by simp;omega
   wp_walk using wpAny_loadPart' hl,wpAny_loadPart' hb
   rw [List.drop_eq_getElem_cons hlt,List.drop_of_length_le (show ms.length<=i by omega),ut] at h
   rw [hi1,hi2]
   wp_walk using wpAny_loadPart' hl,wpAny_loadPart' hb
   show R (.ok (.ret (.bool (decide (items.size<items2.size))))) _
   rw [decide_eq_false (by omega)]
   exact h
theorem WD (l b:Addr) (items items2:Array Value) (n n2:Nat) (dd dd2:Option Addr) (sl sl2:Array (Option Value)) (ns ms:List Int) (hi:IntsAre items.toList ns) (hj:IntsAre items2.toList ms) :
  Meets (Builtin.«list.__lt__» ⟨[.ref l,.ref b],[]⟩)
   (λ_ R s=>s.heap.get? l=some { cls:=.type "list",dict:=dd,data:=.seq items n,slots:=sl }/\s.heap.get? b=some { cls:=.type "list",dict:=dd2,data:=.seq items2 n2,slots:=sl2 } /\
    R (.ok (.ret (.bool (lexLt ns ms)))) s):=by
 intro prog w A R s h
 obtain⟨hp,g,d,tk,os⟩:=s;obtain⟨hl,hb,h⟩:=h
 have f3:=AutoSeq1.sub_list_list
 wp_walk using wpAny_loadPart' hl,wpAny_loadPart' hb
 exact⟨plainId_quiet plain_eq_loop _,codeAny_builtin entry_eq_loop (by
  rw [Around.under_plainId plain_eq_loop _]
  exact zfs l b items items2 n n2 dd dd2 sl sl2 ns ms hi hj _ 0 rfl (Nat.zero_le _) (Nat.zero_le _) prog w A R _ ⟨hl,hb,by simpa using h⟩)⟩
end
section
variable {prog:Program} {w:World} {A:Around} {E:Value->Shared->Prop} {s:Shared}
theorem VN {l b:Addr} {items items2:Array Value} {ns ms:List Int} {Q:Value->Shared->Prop} (hl:s.heap.IsList l items) (hb:s.heap.IsList b items2) (hi:IntsAre items.toList ns) (hj:IntsAre items2.toList ms)
  (hu:A.units<cLine) (h:Q (.bool (lexLt ns ms)) s):wpAny (model prog w) A (richCompare .Lt (.ref l) (.ref b)) Q E s:=by
 obtain⟨⟨cls,dd,data,sl⟩,ho,hc,n,hd⟩:=id hl
 obtain⟨⟨cls2,dd2,data2,sl2⟩,ho2,hc2,n2,hd2⟩:=id hb
 simp only at hc hd hc2 hd2
 subst hc hd hc2 hd2
 exact richCompare_meets_room (op:=.Lt) ⟨_,ho,rfl⟩ ⟨_,ho2,rfl⟩ PySem.F.slot_list_lt PySem.F.entry_list_lt (PySem.F.args_list_lt_2 _ _) (WD l b items items2 n n2 dd dd2 sl sl2 ns ms hi hj)
  ⟨ho,ho2,show Value.bool (lexLt ns ms)≠Value.notImplemented/\Q (.bool (lexLt ns ms)) s from ⟨(λx=>nomatch x),h⟩⟩ hu
end
open PySem PyProof.Rows PySem.W
def Vk {α:Type} (c:Nat->Nat->Bool):KasT α->α
 | .ret a=>a
 | .ask i j k=>Vk c (k (c i j))
def kin {α:Type} (n:Nat):KasT α->Bool
 | .ret _=>true
 | .ask i j k=>decide (i<n) && decide (j<n) && kin n (k true) && kin n (k false)
theorem zaG {α:Type} {n:Nat} {c:Nat->Nat->Bool} {cmp:Nat->Nat->(Bool->Shared->Prop)->Shared->Prop} {s:Shared} {Q:α->Shared->Prop} (hc:∀ i j C,i<n->j<n->C (c i j) s->cmp i j C s) :
  ∀ t:KasT α,kin n t=true->Q (Vk c t) s->t.kasWp cmp Q s
 | .ret a,_,q=>q
 | .ask i j k,h,q=>by
  unfold kin at h
  simp only [Bool.and_eq_true,decide_eq_true_eq] at h
  refine hc i j _ h.1.1.1 h.1.1.2 ?_
  have q':Q (Vk c (k (c i j))) s:=q
  cases e:c i j with
  | true=>rw [e] at q';exact zaG hc (k true) h.1.2 q'
  | false=>rw [e] at q';exact zaG hc (k false) h.2 q'
theorem jg {α:Type} {n:Nat} {c d:Nat->Nat->Bool} (h:∀ i j,i<n->j<n->c i j=d i j):∀ t:KasT α,kin n t=true->Vk c t=Vk d t
 | .ret a,_=>rfl
 | .ask i j k,hk=>by
  unfold kin at hk
  simp only [Bool.and_eq_true,decide_eq_true_eq] at hk
  unfold Vk
  rw [h i j hk.1.1.1 hk.1.1.2]
  cases d i j with
  | true=>exact jg h (k true) hk.1.2
  | false=>exact jg h (k false) hk.2
def tab (b:Nat->Nat->Bool) (i j:Nat):Bool:=if i<j then b i j else if j<i then !b j i else false
def Xz (n:Nat) (c:Nat->Nat->Bool) (p:List Nat):Bool:=p.isPerm (List.range n) && (List.range n).all λi=>(List.range n).all λj=>!decide (i<j) || c (p.getD i 0) (p.getD j 0)
def tr3 (n:Nat) (c:Nat->Nat->Bool):Bool:=(List.range n).all λi=>(List.range n).all λj=>(List.range n).all λk=>!c i j || !c j k || c i k
def half (b01 b02 b03 b12 b13 b23:Bool) (i j:Nat):Bool:=match i,j with
 | 0,1=>b01 | 0,2=>b02 | 0,3=>b03 | 1,2=>b12 | 1,3=>b13 | 2,3=>b23 | _,_=>false
theorem zgN:kin 2 (kas_sort 2)=true:=by decide +kernel
theorem zgO:kin 3 (kas_sort 3)=true:=by decide +kernel
theorem zg5:kin 4 (kas_sort 4)=true:=by decide +kernel
theorem zgy:∀ b01:Bool,Xz 2 (tab (half b01 true true true true true)) (Vk (tab (half b01 true true true true true)) (kas_sort 2)).toList=true:=by decide +kernel
theorem zgx:∀ b01 b02 b12:Bool,tr3 3 (tab (half b01 b02 true b12 true true))=true->Xz 3 (tab (half b01 b02 true b12 true true)) (Vk (tab (half b01 b02 true b12 true true)) (kas_sort 3)).toList=true:=by decide +kernel
theorem zgZ:∀ b01 b02 b03 b12 b13 b23:Bool,tr3 4 (tab (half b01 b02 b03 b12 b13 b23))=true->Xz 4 (tab (half b01 b02 b03 b12 b13 b23)) (Vk (tab (half b01 b02 b03 b12 b13 b23)) (kas_sort 4)).toList=true:=by decide +kernel
theorem yJ:∀ a:List Int,lexLt a a=false
 | []=>rfl
 | x :: a=>by rw [uQ,if_pos rfl,yJ a]
theorem Z8:∀ a b:List Int,a≠b->lexLt b a=!lexLt a b
 | [],[],h=>absurd rfl h
 | [],_ :: _,_=>rfl
 | _ :: _,[],_=>rfl
 | x :: a,y :: b,h=>by
  rw [uQ,uQ]
  by_cases e:x=y
  ·subst e
   rw [if_pos rfl,if_pos rfl]
   exact Z8 a b λz=>h (by rw [z])
  ·rw [if_neg e,if_neg (Ne.symm e),Bool.eq_iff_iff]
   simp
   omega
theorem wQ:∀ a b c:List Int,lexLt a b=true->lexLt b c=true->lexLt a c=true
 | [],[],_,h,_=>by rw [XC] at h;cases h
 | [],_ :: _,[],_,h=>by rw [ut] at h;cases h
 | [],_ :: _,_ :: _,_,_=>rfl
 | _ :: _,[],_,h,_=>by rw [ut] at h;cases h
 | _ :: _,_ :: _,[],_,h=>by rw [ut] at h;cases h
 | x :: a,y :: b,z :: c,h1,h2=>by
  rw [uQ] at h1 h2 ⊢
  by_cases e1:x=y
  ·subst e1
   rw [if_pos rfl] at h1
   by_cases e2:x=z
   ·subst e2
    rw [if_pos rfl] at h2 ⊢
    exact wQ a b c h1 h2
   ·rw [if_neg e2] at h2 ⊢;exact h2
  ·rw [if_neg e1] at h1
   have h1':=of_decide_eq_true h1
   by_cases e2:y=z
   ·subst e2
    rw [if_neg e1];exact h1
   ·rw [if_neg e2] at h2
    have h2':=of_decide_eq_true h2
    rw [if_neg (show x≠z by omega)]
    exact decide_eq_true (by omega)
theorem zaC {n:Nat} (hn:n<=4) {c:Nat->Nat->Bool} {b01 b02 b03 b12 b13 b23:Bool} (h01:1<n->b01=c 0 1) (h02:2<n->b02=c 0 2) (h03:3<n->b03=c 0 3) (h12:2<n->b12=c 1 2) (h13:3<n->b13=c 1 3) (h23:3<n->b23=c 2 3) :
  ∀ i j,i<j->j<n->half b01 b02 b03 b12 b13 b23 i j=c i j:=by
 intro i j h1 h2
 have hh:(i=0/\j=1)\/(i=0/\j=2)\/(i=0/\j=3)\/(i=1/\j=2)\/(i=1/\j=3)\/(i=2/\j=3):=by omega
 rcases hh with ⟨rfl,rfl⟩ | ⟨rfl,rfl⟩ | ⟨rfl,rfl⟩ | ⟨rfl,rfl⟩ | ⟨rfl,rfl⟩ | ⟨rfl,rfl⟩
 ·exact h01 h2
 ·exact h02 h2
 ·exact h03 h2
 ·exact h12 h2
 ·exact h13 h2
 ·exact h23 h2
theorem zfh {ls:ZA} (nd:ls.Nodup) (h2:2<=ls.length) (h4:ls.length<=4) :
  kin ls.length (kas_sort ls.length)=true/\Xz ls.length (λi j=>lexLt (ls.getD i []) (ls.getD j [])) (Vk (λi j=>lexLt (ls.getD i []) (ls.getD j [])) (kas_sort ls.length)).toList=true:=by
 generalize hc:(λi j=>lexLt (ls.getD i []) (ls.getD j []))=c
 have cd:∀ i j,c i j=lexLt (ls.getD i []) (ls.getD j []):=λi j=>by rw [<- hc]
 have flip:∀ i j,i<ls.length->j<ls.length->i≠j->c j i=!c i j:=λi j hi hj hij=>by
  rw [cd,cd]
  refine Z8 _ _ λe=>hij ?_
  have e1:ls.getD i []=ls[i]:=by rw [List.getD_eq_getElem?_getD,List.getElem?_eq_getElem hi];rfl
  have e2:ls.getD j []=ls[j]:=by rw [List.getD_eq_getElem?_getD,List.getElem?_eq_getElem hj];rfl
  rw [e1,e2] at e
  exact (List.getElem_inj nd).mp e
 have tabc:∀ b:Nat->Nat->Bool,(∀ i j,i<j->j<ls.length->b i j=c i j)->∀ i j,i<ls.length->j<ls.length->tab b i j=c i j:=λb hb i j hi hj=>by
  unfold tab
  by_cases h:i<j
  ·rw [if_pos h,hb i j h hj]
  ·rw [if_neg h]
   by_cases h':j<i
   ·rw [if_pos h',hb j i h' hi,flip j i hj hi (by omega)]
   ·rw [if_neg h']
    have:i=j:=by omega
    subst this
    rw [cd,yJ]
 have outc:∀ (b:Nat->Nat->Bool) (p:List Nat),(∀ i j,i<ls.length->j<ls.length->tab b i j=c i j)->Xz ls.length (tab b) p=true->Xz ls.length c p=true:=λb p hb h=>by
  unfold Xz at h ⊢
  rw [Bool.and_eq_true] at h ⊢
  refine⟨h.1,?_⟩
  have pm:=List.isPerm_iff.mp h.1
  have hl:p.length=ls.length:=by rw [pm.length_eq,List.length_range]
  rw [List.all_eq_true] at h ⊢
  intro i hi
  have q:=h.2 i hi
  rw [List.all_eq_true] at q ⊢
  intro j hj
  have q2:=q j hj
  have hi':=List.mem_range.mp hi
  have hj':=List.mem_range.mp hj
  have m:∀ k,k<ls.length->p.getD k 0<ls.length:=λk hk=>by
   have e:p.getD k 0=p[k]'(by omega):=by rw [List.getD_eq_getElem?_getD,List.getElem?_eq_getElem (by omega)];rfl
   rw [e]
   exact List.mem_range.mp (pm.mem_iff.mp (List.getElem_mem _))
  rw [hb _ _ (m i hi') (m j hj')] at q2
  exact q2
 have trc:∀ (b:Nat->Nat->Bool),(∀ i j,i<ls.length->j<ls.length->tab b i j=c i j)->tr3 ls.length (tab b)=true:=λb hb=>by
  unfold tr3
  simp only [List.all_eq_true,List.mem_range]
  intro i hi j hj k hk
  rw [hb i j hi hj,hb j k hj hk,hb i k hi hk]
  cases e1:c i j
  ·rfl
  ·cases e2:c j k
   ·rfl
   ·rw [cd] at e1 e2
    rw [cd,wQ _ _ _ e1 e2];rfl
 have hn:ls.length=2\/ls.length=3\/ls.length=4:=by omega
 rcases hn with hn | hn | hn
 ·rw [hn] at tabc outc trc ⊢
  have t:=tabc (half (c 0 1) true true true true true) (zaC (by decide) (λ_=>rfl) (λz=>by omega) (λz=>by omega) (λz=>by omega) (λz=>by omega) (λz=>by omega))
  refine⟨zgN,?_⟩
  rw [jg (λi j hi hj=>(t i j hi hj).symm) _ zgN]
  exact outc _ _ t (zgy _)
 ·rw [hn] at tabc outc trc ⊢
  have t:=tabc (half (c 0 1) (c 0 2) true (c 1 2) true true) (zaC (by decide) (λ_=>rfl) (λ_=>rfl) (λz=>by omega) (λ_=>rfl) (λz=>by omega) (λz=>by omega))
  refine⟨zgO,?_⟩
  rw [jg (λi j hi hj=>(t i j hi hj).symm) _ zgO]
  exact outc _ _ t (zgx _ _ _ (trc _ t))
 ·rw [hn] at tabc outc trc ⊢
  have t:=tabc (half (c 0 1) (c 0 2) (c 0 3) (c 1 2) (c 1 3) (c 2 3)) (zaC (by decide) (λ_=>rfl) (λ_=>rfl) (λ_=>rfl) (λ_=>rfl) (λ_=>rfl) (λ_=>rfl))
  refine⟨zg5,?_⟩
  rw [jg (λi j hi hj=>(t i j hi hj).symm) _ zg5]
  exact outc _ _ t (zgZ _ _ _ _ _ _ (trc _ t))
end HT
namespace L2
open PySem PySem.Spec PyProof.Rows
section
variable {X:Cx}
def zhj (K:W.Frag):R2:=λx y H Q=>∃ (a b:Addr) (ns ms:List Int),x=.ref a/\y=.ref b/\SqL K H a (ns.map V.int)/\SqL K H b (ms.map V.int)/\Q (.bl (HT.lexLt ns ms)) H
theorem zgP (K:W.Frag) (hu:X.A.units+64<cLine) (e:X.K=K:=by rfl):OpR X (compareOp .Lt) (zhj K):=by
 subst e
 intro pins s σ H x y v u Q I rx ry h
 obtain⟨a,b,ns,ms,rfl,rfl,ha,hb,q⟩:=h
 cases rx
 cases ry
 obtain⟨its,r1,p1,_⟩:=I.list ha
 obtain⟨its2,r2,p2,_⟩:=I.list hb
 exact HT.VN p1.isList p2.isList (intsAre_of r1) (intsAre_of r2) (by omega) ⟨.bl (HT.lexLt ns ms),H,I,rfl,q⟩
end
end L2
namespace HT
open PySem PyProof.Rows PySem.W
def KW {α:Type} (c:Nat->Nat->Bool) (n:Nat):KasT α->(α->Prop)->Prop
 | .ret a,Q=>Q a
 | .ask i j k,Q=>i<n/\j<n/\KW c n (k (c i j)) Q
theorem KW.bind {α β:Type} {c:Nat->Nat->Bool} {n:Nat} {f:α->KasT β} {Q:β->Prop}:∀ {t:KasT α},KW c n t (λa=>KW c n (f a) Q)->KW c n (t.bind f) Q
 | .ret _,h=>h
 | .ask _ _ k,h=>⟨h.1,h.2.1,KW.bind (t:=k _) h.2.2⟩
theorem KW.mono {α:Type} {c:Nat->Nat->Bool} {n:Nat} {Q Q':α->Prop} (hq:∀ a,Q a->Q' a):∀ {t:KasT α},KW c n t Q->KW c n t Q'
 | .ret a,h=>hq a h
 | .ask _ _ k,h=>⟨h.1,h.2.1,KW.mono hq (t:=k _) h.2.2⟩
theorem KW.wp {α:Type} {n:Nat} {c:Nat->Nat->Bool} {cmp:Nat->Nat->(Bool->Shared->Prop)->Shared->Prop} {s:Shared} {Q:α->Prop} (hc:∀ i j C,i<n->j<n->C (c i j) s->cmp i j C s) :
  ∀ t:KasT α,KW c n t Q->t.kasWp cmp (λa s'=>s'=s/\Q a) s
 | .ret _,h=>⟨rfl,h⟩
 | .ask i j k,h=>hc i j _ h.1 h.2.1 (KW.wp hc (k (c i j)) h.2.2)
structure Ord (c:Nat->Nat->Bool) (n:Nat):Prop where
 tr:∀ i j k,i<n->j<n->k<n->c i j=true->c j k=true->c i k=true
 tot:∀ i j,i<n->j<n->i≠j->c i j=false->c j i=true
 asy:∀ i j,i<n->j<n->c i j=true->c j i=false
structure Pm (n:Nat) (p:Array Nat):Prop where
 sz:p.size=n
 pm:p.toList.Perm (List.range n)
theorem Pm.lt {n:Nat} {p:Array Nat} (h:Pm n p) (i:Nat) (hi:i<n):p.getD i 0<n:=by
 have hs:=h.sz
 have e:p.getD i 0=p[i]:=by simp [Array.getD,hs,hi]
 rw [e]
 exact List.mem_range.mp (h.pm.mem_iff.mp (by simp))
theorem Pm.ne {n:Nat} {p:Array Nat} (h:Pm n p) {i j:Nat} (hi:i<n) (hj:j<n) (hij:i≠j):p.getD i 0≠p.getD j 0:=by
 have hs:=h.sz
 have e1:p.getD i 0=p.toList[i]'(by simp [hs,hi]):=by simp [Array.getD,hs,hi]
 have e2:p.getD j 0=p.toList[j]'(by simp [hs,hj]):=by simp [Array.getD,hs,hj]
 rw [e1,e2]
 have nd:p.toList.Nodup:=h.pm.nodup_iff.mpr List.nodup_range
 intro z
 exact hij ((List.getElem_inj nd).mp z)
theorem Pm.of {n:Nat} {p q:Array Nat} (h:Pm n p) (z:q.Perm p):Pm n q:=⟨by rw [z.size_eq];exact h.sz,(Array.perm_iff_toList_perm.mp z).trans h.pm⟩
def Up (c:Nat->Nat->Bool) (p:Array Nat) (m:Nat):Prop:=∀ i j,i<j->j<m->c (p.getD i 0) (p.getD j 0)=true
def Dn (c:Nat->Nat->Bool) (p:Array Nat) (m:Nat):Prop:=∀ i j,i<j->j<m->c (p.getD j 0) (p.getD i 0)=true
section
variable {c:Nat->Nat->Bool} {n:Nat}
theorem zbQ (O:Ord c n) {p:Array Nat} (hp:Pm n p):∀ (f m:Nat),1<=m->m+f<=n->Up c p m->KW c n (kas_asc p f m) (λr=>m<=r/\r<=m+f/\Up c p r/\(r<m+f->c (p.getD r 0) (p.getD (r-1) 0)=true))
 | 0,m,_,_,u=>⟨Nat.le_refl _,Nat.le_refl _,u,λz=>absurd z (Nat.lt_irrefl _)⟩
 | f+1,m,h1,h2,u=>by
  refine⟨hp.lt m (by omega),hp.lt (m-1) (by omega),?_⟩
  cases e:c (p.getD m 0) (p.getD (m-1) 0) with
  | true=>exact⟨Nat.le_refl _,by omega,u,λ_=>e⟩
  | false =>
   have hs:c (p.getD (m-1) 0) (p.getD m 0)=true:=O.tot _ _ (hp.lt m (by omega)) (hp.lt (m-1) (by omega)) (hp.ne (by omega) (by omega) (by omega)) e
   have u':Up c p (m+1):=λi j hij hj=>by
    by_cases hjm:j<m
    ·exact u i j hij hjm
    ·have ej:j=m:=by omega
     subst ej
     by_cases hi:i=j-1
     ·rw [hi];exact hs
     ·exact O.tr _ _ _ (hp.lt i (by omega)) (hp.lt (j-1) (by omega)) (hp.lt j (by omega)) (u i (j-1) (by omega) (by omega)) hs
   refine KW.mono (λr h=>?_) (zbQ O hp f (m+1) (by omega) (by omega) u')
   exact⟨by omega,by omega,h.2.2.1,λz=>h.2.2.2 (by omega)⟩
theorem zct (O:Ord c n) {p:Array Nat} (hp:Pm n p):∀ (f m:Nat),1<=m->m+f<=n->Dn c p m->KW c n (kas_desc f p m 0) (λr=>r.1=p/\r.2.2=0/\m<=r.2.1/\r.2.1<=m+f/\Dn c p r.2.1)
 | 0,m,_,_,u=>⟨rfl,rfl,Nat.le_refl _,Nat.le_refl _,u⟩
 | f+1,m,h1,h2,u=>by
  refine⟨hp.lt m (by omega),hp.lt (m-1) (by omega),?_⟩
  cases e:c (p.getD m 0) (p.getD (m-1) 0) with
  | true =>
   have u':Dn c p (m+1):=λi j hij hj=>by
    by_cases hjm:j<m
    ·exact u i j hij hjm
    ·have ej:j=m:=by omega
     subst ej
     by_cases hi:i=j-1
     ·rw [hi];exact e
     ·exact O.tr _ _ _ (hp.lt j (by omega)) (hp.lt (j-1) (by omega)) (hp.lt i (by omega)) e (u i (j-1) (by omega) (by omega))
   refine KW.mono (λr h=>?_) (zct O hp f (m+1) (by omega) (by omega) u')
   exact⟨h.1,h.2.1,by omega,by omega,h.2.2.2.2⟩
  | false =>
   have hs:c (p.getD (m-1) 0) (p.getD m 0)=true:=O.tot _ _ (hp.lt m (by omega)) (hp.lt (m-1) (by omega)) (hp.ne (by omega) (by omega) (by omega)) e
   refine⟨hp.lt (m-1) (by omega),hp.lt m (by omega),?_⟩
   rw [hs]
   exact⟨rfl,rfl,Nat.le_refl _,(show m<=m+(f+1) by omega),u⟩
theorem rev_getD {p:Array Nat} {m:Nat} (hm:m<=p.size) (k:Nat):(kas_rev p 0 m).getD k 0=if k<m then p.getD (m-1-k) 0 else p.getD k 0:=by
 have q:=getElem?_mirror_all (xs:=p) (i:=0) hm k
 have e:∀ (a:Array Nat) (j:Nat),a.getD j 0=(a[j]?).getD 0:=λa j=>by simp [Array.getD_eq_getD_getElem?]
 unfold kas_rev
 rw [e,q]
 by_cases h:k<m
 ·rw [if_pos ⟨Nat.zero_le _,h⟩,if_pos h,e,Nat.zero_add]
 ·rw [if_neg (by omega),if_neg h,e]
theorem zdW (O:Ord c n) {p:Array Nat} (hp:Pm n p) {m:Nat} (h1:1<=m) (h2:m<=n) (u:Dn c p m):KW c n (kas_tail3 m n p) (λr=>1<=r.1/\r.1<=n/\Pm n r.2/\Up c r.2 r.1):=by
 have hr:Pm n (kas_rev p 0 m):=hp.of (mirror_perm _ _ _ _)
 have hsz:m<=p.size:=by rw [hp.sz];exact h2
 have u':Up c (kas_rev p 0 m) m:=λi j hij hj=>by
  rw [rev_getD hsz,rev_getD hsz,if_pos (by omega),if_pos hj]
  exact u _ _ (by omega) (by omega)
 refine KW.bind (KW.mono (λr h=>?_) (zbQ O hr (n-m) m h1 (by omega) u'))
 exact⟨by omega,by omega,hr,h.2.2.1⟩
theorem zeA (O:Ord c n) {p:Array Nat} (hp:Pm n p) (h2:2<=n):KW c n (kas_count n p) (λr=>1<=r.1/\r.1<=n/\Pm n r.2/\Up c r.2 r.1):=by
 refine KW.bind (KW.mono (λr h=>?_) (zbQ O hp (n-1) 1 (Nat.le_refl _) (by omega) (λi j hij hj=>by omega)))
 obtain⟨h1,h3,u,st⟩:=h
 by_cases e:r=n
 ·subst e
  rw [if_pos (by simp)]
  exact⟨h1,Nat.le_refl _,hp,u⟩
 ·rw [if_neg (by simpa using e)]
  by_cases hr:r>1
  ·rw [if_pos hr]
   refine⟨hp.lt 0 (by omega),hp.lt (r-1) (by omega),?_⟩
   rw [u 0 (r-1) (by omega) (by omega)]
   exact⟨h1,by omega,hp,u⟩
  ·rw [if_neg hr]
   have er:r=1:=by omega
   subst er
   have s1:=st (by omega)
   have d:Dn c p 2:=λi j hij hj=>by
    have ei:i=0:=by omega
    have ej:j=1:=by omega
    subst ei;subst ej
    exact s1
   refine KW.bind (KW.mono (λr h=>?_) (zct O hp (n-2) 2 (by omega) (by omega) d))
   obtain⟨a1,a2,a3,a4,a5⟩:=h
   obtain⟨q,m,z⟩:=r
   simp only at a1 a2 a3 a4 a5
   subst a1;subst a2
   show KW c n (if 0>0 then _ else _) _
   rw [if_neg (Nat.lt_irrefl 0)]
   exact zdW O hp (show 1<=m by omega) (show m<=n by omega) a5
theorem Ux (O:Ord c n) {p:Array Nat} (hp:Pm n p) {k:Nat} (hk:k<n) (u:Up c p k):∀ (f l r:Nat),l<=r->r<=k->r-l<=f->(∀ i,i<l->c (p.getD i 0) (p.getD k 0)=true)->(∀ i,r<=i->i<k->c (p.getD k 0) (p.getD i 0)=true) ->
  KW c n (kas_place p k f l r) (λl=>l<=k/\(∀ i,i<l->c (p.getD i 0) (p.getD k 0)=true)/\(∀ i,l<=i->i<k->c (p.getD k 0) (p.getD i 0)=true))
 | 0,l,r,h1,h2,h3,lo,hi=>⟨by omega,lo,λi a b=>hi i (by omega) b⟩
 | f+1,l,r,h1,h2,h3,lo,hi=>by
  unfold kas_place
  by_cases hlr:l>=r
  ·rw [if_pos hlr]
   exact⟨by omega,lo,λi a b=>hi i (by omega) b⟩
  ·rw [if_neg hlr]
   have hm:(l+r) / 2<k:=by omega
   refine⟨hp.lt k hk,hp.lt _ (by omega),?_⟩
   cases e:c (p.getD k 0) (p.getD ((l+r) / 2) 0) with
   | true =>
    dsimp only
    rw [if_pos rfl]
    refine Ux O hp hk u f l ((l+r) / 2) (by omega) (by omega) (by omega) lo λi a b=>?_
    by_cases ei:i=(l+r) / 2
    ·rw [ei];exact e
    ·exact O.tr _ _ _ (hp.lt k hk) (hp.lt _ (by omega)) (hp.lt i (by omega)) e (u _ _ (by omega) b)
   | false =>
    dsimp only
    rw [if_neg Bool.false_ne_true]
    have hs:c (p.getD ((l+r) / 2) 0) (p.getD k 0)=true:=O.tot _ _ (hp.lt k hk) (hp.lt _ (by omega)) (hp.ne hk (by omega) (by omega)) e
    refine Ux O hp hk u f ((l+r) / 2+1) r (by omega) h2 (by omega) (λi a=>?_) hi
    by_cases ei:i=(l+r) / 2
    ·rw [ei];exact hs
    ·exact O.tr _ _ _ (hp.lt i (by omega)) (hp.lt _ (by omega)) (hp.lt k hk) (u _ _ (by omega) (by omega)) hs
theorem zbu {p:Array Nat} {k l:Nat} (hk:k<p.size) (hl:l<=k) (i:Nat):(bubble p k (k-l)).getD i 0=if i=l then p.getD k 0 else if l<i/\i<=k then p.getD (i-1) 0 else p.getD i 0:=by
 have q:=getElem?_bubble hk (k-l) (by omega) i
 have e:∀ (a:Array Nat) (j:Nat),a.getD j 0=(a[j]?).getD 0:=λa j=>by simp [Array.getD_eq_getD_getElem?]
 rw [show k-(k-l)=l by omega] at q
 rw [e,e p k,e p (i-1),e p i,q]
 split
 ·rfl
 ·split
  ·rfl
  ·rfl
theorem zeB (O:Ord c n):∀ (f:Nat) {p:Array Nat} {k:Nat},Pm n p->1<=k->k+f=n->Up c p k->KW c n (kas_bin f p k) (λq=>Pm n q/\Up c q n)
 | 0,p,k,hp,h1,h2,u=>by
  have:k=n:=by omega
  subst this
  exact⟨hp,u⟩
 | f+1,p,k,hp,h1,h2,u=>by
  refine KW.bind (KW.mono (λl h=>?_) (Ux O hp (show k<n by omega) u k 0 k (Nat.zero_le _) (Nat.le_refl _) (by omega) (λi hi=>by omega) (λi a b=>by omega)))
  obtain⟨hlk,lo,hi⟩:=h
  have hks:k<p.size:=by rw [hp.sz];omega
  refine zeB O f (hp.of (bubble_perm _ _ _)) (by omega) (by omega) λi j hij hj=>?_
  rw [zbu hks hlk,zbu hks hlk]
  by_cases hi1:i=l
  ·rw [if_pos hi1,if_neg (by omega),if_pos (by omega)]
   exact hi _ (by omega) (by omega)
  ·rw [if_neg hi1]
   by_cases hi2:l<i/\i<=k
   ·rw [if_pos hi2,if_neg (by omega),if_pos (by omega)]
    exact u _ _ (by omega) (by omega)
   ·rw [if_neg hi2]
    by_cases hj1:j=l
    ·rw [if_pos hj1]
     exact lo _ (by omega)
    ·rw [if_neg hj1]
     by_cases hj2:l<j/\j<=k
     ·rw [if_pos hj2]
      exact u _ _ (by omega) (by omega)
     ·rw [if_neg hj2]
      exact u _ _ (by omega) (by omega)
theorem zfx (O:Ord c n) (h2:2<=n):KW c n (kas_sort n) (λp=>Pm n p/\Up c p n):=by
 have h0:Pm n (List.toArray (List.range n)):=⟨by simp,by simp⟩
 refine KW.bind (KW.mono (λr h=>?_) (zeA O h0 h2))
 obtain⟨h1,h3,hp,u⟩:=h
 by_cases hr:r.1<n
 ·rw [if_pos hr,Nat.max_eq_left h1]
  exact zeB O _ hp h1 (by omega) u
 ·rw [if_neg hr]
  have:r.1=n:=by omega
  rw [this] at u
  exact⟨hp,u⟩
end
section
variable {prog:Program} {w:World} {A:Around} {E:Value->Shared->Prop} {s:Shared}
theorem zgh {l b:Addr} {items items2:Array Value} {ns ms:List Int} {Q:Bool->Shared->Prop} (hl:s.heap.IsList l items) (hb:s.heap.IsList b items2) (hi:IntsAre items.toList ns) (hj:IntsAre items2.toList ms) (hu:A.units+1<cLine)
  (h:Q (lexLt ns ms) s):wpAny (model prog w) A (keyLt' oneType' (.ref l) (.ref b)) Q E s:=by
 obtain⟨⟨cls,dd,data,sl⟩,ho,hc,n,hd⟩:=id hl
 obtain⟨⟨cls2,dd2,data2,sl2⟩,ho2,hc2,n2,hd2⟩:=id hb
 simp only at hc hd hc2 hd2
 subst hc hd hc2 hd2
 rw [keyLt'_oneType,oneLt'_eq]
 simp only [if_true]
 refine wpAny_bind (wpAny_cRoomFor (by omega) (wpAny_bind (wpAny_callSpecialIfBound?_slot (T:="list") (name:="__lt__") ⟨_,ho,rfl⟩ PySem.F.slot_list_lt
  (call_meets PySem.F.slot_list_lt ⟨_,ho,rfl⟩ PySem.F.entry_list_lt (PySem.F.args_list_lt_2 _ _) (WD l b items items2 n n2 dd dd2 sl sl2 ns ms hi hj) ⟨ho,ho2,?_⟩))))
 exact wpAny_truthy_bool h
theorem Vy {α:Type} (d:α) (zs:List α) {p:List Nat} (h:p.Perm (List.range zs.length)):(p.map λi=>zs.getD i d).Perm zs:=by
 have e:(List.range zs.length).map (λi=>zs.getD i d)=zs:=by
  apply List.ext_getElem?
  intro i
  rw [List.getElem?_map]
  by_cases hi:i<zs.length
  ·rw [List.getElem?_range hi,Option.map_some,List.getD_eq_getElem?_getD,List.getElem?_eq_getElem hi];rfl
  ·rw [List.getElem?_eq_none (by simpa using hi),List.getElem?_eq_none (by omega)];rfl
 have q:=h.map λi=>zs.getD i d
 rw [e] at q
 exact q
theorem zb0 {a:Addr} {zs:ZB} {n0:Nat} {P:Fin->Shared->Prop} (ho:s.heap.get? a=some (seqObj "list" (zs.map λz=>Value.ref z.1).toArray n0))
  (hz:∀ z∈zs,z.1≠a/\∃ its:List Value,s.heap.IsList z.1 its.toArray/\IntsAre its z.2) (nd:(zs.map (·.2)).Nodup) (h4:zs.length<=4) (hu:A.units+1<cLine)
  (h:∀ zs':ZB,zs'.Perm zs->zs'.Pairwise (λx y=>lexLt x.2 y.2=true)->P (.done (.ret .none)) { s with heap:=sortedHeap s.heap a (zs.map λz=>Value.ref z.1) (zs'.map λz=>Value.ref z.1).toArray }) :
  wpAny (model prog w) A (Builtin.«list.sort» ⟨[.ref a],[]⟩) P E s:=by
 rw [list_sort_plain]
 generalize hvs:(zs.map λz=>Value.ref z.1)=vs at ho h ⊢
 have hvl:vs.length=zs.length:=by rw [<- hvs,List.length_map]
 have hsl:vs.length<=sizeLine:=by rw [hvl,sizeLine_eq];omega
 have ha:a<s.heap.objs.size:=Heap.lt_size ho
 obtain⟨e1,ho1⟩:∃ e1,(s.heap.update a (Obj.mapSeq λ_=>#[])).get? a=some (seqObj "list" #[] e1):=⟨_,get?_update_seq ho (λ_=>#[])⟩
 refine wpAny_bind (listItems_at ho rfl (wpAny_bind (listUpdate_at ho rfl (wpAny_bind (seqEpoch_at ho1 rfl (wpAny_bind (wpAny_newTuple (wpAny_bind (wpAny_newList (wpAny_holding ?_) (Nat.zero_le _))) (by show vs.length<=_;exact hsl))))) (by rw [List.size_toArray];exact hsl) (Nat.zero_le _))))
 generalize hG:(((s.heap.update a (Obj.mapSeq λ_=>(#[]:Array Value))).push (seqObj "tuple" vs.toArray 0)).push (seqObj "list" #[] 0))=G
 have ho6:G.get? a=some (seqObj "list" #[] e1):=by
  rw [<- hG,Heap.get?_push_ne _ _ _ (by rw [size_push',Heap.size_update];exact Nat.ne_of_lt (Nat.lt_succ_of_lt ha)),Heap.get?_push_ne _ _ _ (by rw [Heap.size_update];exact Nat.ne_of_lt ha)];exact ho1
 have keep:∀ b o,b≠a->s.heap.get? b=some o->G.get? b=some o:=λb o hb e=>by
  have hlt:=Heap.lt_size e
  rw [<- hG,Heap.get?_push_ne _ _ _ (by rw [size_push',Heap.size_update];exact Nat.ne_of_lt (Nat.lt_succ_of_lt hlt)),Heap.get?_push_ne _ _ _ (by rw [Heap.size_update];exact Nat.ne_of_lt hlt),Heap.get?_update_other _ _ (Ne.symm hb)];exact e
 show wpAny (model prog w) A _ P E { s with heap:=G }
 dsimp only
 by_cases h2:vs.toArray.size<2
 ·rw [if_pos h2,if_pos h2]
  refine wpAny_bind (wpAny_pure ?_)
  rw [StateT.run_pure]
  refine wpAny_bind (wpAny_pure ?_)
  dsimp only
  have hout:(arrOf (SortSt.mk' general' (vs.toArray.zip vs.toArray) #[] 7 none)).map (·.2)=vs.toArray:=by
   show (vs.toArray.zip vs.toArray).map (·.2)=vs.toArray
   apply Array.toList_inj.mp
   rw [Array.toList_map,Array.toList_zip,List.map_snd_zip (by simp)]
  rw [hout]
  refine wpAny_bind (seqEpoch_at ho6 rfl (wpAny_bind (listUpdate_at ho6 rfl ?_ (Nat.zero_le _) (by rw [List.size_toArray];exact Nat.le_succ_of_le hsl))))
  have q:=h zs (List.Perm.refl _) (by
   rw [List.size_toArray,hvl] at h2
   match zs,h2 with
   | [],_=>exact .nil
   | [_],_=>exact List.pairwise_singleton _ _)
  rw [hvs] at q
  simp only [bne_self_eq_false,Bool.false_eq_true,if_false]
  have e2:G.update a (Obj.mapSeq λ_=>vs.toArray)=sortedHeap s.heap a vs vs.toArray:=by rw [<- hG];rfl
  rw [e2]
  exact wpAny_pure q
 ·rw [if_neg h2,if_neg h2]
  rw [List.size_toArray,hvl] at h2
  have ls2:(zs.map (·.2)).length=zs.length:=List.length_map ..
  obtain⟨hkin,hok⟩:=zfh nd (by rw [ls2];omega) (by rw [ls2];exact h4)
  rw [ls2] at hkin hok
  generalize hcd:(λi j=>lexLt ((zs.map (·.2)).getD i []) ((zs.map (·.2)).getD j []))=c at hok
  have gz:∀ i,i<zs.length->vs.getD i Value.none=.ref (zs.getD i (0,[])).1/\(zs.map (·.2)).getD i []=(zs.getD i (0,[])).2/\zs.getD i (0,[])∈zs:=λi hi=>by
   have e:zs.getD i (0,[])=zs[i]:=by rw [List.getD_eq_getElem?_getD,List.getElem?_eq_getElem hi];rfl
   rw [e]
   refine⟨?_,?_,List.getElem_mem _⟩
   ·rw [<- hvs,List.getD_eq_getElem?_getD,List.getElem?_map,List.getElem?_eq_getElem hi];rfl
   ·rw [List.getD_eq_getElem?_getD,List.getElem?_map,List.getElem?_eq_getElem hi];rfl
  refine wpAny_bind (kas_kind (T:=.type "list") (by rw [hvl];omega) (λv hv=>?_) (by decide) (by decide) ?_)
  ·rw [<- hvs] at hv
   obtain⟨z,hzm,rfl⟩:=List.mem_map.mp hv
   obtain⟨hza,its,hl,_⟩:=hz z hzm
   obtain⟨o,e,hcl,_⟩:=hl
   intro A' Q' E' s' k q
   exact wpAny_typeOf (T:="list") ⟨o,k _ _ (keep _ _ hza e),hcl⟩ q
  have est:SortSt.mk' oneType' (vs.toArray.zip vs.toArray) #[] 7 none=kas_st oneType' (pairsOf vs) (List.toArray (List.range vs.length)):=by
   have e:=kas_range (pairsOf vs)
   rw [pairsOf_size] at e
   unfold kas_st;rw [e];rfl
  have ask:(kas_sort vs.length).kasWp (kas_cmp prog w A oneType' (pairsOf vs)) (λp s'=>s'={ s with heap:=G }/\p=Vk c (kas_sort zs.length)) { s with heap:=G }:=by
   rw [hvl,<- kas_ask_eq]
   refine zaG (n:=zs.length) (c:=c) (λi j C hi hj hC=>?_) _ hkin ⟨rfl,rfl⟩
   obtain⟨a1,a2,a3⟩:=gz i hi
   obtain⟨b1,b2,b3⟩:=gz j hj
   obtain⟨hza,its,hl,hI⟩:=hz _ a3
   obtain⟨hzb,its2,hl2,hI2⟩:=hz _ b3
   unfold kas_ask
   rw [a1,b1]
   refine zgh (s:={ s with heap:=G }) (hl.at λo e=>keep _ o hza e) (hl2.at λo e=>keep _ o hzb e) (by simpa using hI) (by simpa using hI2) hu ?_
   rw [<- hcd] at hC
   simp only [a2,b2] at hC
   exact hC
  have run:=kas_runs (E:=E) (Q:=λ_ st' s'=>s'={ s with heap:=G }/\arrOf st'=(Vk c (kas_sort zs.length)).map (kas_item (pairsOf vs))/\failedOf st'=none) (by rw [hvl];omega) (by rw [hvl];omega)
   (λp' st' s' a1 a2 a3 a4=>⟨a4.1,by rw [a2,a4.2],a3⟩) ask
  rw [<- est] at run
  refine wpAny_bind (wpAny_mono run ?_ λ_ _ e=>e)
  rintro⟨⟨⟩,st'⟩ s' ⟨rfl,har,hf⟩
  dsimp only
  generalize hp:Vk c (kas_sort zs.length)=p at har hok
  have hout:(arrOf st').map (·.2)=((p.toList.map λi=>zs.getD i (0,[])).map λz=>Value.ref z.1).toArray:=by
   apply Array.toList_inj.mp
   rw [har,Array.map_map,Array.toList_map,List.map_map]
   refine List.map_congr_left λi hi=>?_
   show (kas_item (pairsOf vs) i).2=_
   rw [kas_item_eq]
   unfold Xz at hok
   rw [Bool.and_eq_true] at hok
   exact (gz i (List.mem_range.mp ((List.isPerm_iff.mp hok.1).mem_iff.mp hi))).1
  rw [hout]
  have pm:p.toList.Perm (List.range zs.length):=by
   unfold Xz at hok
   rw [Bool.and_eq_true] at hok
   exact List.isPerm_iff.mp hok.1
  have q:=h (p.toList.map λi=>zs.getD i (0,[])) (Vy _ zs pm) (by
   rw [List.pairwise_map,List.pairwise_iff_getElem]
   intro i j hi hj hij
   have hpl:p.toList.length=zs.length:=by rw [pm.length_eq,List.length_range]
   unfold Xz at hok
   simp only [Bool.and_eq_true,List.all_eq_true,List.mem_range] at hok
   have q1:=hok.2 i (by omega) j (by omega)
   rw [decide_eq_true hij] at q1
   have e1:p.toList.getD i 0=p.toList[i]:=by rw [List.getD_eq_getElem?_getD,List.getElem?_eq_getElem hi];rfl
   have e2:p.toList.getD j 0=p.toList[j]:=by rw [List.getD_eq_getElem?_getD,List.getElem?_eq_getElem hj];rfl
   rw [e1,e2,<- hcd] at q1
   have m1:=List.mem_range.mp (pm.mem_iff.mp (List.getElem_mem hi))
   have m2:=List.mem_range.mp (pm.mem_iff.mp (List.getElem_mem hj))
   rw [<- (gz _ m1).2.1,<- (gz _ m2).2.1]
   simpa using q1)
  have hol:((p.toList.map λi=>zs.getD i (0,[])).map λz=>Value.ref z.1).length=zs.length:=by rw [List.length_map,List.length_map,pm.length_eq,List.length_range]
  refine wpAny_bind (seqEpoch_at ho6 rfl (wpAny_bind (listUpdate_at ho6 rfl ?_ (Nat.zero_le _) (by rw [List.size_toArray,hol];rw [hvl] at hsl;exact Nat.le_succ_of_le hsl))))
  rw [hf]
  simp only [bne_self_eq_false,Bool.false_eq_true,if_false]
  have e2:∀ out:Array Value,G.update a (Obj.mapSeq λ_=>out)=sortedHeap s.heap a vs out:=λout=>by rw [<- hG];rfl
  rw [e2]
  exact wpAny_pure q
theorem zft {l:Addr} {zs:ZB} {Q:Value->Shared->Prop} (hl:s.heap.IsList l (zs.map λz=>Value.ref z.1).toArray) (hz:∀ z∈zs,∃ its:List Value,s.heap.IsList z.1 its.toArray/\IntsAre its z.2) (nd:(zs.map (·.2)).Nodup) (h4:zs.length<=4) (hu:A.units+8<cLine)
  (h:∀ zs':ZB,zs'.Perm zs->zs'.Pairwise (λx y=>lexLt x.2 y.2=true)->Q (.ref (s.heap.objs.size+1)) { s with heap:=sortedAll s.heap (zs.map λz=>Value.ref z.1) (zs'.map λz=>Value.ref z.1).toArray }) :
  wpAny (model prog w) A (call (.builtin "sorted") [.ref l]) Q E s:=by
 have hsl:(zs.map λz=>Value.ref z.1).length<=sizeLine:=by rw [List.length_map,sizeLine_eq];omega
 refine Calls.call_function_entry kind_sorted plain_sorted entry_sorted (args_sorted1 _) ?_
 unfold Builtin.«sorted»
 refine wpAny_bind (m:=checkCount "sorted" 1 1 _) (wpAny_pure (wpAny_bind (collect_list hl (wpAny_bind (wpAny_newList ?_ hsl)) hsl)))
 generalize hB:(s.heap.push (seqObj "list" #[] 0)).update s.heap.objs.size (Obj.mapSeq (·++(zs.map λz=>Value.ref z.1).toArray))=B
 have hsz:B.objs.size=s.heap.objs.size+1:=by rw [<- hB,Heap.size_update,size_push']
 have keep:∀ b o,s.heap.get? b=some o->(B.push (seqObj "list" (zs.map λz=>Value.ref z.1).toArray 0)).get? b=some o:=λb o q=>by
  have hlt:b<s.heap.objs.size:=Heap.lt_size q
  rw [Heap.get?_push_ne _ _ _ (by rw [hsz];exact Nat.ne_of_lt (Nat.lt_succ_of_lt hlt)),<- hB,Heap.get?_update_ne _ _ _ _ (Nat.ne_of_lt hlt),Heap.get?_push_ne _ _ _ (Nat.ne_of_lt hlt)];exact q
 have hoL:(B.push (seqObj "list" (zs.map λz=>Value.ref z.1).toArray 0)).get? (s.heap.objs.size+1)=some (seqObj "list" (zs.map λz=>Value.ref z.1).toArray 0):=by
  rw [<- hsz];exact Heap.get?_push_size _ rfl
 show wpAny _ _ _ _ _ { s with heap:=B.push (seqObj "list" (zs.map λz=>Value.ref z.1).toArray 0) }
 dsimp only
 rw [hsz]
 refine wpAny_bind (wpAny_holding (wpAny_call_entry slot_list_sort ⟨_,hoL,rfl⟩ entry_list_sort (zb0 (A:=A.in1.in1) (s:={ s with heap:=B.push (seqObj "list" (zs.map λz=>Value.ref z.1).toArray 0) }) hoL (λz hzm=>?_) nd h4 (by show A.units+1+1+1<cLine;omega) λzs' a1 a2=>⟨_,rfl,?_⟩) (args_list_sort _)))
 ·obtain⟨its,hl',hI⟩:=hz z hzm
  obtain⟨o,e,_⟩:=id hl'
  exact⟨Nat.ne_of_lt (Nat.lt_succ_of_lt (Heap.lt_size e)),its,hl'.at λo e=>keep _ o e,hI⟩
 ·have q:=h zs' a1 a2
  have e2:sortedHeap (B.push (seqObj "list" (zs.map λz=>Value.ref z.1).toArray 0)) (s.heap.objs.size+1) (zs.map λz=>Value.ref z.1) (zs'.map λz=>Value.ref z.1).toArray=sortedAll s.heap (zs.map λz=>Value.ref z.1) (zs'.map λz=>Value.ref z.1).toArray:=by rw [<- hB];rfl
  show wpAny _ _ _ _ _ { s with heap:=sortedHeap (B.push (seqObj "list" (zs.map λz=>Value.ref z.1).toArray 0)) (s.heap.objs.size+1) (zs.map λz=>Value.ref z.1) (zs'.map λz=>Value.ref z.1).toArray }
  rw [e2]
  exact wpAny_pure ⟨_,rfl,q⟩
end
end HT
namespace L2
open PySem PySem.Spec PyProof.Rows
section
variable {X:Cx}
def zfR (K:W.Frag):List V->Hp->VK->Prop:=λxs H Q=>∃ (a:Addr) (zs:ZB),xs=[.ref a]/\SqL K H a (zs.map λz=>V.ref z.1)/\zs.length<=4/\(∀ z∈zs,SqL K H z.1 (z.2.map V.int))/\(zs.map (·.2)).Nodup /\
 ∀ (p:Addr) (zs':ZB),H p=none->zs'.Perm zs->zs'.Pairwise (λx y=>HT.lexLt x.2 y.2=true)->Q (.ref p) (upd H p (.lst (zs'.map λz=>V.ref z.1)))
theorem Vm:∀ {zs:ZB} {its:List Value},Vals (zs.map λz=>V.ref z.1) its->its=zs.map λz=>Value.ref z.1
 | [],its,h=>by cases h;rfl
 | z :: zs,its,h=>by
  cases h with
  | cons r t=>rw [Vm t];cases r;rfl
theorem Xi:∀ (zs:ZB),Vals (zs.map λz=>V.ref z.1) (zs.map λz=>Value.ref z.1)
 | []=>.nil
 | z :: zs=>.cons rfl (Xi zs)
theorem zcO (K:W.Frag) (hu:X.A.units+64<cLine) (e:X.K=K:=by rfl):vB X (.builtin "sorted") (zfR K):=by
 subst e
 intro pins s σ H xs us Q I r h
 obtain⟨a,zs,rfl,ha,h4,hz,nd,q⟩:=h
 obtain⟨u,rfl,rx⟩:=vals1 r
 cases rx
 obtain⟨its,r1,p1,_⟩:=I.list ha
 have e1:=Vm r1
 subst e1
 refine HT.zft p1.isList (λz hzm=>?_) nd h4 (by omega) λzs' pm pw=>?_
 ·obtain⟨its,r2,p2,_⟩:=I.list (hz z hzm)
  exact⟨its,p2.isList,by simpa using intsAre_of r2⟩
 ·obtain⟨c,hat⟩:=sortedAll_at s.heap (zs.map λz=>Value.ref z.1) (zs'.map λz=>Value.ref z.1).toArray
  have hfree:H (s.heap.objs.size+1)=none:=I.hok.fresh (Nat.le_succ _)
  refine⟨.ref (s.heap.objs.size+1),_,I.laid (t':=s.toks) (o:=.lst (zs'.map λz=>V.ref z.1)) (λb o e=>sortedAll_old e) (Nat.le_succ _) ?_,rfl,q _ zs' hfree pm pw⟩
  exact⟨by rw [List.length_map,pm.length_eq];exact Nat.le_trans h4 (by decide),_,c,Xi zs',hat⟩
end
section
variable {κ:Type} [DecidableEq κ]
def Ug (kvs:List (κ×V)) (k:κ):Option V:=(kvs.find? λkv=>decide (kv.1=k)).map (·.2)
def putK (kvs:List (κ×V)) (k:κ) (v:V):List (κ×V) :=
 if (kvs.any λkv=>decide (kv.1=k))=true then kvs.map (λkv=>if kv.1=k then (kv.1,v) else kv) else kvs++[(k,v)]
def zfC (kvs:List (κ×V)) (k:κ):List (κ×V):=kvs.filter λkv=>decide (kv.1≠k)
theorem Ut {p:κ×V} {r:List (κ×V)} {k:κ} (e:p.1=k):Ug (p :: r) k=some p.2:=by simp [Ug,List.find?_cons,e]
theorem Uv {p:κ×V} {r:List (κ×V)} {k:κ} (e:¬ p.1=k):Ug (p :: r) k=Ug r k:=by simp [Ug,List.find?_cons,e]
theorem zaR (k:κ):∀ kvs:List (κ×V),(kvs.any λkv=>decide (kv.1=k))=(Ug kvs k).isSome
 | []=>rfl
 | p :: r=>by
  rw [List.any_cons]
  by_cases e:p.1=k
  ·simp only [Ut e,decide_eq_true e,Bool.true_or,Option.isSome_some]
  ·rw [Uv e,decide_eq_false e,Bool.false_or];exact zaR k r
theorem VR (kvs:List (κ×V)) (k:κ) (v:V):(putK kvs k v).length<=kvs.length+1:=by
 unfold putK
 split
 ·rw [List.length_map];omega
 ·rw [List.length_append,List.length_cons,List.length_nil];omega
theorem RelO.isSome_eq {o:Option V} {u:Option Value} (r:RelO o u):o.isSome=u.isSome:=by
 cases o with
 | none=>cases u with
  | none=>rfl
  | some _=>exact (show False from r).elim
 | some _=>cases u with
  | none=>exact (show False from r).elim
  | some _=>rfl
theorem RelO.getD {o:Option V} {u:Option Value} {d:V} {d':Value} (r:RelO o u) (rd:RelV d d'):RelV (o.getD d) (u.getD d'):=by
 cases o with
 | none=>cases u with
  | none=>exact rd
  | some _=>exact (show False from r).elim
 | some _=>cases u with
  | none=>exact (show False from r).elim
  | some _=>exact r
theorem KV.val {kvs:List (κ×V)} {vs:List (κ×Value)} (r:KV kvs vs) (k:κ):RelO (Ug kvs k) (valueAt vs k):=by
 unfold KV at r
 induction r with
 | nil=>exact True.intro
 | @cons p q ps qs h t ih =>
  obtain⟨h1,h2⟩:=h
  by_cases e:p.1=k
  ·have e':q.1=k:=h1.symm.trans e
   have b:valueAt (q :: qs) k=some q.2:=by simp [valueAt,List.find?_cons,e']
   rw [Ut e,b];exact h2
  ·have e':¬ q.1=k:=λz=>e (h1.trans z)
   have b:valueAt (q :: qs) k=valueAt qs k:=by simp [valueAt,List.find?_cons,e']
   rw [Uv e,b];exact ih
theorem KV.any {kvs:List (κ×V)} {vs:List (κ×Value)} (r:KV kvs vs) (k:κ):(kvs.any λkv=>decide (kv.1=k))=vs.any λkv=>decide (kv.1=k):=by
 unfold KV at r
 induction r with
 | nil=>rfl
 | cons h t ih=>rw [List.any_cons,List.any_cons,ih,h.1]
theorem KV.repl {kvs:List (κ×V)} {vs:List (κ×Value)} (r:KV kvs vs) (k:κ) {y:V} {u:Value} (ry:RelV y u) :
  KV (kvs.map λkv=>if kv.1=k then (kv.1,y) else kv) (vs.map λkv=>if kv.1=k then (kv.1,u) else kv):=by
 unfold KV at r ⊢
 induction r with
 | nil=>exact .nil
 | @cons p q ps qs h t ih =>
  rw [List.map_cons,List.map_cons]
  refine .cons ?_ ih
  obtain⟨h1,h2⟩:=h
  by_cases e:p.1=k
  ·rw [if_pos e,if_pos (h1.symm.trans e)];exact⟨h1,ry⟩
  ·rw [if_neg e,if_neg (λz=>e (h1.trans z))];exact⟨h1,h2⟩
theorem KV.put {kvs:List (κ×V)} {vs:List (κ×Value)} (r:KV kvs vs) (k:κ) {y:V} {u:Value} (ry:RelV y u):KV (putK kvs k y) (stored vs k u):=by
 unfold putK stored
 rw [r.any k]
 by_cases e:(vs.any λkv=>decide (kv.1=k))=true
 ·rw [if_pos e,if_pos e];exact r.repl k ry
 ·rw [if_neg e,if_neg e];exact Paired.snoc r ⟨rfl,ry⟩
theorem KV.drop {kvs:List (κ×V)} {vs:List (κ×Value)} (r:KV kvs vs) (k:κ):KV (zfC kvs k) (without vs k):=by
 unfold KV at r ⊢
 unfold zfC without
 induction r with
 | nil=>exact .nil
 | @cons p q ps qs h t ih =>
  obtain⟨h1,h2⟩:=h
  rw [List.filter_cons,List.filter_cons]
  by_cases e:p.1=k
  ·have a:¬ decide (p.1≠k)=true:=by simp [e]
   have b:¬ decide (q.1≠k)=true:=by simp [h1.symm.trans e]
   rw [if_neg a,if_neg b];exact ih
  ·have e':¬ q.1=k:=λz=>e (h1.trans z)
   have a:decide (p.1≠k)=true:=by simp [e]
   have b:decide (q.1≠k)=true:=by simp [e']
   rw [if_pos a,if_pos b];exact .cons ⟨h1,h2⟩ ih
theorem KV.length {kvs:List (κ×V)} {vs:List (κ×Value)} (r:KV kvs vs):kvs.length=vs.length:=Paired.length r
end
theorem zfy {P:Program} {w:World} {k:Key} {u:Value} (r:RelV (kV k) u):(xR P w).is k u=true:=by
 cases k with
 | inl i=>obtain⟨t,e⟩:=(show ∃ t,u=Value.int i t from r);subst e;exact zbq P w i t
 | inr x=>obtain⟨t,e⟩:=(show ∃ t,u=Value.str x t from r);subst e;exact zby P w x t
theorem JF {P:Program} {w:World}:∀ {ks:List Key} {us:List Value},Vals (ks.map kV) us->ItemsAre (xR P w) ks us
 | [],_,r=>by rw [List.map_nil] at r;cases r;exact .nil
 | k :: ks,_,r=>by
  rw [List.map_cons] at r
  cases r with
  | cons h t=>exact .cons (zfy h) (JF t)
abbrev KT (H:Hp):List (List Key×V)->List (List Key×Addr×Value)->Prop:=Paired λp q=>p.1=q.1/\H q.2.1=some (.tup (p.1.map kV))/\RelV p.2 q.2.2
theorem KT.val {H:Hp} {kvs:List (List Key×V)} {xs:List (List Key×Addr×Value)} (r:KT H kvs xs) (k:List Key):RelO (Ug kvs k) ((atKey xs k).map (·.2)):=by
 induction r with
 | nil=>exact True.intro
 | @cons p q ps qs h t ih =>
  obtain⟨h1,_,h2⟩:=h
  by_cases e:p.1=k
  ·have e':q.1=k:=h1.symm.trans e
   have b:atKey (q :: qs) k=some q.2:=by simp [atKey,List.find?_cons,e']
   rw [Ut e,b];exact h2
  ·have e':¬ q.1=k:=λz=>e (h1.trans z)
   have b:atKey (q :: qs) k=atKey qs k:=by simp [atKey,List.find?_cons,e']
   rw [Uv e,b];exact ih
theorem KT.repl {H:Hp} {kvs:List (List Key×V)} {xs:List (List Key×Addr×Value)} (r:KT H kvs xs) (k:List Key) {y:V} {u:Value} (ry:RelV y u) :
  KT H (kvs.map λkv=>if kv.1=k then (kv.1,y) else kv) (xs.map (putAt k u)):=by
 induction r with
 | nil=>exact .nil
 | @cons p q ps qs h t ih =>
  rw [List.map_cons,List.map_cons]
  refine .cons ?_ ih
  obtain⟨h1,h2,h3⟩:=h
  unfold putAt
  by_cases e:p.1=k
  ·rw [if_pos e,if_pos (h1.symm.trans e)];exact⟨h1,h2,ry⟩
  ·rw [if_neg e,if_neg (λz=>e (h1.trans z))];exact⟨h1,h2,h3⟩
theorem KT.put {H:Hp} {kvs:List (List Key×V)} {xs:List (List Key×Addr×Value)} (r:KT H kvs xs) (k:List Key) {b:Addr} {y:V} {u:Value} (hb:H b=some (.tup (k.map kV))) (ry:RelV y u) :
  KT H (putK kvs k y) (storedH xs k b u):=by
 have e:(kvs.any λkv=>decide (kv.1=k))=(atKey xs k).isSome:=by
  rw [zaR,(r.val k).isSome_eq,Option.isSome_map]
 unfold putK storedH
 rw [e]
 by_cases q:(atKey xs k).isSome=true
 ·rw [if_pos q,if_pos q];exact r.repl k ry
 ·rw [if_neg q,if_neg q];exact Paired.snoc r ⟨rfl,hb,ry⟩
theorem KT.keeps {H H':Hp} {kvs:List (List Key×V)} {xs:List (List Key×Addr×Value)} (r:KT H kvs xs) (ht:∀ b ys,H b=some (.tup ys)->H' b=some (.tup ys)):KT H' kvs xs :=
 Paired.mapP r λ_ _ z=>⟨z.1,ht _ _ z.2.1,z.2.2⟩
section
variable {P:Program} {w:World} {H:Hp} {h:Heap} {a:Addr}
theorem zfD {u:HO} (ok:HOk P w H h) (e:Rd H a u):ObjOk P w H h a u:=e.ok ok
theorem zg8 {kvs:List (Key×V)} (ok:HOk P w H h) (e:Rd H a (.dK kvs)):kvs.length<=sizeLine/\(a == sysModules)=false/\∃ vs,KV kvs vs/\h.DictOf (xR P w) a vs :=
 show ObjOk P w H h a (.dK kvs) from zfD ok e
theorem zg3 {kvs:List (Key×V)} (ok:HOk P w H h) (e:H a=some (.dK kvs)):kvs.length<=sizeLine/\(a == sysModules)=false/\∃ vs,KV kvs vs/\h.DictOf (xR P w) a vs:=zg8 ok (.inl e)
theorem zeK {ks:List Key} (ok:HOk P w H h) (e:H a=some (.tup (ks.map kV))):(tupleKind (xR P w)).is h ks a:=by
 obtain⟨_,its,r,o,h1,h2,n,h3⟩:=(show ObjOk P w H h a (.tup (ks.map kV)) from ok a _ e)
 exact⟨o,its.toArray,n,h1,h2,h3,by simpa using JF r⟩
theorem zgQ {kvs:List (List Key×V)} (ok:HOk P w H h) (e:Rd H a (.dT kvs)):kvs.length<=sizeLine/\(a == sysModules)=false /\
  ∃ xs,KT H kvs xs/\h.DictOfH (tupleKind (xR P w)) a xs:=by
 obtain⟨z,y,xs,r,o,es,ep,h1,h2,h3,h4,h5⟩:=(show ObjOk P w H h a (.dT kvs) from zfD ok e)
 refine⟨z,y,xs,r,o,es,ep,h1,h2,h3,h4,λx hx=>?_,h5⟩
 have all:∀ {l:List (List Key×V)} {m:List (List Key×Addr×Value)},KT H l m->∀ x∈m,(tupleKind (xR P w)).is h x.1 x.2.1:=by
  intro l m q
  induction q with
  | nil=>intro x hx;exact nomatch hx
  | @cons p q ps qs hq t ih =>
   intro x hx
   rcases List.mem_cons.mp hx with e | hx
   ·subst e
    exact zeK ok (by rw [<- hq.1];exact hq.2.1)
   ·exact ih x hx
 exact all r x hx
theorem zfv {kvs:List (List Key×V)} (ok:HOk P w H h) (e:H a=some (.dT kvs)):kvs.length<=sizeLine/\(a == sysModules)=false /\
  ∃ xs,KT H kvs xs/\h.DictOfH (tupleKind (xR P w)) a xs:=zgQ ok (.inl e)
end
def DGet (H:Hp) (a:Addr) (y:V) (r:Option V):Prop :=
 (∃ kvs k,Rd H a (.dK kvs)/\y=kV k/\r=Ug kvs k)\/∃ kvs k b,Rd H a (.dT kvs)/\y=.ref b/\H b=some (.tup (k.map kV))/\r=Ug kvs k
def DPut (H:Hp) (a:Addr) (y v:V) (H':Hp):Prop :=
 (∃ kvs k,H a=some (.dK kvs)/\y=kV k/\kvs.length<sizeLine/\H'=upd H a (.dK (putK kvs k v))) \/
 ∃ kvs k b,H a=some (.dT kvs)/\y=.ref b/\H b=some (.tup (k.map kV))/\kvs.length<sizeLine/\H'=upd H a (.dT (putK kvs k v))
theorem DGet.k {H:Hp} {a:Addr} {kvs:List (Key×V)} {k:Key} (e:H a=some (.dK kvs)):DGet H a (kV k) (Ug kvs k):=.inl ⟨kvs,k,.inl e,rfl,rfl⟩
theorem DGet.t {H:Hp} {a b:Addr} {kvs:List (List Key×V)} {k:List Key} (e:H a=some (.dT kvs)) (eb:H b=some (.tup (k.map kV))):DGet H a (.ref b) (Ug kvs k):=.inr ⟨kvs,k,b,.inl e,rfl,eb,rfl⟩
theorem DPut.k {H:Hp} {a:Addr} {kvs:List (Key×V)} {k:Key} {v:V} (e:H a=some (.dK kvs)) (hl:kvs.length<sizeLine):DPut H a (kV k) v (upd H a (.dK (putK kvs k v))):=.inl ⟨kvs,k,e,rfl,hl,rfl⟩
theorem DPut.t {H:Hp} {a b:Addr} {kvs:List (List Key×V)} {k:List Key} {v:V} (e:H a=some (.dT kvs)) (eb:H b=some (.tup (k.map kV))) (hl:kvs.length<sizeLine) :
  DPut H a (.ref b) v (upd H a (.dT (putK kvs k v))):=.inr ⟨kvs,k,b,e,rfl,eb,hl,rfl⟩
section
variable {X:Cx} {pins:List (Addr×Obj)} {σ:St} {H:Hp} {s:Shared} {a:Addr} {y v:V} {u r:Value} {o:Option V} {A:Around} {E:Value->Shared->Prop}
theorem Inv.big (I:Inv X pins σ H s):sysModules<s.heap.objs.size:=by
 have h:mainGlobals<s.heap.objs.size:=(I.mod.glob.keeps I.bk).lt
 exact Nat.lt_trans (by decide) h
theorem zco {h':Heap} {t':Nat} {ob:HO} (I:Inv X pins σ H s) (mu:Mut (H a)) (hs:Heap.SameBut a s.heap h') (he:∃ q,h'.get? a=some q) (new:ObjOk X.prog X.w (upd H a ob) h' a ob) :
  Inv X pins σ (upd H a ob) { s with heap:=h',toks:=t' } :=
 I.write (x:=a) (e:=a) mu (.inl rfl) (λb q hb z=>(hs.2 b hb).trans z) he new
theorem zga {P:Program} {w:World} {H':Hp} {h':Heap} {kvs:List (Key×V)} {vs:List (Key×Value)} (z:kvs.length<=sizeLine) (hd:(a == sysModules)=false) (rel:KV kvs vs) (dd:h'.DictOf (xR P w) a vs) :
  ObjOk P w H' h' a (.dK kvs):=⟨z,hd,vs,rel,dd⟩
theorem zcY {H':Hp} {Q:Unit->Shared->Prop} (hu:A.units+1<cLine) (I:Inv X pins σ H s) (g:DPut H a y v H') (ry:RelV y u) (rv:RelV v r) (h:∀ s',Inv X pins σ H' s'->Q () s') :
  wpAny (model X.prog X.w) A (setItem (.ref a) u r) Q E s:=by
 rcases g with ⟨kvs,k,e,ey,l,eH⟩ | ⟨kvs,k,b,e,ey,eb,l,eH⟩
 ·subst ey eH
  obtain⟨z,hd,vs,rel,dd⟩:=zg3 I.hok e
  have hz:vs.length<=sizeLine:=by rw [<- rel.length];exact z
  have hl:(putK kvs k v).length<=sizeLine:=by have:=VR kvs k v;omega
  refine wpAny_setItem_pairs (hsz:=hz) (zfy ry) dd λh' dd' hs=>h _ ?_
  have he:∃ q,h'.get? a=some q:=let ⟨q,_,_,hq,_⟩:=dd';⟨q,hq⟩
  exact zco I (by rw [e];exact True.intro) hs he (zga hl hd (rel.put k rv) dd')
 ·subst ey eH
  cases (show u=Value.ref b from ry)
  obtain⟨z,hd,xs,rel,dd⟩:=zfv I.hok e
  have hz:xs.length<=sizeLine:=by rw [<- Paired.length rel];exact z
  have hl:(putK kvs k v).length<=sizeLine:=by have:=VR kvs k v;omega
  refine wpAny_setItem_heap (hsz:=hz) (tupleKind_room_in1 hu) (zeK I.hok eb) dd λh' dd' hs=>h _ ?_
  obtain⟨q,es,ep,hq,h2,h3,h4,_,h5⟩:=dd'
  refine zco I (by rw [e];exact True.intro) hs ⟨q,hq⟩ ⟨hl,hd,_,(rel.put k eb rv).keeps λc ys ec=>?_,q,es,ep,hq,h2,h3,h4,h5⟩
  rw [zy (tY ec e (λz=>nomatch z))]
  exact ec
end
section
variable {X:Cx} {pins:List (Addr×Obj)} {σ:St} {H:Hp} {s:Shared} {a:Addr} {kvs:List (Key×V)} {k:Key} {u:Value} {A:Around} {E:Value->Shared->Prop}
end
def zgv (td ty tv:TE):TS:=λD σ H=>tv σ H λv H1=>td σ H1 λx H2=>ty σ H2 λy H3=>∃ a H4,x=.ref a/\DPut H3 a y v H4/\D.nx σ H4
section
variable {X:Cx} {o i e value:Expr} {pos pos' tpos:Pos} {td ty tv:TE}
theorem ze5 (hu:X.A.units+1<cLine) (ho:PE X o td) (hi:PE X i ty) (hv:PE X value tv) (hs:swapsWith value (some (.Subscript o i pos')) pos.line X.env=pure false) :
  PS X (.Assign [.Subscript o i pos'] value pos) (zgv td ty tv):=by
 intro pins s σ H D I h
 refine wpAny_Assign_Subscript (thn (hv pins s σ H _ I h) λr s1 ⟨v,H1,I1,rv,q1⟩=>thn (ho pins s1 σ H1 _ I1 q1) λu s2 ⟨x,H2,I2,rx,q2⟩=>thn (hi pins s2 σ H2 _ I2 q2) λiv s3 ⟨y,H3,I3,ry,a,H4,ex,g,q3⟩=>?_) hs
 subst ex
 obtain rfl:u=Value.ref a:=rx
 exact zcY hu I3 g ry rv λs4 I4=>⟨σ,H4,I4,q3⟩
end
theorem zey {P:Program} {w:World} {H:Hp} (h:Heap) (hb:sysModules<h.objs.size):ObjOk P w H (h.push { cls:=.type "dict",data:=.dict #[] }) h.objs.size (.dK []) :=
 ⟨Nat.zero_le _,beq_eq_false_iff_ne.mpr (Ne.symm (Nat.ne_of_lt hb)),[],.nil,Heap.DictOf.new h⟩
theorem zec {P:Program} {w:World} {H:Hp} (h:Heap) (hb:sysModules<h.objs.size):ObjOk P w H (h.push { cls:=.type "dict",data:=.dict #[] }) h.objs.size (.dT []) :=
 ⟨Nat.zero_le _,beq_eq_false_iff_ne.mpr (Ne.symm (Nat.ne_of_lt hb)),[],.nil,_,#[],0,Heap.get?_push_size _ rfl,⟨rfl,rfl,rfl⟩,rfl,rfl,List.nodup_nil⟩
def zdF:TE:=λ_ H Q=>∀ p,H p=none->Q (.ref p) (upd H p (.dK []))
def zgb:TE:=λ_ H Q=>∀ p,H p=none->Q (.ref p) (upd H p (.dT []))
section
variable {X:Cx} {pos:Pos}
theorem zeg:PE X (.Dict [] [] pos) zdF:=λpins s σ H Q I h =>
 wpAny_Dict_empty ⟨.ref s.heap.objs.size,_,I.laid (a:=s.heap.objs.size) (o:=.dK []) (t':=s.toks) (λ_ _ q=>Heap.get?_push_of_some _ q) (Nat.le_refl _) (zey s.heap I.big),rfl,h _ (I.hok.fresh (Nat.le_refl _))⟩
theorem zd6:PE X (.Dict [] [] pos) zgb:=λpins s σ H Q I h =>
 wpAny_Dict_empty ⟨.ref s.heap.objs.size,_,I.laid (a:=s.heap.objs.size) (o:=.dT []) (t':=s.toks) (λ_ _ q=>Heap.get?_push_of_some _ q) (Nat.le_refl _) (zec s.heap I.big),rfl,h _ (I.hok.fresh (Nat.le_refl _))⟩
end
structure M1 (X:Cx) (o:Expr) (m:Str) (apos:Pos) (e:Expr) (cpos:Pos):Prop where
 base:attributeBase o m X.env (eval o X.env)=eval o X.env
 few:((backTo cpos (starEach [e] X.env)).all (λx=>!x.1) && (backToKw cpos (keywordEach [] X.env)).all (λx=>x.1.isSome)
  && decide (([e]:List Expr).length+([]:List Keyword).length+(if ([]:List Keyword).isEmpty then 0 else 1)<30))=true
 line:(apos.endLine == cpos.line)=true
 trees:backTo cpos (starEach [e] X.env)=[(false,eval e X.env)]
structure M2 (X:Cx) (o:Expr) (m:Str) (apos:Pos) (e f:Expr) (cpos:Pos):Prop where
 base:attributeBase o m X.env (eval o X.env)=eval o X.env
 few:((backTo cpos (starEach [e,f] X.env)).all (λx=>!x.1) && (backToKw cpos (keywordEach [] X.env)).all (λx=>x.1.isSome)
  && decide (([e,f]:List Expr).length+([]:List Keyword).length+(if ([]:List Keyword).isEmpty then 0 else 1)<30))=true
 line:(apos.endLine == cpos.line)=true
 trees:backTo cpos (starEach [e,f] X.env)=[(false,eval e X.env),(false,eval f X.env)]
section
variable {X:Cx} {pins:List (Addr×Obj)} {σ:St} {H:Hp} {s:Shared} {a:Addr} {y d:V} {u r:Value} {o:Option V} {A:Around} {E:Value->Shared->Prop}
end
section
variable {X:Cx} {o e f:Expr} {apos cpos:Pos} {td ty tx:TE}
end
section
variable {X:Cx} {pins:List (Addr×Obj)} {σ:St} {H:Hp} {s:Shared} {a:Addr} {kvs:List (Key×V)} {A:Around} {E:Value->Shared->Prop}
end
section
variable {X:Cx} {pins:List (Addr×Obj)} {σ:St} {H:Hp} {s:Shared} {a:Addr} {y:V} {u:Value} {A:Around} {E:Value->Shared->Prop}
end
section
variable {X:Cx}
end
section
variable {κ:Type} [DecidableEq κ]
end
end L2
namespace HT
open PySem PyProof.Rows PySem.W
section
variable {prog:Program} {w:World} {A:Around} {E:Value->Shared->Prop} {s:Shared}
theorem zbA {a:Addr} {vs:List Value} {n0:Nat} {κ:SortKind} {c:Nat->Nat->Bool} {P:PySem.Fin->Shared->Prop} (ho:s.heap.get? a=some (seqObj "list" vs.toArray n0)) (h60:vs.length<=60) (O:Ord c vs.length)
  (hkind:∀ G:Heap,(∀ b o,b≠a->s.heap.get? b=some o->G.get? b=some o)->2<=vs.length->∀ Q:SortKind->Shared->Prop,Q κ { s with heap:=G }->wpAny (model prog w) A (keyKind' vs.toArray) Q E { s with heap:=G })
  (hcmp:∀ G:Heap,(∀ b o,b≠a->s.heap.get? b=some o->G.get? b=some o)->∀ i j (C:Bool->Shared->Prop),i<vs.length->j<vs.length->C (c i j) { s with heap:=G }->kas_ask prog w A κ vs i j C { s with heap:=G })
  (h:∀ p:List Nat,p.Perm (List.range vs.length)->p.Pairwise (λi j=>c i j=true)->P (.done (.ret .none)) { s with heap:=sortedHeap s.heap a vs (p.map λi=>vs.getD i Value.none).toArray }) :
  wpAny (model prog w) A (Builtin.«list.sort» ⟨[.ref a],[]⟩) P E s:=by
 rw [list_sort_plain]
 have hsl:vs.length<=sizeLine:=Nat.le_trans h60 (by decide)
 have ha:a<s.heap.objs.size:=Heap.lt_size ho
 obtain⟨e1,ho1⟩:∃ e1,(s.heap.update a (Obj.mapSeq λ_=>#[])).get? a=some (seqObj "list" #[] e1):=⟨_,get?_update_seq ho (λ_=>#[])⟩
 refine wpAny_bind (listItems_at ho rfl (wpAny_bind (listUpdate_at ho rfl (wpAny_bind (seqEpoch_at ho1 rfl (wpAny_bind (wpAny_newTuple (wpAny_bind (wpAny_newList (wpAny_holding ?_) (Nat.zero_le _))) (by show vs.length<=_;exact hsl))))) (by rw [List.size_toArray];exact hsl) (Nat.zero_le _))))
 generalize hG:(((s.heap.update a (Obj.mapSeq λ_=>(#[]:Array Value))).push (seqObj "tuple" vs.toArray 0)).push (seqObj "list" #[] 0))=G
 have ho6:G.get? a=some (seqObj "list" #[] e1):=by
  rw [<- hG,Heap.get?_push_ne _ _ _ (by rw [size_push',Heap.size_update];exact Nat.ne_of_lt (Nat.lt_succ_of_lt ha)),Heap.get?_push_ne _ _ _ (by rw [Heap.size_update];exact Nat.ne_of_lt ha)];exact ho1
 have keep:∀ b o,b≠a->s.heap.get? b=some o->G.get? b=some o:=λb o hb e=>by
  have hlt:=Heap.lt_size e
  rw [<- hG,Heap.get?_push_ne _ _ _ (by rw [size_push',Heap.size_update];exact Nat.ne_of_lt (Nat.lt_succ_of_lt hlt)),Heap.get?_push_ne _ _ _ (by rw [Heap.size_update];exact Nat.ne_of_lt hlt),Heap.get?_update_other _ _ (Ne.symm hb)];exact e
 show wpAny (model prog w) A _ P E { s with heap:=G }
 dsimp only
 have e2:∀ out:Array Value,G.update a (Obj.mapSeq λ_=>out)=sortedHeap s.heap a vs out:=λout=>by rw [<- hG];rfl
 by_cases h2:vs.toArray.size<2
 ·rw [if_pos h2,if_pos h2]
  refine wpAny_bind (wpAny_pure ?_)
  rw [StateT.run_pure]
  refine wpAny_bind (wpAny_pure ?_)
  dsimp only
  rw [List.size_toArray] at h2
  have hout:(arrOf (SortSt.mk' general' (vs.toArray.zip vs.toArray) #[] 7 none)).map (·.2)=((List.range vs.length).map λi=>vs.getD i Value.none).toArray:=by
   show ((vs.toArray.zip vs.toArray).map (·.2))=_
   apply Array.toList_inj.mp
   rw [Array.toList_map,Array.toList_zip,List.map_snd_zip (by simp)]
   apply List.ext_getElem?
   intro i
   rw [List.getElem?_map]
   by_cases hi:i<vs.length
   ·rw [List.getElem?_range hi,Option.map_some,List.getD_eq_getElem?_getD,List.getElem?_eq_getElem hi];rfl
   ·rw [List.getElem?_eq_none (by simpa using hi),List.getElem?_eq_none (by simpa using hi)];rfl
  rw [hout]
  refine wpAny_bind (seqEpoch_at ho6 rfl (wpAny_bind (listUpdate_at ho6 rfl ?_ (Nat.zero_le _) (by rw [List.size_toArray,List.length_map,List.length_range];exact Nat.le_succ_of_le hsl))))
  simp only [bne_self_eq_false,Bool.false_eq_true,if_false]
  rw [e2]
  refine wpAny_pure (h _ (List.Perm.refl _) ?_)
  rw [List.pairwise_iff_getElem]
  intro i j hi hj hij
  rw [List.length_range] at hj
  omega
 ·rw [if_neg h2,if_neg h2]
  rw [List.size_toArray] at h2
  refine wpAny_bind (hkind G keep (by omega) _ ?_)
  have ask:(kas_sort vs.length).kasWp (kas_ask prog w A κ vs) (λp s'=>s'={ s with heap:=G }/\(Pm vs.length p/\Up c p vs.length)) { s with heap:=G } :=
   KW.wp (n:=vs.length) (λi j C hi hj hC=>hcmp G keep i j C hi hj hC) _ (zfx O (by omega))
  refine wpAny_bind (wpAny_mono (kat_run (E:=E) (ks:=vs) (vs:=vs) (Q:=λst' s'=>∃ p:Array Nat,s'={ s with heap:=G }/\arrOf st'=p.map (kas_item (vs.toArray.zip vs.toArray))/\failedOf st'=none/\Pm vs.length p/\Up c p vs.length)
   rfl (by omega) (by omega) (λp st' s' _ a2 a3 a4=>⟨p,a4.1,a2,a3,a4.2⟩) ask) ?_ λ_ _ e=>e)
  rintro⟨⟨⟩,st'⟩ s' ⟨p,rfl,har,hfl,hpm,hup⟩
  dsimp only
  have hpl:p.toList.length=vs.length:=by rw [hpm.pm.length_eq,List.length_range]
  have hol:(p.toList.map λi=>vs.getD i Value.none).length=vs.length:=by rw [List.length_map,hpl]
  rw [kat_snds rfl har]
  refine wpAny_bind (seqEpoch_at ho6 rfl (wpAny_bind (listUpdate_at ho6 rfl ?_ (Nat.zero_le _) (by rw [List.size_toArray,hol];exact Nat.le_succ_of_le hsl))))
  rw [hfl]
  simp only [bne_self_eq_false,Bool.false_eq_true,if_false]
  rw [e2]
  refine wpAny_pure (h _ hpm.pm ?_)
  rw [List.pairwise_iff_getElem]
  intro i j hi hj hij
  have q1:=hup i j hij (by omega)
  have g1:p.getD i 0=p.toList[i]:=by
   have:i<p.size:=by rw [hpm.sz];omega
   simp [Array.getD,this]
  have g2:p.getD j 0=p.toList[j]:=by
   have:j<p.size:=by rw [hpm.sz];omega
   simp [Array.getD,this]
  rw [g1,g2] at q1
  exact q1
theorem ze3 {r:Addr} {n:Nat} {κ:SortKind} {Pv:List Value->Prop} {Q:Value->Shared->Prop} (h60:n<=60)
  (hcol:∀ R:List Value->Shared->Prop,(∀ h' tk vs,(∀ b o,s.heap.get? b=some o->h'.get? b=some o)->vs.length=n->Pv vs->R vs { s with heap:=h',toks:=tk })->wpAny (model prog w) A.in1 (collect (.ref r)) R E s)
  (hord:∀ vs,vs.length=n->Pv vs->∃ c:Nat->Nat->Bool,Ord c n /\
   (∀ (G:Heap) (tk:Nat),(∀ b o,s.heap.get? b=some o->G.get? b=some o)->2<=n->∀ Q:SortKind->Shared->Prop,Q κ { s with heap:=G,toks:=tk }->wpAny (model prog w) A.in1.in1 (keyKind' vs.toArray) Q E { s with heap:=G,toks:=tk }) /\
   (∀ (G:Heap) (tk:Nat),(∀ b o,s.heap.get? b=some o->G.get? b=some o)->∀ i j (C:Bool->Shared->Prop),i<n->j<n->C (c i j) { s with heap:=G,toks:=tk }->kas_ask prog w A.in1.in1 κ vs i j C { s with heap:=G,toks:=tk }) /\
   ∀ (p:List Nat) (h' h'':Heap) (tk e:Nat),p.Perm (List.range n)->p.Pairwise (λi j=>c i j=true)->(∀ b o,s.heap.get? b=some o->h'.get? b=some o)->(∀ b o,h'.get? b=some o->h''.get? b=some o)->h''.get? h'.objs.size=some (seqObj "list" (p.map λi=>vs.getD i Value.none).toArray e)->Q (.ref h'.objs.size) { s with heap:=h'',toks:=tk }) :
  wpAny (model prog w) A (call (.builtin "sorted") [.ref r]) Q E s:=by
 refine Calls.call_function_entry kind_sorted plain_sorted entry_sorted (args_sorted1 _) ?_
 unfold Builtin.«sorted»
 refine wpAny_bind (m:=checkCount "sorted" 1 1 _) (wpAny_pure (wpAny_bind (hcol _ λh' tk vs hk hl pv=>?_)))
 obtain⟨c,O,hkind,hcmp,fin⟩:=hord vs hl pv
 subst hl
 have hsl:vs.length<=sizeLine:=Nat.le_trans h60 (by decide)
 refine wpAny_bind (wpAny_newList ?_ hsl)
 have hoL:(h'.push (seqObj "list" vs.toArray 0)).get? h'.objs.size=some (seqObj "list" vs.toArray 0):=Heap.get?_push_size _ rfl
 have ne:∀ b o,s.heap.get? b=some o->b≠h'.objs.size:=λb o q=>Nat.ne_of_lt (Heap.lt_size (hk b o q))
 show wpAny _ _ _ _ _ { s with heap:=h'.push (seqObj "list" vs.toArray 0),toks:=tk }
 dsimp only
 refine wpAny_bind (wpAny_holding (wpAny_call_entry slot_list_sort ⟨_,hoL,rfl⟩ entry_list_sort (zbA (A:=A.in1.in1) (s:={ s with heap:=h'.push (seqObj "list" vs.toArray 0),toks:=tk }) (κ:=κ) (c:=c) hoL h60 O (λG kG h2 Q' hq=>hkind G tk (λb o q=>kG b o (ne b o q) (Heap.get?_push_of_some _ (hk b o q))) h2 Q' hq)
  (λG kG i j C hi hj hC=>hcmp G tk (λb o q=>kG b o (ne b o q) (Heap.get?_push_of_some _ (hk b o q))) i j C hi hj hC) λp hp hw=>⟨_,rfl,?_⟩) (args_list_sort _)))
 refine wpAny_pure ⟨_,rfl,?_⟩
 obtain⟨e,he⟩:=sortedHeap_at (out:=(p.map λi=>vs.getD i Value.none).toArray) hoL
 refine fin p h' _ tk e hp hw hk (λb o q=>?_) he
 have hlt:=Heap.lt_size q
 rw [sortedHeap_old (Nat.ne_of_lt hlt) (by rw [size_push'];exact Nat.lt_succ_of_lt hlt)]
 exact Heap.get?_push_of_some _ q
end
def RawD (h:Heap) (d:Addr) (ks:List Value) (ep:Nat):Prop:=∃ (o:Obj) (es:Array DictEntry),h.get? d=some o/\o.ExactDict/\o.data=.dict es ep/\es.toList.map (·.key)=ks
theorem RawD.at {h h':Heap} {d:Addr} {ks:List Value} {ep:Nat} (x:RawD h d ks ep) (e:∀ o,h.get? d=some o->h'.get? d=some o):RawD h' d ks ep:=let ⟨o,es,ho,r⟩:=x;⟨o,es,e _ ho,r⟩
theorem RawD.lt {h:Heap} {d:Addr} {ks:List Value} {ep:Nat} (x:RawD h d ks ep):d<h.objs.size:=let ⟨_,_,ho,_⟩:=x;Heap.lt_size ho
theorem RawD.ty {s:Shared} {d:Addr} {ks:List Value} {ep:Nat} (x:RawD s.heap d ks ep):s.TypeIs (.ref d) "dict":=let ⟨o,_,ho,hc,_⟩:=x;⟨o,ho,hc.1⟩
section
variable {prog:Program} {w:World} {A:Around} {E:Value->Shared->Prop} {s:Shared} {d it:Addr} {ks:List Value} {ep i:Nat}
theorem zeO {Q:Value->Shared->Prop} (hd:(d == sysModules)=false) (hm:RawD s.heap d ks ep) (hQ:Q (.ref s.heap.objs.size) { s with heap:=s.heap.push { cls:=.type "dict_keyiterator",data:=.fields #[.ref d,.int 0 0,.int ks.length 0,.int ep 0] } }) :
  wpAny (model prog w) A (pyIter (.ref d)) Q E s:=by
 obtain⟨o,es,ho,hc,hdat,hk⟩:=id hm
 refine wpAny_pyIter_slot hm.ty F.slot_dict_iter (wpAny_call_entry F.slot_dict_iter hm.ty F.entry_dict_iter ?_ (F.args_dict_iter_1 _))
 unfold Builtin.«dict.__iter__» Builtin.Dict.dictSlotNone
 refine wpAny_bind (wpAny_bind (wpAny_notOrdered_dict hm.ty ?_))
 show wpAny _ _ (pure (Value.ref d)) _ _ s
 refine wpAny_pure ?_
 show wpAny _ _ (Builtin.Dict.showsAll d >>= _) _ _ s
 unfold Builtin.Dict.showsAll
 rw [hd,if_neg Bool.false_ne_true]
 have hsz:es.size=ks.length:=by rw [<- hk];simp
 refine wpAny_bind (wpAny_pure (wpAny_bind (wpAny_dictEntries ho hdat (wpAny_bind (wpAny_dictEpoch ho hdat (wpAny_bind (wpAny_newObj_type (wpAny_pure ⟨_,rfl,"dict_keyiterator",_,⟨_,Heap.get?_push_size _ rfl,rfl⟩,F.slot_dict_keyiterator_next.lookup,?_⟩))))))))
 simpa [rawInt,hsz] using hQ
theorem ze1 {v:Value} {Q:Option Value->Shared->Prop} (hit:s.heap.IsKeyIter it d i ks.length ep) (hm:RawD s.heap d ks ep) (hx:ks[i]?=some v)
  (hQ:∀ h',h'.IsKeyIter it d (i+1) ks.length ep->Heap.SameBut it s.heap h'->Q (some v) { s with heap:=h' }):wpAny (model prog w) A (pyNext (.ref it)) Q E s:=by
 obtain⟨o,ho,hc,hd⟩:=id hit
 obtain⟨od,es,hod,hcd,hdd,hk⟩:=id hm
 have hsz:es.size=ks.length:=by rw [<- hk];simp
 have hlt:i<es.size:=by rw [hsz];exact (List.getElem?_eq_some_iff.mp hx).1
 have hkey:es[i].key=v:=by
  rw [<- hk,List.getElem?_map] at hx
  simpa [hlt] using hx
 have hown:Builtin.Dict_items.ownsTuple "dict_keyiterator" = false:=by decide
 unfold pyNext
 refine wpAny_bind (wpAny_attempt (wpAny_callSpecial?_slot (name:=Str.ofString "__next__") hit.typeIs F.slot_dict_keyiterator_next (wpAny_call_entry F.slot_dict_keyiterator_next hit.typeIs F.entry_dict_keyiterator_next ?_ (F.args_dict_keyiterator_next_1 _))))
 refine wpAny_bind (wpAny_pure (wpAny_bind (wpAny_bind ?_)))
 first | refine wpAny_bind (wpAny_typeNameOfWhole_keyiter hit.typeIs (wpAny_pure (wpAny_bind (wpAny_fieldsOf ho hd ?_)))) | refine wpAny_bind (wpAny_typeNameOf_keyiter hit.typeIs (wpAny_pure (wpAny_bind (wpAny_fieldsOf ho hd ?_))))
 simp only [hown,Bool.false_eq_true,if_false]
 show wpAny _ _ (if (Value.ref d == Value.none)=true then _ else _) _ _ s
 rw [if_neg (show ¬ ((Value.ref d == Value.none)=true) from Bool.false_ne_true)]
 refine wpAny_bind (wpAny_pure (wpAny_bind (wpAny_dictEntries hod hdd ?_)))
 rw [if_neg (by rw [hsz];simp)]
 refine wpAny_bind (wpAny_pure (wpAny_bind (wpAny_dictEpoch hod hdd ?_)))
 rw [if_neg (by simp)]
 refine wpAny_pure ?_
 simp only [show ¬ ((i:Int)<0) from by omega,if_false,Int.toNat_natCast,Array.getElem?_eq_getElem hlt]
 refine wpAny_bind ?_
 first | refine wpAny_bind (wpAny_typeNameOfWhole_keyiter hit.typeIs (wpAny_pure (wpAny_bind (wpAny_isOneOf_keyiter hit.typeIs ?_)))) | refine wpAny_bind (wpAny_typeNameOf_keyiter hit.typeIs (wpAny_pure (wpAny_bind (wpAny_isOneOf_keyiter hit.typeIs ?_))))
 show wpAny _ _ (setField (.ref it) 1 (rawInt ((i:Int)+1)) >>= _) _ _ s
 refine wpAny_bind (wpAny_setField ho hd (by simp) ?_)
 have hit':(s.heap.update it (Obj.mapFields (·.setIfInBounds 1 (rawInt ((i:Int)+1))))).IsKeyIter it d (i+1) ks.length ep :=
  ⟨_,Heap.get?_update_self _ ho (Obj.isFreed_of_fields (Obj.data_mapFields hd _)),(Obj.cls_mapFields ..).trans hc,by rw [Obj.data_mapFields hd];simp [rawInt]⟩
 refine wpAny_bind (wpAny_holding (wpAny_bind (wpAny_isOneOf_keyiter (s:={ s with heap:=s.heap.update it (Obj.mapFields (·.setIfInBounds 1 (rawInt ((i:Int)+1)))) }) hit'.typeIs ?_)))
 show wpAny _ _ (pure es[i].key) _ _ _
 rw [hkey]
 exact wpAny_pure (wpAny_pure ⟨_,rfl,wpAny_pure (hQ _ hit' (Heap.SameBut.update ..))⟩)
theorem zgo {Q:Option Value->Shared->Prop} (hh:A.handled=none) (hit:s.heap.IsKeyIter it d ks.length ks.length ep) (hm:RawD s.heap d ks ep) (hQ:∀ h',Heap.ExtBut it s.heap h'->Q none { s with heap:=h' }):wpAny (model prog w) A (pyNext (.ref it)) Q E s:=by
 obtain⟨o,ho,hc,hd⟩:=id hit
 obtain⟨od,es,hod,hcd,hdd,hk⟩:=id hm
 have hsz:es.size=ks.length:=by rw [<- hk];simp
 have hge:es.size<=ks.length:=Nat.le_of_eq hsz
 have hown:Builtin.Dict_items.ownsTuple "dict_keyiterator" = false:=by decide
 unfold pyNext
 refine wpAny_bind (wpAny_attempt (wpAny_callSpecial?_slot (name:=Str.ofString "__next__") hit.typeIs F.slot_dict_keyiterator_next (wpAny_call_entry F.slot_dict_keyiterator_next hit.typeIs F.entry_dict_keyiterator_next ?_ (F.args_dict_keyiterator_next_1 _))))
 refine wpAny_bind (wpAny_pure (wpAny_bind (wpAny_bind ?_)))
 first | refine wpAny_bind (wpAny_typeNameOfWhole_keyiter hit.typeIs (wpAny_pure (wpAny_bind (wpAny_fieldsOf ho hd ?_)))) | refine wpAny_bind (wpAny_typeNameOf_keyiter hit.typeIs (wpAny_pure (wpAny_bind (wpAny_fieldsOf ho hd ?_))))
 simp only [hown,Bool.false_eq_true,if_false]
 show wpAny _ _ (if (Value.ref d == Value.none)=true then _ else _) _ _ s
 rw [if_neg (show ¬ ((Value.ref d == Value.none)=true) from Bool.false_ne_true)]
 refine wpAny_bind (wpAny_pure (wpAny_bind (wpAny_dictEntries hod hdd ?_)))
 rw [if_neg (by rw [hsz];simp)]
 refine wpAny_bind (wpAny_pure (wpAny_bind (wpAny_dictEpoch hod hdd ?_)))
 rw [if_neg (by simp)]
 refine wpAny_pure ?_
 simp only [show ¬ ((ks.length:Int)<0) from by omega,if_false,Int.toNat_natCast,Array.getElem?_eq_none hge]
 refine wpAny_bind ?_
 first | refine wpAny_bind (wpAny_typeNameOfWhole_keyiter hit.typeIs (wpAny_pure ?_)) | refine wpAny_bind (wpAny_typeNameOf_keyiter hit.typeIs (wpAny_pure ?_))
 show wpAny _ _ (setField (.ref it) 0 .none >>= _) _ _ s
 refine wpAny_bind (wpAny_setField ho hd (by simp) ?_)
 show wpAny _ _ (newExc (.type "StopIteration") [] >>= _) _ _ _
 refine wpAny_bind ?_
 simp only [newExc,newTuple]
 refine wpAny_bind (wpAny_newObj_type (wpAny_bind (m:=firstArgMember _ _) (wpAny_of_eq (a:=Value.none) (by first | rfl | (simp only [firstArgMember];rfl)) (wpAny_newObj_type ?_ (by size_fits)))) (by size_fits))
 simp only [raiseNew]
 refine wpAny_bind (wpAny_handled ?_)
 rw [show A.in1.handled=none from hh]
 refine wpAny_bind (wpAny_pure (wpAny_throw ?_))
 refine wpAny_bind (wpAny_isInstance (T:="StopIteration") (b:=true) ⟨_,Heap.get?_push_size _ rfl,rfl⟩ isSubtype_stop ?_)
 exact wpAny_pure (hQ _ (((Heap.SameBut.update ..).extBut.push _).push _))
theorem zd3 (hh:A.handled=none) (I d:Addr) (hne:d≠I) (ks:List Value) (ep:Nat):Walks prog w A I [I,d] [I] ks.length (λi v=>ks[i]?=some v) (λi h=>h.IsKeyIter I d i ks.length ep/\RawD h d ks ep) where
 sub:=λb hb=>by simp at hb;simp [hb]
 frame:=λ_ _ _ st hk=>⟨st.1.at λo e=>hk I (by simp) o e,st.2.at λo e=>hk d (by simp) o e⟩
 item:=λi s Q E hi st hQ=>by
  refine ze1 (v:=ks[i]) st.1 st.2 (List.getElem?_eq_getElem hi) λh' hit' hs'=>hQ _ h' s.toks (List.getElem?_eq_getElem hi) ⟨hit',st.2.at λo e=>hs'.extBut _ _ hne e⟩ λb o hb e=>hs'.extBut b o (λh=>hb (by simp [h])) e
 done:=λs Q E st hQ=>zgo hh st.1 st.2 λh' he'=>hQ h' s.toks λb o hb e=>he' b o (λh=>hb (by simp [h])) e
 self:=λ_ _ _ _ st hQ=>wpAny_pyIter_keyiter st.1 hQ
theorem zfT (lo:(d == sysModules)=false):KdlSrc prog w "dict" d d ks.length (λi v=>ks[i]?=some v) (λh=>RawD h d ks ep) where
 type:=λ_ hm=>hm.ty
 there:=λ_ hm=>⟨hm.lt,hm.lt⟩
 keep:=λ_ _ hm hk=>hm.at λo e=>hk d (.inl rfl) o e
 notList:=by decide
 notTuple:=by decide
 hint:=λ_ _ _ _ hm hq=>kdl_hint_dict hm.ty hq
 iter:=λ_ _ hh hm=>⟨_,_,(λ_ _ hq=>zeO lo hm hq),zd3 hh _ d (Nat.ne_of_lt hm.lt) ks ep,⟨⟨_,Heap.get?_push_size _ rfl,rfl,rfl⟩,hm.at λo e=>Heap.get?_push_of_some _ e⟩⟩
end
end HT
namespace L2
open PySem PySem.Spec PyProof.Rows PySem.W
def kI (ns:List Int):List Key:=ns.map Sum.inl
theorem zgJ (ns:List Int):(kI ns).map kV=ns.map V.int:=by unfold kI;rw [List.map_map];rfl
theorem zf5 {a b:List Int} (e:kI a=kI b):a=b:=by
 unfold kI at e
 exact List.map_inj_right (λx y h=>by cases h;rfl) |>.mp e
section
variable {X:Cx} {pins:List (Addr×Obj)} {σ:St} {H:Hp} {s:Shared}
theorem zaQ (I:Inv X pins σ H s) {p:Addr} {ns:List Int} (h:H p=some (.tup (ns.map V.int))):∃ (its:List Value) (o:Obj) (m:Nat),IntsAre its ns/\s.heap.get? p=some o/\o.cls=.type "tuple"/\o.data=.seq its.toArray m:=by
 obtain⟨_,its,r,o,e,hc,m,hd⟩:=I.hok p _ h
 exact⟨its,o,m,by simpa using intsAre_of r,e,hc,hd⟩
end
theorem zaS {prog:Program} {w:World} {A:Around} {Q:Bool->Shared->Prop} {s:Shared} {f:Bool}:∀ {xs ys:List Value} {as bs:List Int} (i:Nat),IntsAre xs as->IntsAre ys bs->f=decide (as.length<bs.length)->Q (HT.lexLt as bs) s->KatLex prog w A true f Q (xs.zip ys) i s
 | [],_,_,_,i,.nil,.nil,hf,h=>by subst hf;exact kat_nil h
 | [],_,_,_,i,.nil,.cons m u hj,hf,h=>by subst hf;exact kat_nil h
 | _,[],_,_,i,.cons n t hi,.nil,hf,h=>by subst hf;exact kat_nil h
 | _,_,_,_,i,.cons n t (ns:=as) hi,.cons m u (ns:=bs) hj,hf,h=>by
  rw [List.zip_cons_cons]
  refine kat_cons (wpAny_eqBool_int ?_)
  rw [HT.uQ] at h
  by_cases e:n=m
  ·rw [if_pos e] at h
   rw [show (n == m)=true by simp [e]]
   exact kat_yes (zaS (i+1) hi hj (by rw [hf];simp) h)
  ·rw [if_neg e] at h
   rw [show (n == m)=false by simp [e]]
   refine kat_no ?_
   by_cases hi0:i=0
   ·subst hi0
    exact oneLt_int h
   ·rw [show (true && i == 0)=false by simp [hi0]]
    exact kat_one _ _ (HT.zbf A s n t m u prog w _ _ h)
section
variable {X:Cx} {pins:List (Addr×Obj)} {σ:St} {H:Hp} {s:Shared}
theorem zeV (I:Inv X pins σ H s) {A:Around} {p q:Addr} {as bs:List Int} (hp:H p=some (.tup (as.map V.int))) (hq:H q=some (.tup (bs.map V.int))) {Q:Bool->Shared->Prop} {E:Value->Shared->Prop} (h:Q (HT.lexLt as bs) s) :
  wpAny (model X.prog X.w) A (keyLt' (tuples' true) (.ref p) (.ref q)) Q E s:=by
 obtain⟨its,o,m,hi,e,_,hd⟩:=zaQ I hp
 obtain⟨its',o',m',hi',e',_,hd'⟩:=zaQ I hq
 refine kat_lt e hd e' hd' ?_
 rw [List.size_toArray,List.size_toArray,hi.length,hi'.length]
 exact zaS 0 (by simpa using hi) (by simpa using hi') rfl h
end
theorem JG {X:Cx} {pins:List (Addr×Obj)} {σ:St} {H:Hp} {s:Shared} (I:Inv X pins σ H s):∀ zs:ZB,(∀ z∈zs,H z.1=some (.tup (z.2.map V.int))/\z.2≠[])->∃ fs:List Value,KatTups s.heap (zs.map λz=>Value.ref z.1) fs/\fs.length=zs.length/\∀ v∈fs,∃ n t,v=Value.int n t
 | [],_=>⟨[],KatTups.nil,rfl,λv hv=>by cases hv⟩
 | z :: zs,h=>by
  obtain⟨fs,h1,h2,h3⟩:=JG I zs λq hq=>h q (.tail _ hq)
  obtain⟨za,zl⟩:=z
  obtain⟨hz,hne⟩:=h (za,zl) (.head _)
  obtain⟨its,o,m,hi,e,hc,hd⟩:=zaQ I hz
  simp only at hi hne
  cases hi with
  | nil=>exact absurd rfl hne
  | cons n t hi =>
   refine⟨.int n t :: fs,KatTups.cons e hc hd (by simp) h1,by simp [h2],λv hv=>?_⟩
   rcases List.mem_cons.mp hv with rfl | hv
   ·exact⟨n,t,rfl⟩
   ·exact h3 v hv
theorem zge {ls:ZA} (nd:ls.Nodup):HT.Ord (λi j=>HT.lexLt (ls.getD i []) (ls.getD j [])) ls.length:=by
 have ge:∀ i,(h:i<ls.length)->ls.getD i []=ls[i]:=λi h=>by rw [List.getD_eq_getElem?_getD,List.getElem?_eq_getElem h];rfl
 refine⟨λi j k _ _ _ h1 h2=>HT.wQ _ _ _ h1 h2,λi j hi hj hij h=>?_,λi j hi hj h=>?_⟩
 ·have ne:ls.getD i []≠ls.getD j []:=λz=>by
   rw [ge i hi,ge j hj] at z
   exact hij ((List.getElem_inj nd).mp z)
  have:=HT.Z8 _ _ ne
  rw [h] at this
  exact this
 ·cases e:HT.lexLt (ls.getD j []) (ls.getD i []) with
  | false=>rfl
  | true =>
   have:=HT.wQ _ _ _ h e
   rw [HT.yJ] at this
   cases this
theorem zdR {zs:ZB} {p:List Nat} (hp:p.Perm (List.range zs.length)) (hw:p.Pairwise (λi j=>HT.lexLt ((zs.map (·.2)).getD i []) ((zs.map (·.2)).getD j [])=true)) :
  ∃ zs':ZB,zs'.Perm zs/\zs'.Pairwise (λx y=>HT.lexLt x.2 y.2=true)/\(p.map λi=>(zs.map λz=>Value.ref z.1).getD i Value.none)=zs'.map λz=>Value.ref z.1:=by
 have g:∀ i∈p,(zs.map (·.2)).getD i []=(zs.getD i (0,[])).2/\(zs.map λz=>Value.ref z.1).getD i Value.none=Value.ref (zs.getD i (0,[])).1:=λi hi=>by
  have hi':=List.mem_range.mp (hp.mem_iff.mp hi)
  constructor
  ·rw [List.getD_eq_getElem?_getD,List.getD_eq_getElem?_getD,List.getElem?_map,List.getElem?_eq_getElem hi'];rfl
  ·rw [List.getD_eq_getElem?_getD,List.getD_eq_getElem?_getD,List.getElem?_map,List.getElem?_eq_getElem hi'];rfl
 refine⟨p.map λi=>zs.getD i (0,[]),HT.Vy _ zs hp,?_,?_⟩
 ·rw [List.pairwise_map]
  refine List.Pairwise.imp_of_mem ?_ hw
  intro i j hi hj h
  rw [(g i hi).1,(g j hj).1] at h
  exact h
 ·rw [List.map_map]
  exact List.map_congr_left λi hi=>(g i hi).2
theorem za7 {H:Hp}:∀ {kvs:List (List Key×V)} {xs:List (List Key×Addr×Value)} {ls:ZA},KT H kvs xs->kvs.map (·.1)=ls.map kI->∃ zs:ZB,zs.map (·.2)=ls/\(xs.map λx=>Value.ref x.2.1)=zs.map (λz=>Value.ref z.1)/\(∀ z∈zs,H z.1=some (.tup (z.2.map V.int)))/\xs.map (·.1)=ls.map kI
 | [],[],ls,.nil,e=>by
  cases ls with
  | nil=>exact⟨[],rfl,rfl,by simp,rfl⟩
  | cons _ _=>simp at e
 | p :: kvs,q :: xs,ls,.cons h t,e=>by
  cases ls with
  | nil=>simp at e
  | cons l ls =>
   rw [List.map_cons,List.map_cons] at e
   injection e with e1 e2
   obtain⟨zs,h1,h2,h3,h4⟩:=za7 t e2
   refine⟨(q.2.1,l) :: zs,by simp [h1],by simp [h2],λz hz=>?_,?_⟩
   ·rcases List.mem_cons.mp hz with rfl | hz
    ·have:=h.2.1
     rw [e1,zgJ] at this
     exact this
    ·exact h3 z hz
   ·rw [List.map_cons,List.map_cons,h4,<- h.1,e1]
section
variable {X:Cx}
def zfP:List V->Hp->VK->Prop:=λxs H Q=>∃ (a:Addr) (kvs:List (List Key×V)) (ls:ZA),xs=[.ref a]/\H a=some (.dT kvs)/\kvs.map (·.1)=ls.map kI/\ls.length<=60/\(∀ l∈ls,l≠[]) /\
 ∀ (p:Addr) (zs':ZB),H p=none->(zs'.map (·.2)).Perm ls->zs'.Pairwise (λx y=>HT.lexLt x.2 y.2=true)->(∀ z∈zs',H z.1=some (.tup (z.2.map V.int)))->Q (.ref p) (upd H p (.lst (zs'.map λz=>V.ref z.1)))
theorem zfd (hcalm:X.calm=true:=by rfl):vB X (.builtin "sorted") zfP:=by
 intro pins s σ H xs us Q I r h
 obtain⟨a,kvs,ls,rfl,ha,hks,h60,hne,q⟩:=h
 obtain⟨u,rfl,rx⟩:=vals1 r
 cases rx
 obtain⟨z,hd,xs,rel,o,es,ep,h1,h2,h3,h4,h5,h6⟩:=zfv I.hok ha
 obtain⟨zs,hz2,hzr,hzt,hx1⟩:=za7 rel hks
 have hzl:zs.length=ls.length:=by rw [<- hz2,List.length_map]
 have nd:(zs.map (·.2)).Nodup:=by
  rw [hz2]
  rw [hx1] at h6
  exact (List.pairwise_map.mp h6).imp λhab e=>hab (by rw [e])
 have hraw:HT.RawD s.heap a (zs.map λz=>Value.ref z.1) ep:=⟨o,es,h1,h2,h3,by rw [h4,List.map_map,<- hzr];rfl⟩
 have hkl:(zs.map λz=>Value.ref z.1).length=zs.length:=List.length_map ..
 have hO:=zge nd
 rw [List.length_map] at hO
 have hzt':∀ z∈zs,H z.1=some (.tup (z.2.map V.int))/\z.2≠[]:=λz hz=>⟨hzt z hz,hne _ (by rw [<- hz2];exact List.mem_map.mpr ⟨z,hz,rfl⟩)⟩
 refine HT.ze3 (n:=zs.length) (κ:=tuples' true) (Pv:=λvs=>vs=zs.map λz=>Value.ref z.1) (by omega) (λR hR=>?_) λvs hl hv=>?_
 ·refine kdu_collect (A:=X.A.in1) (HT.zfT (ks:=zs.map λz=>Value.ref z.1) (ep:=ep) hd) (I.ok.hd hcalm) hraw (by rw [hkl];exact Nat.le_trans (show zs.length<=60 by omega) (by decide)) λh' tk acc hk hacc=>?_
  have hal:acc.toList.length=zs.length:=by rw [Array.length_toList,hacc.1,hkl]
  refine hR h' tk acc.toList hk hal ?_
  apply List.ext_getElem?
  intro i
  cases e:acc.toList[i]? with
  | some v=>exact (hacc.2 i v (by rw [<- Array.getElem?_toList];exact e)).symm
  | none=>rw [List.getElem?_eq_none (by rw [hkl,<- hal];exact List.getElem?_eq_none_iff.mp e)]
 ·subst hv
  have gr:∀ i,i<zs.length->(zs.map λz=>Value.ref z.1).getD i Value.none=.ref (zs.getD i (0,[])).1/\(zs.map (·.2)).getD i []=(zs.getD i (0,[])).2/\zs.getD i (0,[])∈zs:=λi hi=>by
   have e:zs.getD i (0,[])=zs[i]:=by rw [List.getD_eq_getElem?_getD,List.getElem?_eq_getElem hi];rfl
   rw [e]
   refine⟨?_,?_,List.getElem_mem _⟩
   ·rw [List.getD_eq_getElem?_getD,List.getElem?_map,List.getElem?_eq_getElem hi];rfl
   ·rw [List.getD_eq_getElem?_getD,List.getElem?_map,List.getElem?_eq_getElem hi];rfl
  refine⟨_,hO,λG tk kG hn2 Q' hq=>?_,λG tk kG i j C hi hj hC=>?_,λp h' h'' tk e hp hw k1 k2 hat=>?_⟩
  ·obtain⟨fs,ht,hfl,hfi⟩:=JG (I.kept (t':=tk) kG) zs hzt'
   refine kat_kind (T:=.type "int") ht (by omega) (λv hv=>?_) (by decide) (by rw [show (Value.type "int" != Value.type "tuple")=true by decide];exact hq)
   obtain⟨n,t,rfl⟩:=hfi v hv
   exact Looks.of_pure rfl
  ·obtain⟨a1,a2,a3⟩:=gr i hi
   obtain⟨b1,b2,b3⟩:=gr j hj
   unfold kas_ask
   rw [a1,b1]
   refine zeV (I.kept (t':=tk) kG) (hzt _ a3) (hzt _ b3) ?_
   rw [a2,b2] at hC
   exact hC
  ·obtain⟨zs',pm,pw,hm⟩:=zdR hp hw
   rw [hm] at hat
   have I1:=I.kept (t':=tk) k1
   have hfree:H h'.objs.size=none:=I1.hok.fresh (Nat.le_refl _)
   have hl':zs'.length=zs.length:=pm.length_eq
   refine⟨.ref h'.objs.size,_,I1.laid (t':=tk) (o:=.lst (zs'.map λz=>V.ref z.1)) k2 (Nat.le_refl _) ⟨by rw [List.length_map];exact Nat.le_trans (show zs'.length<=60 by omega) (by decide),_,e,Xi zs',hat⟩,rfl,q _ zs' hfree (by rw [<- hz2];exact pm.map _) pw λz hz=>hzt z (pm.mem_iff.mp hz)⟩
end
open PySem PySem.Spec PyProof.Rows
def zdt (lo c:Int) (n:Nat):It:=⟨λi _=>i<n,λi H x H'=>H'=H/\x=.int (lo+i*c),λi _=>n<=i⟩
theorem zaU {P:Program} {w:World} {K:W.Frag} {tg:Expr} (it:Addr) (lo c:Int) (n:Nat):Turn P w K tg (zdt lo c n) [it] it (λi h=>IsRangeIter h it (lo+(i:Nat)*c) ((n:Int)-(i:Nat)) c) where
 mem:=by simp
 obj:=λi h st b hb=>by
  have e:b=it:=by simpa using hb
  subst e
  exact⟨_,st,λv z=>by
   have z':Data.fields _=Data.cell v:=z
   cases z'⟩
 keep:=λi h h' st k=>k it (by simp) _ st
 item:=by
  intro X hP hw hK hc i pins s σ H E I hf st hg
  subst hP hw hK
  obtain⟨f0,f1,f2,f3,f4,f5⟩:=hf it (by simp)
  have W:=Walks.range (prog:=X.prog) (w:=X.w) (I.ok.hd hc) it lo c n
  refine W.item i s _ _ hg st λv h' tk hv st' kk=>?_
  obtain⟨t,rfl⟩:=hv
  have I1:Inv X pins σ H { s with heap:=h',toks:=tk }:=I.turned (λb o hb e=>kk b o (by simpa using hb) e) f0 f1 f3 f4 f5
  exact⟨_,rfl,zdz (s:={ s with heap:=h',toks:=tk }) (n:="range_iterator") st' rfl rfl (by decide) ⟨.int (lo+i*c),H,I1,⟨t,rfl⟩,⟨rfl,rfl⟩,st',λb hb=>(hf b hb).1⟩⟩
 done:=by
  intro X hP hw hK hc i pins s σ H E I hf st hg
  subst hP hw hK
  obtain⟨f0,f1,f2,f3,f4,f5⟩:=hf it (by simp)
  exact wpAny_pyNext_range_end (I.ok.hd hc) st (by have:n<=i:=hg;omega) λh' eb=>⟨rfl,I.turned (t':=s.toks) (λb o hb e=>eb b o hb e) f0 f1 f3 f4 f5⟩
 self:=λ_ _ _ _ _ st h=>wpAny_pyIter_rangeiter st h
section
variable {X:Cx} {tg:Expr}
theorem zbY {lo c:Int} {n:Nat} {g:TG} {tb:TS} {D:Ends} {σ:St} {H:Hp} (Pv:Nat->St->Hp->Prop) (h0:Pv 0 σ H)
  (hs:∀ i σ H,i<n->Pv i σ H->g (.int (lo+i*c)) σ H fun σ2 H2=>tb { D with nx:=Pv (i+1),ct:=Pv (i+1),bk:=D.nx } σ2 H2) (hd:∀ σ H,Pv n σ H->D.nx σ H) :
  ∃ W:Nat->Nat->St->Hp->Prop,(∃ m,W 0 m σ H)/\∀ i m σ H,W i m σ H ->
   ((zdt lo c n).stop i H/\D.nx σ H)\/((zdt lo c n).go i H/\∃ N:St->Hp->Prop,(∀ σ' H',N σ' H'->∃ m',m'<m/\W (i+1) m' σ' H')/\∀ x H',(zdt lo c n).yld i H x H'->g x σ H' fun σ2 H2=>tb { D with nx:=N,ct:=N,bk:=D.nx } σ2 H2):=by
 refine⟨λi m σ H=>m=n-i/\i<=n/\Pv i σ H,⟨n,by simp,Nat.zero_le _,h0⟩,?_⟩
 rintro i m σ H ⟨rfl,hi,p⟩
 by_cases hlt:i<n
 ·refine .inr ⟨hlt,Pv (i+1),fun σ' H' p'=>⟨n-(i+1),by omega,rfl,hlt,p'⟩,λx H' y=>?_⟩
  obtain⟨e,y⟩:=y
  subst e y
  exact hs i σ _ hlt p
 ·have e:i=n:=by omega
  subst e
  exact .inl ⟨Nat.le_refl _,hd σ H p⟩
end
open PySem PySem.Spec PyProof.Rows PySem.SeqAt
section
variable {X:Cx}
def zgt (K:W.Frag):List V->Hp->VK->Prop:=λxs H Q=>∃ (a:Addr) (ns:List Int),xs=[.ref a]/\SqL K H a (ns.map V.int)/\Q (.int ns.sum) H
theorem zep (hc:X.calm=true):vB X (.builtin "sum") (zgt X.K):=by
 intro pins s σ H xs us Q I r h
 obtain⟨a,ns,rfl,hq,q⟩:=h
 obtain⟨u,rfl,rx⟩:=vals1 r
 cases rx
 obtain⟨its,rv,pl,hz⟩:=I.list hq
 have hi:=intsAre_of rv
 obtain⟨ys,hy⟩:=hi.allInts.items
 have hn:(ys.toList.map (·.1)).sum=ns.sum:=by
  have e:=hi.numsOf
  have e2:=nums_intItems ys
  rw [<- hy] at e2
  rw [<- e,<- e2]
 refine sum_intListG (xs:=ys) (I.ok.hd hc) (by rw [<- hy];exact pl.isList) λh' tk t' hk=>?_
 refine⟨.int ns.sum,H,I.kept λb o e=>hk b o e,?_,q⟩
 refine⟨t',?_⟩
 rw [preSum_eq,List.take_of_length_le (by simp),hn]
theorem zg1 (K:W.Frag) (hc:X.calm=true) (e:X.K=K:=by rfl):vB X (.builtin "sum") (zgt K):=by subst e;exact zep hc
def zcv (K:W.Frag):V->List V->Hp->VK->Prop:=λx vs H Q=>∃ l xs y ts u j,x=.ref l/\vs=[y]/\SqL K H l xs/\TrsAt K H ts xs/\TrAt K H u y/\wg ts<=8/\j<ts.length /\
 (∀ t,ts[j]?=some t->teq t u=true)/\(∀ m t,m<j->ts[m]?=some t->teq t u=false)/\Q (.int (j:Nat)) H
open Classical in
theorem zcU (hu:X.A.units+64<cLine):MtM X "list.index" (zcv X.K):=by
 intro pins s σ H x vs v us Q I rx rv h
 obtain⟨l,xs,y,ts,u,j,rfl,rfl,hq,hts,ht,hd,hj,hit,hno,q⟩:=h
 cases rx
 obtain⟨u0,rfl,ru⟩:=Vals.one rv
 obtain⟨its,r,pl,hz⟩:=I.list hq
 obtain⟨⟨cls,dd,data,sl⟩,ho,hc,n,hdat⟩:=id pl.isList
 simp only at hc hdat
 subst hc hdat
 have l1:=hts.length
 have m1:=r.length
 have val:∀ (m:Nat) (hm:m<its.length) (t:Tr),ts[m]?=some t->decide (∃ t x,RelV x its[m]/\TrAt X.K H t x/\teq t u=true)=teq t u:=by
  intro m hm t et
  obtain⟨z,ez,hz'⟩:=hts.get et
  obtain⟨w,ew,rw'⟩:=r.get ez
  have e':its[m]=w:=by
   rw [List.getElem?_eq_getElem hm] at ew
   exact Option.some.inj ew
  rw [e',Bool.eq_iff_iff,decide_eq_true_iff]
  constructor
  ·rintro⟨t',x',r',h',e3⟩
   rw [rw'.inj r'] at hz'
   rw [UJ I 8 (Nat.le_trans (Y6 (List.mem_of_getElem? et)) hd) hz' h'];exact e3
  ·intro e3
   exact⟨t,z,rw',hz',e3⟩
 have hjs:j<its.length:=by omega
 have hsl:(sizeLine:Int)<2^63-1:=by decide
 refine call_meets PySem.F.slot_list_index ⟨_,ho,rfl⟩ PySem.F.entry_list_index (PySem.F.args_list_index_2 _ _)
  (list_indexAt l its.toArray n dd sl u0 (λy=>decide (∃ t x,RelV x y/\TrAt X.K H t x/\teq t u=true)) j (by simpa using hjs) (by omega) ?_ ?_) ⟨ho,Uj I hu ht ru hd hts r,?_⟩
 ·have q:=val j hjs _ (List.getElem?_eq_getElem hj)
  rw [hit _ (List.getElem?_eq_getElem hj)] at q
  simpa using q
 ·intro m hm hlt
  have hm':m<ts.length:=by omega
  have q:=val m (by omega) _ (List.getElem?_eq_getElem hm')
  rw [hno m _ hlt (List.getElem?_eq_getElem hm')] at q
  simpa using q
 ·exact⟨.int (j:Nat),H,I.kept λb o e=>e,⟨_,rfl⟩,q⟩
theorem zej (K:W.Frag) (hu:X.A.units+64<cLine) (e:X.K=K:=by rfl):MtM X "list.index" (zcv K):=by subst e;exact zcU hu
end
structure Ul (sc:Scope) (scope:Scope) (xs:List Str) (M:List Str) (ys:List Str) (js:List Nat):Prop where
 kind:scope.kind=.function:=by rfl
 cell:∀ y∈scope.names,y.2≠.cell:=by decide +kernel
 loc:∀ y∈scope.names,y.2=.local->scope.names.lookup y.1=some .local:=by decide +kernel
 var:∀ x∈xs,scope.names.lookup x=some .local:=by decide +kernel
 free:∀ y∈scope.names,y.2=.free->sc.names.lookup y.1=some .cell\/sc.names.lookup y.1=some .free:=by decide +kernel
 caps:js.map (M[·]?)=ys.map some:=by rfl
 fr:∀ y∈ys,scope.names.lookup y=some .free:=by decide +kernel
 nd:(xs++ys).Nodup:=by decide +kernel
def nones (xs:List Str):St:=xs.map λ_=>none
theorem CScope.nofree {sc scope:Scope} {x:Str} {M:List Str} (kind:scope.kind=.function) (cell:∀ y∈scope.names,y.2≠.cell) (loc:∀ y∈scope.names,y.2=.local->scope.names.lookup y.1=some .local) (var:scope.names.lookup x=some .local) (free:∀ y∈scope.names,y.2≠.free):CScope sc scope x M [] [] :=
 ⟨kind,cell,loc,var,λy hy e=>absurd e (free y hy),rfl,by simp,by simp⟩
section
variable {X:Cx} {pins:List (Addr×Obj)} {σ:St} {H:Hp} {s:Shared}
theorem zdq {scope:Scope} {xs ys:List Str} {js:List Nat} {fp:List Addr} {h₁:Heap} {tk:Nat} {C:Addr} (I:Inv X pins σ H s) (S:Ul X.env.scope scope xs X.N ys js) (hf:∀ b∈fp,W8 X pins H b) (ho:∀ b∈fp,∃ o,s.heap.get? b=some o)
  (hC:s.heap.objs.size<=C) (hk:∀ b o,s.heap.get? b=some o->h₁.get? b=some o) (hn:h₁.Ns C λ_=>none) :
  Inv (cxC X (xs++ys) scope C s H fp) [] (nones xs++xZ js σ) H { s with heap:=h₁,toks:=tk }:=by
 have sub:∀ y c,(xY X.env.cells scope.names []).lookup y=some c->X.env.cells.lookup y=some c:=λy c e=>uc (λ_ _ z=>by simp at z) e
 have has:∀ y,scope.names.lookup y=some .free->∃ c,(xY X.env.cells scope.names []).lookup y=some c:=λy e=>by
  have m:(y,NameKind.free)∈scope.names:=PySem.mem_of_lookup e
  exact Wa (.inr ⟨m,I.ok.has y (S.free _ m rfl)⟩)
 have lt:∀ b∈fp,b<s.heap.objs.size:=λb hb=>by obtain⟨o,e⟩:=ho b hb;exact Heap.lt_size e
 have ok:(cxC X (xs++ys) scope C s H fp).Ok:=by
  refine⟨I.ok.mod,S.kind,I.ok.glob,I.ok.blt,hC,λy z c e1 e2=>I.ok.inj y z c (sub _ _ e1) (sub _ _ e2),λy hy=>?_,λy c z=>?_,I.ok.hd,I.ok.frames,.inl rfl,λb hb=>?_,I.bs,Nat.le_trans I.ok.bsz I.sz,λb o e hb=>?_,λb hb z=>?_,I.stack,I.stkFree⟩
  ·have hy':(relabel scope X.env).names.lookup y=some .cell\/(relabel scope X.env).names.lookup y=some .free:=hy
   have nocell:scope.names.lookup y≠some .cell:=λz=>S.cell _ (PySem.mem_of_lookup z) rfl
   rcases hy' with e | e
   ·rcases xn e with z | ⟨_,z⟩
    ·exact absurd z nocell
    ·exact has y z
   ·rcases xn e with z | ⟨z,_⟩
    ·exact has y z
    ·cases z
  ·exact absurd (show false=true from z) Bool.false_ne_true
  ·refine⟨Nat.ne_of_lt (Nat.lt_of_lt_of_le (lt b hb) hC),λy c e=>(hf b hb).2.2.2.2.1 y c (sub y c e)⟩
  ·rcases (hf b hb).2.2.2.1 with z | z
   ·exact I.ok.noex b o e z
   ·exact absurd (Nat.lt_of_lt_of_le (Heap.lt_size e) (Nat.le_trans I.ok.bsz z)) (Nat.lt_irrefl _)
  ·rcases List.mem_cons.mp (I.stkSub b z) with e | e
   ·exact (hf b hb).2.1 e
   ·exact (hf b hb).2.2.1 e
 refine⟨ok,rfl,I.bare,Un.kept hk,⟨_,hn,λi y v e1 e2 e3=>?_⟩,λy c e=>?_,I.hok.fresh hC,λy c e=>I.freeC y c (sub y c e),λp hp=>absurd (show p∈([]:List (Addr×Obj)) from hp) (by simp),I.hok.kept hk,?_⟩
 ·by_cases hix:i<xs.length
  ·have z:(nones xs++xZ js σ)[i]?=some none:=by
    rw [List.getElem?_append_left (by unfold nones;rw [List.length_map];exact hix)]
    unfold nones
    rw [List.getElem?_map,List.getElem?_eq_getElem hix];rfl
   rw [z] at e2;cases e2
  ·obtain⟨k,rfl⟩:∃ k,i=xs.length+k:=⟨i-xs.length,by omega⟩
   have e1':ys[k]?=some y:=by
    have e1:(xs++ys)[xs.length+k]?=some y:=e1
    rw [List.getElem?_append_right (by omega),Nat.add_sub_cancel_left] at e1;exact e1
   have e2':(xZ js σ)[k]?=some (some v):=by
    rw [List.getElem?_append_right (by unfold nones;rw [List.length_map];omega)] at e2
    unfold nones at e2
    rw [List.length_map,Nat.add_sub_cancel_left] at e2;exact e2
   obtain⟨j,hj,hσ⟩:=zaW e2'
   have hN:X.N[j]?=some y:=by
    have z:=congrArg (λl=>l[k]?) S.caps
    simp only [List.getElem?_map,hj,e1',Option.map_some] at z
    exact Option.some.inj z
   have hfr:=S.fr y (List.mem_of_getElem? e1')
   have m:(y,NameKind.free)∈scope.names:=PySem.mem_of_lookup hfr
   have hkind:=S.free _ m rfl
   obtain⟨m',hns,hl⟩:=I.loc
   obtain⟨u,r,lk⟩:=hl j y v hN hσ (by rcases hkind with z | z;exact .inr (.inl z);exact .inr (.inr z))
   refine⟨u,r,.inr ⟨?_,?_⟩⟩
   ·have e3':(relabel scope X.env).names.lookup y=some .local\/(relabel scope X.env).names.lookup y=some .cell\/(relabel scope X.env).names.lookup y=some .free:=e3
    rcases e3' with z | z | z
    ·rcases xn z with q | ⟨q,_⟩
     ·rw [hfr] at q;cases q
     ·cases q
    ·exact .inl z
    ·exact .inr z
   ·obtain⟨c,hc⟩:=has y hfr
    refine⟨c,hc,?_⟩
    rcases lk with ⟨z,_⟩ | ⟨_,c',hc',cell⟩
    ·rcases hkind with q | q
     ·have q':X.env.kindOf y=some .cell:=q
      rw [show X.env.kindOf y=some .local from z] at q';cases q'
     ·have q':X.env.kindOf y=some .free:=q
      rw [show X.env.kindOf y=some .local from z] at q';cases q'
    ·rw [sub y c hc] at hc'
     cases hc'
     obtain⟨o,e,d⟩:=cell
     exact⟨o,hk _ _ e,d⟩
 ·obtain⟨v,o,e',d⟩:=I.cell y c (sub y c e)
  exact⟨v,o,hk _ _ e',d⟩
 ·have z:=congrArg List.length S.caps
  simp only [List.length_map] at z
  show (nones xs++xZ js σ).length=(xs++ys).length
  simp [xZ,nones,z]
end
section
variable {prog:Program} {w:World} {A:Around} {R:Result->Shared->Prop} {s:Shared}
theorem zdm {elt target iter:Expr} {ifs:List Expr} {scope:Scope} {pos:Pos} {it acc:Value} {env:Env} {N:Value->Shared->Prop} (hN:N=notedBy (model prog w) A env λe s'=>R (.error e) s') (I:Nat->Shared->Prop)
  (turn:∀ n s,I n s->wpAny (model prog w) A (pyNext it) (λr s₁=>match r with
   | none=>R (.ok .next) s₁
   | some v=>wpAny (model prog w) A (letOwnedTupleGo target it v) (λ_ s₅=>wpAny (model prog w) A (assign target env v) (λ_ s₂ =>
     wpAny (model prog w) A (forIn ifs true λc r=>if r=true then do let ok <- isTrue c env (eval c env);pure (ForInStep.yield ok) else pure (ForInStep.yield r)) (λok s₃=>if ok=true then wpAny (model prog w) A (eval elt env) (λx s₄=>wpAny (model prog w) A (call (.builtin "list.append") [acc,x]) (λ_ s₅=>∃ m,m<n/\I m s₅) N s₄) N s₃ else ∃ m,m<n/\I m s₃) N s₂) N s₅) N s₁) N s)
  (n:Nat) (h:I n s):codeAny (model prog w) A (.compLoop (.ListComp elt [⟨target,iter,ifs,0⟩] scope pos) 0 it acc env) R s:=by
 subst hN
 refine codeAny_loop rfl I (λn s hI=>?_) n h
 show wpAny _ A ((compTurn (.ListComp elt [⟨target,iter,ifs,0⟩] scope pos) 0 it acc env).onRaise (λx=>do noteFrame x env;theTreesLotGoes x)) _ _ s
 rw [compTurn_list]
 refine wpAny_noted (wpAny_bind (wpAny_standAt (wpAny_bind (wpAny_mono (turn n s hI) (λr s₁ h₁=>?_) λ_ _ h'=>h'))))
 cases r with
 | none=>exact wpAny_pure h₁
 | some v =>
  refine wpAny_bind (wpAny_mono h₁ (λ_ s₅ h₅=>wpAny_bind (wpAny_mono h₅ (λ_ s₂ h₂=>wpAny_bind (wpAny_mono h₂ (λok s₃ h₃=>?_) λ_ _ h'=>h')) λ_ _ h'=>h')) λ_ _ h'=>h')
  cases ok with
  | false=>exact wpAny_pure ⟨rfl,h₃⟩
  | true=>exact wpAny_bind (wpAny_bind (wpAny_mono h₃ (λx s₄ h₄=>wpAny_bind (wpAny_mono h₄ (λ_ s₆ h₆=>wpAny_pure (wpAny_pure ⟨rfl,h₆⟩)) λ_ _ h'=>h')) λ_ _ h'=>h'))
end
def JD (J:It) (xs:List Str) (js:List Nat) (g:TG) (tt:TT) (te:TE) (σ:St) (Q:VK) (H:Hp):Prop:=∃ W:Nat->Nat->List V->Hp->Prop,(∃ m,W 0 m [] H)/\∀ i m ys H,W i m ys H ->
 (J.stop i H/\∀ D,H D=none->Q (.ref D) (upd H D (.lst ys))) \/
 (J.go i H/\ys.length<sizeLine/\∃ N:List V->Hp->Prop,(∀ ys' H',N ys' H'->∃ m',m'<m/\W (i+1) m' ys' H')/\∀ x H',J.yld i H x H'->g x (nones xs++xZ js σ) H' fun σ' H1=>(∃ vs:St,vs.length=xs.length/\σ'=vs++xZ js σ)/\tt σ' H1 λb H2=>if b=true then te σ' H2 λv H3=>N (ys++[v]) H3 else N ys H2)
def zfU (wi:TI) (xs:List Str) (js:List Nat) (g:TG) (tt:TT) (te:TE):TE:=fun σ H Q=>wi σ H λJ H1=>JD J xs js g tt te σ Q H1
section
variable {X:Cx} {elt iter:Expr} {ifs:List Expr} {tg:Expr} {xs:List Str} {pos:Pos} {g:TG} {scope:Scope} {ys:List Str} {js:List Nat} {wi:TI} {tt:TT} {te:TE}
theorem za6 {pins:List (Addr×Obj)} {σ:St} {H:Hp} {s:Shared} {J:It} {fp:List Addr} {it:Addr} {tn:Nat->Heap->Prop} {Q:VK} {E:Value->Shared->Prop} {R:Value->Addr->Result->Shared->Prop}
  (S:Ul X.env.scope scope xs X.N ys js) (hc:X.calm=true) (hg:∀ C s₀ H₀ ex,PG (cxC X (xs++ys) scope C s₀ H₀ ex) tg g) (ht:∀ C s₀ H₀ ex,PTs (cxC X (xs++ys) scope C s₀ H₀ ex) ifs tt) (he:∀ C s₀ H₀ ex,PE (cxC X (xs++ys) scope C s₀ H₀ ex) elt te)
  (I:Inv X pins σ H s) (T:Turn X.prog X.w X.K tg J fp it tn) (st:tn 0 s.heap) (hf:∀ b∈fp,W8 X pins H b)
  (hw:∃ W:Nat->Nat->List V->Hp->Prop,(∃ m,W 0 m [] H)/\∀ i m zs H,W i m zs H ->
   (J.stop i H/\∀ D,H D=none->Q (.ref D) (upd H D (.lst zs))) \/
   (J.go i H/\zs.length<sizeLine/\∃ N:List V->Hp->Prop,(∀ ys' H',N ys' H'->∃ m',m'<m/\W (i+1) m' ys' H')/\∀ x H',J.yld i H x H'->g x (nones xs++xZ js σ) H' fun σ' H1=>(∃ vs:St,vs.length=xs.length/\σ'=vs++xZ js σ)/\tt σ' H1 λb H2=>if b=true then te σ' H2 λv H3=>N (zs++[v]) H3 else N zs H2))
  (hR:∀ D C s' H' m',Inv X pins σ H' s'->Q (.ref D) H'->s.heap.objs.size<=C->H' C=none->s'.heap.Ns C m'->R (.ref D) C (.ok .next) s') :
  wpAny (model X.prog X.w) X.A (newList []) (λacc s₃=>wpAny (model X.prog X.w) X.A (newFunctionEnv scope X.env.globals (xY X.env.cells scope.names []) [] X.env.qual none .none (some X.env)) (λcenv s₄ =>
   codeAny (model X.prog X.w) X.A (.compStart (.ListComp elt [⟨tg,iter,ifs,0⟩] scope pos) 0 (.ref it) acc { cenv with scope:=relabel scope X.env }) (R acc cenv.locals) s₄) E s₃) E s:=by
 obtain⟨W,⟨m0,w0⟩,turn⟩:=hw
 refine wpAny_newObj_type (wpAny_newFunctionEnv S.cell (by intro y hy;simp at hy) (λh₁ hns₁ hsb₁=>?_) S.kind)
 dsimp only at hns₁ hsb₁ ⊢
 generalize hH2:s.heap.push { cls:=.type "list",dict:=none,data:=.seq ([]:List Value).toArray }=G at hns₁ hsb₁ ⊢
 generalize hD:s.heap.objs.size=D at *
 generalize hCe:G.objs.size=C at *
 have hC:C=D+1:=by rw [<- hCe,<- hH2,Heap.size_push,hD]
 have hDlt:D<C:=by rw [hC];exact Nat.lt_succ_self D
 have hDC:D≠C:=Nat.ne_of_lt hDlt
 have old:∀ b o,s.heap.get? b=some o->h₁.get? b=some o:=λb o e=>by
  have hb:b<D:=hD▸Heap.lt_size e
  exact (hsb₁.2 b (Nat.ne_of_lt (Nat.lt_trans hb hDlt))).trans (Heap.get?_push_of_some _ (hH2▸Heap.get?_push_of_some _ e))
 have hacc:h₁.get? D=some { cls:=.type "list",data:=.seq ([]:List Value).toArray 0 }:=by
  refine (hsb₁.2 D hDC).trans (Heap.get?_push_of_some _ ?_)
  rw [<- hH2,<- hD]
  exact Heap.get?_push_size _ rfl
 have obj0:=T.obj 0 _ st
 have fplt:∀ b∈fp,b<D:=λb hb=>by obtain⟨o,e,_⟩:=obj0 b hb;exact hD▸Heap.lt_size e
 generalize hX:cxC X (xs++ys) scope C s H fp=X'
 have I1:Inv X' [] (nones xs++xZ js σ) H { s with heap:=h₁,toks:=s.toks+([]:List (Str×Value)).length }:=by
  subst hX
  exact zdq I S hf (λb hb=>by obtain⟨o,e,_⟩:=obj0 b hb;exact⟨o,e⟩) (by omega) old (by simpa using hns₁)
 have eP:X'.prog=X.prog:=by subst hX;rfl
 have eW:X'.w=X.w:=by subst hX;rfl
 have eK:X'.K=X.K:=by subst hX;rfl
 have eA:X'.A=X.A:=by subst hX;rfl
 have eC:X'.calm=true:=by subst hX;exact hc
 have eL:X'.env.locals=C:=by subst hX;rfl
 have eS:X'.s₀=s:=by subst hX;rfl
 have eN:X'.N=xs++ys:=by subst hX;rfl
 have eE:X'.env=compEnvC scope (xY X.env.cells scope.names []) C X.env:=by subst hX;rfl
 have eXe:X'.xe=λ_ _=>False:=by subst hX;rfl
 have eX:X'.ex=fp:=by subst hX;rfl
 have ePn:X'.pn=[]:=by subst hX;rfl
 have efs:∀ b,b∈X'.fs->b∈frs X.stack:=λb z=>by subst hX;exact z
 have cellLt:∀ y c,X'.env.cells.lookup y=some c->c<D:=λy c e=>by
  have e':(xY X.env.cells scope.names []).lookup y=some c:=by rw [eE] at e;exact e
  obtain⟨v,o,e2,_⟩:=I.cell y c (uc (λ_ _ z=>by simp at z) e')
  exact hD▸Heap.lt_size e2
 have frLt:∀ b,b∈X'.fs->b<D:=λb z=>by
  rcases List.mem_cons.mp (I.stkSub b (efs b z)) with e | e
  ·rw [e];exact hD▸I.lt
  ·exact Nat.lt_of_not_le λh=>I.nofs (hD▸h) e
 have fpOk:∀ (p:List (Addr×Obj)) (H':Hp),(∀ b∈fp,H' b=none)->(∀ q∈p,q.1=D)->∀ b∈fp,W8 X' p H' b:=λp H' hn hp b hb=>by
  refine⟨hn b hb,?_,λz=>?_,.inl (eX▸hb),λy c e=>?_,λq hq=>?_⟩
  ·rw [eL];exact Nat.ne_of_lt (Nat.lt_trans (fplt b hb) hDlt)
  ·rcases List.mem_cons.mp (I.stkSub b (efs b z)) with e | e
   ·exact (hf b hb).2.1 e
   ·exact (hf b hb).2.2.1 e
  ·have e':(xY X.env.cells scope.names []).lookup y=some c:=by rw [eE] at e;exact e
   exact (hf b hb).2.2.2.2.1 y c (uc (λ_ _ z=>by simp at z) e')
  ·rw [ePn,List.nil_append] at hq
   rw [hp q hq];exact Nat.ne_of_gt (fplt b hb)
 have noCell:∀ (its:List Value) (k:Nat) v,({ cls:=.type "list",data:=.seq its.toArray k }:Obj).data≠.cell v:=λits k v z=>by cases z
 have done:∀ {zs:List V} {its:List Value} {k:Nat} {H':Hp} {s':Shared},Inv X' [] (nones xs++xZ js σ) H' s'->s'.heap.get? D=some { cls:=.type "list",data:=.seq its.toArray k }->Vals zs its->H' D=none->zs.length<=sizeLine ->
   (∀ D,H' D=none->Q (.ref D) (upd H' D (.lst zs)))->R (.ref D) C (.ok .next) s':=λ{zs its k H' s'} I' hd hv hn hz q=>by
  have un:=I'.base
  obtain⟨m',hns,_⟩:=I'.loc
  rw [eL] at hns
  have hCn:H' C=none:=by have:=I'.free;rw [eL] at this;exact this
  have hH0:X'.H₀=H:=by subst hX;rfl
  rw [hH0,eS,eX] at un
  have un2:Un (frs X.stack) fp H (upd H' D (.lst zs)) s.heap s'.heap:=by
   have ne:∀ b o,s.heap.get? b=some o->b≠D:=λb o e=>Nat.ne_of_lt (hD▸Heap.lt_size e)
   have un':Un (frs X.stack) fp H H' s.heap s'.heap:=by subst hX;exact un
   exact⟨un'.keep,un'.slot,λb o e n hx=>by rw [zy (ne b o e)];exact un'.free b o e n hx,un'.there,λb xs e=>by rw [zy (zx (un'.tups b xs e) hn)];exact un'.tups b xs e,
    λb o u e=>by rw [zy (zx (un'.frzs b o u e) hn)];exact un'.frzs b o u e,λb ps e=>by
     obtain⟨more,z⟩:=un'.tbls b ps e
     exact⟨more,by rw [zy (zx z hn)];exact z⟩⟩
  have hok:HOk X.prog X.w (upd H' D (.lst zs)) s'.heap:=by
   have h0:=I'.hok
   rw [eP,eW] at h0
   exact h0.track hn ⟨hz,its,k,hv,hd⟩
  have I2:Inv X pins σ (upd H' D (.lst zs)) s':=I.call' (by have:=I'.os;rw [eS] at this;exact this) un2 hok I'.bare λb hb=>⟨(hf b hb).2.2.2.1,(hf b hb).2.1,(hf b hb).2.2.2.2.1,(hf b hb).2.2.2.2.2⟩
  exact hR D C s' _ m' I2 (q D hn) (by omega) (by rw [zy (Ne.symm hDC)];exact hCn) hns
 have loop:codeAny (model X.prog X.w) X.A (.compLoop (.ListComp elt [⟨tg,iter,ifs,0⟩] scope pos) 0 (.ref it) (.ref D) X'.env) (R (.ref D) C) { s with heap:=h₁,toks:=s.toks+([]:List (Str×Value)).length }:=by
  refine zdm rfl (λn s'=>∃ i zs its k H',Inv X' [] (nones xs++xZ js σ) H' s'/\tn i s'.heap/\(∀ b∈fp,H' b=none)/\s'.heap.get? D=some { cls:=.type "list",data:=.seq its.toArray k }/\Vals zs its/\H' D=none/\zs.length<=sizeLine/\W i n zs H')
   ?_ m0 ⟨0,[],[],0,H,I1,T.keep _ _ _ st (λb hb o e=>old b o e),λb hb=>(hf b hb).1,hacc,.nil,I.hok.fresh (by omega),Nat.zero_le _,w0⟩
  rintro n s3 ⟨i,zs,its,k,H3,I3,st3,fr3,d3,v3,n3,z3,w3⟩
  have pinD:Inv X' [(D,{ cls:=.type "list",data:=.seq its.toArray k })] (nones xs++xZ js σ) H3 s3:=I3.pins_of λp hp=>by
   have e:p=(D,{ cls:=.type "list",data:=.seq its.toArray k }):=by simpa using hp
   subst e
   exact⟨d3,n3,by rw [eL];exact hDC,λz=>Nat.lt_irrefl _ (frLt D z),noCell its k⟩
  have hpD:∀ q∈[(D,({ cls:=.type "list",data:=.seq its.toArray k }:Obj))],q.1=D:=λq hq=>by
   have e:q=(D,{ cls:=.type "list",data:=.seq its.toArray k }):=by simpa using hq
   rw [e]
  rcases turn i n zs H3 w3 with ⟨stop,qn⟩ | ⟨go,hzl,NN,hNN,step⟩
  ·refine thn (eA▸T.done X' eP eW eK eC i _ s3 _ H3 _ pinD (fpOk _ _ fr3 hpD) st3 stop) λr s4 ⟨hr,I4⟩=>?_
   subst hr
   exact done (I4.pins_of λp hp=>absurd hp (by simp)) (I4.pin (D,{ cls:=.type "list",data:=.seq its.toArray k }) (List.mem_append_right _ (by simp))).1 v3 n3 z3 qn
  ·refine thn (eA▸T.item X' eP eW eK eC i _ s3 _ H3 _ pinD (fpOk _ _ fr3 hpD) st3 go) λr s4 ⟨u,hr,h4⟩=>?_
   subst hr
   refine thn h4 λ_ s4 ⟨v,H5,I5,r5,y5,st5,fr5⟩=>?_
   have I5':=I5.pinned (fpOk _ _ fr5 hpD) (T.obj _ _ st5)
   have ev:∀ {α:Type} {t:Sem α} {Q':α->Shared->Prop} {E':Value->Shared->Prop} {s':Shared},wpAny (model X'.prog X'.w) X'.A t Q' X'.xe s'->wpAny (model X.prog X.w) X.A t Q' E' s':=λ{α t Q' E' s'} hh=>by
    rw [eP,eW,eA,eXe] at hh
    exact wpAny_mono hh (λ_ _ q=>q) λ_ _ z=>z.elim
   have hgg:PG X' tg g:=hX▸hg C s H fp
   refine ev (thn (hgg _ s4 _ H5 v u _ I5' r5 (step v H5 y5)) λ_ s6 ⟨σ6,H6,I6,⟨vs6,hvl,e6⟩,q6⟩=>?_)
   subst e6
   have back:∀ {σ':St} {H7:Hp} {s7:Shared},Inv X' ([(D,{ cls:=.type "list",data:=.seq its.toArray k })]++YW fp s4.heap) (vs6++xZ js σ) H7 s7->Inv X' [] (nones xs++xZ js σ) H7 s7:=λ{_ H7 s7} I7=>by
    refine (I7.pins_of λp hp=>absurd hp (by simp)).weak (by rw [List.length_append,List.length_append,hvl];unfold nones;rw [List.length_map]) λi v' e=>?_
    by_cases hix:i<xs.length
    ·have z:(nones xs++xZ js σ)[i]?=some none:=by
      rw [List.getElem?_append_left (by unfold nones;rw [List.length_map];exact hix)]
      unfold nones
      rw [List.getElem?_map,List.getElem?_eq_getElem hix];rfl
     rw [z] at e;cases e
    ·have hn:(nones xs).length=xs.length:=by unfold nones;rw [List.length_map]
     rw [List.getElem?_append_right (by omega),hn] at e
     rw [List.getElem?_append_right (by omega),hvl]
     exact e
   have fps:∀ {σ':St} {H7:Hp} {s7:Shared},Inv X' ([(D,{ cls:=.type "list",data:=.seq its.toArray k })]++YW fp s4.heap) σ' H7 s7->(∀ b∈fp,H7 b=none)/\(∀ b∈fp,∀ o,s4.heap.get? b=some o->s7.heap.get? b=some o)/\s7.heap.get? D=some { cls:=.type "list",data:=.seq its.toArray k }/\H7 D=none:=λ{σ' H7 s7} I7=>by
    have g:∀ b∈fp,∀ o,s4.heap.get? b=some o->s7.heap.get? b=some o/\H7 b=none:=λb hb o e=>by
     have z:=I7.pin (b,o) (List.mem_append_right _ (List.mem_append_right _ (Z3 hb e)))
     exact⟨z.1,z.2.1⟩
    refine⟨λb hb=>?_,λb hb o e=>(g b hb o e).1,(I7.pin (D,{ cls:=.type "list",data:=.seq its.toArray k }) (List.mem_append_right _ (by simp))).1,(I7.pin (D,{ cls:=.type "list",data:=.seq its.toArray k }) (List.mem_append_right _ (by simp))).2.1⟩
    obtain⟨o,e,_⟩:=T.obj _ _ st5 b hb
    exact (g b hb o e).2
   have hte:PTs X' ifs tt:=hX▸ht C s H fp
   have hee:PE X' elt te:=hX▸he C s H fp
   refine ev (thn (hte _ s6 _ H6 _ I6 q6) λb s7 ⟨H7,I7,q7⟩=>?_)
   cases b with
   | false =>
    rw [if_neg Bool.false_ne_true]
    rw [if_neg Bool.false_ne_true] at q7
    obtain⟨m',hm,w7⟩:=hNN _ _ q7
    obtain⟨g1,g2,g3,g4⟩:=fps I7
    exact⟨m',hm,i+1,zs,its,k,H7,back (σ':=[]) I7,T.keep _ _ _ st5 g2,g1,g3,v3,g4,z3,w7⟩
   | true =>
    rw [if_pos rfl]
    rw [if_pos rfl] at q7
    refine ev (thn (hee _ s7 _ H7 _ I7 q7) λu8 s8 ⟨v8,H8,I8,r8,q8⟩=>?_)
    obtain⟨m',hm,w8⟩:=hNN _ _ q8
    obtain⟨g1,g2,g3,g4⟩:=fps I8
    have hil:=v3.length
    refine call_meets F.slot_list_append ⟨_,g3,rfl⟩ F.entry_list_append (F.args_list_append_2 _ _) (PySem.list_append D its.toArray k u8 (by rw [List.size_toArray];omega)) ⟨g3,?_⟩
    have q:=PySem.IsL.update g3 (λa=>a.push u8)
    have ea:its.toArray.push u8=(its++[u8]).toArray:=by simp
    rw [ea] at q
    have kk:∀ b o,b≠D->s8.heap.get? b=some o->(s8.heap.update D (Obj.mapSeq λa=>a.push u8)).get? b=some o:=λb o hb e=>(Heap.get?_update_other _ _ (Ne.symm hb)).trans e
    have I9:Inv X' [] (nones xs++xZ js σ) H8 { s8 with heap:=s8.heap.update D (Obj.mapSeq λa=>a.push u8),toks:=s8.toks }:=by
     refine (back (σ':=[]) I8).turned kk g4 (by rw [eL];exact hDC) (.inr (by rw [eS];omega)) (λy c e=>Nat.ne_of_lt (cellLt y c e)) λp hp=>?_
     rw [ePn] at hp
     exact absurd hp (by simp)
    refine⟨m',hm,i+1,zs++[v8],its++[u8],_,H8,I9,T.keep _ _ _ st5 (λb hb o e=>kk b o (Nat.ne_of_lt (fplt b hb)) (g2 b hb o e)),g1,q,v3.append (.cons r8 .nil),g4,?_,w8⟩
    rw [List.length_append,List.length_singleton]
    omega
 rw [eE] at loop
 exact codeAny_compStart_list loop (T.self _ 0 _ _ _ (T.keep _ _ _ st (λb hb o e=>old b o e)) loop)
theorem zbe {i:Nat} {y:Str} {py spos:Pos} (S:Ul X.env.scope scope xs X.N ys js) (hc:X.calm=true) (hN:X.N.Nodup) (hy:X.N[i]?=some y) (hl:Loc X.env.scope y) (hi:PI X tg iter wi) (hg:∀ C s₀ H₀ ex,PG (cxC X (xs++ys) scope C s₀ H₀ ex) tg g) (ht:∀ C s₀ H₀ ex,PTs (cxC X (xs++ys) scope C s₀ H₀ ex) ifs tt) (he:∀ C s₀ H₀ ex,PE (cxC X (xs++ys) scope C s₀ H₀ ex) elt te)
  (hf:X.fn y=true\/X.env.scope.names.lookup y=some .local:=by first | exact .inl rfl | exact .inr rfl | assumption)
  (hsw:swapsWith (.ListComp elt [⟨tg,iter,ifs,0⟩] scope pos) (some (.Name y py)) spos.line X.env=pure true:=by rfl)
  (hs:∀ x,foldedSetIterable iter X.env x=pure x:=by intro _;rfl):PS X (.Assign [.Name y py] (.ListComp elt [⟨tg,iter,ifs,0⟩] scope pos) spos) (za4 (zfU wi xs js g tt te) (XX i)):=by
 intro pins s σ H D I h
 rw [exec_Assign_Name_used _ _ _ _ hsw]
 refine wpAny_bind (wpAny_standAt (wpAny_bind ?_))
 show wpAny _ X.A (do let _ <- comprehension (.ListComp elt [⟨tg,iter,ifs,0⟩] scope pos) scope X.env _ (newList []) false (eval iter X.env) (some (assign (.Name y py) X.env))) _ _ s
 refine wpAny_bind (wpAny_mono (wpAny_comprehension_free (use:=some (assign (.Name y py) X.env)) (Q:=λ_ s'=>SP X pins D .next s') rfl hs (Zn λy hy e=>I.ok.has _ (S.free y hy e)) S.kind S.loc
  (thn (hi pins s σ H _ I h) λv s1 h1=>thn h1 λitv s2 h2=>?_)) (λ_ s' hq=>wpAny_pure (wpAny_pure hq)) λ_ _ e=>e)
 obtain⟨it,fp,tn,J,H2,e,I2,T,st2,f2,hw⟩:=h2
 subst e
 refine za6 (Q:=λv H'=>XX i v σ H' D.nx) (R:=λacc C=>compPost (model X.prog X.w) X.A X.xe (some (assign (.Name y py) X.env)) (λ_ s'=>SP X pins D .next s') acc C) S hc hg ht he I2 T st2 f2 hw ?_
 intro Da C s' H' m' I' q hC hn hns
 have e:=I2.fpOk hC hn
 show wpAny _ X.A (assign (.Name y py) X.env (.ref Da)) _ _ _
 refine wpAny_assign_Name (Vh I' hN hy hl (show RelV (.ref Da) (.ref Da) from rfl) (λs2' I3 ⟨a,sb,ha⟩=>?_) hf)
 have hCa:C≠a:=by
  rcases ha with z | z
  ·rw [z];exact e.2.1
  ·intro w;exact e.2.2.2.2.1 _ _ z w.symm
 refine⟨m',hns.sameBut sb hCa,λh' hs'=>⟨_,H',?_,q⟩⟩
 exact I3.turned (t':=s2'.toks) (λb o hb e=>(hs'.2 b hb).trans e) hn e.2.1 e.2.2.2.1 e.2.2.2.2.1 e.2.2.2.2.2
end
theorem zf2 {X:Cx} (K:W.Frag) {es:List Expr} {k:Nat} {t:TGs} {pos:Pos} (n:Nat) (hc:X.calm=true) (h:PGs X es t) (e:X.K=K:=by rfl)
  (hn:(assignEach es X.env).length=n:=by rfl) (hst:(assignEach es X.env).findIdx? (·.1)=none:=by rfl):PG X (.Tuple es k pos) (zgS K n t):=by subst e;exact zaB hc h hn hst
theorem xQ {X:Cx} (K:W.Frag) {e:Expr} {f:Str} {pos:Pos} {ta:TE} (he:PE X e ta) (hb:attributeBase e f X.env (eval e X.env)=eval e X.env:=by rfl) (ek:X.K=K:=by rfl):PE X (.Attribute e f pos) (zgF K ta f):=by subst ek;exact zf3 he hb
structure Mt (K:W.Frag) (C:Addr) (q x:Str) (st:Stmt) (ps:List Str) (f:Addr) (fd:FuncData):Prop where
 fn:Fun K x q st f fd
 b:Binds K fd ps []
 m:Meth K C x f
theorem vQ {X:Cx} {C:Addr} {q x:Str} {st:Stmt} {ps:List Str} {f:Addr} {fd:FuncData} {k:Nat} {sp:Sp} {o e:Expr} {es:List Expr} {ta:TE} {t:TA} {apos pos:Pos} {pl:Sem Bool} (D:Mt X.K C q x st ps f fd) (c:Cls X.K C) (G:FnOk X.prog X.w X.K X.mg X.base CX0 k f fd ps sp) (hr:Room k X.A) (he:PE X o ta) (ha:PA X (e :: es) t)
  (hst:starEach (e :: es) X.env=(false,eval e X.env) :: starEach es X.env:=by rfl) (hpl:(backTo pos (starEach es X.env)).any (·.1)=false:=by rfl)
  (ht:eval (.Call (.Attribute o x apos) (e :: es) [] pos) X.env=(do
   let ov <- eval o X.env
   standAt apos.atName
   let (f,first) <- holding [ov] (getMethod ov x pl)
   callWith pos f first (backTo pos (starEach (e :: es) X.env)) (backToKw pos (keywordEach [] X.env))):=by rfl):PE X (.Call (.Attribute o x apos) (e :: es) [] pos) (zcs C x sp [] E0 ta t) :=
 zfi he c D.m G hr D.b .nil W7 ha hst hpl ht
theorem zbO {X:Cx} {C:Addr} {q x:Str} {st:Stmt} {ps:List Str} {f:Addr} {fd:FuncData} {k:Nat} {sp:Sp} {o:Expr} {ta:TE} {apos pos:Pos} {pl:Sem Bool} (D:Mt X.K C q x st ps f fd) (c:Cls X.K C) (G:FnOk X.prog X.w X.K X.mg X.base CX0 k f fd ps sp) (hr:Room k X.A) (he:PE X o ta)
  (ht:eval (.Call (.Attribute o x apos) [] [] pos) X.env=(do
   let ov <- eval o X.env
   standAt apos.atName
   let (f,first) <- holding [ov] (getMethod ov x pl)
   callWith pos f first (backTo pos (starEach [] X.env)) (backToKw pos (keywordEach [] X.env))):=by rfl):PE X (.Call (.Attribute o x apos) [] [] pos) (zcs C x sp [] E0 ta WR) :=
 zem he c D.m G hr D.b .nil W7 ht
structure zbo (mg:Str->Option Value):Prop where
 n_sum:mg "sum" = none
 n_abs:mg "abs" = none
 n_zip:mg "zip" = none
 n_str:mg "str" = none
theorem zdO {a:Int} (h:-1<=a):Builtin.Range.rangeSize a (-1) (-1)=a+1:=by
 unfold Builtin.Range.rangeSize
 rw [if_neg (by omega)]
 by_cases h1:-1<a
 ·rw [if_pos h1,show (a - -1-1)=a by omega,show (- -1:Int)=1 from rfl,Int.ediv_one]
 ·rw [if_neg h1]
  omega
theorem zeY {a:Int} (h:-1<=a) (h2:a<=1000):Builtin.Range.small a (-1) (-1)=true:=by
 unfold Builtin.Range.small
 rw [zdO h]
 simp only [Builtin.Range.rangeFitsLong,Bool.and_eq_true,Bool.or_eq_true,decide_eq_true_eq,beq_iff_eq]
 first
  | omega
  | (simp;omega)
def zgT (ta:TA):TI:=fun σ H R=>ta σ H λvs H1=>∃ i:Int,vs=[.int i,.int (-1),.int (-1)]/\-1<=i/\i<=1000/\R (zdt i (-1) (i+1).toNat) H1
section
variable {X:Cx} {tg:Expr}
theorem zdx {pins:List (Addr×Obj)} {σ:St} {H:Hp} {s:Shared} {R:It->Hp->Prop} {E:Value->Shared->Prop} {lo:Int} {t u v:Tok} {tk:Nat} (I:Inv X pins σ H s) (h1:-1<=lo) (h2:lo<=1000)
  (q:R (zdt lo (-1) (lo+1).toNat) H):wpAny (model X.prog X.w) X.A (pyIter (.ref s.heap.objs.size)) (PIE X pins σ tg R) E { s with heap:=s.heap.push { cls:=.type "range",data:=.fields #[.int lo t,.int (-1) u,.int (-1) v] },toks:=tk }:=by
 refine wpAny_pyIter_range (IsRange.new ..) (zeY h1 h2) ?_
 have I1:Inv X pins σ H { s with heap:=s.heap.push { cls:=.type "range",data:=.fields #[.int lo t,.int (-1) u,.int (-1) v] },toks:=tk }:=I.kept λb o e=>Heap.get?_push_of_some _ e
 refine⟨_,[(s.heap.push { cls:=.type "range",data:=.fields #[.int lo t,.int (-1) u,.int (-1) v] }).objs.size],_,_,H,rfl,
  I1.kept (t':=tk) λb o e=>Heap.get?_push_of_some _ e,zaU _ lo (-1) (lo+1).toNat,?_,λb hb=>?_,q⟩
 ·have e1:lo+((0:Nat):Int)*(-1)=lo:=by simp
  have e2:(((lo+1).toNat:Nat):Int)-((0:Nat):Int)=Builtin.Range.rangeSize lo (-1) (-1):=by rw [zdO h1];omega
  show IsRangeIter _ _ (lo+((0:Nat):Int)*(-1)) ((((lo+1).toNat:Nat):Int)-((0:Nat):Int)) (-1)
  rw [e1,e2]
  exact Heap.get?_push_size _ rfl
 ·have e:b=(s.heap.push { cls:=.type "range",data:=.fields #[.int lo t,.int (-1) u,.int (-1) v] }).objs.size:=by simpa using hb
  subst e
  exact I1.fpOk (Nat.le_refl _) (I1.hok.fresh (Nat.le_refl _))
theorem zc9 {a b d:Expr} {ta:TA} {p pos:Pos} (hg:Gl X "range") (hm:X.mg "range" = none) (ha:PA X [a,b,d] ta) (hs:starEach [a,b,d] X.env=[(false,eval a X.env),(false,eval b X.env),(false,eval d X.env)]:=by rfl) (hs2:starEach [b,d] X.env=[(false,eval b X.env),(false,eval d X.env)]:=by rfl) :
  PI X tg (.Call (.Name "range" p) [a,b,d] [] pos) (zgT ta):=by
 intro pins s σ H R I h
 refine Call_ (Zk I hg hm boot_range (PyProof.Rows.callWith_type1 (thn (ha pos pins s σ H _ I h) λus s1 ⟨vs,H1,I1,r1,q1⟩=>?_) (by rw [hs,hs2]) (by rw [hs2];rfl)))
 obtain⟨i,e,q1,q2,q⟩:=q1
 subst e
 cases r1 with
 | cons r rr =>
  cases rr with
  | cons r' rr =>
   cases rr with
   | cons r'' rr =>
    cases rr
    obtain⟨t,rfl⟩:=r
    obtain⟨t',rfl⟩:=r'
    obtain⟨t'',rfl⟩:=r''
    exact call_range_3 (by omega) (zdx I1 q1 q2 q) (Or.inl (PyProof.noPylong_small (by omega)))
end
section
variable {X:Cx}
end
structure zhc (sc:Scope) (scope:Scope) (x:Str) (M:List Str) (ys:List Str) (js:List Nat):Prop where
 kind:scope.kind=.function
 cell:∀ y∈scope.names,y.2=.cell->y.1=x
 loc:∀ y∈scope.names,y.2=.local->scope.names.lookup y.1=some .local
 var:scope.names.lookup x=some .cell
 free:∀ y∈scope.names,y.2=.free->sc.names.lookup y.1=some .cell\/sc.names.lookup y.1=some .free
 caps:js.map (M[·]?)=ys.map some
 fr:∀ y∈ys,scope.names.lookup y=some .free
 nd:(x :: ys).Nodup
 own:∀ n acc,cellsFrom n scope.names acc=(x,n) :: acc
 psh:∀ h:Heap,pushCells h scope.names=h.push { cls:=.type "cell",data:=.cell none }
section
variable {X:Cx} {pins:List (Addr×Obj)} {σ:St} {H:Hp} {s:Shared}
end
section
variable {X:Cx} {elt iter:Expr} {ifs:List Expr} {x:Str} {px pos:Pos} {scope:Scope} {ys:List Str} {js:List Nat} {wi:TI} {tt:TT} {te:TE}
end
def zhu (t:TS):TS:=λD σ H=>∃ P:St->Hp->Prop,t { D with nx:=P } σ H/\∀ σ' H',P σ' H'->D.nx σ' H'
theorem zdJ {X:Cx} {st:Stmt} {t:TS} (h:PS X st t):PS X st (zhu t):=by
 intro pins s σ H D I hw
 obtain⟨P,h1,h2⟩:=hw
 refine thn (h pins s σ H _ I h1) λf s1 q=>?_
 cases f with
 | next=>obtain⟨σ',H',I',q⟩:=q;exact⟨σ',H',I',h2 _ _ q⟩
 | ret v=>exact q
 | brk=>exact q
 | cont=>exact q
theorem zbE {X:Cx} {x:Str} {j} {pos:Pos} {es:List Expr} {t:TA} (h:PA X es t):PA X (.Constant (.str x) j pos :: es) (Ze (tC (.str x)) t):=zf uv h rfl
theorem zeT {X:Cx} {i:Nat} {x:Str} {es:List Expr} {t:TA} {pos' lp pos:Pos} (hN:X.N.Nodup) (hi:X.N[i]?=some x) (hx:Loc X.env.scope x) (h:PA X es t) (hf:X.fn x=true\/X.env.scope.names.lookup x=some .local:=by first | exact .inl rfl | exact .inr rfl | assumption) :
  PS X (.Assign [.Name x pos'] (.List es lp) pos) (za4 (zcX t) (XX i)):=zH hN hi hx (yc h) rfl hf
theorem zfp (xs:List V) (m:Nat):ju xs none (some (m:Int))=xs.take m:=by
 unfold ju
 rw [HT.Wu,HT.QS,List.drop_zero,Nat.sub_zero]
 by_cases h:m<=xs.length
 ·rw [Nat.min_eq_left h]
 ·rw [Nat.min_eq_right (by omega),List.take_of_length_le (Nat.le_refl _),List.take_of_length_le (by omega)]
def zew (n:Addr->Prop) (h:Heap) (e:Addr) (c:Value):Prop :=
 ∃ (oe oT:Obj) (vs ts:Array Value) (a0:Value) (T:Addr),h.get? e=some oe/\oe.cls=c/\oe.data=.fields vs/\vs[0]?=some a0/\vs[1]?=some (.ref T)/\n T/\T≠e/\h.get? T=some oT/\oT.data=.fields ts/\ts[3]?=some .none
def CX1 (P:Program) (w:World):CXT:=λouter H s E e s' =>
 ∃ (ea:Addr) (c:Value) (H':Hp),e=.ref ea/\s'.os=s.os/\AllBare s'.gens/\Un (frs outer) [] H H' s.heap s'.heap/\HOk P w H' s'.heap/\s.heap.get? ea=none/\H' ea=none /\
  zew (λT=>s.heap.get? T=none/\H' T=none) s'.heap ea c/\E c none H'
def zfH (X:Cx) (Ex:St->XK):Prop:=∀ (pins:List (Addr×Obj)) (σ:St) (H:Hp) (s:Shared) (h':Heap) (ea:Addr) (c:Value) (vs:List Value),Inv X pins σ H s->Heap.MadeExcOf s.heap h' ea c vs->Ex σ c none H->X.xe (.ref ea) { s with heap:=h' }
def JZ (X:Cx) (Ex:St->XK):Prop:=∀ (pins:List (Addr×Obj)) (σ:St) (H:Hp) (s:Shared) (e:Value) (s':Shared),Inv X pins σ H s->CX1 X.prog X.w X.stack H s (Ex σ) e s'->X.xe e s'
theorem FnOk.up {P:Program} {w:World} {K:W.Frag} {mg:Str->Option Value} {base:Heap} {CX:CXT} {k:Nat} {f:Addr} {fd:FuncData} {ps:List Str} {sp:Sp} (F:FnOk P w K mg base CX0 k f fd ps sp):FnOk P w K mg base CX k f fd ps sp :=
 ⟨F.len,λA outer s H args us vs Q E hr e0 hb hv hs=>codeAny_mono (F.run A outer s H args us vs Q E hr e0 hb hv hs) λr s' q=>by
  cases r with
  | error e=>exact False.elim q
  | ok fl=>cases fl<;>exact q⟩
theorem ObjOk.thereO {P:Program} {w:World} {H:Hp} {h:Heap} {a:Addr} {o:HO} (x:ObjOk P w H h a o):∃ u,h.get? a=some u:=by
 cases o with
 | lst xs=>obtain⟨_,_,_,_,e⟩:=x;exact⟨_,e⟩
 | tup xs=>obtain⟨_,_,_,o,e,_⟩:=x;exact⟨_,e⟩
 | dK kvs=>obtain⟨_,_,_,_,o,_,_,e,_⟩:=x;exact⟨_,e⟩
 | dT kvs=>obtain⟨_,_,_,_,o,_,_,e,_⟩:=x;exact⟨_,e⟩
 | set S n=>obtain⟨o,_,_,_,e,_⟩:=x;exact⟨_,e⟩
 | ins C dx fs=>obtain⟨_,_,_,e,_⟩:=x;exact⟨_,e⟩
 | own y=>exact x
 | xd fs=>obtain⟨_,⟨_,_,_,e,_⟩,_⟩:=x;exact⟨_,e⟩
 | rng lo hi=>obtain⟨_,_,_,e⟩:=x;exact⟨_,e⟩
 | frz ob u=>obtain⟨e,_⟩:=x;exact⟨_,e⟩
 | tbl ps=>exact⟨_,(show h.get? a=some _ from x)⟩
 | met f y=>exact⟨_,(show h.get? a=some _ from x)⟩
 | ext φ=>obtain⟨_,e,_⟩:=x;exact e
theorem HOk.off {P:Program} {w:World} {H:Hp} {h:Heap} {a:Addr} (x:HOk P w H h) (e:h.get? a=none):H a=none:=by
 cases q:H a with
 | none=>rfl
 | some o=>obtain⟨u,z⟩:=(x a o q).thereO;rw [e] at z;cases z
section
variable {X:Cx} {pins:List (Addr×Obj)} {σ:St} {H H':Hp} {s s':Shared} {h' B:Heap} {ea:Addr} {c a0:Value}
def U8 (X:Cx) (H':Hp) (s s':Shared) (B:Heap):Prop:=∀ b o,s'.heap.get? b=some o->((∃ u,s.heap.get? b=some u)\/H' b≠none)->b∉frs X.stack->B.get? b=some o
theorem zbg (I:Inv X pins σ H s) (un:Un (frs X.stack) [] H H' s.heap s'.heap):∀ b∈frs X.stack,H' b=none:=λb hb=>by
 obtain⟨_,o,ho,_⟩:=I.stack.mem hb
 exact un.free b o ho (I.stkFree b hb) (by simp)
theorem zb2 (I:Inv X pins σ H s) (un:Un (frs X.stack) [] H H' s.heap s'.heap) (hok:HOk X.prog X.w H' s'.heap) (hB:U8 X H' s s' B) (st:B.StaysIn h') (up:s'.heap.UpToSlots h') :
  Un (frs X.stack) [] H H' s.heap h'/\HOk X.prog X.w H' h':=by
 have fr:=zbg I un
 have sl:∀ b o,s.heap.get? b=some o->b∈frs X.stack->∃ q,h'.get? b=some { o with slots:=q }:=λb o e hb=>by
  obtain⟨_,o2,ho,hd⟩:=I.stack.mem hb
  rw [e] at ho;cases ho
  obtain⟨q,e1⟩:=un.slot b o e (I.stkFree b hb) hb (by simp)
  obtain⟨q2,e2⟩:=up b _ e1 hd
  exact⟨q2,e2⟩
 refine⟨⟨λb o e n hb _=>?_,λb o e _ hb _=>sl b o e hb,λb o e n _=>un.free b o e n (by simp),λb o e _=>?_,un.tups,un.frzs,un.tbls⟩,λa o e=>?_⟩
 ·exact st b o (hB b o (un.keep b o e n hb (by simp)) (.inl ⟨o,e⟩) hb)
 ·by_cases hb:b∈frs X.stack
  ·obtain⟨q,e1⟩:=sl b o e hb
   exact⟨_,e1⟩
  ·obtain⟨o1,e1⟩:=un.there b o e (by simp)
   exact⟨o1,st b o1 (hB b o1 e1 (.inl ⟨o,e⟩) hb)⟩
 ·refine (hok a o e).stay (λb u hc q=>?_) (λ_ q=>q) λ_ _ q=>q
  have nb:H' b≠none:=by
   rcases hc with z | z
   ·rw [z,e];intro z2;cases z2
   ·rw [z];intro z2;cases z2
  exact st b u (hB b u q (.inr nb) λhb=>nb (fr b hb))
theorem zgs (I:Inv X pins σ H s) (un:Un (frs X.stack) [] H H' s.heap s'.heap) (hok:HOk X.prog X.w H' s'.heap) (hB:U8 X H' s s' B) (st:B.StaysIn h') (up:s'.heap.UpToSlots h') (t:h'.TracedW B ea c a0) :
  zew (λT=>s.heap.get? T=none/\H' T=none) h' ea c:=by
 have fr:=zbg I un
 obtain⟨oe,vs,T,oT,ts,he,⟨hc,h0⟩,hd,h1,hnT,hTe,hT,hdT,h3⟩:=t
 have nF:T∉frs X.stack:=λhb=>by
  obtain⟨_,o,ho,hd⟩:=I.stack.mem hb
  obtain⟨q,e1⟩:=un.slot T o ho (I.stkFree T hb) hb (by simp)
  obtain⟨q2,e2⟩:=up T _ e1 hd
  rw [hT] at e2;cases e2
  exact hd _ hdT
 refine⟨oe,oT,vs,ts,a0,T,he,hc,hd,h0,h1,⟨?_,?_⟩,hTe,hT,hdT,h3⟩
 ·cases q:s.heap.get? T with
  | none=>rfl
  | some o =>
   obtain⟨o1,e1⟩:=un.there T o q (by simp)
   have:=hB T o1 e1 (.inl ⟨o,q⟩) nF
   rw [hnT] at this;cases this
 ·cases q:H' T with
  | none=>rfl
  | some o =>
   obtain⟨o1,e1⟩:=(hok T o q).thereO
   have:=hB T o1 e1 (.inr (by rw [q];intro z;cases z)) nF
   rw [hnT] at this;cases this
theorem zcE {E:XK} (I:Inv X pins σ H s) (hx:X.ex=[]) (os:s'.os=s.os) (bare:AllBare s'.gens) (un:Un (frs X.stack) [] H H' s.heap s'.heap) (hok:HOk X.prog X.w H' s'.heap) (n0:s.heap.get? ea=none) (n1:H' ea=none)
  (hB:U8 X H' s s' B) (st:B.StaysIn h') (t:h'.TracedW B ea c a0) (up:s'.heap.UpToSlots h') (hE:E c none H'):CX1 X.prog X.w X.outer X.H₀ X.s₀ E (.ref ea) { s' with heap:=h' }:=by
 obtain⟨u1,k1⟩:=zb2 I un hok hB st up
 have J:Inv X pins σ H' { s' with heap:=h' }:=I.call' (ch:=[]) os u1 k1 bare λb z=>absurd z (by simp)
 have off:∀ b,s.heap.get? b=none->X.s₀.heap.get? b=none:=λb e=>by
  cases q:X.s₀.heap.get? b with
  | none=>rfl
  | some o =>
   obtain⟨o1,e1⟩:=I.base.there b o q (by rw [hx];simp)
   rw [e] at e1;cases e1
 have ub:=J.base
 rw [hx] at ub
 obtain⟨oe,oT,vs,ts,a1,T,he,hc,hd,h0,h1,⟨hn,hm⟩,r⟩:=zgs I un hok hB st up t
 exact⟨ea,c,H',rfl,J.os,J.bare,ub,k1,off ea n0,n1,⟨oe,oT,vs,ts,a1,T,he,hc,hd,h0,h1,⟨off T hn,hm⟩,r⟩,hE⟩
theorem zck {Ts:List Addr} (n0:s.heap.get? ea=none) (n1:H' ea=none) (nT:∀ T∈Ts,s.heap.get? T=none/\H' T=none):U8 X H' s s' (W.hideAll s'.heap (ea :: (Ts++frs X.stack))):=λb o e hb hf=>by
 refine W.hideAll_get _ e λhm=>?_
 have bad:∀ a,s.heap.get? a=none->H' a=none->b≠a:=λa h1 h2 z=>by
  subst z
  rcases hb with ⟨u,q⟩ | q
  ·rw [h1] at q;cases q
  ·exact q h2
 rcases List.mem_cons.mp hm with z | hm
 ·exact bad ea n0 n1 z
 ·rcases List.mem_append.mp hm with z | z
  ·exact bad b (nT b z).1 (nT b z).2 rfl
  ·exact hf z
theorem QM (I:Inv X pins σ H s) (os:s'.os=s.os) (bare:AllBare s'.gens) (un:Un (frs X.stack) [] H H' s.heap s'.heap) (hok:HOk X.prog X.w H' s'.heap) {as:List Addr} (ha:∀ b∈frs X.stack,b∈as):s'.heap.FunFrames (W.hideAll s'.heap as) X.stack:=by
 have J:Inv X pins σ H' s':=I.call' (ch:=[]) os un hok bare λb z=>absurd z (by simp)
 exact W.funFrames_hide J.stack λenv he b hb=>ha b (List.mem_filterMap.mpr ⟨env,he,hb⟩)
theorem zcI (I:Inv X pins σ H s) (os:s'.os=s.os) (bare:AllBare s'.gens) (un:Un (frs X.stack) [] H H' s.heap s'.heap) (hok:HOk X.prog X.w H' s'.heap) (n0:s.heap.get? ea=none) (n1:H' ea=none)
  (t:zew (λT=>s.heap.get? T=none/\H' T=none) s'.heap ea c):∃ B a0,U8 X H' s s' B/\Heap.FlyingW B X.stack ea c a0 s'.heap:=by
 obtain⟨oe,oT,vs,ts,a0,T,he,hc,hd,h0,h1,⟨hn,hm⟩,hTe,hT,hdT,h3⟩:=t
 refine⟨W.hideAll s'.heap (ea :: ([T]++frs X.stack)),a0,zck n0 n1 (λb hb=>by rw [List.mem_singleton.mp hb];exact⟨hn,hm⟩),λb o q=>W.of_hideAll _ q,W.hideAll_none _ (by simp),QM I os bare un hok (by intro b hb;simp [hb]),?_⟩
 exact⟨oe,vs,T,oT,ts,he,⟨hc,h0⟩,hd,h1,W.hideAll_none _ (by simp),hTe,hT,hdT,h3⟩
end
theorem ZS {P:Program} {w:World} {K:W.Frag} {mg:Str->Option Value} {base:Heap} {N:List Str} {qual:Str} {scope:Scope} {f:Addr} {cd:Value} {A:Around} {outer:List Env} {s₀:Shared} {H₀:Hp} {E:XK} :
  JZ (Xv (CX1 P w) P w K mg base N qual scope f cd A outer s₀ H₀ E) λ_=>E:=by
 intro pins σ H s e s' I hcx
 obtain⟨ea,c,H',rfl,os,bare,un,hok,n0,n1,t,hE⟩:=hcx
 obtain⟨B,a0,hB,fl⟩:=zcI I os bare un hok n0 n1 t
 show wpAny _ _ (leaving (envOfC qual scope s₀.heap.objs.size f cd) (.ref ea)) _ _ s'
 refine wpAny_leaves_onW I.ok.frames rfl fl λh2 fl2 up=>?_
 exact zcE I rfl os bare un hok n0 n1 hB fl2.1 fl2.2.2.2 up hE
theorem ZP {P:Program} {w:World} {K:W.Frag} {mg:Str->Option Value} {base:Heap} {N:List Str} {qual:Str} {scope:Scope} {f:Addr} {cd:Value} {A:Around} {outer:List Env} {s₀:Shared} {H₀:Hp} {E:XK} :
  zfH (Xv (CX1 P w) P w K mg base N qual scope f cd A outer s₀ H₀ E) λ_=>E:=by
 intro pins σ H s h' ea c vs I hm hE
 show wpAny _ _ (leaving (envOfC qual scope s₀.heap.objs.size f cd) (.ref ea)) _ _ _
 refine wpAny_leaves_madeW (s:={ s with heap:=h' }) (base:=W.hideAll s.heap (frs (Xv (CX1 P w) P w K mg base N qual scope f cd A outer s₀ H₀ E).stack)) I.ok.frames rfl (λb o q=>W.of_hideAll _ q)
  (QM I rfl I.bare Un.refl I.hok λb hb=>hb) hm λh2 t fl _ _ up=>?_
 refine zcE (s':={ s with heap:=h' }) I rfl rfl I.bare (Un.kept hm.keeps) (I.hok.kept hm.keeps) hm.new (I.hok.off hm.new) (λb o e hb hf=>?_) fl.1 fl.2.2.2 up hE
 refine W.hideAll_get _ ?_ hf
 rcases hb with ⟨u,q⟩ | q
 ·have z:=hm.keeps b u q
  rw [show h'.get? b=some o from e] at z;cases z;exact q
 ·cases r:H b with
  | none=>exact absurd r q
  | some x =>
   obtain⟨u,q⟩:=(I.hok b x r).thereO
   have z:=hm.keeps b u q
   rw [show h'.get? b=some o from e] at z;cases z;exact q
abbrev veT:List Value:=[.type "ValueError",.type "Exception",.type "BaseException",.type "object"]
structure Uc (K:W.Frag) (mg:Str->Option Value) (x:Str) (C:Addr):Prop where
 g:mg x=some (.ref C)
 ok:W.excIn K C veT "ValueError.__new__" = true
theorem zeZ {K:W.Frag} {h:Heap} {C:Addr} {bmB:List Value} {newId:String} (X:K.In h) (q:W.excIn K C bmB newId=true) :
  ∃ (bm bs:List Value) (N:Addr) (nm qn:Str) (hd ab:Bool) (sn:List Str) (sub:List Value) (col:Option Bool) (dd:Option Addr) (k0 k1 k2 k3 k5:Option Value) (mN:Str->Option Value),
   h.get? C=some (excClassObj nm qn C N bs bm hd sn sub ab col dd k0 k1 k2 k3 k5 newId)/\h.Ns N mN/\mN "__init__" = none/\OwnTail h bmB bm:=by
 unfold W.excIn at q
 split at q
 ·rename_i dd cd sl e
  split at q
  ·rename_i C2 bm k0 k1 k2 k3 n k5 hm hs
   rw [Bool.and_eq_true,Bool.and_eq_true,Bool.and_eq_true,Bool.and_eq_true,Bool.and_eq_true] at q
   have z1:=eq_of_beq q.1.1.1.1.1
   have z2:=eq_of_beq q.1.1.1.1.2
   have z3:cd.hasDel=false:=by simpa using q.1.1.1.2
   cases cd with
   | mk nm bs mro ns qn hd sn sub ab col del =>
    cases sl with
    | mk l =>
     have hs':l=_:=hs
     have hm':mro=_:=hm
     have z3':del=false:=z3
     subst hs' hm' z3' z1 z2
     exact⟨bm,bs,ns,nm,qn,hd,ab,sn,sub,col,dd,k0,k1,k2,k3,k5,_,X _ _ e,Heap.Ns.of_isNs (W.isNs_of_in X q.1.2),W.nsMap_none_of_in X q.1.2 (eq_of_beq q.2),W.tail_of_in X q.1.1.2⟩
  ·cases q
 ·cases q
def zgc (c:Value) (Ex:St->XK) (t:TA):TS:=λ_ σ H=>t σ H λvs H1=>vs.length<=sizeLine/\Ex σ c none H1
theorem ZV {X:Cx} {x:Str} {C:Addr} {Ex:St->XK} {e:Expr} {es:List Expr} {t:TA} {np cpos pos:Pos} (O:Uc X.K X.mg x C) (hx:zfH X Ex) (hc:X.calm=true) (ha:PA X (e :: es) t) (hg:Gl X x:=by rfl) (hdb:(x == ("__debug__" : Str))=false:=by decide)
  (he:starEach (e :: es) X.env=(false,eval e X.env) :: starEach es X.env:=by rfl) (hpl:(backTo cpos (starEach (e :: es) X.env)).any (·.1)=false:=by rfl):PS X (.Raise (some (.Call (.Name x np) (e :: es) [] cpos)) none pos) (zgc (.ref C) Ex t):=by
 intro pins s σ H D I h
 obtain⟨bm,bs,N,nm,qn,hd,ab,sn,sub,col,dd,k0,k1,k2,k3,k5,mN,hC,hN,hni,T⟩:=zeZ (h:=X.base) I.ok.mod.kin O.ok
 refine wpAny_Raise_call_subT (C:=C) (nm:=nm) (q:=qn) (N:=N) (bs:=bs) (bm:=bm) (hdct:=hd) (sn:=sn) (sub:=sub) (ab:=ab) (col:=col) (dd:=dd) (k0:=k0) (k1:=k1) (k2:=k2) (k3:=k3) (k5:=k5)
  PySem.F.excBase_ValueError (mN:=mN) (T.hasType PySem.F.excBase_ValueError.hasBase) (I.ok.hd hc) hpl hni (Xh I hg O.g ⟨rfl,?_⟩ hdb)
 have ha':=ha cpos pins s σ H _ I h
 rw [he] at ha' ⊢
 refine Calls.evalArgs_plain (thn ha' λus s1 ⟨vs,H1,I1,r,hz,q⟩=>?_)
 exact⟨rfl,by rw [<- r.length];exact hz,I1.bk _ _ hC,hN.keeps I1.bk,T.keeps I1.bk,λh' ea hm=>hx pins σ H1 s1 h' ea (.ref C) us I1 hm q⟩
def zf4 (sp:Sp) (Ex:St->XK) (t:TA):TE:=fun σ H Q=>t σ H λvs H1=>sp vs H1 Q (Ex σ)
theorem zcA {X:Cx} {k:Nat} {f:Addr} {fd:FuncData} {ps:List Str} {sp:Sp} {Ex:St->XK} {pins:List (Addr×Obj)} {σ:St} {H:Hp} {s:Shared} {Q:VK} {us:List Value} {vs:List V} (F:FnOk X.prog X.w X.K X.mg X.base (CX1 X.prog X.w) k f fd ps sp) (hr:Room k X.A) (hb:Binds X.K fd ps []) (hx:JZ X Ex)
  (I:Inv X pins σ H s) (r:Vals vs us) (h:sp vs H Q (Ex σ)):wpAny (model X.prog X.w) X.A (call (.ref f) us) (EP X pins σ Q) X.xe s:=by
 have hl:us.length=ps.length:=by rw [<- r.length];exact F.len _ _ _ _ h
 have hb':=hb s us I.kIn (by rw [List.append_nil];exact hl)
 rw [List.append_nil] at hb'
 refine wpAny_call (codeAny_mono (F.run X.A X.stack s H ⟨us,[]⟩ us vs Q (Ex σ) hr I.env0 hb' r h) λr s' hq=>?_)
 cases r with
 | error e=>exact hx pins σ H s e s' I hq
 | ok fl =>
  cases fl with
  | ret u=>exact I.after hq
  | next=>exact False.elim hq
  | brk=>exact False.elim hq
  | cont=>exact False.elim hq
theorem jq {X:Cx} {x:Str} {st:Stmt} {ps:List Str} {f:Addr} {fd:FuncData} {k:Nat} {sp:Sp} {Ex:St->XK} {e:Expr} {es:List Expr} {t:TA} {p pos:Pos} (D:Df X.K X.mg x st ps f fd) (G:FnOk X.prog X.w X.K X.mg X.base (CX1 X.prog X.w) k f fd ps sp) (hr:Room k X.A) (hx:JZ X Ex) (ha:PA X (e :: es) t) (hg:Gl X x:=by rfl)
  (hdb:(x == ("__debug__" : Str))=false:=by decide) (he:starEach (e :: es) X.env=(false,eval e X.env) :: starEach es X.env:=by rfl) (hpl:(backTo pos (starEach es X.env)).any (·.1)=false:=by rfl):PE X (.Call (.Name x p) (e :: es) [] pos) (zf4 sp Ex t):=by
 intro pins s σ H Q I h
 refine wpAny_Call_Name_kw (Xh I hg D.g ?_ hdb)
 refine W.callWith_K (h₀:=X.base) I.ok.mod.kin D.fn.kp (thn (ha pos pins s σ H _ I h) λus s1 ⟨vs,H1,I1,r,q⟩=>⟨I1.kIn,?_⟩) he hpl
 exact zcA G hr D.b hx I1 r q
theorem Fun.ok1 {P:Program} {w:World} {K:W.Frag} {mg:Str->Option Value} {base:Heap} {x qual:Str} {st:Stmt} {f:Addr} {fd:FuncData} {N ps:List Str} {k:Nat} {sp:Sp} (F:Fun K x qual st f fd) (S:zB N ps (zq st)) (len:∀ vs H Q E,sp vs H Q E->vs.length=ps.length)
  (hbody:∀ (cdv:Value) (A:Around) (outer:List Env) (s:Shared) (H:Hp) (vs:List V) (Q:VK) (E:XK),Room k (A.deeper (envOfC qual (zq st) s.heap.objs.size f cdv))->sp vs H Q E ->
   ∃ t,PSs (Xv (CX1 P w) P w K mg base N qual (zq st) f cdv A outer s H E) (xu st) t/\t { nx:=λ_ H'=>Q .non H',rt:=Q } (start N vs) H):FnOk P w K mg base (CX1 P w) (k+1) f fd ps sp:=by
 obtain⟨oc,od,kV,doc,pm,an,cdv,ct,osl,rfl,lk,hcd⟩:=F.ex
 exact zdY lk hcd S len λA outer s H vs Q E hr hsp=>hbody cdv A outer s H vs Q E hr hsp
open PySem PySem.Spec PyProof.Rows Builtin Builtin.ObjectAttr Builtin.Getset_descriptor
structure Ub (K:W.Frag) (C:Addr):Prop where
 ga:W.findIn K (.ref C) "__getattribute__" = some (some (.builtin "BaseException.__getattribute__"))
 hk:W.findIn K (.ref C) "__getattr__" = some none
 at_:W.findIn K (.ref C) "__class__" = some (some (.builtin "object.__class__"))
 sp:W.specialIn K (.builtin "object.__class__") "__get__" = some (some (.builtin "getset_descriptor.__get__"))
 tk:W.takesIn K (.builtin "object.__class__")=some true
 mo:W.mroIn K C (.type "object")=some true
 mb:W.mroIn K C (.type "BaseException")=some true
def ExcAt (e C:Addr) (h:Heap):Prop:=∃ o,h.get? e=some o/\o.cls=.ref C
section
variable {prog:Program} {w:World} {A:Around} {K:W.Frag} {e C:Addr} {h:Heap}
theorem ExcAt.ty {M:Model} (x:ExcAt e C h):W.Looks M h (typeOf (.ref e)) (.ref C):=by
 obtain⟨o,h1,h2⟩:=x
 have L:W.Looks M h (typeOf (.ref e)) o.cls:=(W.Looks.ld h1).andThen .now
 rw [h2] at L
 exact L
theorem zbp {M:Model} (X:K.In h) (F:Ub K C):W.Looks M h (find (.ref e) (.ref C) "__class__") (.bind (.builtin "getset_descriptor.__get__") (.builtin "object.__class__")):=by
 have q3:W.Looks M h (dataDescriptor? (some (.builtin "object.__class__")) (some (.builtin "getset_descriptor.__get__"))) (some (.builtin "getset_descriptor.__get__",.builtin "object.__class__")):=(W.looks_takesIn X F.tk).andThen .now
 have q2:W.Looks M h (getOf (some (.builtin "object.__class__"))) (some (.builtin "getset_descriptor.__get__")):=W.looks_specialIn X F.sp
 exact (W.looks_findIn X F.at_).andThen (q2.andThen (q3.andThen (W.Looks.tag .now)))
theorem zar {R:Result->Shared->Prop} {s:Shared} {tp:Value} (X:K.In s.heap) (x:ExcAt e C s.heap) (F:Ub K C) (q:R (.ok (.ret (.ref C))) s):codeAny (model prog w) A (.call (.builtin "getset_descriptor.__get__") ⟨[.builtin "object.__class__",.ref e,tp],[]⟩) R s:=by
 cases s with
 | mk hp gn dr tk os =>
  have y0:=x.ty (M:=model prog w)
  have y1:=W.looks_mroIn (M:=model prog w) X F.mo
  refine codeAny_call_builtin W.KF.slot_gs.plain W.KF.entry_gs (W.KF.slot_gs.check _ _ _ _ _ _ _ _ W.KF.type_class (W.KF.args_gs _ _ _) ?_)
  unfold «getset_descriptor.__get__» descrGet
  rw [W.dga_obj]
  refine wpAny_bind (wpAny_pure ?_)
  unfold descrGetter descrCheckInstance descrNameAndClass isInstance
  simp only [W.KF.owner_class]
  repeat lk
  refine⟨Code.quiet_builtin _ (by decide +kernel),codeAny_builtin W.KF.entry_class ?_⟩
  unfold «object.__class__» shownTypeOf
  repeat lk
  exact q
theorem zgj {R:Result->Shared->Prop} {s:Shared} {t:Tok} (X:K.In s.heap) (x:ExcAt e C s.heap) (F:Ub K C) (q:R (.ok (.ret (.ref C))) s):codeAny (model prog w) A (.call (.builtin "BaseException.__getattribute__") ⟨[.ref e,.str "__class__" t],[]⟩) R s:=by
 cases s with
 | mk hp gn dr tk os =>
  have y0:=x.ty (M:=model prog w)
  have y3:=zbp (M:=model prog w) (e:=e) X F
  have y4:=W.looks_mroIn (M:=model prog w) X F.mb
  refine codeAny_call_builtin PySem.F.attr_ValueError.ga.plain PySem.F.entry_bexc_ga ?_
  have z1:builtinKind "BaseException.__getattribute__" = some .slot:=by decide +kernel
  have z2:splitId "BaseException.__getattribute__" = some ("BaseException","__getattribute__"):=by decide +kernel
  have z3:=PySem.F.args_bexc_ga (.ref e) (.str "__class__" t)
  simp only [checkBuiltinCall,z1,z2]
  refine wpAny_bind ?_
  unfold isInstance
  refine wpAny_bind (y0.at (y4.at ?_))
  repeat (any_goals (first | assumption | wp_step))
  obtain⟨o,h1,h2⟩:=id x
  refine wpAny_loadPart h1 (wpAny_pure ?_)
  rw [h2]
  refine wpAny_bind (y3.at ?_)
  dsimp only
  repeat (any_goals (first | assumption | with_reducible refine wpAny_holding ?_ | wp_step))
  exact zar (s:=⟨hp,gn,dr,tk,os⟩) X x F (wpAny_pure q)
theorem zde {E:Value->Shared->Prop} {Q:Option Value->Shared->Prop} {s:Shared} (X:K.In s.heap) (x:ExcAt e C s.heap) (F:Ub K C) (q:Q (some (.ref C)) { s with toks:=s.toks+1 }):wpAny (model prog w) A (getAttr? (.ref e) "__class__") Q E s:=by
 cases s with
 | mk hp gn dr tk os =>
  have y0:=x.ty (M:=model prog w)
  have y1:=W.looks_findIn (M:=model prog w) X F.ga
  have y2:=W.looks_findIn (M:=model prog w) X F.hk
  have y3:=zbp (M:=model prog w) (e:=e) X F
  have y4:=W.looks_mroIn (M:=model prog w) X F.mb
  unfold getAttr? getAttrBy? getAttrBy
  refine wpAny_bind (wpAny_mkText (wpAny_bind (wpAny_attempt (wpAny_holding (wpAny_bind (y0.at (wpAny_bind (y1.at ?_))))))))
  show wpAny _ _ (if (onTheHeap (.ref C) && (Value.builtin "BaseException.__getattribute__" == Value.builtin "object.__getattribute__"))=true then _ else _) _ _ _
  rw [show (Value.builtin "BaseException.__getattribute__" == Value.builtin "object.__getattribute__")=false from by decide +kernel,Bool.and_false,if_neg (by decide)]
  unfold getAttrByItsOwn hookBefore
  refine wpAny_bind ?_
  rw [if_pos (show onTheHeap (.ref C)=true from rfl)]
  refine y2.at (wpAny_bind (wpAny_attempt (wpAny_holding ?_)))
  unfold callGetattribute boundAndCalled
  rw [if_neg (by intro z;cases z)]
  refine wpAny_bind (wpAny_of_eq (PySem.F.attr_ValueError.ga.bind (.ref e)) ?_)
  exact wpAny_call (zgj (s:=⟨hp,gn,dr,tk+1,os⟩) X x F (wpAny_pure (wpAny_pure q)))
theorem zd8 (F:Ub K C):W.KitX K (.ref e) (.ref C) (ExcAt e C) where
 ty:=λ_ _ _ x=>x.ty
 it:=λ_ _ X _=>by
  have z:=F.mo
  unfold W.mroIn W.clsIn at z
  split at z
  ·rename_i ho
   intro A1 Q1 E1 s1 k q
   unfold isType loadHead
   exact wpAny_bind (wpAny_loadPart (k _ _ (X _ _ ho)) (wpAny_pure q))
  ·cases z
 ne:=λh tp dd its n sl X htp=>by
  have z:=F.mo
  refine Bool.eq_false_iff.mpr λq=>?_
  have ec:C=tp:=Value.ref.inj (beq_iff_eq.mp q)
  subst ec
  unfold W.mroIn W.clsIn at z
  split at z
  ·rename_i ho
   have z2:=X _ _ ho
   rw [htp] at z2
   cases z2
  ·cases z
 ca:=λX x q=>zde X x F q
def Vl (e C:Addr):HO:=.ext λh=>ExcAt e C h
def zfE (K:W.Frag):List V->Hp->VK->Prop:=λxs H Q=>∃ e C c cu b,xs=[.ref e,c]/\RelV c cu/\(∀ u,RelV c u->u=cu)/\H e=some (Vl e C)/\Ub K C/\W.kitOne K (.ref C) cu=some b/\Q (.bl b) H
theorem zc2 {X:Cx}:vB X (.builtin "isinstance") (zfE X.K):=by
 intro pins s σ H xs us Q I r h
 obtain⟨e,C,c,cu,b,rfl,_,un,he,F,k,q⟩:=h
 obtain⟨u,v,rfl,rx,rt⟩:=vals2 r
 cases (show u=Value.ref e from rx)
 cases un v rt
 have o:ObjOk X.prog X.w H s.heap e (Vl e C):=I.hok e _ he
 exact W.kia_one (zd8 F) I.kIn o.1 k (λz=>nomatch z) λtk=>⟨.bl b,H,I.tok tk,rfl,q⟩
theorem uo {X:Cx} (K:W.Frag) (e:X.K=K:=by rfl):vB X (.builtin "isinstance") (zfE K):=by subst e;exact zc2
end
structure zbV (K:W.Frag) (mg:Str->Option Value) (y:Str) (Ch:Addr):Prop where
 g:mg y=some (.ref Ch)
 mb:W.mroIn K Ch (.type "BaseException")=some true
theorem zds {prog:Program} {w:World} {A:Around} {E:Value->Shared->Prop} {K:W.Frag} {e C Ch:Addr} {s:Shared} {b:Bool} {Q:Bool->Shared->Prop} (X:K.In s.heap) (x:ExcAt e C s.heap) (m:W.kitCls K (.ref C) (.ref Ch)=some b)
  (hb:W.mroIn K Ch (.type "BaseException")=some true) (q:Q b s):wpAny (model prog w) A (excMatches (.ref e) (.ref Ch)) Q E s:=by
 cases s with
 | mk hp gn dr tk os =>
  obtain⟨y1,y2,y3⟩:=W.kit_cls (M:=model prog w) X m
  have y0:=x.ty (M:=model prog w)
  have y4:=W.looks_mroIn (M:=model prog w) X hb
  have y5:=tc_notTuple
  unfold excMatches isInstance isExcClass
  repeat (first | with_reducible refine W.Looks.at (by assumption) ?_ | (with_reducible refine wpAny_of_eq y5 ?_) | with_reducible refine wpAny_bind ?_ | wp_step)
  cases b
  ·exact wpAny_pure (wpAny_pure (wpAny_pure q))
  ·exact wpAny_pure (wpAny_pure (wpAny_pure q))
section
variable {X:Cx} {pins:List (Addr×Obj)} {σ:St} {H H':Hp} {s s':Shared}
abbrev Cx.sui (X:Cx) (e:Addr):Cx:={ X with A:=X.A.mark (some (.ref e)),calm:=false,xe:=λ_ _=>False }
theorem Inv.toSui (I:Inv X pins σ H s) (e:Addr):Inv (X.sui e) pins σ H s :=
 ⟨⟨I.ok.mod,I.ok.kind,I.ok.glob,I.ok.blt,I.ok.above,I.ok.inj,I.ok.has,I.ok.cab,(λz=>nomatch z),I.ok.frames,I.ok.stk,I.ok.exf,I.ok.bs,I.ok.bsz,I.ok.noex,I.ok.exfs,I.ok.funs,I.ok.frf⟩,I.os,I.bare,I.base,I.loc,I.cell,I.free,I.freeC,I.pin,I.hok,I.len⟩
theorem Inv.ofSui {e:Addr} (ok:X.Ok) (I:Inv (X.sui e) pins σ H s):Inv X pins σ H s:=⟨ok,I.os,I.bare,I.base,I.loc,I.cell,I.free,I.freeC,I.pin,I.hok,I.len⟩
abbrev Cx.body (X:Cx) (E:Value->Shared->Prop) (pn:List (Addr×Obj)):Cx:={ X with xe:=E,pn:=pn }
theorem Inv.toBody (I:Inv X pins σ H s) (E:Value->Shared->Prop):Inv (X.body E (X.pn++pins)) [] σ H s :=
 ⟨⟨I.ok.mod,I.ok.kind,I.ok.glob,I.ok.blt,I.ok.above,I.ok.inj,I.ok.has,I.ok.cab,I.ok.hd,I.ok.frames,I.ok.stk,I.ok.exf,I.ok.bs,I.ok.bsz,I.ok.noex,I.ok.exfs,I.ok.funs,I.ok.frf⟩,I.os,I.bare,I.base,I.loc,I.cell,I.free,I.freeC,λp hp=>I.pin p (by rw [List.append_nil] at hp;exact hp),I.hok,I.len⟩
theorem Inv.ofBody {E:Value->Shared->Prop} {pins':List (Addr×Obj)} (ok:X.Ok) (I:Inv (X.body E (X.pn++pins)) pins' σ H s):Inv X pins σ H s:=⟨ok,I.os,I.bare,I.base,I.loc,I.cell,I.free,I.freeC,λp hp=>I.pin p (List.mem_append_left _ hp),I.hok,I.len⟩
theorem SP.ofBody {E:Value->Shared->Prop} {D:Ends} {f:Flow} (ok:X.Ok) (h:SP (X.body E (X.pn++pins)) [] D f s'):SP X pins D f s':=by
 cases f with
 | next=>obtain⟨σ',H',I,q⟩:=h;exact⟨σ',H',I.ofBody ok,q⟩
 | brk=>obtain⟨σ',H',I,q⟩:=h;exact⟨σ',H',I.ofBody ok,q⟩
 | cont=>obtain⟨σ',H',I,q⟩:=h;exact⟨σ',H',I.ofBody ok,q⟩
 | ret u=>obtain⟨v,σ',H',I,r,q⟩:=h;exact⟨v,σ',H',I.ofBody ok,r,q⟩
theorem zdl {e C:Addr} {h':Heap} (un:Un (frs X.stack) [] H H' s.heap h') (hok:HOk X.prog X.w H' h') (n0:s.heap.get? e=none) (n1:H' e=none) (x:ExcAt e C h') :
  Un (frs X.stack) [] H (upd H' e (Vl e C)) s.heap h'/\HOk X.prog X.w (upd H' e (Vl e C)) h':=by
 have ne:∀ b o,s.heap.get? b=some o->b≠e:=λb o q z=>by rw [z,n0] at q;cases q
 refine⟨⟨un.keep,un.slot,λb o q n hx=>by rw [zy (ne b o q)];exact un.free b o q n hx,un.there,λb xs q=>?_,λb o u q=>?_,λb ps q=>?_⟩,λb o q=>?_⟩
 ·have z:=un.tups b xs q
  rw [zy (zx z n1)];exact z
 ·have z:=un.frzs b o u q
  rw [zy (zx z n1)];exact z
 ·obtain⟨more,z⟩:=un.tbls b ps q
  exact⟨more,by rw [zy (zx z n1)];exact z⟩
 ·by_cases hb:b=e
  ·subst hb
   rw [zj] at q
   cases q
   obtain⟨o,h1,h2⟩:=id x
   exact⟨x,⟨o,h1⟩,λha hb' xa ka=>let ⟨o,h1,h2⟩:=xa;⟨o,ka o h1,h2⟩⟩
  ·rw [zy hb] at q
   exact (hok b o q).stay (λc u _ z=>z) (λc z=>by rw [zy (zx z n1)];exact z) λc xs z=>by rw [zy (zx z n1)];exact z
theorem Inv.gone {i t:Nat} {n:Str} {h':Heap} (I:Inv X pins σ H s) (hN:X.N.Nodup) (hi:X.N[i]?=some n) (hs:Heap.SameBut X.env.locals s.heap h') (hn:∀ m,s.heap.Ns X.env.locals m->∃ v,h'.Ns X.env.locals λx=>if x=n then v else m x) :
  Inv X pins (σ.set i none) H { s with heap:=h',toks:=t }:=by
 have nl:∀ b o,X.s₀.heap.get? b=some o->b≠X.env.locals:=λb o e=>Nat.ne_of_lt (Nat.lt_of_lt_of_le (Heap.lt_size e) I.ok.above)
 have tr:∀ b u,H b=some u->b≠X.env.locals:=λb u e z=>by rw [z,I.free] at e;cases e
 obtain⟨m,hm,hl⟩:=id I.loc
 obtain⟨v,hv⟩:=hn m hm
 refine⟨I.ok,I.os,I.bare,⟨λb o e n hb hx=>(hs.2 b (nl b o e)).trans (I.base.keep b o e n hb hx),λb o e n hb hx=>?_,I.base.free,λb o e hx=>?_,I.base.tups,I.base.frzs,I.base.tbls⟩,⟨_,hv,λj y w e1 e2 e3=>?_⟩,λy c e=>?_,I.free,I.freeC,λp hp=>?_,λb u e=>?_,by rw [List.length_set];exact I.len⟩
 ·obtain⟨sl,q⟩:=I.base.slot b o e n hb hx
  exact⟨sl,(hs.2 b (nl b o e)).trans q⟩
 ·obtain⟨o1,q⟩:=I.base.there b o e hx
  exact⟨o1,(hs.2 b (nl b o e)).trans q⟩
 ·have hj:j≠i:=λz=>by
   subst z
   rw [List.getElem?_set] at e2
   split at e2
   ·split at e2<;>cases e2
   ·exact absurd rfl (by assumption)
  rw [List.getElem?_set_ne (Ne.symm hj)] at e2
  obtain⟨u,r,q⟩:=hl j y w e1 e2 e3
  refine⟨u,r,?_⟩
  rcases q with ⟨k,z⟩ | ⟨k,c,z,zc⟩
  ·refine .inl ⟨k,?_⟩
   have ny:y≠n:=λz=>hj (UG hN e1 (z▸hi))
   show (if y=n then v else m y)=some u
   rw [if_neg ny];exact z
  ·exact .inr ⟨k,c,z,zc.sameBut hs (I.cne y c z)⟩
 ·obtain⟨w,z⟩:=I.cell y c e
  exact⟨w,z.sameBut hs (I.cne y c e)⟩
 ·obtain⟨e,n,ne,nf,d⟩:=I.pin p hp
  exact⟨(hs.2 p.1 ne).trans e,n,ne,nf,d⟩
 ·refine (I.hok b u e).stay (λc z hc q=>(hs.2 c ?_).trans q) (λ_ q=>q) λ_ _ q=>q
  rcases hc with z | z
  ·rw [z];exact tr b u e
  ·exact tr c _ z
end
def zfG (i:Nat) (D:Ends):Ends:={ nx:=fun σ H=>D.nx (σ.set i none) H,rt:=D.rt,bk:=fun σ H=>D.bk (σ.set i none) H,ct:=fun σ H=>D.ct (σ.set i none) H }
def xAs (K:W.Frag) (Ch:Addr) (i:Nat) (ts:TS) (D:Ends):St->XK:=fun σ c _ H=>∃ C,c=.ref C/\W.kitCls K (.ref C) (.ref Ch)=some true/\∀ e,H e=none->ts (zfG i D) (σ.set i (some (.ref e))) (upd H e (Vl e C))
def zfQ (K:W.Frag) (Ch:Addr) (i:Nat) (tb:(St->XK)->TS) (ts:TS):TS:=λD σ H=>tb (xAs K Ch i ts D) D σ H
section
variable {X:Cx} {y n:Str} {Ch:Addr} {i:Nat} {body suite:List Stmt} {b₀:Stmt} {tb:(St->XK)->TS} {ts:TS} {np hpos pos:Pos}
theorem zeE (O:zbV X.K X.mg y Ch) (hstk:X.stack=X.env :: X.outer) (hfr:X.env.frame=some X.env.locals) (nd:X.N.Nodup) (hi:X.N[i]?=some n) (hloc:X.env.scope.names.lookup n=some .local)
  (hb:∀ (E:Value->Shared->Prop) (pn:List (Addr×Obj)) (Ex:St->XK),JZ (X.body E pn) Ex->PSs (X.body E pn) body (tb Ex)) (hs:∀ e,PSs (X.sui e) (b₀ :: suite) ts) (hg:Gl X y:=by rfl) (hdb:(y == ("__debug__" : Str))=false:=by decide) :
  PS X (.Try body [.ExceptHandler (some (.Name y np)) (some n) (b₀ :: suite) hpos] [] [] pos) (zfQ X.K Ch i tb ts):=by
 intro pins s σ H D I h
 have ok:=I.ok
 refine wpAny_Try_except (wpAny_mono (hb (λe s₁=>wpAny (model X.prog X.w) X.A (noteFrame e X.env) (λ_ s₂=>wpAny (model X.prog X.w) X.A (setFlight e none) (λ_ s₃=>wpAny (model X.prog X.w) X.A (handleBy e X.env [.ExceptHandler (some (.Name y np)) (some n) (b₀ :: suite) hpos]) (SP X pins D) X.xe s₃) X.xe s₂) X.xe s₁)
  (X.pn++pins) (xAs X.K Ch i ts D) ?_ [] s σ H D (I.toBody _) h) (λf s1 q=>?_) λ_ _ z=>z)
 ·intro pins2 σ2 H2 s2 e s3 I2 hcx
  have I2:=I2.ofBody ok
  obtain⟨ea,c,H3,rfl,os,bare,un,hok,n0,n1,t,C,rfl,hk,hq⟩:=hcx
  obtain⟨B,a0,hB,fl⟩:=zcI I2 os bare un hok n0 n1 t
  have fl':Heap.FlyingW B (X.env :: X.outer) ea (.ref C) a0 s3.heap:=by rw [<- hstk];exact fl
  refine wpAny_looks_onW (by rw [ok.frames,hstk]) hfr fl' λh4 held up4=>wpAny_landsW held λh5 fl5 up5=>?_
  obtain⟨u5,k5⟩:=zb2 I2 un hok hB fl5.1 (up4.trans up5)
  have J5:Inv X pins σ2 H3 { s3 with heap:=h5 }:=I2.call' (ch:=[]) os u5 k5 bare λb z=>absurd z (by simp)
  have x5:ExcAt ea C h5:=fl5.there
  refine wpAny_handleBy_cons (codeAny_handlers_test (Xh (X:=X.sui ea) (J5.toSui ea) hg O.g ?_ hdb)) (by intro z;cases z)
  refine zds J5.kIn x5 hk O.mb (codeAny_handlers_suite_as (lands_againW fl5 λh6 fl6 up6=>?_))
  obtain⟨u6,k6⟩:=zb2 I2 un hok hB fl6.1 ((up4.trans up5).trans up6)
  obtain⟨u7,k7⟩:=zdl u6 k6 n0 n1 fl6.there
  have J7:Inv X pins σ2 (upd H3 ea (Vl ea C)) { s3 with heap:=h6 }:=I2.call' (ch:=[]) os u7 k7 bare λb z=>absurd z (by simp)
  refine WF (X:=X.sui ea) (v:=.ref ea) (J7.toSui ea) nd hi (.inl hloc) rfl (λs8 J8=>?_) (.inr hloc)
  refine wpAny_mono (hs ea pins s8 _ _ (zfG i D) J8 (hq ea n1)) (λf s9 q=>?_) λ_ _ z=>False.elim z
  have fin:∀ {σ9:St} {H9:Hp},Inv (X.sui ea) pins σ9 H9 s9->(∀ s10,Inv X pins (σ9.set i none) H9 s10->SP X pins D f s10)->wpAny (model X.prog X.w) X.A (do bindName X.env n .none;unbindBehindTheSuite X.env n hpos) (λ_ s10=>SP X pins D f s10) X.xe s9:=λ{σ9 H9} J k=>by
   have J':=J.ofSui ok
   obtain⟨m,hm,_⟩:=id J'.loc
   refine wpAny_nameGoes_keeps hloc hm (by rw [ok.kind];rfl) λh10 v hn hsb=>k _ (J'.gone nd hi hsb λm2 hm2=>?_)
   refine⟨v,?_⟩
   have e:m2=m:=by
    obtain⟨o1,es1,ep1,a1,b1,c1,d1⟩:=hm
    obtain⟨o2,es2,ep2,a2,b2,c2,d2⟩:=hm2
    rw [a1] at a2;cases a2
    rw [b1] at b2;cases b2
    funext z
    rw [<- d1,<- d2]
   rw [e];exact hn
  cases f with
  | next=>obtain⟨σ9,H9,J,q⟩:=q;exact fin J λs10 K10=>⟨_,_,K10,q⟩
  | brk=>obtain⟨σ9,H9,J,q⟩:=q;exact fin J λs10 K10=>⟨_,_,K10,q⟩
  | cont=>obtain⟨σ9,H9,J,q⟩:=q;exact fin J λs10 K10=>⟨_,_,K10,q⟩
  | ret u=>obtain⟨v,σ9,H9,J,r,q⟩:=q;exact fin J λs10 K10=>⟨v,_,_,K10,r,q⟩
 ·cases f with
  | next=>exact wpAny_execs_nil (SP.ofBody ok q)
  | ret u=>exact SP.ofBody ok q
  | brk=>exact SP.ofBody ok q
  | cont=>exact SP.ofBody ok q
end
theorem JH {X:Cx}:JZ X λ_=>E0:=λ_ _ _ _ _ _ _ h=>by obtain⟨_,_,_,_,_,_,_,_,_,_,_,z⟩:=h;exact z.elim
open PySem PyProof.Rows
@[irreducible] def PEI (X:Cx) (e:Expr) (t:TE):Prop:=PE X e t
@[irreducible] def PAI (X:Cx) (es:List Expr) (t:TA):Prop:=PA X es t
@[irreducible] def PSsI (X:Cx) (st:List Stmt) (t:TS):Prop:=PSs X st t
theorem PEI.o {X:Cx} {e:Expr} {t:TE} (h:PEI X e t):PE X e t:=by unfold PEI at h;exact h
theorem PAI.o {X:Cx} {es:List Expr} {t:TA} (h:PAI X es t):PA X es t:=by unfold PAI at h;exact h
theorem PSsI.o {X:Cx} {l:List Stmt} {t:TS} (h:PSsI X l t):PSs X l t:=by unfold PSsI at h;exact h
theorem pei {X:Cx} {e:Expr} {t:TE} (h:PE X e t):PEI X e t:=by unfold PEI;exact h
theorem pai {X:Cx} {es:List Expr} {t:TA} (h:PA X es t):PAI X es t:=by unfold PAI;exact h
theorem zhl {X:Cx} {l:List Stmt} {t:TS} (h:PSs X l t):PSsI X l t:=by unfold PSsI;exact h
theorem qP {X:Cx} {i j pos}:PEI X (.Constant (.int i) j pos) (tC (.int i)):=pei zr
theorem Ye {X:Cx} {es:List Expr} {t:TA} {pos:Pos} (h:PAI X es t):PEI X (.List es pos) (zcX t):=pei (yc h.o)
theorem Zc {X:Cx}:PAI X [] WR:=pai zg
theorem vm {X:Cx} {x:Str} {j} {pos:Pos} {es:List Expr} {t:TA} (h:PAI X es t):PAI X (.Constant (.str x) j pos :: es) (Ze (tC (.str x)) t):=pai (zbE h.o)
theorem zQ {X:Cx} {e:Expr} {es:List Expr} {te:TE} {t:TA} (ha:PEI X e te) (hr:PAI X es t) (hs:starEach (e :: es) X.env=(false,eval e X.env) :: starEach es X.env:=by rfl):PAI X (e :: es) (Ze te t):=pai (zf ha.o hr.o hs)
theorem zc4 {X:Cx} {st:Stmt} {rest:List Stmt} {t u:TS} (h1:PS X st t) (h2:PSsI X rest u):PSs X (st :: rest) (zdM t u):=zp h1 h2.o
theorem zdB {X:Cx} {i:Nat} {x:Str} {es:List Expr} {t:TA} {u:TS} {rest:List Stmt} {pos' lp pos:Pos} (hN:X.N.Nodup) (hi:X.N[i]?=some x) (hx:Loc X.env.scope x) (h:PAI X es t) (hr:PSs X rest u) (hf:X.fn x=true\/X.env.scope.names.lookup x=some .local:=by first | exact .inl rfl | exact .inr rfl | assumption) :
  PSsI X (.Assign [.Name x pos'] (.List es lp) pos :: rest) (zdM (za4 (zcX t) (XX i)) u):=zhl (zp (zeT hN hi hx h.o hf) hr)
theorem zdy {X:Cx} {a b:Expr} {ta tb:TE} {pos:Pos} {r:R2} (hr:IxR X r) (ha:PEI X a ta) (hb:PE X b tb) (hs:zcD b):PE X (.Subscript a b pos) (tOp r ta tb):=zW hr ha.o hb hs
theorem zcJ {X:Cx} {i:Nat} {x:Str} {e:Expr} {te:TE} {pos' pos:Pos} (hN:X.N.Nodup) (hi:X.N[i]?=some x) (hx:Loc X.env.scope x) (he:PEI X e te) (hs:swapsWith e (some (.Name x pos')) pos.line X.env=pure false:=by rfl) (hf:X.fn x=true\/X.env.scope.names.lookup x=some .local:=by first | exact .inl rfl | exact .inr rfl | assumption) :
  PS X (.Assign [.Name x pos'] e pos) (za4 te (XX i)):=zH hN hi hx he.o hs hf
theorem zfS {X:Cx} {a b:Expr} {ta tb:TE} {pos:Pos} {op:Operator} {r:R2} (ho:OpR X (binaryOp op) r) (ha:PE X a ta) (hb:PEI X b tb):PE X (.BinOp a op b pos) (tOp r ta tb):=zN ho ha hb.o
structure Fit (k n:Nat) (d:PyData):Prop where
 ls:d.leavesShort 40=true
 sh:d.showable=true
 dp:d.depth<=k
 wt:d.weight<=n
theorem Fit.shown {k n:Nat} {d:PyData} (f:Fit k n d) (hn:n<=100000):d.shown.length<=sizeLine:=by
 have h:=PyData.shown_le 40 (by decide) d f.ls
 have:=f.wt
 rw [sizeLine_eq]
 omega
def Th (H:Hp) (k n:Nat) (v:V):Prop:=∃ d,ThAt H d v/\Fit k n d
theorem Th.same {H H':Hp} {k n:Nat} {v:V} (t:Th H k n v) (m:Same H H'):Th H' k n v:=let ⟨d,h,f⟩:=t;⟨d,h.same m,f⟩
theorem Th.le {H:Hp} {k n k' n':Nat} {v:V} (t:Th H k n v) (hk:k<=k') (hn:n<=n'):Th H k' n' v:=let ⟨d,h,f⟩:=t;⟨d,h,f.ls,f.sh,Nat.le_trans f.dp hk,Nat.le_trans f.wt hn⟩
section
variable {H:Hp} {k n:Nat}
theorem Th.non:Th H k n .non:=⟨.none,by rw [ThAt],by rw [PyData.leavesShort],by rw [PyData.showable],by rw [PyData.depth];exact Nat.zero_le _,by rw [PyData.weight];exact Nat.zero_le _⟩
theorem Th.bl {b:Bool}:Th H k n (.bl b):=⟨.bool b,by rw [ThAt],by rw [PyData.leavesShort],by rw [PyData.showable],by rw [PyData.depth];exact Nat.zero_le _,by rw [PyData.weight];exact Nat.zero_le _⟩
theorem log2_small {m:Nat} (h:m<10^30):m.log2<100:=by
 by_cases z:m=0
 ·subst z;decide
 ·exact (Nat.log2_lt z).mpr (Nat.lt_trans h (by decide))
theorem Th.int {i:Int} (h:i.natAbs<10^30) (hn:100<=n):Th H k n (.int i):=by
 refine⟨.int i,by rw [ThAt],?_,?_,by rw [PyData.depth];exact Nat.zero_le _,?_⟩
 ·rw [PyData.leavesShort,PyData.shown]
  refine decide_eq_true ?_
  have:=int_text_length_le10 (a:=i) (k:=30) (by decide) h
  rw [PySem.ofString_length]
  omega
 ·rw [PyData.showable]
  exact decide_eq_true (Nat.lt_trans (log2_small h) (by decide))
 ·rw [PyData.weight]
  have:=log2_small h
  split<;>omega
theorem Th.str {x:Str} (h:(x.cps.toList.all λc=>decide (c<16^8))=true) (hn:x.cps.size<=n):Th H k n (.str x):=⟨.str x,by rw [ThAt],by rw [PyData.leavesShort];exact h,by rw [PyData.showable],by rw [PyData.depth];exact Nat.zero_le _,by rw [PyData.weight];exact hn⟩
theorem Th.emp {a:Addr} (h:H a=some (.dK [])) (hk:1<=k):Th H k n (.ref a):=⟨.dict [],by rw [ThAt];exact⟨rfl,a,rfl,h⟩,by rw [PyData.leavesShort,PyData.leavesShortKv],by rw [PyData.showable,PyData.showableKv],by rw [PyData.depth,PyData.depthKv];exact hk,by rw [PyData.weight,PyData.weightKv];exact Nat.zero_le _⟩
theorem Ths.of:∀ {vs:List V},(∀ v∈vs,Th H k n v)->∃ ds,ThsAt H ds vs/\PyData.leavesShortAll 40 ds=true/\PyData.showableAll ds=true/\PyData.depthAll ds<=k/\PyData.weightAll ds<=(n+1)*vs.length
 | [],_=>⟨[],by rw [ThsAt],by rw [PyData.leavesShortAll],by rw [PyData.showableAll],by rw [PyData.depthAll];exact Nat.zero_le _,by rw [PyData.weightAll];exact Nat.zero_le _⟩
 | v :: vs,h=>by
  obtain⟨d,h1,f⟩:=h v (.head _)
  obtain⟨ds,g1,g2,g3,g4,g5⟩:=Ths.of λv hv=>h v (.tail _ hv)
  refine⟨d :: ds,by rw [ThsAt];exact⟨_,_,rfl,h1,g1⟩,by rw [PyData.leavesShortAll,f.ls,g2];rfl,by rw [PyData.showableAll,f.sh,g3];rfl,?_,?_⟩
  ·rw [PyData.depthAll];have:=f.dp;omega
  ·rw [PyData.weightAll,List.length_cons,Nat.mul_succ];have:=f.wt;omega
theorem Th.lst {a:Addr} {vs:List V} {n':Nat} (h:H a=some (.lst vs)) (t:∀ v∈vs,Th H k n v) (hn:(n+1)*vs.length<=n'):Th H (k+1) n' (.ref a):=by
 obtain⟨ds,g1,g2,g3,g4,g5⟩:=Ths.of t
 exact⟨.list ds,by rw [ThAt];exact⟨a,vs,rfl,h,g1⟩,by rw [PyData.leavesShort];exact g2,by rw [PyData.showable];exact g3,by rw [PyData.depth];omega,by rw [PyData.weight];omega⟩
theorem Th.tup {a:Addr} {vs:List V} {n':Nat} (h:H a=some (.tup vs)) (t:∀ v∈vs,Th H k n v) (hn:(n+1)*vs.length<=n'):Th H (k+1) n' (.ref a):=by
 obtain⟨ds,g1,g2,g3,g4,g5⟩:=Ths.of t
 exact⟨.tuple ds,by rw [ThAt];exact⟨a,vs,rfl,h,g1⟩,by rw [PyData.leavesShort];exact g2,by rw [PyData.showable];exact g3,by rw [PyData.depth];omega,by rw [PyData.weight];omega⟩
theorem Th.ints {a:Addr} {ns:List Int} {n':Nat} (h:H a=some (.lst (ns.map V.int))) (t:∀ i∈ns,i.natAbs<10^30) (hn:101*ns.length<=n'):Th H (k+1) n' (.ref a) :=
 Th.lst (n:=100) h (λv hv=>by
  obtain⟨i,hi,rfl⟩:=List.mem_map.mp hv
  exact Th.int (t i hi) (Nat.le_refl _)) (by rw [List.length_map];exact hn)
end
structure Ty where
 p:Hp->V->Prop
 mo:∀ {G G':Hp} {v:V},Same G G'->p G v->p G' v
structure View where
 v:Hp->Hp
 ok:Hp->Prop
 out:∀ {H:Hp} {a:Addr} {o:HO},v H a=some o->H a=some o
 new:∀ {H:Hp} {p:Addr} (o:HO),ok H->H p=none->ok (upd H p o)/\Same (v H) (v (upd H p o))/\v (upd H p o) p=some o
abbrev Cxt:=List (Option Ty)
def Fits (Γ:Cxt) (G:Hp) (σ:St):Prop:=σ.length=Γ.length/\∀ (i:Nat) (T:Ty),Γ[i]?=some (some T)->∃ v:V,σ[i]?=some (some v)/\T.p G v
theorem Fits.same {Γ:Cxt} {G G':Hp} {σ:St} (f:Fits Γ G σ) (s:Same G G'):Fits Γ G' σ:=⟨f.1,λi T h=>let ⟨v,e,q⟩:=f.2 i T h;⟨v,e,T.mo s q⟩⟩
theorem Fits.set {Γ:Cxt} {G:Hp} {σ:St} {i:Nat} {T:Ty} {v:V} (f:Fits Γ G σ) (q:T.p G v):Fits (Γ.set i (some T)) G (σ.set i (some v)):=by
 refine⟨by rw [List.length_set,List.length_set,f.1],λj T' h=>?_⟩
 rw [List.getElem?_set] at h ⊢
 by_cases e:i=j
 ·rw [if_pos e] at h ⊢
  by_cases l:i<Γ.length
  ·rw [if_pos l] at h
   rw [if_pos (by rw [f.1];exact l)]
   cases h
   exact⟨v,rfl,q⟩
  ·rw [if_neg l] at h;cases h
 ·rw [if_neg e] at h ⊢
  exact f.2 j T' h
theorem Fits.nil {G:Hp}:Fits [] G []:=⟨rfl,λi T h=>by simp at h⟩
theorem Fits.cons {Γ:Cxt} {G:Hp} {σ:St} {T:Ty} {v:V} (q:T.p G v) (f:Fits Γ G σ):Fits (some T :: Γ) G (some v :: σ):=by
 refine⟨by rw [List.length_cons,List.length_cons,f.1],λi T' h=>?_⟩
 cases i with
 | zero=>cases h;exact⟨v,rfl,q⟩
 | succ i=>exact f.2 i T' h
theorem Fits.skip {Γ:Cxt} {G:Hp} {σ:St} {v:Option V} (f:Fits Γ G σ):Fits (none :: Γ) G (v :: σ):=by
 refine⟨by rw [List.length_cons,List.length_cons,f.1],λi T' h=>?_⟩
 cases i with
 | zero=>cases h
 | succ i=>exact f.2 i T' h
def Tp (w:View) (Γ:Cxt) (te:TE) (T:Ty):Prop:=∀ (σ:St) (H:Hp) (Q:VK),w.ok H->Fits Γ (w.v H) σ->(∀ v H',w.ok H'->Same (w.v H) (w.v H')->T.p (w.v H') v->Q v H')->te σ H Q
def ZQ (k n:Nat):Ty:=⟨λG v=>Th G k n v,λs h=>h.same s⟩
def tyI (lo hi:Int):Ty:=⟨λ_ v=>∃ i,v=.int i/\lo<=i/\i<=hi,λ_ h=>h⟩
def wK (T:Ty) (lo hi:Nat):Ty:=⟨λG v=>∃ a vs,v=.ref a/\G a=some (.lst vs)/\lo<=vs.length/\vs.length<=hi/\∀ u∈vs,T.p G u,λs ⟨a,vs,h1,h2,h3,h4,h5⟩=>⟨a,vs,h1,s _ _ h2,h3,h4,λu hu=>T.mo s (h5 u hu)⟩⟩
abbrev tyL (k n lo hi:Nat):Ty:=wK (ZQ k n) lo hi
def zag (v:V):Ty:=⟨λ_ u=>u=v,λ_ h=>h⟩
def TpA (w:View) (Γ:Cxt) (ta:TA) (k n m:Nat):Prop:=∀ (σ:St) (H:Hp) (Q:List V->Hp->Prop),w.ok H->Fits Γ (w.v H) σ->(∀ vs H',w.ok H'->Same (w.v H) (w.v H')->vs.length=m->(∀ u∈vs,Th (w.v H') k n u)->Q vs H')->ta σ H Q
def TpB (w:View) (Γ:Cxt) (ta:TA) (T:Ty) (m:Nat):Prop:=∀ (σ:St) (H:Hp) (Q:List V->Hp->Prop),w.ok H->Fits Γ (w.v H) σ->(∀ vs H',w.ok H'->Same (w.v H) (w.v H')->vs.length=m->(∀ u∈vs,T.p (w.v H') u)->Q vs H')->ta σ H Q
def TpO (w:View) (Γ:Cxt) (to:TO):Prop:=∀ (σ:St) (H:Hp) (Q:Option Int->Hp->Prop),w.ok H->Fits Γ (w.v H) σ->(∀ o H',w.ok H'->Same (w.v H) (w.v H')->Q o H')->to σ H Q
section
variable {w:View} {Γ:Cxt} {te ta tb:TE} {K:W.Frag} {k n m k' n' m' lo hi lo' hi':Nat} {i j i' j':Int}
theorem Tp.sub {T T':Ty} (h:Tp w Γ te T) (s:∀ G v,T.p G v->T'.p G v):Tp w Γ te T':=fun σ H Q o f q=>h σ H Q o f λv H' o' s' t=>q v H' o' s' (s _ _ t)
theorem Tp.var {x:Nat} {T:Ty} (h:Γ[x]?=some (some T)):Tp w Γ (ze7 x) T:=fun σ H Q o f q=>let ⟨v,e,t⟩:=f.2 x T h;⟨v,e,q v H o (Same.refl _) t⟩
theorem Tp.non:Tp w Γ (tC .non) (ZQ 0 0):=fun σ H Q o f q=>q _ H o (Same.refl _) Th.non
theorem Tp.bl {b:Bool}:Tp w Γ (tC (.bl b)) (ZQ 0 0):=fun σ H Q o f q=>q _ H o (Same.refl _) Th.bl
theorem Tp.str {x:Str} (h:(x.cps.toList.all λc=>decide (c<16^8))=true) (hn:x.cps.size<=100):Tp w Γ (tC (.str x)) (ZQ 0 100):=fun σ H Q o f q=>q _ H o (Same.refl _) (Th.str h hn)
theorem Tp.int:Tp w Γ (tC (.int i)) (tyI i i):=fun σ H Q o f q=>q _ H o (Same.refl _) ⟨i,rfl,Int.le_refl _,Int.le_refl _⟩
theorem Tp.wide (h:Tp w Γ te (tyI i j)) (h1:i'<=i) (h2:j<=j'):Tp w Γ te (tyI i' j'):=h.sub λG v ⟨x,e,a,b⟩=>⟨x,e,Int.le_trans h1 a,Int.le_trans b h2⟩
theorem Tp.add (ha:Tp w Γ ta (tyI i j)) (hb:Tp w Γ tb (tyI i' j')):Tp w Γ (tOp (rI0 λx y=>.int (x+y)) ta tb) (tyI (i+i') (j+j')):=fun σ H Q o f q=>ha σ H _ o f λv H1 o1 s1 ⟨x,e1,a1,b1⟩=>hb σ H1 _ o1 (f.same s1) λu H2 o2 s2 ⟨y,e2,a2,b2⟩=>⟨x,y,e1,e2,q _ H2 o2 (s1.trans s2) ⟨_,rfl,by omega,by omega⟩⟩
theorem Tp.neg (ha:Tp w Γ ta (tyI i j)):Tp w Γ (tUn (rU λx=>.int (-x)) ta) (tyI (-j) (-i)):=fun σ H Q o f q=>ha σ H _ o f λv H1 o1 s1 ⟨x,e1,a1,b1⟩=>⟨x,e1,q _ H1 o1 s1 ⟨_,rfl,by omega,by omega⟩⟩
theorem Tp.pow {x y:Int} (c:zfZ x y):Tp w Γ (tOp (rI zfZ λi j=>.int (i^j.toNat)) (tC (.int x)) (tC (.int y))) (tyI (x^y.toNat) (x^y.toNat)):=fun σ H Q o f q=>⟨x,y,rfl,rfl,c,q _ H o (Same.refl _) ⟨_,rfl,Int.le_refl _,Int.le_refl _⟩⟩
theorem Tp.ofI (h:Tp w Γ te (tyI i j)) (h1:-(10^29)<=i:=by decide) (h2:j<=10^29:=by decide):Tp w Γ te (ZQ 0 100):=h.sub λG v ⟨x,e,a,b⟩=>by
 rw [e];exact Th.int (by omega) (Nat.le_refl _)
theorem Tp.ofL (h:Tp w Γ te (tyL k n lo hi)):Tp w Γ te (ZQ (k+1) ((n+1)*hi)):=h.sub λG v ⟨a,vs,e,h1,_,h2,h3⟩=>by
 rw [e];exact Th.lst h1 h3 (Nat.mul_le_mul_left _ h2)
theorem Tp.le (h:Tp w Γ te (ZQ k n)) (hk:k<=k') (hn:n<=n'):Tp w Γ te (ZQ k' n'):=h.sub λG v t=>t.le hk hn
theorem TpA.nil:TpA w Γ WR 0 0 0:=fun σ H Q o f q=>q [] H o (Same.refl _) rfl (by simp)
theorem TpA.cons {t:TA} (h:Tp w Γ te (ZQ k n)) (ht:TpA w Γ t k' n' m):TpA w Γ (Ze te t) (max k k') (max n n') (m+1):=fun σ H Q o f q=>h σ H _ o f λv H1 o1 s1 t1=>ht σ H1 _ o1 (f.same s1) λvs H2 o2 s2 e2 t2=>q (v :: vs) H2 o2 (s1.trans s2) (by rw [List.length_cons,e2]) λu hu=>by
 rcases List.mem_cons.mp hu with rfl | hu
 ·exact (t1.same s2).le (Nat.le_max_left _ _) (Nat.le_max_left _ _)
 ·exact (t2 u hu).le (Nat.le_max_right _ _) (Nat.le_max_right _ _)
theorem jm {x:Nat} (h:x<=10000):x<=sizeLine:=Nat.le_trans h (by decide)
theorem Tp.lst {t:TA} (h:TpA w Γ t k n m) (hm:m<=10000:=by decide):Tp w Γ (zcX t) (tyL k n m m):=fun σ H Q o f q=>h σ H _ o f λvs H1 o1 s1 e1 t1=>⟨jm (by rw [e1];exact hm),λp hp=>by
 obtain⟨o2,s2,e2⟩:=w.new (.lst vs) o1 hp
 exact q (.ref p) _ o2 (s1.trans s2) ⟨p,vs,rfl,e2,Nat.le_of_eq e1.symm,Nat.le_of_eq e1,λu hu=>(t1 u hu).same s2⟩⟩
theorem Tp.tup {t:TA} (h:TpA w Γ t k n m) (hm:m<=10000:=by decide):Tp w Γ (zg7 t) (ZQ (k+1) ((n+1)*m)):=fun σ H Q o f q=>h σ H _ o f λvs H1 o1 s1 e1 t1=>⟨jm (by rw [e1];exact hm),λp hp=>by
 obtain⟨o2,s2,e2⟩:=w.new (.tup vs) o1 hp
 exact q (.ref p) _ o2 (s1.trans s2) (Th.tup e2 (λu hu=>(t1 u hu).same s2) (by rw [e1];exact Nat.le_refl _))⟩
theorem Tp.emp:Tp w Γ zdF (ZQ 1 0):=fun σ H Q o f q p hp=>by
 obtain⟨o2,s2,e2⟩:=w.new (.dK []) o hp
 exact q (.ref p) _ o2 s2 (Th.emp e2 (Nat.le_refl _))
theorem zfb {xs:List V} {c:Nat} {x:V} (h:x∈(List.replicate c xs).flatten):x∈xs:=by
 obtain⟨l,hl,hx⟩:=List.mem_flatten.mp h
 rw [(List.mem_replicate.mp hl).2] at hx;exact hx
theorem Tp.rep {c c':Nat} (ha:Tp w Γ ta (tyL k n lo hi)) (hb:Tp w Γ tb (tyI c c')) (hm:hi*c'<=10000:=by decide) (hc:c'<=10000:=by decide):Tp w Γ (tOp zgr ta tb) (tyL k n (lo*c) (hi*c')):=fun σ H Q o f q=>ha σ H _ o f λv H1 o1 s1 t1=>hb σ H1 _ o1 (f.same s1) λu H2 o2 s2 ⟨y,e2,a2,b2⟩=>by
 obtain⟨a,vs,e1,g1,l1,m1,r1⟩:=(tyL k n lo hi).mo s2 t1
 have hy:y.toNat<=c':=by omega
 have hz:c<=y.toNat:=by omega
 refine⟨a,y,vs,e1,e2,w.out g1,by omega,by omega,jm (Nat.le_trans (Nat.mul_le_mul m1 hy) hm),λp hp=>?_⟩
 obtain⟨o3,s3,e3⟩:=w.new (.lst (List.replicate y.toNat vs).flatten) o2 hp
 refine q (.ref p) _ o3 (s1.trans (s2.trans s3)) ⟨p,_,rfl,e3,by rw [len_rep,Nat.mul_comm lo];exact Nat.mul_le_mul hz l1,by rw [len_rep,Nat.mul_comm hi];exact Nat.mul_le_mul hy m1,λx hx=>(r1 x (zfb hx)).same s3⟩
theorem TpO.none:TpO w Γ zat:=fun σ H Q o f q=>q _ H o (Same.refl _)
theorem TpO.some (h:Tp w Γ te (tyI i j)):TpO w Γ (zeN te):=fun σ H Q o f q=>h σ H _ o f λv H1 o1 s1 ⟨x,e,_⟩=>⟨x,e,q _ H1 o1 s1⟩
theorem zbr (vs:List V) (lo hi:Option Int):(∀ v∈ju vs lo hi,v∈vs)/\(ju vs lo hi).length<=vs.length:=by
 unfold ju
 refine⟨λv hv=>List.mem_of_mem_drop (List.mem_of_mem_take hv),?_⟩
 rw [List.length_take,List.length_drop]
 omega
theorem Tp.sl {tl tu:TO} {T:Ty} (h:Tp w Γ te (wK T lo hi)) (hl:TpO w Γ tl) (hu:TpO w Γ tu):Tp w Γ (tSl (zeS K) te tl tu) (wK T 0 hi):=fun σ H Q o f q=>h σ H _ o f λv H1 o1 s1 t1=>hl σ H1 _ o1 (f.same s1) λx H2 o2 s2=>hu σ H2 _ o2 ((f.same s1).same s2) λy H3 o3 s3=>by
 obtain⟨a,vs,e1,g1,l1,m1,r1⟩:=(wK T lo hi).mo (s2.trans s3) t1
 refine⟨a,vs,e1,SqL.of (w.out g1),λp hp=>?_⟩
 obtain⟨o4,s4,e4⟩:=w.new (.lst (ju vs x y)) o3 hp
 exact q (.ref p) _ o4 (s1.trans (s2.trans (s3.trans s4))) ⟨p,_,rfl,e4,Nat.zero_le _,Nat.le_trans (zbr vs x y).2 m1,λu hu=>T.mo s4 (r1 u ((zbr vs x y).1 u hu))⟩
theorem Tp.rev {T:Ty} (h:Tp w Γ te (wK T lo hi)):Tp w Γ (zfu K te) (wK T lo hi):=fun σ H Q o f q=>h σ H _ o f λv H1 o1 s1 ⟨a,vs,e1,g1,l1,m1,r1⟩=>⟨a,vs,e1,SqL.of (w.out g1),λp hp=>by
 obtain⟨o4,s4,e4⟩:=w.new (.lst vs.reverse) o1 hp
 exact q (.ref p) _ o4 (s1.trans s4) ⟨p,_,rfl,e4,by rw [List.length_reverse];exact l1,by rw [List.length_reverse];exact m1,λu hu=>T.mo s4 (r1 u (List.mem_reverse.mp hu))⟩⟩
theorem Tp.ix {T:Ty} (ha:Tp w Γ ta (wK T lo hi)) (hb:Tp w Γ tb (tyI 0 j)) (hj:j<lo:=by decide):Tp w Γ (tOp (zf7 K) ta tb) T:=fun σ H Q o f q=>ha σ H _ o f λv H1 o1 s1 t1=>hb σ H1 _ o1 (f.same s1) λu H2 o2 s2 ⟨y,e2,a2,b2⟩=>by
 obtain⟨a,vs,e1,g1,l1,m1,r1⟩:=(wK T lo hi).mo s2 t1
 have hy:y.toNat<vs.length:=by omega
 refine⟨a,vs,y,vs[y.toNat],e1,e2,SqL.of (w.out g1),?_,q _ H2 o2 (s1.trans s2) (r1 _ (List.getElem_mem hy))⟩
 have:=vf (List.getElem?_eq_getElem hy)
 rwa [show ((y.toNat:Nat):Int)=y by omega] at this
theorem Tp.len {T:Ty} (h:Tp w Γ te (wK T lo hi)):Tp w Γ (tCB (λxs H Q=>∃ p ys,xs=[.ref p]/\(SqL K H p ys\/SqT K H p ys)/\Q (.int ys.length) H) (Ze te WR)) (tyI lo hi):=fun σ H Q o f q=>h σ H _ o f λv H1 o1 s1 ⟨a,vs,e1,g1,l1,m1,r1⟩=>⟨a,vs,by rw [e1],.inl (SqL.of (w.out g1)),q _ H1 o1 s1 ⟨_,rfl,by omega,by omega⟩⟩
theorem Tp.catT {T:Ty} (ha:Tp w Γ ta (wK T lo hi)) (hb:Tp w Γ tb (wK T lo' hi')) (hm:hi+hi'<=10000:=by first | decide | omega):Tp w Γ (tOp zgX ta tb) (wK T (lo+lo') (hi+hi')):=fun σ H Q o f q=>ha σ H _ o f λv H1 o1 s1 t1=>hb σ H1 _ o1 (f.same s1) λu H2 o2 s2 t2=>by
 obtain⟨a,vs,e1,g1,l1,m1,r1⟩:=(wK T lo hi).mo s2 t1
 obtain⟨b,us,e2,g2,l2,m2,r2⟩:=t2
 refine⟨a,b,vs,us,e1,e2,w.out g1,w.out g2,jm (Nat.le_trans (Nat.add_le_add m1 m2) hm),λp hp=>?_⟩
 obtain⟨o3,s3,e3⟩:=w.new (.lst (vs++us)) o2 hp
 refine q (.ref p) _ o3 (s1.trans (s2.trans s3)) ⟨p,_,rfl,e3,by rw [List.length_append];omega,by rw [List.length_append];omega,λx hx=>?_⟩
 rcases List.mem_append.mp hx with hx | hx
 ·exact T.mo s3 (r1 x hx)
 ·exact T.mo s3 (r2 x hx)
theorem TpB.nil {T:Ty}:TpB w Γ WR T 0:=fun σ H Q o f q=>q [] H o (Same.refl _) rfl (by simp)
theorem TpB.cons {T:Ty} {t:TA} (h:Tp w Γ te T) (ht:TpB w Γ t T m):TpB w Γ (Ze te t) T (m+1):=fun σ H Q o f q=>h σ H _ o f λv H1 o1 s1 t1=>ht σ H1 _ o1 (f.same s1) λvs H2 o2 s2 e2 t2=>q (v :: vs) H2 o2 (s1.trans s2) (by rw [List.length_cons,e2]) λu hu=>by
 rcases List.mem_cons.mp hu with rfl | hu
 ·exact T.mo s2 t1
 ·exact t2 u hu
theorem Tp.lstT {T:Ty} {t:TA} (h:TpB w Γ t T m) (hm:m<=10000:=by decide):Tp w Γ (zcX t) (wK T m m):=fun σ H Q o f q=>h σ H _ o f λvs H1 o1 s1 e1 t1=>⟨jm (by rw [e1];exact hm),λp hp=>by
 obtain⟨o2,s2,e2⟩:=w.new (.lst vs) o1 hp
 exact q (.ref p) _ o2 (s1.trans s2) ⟨p,vs,rfl,e2,Nat.le_of_eq e1.symm,Nat.le_of_eq e1,λu hu=>T.mo s2 (t1 u hu)⟩⟩
theorem Tp.wideL {T T':Ty} (h:Tp w Γ te (wK T lo hi)) (s:∀ G v,T.p G v->T'.p G v) (h1:lo'<=lo) (h2:hi<=hi'):Tp w Γ te (wK T' lo' hi'):=h.sub λG v ⟨a,vs,e,g,l,m,r⟩=>⟨a,vs,e,g,Nat.le_trans h1 l,Nat.le_trans m h2,λu hu=>s G u (r u hu)⟩
theorem Tp.ofLI (h:Tp w Γ te (wK (tyI i j) lo' hi')) (h1:-(10^29)<=i:=by decide) (h2:j<=10^29:=by decide):Tp w Γ te (tyL 0 100 lo' hi'):=h.wideL (λG v ⟨x,e,a,b⟩=>by rw [e];exact Th.int (by omega) (Nat.le_refl _)) (Nat.le_refl _) (Nat.le_refl _)
theorem Tp.tupOf (h:Tp w Γ te (tyL k n lo hi)):Tp w Γ (tCB (λxs H Q=>∃ p ys,xs=[.ref p]/\((SqL K H p ys/\∀ l,H l=none->Q (.ref l) (upd H l (.tup ys)))\/(SqT K H p ys/\Q (.ref p) H))) (Ze te WR)) (ZQ (k+1) ((n+1)*hi)):=fun σ H Q o f q=>h σ H _ o f λv H1 o1 s1 ⟨a,vs,e1,g1,l1,m1,r1⟩=>⟨a,vs,by rw [e1],.inl ⟨SqL.of (w.out g1),λp hp=>by
 obtain⟨o4,s4,e4⟩:=w.new (.tup vs) o1 hp
 exact q (.ref p) _ o4 (s1.trans s4) (Th.tup e4 (λu hu=>(r1 u hu).same s4) (Nat.mul_le_mul_left _ m1))⟩⟩
end
def TpS (w:View) (Γ:Cxt) (ts:TS) (Γ':Cxt) (T:Ty):Prop:=∀ (D:Ends) (σ:St) (H:Hp),w.ok H->Fits Γ (w.v H) σ->(∀ σ' H',w.ok H'->Same (w.v H) (w.v H')->Fits Γ' (w.v H') σ'->D.nx σ' H')->(∀ v H',w.ok H'->Same (w.v H) (w.v H')->T.p (w.v H') v->D.rt v H')->ts D σ H
section
variable {w:View} {Γ Γ1 Γ2:Cxt} {te:TE} {t u:TS} {T T1:Ty}
theorem TpS.seq (h1:TpS w Γ t Γ1 T) (h2:TpS w Γ1 u Γ2 T):TpS w Γ (zdM t u) Γ2 T:=λD σ H o f qn qr=>h1 _ σ H o f (fun σ1 H1 o1 s1 f1=>h2 D σ1 H1 o1 f1 (fun σ2 H2 o2 s2 f2=>qn σ2 H2 o2 (s1.trans s2) f2) (λv H2 o2 s2 r2=>qr v H2 o2 (s1.trans s2) r2)) qr
theorem TpS.weak {Γ':Cxt} (f:∀ G σ,Fits Γ G σ->Fits Γ' G σ) (h:TpS w Γ' t Γ2 T):TpS w Γ t Γ2 T:=λD σ H o g qn qr=>h D σ H o (f _ _ g) qn qr
theorem TpS.sub {T':Ty} (h:TpS w Γ t Γ2 T) (s:∀ G v,T.p G v->T'.p G v):TpS w Γ t Γ2 T':=λD σ H o g qn qr=>h D σ H o g qn λv H1 o1 s1 t1=>qr v H1 o1 s1 (s _ _ t1)
theorem TpS.ret (h:Tp w Γ te T):TpS w Γ (zgU te) Γ2 T:=λD σ H o f qn qr=>h σ H _ o f qr
end
theorem TpS.go {w:View} {Γ Γ':Cxt} {ts:TS} {T:Ty} {D:Ends} {σ:St} {H:Hp} (h:TpS w Γ ts Γ' T) (o:w.ok H) (f:Fits Γ (w.v H) σ) (qn:∀ σ' H',w.ok H'->Same (w.v H) (w.v H')->Fits Γ' (w.v H') σ'->D.nx σ' H') (qr:∀ v H',w.ok H'->Same (w.v H) (w.v H')->T.p (w.v H') v->D.rt v H'):ts D σ H:=h D σ H o f qn qr
theorem Tp.asg2 {w:View} {Γ:Cxt} {te:TE} {T1:Ty} {u:TS} {i:Nat} {D:Ends} {σ:St} {H:Hp} (h:Tp w Γ te T1) (o:w.ok H) (f:Fits Γ (w.v H) σ) (q:∀ v H',w.ok H'->Same (w.v H) (w.v H')->T1.p (w.v H') v->u D (σ.set i (some v)) H'):zdM (za4 te (XX i)) u D σ H:=h σ H _ o f q
theorem Fits.any:∀ {G:Hp} (σ:St),Fits (σ.map λ_=>none) G σ:=λ{G} σ=>⟨by rw [List.length_map],λi T h=>by rw [List.getElem?_map] at h;cases e:σ[i]? with | none=>rw [e] at h;cases h | some x=>rw [e] at h;cases h⟩
def zgL:Ty:=⟨λ_ _=>False,λ_ h=>h⟩
theorem Fits.no {G:Hp} {σ:St} (f:Fits [some zgL] G σ):False:=let ⟨_,_,h⟩:=f.2 0 zgL rfl;h
def CSub:Cxt->Cxt->Prop
 | [],[]=>True
 | _ :: Γ,none :: Γ'=>CSub Γ Γ'
 | some T :: Γ,some T' :: Γ'=>(∀ G v,T.p G v->T'.p G v)/\CSub Γ Γ'
 | _,_=>False
theorem CSub.fits:∀ {Γ Γ':Cxt} {G:Hp} {σ:St},CSub Γ Γ'->Fits Γ G σ->Fits Γ' G σ
 | [],[],_,_,_,f=>f
 | [],_ :: _,_,_,h,_=>by simp [CSub] at h
 | _ :: _,[],_,_,h,_=>by simp [CSub] at h
 | a :: Γ,none :: Γ',G,[],h,f=>by have:=f.1;simp at this
 | a :: Γ,none :: Γ',G,v :: σ,h,f=>Fits.skip (CSub.fits (Γ:=Γ) (by rw [CSub] at h;exact h) ⟨by simpa using f.1,λi T e=>f.2 (i+1) T e⟩)
 | none :: Γ,some T' :: Γ',G,σ,h,f=>by simp [CSub] at h
 | some T :: Γ,some T' :: Γ',G,[],h,f=>by have:=f.1;simp at this
 | some T :: Γ,some T' :: Γ',G,v :: σ,h,f=>by
  obtain⟨u,e,q⟩:=f.2 0 T rfl
  have e:v=some u:=by simpa using e
  subst e
  exact Fits.cons (h.1 _ _ q) (CSub.fits (Γ:=Γ) h.2 ⟨by simpa using f.1,λi T e=>f.2 (i+1) T e⟩)
def idV:View:=⟨id,λ_=>True,λh=>h,λo _ h=>⟨trivial,zm h,zj⟩⟩
def TpE (w:View) (Γ:Cxt) (ta:TA) (vs:List V):Prop:=∀ (σ:St) (H:Hp) (Q:List V->Hp->Prop),w.ok H->Fits Γ (w.v H) σ->(∀ H',w.ok H'->Same (w.v H) (w.v H')->Q vs H')->ta σ H Q
section
variable {w:View} {Γ:Cxt} {te ta tb:TE} {K:W.Frag} {vs us:List V}
theorem TpE.nil:TpE w Γ WR []:=fun σ H Q o f q=>q H o (Same.refl _)
theorem TpE.cons {t:TA} {v:V} (h:Tp w Γ te (zag v)) (ht:TpE w Γ t vs):TpE w Γ (Ze te t) (v :: vs):=fun σ H Q o f q=>h σ H _ o f λu H1 o1 s1 e1=>ht σ H1 _ o1 (f.same s1) λH2 o2 s2=>by
 rw [show u=v from e1];exact q H2 o2 (s1.trans s2)
end
def tyQ (k n:Nat) (P:PyData->Bool):Ty:=⟨λG v=>∃ d,ThAt G d v/\Fit k n d/\P d=true,λs ⟨d,h,f,p⟩=>⟨d,h.same s,f,p⟩⟩
section
variable {w:View} {Γ:Cxt} {te ta tb:TE} {K:W.Frag} {k n m k' n' m' lo hi:Nat} {i j:Int} {P P':PyData->Bool}
theorem Fit.le {d:PyData} (f:Fit k n d) (hk:k<=k') (hn:n<=n'):Fit k' n' d:=⟨f.ls,f.sh,Nat.le_trans f.dp hk,Nat.le_trans f.wt hn⟩
theorem Th.q {G:Hp} {v:V} (t:Th G k n v) (h:∀ d,ThAt G d v->P d=true):(tyQ k n P).p G v:=let ⟨d,a,f⟩:=t;⟨d,a,f,h d a⟩
theorem tyQ.th {G:Hp} {v:V} (t:(tyQ k n P).p G v):Th G k n v:=let ⟨d,a,f,_⟩:=t;⟨d,a,f⟩
end
mutual
theorem ThAt.uniq {H:Hp}:∀ {d e:PyData} {v:V},ThAt H d v->ThAt H e v->d=e
 | .none,e,v,h,g=>by rw [ThAt] at h;subst h;cases e<;>rw [ThAt] at g<;>first | (obtain⟨a,ys,z,_⟩:=g;cases z;done) | (obtain⟨_,a,z,_⟩:=g;cases z;done) | rfl | (cases g;done)
 | .bool b,e,v,h,g=>by rw [ThAt] at h;subst h;cases e<;>rw [ThAt] at g<;>first | (obtain⟨a,ys,z,_⟩:=g;cases z;done) | (obtain⟨_,a,z,_⟩:=g;cases z;done) | (cases g;rfl) | (cases g;done)
 | .int i,e,v,h,g=>by rw [ThAt] at h;subst h;cases e<;>rw [ThAt] at g<;>first | (obtain⟨a,ys,z,_⟩:=g;cases z;done) | (obtain⟨_,a,z,_⟩:=g;cases z;done) | (cases g;rfl) | (cases g;done)
 | .str x,e,v,h,g=>by rw [ThAt] at h;subst h;cases e<;>rw [ThAt] at g<;>first | (obtain⟨a,ys,z,_⟩:=g;cases z;done) | (obtain⟨_,a,z,_⟩:=g;cases z;done) | (cases g;rfl) | (cases g;done)
 | .list xs,e,v,h,g=>by
  rw [ThAt] at h
  obtain⟨a,ys,rfl,h2,h3⟩:=h
  cases e with
  | list xs' =>
   rw [ThAt] at g
   obtain⟨b,zs,z,g2,g3⟩:=g
   cases z
   rw [h2] at g2;cases g2
   rw [ThsAt.uniq h3 g3]
  | tuple xs'=>rw [ThAt] at g;obtain⟨b,zs,z,g2,g3⟩:=g;cases z;rw [h2] at g2;cases g2
  | dict kvs=>rw [ThAt] at g;obtain⟨_,b,z,g2⟩:=g;cases z;rw [h2] at g2;cases g2
  | none=>rw [ThAt] at g;cases g
  | bool _=>rw [ThAt] at g;cases g
  | int _=>rw [ThAt] at g;cases g
  | str _=>rw [ThAt] at g;cases g
 | .tuple xs,e,v,h,g=>by
  rw [ThAt] at h
  obtain⟨a,ys,rfl,h2,h3⟩:=h
  cases e with
  | tuple xs' =>
   rw [ThAt] at g
   obtain⟨b,zs,z,g2,g3⟩:=g
   cases z
   rw [h2] at g2;cases g2
   rw [ThsAt.uniq h3 g3]
  | list xs'=>rw [ThAt] at g;obtain⟨b,zs,z,g2,g3⟩:=g;cases z;rw [h2] at g2;cases g2
  | dict kvs=>rw [ThAt] at g;obtain⟨_,b,z,g2⟩:=g;cases z;rw [h2] at g2;cases g2
  | none=>rw [ThAt] at g;cases g
  | bool _=>rw [ThAt] at g;cases g
  | int _=>rw [ThAt] at g;cases g
  | str _=>rw [ThAt] at g;cases g
 | .dict kvs,e,v,h,g=>by
  rw [ThAt] at h
  obtain⟨h0,a,rfl,h2⟩:=h
  cases e with
  | dict kvs' =>
   rw [ThAt] at g
   obtain⟨g0,b,z,g2⟩:=g
   cases z
   rw [h2] at g2
   have q:dV (unD kvs)=dV (unD kvs'):=by injection (Option.some.inj g2)
   rw [h0,g0,zdD q]
  | list xs'=>rw [ThAt] at g;obtain⟨b,zs,z,g2,g3⟩:=g;cases z;rw [h2] at g2;cases g2
  | tuple xs'=>rw [ThAt] at g;obtain⟨b,zs,z,g2,g3⟩:=g;cases z;rw [h2] at g2;cases g2
  | none=>rw [ThAt] at g;cases g
  | bool _=>rw [ThAt] at g;cases g
  | int _=>rw [ThAt] at g;cases g
  | str _=>rw [ThAt] at g;cases g
theorem ThsAt.uniq {H:Hp}:∀ {ds es:List PyData} {ys:List V},ThsAt H ds ys->ThsAt H es ys->ds=es
 | [],es,ys,h,g=>by
  rw [ThsAt] at h;subst h
  cases es with
  | nil=>rfl
  | cons e es=>rw [ThsAt] at g;obtain⟨y,zs,z,_⟩:=g;cases z
 | d :: ds,es,ys,h,g=>by
  rw [ThsAt] at h
  obtain⟨y,zs,rfl,h2,h3⟩:=h
  cases es with
  | nil=>rw [ThsAt] at g;cases g
  | cons e es =>
   rw [ThsAt] at g
   obtain⟨y',zs',z,g2,g3⟩:=g
   cases z
   rw [ThAt.uniq h2 g2,ThsAt.uniq h3 g3]
end
theorem Th.fit {H:Hp} {k n:Nat} {v:V} {d:PyData} (t:Th H k n v) (h:ThAt H d v):Fit k n d:=by
 obtain⟨e,g,f⟩:=t
 rw [h.uniq g];exact f
theorem ThsAt.map {α:Type} {H:Hp} {f:α->PyData} {g:α->V}:∀ {xs:List α},(∀ x∈xs,ThAt H (f x) (g x))->ThsAt H (xs.map f) (xs.map g)
 | [],_=>by rw [List.map_nil,List.map_nil,ThsAt]
 | x :: xs,h=>by
  rw [List.map_cons,List.map_cons,ThsAt]
  exact⟨_,_,rfl,h x (.head _),ThsAt.map λy hy=>h y (.tail _ hy)⟩
theorem ThAt.ints {H:Hp} {a:Addr} {ns:List Int} (h:H a=some (.lst (ns.map V.int))):ThAt H (.list (ns.map .int)) (.ref a):=by
 rw [ThAt]
 exact⟨a,_,rfl,h,ThsAt.map λi _=>by rw [ThAt]⟩
end L2
namespace L2
open PySem PyProof.Rows
def shT:PyData->Nat
 | .none=>0 | .bool _=>1 | .int _=>2 | .str _=>3 | .list _=>4 | .tuple _=>5 | .dict _=>6
def tyS (k n s:Nat):Ty:=⟨λG v=>∃ d,ThAt G d v/\Fit k n d/\shT d=s,λs ⟨d,h,f,p⟩=>⟨d,h.same s,f,p⟩⟩
def tyD (d:PyData):Ty:=⟨λG v=>ThAt G d v,λs h=>h.same s⟩
theorem Ths.ofL {H:Hp} {vs:List V} {ds:List PyData} (h:ThsAt H ds vs):∀ {j:Nat} {v:V},vs[j]?=some v->∃ d,ds[j]?=some d/\ThAt H d v:=λe=>h.get e
theorem ThsAt.mem {H:Hp} {vs:List V} {ds:List PyData} (h:ThsAt H ds vs) {v:V} (hv:v∈vs):∃ d∈ds,ThAt H d v:=by
 obtain⟨j,hj,rfl⟩:=List.mem_iff_getElem.mp hv
 obtain⟨d,hd,t⟩:=h.get (List.getElem?_eq_getElem hj)
 exact⟨d,List.mem_of_getElem? hd,t⟩
theorem ThsAt.back {H:Hp}:∀ {ds:List PyData} {vs:List V},ThsAt H ds vs->∀ d∈ds,∃ v∈vs,ThAt H d v
 | [],_,_,d,hd=>by cases hd
 | e :: ds,vs,h,d,hd=>by
  rw [ThsAt] at h
  obtain⟨y,zs,rfl,h1,h2⟩:=h
  rcases List.mem_cons.mp hd with rfl | hd
  ·exact⟨y,.head _,h1⟩
  ·obtain⟨v,hv,t⟩:=ThsAt.back h2 d hd
   exact⟨v,.tail _ hv,t⟩
theorem ThsAt.drop {H:Hp}:∀ (k:Nat) {ds:List PyData} {vs:List V},ThsAt H ds vs->ThsAt H (ds.drop k) (vs.drop k)
 | 0,_,_,h=>h
 | k+1,[],vs,h=>by rw [ThsAt] at h;subst h;rw [List.drop_nil,List.drop_nil,ThsAt]
 | k+1,d :: ds,vs,h=>by
  rw [ThsAt] at h
  obtain⟨y,zs,rfl,h1,h2⟩:=h
  exact ThsAt.drop k h2
theorem ThsAt.take {H:Hp}:∀ (k:Nat) {ds:List PyData} {vs:List V},ThsAt H ds vs->ThsAt H (ds.take k) (vs.take k)
 | 0,_,_,h=>by rw [List.take_zero,List.take_zero,ThsAt]
 | k+1,[],vs,h=>by rw [ThsAt] at h;subst h;rw [List.take_nil,List.take_nil,ThsAt]
 | k+1,d :: ds,vs,h=>by
  rw [ThsAt] at h
  obtain⟨y,zs,rfl,h1,h2⟩:=h
  rw [List.take_succ_cons,List.take_succ_cons,ThsAt]
  exact⟨_,_,rfl,h1,ThsAt.take k h2⟩
theorem ThsAt.rev {H:Hp}:∀ {ds:List PyData} {vs:List V},ThsAt H ds vs->ThsAt H ds.reverse vs.reverse
 | [],vs,h=>by rw [ThsAt] at h;subst h;rw [List.reverse_nil,List.reverse_nil,ThsAt]
 | d :: ds,vs,h=>by
  rw [ThsAt] at h
  obtain⟨y,zs,rfl,h1,h2⟩:=h
  rw [List.reverse_cons,List.reverse_cons]
  exact (ThsAt.rev h2).app (by rw [ThsAt];exact⟨_,_,rfl,h1,by rw [ThsAt]⟩)
theorem ThsAt.rep {H:Hp} {ds:List PyData} {vs:List V}:∀ (c:Nat),ThsAt H ds vs->ThsAt H (List.replicate c ds).flatten (List.replicate c vs).flatten
 | 0,h=>by rw [List.replicate_zero,List.replicate_zero,List.flatten_nil,List.flatten_nil,ThsAt]
 | c+1,h=>by
  rw [List.replicate_succ,List.replicate_succ,List.flatten_cons,List.flatten_cons]
  exact h.app (ThsAt.rep c h)
theorem ThAt.lst {H:Hp} {a:Addr} {ds:List PyData} {vs:List V} (h:H a=some (.lst vs)) (t:ThsAt H ds vs):ThAt H (.list ds) (.ref a):=by rw [ThAt];exact⟨a,vs,rfl,h,t⟩
section
variable {w:View} {Γ:Cxt} {te ta tb:TE} {K:W.Frag} {k n m k' n' m' lo hi lo' hi' s:Nat} {i j:Int} {P P':PyData->Bool} {d e:PyData}
theorem Th.sh {G:Hp} {v:V} (t:Th G k n v) (h:∀ d,ThAt G d v->shT d=s):(tyS k n s).p G v:=let ⟨d,a,f⟩:=t;⟨d,a,f,h d a⟩
theorem Tp.leL (h:Tp w Γ te (tyL k n lo hi)) (hk:k<=k':=by decide) (hn:n<=n':=by decide):Tp w Γ te (tyL k' n' lo hi):=h.wideL (λ_ _ t=>Th.le t hk hn) (Nat.le_refl _) (Nat.le_refl _)
def TpD (w:View) (Γ:Cxt) (ta:TA) (ds:List PyData):Prop:=∀ (σ:St) (H:Hp) (Q:List V->Hp->Prop),w.ok H->Fits Γ (w.v H) σ->(∀ vs H',w.ok H'->Same (w.v H) (w.v H')->ThsAt (w.v H') ds vs->Q vs H')->ta σ H Q
theorem TpD.nil:TpD w Γ WR []:=fun σ H Q o f q=>q [] H o (Same.refl _) (by rw [ThsAt])
theorem TpD.cons {t:TA} {ds:List PyData} (h:Tp w Γ te (tyD d)) (ht:TpD w Γ t ds):TpD w Γ (Ze te t) (d :: ds):=fun σ H Q o f q=>h σ H _ o f λv H1 o1 s1 t1=>ht σ H1 _ o1 (f.same s1) λvs H2 o2 s2 t2=>q (v :: vs) H2 o2 (s1.trans s2) (by rw [ThsAt];exact⟨_,_,rfl,ThAt.same s2 t1,t2⟩)
theorem TpS.nil {TR:Ty}:TpS w Γ zfJ Γ TR:=λD σ H o f qn qr=>qn σ H o (Same.refl _) f
theorem TpS.post {t:TS} {Γ1 Γ2:Cxt} {TR:Ty} (h:TpS w Γ t Γ1 TR) (c:CSub Γ1 Γ2):TpS w Γ t Γ2 TR:=λD σ H o f qn qr=>h D σ H o f (fun σ' H' o' s' f'=>qn σ' H' o' s' (c.fits f')) qr
end
open PySem PySem.Spec PyProof.Rows
section
variable {w:View} {Γ:Cxt} {te ta tb:TE} {lo hi lo' hi':Nat} {i j i' j':Int} {K:W.Frag}
theorem Tp.takeU {T:Ty} {c:Nat} (h:Tp w Γ te (wK T lo hi)):Tp w Γ (tSl (zeS K) te zat (zeN (tC (.int c)))) (wK T 0 c):=fun σ H Q o f q=>h σ H _ o f λv H1 o1 s1 ⟨a,vs,e1,g1,l1,m1,r1⟩=>⟨c,rfl,by
 refine⟨a,vs,e1,SqL.of (w.out g1),λp hp=>?_⟩
 rw [zfp]
 obtain⟨o3,s3,e3⟩:=w.new (.lst (vs.take c)) o1 hp
 exact q (.ref p) _ o3 (s1.trans s3) ⟨p,_,rfl,e3,Nat.zero_le _,by rw [List.length_take];omega,λu hu=>T.mo s3 (r1 u (List.mem_of_mem_take hu))⟩⟩
end
section
variable {X:Cx} {pins:List (Addr×Obj)} {σ:St} {H:Hp} {s:Shared} {h':Heap} {T:Addr} {o:HO} {t':Nat} {fp:List Addr}
theorem Inv.turnedL (I:Inv X pins σ H s) (k:∀ b o,b∉fp->s.heap.get? b=some o->h'.get? b=some o) (hf:∀ b∈fp,W8 X pins H b):Inv X pins σ H { s with heap:=h',toks:=t' }:=by
 have nf:∀ b u,H b=some u->b∉fp:=λb u e hb=>by rw [(hf b hb).1] at e;cases e
 refine I.step (g':=s.gens) (d':=s.drawn) (ch:=fp) (λb hb=>⟨(hf b hb).2.2.2.1,(hf b hb).2.1,(hf b hb).2.2.2.2.1,(hf b hb).2.2.2.2.2⟩) (λb o _ _ hc q _=>k b o hc q) (λb o _ _ hc q _=>⟨o.slots,k b o hc q⟩) (λ_ _ _ _ n=>n)
  (λb o hc q=>⟨o,k b o hc q⟩) (λ_ _ q=>q) (λ_ _ _ q=>q) (λb ps q=>⟨#[],by rw [q];simp⟩) (λm hm=>?_) (λb u q=>?_) I.bare
 ·obtain⟨o,es,ep,ho,r⟩:=hm
  exact⟨o,es,ep,k _ o (λz=>(hf _ z).2.1 rfl) ho,r⟩
 ·refine (I.hok b u q).stay (λc v hc z=>k c v ?_ z) (λ_ z=>z) λ_ _ z=>z
  rcases hc with rfl | hc
  ·exact nf _ _ q
  ·exact nf _ _ hc
theorem Inv.turnedN (I:Inv X pins σ H s) (k:∀ b o,b∉fp->s.heap.get? b=some o->h'.get? b=some o) (hf:∀ b∈fp,W8 X pins H b) (hT:s.heap.objs.size<=T) (new:ObjOk X.prog X.w (upd H T o) h' T o) :
  Inv X pins σ (upd H T o) { s with heap:=h',toks:=t' }:=by
 have hn:H T=none:=I.hok.fresh hT
 have na:∀ b u,H b=some u->b≠T:=λb u e z=>by rw [z,hn] at e;cases e
 have nf:∀ b u,H b=some u->b∉fp:=λb u e hb=>by rw [(hf b hb).1] at e;cases e
 refine I.step (g':=s.gens) (d':=s.drawn) (ch:=fp) (λb hb=>⟨(hf b hb).2.2.2.1,(hf b hb).2.1,(hf b hb).2.2.2.2.1,(hf b hb).2.2.2.2.2⟩) (λb o _ _ hc q _=>k b o hc q) (λb o _ _ hc q _=>⟨o.slots,k b o hc q⟩) (λb o hc q n=>by rw [zy (Nat.ne_of_lt (Nat.lt_of_lt_of_le (Heap.lt_size q) hT))];exact n)
  (λb o hc q=>⟨o,k b o hc q⟩) (λb xs q=>by rw [zy (na b _ q)];exact q) (λb o u q=>by rw [zy (na b _ q)];exact q) (λb ps q=>⟨#[],by rw [zy (na b _ q),q];simp⟩) (λm hm=>?_) (λb u q=>?_) I.bare
 ·obtain⟨o,es,ep,ho,r⟩:=hm
  exact⟨o,es,ep,k _ o (λz=>(hf _ z).2.1 rfl) ho,r⟩
 ·by_cases hb:b=T
  ·subst hb
   rw [zj] at q
   cases q
   exact new
  ·rw [zy hb] at q
   refine (I.hok b u q).stay (λc v hc z=>k c v ?_ z) (λc z=>by rw [zy (na c _ z)];exact z) λc xs z=>by rw [zy (na c _ z)];exact z
   rcases hc with rfl | hc
   ·exact nf _ _ q
   ·exact nf _ _ hc
end
def Itz (K:W.Frag) (a b:Addr):It :=
 ⟨λi H=>∃ xs ys x y,SqL K H a xs/\SqL K H b ys/\xs[i]?=some x/\ys[i]?=some y,λi H v H'=>∃ T x y,v=.ref T/\H T=none/\H'=upd H T (.tup [x,y])/\(∀ xs,SqL K H a xs->xs[i]?=some x)/\∀ ys,SqL K H b ys->ys[i]?=some y,
  λi H=>∃ xs ys,SqL K H a xs/\SqL K H b ys/\(xs.length<=i\/ys.length<=i)⟩
theorem zeM {P:Program} {w:World} {K:W.Frag} {elts:List Expr} {k:Nat} {tp:Pos} (a b z TI TO i1 i2:Addr) (D:ZipApart z TI TO i1 i2 a b):Turn P w K (.Tuple elts k tp) (Itz K a b) [z,TI,TO,i1,i2] z
  (λi h=>IsZip h z TI TO .none/\IsPair h TI (.ref i1) (.ref i2)/\(∃ u v,IsPair h TO u v)/\h.IsListIter i1 a i/\h.IsListIter i2 b i) where
 mem:=by simp
 obj:=λi h st c hc=>by
  obtain⟨h1,h2,⟨u,v,h3⟩,⟨o4,h4,c4,d4⟩,⟨o5,h5,c5,d5⟩⟩:=st
  simp only [List.mem_cons,List.not_mem_nil,or_false] at hc
  rcases hc with rfl | rfl | rfl | rfl | rfl
  ·exact⟨_,h1,λv q=>by have q':Data.fields _=Data.cell v:=q;cases q'⟩
  ·exact⟨_,h2,λv q=>by have q':Data.seq _ _=Data.cell v:=q;cases q'⟩
  ·exact⟨_,h3,λv q=>by have q':Data.seq _ _=Data.cell v:=q;cases q'⟩
  ·exact⟨o4,h4,λv q=>by rw [d4] at q;cases q⟩
  ·exact⟨o5,h5,λv q=>by rw [d5] at q;cases q⟩
 keep:=λi h h' st kk=>by
  obtain⟨h1,h2,⟨u,v,h3⟩,h4,h5⟩:=st
  exact⟨kk z (by simp) _ h1,kk TI (by simp) _ h2,⟨u,v,kk TO (by simp) _ h3⟩,h4.at λo q=>kk i1 (by simp) o q,h5.at λo q=>kk i2 (by simp) o q⟩
 item:=by
  intro X hP hw hK hc i pins s σ H E I hf st hg
  subst hP hw hK
  obtain⟨xs,ys,x,y,hq1,hq2,hx,hy⟩:=hg
  obtain⟨its,rv,p,_⟩:=I.list hq1
  obtain⟨its2,rv2,p2,_⟩:=I.list hq2
  obtain⟨u,hu,ru⟩:=rv.get hx
  obtain⟨v,hv,rv'⟩:=rv2.get hy
  obtain⟨h1,h2,⟨u0,v0,h3⟩,h4,h5⟩:=st
  refine wpAny_pyNext_zip_item D h1 h2 h3 h4 h5 p.isList p2.isList (x:=u) (y:=v) (by simpa using hu) (by simpa using hv) λh' g1 g3 g4 g5 gT hsz hk=>?_
  refine⟨_,rfl,?_⟩
  refine wpAny_letOwnedTupleGo_zip (s:={ s with heap:=h' }) g1 λh'' g1' hs'=>?_
  have hzl:z<s.heap.objs.size:=Heap.lt_size h1
  have gT':h''.get? s.heap.objs.size=some { cls:=.type "tuple",data:=.seq #[u,v] }:=(hs'.2 _ (Nat.ne_of_gt hzl)).trans gT
  have I1:Inv X pins σ (upd H s.heap.objs.size (.tup [x,y])) { s with heap:=h'',toks:=s.toks }:=by
   refine I.turnedN (fp:=[z,TI,TO,i1,i2]) (λc o hc q=>?_) hf (Nat.le_refl _) ⟨by show 2<=sizeLine;decide,[u,v],.cons ru (.cons rv' .nil),_,gT',rfl,0,rfl⟩
   exact (hs'.2 c (λq=>hc (by simp [q]))).trans (hk c o (λq=>hc (by simp [q])) (λq=>hc (by simp [q])) (λq=>hc (by simp [q])) (λq=>hc (by simp [q])) q)
  have hTI:h''.get? TI=some _:=(hs'.2 _ D.TIz).trans (hk _ _ D.TIz D.TITO D.TIi1 D.TIi2 h2)
  refine⟨.ref s.heap.objs.size,_,I1,rfl,⟨s.heap.objs.size,x,y,rfl,I.hok.fresh (Nat.le_refl _),rfl,λzs hz=>by rw [I.list_inj hz hq1];exact hx,λzs hz=>by rw [I.list_inj hz hq2];exact hy⟩,⟨g1',hTI,⟨u,v,(hs'.2 _ D.TOz).trans g3⟩,g4.at λo q=>(hs'.2 _ D.i1z).trans q,g5.at λo q=>(hs'.2 _ D.i2z).trans q⟩,λc hc=>?_⟩
  have hcl:c<s.heap.objs.size:=by
   simp only [List.mem_cons,List.not_mem_nil,or_false] at hc
   obtain⟨o4,h4,_⟩:=h4
   obtain⟨o5,h5,_⟩:=h5
   rcases hc with rfl | rfl | rfl | rfl | rfl
   ·exact hzl
   ·exact Heap.lt_size h2
   ·exact Heap.lt_size h3
   ·exact Heap.lt_size h4
   ·exact Heap.lt_size h5
  rw [zy (Nat.ne_of_lt hcl)]
  exact (hf c hc).1
 done:=by
  intro X hP hw hK hc i pins s σ H E I hf st hg
  subst hP hw hK
  obtain⟨xs,ys,hq1,hq2,hx⟩:=hg
  obtain⟨its,rv,p,_⟩:=I.list hq1
  obtain⟨its2,rv2,p2,_⟩:=I.list hq2
  obtain⟨h1,h2,⟨u0,v0,h3⟩,h4,h5⟩:=st
  have l1:=rv.length
  have l2:=rv2.length
  refine wpAny_pyNext_zip_end (I.ok.hd hc) D h1 h2 h3 h4 h5 p.isList p2.isList (by
   rcases hx with hx | hx
   ·exact .inl (by simp;omega)
   ·exact .inr (by simp;omega)) λh' hk=>⟨rfl,I.turnedL (t':=s.toks) (fp:=[z,TI,TO,i1,i2]) (λc o hc q=>?_) hf⟩
  exact hk c o (λq=>hc (by simp [q])) (λq=>hc (by simp [q])) (λq=>hc (by simp [q])) (λq=>hc (by simp [q])) q
 self:=λ_ _ _ _ _ st h=>wpAny_pyIter_zip st.1 h
section
variable {X:Cx}
theorem boot_zip:bootBuiltins "zip" = some (.type "zip"):=by decide +kernel
def zhn (K:W.Frag) (tl:TA):TI:=fun σ H R=>tl σ H λvs H1=>∃ a b,vs=[.ref a,.ref b]/\(∃ xs,SqL K H1 a xs)/\(∃ ys,SqL K H1 b ys)/\R (Itz K a b) H1
theorem zf9 (K:W.Frag) {elts:List Expr} {k:Nat} {tp:Pos} {a b:Expr} {ta:TA} {p pos:Pos} (hg:Gl X "zip") (hm:X.mg "zip" = none) (ha:PA X [a,b] ta) (he:starEach [a,b] X.env=(false,eval a X.env) :: starEach [b] X.env:=by rfl) (hpl:(backTo pos (starEach [b] X.env)).any (·.1)=false:=by rfl) (ek:X.K=K:=by rfl) :
  PI X (.Tuple elts k tp) (.Call (.Name "zip" p) [a,b] [] pos) (zhn K ta):=by
 subst ek
 intro pins s σ H R I h
 refine Call_ (Zk I hg hm boot_zip (PyProof.Rows.callWith_type1 (thn (ha pos pins s σ H _ I h) λus s1 ⟨vs,H1,I1,r1,q1⟩=>?_) he hpl))
 obtain⟨l1,l2,e,⟨xs,hq1⟩,⟨ys,hq2⟩,q⟩:=q1
 subst e
 obtain⟨u1,u2,rfl,r1,r2⟩:=vals2 r1
 cases r1
 cases r2
 obtain⟨its,rv,pl,_⟩:=I1.list hq1
 obtain⟨its2,rv2,pl2,_⟩:=I1.list hq2
 have b1:l1<s1.heap.objs.size:=by obtain⟨_,e,_⟩:=pl.isList;exact Heap.lt_size e
 have b2:l2<s1.heap.objs.size:=by obtain⟨_,e,_⟩:=pl2.isList;exact Heap.lt_size e
 refine call_zip_2 pl.isList pl2.isList λh' g1 g2 g3 g4 g5 hsz hk=>?_
 refine wpAny_pyIter_zip (s:={ s1 with heap:=h' }) g1 ?_
 have I2:Inv X pins σ H1 { s1 with heap:=h' }:=I1.kept (t':=s1.toks) λb o q=>hk b o q
 refine⟨s1.heap.objs.size+4,[s1.heap.objs.size+4,s1.heap.objs.size+2,s1.heap.objs.size+3,s1.heap.objs.size,s1.heap.objs.size+1],_,_,H1,rfl,I2,zeM l1 l2 _ _ _ _ _ (zipApart_new b1 b2),⟨g1,g2,⟨_,_,g3⟩,g4,g5⟩,λb hb=>?_,q⟩
 have hb2:s1.heap.objs.size<=b:=by
  simp only [List.mem_cons,List.not_mem_nil,or_false] at hb
  rcases hb with rfl | rfl | rfl | rfl | rfl<;>first | exact Nat.le_refl _ | exact Nat.le_add_right _ _
 exact I1.fpOk hb2 (I1.hok.fresh hb2)
theorem zdd {K:W.Frag} {a b:Addr} {xs ys:List V} {ns:List Str} {js:List Nat} {g:TG} {tt:TT} {te:TE} {σ:St} {H:Hp} {Q:VK} (Pv:Nat->List V->Hp->Prop) (hlen:xs.length=ys.length) (h0:Pv 0 [] H) (hl:∀ i zs H,i<=xs.length->Pv i zs H->SqL K H a xs/\SqL K H b ys)
  (hs:∀ i x y zs H T,xs[i]?=some x->ys[i]?=some y->Pv i zs H->H T=none->g (.ref T) (nones ns++xZ js σ) (upd H T (.tup [x,y])) fun σ' H1=>(∃ vs:St,vs.length=ns.length/\σ'=vs++xZ js σ)/\tt σ' H1 λc H2=>if c=true then te σ' H2 λv H3=>Pv (i+1) (zs++[v]) H3 else Pv (i+1) zs H2)
  (hz:∀ i zs H,i<xs.length->Pv i zs H->zs.length<sizeLine)
  (hd:∀ zs H,Pv xs.length zs H->∀ D,H D=none->Q (.ref D) (upd H D (.lst zs))) :
  JD (Itz K a b) ns js g tt te σ Q H:=by
 refine⟨λi m zs H=>m=xs.length-i/\i<=xs.length/\Pv i zs H,⟨xs.length,by simp,Nat.zero_le _,h0⟩,?_⟩
 rintro i m zs H ⟨rfl,hi,p⟩
 obtain⟨q1,q2⟩:=hl i zs H hi p
 by_cases hlt:i<xs.length
 ·have hx:xs[i]?=some xs[i]:=List.getElem?_eq_getElem hlt
  have hy:ys[i]?=some (ys[i]'(by omega)):=List.getElem?_eq_getElem (by omega)
  refine .inr ⟨⟨xs,ys,_,_,q1,q2,hx,hy⟩,hz i zs H hlt p,Pv (i+1),λzs' H' p'=>⟨xs.length-(i+1),by omega,rfl,hlt,p'⟩,λv H' yl=>?_⟩
  obtain⟨T,x,y,rfl,hT,rfl,k1,k2⟩:=yl
  have e1:=k1 xs q1
  have e2:=k2 ys q2
  rw [hx] at e1
  rw [hy] at e2
  cases e1
  cases e2
  exact hs i _ _ zs H T hx hy p hT
 ·have e:i=xs.length:=by omega
  subst e
  exact .inl ⟨⟨xs,ys,q1,q2,.inl (Nat.le_refl _)⟩,hd zs H p⟩
end
section
variable {X:Cx} {tg:Expr}
end
section
variable {X:Cx} {o e:Expr} {es:List Expr} {to:TE} {t:TA} {name:Str} {apos cpos:Pos} {T id:String} {r:V->List V->Hp->VK->Prop}
end
end L2
namespace Lw
def figs (b n:Nat):List Int:=if h:2<=b/\b<=n then figs b (n / b)++[((n % b:Nat):Int)] else [(n:Int)]
termination_by n
decreasing_by exact Nat.div_lt_self (by omega) (by omega)
theorem Yd {b n:Nat} (h:n<b):figs b n=[(n:Int)]:=by
 rw [figs,dif_neg (by omega)]
theorem Uk {b n:Nat} (h2:2<=b) (h:b<=n):figs b n=figs b (n / b)++[((n % b:Nat):Int)]:=by
 rw [figs,dif_pos ⟨h2,h⟩]
def ahead (b r:Nat):List Int:=if r=0 then [] else figs b r
theorem zaa {b n:Nat} (h2:2<=b):figs b n=ahead b (n / b)++[((n % b:Nat):Int)]:=by
 unfold ahead
 by_cases h:n<b
 ·rw [Yd h,if_pos (Nat.div_eq_of_lt h),Nat.mod_eq_of_lt h];rfl
 ·rw [Uk h2 (by omega),if_neg]
  have:=Nat.div_pos (a:=n) (b:=b) (by omega) (by omega)
  omega
theorem zbJ {b r:Nat} (h2:2<=b) (hr:0<r):ahead b r=ahead b (r / b)++[((r % b:Nat):Int)]:=by
 rw [<- zaa h2]
 unfold ahead
 rw [if_neg (by omega)]
theorem Ww {b:Nat} (h2:2<=b):∀ (m n:Nat),n<2^m->(figs b n).length<=m+1
 | 0,n,h=>by rw [Yd (by simp at h;omega)];simp
 | m+1,n,h=>by
  by_cases hn:n<b
  ·rw [Yd hn];simp
  ·rw [Uk h2 (by omega),List.length_append,List.length_singleton]
   have h3:n / b<=n / 2:=Nat.div_le_div_left h2 (by omega)
   have h4:n / 2<2^m:=by rw [Nat.pow_succ] at h;omega
   have:=Ww h2 m (n / b) (by omega)
   omega
theorem zfm {b n:Nat}:figs b n≠[]:=by
 rw [figs]
 split
 ·simp
 ·simp
def tops (b:Nat):Nat->Nat->List Int
 | 0,n=>[((n / b^0:Nat):Int)]
 | k+1,n=>((n / b^(k+1):Nat):Int) :: tops b k (n % b^(k+1))
theorem JR {b:Nat}:∀ (k n:Nat),tops b (k+1) n=tops b k (n / b)++[((n % b:Nat):Int)]
 | 0,n=>by simp [tops]
 | k+1,n=>by
  rw [tops,JR k (n % b^(k+2)),tops,List.cons_append]
  have e:b^(k+1+1)=b*b^(k+1):=by rw [Nat.pow_succ,Nat.mul_comm]
  have e1:n % b^(k+1+1) / b=n / b % b^(k+1):=by rw [e,Nat.mod_mul_right_div_self]
  have e2:n % b^(k+1+1) % b=n % b:=by rw [e,Nat.mod_mul_right_mod]
  have e3:n / b^(k+1+1)=n / b / b^(k+1):=by rw [e,Nat.div_div_eq_div_mul]
  rw [e1,e2,e3]
theorem Xn {b:Nat} (h2:2<=b):∀ (k n:Nat),n<b^(k+1)->(k=0\/b^k<=n)->tops b k n=figs b n
 | 0,n,h,_=>by
  rw [Yd (by simpa using h)];simp [tops]
 | k+1,n,h,hk=>by
  have hge:b^(k+1)<=n:=by
   rcases hk with z | z
   ·omega
   ·exact z
  have hb:b<=n:=Nat.le_trans (by rw [Nat.pow_succ];exact Nat.le_mul_of_pos_left b (Nat.pow_pos (by omega))) hge
  rw [JR,Uk h2 hb]
  have h3:n / b<b^(k+1):=by
   rw [Nat.div_lt_iff_lt_mul (by omega),<- Nat.pow_succ];exact h
  have h4:b^k<=n / b:=by
   rw [Nat.le_div_iff_mul_le (by omega),<- Nat.pow_succ];exact hge
  rw [Xn h2 k (n / b) h3 (.inr h4)]
theorem zaT {b:Nat}:∀ (k n:Nat),(tops b k n).length=k+1
 | 0,n=>rfl
 | k+1,n=>by rw [tops,List.length_cons,zaT k]
structure zht (b:Nat) (ns:List Int):Prop where
 ne:ns≠[]
 len:ns.length<=200
 fig:∀ f∈ns,0<=f/\f<b
 first:ns.head?≠some 0\/ns.length=1
def Uw (st fs:List Int):Bool:=(List.range fs.length).any λk=>decide ((fs.drop k).take st.length=st)
theorem jF {st fs:List Int} (h:st≠[]):Uw st fs=true↔∃ k,(fs.drop k).take st.length=st:=by
 unfold Uw
 simp only [List.any_eq_true,List.mem_range,decide_eq_true_eq]
 constructor
 ·rintro⟨k,_,e⟩;exact⟨k,e⟩
 ·rintro⟨k,e⟩
  refine⟨k,?_,e⟩
  have hl:=congrArg List.length e
  rw [List.length_take,List.length_drop] at hl
  have:0<st.length:=List.length_pos_iff.mpr h
  omega
theorem zca {st fs:List Int} (h:st≠[]):Uw st fs=(List.range ((fs.length:Int)-st.length+1).toNat).any λk=>decide ((fs.drop k).take st.length=st):=by
 rw [Bool.eq_iff_iff,jF h]
 simp only [List.any_eq_true,List.mem_range,decide_eq_true_eq]
 constructor
 ·rintro⟨k,e⟩
  refine⟨k,?_,e⟩
  have hl:=congrArg List.length e
  rw [List.length_take,List.length_drop] at hl
  have:0<st.length:=List.length_pos_iff.mpr h
  omega
 ·rintro⟨k,_,e⟩;exact⟨k,e⟩
def lacks (ls:ZA) (fs:List Int):Bool:=!ls.any λst=>Uw st fs
theorem zef {st fs gs:List Int} (h:st≠[]) (q:Uw st fs=true):Uw st (fs++gs)=true:=by
 rw [jF h] at q ⊢
 obtain⟨k,e⟩:=q
 refine⟨k,?_⟩
 have hl:=congrArg List.length e
 rw [List.length_take,List.length_drop] at hl
 have hp:0<st.length:=List.length_pos_iff.mpr h
 rw [List.drop_append_of_le_length (by omega),List.take_append_of_le_length (by rw [List.length_drop];omega)]
 exact e
theorem JT {ls:ZA} {fs gs:List Int} (ne:∀ l∈ls,l≠[]) (h:lacks ls (fs++gs)=true):lacks ls fs=true:=by
 unfold lacks at *
 rw [Bool.not_eq_true',List.any_eq_false] at h ⊢
 intro l hl q
 exact h l hl (zef (ne l hl) q)
def Yb (ls:ZA) (fs:List Int):Bool:=ls.any λst=>decide (st.take fs.length=fs)
def ye (ls:ZA):List Int->List Int
 | []=>[]
 | x :: fs=>if Yb ls (x :: fs) then x :: fs else ye ls fs
theorem Z9 {ls:ZA}:∀ (i:Nat) (fs:List Int),i<=fs.length->(∀ k,k<i->Yb ls (fs.drop k)=false)->ye ls fs=ye ls (fs.drop i)
 | 0,_,_,_=>rfl
 | i+1,[],h,_=>by simp at h
 | i+1,x :: fs,h,q=>by
  have h0:=q 0 (by omega)
  rw [List.drop_zero] at h0
  rw [ye,if_neg (by rw [h0];decide),List.drop_succ_cons]
  exact Z9 i fs (by simpa using h) λk hk=>by have:=q (k+1) (by omega);rwa [List.drop_succ_cons] at this
theorem zb5 {ls:ZA} {fs:List Int} (h:Yb ls fs=true):ye ls fs=fs:=by
 cases fs with
 | nil=>rfl
 | cons x fs=>rw [ye,if_pos h]
theorem zd7 {ls:ZA} {fs:List Int} {i:Nat} (hi:i<=fs.length) (h:∀ k,k<i->Yb ls (fs.drop k)=false) (q:Yb ls (fs.drop i)=true):ye ls fs=fs.drop i:=by
 rw [Z9 i fs hi h,zb5 q]
theorem zcf {ls:ZA} {fs:List Int} (h:∀ k,k<fs.length->Yb ls (fs.drop k)=false):ye ls fs=[]:=by
 rw [Z9 fs.length fs (Nat.le_refl _) h,List.drop_length];rfl
end Lw
namespace L2
open PySem PySem.Spec PyProof.Rows PySem.W
def zcu (c:Addr) (q:Str):HO:=.ext λh=>h.CodeRec (.ref c) q
def zcC (P:Addr) (pos:Pos) (q:Str) (H:Hp) (c:Addr):Prop:=H P=some (.tbl #[rawInt pos.line,rawInt pos.col,.ref c])/\H c=some (zcu c q)
def Vs (P:Addr) (pos:Pos) (q:Str) (H:Hp):Prop:=H P=some (.tbl #[])\/∃ c,zcC P pos q H c
section
variable {P:Program} {w:World} {K:Frag} {mg:Str->Option Value} {base:Heap} {N ps:List Str} {k:Nat} {A:Around} {outer:List Env} {s:Shared} {H:Hp} {us:List Value} {vs:List V} {Q:VK} {E:XK} {f:Addr} {o:Obj}
 {name qual:Str} {params:Arguments} {body:Expr} {scope:Scope} {pm cdv ct:Value} {args:Args}
theorem zfa (ho:s.heap.get? f=some o) (hd:o.data=.func (kla_fn name qual params body scope [] pm cdv ct)) (hcd:s.heap.CodeRec cdv qual) (S:zB N ps scope) (hr:Room (k+1) A) (e0:Env0 P w K mg base A outer s H)
  (hb:BindsTo s (kla_fn name qual params body scope [] pm cdv ct) args (ps.zip us)) (hl:vs.length=ps.length) (r:Vals vs us)
  (hbody:∃ t,PE (Xv CX0 P w K mg base N qual scope f cdv A outer s H E) body t/\t (start N vs) H Q):codeAny (model P w) A (.call (.ref f) args) (CR CX0 outer P w H s Q E) s:=by
 have lim:s.heap.NoLimit:=e0.mod.nolimit.keeps λb o e=>(e0.bs b o e).1
 have hkind:∀ y∈ps.zip us,scope.names.lookup y.1=some .local\/(scope.names.lookup y.1=some .cell/\((cellsFrom (s.heap.objs.size+1) scope.names []).lookup y.1).isSome=true):=λ⟨n,v⟩ hy=>by
  rcases S.par n (List.of_mem_zip hy).1 with q | q
  ·exact .inl q
  ·exact .inr ⟨q,W.cellsFrom_some _ _ _ (.inl q)⟩
 refine kla_callFunE hr.depth ho hd S.co S.gen rfl hcd (hb _ _ _ _ ?_)
 refine wpAny_newFunctionEnv_cells S.kind hkind λenv he s1 x=>?_
 subst he
 refine⟨lim.keeps x.toInCall.keep,kla_codeExpr ?_⟩
 obtain⟨t,ht,hq⟩:=hbody
 have I:Inv (Xv CX0 P w K mg base N qual scope f cdv A outer s H E) [] (start N vs) H s1:=JQ S hr.hd e0 hl r x
 refine wpAny_mono (ht [] s1 (start N vs) H _ I hq) (λu s' hs=>?_) λe s' hs=>hs
 obtain⟨v,H',J,rv,q⟩:=hs
 exact⟨v,H',J.os,J.bare,J.base,J.hok,rv,q⟩
end
section
variable {X:Cx} {pins:List (Addr×Obj)} {σ:St} {H:Hp} {s:Shared} {params:Arguments} {body:Expr} {scope:Scope} {pos:Pos} {c P:Addr} {Q:Value->Shared->Prop}
theorem zeJ (I:Inv X pins σ H s) (hdef:defaultsOf params X.env=([],[])) (hcl:closureFor scope X.env=pure []) (hcode:X.env.code=.ref c) (hK:codeHdIn X.K c P=true) (hB:X.base.BuiltinsAt X.mg P) (hgP:mainGlobals≠P)
  (hT:Vs P pos (X.env.qual ++ "<lambda>") H)
  (h:∀ (f c':Addr) (H':Hp) (s':Shared) (pm ct:Value),Inv X pins σ H' s'->zcC P pos (X.env.qual ++ "<lambda>") H' c'->s'.heap.get? f=some (kla_obj "<lambda>" (X.env.qual ++ "<lambda>") params body scope [] pm c' ct)->H' f=none->s.heap.objs.size<=f ->
   (∀ b u,b≠P->H b=some u->H' b=some u)->Q (.ref f) s') :
  wpAny (model X.prog X.w) X.A (eval (.Lambda params body scope pos) X.env) Q X.xe s:=by
 have C:CodeHd s.heap c P:=codeHd_of_K I.kIn hK
 have hg:s.heap.Ns mainGlobals X.mg:=I.mod.glob.keeps I.bk
 have hb:s.heap.BuiltinsAt X.mg P:=by
  obtain⟨bm,o,b1,b2,b3,b4,b5,b6,b7,b8⟩:=hB
  exact⟨bm,o,b1,b2,b3,b4,I.bk _ _ b5,b6,b7,b8⟩
 refine kla_eval hdef ?_
 rcases hT with hP | ⟨c',hP,hc'⟩
 ·have hPo:s.heap.get? P=some (tabObj #[]):=I.hok P _ hP
  refine kla_makeFunction hcl I.ok.glob hg hcode C hPo (show TriplesOk [] from trivial) rfl hgP hb λc' ct h' tk hx hge hlt hrec htb=>?_
  have htb':h'.get? P=some (tabObj #[rawInt pos.line,rawInt pos.col,.ref c']):=htb
  have hPc:P≠c':=λz=>by
   have:=Heap.lt_size hPo
   rw [z] at this
   exact absurd (Nat.lt_of_lt_of_le this hge) (Nat.lt_irrefl _)
  have hHc:H c'=none:=I.hok.fresh hge
  have old:∀ b o,b≠P->s.heap.get? b=some o->(h'.push (kla_obj "<lambda>" (X.env.qual ++ "<lambda>") params body scope [] ((X.mg "__name__").getD .none) c' ct)).get? b=some o:=λb o hb e=>Heap.get?_push_of_some _ (hx b o hb e)
  have nP:∀ b,H b=none->b≠P:=λb n z=>by rw [z,hP] at n;cases n
  have up:∀ b u,b≠P->H b=some u->upd (upd H P (.tbl #[rawInt pos.line,rawInt pos.col,.ref c'])) c' (zcu c' (X.env.qual ++ "<lambda>")) b=some u:=λb u hb e=>by
   rw [zy (λz=>by rw [z,hHc] at e;cases e),zy hb];exact e
  have upn:∀ b,b≠P->b≠c'->H b=none->upd (upd H P (.tbl #[rawInt pos.line,rawInt pos.col,.ref c'])) c' (zcu c' (X.env.qual ++ "<lambda>")) b=none:=λb h1 h2 e=>by
   rw [zy h2,zy h1];exact e
  have J:Inv X pins σ (upd (upd H P (.tbl #[rawInt pos.line,rawInt pos.col,.ref c'])) c' (zcu c' (X.env.qual ++ "<lambda>"))) { s with heap:=h'.push (kla_obj "<lambda>" (X.env.qual ++ "<lambda>") params body scope [] ((X.mg "__name__").getD .none) c' ct),toks:=tk }:=by
   refine I.un ⟨λb o e n _ _=>old b o (nP b n) e,λb o e n _ _=>⟨o.slots,old b o (nP b n) e⟩,λb o e n _=>upn b (nP b n) (Nat.ne_of_lt (Nat.lt_of_lt_of_le (Heap.lt_size e) hge)) n,λb o e _=>?_,λb xs e=>up b _ (λz=>by rw [z,hP] at e;cases e) e,λb o u e=>up b _ (λz=>by rw [z,hP] at e;cases e) e,λb ps e=>?_⟩ ?_
   ·by_cases hb:b=P
    ·rw [hb];exact⟨_,Heap.get?_push_of_some _ htb'⟩
    ·exact⟨o,old b o hb e⟩
   ·by_cases hb:b=P
    ·rw [hb] at e ⊢
     rw [hP] at e
     cases e
     exact⟨#[rawInt pos.line,rawInt pos.col,.ref c'],by rw [zy hPc,zj];rfl⟩
    ·exact⟨#[],by rw [up b _ hb e];simp⟩
   ·intro b u e
    by_cases hbc:b=c'
    ·subst hbc
     rw [zj] at e
     cases e
     obtain⟨c2,oc,vs,t,e1,e2,e3,e4⟩:=id hrec
     cases e1
     have q:=Heap.get?_push_of_some (kla_obj "<lambda>" (X.env.qual ++ "<lambda>") params body scope [] ((X.mg "__name__").getD .none) b ct) e2
     refine⟨⟨b,oc,vs,t,rfl,q,e3,e4⟩,⟨oc,q⟩,λh1 h2 ⟨c3,o3,v3,t3,a1,a2,a3,a4⟩ k=>?_⟩
     cases a1
     exact⟨b,o3,v3,t3,rfl,k _ a2,a3,a4⟩
    ·rw [zy hbc] at e
     by_cases hbP:b=P
     ·rw [hbP] at e ⊢
      rw [zj] at e
      cases e
      exact Heap.get?_push_of_some _ htb'
     ·rw [zy hbP] at e
      refine (I.hok b u e).stay (λd v hd q=>old d v ?_ q) (λd q=>?_) λd xs q=>?_
      ·rcases hd with rfl | hd
       ·exact hbP
       ·intro z;rw [z,hP] at hd;cases hd
      ·exact up d _ (λz=>by rw [z,hP] at q;cases q) q
      ·exact up d _ (λz=>by rw [z,hP] at q;cases q) q
  have hsz:s.heap.objs.size<=h'.objs.size:=Nat.le_of_lt (Nat.lt_of_le_of_lt hge hlt)
  refine h _ c' _ _ _ ct J ⟨by rw [zy hPc,zj],zj⟩ (Heap.get?_push_size _ rfl) ?_ hsz up
  exact upn _ (Nat.ne_of_gt (Nat.lt_of_lt_of_le (Heap.lt_size hPo) hsz)) (Nat.ne_of_gt hlt) (I.hok.fresh hsz)
 ·have hPo:s.heap.get? P=some (tabObj #[rawInt pos.line,rawInt pos.col,.ref c']):=I.hok P _ hP
  refine kla_makeFunctionHit hcl I.ok.glob hg hcode C hPo (show TriplesOk [rawInt pos.line,rawInt pos.col,.ref c'] from trivial) (cv:=.ref c') ?_ hb λct h' tk hk hsz=>?_
  ·have:=codeAmong_snoc (pos:=pos) (c:=.ref c') [] trivial rfl
   exact this
  ·exact h _ c' H _ _ ct (I.kept (t':=tk) λb u e=>Heap.get?_push_of_some _ (hk b u e)) ⟨hP,hc'⟩ (Heap.get?_push_size _ rfl) (I.hok.fresh hsz) hsz (λb u _ e=>e)
end
end L2
namespace HT
def vA (a b:List Int):Bool:=if a.length=b.length then lexLt a b else decide (a.length<b.length)
theorem WT (a:List Int):vA a a=false:=by unfold vA;rw [if_pos rfl,yJ]
theorem V3 (a b c:List Int) (h1:vA a b=true) (h2:vA b c=true):vA a c=true:=by
 unfold vA at *
 by_cases e1:a.length=b.length
 ·rw [if_pos e1] at h1
  by_cases e2:b.length=c.length
  ·rw [if_pos e2] at h2
   rw [if_pos (e1.trans e2)]
   exact wQ a b c h1 h2
  ·rw [if_neg e2] at h2
   rw [if_neg (by omega)]
   have:=of_decide_eq_true h2
   exact decide_eq_true (by omega)
 ·rw [if_neg e1] at h1
  have h1':=of_decide_eq_true h1
  by_cases e2:b.length=c.length
  ·rw [if_neg (by omega)]
   exact decide_eq_true (by omega)
  ·rw [if_neg e2] at h2
   have:=of_decide_eq_true h2
   rw [if_neg (by omega)]
   exact decide_eq_true (by omega)
theorem zcm (a b:List Int) (h:a≠b):vA b a=!vA a b:=by
 unfold vA
 by_cases e:a.length=b.length
 ·rw [if_pos e,if_pos e.symm,Z8 a b h]
 ·rw [if_neg e,if_neg (Ne.symm e),Bool.eq_iff_iff]
  simp
  omega
theorem zhv {ls:ZA} (nd:ls.Nodup):Ord (λi j=>vA (ls.getD i []) (ls.getD j [])) ls.length:=by
 have ge:∀ i,(h:i<ls.length)->ls.getD i []=ls[i]:=λi h=>by rw [List.getD_eq_getElem?_getD,List.getElem?_eq_getElem h];rfl
 refine⟨λi j k _ _ _ h1 h2=>V3 _ _ _ h1 h2,λi j hi hj hij h=>?_,λi j hi hj h=>?_⟩
 ·have ne:ls.getD i []≠ls.getD j []:=λz=>by
   rw [ge i hi,ge j hj] at z
   exact hij ((List.getElem_inj nd).mp z)
  have:=zcm _ _ ne
  rw [h] at this
  exact this
 ·cases e:vA (ls.getD j []) (ls.getD i []) with
  | false=>rfl
  | true =>
   have:=V3 _ _ _ h e
   rw [WT] at this
   cases this
end HT
namespace L2
open PySem PySem.Spec PyProof.Rows PySem.W
section
variable {X:Cx} {pins:List (Addr×Obj)} {σ:St} {H:Hp} {s:Shared}
theorem zb9 (I:Inv X pins σ H s) {p z:Addr} {n:Int} (h:H p=some (.tup [.int n,.ref z])):∃ (t:Tok) (o:Obj) (m:Nat),s.heap.get? p=some o/\o.cls=.type "tuple"/\o.data=.seq #[.int n t,.ref z] m:=by
 obtain⟨_,its,r,o,e,hc,m,hd⟩:=I.hok p _ h
 cases r with
 | cons r1 r2 =>
  cases r2 with
  | cons r3 r4 =>
   cases r4
   obtain⟨t,rfl⟩:=r1
   cases r3
   exact⟨t,o,m,e,hc,hd⟩
theorem zfX (I:Inv X pins σ H s) {A:Around} {p q za zb:Addr} {as bs:List Int} (hp:H p=some (.tup [.int as.length,.ref za])) (hq:H q=some (.tup [.int bs.length,.ref zb])) (ha:H za=some (.lst (as.map V.int))) (hb:H zb=some (.lst (bs.map V.int)))
  (hu:A.units+2<cLine) {Q:Bool->Shared->Prop} {E:Value->Shared->Prop} (h:Q (HT.vA as bs) s):wpAny (model X.prog X.w) A (keyLt' (tuples' true) (.ref p) (.ref q)) Q E s:=by
 obtain⟨t,o,m,e,_,hd⟩:=zb9 I hp
 obtain⟨t',o',m',e',_,hd'⟩:=zb9 I hq
 refine kat_lt e hd e' hd' ?_
 refine kat_cons (wpAny_eqBool_int ?_)
 unfold HT.vA at h
 by_cases hl:as.length=bs.length
 ·rw [if_pos hl] at h
  have e1:((as.length:Int) == (bs.length:Int))=true:=by rw [hl];simp
  rw [e1]
  refine kat_yes (kat_cons ?_)
  refine (Us I (A:=A) 1 (t:=yK as) (u:=yK bs) (v:=.ref za) (w:=.ref zb) (by rw [uO];exact Nat.le_refl _) (TrAt.ints (SqL.of ha)) (TrAt.ints (SqL.of hb)) rfl rfl (by omega)).eq _ _ _ _ ?_
  rw [ql]
  by_cases hab:as=bs
  ·rw [decide_eq_true hab]
   refine kat_yes (kat_nil ?_)
   rw [hab,HT.yJ] at h
   exact h
  ·rw [decide_eq_false hab]
   refine kat_no (kat_one _ _ ?_)
   obtain⟨its,r1,p1,_⟩:=I.list (SqL.of ha)
   obtain⟨its2,r2,p2,_⟩:=I.list (SqL.of hb)
   exact HT.VN p1.isList p2.isList (by simpa using intsAre_of r1) (by simpa using intsAre_of r2) (by omega) h
 ·rw [if_neg hl] at h
  have e1:((as.length:Int) == (bs.length:Int))=false:=by simp;omega
  rw [e1]
  refine kat_no ?_
  refine oneLt_int ?_
  have:decide ((as.length:Int)<(bs.length:Int))=decide (as.length<bs.length):=by
   rw [Bool.eq_iff_iff];simp
  rw [this]
  exact h
end
end L2
set_option maxHeartbeats 4000000
namespace L2
open PySem PySem.Spec PyProof.Rows PySem.W
section
variable {X:Cx} {pins:List (Addr×Obj)} {σ:St} {H:Hp} {s:Shared}
structure zdp (X:Cx) (pins:List (Addr×Obj)) (n:Nat) (a:Addr):Prop where
 s0:X.s₀.heap.objs.size<=a
 lo:a≠X.env.locals
 ce:∀ x c,X.env.cells.lookup x=some c->c≠a
 fs:a∉X.fs
 pn:∀ p∈X.pn++pins,p.1≠a
 ge:n<=a
theorem Inv.late (I:Inv X pins σ H s) {a:Addr} (h:s.heap.objs.size<=a):zdp X pins s.heap.objs.size a :=
 ⟨Nat.le_trans I.sz h,Nat.ne_of_gt (Nat.lt_of_lt_of_le I.lt h),λx c e z=>by
  obtain⟨v,o,ho,_⟩:=I.cell x c e
  rw [z] at ho
  exact absurd (Nat.lt_of_lt_of_le (Heap.lt_size ho) h) (Nat.lt_irrefl _),I.nofs h,λp hp z=>by
  obtain⟨e,_⟩:=I.pin p hp
  rw [z] at e
  exact absurd (Nat.lt_of_lt_of_le (Heap.lt_size e) h) (Nat.lt_irrefl _),h⟩
theorem Inv.tell {a:Addr} {xs:List V} {its:List Value} {n:Nat} {h':Heap} {t':Nat} (I:Inv X pins σ H s) {m:Nat} (L:zdp X pins m a) (hn:H a=none) (k:∀ b o,b≠a->s.heap.get? b=some o->h'.get? b=some o)
  (hv:Vals xs its) (hz:xs.length<=sizeLine) (ha:h'.get? a=some (seqObj "list" its.toArray n)):Inv X pins σ (upd H a (.lst xs)) { s with heap:=h',toks:=t' }:=by
 have na:∀ b u,H b=some u->b≠a:=λb u e z=>by rw [z,hn] at e;cases e
 refine I.step (g':=s.gens) (d':=s.drawn) (ch:=[a]) (λb hb=>?_) (λb o _ _ hc e _=>k b o (λz=>hc (by simp [z])) e) (λb o _ _ hc e _=>⟨o.slots,k b o (λz=>hc (by simp [z])) e⟩) (λb o hc e n=>by rw [zy (λz=>hc (by simp [z]))];exact n)
  (λb o hc e=>⟨o,k b o (λz=>hc (by simp [z])) e⟩) (λb xs e=>by rw [zy (na b _ e)];exact e) (λb o u e=>by rw [zy (na b _ e)];exact e) (λb ps e=>⟨#[],by rw [zy (na b _ e),e];simp⟩) (λm hm=>?_) (λb u e=>?_) I.bare
 ·have e:b=a:=by simpa using hb
  subst e
  exact⟨.inr L.s0,L.lo,L.ce,L.pn⟩
 ·obtain⟨o,es,ep,ho,r⟩:=hm
  exact⟨o,es,ep,k _ o (Ne.symm L.lo) ho,r⟩
 ·by_cases hb:b=a
  ·subst hb
   rw [zj] at e
   cases e
   exact⟨hz,its,n,hv,ha⟩
  ·rw [zy hb] at e
   refine (I.hok b u e).stay (λc v hc q=>k c v ?_ q) (λc q=>by rw [zy (na c _ q)];exact q) λc xs q=>by rw [zy (na c _ q)];exact q
   rcases hc with rfl | hc
   ·exact hb
   ·exact na c _ hc
def zf1 (H:Hp) (zs:ZB) (pl:List Addr):Prop:=∀ j z,zs[j]?=some z->j<pl.length->∃ p,pl[j]?=some p/\H p=some (.tup [.int z.2.length,.ref z.1])
theorem kat_tups (I:Inv X pins σ H s):∀ pl:List Addr,(∀ p∈pl,∃ (n:Int) (z:Addr),H p=some (.tup [.int n,.ref z]))->∃ fs:List Value,KatTups s.heap (pl.map Value.ref) fs/\fs.length=pl.length/\∀ v∈fs,∃ n t,v=Value.int n t
 | [],_=>⟨[],KatTups.nil,rfl,λv hv=>by cases hv⟩
 | p :: pl,h=>by
  obtain⟨fs,h1,h2,h3⟩:=kat_tups I pl λq hq=>h q (.tail _ hq)
  obtain⟨n,z,e⟩:=h p (.head _)
  obtain⟨t,o,m,e1,e2,e3⟩:=zb9 I e
  refine⟨.int n t :: fs,KatTups.cons e1 e2 e3 rfl h1,by simp [h2],λv hv=>?_⟩
  rcases List.mem_cons.mp hv with rfl | hv
  ·exact⟨n,t,rfl⟩
  ·exact h3 v hv
theorem zdQ {zs:ZB} {f kS a:Addr} {fo:Obj} {e1:Nat} {A:Around} {P:PySem.Fin->Shared->Prop} {E:Value->Shared->Prop} {n:Nat}
  (I:Inv X ((f,fo) :: (a,seqObj "list" #[] e1) :: pins) σ H s) (La:zdp X pins n a) (Lk:zdp X ((f,fo) :: (a,seqObj "list" #[] e1) :: pins) n kS) (hkS:s.heap.get? kS=some (seqObj "list" #[] 0)) (hkn:H kS=none)
  (hz:∀ z∈zs,H z.1=some (.lst (z.2.map V.int))) (nd:(zs.map (·.2)).Nodup) (h60:zs.length<=60) (hu:A.units+2<cLine)
  (turn:∀ (H':Hp) (s':Shared) (pins':List (Addr×Obj)) (z:Addr×List Int),Inv X pins' σ H' s'->(f,fo)∈pins'->Same H H'->z∈zs ->
   wpAny (model X.prog X.w) A (call (.ref f) [.ref z.1]) (EP X pins' σ λv H2=>∃ p,v=.ref p/\H' p=none/\H2=upd H' p (.tup [.int z.2.length,.ref z.1])) (λ_ _=>False) s')
  (done:∀ (H':Hp) (s':Shared) (zs':ZB),Inv X pins σ (upd H' a (.lst (zs'.map λz=>V.ref z.1))) s'->Same H H'->H' a=none->zs'.Perm zs->zs'.Pairwise (λx y=>HT.vA x.2 y.2=true)->P (.done (.ret .none)) s') :
  wpAny (model X.prog X.w) A (ksk_rest a (.ref f) false (zs.map λz=>Value.ref z.1).toArray e1 (.ref kS)) P E s:=by
 unfold ksk_rest
 refine wpAny_bind (wpAny_rule ?_)
 first
  | rw [List.forIn_toArray]
  | (rw [<- Array.forIn_toList];simp only [List.toList_toArray])
  | rw [<- Array.forIn_toList]
 refine wpAny_bind (ksk_fold (λi s'=>∃ (H':Hp) (pl:List Addr) (e:Nat),Inv X ((f,fo) :: (a,seqObj "list" #[] e1) :: pins) σ H' s'/\s'.heap.get? kS=some (seqObj "list" (pl.map Value.ref).toArray e)/\H' kS=none/\pl.length=i/\zf1 H' zs pl/\Same H H') (zs.map λz=>Value.ref z.1) 0 s
  ⟨H,[],0,I,hkS,hkn,rfl,λj z _ h=>by simp at h,Same.refl _⟩ ?step ?fin)
 case step =>
  rintro j x s' hx ⟨H',pl,e,I',hk',hkn',hpl,hkeys,sm⟩
  rw [Nat.zero_add] at hpl ⊢
  rw [List.getElem?_map] at hx
  obtain⟨z,hzj,ez⟩:=Option.map_eq_some_iff.mp hx
  subst ez
  have hzm:=List.mem_of_getElem? hzj
  have hj:j<zs.length:=(List.getElem?_eq_some_iff.mp hzj).1
  have I2:Inv X ((kS,seqObj "list" (pl.map Value.ref).toArray e) :: (f,fo) :: (a,seqObj "list" #[] e1) :: pins) σ H' s':=I'.pins_of λp hp=>by
   rcases List.mem_cons.mp hp with rfl | hp
   ·exact⟨hk',hkn',Lk.lo,Lk.fs,λv z=>by cases z⟩
   ·exact I'.pin p (List.mem_append_right _ hp)
  refine wpAny_bind (wpAny_attempt (wpAny_mono (turn H' s' _ z I2 (by simp) sm hzm) (λv s'' he=>?_) λ_ _ hF=>hF.elim))
  obtain⟨v',H2,I3,rv,p,rfl,hpf,rfl⟩:=he
  cases rv
  have pk:=I3.pin (kS,seqObj "list" (pl.map Value.ref).toArray e) (List.mem_append_right _ (.head _))
  have I4:Inv X ((f,fo) :: (a,seqObj "list" #[] e1) :: pins) σ (upd H' p (.tup [.int z.2.length,.ref z.1])) s'':=I3.pins_of λq hq=>I3.pin q (List.mem_append_right _ (.tail _ hq))
  obtain⟨c2,hc2⟩:∃ c2,(s''.heap.update kS (Obj.mapSeq (·.push (.ref p)))).get? kS=some (seqObj "list" ((pl.map Value.ref).toArray.push (.ref p)) c2):=⟨_,get?_update_seq pk.1 (·.push (.ref p))⟩
  have hsl:(pl.map Value.ref).toArray.size<=60:=by rw [List.size_toArray,List.length_map];omega
  dsimp only
  refine wpAny_bind (listUpdate_at pk.1 rfl ?_ (Nat.le_trans hsl (by decide)) (by rw [Array.size_push];exact Nat.le_trans (Nat.succ_le_succ hsl) (by decide)))
  refine wpAny_pure ⟨rfl,_,pl++[p],c2,I4.turned (t':=s''.toks) (λb o hb q=>?_) pk.2.1 Lk.lo (.inr Lk.s0) Lk.ce Lk.pn,?_,pk.2.1,by rw [List.length_append,List.length_singleton,hpl],λi y hy hi=>?_,sm.trans (zm hpf)⟩
  ·rw [Heap.get?_update_other _ _ (Ne.symm hb)];exact q
  ·rw [hc2];simp
  ·by_cases hlt:i<pl.length
   ·obtain⟨p',e1',e2'⟩:=hkeys i y hy hlt
    exact⟨p',by rw [List.getElem?_append_left hlt];exact e1',by rw [zy (zx e2' hpf)];exact e2'⟩
   ·have ei:i=pl.length:=by rw [List.length_append,List.length_singleton] at hi;omega
    have ej:i=j:=by omega
    rw [ej,hzj] at hy
    cases hy
    exact⟨p,by rw [ei];simp,zj⟩
 case fin =>
  rintro s' ⟨H',pl,e,I',hk',hkn',hpl,hkeys,sm⟩
  rw [Nat.zero_add,List.length_map] at hpl
  try dsimp only
  refine wpAny_bind (listItems_at hk' rfl ?_)
  have ga:=I'.pin (a,seqObj "list" #[] e1) (List.mem_append_right _ (.tail _ (.head _)))
  have Ip:Inv X pins σ H' s':=I'.pins_of λq hq=>I'.pin q (by
   rcases List.mem_append.mp (List.mem_append_right X.pn hq) with h | h
   ·exact List.mem_append_left _ h
   ·exact List.mem_append_right _ (.tail _ (.tail _ h)))
  have nka:kS≠a:=λz=>Lk.pn (a,seqObj "list" #[] e1) (List.mem_append_right _ (.tail _ (.head _))) z.symm
  have tail:∀ (st:SortSt) (zs':ZB),(arrOf st).map (·.2)=(zs'.map λz=>Value.ref z.1).toArray->failedOf st=none->zs'.Perm zs->zs'.Pairwise (λx y=>HT.vA x.2 y.2=true) ->
    wpAny (model X.prog X.w) A (ksk_tail a false e1 (.ref kS) st) P E s':=by
   intro st zs' hout hfl pm pw
   have hlen:zs'.length<=60:=by rw [pm.length_eq];exact h60
   have s1:=Heap.SameBut.update s'.heap kS (Obj.mapSeq λ_=>(#[]:Array Value))
   have na1:(s'.heap.update kS (Obj.mapSeq λ_=>(#[]:Array Value))).get? a=some (seqObj "list" #[] e1):=(s1.2 a nka.symm).trans ga.1
   obtain⟨c2,hc2⟩:∃ c2,((s'.heap.update kS (Obj.mapSeq λ_=>(#[]:Array Value))).update a (Obj.mapSeq λ_=>(zs'.map λz=>Value.ref z.1).toArray)).get? a=some (seqObj "list" (zs'.map λz=>Value.ref z.1).toArray c2) :=
    ⟨_,get?_update_seq na1 λ_=>(zs'.map λz=>Value.ref z.1).toArray⟩
   have I5:Inv X pins σ H' { s' with heap:=s'.heap.update kS (Obj.mapSeq λ_=>(#[]:Array Value)),toks:=s'.toks }:=Ip.turned (λb o hb q=>by rw [Heap.get?_update_other _ _ (Ne.symm hb)];exact q) hkn' Lk.lo (.inr Lk.s0) Lk.ce (λq hq=>Lk.pn q (by
    rcases List.mem_append.mp hq with h | h
    ·exact List.mem_append_left _ h
    ·exact List.mem_append_right _ (.tail _ (.tail _ h))))
   have I6:=I5.tell (t':=s'.toks) (h':=(s'.heap.update kS (Obj.mapSeq λ_=>(#[]:Array Value))).update a (Obj.mapSeq λ_=>(zs'.map λz=>Value.ref z.1).toArray)) La ga.2.1 (λb o hb q=>by rw [Heap.get?_update_other _ _ (Ne.symm hb)];exact q) (Xi zs') (by rw [List.length_map];exact Nat.le_trans hlen (by decide)) hc2
   unfold ksk_tail
   try dsimp only
   refine wpAny_bind (listUpdate_at hk' rfl ?_ (by rw [List.size_toArray,List.length_map,hpl];exact Nat.le_trans h60 (by decide)) (Nat.zero_le _))
   refine wpAny_bind (wpAny_letGo ?_)
   refine wpAny_bind (seqEpoch_at na1 rfl ?_)
   simp only [Bool.false_eq_true,if_false]
   rw [hout]
   refine wpAny_bind (listUpdate_at na1 rfl ?_ (Nat.zero_le _) (by rw [List.size_toArray,List.length_map];exact Nat.le_trans hlen (by decide)))
   rw [hfl]
   simp only [bne_self_eq_false,Bool.false_eq_true,if_false]
   exact wpAny_pure (done H' _ zs' I6 sm ga.2.1 pm pw)
  unfold ksk_end
  try dsimp only
  simp only [Bool.false_eq_true,if_false]
  have hvl:(zs.map λz=>Value.ref z.1).toArray.size=zs.length:=by rw [List.size_toArray,List.length_map]
  by_cases h2:(zs.map λz=>Value.ref z.1).toArray.size<2
  ·rw [if_pos h2,if_pos h2]
   refine wpAny_bind (wpAny_pure ?_)
   rw [StateT.run_pure]
   refine wpAny_bind (wpAny_pure ?_)
   try dsimp only
   refine tail _ zs ?_ rfl (List.Perm.refl _) ?_
   ·show (((pl.map Value.ref).toArray.zip (zs.map λz=>Value.ref z.1).toArray).map (·.2))=_
    apply Array.toList_inj.mp
    rw [Array.toList_map,Array.toList_zip,List.map_snd_zip (by simp [hpl])]
   ·rw [hvl] at h2
    match zs,h2 with
    | [],_=>exact .nil
    | [_],_=>exact List.pairwise_singleton _ _
  ·rw [if_neg h2,if_neg h2]
   rw [hvl] at h2
   have hkl:(pl.map Value.ref).length=(zs.map λz=>Value.ref z.1).length:=by rw [List.length_map,List.length_map,hpl]
   have hk2:∀ j,j<zs.length->∃ p,pl[j]?=some p/\H' p=some (.tup [.int (zs.getD j (0,[])).2.length,.ref (zs.getD j (0,[])).1])/\zs.getD j (0,[])∈zs:=λj hj=>by
    have e:zs.getD j (0,[])=zs[j]:=by rw [List.getD_eq_getElem?_getD,List.getElem?_eq_getElem hj];rfl
    rw [e]
    obtain⟨p,e1,e2⟩:=hkeys j zs[j] (List.getElem?_eq_getElem hj) (by omega)
    exact⟨p,e1,e2,List.getElem_mem hj⟩
   obtain⟨fs,ht,hfl,hfi⟩:=kat_tups I' pl λp hp=>by
    obtain⟨j,hj,rfl⟩:=List.getElem_of_mem hp
    obtain⟨p',e1,e2,_⟩:=hk2 j (by omega)
    rw [List.getElem?_eq_getElem hj] at e1
    cases e1
    exact⟨_,_,e2⟩
   refine wpAny_bind (kat_kind (T:=.type "int") ht (by omega) (λv hv=>?_) (by decide) ?_)
   ·obtain⟨n,t,rfl⟩:=hfi v hv
    exact Looks.of_pure rfl
   have ls2:(zs.map (·.2)).length=zs.length:=List.length_map ..
   have ask:(kas_sort (zs.map λz=>Value.ref z.1).length).kasWp (kas_ask X.prog X.w A (tuples' true) (pl.map Value.ref)) (λp s''=>s''=s'/\(HT.Pm zs.length p/\HT.Up (λi j=>HT.vA ((zs.map (·.2)).getD i []) ((zs.map (·.2)).getD j [])) p zs.length)) s':=by
    rw [List.length_map]
    have O:=HT.zhv nd
    rw [ls2] at O
    refine HT.KW.wp (n:=zs.length) (λi j C hi hj hC=>?_) _ (HT.zfx O (by omega))
    obtain⟨p,e1,e2,e3⟩:=hk2 i hi
    obtain⟨q,d1,d2,d3⟩:=hk2 j hj
    have ei:(zs.map (·.2)).getD i []=(zs.getD i (0,[])).2:=by rw [List.getD_eq_getElem?_getD,List.getD_eq_getElem?_getD,List.getElem?_map,List.getElem?_eq_getElem hi];rfl
    have ej:(zs.map (·.2)).getD j []=(zs.getD j (0,[])).2:=by rw [List.getD_eq_getElem?_getD,List.getD_eq_getElem?_getD,List.getElem?_map,List.getElem?_eq_getElem hj];rfl
    have gi:(pl.map Value.ref).getD i Value.none=.ref p:=by rw [List.getD_eq_getElem?_getD,List.getElem?_map,e1];rfl
    have gj:(pl.map Value.ref).getD j Value.none=.ref q:=by rw [List.getD_eq_getElem?_getD,List.getElem?_map,d1];rfl
    unfold kas_ask
    rw [gi,gj]
    refine zfX I' e2 d2 (sm _ _ (hz _ e3)) (sm _ _ (hz _ d3)) hu ?_
    try dsimp only at hC
    rw [ei,ej] at hC
    exact hC
   have eT:(Value.type "int" != Value.type "tuple")=true:=by decide
   rw [eT]
   refine wpAny_bind (wpAny_mono (kat_run (ks:=pl.map Value.ref) (vs:=zs.map λz=>Value.ref z.1) (Q:=λst' s''=>∃ p:Array Nat,s''=s'/\arrOf st'=p.map (kas_item ((pl.map Value.ref).toArray.zip (zs.map λz=>Value.ref z.1).toArray))/\failedOf st'=none/\HT.Pm zs.length p/\HT.Up (λi j=>HT.vA ((zs.map (·.2)).getD i []) ((zs.map (·.2)).getD j [])) p zs.length)
    hkl (by rw [List.length_map];omega) (by rw [List.length_map];omega) (λp st' s'' _ a2 a3 a4=>⟨p,a4.1,a2,a3,a4.2⟩) ask) ?_ λ_ _ e=>e)
   rintro⟨⟨⟩,st'⟩ s'' ⟨p,rfl,har,hfl2,hpm,hup⟩
   try dsimp only
   have hout:=kat_snds hkl har
   have hpl2:p.toList.length=zs.length:=by rw [hpm.pm.length_eq,List.length_range]
   refine tail st' (p.toList.map λi=>zs.getD i (0,[])) ?_ hfl2 (HT.Vy _ zs hpm.pm) ?_
   ·rw [hout,List.map_map]
    congr 1
    refine List.map_congr_left λi hi=>?_
    have hi':=List.mem_range.mp (hpm.pm.mem_iff.mp hi)
    show _=Value.ref (zs.getD i (0,[])).1
    rw [List.getD_eq_getElem?_getD,List.getD_eq_getElem?_getD,List.getElem?_map,List.getElem?_eq_getElem hi'];rfl
   ·rw [List.pairwise_map,List.pairwise_iff_getElem]
    intro i j hi hj hij
    have q1:=hup i j hij (by omega)
    have e1:p.getD i 0=p.toList[i]:=by
     have:i<p.size:=by rw [hpm.sz];omega
     simp [Array.getD,this]
    have e2:p.getD j 0=p.toList[j]:=by
     have:j<p.size:=by rw [hpm.sz];omega
     simp [Array.getD,this]
    rw [e1,e2] at q1
    have m1:=List.mem_range.mp (hpm.pm.mem_iff.mp (List.getElem_mem hi))
    have m2:=List.mem_range.mp (hpm.pm.mem_iff.mp (List.getElem_mem hj))
    have ei:(zs.map (·.2)).getD p.toList[i] []=(zs.getD p.toList[i] (0,[])).2:=by rw [List.getD_eq_getElem?_getD,List.getD_eq_getElem?_getD,List.getElem?_map,List.getElem?_eq_getElem m1];rfl
    have ej:(zs.map (·.2)).getD p.toList[j] []=(zs.getD p.toList[j] (0,[])).2:=by rw [List.getD_eq_getElem?_getD,List.getD_eq_getElem?_getD,List.getElem?_map,List.getElem?_eq_getElem m2];rfl
    try dsimp only at q1
    rw [ei,ej] at q1
    exact q1
theorem zbb {zs:ZB} {f l:Addr} {fo:Obj} {Q:VK} (I:Inv X ((f,fo) :: pins) σ H s) (hl:H l=some (.lst (zs.map λz=>V.ref z.1))) (hz:∀ z∈zs,H z.1=some (.lst (z.2.map V.int))) (nd:(zs.map (·.2)).Nodup) (h60:zs.length<=60)
  (hu:X.A.in1.in1.units+2<cLine)
  (turn:∀ (H':Hp) (s':Shared) (pins':List (Addr×Obj)) (z:Addr×List Int),Inv X pins' σ H' s'->(f,fo)∈pins'->Same H H'->z∈zs ->
   wpAny (model X.prog X.w) X.A.in1.in1 (call (.ref f) [.ref z.1]) (EP X pins' σ λv H2=>∃ p,v=.ref p/\H' p=none/\H2=upd H' p (.tup [.int z.2.length,.ref z.1])) (λ_ _=>False) s')
  (q:∀ (D:Addr) (H':Hp) (zs':ZB),H D=none->Same H H'->H' D=none->zs'.Perm zs->zs'.Pairwise (λx y=>HT.vA x.2 y.2=true)->Q (.ref D) (upd H' D (.lst (zs'.map λz=>V.ref z.1)))) :
  wpAny (model X.prog X.w) X.A (call (.builtin "sorted") [.ref l] [(Str.ofString "key",.ref f)]) (EP X pins σ Q) X.xe s:=by
 obtain⟨its,r1,p1,_⟩:=I.list (SqL.of hl)
 have e1:=Vm r1
 subst e1
 have hvl:(zs.map λz=>Value.ref z.1).length=zs.length:=List.length_map ..
 have hsl:(zs.map λz=>Value.ref z.1).length<=sizeLine:=by rw [hvl,sizeLine_eq];omega
 refine call_function_entry_kw kind_sorted plain_sorted entry_sorted (ksk_s1 _ _) ?_
 unfold Builtin.«sorted»
 refine wpAny_bind (m:=checkCount "sorted" 1 1 _) (wpAny_pure (wpAny_bind (collect_list p1.isList (wpAny_bind (wpAny_newList ?_ hsl)) hsl)))
 generalize hB:(s.heap.push (seqObj "list" #[] 0)).update s.heap.objs.size (Obj.mapSeq (·++(zs.map λz=>Value.ref z.1).toArray))=B
 have hsz:B.objs.size=s.heap.objs.size+1:=by rw [<- hB,Heap.size_update,size_push']
 have keep:∀ b o,s.heap.get? b=some o->(B.push (seqObj "list" (zs.map λz=>Value.ref z.1).toArray 0)).get? b=some o:=λb o q=>by
  have hlt:b<s.heap.objs.size:=Heap.lt_size q
  rw [Heap.get?_push_ne _ _ _ (by rw [hsz];exact Nat.ne_of_lt (Nat.lt_succ_of_lt hlt)),<- hB,Heap.get?_update_ne _ _ _ _ (Nat.ne_of_lt hlt),Heap.get?_push_ne _ _ _ (Nat.ne_of_lt hlt)];exact q
 have hoL:(B.push (seqObj "list" (zs.map λz=>Value.ref z.1).toArray 0)).get? (s.heap.objs.size+1)=some (seqObj "list" (zs.map λz=>Value.ref z.1).toArray 0):=by
  rw [<- hsz];exact Heap.get?_push_size _ rfl
 have hszB:(B.push (seqObj "list" (zs.map λz=>Value.ref z.1).toArray 0)).objs.size=s.heap.objs.size+2:=by rw [size_push',hsz]
 show wpAny _ _ _ _ _ { s with heap:=B.push (seqObj "list" (zs.map λz=>Value.ref z.1).toArray 0) }
 dsimp only
 rw [hsz]
 refine wpAny_bind (wpAny_holding (wpAny_call_entry_kw slot_list_sort ⟨_,hoL,rfl⟩ entry_list_sort ?body (ksk_l1 _ _)))
 case body =>
  show wpAny (model X.prog X.w) X.A.in1.in1 (Builtin.«list.sort» ⟨[.ref (s.heap.objs.size+1)],[(Str.ofString "key",.ref f)]⟩) _ _ _
  rw [ksk_t1]
  unfold ksk_tree
  generalize hG:B.push (seqObj "list" (zs.map λz=>Value.ref z.1).toArray 0)=G at keep hoL hszB
  generalize hLd:s.heap.objs.size+1=L at hoL
  have hLG:L<G.objs.size:=Heap.lt_size hoL
  obtain⟨e1,ho1⟩:∃ e1,(G.update L (Obj.mapSeq λ_=>(#[]:Array Value))).get? L=some (seqObj "list" #[] e1):=⟨_,get?_update_seq hoL λ_=>#[]⟩
  refine wpAny_bind (listItems_at (s:={ s with heap:=G }) hoL rfl ?_)
  refine wpAny_bind (listUpdate_at (s:={ s with heap:=G }) hoL rfl ?_ (by rw [List.size_toArray];exact hsl) (Nat.zero_le _))
  refine wpAny_bind (seqEpoch_at ho1 rfl ?_)
  refine wpAny_bind (wpAny_newTuple ?_ (by show (zs.map λz=>Value.ref z.1).length<=_;exact hsl))
  refine wpAny_bind (wpAny_newList ?_ (Nat.zero_le _))
  refine wpAny_holding ?_
  generalize hM:(G.update L (Obj.mapSeq λ_=>(#[]:Array Value))).push (seqObj "tuple" (zs.map λz=>Value.ref z.1).toArray 0)=M
  have hMs:M.objs.size=s.heap.objs.size+3:=by rw [<- hM,size_push',Heap.size_update,hszB]
  have hkS:(M.push (seqObj "list" #[] 0)).get? (s.heap.objs.size+3)=some (seqObj "list" #[] 0):=by rw [<- hMs];exact Heap.get?_push_size _ rfl
  have hL2:(M.push (seqObj "list" #[] 0)).get? L=some (seqObj "list" #[] e1):=Heap.get?_push_of_some _ (by rw [<- hM];exact Heap.get?_push_of_some _ ho1)
  have keep2:∀ b o,s.heap.get? b=some o->(M.push (seqObj "list" #[] 0)).get? b=some o:=λb o q=>by
   have hlt:b<s.heap.objs.size:=Heap.lt_size q
   refine Heap.get?_push_of_some _ ?_
   rw [<- hM]
   refine Heap.get?_push_of_some _ ?_
   rw [Heap.get?_update_ne _ _ _ _ (by rw [<- hLd];exact Nat.ne_of_lt (Nat.lt_succ_of_lt hlt))]
   exact keep b o q
  have La0:=I.late (a:=L) (by rw [<- hLd];exact Nat.le_succ _)
  have Lk0:=I.late (a:=s.heap.objs.size+3) (by omega)
  have I1:Inv X ((f,fo) :: pins) σ H { s with heap:=M.push (seqObj "list" #[] 0),toks:=s.toks }:=I.kept keep2
  have hLn:H L=none:=I.hok.fresh (by rw [<- hLd];exact Nat.le_succ _)
  have I2:Inv X ((f,fo) :: (L,seqObj "list" #[] e1) :: pins) σ H { s with heap:=M.push (seqObj "list" #[] 0),toks:=s.toks }:=I1.pins_of λp hp=>by
   rcases List.mem_cons.mp hp with rfl | hp
   ·exact I1.pin _ (List.mem_append_right _ (.head _))
   ·rcases List.mem_cons.mp hp with rfl | hp
    ·exact⟨hL2,hLn,La0.lo,La0.fs,λv z=>by cases z⟩
    ·exact I1.pin p (List.mem_append_right _ (.tail _ hp))
  have La:zdp X pins s.heap.objs.size L:=⟨La0.s0,La0.lo,La0.ce,La0.fs,λp hp=>La0.pn p (by
   rcases List.mem_append.mp hp with h | h
   ·exact List.mem_append_left _ h
   ·exact List.mem_append_right _ (.tail _ h)),La0.ge⟩
  have Lk:zdp X ((f,fo) :: (L,seqObj "list" #[] e1) :: pins) s.heap.objs.size (s.heap.objs.size+3):=⟨Lk0.s0,Lk0.lo,Lk0.ce,Lk0.fs,λp hp=>by
   rcases List.mem_append.mp hp with h | h
   ·exact Lk0.pn p (List.mem_append_left _ h)
   ·rcases List.mem_cons.mp h with rfl | h
    ·exact Lk0.pn _ (List.mem_append_right _ (.head _))
    ·rcases List.mem_cons.mp h with rfl | h
     ·show L≠_
      rw [<- hLd];omega
     ·exact Lk0.pn p (List.mem_append_right _ (.tail _ h)),Lk0.ge⟩
  rw [hMs]
  refine zdQ (s:={ s with heap:=M.push (seqObj "list" #[] 0) }) I2 La Lk hkS (I.hok.fresh (by omega)) hz nd h60 hu turn λH' s' zs' I' sm hn pm pw=>⟨_,rfl,?_⟩
  exact wpAny_pure ⟨_,rfl,.ref L,_,I',rfl,q L H' zs' hLn sm hn pm pw⟩
end
section
variable {X:Cx} {σ:St} {H:Hp} {s:Shared} {params:Arguments} {body:Expr} {scope:Scope} {pos lpos kpos p:Pos} {c P:Addr} {y:Str} {e:Expr} {te:TE}
theorem zdK {pins:List (Addr×Obj)} {f c':Addr} {q:Str} {pm ct:Value} {k:Nat} {v:V} {u:Value} {Q:VK} (I:Inv X pins σ H s) (hf:(f,kla_obj "<lambda>" q params body scope [] pm c' ct)∈pins) (hL:zcC P lpos q H c') (S:zB [y] [y] scope) (hr:Room (k+1) X.A.in1.in1)
  (hb:∀ (pm ct:Value) (u:Value),bindArgs (kla_fn "<lambda>" q params body scope [] pm (.ref c') ct) ⟨[u],[]⟩=pure [(y,u)]) (rv:RelV v u)
  (hbody:∃ t,PE (Xv CX0 X.prog X.w X.K X.mg X.base [y] q scope f (.ref c') X.A.in1.in1 X.stack s H E0) body t/\t (start [y] [v]) H Q) :
  wpAny (model X.prog X.w) X.A.in1.in1 (call (.ref f) [u]) (EP X pins σ Q) (λ_ _=>False) s:=by
 have pf:=I.pin _ (List.mem_append_right X.pn hf)
 have hcd:s.heap.CodeRec (.ref c') q:=(I.hok c' _ hL.2).1
 refine wpAny_call (codeAny_mono (zfa (k:=k) (N:=[y]) (ps:=[y]) (us:=[u]) (vs:=[v]) (E:=E0) pf.1 rfl hcd S hr I.env0.in1.in1 (BindsTo.of_eq (hb pm ct u)) rfl (.cons rv .nil) hbody) λr s' hq=>?_)
 cases r with
 | error e=>exact hq
 | ok fl =>
  cases fl with
  | ret u=>exact I.after hq
  | next=>exact False.elim hq
  | brk=>exact False.elim hq
  | cont=>exact False.elim hq
def zer (P:Addr) (lpos:Pos) (q:Str) (te:TE):TE:=fun σ H Q=>te σ H λx H1=>∃ (l:Addr) (zs:ZB),x=.ref l/\H1 l=some (.lst (zs.map λz=>V.ref z.1))/\(∀ z∈zs,H1 z.1=some (.lst (z.2.map V.int)))/\(zs.map (·.2)).Nodup/\zs.length<=60/\Vs P lpos q H1 /\
 ∀ (D:Addr) (zs':ZB) (H2:Hp),H1 D=none->H2 D=none->(∀ b u,b≠P->H1 b=some u->H2 b=some u)->Vs P lpos q H2->zs'.Perm zs->zs'.Pairwise (λx y=>HT.vA x.2 y.2=true)->Q (.ref D) (upd H2 D (.lst (zs'.map λz=>V.ref z.1)))
theorem zbI {k:Nat} (he:PE X e te) (hg:Gl X "sorted") (hm:X.mg "sorted" = none) (hr:Room (k+3) X.A) (hdef:defaultsOf params X.env=([],[])) (hcl:closureFor scope X.env=pure []) (hcode:X.env.code=.ref c) (hK:codeHdIn X.K c P=true) (hB:X.base.BuiltinsAt X.mg P) (hgP:mainGlobals≠P)
  (S:zB [y] [y] scope) (hb:∀ (pm cd ct:Value) (u:Value),bindArgs (kla_fn "<lambda>" (X.env.qual ++ "<lambda>") params body scope [] pm cd ct) ⟨[u],[]⟩=pure [(y,u)])
  (hbody:∀ (f c':Addr) (s:Shared) (H:Hp) (z:Addr×List Int),H z.1=some (.lst (z.2.map V.int))->∃ t,PE (Xv CX0 X.prog X.w X.K X.mg X.base [y] (X.env.qual ++ "<lambda>") scope f (.ref c') X.A.in1.in1 X.stack s H E0) body t /\
   t (start [y] [.ref z.1]) H λv H2=>∃ p,v=.ref p/\H p=none/\H2=upd H p (.tup [.int z.2.length,.ref z.1]))
  (hs1:starEach [e] X.env=[(false,eval e X.env)]:=by rfl) :
  PE X (.Call (.Name "sorted" p) [e] [⟨some "key",.Lambda params body scope lpos,kpos⟩] pos) (zer P lpos (X.env.qual ++ "<lambda>") te):=by
 intro pins s σ H Q I h
 refine wpAny_Call_Name_kw (Zk I hg hm boot_sorted ?_ (by decide) (by decide))
 have ha:PA X [e] (Ze te WR):=zf he zg hs1
 refine callWith_kw (thn (ha pos pins s σ H (λvs H1=>match vs with
  | [x]=>∃ (l:Addr) (zs:ZB),x=.ref l/\H1 l=some (.lst (zs.map λz=>V.ref z.1))/\(∀ z∈zs,H1 z.1=some (.lst (z.2.map V.int)))/\(zs.map (·.2)).Nodup/\zs.length<=60/\Vs P lpos (X.env.qual ++ "<lambda>") H1 /\
   ∀ (D:Addr) (zs':ZB) (H2:Hp),H1 D=none->H2 D=none->(∀ b u,b≠P->H1 b=some u->H2 b=some u)->Vs P lpos (X.env.qual ++ "<lambda>") H2->zs'.Perm zs->zs'.Pairwise (λx y=>HT.vA x.2 y.2=true)->Q (.ref D) (upd H2 D (.lst (zs'.map λz=>V.ref z.1)))
  | _=>False) I h) λus s1 ⟨vs,H1,I1,r1,q1⟩=>?_) (by rw [hs1];rfl) (by rw [hs1];rfl)
 match vs,q1 with
 | [x],q1 =>
  obtain⟨l,zs,rfl,hl,hz,nd,h60,hT,q⟩:=q1
  obtain⟨u,rfl,rx⟩:=vals1 r1
  cases rx
  show wpAny _ _ (evalAll ((do let v <- eval (.Lambda params body scope lpos) X.env;standAt pos;pure v) :: [])) _ _ s1
  refine wpAny_evalAll_cons (wpAny_bind (zeJ I1 hdef hcl hcode hK hB hgP hT λf c' H2 s2 pm ct I2 hL hfo hfn hsz up=>wpAny_bind (wpAny_standAt (wpAny_pure ?_))))
  refine wpAny_evalAll_nil ?_
  have Lf:=I1.late hsz
  have I3:Inv X ((f,kla_obj "<lambda>" (X.env.qual ++ "<lambda>") params body scope [] pm c' ct) :: pins) σ H2 s2:=I2.pins_of λp hp=>by
   rcases List.mem_cons.mp hp with rfl | hp
   ·exact⟨hfo,hfn,Lf.lo,Lf.fs,λv z=>by cases z⟩
   ·exact I2.pin p (List.mem_append_right _ hp)
  have hPl:∀ b xs,H1 b=some (.lst xs)->b≠P:=λb xs e z=>by
   rw [z] at e
   rcases hT with t | ⟨c2,t,_⟩
   ·rw [t] at e;cases e
   ·rw [t] at e;cases e
  have hr2:Room (k+1) X.A.in1.in1:=(hr.in1).in1
  show wpAny _ _ (call (.builtin "sorted") [.ref l] [(Str.ofString "key",.ref f)]) _ _ s2
  refine zbb I3 (up _ _ (hPl _ _ hl) hl) (λz hzm=>up _ _ (hPl _ _ (hz z hzm)) (hz z hzm)) nd h60 (by have:=hr2.units;omega) (λH' s' pins' z I' hf sm hzm=>?_) λD H' zs' hD sm hn pm pw=>?_
  ·have hL':zcC P lpos (X.env.qual ++ "<lambda>") H' c':=⟨sm _ _ hL.1,sm _ _ hL.2⟩
   exact zdK (v:=.ref z.1) I' hf hL' S hr2 (λpm ct u=>hb pm (.ref c') ct u) rfl (hbody f c' s' H' z (sm _ _ (up _ _ (hPl _ _ (hz z hzm)) (hz z hzm))))
  ·refine q D zs' H' ?_ hn (λb u hb e=>sm _ _ (up b u hb e)) (.inr ⟨c',sm _ _ hL.1,sm _ _ hL.2⟩) pm pw
   cases e:H1 D with
   | none=>rfl
   | some u =>
    by_cases hDP:D=P
    ·rw [hDP,hL.1] at hD;cases hD
    ·rw [up D u hDP e] at hD;cases hD
end
theorem zdn {P:Program} {w:World} {K:Frag} {mg mb:Str->Option Value} {CX:CXT} {k:Nat} {fa a c T:Addr} {fd:FuncData} {x:Str} {sp:Sp} {s₁:Shared} {vs:List Value} {ns:List Int}
  (KX:K.In s₁.heap) (hns:s₁.heap.Ns mainGlobals mg) (hb:s₁.heap.Ns builtinsNs mb) (hbb:∀ x:Str,x ≠ "__name__"->mb x=bootBuiltins x) (hlim:s₁.heap.NoLimit) (hg:s₁.gens=#[])
  (hBM:∃ bm ob,mg "__builtins__" = some (.ref bm)/\bm≠builtinsNs/\s₁.heap.get? bm=some ob/\ob.cls=.type "module"/\ob.dict=some builtinsNs/\ob.data=.plain)
  (hT:s₁.heap.get? T=some (tabObj #[])) (hKT:K.lookup T=none) (hcT:codeHdIn K c T=true)
  (ha:s₁.heap.get? a=some { cls:=.type "list",data:=.seq vs.toArray }) (hi:IntsAre vs ns) (hl:ns.length<=sizeLine) (hr:Room k callerA)
  (F:∀ base:Heap,K.In base->base.Ns mainGlobals mg->base.BuiltinsAt mg T->FnOk P w K mg base CX k fa fd [x] sp) (hbind:∀ (s:Shared) (u:Value),BindsTo s fd ⟨[u],[]⟩ [(x,u)])
  (hsp:∀ H:Hp,H T=some (.tbl #[])->SqL K H a (ns.map V.int)->sp [.ref a] H (λv _=>v=.bl true) λ_ _ _=>False)
  (hCX:∀ H e s',CX [] H s₁ (λ_ _ _=>False) e s'->False) :
  codeAny (model P w) callerA (.call (.ref fa) ⟨[.ref a],[]⟩) (λr s'=>r=.ok (.ret (.bool true))/\OldK s₁.heap s'.heap/\s'.os=s₁.os/\AllBare s'.gens) s₁:=by
 have rv:=JC hi
 have lenV:=hi.length
 have tabT:s₁.heap.TableAt c T #[]:=(codeHd_of_K KX hcT).tab hT
 have core:∀ H:Hp,H T=some (.tbl #[])->SqL K H a (ns.map V.int)->HOk P w H s₁.heap->(∀ b,H b≠none->b=a\/b=T)->(∀ b,b≠T->H b=none\/∃ o xs,H b=some (.frz o (.lst xs)))->(∀ b,H b≠none->K.lookup b=none) ->
   codeAny (model P w) callerA (.call (.ref fa) ⟨[.ref a],[]⟩) (λr s'=>r=.ok (.ret (.bool true))/\OldK s₁.heap s'.heap/\s'.os=s₁.os/\AllBare s'.gens) s₁:=by
  intro H hHT hS hok hA hO hK
  have Vb:∀ {b:Addr} {o:Obj},s₁.heap.get? b=some o->H b=none->(Je s₁.heap H).get? b=some o:=λe n=>zdG e n
  have noA:∀ {b:Addr} {o:Obj},s₁.heap.get? b=some o->(∀ xs n,o.data≠.seq xs n)->(∀ ps,o.data≠.fields ps)->H b=none:=λ{b o} e d1 d2=>by
   cases q:H b with
   | none=>rfl
   | some u =>
    rcases hA b (by rw [q];simp) with e' | e'
    ·subst e'
     rw [ha] at e;cases e
     exact absurd rfl (d1 _ _)
    ·subst e'
     rw [hT] at e;cases e
     exact absurd rfl (d2 _)
  have nsK:∀ {b:Addr} {m:Str->Option Value},s₁.heap.Ns b m->(Je s₁.heap H).Ns b m:=λ{b m} ⟨o,es,ep,e,d,r⟩=>⟨o,es,ep,Vb e (noA e (λxs n z=>by rw [d] at z;cases z) (λps z=>by rw [d] at z;cases z)),d,r⟩
  have hKb:K.In (Je s₁.heap H):=λb o e=>Vb (KX b o e) (by
   cases q:H b with
   | none=>rfl
   | some u=>rw [hK b (by rw [q];simp)] at e;cases e)
  have hM:Mod K mg (Je s₁.heap H):=⟨hKb,nsK hns,⟨mb,nsK hb,hbb⟩,let ⟨mc,h1,h2⟩:=hlim;⟨mc,nsK h1,h2⟩⟩
  have hBA:(Je s₁.heap H).BuiltinsAt mg T:=by
   obtain⟨bm,ob,b1,b2,b3,b4,b5,b6⟩:=hBM
   refine⟨bm,ob,b1,b2,λz=>?_,λz=>?_,Vb b3 (noA b3 (λxs n z=>by rw [b6] at z;cases z) (λps z=>by rw [b6] at z;cases z)),b4,b5,b6⟩
   ·obtain⟨o,es,ep,e,hd,_⟩:=hns
    rw [z,e] at b3;cases b3
    rw [hd] at b6;cases b6
   ·rw [z,hT] at b3;cases b3;cases b4
  have e0:Env0 P w K mg (Je s₁.heap H) callerA [] s₁ H:=⟨rfl,hM,λb o e=>zfo e,Nat.le_of_eq (zdf _ _),trivial,λb hb=>absurd (show b∈([]:List Addr) from hb) (by simp),hok,.of_eq hg⟩
  refine codeAny_mono ((F _ hKb (nsK hns) hBA).run callerA [] s₁ H ⟨[.ref a],[]⟩ [.ref a] [.ref a] _ _ hr e0 (hbind s₁ (.ref a)) (.cons rfl .nil) (hsp H hHT hS)) λr s' h=>?_
  cases r with
  | error e=>exact (hCX H e s' h).elim
  | ok fl =>
   cases fl with
   | next=>exact False.elim h
   | brk=>exact False.elim h
   | cont=>exact False.elim h
   | ret u =>
    obtain⟨v,H',os,bare,un,hok',r',q⟩:=h
    have q':v=.bl true:=q
    subst q'
    obtain rfl:u=Value.bool true:=r'
    have oth:∀ b o,b≠T->s₁.heap.get? b=some o->s'.heap.get? b=some o:=λb o hbT e=>by
     cases q:H b with
     | none=>exact un.keep b o e q (by intro z;exact absurd (show b∈([]:List Addr) from z) (by simp)) (by simp)
     | some u =>
      rcases hO b hbT with z | ⟨ob,xs,z⟩
      ·rw [q] at z;cases z
      ·have z2:=un.frzs b ob _ z
       obtain⟨e1,_⟩:=hok b _ z
       obtain⟨e2,_⟩:=hok' b _ z2
       rw [e] at e1;cases e1
       exact e2
    obtain⟨more,hm⟩:=un.tbls T _ hHT
    have hTm:s'.heap.get? T=some { cls:=.none,data:=.fields (#[]++more) }:=hok' T _ hm
    refine⟨rfl,⟨λb o e=>?_,λb o e=>?_⟩,os,bare⟩
    ·by_cases hbT:b=T
     ·subst hbT
      rw [hT] at e;cases e
      exact .inr (.inl ⟨tabT.isCodeTable,rfl,#[],more,rfl,hTm⟩)
     ·exact .inl (oth b o hbT e)
    ·by_cases hbT:b=T
     ·subst hbT;exact⟨_,hTm⟩
     ·exact⟨o,oth b o hbT e⟩
 have hTa:T≠a:=λz=>by rw [z,ha] at hT;cases hT
 cases hk:K.lookup a with
 | some o =>
  have e:=KX a o hk
  rw [ha] at e
  cases e
  refine core (λb=>if b=T then some (.tbl #[]) else none) (if_pos rfl) (.inr ⟨_,vs.toArray,_,hk,rfl,rfl,rfl,by rw [List.size_toArray,lenV];exact hl,by simpa using rv⟩) (λb u z=>?_) (λb z=>?_) (λb hb=>.inl (if_neg hb)) λb z=>?_
  ·by_cases hb:b=T
   ·have z':=(if_pos hb).symm.trans z
    cases z'
    subst hb
    exact hT
   ·have z':=(if_neg hb).symm.trans z
    cases z'
  ·by_cases hb:b=T
   ·exact .inr hb
   ·exact absurd (if_neg hb) z
  ·by_cases hb:b=T
   ·rw [hb];exact hKT
   ·exact absurd (if_neg hb) z
 | none =>
  refine core (λb=>if b=a then some (.frz { cls:=.type "list",data:=.seq vs.toArray } (.lst (ns.map V.int))) else if b=T then some (.tbl #[]) else none) (by rw [if_neg hTa,if_pos rfl]) (.inl (.inr ⟨{ cls:=.type "list",data:=.seq vs.toArray },if_pos rfl⟩)) (λb u z=>?_) (λb z=>?_) (λb hb=>?_) λb z=>?_
  ·by_cases hb:b=a
   ·have z':=(if_pos hb).symm.trans z
    cases z'
    subst hb
    exact⟨ha,by rw [List.length_map];exact hl,vs,_,rv,ha⟩
   ·have z':=(if_neg hb).symm.trans z
    by_cases hb2:b=T
    ·have z2:=(if_pos hb2).symm.trans z'
     cases z2
     subst hb2
     exact hT
    ·have z2:=(if_neg hb2).symm.trans z'
     cases z2
  ·by_cases hb:b=a
   ·exact .inl hb
   ·by_cases hb2:b=T
    ·exact .inr hb2
    ·exact absurd (by rw [if_neg hb,if_neg hb2]) z
  ·by_cases hba:b=a
   ·exact .inr ⟨_,_,if_pos hba⟩
   ·exact .inl (by rw [if_neg hba,if_neg hb])
  ·by_cases hb:b=a
   ·rw [hb];exact hk
   ·by_cases hb2:b=T
    ·rw [hb2];exact hKT
    ·exact absurd (by rw [if_neg hb,if_neg hb2]) z
theorem zgw {l:W.OpenLaw} {n k:Nat} {q:Program} {loose:List Str} {XP:(Str->Option Value)->Heap->Prop} {YP:World->Heap->Prop} {d:DefRec} {K:Params->W.Frag} {sp:World->Sp} {x:Str} {c T:Addr}
  (hn:l.most=some n) (hn2:n<=sizeLine) (hdf:d.params.defaults=[]) (hr:Room k callerA)
  (hY:∀ (w:World) (h:Heap),YP w h->(K w.params).In h) (hYT:∀ (w:World) (h:Heap),YP w h->h.get? T=some (tabObj #[])) (hKT:∀ w:World,(K w.params).lookup T=none) (hcT:∀ w:World,codeHdIn (K w.params) c T=true)
  (F:∀ (w:World) (mg:Str->Option Value) (fa:Addr) (h:Heap),(K w.params).In h->h.Ns mainGlobals mg->mg d.name=some (.ref fa) ->
   ∃ fd:FuncData,(∀ (s:Shared) (u:Value),BindsTo s fd ⟨[u],[]⟩ [(x,u)]) /\
    ∀ base:Heap,(K w.params).In base->base.Ns mainGlobals mg->base.BuiltinsAt mg T->FnOk l.prog w (K w.params) mg base CX0 k fa fd [x] (sp w))
  (hsp:∀ (w:World) (H:Hp) (a:Addr) (ns:List Int),ns.length<=n->H T=some (.tbl #[])->SqL (K w.params) H a (ns.map V.int)->sp w [.ref a] H (λv _=>v=.bl true) λ_ _ _=>False) :
  W.WalkO q loose XP YP l.row.toRowW d [] (λf vs=>PySem.call f vs):=by
 refine Att.za1 hn hdf λw s₀ s₁ mg mb fa o pm cd doc a vs ns G Y ho hd hcd hmg hobj hints hlen hg=>?_
 have KX:=hY w _ Y
 obtain⟨fd,hb,hF⟩:=F w mg fa _ KX G.T.g hmg
 exact zdn KX G.T.g G.T.b G.T.builtins G.T.nolimit hg G.T.bmain (hYT w _ Y) (hKT w) (hcT w) hobj hints (Nat.le_trans hlen hn2) hr hF hb (λH hO hS=>hsp w H a ns hlen hO hS) λH e s' h=>h
end L2
namespace Lw
def zf0 (ls:ZA) (x:List Int):Prop:=x=[]\/∃ st∈ls,∃ k,1<=k/\k<st.length/\x=st.take k/\lacks ls x=true
structure StandsL (ls:ZA) (xs:ZA):Prop where
 mem:∀ x,x∈xs↔zf0 ls x
 up:xs.Pairwise λx y=>HT.vA x y=true
theorem StandsL.nodup {ls xs:ZA} (h:StandsL ls xs):xs.Nodup:=by
 refine h.up.imp λ{x y} q z=>?_
 rw [z,HT.WT] at q
 cases q
theorem zd1 {ls:ZA} (h:∀ st∈ls,st.length<=4) {x:List Int} (q:zf0 ls x):x.length<=3:=by
 rcases q with rfl | ⟨st,hst,k,h1,h2,rfl,_⟩
 ·decide
 ·have:=h st hst
  rw [List.length_take];omega
theorem zdu {ls:ZA} {y:List Int} {x:Int} (h:Yb ls (y++[x])=true):Yb ls y=true:=by
 unfold Yb at *
 rw [List.any_eq_true] at h ⊢
 obtain⟨st,hst,q⟩:=h
 refine⟨st,hst,decide_eq_true ?_⟩
 have q:=of_decide_eq_true q
 have e:=congrArg (List.take y.length) q
 rw [List.take_left,List.take_take,List.length_append] at e
 rw [Nat.min_eq_left (by omega)] at e
 exact e
theorem YB {ls:ZA}:∀ fs:List Int,∃ j,j<=fs.length/\ye ls fs=fs.drop j/\(∀ k,k<j->Yb ls (fs.drop k)=false)/\(j<fs.length->Yb ls (fs.drop j)=true)
 | []=>⟨0,Nat.le_refl _,rfl,λk hk=>by omega,λh=>by simp at h⟩
 | x :: fs=>by
  by_cases h:Yb ls (x :: fs)=true
  ·exact⟨0,Nat.zero_le _,by rw [ye,if_pos h];rfl,λk hk=>by omega,λ_=>h⟩
  ·obtain⟨j,h1,h2,h3,h4⟩:=YB (ls:=ls) fs
   refine⟨j+1,by rw [List.length_cons];omega,by rw [ye,if_neg h,h2,List.drop_succ_cons],λk hk=>?_,λhj=>by rw [List.drop_succ_cons];exact h4 (by rw [List.length_cons] at hj;omega)⟩
   cases k with
   | zero=>rw [List.drop_zero];simpa using h
   | succ k=>rw [List.drop_succ_cons];exact h3 k (by omega)
theorem X6 {ls:ZA} (fs:List Int) (x:Int):ye ls (ye ls fs++[x])=ye ls (fs++[x]):=by
 obtain⟨j,h1,h2,h3,_⟩:=YB (ls:=ls) fs
 rw [h2,Z9 j (fs++[x]) (by rw [List.length_append];omega) (λk hk=>?_),List.drop_append_of_le_length h1]
 rw [List.drop_append_of_le_length (by omega)]
 cases e:Yb ls (fs.drop k++[x]) with
 | false=>rfl
 | true=>rw [<- h3 k hk,zdu e]
theorem zc0 {st fs:List Int} (ne:st≠[]) {j:Nat} (h:Uw st (fs.drop j)=true):Uw st fs=true:=by
 rw [jF ne] at h ⊢
 obtain⟨k,e⟩:=h
 exact⟨j+k,by rw [<- List.drop_drop];exact e⟩
theorem U7 {ls:ZA} (ne:∀ l∈ls,l≠[]) {fs:List Int} (j:Nat) (h:lacks ls fs=true):lacks ls (fs.drop j)=true:=by
 unfold lacks at *
 rw [Bool.not_eq_true',List.any_eq_false] at h ⊢
 intro st hst q
 exact h st hst (zc0 (ne st hst) q)
theorem X8 {ls:ZA} (ne:∀ l∈ls,l≠[]) {fs:List Int} (x:Int) (h:lacks ls fs=true):lacks ls (ye ls fs++[x])=lacks ls (fs++[x]):=by
 obtain⟨j,h1,h2,h3,_⟩:=YB (ls:=ls) fs
 rw [h2,<- List.drop_append_of_le_length h1]
 rw [Bool.eq_iff_iff]
 constructor
 ·intro q
  unfold lacks at *
  rw [Bool.not_eq_true',List.any_eq_false] at h q ⊢
  intro st hst hs
  rw [jF (ne st hst)] at hs
  obtain⟨k,e⟩:=hs
  have hp:0<st.length:=List.length_pos_iff.mpr (ne st hst)
  have hl:=congrArg List.length e
  rw [List.length_take,List.length_drop,List.length_append,List.length_singleton] at hl
  by_cases hin:k+st.length<=fs.length
  ·refine h st hst ((jF (ne st hst)).mpr ⟨k,?_⟩)
   rw [List.drop_append_of_le_length (by omega),List.take_append_of_le_length (by rw [List.length_drop];omega)] at e
   exact e
  ·have hk:k+st.length=fs.length+1:=by omega
   rw [List.take_of_length_le (by rw [List.length_drop,List.length_append,List.length_singleton];omega)] at e
   by_cases hkj:j<=k
   ·refine q st hst ((jF (ne st hst)).mpr ⟨k-j,?_⟩)
    rw [List.drop_drop,show j+(k-j)=k by omega,e,List.take_of_length_le (Nat.le_refl _)]
   ·have h3k:=h3 k (by omega)
    rw [List.drop_append_of_le_length (by omega)] at e
    unfold Yb at h3k
    rw [List.any_eq_false] at h3k
    refine h3k st hst (decide_eq_true ?_)
    rw [<- e,List.take_left]
 ·intro q
  exact U7 ne j q
theorem Wk {ls:ZA} (ne:∀ l∈ls,l≠[]) {fs:List Int} (h:lacks ls fs=true):zf0 ls (ye ls fs):=by
 obtain⟨j,h1,h2,_,h4⟩:=YB (ls:=ls) fs
 rw [h2]
 by_cases hj:j<fs.length
 ·have q:=h4 hj
  unfold Yb at q
  rw [List.any_eq_true] at q
  obtain⟨st,hst,q⟩:=q
  have q:=of_decide_eq_true q
  have hl:=congrArg List.length q
  rw [List.length_take] at hl
  have hlen:(fs.drop j).length=fs.length-j:=List.length_drop ..
  have hlk:=U7 ne j h
  refine .inr ⟨st,hst,(fs.drop j).length,by omega,?_,q.symm,hlk⟩
  by_cases hlt:(fs.drop j).length<st.length
  ·exact hlt
  ·exfalso
   have hle:st.length<=(fs.drop j).length:=by omega
   rw [List.take_of_length_le hle] at q
   unfold lacks at hlk
   rw [Bool.not_eq_true',List.any_eq_false] at hlk
   refine hlk st hst ((jF (ne st hst)).mpr ⟨0,?_⟩)
   rw [List.drop_zero,<- q,List.take_of_length_le (Nat.le_refl _)]
 ·left
  exact List.drop_of_length_le (by omega)
theorem StandsL.first {ls xs:ZA} (a:StandsL ls xs):∃ r,xs=[] :: r:=by
 have h0:([]:List Int)∈xs:=(a.mem []).mpr (.inl rfl)
 cases xs with
 | nil=>cases h0
 | cons x r =>
  rcases List.mem_cons.mp h0 with e | e
  ·exact⟨r,by rw [e]⟩
  ·have:=(List.pairwise_cons.mp a.up).1 [] e
   unfold HT.vA at this
   by_cases hl:x.length=([]:List Int).length
   ·have:x=[]:=List.eq_nil_of_length_eq_zero hl
    exact⟨r,by rw [this]⟩
   ·rw [if_neg hl] at this
    have:=of_decide_eq_true this
    simp at this
def cnt (ls:ZA) (b:Nat):Nat->List Int->Nat
 | 0,_=>1
 | t+1,x=>((List.range b).map λ(c:Nat)=>if lacks ls (x++[(c:Int)])=true then cnt ls b t (ye ls (x++[(c:Int)])) else 0).sum
def Zr (b:Nat):Nat->Nat->List Int
 | 0,_=>[]
 | t+1,r=>((r / b^t:Nat):Int) :: Zr b t (r % b^t)
def many (p:Nat->Bool):Nat->Nat
 | 0=>0
 | n+1=>many p n+(if p n=true then 1 else 0)
theorem uL {p q:Nat->Bool}:∀ {N:Nat},(∀ n,n<N->p n=q n)->many p N=many q N
 | 0,_=>rfl
 | N+1,h=>by rw [many,many,uL (N:=N) λn hn=>h n (by omega),h N (by omega)]
theorem Vf {p:Nat->Bool}:∀ {N:Nat},(∀ n,n<N->p n=false)->many p N=0
 | 0,_=>rfl
 | N+1,h=>by rw [many,Vf (N:=N) λn hn=>h n (by omega),h N (by omega)];rfl
theorem Y5 (p:Nat->Bool) (A:Nat):∀ B:Nat,many p (A+B)=many p A+many (λn=>p (A+n)) B
 | 0=>rfl
 | B+1=>by rw [<- Nat.add_assoc,many,many,Y5 p A B,Nat.add_assoc]
theorem QB (p:Nat->Bool) (B:Nat):∀ A:Nat,many p (A*B)=((List.range A).map λc=>many (λr=>p (c*B+r)) B).sum
 | 0=>by simp [many]
 | A+1=>by
  rw [Nat.succ_mul,Y5,QB p B A,List.range_succ,List.map_append,List.sum_append]
  simp
theorem VH (p:Nat->Bool) {A B:Nat} (h:A<=B):many p A<=many p B:=by
 obtain⟨k,rfl⟩:=Nat.exists_eq_add_of_le h
 rw [Y5];omega
theorem zcr (p:Nat->Bool) {A B:Nat} (h:A<B) (q:p A=true):many p A<many p B:=by
 have e:many p (A+1)=many p A+1:=by rw [many,if_pos q]
 have:=VH p (A:=A+1) (B:=B) h
 omega
theorem zbv {p q:Nat->Bool} (h:∀ n,p n=true->q n=true):∀ N:Nat,many p N<=many q N
 | 0=>Nat.le_refl _
 | N+1=>by
  have i:=zbv h N
  rw [many,many]
  by_cases e:p N=true
  ·rw [if_pos e,if_pos (h N e)];omega
  ·rw [if_neg e];omega
theorem WW {b t c r:Nat} (hr:r<b^t):Zr b (t+1) (c*b^t+r)=(c:Int) :: Zr b t r:=by
 have h0:0<b^t:=by omega
 rw [Zr,Nat.add_comm,Nat.add_mul_div_right _ _ h0,Nat.div_eq_of_lt hr,Nat.zero_add,Nat.add_mul_mod_self_right,Nat.mod_eq_of_lt hr]
theorem Xy {f g:Nat->Nat}:∀ {N:Nat},(∀ c,c<N->f c=g c)->((List.range N).map f).sum=((List.range N).map g).sum:=by
 intro N h
 congr 1
 apply List.map_congr_left
 intro c hc
 exact h c (List.mem_range.mp hc)
theorem Qf {ls:ZA} (ne:∀ l∈ls,l≠[]) {b t:Nat} (ih:∀ x,lacks ls x=true->many (λr=>lacks ls (x++Zr b t r)) (b^t)=cnt ls b t (ye ls x)) {x:List Int} (c:Nat) :
  many (λr=>lacks ls (x++Zr b (t+1) (c*b^t+r))) (b^t)=if lacks ls (x++[(c:Int)])=true then cnt ls b t (ye ls (x++[(c:Int)])) else 0:=by
 have e1:many (λr=>lacks ls (x++Zr b (t+1) (c*b^t+r))) (b^t)=many (λr=>lacks ls (x++[(c:Int)]++Zr b t r)) (b^t):=by
  apply uL
  intro r hr
  show lacks ls _=lacks ls _
  rw [WW hr,List.append_assoc]
  rfl
 rw [e1]
 by_cases h:lacks ls (x++[(c:Int)])=true
 ·rw [if_pos h,ih _ h]
 ·rw [if_neg h]
  apply Vf
  intro r _
  cases hc:lacks ls (x++[(c:Int)]++Zr b t r) with
  | false=>rfl
  | true=>exact absurd (JT ne hc) h
theorem zaD {ls:ZA} (ne:∀ l∈ls,l≠[]) {b:Nat}:∀ (t:Nat) (x:List Int),lacks ls x=true->many (λr=>lacks ls (x++Zr b t r)) (b^t)=cnt ls b t (ye ls x)
 | 0,x,h=>by
  rw [Nat.pow_zero,many,many,cnt,Zr,List.append_nil,if_pos h]
 | t+1,x,h=>by
  rw [Nat.pow_succ',QB,cnt]
  apply Xy
  intro c _
  rw [Qf ne (zaD ne t),X8 ne _ h,X6]
def gd (ls:ZA) (b n:Nat):Bool:=lacks ls (figs b n)
theorem QJ {b:Nat}:∀ (t n:Nat),Zr b (t+1) n=tops b t n
 | 0,n=>by simp [Zr,tops]
 | t+1,n=>by rw [Zr,QJ t,tops]
theorem zdT {b t c r:Nat} (h2:2<=b) (h1:1<=c) (hc:c<b) (hr:r<b^t):figs b (c*b^t+r)=(c:Int) :: Zr b t r:=by
 rw [<- WW hr,QJ]
 refine (Xn h2 t _ ?_ (.inr ?_)).symm
 ·rw [Nat.pow_succ']
  have:(c+1)*b^t<=b*b^t:=Nat.mul_le_mul_right _ hc
  rw [Nat.succ_mul] at this
  omega
 ·have:1*b^t<=c*b^t:=Nat.mul_le_mul_right _ h1
  omega
def Ve (ls:ZA) (b:Nat):Nat->Nat
 | 0=>if lacks ls [0]=true then 1 else 0
 | t+1=>((List.range b).map λ(c:Nat)=>if c=0 then Ve ls b t else if lacks ls [(c:Int)]=true then cnt ls b t (ye ls [(c:Int)]) else 0).sum
theorem JM {ls:ZA} (ne:∀ l∈ls,l≠[]) {b t c:Nat} (h2:2<=b) (h1:1<=c) (hc:c<b):many (λr=>gd ls b (c*b^t+r)) (b^t)=if lacks ls [(c:Int)]=true then cnt ls b t (ye ls [(c:Int)]) else 0:=by
 have e:=Qf (x:=[]) ne (b:=b) (t:=t) (zaD ne t) c
 rw [List.nil_append] at e
 rw [<- e]
 apply uL
 intro r hr
 show gd ls b _=lacks ls _
 rw [gd,zdT h2 h1 hc hr,List.nil_append,WW hr]
theorem VD {ls:ZA} (ne:∀ l∈ls,l≠[]) {b:Nat} (h2:2<=b):∀ t:Nat,Ve ls b t=many (gd ls b) (b^t)
 | 0=>by
  rw [Nat.pow_zero,many,many,Ve,Nat.zero_add]
  unfold gd
  rw [Yd (show 0<b by omega)]
  rfl
 | t+1=>by
  rw [Nat.pow_succ',QB,Ve]
  apply Xy
  intro c hc
  by_cases h0:c=0
  ·subst h0
   rw [if_pos rfl,VD ne h2 t]
   apply uL
   intro r _
   rw [Nat.zero_mul,Nat.zero_add]
  ·rw [if_neg h0,JM ne h2 (by omega) hc]
theorem J9 {b n k:Nat} (h2:2<=b) (hn:n<b^(k+1)) (h:k=0\/b^k<=n):(figs b n).length=k+1:=by
 rw [<- Xn h2 k n hn h,zaT]
theorem ze0 {b:Nat} (h2:2<=b) (n:Nat):∃ k,n<b^(k+1)/\(k=0\/b^k<=n):=by
 have key:∀ K:Nat,n<b^(K+1)->∃ k,n<b^(k+1)/\(k=0\/b^k<=n):=by
  intro K
  induction K with
  | zero=>intro h;exact⟨0,h,.inl rfl⟩
  | succ K ih =>
   intro h
   by_cases q:n<b^(K+1)
   ·exact ih q
   ·exact⟨K+1,h,.inr (by omega)⟩
 refine key n ?_
 have:n<2^n:=Nat.lt_two_pow_self
 have h3:2^n<=b^n:=Nat.pow_le_pow_left h2 n
 have h4:b^n<=b^(n+1):=Nat.pow_le_pow_right (by omega) (Nat.le_succ n)
 omega
theorem zaV {b n k:Nat} (h2:2<=b):(figs b n).length=k+1↔n<b^(k+1)/\(k=0\/b^k<=n):=by
 refine⟨λh=>?_,λh=>J9 h2 h.1 h.2⟩
 obtain⟨m,h1,h3⟩:=ze0 h2 n
 have e:=J9 h2 h1 h3
 rw [h] at e
 obtain rfl:k=m:=by omega
 exact⟨h1,h3⟩
def WQ (ls:ZA) (b t:Nat):Option (List Int)->Nat->Nat
 | some x,c=>if lacks ls (x++[(c:Int)])=true then cnt ls b t (ye ls (x++[(c:Int)])) else 0
 | none,c=>if c=0 then Ve ls b t else if lacks ls [(c:Int)]=true then cnt ls b t (ye ls [(c:Int)]) else 0
def under (ls:ZA) (b t:Nat) (o:Option (List Int)) (s:Nat):Nat:=((List.range s).map (WQ ls b t o)).sum
theorem UL (ls:ZA) (b t:Nat) (o:Option (List Int)):under ls b t o 0=0:=rfl
theorem Qm (ls:ZA) (b t:Nat) (o:Option (List Int)) (s:Nat):under ls b t o (s+1)=under ls b t o s+WQ ls b t o s:=by
 unfold under
 rw [List.range_succ,List.map_append,List.sum_append]
 simp
def Rep (ls:ZA) (b m:Nat) (o:Option (List Int)):Prop:=(m=0/\o=none)\/(1<=m/\gd ls b m=true/\o=some (ye ls (figs b m)))
theorem YD {b m c:Nat} (h2:2<=b) (h1:1<=m) (hc:c<b):figs b (m*b+c)=figs b m++[(c:Int)]:=by
 have hge:b<=m*b+c:=by
  have:1*b<=m*b:=Nat.mul_le_mul_right b h1
  omega
 rw [Uk h2 hge]
 have e1:(m*b+c) / b=m:=by rw [Nat.add_comm,Nat.add_mul_div_right _ _ (by omega),Nat.div_eq_of_lt hc,Nat.zero_add]
 have e2:(m*b+c) % b=c:=by rw [Nat.add_comm,Nat.add_mul_mod_self_right,Nat.mod_eq_of_lt hc]
 rw [e1,e2]
theorem zd9 {b m c:Nat} (h2:2<=b) (h1:1<=m):1<=m*b+c:=by
 have:1*b<=m*b:=Nat.mul_le_mul_right b h1
 omega
theorem Vd {b m:Nat} (h2:2<=b) (h1:1<=m):∀ (t r:Nat),r<b^t->figs b (m*b^t+r)=figs b m++Zr b t r
 | 0,r,hr=>by
  have:r=0:=by rw [Nat.pow_zero] at hr;omega
  subst this
  rw [Nat.pow_zero,Nat.mul_one,Nat.add_zero,Zr,List.append_nil]
 | t+1,r,hr=>by
  have hp:0<b^t:=Nat.pow_pos (by omega)
  have hc:r / b^t<b:=by
   rw [Nat.div_lt_iff_lt_mul hp]
   rw [Nat.pow_succ',] at hr
   exact hr
  have hm:r % b^t<b^t:=Nat.mod_lt _ hp
  have e:m*b^(t+1)+r=(m*b+r / b^t)*b^t+r % b^t:=by
   have h:=Nat.div_add_mod r (b^t)
   rw [Nat.pow_succ',Nat.add_mul,Nat.mul_assoc,Nat.add_assoc,Nat.mul_comm (r / b^t),h]
  have h1':1<=m*b+r / b^t:=zd9 h2 h1
  rw [e,Vd h2 h1' t _ hm,YD h2 h1 hc,Zr,List.append_assoc]
  rfl
theorem zbW {ls:ZA} (ne:∀ l∈ls,l≠[]) {b m:Nat} {o:Option (List Int)} (h2:2<=b) (R:Rep ls b m o) (t:Nat) {c:Nat} (hc:c<b):WQ ls b t o c=many (λr=>gd ls b ((m*b+c)*b^t+r)) (b^t):=by
 rcases R with ⟨rfl,rfl⟩ | ⟨h1,hg,rfl⟩
 ·rw [Nat.zero_mul,Nat.zero_add]
  show (if c=0 then _ else _)=_
  by_cases h0:c=0
  ·subst h0
   rw [if_pos rfl,VD ne h2]
   apply uL
   intro r _
   rw [Nat.zero_mul,Nat.zero_add]
  ·rw [if_neg h0,JM ne h2 (by omega) hc]
 ·have e:=Qf (x:=figs b m) ne (b:=b) (t:=t) (zaD ne t) c
  show (if lacks ls (ye ls (figs b m)++[(c:Int)])=true then cnt ls b t (ye ls (ye ls (figs b m)++[(c:Int)])) else 0)=_
  rw [X8 ne _ hg,X6,<- e]
  apply uL
  intro r hr
  show lacks ls _=gd ls b _
  rw [gd,Vd h2 (zd9 h2 h1) t r hr,YD h2 h1 hc,WW hr,List.append_assoc]
  rfl
theorem jT {ls:ZA} (ne:∀ l∈ls,l≠[]) {b m:Nat} {o:Option (List Int)} (h2:2<=b) (R:Rep ls b m o) (t:Nat):∀ {s:Nat},s<=b->many (gd ls b) (m*b^(t+1))+under ls b t o s=many (gd ls b) ((m*b+s)*b^t)
 | 0,_=>by rw [UL,Nat.add_zero,Nat.pow_succ',show (m*b+0)*b^t=m*(b*b^t) by rw [Nat.add_zero,Nat.mul_assoc]]
 | s+1,hs=>by
  rw [Qm,<- Nat.add_assoc,jT ne h2 R t (s:=s) (by omega),zbW ne h2 R t (show s<b by omega),<- Nat.add_assoc,Nat.succ_mul (m*b+s),Y5]
theorem Rep.step {ls:ZA} (ne:∀ l∈ls,l≠[]) {b m:Nat} {o:Option (List Int)} (h2:2<=b) (R:Rep ls b m o) {c:Nat} (hc:c<b) :
  (o=none/\c=0/\Rep ls b (m*b+c) none)\/(¬ (o=none/\c=0)/\((lacks ls (o.getD []++[(c:Int)])=true/\Rep ls b (m*b+c) (some (ye ls (o.getD []++[(c:Int)]))))\/(lacks ls (o.getD []++[(c:Int)])=false/\1<=m*b+c/\gd ls b (m*b+c)=false))):=by
 rcases R with ⟨rfl,rfl⟩ | ⟨h1,hg,rfl⟩
 ·by_cases h0:c=0
  ·left;exact⟨rfl,h0,.inl ⟨by rw [h0];omega,rfl⟩⟩
  ·right
   refine⟨λz=>h0 z.2,?_⟩
   rw [Nat.zero_mul,Nat.zero_add]
   show (lacks ls [(c:Int)]=true/\_)\/(lacks ls [(c:Int)]=false/\_)
   have eg:gd ls b c=lacks ls [(c:Int)]:=by unfold gd;rw [Yd hc]
   cases hl:lacks ls [(c:Int)] with
   | true=>left;exact⟨rfl,.inr ⟨by omega,by rw [eg];exact hl,by rw [Yd hc];rfl⟩⟩
   | false=>right;exact⟨rfl,by omega,by rw [eg];exact hl⟩
 ·right
  refine⟨λz=>(nomatch z.1),?_⟩
  have hm:1<=m*b+c:=zd9 h2 h1
  show (lacks ls (ye ls (figs b m)++[(c:Int)])=true/\Rep ls b (m*b+c) (some (ye ls (ye ls (figs b m)++[(c:Int)]))))\/(lacks ls (ye ls (figs b m)++[(c:Int)])=false/\_)
  rw [X8 ne _ hg,X6]
  have eg:gd ls b (m*b+c)=lacks ls (figs b m++[(c:Int)]):=by unfold gd;rw [YD h2 h1 hc]
  cases hl:lacks ls (figs b m++[(c:Int)]) with
  | true=>left;exact⟨rfl,.inr ⟨hm,by rw [eg];exact hl,by rw [YD h2 h1 hc]⟩⟩
  | false=>right;exact⟨rfl,hm,by rw [eg];exact hl⟩
theorem zeG {ls:ZA} (ne:∀ l∈ls,l≠[]) {b m:Nat} (h2:2<=b) (h1:1<=m) (hg:gd ls b m=false) (t:Nat) {r:Nat} (hr:r<=b^t):many (gd ls b) (m*b^t+r)=many (gd ls b) (m*b^t):=by
 rw [Y5,Vf (N:=r)]
 ·omega
 intro k hk
 show gd ls b _=false
 cases hc:gd ls b (m*b^t+k) with
 | false=>rfl
 | true =>
  unfold gd at hc hg
  rw [Vd h2 h1 t k (by omega)] at hc
  rw [JT ne hc] at hg
  cases hg
theorem zbh {b:Nat}:∀ {t n k:Nat},k<t->n<b^t->(Zr b t n)[k]?=some (((n / b^(t-1-k)) % b:Nat):Int)
 | 0,_,_,hk,_=>by omega
 | t+1,n,0,_,hn=>by
  have:n / b^t<b:=by
   rw [Nat.pow_succ'] at hn
   rcases Nat.eq_zero_or_pos (b^t) with h | h
   ·rw [h] at hn;omega
   ·rw [Nat.div_lt_iff_lt_mul h];exact hn
  rw [Zr,List.getElem?_cons_zero,show t+1-1-0=t by omega,Nat.mod_eq_of_lt this]
 | t+1,n,k+1,hk,hn=>by
  have hb:0<b:=by
   rcases Nat.eq_zero_or_pos b with h | h
   ·subst h;rw [Nat.zero_pow (by omega)] at hn;omega
   ·exact h
  rw [Zr,List.getElem?_cons_succ,zbh (by omega) (Nat.mod_lt _ (Nat.pow_pos hb))]
  have e:t+1-1-(k+1)=t-1-k:=by omega
  rw [e]
  generalize hj:t-1-k=j
  obtain⟨q,hq⟩:∃ q,t=j+(q+1):=⟨t-j-1,by omega⟩
  rw [hq,Nat.pow_add,Nat.mod_mul_right_div_self,Nat.pow_succ',Nat.mod_mul_right_mod]
theorem zeu {b n N k:Nat} (h2:2<=b) (hN:(figs b n).length=N) (hk:k<N):(figs b n)[k]?=some (((n / b^(N-1-k)) % b:Nat):Int):=by
 obtain⟨K,rfl⟩:∃ K,N=K+1:=⟨N-1,by omega⟩
 obtain⟨h1,h3⟩:=(zaV h2).mp hN
 rw [<- Xn h2 K n h1 h3,<- QJ]
 exact zbh hk h1
theorem zbm {b n N:Nat} (h2:2<=b) (hN:(figs b n).length=N):n<b^N:=by
 cases N with
 | zero=>exact absurd (List.length_eq_zero_iff.mp hN) zfm
 | succ K=>exact ((zaV h2).mp hN).1
theorem zdS {b n t:Nat} (hb:0<b):n / b^t=n / b^(t+1)*b+(n / b^t) % b:=by
 have h:=Nat.div_add_mod (n / b^t) b
 rw [Nat.div_div_eq_div_mul,<- Nat.pow_succ,Nat.mul_comm] at h
 exact h.symm
theorem zc6 {ls ms:ZA} (h:∀ l∈ls,l∈ms) {fs:List Int} (q:lacks ms fs=true):lacks ls fs=true:=by
 unfold lacks at *
 rw [Bool.not_eq_true',List.any_eq_false] at q ⊢
 intro st hst
 exact q st (h st hst)
theorem J0 {ls ms:ZA} (h:∀ l∈ls,l∈ms) (b n:Nat):many (gd ms b) n<=many (gd ls b) n:=zbv (λk q=>zc6 h q) n
end Lw
namespace L2
open Lw
abbrev LPw (ls:ZA):Prop:=ls.Pairwise λx y=>HT.lexLt x y=true
theorem LPw.nodup {a:ZA} (h:LPw a):a.Nodup:=h.imp λq e=>by subst e;rw [HT.yJ] at q;cases q
open PySem PySem.Spec PyProof.Rows
section
variable {X:Cx} {tg:Expr}
end
def zfY (C:Addr) (m:Str) (sp:Sp) (Ex:St->XK) (ta:TE) (t:TA):TE:=fun σ H Q=>ta σ H λx H1=>∃ a dx fs,x=.ref a/\H1 a=some (.ins C dx fs)/\fs.lookup m=none/\t σ H1 λvs H2=>sp (x :: vs) H2 Q (Ex σ)
section
variable {X:Cx} {C:Addr} {q x:Str} {st:Stmt} {ps:List Str} {f:Addr} {fd:FuncData} {k:Nat} {sp:Sp} {Ex:St->XK} {o e:Expr} {es:List Expr} {ta:TE} {t:TA} {apos p pos:Pos}
theorem zek {pl:Sem Bool} (D:Mt X.K C q x st ps f fd) (c:Cls X.K C) (G:FnOk X.prog X.w X.K X.mg X.base (CX1 X.prog X.w) k f fd ps sp) (hr:Room k X.A) (hx:JZ X Ex) (he:PE X o ta) (ha:PA X (e :: es) t)
  (hst:starEach (e :: es) X.env=(false,eval e X.env) :: starEach es X.env:=by rfl) (hpl:(backTo pos (starEach es X.env)).any (·.1)=false:=by rfl)
  (ht:eval (.Call (.Attribute o x apos) (e :: es) [] pos) X.env=(do
   let ov <- eval o X.env
   standAt apos.atName
   let (f,first) <- holding [ov] (getMethod ov x pl)
   callWith pos f first (backTo pos (starEach (e :: es) X.env)) (backToKw pos (keywordEach [] X.env))):=by rfl):PE X (.Call (.Attribute o x apos) (e :: es) [] pos) (zfY C x sp Ex ta t):=by
 intro pins s σ H Q I h
 refine W.methodCall_KW (pl:=pl) (thn (he pins s σ H _ I h) λu s1 ⟨y,H1,I1,ry,a,dx,fs,ey,ea,l,z⟩=>?_) ht
 subst ey
 obtain rfl:u=Value.ref a:=ry
 refine Wm I1 ea c D.m l ?_
 refine W.callWith_K (first:=[.ref a]) (h₀:=X.base) I.ok.mod.kin D.m.kp (thn (ha pos pins s1 σ H1 _ I1 z) λus s2 ⟨vs,H2,I2,r,z2⟩=>⟨I2.kIn,?_⟩) hst hpl
 exact zcA (us:=.ref a :: us) (vs:=.ref a :: vs) G hr D.b hx I2 (.cons rfl r) z2
end
theorem FnOk.calm {P:Program} {w:World} {K:W.Frag} {mg:Str->Option Value} {base:Heap} {k:Nat} {f:Addr} {fd:FuncData} {ps:List Str} {sp:Sp} (F:FnOk P w K mg base (CX1 P w) k f fd ps sp):FnOk P w K mg base CX0 k f fd ps (λvs H Q _=>sp vs H Q λ_ _ _=>False) :=
 ⟨λvs H Q E h=>F.len vs H Q _ h,λA outer s H args us vs Q E hr e0 hb hv hs=>codeAny_mono (F.run A outer s H args us vs Q (λ_ _ _=>False) hr e0 hb hv hs) λr s' q=>by
  cases r with
  | error e=>obtain⟨_,_,_,_,_,_,_,_,_,_,_,hE⟩:=q;exact hE.elim
  | ok fl=>cases fl<;>exact q⟩
def zgH (K:W.Frag):R2:=λx y H Q=>∃ p xs ts u,y=.ref p/\SqT K H p xs/\TrsAt K H ts xs/\TrAt K H u x/\wg ts<=8/\Q (.bl (ts.any λt=>teq t u)) H
section
variable {X:Cx} {K:W.Frag}
open Classical in
theorem zfM (hu:X.A.units+64<cLine):OpR X (compareOp .In) (zgH X.K):=by
 intro pins s σ H x y v u Q I rx ry h
 obtain⟨p,xs,ts,t,rfl,hq,hts,ht,hd,q⟩:=h
 cases ry
 obtain⟨its,r,pl,hz⟩:=I.tuple hq
 refine SeqAt.in_tupleAt _ pl (Uj I hu ht rx hd hts r) ⟨.bl _,H,I,rfl,?_⟩
 simp only [List.any_toArray]
 rw [zaF I hd hts r]
 exact q
theorem zgz (K:W.Frag) (hu:X.A.units+64<cLine) (e:X.K=K:=by rfl):OpR X (compareOp .In) (zgH K):=by subst e;exact zfM hu
end
end L2
namespace PySem.W.Fast
def tw6796694621382694025:=0
def tw18322982713695792691:=0
def tw12019865826825337872:=0
def tw3570103821906628958:=0
def tw16114767749445060421:=0
def tw12576639251369935074:=0
def tw14608521393126839014:=0
def tw13736965067943902102:=0
def tw1947691231184494156:=0
def tw11846402480644736361:=0
def tw10293886963722218982:=0
def tw13650476069370902406:=0
def tw16701296109892451719:=0
def tw14003406681947369743:=0
def tw13369190853914008309:=0
def tw14753910802500039157:=0
def tw12031333581925393482:=0
def tw748597297273128398:=0
def tw5478986541362555993:=0
def tw15458104530722127447:=0
def tw3954132621273863780:=0
def tw13804201014351384128:=0
def tw10192281652958953322:=0
def tw17599609864960658127:=0
def tw12369334343744175196:=0
def tw17900785379744167126:=0
def tw10415540657570718214:=0
def tw5179415911365017041:=0
def tw12199872312155131437:=0
def tw4595451392431535351:=0
def tw5291794178083177109:=0
def tw1889577300481834068:=0
def tw4176006779115178274:=0
def tw3972444497390735447:=0
def tw18215381608227236273:=0
def tw15000155611882752029:=0
def tw8558815690246019106:=0
def tw803817753876612825:=0
def tw17020403148699497188:=0
def tw8931907683185093052:=0
def tw7650621552145577568:=0
def tw5936952360854167198:=0
def tw11248210924340612809:=0
def tw8758382250138778835:=0
def tw8598210954826808916:=0
def tw3271506083782104993:=0
def tw11622385106161337834:=0
def tw7669235045855467817:=0
def tw5797992411536661057:=0
def tw14943980298041919559:=0
def tw9822844487177071788:=0
def tw5261686486385238271:=0
def tw9460481661423031586:=0
def tw8014366500450969775:=0
def tw13322180795730339399:=0
def tw14308436357477485447:=0
def tw8732268069411328023:=0
def tw18103344019510988865:=0
def tw17264137383713354135:=0
def tw5738354489070661245:=0
def tw12029394940340063420:=0
def tw13596747847510661479:=0
def tw8780591460300733848:=0
def tw17043501105951899226:=0
def tw5060935758094939492:=0
def tw4539022470836170353:=0
def tw7737940407927948228:=0
def tw2448088500346026988:=0
def tw12461674292605774272:=0
def tw10868005849713450773:=0
def tw3718417492803937035:=0
def tw15555043033560819198:=0
def tw3539524999315338468:=0
def tw6827782281671048398:=0
def tw18355032918953453747:=0
def tw13653338053983800263:=0
def tw6164654498096041369:=0
def tw16728164293757354055:=0
def tw3658737117841508102:=0
def tw2483207980781856897:=0
def tw6765579902962470273:=0
def tw695616711982366921:=0
def tw4344361858694584897:=0
def tw18335255693427368683:=0
def tw15417779909791549972:=0
def tw15123241970610391132:=0
def tw2598064850077365697:=0
def tw7216328544638336488:=0
def tw801687311403162728:=0
def tw3170968472100753367:=0
def tw8973837933950224585:=0
def tw18241289502652588898:=0
def tw10535099172435937882:=0
def tw17594295434938254697:=0
def tw16123443705765025858:=0
def tw10573451438860664311:=0
def tw15821503558733326023:=0
def tw17095378440404674301:=0
def tw14316994696550213446:=0
def tw18321595162729318941:=0
def tw11853891383651180026:=0
def tw5887362775439465477:=0
def tw2320797824803836205:=0
def tw10898521242305244624:=0
def tw3410910378798780476:=0
def tw5442406434371120479:=0
def tw5274699941308420436:=0
def tw5288522413061282088:=0
def tw16303179760611236696:=0
def tw17990984070736876049:=0
def tw4221764963965763368:=0
def tw16446620550764558208:=0
def tw17295160838980406388:=0
def tw42145235638969569:=0
def tw2718612285753222450:=0
def tw15429981353972471669:=0
def tw18213009486181310540:=0
def tw10480872276177494708:=0
def tw2741229115417243568:=0
def tw14896316874478008531:=0
def tw3354764138863112870:=0
def tw2871443103057854876:=0
def tw9231423384885157244:=0
def tw9205217814041593689:=0
def tw7870016593865748233:=0
def tw18230147746114942351:=0
def tw18112166635191388021:=0
def tw15272953705689931640:=0
def tw4908225815271780980:=0
def tw9357524594973209781:=0
def tw744057895756605643:=0
def tw12143679401491336396:=0
def tw14046167367989488574:=0
def tw2415066791860556811:=0
def tw1482908685930395572:=0
def tw11296920380137667068:=0
def tw11871017489748997036:=0
def tw5574028192776105759:=0
def tw1762149770860747384:=0
def tw1207131785703495100:=0
def tw9390553894224013282:=0
def tw16581792140956176825:=0
def tw7473322163554649623:=0
def tw9996178809416005174:=0
def tw14438620380897002913:=0
def tw6543848392025650419:=0
def tw5945018881212502355:=0
def tw6865787924623364859:=0
def tw9033357228608596639:=0
def tw15043974832929454186:=0
def tw5314934438982122776:=0
def tw16845081219101574137:=0
def tw2716255789352447084:=0
def tw9869288914487234989:=0
def tw16222687413754240524:=0
def tw14559929440500932041:=0
def tw13572515170063571094:=0
def tw708041609712828016:=0
def tw4408825611874558522:=0
def tw885853512006578371:=0
def tw1334132325296862833:=0
def tw7257194136732784192:=0
def tw6954382342031525822:=0
def tw6208653714769640899:=0
def tw1500238431496390460:=0
def tw11246100148948483268:=0
def tw7499931770857917061:=0
def tw2164504895840328336:=0
def tw12049562915127547976:=0
def tw14096489448127480545:=0
def tw14788541046185366024:=0
def tw13146344542639716198:=0
def tw10199794433399181691:=0
def tw15100065270998452307:=0
def tw112726120003027542:=0
def tw13662901923014486509:=0
def tw590062850350193261:=0
def tw9026341122419572525:=0
def tw4272936907341319910:=0
def tw7502267147765144167:=0
def tw826136673268138130:=0
def tw817175299549647331:=0
def tw13053351201841508833:=0
def tw9628913581318110840:=0
def tw2297896785246848945:=0
def tw7892218436385624137:=0
def tw16244324436064557857:=0
def tw4657965126560996833:=0
def tw9512845889626102392:=0
def tw14836251888315701238:=0
def tw3072232459677286862:=0
def tw16598346977398099811:=0
def tw10796288757631742736:=0
def tw8849588251244707785:=0
def tw13582124750971557434:=0
def tw7276563799244098670:=0
def tw4854956777455729112:=0
def tw7926422756611155177:=0
def tw12474005431793431226:=0
def tw14390873080356974237:=0
def tw7281140513319936934:=0
def tw3869072148897971128:=0
def tw270254377686747330:=0
def tw17053154481726120967:=0
def tw15615943516136274401:=0
def tw13480367018013125170:=0
def tw11128266071698708651:=0
def tw13284917679166772199:=0
def tw4618598305159959053:=0
def tw9039702100281798965:=0
def tw7791472381376216840:=0
def tw16018132776952568595:=0
def tw15203137444699812071:=0
def tw3169597136896901472:=0
def tw12941362500944694270:=0
def tw4039248742632982655:=0
def tw11325329176528554782:=0
def tw8227286585182191126:=0
def tw1096943946308681815:=0
def tw6216648484683383794:=0
def tw7114092720865379181:=0
def tw8935075381163624665:=0
def tw3012916789960479972:=0
def tw4772939296215982113:=0
def tw1706572133371934017:=0
def tw17688901245034233665:=0
def tw5809991782860399744:=0
def tw1500586564316550749:=0
def tw14735127496996604494:=0
def tw11993080694270460059:=0
def tw430824557057699883:=0
def tw9417485171193098759:=0
def tw219531918110768303:=0
def tw9387821458435980065:=0
def tw959475742084964430:=0
def tw15561255879493188350:=0
def tw8142556783843825788:=0
def tw2706356037523613962:=0
def tw9547874285946904739:=0
def tw11285376039576407658:=0
def tw15602062279967737441:=0
def tw12369546122460628717:=0
def tw16671260673628431706:=0
def tw15923603629976139523:=0
def tw9093840331844868718:=0
def tw10540642465661096128:=0
def tw14139267908328754672:=0
def tw1709454174877645281:=0
def tw16363115241430883670:=0
def tw7275309618090011914:=0
def tw3729040071634671926:=0
def tw1288830479722346951:=0
def tw4823945295251011980:=0
def tw3132650864176270133:=0
def tw6604978710920037261:=0
def tw17655050217538139972:=0
def tw16438320833983641089:=0
def tw17359510435411478872:=0
def tw1368471677598906739:=0
def tw1882035516025146413:=0
def tw13392004069872781518:=0
def tw15647614316319531543:=0
def tw10705627162003375799:=0
def tw5027793314242131649:=0
def tw11211261283841788578:=0
def tw2546421488234646243:=0
def tw8269420124424507961:=0
def tw1017894699539752735:=0
def tw5551779678082510453:=0
def tw17821661999293517996:=0
def tw9791650147456336735:=0
def tw1402198443796348732:=0
def tw5006965787060064757:=0
def tw3745899059902019954:=0
def tw12064855229243818659:=0
def tw15605390053224947026:=0
def tw8893767267270060632:=0
def tw8425851449902779465:=0
def tw7094815622939305757:=0
def tw9771816837205928049:=0
def tw14467326886494976162:=0
def tw15181344745617758873:=0
def tw9033606089059909516:=0
def tw10811625611884731823:=0
def tw14011854225833947949:=0
def tw1921394396147405702:=0
def tw16386964242132072735:=0
def tw4688367576621309703:=0
def tw17201495257997044507:=0
def tw12973578524659046121:=0
def tw10127913018257080935:=0
def tw7162507024295652396:=0
def tw13290438306304915074:=0
def tw13780672407556419660:=0
def tw8683701417493519795:=0
def tw15603918987149593544:=0
def tw12490102937111070091:=0
def tw2269818644761728446:=0
def tw6592611485570805624:=0
def tw17857528484617135161:=0
def tw12428129704064354888:=0
def tw557888587349868327:=0
def tw2524619241694681778:=0
def tw14061762583606287957:=0
def tw11551260249767222797:=0
def tw13972005227526187142:=0
def tw6300046788060110253:=0
def tw3281153814332340732:=0
def tw2557233148460262742:=0
def tw12280234166315756311:=0
def tw16871203811286043237:=0
def tw9453360561601320042:=0
def tw15553449302450615338:=0
def tw13483075899710293524:=0
def tw494511198353099636:=0
def tw16093201540211365278:=0
def tw5322048768621481959:=0
def tw16792656885959759986:=0
def tw2509503802510251014:=0
def tw15935262925771571575:=0
def tw9069406715230275603:=0
def tw13582054699769313951:=0
def tw6921915038247213089:=0
def tw16604481470200386404:=0
def tw12576284907382019079:=0
def tw7310442023186607854:=0
def tw11217888549289538938:=0
def tw15231519328705434908:=0
def tw12347992135399669575:=0
def tw16539334903714545037:=0
def tw18147881334404568782:=0
def tw7272639357176629439:=0
def tw4026428994068187857:=0
def tw10328348733771559213:=0
def tw17186966681289797653:=0
def tw5957187061727436168:=0
def tw10213947554959366236:=0
def tw15013814796929098157:=0
def tw17197323977726340133:=0
def tw2984148071666558939:=0
def tw6659854989435175362:=0
def tw17478237612451915206:=0
def tw1165117026963745870:=0
def tw1962058509433890827:=0
def tw4575325674505991020:=0
def tw10449056095585624513:=0
def tw12049863167493111619:=0
def tw3085125818042805713:=0
def tw11374796200157908950:=0
def tw17716319749694187639:=0
def tw17326006040176965360:=0
def tw16083626206045016424:=0
def tw5796060220993186070:=0
def tw5026170810866458458:=0
def tw16731260140286403147:=0
def tw16201255617868982163:=0
def tw16082140900847613211:=0
def tw2209472805941633537:=0
def tw14573991675766042425:=0
def tw1220562782829895306:=0
def tw8566506578168738095:=0
def tw8855192565715764211:=0
def tw10188967104973925687:=0
def tw16575066205321228452:=0
def tw8781628169698097974:=0
def tw15589339462176018230:=0
def tw3590051537566729434:=0
def tw15298090698093332177:=0
def tw2311966210697843229:=0
def tw10154651902883991897:=0
def tw8244713398557011109:=0
def tw3366549085120180933:=0
def tw6670566944506327392:=0
def tw10700770841887199685:=0
def tw10302514896521220773:=0
def tw15274202361875795621:=0
def tw15506908204124962427:=0
def tw8245602741820316297:=0
def tw8766539009691383592:=0
def tw17982167576517388389:=0
def tw7965990080124462239:=0
def tw13223000835156402062:=0
def tw5723373547356713251:=0
def tw13742802464396431016:=0
def tw9244479392580478044:=0
def tw17198957763550870339:=0
def tw6204686826150473607:=0
def tw14244872297782297283:=0
def tw17650617724867755214:=0
def tw2089017351376975855:=0
def tw14006893310498509630:=0
def tw3201348044954095055:=0
def tw10586876137235622354:=0
def tw12992467631575658788:=0
def tw12768921424231378666:=0
def tw7255480263766206172:=0
def tw337643828789453172:=0
def tw5567558495869095121:=0
def tw591594580375725136:=0
def tw4434018567623668872:=0
def tw8072480101854175680:=0
def tw12289136790402977650:=0
def tw5096062237577633740:=0
def tw4222019998162804510:=0
def tw6763021785076276585:=0
def tw5368687211163614259:=0
def tw14150940457900521455:=0
def tw4793783641792239063:=0
def tw15077884576866874840:=0
def tw14835181157070549409:=0
def tw14962352874906732202:=0
def tw4585142536233344902:=0
def tw5900067914765192893:=0
def tw14346754222109756375:=0
def tw9830092319808412345:=0
def tw11958343425341735743:=0
def tw12704088651422716450:=0
def tw585182600947351740:=0
def tw10222403747434793638:=0
def tw6260416357986797809:=0
def tw3552266953684180664:=0
def tw4085016467806977708:=0
def tw16918033483346592695:=0
def tw12032756927542873777:=0
def tw18052914970066087554:=0
def tw17630432749956181712:=0
def tw4620825590826132373:=0
def tw10664841654665661639:=0
def tw6089127974812163694:=0
def tw8248307062694270931:=0
def tw11179339113299316990:=0
def tw13320379082403868065:=0
def tw12715569650089747022:=0
def tw4581036957116338258:=0
def tw2242605313244727714:=0
def tw12831867145330602667:=0
def tw6404452890200167804:=0
def tw10353594057184836334:=0
def tw9538980173454730302:=0
def tw2770628602674188576:=0
def tw15674985045532358094:=0
def tw17720883933049300115:=0
def tw2335574677305448412:=0
def tw16216282801392932785:=0
def tw7074051682667765176:=0
def tw9151169344042601343:=0
def tw14132590879295829500:=0
def tw5699873786002182069:=0
def tw175218476472531679:=0
def tw17373231495240527675:=0
def tw6352605941795495188:=0
def tw2957247271803683195:=0
def tw2570669494517264183:=0
def tw9269379447762928968:=0
def tw17304925646279049260:=0
def tw6421108396913883783:=0
def tw1370924453639839204:=0
def tw9569283202073731458:=0
def tw6136343838417541205:=0
def tw7166074207820631436:=0
def tw4196491195806743690:=0
def tw16180435061472225729:=0
def tw17615130104922282023:=0
def tw12032798452406119597:=0
def tw1504259277203515382:=0
def tw9261865226364849455:=0
def tw14999909342781889732:=0
def tw15618171152786767853:=0
def tw3025426189751776699:=0
def tw10023205944369152859:=0
def tw12806261878049113753:=0
def tw88129380378192145:=0
def tw17329034182497676865:=0
def tw15198501987740425385:=0
def tw1817624275827141830:=0
def tw8613416136383859892:=0
def tw8397260093454612673:=0
def tw10288911337083641571:=0
def tw8105797711905673503:=0
def tw3966468658225967532:=0
def tw9122560030222627465:=0
def tw10665967008500434997:=0
def tw3028460741735831732:=0
def tw10408527890801289662:=0
def tw1101959568080520618:=0
def tw717172781332982638:=0
def tw8108267555251060934:=0
def tw7687530422035796626:=0
def tw12582884405987789002:=0
def tw1790405641276293056:=0
def tw14627290208282045130:=0
def tw3864259967041380779:=0
def tw12644579168408362610:=0
def tw8733967101049841006:=0
def tw7331762755933829707:=0
def tw11768447775249735125:=0
def tw11219622466616590513:=0
def tw5274304696125701596:=0
def tw129413109547661834:=0
def tw1791404576391398543:=0
def tw11648947394842940068:=0
def tw9815620480498140141:=0
def tw12653213234549367922:=0
def tw8294460577975567429:=0
def tw11990751247553747191:=0
def tw7214597185669663420:=0
def tw17828089238610808830:=0
def tw8982019985184807387:=0
def tw7339360058081211702:=0
def tw17660343816752023703:=0
def tw13455868644661866315:=0
def tw1738091037257617132:=0
def tw6740798735738185384:=0
def tw17780819578339932123:=0
def tw14392336629393823901:=0
def tw3206294645854477724:=0
def tw8364976594995786164:=0
def tw10902678498513879618:=0
def tw9026330551326659341:=0
def tw2456631306283239352:=0
def tw8166292148361814521:=0
def tw8537382789635586017:=0
def tw8030402019672673288:=0
def tw2216204942509046221:=0
def tw14672290687396073174:=0
def tw1440074467718674068:=0
def tw12876770430110047827:=0
def tw3691317159267061881:=0
def tw7200313966026959460:=0
def tw3485109804866693702:=0
def tw16920923694486743814:=0
def tw11668429895567566633:=0
def tw6058932920810485629:=0
def tw15736395701690349770:=0
def tw12578298097027322538:=0
def tw15229762102514223045:=0
def tw13089021852342439762:=0
def tw233746733421429916:=0
def tw7314889668464494063:=0
def tw9252548450582014591:=0
def tw13555973465383674464:=0
def tw15309561565010372728:=0
def tw4095157565514929660:=0
def tw11833176845503803280:=0
def tw10995151021739381704:=0
def tw13527017815963301363:=0
def tw12566417702995725616:=0
def tw2047894103586243722:=0
def tw4077583993528848572:=0
def tw17472708833250373260:=0
def tw8591762832547868172:=0
def tw3245788679985895922:=0
def tw7651109328997471811:=0
def tw9142154030696505965:=0
def tw8618686849110924480:=0
def tw12557159397401982159:=0
def tw17797549361161615328:=0
def tw7629485646915409470:=0
def tw17389676421493926971:=0
def tw12253780803724033865:=0
def tw205404015863390157:=0
def tw10707831608214767801:=0
def tw708825778775070224:=0
def tw11928966256162903858:=0
def tw11814396169946544760:=0
def tw314751704925338178:=0
def tw6368558477752470601:=0
def tw16445154923691549774:=0
def tw15190833654105258834:=0
def tw16973178018478886392:=0
def tw2542606389112926153:=0
def tw5137499545988953079:=0
def tw4647985564687182661:=0
def tw11147985899844874309:=0
def tw5052331746921776477:=0
def tw4073146057890656716:=0
def tw14071078082196087491:=0
def tw5833324070967585145:=0
def tw8781773641382598248:=0
def tw9276987061624241833:=0
def tw5260321260456308783:=0
def tw1392622134339107629:=0
def tw8979352903912902402:=0
def tw4373670572794230874:=0
def tw18229232770367014426:=0
def tw17889798588879560017:=0
def tw6612522483942070105:=0
def tw1456411881519825043:=0
def tw8679153562688555141:=0
def tw6110253752730983817:=0
def tw7363258064831105234:=0
def tw3793815139317478512:=0
def tw14246447570873777184:=0
def tw9397011345282902807:=0
def tw293855108273122436:=0
def tw9901300833550024757:=0
def tw3262947365289748939:=0
def tw8098478727376571948:=0
def tw17336123520957478095:=0
def tw17394057887232337072:=0
def tw10652826477024082421:=0
def tw15681021520069843123:=0
def tw8847600386062516254:=0
def tw17059325506495339499:=0
def tw12139133636605878008:=0
def tw10593740075609321283:=0
def tw8352707342830933530:=0
def tw13240347311575533242:=0
def tw17367001213597242612:=0
def tw9635255629853915730:=0
end PySem.W.Fast
namespace Lw
open PySem L2 PyProof.Rows
def top (i:Nat):Stmt:=PySem.Challenge.pw_lackstretch_k35_whole_as_anew.main.body.getD i (.Pass ⟨0,0,0,0⟩)
abbrev uf:Stmt:=top 20
abbrev qe:Stmt:=top 21
abbrev ZG:Stmt:=top 22
abbrev jY:Stmt:=top 23
abbrev vG:Stmt:=top 24
abbrev vh:Stmt:=top 25
abbrev qj:Stmt:=top 26
abbrev vP:Stmt:=top 27
abbrev ZC:Stmt:=top 28
abbrev jc:Stmt:=top 29
abbrev xV:Stmt:=top 30
abbrev wy:Stmt:=top 31
abbrev jd:Stmt:=top 32
abbrev xx:Stmt:=top 33
abbrev wj:Stmt:=top 34
abbrev wZ:Stmt:=top 35
abbrev Xq:Stmt:=top 36
abbrev uz:Stmt:=top 38
abbrev vY:Stmt:=top 39
abbrev yg:Stmt:=top 40
abbrev uI:Stmt:=top 43
abbrev uB:Stmt:=top 44
abbrev qu:Stmt:=top 45
abbrev uM:Stmt:=inClass (top 46) 0
abbrev wH:Stmt:=inClass (top 46) 1
abbrev yS:Stmt:=inClass (top 46) 2
abbrev yF:Stmt:=inClass (top 46) 3
abbrev xq:Stmt:=inClass (top 46) 4
abbrev xU:Stmt:=inClass (top 46) 5
abbrev wL:Stmt:=inClass (top 46) 6
abbrev wM:Stmt:=inClass (top 46) 7
abbrev Xw:Stmt:=inClass (top 46) 8
abbrev vI:Stmt:=top 48
abbrev ZZ:Stmt:=top 49
abbrev Xk:Stmt:=top 50
abbrev ur:Stmt:=inClass (top 52) 0
abbrev tH:Stmt:=inClass (top 52) 1
abbrev qw:Stmt:=inClass (top 52) 2
abbrev xW:Stmt:=inClass (top 52) 3
abbrev vN:Stmt:=inClass (top 52) 4
abbrev tO:Stmt:=inClass (top 52) 5
abbrev wO:Stmt:=inClass (top 52) 6
abbrev tV:Stmt:=top 56
abbrev tL:Stmt:=top 57
abbrev tQ:Stmt:=top 58
abbrev xH:Stmt:=top 59
abbrev vR:Stmt:=top 60
abbrev vU:Stmt:=top 61
abbrev Zd:Stmt:=top 63
abbrev qL:Stmt:=top 64
abbrev yM:Stmt:=top 65
abbrev yL:Stmt:=top 66
abbrev uK:Stmt:=top 67
abbrev qp:Stmt:=top 68
abbrev jZ:Stmt:=top 69
abbrev qd:Stmt:=top 70
abbrev vO:Stmt:=top 71
abbrev tX:Stmt:=top 72
abbrev j7:Stmt:=top 73
abbrev yP:Stmt:=top 74
abbrev jN:Stmt:=top 75
abbrev qQ:Stmt:=top 76
abbrev uA:Stmt:=top 77
abbrev QK:Stmt:=top 78
def Vt:PyData->Bool
 | .int _=>true
 | _=>false
def jL:PyData->Int
 | .int i=>i
 | _=>0
def jJ:PyData->Bool
 | .int i=>decide (2<=i/\i<=16)
 | _=>false
def W5 (b:Int):PyData->Bool
 | .int i=>decide (0<=i/\i<b)
 | _=>false
def U9 (b:Int):PyData->Bool
 | .list xs=>xs.all (W5 b)
 | _=>false
def XR:PyData->List PyData
 | .list xs=>xs
 | _=>[]
def yr (d:PyData):List Int:=(XR d).map jL
def zM (b:Int) (d:PyData):Bool:=U9 b d && decide (1<=(XR d).length/\(XR d).length<=4)
def qO (ls:ZA):Bool:=(List.range (ls.length-1)).all λk=>HT.lexLt (ls.getD k []) (ls.getD (k+1) [])
def zc7 (b:Int):PyData->Bool
 | .list xs=>decide (xs.length<=4) && (xs.all (zM b) && qO (xs.map yr))
 | _=>false
def XQ:PyData->Bool
 | .tuple [d,l]=>jJ d && zc7 (jL d) l
 | _=>false
theorem zda (d:PyData):Vt d=(isT "int" d && !isT "bool" d):=by cases d<;>rfl
theorem Wb {d:PyData} (h:Vt d=true):d=.int (jL d):=by cases d<;>first | rfl | cases h
section
variable {P:Program} {w:World} {K:W.Frag} {mg:Str->Option Value} {base:Heap}
def qt:Sp:=λvs H Q _=>∃ (v:V) (d:PyData),vs=[v]/\ThAt H d v/\Q (.bl (Vt d)) H
theorem zbk:zB ["thing"] ["thing"] (zq uf):={}
theorem j6 {f:Addr} {fd:FuncData} (D:Df K mg "is_whole" uf Aa f fd) (T:Blt mg):FnOk P w K mg base CX0 1 f fd Aa qt:=by
 refine D.fn.ok zbk (λvs H Q E h=>?_) (λcdv A outer s H vs Q E hr h=>?_)
 ·obtain⟨v,d,rfl,_⟩:=h;rfl
 ·obtain⟨v,d,rfl,hd,q⟩:=h
  refine⟨_,(zu (zF (Zv (zA (YK K) (by rfl) T.n_isinstance boot_isinstance (zf (pv 0) (zf (vq (v:=.ty "int") rfl T.n_int boot_int rfl) zg))) (jz (zdZ (zA (YK K) (by rfl) T.n_isinstance boot_isinstance (zf (pv 0) (zf (vq (v:=.ty "bool") rfl T.n_bool boot_bool rfl) zg)))))))),?_⟩
  rw [zda] at q
  refine⟨_,rfl,_,_,_,_,rfl,hd.ty,zcP d,_,rfl,?_⟩
  cases h1:isT "int" d with
  | false=>rw [h1] at q;exact yf q
  | true =>
   rw [h1,Bool.true_and] at q
   exact yp ⟨_,rfl,_,_,_,_,rfl,hd.ty,za0 d,_,rfl,q⟩
def Z4:Sp:=λvs H Q _=>∃ (v:V) (d:PyData),vs=[v]/\ThAt H d v/\Q (.bl (jJ d)) H
theorem zbL:zB ["thing"] ["thing"] (zq ZG):={}
theorem zbS {f f1:Addr} {fd fd1:FuncData} {t1 t2:Tok} (D:Df K mg "is_base" ZG Aa f fd) (yx:Df K mg "is_whole" uf Aa f1 fd1) (T:Blt mg) (Yj:mg "LEAST_BASE" = some (.int 2 t1)) (qx:mg "GREATEST_BASE" = some (.int 16 t2)) :
  FnOk P w K mg base CX0 2 f fd Aa Z4:=by
 have je:FnOk P w K mg base CX0 1 f1 fd1 Aa qt:=j6 yx T
 refine D.fn.ok zbL (λvs H Q E h=>?_) (λcdv A outer s H vs Q E hr h=>?_)
 ·obtain⟨v,d,rfl,_⟩:=h;rfl
 ·obtain⟨v,d,rfl,hd,q⟩:=h
  refine⟨_,(zu (zF (Zv (zJ yx je (hr.mono (by decide)) (zf (pv 0) zg)) (jz (QL XD XD (yH (v:=.int 2) rfl Yj ⟨_,rfl⟩) (pv 0) (yH (v:=.int 16) rfl qx ⟨_,rfl⟩)))))),?_⟩
  refine⟨_,rfl,v,d,rfl,hd,_,rfl,?_⟩
  cases hw:Vt d with
  | false =>
   have:jJ d=false:=by cases d<;>first | rfl | cases hw
   rw [this] at q
   exact yf q
  | true =>
   have e:=Wb hw
   generalize jL d=i at e
   subst e
   rw [ThAt] at hd
   subst hd
   refine yp ⟨_,rfl,_,_,rfl,rfl,_,rfl,?_⟩
   replace q:Q (.bl (decide (2<=i/\i<=16))) H:=q
   refine zbw (λh1=>?_) (λh1=>?_)
   ·have h1':(2:Int)<=i:=of_decide_eq_true h1
    refine⟨_,_,rfl,rfl,?_⟩
    rw [show decide (2<=i/\i<=16)=decide (i<=16) by simp [h1']] at q
    exact q
   ·have h1':¬ (2:Int)<=i:=λz=>h1 (decide_eq_true z)
    rw [show decide (2<=i/\i<=16)=false by simp [h1']] at q
    exact q
def Z2:Sp:=λvs H Q _=>∃ (b:Int) (v:V) (d:PyData),vs=[.int b,v]/\ThAt H d v/\Q (.bl (W5 b d)) H
theorem zao:zB ["base","thing"] ["base","thing"] (zq jY):={}
theorem zaM {f f1:Addr} {fd fd1:FuncData} (D:Df K mg "is_figure" jY Ab f fd) (yx:Df K mg "is_whole" uf Aa f1 fd1) (T:Blt mg):FnOk P w K mg base CX0 2 f fd Ab Z2:=by
 have je:FnOk P w K mg base CX0 1 f1 fd1 Aa qt:=j6 yx T
 refine D.fn.ok zao (λvs H Q E h=>?_) (λcdv A outer s H vs Q E hr h=>?_)
 ·obtain⟨b,v,d,rfl,_⟩:=h;rfl
 ·obtain⟨b,v,d,rfl,hd,q⟩:=h
  refine⟨_,(zu (zF (Zv (zJ yx je (hr.mono (by decide)) (zf (pv 1) zg)) (jz (QL XD JW zr (pv 1) (pv 0)))))),?_⟩
  refine⟨_,rfl,v,d,rfl,hd,_,rfl,?_⟩
  cases hw:Vt d with
  | false =>
   have:W5 b d=false:=by cases d<;>first | rfl | cases hw
   rw [this] at q
   exact yf q
  | true =>
   have e:=Wb hw
   generalize jL d=i at e
   subst e
   rw [ThAt] at hd
   subst hd
   refine yp ⟨_,rfl,_,_,rfl,rfl,_,rfl,?_⟩
   replace q:Q (.bl (decide (0<=i/\i<b))) H:=q
   refine zbw (λh1=>?_) (λh1=>?_)
   ·have h1':(0:Int)<=i:=of_decide_eq_true h1
    refine⟨_,rfl,_,_,rfl,rfl,?_⟩
    rw [show decide (0<=i/\i<b)=decide (i<b) by simp [h1']] at q
    exact q
   ·have h1':¬ (0:Int)<=i:=λz=>h1 (decide_eq_true z)
    rw [show decide (0<=i/\i<b)=false by simp [h1']] at q
    exact q
end
mutual
def vD:PyData->Nat
 | .list xs=>max xs.length (YX xs)
 | .tuple xs=>max xs.length (YX xs)
 | _=>0
def YX:List PyData->Nat
 | []=>0
 | d :: ds=>max (vD d) (YX ds)
end
theorem JS {d:PyData}:∀ {ds:List PyData},d∈ds->vD d<=YX ds
 | e :: ds,h=>by
  rw [YX]
  rcases List.mem_cons.mp h with rfl | h
  ·omega
  ·have:=JS h;omega
theorem Jz {H:Hp} {b:Int}:∀ {xs:List PyData} {ys:List V},ThsAt H xs ys->xs.all (W5 b)=true->ys=(xs.map jL).map V.int
 | [],ys,h,_=>by rw [ThsAt] at h;rw [h];rfl
 | d :: ds,ys,h,q=>by
  rw [ThsAt] at h
  obtain⟨y,zs,h1,h2,h3⟩:=h
  rw [List.all_cons,Bool.and_eq_true] at q
  have e:d=.int (jL d):=by cases d<;>first | rfl | cases q.1
  rw [e,ThAt] at h2
  rw [h1,h2,Jz h3 q.2]
  rfl
theorem ThAt.figs {H:Hp} {b:Int} {d:PyData} {v:V} (h:ThAt H d v) (q:U9 b d=true):∃ a,v=.ref a/\H a=some (.lst ((yr d).map V.int)):=by
 cases d with
 | list xs =>
  rw [ThAt] at h
  obtain⟨a,ys,h1,h2,h3⟩:=h
  exact⟨a,h1,by rw [h2,Jz h3 q];rfl⟩
 | _=>cases q
theorem Ql {d:PyData} (h:isT "list" d=true):∃ xs,d=.list xs:=by
 cases d<;>first | exact⟨_,rfl⟩ | cases h
theorem zdh {d:PyData} (h:isT "tuple" d=true):∃ xs,d=.tuple xs:=by
 cases d<;>first | exact⟨_,rfl⟩ | cases h
theorem Vn {α:Type} {p:α->Bool} {l:List α}:(l.map p).all id=l.all p:=by rw [List.all_map];rfl
section
variable {P:Program} {w:World} {K:W.Frag} {mg:Str->Option Value} {base:Heap}
def jQ:Sp:=λvs H Q _=>∃ (b:Int) (v:V) (d:PyData),vs=[.int b,v]/\ThAt H d v/\vD d<=100000/\∀ H',Same H H'->Q (.bl (U9 b d)) H'
theorem Q9:zB ["base","thing"] ["base","thing"] (zq vG):={}
theorem Qs {f f1:Addr} {fd fd1:FuncData} (D:Df K mg "are_figures" vG Ab f fd) (Yh:Df K mg "is_figure" jY Ab f1 fd1) (X7:FnOk P w K mg base CX0 2 f1 fd1 Ab Z2) (T:Blt mg) :
  FnOk P w K mg base CX0 3 f fd Ab jQ:=by
 refine D.fn.ok Q9 (λvs H Q E h=>?_) (λcdv A outer s H vs Q E hr h=>?_)
 ·obtain⟨b,v,d,rfl,_⟩:=h;rfl
 ·obtain⟨b,v,d,rfl,hd,hs,kk⟩:=h
  refine⟨_,(zu (zF (Zv (zA (YK K) (by rfl) T.n_isinstance boot_isinstance (zf (pv 1) (zf (vq (v:=.ty "list") rfl T.n_list boot_list rfl) zg))) (jz (zA (k_all K rfl) (by rfl) T.n_all boot_all (zf (yW (show CScope (zq vG) _ "each" ["base","thing"] ["base"] [0] from {}) rfl (X5 K (pv 1)) (λ_ _ _ _=>wA) (λ_ _ _ _=>(zJ Yh X7 (hr.mono (by decide)) (zf (pv 1) (zf (pv 0) zg))))) zg)))))),?_⟩
  refine⟨_,rfl,_,_,_,_,rfl,hd.ty,Qz d,_,rfl,?_⟩
  cases hl:isT "list" d with
  | false =>
   have q:=kk H (Same.refl _)
   rw [show U9 b d=false by cases d<;>first | rfl | cases hl] at q
   exact yf q
  | true =>
   obtain⟨xs,rfl⟩:=Ql hl
   rw [ThAt] at hd
   obtain⟨a,ys,rfl,ha,hx⟩:=hd
   rw [vD] at hs
   refine yp ⟨_,rfl,a,rfl,⟨_,SqL.of ha⟩,yQ (K:=K) (a:=a) (xs:=ys) (λi us H4=>us=((xs.take i).map (W5 b)).map V.bl/\H4=H) ⟨by simp,rfl⟩ (λi us H4 _ ⟨_,e⟩=>by rw [e];exact SqL.of ha) ?_ ?_⟩
   ·rintro j x us H4 hj ⟨rfl,rfl⟩
    obtain⟨d,hdj,hd⟩:=hx.get hj
    refine⟨?_,?_⟩
    ·rw [List.length_map,List.length_map,List.length_take]
     exact Nat.lt_of_le_of_lt (show min j xs.length<=100000 by omega) (by decide)
    unfold Xu
    dsimp only
    rw [if_pos rfl]
    refine⟨_,rfl,_,rfl,b,x,d,rfl,hd,?_,rfl⟩
    rw [List.take_succ,hdj];simp
   ·rintro us H4 ⟨rfl,rfl⟩ Dd hD
    refine⟨Dd,_,rfl,SqL.of zj,?_⟩
    rw [hx.len,List.take_length,Vn]
    exact kk _ (zm hD)
def vM:Sp:=λvs H Q _=>∃ (b:Int) (v:V) (d:PyData),vs=[.int b,v]/\ThAt H d v/\vD d<=100000/\∀ H',Same H H'->Q (.bl (zM b d)) H'
theorem Ji:zB ["base","thing"] ["base","thing"] (zq vh):={}
theorem Ju {f f1:Addr} {fd fd1:FuncData} {t1:Tok} (D:Df K mg "is_stretch" vh Ab f fd) (qY:Df K mg "are_figures" vG Ab f1 fd1) (Yl:FnOk P w K mg base CX0 3 f1 fd1 Ab jQ) (um:mg "LONGEST_STRETCH" = some (.int 4 t1)) (T:Blt mg) :
  FnOk P w K mg base CX0 4 f fd Ab vM:=by
 refine D.fn.ok Ji (λvs H Q E h=>?_) (λcdv A outer s H vs Q E hr h=>?_)
 ·obtain⟨b,v,d,rfl,_⟩:=h;rfl
 ·obtain⟨b,v,d,rfl,hd,hs,kk⟩:=h
  refine⟨_,(zu (zF (Zv (zJ qY Yl (hr.mono (by decide)) (zf (pv 0) (zf (pv 1) zg))) (jz (QL XD XD zr (zA (wF K) (by rfl) T.n_len PySem.boot_len (zf (pv 1) zg)) (yH (v:=.int 4) rfl um ⟨_,rfl⟩)))))),?_⟩
  refine⟨_,rfl,_,rfl,b,v,d,rfl,hd,hs,λH1 m1=>⟨_,rfl,?_⟩⟩
  have q:=kk H1 m1
  unfold zM at q
  cases hf:U9 b d with
  | false=>rw [hf] at q;exact yf q
  | true =>
   rw [hf,Bool.true_and] at q
   obtain⟨a,rfl,ha⟩:=ThAt.figs hd hf
   refine yp ⟨_,rfl,a,_,rfl,.inl (SqL.of (m1 _ _ ha)),_,_,rfl,rfl,_,rfl,?_⟩
   have el:(yr d).length=(XR d).length:=List.length_map _
   rw [List.length_map,el]
   generalize (XR d).length=n at q
   by_cases h1:1<=n
   ·rw [decide_eq_true (show (1:Int)<=(n:Int) by omega)]
    refine yp ⟨_,_,rfl,rfl,?_⟩
    rw [show decide (1<=n/\n<=4)=decide ((n:Int)<=4) from decide_eq_decide.mpr ⟨λz=>by omega,λz=>⟨h1,by omega⟩⟩] at q
    exact q
   ·rw [decide_eq_false (show ¬ (1:Int)<=(n:Int) by omega)]
    rw [decide_eq_false (show ¬ (1<=n/\n<=4) from λz=>h1 z.1)] at q
    exact yf q
def Z7:Sp:=λvs H Q _=>∃ (bl:Addr) (zs:ZB),vs=[.ref bl]/\H bl=some (.lst (zs.map λz=>V.ref z.1))/\(∀ z∈zs,H z.1=some (.lst (z.2.map V.int)))/\zs.length<=4/\∀ H',Same H H'->Q (.bl (qO (zs.map (·.2)))) H'
theorem zaP:zB ["stretches"] ["stretches"] (zq qj):={}
theorem Vc {f:Addr} {fd:FuncData} (D:Df K mg "is_rising" qj Aw f fd) (T:Blt mg):FnOk P w K mg base CX0 1 f fd Aw Z7:=by
 refine D.fn.ok zaP (λvs H Q E h=>?_) (λcdv A outer s H vs Q E hr h=>?_)
 ·obtain⟨bl,zs,rfl,_⟩:=h;rfl
 ·obtain⟨bl,zs,rfl,hb,hz,h4,kk⟩:=h
  have HU:=Wt hr
  refine⟨_,(zu (zF (zA (k_all K rfl) (by rfl) T.n_all boot_all (zf (yW (show CScope (zq qj) _ "k" ["stretches"] ["stretches"] [0] from {}) rfl (xg rfl T.n_range (zf (zN Vg (zA (wF K) (by rfl) T.n_len PySem.boot_len (zf (pv 0) zg)) zr) zg)) (λ_ _ _ _=>wA) (λ_ _ _ _=>(tR (zgP K HU) (zW (yO K) (pv 1) (pv 0) (λ_ _=>rfl)) (zW (yO K) (pv 1) (zN wJ (pv 0) zr) (λ_ _=>rfl)) (zV _)))) zg)))),?_⟩
  refine⟨_,rfl,bl,_,rfl,.inl (SqL.of hb),_,_,rfl,rfl,_,rfl,?_⟩
  rw [List.length_map]
  refine⟨by omega,by omega,uU (lo:=0) (n:=((zs.length:Int)-1).toNat) (λi ys H4=>ys=((List.range i).map λk=>HT.lexLt ((zs.map (·.2)).getD k []) ((zs.map (·.2)).getD (k+1) [])).map V.bl/\H4=H) ⟨by simp,rfl⟩ ?_ ?_⟩
  ·rintro i ys H4 hi ⟨rfl,rfl⟩
   refine⟨by rw [List.length_map,List.length_map,List.length_range];exact Nat.lt_of_lt_of_le (show i<5 by omega) (by decide),?_⟩
   unfold Xu
   dsimp only
   rw [if_pos rfl]
   have hi0:i<zs.length:=by omega
   have hi1:i+1<zs.length:=by omega
   have g0:atI (zs.map λz=>V.ref z.1) (0+(i:Int))=some (.ref (zs[i]).1):=by rw [Int.zero_add];exact vf (by rw [List.getElem?_map,List.getElem?_eq_getElem hi0];rfl)
   have g1:atI (zs.map λz=>V.ref z.1) (0+(i:Int)+1)=some (.ref (zs[i+1]).1):=by rw [Int.zero_add];exact vf (j:=i+1) (by rw [List.getElem?_map,List.getElem?_eq_getElem hi1];rfl)
   refine⟨_,rfl,_,rfl,bl,_,_,_,rfl,rfl,SqL.of hb,g0,?_⟩
   refine⟨_,rfl,_,rfl,_,_,rfl,rfl,bl,_,_,_,rfl,rfl,SqL.of hb,g1,?_⟩
   refine⟨_,_,_,_,rfl,rfl,SqL.of (hz _ (List.getElem_mem hi0)),SqL.of (hz _ (List.getElem_mem hi1)),?_,rfl⟩
   rw [List.range_succ]
   have e0:(zs.map (·.2)).getD i []=(zs[i]).2:=by simp [List.getD,List.getElem?_map,List.getElem?_eq_getElem hi0]
   have e1:(zs.map (·.2)).getD (i+1) []=(zs[i+1]).2:=by simp [List.getD,List.getElem?_map,List.getElem?_eq_getElem hi1]
   rw [List.map_append,List.map_append,List.map_singleton,List.map_singleton,e0,e1]
  ·rintro ys H4 ⟨rfl,rfl⟩ Dd hD
   refine⟨Dd,_,rfl,SqL.of zj,?_⟩
   rw [Vn]
   have q:=kk _ (zm hD (o:=.lst (((List.range ((zs.length:Int)-1).toNat).map λk=>HT.lexLt ((zs.map (·.2)).getD k []) ((zs.map (·.2)).getD (k+1) [])).map V.bl)))
   unfold qO at q
   rw [List.length_map,show zs.length-1=((zs.length:Int)-1).toNat by omega] at q
   exact q
end
end Lw
namespace Lw
open PySem L2 PyProof.Rows
theorem Wy {H:Hp} {b:Int}:∀ {xs:List PyData} {ys:List V},ThsAt H xs ys->xs.all (zM b)=true->∃ zs:ZB,ys=zs.map (λz=>V.ref z.1)/\zs.map (·.2)=xs.map yr/\∀ z∈zs,H z.1=some (.lst (z.2.map V.int))
 | [],ys,h,_=>by rw [ThsAt] at h;exact⟨[],h,rfl,by simp⟩
 | d :: ds,ys,h,q=>by
  rw [ThsAt] at h
  obtain⟨y,us,h1,h2,h3⟩:=h
  rw [List.all_cons,Bool.and_eq_true] at q
  obtain⟨zs,e1,e2,e3⟩:=Wy h3 q.2
  have qf:U9 b d=true:=by have:=q.1;unfold zM at this;rw [Bool.and_eq_true] at this;exact this.1
  obtain⟨a,ea,ha⟩:=ThAt.figs h2 qf
  refine⟨(a,yr d) :: zs,by rw [h1,ea,e1];rfl,by rw [List.map_cons,List.map_cons,e2],λz hz=>?_⟩
  rcases List.mem_cons.mp hz with rfl | hz
  ·exact ha
  ·exact e3 z hz
section
variable {P:Program} {w:World} {K:W.Frag} {mg:Str->Option Value} {base:Heap}
def jh:Sp:=λvs H Q _=>∃ (b:Int) (v:V) (d:PyData),vs=[.int b,v]/\ThAt H d v/\vD d<=100000/\∀ H',Same H H'->Q (.bl (zc7 b d)) H'
theorem Qi:zB ["base","thing"] ["base","thing"] (zq vP):={}
theorem Uu {f f1 f2:Addr} {fd fd1 fd2:FuncData} {t1:Tok} (D:Df K mg "is_bad_list" vP Ab f fd) (xf:Df K mg "is_stretch" vh Ab f1 fd1) (xO:FnOk P w K mg base CX0 4 f1 fd1 Ab vM) (jB:Df K mg "is_rising" qj Aw f2 fd2) (xj:mg "MOST_STRETCHES" = some (.int 4 t1)) (T:Blt mg) :
  FnOk P w K mg base CX0 5 f fd Ab jh:=by
 have UV:FnOk P w K mg base CX0 1 f2 fd2 Aw Z7:=Vc jB T
 refine D.fn.ok Qi (λvs H Q E h=>?_) (λcdv A outer s H vs Q E hr h=>?_)
 ·obtain⟨b,v,d,rfl,_⟩:=h;rfl
 ·obtain⟨b,v,d,rfl,hd,hs,kk⟩:=h
  refine⟨_,(zp (yE (PW.pt (jX (wz (xm (zA (YK K) (by rfl) T.n_isinstance boot_isinstance (zf (pv 1) (zf (vq (v:=.ty "list") rfl T.n_list boot_list rfl) zg))))) (uR (zP zba (zA (wF K) (by rfl) T.n_len PySem.boot_len (zf (pv 1) zg)) (yH (v:=.int 4) rfl xj ⟨_,rfl⟩) (zV _)))))
    (zu (zF jn))
    zT)
   (zu (zF (Zv (zA (k_all K rfl) (by rfl) T.n_all boot_all (zf (yW (show CScope (zq vP) _ "each" ["base","thing"] ["base"] [0] from {}) rfl (X5 K (pv 1)) (λ_ _ _ _=>wA) (λ_ _ _ _=>(zJ xf xO (hr.mono (by decide)) (zf (pv 1) (zf (pv 0) zg))))) zg)) (jz (zJ jB UV (hr.mono (by decide)) (zf (pv 1) zg))))))),?_⟩
  refine⟨_,rfl,_,_,_,_,rfl,hd.ty,Qz d,_,rfl,?_⟩
  cases hl:isT "list" d with
  | false =>
   have q:=kk H (Same.refl _)
   rw [show zc7 b d=false by cases d<;>first | rfl | cases hl] at q
   exact yp (yp q)
  | true =>
   obtain⟨xs,rfl⟩:=Ql hl
   rw [ThAt] at hd
   obtain⟨a,ys,rfl,ha,hx⟩:=hd
   rw [vD] at hs
   refine yf ⟨_,rfl,a,_,rfl,.inl (SqL.of ha),_,_,rfl,rfl,_,rfl,?_⟩
   rw [hx.len]
   have kk':∀ H',Same H H'->Q (.bl (decide (xs.length<=4) && (xs.all (zM b) && qO (xs.map yr)))) H':=kk
   by_cases h4:xs.length<=4
   case neg =>
    rw [decide_eq_true (show (4:Int)<(xs.length:Int) by omega)]
    have q:=kk' H (Same.refl _)
    rw [decide_eq_false h4,Bool.false_and] at q
    exact yp q
   rw [decide_eq_false (show ¬ (4:Int)<(xs.length:Int) by omega)]
   rw [decide_eq_true h4,Bool.true_and] at kk'
   refine yf ⟨_,rfl,a,rfl,⟨_,SqL.of ha⟩,yQ (K:=K) (a:=a) (xs:=ys) (λi us H4=>us=((xs.take i).map (zM b)).map V.bl/\Same H H4) ⟨by simp,Same.refl _⟩ (λi us H4 _ ⟨_,e⟩=>SqL.of (e _ _ ha)) ?_ ?_⟩
   ·rintro j x us H4 hj ⟨rfl,m4⟩
    obtain⟨d,hdj,hd⟩:=hx.get hj
    refine⟨?_,?_⟩
    ·rw [List.length_map,List.length_map,List.length_take]
     exact Nat.lt_of_le_of_lt (show min j xs.length<=4 by omega) (by decide)
    unfold Xu
    dsimp only
    rw [if_pos rfl]
    have:=JS (List.mem_of_getElem? hdj)
    refine⟨_,rfl,_,rfl,b,x,d,rfl,hd.same m4,by omega,λH5 m5=>⟨?_,m4.trans m5⟩⟩
    rw [List.take_succ,hdj];simp
   ·rintro us H4 ⟨rfl,m4⟩ Dd hD
    refine⟨Dd,_,rfl,SqL.of zj,?_⟩
    have m5:=m4.trans (zm hD (o:=.lst (((xs.take ys.length).map (zM b)).map V.bl)))
    rw [hx.len,List.take_length,Vn] at *
    refine⟨_,rfl,?_⟩
    cases hst:xs.all (zM b) with
    | false =>
     have q:=kk' _ m5
     rw [hst,Bool.false_and] at q
     exact yf q
    | true =>
     rw [hst,Bool.true_and] at kk'
     obtain⟨zs,e1,e2,e3⟩:=Wy hx hst
     refine yp ⟨_,rfl,a,zs,rfl,by rw [<- e1];exact m5 _ _ ha,λz hz=>m5 _ _ (e3 z hz),?_,λH6 m6=>?_⟩
     ·have:=congrArg List.length e2;rw [List.length_map,List.length_map] at this;omega
     ·rw [e2];exact kk' H6 (m5.trans m6)
def Yk:Sp:=λvs H Q _=>∃ (v:V) (d:PyData),vs=[v]/\ThAt H d v/\vD d<=100000/\∀ H',Same H H'->Q (.bl (XQ d)) H'
theorem zcn:zB ["thing"] ["thing"] (zq ZC):={}
theorem zbD {f f1 f2:Addr} {fd fd1 fd2:FuncData} (D:Df K mg "is_rule" ZC Aa f fd) (jC:Df K mg "is_base" ZG Aa f1 fd1) (ZK:FnOk P w K mg base CX0 2 f1 fd1 Aa Z4) (qW:Df K mg "is_bad_list" vP Ab f2 fd2) (Yx:FnOk P w K mg base CX0 5 f2 fd2 Ab jh) (T:Blt mg) :
  FnOk P w K mg base CX0 6 f fd Aa Yk:=by
 refine D.fn.ok zcn (λvs H Q E h=>?_) (λcdv A outer s H vs Q E hr h=>?_)
 ·obtain⟨v,d,rfl,_⟩:=h;rfl
 ·obtain⟨v,d,rfl,hd,hs,kk⟩:=h
  refine⟨_,(zp (yE (PW.pt (jX (wz (xm (zA (YK K) (by rfl) T.n_isinstance boot_isinstance (zf (pv 0) (zf (vq (v:=.ty "tuple") rfl T.n_tuple boot_tuple rfl) zg))))) (uR (zP zcQ (zA (wF K) (by rfl) T.n_len PySem.boot_len (zf (pv 0) zg)) zr (zV _)))))
    (zu (zF jn))
    zT)
   (zu (zF (Zv (zJ jC ZK (hr.mono (by decide)) (zf (zW (wU K) (pv 0) zr (λ_ _=>rfl)) zg)) (jz (zJ qW Yx (hr.mono (by decide)) (zf (zW (wU K) (pv 0) zr (λ_ _=>rfl)) (zf (zW (wU K) (pv 0) zr (λ_ _=>rfl)) zg)))))))),?_⟩
  refine⟨_,rfl,_,_,_,_,rfl,hd.ty,kit_tuple d,_,rfl,?_⟩
  cases hl:isT "tuple" d with
  | false =>
   have q:=kk H (Same.refl _)
   rw [show XQ d=false by cases d<;>first | rfl | cases hl] at q
   exact yp (yp q)
  | true =>
   obtain⟨xs,rfl⟩:=zdh hl
   rw [ThAt] at hd
   obtain⟨a,ys,rfl,ha,hx⟩:=hd
   rw [vD] at hs
   refine yf ⟨_,rfl,a,_,rfl,.inr (SqT.of ha),rfl,_,rfl,?_⟩
   rw [hx.len]
   match xs,hx,hs,kk with
   | [],hx,hs,kk=>exact yp (kk H (Same.refl _))
   | [_],hx,hs,kk=>exact yp (kk H (Same.refl _))
   | _ :: _ :: _ :: t,hx,hs,kk =>
    have q:Q (.bl false) H:=kk H (Same.refl _)
    rename_i d1 d2 d3
    rw [show (!decide (V.int ((d1 :: d2 :: d3 :: t).length:Nat)=V.int 2))=true by
     rw [decide_eq_false (λz=>by injection z with z;rw [List.length_cons,List.length_cons,List.length_cons] at z;omega)];rfl]
    exact yp q
   | [d,e],hx,hs,kk =>
    rw [ThsAt] at hx
    obtain⟨y,us,rfl,hd,hx⟩:=hx
    rw [ThsAt] at hx
    obtain⟨z,ws,rfl,he,hx⟩:=hx
    rw [ThsAt] at hx
    subst hx
    rw [YX,YX,YX] at hs
    refine yf ?_
    refine⟨_,rfl,a,_,_,y,rfl,rfl,SqT.of ha,rfl,y,d,rfl,hd,_,rfl,?_⟩
    have kk':∀ H',Same H H'->Q (.bl (jJ d && zc7 (jL d) e)) H':=kk
    cases hb:jJ d with
    | false =>
     have q:=kk' H (Same.refl _)
     rw [hb,Bool.false_and] at q
     exact yf q
    | true =>
     rw [hb,Bool.true_and] at kk'
     have ed:d=.int (jL d):=by cases d<;>first | rfl | cases hb
     have ey:y=.int (jL d):=by rw [ed,ThAt] at hd;exact hd
     subst ey
     exact yp ⟨_,rfl,a,_,_,V.int (jL d),rfl,rfl,SqT.of ha,rfl,_,rfl,a,_,_,z,rfl,rfl,SqT.of ha,rfl,jL d,z,e,rfl,he,by omega,kk'⟩
end
structure RuleAt (H:Hp) (r:Addr) (b:Nat) (bl:Addr) (zs:ZB):Prop where
 tu:H r=some (.tup [.int b,.ref bl])
 li:H bl=some (.lst (zs.map λz=>V.ref z.1))
 st:∀ z∈zs,H z.1=some (.lst (z.2.map V.int))
theorem RuleAt.same {H H':Hp} {r bl:Addr} {b:Nat} {zs:ZB} (R:RuleAt H r b bl zs) (s:Same H H'):RuleAt H' r b bl zs:=⟨s _ _ R.tu,s _ _ R.li,λz hz=>s _ _ (R.st z hz)⟩
structure QT (b:Nat) (l:List Int):Prop where
 ne:l≠[]
 len:l.length<=4
 fig:∀ f∈l,0<=f/\f<b
structure GoodRule (b:Nat) (ls:ZA):Prop where
 b2:2<=b
 b16:b<=16
 len:ls.length<=4
 st:∀ l∈ls,QT b l
 up:ls.Pairwise λx y=>HT.lexLt x y=true
theorem Vw (xs:List V) (m:Nat):ju xs none (some (m:Int))=xs.take m:=by
 unfold ju
 rw [HT.Wu,HT.QS,List.drop_zero,Nat.sub_zero]
 by_cases h:m<=xs.length
 ·rw [Nat.min_eq_left h]
 ·rw [Nat.min_eq_right (by omega),List.take_of_length_le (Nat.le_refl _),List.take_of_length_le (by omega)]
theorem Xo (xs:List V) (m:Nat):ju xs (some (m:Int)) none=xs.drop m:=by
 unfold ju
 rw [HT.Wu,HT.QS]
 by_cases h:m<=xs.length
 ·rw [Nat.min_eq_left h,List.take_of_length_le (by rw [List.length_drop];omega)]
 ·rw [Nat.min_eq_right (by omega),List.drop_of_length_le (Nat.le_refl _),List.drop_of_length_le (by omega)];simp
theorem RuleAt.all {fp:List Addr} {r bl:Addr} {H:Hp} {b:Nat} {zs:ZB} (R:RuleAt (aw fp H) r b bl zs):RuleAt H r b bl zs:=R.same (zK fp H)
theorem Xg {ls:ZA} {x:List Int}:((ls.map yK).any λt=>teq t (yK x))=decide (x∈ls):=by
 rw [Bool.eq_iff_iff]
 simp only [List.any_eq_true,List.mem_map,decide_eq_true_eq]
 constructor
 ·rintro⟨t,⟨l,hl,rfl⟩,e⟩
  rw [ql] at e
  rw [<- of_decide_eq_true e];exact hl
 ·intro h
  exact⟨yK x,⟨x,h,rfl⟩,qg _⟩
theorem wk:∀ ls:ZA,wg (ls.map yK)<=1
 | []=>by simp [wg]
 | l :: ls=>by rw [List.map_cons,wg,uO];have:=wk ls;omega
theorem TrsAt.lists {K:W.Frag} {H:Hp}:∀ {zs:ZB},(∀ z∈zs,H z.1=some (.lst (z.2.map V.int)))->TrsAt K H ((zs.map (·.2)).map yK) (zs.map λz=>V.ref z.1)
 | [],_=>by rw [List.map_nil,List.map_nil,TrsAt];rfl
 | z :: zs,h=>by
  rw [List.map_cons,List.map_cons,TrsAt]
  exact⟨_,_,rfl,TrAt.ints (SqL.of (h z List.mem_cons_self)),TrsAt.lists λz hz=>h z (List.mem_cons_of_mem _ hz)⟩
section
variable {P:Program} {w:World} {K:W.Frag} {mg:Str->Option Value} {base:Heap}
theorem zee (xs:List V) (k m:Nat):ju xs (some (k:Int)) (some (m:Int))=(xs.drop k).take (m-k):=by
 unfold ju
 rw [HT.Wu,HT.Wu]
 by_cases hk:k<=xs.length
 ·rw [Nat.min_eq_left hk]
  by_cases hm:m<=xs.length
  ·rw [Nat.min_eq_left hm]
  ·rw [Nat.min_eq_right (by omega),List.take_of_length_le (by rw [List.length_drop];omega),List.take_of_length_le (by rw [List.length_drop];omega)]
 ·rw [List.drop_of_length_le (show xs.length<=k by omega),Nat.min_eq_right (show xs.length<=k by omega),List.drop_of_length_le (Nat.le_refl _)]
  simp
def uY:Sp:=λvs H Q _=>∃ (sa fa:Addr) (st fs:List Int),vs=[.ref sa,.ref fa]/\H sa=some (.lst (st.map V.int))/\H fa=some (.lst (fs.map V.int))/\st≠[]/\st.length<=1000/\fs.length<=1000/\∀ H',Same H H'->Q (.bl (Uw st fs)) H'
theorem ZF:zB ["stretch","figures","size"] ["stretch","figures"] (zq xx):={}
theorem ZL {f:Addr} {fd:FuncData} (D:Df K mg "stands_within" xx Ax f fd) (T:Blt mg):FnOk P w K mg base CX0 1 f fd Ax uY:=by
 refine D.fn.ok ZF (λvs H Q E h=>?_) (λcdv A outer s H vs Q E hr h=>?_)
 ·obtain⟨sa,fa,st,fs,rfl,_⟩:=h;rfl
 ·obtain⟨sa,fa,st,fs,rfl,hs,hf,ne,hl1,hl2,kk⟩:=h
  have HU:=Wt hr
  refine⟨_,(zp (zH (i:=2) ZF.nd rfl (Or.inr rfl) (zA (wF K) (by rfl) T.n_len PySem.boot_len (zf (pv 0) zg)))
   (zu (zF (zA (zeF K rfl) (by rfl) T.n_any boot_any (zf (yW (show CScope (zq xx) _ "k" ["stretch","figures","size"] ["stretch","figures","size"] [0,1,2] from {}) rfl (xg rfl T.n_range (zf (zN wJ (zN Vg (zA (wF K) (by rfl) T.n_len PySem.boot_len (zf (pv 1) zg)) (pv 2)) zr) zg)) (λ_ _ _ _=>wA) (λ_ _ _ _=>(tR (zcF K HU) (wV (Y9 K) (pv 2) (vV (pv 0)) (vV (zN wJ (pv 0) (pv 3)))) (pv 1) (zV _)))) zg))))),?_⟩
  refine⟨_,rfl,sa,_,rfl,.inl (SqL.of hs),?_⟩
  rw [List.length_map]
  refine⟨_,rfl,fa,_,rfl,.inl (SqL.of hf),_,rfl,_,_,rfl,rfl,_,_,rfl,rfl,_,rfl,?_⟩
  rw [List.length_map]
  refine⟨by omega,by omega,uU (lo:=0) (n:=((fs.length:Int)-st.length+1).toNat) (λi ys H4=>ys=((List.range i).map λk=>decide ((fs.drop k).take st.length=st)).map V.bl/\Same H H4) ⟨by simp,Same.refl _⟩ ?_ ?_⟩
  ·rintro i ys H4 hi ⟨rfl,s4⟩
   refine⟨by rw [List.length_map,List.length_map,List.length_range];exact Nat.lt_of_lt_of_le (show i<2000 by omega) (by decide),?_⟩
   unfold Xu
   dsimp only
   rw [if_pos rfl]
   refine⟨_,rfl,_,rfl,_,rfl,_,rfl,_,rfl,_,_,rfl,rfl,_,rfl,fa,_,rfl,SqL.of (s4 _ _ hf),λp hp=>?_⟩
   have e1:ju (fs.map V.int) (some (0+(i:Int))) (some (0+(i:Int)+(st.length:Int)))=((fs.drop i).take st.length).map V.int:=by
    have e:(0+(i:Int)+(st.length:Int))=((i+st.length:Nat):Int):=by omega
    rw [e,Int.zero_add,zee,List.map_take,List.map_drop,Nat.add_sub_cancel_left]
   rw [e1]
   refine⟨_,rfl,yK ((fs.drop i).take st.length),yK st,TrAt.ints (a:=p) (SqL.of zj),TrAt.ints (a:=sa) (SqL.of (zm hp _ _ (s4 _ _ hs))),(by rw [uO];decide),?_,s4.trans (zm hp)⟩
   rw [List.range_succ,List.map_append,List.map_append]
   have e2:=ql ((fs.drop i).take st.length) st
   show _=_++[V.bl (decide ((fs.drop i).take st.length=st))]
   rw [<- e2];rfl
  ·rintro ys H4 ⟨rfl,s4⟩ Dd hD
   refine⟨Dd,_,rfl,SqL.of zj,?_⟩
   have q:=kk _ (s4.trans (zm hD (o:=.lst (((List.range ((fs.length:Int)-st.length+1).toNat).map λk=>decide ((fs.drop k).take st.length=st)).map V.bl))))
   rw [zca ne] at q
   rw [List.any_map]
   exact q
def wX:Sp:=λvs H Q _=>∃ (bl fa:Addr) (zs:ZB) (fs:List Int),vs=[.ref bl,.ref fa]/\H bl=some (.lst (zs.map λz=>V.ref z.1))/\(∀ z∈zs,H z.1=some (.lst (z.2.map V.int)))/\H fa=some (.lst (fs.map V.int))/\zs.length<=100/\fs.length<=1000/\(∀ z∈zs,z.2≠[]/\z.2.length<=1000)/\∀ H',Same H H'->Q (.bl (lacks (zs.map (·.2)) fs)) H'
theorem zaE:zB ["bad","figures"] ["bad","figures"] (zq wj):={}
theorem W3 {f f1:Addr} {fd fd1:FuncData} (D:Df K mg "lacks_all" wj Ac f fd) (yN:Df K mg "stands_within" xx Ax f1 fd1) (T:Blt mg):FnOk P w K mg base CX0 2 f fd Ac wX:=by
 have YS:FnOk P w K mg base CX0 1 f1 fd1 Ax uY:=ZL yN T
 refine D.fn.ok zaE (λvs H Q E h=>?_) (λcdv A outer s H vs Q E hr h=>?_)
 ·obtain⟨bl,fa,zs,fs,rfl,_⟩:=h;rfl
 ·obtain⟨bl,fa,zs,fs,rfl,hb,hz,hf,hl1,hl2,ne,kk⟩:=h
  refine⟨_,(zu (zF (zdZ (zA (zeF K rfl) (by rfl) T.n_any boot_any (zf (yW (show CScope (zq wj) _ "stretch" ["bad","figures"] ["figures"] [1] from {}) rfl (X5 K (pv 0)) (λ_ _ _ _=>wA) (λ_ _ _ _=>(zJ yN YS (hr.mono (by decide)) (zf (pv 0) (zf (pv 1) zg))))) zg))))),?_⟩
  refine⟨_,rfl,bl,rfl,⟨_,SqL.of hb⟩,yQ (K:=K) (a:=bl) (xs:=zs.map λz=>V.ref z.1) (λi ys H4=>ys=((zs.take i).map λz=>Uw z.2 fs).map V.bl/\Same H H4) ⟨by simp,Same.refl _⟩ (λi ys H4 _ ⟨_,e⟩=>SqL.of (e _ _ hb)) ?_ ?_⟩
  ·rintro j x ys H4 hx ⟨rfl,s4⟩
   rw [List.getElem?_map] at hx
   obtain⟨z,hzj,e⟩:=Option.map_eq_some_iff.mp hx
   subst e
   have hzm:=List.mem_of_getElem? hzj
   refine⟨?_,?_⟩
   ·rw [List.length_map,List.length_map,List.length_take]
    exact Nat.lt_of_le_of_lt (Nat.le_trans (Nat.min_le_right _ _) hl1) (by decide)
   unfold Xu
   dsimp only
   rw [if_pos rfl]
   refine⟨_,rfl,_,rfl,z.1,fa,z.2,fs,rfl,s4 _ _ (hz z hzm),s4 _ _ hf,(ne z hzm).1,(ne z hzm).2,hl2,λH5 s5=>⟨?_,s4.trans s5⟩⟩
   rw [List.take_succ,hzj]
   simp
  ·rintro ys H4 ⟨rfl,s4⟩ Dd hD
   refine⟨Dd,_,rfl,SqL.of zj,_,rfl,?_⟩
   have q:=kk _ (s4.trans (zm hD (o:=.lst (((zs.take (zs.map λz=>V.ref z.1).length).map λz=>Uw z.2 fs).map V.bl))))
   rw [List.length_map,List.take_length] at q ⊢
   unfold lacks at q
   rw [List.any_map] at q ⊢
   exact q
def Zg:Sp:=λvs H Q _=>∃ (bl fa:Addr) (zs:ZB) (fs:List Int),vs=[.ref bl,.ref fa]/\H bl=some (.lst (zs.map λz=>V.ref z.1))/\(∀ z∈zs,H z.1=some (.lst (z.2.map V.int)))/\H fa=some (.lst (fs.map V.int))/\zs.length<=100/\∀ H',Same H H'->Q (.bl (Yb (zs.map (·.2)) fs)) H'
theorem Jp:zB ["bad","figures"] ["bad","figures"] (zq uz):={}
theorem XF {f:Addr} {fd:FuncData} (D:Df K mg "begins_one" uz Ac f fd) (T:Blt mg):FnOk P w K mg base CX0 1 f fd Ac Zg:=by
 refine D.fn.ok Jp (λvs H Q E h=>?_) (λcdv A outer s H vs Q E hr h=>?_)
 ·obtain⟨bl,fa,zs,fs,rfl,_⟩:=h;rfl
 ·obtain⟨bl,fa,zs,fs,rfl,hb,hz,hf,hl1,kk⟩:=h
  have HU:=Wt hr
  refine⟨_,(zu (zF (zA (zeF K rfl) (by rfl) T.n_any boot_any (zf (yW (show CScope (zq uz) _ "stretch" ["bad","figures"] ["figures"] [1] from {}) rfl (X5 K (pv 0)) (λ_ _ _ _=>wA) (λ_ _ _ _=>(tR (zcF K HU) (wV (Y9 K) (pv 0) tG (vV (zA (wF K) (by rfl) T.n_len PySem.boot_len (zf (pv 1) zg)))) (pv 1) (zV _)))) zg)))),?_⟩
  refine⟨_,rfl,bl,rfl,⟨_,SqL.of hb⟩,yQ (K:=K) (a:=bl) (xs:=zs.map λz=>V.ref z.1) (λi ys H4=>ys=((zs.take i).map λz=>decide (z.2.take fs.length=fs)).map V.bl/\Same H H4) ⟨by simp,Same.refl _⟩ (λi ys H4 _ ⟨_,e⟩=>SqL.of (e _ _ hb)) ?_ ?_⟩
  ·rintro j x ys H4 hx ⟨rfl,s4⟩
   rw [List.getElem?_map] at hx
   obtain⟨z,hzj,e⟩:=Option.map_eq_some_iff.mp hx
   subst e
   have hzm:=List.mem_of_getElem? hzj
   refine⟨?_,?_⟩
   ·rw [List.length_map,List.length_map,List.length_take]
    exact Nat.lt_of_le_of_lt (Nat.le_trans (Nat.min_le_right _ _) hl1) (by decide)
   unfold Xu
   dsimp only
   rw [if_pos rfl]
   refine⟨_,rfl,_,rfl,fa,_,rfl,.inl (SqL.of (s4 _ _ hf)),_,rfl,z.1,_,rfl,SqL.of (s4 _ _ (hz z hzm)),λp hp=>?_⟩
   rw [List.length_map,Vw,<- List.map_take]
   refine⟨_,rfl,yK (z.2.take fs.length),yK fs,TrAt.ints (a:=p) (SqL.of zj),TrAt.ints (a:=fa) (SqL.of (zm hp _ _ (s4 _ _ hf))),(by rw [uO];decide),?_,s4.trans (zm hp)⟩
   rw [List.take_succ,hzj]
   have e2:=ql (z.2.take fs.length) fs
   show _++[V.bl (teq _ _)]=_
   rw [e2]
   simp
  ·rintro ys H4 ⟨rfl,s4⟩ Dd hD
   refine⟨Dd,_,rfl,SqL.of zj,?_⟩
   have q:=kk _ (s4.trans (zm hD (o:=.lst (((zs.take (zs.map λz=>V.ref z.1).length).map λz=>decide (z.2.take fs.length=fs)).map V.bl))))
   rw [List.length_map,List.take_length] at q ⊢
   unfold Yb at q
   rw [List.any_map] at q ⊢
   exact q
def zgp (ls:ZA) (fs:List Int) (H H':Hp) (v:V):Prop:=(lacks ls fs=false/\v=.non)\/(lacks ls fs=true/\∃ l,v=.ref l/\H l=none/\H' l=some (.lst ((ye ls fs).map V.int)))
def uW:Sp:=λvs H Q _=>∃ (bl fa:Addr) (zs:ZB) (fs:List Int),vs=[.ref bl,.ref fa]/\H bl=some (.lst (zs.map λz=>V.ref z.1))/\(∀ z∈zs,H z.1=some (.lst (z.2.map V.int)))/\H fa=some (.lst (fs.map V.int))/\zs.length<=100/\fs.length<=1000/\(∀ z∈zs,z.2≠[]/\z.2.length<=1000) /\
 ∀ v H',zgp (zs.map (·.2)) fs H H' v->Same H H'->Q v H'
theorem Zy:zB ["bad","figures","start"] ["bad","figures"] (zq vY):={}
theorem Vu {f f1 f2:Addr} {fd fd1 fd2:FuncData} (D:Df K mg "longest_stand" vY Ac f fd) (yw:Df K mg "lacks_all" wj Ac f1 fd1) (xr:FnOk P w K mg base CX0 2 f1 fd1 Ac wX)
  (tZ:Df K mg "begins_one" uz Ac f2 fd2) (T:Blt mg):FnOk P w K mg base CX0 3 f fd Ac uW:=by
 have V1:FnOk P w K mg base CX0 1 f2 fd2 Ac Zg:=XF tZ T
 refine D.fn.ok Zy (λvs H Q E h=>?_) (λcdv A outer s H vs Q E hr h=>?_)
 ·obtain⟨bl,fa,zs,fs,rfl,_⟩:=h;rfl
 ·obtain⟨bl,fa,zs,fs,rfl,hb,hz,hf,hl1,hl2,ne,kk⟩:=h
  refine⟨_,(zp (yE (wz (xm (zJ yw xr (hr.mono (by decide)) (zf (pv 0) (zf (pv 1) zg)))))
    (zu (zF Zm))
    zT)
   (zp (Zi PassesOwn.never rfl (xg rfl T.n_range (zf (zA (wF K) (by rfl) T.n_len PySem.boot_len (zf (pv 1) zg)) zg)) (yV (i:=2) Zy.nd rfl (Or.inl rfl))
    (zu (yE (xm (zJ tZ V1 (hr.mono (by decide)) (zf (pv 0) (zf (wV (Y9 K) (pv 1) (vV (pv 2)) tG) zg))))
     (zu (zF (wV (Y9 K) (pv 1) (vV (pv 2)) tG)))
     zT)))
   (zu (zF (yc zg))))),?_⟩
  refine⟨_,rfl,_,rfl,bl,fa,zs,fs,rfl,hb,hz,hf,hl1,hl2,ne,λH1 s1=>⟨_,rfl,?_⟩⟩
  cases hL:lacks (zs.map (·.2)) fs with
  | false=>exact yp (kk _ _ (.inl ⟨hL,rfl⟩) s1)
  | true =>
   refine yf ?_
   refine⟨_,rfl,fa,_,rfl,.inl (SqL.of (s1 _ _ hf)),(((fs.map V.int).length:Nat):Int),rfl,by rw [List.length_map];omega,by rw [List.length_map];omega,uh (lo:=0) (n:=(((fs.map V.int).length:Nat):Int).toNat) (λi σ H2=>∃ v1:Option V,σ=[some (.ref bl),some (.ref fa),v1]/\Same H H2/\∀ k,k<i->Yb (zs.map (·.2)) (fs.drop k)=false) ⟨none,rfl,s1,λk hk=>by omega⟩ ?_ ?_⟩
   ·rintro i σ H2 hi ⟨v1,rfl,s2,hno⟩
    have hi':i<fs.length:=by rw [List.length_map] at hi;omega
    refine⟨_,rfl,_,rfl,_,rfl,_,rfl,fa,_,rfl,SqL.of (s2 _ _ hf),λp hp=>?_⟩
    rw [Int.zero_add,Xo,<- List.map_drop]
    have t:=s2.trans (zm hp (o:=.lst ((fs.drop i).map V.int)))
    refine⟨bl,p,zs,fs.drop i,rfl,t _ _ hb,λz hzm=>t _ _ (hz z hzm),zj,hl1,λH3 s3=>⟨_,rfl,?_⟩⟩
    have t3:=t.trans s3
    cases hB:Yb (zs.map (·.2)) (fs.drop i) with
    | true =>
     refine yp ⟨_,rfl,_,rfl,_,rfl,fa,_,rfl,SqL.of (t3 _ _ hf),λq hq=>?_⟩
     rw [Xo,<- List.map_drop]
     refine kk _ _ (.inr ⟨hL,q,rfl,t3.free hq,?_⟩) (t3.trans (zm hq))
     rw [zj,zd7 (by omega) hno hB]
    | false =>
     refine yf ⟨_,rfl,t3,λk hk=>?_⟩
     by_cases e:k<i
     ·exact hno k e
     ·have:k=i:=by omega
      rw [this];exact hB
   ·rintro σ H2 ⟨v1,rfl,s2,hno⟩
    refine⟨(by decide:0<=sizeLine),λq hq=>kk _ _ (.inr ⟨hL,q,rfl,s2.free hq,?_⟩) (s2.trans (zm hq))⟩
    rw [zj,zcf (λk hk=>hno k (by rw [List.length_map];omega))]
    rfl
end
section
variable {P:Program} {w:World} {K:W.Frag} {mg:Str->Option Value} {base:Heap} {T0:Addr}
def lamP:Pos:=⟨102,29,102,59⟩
def zfB:Scope:=match (xu yg).getLast? with
 | some (.Return (some (.Call _ _ [⟨_,.Lambda _ _ sc _,_⟩] _)) _)=>sc
 | _=>zq yg
theorem zfV:zB ["each"] ["each"] zfB:={}
theorem zdH {H H':Hp} {p:Addr} {o:HO} (s:Same H H') (h:H p=none):Same H (upd H' p o):=λb u e=>by rw [zy (zx e h)];exact s b u e
def SameL (T:Addr) (H H':Hp):Prop:=∀ b u,b≠T->H b=some u->H' b=some u
abbrev LT (T:Addr) (H:Hp):Prop:=Vs T lamP ((("stands_of" : Str)++(".<locals>." : Str))++("<lambda>" : Str)) H
theorem SameL.of {T:Addr} {H H':Hp} (s:Same H H'):SameL T H H':=λb u _ e=>s b u e
theorem SameL.trans {T:Addr} {H H1 H2:Hp} (a:SameL T H H1) (b:SameL T H1 H2):SameL T H H2:=λc u h e=>b c u h (a c u h e)
theorem LT.same {T:Addr} {H H':Hp} (h:LT T H) (s:Same H H'):LT T H':=by
 rcases h with h | ⟨c,h1,h2⟩
 ·exact .inl (s _ _ h)
 ·exact .inr ⟨c,s _ _ h1,s _ _ h2⟩
theorem LT.lst {T:Addr} {H:Hp} (h:LT T H) {b:Addr} {xs:List V} (e:H b=some (.lst xs)):b≠T:=λz=>by
 rw [z] at e
 rcases h with h | ⟨c,h,_⟩
 ·rw [h] at e;cases e
 ·rw [h] at e;cases e
theorem LT.tup {T:Addr} {H:Hp} (h:LT T H) {b:Addr} {xs:List V} (e:H b=some (.tup xs)):b≠T:=λz=>by
 rw [z] at e
 rcases h with h | ⟨c,h,_⟩
 ·rw [h] at e;cases e
 ·rw [h] at e;cases e
theorem LT.none {T:Addr} {H:Hp} (h:LT T H) {b:Addr} (e:H b=none):b≠T:=λz=>by
 rw [z] at e
 rcases h with h | ⟨c,h,_⟩
 ·rw [h] at e;cases e
 ·rw [h] at e;cases e
def Yp (T:Addr):Sp:=λvs H Q _=>∃ (bl:Addr) (zs:ZB),vs=[.ref bl]/\H bl=some (.lst (zs.map λz=>V.ref z.1))/\(∀ z∈zs,H z.1=some (.lst (z.2.map V.int)))/\zs.length<=4/\(∀ z∈zs,z.2≠[]/\z.2.length<=4)/\LT T H /\
 ∀ (D:Addr) (ws:ZB) (H':Hp),H D=none->H' D=some (.lst (ws.map λz=>V.ref z.1))->(∀ z∈ws,H z.1=none/\H' z.1=some (.lst (z.2.map V.int))/\z.1≠D)->StandsL (zs.map (·.2)) (ws.map (·.2))->ws.length<=13->SameL T H H'->LT T H'->Q (.ref D) H'
theorem uF:zB ["bad","found","stretch","size","stand"] ["bad"] (zq yg):={}
theorem zap {f f1 c:Addr} {fd fd1:FuncData} (D:Df K mg "stands_of" yg ["bad"] f fd) (hc:fd.code=.ref c) (hcT:W.codeHdIn K c T0=true) (hBM:base.BuiltinsAt mg T0) (hgT:mainGlobals≠T0) (yw:Df K mg "lacks_all" wj Ac f1 fd1) (xr:FnOk P w K mg base CX0 2 f1 fd1 Ac wX) (T:Blt mg) :
  FnOk P w K mg base CX0 6 f fd ["bad"] (Yp T0):=by
 obtain⟨oc,od,kV,doc,pm,an,cdv,ct,osl,rfl,lk,hcd⟩:=D.fn.ex
 obtain rfl:cdv=.ref c:=hc
 refine zdY lk hcd uF (λvs H Q E h=>?_) (λA outer s H vs Q E hr h=>?_)
 ·obtain⟨bl,zs,rfl,_⟩:=h;rfl
 ·obtain⟨bl,zs,rfl,hb,hz,h4,hst,hLT,kk⟩:=h
  have HU:=Wt hr
  have lam_body:∀ (f' c':Addr) (s':Shared) (H':Hp) (z:Addr×List Int),H' z.1=some (.lst (z.2.map V.int))->∃ t,PE (Xv CX0 P w K mg base ["each"] ((("stands_of" : Str)++(".<locals>." : Str))++("<lambda>" : Str)) zfB f' (.ref c') (A.deeper (envOfC "stands_of" (zq yg) s.heap.objs.size f (.ref c))).in1.in1 (envOfC "stands_of" (zq yg) s.heap.objs.size f (.ref c) :: outer) s' H' E0)
    (match (xu yg).getLast? with
     | some (.Return (some (.Call _ _ [⟨_,.Lambda _ b _ _,_⟩] _)) _)=>b
     | _=>.Constant .none 0 ⟨0,0,0,0⟩) t /\
    t (start ["each"] [.ref z.1]) H' λv H2=>∃ p,v=.ref p/\H' p=none/\H2=upd H' p (.tup [.int z.2.length,.ref z.1]):=by
   intro f' c' s' H' z hz'
   refine⟨_,(qG (zf (zA (wF K) (by rfl) T.n_len PySem.boot_len (zf (pv 0) zg)) (zf (pv 0) zg))),?_⟩
   refine⟨_,rfl,z.1,_,rfl,.inl (SqL.of hz'),_,rfl,(by show 2<=sizeLine;decide),λp hp=>⟨p,rfl,hp,?_⟩⟩
   rw [List.length_map]
  refine Exists.elim (?key:∃ t,PSs (Xv CX0 P w K mg base ["bad","found","stretch","size","stand"] "stands_of" (zq yg) f (.ref c) A outer s H E).nox (xu yg) t/\t { nx:=λ_ H'=>Q .non H',rt:=Q } (start ["bad","found","stretch","size","stand"] [.ref bl]) H) λt h=>⟨t,h.1.nox,h.2⟩
  refine⟨_,(zp (zH (i:=1) uF.nd rfl (Or.inl rfl) (yc (zf (yc zg) zg)))
   (zp (Zi PassesOwn.never rfl (X5 K (pv 0)) (yV (i:=2) uF.nd rfl (Or.inl rfl))
    (zu (Zi PassesOwn.never rfl (zdj rfl T.n_range (zf zr (zf (zA (wF K) (by rfl) T.n_len PySem.boot_len (zf (pv 2) zg)) zg))) (yV (i:=3) uF.nd rfl (Or.inl rfl))
     (zp (zH (i:=4) uF.nd rfl (Or.inl rfl) (wV (Y9 K) (pv 2) tG (vV (pv 3))))
     (zu (yE (PW.pt (zbP (zP (zbx K HU) (pv 4) (pv 1) (by with_unfolding_all rfl)) (zas (xm (zJ yw xr (hr.mono (by decide)) (zf (pv 0) (zf (pv 4) zg)))))))
      (zu (vg (zcH PySem.F.plainAttrs_list PySem.F.slot_list_append PySem.F.type_list_append VG (pv 1) (zf (pv 4) zg))))
      zT))))))
   (zu (zF (zbI (k:=1) (pv 1) rfl T.n_sorted (hr.mono (by decide)) rfl rfl rfl hcT hBM hgT zfV (λ_ _ _ _=>rfl) lam_body))))),?_⟩
  have hls:∀ st∈zs.map (·.2),st≠[]/\st.length<=4:=λst h=>by obtain⟨z,hz,rfl⟩:=List.mem_map.mp h;exact hst z hz
  refine⟨(by decide:0<=sizeLine),λe0 he0=>⟨(by show 1<=sizeLine;decide),λfo hfo=>?_⟩⟩
  have hfoH:H fo=none:=(zm he0).free hfo
  have nef:e0≠fo:=λz=>by rw [<- z,zj] at hfo;cases hfo
  let Inv1:ZB->(List Int->Prop)->Hp->Prop:=λws M H2=>H2 fo=some (.lst (ws.map λz=>V.ref z.1))/\(∀ z∈ws,H z.1=none/\H2 z.1=some (.lst (z.2.map V.int))/\z.1≠fo)/\(ws.map (·.2)).Nodup/\(∀ x,x∈ws.map (·.2)↔M x)/\Same H H2
  let M1:Nat->List Int->Prop:=λi x=>x=[]\/∃ z∈zs.take i,∃ k,1<=k/\k<z.2.length/\x=z.2.take k/\lacks (zs.map (·.2)) x=true
  refine⟨_,rfl,bl,rfl,⟨_,SqL.of ((zm he0).trans (zm hfo) _ _ hb)⟩,zdA (K:=K) (a:=bl) (xs:=zs.map λz=>V.ref z.1) (λi σ H2=>∃ (v2 v3 v4:Option V) (ws:ZB),σ=[some (.ref bl),some (.ref fo),v2,v3,v4]/\Inv1 ws (M1 i) H2/\ws.length<=1+3*i)
   ⟨none,none,none,[(e0,[])],rfl,⟨zj,λz hz'=>?_,by simp,λx=>?_,(zm he0).trans (zm hfo)⟩,by simp⟩ (λi σ H2 _ ⟨_,_,_,_,_,⟨_,_,_,_,e⟩,_⟩=>SqL.of (e _ _ hb)) ?_ ?_⟩
  ·have e:z=(e0,[]):=by simpa using hz'
   subst e
   exact⟨he0,by rw [zy nef,zj];rfl,nef⟩
  ·constructor
   ·intro hx
    exact .inl (by simpa using hx)
   ·rintro (rfl | ⟨z,hz',_⟩)
    ·simp
    ·simp at hz'
  ·rintro i x σ H2 hx ⟨v2,v3,v4,ws,rfl,⟨hF,hW,ndW,hM,sm⟩,hlen⟩
   rw [List.getElem?_map] at hx
   obtain⟨z,hzj,e⟩:=Option.map_eq_some_iff.mp hx
   subst e
   have hzm:=List.mem_of_getElem? hzj
   have hi4:i<zs.length:=(List.getElem?_eq_some_iff.mp hzj).1
   obtain⟨hne,hz4⟩:=hst z hzm
   have hpos:0<z.2.length:=List.length_pos_iff.mpr hne
   refine⟨_,rfl,z.1,_,rfl,.inl (SqL.of (sm _ _ (hz z hzm))),1,_,rfl,?_,?_⟩
   ·rw [List.length_map];omega
   rw [List.length_map]
   refine uh (lo:=1) (n:=((z.2.length:Int)-1).toNat) (λj σ H3=>∃ (v3 v4:Option V) (ws:ZB),σ=[some (.ref bl),some (.ref fo),some (.ref z.1),v3,v4]/\Inv1 ws (λx=>M1 i x\/∃ k,1<=k/\k<=j/\x=z.2.take k/\lacks (zs.map (·.2)) x=true) H3/\ws.length<=1+3*i+j)
    ⟨_,_,ws,rfl,⟨hF,hW,ndW,λx=>?_,sm⟩,hlen⟩ ?_ ?_
   ·rw [hM]
    constructor
    ·exact .inl
    ·rintro (h | ⟨k,h1,h2,_⟩)
     ·exact h
     ·omega
   ·rintro j σ H3 hj ⟨v3,v4,ws,rfl,⟨hF,hW,ndW,hM,sm⟩,hlen⟩
    have hj':j+1<z.2.length:=by omega
    refine⟨_,rfl,_,rfl,_,rfl,z.1,_,rfl,SqL.of (sm _ _ (hz z hzm)),λp hp=>?_⟩
    rw [show (1:Int)+(j:Int)=((j+1:Nat):Int) by omega,Vw,<- List.map_take]
    have sm2:=sm.trans (zm hp (o:=.lst ((z.2.take (j+1)).map V.int)))
    have hF2:(upd H3 p (.lst ((z.2.take (j+1)).map V.int))) fo=some (.lst (ws.map λz=>V.ref z.1)):=zm hp _ _ hF
    have hW2:∀ y∈ws,H y.1=none/\(upd H3 p (.lst ((z.2.take (j+1)).map V.int))) y.1=some (.lst (y.2.map V.int))/\y.1≠fo:=λy hy=>⟨(hW y hy).1,zm hp _ _ (hW y hy).2.1,(hW y hy).2.2⟩
    have npf:p≠fo:=λy=>by rw [y,hF] at hp;cases hp
    have hpH:H p=none:=sm.free hp
    generalize hx:z.2.take (j+1)=x at *
    have hxl:x.length<=4:=by rw [<- hx,List.length_take];omega
    have stay:(x∈ws.map (·.2)\/lacks (zs.map (·.2)) x=false)->∀ y,y∈ws.map (·.2)↔(M1 i y\/∃ k,1<=k/\k<=j+1/\y=z.2.take k/\lacks (zs.map (·.2)) y=true):=λhor y=>by
     constructor
     ·intro hy
      rcases (hM y).mp hy with h | ⟨k,h1,h2,h3⟩
      ·exact .inl h
      ·exact .inr ⟨k,h1,by omega,h3⟩
     ·rintro (h | ⟨k,h1,h2,h3,h4⟩)
      ·exact (hM y).mpr (.inl h)
      ·by_cases hk:k<=j
       ·exact (hM y).mpr (.inr ⟨k,h1,hk,h3,h4⟩)
       ·have:k=j+1:=by omega
        rw [this,hx] at h3
        rw [h3] at h4 ⊢
        rcases hor with h | h
        ·exact h
        ·rw [h] at h4;cases h4
    refine⟨_,rfl,_,rfl,fo,_,(ws.map (·.2)).map yK,yK x,rfl,SqL.of hF2,TrsAt.lists (λy hy=>(hW2 y hy).2.1),TrAt.ints (a:=p) (SqL.of zj),Nat.le_trans (wk _) (by decide),_,rfl,?_⟩
    rw [if_pos rfl,Xg]
    by_cases hin:x∈ws.map (·.2)
    ·rw [decide_eq_true hin]
     refine yf ?_
     exact yf ⟨_,_,ws,rfl,⟨hF2,hW2,ndW,stay (.inl hin),sm2⟩,by omega⟩
    ·rw [decide_eq_false hin]
     refine yp ?_
     refine⟨_,rfl,_,rfl,bl,p,zs,x,rfl,sm2 _ _ hb,λy hy=>sm2 _ _ (hz y hy),zj,by omega,by omega,λy hy=>⟨(hst y hy).1,Nat.le_trans (hst y hy).2 (by decide)⟩,λH4 s4=>⟨_,rfl,?_⟩⟩
     have sm4:=sm2.trans s4
     have hF4:=s4 _ _ hF2
     have hW4:∀ y∈ws,H y.1=none/\H4 y.1=some (.lst (y.2.map V.int))/\y.1≠fo:=λy hy=>⟨(hW2 y hy).1,s4 _ _ (hW2 y hy).2.1,(hW2 y hy).2.2⟩
     have hp4:=s4 _ _ (zj (H:=H3) (a:=p) (o:=.lst (x.map V.int)))
     cases hLk:lacks (zs.map (·.2)) x with
     | false=>exact yf ⟨_,_,ws,rfl,⟨hF4,hW4,ndW,stay (.inr hLk),sm4⟩,by omega⟩
     | true =>
      refine yp ⟨_,rfl,.inl ⟨rfl,_,SqL.of hF4⟩,_,rfl,fo,_,_,rfl,rfl,hF4,by rw [List.length_map];exact Nat.lt_of_le_of_lt (show ws.length<=100 by omega) (by decide),?_⟩
      refine⟨_,_,ws++[(p,x)],rfl,⟨by rw [zj,List.map_append];rfl,λy hy=>?_,?_,λy=>?_,zdH sm4 hfoH⟩,by rw [List.length_append,List.length_singleton];omega⟩
      ·rcases List.mem_append.mp hy with hy | hy
       ·obtain⟨a1,a2,a3⟩:=hW4 y hy
        exact⟨a1,by rw [zy a3];exact a2,a3⟩
       ·rw [List.mem_singleton.mp hy]
        exact⟨hpH,by rw [zy npf];exact hp4,npf⟩
      ·rw [List.map_append]
       refine List.nodup_append.mpr ⟨ndW,by simp,λa ha b hb'=>?_⟩
       have e:b=x:=by simpa using hb'
       rw [e]
       exact λq=>hin (q▸ha)
      ·rw [List.map_append,List.mem_append]
       constructor
       ·rintro (h | h)
        ·rcases (hM y).mp h with h | ⟨k,h1,h2,h3⟩
         ·exact .inl h
         ·exact .inr ⟨k,h1,by omega,h3⟩
        ·have e:y=x:=by simpa using h
         rw [e]
         exact .inr ⟨j+1,by omega,Nat.le_refl _,hx.symm,hLk⟩
       ·rintro (h | ⟨k,h1,h2,h3,h4⟩)
        ·exact .inl ((hM y).mpr (.inl h))
        ·by_cases hk:k<=j
         ·exact .inl ((hM y).mpr (.inr ⟨k,h1,hk,h3,h4⟩))
         ·have:k=j+1:=by omega
          rw [this,hx] at h3
          exact .inr (by simp [h3])
   ·rintro σ H3 ⟨v3,v4,ws,rfl,⟨hF,hW,ndW,hM,sm⟩,hlen⟩
    refine⟨_,_,_,ws,rfl,⟨hF,hW,ndW,λx=>?_,sm⟩,by omega⟩
    rw [hM]
    constructor
    ·rintro ((h | ⟨y,hy,h⟩) | ⟨k,h1,h2,h3⟩)
     ·exact .inl h
     ·exact .inr ⟨y,by rw [List.take_succ];exact List.mem_append_left _ hy,h⟩
     ·exact .inr ⟨z,by rw [List.take_succ,hzj];simp,k,h1,by omega,h3⟩
    ·rintro (h | ⟨y,hy,k,h1,h2,h3⟩)
     ·exact .inl (.inl h)
     ·rw [List.take_succ,hzj] at hy
      rcases List.mem_append.mp hy with hy | hy
      ·exact .inl (.inr ⟨y,hy,k,h1,h2,h3⟩)
      ·have e:y=z:=by simpa using hy
       rw [e] at h2 h3
       exact .inr ⟨k,h1,by omega,h3⟩
  ·rintro σ H2 ⟨v2,v3,v4,ws,rfl,⟨hF,hW,ndW,hM,sm⟩,hlen⟩
   rw [List.length_map] at hM hlen
   refine⟨_,rfl,fo,ws,rfl,hF,λz hz'=>(hW z hz').2.1,ndW,by omega,hLT.same sm,λD ws' H3 hD hD3 up lt pm pw=>?_⟩
   have lt2:=hLT.same sm
   have inw:∀ z∈ws',z∈ws:=λz hz'=>pm.mem_iff.mp hz'
   refine kk D ws' _ (sm.free hD) zj (λz hz'=>?_) ⟨λx=>?_,by rw [List.pairwise_map];exact pw⟩ (by rw [pm.length_eq];omega) (λb u hb' e=>?_) ?_
   ·obtain⟨a1,a2,a3⟩:=hW z (inw z hz')
    have n1:z.1≠D:=zx a2 hD
    exact⟨a1,by rw [zy n1];exact up _ _ (lt2.lst a2) a2,n1⟩
   ·have e:x∈ws'.map (·.2)↔x∈ws.map (·.2):=(pm.map (·.2)).mem_iff
    rw [e,hM]
    show (x=[]\/_)↔(x=[]\/_)
    constructor
    ·rintro (h | ⟨z,hz',k,h1,h2,h3,h4⟩)
     ·exact .inl h
     ·rw [List.take_length] at hz'
      exact .inr ⟨z.2,List.mem_map.mpr ⟨z,hz',rfl⟩,k,h1,h2,h3,h4⟩
    ·rintro (h | ⟨st,hst',k,h1,h2,h3,h4⟩)
     ·exact .inl h
     ·obtain⟨z,hz',rfl⟩:=List.mem_map.mp hst'
      exact .inr ⟨z,by rw [List.take_length];exact hz',k,h1,h2,h3,h4⟩
   ·have q:=up b u hb' (sm _ _ e)
    rw [zy (zx q hD3)];exact q
   ·exact LT.same (show LT T0 H3 from lt) (zm hD3)
def plc (ls ws:ZA) (fs:List Int):V:=if lacks ls fs=true then .int ((ws.idxOf (ye ls fs):Nat):Int) else .non
theorem YM {x:List Int}:∀ {xs:ZA} {m:Nat},m<xs.idxOf x->∀ h:m<xs.length,xs[m]≠x
 | [],m,h,h'=>by simp at h'
 | y :: ys,m,h,h'=>by
  rw [List.idxOf_cons] at h
  by_cases e:y=x
  ·subst e;simp at h
  ·have e':(y == x)=false:=by simpa using e
   rw [e'] at h
   cases m with
   | zero=>simpa using e
   | succ m=>simpa using YM (x:=x) (xs:=ys) (m:=m) (by simpa using h) (by simpa using h')
def qH:Sp:=λvs H Q _=>∃ (bl Dd fa:Addr) (zs ws:ZB) (fs:List Int),vs=[.ref bl,.ref Dd,.ref fa]/\H bl=some (.lst (zs.map λz=>V.ref z.1))/\(∀ z∈zs,H z.1=some (.lst (z.2.map V.int)))/\H Dd=some (.lst (ws.map λz=>V.ref z.1))/\(∀ z∈ws,H z.1=some (.lst (z.2.map V.int)))/\H fa=some (.lst (fs.map V.int))/\zs.length<=4/\ws.length<=13/\fs.length<=1000/\(∀ z∈zs,z.2≠[]/\z.2.length<=4) /\
 (lacks (zs.map (·.2)) fs=true->ye (zs.map (·.2)) fs∈ws.map (·.2))/\∀ H',Same H H'->Q (plc (zs.map (·.2)) (ws.map (·.2)) fs) H'
theorem YJ:zB ["bad","stands","figures","stand"] ["bad","stands","figures"] (zq uI):={}
theorem V9 {f f1:Addr} {fd fd1:FuncData} (D:Df K mg "place_behind" uI A5 f fd) (uD:Df K mg "longest_stand" vY Ac f1 fd1) (jl:FnOk P w K mg base CX0 3 f1 fd1 Ac uW):FnOk P w K mg base CX0 4 f fd A5 qH:=by
 refine D.fn.ok YJ (λvs H Q E h=>?_) (λcdv A outer s H vs Q E hr h=>?_)
 ·obtain⟨bl,Dd,fa,zs,ws,fs,rfl,_⟩:=h;rfl
 ·obtain⟨bl,Dd,fa,zs,ws,fs,rfl,hb,hz,hD,hw,hf,h4,h13,hl,hst,hin,kk⟩:=h
  have HU:=Wt hr
  refine⟨_,(zp (zH (i:=3) YJ.nd rfl (Or.inl rfl) (zJ uD jl (hr.mono (by decide)) (zf (pv 0) (zf (pv 2) zg))))
   (zp (yE (zP zbF (pv 3) Zm (zV _))
    (zu (zF Zm))
    zT)
   (zu (zF (zcH PySem.F.plainAttrs_list PySem.F.slot_list_index PySem.F.type_list_index (zej K HU) (pv 1) (zf (pv 3) zg)))))),?_⟩
  refine⟨_,rfl,_,rfl,bl,fa,zs,fs,rfl,hb,hz,hf,by omega,hl,λz hz=>⟨(hst z hz).1,Nat.le_trans (hst z hz).2 (by decide)⟩,λv H1 sv s1=>?_⟩
  have q:=kk H1 s1
  unfold plc at q
  rcases sv with ⟨hL,rfl⟩ | ⟨hL,l,rfl,hn,hv⟩
  ·rw [hL,if_neg (by decide)] at q
   exact⟨_,rfl,rfl,_,rfl,yp q⟩
  ·rw [if_pos hL] at q
   have hm:=hin hL
   have hlt:=List.idxOf_lt_length_iff.mpr hm
   refine⟨_,rfl,rfl,_,rfl,yf ?_⟩
   refine⟨_,rfl,.inl ⟨rfl,_,SqL.of (s1 _ _ hD)⟩,_,rfl,Dd,_,_,(ws.map (·.2)).map yK,yK (ye (zs.map (·.2)) fs),(ws.map (·.2)).idxOf (ye (zs.map (·.2)) fs),rfl,rfl,SqL.of (s1 _ _ hD),TrsAt.lists (λz hz=>s1 _ _ (hw z hz)),TrAt.ints (a:=l) (SqL.of hv),Nat.le_trans (wk _) (by decide),by rw [List.length_map];exact hlt,?_,?_,q⟩
   ·intro t ht
    rw [List.getElem?_map,List.getElem?_eq_getElem hlt,Option.map_some] at ht
    rw [<- Option.some.inj ht,List.getElem_idxOf hlt,ql,decide_eq_true rfl]
   ·intro m t hm' ht
    rw [List.getElem?_map,List.getElem?_eq_getElem (Nat.lt_trans hm' hlt),Option.map_some] at ht
    rw [<- Option.some.inj ht,ql,decide_eq_false]
    intro e
    have q3:=YM hm' (Nat.lt_trans hm' hlt)
    exact q3 e
def V5 (ls ws:ZA) (b:Nat) (x:List Int):List V:=(List.range b).map λ(c:Nat)=>plc ls ws (x++[(c:Int)])
def Zj:Sp:=λvs H Q _=>∃ (r:Addr) (b:Nat) (bl:Addr) (zs:ZB) (Dd:Addr) (ws:ZB) (sa:Addr) (xs:List Int),vs=[.ref r,.ref Dd,.ref sa]/\RuleAt H r b bl zs/\GoodRule b (zs.map (·.2))/\H Dd=some (.lst (ws.map λz=>V.ref z.1))/\(∀ z∈ws,H z.1=some (.lst (z.2.map V.int)))/\StandsL (zs.map (·.2)) (ws.map (·.2))/\ws.length<=13/\H sa=some (.lst (xs.map V.int))/\xs.length<=100 /\
 ∀ p H',H p=none->Same H H'->H' p=some (.lst (V5 (zs.map (·.2)) (ws.map (·.2)) b xs))->Q (.ref p) H'
theorem Js:zB ["rule","stands","stand"] ["rule","stands","stand"] (zq uB):={}
theorem Jk {f f1:Addr} {fd fd1:FuncData} (D:Df K mg "steps_from" uB Ay f fd) (tD:Df K mg "place_behind" uI A5 f1 fd1) (Zq:FnOk P w K mg base CX0 4 f1 fd1 A5 qH) (T:Blt mg):FnOk P w K mg base CX0 5 f fd Ay Zj:=by
 refine D.fn.ok Js (λvs H Q E h=>?_) (λcdv A outer s H vs Q E hr h=>?_)
 ·obtain⟨r,b,bl,zs,Dd,ws,sa,xs,rfl,_⟩:=h;rfl
 ·obtain⟨r,b,bl,zs,Dd,ws,sa,xs,rfl,R,g,hD,hw,SL,h13,hs,hl,kk⟩:=h
  have h4:zs.length<=4:=by have:=g.len;rwa [List.length_map] at this
  have ne:∀ l∈zs.map (·.2),l≠[]:=λl hl=>(g.st l hl).ne
  refine⟨_,(zu (zF (yW (show CScope (zq uB) _ "figure" ["rule","stands","stand"] ["stands","rule","stand"] [1,0,2] from {}) rfl (xg rfl T.n_range (zf (zW (wU K) (pv 0) zr (λ_ _=>rfl)) zg)) (λ_ _ _ _=>wA) (λ_ _ _ _=>(zJ tD Zq (hr.mono (by decide)) (zf (zW (wU K) (pv 2) zr (λ_ _=>rfl)) (zf (pv 1) (zf (zN uG (pv 3) (yc (zf (pv 0) zg))) zg)))))))),?_⟩
  have b16:=g.b16
  refine⟨_,rfl,r,_,_,V.int b,rfl,rfl,SqT.of R.tu,rfl,(b:Int),rfl,by omega,by omega,uU (lo:=0) (n:=(b:Int).toNat) (λi ys H4=>ys=V5 (zs.map (·.2)) (ws.map (·.2)) i xs/\Same H H4) ⟨rfl,Same.refl _⟩ ?_ ?_⟩
  ·rintro i ys H4 hi ⟨rfl,s4⟩
   have hi':i<b:=by omega
   refine⟨?_,?_⟩
   ·unfold V5
    rw [List.length_map,List.length_range]
    exact Nat.lt_of_lt_of_le (show i<16 by omega) (by decide)
   unfold Xu
   dsimp only
   rw [if_pos rfl]
   have R4:=R.same s4
   have hs4:=s4 _ _ hs
   refine⟨_,rfl,r,_,_,V.ref bl,rfl,rfl,SqT.of R4.tu,rfl,_,rfl,_,rfl,_,rfl,(by show 1<=sizeLine;decide),λp1 q1=>?_⟩
   have n1:sa≠p1:=zx hs4 q1
   refine⟨sa,p1,_,_,rfl,rfl,by rw [zy n1];exact hs4,zj,by rw [List.length_map];exact Nat.le_trans (show xs.length+1<=101 by omega) (by decide),λp2 q2=>?_⟩
   have t2:=s4.trans ((zm q1 (o:=.lst [V.int (0+(i:Int))])).trans (zm q2 (o:=.lst (xs.map V.int++[V.int (0+(i:Int))]))))
   have R5:=R.same t2
   refine⟨bl,Dd,p2,zs,ws,xs++[0+(i:Int)],rfl,R5.li,R5.st,t2 _ _ hD,λz hz=>t2 _ _ (hw z hz),by rw [zj,List.map_append];rfl,h4,h13,by rw [List.length_append,List.length_singleton];omega,λz hz=>⟨(g.st _ (List.mem_map.mpr ⟨z,hz,rfl⟩)).ne,(g.st _ (List.mem_map.mpr ⟨z,hz,rfl⟩)).len⟩,λh=>(SL.mem _).mpr (Wk ne h),λH5 s5=>⟨?_,t2.trans s5⟩⟩
   unfold V5
   rw [List.range_succ,List.map_append,Int.zero_add]
   rfl
  ·rintro ys H4 ⟨rfl,s4⟩ p hp
   refine kk p _ (s4.free hp) (s4.trans (zm hp)) ?_
   rw [zj,Int.toNat_natCast]
def UT (ls ws:ZA) (b:Nat):List (List V):=ws.map (V5 ls ws b)++[V.int (ws.length:Nat) :: (V5 ls ws b []).drop 1]
def YG:Sp:=λvs H Q _=>∃ (r:Addr) (b:Nat) (bl:Addr) (zs:ZB) (Dd:Addr) (ws:ZB),vs=[.ref r,.ref Dd]/\RuleAt H r b bl zs/\GoodRule b (zs.map (·.2))/\H Dd=some (.lst (ws.map λz=>V.ref z.1))/\(∀ z∈ws,H z.1=some (.lst (z.2.map V.int)))/\StandsL (zs.map (·.2)) (ws.map (·.2))/\ws.length<=13 /\
 ∀ (p:Addr) (rs:List (Addr×List V)) (H':Hp),H p=none->Same H H'->H' p=some (.lst (rs.map λz=>V.ref z.1))->(∀ z∈rs,H z.1=none/\H' z.1=some (.lst z.2))->rs.map (·.2)=UT (zs.map (·.2)) (ws.map (·.2)) b->Q (.ref p) H'
theorem W9:zB ["rule","stands","steps"] ["rule","stands"] (zq qu):={}
theorem zan {f f1:Addr} {fd fd1:FuncData} (D:Df K mg "all_steps" qu A6 f fd) (j9:Df K mg "steps_from" uB Ay f1 fd1) (Xa:FnOk P w K mg base CX0 5 f1 fd1 Ay Zj) (T:Blt mg):FnOk P w K mg base CX0 6 f fd A6 YG:=by
 refine D.fn.ok W9 (λvs H Q E h=>?_) (λcdv A outer s H vs Q E hr h=>?_)
 ·obtain⟨r,b,bl,zs,Dd,ws,rfl,_⟩:=h;rfl
 ·obtain⟨r,b,bl,zs,Dd,ws,rfl,R,g,hD,hw,SL,h13,kk⟩:=h
  have l3:∀ z∈ws,z.2.length<=3:=λz hz=>zd1 (λst h=>(g.st st h).len) ((SL.mem _).mp (List.mem_map.mpr ⟨z,hz,rfl⟩))
  obtain⟨w1,hw1⟩:=SL.first
  refine⟨_,(zp (zb6 (i:=2) (show CScope (zq qu) _ "stand" ["rule","stands","steps"] ["rule","stands"] [0,1] from {}) rfl W9.nd rfl (Or.inl rfl) (X5 K (pv 1)) (λ_ _ _ _=>wA) (λ_ _ _ _=>(zJ j9 Xa (hr.mono (by decide)) (zf (pv 1) (zf (pv 2) (zf (pv 0) zg))))))
   (zu (zF (zN uG (pv 2) (yc (zf (zN uG (yc (zf (zA (wF K) (by rfl) T.n_len PySem.boot_len (zf (pv 1) zg)) zg)) (wV (Y9 K) (zW (yO K) (pv 2) zr (λ_ _=>rfl)) (vV zr) tG)) zg)))))),?_⟩
  refine⟨_,rfl,Dd,rfl,⟨_,SqL.of hD⟩,yQ (K:=K) (a:=Dd) (xs:=ws.map λz=>V.ref z.1) (λi ys H4=>∃ rs:List (Addr×List V),ys=(rs.map λz=>V.ref z.1)/\(∀ z∈rs,H z.1=none/\H4 z.1=some (.lst z.2))/\rs.map (·.2)=(ws.take i).map (λz=>V5 (zs.map (·.2)) (ws.map (·.2)) b z.2)/\Same H H4) ⟨[],rfl,λz hz=>(by cases hz),rfl,Same.refl _⟩ (λi ys H4 _ ⟨_,_,_,_,e⟩=>SqL.of (e _ _ hD)) ?_ ?_⟩
  ·rintro j x ys H4 hx ⟨rs,rfl,hrs,hr2,s4⟩
   rw [List.getElem?_map] at hx
   obtain⟨z,hzj,e⟩:=Option.map_eq_some_iff.mp hx
   subst e
   have hzm:=List.mem_of_getElem? hzj
   refine⟨?_,?_⟩
   ·have e1:=congrArg List.length hr2
    rw [List.length_map,List.length_map,List.length_take] at e1
    rw [List.length_map,e1]
    exact Nat.lt_of_le_of_lt (Nat.le_trans (Nat.min_le_right _ _) h13) (by decide)
   unfold Xu
   dsimp only
   rw [if_pos rfl]
   refine⟨_,rfl,_,rfl,_,rfl,r,b,bl,zs,Dd,ws,z.1,z.2,rfl,R.same s4,g,s4 _ _ hD,λz hz=>s4 _ _ (hw z hz),SL,h13,s4 _ _ (hw z hzm),Nat.le_trans (l3 z hzm) (by decide),λp H5 hp s5 hv=>?_⟩
   refine⟨rs++[(p,V5 (zs.map (·.2)) (ws.map (·.2)) b z.2)],by simp,λy hy=>?_,?_,s4.trans s5⟩
   ·rcases List.mem_append.mp hy with h | h
    ·exact⟨(hrs y h).1,s5 _ _ (hrs y h).2⟩
    ·rw [List.mem_singleton] at h
     subst h
     exact⟨s4.free hp,hv⟩
   ·rw [List.map_append,hr2,List.take_succ,hzj]
    simp
  ·rintro ys H4 ⟨rs,rfl,hrs,hr2,s4⟩ p hp
   have hl2:=congrArg List.length hr2
   rw [List.length_map,List.take_length] at hr2
   rw [List.length_map,List.length_map,List.length_take,List.length_map,Nat.min_self] at hl2
   obtain⟨w0,ws',rfl⟩:∃ w0 ws',ws=w0 :: ws':=by
    cases ws with
    | nil=>simp at hw1
    | cons a b=>exact⟨a,b,rfl⟩
   have hw0:w0.2=[]:=by
    rw [List.map_cons] at hw1
    exact (List.cons.inj hw1).1
   obtain⟨r0,rs',rfl⟩:∃ r0 rs',rs=r0 :: rs':=by
    cases rs with
    | nil=>simp at hl2
    | cons a b=>exact⟨a,b,rfl⟩
   have hr0:r0.2=V5 (zs.map (·.2)) ((w0 :: ws').map (·.2)) b []:=by
    have e:=(List.cons.inj hr2).1
    rw [<- hw0]
    exact e
   have t4:=s4.trans (zm hp (o:=.lst ((r0 :: rs').map λz=>V.ref z.1)))
   have hr04:∀ z∈r0 :: rs',upd H4 p (.lst ((r0 :: rs').map λz=>V.ref z.1)) z.1=some (.lst z.2):=λz hz=>zm hp _ _ (hrs z hz).2
   refine⟨_,rfl,_,rfl,Dd,_,rfl,.inl (SqL.of (t4 _ _ hD)),(by show 1<=sizeLine;decide),λp1 q1=>?_⟩
   have u1:=zm q1 (o:=.lst [V.int (((w0 :: ws').map λz=>V.ref z.1).length:Nat)])
   refine⟨_,rfl,p,_,_,V.ref r0.1,rfl,rfl,SqL.of (u1 _ _ zj),vf (j:=0) rfl,_,rfl,r0.1,_,rfl,SqL.of (u1 _ _ (hr04 r0 List.mem_cons_self)),λp2 q2=>?_⟩
   have hb1:r0.2.length<=16:=by
    rw [hr0]
    unfold V5
    rw [List.length_map,List.length_range]
    exact g.b16
   have u2:=u1.trans (zm q2 (o:=.lst (ju r0.2 (some 1) none)))
   refine⟨p1,p2,_,_,rfl,rfl,zm q2 _ _ zj,zj,?_,λp3 q3=>?_⟩
   ·rw [show (1:Int)=((1:Nat):Int) from rfl,Xo,List.length_drop,List.length_singleton]
    exact Nat.le_trans (show 1+(r0.2.length-1)<=100 by omega) (by decide)
   have ev:([V.int (((w0 :: ws').map λz=>V.ref z.1).length:Nat)]++ju r0.2 (some 1) none)=V.int (((w0 :: ws').map (·.2)).length:Nat) :: (V5 (zs.map (·.2)) ((w0 :: ws').map (·.2)) b []).drop 1:=by
    rw [show (1:Int)=((1:Nat):Int) from rfl,Xo,hr0,List.length_map,List.length_map]
    rfl
   have u3:=u2.trans (zm q3 (o:=.lst ([V.int (((w0 :: ws').map λz=>V.ref z.1).length:Nat)]++ju r0.2 (some 1) none)))
   refine⟨(by show 1<=sizeLine;decide),λp4 q4=>?_⟩
   have u4:=u3.trans (zm q4 (o:=.lst [V.ref p3]))
   refine⟨p,p4,_,_,rfl,rfl,u4 _ _ zj,zj,?_,λp5 q5=>?_⟩
   ·rw [List.length_map,List.length_singleton]
    exact Nat.le_trans (show (r0 :: rs').length+1<=100 by omega) (by decide)
   have u5:=u4.trans (zm q5 (o:=.lst ((r0 :: rs').map (λz=>V.ref z.1)++[V.ref p3])))
   refine kk p5 (r0 :: rs'++[(p3,[V.int (((w0 :: ws').map λz=>V.ref z.1).length:Nat)]++ju r0.2 (some 1) none)]) _ (t4.free (u4.free q5)) (t4.trans u5) ?_ ?_ ?_
   ·rw [zj,List.map_append]
    rfl
   ·intro z hz
    rcases List.mem_append.mp hz with h | h
    ·exact⟨(hrs z h).1,u5 _ _ (hr04 z h)⟩
    ·rw [List.mem_singleton] at h
     subst h
     exact⟨t4.free (u2.free q3),zm q5 _ _ (zm q4 _ _ zj)⟩
   ·rw [List.map_append,hr2,ev]
    unfold UT
    rw [List.map_map]
    rfl
end
structure ClT (K:W.Frag) (mg:Str->Option Value) (C:Addr):Prop where
 cl:Cls K C
 nm:mg "Tails" = some (.ref C)
 n_base:NoAttr K C "base"
 n_outset:NoAttr K C "outset"
 n_steps:NoAttr K C "steps"
 n_layers:NoAttr K C "layers"
def Xd (b n:Nat) (sa la:Addr):List (Str×V):=zU "layers" (.ref la) (zU "steps" (.ref sa) (zU "outset" (.int n) (zU "base" (.int b) [])))
theorem zad (b n:Nat) (sa la:Addr):(Xd b n sa la).lookup ("base" : Str)=some (.int b):=by
 unfold Xd
 rw [zG,if_neg (by decide +kernel),zG,if_neg (by decide +kernel),zG,if_neg (by decide +kernel),zG,if_pos rfl]
theorem Zb (b n:Nat) (sa la:Addr):(Xd b n sa la).lookup ("outset" : Str)=some (.int n):=by
 unfold Xd
 rw [zG,if_neg (by decide +kernel),zG,if_neg (by decide +kernel),zG,if_pos rfl]
theorem ym (b n:Nat) (sa la:Addr):(Xd b n sa la).lookup ("steps" : Str)=some (.ref sa):=by
 unfold Xd
 rw [zG,if_neg (by decide +kernel),zG,if_pos rfl]
theorem j0 (b n:Nat) (sa la:Addr):(Xd b n sa la).lookup ("layers" : Str)=some (.ref la):=by
 unfold Xd
 rw [zG,if_pos rfl]
theorem vX (b n:Nat) (sa la:Addr) {m:Str} (h1:¬ m = "layers":=by decide +kernel) (h2:¬ m = "steps":=by decide +kernel) (h3:¬ m = "outset":=by decide +kernel) (h4:¬ m = "base":=by decide +kernel):(Xd b n sa la).lookup m=none:=by
 unfold Xd
 rw [zG,if_neg h1,zG,if_neg h2,zG,if_neg h3,zG,if_neg h4]
 rfl
def xX (ls ws:ZA) (b t:Nat):List Int:=(ws.map λx=>((cnt ls b t x:Nat):Int))++[((Ve ls b t:Nat):Int)]
def stepV (ls ws:ZA):Option (List Int)->Nat->V
 | some x,c=>plc ls ws (x++[(c:Int)])
 | none,c=>if c=0 then .int (ws.length:Nat) else plc ls ws [(c:Int)]
theorem jt (ls ws:ZA) (c:Nat):stepV ls ws none c=if c=0 then .int (ws.length:Nat) else plc ls ws [(c:Int)]:=rfl
theorem zbM (ls:ZA) (b t:Nat) (x:List Int) (c:Nat):WQ ls b t (some x) c=if lacks ls (x++[(c:Int)])=true then cnt ls b t (ye ls (x++[(c:Int)])) else 0:=rfl
theorem Wf (ls:ZA) (b t:Nat) (c:Nat):WQ ls b t none c=if c=0 then Ve ls b t else if lacks ls [(c:Int)]=true then cnt ls b t (ye ls [(c:Int)]) else 0:=rfl
theorem QW {ls ws:ZA} {b i:Nat} (hb:1<=b) (hi:i<=ws.length):(UT ls ws b)[i]?=some ((List.range b).map (stepV ls ws ws[i]?)):=by
 unfold UT
 by_cases h:i<ws.length
 ·rw [List.getElem?_append_left (by rw [List.length_map];exact h),List.getElem?_map,List.getElem?_eq_getElem h]
  rfl
 ·have e:i=ws.length:=by omega
  subst e
  rw [List.getElem?_append_right (by rw [List.length_map];exact Nat.le_refl _),List.length_map,Nat.sub_self,List.getElem?_eq_none (Nat.le_refl _)]
  show some _=some _
  congr 1
  obtain⟨k,rfl⟩:∃ k,b=k+1:=⟨b-1,by omega⟩
  unfold V5
  rw [List.range_succ_eq_map,List.map_cons,List.map_cons,List.drop_succ_cons,List.drop_zero]
  rw [List.map_map,List.map_map]
  rfl
structure TailsAt (C:Addr) (H:Hp) (p la:Addr) (b:Nat) (ls ws:ZA) (L:Nat):Prop where
 ob:∃ (dx sa:Addr) (srs:List (Addr×List V)),aw [la] H p=some (.ins C dx (Xd b ws.length sa la))/\aw [la] H sa=some (.lst (srs.map λz=>V.ref z.1))/\(∀ z∈srs,aw [la] H z.1=some (.lst z.2))/\srs.map (·.2)=UT ls ws b
 ly:∃ lrs:ZB,H la=some (.lst (lrs.map λz=>V.ref z.1))/\(∀ z∈lrs,aw [la] H z.1=some (.lst (z.2.map V.int)))/\lrs.map (·.2)=(List.range L).map (xX ls ws b)
 l1:1<=L
structure GoodT (b:Nat) (ls ws:ZA):Prop where
 g:GoodRule b ls
 s:StandsL ls ws
 h13:ws.length<=13
theorem GoodT.ne {b:Nat} {ls ws:ZA} (G:GoodT b ls ws):∀ l∈ls,l≠[]:=λl hl=>(G.g.st l hl).ne
theorem TailsAt.same {C p la b:Nat} {H H':Hp} {ls ws:ZA} {L:Nat} (A:TailsAt C H p la b ls ws L) (m:Same H H'):TailsAt C H' p la b ls ws L:=by
 obtain⟨dx,sa,srs,h1,h2,h3,h4⟩:=A.ob
 obtain⟨lrs,g1,g2,g3⟩:=A.ly
 have m':=m.aw [la]
 exact⟨⟨dx,sa,srs,m' _ _ h1,m' _ _ h2,λz hz=>m' _ _ (h3 z hz),h4⟩,⟨lrs,m _ _ g1,λz hz=>m' _ _ (g2 z hz),g3⟩,A.l1⟩
theorem zbc {ls ws:ZA} {b t:Nat} (G:GoodT b ls ws) {i c:Nat} (hi:i<=ws.length) :
  (stepV ls ws ws[i]? c=.non/\WQ ls b t ws[i]? c=0)\/∃ j:Nat,stepV ls ws ws[i]? c=.int j/\j<=ws.length/\(xX ls ws b t)[j]?=some ((WQ ls b t ws[i]? c:Nat):Int):=by
 have at_:∀ fs:List Int,lacks ls fs=true->∃ j:Nat,plc ls ws fs=.int j/\j<=ws.length/\(xX ls ws b t)[j]?=some ((cnt ls b t (ye ls fs):Nat):Int):=by
  intro fs h
  have hm:ye ls fs∈ws:=(G.s.mem _).mpr (Wk G.ne h)
  have hlt:=List.idxOf_lt_length_iff.mpr hm
  refine⟨ws.idxOf (ye ls fs),by unfold plc;rw [if_pos h],Nat.le_of_lt hlt,?_⟩
  unfold xX
  rw [List.getElem?_append_left (by rw [List.length_map];exact hlt),List.getElem?_map,List.getElem?_eq_getElem hlt,List.getElem_idxOf hlt]
  rfl
 cases hw:ws[i]? with
 | some x =>
  show (plc ls ws (x++[(c:Int)])=.non/\(if lacks ls (x++[(c:Int)])=true then _ else 0)=0)\/_
  by_cases h:lacks ls (x++[(c:Int)])=true
  ·right
   obtain⟨j,h1,h2,h3⟩:=at_ _ h
   refine⟨j,h1,h2,?_⟩
   rw [h3,zbM,if_pos h]
  ·left
   exact⟨by unfold plc;rw [if_neg h],by rw [if_neg h]⟩
 | none =>
  by_cases h0:c=0
  ·right
   refine⟨ws.length,by rw [jt,if_pos h0],Nat.le_refl _,?_⟩
   unfold xX
   rw [Wf,if_pos h0,List.getElem?_append_right (by rw [List.length_map];exact Nat.le_refl _),List.length_map,Nat.sub_self]
   rfl
  ·by_cases h:lacks ls [(c:Int)]=true
   ·right
    obtain⟨j,h1,h2,h3⟩:=at_ _ h
    refine⟨j,by rw [jt,if_neg h0];exact h1,h2,?_⟩
    rw [h3,Wf,if_neg h0,if_pos h]
   ·left
    refine⟨?_,?_⟩
    ·rw [jt,if_neg h0];unfold plc;rw [if_neg h]
    ·rw [Wf,if_neg h0,if_neg h]
theorem Qq {fp:List Addr} {H:Hp} {b:Addr} {o:HO} (h:b∈fp):aw fp (upd H b o)=aw fp H:=by
 funext c
 by_cases hc:c∈fp
 ·rw [qI hc,qI hc]
 ·rw [zO hc,zO hc,zy (λz:c=b=>hc (by rw [z];exact h))]
section
variable {P:Program} {w:World} {K:W.Frag} {mg:Str->Option Value} {base:Heap} {T0 C:Addr}
def Z6 (C:Addr):Sp:=λvs H Q _=>∃ (p la:Addr) (b:Nat) (ls ws:ZA) (L t:Nat) (lay:Addr) (i s:Nat),vs=[.ref p,.ref lay,.int i,.int s]/\TailsAt C H p la b ls ws L/\GoodT b ls ws/\H lay=some (.lst ((xX ls ws b t).map V.int))/\i<=ws.length/\s<=b /\
 ∀ H',Same H H'->Q (.int (under ls b t ws[i]? s:Nat)) H'
theorem VF:zB ["self","layer","place","stop"] ["self","layer","place","stop"] (zq yS):={}
theorem Wo {f:Addr} {fd:FuncData} (D:Mt K C "Tails.many_by" "many_by" yS Am f fd) (zE:ClT K mg C) (T:Blt mg) (U:zbo mg):FnOk P w K mg base CX0 1 f fd Am (Z6 C):=by
 refine D.fn.ok VF (λvs H Q E h=>?_) (λcdv A outer s H vs Q E hr h=>?_)
 ·obtain⟨p,la,b,ls,ws,L,t,lay,i,s,rfl,_⟩:=h;rfl
 ·obtain⟨p,la,b,ls,ws,L,t,lay,i,s,rfl,TA,G,hlay,hi,hs,kk⟩:=h
  obtain⟨dx,sa,srs,h1,h2,h3,h4⟩:=TA.ob
  have b16:=G.g.b16
  have b2:=G.g.b2
  refine⟨_,(zu (zF (zA (zg1 K rfl) (by rfl) U.n_sum boot_sum (zf (yW (show CScope (zq yS) _ "behind" ["self","layer","place","stop"] ["layer"] [1] from {}) rfl (X5 K (wV (Y9 K) (zW (yO K) (xQ K (pv 0)) (pv 2) (λ_ _=>rfl)) tG (vV (pv 3)))) (λ_ _ _ _=>(Xf (zP zfc (pv 0) Zm (zV _)))) (λ_ _ _ _=>(zW (yO K) (pv 1) (pv 0) (λ_ _=>rfl)))) zg)))),?_⟩
  have hrow:=QW (ls:=ls) (b:=b) (by omega) hi
  rw [<- h4,List.getElem?_map] at hrow
  obtain⟨z,hz,ez⟩:=Option.map_eq_some_iff.mp hrow
  have hzm:=List.mem_of_getElem? hz
  have hz3:=zK _ _ _ _ (h3 z hzm)
  refine⟨_,rfl,p,C,dx,_,_,rfl,zK _ _ _ _ h1,zE.cl,zE.n_steps,ym _ _ _ _,_,rfl,sa,_,_,V.ref z.1,rfl,rfl,SqL.of (zK _ _ _ _ h2),vf (by rw [List.getElem?_map,hz];rfl),?_⟩
  refine⟨_,rfl,_,rfl,z.1,_,rfl,SqL.of hz3,λq hq=>?_⟩
  have m1:=zm hq (o:=.lst (ju z.2 none (some (s:Int))))
  have ecut:ju z.2 none (some (s:Int))=(List.range s).map (stepV ls ws ws[i]?):=by
   rw [Vw,ez,<- List.map_take,List.take_range,Nat.min_eq_left hs]
  rw [ecut] at m1 ⊢
  refine⟨q,rfl,⟨_,SqL.of zj⟩,yQ (K:=K) (a:=q) (xs:=(List.range s).map (stepV ls ws ws[i]?)) (λk ys H4=>H4=upd H q (.lst ((List.range s).map (stepV ls ws ws[i]?)))/\∃ ms:List Int,ys=ms.map V.int/\ms.length<=k/\ms.sum=((under ls b t ws[i]? k:Nat):Int)) ⟨rfl,[],rfl,Nat.le_refl _,by simp [under]⟩ (λk ys H4 _ ⟨e,_⟩=>by rw [e];exact SqL.of zj) ?_ ?_⟩
  ·rintro k x ys H4 hx ⟨rfl,ms,rfl,hml,hms⟩
   rw [List.getElem?_map] at hx
   obtain⟨c,hc,e⟩:=Option.map_eq_some_iff.mp hx
   have hk:k<s:=by have:=(List.getElem?_eq_some_iff.mp hc).1;rwa [List.length_range] at this
   have ec:c=k:=by
    rw [List.getElem?_range hk] at hc
    exact (Option.some.inj hc).symm
   subst ec
   subst e
   refine⟨by rw [List.length_map];exact Nat.lt_of_le_of_lt (show ms.length<=16 by omega) (by decide),?_⟩
   have hus:=Qm ls b t ws[i]? c
   rcases zbc (t:=t) G (c:=c) hi with ⟨e1,e2⟩ | ⟨j,e1,e2,e3⟩
   ·rw [e1]
    refine⟨_,rfl,rfl,_,rfl,yf ⟨rfl,ms,rfl,by omega,?_⟩⟩
    rw [hus,e2,hms]
    omega
   ·rw [e1]
    refine⟨_,rfl,rfl,_,rfl,yp ?_⟩
    refine⟨_,rfl,_,rfl,lay,_,_,V.int ((WQ ls b t ws[i]? c:Nat):Int),rfl,rfl,SqL.of (m1 _ _ hlay),vf (by rw [List.getElem?_map,e3];rfl),rfl,ms++[((WQ ls b t ws[i]? c:Nat):Int)],by simp,by rw [List.length_append,List.length_singleton];omega,?_⟩
    rw [List.sum_append,hms,hus]
    simp
  ·rintro ys H4 ⟨rfl,ms,rfl,hml,hms⟩ Dd hD
   refine⟨Dd,ms,rfl,SqL.of zj,?_⟩
   rw [hms,List.length_map,List.length_range]
   exact kk _ (m1.trans (zm hD))
def NoRef (H:Hp) (a c:Addr):Prop:=∀ xs,H a=some (.lst xs)->V.ref c∉xs
def NR (la:Addr) (H H':Hp):Prop:=∀ c o,c≠la->H c=some o->NoRef H la c->NoRef H' la c
theorem NR.refl (la:Addr) (H:Hp):NR la H H:=λ_ _ _ _ h=>h
theorem XS {la c:Addr} {H H':Hp} {o:HO} (m:Same (aw [la] H) (aw [la] H')) (hc:c≠la) (e:H c=some o):H' c=some o:=by
 have hc':c∉[la]:=by simpa using hc
 have:=m c o (by rw [zO hc'];exact e)
 rwa [zO hc'] at this
theorem NR.trans {la:Addr} {H H1 H2:Hp} (a:NR la H H1) (m:Same (aw [la] H) (aw [la] H1)) (b:NR la H1 H2):NR la H H2:=λc o hc e h=>b c o hc (XS m hc e) (a c o hc e h)
theorem NoRef.same {H H':Hp} {a c:Addr} {o:HO} (n:NoRef H a c) (h:H a=some o) (h':H' a=some o):NoRef H' a c:=λxs hx=>n xs (by rw [h,<- h'];exact hx)
theorem NR.same {la:Addr} {H H1 H2:Hp} {o:HO} (a:NR la H H1) (h:H1 la=some o) (m:Same H1 H2):NR la H H2:=λc u hc e n=>(a c u hc e n).same h (m _ _ h)
def TQ (C:Addr) (H:Hp) (p la:Addr) (b:Nat) (ls ws:ZA) (L:Nat) (R:Nat->Hp->Prop):Prop:=∀ (L':Nat) (H':Hp),L<=L'->TailsAt C H' p la b ls ws L'->Same (aw [la] H) (aw [la] H')->NR la H H'->R L' H'
def Wz (C:Addr):Sp:=λvs H Q _=>∃ (p la:Addr) (b:Nat) (ls ws:ZA) (L t:Nat),vs=[.ref p,.int t]/\TailsAt C H p la b ls ws L/\GoodT b ls ws/\L<=1000/\t<1000 /\
 ∀ lay:Addr,TQ C H p la b ls ws L λL' H'=>L'<=max L (t+1)->aw [la] H' lay=some (.lst ((xX ls ws b t).map V.int))->Q (.ref lay) H'
theorem Xe:zB ["self","left","shorter"] ["self","left"] (zq wH):={}
theorem zaZ {ls ws:ZA} {b t:Nat}:((List.range (ws.length+1)).map λi=>((under ls b t ws[i]? b:Nat):Int))=xX ls ws b (t+1):=by
 unfold xX
 apply List.ext_getElem?
 intro i
 rw [List.getElem?_map]
 by_cases h:i<ws.length
 ·rw [List.getElem?_range (by omega),List.getElem?_append_left (by rw [List.length_map];exact h),List.getElem?_map,Option.map_some,List.getElem?_eq_getElem h]
  rfl
 ·by_cases h2:i=ws.length
  ·subst h2
   rw [List.getElem?_range (by omega),List.getElem?_append_right (by rw [List.length_map];exact Nat.le_refl _),List.length_map,Nat.sub_self,Option.map_some,List.getElem?_eq_none (Nat.le_refl _)]
   rfl
  ·rw [List.getElem?_eq_none (by rw [List.length_range];omega),List.getElem?_eq_none (by rw [List.length_append,List.length_map,List.length_singleton];omega)]
   rfl
theorem Uy {f f1:Addr} {fd fd1:FuncData} (D:Mt K C "Tails.layer" "layer" wH Ar f fd) (zX:Mt K C "Tails.many_by" "many_by" yS Am f1 fd1) (zE:ClT K mg C) (T:Blt mg) (U:zbo mg):FnOk P w K mg base CX0 2 f fd Ar (Wz C):=by
 have uE:FnOk P w K mg base CX0 1 f1 fd1 Am (Z6 C):=Wo zX zE T U
 refine D.fn.ok Xe (λvs H Q E h=>?_) (λcdv A outer s H vs Q E hr h=>?_)
 ·obtain⟨p,la,b,ls,ws,L,t,rfl,_⟩:=h;rfl
 ·obtain⟨p,la,b,ls,ws,L,t,rfl,TA,G,hL,ht,kk⟩:=h
  have h13:=G.h13
  refine⟨_,(zp (Qo PassesOwn.never (zP XD (zA (wF K) (by rfl) T.n_len PySem.boot_len (zf (xQ K (pv 0)) zg)) (pv 1) (zV _))
    (zp (zH (i:=2) Xe.nd rfl (Or.inr rfl) (zW (yO K) (xQ K (pv 0)) (J3 Vr zr) (λ_ _=>rfl)))
    (zu (vg (zcH PySem.F.plainAttrs_list PySem.F.slot_list_append PySem.F.type_list_append VG (xQ K (pv 0)) (zf (yW (show CScope (zq wH) _ "place" ["self","left","shorter"] ["shorter","self"] [2,0] from {}) rfl (xg rfl T.n_range (zf (zN wJ (xQ K (pv 0)) zr) zg)) (λ_ _ _ _=>wA) (λ_ _ _ _=>(vQ zX zE.cl uE (hr.mono (by decide)) (pv 2) (zf (pv 1) (zf (pv 0) (zf (xQ K (pv 2)) zg)))))) zg))))))
   (zu (zF (zW (yO K) (xQ K (pv 0)) (pv 1) (λ_ _=>rfl))))),?_⟩
  refine QF (fun σ H2=>∃ (v:Option V) (L':Nat),σ=[some (.ref p),some (.int t),v]/\L<=L'/\L'<=max L (t+1)/\TailsAt C H2 p la b ls ws L'/\Same (aw [la] H) (aw [la] H2)/\NR la H H2)
   (fun σ H2=>match H2 la with | some (.lst xs)=>t+1-xs.length | _=>0) ⟨none,L,rfl,Nat.le_refl _,Nat.le_max_left _ _,TA,Same.refl _,NR.refl _ _⟩ ?_ ?_
  ·rintro σ H2 ⟨v,L',rfl,hLL,hLm,TA2,m2,nr2⟩
   obtain⟨dx,sa,srs,h1,h2,h3,h4⟩:=TA2.ob
   obtain⟨lrs,g1,g2,g3⟩:=TA2.ly
   have hl:lrs.length=L':=by have:=congrArg List.length g3;rwa [List.length_map,List.length_map,List.length_range] at this
   have hp:=zK _ _ _ _ h1
   have l1:=TA2.l1
   refine⟨_,rfl,p,C,dx,_,_,rfl,hp,zE.cl,zE.n_layers,j0 _ _ _ _,la,_,rfl,.inl (SqL.of g1),_,rfl,_,_,rfl,rfl,_,rfl,?_⟩
   rw [List.length_map,hl]
   refine zbw (λhc=>?_) (λhc=>?_)
   ·have hc':L'<=t:=by have:=of_decide_eq_true hc;omega
    have hlast:lrs[L'-1]?=some lrs[L'-1]:=List.getElem?_eq_getElem (by omega)
    generalize hz:lrs[L'-1]=z at hlast
    have hzm:z∈lrs:=List.mem_of_getElem? hlast
    have hz2:z.2=xX ls ws b (L'-1):=by
     have e:=congrArg (λl=>l[L'-1]?) g3
     simp only [List.getElem?_map,hlast,List.getElem?_range (show L'-1<L' by omega),Option.map_some] at e
     exact Option.some.inj e
    have elr:lrs=lrs.take (L'-1)++[z]:=by
     have e:=(List.take_append_drop (L'-1) lrs).symm
     rw [List.drop_eq_getElem_cons (show L'-1<lrs.length by omega),hz,List.drop_of_length_le (by omega)] at e
     exact e
    have eat:atI (lrs.map λz=>V.ref z.1) (-1)=some (V.ref z.1):=by
     rw [elr,List.map_append]
     exact zei _ _
    refine⟨_,rfl,p,C,dx,_,_,rfl,hp,zE.cl,zE.n_layers,j0 _ _ _ _,_,rfl,la,_,_,V.ref z.1,rfl,rfl,SqL.of g1,eat,?_⟩
    refine⟨_,rfl,p,C,dx,_,_,rfl,hp,zE.cl,zE.n_layers,j0 _ _ _ _,.inl ⟨rfl,_,SqL.of g1⟩,?_⟩
    refine⟨_,rfl,p,C,dx,_,_,rfl,hp,zE.cl,zE.n_outset,Zb _ _ _ _,_,_,rfl,rfl,((ws.length:Int)+1),rfl,by omega,by omega,uU (lo:=0) (n:=((ws.length:Int)+1).toNat) (λi ys H4=>ys=(((List.range i).map λi=>((under ls b (L'-1) ws[i]? b:Nat):Int))).map V.int/\Same H2 H4) ⟨rfl,Same.refl _⟩ ?_ ?_⟩
    ·rintro i ys H4 hi ⟨rfl,m4⟩
     refine⟨by rw [List.length_map,List.length_map,List.length_range];exact Nat.lt_of_lt_of_le (show i<20 by omega) (by decide),?_⟩
     unfold Xu
     dsimp only
     rw [if_pos rfl]
     have TA4:=TA2.same m4
     have hp4:=m4 _ _ hp
     refine⟨_,rfl,p,dx,_,rfl,hp4,vX _ _ _ _,_,rfl,_,rfl,_,rfl,p,C,dx,_,_,rfl,hp4,zE.cl,zE.n_base,zad _ _ _ _,?_⟩
     refine⟨p,la,b,ls,ws,L',L'-1,z.1,i,b,by rw [Int.zero_add];rfl,TA4,G,?_,by omega,Nat.le_refl _,λH5 m5=>⟨?_,m4.trans m5⟩⟩
     ·rw [<- hz2];exact m4 _ _ (zK _ _ _ _ (g2 z hzm))
     ·rw [List.range_succ,List.map_append,List.map_append]
      rfl
    rintro ys H4 ⟨rfl,m4⟩ q hq
    rw [show ((ws.length:Int)+1).toNat=ws.length+1 by omega,zaZ,show L'-1+1=L' by omega]
    have m5:=zm hq (o:=.lst ((xX ls ws b L').map V.int))
    have gla:=m5 _ _ (m4 _ _ g1)
    have nq:q≠la:=λe=>by rw [e,m4 _ _ g1] at hq;cases hq
    refine⟨la,_,_,rfl,rfl,gla,by rw [List.length_map,hl];exact Nat.lt_of_le_of_lt (show L'<=1000 by omega) (by decide),?_⟩
    have m25:Same (aw [la] H2) (aw [la] (upd (upd H4 q (.lst ((xX ls ws b L').map V.int))) la (.lst (lrs.map (λz=>V.ref z.1)++[.ref q])))):=by
     rw [Qq (by simp)]
     exact (m4.trans m5).aw [la]
    refine⟨⟨_,L'+1,rfl,by omega,by omega,⟨⟨dx,sa,srs,m25 _ _ h1,m25 _ _ h2,λy hy=>m25 _ _ (h3 y hy),h4⟩,⟨lrs++[(q,xX ls ws b L')],by rw [zj];simp,λy hy=>?_,?_⟩,by omega⟩,m2.trans m25,nr2.trans m2 ?_⟩,?_⟩
    ·rcases List.mem_append.mp hy with hy | hy
     ·exact m25 _ _ (g2 y hy)
     ·have e:y=(q,xX ls ws b L'):=by simpa using hy
      subst e
      rw [Qq (by simp),zO (by simp [nq]),zj]
    ·rw [List.map_append,g3,List.range_succ,List.map_append]
     rfl
    ·intro c o hc e n xs hx
     rw [zj] at hx
     injection hx with hx
     injection hx with hx
     rw [<- hx,List.mem_append]
     rintro (h | h)
     ·exact n _ g1 h
     ·rw [List.mem_singleton] at h
      injection h with h
      rw [<- h,m4 _ _ e] at hq;cases hq
    ·show (match (upd (upd H4 q (.lst ((xX ls ws b L').map V.int))) la (.lst (lrs.map (λz=>V.ref z.1)++[.ref q]))) la with | some (.lst xs)=>t+1-xs.length | _=>0)<(match H2 la with | some (.lst xs)=>t+1-xs.length | _=>0)
     rw [zj,g1]
     show t+1-(lrs.map (λz=>V.ref z.1)++[V.ref q]).length<t+1-(lrs.map λz=>V.ref z.1).length
     rw [List.length_append,List.length_map,List.length_singleton]
     omega
   ·have hc':t<L':=by
     by_cases z:t<L'
     ·exact z
     ·exact absurd (decide_eq_true (by omega:(L':Int)<=t)) hc
    have hlast:lrs[t]?=some lrs[t]:=List.getElem?_eq_getElem (by omega)
    generalize hz:lrs[t]=z at hlast
    have hzm:z∈lrs:=List.mem_of_getElem? hlast
    have hz2:z.2=xX ls ws b t:=by
     have e:=congrArg (λl=>l[t]?) g3
     simp only [List.getElem?_map,hlast,List.getElem?_range hc',Option.map_some] at e
     exact Option.some.inj e
    refine⟨_,rfl,p,C,dx,_,_,rfl,hp,zE.cl,zE.n_layers,j0 _ _ _ _,_,rfl,la,_,_,V.ref z.1,rfl,rfl,SqL.of g1,vf (by rw [List.getElem?_map,hlast];rfl),?_⟩
    exact kk z.1 L' H2 hLL TA2 m2 nr2 hLm (by rw [<- hz2];exact g2 z hzm)
  ·intro σ H2 Q Q' hq
   rintro⟨v0,e0,a,C',dx,fs,v,h1,h2,h3,h4,h5,p',ys,h6,h7,v1,e1,i,j,e3,e4,k,e5,q⟩
   exact⟨v0,e0,a,C',dx,fs,v,h1,h2,h3,h4,h5,p',ys,h6,h7,v1,e1,i,j,e3,e4,k,e5,hq _ _ q⟩
def vK (C:Addr):Sp:=λvs H Q _=>∃ (p la:Addr) (b:Nat) (ls ws:ZA) (L i s t:Nat),vs=[.ref p,.int i,.int s,.int t]/\TailsAt C H p la b ls ws L/\GoodT b ls ws/\L<=1000/\t<1000/\i<=ws.length/\s<=b/\TQ C H p la b ls ws L λL' H'=>L'<=max L (t+1)->Q (.int (under ls b t ws[i]? s:Nat)) H'
theorem Xr:zB ["self","place","stop","left"] ["self","place","stop","left"] (zq yF):={}
theorem Jw {f f1 f2:Addr} {fd fd1 fd2:FuncData} (D:Mt K C "Tails.many_under" "many_under" yF Al f fd) (yX:Mt K C "Tails.layer" "layer" wH Ar f1 fd1) (zX:Mt K C "Tails.many_by" "many_by" yS Am f2 fd2) (zE:ClT K mg C) (T:Blt mg) (U:zbo mg):FnOk P w K mg base CX0 3 f fd Al (vK C):=by
 have uE:FnOk P w K mg base CX0 1 f2 fd2 Am (Z6 C):=Wo zX zE T U
 have qN:FnOk P w K mg base CX0 2 f1 fd1 Ar (Wz C):=Uy yX zX zE T U
 refine D.fn.ok Xr (λvs H Q E h=>?_) (λcdv A outer s H vs Q E hr h=>?_)
 ·obtain⟨p,la,b,ls,ws,L,i,s,t,rfl,_⟩:=h;rfl
 ·obtain⟨p,la,b,ls,ws,L,i,s,t,rfl,TA,G,hL,ht,hi,hs,kk⟩:=h
  obtain⟨dx,sa,srs,h1,h2,h3,h4⟩:=TA.ob
  have hp:=zK _ _ _ _ h1
  refine⟨_,(zu (zF (vQ zX zE.cl uE (hr.mono (by decide)) (pv 0) (zf (vQ yX zE.cl qN (hr.mono (by decide)) (pv 0) (zf (pv 3) zg)) (zf (pv 1) (zf (pv 2) zg)))))),?_⟩
  refine⟨_,rfl,p,dx,_,rfl,hp,vX _ _ _ _,?_⟩
  refine⟨_,rfl,p,dx,_,rfl,hp,vX _ _ _ _,_,rfl,p,la,b,ls,ws,L,t,rfl,TA,G,hL,ht,λlay L' H' hLL TA' m' nr' hm hlay=>?_⟩
  exact⟨_,rfl,_,rfl,p,la,b,ls,ws,L',t,lay,i,s,rfl,TA',G,zK _ _ _ _ hlay,hi,hs,λH2 m2=>kk L' H2 hLL (TA'.same m2) (m'.trans (m2.aw [la])) (let ⟨_,g,_⟩:=TA'.ly;nr'.same g m2) hm⟩
end
theorem JX {ls ws:ZA} {b m:Nat} (G:GoodT b ls ws) {i c:Nat} (hi:i<=ws.length) (R:Rep ls b m ws[i]?) (hc:c<b) :
  (∃ j:Nat,stepV ls ws ws[i]? c=.int j/\j<=ws.length/\Rep ls b (m*b+c) ws[j]?)\/(stepV ls ws ws[i]? c=.non/\1<=m*b+c/\gd ls b (m*b+c)=false):=by
 have b2:=G.g.b2
 have ep:∀ h:¬ (ws[i]?=none/\c=0),stepV ls ws ws[i]? c=plc ls ws (ws[i]?.getD []++[(c:Int)]):=by
  intro h
  cases hw:ws[i]? with
  | some x=>rfl
  | none =>
   rw [jt,if_neg (λz=>h ⟨hw,z⟩)]
   rfl
 rcases R.step G.ne b2 hc with ⟨h1,h2,h3⟩ | ⟨h0,⟨h1,h2⟩ | ⟨h1,h2,h3⟩⟩
 ·left
  refine⟨ws.length,by rw [h1,jt,if_pos h2],Nat.le_refl _,by rw [List.getElem?_eq_none (Nat.le_refl _)];exact h3⟩
 ·left
  have hm:ye ls (ws[i]?.getD []++[(c:Int)])∈ws:=(G.s.mem _).mpr (Wk G.ne h1)
  have hlt:=List.idxOf_lt_length_iff.mpr hm
  refine⟨ws.idxOf (ye ls (ws[i]?.getD []++[(c:Int)])),by rw [ep h0];unfold plc;rw [if_pos h1],Nat.le_of_lt hlt,?_⟩
  rw [List.getElem?_eq_getElem hlt,List.getElem_idxOf hlt]
  exact h2
 ·right
  exact⟨by rw [ep h0];unfold plc;rw [if_neg (by rw [h1];exact Bool.false_ne_true)],h2,h3⟩
section
variable {P:Program} {w:World} {K:W.Frag} {mg:Str->Option Value} {base:Heap} {T0 C:Addr}
theorem zbj {H:Hp} {p la b:Nat} {ls ws:ZA} {L i c:Nat} (TA:TailsAt C H p la b ls ws L) (G:GoodT b ls ws) (hi:i<=ws.length) (hc:c<b) :
  ∃ (dx sa:Addr) (srs:List (Addr×List V)) (z:Addr×List V),H p=some (.ins C dx (Xd b ws.length sa la))/\H sa=some (.lst (srs.map λz=>V.ref z.1))/\atI (srs.map λz=>V.ref z.1) (i:Int)=some (V.ref z.1)/\H z.1=some (.lst z.2)/\atI z.2 (c:Int)=some (stepV ls ws ws[i]? c):=by
 obtain⟨dx,sa,srs,h1,h2,h3,h4⟩:=TA.ob
 have hrow:=QW (ls:=ls) (b:=b) (by have:=G.g.b2;omega) hi
 rw [<- h4,List.getElem?_map] at hrow
 obtain⟨z,hz,ez⟩:=Option.map_eq_some_iff.mp hrow
 refine⟨dx,sa,srs,z,zK _ _ _ _ h1,zK _ _ _ _ h2,vf (by rw [List.getElem?_map,hz];rfl),zK _ _ _ _ (h3 z (List.mem_of_getElem? hz)),vf ?_⟩
 rw [ez,List.getElem?_map,List.getElem?_range hc]
 rfl
theorem TailsAt.obj {H:Hp} {p la b:Nat} {ls ws:ZA} {L:Nat} (TA:TailsAt C H p la b ls ws L):∃ dx sa,H p=some (.ins C dx (Xd b ws.length sa la)):=by
 obtain⟨dx,sa,srs,h1,_⟩:=TA.ob
 exact⟨dx,sa,zK _ _ _ _ h1⟩
def tE (C:Addr):Sp:=λvs H Q _=>∃ (p la:Addr) (b:Nat) (ls ws:ZA) (L:Nat) (fa:Addr) (n:Nat),vs=[.ref p,.ref fa]/\TailsAt C H p la b ls ws L/\GoodT b ls ws/\L<=1000/\aw [la] H fa=some (.lst ((figs b n).map V.int))/\n<2^900/\TQ C H p la b ls ws L λL' H'=>L'<=1000->Q (.int (many (gd ls b) n:Nat)) H'
theorem yz:zB ["self","figures","place","many","k"] ["self","figures"] (zq xq):={}
theorem Jq {f f1:Addr} {fd fd1:FuncData} (D:Mt K C "Tails.many_below" "many_below" xq As f fd) (zY:Mt K C "Tails.many_under" "many_under" yF Al f1 fd1) (zZ:FnOk P w K mg base CX0 3 f1 fd1 Al (vK C)) (zE:ClT K mg C) (T:Blt mg):FnOk P w K mg base CX0 4 f fd As (tE C):=by
 refine D.fn.ok yz (λvs H Q E h=>?_) (λcdv A outer s H vs Q E hr h=>?_)
 ·obtain⟨p,la,b,ls,ws,L,fa,n,rfl,_⟩:=h;rfl
 ·obtain⟨p,la,b,ls,ws,L,fa,n,rfl,TA,G,hL,hf,hn,kk⟩:=h
  have b2:=G.g.b2
  have hlen:=Ww b2 900 n hn
  obtain⟨dx0,sa0,hp0⟩:=TA.obj
  generalize hN:(figs b n).length=N at hlen
  have hnN:=zbm b2 hN
  refine⟨_,(zp (zH (i:=2) yz.nd rfl (Or.inl rfl) (xQ K (pv 0)))
   (zp (zH (i:=3) yz.nd rfl (Or.inl rfl) zr)
   (zp (Zi PassesOwn.never rfl (xg rfl T.n_range (zf (zA (wF K) (by rfl) T.n_len PySem.boot_len (zf (pv 1) zg)) zg)) (yV (i:=4) yz.nd rfl (Or.inl rfl))
    (zp (zb7 (i:=3) yz.nd rfl (Or.inl rfl) (vQ zY zE.cl zZ (hr.mono (by decide)) (pv 0) (zf (pv 2) (zf (zW (yO K) (pv 1) (pv 4) (λ_ _=>rfl)) (zf (zN Vg (zN Vg (zA (wF K) (by rfl) T.n_len PySem.boot_len (zf (pv 1) zg)) (pv 4)) zr) zg)))) zeD)
    (zp (zH (i:=2) yz.nd rfl (Or.inl rfl) (zW (yO K) (zW (yO K) (xQ K (pv 0)) (pv 2) (λ_ _=>rfl)) (zW (yO K) (pv 1) (pv 4) (λ_ _=>rfl)) (λ_ _=>rfl)))
    (zu (yE (zP zbF (pv 2) Zm (zV _))
     (zu (zF (pv 3)))
     zT)))))
   (zu (zF (pv 3)))))),?_⟩
  refine⟨_,rfl,p,C,dx0,_,_,rfl,hp0,zE.cl,zE.n_outset,Zb _ _ _ _,?_⟩
  refine⟨_,rfl,fa,_,rfl,.inl (SqL.of (zK _ _ _ _ hf)),?_⟩
  rw [List.length_map,hN]
  refine⟨_,rfl,by omega,by omega,uh (lo:=0) (n:=(N:Int).toNat) (λk σ H2=>∃ (v4:Option V) (i L':Nat),σ=[some (.ref p),some (.ref fa),some (.int i),some (.int (many (gd ls b) (n / b^(N-k)*b^(N-k)):Nat)),v4]/\i<=ws.length/\Rep ls b (n / b^(N-k)) ws[i]?/\L<=L'/\L'<=1000/\TailsAt C H2 p la b ls ws L'/\Same (aw [la] H) (aw [la] H2)/\NR la H H2) ⟨none,ws.length,L,?_,Nat.le_refl _,?_,Nat.le_refl _,hL,TA,Same.refl _,NR.refl _ _⟩ ?_ ?_⟩
  ·rw [Nat.sub_zero,Nat.div_eq_of_lt hnN,Nat.zero_mul]
   rfl
  ·rw [Nat.sub_zero,Nat.div_eq_of_lt hnN,List.getElem?_eq_none (Nat.le_refl _)]
   exact .inl ⟨rfl,rfl⟩
  ·rintro k σ H2 hk ⟨v4,i,L',rfl,hi,R,hLL,hL',TA2,m2,nr2⟩
   have hkN:k<N:=by omega
   obtain⟨t,ht⟩:∃ t,N-k=t+1:=⟨N-k-1,by omega⟩
   have et:N-1-k=t:=by omega
   have hfk:=zeu b2 hN hkN
   rw [et] at hfk
   rw [ht] at R ⊢
   have hnx:=zdS (b:=b) (n:=n) (t:=t) (by omega)
   have hcb:n / b^t % b<b:=Nat.mod_lt _ (by omega)
   generalize hc:n / b^t % b=c at hfk hnx hcb
   have hf2:=m2 _ _ hf
   have hfH2:=zK _ _ _ _ hf2
   obtain⟨dx2,sa2,hp2⟩:=TA2.obj
   have hat:atI ((figs b n).map V.int) (0+(k:Int))=some (V.int (c:Nat)):=by rw [Int.zero_add];exact vf (by rw [List.getElem?_map,hfk];rfl)
   refine⟨_,rfl,_,rfl,p,dx2,_,rfl,hp2,vX _ _ _ _,_,rfl,_,rfl,_,rfl,fa,_,_,_,rfl,rfl,SqL.of hfH2,hat,_,rfl,fa,_,rfl,.inl (SqL.of hfH2),_,rfl,_,_,rfl,rfl,_,_,rfl,rfl,?_⟩
   refine⟨p,la,b,ls,ws,L',i,c,t,?_,TA2,G,hL',by omega,hi,by omega,λL3 H3 hL3 TA3 m3 nr3 hmx=>?_⟩
   ·rw [List.length_map,hN]
    show [V.ref p,V.int i,V.int c,V.int ((N:Int)-(0+(k:Int))-1)]=_
    rw [show ((N:Int)-(0+(k:Int))-1)=(t:Int) by omega]
   have hL3':L3<=1000:=by omega
   have m23:=m2.trans m3
   have nr23:=nr2.trans m2 nr3
   have hf3:=zK _ _ _ _ (m23 _ _ hf)
   refine⟨_,_,rfl,rfl,?_⟩
   have eum:=jT G.ne b2 R t (s:=c) (by omega)
   rw [<- hnx] at eum
   obtain⟨dx3,sa3,srs3,z3,q1,q2,q3,q4,q5⟩:=zbj TA3 G hi hcb
   refine⟨_,rfl,p,C,dx3,_,_,rfl,q1,zE.cl,zE.n_steps,ym _ _ _ _,_,rfl,sa3,_,_,_,rfl,rfl,SqL.of q2,q3,_,rfl,_,rfl,fa,_,_,_,rfl,rfl,SqL.of hf3,hat,z3.1,_,_,_,rfl,rfl,SqL.of q4,q5,?_⟩
   rcases JX G hi R hcb with ⟨j,e1,e2,e3⟩ | ⟨e1,e2,e3⟩
   ·rw [e1]
    refine⟨_,rfl,rfl,_,rfl,yf ⟨some (.int (0+(k:Int))),j,L3,?_,e2,?_,by omega,hL3',TA3,m23,nr23⟩⟩
    ·rw [show N-(k+1)=t by omega,<- eum]
     show [_,_,_,some (V.int ((many (gd ls b) (n / b^(t+1)*b^(t+1)):Nat)+(under ls b t ws[i]? c:Nat):Int)),_]=[_,_,_,some (V.int ((many (gd ls b) (n / b^(t+1)*b^(t+1))+under ls b t ws[i]? c:Nat):Int)),_]
     rw [Int.natCast_add]
    ·rw [show N-(k+1)=t by omega,hnx];exact e3
   ·rw [e1]
    refine⟨_,rfl,rfl,_,rfl,yp ⟨_,rfl,?_⟩⟩
    have q:=kk L3 H3 (by omega) TA3 m23 nr23 hL3'
    rw [<- hnx] at e2 e3
    have ebad:=zeG G.ne b2 e2 e3 t (r:=n % b^t) (Nat.le_of_lt (Nat.mod_lt _ (Nat.pow_pos (by omega))))
    rw [Nat.mul_comm,Nat.div_add_mod,Nat.mul_comm] at ebad
    rw [ebad,<- eum,Int.natCast_add] at q
    exact q
  ·rintro σ H2 ⟨v4,i,L',rfl,hi,R,hLL,hL',TA2,m2,nr2⟩
   refine⟨_,rfl,?_⟩
   have q:=kk L' H2 hLL TA2 m2 nr2 hL'
   rw [Int.toNat_natCast,Nat.sub_self,Nat.pow_zero,Nat.div_one,Nat.mul_one]
   exact q
end
theorem LT.off {T la:Addr} {H H':Hp} {xs:List V} (h:LT T H) (hla:H la=some (.lst xs)) (m:Same (aw [la] H) (aw [la] H')):LT T H':=by
 have go:∀ c o,c≠la->H c=some o->H' c=some o:=λc o hc e=>by
  have hc':c∉[la]:=by simpa using hc
  have:=m c o (by rw [zO hc'];exact e)
  rwa [zO hc'] at this
 have n0:T≠la:=Ne.symm (h.lst hla)
 rcases h with h | ⟨c,h1,h2⟩
 ·exact .inl (go _ _ n0 h)
 ·refine .inr ⟨c,go _ _ n0 h1,go _ _ (λz=>?_) h2⟩
  rw [z,hla] at h2
  cases h2
theorem zaA {α:Type} {f:α->V} (h:∀ a,f a=V.int 1):∀ l:List α,(List.replicate l.length [V.int 1]).flatten=l.map f
 | []=>rfl
 | a :: l=>by rw [List.length_cons,List.replicate_succ,List.flatten_cons,zaA h l,List.map_cons,h a];rfl
section
variable {P:Program} {w:World} {K:W.Frag} {mg:Str->Option Value} {base:Heap} {T0 C:Addr}
def jA (T0 C:Addr):Sp:=λvs H Q _=>∃ (p dx r:Addr) (b:Nat) (bl:Addr) (zs:ZB),vs=[.ref p,.ref r]/\H p=some (.ins C dx [])/\RuleAt H r b bl zs/\GoodRule b (zs.map (·.2))/\LT T0 H /\
 ∀ (la:Addr) (ws:ZA) (H':Hp),TailsAt C H' p la b (zs.map (·.2)) ws 1->GoodT b (zs.map (·.2)) ws->(∀ c o,c≠p->c≠T0->H c=some o->H' c=some o)->LT T0 H'->H la=none->(∃ dx sa,H' p=some (.ins C dx (Xd b ws.length sa la))/\H sa=none/\∀ c o,H c=some o->NoRef H' la c/\NoRef H' sa c)->Q .non H'
theorem j8:zB ["self","rule","stands"] ["self","rule"] (zq uM):={}
theorem zed {f f1 f2 f3:Addr} {fd fd1 fd2 fd3:FuncData} (D:Mt K C "Tails.__init__" "__init__" uM Aj f fd) (Yn:Df K mg "stands_of" yg ["bad"] f1 fd1) (Wl:FnOk P w K mg base CX0 6 f1 fd1 ["bad"] (Yp T0)) (Yv:Df K mg "all_steps" qu A6 f2 fd2) (Wr:FnOk P w K mg base CX0 6 f2 fd2 A6 YG)
  (yw:Df K mg "lacks_all" wj Ac f3 fd3) (xr:FnOk P w K mg base CX0 2 f3 fd3 Ac wX) (zE:ClT K mg C) (T:Blt mg):FnOk P w K mg base CX0 7 f fd Aj (jA T0 C):=by
 refine D.fn.ok j8 (λvs H Q E h=>?_) (λcdv A outer s H vs Q E hr h=>?_)
 ·obtain⟨p,dx,r,b,bl,zs,rfl,_⟩:=h;rfl
 ·obtain⟨p,dx,r,b,bl,zs,rfl,hp,R,g,hT,kk⟩:=h
  have h4:zs.length<=4:=by have:=g.len;rwa [List.length_map] at this
  have gz:∀ z∈zs,z.2≠[]/\z.2.length<=4:=λz hz=>⟨(g.st _ (List.mem_map.mpr ⟨z,hz,rfl⟩)).ne,(g.st _ (List.mem_map.mpr ⟨z,hz,rfl⟩)).len⟩
  have npT:p≠T0:=λz=>by
   rw [z] at hp
   rcases hT with h | ⟨c,h,_⟩
   ·rw [h] at hp;cases hp
   ·rw [h] at hp;cases hp
  refine⟨_,(zp (zH (i:=2) j8.nd rfl (Or.inl rfl) (zJ Yn Wl (hr.mono (by decide)) (zf (zW (wU K) (pv 1) zr (λ_ _=>rfl)) zg)))
   (zp (Zo (pv 0) (zW (wU K) (pv 1) zr (λ_ _=>rfl)) rfl)
   (zp (Zo (pv 0) (zA (wF K) (by rfl) T.n_len PySem.boot_len (zf (pv 2) zg)) rfl)
   (zp (Zo (pv 0) (zJ Yv Wr (hr.mono (by decide)) (zf (pv 1) (zf (pv 2) zg))) rfl)
   (zu (Zo (pv 0) (yc (zf (zN uG (zN zeC (yc (zf zr zg)) (zA (wF K) (by rfl) T.n_len PySem.boot_len (zf (pv 2) zg))) (yc (zf (zeL (xm (zJ yw xr (hr.mono (by decide)) (zf (zW (wU K) (pv 1) zr (λ_ _=>rfl)) (zf (yc (zf zr zg)) zg)))) zr zr) zg))) zg)) rfl)))))),?_⟩
  refine⟨_,rfl,r,_,_,V.ref bl,rfl,rfl,SqT.of R.tu,rfl,bl,zs,rfl,R.li,R.st,h4,gz,hT,λDd ws H1 hDn hD hws SL h13 mL hT1=>?_⟩
  have R1:RuleAt H1 r b bl zs:=⟨mL _ _ (hT.tup R.tu) R.tu,mL _ _ (hT.lst R.li) R.li,λz hz=>mL _ _ (hT.lst (R.st z hz)) (R.st z hz)⟩
  have hp1:=mL _ _ npT hp
  have rp:r≠p:=tY R1.tu hp1 (λz=>nomatch z)
  have lp:∀ {c:Addr} {xs:List V},H1 c=some (.lst xs)->c≠p:=λh=>tY h hp1 (λz=>nomatch z)
  refine⟨_,rfl,r,_,_,V.int b,rfl,rfl,SqT.of R1.tu,rfl,_,rfl,p,C,dx,_,rfl,hp1,zE.cl,zE.n_base,(by show 0<1000;decide),?_⟩
  refine⟨_,rfl,Dd,_,rfl,.inl (SqL.of (by rw [zy (lp hD)];exact hD)),_,rfl,p,C,dx,_,rfl,zj,zE.cl,zE.n_outset,(by show 1<1000;decide),?_⟩
  rw [zcq,List.length_map]
  generalize hH3:upd H1 p (.ins C dx (zU "outset" (.int (ws.length:Nat)) (zU "base" (.int b) [])))=H3
  have m3:∀ c o,c≠p->H1 c=some o->H3 c=some o:=λc o hc e=>by rw [<- hH3,zy hc];exact e
  have hp3:H3 p=some (.ins C dx (zU "outset" (.int (ws.length:Nat)) (zU "base" (.int b) []))):=by rw [<- hH3,zj]
  have R3:RuleAt H3 r b bl zs:=⟨m3 _ _ rp R1.tu,m3 _ _ (lp R1.li) R1.li,λz hz=>m3 _ _ (lp (R1.st z hz)) (R1.st z hz)⟩
  refine⟨_,rfl,_,rfl,r,b,bl,zs,Dd,ws,rfl,R3,g,m3 _ _ (lp hD) hD,λz hz=>m3 _ _ (lp (hws z hz).2.1) (hws z hz).2.1,SL,h13,λsa srs H4 hsa m4 hsal hsrs hsr2=>?_⟩
  have hp4:=m4 _ _ hp3
  have len2:(zU "outset" (.int (ws.length:Nat)) (zU "base" (.int b) [])).length<=2:=Nat.le_trans (xJ _ _ _) (Nat.succ_le_succ (xJ _ _ _))
  refine⟨_,rfl,p,C,dx,_,rfl,hp4,zE.cl,zE.n_steps,by omega,?_⟩
  generalize hH5:upd H4 p (.ins C dx (zU "steps" (.ref sa) (zU "outset" (.int (ws.length:Nat)) (zU "base" (.int b) []))))=H5
  have m5:∀ c o,c≠p->H4 c=some o->H5 c=some o:=λc o hc e=>by rw [<- hH5,zy hc];exact e
  have hp5:H5 p=some (.ins C dx (zU "steps" (.ref sa) (zU "outset" (.int (ws.length:Nat)) (zU "base" (.int b) [])))):=by rw [<- hH5,zj]
  have lp4:∀ {c:Addr} {xs:List V},H4 c=some (.lst xs)->c≠p:=λh=>tY h hp4 (λz=>nomatch z)
  have R4:=R3.same m4
  have R5:RuleAt H5 r b bl zs:=⟨m5 _ _ (tY R4.tu hp4 (λz=>nomatch z)) R4.tu,m5 _ _ (lp4 R4.li) R4.li,λz hz=>m5 _ _ (lp4 (R4.st z hz)) (R4.st z hz)⟩
  have hD5:H5 Dd=some (.lst (ws.map λz=>V.ref z.1)):=m5 _ _ (lp4 (m4 _ _ (m3 _ _ (lp hD) hD))) (m4 _ _ (m3 _ _ (lp hD) hD))
  refine⟨(by show 1<=sizeLine;decide),λq1 n1=>?_⟩
  refine⟨_,rfl,Dd,_,rfl,.inl (SqL.of (zm n1 _ _ hD5)),?_⟩
  rw [List.length_map]
  refine⟨q1,_,_,rfl,rfl,zj,by omega,by omega,?_,λq2 n2=>?_⟩
  ·show 1*(ws.length:Int).toNat<=sizeLine
   exact Nat.le_trans (show 1*(ws.length:Int).toNat<=13 by omega) (by decide)
  have s1:=zm n1 (o:=.lst [V.int 1])
  have s2:=s1.trans (zm n2 (o:=.lst (List.replicate (ws.length:Int).toNat [V.int 1]).flatten))
  have R6:=R5.same s2
  refine⟨_,rfl,r,_,_,V.ref bl,rfl,rfl,SqT.of R6.tu,rfl,(by show 1<=sizeLine;decide),λq3 n3=>?_⟩
  have s3:=s2.trans (zm n3 (o:=.lst [V.int 0]))
  have R7:=R5.same s3
  refine⟨bl,q3,zs,[0],rfl,R7.li,R7.st,zj,by omega,by decide,λz hz=>⟨(gz z hz).1,Nat.le_trans (gz z hz).2 (by decide)⟩,λH8 s8=>⟨_,rfl,?_⟩⟩
  have s38:=s3.trans s8
  have fin:∀ x:Int,x=((Ve (zs.map (·.2)) b 0:Nat):Int)->∀ q4,H8 q4=none->q2≠q4->∀ q5,upd H8 q4 (.lst [V.int x]) q5=none->∀ q6,upd (upd H8 q4 (.lst [V.int x])) q5 (.lst ((List.replicate (ws.length:Int).toNat [V.int 1]).flatten++[V.int x])) q6=none ->
    Q .non (upd (upd (upd (upd H8 q4 (.lst [V.int x])) q5 (.lst ((List.replicate (ws.length:Int).toNat [V.int 1]).flatten++[V.int x]))) q6 (.lst [V.ref q5])) p (.ins C dx (zU "layers" (.ref q6) (zU "steps" (.ref sa) (zU "outset" (.int (ws.length:Nat)) (zU "base" (.int b) [])))))):=by
   intro x hx q4 n4 _ q5 n5 q6 n6
   have t4:=zm n4 (o:=.lst [V.int x])
   have t5:=zm n5 (o:=.lst ((List.replicate (ws.length:Int).toNat [V.int 1]).flatten++[V.int x]))
   have t6:=zm n6 (o:=.lst [V.ref q5])
   have t46:=t4.trans (t5.trans t6)
   have s56:=s38.trans t46
   have hp9:=s56 _ _ hp5
   have f3:∀ c,H3 c=none->H c=none:=λc h3'=>by
    have h1':H1 c=none:=by
     rw [<- hH3] at h3'
     by_cases z:c=p
     ·subst z;rw [zj] at h3';cases h3'
     ·rwa [zy z] at h3'
    cases e:H c with
    | none=>rfl
    | some o =>
     by_cases z:c=T0
     ·subst z
      exact absurd h1' (by
       rcases hT1 with h | ⟨d,h,_⟩
       ·rw [h];simp
       ·rw [h];simp)
     ·rw [mL c o z e] at h1';cases h1'
   have f5:∀ c,H5 c=none->H c=none:=λc hc=>by
    have h5:H4 c=none:=by
     rw [<- hH5] at hc
     by_cases z:c=p
     ·subst z;rw [zj] at hc;cases hc
     ·rwa [zy z] at hc
    exact f3 c (m4.free h5)
   have q6H5:H5 q6=none:=(s38.trans (t4.trans t5)).free n6
   have q6p:q6≠p:=λz=>by rw [z,hp5] at q6H5;cases q6H5
   have np5:q5≠q6:=λz=>by rw [<- z,zj] at n6;cases n6
   generalize hH9:upd (upd (upd H8 q4 (.lst [V.int x])) q5 (.lst ((List.replicate (ws.length:Int).toNat [V.int 1]).flatten++[V.int x]))) q6 (.lst [V.ref q5])=H9 at t6 t46 s56 hp9
   have hq6:H9 q6=some (.lst [V.ref q5]):=by rw [<- hH9,zj]
   have hq5:H9 q5=some (.lst ((List.replicate (ws.length:Int).toNat [V.int 1]).flatten++[V.int x])):=by rw [<- hH9,zy np5,zj]
   have q5p:q5≠p:=tY hq5 hp9 (λz=>nomatch z)
   have off:∀ c o,c≠p->H5 c=some o->aw [q6] (upd H9 p (.ins C dx (Xd b ws.length sa q6))) c=some o:=λc o hc e=>by
    have hcq:c≠q6:=zx e q6H5
    rw [zO (by simpa using hcq),zy hc]
    exact s56 c o e
   have sa4:H4 sa=some (.lst (srs.map λz=>V.ref z.1)):=hsal
   have l1:∀ {c:Addr} {xs:List V},H4 c=some (.lst xs)->H5 c=some (.lst xs)/\c≠p:=λh=>⟨m5 _ _ (lp4 h) h,lp4 h⟩
   refine kk q6 (ws.map (·.2)) _ ⟨⟨dx,sa,srs,?_,off _ _ (l1 hsal).2 (l1 hsal).1,λz hz=>off _ _ (l1 (hsrs z hz).2).2 (l1 (hsrs z hz).2).1,hsr2⟩,⟨[(q5,xX (zs.map (·.2)) (ws.map (·.2)) b 0)],by rw [zy q6p];exact hq6,λz hz=>?_,rfl⟩,Nat.le_refl _⟩ ⟨g,SL,by rw [List.length_map];exact h13⟩ (λc o hc hcT e=>?_) ?_ (f5 _ q6H5) ⟨dx,sa,by rw [zj,List.length_map];rfl,f3 _ hsa,λc o e=>⟨λxs hx=>?_,λxs hx=>?_⟩⟩
   ·rw [zO (by simpa using Ne.symm q6p),List.length_map]
    exact zj
   ·have e:z=(q5,xX (zs.map (·.2)) (ws.map (·.2)) b 0):=by simpa using hz
    subst e
    rw [zO (by simpa using np5),zy q5p,hq5]
    congr 2
    unfold xX
    rw [List.map_append,hx,Int.toNat_natCast,List.map_map,List.map_map]
    rw [zaA (λ_=>rfl) ws]
    rfl
   ·rw [zy hc]
    have h1:=mL c o hcT e
    exact s56 c o (m5 c o hc (m4 c o (m3 c o hc h1)))
   ·have a1:LT T0 H3:=by
     rcases hT1 with h | ⟨d,h1,h2⟩
     ·exact .inl (m3 _ _ (Ne.symm npT) h)
     ·exact .inr ⟨d,m3 _ _ (Ne.symm npT) h1,m3 _ _ (tY h2 hp1 (λz=>nomatch z)) h2⟩
    have a2:=a1.same m4
    have a3:LT T0 H5:=by
     rcases a2 with h | ⟨d,h1,h2⟩
     ·exact .inl (m5 _ _ (Ne.symm npT) h)
     ·exact .inr ⟨d,m5 _ _ (Ne.symm npT) h1,m5 _ _ (tY h2 hp4 (λz=>nomatch z)) h2⟩
    have a4:=a3.same s56
    rcases a4 with h | ⟨d,h1,h2⟩
    ·exact .inl (by rw [zy (Ne.symm npT)];exact h)
    ·exact .inr ⟨d,by rw [zy (Ne.symm npT)];exact h1,by rw [zy (tY h2 hp9 (λz=>nomatch z))];exact h2⟩
   ·rw [zy q6p,hq6] at hx
    injection hx with hx
    injection hx with hx
    rw [<- hx,List.mem_singleton]
    intro z
    injection z with z
    have q5n:H5 q5=none:=(s38.trans t4).free n5
    rw [z,f5 _ q5n] at e;cases e
   ·rw [zy (l1 hsal).2,s56 _ _ (l1 hsal).1] at hx
    injection hx with hx
    injection hx with hx
    rw [<- hx]
    intro hm
    obtain⟨z,hz,ez⟩:=List.mem_map.mp hm
    injection ez with ez
    rw [<- ez,f3 _ (hsrs z hz).1] at e;cases e
  have hq2:H8 q2=some (.lst (List.replicate (ws.length:Int).toNat [V.int 1]).flatten):=s8 _ _ (zm n3 _ _ zj)
  have lenr:(List.replicate (ws.length:Int).toNat [V.int 1]).flatten.length<=13:=by rw [Int.toNat_natCast,zaA (f:=λ_=>V.int 1) (λ_=>rfl) ws,List.length_map];exact h13
  have len3:(zU "steps" (.ref sa) (zU "outset" (.int (ws.length:Nat)) (zU "base" (.int b) []))).length<=3:=Nat.le_trans (xJ _ _ _) (Nat.succ_le_succ len2)
  have tail:∀ x:Int,x=((Ve (zs.map (·.2)) b 0:Nat):Int)->∀ q4,H8 q4=none->∃ l b' xs zs',V.ref q2=V.ref l/\V.ref q4=V.ref b'/\upd H8 q4 (.lst [V.int x]) l=some (.lst xs)/\upd H8 q4 (.lst [V.int x]) b'=some (.lst zs')/\xs.length+zs'.length<=sizeLine/\∀ q5,upd H8 q4 (.lst [V.int x]) q5=none ->
    1<=sizeLine/\∀ q6,upd (upd H8 q4 (.lst [V.int x])) q5 (.lst (xs++zs')) q6=none->∃ v,some (some (V.ref p))=some (some v)/\∃ a C' dx' fs,v=.ref a/\upd (upd (upd H8 q4 (.lst [V.int x])) q5 (.lst (xs++zs'))) q6 (.lst [V.ref q5]) a=some (.ins C' dx' fs)/\Cls K C'/\NoAttr K C' "layers"/\fs.length<1000/\Q .non (upd (upd (upd (upd H8 q4 (.lst [V.int x])) q5 (.lst (xs++zs'))) q6 (.lst [V.ref q5])) a (.ins C' dx' (zU "layers" (.ref q6) fs))):=by
   intro x hx q4 n4
   have nq:q2≠q4:=zx hq2 n4
   refine⟨q2,q4,_,_,rfl,rfl,by rw [zy nq];exact hq2,zj,Nat.le_trans (Nat.add_le_add lenr (Nat.le_refl 1)) (by decide),λq5 n5=>⟨(by decide),λq6 n6=>?_⟩⟩
   have hp8:=s38 _ _ hp5
   exact⟨_,rfl,p,C,dx,_,rfl,(zm n4).trans ((zm n5).trans (zm n6)) _ _ hp8,zE.cl,zE.n_layers,by omega,fin x hx q4 n4 nq q5 n5 q6 n6⟩
  cases hlk:lacks (zs.map (·.2)) [0] with
  | true =>
   refine yp ?_
   refine⟨(by show 1<=sizeLine;decide),λq4 n4=>?_⟩
   exact tail 1 (by unfold Ve;rw [hlk];rfl) q4 n4
  | false =>
   refine yf ?_
   refine⟨(by show 1<=sizeLine;decide),λq4 n4=>?_⟩
   exact tail 0 (by unfold Ve;rw [hlk];rfl) q4 n4
end
theorem zcN {H:Hp} {x dx:Addr} {C:Addr} (nx:H x=none) (ndx:H dx=none):Same H (upd (upd H dx (.own x)) x (.ins C dx [])):=λb o e=>by
 rw [zy (zx e nx),zy (zx e ndx)]
 exact e
theorem RuleAt.sameL {T0 r bl:Addr} {H H':Hp} {b:Nat} {zs:ZB} (R:RuleAt H r b bl zs) (hT:LT T0 H) (m:SameL T0 H H'):RuleAt H' r b bl zs :=
 ⟨m _ _ (hT.tup R.tu) R.tu,m _ _ (hT.lst R.li) R.li,λz hz=>m _ _ (hT.lst (R.st z hz)) (R.st z hz)⟩
theorem J2 {T0 la:Addr} {H H1 H2:Hp} (m:SameL T0 H H1) (hla:H la=none) (a:Same (aw [la] H1) (aw [la] H2)):SameL T0 H H2:=λc o hc e=>by
 have hcl:c∉[la]:=by simpa using zx e hla
 have:=a c o (by rw [zO hcl];exact m c o hc e)
 rwa [zO hcl] at this
theorem TailsAt.la {C p la b:Nat} {H:Hp} {ls ws:ZA} {L:Nat} (TA:TailsAt C H p la b ls ws L):∃ xs,H la=some (.lst xs):=let ⟨_,h,_⟩:=TA.ly;⟨_,h⟩
section
variable {P:Program} {w:World} {K:W.Frag} {mg:Str->Option Value} {base:Heap} {T0 C:Addr}
def zg6 (T0 C:Addr) (b:Nat) (ls:ZA) (H:Hp) (x:Addr) (H':Hp):Prop:=∃ (la:Addr) (ws:ZA),TailsAt C H' x la b ls ws 1/\GoodT b ls ws/\SameL T0 H H'/\LT T0 H'/\H la=none/\H x=none/\∃ dx sa,H' x=some (.ins C dx (Xd b ws.length sa la))/\H sa=none/\∀ c o,H c=some o->NoRef H' la c/\NoRef H' sa c
theorem Um {r:Addr} {b:Nat} {bl:Addr} {zs:ZB} {H:Hp} (R:RuleAt H r b bl zs) (g:GoodRule b (zs.map (·.2))) (hT:LT T0 H) {R':Addr->Hp->Prop} (k:∀ x H',zg6 T0 C b (zs.map (·.2)) H x H'->R' x H') :
  ∀ x dx,H x=none->H dx=none->dx≠x->jA T0 C (.ref x :: ([.ref r]++[])) (upd (upd H dx (.own x)) x (.ins C dx [])) (λv H2=>v=.non/\R' x H2) E0:=by
 intro x dx nx ndx nex
 have s0:=zcN (C:=C) nx ndx
 refine⟨x,dx,r,b,bl,zs,rfl,zj,R.same s0,g,hT.same s0,λla ws H' TA G fr hT' hla ⟨dx',sa,e1,e2,e3⟩=>⟨rfl,k x H' ⟨la,ws,TA,G,λc o hc e=>fr c o (zx e nx) hc (s0 c o e),hT',s0.free hla,nx,dx',sa,e1,s0.free e2,λc o e=>e3 c o (s0 _ _ e)⟩⟩⟩
end
section
variable {P:Program} {w:World} {K:W.Frag} {mg:Str->Option Value} {base:Heap} {C:Addr}
def jH (C:Addr):Sp:=λvs H Q _=>∃ (p la:Addr) (b:Nat) (ls ws:ZA) (L t:Nat),vs=[.ref p,.int t]/\TailsAt C H p la b ls ws L/\GoodT b ls ws/\L<=1000/\t<1000/\TQ C H p la b ls ws L λL' H'=>L'<=max L (t+1)->Q (.int (Ve ls b t:Nat)) H'
theorem Y0:zB ["self","size"] ["self","size"] (zq xU):={}
theorem Qv {f f1 f2:Addr} {fd fd1 fd2:FuncData} (D:Mt K C "Tails.many_within" "many_within" xU Az f fd) (yX:Mt K C "Tails.layer" "layer" wH Ar f1 fd1) (zX:Mt K C "Tails.many_by" "many_by" yS Am f2 fd2) (zE:ClT K mg C) (T:Blt mg) (U:zbo mg):FnOk P w K mg base CX0 3 f fd Az (jH C):=by
 have qN:FnOk P w K mg base CX0 2 f1 fd1 Ar (Wz C):=Uy yX zX zE T U
 refine D.fn.ok Y0 (λvs H Q E h=>?_) (λcdv A outer s H vs Q E hr h=>?_)
 ·obtain⟨p,la,b,ls,ws,L,t,rfl,_⟩:=h;rfl
 ·obtain⟨p,la,b,ls,ws,L,t,rfl,TA,G,hL,ht,kk⟩:=h
  obtain⟨dx,sa,srs,h1,h2,h3,h4⟩:=TA.ob
  have hp:=zK _ _ _ _ h1
  refine⟨_,(zu (zF (zW (yO K) (vQ yX zE.cl qN (hr.mono (by decide)) (pv 0) (zf (pv 1) zg)) (xQ K (pv 0)) (λ_ _=>rfl)))),?_⟩
  refine⟨_,rfl,p,dx,_,rfl,hp,vX _ _ _ _,_,rfl,p,la,b,ls,ws,L,t,rfl,TA,G,hL,ht,λlay L' H' hLL TA' m' nr' hm hlay=>?_⟩
  obtain⟨dx',sa',srs',h1',h2',h3',h4'⟩:=TA'.ob
  refine⟨_,rfl,p,C,dx',_,_,rfl,zK _ _ _ _ h1',zE.cl,zE.n_outset,Zb _ _ _ _,lay,_,_,V.int ((Ve ls b t:Nat):Int),rfl,rfl,SqL.of (zK _ _ _ _ hlay),vf ?_,kk L' H' hLL TA' m' nr' hm⟩
  unfold xX
  rw [List.map_append,List.getElem?_append_right (by rw [List.length_map,List.length_map];exact Nat.le_refl _),List.length_map,List.length_map,Nat.sub_self]
  rfl
def Yc (C:Addr):Sp:=λvs H Q _=>∃ (p la:Addr) (b:Nat) (ls ws:ZA) (L i k t:Nat),vs=[.ref p,.int i,.int k,.int t]/\TailsAt C H p la b ls ws L/\GoodT b ls ws/\L<=1000/\t<1000/\i<=ws.length/\k<under ls b t ws[i]? b /\
 ∀ c:Nat,c<b->under ls b t ws[i]? c<=k->k<under ls b t ws[i]? (c+1)->TQ C H p la b ls ws L λL' H'=>L'<=1000->Q (.int c) H'
theorem ue:zB ["self","place","k","left","figure"] ["self","place","k","left"] (zq wL):={}
theorem zaK {f f1:Addr} {fd fd1:FuncData} (D:Mt K C "Tails.figure_at" "figure_at" wL A7 f fd) (zY:Mt K C "Tails.many_under" "many_under" yF Al f1 fd1) (zZ:FnOk P w K mg base CX0 3 f1 fd1 Al (vK C)) (zE:ClT K mg C) (T:Blt mg):FnOk P w K mg base CX0 4 f fd A7 (Yc C):=by
 refine D.fn.ok ue (λvs H Q E h=>?_) (λcdv A outer s H vs Q E hr h=>?_)
 ·obtain⟨p,la,b,ls,ws,L,i,k,t,rfl,_⟩:=h;rfl
 ·obtain⟨p,la,b,ls,ws,L,i,k,t,rfl,TA,G,hL,ht,hi,hk,kk⟩:=h
  refine⟨_,(zp (zH (i:=4) ue.nd rfl (Or.inl rfl) zr)
   (zp (Qo PassesOwn.never (zP XD (vQ zY zE.cl zZ (hr.mono (by decide)) (pv 0) (zf (pv 1) (zf (zN wJ (pv 4) zr) (zf (pv 3) zg)))) (pv 2) (zV _))
    (zu (zb7 (i:=4) ue.nd rfl (Or.inl rfl) zr zeD)))
   (zu (zF (pv 4))))),?_⟩
  refine QF (fun σ H2=>∃ (c L':Nat),σ=[some (.ref p),some (.int i),some (.int k),some (.int t),some (.int c)]/\c<b/\under ls b t ws[i]? c<=k/\L<=L'/\L'<=1000/\TailsAt C H2 p la b ls ws L'/\Same (aw [la] H) (aw [la] H2)/\NR la H H2)
   (fun σ _=>match σ with | [_,_,_,_,some (.int c)]=>b-c.toNat | _=>0) ⟨0,L,rfl,by have:=G.g.b2;omega,by rw [UL];exact Nat.zero_le _,Nat.le_refl _,hL,TA,Same.refl _,NR.refl _ _⟩ ?_ ?_
  ·rintro σ H2 ⟨c,L',rfl,hc,hu,hLL,hL',TA2,m2,nr2⟩
   obtain⟨dx2,sa2,hp2⟩:=TA2.obj
   refine⟨_,rfl,p,dx2,_,rfl,hp2,vX _ _ _ _,_,rfl,_,rfl,_,_,rfl,rfl,_,rfl,p,la,b,ls,ws,L',i,c+1,t,rfl,TA2,G,hL',ht,hi,by omega,λL3 H3 hL3 TA3 m3 nr3 hmx=>?_⟩
   refine⟨_,rfl,_,_,rfl,rfl,_,rfl,?_⟩
   refine zbw (λh1=>?_) (λh1=>?_)
   ·have h1':under ls b t ws[i]? (c+1)<=k:=by have:=of_decide_eq_true h1;omega
    have hcb:c+1<b:=by
     by_cases z:c+1<b
     ·exact z
     ·rw [show c+1=b by omega] at h1';omega
    refine⟨_,rfl,_,_,rfl,rfl,⟨c+1,L3,rfl,hcb,h1',by omega,by omega,TA3,m2.trans m3,nr2.trans m2 nr3⟩,?_⟩
    show b-((c:Int)+1).toNat<b-(c:Int).toNat
    omega
   ·have h1':k<under ls b t ws[i]? (c+1):=by
     by_cases z:k<under ls b t ws[i]? (c+1)
     ·exact z
     ·exact absurd (decide_eq_true (by omega:((under ls b t ws[i]? (c+1):Nat):Int)<=k)) h1
    exact⟨_,rfl,kk c hc hu h1' L3 H3 (by omega) TA3 (m2.trans m3) (nr2.trans m2 nr3) (by omega)⟩
  ·intro σ H2 Q Q' hq
   rintro⟨v0,e0,a,dx,fs,h1,h2,h3,v1,e1,v4,e4,i4,j4,e5,e6,v3,e3,p',la',b',ls',ws',L',i',s',t',g1,g2,g3,g4,g5,g6,g7,g8⟩
   exact⟨v0,e0,a,dx,fs,h1,h2,h3,v1,e1,v4,e4,i4,j4,e5,e6,v3,e3,p',la',b',ls',ws',L',i',s',t',g1,g2,g3,g4,g5,g6,g7,λL2 H3 a1 a2 a3 a4 a5=>by
    obtain⟨v2,e2,i2,j2,e7,e8,k2,e9,q⟩:=g8 L2 H3 a1 a2 a3 a4 a5
    exact⟨v2,e2,i2,j2,e7,e8,k2,e9,hq _ _ q⟩⟩
def Yw (C:Addr):Sp:=λvs H Q _=>∃ (p la:Addr) (b:Nat) (ls ws:ZA) (L sz k:Nat),vs=[.ref p,.int sz,.int k]/\TailsAt C H p la b ls ws L/\GoodT b ls ws/\L<=1000/\sz<1000/\k<many (gd ls b) (b^sz) /\
 ∀ n:Nat,gd ls b n=true->many (gd ls b) n=k->n<b^sz->TQ C H p la b ls ws L λL' H'=>L'<=1000->Q (.int n) H'
theorem yd:zB ["self","size","k","place","n","left","figure"] ["self","size","k"] (zq wM):={}
theorem zaw {f f1 f2:Addr} {fd fd1 fd2:FuncData} (D:Mt K C "Tails.number_at" "number_at" wM A8 f fd) (zY:Mt K C "Tails.many_under" "many_under" yF Al f1 fd1) (zZ:FnOk P w K mg base CX0 3 f1 fd1 Al (vK C))
  (wY:Mt K C "Tails.figure_at" "figure_at" wL A7 f2 fd2) (uN:FnOk P w K mg base CX0 4 f2 fd2 A7 (Yc C)) (zE:ClT K mg C) (T:Blt mg):FnOk P w K mg base CX0 5 f fd A8 (Yw C):=by
 refine D.fn.ok yd (λvs H Q E h=>?_) (λcdv A outer s H vs Q E hr h=>?_)
 ·obtain⟨p,la,b,ls,ws,L,sz,k,rfl,_⟩:=h;rfl
 ·obtain⟨p,la,b,ls,ws,L,sz,k,rfl,TA,G,hL,hsz,hk,kk⟩:=h
  have b2:=G.g.b2
  have b16:=G.g.b16
  obtain⟨dx0,sa0,hp0⟩:=TA.obj
  refine⟨_,(zp (zH (i:=3) yd.nd rfl (Or.inl rfl) (xQ K (pv 0)))
   (zp (zH (i:=4) yd.nd rfl (Or.inl rfl) zr)
   (zp (Zi PassesOwn.never rfl (zc9 rfl T.n_range (zf (zN Vg (pv 1) zr) (zf (J3 Vr zr) (zf (J3 Vr zr) zg)))) (yV (i:=5) yd.nd rfl (Or.inl rfl))
    (zp (zH (i:=6) yd.nd rfl (Or.inl rfl) (vQ wY zE.cl uN (hr.mono (by decide)) (pv 0) (zf (pv 3) (zf (pv 2) (zf (pv 5) zg)))))
    (zp (zb7 (i:=2) yd.nd rfl (Or.inl rfl) (vQ zY zE.cl zZ (hr.mono (by decide)) (pv 0) (zf (pv 3) (zf (pv 6) (zf (pv 5) zg)))) zfN)
    (zp (zH (i:=3) yd.nd rfl (Or.inl rfl) (zW (yO K) (zW (yO K) (xQ K (pv 0)) (pv 3) (λ_ _=>rfl)) (pv 6) (λ_ _=>rfl)))
    (zu (zH (i:=4) yd.nd rfl (Or.inl rfl) (zN wJ (zN ji (pv 4) (xQ K (pv 0))) (pv 6))))))))
   (zu (zF (pv 4)))))),?_⟩
  refine⟨_,rfl,p,C,dx0,_,_,rfl,hp0,zE.cl,zE.n_outset,Zb _ _ _ _,?_⟩
  refine⟨_,rfl,_,_,rfl,rfl,_,rfl,_,rfl,((sz:Int)-1),rfl,by omega,by omega,?_⟩
  rw [show ((sz:Int)-1+1).toNat=sz by omega]
  refine zbY (lo:=(sz:Int)-1) (c:=-1) (n:=sz) (λj σ H2=>∃ (v5 v6:Option V) (i m L':Nat),σ=[some (.ref p),some (.int sz),some (.int ((k:Int)-(many (gd ls b) (m*b^(sz-j)):Nat))),some (.int i),some (.int m),v5,v6]/\i<=ws.length/\Rep ls b m ws[i]?/\many (gd ls b) (m*b^(sz-j))<=k/\k<many (gd ls b) ((m+1)*b^(sz-j))/\L<=L'/\L'<=1000/\TailsAt C H2 p la b ls ws L'/\Same (aw [la] H) (aw [la] H2)/\NR la H H2) ⟨none,none,ws.length,0,L,?_,Nat.le_refl _,?_,?_,?_,Nat.le_refl _,hL,TA,Same.refl _,NR.refl _ _⟩ ?_ ?_
  ·rw [Nat.zero_mul]
   show [_,_,some (V.int k),_,_,_,_]=[_,_,some (V.int ((k:Int)-((0:Nat):Int))),_,_,_,_]
   rw [Int.natCast_zero,Int.sub_zero]
  ·rw [List.getElem?_eq_none (Nat.le_refl _)];exact .inl ⟨rfl,rfl⟩
  ·rw [Nat.zero_mul];exact Nat.zero_le _
  ·rw [Nat.sub_zero,Nat.zero_add,Nat.one_mul];exact hk
  ·rintro j σ H2 hj ⟨v5,v6,i,m,L',rfl,hi,R,hlo,hhi,hLL,hL',TA2,m2,nr2⟩
   obtain⟨t,ht⟩:∃ t,sz-j=t+1:=⟨sz-j-1,by omega⟩
   rw [ht] at hlo hhi ⊢
   have elft:((sz:Int)-1+(j:Int)*(-1))=(t:Int):=by omega
   rw [elft]
   have eb:=jT G.ne b2 R t (s:=b) (Nat.le_refl _)
   have eb2:(m*b+b)*b^t=(m+1)*b^(t+1):=by rw [Nat.pow_succ',<- Nat.mul_assoc,Nat.succ_mul]
   rw [eb2] at eb
   obtain⟨k',hk'⟩:∃ k',k=many (gd ls b) (m*b^(t+1))+k':=⟨k-many (gd ls b) (m*b^(t+1)),by omega⟩
   have ek:((k:Int)-(many (gd ls b) (m*b^(t+1)):Nat))=(k':Int):=by omega
   rw [ek]
   obtain⟨dx2,sa2,hp2⟩:=TA2.obj
   refine⟨_,rfl,p,dx2,_,rfl,hp2,vX _ _ _ _,_,rfl,_,rfl,_,rfl,p,la,b,ls,ws,L',i,k',t,rfl,TA2,G,hL',by omega,hi,by omega,λc hc hu1 hu2 L3 H3 hL3 TA3 m3 nr3 hL3'=>?_⟩
   obtain⟨dx3,sa3,hp3⟩:=TA3.obj
   refine⟨_,rfl,_,rfl,p,dx3,_,rfl,hp3,vX _ _ _ _,_,rfl,_,rfl,_,rfl,p,la,b,ls,ws,L3,i,c,t,rfl,TA3,G,hL3',by omega,hi,by omega,λL4 H4 hL4 TA4 m4 nr4 hmx=>⟨_,_,rfl,rfl,?_⟩⟩
   have m24:=m2.trans (m3.trans m4)
   have nr24:=nr2.trans m2 (nr3.trans m3 nr4)
   obtain⟨dx4,sa4,srs4,z4,q1,q2,q3,q4,q5⟩:=zbj TA4 G hi hc
   refine⟨_,rfl,p,C,dx4,_,_,rfl,q1,zE.cl,zE.n_steps,ym _ _ _ _,_,rfl,sa4,_,_,_,rfl,rfl,SqL.of q2,q3,_,rfl,z4.1,_,_,_,rfl,rfl,SqL.of q4,q5,?_⟩
   refine⟨_,rfl,_,rfl,p,C,dx4,_,_,rfl,q1,zE.cl,zE.n_base,zad _ _ _ _,_,_,rfl,rfl,.inr ⟨by omega,by omega⟩,_,rfl,_,_,rfl,rfl,?_⟩
   have e1:=jT G.ne b2 R t (s:=c) (by omega)
   have e2:=jT G.ne b2 R t (s:=c+1) (by omega)
   have hlo':many (gd ls b) ((m*b+c)*b^t)<=k:=by omega
   have hhi':k<many (gd ls b) ((m*b+c+1)*b^t):=by
    rw [show m*b+c+1=m*b+(c+1) by omega];omega
   rcases JX G hi R hc with ⟨j',f1,f2,f3⟩ | ⟨f1,f2,f3⟩
   ·rw [f1]
    refine⟨some (.int t),some (.int c),j',m*b+c,L4,?_,f2,f3,?_,?_,by omega,by omega,TA4,m24,nr24⟩
    ·rw [show sz-(j+1)=t by omega]
     show [_,_,some (V.int ((k':Int)-(under ls b t ws[i]? c:Nat))),some (V.int (j':Nat)),some (V.int ((m:Int)*b+c)),_,_]=[_,_,some (V.int ((k:Int)-(many (gd ls b) ((m*b+c)*b^t):Nat))),some (V.int (j':Nat)),some (V.int ((m*b+c:Nat):Int)),_,_]
     rw [show ((k':Int)-(under ls b t ws[i]? c:Nat))=((k:Int)-(many (gd ls b) ((m*b+c)*b^t):Nat)) by omega,Int.natCast_add,Int.natCast_mul]
    ·rw [show sz-(j+1)=t by omega];exact hlo'
    ·rw [show sz-(j+1)=t by omega];exact hhi'
   ·exfalso
    have eb3:=zeG G.ne b2 f2 f3 t (r:=b^t) (Nat.le_refl _)
    rw [<- Nat.succ_mul] at eb3
    have:(m*b+c).succ=m*b+c+1:=rfl
    rw [this] at eb3
    omega
  ·rintro σ H2 ⟨v5,v6,i,m,L',rfl,hi,R,hlo,hhi,hLL,hL',TA2,m2,nr2⟩
   rw [Nat.sub_self,Nat.pow_zero,Nat.mul_one] at hlo hhi
   have hg:gd ls b m=true:=by
    cases e:gd ls b m with
    | true=>rfl
    | false =>
     have:many (gd ls b) (m+1)=many (gd ls b) m:=by rw [many,e];rfl
     omega
   have em:many (gd ls b) m=k:=by
    have:many (gd ls b) (m+1)=many (gd ls b) m+1:=by rw [many,if_pos hg]
    omega
   refine⟨_,rfl,kk m hg em ?_ L' H2 hLL TA2 m2 nr2 hL'⟩
   by_cases z:m<b^sz
   ·exact z
   ·have:=VH (gd ls b) (show b^sz<=m by omega)
    omega
end
def Sto (H:Hp) (s:Addr):Prop:=∃ g x k:Int,H s=some (.lst [.int g,.int x,.int k])
theorem Sto.ne {H:Hp} {s p:Addr} (S:Sto H s) (h:H p=none):p≠s:=λz=>by
 obtain⟨g,x,k,e⟩:=S
 rw [z,e] at h;cases h
structure Stq (s:Addr) (H H':Hp):Prop where
 st:Sto H' s
 sm:∀ b o,b≠s->H b=some o->H' b=some o
theorem Stq.refl {s:Addr} {H:Hp} (S:Sto H s):Stq s H H:=⟨S,λ_ _ _ e=>e⟩
theorem Stq.trans {s:Addr} {H H1 H2:Hp} (a:Stq s H H1) (b:Stq s H1 H2):Stq s H H2:=⟨b.st,λc o h e=>b.sm c o h (a.sm c o h e)⟩
theorem Stq.same {s:Addr} {H H1 H2:Hp} (a:Stq s H H1) (m:Same H1 H2):Stq s H H2:=⟨by obtain⟨g,x,k,e⟩:=a.st;exact⟨g,x,k,m _ _ e⟩,λc o h e=>m c o (a.sm c o h e)⟩
theorem Stq.of {s:Addr} {H H':Hp} (S:Sto H s) (m:Same H H'):Stq s H H':=(Stq.refl S).same m
theorem Stq.free {s p:Addr} {H H':Hp} (a:Stq s H H') (h:H' p=none):H p=none:=by
 cases e:H p with
 | none=>rfl
 | some o =>
  have:=a.sm p o (a.st.ne h) e
  rw [h] at this;cases this
theorem Stq.new {s p:Addr} {H H':Hp} {o:HO} (a:Stq s H H') (h:H' p=none):Stq s H (upd H' p o):=a.same (zm h)
theorem Stq.put {s p:Addr} {H H':Hp} {o:HO} (a:Stq s H H') (hs:p≠s) (h:H p=none):Stq s H (upd H' p o):=⟨by
 obtain⟨g,x,k,e⟩:=a.st
 exact⟨g,x,k,by rw [zy (Ne.symm hs)];exact e⟩,λc u hc e=>by
  rw [zy (zx e h)];exact a.sm c u hc e⟩
section
variable {P:Program} {w:World} {K:W.Frag} {mg:Str->Option Value} {base:Heap}
def YF (K:W.Frag):Sp:=λvs H Q _=>∃ (a:Addr) (ns:List Int) (k:Nat),vs=[.ref a,.int k]/\SqL K H a (ns.map V.int)/\ns.length<=63/\k<=1000/\∀ c:Int,Q (.int c) H
theorem zaH:zB ["script","k"] ["script","k"] (zq Zd):={}
theorem WN {f:Addr} {fd:FuncData} (D:Df K mg "_law_cell" Zd A0 f fd) (T:Blt mg):FnOk P w K mg base CX0 1 f fd A0 (YF K):=by
 refine D.fn.ok zaH (λvs H Q E h=>?_) (λcdv A outer s H vs Q E hr h=>?_)
 ·obtain⟨a,ns,k,rfl,_⟩:=h;rfl
 ·obtain⟨a,ns,k,rfl,hS,hlen,hk,kk⟩:=h
  refine⟨_,(zp (yE (zP JW (pv 1) (zA (wF K) (by rfl) T.n_len PySem.boot_len (zf (pv 0) zg)) (zV _))
    (zu (zF (zW (yO K) (pv 0) (pv 1) (λ_ _=>rfl))))
    zT)
   (zu (zF (zN wJ (zN wJ (zN ji (zN ji zr (pv 1)) (pv 1)) (zN ji zr (pv 1))) zr)))),?_⟩
  refine⟨_,rfl,_,rfl,a,_,rfl,.inl hS,_,_,rfl,rfl,_,rfl,?_⟩
  refine zbw (λhlt=>?_) (λ_=>?_)
  ·have hlt':k<ns.length:=by
    have:=of_decide_eq_true hlt
    rw [List.length_map] at this
    omega
   refine⟨_,rfl,_,rfl,a,_,_,.int (ns[k]),rfl,rfl,hS,?_,kk _⟩
   exact vf (by rw [List.getElem?_map,List.getElem?_eq_getElem hlt'];rfl)
  ·refine⟨_,rfl,_,_,rfl,rfl,.inl ⟨by decide,by decide⟩,_,rfl,_,_,rfl,rfl,.inr ⟨by omega,by omega⟩,_,rfl,_,_,rfl,rfl,.inl ⟨by decide,by decide⟩,_,_,rfl,rfl,_,_,rfl,rfl,kk _⟩
def Zt:Sp:=λvs H Q _=>∃ c:Int,vs=[.int c]/\∀ (s:Addr) (H':Hp),H s=none->Sto H' s->Same H H'->Q (.ref s) H'
theorem Zf:zB ["cell","great"] ["cell"] (zq qL):={}
theorem Xx {f:Addr} {fd:FuncData} (D:Df K mg "_law_store" qL ["cell"] f fd) (T:Blt mg):FnOk P w K mg base CX0 1 f fd ["cell"] Zt:=by
 refine D.fn.ok Zf (λvs H Q E h=>?_) (λcdv A outer s H vs Q E hr h=>?_)
 ·obtain⟨c,rfl,_⟩:=h;rfl
 ·obtain⟨c,rfl,kk⟩:=h
  refine⟨_,(zp (zH (i:=1) Zf.nd rfl (Or.inl rfl) zr)
   (zp (yE (zP zfz (pv 0) (zN zaz zr zr) (zV _))
    (zu (zH (i:=1) Zf.nd rfl (Or.inl rfl) (pv 0)))
    zT)
   (zu (zF (yc (zf (pv 1) (zf (zN Y8 (pv 0) zr) (zf zr zg)))))))),?_⟩
  refine⟨_,rfl,_,_,rfl,rfl,⟨by decide,by decide,by decide⟩,_,_,rfl,rfl,_,rfl,?_⟩
  generalize decide ((10:Int)^(18:Int).toNat<=c)=bb
  cases bb with
  | true =>
   refine yp ?_
   refine⟨_,rfl,_,rfl,_,rfl,_,_,rfl,rfl,(by decide:(0:Int)<2147483629),(by decide:3<=sizeLine),λl hl=>?_⟩
   exact kk l _ hl ⟨_,_,_,zj⟩ (zm hl)
  | false =>
   refine yf ?_
   refine⟨_,rfl,_,rfl,_,_,rfl,rfl,(by decide:(0:Int)<2147483629),(by decide:3<=sizeLine),λl hl=>?_⟩
   exact kk l _ hl ⟨_,_,_,zj⟩ (zm hl)
def yG:Sp:=λvs H Q _=>∃ (s:Addr) (m:Int),vs=[.ref s,.int m]/\Sto H s/\0<m/\m<2^200/\∀ (r:Nat) (H':Hp),(r:Int)<m->Stq s H H'->Q (.int r) H'
theorem uH:zB ["store","many","told","one"] ["store","many"] (zq yM):={}
theorem xG {f:Addr} {fd:FuncData} (D:Df K mg "_law_take" yM Ae f fd) (T:Blt mg):FnOk P w K mg base CX0 1 f fd Ae yG:=by
 refine D.fn.ok uH (λvs H Q E h=>?_) (λcdv A outer s H vs Q E hr h=>?_)
 ·obtain⟨s,m,rfl,_⟩:=h;rfl
 ·obtain⟨sa,m,rfl,S,hm0,hm1,kk⟩:=h
  obtain⟨g,x,k,hs⟩:=id S
  refine⟨_,(zp (yE (zP zba (zW (yO K) (pv 0) zr (λ_ _=>rfl)) zr (zV _))
    (zp (zH (i:=2) uH.nd rfl (Or.inl rfl) (zN Y8 (zW (yO K) (pv 0) zr (λ_ _=>rfl)) (pv 1)))
    (zp (QQ (zN W4 (zW (yO K) (pv 0) zr (λ_ _=>rfl)) (pv 1)) (zet (pv 0) zr set_list))
    (zu (zF (pv 2)))))
    zT)
   (zp (QQ (zN wJ (zW (yO K) (pv 0) zr (λ_ _=>rfl)) zr) (zet (pv 0) zr set_list))
   (zp (zH (i:=3) uH.nd rfl (Or.inl rfl) (zN Y8 (zN ji (zN wJ (zW (yO K) (pv 0) zr (λ_ _=>rfl)) (zN ji zr (zW (yO K) (pv 0) zr (λ_ _=>rfl)))) zr) zr))
   (zp (zH (i:=3) uH.nd rfl (Or.inl rfl) (zN Y8 (zN ji (pv 3) (pv 3)) zr))
   (zp (zH (i:=3) uH.nd rfl (Or.inl rfl) (zN Y8 (zN ji (zN wJ (pv 3) (zN ji zr (zW (yO K) (pv 0) zr (λ_ _=>rfl)))) zr) zr))
   (zu (zF (zN Y8 (zN W4 (pv 3) zr) (pv 1))))))))),?_⟩
  have fin:∀ (H':Hp) (y:Int) (g x k:Int),H'=upd H sa (.lst [.int g,.int x,.int k])->Q (.int (y % m)) H':=by
   intro H' y g x k e
   subst e
   have h0:0<=y % m:=Int.emod_nonneg _ (by omega)
   have h1:y % m<m:=Int.emod_lt_of_pos _ hm0
   obtain⟨r,hr⟩:∃ r:Nat,y % m=(r:Int):=⟨(y % m).toNat,by omega⟩
   rw [hr]
   exact kk r _ (by omega) ⟨⟨_,_,_,zj⟩,λb o hb e=>by rw [zy hb];exact e⟩
  refine⟨_,rfl,sa,_,_,_,rfl,rfl,SqL.of hs,rfl,_,_,rfl,rfl,_,rfl,?_⟩
  refine zbw (λ_=>?_) (λ_=>?_)
  ·refine⟨_,rfl,sa,_,_,V.int g,rfl,rfl,SqL.of hs,rfl,_,rfl,_,_,rfl,rfl,hm0,?_⟩
   refine⟨_,rfl,sa,_,_,V.int g,rfl,rfl,SqL.of hs,rfl,_,rfl,_,_,rfl,rfl,⟨hm0,hm1⟩,_,rfl,sa,_,_,0,rfl,rfl,hs,rfl,?_⟩
   refine⟨_,rfl,?_⟩
   exact fin _ g (g / m) x k rfl
  ·refine⟨_,rfl,sa,_,_,V.int k,rfl,rfl,SqL.of hs,rfl,_,_,rfl,rfl,_,rfl,sa,_,_,2,rfl,rfl,hs,rfl,?_⟩
   have hs1:upd H sa (.lst [V.int g,V.int x,V.int (k+1)]) sa=some (.lst [V.int g,V.int x,V.int (k+1)]):=zj
   refine⟨_,rfl,sa,_,_,V.int x,rfl,rfl,SqL.of hs1,rfl,?_⟩
   refine⟨_,rfl,sa,_,_,V.int (k+1),rfl,rfl,SqL.of hs1,rfl,_,_,rfl,rfl,.inl ⟨by decide,by decide⟩,_,_,rfl,rfl,_,_,rfl,rfl,.inr ⟨by decide,by decide⟩,_,_,rfl,rfl,(by decide:(0:Int)<2147483647),?_⟩
   generalize hn1:(x+7919*(k+1))*48271 % 2147483647=n1
   have n1b:0<=n1/\n1<2147483647:=by rw [<- hn1];exact⟨Int.emod_nonneg _ (by decide),Int.emod_lt_of_pos _ (by decide)⟩
   refine⟨_,rfl,_,rfl,_,_,rfl,rfl,.inl ⟨by omega,by omega⟩,_,_,rfl,rfl,(by decide:(0:Int)<2147483629),?_⟩
   generalize hn2:n1*n1 % 2147483629=n2
   refine⟨_,rfl,_,rfl,sa,_,_,V.int (k+1),rfl,rfl,SqL.of hs1,rfl,_,_,rfl,rfl,.inl ⟨by decide,by decide⟩,_,_,rfl,rfl,_,_,rfl,rfl,.inr ⟨by decide,by decide⟩,_,_,rfl,rfl,(by decide:(0:Int)<2147483587),?_⟩
   generalize hn3:(n2+40692*(k+1))*69621 % 2147483587=n3
   refine⟨_,rfl,_,_,rfl,rfl,⟨by decide,by decide⟩,_,rfl,_,_,rfl,rfl,hm0,?_⟩
   exact fin _ _ _ _ _ rfl
def Z5:Sp:=λvs H Q _=>∃ s:Addr,vs=[.ref s]/\Sto H s/\∀ (b:Nat) (H':Hp),2<=b->b<=16->Stq s H H'->Q (.int b) H'
theorem zak:zB ["store"] ["store"] (zq qp):={}
set_option maxHeartbeats 0 in
theorem WY {f f1:Addr} {fd fd1:FuncData} (D:Df K mg "_law_base" qp Ad f fd) (zz:Df K mg "_law_take" yM Ae f1 fd1) (T:Blt mg):FnOk P w K mg base CX0 2 f fd Ad Z5:=by
 have zL:FnOk P w K mg base CX0 1 f1 fd1 Ae yG:=xG zz T
 refine D.fn.ok zak (λvs H Q E h=>?_) (λcdv A outer s H vs Q E hr h=>?_)
 ·obtain⟨s,rfl,_⟩:=h;rfl
 ·obtain⟨sa,rfl,S,kk⟩:=h
  refine⟨_,(zu (zF (zW (yO K) (yc (zf zr (zf zr (zf zr (zf zr (zf (zN wJ zr (zJ zz zL (hr.mono (by decide)) (zf (pv 0) (zf zr zg)))) zg)))))) (zJ zz zL (hr.mono (by decide)) (zf (pv 0) (zf zr zg))) (λ_ _=>rfl)))),?_⟩
  refine⟨_,rfl,?_⟩
  refine⟨sa,15,rfl,S,(by decide),(by decide),λx1 H1 hx1 S1=>?_⟩
  refine⟨2,x1,rfl,rfl,?_⟩
  refine⟨(by show 5<=sizeLine;decide),λl1 hl1=>?_⟩
  have n1:=S1.st.ne hl1
  have S2:=S1.new hl1 (o:=.lst [.int 2,.int 3,.int 10,.int 16,.int (2+(x1:Int))])
  refine⟨_,rfl,sa,_,rfl,S2.st,(by decide),(by decide),λx2 H3 hx2 S3=>?_⟩
  obtain⟨b,hb,hb2,hb16⟩:∃ b:Nat,atI [V.int 2,V.int 3,V.int 10,V.int 16,V.int (2+(x1:Int))] (x2:Int)=some (.int b)/\2<=b/\b<=16:=by
   have h5:x2<5:=by omega
   match x2,h5 with
   | 0,_=>exact⟨2,rfl,by omega,by omega⟩
   | 1,_=>exact⟨3,rfl,by omega,by omega⟩
   | 2,_=>exact⟨10,rfl,by omega,by omega⟩
   | 3,_=>exact⟨16,rfl,by omega,by omega⟩
   | 4,_=>exact⟨2+x1,rfl,by omega,by omega⟩
  exact⟨l1,_,_,_,rfl,rfl,SqL.of (S3.sm _ _ n1 zj),hb,kk b H3 hb2 hb16 (S2.trans S3)⟩
def vW:Sp:=λvs H Q _=>∃ (s:Addr) (b few:Nat),vs=[.ref s,.int b,.int few]/\Sto H s/\2<=few/\few<=b/\b<=16/\∀ (l:Addr) (ms:List Int) (H':Hp),Stq s H H'->H l=none->H' l=some (.lst (ms.map V.int))->QT b ms->Q (.ref l) H'
theorem YL:zB ["store","base","few","many"] ["store","base","few"] (zq yL):={}
theorem qD {f f1:Addr} {fd fd1:FuncData} (D:Df K mg "_law_stretch" yL An f fd) (zz:Df K mg "_law_take" yM Ae f1 fd1) (T:Blt mg):FnOk P w K mg base CX0 2 f fd An vW:=by
 have zL:FnOk P w K mg base CX0 1 f1 fd1 Ae yG:=xG zz T
 refine D.fn.ok YL (λvs H Q E h=>?_) (λcdv A outer s H vs Q E hr h=>?_)
 ·obtain⟨s,b,few,rfl,_⟩:=h;rfl
 ·obtain⟨sa,b,few,rfl,S,hf2,hfb,hb16,kk⟩:=h
  refine⟨_,(zp (zH (i:=3) YL.nd rfl (Or.inl rfl) (zN wJ zr (zJ zz zL (hr.mono (by decide)) (zf (pv 0) (zf zr zg)))))
   (zu (zF (yW (show CScope (zq yL) _ "k" ["store","base","few","many"] ["store","few","base"] [0,2,1] from {}) rfl (xg rfl T.n_range (zf (pv 3) zg)) (λ_ _ _ _=>wA) (λ_ _ _ _=>(zJ zz zL (hr.mono (by decide)) (zf (pv 1) (zf (zW (yO K) (yc (zf (pv 2) (zf (pv 2) (zf (pv 3) zg)))) (zJ zz zL (hr.mono (by decide)) (zf (pv 1) (zf zr zg))) (λ_ _=>rfl)) zg)))))))),?_⟩
  refine⟨_,rfl,sa,_,rfl,S,(by decide),(by decide),λx1 H1 hx1 S1=>⟨_,_,rfl,rfl,?_⟩⟩
  refine⟨_,rfl,(1+(x1:Int)),rfl,by omega,by omega,uU (lo:=0) (n:=(1+(x1:Int)).toNat) (λj ys Hc=>Stq sa H Hc/\∃ ms:List Int,ys=ms.map V.int/\ms.length=j/\∀ f∈ms,0<=f/\f<(b:Int)) ⟨S1,[],rfl,rfl,by simp⟩ ?_ ?_⟩
  ·rintro j ys Hc hj ⟨Sc,ms,rfl,hml,hmf⟩
   refine⟨by rw [List.length_map,hml];exact Nat.lt_of_lt_of_le (show j<5 by omega) (by decide),?_⟩
   unfold Xu
   dsimp only
   rw [if_pos rfl]
   refine⟨_,rfl,_,rfl,_,rfl,_,rfl,(by show 3<=sizeLine;decide),λl2 hl2=>?_⟩
   have n2:=Sc.st.ne hl2
   have S3:=Sc.new hl2 (o:=.lst [.int few,.int few,.int b])
   refine⟨_,rfl,sa,_,rfl,S3.st,(by decide),(by decide),λx2 H4 hx2 S4=>?_⟩
   obtain⟨m,hm,hm1,hm2⟩:∃ m:Nat,atI [V.int few,V.int few,V.int b] (x2:Int)=some (.int m)/\2<=m/\m<=b:=by
    have h3:x2<3:=by omega
    match x2,h3 with
    | 0,_=>exact⟨few,rfl,by omega,by omega⟩
    | 1,_=>exact⟨few,rfl,by omega,by omega⟩
    | 2,_=>exact⟨b,rfl,by omega,by omega⟩
   refine⟨l2,_,_,_,rfl,rfl,SqL.of (S4.sm _ _ n2 zj),hm,sa,_,rfl,S4.st,by omega,by omega,λx3 H5 hx3 S5=>⟨(S3.trans S4).trans S5,ms++[(x3:Int)],by simp,by simp [hml],λf hf=>?_⟩⟩
   rcases List.mem_append.mp hf with hf | hf
   ·exact hmf f hf
   ·have e:f=(x3:Int):=by simpa using hf
    omega
  ·rintro ys Hc ⟨Sc,ms,rfl,hml,hmf⟩ p hp
   exact kk p ms _ (Sc.new hp) (Sc.free hp) zj ⟨λz=>by rw [z] at hml;simp at hml;omega,by omega,hmf⟩
structure zha (H0 H:Hp) (bl:Addr) (b:Nat) (zs:ZB):Prop where
 li:H bl=some (.lst (zs.map λz=>V.ref z.1))
 st:∀ z∈zs,H z.1=some (.lst (z.2.map V.int))
 nl:H0 bl=none
 ns:∀ z∈zs,H0 z.1=none
 len:zs.length<=4
 good:∀ z∈zs,QT b z.2
 up:(zs.map (·.2)).Pairwise λx y=>HT.lexLt x y=true
def Xc:Sp:=λvs H Q _=>∃ (s:Addr) (b:Nat),vs=[.ref s,.int b]/\Sto H s/\2<=b/\b<=16/\∀ (bl:Addr) (zs:ZB) (H':Hp),Stq s H H'->zha H H' bl b zs->Q (.ref bl) H'
theorem qm:zB ["store","base","few","known","k","one"] ["store","base"] (zq uK):={}
theorem VM {f f1 f2:Addr} {fd fd1 fd2:FuncData} (D:Df K mg "_law_bad" uK At f fd) (zz:Df K mg "_law_take" yM Ae f1 fd1) (zR:Df K mg "_law_stretch" yL An f2 fd2) (T:Blt mg):FnOk P w K mg base CX0 3 f fd At Xc:=by
 have zL:FnOk P w K mg base CX0 1 f1 fd1 Ae yG:=xG zz T
 have uZ:FnOk P w K mg base CX0 2 f2 fd2 An vW:=qD zR zz T
 refine D.fn.ok qm (λvs H Q E h=>?_) (λcdv A outer s H vs Q E hr h=>?_)
 ·obtain⟨s,b,rfl,_⟩:=h;rfl
 ·obtain⟨sa,b,rfl,S,hb2,hb16,kk⟩:=h
  refine⟨_,(zp (zH (i:=2) qm.nd rfl (Or.inl rfl) (zA (Vi rfl) (by rfl) T.n_min boot_min (zf (pv 1) (zf (zW (yO K) (yc (zf zr (zf zr (zf (pv 1) zg)))) (zJ zz zL (hr.mono (by decide)) (zf (pv 0) (zf zr zg))) (λ_ _=>rfl)) zg))))
   (zp (zH (i:=3) qm.nd rfl (Or.inl rfl) zd6)
   (zp (Zi PassesOwn.never rfl (xg rfl T.n_range (zf (zJ zz zL (hr.mono (by decide)) (zf (pv 0) (zf zr zg))) zg)) (yV (i:=4) qm.nd rfl (Or.inl rfl))
    (zp (zH (i:=5) qm.nd rfl (Or.inl rfl) (zJ zR uZ (hr.mono (by decide)) (zf (pv 0) (zf (pv 1) (zf (pv 2) zg)))))
    (zu (ze5 (zg0 hr) (pv 3) (wG XJ (by rfl) T.n_tuple boot_tuple (zf (pv 5) zg)) jn rfl))))
   (zu (zF (yW (show CScope (zq uK) _ "one" ["store","base","few","known","k","one"] [] [] from {}) rfl (X5 K (zA zfd (by rfl) T.n_sorted boot_sorted (zf (pv 3) zg))) (λ_ _ _ _=>wA) (λ_ _ _ _=>(wG (Z0 K) (by rfl) T.n_list boot_list (zf (pv 0) zg))))))))),?_⟩
  refine⟨_,rfl,_,rfl,(by show 3<=sizeLine;decide),λl1 hl1=>?_⟩
  have n1:=S.ne hl1
  have S1:=(Stq.refl S).new hl1 (o:=.lst [.int 2,.int 3,.int b])
  refine⟨_,rfl,sa,_,rfl,S1.st,(by decide),(by decide),λx1 H2 hx1 S2=>?_⟩
  obtain⟨m,hm,hm2⟩:∃ m:Nat,atI [V.int 2,V.int 3,V.int b] (x1:Int)=some (.int m)/\2<=m:=by
   have h3:x1<3:=by omega
   match x1,h3 with
   | 0,_=>exact⟨2,rfl,by omega⟩
   | 1,_=>exact⟨3,rfl,by omega⟩
   | 2,_=>exact⟨b,rfl,by omega⟩
  refine⟨l1,_,_,_,rfl,rfl,SqL.of (S2.sm _ _ n1 zj),hm,_,_,rfl,?_⟩
  obtain⟨few,hfew,hfew1,hfew2⟩:∃ few:Nat,(if (m:Int)<(b:Int) then (m:Int) else (b:Int))=(few:Int)/\2<=few/\few<=b:=by
   by_cases z:m<b
   ·exact⟨m,by rw [if_pos (by omega)],by omega,by omega⟩
   ·exact⟨b,by rw [if_neg (by omega)],by omega,by omega⟩
  rw [hfew]
  have S12:=S1.trans S2
  intro kd hkd
  have nkd:=S12.st.ne hkd
  have hkd0:=S12.free hkd
  have S3:=S12.new hkd (o:=.dT [])
  refine⟨_,rfl,sa,_,rfl,S3.st,(by decide),(by decide),λx2 H4 hx2 S4=>?_⟩
  refine⟨_,rfl,by omega,by omega,uh (lo:=0) (n:=(x2:Int).toNat) (λi σ H5=>∃ (v1 v2:Option V) (kvs:List (List Key×V)) (ls:ZA),σ=[some (.ref sa),some (.int b),some (.int few),some (.ref kd),v1,v2]/\Stq sa H H5/\H5 kd=some (.dT kvs)/\kvs.map (·.1)=ls.map kI/\ls.length<=i/\∀ l∈ls,QT b l)
   ⟨none,none,[],[],rfl,S3.trans S4,S4.sm _ _ nkd zj,rfl,Nat.le_refl _,by simp⟩ ?_ ?_⟩
  ·rintro i σ H5 hi ⟨v1,v2,kvs,ls,rfl,S5,hk5,hks,hll,hgd⟩
   refine⟨_,rfl,_,rfl,_,rfl,sa,b,few,rfl,S5.st,hfew1,hfew2,hb16,λl ms H6 S6 hl0 hl6 gms=>?_⟩
   have hk6:=S6.sm _ _ nkd hk5
   refine⟨_,rfl,_,rfl,l,_,rfl,.inl ⟨SqL.of hl6,λtp htp=>?_⟩⟩
   have hk7:upd H6 tp (.tup (ms.map V.int)) kd=some (.dT kvs):=zm htp _ _ hk6
   have hkl:kvs.length=ls.length:=by have:=congrArg List.length hks;rwa [List.length_map,List.length_map] at this
   refine⟨kd,_,rfl,DPut.t (k:=kI ms) hk7 (by rw [zgJ];exact zj) (Nat.lt_of_le_of_lt (show kvs.length<=4 by omega) (by decide)),?_⟩
   have S7:=((S5.trans S6).new htp (o:=.tup (ms.map V.int))).put (p:=kd) (o:=.dT (putK kvs (kI ms) (.bl true))) nkd hkd0
   by_cases hin:ms∈ls
   ·refine⟨_,_,putK kvs (kI ms) (.bl true),ls,rfl,S7,zj,?_,by omega,hgd⟩
    unfold putK
    rw [if_pos (by
     rw [List.any_eq_true]
     have:kI ms∈kvs.map (·.1):=by rw [hks];exact List.mem_map.mpr ⟨ms,hin,rfl⟩
     obtain⟨kv,h1,h2⟩:=List.mem_map.mp this
     exact⟨kv,h1,decide_eq_true h2⟩),List.map_map,<- hks]
    refine List.map_congr_left λkv _=>?_
    show (if kv.1=kI ms then (kv.1,V.bl true) else kv).1=kv.1
    split<;>rfl
   ·refine⟨_,_,putK kvs (kI ms) (.bl true),ls++[ms],rfl,S7,zj,?_,by rw [List.length_append,List.length_singleton];omega,λl hl=>?_⟩
    ·unfold putK
     rw [if_neg (by
      rw [List.any_eq_true]
      rintro⟨kv,h1,h2⟩
      have h3:kI ms∈kvs.map (·.1):=List.mem_map.mpr ⟨kv,h1,of_decide_eq_true h2⟩
      rw [hks] at h3
      obtain⟨l,h4,h5⟩:=List.mem_map.mp h3
      exact hin (zf5 h5▸h4)),List.map_append,List.map_append,hks]
     rfl
    ·rcases List.mem_append.mp hl with hl | hl
     ·exact hgd l hl
     ·have e:l=ms:=by simpa using hl
      rw [e];exact gms
  ·rintro σ H5 ⟨v1,v2,kvs,ls,rfl,S5,hk5,hks,hll,hgd⟩
   refine⟨_,rfl,kd,kvs,ls,rfl,hk5,hks,by omega,λl hl=>(hgd l hl).ne,λp zs hp pm pw hz=>?_⟩
   have hzl:zs.length=ls.length:=by have:=pm.length_eq;rwa [List.length_map] at this
   have S6:=S5.new hp (o:=.lst (zs.map λz=>V.ref z.1))
   refine⟨p,rfl,⟨_,SqL.of zj⟩,yQ (K:=K) (a:=p) (xs:=zs.map λz=>V.ref z.1) (λi ys H7=>Same (upd H5 p (.lst (zs.map λz=>V.ref z.1))) H7/\∃ ws:ZB,ys=ws.map (λz=>V.ref z.1)/\ws.map (·.2)=(zs.take i).map (·.2)/\∀ z∈ws,H z.1=none/\H7 z.1=some (.lst (z.2.map V.int))) ⟨Same.refl _,[],rfl,by simp,by simp⟩ (λi ys H7 _ ⟨m7,_⟩=>SqL.of (m7 _ _ zj)) ?_ ?_⟩
   ·rintro j x ys H7 hx ⟨m7,ws,rfl,hw2,hws⟩
    rw [List.getElem?_map] at hx
    obtain⟨z,hzj,e⟩:=Option.map_eq_some_iff.mp hx
    subst e
    have hzm:=List.mem_of_getElem? hzj
    have hj:j<zs.length:=(List.getElem?_eq_some_iff.mp hzj).1
    have hwl:ws.length<=j:=by have:=congrArg List.length hw2;rw [List.length_map,List.length_map,List.length_take] at this;omega
    refine⟨by rw [List.length_map];exact Nat.lt_of_le_of_lt (show ws.length<=4 by omega) (by decide),?_⟩
    unfold Xu
    dsimp only
    rw [if_pos rfl]
    refine⟨_,rfl,z.1,_,rfl,.inr (SqT.of (m7 _ _ (zm hp _ _ (hz z hzm)))),λq hq=>⟨m7.trans (zm hq),ws++[(q,z.2)],by simp,?_,λy hy=>?_⟩⟩
    ·rw [List.map_append,hw2,List.take_succ,hzj];simp
    ·rcases List.mem_append.mp hy with hy | hy
     ·exact⟨(hws y hy).1,zm hq _ _ (hws y hy).2⟩
     ·have e:y=(q,z.2):=by simpa using hy
      subst e
      exact⟨S6.free (m7.free hq),zj⟩
   ·rintro ys H7 ⟨m7,ws,rfl,hw2,hws⟩ bl hbl
    rw [List.length_map,List.take_length] at hw2
    have hwl:ws.length=zs.length:=by have:=congrArg List.length hw2;rwa [List.length_map,List.length_map] at this
    have m8:=zm hbl (o:=.lst (ws.map λz=>V.ref z.1))
    refine kk bl ws _ (S6.same (m7.trans m8)) ⟨zj,λz hz'=>m8 _ _ (hws z hz').2,S6.free (m7.free hbl),λz hz'=>(hws z hz').1,by omega,λz hz'=>?_,?_⟩
    ·refine hgd _ ?_
     have:z.2∈zs.map (·.2):=by rw [<- hw2];exact List.mem_map.mpr ⟨z,hz',rfl⟩
     exact pm.mem_iff.mp this
    ·rw [hw2,List.pairwise_map];exact pw
end
theorem Q5 {b:Nat} {ls:ZA} (g:GoodRule b ls):XQ (.tuple [.int b,.list (ls.map λl=>.list (l.map .int))])=true:=by
 have hb:jJ (.int b)=true:=decide_eq_true (by have:=g.b2;have:=g.b16;omega)
 have hs:∀ l∈ls,zM b (.list (l.map .int))=true:=λl hl=>by
  have s:=g.st l hl
  have h1:U9 b (.list (l.map .int))=true:=by
   show (l.map PyData.int).all (W5 b)=true
   rw [List.all_eq_true]
   intro x hx
   obtain⟨i,hi,rfl⟩:=List.mem_map.mp hx
   exact decide_eq_true (s.fig i hi)
  have h2:(XR (.list (l.map .int))).length=l.length:=List.length_map ..
  unfold zM
  rw [h1,h2,Bool.true_and]
  exact decide_eq_true ⟨List.length_pos_iff.mpr s.ne,s.len⟩
 have hi:(ls.map λl=>PyData.list (l.map .int)).map yr=ls:=by
  rw [List.map_map]
  conv=>rhs;rw [<- List.map_id ls]
  refine List.map_congr_left λl _=>?_
  show (l.map PyData.int).map jL=l
  rw [List.map_map]
  conv=>rhs;rw [<- List.map_id l]
  rfl
 show (jJ (.int b) && zc7 b (.list (ls.map λl=>.list (l.map .int))))=true
 rw [hb,Bool.true_and]
 show (decide ((ls.map λl=>PyData.list (l.map .int)).length<=4) && ((ls.map λl=>PyData.list (l.map .int)).all (zM b) && qO ((ls.map λl=>PyData.list (l.map .int)).map yr)))=true
 rw [hi,List.length_map,decide_eq_true g.len,Bool.true_and,Bool.and_eq_true]
 refine⟨?_,?_⟩
 ·rw [List.all_eq_true]
  intro x hx
  obtain⟨l,hl,rfl⟩:=List.mem_map.mp hx
  exact hs l hl
 ·unfold qO
  rw [List.all_eq_true]
  intro k hk
  have hk:=List.mem_range.mp hk
  rw [List.getD_eq_getElem?_getD,List.getD_eq_getElem?_getD,List.getElem?_eq_getElem (show k<ls.length by omega),List.getElem?_eq_getElem (show k+1<ls.length by omega)]
  exact List.pairwise_iff_getElem.mp g.up k (k+1) (by omega) (by omega) (by omega)
theorem RuleAt.th {H:Hp} {r bl:Addr} {b:Nat} {zs:ZB} (R:RuleAt H r b bl zs):ThAt H (.tuple [.int b,.list ((zs.map (·.2)).map λl=>.list (l.map .int))]) (.ref r):=by
 rw [ThAt]
 refine⟨r,_,rfl,R.tu,?_⟩
 rw [ThsAt]
 refine⟨_,_,rfl,by rw [ThAt],?_⟩
 rw [ThsAt]
 refine⟨_,_,rfl,?_,by rw [ThsAt]⟩
 rw [ThAt]
 refine⟨bl,_,rfl,R.li,?_⟩
 rw [List.map_map]
 exact ThsAt.map λz hz=>ThAt.ints (R.st z hz)
theorem RuleAt.thing {H:Hp} {r bl:Addr} {b:Nat} {zs:ZB} (R:RuleAt H r b bl zs) (g:GoodRule b (zs.map (·.2))):∃ d,ThAt H d (.ref r)/\XQ d=true/\Fit 3 5000 d:=by
 have h:=R.th
 refine⟨_,h,Q5 g,Th.fit ?_ h⟩
 have hl:=g.len
 rw [List.length_map] at hl
 have b16:=g.b16
 have hz:∀ z∈zs,Th H 1 404 (.ref z.1):=λz hz=>by
  have s:=g.st _ (List.mem_map.mpr ⟨z,hz,rfl⟩)
  refine Th.ints (R.st z hz) (λi hi=>by have:=s.fig i hi;omega) (by have:=s.len;omega)
 have hb:Th H 2 1620 (.ref bl):=Th.lst R.li (λv hv=>by
  obtain⟨z,hz',rfl⟩:=List.mem_map.mp hv
  exact hz z hz') (by rw [List.length_map];omega)
 refine Th.tup (k:=2) (n:=1620) R.tu (λv hv=>?_) (by show 1621*2<=5000;decide)
 simp only [List.mem_cons,List.not_mem_nil,or_false] at hv
 rcases hv with rfl | rfl
 ·exact Th.int (by omega) (by decide)
 ·exact hb
theorem Jd {b:Int} {d:PyData} (h:zM b d=true):∃ l:List Int,d=.list (l.map .int)/\l≠[]/\l.length<=4/\∀ i∈l,0<=i/\i<b:=by
 unfold zM at h
 rw [Bool.and_eq_true] at h
 obtain⟨h1,h2⟩:=h
 have h2:=of_decide_eq_true h2
 cases d with
 | list xs =>
  have h1:xs.all (W5 b)=true:=h1
  rw [List.all_eq_true] at h1
  have h2:1<=xs.length/\xs.length<=4:=h2
  have hx:∀ x∈xs,x=.int (jL x)/\0<=jL x/\jL x<b:=λx hx=>by
   have q:=h1 x hx
   cases x with
   | int i=>exact⟨rfl,of_decide_eq_true q⟩
   | _=>cases q
  refine⟨xs.map jL,?_,λz=>?_,by rw [List.length_map];exact h2.2,λi hi=>?_⟩
  ·rw [List.map_map]
   conv=>lhs;rw [<- List.map_id xs]
   exact congrArg PyData.list (List.map_congr_left λx hx'=>(hx x hx').1)
  ·have:xs.length=0:=by rw [<- List.length_map (f:=jL),z];rfl
   omega
  ·obtain⟨x,hx',rfl⟩:=List.mem_map.mp hi
   exact (hx x hx').2
 | _=>cases h1
theorem Jx {H:Hp} {b:Int}:∀ {xs:List PyData} {ys:List V},ThsAt H xs ys->xs.all (zM b)=true->∃ zs:ZB,ys=zs.map (λz=>V.ref z.1)/\xs.map yr=zs.map (·.2)/\(∀ z∈zs,H z.1=some (.lst (z.2.map V.int)))/\∀ z∈zs,z.2≠[]/\z.2.length<=4/\∀ i∈z.2,0<=i/\i<b
 | [],ys,h,_=>by rw [ThsAt] at h;subst h;exact⟨[],rfl,rfl,by simp,by simp⟩
 | d :: ds,ys,h,g=>by
  rw [ThsAt] at h
  obtain⟨y,us,rfl,h1,h2⟩:=h
  rw [List.all_cons,Bool.and_eq_true] at g
  obtain⟨zs,rfl,e,h3,h4⟩:=Jx h2 g.2
  obtain⟨l,rfl,l1,l2,l3⟩:=Jd g.1
  rw [ThAt] at h1
  obtain⟨a,vs,rfl,h5,h6⟩:=h1
  have ev:vs=l.map V.int:=by
   clear l1 l2 l3 h5 g
   induction l generalizing vs with
   | nil=>rw [List.map_nil,ThsAt] at h6;exact h6
   | cons i l ih =>
    rw [List.map_cons,ThsAt] at h6
    obtain⟨y,us,rfl,q1,q2⟩:=h6
    rw [ThAt] at q1
    rw [q1,ih us q2];rfl
  subst ev
  refine⟨(a,l) :: zs,rfl,?_,λz hz=>?_,λz hz=>?_⟩
  ·rw [List.map_cons,List.map_cons,e]
   congr 1
   show (l.map PyData.int).map jL=l
   rw [List.map_map]
   conv=>rhs;rw [<- List.map_id l]
   rfl
  ·rcases List.mem_cons.mp hz with rfl | hz
   ·exact h5
   ·exact h3 z hz
  ·rcases List.mem_cons.mp hz with rfl | hz
   ·exact⟨l1,l2,l3⟩
   ·exact h4 z hz
theorem zc8:∀ {ls:ZA},qO ls=true->ls.Pairwise λx y=>HT.lexLt x y=true:=by
 intro ls h
 unfold qO at h
 rw [List.all_eq_true] at h
 have nxt:∀ k,(hk:k+1<ls.length)->HT.lexLt (ls[k]'(by omega)) ls[k+1]=true:=λk hk=>by
  have q:=h k (List.mem_range.mpr (by omega))
  rwa [List.getD_eq_getElem?_getD,List.getD_eq_getElem?_getD,List.getElem?_eq_getElem (show k<ls.length by omega),List.getElem?_eq_getElem hk] at q
 refine List.pairwise_iff_getElem.mpr λi j hi hj hij=>?_
 obtain⟨n,rfl⟩:∃ n,j=i+1+n:=⟨j-(i+1),by omega⟩
 induction n with
 | zero=>exact nxt i hj
 | succ n ih=>exact HT.wQ _ _ _ (ih (by omega) (by omega)) (nxt (i+1+n) hj)
theorem zeX {H:Hp} {d:PyData} {v:V} (h:ThAt H d v) (hr:XQ d=true):∃ (r:Addr) (b:Nat) (bl:Addr) (zs:ZB),v=.ref r/\RuleAt H r b bl zs/\GoodRule b (zs.map (·.2)):=by
 have go:∀ e l,d=.tuple [e,l]->∃ (r:Addr) (b:Nat) (bl:Addr) (zs:ZB),v=.ref r/\RuleAt H r b bl zs/\GoodRule b (zs.map (·.2)):=by
  rintro e l rfl
  have hr:(jJ e && zc7 (jL e) l)=true:=hr
  rw [Bool.and_eq_true] at hr
  obtain⟨h1,h2⟩:=hr
  cases e with
  | int i =>
   have h1:2<=i/\i<=16:=of_decide_eq_true h1
   cases l with
   | list xs =>
    have h2:(decide (xs.length<=4) && (xs.all (zM i) && qO (xs.map yr)))=true:=h2
    rw [Bool.and_eq_true,Bool.and_eq_true] at h2
    obtain⟨h3,h4,h5⟩:=h2
    have h3:=of_decide_eq_true h3
    rw [ThAt] at h
    obtain⟨a,ys,rfl,h6,h7⟩:=h
    rw [ThsAt] at h7
    obtain⟨y,us,rfl,h8,h7⟩:=h7
    rw [ThAt] at h8
    rw [ThsAt] at h7
    obtain⟨z,ws,rfl,h9,h7⟩:=h7
    rw [ThsAt] at h7
    subst h7 h8
    rw [ThAt] at h9
    obtain⟨bl,vs,rfl,g1,g2⟩:=h9
    obtain⟨zs,rfl,e,g3,g4⟩:=Jx g2 h4
    rw [e] at h5
    have hn:((i.toNat:Nat):Int)=i:=by omega
    refine⟨a,i.toNat,bl,zs,rfl,⟨by rw [hn];exact h6,g1,g3⟩,⟨by omega,by omega,?_,λl hl=>?_,zc8 h5⟩⟩
    ·rw [<- e,List.length_map];exact h3
    ·obtain⟨z,hz,rfl⟩:=List.mem_map.mp hl
     obtain⟨q1,q2,q3⟩:=g4 z hz
     exact⟨q1,q2,λf hf=>by rw [hn];exact q3 f hf⟩
   | _=>cases h2
  | _=>cases h1
 cases d with
 | tuple xs =>
  match xs,hr with
  | [e,l],_=>exact go e l rfl
  | [],hr=>cases hr
  | [_],hr=>cases hr
  | _ :: _ :: _ :: _,hr=>cases hr
 | _=>cases hr
def V8:PyData->Bool
 | .int i=>decide (0<=i)
 | _=>false
section
variable {P:Program} {w:World} {K:W.Frag} {mg:Str->Option Value} {base:Heap}
def qJ:Sp:=λvs H Q _=>∃ (v:V) (d:PyData),vs=[v]/\ThAt H d v/\Q (.bl (V8 d)) H
theorem zal:zB ["thing"] ["thing"] (zq qe):={}
theorem WL {f f1:Addr} {fd fd1:FuncData} (D:Df K mg "is_number" qe Aa f fd) (yx:Df K mg "is_whole" uf Aa f1 fd1) (T:Blt mg):FnOk P w K mg base CX0 2 f fd Aa qJ:=by
 have je:FnOk P w K mg base CX0 1 f1 fd1 Aa qt:=j6 yx T
 refine D.fn.ok zal (λvs H Q E h=>?_) (λcdv A outer s H vs Q E hr h=>?_)
 ·obtain⟨v,d,rfl,_⟩:=h;rfl
 ·obtain⟨v,d,rfl,hd,q⟩:=h
  refine⟨_,(zu (zF (Zv (zJ yx je (hr.mono (by decide)) (zf (pv 0) zg)) (jz (tR zfz (pv 0) zr (zV _)))))),?_⟩
  refine⟨_,rfl,v,d,rfl,hd,_,rfl,?_⟩
  cases hw:Vt d with
  | false =>
   have:V8 d=false:=by cases d<;>first | rfl | cases hw
   rw [this] at q
   exact yf q
  | true =>
   have e:=Wb hw
   generalize jL d=i at e
   subst e
   rw [ThAt] at hd
   subst hd
   exact yp ⟨_,rfl,_,_,rfl,rfl,q⟩
def wI (qS:Addr):Sp:=λvs H Q E=>∃ (v:V) (d:PyData),vs=[v]/\ThAt H d v/\vD d<=100000/\(XQ d=false->∀ H',Same H H'->E (.ref qS) none H')/\(XQ d=true->∀ H',Same H H'->Q .non H')
theorem Jh:zB ["thing"] ["thing"] (zq wy):={}
theorem Jf {qS:Addr} {f f1:Addr} {fd fd1:FuncData} (D:Df K mg "check_rule" wy Aa f fd) (jo:Df K mg "is_rule" ZC Aa f1 fd1) (ZX:FnOk P w K mg base CX0 6 f1 fd1 Aa Yk) (qMg:Uc K mg "NoRule" qS):FnOk P w K mg base (CX1 P w) 7 f fd Aa (wI qS):=by
 refine D.fn.ok1 Jh (λvs H Q E h=>?_) (λcdv A outer s H vs Q E hr h=>?_)
 ·obtain⟨v,d,rfl,_⟩:=h;rfl
 ·obtain⟨v,d,rfl,hd,hs,kNo,kOk⟩:=h
  refine⟨_,(zu (yE (wz (xm (zJ jo ZX (hr.mono (by decide)) (zf (pv 0) zg))))
    (zu (ZV qMg ZP rfl (zf uv zg)))
    zT)),?_⟩
  refine⟨_,rfl,v,d,rfl,hd,hs,λH1 m1=>⟨_,rfl,?_⟩⟩
  cases hr:XQ d with
  | false=>exact yp ⟨by show 1<=sizeLine;decide,kNo hr _ m1⟩
  | true=>exact yf (kOk hr _ m1)
end
theorem zb4:∀ ds:List PyData,ds.length<=PyData.weightAll ds
 | []=>Nat.zero_le _
 | d :: ds=>by rw [PyData.weightAll,List.length_cons];have:=zb4 ds;omega
mutual
theorem Wn:∀ d:PyData,vD d<=d.weight
 | .none=>by rw [vD.eq_def];exact Nat.zero_le _
 | .bool _=>by rw [vD.eq_def];exact Nat.zero_le _
 | .int _=>by rw [vD.eq_def];exact Nat.zero_le _
 | .str _=>by rw [vD.eq_def];exact Nat.zero_le _
 | .list xs=>by rw [vD,PyData.weight];have:=zb4 xs;have:=zam xs;omega
 | .tuple xs=>by rw [vD,PyData.weight];have:=zb4 xs;have:=zam xs;omega
 | .dict _=>by rw [vD.eq_def];exact Nat.zero_le _
theorem zam:∀ ds:List PyData,YX ds<=PyData.weightAll ds
 | []=>by rw [YX];exact Nat.zero_le _
 | d :: ds=>by rw [YX,PyData.weightAll];have:=Wn d;have:=zam ds;omega
end
end Lw
namespace Lw
open PySem L2 PyProof.Rows
section
variable {P:Program} {w:World} {K:W.Frag} {mg:Str->Option Value} {base:Heap}
def Zu (qA:Addr):Sp:=λvs H Q E=>∃ (v:V) (d:PyData),vs=[v]/\ThAt H d v/\(jJ d=false->E (.ref qA) none H)/\(jJ d=true->Q .non H)
theorem Jo:zB ["thing"] ["thing"] (zq jc):={}
theorem Jr {qA:Addr} {f f1:Addr} {fd fd1:FuncData} (D:Df K mg "check_base" jc Aa f fd) (jC:Df K mg "is_base" ZG Aa f1 fd1) (ZK:FnOk P w K mg base CX0 2 f1 fd1 Aa Z4) (qMe:Uc K mg "NoBase" qA):FnOk P w K mg base (CX1 P w) 3 f fd Aa (Zu qA):=by
 refine D.fn.ok1 Jo (λvs H Q E h=>?_) (λcdv A outer s H vs Q E hr h=>?_)
 ·obtain⟨v,d,rfl,_⟩:=h;rfl
 ·obtain⟨v,d,rfl,hd,kNo,kOk⟩:=h
  refine⟨_,(zu (yE (wz (xm (zJ jC ZK (hr.mono (by decide)) (zf (pv 0) zg))))
    (zu (ZV qMe ZP rfl (zf uv zg)))
    zT)),?_⟩
  refine⟨_,rfl,v,d,rfl,hd,_,rfl,?_⟩
  cases hr:jJ d with
  | false=>exact yp ⟨by show 1<=sizeLine;decide,kNo hr⟩
  | true=>exact yf (kOk hr)
def wD (qB:Addr):Sp:=λvs H Q E=>∃ (v:V) (d:PyData),vs=[v]/\ThAt H d v/\(V8 d=false->E (.ref qB) none H)/\(V8 d=true->Q .non H)
theorem V7:zB ["thing"] ["thing"] (zq xV):={}
theorem V4 {qB:Addr} {f f1:Addr} {fd fd1:FuncData} (D:Df K mg "check_number" xV Aa f fd) (wN:Df K mg "is_number" qe Aa f1 fd1) (jk:FnOk P w K mg base CX0 2 f1 fd1 Aa qJ) (qMf:Uc K mg "NoNumber" qB):FnOk P w K mg base (CX1 P w) 3 f fd Aa (wD qB):=by
 refine D.fn.ok1 V7 (λvs H Q E h=>?_) (λcdv A outer s H vs Q E hr h=>?_)
 ·obtain⟨v,d,rfl,_⟩:=h;rfl
 ·obtain⟨v,d,rfl,hd,kNo,kOk⟩:=h
  refine⟨_,(zu (yE (wz (xm (zJ wN jk (hr.mono (by decide)) (zf (pv 0) zg))))
    (zu (ZV qMf ZP rfl (zf uv zg)))
    zT)),?_⟩
  refine⟨_,rfl,v,d,rfl,hd,_,rfl,?_⟩
  cases hr:V8 d with
  | false=>exact yp ⟨by show 1<=sizeLine;decide,kNo hr⟩
  | true=>exact yf (kOk hr)
theorem Vb {H:Hp} {d:PyData} {v:V} (h:ThAt H d v) (hb:jJ d=true):∃ b:Nat,d=.int b/\v=.int b/\2<=b/\b<=16:=by
 cases d with
 | int i =>
  have hb:2<=i/\i<=16:=of_decide_eq_true hb
  rw [ThAt] at h
  have e:((i.toNat:Nat):Int)=i:=by omega
  exact⟨i.toNat,by rw [e],by rw [h,e],by omega,by omega⟩
 | _=>cases hb
theorem zel {H:Hp} {d:PyData} {v:V} (h:ThAt H d v) (hb:V8 d=true):∃ n:Nat,d=.int n/\v=.int n:=by
 cases d with
 | int i =>
  have hb:0<=i:=of_decide_eq_true hb
  rw [ThAt] at h
  have e:((i.toNat:Nat):Int)=i:=by omega
  exact⟨i.toNat,by rw [e],by rw [h,e]⟩
 | _=>cases hb
def vH (qA qB:Addr):Sp:=λvs H Q E=>∃ (v u:V) (d e:PyData),vs=[v,u]/\ThAt H d v/\ThAt H e u/\(jJ d=false->E (.ref qA) none H)/\(jJ d=true->V8 e=false->E (.ref qB) none H) /\
 ∀ b n:Nat,d=.int b->2<=b->b<=16->e=.int n->n<2^900/\∀ l H',H l=none->H' l=some (.lst ((figs b n).map V.int))->Same H H'->Q (.ref l) H'
theorem tK:zB ["base","n","backwards","rest"] ["base","n"] (zq wZ):={}
theorem Jt {qA qB:Addr} {f f1 f2:Addr} {fd fd1 fd2:FuncData} (D:Df K mg "figures_of" wZ Ao f fd) (jV:Df K mg "check_base" jc Aa f1 fd1) (Y4:FnOk P w K mg base (CX1 P w) 3 f1 fd1 Aa (Zu qA))
  (yt:Df K mg "check_number" xV Aa f2 fd2) (yI:FnOk P w K mg base (CX1 P w) 3 f2 fd2 Aa (wD qB)) (T:Blt mg):FnOk P w K mg base (CX1 P w) 4 f fd Ao (vH qA qB):=by
 refine D.fn.ok1 tK (λvs H Q E h=>?_) (λcdv A outer s H vs Q E hr h=>?_)
 ·obtain⟨v,u,d,e,rfl,_⟩:=h;rfl
 ·obtain⟨v,u,d,e,rfl,hd,he,kB,kN,kOk⟩:=h
  refine⟨_,(zp (vg (jq jV Y4 (hr.mono (by decide)) ZS (zf (pv 0) zg)))
   (zp (vg (jq yt yI (hr.mono (by decide)) ZS (zf (pv 1) zg)))
   (zp (zH (i:=2) tK.nd rfl (Or.inl rfl) (yc (zf (zN Y8 (pv 1) (pv 0)) zg)))
   (zp (zH (i:=3) tK.nd rfl (Or.inl rfl) (zN W4 (pv 1) (pv 0)))
   (zp (Qo PassesOwn.leaving (zP zba (pv 3) zr (zV _))
    (zp (vg (zcH PySem.F.plainAttrs_list PySem.F.slot_list_append PySem.F.type_list_append VG (pv 2) (zf (zN Y8 (pv 3) (pv 0)) zg)))
    (zu (zH (i:=3) tK.nd rfl (Or.inl rfl) (zN W4 (pv 3) (pv 0))))))
   (zu (zF (zcc rfl rfl T.n_list rfl T.n_reversed (pv 2))))))))),?_⟩
  refine⟨_,rfl,v,d,rfl,hd,kB,λhb=>?_⟩
  refine⟨_,rfl,u,e,rfl,he,kN hb,λhn'=>?_⟩
  obtain⟨b,rfl,rfl,h2,h16⟩:=Vb hd hb
  obtain⟨n,rfl,rfl⟩:=zel he hn'
  obtain⟨hn,k⟩:=kOk b n rfl h2 h16 rfl
  refine⟨_,rfl,_,rfl,_,_,rfl,rfl,(by omega:(0:Int)<b),(by decide:1<=sizeLine),λl hl=>?_⟩
  refine⟨_,rfl,_,rfl,_,_,rfl,rfl,⟨by omega,by omega⟩,?_⟩
  have hlen:=Ww h2 900 n hn
  refine QF (fun σ H2=>∃ (r:Nat) (L:List Int),σ=[some (.int b),some (.int n),some (.ref l),some (.int r)]/\H2 l=some (.lst (L.map V.int))/\Same H H2/\figs b n=ahead b r++L.reverse)
   (fun σ _=>match σ with | [_,_,_,some (.int r)]=>r.toNat | _=>0) ?_ ?_ ?_
  ·refine⟨n / b,[((n % b:Nat):Int)],?_,?_,zm hl,?_⟩
   ·rfl
   ·rw [zj];simp
   ·rw [zaa h2];simp
  ·rintro σ H2 ⟨r,L,rfl,hL,sH,he⟩
   refine⟨_,rfl,_,_,rfl,rfl,_,rfl,?_⟩
   refine zbw (λh1=>?_) (λh1=>?_)
   ·have hr0:0<r:=by have:=of_decide_eq_true h1;omega
    have hLl:L.length<=901:=by
     have:=congrArg List.length he
     rw [List.length_append,List.length_reverse] at this
     omega
    refine⟨_,rfl,.inl ⟨rfl,_,SqL.of hL⟩,_,rfl,_,rfl,_,_,rfl,rfl,(by omega:(0:Int)<b),l,_,_,rfl,rfl,hL,by rw [List.length_map];exact Nat.lt_of_le_of_lt hLl (by decide),?_⟩
    refine⟨_,rfl,_,rfl,_,_,rfl,rfl,⟨by omega,by omega⟩,?_⟩
    refine⟨⟨r / b,L++[((r % b:Nat):Int)],?_,?_,?_,?_⟩,?_⟩
    ·simp
    ·rw [zj];simp
    ·exact λb' o e=>by rw [zy (zx e hl)];exact sH b' o e
    ·rw [he,zbJ h2 hr0,List.reverse_append];simp
    ·show ((r:Int) / (b:Int)).toNat<(r:Int).toNat
     have:r / b<r:=Nat.div_lt_self hr0 (by omega)
     omega
   ·have hr0:r=0:=by
     by_cases z:r=0
     ·exact z
     ·exact absurd (decide_eq_true (by omega:(0:Int)<r)) h1
    subst hr0
    refine⟨_,rfl,l,_,rfl,SqL.of hL,λq hq=>?_⟩
    have hlq:q≠l:=λz=>by rw [z,hL] at hq;cases hq
    refine k q _ (sH.free hq) ?_ (sH.trans (zm hq))
    rw [zj,he]
    simp [ahead]
  ·intro σ H2 Q Q' hq
   rintro⟨v,e,i,j,e1,e2,k,e3,q⟩
   exact⟨v,e,i,j,e1,e2,k,e3,hq _ _ q⟩
end
theorem TailsAt.updI {C tl la b p CS dxp:Nat} {H:Hp} {ls ws:ZA} {L:Nat} {o:HO} {fs:List (Str×V)} (TA:TailsAt C H tl la b ls ws L) (h:H p=some (.ins CS dxp fs)) (hne:tl≠p):TailsAt C (upd H p o) tl la b ls ws L:=by
 obtain⟨dx,sa,srs,h1,h2,h3,h4⟩:=TA.ob
 obtain⟨lrs,g1,g2,g3⟩:=TA.ly
 have nl:∀ {c:Addr} {xs:List V},H c=some (.lst xs)->c≠p:=λe z=>by rw [z,h] at e;cases e
 have go:∀ c u,c≠p->aw [la] H c=some u->aw [la] (upd H p o) c=some u:=λc u hc e=>by
  have hcl:c∉[la]:=λhz=>by rw [qI hz] at e;cases e
  rw [zO hcl] at e ⊢
  rw [zy hc];exact e
 exact⟨⟨dx,sa,srs,go _ _ hne h1,go _ _ (nl (zK _ _ _ _ h2)) h2,λz hz=>go _ _ (nl (zK _ _ _ _ (h3 z hz))) (h3 z hz),h4⟩,⟨lrs,by rw [zy (nl g1)];exact g1,λz hz=>go _ _ (nl (zK _ _ _ _ (g2 z hz))) (g2 z hz),g3⟩,TA.l1⟩
theorem LT.putI {T p CS dx:Addr} {H:Hp} {o:HO} {fs:List (Str×V)} (h:LT T H) (e:H p=some (.ins CS dx fs)):LT T (upd H p o):=by
 have nT:p≠T:=λz=>by
  rw [z] at e
  rcases h with h | ⟨c,h,_⟩
  ·rw [h] at e;cases e
  ·rw [h] at e;cases e
 rcases h with h | ⟨c,h1,h2⟩
 ·exact .inl (by rw [zy (Ne.symm nT)];exact h)
 ·exact .inr ⟨c,by rw [zy (Ne.symm nT)];exact h1,by rw [zy (λz=>by rw [z,e] at h2;cases h2)];exact h2⟩
structure ClK (K:W.Frag) (mg:Str->Option Value) (C:Addr):Prop where
 cl:Cls K C
 nm:mg "Keeper" = some (.ref C)
 n_base:NoAttr K C "base"
 n_bad:NoAttr K C "bad"
 n_bound:NoAttr K C "bound"
 n_tails:NoAttr K C "tails"
def vC (b:Nat) (bl:Addr) (bd:Nat) (tl:Addr):List (Str×V):=zU "tails" (.ref tl) (zU "bound" (.int bd) (zU "bad" (.ref bl) (zU "base" (.int b) [])))
section
variable (b:Nat) (bl:Addr) (bd:Nat) (tl:Addr)
theorem Qg:(vC b bl bd tl).lookup ("tails" : Str)=some (.ref tl):=by unfold vC;rw [zG,if_pos rfl]
theorem QH:(vC b bl bd tl).lookup ("bound" : Str)=some (.int bd):=by unfold vC;rw [zG,if_neg (by decide +kernel),zG,if_pos rfl]
theorem Zw:(vC b bl bd tl).lookup ("bad" : Str)=some (.ref bl):=by unfold vC;rw [zG,if_neg (by decide +kernel),zG,if_neg (by decide +kernel),zG,if_pos rfl]
theorem ZW:(vC b bl bd tl).lookup ("base" : Str)=some (.int b):=by unfold vC;rw [zG,if_neg (by decide +kernel),zG,if_neg (by decide +kernel),zG,if_neg (by decide +kernel),zG,if_pos rfl]
theorem xK {m:Str} (h1:¬ m = "tails":=by decide +kernel) (h2:¬ m = "bound":=by decide +kernel) (h3:¬ m = "bad":=by decide +kernel) (h4:¬ m = "base":=by decide +kernel):(vC b bl bd tl).lookup m=none:=by
 unfold vC
 rw [zG,if_neg h1,zG,if_neg h2,zG,if_neg h3,zG,if_neg h4]
 rfl
theorem zbn:(vC b bl bd tl).length<=4:=Nat.le_trans (xJ _ _ _) (Nat.succ_le_succ (Nat.le_trans (xJ _ _ _) (Nat.succ_le_succ (Nat.le_trans (xJ _ _ _) (Nat.succ_le_succ (xJ _ _ _))))))
theorem Uq:vC b bl bd tl=[(("base" : Str),V.int (b:Int)),(("bad" : Str),V.ref bl),(("bound" : Str),V.int (bd:Int)),(("tails" : Str),V.ref tl)]:=by
 unfold vC
 rw [zU,zU,if_neg (by decide +kernel),zU,zU,if_neg (by decide +kernel),zU,if_neg (by decide +kernel),zU,zU,if_neg (by decide +kernel),zU,if_neg (by decide +kernel),zU,if_neg (by decide +kernel),zU]
theorem zbd (bl2:Addr):zU "bad" (.ref bl2) (vC b bl bd tl)=vC b bl2 bd tl:=by
 rw [Uq,Uq,zU,if_neg (by decide +kernel),zU,if_pos rfl]
theorem Jm (tl2:Addr):zU "tails" (.ref tl2) (vC b bl bd tl)=vC b bl bd tl2:=by
 rw [Uq,Uq,zU,if_neg (by decide +kernel),zU,if_neg (by decide +kernel),zU,if_neg (by decide +kernel),zU,if_pos rfl]
end
structure KpAt (C CK:Addr) (H:Hp) (k tl sa la:Addr) (b bd:Nat) (bl:Addr) (zs:ZB) (ws:ZA) (L:Nat):Prop where
 ob:∃ dx,H k=some (.ins CK dx (vC b bl bd tl))
 li:H bl=some (.lst (zs.map λz=>V.ref z.1))
 st:∀ z∈zs,H z.1=some (.lst (z.2.map V.int))
 ta:TailsAt C H tl la b (zs.map (·.2)) ws L
 sa:∃ dx,H tl=some (.ins C dx (Xd b ws.length sa la))
 gt:GoodT b (zs.map (·.2)) ws
 bla:bl≠la
 l:L<=1000
section
variable {C CK:Addr} {H H':Hp} {k tl sa la:Addr} {b bd:Nat} {bl:Addr} {zs:ZB} {ws:ZA} {L L':Nat}
theorem KpAt.zla (A:KpAt C CK H k tl sa la b bd bl zs ws L) {z:Addr×List Int} (hz:z∈zs):z.1≠la:=λe=>by
 obtain⟨lrs,h1,_,h3⟩:=A.ta.ly
 have h:=A.st z hz
 rw [e,h1] at h
 have hne:=(A.gt.g.st z.2 (List.mem_map.mpr ⟨z,hz,rfl⟩)).ne
 injection h with h
 injection h with h
 cases hz2:z.2 with
 | nil=>exact hne hz2
 | cons x y =>
  rw [hz2] at h
  cases lrs with
  | nil=>cases h
  | cons x' y'=>injection h with h _;cases h
theorem KpAt.kla (A:KpAt C CK H k tl sa la b bd bl zs ws L):k≠la:=by
 obtain⟨dx,h⟩:=A.ob
 obtain⟨lrs,h1,_⟩:=A.ta.ly
 exact tY h h1 (λz=>nomatch z)
theorem KpAt.tla (A:KpAt C CK H k tl sa la b bd bl zs ws L):tl≠la:=by
 obtain⟨dx,h⟩:=A.sa
 obtain⟨lrs,h1,_⟩:=A.ta.ly
 exact tY h h1 (λz=>nomatch z)
theorem KpAt.more (A:KpAt C CK H k tl sa la b bd bl zs ws L) (TA:TailsAt C H' tl la b (zs.map (·.2)) ws L') (m:Same (aw [la] H) (aw [la] H')) (hL:L'<=1000):KpAt C CK H' k tl sa la b bd bl zs ws L':=by
 have go:∀ c o,c≠la->H c=some o->H' c=some o:=λc o hc e=>by
  have hc':c∉[la]:=by simpa using hc
  have:=m c o (by rw [zO hc'];exact e)
  rwa [zO hc'] at this
 obtain⟨dx,h1⟩:=A.ob
 obtain⟨dt,h2⟩:=A.sa
 exact⟨⟨dx,go _ _ A.kla h1⟩,go _ _ A.bla A.li,λz hz=>go _ _ (A.zla hz) (A.st z hz),TA,⟨dt,go _ _ A.tla h2⟩,A.gt,A.bla,hL⟩
theorem KpAt.same (A:KpAt C CK H k tl sa la b bd bl zs ws L) (m:Same H H'):KpAt C CK H' k tl sa la b bd bl zs ws L:=A.more (A.ta.same m) (m.aw [la]) A.l
end
theorem KpAt.las {C CK:Addr} {H:Hp} {k tl sa la:Addr} {b bd:Nat} {bl:Addr} {zs:ZB} {ws:ZA} {L:Nat} (A:KpAt C CK H k tl sa la b bd bl zs ws L):∃ as:List Addr,H la=some (.lst (as.map V.ref)):=by
 obtain⟨lrs,g1,_⟩:=A.ta.ly
 exact⟨lrs.map (·.1),by rw [List.map_map];exact g1⟩
theorem KpAt.sas' {C CK:Addr} {H:Hp} {k tl sa la:Addr} {b bd:Nat} {bl:Addr} {zs:ZB} {ws:ZA} {L:Nat} (A:KpAt C CK H k tl sa la b bd bl zs ws L):∃ xs,aw [la] H sa=some (.lst xs):=by
 obtain⟨dq,saq,srs,q1,q2,_⟩:=A.ta.ob
 obtain⟨dt,q3⟩:=A.sa
 have es:saq=sa:=by
  have:=zK _ _ _ _ q1
  rw [q3] at this
  injection this with this
  injection this with _ _ this
  have e:=ym b ws.length saq la
  rw [<- this,ym] at e
  injection e with e
  injection e with e
  exact e.symm
 rw [es] at q2
 exact⟨_,q2⟩
theorem KpAt.sas {C CK:Addr} {H:Hp} {k tl sa la:Addr} {b bd:Nat} {bl:Addr} {zs:ZB} {ws:ZA} {L:Nat} (A:KpAt C CK H k tl sa la b bd bl zs ws L):∃ xs,H sa=some (.lst xs):=let ⟨_,h⟩:=A.sas';⟨_,zK _ _ _ _ h⟩
theorem KpAt.sla {C CK:Addr} {H:Hp} {k tl sa la:Addr} {b bd:Nat} {bl:Addr} {zs:ZB} {ws:ZA} {L:Nat} (A:KpAt C CK H k tl sa la b bd bl zs ws L):sa≠la:=λe=>by
 obtain⟨xs,h⟩:=A.sas'
 rw [qI (by simp [e])] at h;cases h
structure ClrK (c:Addr) (H:Hp) (k tl sa la bl:Addr) (zs:ZB):Prop where
 nk:c≠k
 ntl:c≠tl
 nsa:c≠sa
 nla:c≠la
 nbl:c≠bl
 nz:∀ z∈zs,c≠z.1
 rla:NoRef H la c
 rsa:NoRef H sa c
def KpS (H H':Hp) (k tl sa la bl:Addr) (zs:ZB):Prop:=∀ c o,H c=some o->ClrK c H k tl sa la bl zs->ClrK c H' k tl sa la bl zs
theorem KpAt.kps {C CK:Addr} {H H':Hp} {k tl sa la:Addr} {b bd:Nat} {bl:Addr} {zs:ZB} {ws:ZA} {L:Nat} (A:KpAt C CK H k tl sa la b bd bl zs ws L) (m:Same H H'):KpS H H' k tl sa la bl zs:=λc o e q=>by
 obtain⟨_,h1⟩:=A.las
 obtain⟨_,h2⟩:=A.sas
 exact⟨q.nk,q.ntl,q.nsa,q.nla,q.nbl,q.nz,q.rla.same h1 (m _ _ h1),q.rsa.same h2 (m _ _ h2)⟩
section
variable {P:Program} {w:World} {K:W.Frag} {mg:Str->Option Value} {base:Heap} {T0 C CK:Addr}
def Yu:Sp:=λvs H Q _=>∃ (r:Addr) (b:Nat) (bl:Addr) (zs:ZB),vs=[.ref r]/\RuleAt H r b bl zs/\zs.length<=100 /\
 ∀ (r' bl':Addr) (zs':ZB) (H':Hp),Same H H'->RuleAt H' r' b bl' zs'->zs'.map (·.2)=zs.map (·.2)->H bl'=none->H r'=none->(∀ z∈zs',H z.1=none/\z.1≠bl')->Q (.ref r') H'
theorem zcl:zB ["rule"] ["rule"] (zq jd):={}
theorem zce {f:Addr} {fd:FuncData} (D:Df K mg "copy_of" jd Ag f fd) (T:Blt mg):FnOk P w K mg base CX0 1 f fd Ag Yu:=by
 refine D.fn.ok zcl (λvs H Q E h=>?_) (λcdv A outer s H vs Q E hr h=>?_)
 ·obtain⟨r,b,bl,zs,rfl,_⟩:=h;rfl
 ·obtain⟨r,b,bl,zs,rfl,R,hl,kk⟩:=h
  refine⟨_,(zu (zF (qG (zf (zW (wU K) (pv 0) zr (λ_ _=>rfl)) (zf (yW (show CScope (zq jd) _ "stretch" ["rule"] [] [] from {}) rfl (X5 K (zW (wU K) (pv 0) zr (λ_ _=>rfl))) (λ_ _ _ _=>wA) (λ_ _ _ _=>(wG (Z0 K) (by rfl) T.n_list boot_list (zf (pv 0) zg)))) zg))))),?_⟩
  refine⟨_,rfl,r,_,_,V.int b,rfl,rfl,SqT.of R.tu,rfl,?_⟩
  refine⟨_,rfl,r,_,_,V.ref bl,rfl,rfl,SqT.of R.tu,rfl,bl,rfl,⟨_,SqL.of R.li⟩,yQ (K:=K) (a:=bl) (xs:=zs.map λz=>V.ref z.1) (λi ys H4=>Same H H4/\∃ ws:ZB,ys=ws.map (λz=>V.ref z.1)/\ws.length=i/\ws.map (·.2)=(zs.take i).map (·.2)/\∀ z∈ws,H z.1=none/\H4 z.1=some (.lst (z.2.map V.int))) ⟨Same.refl _,[],rfl,rfl,rfl,by simp⟩ (λi ys H4 _ ⟨e,_⟩=>SqL.of (e _ _ R.li)) ?_ ?_⟩
  ·rintro j x ys H4 hx ⟨s4,ws,rfl,hwl,hw2,hws⟩
   rw [List.getElem?_map] at hx
   obtain⟨z,hzj,e⟩:=Option.map_eq_some_iff.mp hx
   subst e
   have hzm:=List.mem_of_getElem? hzj
   have hj:j<zs.length:=(List.getElem?_eq_some_iff.mp hzj).1
   refine⟨by rw [List.length_map,hwl];exact Nat.lt_of_lt_of_le (show j<101 by omega) (by decide),?_⟩
   unfold Xu
   dsimp only
   rw [if_pos rfl]
   refine⟨_,rfl,z.1,_,rfl,.inl (SqL.of (s4 _ _ (R.st z hzm))),λp hp=>⟨s4.trans (zm hp),ws++[(p,z.2)],by simp,by simp [hwl],?_,λy hy=>?_⟩⟩
   ·rw [List.map_append,hw2,List.take_succ,hzj];simp
   ·rcases List.mem_append.mp hy with hy | hy
    ·exact⟨(hws y hy).1,zm hp _ _ (hws y hy).2⟩
    ·have e:y=(p,z.2):=by simpa using hy
     subst e
     exact⟨s4.free hp,zj⟩
  ·rintro ys H4 ⟨s4,ws,rfl,hwl,hw2,hws⟩ bl' hbl'
   refine⟨(by show 2<=sizeLine;decide),λr' hr'=>?_⟩
   have s5:=zm hbl' (o:=.lst (ws.map λz=>V.ref z.1))
   have s6:=zm hr' (o:=.tup [.int b,.ref bl'])
   refine kk r' bl' ws _ (s4.trans (s5.trans s6)) ⟨zj,s6 _ _ zj,λz hz=>s6 _ _ (s5 _ _ (hws z hz).2)⟩ ?_ (s4.free hbl') (s4.free (s5.free hr')) λz hz=>⟨(hws z hz).1,zx (hws z hz).2 hbl'⟩
   rw [hw2,List.length_map,List.take_length]
def Yz:Sp:=λvs H Q _=>∃ (r:Addr) (b:Nat) (bl:Addr) (zs:ZB),vs=[.ref r]/\RuleAt H r b bl zs/\zs.length<=100 /\
 ∀ (r' bl':Addr) (zs':ZB) (H':Hp),Same H H'->RuleAt H' r' b bl' zs'->zs'.map (·.2)=zs.map (·.2)->H bl'=none->H r'=none->(∀ z∈zs',H z.1=none/\z.1≠bl')->Q (.ref r') H'
theorem zaj:zB ["rule"] ["rule"] (zq qd):={}
theorem WK {f:Addr} {fd:FuncData} (D:Df K mg "_law_copy" qd Ag f fd) (T:Blt mg):FnOk P w K mg base CX0 1 f fd Ag Yz:=by
 refine D.fn.ok zaj (λvs H Q E h=>?_) (λcdv A outer s H vs Q E hr h=>?_)
 ·obtain⟨r,b,bl,zs,rfl,_⟩:=h;rfl
 ·obtain⟨r,b,bl,zs,rfl,R,hl,kk⟩:=h
  refine⟨_,(zu (zF (qG (zf (zW (wU K) (pv 0) zr (λ_ _=>rfl)) (zf (yW (show CScope (zq qd) _ "one" ["rule"] [] [] from {}) rfl (X5 K (zW (wU K) (pv 0) zr (λ_ _=>rfl))) (λ_ _ _ _=>wA) (λ_ _ _ _=>(wG (Z0 K) (by rfl) T.n_list boot_list (zf (pv 0) zg)))) zg))))),?_⟩
  refine⟨_,rfl,r,_,_,V.int b,rfl,rfl,SqT.of R.tu,rfl,?_⟩
  refine⟨_,rfl,r,_,_,V.ref bl,rfl,rfl,SqT.of R.tu,rfl,bl,rfl,⟨_,SqL.of R.li⟩,yQ (K:=K) (a:=bl) (xs:=zs.map λz=>V.ref z.1) (λi ys H4=>Same H H4/\∃ ws:ZB,ys=ws.map (λz=>V.ref z.1)/\ws.length=i/\ws.map (·.2)=(zs.take i).map (·.2)/\∀ z∈ws,H z.1=none/\H4 z.1=some (.lst (z.2.map V.int))) ⟨Same.refl _,[],rfl,rfl,rfl,by simp⟩ (λi ys H4 _ ⟨e,_⟩=>SqL.of (e _ _ R.li)) ?_ ?_⟩
  ·rintro j x ys H4 hx ⟨s4,ws,rfl,hwl,hw2,hws⟩
   rw [List.getElem?_map] at hx
   obtain⟨z,hzj,e⟩:=Option.map_eq_some_iff.mp hx
   subst e
   have hzm:=List.mem_of_getElem? hzj
   have hj:j<zs.length:=(List.getElem?_eq_some_iff.mp hzj).1
   refine⟨by rw [List.length_map,hwl];exact Nat.lt_of_lt_of_le (show j<101 by omega) (by decide),?_⟩
   unfold Xu
   dsimp only
   rw [if_pos rfl]
   refine⟨_,rfl,z.1,_,rfl,.inl (SqL.of (s4 _ _ (R.st z hzm))),λp hp=>⟨s4.trans (zm hp),ws++[(p,z.2)],by simp,by simp [hwl],?_,λy hy=>?_⟩⟩
   ·rw [List.map_append,hw2,List.take_succ,hzj];simp
   ·rcases List.mem_append.mp hy with hy | hy
    ·exact⟨(hws y hy).1,zm hp _ _ (hws y hy).2⟩
    ·have e:y=(p,z.2):=by simpa using hy
     subst e
     exact⟨s4.free hp,zj⟩
  ·rintro ys H4 ⟨s4,ws,rfl,hwl,hw2,hws⟩ bl' hbl'
   refine⟨(by show 2<=sizeLine;decide),λr' hr'=>?_⟩
   have s5:=zm hbl' (o:=.lst (ws.map λz=>V.ref z.1))
   have s6:=zm hr' (o:=.tup [.int b,.ref bl'])
   refine kk r' bl' ws _ (s4.trans (s5.trans s6)) ⟨zj,s6 _ _ zj,λz hz=>s6 _ _ (s5 _ _ (hws z hz).2)⟩ ?_ (s4.free hbl') (s4.free (s5.free hr')) λz hz=>⟨(hws z hz).1,zx (hws z hz).2 hbl'⟩
   rw [hw2,List.length_map,List.take_length]
theorem zau {b:Nat} (b2:2<=b) (b16:b<=16) (z:jJ (.int b)=false):False:=by
 have q:decide (2<=(b:Int)/\(b:Int)<=16)=false:=z
 rw [decide_eq_true (by omega)] at q;cases q
theorem UW {n:Nat} (z:V8 (.int n)=false):False:=by
 have q:decide (0<=(n:Int))=false:=z
 rw [decide_eq_true (by omega)] at q;cases q
def Vz (T0 C CK qB:Addr):Sp:=λvs H Q E=>∃ (k tl sa la:Addr) (b bd:Nat) (bl:Addr) (zs:ZB) (ws:ZA) (L:Nat) (v:V) (e:PyData),vs=[.ref k,v]/\KpAt C CK H k tl sa la b bd bl zs ws L/\ThAt H e v/\LT T0 H/\(V8 e=false->E (.ref qB) none H) /\
 ∀ n:Nat,e=.int n->n<2^900/\∀ (L':Nat) (H':Hp),KpAt C CK H' k tl sa la b bd bl zs ws L'->Same (aw [la] H) (aw [la] H')->LT T0 H'->KpS H H' k tl sa la bl zs->Q (.int (many (gd (zs.map (·.2)) b) n:Nat)) H'
theorem Ue:zB ["self","n"] ["self","n"] (zq wO):={}
theorem zcT {qA qB:Addr} {f f1 f2:Addr} {fd fd1 fd2:FuncData} (D:Mt K CK "Keeper.below" "below" wO Ak f fd) (yu:Mt K C "Tails.many_below" "many_below" xq As f1 fd1) (yR:FnOk P w K mg base CX0 4 f1 fd1 As (tE C)) (yZ:Df K mg "figures_of" wZ Ao f2 fd2) (xF:FnOk P w K mg base (CX1 P w) 4 f2 fd2 Ao (vH qA qB)) (zE:ClT K mg C) (cKeeper:ClK K mg CK):FnOk P w K mg base (CX1 P w) 5 f fd Ak (Vz T0 C CK qB):=by
 refine D.fn.ok1 Ue (λvs H Q E h=>?_) (λcdv A outer s H vs Q E hr h=>?_)
 ·obtain⟨k,tl,sa,la,b,bd,bl,zs,ws,L,v,e,rfl,_⟩:=h;rfl
 ·obtain⟨k,tl,sa,la,b,bd,bl,zs,ws,L,v,e,rfl,KA,he,hT,kN,kG⟩:=h
  have b2:=KA.gt.g.b2
  have b16:=KA.gt.g.b16
  obtain⟨dx,hk⟩:=KA.ob
  obtain⟨dt,htl⟩:=KA.sa
  obtain⟨lx,hla⟩:=KA.ta.la
  refine⟨_,(zu (zF (vQ yu zE.cl yR (hr.mono (by decide)) (xQ K (pv 0)) (zf (jq yZ xF (hr.mono (by decide)) ZS (zf (xQ K (pv 0)) (zf (pv 1) zg))) zg)))),?_⟩
  refine⟨_,rfl,k,CK,dx,_,_,rfl,hk,cKeeper.cl,cKeeper.n_tails,Qg _ _ _ _,tl,dt,_,rfl,htl,vX _ _ _ _,?_⟩
  refine⟨_,rfl,k,CK,dx,_,_,rfl,hk,cKeeper.cl,cKeeper.n_base,ZW _ _ _ _,_,rfl,.int b,v,.int b,e,rfl,by rw [ThAt],he,λz=>(zau b2 b16 z).elim,λ_ hn=>kN hn,λb' n eb h2 h16 en=>?_⟩
  obtain rfl:b=b':=by injection eb with eb;omega
  obtain⟨hn,kk⟩:=kG n en
  refine⟨hn,λfa H1 hfa hv s1=>?_⟩
  have KA1:=KA.same s1
  have fala:fa≠la:=λz=>by rw [z,hla] at hfa;cases hfa
  refine⟨tl,la,b,_,ws,L,fa,n,rfl,KA1.ta,KA.gt,KA.l,by rw [zO (by simpa using fala)];exact hv,hn,λL2 H2 hL2 TA2 m2 nr2 hL'=>?_⟩
  refine kk L2 H2 (KA1.more TA2 m2 hL') ((s1.aw [la]).trans m2) ((hT.same s1).off (s1 _ _ hla) m2) λc o e q=>?_
  have q1:=KA.kps s1 c o e q
  obtain⟨_,hs⟩:=KA1.sas
  exact⟨q.nk,q.ntl,q.nsa,q.nla,q.nbl,q.nz,nr2 c o q.nla (s1 _ _ e) q1.rla,q1.rsa.same hs (XS m2 KA1.sla hs)⟩
def ZR (T0 C CK:Addr):Sp:=λvs H Q _=>∃ (k tl sa la:Addr) (b bd:Nat) (bl:Addr) (zs:ZB) (ws:ZA) (L n:Nat),vs=[.ref k,.int n]/\KpAt C CK H k tl sa la b bd bl zs ws L/\n<2^900/\LT T0 H /\
 ∀ (L':Nat) (H':Hp),KpAt C CK H' k tl sa la b bd bl zs ws L'->Same (aw [la] H) (aw [la] H')->LT T0 H'->KpS H H' k tl sa la bl zs->Q (.int (many (gd (zs.map (·.2)) b) n:Nat)) H'
theorem zci {qB:Addr} {f:Addr} {fd:FuncData} (G:FnOk P w K mg base (CX1 P w) 5 f fd Ak (Vz T0 C CK qB)):FnOk P w K mg base CX0 5 f fd Ak (ZR T0 C CK) :=
 G.calm.imp λvs H Q E ⟨k,tl,sa,la,b,bd,bl,zs,ws,L,n,e,KA,hn,hT,kk⟩=>⟨k,tl,sa,la,b,bd,bl,zs,ws,L,.int n,.int n,e,KA,by rw [ThAt],hT,λz=>UW z,λm em=>by
  obtain rfl:n=m:=by injection em with em;omega
  exact⟨hn,kk⟩⟩
def Off (T k la:Addr) (H H':Hp):Prop:=∀ c o,c≠k->c≠la->c≠T->H c=some o->H' c=some o
def Xp (C CK:Addr):Sp:=λvs H Q _=>∃ (k tl sa la:Addr) (b bd:Nat) (bl:Addr) (zs:ZB) (ws:ZA) (L:Nat),vs=[.ref k]/\KpAt C CK H k tl sa la b bd bl zs ws L /\
 ∀ (r bl':Addr) (zs':ZB) (H':Hp),Same H H'->RuleAt H' r b bl' zs'->zs'.map (·.2)=zs.map (·.2)->H bl'=none->H r=none->(∀ z∈zs',H z.1=none/\z.1≠bl')->Q (.ref r) H'
theorem Jb:zB ["self"] ["self"] (zq vN):={}
theorem ze6 {f f1:Addr} {fd fd1:FuncData} (D:Mt K CK "Keeper.rule" "rule" vN Aq f fd) (jj:Df K mg "copy_of" jd Ag f1 fd1) (Z1:FnOk P w K mg base CX0 1 f1 fd1 Ag Yu) (cKeeper:ClK K mg CK):FnOk P w K mg base CX0 2 f fd Aq (Xp C CK):=by
 refine D.fn.ok Jb (λvs H Q E h=>?_) (λcdv A outer s H vs Q E hr h=>?_)
 ·obtain⟨k,tl,sa,la,b,bd,bl,zs,ws,L,rfl,_⟩:=h;rfl
 ·obtain⟨k,tl,sa,la,b,bd,bl,zs,ws,L,rfl,KA,kk⟩:=h
  obtain⟨dx,hk⟩:=KA.ob
  have h4:zs.length<=4:=by have:=KA.gt.g.len;rwa [List.length_map] at this
  refine⟨_,(zu (zF (zJ jj Z1 (hr.mono (by decide)) (zf (qG (zf (xQ K (pv 0)) (zf (xQ K (pv 0)) zg))) zg)))),?_⟩
  refine⟨_,rfl,k,CK,dx,_,_,rfl,hk,cKeeper.cl,cKeeper.n_base,ZW _ _ _ _,_,rfl,k,CK,dx,_,_,rfl,hk,cKeeper.cl,cKeeper.n_bad,Zw _ _ _ _,(by show 2<=sizeLine;decide),λt ht=>?_⟩
  have s1:=zm ht (o:=.tup [.int b,.ref bl])
  refine⟨t,b,bl,zs,rfl,⟨zj,s1 _ _ KA.li,λz hz=>s1 _ _ (KA.st z hz)⟩,by omega,λr bl' zs' H' s' R' e' n1 n2 n3=>?_⟩
  exact kk r bl' zs' H' (s1.trans s') R' e' (s1.free n1) (s1.free n2) (λz hz=>⟨s1.free (n3 z hz).1,(n3 z hz).2⟩)
def Wi (T0 C CK qS qB:Addr):Sp:=λvs H Q E=>∃ (k dx:Addr) (v u:V) (d e:PyData),vs=[.ref k,v,u]/\H k=some (.ins CK dx [])/\ThAt H d v/\ThAt H e u/\vD d<=100000/\LT T0 H/\(XQ d=false->∀ H',Same H H'->E (.ref qS) none H')/\(XQ d=true->V8 e=false->∀ H',Same H H'->E (.ref qB) none H') /\
 ∀ (r:Addr) (b:Nat) (bl:Addr) (zs:ZB) (bd:Nat),v=.ref r->RuleAt H r b bl zs->GoodRule b (zs.map (·.2))->e=.int bd ->
 ∀ (tl sa la bl2:Addr) (zs2:ZB) (ws:ZA) (L:Nat) (H':Hp),KpAt C CK H' k tl sa la b bd bl2 zs2 ws L->zs2.map (·.2)=zs.map (·.2)->(∀ c o,c≠k->c≠T0->H c=some o->H' c=some o)->LT T0 H'->H la=none->H sa=none->H bl2=none->(∀ c o,H c=some o->c≠k->ClrK c H' k tl sa la bl2 zs2)->Q .non H'
theorem Wq:zB ["self","rule","b"] ["self","rule","b"] (zq ur):={}
theorem zcd {qS qB:Addr} {f f1 f2 f3 f4:Addr} {fd fd1 fd2 fd3 fd4:FuncData} (D:Mt K CK "Keeper.__init__" "__init__" ur Ap f fd) (yo:Df K mg "check_rule" wy Aa f1 fd1) (yC:FnOk P w K mg base (CX1 P w) 7 f1 fd1 Aa (wI qS)) (yt:Df K mg "check_number" xV Aa f2 fd2) (yI:FnOk P w K mg base (CX1 P w) 3 f2 fd2 Aa (wD qB)) (jj:Df K mg "copy_of" jd Ag f3 fd3) (Z1:FnOk P w K mg base CX0 1 f3 fd3 Ag Yu)
  (qz:Mk K C f4) (qF:Binds K fd4 ["self","rule"] []) (yD:FnOk P w K mg base CX0 7 f4 fd4 Aj (jA T0 C)) (zE:ClT K mg C) (cKeeper:ClK K mg CK):FnOk P w K mg base (CX1 P w) 9 f fd Ap (Wi T0 C CK qS qB):=by
 refine D.fn.ok1 Wq (λvs H Q E h=>?_) (λcdv A outer s H vs Q E hr h=>?_)
 ·obtain⟨k,dx,v,u,d,e,rfl,_⟩:=h;rfl
 ·obtain⟨k,dx,v,u,d,e,rfl,hk,hd,he,hs,hT,kR,kN,kG⟩:=h
  refine⟨_,(zp (vg (jq yo yC (hr.mono (by decide)) ZS (zf (pv 1) zg)))
   (zp (vg (jq yt yI (hr.mono (by decide)) ZS (zf (pv 2) zg)))
   (zp (Zo (pv 0) (zW (wU K) (pv 1) zr (λ_ _=>rfl)) rfl)
   (zp (Zo (pv 0) (zW (wU K) (zJ jj Z1 (hr.mono (by decide)) (zf (pv 1) zg)) zr (λ_ _=>rfl)) rfl)
   (zp (Zo (pv 0) (pv 2) rfl)
   (zu (Zo (pv 0) (Xl qz yD (hr.mono (by decide)) rfl zE.nm qF .nil W7 (zf (pv 1) zg)) rfl))))))),?_⟩
  refine⟨_,rfl,v,d,rfl,hd,hs,kR,λhru H1 m1=>?_⟩
  refine⟨_,rfl,u,e,rfl,he.same m1,λhn=>kN hru hn H1 m1,λhnum=>?_⟩
  obtain⟨r,b,bl,zs,rfl,R,g⟩:=zeX hd hru
  obtain⟨bd,rfl,rfl⟩:=zel he hnum
  have kk:=kG r b bl zs bd rfl R g rfl
  have h4:zs.length<=4:=by have:=g.len;rwa [List.length_map] at this
  have hk1:=m1 _ _ hk
  have R1:=R.same m1
  have T1:=hT.same m1
  have rk:r≠k:=tY R1.tu hk1 (λz=>nomatch z)
  have lk:∀ {c:Addr} {xs:List V},H1 c=some (.lst xs)->c≠k:=λh=>tY h hk1 (λz=>nomatch z)
  refine⟨_,rfl,r,_,_,V.int b,rfl,rfl,SqT.of R1.tu,rfl,_,rfl,k,CK,dx,_,rfl,hk1,cKeeper.cl,cKeeper.n_base,(by show 0<1000;decide),?_⟩
  have R2:RuleAt (upd H1 k (.ins CK dx (zU "base" (.int b) []))) r b bl zs:=⟨by rw [zy rk];exact R1.tu,by rw [zy (lk R1.li)];exact R1.li,λz hz=>by rw [zy (lk (R1.st z hz))];exact R1.st z hz⟩
  have T2:=T1.putI (o:=.ins CK dx (zU "base" (.int b) [])) hk1
  have hk2:upd H1 k (.ins CK dx (zU "base" (.int b) [])) k=some (.ins CK dx (zU "base" (.int b) [])):=zj
  have n2:∀ c o,c≠k->H c=some o->upd H1 k (.ins CK dx (zU "base" (.int b) [])) c=some o:=λc o hc e=>by rw [zy hc];exact m1 c o e
  generalize upd H1 k (.ins CK dx (zU "base" (.int b) []))=H2 at R2 T2 hk2 n2
  refine⟨_,rfl,r,b,bl,zs,rfl,R2,by omega,λr3 bl3 zs3 H3 s3 R3 e3 nb3 nr3 nz3=>?_⟩
  have hk3:=s3 _ _ hk2
  refine⟨r3,_,_,V.ref bl3,rfl,rfl,SqT.of R3.tu,rfl,_,rfl,k,CK,dx,_,rfl,hk3,cKeeper.cl,cKeeper.n_bad,(by show 1<1000;decide),?_⟩
  refine⟨_,rfl,_,rfl,k,CK,dx,_,rfl,zj,cKeeper.cl,cKeeper.n_bound,(by show 2<1000;decide),?_⟩
  rw [zcq]
  have lk3:∀ {c:Addr} {xs:List V},H3 c=some (.lst xs)->c≠k:=λh=>tY h hk3 (λz=>nomatch z)
  have R2':=R2.same s3
  have R4:RuleAt (upd H3 k (.ins CK dx (zU "bound" (.int bd) (zU "bad" (.ref bl3) (zU "base" (.int b) []))))) r b bl zs:=⟨by rw [zy rk];exact R2'.tu,by rw [zy (lk3 R2'.li)];exact R2'.li,λz hz=>by rw [zy (lk3 (R2'.st z hz))];exact R2'.st z hz⟩
  have T4:=(T2.same s3).putI (o:=.ins CK dx (zU "bound" (.int bd) (zU "bad" (.ref bl3) (zU "base" (.int b) [])))) hk3
  have hk4:upd H3 k (.ins CK dx (zU "bound" (.int bd) (zU "bad" (.ref bl3) (zU "base" (.int b) [])))) k=some (.ins CK dx (zU "bound" (.int bd) (zU "bad" (.ref bl3) (zU "base" (.int b) [])))):=zj
  have n4:∀ c o,c≠k->H3 c=some o->upd H3 k (.ins CK dx (zU "bound" (.int bd) (zU "bad" (.ref bl3) (zU "base" (.int b) [])))) c=some o:=λc o hc e=>by rw [zy hc];exact e
  have f4:∀ c,upd H3 k (.ins CK dx (zU "bound" (.int bd) (zU "bad" (.ref bl3) (zU "base" (.int b) [])))) c=none->H c=none:=λc hc=>by
   have hck:c≠k:=λz=>by rw [z,zj] at hc;cases hc
   rw [zy hck] at hc
   cases e:H c with
   | none=>rfl
   | some o=>rw [s3 _ _ (n2 c o hck e)] at hc;cases hc
  generalize upd H3 k (.ins CK dx (zU "bound" (.int bd) (zU "bad" (.ref bl3) (zU "base" (.int b) []))))=H4 at R4 T4 hk4 n4 f4
  refine⟨_,rfl,?_⟩
  refine Um R4 g T4 ?_
  rintro tl H5 ⟨la,ws,TA5,G,m5,T5,hla,ntl4,dt,sa,htl,hsa,nrs⟩
  have npT:k≠T0:=λz=>by
   rw [z] at hk4
   rcases T4 with h | ⟨c,h,_⟩
   ·rw [h] at hk4;cases hk4
   ·rw [h] at hk4;cases hk4
  have hk5:=m5 _ _ npT hk4
  have tlk:tl≠k:=λz=>by
   rw [z,hk5] at htl
   injection htl with e
   injection e with _ _ e
   have:=ym b ws.length sa la
   rw [<- e] at this
   rw [zG,if_neg (by decide +kernel),zG,if_neg (by decide +kernel),zG,if_neg (by decide +kernel)] at this
   cases this
  refine⟨_,rfl,k,CK,dx,_,rfl,hk5,cKeeper.cl,cKeeper.n_tails,(by show 3<1000;decide),?_⟩
  have hbl4:=n4 _ _ (lk3 R3.li) R3.li
  have hbl5:=m5 _ _ (T4.lst hbl4) hbl4
  have lk5:∀ {c:Addr} {xs:List V},H5 c=some (.lst xs)->c≠k:=λh=>tY h hk5 (λz=>nomatch z)
  have hz5:∀ z∈zs3,H5 z.1=some (.lst (z.2.map V.int)):=λz hz=>m5 _ _ (T4.lst (n4 _ _ (lk3 (R3.st z hz)) (R3.st z hz))) (n4 _ _ (lk3 (R3.st z hz)) (R3.st z hz))
  rw [<- e3] at G TA5
  have hblH:H bl3=none:=by
   cases e:H bl3 with
   | none=>rfl
   | some o =>
    rw [n2 bl3 o (lk3 R3.li) e] at nb3;cases nb3
  refine kk tl sa la bl3 zs3 ws 1 _ ⟨⟨dx,by rw [zj];rfl⟩,by rw [zy (lk5 hbl5)];exact hbl5,λz hz=>by rw [zy (lk5 (hz5 z hz))];exact hz5 z hz,TA5.updI hk5 tlk,⟨dt,by rw [zy tlk];exact htl⟩,G,zx hbl4 hla,by decide⟩ e3 (λc o hc hcT e=>?_) (T5.putI hk5) (f4 _ hla) (f4 _ hsa) hblH (λc o e hc=>?_)
  ·rw [zy hc]
   exact m5 c o hcT (n4 c o hc (s3 c o (n2 c o hc e)))
  ·obtain⟨o4,e4⟩:∃ o4,H4 c=some o4:=by
    cases e':H4 c with
    | none=>rw [f4 c e'] at e;cases e
    | some o4=>exact⟨o4,rfl⟩
   have h2c:=n2 c o hc e
   have lak:la≠k:=λz=>by rw [z,hk4] at hla;cases hla
   have sak:sa≠k:=λz=>by rw [z,hk4] at hsa;cases hsa
   obtain⟨r1,r2⟩:=nrs c o4 e4
   exact⟨hc,zx e4 ntl4,zx e4 hsa,zx e4 hla,zx e hblH,λz hz=>zx h2c (nz3 z hz).1,λxs hx=>r1 xs (by rwa [zy lak] at hx),λxs hx=>r2 xs (by rwa [zy sak] at hx)⟩
end
section
variable {P:Program} {w:World} {K:W.Frag} {mg:Str->Option Value} {base:Heap} {C:Addr}
def YC (C:Addr):Sp:=λvs H Q _=>∃ (p la:Addr) (b:Nat) (ls ws:ZA) (L k:Nat),vs=[.ref p,.int k]/\TailsAt C H p la b ls ws L/\GoodT b ls ws/\L<=1000/\k<many (gd ls b) (b^60) /\
 ∀ n:Nat,gd ls b n=true->many (gd ls b) n=k->TQ C H p la b ls ws L λL' H'=>L'<=1000->Q (.int n) H'
theorem QR:zB ["tails","k","size"] ["tails","k"] (zq ZZ):={}
theorem zb8 {qB f f1 f2 f3:Addr} {fd fd1 fd2 fd3:FuncData} {t1:Tok} (D:Df K mg "good_at" ZZ Au f fd) (yt:Df K mg "check_number" xV Aa f1 fd1) (yI:FnOk P w K mg base (CX1 P w) 3 f1 fd1 Aa (wD qB)) (ww:Mt K C "Tails.many_within" "many_within" xU Az f2 fd2) (vZ:FnOk P w K mg base CX0 3 f2 fd2 Az (jH C))
  (vp:Mt K C "Tails.number_at" "number_at" wM A8 f3 fd3) (uX:FnOk P w K mg base CX0 5 f3 fd3 A8 (Yw C)) (zE:ClT K mg C) (jM:mg "MOST_FIGURES" = some (.int 60 t1)) (T:Blt mg):FnOk P w K mg base CX0 6 f fd Au (YC C):=by
 refine D.fn.ok QR (λvs H Q E h=>?_) (λcdv A outer s H vs Q E hr h=>?_)
 ·obtain⟨p,la,b,ls,ws,L,k,rfl,_⟩:=h;rfl
 ·obtain⟨p,la,b,ls,ws,L,k,rfl,TA,G,hL,hpre,kk⟩:=h
  have b2:=G.g.b2
  refine⟨_,(zp (vg (jq yt yI (hr.mono (by decide)) JH (zf (pv 1) zg)))
   (zp (Zi PassesOwn.never rfl (xg rfl T.n_range (zf (zN wJ (yH (v:=.int 60) rfl jM ⟨_,rfl⟩) zr) zg)) (yV (i:=2) QR.nd rfl (Or.inl rfl))
    (zu (yE (zP zba (vQ ww zE.cl vZ (hr.mono (by decide)) (pv 0) (zf (pv 2) zg)) (pv 1) (zV _))
     (zu (zF (vQ vp zE.cl uX (hr.mono (by decide)) (pv 0) (zf (pv 2) (zf (pv 1) zg)))))
     zT)))
   zcW)),?_⟩
  refine⟨_,rfl,.int k,.int k,rfl,by rw [ThAt],λz=>UW z,λ_=>?_⟩
  refine⟨_,_,rfl,rfl,61,rfl,by decide,by decide,uh (lo:=0) (n:=61) (λi σ H2=>∃ (v2:Option V) (L':Nat),σ=[some (.ref p),some (.int k),v2]/\(∀ j,j<i->many (gd ls b) (b^j)<=k)/\L<=L'/\L'<=1000/\TailsAt C H2 p la b ls ws L'/\Same (aw [la] H) (aw [la] H2)/\NR la H H2) ⟨none,L,rfl,λj hj=>by omega,Nat.le_refl _,hL,TA,Same.refl _,NR.refl _ _⟩ ?_ ?_⟩
  ·rintro i σ H2 hi ⟨v2,L',rfl,hno,hLL,hL',TA2,m2,nr2⟩
   obtain⟨dx2,sa2,hp2⟩:=TA2.obj
   refine⟨_,rfl,p,dx2,_,rfl,hp2,vX _ _ _ _,_,rfl,p,la,b,ls,ws,L',i,by rw [Int.zero_add];rfl,TA2,G,hL',by omega,λL3 H3 hL3 TA3 m3 nr3 hmx=>?_⟩
   rw [VD G.ne b2]
   refine⟨_,rfl,_,_,rfl,rfl,_,rfl,?_⟩
   refine zbw (λh1=>?_) (λh1=>?_)
   ·have h1':k<many (gd ls b) (b^i):=by have:=of_decide_eq_true h1;omega
    obtain⟨dx3,sa3,hp3⟩:=TA3.obj
    refine⟨_,rfl,p,dx3,_,rfl,hp3,vX _ _ _ _,_,rfl,_,rfl,p,la,b,ls,ws,L3,i,k,by rw [Int.zero_add];rfl,TA3,G,by omega,by omega,h1',λn hg hm hnb L4 H4 hL4 TA4 m4 nr4 hL4'=>?_⟩
    exact kk n hg hm L4 H4 (by omega) TA4 (m2.trans (m3.trans m4)) (nr2.trans m2 (nr3.trans m3 nr4)) hL4'
   ·have h1':many (gd ls b) (b^i)<=k:=by
     by_cases z:many (gd ls b) (b^i)<=k
     ·exact z
     ·exact absurd (decide_eq_true (by omega:((k:Nat):Int)<(many (gd ls b) (b^i):Nat))) h1
    refine⟨_,L3,rfl,λj hj=>?_,by omega,by omega,TA3,m2.trans m3,nr2.trans m2 nr3⟩
    by_cases hji:j<i
    ·exact hno j hji
    ·rw [show j=i by omega];exact h1'
  ·rintro σ H2 ⟨v2,L',rfl,hno,hLL,hL',TA2,m2,nr2⟩
   have h60:=hno 60 (by decide)
   omega
end
section
variable {P:Program} {w:World} {K:W.Frag} {mg:Str->Option Value} {base:Heap} {T0 C CK:Addr}
def Uo (T0 C CK:Addr):Sp:=λvs H Q _=>∃ (k tl sa la:Addr) (b bd:Nat) (bl:Addr) (zs:ZB) (ws:ZA) (L n:Nat),vs=[.ref k,.int n]/\KpAt C CK H k tl sa la b bd bl zs ws L/\n<many (gd (zs.map (·.2)) b) (b^60)/\LT T0 H /\
 ∀ (g L':Nat) (H':Hp),gd (zs.map (·.2)) b g=true->many (gd (zs.map (·.2)) b) g=n->KpAt C CK H' k tl sa la b bd bl zs ws L'->Same (aw [la] H) (aw [la] H')->LT T0 H'->KpS H H' k tl sa la bl zs->Q (.int g) H'
theorem Q8:zB ["self","k"] ["self","k"] (zq tO):={}
theorem ze8 {f f1:Addr} {fd fd1:FuncData} (D:Mt K CK "Keeper.good" "good" tO A3 f fd) (jU:Df K mg "good_at" ZZ Au f1 fd1) (ZJ:FnOk P w K mg base CX0 6 f1 fd1 Au (YC C)) (cKeeper:ClK K mg CK):FnOk P w K mg base CX0 7 f fd A3 (Uo T0 C CK):=by
 refine D.fn.ok Q8 (λvs H Q E h=>?_) (λcdv A outer s H vs Q E hr h=>?_)
 ·obtain⟨k,tl,sa,la,b,bd,bl,zs,ws,L,n,rfl,_⟩:=h;rfl
 ·obtain⟨k,tl,sa,la,b,bd,bl,zs,ws,L,n,rfl,KA,hn,hT,kk⟩:=h
  obtain⟨dx,hk⟩:=KA.ob
  obtain⟨xs,hla⟩:=KA.ta.la
  refine⟨_,(zu (zF (zJ jU ZJ (hr.mono (by decide)) (zf (xQ K (pv 0)) (zf (pv 1) zg))))),?_⟩
  refine⟨_,rfl,k,CK,dx,_,_,rfl,hk,cKeeper.cl,cKeeper.n_tails,Qg _ _ _ _,_,rfl,tl,la,b,_,ws,L,n,rfl,KA.ta,KA.gt,KA.l,hn,λg hg hm L2 H2 hL2 TA2 m2 nr2 hL'=>?_⟩
  refine kk g L2 H2 hg hm (KA.more TA2 m2 hL') m2 (hT.off hla m2) λc o e q=>?_
  obtain⟨_,hs⟩:=KA.sas
  exact⟨q.nk,q.ntl,q.nsa,q.nla,q.nbl,q.nz,nr2 c o q.nla e q.rla,q.rsa.same hs (XS m2 KA.sla hs)⟩
def uy (T0:Addr):Sp:=λvs H Q _=>∃ (r:Addr) (b:Nat) (bl:Addr) (zs:ZB) (n:Nat),vs=[.ref r,.int n]/\RuleAt H r b bl zs/\GoodRule b (zs.map (·.2))/\n<2^900/\LT T0 H/\∀ H',SameL T0 H H'->LT T0 H'->Q (.int (many (gd (zs.map (·.2)) b) n:Nat)) H'
theorem Qp:zB ["rule","n"] ["rule","n"] (zq vI):={}
theorem U3 {qS qA qB:Addr} {f f1 f2 f3 f4:Addr} {fd fd1 fd2 fd3 fd4:FuncData} (D:Df K mg "count_below" vI Ah f fd) (yo:Df K mg "check_rule" wy Aa f1 fd1) (yC:FnOk P w K mg base (CX1 P w) 7 f1 fd1 Aa (wI qS)) (yZ:Df K mg "figures_of" wZ Ao f2 fd2) (xF:FnOk P w K mg base (CX1 P w) 4 f2 fd2 Ao (vH qA qB))
  (qz:Mk K C f3) (qF:Binds K fd3 ["self","rule"] []) (yD:FnOk P w K mg base CX0 7 f3 fd3 Aj (jA T0 C)) (yu:Mt K C "Tails.many_below" "many_below" xq As f4 fd4) (yR:FnOk P w K mg base CX0 4 f4 fd4 As (tE C)) (zE:ClT K mg C):FnOk P w K mg base CX0 9 f fd Ah (uy T0):=by
 refine D.fn.ok Qp (λvs H Q E h=>?_) (λcdv A outer s H vs Q E hr h=>?_)
 ·obtain⟨r,b,bl,zs,n,rfl,_⟩:=h;rfl
 ·obtain⟨r,b,bl,zs,n,rfl,R,g,hn,hT,kk⟩:=h
  obtain⟨d,td,rd,fit⟩:=R.thing g
  have hsz:vD d<=100000:=Nat.le_trans (Wn d) (Nat.le_trans fit.wt (by decide))
  refine⟨_,(zp (vg (jq yo yC (hr.mono (by decide)) JH (zf (pv 0) zg)))
   (zu (zF (vQ yu zE.cl yR (hr.mono (by decide)) (Xl qz yD (hr.mono (by decide)) rfl zE.nm qF .nil W7 (zf (pv 0) zg)) (zf (jq yZ xF (hr.mono (by decide)) JH (zf (zW (wU K) (pv 0) zr (λ_ _=>rfl)) (zf (pv 1) zg))) zg))))),?_⟩
  refine⟨_,rfl,.ref r,d,rfl,td,hsz,λz=>absurd (rd.symm.trans z) (by decide),λ_ H1 m1=>?_⟩
  refine⟨_,rfl,?_⟩
  refine Um (R.same m1) g (hT.same m1) ?_
  rintro x H2 ⟨la,ws,TA,G,mL,hT2,hla,_⟩
  obtain⟨dx2,sa2,hp2⟩:=TA.obj
  have R2:=(R.same m1).sameL (hT.same m1) mL
  refine⟨x,dx2,_,rfl,hp2,vX _ _ _ _,?_⟩
  refine⟨_,rfl,r,_,_,V.int b,rfl,rfl,SqT.of R2.tu,rfl,_,rfl,.int b,.int n,.int b,.int n,rfl,by rw [ThAt],by rw [ThAt],λz=>zau g.b2 g.b16 z,λ_ z=>UW z,λb' n' eb _ _ en=>?_⟩
  obtain rfl:b=b':=by injection eb with eb;omega
  obtain rfl:n=n':=by injection en with en;omega
  refine⟨hn,λl H3 hl hv m3=>?_⟩
  obtain⟨xs,hla2⟩:=TA.la
  have nl:l≠la:=λz=>by rw [z,hla2] at hl;cases hl
  refine⟨x,la,b,_,ws,1,l,n,rfl,TA.same m3,G,by decide,by rw [zO (by simpa using nl)];exact hv,hn,λL4 H4 hL4 TA4 m4 nr4 hL4'=>?_⟩
  have mL3:SameL T0 H1 H3:=mL.trans (.of m3)
  have mL4:=J2 mL3 hla m4
  exact kk H4 ((SameL.of m1).trans mL4) ((hT2.same m3).off (m3 _ _ hla2) m4)
def Wc (T0:Addr):Sp:=λvs H Q _=>∃ (r:Addr) (b:Nat) (bl:Addr) (zs:ZB) (n:Nat),vs=[.ref r,.int n]/\RuleAt H r b bl zs/\GoodRule b (zs.map (·.2))/\n<many (gd (zs.map (·.2)) b) (b^60)/\LT T0 H/\∀ (g:Nat) (H':Hp),gd (zs.map (·.2)) b g=true->many (gd (zs.map (·.2)) b) g=n->SameL T0 H H'->LT T0 H'->Q (.int g) H'
theorem zcb:zB ["rule","k"] ["rule","k"] (zq Xk):={}
theorem zbG {qS:Addr} {f f1 f2 f3:Addr} {fd fd1 fd2 fd3:FuncData} (D:Df K mg "good_by" Xk A4 f fd) (yo:Df K mg "check_rule" wy Aa f1 fd1) (yC:FnOk P w K mg base (CX1 P w) 7 f1 fd1 Aa (wI qS)) (jU:Df K mg "good_at" ZZ Au f2 fd2) (ZJ:FnOk P w K mg base CX0 6 f2 fd2 Au (YC C))
  (qz:Mk K C f3) (qF:Binds K fd3 ["self","rule"] []) (yD:FnOk P w K mg base CX0 7 f3 fd3 Aj (jA T0 C)) (zE:ClT K mg C):FnOk P w K mg base CX0 9 f fd A4 (Wc T0):=by
 refine D.fn.ok zcb (λvs H Q E h=>?_) (λcdv A outer s H vs Q E hr h=>?_)
 ·obtain⟨r,b,bl,zs,n,rfl,_⟩:=h;rfl
 ·obtain⟨r,b,bl,zs,n,rfl,R,g,hn,hT,kk⟩:=h
  obtain⟨d,td,rd,fit⟩:=R.thing g
  have hsz:vD d<=100000:=Nat.le_trans (Wn d) (Nat.le_trans fit.wt (by decide))
  refine⟨_,(zp (vg (jq yo yC (hr.mono (by decide)) JH (zf (pv 0) zg)))
   (zu (zF (zJ jU ZJ (hr.mono (by decide)) (zf (Xl qz yD (hr.mono (by decide)) rfl zE.nm qF .nil W7 (zf (pv 0) zg)) (zf (pv 1) zg)))))),?_⟩
  refine⟨_,rfl,.ref r,d,rfl,td,hsz,λz=>absurd (rd.symm.trans z) (by decide),λ_ H1 m1=>?_⟩
  refine⟨_,rfl,?_⟩
  refine Um (R.same m1) g (hT.same m1) ?_
  rintro x H3 ⟨la,ws,TA,G,mL,hT3,hla,_⟩
  obtain⟨xs,hla3⟩:=TA.la
  exact⟨_,rfl,x,la,b,_,ws,1,n,rfl,TA,G,by decide,hn,λv hg hm L4 H4 hL4 TA4 m4 nr4 hL4'=>kk v H4 hg hm (J2 ((SameL.of m1).trans mL) (m1.free hla) m4) (hT3.off hla3 m4)⟩
theorem KpAt.ila {H:Hp} {k tl sa la:Addr} {b bd:Nat} {bl:Addr} {zs:ZB} {ws:ZA} {L:Nat} (A:KpAt C CK H k tl sa la b bd bl zs ws L) {c:Addr} {ns:List Int} (h:H c=some (.lst (ns.map V.int))) (hne:ns≠[]):c≠la:=λe=>by
 obtain⟨lrs,h1,_,h3⟩:=A.ta.ly
 rw [e,h1] at h
 injection h with h
 injection h with h
 cases hz2:ns with
 | nil=>exact hne hz2
 | cons x y =>
  rw [hz2] at h
  cases lrs with
  | nil=>cases h
  | cons x' y'=>injection h with h _;cases h
theorem Off.trans {T k la la1:Addr} {H H1 H2:Hp} (a:Off T k la H H1) (b:Off T k la1 H1 H2) (h:H la1=none\/la1=la):Off T k la H H2:=λc o h1 h2 h3 e=>b c o h1 (λz=>by
 rcases h with h | h
 ·rw [z,h] at e;cases e
 ·exact h2 (z.trans h)) h3 (a c o h1 h2 h3 e)
theorem Off.of {T k la:Addr} {H H':Hp} (m:Same H H'):Off T k la H H':=λc o _ _ _ e=>m c o e
theorem Off.aw {T k la:Addr} {H H':Hp} (m:Same (aw [la] H) (aw [la] H')):Off T k la H H':=λc o _ h _ e=>by
 have hc':c∉[la]:=by simpa using h
 have:=m c o (by rw [zO hc'];exact e)
 rwa [zO hc'] at this
def Yo (T0 C CK:Addr):Sp:=λvs H Q _=>∃ (k tl sa la:Addr) (b bd:Nat) (bl:Addr) (zs:ZB) (ws:ZA) (L:Nat) (bl2:Addr) (zs2:ZB),vs=[.ref k,.ref bl2]/\KpAt C CK H k tl sa la b bd bl zs ws L/\bd<2^900/\LT T0 H/\H bl2=some (.lst (zs2.map λz=>V.ref z.1))/\(∀ z∈zs2,H z.1=some (.lst (z.2.map V.int)))/\GoodRule b (zs2.map (·.2))/\bl2≠la /\
 ∀ (p tl2 sa2 la2:Addr) (ws2:ZA) (L2:Nat) (H':Hp),H p=none->H' p=some (.tup [.int (many (gd (zs.map (·.2)) b) bd:Nat),.int (many (gd (zs2.map (·.2)) b) bd:Nat)])->KpAt C CK H' k tl2 sa2 la2 b bd bl2 zs2 ws2 L2->Off T0 k la H H'->LT T0 H'->H la2=none->H sa2=none->p≠la2->(∀ c o,H c=some o->c≠k->c≠bl2->(∀ z∈zs2,c≠z.1)->ClrK c H' k tl2 sa2 la2 bl2 zs2)->Q (.ref p) H'
theorem j5:zB ["self","bad","before"] ["self","bad"] (zq xW):={}
theorem zb1 {f f1 f4:Addr} {fd fd1 fd4:FuncData} (D:Mt K CK "Keeper.turn_to" "turn_to" xW Av f fd) (MKeeper_below:Mt K CK "Keeper.below" "below" wO Ak f1 fd1) (GKeeper_below:FnOk P w K mg base CX0 5 f1 fd1 Ak (ZR T0 C CK)) (qz:Mk K C f4) (qF:Binds K fd4 ["self","rule"] []) (yD:FnOk P w K mg base CX0 7 f4 fd4 Aj (jA T0 C)) (zE:ClT K mg C) (cKeeper:ClK K mg CK):FnOk P w K mg base CX0 9 f fd Av (Yo T0 C CK):=by
 refine D.fn.ok j5 (λvs H Q E h=>?_) (λcdv A outer s H vs Q E hr h=>?_)
 ·obtain⟨k,tl,sa,la,b,bd,bl,zs,ws,L,bl2,zs2,rfl,_⟩:=h;rfl
 ·obtain⟨k,tl,sa,la,b,bd,bl,zs,ws,L,bl2,zs2,rfl,KA,hbd,hT,hb2,hz2,g2,bla,kk⟩:=h
  obtain⟨dx,hk⟩:=KA.ob
  refine⟨_,(zp (zH (i:=2) j5.nd rfl (Or.inl rfl) (vQ MKeeper_below cKeeper.cl GKeeper_below (hr.mono (by decide)) (pv 0) (zf (xQ K (pv 0)) zg)))
   (zp (Zo (pv 0) (pv 1) rfl)
   (zp (Zo (pv 0) (Xl qz yD (hr.mono (by decide)) rfl zE.nm qF .nil W7 (zf (qG (zf (xQ K (pv 0)) (zf (pv 1) zg))) zg)) rfl)
   (zu (zF (qG (zf (pv 2) (zf (vQ MKeeper_below cKeeper.cl GKeeper_below (hr.mono (by decide)) (pv 0) (zf (xQ K (pv 0)) zg)) zg)))))))),?_⟩
  refine⟨_,rfl,k,dx,_,rfl,hk,xK _ _ _ _,_,rfl,k,CK,dx,_,_,rfl,hk,cKeeper.cl,cKeeper.n_bound,QH _ _ _ _,k,tl,sa,la,b,bd,bl,zs,ws,L,bd,rfl,KA,hbd,hT,λL1 H1 KA1 m1 T1 _=>?_⟩
  obtain⟨dx1,hk1⟩:=KA1.ob
  have O1:Off T0 k la H H1:=Off.aw m1
  have go1:∀ c o,c≠la->H c=some o->H1 c=some o:=λc o hc e=>by
   have hc':c∉[la]:=by simpa using hc
   have:=m1 c o (by rw [zO hc'];exact e)
   rwa [zO hc'] at this
  have hb1:=go1 _ _ bla hb2
  have hz1:∀ z∈zs2,H1 z.1=some (.lst (z.2.map V.int)):=λz hz=>go1 _ _ (KA.ila (hz2 z hz) (g2.st z.2 (List.mem_map.mpr ⟨z,hz,rfl⟩)).ne) (hz2 z hz)
  have f1:∀ c,H1 c=none->H c=none:=λc hc=>by
   cases e:H c with
   | none=>rfl
   | some o =>
    by_cases z:c=la
    ·obtain⟨lx,hx⟩:=KA1.ta.la
     rw [z,hx] at hc;cases hc
    ·rw [go1 c o z e] at hc;cases hc
  refine⟨_,rfl,_,rfl,k,CK,dx1,_,rfl,hk1,cKeeper.cl,cKeeper.n_bad,Nat.lt_of_le_of_lt (zbn _ _ _ _) (by decide),?_⟩
  rw [zbd]
  have lk1:∀ {c:Addr} {xs:List V},H1 c=some (.lst xs)->c≠k:=λh=>tY h hk1 (λz=>nomatch z)
  have hk2:upd H1 k (.ins CK dx1 (vC b bl2 bd tl)) k=some (.ins CK dx1 (vC b bl2 bd tl)):=zj
  have T2:=T1.putI (o:=.ins CK dx1 (vC b bl2 bd tl)) hk1
  have n2:∀ c o,c≠k->H1 c=some o->upd H1 k (.ins CK dx1 (vC b bl2 bd tl)) c=some o:=λc o hc e=>by rw [zy hc];exact e
  have f2:∀ c,upd H1 k (.ins CK dx1 (vC b bl2 bd tl)) c=none->H c=none:=λc hc=>by
   have hck:c≠k:=λz=>by rw [z,zj] at hc;cases hc
   rw [zy hck] at hc
   exact f1 c hc
  generalize upd H1 k (.ins CK dx1 (vC b bl2 bd tl))=H2 at hk2 T2 n2 f2
  refine⟨_,rfl,k,CK,dx1,_,_,rfl,hk2,cKeeper.cl,cKeeper.n_base,ZW _ _ _ _,_,rfl,(by show 2<=sizeLine;decide),λt ht=>?_⟩
  have s3:=zm ht (o:=.tup [.int b,.ref bl2])
  have hb3:=s3 _ _ (n2 _ _ (lk1 hb1) hb1)
  have hz3:∀ z∈zs2,upd H2 t (.tup [.int b,.ref bl2]) z.1=some (.lst (z.2.map V.int)):=λz hz=>s3 _ _ (n2 _ _ (lk1 (hz1 z hz)) (hz1 z hz))
  have T3:=T2.same s3
  refine Um ⟨zj,hb3,hz3⟩ g2 T3 ?_
  have hk3:=s3 _ _ hk2
  generalize upd H2 t (.tup [.int b,.ref bl2])=H3 at s3 hb3 hz3 T3 hk3
  rintro tl2 H4 ⟨la2,ws2,TA4,G,m4,T4,hla2,ntl3,dt,sa2,htl,hsa2,nrs⟩
  have npT:k≠T0:=λz=>by
   rw [z] at hk3
   rcases T3 with h | ⟨c,h,_⟩
   ·rw [h] at hk3;cases hk3
   ·rw [h] at hk3;cases hk3
  have hk4:=m4 _ _ npT hk3
  have tlk:tl2≠k:=λz=>by
   rw [z,hk4] at htl
   injection htl with e
   injection e with _ _ e
   have:=ym b ws2.length sa2 la2
   rw [<- e,xK] at this
   cases this
  have hb4:=m4 _ _ (T3.lst hb3) hb3
  have hz4:∀ z∈zs2,H4 z.1=some (.lst (z.2.map V.int)):=λz hz=>m4 _ _ (T3.lst (hz3 z hz)) (hz3 z hz)
  have lk4:∀ {c:Addr} {xs:List V},H4 c=some (.lst xs)->c≠k:=λh=>tY h hk4 (λz=>nomatch z)
  refine⟨_,rfl,k,CK,dx1,_,rfl,hk4,cKeeper.cl,cKeeper.n_tails,Nat.lt_of_le_of_lt (zbn _ _ _ _) (by decide),?_⟩
  rw [Jm]
  have KA5:KpAt C CK (upd H4 k (.ins CK dx1 (vC b bl2 bd tl2))) k tl2 sa2 la2 b bd bl2 zs2 ws2 1:=⟨⟨dx1,zj⟩,by rw [zy (lk4 hb4)];exact hb4,λz hz=>by rw [zy (lk4 (hz4 z hz))];exact hz4 z hz,TA4.updI hk4 tlk,⟨dt,by rw [zy tlk];exact htl⟩,G,zx hb3 hla2,by decide⟩
  have T5:=T4.putI (o:=.ins CK dx1 (vC b bl2 bd tl2)) hk4
  have O5:Off T0 k la H (upd H4 k (.ins CK dx1 (vC b bl2 bd tl2))):=λc o h1 h2 h3 e=>by rw [zy h1];exact m4 c o h3 (s3 _ _ (n2 c o h1 (go1 c o h2 e)))
  have f5:∀ c,upd H4 k (.ins CK dx1 (vC b bl2 bd tl2)) c=none->H3 c=none:=λc hc=>by
   have hck:c≠k:=λz=>by rw [z,zj] at hc;cases hc
   rw [zy hck] at hc
   cases e:H3 c with
   | none=>rfl
   | some o =>
    by_cases z:c=T0
    ·rw [z] at hc
     exact absurd rfl (T4.none hc)
    ·rw [m4 c o z e] at hc;cases hc
  have fr:∀ c,H3 c=none->H c=none:=λc hc=>f2 c (s3.free hc)
  have CL5:∀ c o,H c=some o->c≠k->c≠bl2->(∀ z∈zs2,c≠z.1)->ClrK c (upd H4 k (.ins CK dx1 (vC b bl2 bd tl2))) k tl2 sa2 la2 bl2 zs2:=λc o e hc hb hz=>by
   obtain⟨o3,e3⟩:∃ o3,H3 c=some o3:=by
    cases e':H3 c with
    | none=>rw [fr c e'] at e;cases e
    | some o3=>exact⟨o3,rfl⟩
   have lak:la2≠k:=λz=>by rw [z,hk3] at hla2;cases hla2
   have sak:sa2≠k:=λz=>by rw [z,hk3] at hsa2;cases hsa2
   obtain⟨r1,r2⟩:=nrs c o3 e3
   exact⟨hc,zx e3 ntl3,zx e3 hsa2,zx e3 hla2,hb,hz,λxs hx=>r1 xs (by rwa [zy lak] at hx),λxs hx=>r2 xs (by rwa [zy sak] at hx)⟩
  generalize upd H4 k (.ins CK dx1 (vC b bl2 bd tl2))=H5 at KA5 T5 O5 f5 CL5
  obtain⟨dx5,hk5⟩:=KA5.ob
  refine⟨_,rfl,_,rfl,k,dx5,_,rfl,hk5,xK _ _ _ _,_,rfl,k,CK,dx5,_,_,rfl,hk5,cKeeper.cl,cKeeper.n_bound,QH _ _ _ _,k,tl2,sa2,la2,b,bd,bl2,zs2,ws2,1,bd,rfl,KA5,hbd,T5,λL6 H6 KA6 m6 T6 ks6=>⟨(by show 2<=sizeLine;decide),λp hp=>?_⟩⟩
  have s7:=zm hp (o:=.tup [.int (many (gd (zs.map (·.2)) b) bd:Nat),.int (many (gd (zs2.map (·.2)) b) bd:Nat)])
  have O6:=(O5.trans (Off.aw (T:=T0) (k:=k) m6) (.inl (fr _ hla2)))
  obtain⟨lx6,hlx6⟩:=KA6.ta.la
  have pla:p≠la2:=λz=>by rw [z,hlx6] at hp;cases hp
  have hp5:H5 p=none:=by
   cases e:H5 p with
   | none=>rfl
   | some o =>
    have:=Off.aw (T:=T0) (k:=k) m6
    have hc':p∉[la2]:=by simpa using pla
    have:=m6 p o (by rw [zO hc'];exact e)
    rw [zO hc',hp] at this;cases this
  exact kk p tl2 sa2 la2 ws2 L6 _ (fr _ (f5 _ hp5)) zj (KA6.same s7) (λc o h1 h2 h3 e=>s7 _ _ (O6 c o h1 h2 h3 e)) (T6.same s7) (fr _ hla2) (fr _ hsa2) pla λc o e hc hb hz=>by
   obtain⟨o5,e5⟩:∃ o5,H5 c=some o5:=by
    cases e':H5 c with
    | none=>rw [fr c (f5 c e')] at e;cases e
    | some o5=>exact⟨o5,rfl⟩
   have q6:=ks6 c o5 e5 (CL5 c o e hc hb hz)
   have e6:=XS m6 q6.nla e5
   exact KA6.kps s7 c _ e6 q6
def KQ (T0 C CK:Addr) (H:Hp) (k la:Addr) (b bd:Nat) (zs:ZB) (ok:ZA->Prop) (Q:VK):Prop :=
 ∀ (p tl2 sa2 la2 bl2:Addr) (zs2:ZB) (ws2:ZA) (L2:Nat) (H':Hp),H p=none->H' p=some (.tup [.int (many (gd (zs.map (·.2)) b) bd:Nat),.int (many (gd (zs2.map (·.2)) b) bd:Nat)])->KpAt C CK H' k tl2 sa2 la2 b bd bl2 zs2 ws2 L2->ok (zs2.map (·.2))->Off T0 k la H H'->LT T0 H'->H la2=none->H sa2=none->H bl2=none->p≠la2->(∀ c o,H c=some o->c≠k->(∀ z∈zs,c≠z.1)->ClrK c H' k tl2 sa2 la2 bl2 zs2)->Q (.ref p) H'
theorem GoodRule.nodup {b:Nat} {ls:ZA} (g:GoodRule b ls):ls.Nodup:=g.up.imp λ{x y} h z=>by rw [z,HT.yJ] at h;cases h
theorem zd2 {H:Hp} {b:Nat} {d:PyData} {v:V} (hd:ThAt H d v) (hs:zM b d=true):∃ st,v=.ref st/\H st=some (.lst ((yr d).map V.int))/\QT b (yr d):=by
 obtain⟨l,rfl,h1,h2,h3⟩:=Jd hs
 obtain⟨a,rfl,e⟩:=ThAt.figs (b:=b) hd (by unfold zM at hs;rw [Bool.and_eq_true] at hs;exact hs.1)
 have el:yr (.list (l.map .int))=l:=by
  show (l.map PyData.int).map jL=l
  rw [List.map_map]
  conv=>rhs;rw [<- List.map_id l]
  rfl
 rw [el] at e ⊢
 exact⟨a,rfl,e,h1,h2,h3⟩
def Q3 (T0 C CK xC xD:Addr):Sp:=λvs H Q E=>∃ (k tl sa la:Addr) (b bd:Nat) (bl:Addr) (zs:ZB) (ws:ZA) (L:Nat) (v:V) (d:PyData),vs=[.ref k,v]/\KpAt C CK H k tl sa la b bd bl zs ws L/\bd<2^900/\LT T0 H/\ThAt H d v/\vD d<=100000/\(zs.length=4->E (.ref xD) none H) /\
 (zs.length≠4->zM b d=false\/yr d∈zs.map (·.2)->∀ H',Same H H'->E (.ref xC) none H')/\(zs.length≠4->zM b d=true->yr d∉zs.map (·.2)->KQ T0 C CK H k la b bd zs (λls2=>ls2.Perm (zs.map (·.2)++[yr d])) Q)
theorem Qx:zB ["self","stretch"] ["self","stretch"] (zq tH):={}
theorem zd4 {xC xD:Addr} {f f1 f2:Addr} {fd fd1 fd2:FuncData} {t1:Tok} (D:Mt K CK "Keeper.come" "come" tH Ai f fd) (MKeeper_turn_to:Mt K CK "Keeper.turn_to" "turn_to" xW Av f1 fd1) (GKeeper_turn_to:FnOk P w K mg base CX0 9 f1 fd1 Av (Yo T0 C CK)) (xf:Df K mg "is_stretch" vh Ab f2 fd2) (xO:FnOk P w K mg base CX0 4 f2 fd2 Ab vM) (xj:mg "MOST_STRETCHES" = some (.int 4 t1)) (cKeeper:ClK K mg CK) (qMh:Uc K mg "NoStretch" xC) (qMi:Uc K mg "TooMany" xD) (T:Blt mg):FnOk P w K mg base (CX1 P w) 10 f fd Ai (Q3 T0 C CK xC xD):=by
 refine D.fn.ok1 Qx (λvs H Q E h=>?_) (λcdv A outer s H vs Q E hr h=>?_)
 ·obtain⟨k,tl,sa,la,b,bd,bl,zs,ws,L,v,d,rfl,_⟩:=h;rfl
 ·obtain⟨k,tl,sa,la,b,bd,bl,zs,ws,L,v,d,rfl,KA,hbd,hT,hd,hs,kM,kS,kG⟩:=h
  have h4:zs.length<=4:=by have:=KA.gt.g.len;rwa [List.length_map] at this
  have HU:=Wt hr
  have g:=KA.gt.g
  obtain⟨dx,hk⟩:=KA.ob
  refine⟨_,(zp (yE (zP YZ (zA (wF K) (by rfl) T.n_len PySem.boot_len (zf (xQ K (pv 0)) zg)) (yH (v:=.int 4) rfl xj ⟨_,rfl⟩) (zV _))
    (zu (ZV qMi ZP rfl (zf uv zg)))
    zT)
   (zp (yE (PW.pt (jX (wz (xm (zJ xf xO (hr.mono (by decide)) (zf (xQ K (pv 0)) (zf (pv 1) zg))))) (uR (zP (zfw K HU) (pv 1) (xQ K (pv 0)) (by with_unfolding_all rfl)))))
    (zu (ZV qMh ZP rfl (zf uv zg)))
    zT)
   (zu (zF (vQ MKeeper_turn_to cKeeper.cl GKeeper_turn_to (hr.mono (by decide)) (pv 0) (zf (zA (zcO K HU) (by rfl) T.n_sorted boot_sorted (zf (zN uG (xQ K (pv 0)) (yc (zf (wG (Z0 K) (by rfl) T.n_list boot_list (zf (pv 1) zg)) zg))) zg)) zg)))))),?_⟩
  refine⟨_,rfl,k,CK,dx,_,_,rfl,hk,cKeeper.cl,cKeeper.n_bad,Zw _ _ _ _,bl,_,rfl,.inl (SqL.of KA.li),rfl,_,rfl,?_⟩
  rw [List.length_map]
  by_cases hl4:zs.length=4
  ·rw [decide_eq_true (by rw [hl4];rfl)]
   exact yp ⟨by show 1<=sizeLine;decide,kM hl4⟩
  rw [decide_eq_false (λz=>hl4 (by injection z with z;omega))]
  refine yf ?_
  refine⟨_,rfl,k,CK,dx,_,_,rfl,hk,cKeeper.cl,cKeeper.n_base,ZW _ _ _ _,_,rfl,b,v,d,rfl,hd,hs,λH1 s1=>⟨_,rfl,?_⟩⟩
  cases hstr:zM b d with
  | false=>exact yp ⟨by show 1<=sizeLine;decide,kS hl4 (.inl hstr) H1 s1⟩
  | true =>
  refine yf ?_
  obtain⟨st,rfl,hst,gst⟩:=zd2 hd hstr
  have kk:=kG hl4 hstr
  have kS:=λz=>kS hl4 (.inr z)
  have h3:zs.length<=3:=by omega
  generalize yr d=ns at hst gst kk kS
  have KA1:=KA.same s1
  have hk1:=s1 _ _ hk
  refine⟨_,rfl,_,rfl,k,CK,dx,_,_,rfl,hk1,cKeeper.cl,cKeeper.n_bad,Zw _ _ _ _,bl,_,(zs.map (·.2)).map yK,yK ns,rfl,SqL.of KA1.li,TrsAt.lists KA1.st,TrAt.ints (a:=st) (SqL.of (s1 _ _ hst)),Nat.le_trans (wk _) (by decide),_,rfl,?_⟩
  rw [if_neg (by decide),Xg]
  by_cases hnot:ns∈zs.map (·.2)
  ·rw [decide_eq_true hnot]
   exact yp ⟨by show 1<=sizeLine;decide,kS hnot H1 s1⟩
  rw [decide_eq_false hnot]
  have kk:=kk hnot
  refine yf ?_
  refine⟨_,rfl,k,dx,_,rfl,hk1,xK _ _ _ _,?_⟩
  refine⟨_,rfl,k,CK,dx,_,_,rfl,hk1,cKeeper.cl,cKeeper.n_bad,Zw _ _ _ _,_,rfl,st,_,rfl,.inl (SqL.of (s1 _ _ hst)),λq hq=>⟨(by show 1<=sizeLine;decide),λl1 hl1=>?_⟩⟩
  have s2:=s1.trans (zm hq (o:=.lst (ns.map V.int)))
  have s3:=s2.trans (zm hl1 (o:=.lst [.ref q]))
  have hq3:=zm hl1 (o:=.lst [.ref q]) _ _ (zj (H:=H1) (a:=q) (o:=.lst (ns.map V.int)))
  refine⟨bl,l1,_,_,rfl,rfl,s3 _ _ KA.li,zj,by rw [List.length_map];exact Nat.le_trans (show zs.length+1<=5 by omega) (by decide),λl2 hl2=>?_⟩
  have s4:=s3.trans (zm hl2 (o:=.lst (zs.map (λz=>V.ref z.1)++[.ref q])))
  have hq4:=zm hl2 (o:=.lst (zs.map (λz=>V.ref z.1)++[.ref q])) _ _ hq3
  have nd:((zs++[(q,ns)]).map (·.2)).Nodup:=by
   rw [List.map_append]
   refine List.nodup_append.mpr ⟨g.nodup,by simp,λx hx y hy=>?_⟩
   have e:y=ns:=by simpa using hy
   rw [e]
   exact λz=>hnot (z▸hx)
  have hst4:∀ z∈zs++[(q,ns)],upd (upd (upd H1 q (.lst (ns.map V.int))) l1 (.lst [.ref q])) l2 (.lst (zs.map (λz=>V.ref z.1)++[.ref q])) z.1=some (.lst (z.2.map V.int)):=λz hz=>by
   rcases List.mem_append.mp hz with hz | hz
   ·exact s4 _ _ (KA.st z hz)
   ·have e:z=(q,ns):=by simpa using hz
    subst e;exact hq4
  refine⟨l2,zs++[(q,ns)],rfl,SqL.of (by rw [zj];simp),by rw [List.length_append,List.length_singleton];omega,λz hz=>SqL.of (hst4 z hz),nd,λbq zs' hbq pm pw=>?_⟩
  have s5:=zm hbq (o:=.lst (zs'.map λz=>V.ref z.1))
  have s15:=s4.trans s5
  have hmem:∀ z,z∈zs'↔z∈zs++[(q,ns)]:=λz=>pm.mem_iff
  have gm:GoodRule b (zs'.map (·.2)):=⟨g.b2,g.b16,by rw [List.length_map,pm.length_eq,List.length_append,List.length_singleton];omega,λl hl=>by
   obtain⟨z,hz,rfl⟩:=List.mem_map.mp hl
   rcases List.mem_append.mp ((hmem z).mp hz) with hz | hz
   ·exact g.st _ (List.mem_map.mpr ⟨z,hz,rfl⟩)
   ·have e:z=(q,ns):=by simpa using hz
    subst e;exact gst,by rw [List.pairwise_map];exact pw⟩
  have KA5:=KA.same s15
  obtain⟨lx,hlx⟩:=KA.ta.la
  have bqla:bq≠la:=λz=>by rw [z,s4 _ _ hlx] at hbq;cases hbq
  refine⟨k,tl,sa,la,b,bd,bl,zs,ws,L,bq,zs',rfl,KA5,hbd,hT.same s15,zj,λz hz=>s5 _ _ (hst4 z ((hmem z).mp hz)),gm,bqla,λp tl2 sa2 la2 ws2 L2 H' hp hv KA2 O2 T2 hla2 hsa2 pla cl2=>?_⟩
  have hqH:H q=none:=s1.free hq
  refine kk p tl2 sa2 la2 bq zs' ws2 L2 H' (s15.free hp) hv KA2 ?_ ((Off.of s15).trans O2 (.inr rfl)) T2 (s15.free hla2) (s15.free hsa2) (s4.free hbq) pla λc o e hc hz=>cl2 c o (s15 _ _ e) hc (zx e (s4.free hbq)) λz hzm=>by
   rcases List.mem_append.mp ((hmem z).mp hzm) with h | h
   ·exact hz z h
   ·have e':z=(q,ns):=by simpa using h
    subst e';exact zx e hqH
  have:=pm.map (·.2)
  rwa [List.map_append] at this
def zb3 (T0 C CK xC:Addr):Sp:=λvs H Q E=>∃ (k tl sa la:Addr) (b bd:Nat) (bl:Addr) (zs:ZB) (ws:ZA) (L:Nat) (v:V) (d:PyData),vs=[.ref k,v]/\KpAt C CK H k tl sa la b bd bl zs ws L/\bd<2^900/\LT T0 H/\ThAt H d v/\vD d<=100000 /\
 (zM b d=false\/yr d∉zs.map (·.2)->∀ H',Same H H'->E (.ref xC) none H')/\(zM b d=true->yr d∈zs.map (·.2)->KQ T0 C CK H k la b bd zs (λls2=>ls2=(zs.map (·.2)).filter λl=>decide (l≠yr d)) Q)
theorem zai:zB ["self","stretch"] ["self","stretch"] (zq qw):={}
theorem zgi {xC:Addr} {f f1 f2:Addr} {fd fd1 fd2:FuncData} (D:Mt K CK "Keeper.go" "go" qw Ai f fd) (MKeeper_turn_to:Mt K CK "Keeper.turn_to" "turn_to" xW Av f1 fd1) (GKeeper_turn_to:FnOk P w K mg base CX0 9 f1 fd1 Av (Yo T0 C CK)) (xf:Df K mg "is_stretch" vh Ab f2 fd2) (xO:FnOk P w K mg base CX0 4 f2 fd2 Ab vM) (cKeeper:ClK K mg CK) (qMh:Uc K mg "NoStretch" xC) (T:Blt mg):FnOk P w K mg base (CX1 P w) 10 f fd Ai (zb3 T0 C CK xC):=by
 refine D.fn.ok1 zai (λvs H Q E h=>?_) (λcdv A outer s H vs Q E hr h=>?_)
 ·obtain⟨k,tl,sa,la,b,bd,bl,zs,ws,L,v,d,rfl,_⟩:=h;rfl
 ·obtain⟨k,tl,sa,la,b,bd,bl,zs,ws,L,v,d,rfl,KA,hbd,hT,hd,hs,kS,kG⟩:=h
  have HU:=Wt hr
  have g:=KA.gt.g
  obtain⟨dx,hk⟩:=KA.ob
  refine⟨_,(zp (yE (PW.pt (jX (wz (xm (zJ xf xO (hr.mono (by decide)) (zf (xQ K (pv 0)) (zf (pv 1) zg))))) (uR (zP (zbx K HU) (pv 1) (xQ K (pv 0)) (by with_unfolding_all rfl)))))
    (zu (ZV qMh ZP rfl (zf uv zg)))
    zT)
   (zu (zF (vQ MKeeper_turn_to cKeeper.cl GKeeper_turn_to (hr.mono (by decide)) (pv 0) (zf (yW (show CScope (zq qw) _ "each" ["self","stretch"] ["stretch"] [1] from {}) rfl (X5 K (xQ K (pv 0))) (λ_ _ _ _=>(Xf (zP (Q0 K HU) (pv 0) (pv 1) (zV _)))) (λ_ _ _ _=>(pv 0))) zg))))),?_⟩
  refine⟨_,rfl,k,CK,dx,_,_,rfl,hk,cKeeper.cl,cKeeper.n_base,ZW _ _ _ _,_,rfl,b,v,d,rfl,hd,hs,λH1 s1=>⟨_,rfl,?_⟩⟩
  cases hstr:zM b d with
  | false=>exact yp ⟨by show 1<=sizeLine;decide,kS (.inl hstr) H1 s1⟩
  | true =>
  refine yf ?_
  obtain⟨st,rfl,hst,gst⟩:=zd2 hd hstr
  have kk:=kG hstr
  have kS:=λz=>kS (.inr z)
  generalize yr d=ns at hst gst kk kS
  have KA1:=KA.same s1
  have hk1:=s1 _ _ hk
  refine⟨_,rfl,_,rfl,k,CK,dx,_,_,rfl,hk1,cKeeper.cl,cKeeper.n_bad,Zw _ _ _ _,bl,_,(zs.map (·.2)).map yK,yK ns,rfl,SqL.of KA1.li,TrsAt.lists KA1.st,TrAt.ints (a:=st) (SqL.of (s1 _ _ hst)),Nat.le_trans (wk _) (by decide),_,rfl,?_⟩
  rw [if_pos rfl,Xg]
  by_cases hin:ns∈zs.map (·.2)
  case neg =>
   rw [decide_eq_false hin]
   exact yp ⟨by show 1<=sizeLine;decide,kS hin H1 s1⟩
  rw [decide_eq_true hin]
  have kk:=kk hin
  refine yf ?_
  refine⟨_,rfl,k,dx,_,rfl,hk1,xK _ _ _ _,?_⟩
  refine⟨_,rfl,k,CK,dx,_,_,rfl,hk1,cKeeper.cl,cKeeper.n_bad,Zw _ _ _ _,bl,rfl,⟨_,SqL.of KA1.li⟩,yQ (K:=K) (a:=bl) (xs:=zs.map λz=>V.ref z.1) (λi ys H4=>H4=H1/\ys=((zs.take i).filter λz=>decide (z.2≠ns)).map λz=>V.ref z.1) ⟨rfl,rfl⟩ (λi ys H4 _ ⟨e,_⟩=>by rw [e];exact SqL.of KA1.li) ?_ ?_⟩
  ·rintro j x ys H4 hx ⟨rfl,rfl⟩
   rw [List.getElem?_map] at hx
   obtain⟨z,hzj,e⟩:=Option.map_eq_some_iff.mp hx
   subst e
   have hzm:=List.mem_of_getElem? hzj
   have h4:zs.length<=4:=by have:=g.len;rwa [List.length_map] at this
   refine⟨by rw [List.length_map];exact Nat.lt_of_le_of_lt (Nat.le_trans (List.length_filter_le _ _) (Nat.le_trans (List.length_take_le' _ _) h4)) (by decide),?_⟩
   refine⟨_,rfl,_,rfl,yK z.2,yK ns,TrAt.ints (a:=z.1) (SqL.of (KA1.st z hzm)),TrAt.ints (a:=st) (SqL.of (s1 _ _ hst)),(by rw [uO];decide),_,rfl,?_⟩
   rw [if_pos rfl,ql,List.take_succ,hzj]
   by_cases e:z.2=ns
   ·rw [decide_eq_true e]
    refine yf ⟨rfl,?_⟩
    simp [List.filter_append,e]
   ·rw [decide_eq_false e]
    refine yp ⟨_,rfl,rfl,?_⟩
    simp [List.filter_append,e]
  rintro ys H4 ⟨rfl,rfl⟩ bq hbq
  rw [List.length_map,List.take_length]
  have s5:=zm hbq (o:=.lst ((zs.filter λz=>decide (z.2≠ns)).map λz=>V.ref z.1))
  have s15:=s1.trans s5
  have ef:(zs.filter λz=>decide (z.2≠ns)).map (·.2)=(zs.map (·.2)).filter λl=>decide (l≠ns):=by
   rw [List.filter_map];rfl
  have gm:GoodRule b ((zs.filter λz=>decide (z.2≠ns)).map (·.2)):=by
   rw [ef]
   exact⟨g.b2,g.b16,Nat.le_trans (List.length_filter_le _ _) g.len,λl hl=>g.st l (List.mem_filter.mp hl).1,g.up.sublist List.filter_sublist⟩
  obtain⟨lx,hlx⟩:=KA.ta.la
  have bqla:bq≠la:=λz=>by rw [z,s1 _ _ hlx] at hbq;cases hbq
  refine⟨k,tl,sa,la,b,bd,bl,zs,ws,L,bq,zs.filter λz=>decide (z.2≠ns),rfl,KA.same s15,hbd,hT.same s15,zj,λz hz=>s15 _ _ (KA.st z (List.mem_filter.mp hz).1),gm,bqla,λp tl2 sa2 la2 ws2 L2 H' hp hv KA2 O2 T2 hla2 hsa2 pla cl2=>?_⟩
  exact kk p tl2 sa2 la2 bq _ ws2 L2 H' (s15.free hp) hv KA2 ef ((Off.of s15).trans O2 (.inr rfl)) T2 (s15.free hla2) (s15.free hsa2) (s1.free hbq) pla λc o e hc hz=>cl2 c o (s15 _ _ e) hc (zx e (s1.free hbq)) λz hzm=>hz z (List.mem_filter.mp hzm).1
end
theorem Stq.aw {s:Addr} {H H':Hp} (a:Stq s H H'):Same (aw [s] H) (aw [s] H'):=λb o e=>by
 have hb:b∉[s]:=λhb=>by rw [qI hb] at e;cases e
 rw [zO hb] at e ⊢
 exact a.sm b o (λz=>hb (by simp [z])) e
theorem Stq.lay {s:Addr} {H H1 H2:Hp} (q:Stq s H H1) (m:Same H1 H2):Stq s H H2:=⟨by obtain⟨x,y,z,e⟩:=q.st;exact⟨x,y,z,m _ _ e⟩,λc o h e=>m _ _ (q.sm c o h e)⟩
theorem Stq.awM {s:Addr} {H H':Hp} (q:Stq s H H') (M:List Addr):Same (L2.aw (s :: M) H) (L2.aw (s :: M) H'):=λc o e=>by
 have hc:c∉s :: M:=λz=>by rw [qI z] at e;cases e
 rw [zO hc] at e ⊢
 exact q.sm c o (λz=>hc (by rw [z];exact List.mem_cons_self)) e
theorem Stq.out {s:Addr} {H H':Hp} {M:List Addr} (q:Stq s H H') (hM:∀ m∈M,H m≠none) {p:Addr} (h:H' p=none):p∉s :: M:=λz=>by
 have ns:p≠s:=q.st.ne h
 rcases List.mem_cons.mp z with z | z
 ·exact ns z
 ·cases e:H p with
  | none=>exact hM p z e
  | some o=>rw [q.sm p o ns e] at h;cases h
def sVM (s:Addr) (M:List Addr) (H0:Hp):View:=⟨aw (s :: M),λH=>Stq s H0 H/\∀ m∈M,H0 m≠none,λh=>zK _ _ _ _ h,λ{H p} o ok hp=>⟨⟨ok.1.lay (zm hp),ok.2⟩,(zm hp).aw _,by rw [zO (ok.1.out ok.2 hp),zj]⟩⟩
section
variable {K:W.Frag} {s:Addr} {M:List Addr} {H0:Hp} {Γ:Cxt} {te:TE} {lo hi:Int} {x:Nat}
theorem Xj (hd:Γ[x]?=some (some (zag (.ref s)))) (h:Tp (sVM s M H0) Γ te (tyI lo hi)) (h1:1<=lo:=by first | decide | omega) (h2:hi<=1000:=by first | decide | omega):Tp (sVM s M H0) Γ (zeI yG [] E0 (Ze (ze7 x) (Ze te WR))) (tyI 0 (hi-1)):=fun σ H Q o f q=>by
 obtain⟨v,e,t⟩:=f.2 x _ hd
 refine⟨v,e,h σ H _ o f λu H1 o1 s1 ⟨m,e1,a1,b1⟩=>⟨s,m,by rw [show v=V.ref s from t,e1];rfl,o1.1.st,by omega,Int.lt_of_le_of_lt (Int.le_trans b1 h2) (by decide +kernel),λr H' hr S=>q _ H' ⟨o1.1.trans S,o1.2⟩ (s1.trans (S.awM M)) ⟨r,rfl,by omega,by omega⟩⟩⟩
end
abbrev tyF (b:Nat) (lo:Nat):Ty:=wK (tyI 0 (b-1)) lo 4
theorem tyF.ofL {G:Hp} {a:Addr} {b lo:Nat} {l:List Int} (h:G a=some (.lst (l.map V.int))) (h1:lo<=l.length) (h4:l.length<=4) (hf:∀ i∈l,0<=i/\i<(b:Int)):(tyF b lo).p G (.ref a):=⟨a,_,rfl,h,by rw [List.length_map];exact h1,by rw [List.length_map];exact h4,λu hu=>by
 obtain⟨i,hi,rfl⟩:=List.mem_map.mp hu
 exact⟨i,rfl,(hf i hi).1,by have:=(hf i hi).2;omega⟩⟩
theorem ze2 (ls:ZA):teq (.lst (ls.map yK)) (.lst [])=decide (ls=[]):=by
 cases ls with
 | nil=>rfl
 | cons l ls=>simp [teq,qT]
section
variable {w:View} {Γ:Cxt} {te:TE} {K:W.Frag} {x b lo:Nat}
theorem Wv (b16:b<=16) (h:Tp w Γ te (tyF b lo)):Tp w Γ te (tyL 1 100 lo 4):=Tp.leL (Tp.ofLI h (by decide) (by omega))
theorem zeh (h:Tp w Γ te (tyF b lo)):Tp w Γ (tCB (λxs H Q=>∃ p ys,xs=[.ref p]/\(SqL K H p ys\/SqT K H p ys)/\∀ l,H l=none->Q (.ref l) (upd H l (.lst ys))) (Ze te WR)) (tyF b lo):=fun σ H Q o f q=>h σ H _ o f λv H1 o1 s1 ⟨a,vs,e,g,l1,l2,r⟩=>⟨a,_,by rw [e],.inl (SqL.of (w.out g)),λp hp=>by
 obtain⟨o2,s2,e2⟩:=w.new (.lst vs) o1 hp
 exact q (.ref p) _ o2 (s1.trans s2) ⟨p,vs,rfl,e2,l1,l2,λu hu=>(tyI 0 (b-1)).mo s2 (r u hu)⟩⟩
end
section
variable {P:Program} {w:World} {K:W.Frag} {mg:Str->Option Value} {base:Heap}
def qZ:Sp:=λvs H Q _=>∃ (s r:Addr) (M:List Addr) (b:Nat) (bl:Addr) (zs:ZB),vs=[.ref s,.ref r]/\Sto H s/\(∀ m∈M,H m≠none)/\RuleAt (aw (s :: M) H) r b bl zs/\GoodRule b (zs.map (·.2))/\∀ (t:Addr) (door:Nat) (u:V) (d:PyData) (H':Hp),Stq s H H'->Same (aw (s :: M) H) (aw (s :: M) H')->aw (s :: M) H' t=some (.tup [.int door,u])->door<=1->ThAt (aw (s :: M) H') d u->Fit 3 2000 d->Q (.ref t) H'
theorem yj:zB ["store","rule","base","bad","way","stretch","one","some","at","odd","wrong"] ["store","rule"] (zq j7):={}
set_option maxHeartbeats 0 in
theorem W2 {f f1 f2:Addr} {fd fd1 fd2:FuncData} (D:Df K mg "_law_deed" j7 A9 f fd) (zz:Df K mg "_law_take" yM Ae f1 fd1) (zR:Df K mg "_law_stretch" yL An f2 fd2) (T:Blt mg):FnOk P w K mg base CX0 3 f fd A9 qZ:=by
 have zL:FnOk P w K mg base CX0 1 f1 fd1 Ae yG:=xG zz T
 have uZ:FnOk P w K mg base CX0 2 f2 fd2 An vW:=qD zR zz T
 refine D.fn.ok yj (λvs H Q E h=>?_) (λcdv A outer s H vs Q E hr h=>?_)
 ·obtain⟨s,r,M,b,bl,zs,rfl,_⟩:=h;rfl
 ·obtain⟨s,r,M,b,bl,zs,rfl,St,hM,R,g,kk⟩:=h
  have HU:=Wt hr
  have b2:=g.b2
  have b16:=g.b16
  have h4:zs.length<=4:=by have:=g.len;rwa [List.length_map] at this
  refine⟨_,(zp (QQ (pv 1) (zaB rfl (qi (yV (i:=2) yj.nd rfl (Or.inl rfl)) (qi (yV (i:=3) yj.nd rfl (Or.inl rfl)) Uh))))
   (zp (zH (i:=4) yj.nd rfl (Or.inl rfl) (zJ zz zL (hr.mono (by decide)) (zf (pv 0) (zf zr zg))))
   (zp (zH (i:=5) yj.nd rfl (Or.inl rfl) (zJ zR uZ (hr.mono (by decide)) (zf (pv 0) (zf (pv 2) (zf (zA (Vi rfl) (by rfl) T.n_min boot_min (zf (pv 2) (zf (zN wJ zr (zJ zz zL (hr.mono (by decide)) (zf (pv 0) (zf zr zg)))) zg))) zg)))))
   (zp (zdJ (yE (PW.pt (zbP (zP (Q0 K HU) (pv 3) (yc zg) (zV _)) (zas (zP (zgz K HU) (pv 4) (qG (zf zr (zf zr (zf zr (zf zr zg))))) (by with_unfolding_all rfl)))))
    (zp (zH (i:=6) yj.nd rfl (Or.inl rfl) (zW (yO K) (pv 3) (zJ zz zL (hr.mono (by decide)) (zf (pv 0) (zf (zA (wF K) (by rfl) T.n_len PySem.boot_len (zf (pv 3) zg)) zg))) (λ_ _=>rfl)))
    (zp (zcJ (i:=7) yj.nd rfl (Or.inl rfl) (Ye (zQ (pei (pv 6)) (zQ (pei (pv 6)) (zQ (pei (za2 (pv 6))) (zQ (pei (wV (Y9 K) (pv 6) (vV zr) tG)) (zQ (pei (wV (Y9 K) (zN uG (pv 6) (yc (zf (zJ zz zL (hr.mono (by decide)) (zf (pv 0) (zf (pv 2) zg))) zg))) tG (vV zr))) (zQ (pei (pv 6)) Zc))))))))
    (zu (zH (i:=5) yj.nd rfl (Or.inl rfl) (wG (Z0 K) (by rfl) T.n_list boot_list (zf (zW (yO K) (pv 7) (zJ zz zL (hr.mono (by decide)) (zf (pv 0) (zf zr zg))) (λ_ _=>rfl)) zg))))))
    zT))
   (zp (zdJ (yE (zP YZ (pv 4) zr (zV _))
    (zp (zH (i:=8) yj.nd rfl (Or.inl rfl) (zJ zz zL (hr.mono (by decide)) (zf (pv 0) (zf (zA (wF K) (by rfl) T.n_len PySem.boot_len (zf (pv 5) zg)) zg))))
    (zp (zH (i:=9) yj.nd rfl (Or.inl rfl) (zdy (yO K) (Ye (zQ (pei (pv 2)) (zQ (pei (J3 Vr zr)) (zQ (pei jn) (zQ (pei jn) (zQ (pei Zm) (vm (zQ (Ye (zQ qP Zc)) (zQ (pei (zN zaz zr zr)) Zc))))))))) (zJ zz zL (hr.mono (by decide)) (zf (pv 0) (zf zr zg))) (λ_ _=>rfl)))
    (zp (zcJ (i:=10) yj.nd rfl (Or.inl rfl) (Ye (zQ (pei (zN uG (zN uG (wV (Y9 K) (pv 5) tG (vV (pv 8))) (yc (zf (pv 9) zg))) (wV (Y9 K) (pv 5) (vV (zN wJ (pv 8) zr)) tG))) (zQ (Ye Zc) (zQ (pei (zN zeC (yc (zf zr zg)) zr)) (zQ (pei (wG XJ (by rfl) T.n_tuple boot_tuple (zf (pv 5) zg))) (zQ (pei Zm) Zc)))))))
    (zu (zH (i:=5) yj.nd rfl (Or.inl rfl) (zW (yO K) (zfS uG (pv 10) (Ye (vm (zQ qP (zQ (pei zeg) (zQ (pei jn) (zQ (pei (yc (zf (pv 5) zg))) Zc))))))) (zJ zz zL (hr.mono (by decide)) (zf (pv 0) (zf zr zg))) (λ_ _=>rfl)))))))
    zT))
   (zu (zF (qG (zf (zdy (yO K) (Ye (zQ qP (zQ qP (zQ qP (zQ qP (zQ qP (zQ (pei (zJ zz zL (hr.mono (by decide)) (zf (pv 0) (zf zr zg)))) (zQ qP (zQ qP Zc))))))))) (pv 4) (λ_ _=>rfl)) (zf (pv 5) zg)))))))))),?_⟩
  refine⟨_,rfl,r,_,rfl,SqT.of (zK _ _ _ _ R.tu),rfl,_,_,rfl,_,_,rfl,rfl,?_⟩
  refine⟨_,rfl,s,8,rfl,St,by decide,by decide,λway H1 hway q1=>?_⟩
  refine⟨_,rfl,_,rfl,_,rfl,_,rfl,s,2,rfl,q1.st,by decide,by decide,λx H2 hx q2=>⟨_,_,rfl,rfl,_,_,rfl,?_⟩⟩
  obtain⟨few,hfew,f1,f2⟩:∃ few:Nat,(if (2+(x:Int))<(b:Int) then (2+(x:Int)) else (b:Int))=(few:Int)/\2<=few/\few<=b:=by
   by_cases z:2+x<b
   ·exact⟨2+x,by rw [if_pos (by omega)];omega,by omega,by omega⟩
   ·exact⟨b,by rw [if_neg (by omega)],by omega,by omega⟩
  rw [hfew]
  refine⟨s,b,few,rfl,q2.st,f1,f2,b16,λl ms H3 q3 hl hl3 gms=>?_⟩
  have q13:=(q1.trans q2).trans q3
  have m3:=q13.awM M
  have S3:=q13
  have nls:l∉s :: M:=(q1.trans q2).out hM hl
  have R3:=R.same m3
  have tl3:(tyF b 1).p (aw (s :: M) H3) (.ref l):=tyF.ofL (by rw [zO nls];exact hl3) (List.length_pos_iff.mpr gms.ne) gms.len gms.fig
  refine⟨fun σ H'=>∃ (vst:V) (v6 v7 v8 v9 v10:Option V),σ=[some (.ref s),some (.ref r),some (.int b),some (.ref bl),some (.int way),some vst,v6,v7,v8,v9,v10]/\Stq s H H'/\Same (aw (s :: M) H) (aw (s :: M) H')/\(tyF b (if way=5 then 1 else 0)).p (aw (s :: M) H') vst,?_,?_⟩
  ·refine⟨_,rfl,(by show 0<=sizeLine;decide),λle hle=>⟨.lst ((zs.map (·.2)).map yK),.lst [],?_,?_,?_,_,rfl,?_⟩⟩
   ·rw [TrAt];exact⟨bl,_,rfl,SqL.of (zm hle _ _ (zK _ _ _ _ R3.li)),TrsAt.lists λz hz=>zm hle _ _ (zK _ _ _ _ (R3.st z hz))⟩
   ·rw [TrAt];exact⟨le,_,rfl,SqL.of zj,by rw [TrsAt]⟩
   ·have:=wk (zs.map (·.2));simp only [uC];omega
   have k4:=zm hle (o:=.lst [])
   have m4:=m3.trans (k4.aw (s :: M))
   have S4:=S3.lay k4
   have tl4:=(tyF b 1).mo (k4.aw (s :: M)) tl3
   have R4:=R.same m4
   generalize upd H3 le (.lst [])=H4 at k4 m4 S4 tl4 R4 ⊢
   have low:∀ {G:Hp} {v:V},(tyF b 1).p G v->(tyF b (if way=5 then 1 else 0)).p G v:=λ⟨a,vs,e,h,l1,l2,r⟩=>⟨a,vs,e,h,by split<;>omega,l2,r⟩
   rw [ze2]
   by_cases hnil:zs.map (·.2)=[]
   ·rw [decide_eq_true hnil]
    exact yf ⟨_,_,_,_,_,_,rfl,S4,m4,low tl4⟩
   rw [decide_eq_false hnil]
   refine yp ?_
   refine⟨_,rfl,(by show 4<=sizeLine;decide),λtu htu=>⟨tu,_,[.int 1,.int 2,.int 3,.int 4],.int way,rfl,SqT.of zj,?_,by rw [TrAt],by simp [wg,uC],_,rfl,?_⟩⟩
   ·rw [TrsAt];refine⟨_,_,rfl,by rw [TrAt],?_⟩
    rw [TrsAt];refine⟨_,_,rfl,by rw [TrAt],?_⟩
    rw [TrsAt];refine⟨_,_,rfl,by rw [TrAt],?_⟩
    rw [TrsAt];exact⟨_,_,rfl,by rw [TrAt],by rw [TrsAt]⟩
   have k5:=zm htu (o:=.tup [.int 1,.int 2,.int 3,.int 4])
   have m5:=m4.trans (k5.aw (s :: M))
   have S5:=S4.lay k5
   have tl5:=(tyF b 1).mo (k5.aw (s :: M)) tl4
   have R5:=R.same m5
   generalize upd H4 tu (.tup [.int 1,.int 2,.int 3,.int 4])=H5 at k5 m5 S5 tl5 R5 ⊢
   cases hin:([Tr.int 1,.int 2,.int 3,.int 4].any λt=>teq t (.int way)) with
   | false=>exact yf ⟨_,_,_,_,_,_,rfl,S5,m5,low tl5⟩
   | true =>
    refine yp ?_
    have w5:¬ way=5:=λz=>by rw [z] at hin;simp [teq] at hin
    rw [if_neg w5]
    have hz1:0<zs.length:=List.length_pos_iff.mpr (λz=>hnil (by rw [z];rfl))
    refine⟨_,rfl,_,rfl,_,rfl,bl,_,rfl,.inl (SqL.of (zK _ _ _ _ R5.li)),s,_,rfl,S5.st,by rw [List.length_map];omega,by rw [List.length_map];exact Int.lt_of_le_of_lt (show (zs.length:Int)<=4 by omega) (by decide +kernel),λx6 H6 hx6 q6=>?_⟩
    rw [List.length_map] at hx6
    obtain⟨z,hz⟩:∃ z,zs[x6]?=some z:=⟨_,List.getElem?_eq_getElem (by omega)⟩
    have hzm:=List.mem_of_getElem? hz
    have gz:=g.st z.2 (List.mem_map.mpr ⟨z,hzm,rfl⟩)
    have m6:=m5.trans (q6.awM M)
    have S6:=S5.trans q6
    have R6:=R.same m6
    refine⟨bl,_,_,.ref z.1,rfl,rfl,SqL.of (zK _ _ _ _ R6.li),vf (by rw [List.getElem?_map,hz];rfl),?_⟩
    have to6:(tyF b 1).p (aw (s :: M) H6) (.ref z.1):=tyF.ofL (R6.st z hzm) (List.length_pos_iff.mpr gz.ne) gz.len gz.fig
    refine Tp.asg2 (w:=sVM s M H) (Γ:=[some (zag (.ref s)),none,some (tyI b b),none,none,none,some (tyF b 1),none,none,none,none]) (T1:=wK (tyF b 0) 6 6) (Tp.lstT (TpB.cons (Tp.wideL (Tp.var rfl) (λ_ _ t=>t) (by decide) (by decide)) (TpB.cons (Tp.wideL (Tp.var rfl) (λ_ _ t=>t) (by decide) (by decide)) (TpB.cons (Tp.wideL (Tp.rev (Tp.var rfl)) (λ_ _ t=>t) (by decide) (by decide)) (TpB.cons (Tp.sl (Tp.var rfl) (TpO.some Tp.int) TpO.none) (TpB.cons (Tp.takeU (c:=4) (Tp.catT (Tp.var rfl) (Tp.lstT (TpB.cons (Xj rfl (Tp.var rfl)) TpB.nil)))) (TpB.cons (Tp.wideL (Tp.var rfl) (λ_ _ t=>t) (by decide) (by decide)) TpB.nil))))))) ⟨S6,hM⟩ (Fits.cons rfl (Fits.skip (Fits.cons ⟨b,rfl,Int.le_refl _,Int.le_refl _⟩ (Fits.skip (Fits.skip (Fits.skip (Fits.cons to6 (Fits.any _)))))))) λvs7 H7 S7 m7 t7=>?_
    refine (zeh (w:=sVM s M H) (Γ:=[some (zag (.ref s)),none,none,none,none,none,none,some (wK (tyF b 0) 6 6),none,none,none]) (Tp.ix (Tp.var rfl) (Xj rfl Tp.int) (by decide))) _ H7 _ S7 (Fits.cons rfl (Fits.skip (Fits.skip (Fits.skip (Fits.skip (Fits.skip (Fits.skip (Fits.cons t7 (Fits.any _))))))))) λv8 H8 S8 m8 t8=>?_
    exact⟨_,_,_,_,_,_,rfl,S8.1,m6.trans (Same.trans m7 m8),t8⟩
  ·rintro σ H4 ⟨vst,v6,v7,v8,v9,v10,rfl,S4,m4,t4⟩
   refine⟨fun σ H'=>∃ (vst:V) (v6 v7 v8 v9 v10:Option V),σ=[some (.ref s),some (.ref r),some (.int b),some (.ref bl),some (.int way),some vst,v6,v7,v8,v9,v10]/\Stq s H H'/\Same (aw (s :: M) H) (aw (s :: M) H')/\(ZQ 3 2000).p (aw (s :: M) H') vst,?_,?_⟩
   ·refine⟨_,rfl,rfl,_,rfl,?_⟩
    by_cases hw5:way=5
    ·rw [decide_eq_true (by rw [hw5];rfl)]
     refine yp ?_
     rw [if_pos hw5] at t4
     have hb25:(b:Int)<=10^Int.toNat 25:=Int.le_trans (show (b:Int)<=16 by omega) (by decide)
     refine Tp.asg2 (w:=sVM s M H) (Γ:=[some (zag (.ref s)),none,none,none,none,some (tyF b 1),none,none,none,none,none]) (T1:=tyI 0 3) (Tp.wide (Xj rfl (Tp.len (Tp.var rfl))) (by decide) (by decide)) ⟨S4,hM⟩ (Fits.cons rfl (Fits.skip (Fits.skip (Fits.skip (Fits.skip (Fits.cons t4 (Fits.any _))))))) λva H5 S5 m5 t5=>?_
     have t45:=(tyF b 1).mo m5 t4
     refine Tp.asg2 (w:=sVM s M H) (Γ:=[some (zag (.ref s)),none,some (tyI b b),none,none,none,none,none,none,none,none]) (T1:=ZQ 1 200) (Tp.ix (Tp.lstT (TpB.cons (Tp.le (Tp.ofI (Tp.var rfl) (by omega) (by omega)) (by decide) (by decide)) (TpB.cons (Tp.le (Tp.ofI (Tp.neg Tp.int)) (by decide) (by decide)) (TpB.cons (Tp.le Tp.bl (by decide) (by decide)) (TpB.cons (Tp.le Tp.bl (by decide) (by decide)) (TpB.cons (Tp.le Tp.non (by decide) (by decide)) (TpB.cons (Tp.le (Tp.str (by decide +kernel) (by decide +kernel)) (by decide) (by decide)) (TpB.cons (Tp.le (Tp.ofL (Tp.lst (TpA.cons (Tp.ofI Tp.int) TpA.nil))) (by decide) (by decide)) (TpB.cons (Tp.le (Tp.ofI (Tp.pow ⟨by decide,by decide,by decide⟩)) (by decide) (by decide)) TpB.nil))))))))) (Xj rfl Tp.int) (by decide)) S5 (Fits.cons rfl (Fits.skip (Fits.cons ⟨b,rfl,Int.le_refl _,Int.le_refl _⟩ (Fits.any _)))) λvo H6 S6 m6 t6=>?_
     have t46:=(tyF b 1).mo m6 t45
     have t56:=(tyI 0 3).mo m6 t5
     refine Tp.asg2 (w:=sVM s M H) (Γ:=[some (zag (.ref s)),none,none,none,none,some (tyF b 1),none,none,some (tyI 0 3),some (ZQ 1 200),none]) (T1:=wK (ZQ 3 2000) 5 5) (Tp.lstT (TpB.cons (Tp.le (Tp.ofL (Tp.catT (Tp.catT (Tp.sl (Tp.leL (k':=1) (n':=200) (Wv b16 (Tp.var rfl))) TpO.none (TpO.some (Tp.var rfl))) (Tp.lstT (TpB.cons (Tp.var rfl) TpB.nil))) (Tp.sl (Tp.leL (k':=1) (n':=200) (Wv b16 (Tp.var rfl))) (TpO.some (Tp.add (Tp.var rfl) Tp.int)) TpO.none))) (by decide) (by decide)) (TpB.cons (Tp.le (Tp.ofL (Tp.lst TpA.nil)) (by decide) (by decide)) (TpB.cons (Tp.le (Tp.ofL (Tp.rep (c:=5) (c':=5) (Tp.lst (TpA.cons (Tp.ofI Tp.int) TpA.nil)) Tp.int)) (by decide) (by decide)) (TpB.cons (Tp.le (Tp.tupOf (Wv b16 (Tp.var rfl))) (by decide) (by decide)) (TpB.cons (Tp.le Tp.non (by decide) (by decide)) TpB.nil)))))) S6 (Fits.cons rfl (Fits.skip (Fits.skip (Fits.skip (Fits.skip (Fits.cons t46 (Fits.skip (Fits.skip (Fits.cons t56 (Fits.cons t6 (Fits.any _))))))))))) λvw H7 S7 m7 t7=>?_
     have t47:=(tyF b 1).mo m7 t46
     refine (Tp.ix (w:=sVM s M H) (Γ:=[some (zag (.ref s)),none,none,none,none,some (tyF b 1),none,none,none,none,some (wK (ZQ 3 2000) 5 5)]) (T:=ZQ 3 2000) (Tp.catT (Tp.var rfl) (Tp.lstT (TpB.cons (Tp.le (Tp.str (by decide +kernel) (by decide +kernel)) (by decide) (by decide)) (TpB.cons (Tp.le (Tp.ofI Tp.int) (by decide) (by decide)) (TpB.cons (Tp.le Tp.emp (by decide) (by decide)) (TpB.cons (Tp.le Tp.bl (by decide) (by decide)) (TpB.cons (Tp.le (Tp.ofL (Tp.lst (TpA.cons (Tp.ofL (Wv b16 (Tp.var rfl))) TpA.nil))) (by decide) (by decide)) TpB.nil))))))) (Xj rfl Tp.int) (by decide)) _ H7 _ S7 (Fits.cons rfl (Fits.skip (Fits.skip (Fits.skip (Fits.skip (Fits.cons t47 (Fits.skip (Fits.skip (Fits.skip (Fits.skip (Fits.cons t7 Fits.nil))))))))))) λv8 H8 S8 m8 t8=>?_
     exact⟨_,_,_,_,_,_,rfl,S8.1,m4.trans (Same.trans m5 (Same.trans m6 (Same.trans m7 m8))),t8⟩
    ·rw [decide_eq_false (λz=>hw5 (by injection z with z;omega))]
     refine yf ⟨_,_,_,_,_,_,rfl,S4,m4,?_⟩
     rw [if_neg hw5] at t4
     obtain⟨v9,e9,q9⟩:=(Tp.le (Tp.ofL (Wv b16 (Tp.var (w:=idV) (Γ:=[some (tyF b 0)]) (x:=0) rfl))) (by decide) (by decide)) [some vst] _ (λv G=>(ZQ 3 2000).p G v) trivial (Fits.cons t4 Fits.nil) λv G _ m t=>t
     cases e9;exact q9
   ·rintro σ H5 ⟨vst5,u6,u7,u8,u9,u10,rfl,S5,m5,t5⟩
    refine (Tp.ix (w:=sVM s M H) (Γ:=[some (zag (.ref s)),none,none,none,some (tyI 0 7),none,none,none,none,none,none]) (T:=tyI 0 1) (Tp.lstT (TpB.cons (Tp.wide Tp.int (by decide) (by decide)) (TpB.cons (Tp.wide Tp.int (by decide) (by decide)) (TpB.cons (Tp.wide Tp.int (by decide) (by decide)) (TpB.cons (Tp.wide Tp.int (by decide) (by decide)) (TpB.cons (Tp.wide Tp.int (by decide) (by decide)) (TpB.cons (Tp.wide (Xj rfl Tp.int) (by decide) (by decide)) (TpB.cons (Tp.wide Tp.int (by decide) (by decide)) (TpB.cons (Tp.wide Tp.int (by decide) (by decide)) TpB.nil))))))))) (Tp.var rfl) (by decide)) _ H5 _ ⟨S5,hM⟩ (Fits.cons rfl (Fits.skip (Fits.skip (Fits.skip (Fits.cons ⟨way,rfl,by omega,by omega⟩ (Fits.any _)))))) λvd H6 S6 m6 t6=>?_
    obtain⟨i,rfl,i0,i1⟩:=t6
    refine⟨_,rfl,(by show 2<=sizeLine;decide),λt ht=>?_⟩
    have k7:=zm ht (o:=.tup [.int i,vst5])
    obtain⟨d,td,fd⟩:=(ZQ 3 2000).mo (Same.trans m6 (k7.aw (s :: M))) t5
    refine kk t i.toNat vst5 d _ (S6.1.lay k7) (m5.trans (Same.trans m6 (k7.aw (s :: M)))) ?_ (by omega) td fd
    rw [zO (S6.1.out hM ht),show ((i.toNat:Nat):Int)=i by omega]
    exact zj
end
end Lw
namespace L2
open PySem PySem.Spec PyProof.Rows PySem.SeqAt
section
variable {X:Cx} {K:W.Frag}
def zgG (K:W.Frag):R2:=λx y H Q=>∃ a b xs,x=.ref a/\y=.ref b/\SqL K H a xs/\SqL K H b []/\Q (.bl xs.isEmpty) H
theorem zd0 (hu:X.A.units+64<cLine):OpR X (compareOp .Eq) (zgG X.K):=by
 intro pins s σ H x y v u Q I rx ry h
 obtain⟨a,b,xs,rfl,rfl,h1,h2,q⟩:=h
 cases rx
 cases ry
 obtain⟨its,r1,p1,_⟩:=I.list h1
 obtain⟨its2,r2,p2,_⟩:=I.list h2
 have m2:=r2.length
 have hA:X.A.units<cLine:=by omega
 cases r2
 cases r1 with
 | nil =>
  have q1:=RcAt.lists (e:=λ_=>true) p1.isList p2.isList rfl hA (λj h=>absurd h (by simp))
  exact q1 _ _ _ _ ⟨.bl _,H,I,rfl,q⟩
 | cons r rs =>
  have q1:=RcAt.lists_lengths (A:=X.A) (s:=s) p1.isList p2.isList (by rw [bne_iff_ne];simp) hA
  exact q1 _ _ _ _ ⟨.bl _,H,I,rfl,q⟩
theorem zfk (hu:X.A.units+64<cLine) (e:X.K=K:=by rfl):OpR X (compareOp .Eq) (zgG K):=by subst e;exact zd0 hu
end
end L2
namespace Lw
open PySem L2 PyProof.Rows
section
variable {P:Program} {w:World} {K:W.Frag} {mg:Str->Option Value} {base:Heap}
def ug:Sp:=λvs H Q _=>∃ (b:Nat) (v:V) (d:PyData),vs=[.int b,v]/\ThAt H d v/\vD d<=100000/\∀ H',Same H H'->Q (.bl (zM b d)) H'
theorem Wg:zB ["base","thing"] ["base","thing"] (zq yP):={}
theorem jK {f:Addr} {fd:FuncData} (D:Df K mg "_law_is_stretch" yP Ab f fd) (T:Blt mg):FnOk P w K mg base CX0 1 f fd Ab ug:=by
 refine D.fn.ok Wg (λvs H Q E h=>?_) (λcdv A outer s H vs Q E hr h=>?_)
 ·obtain⟨b,v,d,rfl,_⟩:=h;rfl
 ·obtain⟨b,v,d,rfl,hd,hs,kk⟩:=h
  have HU:=Wt hr
  refine⟨_,(zp (yE (PW.pt (jX (wz (xm (zA (YK K) (by rfl) T.n_isinstance boot_isinstance (zf (pv 1) (zf (vq (v:=.ty "list") rfl T.n_list boot_list rfl) zg))))) (uR (wz (QZ JW JW zr (zA (wF K) (by rfl) T.n_len PySem.boot_len (zf (pv 1) zg)) zr)))))
    (zu (zF jn))
    zT)
   (zu (zF (tR (zfk (K:=K) HU) (yW (show CScope (zq yP) _ "one" ["base","thing"] ["base"] [0] from {}) rfl (X5 K (pv 1)) (λ_ _ _ _=>(Xf (PW.pt (jX (wz (xm (zA (YK K) (by rfl) T.n_isinstance boot_isinstance (zf (pv 0) (zf (vq (v:=.ty "int") rfl T.n_int boot_int rfl) zg))))) (jX (xm (zA (YK K) (by rfl) T.n_isinstance boot_isinstance (zf (pv 0) (zf (vq (v:=.ty "bool") rfl T.n_bool boot_bool rfl) zg)))) (uR (wz (QZ XD JW zr (pv 0) (pv 1))))))))) (λ_ _ _ _=>(pv 0))) (yc zg) (zV _))))),?_⟩
  refine⟨_,rfl,_,_,_,_,rfl,hd.ty,Qz d,_,rfl,?_⟩
  cases hl:isT "list" d with
  | false =>
   have q:=kk H (Same.refl _)
   rw [show zM b d=false by cases d<;>first | rfl | cases hl] at q
   exact yp q
  | true =>
   obtain⟨xs,rfl⟩:=Ql hl
   rw [ThAt] at hd
   obtain⟨a,ys,rfl,ha,hx⟩:=hd
   rw [vD] at hs
   refine yf ?_
   have hyl:=hx.len
   have no:¬ (1<=xs.length/\xs.length<=4)->zM b (.list xs)=false:=λz=>by
    unfold zM
    rw [show decide (1<=(XR (.list xs)).length/\(XR (.list xs)).length<=4)=false from decide_eq_false z,Bool.and_false]
   refine⟨_,rfl,a,_,rfl,.inl (SqL.of ha),_,_,rfl,rfl,_,rfl,?_⟩
   by_cases h0:0<ys.length
   case neg =>
    rw [decide_eq_false (show ¬ (0:Int)<(ys.length:Int) by omega)]
    have q:=kk H (Same.refl _)
    rw [no (by omega)] at q
    exact yf ⟨_,rfl,yp q⟩
   rw [decide_eq_true (show (0:Int)<(ys.length:Int) by omega)]
   refine yp ⟨_,_,rfl,rfl,_,rfl,?_⟩
   by_cases h5:ys.length<5
   case neg =>
    rw [decide_eq_false (show ¬ (ys.length:Int)<5 by omega)]
    have q:=kk H (Same.refl _)
    rw [no (by omega)] at q
    exact yp q
   rw [decide_eq_true (show (ys.length:Int)<5 by omega)]
   refine yf ?_
   refine⟨_,rfl,a,rfl,⟨_,SqL.of ha⟩,yQ (K:=K) (a:=a) (xs:=ys) (λi us H4=>us.isEmpty=(xs.take i).all (W5 b)/\us.length<=i/\H4=H) ⟨rfl,Nat.le_refl _,rfl⟩ (λi us H4 _ ⟨_,_,e⟩=>by rw [e];exact SqL.of ha) ?_ ?_⟩
   ·rintro j x us H4 hj ⟨hus,hul,rfl⟩
    obtain⟨e,hej,he⟩:=hx.get hj
    have hj5:=(List.getElem?_eq_some_iff.mp hj).1
    refine⟨Nat.lt_of_le_of_lt hul (Nat.lt_trans hj5 (Nat.lt_trans h5 (by decide))),?_⟩
    have tk:(xs.take (j+1)).all (W5 b)=((xs.take j).all (W5 b) && W5 b e):=by rw [List.take_succ,hej];simp
    have bad:W5 b e=false->((us++[x]).isEmpty=(xs.take (j+1)).all (W5 b)/\(us++[x]).length<=j+1/\H4=H4):=λz=>⟨by rw [tk,z,Bool.and_false];simp,by rw [List.length_append,List.length_singleton];omega,rfl⟩
    refine⟨_,rfl,_,_,_,_,rfl,he.ty,zcP e,_,rfl,?_⟩
    cases hi:isT "int" e with
    | false=>exact yp (yp ⟨_,rfl,bad (by cases e<;>first | rfl | cases hi)⟩)
    | true =>
     refine yf ⟨_,rfl,_,_,_,_,rfl,he.ty,za0 e,_,rfl,?_⟩
     cases hb:isT "bool" e with
     | true=>exact yp (yp ⟨_,rfl,bad (by cases e<;>first | rfl | cases hb)⟩)
     | false =>
      obtain⟨i,rfl⟩:∃ i,e=.int i:=by cases e<;>first | exact⟨_,rfl⟩ | (cases hb;done) | (cases hi;done)
      rw [ThAt] at he
      subst he
      refine yf ⟨_,rfl,_,_,rfl,rfl,_,rfl,?_⟩
      by_cases z0:0<=i
      case neg =>
       rw [decide_eq_false z0]
       exact yf ⟨_,rfl,yp ⟨_,rfl,bad (decide_eq_false λz=>z0 z.1)⟩⟩
      rw [decide_eq_true z0]
      refine yp ⟨_,rfl,_,_,rfl,rfl,_,rfl,?_⟩
      by_cases z1:i<(b:Int)
      ·rw [decide_eq_true z1]
       exact yf ⟨by rw [tk,hus,show W5 b (.int i)=true from decide_eq_true ⟨z0,z1⟩,Bool.and_true],by omega,rfl⟩
      ·rw [decide_eq_false z1]
       exact yp ⟨_,rfl,bad (decide_eq_false λz=>z1 z.2)⟩
   ·rintro us H4 ⟨hus,hul,rfl⟩ Dd hD
    refine⟨(by show 0<=sizeLine;decide),λp0 hp0=>⟨Dd,p0,us,rfl,rfl,SqL.of (zm hp0 _ _ zj),SqL.of zj,?_⟩⟩
    rw [hus,hx.len,List.take_length]
    have q:=kk _ ((zm hD (o:=.lst us)).trans (zm hp0 (o:=.lst [])))
    unfold zM at q
    rw [show decide (1<=(XR (.list xs)).length/\(XR (.list xs)).length<=4)=true from decide_eq_true ⟨by show 1<=xs.length;omega,by show xs.length<=4;omega⟩,Bool.and_true] at q
    exact q
end
theorem Jv {c:Bool} {A B:Prop} (hc:c=false) (h:B):if c=true then A else B:=by rw [hc];exact yf h
theorem zcj {c:Bool} {A B:Prop} (hc:c=true) (h:A):if c=true then A else B:=by rw [hc];exact yp h
theorem ZM {i j:Int} (h:¬ i=j):decide (V.int i=V.int j)=false:=decide_eq_false (λz=>h (by injection z))
theorem KQ.mono {T0 C CK:Addr} {H:Hp} {k la:Addr} {b bd:Nat} {zs:ZB} {ok:ZA->Prop} {Q Q':VK} (h:KQ T0 C CK H k la b bd zs ok Q) (m:∀ v H',Q v H'->Q' v H'):KQ T0 C CK H k la b bd zs ok Q':=λp tl2 sa2 la2 bl2 zs2 ws2 L2 H' a1 a2 a3 a4 a5 a6 a7 a8 a9 a10 a11=>m _ _ (h p tl2 sa2 la2 bl2 zs2 ws2 L2 H' a1 a2 a3 a4 a5 a6 a7 a8 a9 a10 a11)
def qM (b:Nat) (ls:ZA) (d:PyData) (door:Nat):Option Str :=
 if door=0 then (if ls.length=4 then some ("many" : Str) else if zM b d=false\/yr d∈ls then some ("stretch" : Str) else none)
 else if door=1 then (if zM b d=false\/yr d∉ls then some ("stretch" : Str) else none)
 else if V8 d=false then some ("number" : Str) else none
section
variable {b:Nat} {ls:ZA} {d:PyData}
theorem J4 (h:ls.length=4):qM b ls d 0=some ("many" : Str):=by unfold qM;rw [if_pos rfl,if_pos h]
theorem Jy (h:ls.length≠4) (q:zM b d=false\/yr d∈ls):qM b ls d 0=some ("stretch" : Str):=by unfold qM;rw [if_pos rfl,if_neg h,if_pos q]
theorem Qj (h:ls.length≠4) (q:zM b d=true) (q2:yr d∉ls):qM b ls d 0=none:=by unfold qM;rw [if_pos rfl,if_neg h,if_neg (by rintro (z | z);rw [q] at z;cases z;exact q2 z)]
theorem zcM (q:zM b d=false\/yr d∉ls):qM b ls d 1=some ("stretch" : Str):=by unfold qM;rw [if_neg (by decide),if_pos rfl,if_pos q]
theorem zbi (q:zM b d=true) (q2:yr d∈ls):qM b ls d 1=none:=by unfold qM;rw [if_neg (by decide),if_pos rfl,if_neg (by rintro (z | z);rw [q] at z;cases z;exact z q2)]
end
def DueL (door:Nat) (ls:ZA) (ns:List Int) (ls2:ZA):Prop:=(door=0->ls2.Perm (ls++[ns]))/\(door=1->ls2=ls.filter λl=>decide (l≠ns))
section
variable {P:Program} {w:World} {K:W.Frag} {mg:Str->Option Value} {base:Heap}
def jW:Sp:=λvs H Q _=>∃ (r t:Addr) (b:Nat) (bl:Addr) (zs:ZB) (door:Nat) (u:V) (d:PyData),vs=[.ref r,.ref t]/\RuleAt H r b bl zs/\GoodRule b (zs.map (·.2))/\H t=some (.tup [.int door,u])/\door<=1/\ThAt H d u/\vD d<=100000 /\
 (∀ x,qM b (zs.map (·.2)) d door=some x->∀ H',Same H H'->Q (.str x) H') /\
 (qM b (zs.map (·.2)) d door=none->∀ (r2 bl2:Addr) (zs2:ZB) (H':Hp),Same H H'->RuleAt H' r2 b bl2 zs2->GoodRule b (zs2.map (·.2))->DueL door (zs.map (·.2)) (yr d) (zs2.map (·.2))->H r2=none->H bl2=none->(∀ z∈zs2,z∈zs\/H z.1=none)->Q (.ref r2) H')
theorem qb:zB ["rule","deed","base","bad","door","stretch"] ["rule","deed"] (zq jN):={}
set_option maxHeartbeats 0 in
theorem V0 {f f1:Addr} {fd fd1:FuncData} (D:Df K mg "_law_due" jN Ba f fd) (yq:Df K mg "_law_is_stretch" yP Ab f1 fd1) (T:Blt mg):FnOk P w K mg base CX0 2 f fd Ba jW:=by
 have Zx:FnOk P w K mg base CX0 1 f1 fd1 Ab ug:=jK yq T
 refine D.fn.ok qb (λvs H Q E h=>?_) (λcdv A outer s H vs Q E hr h=>?_)
 ·obtain⟨r,t,b,bl,zs,door,u,d,rfl,_⟩:=h;rfl
 ·obtain⟨r,t,b,bl,zs,door,u,d,rfl,R,g,ht,hdo,hd,hs,kR,kO⟩:=h
  have HU:=Wt hr
  have h4:zs.length<=4:=by have:=g.len;rwa [List.length_map] at this
  have hl:(zs.map (·.2)).length=zs.length:=List.length_map _
  have kM:door=0->zs.length=4->∀ H',Same H H'->Q (.str "many") H':=λh0 hl4=>kR _ (by rw [h0];exact J4 (by omega))
  have kS:¬ (door=0/\zs.length=4)->(zM b d=false\/¬ (yr d∈zs.map (·.2)↔door=1))->∀ H',Same H H'->Q (.str "stretch") H':=λhn q=>by
   refine kR _ ?_
   rcases (show door=0\/door=1 by omega) with rfl | rfl
   ·refine Jy (λz=>hn ⟨rfl,by omega⟩) (q.imp id λz=>?_)
    by_cases hi:yr d∈zs.map (·.2)
    ·exact hi
    ·exact absurd ⟨λy=>absurd y hi,λy=>absurd y (by decide)⟩ z
   ·exact zcM (q.imp id λz hi=>z ⟨λ_=>rfl,λ_=>hi⟩)
  have kG:zM b d=true->(yr d∈zs.map (·.2)↔door=1)->¬ (door=0/\zs.length=4)->∀ (r2 bl2:Addr) (zs2:ZB) (H':Hp),Same H H'->RuleAt H' r2 b bl2 zs2->GoodRule b (zs2.map (·.2))->DueL door (zs.map (·.2)) (yr d) (zs2.map (·.2))->H r2=none->H bl2=none->(∀ z∈zs2,z∈zs\/H z.1=none)->Q (.ref r2) H':=λh1 h2 h3=>by
   refine kO ?_
   rcases (show door=0\/door=1 by omega) with rfl | rfl
   ·exact Qj (λz=>h3 ⟨rfl,by omega⟩) h1 λz=>absurd (h2.mp z) (by decide)
   ·exact zbi h1 (h2.mpr rfl)
  refine⟨_,(zp (QQ (pv 0) (zaB rfl (qi (yV (i:=2) qb.nd rfl (Or.inl rfl)) (qi (yV (i:=3) qb.nd rfl (Or.inl rfl)) Uh))))
   (zp (QQ (pv 1) (zaB rfl (qi (yV (i:=4) qb.nd rfl (Or.inl rfl)) (qi (yV (i:=5) qb.nd rfl (Or.inr rfl)) Uh))))
   (zp (yE (PW.pt (zbP (zP YZ (pv 4) zr (zV _)) (zas (zP YZ (zA (wF K) (by rfl) T.n_len PySem.boot_len (zf (pv 3) zg)) zr (zV _)))))
    (zu (zF uv))
    zT)
   (zp (yE (PW.pt (jX (wz (xm (zJ yq Zx (hr.mono (by decide)) (zf (pv 2) (zf (pv 5) zg))))) (uR (zP zcQ (tR (zfw K HU) (pv 5) (pv 3) (by with_unfolding_all rfl)) (tR YZ (pv 4) zr (zV _)) (zV _)))))
    (zu (zF uv))
    zT)
   (zp (yE (zP YZ (pv 4) zr (zV _))
    (zu (zF (qG (zf (pv 2) (zf (zA (zcO K HU) (by rfl) T.n_sorted boot_sorted (zf (zN uG (pv 3) (yc (zf (wG (Z0 K) (by rfl) T.n_list boot_list (zf (pv 5) zg)) zg))) zg)) zg)))))
    zT)
   (zu (zF (qG (zf (pv 2) (zf (yW (show CScope (zq jN) _ "one" ["rule","deed","base","bad","door","stretch"] ["stretch"] [5] from {}) rfl (X5 K (pv 3)) (λ_ _ _ _=>(Xf (zP (Q0 K HU) (pv 0) (pv 1) (zV _)))) (λ_ _ _ _=>(pv 0))) zg)))))))))),?_⟩
  refine⟨_,rfl,r,_,rfl,SqT.of R.tu,rfl,_,_,rfl,_,_,rfl,rfl,?_⟩
  refine⟨_,rfl,t,_,rfl,SqT.of ht,rfl,_,_,rfl,_,_,rfl,rfl,?_⟩
  have kS:=λ(z:¬ (door=0/\zs.length=4)) q=>kS z q
  suffices key:¬ (door=0/\zs.length=4)->_ by
   refine⟨_,rfl,rfl,_,rfl,?_⟩
   by_cases hd0:door=0
   ·rw [decide_eq_true (by rw [hd0];rfl)]
    refine yp ⟨_,rfl,bl,_,rfl,.inl (SqL.of R.li),rfl,_,rfl,?_⟩
    rw [List.length_map]
    by_cases hl4:zs.length=4
    ·rw [decide_eq_true (by rw [hl4];rfl)]
     exact yp (kM hd0 hl4 H (Same.refl _))
    ·rw [decide_eq_false (λz=>hl4 (by injection z with z;omega))]
     exact yf (key λz=>hl4 z.2)
   ·rw [ZM (by omega)]
    exact yf (key λz=>hd0 z.1)
  intro hn4
  refine⟨_,rfl,_,rfl,b,u,d,rfl,hd,hs,λH1 s1=>⟨_,rfl,?_⟩⟩
  cases hstr:zM b d with
  | false=>exact yp (kS hn4 (.inl hstr) H1 s1)
  | true =>
  refine yf ?_
  obtain⟨st,rfl,hst,gst⟩:=zd2 hd hstr
  have kS:=λz=>kS hn4 (.inr z)
  have kk:=λz=>kG hstr z hn4
  generalize yr d=ns at hst gst kk kS
  have R1:=R.same s1
  refine⟨_,rfl,_,rfl,bl,_,(zs.map (·.2)).map yK,yK ns,rfl,SqL.of R1.li,TrsAt.lists R1.st,TrAt.ints (a:=st) (SqL.of (s1 _ _ hst)),Nat.le_trans (wk _) (by decide),?_⟩
  rw [if_neg (by decide),Xg]
  refine⟨_,rfl,rfl,rfl,_,rfl,?_⟩
  have e1:decide (V.int (door:Int)=V.int 1)=decide (door=1):=decide_eq_decide.mpr ⟨λz=>by injection z with z;omega,λz=>by rw [z];rfl⟩
  rw [e1]
  by_cases hiff:ns∈zs.map (·.2)↔door=1
  case neg =>
   rw [show (!decide (V.bl (decide (ns∈zs.map (·.2)))=V.bl (decide (door=1))))=true by
    rw [decide_eq_false (λz=>hiff (by injection z with z;exact decide_eq_decide.mp z))];rfl]
   exact yp (kS hiff H1 s1)
  rw [show (!decide (V.bl (decide (ns∈zs.map (·.2)))=V.bl (decide (door=1))))=false by
    rw [decide_eq_true (by rw [decide_eq_decide.mpr hiff])];rfl]
  refine yf ?_
  have kk:=kk hiff
  refine⟨_,rfl,rfl,_,rfl,?_⟩
  rcases (show door=0\/door=1 by omega) with rfl | rfl
  ·refine zcj (decide_eq_true rfl) ?_
   have hnot:ns∉zs.map (·.2):=λz=>absurd (hiff.mp z) (by decide)
   have h3:zs.length<=3:=by
    by_cases z:zs.length=4
    ·exact absurd ⟨rfl,z⟩ hn4
    ·omega
   refine⟨_,rfl,_,rfl,_,rfl,st,_,rfl,.inl (SqL.of (s1 _ _ hst)),λq hq=>⟨(by show 1<=sizeLine;decide),λl1 hl1=>?_⟩⟩
   have s2:=s1.trans (zm hq (o:=.lst (ns.map V.int)))
   have s3:=s2.trans (zm hl1 (o:=.lst [.ref q]))
   have hq3:=zm hl1 (o:=.lst [.ref q]) _ _ (zj (H:=H1) (a:=q) (o:=.lst (ns.map V.int)))
   refine⟨bl,l1,_,_,rfl,rfl,s3 _ _ R.li,zj,by rw [List.length_map];exact Nat.le_trans (show zs.length+1<=5 by omega) (by decide),λl2 hl2=>?_⟩
   have s4:=s3.trans (zm hl2 (o:=.lst (zs.map (λz=>V.ref z.1)++[.ref q])))
   have hq4:=zm hl2 (o:=.lst (zs.map (λz=>V.ref z.1)++[.ref q])) _ _ hq3
   have nd:((zs++[(q,ns)]).map (·.2)).Nodup:=by
    rw [List.map_append]
    refine List.nodup_append.mpr ⟨g.nodup,by simp,λx hx y hy=>?_⟩
    have e:y=ns:=by simpa using hy
    rw [e]
    exact λz=>hnot (z▸hx)
   have hst4:∀ z∈zs++[(q,ns)],upd (upd (upd H1 q (.lst (ns.map V.int))) l1 (.lst [.ref q])) l2 (.lst (zs.map (λz=>V.ref z.1)++[.ref q])) z.1=some (.lst (z.2.map V.int)):=λz hz=>by
    rcases List.mem_append.mp hz with hz | hz
    ·exact s4 _ _ (R.st z hz)
    ·have e:z=(q,ns):=by simpa using hz
     subst e;exact hq4
   refine⟨l2,zs++[(q,ns)],rfl,SqL.of (by rw [zj];simp),by rw [List.length_append,List.length_singleton];omega,λz hz=>SqL.of (hst4 z hz),nd,λbq zs' hbq pm pw=>?_⟩
   have s5:=zm hbq (o:=.lst (zs'.map λz=>V.ref z.1))
   have s15:=s4.trans s5
   have hmem:∀ z,z∈zs'↔z∈zs++[(q,ns)]:=λz=>pm.mem_iff
   have gm:GoodRule b (zs'.map (·.2)):=⟨g.b2,g.b16,by rw [List.length_map,pm.length_eq,List.length_append,List.length_singleton];omega,λl hl=>by
    obtain⟨z,hz,rfl⟩:=List.mem_map.mp hl
    rcases List.mem_append.mp ((hmem z).mp hz) with hz | hz
    ·exact g.st _ (List.mem_map.mpr ⟨z,hz,rfl⟩)
    ·have e:z=(q,ns):=by simpa using hz
     subst e;exact gst,by rw [List.pairwise_map];exact pw⟩
   refine⟨(by show 2<=sizeLine;decide),λr2 hr2=>?_⟩
   have s6:=zm hr2 (o:=.tup [.int b,.ref bq])
   refine kk r2 bq zs' _ (s15.trans s6) ⟨zj,s6 _ _ zj,λz hz=>s6 _ _ (s5 _ _ (hst4 z ((hmem z).mp hz)))⟩ gm ⟨λ_=>?_,λz=>absurd z (by decide)⟩ (s15.free hr2) (s4.free hbq) λz hz=>?_
   ·have:=pm.map (·.2)
    rwa [List.map_append] at this
   ·rcases List.mem_append.mp ((hmem z).mp hz) with h | h
    ·exact .inl h
    ·have e:z=(q,ns):=by simpa using h
     subst e;exact .inr (s1.free hq)
  ·refine Jv (ZM (by decide)) ?_
   refine⟨_,rfl,_,rfl,bl,rfl,⟨_,SqL.of R1.li⟩,yQ (K:=K) (a:=bl) (xs:=zs.map λz=>V.ref z.1) (λi ys H4=>H4=H1/\ys=((zs.take i).filter λz=>decide (z.2≠ns)).map λz=>V.ref z.1) ⟨rfl,rfl⟩ (λi ys H4 _ ⟨e,_⟩=>by rw [e];exact SqL.of R1.li) ?_ ?_⟩
   ·rintro j x ys H4 hx ⟨rfl,rfl⟩
    rw [List.getElem?_map] at hx
    obtain⟨z,hzj,e⟩:=Option.map_eq_some_iff.mp hx
    subst e
    have hzm:=List.mem_of_getElem? hzj
    refine⟨by rw [List.length_map];exact Nat.lt_of_le_of_lt (Nat.le_trans (List.length_filter_le _ _) (Nat.le_trans (List.length_take_le' _ _) h4)) (by decide),?_⟩
    refine⟨_,rfl,_,rfl,yK z.2,yK ns,TrAt.ints (a:=z.1) (SqL.of (R1.st z hzm)),TrAt.ints (a:=st) (SqL.of (s1 _ _ hst)),(by rw [uO];decide),_,rfl,?_⟩
    rw [if_pos rfl,ql,List.take_succ,hzj]
    by_cases e:z.2=ns
    ·rw [decide_eq_true e]
     refine yf ⟨rfl,?_⟩
     simp [List.filter_append,e]
    ·rw [decide_eq_false e]
     refine yp ⟨_,rfl,rfl,?_⟩
     simp [List.filter_append,e]
   rintro ys H4 ⟨rfl,rfl⟩ bq hbq
   rw [List.length_map,List.take_length]
   have s5:=zm hbq (o:=.lst ((zs.filter λz=>decide (z.2≠ns)).map λz=>V.ref z.1))
   have s15:=s1.trans s5
   have ef:(zs.filter λz=>decide (z.2≠ns)).map (·.2)=(zs.map (·.2)).filter λl=>decide (l≠ns):=by
    rw [List.filter_map];rfl
   have gm:GoodRule b ((zs.filter λz=>decide (z.2≠ns)).map (·.2)):=by
    rw [ef]
    exact⟨g.b2,g.b16,Nat.le_trans (List.length_filter_le _ _) g.len,λl hl=>g.st l (List.mem_filter.mp hl).1,g.up.sublist List.filter_sublist⟩
   refine⟨(by show 2<=sizeLine;decide),λr2 hr2=>?_⟩
   have s6:=zm hr2 (o:=.tup [.int b,.ref bq])
   exact kk r2 bq _ _ (s15.trans s6) ⟨zj,s6 _ _ zj,λz hz=>s6 _ _ (s15 _ _ (R.st z (List.mem_filter.mp hz).1))⟩ gm ⟨λz=>absurd z (by decide),λ_=>ef⟩ (s15.free hr2) (s1.free hbq) λz hz=>.inl (List.mem_filter.mp hz).1
def We:Sp:=λvs H Q _=>∃ (r:Addr) (b:Nat) (bl:Addr) (zs:ZB) (n:Nat),vs=[.ref r,.int n]/\RuleAt H r b bl zs/\GoodRule b (zs.map (·.2))/\n<2^900/\∀ H',Same H H'->Q (.bl (gd (zs.map (·.2)) b n)) H'
theorem zbC:zB ["rule","n"] ["rule","n"] (zq Xq):={}
theorem zbX {qS qA qB:Addr} {f f1 f2 f3 f4:Addr} {fd fd1 fd2 fd3 fd4:FuncData} (D:Df K mg "is_good" Xq Ah f fd) (yo:Df K mg "check_rule" wy Aa f1 fd1) (yC:FnOk P w K mg base (CX1 P w) 7 f1 fd1 Aa (wI qS))
  (yw:Df K mg "lacks_all" wj Ac f2 fd2) (yN:Df K mg "stands_within" xx Ax f4 fd4) (yZ:Df K mg "figures_of" wZ Ao f3 fd3) (xF:FnOk P w K mg base (CX1 P w) 4 f3 fd3 Ao (vH qA qB)) (T:Blt mg) :
  FnOk P w K mg base CX0 8 f fd Ah We:=by
 have xr:FnOk P w K mg base CX0 2 f2 fd2 Ac wX:=W3 yw yN T
 refine D.fn.ok zbC (λvs H Q E h=>?_) (λcdv A outer s H vs Q E hr h=>?_)
 ·obtain⟨r,b,bl,zs,n,rfl,_⟩:=h;rfl
 ·obtain⟨r,b,bl,zs,n,rfl,R,g,hn,kk⟩:=h
  obtain⟨d,td,rd,fit⟩:=R.thing g
  have hsz:vD d<=100000:=Nat.le_trans (Wn d) (Nat.le_trans fit.wt (by decide))
  refine⟨_,(zp (vg (jq yo yC (hr.mono (by decide)) JH (zf (pv 0) zg)))
   (zu (zF (zJ yw xr (hr.mono (by decide)) (zf (zW (wU K) (pv 0) zr (λ_ _=>rfl)) (zf (jq yZ xF (hr.mono (by decide)) JH (zf (zW (wU K) (pv 0) zr (λ_ _=>rfl)) (zf (pv 1) zg))) zg)))))),?_⟩
  refine⟨_,rfl,.ref r,d,rfl,td,hsz,λz=>absurd (rd.symm.trans z) (by decide),λ_ H1 s1=>?_⟩
  have R1:=R.same s1
  refine⟨_,rfl,r,_,_,V.ref bl,rfl,rfl,SqT.of R1.tu,rfl,?_⟩
  refine⟨_,rfl,r,_,_,V.int b,rfl,rfl,SqT.of R1.tu,rfl,_,rfl,.int b,.int n,.int b,.int n,rfl,by rw [ThAt],by rw [ThAt],λz=>zau g.b2 g.b16 z,λ_ z=>UW z,λb' n' eb _ _ en=>?_⟩
  obtain rfl:b=b':=by injection eb with eb;omega
  obtain rfl:n=n':=by injection en with en;omega
  refine⟨hn,λl H2 hl hv s2=>?_⟩
  have R2:=R1.same s2
  have hfl:=Ww g.b2 900 n hn
  have h4:zs.length<=4:=by have:=g.len;rwa [List.length_map] at this
  exact⟨bl,l,zs,figs b n,rfl,R2.li,R2.st,hv,by omega,by omega,λz hz=>⟨(g.st _ (List.mem_map.mpr ⟨z,hz,rfl⟩)).ne,Nat.le_trans (g.st _ (List.mem_map.mpr ⟨z,hz,rfl⟩)).len (by decide)⟩,λH3 s3=>kk H3 ((s1.trans s2).trans s3)⟩
structure OneAt (H:Hp) (l r:Addr) (b:Nat) (bl:Addr) (zs:ZB):Prop where
 li:H l=some (.lst [V.ref r])
 ru:RuleAt H r b bl zs
 g:GoodRule b (zs.map (·.2))
theorem OneAt.same {H H':Hp} {l r:Addr} {b:Nat} {bl:Addr} {zs:ZB} (O:OneAt H l r b bl zs) (m:Same H H'):OneAt H' l r b bl zs:=⟨m _ _ O.li,O.ru.same m,O.g⟩
def Yy:Sp:=λvs H Q _=>∃ (l r:Addr) (b:Nat) (bl:Addr) (zs:ZB),vs=[.ref l]/\OneAt H l r b bl zs/\∀ H',Same H H'->Q (.bl true) H'
theorem zaL:zB ["thing"] ["thing"] (zq tV):={}
theorem zaq {f f1:Addr} {fd fd1:FuncData} {t1:Tok} (D:Df K mg "are_rules" tV Aa f fd) (jo:Df K mg "is_rule" ZC Aa f1 fd1) (ZX:FnOk P w K mg base CX0 6 f1 fd1 Aa Yk) (Yq:mg "MOST_RULES" = some (.int 3 t1)) (T:Blt mg):FnOk P w K mg base CX0 7 f fd Aa Yy:=by
 refine D.fn.ok zaL (λvs H Q E h=>?_) (λcdv A outer s H vs Q E hr h=>?_)
 ·obtain⟨l,r,b,bl,zs,rfl,_⟩:=h;rfl
 ·obtain⟨l,r,b,bl,zs,rfl,O,kk⟩:=h
  refine⟨_,(zp (yE (PW.pt (jX (wz (xm (zA (YK K) (by rfl) T.n_isinstance boot_isinstance (zf (pv 0) (zf (vq (v:=.ty "list") rfl T.n_list boot_list rfl) zg))))) (uR (wz (QZ XD XD zr (zA (wF K) (by rfl) T.n_len PySem.boot_len (zf (pv 0) zg)) (yH (v:=.int 3) rfl Yq ⟨_,rfl⟩))))))
    (zu (zF jn))
    zT)
   (zu (zF (zA (k_all K rfl) (by rfl) T.n_all boot_all (zf (yW (show CScope (zq tV) _ "each" ["thing"] [] [] from {}) rfl (X5 K (pv 0)) (λ_ _ _ _=>wA) (λ_ _ _ _=>(zJ jo ZX (hr.mono (by decide)) (zf (pv 0) zg)))) zg))))),?_⟩
  refine⟨_,rfl,_,_,_,_,rfl,.lst O.li,Jj,_,rfl,yf ?_⟩
  refine⟨_,rfl,l,_,rfl,.inl (SqL.of O.li),_,_,rfl,rfl,_,rfl,?_⟩
  refine zcj (show decide ((1:Int)<=1)=true by decide) ?_
  refine⟨_,_,rfl,rfl,_,rfl,Jv (show (!decide ((1:Int)<=3))=false by decide) ?_⟩
  refine⟨_,rfl,l,rfl,⟨_,SqL.of O.li⟩,yQ (K:=K) (a:=l) (xs:=[V.ref r]) (λi ys H4=>ys=(List.replicate i true).map V.bl/\Same H H4) ⟨by simp,Same.refl _⟩ (λi ys H4 _ ⟨_,m4⟩=>SqL.of (m4 _ _ O.li)) ?_ ?_⟩
  ·rintro j y ys H4 hx ⟨rfl,m4⟩
   have hj:j=0:=by have:=(List.getElem?_eq_some_iff.mp hx).1;simp at this;exact this
   subst hj
   obtain rfl:V.ref r=y:=by simpa using hx
   refine⟨by show 0<sizeLine;decide,?_⟩
   unfold Xu
   dsimp only
   rw [if_pos rfl]
   obtain⟨d,td,rd,fit⟩:=(O.ru.same m4).thing O.g
   refine⟨_,rfl,.ref r,d,rfl,td,Nat.le_trans (Wn d) (Nat.le_trans fit.wt (by decide)),λH5 m5=>⟨?_,m4.trans m5⟩⟩
   rw [rd];rfl
  ·rintro ys H4 ⟨rfl,m4⟩ Dd hD
   refine⟨Dd,[true],rfl,SqL.of zj,?_⟩
   exact kk _ (m4.trans (zm hD))
def jD:Sp:=λvs H Q _=>∃ (l r:Addr) (b:Nat) (bl:Addr) (zs:ZB),vs=[.ref l]/\OneAt H l r b bl zs/\∀ H',Same H H'->Q .non H'
theorem Uz:zB ["thing"] ["thing"] (zq tL):={}
theorem Ja {f f1:Addr} {fd fd1:FuncData} (D:Df K mg "check_rules" tL Aa f fd) (Yi:Df K mg "are_rules" tV Aa f1 fd1) (Wh:FnOk P w K mg base CX0 7 f1 fd1 Aa Yy):FnOk P w K mg base CX0 8 f fd Aa jD:=by
 refine D.fn.ok Uz (λvs H Q E h=>?_) (λcdv A outer s H vs Q E hr h=>?_)
 ·obtain⟨l,r,b,bl,zs,rfl,_⟩:=h;rfl
 ·obtain⟨l,r,b,bl,zs,rfl,O,kk⟩:=h
  refine⟨_,(zu (yE (wz (xm (zJ Yi Wh (hr.mono (by decide)) (zf (pv 0) zg))))
    (zu zaY)
    zT)),?_⟩
  exact⟨_,rfl,l,r,b,bl,zs,rfl,O,λH1 s1=>⟨_,rfl,yf (kk H1 s1)⟩⟩
def ud:Sp:=λvs H Q _=>∃ (l r:Addr) (b:Nat) (bl:Addr) (zs:ZB) (n:Nat),vs=[.ref l,.int n]/\OneAt H l r b bl zs/\n<2^900/\∀ H',Same H H'->Q (.bl (gd (zs.map (·.2)) b n)) H'
theorem X4:zB ["rules","n"] ["rules","n"] (zq xH):={}
theorem Wd {f f1:Addr} {fd fd1:FuncData} (D:Df K mg "is_good_by_each" xH Af f fd) (W0:Df K mg "is_good" Xq Ah f1 fd1) (QV:FnOk P w K mg base CX0 8 f1 fd1 Ah We) (T:Blt mg):FnOk P w K mg base CX0 9 f fd Af ud:=by
 refine D.fn.ok X4 (λvs H Q E h=>?_) (λcdv A outer s H vs Q E hr h=>?_)
 ·obtain⟨l,r,b,bl,zs,n,rfl,_⟩:=h;rfl
 ·obtain⟨l,r,b,bl,zs,n,rfl,O,hn,kk⟩:=h
  refine⟨_,(zu (zF (zA (k_all K rfl) (by rfl) T.n_all boot_all (zf (yW (show CScope (zq xH) _ "rule" ["rules","n"] ["n"] [1] from {}) rfl (X5 K (pv 0)) (λ_ _ _ _=>wA) (λ_ _ _ _=>(zJ W0 QV (hr.mono (by decide)) (zf (pv 0) (zf (pv 1) zg))))) zg)))),?_⟩
  refine⟨_,rfl,l,rfl,⟨_,SqL.of O.li⟩,yQ (K:=K) (a:=l) (xs:=[V.ref r]) (λi ys H4=>ys=(List.replicate i (gd (zs.map (·.2)) b n)).map V.bl/\Same H H4) ⟨by simp,Same.refl _⟩ (λi ys H4 _ ⟨_,m4⟩=>SqL.of (m4 _ _ O.li)) ?_ ?_⟩
  ·rintro j y ys H4 hx ⟨rfl,m4⟩
   have hj:j=0:=by have:=(List.getElem?_eq_some_iff.mp hx).1;simp at this;exact this
   subst hj
   obtain rfl:V.ref r=y:=by simpa using hx
   refine⟨by show 0<sizeLine;decide,?_⟩
   unfold Xu
   dsimp only
   rw [if_pos rfl]
   exact⟨_,rfl,_,rfl,r,b,bl,zs,n,rfl,O.ru.same m4,O.g,hn,λH5 m5=>⟨rfl,m4.trans m5⟩⟩
  ·rintro ys H4 ⟨rfl,m4⟩ Dd hD
   refine⟨Dd,[gd (zs.map (·.2)) b n],rfl,SqL.of zj,?_⟩
   have q:=kk _ (m4.trans (zm hD (o:=.lst ((List.replicate 1 (gd (zs.map (·.2)) b n)).map V.bl))))
   rw [List.all_cons,List.all_nil,Bool.and_true]
   exact q
def jr:Sp:=λvs H Q _=>∃ n:Nat,vs=[.int n]/\n<=2000/\Q .non H
theorem Qc:zB ["thing"] ["thing"] (zq tQ):={}
theorem Q6 {f f1 f2:Addr} {fd fd1 fd2:FuncData} {t1:Tok} (D:Df K mg "check_bound" tQ Aa f fd) (wN:Df K mg "is_number" qe Aa f2 fd2) (yx:Df K mg "is_whole" uf Aa f1 fd1) (uT:mg "GREATEST_BOUND" = some (.int 2000 t1)) (T:Blt mg):FnOk P w K mg base CX0 3 f fd Aa jr:=by
 have jk:FnOk P w K mg base CX0 2 f2 fd2 Aa qJ:=WL wN yx T
 refine D.fn.ok Qc (λvs H Q E h=>?_) (λcdv A outer s H vs Q E hr h=>?_)
 ·obtain⟨n,rfl,_⟩:=h;rfl
 ·obtain⟨n,rfl,hn,kk⟩:=h
  refine⟨_,(zu (yE (PW.pt (jX (wz (xm (zJ wN jk (hr.mono (by decide)) (zf (pv 0) zg)))) (uR (zP zba (pv 0) (yH (v:=.int 2000) rfl uT ⟨_,rfl⟩) (zV _)))))
    (zu zaY)
    zT)),?_⟩
  refine⟨_,rfl,.int n,.int n,rfl,by rw [ThAt],_,rfl,?_⟩
  rw [show V8 (.int n)=true from decide_eq_true (show (0:Int)<=n by omega)]
  refine yf ?_
  refine⟨_,rfl,_,_,rfl,rfl,_,rfl,?_⟩
  rw [decide_eq_false (show ¬ (2000:Int)<n by omega)]
  exact yf kk
def jf:Sp:=λvs H Q _=>∃ (l r:Addr) (b:Nat) (bl:Addr) (zs:ZB) (n:Nat),vs=[.ref l,.int n]/\OneAt H l r b bl zs/\n<=2000/\∀ (p:Addr) (vs:List V) (H':Hp),H' p=some (.lst vs)->vs.length=many (gd (zs.map (·.2)) b) n->Same H H'->Q (.ref p) H'
theorem Q7:zB ["rules","n"] ["rules","n"] (zq vR):={}
theorem Qt {f f1 f2 f3:Addr} {fd fd1 fd2 fd3:FuncData} (D:Df K mg "all_keeping" vR Af f fd) (qX:Df K mg "check_rules" tL Aa f1 fd1) (Ys:FnOk P w K mg base CX0 8 f1 fd1 Aa jD) (qK:Df K mg "check_bound" tQ Aa f2 fd2) (Yg:FnOk P w K mg base CX0 3 f2 fd2 Aa jr)
  (wW:Df K mg "is_good_by_each" xH Af f3 fd3) (uV:FnOk P w K mg base CX0 9 f3 fd3 Af ud) (T:Blt mg):FnOk P w K mg base CX0 10 f fd Af jf:=by
 refine D.fn.ok Q7 (λvs H Q E h=>?_) (λcdv A outer s H vs Q E hr h=>?_)
 ·obtain⟨l,r,b,bl,zs,n,rfl,_⟩:=h;rfl
 ·obtain⟨l,r,b,bl,zs,n,rfl,O,hn,kk⟩:=h
  refine⟨_,(zp (vg (zJ qX Ys (hr.mono (by decide)) (zf (pv 0) zg)))
   (zp (vg (zJ qK Yg (hr.mono (by decide)) (zf (pv 1) zg)))
   (zu (zF (yW (show CScope (zq vR) _ "each" ["rules","n"] ["rules"] [0] from {}) rfl (xg rfl T.n_range (zf (pv 1) zg)) (λ_ _ _ _=>(Xf (xm (zJ wW uV (hr.mono (by decide)) (zf (pv 1) (zf (pv 0) zg)))))) (λ_ _ _ _=>(pv 0))))))),?_⟩
  refine⟨_,rfl,l,r,b,bl,zs,rfl,O,λH1 m1=>?_⟩
  refine⟨_,rfl,n,rfl,hn,?_⟩
  refine⟨_,rfl,(n:Int),rfl,by omega,by omega,uU (lo:=0) (n:=(n:Int).toNat) (λi ys H4=>ys.length=many (gd (zs.map (·.2)) b) i/\many (gd (zs.map (·.2)) b) i<=i/\Same H H4) ⟨rfl,Nat.le_refl _,m1⟩ ?_ ?_⟩
  ·rintro i ys H4 hi ⟨hy,hle,m4⟩
   refine⟨by rw [hy];exact Nat.lt_of_le_of_lt (show many (gd (zs.map (·.2)) b) i<=2000 by omega) (by decide),?_⟩
   refine⟨_,rfl,_,rfl,l,r,b,bl,zs,i,by rw [Int.zero_add];rfl,O.same m4,Nat.lt_of_le_of_lt (show i<=2000 by omega) (Nat.lt_of_lt_of_le (show 2000<2^11 by decide) (Nat.pow_le_pow_right (by decide) (by decide))),λH5 m5=>⟨_,rfl,?_⟩⟩
   have e:many (gd (zs.map (·.2)) b) (i+1)=many (gd (zs.map (·.2)) b) i+if gd (zs.map (·.2)) b i=true then 1 else 0:=rfl
   cases hk:gd (zs.map (·.2)) b i with
   | true =>
    rw [hk,if_pos rfl] at e
    exact yp ⟨_,rfl,by rw [List.length_append,hy,e];rfl,by omega,m4.trans m5⟩
   | false =>
    rw [hk,if_neg (by decide)] at e
    exact yf ⟨by rw [hy,e];rfl,by omega,m4.trans m5⟩
  ·rintro ys H4 ⟨hy,_,m4⟩ p hp
   refine kk p ys _ zj ?_ (m4.trans (zm hp))
   rw [hy,Int.toNat_natCast]
def uP:Sp:=λvs H Q _=>∃ (l r:Addr) (b:Nat) (bl:Addr) (zs:ZB) (n:Nat),vs=[.ref l,.int n]/\OneAt H l r b bl zs/\n<=2000/\∀ H':Hp,Same H H'->Q (.int (many (gd (zs.map (·.2)) b) n:Nat)) H'
theorem Vo:zB ["rules","n"] ["rules","n"] (zq vU):={}
theorem Vj {f f1:Addr} {fd fd1:FuncData} (D:Df K mg "count_keeping" vU Af f fd) (qR:Df K mg "all_keeping" vR Af f1 fd1) (Ym:FnOk P w K mg base CX0 10 f1 fd1 Af jf) (T:Blt mg):FnOk P w K mg base CX0 11 f fd Af uP:=by
 refine D.fn.ok Vo (λvs H Q E h=>?_) (λcdv A outer s H vs Q E hr h=>?_)
 ·obtain⟨l,r,b,bl,zs,n,rfl,_⟩:=h;rfl
 ·obtain⟨l,r,b,bl,zs,n,rfl,O,hn,kk⟩:=h
  refine⟨_,(zu (zF (zA (wF K) (by rfl) T.n_len PySem.boot_len (zf (zJ qR Ym (hr.mono (by decide)) (zf (pv 0) (zf (pv 1) zg))) zg)))),?_⟩
  refine⟨_,rfl,_,rfl,l,r,b,bl,zs,n,rfl,O,hn,λp vs H1 hv hl m1=>⟨p,_,rfl,.inl (SqL.of hv),?_⟩⟩
  rw [hl]
  exact kk H1 m1
end
structure zcg (mg:Str->Option Value) (qA qB qE qS qU qV xA xB xC xD xE xI xL:Addr):Prop where
 qAb:mg "NoBase" = some (.ref qA)
 qAf:mg "NoNumber" = some (.ref qB)
 qAc:mg "NoFigures" = some (.ref qE)
 qAh:mg "NoRule" = some (.ref qS)
 qAj:mg "NoStand" = some (.ref qU)
 qAd:mg "NoGood" = some (.ref qV)
 qAa:mg "Endless" = some (.ref xA)
 qAi:mg "NoRules" = some (.ref xB)
 qBa:mg "NoStretch" = some (.ref xC)
 qBc:mg "TooMany" = some (.ref xD)
 qBb:mg "NoText" = some (.ref xE)
 qAe:mg "NoName" = some (.ref xI)
 qAg:mg "NoRow" = some (.ref xL)
structure XM (K:W.Frag) (C qA qB qE qS qU qV xA xB xC xD xE xI xL:Addr) (k:Nat):Prop where
 i:Ub K C
 v:W.kitOne K (.ref C) (.type "ValueError")=some true
 k0:W.kitOne K (.ref C) (.ref qA)=some (decide (0=k))
 k1:W.kitOne K (.ref C) (.ref qB)=some (decide (1=k))
 k2:W.kitOne K (.ref C) (.ref qE)=some (decide (2=k))
 k3:W.kitOne K (.ref C) (.ref qS)=some (decide (3=k))
 k4:W.kitOne K (.ref C) (.ref qU)=some (decide (4=k))
 k5:W.kitOne K (.ref C) (.ref qV)=some (decide (5=k))
 k6:W.kitOne K (.ref C) (.ref xA)=some (decide (6=k))
 k7:W.kitOne K (.ref C) (.ref xB)=some (decide (7=k))
 k8:W.kitOne K (.ref C) (.ref xC)=some (decide (8=k))
 k9:W.kitOne K (.ref C) (.ref xD)=some (decide (9=k))
 k10:W.kitOne K (.ref C) (.ref xE)=some (decide (10=k))
 k11:W.kitOne K (.ref C) (.ref xI)=some (decide (11=k))
 k12:W.kitOne K (.ref C) (.ref xL)=some (decide (12=k))
def JB:List Str:=["base","number","figures","rule","stand","good","endless","rules","stretch","many","text","name","row"]
theorem Ud:bootBuiltins "ValueError" = some (.type "ValueError"):=by decide +kernel
section
variable {P:Program} {w:World} {K:W.Frag} {mg:Str->Option Value} {base:Heap}
def Yt (K:W.Frag) (qA qB qE qS qU qV xA xB xC xD xE xI xL:Addr):Sp:=λvs H Q _=>∃ (e C:Addr) (k:Nat) (dk d:Str),vs=[.ref e,.str d]/\H e=some (Vl e C)/\XM K C qA qB qE qS qU qV xA xB xC xD xE xI xL k/\JB[k]?=some dk/\∀ H',Same H H'->Q (.bl (decide (dk=d))) H'
theorem wB:zB ["e","due","kinds","words","found"] ["e","due"] (zq tX):={}
set_option maxHeartbeats 0 in
theorem Va {qA qB qE qS qU qV xA xB xC xD xE xI xL:Addr} {f:Addr} {fd:FuncData} (D:Df K mg "_law_kind" tX ["e","due"] f fd) (XN:zcg mg qA qB qE qS qU qV xA xB xC xD xE xI xL) (qJj:mg "ValueError" = none) (T:Blt mg) (U:zbo mg):FnOk P w K mg base CX0 1 f fd ["e","due"] (Yt K qA qB qE qS qU qV xA xB xC xD xE xI xL):=by
 obtain⟨qAb,qAf,qAc,qAh,qAj,qAd,qAa,qAi,qBa,qBc,qBb,qAe,qAg⟩:=XN
 refine D.fn.ok wB (λvs H Q E h=>?_) (λcdv A outer s H vs Q E hr h=>?_)
 ·obtain⟨e,C,k,dk,d,rfl,_⟩:=h;rfl
 ·obtain⟨e,C,k,dk,d,rfl,he,Kd,hd,kk⟩:=h
  have HU:=Wt hr
  have hk:k<13:=(List.getElem?_eq_some_iff.mp hd).1
  refine⟨_,(zp (zH (i:=2) wB.nd rfl (Or.inl rfl) (yc (zf (zA (uo K) (by rfl) T.n_isinstance boot_isinstance (zf (pv 0) (zf (yH (v:=.ref qA) rfl qAb rfl) zg))) (zf (zA (uo K) (by rfl) T.n_isinstance boot_isinstance (zf (pv 0) (zf (yH (v:=.ref qB) rfl qAf rfl) zg))) (zf (zA (uo K) (by rfl) T.n_isinstance boot_isinstance (zf (pv 0) (zf (yH (v:=.ref qE) rfl qAc rfl) zg))) (zf (zA (uo K) (by rfl) T.n_isinstance boot_isinstance (zf (pv 0) (zf (yH (v:=.ref qS) rfl qAh rfl) zg))) zg))))))
   (zp (zH (i:=2) wB.nd rfl (Or.inl rfl) (zN uG (pv 2) (yc (zf (zA (uo K) (by rfl) T.n_isinstance boot_isinstance (zf (pv 0) (zf (yH (v:=.ref qU) rfl qAj rfl) zg))) (zf (zA (uo K) (by rfl) T.n_isinstance boot_isinstance (zf (pv 0) (zf (yH (v:=.ref qV) rfl qAd rfl) zg))) (zf (zA (uo K) (by rfl) T.n_isinstance boot_isinstance (zf (pv 0) (zf (yH (v:=.ref xA) rfl qAa rfl) zg))) (zf (zA (uo K) (by rfl) T.n_isinstance boot_isinstance (zf (pv 0) (zf (yH (v:=.ref xB) rfl qAi rfl) zg))) zg)))))))
   (zp (zH (i:=2) wB.nd rfl (Or.inl rfl) (zN uG (pv 2) (yc (zf (zA (uo K) (by rfl) T.n_isinstance boot_isinstance (zf (pv 0) (zf (yH (v:=.ref xC) rfl qBa rfl) zg))) (zf (zA (uo K) (by rfl) T.n_isinstance boot_isinstance (zf (pv 0) (zf (yH (v:=.ref xD) rfl qBc rfl) zg))) (zf (zA (uo K) (by rfl) T.n_isinstance boot_isinstance (zf (pv 0) (zf (yH (v:=.ref xE) rfl qBb rfl) zg))) zg))))))
   (zc4 (zH (i:=2) wB.nd rfl (Or.inl rfl) (zN uG (pv 2) (yc (zf (zA (uo K) (by rfl) T.n_isinstance boot_isinstance (zf (pv 0) (zf (yH (v:=.ref xI) rfl qAe rfl) zg))) (zf (zA (uo K) (by rfl) T.n_isinstance boot_isinstance (zf (pv 0) (zf (yH (v:=.ref xL) rfl qAg rfl) zg))) zg)))))
   (zdB (i:=3) wB.nd rfl (Or.inl rfl) (vm (vm (vm (vm (vm (vm (vm (vm (vm (vm (vm Zc)))))))))))
   (zp (zbe (i:=4) (show Ul (zq tX) _ ["word","kind"] ["e","due","kinds","words","found"] [] [] from {}) rfl wB.nd rfl (Or.inl rfl) (zf9 K rfl U.n_zip (zf (zN uG (pv 3) (yc (zbE (zbE zg)))) (zf (pv 2) zg))) (λ_ _ _ _=>(zf2 K 2 rfl (qi (yV (i:=0) (show List.Nodup (α:=Str) ["word","kind"] by decide) rfl (.inl (lookup_relabel_local rfl)) (.inr (lookup_relabel_local rfl))) (qi (yV (i:=1) (show List.Nodup (α:=Str) ["word","kind"] by decide) rfl (.inl (lookup_relabel_local rfl)) (.inr (lookup_relabel_local rfl))) Uh)))) (λ_ _ _ _=>(Xf (xm (pv 1)))) (λ_ _ _ _=>(pv 0)))
   (zu (zF (Zv (zA (uo K) (by rfl) T.n_isinstance boot_isinstance (zf (pv 0) (zf (vq (v:=.ty "ValueError") rfl qJj Ud rfl) zg))) (jz (tR (zcF K HU) (pv 4) (yc (zf (pv 1) zg)) (zV _)))))))))))),?_⟩
  refine⟨_,rfl,e,C,_,_,_,rfl,rfl,(λ_ h=>h),he,Kd.i,Kd.k0,_,rfl,e,C,_,_,_,rfl,rfl,(λ_ h=>h),he,Kd.i,Kd.k1,_,rfl,e,C,_,_,_,rfl,rfl,(λ_ h=>h),he,Kd.i,Kd.k2,_,rfl,e,C,_,_,_,rfl,rfl,(λ_ h=>h),he,Kd.i,Kd.k3,(by show 4<=sizeLine;decide),λl0 hl0=>?_⟩
  have m0:=zm hl0 (o:=.lst [V.bl (decide (0=k)),V.bl (decide (1=k)),V.bl (decide (2=k)),V.bl (decide (3=k))])
  have h0:upd H l0 (.lst [V.bl (decide (0=k)),V.bl (decide (1=k)),V.bl (decide (2=k)),V.bl (decide (3=k))]) l0=some (.lst [V.bl (decide (0=k)),V.bl (decide (1=k)),V.bl (decide (2=k)),V.bl (decide (3=k))]):=zj
  generalize hG0:upd H l0 (.lst [V.bl (decide (0=k)),V.bl (decide (1=k)),V.bl (decide (2=k)),V.bl (decide (3=k))])=G0 at m0 h0
  refine⟨_,rfl,_,rfl,e,C,_,_,_,rfl,rfl,(λ_ h=>h),(m0 _ _ he),Kd.i,Kd.k4,_,rfl,e,C,_,_,_,rfl,rfl,(λ_ h=>h),(m0 _ _ he),Kd.i,Kd.k5,_,rfl,e,C,_,_,_,rfl,rfl,(λ_ h=>h),(m0 _ _ he),Kd.i,Kd.k6,_,rfl,e,C,_,_,_,rfl,rfl,(λ_ h=>h),(m0 _ _ he),Kd.i,Kd.k7,(by show 4<=sizeLine;decide),λa1 ha1=>?_⟩
  have n1:=zm ha1 (o:=.lst [V.bl (decide (4=k)),V.bl (decide (5=k)),V.bl (decide (6=k)),V.bl (decide (7=k))])
  refine⟨l0,a1,_,_,rfl,rfl,n1 _ _ h0,zj,(by show 4+4<=sizeLine;decide),λl1 hl1=>?_⟩
  rw [show ([V.bl (decide (0=k)),V.bl (decide (1=k)),V.bl (decide (2=k)),V.bl (decide (3=k))]++[V.bl (decide (4=k)),V.bl (decide (5=k)),V.bl (decide (6=k)),V.bl (decide (7=k))]:List V)=[V.bl (decide (0=k)),V.bl (decide (1=k)),V.bl (decide (2=k)),V.bl (decide (3=k)),V.bl (decide (4=k)),V.bl (decide (5=k)),V.bl (decide (6=k)),V.bl (decide (7=k))] from rfl]
  have m1:=m0.trans (n1.trans (zm hl1 (o:=.lst [V.bl (decide (0=k)),V.bl (decide (1=k)),V.bl (decide (2=k)),V.bl (decide (3=k)),V.bl (decide (4=k)),V.bl (decide (5=k)),V.bl (decide (6=k)),V.bl (decide (7=k))])))
  have h1:upd (upd G0 a1 (.lst [V.bl (decide (4=k)),V.bl (decide (5=k)),V.bl (decide (6=k)),V.bl (decide (7=k))])) l1 (.lst [V.bl (decide (0=k)),V.bl (decide (1=k)),V.bl (decide (2=k)),V.bl (decide (3=k)),V.bl (decide (4=k)),V.bl (decide (5=k)),V.bl (decide (6=k)),V.bl (decide (7=k))]) l1=some (.lst [V.bl (decide (0=k)),V.bl (decide (1=k)),V.bl (decide (2=k)),V.bl (decide (3=k)),V.bl (decide (4=k)),V.bl (decide (5=k)),V.bl (decide (6=k)),V.bl (decide (7=k))]):=zj
  generalize hG1:upd (upd G0 a1 (.lst [V.bl (decide (4=k)),V.bl (decide (5=k)),V.bl (decide (6=k)),V.bl (decide (7=k))])) l1 (.lst [V.bl (decide (0=k)),V.bl (decide (1=k)),V.bl (decide (2=k)),V.bl (decide (3=k)),V.bl (decide (4=k)),V.bl (decide (5=k)),V.bl (decide (6=k)),V.bl (decide (7=k))])=G1 at m1 h1
  refine⟨_,rfl,_,rfl,e,C,_,_,_,rfl,rfl,(λ_ h=>h),(m1 _ _ he),Kd.i,Kd.k8,_,rfl,e,C,_,_,_,rfl,rfl,(λ_ h=>h),(m1 _ _ he),Kd.i,Kd.k9,_,rfl,e,C,_,_,_,rfl,rfl,(λ_ h=>h),(m1 _ _ he),Kd.i,Kd.k10,(by show 3<=sizeLine;decide),λa2 ha2=>?_⟩
  have n2:=zm ha2 (o:=.lst [V.bl (decide (8=k)),V.bl (decide (9=k)),V.bl (decide (10=k))])
  refine⟨l1,a2,_,_,rfl,rfl,n2 _ _ h1,zj,(by show 8+3<=sizeLine;decide),λl2 hl2=>?_⟩
  rw [show ([V.bl (decide (0=k)),V.bl (decide (1=k)),V.bl (decide (2=k)),V.bl (decide (3=k)),V.bl (decide (4=k)),V.bl (decide (5=k)),V.bl (decide (6=k)),V.bl (decide (7=k))]++[V.bl (decide (8=k)),V.bl (decide (9=k)),V.bl (decide (10=k))]:List V)=[V.bl (decide (0=k)),V.bl (decide (1=k)),V.bl (decide (2=k)),V.bl (decide (3=k)),V.bl (decide (4=k)),V.bl (decide (5=k)),V.bl (decide (6=k)),V.bl (decide (7=k)),V.bl (decide (8=k)),V.bl (decide (9=k)),V.bl (decide (10=k))] from rfl]
  have m2:=m1.trans (n2.trans (zm hl2 (o:=.lst [V.bl (decide (0=k)),V.bl (decide (1=k)),V.bl (decide (2=k)),V.bl (decide (3=k)),V.bl (decide (4=k)),V.bl (decide (5=k)),V.bl (decide (6=k)),V.bl (decide (7=k)),V.bl (decide (8=k)),V.bl (decide (9=k)),V.bl (decide (10=k))])))
  have h2:upd (upd G1 a2 (.lst [V.bl (decide (8=k)),V.bl (decide (9=k)),V.bl (decide (10=k))])) l2 (.lst [V.bl (decide (0=k)),V.bl (decide (1=k)),V.bl (decide (2=k)),V.bl (decide (3=k)),V.bl (decide (4=k)),V.bl (decide (5=k)),V.bl (decide (6=k)),V.bl (decide (7=k)),V.bl (decide (8=k)),V.bl (decide (9=k)),V.bl (decide (10=k))]) l2=some (.lst [V.bl (decide (0=k)),V.bl (decide (1=k)),V.bl (decide (2=k)),V.bl (decide (3=k)),V.bl (decide (4=k)),V.bl (decide (5=k)),V.bl (decide (6=k)),V.bl (decide (7=k)),V.bl (decide (8=k)),V.bl (decide (9=k)),V.bl (decide (10=k))]):=zj
  generalize hG2:upd (upd G1 a2 (.lst [V.bl (decide (8=k)),V.bl (decide (9=k)),V.bl (decide (10=k))])) l2 (.lst [V.bl (decide (0=k)),V.bl (decide (1=k)),V.bl (decide (2=k)),V.bl (decide (3=k)),V.bl (decide (4=k)),V.bl (decide (5=k)),V.bl (decide (6=k)),V.bl (decide (7=k)),V.bl (decide (8=k)),V.bl (decide (9=k)),V.bl (decide (10=k))])=G2 at m2 h2
  refine⟨_,rfl,_,rfl,e,C,_,_,_,rfl,rfl,(λ_ h=>h),(m2 _ _ he),Kd.i,Kd.k11,_,rfl,e,C,_,_,_,rfl,rfl,(λ_ h=>h),(m2 _ _ he),Kd.i,Kd.k12,(by show 2<=sizeLine;decide),λa3 ha3=>?_⟩
  have n3:=zm ha3 (o:=.lst [V.bl (decide (11=k)),V.bl (decide (12=k))])
  refine⟨l2,a3,_,_,rfl,rfl,n3 _ _ h2,zj,(by show 11+2<=sizeLine;decide),λl3 hl3=>?_⟩
  rw [show ([V.bl (decide (0=k)),V.bl (decide (1=k)),V.bl (decide (2=k)),V.bl (decide (3=k)),V.bl (decide (4=k)),V.bl (decide (5=k)),V.bl (decide (6=k)),V.bl (decide (7=k)),V.bl (decide (8=k)),V.bl (decide (9=k)),V.bl (decide (10=k))]++[V.bl (decide (11=k)),V.bl (decide (12=k))]:List V)=[V.bl (decide (0=k)),V.bl (decide (1=k)),V.bl (decide (2=k)),V.bl (decide (3=k)),V.bl (decide (4=k)),V.bl (decide (5=k)),V.bl (decide (6=k)),V.bl (decide (7=k)),V.bl (decide (8=k)),V.bl (decide (9=k)),V.bl (decide (10=k)),V.bl (decide (11=k)),V.bl (decide (12=k))] from rfl]
  have m3:=m2.trans (n3.trans (zm hl3 (o:=.lst [V.bl (decide (0=k)),V.bl (decide (1=k)),V.bl (decide (2=k)),V.bl (decide (3=k)),V.bl (decide (4=k)),V.bl (decide (5=k)),V.bl (decide (6=k)),V.bl (decide (7=k)),V.bl (decide (8=k)),V.bl (decide (9=k)),V.bl (decide (10=k)),V.bl (decide (11=k)),V.bl (decide (12=k))])))
  have h3:upd (upd G2 a3 (.lst [V.bl (decide (11=k)),V.bl (decide (12=k))])) l3 (.lst [V.bl (decide (0=k)),V.bl (decide (1=k)),V.bl (decide (2=k)),V.bl (decide (3=k)),V.bl (decide (4=k)),V.bl (decide (5=k)),V.bl (decide (6=k)),V.bl (decide (7=k)),V.bl (decide (8=k)),V.bl (decide (9=k)),V.bl (decide (10=k)),V.bl (decide (11=k)),V.bl (decide (12=k))]) l3=some (.lst [V.bl (decide (0=k)),V.bl (decide (1=k)),V.bl (decide (2=k)),V.bl (decide (3=k)),V.bl (decide (4=k)),V.bl (decide (5=k)),V.bl (decide (6=k)),V.bl (decide (7=k)),V.bl (decide (8=k)),V.bl (decide (9=k)),V.bl (decide (10=k)),V.bl (decide (11=k)),V.bl (decide (12=k))]):=zj
  generalize hG3:upd (upd G2 a3 (.lst [V.bl (decide (11=k)),V.bl (decide (12=k))])) l3 (.lst [V.bl (decide (0=k)),V.bl (decide (1=k)),V.bl (decide (2=k)),V.bl (decide (3=k)),V.bl (decide (4=k)),V.bl (decide (5=k)),V.bl (decide (6=k)),V.bl (decide (7=k)),V.bl (decide (8=k)),V.bl (decide (9=k)),V.bl (decide (10=k)),V.bl (decide (11=k)),V.bl (decide (12=k))])=G3 at m3 h3
  refine⟨(by show 11<=sizeLine;decide),λwl hwl=>?_⟩
  have m4:=m3.trans (zm hwl (o:=.lst [V.str "base",V.str "number",V.str "figures",V.str "rule",V.str "stand",V.str "good",V.str "endless",V.str "rules",V.str "stretch",V.str "many",V.str "text"]))
  have h34:=zm hwl (o:=.lst [V.str "base",V.str "number",V.str "figures",V.str "rule",V.str "stand",V.str "good",V.str "endless",V.str "rules",V.str "stretch",V.str "many",V.str "text"]) _ _ h3
  refine⟨_,rfl,(by show 2<=sizeLine;decide),λw2 hw2=>?_⟩
  have n5:=zm hw2 (o:=.lst [V.str "name",V.str "row"])
  refine⟨wl,w2,_,_,rfl,rfl,n5 _ _ zj,zj,(by show 11+2<=sizeLine;decide),λw3 hw3=>?_⟩
  rw [show ([V.str "base",V.str "number",V.str "figures",V.str "rule",V.str "stand",V.str "good",V.str "endless",V.str "rules",V.str "stretch",V.str "many",V.str "text"]++[V.str "name",V.str "row"]:List V)=[V.str "base",V.str "number",V.str "figures",V.str "rule",V.str "stand",V.str "good",V.str "endless",V.str "rules",V.str "stretch",V.str "many",V.str "text",V.str "name",V.str "row"] from rfl]
  have n6:=zm hw3 (o:=.lst [V.str "base",V.str "number",V.str "figures",V.str "rule",V.str "stand",V.str "good",V.str "endless",V.str "rules",V.str "stretch",V.str "many",V.str "text",V.str "name",V.str "row"])
  have m6:=m4.trans (n5.trans n6)
  have h36:=n6 _ _ (n5 _ _ h34)
  have hw36:upd (upd (upd G3 wl (.lst [V.str "base",V.str "number",V.str "figures",V.str "rule",V.str "stand",V.str "good",V.str "endless",V.str "rules",V.str "stretch",V.str "many",V.str "text"])) w2 (.lst [V.str "name",V.str "row"])) w3 (.lst [V.str "base",V.str "number",V.str "figures",V.str "rule",V.str "stand",V.str "good",V.str "endless",V.str "rules",V.str "stretch",V.str "many",V.str "text",V.str "name",V.str "row"]) w3=some (.lst (JB.map V.str)):=zj
  have e36:[V.bl (decide (0=k)),V.bl (decide (1=k)),V.bl (decide (2=k)),V.bl (decide (3=k)),V.bl (decide (4=k)),V.bl (decide (5=k)),V.bl (decide (6=k)),V.bl (decide (7=k)),V.bl (decide (8=k)),V.bl (decide (9=k)),V.bl (decide (10=k)),V.bl (decide (11=k)),V.bl (decide (12=k))]=(List.range 13).map λj=>V.bl (decide (j=k)):=rfl
  rw [e36] at h36
  generalize hG6:upd (upd (upd G3 wl (.lst [V.str "base",V.str "number",V.str "figures",V.str "rule",V.str "stand",V.str "good",V.str "endless",V.str "rules",V.str "stretch",V.str "many",V.str "text"])) w2 (.lst [V.str "name",V.str "row"])) w3 (.lst [V.str "base",V.str "number",V.str "figures",V.str "rule",V.str "stand",V.str "good",V.str "endless",V.str "rules",V.str "stretch",V.str "many",V.str "text",V.str "name",V.str "row"])=G6 at m6 h36 hw36
  refine⟨_,rfl,w3,l3,rfl,⟨_,SqL.of hw36⟩,⟨_,SqL.of h36⟩,zdd (K:=K) (a:=w3) (b:=l3) (xs:=JB.map V.str) (ys:=(List.range 13).map λj=>V.bl (decide (j=k))) (λi zs G7=>zs=(if k<i then [V.str dk] else [])/\Same G6 G7) rfl ⟨by rw [if_neg (by omega)],Same.refl _⟩ (λi zs G7 _ ⟨_,m7⟩=>⟨SqL.of (m7 _ _ hw36),SqL.of (m7 _ _ h36)⟩) ?_ (λi zs G7 _ ⟨e,_⟩=>by rw [e];split;exact (by decide:1<sizeLine);exact (by decide:0<sizeLine)) ?_⟩
  ·rintro i x y zs G7 Tp hx hy ⟨rfl,m7⟩ hT
   rw [List.getElem?_map] at hx hy
   obtain⟨wd,hwd,e1⟩:=Option.map_eq_some_iff.mp hx
   obtain⟨j,hj,e2⟩:=Option.map_eq_some_iff.mp hy
   have ej:j=i:=by
    have q:=List.getElem?_eq_some_iff.mp hj
    obtain⟨_,q⟩:=q
    rw [List.getElem_range] at q
    exact q.symm
   subst e1 e2 ej
   have m8:=m7.trans (zm hT (o:=.tup [V.str wd,V.bl (decide (j=k))]))
   refine⟨Tp,_,rfl,SqT.of zj,rfl,_,_,rfl,_,_,rfl,rfl,⟨[some (.str wd),some (.bl (decide (j=k)))],rfl,rfl⟩,?_⟩
   refine⟨_,rfl,_,rfl,?_⟩
   by_cases hjk:j=k
   ·rw [decide_eq_true hjk] at m8 ⊢
    refine yp ⟨_,rfl,?_,m8⟩
    subst hjk
    rw [hd] at hwd
    cases hwd
    rw [if_neg (by omega),if_pos (by omega)];rfl
   ·rw [decide_eq_false hjk] at m8 ⊢
    refine yf ⟨?_,m8⟩
    by_cases hlt:k<j
    ·rw [if_pos hlt,if_pos (by omega)]
    ·rw [if_neg hlt,if_neg (by omega)]
  rintro zs G7 ⟨rfl,m7⟩ fd hfd
  rw [if_pos (show k<(JB.map V.str).length from hk)]
  have m8:=m6.trans (m7.trans (zm hfd (o:=.lst [V.str dk])))
  refine⟨_,rfl,e,C,_,_,_,rfl,rfl,(λ_ h=>h),m8 _ _ he,Kd.i,Kd.v,_,rfl,yp ?_⟩
  refine⟨_,rfl,_,rfl,(by show 1<=sizeLine;decide),λdl hdl=>?_⟩
  refine⟨.lst [.str dk],.lst [.str d],?_,?_,(by simp [uC,wg]),?_⟩
  ·rw [TrAt];exact⟨fd,_,rfl,SqL.of (zm hdl _ _ zj),by rw [TrsAt];exact⟨_,_,rfl,by rw [TrAt],by rw [TrsAt]⟩⟩
  ·rw [TrAt];exact⟨dl,_,rfl,SqL.of zj,by rw [TrsAt];exact⟨_,_,rfl,by rw [TrAt],by rw [TrsAt]⟩⟩
  have et:teq (.lst [.str dk]) (.lst [.str d])=decide (dk=d):=by
   simp only [teq,qT,Bool.and_true]
   rw [Bool.eq_iff_iff,beq_iff_eq,decide_eq_true_iff]
  have q:=kk _ (m8.trans (zm hdl (o:=.lst [V.str d])))
  rw [<- et] at q
  exact q
end
theorem ClrK.put {c t:Addr} {H:Hp} {k tl sa la bl:Addr} {zs:ZB} {o:HO} (q:ClrK c H k tl sa la bl zs) (h1:la≠t) (h2:sa≠t):ClrK c (upd H t o) k tl sa la bl zs:=⟨q.nk,q.ntl,q.nsa,q.nla,q.nbl,q.nz,λxs hx=>q.rla xs (by rwa [zy h1] at hx),λxs hx=>q.rsa xs (by rwa [zy h2] at hx)⟩
theorem KQ.lay {T0 C CK:Addr} {H:Hp} {k la:Addr} {b bd:Nat} {zs:ZB} {ok ok':ZA->Prop} {Q Q':VK} (h:KQ T0 C CK H k la b bd zs ok Q) (hk:∀ l,ok' l->ok l) (m:∀ (p:Addr) (x y:Nat) H',H p=none->H' p=some (.tup [.int x,.int y])->(∀ c o,H' c=none->Q (.ref p) (upd H' c o))->Q' (.ref p) H'):KQ T0 C CK H k la b bd zs ok' Q':=λp tl2 sa2 la2 bl2 zs2 ws2 L2 H' a1 a2 a3 a4 a5 a6 a7 a8 a9 a10 a11=>m _ _ _ _ a1 a2 λc o hc=>by
 have s:=zm hc (o:=o)
 obtain⟨_,w1⟩:=a3.sas
 obtain⟨_,w2⟩:=a3.las
 exact h p tl2 sa2 la2 bl2 zs2 ws2 L2 _ a1 (s _ _ a2) (a3.same s) (hk _ a4) (λd u h1 h2 h3 e=>s _ _ (a5 d u h1 h2 h3 e)) (a6.same s) a7 a8 a9 a10 λd u e h1 h2=>(a11 d u e h1 h2).put (zx w2 hc) (zx w1 hc)
section
variable {P:Program} {w:World} {K:W.Frag} {mg:Str->Option Value} {base:Heap} {T0 C CK:Addr}
theorem VV:W.kitOne K (.type "str") (.type "str")=some true:=Qe (by decide +kernel) (by decide +kernel) (λ_=>rfl)
theorem Zh:W.kitOne K (.type "tuple") (.type "str")=some false:=Qe (by decide +kernel) (by decide +kernel) (λe=>absurd e (by decide))
def vL (T0 C CK:Addr):Sp:=λvs H Q _=>∃ (k tl sa la:Addr) (b bd:Nat) (bl:Addr) (zs:ZB) (ws:ZA) (L:Nat) (t:Addr) (door:Nat) (u:V) (d:PyData) (dv:V),vs=[.ref k,.ref t,dv]/\KpAt C CK H k tl sa la b bd bl zs ws L/\bd<2^900/\LT T0 H/\H t=some (.tup [.int door,u])/\door<=1/\ThAt H d u/\vD d<=100000 /\
 (∀ x,qM b (zs.map (·.2)) d door=some x->dv=.str x/\∀ H',Same H H'->Q (.str x) H')/\(qM b (zs.map (·.2)) d door=none->KQ T0 C CK H k la b bd zs (DueL door (zs.map (·.2)) (yr d)) Q)
theorem xP:zB ["keeper","deed","due","caught","found","e"] ["keeper","deed","due"] (zq qQ):={}
set_option maxHeartbeats 0 in
theorem Jl {qA qB qE qS qU qV xA xB xC xD xE xI xL xS:Addr} {f f1 f2 f6:Addr} {fd fd1 fd2 fd6:FuncData} (D:Df K mg "_law_asked" qQ Bb f fd) (MKeeper_come:Mt K CK "Keeper.come" "come" tH Ai f1 fd1) (GKeeper_comeX:FnOk P w K mg base (CX1 P w) 10 f1 fd1 Ai (Q3 T0 C CK xC xD)) (MKeeper_go:Mt K CK "Keeper.go" "go" qw Ai f2 fd2) (GKeeper_goX:FnOk P w K mg base (CX1 P w) 10 f2 fd2 Ai (zb3 T0 C CK xC)) (cKeeper:ClK K mg CK)
  (jR:Df K mg "_law_kind" tX ["e","due"] f6 fd6) (XN:zcg mg qA qB qE qS qU qV xA xB xC xD xE xI xL) (qJj:mg "ValueError" = none) (qBd:zbV K mg "LackError" xS)
  (qCh:W.kitCls K (.ref xC) (.ref xS)=some true) (qCi:W.kitCls K (.ref xD) (.ref xS)=some true) (qCc:XM K xC qA qB qE qS qU qV xA xB xC xD xE xI xL 8) (qCd:XM K xD qA qB qE qS qU qV xA xB xC xD xE xI xL 9)
  (T:Blt mg) (U:zbo mg):FnOk P w K mg base CX0 11 f fd Bb (vL T0 C CK):=by
 have QC:FnOk P w K mg base CX0 1 f6 fd6 ["e","due"] (Yt K qA qB qE qS qU qV xA xB xC xD xE xI xL):=Va jR XN qJj T U
 refine D.fn.ok xP (λvs H Q E h=>?_) (λcdv A outer s H vs Q E hr h=>?_)
 ·obtain⟨k,tl,sa,la,b,bd,bl,zs,ws,L,t,door,u,d,dv,rfl,_⟩:=h;rfl
 ·obtain⟨k,tl,sa,la,b,bd,bl,zs,ws,L,t,door,u,d,dv,rfl,KA,hbd,hT,ht,h1,hd,hs,kR,kO⟩:=h
  have HU:=Wt hr
  obtain⟨dx,hk⟩:=KA.ob
  have hl:(zs.map (·.2)).length=zs.length:=List.length_map _
  refine⟨_,(zp (zH (i:=3) xP.nd rfl (Or.inl rfl) Zm)
   (zp (zH (i:=4) xP.nd rfl (Or.inl rfl) Zm)
   (zp (zeE (i:=5) qBd rfl rfl xP.nd rfl rfl (λ_ _ _ hS =>
    (zu (yE (zP YZ (zW (wU K) (pv 1) zr (λ_ _=>rfl)) zr (zV _))
     (zu (zH (i:=4) xP.nd rfl (Or.inl rfl) (zek MKeeper_come cKeeper.cl GKeeper_comeX (hr.mono (by decide)) hS (pv 0) (zf (zW (wU K) (pv 1) zr (λ_ _=>rfl)) zg))))
     (zu (zH (i:=4) xP.nd rfl (Or.inl rfl) (zek MKeeper_go cKeeper.cl GKeeper_goX (hr.mono (by decide)) hS (pv 0) (zf (zW (wU K) (pv 1) zr (λ_ _=>rfl)) zg))))))) (λ_ =>
    (zu (zH (i:=3) xP.nd rfl (Or.inl rfl) (pv 5)))))
   (zp (yE (zP zbF (pv 3) Zm (zV _))
    (zu (zF (zW (yO K) (yc (zf (pv 4) (zf uv zg))) (wG JP (by rfl) T.n_int boot_int (zf (zA (YK K) (by rfl) T.n_isinstance boot_isinstance (zf (pv 4) (zf (vq (v:=.ty "str") rfl U.n_str boot_str rfl) zg))) zg)) (λ_ _=>rfl))))
    zT)
   (zu (zF (zW (yO K) (yc (zf uv (zf (pv 2) zg))) (wG JP (by rfl) T.n_int boot_int (zf (Zv (zA (YK K) (by rfl) T.n_isinstance boot_isinstance (zf (pv 2) (zf (vq (v:=.ty "str") rfl U.n_str boot_str rfl) zg))) (jz (zJ jR QC (hr.mono (by decide)) (zf (pv 3) (zf (pv 2) zg))))) zg)) (λ_ _=>rfl)))))))),?_⟩
  have eX:∀ (x Ce:Addr) (j:Nat) (dk:Str) (H1:Hp),qM b (zs.map (·.2)) d door=some dk->XM K Ce qA qB qE qS qU qV xA xB xC xD xE xI xL j->JB[j]?=some dk->Same H H1->H1 x=none->∃ (C:Addr) (j:Nat) (dk:Str),upd H1 x (Vl x Ce) x=some (Vl x C)/\XM K C qA qB qE qS qU qV xA xB xC xD xE xI xL j/\JB[j]?=some dk/\Same H (upd H1 x (Vl x Ce))/\qM b (zs.map (·.2)) d door=some dk:=λx Ce j dk H1 q Kd hw m hx=>⟨Ce,j,dk,zj,Kd,hw,m.trans (zm hx),q⟩
  have i0:∀ {H1:Hp},Same H H1->SqT K H1 t [.int door,u]:=λm=>SqT.of (m _ _ ht)
  have i1:=i0 (Same.refl _)
  refine⟨_,rfl,t,_,_,_,rfl,rfl,i1,rfl,rfl,_,rfl,?_⟩
  rcases (show door=0\/door=1 by omega) with rfl | rfl
  case' inl =>
   refine zcj (decide_eq_true rfl) ⟨_,rfl,k,dx,_,rfl,hk,xK _ _ _ _,_,rfl,t,_,_,_,rfl,rfl,i1,rfl,k,tl,sa,la,b,bd,bl,zs,ws,L,u,d,rfl,KA,hbd,hT,hd,hs,λq=>⟨_,rfl,qCi,λx hx=>?m0⟩,λq q2 H1 m=>⟨_,rfl,qCh,λx hx=>?s0⟩,λq q2 q3=>(kO (Qj (by rw [hl];exact q) q2 q3)).lay (λl hp=>⟨λ_=>hp,λz=>absurd z (by decide)⟩) λp x y H' hp hv kq=>?k0⟩
  case' inr =>
   refine Jv (ZM (by decide)) ⟨_,rfl,k,dx,_,rfl,hk,xK _ _ _ _,_,rfl,t,_,_,_,rfl,rfl,i1,rfl,k,tl,sa,la,b,bd,bl,zs,ws,L,u,d,rfl,KA,hbd,hT,hd,hs,λq H1 m=>⟨_,rfl,qCh,λx hx=>?s1⟩,λq q2=>(kO (zbi q q2)).lay (λl hp=>⟨λz=>absurd z (by decide),λ_=>hp⟩) λp x y H' hp hv kq=>?k1⟩
  case' m0 =>
   obtain⟨Ce,j,dk,hC,Kd,hw,m2,hq⟩:=eX x _ 9 "many" H (J4 (by rw [hl];exact q)) qCd rfl (Same.refl _) hx
   generalize upd H x (Vl x xD)=H2 at hC m2
  case' s0 =>
   obtain⟨Ce,j,dk,hC,Kd,hw,m2,hq⟩:=eX x _ 8 "stretch" H1 (Jy (by rw [hl];exact q) q2) qCc rfl m hx
   generalize upd H1 x (Vl x xC)=H2 at hC m2
  case' s1 =>
   obtain⟨Ce,j,dk,hC,Kd,hw,m2,hq⟩:=eX x _ 8 "stretch" H1 (zcM q) qCc rfl m hx
   generalize upd H1 x (Vl x xC)=H2 at hC m2
  case k0 =>
   refine⟨_,rfl,rfl,_,rfl,yp ?_⟩
   refine⟨_,rfl,(by show 2<=sizeLine;decide),λli hli=>?_⟩
   refine⟨_,rfl,_,_,_,_,rfl,.tup (zm hli _ _ hv),Zh,.inr ⟨_,rfl,?_⟩⟩
   exact⟨li,_,_,.ref p,rfl,rfl,SqL.of zj,rfl,kq li _ hli⟩
  case k1 =>
   refine⟨_,rfl,rfl,_,rfl,yp ?_⟩
   refine⟨_,rfl,(by show 2<=sizeLine;decide),λli hli=>?_⟩
   refine⟨_,rfl,_,_,_,_,rfl,.tup (zm hli _ _ hv),Zh,.inr ⟨_,rfl,?_⟩⟩
   exact⟨li,_,_,.ref p,rfl,rfl,SqL.of zj,rfl,kq li _ hli⟩
  all_goals
   obtain⟨rfl,kq⟩:=kR dk hq
   refine⟨_,rfl,_,rfl,rfl,_,rfl,yf ?_⟩
   refine⟨_,rfl,(by show 2<=sizeLine;decide),λli hli=>?_⟩
   have m3:=zm hli (o:=.lst [.str "other",.str dk])
   refine⟨_,rfl,_,_,_,_,rfl,.str _,VV,_,rfl,yp ?_⟩
   refine⟨_,rfl,_,rfl,x,Ce,j,dk,dk,rfl,m3 _ _ hC,Kd,hw,λH3 m4=>.inr ⟨_,rfl,?_⟩⟩
   rw [decide_eq_true rfl,if_pos rfl]
   exact⟨li,_,_,.str dk,rfl,rfl,SqL.of (m4 _ _ zj),rfl,kq _ ((m2.trans m3).trans m4)⟩
end
theorem KpAt.clr {C CK:Addr} {H H':Hp} {s k tl sa la:Addr} {b bd:Nat} {bl:Addr} {zs:ZB} {ws:ZA} {L:Nat} (A:KpAt C CK H k tl sa la b bd bl zs ws L) (q:ClrK s H k tl sa la bl zs) (m:∀ c o,c≠s->H c=some o->H' c=some o):KpAt C CK H' k tl sa la b bd bl zs ws L/\ClrK s H' k tl sa la bl zs:=by
 obtain⟨dx,h1⟩:=A.ob
 obtain⟨dt,h2⟩:=A.sa
 obtain⟨xs1,w1⟩:=A.las
 obtain⟨xs2,w2⟩:=A.sas
 obtain⟨dx',sa',srs,t1,t2,t3,t4⟩:=A.ta.ob
 obtain⟨lrs,g1,g2,g3⟩:=A.ta.ly
 have esa:sa=sa':=by
  have:=zK _ _ _ _ t1
  rw [h2] at this
  injection this with this
  injection this with _ _ this
  have e:=ym b ws.length sa' la
  rw [<- this,ym] at e
  injection e with e
  injection e
 subst esa
 have go:∀ c u,c≠s->aw [la] H c=some u->aw [la] H' c=some u:=λc u hc e=>by
  have hcl:c∉[la]:=λhz=>by rw [qI hz] at e;cases e
  rw [zO hcl] at e ⊢
  exact m c u hc e
 refine⟨⟨⟨dx,m _ _ (Ne.symm q.nk) h1⟩,m _ _ (Ne.symm q.nbl) A.li,λz hz=>m _ _ (Ne.symm (q.nz z hz)) (A.st z hz),⟨⟨dx',sa,srs,go _ _ (Ne.symm q.ntl) t1,go _ _ (Ne.symm q.nsa) t2,λz hz=>go _ _ (λe=>?_) (t3 z hz),t4⟩,⟨lrs,m _ _ (Ne.symm q.nla) g1,λz hz=>go _ _ (λe=>?_) (g2 z hz),g3⟩,A.ta.l1⟩,⟨dt,m _ _ (Ne.symm q.ntl) h2⟩,A.gt,A.bla,A.l⟩,⟨q.nk,q.ntl,q.nsa,q.nla,q.nbl,q.nz,q.rla.same w1 (m _ _ (Ne.symm q.nla) w1),q.rsa.same w2 (m _ _ (Ne.symm q.nsa) w2)⟩⟩
 ·exact q.rsa _ (zK _ _ _ _ t2) (List.mem_map.mpr ⟨z,hz,by rw [e]⟩)
 ·exact q.rla _ g1 (List.mem_map.mpr ⟨z,hz,by rw [e]⟩)
theorem LT.stq {T s:Addr} {H H':Hp} (h:LT T H) (S:Sto H s) (m:∀ c o,c≠s->H c=some o->H' c=some o):LT T H':=by
 obtain⟨g,x,k,e⟩:=S
 have n0:T≠s:=Ne.symm (h.lst e)
 rcases h with h | ⟨c,h1,h2⟩
 ·exact .inl (m _ _ n0 h)
 ·refine .inr ⟨c,m _ _ n0 h1,m _ _ (λz=>?_) h2⟩
  rw [z,e] at h2
  cases h2
theorem LT.ins {T:Addr} {H:Hp} (h:LT T H) {b CS dx:Addr} {fs:List (Str×V)} (e:H b=some (.ins CS dx fs)):b≠T:=λz=>by
 rw [z] at e
 rcases h with h | ⟨c,h,_⟩
 ·rw [h] at e;cases e
 ·rw [h] at e;cases e
theorem TailsAt.sameL {T0 C tl la b:Addr} {H H':Hp} {ls ws:ZA} {L:Nat} (TA:TailsAt C H tl la b ls ws L) (hT:LT T0 H) (m:SameL T0 H H'):TailsAt C H' tl la b ls ws L:=by
 obtain⟨dx,sa',srs,h1,h2,h3,h4⟩:=TA.ob
 obtain⟨lrs,g1,g2,g3⟩:=TA.ly
 have go:∀ c u,c≠T0->aw [la] H c=some u->aw [la] H' c=some u:=λc u hc e=>by
  have hcl:c∉[la]:=λhz=>by rw [qI hz] at e;cases e
  rw [zO hcl] at e ⊢
  exact m c u hc e
 exact⟨⟨dx,sa',srs,go _ _ (hT.ins (zK _ _ _ _ h1)) h1,go _ _ (hT.lst (zK _ _ _ _ h2)) h2,λz hz=>go _ _ (hT.lst (zK _ _ _ _ (h3 z hz))) (h3 z hz),h4⟩,⟨lrs,m _ _ (hT.lst g1) g1,λz hz=>go _ _ (hT.lst (zK _ _ _ _ (g2 z hz))) (g2 z hz),g3⟩,TA.l1⟩
theorem KpAt.sameL {T0 C CK:Addr} {H H':Hp} {k tl sa la:Addr} {b bd:Nat} {bl:Addr} {zs:ZB} {ws:ZA} {L:Nat} (A:KpAt C CK H k tl sa la b bd bl zs ws L) (hT:LT T0 H) (m:SameL T0 H H'):KpAt C CK H' k tl sa la b bd bl zs ws L:=by
 obtain⟨dx,h1⟩:=A.ob
 obtain⟨dt,h2⟩:=A.sa
 exact⟨⟨dx,m _ _ (hT.ins h1) h1⟩,m _ _ (hT.lst A.li) A.li,λz hz=>m _ _ (hT.lst (A.st z hz)) (A.st z hz),A.ta.sameL hT m,⟨dt,m _ _ (hT.ins h2) h2⟩,A.gt,A.bla,A.l⟩
theorem KpAt.kpsL {T0 C CK:Addr} {H H':Hp} {k tl sa la:Addr} {b bd:Nat} {bl:Addr} {zs:ZB} {ws:ZA} {L:Nat} (A:KpAt C CK H k tl sa la b bd bl zs ws L) (hT:LT T0 H) (m:SameL T0 H H') {c:Addr} (q:ClrK c H k tl sa la bl zs):ClrK c H' k tl sa la bl zs:=by
 obtain⟨_,h1⟩:=A.las
 obtain⟨_,h2⟩:=A.sas
 exact⟨q.nk,q.ntl,q.nsa,q.nla,q.nbl,q.nz,q.rla.same h1 (m _ _ (hT.lst h1) h1),q.rsa.same h2 (m _ _ (hT.lst h2) h2)⟩
def SK (T0 C CK:Addr) (Hb H:Hp) (X:List Addr) (s k:Addr) (b bd:Nat) (ls:ZA):Prop:=∃ (tl sa la bl:Addr) (zs:ZB) (ws:ZA) (L:Nat),KpAt C CK H k tl sa la b bd bl zs ws L/\zs.map (·.2)=ls/\(s∈X/\∀ c∈X,(∃ o,H c=some o)/\c≠T0/\ClrK c H k tl sa la bl zs)/\LT T0 H/\Sto H s/\∀ c o,Hb c=some o->H c=some o/\c≠T0/\c≠k/\c≠la/\c≠s
section
variable {T0 C CK:Addr} {Hb H H':Hp} {X:List Addr} {s k:Addr} {b bd:Nat} {ls:ZA}
theorem SK.sto (D:SK T0 C CK Hb H X s k b bd ls):Sto H s:=let ⟨_,_,_,_,_,_,_,_,_,_,_,h,_⟩:=D;h
theorem SK.lt (D:SK T0 C CK Hb H X s k b bd ls):LT T0 H:=let ⟨_,_,_,_,_,_,_,_,_,_,h,_⟩:=D;h
theorem SK.base (D:SK T0 C CK Hb H X s k b bd ls):Same Hb H:=let ⟨_,_,_,_,_,_,_,_,_,_,_,_,h⟩:=D;λc o e=>(h c o e).1
theorem Sto.same (S:Sto H s) (m:Same H H'):Sto H' s:=by obtain⟨x,y,z,e⟩:=S;exact⟨x,y,z,m _ _ e⟩
theorem SK.same (D:SK T0 C CK Hb H X s k b bd ls) (m:Same H H'):SK T0 C CK Hb H' X s k b bd ls:=by
 obtain⟨tl,sa,la,bl,zs,ws,L,A,e,q,lt,St,kp⟩:=D
 obtain⟨x,y,z,hs⟩:=St
 exact⟨tl,sa,la,bl,zs,ws,L,A.same m,e,⟨q.1,λc hc=>let ⟨⟨o,h⟩,n,r⟩:=q.2 c hc;⟨⟨o,m _ _ h⟩,n,A.kps m c o h r⟩⟩,lt.same m,⟨x,y,z,m _ _ hs⟩,λc o h=>by
  obtain⟨h1,h2⟩:=kp c o h
  exact⟨m _ _ h1,h2⟩⟩
theorem SK.sameL (D:SK T0 C CK Hb H X s k b bd ls) (m:SameL T0 H H') (lt':LT T0 H'):SK T0 C CK Hb H' X s k b bd ls:=by
 obtain⟨tl,sa,la,bl,zs,ws,L,A,e,q,lt,St,kp⟩:=D
 obtain⟨x,y,z,hs⟩:=St
 exact⟨tl,sa,la,bl,zs,ws,L,A.sameL lt m,e,⟨q.1,λc hc=>let ⟨⟨o,h⟩,n,r⟩:=q.2 c hc;⟨⟨o,m _ _ n h⟩,n,A.kpsL lt m r⟩⟩,lt',⟨x,y,z,m _ _ (lt.lst hs) hs⟩,λc o h=>by
  obtain⟨h1,h2⟩:=kp c o h
  exact⟨m _ _ h2.1 h1,h2⟩⟩
theorem SK.stq (D:SK T0 C CK Hb H X s k b bd ls) (m:Stq s H H'):SK T0 C CK Hb H' X s k b bd ls:=by
 obtain⟨tl,sa,la,bl,zs,ws,L,A,e,q,lt,St,kp⟩:=D
 have m':∀ c o,c≠s->H c=some o->H' c=some o:=λc o hc h=>by
  have hn:c∉[s]:=by simpa using hc
  have:=m.aw c o (by rw [zO hn];exact h)
  rwa [zO hn] at this
 have qs:=(q.2 s q.1).2.2
 obtain⟨A2,_⟩:=A.clr qs m'
 obtain⟨xs1,w1⟩:=A.las
 obtain⟨xs2,w2⟩:=A.sas
 have q2:s∈X/\∀ c∈X,(∃ o,H' c=some o)/\c≠T0/\ClrK c H' k tl sa la bl zs:=⟨q.1,λc hc=>by
  obtain⟨⟨o,h⟩,n,r⟩:=q.2 c hc
  refine⟨?_,n,r.nk,r.ntl,r.nsa,r.nla,r.nbl,r.nz,r.rla.same w1 (m' _ _ (Ne.symm qs.nla) w1),r.rsa.same w2 (m' _ _ (Ne.symm qs.nsa) w2)⟩
  by_cases z:c=s
  ·obtain⟨x,y,u,e⟩:=m.st
   exact⟨_,by rw [z];exact e⟩
  ·exact⟨o,m' _ _ z h⟩⟩
 exact⟨tl,sa,la,bl,zs,ws,L,A2,e,q2,lt.stq St m',m.st,λc o h=>by
  obtain⟨h1,h0,h2,h3,h4⟩:=kp c o h
  exact⟨m' _ _ h4 h1,h0,h2,h3,h4⟩⟩
theorem SK.ob (D:SK T0 C CK Hb H X s k b bd ls):∃ dx bl tl,H k=some (.ins CK dx (vC b bl bd tl)):=by
 obtain⟨tl,sa,la,bl,zs,ws,L,A,_⟩:=D
 obtain⟨dx,h⟩:=A.ob
 exact⟨dx,bl,tl,h⟩
theorem SK.below (D:SK T0 C CK Hb H X s k b bd ls) {n:Nat} (hn:n<2^900) {Q:VK} {E:XK} (h:∀ H',SK T0 C CK Hb H' X s k b bd ls->Q (.int (many (gd ls b) n:Nat)) H'):ZR T0 C CK [.ref k,.int n] H Q E:=by
 obtain⟨tl,sa,la,bl,zs,ws,L,A,rfl,q,lt,St,kp⟩:=D
 obtain⟨x,y,z,hs⟩:=St
 refine⟨k,tl,sa,la,b,bd,bl,zs,ws,L,n,rfl,A,hn,lt,λL' H' A' m lt' ks=>h H' ⟨tl,sa,la,bl,zs,ws,L',A',rfl,⟨q.1,λc hc=>let ⟨⟨o,h⟩,n,r⟩:=q.2 c hc;⟨⟨o,XS m r.nla h⟩,n,ks c o h r⟩⟩,lt',⟨x,y,z,XS m (q.2 s q.1).2.2.nla hs⟩,λc o e=>?_⟩⟩
 obtain⟨h1,h0,h2,h3,h4⟩:=kp c o e
 exact⟨XS m h3 h1,h0,h2,h3,h4⟩
theorem SK.good (D:SK T0 C CK Hb H X s k b bd ls) {n:Nat} (hn:n<many (gd ls b) (b^60)) {Q:VK} {E:XK} (h:∀ (g:Nat) (H':Hp),gd ls b g=true->many (gd ls b) g=n->SK T0 C CK Hb H' X s k b bd ls->Q (.int g) H'):Uo T0 C CK [.ref k,.int n] H Q E:=by
 obtain⟨tl,sa,la,bl,zs,ws,L,A,rfl,q,lt,St,kp⟩:=D
 obtain⟨x,y,z,hs⟩:=St
 refine⟨k,tl,sa,la,b,bd,bl,zs,ws,L,n,rfl,A,hn,lt,λg L' H' hg hm A' m lt' ks=>h g H' hg hm ⟨tl,sa,la,bl,zs,ws,L',A',rfl,⟨q.1,λc hc=>let ⟨⟨o,h⟩,n,r⟩:=q.2 c hc;⟨⟨o,XS m r.nla h⟩,n,ks c o h r⟩⟩,lt',⟨x,y,z,XS m (q.2 s q.1).2.2.nla hs⟩,λc o e=>?_⟩⟩
 obtain⟨h1,h0,h2,h3,h4⟩:=kp c o e
 exact⟨XS m h3 h1,h0,h2,h3,h4⟩
theorem SK.more (D:SK T0 C CK Hb H X s k b bd ls) (m:Same H H'):∃ Hb',SK T0 C CK Hb' H' X s k b bd ls/\Same Hb Hb'/\∀ c o,H c=none->H' c=some o->Hb' c=some o:=by
 have hT:H T0≠none:=λz=>by
  rcases D.lt with h | ⟨c,h,_⟩
  ·rw [z] at h;cases h
  ·rw [z] at h;cases h
 obtain⟨tl,sa,la,bl,zs,ws,L,A,e,q,lt,St,kp⟩:=D
 obtain⟨x,y,z,hs⟩:=St
 obtain⟨dx,hk⟩:=A.ob
 obtain⟨xs,hla⟩:=A.las
 refine⟨aw [T0,k,la,s] H',⟨tl,sa,la,bl,zs,ws,L,A.same m,e,⟨q.1,λc hc=>let ⟨⟨o,h⟩,n,r⟩:=q.2 c hc;⟨⟨o,m _ _ h⟩,n,A.kps m c o h r⟩⟩,lt.same m,⟨x,y,z,m _ _ hs⟩,λc o h=>?_⟩,λc o h=>?_,λc o h h'=>?_⟩
 ·have hc:c∉[T0,k,la,s]:=λz=>by rw [qI z] at h;cases h
  rw [zO hc] at h
  simp at hc
  exact⟨h,hc.1,hc.2.1,hc.2.2.1,hc.2.2.2⟩
 ·obtain⟨h1,h0,h2,h3,h4⟩:=kp c o h
  rw [zO (by simp;exact⟨h0,h2,h3,h4⟩)]
  exact m _ _ h1
 ·rw [zO]
  ·exact h'
  ·intro z
   simp at z
   rcases z with rfl | rfl | rfl | rfl
   ·exact hT h
   ·rw [hk] at h;cases h
   ·rw [hla] at h;cases h
   ·rw [hs] at h;cases h
theorem SK.rule (D:SK T0 C CK Hb H X s k b bd ls) {Q:VK} {E:XK} (h:∀ (r bl:Addr) (zs:ZB) (Hb' H':Hp),Same H H'->RuleAt Hb' r b bl zs->zs.map (·.2)=ls->H r=none->SK T0 C CK Hb' H' X s k b bd ls->Same Hb Hb'->Q (.ref r) H'):Xp C CK [.ref k] H Q E:=by
 have D0:=D
 obtain⟨tl,sa,la,bl,zs,ws,L,A,rfl,q,lt,St,kp⟩:=D
 refine⟨k,tl,sa,la,b,bd,bl,zs,ws,L,rfl,A,λr bl' zs' H' m R e hb hr hz=>?_⟩
 obtain⟨Hb',D',mb,new⟩:=D0.more m
 exact h r bl' zs' Hb' H' m ⟨new _ _ hr R.tu,new _ _ hb R.li,λz hzm=>new _ _ (hz z hzm).1 (R.st z hzm)⟩ e hr D' mb
theorem SK.good_rule (D:SK T0 C CK Hb H X s k b bd ls):GoodRule b ls:=by
 obtain⟨tl,sa,la,bl,zs,ws,L,A,rfl,_⟩:=D
 exact A.gt.g
end
section
variable {P:Program} {w:World} {K:W.Frag} {mg:Str->Option Value} {base:Heap}
def uw:Sp:=λvs H Q _=>∃ s:Addr,vs=[.ref s]/\Sto H s/\∀ (n:Nat) (H':Hp),n<2^100->Stq s H H'->Q (.int n) H'
theorem uq:zB ["store","found","k"] ["store"] (zq vO):={}
theorem jw {f f1:Addr} {fd fd1:FuncData} (D:Df K mg "_law_number" vO Ad f fd) (zz:Df K mg "_law_take" yM Ae f1 fd1) (T:Blt mg):FnOk P w K mg base CX0 2 f fd Ad uw:=by
 have zL:FnOk P w K mg base CX0 1 f1 fd1 Ae yG:=xG zz T
 refine D.fn.ok uq (λvs H Q E h=>?_) (λcdv A outer s H vs Q E hr h=>?_)
 ·obtain⟨s,rfl,_⟩:=h;rfl
 ·obtain⟨sa,rfl,S,kk⟩:=h
  refine⟨_,(zp (zH (i:=1) uq.nd rfl (Or.inl rfl) zr)
   (zp (Zi PassesOwn.never rfl (xg rfl T.n_range (zf (zN wJ zr (zJ zz zL (hr.mono (by decide)) (zf (pv 0) (zf (zW (yO K) (yc (zf zr (zf zr (zf zr (zf zr zg))))) (zJ zz zL (hr.mono (by decide)) (zf (pv 0) (zf zr zg))) (λ_ _=>rfl)) zg)))) zg)) (yV (i:=2) uq.nd rfl (Or.inl rfl))
    (zu (zH (i:=1) uq.nd rfl (Or.inl rfl) (zN wJ (zN ji (pv 1) zr) (zJ zz zL (hr.mono (by decide)) (zf (pv 0) (zf zr zg)))))))
   (zu (zF (pv 1))))),?_⟩
  refine⟨_,rfl,?_⟩
  refine⟨(by show 4<=sizeLine;decide),λl1 hl1=>?_⟩
  have n1:=S.ne hl1
  have S1:=(Stq.refl S).new hl1 (o:=.lst [.int 2,.int 4,.int 9,.int 26])
  refine⟨_,rfl,sa,_,rfl,S1.st,(by decide),(by decide),λx1 H2 hx1 S2=>?_⟩
  obtain⟨m,hm,hm1,hm2⟩:∃ m:Nat,atI [V.int 2,V.int 4,V.int 9,V.int 26] (x1:Int)=some (.int m)/\2<=m/\m<=26:=by
   have h4:x1<4:=by omega
   match x1,h4 with
   | 0,_=>exact⟨2,rfl,by omega,by omega⟩
   | 1,_=>exact⟨4,rfl,by omega,by omega⟩
   | 2,_=>exact⟨9,rfl,by omega,by omega⟩
   | 3,_=>exact⟨26,rfl,by omega,by omega⟩
  refine⟨l1,_,_,_,rfl,rfl,SqL.of (S2.sm _ _ n1 zj),hm,?_⟩
  refine⟨sa,_,rfl,S2.st,by omega,by omega,λx2 H3 hx2 S3=>?_⟩
  refine⟨1,x2,rfl,rfl,?_⟩
  refine⟨(1+(x2:Int)),rfl,by omega,by omega,uh (lo:=0) (n:=(1+(x2:Int)).toNat) (λi σ H4=>∃ (v1:Option V) (n:Nat),σ=[some (.ref sa),some (.int n),v1]/\n<10^i/\Stq sa H H4) ⟨none,0,rfl,by decide,(S1.trans S2).trans S3⟩ ?_ ?_⟩
  ·rintro i σ H4 hi ⟨v1,n,rfl,hn,S4⟩
   refine⟨_,rfl,_,_,rfl,rfl,.inr ⟨by decide,by decide⟩,_,rfl,sa,_,rfl,S4.st,(by decide),(by decide),λx3 H5 hx3 S5=>⟨_,_,rfl,rfl,some (.int (0+(i:Int))),n*10+x3,?_,?_,S4.trans S5⟩⟩
   ·show [some (V.ref sa),some (V.int ((n:Int)*10+x3)),some (V.int (0+(i:Int)))]=_
    rw [show ((n:Int)*10+x3)=((n*10+x3:Nat):Int) by omega]
   ·rw [Nat.pow_succ];omega
  ·rintro σ H4 ⟨v1,n,rfl,hn,S4⟩
   refine⟨_,rfl,kk n H4 ?_ S4⟩
   have h1:(10:Nat)^(1+(x2:Int)).toNat<=10^26:=Nat.pow_le_pow_right (by decide) (by omega)
   have h2:(10:Nat)^26<2^100:=by decide
   omega
def X3 (b:Nat) (ls:ZA):Tr:=.tup [.int b,.lst (ls.map yK)]
theorem Vv (b:Nat) (ls:ZA):uC (X3 b ls)<=8:=by
 unfold X3
 rw [uC,wg,wg,wg,uC,uC]
 ·have:=wk ls;omega
 all_goals (intros;rename_i z;cases z)
theorem TrAt.rule {H:Hp} {r bl:Addr} {b:Nat} {zs:ZB} (R:RuleAt H r b bl zs):TrAt K H (X3 b (zs.map (·.2))) (.ref r):=by
 unfold X3
 rw [TrAt]
 refine⟨r,_,rfl,SqT.of R.tu,?_⟩
 rw [TrsAt]
 refine⟨_,_,rfl,by rw [TrAt],?_⟩
 rw [TrsAt]
 refine⟨_,_,rfl,?_,by rw [TrsAt]⟩
 rw [TrAt]
 exact⟨bl,_,rfl,SqL.of R.li,TrsAt.lists R.st⟩
end
theorem zdw {p:Nat->Bool} {g g':Nat} (h:p g=true) (h':p g'=true) (e:many p g=many p g'):g=g':=by
 rcases Nat.lt_trichotomy g g' with z | z | z
 ·have:=zcr p z h;omega
 ·exact z
 ·have:=zcr p z h';omega
theorem zcw (p:Nat->Bool):∀ n,many p n<=n
 | 0=>Nat.le_refl _
 | n+1=>by
  rw [many]
  have:=zcw p n
  split<;>omega
theorem SK.belowI {T0 C CK:Addr} {Hb H:Hp} {X:List Addr} {s k:Addr} {b bd:Nat} {ls:ZA} (D:SK T0 C CK Hb H X s k b bd ls) {i:Int} {n:Nat} (hi:i=n) (hn:n<2^900) {Q:VK} {E:XK} (h:∀ H',SK T0 C CK Hb H' X s k b bd ls->Q (.int (many (gd ls b) n:Nat)) H'):ZR T0 C CK [.ref k,.int i] H Q E:=by
 subst hi
 exact D.below hn h
theorem xT {σ:L2.St} {H:Hp} {Q:List V->Hp->Prop} (h:Q [] H):WR σ H Q:=h
section
variable {P:Program} {w:World} {K:W.Frag} {mg:Str->Option Value} {base:Heap} {T0 C CK:Addr}
def qy (T0 C CK:Addr):Sp:=λvs H Q _=>∃ (X:List Addr) (s k r:Addr) (Hb:Hp) (b bd:Nat) (ls:ZA) (bl:Addr) (zs:ZB),vs=[.ref s,.ref k,.ref r]/\SK T0 C CK Hb H X s k b bd ls/\RuleAt Hb r b bl zs/\zs.map (·.2)=ls/\∀ H',SK T0 C CK Hb H' X s k b bd ls->Q (.bl true) H'
theorem wC:zB ["store","keeper","rule","told","n","few","k"] ["store","keeper","rule"] (zq uA):={}
set_option maxHeartbeats 0 in
theorem Ua {f f1 f2 f3 f4 f5 f6 f7 f8:Addr} {fd fd1 fd2 fd3 fd4 fd5 fd6 fd7 fd8:FuncData} (D:Df K mg "_law_as_anew" uA Bc f fd) (yU:Df K mg "_law_number" vO Ad f1 fd1) (zz:Df K mg "_law_take" yM Ae f2 fd2) (MKeeper_rule:Mt K CK "Keeper.rule" "rule" vN Aq f3 fd3) (GKeeper_rule:FnOk P w K mg base CX0 2 f3 fd3 Aq (Xp C CK)) (MKeeper_below:Mt K CK "Keeper.below" "below" wO Ak f4 fd4) (GKeeper_below:FnOk P w K mg base CX0 5 f4 fd4 Ak (ZR T0 C CK)) (MKeeper_good:Mt K CK "Keeper.good" "good" tO A3 f5 fd5) (GKeeper_good:FnOk P w K mg base CX0 7 f5 fd5 A3 (Uo T0 C CK)) (cKeeper:ClK K mg CK)
  (xN:Df K mg "count_below" vI Ah f6 fd6) (wu:FnOk P w K mg base CX0 9 f6 fd6 Ah (uy T0)) (uJ:Df K mg "count_keeping" vU Af f7 fd7) (jG:FnOk P w K mg base CX0 11 f7 fd7 Af uP) (W6:Df K mg "good_by" Xk A4 f8 fd8) (Q4:FnOk P w K mg base CX0 9 f8 fd8 A4 (Wc T0)) (T:Blt mg):FnOk P w K mg base CX0 12 f fd Bc (qy T0 C CK):=by
 have zL:FnOk P w K mg base CX0 1 f2 fd2 Ae yG:=xG zz T
 have jb:FnOk P w K mg base CX0 2 f1 fd1 Ad uw:=jw yU zz T
 refine D.fn.ok wC (λvs H Q E h=>?_) (λcdv A outer s H vs Q E hr h=>?_)
 ·obtain⟨X,s,k,r,Hb,b,bd,ls,bl,zs,rfl,_⟩:=h;rfl
 ·obtain⟨X,s,k,r,Hb,b,bd,ls,bl,zs,rfl,D0,R,els,kk⟩:=h
  have HU:=Wt hr
  have g:=D0.good_rule
  obtain⟨dx,kbl,ktl,hk⟩:=D0.ob
  refine⟨_,(zp (zH (i:=3) wC.nd rfl (Or.inl rfl) (zbO MKeeper_rule cKeeper.cl GKeeper_rule (hr.mono (by decide)) (pv 1)))
   (zp (zH (i:=4) wC.nd rfl (Or.inl rfl) (zJ yU jb (hr.mono (by decide)) (zf (pv 0) zg)))
   (zp (yE (PW.pt (jX (zP (Q0 K HU) (pv 3) (pv 2) (zV _)) (uR (zP zcQ (vQ MKeeper_below cKeeper.cl GKeeper_below (hr.mono (by decide)) (pv 1) (zf (pv 4) zg)) (zJ xN wu (hr.mono (by decide)) (zf (pv 3) (zf (pv 4) zg))) (zV _)))))
    (zu (zF jn))
    zT)
   (zp (zH (i:=5) wC.nd rfl (Or.inl rfl) (zJ zz zL (hr.mono (by decide)) (zf (pv 0) (zf zr zg))))
   (zp (yE (zP zcQ (vQ MKeeper_below cKeeper.cl GKeeper_below (hr.mono (by decide)) (pv 1) (zf (pv 5) zg)) (zJ uJ jG (hr.mono (by decide)) (zf (yc (zf (pv 3) zg)) (zf (pv 5) zg))) (zV _))
    (zu (zF jn))
    zT)
   (zp (zH (i:=6) wC.nd rfl (Or.inl rfl) (zJ zz zL (hr.mono (by decide)) (zf (pv 0) (zf (zA (zac rfl) (by rfl) T.n_max boot_max (zf zr (zf (vQ MKeeper_below cKeeper.cl GKeeper_below (hr.mono (by decide)) (pv 1) (zf (zN zaz zr zr) zg)) zg))) zg))))
   (zu (zF (zgD (tR YZ (vQ MKeeper_below cKeeper.cl GKeeper_below (hr.mono (by decide)) (pv 1) (zf (zN zaz zr zr) zg)) zr (zV _)) (jz (tR YZ (vQ MKeeper_good cKeeper.cl GKeeper_good (hr.mono (by decide)) (pv 1) (zf (pv 6) zg)) (zJ W6 Q4 (hr.mono (by decide)) (zf (pv 3) (zf (pv 6) zg))) (zV _)))))))))))),?_⟩
  refine⟨_,rfl,k,dx,_,rfl,hk,xK _ _ _ _,xT ?_⟩
  refine D0.rule λr2 bl2 zs2 Hb1 H1 m1 R2 e2 hr2 D1 mb=>?_
  have R1:=R.same mb
  refine⟨_,rfl,s,rfl,D1.sto,λn H2 hn q2=>?_⟩
  have D2:=D1.stq q2
  have hn9:n<2^900:=Nat.lt_of_lt_of_le hn (Nat.pow_le_pow_right (by decide) (by decide))
  refine⟨_,rfl,_,rfl,X3 b (zs2.map (·.2)),X3 b (zs.map (·.2)),TrAt.rule (R2.same D2.base),TrAt.rule (R1.same D2.base),Vv _ _,_,rfl,?_⟩
  rw [if_pos rfl,e2,els,qg]
  refine yf ?_
  obtain⟨dx2,kbl2,ktl2,hk2⟩:=D2.ob
  refine⟨_,rfl,k,dx2,_,rfl,hk2,xK _ _ _ _,_,rfl,xT ?_⟩
  refine D2.below hn9 λH3 D3=>?_
  refine⟨_,rfl,_,rfl,r2,b,bl2,zs2,n,rfl,R2.same D3.base,by rw [e2];exact g,hn9,D3.lt,λH4 m4 lt4=>?_⟩
  have D4:=D3.sameL m4 lt4
  rw [e2]
  refine⟨rfl,_,rfl,Jv (by rw [decide_eq_true rfl];rfl) ?_⟩
  refine⟨_,rfl,s,200,rfl,D4.sto,by decide,by decide,λfew H5 hfew q5=>?_⟩
  have D5:=D4.stq q5
  obtain⟨dx5,kbl5,ktl5,hk5⟩:=D5.ob
  have hf9:few<2^900:=Nat.lt_of_lt_of_le (show few<2^8 by omega) (Nat.pow_le_pow_right (by decide) (by decide))
  refine⟨_,rfl,k,dx5,_,rfl,hk5,xK _ _ _ _,_,rfl,xT ?_⟩
  refine D5.below hf9 λH6 D6=>?_
  refine⟨_,rfl,(by show 1<=sizeLine;decide),λl hl=>?_⟩
  have m7:=zm hl (o:=.lst [.ref r2])
  have D7:=D6.same m7
  refine⟨_,rfl,l,r2,b,bl2,zs2,few,rfl,⟨zj,R2.same D7.base,by rw [e2];exact g⟩,by omega,λH8 m8=>?_⟩
  have D8:=D7.same m8
  rw [e2]
  refine⟨rfl,_,rfl,Jv (by rw [decide_eq_true rfl];rfl) ?_⟩
  have e12:(10:Int)^(12:Int).toNat=((10^12:Nat):Int):=by decide
  have h12:(10^12:Nat)<2^900:=Nat.lt_of_lt_of_le (show 10^12<2^40 by decide) (Nat.pow_le_pow_right (by decide) (by decide))
  obtain⟨dx8,kbl8,ktl8,hk8⟩:=D8.ob
  refine⟨_,rfl,_,rfl,k,dx8,_,rfl,hk8,xK _ _ _ _,10,12,rfl,rfl,⟨by decide,by decide,by decide⟩,xT ?_⟩
  refine D8.belowI e12 h12 λH9 D9=>?_
  have hm:=zcw (gd ls b) (10^12)
  have hm60:many (gd ls b) (10^12)<=many (gd ls b) (b^60):=VH _ (Nat.le_trans (show 10^12<=2^60 by decide) (Nat.pow_le_pow_left g.b2 60))
  have h1:(if ((many (gd ls b) (10^12):Nat):Int)>1 then ((many (gd ls b) (10^12):Nat):Int) else 1)=((max 1 (many (gd ls b) (10^12)):Nat):Int):=by
   split<;>omega
  refine⟨_,_,rfl,s,_,rfl,D9.sto,by rw [h1];omega,by rw [h1];exact Int.lt_of_le_of_lt (show ((max 1 (many (gd ls b) (10^12)):Nat):Int)<=10^12 by omega) (by decide +kernel),λkv H10 hkv q10=>?_⟩
  rw [h1] at hkv
  have D10:=D9.stq q10
  obtain⟨dx10,kbl10,ktl10,hk10⟩:=D10.ob
  refine⟨_,rfl,k,dx10,_,rfl,hk10,xK _ _ _ _,10,12,rfl,rfl,⟨by decide,by decide,by decide⟩,xT ?_⟩
  refine D10.belowI e12 h12 λH11 D11=>?_
  refine⟨rfl,_,rfl,?_⟩
  by_cases z:many (gd ls b) (10^12)=0
  ·rw [z]
   exact zcj (decide_eq_true rfl) (kk H11 (by obtain⟨tl,sa,la,bl,zs,ws,L,A,e,q,lt,St,kp⟩:=D11;exact⟨tl,sa,la,bl,zs,ws,L,A,e,q,lt,St,λc o h=>kp c o (mb _ _ h)⟩))
  refine Jv (ZM (by omega)) ?_
  obtain⟨dx11,kbl11,ktl11,hk11⟩:=D11.ob
  have hkM:kv<many (gd ls b) (b^60):=by omega
  refine⟨_,rfl,k,dx11,_,rfl,hk11,xK _ _ _ _,_,rfl,xT ?_⟩
  refine D11.good hkM λg1 H12 hg1 hm1 D12=>?_
  refine⟨_,rfl,_,rfl,r2,b,bl2,zs2,kv,rfl,R2.same D12.base,by rw [e2];exact g,by rw [e2];exact hkM,D12.lt,λg2 H13 hg2 hm2 m13 lt13=>?_⟩
  rw [e2] at hg2 hm2
  have D13:=D12.sameL m13 lt13
  obtain rfl:=zdw hg1 hg2 (hm1.trans hm2.symm)
  refine⟨rfl,?_⟩
  rw [decide_eq_true rfl]
  exact kk H13 (by obtain⟨tl,sa,la,bl,zs,ws,L,A,e,q,lt,St,kp⟩:=D13;exact⟨tl,sa,la,bl,zs,ws,L,A,e,q,lt,St,λc o h=>kp c o (mb _ _ h)⟩)
end
theorem ints_map (l:List Int):yr (.list (l.map .int))=l:=by
 show (l.map PyData.int).map jL=l
 rw [List.map_map]
 conv=>rhs;rw [<- List.map_id l]
 rfl
theorem JK (ls:ZA):(ls.map λl=>PyData.list (l.map .int)).map yr=ls:=by
 rw [List.map_map]
 conv=>rhs;rw [<- List.map_id ls]
 exact List.map_congr_left λl _=>ints_map l
def Xm (T0 C CK:Addr):Sp:=λvs H Q _=>∃ (k dx r:Addr) (b:Nat) (bl:Addr) (zs:ZB) (bd:Nat),vs=[.ref k,.ref r,.int bd]/\H k=some (.ins CK dx [])/\RuleAt H r b bl zs/\GoodRule b (zs.map (·.2))/\LT T0 H /\
 ∀ (tl sa la bl2:Addr) (zs2:ZB) (ws:ZA) (L:Nat) (H':Hp),KpAt C CK H' k tl sa la b bd bl2 zs2 ws L->zs2.map (·.2)=zs.map (·.2)->(∀ c o,c≠k->c≠T0->H c=some o->H' c=some o)->LT T0 H'->H la=none->H sa=none->H bl2=none->(∀ c o,H c=some o->c≠k->ClrK c H' k tl sa la bl2 zs2)->Q .non H'
theorem za9 {P:Program} {w:World} {K:W.Frag} {mg:Str->Option Value} {base:Heap} {T0 C CK qS qB:Addr} {f:Addr} {fd:FuncData} (G:FnOk P w K mg base (CX1 P w) 9 f fd Ap (Wi T0 C CK qS qB)):FnOk P w K mg base CX0 9 f fd Ap (Xm T0 C CK) :=
 G.calm.imp λvs H Q E ⟨k,dx,r,b,bl,zs,bd,e,hk,R,g,hT,kk⟩=>by
  have t:=R.th
  have f:vD (.tuple [.int b,.list ((zs.map (·.2)).map λl=>.list (l.map .int))])<=100000:=by
   obtain⟨d,td,_,ft⟩:=R.thing g
   rw [t.uniq td]
   exact Nat.le_trans (Wn d) (Nat.le_trans ft.wt (by decide))
  refine⟨k,dx,.ref r,.int bd,_,.int bd,e,hk,t,by rw [ThAt],f,hT,λz=>absurd z (by rw [Q5 g];intro z;cases z),λ_ z=>(UW z).elim,λr' b' bl' zs' bd' er R' g' ee=>?_⟩
  obtain rfl:r=r':=by injection er
  obtain rfl:bd=bd':=by injection ee with ee;omega
  have e:=t.uniq R'.th
  injection e with e
  injection e with e1 e
  injection e with e2 _
  injection e1 with e1
  injection e2 with e2
  obtain rfl:b=b':=by omega
  have e3:=congrArg (List.map yr) e2
  rw [JK,JK] at e3
  intro tl sa la bl2 zs2 ws L H' A1 A2
  exact kk tl sa la bl2 zs2 ws L H' A1 (A2.trans e3.symm)
def MadeK (T0 C CK:Addr) (b bd:Nat) (ls:ZA) (H:Hp) (k:Addr) (H':Hp):Prop:=∃ (tl sa la bl:Addr) (zs:ZB) (ws:ZA) (L:Nat),KpAt C CK H' k tl sa la b bd bl zs ws L/\zs.map (·.2)=ls/\SameL T0 H H'/\LT T0 H'/\H k=none/\H la=none/\H sa=none/\H bl=none/\∀ c o,H c=some o->ClrK c H' k tl sa la bl zs
theorem zbH {T0 C CK:Addr} {r:Addr} {b bd:Nat} {bl:Addr} {zs:ZB} {H:Hp} (R:RuleAt H r b bl zs) (g:GoodRule b (zs.map (·.2))) (hT:LT T0 H) {R':Addr->Hp->Prop} (k:∀ x H',MadeK T0 C CK b bd (zs.map (·.2)) H x H'->R' x H') :
  ∀ x dx,H x=none->H dx=none->dx≠x->Xm T0 C CK (.ref x :: ([.ref r,.int bd]++[])) (upd (upd H dx (.own x)) x (.ins CK dx [])) (λv H2=>v=.non/\R' x H2) E0:=by
 intro x dx nx ndx nex
 have s0:=zcN (C:=CK) nx ndx
 refine⟨x,dx,r,b,bl,zs,bd,rfl,zj,R.same s0,g,hT.same s0,λtl sa la bl2 zs2 ws L H' KA e fr hT' hla hsa hbl cl=>⟨rfl,k x H' ⟨tl,sa,la,bl2,zs2,ws,L,KA,e,λc o hc e=>fr c o (zx e nx) hc (s0 c o e),hT',nx,s0.free hla,s0.free hsa,s0.free hbl,λc o e=>cl c o (s0 _ _ e) (zx e nx)⟩⟩⟩
section
variable {T0 C CK:Addr} {Hb H H':Hp} {X:List Addr} {s k:Addr} {b bd:Nat} {ls:ZA}
theorem MadeK.sk (M:MadeK T0 C CK b bd ls H k H') (St:Sto H s) (lt:LT T0 H) (hs:s∈X) (hX:∀ c∈X,(∃ o,H c=some o)/\c≠T0):SK T0 C CK (aw [T0,s] H) H' X s k b bd ls:=by
 obtain⟨tl,sa,la,bl,zs,ws,L,A,e,m,lt',hk,hla,hsa,hbl,cl⟩:=M
 obtain⟨x,y,z,e1⟩:=St
 refine⟨tl,sa,la,bl,zs,ws,L,A,e,⟨hs,λc hc=>let ⟨⟨o,h⟩,n⟩:=hX c hc;⟨⟨o,m _ _ n h⟩,n,cl c o h⟩⟩,lt',⟨x,y,z,m _ _ (lt.lst e1) e1⟩,λc o h=>?_⟩
 have hc:c∉[T0,s]:=λz=>by rw [qI z] at h;cases h
 rw [zO hc] at h
 simp at hc
 exact⟨m _ _ hc.1 h,hc.1,zx h hk,zx h hla,hc.2⟩
theorem KpAt.fresh {tl sa la bl c:Addr} {zs:ZB} {ws:ZA} {L:Nat} (A:KpAt C CK H k tl sa la b bd bl zs ws L) (h:H c=none):ClrK c H k tl sa la bl zs:=by
 obtain⟨dx,h1⟩:=A.ob
 obtain⟨dt,h2⟩:=A.sa
 obtain⟨xs1,w1⟩:=A.las
 obtain⟨xs2,w2⟩:=A.sas
 obtain⟨dx',sa',srs,t1,t2,t3,t4⟩:=A.ta.ob
 obtain⟨lrs,g1,g2,g3⟩:=A.ta.ly
 have esa:sa=sa':=by
  have:=zK _ _ _ _ t1
  rw [h2] at this
  injection this with this
  injection this with _ _ this
  have e:=ym b ws.length sa' la
  rw [<- this,ym] at e
  injection e with e
  injection e
 subst esa
 refine⟨Ne.symm (zx h1 h),Ne.symm (zx h2 h),Ne.symm (zx w2 h),Ne.symm (zx w1 h),Ne.symm (zx A.li h),λz hz=>Ne.symm (zx (A.st z hz) h),λxs hx hm=>?_,λxs hx hm=>?_⟩
 ·rw [g1] at hx
  injection hx with hx
  injection hx with hx
  rw [<- hx] at hm
  obtain⟨z,hz,e⟩:=List.mem_map.mp hm
  injection e with e
  have:=zK _ _ _ _ (g2 z hz)
  rw [e,h] at this;cases this
 ·rw [zK _ _ _ _ t2] at hx
  injection hx with hx
  injection hx with hx
  rw [<- hx] at hm
  obtain⟨z,hz,e⟩:=List.mem_map.mp hm
  injection e with e
  have:=zK _ _ _ _ (t3 z hz)
  rw [e,h] at this;cases this
end
section
variable {T0 C CK:Addr} {Hb H H':Hp} {X M:List Addr} {s k:Addr} {b bd:Nat} {ls:ZA}
theorem KpAt.clrM {tl sa la bl:Addr} {zs:ZB} {ws:ZA} {L:Nat} (A:KpAt C CK H k tl sa la b bd bl zs ws L) (q:∀ c∈M,ClrK c H k tl sa la bl zs) (m:∀ c o,c∉M->H c=some o->H' c=some o):KpAt C CK H' k tl sa la b bd bl zs ws L/\∀ c,ClrK c H k tl sa la bl zs->ClrK c H' k tl sa la bl zs:=by
 obtain⟨dx,h1⟩:=A.ob
 obtain⟨dt,h2⟩:=A.sa
 obtain⟨xs1,w1⟩:=A.las
 obtain⟨xs2,w2⟩:=A.sas
 obtain⟨dx',sa',srs,t1,t2,t3,t4⟩:=A.ta.ob
 obtain⟨lrs,g1,g2,g3⟩:=A.ta.ly
 have esa:sa=sa':=by
  have:=zK _ _ _ _ t1
  rw [h2] at this
  injection this with this
  injection this with _ _ this
  have e:=ym b ws.length sa' la
  rw [<- this,ym] at e
  injection e with e
  injection e
 subst esa
 have go:∀ c u,c∉M->aw [la] H c=some u->aw [la] H' c=some u:=λc u hc e=>by
  have hcl:c∉[la]:=λhz=>by rw [qI hz] at e;cases e
  rw [zO hcl] at e ⊢
  exact m c u hc e
 have nk:k∉M:=λz=>(q _ z).nk rfl
 have ntl:tl∉M:=λz=>(q _ z).ntl rfl
 have nsa:sa∉M:=λz=>(q _ z).nsa rfl
 have nla:la∉M:=λz=>(q _ z).nla rfl
 have nbl:bl∉M:=λz=>(q _ z).nbl rfl
 refine⟨⟨⟨dx,m _ _ nk h1⟩,m _ _ nbl A.li,λz hz=>m _ _ (λy=>(q _ y).nz z hz rfl) (A.st z hz),⟨⟨dx',sa,srs,go _ _ ntl t1,go _ _ nsa t2,λz hz=>go _ _ (λe=>?_) (t3 z hz),t4⟩,⟨lrs,m _ _ nla g1,λz hz=>go _ _ (λe=>?_) (g2 z hz),g3⟩,A.ta.l1⟩,⟨dt,m _ _ ntl h2⟩,A.gt,A.bla,A.l⟩,λc r=>⟨r.nk,r.ntl,r.nsa,r.nla,r.nbl,r.nz,r.rla.same w1 (m _ _ nla w1),r.rsa.same w2 (m _ _ nsa w2)⟩⟩
 ·exact (q _ e).rsa _ (zK _ _ _ _ t2) (List.mem_map.mpr ⟨z,hz,rfl⟩)
 ·exact (q _ e).rla _ g1 (List.mem_map.mpr ⟨z,hz,rfl⟩)
theorem KpAt.clrT {tl sa la bl:Addr} {zs:ZB} {ws:ZA} {L:Nat} (A:KpAt C CK H k tl sa la b bd bl zs ws L) (lt:LT T0 H):ClrK T0 H k tl sa la bl zs:=by
 obtain⟨dx,h1⟩:=A.ob
 obtain⟨dt,h2⟩:=A.sa
 obtain⟨xs1,w1⟩:=A.las
 obtain⟨xs2,w2⟩:=A.sas
 obtain⟨dx',sa',srs,t1,t2,t3,t4⟩:=A.ta.ob
 obtain⟨lrs,g1,g2,g3⟩:=A.ta.ly
 have esa:sa=sa':=by
  have:=zK _ _ _ _ t1
  rw [h2] at this
  injection this with this
  injection this with _ _ this
  have e:=ym b ws.length sa' la
  rw [<- this,ym] at e
  injection e with e
  injection e
 subst esa
 refine⟨Ne.symm (lt.ins h1),Ne.symm (lt.ins h2),Ne.symm (lt.lst w2),Ne.symm (lt.lst w1),Ne.symm (lt.lst A.li),λz hz=>Ne.symm (lt.lst (A.st z hz)),λxs hx hm=>?_,λxs hx hm=>?_⟩
 ·rw [g1] at hx
  injection hx with hx
  injection hx with hx
  rw [<- hx] at hm
  obtain⟨z,hz,e⟩:=List.mem_map.mp hm
  injection e with e
  exact lt.lst (zK _ _ _ _ (g2 z hz)) e
 ·rw [zK _ _ _ _ t2] at hx
  injection hx with hx
  injection hx with hx
  rw [<- hx] at hm
  obtain⟨z,hz,e⟩:=List.mem_map.mp hm
  injection e with e
  exact lt.lst (zK _ _ _ _ (t3 z hz)) e
end
theorem zcB:∀ {l1 l2:ZA},l1.Pairwise (λx y=>HT.lexLt x y=true)->l2.Pairwise (λx y=>HT.lexLt x y=true)->(∀ x,x∈l1↔x∈l2)->l1=l2
 | [],[],_,_,_=>rfl
 | [],y :: l2,_,_,h=>absurd ((h y).mpr List.mem_cons_self) List.not_mem_nil
 | x :: l1,[],_,_,h=>absurd ((h x).mp List.mem_cons_self) List.not_mem_nil
 | x :: l1,y :: l2,p1,p2,h=>by
  rw [List.pairwise_cons] at p1 p2
  have e:x=y:=by
   rcases List.mem_cons.mp ((h x).mp List.mem_cons_self) with e | e
   ·exact e
   ·rcases List.mem_cons.mp ((h y).mpr List.mem_cons_self) with e' | e'
    ·exact e'.symm
    ·have a1:=p2.1 x e
     have a2:=p1.1 y e'
     have:=HT.wQ _ _ _ a1 a2
     rw [HT.yJ] at this;cases this
  subst e
  rw [zcB p1.2 p2.2 λz=>?_]
  constructor
  ·intro hz
   rcases List.mem_cons.mp ((h z).mp (List.mem_cons_of_mem _ hz)) with e | e
   ·have:=p1.1 z hz
    rw [e,HT.yJ] at this;cases this
   ·exact e
  ·intro hz
   rcases List.mem_cons.mp ((h z).mpr (List.mem_cons_of_mem _ hz)) with e | e
   ·have:=p2.1 z hz
    rw [e,HT.yJ] at this;cases this
   ·exact e
theorem DueL.uniq {door b:Nat} {ls l1 l2:ZA} {ns:List Int} (h:door<=1) (a:DueL door ls ns l1) (b':DueL door ls ns l2) (g1:GoodRule b l1) (g2:GoodRule b l2):l1=l2:=by
 rcases (show door=0\/door=1 by omega) with e | e
 ·exact zcB g1.up g2.up λx=>((a.1 e).trans (b'.1 e).symm).mem_iff
 ·rw [a.2 e,b'.2 e]
theorem DueL.less {ls l2:ZA} {ns:List Int} (a:DueL 0 ls ns l2) (b n:Nat):many (gd l2 b) n<=many (gd ls b) n:=J0 (λl hl=>(a.1 rfl).mem_iff.mpr (List.mem_append_left _ hl)) b n
theorem DueL.more {ls l2:ZA} {ns:List Int} (a:DueL 1 ls ns l2) (b n:Nat):many (gd ls b) n<=many (gd l2 b) n:=J0 (λl hl=>by rw [a.2 rfl] at hl;exact (List.mem_filter.mp hl).1) b n
def SO (T0 C CK:Addr) (H:Hp) (X:List Addr) (k la:Addr) (b bd:Nat) (ls:ZA):Prop:=∃ (tl sa bl:Addr) (zs:ZB) (ws:ZA) (L:Nat),KpAt C CK H k tl sa la b bd bl zs ws L/\zs.map (·.2)=ls/\∀ c∈X,(∃ o,H c=some o)/\c≠T0/\ClrK c H k tl sa la bl zs
section
variable {T0 C CK:Addr} {Hb H H':Hp} {X M:List Addr} {s k la:Addr} {b bd:Nat} {ls:ZA}
theorem SO.same (D:SO T0 C CK H X k la b bd ls) (m:Same H H'):SO T0 C CK H' X k la b bd ls:=by
 obtain⟨tl,sa,bl,zs,ws,L,A,e,q⟩:=D
 exact⟨tl,sa,bl,zs,ws,L,A.same m,e,λc hc=>let ⟨⟨o,h⟩,n,r⟩:=q c hc;⟨⟨o,m _ _ h⟩,n,A.kps m c o h r⟩⟩
theorem SO.good_rule (D:SO T0 C CK H X k la b bd ls):GoodRule b ls:=by
 obtain⟨tl,sa,bl,zs,ws,L,A,rfl,_⟩:=D
 exact A.gt.g
theorem SO.ob (D:SO T0 C CK H X k la b bd ls):∃ dx bl tl,H k=some (.ins CK dx (vC b bl bd tl)):=by
 obtain⟨tl,sa,bl,zs,ws,L,A,_⟩:=D
 obtain⟨dx,h⟩:=A.ob
 exact⟨dx,bl,tl,h⟩
theorem SO.ola (D:SO T0 C CK H X k la b bd ls):∃ xs,H la=some (.lst xs):=by
 obtain⟨tl,sa,bl,zs,ws,L,A,_⟩:=D
 obtain⟨xs,h⟩:=A.las
 exact⟨_,h⟩
theorem SO.other (D:SO T0 C CK H X k la b bd ls) {k2 la2:Addr} (O:Off T0 k2 la2 H H') (lt:LT T0 H) (h1:k2∈X) (h2:la2∈X) (Z:List Addr) (hZ:∀ c∈Z,(∃ o,H' c=some o)/\c≠T0/\(c∈X\/H c=none)):SO T0 C CK H' Z k la b bd ls:=by
 obtain⟨tl,sa,bl,zs,ws,L,A,e,q⟩:=D
 have hq:∀ c∈[k2,la2,T0],ClrK c H k tl sa la bl zs:=λc hc=>by
  simp at hc
  rcases hc with rfl | rfl | rfl
  ·exact (q _ h1).2.2
  ·exact (q _ h2).2.2
  ·exact A.clrT lt
 obtain⟨A2,qq⟩:=A.clrM (H':=H') hq λc o hc h=>by
  simp at hc
  exact O c o hc.1 hc.2.1 hc.2.2 h
 refine⟨tl,sa,bl,zs,ws,L,A2,e,λc hc=>?_⟩
 obtain⟨o,t,h⟩:=hZ c hc
 rcases h with h | h
 ·exact⟨o,t,qq c (q c h).2.2⟩
 ·exact⟨o,t,qq c (A.fresh h)⟩
theorem SO.asked (D:SO T0 C CK H X k la b bd ls) (lt:LT T0 H) (hbd:bd<2^900) {t:Addr} {door:Nat} {u dv:V} {d:PyData} (ht:H t=some (.tup [.int door,u])) (h1:door<=1) (hd:ThAt H d u) (hs:vD d<=100000) {Q:VK} {E:XK}
  (kR:∀ x,qM b ls d door=some x->dv=.str x/\∀ H',Same H H'->Q (.str x) H')
  (kO:qM b ls d door=none->∀ (p la':Addr) (ls2:ZA) (H':Hp),DueL door ls (yr d) ls2->SO T0 C CK H' X k la' b bd ls2->Off T0 k la H H'->LT T0 H'->H la'=none->H p=none->p≠la'->H' p=some (.tup [.int (many (gd ls b) bd:Nat),.int (many (gd ls2 b) bd:Nat)])->Q (.ref p) H'):vL T0 C CK [.ref k,.ref t,dv] H Q E:=by
 obtain⟨tl,sa,bl,zs,ws,L,A,rfl,q⟩:=D
 exact⟨k,tl,sa,la,b,bd,bl,zs,ws,L,t,door,u,d,dv,rfl,A,hbd,lt,ht,h1,hd,hs,λx hx=>kR x hx,λhx p tl2 sa2 la2 bl2 zs2 ws2 L2 H' hp hv A2 ok O lt2 hla2 hsa2 hbl2 pla cl=>kO hx p la2 _ H' ok ⟨tl2,sa2,bl2,zs2,ws2,L2,A2,rfl,λc hc=>let ⟨⟨o,h⟩,n,r⟩:=q c hc;⟨⟨o,O c o r.nk r.nla n h⟩,n,cl c o h r.nk λz hz=>r.nz z hz⟩⟩ O lt2 hla2 hp pla hv⟩
theorem SK.opn (D:SK T0 C CK Hb H X s k b bd ls):∃ la,SO T0 C CK H X k la b bd ls/\s∈X/\(∀ c o,Hb c=some o->H c=some o/\c≠T0/\c≠k/\c≠la/\c≠s)/\∀ H',Stq s H H'->SK T0 C CK (aw [s,k,la,T0] H') H' X s k b bd ls:=by
 have D0:=D
 obtain⟨tl,sa,la,bl,zs,ws,L,A,e,q,lt,St,kp⟩:=D
 refine⟨la,⟨tl,sa,bl,zs,ws,L,A,e,q.2⟩,q.1,kp,λH' m=>?_⟩
 have m':=m.sm
 have qs:=(q.2 s q.1).2.2
 obtain⟨A2,_⟩:=A.clr qs m'
 obtain⟨xs1,w1⟩:=A.las
 obtain⟨xs2,w2⟩:=A.sas
 have q2:s∈X/\∀ c∈X,(∃ o,H' c=some o)/\c≠T0/\ClrK c H' k tl sa la bl zs:=⟨q.1,λc hc=>by
  obtain⟨⟨o,h⟩,n,r⟩:=q.2 c hc
  refine⟨?_,n,r.nk,r.ntl,r.nsa,r.nla,r.nbl,r.nz,r.rla.same w1 (m' _ _ (Ne.symm qs.nla) w1),r.rsa.same w2 (m' _ _ (Ne.symm qs.nsa) w2)⟩
  by_cases z:c=s
  ·obtain⟨x,y,u,e⟩:=m.st
   exact⟨_,by rw [z];exact e⟩
  ·exact⟨o,m' _ _ z h⟩⟩
 exact⟨tl,sa,la,bl,zs,ws,L,A2,e,q2,lt.stq St m',m.st,λc o h=>by
  have hc:c∉[s,k,la,T0]:=λz=>by rw [qI z] at h;cases h
  rw [zO hc] at h
  simp at hc
  exact⟨h,hc.2.2.2,hc.2.1,hc.2.2.1,hc.1⟩⟩
theorem zfr {T:Addr} {H:Hp} (lt:LT T H):H T≠none:=λz=>lt.none z rfl
theorem SK.deed (D:SK T0 C CK Hb H X s k b bd ls) {r bl:Addr} {zs:ZB} (R:RuleAt Hb r b bl zs) (e:zs.map (·.2)=ls) {Q:VK} {E:XK} (h:∀ (t:Addr) (door:Nat) (u:V) (d:PyData) (Hb' H':Hp),SK T0 C CK Hb' H' X s k b bd ls->Same Hb Hb'->Hb' t=some (.tup [.int door,u])->door<=1->ThAt Hb' d u->Fit 3 2000 d->Q (.ref t) H'):qZ [.ref s,.ref r] H Q E:=by
 have St:=D.sto
 have lt:=D.lt
 obtain⟨la,SD,_,kp,q⟩:=D.opn
 obtain⟨dx,b1,t1,hk⟩:=SD.ob
 obtain⟨xs,hla⟩:=SD.ola
 have mb:Same Hb (aw [s,k,la,T0] H):=λc o e=>by
  obtain⟨h1,h0,h2,h3,h4⟩:=kp c o e
  rw [zO (by simp;exact⟨h4,h2,h3,h0⟩)]
  exact h1
 refine⟨s,r,[k,la,T0],b,bl,zs,rfl,St,λm hm=>?_,R.same mb,by rw [e];exact D.good_rule,λt door u d H' qs m ht h1 hd f=>h t door u d _ H' (q H' qs) (mb.trans m) ht h1 hd f⟩
 simp at hm
 rcases hm with rfl | rfl | rfl
 ·rw [hk];intro z;cases z
 ·rw [hla];intro z;cases z
 ·exact zfr lt
theorem SK.due (D:SK T0 C CK Hb H X s k b bd ls) {r bl t:Addr} {zs:ZB} {door:Nat} {u:V} {d:PyData} (R:RuleAt Hb r b bl zs) (e:zs.map (·.2)=ls) (ht:Hb t=some (.tup [.int door,u])) (h1:door<=1) (hd:ThAt Hb d u) (hs:vD d<=100000) {Q:VK} {E:XK}
  (kR:∀ x,qM b ls d door=some x->∀ H',SK T0 C CK Hb H' X s k b bd ls->Q (.str x) H')
  (kO:qM b ls d door=none->∀ (r2 bl2:Addr) (zs2:ZB) (Hb' H':Hp),SK T0 C CK Hb' H' X s k b bd ls->Same Hb Hb'->RuleAt Hb' r2 b bl2 zs2->GoodRule b (zs2.map (·.2))->DueL door ls (yr d) (zs2.map (·.2))->Q (.ref r2) H'):jW [.ref r,.ref t] H Q E:=by
 subst e
 refine⟨r,t,b,bl,zs,door,u,d,rfl,R.same D.base,D.good_rule,D.base _ _ ht,h1,hd.same D.base,hs,λx hx H' m=>kR x hx H' (D.same m),λhx r2 bl2 zs2 H' m R2 g2 du n1 n2 n3=>?_⟩
 obtain⟨Hb',D',mb,new⟩:=D.more m
 refine kO hx r2 bl2 zs2 Hb' H' D' mb ⟨new _ _ n1 R2.tu,new _ _ n2 R2.li,λz hz=>?_⟩ g2 du
 rcases n3 z hz with h | h
 ·exact mb _ _ (R.st z h)
 ·exact new _ _ h (R2.st z hz)
def Duo (T0 C CK:Addr) (Hb H:Hp) (s k k2:Addr) (b bd:Nat) (l1 l2:ZA):Prop:=∃ la la2,SO T0 C CK H [k2,la2,s] k la b bd l1/\SO T0 C CK H [k,la,s] k2 la2 b bd l2/\LT T0 H/\Sto H s/\∀ c o,Hb c=some o->H c=some o/\c≠T0/\c≠k/\c≠la/\c≠s/\c≠k2/\c≠la2
theorem SK.duo (D:SK T0 C CK Hb H X s k b bd ls) {k2:Addr} (M:MadeK T0 C CK b bd ls H k2 H'):Duo T0 C CK Hb H' s k k2 b bd ls ls:=by
 have lt:=D.lt
 have St:=D.sto
 obtain⟨la,⟨tl,sa,bl,zs,ws,L,A,e,q⟩,hs,kp,_⟩:=D.opn
 obtain⟨tl2,sa2,la2,bl2,zs2,ws2,L2,A2,e2,m,lt',hk,hla,hsa,hbl,cl⟩:=M
 obtain⟨dx,h0⟩:=A.ob
 obtain⟨xs,h1⟩:=A.las
 obtain⟨dx2,h2⟩:=A2.ob
 obtain⟨xs2,h3⟩:=A2.las
 obtain⟨x,y,z,h4⟩:=St
 have up:∀ c o,H c=some o->c≠T0->(∃ o,H' c=some o)/\c≠T0/\ClrK c H' k2 tl2 sa2 la2 bl2 zs2:=λc o h n=>⟨⟨o,m _ _ n h⟩,n,cl c o h⟩
 refine⟨la,la2,⟨tl,sa,bl,zs,ws,L,A.sameL lt m,e,λc hc=>?_⟩,⟨tl2,sa2,bl2,zs2,ws2,L2,A2,e2,λc hc=>?_⟩,lt',⟨x,y,z,m _ _ (lt.lst h4) h4⟩,λc o h=>?_⟩
 ·simp at hc
  rcases hc with rfl | rfl | rfl
  ·exact⟨⟨_,h2⟩,lt.none hk,A.kpsL lt m (A.fresh hk)⟩
  ·exact⟨⟨_,h3⟩,lt.none hla,A.kpsL lt m (A.fresh hla)⟩
  ·exact⟨⟨_,m _ _ (lt.lst h4) h4⟩,lt.lst h4,A.kpsL lt m (q _ hs).2.2⟩
 ·simp at hc
  rcases hc with rfl | rfl | rfl
  ·exact up _ _ h0 (lt.ins h0)
  ·exact up _ _ h1 (lt.lst h1)
  ·exact up _ _ h4 (lt.lst h4)
 ·obtain⟨e1,e0,e2,e3,e4⟩:=kp c o h
  exact⟨m _ _ e0 e1,e0,e2,e3,e4,zx e1 hk,zx e1 hla⟩
section
variable {k2:Addr} {l1 l2:ZA}
theorem Duo.swap (D:Duo T0 C CK Hb H s k k2 b bd l1 l2):Duo T0 C CK Hb H s k2 k b bd l2 l1:=by
 obtain⟨la,la2,A,B,lt,St,kp⟩:=D
 exact⟨la2,la,B,A,lt,St,λc o h=>let ⟨h1,h0,h2,h3,h4,h5,h6⟩:=kp c o h;⟨h1,h0,h5,h6,h4,h2,h3⟩⟩
theorem Duo.same (D:Duo T0 C CK Hb H s k k2 b bd l1 l2) (m:Same H H'):Duo T0 C CK Hb H' s k k2 b bd l1 l2:=by
 obtain⟨la,la2,A,B,lt,St,kp⟩:=D
 exact⟨la,la2,A.same m,B.same m,lt.same m,St.same m,λc o h=>⟨m _ _ (kp c o h).1,(kp c o h).2⟩⟩
theorem Duo.base (D:Duo T0 C CK Hb H s k k2 b bd l1 l2):Same Hb H:=by
 obtain⟨la,la2,A,B,lt,St,kp⟩:=D
 exact λc o h=>(kp c o h).1
theorem Duo.ask (D:Duo T0 C CK Hb H s k k2 b bd l1 l2) (hbd:bd<2^900) {t:Addr} {door:Nat} {u dv:V} {d:PyData} (ht:Hb t=some (.tup [.int door,u])) (h1:door<=1) (hd:ThAt Hb d u) (hs:vD d<=100000) {Q:VK} {E:XK}
  (kR:∀ x,qM b l1 d door=some x->dv=.str x/\∀ H',Duo T0 C CK Hb H' s k k2 b bd l1 l2->Q (.str x) H')
  (kO:qM b l1 d door=none->∀ (p:Addr) (ls2:ZA) (Hb' H':Hp),DueL door l1 (yr d) ls2->GoodRule b ls2->Duo T0 C CK Hb' H' s k k2 b bd ls2 l2->Same Hb Hb'->Hb' p=some (.tup [.int (many (gd l1 b) bd:Nat),.int (many (gd ls2 b) bd:Nat)])->Q (.ref p) H'):vL T0 C CK [.ref k,.ref t,dv] H Q E:=by
 have D0:=D
 have mb:=D.base
 obtain⟨la,la2,A,B,lt,St,kp⟩:=D
 obtain⟨dx2,bx2,tx2,hk2⟩:=B.ob
 obtain⟨xs2,hla2⟩:=B.ola
 obtain⟨dx1,bx1,tx1,hk1⟩:=A.ob
 obtain⟨x,y,z,h4⟩:=St
 refine A.asked lt hbd (mb _ _ ht) h1 (hd.same mb) hs (λx hx=>⟨(kR x hx).1,λH' m=>(kR x hx).2 H' (D0.same m)⟩) λhx p la' l3 H' du A' O lt' nla np npl hv=>?_
 have nb:Hb p=none:=mb.free np
 obtain⟨tl,sa,bl,zs,ws,L,KA,e,q⟩:=A
 have q2:=(q k2 (by simp)).2.2
 have q3:=(q la2 (by simp)).2.2
 have q4:=(q s (by simp)).2.2
 have h4':=O s _ q4.nk q4.nla (lt.lst h4) h4
 obtain⟨dx,bx,tx,hk⟩:=A'.ob
 obtain⟨xs,hla⟩:=A'.ola
 refine kO hx p l3 (upd Hb p (.tup [.int (many (gd l1 b) bd:Nat),.int (many (gd l3 b) bd:Nat)])) H' du A'.good_rule ⟨la',la2,A',B.other O lt (by simp) (by simp) [k,la',s] λc hc=>?_,lt',⟨x,y,z,h4'⟩,λc o h=>?_⟩ (zm nb) zj
 ·simp at hc
  rcases hc with rfl | rfl | rfl
  ·exact⟨⟨_,hk⟩,lt.ins hk1,.inl (by simp)⟩
  ·exact⟨⟨_,hla⟩,lt.none nla,.inr nla⟩
  ·exact⟨⟨_,h4'⟩,lt.lst h4,.inl (by simp)⟩
 ·by_cases hc:c=p
  ·rw [hc,zj] at h
   injection h with h
   rw [hc,<- h]
   exact⟨hv,lt.none np,Ne.symm (zx hk1 np),npl,Ne.symm (zx h4 np),Ne.symm (zx hk2 np),Ne.symm (zx hla2 np)⟩
  ·rw [zy hc] at h
   obtain⟨e1,e0,e2,e3,e4,e5,e6⟩:=kp c o h
   exact⟨O c o e2 e3 e0 e1,e0,e2,zx e1 nla,e4,e5,e6⟩
def KIn (C CK:Addr) (Hb:Hp) (k:Addr) (b bd:Nat) (ls:ZA):Prop:=∃ (tl sa la bl:Addr) (zs:ZB) (ws:ZA) (L:Nat),KpAt C CK Hb k tl sa la b bd bl zs ws L/\zs.map (·.2)=ls
theorem Duo.fin (D:Duo T0 C CK Hb H s k k2 b bd l1 l2):∃ Hb',SK T0 C CK Hb' H [s] s k b bd l1/\Same Hb Hb'/\KIn C CK Hb' k2 b bd l2:=by
 obtain⟨la,la2,⟨tl,sa,bl,zs,ws,L,KA,e,q⟩,⟨tl2,sa2,bl2,zs2,ws2,L2,KB,e2,q2⟩,lt,St,kp⟩:=D
 have hq:∀ c∈[T0,k,la,s],ClrK c H k2 tl2 sa2 la2 bl2 zs2:=λc hc=>by
  simp at hc
  rcases hc with rfl | rfl | rfl | rfl
  ·exact KB.clrT lt
  ·exact (q2 _ (by simp)).2.2
  ·exact (q2 _ (by simp)).2.2
  ·exact (q2 _ (by simp)).2.2
 refine⟨aw [T0,k,la,s] H,⟨tl,sa,la,bl,zs,ws,L,KA,e,⟨by simp,λc hc=>q c (by simp at hc;simp [hc])⟩,lt,St,λc o h=>?_⟩,λc o h=>?_,tl2,sa2,la2,bl2,zs2,ws2,L2,(KB.clrM (H':=aw [T0,k,la,s] H) hq λc o hc h=>by rw [zO hc];exact h).1,e2⟩
 ·have hc:c∉[T0,k,la,s]:=λz=>by rw [qI z] at h;cases h
  rw [zO hc] at h
  simp at hc
  exact⟨h,hc.1,hc.2.1,hc.2.2.1,hc.2.2.2⟩
 ·obtain⟨e1,e0,e2,e3,e4,_⟩:=kp c o h
  rw [zO (by simp;exact⟨e0,e2,e3,e4⟩)]
  exact e1
theorem KIn.rule (D:KIn C CK Hb k b bd ls) (m:Same Hb H) {Q:VK} {E:XK} (h:∀ (r bl:Addr) (zs:ZB) (H':Hp),Same H H'->RuleAt H' r b bl zs->zs.map (·.2)=ls->Q (.ref r) H'):Xp C CK [.ref k] H Q E:=by
 obtain⟨tl,sa,la,bl,zs,ws,L,A,rfl⟩:=D
 exact⟨k,tl,sa,la,b,bd,bl,zs,ws,L,rfl,A.same m,λr bl' zs' H' m R e hb hr hz=>h r bl' zs' H' m R e⟩
theorem KIn.ob (D:KIn C CK Hb k b bd ls):∃ dx bl tl,Hb k=some (.ins CK dx (vC b bl bd tl)):=by
 obtain⟨tl,sa,la,bl,zs,ws,L,A,_⟩:=D
 obtain⟨dx,h⟩:=A.ob
 exact⟨dx,bl,tl,h⟩
end
end
theorem LT.sq {K:W.Frag} {T a:Addr} {H H':Hp} {xs:List V} (h:LT T H) (m:SameL T H H') (q:SqL K H a xs):SqL K H' a xs:=by
 rcases q with (q | ⟨o,q⟩) | q
 ·exact .inl (.inl (m _ _ (h.lst q) q))
 ·refine .inl (.inr ⟨o,m _ _ (λz=>?_) q⟩)
  rw [z] at q
  rcases h with h | ⟨c,h,_⟩
  ·rw [h] at q;cases q
  ·rw [h] at q;cases q
 ·exact .inr q
theorem zd5 {s T c:Addr} {H:Hp} {o:HO} (h:aw [s] H c=some o) (n:c≠T):aw [T,s] H c=some o:=by
 have hc:c∉[s]:=λz=>by rw [qI z] at h;cases h
 rw [zO hc] at h
 simp at hc
 rw [zO (by simp [n,hc])];exact h
theorem RuleAt.vw {s T r bl:Addr} {b:Nat} {zs:ZB} {H:Hp} (R:RuleAt (aw [s] H) r b bl zs) (lt:LT T H):RuleAt (aw [T,s] H) r b bl zs :=
 ⟨zd5 R.tu (lt.tup (zK _ _ _ _ R.tu)),zd5 R.li (lt.lst (zK _ _ _ _ R.li)),λz hz=>zd5 (R.st z hz) (lt.lst (zK _ _ _ _ (R.st z hz)))⟩
theorem zcZ {b:Nat} {ls:ZA} {d:PyData} {door:Nat} {x:Str} (h1:door<=1) (h:qM b ls d door=some x):x=("many" : Str)\/x=("stretch" : Str):=by
 unfold qM at h
 rcases (show door=0\/door=1 by omega) with rfl | rfl
 ·rw [if_pos rfl] at h
  split at h
  ·injection h with h;exact .inl h.symm
  ·split at h
   ·injection h with h;exact .inr h.symm
   ·cases h
 ·rw [if_neg (by decide),if_pos rfl] at h
  split at h
  ·injection h with h;exact .inr h.symm
  ·cases h
def Xb (x y:Nat):Tr:=.tup [.int x,.int y]
theorem TrAt.pair {K:W.Frag} {H:Hp} {p:Addr} {x y:Nat} (h:H p=some (.tup [.int x,.int y])):TrAt K H (Xb x y) (.ref p):=by
 unfold Xb
 rw [TrAt]
 exact⟨p,_,rfl,SqT.of h,by rw [TrsAt];exact⟨_,_,rfl,by rw [TrAt],by rw [TrsAt];exact⟨_,_,rfl,by rw [TrAt],by rw [TrsAt]⟩⟩⟩
theorem VB (x y:Nat):uC (Xb x y)<=8:=by simp [Xb,uC,wg]
section
variable {P:Program} {w:World} {K:W.Frag} {mg:Str->Option Value} {base:Heap}
def Yr:Sp:=λvs H Q _=>∃ s:Addr,vs=[.ref s]/\Sto H s/\∀ (r:Addr) (b:Nat) (bl:Addr) (zs:ZB) (H':Hp),Stq s H H'->RuleAt (aw [s] H') r b bl zs->GoodRule b (zs.map (·.2))->Q (.ref r) H'
theorem Wx:zB ["store","base"] ["store"] (zq jZ):={}
theorem WP {f f1 f2 f3 f4:Addr} {fd fd1 fd2 fd3 fd4:FuncData} (D:Df K mg "_law_rule" jZ Ad f fd) (zz:Df K mg "_law_take" yM Ae f1 fd1) (zR:Df K mg "_law_stretch" yL An f2 fd2) (wR:Df K mg "_law_base" qp Ad f3 fd3) (ul:Df K mg "_law_bad" uK At f4 fd4) (T:Blt mg):FnOk P w K mg base CX0 4 f fd Ad Yr:=by
 have Qw:FnOk P w K mg base CX0 2 f3 fd3 Ad Z5:=WY wR zz T
 have zab:FnOk P w K mg base CX0 3 f4 fd4 At Xc:=VM ul zz zR T
 refine D.fn.ok Wx (λvs H Q E h=>?_) (λcdv A outer s H vs Q E hr h=>?_)
 ·obtain⟨s,rfl,_⟩:=h;rfl
 ·obtain⟨sa,rfl,S,kk⟩:=h
  refine⟨_,(zp (zH (i:=1) Wx.nd rfl (Or.inl rfl) (zJ wR Qw (hr.mono (by decide)) (zf (pv 0) zg)))
   (zu (zF (qG (zf (pv 1) (zf (zJ ul zab (hr.mono (by decide)) (zf (pv 0) (zf (pv 1) zg))) zg)))))),?_⟩
  refine⟨_,rfl,sa,rfl,S,λb H1 b2 b16 S1=>?_⟩
  refine⟨_,rfl,_,rfl,_,rfl,sa,b,rfl,S1.st,b2,b16,λbl zs H2 S2 B=>⟨(by show 2<=sizeLine;decide),λr hr=>?_⟩⟩
  have m3:=zm hr (o:=.tup [.int b,.ref bl])
  have o:∀ p,H1 p=none->p∉[sa]:=λp hp z=>S1.st.ne hp (by simpa using z)
  have nr:r∉[sa]:=λz=>S2.st.ne hr (by simpa using z)
  exact kk r b bl zs _ ((S1.trans S2).same m3) ⟨by rw [zO nr];exact zj,by rw [zO (o _ B.nl)];exact m3 _ _ B.li,λz hz=>by rw [zO (o _ (B.ns z hz))];exact m3 _ _ (B.st z hz)⟩ ⟨b2,b16,by rw [List.length_map];exact B.len,λl hl=>by
   obtain⟨z,hz,rfl⟩:=List.mem_map.mp hl
   exact B.good z hz,B.up⟩
end
section
variable {P:Program} {w:World} {K:W.Frag} {mg:Str->Option Value} {base:Heap} {T0 C CK:Addr}
def zaf (K:W.Frag) (T:Addr):Sp:=λvs H Q _=>∃ (a:Addr) (ns:List Int),vs=[.ref a]/\SqL K H a (ns.map V.int)/\ns.length<=63/\LT T H/\∀ H',Q (.bl true) H'
theorem ux:zB ["script","at","store","rule","b","keeper","turn","deed","due","word","anew","found"] ["script"] (zq QK):={}
set_option maxHeartbeats 0 in
theorem zgq {f f1 f2 f3 f4 f5 f6 f7 f8 f9 f10 f11 f12 f13 f14 f15 f16 f17:Addr} {fd fd1 fd2 fd3 fd4 fd5 fd6 fd7 fd8 fd9 fd10 fd11 fd12 fd13 fd14 fd15 fd16 fd17:FuncData} (D:Df K mg "law" QK ["script"] f fd) (jE:Df K mg "_law_cell" Zd A0 f1 fd1) (tW:Df K mg "_law_store" qL ["cell"] f2 fd2) (zz:Df K mg "_law_take" yM Ae f3 fd3) (zR:Df K mg "_law_stretch" yL An f4 fd4) (ul:Df K mg "_law_bad" uK At f5 fd5) (wR:Df K mg "_law_base" qp Ad f6 fd6)
  (jx:Df K mg "_law_rule" jZ Ad f7 fd7) (jP:Df K mg "_law_copy" qd Ag f8 fd8) (yU:Df K mg "_law_number" vO Ad f9 fd9) (jy:Df K mg "_law_deed" j7 A9 f10 fd10) (Zz:Df K mg "_law_due" jN Ba f11 fd11) (yq:Df K mg "_law_is_stretch" yP Ab f12 fd12) (tU:Df K mg "_law_asked" qQ Bb f13 fd13) (Za:FnOk P w K mg base CX0 11 f13 fd13 Bb (vL T0 C CK)) (vJ:Df K mg "_law_as_anew" uA Bc f14 fd14) (tM:FnOk P w K mg base CX0 12 f14 fd14 Bc (qy T0 C CK))
  (xN:Df K mg "count_below" vI Ah f15 fd15) (wu:FnOk P w K mg base CX0 9 f15 fd15 Ah (uy T0)) (MKeeper_rule:Mt K CK "Keeper.rule" "rule" vN Aq f16 fd16) (GKeeper_rule:FnOk P w K mg base CX0 2 f16 fd16 Aq (Xp C CK)) (KKeeper:Mk K CK f17) (BKeeper:Binds K fd17 ["self","rule","b"] []) (GKeeper_init:FnOk P w K mg base CX0 9 f17 fd17 Ap (Xm T0 C CK)) (cKeeper:ClK K mg CK) (T:Blt mg) (U:zbo mg):FnOk P w K mg base CX0 13 f fd ["script"] (zaf K T0):=by
 have QD:FnOk P w K mg base CX0 1 f1 fd1 A0 (YF K):=WN jE T
 have VP:FnOk P w K mg base CX0 1 f2 fd2 ["cell"] Zt:=Xx tW T
 have zL:FnOk P w K mg base CX0 1 f3 fd3 Ae yG:=xG zz T
 have Qn:FnOk P w K mg base CX0 4 f7 fd7 Ad Yr:=WP jx zz zR wR ul T
 have QG:FnOk P w K mg base CX0 1 f8 fd8 Ag Yz:=WK jP T
 have jb:FnOk P w K mg base CX0 2 f9 fd9 Ad uw:=jw yU zz T
 have Qk:FnOk P w K mg base CX0 3 f10 fd10 A9 qZ:=W2 jy zz zR T
 have J6:FnOk P w K mg base CX0 2 f11 fd11 Ba jW:=V0 Zz yq T
 refine D.fn.ok ux (λvs H Q E h=>?_) (λcdv A outer s H vs Q E hr h=>?_)
 ·obtain⟨a,ns,rfl,_⟩:=h;rfl
 ·obtain⟨a,ns,rfl,hS,hlen,hT,kk⟩:=h
  have HU:=Wt hr
  refine⟨_,(zp (Zi PassesOwn.never rfl (xg rfl T.n_range (zf (zA (Vi rfl) (by rfl) T.n_min boot_min (zf (zA (zac rfl) (by rfl) T.n_max boot_max (zf (zA (wF K) (by rfl) T.n_len PySem.boot_len (zf (pv 0) zg)) (zf zr zg))) (zf zr zg))) zg)) (yV (i:=1) ux.nd rfl (Or.inl rfl))
    (zp (zH (i:=2) ux.nd rfl (Or.inl rfl) (zJ tW VP (hr.mono (by decide)) (zf (zJ jE QD (hr.mono (by decide)) (zf (pv 0) (zf (pv 1) zg))) zg)))
    (zp (zH (i:=3) ux.nd rfl (Or.inl rfl) (zJ jx Qn (hr.mono (by decide)) (zf (pv 2) zg)))
    (zp (zH (i:=4) ux.nd rfl (Or.inl rfl) (zJ yU jb (hr.mono (by decide)) (zf (pv 2) zg)))
    (zp (zH (i:=5) ux.nd rfl (Or.inl rfl) (Xl KKeeper GKeeper_init (hr.mono (by decide)) rfl cKeeper.nm BKeeper .nil W7 (zf (zJ jP QG (hr.mono (by decide)) (zf (pv 3) zg)) (zf (pv 4) zg))))
    (zp (Zi PassesOwn.never rfl (xg rfl T.n_range (zf (zJ zz zL (hr.mono (by decide)) (zf (pv 2) (zf zr zg))) zg)) (yV (i:=6) ux.nd rfl (Or.inl rfl))
     (zp (zH (i:=7) ux.nd rfl (Or.inl rfl) (zJ jy Qk (hr.mono (by decide)) (zf (pv 2) (zf (pv 3) zg))))
     (zp (zH (i:=8) ux.nd rfl (Or.inl rfl) (zJ Zz J6 (hr.mono (by decide)) (zf (pv 3) (zf (pv 7) zg))))
     (zp (zH (i:=9) ux.nd rfl (Or.inl rfl) uv)
     (zp (yE (xm (zA (YK K) (by rfl) T.n_isinstance boot_isinstance (zf (pv 8) (zf (vq (v:=.ty "str") rfl U.n_str boot_str rfl) zg))))
      (zu (zH (i:=9) ux.nd rfl (Or.inl rfl) (pv 8)))
      zT)
     (zp (zH (i:=10) ux.nd rfl (Or.inl rfl) (Xl KKeeper GKeeper_init (hr.mono (by decide)) rfl cKeeper.nm BKeeper .nil W7 (zf (zbO MKeeper_rule cKeeper.cl GKeeper_rule (hr.mono (by decide)) (pv 5)) (zf (pv 4) zg))))
     (zp (zH (i:=11) ux.nd rfl (Or.inl rfl) (zJ tU Za (hr.mono (by decide)) (zf (pv 5) (zf (pv 7) (zf (pv 9) zg)))))
     (zp (yE (PW.pt (jX (zP (zcF K HU) (pv 11) uv (zV _)) (uR (zP (Q0 K HU) (pv 11) (zJ tU Za (hr.mono (by decide)) (zf (pv 10) (zf (pv 7) (zf (pv 9) zg)))) (zV _)))))
      (zu (zF jn))
      zT)
     (zp (yE (zP YZ (pv 9) uv (zV _))
      (zp (yE (PW.pt (jX (zP (Q0 K HU) (pv 11) (qG (zf (zJ xN wu (hr.mono (by decide)) (zf (pv 3) (zf (pv 4) zg))) (zf (zJ xN wu (hr.mono (by decide)) (zf (pv 8) (zf (pv 4) zg))) zg))) (zV _)) (uR (zP JW (zN ji (zN Vg (zW (wU K) (pv 11) zr (λ_ _=>rfl)) (zW (wU K) (pv 11) zr (λ_ _=>rfl))) (zW (yO K) (yc (zf zr (zf (J3 Vr zr) zg))) (zW (wU K) (pv 7) zr (λ_ _=>rfl)) (λ_ _=>rfl))) zr (zV _)))))
       (zu (zF jn))
       zT)
      (zu (zH (i:=3) ux.nd rfl (Or.inl rfl) (pv 8))))
      zT)
     (zu (yE (zP YZ (zJ zz zL (hr.mono (by decide)) (zf (pv 2) (zf zr zg))) zr (zV _))
      (zu (yE (PW.pt (jX (wz (xm (zJ vJ tM (hr.mono (by decide)) (zf (pv 2) (zf (pv 5) (zf (pv 3) zg)))))) (uR (zP (Q0 K HU) (zbO MKeeper_rule cKeeper.cl GKeeper_rule (hr.mono (by decide)) (pv 10)) (pv 3) (zV _)))))
       (zu (zF jn))
       zT))
      zT)))))))))))
    (zu (yE (wz (xm (zJ vJ tM (hr.mono (by decide)) (zf (pv 2) (zf (pv 5) (zf (pv 3) zg))))))
     (zu (zF jn))
     zT))))))))
   (zu (zF jn))),?_⟩
  refine⟨_,rfl,a,_,rfl,.inl hS,_,_,rfl,_,_,rfl,?_⟩
  generalize hM:(if (5:Int)<(if (3:Int)>((ns.map V.int).length:Int) then 3 else ((ns.map V.int).length:Int)) then (5:Int) else (if (3:Int)>((ns.map V.int).length:Int) then 3 else ((ns.map V.int).length:Int)))=M
  have hM1:0<=M/\M<=5:=by
   rw [<- hM];split<;>split<;>omega
  refine⟨M,rfl,by omega,by omega,uh (lo:=0) (n:=M.toNat) (λi σ H2=>∃ v1 v2 v3 v4 v5 v6 v7 v8 v9 v10 v11:Option V,σ=[some (.ref a),v1,v2,v3,v4,v5,v6,v7,v8,v9,v10,v11]/\SameL T0 H H2/\LT T0 H2) ⟨_,_,_,_,_,_,_,_,_,_,_,rfl,SameL.of (Same.refl _),hT⟩ ?_ ?_⟩
  ·rintro i σ H2 hi ⟨v1,v2,v3,v4,v5,v6,v7,v8,v9,v10,v11,rfl,m2,T2⟩
   refine⟨_,rfl,_,rfl,a,ns,i,by rw [Int.zero_add];rfl,hT.sq m2 hS,hlen,by omega,λc=>⟨c,rfl,λs H3 hs St3 m3=>?_⟩⟩
   refine⟨_,rfl,s,rfl,St3,λr0 b bl0 zs0 H4 q4 R4 g=>?_⟩
   refine⟨_,rfl,s,rfl,q4.st,λbd H5 hbd0 q5=>?_⟩
   have hbd:bd<2^900:=Nat.lt_of_lt_of_le hbd0 (Nat.pow_le_pow_right (by decide) (by decide))
   have T5:=((T2.same m3).stq St3 q4.sm).stq q4.st q5.sm
   have R5:RuleAt (aw [s] H5) r0 b bl0 zs0:=R4.same q5.aw
   have h4:zs0.length<=4:=by have:=g.len;rwa [List.length_map] at this
   refine⟨_,rfl,r0,b,bl0,zs0,rfl,R5.same (zK _ _),by omega,λr1 bl1 zs1 H6 m6 R6 e6 _ _ _=>⟨_,rfl,zbH (bd:=bd) R6 (by rw [e6];exact g) (T5.same m6) ?_⟩⟩
   rintro k H7 MK
   rw [e6] at MK
   have St6:=q5.st.same m6
   have T6:=T5.same m6
   have D7:=MK.sk (X:=[s]) St6 T6 (by simp) (λc hc=>by
    simp at hc
    obtain⟨x,y,z,e⟩:=St6
    rw [hc]
    exact⟨⟨_,e⟩,T6.lst e⟩)
   have R7:RuleAt (aw [T0,s] H6) r0 b bl0 zs0:=(R5.same (m6.aw [s])).vw T6
   have up7:SameL T0 H2 (aw [T0,s] H6):=λc o hc e=>by
    have n:=zx e hs
    rw [zO (by simp [hc,n])]
    exact m6 _ _ (q5.sm c o n (q4.sm c o n (m3 _ _ e)))
   generalize aw [T0,s] H6=Hb7 at D7 R7 up7
   refine⟨_,rfl,s,15,rfl,D7.sto,by decide,by decide,λN H8 hN q8=>?_⟩
   have D8:=D7.stq q8
   refine⟨_,rfl,by omega,by omega,uh (lo:=0) (n:=(N:Int).toNat) (λj σ G=>∃ (r bl:Addr) (zs:ZB) (Hb:Hp) (v6 v7 v8 v9 v10 v11:Option V),σ=[some (.ref a),some (.int (0+(i:Int))),some (.ref s),some (.ref r),some (.int bd),some (.ref k),v6,v7,v8,v9,v10,v11]/\SK T0 C CK Hb G [s] s k b bd (zs.map (·.2))/\RuleAt Hb r b bl zs/\SameL T0 H2 Hb) ⟨r0,bl0,zs0,Hb7,_,_,_,_,_,_,rfl,D8,R7,up7⟩ ?_ ?_⟩
   ·rintro j σ G0 hj ⟨r,bl,zs,Hb,w6,w7,w8,w9,w10,w11,rfl,D0,R0,up0⟩
    refine⟨_,rfl,_,rfl,xT ?_⟩
    refine D0.deed R0 rfl λt door u d Hb1 G1 D1 mb1 ht h1 hd fd=>?_
    have hs:vD d<=100000:=Nat.le_trans (Wn d) (Nat.le_trans fd.wt (by decide))
    have R1:=R0.same mb1
    refine⟨_,rfl,_,rfl,xT ?_⟩
    refine D1.due R1 rfl ht h1 hd hs (λx hx G2 D2=>?_) (λhx r2 bl2 zs2 Hb2 G2 D2 mb2 R2 g2 du=>?_)
    ·have hw:=zcZ h1 hx
     refine⟨_,rfl,_,_,_,_,rfl,.str _,VV,_,rfl,yp ?_⟩
     refine⟨_,rfl,?_⟩
     obtain⟨dx,kbl,ktl,hk⟩:=D2.ob
     refine⟨_,rfl,k,dx,_,rfl,hk,xK _ _ _ _,xT ?_⟩
     refine D2.rule λr3 bl3 zs3 Hb3 G3 m3 R3 e3 hr3 D3 mb3=>?_
     refine⟨_,rfl,zbH (bd:=bd) (R3.same D3.base) (by rw [e3];exact D3.good_rule) D3.lt ?_⟩
     rintro k2 G4 MK2
     rw [e3] at MK2
     have U4:=D3.duo MK2
     refine⟨_,rfl,_,rfl,_,rfl,xT ?_⟩
     have ht3:=mb3 _ _ ht
     have hd3:=hd.same mb3
     refine U4.ask hbd ht3 h1 hd3 hs (λy hy=>?_) (λhy=>by rw [hx] at hy;cases hy)
     rw [hx] at hy
     injection hy with hy
     subst hy
     refine⟨rfl,λG5 U5=>?_⟩
     refine⟨_,rfl,.str x,.str ("other" : Str),by rw [TrAt],by rw [TrAt],by simp [uC],_,rfl,?_⟩
     have ho:teq (.str x) (.str ("other" : Str))=false:=by rcases hw with rfl | rfl<;>decide
     rw [if_neg (by decide),ho]
     refine yf ?_
     refine⟨_,rfl,_,rfl,_,rfl,_,rfl,xT ?_⟩
     refine U5.swap.ask hbd ht3 h1 hd3 hs (λy hy=>?_) (λhy=>by rw [hx] at hy;cases hy)
     rw [hx] at hy
     injection hy with hy
     subst hy
     refine⟨rfl,λG6 U6=>?_⟩
     refine⟨.str x,.str x,by rw [TrAt],by rw [TrAt],by simp [uC],_,rfl,?_⟩
     rw [if_pos rfl,qg]
     refine yf ?_
     refine⟨_,rfl,rfl,_,rfl,Jv (decide_eq_false (λz=>by injection z with z;rcases hw with rfl | rfl<;>revert z<;>decide)) ?_⟩
     obtain⟨Hb6,D6,mb6,K6⟩:=U6.swap.fin
     have R6:=(R1.same mb3).same mb6
     have up6:SameL T0 H2 Hb6:=λc o hc e=>mb6 _ _ (mb3 _ _ (mb1 _ _ (up0 c o hc e)))
     refine⟨_,rfl,s,3,rfl,D6.sto,by decide,by decide,λy G7 hy q7=>⟨rfl,_,rfl,?_⟩⟩
     have D7:=D6.stq q7
     by_cases hy0:y=0
     ·refine zcj (decide_eq_true (by rw [hy0];rfl)) ?_
      refine⟨_,rfl,_,rfl,_,rfl,[s],s,k,r,Hb6,b,bd,_,bl,zs,rfl,D7,R6,rfl,λG8 D8=>⟨_,rfl,yf ?_⟩⟩
      obtain⟨dx8,kbl8,ktl8,hk8⟩:=K6.ob
      refine⟨_,rfl,k2,dx8,_,rfl,D8.base _ _ hk8,xK _ _ _ _,xT ?_⟩
      refine K6.rule D8.base λr9 bl9 zs9 G9 m9 R9 e9=>?_
      refine⟨_,rfl,X3 b (zs9.map (·.2)),X3 b (zs.map (·.2)),TrAt.rule R9,TrAt.rule (R6.same (D8.base.trans m9)),Vv _ _,_,rfl,?_⟩
      rw [if_pos rfl,e9,qg]
      exact yf ⟨r,bl,zs,Hb6,_,_,_,_,_,_,rfl,D8.same m9,R6,up6⟩
     ·exact Jv (ZM (by omega)) ⟨r,bl,zs,Hb6,_,_,_,_,_,_,rfl,D7,R6,up6⟩
    ·refine⟨_,rfl,_,_,_,_,rfl,.tup (D2.base _ _ R2.tu),Zh,_,rfl,yf ?_⟩
     obtain⟨dx,kbl,ktl,hk⟩:=D2.ob
     refine⟨_,rfl,k,dx,_,rfl,hk,xK _ _ _ _,xT ?_⟩
     refine D2.rule λr3 bl3 zs3 Hb3 G3 m3 R3 e3 hr3 D3 mb3=>?_
     refine⟨_,rfl,zbH (bd:=bd) (R3.same D3.base) (by rw [e3];exact D3.good_rule) D3.lt ?_⟩
     rintro k2 G4 MK2
     rw [e3] at MK2
     have U4:=D3.duo MK2
     refine⟨_,rfl,_,rfl,_,rfl,xT ?_⟩
     have ht3:=mb3 _ _ (mb2 _ _ ht)
     have hd3:=(hd.same mb2).same mb3
     refine U4.ask hbd ht3 h1 hd3 hs (λy hy=>by rw [hx] at hy;cases hy) (λ_ p l3 Hb5 G5 du5 g5 U5 mb5 hp5=>?_)
     obtain rfl:zs2.map (·.2)=l3:=du.uniq h1 du5 g2 g5
     refine⟨_,rfl,Xb _ _,.str ("other" : Str),TrAt.pair (U5.base _ _ hp5),by rw [TrAt],VB _ _,_,rfl,?_⟩
     rw [if_neg (by decide),show teq (Xb (many (gd (zs.map (·.2)) b) bd) (many (gd (zs2.map (·.2)) b) bd)) (.str ("other" : Str))=false by simp [Xb,teq]]
     refine yf ?_
     refine⟨_,rfl,_,rfl,_,rfl,_,rfl,xT ?_⟩
     refine U5.swap.ask hbd (mb5 _ _ ht3) h1 (hd3.same mb5) hs (λy hy=>by rw [hx] at hy;cases hy) (λ_ p2 l4 Hb6 G6 du6 g6 U6 mb6 hp6=>?_)
     obtain rfl:zs2.map (·.2)=l4:=du.uniq h1 du6 g2 g6
     refine⟨Xb _ _,Xb _ _,TrAt.pair (U6.base _ _ (mb6 _ _ hp5)),TrAt.pair (U6.base _ _ hp6),VB _ _,_,rfl,?_⟩
     rw [if_pos rfl,qg]
     refine yf ?_
     refine⟨_,rfl,rfl,_,rfl,zcj (decide_eq_true rfl) ?_⟩
     obtain⟨Hb7,D7,mb7,K7⟩:=U6.swap.fin
     have mb17:Same Hb1 Hb7:=mb2.trans (mb3.trans (mb5.trans (mb6.trans mb7)))
     have R7:=R1.same mb17
     have R27:=R2.same (mb3.trans (mb5.trans (mb6.trans mb7)))
     have hp7:=mb7 _ _ (mb6 _ _ hp5)
     have ht7:=mb17 _ _ ht
     have up7:SameL T0 H2 Hb7:=λc o hc e=>mb17 _ _ (mb1 _ _ (up0 c o hc e))
     refine⟨_,rfl,_,rfl,_,rfl,r,b,bl,zs,bd,rfl,R7.same D7.base,D0.good_rule,hbd,D7.lt,λG8 m8 lt8=>?_⟩
     have D8:=D7.sameL m8 lt8
     refine⟨_,rfl,_,rfl,r2,b,bl2,zs2,bd,rfl,R27.same D8.base,g2,hbd,D8.lt,λG9 m9 lt9=>?_⟩
     have D9:=D8.sameL m9 lt9
     refine⟨(by show 2<=sizeLine;decide),λtt htt=>?_⟩
     have m10:=zm htt (o:=.tup [.int (many (gd (zs.map (·.2)) b) bd:Nat),.int (many (gd (zs2.map (·.2)) b) bd:Nat)])
     have D10:=D9.same m10
     refine⟨Xb _ _,Xb _ _,TrAt.pair (D10.base _ _ hp7),TrAt.pair zj,VB _ _,_,rfl,?_⟩
     rw [if_pos rfl,qg]
     refine yf ?_
     generalize upd G9 tt (.tup [.int (many (gd (zs.map (·.2)) b) bd:Nat),.int (many (gd (zs2.map (·.2)) b) bd:Nat)])=G10 at m10 D10 ⊢
     refine⟨_,rfl,p,_,_,_,rfl,rfl,SqT.of (D10.base _ _ hp7),rfl,?_⟩
     refine⟨_,rfl,p,_,_,_,rfl,rfl,SqT.of (D10.base _ _ hp7),rfl,?_⟩
     refine⟨_,_,rfl,rfl,?_⟩
     refine⟨_,rfl,(by show 2<=sizeLine;decide),λli hli=>?_⟩
     have m11:=zm hli (o:=.lst [.int 1,.int (-1)])
     have D11:=D10.same m11
     refine⟨_,rfl,t,_,_,_,rfl,rfl,SqT.of (D11.base _ _ ht7),rfl,?_⟩
     obtain⟨sg,hsg,hs1,hneg⟩:∃ sg:Int,atI [V.int 1,V.int (-1)] (door:Int)=some (.int sg)/\(-(2^64)<sg/\sg<2^64)/\¬ (((many (gd (zs.map (·.2)) b) bd:Nat):Int)-((many (gd (zs2.map (·.2)) b) bd:Nat):Int))*sg<0:=by
      rcases (show door=0\/door=1 by omega) with rfl | rfl
      ·refine⟨1,rfl,by decide,?_⟩
       have:=du.less b bd
       omega
      ·refine⟨-1,rfl,by decide,?_⟩
       have:=du.more b bd
       omega
     refine⟨li,_,_,.int sg,rfl,rfl,SqL.of zj,hsg,?_⟩
     refine⟨_,_,rfl,rfl,.inr hs1,?_⟩
     refine⟨_,_,rfl,rfl,_,rfl,Jv (decide_eq_false hneg) ?_⟩
     refine⟨_,rfl,?_⟩
     generalize upd G10 li (.lst [.int 1,.int (-1)])=G11 at m11 D11 ⊢
     refine⟨_,rfl,s,3,rfl,D11.sto,by decide,by decide,λy G12 hy q12=>⟨rfl,_,rfl,?_⟩⟩
     have D12:=D11.stq q12
     by_cases hy0:y=0
     ·refine zcj (decide_eq_true (by rw [hy0];rfl)) ?_
      refine⟨_,rfl,_,rfl,_,rfl,[s],s,k,r2,Hb7,b,bd,_,bl2,zs2,rfl,D12,R27,rfl,λG8 D8=>⟨_,rfl,yf ?_⟩⟩
      obtain⟨dx8,kbl8,ktl8,hk8⟩:=K7.ob
      refine⟨_,rfl,k2,dx8,_,rfl,D8.base _ _ hk8,xK _ _ _ _,xT ?_⟩
      refine K7.rule D8.base λr9 bl9 zs9 G9 m9 R9 e9=>?_
      refine⟨_,rfl,X3 b (zs9.map (·.2)),X3 b (zs2.map (·.2)),TrAt.rule R9,TrAt.rule (R27.same (D8.base.trans m9)),Vv _ _,_,rfl,?_⟩
      rw [if_pos rfl,e9,qg]
      exact yf ⟨r2,bl2,zs2,Hb7,_,_,_,_,_,_,rfl,D8.same m9,R27,up7⟩
     ·exact Jv (ZM (by omega)) ⟨r2,bl2,zs2,Hb7,_,_,_,_,_,_,rfl,D12,R27,up7⟩
   ·rintro σ G0 ⟨r,bl,zs,Hb,w6,w7,w8,w9,w10,w11,rfl,D0,R0,up0⟩
    refine⟨_,rfl,_,rfl,_,rfl,[s],s,k,r,Hb,b,bd,_,bl,zs,rfl,D0,R0,rfl,λG8 D8=>⟨_,rfl,yf ?_⟩⟩
    exact⟨_,_,_,_,_,_,_,_,_,_,_,rfl,λc o hc e=>D8.base _ _ (up0 c o hc (m2 c o hc e)),D8.lt⟩
  ·rintro σ H2 ⟨v1,v2,v3,v4,v5,v6,v7,v8,v9,v10,v11,rfl,_,_⟩
   exact kk H2
end
open PySem L2
theorem fb1 {P:List Value->Prop} (h:∀ a,P [a]):∀ us:List Value,us.length=1->P us
 | [a],_=>h a
theorem fb2 {P:List Value->Prop} (h:∀ a b,P [a,b]):∀ us:List Value,us.length=2->P us
 | [a,b],_=>h a b
theorem fb3 {P:List Value->Prop} (h:∀ a b c,P [a,b,c]):∀ us:List Value,us.length=3->P us
 | [a,b,c],_=>h a b c
def FF (K:W.Frag) (n q:Str) (st:Stmt) (f:Addr) (cd:Value):Prop:=∃ (od an:Option Addr) (sl:Array (Option Value)) (oc kV dc pm ct:Value),K.lookup f=some ⟨oc,od,.func (W.fnOf n q (vz st) (xu st) (zq st) .none kV dc pm an cd ct),sl⟩/\W.codeIn K cd q=true/\W.keepIn K (.ref f)=true
def FD (K:W.Frag) (n:Str) (st:Stmt):Prop:=∃ (f:Addr) (cd:Value),W.nsIn K mainGlobals n=some (some (.ref f))/\FF K n n st f cd
def FM (K:W.Frag) (C:Addr) (n q:Str) (st:Stmt):Prop:=∃ (f:Addr) (cd:Value),W.findIn K (.ref C) n=some (some (.ref f))/\W.isFn K (.ref f)=true/\FF K n q st f cd
section
variable {K:W.Frag} {n q:Str} {st:Stmt} {f C:Addr} {cd:Value} {od an:Option Addr} {sl:Array (Option Value)} {oc kV dc pm ct:Value}
theorem fdm (a:W.nsIn K mainGlobals n=some (some (.ref f))) (l:K.lookup f=some ⟨oc,od,.func (W.fnOf n n (vz st) (xu st) (zq st) .none kV dc pm an cd ct),sl⟩) (e:W.codeIn K cd n=true) (k:W.keepIn K (.ref f)=true):FD K n st:=⟨f,cd,a,od,an,sl,oc,kV,dc,pm,ct,l,e,k⟩
theorem fmm (a:W.findIn K (.ref C) n=some (some (.ref f))) (i:W.isFn K (.ref f)=true) (l:K.lookup f=some ⟨oc,od,.func (W.fnOf n q (vz st) (xu st) (zq st) .none kV dc pm an cd ct),sl⟩) (e:W.codeIn K cd q=true) (k:W.keepIn K (.ref f)=true):FM K C n q st:=⟨f,cd,a,i,od,an,sl,oc,kV,dc,pm,ct,l,e,k⟩
def FB (n q:Str) (st:Stmt) (ps:List Str):Prop:=∀ (kV doc pm:Value) (an:Option Addr) (cdv ct:Value) (us:List Value),us.length=ps.length->bindArgs (W.fnOf n q (vz st) (xu st) (zq st) .none kV doc pm an cdv ct) ⟨us,[]⟩=pure (ps.zip us)
theorem FD.df {h:Heap} {mg:Str->Option Value} {ps:List Str} (x:FD K n st) (X:K.In h) (G:h.Ns mainGlobals mg) (b:FB n n st ps):∃ f fd,Df K mg n st ps f fd:=by
 obtain⟨f,cd,a,od,an,sl,oc,kV,dc,pm,ct,l,e,k⟩:=x
 exact⟨_,_,zeq X G a l e k b⟩
theorem FM.mt {ps:List Str} (x:FM K C n q st) (b:FB n q st ps):∃ f fd,Mt K C q n st ps f fd:=by
 obtain⟨f,cd,a,i,od,an,sl,oc,kV,dc,pm,ct,l,e,k⟩:=x
 exact⟨_,_,⟨zav (st:=st) l e k,(zav (st:=st) l e k).binds b,⟨a,i,k⟩⟩⟩
end
structure CF (K:W.Frag) (n:Str) (C:Addr):Prop where
 g:W.nsIn K mainGlobals n=some (some (.ref C))
 m:W.mroIn K C (.type "object")=some true
 t:W.typeIn K (.ref C)=some (.type "type")
theorem CF.cls {K:W.Frag} {n:Str} {C D:Addr} {b:Bool} (x:CF K n D) (e:W.mroIn K C (.ref D)=some b):W.kitCls K (.ref C) (.ref D)=some b:=by
 obtain⟨cd,h,_⟩:=Option.bind_eq_some_iff.mp x.m
 show (if ((W.clsIn K D).isSome && W.typeIn K (.ref D) == some (.type "type"))=true then W.subIn K (.ref C) (.ref D) else none)=_
 rw [if_pos (by rw [h,x.t,Option.isSome_some,Bool.true_and];exact beq_self_eq_true _)]
 exact e
theorem CF.no {K:W.Frag} {n:Str} {C D:Addr} (x:CF K n D) (s:W.mroIn K C (.ref C)=some true) (e:W.mroIn K C (.ref D)=some false):W.kitOne K (.ref C) (.ref D)=some false:=by
 unfold W.kitOne
 rw [if_neg (λq=>by
  have h:Value.ref C=Value.ref D:=eq_of_beq q
  injection h with h
  rw [<- h,s] at e
  cases e)]
 exact x.cls e
theorem YQ {K:W.Frag} {C:Addr}:W.kitOne K (.ref C) (.ref C)=some true:=by
 unfold W.kitOne
 rw [if_pos (beq_self_eq_true _)]
theorem QX {K:W.Frag} {C:Addr} (e:W.mroIn K C (.type "ValueError")=some true):W.kitOne K (.ref C) (.type "ValueError")=some true:=by
 unfold W.kitOne
 split
 ·rfl
 ·show (if W.kitMeta "ValueError" = true then W.subIn K (.ref C) (.type "ValueError") else none)=_
  rw [if_pos (by decide +kernel)]
  exact e
set_option maxHeartbeats 0 in
theorem zgm {l:W.OpenLaw} {w:World} {K:W.Frag} {h:Heap} {mg:Str->Option Value} {fa T0 c0:Addr} (X:K.In h) (G:h.Ns mainGlobals mg) (hfa:mg "law" = some (.ref fa)) (hcT:W.codeHdIn K c0 T0=true) (hgT:mainGlobals≠T0)
  (x0:FD K "is_whole" uf)
  (x1:FD K "is_number" qe)
  (x2:FD K "is_base" ZG)
  (x3:FD K "is_figure" jY)
  (x4:FD K "are_figures" vG)
  (x5:FD K "is_stretch" vh)
  (x6:FD K "is_rising" qj)
  (x7:FD K "is_bad_list" vP)
  (x8:FD K "is_rule" ZC)
  (x9:FD K "check_base" jc)
  (x10:FD K "check_number" xV)
  (x11:FD K "check_rule" wy)
  (x12:FD K "copy_of" jd)
  (x13:FD K "stands_within" xx)
  (x14:FD K "lacks_all" wj)
  (x15:FD K "figures_of" wZ)
  (x16:FD K "is_good" Xq)
  (x17:FD K "begins_one" uz)
  (x18:FD K "longest_stand" vY)
  {f19:Addr} {od19 an19:Option Addr} {sl19:Array (Option Value)} {oc19 kV19 dc19 pm19 ct19:Value} (a19:W.nsIn K mainGlobals "stands_of" = some (some (.ref f19)))
  (l19:K.lookup f19=some ⟨oc19,od19,.func (W.fnOf "stands_of" "stands_of" (vz yg) (xu yg) (zq yg) .none kV19 dc19 pm19 an19 (.ref c0) ct19),sl19⟩) (e19:W.codeIn K (.ref c0) "stands_of" = true) (k19:W.keepIn K (.ref f19)=true)
  (x20:FD K "place_behind" uI)
  (x21:FD K "steps_from" uB)
  (x22:FD K "all_steps" qu)
  (x23:FD K "count_below" vI)
  (x24:FD K "good_at" ZZ)
  (x25:FD K "good_by" Xk)
  (x26:FD K "are_rules" tV)
  (x27:FD K "check_rules" tL)
  (x28:FD K "check_bound" tQ)
  (x29:FD K "is_good_by_each" xH)
  (x30:FD K "all_keeping" vR)
  (x31:FD K "count_keeping" vU)
  (x32:FD K "_law_cell" Zd)
  (x33:FD K "_law_store" qL)
  (x34:FD K "_law_take" yM)
  (x35:FD K "_law_stretch" yL)
  (x36:FD K "_law_bad" uK)
  (x37:FD K "_law_base" qp)
  (x38:FD K "_law_rule" jZ)
  (x39:FD K "_law_copy" qd)
  (x40:FD K "_law_number" vO)
  (x41:FD K "_law_kind" tX)
  (x42:FD K "_law_deed" j7)
  (x43:FD K "_law_is_stretch" yP)
  (x44:FD K "_law_due" jN)
  (x45:FD K "_law_asked" qQ)
  (x46:FD K "_law_as_anew" uA)
  (x47:FD K "law" QK)
  {qA:Addr} (qKh:CF K "NoBase" qA)
  {qB:Addr} (qLb:CF K "NoNumber" qB)
  {qE:Addr} (qKi:CF K "NoFigures" qE)
  {qS:Addr} (qLd:CF K "NoRule" qS)
  {qU:Addr} (qLf:CF K "NoStand" qU)
  {qV:Addr} (qKj:CF K "NoGood" qV)
  {xA:Addr} (qKf:CF K "Endless" xA)
  {xB:Addr} (qLe:CF K "NoRules" xB)
  {xC:Addr} (qLg:CF K "NoStretch" xC)
  {xD:Addr} (qLi:CF K "TooMany" xD)
  {xE:Addr} (qLh:CF K "NoText" xE)
  {xI:Addr} (qLa:CF K "NoName" xI)
  {xL:Addr} (qLc:CF K "NoRow" xL)
  {xS:Addr} (qKg:CF K "LackError" xS)
  (mLE:W.mroIn K xS (.type "BaseException")=some true)
  (nVE:W.nsIn K mainGlobals "ValueError" = some none)
  (qKc:W.excIn K qS veT "ValueError.__new__" = true) (qDb:W.mroIn K qS (.ref xS)=some true)
  (qBg:Ub K qS) (qMb:W.mroIn K qS (.type "ValueError")=some true)
  (qGb:W.mroIn K qS (.ref qA)=some false)
  (qGf:W.mroIn K qS (.ref qB)=some false)
  (qGc:W.mroIn K qS (.ref qE)=some false)
  (qGh:W.mroIn K qS (.ref qS)=some true)
  (qGj:W.mroIn K qS (.ref qU)=some false)
  (qGd:W.mroIn K qS (.ref qV)=some false)
  (qGa:W.mroIn K qS (.ref xA)=some false)
  (qGi:W.mroIn K qS (.ref xB)=some false)
  (qHa:W.mroIn K qS (.ref xC)=some false)
  (qHc:W.mroIn K qS (.ref xD)=some false)
  (qHb:W.mroIn K qS (.ref xE)=some false)
  (qGe:W.mroIn K qS (.ref xI)=some false)
  (qGg:W.mroIn K qS (.ref xL)=some false)
  (qKb:W.excIn K qB veT "ValueError.__new__" = true) (qDa:W.mroIn K qB (.ref xS)=some true)
  (qBf:Ub K qB) (qMa:W.mroIn K qB (.type "ValueError")=some true)
  (qEi:W.mroIn K qB (.ref qA)=some false)
  (qFc:W.mroIn K qB (.ref qB)=some true)
  (qEj:W.mroIn K qB (.ref qE)=some false)
  (qFe:W.mroIn K qB (.ref qS)=some false)
  (qFg:W.mroIn K qB (.ref qU)=some false)
  (qFa:W.mroIn K qB (.ref qV)=some false)
  (qEh:W.mroIn K qB (.ref xA)=some false)
  (qFf:W.mroIn K qB (.ref xB)=some false)
  (qFh:W.mroIn K qB (.ref xC)=some false)
  (qFj:W.mroIn K qB (.ref xD)=some false)
  (qFi:W.mroIn K qB (.ref xE)=some false)
  (qFb:W.mroIn K qB (.ref xI)=some false)
  (qFd:W.mroIn K qB (.ref xL)=some false)
  (qKa:W.excIn K qA veT "ValueError.__new__" = true) (qCj:W.mroIn K qA (.ref xS)=some true)
  (qBe:Ub K qA) (qLj:W.mroIn K qA (.type "ValueError")=some true)
  (qDf:W.mroIn K qA (.ref qA)=some true)
  (qDj:W.mroIn K qA (.ref qB)=some false)
  (qDg:W.mroIn K qA (.ref qE)=some false)
  (qEb:W.mroIn K qA (.ref qS)=some false)
  (qEd:W.mroIn K qA (.ref qU)=some false)
  (qDh:W.mroIn K qA (.ref qV)=some false)
  (qDe:W.mroIn K qA (.ref xA)=some false)
  (qEc:W.mroIn K qA (.ref xB)=some false)
  (qEe:W.mroIn K qA (.ref xC)=some false)
  (qEg:W.mroIn K qA (.ref xD)=some false)
  (qEf:W.mroIn K qA (.ref xE)=some false)
  (qDi:W.mroIn K qA (.ref xI)=some false)
  (qEa:W.mroIn K qA (.ref xL)=some false)
  (qKd:W.excIn K xC veT "ValueError.__new__" = true) (qDc:W.mroIn K xC (.ref xS)=some true)
  (qBh:Ub K xC) (qMc:W.mroIn K xC (.type "ValueError")=some true)
  (qHe:W.mroIn K xC (.ref qA)=some false)
  (qHi:W.mroIn K xC (.ref qB)=some false)
  (qHf:W.mroIn K xC (.ref qE)=some false)
  (qIa:W.mroIn K xC (.ref qS)=some false)
  (qIc:W.mroIn K xC (.ref qU)=some false)
  (qHg:W.mroIn K xC (.ref qV)=some false)
  (qHd:W.mroIn K xC (.ref xA)=some false)
  (qIb:W.mroIn K xC (.ref xB)=some false)
  (qId:W.mroIn K xC (.ref xC)=some true)
  (qIf:W.mroIn K xC (.ref xD)=some false)
  (qIe:W.mroIn K xC (.ref xE)=some false)
  (qHh:W.mroIn K xC (.ref xI)=some false)
  (qHj:W.mroIn K xC (.ref xL)=some false)
  (qKe:W.excIn K xD veT "ValueError.__new__" = true) (qDd:W.mroIn K xD (.ref xS)=some true)
  (qBi:Ub K xD) (qMd:W.mroIn K xD (.type "ValueError")=some true)
  (qIh:W.mroIn K xD (.ref qA)=some false)
  (qJb:W.mroIn K xD (.ref qB)=some false)
  (qIi:W.mroIn K xD (.ref qE)=some false)
  (qJd:W.mroIn K xD (.ref qS)=some false)
  (qJf:W.mroIn K xD (.ref qU)=some false)
  (qIj:W.mroIn K xD (.ref qV)=some false)
  (qIg:W.mroIn K xD (.ref xA)=some false)
  (qJe:W.mroIn K xD (.ref xB)=some false)
  (qJg:W.mroIn K xD (.ref xC)=some false)
  (qJi:W.mroIn K xD (.ref xD)=some true)
  (qJh:W.mroIn K xD (.ref xE)=some false)
  (qJa:W.mroIn K xD (.ref xI)=some false)
  (qJc:W.mroIn K xD (.ref xL)=some false)
  {C:Addr} (aC:W.nsIn K mainGlobals "Tails" = some (some (.ref C)))
  (yC0:FM K C "__init__" "Tails.__init__" uM)
  (yC1:FM K C "layer" "Tails.layer" wH)
  (yC2:FM K C "many_by" "Tails.many_by" yS)
  (yC3:FM K C "many_under" "Tails.many_under" yF)
  (yC4:FM K C "many_below" "Tails.many_below" xq)
  (yC5:FM K C "many_within" "Tails.many_within" xU)
  (yC6:FM K C "figure_at" "Tails.figure_at" wL)
  (yC7:FM K C "number_at" "Tails.number_at" wM)
  (yC8:FM K C "are_endless" "Tails.are_endless" Xw)
  (pgC:W.plainGet K C Str.empty=true) (hdC:W.hasDictIn K C=true) (poC:W.plainOver K C=true) (saC:W.findIn K (.ref C) "__setattr__" = some (some (.builtin "object.__setattr__"))) (mkC:W.makesIn K C=true) (kcC:W.keepIn K (.ref C)=true)
  (nC_base:W.findIn K (.ref C) "base" = some none)
  (nC_outset:W.findIn K (.ref C) "outset" = some none)
  (nC_steps:W.findIn K (.ref C) "steps" = some none)
  (nC_layers:W.findIn K (.ref C) "layers" = some none)
  {CK:Addr} (aCK:W.nsIn K mainGlobals "Keeper" = some (some (.ref CK)))
  (yCK0:FM K CK "__init__" "Keeper.__init__" ur)
  (yCK1:FM K CK "come" "Keeper.come" tH)
  (yCK2:FM K CK "go" "Keeper.go" qw)
  (yCK3:FM K CK "turn_to" "Keeper.turn_to" xW)
  (yCK4:FM K CK "rule" "Keeper.rule" vN)
  (yCK5:FM K CK "good" "Keeper.good" tO)
  (yCK6:FM K CK "below" "Keeper.below" wO)
  (pgCK:W.plainGet K CK Str.empty=true) (hdCK:W.hasDictIn K CK=true) (poCK:W.plainOver K CK=true) (saCK:W.findIn K (.ref CK) "__setattr__" = some (some (.builtin "object.__setattr__"))) (mkCK:W.makesIn K CK=true) (kcCK:W.keepIn K (.ref CK)=true)
  (nCK_base:W.findIn K (.ref CK) "base" = some none)
  (nCK_bad:W.findIn K (.ref CK) "bad" = some none)
  (nCK_bound:W.findIn K (.ref CK) "bound" = some none)
  (nCK_tails:W.findIn K (.ref CK) "tails" = some none)
  {t0:Tok} (g0:W.nsIn K mainGlobals "LEAST_BASE" = some (some (.int 2 t0)))
  {t1:Tok} (g1:W.nsIn K mainGlobals "GREATEST_BASE" = some (some (.int 16 t1)))
  {t2:Tok} (g2:W.nsIn K mainGlobals "MOST_STRETCHES" = some (some (.int 4 t2)))
  {t3:Tok} (g3:W.nsIn K mainGlobals "LONGEST_STRETCH" = some (some (.int 4 t3)))
  {t4:Tok} (g4:W.nsIn K mainGlobals "MOST_FIGURES" = some (some (.int 60 t4)))
  {t5:Tok} (g5:W.nsIn K mainGlobals "MOST_RULES" = some (some (.int 3 t5)))
  {t6:Tok} (g6:W.nsIn K mainGlobals "GREATEST_BOUND" = some (some (.int 2000 t6)))
  (z0:W.nsIn K mainGlobals "isinstance" = some none)
  (z1:W.nsIn K mainGlobals "int" = some none)
  (z2:W.nsIn K mainGlobals "bool" = some none)
  (z3:W.nsIn K mainGlobals "list" = some none)
  (z4:W.nsIn K mainGlobals "tuple" = some none)
  (z5:W.nsIn K mainGlobals "reversed" = some none)
  (z6:W.nsIn K mainGlobals "len" = some none)
  (z7:W.nsIn K mainGlobals "max" = some none)
  (z8:W.nsIn K mainGlobals "min" = some none)
  (z9:W.nsIn K mainGlobals "range" = some none)
  (z10:W.nsIn K mainGlobals "all" = some none)
  (z11:W.nsIn K mainGlobals "any" = some none)
  (z12:W.nsIn K mainGlobals "sorted" = some none)
  (z13:W.nsIn K mainGlobals "enumerate" = some none)
  (z14:W.nsIn K mainGlobals "repr" = some none)
  (z15:W.nsIn K mainGlobals "sum" = some none)
  (z16:W.nsIn K mainGlobals "abs" = some none)
  (z17:W.nsIn K mainGlobals "zip" = some none)
  (z18:W.nsIn K mainGlobals "str" = some none)
  : ∃ fd:FuncData,(∀ (s:Shared) (v:Value),BindsTo s fd ⟨[v],[]⟩ [("script",v)])/\∀ base:Heap,K.In base->base.Ns mainGlobals mg->base.BuiltinsAt mg T0->FnOk l.prog w K mg base CX0 13 fa fd ["script"] (zaf K T0):=by
 obtain⟨fL,cd47,aL,od47,an47,sl47,oc47,kV47,dc47,pm47,ct47,lL,eL,kL⟩:=x47
 have e:=hfa.symm.trans (W.mg_of X G aL)
 cases e
 have T:Blt mg:=⟨W.mg_none_of X G z0,W.mg_none_of X G z1,W.mg_none_of X G z2,W.mg_none_of X G z3,W.mg_none_of X G z4,W.mg_none_of X G z5,W.mg_none_of X G z6,W.mg_none_of X G z7,W.mg_none_of X G z8,W.mg_none_of X G z9,W.mg_none_of X G z10,W.mg_none_of X G z11,W.mg_none_of X G z12,W.mg_none_of X G z13,W.mg_none_of X G z14⟩
 have U:zbo mg:=⟨W.mg_none_of X G z15,W.mg_none_of X G z16,W.mg_none_of X G z17,W.mg_none_of X G z18⟩
 have Yj:=W.mg_of X G g0
 have qx:=W.mg_of X G g1
 have xj:=W.mg_of X G g2
 have um:=W.mg_of X G g3
 have jM:=W.mg_of X G g4
 have Yq:=W.mg_of X G g5
 have uT:=W.mg_of X G g6
 obtain⟨_,_,yx⟩:=x0.df (ps:=["thing"]) X G λ_ _ _ _ _ _=>fb1 λ_=>rfl
 obtain⟨_,_,wN⟩:=x1.df (ps:=["thing"]) X G λ_ _ _ _ _ _=>fb1 λ_=>rfl
 obtain⟨_,_,jC⟩:=x2.df (ps:=["thing"]) X G λ_ _ _ _ _ _=>fb1 λ_=>rfl
 obtain⟨_,_,Yh⟩:=x3.df (ps:=["base","thing"]) X G λ_ _ _ _ _ _=>fb2 λ_ _=>rfl
 obtain⟨_,_,qY⟩:=x4.df (ps:=["base","thing"]) X G λ_ _ _ _ _ _=>fb2 λ_ _=>rfl
 obtain⟨_,_,xf⟩:=x5.df (ps:=["base","thing"]) X G λ_ _ _ _ _ _=>fb2 λ_ _=>rfl
 obtain⟨_,_,jB⟩:=x6.df (ps:=["stretches"]) X G λ_ _ _ _ _ _=>fb1 λ_=>rfl
 obtain⟨_,_,qW⟩:=x7.df (ps:=["base","thing"]) X G λ_ _ _ _ _ _=>fb2 λ_ _=>rfl
 obtain⟨_,_,jo⟩:=x8.df (ps:=["thing"]) X G λ_ _ _ _ _ _=>fb1 λ_=>rfl
 obtain⟨_,_,jV⟩:=x9.df (ps:=["thing"]) X G λ_ _ _ _ _ _=>fb1 λ_=>rfl
 obtain⟨_,_,yt⟩:=x10.df (ps:=["thing"]) X G λ_ _ _ _ _ _=>fb1 λ_=>rfl
 obtain⟨_,_,yo⟩:=x11.df (ps:=["thing"]) X G λ_ _ _ _ _ _=>fb1 λ_=>rfl
 obtain⟨_,_,jj⟩:=x12.df (ps:=["rule"]) X G λ_ _ _ _ _ _=>fb1 λ_=>rfl
 obtain⟨_,_,yN⟩:=x13.df (ps:=["stretch","figures"]) X G λ_ _ _ _ _ _=>fb2 λ_ _=>rfl
 obtain⟨_,_,yw⟩:=x14.df (ps:=["bad","figures"]) X G λ_ _ _ _ _ _=>fb2 λ_ _=>rfl
 obtain⟨_,_,yZ⟩:=x15.df (ps:=["base","n"]) X G λ_ _ _ _ _ _=>fb2 λ_ _=>rfl
 obtain⟨_,_,W0⟩:=x16.df (ps:=["rule","n"]) X G λ_ _ _ _ _ _=>fb2 λ_ _=>rfl
 obtain⟨_,_,tZ⟩:=x17.df (ps:=["bad","figures"]) X G λ_ _ _ _ _ _=>fb2 λ_ _=>rfl
 obtain⟨_,_,uD⟩:=x18.df (ps:=["bad","figures"]) X G λ_ _ _ _ _ _=>fb2 λ_ _=>rfl
 have Yn:Df K mg "stands_of" yg ["bad"] _ _:=zeq X G a19 l19 e19 k19 λ_ _ _ _ _ _=>fb1 λ_=>rfl
 obtain⟨_,_,tD⟩:=x20.df (ps:=["bad","stands","figures"]) X G λ_ _ _ _ _ _=>fb3 λ_ _ _=>rfl
 obtain⟨_,_,j9⟩:=x21.df (ps:=["rule","stands","stand"]) X G λ_ _ _ _ _ _=>fb3 λ_ _ _=>rfl
 obtain⟨_,_,Yv⟩:=x22.df (ps:=["rule","stands"]) X G λ_ _ _ _ _ _=>fb2 λ_ _=>rfl
 obtain⟨_,_,xN⟩:=x23.df (ps:=["rule","n"]) X G λ_ _ _ _ _ _=>fb2 λ_ _=>rfl
 obtain⟨_,_,jU⟩:=x24.df (ps:=["tails","k"]) X G λ_ _ _ _ _ _=>fb2 λ_ _=>rfl
 obtain⟨_,_,W6⟩:=x25.df (ps:=["rule","k"]) X G λ_ _ _ _ _ _=>fb2 λ_ _=>rfl
 obtain⟨_,_,Yi⟩:=x26.df (ps:=["thing"]) X G λ_ _ _ _ _ _=>fb1 λ_=>rfl
 obtain⟨_,_,qX⟩:=x27.df (ps:=["thing"]) X G λ_ _ _ _ _ _=>fb1 λ_=>rfl
 obtain⟨_,_,qK⟩:=x28.df (ps:=["thing"]) X G λ_ _ _ _ _ _=>fb1 λ_=>rfl
 obtain⟨_,_,wW⟩:=x29.df (ps:=["rules","n"]) X G λ_ _ _ _ _ _=>fb2 λ_ _=>rfl
 obtain⟨_,_,qR⟩:=x30.df (ps:=["rules","n"]) X G λ_ _ _ _ _ _=>fb2 λ_ _=>rfl
 obtain⟨_,_,uJ⟩:=x31.df (ps:=["rules","n"]) X G λ_ _ _ _ _ _=>fb2 λ_ _=>rfl
 obtain⟨_,_,jE⟩:=x32.df (ps:=["script","k"]) X G λ_ _ _ _ _ _=>fb2 λ_ _=>rfl
 obtain⟨_,_,tW⟩:=x33.df (ps:=["cell"]) X G λ_ _ _ _ _ _=>fb1 λ_=>rfl
 obtain⟨_,_,zz⟩:=x34.df (ps:=["store","many"]) X G λ_ _ _ _ _ _=>fb2 λ_ _=>rfl
 obtain⟨_,_,zR⟩:=x35.df (ps:=["store","base","few"]) X G λ_ _ _ _ _ _=>fb3 λ_ _ _=>rfl
 obtain⟨_,_,ul⟩:=x36.df (ps:=["store","base"]) X G λ_ _ _ _ _ _=>fb2 λ_ _=>rfl
 obtain⟨_,_,wR⟩:=x37.df (ps:=["store"]) X G λ_ _ _ _ _ _=>fb1 λ_=>rfl
 obtain⟨_,_,jx⟩:=x38.df (ps:=["store"]) X G λ_ _ _ _ _ _=>fb1 λ_=>rfl
 obtain⟨_,_,jP⟩:=x39.df (ps:=["rule"]) X G λ_ _ _ _ _ _=>fb1 λ_=>rfl
 obtain⟨_,_,yU⟩:=x40.df (ps:=["store"]) X G λ_ _ _ _ _ _=>fb1 λ_=>rfl
 obtain⟨_,_,jR⟩:=x41.df (ps:=["e","due"]) X G λ_ _ _ _ _ _=>fb2 λ_ _=>rfl
 obtain⟨_,_,jy⟩:=x42.df (ps:=["store","rule"]) X G λ_ _ _ _ _ _=>fb2 λ_ _=>rfl
 obtain⟨_,_,yq⟩:=x43.df (ps:=["base","thing"]) X G λ_ _ _ _ _ _=>fb2 λ_ _=>rfl
 obtain⟨_,_,Zz⟩:=x44.df (ps:=["rule","deed"]) X G λ_ _ _ _ _ _=>fb2 λ_ _=>rfl
 obtain⟨_,_,tU⟩:=x45.df (ps:=["keeper","deed","due"]) X G λ_ _ _ _ _ _=>fb3 λ_ _ _=>rfl
 obtain⟨_,_,vJ⟩:=x46.df (ps:=["store","keeper","rule"]) X G λ_ _ _ _ _ _=>fb3 λ_ _ _=>rfl
 have Dlaw:Df K mg "law" QK ["script"] _ _:=zeq X G aL lL eL kL λ_ _ _ _ _ _=>fb1 λ_=>rfl
 obtain⟨_,_,qC⟩:=yC0.mt (ps:=["self","rule"]) λ_ _ _ _ _ _=>fb2 λ_ _=>rfl
 have qz:Mk K C _:=let ⟨a,i,_⟩:=qC.m;⟨mkC,a,i,kcC⟩
 have qF:=qC.b
 obtain⟨_,_,yX⟩:=yC1.mt (ps:=["self","left"]) λ_ _ _ _ _ _=>fb2 λ_ _=>rfl
 obtain⟨_,_,zX⟩:=yC2.mt (ps:=["self","layer","place","stop"]) λ_ _ _ _ _ _ us hl=>match us,hl with | [_,_,_,_],_=>rfl
 obtain⟨_,_,zY⟩:=yC3.mt (ps:=["self","place","stop","left"]) λ_ _ _ _ _ _ us hl=>match us,hl with | [_,_,_,_],_=>rfl
 obtain⟨_,_,yu⟩:=yC4.mt (ps:=["self","figures"]) λ_ _ _ _ _ _=>fb2 λ_ _=>rfl
 obtain⟨_,_,ww⟩:=yC5.mt (ps:=["self","size"]) λ_ _ _ _ _ _=>fb2 λ_ _=>rfl
 obtain⟨_,_,wY⟩:=yC6.mt (ps:=["self","place","k","left"]) λ_ _ _ _ _ _ us hl=>match us,hl with | [_,_,_,_],_=>rfl
 obtain⟨_,_,vp⟩:=yC7.mt (ps:=["self","size","k"]) λ_ _ _ _ _ _=>fb3 λ_ _ _=>rfl
 obtain⟨_,_,zbK⟩:=yC8.mt (ps:=["self"]) λ_ _ _ _ _ _=>fb1 λ_=>rfl
 have zE:ClT K mg C:=⟨⟨pgC,hdC,poC,saC⟩,W.mg_of X G aC,nC_base,nC_outset,nC_steps,nC_layers⟩
 obtain⟨_,_,MKeeper___init__⟩:=yCK0.mt (ps:=["self","rule","b"]) λ_ _ _ _ _ _=>fb3 λ_ _ _=>rfl
 have KKeeper:Mk K CK _:=let ⟨a,i,_⟩:=MKeeper___init__.m;⟨mkCK,a,i,kcCK⟩
 have BKeeper:=MKeeper___init__.b
 obtain⟨_,_,MKeeper_come⟩:=yCK1.mt (ps:=["self","stretch"]) λ_ _ _ _ _ _=>fb2 λ_ _=>rfl
 obtain⟨_,_,MKeeper_go⟩:=yCK2.mt (ps:=["self","stretch"]) λ_ _ _ _ _ _=>fb2 λ_ _=>rfl
 obtain⟨_,_,MKeeper_turn_to⟩:=yCK3.mt (ps:=["self","bad"]) λ_ _ _ _ _ _=>fb2 λ_ _=>rfl
 obtain⟨_,_,MKeeper_rule⟩:=yCK4.mt (ps:=["self"]) λ_ _ _ _ _ _=>fb1 λ_=>rfl
 obtain⟨_,_,MKeeper_good⟩:=yCK5.mt (ps:=["self","k"]) λ_ _ _ _ _ _=>fb2 λ_ _=>rfl
 obtain⟨_,_,MKeeper_below⟩:=yCK6.mt (ps:=["self","n"]) λ_ _ _ _ _ _=>fb2 λ_ _=>rfl
 have cKeeper:ClK K mg CK:=⟨⟨pgCK,hdCK,poCK,saCK⟩,W.mg_of X G aCK,nCK_base,nCK_bad,nCK_bound,nCK_tails⟩
 refine⟨W.fnOf "law" "law" (vz QK) (xu QK) (zq QK) .none kV47 dc47 pm47 an47 cd47 ct47,λs v=>.of_eq rfl,λbase _ _ hBM=>?_⟩
 have XN:zcg mg qA qB qE qS qU qV xA xB xC xD xE xI xL:=⟨W.mg_of X G qKh.g,W.mg_of X G qLb.g,W.mg_of X G qKi.g,W.mg_of X G qLd.g,W.mg_of X G qLf.g,W.mg_of X G qKj.g,W.mg_of X G qKf.g,W.mg_of X G qLe.g,W.mg_of X G qLg.g,W.mg_of X G qLi.g,W.mg_of X G qLh.g,W.mg_of X G qLa.g,W.mg_of X G qLc.g⟩
 have qJj:mg "ValueError" = none:=W.mg_none_of X G nVE
 have qBd:zbV K mg "LackError" xS:=⟨W.mg_of X G qKg.g,mLE⟩
 have qMg:Uc K mg "NoRule" qS:=⟨W.mg_of X G qLd.g,qKc⟩
 have qCg:W.kitCls K (.ref qS) (.ref xS)=some true:=qKg.cls qDb
 have qCb:XM K qS qA qB qE qS qU qV xA xB xC xD xE xI xL 3:=⟨qBg,QX qMb,qKh.no qGh qGb,qLb.no qGh qGf,qKi.no qGh qGc,YQ,qLf.no qGh qGj,qKj.no qGh qGd,qKf.no qGh qGa,qLe.no qGh qGi,qLg.no qGh qHa,qLi.no qGh qHc,qLh.no qGh qHb,qLa.no qGh qGe,qLc.no qGh qGg⟩
 have qMf:Uc K mg "NoNumber" qB:=⟨W.mg_of X G qLb.g,qKb⟩
 have qCf:W.kitCls K (.ref qB) (.ref xS)=some true:=qKg.cls qDa
 have qCa:XM K qB qA qB qE qS qU qV xA xB xC xD xE xI xL 1:=⟨qBf,QX qMa,qKh.no qFc qEi,YQ,qKi.no qFc qEj,qLd.no qFc qFe,qLf.no qFc qFg,qKj.no qFc qFa,qKf.no qFc qEh,qLe.no qFc qFf,qLg.no qFc qFh,qLi.no qFc qFj,qLh.no qFc qFi,qLa.no qFc qFb,qLc.no qFc qFd⟩
 have qMe:Uc K mg "NoBase" qA:=⟨W.mg_of X G qKh.g,qKa⟩
 have qCe:W.kitCls K (.ref qA) (.ref xS)=some true:=qKg.cls qCj
 have qBj:XM K qA qA qB qE qS qU qV xA xB xC xD xE xI xL 0:=⟨qBe,QX qLj,YQ,qLb.no qDf qDj,qKi.no qDf qDg,qLd.no qDf qEb,qLf.no qDf qEd,qKj.no qDf qDh,qKf.no qDf qDe,qLe.no qDf qEc,qLg.no qDf qEe,qLi.no qDf qEg,qLh.no qDf qEf,qLa.no qDf qDi,qLc.no qDf qEa⟩
 have qMh:Uc K mg "NoStretch" xC:=⟨W.mg_of X G qLg.g,qKd⟩
 have qCh:W.kitCls K (.ref xC) (.ref xS)=some true:=qKg.cls qDc
 have qCc:XM K xC qA qB qE qS qU qV xA xB xC xD xE xI xL 8:=⟨qBh,QX qMc,qKh.no qId qHe,qLb.no qId qHi,qKi.no qId qHf,qLd.no qId qIa,qLf.no qId qIc,qKj.no qId qHg,qKf.no qId qHd,qLe.no qId qIb,YQ,qLi.no qId qIf,qLh.no qId qIe,qLa.no qId qHh,qLc.no qId qHj⟩
 have qMi:Uc K mg "TooMany" xD:=⟨W.mg_of X G qLi.g,qKe⟩
 have qCi:W.kitCls K (.ref xD) (.ref xS)=some true:=qKg.cls qDd
 have qCd:XM K xD qA qB qE qS qU qV xA xB xC xD xE xI xL 9:=⟨qBi,QX qMd,qKh.no qJi qIh,qLb.no qJi qJb,qKi.no qJi qIi,qLd.no qJi qJd,qLf.no qJi qJf,qKj.no qJi qIj,qKf.no qJi qIg,qLe.no qJi qJe,qLg.no qJi qJg,YQ,qLh.no qJi qJh,qLa.no qJi qJa,qLc.no qJi qJc⟩
 have je:FnOk l.prog w K mg base CX0 1 _ _ Aa qt:=j6 yx T
 have ZK:FnOk l.prog w K mg base CX0 2 _ _ Aa Z4:=zbS jC yx T Yj qx
 have X7:FnOk l.prog w K mg base CX0 2 _ _ Ab Z2:=zaM Yh yx T
 have Yl:FnOk l.prog w K mg base CX0 3 _ _ Ab jQ:=Qs qY Yh X7 T
 have xO:FnOk l.prog w K mg base CX0 4 _ _ Ab vM:=Ju xf qY Yl um T
 have UV:FnOk l.prog w K mg base CX0 1 _ _ Aw Z7:=Vc jB T
 have Yx:FnOk l.prog w K mg base CX0 5 _ _ Ab jh:=Uu qW xf xO jB xj T
 have ZX:FnOk l.prog w K mg base CX0 6 _ _ Aa Yk:=zbD jo jC ZK qW Yx T
 have YS:FnOk l.prog w K mg base CX0 1 _ _ Ax uY:=ZL yN T
 have xr:FnOk l.prog w K mg base CX0 2 _ _ Ac wX:=W3 yw yN T
 have V1:FnOk l.prog w K mg base CX0 1 _ _ Ac Zg:=XF tZ T
 have jl:FnOk l.prog w K mg base CX0 3 _ _ Ac uW:=Vu uD yw xr tZ T
 have Wl:FnOk l.prog w K mg base CX0 6 _ _ ["bad"] (Yp T0):=zap Yn rfl hcT hBM hgT yw xr T
 have Zq:FnOk l.prog w K mg base CX0 4 _ _ A5 qH:=V9 tD uD jl
 have Xa:FnOk l.prog w K mg base CX0 5 _ _ Ay Zj:=Jk j9 tD Zq T
 have Wr:FnOk l.prog w K mg base CX0 6 _ _ A6 YG:=zan Yv j9 Xa T
 have uE:FnOk l.prog w K mg base CX0 1 _ _ Am (Z6 C):=Wo zX zE T U
 have qN:FnOk l.prog w K mg base CX0 2 _ _ Ar (Wz C):=Uy yX zX zE T U
 have zZ:FnOk l.prog w K mg base CX0 3 _ _ Al (vK C):=Jw zY yX zX zE T U
 have yR:FnOk l.prog w K mg base CX0 4 _ _ As (tE C):=Jq yu zY zZ zE T
 have yD:FnOk l.prog w K mg base CX0 7 _ _ Aj (jA T0 C):=zed qC Yn Wl Yv Wr yw xr zE T
 have vZ:FnOk l.prog w K mg base CX0 3 _ _ Az (jH C):=Qv ww yX zX zE T U
 have uN:FnOk l.prog w K mg base CX0 4 _ _ A7 (Yc C):=zaK wY zY zZ zE T
 have uX:FnOk l.prog w K mg base CX0 5 _ _ A8 (Yw C):=zaw vp zY zZ wY uN zE T
 have QD:FnOk l.prog w K mg base CX0 1 _ _ A0 (YF K):=WN jE T
 have VP:FnOk l.prog w K mg base CX0 1 _ _ ["cell"] Zt:=Xx tW T
 have zL:FnOk l.prog w K mg base CX0 1 _ _ Ae yG:=xG zz T
 have Qw:FnOk l.prog w K mg base CX0 2 _ _ Ad Z5:=WY wR zz T
 have uZ:FnOk l.prog w K mg base CX0 2 _ _ An vW:=qD zR zz T
 have zab:FnOk l.prog w K mg base CX0 3 _ _ At Xc:=VM ul zz zR T
 have jk:FnOk l.prog w K mg base CX0 2 _ _ Aa qJ:=WL wN yx T
 have yC:FnOk l.prog w K mg base (CX1 l.prog w) 7 _ _ Aa (wI qS):=Jf yo jo ZX qMg
 have Y4:FnOk l.prog w K mg base (CX1 l.prog w) 3 _ _ Aa (Zu qA):=Jr jV jC ZK qMe
 have yI:FnOk l.prog w K mg base (CX1 l.prog w) 3 _ _ Aa (wD qB):=V4 yt wN jk qMf
 have xF:FnOk l.prog w K mg base (CX1 l.prog w) 4 _ _ Ao (vH qA qB):=Jt yZ jV Y4 yt yI T
 have Z1:FnOk l.prog w K mg base CX0 1 _ _ Ag Yu:=zce jj T
 have QG:FnOk l.prog w K mg base CX0 1 _ _ Ag Yz:=WK jP T
 have GKeeper_belowX:FnOk l.prog w K mg base (CX1 l.prog w) 5 _ _ Ak (Vz T0 C CK qB):=zcT MKeeper_below yu yR yZ xF zE cKeeper
 have GKeeper_below:FnOk l.prog w K mg base CX0 5 _ _ Ak (ZR T0 C CK):=zci GKeeper_belowX
 have GKeeper_rule:FnOk l.prog w K mg base CX0 2 _ _ Aq (Xp C CK):=ze6 MKeeper_rule jj Z1 cKeeper
 have GKeeper_initX:FnOk l.prog w K mg base (CX1 l.prog w) 9 _ _ Ap (Wi T0 C CK qS qB):=zcd MKeeper___init__ yo yC yt yI jj Z1 qz qF yD zE cKeeper
 have GKeeper_init:FnOk l.prog w K mg base CX0 9 _ _ Ap (Xm T0 C CK):=za9 GKeeper_initX
 have ZJ:FnOk l.prog w K mg base CX0 6 _ _ Au (YC C):=zb8 jU yt yI ww vZ vp uX zE jM T
 have GKeeper_good:FnOk l.prog w K mg base CX0 7 _ _ A3 (Uo T0 C CK):=ze8 MKeeper_good jU ZJ cKeeper
 have wu:FnOk l.prog w K mg base CX0 9 _ _ Ah (uy T0):=U3 xN yo yC yZ xF qz qF yD yu yR zE
 have Q4:FnOk l.prog w K mg base CX0 9 _ _ A4 (Wc T0):=zbG W6 yo yC jU ZJ qz qF yD zE
 have GKeeper_turn_to:FnOk l.prog w K mg base CX0 9 _ _ Av (Yo T0 C CK):=zb1 MKeeper_turn_to MKeeper_below GKeeper_below qz qF yD zE cKeeper
 have GKeeper_comeX:FnOk l.prog w K mg base (CX1 l.prog w) 10 _ _ Ai (Q3 T0 C CK xC xD):=zd4 MKeeper_come MKeeper_turn_to GKeeper_turn_to xf xO xj cKeeper qMh qMi T
 have GKeeper_goX:FnOk l.prog w K mg base (CX1 l.prog w) 10 _ _ Ai (zb3 T0 C CK xC):=zgi MKeeper_go MKeeper_turn_to GKeeper_turn_to xf xO cKeeper qMh T
 have Qk:FnOk l.prog w K mg base CX0 3 _ _ A9 qZ:=W2 jy zz zR T
 have Zx:FnOk l.prog w K mg base CX0 1 _ _ Ab ug:=jK yq T
 have J6:FnOk l.prog w K mg base CX0 2 _ _ Ba jW:=V0 Zz yq T
 have QV:FnOk l.prog w K mg base CX0 8 _ _ Ah We:=zbX W0 yo yC yw yN yZ xF T
 have Wh:FnOk l.prog w K mg base CX0 7 _ _ Aa Yy:=zaq Yi jo ZX Yq T
 have Ys:FnOk l.prog w K mg base CX0 8 _ _ Aa jD:=Ja qX Yi Wh
 have uV:FnOk l.prog w K mg base CX0 9 _ _ Af ud:=Wd wW W0 QV T
 have Yg:FnOk l.prog w K mg base CX0 3 _ _ Aa jr:=Q6 qK wN yx uT T
 have Ym:FnOk l.prog w K mg base CX0 10 _ _ Af jf:=Qt qR qX Ys qK Yg wW uV T
 have jG:FnOk l.prog w K mg base CX0 11 _ _ Af uP:=Vj uJ qR Ym T
 have QC:FnOk l.prog w K mg base CX0 1 _ _ ["e","due"] (Yt K qA qB qE qS qU qV xA xB xC xD xE xI xL):=Va jR XN qJj T U
 have Za:FnOk l.prog w K mg base CX0 11 _ _ Bb (vL T0 C CK):=Jl tU MKeeper_come GKeeper_comeX MKeeper_go GKeeper_goX cKeeper jR XN qJj qBd qCh qCi qCc qCd T U
 have jb:FnOk l.prog w K mg base CX0 2 _ _ Ad uw:=jw yU zz T
 have tM:FnOk l.prog w K mg base CX0 12 _ _ Bc (qy T0 C CK):=Ua vJ yU zz MKeeper_rule GKeeper_rule MKeeper_below GKeeper_below MKeeper_good GKeeper_good cKeeper xN wu uJ jG W6 Q4 T
 have Qn:FnOk l.prog w K mg base CX0 4 _ _ Ad Yr:=WP jx zz zR wR ul T
 exact zgq Dlaw jE tW zz zR ul wR jx jP yU jy Zz yq tU Za vJ tM xN wu MKeeper_rule GKeeper_rule KKeeper BKeeper GKeeper_init cKeeper T U
theorem walk2 {l:W.OpenLaw} {q:Program} {loose:List Str} {XP:(Str->Option Value)->Heap->Prop} {YP:World->Heap->Prop} {d:DefRec} {K:Params->W.Frag} {c T0:Addr} (hn:l.most=some 63) (hdf:d.params.defaults=[])
  (hY:∀ (w:World) (h:Heap),YP w h->(K w.params).In h) (hYT:∀ (w:World) (h:Heap),YP w h->h.get? T0=some (W.tabObj #[])) (hKT:∀ w:World,(K w.params).lookup T0=none) (hcT:∀ w:World,W.codeHdIn (K w.params) c T0=true)
  (F:∀ (w:World) (mg:Str->Option Value) (fa:Addr) (h:Heap),(K w.params).In h->h.Ns mainGlobals mg->mg d.name=some (.ref fa) ->
   ∃ fd:FuncData,(∀ (s:Shared) (u:Value),BindsTo s fd ⟨[u],[]⟩ [("script",u)])/\∀ base:Heap,(K w.params).In base->base.Ns mainGlobals mg->base.BuiltinsAt mg T0->FnOk l.prog w (K w.params) mg base CX0 13 fa fd ["script"] (zaf (K w.params) T0)) :
  W.WalkO q loose XP YP l.row.toRowW d [] (λf vs=>PySem.call f vs) :=
 L2.zgw (n:=63) (k:=13) (x:="script") (sp:=λw=>zaf (K w.params) T0) hn (by decide) hdf ⟨rfl,by decide,by decide,rfl⟩ hY hYT hKT hcT F (λw H a ns hl hT hS=>⟨a,ns,rfl,hS,hl,.inl hT,λ_=>rfl⟩)
end Lw
open PySem PySem.W PyProof.Rows
set_option maxRecDepth 100000 in
set_option maxHeartbeats 0 in
theorem PySem.Challenge.cw_lackstretch_k35_whole_as_anew_holds : PySem.Challenge.rw_lackstretch_k35_whole_as_anew.Holds := by
 w_on;o_law;k_head;(case hw=>w_witness2)
 k_fill
 refine Lw.walk2 (l:=PySem.Challenge.rw_lackstretch_k35_whole_as_anew) (c:=308) (T0:=304) rfl rfl (λw h Y=>W.km_in_of Y) (λw h Y=>W.km_tabs_of Y 304 (by decide)) (λw=>by kernel_rfl) (λw=>by kernel_rfl) ?F
 case F =>
  intro w mg fa h KX G hmg
  refine' Lw.zgm (c0:=308) (T0:=304) KX G hmg (by kernel_rfl) (by decide) ?yyx0 ?yyx1 ?yyx2 ?yyx3 ?yyx4 ?yyx5 ?yyx6 ?yyx7 ?yyx8 ?yyx9 ?yyx10 ?yyx11 ?yyx12 ?yyx13 ?yyx14 ?yyx15 ?yyx16 ?yyx17 ?yyx18 ?yya19 ?yyl19 ?yye19 ?yyk19 ?yyx20 ?yyx21 ?yyx22 ?yyx23 ?yyx24 ?yyx25 ?yyx26 ?yyx27 ?yyx28 ?yyx29 ?yyx30 ?yyx31 ?yyx32 ?yyx33 ?yyx34 ?yyx35 ?yyx36 ?yyx37 ?yyx38 ?yyx39 ?yyx40 ?yyx41 ?yyx42 ?yyx43 ?yyx44 ?yyx45 ?yyx46 ?yyx47 ?yyqKh ?yyqLb ?yyqKi ?yyqLd ?yyqLf ?yyqKj ?yyqKf ?yyqLe ?yyqLg ?yyqLi ?yyqLh ?yyqLa ?yyqLc ?yyqKg ?yymLE ?yynVE ?yyqKc ?yyqDb ?yyqBg ?yyqMb ?yyqGb ?yyqGf ?yyqGc ?yyqGh ?yyqGj ?yyqGd ?yyqGa ?yyqGi ?yyqHa ?yyqHc ?yyqHb ?yyqGe ?yyqGg ?yyqKb ?yyqDa ?yyqBf ?yyqMa ?yyqEi ?yyqFc ?yyqEj ?yyqFe ?yyqFg ?yyqFa ?yyqEh ?yyqFf ?yyqFh ?yyqFj ?yyqFi ?yyqFb ?yyqFd ?yyqKa ?yyqCj ?yyqBe ?yyqLj ?yyqDf ?yyqDj ?yyqDg ?yyqEb ?yyqEd ?yyqDh ?yyqDe ?yyqEc ?yyqEe ?yyqEg ?yyqEf ?yyqDi ?yyqEa ?yyqKd ?yyqDc ?yyqBh ?yyqMc ?yyqHe ?yyqHi ?yyqHf ?yyqIa ?yyqIc ?yyqHg ?yyqHd ?yyqIb ?yyqId ?yyqIf ?yyqIe ?yyqHh ?yyqHj ?yyqKe ?yyqDd ?yyqBi ?yyqMd ?yyqIh ?yyqJb ?yyqIi ?yyqJd ?yyqJf ?yyqIj ?yyqIg ?yyqJe ?yyqJg ?yyqJi ?yyqJh ?yyqJa ?yyqJc ?yyaC ?yyyC0 ?yyyC1 ?yyyC2 ?yyyC3 ?yyyC4 ?yyyC5 ?yyyC6 ?yyyC7 ?yyyC8 ?yypgC ?yyhdC ?yypoC ?yysaC ?yymkC ?yykcC ?yynC_base ?yynC_outset ?yynC_steps ?yynC_layers ?yyaCK ?yyyCK0 ?yyyCK1 ?yyyCK2 ?yyyCK3 ?yyyCK4 ?yyyCK5 ?yyyCK6 ?yypgCK ?yyhdCK ?yypoCK ?yysaCK ?yymkCK ?yykcCK ?yynCK_base ?yynCK_bad ?yynCK_bound ?yynCK_tails ?yyg0 ?yyg1 ?yyg2 ?yyg3 ?yyg4 ?yyg5 ?yyg6 ?yyz0 ?yyz1 ?yyz2 ?yyz3 ?yyz4 ?yyz5 ?yyz6 ?yyz7 ?yyz8 ?yyz9 ?yyz10 ?yyz11 ?yyz12 ?yyz13 ?yyz14 ?yyz15 ?yyz16 ?yyz17 ?yyz18
  (case yyx0=>refine' Lw.fdm ?_ ?_ ?_ ?_<;>try k_is)
  (case yyx1=>refine' Lw.fdm ?_ ?_ ?_ ?_<;>try k_is)
  (case yyx2=>refine' Lw.fdm ?_ ?_ ?_ ?_<;>try k_is)
  (case yyx3=>refine' Lw.fdm ?_ ?_ ?_ ?_<;>try k_is)
  (case yyx4=>refine' Lw.fdm ?_ ?_ ?_ ?_<;>try k_is)
  (case yyx5=>refine' Lw.fdm ?_ ?_ ?_ ?_<;>try k_is)
  (case yyx6=>refine' Lw.fdm ?_ ?_ ?_ ?_<;>try k_is)
  (case yyx7=>refine' Lw.fdm ?_ ?_ ?_ ?_<;>try k_is)
  (case yyx8=>refine' Lw.fdm ?_ ?_ ?_ ?_<;>try k_is)
  (case yyx9=>refine' Lw.fdm ?_ ?_ ?_ ?_<;>try k_is)
  (case yyx10=>refine' Lw.fdm ?_ ?_ ?_ ?_<;>try k_is)
  (case yyx11=>refine' Lw.fdm ?_ ?_ ?_ ?_<;>try k_is)
  (case yyx12=>refine' Lw.fdm ?_ ?_ ?_ ?_<;>try k_is)
  (case yyx13=>refine' Lw.fdm ?_ ?_ ?_ ?_<;>try k_is)
  (case yyx14=>refine' Lw.fdm ?_ ?_ ?_ ?_<;>try k_is)
  (case yyx15=>refine' Lw.fdm ?_ ?_ ?_ ?_<;>try k_is)
  (case yyx16=>refine' Lw.fdm ?_ ?_ ?_ ?_<;>try k_is)
  (case yyx17=>refine' Lw.fdm ?_ ?_ ?_ ?_<;>try k_is)
  (case yyx18=>refine' Lw.fdm ?_ ?_ ?_ ?_<;>try k_is)
  (case yya19=>k_is)
  (case yyl19=>k_is)
  (case yye19=>k_is)
  (case yyk19=>k_is)
  (case yyx20=>refine' Lw.fdm ?_ ?_ ?_ ?_<;>try k_is)
  (case yyx21=>refine' Lw.fdm ?_ ?_ ?_ ?_<;>try k_is)
  (case yyx22=>refine' Lw.fdm ?_ ?_ ?_ ?_<;>try k_is)
  (case yyx23=>refine' Lw.fdm ?_ ?_ ?_ ?_<;>try k_is)
  (case yyx24=>refine' Lw.fdm ?_ ?_ ?_ ?_<;>try k_is)
  (case yyx25=>refine' Lw.fdm ?_ ?_ ?_ ?_<;>try k_is)
  (case yyx26=>refine' Lw.fdm ?_ ?_ ?_ ?_<;>try k_is)
  (case yyx27=>refine' Lw.fdm ?_ ?_ ?_ ?_<;>try k_is)
  (case yyx28=>refine' Lw.fdm ?_ ?_ ?_ ?_<;>try k_is)
  (case yyx29=>refine' Lw.fdm ?_ ?_ ?_ ?_<;>try k_is)
  (case yyx30=>refine' Lw.fdm ?_ ?_ ?_ ?_<;>try k_is)
  (case yyx31=>refine' Lw.fdm ?_ ?_ ?_ ?_<;>try k_is)
  (case yyx32=>refine' Lw.fdm ?_ ?_ ?_ ?_<;>try k_is)
  (case yyx33=>refine' Lw.fdm ?_ ?_ ?_ ?_<;>try k_is)
  (case yyx34=>refine' Lw.fdm ?_ ?_ ?_ ?_<;>try k_is)
  (case yyx35=>refine' Lw.fdm ?_ ?_ ?_ ?_<;>try k_is)
  (case yyx36=>refine' Lw.fdm ?_ ?_ ?_ ?_<;>try k_is)
  (case yyx37=>refine' Lw.fdm ?_ ?_ ?_ ?_<;>try k_is)
  (case yyx38=>refine' Lw.fdm ?_ ?_ ?_ ?_<;>try k_is)
  (case yyx39=>refine' Lw.fdm ?_ ?_ ?_ ?_<;>try k_is)
  (case yyx40=>refine' Lw.fdm ?_ ?_ ?_ ?_<;>try k_is)
  (case yyx41=>refine' Lw.fdm ?_ ?_ ?_ ?_<;>try k_is)
  (case yyx42=>refine' Lw.fdm ?_ ?_ ?_ ?_<;>try k_is)
  (case yyx43=>refine' Lw.fdm ?_ ?_ ?_ ?_<;>try k_is)
  (case yyx44=>refine' Lw.fdm ?_ ?_ ?_ ?_<;>try k_is)
  (case yyx45=>refine' Lw.fdm ?_ ?_ ?_ ?_<;>try k_is)
  (case yyx46=>refine' Lw.fdm ?_ ?_ ?_ ?_<;>try k_is)
  (case yyx47=>refine' Lw.fdm ?_ ?_ ?_ ?_<;>try k_is)
  (case yyqKh=>refine' ⟨?_,?_,?_⟩<;>try k_is)
  (case yyqLb=>refine' ⟨?_,?_,?_⟩<;>try k_is)
  (case yyqKi=>refine' ⟨?_,?_,?_⟩<;>try k_is)
  (case yyqLd=>refine' ⟨?_,?_,?_⟩<;>try k_is)
  (case yyqLf=>refine' ⟨?_,?_,?_⟩<;>try k_is)
  (case yyqKj=>refine' ⟨?_,?_,?_⟩<;>try k_is)
  (case yyqKf=>refine' ⟨?_,?_,?_⟩<;>try k_is)
  (case yyqLe=>refine' ⟨?_,?_,?_⟩<;>try k_is)
  (case yyqLg=>refine' ⟨?_,?_,?_⟩<;>try k_is)
  (case yyqLi=>refine' ⟨?_,?_,?_⟩<;>try k_is)
  (case yyqLh=>refine' ⟨?_,?_,?_⟩<;>try k_is)
  (case yyqLa=>refine' ⟨?_,?_,?_⟩<;>try k_is)
  (case yyqLc=>refine' ⟨?_,?_,?_⟩<;>try k_is)
  (case yyqKg=>refine' ⟨?_,?_,?_⟩<;>try k_is)
  (case yymLE=>k_is)
  (case yynVE=>k_is)
  (case yyqKc=>k_exc)
  (case yyqDb=>k_is)
  (case yyqBg=>refine' ⟨?_,?_,?_,?_,?_,?_,?_⟩<;>k_is)
  (case yyqMb=>k_is)
  (case yyqGb=>k_is)
  (case yyqGf=>k_is)
  (case yyqGc=>k_is)
  (case yyqGh=>k_is)
  (case yyqGj=>k_is)
  (case yyqGd=>k_is)
  (case yyqGa=>k_is)
  (case yyqGi=>k_is)
  (case yyqHa=>k_is)
  (case yyqHc=>k_is)
  (case yyqHb=>k_is)
  (case yyqGe=>k_is)
  (case yyqGg=>k_is)
  (case yyqKb=>k_exc)
  (case yyqDa=>k_is)
  (case yyqBf=>refine' ⟨?_,?_,?_,?_,?_,?_,?_⟩<;>k_is)
  (case yyqMa=>k_is)
  (case yyqEi=>k_is)
  (case yyqFc=>k_is)
  (case yyqEj=>k_is)
  (case yyqFe=>k_is)
  (case yyqFg=>k_is)
  (case yyqFa=>k_is)
  (case yyqEh=>k_is)
  (case yyqFf=>k_is)
  (case yyqFh=>k_is)
  (case yyqFj=>k_is)
  (case yyqFi=>k_is)
  (case yyqFb=>k_is)
  (case yyqFd=>k_is)
  (case yyqKa=>k_exc)
  (case yyqCj=>k_is)
  (case yyqBe=>refine' ⟨?_,?_,?_,?_,?_,?_,?_⟩<;>k_is)
  (case yyqLj=>k_is)
  (case yyqDf=>k_is)
  (case yyqDj=>k_is)
  (case yyqDg=>k_is)
  (case yyqEb=>k_is)
  (case yyqEd=>k_is)
  (case yyqDh=>k_is)
  (case yyqDe=>k_is)
  (case yyqEc=>k_is)
  (case yyqEe=>k_is)
  (case yyqEg=>k_is)
  (case yyqEf=>k_is)
  (case yyqDi=>k_is)
  (case yyqEa=>k_is)
  (case yyqKd=>k_exc)
  (case yyqDc=>k_is)
  (case yyqBh=>refine' ⟨?_,?_,?_,?_,?_,?_,?_⟩<;>k_is)
  (case yyqMc=>k_is)
  (case yyqHe=>k_is)
  (case yyqHi=>k_is)
  (case yyqHf=>k_is)
  (case yyqIa=>k_is)
  (case yyqIc=>k_is)
  (case yyqHg=>k_is)
  (case yyqHd=>k_is)
  (case yyqIb=>k_is)
  (case yyqId=>k_is)
  (case yyqIf=>k_is)
  (case yyqIe=>k_is)
  (case yyqHh=>k_is)
  (case yyqHj=>k_is)
  (case yyqKe=>k_exc)
  (case yyqDd=>k_is)
  (case yyqBi=>refine' ⟨?_,?_,?_,?_,?_,?_,?_⟩<;>k_is)
  (case yyqMd=>k_is)
  (case yyqIh=>k_is)
  (case yyqJb=>k_is)
  (case yyqIi=>k_is)
  (case yyqJd=>k_is)
  (case yyqJf=>k_is)
  (case yyqIj=>k_is)
  (case yyqIg=>k_is)
  (case yyqJe=>k_is)
  (case yyqJg=>k_is)
  (case yyqJi=>k_is)
  (case yyqJh=>k_is)
  (case yyqJa=>k_is)
  (case yyqJc=>k_is)
  (case yyaC=>k_is)
  (case yyyC0=>refine' Lw.fmm ?_ ?_ ?_ ?_ ?_<;>try k_is)
  (case yyyC1=>refine' Lw.fmm ?_ ?_ ?_ ?_ ?_<;>try k_is)
  (case yyyC2=>refine' Lw.fmm ?_ ?_ ?_ ?_ ?_<;>try k_is)
  (case yyyC3=>refine' Lw.fmm ?_ ?_ ?_ ?_ ?_<;>try k_is)
  (case yyyC4=>refine' Lw.fmm ?_ ?_ ?_ ?_ ?_<;>try k_is)
  (case yyyC5=>refine' Lw.fmm ?_ ?_ ?_ ?_ ?_<;>try k_is)
  (case yyyC6=>refine' Lw.fmm ?_ ?_ ?_ ?_ ?_<;>try k_is)
  (case yyyC7=>refine' Lw.fmm ?_ ?_ ?_ ?_ ?_<;>try k_is)
  (case yyyC8=>refine' Lw.fmm ?_ ?_ ?_ ?_ ?_<;>try k_is)
  (case yypgC=>k_is)
  (case yyhdC=>k_is)
  (case yypoC=>k_is)
  (case yysaC=>k_is)
  (case yymkC=>k_is)
  (case yykcC=>k_is)
  (case yynC_base=>k_is)
  (case yynC_outset=>k_is)
  (case yynC_steps=>k_is)
  (case yynC_layers=>k_is)
  (case yyaCK=>k_is)
  (case yyyCK0=>refine' Lw.fmm ?_ ?_ ?_ ?_ ?_<;>try k_is)
  (case yyyCK1=>refine' Lw.fmm ?_ ?_ ?_ ?_ ?_<;>try k_is)
  (case yyyCK2=>refine' Lw.fmm ?_ ?_ ?_ ?_ ?_<;>try k_is)
  (case yyyCK3=>refine' Lw.fmm ?_ ?_ ?_ ?_ ?_<;>try k_is)
  (case yyyCK4=>refine' Lw.fmm ?_ ?_ ?_ ?_ ?_<;>try k_is)
  (case yyyCK5=>refine' Lw.fmm ?_ ?_ ?_ ?_ ?_<;>try k_is)
  (case yyyCK6=>refine' Lw.fmm ?_ ?_ ?_ ?_ ?_<;>try k_is)
  (case yypgCK=>k_is)
  (case yyhdCK=>k_is)
  (case yypoCK=>k_is)
  (case yysaCK=>k_is)
  (case yymkCK=>k_is)
  (case yykcCK=>k_is)
  (case yynCK_base=>k_is)
  (case yynCK_bad=>k_is)
  (case yynCK_bound=>k_is)
  (case yynCK_tails=>k_is)
  (case yyg0=>k_is)
  (case yyg1=>k_is)
  (case yyg2=>k_is)
  (case yyg3=>k_is)
  (case yyg4=>k_is)
  (case yyg5=>k_is)
  (case yyg6=>k_is)
  (case yyz0=>k_is)
  (case yyz1=>k_is)
  (case yyz2=>k_is)
  (case yyz3=>k_is)
  (case yyz4=>k_is)
  (case yyz5=>k_is)
  (case yyz6=>k_is)
  (case yyz7=>k_is)
  (case yyz8=>k_is)
  (case yyz9=>k_is)
  (case yyz10=>k_is)
  (case yyz11=>k_is)
  (case yyz12=>k_is)
  (case yyz13=>k_is)
  (case yyz14=>k_is)
  (case yyz15=>k_is)
  (case yyz16=>k_is)
  (case yyz17=>k_is)
  (case yyz18=>k_is)
