import PyProof.Rows.All
import Wide.All
import OpenK.AllK
import Wide.FinOn
import Lean
import PyProof.EqAt
import PyProof.EqKinds
import PyProof.TupleCall
import PyProof.NeKinds
import KE.KRevSl
import KE.KRevIter
import PyProof.ConsumeWalk
import PyProof.ReprRoads
import PyProof.CallFns
import KE.KSortAsk
import KE.KSortTup
import KE.KDictSum
import PyProof.Rows.SumAny
import PyProof.EnumStmt
import PyProof.EnumMake
import PyProof.Rows.EnumRows
import PyProof.Rows.FactsN_abs
import PyProof.ReprLen
import PyProof.ZipIter
import PyProof.Rows.ZipGen
import PyProof.StrCalls2
import PyProof.PureStr
import PyProof.CallStr
import PyProof.StrLoop
import PyProof.StrWalks
import PyProof.RulesTry
import PyProof.StrOps
import KE.KLam
import PyProof.LongRange
import PyProof.AttrMissSeq
import PyProof.Rows.SetFrom
import KE.KDictOf
import PyProof.DictWalks
import KE.KUnpack
import PySem.Challenge.RW_lackstretch_k34_keepers_apart
set_option autoImplicit true
set_option Elab.async false
set_option linter.all false
set_option maxRecDepth 100000
abbrev Aa:List PySem.Str:=["thing"]
abbrev Ab:List PySem.Str:=["base","thing"]
abbrev Ac:List PySem.Str:=["bad","figures"]
abbrev Ad:List PySem.Str:=["store"]
abbrev Ae:List PySem.Str:=["store","many"]
abbrev Af:List PySem.Str:=["rule"]
abbrev Ag:List PySem.Str:=["self","stretch"]
abbrev Ah:List PySem.Str:=["self","n"]
abbrev Ai:List PySem.Str:=["base","n"]
abbrev Aj:List PySem.Str:=["store","base","few"]
abbrev Ak:List PySem.Str:=["self","rule","b"]
abbrev Al:List PySem.Str:=["self","layer","place","stop"]
abbrev Am:List PySem.Str:=["self"]
abbrev An:List PySem.Str:=["store","base"]
abbrev Ao:List PySem.Str:=["self","rule"]
abbrev Ap:List PySem.Str:=["self","bad"]
abbrev Aq:List PySem.Str:=["rule","n"]
abbrev Ar:List PySem.Str:=["stretches"]
abbrev As:List PySem.Str:=["script","k"]
abbrev At:List PySem.Str:=["rule","stands","stand"]
abbrev Au:List PySem.Str:=["self","place","stop","left"]
abbrev Av:List PySem.Str:=["bad","stand","figure"]
abbrev Aw:List PySem.Str:=["stretch","figures"]
abbrev Ax:List PySem.Str:=["bad","stands","figures"]
abbrev Ay:List PySem.Str:=["rule","stands"]
abbrev Az:List PySem.Str:=["self","left"]
abbrev A4:List PySem.Str:=["self","figures"]
abbrev A5:List PySem.Str:=["store","rule"]
abbrev A6:List PySem.Str:=["rule","deed"]
abbrev A8:List PySem.Str:=["keeper","deed","due"]
abbrev A9:List PySem.Str:=["rule","most"]
abbrev Ba:List PySem.Str:=["keepers","rules","n"]
abbrev Bb:List PySem.Str:=["bad","found","stretch","size","stand"]
abbrev ZA:=List (List Int)
abbrev ZB:=List (PySem.Addr×List Int)
namespace L2
open PySem PySem.Spec PyProof.Rows
abbrev Key:=Sum Int Str
def Q7:Key->Value->Bool
 |.inl k,v=>Value.isInt k v
 |.inr x,v=>Value.isStrOf x v
def zh6(w:World):Key->Int
 |.inl k=>hashInt k
 |.inr x=>hashStr w x
theorem xH:∀{k:Key} {v:Value},Q7 k v=true->(∃i t,k=Sum.inl i/\v=Value.int i t)\/(∃x t,k=Sum.inr x/\v=Value.str x t)
 |.inl i,v,h=>by
  obtain⟨t,e⟩:=Value.isInt_shape h;exact .inl ⟨i,t,rfl,e⟩
 |.inr x,v,h=>by
  obtain⟨t,e⟩:=Value.isStrOf_shape h;exact .inr ⟨x,t,rfl,e⟩
theorem zdK(i:Int)(t:Tok):Q7 (.inl i) (.int i t)=true:=by simp[Q7,Value.isInt]
theorem zdB(x:Str)(t:Tok):Q7 (.inr x) (.str x t)=true:=by simp[Q7,Value.isStrOf]
theorem zgW(a b:Int):decide ((Sum.inl a:Key)=Sum.inl b)=(a == b):=by
 by_cases e:a=b
 ·subst e;simp
 ·have h:¬ (Sum.inl a:Key)=Sum.inl b:=λq=>e (Sum.inl.inj q);rw[decide_eq_false h];exact (beq_eq_false_iff_ne.mpr e).symm
theorem zgZ(a b:Str):decide ((Sum.inr a:Key)=Sum.inr b)=decide (a=b):=by
 by_cases e:a=b
 ·subst e;simp
 ·have h:¬ (Sum.inr a:Key)=Sum.inr b:=λq=>e (Sum.inr.inj q);rw[decide_eq_false h,decide_eq_false e]
theorem zgu(a:Int)(b:Str):decide ((Sum.inl a:Key)=Sum.inr b)=false:=decide_eq_false (λq=>nomatch q)
theorem zgA(a:Str)(b:Int):decide ((Sum.inr a:Key)=Sum.inl b)=false:=decide_eq_false (λq=>nomatch q)
def wD(prog:Program)(w:World):PySem.KeyKind prog w Key where
 is:=Q7
 hash:=zh6 w
 inj:=λv a b ha hb=>by
  rcases xH ha with ⟨i,t,rfl,rfl⟩ | ⟨x,t,rfl,rfl⟩
  ·rcases xH hb with ⟨j,u,rfl,e⟩ | ⟨y,u,rfl,e⟩
   ·injection e with e1 _;rw[e1]
   ·exact nomatch e
  ·rcases xH hb with ⟨j,u,rfl,e⟩ | ⟨y,u,rfl,e⟩
   ·exact nomatch e
   ·injection e with e1 _;rw[e1]
 byValue:=λk v h=>by
  rcases xH h with ⟨i,t,rfl,rfl⟩ | ⟨x,t,rfl,rfl⟩<;>rfl
 pyHash:=λhv h=>by
  rcases xH hv with ⟨i,t,rfl,rfl⟩ | ⟨x,t,rfl,rfl⟩
  ·exact wpAny_pyHash_int h
  ·exact wpAny_pyHash_str h
 eqBool:=λhu hv h=>by
  rcases xH hu with ⟨i,t,rfl,rfl⟩ | ⟨x,t,rfl,rfl⟩
  ·rcases xH hv with ⟨j,u,rfl,rfl⟩ | ⟨y,u,rfl,rfl⟩
   ·rw[zgW]at h;exact wpAny_eqBool_int h
   ·rw[zgu]at h;exact SeqAt.EqAt.int_str i t y u _ _ _ _ h
  ·rcases xH hv with ⟨j,u,rfl,rfl⟩ | ⟨y,u,rfl,rfl⟩
   ·rw[zgA]at h;exact SeqAt.EqAt.str_int x t j u _ _ _ _ h
   ·rw[zgZ]at h;exact wpAny_eqBool_str h
 «strs»:=λk x t v h=>by
  rcases xH h with ⟨i,u,rfl,e⟩ | ⟨y,u,rfl,e⟩
  ·exact nomatch e
  ·injection e with e1 _
   subst e1;cases v<;>rfl
theorem zaU(prog:Program)(w:World)(i:Int)(t:Tok):(wD prog w).is (.inl i) (.int i t)=true:=zdK i t
theorem zaI(prog:Program)(w:World)(x:Str)(t:Tok):(wD prog w).is (.inr x) (.str x t)=true:=zdB x t
inductive V where
 |non | bl (b:Bool) | int (i:Int) | str (x:Str) | byt (b:Array UInt8) | flt (b:UInt64) | ref (a:Addr) | ty (n:String)
 deriving DecidableEq
def RelV:V->Value->Prop
 |.non,u=>u=Value.none
 |.bl b,u=>u=Value.bool b
 |.int i,u=>∃t,u=Value.int i t
 |.str x,u=>∃t,u=Value.str x t
 |.byt b,u=>∃t,u=Value.bytes b t
 |.flt b,u=>∃t,u=Value.float b t
 |.ref a,u=>u=Value.ref a
 |.ty n,u=>u=Value.type n
abbrev Vals:List V->List Value->Prop:=Paired RelV
theorem Vals.length(r:Vals xs us):xs.length=us.length:=Paired.length r
theorem Vals.get:∀{xs:List V} {us:List Value} {i:Nat} {x:V},Vals xs us->xs[i]?=some x->∃u,us[i]?=some u/\RelV x u
 |_,_,_,_,.nil,e=>by simp at e
 |_,_,0,_,.cons r _,e=>by simp at e;subst e;exact⟨_,rfl,r⟩
 |_,_,i+1,x,.cons _ t,e=>by
  obtain⟨u,h1,h2⟩:=Vals.get t (by simpa using e);exact⟨u,by simpa using h1,h2⟩
theorem Vals.set{x:V}{u:Value}(r:RelV x u):∀{xs:List V} {us:List Value} (i:Nat),Vals xs us->Vals (xs.set i x) (us.set i u)
 |_,_,_,.nil=>.nil
 |_,_,0,.cons _ t=>.cons r t
 |_,_,i+1,.cons q t=>.cons q (Vals.set r i t)
theorem Vals.append:∀{xs ys:List V} {us ws:List Value},Vals xs us->Vals ys ws->Vals (xs++ys) (us++ws)
 |_,_,_,_,.nil,s=>s
 |_,_,_,_,.cons r t,s=>.cons r (Vals.append t s)
theorem Vals.take:∀{xs:List V} {us:List Value} (n:Nat),Vals xs us->Vals (xs.take n) (us.take n)
 |_,_,0,_=>.nil
 |_,_,_+1,.nil=>.nil
 |_,_,n+1,.cons r t=>.cons r (Vals.take n t)
theorem Vals.drop:∀{xs:List V} {us:List Value} (n:Nat),Vals xs us->Vals (xs.drop n) (us.drop n)
 |_,_,0,r=>r
 |_,_,_+1,.nil=>.nil
 |_,_,n+1,.cons _ t=>Vals.drop n t
def RelO:Option V->Option Value->Prop
 |some v,some u=>RelV v u
 |none,none=>True
 |_,_=>False
def KV:List (κ×V)->List (κ×Value)->Prop:=Paired λp q=>p.1=q.1/\RelV p.2 q.2
def kV:Key->V
 |.inl i=>.int i
 |.inr x=>.str x
inductive Ex2 {α β:Type} (p:α->β->Prop):Prop
 |mk (a:α) (b:β) (h:p a b):Ex2 p
inductive Ex3 {α β γ:Type} (p:α->β->γ->Prop):Prop
 |mk (a:α) (b:β) (c:γ) (h:p a b c):Ex3 p
inductive Ex4 {α β γ δ:Type} (p:α->β->γ->δ->Prop):Prop
 |mk (a:α) (b:β) (c:γ) (d:δ) (h:p a b c d):Ex4 p
inductive Ex5 {α β γ δ ε:Type} (p:α->β->γ->δ->ε->Prop):Prop
 |mk (a:α) (b:β) (c:γ) (d:δ) (e:ε) (h:p a b c d e):Ex5 p
inductive Ex6 {α β γ δ ε ζ:Type} (p:α->β->γ->δ->ε->ζ->Prop):Prop
 |mk (a:α) (b:β) (c:γ) (d:δ) (e:ε) (f:ζ) (h:p a b c d e f):Ex6 p
inductive HO where
 |lst (xs:List V)
 |tup (xs:List V)
 |dK (kvs:List (Key×V)) | dT (kvs:List (List Key×V))
 |set (S:Int->Bool) (n:Nat)
 |ins (C dx:Addr) (fs:List (Str×V))
 |own (x:Addr)
 |xd (fs:List (Str×V))
 |met (f x:Addr)
 |rng (lo hi:Int)
 |frz (o:Obj) (u:HO)
 |tbl (ps:Array Value)
 |ext (φ:Heap->Prop)
abbrev Hp:=Addr->Option HO
def upd(H:Hp)(a:Addr)(o:HO):Hp:=λb=>if b=a then some o else H b
theorem zg:upd H a o a=some o:=by unfold upd;rw[if_pos rfl]
theorem zr(h:b≠a):upd H a o b=H b:=by unfold upd;rw[if_neg h]
theorem zcT:upd (upd H a o) a u=upd H a u:=by
 funext b;unfold upd;split<;>rfl
theorem uf{H:Hp}(h:H a=some o)(h':H b=some u)(d:o≠u):a≠b:=by
 intro e;subst e;rw[h]at h';exact d (Option.some.inj h')
theorem zx{H:Hp}(h:H a=some o)(h':H b=none):a≠b:=by
 intro e;subst e;rw[h]at h';cases h'
section
variable (P:Program) (w:World)
def ObjOk(H:Hp)(h:Heap)(a:Addr):HO->Prop
 |.lst xs=>xs.length<=sizeLine/\∃(its:List Value) (n:Nat),Vals xs its/\h.get? a=some { cls:=.type "list",data:=.seq its.toArray n }
 |.tup xs=>xs.length<=sizeLine/\∃its:List Value,Vals xs its/\IsTup h a its.toArray
 |.dK kvs=>kvs.length<=sizeLine/\(a == sysModules)=false/\∃vs,KV kvs vs/\h.DictOf (wD P w) a vs
 |.dT kvs=>kvs.length<=sizeLine/\(a == sysModules)=false/\∃xs:List (List Key×Addr×Value),
   Paired (λ(p:List Key×V) (q:List Key×Addr×Value)=>p.1=q.1/\H q.2.1=some (.tup (p.1.map kV))/\RelV p.2 q.2.2) kvs xs /\
   ∃o es ep,h.get? a=some o/\o.ExactDict/\o.data=.dict es ep/\es.toList=xs.map (entryOfKey (tupleKind (wD P w)))/\(xs.map (·.1)).Nodup
 |.set S n=>h.SetOf (intKind P w) a S n
 |.ins C dx fs=>H dx=some (.own a)/\fs.length<=1000/\dx≠a/\h.get? a=some (W.instObj C dx) /\
   ∃mA,h.Ns1 dx mA/\(∀f,RelO (fs.lookup f) (mA f))/\PySem.Within mA (fs.map (·.1))
 |.own _=>∃o,h.get? a=some o
 |.xd fs=>∃mA,h.Ns1 a mA/\∀f,RelO (fs.lookup f) (mA f)
 |.rng lo hi=>∃t u v,h.get? a=some { cls:=.type "range",data:=.fields #[.int lo t,.int hi u,.int 1 v] }
 |.frz o u=>h.get? a=some o/\ObjOk H h a u
 |.tbl ps=>h.get? a=some { cls:=.none,data:=.fields ps }
 |.met f x=>h.get? a=some (W.methodObj (.ref f) (.ref x))
 |.ext φ=>φ h/\(∃o,h.get? a=some o)/\∀h1 h2:Heap,φ h1->(∀o,h1.get? a=some o->h2.get? a=some o)->φ h2
def HOk(H:Hp)(h:Heap):Prop:=∀a o,H a=some o->ObjOk P w H h a o
end
section
variable {P:Program} {w:World} {H H':Hp} {h h':Heap} {a:Addr} {o:HO}
theorem ObjOk.lt(x:ObjOk P w H h a o):a<h.objs.size:=by
 cases o with
 |lst xs=>obtain⟨_,_,_,_,e⟩:=x;exact Heap.lt_size e
 |tup xs=>obtain⟨_,_,_,p⟩:=x;exact p.lt
 |dK kvs=>obtain⟨_,_,_,_,o,_,_,e,_⟩:=x;exact Heap.lt_size e
 |dT kvs=>obtain⟨_,_,_,_,o,_,_,e,_⟩:=x;exact Heap.lt_size e
 |set S n=>obtain⟨o,_,_,_,e,_⟩:=x;exact Heap.lt_size e
 |ins C dx fs=>obtain⟨_,_,_,e,_⟩:=x;exact Heap.lt_size e
 |own y=>obtain⟨_,e⟩:=x;exact Heap.lt_size e
 |xd fs=>obtain⟨_,⟨_,_,_,e,_⟩,_⟩:=x;exact Heap.lt_size e
 |rng lo hi=>obtain⟨_,_,_,e⟩:=x;exact Heap.lt_size e
 |frz ob u=>obtain⟨e,_⟩:=x;exact Heap.lt_size e
 |tbl ps=>exact Heap.lt_size (show h.get? a=some _ from x)
 |met f y=>exact Heap.lt_size (show h.get? a=some _ from x)
 |ext φ=>obtain⟨_,⟨_,e⟩,_⟩:=x;exact Heap.lt_size e
theorem Paired.mapP{α β:Type}{F G:α->β->Prop}:∀{l₁:List α} {l₂:List β},Paired F l₁ l₂->(∀a b,F a b->G a b)->Paired G l₁ l₂
 |_,_,.nil,_=>.nil
 |_,_,.cons r t,f=>.cons (f _ _ r) (Paired.mapP t f)
theorem ObjOk.stay(x:ObjOk P w H h a o)(k:∀b u,(b=a\/H b=some (.own a))->h.get? b=some u->h'.get? b=some u)(ho:∀b,H b=some (.own a)->H' b=some (.own a))(ht:∀b xs,H b=some (.tup xs)->H' b=some (.tup xs)):ObjOk P w H' h' a o:=by
 induction o with
 |lst xs=>obtain⟨z,its,n,r,e⟩:=x;exact⟨z,its,n,r,k _ _ (.inl rfl) e⟩
 |tup xs=>obtain⟨z,its,r,ob,e,c⟩:=x;exact⟨z,its,r,ob,k _ _ (.inl rfl) e,c⟩
 |dK kvs=>obtain⟨z,y,vs,r,ob,es,ep,e,c⟩:=x;exact⟨z,y,vs,r,ob,es,ep,k _ _ (.inl rfl) e,c⟩
 |dT kvs=>
  obtain⟨z,y,xs,r,ob,es,ep,e,c⟩:=x;exact⟨z,y,xs,Paired.mapP r λp q z=>⟨z.1,ht _ _ z.2.1,z.2.2⟩,ob,es,ep,k _ _ (.inl rfl) e,c⟩
 |set S n=>obtain⟨ob,es,ep,t,e,c⟩:=x;exact⟨ob,es,ep,t,k _ _ (.inl rfl) e,c⟩
 |ins C dx fs=>
  obtain⟨d,z,ne,e,mA,⟨od,es,ep,e2,c⟩,r⟩:=x;exact⟨ho _ d,z,ne,k _ _ (.inl rfl) e,mA,⟨od,es,ep,k _ _ (.inr d) e2,c⟩,r⟩
 |own y=>obtain⟨ob,e⟩:=x;exact⟨ob,k _ _ (.inl rfl) e⟩
 |xd fs=>obtain⟨mA,⟨od,es,ep,e,c⟩,r⟩:=x;exact⟨mA,⟨od,es,ep,k _ _ (.inl rfl) e,c⟩,r⟩
 |rng lo hi=>obtain⟨t,u,v,e⟩:=x;exact⟨t,u,v,k _ _ (.inl rfl) e⟩
 |frz ob u ih=>obtain⟨e,q⟩:=x;exact⟨k _ _ (.inl rfl) e,ih q⟩
 |tbl ps=>
  have e:=x;exact k a _ (.inl rfl) e
 |met f y=>
  have e:=x;exact k a _ (.inl rfl) e
 |ext φ=>obtain⟨p,⟨o,e⟩,st⟩:=x;exact⟨st _ _ p λo q=>k _ _ (.inl rfl) q,⟨o,k _ _ (.inl rfl) e⟩,st⟩
theorem HOk.lt(x:HOk P w H h)(e:H a=some o):a<h.objs.size:=(x a o e).lt
theorem HOk.fresh(x:HOk P w H h)(e:h.objs.size<=a):H a=none:=by
 cases q:H a with
 |none=>rfl
 |some u=>exact absurd (Nat.lt_of_lt_of_le (x.lt q) e) (Nat.lt_irrefl _)
theorem HOk.kept(x:HOk P w H h)(k:∀b u,h.get? b=some u->h'.get? b=some u):HOk P w H h':=λa o e=>
 (x a o e).stay (λb u _ q=>k b u q) (λ_ q=>q) λ_ _ q=>q
theorem HOk.laid(x:HOk P w H h)(k:∀b u,h.get? b=some u->h'.get? b=some u)(hp:h.objs.size<=a)(new:ObjOk P w (upd H a o) h' a o):HOk P w (upd H a o) h':=λb u e=>by
 have hn:=x.fresh hp;by_cases hb:b=a
 ·subst hb;rw[zg]at e;cases e;exact new
 ·rw[zr hb]at e;exact (x b u e).stay (λc v _ q=>k c v q) (λc q=>by rw[zr (zx q hn)];exact q) λc xs q=>by rw[zr (zx q hn)];exact q
end
def Rd(H:Hp)(a:Addr)(u:HO):Prop:=H a=some u\/∃o,H a=some (.frz o u)
theorem Rd.ok(r:Rd H a u)(x:HOk P w H h):ObjOk P w H h a u:=by
 rcases r with r | ⟨o,r⟩
 ·exact x a u r
 ·obtain⟨_,q⟩:=x a _ r;exact q
def Mut:Option HO->Prop
 |some (.lst _)=>True
 |some (.dK _)=>True
 |some (.dT _)=>True
 |some (.set _ _)=>True
 |some (.ins _ _ _)=>True
 |some (.ext _)=>True
 |_=>False
section
variable {P:Program} {w:World} {H:Hp} {h h':Heap} {x e:Addr} {o':HO}
theorem HOk.write(ok:HOk P w H h)(mu:Mut (H x))(he:e=x\/H e=some (.own x))(k:∀b u,b≠e->h.get? b=some u->h'.get? b=some u)(heo:∃u,h'.get? e=some u)(new:ObjOk P w (upd H x o') h' x o'):HOk P w (upd H x o') h':=λb u q=>by
 have nown:∀c y,H c=some (.own y)->c≠x:=λc y r z=>by subst z;rw[r]at mu;exact mu
 have ntup:∀c xs,H c=some (.tup xs)->c≠x:=λc xs r z=>by subst z;rw[r]at mu;exact mu
 by_cases hb:b=x
 ·subst hb;rw[zg]at q;cases q;exact new
 ·rw[zr hb]at q;by_cases hbe:b=e
  ·have q':H b=some (.own x):=by
    rcases he with z | z
    ·exact absurd (hbe.trans z) hb
    ·rw[hbe];exact z
   rw[q]at q';cases q'
   obtain⟨v,hv⟩:=heo;exact⟨v,by rw[hbe];exact hv⟩
  ·refine (ok b u q).stay (λc v hc r=>k c v ?_ r) (λc r=>by rw[zr (nown c b r)];exact r) λc xs r=>by rw[zr (ntup c xs r)];exact r
   rcases hc with rfl | hc
   ·exact hbe
   ·rintro rfl;rcases he with z | z
    ·exact nown c b hc z
    ·rw[hc]at z;cases z;exact hb rfl
end
structure Un (fs ex:List Addr) (H H':Hp) (h h':Heap):Prop where
 keep:∀b o,h.get? b=some o->H b=none->b∉fs->b∉ex->h'.get? b=some o
 slot:∀b o,h.get? b=some o->H b=none->b∈fs->b∉ex->∃sl,h'.get? b=some { o with slots:=sl }
 free:∀b o,h.get? b=some o->H b=none->b∉ex->H' b=none
 there:∀b o,h.get? b=some o->b∉ex->∃o',h'.get? b=some o'
 tups:∀b xs,H b=some (.tup xs)->H' b=some (.tup xs)
 frzs:∀b o u,H b=some (.frz o u)->H' b=some (.frz o u)
 tbls:∀b ps,H b=some (.tbl ps)->∃more,H' b=some (.tbl (ps++more))
section
variable {fs fs' ex ex':List Addr} {H H1 H2:Hp} {h h1 h2 h':Heap} {a x e:Addr} {o:HO}
theorem Un.any(u:Un fs ex H H1 h h1)(q:h.get? b=some ob)(n:H b=none)(hx:b∉ex):∃sl,h1.get? b=some { ob with slots:=sl }:=by
 by_cases hb:b∈fs
 ·exact u.slot b ob q n hb hx
 ·exact⟨ob.slots,u.keep b ob q n hb hx⟩
theorem Un.kept(k:∀b u,h.get? b=some u->h'.get? b=some u):Un fs ex H H h h' :=
 ⟨λb ob q _ _ _=>k b ob q,λb ob q _ _ _=>⟨ob.slots,k b ob q⟩,λ_ _ _ n _=>n,λb ob q _=>⟨ob,k b ob q⟩,λ_ _ q=>q,λ_ _ _ q=>q,λ_ ps q=>⟨#[],by rw[q];simp⟩⟩
theorem Un.refl:Un fs ex H H h h:=Un.kept λ_ _ q=>q
theorem Un.laid(k:∀b u,h.get? b=some u->h'.get? b=some u)(hp:h.objs.size<=a)(hn:H a=none):Un fs ex H (upd H a o) h h' where
 keep:=λb u q _ _ _=>k b u q
 slot:=λb u q _ _ _=>⟨u.slots,k b u q⟩
 free:=λb u q n _=>by rw[zr (Nat.ne_of_lt (Nat.lt_of_lt_of_le (Heap.lt_size q) hp))];exact n
 there:=λb u q _=>⟨u,k b u q⟩
 tups:=λb xs q=>by rw[zr (zx q hn)];exact q
 frzs:=λb u xs q=>by rw[zr (zx q hn)];exact q
 tbls:=λb ps q=>⟨#[],by rw[zr (zx q hn),q];simp⟩
theorem Un.write(mu:Mut (H x))(he:e=x\/H e=some (.own x))(k:∀b u,b≠e->h.get? b=some u->h'.get? b=some u)(heo:∃u,h'.get? e=some u):Un fs ex H (upd H x o) h h':=by
 have hx:∀b,H b=none->b≠x:=λb n z=>by subst z;rw[n]at mu;exact mu
 have hb:∀b,H b=none->b≠e:=λb n z=>by
  subst z;rcases he with r | r
  ·exact hx b n r
  ·rw[n]at r;cases r
 have hm:∀b u,H b=some u->¬ Mut (some u)->b≠x:=λb u q nm z=>by subst z;rw[q]at mu;exact nm mu
 refine⟨λb u q n _ _=>k b u (hb b n) q,λb u q n _ _=>⟨u.slots,k b u (hb b n) q⟩,λb u q n _=>by rw[zr (hx b n)];exact n,λb u q _=>?_,
  λb xs q=>by rw[zr (hm b _ q λz=>z)];exact q,λb u xs q=>by rw[zr (hm b _ q λz=>z)];exact q,λb ps q=>⟨#[],by rw[zr (hm b _ q λz=>z),q];simp⟩⟩
 by_cases hbe:b=e
 ·subst hbe;exact heo
 ·exact⟨u,k b u hbe q⟩
end
def trk(h:Heap)(H:Hp):List Addr:=(List.range h.objs.size).filter λa=>(H a).isSome
def QJ(h:Heap)(H:Hp):Heap:=W.hideAll h (trk h H)
theorem zdL(h:Heap)(H:Hp):(QJ h H).objs.size=h.objs.size:=W.hideAll_size _ _
theorem zfb(e:h.get? b=some o)(n:H b=none):(QJ h H).get? b=some o :=
 W.hideAll_get _ e λhm=>by
  have q:=(List.mem_filter.mp hm).2;rw[n]at q;simp at q
theorem zfP(e:(QJ h H).get? b=some o):h.get? b=some o/\H b=none:=by
 have e':=W.of_hideAll (trk h H) e;refine⟨e',?_⟩;cases q:H b with
 |none=>rfl
 |some x=>
  have hm:b∈trk h H:=List.mem_filter.mpr ⟨List.mem_range.mpr (Heap.lt_size e'),by simp[q]⟩;have z:(QJ h H).get? b=none:=W.hideAll_none (trk h H) hm;rw[z]at e;cases e
def zgg(g h:Heap)(L:Addr):List (Addr×Obj):=(List.range h.objs.size).filterMap λa=>if a=L\/(g.get? a).isSome=true then none else (h.get? a).map λo=>(a,o)
def rest(g h:Heap)(L d:Addr):List (Addr×Obj):=(zgg g h L).filter λp=>decide (p.1≠d)
structure Mod (K:W.Frag) (mg:Str->Option Value) (base:Heap):Prop where
 kin:K.In base
 glob:base.Ns mainGlobals mg
 blt:∃mb,base.Ns builtinsNs mb/\∀x:Str,x ≠ "__name__"->mb x=bootBuiltins x
 nolimit:base.NoLimit
structure Cx where
 prog:Program
 w:World
 K:W.Frag
 mg:Str->Option Value
 base:Heap
 A:Around
 N:List Str
 s₀:Shared
 H₀:Hp
 env:Env
 outer:List Env
 stack:List Env
 ex:List Addr
 fn:Str->Bool
 calm:Bool
 pn:List (Addr×Obj)
 xe:Value->Shared->Prop
def frs(l:List Env):List Addr:=l.filterMap (·.frame)
abbrev Cx.fs(X:Cx):List Addr:=frs X.outer
def Vis(sc:Scope)(x:Str):Prop:=sc.names.lookup x=some .local\/sc.names.lookup x=some .cell\/sc.names.lookup x=some .free
def Loc(sc:Scope)(x:Str):Prop:=sc.names.lookup x=some .local\/sc.names.lookup x=some .cell
def Look(env:Env)(h:Heap)(m:Str->Option Value)(x:Str)(u:Value):Prop :=
 (env.kindOf x=some .local/\m x=some u)\/((env.kindOf x=some .cell\/env.kindOf x=some .free)/\∃c,env.cells.lookup x=some c/\h.IsCell c (some u))
structure Cx.Ok (X:Cx):Prop where
 mod:Mod X.K X.mg X.base
 kind:X.env.scope.kind=.function
 glob:X.env.globals=mainGlobals
 blt:X.env.builtins=builtinsNs
 above:X.s₀.heap.objs.size<=X.env.locals
 inj:∀x y c,X.env.cells.lookup x=some c->X.env.cells.lookup y=some c->x=y
 has:∀x,(X.env.kindOf x=some .cell\/X.env.kindOf x=some .free)->∃c,X.env.cells.lookup x=some c
 cab:∀x c,X.fn x=true->X.env.cells.lookup x=some c->X.s₀.heap.objs.size<=c
 hd:X.calm=true->X.A.handled=none
 frames:X.A.frames=some X.stack
 stk:X.stack=X.outer\/(X.stack=X.env::X.outer/\X.env.frame=some X.env.locals)
 exf:∀b∈X.ex,b≠X.env.locals/\∀x c,X.env.cells.lookup x=some c->c≠b
 bs:∀b o,X.base.get? b=some o->X.s₀.heap.get? b=some o/\X.H₀ b=none
 bsz:X.base.objs.size<=X.s₀.heap.objs.size
 noex:∀b o,X.base.get? b=some o->b∉X.ex
 exfs:∀b∈X.ex,b∉X.fs
 funs:X.s₀.heap.FunFrames X.base X.outer
 frf:∀b∈X.fs,X.H₀ b=none
structure Inv (X:Cx) (pins:List (Addr×Obj)) (σ:List (Option V)) (H:Hp) (s:Shared):Prop where
 ok:X.Ok
 os:s.os=X.s₀.os
 bare:AllBare s.gens
 base:Un X.fs X.ex X.H₀ H X.s₀.heap s.heap
 loc:∃m,s.heap.Ns X.env.locals m/\∀(i:Nat) (x:Str) (v:V),X.N[i]?=some x->σ[i]?=some (some v)->Vis X.env.scope x->∃u,RelV v u/\Look X.env s.heap m x u
 cell:∀x c,X.env.cells.lookup x=some c->∃v,s.heap.IsCell c v
 free:H X.env.locals=none
 freeC:∀x c,X.env.cells.lookup x=some c->H c=none
 pin:∀p∈X.pn++pins,s.heap.get? p.1=some p.2/\H p.1=none/\p.1≠X.env.locals/\p.1∉X.fs/\∀v,p.2.data≠.cell v
 hok:HOk X.prog X.w H s.heap
 len:σ.length=X.N.length
section
variable {X:Cx} {pins:List (Addr×Obj)} {σ:List (Option V)} {H H':Hp} {s:Shared} {h':Heap}
theorem Cx.Ok.nofr(ok:X.Ok)(e:X.base.get? b=some o):b∉X.fs:=λhb=>by
 have:=(ok.funs.mem hb).1;rw[e]at this;cases this
theorem Inv.bs(I:Inv X pins σ H s):∀b o,X.base.get? b=some o->s.heap.get? b=some o/\H b=none:=λb o e=>
 ⟨I.base.keep b o (I.ok.bs b o e).1 (I.ok.bs b o e).2 (I.ok.nofr e) (I.ok.noex b o e),I.base.free b o (I.ok.bs b o e).1 (I.ok.bs b o e).2 (I.ok.noex b o e)⟩
theorem Inv.bk(I:Inv X pins σ H s):∀b o,X.base.get? b=some o->s.heap.get? b=some o:=λb o e=>(I.bs b o e).1
theorem Inv.mod(I:Inv X pins σ H s):Mod X.K X.mg X.base:=I.ok.mod
theorem Inv.kIn(I:Inv X pins σ H s):X.K.In s.heap:=I.ok.mod.kin.keeps I.bk
theorem Inv.nolimit(I:Inv X pins σ H s):s.heap.NoLimit:=I.ok.mod.nolimit.keeps I.bk
theorem Inv.fr(I:Inv X pins σ H s):∃m,Fr X.base X.env.locals s.heap m :=
 let ⟨m,hn,_⟩:=I.loc
 ⟨m,hn,I.bk,Nat.le_trans I.ok.bsz I.ok.above⟩
theorem Inv.lt(I:Inv X pins σ H s):X.env.locals<s.heap.objs.size:=let ⟨_,hn,_⟩:=I.loc;hn.lt
theorem Inv.sz(I:Inv X pins σ H s):X.s₀.heap.objs.size<=s.heap.objs.size:=Nat.le_trans I.ok.above (Nat.le_of_lt I.lt)
theorem Inv.nofs(I:Inv X pins σ H s){a:Addr}(h:s.heap.objs.size<=a):a∉X.fs:=λhb=>by
 obtain⟨_,o,ho,_⟩:=I.ok.funs.mem hb;exact absurd (Nat.lt_of_lt_of_le (Heap.lt_size ho) (Nat.le_trans I.sz h)) (Nat.lt_irrefl _)
theorem Inv.cne(I:Inv X pins σ H s):∀x c,X.env.cells.lookup x=some c->c≠X.env.locals:=λx c e z=>by
 obtain⟨v,o,ho,hd⟩:=I.cell x c e;obtain⟨m,⟨o',es,ep,ho',hd',_⟩,_⟩:=I.loc;rw[z,ho']at ho;cases ho;rw[hd']at hd;cases hd
theorem Inv.funs(I:Inv X pins σ H s):s.heap.FunFrames X.base X.outer:=by
 have all:∀l,(∀b∈frs l,b∈X.fs)->X.s₀.heap.FunFrames X.base l->s.heap.FunFrames X.base l:=by
  intro l
  induction l with
  |nil=>intro _ _;trivial
  |cons env r ih=>
   intro hs hl;obtain⟨hk,⟨L,o,hf,hn,ho,hd⟩,hr⟩:=hl;have hL:=hs L (by unfold frs;rw[List.filterMap_cons,hf];exact List.mem_cons_self);obtain⟨sl,e⟩:=I.base.slot L o ho (I.ok.frf L hL) hL λz=>I.ok.exfs L z hL;exact⟨hk,⟨L,_,hf,hn,e,hd⟩,ih (λb hb=>hs b (by unfold frs;rw[List.filterMap_cons,hf];exact List.mem_cons_of_mem _ hb)) hr⟩
 exact all X.outer (λ_ hb=>hb) I.ok.funs
theorem Inv.stack(I:Inv X pins σ H s):s.heap.FunFrames X.base X.stack:=by
 rcases I.ok.stk with e | ⟨e,hf⟩
 ·rw[e];exact I.funs
 ·rw[e];obtain⟨m,hn,_⟩:=I.loc;refine .cons (by rw[I.ok.kind];decide) hf hn ?_ I.funs;exact Heap.get?_none_of_le (Nat.le_trans I.ok.bsz I.ok.above)
theorem Inv.stkSub(I:Inv X pins σ H s):∀b∈frs X.stack,b∈X.env.locals::X.fs:=λb hb=>by
 rcases I.ok.stk with e | ⟨e,hf⟩
 ·rw[e]at hb;exact List.mem_cons_of_mem _ hb
 ·rw[e]at hb;unfold frs at hb;rw[List.filterMap_cons,hf]at hb;exact hb
theorem Inv.stkFree(I:Inv X pins σ H s):∀b∈frs X.stack,H b=none:=λb hb=>by
 rcases List.mem_cons.mp (I.stkSub b hb) with e | hb
 ·rw[e];exact I.free
 ·obtain⟨_,o,ho,_⟩:=I.ok.funs.mem hb;exact I.base.free b o ho (I.ok.frf b hb) λz=>I.ok.exfs b z hb
theorem Inv.step{ch:List Addr}(I:Inv X pins σ H s)(hch:∀b∈ch,(b∈X.ex\/X.s₀.heap.objs.size<=b)/\b≠X.env.locals/\(∀x c,X.env.cells.lookup x=some c->c≠b)/\∀p∈X.pn++pins,p.1≠b)(keep:∀b o,b≠X.env.locals->b∉X.fs->b∉ch->s.heap.get? b=some o->H b=none->h'.get? b=some o)(slot:∀b o,b≠X.env.locals->b∈X.fs->b∉ch->s.heap.get? b=some o->H b=none->∃sl,h'.get? b=some { o with slots:=sl })(free:∀b o,b∉ch->s.heap.get? b=some o->H b=none->H' b=none)(there:∀b o,b∉ch->s.heap.get? b=some o->∃o',h'.get? b=some o')(tups:∀b xs,H b=some (.tup xs)->H' b=some (.tup xs))(frzs:∀b o u,H b=some (.frz o u)->H' b=some (.frz o u))(tbls:∀b ps,H b=some (.tbl ps)->∃more,H' b=some (.tbl (ps++more)))(ns:∀m,s.heap.Ns X.env.locals m->h'.Ns X.env.locals m)(hok:HOk X.prog X.w H' h')(hg:AllBare g'):
  Inv X pins σ H' { s with heap:=h',gens:=g',drawn:=d',toks:=t' }:=by
 have neL:∀b o,X.s₀.heap.get? b=some o->b≠X.env.locals:=λb o e=>Nat.ne_of_lt (Nat.lt_of_lt_of_le (Heap.lt_size e) I.ok.above);have neC:∀b o,X.s₀.heap.get? b=some o->b∉X.ex->b∉ch:=λb o e hx hb=>by
  rcases (hch b hb).1 with z | z
  ·exact hx z
  ·exact absurd (Nat.lt_of_lt_of_le (Heap.lt_size e) z) (Nat.lt_irrefl _)
 have cellK:∀x c,X.env.cells.lookup x=some c->∀v,s.heap.IsCell c v->h'.IsCell c v:=λx c e v ⟨o,ho,hd⟩=>by
  have nch:c∉ch:=λz=>(hch c z).2.2.1 x c e rfl;by_cases hc:c∈X.fs
  ·obtain⟨sl,q⟩:=slot c o (I.cne x c e) hc nch ho (I.freeC x c e);exact⟨_,q,hd⟩
  ·exact⟨o,keep c o (I.cne x c e) hc nch ho (I.freeC x c e),hd⟩
 refine⟨I.ok,I.os,hg,⟨λb o e n hb hx=>?_,λb o e n hb hx=>?_,λb o e n hx=>?_,λb o e hx=>?_,λb xs e=>tups b xs (I.base.tups b xs e),λb o xs e=>frzs b o xs (I.base.frzs b o xs e),λb ps e=>?_⟩,?_,λx c e=>?_,?_,λx c e=>?_,λp hp=>?_,hok,I.len⟩
 ·exact keep b o (neL b o e) hb (neC b o e hx) (I.base.keep b o e n hb hx) (I.base.free b o e n hx)
 ·obtain⟨sl,e1⟩:=I.base.slot b o e n hb hx;obtain⟨sl',e2⟩:=slot b _ (neL b o e) hb (neC b o e hx) e1 (I.base.free b o e n hx);exact⟨sl',e2⟩
 ·obtain⟨o',e1⟩:=I.base.there b o e hx;exact free b o' (neC b o e hx) e1 (I.base.free b o e n hx)
 ·obtain⟨o',e1⟩:=I.base.there b o e hx;exact there b o' (neC b o e hx) e1
 ·obtain⟨m1,e1⟩:=I.base.tbls b ps e;obtain⟨m2,e2⟩:=tbls b _ e1;exact⟨m1++m2,by rw[e2,Array.append_assoc]⟩
 ·obtain⟨m,hn,hl⟩:=I.loc;refine⟨m,ns m hn,λi x v e1 e2 e3=>?_⟩;obtain⟨u,r,l⟩:=hl i x v e1 e2 e3;refine⟨u,r,?_⟩;rcases l with l | ⟨k,c,e,z⟩
  ·exact .inl l
  ·exact .inr ⟨k,c,e,cellK x c e _ z⟩
 ·obtain⟨v,z⟩:=I.cell x c e;exact⟨v,cellK x c e v z⟩
 ·obtain⟨m,⟨o,_,_,ho,_⟩,_⟩:=I.loc;exact free _ o (λz=>(hch _ z).2.1 rfl) ho I.free
 ·obtain⟨v,o,ho,hd⟩:=I.cell x c e;exact free c o (λz=>(hch c z).2.2.1 x c e rfl) ho (I.freeC x c e)
 ·obtain⟨e,n,ne,nf,d⟩:=I.pin p hp;have nch:p.1∉ch:=λz=>(hch p.1 z).2.2.2 p hp rfl;exact⟨keep p.1 p.2 ne nf nch e n,free p.1 p.2 nch e n,ne,nf,d⟩
theorem Inv.un(I:Inv X pins σ H s)(u:Un X.fs [] H H' s.heap h')(hok:HOk X.prog X.w H' h'):Inv X pins σ H' { s with heap:=h',toks:=t' }:=by
 obtain⟨m,⟨o,es,ep,ho,r⟩,_⟩:=id I.loc;obtain⟨sl,hL⟩:=u.any ho I.free (by simp);exact I.step (ch:=[]) (λ_ z=>nomatch z) (λb o _ hb _ e n=>u.keep b o e n hb (by simp)) (λb o _ hb _ e n=>u.slot b o e n hb (by simp)) (λb o _ e n=>u.free b o e n (by simp)) (λb o _ e=>u.there b o e (by simp)) u.tups u.frzs u.tbls (λm' hm=>by
  obtain⟨o',es',ep',ho',r'⟩:=hm;rw[ho]at ho';cases ho'
  exact⟨_,es',ep',hL,r'⟩) hok I.bare
theorem Inv.call(I:Inv X pins σ H s)(u:Un (frs X.stack) ch H H' s.heap h')(hok:HOk X.prog X.w H' h')(hg:AllBare g')(hch:∀b∈ch,(b∈X.ex\/X.s₀.heap.objs.size<=b)/\b≠X.env.locals/\(∀x c,X.env.cells.lookup x=some c->c≠b)/\∀p∈X.pn++pins,p.1≠b):
  Inv X pins σ H' { s with heap:=h',gens:=g',drawn:=d',toks:=t' }:=by
 obtain⟨m,⟨o,es,ep,ho,r⟩,_⟩:=id I.loc;obtain⟨sl,hL⟩:=u.any ho I.free λz=>(hch _ z).2.1 rfl;exact I.step hch (λb o hL hb hc e n=>u.keep b o e n (λz=>(List.mem_cons.mp (I.stkSub b z)).elim hL hb) hc) (λb o _ _ hc e n=>u.any e n hc) (λb o hc e n=>u.free b o e n hc) (λb o hc e=>u.there b o e hc) u.tups u.frzs u.tbls (λm' hm=>by
  obtain⟨o',es',ep',ho',r'⟩:=hm;rw[ho]at ho';cases ho'
  exact⟨_,es',ep',hL,r'⟩) hok hg
theorem Inv.turned(I:Inv X pins σ H s)(k:∀b o,b≠it->s.heap.get? b=some o->h'.get? b=some o)(hn:H it=none)(hL:it≠X.env.locals)(h1:it∈X.ex\/X.s₀.heap.objs.size<=it)(h2:∀x c,X.env.cells.lookup x=some c->c≠it)(h3:∀p∈X.pn++pins,p.1≠it):Inv X pins σ H { s with heap:=h',toks:=t' }:=by
 have nit:∀b u,H b=some u->b≠it:=λb u e z=>by rw[z,hn]at e;cases e
 refine I.step (ch:=[it]) (λb hb=>?_) (λb o _ _ hc e _=>k b o (λz=>hc (by simp[z])) e) (λb o _ _ hc e _=>⟨o.slots,k b o (λz=>hc (by simp[z])) e⟩) (λ_ _ _ _ n=>n)
  (λb o hc e=>⟨o,k b o (λz=>hc (by simp[z])) e⟩) (λ_ _ e=>e) (λ_ _ _ e=>e) (λb ps e=>⟨#[],by rw[e];simp⟩) (λm hm=>?_) (λb u e=>?_) I.bare
 ·have e:b=it:=by simpa using hb
  subst e;exact⟨h1,hL,h2,h3⟩
 ·obtain⟨o,es,ep,ho,r⟩:=hm;exact⟨o,es,ep,k _ o (Ne.symm hL) ho,r⟩
 ·refine (I.hok b u e).stay (λc v hc q=>k c v ?_ q) (λ_ q=>q) λ_ _ q=>q;rcases hc with z | z
  ·rw[z];exact nit b u e
  ·exact nit c _ z
theorem Inv.tok(I:Inv X pins σ H s)(t:Nat):Inv X pins σ H { s with toks:=t }:=I.un (h':=s.heap) (t':=t) Un.refl I.hok
theorem Inv.kept(I:Inv X pins σ H s)(k:∀b u,s.heap.get? b=some u->h'.get? b=some u):Inv X pins σ H { s with heap:=h',toks:=t' }:=I.un (Un.kept k) (I.hok.kept k)
theorem Inv.laid{a:Addr}(I:Inv X pins σ H s)(k:∀b u,s.heap.get? b=some u->h'.get? b=some u)(hp:s.heap.objs.size<=a)(new:ObjOk X.prog X.w (upd H a o) h' a o):
  Inv X pins σ (upd H a o) { s with heap:=h',toks:=t' }:=I.un (Un.laid k hp (I.hok.fresh hp)) (I.hok.laid k hp new)
theorem Inv.write(I:Inv X pins σ H s)(mu:Mut (H x))(he:e=x\/H e=some (.own x))(k:∀b u,b≠e->s.heap.get? b=some u->h'.get? b=some u)(heo:∃u,h'.get? e=some u)(new:ObjOk X.prog X.w (upd H x o) h' x o):Inv X pins σ (upd H x o) { s with heap:=h',toks:=t' }:=I.un (Un.write mu he k heo) (I.hok.write mu he k heo new)
theorem Inv.weak(I:Inv X pins σ H s)(hl:σ'.length=σ.length)(w:∀(i:Nat) v,σ'[i]?=some (some v)->σ[i]?=some (some v)):Inv X pins σ' H s :=
 ⟨I.ok,I.os,I.bare,I.base,let ⟨m,hn,hl'⟩:=I.loc;⟨m,hn,λi x v e1 e2 e3=>hl' i x v e1 (w i v e2) e3⟩,I.cell,I.free,I.freeC,I.pin,I.hok,hl.trans I.len⟩
theorem Inv.pins_of(I:Inv X pins σ H s)(h:∀p∈pins',s.heap.get? p.1=some p.2/\H p.1=none/\p.1≠X.env.locals/\p.1∉X.fs/\∀v,p.2.data≠.cell v):Inv X pins' σ H s :=
 ⟨I.ok,I.os,I.bare,I.base,I.loc,I.cell,I.free,I.freeC,λp hp=>(List.mem_append.mp hp).elim (λz=>I.pin p (List.mem_append_left _ z)) (h p),I.hok,I.len⟩
theorem Qe{N:List Str}(hN:N.Nodup){i j:Nat}(a:N[i]?=some x)(b:N[j]?=some x):i=j:=by
 obtain⟨h1,e1⟩:=List.getElem?_eq_some_iff.mp a;obtain⟨h2,e2⟩:=List.getElem?_eq_some_iff.mp b;exact (List.getElem_inj hN).mp (e1.trans e2.symm)
theorem Q8(I:Inv X pins σ H s)(hN:X.N.Nodup)(hi:X.N[i]?=some x)(hx:Loc X.env.scope x)(r:RelV v u)(h:∀s',Inv X pins (σ.set i (some v)) H s'->(∃a,Heap.SameBut a s.heap s'.heap/\(a=X.env.locals\/X.env.cells.lookup x=some a))->Q () s')(hf:X.fn x=true\/X.env.scope.names.lookup x=some .local:=by first | exact .inl rfl | exact .inr rfl | assumption):wpAny M A (storeName X.env x u) Q E s:=by
 obtain⟨m,hn,hl⟩:=id I.loc;have hcls:(X.env.scope.kind == .class || (X.env.scope.kind == .module && X.env.locals != X.env.globals))=false:=by rw[I.ok.kind];rfl
 have hiσ:i<σ.length:=by rw[I.len];exact (List.getElem?_eq_some_iff.mp hi).1
 have cne:=I.cne;have tracked:∀{a:Addr} {h':Heap},(∃o,s.heap.get? a=some o/\H a=none)->Heap.SameBut a s.heap h'->HOk X.prog X.w H h':=λ{a h'} ha hs b ob e=>by
  obtain⟨_,_,hfree⟩:=ha;refine (I.hok b ob e).stay (λc w' hc q=>(hs.2 c ?_).trans q) (λ_ q=>q) λ_ _ q=>q;rintro rfl;rcases hc with rfl | hc
  ·rw[hfree]at e;cases e
  ·rw[hfree]at hc;cases hc
 rcases hx with hk | hk
 ·refine wpAny_storeName_local hk hn (λh' hn' hs=>?_) hcls;obtain⟨oL,_,_,hoL,_⟩:=id hn;refine h _ ⟨I.ok,I.os,I.bare,⟨λb o e n hb hx=>?_,λb o e n hb hx=>?_,I.base.free,λb o e hx=>?_,I.base.tups,I.base.frzs,I.base.tbls⟩,⟨_,hn',λj y v' e1 e2 e3=>?_⟩,λy c e=>?_,I.free,I.freeC,λp hp=>?_,tracked ⟨oL,hoL,I.free⟩ hs,by simpa using I.len⟩ ⟨_,hs,.inl rfl⟩
  ·exact (hs.2 b (Nat.ne_of_lt (Nat.lt_of_lt_of_le (Heap.lt_size e) I.ok.above))).trans (I.base.keep b o e n hb hx)
  ·obtain⟨sl,e1⟩:=I.base.slot b o e n hb hx;exact⟨sl,(hs.2 b (Nat.ne_of_lt (Nat.lt_of_lt_of_le (Heap.lt_size e) I.ok.above))).trans e1⟩
  ·obtain⟨o',e1⟩:=I.base.there b o e hx;exact⟨o',(hs.2 b (Nat.ne_of_lt (Nat.lt_of_lt_of_le (Heap.lt_size e) I.ok.above))).trans e1⟩
  ·by_cases hj:j=i
   ·subst hj;rw[hi]at e1;cases e1
    rw[List.getElem?_set_self hiσ]at e2;cases e2
    exact⟨u,r,.inl ⟨hk,by simp⟩⟩
   ·rw[List.getElem?_set_ne (Ne.symm hj)]at e2;obtain⟨u',r',q⟩:=hl j y v' e1 e2 e3;refine⟨u',r',?_⟩;rcases q with ⟨k,e⟩ | ⟨k,c,e,z⟩
    ·refine .inl ⟨k,?_⟩;have:y≠x:=λe=>hj (Qe hN e1 (e▸hi));simp[this,e]
    ·exact .inr ⟨k,c,e,z.sameBut hs (cne y c e)⟩
  ·obtain⟨w',z⟩:=I.cell y c e;exact⟨w',z.sameBut hs (cne y c e)⟩
  ·obtain⟨e,n,ne,nf,d⟩:=I.pin p hp;exact⟨(hs.2 p.1 ne).trans e,n,ne,nf,d⟩
 ·have hfn:X.fn x=true:=by
   rcases hf with z | z
   ·exact z
   ·rw[z]at hk;cases hk
  obtain⟨c,hc⟩:=I.ok.has x (.inl hk);obtain⟨w',z⟩:=I.cell x c hc;refine wpAny_storeName_cell I.ok.kind hk hc z (λh' hc' hs=>?_);obtain⟨oc,hoc,hocd⟩:=id z;refine h { s with heap:=h' } ⟨I.ok,I.os,I.bare,⟨λb o e n hb hx=>?_,λb o e n hb hx=>?_,I.base.free,λb o e hx=>?_,I.base.tups,I.base.frzs,I.base.tbls⟩,⟨m,hn.sameBut hs (Ne.symm (cne x c hc)),λj y v' e1 e2 e3=>?_⟩,λy c' e=>?_,I.free,I.freeC,λp hp=>?_,tracked ⟨oc,hoc,I.freeC x c hc⟩ hs,by simpa using I.len⟩ ⟨c,hs,.inr hc⟩
  ·exact (hs.2 b (Nat.ne_of_lt (Nat.lt_of_lt_of_le (Heap.lt_size e) (I.ok.cab x c hfn hc)))).trans (I.base.keep b o e n hb hx)
  ·obtain⟨sl,e1⟩:=I.base.slot b o e n hb hx;exact⟨sl,(hs.2 b (Nat.ne_of_lt (Nat.lt_of_lt_of_le (Heap.lt_size e) (I.ok.cab x c hfn hc)))).trans e1⟩
  ·obtain⟨o',e1⟩:=I.base.there b o e hx;exact⟨o',(hs.2 b (Nat.ne_of_lt (Nat.lt_of_lt_of_le (Heap.lt_size e) (I.ok.cab x c hfn hc)))).trans e1⟩
  ·by_cases hj:j=i
   ·subst hj;rw[hi]at e1;cases e1
    rw[List.getElem?_set_self hiσ]at e2;cases e2
    exact⟨u,r,.inr ⟨.inl hk,c,hc,hc'⟩⟩
   ·rw[List.getElem?_set_ne (Ne.symm hj)]at e2;obtain⟨u',r',q⟩:=hl j y v' e1 e2 e3;refine⟨u',r',?_⟩;rcases q with q | ⟨k,c',e,z'⟩
    ·exact .inl q
    ·refine .inr ⟨k,c',e,z'.sameBut hs ?_⟩;rintro rfl;exact hj (Qe hN e1 (I.ok.inj _ _ _ e hc▸hi))
  ·by_cases hcc:c'=c
   ·subst hcc;exact⟨_,hc'⟩
   ·obtain⟨w2,z2⟩:=I.cell y c' e;exact⟨w2,z2.sameBut hs hcc⟩
  ·obtain⟨e,n,ne,nf,d⟩:=I.pin p hp;refine⟨(hs.2 p.1 ?_).trans e,n,ne,nf,d⟩;intro q;rw[q,hoc]at e;have q':=Option.some.inj e;exact d w' (by rw[<-q'];exact hocd)
theorem Ww(I:Inv X pins σ H s)(hN:X.N.Nodup)(hi:X.N[i]?=some x)(hx:Loc X.env.scope x)(r:RelV v u)(h:∀s',Inv X pins (σ.set i (some v)) H s'->Q () s')(hf:X.fn x=true\/X.env.scope.names.lookup x=some .local:=by first | exact .inl rfl | exact .inr rfl | assumption):wpAny M A (storeName X.env x u) Q E s :=
 Q8 I hN hi hx r (λs' I' _=>h s' I') hf
theorem Inv.call'(I:Inv X pins σ H s)(ho:s'.os=s.os)(u:Un (frs X.stack) ch H H' s.heap s'.heap)(hok:HOk X.prog X.w H' s'.heap)(hg:AllBare s'.gens)(hch:∀b∈ch,(b∈X.ex\/X.s₀.heap.objs.size<=b)/\b≠X.env.locals/\(∀x c,X.env.cells.lookup x=some c->c≠b)/\∀p∈X.pn++pins,p.1≠b):Inv X pins σ H' s':=by
 obtain⟨h',g',d',t',o'⟩:=s';have e:=ho;subst e;exact I.call u hok hg hch
end
abbrev XK:=Value->Option Addr->Hp->Prop
abbrev St:=List (Option V)
abbrev VK:=V->Hp->Prop
abbrev TE:=St->Hp->VK->Prop
abbrev TT:=St->Hp->(Bool->Hp->Prop)->Prop
abbrev TA:=St->Hp->(List V->Hp->Prop)->Prop
structure Ends where
 nx:St->Hp->Prop
 rt:VK
 bk:St->Hp->Prop:=λ_ _=>False
 ct:St->Hp->Prop:=λ_ _=>False
abbrev TS:=Ends->St->Hp->Prop
def EP(X:Cx)(pins:List (Addr×Obj))(σ:St)(Q:VK)(u:Value)(s':Shared):Prop:=∃v H',Inv X pins σ H' s'/\RelV v u/\Q v H'
def TP(X:Cx)(pins:List (Addr×Obj))(σ:St)(Q:Bool->Hp->Prop)(b:Bool)(s':Shared):Prop:=∃H',Inv X pins σ H' s'/\Q b H'
def AP(X:Cx)(pins:List (Addr×Obj))(σ:St)(Q:List V->Hp->Prop)(us:List Value)(s':Shared):Prop:=∃vs H',Inv X pins σ H' s'/\Vals vs us/\Q vs H'
def SP(X:Cx)(pins:List (Addr×Obj))(D:Ends)(f:Flow)(s':Shared):Prop :=
 match f with
 |.next=>∃σ' H',Inv X pins σ' H' s'/\D.nx σ' H'
 |.brk=>∃σ' H',Inv X pins σ' H' s'/\D.bk σ' H'
 |.cont=>∃σ' H',Inv X pins σ' H' s'/\D.ct σ' H'
 |.ret u=>∃v σ' H',Inv X pins σ' H' s'/\RelV v u/\D.rt v H'
def PE(X:Cx)(e:Expr)(t:TE):Prop :=
 ∀(pins:List (Addr×Obj)) (s:Shared) (σ:St) (H:Hp) (Q:VK),Inv X pins σ H s->t σ H Q->wpAny (model X.prog X.w) X.A (eval e X.env) (EP X pins σ Q) X.xe s
def PT(X:Cx)(e:Expr)(t:TT):Prop :=
 ∀(pins:List (Addr×Obj)) (s:Shared) (σ:St) (H:Hp) (Q:Bool->Hp->Prop),Inv X pins σ H s->t σ H Q->wpAny (model X.prog X.w) X.A (isTrue e X.env (eval e X.env)) (TP X pins σ Q) X.xe s
def PW(X:Cx)(e:Expr)(t:TT):Prop :=
 ∀(whole:Sem Value) (pins:List (Addr×Obj)) (s:Shared) (σ:St) (H:Hp) (Q:Bool->Hp->Prop),Inv X pins σ H s->t σ H Q->wpAny (model X.prog X.w) X.A (isTrue e X.env whole) (TP X pins σ Q) X.xe s
theorem PW.pt(h:PW X e t):PT X e t:=h _
def PA(X:Cx)(es:List Expr)(t:TA):Prop :=
 ∀(pos:Pos) (pins:List (Addr×Obj)) (s:Shared) (σ:St) (H:Hp) (Q:List V->Hp->Prop),Inv X pins σ H s->t σ H Q->wpAny (model X.prog X.w) X.A (spliced (backTo pos (starEach es X.env))) (AP X pins σ Q) X.xe s
def PS(X:Cx)(st:Stmt)(t:TS):Prop :=
 ∀(pins:List (Addr×Obj)) (s:Shared) (σ:St) (H:Hp) (D:Ends),Inv X pins σ H s->t D σ H->wpAny (model X.prog X.w) X.A (exec st X.env) (SP X pins D) X.xe s
def PSs(X:Cx)(st:List Stmt)(t:TS):Prop :=
 ∀(pins:List (Addr×Obj)) (s:Shared) (σ:St) (H:Hp) (D:Ends),Inv X pins σ H s->t D σ H->wpAny (model X.prog X.w) X.A (execs st X.env) (SP X pins D) X.xe s
theorem thn(h:wpAny M A t Q E s)(hQ:∀a s,Q a s->Q' a s):wpAny M A t Q' E s:=wpAny_mono h hQ λ_ _ x=>x
section
variable {X:Cx}
def zgb(i:Nat):TE:=fun σ H Q=>∃v,σ[i]?=some (some v)/\Q v H
def tC(v:V):TE:=λ_ H Q=>Q v H
theorem zgK{pos:Pos}(hN:X.N[i]?=some x)(hv:Vis X.env.scope x)(hd:(x == ("__debug__" : Str))=false:=by decide)(hcd:(x == ("__classdict__" : Str))=false:=by decide):PE X (.Name x pos) (zgb i):=by
 intro pins s σ H Q I h;obtain⟨v,e,h⟩:=h;obtain⟨m,hn,hl⟩:=I.loc;obtain⟨u,r,l⟩:=hl i x v hN e hv;have fin:EP X pins σ Q u s:=⟨v,H,I,r,h⟩
 rcases l with ⟨hk,hm⟩ | ⟨hk,c,hc,hcell⟩
 ·exact wpAny_Name (wpAny_loadName_local I.ok.kind hk hn hm fin) hd
 ·rcases hk with hk | hk
  ·exact wpAny_Name (wpAny_loadName_cell I.ok.kind hk hc hcell fin) hd
  ·exact wpAny_Name (wpAny_loadName_free I.ok.kind hk hc hcell fin hcd) hd
theorem zy{i j pos}:PE X (.Constant (.int i) j pos) (tC (.int i)):=λ_ _ _ H _ I h=>wpAny_Constant_int ⟨.int i,H,I.tok _,⟨_,rfl⟩,h⟩
theorem qN{b j pos}:PE X (.Constant (.bool b) j pos) (tC (.bl b)):=λ_ _ _ H _ I h=>Constant_bool ⟨.bl b,H,I,rfl,h⟩
theorem vC{j pos}:PE X (.Constant .none j pos) (tC .non):=λ_ _ _ H _ I h=>Constant_none ⟨.non,H,I,rfl,h⟩
theorem qC{x j pos}:PE X (.Constant (.str x) j pos) (tC (.str x)):=λ_ _ _ H _ I h=>Calls.Constant_str ⟨.str x,H,I.tok _,⟨_,rfl⟩,h⟩
def Gl(X:Cx)(x:Str):Prop:=X.env.kindOf x=some .globalImplicit
theorem Yr{σ:St}(I:Inv X pins σ H s)(hg:Gl X x)(hm:X.mg x=some u)(h:Q u s)(hd:(x == ("__debug__" : Str))=false:=by decide):wpAny (model X.prog X.w) X.A (eval (.Name x pos) X.env) Q E s :=
 Calls.Name_function_global I.ok.kind hg (Calls.loadGlobal_global (by rw[I.ok.glob];exact I.mod.glob.keeps I.bk) hm h) hd
theorem jD{E:Value->Shared->Prop}{σ:St}{pos:Pos}(I:Inv X pins σ H s)(hg:Gl X x)(hm:X.mg x=none)(hv:bootBuiltins x=some u)(h:Q u s)(hn:x ≠ "__name__":=by decide)(hd:(x == ("__debug__" : Str))=false:=by decide):wpAny (model X.prog X.w) X.A (eval (.Name x pos) X.env) Q E s:=by
 obtain⟨mb,h1,h2⟩:=I.mod.blt;exact Calls.Name_function_global I.ok.kind hg (Calls.loadGlobal_builtin (by rw[I.ok.glob];exact I.mod.glob.keeps I.bk) hm (by rw[I.ok.blt];exact h1.keeps I.bk) ((h2 x hn).trans hv) h) hd
theorem xn(hg:Gl X x)(hm:X.mg x=some u)(r:RelV v u)(hd:(x == ("__debug__" : Str))=false:=by decide):PE X (.Name x pos) (tC v):=
 λ_ _ _ H _ I h=>Yr I hg hm ⟨v,H,I,r,h⟩ hd
theorem vL{pos:Pos}(hg:Gl X x)(hm:X.mg x=none)(hv:bootBuiltins x=some u)(r:RelV v u)(hn:x ≠ "__name__":=by decide)(hd:(x == ("__debug__" : Str))=false:=by decide):PE X (.Name x pos) (tC v):=
 λ_ _ _ H _ I h=>jD I hg hm hv ⟨v,H,I,r,h⟩ hn hd
variable {a b:Expr} {ta tb:TE} {pos:Pos}
def PC(X:Cx)(op:CmpOp)(a b:Expr)(t:TE):Prop :=
 ∀(pins:List (Addr×Obj)) (s:Shared) (σ:St) (H:Hp) (Q:VK),Inv X pins σ H s->t σ H Q ->
  wpAny (model X.prog X.w) X.A (eval a X.env) (λv s₁=>wpAny (model X.prog X.w) X.A (eval b X.env) (λu s₂=>wpAny (model X.prog X.w) X.A (compareOp op v u) (EP X pins σ Q) X.xe s₂) X.xe s₁) X.xe s
theorem zeN(b:Expr)(h:op≠.In)(h2:op≠.NotIn):behindInMarks op b=false:=by
 have e1:(op == CmpOp.In)=false:=by cases op<;>first | rfl | exact absurd rfl h
 have e2:(op == CmpOp.NotIn)=false:=by cases op<;>first | rfl | exact absurd rfl h2
 cases b<;>simp[behindInMarks,e1,e2]
def tB(t:TE):TT:=fun σ H Q=>t σ H λx H1=>∃c,x=.bl c/\Q c H1
theorem zgQ(h:PC X op a b t)(h1:behindInMarks op b=false:=by first | exact zeN _ (by decide) (by decide) | rfl):PT X (.Compare a [op] [b] pos) (tB t):=by
 intro pins s σ H Q I hw;refine wpAny_isTrue_Compare1 (thn (h pins s σ H _ I hw) λv s1 h1=>thn h1 λu s2 h2=>thn h2 λc s3 ⟨x,H1,I1,r1,q1⟩=>?_) h1;obtain⟨d,rfl,q⟩:=q1;cases r1
 exact wpAny_truthy_bool ⟨H1,I1,q⟩
theorem wC(h:PE X e t)(he:∀whole,isTrue e X.env whole=(do let v <-whole;standAt e.pos;holding [v] (truthy v)):=by intro _;rfl):PT X e (tB t):=by
 intro pins s σ H Q I hw;refine isTrue_plain (thn (h pins s σ H _ I hw) λv s1 ⟨x,H1,I1,r1,q1⟩=>?_) (he _);obtain⟨d,rfl,q⟩:=q1;cases r1
 exact wpAny_truthy_bool ⟨H1,I1,q⟩
variable {tA tB':TT} {rest:List Expr}
def zib(t u:TT):TT:=fun σ H Q=>t σ H λc H1=>if c=true then u σ H1 Q else Q false H1
def tOr(t u:TT):TT:=fun σ H Q=>t σ H λc H1=>if c=true then Q true H1 else u σ H1 Q
def zhZ(t:TT):TT:=fun σ H Q=>t σ H λc H1=>Q (!c) H1
theorem VN(ha:PT X a tA):PW X (.BoolOp .And [a] pos) tA:=by
 intro wh pins s σ H Q I h;refine isTrue_and (thn (ha pins s σ H Q I h) λc s1 e=>?_);cases c with
 |true=>exact isTrue_and_nil e
 |false=>exact e
theorem Z3(ha:PT X a tA):PW X (.BoolOp .Or [a] pos) tA:=by
 intro wh pins s σ H Q I h;refine isTrue_or (thn (ha pins s σ H Q I h) λc s1 e=>?_);cases c with
 |false=>exact isTrue_or_nil e
 |true=>exact e
theorem zav(ha:PT X a tA)(hb:PW X (.BoolOp .And (b::rest) pos) tB'):PW X (.BoolOp .And (a::b::rest) pos) (zib tA tB'):=by
 intro wh pins s σ H Q I h;refine isTrue_and (thn (ha pins s σ H _ I h) λc s1 ⟨H1,I1,q1⟩=>?_);cases c with
 |true=>exact hb wh pins s1 σ H1 Q I1 q1
 |false=>exact⟨H1,I1,q1⟩
theorem Wh(ha:PT X a tA)(hb:PW X (.BoolOp .Or (b::rest) pos) tB'):PW X (.BoolOp .Or (a::b::rest) pos) (tOr tA tB'):=by
 intro wh pins s σ H Q I h;refine isTrue_or (thn (ha pins s σ H _ I h) λc s1 ⟨H1,I1,q1⟩=>?_);cases c with
 |true=>exact⟨H1,I1,q1⟩
 |false=>exact hb wh pins s1 σ H1 Q I1 q1
theorem vP(ha:PT X a tA):PT X (.UnaryOp .Not a pos) (zhZ tA):=by
 intro pins s σ H Q I h;exact isTrue_not (ha pins s σ H (λc H1=>Q (!c) H1) I h)
def zgq(ta tb:TE):TE:=fun σ H Q=>ta σ H λx H1=>∃c,x=.bl c/\if c=true then tb σ H1 Q else Q (.bl false) H1
def zhq(ta:TE):TE:=fun σ H Q=>ta σ H λx H1=>∃c,x=.bl c/\Q (.bl (!c)) H1
theorem qW{op}(h:PE X a t):PE X (.BoolOp op [a] pos) t:=λpins s σ H Q I hw=>BoolOp_one (h pins s σ H Q I hw)
theorem qG(ha:PE X a ta)(hb:PE X (.BoolOp .And (b::rest) pos) tb):PE X (.BoolOp .And (a::b::rest) pos) (zgq ta tb):=by
 intro pins s σ H Q I h;refine BoolOp_and (thn (ha pins s σ H _ I h) λv s1 ⟨x,H1,I1,r1,q1⟩=>?_);obtain⟨c,rfl,q1⟩:=q1;cases r1
 refine wpAny_truthy_bool ?_;cases c with
 |true=>exact hb pins s1 σ H1 Q I1 q1
 |false=>exact⟨.bl false,H1,I1,rfl,q1⟩
theorem zdW(ha:PE X a ta):PE X (.UnaryOp .Not a pos) (zhq ta):=by
 intro pins s σ H Q I h;refine UnaryOp_ (thn (ha pins s σ H _ I h) λv s1 ⟨x,H1,I1,r1,q1⟩=>?_);obtain⟨c,rfl,q1⟩:=q1;cases r1
 exact not_of (wpAny_truthy_bool ⟨.bl (!c),H1,I1,rfl,q1⟩)
def tIf(t:TT)(ta tb:TE):TE:=fun σ H Q=>t σ H λc H1=>if c=true then ta σ H1 Q else tb σ H1 Q
theorem zeB(hc:PT X c tA)(ha:PE X a ta)(hb:PE X b tb):PE X (.IfExp c a b pos) (tIf tA ta tb):=by
 intro pins s σ H Q I h;refine wpAny_IfExp (thn (hc pins s σ H _ I h) λd s1 ⟨H1,I1,q1⟩=>?_);cases d with
 |true=>exact ha pins s1 σ H1 Q I1 q1
 |false=>exact hb pins s1 σ H1 Q I1 q1
end
def SqL(K:W.Frag)(H:Hp)(a:Addr)(xs:List V):Prop :=
 Rd H a (.lst xs) \/
  ∃o its n,K.lookup a=some o/\o.cls=.type "list"/\o.dict=none/\o.data=.seq its n/\its.size<=sizeLine/\Vals xs its.toList
def SqT(K:W.Frag)(H:Hp)(a:Addr)(xs:List V):Prop :=
 Rd H a (.tup xs) \/
  ∃o its n,K.lookup a=some o/\o.cls=.type "tuple"/\o.data=.seq its n/\its.size<=sizeLine/\Vals xs its.toList
def zhW:Value->Option V
 |.none=>some .non
 |.bool b=>some (.bl b)
 |.int i _=>some (.int i)
 |.str x _=>some (.str x)
 |.bytes b _=>some (.byt b)
 |.float b _=>some (.flt b)
 |.ref a=>some (.ref a)
 |.type n=>some (.ty n)
 |_=>none
theorem RelV.abs(r:RelV x u):zhW u=some x:=by
 cases x with
 |non=>cases r;rfl
 |bl _=>cases r;rfl
 |int _=>obtain⟨t,rfl⟩:=r;rfl
 |str _=>obtain⟨t,rfl⟩:=r;rfl
 |byt _=>obtain⟨t,rfl⟩:=r;rfl
 |flt _=>obtain⟨t,rfl⟩:=r;rfl
 |ref _=>cases r;rfl
 |ty _=>cases r;rfl
theorem RelV.inj(r:RelV x u)(q:RelV y u):x=y:=Option.some.inj (r.abs.symm.trans q.abs)
theorem Vals.inj:∀{xs ys:List V} {us:List Value},Vals xs us->Vals ys us->xs=ys
 |_,_,_,.nil,.nil=>rfl
 |_,_,_,.cons r t,.cons r' t'=>by rw[r.inj r',Vals.inj t t']
section
variable {X:Cx} {pins:List (Addr×Obj)} {σ:St} {H:Hp} {s:Shared} {a:Addr} {xs ys:List V}
theorem SqL.of{K:W.Frag}(h:H a=some (.lst xs)):SqL K H a xs:=.inl (.inl h)
theorem SqT.of{K:W.Frag}(h:H a=some (.tup xs)):SqT K H a xs:=.inl (.inl h)
theorem Inv.list(I:Inv X pins σ H s)(h:SqL X.K H a xs):∃its:List Value,Vals xs its/\PlainL s.heap a its.toArray/\xs.length<=sizeLine:=by
 rcases h with h | ⟨o,its,n,hk,hc,hd,hs,hz,r⟩
 ·obtain⟨z,its,n,r,e⟩:=h.ok I.hok;exact⟨its,r,⟨_,n,e,rfl,rfl,rfl⟩,z⟩
 ·refine⟨its.toList,r,⟨o,n,I.kIn a o hk,hc,hd,by simpa using hs⟩,?_⟩;have e:=r.length;simp only[Array.length_toList]at e;omega
theorem Inv.tuple(I:Inv X pins σ H s)(h:SqT X.K H a xs):∃its:List Value,Vals xs its/\IsTup s.heap a its.toArray/\xs.length<=sizeLine:=by
 rcases h with h | ⟨o,its,n,hk,hc,hs,hz,r⟩
 ·obtain⟨z,its,r,p⟩:=h.ok I.hok;exact⟨its,r,p,z⟩
 ·refine⟨its.toList,r,⟨o,I.kIn a o hk,hc,n,by simpa using hs⟩,?_⟩;have e:=r.length;simp only[Array.length_toList]at e;omega
theorem Inv.list_inj(I:Inv X pins σ H s)(h:SqL X.K H a xs)(h':SqL X.K H a ys):xs=ys:=by
 obtain⟨its,r,⟨o,n,e,_,_,d⟩,_⟩:=I.list h;obtain⟨its',r',⟨o',n',e',_,_,d'⟩,_⟩:=I.list h';rw[e]at e';cases e'
 rw[d]at d';injection d' with d1 _
 have:its=its':=by simpa using congrArg Array.toList d1
 subst this;exact r.inj r'
theorem Inv.tuple_inj(I:Inv X pins σ H s)(h:SqT X.K H a xs)(h':SqT X.K H a ys):xs=ys:=by
 obtain⟨its,r,⟨o,e,_,n,d⟩,_⟩:=I.tuple h;obtain⟨its',r',⟨o',e',_,n',d'⟩,_⟩:=I.tuple h';rw[e]at e';cases e'
 rw[d]at d';injection d' with d1 _
 have:its=its':=by simpa using congrArg Array.toList d1
 subst this;exact r.inj r'
end
abbrev Cx.wish(X:Cx)(E:Value->Shared->Prop):Cx:={ X with xe:=E }
abbrev Cx.nox(X:Cx):Cx:=X.wish λ_ _=>False
theorem Cx.Ok.wish{X:Cx}(ok:X.Ok)(E:Value->Shared->Prop):(X.wish E).Ok :=
 ⟨ok.mod,ok.kind,ok.glob,ok.blt,ok.above,ok.inj,ok.has,ok.cab,ok.hd,ok.frames,ok.stk,ok.exf,ok.bs,ok.bsz,ok.noex,ok.exfs,ok.funs,ok.frf⟩
theorem Cx.Ok.unwish{X:Cx}(ok:(X.wish E).Ok):X.Ok :=
 ⟨ok.mod,ok.kind,ok.glob,ok.blt,ok.above,ok.inj,ok.has,ok.cab,ok.hd,ok.frames,ok.stk,ok.exf,ok.bs,ok.bsz,ok.noex,ok.exfs,ok.funs,ok.frf⟩
section
variable {X:Cx} {pins:List (Addr×Obj)} {σ:St} {H:Hp} {s:Shared} {E:Value->Shared->Prop}
theorem Inv.wish(I:Inv X pins σ H s)(E:Value->Shared->Prop):Inv (X.wish E) pins σ H s:=⟨I.ok.wish E,I.os,I.bare,I.base,I.loc,I.cell,I.free,I.freeC,I.pin,I.hok,I.len⟩
theorem Inv.unwish(I:Inv (X.wish E) pins σ H s):Inv X pins σ H s:=⟨I.ok.unwish,I.os,I.bare,I.base,I.loc,I.cell,I.free,I.freeC,I.pin,I.hok,I.len⟩
theorem SP.unwish(h:SP (X.wish E) pins D f s'):SP X pins D f s':=by
 cases f with
 |next=>obtain⟨σ',H',I,q⟩:=h;exact⟨σ',H',I.unwish,q⟩
 |brk=>obtain⟨σ',H',I,q⟩:=h;exact⟨σ',H',I.unwish,q⟩
 |cont=>obtain⟨σ',H',I,q⟩:=h;exact⟨σ',H',I.unwish,q⟩
 |ret u=>obtain⟨v,σ',H',I,r,q⟩:=h;exact⟨v,σ',H',I.unwish,r,q⟩
theorem PSs.nox{st:List Stmt}(h:PSs X.nox st t):PSs X st t:=λpins s σ H D I hw=>
 wpAny_mono (h pins s σ H D (I.wish _) hw) (λ_ _ q=>q.unwish) λ_ _ z=>False.elim z
end
section
variable {X:Cx} {st:Stmt} {rest:List Stmt} {t u:TS} {e:Expr} {te:TE} {pos:Pos}
def zhn:TS:=λD σ H=>D.nx σ H
def zdx(t u:TS):TS:=λD σ H=>t { D with nx:=u D } σ H
theorem ye:PSs X [] zhn:=λ_ _ σ H _ I h=>wpAny_execs_nil ⟨σ,H,I,h⟩
theorem zp(h1:PS X st t)(h2:PSs X rest u):PSs X (st::rest) (zdx t u):=by
 intro pins s σ H D I h;refine wpAny_execs_cons (thn (h1 pins s σ H { D with nx:=u D } I h) λf s1 q=>?_);cases f with
 |next=>
  obtain⟨σ',H',I',q⟩:=q;exact h2 pins s1 σ' H' D I' q
 |ret v=>exact q
 |brk=>exact q
 |cont=>exact q
theorem zz(h1:PS X st t):PSs X [st] t:=by
 intro pins s σ H D I h;refine wpAny_execs_cons (thn (h1 pins s σ H D I h) λf s1 q=>?_);cases f with
 |next=>exact wpAny_execs_nil q
 |ret v=>exact q
 |brk=>exact q
 |cont=>exact q
theorem Inv.quiet{σ:St}(I:Inv X pins σ H s):interactive X.env=false:=by simp[interactive,I.ok.kind]
def zhd(te:TE):TS:=λD σ H=>te σ H λ_ H1=>D.nx σ H1
theorem vh(he:PE X e te)(hs:swapsWith e none pos.line X.env=pure false:=by rfl):PS X (.Expr e pos) (zhd te):=by
 intro pins s σ H D I h;exact wpAny_Expr_any (thn (he pins s σ H _ I h) λv s1 ⟨x,H1,I1,r1,q1⟩=>⟨σ,H1,I1,q1⟩) I.quiet hs
def zhs(te:TE):TS:=λD σ H=>te σ H D.rt
theorem zH(he:PE X e te):PS X (.Return (some e) pos) (zhs te):=by
 intro pins s σ H D I h;exact wpAny_Return_some (thn (he pins s σ H _ I h) λv s1 ⟨x,H1,I1,r1,q1⟩=>⟨x,σ,H1,I1,r1,q1⟩)
def zh8(c:TT)(t u:TS):TS:=λD σ H=>c σ H λb H1=>if b=true then t D σ H1 else u D σ H1
theorem yP(hc:PT X c tc)(ha:PSs X a t)(hb:PSs X b u):PS X (.If c a b pos) (zh8 tc t u):=by
 intro pins s σ H D I h;refine wpAny_If (thn (hc pins s σ H _ I h) λd s1 ⟨H1,I1,q1⟩=>?_);cases d with
 |true=>exact ha pins s1 σ H1 D I1 q1
 |false=>exact hb pins s1 σ H1 D I1 q1
end
abbrev TG:=V->St->Hp->(St->Hp->Prop)->Prop
abbrev TGs:=List V->St->Hp->(St->Hp->Prop)->Prop
def PG(X:Cx)(target:Expr)(t:TG):Prop :=
 ∀(pins:List (Addr×Obj)) (s:Shared) (σ:St) (H:Hp) (v:V) (u:Value) (Q:St->Hp->Prop),Inv X pins σ H s->RelV v u->t v σ H Q ->
  wpAny (model X.prog X.w) X.A (assign target X.env u) (λ_ s'=>∃σ' H',Inv X pins σ' H' s'/\Q σ' H') X.xe s
def PGs(X:Cx)(ts:List Expr)(t:TGs):Prop :=
 ∀(pins:List (Addr×Obj)) (s:Shared) (σ:St) (H:Hp) (vs:List V) (us:List Value) (Q:St->Hp->Prop),Inv X pins σ H s->Vals vs us->t vs σ H Q ->
  wpAny (model X.prog X.w) X.A (assignInOrder ((assignEach ts X.env).map (·.2)) us) (λ_ s'=>∃σ' H',Inv X pins σ' H' s'/\Q σ' H') X.xe s
abbrev zgH:=V->V->V->Hp->(Hp->Prop)->Prop
def zhC(X:Cx)(t:zgH):Prop :=
 ∀(pins:List (Addr×Obj)) (s:Shared) (σ:St) (H:Hp) (o i v:V) (ov iv u:Value) (Q:Hp->Prop),Inv X pins σ H s->RelV o ov->RelV i iv->RelV v u->t o i v H Q ->
  wpAny (model X.prog X.w) X.A (setItem ov iv u) (λ_ s'=>∃H',Inv X pins σ H' s'/\Q H') X.xe s
abbrev TIp:=V->V->Hp->VK->Prop
def PIp(X:Cx)(op:Operator)(t:TIp):Prop :=
 ∀(pins:List (Addr×Obj)) (s:Shared) (σ:St) (H:Hp) (x y:V) (v u:Value) (Q:VK),Inv X pins σ H s->RelV x v->RelV y u->t x y H Q ->
  wpAny (model X.prog X.w) X.A (inplaceOp op v u) (EP X pins σ Q) X.xe s
section
variable {X:Cx} {pos:Pos}
def ZV(i:Nat):TG:=λv σ H Q=>Q (σ.set i (some v)) H
theorem yh(hN:X.N.Nodup)(hi:X.N[i]?=some x)(hx:Loc X.env.scope x)(hf:X.fn x=true\/X.env.scope.names.lookup x=some .local:=by first | exact .inl rfl | exact .inr rfl | assumption):PG X (.Name x pos) (ZV i):=by
 intro pins s σ H v u Q I r h;exact wpAny_assign_Name (Ww I hN hi hx r (λs' I'=>⟨_,H,I',h⟩) hf)
def zh5:TGs:=λvs σ H Q=>vs=[]/\Q σ H
def zhJ(t:TG)(u:TGs):TGs:=λvs σ H Q=>Ex2 λv r=>vs=v::r/\t v σ H fun σ' H'=>u r σ' H' Q
theorem Zk:PGs X [] zh5:=by
 intro pins s σ H vs us Q I r h;obtain⟨e,h⟩:=h;subst e;cases r
 exact assignInOrder_nil ⟨σ,H,I,h⟩
theorem xN(h1:PG X e t)(h2:PGs X es u)(hs:(assignEach (e::es) X.env).map (·.2)=assign e X.env::(assignEach es X.env).map (·.2):=by rfl):PGs X (e::es) (zhJ t u):=by
 intro pins s σ H vs us Q I r h;obtain⟨v,vr,e1,h⟩:=h;subst e1;cases r with
 |cons r rr=>
  rw[hs];refine assignInOrder_cons (thn (h1 pins s σ H _ _ _ I r h) λ_ s1 ⟨σ1,H1,I1,q1⟩=>?_);exact h2 pins s1 σ1 H1 _ _ Q I1 rr q1
def zhP(K:W.Frag)(n:Nat)(t:TGs):TG:=λv σ H Q=>Ex2 λa xs=>v=.ref a/\SqT K H a xs/\xs.length=n/\t xs σ H Q
theorem XC{k:Nat}(hc:X.calm=true)(h:PGs X es t)(hn:(assignEach es X.env).length=n:=by rfl)(hst:(assignEach es X.env).findIdx? (·.1)=none:=by rfl):PG X (.Tuple es k pos) (zhP X.K n t):=by
 intro pins s σ H v u Q I r hw;obtain⟨a,xs,e1,hq,hl,hw⟩:=hw;subst e1;cases r
 obtain⟨its,rv,ht,hz⟩:=I.tuple hq;refine assign_Tuple_tuple (I.ok.hd hc) ht (by simp[hn,<-hl,rv.length]) hst λh' hx=>?_;have I1:=I.kept (t':=s.toks) λb o e=>hx b o (Nat.ne_of_lt (Heap.lt_size e)) e;exact h pins _ σ H xs _ Q I1 (by simpa using rv) hw
def zid(to ti:TE)(t:zgH):TG:=λv σ H Q=>to σ H λo H1=>ti σ H1 λi H2=>t o i v H2 λH3=>Q σ H3
theorem zbL(ho:PE X o to)(hi:PE X i ti)(hs:zhC X t)(ha:∀v,assign (.Subscript o i pos) X.env v=(do
   let ov <-holding [v] (eval o X.env);let iv <-holding [v,ov] (eval i X.env)
   standAt pos
   holding [v,ov,iv] (setItem ov iv v)
   release [v,ov,iv] []):=by intro _;rfl):PG X (.Subscript o i pos) (zid to ti t):=by
 intro pins s σ H v u Q I r h;refine wpAny_bind (wpAny_holding (thn (ho pins s σ H _ I h) λov s1 ⟨x,H1,I1,r1,q1⟩=>?_));refine wpAny_bind (wpAny_holding (thn (hi pins s1 σ H1 _ I1 q1) λiv s2 ⟨y,H2,I2,r2,q2⟩=>?_));refine wpAny_bind (wpAny_standAt (wpAny_bind (wpAny_holding (thn (hs pins s2 σ H2 x y v ov iv u _ I2 r1 r2 r q2) λ_ s3 ⟨H3,I3,q3⟩=>?_))));exact wpAny_release ⟨σ,H3,I3,q3⟩
def Qp(te:TE)(g:TG):TS:=λD σ H=>te σ H λx H1=>g x σ H1 D.nx
theorem Xp(he:PE X e te)(hg:PG X tg g)(hs:swapsWithSole [tg] e pos.line X.env=pure false:=by rfl)(hw:swappedStores [tg] e X.env=pure none:=by rfl)(h1:(assignEach [tg] X.env).map (·.2)=[assign tg X.env]:=by rfl):PS X (.Assign [tg] e pos) (Qp te g):=by
 intro pins s σ H D I h;refine wpAny_Assign_stores (thn (he pins s σ H _ I h) λv s1 ⟨x,H1,I1,r1,q1⟩=>?_) hs hw;rw[h1];exact thn (hg pins s1 σ H1 x v _ I1 r1 q1) λ_ s2 q=>q
theorem zG(hN:X.N.Nodup)(hi:X.N[i]?=some x)(hx:Loc X.env.scope x)(he:PE X e te)(hs:swapsWith e (some (.Name x pos')) pos.line X.env=pure false:=by rfl)(hf:X.fn x=true\/X.env.scope.names.lookup x=some .local:=by first | exact .inl rfl | exact .inr rfl | assumption):
  PS X (.Assign [.Name x pos'] e pos) (Qp te (ZV i)):=by
 intro pins s σ H D I h;refine wpAny_Assign_Name (thn (he pins s σ H _ I h) λv s1 ⟨y,H1,I1,r1,q1⟩=>?_) hs;exact Ww I1 hN hi hx r1 (λs2 I2=>⟨_,H1,I2,q1⟩) hf
def zhX(i:Nat)(te:TE)(ti:TIp):TS:=λD σ H=>∃x,σ[i]?=some (some x)/\te σ H λy H1=>ti x y H1 λz H2=>D.nx (σ.set i (some z)) H2
theorem zgT(hN:X.N.Nodup)(hi:X.N[i]?=some x)(hx:Loc X.env.scope x)(he:PE X e te)(ho:PIp X op ti)(hf:X.fn x=true\/X.env.scope.names.lookup x=some .local:=by first | exact .inl rfl | exact .inr rfl | assumption):
  PS X (.AugAssign (.Name x pos') op e pos) (zhX i te ti):=by
 intro pins s σ H D I h;obtain⟨v,e1,h⟩:=h;obtain⟨m,hn,hl⟩:=I.loc;have vis:Vis X.env.scope x:=by rcases hx with k | k;exact .inl k;exact .inr (.inl k)
 obtain⟨u,r,l⟩:=hl i x v hi e1 vis;refine wpAny_AugAssign_Name ?_;have go:wpAny (model X.prog X.w) X.A (eval e X.env) (λw s₂=>wpAny (model X.prog X.w) X.A (inplaceOp op u w) (λr s₃=>wpAny (model X.prog X.w) X.A (storeName X.env x r) (λ_=>SP X pins D .next) X.xe s₃) X.xe s₂) X.xe s:=by
  refine thn (he pins s σ H _ I h) λw s1 ⟨y,H1,I1,r1,q1⟩=>?_;refine thn (ho pins s1 σ H1 v y u w _ I1 r r1 q1) λz s2 ⟨zv,H2,I2,r2,q2⟩=>?_;exact Ww I2 hN hi hx r2 (λs3 I3=>⟨_,H2,I3,q2⟩) hf
 rcases l with ⟨hk,hm⟩ | ⟨hk,c,hc,hcell⟩
 ·exact wpAny_loadName_local I.ok.kind hk hn hm go
 ·rcases hk with hk | hk
  ·exact wpAny_loadName_cell I.ok.kind hk hc hcell go
  ·rcases hx with k | k
   ·have:X.env.scope.names.lookup x=some .free:=hk;rw[k]at this;cases this
   ·have:X.env.scope.names.lookup x=some .free:=hk;rw[k]at this;cases this
def ipI(f:Int->Int->Int):TIp:=λx y H Q=>Ex2 λi j=>x=.int i/\y=.int j/\Q (.int (f i j)) H
theorem zg6:PIp X .Add (ipI λi j=>i+j):=by
 intro pins s σ H x y v u Q I r1 r2 h;obtain⟨i,j,e1,e2,q⟩:=h;subst e1;subst e2;obtain⟨t,rfl⟩:=r1;obtain⟨t',rfl⟩:=r2;exact iadd_int ⟨.int _,H,I.tok _,⟨_,rfl⟩,q⟩
def zb6(c:TT)(tb:TS):TS:=λD σ H=>∃W:Nat->St->Hp->Prop,(∃m,W m σ H)/\∀m σ H,W m σ H ->
 c σ H λb H1=>if b=true then ∃N:St->Hp->Prop,(∀σ' H',N σ' H'->∃m',m'<m/\W m' σ' H')/\tb { D with nx:=N,ct:=N,bk:=D.nx } σ H1 else D.nx σ H1
theorem X5(hp:PassesOwn (model X.prog X.w) X.A X.env X.xe)(hc:PT X c tc)(hb:PSs X body tb):PS X (.While c body [] pos) (zb6 tc tb):=by
 intro pins s σ H D I h;obtain⟨W,⟨m0,w0⟩,turn⟩:=h;refine wpAny_While (codeAny_whileLoop (λn s'=>∃σ' H',Inv X pins σ' H' s'/\W n σ' H') ?_ m0 ⟨σ,H,I,w0⟩);rintro n s1 ⟨σ1,H1,I1,w1⟩;refine wpAny_passesOwn hp (thn (hc pins s1 σ1 H1 _ I1 (turn n σ1 H1 w1)) λb s2 ⟨H2,I2,q2⟩=>?_);cases b with
 |true=>
  obtain⟨N,hN,q2⟩:=q2;refine wpAny_passesOwn hp (thn (hb pins s2 σ1 H2 _ I2 q2) λf s3 q3=>?_);cases f with
  |next=>
   obtain⟨σ3,H3,I3,n3⟩:=q3;obtain⟨m',hm,w3⟩:=hN σ3 H3 n3;exact⟨m',hm,σ3,H3,I3,w3⟩
  |cont=>
   obtain⟨σ3,H3,I3,n3⟩:=q3;obtain⟨m',hm,w3⟩:=hN σ3 H3 n3;exact⟨m',hm,σ3,H3,I3,w3⟩
  |brk=>exact q3
  |ret v=>exact q3
 |false=>
  exact wpAny_execs_nil ⟨σ1,H2,I2,q2⟩
end
structure It where
 go:Nat->Hp->Prop
 yld:Nat->Hp->V->Hp->Prop
 stop:Nat->Hp->Prop
def W7(X:Cx)(pins:List (Addr×Obj))(H:Hp)(b:Addr):Prop :=
 H b=none/\b≠X.env.locals/\b∉X.fs/\(b∈X.ex\/X.s₀.heap.objs.size<=b)/\(∀x c,X.env.cells.lookup x=some c->c≠b)/\∀p∈X.pn++pins,p.1≠b
theorem Inv.fpOk{σ:St}{b:Addr}(I:Inv X pins σ H s)(hb:s.heap.objs.size<=b)(hn:H' b=none):W7 X pins H' b:=by
 refine⟨hn,Nat.ne_of_gt (Nat.lt_of_lt_of_le I.lt hb),I.nofs hb,.inr (Nat.le_trans I.sz hb),λx c e z=>?_,λp hp z=>?_⟩
 ·obtain⟨v,q⟩:=I.cell x c e;exact absurd (Nat.lt_of_lt_of_le q.lt (by rw[z];exact hb)) (Nat.lt_irrefl _)
 ·exact absurd (Nat.lt_of_lt_of_le (Heap.lt_size (I.pin p hp).1) (by rw[z];exact hb)) (Nat.lt_irrefl _)
structure Turn (P:Program) (w:World) (K:W.Frag) (tg:Expr) (J:It) (fp:List Addr) (it:Addr) (tn:Nat->Heap->Prop):Prop where
 mem:it∈fp
 obj:∀i h,tn i h->∀b∈fp,∃o,h.get? b=some o/\∀v,o.data≠.cell v
 keep:∀i h h',tn i h->(∀b∈fp,∀o,h.get? b=some o->h'.get? b=some o)->tn i h'
 item:∀(X:Cx),X.prog=P->X.w=w->X.K=K->X.calm=true->∀(i:Nat) (pins:List (Addr×Obj)) (s:Shared) (σ:St) (H:Hp) (E:Value->Shared->Prop),Inv X pins σ H s->(∀b∈fp,W7 X pins H b)->tn i s.heap->J.go i H ->
  wpAny (model P w) X.A (pyNext (.ref it)) (λr s1=>∃u,r=some u /\
   wpAny (model P w) X.A (letOwnedTupleGo tg (.ref it) u) (λ_ s2=>∃x H',Inv X pins σ H' s2/\RelV x u/\J.yld i H x H'/\tn (i+1) s2.heap/\∀b∈fp,H' b=none) E s1) E s
 done:∀(X:Cx),X.prog=P->X.w=w->X.K=K->X.calm=true->∀(i:Nat) (pins:List (Addr×Obj)) (s:Shared) (σ:St) (H:Hp) (E:Value->Shared->Prop),Inv X pins σ H s->(∀b∈fp,W7 X pins H b)->tn i s.heap->J.stop i H ->
  wpAny (model P w) X.A (pyNext (.ref it)) (λr s1=>r=none/\Inv X pins σ H s1) E s
 self:∀(A:Around) (i:Nat) (s:Shared) (Q:Value->Shared->Prop) (E:Value->Shared->Prop),tn i s.heap->Q (.ref it) s->wpAny (model P w) A (pyIter (.ref it)) Q E s
abbrev TI:=St->Hp->(It->Hp->Prop)->Prop
def PIE(X:Cx)(pins:List (Addr×Obj))(σ:St)(tg:Expr)(R:It->Hp->Prop)(itv:Value)(s2:Shared):Prop :=
 ∃it fp tn J H',itv=.ref it/\Inv X pins σ H' s2/\Turn X.prog X.w X.K tg J fp it tn/\tn 0 s2.heap/\(∀b∈fp,W7 X pins H' b)/\R J H'
def PI(X:Cx)(tg iter:Expr)(wi:TI):Prop :=
 ∀(pins:List (Addr×Obj)) (s:Shared) (σ:St) (H:Hp) (R:It->Hp->Prop),Inv X pins σ H s->wi σ H R ->
  wpAny (model X.prog X.w) X.A (eval iter X.env) (λv s1=>wpAny (model X.prog X.w) X.A (pyIter v) (PIE X pins σ tg R) X.xe s1) X.xe s
theorem ze0(ho:s.heap.get? it=some o)(hc:o.cls=.type n)(hd:o.data=.fields vs)(hn:["enumerate","zip","dict_itemiterator","dict_reverseitemiterator","odict_iterator","itertools.zip_longest","itertools.pairwise"].contains n=false)(hQ:Q () s):wpAny M A (letOwnedTupleGo tg (.ref it) u) Q E s:=by
  cases tg<;>first
    |exact wpAny_pure hQ
    | (cases u<;>first
        |exact wpAny_pure hQ
        | (refine wpAny_bind (wpAny_load ho ?_)
           rw[hc,hd];show wpAny M A (if (["enumerate","zip","dict_itemiterator","dict_reverseitemiterator","odict_iterator","itertools.zip_longest","itertools.pairwise"].contains n && vs[0]? == some (rawInt _))=true then _ else _) Q E s;rw[if_neg (by intro h;rw[hn,Bool.false_and]at h;cases h)];exact wpAny_pure hQ))
def Itl(K:W.Frag)(a:Addr):It :=
 ⟨λi H=>∃xs x,SqL K H a xs/\xs[i]?=some x,λi H x H'=>H'=H/\∀xs,SqL K H a xs->xs[i]?=some x,λi H=>∃xs,SqL K H a xs/\xs.length<=i⟩
def Itr(lo:Int)(n:Nat):It:=⟨λi _=>i<n,λi H x H'=>H'=H/\x=.int (lo+i),λi _=>n<=i⟩
theorem zdj{P:Program}{w:World}{K:W.Frag}{tg:Expr}(a it:Addr):Turn P w K tg (Itl K a) [it] it (λi h=>h.IsListIter it a i) where
 mem:=by simp
 obj:=λi h st b hb=>by
  have e:b=it:=by simpa using hb
  subst e;obtain⟨o,e,c,d⟩:=st;exact⟨o,e,λv z=>by rw[d]at z;cases z⟩
 keep:=λi h h' st k=>st.at λo e=>k it (by simp) o e
 item:=by
  intro X hP hw hK hc i pins s σ H E I hf st hg;subst hP hw hK;obtain⟨xs,x,hq,hx⟩:=hg;obtain⟨its,rv,p,hz⟩:=I.list hq;obtain⟨u,hu,ru⟩:=rv.get hx;obtain⟨f0,f1,f2,f3,f4,f5⟩:=hf it (by simp);refine wpAny_pyNext_list_item st p.isList (by simpa using hu) λh' st' sb=>?_;have I1:=I.turned (t':=s.toks) (λb o hb e=>(sb.2 b hb).trans e) f0 f1 f3 f4 f5;obtain⟨o,e,c,d⟩:=id st';exact⟨u,rfl,ze0 e c d (by decide) ⟨x,H,I1,ru,⟨rfl,λys hy=>by rw[I.list_inj hy hq];exact hx⟩,st',λb hb=>(hf b hb).1⟩⟩
 done:=by
  intro X hP hw hK hc i pins s σ H E I hf st hg;subst hP hw hK;obtain⟨xs,hq,hx⟩:=hg;obtain⟨its,rv,p,hz⟩:=I.list hq;obtain⟨f0,f1,f2,f3,f4,f5⟩:=hf it (by simp);have hl:=rv.length;exact wpAny_pyNext_list_end (I.ok.hd hc) st p.isList (by simp;omega) λh' eb=>⟨rfl,I.turned (λb o hb e=>eb b o hb e) f0 f1 f3 f4 f5⟩
 self:=λ_ _ _ _ _ st h=>wpAny_pyIter_listiter st h
theorem zbD{P:Program}{w:World}{K:W.Frag}{tg:Expr}(it:Addr)(lo:Int)(n:Nat):Turn P w K tg (Itr lo n) [it] it (λi h=>IsRangeIter h it (lo+(i:Nat)*1) ((n:Int)-(i:Nat)) 1) where
 mem:=by simp
 obj:=λi h st b hb=>by
  have e:b=it:=by simpa using hb
  subst e;exact⟨_,st,λv z=>by
   have z':=z;cases z'⟩
 keep:=λi h h' st k=>k it (by simp) _ st
 item:=by
  intro X hP hw hK hc i pins s σ H E I hf st hg;subst hP hw hK;obtain⟨f0,f1,f2,f3,f4,f5⟩:=hf it (by simp);have W:=Walks.range (prog:=X.prog) (w:=X.w) (I.ok.hd hc) it lo 1 n;refine W.item i s _ _ hg st λv h' tk hv st' kk=>?_;obtain⟨t,rfl⟩:=hv;have I1:Inv X pins σ H { s with heap:=h',toks:=tk }:=I.turned (λb o hb e=>kk b o (by simpa using hb) e) f0 f1 f3 f4 f5;refine⟨_,rfl,ze0 st' rfl rfl (by decide) ⟨.int (lo+i),H,I1,⟨t,?_⟩,⟨rfl,rfl⟩,st',λb hb=>(hf b hb).1⟩⟩;rw[Int.mul_one]
 done:=by
  intro X hP hw hK hc i pins s σ H E I hf st hg;subst hP hw hK;obtain⟨f0,f1,f2,f3,f4,f5⟩:=hf it (by simp);exact wpAny_pyNext_range_end (I.ok.hd hc) st (by have:n<=i:=hg;omega) λh' eb=>⟨rfl,I.turned (λb o hb e=>eb b o hb e) f0 f1 f3 f4 f5⟩
 self:=λ_ _ _ _ _ st h=>wpAny_pyIter_rangeiter st h
section
variable {X:Cx} {tg:Expr}
def zgl(K:W.Frag)(tl:TE):TI:=fun σ H R=>tl σ H λx H1=>∃a,x=.ref a/\(∃xs,SqL K H1 a xs)/\R (Itl K a) H1
theorem zfR(hl:PE X l tl):PI X tg l (zgl X.K tl):=by
 intro pins s σ H R I h;refine thn (hl pins s σ H _ I h) λv s1 ⟨x,H1,I1,r1,q1⟩=>?_;obtain⟨a,e,⟨xs,hq⟩,q⟩:=q1;subst e;cases r1
 obtain⟨its,rv,p,hz⟩:=I1.list hq;refine wpAny_pyIter_list p.isList ?_;refine⟨s1.heap.objs.size,[s1.heap.objs.size],_,_,H1,rfl,I1.kept λb o e=>Heap.get?_push_of_some _ e,zdj a _,⟨_,Heap.get?_push_size _ rfl,rfl,rfl⟩,λb hb=>?_,q⟩;have e:b=s1.heap.objs.size:=by simpa using hb
 subst e;exact I1.fpOk (Nat.le_refl _) (I1.hok.fresh (Nat.le_refl _))
theorem zaG{σ:St}{lo hi:Int}(I:Inv X pins σ H s)(h1:-(2^62)<=lo)(h2:lo<2^62)(h3:-(2^62)<=hi)(h4:hi<2^62)(q:R (Itr lo (hi-lo).toNat) H):wpAny (model X.prog X.w) X.A (pyIter (.ref s.heap.objs.size)) (PIE X pins σ tg R) E { s with heap:=s.heap.push { cls:=.type "range",data:=.fields #[.int lo t,.int hi u,.int 1 v] },toks:=tk }:=by
 refine wpAny_pyIter_range (IsRange.new ..) (small_one h1 h2 h3 h4) ?_;have I1:Inv X pins σ H { s with heap:=s.heap.push { cls:=.type "range",data:=.fields #[.int lo t,.int hi u,.int 1 v] },toks:=tk }:=I.kept λb o e=>Heap.get?_push_of_some _ e;refine⟨(s.heap.push { cls:=.type "range",data:=.fields #[.int lo t,.int hi u,.int 1 v] }).objs.size,[(s.heap.push { cls:=.type "range",data:=.fields #[.int lo t,.int hi u,.int 1 v] }).objs.size],_,_,H,rfl,
  I1.kept λb o e=>Heap.get?_push_of_some _ e,zbD _ lo (hi-lo).toNat,?_,λb hb=>?_,q⟩
 ·have e1:lo+((0:Nat))*1=lo:=by simp
  have e2:(((hi-lo).toNat:Nat))-((0:Nat))=Builtin.Range.rangeSize lo hi 1:=by rw[rangeSize_one];split<;>omega
  rw[e1,e2];exact Heap.get?_push_size _ rfl
 ·have e:b=(s.heap.push { cls:=.type "range",data:=.fields #[.int lo t,.int hi u,.int 1 v] }).objs.size:=by simpa using hb
  subst e;exact I1.fpOk (Nat.le_refl _) (I1.hok.fresh (Nat.le_refl _))
def zhx(ta:TA):TI:=fun σ H R=>ta σ H λvs H1=>∃j:Int,vs=[.int j]/\-(2^62)<=j/\j<2^62/\R (Itr 0 j.toNat) H1
def zhe(ta:TA):TI:=fun σ H R=>ta σ H λvs H1=>Ex2 λi j=>vs=[.int i,.int j]/\(-(2^62)<=i/\i<2^62/\-(2^62)<=j/\j<2^62)/\R (Itr i (j-i).toNat) H1
theorem yK(hg:Gl X "range")(hm:X.mg "range"= none)(ha:PA X [a] ta)(hs:starEach [a] X.env=[(false,eval a X.env)]:=by rfl):PI X tg (.Call (.Name "range" p) [a] [] pos) (zhx ta):=by
 intro pins s σ H R I h;refine Call_ (jD I hg hm boot_range (PyProof.Rows.callWith_type1 (thn (ha pos pins s σ H _ I h) λus s1 ⟨vs,H1,I1,r1,q1⟩=>?_) hs rfl));obtain⟨j,e,q1,q2,q⟩:=q1;subst e;cases r1 with
 |cons r rr=>
  cases rr;obtain⟨t,rfl⟩:=r
  exact call_range_1 (zaG I1 (by omega) (by omega) q1 q2 (by simpa using q))
theorem Jq{p pos:Pos}(hg:Gl X "range")(hm:X.mg "range"= none)(ha:PA X [a,b] ta)(hs:starEach [a,b] X.env=[(false,eval a X.env),(false,eval b X.env)]:=by rfl)(hs2:starEach [b] X.env=[(false,eval b X.env)]:=by rfl):
  PI X tg (.Call (.Name "range" p) [a,b] [] pos) (zhe ta):=by
 intro pins s σ H R I h;refine Call_ (jD I hg hm boot_range (PyProof.Rows.callWith_type1 (thn (ha pos pins s σ H _ I h) λus s1 ⟨vs,H1,I1,r1,q1⟩=>?_) (by rw[hs,hs2]) (by rw[hs2];rfl)));obtain⟨i,j,e,⟨q1,q2,q3,q4⟩,q⟩:=q1;subst e;cases r1 with
 |cons r rr=>
  cases rr with
  |cons r' rr=>
   cases rr;obtain⟨t,rfl⟩:=r
   obtain⟨t',rfl⟩:=r';exact call_range_2 (zaG I1 q1 q2 q3 q4 q)
def zh4(wi:TI)(g:TG)(tb:TS):TS:=λD σ H=>wi σ H λJ H1=>∃W:Nat->Nat->St->Hp->Prop,(∃m,W 0 m σ H1)/\∀i m σ H,W i m σ H ->
 (J.stop i H/\D.nx σ H)\/(J.go i H/\∃N:St->Hp->Prop,(∀σ' H',N σ' H'->∃m',m'<m/\W (i+1) m' σ' H')/\∀x H',J.yld i H x H'->g x σ H' fun σ2 H2=>tb { D with nx:=N,ct:=N,bk:=D.nx } σ2 H2)
def WM(fp:List Addr)(h:Heap):List (Addr×Obj):=fp.filterMap λb=>(h.get? b).map λo=>(b,o)
theorem XF(hb:b∈fp)(e:h.get? b=some o):(b,o)∈WM fp h:=List.mem_filterMap.mpr ⟨b,hb,by rw[e];rfl⟩
theorem zc9(hp:p∈WM fp h):p.1∈fp/\h.get? p.1=some p.2:=by
 obtain⟨b,hb,e⟩:=List.mem_filterMap.mp hp;cases q:h.get? b with
 |none=>rw[q]at e;cases e
 |some o=>
  rw[q]at e;have e':=Option.some.inj e;subst e';exact⟨hb,q⟩
theorem Inv.pinned{σ:St}(I:Inv X pins σ H s)(hf:∀b∈fp,W7 X pins H b)(ho:∀b∈fp,∃o,s.heap.get? b=some o/\∀v,o.data≠.cell v):Inv X (pins++WM fp s.heap) σ H s :=
 I.pins_of λp hp=>(List.mem_append.mp hp).elim (λz=>I.pin p (List.mem_append_right _ z)) λz=>by
  obtain⟨hb,e⟩:=zc9 z;obtain⟨f0,f1,f2,_⟩:=hf p.1 hb;obtain⟨o,e',d⟩:=ho p.1 hb;rw[e]at e';cases e'
  exact⟨e,f0,f1,f2,d⟩
theorem Inv.unpinned{σ:St}(I:Inv X (pins++pl) σ H s):Inv X pins σ H s:=I.pins_of λp hp=>I.pin p (List.mem_append_right _ (List.mem_append_left _ hp))
theorem uB(hp:PassesOwn (model X.prog X.w) X.A X.env X.xe)(hc:X.calm=true)(hi:PI X tg iter wi)(hg:PG X tg g)(hb:PSs X body tb)(hs:∀x,foldedSetIterable iter X.env x=pure x:=by intro _;rfl):PS X (.For tg iter body [] pos) (zh4 wi g tb):=by
 intro pins s σ H D I h;refine wpAny_For (thn (hi pins s σ H _ I h) λv s1 h1=>thn h1 λitv s2 h2=>?_) hs;obtain⟨it,fp,tn,J,H2,e,I2,T,st2,f2,W,⟨m0,w0⟩,turn⟩:=h2;subst e;have stat:∀{H':Hp},(∀b∈fp,H' b=none)->∀b∈fp,W7 X pins H' b:=λhn b hb=>⟨hn b hb,(f2 b hb).2⟩
 refine codeAny_forLoop_any (λn s'=>∃i σ' H',Inv X pins σ' H' s'/\tn i s'.heap/\(∀b∈fp,H' b=none)/\W i n σ' H') ?_ m0 ⟨0,σ,H2,I2,st2,λb hb=>(f2 b hb).1,w0⟩;rintro n s3 ⟨i,σ3,H3,I3,st3,fr3,w3⟩;rcases turn i n σ3 H3 w3 with ⟨stop,qn⟩ | ⟨go,N,hN,step⟩
 ·refine wpAny_passesOwn hp (thn (T.done X rfl rfl rfl hc i pins s3 σ3 H3 X.xe I3 (stat fr3) st3 stop) λr s4 ⟨hr,I4⟩=>?_);subst hr;exact wpAny_execs_nil ⟨σ3,H3,I4,qn⟩
 ·refine wpAny_passesOwn hp (thn (T.item X rfl rfl rfl hc i pins s3 σ3 H3 X.xe I3 (stat fr3) st3 go) λr s4 ⟨u,hr,h4⟩=>?_);subst hr;refine wpAny_passesOwn hp (thn h4 λ_ s5 ⟨x,H5,I5,r5,y5,st5,fr5⟩=>?_);have I5':=I5.pinned (stat fr5) (T.obj _ _ st5);refine wpAny_passesOwn hp (thn (hg _ s5 σ3 H5 x u _ I5' r5 (step x H5 y5)) λ_ s6 ⟨σ6,H6,I6,q6⟩=>?_);refine wpAny_passesOwn hp (thn (hb _ s6 σ6 H6 _ I6 q6) λf s7 q7=>?_);have again:∀{σ7:St} {H7:Hp},Inv X (pins++WM fp s5.heap) σ7 H7 s7->N σ7 H7->∃m,m<n/\∃i σ' H',Inv X pins σ' H' s7/\tn i s7.heap/\(∀b∈fp,H' b=none)/\W i m σ' H':=λ{σ7 H7} I7 n7=>by
   obtain⟨m',hm,w7⟩:=hN σ7 H7 n7;refine⟨m',hm,i+1,σ7,H7,I7.unpinned,T.keep _ _ _ st5 λb hb o e=>(I7.pin (b,o) (List.mem_append_right _ (List.mem_append_right _ (XF hb e)))).1,λb hb=>?_,w7⟩;obtain⟨o,e,d⟩:=T.obj _ _ st5 b hb;exact (I7.pin (b,o) (List.mem_append_right _ (List.mem_append_right _ (XF hb e)))).2.1
  cases f with
  |next=>obtain⟨σ7,H7,I7,n7⟩:=q7;exact again I7 n7
  |cont=>obtain⟨σ7,H7,I7,n7⟩:=q7;exact again I7 n7
  |brk=>obtain⟨σ7,H7,I7,q7⟩:=q7;exact⟨σ7,H7,I7.unpinned,q7⟩
  |ret v=>obtain⟨x7,σ7,H7,I7,r7,q7⟩:=q7;exact⟨x7,σ7,H7,I7.unpinned,r7,q7⟩
end
theorem zaN{K:W.Frag}{g:TG}{tb:TS}{D:Ends}(Pv:Nat->St->Hp->Prop)(h0:Pv 0 σ H)(hl:∀i σ H,i<=xs.length->Pv i σ H->SqL K H a xs)(hs:∀i x σ H,xs[i]?=some x->Pv i σ H->g x σ H fun σ2 H2=>tb { D with nx:=Pv (i+1),ct:=Pv (i+1),bk:=D.nx } σ2 H2)(hd:∀σ H,Pv xs.length σ H->D.nx σ H):
  ∃W:Nat->Nat->St->Hp->Prop,(∃m,W 0 m σ H)/\∀i m σ H,W i m σ H ->
   ((Itl K a).stop i H/\D.nx σ H)\/((Itl K a).go i H/\∃N:St->Hp->Prop,(∀σ' H',N σ' H'->∃m',m'<m/\W (i+1) m' σ' H')/\∀x H',(Itl K a).yld i H x H'->g x σ H' fun σ2 H2=>tb { D with nx:=N,ct:=N,bk:=D.nx } σ2 H2):=by
 refine⟨λi m σ H=>m=xs.length-i/\i<=xs.length/\Pv i σ H,⟨xs.length,by simp,Nat.zero_le _,h0⟩,?_⟩;rintro i m σ H ⟨rfl,hi,p⟩;have q:=hl i σ H hi p;by_cases hlt:i<xs.length
 ·refine .inr ⟨⟨xs,xs[i],q,by simp[hlt]⟩,Pv (i+1),fun σ' H' p'=>⟨xs.length-(i+1),by omega,rfl,hlt,p'⟩,λx H' y=>?_⟩;obtain⟨e,y⟩:=y;subst e;exact hs i x σ _ (y xs q) p
 ·have e:i=xs.length:=by omega
  subst e;exact .inl ⟨⟨xs,q,Nat.le_refl _⟩,hd σ H p⟩
theorem vm{lo:Int}{g:TG}{tb:TS}{D:Ends}(Pv:Nat->St->Hp->Prop)(h0:Pv 0 σ H)(hs:∀i σ H,i<n->Pv i σ H->g (.int (lo+i)) σ H fun σ2 H2=>tb { D with nx:=Pv (i+1),ct:=Pv (i+1),bk:=D.nx } σ2 H2)(hd:∀σ H,Pv n σ H->D.nx σ H):
  ∃W:Nat->Nat->St->Hp->Prop,(∃m,W 0 m σ H)/\∀i m σ H,W i m σ H ->
   ((Itr lo n).stop i H/\D.nx σ H)\/((Itr lo n).go i H/\∃N:St->Hp->Prop,(∀σ' H',N σ' H'->∃m',m'<m/\W (i+1) m' σ' H')/\∀x H',(Itr lo n).yld i H x H'->g x σ H' fun σ2 H2=>tb { D with nx:=N,ct:=N,bk:=D.nx } σ2 H2):=by
 refine⟨λi m σ H=>m=n-i/\i<=n/\Pv i σ H,⟨n,by simp,Nat.zero_le _,h0⟩,?_⟩;rintro i m σ H ⟨rfl,hi,p⟩;by_cases hlt:i<n
 ·refine .inr ⟨hlt,Pv (i+1),fun σ' H' p'=>⟨n-(i+1),by omega,rfl,hlt,p'⟩,λx H' y=>?_⟩;obtain⟨e,y⟩:=y;subst e y;exact hs i σ _ hlt p
 ·have e:i=n:=by omega
  subst e;exact .inl ⟨Nat.le_refl _,hd σ H p⟩
theorem V6(Pv:St->Hp->Prop)(μ:St->Hp->Nat)(h0:Pv σ H)(hs:∀σ H,Pv σ H->c σ H λb H1=>if b=true then tb { D with nx:=fun σ' H'=>Pv σ' H'/\μ σ' H'<μ σ H,ct:=fun σ' H'=>Pv σ' H'/\μ σ' H'<μ σ H,bk:=D.nx } σ H1 else D.nx σ H1)(mono:∀σ H Q Q',(∀b H1,Q b H1->Q' b H1)->c σ H Q->c σ H Q'):zb6 c tb D σ H:=by
 refine⟨λm σ H=>m=μ σ H/\Pv σ H,⟨_,rfl,h0⟩,?_⟩;rintro m σ H ⟨rfl,p⟩;refine mono σ H _ _ (λb H1 q=>?_) (hs σ H p);cases b with
 |true=>exact⟨_,fun σ' H' ⟨p',l⟩=>⟨_,l,rfl,p'⟩,q⟩
 |false=>exact q
abbrev R2:=V->V->Hp->VK->Prop
def OpR(X:Cx)(f:Value->Value->Sem Value)(r:R2):Prop :=
 ∀(pins:List (Addr×Obj)) (s:Shared) (σ:St) (H:Hp) (x y:V) (v u:Value) (Q:VK),Inv X pins σ H s->RelV x v->RelV y u->r x y H Q ->
  wpAny (model X.prog X.w) X.A (f v u) (EP X pins σ Q) X.xe s
def UnR(X:Cx)(f:Value->Sem Value)(r:V->Hp->VK->Prop):Prop :=
 ∀(pins:List (Addr×Obj)) (s:Shared) (σ:St) (H:Hp) (x:V) (v:Value) (Q:VK),Inv X pins σ H s->RelV x v->r x H Q ->
  wpAny (model X.prog X.w) X.A (f v) (EP X pins σ Q) X.xe s
def wF(X:Cx)(f:Value)(r:List V->Hp->VK->Prop):Prop :=
 ∀(pins:List (Addr×Obj)) (s:Shared) (σ:St) (H:Hp) (xs:List V) (us:List Value) (Q:VK),Inv X pins σ H s->Vals xs us->r xs H Q ->
  wpAny (model X.prog X.w) X.A (call f us) (EP X pins σ Q) X.xe s
def tOp(r:R2)(ta tb:TE):TE:=fun σ H Q=>ta σ H λx H1=>tb σ H1 λy H2=>r x y H2 Q
def tUn(r:V->Hp->VK->Prop)(ta:TE):TE:=fun σ H Q=>ta σ H λx H1=>r x H1 Q
def rI(C:Int->Int->Prop)(g:Int->Int->V):R2:=λx y H Q=>Ex2 λi j=>x=.int i/\y=.int j/\C i j/\Q (g i j) H
def rI0(g:Int->Int->V):R2:=λx y H Q=>Ex2 λi j=>x=.int i/\y=.int j/\Q (g i j) H
def rU(g:Int->V):V->Hp->VK->Prop:=λx H Q=>∃i,x=.int i/\Q (g i) H
section
variable {X:Cx} {a b c:Expr} {ta tb tc:TE} {pos:Pos}
theorem zgG(ha:PE X a ta)(hb:PE X b tb){σ:St}{R:V->V->Hp->Prop}(I:Inv X pins σ H s)(h:ta σ H λx H1=>tb σ H1 λy H2=>R x y H2){f:Value->Value->Sem Value}(hf:∀v u s2 x y H2,Inv X pins σ H2 s2->RelV x v->RelV y u->R x y H2->wpAny (model X.prog X.w) X.A (f v u) Q X.xe s2):
  wpAny (model X.prog X.w) X.A (eval a X.env) (λv s₁=>wpAny (model X.prog X.w) X.A (eval b X.env) (λu s₂=>wpAny (model X.prog X.w) X.A (f v u) Q X.xe s₂) X.xe s₁) X.xe s:=by
 refine thn (ha pins s σ H _ I h) λv s1 ⟨x,H1,I1,r1,q1⟩=>?_;refine thn (hb pins s1 σ H1 _ I1 q1) λu s2 ⟨y,H2,I2,r2,q2⟩=>?_;exact hf v u s2 x y H2 I2 r1 r2 q2
theorem zO(ho:OpR X (binaryOp op) r)(ha:PE X a ta)(hb:PE X b tb):PE X (.BinOp a op b pos) (tOp r ta tb):=by
 intro pins s σ H Q I h;exact wpAny_BinOp (zgG ha hb I h λv u s2 x y H2 I2 rx ry q=>ho pins s2 σ H2 x y v u Q I2 rx ry q)
theorem zcR(ho:UnR X (unaryOp op) r)(ha:PE X a ta):PE X (.UnaryOp op a pos) (tUn r ta):=by
 intro pins s σ H Q I h;exact UnaryOp_ (thn (ha pins s σ H _ I h) λv s1 ⟨x,H1,I1,r1,q1⟩=>ho pins s1 σ H1 x v Q I1 r1 q1)
theorem opI{g:Int->Int->Int}(rule:∀i j t u s Q E,C i j->Q (.int (g i j) s.toks) { s with toks:=s.toks+1 }->wpAny (model X.prog X.w) X.A (f (.int i t) (.int j u)) Q E s):
  OpR X f (rI C λi j=>.int (g i j)):=by
 intro pins s σ H x y v u Q I rx ry h;obtain⟨i,j,rfl,rfl,hc,q⟩:=h;obtain⟨t,rfl⟩:=rx;obtain⟨t',rfl⟩:=ry;exact rule i j t t' s _ _ hc ⟨.int (g i j),H,I.tok _,⟨_,rfl⟩,q⟩
theorem zhL{g:Int->Int->Int}(rule:∀i j t u s Q E,Q (.int (g i j) s.toks) { s with toks:=s.toks+1 }->wpAny (model X.prog X.w) X.A (f (.int i t) (.int j u)) Q E s):
  OpR X f (rI0 λi j=>.int (g i j)):=by
 intro pins s σ H x y v u Q I rx ry h;obtain⟨i,j,rfl,rfl,q⟩:=h;obtain⟨t,rfl⟩:=rx;obtain⟨t',rfl⟩:=ry;exact rule i j t t' s _ _ ⟨.int (g i j),H,I.tok _,⟨_,rfl⟩,q⟩
theorem zfK{g:Int->Int->Bool}(rule:∀i j t u s Q E,Q (.bool (g i j)) s->wpAny (model X.prog X.w) X.A (f (.int i t) (.int j u)) Q E s):
  OpR X f (rI0 λi j=>.bl (g i j)):=by
 intro pins s σ H x y v u Q I rx ry h;obtain⟨i,j,rfl,rfl,q⟩:=h;obtain⟨t,rfl⟩:=rx;obtain⟨t',rfl⟩:=ry;exact rule i j t t' s _ _ ⟨.bl (g i j),H,I,rfl,q⟩
def zgR(i j:Int):Prop:=0<=j/\j<=1000000/\i.natAbs<2^64
def CMul(i j:Int):Prop:=(-(2^64)<i/\i<2^64)\/(-(2^64)<j/\j<2^64)
theorem CMul.ok(h:CMul i j):IntMulOk i j:=by
 rcases h with ⟨h1,h2⟩ | ⟨h1,h2⟩
 ·exact .of_left (intBits_le_64 h1 h2)
 ·exact .of_right (intBits_le_64 h1 h2)
theorem wK:OpR X (binaryOp .Add) (rI0 λi j=>.int (i+j)):=zhL λ_ _ _ _ _ _ _ q=>add_int q
theorem Xr:OpR X (binaryOp .Sub) (rI0 λi j=>.int (i-j)):=zhL λ_ _ _ _ _ _ _ q=>sub_int q
theorem Zm:OpR X (binaryOp .Mult) (rI CMul λi j=>.int (i*j)):=opI λ_ _ _ _ _ _ _ hc q=>mul_int q hc.ok
theorem jy:OpR X (binaryOp .Mod) (rI (λ_ j=>0<j) λi j=>.int (i % j)):=opI λi j _ _ _ _ _ hc q=>by
 exact mod_int' (by omega) (by rw[Int.fmod_eq_emod_of_nonneg i (by omega)];exact q)
theorem zet:OpR X (binaryOp .Pow) (rI zgR λi j=>.int (i^j.toNat)):=opI λ_ _ _ _ _ _ _ hc q=>pow_int_small hc.1 hc.2.1 hc.2.2 q
theorem unI{g:Int->Int}(rule:∀i t s Q E,Q (.int (g i) s.toks) { s with toks:=s.toks+1 }->wpAny (model X.prog X.w) X.A (f (.int i t)) Q E s):
  UnR X f (rU λi=>.int (g i)):=by
 intro pins s σ H x v Q I rx h;obtain⟨i,rfl,q⟩:=h;obtain⟨t,rfl⟩:=rx;exact rule i t s _ _ ⟨.int (g i),H,I.tok _,⟨_,rfl⟩,q⟩
theorem JR:UnR X (unaryOp .USub) (rU λi=>.int (-i)):=unI λ_ _ _ _ _ q=>neg_int q
end
def zhp:V->V->Bool
 |.non,.non=>true | .non,.int _=>true | .int _,.non=>true | .non,.bl _=>true | .bl _,.non=>true | .non,.str _=>true | .str _,.non=>true
 |.int _,.int _=>true | .bl _,.bl _=>true | .str _,.str _=>true | .byt _,.byt _=>true
 |.int _,.str _=>true | .str _,.int _=>true | .bl _,.str _=>true | .str _,.bl _=>true
 |_,_=>false
def rEq:R2:=λx y H Q=>zhp x y=true/\Q (.bl (decide (x=y))) H
def rNe:R2:=λx y H Q=>zhp x y=true/\Q (.bl (!decide (x=y))) H
theorem zcw:decide (V.int i=V.int j)=(i == j):=by
 rw[Bool.eq_iff_iff];simp
theorem ze3:decide (V.bl i=V.bl j)=(i == j):=by
 rw[Bool.eq_iff_iff];simp
theorem zcX:decide (V.str i=V.str j)=(i == j):=by
 rw[Bool.eq_iff_iff];simp
theorem zcJ:decide (V.byt i=V.byt j)=(i.toList == j.toList):=by
 rw[Bool.eq_iff_iff];cases i
 cases j;simp
section
variable {X:Cx} {a b c:Expr} {ta tb tc:TE} {pos:Pos}
theorem yu{σ:St}(I:Inv X pins σ H s)(q:Q (.bl k) H)(e:k=k'):EP X pins σ Q (.bool k') s:=by
 subst e;exact⟨.bl k,H,I,rfl,q⟩
theorem Wb:OpR X (compareOp .Eq) rEq:=by
 intro pins s σ H x y v u Q I rx ry h;obtain⟨hs,q⟩:=h;cases x with
 |non=>
  cases rx;cases y with
  |non=>cases ry;exact PySem.EqNone.eq_none_none (yu I q (by simp))
  |bl j=>cases ry;exact PySem.EqNone.eq_none_bool (yu I q (by simp))
  |int j=>obtain⟨t',rfl⟩:=ry;exact PySem.EqNone.eq_none_int (yu I q (by simp))
  |str j=>obtain⟨t',rfl⟩:=ry;exact PySem.EqNone.eq_none_str (yu I q (by simp))
  |_=>exact absurd (show false=true from hs) Bool.false_ne_true
 |bl i=>
  cases rx;cases y with
  |non=>cases ry;exact PySem.EqNone.eq_bool_none (yu I q (by simp))
  |bl j=>cases ry;exact eq_bool (yu I q ze3)
  |str j=>obtain⟨t',rfl⟩:=ry;exact PySem.EqMixed.eq_bool_str (yu I q (by simp))
  |_=>exact absurd (show false=true from hs) Bool.false_ne_true
 |int i=>
  obtain⟨t,rfl⟩:=rx;cases y with
  |non=>cases ry;exact PySem.EqNone.eq_int_none (yu I q (by simp))
  |int j=>obtain⟨t',rfl⟩:=ry;exact eq_int (yu I q zcw)
  |str j=>obtain⟨t',rfl⟩:=ry;exact PySem.EqMixed.eq_int_str (yu I q (by simp))
  |_=>exact absurd (show false=true from hs) Bool.false_ne_true
 |str i=>
  obtain⟨t,rfl⟩:=rx;cases y with
  |non=>cases ry;exact PySem.EqNone.eq_str_none (yu I q (by simp))
  |bl j=>cases ry;exact PySem.EqMixed.eq_str_bool (yu I q (by simp))
  |int j=>obtain⟨t',rfl⟩:=ry;exact PySem.EqMixed.eq_str_int (yu I q (by simp))
  |str j=>obtain⟨t',rfl⟩:=ry;exact eq_str (yu I q zcX)
  |_=>exact absurd (show false=true from hs) Bool.false_ne_true
 |byt i=>
  obtain⟨t,rfl⟩:=rx;cases y with
  |byt j=>obtain⟨t',rfl⟩:=ry;exact W.eq_bytes (yu I q zcJ)
  |_=>exact absurd (show false=true from hs) Bool.false_ne_true
 |_=>cases y<;>exact absurd (show false=true from hs) Bool.false_ne_true
theorem zfe:OpR X (compareOp .NotEq) rNe:=by
 intro pins s σ H x y v u Q I rx ry h;obtain⟨hs,q⟩:=h;cases x with
 |non=>
  cases rx;cases y with
  |non=>cases ry;exact PySem.EqNone.ne_none_none (yu I q (by simp))
  |bl j=>cases ry;exact PySem.EqNone.ne_none_bool (yu I q (by simp))
  |int j=>obtain⟨t',rfl⟩:=ry;exact PySem.EqNone.ne_none_int (yu I q (by simp))
  |str j=>obtain⟨t',rfl⟩:=ry;exact PySem.EqNone.ne_none_str (yu I q (by simp))
  |_=>exact absurd (show false=true from hs) Bool.false_ne_true
 |bl i=>
  cases rx;cases y with
  |non=>cases ry;exact PySem.EqNone.ne_bool_none (yu I q (by simp))
  |bl j=>cases ry;exact ne_bool (yu I q (congrArg not ze3))
  |str j=>obtain⟨t',rfl⟩:=ry;exact PySem.EqMixed.ne_bool_str (yu I q (by simp))
  |_=>exact absurd (show false=true from hs) Bool.false_ne_true
 |int i=>
  obtain⟨t,rfl⟩:=rx;cases y with
  |non=>cases ry;exact PySem.EqNone.ne_int_none (yu I q (by simp))
  |int j=>obtain⟨t',rfl⟩:=ry;exact ne_int (yu I q (congrArg not zcw))
  |str j=>obtain⟨t',rfl⟩:=ry;exact PySem.EqMixed.ne_int_str (yu I q (by simp))
  |_=>exact absurd (show false=true from hs) Bool.false_ne_true
 |str i=>
  obtain⟨t,rfl⟩:=rx;cases y with
  |non=>cases ry;exact PySem.EqNone.ne_str_none (yu I q (by simp))
  |bl j=>cases ry;exact PySem.EqMixed.ne_str_bool (yu I q (by simp))
  |int j=>obtain⟨t',rfl⟩:=ry;exact PySem.EqMixed.ne_str_int (yu I q (by simp))
  |str j=>obtain⟨t',rfl⟩:=ry;exact ne_str (yu I q (congrArg not zcX))
  |_=>exact absurd (show false=true from hs) Bool.false_ne_true
 |byt i=>
  obtain⟨t,rfl⟩:=rx;cases y with
  |byt j=>obtain⟨t',rfl⟩:=ry;exact W.ne_bytes (yu I q (congrArg not zcJ))
  |_=>exact absurd (show false=true from hs) Bool.false_ne_true
 |_=>cases y<;>exact absurd (show false=true from hs) Bool.false_ne_true
theorem zbn:OpR X (compareOp .Lt) (rI0 λi j=>.bl (decide (i<j))):=zfK λ_ _ _ _ _ _ _ q=>lt_int q
theorem Us:OpR X (compareOp .LtE) (rI0 λi j=>.bl (decide (i<=j))):=zfK λ_ _ _ _ _ _ _ q=>le_int q
theorem za7:OpR X (compareOp .Gt) (rI0 λi j=>.bl (decide (j<i))):=zfK λ_ _ _ _ _ _ _ q=>gt_int q
theorem zeM:OpR X (compareOp .GtE) (rI0 λi j=>.bl (decide (j<=i))):=zfK λ_ _ _ _ _ _ _ q=>ge_int q
theorem zce:OpR X (compareOp .Is) (λx y H Q=>y=.non/\Q (.bl (decide (x=.non))) H):=by
 intro pins s σ H x y v u Q I rx ry h;obtain⟨rfl,q⟩:=h;cases ry
 refine is_none_gen (yu I q ?_);cases x<;>first
  | (cases rx;rfl)
  | (obtain⟨t,rfl⟩:=rx;rfl)
theorem Yu:OpR X (compareOp .IsNot) (λx y H Q=>y=.non/\Q (.bl (!decide (x=.non))) H):=by
 intro pins s σ H x y v u Q I rx ry h;obtain⟨rfl,q⟩:=h;cases ry
 refine isnot_none_gen (yu I q ?_);cases x<;>first
  | (cases rx;rfl)
  | (obtain⟨t,rfl⟩:=rx;rfl)
theorem zV(b:Expr)(h:op≠.In:=by decide)(h2:op≠.NotIn:=by decide):behindInMarks op b=false:=by
 have e1:(op == CmpOp.In)=false:=by cases op<;>first | rfl | exact absurd rfl h
 have e2:(op == CmpOp.NotIn)=false:=by cases op<;>first | rfl | exact absurd rfl h2
 cases b<;>simp[behindInMarks,e1,e2]
theorem ur(ho:OpR X (compareOp op) r)(ha:PE X a ta)(hb:PE X b tb)(hm:behindInMarks op b=false):PE X (.Compare a [op] [b] pos) (tOp r ta tb):=by
 intro pins s σ H Q I h;exact wpAny_Compare1 (zgG ha hb I h λv u s2 x y H2 I2 rx ry q=>ho pins s2 σ H2 x y v u Q I2 rx ry q) hm
def zgs(t:TE):TT:=fun σ H Q=>t σ H λx H'=>∃k,x=.bl k/\Q k H'
theorem zN(ho:OpR X (compareOp op) r)(ha:PE X a ta)(hb:PE X b tb)(hm:behindInMarks op b=false):PT X (.Compare a [op] [b] pos) (zgs (tOp r ta tb)):=by
 intro pins s σ H Q I h;refine wpAny_isTrue_Compare1 (thn (ha pins s σ H _ I h) λv s1 ⟨x,H1,I1,r1,q1⟩=>thn (hb pins s1 σ H1 _ I1 q1) λu s2 ⟨y,H2,I2,r2,q2⟩=>
  thn (ho pins s2 σ H2 x y v u _ I2 r1 r2 q2) λc s3 ⟨z,H3,I3,r3,k,e,q3⟩=>?_) hm
 subst e;cases r3
 exact wpAny_truthy_bool ⟨H3,I3,q3⟩
def zd5(r r':R2)(ta tb tc:TE):TE:=fun σ H Q=>ta σ H λx H1=>tb σ H1 λy H2=>r x y H2 λz H3=>∃k,z=.bl k /\
 (if k=true then tc σ H3 λw' H4=>r' y w' H4 Q else Q (.bl false) H3)
theorem Ut(ho:OpR X (compareOp op) r)(ho':OpR X (compareOp op') r')(ha:PE X a ta)(hb:PE X b tb)(hc:PE X c tc)(hm:lastMarks [op,op'] [b,c]=false:=by with_unfolding_all rfl):PE X (.Compare a [op,op'] [b,c] pos) (zd5 r r' ta tb tc):=by
 intro pins s σ H Q I h;refine Compare_chain (thn (ha pins s σ H _ I h) λv s1 ⟨x,H1,I1,r1,q1⟩=>chain_link (thn (hb pins s1 σ H1 _ I1 q1) λu s2 ⟨y,H2,I2,r2,q2⟩=>
  thn (ho pins s2 σ H2 x y v u _ I2 r1 r2 q2) λd s3 ⟨z,H3,I3,r3,k,e,q3⟩=>?_)) hm
 subst e;cases r3
 refine wpAny_truthy_bool ?_;cases k with
 |false=>exact ite_ff ⟨.bl false,H3,I3,rfl,q3⟩
 |true=>exact ite_tt (chain_last (thn (hc pins s3 σ H3 _ I3 q3) λw' s4 ⟨z',H4,I4,r4,q4⟩=>ho' pins s4 σ H4 y z' u w' Q I4 r2 r4 q4))
theorem za8(ho:OpR X (compareOp op) r)(ho':OpR X (compareOp op') r')(ha:PE X a ta)(hb:PE X b tb)(hc:PE X c tc)(hm:lastMarks [op,op'] [b,c]=false:=by with_unfolding_all rfl):PT X (.Compare a [op,op'] [b,c] pos) (zgs (zd5 r r' ta tb tc)):=by
 intro pins s σ H Q I h;refine isTrue_chain (thn (ha pins s σ H _ I h) λv s1 ⟨x,H1,I1,r1,q1⟩=>test_link (thn (hb pins s1 σ H1 _ I1 q1) λu s2 ⟨y,H2,I2,r2,q2⟩=>
  thn (ho pins s2 σ H2 x y v u _ I2 r1 r2 q2) λd s3 ⟨z,H3,I3,r3,k,e,q3⟩=>?_)) hm
 subst e;cases r3
 refine wpAny_truthy_bool ?_;cases k with
 |false=>
  obtain⟨k',e',q'⟩:=q3;cases e'
  exact ite_ff ⟨H3,I3,q'⟩
 |true=>
  refine ite_tt (test_last (thn (hc pins s3 σ H3 _ I3 q3) λw' s4 ⟨z',H4,I4,r4,q4⟩=>thn (ho' pins s4 σ H4 y z' u w' _ I4 r2 r4 q4) λd' s5 ⟨z2,H5,I5,r5,k2,e2,q5⟩=>?_));subst e2;cases r5
  exact wpAny_truthy_bool ⟨H5,I5,q5⟩
theorem JD:(sizeLine:Nat)<2^63:=by rw[sizeLine_eq];decide
theorem vals1(r:Vals [x] us):∃u,us=[u]/\RelV x u:=by
 cases r with
 |cons r1 r2=>cases r2;exact⟨_,rfl,r1⟩
theorem vals2(r:Vals [x,y] us):∃u w',us=[u,w']/\RelV x u/\RelV y w':=by
 cases r with
 |cons r1 r2=>
  cases r2 with
  |cons r3 r4=>cases r4;exact⟨_,_,rfl,r1,r3⟩
theorem zdv(hc:X.calm=true):wF X (.builtin "max") (λxs H Q=>∃i j,xs=[.int i,.int j]/\Q (.int (if j>i then j else i)) H):=by
 intro pins s σ H xs us Q I r h;obtain⟨i,j,rfl,q⟩:=h;obtain⟨u,w',rfl,⟨t,rfl⟩,⟨t',rfl⟩⟩:=vals2 r;refine max_two_ints (I.ok.hd hc) λh' tk k=>⟨_,H,I.kept k,?_,q⟩
 by_cases hj:j>i
 ·rw[if_pos hj,if_pos hj];exact⟨_,rfl⟩
 ·rw[if_neg hj,if_neg hj];exact⟨_,rfl⟩
theorem Va(hc:X.calm=true):wF X (.builtin "min") (λxs H Q=>∃i j,xs=[.int i,.int j]/\Q (.int (if j<i then j else i)) H):=by
 intro pins s σ H xs us Q I r h;obtain⟨i,j,rfl,q⟩:=h;obtain⟨u,w',rfl,⟨t,rfl⟩,⟨t',rfl⟩⟩:=vals2 r;refine min_two_ints (I.ok.hd hc) λh' tk k=>⟨_,H,I.kept k,?_,q⟩
 by_cases hj:j<i
 ·rw[if_pos hj,if_pos hj];exact⟨_,rfl⟩
 ·rw[if_neg hj,if_neg hj];exact⟨_,rfl⟩
theorem YB:wF X (.type "int") (λxs H Q=>(∃i,xs=[.int i]/\Q (.int i) H)\/∃k,xs=[.bl k]/\Q (.int (if k then 1 else 0)) H):=by
 intro pins s σ H xs us Q I r h;rcases h with ⟨i,rfl,q⟩ | ⟨k,rfl,q⟩
 ·obtain⟨u,rfl,t,rfl⟩:=vals1 r;exact call_int_int ⟨.int i,H,I,⟨_,rfl⟩,q⟩
 ·obtain⟨u,rfl,r1⟩:=vals1 r;cases r1
  exact call_int_bool ⟨.int (if k then 1 else 0),H,I.tok _,⟨_,rfl⟩,q⟩
end
structure ObjM (h:Heap) (x dx C:Addr) (mA:Str->Option Value):Prop where
 obj:h.get? x=some (W.instObj C dx)
 ns:h.Ns1 dx mA
 ne:dx≠x
theorem zcY{h:Heap}(n:h.Ns1 dx mA):∃od,h.get? dx=some od/\∀name,W.lookIn name od=some (mA name):=by
 obtain⟨o,es,ep,ho,hd,hk,_,hm⟩:=n;refine⟨o,ho,λname=>?_⟩;have e:=hm name;unfold nsFind findBy at e;rw[<-Array.find?_toList]at e;unfold W.lookIn;rw[hd];dsimp only;split
 ·rename_i y q
  rw[q]at e;exact congrArg some e
 ·rename_i q
  rw[q]at e;have a:es.toList.any (·.refKey)=false:=by
   rw[List.any_eq_false];intro y hy;obtain⟨z,t,hkey⟩:=hk y (Array.mem_toList_iff.mp hy);simp[DictEntry.refKey,hkey]
  have a':¬ es.toList.any (·.refKey)=true:=by rw[a];exact Bool.false_ne_true
  rw[if_neg a'];exact congrArg some e
theorem ObjM.look(I:ObjM h x dx C mA):∃od,W.InstAt h x (W.instObj C dx) C (some od)/\∀name,W.lookIn name od=some (mA name):=
 let ⟨od,ho,hl⟩:=zcY I.ns
 ⟨od,⟨I.obj,rfl,rfl,ho⟩,hl⟩
section
variable {prog:Program} {w:World} {A:Around} {E:Value->Shared->Prop} {s:Shared} {K:W.Frag} {x dx C f:Addr} {mA:Str->Option Value} {name:Str} {v:Value}
theorem zfF(X:K.In s.heap)(I:ObjM s.heap x dx C mA)(hg:W.plainGet K C name=true)(hh:W.hasDictIn K C=true)(ha:W.findIn K (.ref C) name=some none)(hv:mA name=some v)(hv':W.handedIn v=true)(h:Q v { s with toks:=s.toks+1 }):
  wpAny (model prog w) A (getAttr (.ref x) name expr) Q E s:=by
 obtain⟨od,J,hl⟩:=I.look;exact W.get_value X J (W.plainGet_of hg).1 (W.findObj_own hh ha rfl (by rw[hl,hv])) hv' h
theorem zdS(X:K.In s.heap)(I:ObjM s.heap x dx C mA)(hg:W.plainGet K C name=true)(hf:W.findIn K (.ref C) name=some (some (.ref f)))(ht:W.isFn K (.ref f)=true)(hv:mA name=none)(h:Q (.ref f,[.ref x]) s):
  wpAny (model prog w) A (getMethod (.ref x) name pl) Q E s:=by
 obtain⟨od,J,hl⟩:=I.look;exact W.method_fn X J (W.plainGet_of hg).1 (W.plainGet_of hg).2 hf (beq_iff_eq.mp ht) (by show (W.lookIn name od).map (·.isSome)=some false;rw[hl,hv];rfl) h
theorem zfx(X:K.In s.heap)(I:ObjM s.heap x dx C mA)(hs:W.findIn K (.ref C) "__setattr__"= some (some (.builtin "object.__setattr__")))(hp:W.plainOver K C=true)(ht:W.takerIn K C name=some none)(hh:W.hasDictIn K C=true)(hw:PySem.Within mA ns)(hsz:ns.length<=sizeLine)(h:∀h',ObjM h' x dx C (λy=>if y=name then some v else mA y)->Heap.SameBut dx s.heap h'->Q () { s with heap:=h',toks:=s.toks+2 }):
  wpAny (model prog w) A (setAttr (.ref x) name v) Q E s:=by
 obtain⟨od,J,hl⟩:=I.look;refine W.set_plain X J hs (W.osa_open X J hp ht λb=>?_);obtain⟨cd,hc,hd'⟩:=W.any_some hh;have hx:=I.obj;refine wpAny_bind (wpAny_pure (wpAny_bind (wpAny_bind (wpAny_loadPart hx (wpAny_bind (W.Looks.here (W.looks_clsIn X hc) ?_))))));rw[hd'];refine wpAny_pure (wpAny_bind (wpAny_pure (wpAny_bind ?_)));refine wpAny_nsSet1 I.ns λh' hn2 hs2=>?_;obtain⟨oD,esD,epD,hoD,hdD,hcD⟩:=hn2.count (PySem.Within.cons name v hw);refine wpAny_bind (wpAny_lookBehind hoD (by rw[hdD];exact pastItsLine_dict (Nat.le_trans hcD (by rw[List.length_cons];omega))) ?_);exact wpAny_pure (h _ ⟨(hs2.2 _ (Ne.symm I.ne)).trans I.obj,hn2,I.ne⟩ hs2)
theorem zfm(X:K.In s.heap)(hm:W.makesIn K C=true)(hi:W.findIn K (.ref C) "__init__"= some (some (.ref f)))(hf:W.typeIn K (.ref f)=some (.type "function"))(h:codeAny (model prog w) (A.under (.builtin "type.__call__" ⟨.ref C::vs,kw⟩)) (.call (.ref f) ⟨.ref (s.heap.objs.size+1)::vs,kw⟩) (W.InitBack (s.heap.objs.size+1) R)
   { s with heap:=(s.heap.push W.emptyDict).push (W.instObj C s.heap.objs.size) }):
  codeAny (model prog w) A (.call (.ref C) ⟨vs,kw⟩) R s:=by
 obtain⟨hh,g,d,t,os⟩:=s;exact W.make_core (W.makes_of X hm) (W.looks_findIn X hi) (λself=>W.bind_fn X self hf) (.inl rfl) h
end
def zZ(f:Str)(v:V):List (Str×V)->List (Str×V)
 |[]=>[(f,v)]
 | (g,x)::r=>if g=f then (g,v)::r else (g,x)::zZ f v r
theorem zF(f g:Str)(v:V):∀fs:List (Str×V),(zZ f v fs).lookup g=if g=f then some v else fs.lookup g
 |[]=>by
  show List.lookup g [(f,v)]=_;by_cases h:g=f
  ·have hb:(g == f)=true:=beq_iff_eq.mpr h;simp only[List.lookup,hb,if_pos h]
  ·have hb:=beq_eq_false_iff_ne.mpr h;simp only[List.lookup,hb,if_neg h]
 | (k,x)::r=>by
  have ih:=zF f g v r;rw[show zZ f v ((k,x)::r)=(if k=f then (k,v)::r else (k,x)::zZ f v r) from rfl];by_cases hk:k=f
  ·rw[if_pos hk];by_cases h:g=k
   ·have hb:=beq_iff_eq.mpr h;simp only[List.lookup,hb,if_pos (h.trans hk)]
   ·have hb:=beq_eq_false_iff_ne.mpr h;simp only[List.lookup,hb,if_neg (λe:g=f=>h (e.trans hk.symm))]
  ·rw[if_neg hk];by_cases h:g=k
   ·have hb:=beq_iff_eq.mpr h;simp only[List.lookup,hb,if_neg (λe:g=f=>hk (h.symm.trans e))]
   ·have hb:=beq_eq_false_iff_ne.mpr h;simp only[List.lookup,hb];exact ih
theorem Vb(f:Str)(v:V):∀fs:List (Str×V),f∈(zZ f v fs).map (·.1)/\∀g,g∈fs.map (·.1)->g∈(zZ f v fs).map (·.1)
 |[]=>⟨by simp[zZ],λg h=>by simp at h⟩
 | (k,x)::r=>by
  obtain⟨i1,i2⟩:=Vb f v r;rw[show zZ f v ((k,x)::r)=(if k=f then (k,v)::r else (k,x)::zZ f v r) from rfl];by_cases hk:k=f
  ·rw[if_pos hk];subst hk;exact⟨by simp,λg h=>by simpa using h⟩
  ·rw[if_neg hk];refine⟨?_,λg h=>?_⟩
   ·rw[List.map_cons];exact List.mem_cons_of_mem _ i1
   ·rw[List.map_cons]at h ⊢;rcases List.mem_cons.mp h with e | e
    ·exact List.mem_cons.mpr (.inl e)
    ·exact List.mem_cons_of_mem _ (i2 g e)
theorem xJ(f:Str)(v:V):∀fs:List (Str×V),(zZ f v fs).length<=fs.length+1
 |[]=>by simp[zZ]
 | (k,x)::r=>by
  have ih:=xJ f v r;rw[show zZ f v ((k,x)::r)=(if k=f then (k,v)::r else (k,x)::zZ f v r) from rfl];by_cases hk:k=f
  ·rw[if_pos hk,List.length_cons,List.length_cons];omega
  ·rw[if_neg hk,List.length_cons,List.length_cons];omega
theorem RelO.some_of(r:RelO (some v) o):∃u,o=some u/\RelV v u:=by
 cases o with
 |none=>exact (show False from r).elim
 |some u=>exact⟨u,rfl,r⟩
theorem RelO.none_of(r:RelO none o):o=none:=by
 cases o with
 |none=>rfl
 |some u=>exact (show False from r).elim
theorem zdN(r:RelV v u):W.handedIn u=true:=by
 cases v with
 |non=>cases (show u=Value.none from r);rfl
 |bl b=>cases (show u=Value.bool b from r);rfl
 |int i=>obtain⟨t,e⟩:=(show ∃t,u=Value.int i t from r);cases e;rfl
 |str x=>obtain⟨t,e⟩:=(show ∃t,u=Value.str x t from r);cases e;rfl
 |byt b=>obtain⟨t,e⟩:=(show ∃t,u=Value.bytes b t from r);cases e;rfl
 |flt b=>obtain⟨t,e⟩:=(show ∃t,u=Value.float b t from r);cases e;rfl
 |ref a=>cases (show u=Value.ref a from r);rfl
 |ty n=>cases (show u=Value.type n from r);rfl
section
variable {P:Program} {w:World} {H H':Hp} {h h':Heap} {a C dx:Addr} {fs fs':List (Str×V)}
theorem VP(hok:HOk P w H h)(e:H a=some (.ins C dx fs)):∃mA,ObjM h a dx C mA/\(∀f,RelO (fs.lookup f) (mA f))/\PySem.Within mA (fs.map (·.1))/\fs.length<=1000/\H dx=some (.own a):=by
 obtain⟨d,z,ne,ob,mA,n,r,q⟩:=(show ObjOk P w H h a (.ins C dx fs) from hok a _ e)
 exact⟨mA,⟨ob,n,ne⟩,r,q,z,d⟩
end
structure Cls (K:W.Frag) (C:Addr):Prop where
 pg:W.plainGet K C Str.empty=true
 hd:W.hasDictIn K C=true
 po:W.plainOver K C=true
 sa:W.findIn K (.ref C) "__setattr__"= some (some (.builtin "object.__setattr__"))
theorem Cls.get{K:W.Frag}(c:Cls K C)(f:Str):W.plainGet K C f=true:=c.pg
def NoAttr(K:W.Frag)(C:Addr)(f:Str):Prop:=W.findIn K (.ref C) f=some none
theorem NoAttr.taker{K:W.Frag}(n:NoAttr K C f):W.takerIn K C f=some none:=by
 unfold W.takerIn;rw[show W.findIn K (.ref C) f=some none from n];rfl
structure Meth (K:W.Frag) (C:Addr) (m:Str) (f:Addr):Prop where
 at_:W.findIn K (.ref C) m=some (some (.ref f))
 fn:W.isFn K (.ref f)=true
 kp:W.keepIn K (.ref f)=true
section
variable {X:Cx} {pins:List (Addr×Obj)} {σ:St} {H:Hp} {s:Shared} {a C dx:Addr} {fs:List (Str×V)} {f:Str} {v:V} {A:Around} {E:Value->Shared->Prop}
theorem zci(I:Inv X pins σ H s)(e:H a=some (.ins C dx fs))(c:Cls X.K C)(n:NoAttr X.K C f)(l:fs.lookup f=some v)(h:∀u s',Inv X pins σ H s'->RelV v u->Q u s'):wpAny (model X.prog X.w) A (getAttr (.ref a) f b) Q E s:=by
 obtain⟨mA,O,r,_,_,_⟩:=VP I.hok e;obtain⟨u,hu,ru⟩:=RelO.some_of (by rw[<-l];exact r f);exact zfF I.kIn O (c.get f) c.hd n hu (zdN ru) (h u _ (I.tok _) ru)
theorem Xg(I:Inv X pins σ H s)(e:H a=some (.ins C dx fs))(c:Cls X.K C)(k:Meth X.K C m g)(l:fs.lookup m=none)(h:Q (.ref g,[.ref a]) s):wpAny (model X.prog X.w) A (getMethod (.ref a) m pl) Q E s:=by
 obtain⟨mA,O,r,_,_,_⟩:=VP I.hok e;have hn:=RelO.none_of (by rw[<-l];exact r m);exact zdS I.kIn O (c.get m) k.at_ k.fn hn h
theorem zb8(I:Inv X pins σ H s)(e:H a=some (.ins C dx fs))(c:Cls X.K C)(n:NoAttr X.K C f)(hl:fs.length<1000)(ry:RelV y u)(h:∀s',Inv X pins σ (upd H a (.ins C dx (zZ f y fs))) s'->Q () s'):wpAny (model X.prog X.w) A (setAttr (.ref a) f u) Q E s:=by
 obtain⟨mA,O,r,wi,_,ho⟩:=VP I.hok e;have hz:(fs.map (·.1)).length<=sizeLine:=by rw[List.length_map,sizeLine_eq];omega
 refine zfx I.kIn O c.sa c.po n.taker c.hd wi hz λh' O' sb=>h _ ?_;have hd:∃o,h'.get? dx=some o:=let ⟨o,_,_,e',_⟩:=O'.ns;⟨o,e'⟩;refine I.write (by rw[e];exact True.intro) (.inr ho) (λb q hb z=>(sb.2 b hb).trans z) hd ?_;refine⟨by rw[zr O.ne];exact ho,?_,O.ne,O'.obj,_,O'.ns,λg=>?_,λg hg=>?_⟩
 ·have:=xJ f y fs;omega
 ·show RelO ((zZ f y fs).lookup g) (if g=f then some u else mA g);rw[zF];by_cases q:g=f
  ·rw[if_pos q,if_pos q];exact ry
  ·rw[if_neg q,if_neg q];exact r g
 ·by_cases q:g=f
  ·rw[q];exact (Vb f y fs).1
  ·refine (Vb f y fs).2 g (wi g λz=>hg ?_);show (if g=f then some u else mA g)=none;rw[if_neg q];exact z
theorem Inv.made(I:Inv X pins σ H s):Inv X pins σ (upd (upd H s.heap.objs.size (.own (s.heap.objs.size+1))) (s.heap.objs.size+1) (.ins C s.heap.objs.size []))
  { s with heap:=(s.heap.push W.emptyDict).push (W.instObj C s.heap.objs.size) }:=by
 have e1:(s.heap.push W.emptyDict).get? s.heap.objs.size=some W.emptyDict:=Heap.get?_push_size s.heap rfl;have e2:((s.heap.push W.emptyDict).push (W.instObj C s.heap.objs.size)).get? (s.heap.objs.size+1)=some (W.instObj C s.heap.objs.size):=by
  have:=Heap.get?_push_size (s.heap.push W.emptyDict) (o:=W.instObj C s.heap.objs.size) rfl;rwa[Heap.size_push]at this
 have e3:(s.heap.push W.emptyDict).Ns s.heap.objs.size (λ_=>none):=⟨W.emptyDict,#[],_,e1,rfl,(λe he=>absurd he (by simp)),λ_=>rfl⟩
 have I1:=I.laid (o:=.own (s.heap.objs.size+1)) (t':=s.toks) (λb u q=>Heap.get?_push_of_some _ q) (Nat.le_refl _) ⟨_,e1⟩;refine I1.laid (λb u q=>Heap.get?_push_of_some _ q) (Nat.le_of_eq (Heap.size_push _ _)) ?_;have ne:s.heap.objs.size≠s.heap.objs.size+1:=Nat.ne_of_lt (Nat.lt_succ_self _);refine⟨by rw[zr ne,zg],Nat.zero_le _,ne,e2,λ_=>none,(Heap.Ns1.of_empty e3).at λo q=>Heap.get?_push_of_some _ q,λ_=>True.intro,λy hy=>absurd rfl hy⟩
theorem zfp(hb:attributeBase e f env (eval e env)=eval e env)(h:wpAny (model prog w) A (eval e env) (λo s₁=>wpAny (model prog w) A (getAttr o f true) Q E s₁) E s):wpAny (model prog w) A (eval (.Attribute e f pos) env) Q E s :=
 Attribute_any_ h (by rw[arm_eval_Attribute,hb])
end
def zhO(K:W.Frag)(ta:TE)(f:Str):TE:=fun σ H Q=>ta σ H λx H1=>Ex5 λa C dx fs v=>x=.ref a/\H1 a=some (.ins C dx fs)/\Cls K C/\NoAttr K C f/\fs.lookup f=some v/\Q v H1
def zh0(K:W.Frag)(ta tv:TE)(f:Str):TS:=λD σ H=>tv σ H λy H1=>ta σ H1 λx H2=>Ex4 λa C dx fs=>x=.ref a/\H2 a=some (.ins C dx fs)/\Cls K C/\NoAttr K C f/\fs.length<1000 /\
 D.nx σ (upd H2 a (.ins C dx (zZ f y fs)))
section
variable {X:Cx} {o e value:Expr} {f:Str} {pos pos' tpos:Pos} {ta tv:TE}
theorem zgt(he:PE X e ta)(hb:attributeBase e f X.env (eval e X.env)=eval e X.env):PE X (.Attribute e f pos) (zhO X.K ta f):=by
 intro pins s σ H Q I h;refine zfp hb (thn (he pins s σ H _ I h) λu s1 ⟨x,H1,I1,rx,a,C,dx,fs,v,ex,ea,c,n,l,q⟩=>?_);subst ex;obtain rfl:u=Value.ref a:=rx;exact zci I1 ea c n l λu' s2 I2 ru=>⟨v,H1,I2,ru,q⟩
theorem jJ(ha:PE X o ta)(hv:PE X value tv)(hs:swapsWith value (some (.Attribute o f pos')) pos.line X.env=pure false):PS X (.Assign [.Attribute o f pos'] value pos) (zh0 X.K ta tv f):=by
 intro pins s σ H D I h;refine plainObj_wpAny_Assign_Attribute (thn (hv pins s σ H _ I h) λu s1 ⟨y,H1,I1,ry,q⟩=>thn (ha pins s1 σ H1 _ I1 q) λov s2 ⟨x,H2,I2,rx,a,C,dx,fs,ex,ea,c,n,l,q2⟩=>?_) hs;subst ex;obtain rfl:ov=Value.ref a:=rx;exact zb8 I2 ea c n l ry λs3 I3=>⟨σ,_,I3,q2⟩
end
section
variable {X:Cx} {pins:List (Addr×Obj)} {σ:St} {H:Hp} {s:Shared} {A:Around} {E:Value->Shared->Prop} {Q:Value->Shared->Prop} {c:Value} {b:Bool}
inductive Wa (K:W.Frag) (H:Hp):V->Value->Prop where
 |non:Wa K H .non (.type "NoneType")
 |bl (x:Bool):Wa K H (.bl x) (.type "bool")
 |int (i:Int):Wa K H (.int i) (.type "int")
 |str (x:Str):Wa K H (.str x) (.type "str")
 |flt (x:UInt64):Wa K H (.flt x) (.type "float")
 |lst {a:Addr} {xs:List V} (e:H a=some (.lst xs)):Wa K H (.ref a) (.type "list")
 |frz {a:Addr} {o:Obj} {xs:List V} (e:H a=some (.frz o (.lst xs))):Wa K H (.ref a) (.type "list")
 |tup {a:Addr} {xs:List V} (e:H a=some (.tup xs)):Wa K H (.ref a) (.type "tuple")
 |dK {a:Addr} {kvs:List (Key×V)} (e:H a=some (.dK kvs)):Wa K H (.ref a) (.type "dict")
 |dT {a:Addr} {kvs:List (List Key×V)} (e:H a=some (.dT kvs)):Wa K H (.ref a) (.type "dict")
 |ins {a C dx:Addr} {fs:List (Str×V)} (e:H a=some (.ins C dx fs)) (cl:Cls K C) (ha:W.findIn K (.ref C) "__class__"= some (some (.builtin "object.__class__")))
   (hn:W.specialIn K (.builtin "object.__class__") "__get__"= some (some (.builtin "getset_descriptor.__get__"))) (htk:W.takesIn K (.builtin "object.__class__")=some true)
   (hm:W.mroIn K C (.type "object")=some true):Wa K H (.ref a) (.ref C)
theorem zdf(I:Inv X pins σ H s)(rx:RelV x u)(ty:Wa X.K H x t)(e:W.kitOne X.K t c=some b)(h:∀tk,Q (.bool b) { s with toks:=tk }):
  wpAny (model X.prog X.w) A (call (.builtin "isinstance") [u,c]) Q E s:=by
 cases ty with
 |non=>cases (show u=Value.none from rx);exact W.kia_one W.kitx_none I.kIn True.intro e (λz=>nomatch z) h
 |bl y=>cases (show u=Value.bool y from rx);exact W.kia_one W.kitx_bool I.kIn True.intro e (λz=>nomatch z) h
 |int i=>obtain⟨t,q⟩:=(show ∃t,u=Value.int i t from rx);cases q;exact W.kia_one W.kitx_int I.kIn True.intro e (λz=>nomatch z) h
 |str y=>obtain⟨t,q⟩:=(show ∃t,u=Value.str y t from rx);cases q;exact W.kia_one W.kitx_str I.kIn True.intro e (λz=>nomatch z) h
 |flt y=>obtain⟨t,q⟩:=(show ∃t,u=Value.float y t from rx);cases q;exact W.kia_one W.kitx_float I.kIn True.intro e (λz=>nomatch z) h
 |@lst a xs ea=>
  cases (show u=Value.ref a from rx);obtain⟨_,_,n,_,h1⟩:=(show ObjOk X.prog X.w H s.heap a (.lst xs) from I.hok a _ ea)
  exact W.kia_one W.kitx_list I.kIn ⟨_,h1,rfl⟩ e (λz=>nomatch z) h
 |@frz a ob xs ea=>
  cases (show u=Value.ref a from rx);obtain⟨_,_,_,n,_,h1⟩:=(show ObjOk X.prog X.w H s.heap a (.frz ob (.lst xs)) from I.hok a _ ea)
  exact W.kia_one W.kitx_list I.kIn ⟨_,h1,rfl⟩ e (λz=>nomatch z) h
 |@tup a xs ea=>
  cases (show u=Value.ref a from rx);obtain⟨_,_,_,p⟩:=(show ObjOk X.prog X.w H s.heap a (.tup xs) from I.hok a _ ea)
  obtain⟨o,h1,h2,_⟩:=p;exact W.kia_one W.kitx_tuple I.kIn ⟨o,h1,h2⟩ e (λz=>nomatch z) h
 |@dK a kvs ea=>
  cases (show u=Value.ref a from rx);obtain⟨_,_,vs,_,p⟩:=(show ObjOk X.prog X.w H s.heap a (.dK kvs) from I.hok a _ ea)
  obtain⟨o,es,ep,h1,h2,_⟩:=p;exact W.kia_one W.kitx_dict I.kIn ⟨o,h1,h2.1⟩ e (λz=>nomatch z) h
 |@dT a kvs ea=>
  cases (show u=Value.ref a from rx);obtain⟨_,_,xs,_,o,es,ep,h1,h2,_⟩:=(show ObjOk X.prog X.w H s.heap a (.dT kvs) from I.hok a _ ea)
  exact W.kia_one W.kitx_dict I.kIn ⟨o,h1,h2.1⟩ e (λz=>nomatch z) h
 |@ins a C dx fs ea cl ha hn htk hm=>
  cases (show u=Value.ref a from rx);obtain⟨mA,O,_⟩:=VP I.hok ea
  obtain⟨od,J,_⟩:=O.look;exact W.kia_one (W.kitx_own (cl.get _) cl.hd ha hn htk hm) I.kIn J e (λz=>nomatch z) h
end
structure Room (k:Nat) (A:Around):Prop where
 hd:A.handled=none
 dp:A.depth+k+5<recursionLimit
 un:A.units+16*k+200<cLine
 gd:A.guards=some []
theorem Room.mono(r:Room k A)(h:j<=k):Room j A:=⟨r.hd,by have:=r.dp;omega,by have:=r.un;omega,r.gd⟩
theorem Room.deeper(r:Room (k+1) A)(env:Env):Room k (A.deeper env):=
 ⟨r.hd,by have:=r.dp;show A.depth+1+k+5<_;omega,by have:=r.un;show A.units+3+16*k+200<_;omega,r.gd⟩
theorem Room.in1(r:Room (k+1) A):Room k A.in1 :=
 ⟨r.hd,by have:=r.dp;show A.depth+k+5<_;omega,by have:=r.un;show A.units+1+16*k+200<_;omega,r.gd⟩
theorem zb1{A:Around}:(A.under (.builtin "type.__call__" ⟨.ref C::us,kw⟩)).depth=A.depth+1:=by
 first | rfl | simp[Around.under,Code.weight,Code.isCreation,Code.isGuard,Code.isCaller,Code.frames,Code.isFrame,guardIds]
theorem zbZ{A:Around}:(A.under (.builtin "type.__call__" ⟨.ref C::us,kw⟩)).units=A.units+1:=by
 first | rfl | simp[Around.under,Code.cUnits,Code.frames,Code.isFrame]
theorem Room.make(r:Room (k+1) A)(C:Addr)(us:List Value)(kw:List (Str×Value)):Room k (A.under (.builtin "type.__call__" ⟨.ref C::us,kw⟩)):=
 ⟨r.hd,by have:=r.dp;rw[zb1];omega,by have:=r.un;rw[zbZ];omega,by first | exact r.gd | (simp[Around.under,Code.guards,Code.isGuard,guardIds];exact r.gd)⟩
theorem Room.depth(r:Room k A):A.depth<recursionLimit:=by have:=r.dp;omega
theorem Room.units(r:Room k A):A.units+64<cLine:=by have:=r.un;omega
def W0:TA:=λ_ H Q=>Q [] H
def j8(ta:TE)(tr:TA):TA:=fun σ H Q=>ta σ H λx H1=>tr σ H1 λxs H2=>Q (x::xs) H2
section
variable {X:Cx} {e:Expr} {es:List Expr} {te:TE} {t:TA} {pos:Pos}
theorem zj:PA X [] W0:=λ_ _ _ _ H Q I h=>Calls.spliced_nil ⟨[],H,I,.nil,h⟩
theorem zf(ha:PE X e te)(hr:PA X es t)(hs:starEach (e::es) X.env=(false,eval e X.env)::starEach es X.env:=by rfl):PA X (e::es) (j8 te t):=by
 intro pos pins s σ H Q I h;rw[hs];refine Calls.spliced_cons (thn (ha pins s σ H _ I h) λu s1 ⟨x,H1,I1,r1,q1⟩=>?_);exact thn (hr pos pins s1 σ H1 _ I1 q1) λus s2 ⟨xs,H2,I2,r2,q2⟩=>⟨x::xs,H2,I2,.cons r1 r2,q2⟩
def zhY(t:TA):TE:=fun σ H Q=>t σ H λxs H1=>xs.length<=sizeLine/\∀p,H1 p=none->Q (.ref p) (upd H1 p (.tup xs))
def zc1(t:TA):TE:=fun σ H Q=>t σ H λxs H1=>xs.length<=sizeLine/\∀p,H1 p=none->Q (.ref p) (upd H1 p (.lst xs))
theorem wu{x1}(h:PA X es t):PE X (.Tuple es x1 pos) (zhY t):=by
 intro pins s σ H Q I hq;refine wpAny_Tuple_spliced (thn (h pos pins s σ H _ I hq) λus s1 ⟨xs,H1,I1,r,z,q⟩=>⟨by rw[<-r.length];exact z,?_⟩);have hf:=I1.hok.fresh (Nat.le_refl _);refine⟨.ref s1.heap.objs.size,upd H1 s1.heap.objs.size (.tup xs),I1.laid (λb u e=>Heap.get?_push_of_some _ e) (Nat.le_refl _) ?_,rfl,q _ hf⟩;exact⟨z,us,r,⟨_,Heap.get?_push_size _ rfl,rfl,_,rfl⟩⟩
theorem yc(h:PA X es t):PE X (.List es pos) (zc1 t):=by
 intro pins s σ H Q I hq;refine wpAny_List_spliced (thn (h pos pins s σ H _ I hq) λus s1 ⟨xs,H1,I1,r,z,q⟩=>⟨by rw[<-r.length];exact z,?_⟩);have hf:=I1.hok.fresh (Nat.le_refl _);refine⟨.ref s1.heap.objs.size,upd H1 s1.heap.objs.size (.lst xs),I1.laid (λb u e=>Heap.get?_push_of_some _ e) (Nat.le_refl _) ?_,rfl,q _ hf⟩;exact⟨z,us,0,r,Heap.get?_push_size _ rfl⟩
end
abbrev Sp:=List V->Hp->VK->XK->Prop
abbrev CXT:=List Env->Hp->Shared->XK->Value->Shared->Prop
structure Env0 (P:Program) (w:World) (K:W.Frag) (mg:Str->Option Value) (base:Heap) (A:Around) (outer:List Env) (s:Shared) (H:Hp):Prop where
 frames:A.frames=some outer
 mod:Mod K mg base
 bs:∀b o,base.get? b=some o->s.heap.get? b=some o/\H b=none
 bsz:base.objs.size<=s.heap.objs.size
 funs:s.heap.FunFrames base outer
 frf:∀b∈frs outer,H b=none
 hok:HOk P w H s.heap
 bare:AllBare s.gens
def CE(outer:List Env)(P:Program)(w:World)(H:Hp)(s:Shared)(Q:VK)(u:Value)(s':Shared):Prop :=
 ∃v H',s'.os=s.os/\AllBare s'.gens/\Un (frs outer) [] H H' s.heap s'.heap/\HOk P w H' s'.heap/\RelV v u/\Q v H'
def CR(CX:CXT)(outer:List Env)(P:Program)(w:World)(H:Hp)(s:Shared)(Q:VK)(E:XK)(r:Result)(s':Shared):Prop :=
 match r with
 |.ok (.ret u)=>CE outer P w H s Q u s'
 |.ok _=>False
 |.error e=>CX outer H s E e s'
structure FnOk (P:Program) (w:World) (K:W.Frag) (mg:Str->Option Value) (base:Heap) (CX:CXT) (k:Nat) (f:Addr) (fd:FuncData) (ps:List Str) (sp:Sp):Prop where
 len:∀vs H Q E,sp vs H Q E->vs.length=ps.length
 run:∀(A:Around) (outer:List Env) (s:Shared) (H:Hp) (args:Args) (us:List Value) (vs:List V) (Q:VK) (E:XK),Room k A->Env0 P w K mg base A outer s H->BindsTo s fd args (ps.zip us)->Vals vs us->sp vs H Q E ->
  codeAny (model P w) A (.call (.ref f) args) (CR CX outer P w H s Q E) s
theorem FnOk.imp{K:W.Frag}(F:FnOk P w K mg base CX k f fd ps sp)(h:∀vs H Q E,sp' vs H Q E->sp vs H Q E):FnOk P w K mg base CX k f fd ps sp' :=
 ⟨λvs H Q E q=>F.len vs H Q E (h _ _ _ _ q),λA outer s H args us vs Q E hr he hb hv hs=>F.run A outer s H args us vs Q E hr he hb hv (h _ _ _ _ hs)⟩
theorem Env0.make{K:W.Frag}(e:Env0 P w K mg base A outer s H)(C:Addr)(us:List Value)(kw:List (Str×Value)):
  Env0 P w K mg base (A.under (.builtin "type.__call__" ⟨.ref C::us,kw⟩)) outer s H:=⟨by first | exact e.frames | (simpa[Around.under,Code.envs,Code.isFrame,pushEnvs] using e.frames),e.mod,e.bs,e.bsz,e.funs,e.frf,e.hok,e.bare⟩
theorem Env0.in1{K:W.Frag}(e:Env0 P w K mg base A outer s H):
  Env0 P w K mg base A.in1 outer s H:=⟨e.frames,e.mod,e.bs,e.bsz,e.funs,e.frf,e.hok,e.bare⟩
section
variable {X:Cx} {pins:List (Addr×Obj)} {σ:St} {H:Hp} {s s':Shared}
theorem Inv.env0(I:Inv X pins σ H s):Env0 X.prog X.w X.K X.mg X.base X.A X.stack s H :=
 ⟨I.ok.frames,I.ok.mod,I.bs,Nat.le_trans I.ok.bsz I.sz,I.stack,I.stkFree,I.hok,I.bare⟩
theorem Inv.after(I:Inv X pins σ H s)(h:CE X.stack X.prog X.w H s Q u s'):EP X pins σ Q u s':=by
 obtain⟨v,H',os,bare,un,hok,r,q⟩:=h;obtain⟨hh,g,d,t,os'⟩:=s';obtain rfl:os'=s.os:=os;exact⟨v,H',I.call un hok bare (λb z=>absurd z (by simp)),r,q⟩
end
def zd2(sp:Sp)(dvs:List V)(E:XK)(t:TA):TE:=fun σ H Q=>t σ H λvs H1=>sp (vs++dvs) H1 Q E
def zcN(C:Addr)(m:Str)(sp:Sp)(dvs:List V)(E:XK)(ta:TE)(t:TA):TE:=fun σ H Q=>ta σ H λx H1=>Ex3 λa dx fs=>x=.ref a/\H1 a=some (.ins C dx fs)/\fs.lookup m=none /\
 t σ H1 λvs H2=>sp (x::(vs++dvs)) H2 Q E
def zhR(C:Addr)(sp:Sp)(dvs:List V)(E:XK)(t:TA):TE:=fun σ H Q=>t σ H λvs H1=>∀x dx,H1 x=none->H1 dx=none->dx≠x ->
 sp (.ref x::(vs++dvs)) (upd (upd H1 dx (.own x)) x (.ins C dx [])) (λv H2=>v=.non/\Q (.ref x) H2) E
def Binds(K:W.Frag)(fd:FuncData)(ps:List Str)(ds:List Value):Prop :=
 ∀s us,K.In s.heap->(us++ds).length=ps.length->BindsTo s fd ⟨us,[]⟩ (ps.zip (us++ds))
theorem Binds.all{K:W.Frag}(h:∀us:List Value,us.length=ps.length->bindArgs fd ⟨us,[]⟩=pure (ps.zip us)):Binds K fd ps []:=λs us _ hl=>by
 rw[List.append_nil]at hl ⊢;exact .of_eq (h us hl)
def Xj(CX:CXT)(X:Cx)(E:XK):Prop:=∀(pins:List (Addr×Obj)) (σ:St) (H:Hp) (s:Shared) (e:Value) (s':Shared),Inv X pins σ H s->CX X.stack H s E e s'->X.xe e s'
section
variable {X:Cx} {CX:CXT} {k:Nat} {f C:Addr} {fd:FuncData} {ps:List Str} {sp:Sp} {dvs:List V} {ds:List Value} {E:XK} {x m:Str} {p pos apos:Pos} {e o:Expr} {es:List Expr} {ta:TE} {t:TA}
theorem zby{σ:St}(F:FnOk X.prog X.w X.K X.mg X.base CX k f fd ps sp)(hr:Room k X.A)(hb:Binds X.K fd ps ds)(hd:Vals dvs ds)(hx:Xj CX X E)(I:Inv X pins σ H s)(r:Vals vs us)(h:sp (vs++dvs) H Q E):wpAny (model X.prog X.w) X.A (call (.ref f) us) (EP X pins σ Q) X.xe s:=by
 have r2:=r.append hd;have hl:(us++ds).length=ps.length:=by rw[<-r2.length];exact F.len _ _ _ _ h
 refine wpAny_call (codeAny_mono (F.run X.A X.stack s H ⟨us,[]⟩ (us++ds) (vs++dvs) Q E hr I.env0 (hb s us I.kIn hl) r2 h) λr s' hq=>?_);cases r with
 |error e=>exact hx pins σ H s e s' I hq
 |ok fl=>
  cases fl with
  |ret u=>exact I.after hq
  |next=>exact False.elim hq
  |brk=>exact False.elim hq
  |cont=>exact False.elim hq
theorem zfZ(F:FnOk X.prog X.w X.K X.mg X.base CX k f fd ps sp)(hr:Room k X.A)(hg:Gl X x)(hm:X.mg x=some (.ref f))(hk:W.keepIn X.K (.ref f)=true)(hb:Binds X.K fd ps ds)(hd:Vals dvs ds)(hx:Xj CX X E)(ha:PA X (e::es) t)(hdb:(x == ("__debug__" : Str))=false:=by decide)(he:starEach (e::es) X.env=(false,eval e X.env)::starEach es X.env:=by rfl)(hpl:(backTo pos (starEach es X.env)).any (·.1)=false:=by rfl):
  PE X (.Call (.Name x p) (e::es) [] pos) (zd2 sp dvs E t):=by
 intro pins s σ H Q I h;refine wpAny_Call_Name_kw (Yr I hg hm ?_ hdb);refine W.callWith_K I.ok.mod.kin hk (thn (ha pos pins s σ H _ I h) λus s1 ⟨vs,H1,I1,r,q⟩=>⟨I1.kIn,?_⟩) he hpl;exact zby F hr hb hd hx I1 r q
theorem zfX{pl:Sem Bool}(he:PE X o ta)(c:Cls X.K C)(hm:Meth X.K C m f)(F:FnOk X.prog X.w X.K X.mg X.base CX k f fd ps sp)(hr:Room k X.A)(hb:Binds X.K fd ps ds)(hd:Vals dvs ds)(hx:Xj CX X E)(ha:PA X (e::es) t)(hst:starEach (e::es) X.env=(false,eval e X.env)::starEach es X.env:=by rfl)(hpl:(backTo pos (starEach es X.env)).any (·.1)=false:=by rfl)(ht:eval (.Call (.Attribute o m apos) (e::es) [] pos) X.env=(do
   let ov <-eval o X.env
   standAt apos.atName
   let (f,first) <-holding [ov] (getMethod ov m pl)
   callWith pos f first (backTo pos (starEach (e::es) X.env)) (backToKw pos (keywordEach [] X.env))):=by rfl):
  PE X (.Call (.Attribute o m apos) (e::es) [] pos) (zcN C m sp dvs E ta t):=by
 intro pins s σ H Q I h;refine W.methodCall_KW (thn (he pins s σ H _ I h) λu s1 ⟨x,H1,I1,rx,a,dx,fs,ex,ea,l,q⟩=>?_) ht;subst ex;obtain rfl:u=Value.ref a:=rx;refine Xg I1 ea c hm l ?_;refine W.callWith_K I.ok.mod.kin hm.kp (thn (ha pos pins s1 σ H1 _ I1 q) λus s2 ⟨vs,H2,I2,r,q2⟩=>⟨I2.kIn,?_⟩) hst hpl;exact zby (vs:=.ref a::vs) F hr hb hd hx I2 (.cons rfl r) q2
theorem zer(he:PE X o ta)(c:Cls X.K C)(hm:Meth X.K C m f)(F:FnOk X.prog X.w X.K X.mg X.base CX k f fd ps sp)(hr:Room k X.A)(hb:Binds X.K fd ps ds)(hd:Vals dvs ds)(hx:Xj CX X E)(ht:eval (.Call (.Attribute o m apos) [] [] pos) X.env=(do
   let ov <-eval o X.env
   standAt apos.atName
   let (f,first) <-holding [ov] (getMethod ov m pl)
   callWith pos f first (backTo pos (starEach [] X.env)) (backToKw pos (keywordEach [] X.env))):=by rfl):
  PE X (.Call (.Attribute o m apos) [] [] pos) (zcN C m sp dvs E ta W0):=by
 intro pins s σ H Q I h;refine W.methodCall_KW (thn (he pins s σ H _ I h) λu s1 ⟨x,H1,I1,rx,a,dx,fs,ex,ea,l,q⟩=>?_) ht;subst ex;obtain rfl:u=Value.ref a:=rx;refine Xg I1 ea c hm l ?_;exact W.callWith_K0 I1.kIn hm.kp (zby (vs:=[.ref a]) F hr hb hd hx I1 (.cons rfl .nil) q)
structure Mk (K:W.Frag) (C f:Addr):Prop where
 makes:W.makesIn K C=true
 init:W.findIn K (.ref C) "__init__"= some (some (.ref f))
 fn:W.isFn K (.ref f)=true
 kp:W.keepIn K (.ref C)=true
theorem zdY{σ:St}(M:Mk X.K C f)(F:FnOk X.prog X.w X.K X.mg X.base CX k f fd ps sp)(hr:Room (k+1) X.A)(hb:Binds X.K fd ps ds)(hd:Vals dvs ds)(hx:Xj CX X E)(I:Inv X pins σ H s)(r:Vals vs us)(h:∀x dx,H x=none->H dx=none->dx≠x->sp (.ref x::(vs++dvs)) (upd (upd H dx (.own x)) x (.ins C dx [])) (λv H2=>v=.non/\Q (.ref x) H2) E):
  wpAny (model X.prog X.w) X.A (call (.ref C) us) (EP X pins σ Q) X.xe s:=by
 have hq:=h (s.heap.objs.size+1) s.heap.objs.size (I.hok.fresh (Nat.le_succ _)) (I.hok.fresh (Nat.le_refl _)) (Nat.ne_of_lt (Nat.lt_succ_self _));have I2:=Inv.made (C:=C) I;have r2:Vals (V.ref (s.heap.objs.size+1)::(vs++dvs)) (Value.ref (s.heap.objs.size+1)::(us++ds)):=.cons rfl (r.append hd);have hl:(Value.ref (s.heap.objs.size+1)::us++ds).length=ps.length:=by
  have e:=r2.length;rw[F.len _ _ _ _ hq]at e;exact e.symm
 refine wpAny_call (zfm I.kIn M.makes M.init (beq_iff_eq.mp M.fn) (codeAny_mono (F.run _ X.stack _ _ ⟨Value.ref (s.heap.objs.size+1)::us,[]⟩ (Value.ref (s.heap.objs.size+1)::(us++ds)) _ _ E (hr.make C us [])
  (I2.env0.make C us []) (hb _ (Value.ref (s.heap.objs.size+1)::us) I2.kIn hl) r2 hq) λr s' hq'=>?_))
 cases r with
 |error e=>exact hx pins σ _ _ e s' I2 hq'
 |ok fl=>
  cases fl with
  |ret u=>
   obtain⟨v,H',I3,rv,ev,q3⟩:=I2.after hq';subst ev;exact⟨rv,⟨V.ref (s.heap.objs.size+1),H',I3,rfl,q3⟩⟩
  |next=>exact False.elim hq'
  |brk=>exact False.elim hq'
  |cont=>exact False.elim hq'
theorem Wd(M:Mk X.K C f)(F:FnOk X.prog X.w X.K X.mg X.base CX k f fd ps sp)(hr:Room (k+1) X.A)(hg:Gl X x)(hm:X.mg x=some (.ref C))(hb:Binds X.K fd ps ds)(hd:Vals dvs ds)(hx:Xj CX X E)(ha:PA X (e::es) t)(hdb:(x == ("__debug__" : Str))=false:=by decide)(he:starEach (e::es) X.env=(false,eval e X.env)::starEach es X.env:=by rfl)(hpl:(backTo pos (starEach es X.env)).any (·.1)=false:=by rfl):
  PE X (.Call (.Name x p) (e::es) [] pos) (zhR C sp dvs E t):=by
 intro pins s σ H Q I h;refine wpAny_Call_Name_kw (Yr I hg hm ?_ hdb);refine W.callWith_K I.ok.mod.kin M.kp (thn (ha pos pins s σ H _ I h) λus s1 ⟨vs,H1,I1,r,q⟩=>⟨I1.kIn,?_⟩) he hpl;exact zdY M F hr hb hd hx I1 r q
end
section
variable {X:Cx} {CX:CXT} {k:Nat} {f C:Addr} {fd:FuncData} {ps ks:List Str} {sp:Sp} {E:XK} {x m:Str} {p pos apos kpos:Pos} {e o:Expr} {es:List Expr} {kws:List Keyword} {te ta:TE} {t tk:TA} {nm:Option Str}
variable {g:List Value->List Value->List Value} {gV:List V->List V->List V}
end
structure zE (N P:List Str) (sc:Scope):Prop where
 kind:sc.kind=.function:=by rfl
 co:sc.isCoroutine=false:=by rfl
 gen:sc.isGenerator=false:=by rfl
 nd:N.Nodup:=by decide +kernel
 pre:N.take P.length=P:=by rfl
 par:∀x∈P,sc.names.lookup x=some .local\/sc.names.lookup x=some .cell:=by decide +kernel
 nofree:∀y∈sc.names,y.2≠.free:=by decide +kernel
theorem QZ{kindOf:Str->Option NameKind}{x:Str}:∀{binds:List (Str×Value)} {m:Str->Option Value},(∀v,(x,v)∉binds)->bindL kindOf binds m x=m x
 |[],_,_=>rfl
 | (n,v)::r,m,h=>by
  unfold bindL;rw[QZ λw hw=>h w (List.mem_cons_of_mem _ hw)];split
  ·have:x≠n:=by rintro rfl;exact h v List.mem_cons_self
   simp[this]
  ·rfl
theorem Jo{kindOf:Str->Option NameKind}{x:Str}:∀{binds:List (Str×Value)} {m:Str->Option Value},(∀v,(x,v)∉binds)->bindC kindOf binds m x=m x
 |[],_,_=>rfl
 | (n,v)::r,m,h=>by
  unfold bindC;rw[Jo λw hw=>h w (List.mem_cons_of_mem _ hw)];split
  ·rfl
  ·have:x≠n:=by rintro rfl;exact h v List.mem_cons_self
   simp[this]
theorem Jd{kindOf:Str->Option NameKind}{x:Str}{v:Value}:∀{P:List Str} {vs:List Value} {i:Nat} {m:Str->Option Value},P.Nodup->P[i]?=some x->vs[i]?=some v->kindOf x=some .local ->
  bindL kindOf (P.zip vs) m x=some v
 |[],_,_,_,_,h,_,_=>by simp at h
 |_::_,[],_,_,_,_,h,_=>by simp at h
 |p::P,w::vs,0,m,nd,h1,h2,hk=>by
  simp at h1 h2;subst h1;subst h2;show bindL kindOf ((p,w)::P.zip vs) m p=_;unfold bindL;rw[QZ λv hv=>(List.nodup_cons.mp nd).1 (List.of_mem_zip hv).1,if_pos hk];simp
 |p::P,w::vs,i+1,m,nd,h1,h2,hk=>by
  show bindL kindOf ((p,w)::P.zip vs) m x=_;unfold bindL;exact Jd (i:=i) (List.nodup_cons.mp nd).2 (by simpa using h1) (by simpa using h2) hk
theorem Jj{kindOf:Str->Option NameKind}{x:Str}{v:Value}:∀{P:List Str} {vs:List Value} {i:Nat} {m:Str->Option Value},P.Nodup->P[i]?=some x->vs[i]?=some v->kindOf x≠some .local ->
  bindC kindOf (P.zip vs) m x=some v
 |[],_,_,_,_,h,_,_=>by simp at h
 |_::_,[],_,_,_,_,h,_=>by simp at h
 |p::P,w::vs,0,m,nd,h1,h2,hk=>by
  simp at h1 h2;subst h1;subst h2;show bindC kindOf ((p,w)::P.zip vs) m p=_;unfold bindC;rw[Jo λv hv=>(List.nodup_cons.mp nd).1 (List.of_mem_zip hv).1,if_neg hk];simp
 |p::P,w::vs,i+1,m,nd,h1,h2,hk=>by
  show bindC kindOf ((p,w)::P.zip vs) m x=_;unfold bindC;exact Jj (i:=i) (List.nodup_cons.mp nd).2 (by simpa using h1) (by simpa using h2) hk
def start(N:List Str)(vs:List V):St:=vs.map some++List.replicate (N.length-vs.length) none
def YD(CX:CXT)(P:Program)(w:World)(K:W.Frag)(mg:Str->Option Value)(base:Heap)(N:List Str)(qual:Str)(scope:Scope)(f:Addr)(cd:Value)(A:Around)(outer:List Env)(s:Shared)(H:Hp)(E:XK):Cx where
 prog:=P
 w:=w
 K:=K
 mg:=mg
 base:=base
 A:=A.deeper (envOfC qual scope s.heap.objs.size f cd)
 N:=N
 s₀:=s
 H₀:=H
 env:=envOfC qual scope s.heap.objs.size f cd
 outer:=outer
 stack:=envOfC qual scope s.heap.objs.size f cd::outer
 ex:=[]
 calm:=true
 fn:=λ_=>true
 pn:=[]
 xe:=λe s'=>wpAny (model P w) (A.deeper (envOfC qual scope s.heap.objs.size f cd)) (leaving (envOfC qual scope s.heap.objs.size f cd) e) (λ_ s''=>CX outer H s E e s'') (λe' s''=>CX outer H s E e' s'') s'
theorem zaH{sc:Scope}(h:sc.names.lookup x=some .cell):∃c,(cellsFrom n sc.names []).lookup x=some c:=by
 have q:=W.cellsFrom_some sc.names n [] (.inl h);exact Option.isSome_iff_exists.mp q
theorem Jp{K:W.Frag}(S:zE N ps scope)(hd:A.handled=none)(e0:Env0 P w K mg base A outer s H)(hl:vs.length=ps.length)(r:Vals vs us)(x:InCallC s s.heap.objs.size (bindL (envOfC qual scope s.heap.objs.size f cd).kindOf (ps.zip us) λ_=>none) (cellsFrom (s.heap.objs.size+1) scope.names []) (bindC (envOfC qual scope s.heap.objs.size f cd).kindOf (ps.zip us) λ_=>none) s1):
  Inv (YD CX P w K mg base N qual scope f cd A outer s H E) [] (start N vs) H s1:=by
 have hpl:ps.length<=N.length:=by have:=congrArg List.length S.pre;rw[List.length_take]at this;omega
 obtain⟨h1,tk,rfl,hk⟩:=x.done;have noA:∀b:Addr,b∉(YD CX P w K mg base N qual scope f cd A outer s H E).ex:=λb z=>absurd (show b∈([]) from z) (by simp);refine⟨⟨e0.mod,S.kind,rfl,rfl,Nat.le_refl _,λy z c h1 h2=>?_,λy hy=>?_,λy c _ h=>?_,λ_=>hd,Around.frames_deeper e0.frames,.inr ⟨rfl,rfl⟩,λb z=>absurd z (noA b),e0.bs,e0.bsz,λb _ _=>noA b,λb z=>absurd z (noA b),e0.funs,e0.frf⟩,
  rfl,e0.bare,Un.kept hk,⟨_,x.toInCall.ns,λi y v h1 h2 h3=>?_⟩,λy c h=>⟨_,x.cell y c h⟩,e0.hok.fresh (Nat.le_refl _),λy c h=>?_,λp hp=>absurd (show p∈([]) from hp) (by simp),e0.hok.kept hk,?_⟩
 ·exact name_of_addr x.apart (PySem.mem_of_lookup h1) (PySem.mem_of_lookup h2)
 ·have hy:=hy;rcases hy with hy | hy
  ·exact zaH hy
  ·exact absurd rfl (S.nofree _ (PySem.mem_of_lookup hy))
 ·exact Nat.le_of_lt (x.above y c (PySem.mem_of_lookup h))
 ·have hi:i<vs.length:=by
   unfold start at h2;by_cases hi:i<vs.length
   ·exact hi
   ·rw[List.getElem?_append_right (by simpa using hi)]at h2;rw[List.getElem?_replicate]at h2;split at h2<;>cases h2
  have ha:vs[i]?=some v:=by
   unfold start at h2;rw[List.getElem?_append_left (by simpa using hi),List.getElem?_map]at h2;cases e:vs[i]? with
   |none=>rw[e]at h2;cases h2
   |some a=>rw[e]at h2;cases h2;rfl
  obtain⟨u,hu,rv⟩:=r.get ha;have hp:ps[i]?=some y:=by
   rw[<-S.pre,List.getElem?_take_of_lt (by omega)];exact h1
  have ndP:ps.Nodup:=by rw[<-S.pre];exact S.nd.sublist (List.take_sublist _ _)
  refine⟨u,rv,?_⟩;rcases S.par y (List.mem_of_getElem? hp) with k | k
  ·exact .inl ⟨k,Jd ndP hp hu k⟩
  ·obtain⟨c,e⟩:=zaH k;refine .inr ⟨.inl k,c,e,?_⟩;have q:=x.cell y c e;rw[Jj ndP hp hu (by show scope.names.lookup y≠_;rw[k];decide)]at q;exact q
 ·exact e0.hok.fresh (Nat.le_of_lt (x.above y c (PySem.mem_of_lookup h)))
 ·unfold start;show _=N.length;rw[List.length_append,List.length_map,List.length_replicate];omega
theorem zeV{K:W.Frag}{dV kV doc pm cdv ct oc:Value}(lk:K.lookup f=some ⟨oc,od,.func (W.fnOf name qual params body scope dV kV doc pm an cdv ct),osl⟩)(hcd:W.codeIn K cdv qual=true)(S:zE N ps scope)(len:∀vs H Q E,sp vs H Q E->vs.length=ps.length)(hbody:∀A outer s H vs Q E,Room k (A.deeper (envOfC qual scope s.heap.objs.size f cdv))->sp vs H Q E ->
   ∃t,PSs (YD CX P w K mg base N qual scope f cdv A outer s H E) body t/\t { nx:=λ_ H'=>Q .non H',rt:=Q } (start N vs) H):
  FnOk P w K mg base CX (k+1) f (W.fnOf name qual params body scope dV kV doc pm an cdv ct) ps sp:=by
 refine⟨len,λA outer s H args us vs Q E hr e0 hb r hsp=>?_⟩;have hl:=len _ _ _ _ hsp;have KX:=e0.mod.kin.keeps λb o e=>(e0.bs b o e).1;have lim:=e0.mod.nolimit.keeps λb o e=>(e0.bs b o e).1;have hkind:∀y∈ps.zip us,scope.names.lookup y.1=some .local\/(scope.names.lookup y.1=some .cell/\((cellsFrom (s.heap.objs.size+1) scope.names []).lookup y.1).isSome=true):=λ⟨n,v⟩ hy=>by
  rcases S.par n (List.of_mem_zip hy).1 with q | q
  ·exact .inl q
  ·exact .inr ⟨q,W.cellsFrom_some _ _ _ (.inl q)⟩
 refine codeAny_call_function hr.depth (KX _ _ lk) rfl S.co S.gen rfl (W.codeRec_of KX hcd) (hb _ _ _ _ ?_);refine wpAny_newFunctionEnv_cells S.kind hkind λenv he s1 x=>?_;subst he;refine⟨lim.keeps x.toInCall.keep,codeAny_func ?_⟩;obtain⟨t,ht,hq⟩:=hbody A outer s H vs Q E (hr.deeper _) hsp;have I:Inv (YD CX P w K mg base N qual scope f cdv A outer s H E) [] (start N vs) H s1:=Jp S hr.hd e0 hl r x;refine wpAny_mono (ht [] s1 (start N vs) H _ I hq) (λfl s' hs=>?_) λe s' hs=>hs;have fin:∀{σ':St} {H':Hp} {v:V} {u:Value},Inv (YD CX P w K mg base N qual scope f cdv A outer s H E) [] σ' H' s'->RelV v u->Q v H'->CE outer P w H s Q u s' :=
  λ{σ' H' v u} J rv q=>⟨v,H',J.os,J.bare,J.base,J.hok,rv,q⟩
 cases fl with
 |ret u=>
  obtain⟨v,σ',H',J,rv,q⟩:=hs;exact fin J rv q
 |next=>
  obtain⟨σ',H',J,q⟩:=hs;exact fin (v:=V.non) J rfl q
 |brk=>
  obtain⟨_,_,_,q⟩:=hs;exact False.elim q
 |cont=>
  obtain⟨_,_,_,q⟩:=hs;exact False.elim q
section
variable {X:Cx} {x:Str} {p pos:Pos} {e:Expr} {es:List Expr} {t:TA} {id T:String} {r:List V->Hp->VK->Prop}
def tCB(r:List V->Hp->VK->Prop)(t:TA):TE:=fun σ H Q=>t σ H λvs H1=>r vs H1 Q
theorem zA(hc:wF X (.builtin id) r)(hg:Gl X x)(hm:X.mg x=none)(hv:bootBuiltins x=some (.builtin id))(ha:PA X (e::es) t)(hn:x ≠ "__name__":=by decide)(hdb:(x == ("__debug__" : Str))=false:=by decide)(he:starEach (e::es) X.env=(false,eval e X.env)::starEach es X.env:=by rfl)(hpl:(backTo pos (starEach es X.env)).any (·.1)=false:=by rfl):PE X (.Call (.Name x p) (e::es) [] pos) (tCB r t):=by
 intro pins s σ H Q I h;refine wpAny_Call_Name_kw (jD I hg hm hv ?_ hn hdb);exact PyProof.Rows.callWith_builtin1 (thn (ha pos pins s σ H _ I h) λus s1 ⟨vs,H1,I1,r1,q1⟩=>hc pins s1 σ H1 vs us Q I1 r1 q1) he hpl
theorem yR(hc:wF X (.type T) r)(hg:Gl X x)(hm:X.mg x=none)(hv:bootBuiltins x=some (.type T))(ha:PA X (e::es) t)(hn:x ≠ "__name__":=by decide)(hdb:(x == ("__debug__" : Str))=false:=by decide)(he:starEach (e::es) X.env=(false,eval e X.env)::starEach es X.env:=by rfl)(hpl:(backTo pos (starEach es X.env)).any (·.1)=false:=by rfl):PE X (.Call (.Name x p) (e::es) [] pos) (tCB r t):=by
 intro pins s σ H Q I h;refine wpAny_Call_Name_kw (jD I hg hm hv ?_ hn hdb);exact PyProof.Rows.callWith_type1 (thn (ha pos pins s σ H _ I h) λus s1 ⟨vs,H1,I1,r1,q1⟩=>hc pins s1 σ H1 vs us Q I1 r1 q1) he hpl
end
end L2
namespace HT
open PySem PyProof.Rows
def lexLt:List Int->List Int->Bool
 |[],[]=>false
 |[],_::_=>true
 |_::_,[]=>false
 |x::xs,y::ys=>if x=y then lexLt xs ys else decide (x<y)
theorem uF(x y:Int)(xs ys:List Int):lexLt (x::xs) (y::ys)=if x=y then lexLt xs ys else decide (x<y):=rfl
theorem YQ:lexLt [] []=false:=rfl
theorem UG(y:Int)(ys:List Int):lexLt [] (y::ys)=true:=rfl
theorem uc(x:Int)(xs:List Int):lexLt (x::xs) []=false:=rfl
theorem zen(A:Around)(s:Shared)(a:Int)(t:Tok)(c:Int)(u:Tok):∃e,SeqAt.EqAt A s (.int a t) (.int c u) e/\(e=true↔a=c):=
 ⟨(a == c),SeqAt.EqAt.int_int a t c u,by simp⟩
theorem zbg(A:Around)(s:Shared)(a:Int)(t:Tok)(c:Int)(u:Tok)(prog:Program)(w:World)(E:Value->Shared->Prop)(Q:Value->Shared->Prop)(h:Q (.bool (decide (a<c))) s):
  wpAny (model prog w) A (richCompare .Lt (.int a t) (.int c u)) Q E s :=
 (PyProof.Rows.lt_int h)
section
open PySem.SeqAt
open PySem.AutoSeq1 (wpAny_loadPart')
open PySem.MeetsSeq PySem.MeetsSeq2 PySem.MeetsSeq3
end
section
variable {prog:Program} {w:World} {A:Around} {E:Value->Shared->Prop} {s:Shared}
theorem zfA(ht:IsTup s.heap t vs.toArray)(hb:IsTup s.heap b ws.toArray)(hv:vs≠[])(h1:ws=[]->Q (.ref t) s)(h2:ws≠[]->Q (.ref s.heap.objs.size) { s with heap:=s.heap.push { cls:=.type "tuple",data:=.seq (vs++ws).toArray } })(hsz:vs.length+ws.length<=sizeLine):wpAny (model prog w) A (binaryOp .Add (.ref t) (.ref b)) Q E s:=by
 obtain⟨⟨cls,dd,data,sl⟩,ho,hc,n,hd⟩:=id ht;obtain⟨⟨cls2,dd2,data2,sl2⟩,ho2,hc2,n2,hd2⟩:=id hb;subst hc hd hc2 hd2;have e:vs.toArray++ws.toArray=(vs++ws).toArray:=by simp
 by_cases hw:ws=[]
 ·exact concat_meets ⟨_,ho,rfl⟩ ⟨_,ho2,rfl⟩ noFill_tuple_add seq_tuple_add PySem.F.slot_tuple_add PySem.F.entry_tuple_add (PySem.F.args_tuple_add_2 _ _)
   (tuple_addW1 t b vs.toArray ws.toArray n n2 dd dd2 sl sl2 (by simpa using hv) (by simp[hw])) ⟨ho,ho2,h1 hw⟩
 ·refine concat_meets ⟨_,ho,rfl⟩ ⟨_,ho2,rfl⟩ noFill_tuple_add seq_tuple_add PySem.F.slot_tuple_add PySem.F.entry_tuple_add (PySem.F.args_tuple_add_2 _ _)
   (tuple_addW2 t b vs.toArray ws.toArray n n2 dd dd2 sl sl2 (by simpa using hv) (by simpa using hw) (by exact hsz)) ⟨ho,ho2,?_⟩
  rw[e];exact h2 hw
def sIx(n d:Nat):Option Int->Nat
 |none=>d
 |some v=>if v<0 then (v+(n:Int)).toNat else min v.toNat n
theorem Uw(n d:Nat):sIx n d none=d:=rfl
theorem Ws(n d k:Nat):sIx n d (some (k:Int))=min k n:=by
 show (if k<0 then (k+(n:Int)).toNat else min (k:Int).toNat n)=min k n;rw[if_neg (by omega),Int.toNat_natCast]
theorem zgM(n d:Nat)(hd:d<=n)(o:Option Int):sIx n d o<=n:=by
 cases o with
 |none=>exact hd
 |some v=>
  show (if v<0 then (v+n).toNat else min v.toNat n)<=n;by_cases hv:v<0
  ·rw[if_pos hv];omega
  ·rw[if_neg hv];exact Nat.min_le_right _ _
theorem zcy(v:Int)(n d:Nat):(if v<0 then max (v+(n:Int)) 0 else min v (n:Int))=((sIx n d (some v):Nat):Int):=by
 show (if v<0 then max (v+n) 0 else min v n)=(((if v<0 then (v+(n:Int)).toNat else min v.toNat n):Nat))
 by_cases hv:v<0
 ·simp only[if_pos hv];omega
 ·simp only[if_neg hv];omega
theorem zbH(lo hi:Option Int)(n:Nat):Builtin.Slice.sliceAdjust lo hi 1 (n:Int)=(((sIx n 0 lo:Nat):Int),((sIx n n hi:Nat):Int)):=by
 have h1:¬ (1<0):=by omega
 refine Prod.ext ?_ ?_
 ·cases lo with
  |none=>rfl
  |some v=>exact zcy v n 0
 ·cases hi with
  |none=>rfl
  |some v=>exact zcy v n n
theorem zbz(i j:Nat):Builtin.Slice.slicePlaces (i:Int) (j:Int) 1=j-i:=by
 unfold Builtin.Slice.slicePlaces;have h1:1>0:=by omega
 split<;>omega
theorem Uu(p:IsPart v o)(h:Q o s):wpAny (model prog w) A (Builtin.Slice.slicePartIndex v) Q E s:=by
 cases p with
 |none=>exact slicePart_none h
 |int i t=>exact slicePart_int h
theorem jO{lo hi:Option Int}{Q:Int×Int×Nat->Shared->Prop}(hs:s.heap.IsSliceOf sl vl vu .none)(pl:IsPart vl lo)(pu:IsPart vu hi)(h:Q (((sIx n 0 lo:Nat):Int),1,sIx n n hi-sIx n 0 lo) s):wpAny (model prog w) A (Builtin.Slice.sliceApplied (.ref sl) (pure (n:Int))) Q E s:=by
 obtain⟨os,hos,hcs,hds⟩:=id hs;refine wpAny_bind (wpAny_bind (wpAny_field hos hds rfl (wpAny_bind (wpAny_field hos hds rfl (wpAny_bind (wpAny_field hos hds rfl (wpAny_pure ?_)))))));refine wpAny_bind (slicePart_none ?_);refine wpAny_bind (Uu pl (wpAny_bind (Uu pu (wpAny_bind (wpAny_pure ?_)))));show wpAny _ _ (match Builtin.Slice.sliceAdjust lo hi 1 n with | (lo,hi)=>pure (lo,(1:Int),Builtin.Slice.slicePlaces lo hi 1)) _ _ s;rw[zbH lo hi n];show wpAny _ _ (pure (((sIx n 0 lo:Nat):Int),1,Builtin.Slice.slicePlaces ((sIx n 0 lo:Nat)) ((sIx n n hi:Nat)) 1)) _ _ s;rw[zbz];exact wpAny_pure h
theorem zed(xs:Array Value)(i k:Nat):((List.range k).filterMap λ(m:Nat)=>xs[((i:Int)+(m:Int)*1).toNat]?).toArray=((xs.toList.drop i).take k).toArray:=by
 have e:(λ(m:Nat)=>xs[(i+(m:Int)*1).toNat]?)=λm=>xs[i+m]?:=by
  funext m;have:(i+(m:Int)*1).toNat=i+m:=by omega
  rw[this]
 rw[e];have:=pick_run xs i k;rw[List.filterMap_map]at this;have e2:((λx=>xs[x]?) ∘ λx=>i+x)=λm=>xs[i+m]?:=rfl;rw[e2]at this;rw[this]
theorem Wr{lo hi:Option Int}(ht:IsTup s.heap t items)(hs:s.heap.IsSliceOf sl vl vu .none)(pl:IsPart vl lo)(pu:IsPart vu hi)(hw:¬ (sIx items.size 0 lo=0/\sIx items.size items.size hi=items.size))(h:Q (.ref s.heap.objs.size) { s with heap:=s.heap.push { cls:=.type "tuple",data:=.seq ((items.toList.drop (sIx items.size 0 lo)).take (sIx items.size items.size hi-sIx items.size 0 lo)).toArray } })(hsz:items.size<=sizeLine):wpAny (model prog w) A (getItem (.ref t) (.ref sl)) Q E s:=by
 have htake:sizeOk (.seq ((items.toList.drop (sIx items.size 0 lo)).take (sIx items.size items.size hi-sIx items.size 0 lo)).toArray):=by
  show ((items.toList.drop (sIx items.size 0 lo)).take (sIx items.size items.size hi-sIx items.size 0 lo)).toArray.size<=sizeLine;rw[List.size_toArray,List.length_take,List.length_drop,Array.length_toList];omega
 obtain⟨os,hos,hcs,hds⟩:=id hs;have hTs:s.TypeIs (.ref sl) "slice":=⟨os,hos,hcs⟩
 unfold getItem
 try with_reducible refine wpAny_holding ?_
 first | refine wpAny_bind (wpAny_pure ?_) | skip
 refine wpAny_bind (wpAny_sequenceKey ht.typeIs (by decide) ?_);refine wpAny_bind (wpAny_callSpecial?_slot ht.typeIs PyProof.Rows.slot_tuple_getitem
  (wpAny_call_entry PyProof.Rows.slot_tuple_getitem ht.typeIs entry_tuple_getitem ?_ (args_tuple_getitem _ _)))
 show wpAny _ _ (Builtin.Tuple.tupleItemsOf (.ref t) >>= _) _ _ s;refine wpAny_bind (tupleItemsOf_ ht ?_);refine wpAny_bind (wpAny_typeOf hTs ?_);refine wpAny_bind (jO hs pl pu ?_);have hno:¬ ((((sIx items.size 0 lo:Nat):Int) == 0 && (1:Int) == 1 && (sIx items.size items.size hi-sIx items.size 0 lo) == items.size)=true):=by
  intro q;rw[Bool.and_eq_true,Bool.and_eq_true]at q;have q1:=eq_of_beq q.1.1;have q2:=eq_of_beq q.2;exact hw ⟨by omega,by omega⟩
 show wpAny _ _ (if (((sIx items.size 0 lo:Nat):Int) == 0 && 1 == 1 && (sIx items.size items.size hi-sIx items.size 0 lo) == items.size)=true then _ else _) _ _ s;rw[if_neg hno,zed]
 first
  |exact wpAny_bind (wpAny_newObj_type (wpAny_pure ⟨_,rfl,wpAny_pure h⟩) htake)
  |exact wpAny_bind (wpAny_newObj_type (wpAny_bind (wpAny_pure (wpAny_pure ⟨_,rfl,wpAny_pure h⟩))) htake)
  |exact wpAny_bind (wpAny_bind (wpAny_newObj_type (wpAny_pure (wpAny_pure ⟨_,rfl,wpAny_pure h⟩)) htake))
  |exact wpAny_bind (wpAny_bind (wpAny_newObj_type (wpAny_pure ⟨_,rfl,wpAny_pure h⟩) htake))
end
end HT
namespace L2
open PySem PySem.Spec PyProof.Rows
abbrev TO:=St->Hp->(Option Int->Hp->Prop)->Prop
def PO(X:Cx)(e:Option Expr)(t:TO):Prop :=
 ∀(pins:List (Addr×Obj)) (s:Shared) (σ:St) (H:Hp) (Q:Option Int->Hp->Prop),Inv X pins σ H s->t σ H Q ->
  wpAny (model X.prog X.w) X.A (evalPart e X.env) (λu s'=>∃o H',Inv X pins σ H' s'/\IsPart u o/\Q o H') X.xe s
def zae:TO:=λ_ H Q=>Q none H
def zea(t:TE):TO:=fun σ H Q=>t σ H λx H1=>∃i,x=.int i/\Q (some i) H1
theorem intsAre_of:∀{us:List Value},Vals (ns.map V.int) us->IntsAre us ns:=by
 induction ns with
 |nil=>intro us r;cases r;exact .nil
 |cons n ns ih=>
  intro us r;cases r with
  |cons r1 r2=>
   obtain⟨t,e⟩:=r1;subst e;exact .cons n t (ih r2)
section
variable {X:Cx} {e:Expr} {te:TE} {lo hi:Option Expr} {tl th:TO} {pos p2:Pos}
theorem wZ:PO X none zae:=by
 intro pins s σ H Q I h;rw[evalPart_none];exact wpAny_pure ⟨none,H,I,.none,h⟩
theorem xG(h:PE X e te):PO X (some e) (zea te):=by
 intro pins s σ H Q I hw;refine thn (h pins s σ H _ I hw) λu s1 ⟨x,H1,I1,r1,q1⟩=>?_;obtain⟨i,rfl,q⟩:=q1;obtain⟨t,rfl⟩:=r1;exact⟨some i,H1,I1,.int i t,q⟩
def SlR(X:Cx)(r:V->Option Int->Option Int->Hp->VK->Prop):Prop :=
 ∀(pins:List (Addr×Obj)) (s:Shared) (σ:St) (H:Hp) (x:V) (v vl vu:Value) (lo hi:Option Int) (sl:Addr) (Q:VK),Inv X pins σ H s->RelV x v->s.heap.IsSliceOf sl vl vu .none->IsPart vl lo->IsPart vu hi->r x lo hi H Q ->
  ∃T id,typeLookup (.type T) "__getitem__"= pure (some (.builtin id))/\s.TypeIs v T/\wpAny (model X.prog X.w) X.A (getItem v (.ref sl)) (EP X pins σ Q) X.xe s
def tSl(r:V->Option Int->Option Int->Hp->VK->Prop)(te:TE)(tl th:TO):TE:=fun σ H Q=>te σ H λx H1=>tl σ H1 λl H2=>th σ H2 λu H3=>r x l u H3 Q
theorem xg(hr:SlR X r)(he:PE X e te)(hl:PO X lo tl)(hu:PO X hi th):PE X (.Subscript e (.Slice lo hi none p2) pos) (tSl r te tl th):=by
 intro pins s σ H Q I h;refine Subscript_ (thn (he pins s σ H _ I h) λv s1 ⟨x,H1,I1,r1,q1⟩=>?_);refine wpAny_Slice (thn (hl pins s1 σ H1 _ I1 q1) λvl s2 ⟨l,H2,I2,pl,q2⟩=>thn (hu pins s2 σ H2 _ I2 q2) λvu s3 ⟨u,H3,I3,pu,q3⟩=>?_);refine wpAny_pure ?_;have I4:Inv X pins σ H3 { s3 with heap:=s3.heap.push { cls:=.type "slice",data:=.fields #[vl,vu,.none] } }:=I3.kept λb ob q=>Heap.get?_push_of_some _ q;obtain⟨T,id,hT,ht,hg⟩:=hr pins { s3 with heap:=s3.heap.push { cls:=.type "slice",data:=.fields #[vl,vu,.none] } } σ H3 x v vl vu l u s3.heap.objs.size Q I4 r1 (Heap.IsSliceOf.new ..) pl pu q3;exact tail_any ht hT hg (by with_unfolding_all rfl)
def uh(xs:List V)(lo hi:Option Int):List V:=(xs.drop (HT.sIx xs.length 0 lo)).take (HT.sIx xs.length xs.length hi-HT.sIx xs.length 0 lo)
theorem Vk(xs:List V)(lo hi:Option Int):(uh xs lo hi).length<=xs.length:=by
 unfold uh;rw[List.length_take,List.length_drop];omega
def zhT(K:W.Frag):V->Option Int->Option Int->Hp->VK->Prop:=λx lo hi H Q=>Ex2 λa xs=>x=.ref a/\SqT K H a xs /\
 ¬ (HT.sIx xs.length 0 lo=0/\HT.sIx xs.length xs.length hi=xs.length)/\∀p,H p=none->Q (.ref p) (upd H p (.tup (uh xs lo hi)))
theorem zgU:SlR X (zhT X.K):=by
 intro pins s σ H x v vl vu lo hi sl Q I rx hs pl pu h;obtain⟨a,xs,rfl,hx,hw,q⟩:=h;cases rx
 obtain⟨its,r,ht,hz⟩:=I.tuple hx;have hlen:its.toArray.size=xs.length:=by rw[List.size_toArray];exact r.length.symm
 refine⟨"tuple",_,PyProof.Rows.slot_tuple_getitem.lookup,ht.typeIs,?_⟩;refine HT.Wr ht hs pl pu (by rw[hlen];exact hw) ?_ (by rw[hlen];exact hz);rw[hlen];refine⟨.ref s.heap.objs.size,_,I.laid (λb ob q=>Heap.get?_push_of_some _ q) (Nat.le_refl _) ?_,rfl,q _ (I.hok.fresh (Nat.le_refl _))⟩;exact⟨Nat.le_trans (Vk xs lo hi) hz,_,(r.drop (HT.sIx xs.length 0 lo)).take (HT.sIx xs.length xs.length hi-HT.sIx xs.length 0 lo),IsTup.new _ _⟩
def zhz(K:W.Frag):R2:=λx y H Q=>Ex4 λa b xs ys=>x=.ref a/\y=.ref b/\SqT K H a xs/\SqT K H b ys/\xs≠[]/\xs.length+ys.length<=sizeLine /\
 (ys=[]->Q (.ref a) H)/\(ys≠[]->∀p,H p=none->Q (.ref p) (upd H p (.tup (xs++ys))))
theorem Vals.nil_iff(r:Vals xs us):us=[]↔xs=[]:=by
 cases r with
 |nil=>simp
 |cons _ _=>simp
theorem zfY:OpR X (binaryOp .Add) (zhz X.K):=by
 intro pins s σ H x y v u Q I rx ry h;obtain⟨a,b,xs,ys,rfl,rfl,ha,hb,hx,hz,q1,q2⟩:=h;cases rx
 cases ry;obtain⟨its,r1,p1,_⟩:=I.tuple ha
 obtain⟨its2,r2,p2,_⟩:=I.tuple hb;refine HT.zfA p1 p2 (λz=>hx (r1.nil_iff.mp z)) (λz=>⟨.ref a,H,I,rfl,q1 (r2.nil_iff.mp z)⟩) (λz=>?_) (by rw[<-r1.length,<-r2.length];exact hz);refine⟨.ref s.heap.objs.size,_,I.laid (λb ob q=>Heap.get?_push_of_some _ q) (Nat.le_refl _) ?_,rfl,q2 (λw=>z (r2.nil_iff.mpr w)) _ (I.hok.fresh (Nat.le_refl _))⟩;exact⟨by rw[List.length_append];exact hz,_,r1.append r2,IsTup.new _ _⟩
end
def ixN(n:Nat)(i:Int):Option Nat:=if 0<=i then (if i<n then some i.toNat else none) else if -(n:Int)<=i then some (i+n).toNat else none
def atI{α:Type}(xs:List α)(i:Int):Option α:=(ixN xs.length i).bind λj=>xs[j]?
theorem zcD(h:ixN n i=some j):seqIndex? i n=some j/\j<n/\-(n:Int)<=i/\i<n:=by
 unfold ixN at h;by_cases h0:0<=i
 ·rw[if_pos h0]at h;by_cases h1:i<n
  ·rw[if_pos h1]at h;have e:=Option.some.inj h;exact⟨by rw[seqIndex_of h0 h1,e],by omega,by omega,h1⟩
  ·rw[if_neg h1]at h;cases h
 ·rw[if_neg h0]at h;by_cases h1:-n<=i
  ·rw[if_pos h1]at h;have e:=Option.some.inj h;exact⟨by rw[seqIndex_neg (by omega) h1,e],by omega,h1,by omega⟩
  ·rw[if_neg h1]at h;cases h
theorem zcF(h:atI xs i=some v):∃j,seqIndex? i xs.length=some j/\xs[j]?=some v/\j<xs.length/\-(xs.length:Int)<=i/\i<xs.length:=by
 unfold atI at h;cases e:ixN xs.length i with
 |none=>rw[e]at h;cases h
 |some j=>
  rw[e]at h;obtain⟨h1,h2,h3,h4⟩:=zcD e;exact⟨j,h1,h,h2,h3,h4⟩
theorem yV{j:Nat}(h:xs[j]?=some v):atI xs (j:Int)=some v:=by
 have hj:=(List.getElem?_eq_some_iff.mp h).1;have e:ixN xs.length j=some j:=by
  unfold ixN;rw[if_pos (by omega),if_pos (by omega)];simp
 unfold atI;rw[e];exact h
theorem ze8(xs:List α)(v:α):atI (xs++[v]) (-1)=some v:=by
 have hl:(xs++[v]).length=xs.length+1:=by simp
 have e:ixN (xs++[v]).length (-1)=some xs.length:=by
  unfold ixN;rw[hl,if_neg (by decide),if_pos (by omega)];congr 1;omega
 unfold atI;rw[e];simp
def zcB(b:Expr):Prop:=∀o i,subscripted b false o i=operate [o,i] (getItem o i)
def IxR(X:Cx)(r:R2):Prop :=
 ∀(value slice:Expr) (pins:List (Addr×Obj)) (s:Shared) (σ:St) (H:Hp) (x y:V) (v u:Value) (Q:VK),Inv X pins σ H s->RelV x v->RelV y u->r x y H Q ->
  subscripted slice false v u=operate [v,u] (getItem v u)->wpAny (model X.prog X.w) X.A (subscriptTail value slice v u) (EP X pins σ Q) X.xe s
def MtR(X:Cx)(id:String)(r:V->List V->Hp->VK->Prop):Prop :=
 ∀(pins:List (Addr×Obj)) (s:Shared) (σ:St) (H:Hp) (x:V) (xs:List V) (v:Value) (us:List Value) (Q:VK),Inv X pins σ H s->RelV x v->Vals xs us->r x xs H Q ->
  wpAny (model X.prog X.w) X.A (call (.builtin id) (v::us)) (EP X pins σ Q) X.xe s
section
variable {X:Cx} {a b:Expr} {ta tb:TE} {pos:Pos}
theorem zR(hr:IxR X r)(ha:PE X a ta)(hb:PE X b tb)(hs:zcB b):PE X (.Subscript a b pos) (tOp r ta tb):=by
 intro pins s σ H Q I h;exact Subscript_ (zgG ha hb I h λv u s2 x y H2 I2 rx ry q=>hr a b pins s2 σ H2 x y v u Q I2 rx ry q (hs _ _))
def zgx(K:W.Frag):R2:=λx y H Q=>Ex4 λp xs i v=>x=.ref p/\y=.int i/\SqL K H p xs/\atI xs i=some v/\Q v H
def zhK(K:W.Frag):R2:=λx y H Q=>Ex4 λp xs i v=>x=.ref p/\y=.int i/\SqT K H p xs/\atI xs i=some v/\Q v H
theorem zgd:IxR X (zgx X.K):=by
 intro value slice pins s σ H x y v u Q I rx ry h hs;obtain⟨p,xs,i,z,rfl,rfl,hq,he,q⟩:=h;cases rx
 obtain⟨t,rfl⟩:=ry;obtain⟨its,r,pl,hz⟩:=I.list hq;obtain⟨j,h1,h2,h3,h4,h5⟩:=zcF he;obtain⟨w,ew,rw'⟩:=r.get h2;have hl:=r.length;have hn:=JD;have fin:EP X pins σ Q w s:=⟨z,H,I,rw',q⟩
 by_cases h0:0<=i
 ·have hj:i.toNat=j:=by
   rw[seqIndex_of h0 h5]at h1;exact Option.some.inj h1
  exact item_listR pl.isList h0 (by omega) (by rw[hj];simpa using ew) fin hs
 ·have hj:(i+its.toArray.size).toNat=j:=by
   rw[seqIndex_neg (by omega) h4]at h1;rw[List.size_toArray,<-hl];exact Option.some.inj h1
  exact subscriptTail_builtinR pl.isList.typeIs slot_list_getitem.lookup
   (wpAny_getItem_list_neg pl.isList (by omega) (by rw[List.size_toArray]<;>omega) (by omega) (by rw[hj];simpa using ew) ⟨rfl,fin⟩) hs
theorem zgL:IxR X (zhK X.K):=by
 intro value slice pins s σ H x y v u Q I rx ry h hs;obtain⟨p,xs,i,z,rfl,rfl,hq,he,q⟩:=h;cases rx
 obtain⟨t,rfl⟩:=ry;obtain⟨its,r,pl,hz⟩:=I.tuple hq;obtain⟨j,h1,h2,h3,h4,h5⟩:=zcF he;obtain⟨w,ew,rw'⟩:=r.get h2;have hl:=r.length;have hn:=JD;have fin:EP X pins σ Q w s:=⟨z,H,I,rw',q⟩
 exact subscriptTail_builtinR pl.typeIs slot_tuple_getitem.lookup
  (getItem_tuple pl (by omega) (by omega) (by rw[List.size_toArray,<-hl];exact h1) (by simpa using ew) ⟨rfl,fin⟩) hs
theorem zbS(its:List Value)(n j:Nat)(u:Value):Obj.mapSeq (·.setIfInBounds j u) { cls:=.type "list",data:=.seq its.toArray n }={ cls:=.type "list",data:=.seq (its.set j u).toArray n }:=by
 simp[Obj.mapSeq]
theorem Inv.lst{σ:St}(I:Inv X pins σ H s)(h:H p=some (.lst xs)):
  ∃its n,Vals xs its/\s.heap.get? p=some { cls:=.type "list",data:=.seq its.toArray n }/\xs.length<=sizeLine:=by
 obtain⟨z,its,n,r,e⟩:=I.hok p _ h;exact⟨its,n,r,e,z⟩
theorem Inv.lstUpd{σ:St}{its its':List Value}(I:Inv X pins σ H s)(h:H p=some (.lst xs))(ho:s.heap.get? p=some { cls:=.type "list",data:=.seq its.toArray n })(hf:f { cls:=.type "list",data:=.seq its.toArray n }={ cls:=.type "list",data:=.seq its'.toArray n' })(r:Vals ys its')(hz:ys.length<=sizeLine)(t:Nat):
  Inv X pins σ (upd H p (.lst ys)) { s with heap:=s.heap.update p f,toks:=t }:=by
 have e:(s.heap.update p f).get? p=some { cls:=.type "list",data:=.seq its'.toArray n' }:=by
  rw[Heap.get?_update_self f ho (by rw[hf]<;>rfl),hf]
 refine I.write (by rw[h];trivial) (.inl rfl) (λb u hb q=>(Heap.get?_update_other _ _ (Ne.symm hb)).trans q) ⟨_,e⟩ ?_;exact⟨hz,its',n',r,e⟩
def zhB:V->V->V->Hp->(Hp->Prop)->Prop:=λo i v H Q=>Ex4 λp xs k j=>o=.ref p/\i=.int k/\H p=some (.lst xs)/\ixN xs.length k=some j/\Q (upd H p (.lst (xs.set j v)))
theorem set_list:zhC X zhB:=by
 intro pins s σ H o i v ov iv u Q I ro ri rv h;obtain⟨p,xs,k,j,rfl,rfl,hp,hj,q⟩:=h;cases ro
 obtain⟨t,rfl⟩:=ri;obtain⟨its,n,r,ho,hz⟩:=I.lst hp;obtain⟨h1,h2,h3,h4⟩:=zcD hj;have hl:=r.length;have hn:=JD;have I':=
  I.lstUpd hp ho (zbS its n j u) (r.set rv j) (by rw[List.length_set];exact hz) s.toks
 by_cases h0:0<=k
 ·have hk:k.toNat=j:=by
   rw[seqIndex_of h0 h4]at h1;exact Option.some.inj h1
  exact W.ki_setAt ho h0 (by omega) (by rw[List.size_toArray,<-hl];exact h4) (by rw[hk];exact⟨_,I',q⟩)
 ·have hk:(k+its.toArray.size).toNat=j:=by
   rw[seqIndex_neg (by omega) h3]at h1;rw[List.size_toArray,<-hl];exact Option.some.inj h1
  exact W.ki_setBack ho (by omega) (by rw[List.size_toArray,<-hl];exact h3) (by omega) (by rw[hk];exact⟨_,I',q⟩)
theorem zam(lo hi:Option Int)(n:Nat):(sliceBounds lo hi none n).1=((HT.sIx n 0 lo:Nat):Int)/\(sliceBounds lo hi none n).2.1=((HT.sIx n n hi:Nat):Int)/\(sliceBounds lo hi none n).2.2=1:=by
 refine⟨?_,?_,rfl⟩
 ·cases lo with
  |none=>simp[sliceBounds,HT.sIx]
  |some i=>
   simp only[sliceBounds,HT.sIx,Option.getD_none,show 1>0 by decide,if_true];by_cases h:i<0
   ·simp only[h,if_true]<;>omega
   ·simp only[h,if_false]<;>omega
 ·cases hi with
  |none=>simp[sliceBounds,HT.sIx]
  |some i=>
   simp only[sliceBounds,HT.sIx,Option.getD_none,show 1>0 by decide,if_true];by_cases h:i<0
   ·simp only[h,if_true]<;>omega
   ·simp only[h,if_false]<;>omega
theorem Qy(its:List Value)(lo hi:Option Int):slicePick its.toArray lo hi none=((its.drop (HT.sIx its.length 0 lo)).take (HT.sIx its.length its.length hi-HT.sIx its.length 0 lo)).toArray:=by
 obtain⟨h1,h2,h3⟩:=zam lo hi its.toArray.size;unfold slicePick;rw[h1,h2,h3];simp only[sliceRange_one,pick_run,List.size_toArray]<;>rfl
def zfu(K:W.Frag):V->Option Int->Option Int->Hp->VK->Prop:=λx lo hi H Q=>Ex2 λa xs=>x=.ref a/\SqL K H a xs/\∀p,H p=none->Q (.ref p) (upd H p (.lst (uh xs lo hi)))
theorem zfJ:SlR X (zfu X.K):=by
 intro pins s σ H x v vl vu lo hi sl Q I rx hs pl pu h;obtain⟨a,xs,rfl,hx,q⟩:=h;cases rx
 obtain⟨its,r,ht,hz⟩:=I.list hx;have hlen:=r.length;refine⟨"list",_,slot_list_getitem.lookup,ht.isList.typeIs,?_⟩;refine wpAny_getItem_list_slice ht.isList hs pl pu .none (by simp) ?_ (by rw[List.size_toArray]<;>omega);rw[Qy,<-hlen];refine⟨.ref s.heap.objs.size,_,I.laid (λb ob q=>Heap.get?_push_of_some _ q) (Nat.le_refl _) ?_,rfl,q _ (I.hok.fresh (Nat.le_refl _))⟩;exact⟨Nat.le_trans (Vk xs lo hi) hz,_,0,(r.drop (HT.sIx xs.length 0 lo)).take (HT.sIx xs.length xs.length hi-HT.sIx xs.length 0 lo),Heap.get?_push_size _ rfl⟩
theorem Jw:wF X (.builtin "len") (λxs H Q=>∃p ys,xs=[.ref p]/\(SqL X.K H p ys\/SqT X.K H p ys)/\Q (.int ys.length) H):=by
 intro pins s σ H xs us Q I r h;obtain⟨p,ys,rfl,hq,q⟩:=h;obtain⟨u,rfl,rx⟩:=vals1 r;cases rx
 have hn:=JD;rcases hq with hq | hq
 ·obtain⟨its,r',pl,hz⟩:=I.list hq;have hlen:=r'.length;exact Calls.call_len_list pl.isList (by simp only[List.size_toArray]<;>omega) ⟨.int ys.length,H,I.tok _,⟨s.toks+1,by rw[List.size_toArray,hlen]⟩,q⟩
 ·obtain⟨its,r',pl,hz⟩:=I.tuple hq;have hlen:=r'.length;exact len_tuple pl (by simp only[List.size_toArray]<;>omega) ⟨.int ys.length,H,I.tok _,⟨s.toks+1,by rw[List.size_toArray,hlen]⟩,q⟩
theorem zab:wF X (.type "list") (λxs H Q=>∃p ys,xs=[.ref p]/\(SqL X.K H p ys\/SqT X.K H p ys)/\∀l,H l=none->Q (.ref l) (upd H l (.lst ys))):=by
 intro pins s σ H xs us Q I r h;obtain⟨p,ys,rfl,hq,q⟩:=h;obtain⟨u,rfl,rx⟩:=vals1 r;cases rx
 have fin:∀its,Vals ys its->ys.length<=sizeLine->∀h' c',(∀b o',s.heap.get? b=some o'->h'.get? b=some o') ->
   h'.get? s.heap.objs.size=some { cls:=.type "list",dict:=none,data:=.seq its.toArray c',slots:=#[] }->EP X pins σ Q (.ref s.heap.objs.size) { s with heap:=h' }:=λits r' hz h' c' kp e=>
  ⟨.ref s.heap.objs.size,_,I.laid kp (Nat.le_refl _) (show ObjOk X.prog X.w _ h' _ (.lst ys) from ⟨hz,its,c',r',e⟩),rfl,q _ (I.hok.fresh (Nat.le_refl _))⟩
 rcases hq with hq | hq
 ·obtain⟨its,r',pl,hz⟩:=I.list hq;have hlen:=r'.length;obtain⟨o,ho,hc,n,hd⟩:=pl.isList;exact call_list_seq p (.inl rfl) ho hc hd (λh' c' kp e=>fin its r' hz h' c' kp e) (by simp only[List.size_toArray]<;>omega)
 ·obtain⟨its,r',pl,hz⟩:=I.tuple hq;have hlen:=r'.length;obtain⟨o,ho,hc,n,hd⟩:=pl;exact call_list_seq p (.inr rfl) ho hc hd (λh' c' kp e=>fin its r' hz h' c' kp e) (by simp only[List.size_toArray]<;>omega)
theorem jA:wF X (.type "tuple") (λxs H Q=>∃p ys,xs=[.ref p]/\((SqL X.K H p ys/\∀l,H l=none->Q (.ref l) (upd H l (.tup ys)))\/(SqT X.K H p ys/\Q (.ref p) H))):=by
 intro pins s σ H xs us Q I r h;obtain⟨p,ys,rfl,h⟩:=h;obtain⟨u,rfl,rx⟩:=vals1 r;cases rx
 rcases h with ⟨hq,q⟩ | ⟨hq,q⟩
 ·obtain⟨its,r',pl,hz⟩:=I.list hq;have hlen:=r'.length;refine call_tuple_list pl.isList (λh' kp=>?_) (by simp only[List.size_toArray]<;>omega);have I1:=I.kept (t':=s.toks) kp;have I2:=
   I1.laid (t':=s.toks) (λb o e=>Heap.get?_push_of_some _ e) (Nat.le_refl _) (show ObjOk X.prog X.w _ _ _ (.tup ys) from ⟨hz,its,r',IsTup.new _ _⟩)
  exact⟨.ref h'.objs.size,_,I2,rfl,q _ (I1.hok.fresh (Nat.le_refl _))⟩
 ·obtain⟨its,r',pl,hz⟩:=I.tuple hq;exact call_tuple_same pl ⟨.ref p,H,I,rfl,q⟩
def tyV(K:W.Frag)(T:String)(x:V)(H:Hp):Prop:=match x with
 |.str _=>T ="str"
 |.int _=>T ="int"
 |.ref p=>(T ="list"/\∃xs,SqL K H p xs)\/(T ="tuple"/\∃o,K.lookup p=some o/\o.cls=.type "tuple"/\o.dict=none) \/
   (T ="dict"/\((∃kvs,H p=some (.dK kvs))\/∃kvs,H p=some (.dT kvs)))\/(T ="set"/\∃S n,H p=some (.set S n))
 |_=>False
theorem zeg{σ:St}(I:Inv X pins σ H s)(r:RelV x v)(ty:tyV X.K T x H):
  s.TypeIs v T/\∀a,v=.ref a->∃ob,s.heap.get? a=some ob/\ob.dict=none:=by
 cases x with
 |str z=>
  obtain⟨t,rfl⟩:=r;cases (show T ="str" from ty)
  exact⟨typeIs_str s z t,λ_ e=>nomatch e⟩
 |int i=>
  obtain⟨t,rfl⟩:=r;cases (show T ="int" from ty)
  exact⟨typeIs_int s i t,λ_ e=>nomatch e⟩
 |ref p=>
  cases r;rcases ty with ⟨rfl,xs,hq⟩ | ⟨rfl,o,hk,hc,hd⟩ | ⟨rfl,hk⟩ | ⟨rfl,S,n,hk⟩
  ·obtain⟨its,_,pl,_⟩:=I.list hq;refine⟨pl.isList.typeIs,λa e=>?_⟩;cases e
   obtain⟨o,n,e,c,hd,_⟩:=pl;exact⟨o,e,hd⟩
  ·refine⟨⟨o,I.kIn p o hk,hc⟩,λa e=>?_⟩;cases e
   exact⟨o,I.kIn _ o hk,hd⟩
  ·have z:∃o,s.heap.get? p=some o/\o.ExactDict:=by
    rcases hk with ⟨kvs,hk⟩ | ⟨kvs,hk⟩
    ·obtain⟨_,_,_,_,o,_,_,e,ex,_⟩:=I.hok p _ hk;exact⟨o,e,ex⟩
    ·obtain⟨_,_,_,_,o,_,_,e,ex,_⟩:=I.hok p _ hk;exact⟨o,e,ex⟩
   obtain⟨o,e,ex⟩:=z;refine⟨⟨o,e,ex.1⟩,λa e2=>?_⟩;cases e2
   exact⟨o,e,ex.2.1⟩
  ·obtain⟨o,_,_,_,e,ex,_⟩:=I.hok p _ hk;refine⟨⟨o,e,ex.1⟩,λa e2=>?_⟩;cases e2
   exact⟨o,e,ex.2.1⟩
 |_=>exact False.elim ty
def zh3(K:W.Frag)(T:String)(r:V->List V->Hp->VK->Prop)(to:TE):TE:=fun σ H Q=>to σ H λx H1=>tyV K T x H1/\r x [] H1 Q
def tBM(K:W.Frag)(T:String)(r:V->List V->Hp->VK->Prop)(to:TE)(t:TA):TE:=fun σ H Q=>to σ H λx H1=>tyV K T x H1/\t σ H1 λxs H2=>r x xs H2 Q
variable {o e:Expr} {es:List Expr} {to:TE} {t:TA} {name:Str} {apos cpos:Pos} {T id:String} {r:V->List V->Hp->VK->Prop}
theorem zew(pa:PlainAttrs T)(slot:Slot T name id)(hty:typeOf (.builtin id)=pure (.type "method_descriptor"))(hm:MtR X id r)(ho:PE X o to)(hbase:attributeBase o name X.env (eval o X.env)=eval o X.env:=by rfl)(hline:(apos.endLine == cpos.line)=true:=by rfl):PE X (.Call (.Attribute o name apos) [] [] cpos) (zh3 X.K T r to):=by
 intro pins s σ H Q I h;refine wpAny_Call_method0_late hbase hline (thn (ho pins s σ H _ I h) λv s1 ⟨x,H1,I1,r1,ty,q1⟩=>?_);obtain⟨h1,h2⟩:=zeg I1 r1 ty;exact⟨T,id,pa,slot,hty,h1,h2,Calls.callWith_builtin rfl (PySem.evalArgs_none (hm pins s1 σ H1 x [] v [] Q I1 r1 .nil q1))⟩
theorem Wm(pa:PlainAttrs T)(slot:Slot T name id)(hty:typeOf (.builtin id)=pure (.type "method_descriptor"))(hm:MtR X id r)(ho:PE X o to)(ha:PA X (e::es) t)(hbase:attributeBase o name X.env (eval o X.env)=eval o X.env:=by rfl)(hfew:((backTo cpos (starEach (e::es) X.env)).all (λx=>!x.1) && (backToKw cpos (keywordEach [] X.env)).all (λx=>x.1.isSome)
   && decide ((e::es).length+([]:List Keyword).length+(if ([]:List Keyword).isEmpty then 0 else 1)<30))=true:=by rfl)(hline:(apos.endLine == cpos.line)=true:=by rfl)(hs:starEach (e::es) X.env=(false,eval e X.env)::starEach es X.env:=by rfl)(hplain:(backTo cpos (starEach es X.env)).any (·.1)=false:=by rfl):
  PE X (.Call (.Attribute o name apos) (e::es) [] cpos) (tBM X.K T r to t):=by
 intro pins s σ H Q I h;refine wpAny_Call_method_late hbase hfew hline rfl (thn (ho pins s σ H _ I h) λv s1 ⟨x,H1,I1,r1,ty,q1⟩=>?_);obtain⟨h1,h2⟩:=zeg I1 r1 ty;refine⟨T,id,pa,slot,hty,h1,h2,?_⟩;have hA:=ha cpos pins s1 σ H1 _ I1 q1;rw[hs]at hA ⊢;refine Calls.callWith_builtin (by show (false || (backTo cpos (starEach es X.env)).any (·.1))=false;rw[hplain]<;>rfl) (Calls.evalArgs_plain ?_);exact thn hA λus s2 ⟨vs,H2,I2,r2,q2⟩=>hm pins s2 σ H2 x vs v us Q I2 r1 r2 q2
end
def MtM(X:Cx)(id:String)(r:V->List V->Hp->VK->Prop):Prop :=
 ∀(pins:List (Addr×Obj)) (s:Shared) (σ:St) (H:Hp) (x:V) (xs:List V) (v:Value) (us:List Value) (Q:VK),Inv X pins σ H s->RelV x v->Vals xs us->r x xs H Q ->
  wpAny (model X.prog X.w) X.A (call (.builtin id) (v::us)) (EP X pins σ Q) X.xe s
theorem Vals.one:∀{x:V} {us:List Value},Vals [x] us->∃u,us=[u]/\RelV x u
 |_,_,.cons r .nil=>⟨_,rfl,r⟩
theorem Vals.zero:∀{us:List Value},Vals [] us->us=[]
 |_,.nil=>rfl
theorem Vals.dropLast(h:Vals xs us):Vals xs.dropLast us.dropLast:=by
 induction h with
 |nil=>exact .nil
 |cons r t ih=>
  cases t with
  |nil=>exact .nil
  |cons q t'=>exact .cons r ih
theorem Vals.eraseIdx:∀{xs:List V} {us:List Value} (i:Nat),Vals xs us->Vals (xs.eraseIdx i) (us.eraseIdx i)
 |_,_,_,.nil=>.nil
 |_,_,0,.cons _ t=>t
 |_,_,i+1,.cons r t=>.cons r (Vals.eraseIdx i t)
theorem Vals.reverse(h:Vals xs us):Vals xs.reverse us.reverse:=by
 induction h with
 |nil=>exact .nil
 |cons r t ih=>rw[List.reverse_cons,List.reverse_cons];exact Vals.append ih (.cons r .nil)
theorem Vals.rep{xs:List V}{us:List Value}(h:Vals xs us):∀k:Nat,Vals (List.replicate k xs).flatten (List.replicate k us).flatten
 |0=>.nil
 |k+1=>by
  rw[List.replicate_succ,List.replicate_succ,List.flatten_cons,List.flatten_cons];exact Vals.append h (Vals.rep h k)
theorem zbC{α:Type}(l:List α):l.eraseIdx (l.length-1)=l.dropLast:=by
 induction l with
 |nil=>rfl
 |cons a r ih=>
  cases r with
  |nil=>rfl
  |cons b r=>
   have e:(a::b::r).length-1=((b::r).length-1)+1:=by
    have h1:(a::b::r).length=r.length+2:=rfl;have h2:(b::r).length=r.length+1:=rfl;omega
   rw[e,List.eraseIdx_cons_succ,ih]
   all_goals rfl
theorem foldl_rep(its:List Value):∀(k:Nat) (acc:List Value),
  List.foldl (λx1 x2=>x1++x2) acc.toArray (List.replicate k its.toArray)=(acc++(List.replicate k its).flatten).toArray
 |0,acc=>by simp
 |k+1,acc=>by
  have e:acc.toArray++its.toArray=(acc++its).toArray:=by simp
  have e2:(acc++its)++(List.replicate k its).flatten=acc++(List.replicate (k+1) its).flatten:=by
   rw[List.replicate_succ,List.flatten_cons,List.append_assoc]
  rw[<-e2,<-foldl_rep its k (acc++its),<-e,List.replicate_succ,List.foldl_cons]
section
variable {X:Cx} {pins:List (Addr×Obj)} {σ:St} {H:Hp} {s:Shared} {l b:Addr} {xs ys zs:List V}
theorem Inv.lset{its its':List Value}(I:Inv X pins σ H s)(hH:H l=some (.lst xs))(e:s.heap.get? l=some { cls:=.type "list",data:=.seq its.toArray n })(hf:f its.toArray=its'.toArray)(hv:Vals ys its')(hz:ys.length<=sizeLine):
  Inv X pins σ (upd H l (.lst ys)) { s with heap:=s.heap.update l (Obj.mapSeq f),toks:=t' }:=by
 have q:=PySem.IsL.update e f;rw[hf]at q;refine I.write (by rw[hH];exact trivial) (.inl rfl) (λb' u hb hu=>(Heap.get?_update_other s.heap (Obj.mapSeq f) (Ne.symm hb)).trans hu) ⟨_,q⟩ ?_;exact⟨hz,its',_,hv,q⟩
theorem Inv.lnew(I:Inv X pins σ H s)(hv:Vals ys its)(hz:ys.length<=sizeLine):
  Inv X pins σ (upd H s.heap.objs.size (.lst ys)) { s with heap:=s.heap.push { cls:=.type "list",data:=.seq its.toArray },toks:=t' } :=
 I.laid (λ_ _ q=>Heap.get?_push_of_some _ q) (Nat.le_refl _) ⟨hz,its,0,hv,Heap.get?_push_size _ rfl⟩
theorem Inv.fresh(I:Inv X pins σ H s):H s.heap.objs.size=none:=I.hok.fresh (Nat.le_refl _)
theorem Inv.lstM(I:Inv X pins σ H s)(hH:H l=some (.lst xs)):xs.length<=sizeLine/\∃its n,Vals xs its/\xs.length=its.length/\s.heap.get? l=some { cls:=.type "list",data:=.seq its.toArray n }:=by
 obtain⟨z,its,n,r,e⟩:=I.hok l _ hH;exact⟨z,its,n,r,r.length,e⟩
theorem zaF(h:n<=sizeLine):Builtin.List.listTooLong n=false:=by
 unfold Builtin.List.listTooLong;exact decide_eq_false (by omega)
end
section
variable {X:Cx}
def zf1:V->List V->Hp->VK->Prop:=λx vs H Q=>Ex3 λl xs y=>x=.ref l/\vs=[y]/\H l=some (.lst xs)/\xs.length<sizeLine/\Q .non (upd H l (.lst (xs++[y])))
theorem uD:MtM X "list.append" zf1:=by
 intro pins s σ H x vs v us Q I rx rv h;obtain⟨l,xs,y,rfl,rfl,hH,hz,q⟩:=h;cases rx
 obtain⟨u,rfl,ru⟩:=rv.one;obtain⟨z,its,n,r,hl,e⟩:=I.lstM hH;refine call_meets F.slot_list_append ⟨_,e,rfl⟩ F.entry_list_append (F.args_list_append_2 _ _) (PySem.list_append l its.toArray n u (by rw[List.size_toArray];omega)) ⟨e,?_⟩;refine⟨.non,_,I.lset hH e (by simp) (r.append (.cons ru .nil)) ?_,rfl,q⟩;rw[List.length_append,List.length_singleton];omega
def zfC:V->List V->Hp->VK->Prop:=λx vs H Q=>Ex4 λl b xs zs=>x=.ref l/\vs=[.ref b]/\H l=some (.lst xs)/\H b=some (.lst zs)/\xs.length+zs.length<=sizeLine/\Q .non (upd H l (.lst (xs++zs)))
theorem zc8:MtM X "list.extend" zfC:=by
 intro pins s σ H x vs v us Q I rx rv h;obtain⟨l,b,xs,zs,rfl,rfl,hH,hB,hz,q⟩:=h;cases rx
 obtain⟨u,rfl,ru⟩:=rv.one;cases ru
 obtain⟨z,its,n,r,hl,e⟩:=I.lstM hH;obtain⟨z2,its2,n2,r2,hl2,e2⟩:=I.lstM hB;have hsz:its.toArray.size+its2.toArray.size<=sizeLine:=by rw[List.size_toArray,List.size_toArray];omega
 have hlong:¬ (!its.toArray.isEmpty && Builtin.List.listTooLong (its.toArray.size+its2.toArray.size))=true:=by
  rw[zaF hsz,Bool.and_false];exact Bool.false_ne_true
 refine call_meets F.slot_list_extend ⟨_,e,rfl⟩ F.entry_list_extend (F.args_list_extend_2 _ _)
  (AutoSeq1.list_extend_list_list_0 l its.toArray n b its2.toArray n2 hlong (by omega) (by omega)) ⟨e,e2,?_⟩
 refine⟨.non,_,I.lset hH e (by simp) (r.append r2) ?_,rfl,q⟩;rw[List.length_append];omega
def zh2:V->List V->Hp->VK->Prop:=λx vs H Q=>Ex3 λl xs y=>x=.ref l/\vs=[]/\H l=some (.lst xs)/\xs[xs.length-1]?=some y/\Q y (upd H l (.lst xs.dropLast))
theorem zg3:MtM X "list.pop" zh2:=by
 intro pins s σ H x vs v us Q I rx rv h;obtain⟨l,xs,y,rfl,rfl,hH,hy,q⟩:=h;cases rx
 have hus:=rv.zero;subst hus;obtain⟨z,its,n,r,hl,e⟩:=I.lstM hH;obtain⟨u,hu,ru⟩:=r.get hy;have hy':its.toArray[its.toArray.size-1]?=some u:=by
  show its.toArray[its.length-1]?=some u;rw[<-Array.getElem?_toList,<-hl];exact hu
 refine call_meets F.slot_list_pop ⟨_,e,rfl⟩ F.entry_list_pop (F.args_list_pop_1 _) (MeetsSeq.list_pop_last l its.toArray n u hy' (by rw[List.size_toArray];omega)) ⟨e,?_⟩;refine⟨y,_,I.lset hH e ?_ r.dropLast ?_,ru,q⟩
 ·show its.toArray.eraseIdxIfInBounds (its.toArray.size-1)=its.dropLast.toArray;rw[List.size_toArray,List.eraseIdxIfInBounds_toArray,zbC]
 ·rw[List.length_dropLast];omega
def zg8:V->List V->Hp->VK->Prop:=λx vs H Q=>Ex2 λl xs=>x=.ref l/\vs=[]/\H l=some (.lst xs)/\Q .non (upd H l (.lst []))
theorem zdZ:MtM X "list.clear" zg8:=by
 intro pins s σ H x vs v us Q I rx rv h;obtain⟨l,xs,rfl,rfl,hH,q⟩:=h;cases rx
 have hus:=rv.zero;subst hus;obtain⟨z,its,n,r,hl,e⟩:=I.lstM hH;refine call_meets F.slot_list_clear ⟨_,e,rfl⟩ F.entry_list_clear (F.args_list_clear_1 _) (AutoSeq1.list_clear_list_0 l its.toArray n (by rw[List.size_toArray];omega)) ⟨e,?_⟩;exact⟨.non,_,I.lset hH e rfl .nil (Nat.zero_le _),rfl,q⟩
def zha:R2:=λx y H Q=>Ex4 λl b xs zs=>x=.ref l/\y=.ref b/\H l=some (.lst xs)/\H b=some (.lst zs)/\xs.length+zs.length<=sizeLine/\∀p,H p=none->Q (.ref p) (upd H p (.lst (xs++zs)))
theorem vQ:OpR X (binaryOp .Add) zha:=by
 intro pins s σ H x y v u Q I rx ry h;obtain⟨l,b,xs,zs,rfl,rfl,hH,hB,hz,q⟩:=h;cases rx
 cases ry;obtain⟨z,its,n,r,hl,e⟩:=I.lstM hH
 obtain⟨z2,its2,n2,r2,hl2,e2⟩:=I.lstM hB;refine PySem.P.add_list e e2 ?_ (by rw[List.size_toArray,List.size_toArray];omega);have ea:its.toArray++its2.toArray=(its++its2).toArray:=by simp
 rw[ea];exact⟨.ref _,_,I.lnew (r.append r2) (by rw[List.length_append];omega),rfl,q _ I.fresh⟩
def zhH:R2:=λx y H Q=>Ex3 λl k xs=>x=.ref l/\y=.int k/\H l=some (.lst xs)/\-(2^63)<=k/\k<2^63/\xs.length*k.toNat<=sizeLine /\
 ∀p,H p=none->Q (.ref p) (upd H p (.lst (List.replicate k.toNat xs).flatten))
theorem len_rep{α:Type}(xs:List α)(k:Nat):(List.replicate k xs).flatten.length=k*xs.length:=by
 induction k with
 |zero=>simp
 |succ k ih=>rw[List.replicate_succ,List.flatten_cons,List.length_append,ih,Nat.succ_mul,Nat.add_comm]
theorem zeq:OpR X (binaryOp .Mult) zhH:=by
 intro pins s σ H x y v u Q I rx ry h;obtain⟨l,k,xs,rfl,rfl,hH,h1,h2,hz,q⟩:=h;cases rx
 obtain⟨t,rfl⟩:=ry;obtain⟨z,its,n,r,hl,e⟩:=I.lstM hH;have hlen:its.toArray.size*k.toNat<=sizeLine:=by rw[List.size_toArray,<-hl];exact hz
 have hcap:¬ its.toArray.size*k.toNat>(2^63-1) / 8:=by
  have:sizeLine<=(2^63-1) / 8:=by decide
  omega
 have hfit:¬ (!Builtin.List.listFitsIndex k)=true:=by
  rw[fitsIndex_both h1 h2];exact Bool.false_ne_true
 have hlong:¬ Builtin.List.listTooLong (its.toArray.size*k.toNat)=true:=by
  rw[zaF hlen];exact Bool.false_ne_true
 have hnew:List.foldl (λx1 x2=>x1++x2) #[] (List.replicate (if its.toArray.isEmpty=true then 0 else k.toNat) its.toArray)=(List.replicate k.toNat its).flatten.toArray:=by
  have f0:∀m:Nat,List.foldl (λx1 x2=>x1++x2) #[] (List.replicate m its.toArray)=(List.replicate m its).flatten.toArray:=λm=>by
   have:=foldl_rep its m [];exact this
  rw[f0];cases its with
  |nil=>simp
  |cons a r'=>rw[if_neg (by simp)]
 refine wpAny_binaryOp_repeat_ref (by decide) ⟨_,e,rfl⟩ (λs'=>typeIs_int s' k t) noFill_list_mul F.fills_int_mul F.slot_int_rmul repeat_list F.slot_int_index.lookup
  (call_meets F.slot_int_rmul (typeIs_int s k t) F.entry_int_rmul (F.args_int_rmul_2 _ _) (int___rmul___int_list k t l its.toArray n)
   ⟨e,rfl,⟨_,e,rfl⟩,call_meets F.slot_list_mul ⟨_,e,rfl⟩ F.entry_list_mul (F.args_list_mul_2 _ _) (AutoListH.list___mul___list_int_3 l its.toArray n k t hfit hcap hlong) ⟨e,?_⟩⟩)
 rw[hnew];exact⟨.ref _,_,I.lnew (r.rep k.toNat) (by rw[len_rep,Nat.mul_comm];exact hz),rfl,q _ I.fresh⟩
end
section
variable {prog:Program} {w:World} {A:Around} {E:Value->Shared->Prop} {s:Shared}
end
section
variable {X:Cx}
end
end L2
namespace Att
open PySem PySem.W PySem.Calls PyProof.Rows
theorem Vy:∀ns vs,WellAll P h vs (ns.map WData.int)->IntsAre vs ns:=by
 intro ns
 induction ns with
 |nil=>
  intro vs w;cases w
  exact .nil
 |cons n ns ih=>
  intro vs w;cases w with
  |cons a b=>
   cases a;exact .cons _ _ (ih _ b)
theorem zc3{l:OpenLaw}(hn:l.most=some n)(hpre:l.row.toRowW.claim.pre args=true)(hwl:WellAll P h vals args):
  ∃a vs ns,vals=[Value.ref a]/\args=[WData.list (ns.map WData.int)]/\h.get? a=some { cls:=.type "list",data:=.seq vs.toArray }/\IntsAre vs ns/\ns.length<=n:=by
 have hsh:=(pre_splitW hpre).1;have hc:l.pre.holds [] { args:=args }=true:=(pre_splitW hpre).2;obtain⟨d,r,rfl,h1,h2⟩:=hasAllW_cons hsh;obtain rfl:=hasAllW_nil h2;obtain⟨xs,rfl,h3⟩:=hasW_list h1;obtain⟨ns,rfl⟩:=items_int h3;have hlen:ns.length<=n:=by
  have h4:(WTm.not (.lt (.lit (.int n)) (.len (.arg 0)))).holds [] { args:=[.list (ns.map .int)] }=true:=by
   have h4:=(holds_andW hc).1;rw[hn]at h4;exact h4
  have h5:=condW_of h4 (w_not (w_lt w_lit (w_len_list (w_arg rfl))));refine Nat.le_of_not_lt λq=>?_;have q':n<((ns.length:Nat)):=by omega
  first
   | (rw[decide_eq_true q']at h5;exact absurd h5 (by decide))
   | (simp at h5;omega)
 cases hwl with
 |cons w1 w2=>
  cases w2;cases w1 with
  |list ho hall=>exact⟨_,_,ns,rfl,rfl,ho,Vy ns _ hall,hlen⟩
theorem zdw(l:OpenLaw)(args:List WData):l.row.toRowW.claim.post args (.bool true) args=true :=
 postW_of
  (show WShape.has [] (.bool true) .bool=true by first | rfl | decide | simp[WShape.has,WShape.arms,WShape.armsAll])
  (show (WTm.eq .res (.lit (.bool true))).value [] { args:=args,res:=some (.bool true),after:=args }=some (.bool (true == true)) from w_eq_bool (w_res rfl) w_lit) rfl
theorem zay{l:OpenLaw}(hn:l.most=some n)(hdf:d.params.defaults=[])(call:∀w s₀ s₁ mg mb fa o pm cd doc a vs ns,
   Ground q loose [] XP w s₀ mg mb s₁.heap->YP w s₁.heap ->
   s₁.heap.get? fa=some o->o.data=.func (docDef d.name d.params d.body d.scope pm cd doc)->s₁.heap.CodeRec cd d.name->mg d.name=some (.ref fa) ->
   s₁.heap.get? a=some { cls:=.type "list",data:=.seq vs.toArray }->IntsAre vs ns->ns.length<=n->s₁.gens=#[] ->
   codeAny (model l.prog w) callerA (.call (.ref fa) ⟨[.ref a],[]⟩) (λr s'=>r=.ok (.ret (.bool true))/\OldK s₁.heap s'.heap/\s'.os=s₁.os/\AllBare s'.gens) s₁):
  WalkO q loose XP YP l.row.toRowW d [] (λf vs=>PySem.call f vs):=by
 intro w s₀ s₁ mg mb G Y fa o pm cd doc dV kV ho hd hcd hD hmg hg args vals as hpre hlay hrd hwl hlo;obtain rfl:dV=.none:=Dflts.none hD hdf;obtain rfl:kV=.none:=Dflts.noKw hD;obtain⟨a,vs,ns,rfl,rfl,hobj,hints,hlen⟩:=zc3 hn hpre hwl;refine enter_call (codeAny_mono (call w s₀ s₁ mg mb fa o pm cd doc a vs ns G Y ho (fd_plain hd) hcd hmg hobj hints hlen hg) λr s' hq=>?_);obtain⟨rfl,h2,h3,h4⟩:=hq;exact⟨.inl ⟨.bool true,.bool true,[],rfl,λ_=>rfl,.bool true,zdw l _,λ_=>⟨List.Pairwise.nil,λ_ hm=>(nomatch hm)⟩⟩,h2,h3,h4⟩
section
variable {prog:Program} {w:World} {A:Around} {E:Value->Shared->Prop} {s:Shared} {K:Frag}
end
end Att
namespace L2
open PySem PySem.Spec PyProof.Rows
theorem Jc:∀{vs:List Value} {ns:List Int},IntsAre vs ns->Vals (ns.map V.int) vs
 |_,_,.nil=>.nil
 |_,_,.cons n t h=>.cons ⟨t,rfl⟩ (Jc h)
def inClass(s:Stmt)(j:Nat):Stmt:=match s with
 |.ClassDef _ _ _ body _ _ _ _ _ _ _=>body.getD j (.Pass ⟨0,0,0,0⟩)
 |_=>.Pass ⟨0,0,0,0⟩
def tZ(s:Stmt):Arguments:=match s with
 |.FunctionDef _ a _ _ _ _ _ _ _ _=>a
 |_=>{ posonlyargs:=[],args:=[],vararg:=none,kwonlyargs:=[],kw_defaults:=[],kwarg:=none,defaults:=[] }
def zq(s:Stmt):List Stmt:=match s with
 |.FunctionDef _ _ b _ _ _ _ _ _ _=>b
 |_=>[]
def zu(s:Stmt):Scope:=match s with
 |.FunctionDef _ _ _ _ _ _ sc _ _ _=>sc
 |_=>{ kind:=.function,names:=[],isGenerator:=false,isCoroutine:=false }
abbrev CX0:CXT:=λ_ _ _ _ _ _=>False
abbrev E0:XK:=λ_ _ _=>False
theorem Vj:Xj CX0 X E0:=λ_ _ _ _ _ _ _ h=>h.elim
structure Fun (K:W.Frag) (x qual:Str) (st:Stmt) (f:Addr) (fd:FuncData):Prop where
 ex:∃(oc:Value) (od:Option Addr) (kV doc pm:Value) (an:Option Addr) (cdv ct:Value) (osl:Array (Option Value)),
  fd=W.fnOf x qual (tZ st) (zq st) (zu st) .none kV doc pm an cdv ct/\K.lookup f=some ⟨oc,od,.func fd,osl⟩/\W.codeIn K cdv qual=true
 kp:W.keepIn K (.ref f)=true
section
variable {P:Program} {w:World} {K:W.Frag} {mg:Str->Option Value} {base:Heap}
theorem Fun.ok{st:Stmt}(F:Fun K x qual st f fd)(S:zE N ps (zu st))(len:∀vs H Q E,sp vs H Q E->vs.length=ps.length)(hbody:∀cdv A outer s H vs Q E,Room k (A.deeper (envOfC qual (zu st) s.heap.objs.size f cdv))->sp vs H Q E ->
   ∃t,PSs (YD CX0 P w K mg base N qual (zu st) f cdv A outer s H E).nox (zq st) t/\t { nx:=λ_ H'=>Q .non H',rt:=Q } (start N vs) H):FnOk P w K mg base CX0 (k+1) f fd ps sp:=by
 obtain⟨oc,od,kV,doc,pm,an,cdv,ct,osl,rfl,lk,hcd⟩:=F.ex;refine zeV lk hcd S len λA outer s H vs Q E hr hsp=>?_;obtain⟨t,h,q⟩:=hbody cdv A outer s H vs Q E hr hsp;exact⟨t,h.nox,q⟩
theorem Fun.binds{st:Stmt}(F:Fun K x qual st f fd)(h:∀kV doc pm an cdv ct us,us.length=ps.length->bindArgs (W.fnOf x qual (tZ st) (zq st) (zu st) .none kV doc pm an cdv ct) ⟨us,[]⟩=pure (ps.zip us)):Binds K fd ps []:=by
 obtain⟨oc,od,kV,doc,pm,an,cdv,ct,osl,rfl,lk,hcd⟩:=F.ex;exact .all (h kV doc pm an cdv ct)
theorem zau{st:Stmt}{kV doc pm cdv ct:Value}(l:K.lookup f=some ⟨oc,od,.func (W.fnOf x qual (tZ st) (zq st) (zu st) .none kV doc pm an cdv ct),osl⟩)(c:W.codeIn K cdv qual=true)(k:W.keepIn K (.ref f)=true):Fun K x qual st f (W.fnOf x qual (tZ st) (zq st) (zu st) .none kV doc pm an cdv ct):=⟨⟨oc,od,kV,doc,pm,an,cdv,ct,osl,rfl,l,c⟩,k⟩
end
section
variable {X:Cx}
theorem pv(i:Nat){pos:Pos}(hN:X.N[i]?=some x:=by rfl)(hv:Vis X.env.scope x:=by first | exact Or.inl rfl | exact Or.inr (Or.inl rfl) | exact Or.inr (Or.inr rfl))(hd:(x == ("__debug__" : Str))=false:=by decide)(hcd:(x == ("__classdict__" : Str))=false:=by decide):PE X (.Name x pos) (zgb i):=zgK hN hv hd hcd
end
theorem yr{A B:Prop}(h:B):if false=true then A else B:=by
 rw[if_neg Bool.false_ne_true];exact h
theorem ym{A B:Prop}(h:A):if true=true then A else B:=by
 rw[if_pos rfl];exact h
theorem zbP{c A B:Prop}[Decidable c](h1:c->A)(h2:¬ c->B):if c then A else B:=by
 by_cases h:c
 ·rw[if_pos h];exact h1 h
 ·rw[if_neg h];exact h2 h
def Same(H H':Hp):Prop:=∀b o,H b=some o->H' b=some o
theorem Same.refl(H:Hp):Same H H:=λ_ _ h=>h
theorem Same.trans(a:Same H H1)(b:Same H1 H2):Same H H2:=λc o h=>b c o (a c o h)
theorem Same.free(e:Same H H')(h:H' l=Option.none):H l=Option.none:=by
 cases q:H l with
 |none=>rfl
 |some o=>
  rw[e l o q]at h;cases h
theorem Same.seq{K:W.Frag}(e:Same H H')(h:SqL K H a xs):SqL K H' a xs:=by
 rcases h with (h | ⟨o,h⟩) | h
 ·exact .inl (.inl (e _ _ h))
 ·exact .inl (.inr ⟨o,e _ _ h⟩)
 ·exact .inr h
def tO(cells:List (Str×Addr)):List (Str×NameKind)->List (Str×Addr)->List (Str×Addr)
 |[],cs=>cs
 | (n,k)::r,cs=>tO cells r (if k=.free then (match cells.lookup n with | some c=>(n,c)::cs | none=>cs) else cs)
theorem ZL{env:Env}:∀(names:List (Str×NameKind)) (cs:List (Str×Addr)),(∀x∈names,x.2=.free->∃c,env.cells.lookup x.1=some c) ->
  (forIn names cs λ(x:Str×NameKind) (r:List (Str×Addr))=>if (x.2 == .free)=true then (do let c <-cellOf env x.1;pure (ForInStep.yield ((x.1,c)::r)):Sem _) else pure (ForInStep.yield r))=pure (tO env.cells names cs)
 |[],cs,_=>rfl
 | (n,k)::r,cs,h=>by
  have ih:=λcs'=>ZL r cs' λx hx=>h x (List.mem_cons_of_mem _ hx);rw[List.forIn_cons];by_cases hk:k=.free
  ·subst hk;obtain⟨c,hc⟩:=h (n,.free) List.mem_cons_self rfl;have e:cellOf env n=pure c:=by unfold cellOf;rw[hc]
   simp only[beq_self_eq_true,if_true,e,pure_bind,tO,hc];exact ih _
  ·have hb:(k == NameKind.free)=false:=by simpa using hk
   simp only[hb,Bool.false_eq_true,if_false,pure_bind,tO,hk];exact ih _
theorem Y4(h:∀x∈scope.names,x.2=.free->∃c,env.cells.lookup x.1=some c):closureFor scope env=pure (tO env.cells scope.names []):=by
  have e:=ZL scope.names [] h;unfold closureFor
  first
    | (simp only[bind_pure];exact e)
    | (show (forIn scope.names [] _ >>= λr=>pure r)=_
       rfl)
theorem XD{cells:List (Str×Addr)}{y:Str}{c:Addr}:∀{names:List (Str×NameKind)} {cs:List (Str×Addr)},(∀y c,cs.lookup y=some c->cells.lookup y=some c)->(tO cells names cs).lookup y=some c->cells.lookup y=some c
 |[],cs,h,e=>h y c e
 | (n,k)::r,cs,h,e=>by
  refine XD (names:=r) ?_ e;intro y' c' e';by_cases hk:k=.free
  ·rw[if_pos hk]at e';cases q:cells.lookup n with
   |none=>rw[q]at e';exact h _ _ e'
   |some d=>
    rw[q]at e';simp only[List.lookup_cons]at e';cases hb:y' == n with
    |true=>
     rw[hb]at e';cases e'
     have:y'=n:=by simpa using hb
     rw[this];exact q
    |false=>rw[hb]at e';exact h _ _ e'
  ·rw[if_neg hk]at e';exact h _ _ e'
theorem U6{cells:List (Str×Addr)}{y:Str}:∀{names:List (Str×NameKind)} {cs:List (Str×Addr)},((∃c,cs.lookup y=some c)\/((y,NameKind.free)∈names/\∃c,cells.lookup y=some c))->∃c,(tO cells names cs).lookup y=some c
 |[],cs,h=>by
  rcases h with h | ⟨h,_⟩
  ·exact h
  ·cases h
 | (n,k)::r,cs,h=>by
  refine U6 (names:=r) ?_;rcases h with ⟨c,h⟩ | ⟨h,c,hc⟩
  ·left;by_cases hk:k=.free
   ·rw[if_pos hk];cases q:cells.lookup n with
    |none=>exact⟨c,h⟩
    |some d=>
     simp only[List.lookup_cons];cases hb:y == n with
     |true=>exact⟨d,rfl⟩
     |false=>exact⟨c,h⟩
   ·rw[if_neg hk];exact⟨c,h⟩
  ·rcases List.mem_cons.mp h with e | h
   ·cases e;left
    rw[if_pos rfl,hc];exact⟨c,by simp⟩
   ·exact .inr ⟨h,c,hc⟩
theorem uq{env:Env}:∀{names:List (Str×NameKind)} {x:Str} {k:NameKind},
  (names.map λ(n,k)=>if (k == NameKind.free && env.scope.kind == .function && env.kindOf n == some .cell) then (n,NameKind.cell) else (n,k)).lookup x=some k->names.lookup x=some k\/(k=.cell/\names.lookup x=some .free)
 |[],_,_,h=>by simp at h
 | (n,k0)::r,x,k,h=>by
  have ih:=@uq env r x k;rw[List.map_cons]at h;by_cases hc:(k0 == NameKind.free && env.scope.kind == .function && env.kindOf n == some .cell)=true
  ·simp only[hc,if_true,List.lookup_cons]at h;have hk0:k0=.free:=by
    simp only[Bool.and_eq_true]at hc;simpa using hc.1.1
   cases hx:x == n with
   |true=>rw[hx]at h;cases h;right;simp[List.lookup_cons,hx,hk0]
   |false=>rw[hx]at h;simp only[List.lookup_cons,hx];exact ih h
  ·have hc':(k0 == NameKind.free && env.scope.kind == .function && env.kindOf n == some .cell)=false:=by simpa using hc
   simp only[hc',Bool.false_eq_true,if_false,List.lookup_cons]at h;cases hx:x == n with
   |true=>rw[hx]at h;cases h;left;simp[List.lookup_cons,hx]
   |false=>rw[hx]at h;simp only[List.lookup_cons,hx];exact ih h
def cxG(X:Cx)(ow N:List Str)(scope:Scope)(C:Addr)(s₀:Shared)(H₀:Hp)(ex:List Addr):Cx:={ X with N:=N,s₀:=s₀,H₀:=H₀,env:=compEnvC scope (ow.map (·,C+1)++tO X.env.cells scope.names []) C X.env,outer:=X.stack,ex:=ex,fn:=λy=>ow.elem y,pn:=[],xe:=λ_ _=>False }
def cxC(X:Cx)(N:List Str)(scope:Scope)(C:Addr)(s₀:Shared)(H₀:Hp)(ex:List Addr):Cx:=cxG X [] N scope C s₀ H₀ ex
def uJ(js:List Nat)(σ:St):St:=js.map λj=>(σ[j]?).join
theorem zeT{i:Nat}(h:(uJ js σ)[i]?=some (some v)):∃j,js[i]?=some j/\σ[j]?=some (some v):=by
 unfold uJ at h;rw[List.getElem?_map]at h;cases e:js[i]? with
 |none=>rw[e]at h;cases h
 |some j=>
  rw[e]at h;have h':(σ[j]?).join=some v:=Option.some.inj h;refine⟨j,rfl,?_⟩;cases q:σ[j]? with
  |none=>rw[q]at h';cases h'
  |some z=>rw[q]at h';exact congrArg some h'
structure CScope (sc:Scope) (scope:Scope) (x:Str) (M:List Str) (ys:List Str) (js:List Nat):Prop where
 kind:scope.kind=.function:=by rfl
 cell:∀y∈scope.names,y.2≠.cell:=by decide +kernel
 loc:∀y∈scope.names,y.2=.local->scope.names.lookup y.1=some .local:=by decide +kernel
 var:scope.names.lookup x=some .local:=by rfl
 free:∀y∈scope.names,y.2=.free->sc.names.lookup y.1=some .cell\/sc.names.lookup y.1=some .free:=by decide +kernel
 caps:js.map (M[·]?)=ys.map some:=by rfl
 fr:∀y∈ys,scope.names.lookup y=some .free:=by decide +kernel
 nd:(x::ys).Nodup:=by decide +kernel
structure zaE (sc:Scope) (scope:Scope) (xs ow:List Str) (M:List Str) (ys:List Str) (js:List Nat):Prop where
 kind:scope.kind=.function
 cell:∀y∈scope.names,y.2=.cell->y.1∈ow
 loc:∀y∈scope.names,y.2=.local->scope.names.lookup y.1=some .local
 free:∀y∈scope.names,y.2=.free->sc.names.lookup y.1=some .cell\/sc.names.lookup y.1=some .free
 caps:js.map (M[·]?)=ys.map some
 fr:∀y∈ys,scope.names.lookup y=some .free
 nd:(xs++ys).Nodup
 one:∀y∈ow,∀z∈ow,y=z
 sub:∀y∈ow,y∈xs
 own:∀n acc,cellsFrom n scope.names acc=ow.map (·,n)++acc
 psh:∀h:Heap,∀y∈ow,(pushCells h scope.names).get? h.objs.size=some { cls:=.type "cell",data:=.cell none }
theorem Ux:∀{names:List (Str×NameKind)} {n:Nat} {acc:List (Str×Addr)},(∀y∈names,y.2≠.cell)->cellsFrom n names acc=acc
 |[],_,_,_=>rfl
 | (_,k)::r,_,_,h=>by
  unfold cellsFrom;rw[if_neg (λe=>h _ List.mem_cons_self (eq_of_beq e))];exact Ux λy hy=>h y (List.mem_cons_of_mem _ hy)
theorem Yc{C:Addr}{cl:List (Str×Addr)}{y:Str}:∀ow:List Str,(ow.map (·,C)++cl).lookup y=if y∈ow then some C else cl.lookup y
 |[]=>rfl
 |x::r=>by
  rw[List.map_cons,List.cons_append,List.lookup_cons,Yc r];by_cases h:y=x
  ·subst h;simp
  ·rw[beq_eq_false_iff_ne.mpr h];simp[h]
def nones(xs:List Str):St:=xs.map λ_=>none
theorem Yt:(nones xs).length=xs.length:=List.length_map ..
theorem Ji(h:(nones xs++c)[i]?=some (some v)):∃k,i=xs.length+k/\c[k]?=some (some v):=by
 by_cases hix:i<xs.length
 ·rw[List.getElem?_append_left (by rw[Yt];exact hix)]at h;unfold nones at h;rw[List.getElem?_map,List.getElem?_eq_getElem hix]at h;cases h
 ·rw[List.getElem?_append_right (by rw[Yt];omega),Yt]at h;exact⟨i-xs.length,by omega,h⟩
theorem zeY(S:zaE sc scope xs ow N ys js)(hQ:∀h',h'.Ns s.heap.objs.size (λ_=>none)->(∀y∈ow,h'.get? (s.heap.objs.size+1)=some { cls:=.type "cell",data:=.cell none })->(∀b o,s.heap.get? b=some o->h'.get? b=some o) ->
   Q { scope,locals:=s.heap.objs.size,globals,cells:=ow.map (·,s.heap.objs.size+1)++cl,qual,func:=none,code:=outer.code,frame:=outer.frame,builtins:=outer.builtins } { s with heap:=h' }):
  wpAny M A (newFunctionEnv scope globals cl [] qual none .none (some outer)) Q E s:=by
 refine wpAny_bind (wpAny_alloc (wpAny_bind (wpAny_layCells _ (λname kind cells=>by cases hkc:kind == NameKind.cell<;>simp[hkc]) _ _ _ _ ?_)));rw[S.own];refine wpAny_bind (wpAny_pure (wpAny_pure ?_));have hsz:(s.heap.push { cls:=.type "dict",data:=.dict #[] }).objs.size=s.heap.objs.size+1:=Heap.size_push ..;have q:=hQ _ ((Heap.Ns.new s.heap (.type "dict")).keeps λb o e=>pushCells_keeps scope.names _ b o e) (λy hy=>by rw[<-hsz];exact S.psh _ y hy) λb o e=>pushCells_keeps _ _ _ _ (Heap.get?_push_of_some _ e);rw[<-hsz]at q;exact q
section
variable {X:Cx} {pins:List (Addr×Obj)} {σ:St} {H:Hp} {s:Shared} {scope:Scope} {x:Str} {xs ow ys:List Str} {js:List Nat} {fp:List Addr} {h₁:Heap} {tk:Nat} {C:Addr}
theorem zc7(I:Inv X pins σ H s)(S:zaE X.env.scope scope xs ow X.N ys js)(hf:∀b∈fp,W7 X pins H b)(ho:∀b∈fp,∃o,s.heap.get? b=some o)(hC:s.heap.objs.size<=C)(hk:∀b o,s.heap.get? b=some o->h₁.get? b=some o)(hn:h₁.Ns C λ_=>none)(hcell:∀y∈ow,h₁.get? (C+1)=some { cls:=.type "cell",data:=.cell none }):
  Inv (cxG X ow (xs++ys) scope C s H fp) [] (nones xs++uJ js σ) H { s with heap:=h₁,toks:=tk }:=by
 generalize hcl:tO X.env.cells scope.names []=cl;have sub:∀y c,cl.lookup y=some c->X.env.cells.lookup y=some c:=λy c e=>XD (λ_ _ z=>by simp at z) (hcl▸e);have eE:(cxG X ow (xs++ys) scope C s H fp).env=compEnvC scope (ow.map (·,C+1)++cl) C X.env:=by rw[<-hcl];rfl
 have has:∀y,y∉ow->scope.names.lookup y=some .free->∃c,(ow.map (·,C+1)++cl).lookup y=some c/\cl.lookup y=some c:=λy hy e=>by
  have m:=PySem.mem_of_lookup e;obtain⟨c,h⟩:=U6 (.inr ⟨m,I.ok.has y (S.free _ m rfl)⟩);rw[Yc,if_neg hy,<-hcl];exact⟨c,h,h⟩
 have look:∀y c,(cxG X ow (xs++ys) scope C s H fp).env.cells.lookup y=some c->(y∈ow/\c=C+1)\/(y∉ow/\cl.lookup y=some c):=λy c e=>by
  rw[eE]at e;have e:(ow.map (·,C+1)++cl).lookup y=some c:=e;rw[Yc]at e;split at e
  ·exact .inl ⟨‹_›,(Option.some.inj e).symm⟩
  ·exact .inr ⟨‹_›,e⟩
 have old:∀y c,cl.lookup y=some c->¬ C+1=c:=λy c e z=>by
  obtain⟨v,o,e2,_⟩:=I.cell y c (sub y c e);exact absurd (Heap.lt_size e2) (z▸Nat.not_lt.mpr (Nat.le_succ_of_le hC))
 have lt:∀b∈fp,b<s.heap.objs.size:=λb hb=>by obtain⟨o,e⟩:=ho b hb;exact Heap.lt_size e
 have ok:(cxG X ow (xs++ys) scope C s H fp).Ok:=by
  refine⟨I.ok.mod,S.kind,I.ok.glob,I.ok.blt,hC,λy z c e1 e2=>?inj,λy hy=>?_,λy c z e=>?_,I.ok.hd,I.ok.frames,.inl rfl,λb hb=>?_,I.bs,Nat.le_trans I.ok.bsz I.sz,λb o e hb=>?_,λb hb z=>?_,I.stack,I.stkFree⟩
  case inj=>
   rcases look y c e1 with ⟨h1,h2⟩ | ⟨_,h1⟩<;>rcases look z c e2 with ⟨h3,h4⟩ | ⟨_,h3⟩
   ·exact S.one _ h1 _ h3
   ·exact absurd h2.symm (old z c h3)
   ·exact absurd h4.symm (old y c h1)
   ·exact I.ok.inj y z c (sub _ _ h1) (sub _ _ h3)
  ·have hy':=hy;rw[eE];show ∃c,(ow.map (·,C+1)++cl).lookup y=some c;by_cases hyx:y∈ow
   ·exact⟨C+1,by rw[Yc,if_pos hyx]⟩
   have has':=λz=>(has y hyx z).imp λ_ h=>h.1;rcases hy' with e | e
   ·rcases uq e with z | ⟨_,z⟩
    ·exact absurd (S.cell _ (PySem.mem_of_lookup z) rfl) hyx
    ·exact has' z
   ·rcases uq e with z | ⟨z,_⟩
    ·exact has' z
    ·cases z
  ·rcases look y c e with ⟨_,h⟩ | ⟨h,_⟩
   ·rw[h];exact Nat.le_succ_of_le hC
   ·exact absurd (List.elem_iff.mp z) h
  ·refine⟨Nat.ne_of_lt (Nat.lt_of_lt_of_le (lt b hb) hC),λy c e=>?_⟩;rcases look y c e with ⟨_,h⟩ | ⟨_,h⟩
   ·rw[h];exact Nat.ne_of_gt (Nat.lt_of_lt_of_le (lt b hb) (Nat.le_succ_of_le hC))
   ·exact (hf b hb).2.2.2.2.1 y c (sub y c h)
  ·rcases (hf b hb).2.2.2.1 with z | z
   ·exact I.ok.noex b o e z
   ·exact absurd (Nat.lt_of_lt_of_le (Heap.lt_size e) (Nat.le_trans I.ok.bsz z)) (Nat.lt_irrefl _)
  ·rcases List.mem_cons.mp (I.stkSub b z) with e | e
   ·exact (hf b hb).2.1 e
   ·exact (hf b hb).2.2.1 e
 refine⟨ok,rfl,I.bare,Un.kept hk,⟨_,hn,λi y v e1 e2 e3=>?_⟩,λy c e=>?_,I.hok.fresh hC,λy c e=>(look y c e).elim (λh=>by rw[h.2];exact I.hok.fresh (Nat.le_succ_of_le hC)) (λh=>I.freeC y c (sub y c h.2)),λp hp=>absurd (show p∈([]) from hp) (by simp),I.hok.kept hk,?_⟩
 ·obtain⟨k,rfl,e2'⟩:=Ji e2;have e1':ys[k]?=some y:=by
   have e1:(xs++ys)[xs.length+k]?=some y:=e1;rw[List.getElem?_append_right (by omega),Nat.add_sub_cancel_left]at e1;exact e1
  obtain⟨j,hj,hσ⟩:=zeT e2';have hN:X.N[j]?=some y:=by
   have z:=congrArg (λl=>l[k]?) S.caps;simp only[List.getElem?_map,hj,e1',Option.map_some]at z;exact Option.some.inj z
  have hmy:=List.mem_of_getElem? e1';have hfr:=S.fr y hmy;have hkind:=S.free _ (PySem.mem_of_lookup hfr) rfl;obtain⟨m',hns,hl⟩:=I.loc;obtain⟨u,r,lk⟩:=hl j y v hN hσ (.inr hkind);refine⟨u,r,.inr ⟨?_,?_⟩⟩
  ·have e3':=e3;rcases e3' with z | z
   ·rcases uq z with q | ⟨q,_⟩
    ·rw[hfr]at q;cases q
    ·cases q
   ·exact z
  ·obtain⟨c,hc,hc2⟩:=has y (λz=>(List.nodup_append.mp S.nd).2.2 y (S.sub y z) y hmy rfl) hfr;rw[eE];refine⟨c,hc,?_⟩;rcases lk with ⟨z,_⟩ | ⟨_,c',hc',cell⟩
   ·rcases hkind with q | q<;>· rw[show X.env.scope.names.lookup y=some .local from z]at q;cases q
   ·rw[sub y c hc2]at hc';cases hc'
    obtain⟨o,e,d⟩:=cell;exact⟨o,hk _ _ e,d⟩
 ·rcases look y c e with ⟨q,h⟩ | ⟨_,h⟩
  ·rw[h];exact⟨none,_,hcell y q,rfl⟩
  ·obtain⟨v,o,e',d⟩:=I.cell y c (sub y c h);exact⟨v,o,hk _ _ e',d⟩
 ·have z:=congrArg List.length S.caps;simp only[List.length_map]at z;show (nones xs++uJ js σ).length=(xs++ys).length;simp[uJ,nones,z]
theorem CScope.gn(S:CScope sc scope x N ys js):zaE sc scope [x] [] N ys js:=⟨S.kind,λy h e=>absurd e (S.cell y h),S.loc,S.free,S.caps,S.fr,S.nd,nofun,nofun,λ_ _=>Ux S.cell,λ_=>nofun⟩
end
def PTs(X:Cx)(ifs:List Expr)(t:TT):Prop :=
 ∀(pins:List (Addr×Obj)) (s:Shared) (σ:St) (H:Hp) (Q:Bool->Hp->Prop),Inv X pins σ H s->t σ H Q ->
  wpAny (model X.prog X.w) X.A (forIn ifs true λc r=>if r=true then do let ok <-isTrue c X.env (eval c X.env);pure (ForInStep.yield ok) else pure (ForInStep.yield r)) (TP X pins σ Q) X.xe s
def jB:TT:=λ_ H Q=>Q true H
theorem yQ:PTs X [] jB:=λpins s σ H Q I h=>wpAny_tests_nil ⟨H,I,h⟩
theorem vK(h:PT X c t):PTs X [c] t:=λpins s σ H Q I hw=>wpAny_tests_one (h pins s σ H Q I hw)
def CompLoop(J:It)(js:List Nat)(tt:TT)(te:TE)(σ:St)(Q:VK)(H:Hp):Prop:=∃W:Nat->Nat->List V->Hp->Prop,(∃m,W 0 m [] H)/\∀i m ys H,W i m ys H ->
 (J.stop i H/\∀D,H D=none->Q (.ref D) (upd H D (.lst ys))) \/
 (J.go i H/\ys.length<sizeLine/\∃N:List V->Hp->Prop,(∀ys' H',N ys' H'->∃m',m'<m/\W (i+1) m' ys' H')/\∀x H',J.yld i H x H'->tt (some x::uJ js σ) H' λb H2=>if b=true then te (some x::uJ js σ) H2 λv H3=>N (ys++[v]) H3 else N ys H2)
def ze4(wi:TI)(js:List Nat)(tt:TT)(te:TE):TE:=fun σ H Q=>wi σ H λJ H1=>CompLoop J js tt te σ Q H1
theorem HOk.track(x:HOk P w H h)(hn:H a=none)(new:ObjOk P w (upd H a o) h a o):HOk P w (upd H a o) h:=λb u e=>by
 by_cases hb:b=a
 ·subst hb;rw[zg]at e;cases e;exact new
 ·rw[zr hb]at e;exact (x b u e).stay (λ_ _ _ q=>q) (λc q=>by rw[zr (zx q hn)];exact q) λc xs q=>by rw[zr (zx q hn)];exact q
section
variable {prog:Program} {w:World} {A:Around} {R:Result->Shared->Prop} {s:Shared}
theorem zc2(hN:N=notedBy (model prog w) A env λe s'=>R (.error e) s')(I:Nat->Shared->Prop)(turn:∀n s,I n s->wpAny (model prog w) A (pyNext it) (λr s₁=>match r with
   |none=>R (.ok .next) s₁
   |some v=>wpAny (model prog w) A (letOwnedTupleGo target it v) (λ_ s₅=>wpAny (model prog w) A (assign target env v) (λ_ s₂=>
     wpAny (model prog w) A (forIn ifs true λc r=>if r=true then do let ok <-isTrue c env (eval c env);pure (ForInStep.yield ok) else pure (ForInStep.yield r)) (λok s₃=>if ok=true then wpAny (model prog w) A (eval elt env) (λx s₄=>wpAny (model prog w) A (call (.builtin "list.append") [acc,x]) (λ_ s₅=>∃m,m<n/\I m s₅) N s₄) N s₃ else ∃m,m<n/\I m s₃) N s₂) N s₅) N s₁) N s)(n:Nat)(h:I n s):codeAny (model prog w) A (.compLoop (.ListComp elt [⟨target,iter,ifs,0⟩] scope pos) 0 it acc env) R s:=by
 subst hN;refine codeAny_loop rfl I (λn s hI=>?_) n h;refine wpAny_noted (wpAny_bind (wpAny_standAt (wpAny_bind (wpAny_mono (turn n s hI) (λr s₁ h₁=>?_) λ_ _ h'=>h'))));cases r with
 |none=>exact wpAny_pure h₁
 |some v=>
  refine wpAny_bind (wpAny_mono h₁ (λ_ s₅ h₅=>wpAny_bind (wpAny_mono h₅ (λ_ s₂ h₂=>wpAny_bind (wpAny_mono h₂ (λok s₃ h₃=>?_) λ_ _ h'=>h')) λ_ _ h'=>h')) λ_ _ h'=>h');cases ok with
  |false=>exact wpAny_pure ⟨rfl,h₃⟩
  |true=>exact wpAny_bind (wpAny_bind (wpAny_mono h₃ (λx s₄ h₄=>wpAny_bind (wpAny_mono h₄ (λ_ s₆ h₆=>wpAny_pure (wpAny_pure ⟨rfl,h₆⟩)) λ_ _ h'=>h')) λ_ _ h'=>h'))
end
def qx(J:It)(xs:List Str)(js:List Nat)(g:TG)(tt:TT)(te:TE)(σ:St)(Q:VK)(H:Hp):Prop:=∃W:Nat->Nat->List V->Hp->Prop,(∃m,W 0 m [] H)/\∀i m ys H,W i m ys H ->
 (J.stop i H/\∀D,H D=none->Q (.ref D) (upd H D (.lst ys))) \/
 (J.go i H/\ys.length<sizeLine/\∃N:List V->Hp->Prop,(∀ys' H',N ys' H'->∃m',m'<m/\W (i+1) m' ys' H')/\∀x H',J.yld i H x H'->g x (nones xs++uJ js σ) H' fun σ' H1=>(∃vs:St,vs.length=xs.length/\σ'=vs++uJ js σ)/\tt σ' H1 λb H2=>if b=true then te σ' H2 λv H3=>N (ys++[v]) H3 else N ys H2)
def zgI(wi:TI)(xs:List Str)(js:List Nat)(g:TG)(tt:TT)(te:TE):TE:=fun σ H Q=>wi σ H λJ H1=>qx J xs js g tt te σ Q H1
section
variable {X:Cx} {elt iter:Expr} {ifs:List Expr} {tg:Expr} {xs ow:List Str} {pos:Pos} {g:TG} {scope:Scope} {ys:List Str} {js:List Nat} {wi:TI} {tt:TT} {te:TE}
theorem Vo{σ:St}{R:Value->Addr->Result->Shared->Prop}(S:zaE X.env.scope scope xs ow X.N ys js)(hc:X.calm=true)(hg:∀C s₀ H₀ ex,PG (cxG X ow (xs++ys) scope C s₀ H₀ ex) tg g)(ht:∀C s₀ H₀ ex,PTs (cxG X ow (xs++ys) scope C s₀ H₀ ex) ifs tt)(he:∀C s₀ H₀ ex,PE (cxG X ow (xs++ys) scope C s₀ H₀ ex) elt te)(I:Inv X pins σ H s)(T:Turn X.prog X.w X.K tg J fp it tn)(st:tn 0 s.heap)(hf:∀b∈fp,W7 X pins H b)(hw:qx J xs js g tt te σ Q H)(hR:∀D C s' H' m',Inv X pins σ H' s'->Q (.ref D) H'->s.heap.objs.size<=C->H' C=none->s'.heap.Ns C m'->R (.ref D) C (.ok .next) s'):
  wpAny (model X.prog X.w) X.A (newList []) (λacc s₃=>wpAny (model X.prog X.w) X.A (newFunctionEnv scope X.env.globals (tO X.env.cells scope.names []) [] X.env.qual none .none (some X.env)) (λcenv s₄=>
   codeAny (model X.prog X.w) X.A (.compStart (.ListComp elt [⟨tg,iter,ifs,0⟩] scope pos) 0 (.ref it) acc { cenv with scope:=relabel scope X.env }) (R acc cenv.locals) s₄) E s₃) E s:=by
 obtain⟨W,⟨m0,w0⟩,turn⟩:=hw;refine wpAny_newObj_type (zeY S λh₁ hns₁ hce₁ hsb₁=>?_);generalize hH2:s.heap.push { cls:=.type "list",dict:=none,data:=.seq ([]).toArray }=G at hns₁ hce₁ hsb₁ ⊢;generalize hD:s.heap.objs.size=D at *;generalize hCe:G.objs.size=C at *;have hC:C=D+1:=by rw[<-hCe,<-hH2,Heap.size_push,hD]
 have hDlt:D<C:=by rw[hC];exact Nat.lt_succ_self D
 have hDC:=Nat.ne_of_lt hDlt;have old:∀b o,s.heap.get? b=some o->h₁.get? b=some o:=λb o e=>hsb₁ b o (hH2▸Heap.get?_push_of_some _ e);have hacc:h₁.get? D=some { cls:=.type "list",data:=.seq ([]).toArray 0 }:=by
  refine hsb₁ D _ ?_;rw[<-hH2,<-hD];exact Heap.get?_push_size _ rfl
 have obj0:=T.obj 0 _ st;have fplt:∀b∈fp,b<D:=λb hb=>by obtain⟨o,e,_⟩:=obj0 b hb;exact hD▸Heap.lt_size e
 generalize hX:cxG X ow (xs++ys) scope C s H fp=X';have I1:Inv X' [] (nones xs++uJ js σ) H { s with heap:=h₁,toks:=s.toks }:=by
  subst hX;exact zc7 I S hf (λb hb=>by obtain⟨o,e,_⟩:=obj0 b hb;exact⟨o,e⟩) (by omega) old hns₁ hce₁
 have eP:X'.prog=X.prog:=by subst hX;rfl
 have eW:X'.w=X.w:=by subst hX;rfl
 have eK:X'.K=X.K:=by subst hX;rfl
 have eA:X'.A=X.A:=by subst hX;rfl
 have eC:X'.calm=true:=by subst hX;exact hc
 have eL:X'.env.locals=C:=by subst hX;rfl
 have eS:X'.s₀=s:=by subst hX;rfl
 have eN:X'.N=xs++ys:=by subst hX;rfl
 have eE:X'.env=compEnvC scope (ow.map (·,C+1)++tO X.env.cells scope.names []) C X.env:=by subst hX;rfl
 have eXe:X'.xe=λ_ _=>False:=by subst hX;rfl
 have eX:X'.ex=fp:=by subst hX;rfl
 have ePn:X'.pn=[]:=by subst hX;rfl
 have efs:∀b,b∈X'.fs->b∈frs X.stack:=λb z=>by subst hX;exact z
 have look:∀y c,X'.env.cells.lookup y=some c->C<c\/X.env.cells.lookup y=some c:=λy c e=>by
  rw[eE]at e;have e:(ow.map (·,C+1)++tO X.env.cells scope.names []).lookup y=some c:=e;rw[Yc]at e;split at e
  ·exact .inl (Nat.lt_of_succ_le (Nat.le_of_eq (Option.some.inj e)))
  ·exact .inr (XD (λ_ _ z=>by simp at z) e)
 have cellNe:∀y c,X'.env.cells.lookup y=some c->c≠D:=λy c e=>by
  rcases look y c e with z | z
  ·exact Nat.ne_of_gt (Nat.lt_trans hDlt z)
  ·obtain⟨v,o,e2,_⟩:=I.cell y c z;exact Nat.ne_of_lt (hD▸Heap.lt_size e2)
 have frLt:∀b,b∈X'.fs->b<D:=λb z=>by
  rcases List.mem_cons.mp (I.stkSub b (efs b z)) with e | e
  ·rw[e];exact hD▸I.lt
  ·exact Nat.lt_of_not_le λh=>I.nofs (hD▸h) e
 have fpOk:∀p H',(∀b∈fp,H' b=none)->(∀q∈p,q.1=D)->∀b∈fp,W7 X' p H' b:=λp H' hn hp b hb=>by
  refine⟨hn b hb,?_,λz=>?_,.inl (eX▸hb),λy c e=>?_,λq hq=>?_⟩
  ·rw[eL];exact Nat.ne_of_lt (Nat.lt_trans (fplt b hb) hDlt)
  ·rcases List.mem_cons.mp (I.stkSub b (efs b z)) with e | e
   ·exact (hf b hb).2.1 e
   ·exact (hf b hb).2.2.1 e
  ·rcases look y c e with z | z
   ·exact Nat.ne_of_gt (Nat.lt_trans (Nat.lt_trans (fplt b hb) hDlt) z)
   ·exact (hf b hb).2.2.2.2.1 y c z
  ·rw[ePn,List.nil_append]at hq;rw[hp q hq];exact Nat.ne_of_gt (fplt b hb)
 have noCell:∀(its:List Value) k v,({ cls:=.type "list",data:=.seq its.toArray k }:Obj).data≠.cell v:=λits k v z=>by cases z
 have done:∀{zs:List V} {its:List Value} {k:Nat} {H':Hp} {s':Shared},Inv X' [] (nones xs++uJ js σ) H' s'->s'.heap.get? D=some { cls:=.type "list",data:=.seq its.toArray k }->Vals zs its->H' D=none->zs.length<=sizeLine ->
   (∀D,H' D=none->Q (.ref D) (upd H' D (.lst zs)))->R (.ref D) C (.ok .next) s':=λ{zs its k H' s'} I' hd hv hn hz q=>by
  have un:=I'.base;obtain⟨m',hns,_⟩:=I'.loc;rw[eL]at hns;have hCn:H' C=none:=by have:=I'.free;rw[eL]at this;exact this
  have hH0:X'.H₀=H:=by subst hX;rfl
  have un2:Un (frs X.stack) fp H (upd H' D (.lst zs)) s.heap s'.heap:=by
   have ne:∀b o,s.heap.get? b=some o->b≠D:=λb o e=>Nat.ne_of_lt (hD▸Heap.lt_size e);have un':Un (frs X.stack) fp H H' s.heap s'.heap:=by subst hX;exact un
   exact⟨un'.keep,un'.slot,λb o e n hx=>by rw[zr (ne b o e)];exact un'.free b o e n hx,un'.there,λb xs e=>by rw[zr (zx (un'.tups b xs e) hn)];exact un'.tups b xs e,
    λb o u e=>by rw[zr (zx (un'.frzs b o u e) hn)];exact un'.frzs b o u e,λb ps e=>by
     obtain⟨more,z⟩:=un'.tbls b ps e;exact⟨more,by rw[zr (zx z hn)];exact z⟩⟩
  have hok:HOk X.prog X.w (upd H' D (.lst zs)) s'.heap:=by
   have h0:=I'.hok;rw[eP,eW]at h0;exact h0.track hn ⟨hz,its,k,hv,hd⟩
  have I2:=I.call' (by have:=I'.os;rw[eS]at this;exact this) un2 hok I'.bare λb hb=>⟨(hf b hb).2.2.2.1,(hf b hb).2.1,(hf b hb).2.2.2.2.1,(hf b hb).2.2.2.2.2⟩
  exact hR D C s' _ m' I2 (q D hn) (by omega) (by rw[zr (Ne.symm hDC)];exact hCn) hns
 have loop:codeAny (model X.prog X.w) X.A (.compLoop (.ListComp elt [⟨tg,iter,ifs,0⟩] scope pos) 0 (.ref it) (.ref D) X'.env) (R (.ref D) C) { s with heap:=h₁,toks:=s.toks }:=by
  refine zc2 rfl (λn s'=>∃i zs its k H',Inv X' [] (nones xs++uJ js σ) H' s'/\tn i s'.heap/\(∀b∈fp,H' b=none)/\s'.heap.get? D=some { cls:=.type "list",data:=.seq its.toArray k }/\Vals zs its/\H' D=none/\zs.length<=sizeLine/\W i n zs H')
   ?_ m0 ⟨0,[],[],0,H,I1,T.keep _ _ _ st (λb hb o e=>old b o e),λb hb=>(hf b hb).1,hacc,.nil,I.hok.fresh (by omega),Nat.zero_le _,w0⟩
  rintro n s3 ⟨i,zs,its,k,H3,I3,st3,fr3,d3,v3,n3,z3,w3⟩;have pinD:Inv X' [(D,{ cls:=.type "list",data:=.seq its.toArray k })] (nones xs++uJ js σ) H3 s3:=I3.pins_of λp hp=>by
   have e:p=(D,{ cls:=.type "list",data:=.seq its.toArray k }):=by simpa using hp
   subst e;exact⟨d3,n3,by rw[eL];exact hDC,λz=>Nat.lt_irrefl _ (frLt D z),noCell its k⟩
  have hpD:∀q∈[(D,({ cls:=.type "list",data:=.seq its.toArray k }:Obj))],q.1=D:=λq hq=>by
   have e:q=(D,{ cls:=.type "list",data:=.seq its.toArray k }):=by simpa using hq
   rw[e]
  rcases turn i n zs H3 w3 with ⟨stop,qn⟩ | ⟨go,hzl,NN,hNN,step⟩
  ·refine thn (eA▸T.done X' eP eW eK eC i _ s3 _ H3 _ pinD (fpOk _ _ fr3 hpD) st3 stop) λr s4 ⟨hr,I4⟩=>?_;subst hr;exact done (I4.pins_of λp hp=>absurd hp (by simp)) (I4.pin (D,{ cls:=.type "list",data:=.seq its.toArray k }) (List.mem_append_right _ (by simp))).1 v3 n3 z3 qn
  ·refine thn (eA▸T.item X' eP eW eK eC i _ s3 _ H3 _ pinD (fpOk _ _ fr3 hpD) st3 go) λr s4 ⟨u,hr,h4⟩=>?_;subst hr;refine thn h4 λ_ s4 ⟨v,H5,I5,r5,y5,st5,fr5⟩=>?_;have I5':=I5.pinned (fpOk _ _ fr5 hpD) (T.obj _ _ st5);have ev:∀{α:Type} {t:Sem α} {Q':α->Shared->Prop} {E':Value->Shared->Prop} {s':Shared},wpAny (model X'.prog X'.w) X'.A t Q' X'.xe s'->wpAny (model X.prog X.w) X.A t Q' E' s':=λ{α t Q' E' s'} hh=>by
    rw[eP,eW,eA,eXe]at hh;exact wpAny_mono hh (λ_ _ q=>q) λ_ _ z=>z.elim
   have hgg:=hX▸hg C s H fp;refine ev (thn (hgg _ s4 _ H5 v u _ I5' r5 (step v H5 y5)) λ_ s6 ⟨σ6,H6,I6,⟨vs6,hvl,e6⟩,q6⟩=>?_);subst e6;have back:∀{σ':St} {H7:Hp} {s7:Shared},Inv X' ([(D,{ cls:=.type "list",data:=.seq its.toArray k })]++WM fp s4.heap) (vs6++uJ js σ) H7 s7->Inv X' [] (nones xs++uJ js σ) H7 s7:=λ{_ H7 s7} I7=>by
    refine (I7.pins_of λp hp=>absurd hp (by simp)).weak (by rw[List.length_append,List.length_append,hvl,Yt]) λi v' e=>?_;obtain⟨k',rfl,e'⟩:=Ji e;rw[List.getElem?_append_right (by omega),hvl,Nat.add_sub_cancel_left];exact e'
   have fps:∀{σ':St} {H7:Hp} {s7:Shared},Inv X' ([(D,{ cls:=.type "list",data:=.seq its.toArray k })]++WM fp s4.heap) σ' H7 s7->(∀b∈fp,H7 b=none)/\(∀b∈fp,∀o,s4.heap.get? b=some o->s7.heap.get? b=some o)/\s7.heap.get? D=some { cls:=.type "list",data:=.seq its.toArray k }/\H7 D=none:=λ{σ' H7 s7} I7=>by
    have g:∀b∈fp,∀o,s4.heap.get? b=some o->s7.heap.get? b=some o/\H7 b=none:=λb hb o e=>by
     have z:=I7.pin (b,o) (List.mem_append_right _ (List.mem_append_right _ (XF hb e)));exact⟨z.1,z.2.1⟩
    refine⟨λb hb=>?_,λb hb o e=>(g b hb o e).1,(I7.pin (D,{ cls:=.type "list",data:=.seq its.toArray k }) (List.mem_append_right _ (by simp))).1,(I7.pin (D,{ cls:=.type "list",data:=.seq its.toArray k }) (List.mem_append_right _ (by simp))).2.1⟩;obtain⟨o,e,_⟩:=T.obj _ _ st5 b hb;exact (g b hb o e).2
   have hte:=hX▸ht C s H fp;have hee:=hX▸he C s H fp;refine ev (thn (hte _ s6 _ H6 _ I6 q6) λb s7 ⟨H7,I7,q7⟩=>?_);cases b with
   |false=>
    obtain⟨m',hm,w7⟩:=hNN _ _ q7;obtain⟨g1,g2,g3,g4⟩:=fps I7;exact⟨m',hm,i+1,zs,its,k,H7,back (σ':=[]) I7,T.keep _ _ _ st5 g2,g1,g3,v3,g4,z3,w7⟩
   |true=>
    refine ev (thn (hee _ s7 _ H7 _ I7 q7) λu8 s8 ⟨v8,H8,I8,r8,q8⟩=>?_);obtain⟨m',hm,w8⟩:=hNN _ _ q8;obtain⟨g1,g2,g3,g4⟩:=fps I8;have hil:=v3.length;refine call_meets F.slot_list_append ⟨_,g3,rfl⟩ F.entry_list_append (F.args_list_append_2 _ _) (PySem.list_append D its.toArray k u8 (by rw[List.size_toArray];omega)) ⟨g3,?_⟩;have q:=PySem.IsL.update g3 (λa=>a.push u8);have ea:its.toArray.push u8=(its++[u8]).toArray:=by simp
    rw[ea]at q;have kk:∀b o,b≠D->s8.heap.get? b=some o->(s8.heap.update D (Obj.mapSeq λa=>a.push u8)).get? b=some o:=λb o hb e=>(Heap.get?_update_other _ _ (Ne.symm hb)).trans e;have I9:Inv X' [] (nones xs++uJ js σ) H8 { s8 with heap:=s8.heap.update D (Obj.mapSeq λa=>a.push u8),toks:=s8.toks }:=by
     refine (back (σ':=[]) I8).turned kk g4 (by rw[eL];exact hDC) (.inr (by rw[eS];omega)) cellNe λp hp=>?_;rw[ePn]at hp;exact absurd hp (by simp)
    refine⟨m',hm,i+1,zs++[v8],its++[u8],_,H8,I9,T.keep _ _ _ st5 (λb hb o e=>kk b o (Nat.ne_of_lt (fplt b hb)) (g2 b hb o e)),g1,q,v3.append (.cons r8 .nil),g4,?_,w8⟩;rw[List.length_append,List.length_singleton];omega
 rw[eE]at loop;exact codeAny_compStart_list loop (T.self _ 0 _ _ _ (T.keep _ _ _ st (λb hb o e=>old b o e)) loop)
theorem ze6{L:It->St->VK->Hp->Prop}(hL:∀J σ Q H,L J σ Q H->qx J xs js g tt te σ Q H)(S:zaE X.env.scope scope xs ow X.N ys js)(hc:X.calm=true)(hi:PI X tg iter wi)(hg:∀C s₀ H₀ ex,PG (cxG X ow (xs++ys) scope C s₀ H₀ ex) tg g)(ht:∀C s₀ H₀ ex,PTs (cxG X ow (xs++ys) scope C s₀ H₀ ex) ifs tt)(he:∀C s₀ H₀ ex,PE (cxG X ow (xs++ys) scope C s₀ H₀ ex) elt te)(hs:∀x,foldedSetIterable iter X.env x=pure x:=by intro _;rfl):PE X (.ListComp elt [⟨tg,iter,ifs,0⟩] scope pos) (fun σ H Q=>wi σ H λJ H1=>L J σ Q H1):=by
 intro pins s σ H Q I h;refine wpAny_comprehension_free rfl hs (Y4 λy hy e=>I.ok.has _ (S.free y hy e)) S.kind S.loc (thn (hi pins s σ H _ I h) λv s1 h1=>thn h1 λitv s2 h2=>?_);obtain⟨it,fp,tn,J,H2,e,I2,T,st2,f2,hw⟩:=h2;subst e;refine Vo S hc hg ht he I2 T st2 f2 (hL _ _ _ _ hw) ?_;intro D C s' H' m' I' q hC hn hns;refine⟨m',hns,λh' hs'=>⟨.ref D,H',?_,rfl,q⟩⟩;have e:=I2.fpOk hC hn;exact I'.turned (λb o hb e=>(hs'.2 b hb).trans e) hn e.2.1 e.2.2.2.1 e.2.2.2.2.1 e.2.2.2.2.2
theorem Yh{L:It->St->VK->Hp->Prop}(hL:∀J σ Q H,L J σ Q H->qx J xs js g tt te σ Q H){py spos:Pos}(S:zaE X.env.scope scope xs ow X.N ys js)(hc:X.calm=true)(hN:X.N.Nodup)(hy:X.N[i]?=some y)(hl:Loc X.env.scope y)(hi:PI X tg iter wi)(hg:∀C s₀ H₀ ex,PG (cxG X ow (xs++ys) scope C s₀ H₀ ex) tg g)(ht:∀C s₀ H₀ ex,PTs (cxG X ow (xs++ys) scope C s₀ H₀ ex) ifs tt)(he:∀C s₀ H₀ ex,PE (cxG X ow (xs++ys) scope C s₀ H₀ ex) elt te)(hf:X.fn y=true\/X.env.scope.names.lookup y=some .local:=by first | exact .inl rfl | exact .inr rfl | assumption)(hsw:swapsWith (.ListComp elt [⟨tg,iter,ifs,0⟩] scope pos) (some (.Name y py)) spos.line X.env=pure true:=by rfl)(hs:∀x,foldedSetIterable iter X.env x=pure x:=by intro _;rfl):PS X (.Assign [.Name y py] (.ListComp elt [⟨tg,iter,ifs,0⟩] scope pos) spos) (Qp (fun σ H Q=>wi σ H λJ H1=>L J σ Q H1) (ZV i)):=by
 intro pins s σ H D I h;rw[exec_Assign_Name_used _ _ _ _ hsw];refine wpAny_bind (wpAny_standAt (wpAny_bind ?_));refine wpAny_bind (wpAny_mono (wpAny_comprehension_free rfl hs (Y4 λy hy e=>I.ok.has _ (S.free y hy e)) S.kind S.loc
  (thn (hi pins s σ H _ I h) λv s1 h1=>thn h1 λitv s2 h2=>?_)) (λ_ s' hq=>wpAny_pure (wpAny_pure hq)) λ_ _ e=>e)
 obtain⟨it,fp,tn,J,H2,e,I2,T,st2,f2,hw⟩:=h2;subst e;refine Vo S hc hg ht he I2 T st2 f2 (hL _ _ _ _ hw) ?_;intro Da C s' H' m' I' q hC hn hns;have e:=I2.fpOk hC hn;refine wpAny_assign_Name (Q8 I' hN hy hl (show RelV (.ref Da) (.ref Da) from rfl) (λs2' I3 ⟨a,sb,ha⟩=>?_) hf);have hCa:C≠a:=by
  rcases ha with z | z
  ·rw[z];exact e.2.1
  ·intro w;exact e.2.2.2.2.1 _ _ z w.symm
 refine⟨m',hns.sameBut sb hCa,λh' hs'=>⟨_,H',?_,q⟩⟩;exact I3.turned (λb o hb e=>(hs'.2 b hb).trans e) hn e.2.1 e.2.2.2.1 e.2.2.2.2.1 e.2.2.2.2.2
theorem CompLoop.t(h:CompLoop J js tt te σ Q H):qx J [x] js (ZV 0) tt te σ Q H:=by
 obtain⟨W,h0,h⟩:=h;exact⟨W,h0,λi m ys H w=>(h i m ys H w).imp id λ⟨a,b,N,c,d⟩=>⟨a,b,N,c,λx H' y=>⟨⟨[some x],rfl,rfl⟩,d x H' y⟩⟩⟩
variable {x:Str} {px:Pos}
theorem yx(S:CScope X.env.scope scope x X.N ys js)(hc:X.calm=true)(hi:PI X (.Name x px) iter wi)(ht:∀C s₀ H₀ ex,PTs (cxC X (x::ys) scope C s₀ H₀ ex) ifs tt)(he:∀C s₀ H₀ ex,PE (cxC X (x::ys) scope C s₀ H₀ ex) elt te)(hs:∀x,foldedSetIterable iter X.env x=pure x:=by intro _;rfl):PE X (.ListComp elt [⟨.Name x px,iter,ifs,0⟩] scope pos) (ze4 wi js tt te):=
 ze6 (λ_ _ _ _ h=>h.t) S.gn hc hi (λ_ _ _ _=>yh S.nd rfl (.inl (lookup_relabel_local S.var)) (.inr (lookup_relabel_local S.var))) ht he hs
theorem qJ{py spos:Pos}(S:CScope X.env.scope scope x X.N ys js)(hc:X.calm=true)(hN:X.N.Nodup)(hy:X.N[i]?=some y)(hl:Loc X.env.scope y)(hi:PI X (.Name x px) iter wi)(ht:∀C s₀ H₀ ex,PTs (cxC X (x::ys) scope C s₀ H₀ ex) ifs tt)(he:∀C s₀ H₀ ex,PE (cxC X (x::ys) scope C s₀ H₀ ex) elt te)(hf:X.fn y=true\/X.env.scope.names.lookup y=some .local:=by first | exact .inl rfl | exact .inr rfl | assumption)(hsw:swapsWith (.ListComp elt [⟨.Name x px,iter,ifs,0⟩] scope pos) (some (.Name y py)) spos.line X.env=pure true:=by rfl)(hs:∀x,foldedSetIterable iter X.env x=pure x:=by intro _;rfl):PS X (.Assign [.Name y py] (.ListComp elt [⟨.Name x px,iter,ifs,0⟩] scope pos) spos) (Qp (ze4 wi js tt te) (ZV i)):=
 Yh (λ_ _ _ _ h=>h.t) S.gn hc hN hy hl hi (λ_ _ _ _=>yh S.nd rfl (.inl (lookup_relabel_local S.var)) (.inr (lookup_relabel_local S.var))) ht he hf hsw hs
end
theorem yt{K:W.Frag}(Pv:Nat->List V->Hp->Prop)(h0:Pv 0 [] H)(hl:∀i ys H,i<=xs.length->Pv i ys H->SqL K H a xs)(hs:∀i x ys H,xs[i]?=some x->Pv i ys H->ys.length<sizeLine/\tt (some x::uJ js σ) H λb H2=>if b=true then te (some x::uJ js σ) H2 λv H3=>Pv (i+1) (ys++[v]) H3 else Pv (i+1) ys H2)(hd:∀ys H,Pv xs.length ys H->∀D,H D=none->Q (.ref D) (upd H D (.lst ys))):
  CompLoop (Itl K a) js tt te σ Q H:=by
 refine⟨λi m ys H=>m=xs.length-i/\i<=xs.length/\Pv i ys H,⟨xs.length,by simp,Nat.zero_le _,h0⟩,?_⟩;rintro i m ys H ⟨rfl,hi,p⟩;have q:=hl i ys H hi p;by_cases hlt:i<xs.length
 ·have hx:=List.getElem?_eq_getElem hlt;obtain⟨hz,hst⟩:=hs i xs[i] ys H hx p;refine .inr ⟨⟨xs,xs[i],q,hx⟩,hz,Pv (i+1),λys' H' p'=>⟨xs.length-(i+1),by omega,rfl,hlt,p'⟩,λx H' y=>?_⟩;obtain⟨e,y⟩:=y;subst e;have e2:=y xs q;rw[hx]at e2;cases e2
  exact hst
 ·have e:i=xs.length:=by omega
  subst e;exact .inl ⟨⟨xs,q,Nat.le_refl _⟩,hd ys H p⟩
theorem wV{lo:Int}(Pv:Nat->List V->Hp->Prop)(h0:Pv 0 [] H)(hs:∀i ys H,i<n->Pv i ys H->ys.length<sizeLine/\tt (some (.int (lo+i))::uJ js σ) H λb H2=>if b=true then te (some (.int (lo+i))::uJ js σ) H2 λv H3=>Pv (i+1) (ys++[v]) H3 else Pv (i+1) ys H2)(hd:∀ys H,Pv n ys H->∀D,H D=none->Q (.ref D) (upd H D (.lst ys))):
  CompLoop (Itr lo n) js tt te σ Q H:=by
 refine⟨λi m ys H=>m=n-i/\i<=n/\Pv i ys H,⟨n,by simp,Nat.zero_le _,h0⟩,?_⟩;rintro i m ys H ⟨rfl,hi,p⟩;by_cases hlt:i<n
 ·obtain⟨hz,hst⟩:=hs i ys H hlt p;refine .inr ⟨hlt,hz,Pv (i+1),λys' H' p'=>⟨n-(i+1),by omega,rfl,hlt,p'⟩,λx H' y=>?_⟩;obtain⟨e,y⟩:=y;subst e y;exact hst
 ·have e:i=n:=by omega
  subst e;exact .inl ⟨Nat.le_refl _,hd ys H p⟩
open PySem PySem.Spec PyProof.Rows PySem.SeqAt
inductive Tr where
 |non | bl (b:Bool) | int (i:Int) | str (x:Str) | lst (ts:List Tr) | tup (ts:List Tr)
mutual
def TrAt(K:W.Frag)(H:Hp):Tr->V->Prop
 |.non,v=>v=.non
 |.bl b,v=>v=.bl b
 |.int i,v=>v=.int i
 |.str x,v=>v=.str x
 |.lst ts,v=>∃a xs,v=.ref a/\SqL K H a xs/\TrsAt K H ts xs
 |.tup ts,v=>∃a xs,v=.ref a/\SqT K H a xs/\TrsAt K H ts xs
def TrsAt(K:W.Frag)(H:Hp):List Tr->List V->Prop
 |[],xs=>xs=[]
 |t::ts,xs=>∃y ys,xs=y::ys/\TrAt K H t y/\TrsAt K H ts ys
end
mutual
def teq:Tr->Tr->Bool
 |.non,.non=>true
 |.bl a,.bl b=>a == b
 |.bl a,.int b=>(if a then 1 else 0) == b
 |.int a,.bl b=>a == (if b then 1 else 0)
 |.int a,.int b=>a == b
 |.str a,.str b=>a == b
 |.lst a,.lst b=>tW a b
 |.tup a,.tup b=>tW a b
 |_,_=>false
def tW:List Tr->List Tr->Bool
 |[],[]=>true
 |t::ts,u::us=>teq t u && tW ts us
 |_,_=>false
end
mutual
def vG:Tr->Nat
 |.lst ts=>xq ts+1
 |.tup ts=>xq ts+1
 |_=>0
def xq:List Tr->Nat
 |[]=>0
 |t::ts=>max (vG t) (xq ts)
end
theorem Z4{t:Tr}:∀{ts:List Tr},t∈ts->vG t<=xq ts
 |u::ts,h=>by
  rw[xq];rcases List.mem_cons.mp h with e | h
  ·rw[e];exact Nat.le_max_left _ _
  ·exact Nat.le_trans (Z4 h) (Nat.le_max_right _ _)
section
variable {K:W.Frag} {H:Hp}
theorem TrsAt.length:∀{ts:List Tr} {xs:List V},TrsAt K H ts xs->ts.length=xs.length
 |[],xs,h=>by rw[TrsAt]at h;subst h;rfl
 |t::ts,xs,h=>by
  rw[TrsAt]at h;obtain⟨y,ys,rfl,_,h⟩:=h;rw[List.length_cons,List.length_cons,TrsAt.length h]
theorem TrsAt.get:∀{ts:List Tr} {xs:List V} {j:Nat} {t:Tr},TrsAt K H ts xs->ts[j]?=some t->∃x,xs[j]?=some x/\TrAt K H t x
 |[],xs,j,t,h,e=>by simp at e
 |u::ts,xs,0,t,h,e=>by
  rw[TrsAt]at h;obtain⟨y,ys,rfl,hy,h⟩:=h;simp at e;subst e;exact⟨y,rfl,hy⟩
 |u::ts,xs,j+1,t,h,e=>by
  obtain⟨y,ys,rfl,hy,h⟩:=h;obtain⟨x,e1,e2⟩:=TrsAt.get h (by simpa using e);exact⟨x,by simpa using e1,e2⟩
theorem TrsAt.mk:∀{ts:List Tr} {xs:List V},ts.length=xs.length->(∀(j:Nat) (t:Tr) (x:V),ts[j]?=some t->xs[j]?=some x->TrAt K H t x)->TrsAt K H ts xs
 |[],[],_,_=>by rw[TrsAt]
 |[],_::_,h,_=>by simp at h
 |_::_,[],h,_=>by simp at h
 |t::ts,x::xs,h,f=>by
  rw[TrsAt];exact⟨x,xs,rfl,f 0 t x rfl rfl,TrsAt.mk (by simpa using h) λj t x e1 e2=>f (j+1) t x (by simpa using e1) (by simpa using e2)⟩
theorem TrsAt.ints:∀{ns:List Int},TrsAt K H (ns.map Tr.int) (ns.map V.int)
 |[]=>by rw[List.map_nil,TrsAt];rfl
 |n::ns=>by rw[List.map_cons,TrsAt];exact⟨_,_,rfl,by rw[TrAt],TrsAt.ints⟩
def yN(ns:List Int):Tr:=.lst (ns.map Tr.int)
theorem TrAt.ints(h:SqL K H a (ns.map V.int)):TrAt K H (yN ns) (.ref a):=by
 unfold yN;rw[TrAt];exact⟨a,_,rfl,h,TrsAt.ints⟩
end
mutual
theorem jT:∀t:Tr,teq t t=true
 |.non=>by rw[teq]
 |.bl b=>by rw[teq];simp
 |.int i=>by rw[teq];simp
 |.str x=>by rw[teq];simp
 |.lst ts=>by rw[teq];exact j4 ts
 |.tup ts=>by rw[teq];exact j4 ts
theorem j4:∀ts:List Tr,tW ts ts=true
 |[]=>by rw[tW]
 |t::ts=>by rw[tW,jT t,j4 ts];rfl
end
theorem Uc{α:Type}[DecidableEq α]{f:α->Tr}(h:∀a b,teq (f a) (f b)=decide (a=b)):∀(xs ys:List α),tW (xs.map f) (ys.map f)=decide (xs=ys)
 |[],[]=>by simp[tW]
 |[],_::_=>by simp[tW]
 |_::_,[]=>by simp[tW]
 |x::xs,y::ys=>by
  rw[List.map_cons,List.map_cons,tW,h,Uc h xs ys,Bool.eq_iff_iff];simp
theorem zcz(a b:Int):teq (.int a) (.int b)=decide (a=b):=by rw[teq,Bool.eq_iff_iff];simp
theorem uY(a b:List Int):teq (yN a) (yN b)=decide (a=b):=by unfold yN;rw[teq];exact Uc zcz a b
theorem XH:∀ns:List Int,xq (ns.map Tr.int)=0
 |[]=>by simp[xq]
 |n::ns=>by rw[List.map_cons,xq,XH ns,vG]<;>simp
theorem uI(ns:List Int):vG (yN ns)=1:=by unfold yN;rw[vG,XH]
theorem jm:∀{ts us:List Tr},ts.length≠us.length->tW ts us=false
 |[],[],h=>absurd rfl h
 |[],_::_,_=>by simp[tW]
 |_::_,[],_=>by simp[tW]
 |t::ts,u::us,h=>by rw[tW,jm (by simpa using h),Bool.and_false]
def eAt(ts us:List Tr)(j:Nat):Bool:=match ts[j]?,us[j]? with
 |some t,some u=>teq t u
 |_,_=>true
theorem JQ:∀{ts us:List Tr},ts.length=us.length->(List.range ts.length).all (eAt ts us)=tW ts us
 |[],[],_=>by simp[tW]
 |[],_::_,h=>by simp at h
 |_::_,[],h=>by simp at h
 |t::ts,u::us,h=>by
  rw[List.length_cons,List.range_succ_eq_map,List.all_cons,List.all_map,tW,<-JQ (ts:=ts) (us:=us) (by simpa using h)];rfl
section
variable {X:Cx} {pins:List (Addr×Obj)} {σ:St} {H:Hp} {s:Shared}
theorem V2(I:Inv X pins σ H s):∀(n:Nat) {t u:Tr} {v:V},vG t<=n->TrAt X.K H t v->TrAt X.K H u v->t=u:=by
 intro n
 induction n with
 |zero=>
  intro t u v hd ht hu;cases t with
  |lst ts=>rw[vG]at hd;omega
  |tup ts=>rw[vG]at hd;omega
  |_=>(rw[TrAt]at ht;subst ht;cases u<;>(rw[TrAt]at hu)<;>first | rfl | (obtain⟨_,_,z,_⟩:=hu;cases z) | (cases hu;rfl) | cases hu)
 |succ n ih=>
  intro t u v hd ht hu;have lists:∀{ts us:List Tr} {xs:List V},xq ts<=n->TrsAt X.K H ts xs->TrsAt X.K H us xs->ts=us:=by
   intro ts us xs hd h1 h2;apply List.ext_getElem?;intro j;have l1:=h1.length;have l2:=h2.length;by_cases hj:j<ts.length
   ·obtain⟨t,e⟩:∃t,ts[j]?=some t:=⟨_,List.getElem?_eq_getElem hj⟩
    obtain⟨u,e'⟩:∃u,us[j]?=some u:=⟨_,List.getElem?_eq_getElem (by omega)⟩
    obtain⟨x,ex,hx⟩:=h1.get e;obtain⟨y,ey,hy⟩:=h2.get e';rw[ex]at ey;cases ey
    rw[e,e',ih (Nat.le_trans (Z4 (List.mem_of_getElem? e)) hd) hx hy]
   ·rw[List.getElem?_eq_none (by omega),List.getElem?_eq_none (by omega)]
  cases t with
  |lst ts=>
   obtain⟨a,xs,rfl,q,h1⟩:=ht;cases u with
   |lst us=>
    obtain⟨b,ys,e,q',h2⟩:=hu;cases e
    rw[I.list_inj q' q]at h2;rw[lists (by rw[vG]at hd;omega) h1 h2]
   |tup us=>
    obtain⟨b,ys,e,q',h2⟩:=hu;cases e
    obtain⟨_,_,pl,_⟩:=I.list q;obtain⟨_,_,pt,_⟩:=I.tuple q';exact absurd rfl (ne_of_list_tuple pl.isList pt)
   |_=>rw[TrAt]at hu;cases hu
  |tup ts=>
   obtain⟨a,xs,rfl,q,h1⟩:=ht;cases u with
   |tup us=>
    obtain⟨b,ys,e,q',h2⟩:=hu;cases e
    rw[I.tuple_inj q' q]at h2;rw[lists (by rw[vG]at hd;omega) h1 h2]
   |lst us=>
    obtain⟨b,ys,e,q',h2⟩:=hu;cases e
    obtain⟨_,_,pl,_⟩:=I.list q';obtain⟨_,_,pt,_⟩:=I.tuple q;exact absurd rfl (ne_of_list_tuple pl.isList pt)
   |_=>rw[TrAt]at hu;cases hu
  |_=>(rw[TrAt]at ht;subst ht;cases u<;>(rw[TrAt]at hu)<;>first | rfl | (obtain⟨_,_,z,_⟩:=hu;cases z) | (cases hu;rfl) | cases hu)
structure zh7 (A:Around) (s:Shared) (a b:Value) (r:Bool):Prop where
 rc:RcAt A s a b r
 ne:RcNeAt A s a b (!r)
 eq:EqAt A s a b r
theorem units_in1(A:Around):A.in1.units=A.units+1:=rfl
theorem VL(I:Inv X pins σ H s):∀(n:Nat) {t u:Tr} {v w:V} {a b:Value} {A:Around},vG t<=n->TrAt X.K H t v->TrAt X.K H u w->RelV v a->RelV w b->A.units+n<cLine->zh7 A s a b (teq t u):=by
 intro n
 induction n with
 |zero=>
  intro t u v w a b A hd ht hu ra rb hA;have hA':A.units<cLine:=by omega
  cases t with
  |lst ts=>rw[vG]at hd;omega
  |tup ts=>rw[vG]at hd;omega
  |non=>
   rw[TrAt]at ht;subst ht;cases ra
   cases u with
   |non=>rw[TrAt]at hu;subst hu;cases rb;rw[teq];exact⟨.none_none,.none_none,.same _⟩
   |bl b=>rw[TrAt]at hu;subst hu;cases rb;simp only[teq];exact⟨.none_bool _,.none_bool _,.none_bool _⟩
   |int b=>rw[TrAt]at hu;subst hu;obtain⟨_,rfl⟩:=rb;simp only[teq];exact⟨.none_int _ _,.none_int _ _,.none_int _ _⟩
   |str b=>rw[TrAt]at hu;subst hu;obtain⟨_,rfl⟩:=rb;simp only[teq];exact⟨.none_str _ _,.none_str _ _,.none_str _ _⟩
   |lst us=>rw[TrAt]at hu;obtain⟨p,ys,rfl,q,_⟩:=hu;cases rb;obtain⟨_,_,pl,_⟩:=I.list q;simp only[teq];exact⟨.none_list pl.isList hA',.none_list pl.isList hA',.none_list pl.isList hA'⟩
   |tup us=>rw[TrAt]at hu;obtain⟨p,ys,rfl,q,_⟩:=hu;cases rb;obtain⟨_,_,pl,_⟩:=I.tuple q;simp only[teq];exact⟨.none_tuple pl hA',.none_tuple pl hA',.none_tuple pl hA'⟩
  |bl c=>
   rw[TrAt]at ht;subst ht;cases ra
   cases u with
   |non=>rw[TrAt]at hu;subst hu;cases rb;simp only[teq];exact⟨.bool_none _,.bool_none _,.bool_none _⟩
   |bl b=>rw[TrAt]at hu;subst hu;cases rb;rw[teq];exact⟨.bool_bool _ _,.bool_bool _ _,.bool_bool _ _⟩
   |int b=>rw[TrAt]at hu;subst hu;obtain⟨_,rfl⟩:=rb;rw[teq];exact⟨.bool_int _ _ _,.bool_int _ _ _,.bool_int _ _ _⟩
   |str b=>rw[TrAt]at hu;subst hu;obtain⟨_,rfl⟩:=rb;simp only[teq];exact⟨.bool_str _ _ _,.bool_str _ _ _,.bool_str _ _ _⟩
   |lst us=>rw[TrAt]at hu;obtain⟨p,ys,rfl,q,_⟩:=hu;cases rb;obtain⟨_,_,pl,_⟩:=I.list q;simp only[teq];exact⟨.bool_list _ pl.isList hA',.bool_list _ pl.isList hA',.bool_list _ pl.isList hA'⟩
   |tup us=>rw[TrAt]at hu;obtain⟨p,ys,rfl,q,_⟩:=hu;cases rb;obtain⟨_,_,pl,_⟩:=I.tuple q;simp only[teq];exact⟨.bool_tuple _ pl hA',.bool_tuple _ pl hA',.bool_tuple _ pl hA'⟩
  |int c=>
   rw[TrAt]at ht;subst ht;obtain⟨_,rfl⟩:=ra;cases u with
   |non=>rw[TrAt]at hu;subst hu;cases rb;simp only[teq];exact⟨.int_none _ _,.int_none _ _,.int_none _ _⟩
   |bl b=>rw[TrAt]at hu;subst hu;cases rb;rw[teq];exact⟨.int_bool _ _ _,.int_bool _ _ _,.int_bool _ _ _⟩
   |int b=>rw[TrAt]at hu;subst hu;obtain⟨_,rfl⟩:=rb;rw[teq];exact⟨.int_int _ _ _ _,.int_int _ _ _ _,.int_int _ _ _ _⟩
   |str b=>rw[TrAt]at hu;subst hu;obtain⟨_,rfl⟩:=rb;simp only[teq];exact⟨.int_str _ _ _ _,.int_str _ _ _ _,.int_str _ _ _ _⟩
   |lst us=>rw[TrAt]at hu;obtain⟨p,ys,rfl,q,_⟩:=hu;cases rb;obtain⟨_,_,pl,_⟩:=I.list q;simp only[teq];exact⟨.int_list _ _ pl.isList hA',.int_list _ _ pl.isList hA',.int_list _ _ pl.isList hA'⟩
   |tup us=>rw[TrAt]at hu;obtain⟨p,ys,rfl,q,_⟩:=hu;cases rb;obtain⟨_,_,pl,_⟩:=I.tuple q;simp only[teq];exact⟨.int_tuple _ _ pl hA',.int_tuple _ _ pl hA',.int_tuple _ _ pl hA'⟩
  |str c=>
   rw[TrAt]at ht;subst ht;obtain⟨_,rfl⟩:=ra;cases u with
   |non=>rw[TrAt]at hu;subst hu;cases rb;simp only[teq];exact⟨.str_none _ _,.str_none _ _,.str_none _ _⟩
   |bl b=>rw[TrAt]at hu;subst hu;cases rb;simp only[teq];exact⟨.str_bool _ _ _,.str_bool _ _ _,.str_bool _ _ _⟩
   |int b=>rw[TrAt]at hu;subst hu;obtain⟨_,rfl⟩:=rb;simp only[teq];exact⟨.str_int _ _ _ _,.str_int _ _ _ _,.str_int _ _ _ _⟩
   |str b=>rw[TrAt]at hu;subst hu;obtain⟨_,rfl⟩:=rb;rw[teq];exact⟨.str_str _ _ _ _,.str_str _ _ _ _,.str_str _ _ _ _⟩
   |lst us=>rw[TrAt]at hu;obtain⟨p,ys,rfl,q,_⟩:=hu;cases rb;obtain⟨_,_,pl,_⟩:=I.list q;simp only[teq];exact⟨.str_list _ _ pl.isList hA',.str_list _ _ pl.isList hA',.str_list _ _ pl.isList hA'⟩
   |tup us=>rw[TrAt]at hu;obtain⟨p,ys,rfl,q,_⟩:=hu;cases rb;obtain⟨_,_,pl,_⟩:=I.tuple q;simp only[teq];exact⟨.str_tuple _ _ pl hA',.str_tuple _ _ pl hA',.str_tuple _ _ pl hA'⟩
 |succ n ih=>
  intro t u v w a b A hd ht hu ra rb hA;have hA':A.units<cLine:=by omega
  have items:∀{ts us:List Tr} {xs ys:List V} {its its2:List Value},xq ts<=n->TrsAt X.K H ts xs->TrsAt X.K H us ys->Vals xs its->Vals ys its2 ->
    ∀j (h1:j<its.toArray.size) (h2:j<its2.toArray.size),EqAt A.in1 s its.toArray[j] its2.toArray[j] (eAt ts us j):=by
   intro ts us xs ys its its2 hdn h1 h2 r1 r2 j hj1 hj2;have l1:=h1.length;have l2:=h2.length;have m1:=r1.length;have m2:=r2.length;rw[List.size_toArray]at hj1 hj2;obtain⟨t,e⟩:∃t,ts[j]?=some t:=⟨_,List.getElem?_eq_getElem (by omega)⟩
   obtain⟨u,e'⟩:∃u,us[j]?=some u:=⟨_,List.getElem?_eq_getElem (by omega)⟩
   obtain⟨x,ex,hx⟩:=h1.get e;obtain⟨y,ey,hy⟩:=h2.get e';obtain⟨vx,fx,rx⟩:=r1.get ex;obtain⟨vy,fy,ry⟩:=r2.get ey;have g1:its.toArray[j]'(by simpa using hj1)=vx:=by
    have z:its[j]=vx:=Option.some.inj ((List.getElem?_eq_getElem hj1).symm.trans fx);simpa using z
   have g2:its2.toArray[j]'(by simpa using hj2)=vy:=by
    have z:its2[j]=vy:=Option.some.inj ((List.getElem?_eq_getElem hj2).symm.trans fy);simpa using z
   rw[g1,g2];have q:=(ih (A:=A.in1) (Nat.le_trans (Z4 (List.mem_of_getElem? e)) hdn) hx hy rx ry (by rw[units_in1];omega)).eq;unfold eAt;rw[e,e'];exact q
  by_cases hz:vG t<=n
  ·exact ih hz ht hu ra rb (by omega)
  cases t with
  |lst ts=>
   rw[TrAt]at ht;obtain⟨p,xs,rfl,q,h1⟩:=ht;cases ra
   obtain⟨its,r1,pl,_⟩:=I.list q;cases u with
   |non=>rw[TrAt]at hu;subst hu;cases rb;simp only[teq];exact⟨.list_none pl.isList hA',.list_none pl.isList hA',.list_none pl.isList hA'⟩
   |bl b=>rw[TrAt]at hu;subst hu;cases rb;simp only[teq];exact⟨.list_bool _ pl.isList hA',.list_bool _ pl.isList hA',.list_bool _ pl.isList hA'⟩
   |int b=>rw[TrAt]at hu;subst hu;obtain⟨_,rfl⟩:=rb;simp only[teq];exact⟨.list_int _ _ pl.isList hA',.list_int _ _ pl.isList hA',.list_int _ _ pl.isList hA'⟩
   |str b=>rw[TrAt]at hu;subst hu;obtain⟨_,rfl⟩:=rb;simp only[teq];exact⟨.list_str _ _ pl.isList hA',.list_str _ _ pl.isList hA',.list_str _ _ pl.isList hA'⟩
   |tup us=>rw[TrAt]at hu;obtain⟨p',ys,rfl,q',_⟩:=hu;cases rb;obtain⟨_,_,pl',_⟩:=I.tuple q';simp only[teq];exact⟨.list_tuple pl.isList pl' hA',.list_tuple pl.isList pl' hA',.list_tuple pl.isList pl' hA'⟩
   |lst us=>
    have hu0:=hu;rw[TrAt]at hu;obtain⟨p',ys,rfl,q',h2⟩:=hu;cases rb
    obtain⟨its2,r2,pl',_⟩:=I.list q';have l1:=h1.length;have l2:=h2.length;have m1:=r1.length;have m2:=r2.length;have hdn:xq ts<=n:=by rw[vG]at hd;omega
    have both:RcAt A s (.ref p) (.ref p') (tW ts us)/\RcNeAt A s (.ref p) (.ref p') (!tW ts us):=by
     by_cases hsz:ts.length=us.length
     ·have hs:its.toArray.size=its2.toArray.size:=by rw[List.size_toArray,List.size_toArray];omega
      have it:=items hdn h1 h2 r1 r2;have e1:(List.range its.toArray.size).all (eAt ts us)=tW ts us:=by
       rw[List.size_toArray,<-m1,<-l1];exact JQ hsz
      have a1:=RcAt.lists pl.isList pl'.isList hs hA' it;have a2:=RcNeAt.lists pl.isList pl'.isList hs hA' it;rw[e1]at a1 a2;exact⟨a1,a2⟩
     ·have hs:(its.toArray.size != its2.toArray.size)=true:=by
       rw[List.size_toArray,List.size_toArray,bne_iff_ne];omega
      rw[jm hsz];exact⟨.lists_lengths pl.isList pl'.isList hs hA',.lists_lengths pl.isList pl'.isList hs hA'⟩
    rw[teq];refine⟨both.1,both.2,?_⟩;by_cases hpp:p=p'
    ·subst hpp;have e:Tr.lst ts=Tr.lst us:=V2 I (n+1) hd (show TrAt X.K H (.lst ts) (.ref p) by rw[TrAt];exact⟨p,xs,rfl,q,h1⟩) hu0;cases e
     rw[j4];exact .same _
    ·exact .of_refs hpp both.1
  |tup ts=>
   rw[TrAt]at ht;obtain⟨p,xs,rfl,q,h1⟩:=ht;cases ra
   obtain⟨its,r1,pl,_⟩:=I.tuple q;cases u with
   |non=>rw[TrAt]at hu;subst hu;cases rb;simp only[teq];exact⟨.tuple_none pl hA',.tuple_none pl hA',.tuple_none pl hA'⟩
   |bl b=>rw[TrAt]at hu;subst hu;cases rb;simp only[teq];exact⟨.tuple_bool _ pl hA',.tuple_bool _ pl hA',.tuple_bool _ pl hA'⟩
   |int b=>rw[TrAt]at hu;subst hu;obtain⟨_,rfl⟩:=rb;simp only[teq];exact⟨.tuple_int _ _ pl hA',.tuple_int _ _ pl hA',.tuple_int _ _ pl hA'⟩
   |str b=>rw[TrAt]at hu;subst hu;obtain⟨_,rfl⟩:=rb;simp only[teq];exact⟨.tuple_str _ _ pl hA',.tuple_str _ _ pl hA',.tuple_str _ _ pl hA'⟩
   |lst us=>rw[TrAt]at hu;obtain⟨p',ys,rfl,q',_⟩:=hu;cases rb;obtain⟨_,_,pl',_⟩:=I.list q';simp only[teq];exact⟨.tuple_list pl pl'.isList hA',.tuple_list pl pl'.isList hA',.tuple_list pl pl'.isList hA'⟩
   |tup us=>
    have hu0:=hu;rw[TrAt]at hu;obtain⟨p',ys,rfl,q',h2⟩:=hu;cases rb
    obtain⟨its2,r2,pl',_⟩:=I.tuple q';have l1:=h1.length;have l2:=h2.length;have m1:=r1.length;have m2:=r2.length;have hdn:xq ts<=n:=by rw[vG]at hd;omega
    have e1:((List.range (min its.toArray.size its2.toArray.size)).all (eAt ts us) && its.toArray.size == its2.toArray.size)=tW ts us:=by
     rw[List.size_toArray,List.size_toArray,<-m1,<-l1,<-m2,<-l2];by_cases hsz:ts.length=us.length
     ·rw[<-hsz,Nat.min_self,beq_self_eq_true,Bool.and_true];exact JQ hsz
     ·rw[jm hsz,beq_eq_false_iff_ne.mpr hsz,Bool.and_false]
    have it:=items hdn h1 h2 r1 r2;have a1:=RcAt.tuples pl pl' hA' it;have a2:=RcNeAt.tuples pl pl' hA' it;rw[e1]at a1 a2;rw[teq];refine⟨a1,a2,?_⟩;by_cases hpp:p=p'
    ·subst hpp;have e:Tr.tup ts=Tr.tup us:=V2 I (n+1) hd (show TrAt X.K H (.tup ts) (.ref p) by rw[TrAt];exact⟨p,xs,rfl,q,h1⟩) hu0;cases e
     rw[j4];exact .same _
    ·exact .of_refs hpp a1
  |non=>exact absurd (Nat.zero_le _) hz
  |bl b=>exact absurd (Nat.zero_le _) hz
  |int b=>exact absurd (Nat.zero_le _) hz
  |str b=>exact absurd (Nat.zero_le _) hz
end
section
variable {X:Cx}
def zfU(K:W.Frag)(neg:Bool):R2:=λx y H Q=>Ex2 λt u=>TrAt K H t x/\TrAt K H u y/\vG t<=8/\Q (.bl (if neg then !teq t u else teq t u)) H
theorem zgF(hu:X.A.units+64<cLine):OpR X (compareOp .Eq) (zfU X.K false):=by
 intro pins s σ H x y v u Q I rx ry h;obtain⟨t,t',h1,h2,hd,q⟩:=h;exact (VL I 8 hd h1 h2 rx ry (by omega)).rc _ _ _ _ ⟨.bl _,H,I,rfl,q⟩
theorem zgy(hu:X.A.units+64<cLine):OpR X (compareOp .NotEq) (zfU X.K true):=by
 intro pins s σ H x y v u Q I rx ry h;obtain⟨t,t',h1,h2,hd,q⟩:=h;exact (VL I 8 hd h1 h2 rx ry (by omega)).ne _ _ _ _ ⟨.bl _,H,I,rfl,q⟩
open Classical in
def zfq(K:W.Frag)(neg:Bool):R2:=λx y H Q=>Ex4 λp xs ts u=>y=.ref p/\SqL K H p xs/\TrsAt K H ts xs/\TrAt K H u x/\xq ts<=8/\Q (.bl (if neg then !(ts.any λt=>teq t u) else ts.any λt=>teq t u)) H
open Classical in
theorem zan{pins:List (Addr×Obj)}{σ:St}{H:Hp}{s:Shared}(I:Inv X pins σ H s){u:Tr}:∀{ts:List Tr} {xs:List V} {its:List Value},xq ts<=8->TrsAt X.K H ts xs->Vals xs its ->
  its.any (λy=>decide (∃t x,RelV x y/\TrAt X.K H t x/\teq t u=true))=ts.any λt=>teq t u
 |[],xs,its,_,h,r=>by rw[TrsAt]at h;subst h;cases r;rfl
 |t::ts,xs,its,hd,h,r=>by
  rw[TrsAt]at h;obtain⟨y,ys,rfl,hy,h⟩:=h;cases r with
  |cons r1 r2=>
   rw[xq]at hd;rw[List.any_cons,List.any_cons,zan I (by omega) h r2];congr 1;rw[Bool.eq_iff_iff,decide_eq_true_iff];constructor
   ·rintro⟨t',x',r',h',e⟩;rw[r1.inj r']at hy;rw[V2 I 8 (by omega) hy h'];exact e
   ·intro e;exact⟨t,y,r1,hy,e⟩
open Classical in
theorem VJ{pins:List (Addr×Obj)}{σ:St}{H:Hp}{s:Shared}(I:Inv X pins σ H s)(hu:X.A.units+64<cLine){u:Tr}{x:V}{v:Value}(hx:TrAt X.K H u x)(rx:RelV x v){ts:List Tr}{xs:List V}{its:List Value}(hd:xq ts<=8)(h:TrsAt X.K H ts xs)(r:Vals xs its):
  ∀y,y∈its.toArray->SeqAt.EqAt X.A.in1 s y v (decide (∃t x,RelV x y/\TrAt X.K H t x/\teq t u=true)):=by
 intro y hy;have hy':y∈its:=by simpa using hy
 obtain⟨j,hj,e⟩:=List.getElem_of_mem hy';have l1:=h.length;have m1:=r.length;obtain⟨t,et⟩:∃t,ts[j]?=some t:=⟨_,List.getElem?_eq_getElem (by omega)⟩
 obtain⟨z,ez,hz⟩:=h.get et;obtain⟨w,ew,rw'⟩:=r.get ez;have e':y=w:=by
  rw[List.getElem?_eq_getElem hj]at ew;exact e.symm.trans (Option.some.inj ew)
 subst e';have hd':vG t<=8:=Nat.le_trans (Z4 (List.mem_of_getElem? et)) hd;have q:=(VL I 8 (A:=X.A.in1) hd' hz hx rw' rx (by rw[units_in1];omega)).eq;have e2:decide (∃t x,RelV x y/\TrAt X.K H t x/\teq t u=true)=teq t u:=by
  rw[Bool.eq_iff_iff,decide_eq_true_iff];constructor
  ·rintro⟨t',x',r',h',e3⟩;rw[rw'.inj r']at hz;rw[V2 I 8 hd' hz h'];exact e3
  ·intro e3;exact⟨t,z,rw',hz,e3⟩
 rw[e2];exact q
open Classical in
theorem zgz(hu:X.A.units+64<cLine):OpR X (compareOp .In) (zfq X.K false):=by
 intro pins s σ H x y v u Q I rx ry h;obtain⟨p,xs,ts,t,rfl,hq,hts,ht,hd,q⟩:=h;cases ry
 obtain⟨its,r,pl,hz⟩:=I.list hq;refine SeqAt.in_listAt _ pl.isList (VJ I hu ht rx hd hts r) ⟨.bl _,H,I,rfl,?_⟩;simp only[List.any_toArray];rw[zan I hd hts r];exact q
open Classical in
theorem zc0(hu:X.A.units+64<cLine):OpR X (compareOp .NotIn) (zfq X.K true):=by
 intro pins s σ H x y v u Q I rx ry h;obtain⟨p,xs,ts,t,rfl,hq,hts,ht,hd,q⟩:=h;cases ry
 obtain⟨its,r,pl,hz⟩:=I.list hq;refine SeqAt.notIn_listAt _ pl.isList (VJ I hu ht rx hd hts r) ⟨.bl _,H,I,rfl,?_⟩;simp only[List.any_toArray];rw[zan I hd hts r];exact q
end
end L2
namespace L2
open PySem PySem.Spec PyProof.Rows
theorem zaq{K:W.Frag}(h1:W.kitMeta U=true)(h2:(fastBuiltinMro T).map (·.contains (Value.type U))=some b)(hb:T=U->b=true):W.kitOne K (.type T) (.type U)=some b:=by
 unfold W.kitOne;by_cases e:T=U
 ·subst e;rw[if_pos (by simp),hb rfl]
 ·rw[if_neg (by simpa using e)];show (if W.kitMeta U=true then W.subIn K (.type T) (.type U) else none)=some b;rw[if_pos h1];exact h2
section
variable {K:W.Frag}
end
section
variable {X:Cx}
def zhS(K:W.Frag):List V->Hp->VK->Prop:=λxs H Q=>Ex4 λx T t b=>xs=[x,.ty T]/\Wa K H x t/\W.kitOne K t (.type T)=some b/\Q (.bl b) H
theorem zdX:wF X (.builtin "isinstance") (zhS X.K):=by
 intro pins s σ H xs us Q I r h;obtain⟨x,T,t,b,rfl,ty,e,q⟩:=h;obtain⟨u,v,rfl,rx,rt⟩:=vals2 r;cases rt
 exact zdf I rx ty e λtk=>⟨.bl b,H,I.tok tk,rfl,q⟩
def zhM(i j:Int):Prop:=0<j/\j<2^200
theorem Ye:OpR X (binaryOp .FloorDiv) (rI zhM λi j=>.int (i / j)):=opI λi j _ _ _ _ _ hc q=>by
 have h1:=hc.1;have h2:=hc.2;refine floordiv_int (by omega) (by rw[Int.fdiv_eq_ediv_of_nonneg i (by omega)];exact q) (.inl (PyProof.noPylong_of_log2 ?_));have h3:j.natAbs<2^200:=by omega
 have h4:=(Nat.log2_lt (by omega)).mpr h3;omega
theorem Vl{bs:List Bool}(r:Vals (bs.map V.bl) its):TruthOf P w A (λi v=>its.toArray[i]?=some v) (λi=>bs.getD i false):=by
 intro i v s Q E hP hQ;have hl:=r.length;rw[List.length_map]at hl;have e:its[i]?=some v:=by simpa using hP
 have hi:=(List.getElem?_eq_some_iff.mp e).1;have e2:(bs.map V.bl)[i]?=some (.bl (bs[i]'(by omega))):=by rw[List.getElem?_map,List.getElem?_eq_getElem (by omega)];rfl
 obtain⟨u,e3,r3⟩:=r.get e2;rw[e]at e3;cases e3
 cases r3;have e4:bs.getD i false=bs[i]:=by rw[List.getD_eq_getElem?_getD,List.getElem?_eq_getElem (by omega)];rfl
 exact wpAny_truthy_bool (e4▸hQ)
theorem zbc:∀bs:List Bool,(List.range bs.length).all (λi=>bs.getD i false)=bs.all id
 |[]=>rfl
 |b::bs=>by
  rw[List.length_cons,List.range_succ_eq_map,List.all_cons,List.all_map,List.all_cons,<-zbc bs];rfl
theorem zaw:∀bs:List Bool,(List.range bs.length).any (λi=>bs.getD i false)=bs.any id
 |[]=>rfl
 |b::bs=>by
  rw[List.length_cons,List.range_succ_eq_map,List.any_cons,List.any_map,List.any_cons,<-zaw bs];rfl
def zhl(K:W.Frag):List V->Hp->VK->Prop:=λxs H Q=>Ex2 λ(a:Addr) (bs:List Bool)=>xs=[.ref a]/\SqL K H a (bs.map V.bl)/\Q (.bl (bs.all id)) H
def zhI(K:W.Frag):List V->Hp->VK->Prop:=λxs H Q=>Ex2 λ(a:Addr) (bs:List Bool)=>xs=[.ref a]/\SqL K H a (bs.map V.bl)/\Q (.bl (bs.any id)) H
theorem zeQ(hc:X.calm=true):wF X (.builtin "all") (zhl X.K):=by
 intro pins s σ H xs us Q I r h;obtain⟨a,bs,rfl,hq,q⟩:=h;obtain⟨u,rfl,rx⟩:=vals1 r;cases rx
 obtain⟨its,rv,pl,hz⟩:=I.list hq;have hl:=rv.length;rw[List.length_map]at hl;obtain⟨o,n,eo,_⟩:=id pl;have hne:=Nat.ne_of_lt (Heap.lt_size eo);refine call_all_walk (wpAny_pyIter_list pl.isList ?_);refine⟨_,_,_,_,_,_,_,rfl,Walks.list (show X.A.in1.handled=none from I.ok.hd hc) s.heap.objs.size a hne its.toArray,⟨⟨_,Heap.get?_push_size _ rfl,rfl,rfl⟩,pl.isList.at λo e=>Heap.get?_push_of_some _ e⟩,Vl rv,λh' tk hk=>?_⟩;have I1:Inv X pins σ H { s with heap:=h',toks:=tk }:=I.kept λb o e=>hk b o (by have:=Heap.lt_size e;simp;exact Nat.ne_of_lt this) (Heap.get?_push_of_some _ e);refine⟨.bl _,H,I1,rfl,?_⟩;rw[List.size_toArray,<-hl,zbc];exact q
theorem zeb(hc:X.calm=true):wF X (.builtin "any") (zhI X.K):=by
 intro pins s σ H xs us Q I r h;obtain⟨a,bs,rfl,hq,q⟩:=h;obtain⟨u,rfl,rx⟩:=vals1 r;cases rx
 obtain⟨its,rv,pl,hz⟩:=I.list hq;have hl:=rv.length;rw[List.length_map]at hl;obtain⟨o,n,eo,_⟩:=id pl;have hne:=Nat.ne_of_lt (Heap.lt_size eo);refine call_any_walk (wpAny_pyIter_list pl.isList ?_);refine⟨_,_,_,_,_,_,_,rfl,Walks.list (show X.A.in1.handled=none from I.ok.hd hc) s.heap.objs.size a hne its.toArray,⟨⟨_,Heap.get?_push_size _ rfl,rfl,rfl⟩,pl.isList.at λo e=>Heap.get?_push_of_some _ e⟩,Vl rv,λh' tk hk=>?_⟩;have I1:Inv X pins σ H { s with heap:=h',toks:=tk }:=I.kept λb o e=>hk b o (by have:=Heap.lt_size e;simp;exact Nat.ne_of_lt this) (Heap.get?_push_of_some _ e);refine⟨.bl _,H,I1,rfl,?_⟩;rw[List.size_toArray,<-hl,zaw];exact q
def zgr(K:W.Frag)(te:TE):TE:=fun σ H Q=>te σ H λx H1=>Ex2 λa xs=>x=.ref a/\SqL K H1 a xs/\∀p,H1 p=none->Q (.ref p) (upd H1 p (.lst xs.reverse))
theorem Vt(he:PE X e te):PE X (.Subscript e (.Slice none none (some (.UnaryOp .USub (.Constant (.int 1) j p1) p2)) p3) pos) (zgr X.K te):=by
 intro pins s σ H Q I h;refine Subscript_ (thn (he pins s σ H _ I h) λv s1 ⟨x,H1,I1,r1,q1⟩=>?_);obtain⟨a,xs,rfl,hx,q⟩:=q1;cases r1
 refine wpAny_Slice ?_;refine wpAny_pure (wpAny_pure ?_);refine thn (zcR JR (zy) pins s1 σ H1 (λv H2=>v=.int (-1)/\H2=H1) I1 ⟨1,rfl,rfl,rfl⟩) λu s2 ⟨y,H2,I2,r2,e1,e2⟩=>?_;subst e1 e2;obtain⟨t,rfl⟩:=r2;obtain⟨its,r,ht,hz⟩:=I2.list hx;have I3:Inv X pins σ H2 { s2 with heap:=s2.heap.push { cls:=.type "slice",data:=.fields #[.none,.none,.int (-1) t] } }:=I2.kept λb ob q=>Heap.get?_push_of_some _ q;obtain⟨its',r',ht',hz'⟩:=I3.list hx;have hlen':=r'.length;refine tail_any ht'.isList.typeIs slot_list_getitem.lookup ?_ (by with_unfolding_all rfl);refine wpAny_getItem_list_slice ht'.isList (Heap.IsSliceOf.new ..) .none .none (.int (-1) t) (by simp) ?_ (by rw[List.size_toArray]<;>omega);rw[W.krv_pick];refine⟨.ref _,_,I3.laid (λb ob q=>Heap.get?_push_of_some _ q) (Nat.le_refl _) ?_,rfl,q _ (I3.hok.fresh (Nat.le_refl _))⟩;exact⟨by rw[List.length_reverse];exact hz,_,0,r'.reverse,Heap.get?_push_size _ rfl⟩
theorem zfa:typeLookup (.type "list_reverseiterator") "__len__"= pure none:=by rw[typeLookup_type,builtinLookup_eq_fast];kernel_rfl
theorem zfM:typeLookup (.type "list_reverseiterator") "__length_hint__"= pure (some (.builtin "list_reverseiterator.__length_hint__")):=by kernel_rfl
section
variable {prog:Program} {w:World} {A:Around} {E:Value->Shared->Prop} {s:Shared}
theorem zbF(hh:A.handled=none)(hit:s.heap.IsRevIter I l ((items.size:Int)-1))(hL:s.heap.IsList l items)(S:Addr)(res:Value)(c₀:Nat)(hS:s.heap.get? S=some { cls:=.type "list",data:=.seq #[] c₀ })(hSl:S≠l)(hR:∀s' acc' c',Moved [S,I] (λa b=>b=a) s s'->s'.heap.get? S=some { cls:=.type "list",dict:=none,data:=.seq acc' c',slots:=#[] } ->
   ItemsOf (λi v=>items[items.size-1-i]?=some v) acc' items.size->R (.ok (.ret res)) s')(hn:items.size<=sizeLine):
  wpAny (model prog w) A.in1 (Builtin.List.listExtendWith (.ref S) (.ref I) res)
   (λfin s'=>match fin with | .done f=>R (.ok f) s' | .again c'=>c'.quiet=true/\codeAny (model prog w) A c' R s') (λe s'=>R (.error e) s') s:=by
 obtain⟨oi,hoi,hci,hdi⟩:=id hit;obtain⟨ol,hol,hcl,nl,hdl⟩:=id hL;have hSI:S≠I:=by
  rintro rfl;rw[hS]at hoi;cases hoi;exact absurd (show Value.type "list"= Value.type "list_reverseiterator" from hci) (by decide)
 have hne:l≠I:=by
  rintro rfl;rw[hol]at hoi;cases hoi;rw[hcl]at hci;exact absurd hci (by decide)
 have hSf:S∉[I,l]:=λhm=>by
  rcases List.mem_cons.mp hm with e | hm
  ·exact hSI e
  ·exact hSl (List.mem_singleton.mp hm)
 refine wpAny_bind (wpAny_typeOf hit.typeIs ?_);have h1:Builtin.List.listSameRef (.ref S) (.ref I)=false:=by simp[Builtin.List.listSameRef,hSI]
 have h2:(Value.type "list_reverseiterator"== Value.type "list")=false:=by decide
 have h3:(Value.type "list_reverseiterator"== Value.type "tuple")=false:=by decide
 simp only[h1,h2,h3,Bool.or_false,Bool.false_eq_true,if_false];refine wpAny_bind (wpAny_pyIter_revIter hit ?_);refine wpAny_bind (wpAny_holding ?_);refine wpAny_bind (wpAny_specialOf hit.typeIs zfa ?_);refine wpAny_bind (wpAny_specialOf hit.typeIs zfM ?_);generalize hid:("list_reverseiterator.__length_hint__" )=id0
 wp_delta
 subst hid;refine wpAny_bind (wpAny_isInstance (b:=true) hit.typeIs (by kernel_rfl) ?_);refine wpAny_pure ?_;have W:=Walks.listRev (prog:=prog) (w:=w) (A:=A.in1) hh I l hne items;refine wpAny_pure ⟨plainId_quiet F.plain_extend_loop _,codeAny_extend_loopS W.toS hn _ hSf _ items.size 0 _ _ _ rfl (Nat.zero_le _) ⟨Nat.zero_le _,by simpa using hit,hL⟩ hS (ItemsOf.nil _) λs' acc' c' hm hS' hacc=>?_⟩;exact hR s' acc' c' hm hS' hacc
theorem zek(hh:A.handled=none)(hit:s.heap.IsRevIter I l ((items.size:Int)-1))(hL:s.heap.IsList l items)(S:Addr)(hS:s.heap.get? S=some { cls:=.type "list",data:=.seq #[] })(hSl:S≠l)(hSI:S≠I)(hR:∀s' acc' c',s'.gens=s.gens->s'.os=s.os->(∀b o,b≠S->b≠I->s.heap.get? b=some o->s'.heap.get? b=some o)->s'.heap.get? S=some { cls:=.type "list",dict:=none,data:=.seq acc' c',slots:=#[] } ->
   ItemsOf (λi v=>items[items.size-1-i]?=some v) acc' items.size->R (.ok (.ret .none)) s')(hn:items.size<=sizeLine):
  wpAny (model prog w) A.in1 (Builtin.«list.__init__» ⟨[.ref S,.ref I],[]⟩)
   (λfin s'=>match fin with | .done f=>R (.ok f) s' | .again c'=>c'.quiet=true/\codeAny (model prog w) A c' R s') (λe s'=>R (.error e) s') s:=by
 refine wpAny_bind ?_;refine wpAny_bind (wpAny_seqItems hS rfl (wpAny_pure ?_));refine wpAny_bind (wpAny_updateSeq hS rfl ?_);have hS₂:=Heap.get?_update_self (Obj.mapSeq (λ_=>(#[]))) hS rfl;have oth:∀b o,b≠S->s.heap.get? b=some o->(s.heap.update S (Obj.mapSeq (λ_=>(#[])))).get? b=some o :=
  λb o hb e=>(Heap.get?_update_other _ _ (Ne.symm hb)).trans e
 refine wpAny_bind (wpAny_letGo ?_);refine zbF (hn:=hn) hh (hit.at λo e=>oth I o (Ne.symm hSI) e) (hL.at λo e=>oth l o (Ne.symm hSl) e) S .none _ hS₂ hSl λs' acc' c' hm hS' hacc=>?_;refine hR s' acc' c' hm.gens hm.os (λb o hb hi e=>hm.heap b o (λz=>?_) (oth b o hb e)) hS' hacc;rcases List.mem_cons.mp z with e' | z
 ·exact hb e'
 ·exact hi (List.mem_singleton.mp z)
theorem Wi(hh:A.handled=none)(hit:s.heap.IsRevIter I l ((items.size:Int)-1))(hL:s.heap.IsList l items)(hQ:∀s' acc' c',s'.gens=s.gens->s'.os=s.os->(∀b o,b≠I->s.heap.get? b=some o->s'.heap.get? b=some o) ->
   s'.heap.get? s.heap.objs.size=some { cls:=.type "list",dict:=none,data:=.seq acc' c',slots:=#[] }->ItemsOf (λi v=>items[items.size-1-i]?=some v) acc' items.size->Q (.ref s.heap.objs.size) s')(hn:items.size<=sizeLine):
  wpAny (model prog w) A (call (.type "list") [.ref I]) Q E s:=by
 refine callType_codes (Q₁:=λobj s₁=>obj=.ref s.heap.objs.size/\s₁={ s with heap:=s.heap.push { cls:=.type "list",data:=.seq #[] } }) F.called_list (F.typeCall_list_1 _) F.entry_list_init
  (code_list_new _ ⟨rfl,rfl⟩) λobj s₁ h₁=>?_
 obtain⟨rfl,rfl⟩:=h₁;have hS:(s.heap.push { cls:=.type "list",data:=.seq #[] }).get? s.heap.objs.size=some { cls:=.type "list",data:=.seq #[] }:=Heap.get?_push_size _ rfl;obtain⟨oi,hoi,_⟩:=id hit;obtain⟨ol,hol,_⟩:=id hL;refine⟨⟨_,hS,rfl⟩,F.args_list_init_2 _ _,zek (A:=A.in1) (hn:=hn) hh (hit.at λo e=>Heap.get?_push_of_some _ e) (hL.at λo e=>Heap.get?_push_of_some _ e) _ hS (Nat.ne_of_gt (Heap.lt_size hol)) (Nat.ne_of_gt (Heap.lt_size hoi)) λs' acc' c' hg ho hk hS' hacc=>?_⟩;exact⟨rfl,hQ s' acc' c' hg ho (λb o hI e=>hk b o (Nat.ne_of_lt (Heap.lt_size e)) hI (Heap.get?_push_of_some _ e)) hS' hacc⟩
end
theorem zdr{items acc:Array Value}(h:ItemsOf (λi v=>items[items.size-1-i]?=some v) acc items.size):acc=items.toList.reverse.toArray:=by
 apply Array.ext_getElem?;intro i;by_cases hi:i<items.size
 ·have e:acc[i]?=some (acc[i]'(by rw[h.1];exact hi)):=Array.getElem?_eq_getElem _;have q:=h.2 i _ e;rw[e,<-q];simp[List.getElem?_reverse,hi]
 ·rw[Array.getElem?_eq_none (by rw[h.1];omega),Array.getElem?_eq_none (by simp;omega)]
def zd8(K:W.Frag)(te:TE):TE:=fun σ H Q=>te σ H λx H1=>Ex2 λl ys=>x=.ref l/\SqL K H1 l ys/\∀q,H1 q=none->Q (.ref q) (upd H1 q (.lst ys.reverse))
theorem zbU{p1 p2 pos1 pos2:Pos}(hc:X.calm=true)(hg1:Gl X "list")(hm1:X.mg "list"= none)(hg2:Gl X "reversed")(hm2:X.mg "reversed"= none)(he:PE X e te)(hs:starEach [e] X.env=[(false,eval e X.env)]:=by rfl)(hs2:starEach [.Call (.Name "reversed" p2) [e] [] pos2] X.env=[(false,eval (.Call (.Name "reversed" p2) [e] [] pos2) X.env)]:=by rfl):
  PE X (.Call (.Name "list" p1) [.Call (.Name "reversed" p2) [e] [] pos2] [] pos1) (zd8 X.K te):=by
 intro pins s σ H Q I h;refine wpAny_Call_Name_kw (jD I hg1 hm1 boot_list ?_);refine PyProof.Rows.callWith_type1 ?_ hs2 rfl;refine Calls.spliced_cons ?_;refine wpAny_Call_Name_kw (jD I hg2 hm2 boot_reversed ?_);refine PyProof.Rows.callWith_type1 ?_ hs rfl;rw[hs];refine Calls.spliced_cons (thn (he pins s σ H _ I h) λv s1 ⟨x,H1,I1,r1,q1⟩=>Calls.spliced_nil ?_);obtain⟨l,ys,rfl,hq,q⟩:=q1;cases r1
 obtain⟨its,rv,pl,hz⟩:=I1.list hq;have hl:=rv.length;refine call_reversed_list pl.isList (Calls.spliced_nil ?_);have hsz:its.toArray.size=ys.length:=by rw[List.size_toArray,hl]
 refine Wi (I1.ok.hd hc) ⟨_,Heap.get?_push_size _ rfl,rfl,rfl⟩ (pl.isList.at λo e=>Heap.get?_push_of_some _ e) (λs' acc c hgn ho hk hS hacc=>?_) (by rw[List.size_toArray,<-hl];exact hz);have e1:(s1.heap.push (revObj l (its.toArray.size-1))).objs.size=s1.heap.objs.size+1:=Heap.size_push _ _;rw[show ({ s1 with heap:=s1.heap.push (revObj l ((its.toArray.size:Int)-1)) }:Shared).heap.objs.size=s1.heap.objs.size+1 from e1]at hS ⊢;have kept:∀b o,s1.heap.get? b=some o->s'.heap.get? b=some o:=λb o e=>hk b o (Nat.ne_of_lt (Heap.lt_size e)) (Heap.get?_push_of_some _ e);have hokL:=I1.laid (o:=.lst ys.reverse) (t':=s'.toks) kept (Nat.le_succ _) ⟨by rw[List.length_reverse];exact hz,its.reverse,c,rv.reverse,by rw[hS,zdr hacc]⟩;have I2:Inv X pins σ (upd H1 (s1.heap.objs.size+1) (.lst ys.reverse)) s':=by
  refine I1.call' (ch:=[]) (by rw[ho]) ?_ hokL.hok (by rw[hgn];exact I1.bare) λb z=>absurd z (by simp);exact Un.laid kept (Nat.le_succ _) (I1.hok.fresh (Nat.le_succ _))
 exact⟨.ref _,_,I2,rfl,q _ (I1.hok.fresh (Nat.le_succ _))⟩
end
section
variable {X:Cx} (K:W.Frag)
theorem Z5(e:X.K=K:=by rfl):wF X (.builtin "isinstance") (zhS K):=by subst e;exact zdX
theorem xZ(e:X.K=K:=by rfl):wF X (.builtin "len") (λxs H Q=>∃p ys,xs=[.ref p]/\(SqL K H p ys\/SqT K H p ys)/\Q (.int ys.length) H):=by subst e;exact Jw
theorem yo(e:X.K=K:=by rfl):IxR X (zgx K):=by subst e;exact zgd
theorem vB(e:X.K=K:=by rfl):IxR X (zhK K):=by subst e;exact zgL
theorem jP(e:X.K=K:=by rfl):SlR X (zfu K):=by subst e;exact zfJ
theorem k_all(hc:X.calm=true)(e:X.K=K:=by rfl):wF X (.builtin "all") (zhl K):=by subst e;exact zeQ hc
theorem zfk(hc:X.calm=true)(e:X.K=K:=by rfl):wF X (.builtin "any") (zhI K):=by subst e;exact zeb hc
theorem j0(e:X.K=K:=by rfl):wF X (.type "list") (λxs H Q=>∃p ys,xs=[.ref p]/\(SqL K H p ys\/SqT K H p ys)/\∀l,H l=none->Q (.ref l) (upd H l (.lst ys))):=by subst e;exact zab
theorem zcP(hu:X.A.units+64<cLine)(e:X.K=K:=by rfl):OpR X (compareOp .Eq) (zfU K false):=by subst e;exact zgF hu
theorem Y7(hu:X.A.units+64<cLine)(e:X.K=K:=by rfl):OpR X (compareOp .NotEq) (zfU K true):=by subst e;exact zgy hu
theorem ze7(hu:X.A.units+64<cLine)(e:X.K=K:=by rfl):OpR X (compareOp .In) (zfq K false):=by subst e;exact zgz hu
theorem zaS(hu:X.A.units+64<cLine)(e:X.K=K:=by rfl):OpR X (compareOp .NotIn) (zfq K true):=by subst e;exact zc0 hu
theorem ql(hl:PE X l tl)(e:X.K=K:=by rfl):PI X tg l (zgl K tl):=by subst e;exact zfR hl
end
structure Df (K:W.Frag) (mg:Str->Option Value) (x:Str) (st:Stmt) (ps:List Str) (f:Addr) (fd:FuncData):Prop where
 fn:Fun K x x st f fd
 b:Binds K fd ps []
 g:mg x=some (.ref f)
theorem zK{st:Stmt}{p pos:Pos}(D:Df X.K X.mg x st ps f fd)(G:FnOk X.prog X.w X.K X.mg X.base CX0 k f fd ps sp)(hr:Room k X.A)(ha:PA X (e::es) t)(hg:Gl X x:=by rfl)(hdb:(x == ("__debug__" : Str))=false:=by decide)(he:starEach (e::es) X.env=(false,eval e X.env)::starEach es X.env:=by rfl)(hpl:(backTo pos (starEach es X.env)).any (·.1)=false:=by rfl):PE X (.Call (.Name x p) (e::es) [] pos) (zd2 sp [] E0 t):=
 zfZ G hr hg D.g D.fn.kp D.b .nil Vj ha hdb he hpl
theorem zhr{K:W.Frag}{st:Stmt}{kV doc pm cdv ct:Value}(X:K.In h)(G:h.Ns mainGlobals mg)(a:W.nsIn K mainGlobals x=some (some (.ref f)))(l:K.lookup f=some ⟨oc,od,.func (W.fnOf x x (tZ st) (zq st) (zu st) .none kV doc pm an cdv ct),osl⟩)(c:W.codeIn K cdv x=true)(k:W.keepIn K (.ref f)=true)(hb:∀kV doc pm an cdv ct us,us.length=ps.length->bindArgs (W.fnOf x x (tZ st) (zq st) (zu st) .none kV doc pm an cdv ct) ⟨us,[]⟩=pure (ps.zip us)):
  Df K mg x st ps f (W.fnOf x x (tZ st) (zq st) (zu st) .none kV doc pm an cdv ct):=
 ⟨zau l c k,(zau l c k).binds hb,W.mg_of X G a⟩
structure Blt (mg:Str->Option Value):Prop where
 n_isinstance:mg "isinstance"= none
 n_int:mg "int"= none
 n_bool:mg "bool"= none
 n_list:mg "list"= none
 n_tuple:mg "tuple"= none
 n_reversed:mg "reversed"= none
 n_len:mg "len"= none
 n_max:mg "max"= none
 n_min:mg "min"= none
 n_range:mg "range"= none
 n_all:mg "all"= none
 n_any:mg "any"= none
 n_sorted:mg "sorted"= none
 n_enumerate:mg "enumerate"= none
 n_repr:mg "repr"= none
theorem YH(hr:Room k A):A.units+64<cLine:=hr.units
def aw(fp:List Addr)(H:Hp):Hp:=λb=>if b∈fp then none else H b
theorem qZ(h:b∈fp):aw fp H b=none:=by unfold aw;rw[if_pos h]
theorem zT(h:b∉fp):aw fp H b=H b:=by unfold aw;rw[if_neg h]
theorem zL(fp:List Addr)(H:Hp):Same (aw fp H) H:=λb o e=>by
 by_cases h:b∈fp
 ·rw[qZ h]at e;cases e
 ·rw[zT h]at e;exact e
theorem Same.aw(h:Same H H')(fp:List Addr):Same (aw fp H) (aw fp H'):=λb o e=>by
 by_cases hb:b∈fp
 ·rw[qZ hb]at e;cases e
 ·rw[zT hb]at e ⊢;exact h b o e
theorem zm(h:H p=none):Same H (upd H p o):=λb u e=>by rw[zr (zx e h)];exact e
open PySem PyProof.Rows
def unD:List (PyData×PyData)->List (Int×Int)
 | (.int k,.int v)::r=>(k,v)::unD r
 |_=>[]
def dD(ps:List (Int×Int)):List (PyData×PyData):=ps.map λp=>(.int p.1,.int p.2)
def dV(ps:List (Int×Int)):List (Key×V):=ps.map λp=>(.inl p.1,.int p.2)
theorem ze1:∀{ps qs:List (Int×Int)},dV ps=dV qs->ps=qs
 |[],[],_=>rfl
 |[],_::_,h=>by cases h
 |_::_,[],h=>by cases h
 | (k,v)::r,(k',v')::r',h=>by
  have h':((Sum.inl k:Key),V.int v)::dV r=(Sum.inl k',V.int v')::dV r':=h;injection h' with h1 h2
  injection h1 with h3 h4
  injection h3 with h3
  injection h4 with h4
  rw[h3,h4,ze1 h2]
mutual
def ThAt(H:Hp):PyData->V->Prop
 |.none,v=>v=.non
 |.bool b,v=>v=.bl b
 |.int i,v=>v=.int i
 |.str x,v=>v=.str x
 |.list xs,v=>∃a ys,v=.ref a/\H a=some (.lst ys)/\ThsAt H xs ys
 |.tuple xs,v=>∃a ys,v=.ref a/\H a=some (.tup ys)/\ThsAt H xs ys
 |.dict kvs,v=>kvs=dD (unD kvs)/\∃a,v=.ref a/\H a=some (.dK (dV (unD kvs)))
def ThsAt(H:Hp):List PyData->List V->Prop
 |[],ys=>ys=[]
 |d::ds,ys=>∃y zs,ys=y::zs/\ThAt H d y/\ThsAt H ds zs
end
mutual
theorem ThAt.same{H H':Hp}(m:Same H H'):∀{d:PyData} {v:V},ThAt H d v->ThAt H' d v
 |.none,v,h=>by rw[ThAt]at h ⊢;exact h
 |.bool b,v,h=>by rw[ThAt]at h ⊢;exact h
 |.int i,v,h=>by rw[ThAt]at h ⊢;exact h
 |.str x,v,h=>by rw[ThAt]at h ⊢;exact h
 |.list xs,v,h=>by
  rw[ThAt]at h ⊢;obtain⟨a,ys,h1,h2,h3⟩:=h;exact⟨a,ys,h1,m _ _ h2,ThsAt.same m h3⟩
 |.tuple xs,v,h=>by
  rw[ThAt]at h ⊢;obtain⟨a,ys,h1,h2,h3⟩:=h;exact⟨a,ys,h1,m _ _ h2,ThsAt.same m h3⟩
 |.dict kvs,v,h=>by
  rw[ThAt]at h ⊢;obtain⟨h0,a,h1,h2⟩:=h;exact⟨h0,a,h1,m _ _ h2⟩
theorem ThsAt.same{H H':Hp}(m:Same H H'):∀{ds:List PyData} {ys:List V},ThsAt H ds ys->ThsAt H' ds ys
 |[],ys,h=>by rw[ThsAt]at h ⊢;exact h
 |d::ds,ys,h=>by
  rw[ThsAt]at h ⊢;obtain⟨y,zs,h1,h2,h3⟩:=h;exact⟨y,zs,h1,ThAt.same m h2,ThsAt.same m h3⟩
end
theorem ThsAt.len{H:Hp}:∀{ds:List PyData} {ys:List V},ThsAt H ds ys->ys.length=ds.length
 |[],ys,h=>by rw[ThsAt]at h;rw[h];rfl
 |d::ds,ys,h=>by
  rw[ThsAt]at h;obtain⟨y,zs,h1,h2,h3⟩:=h;rw[h1,List.length_cons,List.length_cons,ThsAt.len h3]
theorem ThsAt.get{H:Hp}:∀{ds:List PyData} {ys:List V} {k:Nat} {v:V},ThsAt H ds ys->ys[k]?=some v->∃d,ds[k]?=some d/\ThAt H d v
 |[],ys,k,v,h,e=>by rw[ThsAt]at h;rw[h]at e;simp at e
 |d::ds,ys,k,v,h,e=>by
  rw[ThsAt]at h;obtain⟨y,zs,h1,h2,h3⟩:=h;rw[h1]at e;cases k with
  |zero=>
   have e':y=v:=by simpa using e
   exact⟨d,rfl,by rw[<-e'];exact h2⟩
  |succ k=>exact ThsAt.get (k:=k) h3 (by simpa using e)
def tyT:PyData->String
 |.none=>"NoneType" | .bool _=>"bool" | .int _=>"int" | .str _=>"str" | .list _=>"list" | .tuple _=>"tuple" | .dict _=>"dict"
theorem ThAt.ty{K:W.Frag}(h:ThAt H d v):Wa K H v (.type (tyT d)):=by
 cases d with
 |none=>rw[ThAt]at h;rw[h];exact .non
 |bool b=>rw[ThAt]at h;rw[h];exact .bl b
 |int i=>rw[ThAt]at h;rw[h];exact .int i
 |str x=>rw[ThAt]at h;rw[h];exact .str x
 |list xs=>rw[ThAt]at h;obtain⟨a,ys,rfl,h2,_⟩:=h;exact .lst h2
 |tuple xs=>rw[ThAt]at h;obtain⟨a,ys,rfl,h2,_⟩:=h;exact .tup h2
 |dict kvs=>rw[ThAt]at h;obtain⟨_,a,rfl,h2⟩:=h;exact .dK h2
def isS(T t:String):Bool:=t == T || (t =="bool" && T =="int")
def isT(T:String)(d:PyData):Bool:=isS T (tyT d)
section
variable {K:W.Frag}
theorem Jz(hT:T ="int"\/T ="bool"\/T ="list"\/T ="tuple"\/T ="str")(ht:t ="NoneType"\/t ="bool"\/t ="int"\/t ="str"\/t ="list"\/t ="tuple"\/t ="dict"):W.kitOne K (.type t) (.type T)=some (isS T t):=by
 rcases hT with rfl | rfl | rfl | rfl | rfl<;>rcases ht with rfl | rfl | rfl | rfl | rfl | rfl | rfl <;>
  first
  |exact zaq (by decide +kernel) (by decide +kernel) (λ_=>rfl)
  |exact zaq (by decide +kernel) (by decide +kernel) (λe=>absurd e (by decide))
theorem VM(d:PyData):tyT d ="NoneType"\/tyT d ="bool"\/tyT d ="int"\/tyT d ="str"\/tyT d ="list"\/tyT d ="tuple"\/tyT d ="dict":=by
 cases d<;>simp[tyT]
theorem zcl(d:PyData):W.kitOne K (.type (tyT d)) (.type "int")=some (isT "int" d):=Jz (by simp) (VM d)
theorem zba(d:PyData):W.kitOne K (.type (tyT d)) (.type "bool")=some (isT "bool" d):=Jz (by simp) (VM d)
theorem Ud(d:PyData):W.kitOne K (.type (tyT d)) (.type "list")=some (isT "list" d):=Jz (by simp) (VM d)
theorem kit_tuple(d:PyData):W.kitOne K (.type (tyT d)) (.type "tuple")=some (isT "tuple" d):=Jz (by simp) (VM d)
end
end L2
namespace L2
open PySem PyProof.Rows
section
variable {P:Program} {w:World} {H:Hp} {h:Heap}
end
end L2
namespace HT
open PySem PyProof.Rows
section
open PySem.SeqAt
open PySem.AutoSeq1 (wpAny_loadPart')
open PySem.MeetsSeq PySem.MeetsSeq2 PySem.MeetsSeq3 PySem.SeqRoads2
theorem zcW(h:IntsAre vs ns)(hi:i<ns.length):∃t,vs[i]?=some (.int (ns[i]) t):=by
 induction h generalizing i with
 |nil=>simp at hi
 |cons a t h ih=>
  cases i with
  |zero=>exact⟨t,rfl⟩
  |succ i=>
   obtain⟨t',e⟩:=ih (by simpa using hi);exact⟨t',by simpa using e⟩
theorem zfS(l b:Addr)(items items2:Array Value)(n n2:Nat)(dd dd2:Option Addr)(sl sl2:Array (Option Value))(ns ms:List Int)(hi:IntsAre items.toList ns)(hj:IntsAre items2.toList ms)(k:Nat):
  ∀i:Nat,ns.length-i=k->i<=ns.length->i<=ms.length->Meets (Builtin.«list.__eq__.loop» ⟨[.ref l,.ref b,rawInt i,rawInt 0],[]⟩)
   (λ_ R s=>s.heap.get? l=some { cls:=.type "list",dict:=dd,data:=.seq items n,slots:=sl }/\s.heap.get? b=some { cls:=.type "list",dict:=dd2,data:=.seq items2 n2,slots:=sl2 } /\
    R (.ok (.ret (.bool (lexLt (ns.drop i) (ms.drop i))))) s):=by
 have z1:items.size=ns.length:=by rw[<-hi.length];simp
 have z2:items2.size=ms.length:=by rw[<-hj.length];simp
 induction k with
 |zero=>
  intro i hk h1 h2 prog w A R s h;obtain⟨hp,g,d,tk,os⟩:=s;obtain⟨hl,hb,h⟩:=h;have hin:i=ns.length:=by omega
  wp_walk using wpAny_loadPart' hl,wpAny_loadPart' hb
  have hi1:items[((i:Nat):Int).toNat]?=none:=by simp;omega
  have hd:ns.drop i=[]:=by simp;omega
  rw[hd]at h;rw[hi1]
  wp_walk using wpAny_loadPart' hl,wpAny_loadPart' hb
  show R (.ok (.ret (.bool (decide (items.size<items2.size))))) _;have e:lexLt [] (ms.drop i)=decide (items.size<items2.size):=by
   cases q:ms.drop i with
   |nil=>
    rw[YQ];have:ms.length<=i:=by simpa using List.drop_eq_nil_iff.mp q
    exact (decide_eq_false (by omega)).symm
   |cons x y=>
    rw[UG];have:i<ms.length:=by
     by_cases z:i<ms.length
     ·exact z
     ·rw[List.drop_of_length_le (by omega)]at q;cases q
    exact (decide_eq_true (by omega)).symm
  rw[<-e];exact h
 |succ k ih=>
  intro i hk h1 h2 prog w A R s h;obtain⟨hp,g,d,tk,os⟩:=s;obtain⟨hl,hb,h⟩:=h;have hlt:i<ns.length:=by omega
  obtain⟨t,et⟩:=zcW hi hlt;have hi1:items[((i:Nat):Int).toNat]?=some (.int (ns[i]) t):=by simpa using et
  by_cases hm:i<ms.length
  ·obtain⟨u,eu⟩:=zcW hj hm;have hi2:items2[((i:Nat):Int).toNat]?=some (.int (ms[i]) u):=by simpa using eu
   wp_walk using wpAny_loadPart' hl,wpAny_loadPart' hb
   rw[List.drop_eq_getElem_cons hlt,List.drop_eq_getElem_cons hm,uF]at h;have hc:((i:Int)+1)=((i+1:Nat):Int):=by push_cast;rfl
   rw[hi1,hi2];obtain⟨e,he,hiff⟩:=zen A.in1 ⟨hp,g,d,tk,os⟩ (ns[i]) t (ms[i]) u;refine wpAny_bind (he prog w _ _ ?_);cases e with
   |true=>
    rw[if_pos (hiff.mp rfl)]at h
    wp_walk
    rw[hc];exact⟨plainId_quiet plain_eq_loop _,codeAny_builtin entry_eq_loop (by
     rw[Around.under_plainId plain_eq_loop _];exact ih (i+1) (by omega) (by omega) (by omega) prog w A R _ ⟨hl,hb,h⟩)⟩
   |false=>
    rw[if_neg (λq=>absurd (hiff.mpr q) Bool.false_ne_true)]at h;have hri:=zbg A.in1 ⟨hp,g,d,tk,os⟩ (ns[i]) t (ms[i]) u prog w
    wp_walk using wpAny_loadPart' hl,wpAny_loadPart' hb
    rw[hi1,hi2]
    wp_walk using hri
    simpa using h
  ·have hi2:items2[((i:Nat):Int).toNat]?=none:=by simp;omega
   wp_walk using wpAny_loadPart' hl,wpAny_loadPart' hb
   rw[List.drop_eq_getElem_cons hlt,List.drop_of_length_le (show ms.length<=i by omega),uc]at h;rw[hi1,hi2]
   wp_walk using wpAny_loadPart' hl,wpAny_loadPart' hb
   show R (.ok (.ret (.bool (decide (items.size<items2.size))))) _;rw[decide_eq_false (by omega)];exact h
theorem XS(l b:Addr)(items items2:Array Value)(n n2:Nat)(dd dd2:Option Addr)(sl sl2:Array (Option Value))(ns ms:List Int)(hi:IntsAre items.toList ns)(hj:IntsAre items2.toList ms):
  Meets (Builtin.«list.__lt__» ⟨[.ref l,.ref b],[]⟩)
   (λ_ R s=>s.heap.get? l=some { cls:=.type "list",dict:=dd,data:=.seq items n,slots:=sl }/\s.heap.get? b=some { cls:=.type "list",dict:=dd2,data:=.seq items2 n2,slots:=sl2 } /\
    R (.ok (.ret (.bool (lexLt ns ms)))) s):=by
 intro prog w A R s h;obtain⟨hp,g,d,tk,os⟩:=s;obtain⟨hl,hb,h⟩:=h;have f3:=AutoSeq1.sub_list_list
 wp_walk using wpAny_loadPart' hl,wpAny_loadPart' hb
 exact⟨plainId_quiet plain_eq_loop _,codeAny_builtin entry_eq_loop (by
  exact zfS l b items items2 n n2 dd dd2 sl sl2 ns ms hi hj _ 0 rfl (Nat.zero_le _) (Nat.zero_le _) prog w A R _ ⟨hl,hb,by simpa using h⟩)⟩
end
section
variable {prog:Program} {w:World} {A:Around} {E:Value->Shared->Prop} {s:Shared}
theorem Vp(hl:s.heap.IsList l items)(hb:s.heap.IsList b items2)(hi:IntsAre items.toList ns)(hj:IntsAre items2.toList ms)(hu:A.units<cLine)(h:Q (.bool (lexLt ns ms)) s):wpAny (model prog w) A (richCompare .Lt (.ref l) (.ref b)) Q E s:=by
 obtain⟨⟨cls,dd,data,sl⟩,ho,hc,n,hd⟩:=id hl;obtain⟨⟨cls2,dd2,data2,sl2⟩,ho2,hc2,n2,hd2⟩:=id hb;subst hc hd hc2 hd2;exact richCompare_meets_room ⟨_,ho,rfl⟩ ⟨_,ho2,rfl⟩ PySem.F.slot_list_lt PySem.F.entry_list_lt (PySem.F.args_list_lt_2 _ _) (XS l b items items2 n n2 dd dd2 sl sl2 ns ms hi hj)
  ⟨ho,ho2,show Value.bool (lexLt ns ms)≠Value.notImplemented/\Q (.bool (lexLt ns ms)) s from ⟨(λx=>nomatch x),h⟩⟩ hu
end
open PySem PyProof.Rows PySem.W
def Vd{α:Type}(c:Nat->Nat->Bool):KasT α->α
 |.ret a=>a
 |.ask i j k=>Vd c (k (c i j))
def kin{α:Type}(n:Nat):KasT α->Bool
 |.ret _=>true
 |.ask i j k=>decide (i<n) && decide (j<n) && kin n (k true) && kin n (k false)
theorem J3{α:Type}{n:Nat}{c:Nat->Nat->Bool}{cmp:Nat->Nat->(Bool->Shared->Prop)->Shared->Prop}{s:Shared}{Q:α->Shared->Prop}(hc:∀i j C,i<n->j<n->C (c i j) s->cmp i j C s):
  ∀t:KasT α,kin n t=true->Q (Vd c t) s->t.kasWp cmp Q s
 |.ret a,_,q=>q
 |.ask i j k,h,q=>by
  unfold kin at h;simp only[Bool.and_eq_true,decide_eq_true_eq]at h;refine hc i j _ h.1.1.1 h.1.1.2 ?_;have q':Q (Vd c (k (c i j))) s:=q;cases e:c i j with
  |true=>rw[e]at q';exact J3 hc (k true) h.1.2 q'
  |false=>rw[e]at q';exact J3 hc (k false) h.2 q'
theorem qM{α:Type}{n:Nat}{c d:Nat->Nat->Bool}(h:∀i j,i<n->j<n->c i j=d i j):∀t:KasT α,kin n t=true->Vd c t=Vd d t
 |.ret a,_=>rfl
 |.ask i j k,hk=>by
  unfold kin at hk;simp only[Bool.and_eq_true,decide_eq_true_eq]at hk;unfold Vd;rw[h i j hk.1.1.1 hk.1.1.2];cases d i j with
  |true=>exact qM h (k true) hk.1.2
  |false=>exact qM h (k false) hk.2
def tab(b:Nat->Nat->Bool)(i j:Nat):Bool:=if i<j then b i j else if j<i then !b j i else false
def YJ(n:Nat)(c:Nat->Nat->Bool)(p:List Nat):Bool:=p.isPerm (List.range n) && (List.range n).all λi=>(List.range n).all λj=>!decide (i<j) || c (p.getD i 0) (p.getD j 0)
def tr3(n:Nat)(c:Nat->Nat->Bool):Bool:=(List.range n).all λi=>(List.range n).all λj=>(List.range n).all λk=>!c i j || !c j k || c i k
def half(b01 b02 b03 b12 b13 b23:Bool)(i j:Nat):Bool:=match i,j with
 |0,1=>b01 | 0,2=>b02 | 0,3=>b03 | 1,2=>b12 | 1,3=>b13 | 2,3=>b23 | _,_=>false
theorem zhy:kin 2 (kas_sort 2)=true:=by decide +kernel
theorem zhg:kin 3 (kas_sort 3)=true:=by decide +kernel
theorem zhf:kin 4 (kas_sort 4)=true:=by decide +kernel
theorem zhN:∀b01:Bool,YJ 2 (tab (half b01 true true true true true)) (Vd (tab (half b01 true true true true true)) (kas_sort 2)).toList=true:=by decide +kernel
theorem zhw:∀b01 b02 b12:Bool,tr3 3 (tab (half b01 b02 true b12 true true))=true->YJ 3 (tab (half b01 b02 true b12 true true)) (Vd (tab (half b01 b02 true b12 true true)) (kas_sort 3)).toList=true:=by decide +kernel
theorem zhm:∀b01 b02 b03 b12 b13 b23:Bool,tr3 4 (tab (half b01 b02 b03 b12 b13 b23))=true->YJ 4 (tab (half b01 b02 b03 b12 b13 b23)) (Vd (tab (half b01 b02 b03 b12 b13 b23)) (kas_sort 4)).toList=true:=by decide +kernel
theorem yW:∀a:List Int,lexLt a a=false
 |[]=>rfl
 |x::a=>by rw[uF,if_pos rfl,yW a]
theorem Za:∀a b:List Int,a≠b->lexLt b a=!lexLt a b
 |[],[],h=>absurd rfl h
 |[],_::_,_=>rfl
 |_::_,[],_=>rfl
 |x::a,y::b,h=>by
  rw[uF,uF];by_cases e:x=y
  ·subst e;rw[if_pos rfl,if_pos rfl];exact Za a b λz=>h (by rw[z])
  ·rw[if_neg e,if_neg (Ne.symm e),Bool.eq_iff_iff];simp;omega
theorem wQ:∀a b c:List Int,lexLt a b=true->lexLt b c=true->lexLt a c=true
 |[],[],_,h,_=>by rw[YQ]at h;cases h
 |[],_::_,[],_,h=>by rw[uc]at h;cases h
 |[],_::_,_::_,_,_=>rfl
 |_::_,[],_,h,_=>by rw[uc]at h;cases h
 |_::_,_::_,[],_,h=>by rw[uc]at h;cases h
 |x::a,y::b,z::c,h1,h2=>by
  rw[uF]at h1 h2 ⊢;by_cases e1:x=y
  ·subst e1;rw[if_pos rfl]at h1;by_cases e2:x=z
   ·subst e2;rw[if_pos rfl]at h2 ⊢;exact wQ a b c h1 h2
   ·rw[if_neg e2]at h2 ⊢;exact h2
  ·rw[if_neg e1]at h1;have h1':=of_decide_eq_true h1;by_cases e2:y=z
   ·subst e2;rw[if_neg e1];exact h1
   ·rw[if_neg e2]at h2;have h2':=of_decide_eq_true h2;rw[if_neg (show x≠z by omega)];exact decide_eq_true (by omega)
theorem JV(hn:n<=4){c:Nat->Nat->Bool}(h01:1<n->b01=c 0 1)(h02:2<n->b02=c 0 2)(h03:3<n->b03=c 0 3)(h12:2<n->b12=c 1 2)(h13:3<n->b13=c 1 3)(h23:3<n->b23=c 2 3):
  ∀i j,i<j->j<n->half b01 b02 b03 b12 b13 b23 i j=c i j:=by
 intro i j h1 h2;have hh:(i=0/\j=1)\/(i=0/\j=2)\/(i=0/\j=3)\/(i=1/\j=2)\/(i=1/\j=3)\/(i=2/\j=3):=by omega
 rcases hh with ⟨rfl,rfl⟩ | ⟨rfl,rfl⟩ | ⟨rfl,rfl⟩ | ⟨rfl,rfl⟩ | ⟨rfl,rfl⟩ | ⟨rfl,rfl⟩
 ·exact h01 h2
 ·exact h02 h2
 ·exact h03 h2
 ·exact h12 h2
 ·exact h13 h2
 ·exact h23 h2
theorem zf5{ls:ZA}(nd:ls.Nodup)(h2:2<=ls.length)(h4:ls.length<=4):
  kin ls.length (kas_sort ls.length)=true/\YJ ls.length (λi j=>lexLt (ls.getD i []) (ls.getD j [])) (Vd (λi j=>lexLt (ls.getD i []) (ls.getD j [])) (kas_sort ls.length)).toList=true:=by
 generalize hc:(λi j=>lexLt (ls.getD i []) (ls.getD j []))=c;have cd:∀i j,c i j=lexLt (ls.getD i []) (ls.getD j []):=λi j=>by rw[<-hc]
 have flip:∀i j,i<ls.length->j<ls.length->i≠j->c j i=!c i j:=λi j hi hj hij=>by
  rw[cd,cd];refine Za _ _ λe=>hij ?_;have e1:ls.getD i []=ls[i]:=by rw[List.getD_eq_getElem?_getD,List.getElem?_eq_getElem hi];rfl
  have e2:ls.getD j []=ls[j]:=by rw[List.getD_eq_getElem?_getD,List.getElem?_eq_getElem hj];rfl
  rw[e1,e2]at e;exact (List.getElem_inj nd).mp e
 have tabc:∀b:Nat->Nat->Bool,(∀i j,i<j->j<ls.length->b i j=c i j)->∀i j,i<ls.length->j<ls.length->tab b i j=c i j:=λb hb i j hi hj=>by
  unfold tab;by_cases h:i<j
  ·rw[if_pos h,hb i j h hj]
  ·rw[if_neg h];by_cases h':j<i
   ·rw[if_pos h',hb j i h' hi,flip j i hj hi (by omega)]
   ·rw[if_neg h'];have:i=j:=by omega
    subst this;rw[cd,yW]
 have outc:∀b p,(∀i j,i<ls.length->j<ls.length->tab b i j=c i j)->YJ ls.length (tab b) p=true->YJ ls.length c p=true:=λb p hb h=>by
  unfold YJ at h ⊢;rw[Bool.and_eq_true]at h ⊢;refine⟨h.1,?_⟩;have pm:=List.isPerm_iff.mp h.1;have hl:p.length=ls.length:=by rw[pm.length_eq,List.length_range]
  rw[List.all_eq_true]at h ⊢;intro i hi;have q:=h.2 i hi;rw[List.all_eq_true]at q ⊢;intro j hj;have q2:=q j hj;have hi':=List.mem_range.mp hi;have hj':=List.mem_range.mp hj;have m:∀k,k<ls.length->p.getD k 0<ls.length:=λk hk=>by
   have e:p.getD k 0=p[k]'(by omega):=by rw[List.getD_eq_getElem?_getD,List.getElem?_eq_getElem (by omega)];rfl
   rw[e];exact List.mem_range.mp (pm.mem_iff.mp (List.getElem_mem _))
  rw[hb _ _ (m i hi') (m j hj')]at q2;exact q2
 have trc:∀b,(∀i j,i<ls.length->j<ls.length->tab b i j=c i j)->tr3 ls.length (tab b)=true:=λb hb=>by
  unfold tr3;simp only[List.all_eq_true,List.mem_range];intro i hi j hj k hk;rw[hb i j hi hj,hb j k hj hk,hb i k hi hk];cases e1:c i j
  ·rfl
  ·cases e2:c j k
   ·rfl
   ·rw[cd]at e1 e2;rw[cd,wQ _ _ _ e1 e2];rfl
 have hn:ls.length=2\/ls.length=3\/ls.length=4:=by omega
 rcases hn with hn | hn | hn
 ·rw[hn]at tabc outc trc ⊢;have t:=tabc (half (c 0 1) true true true true true) (JV (by decide) (λ_=>rfl) (λz=>by omega) (λz=>by omega) (λz=>by omega) (λz=>by omega) (λz=>by omega));refine⟨zhy,?_⟩;rw[qM (λi j hi hj=>(t i j hi hj).symm) _ zhy];exact outc _ _ t (zhN _)
 ·rw[hn]at tabc outc trc ⊢;have t:=tabc (half (c 0 1) (c 0 2) true (c 1 2) true true) (JV (by decide) (λ_=>rfl) (λ_=>rfl) (λz=>by omega) (λ_=>rfl) (λz=>by omega) (λz=>by omega));refine⟨zhg,?_⟩;rw[qM (λi j hi hj=>(t i j hi hj).symm) _ zhg];exact outc _ _ t (zhw _ _ _ (trc _ t))
 ·rw[hn]at tabc outc trc ⊢;have t:=tabc (half (c 0 1) (c 0 2) (c 0 3) (c 1 2) (c 1 3) (c 2 3)) (JV (by decide) (λ_=>rfl) (λ_=>rfl) (λ_=>rfl) (λ_=>rfl) (λ_=>rfl) (λ_=>rfl));refine⟨zhf,?_⟩;rw[qM (λi j hi hj=>(t i j hi hj).symm) _ zhf];exact outc _ _ t (zhm _ _ _ _ _ _ (trc _ t))
end HT
namespace L2
open PySem PySem.Spec PyProof.Rows
section
variable {X:Cx}
def zic(K:W.Frag):R2:=λx y H Q=>Ex4 λa b ns ms=>x=.ref a/\y=.ref b/\SqL K H a (ns.map V.int)/\SqL K H b (ms.map V.int)/\Q (.bl (HT.lexLt ns ms)) H
theorem zhQ(K:W.Frag)(hu:X.A.units+64<cLine)(e:X.K=K:=by rfl):OpR X (compareOp .Lt) (zic K):=by
 subst e;intro pins s σ H x y v u Q I rx ry h;obtain⟨a,b,ns,ms,rfl,rfl,ha,hb,q⟩:=h;cases rx
 cases ry;obtain⟨its,r1,p1,_⟩:=I.list ha
 obtain⟨its2,r2,p2,_⟩:=I.list hb;exact HT.Vp p1.isList p2.isList (intsAre_of r1) (intsAre_of r2) (by omega) ⟨.bl (HT.lexLt ns ms),H,I,rfl,q⟩
end
end L2
namespace HT
open PySem PyProof.Rows PySem.W
def KW{α:Type}(c:Nat->Nat->Bool)(n:Nat):KasT α->(α->Prop)->Prop
 |.ret a,Q=>Q a
 |.ask i j k,Q=>i<n/\j<n/\KW c n (k (c i j)) Q
theorem KW.bind{α β:Type}{c:Nat->Nat->Bool}{n:Nat}{f:α->KasT β}{Q:β->Prop}:∀{t:KasT α},KW c n t (λa=>KW c n (f a) Q)->KW c n (t.bind f) Q
 |.ret _,h=>h
 |.ask _ _ k,h=>⟨h.1,h.2.1,KW.bind (t:=k _) h.2.2⟩
theorem KW.mono{α:Type}{c:Nat->Nat->Bool}{n:Nat}{Q Q':α->Prop}(hq:∀a,Q a->Q' a):∀{t:KasT α},KW c n t Q->KW c n t Q'
 |.ret a,h=>hq a h
 |.ask _ _ k,h=>⟨h.1,h.2.1,KW.mono hq (t:=k _) h.2.2⟩
theorem KW.wp{α:Type}{n:Nat}{c:Nat->Nat->Bool}{cmp:Nat->Nat->(Bool->Shared->Prop)->Shared->Prop}{s:Shared}{Q:α->Prop}(hc:∀i j C,i<n->j<n->C (c i j) s->cmp i j C s):
  ∀t:KasT α,KW c n t Q->t.kasWp cmp (λa s'=>s'=s/\Q a) s
 |.ret _,h=>⟨rfl,h⟩
 |.ask i j k,h=>hc i j _ h.1 h.2.1 (KW.wp hc (k (c i j)) h.2.2)
structure Ord (c:Nat->Nat->Bool) (n:Nat):Prop where
 tr:∀i j k,i<n->j<n->k<n->c i j=true->c j k=true->c i k=true
 tot:∀i j,i<n->j<n->i≠j->c i j=false->c j i=true
 asy:∀i j,i<n->j<n->c i j=true->c j i=false
structure Pm (n:Nat) (p:Array Nat):Prop where
 sz:p.size=n
 pm:p.toList.Perm (List.range n)
theorem Pm.lt(h:Pm n p)(i:Nat)(hi:i<n):p.getD i 0<n:=by
 have hs:=h.sz;have e:p.getD i 0=p[i]:=by simp[Array.getD,hs,hi]
 rw[e];exact List.mem_range.mp (h.pm.mem_iff.mp (by simp))
theorem Pm.ne(h:Pm n p)(hi:i<n)(hj:j<n)(hij:i≠j):p.getD i 0≠p.getD j 0:=by
 have hs:=h.sz;have e1:p.getD i 0=p.toList[i]'(by simp[hs,hi]):=by simp[Array.getD,hs,hi]
 have e2:p.getD j 0=p.toList[j]'(by simp[hs,hj]):=by simp[Array.getD,hs,hj]
 rw[e1,e2];have nd:=h.pm.nodup_iff.mpr List.nodup_range;intro z;exact hij ((List.getElem_inj nd).mp z)
theorem Pm.of(h:Pm n p)(z:q.Perm p):Pm n q:=⟨by rw[z.size_eq];exact h.sz,(Array.perm_iff_toList_perm.mp z).trans h.pm⟩
def Up(c:Nat->Nat->Bool)(p:Array Nat)(m:Nat):Prop:=∀i j,i<j->j<m->c (p.getD i 0) (p.getD j 0)=true
def Dn(c:Nat->Nat->Bool)(p:Array Nat)(m:Nat):Prop:=∀i j,i<j->j<m->c (p.getD j 0) (p.getD i 0)=true
section
variable {c:Nat->Nat->Bool} {n:Nat}
theorem zbM(O:Ord c n){p:Array Nat}(hp:Pm n p):∀(f m:Nat),1<=m->m+f<=n->Up c p m->KW c n (kas_asc p f m) (λr=>m<=r/\r<=m+f/\Up c p r/\(r<m+f->c (p.getD r 0) (p.getD (r-1) 0)=true))
 |0,m,_,_,u=>⟨Nat.le_refl _,Nat.le_refl _,u,λz=>absurd z (Nat.lt_irrefl _)⟩
 |f+1,m,h1,h2,u=>by
  refine⟨hp.lt m (by omega),hp.lt (m-1) (by omega),?_⟩;cases e:c (p.getD m 0) (p.getD (m-1) 0) with
  |true=>exact⟨Nat.le_refl _,by omega,u,λ_=>e⟩
  |false=>
   have hs:c (p.getD (m-1) 0) (p.getD m 0)=true:=O.tot _ _ (hp.lt m (by omega)) (hp.lt (m-1) (by omega)) (hp.ne (by omega) (by omega) (by omega)) e;have u':Up c p (m+1):=λi j hij hj=>by
    by_cases hjm:j<m
    ·exact u i j hij hjm
    ·have ej:j=m:=by omega
     subst ej;by_cases hi:i=j-1
     ·rw[hi];exact hs
     ·exact O.tr _ _ _ (hp.lt i (by omega)) (hp.lt (j-1) (by omega)) (hp.lt j (by omega)) (u i (j-1) (by omega) (by omega)) hs
   refine KW.mono (λr h=>?_) (zbM O hp f (m+1) (by omega) (by omega) u');exact⟨by omega,by omega,h.2.2.1,λz=>h.2.2.2 (by omega)⟩
theorem zcH(O:Ord c n){p:Array Nat}(hp:Pm n p):∀(f m:Nat),1<=m->m+f<=n->Dn c p m->KW c n (kas_desc f p m 0) (λr=>r.1=p/\r.2.2=0/\m<=r.2.1/\r.2.1<=m+f/\Dn c p r.2.1)
 |0,m,_,_,u=>⟨rfl,rfl,Nat.le_refl _,Nat.le_refl _,u⟩
 |f+1,m,h1,h2,u=>by
  refine⟨hp.lt m (by omega),hp.lt (m-1) (by omega),?_⟩;cases e:c (p.getD m 0) (p.getD (m-1) 0) with
  |true=>
   have u':Dn c p (m+1):=λi j hij hj=>by
    by_cases hjm:j<m
    ·exact u i j hij hjm
    ·have ej:j=m:=by omega
     subst ej;by_cases hi:i=j-1
     ·rw[hi];exact e
     ·exact O.tr _ _ _ (hp.lt j (by omega)) (hp.lt (j-1) (by omega)) (hp.lt i (by omega)) e (u i (j-1) (by omega) (by omega))
   refine KW.mono (λr h=>?_) (zcH O hp f (m+1) (by omega) (by omega) u');exact⟨h.1,h.2.1,by omega,by omega,h.2.2.2.2⟩
  |false=>
   have hs:=O.tot _ _ (hp.lt m (by omega)) (hp.lt (m-1) (by omega)) (hp.ne (by omega) (by omega) (by omega)) e;refine⟨hp.lt (m-1) (by omega),hp.lt m (by omega),?_⟩;rw[hs];exact⟨rfl,rfl,Nat.le_refl _,(show m<=m+(f+1) by omega),u⟩
theorem rev_getD(hm:m<=p.size)(k:Nat):(kas_rev p 0 m).getD k 0=if k<m then p.getD (m-1-k) 0 else p.getD k 0:=by
 have q:=getElem?_mirror_all (i:=0) hm k;have e:∀(a:Array Nat) j,a.getD j 0=(a[j]?).getD 0:=λa j=>by simp[Array.getD_eq_getD_getElem?]
 unfold kas_rev;rw[e,q];by_cases h:k<m
 ·rw[if_pos ⟨Nat.zero_le _,h⟩,if_pos h,e,Nat.zero_add]
 ·rw[if_neg (by omega),if_neg h,e]
theorem zee(O:Ord c n)(hp:Pm n p)(h1:1<=m)(h2:m<=n)(u:Dn c p m):KW c n (kas_tail3 m n p) (λr=>1<=r.1/\r.1<=n/\Pm n r.2/\Up c r.2 r.1):=by
 have hr:Pm n (kas_rev p 0 m):=hp.of (mirror_perm _ _ _ _);have hsz:m<=p.size:=by rw[hp.sz];exact h2
 have u':Up c (kas_rev p 0 m) m:=λi j hij hj=>by
  rw[rev_getD hsz,rev_getD hsz,if_pos (by omega),if_pos hj];exact u _ _ (by omega) (by omega)
 refine KW.bind (KW.mono (λr h=>?_) (zbM O hr (n-m) m h1 (by omega) u'));exact⟨by omega,by omega,hr,h.2.2.1⟩
theorem zeH(O:Ord c n)(hp:Pm n p)(h2:2<=n):KW c n (kas_count n p) (λr=>1<=r.1/\r.1<=n/\Pm n r.2/\Up c r.2 r.1):=by
 refine KW.bind (KW.mono (λr h=>?_) (zbM O hp (n-1) 1 (Nat.le_refl _) (by omega) (λi j hij hj=>by omega)));obtain⟨h1,h3,u,st⟩:=h;by_cases e:r=n
 ·subst e;rw[if_pos (by simp)];exact⟨h1,Nat.le_refl _,hp,u⟩
 ·rw[if_neg (by simpa using e)];by_cases hr:r>1
  ·rw[if_pos hr];refine⟨hp.lt 0 (by omega),hp.lt (r-1) (by omega),?_⟩;rw[u 0 (r-1) (by omega) (by omega)];exact⟨h1,by omega,hp,u⟩
  ·rw[if_neg hr];have er:r=1:=by omega
   subst er;have s1:=st (by omega);have d:Dn c p 2:=λi j hij hj=>by
    have ei:i=0:=by omega
    have ej:j=1:=by omega
    subst ei;subst ej;exact s1
   refine KW.bind (KW.mono (λr h=>?_) (zcH O hp (n-2) 2 (by omega) (by omega) d));obtain⟨a1,a2,a3,a4,a5⟩:=h;obtain⟨q,m,z⟩:=r;simp only at a1 a2 a3 a4 a5;subst a1;subst a2;exact zee O hp (show 1<=m by omega) (show m<=n by omega) a5
theorem Ur(O:Ord c n){p:Array Nat}(hp:Pm n p){k:Nat}(hk:k<n)(u:Up c p k):∀(f l r:Nat),l<=r->r<=k->r-l<=f->(∀i,i<l->c (p.getD i 0) (p.getD k 0)=true)->(∀i,r<=i->i<k->c (p.getD k 0) (p.getD i 0)=true) ->
  KW c n (kas_place p k f l r) (λl=>l<=k/\(∀i,i<l->c (p.getD i 0) (p.getD k 0)=true)/\(∀i,l<=i->i<k->c (p.getD k 0) (p.getD i 0)=true))
 |0,l,r,h1,h2,h3,lo,hi=>⟨by omega,lo,λi a b=>hi i (by omega) b⟩
 |f+1,l,r,h1,h2,h3,lo,hi=>by
  unfold kas_place;by_cases hlr:l>=r
  ·rw[if_pos hlr];exact⟨by omega,lo,λi a b=>hi i (by omega) b⟩
  ·rw[if_neg hlr];have hm:(l+r) / 2<k:=by omega
   refine⟨hp.lt k hk,hp.lt _ (by omega),?_⟩;cases e:c (p.getD k 0) (p.getD ((l+r) / 2) 0) with
   |true=>
    refine Ur O hp hk u f l ((l+r) / 2) (by omega) (by omega) (by omega) lo λi a b=>?_;by_cases ei:i=(l+r) / 2
    ·rw[ei];exact e
    ·exact O.tr _ _ _ (hp.lt k hk) (hp.lt _ (by omega)) (hp.lt i (by omega)) e (u _ _ (by omega) b)
   |false=>
    dsimp only;have hs:=O.tot _ _ (hp.lt k hk) (hp.lt _ (by omega)) (hp.ne hk (by omega) (by omega)) e;refine Ur O hp hk u f ((l+r) / 2+1) r (by omega) h2 (by omega) (λi a=>?_) hi;by_cases ei:i=(l+r) / 2
    ·rw[ei];exact hs
    ·exact O.tr _ _ _ (hp.lt i (by omega)) (hp.lt _ (by omega)) (hp.lt k hk) (u _ _ (by omega) (by omega)) hs
theorem zaO(hk:k<p.size)(hl:l<=k)(i:Nat):(bubble p k (k-l)).getD i 0=if i=l then p.getD k 0 else if l<i/\i<=k then p.getD (i-1) 0 else p.getD i 0:=by
 have q:=getElem?_bubble hk (k-l) (by omega) i;have e:∀(a:Array Nat) j,a.getD j 0=(a[j]?).getD 0:=λa j=>by simp[Array.getD_eq_getD_getElem?]
 rw[show k-(k-l)=l by omega]at q;rw[e,e p k,e p (i-1),e p i,q];split
 ·rfl
 ·split
  ·rfl
  ·rfl
theorem zfi(O:Ord c n):∀(f:Nat) {p:Array Nat} {k:Nat},Pm n p->1<=k->k+f=n->Up c p k->KW c n (kas_bin f p k) (λq=>Pm n q/\Up c q n)
 |0,p,k,hp,h1,h2,u=>by
  have:k=n:=by omega
  subst this;exact⟨hp,u⟩
 |f+1,p,k,hp,h1,h2,u=>by
  refine KW.bind (KW.mono (λl h=>?_) (Ur O hp (show k<n by omega) u k 0 k (Nat.zero_le _) (Nat.le_refl _) (by omega) (λi hi=>by omega) (λi a b=>by omega)));obtain⟨hlk,lo,hi⟩:=h;have hks:k<p.size:=by rw[hp.sz];omega
  refine zfi O f (hp.of (bubble_perm _ _ _)) (by omega) (by omega) λi j hij hj=>?_;rw[zaO hks hlk,zaO hks hlk];by_cases hi1:i=l
  ·rw[if_pos hi1,if_neg (by omega),if_pos (by omega)];exact hi _ (by omega) (by omega)
  ·rw[if_neg hi1];by_cases hi2:l<i/\i<=k
   ·rw[if_pos hi2,if_neg (by omega),if_pos (by omega)];exact u _ _ (by omega) (by omega)
   ·rw[if_neg hi2];by_cases hj1:j=l
    ·rw[if_pos hj1];exact lo _ (by omega)
    ·rw[if_neg hj1];by_cases hj2:l<j/\j<=k
     ·rw[if_pos hj2];exact u _ _ (by omega) (by omega)
     ·rw[if_neg hj2];exact u _ _ (by omega) (by omega)
theorem zgp(O:Ord c n)(h2:2<=n):KW c n (kas_sort n) (λp=>Pm n p/\Up c p n):=by
 have h0:Pm n (List.toArray (List.range n)):=⟨by simp,by simp⟩
 refine KW.bind (KW.mono (λr h=>?_) (zeH O h0 h2));obtain⟨h1,h3,hp,u⟩:=h;by_cases hr:r.1<n
 ·rw[if_pos hr,Nat.max_eq_left h1];exact zfi O _ hp h1 (by omega) u
 ·rw[if_neg hr];have:r.1=n:=by omega
  rw[this]at u;exact⟨hp,u⟩
end
section
variable {prog:Program} {w:World} {A:Around} {E:Value->Shared->Prop} {s:Shared}
theorem zg0(hl:s.heap.IsList l items)(hb:s.heap.IsList b items2)(hi:IntsAre items.toList ns)(hj:IntsAre items2.toList ms)(hu:A.units+1<cLine)(h:Q (lexLt ns ms) s):wpAny (model prog w) A (keyLt' oneType' (.ref l) (.ref b)) Q E s:=by
 obtain⟨⟨cls,dd,data,sl⟩,ho,hc,n,hd⟩:=id hl;obtain⟨⟨cls2,dd2,data2,sl2⟩,ho2,hc2,n2,hd2⟩:=id hb;subst hc hd hc2 hd2;refine wpAny_bind (wpAny_cRoomFor (by omega) (wpAny_bind (wpAny_callSpecialIfBound?_slot ⟨_,ho,rfl⟩ PySem.F.slot_list_lt
  (call_meets PySem.F.slot_list_lt ⟨_,ho,rfl⟩ PySem.F.entry_list_lt (PySem.F.args_list_lt_2 _ _) (XS l b items items2 n n2 dd dd2 sl sl2 ns ms hi hj) ⟨ho,ho2,?_⟩))))
 exact wpAny_truthy_bool h
theorem W8{α:Type}(d:α)(zs:List α){p:List Nat}(h:p.Perm (List.range zs.length)):(p.map λi=>zs.getD i d).Perm zs:=by
 have e:(List.range zs.length).map (λi=>zs.getD i d)=zs:=by
  apply List.ext_getElem?;intro i;rw[List.getElem?_map];by_cases hi:i<zs.length
  ·rw[List.getElem?_range hi,Option.map_some,List.getD_eq_getElem?_getD,List.getElem?_eq_getElem hi];rfl
  ·rw[List.getElem?_eq_none (by simpa using hi),List.getElem?_eq_none (by omega)];rfl
 have q:=h.map λi=>zs.getD i d;rw[e]at q;exact q
theorem zbv{zs:ZB}(ho:s.heap.get? a=some (seqObj "list" (zs.map λz=>Value.ref z.1).toArray n0))(hz:∀z∈zs,z.1≠a/\∃its:List Value,s.heap.IsList z.1 its.toArray/\IntsAre its z.2)(nd:(zs.map (·.2)).Nodup)(h4:zs.length<=4)(hu:A.units+1<cLine)(h:∀zs':ZB,zs'.Perm zs->zs'.Pairwise (λx y=>lexLt x.2 y.2=true)->P (.done (.ret .none)) { s with heap:=sortedHeap s.heap a (zs.map λz=>Value.ref z.1) (zs'.map λz=>Value.ref z.1).toArray }):
  wpAny (model prog w) A (Builtin.«list.sort» ⟨[.ref a],[]⟩) P E s:=by
 rw[list_sort_plain];generalize hvs:(zs.map λz=>Value.ref z.1)=vs at ho h ⊢;have hvl:vs.length=zs.length:=by rw[<-hvs,List.length_map]
 have hsl:vs.length<=sizeLine:=by rw[hvl,sizeLine_eq];omega
 have ha:=Heap.lt_size ho;obtain⟨e1,ho1⟩:∃e1,(s.heap.update a (Obj.mapSeq λ_=>#[])).get? a=some (seqObj "list" #[] e1):=⟨_,get?_update_seq ho (λ_=>#[])⟩
 refine wpAny_bind (listItems_at ho rfl (wpAny_bind (listUpdate_at ho rfl (wpAny_bind (seqEpoch_at ho1 rfl (wpAny_bind (wpAny_newTuple (wpAny_bind (wpAny_newList (wpAny_holding ?_) (Nat.zero_le _))) (by exact hsl))))) (by exact hsl) (Nat.zero_le _))));generalize hG:(((s.heap.update a (Obj.mapSeq λ_=>(#[]))).push (seqObj "tuple" vs.toArray 0)).push (seqObj "list" #[] 0))=G;have ho6:G.get? a=some (seqObj "list" #[] e1):=by
  rw[<-hG,Heap.get?_push_ne _ _ _ (by rw[size_push',Heap.size_update];exact Nat.ne_of_lt (Nat.lt_succ_of_lt ha)),Heap.get?_push_ne _ _ _ (by rw[Heap.size_update];exact Nat.ne_of_lt ha)];exact ho1
 have keep:∀b o,b≠a->s.heap.get? b=some o->G.get? b=some o:=λb o hb e=>by
  have hlt:=Heap.lt_size e;rw[<-hG,Heap.get?_push_ne _ _ _ (by rw[size_push',Heap.size_update];exact Nat.ne_of_lt (Nat.lt_succ_of_lt hlt)),Heap.get?_push_ne _ _ _ (by rw[Heap.size_update];exact Nat.ne_of_lt hlt),Heap.get?_update_other _ _ (Ne.symm hb)];exact e
 dsimp only;by_cases h2:vs.toArray.size<2
 ·rw[if_pos h2,if_pos h2];refine wpAny_bind (wpAny_pure ?_);refine wpAny_bind (wpAny_pure ?_);have hout:(arrOf (SortSt.mk' general' (vs.toArray.zip vs.toArray) #[] 7 none)).map (·.2)=vs.toArray:=by
   apply Array.toList_inj.mp;rw[Array.toList_map,Array.toList_zip,List.map_snd_zip (by simp)]
  rw[hout];refine wpAny_bind (seqEpoch_at ho6 rfl (wpAny_bind (listUpdate_at ho6 rfl ?_ (Nat.zero_le _) (by exact Nat.le_succ_of_le hsl))));have q:=h zs (List.Perm.refl _) (by
   rw[List.size_toArray,hvl]at h2
   match zs,h2 with
   |[],_=>exact .nil
   |[_],_=>exact List.pairwise_singleton _ _)
  rw[hvs]at q;simp only[bne_self_eq_false,Bool.false_eq_true,if_false];have e2:G.update a (Obj.mapSeq λ_=>vs.toArray)=sortedHeap s.heap a vs vs.toArray:=by rw[<-hG];rfl
  rw[e2];exact wpAny_pure q
 ·rw[if_neg h2,if_neg h2];rw[List.size_toArray,hvl]at h2;have ls2:(zs.map (·.2)).length=zs.length:=List.length_map ..;obtain⟨hkin,hok⟩:=zf5 nd (by omega) (by rw[ls2];exact h4);rw[ls2]at hkin hok;generalize hcd:(λi j=>lexLt ((zs.map (·.2)).getD i []) ((zs.map (·.2)).getD j []))=c at hok;have gz:∀i,i<zs.length->vs.getD i Value.none=.ref (zs.getD i (0,[])).1/\(zs.map (·.2)).getD i []=(zs.getD i (0,[])).2/\zs.getD i (0,[])∈zs:=λi hi=>by
   have e:zs.getD i (0,[])=zs[i]:=by rw[List.getD_eq_getElem?_getD,List.getElem?_eq_getElem hi];rfl
   rw[e];refine⟨?_,?_,List.getElem_mem _⟩
   ·rw[<-hvs,List.getD_eq_getElem?_getD,List.getElem?_map,List.getElem?_eq_getElem hi];rfl
   ·rw[List.getD_eq_getElem?_getD,List.getElem?_map,List.getElem?_eq_getElem hi];rfl
  refine wpAny_bind (kas_kind (T:=.type "list") (by omega) (λv hv=>?_) (by decide) (by decide) ?_)
  ·rw[<-hvs]at hv;obtain⟨z,hzm,rfl⟩:=List.mem_map.mp hv;obtain⟨hza,its,hl,_⟩:=hz z hzm;obtain⟨o,e,hcl,_⟩:=hl;intro A' Q' E' s' k q;exact wpAny_typeOf ⟨o,k _ _ (keep _ _ hza e),hcl⟩ q
  have est:SortSt.mk' oneType' (vs.toArray.zip vs.toArray) #[] 7 none=kas_st oneType' (pairsOf vs) (List.toArray (List.range vs.length)):=by
   have e:=kas_range (pairsOf vs);rw[pairsOf_size]at e;unfold kas_st;rw[e];rfl
  have ask:(kas_sort vs.length).kasWp (kas_cmp prog w A oneType' (pairsOf vs)) (λp s'=>s'={ s with heap:=G }/\p=Vd c (kas_sort zs.length)) { s with heap:=G }:=by
   rw[hvl,<-kas_ask_eq];refine J3 (λi j C hi hj hC=>?_) _ hkin ⟨rfl,rfl⟩;obtain⟨a1,a2,a3⟩:=gz i hi;obtain⟨b1,b2,b3⟩:=gz j hj;obtain⟨hza,its,hl,hI⟩:=hz _ a3;obtain⟨hzb,its2,hl2,hI2⟩:=hz _ b3;unfold kas_ask;rw[a1,b1];refine zg0 (hl.at λo e=>keep _ o hza e) (hl2.at λo e=>keep _ o hzb e) (by simpa using hI) (by simpa using hI2) hu ?_;rw[<-hcd]at hC;simp only[a2,b2]at hC;exact hC
  have run:=kas_runs (E:=E) (Q:=λ_ st' s'=>s'={ s with heap:=G }/\arrOf st'=(Vd c (kas_sort zs.length)).map (kas_item (pairsOf vs))/\failedOf st'=none) (by omega) (by omega)
   (λp' st' s' a1 a2 a3 a4=>⟨a4.1,by rw[a2,a4.2],a3⟩) ask
  rw[<-est]at run;refine wpAny_bind (wpAny_mono run ?_ λ_ _ e=>e);rintro⟨⟨⟩,st'⟩ s' ⟨rfl,har,hf⟩;generalize hp:Vd c (kas_sort zs.length)=p at har hok;have hout:(arrOf st').map (·.2)=((p.toList.map λi=>zs.getD i (0,[])).map λz=>Value.ref z.1).toArray:=by
   apply Array.toList_inj.mp;rw[har,Array.map_map,Array.toList_map,List.map_map];refine List.map_congr_left λi hi=>?_;show (kas_item (pairsOf vs) i).2=_;rw[kas_item_eq];unfold YJ at hok;rw[Bool.and_eq_true]at hok;exact (gz i (List.mem_range.mp ((List.isPerm_iff.mp hok.1).mem_iff.mp hi))).1
  rw[hout];have pm:p.toList.Perm (List.range zs.length):=by
   unfold YJ at hok;rw[Bool.and_eq_true]at hok;exact List.isPerm_iff.mp hok.1
  have q:=h (p.toList.map λi=>zs.getD i (0,[])) (W8 _ zs pm) (by
   rw[List.pairwise_map,List.pairwise_iff_getElem];intro i j hi hj hij;have hpl:p.toList.length=zs.length:=by rw[pm.length_eq,List.length_range]
   unfold YJ at hok;simp only[Bool.and_eq_true,List.all_eq_true,List.mem_range]at hok;have q1:=hok.2 i (by omega) j (by omega);rw[decide_eq_true hij]at q1;have e1:p.toList.getD i 0=p.toList[i]:=by rw[List.getD_eq_getElem?_getD,List.getElem?_eq_getElem hi];rfl
   have e2:p.toList.getD j 0=p.toList[j]:=by rw[List.getD_eq_getElem?_getD,List.getElem?_eq_getElem hj];rfl
   rw[e1,e2,<-hcd]at q1;have m1:=List.mem_range.mp (pm.mem_iff.mp (List.getElem_mem hi));have m2:=List.mem_range.mp (pm.mem_iff.mp (List.getElem_mem hj));rw[<-(gz _ m1).2.1,<-(gz _ m2).2.1];simpa using q1)
  have hol:((p.toList.map λi=>zs.getD i (0,[])).map λz=>Value.ref z.1).length=zs.length:=by rw[List.length_map,List.length_map,pm.length_eq,List.length_range]
  refine wpAny_bind (seqEpoch_at ho6 rfl (wpAny_bind (listUpdate_at ho6 rfl ?_ (Nat.zero_le _) (by rw[List.size_toArray,hol];rw[hvl]at hsl;exact Nat.le_succ_of_le hsl))));rw[hf];simp only[bne_self_eq_false,Bool.false_eq_true,if_false];have e2:∀out:Array Value,G.update a (Obj.mapSeq λ_=>out)=sortedHeap s.heap a vs out:=λout=>by rw[<-hG];rfl
  rw[e2];exact wpAny_pure q
theorem zfT{zs:ZB}(hl:s.heap.IsList l (zs.map λz=>Value.ref z.1).toArray)(hz:∀z∈zs,∃its:List Value,s.heap.IsList z.1 its.toArray/\IntsAre its z.2)(nd:(zs.map (·.2)).Nodup)(h4:zs.length<=4)(hu:A.units+8<cLine)(h:∀zs':ZB,zs'.Perm zs->zs'.Pairwise (λx y=>lexLt x.2 y.2=true)->Q (.ref (s.heap.objs.size+1)) { s with heap:=sortedAll s.heap (zs.map λz=>Value.ref z.1) (zs'.map λz=>Value.ref z.1).toArray }):
  wpAny (model prog w) A (call (.builtin "sorted") [.ref l]) Q E s:=by
 have hsl:(zs.map λz=>Value.ref z.1).length<=sizeLine:=by rw[List.length_map,sizeLine_eq];omega
 refine Calls.call_function_entry kind_sorted plain_sorted entry_sorted (args_sorted1 _) ?_;refine wpAny_bind (wpAny_pure (wpAny_bind (collect_list hl (wpAny_bind (wpAny_newList ?_ hsl)) hsl)));generalize hB:(s.heap.push (seqObj "list" #[] 0)).update s.heap.objs.size (Obj.mapSeq (·++(zs.map λz=>Value.ref z.1).toArray))=B;have hsz:B.objs.size=s.heap.objs.size+1:=by rw[<-hB,Heap.size_update,size_push']
 have keep:∀b o,s.heap.get? b=some o->(B.push (seqObj "list" (zs.map λz=>Value.ref z.1).toArray 0)).get? b=some o:=λb o q=>by
  have hlt:=Heap.lt_size q;rw[Heap.get?_push_ne _ _ _ (by rw[hsz];exact Nat.ne_of_lt (Nat.lt_succ_of_lt hlt)),<-hB,Heap.get?_update_ne _ _ _ _ (Nat.ne_of_lt hlt),Heap.get?_push_ne _ _ _ (Nat.ne_of_lt hlt)];exact q
 have hoL:(B.push (seqObj "list" (zs.map λz=>Value.ref z.1).toArray 0)).get? (s.heap.objs.size+1)=some (seqObj "list" (zs.map λz=>Value.ref z.1).toArray 0):=by
  rw[<-hsz];exact Heap.get?_push_size _ rfl
 rw[hsz];refine wpAny_bind (wpAny_holding (wpAny_call_entry slot_list_sort ⟨_,hoL,rfl⟩ entry_list_sort (zbv hoL (λz hzm=>?_) nd h4 (by show A.units+1+1+1<cLine;omega) λzs' a1 a2=>⟨_,rfl,?_⟩) (args_list_sort _)))
 ·obtain⟨its,hl',hI⟩:=hz z hzm;obtain⟨o,e,_⟩:=id hl';exact⟨Nat.ne_of_lt (Nat.lt_succ_of_lt (Heap.lt_size e)),its,hl'.at λo e=>keep _ o e,hI⟩
 ·have q:=h zs' a1 a2;have e2:sortedHeap (B.push (seqObj "list" (zs.map λz=>Value.ref z.1).toArray 0)) (s.heap.objs.size+1) (zs.map λz=>Value.ref z.1) (zs'.map λz=>Value.ref z.1).toArray=sortedAll s.heap (zs.map λz=>Value.ref z.1) (zs'.map λz=>Value.ref z.1).toArray:=by rw[<-hB];rfl
  rw[e2];exact wpAny_pure ⟨_,rfl,q⟩
end
end HT
namespace L2
open PySem PySem.Spec PyProof.Rows
section
variable {X:Cx}
def zgO(K:W.Frag):List V->Hp->VK->Prop:=λxs H Q=>Ex2 λ(a:Addr) (zs:ZB)=>xs=[.ref a]/\SqL K H a (zs.map λz=>V.ref z.1)/\zs.length<=4/\(∀z∈zs,SqL K H z.1 (z.2.map V.int))/\(zs.map (·.2)).Nodup /\
 ∀(p:Addr) (zs':ZB),H p=none->zs'.Perm zs->zs'.Pairwise (λx y=>HT.lexLt x.2 y.2=true)->Q (.ref p) (upd H p (.lst (zs'.map λz=>V.ref z.1)))
theorem WR:∀{zs:ZB} {its:List Value},Vals (zs.map λz=>V.ref z.1) its->its=zs.map λz=>Value.ref z.1
 |[],its,h=>by cases h;rfl
 |z::zs,its,h=>by
  cases h with
  |cons r t=>rw[WR t];cases r;rfl
theorem Yy:∀(zs:ZB),Vals (zs.map λz=>V.ref z.1) (zs.map λz=>Value.ref z.1)
 |[]=>.nil
 |z::zs=>.cons rfl (Yy zs)
theorem zcU(K:W.Frag)(hu:X.A.units+64<cLine)(e:X.K=K:=by rfl):wF X (.builtin "sorted") (zgO K):=by
 subst e;intro pins s σ H xs us Q I r h;obtain⟨a,zs,rfl,ha,h4,hz,nd,q⟩:=h;obtain⟨u,rfl,rx⟩:=vals1 r;cases rx
 obtain⟨its,r1,p1,_⟩:=I.list ha;have e1:=WR r1;subst e1;refine HT.zfT p1.isList (λz hzm=>?_) nd h4 (by omega) λzs' pm pw=>?_
 ·obtain⟨its,r2,p2,_⟩:=I.list (hz z hzm);exact⟨its,p2.isList,by simpa using intsAre_of r2⟩
 ·obtain⟨c,hat⟩:=sortedAll_at s.heap (zs.map λz=>Value.ref z.1) (zs'.map λz=>Value.ref z.1).toArray;have hfree:=I.hok.fresh (Nat.le_succ _);refine⟨.ref (s.heap.objs.size+1),_,I.laid (λb o e=>sortedAll_old e) (Nat.le_succ _) ?_,rfl,q _ zs' hfree pm pw⟩;exact⟨by rw[List.length_map,pm.length_eq];exact Nat.le_trans h4 (by decide),_,c,Yy zs',hat⟩
end
section
variable {κ:Type} [DecidableEq κ]
def yJ(kvs:List (κ×V))(k:κ):Option V:=(kvs.find? λkv=>decide (kv.1=k)).map (·.2)
def putK(kvs:List (κ×V))(k:κ)(v:V):List (κ×V):=
 if (kvs.any λkv=>decide (kv.1=k))=true then kvs.map (λkv=>if kv.1=k then (kv.1,v) else kv) else kvs++[(k,v)]
theorem xX{k:κ}(e:p.1=k):yJ (p::r) k=some p.2:=by simp[yJ,List.find?_cons,e]
theorem xW{k:κ}(e:¬ p.1=k):yJ (p::r) k=yJ r k:=by simp[yJ,List.find?_cons,e]
theorem qz(k:κ):∀kvs:List (κ×V),(kvs.any λkv=>decide (kv.1=k))=(yJ kvs k).isSome
 |[]=>rfl
 |p::r=>by
  rw[List.any_cons];by_cases e:p.1=k
  ·simp only[xX e,decide_eq_true e,Bool.true_or,Option.isSome_some]
  ·rw[xW e,decide_eq_false e,Bool.false_or];exact qz k r
theorem zbb(k j:κ)(y:V):∀kvs:List (κ×V),yJ (kvs.map λkv=>if kv.1=k then (kv.1,y) else kv) j=(yJ kvs j).map λx=>if j=k then y else x
 |[]=>rfl
 |p::r=>by
  have ih:=zbb k j y r;rw[List.map_cons];by_cases h:p.1=k
  ·rw[if_pos h];by_cases e:p.1=j
   ·rw[xX (p:=(p.1,y)) e,xX e,Option.map_some,if_pos (e.symm.trans h)]
   ·rw[xW (p:=(p.1,y)) e,xW e,ih]
  ·rw[if_neg h];by_cases e:p.1=j
   ·rw[xX e,xX e,Option.map_some,if_neg (λz=>h (e.trans z))]
   ·rw[xW e,xW e,ih]
theorem Jf(k j:κ)(y:V):∀kvs:List (κ×V),yJ kvs k=none->yJ (kvs++[(k,y)]) j=if j=k then some y else yJ kvs j
 |[],_=>by
  by_cases e:k=j
  ·rw[if_pos e.symm];exact xX (p:=(k,y)) e
  ·rw[if_neg (λz=>e z.symm)];exact xW (p:=(k,y)) e
 |p::r,hn=>by
  rw[List.cons_append];have hk:¬ p.1=k:=λz=>by rw[xX z]at hn;cases hn
  rw[xW hk]at hn;have ih:=Jf k j y r hn;by_cases e:p.1=j
  ·rw[xX e,xX e,if_neg (λz=>hk (e.trans z))]
  ·rw[xW e,xW e,ih]
theorem Wo(kvs:List (κ×V))(k j:κ)(y:V):yJ (putK kvs k y) j=if j=k then some y else yJ kvs j:=by
 unfold putK;by_cases a:(kvs.any λkv=>decide (kv.1=k))=true
 ·rw[if_pos a,zbb];rw[qz]at a;by_cases e:j=k
  ·obtain⟨x,hx⟩:=Option.isSome_iff_exists.mp a;rw[if_pos e,e,hx,Option.map_some,if_pos rfl]
  ·rw[if_neg e];cases yJ kvs j with
   |none=>rfl
   |some x=>rw[Option.map_some,if_neg e]
 ·rw[if_neg a];refine Jf k j y kvs ?_;rw[qz]at a;cases q:yJ kvs k with
  |none=>rfl
  |some x=>rw[q]at a;exact (a rfl).elim
theorem Yd(kvs:List (κ×V))(k:κ)(v:V):(putK kvs k v).length<=kvs.length+1:=by
 unfold putK;split
 ·rw[List.length_map];omega
 ·rw[List.length_append,List.length_cons,List.length_nil];omega
theorem Z0{k:κ}(v:V)(h:yJ kvs k=none):putK kvs k v=kvs++[(k,v)]:=by
 unfold putK;rw[qz,h];exact if_neg (by decide)
theorem RelO.isSome_eq(r:RelO o u):o.isSome=u.isSome:=by
 cases o with
 |none=>cases u with
  |none=>rfl
  |some _=>exact (show False from r).elim
 |some _=>cases u with
  |none=>exact (show False from r).elim
  |some _=>rfl
theorem RelO.getD(r:RelO o u)(rd:RelV d d'):RelV (o.getD d) (u.getD d'):=by
 cases o with
 |none=>cases u with
  |none=>exact rd
  |some _=>exact (show False from r).elim
 |some _=>cases u with
  |none=>exact (show False from r).elim
  |some _=>exact r
theorem KV.keys{vs:List (κ×Value)}(r:KV kvs vs):kvs.map (·.1)=vs.map (·.1):=by
 unfold KV at r
 induction r with
 |nil=>rfl
 |cons h t ih=>rw[List.map_cons,List.map_cons,ih,h.1]
end
theorem zhG(r:RelV (kV k) u):(wD P w).is k u=true:=by
 cases k with
 |inl i=>obtain⟨t,e⟩:=(show ∃t,u=Value.int i t from r);subst e;exact zaU P w i t
 |inr x=>obtain⟨t,e⟩:=(show ∃t,u=Value.str x t from r);subst e;exact zaI P w x t
theorem Js{P:Program}{w:World}:∀{ks:List Key} {us:List Value},Vals (ks.map kV) us->ItemsAre (wD P w) ks us
 |[],_,r=>by rw[List.map_nil]at r;cases r;exact .nil
 |k::ks,_,r=>by
  rw[List.map_cons]at r;cases r with
  |cons h t=>exact .cons (zhG h) (Js t)
abbrev KT(H:Hp):List (List Key×V)->List (List Key×Addr×Value)->Prop:=Paired λp q=>p.1=q.1/\H q.2.1=some (.tup (p.1.map kV))/\RelV p.2 q.2.2
theorem KT.val(r:KT H kvs xs)(k:List Key):RelO (yJ kvs k) ((atKey xs k).map (·.2)):=by
 induction r with
 |nil=>exact True.intro
 |@cons p q ps qs h t ih=>
  obtain⟨h1,_,h2⟩:=h;by_cases e:p.1=k
  ·have e':=h1.symm.trans e;have b:atKey (q::qs) k=some q.2:=by simp[atKey,List.find?_cons,e']
   rw[xX e,b];exact h2
  ·have e':¬ q.1=k:=λz=>e (h1.trans z);have b:atKey (q::qs) k=atKey qs k:=by simp[atKey,List.find?_cons,e']
   rw[xW e,b];exact ih
theorem KT.repl(r:KT H kvs xs)(k:List Key)(ry:RelV y u):
  KT H (kvs.map λkv=>if kv.1=k then (kv.1,y) else kv) (xs.map (putAt k u)):=by
 induction r with
 |nil=>exact .nil
 |@cons p q ps qs h t ih=>
  rw[List.map_cons,List.map_cons];refine .cons ?_ ih;obtain⟨h1,h2,h3⟩:=h;unfold putAt;by_cases e:p.1=k
  ·rw[if_pos e,if_pos (h1.symm.trans e)];exact⟨h1,h2,ry⟩
  ·rw[if_neg e,if_neg (λz=>e (h1.trans z))];exact⟨h1,h2,h3⟩
theorem KT.put(r:KT H kvs xs)(k:List Key)(hb:H b=some (.tup (k.map kV)))(ry:RelV y u):
  KT H (putK kvs k y) (storedH xs k b u):=by
 have e:(kvs.any λkv=>decide (kv.1=k))=(atKey xs k).isSome:=by
  rw[qz,(r.val k).isSome_eq,Option.isSome_map]
 unfold putK storedH;rw[e];by_cases q:(atKey xs k).isSome=true
 ·rw[if_pos q,if_pos q];exact r.repl k ry
 ·rw[if_neg q,if_neg q];exact Paired.snoc r ⟨rfl,hb,ry⟩
theorem KT.keeps(r:KT H kvs xs)(ht:∀b ys,H b=some (.tup ys)->H' b=some (.tup ys)):KT H' kvs xs :=
 Paired.mapP r λ_ _ z=>⟨z.1,ht _ _ z.2.1,z.2.2⟩
section
variable {P:Program} {w:World} {H:Hp} {h:Heap} {a:Addr}
theorem U8(ok:HOk P w H h)(e:H a=some (.tup (ks.map kV))):(tupleKind (wD P w)).is h ks a:=by
 obtain⟨_,its,r,o,h1,h2,n,h3⟩:=(show ObjOk P w H h a (.tup (ks.map kV)) from ok a _ e)
 exact⟨o,its.toArray,n,h1,h2,h3,by simpa using Js r⟩
end
def DGet(H:Hp)(a:Addr)(y:V)(r:Option V):Prop :=
 (∃kvs k,Rd H a (.dK kvs)/\y=kV k/\r=yJ kvs k)\/∃kvs k b,Rd H a (.dT kvs)/\y=.ref b/\H b=some (.tup (k.map kV))/\r=yJ kvs k
def DPut(H:Hp)(a:Addr)(y v:V)(H':Hp):Prop :=
 (∃kvs k,H a=some (.dK kvs)/\y=kV k/\kvs.length<sizeLine/\H'=upd H a (.dK (putK kvs k v))) \/
 ∃kvs k b,H a=some (.dT kvs)/\y=.ref b/\H b=some (.tup (k.map kV))/\kvs.length<sizeLine/\H'=upd H a (.dT (putK kvs k v))
theorem DGet.k{k:Key}(e:H a=some (.dK kvs)):DGet H a (kV k) (yJ kvs k):=.inl ⟨kvs,k,.inl e,rfl,rfl⟩
theorem DPut.k{k:Key}(e:H a=some (.dK kvs))(hl:kvs.length<sizeLine):DPut H a (kV k) v (upd H a (.dK (putK kvs k v))):=.inl ⟨kvs,k,e,rfl,hl,rfl⟩
section
variable {X:Cx} {pins:List (Addr×Obj)} {σ:St} {H:Hp} {s:Shared} {a:Addr} {y v:V} {u r:Value} {o:Option V} {A:Around} {E:Value->Shared->Prop}
theorem Inv.big(I:Inv X pins σ H s):sysModules<s.heap.objs.size:=by
 have h:=(I.mod.glob.keeps I.bk).lt;exact Nat.lt_trans (by decide) h
theorem zge(I:Inv X pins σ H s)(mu:Mut (H a))(hs:Heap.SameBut a s.heap h')(he:∃q,h'.get? a=some q)(new:ObjOk X.prog X.w (upd H a ob) h' a ob):
  Inv X pins σ (upd H a ob) { s with heap:=h',toks:=t' } :=
 I.write mu (.inl rfl) (λb q hb z=>(hs.2 b hb).trans z) he new
end
section
variable {X:Cx} {pins:List (Addr×Obj)} {σ:St} {H:Hp} {s:Shared} {a:Addr} {kvs:List (Key×V)} {k:Key} {u:Value} {A:Around} {E:Value->Shared->Prop}
end
def zgJ(i:Expr):Prop:=∀ov iv,subscripted i false ov iv=operate [ov,iv] (getItem ov iv)
theorem zf0{T id:String}(hl:typeLookup (.type T) "__getitem__"= pure (some (.builtin id)))(hs:zgJ slice)(h:wpAny (model prog w) A (eval value env) (λo s₁=>wpAny (model prog w) A (eval slice env) (λi s₂=>s₂.TypeIs o T/\wpAny (model prog w) A (getItem o i) Q E s₂) E s₁) E s):
  wpAny (model prog w) A (eval (.Subscript value slice pos) env) Q E s:=by
 refine Subscript_ (wpAny_mono h (λo s₁ h₁=>wpAny_mono h₁ (λi s₂ h₂=>?_) λ_ _ x=>x) λ_ _ x=>x);obtain⟨hT,h₂⟩:=h₂;refine wpAny_bind ?_;refine wpAny_bind (wpAny_specialOf hT hl ?_);have fin:wpAny (model prog w) A (subscripted slice false o i) (λr s₃=>wpAny (model prog w) A (letTemporaryGo value o r >>= λ_=>pure r) Q E s₃) E s₂:=by
  rw[hs o i];exact wpAny_operating (wpAny_mono h₂ (λr s₃ h₃=>wpAny_bind (wpAny_letTemporaryGo (wpAny_pure h₃))) λ_ _ x=>x)
 first
  |exact wpAny_pure (wpAny_bind fin)
  |exact wpAny_bind (wpAny_pure (wpAny_bind fin))
  |exact wpAny_bind fin
section
variable {X:Cx} {o i e value:Expr} {pos pos' tpos:Pos} {td ty tv:TE}
end
theorem zfh(h:Heap)(hb:sysModules<h.objs.size):ObjOk P w H (h.push { cls:=.type "dict",data:=.dict #[] }) h.objs.size (.dK []):=
 ⟨Nat.zero_le _,beq_eq_false_iff_ne.mpr (Ne.symm (Nat.ne_of_lt hb)),[],.nil,Heap.DictOf.new h⟩
def zeL:TE:=λ_ H Q=>∀p,H p=none->Q (.ref p) (upd H p (.dK []))
section
variable {X:Cx} {pos:Pos}
theorem ze9:PE X (.Dict [] [] pos) zeL:=λpins s σ H Q I h=>
 wpAny_Dict_empty ⟨.ref s.heap.objs.size,_,I.laid (λ_ _ q=>Heap.get?_push_of_some _ q) (Nat.le_refl _) (zfh s.heap I.big),rfl,h _ (I.hok.fresh (Nat.le_refl _))⟩
end
structure M1 (X:Cx) (o:Expr) (m:Str) (apos:Pos) (e:Expr) (cpos:Pos):Prop where
 base:attributeBase o m X.env (eval o X.env)=eval o X.env
 few:((backTo cpos (starEach [e] X.env)).all (λx=>!x.1) && (backToKw cpos (keywordEach [] X.env)).all (λx=>x.1.isSome)
  && decide (([e]:List Expr).length+([]:List Keyword).length+(if ([]:List Keyword).isEmpty then 0 else 1)<30))=true
 line:(apos.endLine == cpos.line)=true
 trees:backTo cpos (starEach [e] X.env)=[(false,eval e X.env)]
section
variable {X:Cx} {pins:List (Addr×Obj)} {σ:St} {H:Hp} {s:Shared} {a:Addr} {y d:V} {u r:Value} {o:Option V} {A:Around} {E:Value->Shared->Prop}
end
section
variable {X:Cx} {o e f:Expr} {apos cpos:Pos} {td ty tx:TE}
end
section
variable {X:Cx} {pins:List (Addr×Obj)} {σ:St} {H:Hp} {s:Shared} {a:Addr} {kvs:List (Key×V)} {A:Around} {E:Value->Shared->Prop}
end
section
variable {X:Cx} {pins:List (Addr×Obj)} {σ:St} {H:Hp} {s:Shared} {a:Addr} {y:V} {u:Value} {A:Around} {E:Value->Shared->Prop}
end
section
variable {X:Cx}
end
section
variable {κ:Type} [DecidableEq κ]
theorem zeD{k:κ}(h:yJ kvs k=none):¬ k∈kvs.map (·.1):=by
 intro m;obtain⟨p,hp,e⟩:=List.mem_map.mp m;have q:(kvs.any λkv=>decide (kv.1=k))=true:=List.any_eq_true.mpr ⟨p,hp,decide_eq_true e⟩;rw[qz,h]at q;exact absurd q (by simp)
theorem zcE{k:κ}(h:yJ kvs k=some v):k∈kvs.map (·.1):=by
 have q:(kvs.any λkv=>decide (kv.1=k))=true:=by
  rw[qz,h]
  all_goals rfl
 obtain⟨p,hp,e⟩:=List.any_eq_true.mp q;exact List.mem_map.mpr ⟨p,hp,of_decide_eq_true e⟩
theorem zcs:∀{l:List κ} {k:κ},l.Nodup->¬ k∈l->(l++[k]).Nodup
 |[],k,_,_=>by simp
 |a::r,k,h,hk=>by
  obtain⟨h1,h2⟩:=List.nodup_cons.mp h;refine List.nodup_cons.mpr ⟨λm=>?_,zcs h2 λm=>hk (List.mem_cons.mpr (Or.inr m))⟩;rcases List.mem_append.mp m with q | q
  ·exact h1 q
  ·exact hk (List.mem_cons.mpr (Or.inl (List.mem_singleton.mp q).symm))
theorem zfD{k:κ}(v:V)(hn:(kvs.map (·.1)).Nodup)(h:yJ kvs k=none):((putK kvs k v).map (·.1)).Nodup:=by
 rw[Z0 v h,List.map_append];exact zcs hn (zeD h)
end
end L2
namespace HT
open PySem PyProof.Rows PySem.W
section
variable {prog:Program} {w:World} {A:Around} {E:Value->Shared->Prop} {s:Shared}
theorem zb2(ho:s.heap.get? a=some (seqObj "list" vs.toArray n0))(h60:vs.length<=60)(O:Ord c vs.length)(hkind:∀G:Heap,(∀b o,b≠a->s.heap.get? b=some o->G.get? b=some o)->2<=vs.length->∀Q:SortKind->Shared->Prop,Q κ { s with heap:=G }->wpAny (model prog w) A (keyKind' vs.toArray) Q E { s with heap:=G })(hcmp:∀G:Heap,(∀b o,b≠a->s.heap.get? b=some o->G.get? b=some o)->∀i j (C:Bool->Shared->Prop),i<vs.length->j<vs.length->C (c i j) { s with heap:=G }->kas_ask prog w A κ vs i j C { s with heap:=G })(h:∀p:List Nat,p.Perm (List.range vs.length)->p.Pairwise (λi j=>c i j=true)->P (.done (.ret .none)) { s with heap:=sortedHeap s.heap a vs (p.map λi=>vs.getD i Value.none).toArray }):
  wpAny (model prog w) A (Builtin.«list.sort» ⟨[.ref a],[]⟩) P E s:=by
 rw[list_sort_plain];have hsl:vs.length<=sizeLine:=Nat.le_trans h60 (by decide);have ha:=Heap.lt_size ho;obtain⟨e1,ho1⟩:∃e1,(s.heap.update a (Obj.mapSeq λ_=>#[])).get? a=some (seqObj "list" #[] e1):=⟨_,get?_update_seq ho (λ_=>#[])⟩
 refine wpAny_bind (listItems_at ho rfl (wpAny_bind (listUpdate_at ho rfl (wpAny_bind (seqEpoch_at ho1 rfl (wpAny_bind (wpAny_newTuple (wpAny_bind (wpAny_newList (wpAny_holding ?_) (Nat.zero_le _))) (by exact hsl))))) (by exact hsl) (Nat.zero_le _))));generalize hG:(((s.heap.update a (Obj.mapSeq λ_=>(#[]))).push (seqObj "tuple" vs.toArray 0)).push (seqObj "list" #[] 0))=G;have ho6:G.get? a=some (seqObj "list" #[] e1):=by
  rw[<-hG,Heap.get?_push_ne _ _ _ (by rw[size_push',Heap.size_update];exact Nat.ne_of_lt (Nat.lt_succ_of_lt ha)),Heap.get?_push_ne _ _ _ (by rw[Heap.size_update];exact Nat.ne_of_lt ha)];exact ho1
 have keep:∀b o,b≠a->s.heap.get? b=some o->G.get? b=some o:=λb o hb e=>by
  have hlt:=Heap.lt_size e;rw[<-hG,Heap.get?_push_ne _ _ _ (by rw[size_push',Heap.size_update];exact Nat.ne_of_lt (Nat.lt_succ_of_lt hlt)),Heap.get?_push_ne _ _ _ (by rw[Heap.size_update];exact Nat.ne_of_lt hlt),Heap.get?_update_other _ _ (Ne.symm hb)];exact e
 dsimp only;have e2:∀out:Array Value,G.update a (Obj.mapSeq λ_=>out)=sortedHeap s.heap a vs out:=λout=>by rw[<-hG];rfl
 by_cases h2:vs.toArray.size<2
 ·rw[if_pos h2,if_pos h2];refine wpAny_bind (wpAny_pure ?_);refine wpAny_bind (wpAny_pure ?_);rw[List.size_toArray]at h2;have hout:(arrOf (SortSt.mk' general' (vs.toArray.zip vs.toArray) #[] 7 none)).map (·.2)=((List.range vs.length).map λi=>vs.getD i Value.none).toArray:=by
   apply Array.toList_inj.mp;rw[Array.toList_map,Array.toList_zip,List.map_snd_zip (by simp)];apply List.ext_getElem?;intro i;rw[List.getElem?_map];by_cases hi:i<vs.length
   ·rw[List.getElem?_range hi,Option.map_some,List.getD_eq_getElem?_getD,List.getElem?_eq_getElem hi];rfl
   ·rw[List.getElem?_eq_none (by simpa using hi),List.getElem?_eq_none (by simpa using hi)];rfl
  rw[hout];refine wpAny_bind (seqEpoch_at ho6 rfl (wpAny_bind (listUpdate_at ho6 rfl ?_ (Nat.zero_le _) (by rw[List.size_toArray,List.length_map,List.length_range];exact Nat.le_succ_of_le hsl))));simp only[bne_self_eq_false,Bool.false_eq_true,if_false];rw[e2];refine wpAny_pure (h _ (List.Perm.refl _) ?_);rw[List.pairwise_iff_getElem];intro i j hi hj hij;rw[List.length_range]at hj;omega
 ·rw[if_neg h2,if_neg h2];rw[List.size_toArray]at h2;refine wpAny_bind (hkind G keep (by omega) _ ?_);have ask:=
   KW.wp (λi j C hi hj hC=>hcmp G keep i j C hi hj hC) _ (zgp O (by omega))
  refine wpAny_bind (wpAny_mono (kat_run (Q:=λst' s'=>∃p:Array Nat,s'={ s with heap:=G }/\arrOf st'=p.map (kas_item (vs.toArray.zip vs.toArray))/\failedOf st'=none/\Pm vs.length p/\Up c p vs.length)
   rfl (by omega) (by omega) (λp st' s' _ a2 a3 a4=>⟨p,a4.1,a2,a3,a4.2⟩) ask) ?_ λ_ _ e=>e)
  rintro⟨⟨⟩,st'⟩ s' ⟨p,rfl,har,hfl,hpm,hup⟩;have hpl:p.toList.length=vs.length:=by rw[hpm.pm.length_eq,List.length_range]
  have hol:(p.toList.map λi=>vs.getD i Value.none).length=vs.length:=by rw[List.length_map,hpl]
  rw[kat_snds rfl har];refine wpAny_bind (seqEpoch_at ho6 rfl (wpAny_bind (listUpdate_at ho6 rfl ?_ (Nat.zero_le _) (by rw[List.size_toArray,hol];exact Nat.le_succ_of_le hsl))));rw[hfl];simp only[bne_self_eq_false,Bool.false_eq_true,if_false];rw[e2];refine wpAny_pure (h _ hpm.pm ?_);rw[List.pairwise_iff_getElem];intro i j hi hj hij;have q1:=hup i j hij (by omega);have g1:p.getD i 0=p.toList[i]:=by
   have:i<p.size:=by omega
   simp[Array.getD,this]
  have g2:p.getD j 0=p.toList[j]:=by
   have:j<p.size:=by omega
   simp[Array.getD,this]
  rw[g1,g2]at q1;exact q1
theorem zfQ{Pv:List Value->Prop}(h60:n<=60)(hcol:∀R:List Value->Shared->Prop,(∀h' tk vs,(∀b o,s.heap.get? b=some o->h'.get? b=some o)->vs.length=n->Pv vs->R vs { s with heap:=h',toks:=tk })->wpAny (model prog w) A.in1 (collect (.ref r)) R E s)(hord:∀vs,vs.length=n->Pv vs->∃c:Nat->Nat->Bool,Ord c n /\
   (∀G tk,(∀b o,s.heap.get? b=some o->G.get? b=some o)->2<=n->∀Q:SortKind->Shared->Prop,Q κ { s with heap:=G,toks:=tk }->wpAny (model prog w) A.in1.in1 (keyKind' vs.toArray) Q E { s with heap:=G,toks:=tk }) /\
   (∀G tk,(∀b o,s.heap.get? b=some o->G.get? b=some o)->∀i j (C:Bool->Shared->Prop),i<n->j<n->C (c i j) { s with heap:=G,toks:=tk }->kas_ask prog w A.in1.in1 κ vs i j C { s with heap:=G,toks:=tk }) /\
   ∀(p:List Nat) (h' h'':Heap) (tk e:Nat),p.Perm (List.range n)->p.Pairwise (λi j=>c i j=true)->(∀b o,s.heap.get? b=some o->h'.get? b=some o)->(∀b o,h'.get? b=some o->h''.get? b=some o)->h''.get? h'.objs.size=some (seqObj "list" (p.map λi=>vs.getD i Value.none).toArray e)->Q (.ref h'.objs.size) { s with heap:=h'',toks:=tk }):
  wpAny (model prog w) A (call (.builtin "sorted") [.ref r]) Q E s:=by
 refine Calls.call_function_entry kind_sorted plain_sorted entry_sorted (args_sorted1 _) ?_;refine wpAny_bind (wpAny_pure (wpAny_bind (hcol _ λh' tk vs hk hl pv=>?_)));obtain⟨c,O,hkind,hcmp,fin⟩:=hord vs hl pv;subst hl;have hsl:vs.length<=sizeLine:=Nat.le_trans h60 (by decide);refine wpAny_bind (wpAny_newList ?_ hsl);have hoL:(h'.push (seqObj "list" vs.toArray 0)).get? h'.objs.size=some (seqObj "list" vs.toArray 0):=Heap.get?_push_size _ rfl;have ne:∀b o,s.heap.get? b=some o->b≠h'.objs.size:=λb o q=>Nat.ne_of_lt (Heap.lt_size (hk b o q));refine wpAny_bind (wpAny_holding (wpAny_call_entry slot_list_sort ⟨_,hoL,rfl⟩ entry_list_sort (zb2 hoL h60 O (λG kG h2 Q' hq=>hkind G tk (λb o q=>kG b o (ne b o q) (Heap.get?_push_of_some _ (hk b o q))) h2 Q' hq)
  (λG kG i j C hi hj hC=>hcmp G tk (λb o q=>kG b o (ne b o q) (Heap.get?_push_of_some _ (hk b o q))) i j C hi hj hC) λp hp hw=>⟨_,rfl,?_⟩) (args_list_sort _)))
 refine wpAny_pure ⟨_,rfl,?_⟩;obtain⟨e,he⟩:=sortedHeap_at hoL;refine fin p h' _ tk e hp hw hk (λb o q=>?_) he;have hlt:=Heap.lt_size q;rw[sortedHeap_old (Nat.ne_of_lt hlt) (by rw[size_push'];exact Nat.lt_succ_of_lt hlt)];exact Heap.get?_push_of_some _ q
end
def RawD(h:Heap)(d:Addr)(ks:List Value)(ep:Nat):Prop:=∃o es,h.get? d=some o/\o.ExactDict/\o.data=.dict es ep/\es.toList.map (·.key)=ks
theorem RawD.at(x:RawD h d ks ep)(e:∀o,h.get? d=some o->h'.get? d=some o):RawD h' d ks ep:=let ⟨o,es,ho,r⟩:=x;⟨o,es,e _ ho,r⟩
theorem RawD.lt(x:RawD h d ks ep):d<h.objs.size:=let ⟨_,_,ho,_⟩:=x;Heap.lt_size ho
theorem RawD.ty{s:Shared}(x:RawD s.heap d ks ep):s.TypeIs (.ref d) "dict":=let ⟨o,_,ho,hc,_⟩:=x;⟨o,ho,hc.1⟩
section
variable {prog:Program} {w:World} {A:Around} {E:Value->Shared->Prop} {s:Shared} {d it:Addr} {ks:List Value} {ep i:Nat}
theorem zcM(hd:(d == sysModules)=false)(hm:RawD s.heap d ks ep)(hQ:Q (.ref s.heap.objs.size) { s with heap:=s.heap.push { cls:=.type "dict_keyiterator",data:=.fields #[.ref d,.int 0 0,.int ks.length 0,.int ep 0] } }):
  wpAny (model prog w) A (pyIter (.ref d)) Q E s:=by
 obtain⟨o,es,ho,hc,hdat,hk⟩:=id hm;refine wpAny_pyIter_slot hm.ty F.slot_dict_iter (wpAny_call_entry F.slot_dict_iter hm.ty F.entry_dict_iter ?_ (F.args_dict_iter_1 _));refine wpAny_bind (wpAny_bind (wpAny_notOrdered_dict hm.ty ?_));refine wpAny_pure ?_;show wpAny _ _ (Builtin.Dict.showsAll d >>= _) _ _ s;unfold Builtin.Dict.showsAll;rw[hd,if_neg Bool.false_ne_true];have hsz:es.size=ks.length:=by rw[<-hk];simp
 refine wpAny_bind (wpAny_pure (wpAny_bind (wpAny_dictEntries ho hdat (wpAny_bind (wpAny_dictEpoch ho hdat (wpAny_bind (wpAny_newObj_type (wpAny_pure ⟨_,rfl,"dict_keyiterator",_,⟨_,Heap.get?_push_size _ rfl,rfl⟩,F.slot_dict_keyiterator_next.lookup,?_⟩))))))));simpa[rawInt,hsz] using hQ
theorem zcV(hit:s.heap.IsKeyIter it d i ks.length ep)(hm:RawD s.heap d ks ep)(hx:ks[i]?=some v)(hQ:∀h',h'.IsKeyIter it d (i+1) ks.length ep->Heap.SameBut it s.heap h'->Q (some v) { s with heap:=h' }):wpAny (model prog w) A (pyNext (.ref it)) Q E s:=by
 obtain⟨o,ho,hc,hd⟩:=id hit;obtain⟨od,es,hod,hcd,hdd,hk⟩:=id hm;have hsz:es.size=ks.length:=by rw[<-hk];simp
 have hlt:i<es.size:=by rw[hsz];exact (List.getElem?_eq_some_iff.mp hx).1
 have hkey:es[i].key=v:=by
  rw[<-hk,List.getElem?_map]at hx;simpa[hlt] using hx
 have hown:Builtin.Dict_items.ownsTuple "dict_keyiterator"= false:=by decide
 refine wpAny_bind (wpAny_attempt (wpAny_callSpecial?_slot hit.typeIs F.slot_dict_keyiterator_next (wpAny_call_entry F.slot_dict_keyiterator_next hit.typeIs F.entry_dict_keyiterator_next ?_ (F.args_dict_keyiterator_next_1 _))));refine wpAny_bind (wpAny_pure (wpAny_bind (wpAny_bind ?_)))
 first | refine wpAny_bind (wpAny_typeNameOfWhole_keyiter hit.typeIs (wpAny_pure (wpAny_bind (wpAny_fieldsOf ho hd ?_)))) | refine wpAny_bind (wpAny_typeNameOf_keyiter hit.typeIs (wpAny_pure (wpAny_bind (wpAny_fieldsOf ho hd ?_))))
 refine wpAny_bind (wpAny_pure (wpAny_bind (wpAny_dictEntries hod hdd ?_)));rw[if_neg (by rw[hsz];simp)];refine wpAny_bind (wpAny_pure (wpAny_bind (wpAny_dictEpoch hod hdd ?_)));rw[if_neg (by simp)];refine wpAny_pure ?_;simp only[show ¬ (i<0) from by omega,if_false,Int.toNat_natCast,Array.getElem?_eq_getElem hlt];refine wpAny_bind ?_
 first | refine wpAny_bind (wpAny_typeNameOfWhole_keyiter hit.typeIs (wpAny_pure (wpAny_bind (wpAny_isOneOf_keyiter hit.typeIs ?_)))) | refine wpAny_bind (wpAny_typeNameOf_keyiter hit.typeIs (wpAny_pure (wpAny_bind (wpAny_isOneOf_keyiter hit.typeIs ?_))))
 show wpAny _ _ (setField (.ref it) 1 (rawInt (i+1)) >>= _) _ _ s;refine wpAny_bind (wpAny_setField ho hd (by simp) ?_);have hit':(s.heap.update it (Obj.mapFields (·.setIfInBounds 1 (rawInt (i+1))))).IsKeyIter it d (i+1) ks.length ep :=
  ⟨_,Heap.get?_update_self _ ho (Obj.isFreed_of_fields (Obj.data_mapFields hd _)),(Obj.cls_mapFields ..).trans hc,by rw[Obj.data_mapFields hd];simp[rawInt]⟩
 refine wpAny_bind (wpAny_holding (wpAny_bind (wpAny_isOneOf_keyiter hit'.typeIs ?_)));rw[hkey];exact wpAny_pure (wpAny_pure ⟨_,rfl,wpAny_pure (hQ _ hit' (Heap.SameBut.update ..))⟩)
theorem zeA(hh:A.handled=none)(hit:s.heap.IsKeyIter it d ks.length ks.length ep)(hm:RawD s.heap d ks ep)(hQ:∀h',Heap.ExtBut it s.heap h'->Q none { s with heap:=h' }):wpAny (model prog w) A (pyNext (.ref it)) Q E s:=by
 obtain⟨o,ho,hc,hd⟩:=id hit;obtain⟨od,es,hod,hcd,hdd,hk⟩:=id hm;have hsz:es.size=ks.length:=by rw[<-hk];simp
 have hge:=Nat.le_of_eq hsz;have hown:Builtin.Dict_items.ownsTuple "dict_keyiterator"= false:=by decide
 refine wpAny_bind (wpAny_attempt (wpAny_callSpecial?_slot hit.typeIs F.slot_dict_keyiterator_next (wpAny_call_entry F.slot_dict_keyiterator_next hit.typeIs F.entry_dict_keyiterator_next ?_ (F.args_dict_keyiterator_next_1 _))));refine wpAny_bind (wpAny_pure (wpAny_bind (wpAny_bind ?_)))
 first | refine wpAny_bind (wpAny_typeNameOfWhole_keyiter hit.typeIs (wpAny_pure (wpAny_bind (wpAny_fieldsOf ho hd ?_)))) | refine wpAny_bind (wpAny_typeNameOf_keyiter hit.typeIs (wpAny_pure (wpAny_bind (wpAny_fieldsOf ho hd ?_))))
 show wpAny _ _ (if (Value.ref d == Value.none)=true then _ else _) _ _ s;refine wpAny_bind (wpAny_pure (wpAny_bind (wpAny_dictEntries hod hdd ?_)));rw[if_neg (by rw[hsz];simp)];refine wpAny_bind (wpAny_pure (wpAny_bind (wpAny_dictEpoch hod hdd ?_)));rw[if_neg (by simp)];refine wpAny_pure ?_;simp only[show ¬ (ks.length<0) from by omega,if_false,Int.toNat_natCast,Array.getElem?_eq_none hge];refine wpAny_bind ?_
 first | refine wpAny_bind (wpAny_typeNameOfWhole_keyiter hit.typeIs (wpAny_pure ?_)) | refine wpAny_bind (wpAny_typeNameOf_keyiter hit.typeIs (wpAny_pure ?_))
 show wpAny _ _ (setField (.ref it) 0 .none >>= _) _ _ s;refine wpAny_bind (wpAny_setField ho hd (by simp) ?_);refine wpAny_bind ?_;refine wpAny_bind (wpAny_newObj_type (wpAny_bind (wpAny_of_eq (by first | rfl | (simp only[firstArgMember];rfl)) (wpAny_newObj_type ?_ (by size_fits)))) (by size_fits));refine wpAny_bind (wpAny_handled ?_);rw[show A.in1.handled=none from hh];refine wpAny_bind (wpAny_pure (wpAny_throw ?_));refine wpAny_bind (wpAny_isInstance ⟨_,Heap.get?_push_size _ rfl,rfl⟩ isSubtype_stop ?_);exact wpAny_pure (hQ _ (((Heap.SameBut.update ..).extBut.push _).push _))
theorem ze5(hh:A.handled=none)(I d:Addr)(hne:d≠I)(ks:List Value)(ep:Nat):Walks prog w A I [I,d] [I] ks.length (λi v=>ks[i]?=some v) (λi h=>h.IsKeyIter I d i ks.length ep/\RawD h d ks ep) where
 sub:=λb hb=>by simp at hb;simp[hb]
 frame:=λ_ _ _ st hk=>⟨st.1.at λo e=>hk I (by simp) o e,st.2.at λo e=>hk d (by simp) o e⟩
 item:=λi s Q E hi st hQ=>by
  refine zcV st.1 st.2 (List.getElem?_eq_getElem hi) λh' hit' hs'=>hQ _ h' s.toks (List.getElem?_eq_getElem hi) ⟨hit',st.2.at λo e=>hs'.extBut _ _ hne e⟩ λb o hb e=>hs'.extBut b o (λh=>hb (by simp[h])) e
 done:=λs Q E st hQ=>zeA hh st.1 st.2 λh' he'=>hQ h' s.toks λb o hb e=>he' b o (λh=>hb (by simp[h])) e
 self:=λ_ _ _ _ st hQ=>wpAny_pyIter_keyiter st.1 hQ
theorem zg2(lo:(d == sysModules)=false):KdlSrc prog w "dict" d d ks.length (λi v=>ks[i]?=some v) (λh=>RawD h d ks ep) where
 type:=λ_ hm=>hm.ty
 there:=λ_ hm=>⟨hm.lt,hm.lt⟩
 keep:=λ_ _ hm hk=>hm.at λo e=>hk d (.inl rfl) o e
 notList:=by decide
 notTuple:=by decide
 hint:=λ_ _ _ _ hm hq=>kdl_hint_dict hm.ty hq
 iter:=λ_ _ hh hm=>⟨_,_,(λ_ _ hq=>zcM lo hm hq),ze5 hh _ d (Nat.ne_of_lt hm.lt) ks ep,⟨⟨_,Heap.get?_push_size _ rfl,rfl,rfl⟩,hm.at λo e=>Heap.get?_push_of_some _ e⟩⟩
end
end HT
namespace L2
open PySem PySem.Spec PyProof.Rows PySem.W
def kI(ns:List Int):List Key:=ns.map Sum.inl
theorem U9(ns:List Int):(kI ns).map kV=ns.map V.int:=by unfold kI;rw[List.map_map];rfl
theorem Vc(e:kI a=kI b):a=b:=by
 unfold kI at e;exact List.map_inj_right (λx y h=>by cases h;rfl) |>.mp e
section
variable {X:Cx} {pins:List (Addr×Obj)} {σ:St} {H:Hp} {s:Shared}
theorem JL(I:Inv X pins σ H s)(h:H p=some (.tup (ns.map V.int))):∃its o m,IntsAre its ns/\s.heap.get? p=some o/\o.cls=.type "tuple"/\o.data=.seq its.toArray m:=by
 obtain⟨_,its,r,o,e,hc,m,hd⟩:=I.hok p _ h;exact⟨its,o,m,by simpa using intsAre_of r,e,hc,hd⟩
end
theorem zaQ{prog:Program}{w:World}{A:Around}{Q:Bool->Shared->Prop}{s:Shared}{f:Bool}:∀{xs ys:List Value} {as bs:List Int} (i:Nat),IntsAre xs as->IntsAre ys bs->f=decide (as.length<bs.length)->Q (HT.lexLt as bs) s->KatLex prog w A true f Q (xs.zip ys) i s
 |[],_,_,_,i,.nil,.nil,hf,h=>by subst hf;exact kat_nil h
 |[],_,_,_,i,.nil,.cons m u hj,hf,h=>by subst hf;exact kat_nil h
 |_,[],_,_,i,.cons n t hi,.nil,hf,h=>by subst hf;exact kat_nil h
 |_,_,_,_,i,.cons n t (ns:=as) hi,.cons m u (ns:=bs) hj,hf,h=>by
  rw[List.zip_cons_cons];refine kat_cons (wpAny_eqBool_int ?_);rw[HT.uF]at h;by_cases e:n=m
  ·rw[if_pos e]at h;rw[show (n == m)=true by simp[e]];exact kat_yes (zaQ (i+1) hi hj (by rw[hf];simp) h)
  ·rw[if_neg e]at h;rw[show (n == m)=false by simp[e]];refine kat_no ?_;by_cases hi0:i=0
   ·subst hi0;exact oneLt_int h
   ·rw[show (true && i == 0)=false by simp[hi0]];exact kat_one _ _ (HT.zbg A s n t m u prog w _ _ h)
section
variable {X:Cx} {pins:List (Addr×Obj)} {σ:St} {H:Hp} {s:Shared}
theorem zf4(I:Inv X pins σ H s)(hp:H p=some (.tup (as.map V.int)))(hq:H q=some (.tup (bs.map V.int)))(h:Q (HT.lexLt as bs) s):
  wpAny (model X.prog X.w) A (keyLt' (tuples' true) (.ref p) (.ref q)) Q E s:=by
 obtain⟨its,o,m,hi,e,_,hd⟩:=JL I hp;obtain⟨its',o',m',hi',e',_,hd'⟩:=JL I hq;refine kat_lt e hd e' hd' ?_;rw[List.size_toArray,List.size_toArray,hi.length,hi'.length];exact zaQ 0 (by simpa using hi) (by simpa using hi') rfl h
end
theorem Q6{X:Cx}{pins:List (Addr×Obj)}{σ:St}{H:Hp}{s:Shared}(I:Inv X pins σ H s):∀zs:ZB,(∀z∈zs,H z.1=some (.tup (z.2.map V.int))/\z.2≠[])->∃fs:List Value,KatTups s.heap (zs.map λz=>Value.ref z.1) fs/\fs.length=zs.length/\∀v∈fs,∃n t,v=Value.int n t
 |[],_=>⟨[],KatTups.nil,rfl,λv hv=>by cases hv⟩
 |z::zs,h=>by
  obtain⟨fs,h1,h2,h3⟩:=Q6 I zs λq hq=>h q (.tail _ hq);obtain⟨za,zl⟩:=z;obtain⟨hz,hne⟩:=h (za,zl) (.head _);obtain⟨its,o,m,hi,e,hc,hd⟩:=JL I hz;cases hi with
  |nil=>exact absurd rfl hne
  |cons n t hi=>
   refine⟨.int n t::fs,KatTups.cons e hc hd (by simp) h1,by simp[h2],λv hv=>?_⟩;rcases List.mem_cons.mp hv with rfl | hv
   ·exact⟨n,t,rfl⟩
   ·exact h3 v hv
theorem zg4{ls:ZA}(nd:ls.Nodup):HT.Ord (λi j=>HT.lexLt (ls.getD i []) (ls.getD j [])) ls.length:=by
 have ge:∀i,(h:i<ls.length)->ls.getD i []=ls[i]:=λi h=>by rw[List.getD_eq_getElem?_getD,List.getElem?_eq_getElem h];rfl
 refine⟨λi j k _ _ _ h1 h2=>HT.wQ _ _ _ h1 h2,λi j hi hj hij h=>?_,λi j hi hj h=>?_⟩
 ·have ne:ls.getD i []≠ls.getD j []:=λz=>by
   rw[ge i hi,ge j hj]at z;exact hij ((List.getElem_inj nd).mp z)
  have:=HT.Za _ _ ne;rw[h]at this;exact this
 ·cases e:HT.lexLt (ls.getD j []) (ls.getD i []) with
  |false=>rfl
  |true=>
   have:=HT.wQ _ _ _ h e;rw[HT.yW]at this;cases this
theorem zfd{zs:ZB}{p:List Nat}(hp:p.Perm (List.range zs.length))(hw:p.Pairwise (λi j=>HT.lexLt ((zs.map (·.2)).getD i []) ((zs.map (·.2)).getD j [])=true)):
  ∃zs':ZB,zs'.Perm zs/\zs'.Pairwise (λx y=>HT.lexLt x.2 y.2=true)/\(p.map λi=>(zs.map λz=>Value.ref z.1).getD i Value.none)=zs'.map λz=>Value.ref z.1:=by
 have g:∀i∈p,(zs.map (·.2)).getD i []=(zs.getD i (0,[])).2/\(zs.map λz=>Value.ref z.1).getD i Value.none=Value.ref (zs.getD i (0,[])).1:=λi hi=>by
  have hi':=List.mem_range.mp (hp.mem_iff.mp hi);constructor
  ·rw[List.getD_eq_getElem?_getD,List.getD_eq_getElem?_getD,List.getElem?_map,List.getElem?_eq_getElem hi'];rfl
  ·rw[List.getD_eq_getElem?_getD,List.getD_eq_getElem?_getD,List.getElem?_map,List.getElem?_eq_getElem hi'];rfl
 refine⟨p.map λi=>zs.getD i (0,[]),HT.W8 _ zs hp,?_,?_⟩
 ·rw[List.pairwise_map];refine List.Pairwise.imp_of_mem ?_ hw;intro i j hi hj h;rw[(g i hi).1,(g j hj).1]at h;exact h
 ·rw[List.map_map];exact List.map_congr_left λi hi=>(g i hi).2
theorem zaV{H:Hp}:∀{kvs:List (List Key×V)} {xs:List (List Key×Addr×Value)} {ls:ZA},KT H kvs xs->kvs.map (·.1)=ls.map kI->∃zs:ZB,zs.map (·.2)=ls/\(xs.map λx=>Value.ref x.2.1)=zs.map (λz=>Value.ref z.1)/\(∀z∈zs,H z.1=some (.tup (z.2.map V.int)))/\xs.map (·.1)=ls.map kI
 |[],[],ls,.nil,e=>by
  cases ls with
  |nil=>exact⟨[],rfl,rfl,by simp,rfl⟩
  |cons _ _=>simp at e
 |p::kvs,q::xs,ls,.cons h t,e=>by
  cases ls with
  |nil=>simp at e
  |cons l ls=>
   rw[List.map_cons,List.map_cons]at e;injection e with e1 e2
   obtain⟨zs,h1,h2,h3,h4⟩:=zaV t e2;refine⟨(q.2.1,l)::zs,by simp[h1],by simp[h2],λz hz=>?_,?_⟩
   ·rcases List.mem_cons.mp hz with rfl | hz
    ·have:=h.2.1;rw[e1,U9]at this;exact this
    ·exact h3 z hz
   ·rw[List.map_cons,List.map_cons,h4,<-h.1,e1]
section
variable {X:Cx}
end
open PySem PySem.Spec PyProof.Rows
section
variable {X:Cx} {tg:Expr}
end
open PySem PySem.Spec PyProof.Rows PySem.SeqAt
section
variable {X:Cx}
def zhh(K:W.Frag):List V->Hp->VK->Prop:=λxs H Q=>Ex2 λ(a:Addr) (ns:List Int)=>xs=[.ref a]/\SqL K H a (ns.map V.int)/\Q (.int ns.sum) H
theorem zdV(hc:X.calm=true):wF X (.builtin "sum") (zhh X.K):=by
 intro pins s σ H xs us Q I r h;obtain⟨a,ns,rfl,hq,q⟩:=h;obtain⟨u,rfl,rx⟩:=vals1 r;cases rx
 obtain⟨its,rv,pl,hz⟩:=I.list hq;have hi:=intsAre_of rv;obtain⟨ys,hy⟩:=hi.allInts.items;have hn:(ys.toList.map (·.1)).sum=ns.sum:=by
  have e:=hi.numsOf;have e2:=nums_intItems ys;rw[<-hy]at e2;rw[<-e,<-e2]
 refine sum_intListG (I.ok.hd hc) (by rw[<-hy];exact pl.isList) λh' tk t' hk=>?_;refine⟨.int ns.sum,H,I.kept λb o e=>hk b o e,?_,q⟩;refine⟨t',?_⟩;rw[preSum_eq,List.take_of_length_le (by simp),hn]
theorem zcG(K:W.Frag)(hc:X.calm=true)(e:X.K=K:=by rfl):wF X (.builtin "sum") (zhh K):=by subst e;exact zdV hc
def zcv(K:W.Frag):V->List V->Hp->VK->Prop:=λx vs H Q=>Ex6 λl xs y ts u j=>x=.ref l/\vs=[y]/\SqL K H l xs/\TrsAt K H ts xs/\TrAt K H u y/\xq ts<=8/\j<ts.length /\
 (∀t,ts[j]?=some t->teq t u=true)/\(∀m t,m<j->ts[m]?=some t->teq t u=false)/\Q (.int (j:Nat)) H
open Classical in
theorem zc6(hu:X.A.units+64<cLine):MtM X "list.index" (zcv X.K):=by
 intro pins s σ H x vs v us Q I rx rv h;obtain⟨l,xs,y,ts,u,j,rfl,rfl,hq,hts,ht,hd,hj,hit,hno,q⟩:=h;cases rx
 obtain⟨u0,rfl,ru⟩:=Vals.one rv;obtain⟨its,r,pl,hz⟩:=I.list hq;obtain⟨⟨cls,dd,data,sl⟩,ho,hc,n,hdat⟩:=id pl.isList;simp only at hc hdat;subst hc hdat;have l1:=hts.length;have m1:=r.length;have val:∀(m:Nat) (hm:m<its.length) (t:Tr),ts[m]?=some t->decide (∃t x,RelV x its[m]/\TrAt X.K H t x/\teq t u=true)=teq t u:=by
  intro m hm t et;obtain⟨z,ez,hz'⟩:=hts.get et;obtain⟨w,ew,rw'⟩:=r.get ez;have e':its[m]=w:=by
   rw[List.getElem?_eq_getElem hm]at ew;exact Option.some.inj ew
  rw[e',Bool.eq_iff_iff,decide_eq_true_iff];constructor
  ·rintro⟨t',x',r',h',e3⟩;rw[rw'.inj r']at hz';rw[V2 I 8 (Nat.le_trans (Z4 (List.mem_of_getElem? et)) hd) hz' h'];exact e3
  ·intro e3;exact⟨t,z,rw',hz',e3⟩
 have hjs:j<its.length:=by omega
 have hsl:(sizeLine:Int)<2^63-1:=by decide
 refine call_meets PySem.F.slot_list_index ⟨_,ho,rfl⟩ PySem.F.entry_list_index (PySem.F.args_list_index_2 _ _)
  (list_indexAt l its.toArray n dd sl u0 (λy=>decide (∃t x,RelV x y/\TrAt X.K H t x/\teq t u=true)) j (by simpa using hjs) (by omega) ?_ ?_) ⟨ho,VJ I hu ht ru hd hts r,?_⟩
 ·have q:=val j hjs _ (List.getElem?_eq_getElem hj);rw[hit _ (List.getElem?_eq_getElem hj)]at q;simpa using q
 ·intro m hm hlt;have hm':m<ts.length:=by omega
  have q:=val m (by omega) _ (List.getElem?_eq_getElem hm');rw[hno m _ hlt (List.getElem?_eq_getElem hm')]at q;simpa using q
 ·exact⟨.int (j:Nat),H,I.kept λb o e=>e,⟨_,rfl⟩,q⟩
theorem zem(K:W.Frag)(hu:X.A.units+64<cLine)(e:X.K=K:=by rfl):MtM X "list.index" (zcv K):=by subst e;exact zc6 hu
end
structure CScopeT (sc:Scope) (scope:Scope) (xs:List Str) (M:List Str) (ys:List Str) (js:List Nat):Prop where
 kind:scope.kind=.function:=by rfl
 cell:∀y∈scope.names,y.2≠.cell:=by decide +kernel
 loc:∀y∈scope.names,y.2=.local->scope.names.lookup y.1=some .local:=by decide +kernel
 var:∀x∈xs,scope.names.lookup x=some .local:=by decide +kernel
 free:∀y∈scope.names,y.2=.free->sc.names.lookup y.1=some .cell\/sc.names.lookup y.1=some .free:=by decide +kernel
 caps:js.map (M[·]?)=ys.map some:=by rfl
 fr:∀y∈ys,scope.names.lookup y=some .free:=by decide +kernel
 nd:(xs++ys).Nodup:=by decide +kernel
theorem CScope.nofree(kind:scope.kind=.function)(cell:∀y∈scope.names,y.2≠.cell)(loc:∀y∈scope.names,y.2=.local->scope.names.lookup y.1=some .local)(var:scope.names.lookup x=some .local)(free:∀y∈scope.names,y.2≠.free):CScope sc scope x M [] [] :=
 ⟨kind,cell,loc,var,λy hy e=>absurd e (free y hy),rfl,by simp,by simp⟩
section
variable {X:Cx} {elt iter:Expr} {ifs:List Expr} {tg:Expr} {xs:List Str} {pos:Pos} {g:TG} {scope:Scope} {ys:List Str} {js:List Nat} {wi:TI} {tt:TT} {te:TE}
theorem CScopeT.gn(S:CScopeT sc scope xs N ys js):zaE sc scope xs [] N ys js:=⟨S.kind,λy h e=>absurd e (S.cell y h),S.loc,S.free,S.caps,S.fr,S.nd,nofun,nofun,λ_ _=>Ux S.cell,λ_=>nofun⟩
theorem za0{py spos:Pos}(S:CScopeT X.env.scope scope xs X.N ys js)(hc:X.calm=true)(hN:X.N.Nodup)(hy:X.N[i]?=some y)(hl:Loc X.env.scope y)(hi:PI X tg iter wi)(hg:∀C s₀ H₀ ex,PG (cxC X (xs++ys) scope C s₀ H₀ ex) tg g)(ht:∀C s₀ H₀ ex,PTs (cxC X (xs++ys) scope C s₀ H₀ ex) ifs tt)(he:∀C s₀ H₀ ex,PE (cxC X (xs++ys) scope C s₀ H₀ ex) elt te)(hf:X.fn y=true\/X.env.scope.names.lookup y=some .local:=by first | exact .inl rfl | exact .inr rfl | assumption)(hsw:swapsWith (.ListComp elt [⟨tg,iter,ifs,0⟩] scope pos) (some (.Name y py)) spos.line X.env=pure true:=by rfl)(hs:∀x,foldedSetIterable iter X.env x=pure x:=by intro _;rfl):PS X (.Assign [.Name y py] (.ListComp elt [⟨tg,iter,ifs,0⟩] scope pos) spos) (Qp (zgI wi xs js g tt te) (ZV i)):=Yh (λ_ _ _ _ h=>h) S.gn hc hN hy hl hi hg ht he hf hsw hs
end
theorem zgX(K:W.Frag){k:Nat}{pos:Pos}(n:Nat)(hc:X.calm=true)(h:PGs X es t)(e:X.K=K:=by rfl)(hn:(assignEach es X.env).length=n:=by rfl)(hst:(assignEach es X.env).findIdx? (·.1)=none:=by rfl):PG X (.Tuple es k pos) (zhP K n t):=by subst e;exact XC hc h hn hst
theorem wX(K:W.Frag){pos:Pos}(he:PE X e ta)(hb:attributeBase e f X.env (eval e X.env)=eval e X.env:=by rfl)(ek:X.K=K:=by rfl):PE X (.Attribute e f pos) (zhO K ta f):=by subst ek;exact zgt he hb
structure Mt (K:W.Frag) (C:Addr) (q x:Str) (st:Stmt) (ps:List Str) (f:Addr) (fd:FuncData):Prop where
 fn:Fun K x q st f fd
 b:Binds K fd ps []
 m:Meth K C x f
theorem Xc{st:Stmt}{apos pos:Pos}{pl:Sem Bool}(D:Mt X.K C q x st ps f fd)(c:Cls X.K C)(G:FnOk X.prog X.w X.K X.mg X.base CX0 k f fd ps sp)(hr:Room k X.A)(he:PE X o ta)(ha:PA X (e::es) t)(hst:starEach (e::es) X.env=(false,eval e X.env)::starEach es X.env:=by rfl)(hpl:(backTo pos (starEach es X.env)).any (·.1)=false:=by rfl)(ht:eval (.Call (.Attribute o x apos) (e::es) [] pos) X.env=(do
   let ov <-eval o X.env
   standAt apos.atName
   let (f,first) <-holding [ov] (getMethod ov x pl)
   callWith pos f first (backTo pos (starEach (e::es) X.env)) (backToKw pos (keywordEach [] X.env))):=by rfl):PE X (.Call (.Attribute o x apos) (e::es) [] pos) (zcN C x sp [] E0 ta t):=
 zfX he c D.m G hr D.b .nil Vj ha hst hpl ht
theorem zep{st:Stmt}(D:Mt X.K C q x st ps f fd)(c:Cls X.K C)(G:FnOk X.prog X.w X.K X.mg X.base CX0 k f fd ps sp)(hr:Room k X.A)(he:PE X o ta)(ht:eval (.Call (.Attribute o x apos) [] [] pos) X.env=(do
   let ov <-eval o X.env
   standAt apos.atName
   let (f,first) <-holding [ov] (getMethod ov x pl)
   callWith pos f first (backTo pos (starEach [] X.env)) (backToKw pos (keywordEach [] X.env))):=by rfl):PE X (.Call (.Attribute o x apos) [] [] pos) (zcN C x sp [] E0 ta W0):=
 zer he c D.m G hr D.b .nil Vj ht
structure Qt (mg:Str->Option Value):Prop where
 n_sum:mg "sum"= none
 n_abs:mg "abs"= none
 n_zip:mg "zip"= none
 n_str:mg "str"= none
section
variable {X:Cx} {tg:Expr}
end
theorem Inv.turned2{σ:St}{e it T:Addr}(I:Inv X pins σ H s)(k:∀b o,b≠e->b≠it->s.heap.get? b=some o->h'.get? b=some o)(fe:W7 X pins H e)(fi:W7 X pins H it)(hT:s.heap.objs.size<=T)(new:ObjOk X.prog X.w (upd H T o) h' T o):Inv X pins σ (upd H T o) { s with heap:=h',toks:=t' }:=by
 have hn:=I.hok.fresh hT;have na:∀b u,H b=some u->b≠T:=λb u e z=>by rw[z,hn]at e;cases e
 have ne:∀b u,H b=some u->b≠e:=λb u q z=>by rw[z,fe.1]at q;cases q
 have ni:∀b u,H b=some u->b≠it:=λb u q z=>by rw[z,fi.1]at q;cases q
 have k':∀b o,b∉[e,it]->s.heap.get? b=some o->h'.get? b=some o:=λb o hb q=>k b o (λz=>hb (by simp[z])) (λz=>hb (by simp[z])) q;refine I.step (λb hb=>?_) (λb o _ _ hc q _=>k' b o hc q) (λb o _ _ hc q _=>⟨o.slots,k' b o hc q⟩) (λb o hc q n=>by rw[zr (Nat.ne_of_lt (Nat.lt_of_lt_of_le (Heap.lt_size q) hT))];exact n)
  (λb o hc q=>⟨o,k' b o hc q⟩) (λb xs q=>by rw[zr (na b _ q)];exact q) (λb o u q=>by rw[zr (na b _ q)];exact q) (λb ps q=>⟨#[],by rw[zr (na b _ q),q];simp⟩) (λm hm=>?_) (λb u q=>?_) I.bare
 ·rcases List.mem_cons.mp hb with z | hb
  ·subst z;exact⟨fe.2.2.2.1,fe.2.1,fe.2.2.2.2.1,fe.2.2.2.2.2⟩
  ·have z:b=it:=by simpa using hb
   subst z;exact⟨fi.2.2.2.1,fi.2.1,fi.2.2.2.2.1,fi.2.2.2.2.2⟩
 ·obtain⟨o,es,ep,ho,r⟩:=hm;exact⟨o,es,ep,k _ o (Ne.symm fe.2.1) (Ne.symm fi.2.1) ho,r⟩
 ·by_cases hb:b=T
  ·subst hb;rw[zg]at q;cases q
   exact new
  ·rw[zr hb]at q;refine (I.hok b u q).stay (λc v hc z=>k c v ?_ ?_ z) (λc z=>by rw[zr (na c _ z)];exact z) λc xs z=>by rw[zr (na c _ z)];exact z
   ·rcases hc with rfl | hc
    ·exact ne _ _ q
    ·exact ne _ _ hc
   ·rcases hc with rfl | hc
    ·exact ni _ _ q
    ·exact ni _ _ hc
def Ite(K:W.Frag)(a:Addr):It :=
 ⟨λi H=>∃xs x,SqL K H a xs/\xs[i]?=some x,λi H v H'=>∃T x,v=.ref T/\H T=none/\H'=upd H T (.tup [.int (i:Nat),x])/\∀xs,SqL K H a xs->xs[i]?=some x,λi H=>∃xs,SqL K H a xs/\xs.length<=i⟩
theorem zdl{P:Program}{w:World}{K:W.Frag}{elts:List Expr}{k:Nat}{tp:Pos}(a e it:Addr)(hei:e≠it):Turn P w K (.Tuple elts k tp) (Ite K a) [e,it] e (λi h=>(∃old,IsEnum h e it i old)/\h.IsListIter it a i) where
 mem:=by simp
 obj:=λi h st b hb=>by
  obtain⟨⟨old,he⟩,o,hi,c,d⟩:=st;rcases List.mem_cons.mp hb with z | hb
  ·subst z;exact⟨_,he,λv z=>by
    have z':=z;cases z'⟩
  ·have z:b=it:=by simpa using hb
   subst z;exact⟨o,hi,λv z=>by rw[d]at z;cases z⟩
 keep:=λi h h' st k=>by
  obtain⟨⟨old,he⟩,hi⟩:=st;exact⟨⟨old,k e (by simp) _ he⟩,hi.at λo q=>k it (by simp) o q⟩
 item:=by
  intro X hP hw hK hc i pins s σ H E I hf st hg;subst hP hw hK;obtain⟨xs,x,hq,hx⟩:=hg;obtain⟨its,rv,p,hz⟩:=I.list hq;obtain⟨u,hu,ru⟩:=rv.get hx;obtain⟨⟨old,he⟩,hi⟩:=st;refine wpAny_pyNext_enum_item he hi p.isList (by simpa using hu) hei λh' ho hi' hT hsz hk=>?_;refine⟨_,rfl,?_⟩;refine wpAny_letOwnedTupleGo_enum ho λh'' he' hs'=>?_;have helt:=Heap.lt_size he;have hT2:=(hs'.2 _ (Nat.ne_of_gt helt)).trans hT;have fe:=hf e (by simp);have fi:=hf it (by simp);have I1:Inv X pins σ (upd H s.heap.objs.size (.tup [.int i,x])) { s with heap:=h'',toks:=s.toks+1 }:=by
   refine I.turned2 (λb o hb1 hb2 q=>(hs'.2 b hb1).trans (hk b o hb1 hb2 q)) fe fi (Nat.le_refl _) ⟨by show 2<=sizeLine;decide,[.int i s.toks,u],.cons ⟨_,rfl⟩ (.cons ru .nil),_,hT2,rfl,0,rfl⟩
  refine⟨.ref s.heap.objs.size,_,I1,rfl,⟨s.heap.objs.size,x,rfl,I.hok.fresh (Nat.le_refl _),rfl,λys hy=>by rw[I.list_inj hy hq];exact hx⟩,⟨⟨_,by simpa using he'⟩,hi'.at λo q=>(hs'.2 it (Ne.symm hei)).trans q⟩,λb hb=>?_⟩;have hbl:b<s.heap.objs.size:=by
   rcases List.mem_cons.mp hb with z | hb
   ·rw[z];exact helt
   ·have z:b=it:=by simpa using hb
    obtain⟨o,q,_⟩:=hi;rw[z];exact Heap.lt_size q
  rw[zr (Nat.ne_of_lt hbl)];exact (hf b hb).1
 done:=by
  intro X hP hw hK hc i pins s σ H E I hf st hg;subst hP hw hK;obtain⟨xs,hq,hx⟩:=hg;obtain⟨its,rv,p,hz⟩:=I.list hq;obtain⟨⟨old,he⟩,hi⟩:=st;obtain⟨f0,f1,f2,f3,f4,f5⟩:=hf it (by simp);have hl:=rv.length;exact wpAny_pyNext_enum_end (I.ok.hd hc) he hi p.isList (by simp;omega) λh' eb=>⟨rfl,I.turned (λb o hb q=>eb b o hb q) f0 f1 f3 f4 f5⟩
 self:=λ_ _ _ _ _ st h=>by
  obtain⟨⟨old,he⟩,_⟩:=st;exact wpAny_pyIter_enum he h
section
variable {X:Cx}
def zho(K:W.Frag)(tl:TA):TI:=fun σ H R=>tl σ H λvs H1=>∃a,vs=[.ref a]/\(∃xs,SqL K H1 a xs)/\R (Ite K a) H1
theorem zf6(K:W.Frag){elts:List Expr}{k:Nat}{tp:Pos}{p pos:Pos}(hg:Gl X "enumerate")(hm:X.mg "enumerate"= none)(ha:PA X [a] ta)(hs:starEach [a] X.env=[(false,eval a X.env)]:=by rfl)(ek:X.K=K:=by rfl):
  PI X (.Tuple elts k tp) (.Call (.Name "enumerate" p) [a] [] pos) (zho K ta):=by
 subst ek;intro pins s σ H R I h;refine Call_ (jD I hg hm boot_enumerate (PyProof.Rows.callWith_type1 (thn (ha pos pins s σ H _ I h) λus s1 ⟨vs,H1,I1,r1,q1⟩=>?_) (by rw[hs];rfl) (by rfl)));obtain⟨l,e,⟨xs,hq⟩,q⟩:=q1;subst e;cases r1 with
 |cons r rr=>
  cases rr;cases r
  obtain⟨its,rv,pl,hz⟩:=I1.list hq;refine call_enumerate_list pl.isList λh' he hi hsz hk=>?_;refine wpAny_pyIter_enum he ?_;have I2:=I1.kept (t':=s1.toks) λb o q=>hk b o q;refine⟨s1.heap.objs.size+1,[s1.heap.objs.size+1,s1.heap.objs.size],_,_,H1,rfl,I2,zdl l _ _ (Nat.succ_ne_self _),⟨⟨_,he⟩,hi⟩,λb hb=>?_,q⟩;have hb2:s1.heap.objs.size<=b:=by
   rcases List.mem_cons.mp hb with z | hb
   ·rw[z];exact Nat.le_succ _
   ·have z:b=s1.heap.objs.size:=by simpa using hb
    rw[z];exact Nat.le_refl _
  exact I1.fpOk hb2 (I1.hok.fresh hb2)
theorem zef{K:W.Frag}{g:TG}{tb:TS}{D:Ends}(Pv:Nat->St->Hp->Prop)(h0:Pv 0 σ H)(hl:∀i σ H,i<=xs.length->Pv i σ H->SqL K H a xs)(hs:∀i x σ H T,xs[i]?=some x->Pv i σ H->H T=none->g (.ref T) σ (upd H T (.tup [.int (i:Nat),x])) fun σ2 H2=>tb { D with nx:=Pv (i+1),ct:=Pv (i+1),bk:=D.nx } σ2 H2)(hd:∀σ H,Pv xs.length σ H->D.nx σ H):
  ∃W:Nat->Nat->St->Hp->Prop,(∃m,W 0 m σ H)/\∀i m σ H,W i m σ H ->
   ((Ite K a).stop i H/\D.nx σ H)\/((Ite K a).go i H/\∃N:St->Hp->Prop,(∀σ' H',N σ' H'->∃m',m'<m/\W (i+1) m' σ' H')/\∀x H',(Ite K a).yld i H x H'->g x σ H' fun σ2 H2=>tb { D with nx:=N,ct:=N,bk:=D.nx } σ2 H2):=by
 refine⟨λi m σ H=>m=xs.length-i/\i<=xs.length/\Pv i σ H,⟨xs.length,by simp,Nat.zero_le _,h0⟩,?_⟩;rintro i m σ H ⟨rfl,hi,p⟩;have q:=hl i σ H hi p;by_cases hlt:i<xs.length
 ·have hx:=List.getElem?_eq_getElem hlt;refine .inr ⟨⟨xs,xs[i],q,hx⟩,Pv (i+1),fun σ' H' p'=>⟨xs.length-(i+1),by omega,rfl,hlt,p'⟩,λv H' y=>?_⟩;obtain⟨T,x,rfl,hT,rfl,hy⟩:=y;have e2:=hy xs q;rw[hx]at e2;cases e2
  exact hs i xs[i] σ H T hx p hT
 ·have e:i=xs.length:=by omega
  subst e;exact .inl ⟨⟨xs,q,Nat.le_refl _⟩,hd σ H p⟩
end
def cxD(X:Cx)(x:Str)(N:List Str)(scope:Scope)(C:Addr)(s₀:Shared)(H₀:Hp)(ex:List Addr):Cx:=cxG X [x] N scope C s₀ H₀ ex
structure CScopeD (sc:Scope) (scope:Scope) (x:Str) (M:List Str) (ys:List Str) (js:List Nat):Prop where
 kind:scope.kind=.function
 cell:∀y∈scope.names,y.2=.cell->y.1=x
 loc:∀y∈scope.names,y.2=.local->scope.names.lookup y.1=some .local
 var:scope.names.lookup x=some .cell
 free:∀y∈scope.names,y.2=.free->sc.names.lookup y.1=some .cell\/sc.names.lookup y.1=some .free
 caps:js.map (M[·]?)=ys.map some
 fr:∀y∈ys,scope.names.lookup y=some .free
 nd:(x::ys).Nodup
 own:∀n acc,cellsFrom n scope.names acc=(x,n)::acc
 psh:∀h:Heap,pushCells h scope.names=h.push { cls:=.type "cell",data:=.cell none }
theorem vD{env:Env}:∀{names:List (Str×NameKind)} {x:Str},names.lookup x=some .cell ->
  (names.map λ(n,k)=>if (k == NameKind.free && env.scope.kind == .function && env.kindOf n == some .cell) then (n,NameKind.cell) else (n,k)).lookup x=some .cell
 |[],_,h=>by simp at h
 | (n,k)::r,x,h=>by
  have ih:=@vD env r x;rw[List.map_cons];have e:∀b:Bool,(if b=true then (n,NameKind.cell) else (n,k)).1=n:=λb=>by cases b<;>rfl
  generalize hb:(k == NameKind.free && env.scope.kind == .function && env.kindOf n == some .cell)=b;simp only[hb];rw[List.lookup_cons]at h;cases hx:x == n with
  |true=>
   rw[hx]at h;have hk:=Option.some.inj h;cases b<;>simp[List.lookup_cons,hx,hk]
  |false=>
   rw[hx]at h;cases b<;>(simp only[if_true,Bool.false_eq_true,if_false,List.lookup_cons,hx];exact ih h)
section
variable {X:Cx} {elt iter:Expr} {ifs:List Expr} {x:Str} {px pos:Pos} {scope:Scope} {ys:List Str} {js:List Nat} {wi:TI} {tt:TT} {te:TE}
theorem CScopeD.gn(S:CScopeD sc scope x N ys js):zaE sc scope [x] [x] N ys js:=⟨S.kind,λy h e=>by rw[S.cell y h e];exact List.mem_cons_self,S.loc,S.free,S.caps,S.fr,S.nd,λy hy z hz=>by rw[List.mem_singleton.mp hy,List.mem_singleton.mp hz],λ_ h=>h,S.own,λh _ _=>by rw[S.psh];exact Heap.get?_push_size _ rfl⟩
theorem za3{py spos:Pos}(S:CScopeD X.env.scope scope x X.N ys js)(hc:X.calm=true)(hN:X.N.Nodup)(hy:X.N[i]?=some y)(hl:Loc X.env.scope y)(hi:PI X (.Name x px) iter wi)(ht:∀C s₀ H₀ ex,PTs (cxD X x (x::ys) scope C s₀ H₀ ex) ifs tt)(he:∀C s₀ H₀ ex,PE (cxD X x (x::ys) scope C s₀ H₀ ex) elt te)(hf:X.fn y=true\/X.env.scope.names.lookup y=some .local:=by first | exact .inl rfl | exact .inr rfl | assumption)(hsw:swapsWith (.ListComp elt [⟨.Name x px,iter,ifs,0⟩] scope pos) (some (.Name y py)) spos.line X.env=pure true:=by rfl)(hs:∀x,foldedSetIterable iter X.env x=pure x:=by intro _;rfl):PS X (.Assign [.Name y py] (.ListComp elt [⟨.Name x px,iter,ifs,0⟩] scope pos) spos) (Qp (ze4 wi js tt te) (ZV i)):=
 Yh (λ_ _ _ _ h=>h.t) S.gn hc hN hy hl hi (λ_ _ _ _=>yh S.nd rfl (.inr (vD S.var)) (.inl (List.elem_iff.mpr List.mem_cons_self))) ht he hf hsw hs
end
theorem tU{env:Env}:∀{names:List (Str×NameKind)} {x:Str},names.lookup x=some .free ->
  (names.map λ(n,k)=>if (k == NameKind.free && env.scope.kind == .function && env.kindOf n == some .cell) then (n,NameKind.cell) else (n,k)).lookup x=some .cell\/(names.map λ(n,k)=>if (k == NameKind.free && env.scope.kind == .function && env.kindOf n == some .cell) then (n,NameKind.cell) else (n,k)).lookup x=some .free
 |[],_,h=>by simp at h
 | (n,k)::r,x,h=>by
  have ih:=@tU env r x;rw[List.map_cons];generalize hb:(k == NameKind.free && env.scope.kind == .function && env.kindOf n == some .cell)=b;simp only[hb];rw[List.lookup_cons]at h;cases hx:x == n with
  |true=>
   rw[hx]at h;have hk:=Option.some.inj h;cases b<;>simp[List.lookup_cons,hx,hk]
  |false=>
   rw[hx]at h;cases b<;>(simp only[if_true,Bool.false_eq_true,if_false,List.lookup_cons,hx];exact ih h)
theorem CScope.re(S:CScope sc scope x M ys js):CScope (relabel sc env) scope x M ys js :=
 ⟨S.kind,S.cell,S.loc,S.var,λy hy e=>(S.free y hy e).elim (λz=>.inl (vD z)) λz=>tU z,S.caps,S.fr,S.nd⟩
def zhU(t:TS):TS:=λD σ H=>∃P:St->Hp->Prop,t { D with nx:=P } σ H/\∀σ' H',P σ' H'->D.nx σ' H'
theorem zeR{st:Stmt}(h:PS X st t):PS X st (zhU t):=by
 intro pins s σ H D I hw;obtain⟨P,h1,h2⟩:=hw;refine thn (h pins s σ H _ I h1) λf s1 q=>?_;cases f with
 |next=>obtain⟨σ',H',I',q⟩:=q;exact⟨σ',H',I',h2 _ _ q⟩
 |ret v=>exact q
 |brk=>exact q
 |cont=>exact q
theorem zcj{j}(h:PA X es t):PA X (.Constant (.str x) j pos::es) (j8 (tC (.str x)) t):=zf qC h rfl
theorem zf9(hN:X.N.Nodup)(hi:X.N[i]?=some x)(hx:Loc X.env.scope x)(h:PA X es t)(hf:X.fn x=true\/X.env.scope.names.lookup x=some .local:=by first | exact .inl rfl | exact .inr rfl | assumption):
  PS X (.Assign [.Name x pos'] (.List es lp) pos) (Qp (zc1 t) (ZV i)):=zG hN hi hx (yc h) rfl hf
theorem zfs(xs:List V)(m:Nat):uh xs none (some (m:Int))=xs.take m:=by
 unfold uh;rw[HT.Ws,HT.Uw,List.drop_zero,Nat.sub_zero];by_cases h:m<=xs.length
 ·rw[Nat.min_eq_left h]
 ·rw[Nat.min_eq_right (by omega),List.take_of_length_le (Nat.le_refl _),List.take_of_length_le (by omega)]
def zfo(n:Addr->Prop)(h:Heap)(e:Addr)(c:Value):Prop :=
 ∃oe oT vs ts a0 T,h.get? e=some oe/\oe.cls=c/\oe.data=.fields vs/\vs[0]?=some a0/\vs[1]?=some (.ref T)/\n T/\T≠e/\h.get? T=some oT/\oT.data=.fields ts/\ts[3]?=some .none
def CX1(P:Program)(w:World):CXT:=λouter H s E e s'=>
 ∃ea c H',e=.ref ea/\s'.os=s.os/\AllBare s'.gens/\Un (frs outer) [] H H' s.heap s'.heap/\HOk P w H' s'.heap/\s.heap.get? ea=none/\H' ea=none /\
  zfo (λT=>s.heap.get? T=none/\H' T=none) s'.heap ea c/\E c none H'
def zgm(X:Cx)(Ex:St->XK):Prop:=∀(pins:List (Addr×Obj)) (σ:St) (H:Hp) (s:Shared) (h':Heap) (ea:Addr) (c:Value) (vs:List Value),Inv X pins σ H s->Heap.MadeExcOf s.heap h' ea c vs->Ex σ c none H->X.xe (.ref ea) { s with heap:=h' }
def zbq(X:Cx)(Ex:St->XK):Prop:=∀(pins:List (Addr×Obj)) (σ:St) (H:Hp) (s:Shared) (e:Value) (s':Shared),Inv X pins σ H s->CX1 X.prog X.w X.stack H s (Ex σ) e s'->X.xe e s'
theorem FnOk.up{K:W.Frag}(F:FnOk P w K mg base CX0 k f fd ps sp):FnOk P w K mg base CX k f fd ps sp :=
 ⟨F.len,λA outer s H args us vs Q E hr e0 hb hv hs=>codeAny_mono (F.run A outer s H args us vs Q E hr e0 hb hv hs) λr s' q=>by
  cases r with
  |error e=>exact False.elim q
  |ok fl=>cases fl<;>exact q⟩
theorem ObjOk.thereO(x:ObjOk P w H h a o):∃u,h.get? a=some u:=by
 cases o with
 |lst xs=>obtain⟨_,_,_,_,e⟩:=x;exact⟨_,e⟩
 |tup xs=>obtain⟨_,_,_,o,e,_⟩:=x;exact⟨_,e⟩
 |dK kvs=>obtain⟨_,_,_,_,o,_,_,e,_⟩:=x;exact⟨_,e⟩
 |dT kvs=>obtain⟨_,_,_,_,o,_,_,e,_⟩:=x;exact⟨_,e⟩
 |set S n=>obtain⟨o,_,_,_,e,_⟩:=x;exact⟨_,e⟩
 |ins C dx fs=>obtain⟨_,_,_,e,_⟩:=x;exact⟨_,e⟩
 |own y=>exact x
 |xd fs=>obtain⟨_,⟨_,_,_,e,_⟩,_⟩:=x;exact⟨_,e⟩
 |rng lo hi=>obtain⟨_,_,_,e⟩:=x;exact⟨_,e⟩
 |frz ob u=>obtain⟨e,_⟩:=x;exact⟨_,e⟩
 |tbl ps=>exact⟨_,(show h.get? a=some _ from x)⟩
 |met f y=>exact⟨_,(show h.get? a=some _ from x)⟩
 |ext φ=>obtain⟨_,e,_⟩:=x;exact e
theorem HOk.off(x:HOk P w H h)(e:h.get? a=none):H a=none:=by
 cases q:H a with
 |none=>rfl
 |some o=>obtain⟨u,z⟩:=(x a o q).thereO;rw[e]at z;cases z
section
variable {X:Cx} {pins:List (Addr×Obj)} {σ:St} {H H':Hp} {s s':Shared} {h' B:Heap} {ea:Addr} {c a0:Value}
def U5(X:Cx)(H':Hp)(s s':Shared)(B:Heap):Prop:=∀b o,s'.heap.get? b=some o->((∃u,s.heap.get? b=some u)\/H' b≠none)->b∉frs X.stack->B.get? b=some o
theorem zaL(I:Inv X pins σ H s)(un:Un (frs X.stack) [] H H' s.heap s'.heap):∀b∈frs X.stack,H' b=none:=λb hb=>by
 obtain⟨_,o,ho,_⟩:=I.stack.mem hb;exact un.free b o ho (I.stkFree b hb) (by simp)
theorem zbT(I:Inv X pins σ H s)(un:Un (frs X.stack) [] H H' s.heap s'.heap)(hok:HOk X.prog X.w H' s'.heap)(hB:U5 X H' s s' B)(st:B.StaysIn h')(up:s'.heap.UpToSlots h'):
  Un (frs X.stack) [] H H' s.heap h'/\HOk X.prog X.w H' h':=by
 have fr:=zaL I un;have sl:∀b o,s.heap.get? b=some o->b∈frs X.stack->∃q,h'.get? b=some { o with slots:=q }:=λb o e hb=>by
  obtain⟨_,o2,ho,hd⟩:=I.stack.mem hb;rw[e]at ho;cases ho
  obtain⟨q,e1⟩:=un.slot b o e (I.stkFree b hb) hb (by simp);obtain⟨q2,e2⟩:=up b _ e1 hd;exact⟨q2,e2⟩
 refine⟨⟨λb o e n hb _=>?_,λb o e _ hb _=>sl b o e hb,λb o e n _=>un.free b o e n (by simp),λb o e _=>?_,un.tups,un.frzs,un.tbls⟩,λa o e=>?_⟩
 ·exact st b o (hB b o (un.keep b o e n hb (by simp)) (.inl ⟨o,e⟩) hb)
 ·by_cases hb:b∈frs X.stack
  ·obtain⟨q,e1⟩:=sl b o e hb;exact⟨_,e1⟩
  ·obtain⟨o1,e1⟩:=un.there b o e (by simp);exact⟨o1,st b o1 (hB b o1 e1 (.inl ⟨o,e⟩) hb)⟩
 ·refine (hok a o e).stay (λb u hc q=>?_) (λ_ q=>q) λ_ _ q=>q;have nb:H' b≠none:=by
   rcases hc with z | z
   ·rw[z,e];intro z2;cases z2
   ·rw[z];intro z2;cases z2
  exact st b u (hB b u q (.inr nb) λhb=>nb (fr b hb))
theorem zhF(I:Inv X pins σ H s)(un:Un (frs X.stack) [] H H' s.heap s'.heap)(hok:HOk X.prog X.w H' s'.heap)(hB:U5 X H' s s' B)(st:B.StaysIn h')(up:s'.heap.UpToSlots h')(t:h'.TracedW B ea c a0):
  zfo (λT=>s.heap.get? T=none/\H' T=none) h' ea c:=by
 obtain⟨oe,vs,T,oT,ts,he,⟨hc,h0⟩,hd,h1,hnT,hTe,hT,hdT,h3⟩:=t;have nF:T∉frs X.stack:=λhb=>by
  obtain⟨_,o,ho,hd⟩:=I.stack.mem hb;obtain⟨q,e1⟩:=un.slot T o ho (I.stkFree T hb) hb (by simp);obtain⟨q2,e2⟩:=up T _ e1 hd;rw[hT]at e2;cases e2
  exact hd _ hdT
 refine⟨oe,oT,vs,ts,a0,T,he,hc,hd,h0,h1,⟨?_,?_⟩,hTe,hT,hdT,h3⟩
 ·cases q:s.heap.get? T with
  |none=>rfl
  |some o=>
   obtain⟨o1,e1⟩:=un.there T o q (by simp);have:=hB T o1 e1 (.inl ⟨o,q⟩) nF;rw[hnT]at this;cases this
 ·cases q:H' T with
  |none=>rfl
  |some o=>
   obtain⟨o1,e1⟩:=(hok T o q).thereO;have:=hB T o1 e1 (.inr (by rw[q];intro z;cases z)) nF;rw[hnT]at this;cases this
theorem zcu(I:Inv X pins σ H s)(hx:X.ex=[])(os:s'.os=s.os)(bare:AllBare s'.gens)(un:Un (frs X.stack) [] H H' s.heap s'.heap)(hok:HOk X.prog X.w H' s'.heap)(n0:s.heap.get? ea=none)(n1:H' ea=none)(hB:U5 X H' s s' B)(st:B.StaysIn h')(t:h'.TracedW B ea c a0)(up:s'.heap.UpToSlots h')(hE:E c none H'):CX1 X.prog X.w X.outer X.H₀ X.s₀ E (.ref ea) { s' with heap:=h' }:=by
 obtain⟨u1,k1⟩:=zbT I un hok hB st up;have J:Inv X pins σ H' { s' with heap:=h' }:=I.call' os u1 k1 bare λb z=>absurd z (by simp);have off:∀b,s.heap.get? b=none->X.s₀.heap.get? b=none:=λb e=>by
  cases q:X.s₀.heap.get? b with
  |none=>rfl
  |some o=>
   obtain⟨o1,e1⟩:=I.base.there b o q (by rw[hx];simp);rw[e]at e1;cases e1
 have ub:=J.base;rw[hx]at ub;obtain⟨oe,oT,vs,ts,a1,T,he,hc,hd,h0,h1,⟨hn,hm⟩,r⟩:=zhF I un hok hB st up t;exact⟨ea,c,H',rfl,J.os,J.bare,ub,k1,off ea n0,n1,⟨oe,oT,vs,ts,a1,T,he,hc,hd,h0,h1,⟨off T hn,hm⟩,r⟩,hE⟩
theorem zbE(n0:s.heap.get? ea=none)(n1:H' ea=none)(nT:∀T∈Ts,s.heap.get? T=none/\H' T=none):U5 X H' s s' (W.hideAll s'.heap (ea::(Ts++frs X.stack))):=λb o e hb hf=>by
 refine W.hideAll_get _ e λhm=>?_;have bad:∀a,s.heap.get? a=none->H' a=none->b≠a:=λa h1 h2 z=>by
  subst z;rcases hb with ⟨u,q⟩ | q
  ·rw[h1]at q;cases q
  ·exact q h2
 rcases List.mem_cons.mp hm with z | hm
 ·exact bad ea n0 n1 z
 ·rcases List.mem_append.mp hm with z | z
  ·exact bad b (nT b z).1 (nT b z).2 rfl
  ·exact hf z
theorem Qa(I:Inv X pins σ H s)(os:s'.os=s.os)(bare:AllBare s'.gens)(un:Un (frs X.stack) [] H H' s.heap s'.heap)(hok:HOk X.prog X.w H' s'.heap)(ha:∀b∈frs X.stack,b∈as):s'.heap.FunFrames (W.hideAll s'.heap as) X.stack:=by
 have J:=I.call' os un hok bare λb z=>absurd z (by simp);exact W.funFrames_hide J.stack λenv he b hb=>ha b (List.mem_filterMap.mpr ⟨env,he,hb⟩)
theorem zcI(I:Inv X pins σ H s)(os:s'.os=s.os)(bare:AllBare s'.gens)(un:Un (frs X.stack) [] H H' s.heap s'.heap)(hok:HOk X.prog X.w H' s'.heap)(n0:s.heap.get? ea=none)(n1:H' ea=none)(t:zfo (λT=>s.heap.get? T=none/\H' T=none) s'.heap ea c):∃B a0,U5 X H' s s' B/\Heap.FlyingW B X.stack ea c a0 s'.heap:=by
 obtain⟨oe,oT,vs,ts,a0,T,he,hc,hd,h0,h1,⟨hn,hm⟩,hTe,hT,hdT,h3⟩:=t;refine⟨W.hideAll s'.heap (ea::([T]++frs X.stack)),a0,zbE n0 n1 (λb hb=>by rw[List.mem_singleton.mp hb];exact⟨hn,hm⟩),λb o q=>W.of_hideAll _ q,W.hideAll_none _ (by simp),Qa I os bare un hok (by intro b hb;simp[hb]),?_⟩;exact⟨oe,vs,T,oT,ts,he,⟨hc,h0⟩,hd,h1,W.hideAll_none _ (by simp),hTe,hT,hdT,h3⟩
end
theorem jZ{K:W.Frag}:
  zbq (YD (CX1 P w) P w K mg base N qual scope f cd A outer s₀ H₀ E) λ_=>E:=by
 intro pins σ H s e s' I hcx;obtain⟨ea,c,H',rfl,os,bare,un,hok,n0,n1,t,hE⟩:=hcx;obtain⟨B,a0,hB,fl⟩:=zcI I os bare un hok n0 n1 t;refine wpAny_leaves_onW I.ok.frames rfl fl λh2 fl2 up=>?_;exact zcu I rfl os bare un hok n0 n1 hB fl2.1 fl2.2.2.2 up hE
theorem jV{K:W.Frag}:
  zgm (YD (CX1 P w) P w K mg base N qual scope f cd A outer s₀ H₀ E) λ_=>E:=by
 intro pins σ H s h' ea c vs I hm hE;refine wpAny_leaves_madeW I.ok.frames rfl (λb o q=>W.of_hideAll _ q)
  (Qa I rfl I.bare Un.refl I.hok λb hb=>hb) hm λh2 t fl _ _ up=>?_
 refine zcu I rfl rfl I.bare (Un.kept hm.keeps) (I.hok.kept hm.keeps) hm.new (I.hok.off hm.new) (λb o e hb hf=>?_) fl.1 fl.2.2.2 up hE;refine W.hideAll_get _ ?_ hf;rcases hb with ⟨u,q⟩ | q
 ·have z:=hm.keeps b u q;rw[show h'.get? b=some o from e]at z;cases z;exact q
 ·cases r:H b with
  |none=>exact absurd r q
  |some x=>
   obtain⟨u,q⟩:=(I.hok b x r).thereO;have z:=hm.keeps b u q;rw[show h'.get? b=some o from e]at z;cases z;exact q
abbrev veT:List Value:=[.type "ValueError",.type "Exception",.type "BaseException",.type "object"]
structure VF (K:W.Frag) (mg:Str->Option Value) (x:Str) (C:Addr):Prop where
 g:mg x=some (.ref C)
 ok:W.excIn K C veT "ValueError.__new__"= true
theorem zfW{K:W.Frag}(X:K.In h)(q:W.excIn K C bmB newId=true):
  ∃bm bs N nm qn hd ab sn sub col dd k0 k1 k2 k3 k5 mN,
   h.get? C=some (excClassObj nm qn C N bs bm hd sn sub ab col dd k0 k1 k2 k3 k5 newId)/\h.Ns N mN/\mN "__init__"= none/\OwnTail h bmB bm:=by
 unfold W.excIn at q;split at q
 ·rename_i dd cd sl e
  split at q
  ·rename_i C2 bm k0 k1 k2 k3 n k5 hm hs
   rw[Bool.and_eq_true,Bool.and_eq_true,Bool.and_eq_true,Bool.and_eq_true,Bool.and_eq_true]at q;have z1:=eq_of_beq q.1.1.1.1.1;have z2:=eq_of_beq q.1.1.1.1.2;have z3:cd.hasDel=false:=by simpa using q.1.1.1.2
   cases cd with
   |mk nm bs mro ns qn hd sn sub ab col del=>
    cases sl with
    |mk l=>
     have hs':=hs;have hm':=hm;have z3':=z3;subst hs' hm' z3' z1 z2;exact⟨bm,bs,ns,nm,qn,hd,ab,sn,sub,col,dd,k0,k1,k2,k3,k5,_,X _ _ e,Heap.Ns.of_isNs (W.isNs_of_in X q.1.2),W.nsMap_none_of_in X q.1.2 (eq_of_beq q.2),W.tail_of_in X q.1.1.2⟩
  ·cases q
 ·cases q
def zgC(c:Value)(Ex:St->XK)(t:TA):TS:=λ_ σ H=>t σ H λvs H1=>vs.length<=sizeLine/\Ex σ c none H1
theorem j5{np cpos pos:Pos}(O:VF X.K X.mg x C)(hx:zgm X Ex)(hc:X.calm=true)(ha:PA X (e::es) t)(hg:Gl X x:=by rfl)(hdb:(x == ("__debug__" : Str))=false:=by decide)(he:starEach (e::es) X.env=(false,eval e X.env)::starEach es X.env:=by rfl)(hpl:(backTo cpos (starEach (e::es) X.env)).any (·.1)=false:=by rfl):PS X (.Raise (some (.Call (.Name x np) (e::es) [] cpos)) none pos) (zgC (.ref C) Ex t):=by
 intro pins s σ H D I h;obtain⟨bm,bs,N,nm,qn,hd,ab,sn,sub,col,dd,k0,k1,k2,k3,k5,mN,hC,hN,hni,T⟩:=zfW I.ok.mod.kin O.ok;refine wpAny_Raise_call_subT (nm:=nm) (q:=qn) (N:=N) (bs:=bs) (hdct:=hd) (sn:=sn) (sub:=sub) (ab:=ab) (col:=col) (dd:=dd) (k0:=k0) (k1:=k1) (k2:=k2) (k3:=k3) (k5:=k5)
  PySem.F.excBase_ValueError (T.hasType PySem.F.excBase_ValueError.hasBase) (I.ok.hd hc) hpl hni (Yr I hg O.g ⟨rfl,?_⟩ hdb)
 have ha':=ha cpos pins s σ H _ I h;rw[he]at ha' ⊢;refine Calls.evalArgs_plain (thn ha' λus s1 ⟨vs,H1,I1,r,hz,q⟩=>?_);exact⟨rfl,by rw[<-r.length];exact hz,I1.bk _ _ hC,hN.keeps I1.bk,T.keeps I1.bk,λh' ea hm=>hx pins σ H1 s1 h' ea (.ref C) us I1 hm q⟩
def zgB(sp:Sp)(Ex:St->XK)(t:TA):TE:=fun σ H Q=>t σ H λvs H1=>sp vs H1 Q (Ex σ)
theorem zcq{σ:St}(F:FnOk X.prog X.w X.K X.mg X.base (CX1 X.prog X.w) k f fd ps sp)(hr:Room k X.A)(hb:Binds X.K fd ps [])(hx:zbq X Ex)(I:Inv X pins σ H s)(r:Vals vs us)(h:sp vs H Q (Ex σ)):wpAny (model X.prog X.w) X.A (call (.ref f) us) (EP X pins σ Q) X.xe s:=by
 have hl:us.length=ps.length:=by rw[<-r.length];exact F.len _ _ _ _ h
 have hb':=hb s us I.kIn (by rw[List.append_nil];exact hl);rw[List.append_nil]at hb';refine wpAny_call (codeAny_mono (F.run X.A X.stack s H ⟨us,[]⟩ us vs Q (Ex σ) hr I.env0 hb' r h) λr s' hq=>?_);cases r with
 |error e=>exact hx pins σ H s e s' I hq
 |ok fl=>
  cases fl with
  |ret u=>exact I.after hq
  |next=>exact False.elim hq
  |brk=>exact False.elim hq
  |cont=>exact False.elim hq
theorem Ue{st:Stmt}{p pos:Pos}(D:Df X.K X.mg x st ps f fd)(G:FnOk X.prog X.w X.K X.mg X.base (CX1 X.prog X.w) k f fd ps sp)(hr:Room k X.A)(hx:zbq X Ex)(ha:PA X (e::es) t)(hg:Gl X x:=by rfl)(hdb:(x == ("__debug__" : Str))=false:=by decide)(he:starEach (e::es) X.env=(false,eval e X.env)::starEach es X.env:=by rfl)(hpl:(backTo pos (starEach es X.env)).any (·.1)=false:=by rfl):PE X (.Call (.Name x p) (e::es) [] pos) (zgB sp Ex t):=by
 intro pins s σ H Q I h;refine wpAny_Call_Name_kw (Yr I hg D.g ?_ hdb);refine W.callWith_K I.ok.mod.kin D.fn.kp (thn (ha pos pins s σ H _ I h) λus s1 ⟨vs,H1,I1,r,q⟩=>⟨I1.kIn,?_⟩) he hpl;exact zcq G hr D.b hx I1 r q
theorem Fun.ok1{K:W.Frag}{st:Stmt}(F:Fun K x qual st f fd)(S:zE N ps (zu st))(len:∀vs H Q E,sp vs H Q E->vs.length=ps.length)(hbody:∀cdv A outer s H vs Q E,Room k (A.deeper (envOfC qual (zu st) s.heap.objs.size f cdv))->sp vs H Q E ->
   ∃t,PSs (YD (CX1 P w) P w K mg base N qual (zu st) f cdv A outer s H E) (zq st) t/\t { nx:=λ_ H'=>Q .non H',rt:=Q } (start N vs) H):FnOk P w K mg base (CX1 P w) (k+1) f fd ps sp:=by
 obtain⟨oc,od,kV,doc,pm,an,cdv,ct,osl,rfl,lk,hcd⟩:=F.ex;exact zeV lk hcd S len λA outer s H vs Q E hr hsp=>hbody cdv A outer s H vs Q E hr hsp
open PySem PySem.Spec PyProof.Rows Builtin Builtin.ObjectAttr Builtin.Getset_descriptor
structure J4 (K:W.Frag) (C:Addr):Prop where
 ga:W.findIn K (.ref C) "__getattribute__"= some (some (.builtin "BaseException.__getattribute__"))
 hk:W.findIn K (.ref C) "__getattr__"= some none
 at_:W.findIn K (.ref C) "__class__"= some (some (.builtin "object.__class__"))
 sp:W.specialIn K (.builtin "object.__class__") "__get__"= some (some (.builtin "getset_descriptor.__get__"))
 tk:W.takesIn K (.builtin "object.__class__")=some true
 mo:W.mroIn K C (.type "object")=some true
 mb:W.mroIn K C (.type "BaseException")=some true
def ExcAt(e C:Addr)(h:Heap):Prop:=∃o,h.get? e=some o/\o.cls=.ref C
section
variable {prog:Program} {w:World} {A:Around} {K:W.Frag} {e C:Addr} {h:Heap}
theorem ExcAt.ty(x:ExcAt e C h):W.Looks M h (typeOf (.ref e)) (.ref C):=by
 obtain⟨o,h1,h2⟩:=x;have L:W.Looks M h (typeOf (.ref e)) o.cls:=(W.Looks.ld h1).andThen .now;rw[h2]at L;exact L
theorem zaP(X:K.In h)(F:J4 K C):W.Looks M h (find (.ref e) (.ref C) "__class__") (.bind (.builtin "getset_descriptor.__get__") (.builtin "object.__class__")):=by
 have q3:W.Looks M h (dataDescriptor? (some (.builtin "object.__class__")) (some (.builtin "getset_descriptor.__get__"))) (some (.builtin "getset_descriptor.__get__",.builtin "object.__class__")):=(W.looks_takesIn X F.tk).andThen .now;have q2:W.Looks M h (getOf (some (.builtin "object.__class__"))) (some (.builtin "getset_descriptor.__get__")):=W.looks_specialIn X F.sp;exact (W.looks_findIn X F.at_).andThen (q2.andThen (q3.andThen (W.Looks.tag .now)))
theorem zas(X:K.In s.heap)(x:ExcAt e C s.heap)(F:J4 K C)(q:R (.ok (.ret (.ref C))) s):codeAny (model prog w) A (.call (.builtin "getset_descriptor.__get__") ⟨[.builtin "object.__class__",.ref e,tp],[]⟩) R s:=by
 cases s with
 |mk hp gn dr tk os=>
  have y0:=x.ty (M:=model prog w);have y1:=W.looks_mroIn (M:=model prog w) X F.mo;refine codeAny_call_builtin W.KF.slot_gs.plain W.KF.entry_gs (W.KF.slot_gs.check _ _ _ _ _ _ _ _ W.KF.type_class (W.KF.args_gs _ _ _) ?_);unfold «getset_descriptor.__get__» descrGet;refine wpAny_bind (wpAny_pure ?_);unfold descrGetter descrCheckInstance descrNameAndClass isInstance;simp only[W.KF.owner_class]
  repeat lk
  refine⟨Code.quiet_builtin _ (by decide +kernel),codeAny_builtin W.KF.entry_class ?_⟩;unfold «object.__class__» shownTypeOf
  repeat lk
  exact q
theorem zgN(X:K.In s.heap)(x:ExcAt e C s.heap)(F:J4 K C)(q:R (.ok (.ret (.ref C))) s):codeAny (model prog w) A (.call (.builtin "BaseException.__getattribute__") ⟨[.ref e,.str "__class__" t],[]⟩) R s:=by
 cases s with
 |mk hp gn dr tk os=>
  have y0:=x.ty (M:=model prog w);have y3:=zaP (M:=model prog w) (e:=e) X F;have y4:=W.looks_mroIn (M:=model prog w) X F.mb;refine codeAny_call_builtin PySem.F.attr_ValueError.ga.plain PySem.F.entry_bexc_ga ?_;have z1:builtinKind "BaseException.__getattribute__"= some .slot:=by decide +kernel
  have z2:splitId "BaseException.__getattribute__"= some ("BaseException","__getattribute__"):=by decide +kernel
  have z3:=PySem.F.args_bexc_ga (.ref e) (.str "__class__" t);simp only[checkBuiltinCall,z1,z2];refine wpAny_bind ?_;unfold isInstance;refine wpAny_bind (y0.at (y4.at ?_))
  repeat (any_goals (first | assumption | wp_step))
  obtain⟨o,h1,h2⟩:=id x;refine wpAny_loadPart h1 (wpAny_pure ?_);rw[h2];refine wpAny_bind (y3.at ?_);dsimp only
  repeat (any_goals (first | assumption | with_reducible refine wpAny_holding ?_ | wp_step))
  exact zas (s:=⟨hp,gn,dr,tk,os⟩) X x F (wpAny_pure q)
theorem zdM(X:K.In s.heap)(x:ExcAt e C s.heap)(F:J4 K C)(q:Q (some (.ref C)) { s with toks:=s.toks+1 }):wpAny (model prog w) A (getAttr? (.ref e) "__class__") Q E s:=by
 cases s with
 |mk hp gn dr tk os=>
  have y0:=x.ty (M:=model prog w);have y1:=W.looks_findIn (M:=model prog w) X F.ga;have y2:=W.looks_findIn (M:=model prog w) X F.hk;refine wpAny_bind (wpAny_mkText (wpAny_bind (wpAny_attempt (wpAny_holding (wpAny_bind (y0.at (wpAny_bind (y1.at ?_))))))));refine wpAny_bind ?_;refine y2.at (wpAny_bind (wpAny_attempt (wpAny_holding ?_)));refine wpAny_bind (wpAny_of_eq (PySem.F.attr_ValueError.ga.bind (.ref e)) ?_);exact wpAny_call (zgN X x F (wpAny_pure (wpAny_pure q)))
theorem zeZ(F:J4 K C):W.KitX K (.ref e) (.ref C) (ExcAt e C) where
 ty:=λ_ _ _ x=>x.ty
 it:=λ_ _ X _=>by
  have z:=F.mo;unfold W.mroIn W.clsIn at z;split at z
  ·rename_i ho
   intro A1 Q1 E1 s1 k q;exact wpAny_bind (wpAny_loadPart (k _ _ (X _ _ ho)) (wpAny_pure q))
  ·cases z
 ne:=λh tp dd its n sl X htp=>by
  have z:=F.mo;refine Bool.eq_false_iff.mpr λq=>?_;have ec:=Value.ref.inj (beq_iff_eq.mp q);subst ec;unfold W.mroIn W.clsIn at z;split at z
  ·rename_i ho
   have z2:=X _ _ ho;rw[htp]at z2;cases z2
  ·cases z
 ca:=λX x q=>zdM X x F q
def WN(e C:Addr):HO:=.ext λh=>ExcAt e C h
def zgo(K:W.Frag):List V->Hp->VK->Prop:=λxs H Q=>Ex5 λe C c cu b=>xs=[.ref e,c]/\RelV c cu/\(∀u,RelV c u->u=cu)/\H e=some (WN e C)/\J4 K C/\W.kitOne K (.ref C) cu=some b/\Q (.bl b) H
theorem zdE:wF X (.builtin "isinstance") (zgo X.K):=by
 intro pins s σ H xs us Q I r h;obtain⟨e,C,c,cu,b,rfl,_,un,he,F,k,q⟩:=h;obtain⟨u,v,rfl,rx,rt⟩:=vals2 r;cases (show u=Value.ref e from rx)
 cases un v rt;have o:=I.hok e _ he
 exact W.kia_one (zeZ F) I.kIn o.1 k (λz=>nomatch z) λtk=>⟨.bl b,H,I.tok tk,rfl,q⟩
theorem uo(K:W.Frag)(e:X.K=K:=by rfl):wF X (.builtin "isinstance") (zgo K):=by subst e;exact zdE
end
structure zbQ (K:W.Frag) (mg:Str->Option Value) (y:Str) (Ch:Addr):Prop where
 g:mg y=some (.ref Ch)
 mb:W.mroIn K Ch (.type "BaseException")=some true
theorem zdH{K:W.Frag}(X:K.In s.heap)(x:ExcAt e C s.heap)(m:W.kitCls K (.ref C) (.ref Ch)=some b)(hb:W.mroIn K Ch (.type "BaseException")=some true)(q:Q b s):wpAny (model prog w) A (excMatches (.ref e) (.ref Ch)) Q E s:=by
 cases s with
 |mk hp gn dr tk os=>
  obtain⟨y1,y2,y3⟩:=W.kit_cls (M:=model prog w) X m;have y0:=x.ty (M:=model prog w);have y4:=W.looks_mroIn (M:=model prog w) X hb;have y5:=tc_notTuple;unfold excMatches isInstance isExcClass
  repeat (first | with_reducible refine W.Looks.at (by assumption) ?_ | (with_reducible refine wpAny_of_eq y5 ?_) | with_reducible refine wpAny_bind ?_ | wp_step)
  cases b
  ·exact wpAny_pure (wpAny_pure (wpAny_pure q))
  ·exact wpAny_pure (wpAny_pure (wpAny_pure q))
section
variable {X:Cx} {pins:List (Addr×Obj)} {σ:St} {H H':Hp} {s s':Shared}
abbrev Cx.sui(X:Cx)(e:Addr):Cx:={ X with A:=X.A.mark (some (.ref e)),calm:=false,xe:=λ_ _=>False }
theorem Inv.toSui(I:Inv X pins σ H s)(e:Addr):Inv (X.sui e) pins σ H s :=
 ⟨⟨I.ok.mod,I.ok.kind,I.ok.glob,I.ok.blt,I.ok.above,I.ok.inj,I.ok.has,I.ok.cab,(λz=>nomatch z),I.ok.frames,I.ok.stk,I.ok.exf,I.ok.bs,I.ok.bsz,I.ok.noex,I.ok.exfs,I.ok.funs,I.ok.frf⟩,I.os,I.bare,I.base,I.loc,I.cell,I.free,I.freeC,I.pin,I.hok,I.len⟩
theorem Inv.ofSui(ok:X.Ok)(I:Inv (X.sui e) pins σ H s):Inv X pins σ H s:=⟨ok,I.os,I.bare,I.base,I.loc,I.cell,I.free,I.freeC,I.pin,I.hok,I.len⟩
abbrev Cx.body(X:Cx)(E:Value->Shared->Prop)(pn:List (Addr×Obj)):Cx:={ X with xe:=E,pn:=pn }
theorem Inv.toBody(I:Inv X pins σ H s)(E:Value->Shared->Prop):Inv (X.body E (X.pn++pins)) [] σ H s :=
 ⟨⟨I.ok.mod,I.ok.kind,I.ok.glob,I.ok.blt,I.ok.above,I.ok.inj,I.ok.has,I.ok.cab,I.ok.hd,I.ok.frames,I.ok.stk,I.ok.exf,I.ok.bs,I.ok.bsz,I.ok.noex,I.ok.exfs,I.ok.funs,I.ok.frf⟩,I.os,I.bare,I.base,I.loc,I.cell,I.free,I.freeC,λp hp=>I.pin p (by rw[List.append_nil]at hp;exact hp),I.hok,I.len⟩
theorem Inv.ofBody(ok:X.Ok)(I:Inv (X.body E (X.pn++pins)) pins' σ H s):Inv X pins σ H s:=⟨ok,I.os,I.bare,I.base,I.loc,I.cell,I.free,I.freeC,λp hp=>I.pin p (List.mem_append_left _ hp),I.hok,I.len⟩
theorem SP.ofBody(ok:X.Ok)(h:SP (X.body E (X.pn++pins)) [] D f s'):SP X pins D f s':=by
 cases f with
 |next=>obtain⟨σ',H',I,q⟩:=h;exact⟨σ',H',I.ofBody ok,q⟩
 |brk=>obtain⟨σ',H',I,q⟩:=h;exact⟨σ',H',I.ofBody ok,q⟩
 |cont=>obtain⟨σ',H',I,q⟩:=h;exact⟨σ',H',I.ofBody ok,q⟩
 |ret u=>obtain⟨v,σ',H',I,r,q⟩:=h;exact⟨v,σ',H',I.ofBody ok,r,q⟩
theorem zdI(un:Un (frs X.stack) [] H H' s.heap h')(hok:HOk X.prog X.w H' h')(n0:s.heap.get? e=none)(n1:H' e=none)(x:ExcAt e C h'):
  Un (frs X.stack) [] H (upd H' e (WN e C)) s.heap h'/\HOk X.prog X.w (upd H' e (WN e C)) h':=by
 have ne:∀b o,s.heap.get? b=some o->b≠e:=λb o q z=>by rw[z,n0]at q;cases q
 refine⟨⟨un.keep,un.slot,λb o q n hx=>by rw[zr (ne b o q)];exact un.free b o q n hx,un.there,λb xs q=>?_,λb o u q=>?_,λb ps q=>?_⟩,λb o q=>?_⟩
 ·have z:=un.tups b xs q;rw[zr (zx z n1)];exact z
 ·have z:=un.frzs b o u q;rw[zr (zx z n1)];exact z
 ·obtain⟨more,z⟩:=un.tbls b ps q;exact⟨more,by rw[zr (zx z n1)];exact z⟩
 ·by_cases hb:b=e
  ·subst hb;rw[zg]at q;cases q
   obtain⟨o,h1,h2⟩:=id x;exact⟨x,⟨o,h1⟩,λha hb' xa ka=>let ⟨o,h1,h2⟩:=xa;⟨o,ka o h1,h2⟩⟩
  ·rw[zr hb]at q;exact (hok b o q).stay (λc u _ z=>z) (λc z=>by rw[zr (zx z n1)];exact z) λc xs z=>by rw[zr (zx z n1)];exact z
theorem Inv.gone(I:Inv X pins σ H s)(hN:X.N.Nodup)(hi:X.N[i]?=some n)(hs:Heap.SameBut X.env.locals s.heap h')(hn:∀m,s.heap.Ns X.env.locals m->∃v,h'.Ns X.env.locals λx=>if x=n then v else m x):
  Inv X pins (σ.set i none) H { s with heap:=h',toks:=t }:=by
 have nl:∀b o,X.s₀.heap.get? b=some o->b≠X.env.locals:=λb o e=>Nat.ne_of_lt (Nat.lt_of_lt_of_le (Heap.lt_size e) I.ok.above);have tr:∀b u,H b=some u->b≠X.env.locals:=λb u e z=>by rw[z,I.free]at e;cases e
 obtain⟨m,hm,hl⟩:=id I.loc;obtain⟨v,hv⟩:=hn m hm;refine⟨I.ok,I.os,I.bare,⟨λb o e n hb hx=>(hs.2 b (nl b o e)).trans (I.base.keep b o e n hb hx),λb o e n hb hx=>?_,I.base.free,λb o e hx=>?_,I.base.tups,I.base.frzs,I.base.tbls⟩,⟨_,hv,λj y w e1 e2 e3=>?_⟩,λy c e=>?_,I.free,I.freeC,λp hp=>?_,λb u e=>?_,by rw[List.length_set];exact I.len⟩
 ·obtain⟨sl,q⟩:=I.base.slot b o e n hb hx;exact⟨sl,(hs.2 b (nl b o e)).trans q⟩
 ·obtain⟨o1,q⟩:=I.base.there b o e hx;exact⟨o1,(hs.2 b (nl b o e)).trans q⟩
 ·have hj:j≠i:=λz=>by
   subst z;rw[List.getElem?_set]at e2;split at e2
   ·split at e2<;>cases e2
   ·exact absurd rfl (by assumption)
  rw[List.getElem?_set_ne (Ne.symm hj)]at e2;obtain⟨u,r,q⟩:=hl j y w e1 e2 e3;refine⟨u,r,?_⟩;rcases q with ⟨k,z⟩ | ⟨k,c,z,zc⟩
  ·refine .inl ⟨k,?_⟩;have ny:y≠n:=λz=>hj (Qe hN e1 (z▸hi));show (if y=n then v else m y)=some u;rw[if_neg ny];exact z
  ·exact .inr ⟨k,c,z,zc.sameBut hs (I.cne y c z)⟩
 ·obtain⟨w,z⟩:=I.cell y c e;exact⟨w,z.sameBut hs (I.cne y c e)⟩
 ·obtain⟨e,n,ne,nf,d⟩:=I.pin p hp;exact⟨(hs.2 p.1 ne).trans e,n,ne,nf,d⟩
 ·refine (I.hok b u e).stay (λc z hc q=>(hs.2 c ?_).trans q) (λ_ q=>q) λ_ _ q=>q;rcases hc with z | z
  ·rw[z];exact tr b u e
  ·exact tr c _ z
end
def zgj(i:Nat)(D:Ends):Ends:={ nx:=fun σ H=>D.nx (σ.set i none) H,rt:=D.rt,bk:=fun σ H=>D.bk (σ.set i none) H,ct:=fun σ H=>D.ct (σ.set i none) H }
def xAs(K:W.Frag)(Ch:Addr)(i:Nat)(ts:TS)(D:Ends):St->XK:=fun σ c _ H=>∃C,c=.ref C/\W.kitCls K (.ref C) (.ref Ch)=some true/\∀e,H e=none->ts (zgj i D) (σ.set i (some (.ref e))) (upd H e (WN e C))
def zgw(K:W.Frag)(Ch:Addr)(i:Nat)(tb:(St->XK)->TS)(ts:TS):TS:=λD σ H=>tb (xAs K Ch i ts D) D σ H
section
variable {X:Cx} {y n:Str} {Ch:Addr} {i:Nat} {body suite:List Stmt} {b₀:Stmt} {tb:(St->XK)->TS} {ts:TS} {np hpos pos:Pos}
theorem zej(O:zbQ X.K X.mg y Ch)(hstk:X.stack=X.env::X.outer)(hfr:X.env.frame=some X.env.locals)(nd:X.N.Nodup)(hi:X.N[i]?=some n)(hloc:X.env.scope.names.lookup n=some .local)(hb:∀E pn Ex,zbq (X.body E pn) Ex->PSs (X.body E pn) body (tb Ex))(hs:∀e,PSs (X.sui e) (b₀::suite) ts)(hg:Gl X y:=by rfl)(hdb:(y == ("__debug__" : Str))=false:=by decide):
  PS X (.Try body [.ExceptHandler (some (.Name y np)) (some n) (b₀::suite) hpos] [] [] pos) (zgw X.K Ch i tb ts):=by
 intro pins s σ H D I h;have ok:=I.ok;refine wpAny_Try_except (wpAny_mono (hb (λe s₁=>wpAny (model X.prog X.w) X.A (noteFrame e X.env) (λ_ s₂=>wpAny (model X.prog X.w) X.A (setFlight e none) (λ_ s₃=>wpAny (model X.prog X.w) X.A (handleBy e X.env [.ExceptHandler (some (.Name y np)) (some n) (b₀::suite) hpos]) (SP X pins D) X.xe s₃) X.xe s₂) X.xe s₁)
  (X.pn++pins) (xAs X.K Ch i ts D) ?_ [] s σ H D (I.toBody _) h) (λf s1 q=>?_) λ_ _ z=>z)
 ·intro pins2 σ2 H2 s2 e s3 I2 hcx;have I2:=I2.ofBody ok;obtain⟨ea,c,H3,rfl,os,bare,un,hok,n0,n1,t,C,rfl,hk,hq⟩:=hcx;obtain⟨B,a0,hB,fl⟩:=zcI I2 os bare un hok n0 n1 t;have fl':Heap.FlyingW B (X.env::X.outer) ea (.ref C) a0 s3.heap:=by rw[<-hstk];exact fl
  refine wpAny_looks_onW (by rw[ok.frames,hstk]) hfr fl' λh4 held up4=>wpAny_landsW held λh5 fl5 up5=>?_;obtain⟨u5,k5⟩:=zbT I2 un hok hB fl5.1 (up4.trans up5);have J5:Inv X pins σ2 H3 { s3 with heap:=h5 }:=I2.call' os u5 k5 bare λb z=>absurd z (by simp);have x5:=fl5.there;refine wpAny_handleBy_cons (codeAny_handlers_test (Yr (J5.toSui ea) hg O.g ?_ hdb)) (by intro z;cases z);refine zdH J5.kIn x5 hk O.mb (codeAny_handlers_suite_as (lands_againW fl5 λh6 fl6 up6=>?_));obtain⟨u6,k6⟩:=zbT I2 un hok hB fl6.1 ((up4.trans up5).trans up6);obtain⟨u7,k7⟩:=zdI u6 k6 n0 n1 fl6.there;have J7:Inv X pins σ2 (upd H3 ea (WN ea C)) { s3 with heap:=h6 }:=I2.call' os u7 k7 bare λb z=>absurd z (by simp);refine Ww (X:=X.sui ea) (v:=.ref ea) (J7.toSui ea) nd hi (.inl hloc) rfl (λs8 J8=>?_) (.inr hloc);refine wpAny_mono (hs ea pins s8 _ _ (zgj i D) J8 (hq ea n1)) (λf s9 q=>?_) λ_ _ z=>False.elim z;have fin:∀{σ9:St} {H9:Hp},Inv (X.sui ea) pins σ9 H9 s9->(∀s10,Inv X pins (σ9.set i none) H9 s10->SP X pins D f s10)->wpAny (model X.prog X.w) X.A (do bindName X.env n .none;unbindBehindTheSuite X.env n hpos) (λ_ s10=>SP X pins D f s10) X.xe s9:=λ{σ9 H9} J k=>by
   have J':=J.ofSui ok;obtain⟨m,hm,_⟩:=id J'.loc;refine wpAny_nameGoes_keeps hloc hm (by rw[ok.kind];rfl) λh10 v hn hsb=>k _ (J'.gone nd hi hsb λm2 hm2=>?_);refine⟨v,?_⟩;have e:m2=m:=by
    obtain⟨o1,es1,ep1,a1,b1,c1,d1⟩:=hm;obtain⟨o2,es2,ep2,a2,b2,c2,d2⟩:=hm2;rw[a1]at a2;cases a2
    rw[b1]at b2;cases b2
    funext z;rw[<-d1,<-d2]
   rw[e];exact hn
  cases f with
  |next=>obtain⟨σ9,H9,J,q⟩:=q;exact fin J λs10 K10=>⟨_,_,K10,q⟩
  |brk=>obtain⟨σ9,H9,J,q⟩:=q;exact fin J λs10 K10=>⟨_,_,K10,q⟩
  |cont=>obtain⟨σ9,H9,J,q⟩:=q;exact fin J λs10 K10=>⟨_,_,K10,q⟩
  |ret u=>obtain⟨v,σ9,H9,J,r,q⟩:=q;exact fin J λs10 K10=>⟨v,_,_,K10,r,q⟩
 ·cases f with
  |next=>exact wpAny_execs_nil (SP.ofBody ok q)
  |ret u=>exact SP.ofBody ok q
  |brk=>exact SP.ofBody ok q
  |cont=>exact SP.ofBody ok q
end
open PySem PyProof.Rows
@[irreducible] def PEI (X:Cx) (e:Expr) (t:TE):Prop:=PE X e t
@[irreducible] def PAI (X:Cx) (es:List Expr) (t:TA):Prop:=PA X es t
@[irreducible] def PSsI (X:Cx) (st:List Stmt) (t:TS):Prop:=PSs X st t
theorem PEI.o(h:PEI X e t):PE X e t:=by unfold PEI at h;exact h
theorem PAI.o(h:PAI X es t):PA X es t:=by unfold PAI at h;exact h
theorem PSsI.o(h:PSsI X l t):PSs X l t:=by unfold PSsI at h;exact h
theorem pei(h:PE X e t):PEI X e t:=by unfold PEI;exact h
theorem pai(h:PA X es t):PAI X es t:=by unfold PAI;exact h
theorem zia(h:PSs X l t):PSsI X l t:=by unfold PSsI;exact h
theorem tV{i j pos}:PEI X (.Constant (.int i) j pos) (tC (.int i)):=pei zy
theorem Zy(h:PAI X es t):PEI X (.List es pos) (zc1 t):=pei (yc h.o)
theorem jk:PAI X [] W0:=pai zj
theorem w6{j}(h:PAI X es t):PAI X (.Constant (.str x) j pos::es) (j8 (tC (.str x)) t):=pai (zcj h.o)
theorem zU(ha:PEI X e te)(hr:PAI X es t)(hs:starEach (e::es) X.env=(false,eval e X.env)::starEach es X.env:=by rfl):PAI X (e::es) (j8 te t):=pai (zf ha.o hr.o hs)
theorem zdi{st:Stmt}{rest:List Stmt}(h1:PS X st t)(h2:PSsI X rest u):PSs X (st::rest) (zdx t u):=zp h1 h2.o
theorem zdU{rest:List Stmt}(hN:X.N.Nodup)(hi:X.N[i]?=some x)(hx:Loc X.env.scope x)(h:PAI X es t)(hr:PSs X rest u)(hf:X.fn x=true\/X.env.scope.names.lookup x=some .local:=by first | exact .inl rfl | exact .inr rfl | assumption):
  PSsI X (.Assign [.Name x pos'] (.List es lp) pos::rest) (zdx (Qp (zc1 t) (ZV i)) u):=zia (zp (zf9 hN hi hx h.o hf) hr)
theorem zeh(hr:IxR X r)(ha:PEI X a ta)(hb:PE X b tb)(hs:zcB b):PE X (.Subscript a b pos) (tOp r ta tb):=zR hr ha.o hb hs
theorem zcC{pos' pos:Pos}(hN:X.N.Nodup)(hi:X.N[i]?=some x)(hx:Loc X.env.scope x)(he:PEI X e te)(hs:swapsWith e (some (.Name x pos')) pos.line X.env=pure false:=by rfl)(hf:X.fn x=true\/X.env.scope.names.lookup x=some .local:=by first | exact .inl rfl | exact .inr rfl | assumption):
  PS X (.Assign [.Name x pos'] e pos) (Qp te (ZV i)):=zG hN hi hx he.o hs hf
theorem zgE(ho:OpR X (binaryOp op) r)(ha:PE X a ta)(hb:PEI X b tb):PE X (.BinOp a op b pos) (tOp r ta tb):=zO ho ha hb.o
structure Fit (k n:Nat) (d:PyData):Prop where
 ls:d.leavesShort 40=true
 sh:d.showable=true
 dp:d.depth<=k
 wt:d.weight<=n
theorem Fit.shown(f:Fit k n d)(hn:n<=100000):d.shown.length<=sizeLine:=by
 have h:=PyData.shown_le 40 (by decide) d f.ls;have:=f.wt;rw[sizeLine_eq];omega
def Th(H:Hp)(k n:Nat)(v:V):Prop:=∃d,ThAt H d v/\Fit k n d
theorem Th.same(t:Th H k n v)(m:Same H H'):Th H' k n v:=let ⟨d,h,f⟩:=t;⟨d,h.same m,f⟩
theorem Th.le(t:Th H k n v)(hk:k<=k')(hn:n<=n'):Th H k' n' v:=let ⟨d,h,f⟩:=t;⟨d,h,f.ls,f.sh,Nat.le_trans f.dp hk,Nat.le_trans f.wt hn⟩
section
variable {H:Hp} {k n:Nat}
theorem Th.non:Th H k n .non:=⟨.none,by rw[ThAt],by rw[PyData.leavesShort],by rw[PyData.showable],by rw[PyData.depth];exact Nat.zero_le _,by exact Nat.zero_le _⟩
theorem Th.bl:Th H k n (.bl b):=⟨.bool b,by rw[ThAt],by rw[PyData.leavesShort],by rw[PyData.showable],by rw[PyData.depth];exact Nat.zero_le _,by exact Nat.zero_le _⟩
theorem log2_small(h:m<10^30):m.log2<100:=by
 by_cases z:m=0
 ·subst z;decide
 ·exact (Nat.log2_lt z).mpr (Nat.lt_trans h (by decide))
theorem Th.int(h:i.natAbs<10^30)(hn:100<=n):Th H k n (.int i):=by
 refine⟨.int i,by rw[ThAt],?_,?_,by rw[PyData.depth];exact Nat.zero_le _,?_⟩
 ·rw[PyData.leavesShort,PyData.shown];refine decide_eq_true ?_;have:=int_text_length_le10 (by decide) h;rw[PySem.ofString_length];omega
 ·rw[PyData.showable];exact decide_eq_true (Nat.lt_trans (log2_small h) (by decide))
 ·rw[PyData.weight];have:=log2_small h;split<;>omega
theorem Th.str(h:(x.cps.toList.all λc=>decide (c<16^8))=true)(hn:x.cps.size<=n):Th H k n (.str x):=⟨.str x,by rw[ThAt],by rw[PyData.leavesShort];exact h,by rw[PyData.showable],by rw[PyData.depth];exact Nat.zero_le _,by exact hn⟩
theorem Th.emp(h:H a=some (.dK []))(hk:1<=k):Th H k n (.ref a):=⟨.dict [],by exact⟨rfl,a,rfl,h⟩,by rw[PyData.leavesShort,PyData.leavesShortKv],by rw[PyData.showable,PyData.showableKv],by rw[PyData.depth,PyData.depthKv];exact hk,by exact Nat.zero_le _⟩
theorem Ths.of:∀{vs:List V},(∀v∈vs,Th H k n v)->∃ds,ThsAt H ds vs/\PyData.leavesShortAll 40 ds=true/\PyData.showableAll ds=true/\PyData.depthAll ds<=k/\PyData.weightAll ds<=(n+1)*vs.length
 |[],_=>⟨[],by rw[ThsAt],by rw[PyData.leavesShortAll],by rw[PyData.showableAll],by rw[PyData.depthAll];exact Nat.zero_le _,by rw[PyData.weightAll];exact Nat.zero_le _⟩
 |v::vs,h=>by
  obtain⟨d,h1,f⟩:=h v (.head _);obtain⟨ds,g1,g2,g3,g4,g5⟩:=Ths.of λv hv=>h v (.tail _ hv);refine⟨d::ds,by exact⟨_,_,rfl,h1,g1⟩,by rw[PyData.leavesShortAll,f.ls,g2];rfl,by rw[PyData.showableAll,f.sh,g3];rfl,?_,?_⟩
  ·rw[PyData.depthAll];have:=f.dp;omega
  ·rw[PyData.weightAll,List.length_cons,Nat.mul_succ];have:=f.wt;omega
theorem Th.lst(h:H a=some (.lst vs))(t:∀v∈vs,Th H k n v)(hn:(n+1)*vs.length<=n'):Th H (k+1) n' (.ref a):=by
 obtain⟨ds,g1,g2,g3,g4,g5⟩:=Ths.of t;exact⟨.list ds,by exact⟨a,vs,rfl,h,g1⟩,by exact g2,by exact g3,by rw[PyData.depth];omega,by rw[PyData.weight];omega⟩
theorem Th.tup(h:H a=some (.tup vs))(t:∀v∈vs,Th H k n v)(hn:(n+1)*vs.length<=n'):Th H (k+1) n' (.ref a):=by
 obtain⟨ds,g1,g2,g3,g4,g5⟩:=Ths.of t;exact⟨.tuple ds,by exact⟨a,vs,rfl,h,g1⟩,by exact g2,by exact g3,by rw[PyData.depth];omega,by rw[PyData.weight];omega⟩
theorem Th.ints{ns:List Int}(h:H a=some (.lst (ns.map V.int)))(t:∀i∈ns,i.natAbs<10^30)(hn:101*ns.length<=n'):Th H (k+1) n' (.ref a):=
 Th.lst h (λv hv=>by
  obtain⟨i,hi,rfl⟩:=List.mem_map.mp hv;exact Th.int (t i hi) (Nat.le_refl _)) (by rw[List.length_map];exact hn)
end
structure Ty where
 p:Hp->V->Prop
 mo:∀{G G':Hp} {v:V},Same G G'->p G v->p G' v
structure View where
 v:Hp->Hp
 ok:Hp->Prop
 out:∀{H:Hp} {a:Addr} {o:HO},v H a=some o->H a=some o
 new:∀{H:Hp} {p:Addr} (o:HO),ok H->H p=none->ok (upd H p o)/\Same (v H) (v (upd H p o))/\v (upd H p o) p=some o
abbrev Cxt:=List (Option Ty)
def Fits(Γ:Cxt)(G:Hp)(σ:St):Prop:=σ.length=Γ.length/\∀(i:Nat) (T:Ty),Γ[i]?=some (some T)->∃v:V,σ[i]?=some (some v)/\T.p G v
theorem Fits.same(f:Fits Γ G σ)(s:Same G G'):Fits Γ G' σ:=⟨f.1,λi T h=>let ⟨v,e,q⟩:=f.2 i T h;⟨v,e,T.mo s q⟩⟩
theorem Fits.nil:Fits [] G []:=⟨rfl,λi T h=>by simp at h⟩
theorem Fits.cons(q:T.p G v)(f:Fits Γ G σ):Fits (some T::Γ) G (some v::σ):=by
 refine⟨by rw[List.length_cons,List.length_cons,f.1],λi T' h=>?_⟩;cases i with
 |zero=>cases h;exact⟨v,rfl,q⟩
 |succ i=>exact f.2 i T' h
theorem Fits.skip(f:Fits Γ G σ):Fits (none::Γ) G (v::σ):=by
 refine⟨by rw[List.length_cons,List.length_cons,f.1],λi T' h=>?_⟩;cases i with
 |zero=>cases h
 |succ i=>exact f.2 i T' h
def Tp(w:View)(Γ:Cxt)(te:TE)(T:Ty):Prop:=∀σ H Q,w.ok H->Fits Γ (w.v H) σ->(∀v H',w.ok H'->Same (w.v H) (w.v H')->T.p (w.v H') v->Q v H')->te σ H Q
def ZK(k n:Nat):Ty:=⟨λG v=>Th G k n v,λs h=>h.same s⟩
def tyI(lo hi:Int):Ty:=⟨λ_ v=>∃i,v=.int i/\lo<=i/\i<=hi,λ_ h=>h⟩
def wN(T:Ty)(lo hi:Nat):Ty:=⟨λG v=>∃a vs,v=.ref a/\G a=some (.lst vs)/\lo<=vs.length/\vs.length<=hi/\∀u∈vs,T.p G u,λs ⟨a,vs,h1,h2,h3,h4,h5⟩=>⟨a,vs,h1,s _ _ h2,h3,h4,λu hu=>T.mo s (h5 u hu)⟩⟩
abbrev tyL(k n lo hi:Nat):Ty:=wN (ZK k n) lo hi
def za5(v:V):Ty:=⟨λ_ u=>u=v,λ_ h=>h⟩
def TpA(w:View)(Γ:Cxt)(ta:TA)(k n m:Nat):Prop:=∀σ H Q,w.ok H->Fits Γ (w.v H) σ->(∀vs H',w.ok H'->Same (w.v H) (w.v H')->vs.length=m->(∀u∈vs,Th (w.v H') k n u)->Q vs H')->ta σ H Q
def TpB(w:View)(Γ:Cxt)(ta:TA)(T:Ty)(m:Nat):Prop:=∀σ H Q,w.ok H->Fits Γ (w.v H) σ->(∀vs H',w.ok H'->Same (w.v H) (w.v H')->vs.length=m->(∀u∈vs,T.p (w.v H') u)->Q vs H')->ta σ H Q
def TpO(w:View)(Γ:Cxt)(to:TO):Prop:=∀σ H Q,w.ok H->Fits Γ (w.v H) σ->(∀o H',w.ok H'->Same (w.v H) (w.v H')->Q o H')->to σ H Q
section
variable {w:View} {Γ:Cxt} {te ta tb:TE} {K:W.Frag} {k n m k' n' m' lo hi lo' hi':Nat} {i j i' j':Int}
theorem Tp.sub(h:Tp w Γ te T)(s:∀G v,T.p G v->T'.p G v):Tp w Γ te T':=fun σ H Q o f q=>h σ H Q o f λv H' o' s' t=>q v H' o' s' (s _ _ t)
theorem Tp.var(h:Γ[x]?=some (some T)):Tp w Γ (zgb x) T:=fun σ H Q o f q=>let ⟨v,e,t⟩:=f.2 x T h;⟨v,e,q v H o (Same.refl _) t⟩
theorem Tp.non:Tp w Γ (tC .non) (ZK 0 0):=fun σ H Q o f q=>q _ H o (Same.refl _) Th.non
theorem Tp.bl:Tp w Γ (tC (.bl b)) (ZK 0 0):=fun σ H Q o f q=>q _ H o (Same.refl _) Th.bl
theorem Tp.str(h:(x.cps.toList.all λc=>decide (c<16^8))=true)(hn:x.cps.size<=100):Tp w Γ (tC (.str x)) (ZK 0 100):=fun σ H Q o f q=>q _ H o (Same.refl _) (Th.str h hn)
theorem Tp.int:Tp w Γ (tC (.int i)) (tyI i i):=fun σ H Q o f q=>q _ H o (Same.refl _) ⟨i,rfl,Int.le_refl _,Int.le_refl _⟩
theorem Tp.wide(h:Tp w Γ te (tyI i j))(h1:i'<=i)(h2:j<=j'):Tp w Γ te (tyI i' j'):=h.sub λG v ⟨x,e,a,b⟩=>⟨x,e,Int.le_trans h1 a,Int.le_trans b h2⟩
theorem Tp.add(ha:Tp w Γ ta (tyI i j))(hb:Tp w Γ tb (tyI i' j')):Tp w Γ (tOp (rI0 λx y=>.int (x+y)) ta tb) (tyI (i+i') (j+j')):=fun σ H Q o f q=>ha σ H _ o f λv H1 o1 s1 ⟨x,e1,a1,b1⟩=>hb σ H1 _ o1 (f.same s1) λu H2 o2 s2 ⟨y,e2,a2,b2⟩=>⟨x,y,e1,e2,q _ H2 o2 (s1.trans s2) ⟨_,rfl,by omega,by omega⟩⟩
theorem Tp.neg(ha:Tp w Γ ta (tyI i j)):Tp w Γ (tUn (rU λx=>.int (-x)) ta) (tyI (-j) (-i)):=fun σ H Q o f q=>ha σ H _ o f λv H1 o1 s1 ⟨x,e1,a1,b1⟩=>⟨x,e1,q _ H1 o1 s1 ⟨_,rfl,by omega,by omega⟩⟩
theorem Tp.pow(c:zgR x y):Tp w Γ (tOp (rI zgR λi j=>.int (i^j.toNat)) (tC (.int x)) (tC (.int y))) (tyI (x^y.toNat) (x^y.toNat)):=fun σ H Q o f q=>⟨x,y,rfl,rfl,c,q _ H o (Same.refl _) ⟨_,rfl,Int.le_refl _,Int.le_refl _⟩⟩
theorem Tp.ofI(h:Tp w Γ te (tyI i j))(h1:-(10^29)<=i:=by decide)(h2:j<=10^29:=by decide):Tp w Γ te (ZK 0 100):=h.sub λG v ⟨x,e,a,b⟩=>by
 rw[e];exact Th.int (by omega) (Nat.le_refl _)
theorem Tp.ofL(h:Tp w Γ te (tyL k n lo hi)):Tp w Γ te (ZK (k+1) ((n+1)*hi)):=h.sub λG v ⟨a,vs,e,h1,_,h2,h3⟩=>by
 rw[e];exact Th.lst h1 h3 (Nat.mul_le_mul_left _ h2)
theorem Tp.le(h:Tp w Γ te (ZK k n))(hk:k<=k')(hn:n<=n'):Tp w Γ te (ZK k' n'):=h.sub λG v t=>t.le hk hn
theorem TpA.nil:TpA w Γ W0 0 0 0:=fun σ H Q o f q=>q [] H o (Same.refl _) rfl (by simp)
theorem TpA.cons(h:Tp w Γ te (ZK k n))(ht:TpA w Γ t k' n' m):TpA w Γ (j8 te t) (max k k') (max n n') (m+1):=fun σ H Q o f q=>h σ H _ o f λv H1 o1 s1 t1=>ht σ H1 _ o1 (f.same s1) λvs H2 o2 s2 e2 t2=>q (v::vs) H2 o2 (s1.trans s2) (by rw[List.length_cons,e2]) λu hu=>by
 rcases List.mem_cons.mp hu with rfl | hu
 ·exact (t1.same s2).le (Nat.le_max_left _ _) (Nat.le_max_left _ _)
 ·exact (t2 u hu).le (Nat.le_max_right _ _) (Nat.le_max_right _ _)
theorem ZG(h:x<=10000):x<=sizeLine:=Nat.le_trans h (by decide)
theorem Tp.lst(h:TpA w Γ t k n m)(hm:m<=10000:=by decide):Tp w Γ (zc1 t) (tyL k n m m):=fun σ H Q o f q=>h σ H _ o f λvs H1 o1 s1 e1 t1=>⟨ZG (by rw[e1];exact hm),λp hp=>by
 obtain⟨o2,s2,e2⟩:=w.new (.lst vs) o1 hp;exact q (.ref p) _ o2 (s1.trans s2) ⟨p,vs,rfl,e2,Nat.le_of_eq e1.symm,Nat.le_of_eq e1,λu hu=>(t1 u hu).same s2⟩⟩
theorem Tp.emp:Tp w Γ zeL (ZK 1 0):=fun σ H Q o f q p hp=>by
 obtain⟨o2,s2,e2⟩:=w.new (.dK []) o hp;exact q (.ref p) _ o2 s2 (Th.emp e2 (Nat.le_refl _))
theorem zfw{x:V}(h:x∈(List.replicate c xs).flatten):x∈xs:=by
 obtain⟨l,hl,hx⟩:=List.mem_flatten.mp h;rw[(List.mem_replicate.mp hl).2]at hx;exact hx
theorem Tp.rep{c c':Nat}(ha:Tp w Γ ta (tyL k n lo hi))(hb:Tp w Γ tb (tyI c c'))(hm:hi*c'<=10000:=by decide)(hc:c'<=10000:=by decide):Tp w Γ (tOp zhH ta tb) (tyL k n (lo*c) (hi*c')):=fun σ H Q o f q=>ha σ H _ o f λv H1 o1 s1 t1=>hb σ H1 _ o1 (f.same s1) λu H2 o2 s2 ⟨y,e2,a2,b2⟩=>by
 obtain⟨a,vs,e1,g1,l1,m1,r1⟩:=(tyL k n lo hi).mo s2 t1;have hy:y.toNat<=c':=by omega
 have hz:c<=y.toNat:=by omega
 refine⟨a,y,vs,e1,e2,w.out g1,by omega,by omega,ZG (Nat.le_trans (Nat.mul_le_mul m1 hy) hm),λp hp=>?_⟩;obtain⟨o3,s3,e3⟩:=w.new (.lst (List.replicate y.toNat vs).flatten) o2 hp;refine q (.ref p) _ o3 (s1.trans (s2.trans s3)) ⟨p,_,rfl,e3,by rw[len_rep,Nat.mul_comm lo];exact Nat.mul_le_mul hz l1,by rw[len_rep,Nat.mul_comm hi];exact Nat.mul_le_mul hy m1,λx hx=>(r1 x (zfw hx)).same s3⟩
theorem TpO.none:TpO w Γ zae:=fun σ H Q o f q=>q _ H o (Same.refl _)
theorem TpO.some(h:Tp w Γ te (tyI i j)):TpO w Γ (zea te):=fun σ H Q o f q=>h σ H _ o f λv H1 o1 s1 ⟨x,e,_⟩=>⟨x,e,q _ H1 o1 s1⟩
theorem za6(vs:List V)(lo hi:Option Int):(∀v∈uh vs lo hi,v∈vs)/\(uh vs lo hi).length<=vs.length:=by
 unfold uh;refine⟨λv hv=>List.mem_of_mem_drop (List.mem_of_mem_take hv),?_⟩;rw[List.length_take,List.length_drop];omega
theorem Tp.sl(h:Tp w Γ te (wN T lo hi))(hl:TpO w Γ tl)(hu:TpO w Γ tu):Tp w Γ (tSl (zfu K) te tl tu) (wN T 0 hi):=fun σ H Q o f q=>h σ H _ o f λv H1 o1 s1 t1=>hl σ H1 _ o1 (f.same s1) λx H2 o2 s2=>hu σ H2 _ o2 ((f.same s1).same s2) λy H3 o3 s3=>by
 obtain⟨a,vs,e1,g1,l1,m1,r1⟩:=(wN T lo hi).mo (s2.trans s3) t1;refine⟨a,vs,e1,SqL.of (w.out g1),λp hp=>?_⟩;obtain⟨o4,s4,e4⟩:=w.new (.lst (uh vs x y)) o3 hp;exact q (.ref p) _ o4 (s1.trans (s2.trans (s3.trans s4))) ⟨p,_,rfl,e4,Nat.zero_le _,Nat.le_trans (za6 vs x y).2 m1,λu hu=>T.mo s4 (r1 u ((za6 vs x y).1 u hu))⟩
theorem Tp.rev(h:Tp w Γ te (wN T lo hi)):Tp w Γ (zgr K te) (wN T lo hi):=fun σ H Q o f q=>h σ H _ o f λv H1 o1 s1 ⟨a,vs,e1,g1,l1,m1,r1⟩=>⟨a,vs,e1,SqL.of (w.out g1),λp hp=>by
 obtain⟨o4,s4,e4⟩:=w.new (.lst vs.reverse) o1 hp;exact q (.ref p) _ o4 (s1.trans s4) ⟨p,_,rfl,e4,by rw[List.length_reverse];exact l1,by rw[List.length_reverse];exact m1,λu hu=>T.mo s4 (r1 u (List.mem_reverse.mp hu))⟩⟩
theorem Tp.ix(ha:Tp w Γ ta (wN T lo hi))(hb:Tp w Γ tb (tyI 0 j))(hj:j<lo:=by decide):Tp w Γ (tOp (zgx K) ta tb) T:=fun σ H Q o f q=>ha σ H _ o f λv H1 o1 s1 t1=>hb σ H1 _ o1 (f.same s1) λu H2 o2 s2 ⟨y,e2,a2,b2⟩=>by
 obtain⟨a,vs,e1,g1,l1,m1,r1⟩:=(wN T lo hi).mo s2 t1;have hy:y.toNat<vs.length:=by omega
 refine⟨a,vs,y,vs[y.toNat],e1,e2,SqL.of (w.out g1),?_,q _ H2 o2 (s1.trans s2) (r1 _ (List.getElem_mem hy))⟩;have:=yV (List.getElem?_eq_getElem hy);rwa[show ((y.toNat:Nat))=y by omega]at this
theorem Tp.len(h:Tp w Γ te (wN T lo hi)):Tp w Γ (tCB (λxs H Q=>∃p ys,xs=[.ref p]/\(SqL K H p ys\/SqT K H p ys)/\Q (.int ys.length) H) (j8 te W0)) (tyI lo hi):=fun σ H Q o f q=>h σ H _ o f λv H1 o1 s1 ⟨a,vs,e1,g1,l1,m1,r1⟩=>⟨a,vs,by rw[e1],.inl (SqL.of (w.out g1)),q _ H1 o1 s1 ⟨_,rfl,by omega,by omega⟩⟩
theorem Tp.catT(ha:Tp w Γ ta (wN T lo hi))(hb:Tp w Γ tb (wN T lo' hi'))(hm:hi+hi'<=10000:=by first | decide | omega):Tp w Γ (tOp zha ta tb) (wN T (lo+lo') (hi+hi')):=fun σ H Q o f q=>ha σ H _ o f λv H1 o1 s1 t1=>hb σ H1 _ o1 (f.same s1) λu H2 o2 s2 t2=>by
 obtain⟨a,vs,e1,g1,l1,m1,r1⟩:=(wN T lo hi).mo s2 t1;obtain⟨b,us,e2,g2,l2,m2,r2⟩:=t2;refine⟨a,b,vs,us,e1,e2,w.out g1,w.out g2,ZG (Nat.le_trans (Nat.add_le_add m1 m2) hm),λp hp=>?_⟩;obtain⟨o3,s3,e3⟩:=w.new (.lst (vs++us)) o2 hp;refine q (.ref p) _ o3 (s1.trans (s2.trans s3)) ⟨p,_,rfl,e3,by rw[List.length_append];omega,by rw[List.length_append];omega,λx hx=>?_⟩;rcases List.mem_append.mp hx with hx | hx
 ·exact T.mo s3 (r1 x hx)
 ·exact T.mo s3 (r2 x hx)
theorem TpB.nil:TpB w Γ W0 T 0:=fun σ H Q o f q=>q [] H o (Same.refl _) rfl (by simp)
theorem TpB.cons(h:Tp w Γ te T)(ht:TpB w Γ t T m):TpB w Γ (j8 te t) T (m+1):=fun σ H Q o f q=>h σ H _ o f λv H1 o1 s1 t1=>ht σ H1 _ o1 (f.same s1) λvs H2 o2 s2 e2 t2=>q (v::vs) H2 o2 (s1.trans s2) (by rw[List.length_cons,e2]) λu hu=>by
 rcases List.mem_cons.mp hu with rfl | hu
 ·exact T.mo s2 t1
 ·exact t2 u hu
theorem Tp.lstT(h:TpB w Γ t T m)(hm:m<=10000:=by decide):Tp w Γ (zc1 t) (wN T m m):=fun σ H Q o f q=>h σ H _ o f λvs H1 o1 s1 e1 t1=>⟨ZG (by rw[e1];exact hm),λp hp=>by
 obtain⟨o2,s2,e2⟩:=w.new (.lst vs) o1 hp;exact q (.ref p) _ o2 (s1.trans s2) ⟨p,vs,rfl,e2,Nat.le_of_eq e1.symm,Nat.le_of_eq e1,λu hu=>T.mo s2 (t1 u hu)⟩⟩
theorem Tp.wideL(h:Tp w Γ te (wN T lo hi))(s:∀G v,T.p G v->T'.p G v)(h1:lo'<=lo)(h2:hi<=hi'):Tp w Γ te (wN T' lo' hi'):=h.sub λG v ⟨a,vs,e,g,l,m,r⟩=>⟨a,vs,e,g,Nat.le_trans h1 l,Nat.le_trans m h2,λu hu=>s G u (r u hu)⟩
theorem Tp.ofLI(h:Tp w Γ te (wN (tyI i j) lo' hi'))(h1:-(10^29)<=i:=by decide)(h2:j<=10^29:=by decide):Tp w Γ te (tyL 0 100 lo' hi'):=h.wideL (λG v ⟨x,e,a,b⟩=>by rw[e];exact Th.int (by omega) (Nat.le_refl _)) (Nat.le_refl _) (Nat.le_refl _)
theorem Tp.tupOf(h:Tp w Γ te (tyL k n lo hi)):Tp w Γ (tCB (λxs H Q=>∃p ys,xs=[.ref p]/\((SqL K H p ys/\∀l,H l=none->Q (.ref l) (upd H l (.tup ys)))\/(SqT K H p ys/\Q (.ref p) H))) (j8 te W0)) (ZK (k+1) ((n+1)*hi)):=fun σ H Q o f q=>h σ H _ o f λv H1 o1 s1 ⟨a,vs,e1,g1,l1,m1,r1⟩=>⟨a,vs,by rw[e1],.inl ⟨SqL.of (w.out g1),λp hp=>by
 obtain⟨o4,s4,e4⟩:=w.new (.tup vs) o1 hp;exact q (.ref p) _ o4 (s1.trans s4) (Th.tup e4 (λu hu=>(r1 u hu).same s4) (Nat.mul_le_mul_left _ m1))⟩⟩
end
def TpS(w:View)(Γ:Cxt)(ts:TS)(Γ':Cxt)(T:Ty):Prop:=∀D σ H,w.ok H->Fits Γ (w.v H) σ->(∀σ' H',w.ok H'->Same (w.v H) (w.v H')->Fits Γ' (w.v H') σ'->D.nx σ' H')->(∀v H',w.ok H'->Same (w.v H) (w.v H')->T.p (w.v H') v->D.rt v H')->ts D σ H
section
variable {w:View} {Γ Γ1 Γ2:Cxt} {te:TE} {t u:TS} {T T1:Ty}
theorem TpS.seq(h1:TpS w Γ t Γ1 T)(h2:TpS w Γ1 u Γ2 T):TpS w Γ (zdx t u) Γ2 T:=λD σ H o f qn qr=>h1 _ σ H o f (fun σ1 H1 o1 s1 f1=>h2 D σ1 H1 o1 f1 (fun σ2 H2 o2 s2 f2=>qn σ2 H2 o2 (s1.trans s2) f2) (λv H2 o2 s2 r2=>qr v H2 o2 (s1.trans s2) r2)) qr
theorem TpS.ret(h:Tp w Γ te T):TpS w Γ (zhs te) Γ2 T:=λD σ H o f qn qr=>h σ H _ o f qr
end
theorem TpS.go(h:TpS w Γ ts Γ' T)(o:w.ok H)(f:Fits Γ (w.v H) σ)(qn:∀σ' H',w.ok H'->Same (w.v H) (w.v H')->Fits Γ' (w.v H') σ'->D.nx σ' H')(qr:∀v H',w.ok H'->Same (w.v H) (w.v H')->T.p (w.v H') v->D.rt v H'):ts D σ H:=h D σ H o f qn qr
theorem Tp.asg2(h:Tp w Γ te T1)(o:w.ok H)(f:Fits Γ (w.v H) σ)(q:∀v H',w.ok H'->Same (w.v H) (w.v H')->T1.p (w.v H') v->u D (σ.set i (some v)) H'):zdx (Qp te (ZV i)) u D σ H:=h σ H _ o f q
theorem Fits.any:∀{G:Hp} (σ:St),Fits (σ.map λ_=>none) G σ:=λ{G} σ=>⟨by rw[List.length_map],λi T h=>by rw[List.getElem?_map]at h;cases e:σ[i]? with | none=>rw[e]at h;cases h | some x=>rw[e]at h;cases h⟩
def CSub:Cxt->Cxt->Prop
 |[],[]=>True
 |_::Γ,none::Γ'=>CSub Γ Γ'
 |some T::Γ,some T' :: Γ'=>(∀G v,T.p G v->T'.p G v)/\CSub Γ Γ'
 |_,_=>False
theorem CSub.fits:∀{Γ Γ':Cxt} {G:Hp} {σ:St},CSub Γ Γ'->Fits Γ G σ->Fits Γ' G σ
 |[],[],_,_,_,f=>f
 |[],_::_,_,_,h,_=>by simp[CSub]at h
 |_::_,[],_,_,h,_=>by simp[CSub]at h
 |a::Γ,none::Γ',G,[],h,f=>by have:=f.1;simp at this
 |a::Γ,none::Γ',G,v::σ,h,f=>Fits.skip (CSub.fits (by exact h) ⟨by simpa using f.1,λi T e=>f.2 (i+1) T e⟩)
 |none::Γ,some T' :: Γ',G,σ,h,f=>by simp[CSub]at h
 |some T::Γ,some T' :: Γ',G,[],h,f=>by have:=f.1;simp at this
 |some T::Γ,some T' :: Γ',G,v::σ,h,f=>by
  obtain⟨u,e,q⟩:=f.2 0 T rfl;have e:v=some u:=by simpa using e
  subst e;exact Fits.cons (h.1 _ _ q) (CSub.fits h.2 ⟨by simpa using f.1,λi T e=>f.2 (i+1) T e⟩)
def idV:View:=⟨id,λ_=>True,λh=>h,λo _ h=>⟨trivial,zm h,zg⟩⟩
section
variable {w:View} {Γ:Cxt} {te ta tb:TE} {K:W.Frag} {vs us:List V}
end
def tyQ(k n:Nat)(P:PyData->Bool):Ty:=⟨λG v=>∃d,ThAt G d v/\Fit k n d/\P d=true,λs ⟨d,h,f,p⟩=>⟨d,h.same s,f,p⟩⟩
section
variable {w:View} {Γ:Cxt} {te ta tb:TE} {K:W.Frag} {k n m k' n' m' lo hi:Nat} {i j:Int} {P P':PyData->Bool}
theorem Th.q(t:Th G k n v)(h:∀d,ThAt G d v->P d=true):(tyQ k n P).p G v:=let ⟨d,a,f⟩:=t;⟨d,a,f,h d a⟩
end
mutual
theorem ThAt.uniq{H:Hp}:∀{d e:PyData} {v:V},ThAt H d v->ThAt H e v->d=e
 |.none,e,v,h,g=>by rw[ThAt]at h;subst h;cases e<;>rw[ThAt]at g<;>first | (obtain⟨a,ys,z,_⟩:=g;cases z;done) | (obtain⟨_,a,z,_⟩:=g;cases z;done) | rfl | (cases g;done)
 |.bool b,e,v,h,g=>by rw[ThAt]at h;subst h;cases e<;>rw[ThAt]at g<;>first | (obtain⟨a,ys,z,_⟩:=g;cases z;done) | (obtain⟨_,a,z,_⟩:=g;cases z;done) | (cases g;rfl) | (cases g;done)
 |.int i,e,v,h,g=>by rw[ThAt]at h;subst h;cases e<;>rw[ThAt]at g<;>first | (obtain⟨a,ys,z,_⟩:=g;cases z;done) | (obtain⟨_,a,z,_⟩:=g;cases z;done) | (cases g;rfl) | (cases g;done)
 |.str x,e,v,h,g=>by rw[ThAt]at h;subst h;cases e<;>rw[ThAt]at g<;>first | (obtain⟨a,ys,z,_⟩:=g;cases z;done) | (obtain⟨_,a,z,_⟩:=g;cases z;done) | (cases g;rfl) | (cases g;done)
 |.list xs,e,v,h,g=>by
  rw[ThAt]at h;obtain⟨a,ys,rfl,h2,h3⟩:=h;cases e with
  |list xs'=>
   rw[ThAt]at g;obtain⟨b,zs,z,g2,g3⟩:=g;cases z
   rw[h2]at g2;cases g2
   rw[ThsAt.uniq h3 g3]
  |tuple xs'=>rw[ThAt]at g;obtain⟨b,zs,z,g2,g3⟩:=g;cases z;rw[h2]at g2;cases g2
  |dict kvs=>rw[ThAt]at g;obtain⟨_,b,z,g2⟩:=g;cases z;rw[h2]at g2;cases g2
  |none=>rw[ThAt]at g;cases g
  |bool _=>rw[ThAt]at g;cases g
  |int _=>rw[ThAt]at g;cases g
  |str _=>rw[ThAt]at g;cases g
 |.tuple xs,e,v,h,g=>by
  rw[ThAt]at h;obtain⟨a,ys,rfl,h2,h3⟩:=h;cases e with
  |tuple xs'=>
   rw[ThAt]at g;obtain⟨b,zs,z,g2,g3⟩:=g;cases z
   rw[h2]at g2;cases g2
   rw[ThsAt.uniq h3 g3]
  |list xs'=>rw[ThAt]at g;obtain⟨b,zs,z,g2,g3⟩:=g;cases z;rw[h2]at g2;cases g2
  |dict kvs=>rw[ThAt]at g;obtain⟨_,b,z,g2⟩:=g;cases z;rw[h2]at g2;cases g2
  |none=>rw[ThAt]at g;cases g
  |bool _=>rw[ThAt]at g;cases g
  |int _=>rw[ThAt]at g;cases g
  |str _=>rw[ThAt]at g;cases g
 |.dict kvs,e,v,h,g=>by
  rw[ThAt]at h;obtain⟨h0,a,rfl,h2⟩:=h;cases e with
  |dict kvs'=>
   rw[ThAt]at g;obtain⟨g0,b,z,g2⟩:=g;cases z
   rw[h2]at g2;have q:dV (unD kvs)=dV (unD kvs'):=by injection (Option.some.inj g2)
   rw[h0,g0,ze1 q]
  |list xs'=>rw[ThAt]at g;obtain⟨b,zs,z,g2,g3⟩:=g;cases z;rw[h2]at g2;cases g2
  |tuple xs'=>rw[ThAt]at g;obtain⟨b,zs,z,g2,g3⟩:=g;cases z;rw[h2]at g2;cases g2
  |none=>rw[ThAt]at g;cases g
  |bool _=>rw[ThAt]at g;cases g
  |int _=>rw[ThAt]at g;cases g
  |str _=>rw[ThAt]at g;cases g
theorem ThsAt.uniq{H:Hp}:∀{ds es:List PyData} {ys:List V},ThsAt H ds ys->ThsAt H es ys->ds=es
 |[],es,ys,h,g=>by
  rw[ThsAt]at h;subst h;cases es with
  |nil=>rfl
  |cons e es=>rw[ThsAt]at g;obtain⟨y,zs,z,_⟩:=g;cases z
 |d::ds,es,ys,h,g=>by
  rw[ThsAt]at h;obtain⟨y,zs,rfl,h2,h3⟩:=h;cases es with
  |nil=>rw[ThsAt]at g;cases g
  |cons e es=>
   rw[ThsAt]at g;obtain⟨y',zs',z,g2,g3⟩:=g;cases z
   rw[ThAt.uniq h2 g2,ThsAt.uniq h3 g3]
end
theorem Th.fit(t:Th H k n v)(h:ThAt H d v):Fit k n d:=by
 obtain⟨e,g,f⟩:=t;rw[h.uniq g];exact f
theorem ThsAt.map{α:Type}{H:Hp}{f:α->PyData}{g:α->V}:∀{xs:List α},(∀x∈xs,ThAt H (f x) (g x))->ThsAt H (xs.map f) (xs.map g)
 |[],_=>by rw[List.map_nil,List.map_nil,ThsAt]
 |x::xs,h=>by
  rw[List.map_cons,List.map_cons,ThsAt];exact⟨_,_,rfl,h x (.head _),ThsAt.map λy hy=>h y (.tail _ hy)⟩
theorem ThAt.ints{ns:List Int}(h:H a=some (.lst (ns.map V.int))):ThAt H (.list (ns.map .int)) (.ref a):=by
 exact⟨a,_,rfl,h,ThsAt.map λi _=>by rw[ThAt]⟩
end L2
namespace L2
open PySem PyProof.Rows
def shT:PyData->Nat
 |.none=>0 | .bool _=>1 | .int _=>2 | .str _=>3 | .list _=>4 | .tuple _=>5 | .dict _=>6
def tyS(k n s:Nat):Ty:=⟨λG v=>∃d,ThAt G d v/\Fit k n d/\shT d=s,λs ⟨d,h,f,p⟩=>⟨d,h.same s,f,p⟩⟩
theorem ThsAt.mem(h:ThsAt H ds vs)(hv:v∈vs):∃d∈ds,ThAt H d v:=by
 obtain⟨j,hj,rfl⟩:=List.mem_iff_getElem.mp hv;obtain⟨d,hd,t⟩:=h.get (List.getElem?_eq_getElem hj);exact⟨d,List.mem_of_getElem? hd,t⟩
theorem ThsAt.back{H:Hp}:∀{ds:List PyData} {vs:List V},ThsAt H ds vs->∀d∈ds,∃v∈vs,ThAt H d v
 |[],_,_,d,hd=>by cases hd
 |e::ds,vs,h,d,hd=>by
  rw[ThsAt]at h;obtain⟨y,zs,rfl,h1,h2⟩:=h;rcases List.mem_cons.mp hd with rfl | hd
  ·exact⟨y,.head _,h1⟩
  ·obtain⟨v,hv,t⟩:=ThsAt.back h2 d hd;exact⟨v,.tail _ hv,t⟩
section
variable {w:View} {Γ:Cxt} {te ta tb:TE} {K:W.Frag} {k n m k' n' m' lo hi lo' hi' s:Nat} {i j:Int} {P P':PyData->Bool} {d e:PyData}
theorem Th.sh(t:Th G k n v)(h:∀d,ThAt G d v->shT d=s):(tyS k n s).p G v:=let ⟨d,a,f⟩:=t;⟨d,a,f,h d a⟩
theorem Tp.leL(h:Tp w Γ te (tyL k n lo hi))(hk:k<=k':=by decide)(hn:n<=n':=by decide):Tp w Γ te (tyL k' n' lo hi):=h.wideL (λ_ _ t=>Th.le t hk hn) (Nat.le_refl _) (Nat.le_refl _)
theorem TpS.post(h:TpS w Γ t Γ1 TR)(c:CSub Γ1 Γ2):TpS w Γ t Γ2 TR:=λD σ H o f qn qr=>h D σ H o f (fun σ' H' o' s' f'=>qn σ' H' o' s' (c.fits f')) qr
end
open PySem PySem.Spec PyProof.Rows
section
variable {w:View} {Γ:Cxt} {te ta tb:TE} {lo hi lo' hi':Nat} {i j i' j':Int} {K:W.Frag}
theorem Tp.takeU{c:Nat}(h:Tp w Γ te (wN T lo hi)):Tp w Γ (tSl (zfu K) te zae (zea (tC (.int c)))) (wN T 0 c):=fun σ H Q o f q=>h σ H _ o f λv H1 o1 s1 ⟨a,vs,e1,g1,l1,m1,r1⟩=>⟨c,rfl,by
 refine⟨a,vs,e1,SqL.of (w.out g1),λp hp=>?_⟩;rw[zfs];obtain⟨o3,s3,e3⟩:=w.new (.lst (vs.take c)) o1 hp;exact q (.ref p) _ o3 (s1.trans s3) ⟨p,_,rfl,e3,Nat.zero_le _,by rw[List.length_take];omega,λu hu=>T.mo s3 (r1 u (List.mem_of_mem_take hu))⟩⟩
end
section
variable {X:Cx} {pins:List (Addr×Obj)} {σ:St} {H:Hp} {s:Shared} {h':Heap} {T:Addr} {o:HO} {t':Nat} {fp:List Addr}
theorem Inv.turnedL(I:Inv X pins σ H s)(k:∀b o,b∉fp->s.heap.get? b=some o->h'.get? b=some o)(hf:∀b∈fp,W7 X pins H b):Inv X pins σ H { s with heap:=h',toks:=t' }:=by
 have nf:∀b u,H b=some u->b∉fp:=λb u e hb=>by rw[(hf b hb).1]at e;cases e
 refine I.step (λb hb=>⟨(hf b hb).2.2.2.1,(hf b hb).2.1,(hf b hb).2.2.2.2.1,(hf b hb).2.2.2.2.2⟩) (λb o _ _ hc q _=>k b o hc q) (λb o _ _ hc q _=>⟨o.slots,k b o hc q⟩) (λ_ _ _ _ n=>n)
  (λb o hc q=>⟨o,k b o hc q⟩) (λ_ _ q=>q) (λ_ _ _ q=>q) (λb ps q=>⟨#[],by rw[q];simp⟩) (λm hm=>?_) (λb u q=>?_) I.bare
 ·obtain⟨o,es,ep,ho,r⟩:=hm;exact⟨o,es,ep,k _ o (λz=>(hf _ z).2.1 rfl) ho,r⟩
 ·refine (I.hok b u q).stay (λc v hc z=>k c v ?_ z) (λ_ z=>z) λ_ _ z=>z;rcases hc with rfl | hc
  ·exact nf _ _ q
  ·exact nf _ _ hc
theorem Inv.turnedN(I:Inv X pins σ H s)(k:∀b o,b∉fp->s.heap.get? b=some o->h'.get? b=some o)(hf:∀b∈fp,W7 X pins H b)(hT:s.heap.objs.size<=T)(new:ObjOk X.prog X.w (upd H T o) h' T o):
  Inv X pins σ (upd H T o) { s with heap:=h',toks:=t' }:=by
 have hn:=I.hok.fresh hT;have na:∀b u,H b=some u->b≠T:=λb u e z=>by rw[z,hn]at e;cases e
 have nf:∀b u,H b=some u->b∉fp:=λb u e hb=>by rw[(hf b hb).1]at e;cases e
 refine I.step (λb hb=>⟨(hf b hb).2.2.2.1,(hf b hb).2.1,(hf b hb).2.2.2.2.1,(hf b hb).2.2.2.2.2⟩) (λb o _ _ hc q _=>k b o hc q) (λb o _ _ hc q _=>⟨o.slots,k b o hc q⟩) (λb o hc q n=>by rw[zr (Nat.ne_of_lt (Nat.lt_of_lt_of_le (Heap.lt_size q) hT))];exact n)
  (λb o hc q=>⟨o,k b o hc q⟩) (λb xs q=>by rw[zr (na b _ q)];exact q) (λb o u q=>by rw[zr (na b _ q)];exact q) (λb ps q=>⟨#[],by rw[zr (na b _ q),q];simp⟩) (λm hm=>?_) (λb u q=>?_) I.bare
 ·obtain⟨o,es,ep,ho,r⟩:=hm;exact⟨o,es,ep,k _ o (λz=>(hf _ z).2.1 rfl) ho,r⟩
 ·by_cases hb:b=T
  ·subst hb;rw[zg]at q;cases q
   exact new
  ·rw[zr hb]at q;refine (I.hok b u q).stay (λc v hc z=>k c v ?_ z) (λc z=>by rw[zr (na c _ z)];exact z) λc xs z=>by rw[zr (na c _ z)];exact z
   rcases hc with rfl | hc
   ·exact nf _ _ q
   ·exact nf _ _ hc
end
def Itz(K:W.Frag)(a b:Addr):It :=
 ⟨λi H=>∃xs ys x y,SqL K H a xs/\SqL K H b ys/\xs[i]?=some x/\ys[i]?=some y,λi H v H'=>∃T x y,v=.ref T/\H T=none/\H'=upd H T (.tup [x,y])/\(∀xs,SqL K H a xs->xs[i]?=some x)/\∀ys,SqL K H b ys->ys[i]?=some y,
  λi H=>∃xs ys,SqL K H a xs/\SqL K H b ys/\(xs.length<=i\/ys.length<=i)⟩
theorem zeP{P:Program}{w:World}{K:W.Frag}{elts:List Expr}{k:Nat}{tp:Pos}(a b z TI TO i1 i2:Addr)(D:ZipApart z TI TO i1 i2 a b):Turn P w K (.Tuple elts k tp) (Itz K a b) [z,TI,TO,i1,i2] z
  (λi h=>IsZip h z TI TO .none/\IsPair h TI (.ref i1) (.ref i2)/\(∃u v,IsPair h TO u v)/\h.IsListIter i1 a i/\h.IsListIter i2 b i) where
 mem:=by simp
 obj:=λi h st c hc=>by
  obtain⟨h1,h2,⟨u,v,h3⟩,⟨o4,h4,c4,d4⟩,⟨o5,h5,c5,d5⟩⟩:=st;simp only[List.mem_cons,List.not_mem_nil,or_false]at hc;rcases hc with rfl | rfl | rfl | rfl | rfl
  ·exact⟨_,h1,λv q=>by have q':=q;cases q'⟩
  ·exact⟨_,h2,λv q=>by have q':=q;cases q'⟩
  ·exact⟨_,h3,λv q=>by have q':=q;cases q'⟩
  ·exact⟨o4,h4,λv q=>by rw[d4]at q;cases q⟩
  ·exact⟨o5,h5,λv q=>by rw[d5]at q;cases q⟩
 keep:=λi h h' st kk=>by
  obtain⟨h1,h2,⟨u,v,h3⟩,h4,h5⟩:=st;exact⟨kk z (by simp) _ h1,kk TI (by simp) _ h2,⟨u,v,kk TO (by simp) _ h3⟩,h4.at λo q=>kk i1 (by simp) o q,h5.at λo q=>kk i2 (by simp) o q⟩
 item:=by
  intro X hP hw hK hc i pins s σ H E I hf st hg;subst hP hw hK;obtain⟨xs,ys,x,y,hq1,hq2,hx,hy⟩:=hg;obtain⟨its,rv,p,_⟩:=I.list hq1;obtain⟨its2,rv2,p2,_⟩:=I.list hq2;obtain⟨u,hu,ru⟩:=rv.get hx;obtain⟨v,hv,rv'⟩:=rv2.get hy;obtain⟨h1,h2,⟨u0,v0,h3⟩,h4,h5⟩:=st;refine wpAny_pyNext_zip_item D h1 h2 h3 h4 h5 p.isList p2.isList (by simpa using hu) (by simpa using hv) λh' g1 g3 g4 g5 gT hsz hk=>?_;refine⟨_,rfl,?_⟩;refine wpAny_letOwnedTupleGo_zip g1 λh'' g1' hs'=>?_;have hzl:=Heap.lt_size h1;have gT':=(hs'.2 _ (Nat.ne_of_gt hzl)).trans gT;have I1:Inv X pins σ (upd H s.heap.objs.size (.tup [x,y])) { s with heap:=h'',toks:=s.toks }:=by
   refine I.turnedN (λc o hc q=>?_) hf (Nat.le_refl _) ⟨by show 2<=sizeLine;decide,[u,v],.cons ru (.cons rv' .nil),_,gT',rfl,0,rfl⟩;exact (hs'.2 c (λq=>hc (by simp[q]))).trans (hk c o (λq=>hc (by simp[q])) (λq=>hc (by simp[q])) (λq=>hc (by simp[q])) (λq=>hc (by simp[q])) q)
  have hTI:=(hs'.2 _ D.TIz).trans (hk _ _ D.TIz D.TITO D.TIi1 D.TIi2 h2);refine⟨.ref s.heap.objs.size,_,I1,rfl,⟨s.heap.objs.size,x,y,rfl,I.hok.fresh (Nat.le_refl _),rfl,λzs hz=>by rw[I.list_inj hz hq1];exact hx,λzs hz=>by rw[I.list_inj hz hq2];exact hy⟩,⟨g1',hTI,⟨u,v,(hs'.2 _ D.TOz).trans g3⟩,g4.at λo q=>(hs'.2 _ D.i1z).trans q,g5.at λo q=>(hs'.2 _ D.i2z).trans q⟩,λc hc=>?_⟩;have hcl:c<s.heap.objs.size:=by
   simp only[List.mem_cons,List.not_mem_nil,or_false]at hc;obtain⟨o4,h4,_⟩:=h4;obtain⟨o5,h5,_⟩:=h5;rcases hc with rfl | rfl | rfl | rfl | rfl
   ·exact hzl
   ·exact Heap.lt_size h2
   ·exact Heap.lt_size h3
   ·exact Heap.lt_size h4
   ·exact Heap.lt_size h5
  rw[zr (Nat.ne_of_lt hcl)];exact (hf c hc).1
 done:=by
  intro X hP hw hK hc i pins s σ H E I hf st hg;subst hP hw hK;obtain⟨xs,ys,hq1,hq2,hx⟩:=hg;obtain⟨its,rv,p,_⟩:=I.list hq1;obtain⟨its2,rv2,p2,_⟩:=I.list hq2;obtain⟨h1,h2,⟨u0,v0,h3⟩,h4,h5⟩:=st;have l1:=rv.length;have l2:=rv2.length;refine wpAny_pyNext_zip_end (I.ok.hd hc) D h1 h2 h3 h4 h5 p.isList p2.isList (by
   rcases hx with hx | hx
   ·exact .inl (by simp;omega)
   ·exact .inr (by simp;omega)) λh' hk=>⟨rfl,I.turnedL (λc o hc q=>?_) hf⟩
  exact hk c o (λq=>hc (by simp[q])) (λq=>hc (by simp[q])) (λq=>hc (by simp[q])) (λq=>hc (by simp[q])) q
 self:=λ_ _ _ _ _ st h=>wpAny_pyIter_zip st.1 h
section
variable {X:Cx}
theorem boot_zip:bootBuiltins "zip"= some (.type "zip"):=by decide +kernel
def zh9(K:W.Frag)(tl:TA):TI:=fun σ H R=>tl σ H λvs H1=>Ex2 λa b=>vs=[.ref a,.ref b]/\(∃xs,SqL K H1 a xs)/\(∃ys,SqL K H1 b ys)/\R (Itz K a b) H1
theorem zdO(K:W.Frag){elts:List Expr}{k:Nat}{tp:Pos}{p pos:Pos}(hg:Gl X "zip")(hm:X.mg "zip"= none)(ha:PA X [a,b] ta)(he:starEach [a,b] X.env=(false,eval a X.env)::starEach [b] X.env:=by rfl)(hpl:(backTo pos (starEach [b] X.env)).any (·.1)=false:=by rfl)(ek:X.K=K:=by rfl):
  PI X (.Tuple elts k tp) (.Call (.Name "zip" p) [a,b] [] pos) (zh9 K ta):=by
 subst ek;intro pins s σ H R I h;refine Call_ (jD I hg hm boot_zip (PyProof.Rows.callWith_type1 (thn (ha pos pins s σ H _ I h) λus s1 ⟨vs,H1,I1,r1,q1⟩=>?_) he hpl));obtain⟨l1,l2,e,⟨xs,hq1⟩,⟨ys,hq2⟩,q⟩:=q1;subst e;obtain⟨u1,u2,rfl,r1,r2⟩:=vals2 r1;cases r1
 cases r2;obtain⟨its,rv,pl,_⟩:=I1.list hq1
 obtain⟨its2,rv2,pl2,_⟩:=I1.list hq2;have b1:l1<s1.heap.objs.size:=by obtain⟨_,e,_⟩:=pl.isList;exact Heap.lt_size e
 have b2:l2<s1.heap.objs.size:=by obtain⟨_,e,_⟩:=pl2.isList;exact Heap.lt_size e
 refine call_zip_2 pl.isList pl2.isList λh' g1 g2 g3 g4 g5 hsz hk=>?_;refine wpAny_pyIter_zip g1 ?_;have I2:=I1.kept (t':=s1.toks) λb o q=>hk b o q;refine⟨s1.heap.objs.size+4,[s1.heap.objs.size+4,s1.heap.objs.size+2,s1.heap.objs.size+3,s1.heap.objs.size,s1.heap.objs.size+1],_,_,H1,rfl,I2,zeP l1 l2 _ _ _ _ _ (zipApart_new b1 b2),⟨g1,g2,⟨_,_,g3⟩,g4,g5⟩,λb hb=>?_,q⟩;have hb2:s1.heap.objs.size<=b:=by
  simp only[List.mem_cons,List.not_mem_nil,or_false]at hb;rcases hb with rfl | rfl | rfl | rfl | rfl<;>first | exact Nat.le_refl _ | exact Nat.le_add_right _ _
 exact I1.fpOk hb2 (I1.hok.fresh hb2)
theorem zc5{K:W.Frag}(Pv:Nat->List V->Hp->Prop)(hlen:xs.length=ys.length)(h0:Pv 0 [] H)(hl:∀i zs H,i<=xs.length->Pv i zs H->SqL K H a xs/\SqL K H b ys)(hs:∀i x y zs H T,xs[i]?=some x->ys[i]?=some y->Pv i zs H->H T=none->g (.ref T) (nones ns++uJ js σ) (upd H T (.tup [x,y])) fun σ' H1=>(∃vs:St,vs.length=ns.length/\σ'=vs++uJ js σ)/\tt σ' H1 λc H2=>if c=true then te σ' H2 λv H3=>Pv (i+1) (zs++[v]) H3 else Pv (i+1) zs H2)(hz:∀i zs H,i<xs.length->Pv i zs H->zs.length<sizeLine)(hd:∀zs H,Pv xs.length zs H->∀D,H D=none->Q (.ref D) (upd H D (.lst zs))):
  qx (Itz K a b) ns js g tt te σ Q H:=by
 refine⟨λi m zs H=>m=xs.length-i/\i<=xs.length/\Pv i zs H,⟨xs.length,by simp,Nat.zero_le _,h0⟩,?_⟩;rintro i m zs H ⟨rfl,hi,p⟩;obtain⟨q1,q2⟩:=hl i zs H hi p;by_cases hlt:i<xs.length
 ·have hx:=List.getElem?_eq_getElem hlt;have hy:ys[i]?=some (ys[i]'(by omega)):=List.getElem?_eq_getElem (by omega);refine .inr ⟨⟨xs,ys,_,_,q1,q2,hx,hy⟩,hz i zs H hlt p,Pv (i+1),λzs' H' p'=>⟨xs.length-(i+1),by omega,rfl,hlt,p'⟩,λv H' yl=>?_⟩;obtain⟨T,x,y,rfl,hT,rfl,k1,k2⟩:=yl;have e1:=k1 xs q1;have e2:=k2 ys q2;rw[hx]at e1;rw[hy]at e2;cases e1
  cases e2;exact hs i _ _ zs H T hx hy p hT
 ·have e:i=xs.length:=by omega
  subst e;exact .inl ⟨⟨xs,ys,q1,q2,.inl (Nat.le_refl _)⟩,hd zs H p⟩
end
section
variable {X:Cx} {tg:Expr}
end
section
variable {X:Cx} {o e:Expr} {es:List Expr} {to:TE} {t:TA} {name:Str} {apos cpos:Pos} {T id:String} {r:V->List V->Hp->VK->Prop}
end
end L2
namespace Lw
def figs(b n:Nat):List Int:=if h:2<=b/\b<=n then figs b (n / b)++[((n % b:Nat):Int)] else [(n:Int)]
termination_by n
decreasing_by exact Nat.div_lt_self (by omega) (by omega)
theorem qj(h:n<b):figs b n=[(n:Int)]:=by
 rw[figs,dif_neg (by omega)]
theorem XR(h2:2<=b)(h:b<=n):figs b n=figs b (n / b)++[((n % b:Nat):Int)]:=by
 rw[figs,dif_pos ⟨h2,h⟩]
def ahead(b r:Nat):List Int:=if r=0 then [] else figs b r
theorem Ys(h2:2<=b):figs b n=ahead b (n / b)++[((n % b:Nat):Int)]:=by
 unfold ahead;by_cases h:n<b
 ·rw[qj h,if_pos (Nat.div_eq_of_lt h),Nat.mod_eq_of_lt h];rfl
 ·rw[XR h2 (by omega),if_neg];have:=Nat.div_pos (a:=n) (b:=b) (by omega) (by omega);omega
theorem Uh(h2:2<=b)(hr:0<r):ahead b r=ahead b (r / b)++[((r % b:Nat):Int)]:=by
 rw[<-Ys h2];unfold ahead;rw[if_neg (by omega)]
theorem ZZ{b:Nat}(h2:2<=b):∀(m n:Nat),n<2^m->(figs b n).length<=m+1
 |0,n,h=>by rw[qj (by simp at h;omega)];simp
 |m+1,n,h=>by
  by_cases hn:n<b
  ·rw[qj hn];simp
  ·rw[XR h2 (by omega),List.length_append,List.length_singleton];have h3:n / b<=n / 2:=Nat.div_le_div_left h2 (by omega);have h4:n / 2<2^m:=by rw[Nat.pow_succ]at h;omega
   have:=ZZ h2 m (n / b) (by omega);omega
theorem zeX(h2:2<=b):∀n,∀f∈figs b n,0<=f/\f<b:=by
 intro n
 induction n using Nat.strongRecOn with
 |_ n ih=>
  intro f hf;by_cases hn:n<b
  ·rw[qj hn]at hf;have:f=n:=by simpa using hf
   omega
  ·rw[XR h2 (by omega)]at hf;rcases List.mem_append.mp hf with hf | hf
   ·exact ih (n / b) (Nat.div_lt_self (by omega) (by omega)) f hf
   ·have e:f=((n % b:Nat)):=by simpa using hf
    have:=Nat.mod_lt n (show 0<b by omega);omega
theorem zcx:figs b n≠[]:=by
 rw[figs];split
 ·simp
 ·simp
def tops(b:Nat):Nat->Nat->List Int
 |0,n=>[((n / b^0:Nat):Int)]
 |k+1,n=>((n / b^(k+1):Nat):Int)::tops b k (n % b^(k+1))
theorem Q0{b:Nat}:∀(k n:Nat),tops b (k+1) n=tops b k (n / b)++[((n % b:Nat):Int)]
 |0,n=>by simp[tops]
 |k+1,n=>by
  rw[tops,Q0 k (n % b^(k+2)),tops,List.cons_append];have e:b^(k+1+1)=b*b^(k+1):=by rw[Nat.pow_succ,Nat.mul_comm]
  have e1:n % b^(k+1+1) / b=n / b % b^(k+1):=by rw[e,Nat.mod_mul_right_div_self]
  have e2:n % b^(k+1+1) % b=n % b:=by rw[e,Nat.mod_mul_right_mod]
  have e3:n / b^(k+1+1)=n / b / b^(k+1):=by rw[e,Nat.div_div_eq_div_mul]
  rw[e1,e2,e3]
theorem Yx{b:Nat}(h2:2<=b):∀(k n:Nat),n<b^(k+1)->(k=0\/b^k<=n)->tops b k n=figs b n
 |0,n,h,_=>by
  rw[qj (by simpa using h)];simp[tops]
 |k+1,n,h,hk=>by
  have hge:b^(k+1)<=n:=by
   rcases hk with z | z
   ·omega
   ·exact z
  have hb:=Nat.le_trans (by rw[Nat.pow_succ];exact Nat.le_mul_of_pos_left b (Nat.pow_pos (by omega))) hge;rw[Q0,XR h2 hb];have h3:n / b<b^(k+1):=by
   rw[Nat.div_lt_iff_lt_mul (by omega),<-Nat.pow_succ];exact h
  have h4:b^k<=n / b:=by
   rw[Nat.le_div_iff_mul_le (by omega),<-Nat.pow_succ];exact hge
  rw[Yx h2 k (n / b) h3 (.inr h4)]
theorem zbp{b:Nat}:∀(k n:Nat),(tops b k n).length=k+1
 |0,n=>rfl
 |k+1,n=>by rw[tops,List.length_cons,zbp k]
def YG(st fs:List Int):Bool:=(List.range fs.length).any λk=>decide ((fs.drop k).take st.length=st)
theorem vI(h:st≠[]):YG st fs=true↔∃k,(fs.drop k).take st.length=st:=by
 unfold YG;simp only[List.any_eq_true,List.mem_range,decide_eq_true_eq];constructor
 ·rintro⟨k,_,e⟩;exact⟨k,e⟩
 ·rintro⟨k,e⟩;refine⟨k,?_,e⟩;have hl:=congrArg List.length e;rw[List.length_take,List.length_drop]at hl;have:0<st.length:=List.length_pos_iff.mpr h;omega
theorem zcf(h:st≠[]):YG st fs=(List.range ((fs.length:Int)-st.length+1).toNat).any λk=>decide ((fs.drop k).take st.length=st):=by
 rw[Bool.eq_iff_iff,vI h];simp only[List.any_eq_true,List.mem_range,decide_eq_true_eq];constructor
 ·rintro⟨k,e⟩;refine⟨k,?_,e⟩;have hl:=congrArg List.length e;rw[List.length_take,List.length_drop]at hl;have:0<st.length:=List.length_pos_iff.mpr h;omega
 ·rintro⟨k,_,e⟩;exact⟨k,e⟩
def lacks(ls:ZA)(fs:List Int):Bool:=!ls.any λst=>YG st fs
theorem zec(h:st≠[])(q:YG st fs=true):YG st (fs++gs)=true:=by
 rw[vI h]at q ⊢;obtain⟨k,e⟩:=q;refine⟨k,?_⟩;have hl:=congrArg List.length e;rw[List.length_take,List.length_drop]at hl;have hp:=List.length_pos_iff.mpr h;rw[List.drop_append_of_le_length (by omega),List.take_append_of_le_length (by rw[List.length_drop];omega)];exact e
theorem QQ(ne:∀l∈ls,l≠[])(h:lacks ls (fs++gs)=true):lacks ls fs=true:=by
 unfold lacks at *;rw[Bool.not_eq_true',List.any_eq_false]at h ⊢;intro l hl q;exact h l hl (zec (ne l hl) q)
theorem zbX(h:st∈ls)(ne:st≠[])(pre:List Int):lacks ls (pre++st)=false:=by
 unfold lacks;rw[Bool.not_eq_false',List.any_eq_true];refine⟨st,h,(vI ne).mpr ⟨pre.length,?_⟩⟩;rw[List.drop_left,List.take_of_length_le (Nat.le_refl _)]
def vN(ls:ZA)(fs:List Int):Bool:=ls.any λst=>decide (st.take fs.length=fs)
def yd(ls:ZA):List Int->List Int
 |[]=>[]
 |x::fs=>if vN ls (x::fs) then x::fs else yd ls fs
theorem Zo{ls:ZA}:∀(i:Nat) (fs:List Int),i<=fs.length->(∀k,k<i->vN ls (fs.drop k)=false)->yd ls fs=yd ls (fs.drop i)
 |0,_,_,_=>rfl
 |i+1,[],h,_=>by simp at h
 |i+1,x::fs,h,q=>by
  have h0:=q 0 (by omega);rw[List.drop_zero]at h0;rw[yd,if_neg (by rw[h0];decide),List.drop_succ_cons];exact Zo i fs (by simpa using h) λk hk=>by have:=q (k+1) (by omega);rwa[List.drop_succ_cons]at this
theorem V5(h:vN ls fs=true):yd ls fs=fs:=by
 cases fs with
 |nil=>rfl
 |cons x fs=>rw[yd,if_pos h]
theorem zd4(hi:i<=fs.length)(h:∀k,k<i->vN ls (fs.drop k)=false)(q:vN ls (fs.drop i)=true):yd ls fs=fs.drop i:=by
 rw[Zo i fs hi h,V5 q]
theorem zbJ(h:∀k,k<fs.length->vN ls (fs.drop k)=false):yd ls fs=[]:=by
 rw[Zo fs.length fs (Nat.le_refl _) h,List.drop_length];rfl
end Lw
namespace L2
open PySem PySem.Spec PyProof.Rows PySem.W
def zcL(c:Addr)(q:Str):HO:=.ext λh=>h.CodeRec (.ref c) q
def zcn(P:Addr)(pos:Pos)(q:Str)(H:Hp)(c:Addr):Prop:=H P=some (.tbl #[rawInt pos.line,rawInt pos.col,.ref c])/\H c=some (zcL c q)
def WQ(P:Addr)(pos:Pos)(q:Str)(H:Hp):Prop:=H P=some (.tbl #[])\/∃c,zcn P pos q H c
section
variable {P:Program} {w:World} {K:Frag} {mg:Str->Option Value} {base:Heap} {N ps:List Str} {k:Nat} {A:Around} {outer:List Env} {s:Shared} {H:Hp} {us:List Value} {vs:List V} {Q:VK} {E:XK} {f:Addr} {o:Obj}
 {name qual:Str} {params:Arguments} {body:Expr} {scope:Scope} {pm cdv ct:Value} {args:Args}
theorem zgf(ho:s.heap.get? f=some o)(hd:o.data=.func (kla_fn name qual params body scope [] pm cdv ct))(hcd:s.heap.CodeRec cdv qual)(S:zE N ps scope)(hr:Room (k+1) A)(e0:Env0 P w K mg base A outer s H)(hb:BindsTo s (kla_fn name qual params body scope [] pm cdv ct) args (ps.zip us))(hl:vs.length=ps.length)(r:Vals vs us)(hbody:∃t,PE (YD CX0 P w K mg base N qual scope f cdv A outer s H E) body t/\t (start N vs) H Q):codeAny (model P w) A (.call (.ref f) args) (CR CX0 outer P w H s Q E) s:=by
 have lim:=e0.mod.nolimit.keeps λb o e=>(e0.bs b o e).1;have hkind:∀y∈ps.zip us,scope.names.lookup y.1=some .local\/(scope.names.lookup y.1=some .cell/\((cellsFrom (s.heap.objs.size+1) scope.names []).lookup y.1).isSome=true):=λ⟨n,v⟩ hy=>by
  rcases S.par n (List.of_mem_zip hy).1 with q | q
  ·exact .inl q
  ·exact .inr ⟨q,W.cellsFrom_some _ _ _ (.inl q)⟩
 refine kla_callFunE hr.depth ho hd S.co S.gen rfl hcd (hb _ _ _ _ ?_);refine wpAny_newFunctionEnv_cells S.kind hkind λenv he s1 x=>?_;subst he;refine⟨lim.keeps x.toInCall.keep,kla_codeExpr ?_⟩;obtain⟨t,ht,hq⟩:=hbody;have I:Inv (YD CX0 P w K mg base N qual scope f cdv A outer s H E) [] (start N vs) H s1:=Jp S hr.hd e0 hl r x;refine wpAny_mono (ht [] s1 (start N vs) H _ I hq) (λu s' hs=>?_) λe s' hs=>hs;obtain⟨v,H',J,rv,q⟩:=hs;exact⟨v,H',J.os,J.bare,J.base,J.hok,rv,q⟩
end
section
variable {X:Cx} {pins:List (Addr×Obj)} {σ:St} {H:Hp} {s:Shared} {params:Arguments} {body:Expr} {scope:Scope} {pos:Pos} {c P:Addr} {Q:Value->Shared->Prop}
theorem zei(I:Inv X pins σ H s)(hdef:defaultsOf params X.env=([],[]))(hcl:closureFor scope X.env=pure [])(hcode:X.env.code=.ref c)(hK:codeHdIn X.K c P=true)(hB:X.base.BuiltinsAt X.mg P)(hgP:mainGlobals≠P)(hT:WQ P pos (X.env.qual ++ "<lambda>") H)(h:∀f c' H' s' pm ct,Inv X pins σ H' s'->zcn P pos (X.env.qual ++ "<lambda>") H' c'->s'.heap.get? f=some (kla_obj "<lambda>" (X.env.qual ++ "<lambda>") params body scope [] pm c' ct)->H' f=none->s.heap.objs.size<=f ->
   (∀b u,b≠P->H b=some u->H' b=some u)->Q (.ref f) s'):
  wpAny (model X.prog X.w) X.A (eval (.Lambda params body scope pos) X.env) Q X.xe s:=by
 have C:=codeHd_of_K I.kIn hK;have hg:=I.mod.glob.keeps I.bk;have hb:s.heap.BuiltinsAt X.mg P:=by
  obtain⟨bm,o,b1,b2,b3,b4,b5,b6,b7,b8⟩:=hB;exact⟨bm,o,b1,b2,b3,b4,I.bk _ _ b5,b6,b7,b8⟩
 refine kla_eval hdef ?_;rcases hT with hP | ⟨c',hP,hc'⟩
 ·have hPo:=I.hok P _ hP;refine kla_makeFunction hcl I.ok.glob hg hcode C hPo (show TriplesOk [] from trivial) rfl hgP hb λc' ct h' tk hx hge hlt hrec htb=>?_;have htb':=htb;have hPc:P≠c':=λz=>by
   have:=Heap.lt_size hPo;rw[z]at this;exact absurd (Nat.lt_of_lt_of_le this hge) (Nat.lt_irrefl _)
  have hHc:=I.hok.fresh hge;have old:∀b o,b≠P->s.heap.get? b=some o->(h'.push (kla_obj "<lambda>" (X.env.qual ++ "<lambda>") params body scope [] ((X.mg "__name__").getD .none) c' ct)).get? b=some o:=λb o hb e=>Heap.get?_push_of_some _ (hx b o hb e);have nP:∀b,H b=none->b≠P:=λb n z=>by rw[z,hP]at n;cases n
  have up:∀b u,b≠P->H b=some u->upd (upd H P (.tbl #[rawInt pos.line,rawInt pos.col,.ref c'])) c' (zcL c' (X.env.qual ++ "<lambda>")) b=some u:=λb u hb e=>by
   rw[zr (λz=>by rw[z,hHc]at e;cases e),zr hb];exact e
  have upn:∀b,b≠P->b≠c'->H b=none->upd (upd H P (.tbl #[rawInt pos.line,rawInt pos.col,.ref c'])) c' (zcL c' (X.env.qual ++ "<lambda>")) b=none:=λb h1 h2 e=>by
   rw[zr h2,zr h1];exact e
  have J:Inv X pins σ (upd (upd H P (.tbl #[rawInt pos.line,rawInt pos.col,.ref c'])) c' (zcL c' (X.env.qual ++ "<lambda>"))) { s with heap:=h'.push (kla_obj "<lambda>" (X.env.qual ++ "<lambda>") params body scope [] ((X.mg "__name__").getD .none) c' ct),toks:=tk }:=by
   refine I.un ⟨λb o e n _ _=>old b o (nP b n) e,λb o e n _ _=>⟨o.slots,old b o (nP b n) e⟩,λb o e n _=>upn b (nP b n) (Nat.ne_of_lt (Nat.lt_of_lt_of_le (Heap.lt_size e) hge)) n,λb o e _=>?_,λb xs e=>up b _ (λz=>by rw[z,hP]at e;cases e) e,λb o u e=>up b _ (λz=>by rw[z,hP]at e;cases e) e,λb ps e=>?_⟩ ?_
   ·by_cases hb:b=P
    ·rw[hb];exact⟨_,Heap.get?_push_of_some _ htb'⟩
    ·exact⟨o,old b o hb e⟩
   ·by_cases hb:b=P
    ·rw[hb]at e ⊢;rw[hP]at e;cases e
     exact⟨#[rawInt pos.line,rawInt pos.col,.ref c'],by rw[zr hPc,zg];rfl⟩
    ·exact⟨#[],by rw[up b _ hb e];simp⟩
   ·intro b u e;by_cases hbc:b=c'
    ·subst hbc;rw[zg]at e;cases e
     obtain⟨c2,oc,vs,t,e1,e2,e3,e4⟩:=id hrec;cases e1
     have q:=Heap.get?_push_of_some (kla_obj "<lambda>" (X.env.qual ++ "<lambda>") params body scope [] ((X.mg "__name__").getD .none) b ct) e2;refine⟨⟨b,oc,vs,t,rfl,q,e3,e4⟩,⟨oc,q⟩,λh1 h2 ⟨c3,o3,v3,t3,a1,a2,a3,a4⟩ k=>?_⟩;cases a1
     exact⟨b,o3,v3,t3,rfl,k _ a2,a3,a4⟩
    ·rw[zr hbc]at e;by_cases hbP:b=P
     ·rw[hbP]at e ⊢;rw[zg]at e;cases e
      exact Heap.get?_push_of_some _ htb'
     ·rw[zr hbP]at e;refine (I.hok b u e).stay (λd v hd q=>old d v ?_ q) (λd q=>?_) λd xs q=>?_
      ·rcases hd with rfl | hd
       ·exact hbP
       ·intro z;rw[z,hP]at hd;cases hd
      ·exact up d _ (λz=>by rw[z,hP]at q;cases q) q
      ·exact up d _ (λz=>by rw[z,hP]at q;cases q) q
  have hsz:=Nat.le_of_lt (Nat.lt_of_le_of_lt hge hlt);refine h _ c' _ _ _ ct J ⟨by rw[zr hPc,zg],zg⟩ (Heap.get?_push_size _ rfl) ?_ hsz up;exact upn _ (Nat.ne_of_gt (Nat.lt_of_lt_of_le (Heap.lt_size hPo) hsz)) (Nat.ne_of_gt hlt) (I.hok.fresh hsz)
 ·have hPo:=I.hok P _ hP;refine kla_makeFunctionHit hcl I.ok.glob hg hcode C hPo (show TriplesOk [rawInt pos.line,rawInt pos.col,.ref c'] from trivial) (cv:=.ref c') ?_ hb λct h' tk hk hsz=>?_
  ·have:=codeAmong_snoc (pos:=pos) (c:=.ref c') [] trivial rfl;exact this
  ·exact h _ c' H _ _ ct (I.kept λb u e=>Heap.get?_push_of_some _ (hk b u e)) ⟨hP,hc'⟩ (Heap.get?_push_size _ rfl) (I.hok.fresh hsz) hsz (λb u _ e=>e)
end
end L2
namespace HT
def vA(a b:List Int):Bool:=if a.length=b.length then lexLt a b else decide (a.length<b.length)
theorem zad(a:List Int):vA a a=false:=by unfold vA;rw[if_pos rfl,yW]
theorem Vh(a b c:List Int)(h1:vA a b=true)(h2:vA b c=true):vA a c=true:=by
 unfold vA at *;by_cases e1:a.length=b.length
 ·rw[if_pos e1]at h1;by_cases e2:b.length=c.length
  ·rw[if_pos e2]at h2;rw[if_pos (e1.trans e2)];exact wQ a b c h1 h2
  ·rw[if_neg e2]at h2;rw[if_neg (by omega)];have:=of_decide_eq_true h2;exact decide_eq_true (by omega)
 ·rw[if_neg e1]at h1;have h1':=of_decide_eq_true h1;by_cases e2:b.length=c.length
  ·rw[if_neg (by omega)];exact decide_eq_true (by omega)
  ·rw[if_neg e2]at h2;have:=of_decide_eq_true h2;rw[if_neg (by omega)];exact decide_eq_true (by omega)
theorem zbx(a b:List Int)(h:a≠b):vA b a=!vA a b:=by
 unfold vA;by_cases e:a.length=b.length
 ·rw[if_pos e,if_pos e.symm,Za a b h]
 ·rw[if_neg e,if_neg (Ne.symm e),Bool.eq_iff_iff];simp;omega
theorem zh1{ls:ZA}(nd:ls.Nodup):Ord (λi j=>vA (ls.getD i []) (ls.getD j [])) ls.length:=by
 have ge:∀i,(h:i<ls.length)->ls.getD i []=ls[i]:=λi h=>by rw[List.getD_eq_getElem?_getD,List.getElem?_eq_getElem h];rfl
 refine⟨λi j k _ _ _ h1 h2=>Vh _ _ _ h1 h2,λi j hi hj hij h=>?_,λi j hi hj h=>?_⟩
 ·have ne:ls.getD i []≠ls.getD j []:=λz=>by
   rw[ge i hi,ge j hj]at z;exact hij ((List.getElem_inj nd).mp z)
  have:=zbx _ _ ne;rw[h]at this;exact this
 ·cases e:vA (ls.getD j []) (ls.getD i []) with
  |false=>rfl
  |true=>
   have:=Vh _ _ _ h e;rw[zad]at this;cases this
end HT
namespace L2
open PySem PySem.Spec PyProof.Rows PySem.W
section
variable {X:Cx} {pins:List (Addr×Obj)} {σ:St} {H:Hp} {s:Shared}
theorem zbt(I:Inv X pins σ H s)(h:H p=some (.tup [.int n,.ref z])):∃t o m,s.heap.get? p=some o/\o.cls=.type "tuple"/\o.data=.seq #[.int n t,.ref z] m:=by
 obtain⟨_,its,r,o,e,hc,m,hd⟩:=I.hok p _ h;cases r with
 |cons r1 r2=>
  cases r2 with
  |cons r3 r4=>
   cases r4;obtain⟨t,rfl⟩:=r1
   cases r3;exact⟨t,o,m,e,hc,hd⟩
theorem zg1(I:Inv X pins σ H s)(hp:H p=some (.tup [.int as.length,.ref za]))(hq:H q=some (.tup [.int bs.length,.ref zb]))(ha:H za=some (.lst (as.map V.int)))(hb:H zb=some (.lst (bs.map V.int)))(hu:A.units+2<cLine)(h:Q (HT.vA as bs) s):wpAny (model X.prog X.w) A (keyLt' (tuples' true) (.ref p) (.ref q)) Q E s:=by
 obtain⟨t,o,m,e,_,hd⟩:=zbt I hp;obtain⟨t',o',m',e',_,hd'⟩:=zbt I hq;refine kat_lt e hd e' hd' ?_;refine kat_cons (wpAny_eqBool_int ?_);unfold HT.vA at h;by_cases hl:as.length=bs.length
 ·rw[if_pos hl]at h;have e1:(as.length == (bs.length:Int))=true:=by rw[hl];simp
  rw[e1];refine kat_yes (kat_cons ?_);refine (VL I 1 (by rw[uI];exact Nat.le_refl _) (TrAt.ints (SqL.of ha)) (TrAt.ints (SqL.of hb)) rfl rfl (by omega)).eq _ _ _ _ ?_;rw[uY];by_cases hab:as=bs
  ·rw[decide_eq_true hab];refine kat_yes (kat_nil ?_);rw[hab,HT.yW]at h;exact h
  ·rw[decide_eq_false hab];refine kat_no (kat_one _ _ ?_);obtain⟨its,r1,p1,_⟩:=I.list (SqL.of ha);obtain⟨its2,r2,p2,_⟩:=I.list (SqL.of hb);exact HT.Vp p1.isList p2.isList (by simpa using intsAre_of r1) (by simpa using intsAre_of r2) (by omega) h
 ·rw[if_neg hl]at h;have e1:(as.length == (bs.length:Int))=false:=by simp;omega
  rw[e1];refine kat_no ?_;refine oneLt_int ?_;have:decide (as.length<(bs.length:Int))=decide (as.length<bs.length):=by
   simp
  rw[this];exact h
end
end L2
set_option maxHeartbeats 4000000
namespace L2
open PySem PySem.Spec PyProof.Rows PySem.W
section
variable {X:Cx} {pins:List (Addr×Obj)} {σ:St} {H:Hp} {s:Shared}
structure zdk (X:Cx) (pins:List (Addr×Obj)) (n:Nat) (a:Addr):Prop where
 s0:X.s₀.heap.objs.size<=a
 lo:a≠X.env.locals
 ce:∀x c,X.env.cells.lookup x=some c->c≠a
 fs:a∉X.fs
 pn:∀p∈X.pn++pins,p.1≠a
 ge:n<=a
theorem Inv.late(I:Inv X pins σ H s){a:Addr}(h:s.heap.objs.size<=a):zdk X pins s.heap.objs.size a :=
 ⟨Nat.le_trans I.sz h,Nat.ne_of_gt (Nat.lt_of_lt_of_le I.lt h),λx c e z=>by
  obtain⟨v,o,ho,_⟩:=I.cell x c e;rw[z]at ho;exact absurd (Nat.lt_of_lt_of_le (Heap.lt_size ho) h) (Nat.lt_irrefl _),I.nofs h,λp hp z=>by
  obtain⟨e,_⟩:=I.pin p hp;rw[z]at e;exact absurd (Nat.lt_of_lt_of_le (Heap.lt_size e) h) (Nat.lt_irrefl _),h⟩
theorem Inv.tell(I:Inv X pins σ H s)(L:zdk X pins m a)(hn:H a=none)(k:∀b o,b≠a->s.heap.get? b=some o->h'.get? b=some o)(hv:Vals xs its)(hz:xs.length<=sizeLine)(ha:h'.get? a=some (seqObj "list" its.toArray n)):Inv X pins σ (upd H a (.lst xs)) { s with heap:=h',toks:=t' }:=by
 have na:∀b u,H b=some u->b≠a:=λb u e z=>by rw[z,hn]at e;cases e
 refine I.step (ch:=[a]) (λb hb=>?_) (λb o _ _ hc e _=>k b o (λz=>hc (by simp[z])) e) (λb o _ _ hc e _=>⟨o.slots,k b o (λz=>hc (by simp[z])) e⟩) (λb o hc e n=>by rw[zr (λz=>hc (by simp[z]))];exact n)
  (λb o hc e=>⟨o,k b o (λz=>hc (by simp[z])) e⟩) (λb xs e=>by rw[zr (na b _ e)];exact e) (λb o u e=>by rw[zr (na b _ e)];exact e) (λb ps e=>⟨#[],by rw[zr (na b _ e),e];simp⟩) (λm hm=>?_) (λb u e=>?_) I.bare
 ·have e:b=a:=by simpa using hb
  subst e;exact⟨.inr L.s0,L.lo,L.ce,L.pn⟩
 ·obtain⟨o,es,ep,ho,r⟩:=hm;exact⟨o,es,ep,k _ o (Ne.symm L.lo) ho,r⟩
 ·by_cases hb:b=a
  ·subst hb;rw[zg]at e;cases e
   exact⟨hz,its,n,hv,ha⟩
  ·rw[zr hb]at e;refine (I.hok b u e).stay (λc v hc q=>k c v ?_ q) (λc q=>by rw[zr (na c _ q)];exact q) λc xs q=>by rw[zr (na c _ q)];exact q
   rcases hc with rfl | hc
   ·exact hb
   ·exact na c _ hc
def zgV(H:Hp)(zs:ZB)(pl:List Addr):Prop:=∀j z,zs[j]?=some z->j<pl.length->∃p,pl[j]?=some p/\H p=some (.tup [.int z.2.length,.ref z.1])
theorem kat_tups(I:Inv X pins σ H s):∀pl:List Addr,(∀p∈pl,∃(n:Int) (z:Addr),H p=some (.tup [.int n,.ref z]))->∃fs:List Value,KatTups s.heap (pl.map Value.ref) fs/\fs.length=pl.length/\∀v∈fs,∃n t,v=Value.int n t
 |[],_=>⟨[],KatTups.nil,rfl,λv hv=>by cases hv⟩
 |p::pl,h=>by
  obtain⟨fs,h1,h2,h3⟩:=kat_tups I pl λq hq=>h q (.tail _ hq);obtain⟨n,z,e⟩:=h p (.head _);obtain⟨t,o,m,e1,e2,e3⟩:=zbt I e;refine⟨.int n t::fs,KatTups.cons e1 e2 e3 rfl h1,by simp[h2],λv hv=>?_⟩;rcases List.mem_cons.mp hv with rfl | hv
  ·exact⟨n,t,rfl⟩
  ·exact h3 v hv
theorem zeE{zs:ZB}(I:Inv X ((f,fo)::(a,seqObj "list" #[] e1)::pins) σ H s)(La:zdk X pins n a)(Lk:zdk X ((f,fo)::(a,seqObj "list" #[] e1)::pins) n kS)(hkS:s.heap.get? kS=some (seqObj "list" #[] 0))(hkn:H kS=none)(hz:∀z∈zs,H z.1=some (.lst (z.2.map V.int)))(nd:(zs.map (·.2)).Nodup)(h60:zs.length<=60)(hu:A.units+2<cLine)(turn:∀H' s' pins' z,Inv X pins' σ H' s'->(f,fo)∈pins'->Same H H'->z∈zs ->
   wpAny (model X.prog X.w) A (call (.ref f) [.ref z.1]) (EP X pins' σ λv H2=>∃p,v=.ref p/\H' p=none/\H2=upd H' p (.tup [.int z.2.length,.ref z.1])) (λ_ _=>False) s')(done:∀(H':Hp) (s':Shared) (zs':ZB),Inv X pins σ (upd H' a (.lst (zs'.map λz=>V.ref z.1))) s'->Same H H'->H' a=none->zs'.Perm zs->zs'.Pairwise (λx y=>HT.vA x.2 y.2=true)->P (.done (.ret .none)) s'):
  wpAny (model X.prog X.w) A (ksk_rest a (.ref f) false (zs.map λz=>Value.ref z.1).toArray e1 (.ref kS)) P E s:=by
 unfold ksk_rest;refine wpAny_bind (wpAny_rule ?_)
 first
  |rw[List.forIn_toArray]
  | (rw[<-Array.forIn_toList];simp only[List.toList_toArray])
  |rw[<-Array.forIn_toList]
 refine wpAny_bind (ksk_fold (λi s'=>∃(H':Hp) (pl:List Addr) (e:Nat),Inv X ((f,fo)::(a,seqObj "list" #[] e1)::pins) σ H' s'/\s'.heap.get? kS=some (seqObj "list" (pl.map Value.ref).toArray e)/\H' kS=none/\pl.length=i/\zgV H' zs pl/\Same H H') (zs.map λz=>Value.ref z.1) 0 s
  ⟨H,[],0,I,hkS,hkn,rfl,λj z _ h=>by simp at h,Same.refl _⟩ ?step ?fin)
 case step=>
  rintro j x s' hx ⟨H',pl,e,I',hk',hkn',hpl,hkeys,sm⟩;rw[Nat.zero_add]at hpl ⊢;rw[List.getElem?_map]at hx;obtain⟨z,hzj,ez⟩:=Option.map_eq_some_iff.mp hx;subst ez;have hzm:=List.mem_of_getElem? hzj;have hj:j<zs.length:=(List.getElem?_eq_some_iff.mp hzj).1;have I2:Inv X ((kS,seqObj "list" (pl.map Value.ref).toArray e)::(f,fo)::(a,seqObj "list" #[] e1)::pins) σ H' s':=I'.pins_of λp hp=>by
   rcases List.mem_cons.mp hp with rfl | hp
   ·exact⟨hk',hkn',Lk.lo,Lk.fs,λv z=>by cases z⟩
   ·exact I'.pin p (List.mem_append_right _ hp)
  refine wpAny_bind (wpAny_attempt (wpAny_mono (turn H' s' _ z I2 (by simp) sm hzm) (λv s'' he=>?_) λ_ _ hF=>hF.elim));obtain⟨v',H2,I3,rv,p,rfl,hpf,rfl⟩:=he;cases rv
  have pk:=I3.pin (kS,seqObj "list" (pl.map Value.ref).toArray e) (List.mem_append_right _ (.head _));have I4:Inv X ((f,fo)::(a,seqObj "list" #[] e1)::pins) σ (upd H' p (.tup [.int z.2.length,.ref z.1])) s'':=I3.pins_of λq hq=>I3.pin q (List.mem_append_right _ (.tail _ hq));obtain⟨c2,hc2⟩:∃c2,(s''.heap.update kS (Obj.mapSeq (·.push (.ref p)))).get? kS=some (seqObj "list" ((pl.map Value.ref).toArray.push (.ref p)) c2):=⟨_,get?_update_seq pk.1 (·.push (.ref p))⟩
  have hsl:(pl.map Value.ref).toArray.size<=60:=by rw[List.size_toArray,List.length_map];omega
  dsimp only;refine wpAny_bind (listUpdate_at pk.1 rfl ?_ (Nat.le_trans hsl (by decide)) (by rw[Array.size_push];exact Nat.le_trans (Nat.succ_le_succ hsl) (by decide)));refine wpAny_pure ⟨rfl,_,pl++[p],c2,I4.turned (t':=s''.toks) (λb o hb q=>?_) pk.2.1 Lk.lo (.inr Lk.s0) Lk.ce Lk.pn,?_,pk.2.1,by rw[List.length_append,List.length_singleton,hpl],λi y hy hi=>?_,sm.trans (zm hpf)⟩
  ·rw[Heap.get?_update_other _ _ (Ne.symm hb)];exact q
  ·rw[hc2];simp
  ·by_cases hlt:i<pl.length
   ·obtain⟨p',e1',e2'⟩:=hkeys i y hy hlt;exact⟨p',by rw[List.getElem?_append_left hlt];exact e1',by rw[zr (zx e2' hpf)];exact e2'⟩
   ·have ei:i=pl.length:=by rw[List.length_append,List.length_singleton]at hi;omega
    have ej:i=j:=by omega
    rw[ej,hzj]at hy;cases hy
    exact⟨p,by rw[ei];simp,zg⟩
 case fin=>
  rintro s' ⟨H',pl,e,I',hk',hkn',hpl,hkeys,sm⟩;rw[Nat.zero_add,List.length_map]at hpl
  try dsimp only
  refine wpAny_bind (listItems_at hk' rfl ?_);have ga:=I'.pin (a,seqObj "list" #[] e1) (List.mem_append_right _ (.tail _ (.head _)));have Ip:Inv X pins σ H' s':=I'.pins_of λq hq=>I'.pin q (by
   rcases List.mem_append.mp (List.mem_append_right X.pn hq) with h | h
   ·exact List.mem_append_left _ h
   ·exact List.mem_append_right _ (.tail _ (.tail _ h)))
  have nka:kS≠a:=λz=>Lk.pn (a,seqObj "list" #[] e1) (List.mem_append_right _ (.tail _ (.head _))) z.symm;have tail:∀(st:SortSt) (zs':ZB),(arrOf st).map (·.2)=(zs'.map λz=>Value.ref z.1).toArray->failedOf st=none->zs'.Perm zs->zs'.Pairwise (λx y=>HT.vA x.2 y.2=true) ->
    wpAny (model X.prog X.w) A (ksk_tail a false e1 (.ref kS) st) P E s':=by
   intro st zs' hout hfl pm pw;have hlen:zs'.length<=60:=by rw[pm.length_eq];exact h60
   have s1:=Heap.SameBut.update s'.heap kS (Obj.mapSeq λ_=>(#[]:Array Value));have na1:(s'.heap.update kS (Obj.mapSeq λ_=>(#[]:Array Value))).get? a=some (seqObj "list" #[] e1):=(s1.2 a nka.symm).trans ga.1;obtain⟨c2,hc2⟩:∃c2,((s'.heap.update kS (Obj.mapSeq λ_=>(#[]:Array Value))).update a (Obj.mapSeq λ_=>(zs'.map λz=>Value.ref z.1).toArray)).get? a=some (seqObj "list" (zs'.map λz=>Value.ref z.1).toArray c2):=
    ⟨_,get?_update_seq na1 λ_=>(zs'.map λz=>Value.ref z.1).toArray⟩
   have I5:Inv X pins σ H' { s' with heap:=s'.heap.update kS (Obj.mapSeq λ_=>(#[]:Array Value)),toks:=s'.toks }:=Ip.turned (λb o hb q=>by rw[Heap.get?_update_other _ _ (Ne.symm hb)];exact q) hkn' Lk.lo (.inr Lk.s0) Lk.ce (λq hq=>Lk.pn q (by
    rcases List.mem_append.mp hq with h | h
    ·exact List.mem_append_left _ h
    ·exact List.mem_append_right _ (.tail _ (.tail _ h))))
   have I6:=I5.tell (t':=s'.toks) (h':=(s'.heap.update kS (Obj.mapSeq λ_=>(#[]:Array Value))).update a (Obj.mapSeq λ_=>(zs'.map λz=>Value.ref z.1).toArray)) La ga.2.1 (λb o hb q=>by rw[Heap.get?_update_other _ _ (Ne.symm hb)];exact q) (Yy zs') (by rw[List.length_map];exact Nat.le_trans hlen (by decide)) hc2;unfold ksk_tail
   try dsimp only
   refine wpAny_bind (listUpdate_at hk' rfl ?_ (by rw[List.size_toArray,List.length_map,hpl];exact Nat.le_trans h60 (by decide)) (Nat.zero_le _));refine wpAny_bind (wpAny_letGo ?_);refine wpAny_bind (seqEpoch_at na1 rfl ?_);simp only[Bool.false_eq_true,if_false];rw[hout];refine wpAny_bind (listUpdate_at na1 rfl ?_ (Nat.zero_le _) (by rw[List.size_toArray,List.length_map];exact Nat.le_trans hlen (by decide)));rw[hfl];simp only[bne_self_eq_false,Bool.false_eq_true,if_false];exact wpAny_pure (done H' _ zs' I6 sm ga.2.1 pm pw)
  unfold ksk_end
  try dsimp only
  simp only[Bool.false_eq_true,if_false];have hvl:(zs.map λz=>Value.ref z.1).toArray.size=zs.length:=by rw[List.size_toArray,List.length_map]
  by_cases h2:(zs.map λz=>Value.ref z.1).toArray.size<2
  ·rw[if_pos h2,if_pos h2];refine wpAny_bind (wpAny_pure ?_);rw[StateT.run_pure];refine wpAny_bind (wpAny_pure ?_)
   try dsimp only
   refine tail _ zs ?_ rfl (List.Perm.refl _) ?_
   ·show (((pl.map Value.ref).toArray.zip (zs.map λz=>Value.ref z.1).toArray).map (·.2))=_;apply Array.toList_inj.mp;rw[Array.toList_map,Array.toList_zip,List.map_snd_zip (by simp[hpl])]
   ·rw[hvl]at h2
    match zs,h2 with
    |[],_=>exact .nil
    |[_],_=>exact List.pairwise_singleton _ _
  ·rw[if_neg h2,if_neg h2];rw[hvl]at h2;have hkl:(pl.map Value.ref).length=(zs.map λz=>Value.ref z.1).length:=by rw[List.length_map,List.length_map,hpl]
   have hk2:∀j,j<zs.length->∃p,pl[j]?=some p/\H' p=some (.tup [.int (zs.getD j (0,[])).2.length,.ref (zs.getD j (0,[])).1])/\zs.getD j (0,[])∈zs:=λj hj=>by
    have e:zs.getD j (0,[])=zs[j]:=by rw[List.getD_eq_getElem?_getD,List.getElem?_eq_getElem hj];rfl
    rw[e];obtain⟨p,e1,e2⟩:=hkeys j zs[j] (List.getElem?_eq_getElem hj) (by omega);exact⟨p,e1,e2,List.getElem_mem hj⟩
   obtain⟨fs,ht,hfl,hfi⟩:=kat_tups I' pl λp hp=>by
    obtain⟨j,hj,rfl⟩:=List.getElem_of_mem hp;obtain⟨p',e1,e2,_⟩:=hk2 j (by omega);rw[List.getElem?_eq_getElem hj]at e1;cases e1
    exact⟨_,_,e2⟩
   refine wpAny_bind (kat_kind (T:=.type "int") ht (by omega) (λv hv=>?_) (by decide) ?_)
   ·obtain⟨n,t,rfl⟩:=hfi v hv;exact Looks.of_pure rfl
   have ls2:(zs.map (·.2)).length=zs.length:=List.length_map ..;have ask:(kas_sort (zs.map λz=>Value.ref z.1).length).kasWp (kas_ask X.prog X.w A (tuples' true) (pl.map Value.ref)) (λp s''=>s''=s'/\(HT.Pm zs.length p/\HT.Up (λi j=>HT.vA ((zs.map (·.2)).getD i []) ((zs.map (·.2)).getD j [])) p zs.length)) s':=by
    rw[List.length_map];have O:=HT.zh1 nd;rw[ls2]at O;refine HT.KW.wp (n:=zs.length) (λi j C hi hj hC=>?_) _ (HT.zgp O (by omega));obtain⟨p,e1,e2,e3⟩:=hk2 i hi;obtain⟨q,d1,d2,d3⟩:=hk2 j hj;have ei:(zs.map (·.2)).getD i []=(zs.getD i (0,[])).2:=by rw[List.getD_eq_getElem?_getD,List.getD_eq_getElem?_getD,List.getElem?_map,List.getElem?_eq_getElem hi];rfl
    have ej:(zs.map (·.2)).getD j []=(zs.getD j (0,[])).2:=by rw[List.getD_eq_getElem?_getD,List.getD_eq_getElem?_getD,List.getElem?_map,List.getElem?_eq_getElem hj];rfl
    have gi:(pl.map Value.ref).getD i Value.none=.ref p:=by rw[List.getD_eq_getElem?_getD,List.getElem?_map,e1];rfl
    have gj:(pl.map Value.ref).getD j Value.none=.ref q:=by rw[List.getD_eq_getElem?_getD,List.getElem?_map,d1];rfl
    unfold kas_ask;rw[gi,gj];refine zg1 I' e2 d2 (sm _ _ (hz _ e3)) (sm _ _ (hz _ d3)) hu ?_
    try dsimp only at hC
    rw[ei,ej]at hC;exact hC
   have eT:(Value.type "int" != Value.type "tuple")=true:=by decide
   rw[eT];refine wpAny_bind (wpAny_mono (kat_run (ks:=pl.map Value.ref) (vs:=zs.map λz=>Value.ref z.1) (Q:=λst' s''=>∃p:Array Nat,s''=s'/\arrOf st'=p.map (kas_item ((pl.map Value.ref).toArray.zip (zs.map λz=>Value.ref z.1).toArray))/\failedOf st'=none/\HT.Pm zs.length p/\HT.Up (λi j=>HT.vA ((zs.map (·.2)).getD i []) ((zs.map (·.2)).getD j [])) p zs.length)
    hkl (by rw[List.length_map];omega) (by rw[List.length_map];omega) (λp st' s'' _ a2 a3 a4=>⟨p,a4.1,a2,a3,a4.2⟩) ask) ?_ λ_ _ e=>e)
   rintro⟨⟨⟩,st'⟩ s'' ⟨p,rfl,har,hfl2,hpm,hup⟩
   try dsimp only
   have hout:=kat_snds hkl har;have hpl2:p.toList.length=zs.length:=by rw[hpm.pm.length_eq,List.length_range]
   refine tail st' (p.toList.map λi=>zs.getD i (0,[])) ?_ hfl2 (HT.W8 _ zs hpm.pm) ?_
   ·rw[hout,List.map_map];congr 1;refine List.map_congr_left λi hi=>?_;have hi':=List.mem_range.mp (hpm.pm.mem_iff.mp hi);show _=Value.ref (zs.getD i (0,[])).1;rw[List.getD_eq_getElem?_getD,List.getD_eq_getElem?_getD,List.getElem?_map,List.getElem?_eq_getElem hi'];rfl
   ·rw[List.pairwise_map,List.pairwise_iff_getElem];intro i j hi hj hij;have q1:=hup i j hij (by omega);have e1:p.getD i 0=p.toList[i]:=by
     have:i<p.size:=by rw[hpm.sz];omega
     simp[Array.getD,this]
    have e2:p.getD j 0=p.toList[j]:=by
     have:j<p.size:=by rw[hpm.sz];omega
     simp[Array.getD,this]
    rw[e1,e2]at q1;have m1:=List.mem_range.mp (hpm.pm.mem_iff.mp (List.getElem_mem hi));have m2:=List.mem_range.mp (hpm.pm.mem_iff.mp (List.getElem_mem hj));have ei:(zs.map (·.2)).getD p.toList[i] []=(zs.getD p.toList[i] (0,[])).2:=by rw[List.getD_eq_getElem?_getD,List.getD_eq_getElem?_getD,List.getElem?_map,List.getElem?_eq_getElem m1];rfl
    have ej:(zs.map (·.2)).getD p.toList[j] []=(zs.getD p.toList[j] (0,[])).2:=by rw[List.getD_eq_getElem?_getD,List.getD_eq_getElem?_getD,List.getElem?_map,List.getElem?_eq_getElem m2];rfl
    try dsimp only at q1
    rw[ei,ej]at q1;exact q1
theorem zaM{zs:ZB}(I:Inv X ((f,fo)::pins) σ H s)(hl:H l=some (.lst (zs.map λz=>V.ref z.1)))(hz:∀z∈zs,H z.1=some (.lst (z.2.map V.int)))(nd:(zs.map (·.2)).Nodup)(h60:zs.length<=60)(hu:X.A.in1.in1.units+2<cLine)(turn:∀H' s' pins' z,Inv X pins' σ H' s'->(f,fo)∈pins'->Same H H'->z∈zs ->
   wpAny (model X.prog X.w) X.A.in1.in1 (call (.ref f) [.ref z.1]) (EP X pins' σ λv H2=>∃p,v=.ref p/\H' p=none/\H2=upd H' p (.tup [.int z.2.length,.ref z.1])) (λ_ _=>False) s')(q:∀(D:Addr) (H':Hp) (zs':ZB),H D=none->Same H H'->H' D=none->zs'.Perm zs->zs'.Pairwise (λx y=>HT.vA x.2 y.2=true)->Q (.ref D) (upd H' D (.lst (zs'.map λz=>V.ref z.1)))):
  wpAny (model X.prog X.w) X.A (call (.builtin "sorted") [.ref l] [(Str.ofString "key",.ref f)]) (EP X pins σ Q) X.xe s:=by
 obtain⟨its,r1,p1,_⟩:=I.list (SqL.of hl);have e1:=WR r1;subst e1;have hvl:(zs.map λz=>Value.ref z.1).length=zs.length:=List.length_map ..;have hsl:(zs.map λz=>Value.ref z.1).length<=sizeLine:=by rw[hvl,sizeLine_eq];omega
 refine call_function_entry_kw kind_sorted plain_sorted entry_sorted (ksk_s1 _ _) ?_;refine wpAny_bind (wpAny_pure (wpAny_bind (collect_list p1.isList (wpAny_bind (wpAny_newList ?_ hsl)) hsl)));generalize hB:(s.heap.push (seqObj "list" #[] 0)).update s.heap.objs.size (Obj.mapSeq (·++(zs.map λz=>Value.ref z.1).toArray))=B;have hsz:B.objs.size=s.heap.objs.size+1:=by rw[<-hB,Heap.size_update,size_push']
 have keep:∀b o,s.heap.get? b=some o->(B.push (seqObj "list" (zs.map λz=>Value.ref z.1).toArray 0)).get? b=some o:=λb o q=>by
  have hlt:=Heap.lt_size q;rw[Heap.get?_push_ne _ _ _ (by rw[hsz];exact Nat.ne_of_lt (Nat.lt_succ_of_lt hlt)),<-hB,Heap.get?_update_ne _ _ _ _ (Nat.ne_of_lt hlt),Heap.get?_push_ne _ _ _ (Nat.ne_of_lt hlt)];exact q
 have hoL:(B.push (seqObj "list" (zs.map λz=>Value.ref z.1).toArray 0)).get? (s.heap.objs.size+1)=some (seqObj "list" (zs.map λz=>Value.ref z.1).toArray 0):=by
  rw[<-hsz];exact Heap.get?_push_size _ rfl
 have hszB:(B.push (seqObj "list" (zs.map λz=>Value.ref z.1).toArray 0)).objs.size=s.heap.objs.size+2:=by rw[size_push',hsz]
 rw[hsz];refine wpAny_bind (wpAny_holding (wpAny_call_entry_kw slot_list_sort ⟨_,hoL,rfl⟩ entry_list_sort ?body (ksk_l1 _ _)))
 case body=>
  rw[ksk_t1];generalize hG:B.push (seqObj "list" (zs.map λz=>Value.ref z.1).toArray 0)=G at keep hoL hszB;generalize hLd:s.heap.objs.size+1=L at hoL;obtain⟨e1,ho1⟩:∃e1,(G.update L (Obj.mapSeq λ_=>(#[]))).get? L=some (seqObj "list" #[] e1):=⟨_,get?_update_seq hoL λ_=>#[]⟩
  refine wpAny_bind (listItems_at hoL rfl ?_);refine wpAny_bind (listUpdate_at hoL rfl ?_ (by exact hsl) (Nat.zero_le _));refine wpAny_bind (seqEpoch_at ho1 rfl ?_);refine wpAny_bind (wpAny_newTuple ?_ (by exact hsl));refine wpAny_bind (wpAny_newList ?_ (Nat.zero_le _));refine wpAny_holding ?_;generalize hM:(G.update L (Obj.mapSeq λ_=>(#[]))).push (seqObj "tuple" (zs.map λz=>Value.ref z.1).toArray 0)=M;have hMs:M.objs.size=s.heap.objs.size+3:=by rw[<-hM,size_push',Heap.size_update,hszB]
  have hkS:(M.push (seqObj "list" #[] 0)).get? (s.heap.objs.size+3)=some (seqObj "list" #[] 0):=by rw[<-hMs];exact Heap.get?_push_size _ rfl
  have hL2:(M.push (seqObj "list" #[] 0)).get? L=some (seqObj "list" #[] e1):=Heap.get?_push_of_some _ (by rw[<-hM];exact Heap.get?_push_of_some _ ho1);have keep2:∀b o,s.heap.get? b=some o->(M.push (seqObj "list" #[] 0)).get? b=some o:=λb o q=>by
   have hlt:=Heap.lt_size q;refine Heap.get?_push_of_some _ ?_;rw[<-hM];refine Heap.get?_push_of_some _ ?_;rw[Heap.get?_update_ne _ _ _ _ (by rw[<-hLd];exact Nat.ne_of_lt (Nat.lt_succ_of_lt hlt))];exact keep b o q
  have La0:=I.late (a:=L) (by rw[<-hLd];exact Nat.le_succ _);have Lk0:=I.late (a:=s.heap.objs.size+3) (by omega);have I1:Inv X ((f,fo)::pins) σ H { s with heap:=M.push (seqObj "list" #[] 0),toks:=s.toks }:=I.kept keep2;have hLn:H L=none:=I.hok.fresh (by rw[<-hLd];exact Nat.le_succ _);have I2:Inv X ((f,fo)::(L,seqObj "list" #[] e1)::pins) σ H { s with heap:=M.push (seqObj "list" #[] 0),toks:=s.toks }:=I1.pins_of λp hp=>by
   rcases List.mem_cons.mp hp with rfl | hp
   ·exact I1.pin _ (List.mem_append_right _ (.head _))
   ·rcases List.mem_cons.mp hp with rfl | hp
    ·exact⟨hL2,hLn,La0.lo,La0.fs,λv z=>by cases z⟩
    ·exact I1.pin p (List.mem_append_right _ (.tail _ hp))
  have La:zdk X pins s.heap.objs.size L:=⟨La0.s0,La0.lo,La0.ce,La0.fs,λp hp=>La0.pn p (by
   rcases List.mem_append.mp hp with h | h
   ·exact List.mem_append_left _ h
   ·exact List.mem_append_right _ (.tail _ h)),La0.ge⟩
  have Lk:zdk X ((f,fo)::(L,seqObj "list" #[] e1)::pins) s.heap.objs.size (s.heap.objs.size+3):=⟨Lk0.s0,Lk0.lo,Lk0.ce,Lk0.fs,λp hp=>by
   rcases List.mem_append.mp hp with h | h
   ·exact Lk0.pn p (List.mem_append_left _ h)
   ·rcases List.mem_cons.mp h with rfl | h
    ·exact Lk0.pn _ (List.mem_append_right _ (.head _))
    ·rcases List.mem_cons.mp h with rfl | h
     ·show L≠_;omega
     ·exact Lk0.pn p (List.mem_append_right _ (.tail _ h)),Lk0.ge⟩
  rw[hMs];refine zeE I2 La Lk hkS (I.hok.fresh (by omega)) hz nd h60 hu turn λH' s' zs' I' sm hn pm pw=>⟨_,rfl,?_⟩
  exact wpAny_pure ⟨_,rfl,.ref L,_,I',rfl,q L H' zs' hLn sm hn pm pw⟩
end
section
variable {X:Cx} {σ:St} {H:Hp} {s:Shared} {params:Arguments} {body:Expr} {scope:Scope} {pos lpos kpos p:Pos} {c P:Addr} {y:Str} {e:Expr} {te:TE}
theorem zeS(I:Inv X pins σ H s)(hf:(f,kla_obj "<lambda>" q params body scope [] pm c' ct)∈pins)(hL:zcn P lpos q H c')(S:zE [y] [y] scope)(hr:Room (k+1) X.A.in1.in1)(hb:∀pm ct u,bindArgs (kla_fn "<lambda>" q params body scope [] pm (.ref c') ct) ⟨[u],[]⟩=pure [(y,u)])(rv:RelV v u)(hbody:∃t,PE (YD CX0 X.prog X.w X.K X.mg X.base [y] q scope f (.ref c') X.A.in1.in1 X.stack s H E0) body t/\t (start [y] [v]) H Q):
  wpAny (model X.prog X.w) X.A.in1.in1 (call (.ref f) [u]) (EP X pins σ Q) (λ_ _=>False) s:=by
 have pf:=I.pin _ (List.mem_append_right X.pn hf);have hcd:=(I.hok c' _ hL.2).1;refine wpAny_call (codeAny_mono (zgf (us:=[u]) pf.1 rfl hcd S hr I.env0.in1.in1 (BindsTo.of_eq (hb pm ct u)) rfl (.cons rv .nil) hbody) λr s' hq=>?_);cases r with
 |error e=>exact hq
 |ok fl=>
  cases fl with
  |ret u=>exact I.after hq
  |next=>exact False.elim hq
  |brk=>exact False.elim hq
  |cont=>exact False.elim hq
def zey(P:Addr)(lpos:Pos)(q:Str)(te:TE):TE:=fun σ H Q=>te σ H λx H1=>∃(l:Addr) (zs:ZB),x=.ref l/\H1 l=some (.lst (zs.map λz=>V.ref z.1))/\(∀z∈zs,H1 z.1=some (.lst (z.2.map V.int)))/\(zs.map (·.2)).Nodup/\zs.length<=60/\WQ P lpos q H1 /\
 ∀(D:Addr) (zs':ZB) (H2:Hp),H1 D=none->H2 D=none->(∀b u,b≠P->H1 b=some u->H2 b=some u)->WQ P lpos q H2->zs'.Perm zs->zs'.Pairwise (λx y=>HT.vA x.2 y.2=true)->Q (.ref D) (upd H2 D (.lst (zs'.map λz=>V.ref z.1)))
theorem zbu(he:PE X e te)(hg:Gl X "sorted")(hm:X.mg "sorted"= none)(hr:Room (k+3) X.A)(hdef:defaultsOf params X.env=([],[]))(hcl:closureFor scope X.env=pure [])(hcode:X.env.code=.ref c)(hK:codeHdIn X.K c P=true)(hB:X.base.BuiltinsAt X.mg P)(hgP:mainGlobals≠P)(S:zE [y] [y] scope)(hb:∀pm cd ct u,bindArgs (kla_fn "<lambda>" (X.env.qual ++ "<lambda>") params body scope [] pm cd ct) ⟨[u],[]⟩=pure [(y,u)])(hbody:∀(f c':Addr) (s:Shared) (H:Hp) (z:Addr×List Int),H z.1=some (.lst (z.2.map V.int))->∃t,PE (YD CX0 X.prog X.w X.K X.mg X.base [y] (X.env.qual ++ "<lambda>") scope f (.ref c') X.A.in1.in1 X.stack s H E0) body t /\
   t (start [y] [.ref z.1]) H λv H2=>∃p,v=.ref p/\H p=none/\H2=upd H p (.tup [.int z.2.length,.ref z.1]))(hs1:starEach [e] X.env=[(false,eval e X.env)]:=by rfl):
  PE X (.Call (.Name "sorted" p) [e] [⟨some "key",.Lambda params body scope lpos,kpos⟩] pos) (zey P lpos (X.env.qual ++ "<lambda>") te):=by
 intro pins s σ H Q I h;refine wpAny_Call_Name_kw (jD I hg hm boot_sorted ?_ (by decide) (by decide));have ha:=zf he zj hs1;refine callWith_kw (thn (ha pos pins s σ H (λvs H1=>match vs with
  |[x]=>∃l zs,x=.ref l/\H1 l=some (.lst (zs.map λz=>V.ref z.1))/\(∀z∈zs,H1 z.1=some (.lst (z.2.map V.int)))/\(zs.map (·.2)).Nodup/\zs.length<=60/\WQ P lpos (X.env.qual ++ "<lambda>") H1 /\
   ∀D (zs':ZB) H2,H1 D=none->H2 D=none->(∀b u,b≠P->H1 b=some u->H2 b=some u)->WQ P lpos (X.env.qual ++ "<lambda>") H2->zs'.Perm zs->zs'.Pairwise (λx y=>HT.vA x.2 y.2=true)->Q (.ref D) (upd H2 D (.lst (zs'.map λz=>V.ref z.1)))
  |_=>False) I h) λus s1 ⟨vs,H1,I1,r1,q1⟩=>?_) (by rw[hs1];rfl) (by rw[hs1];rfl)
 match vs,q1 with
 |[x],q1=>
  obtain⟨l,zs,rfl,hl,hz,nd,h60,hT,q⟩:=q1;obtain⟨u,rfl,rx⟩:=vals1 r1;cases rx
  refine wpAny_evalAll_cons (wpAny_bind (zei I1 hdef hcl hcode hK hB hgP hT λf c' H2 s2 pm ct I2 hL hfo hfn hsz up=>wpAny_bind (wpAny_standAt (wpAny_pure ?_))));refine wpAny_evalAll_nil ?_;have Lf:=I1.late hsz;have I3:Inv X ((f,kla_obj "<lambda>" (X.env.qual ++ "<lambda>") params body scope [] pm c' ct)::pins) σ H2 s2:=I2.pins_of λp hp=>by
   rcases List.mem_cons.mp hp with rfl | hp
   ·exact⟨hfo,hfn,Lf.lo,Lf.fs,λv z=>by cases z⟩
   ·exact I2.pin p (List.mem_append_right _ hp)
  have hPl:∀b xs,H1 b=some (.lst xs)->b≠P:=λb xs e z=>by
   rw[z]at e;rcases hT with t | ⟨c2,t,_⟩
   ·rw[t]at e;cases e
   ·rw[t]at e;cases e
  have hr2:=(hr.in1).in1;refine zaM I3 (up _ _ (hPl _ _ hl) hl) (λz hzm=>up _ _ (hPl _ _ (hz z hzm)) (hz z hzm)) nd h60 (by have:=hr2.units;omega) (λH' s' pins' z I' hf sm hzm=>?_) λD H' zs' hD sm hn pm pw=>?_
  ·have hL':zcn P lpos (X.env.qual ++ "<lambda>") H' c':=⟨sm _ _ hL.1,sm _ _ hL.2⟩
   exact zeS (v:=.ref z.1) I' hf hL' S hr2 (λpm ct u=>hb pm (.ref c') ct u) rfl (hbody f c' s' H' z (sm _ _ (up _ _ (hPl _ _ (hz z hzm)) (hz z hzm))))
  ·refine q D zs' H' ?_ hn (λb u hb e=>sm _ _ (up b u hb e)) (.inr ⟨c',sm _ _ hL.1,sm _ _ hL.2⟩) pm pw;cases e:H1 D with
   |none=>rfl
   |some u=>
    by_cases hDP:D=P
    ·rw[hDP,hL.1]at hD;cases hD
    ·rw[up D u hDP e]at hD;cases hD
end
theorem zdu{K:Frag}(KX:K.In s₁.heap)(hns:s₁.heap.Ns mainGlobals mg)(hb:s₁.heap.Ns builtinsNs mb)(hbb:∀x:Str,x ≠ "__name__"->mb x=bootBuiltins x)(hlim:s₁.heap.NoLimit)(hg:s₁.gens=#[])(hBM:∃bm ob,mg "__builtins__"= some (.ref bm)/\bm≠builtinsNs/\s₁.heap.get? bm=some ob/\ob.cls=.type "module"/\ob.dict=some builtinsNs/\ob.data=.plain)(hT:s₁.heap.get? T=some (tabObj #[]))(hKT:K.lookup T=none)(hcT:codeHdIn K c T=true)(ha:s₁.heap.get? a=some { cls:=.type "list",data:=.seq vs.toArray })(hi:IntsAre vs ns)(hl:ns.length<=sizeLine)(hr:Room k callerA)(F:∀base:Heap,K.In base->base.Ns mainGlobals mg->base.BuiltinsAt mg T->FnOk P w K mg base CX k fa fd [x] sp)(hbind:∀s u,BindsTo s fd ⟨[u],[]⟩ [(x,u)])(hsp:∀H:Hp,H T=some (.tbl #[])->SqL K H a (ns.map V.int)->sp [.ref a] H (λv _=>v=.bl true) λ_ _ _=>False)(hCX:∀H e s',CX [] H s₁ (λ_ _ _=>False) e s'->False):
  codeAny (model P w) callerA (.call (.ref fa) ⟨[.ref a],[]⟩) (λr s'=>r=.ok (.ret (.bool true))/\OldK s₁.heap s'.heap/\s'.os=s₁.os/\AllBare s'.gens) s₁:=by
 have rv:=Jc hi;have lenV:=hi.length;have tabT:=(codeHd_of_K KX hcT).tab hT;have core:∀H:Hp,H T=some (.tbl #[])->SqL K H a (ns.map V.int)->HOk P w H s₁.heap->(∀b,H b≠none->b=a\/b=T)->(∀b,b≠T->H b=none\/∃o xs,H b=some (.frz o (.lst xs)))->(∀b,H b≠none->K.lookup b=none) ->
   codeAny (model P w) callerA (.call (.ref fa) ⟨[.ref a],[]⟩) (λr s'=>r=.ok (.ret (.bool true))/\OldK s₁.heap s'.heap/\s'.os=s₁.os/\AllBare s'.gens) s₁:=by
  intro H hHT hS hok hA hO hK;have Wk:∀{b:Addr} {o:Obj},s₁.heap.get? b=some o->H b=none->(QJ s₁.heap H).get? b=some o:=λe n=>zfb e n;have noA:∀{b:Addr} {o:Obj},s₁.heap.get? b=some o->(∀xs n,o.data≠.seq xs n)->(∀ps,o.data≠.fields ps)->H b=none:=λ{b o} e d1 d2=>by
   cases q:H b with
   |none=>rfl
   |some u=>
    rcases hA b (by rw[q];simp) with e' | e'
    ·subst e';rw[ha]at e;cases e
     exact absurd rfl (d1 _ _)
    ·subst e';rw[hT]at e;cases e
     exact absurd rfl (d2 _)
  have nsK:∀{b:Addr} {m:Str->Option Value},s₁.heap.Ns b m->(QJ s₁.heap H).Ns b m:=λ{b m} ⟨o,es,ep,e,d,r⟩=>⟨o,es,ep,Wk e (noA e (λxs n z=>by rw[d]at z;cases z) (λps z=>by rw[d]at z;cases z)),d,r⟩
  have hKb:K.In (QJ s₁.heap H):=λb o e=>Wk (KX b o e) (by
   cases q:H b with
   |none=>rfl
   |some u=>rw[hK b (by rw[q];simp)]at e;cases e)
  have hM:Mod K mg (QJ s₁.heap H):=⟨hKb,nsK hns,⟨mb,nsK hb,hbb⟩,let ⟨mc,h1,h2⟩:=hlim;⟨mc,nsK h1,h2⟩⟩
  have hBA:(QJ s₁.heap H).BuiltinsAt mg T:=by
   obtain⟨bm,ob,b1,b2,b3,b4,b5,b6⟩:=hBM;refine⟨bm,ob,b1,b2,λz=>?_,λz=>?_,Wk b3 (noA b3 (λxs n z=>by rw[b6]at z;cases z) (λps z=>by rw[b6]at z;cases z)),b4,b5,b6⟩
   ·obtain⟨o,es,ep,e,hd,_⟩:=hns;rw[z,e]at b3;cases b3
    rw[hd]at b6;cases b6
   ·rw[z,hT]at b3;cases b3;cases b4
  have e0:Env0 P w K mg (QJ s₁.heap H) callerA [] s₁ H:=⟨rfl,hM,λb o e=>zfP e,Nat.le_of_eq (zdL _ _),trivial,λb hb=>absurd (show b∈([]) from hb) (by simp),hok,.of_eq hg⟩
  refine codeAny_mono ((F _ hKb (nsK hns) hBA).run callerA [] s₁ H ⟨[.ref a],[]⟩ [.ref a] [.ref a] _ _ hr e0 (hbind s₁ (.ref a)) (.cons rfl .nil) (hsp H hHT hS)) λr s' h=>?_;cases r with
  |error e=>exact (hCX H e s' h).elim
  |ok fl=>
   cases fl with
   |next=>exact False.elim h
   |brk=>exact False.elim h
   |cont=>exact False.elim h
   |ret u=>
    obtain⟨v,H',os,bare,un,hok',r',q⟩:=h;have q':=q;subst q';obtain rfl:u=Value.bool true:=r';have oth:∀b o,b≠T->s₁.heap.get? b=some o->s'.heap.get? b=some o:=λb o hbT e=>by
     cases q:H b with
     |none=>exact un.keep b o e q (by intro z;exact absurd (show b∈([]) from z) (by simp)) (by simp)
     |some u=>
      rcases hO b hbT with z | ⟨ob,xs,z⟩
      ·rw[q]at z;cases z
      ·have z2:=un.frzs b ob _ z;obtain⟨e1,_⟩:=hok b _ z;obtain⟨e2,_⟩:=hok' b _ z2;rw[e]at e1;cases e1
       exact e2
    obtain⟨more,hm⟩:=un.tbls T _ hHT;have hTm:=hok' T _ hm;refine⟨rfl,⟨λb o e=>?_,λb o e=>?_⟩,os,bare⟩
    ·by_cases hbT:b=T
     ·subst hbT;rw[hT]at e;cases e
      exact .inr (.inl ⟨tabT.isCodeTable,rfl,#[],more,rfl,hTm⟩)
     ·exact .inl (oth b o hbT e)
    ·by_cases hbT:b=T
     ·subst hbT;exact⟨_,hTm⟩
     ·exact⟨o,oth b o hbT e⟩
 have hTa:T≠a:=λz=>by rw[z,ha]at hT;cases hT
 cases hk:K.lookup a with
 |some o=>
  have e:=KX a o hk;rw[ha]at e;cases e
  refine core (λb=>if b=T then some (.tbl #[]) else none) (if_pos rfl) (.inr ⟨_,vs.toArray,_,hk,rfl,rfl,rfl,by rw[List.size_toArray,lenV];exact hl,by simpa using rv⟩) (λb u z=>?_) (λb z=>?_) (λb hb=>.inl (if_neg hb)) λb z=>?_
  ·by_cases hb:b=T
   ·have z':=(if_pos hb).symm.trans z;cases z'
    subst hb;exact hT
   ·have z':=(if_neg hb).symm.trans z;cases z'
  ·by_cases hb:b=T
   ·exact .inr hb
   ·exact absurd (if_neg hb) z
  ·by_cases hb:b=T
   ·rw[hb];exact hKT
   ·exact absurd (if_neg hb) z
 |none=>
  refine core (λb=>if b=a then some (.frz { cls:=.type "list",data:=.seq vs.toArray } (.lst (ns.map V.int))) else if b=T then some (.tbl #[]) else none) (by rw[if_neg hTa,if_pos rfl]) (.inl (.inr ⟨{ cls:=.type "list",data:=.seq vs.toArray },if_pos rfl⟩)) (λb u z=>?_) (λb z=>?_) (λb hb=>?_) λb z=>?_
  ·by_cases hb:b=a
   ·have z':=(if_pos hb).symm.trans z;cases z'
    subst hb;exact⟨ha,by rw[List.length_map];exact hl,vs,_,rv,ha⟩
   ·have z':=(if_neg hb).symm.trans z;by_cases hb2:b=T
    ·have z2:=(if_pos hb2).symm.trans z';cases z2
     subst hb2;exact hT
    ·have z2:=(if_neg hb2).symm.trans z';cases z2
  ·by_cases hb:b=a
   ·exact .inl hb
   ·by_cases hb2:b=T
    ·exact .inr hb2
    ·exact absurd (by rw[if_neg hb,if_neg hb2]) z
  ·by_cases hba:b=a
   ·exact .inr ⟨_,_,if_pos hba⟩
   ·exact .inl (by rw[if_neg hba,if_neg hb])
  ·by_cases hb:b=a
   ·rw[hb];exact hk
   ·by_cases hb2:b=T
    ·rw[hb2];exact hKT
    ·exact absurd (by rw[if_neg hb,if_neg hb2]) z
theorem zhu{l:W.OpenLaw}{K:Params->W.Frag}{sp:World->Sp}(hn:l.most=some n)(hn2:n<=sizeLine)(hdf:d.params.defaults=[])(hr:Room k callerA)(hY:∀w h,YP w h->(K w.params).In h)(hYT:∀w h,YP w h->h.get? T=some (tabObj #[]))(hKT:∀w:World,(K w.params).lookup T=none)(hcT:∀w:World,codeHdIn (K w.params) c T=true)(F:∀w mg fa h,(K w.params).In h->h.Ns mainGlobals mg->mg d.name=some (.ref fa) ->
   ∃fd:FuncData,(∀s u,BindsTo s fd ⟨[u],[]⟩ [(x,u)]) /\
    ∀base:Heap,(K w.params).In base->base.Ns mainGlobals mg->base.BuiltinsAt mg T->FnOk l.prog w (K w.params) mg base CX0 k fa fd [x] (sp w))(hsp:∀(w:World) (H:Hp) (a:Addr) (ns:List Int),ns.length<=n->H T=some (.tbl #[])->SqL (K w.params) H a (ns.map V.int)->sp w [.ref a] H (λv _=>v=.bl true) λ_ _ _=>False):
  W.WalkO q loose XP YP l.row.toRowW d [] (λf vs=>PySem.call f vs):=by
 refine Att.zay hn hdf λw s₀ s₁ mg mb fa o pm cd doc a vs ns G Y ho hd hcd hmg hobj hints hlen hg=>?_;have KX:=hY w _ Y;obtain⟨fd,hb,hF⟩:=F w mg fa _ KX G.T.g hmg;exact zdu KX G.T.g G.T.b G.T.builtins G.T.nolimit hg G.T.bmain (hYT w _ Y) (hKT w) (hcT w) hobj hints (Nat.le_trans hlen hn2) hr hF hb (λH hO hS=>hsp w H a ns hlen hO hS) λH e s' h=>h
end L2
namespace Lw
def Ze(ls:ZA)(x:List Int):Prop:=x=[]\/∃st∈ls,∃k,1<=k/\k<st.length/\x=st.take k/\lacks ls x=true
structure StandsL (ls:ZA) (xs:ZA):Prop where
 mem:∀x,x∈xs↔Ze ls x
 up:xs.Pairwise λx y=>HT.vA x y=true
theorem zaz(h:∀st∈ls,st.length<=4)(q:Ze ls x):x.length<=3:=by
 rcases q with rfl | ⟨st,hst,k,h1,h2,rfl,_⟩
 ·decide
 ·have:=h st hst;rw[List.length_take];omega
theorem zdF(h:vN ls (y++[x])=true):vN ls y=true:=by
 unfold vN at *;rw[List.any_eq_true]at h ⊢;obtain⟨st,hst,q⟩:=h;refine⟨st,hst,decide_eq_true ?_⟩;have q:=of_decide_eq_true q;have e:=congrArg (List.take y.length) q;rw[List.take_left,List.take_take,List.length_append]at e;rw[Nat.min_eq_left (by omega)]at e;exact e
theorem qy{ls:ZA}:∀fs:List Int,∃j,j<=fs.length/\yd ls fs=fs.drop j/\(∀k,k<j->vN ls (fs.drop k)=false)/\(j<fs.length->vN ls (fs.drop j)=true)
 |[]=>⟨0,Nat.le_refl _,rfl,λk hk=>by omega,λh=>by simp at h⟩
 |x::fs=>by
  by_cases h:vN ls (x::fs)=true
  ·exact⟨0,Nat.zero_le _,by rw[yd,if_pos h];rfl,λk hk=>by omega,λ_=>h⟩
  ·obtain⟨j,h1,h2,h3,h4⟩:=qy fs;refine⟨j+1,by rw[List.length_cons];omega,by rw[yd,if_neg h,h2,List.drop_succ_cons],λk hk=>?_,λhj=>by rw[List.drop_succ_cons];exact h4 (by rw[List.length_cons]at hj;omega)⟩;cases k with
   |zero=>rw[List.drop_zero];simpa using h
   |succ k=>rw[List.drop_succ_cons];exact h3 k (by omega)
theorem Zh(fs:List Int)(x:Int):yd ls (yd ls fs++[x])=yd ls (fs++[x]):=by
 obtain⟨j,h1,h2,h3,_⟩:=qy fs;rw[h2,Zo j (fs++[x]) (by rw[List.length_append];omega) (λk hk=>?_),List.drop_append_of_le_length h1];rw[List.drop_append_of_le_length (by omega)];cases e:vN ls (fs.drop k++[x]) with
 |false=>rfl
 |true=>rw[<-h3 k hk,zdF e]
theorem zdD(ne:st≠[])(h:YG st (fs.drop j)=true):YG st fs=true:=by
 rw[vI ne]at h ⊢;obtain⟨k,e⟩:=h;exact⟨j+k,by rw[<-List.drop_drop];exact e⟩
theorem UT(ne:∀l∈ls,l≠[])(j:Nat)(h:lacks ls fs=true):lacks ls (fs.drop j)=true:=by
 unfold lacks at *;rw[Bool.not_eq_true',List.any_eq_false]at h ⊢;intro st hst q;exact h st hst (zdD (ne st hst) q)
theorem ZC(ne:∀l∈ls,l≠[])(x:Int)(h:lacks ls fs=true):lacks ls (yd ls fs++[x])=lacks ls (fs++[x]):=by
 obtain⟨j,h1,h2,h3,_⟩:=qy fs;rw[h2,<-List.drop_append_of_le_length h1];rw[Bool.eq_iff_iff];constructor
 ·intro q;unfold lacks at *;rw[Bool.not_eq_true',List.any_eq_false]at h q ⊢;intro st hst hs;rw[vI (ne st hst)]at hs;obtain⟨k,e⟩:=hs;have hp:=List.length_pos_iff.mpr (ne st hst);have hl:=congrArg List.length e;rw[List.length_take,List.length_drop,List.length_append,List.length_singleton]at hl;by_cases hin:k+st.length<=fs.length
  ·refine h st hst ((vI (ne st hst)).mpr ⟨k,?_⟩);rw[List.drop_append_of_le_length (by omega),List.take_append_of_le_length (by rw[List.length_drop];omega)]at e;exact e
  ·have hk:k+st.length=fs.length+1:=by omega
   rw[List.take_of_length_le (by rw[List.length_drop,List.length_append,List.length_singleton];omega)]at e;by_cases hkj:j<=k
   ·refine q st hst ((vI (ne st hst)).mpr ⟨k-j,?_⟩);rw[List.drop_drop,show j+(k-j)=k by omega,e,List.take_of_length_le (Nat.le_refl _)]
   ·have h3k:=h3 k (by omega);rw[List.drop_append_of_le_length (by omega)]at e;unfold vN at h3k;rw[List.any_eq_false]at h3k;refine h3k st hst (decide_eq_true ?_);rw[<-e,List.take_left]
 ·intro q;exact UT ne j q
theorem Zn(ne:∀l∈ls,l≠[])(h:lacks ls fs=true):Ze ls (yd ls fs):=by
 obtain⟨j,h1,h2,_,h4⟩:=qy fs;rw[h2];by_cases hj:j<fs.length
 ·have q:=h4 hj;unfold vN at q;rw[List.any_eq_true]at q;obtain⟨st,hst,q⟩:=q;have q:=of_decide_eq_true q;have hl:=congrArg List.length q;have hlen:(fs.drop j).length=fs.length-j:=List.length_drop ..;have hlk:=UT ne j h;refine .inr ⟨st,hst,(fs.drop j).length,by omega,?_,q.symm,hlk⟩;by_cases hlt:(fs.drop j).length<st.length
  ·exact hlt
  ·exfalso;have hle:st.length<=(fs.drop j).length:=by omega
   rw[List.take_of_length_le hle]at q;unfold lacks at hlk;rw[Bool.not_eq_true',List.any_eq_false]at hlk;refine hlk st hst ((vI (ne st hst)).mpr ⟨0,?_⟩);rw[List.drop_zero,<-q,List.take_of_length_le (Nat.le_refl _)]
 ·left;exact List.drop_of_length_le (by omega)
theorem StandsL.first(a:StandsL ls xs):∃r,xs=[]::r:=by
 have h0:=(a.mem []).mpr (.inl rfl);cases xs with
 |nil=>cases h0
 |cons x r=>
  rcases List.mem_cons.mp h0 with e | e
  ·exact⟨r,by rw[e]⟩
  ·have:=(List.pairwise_cons.mp a.up).1 [] e;unfold HT.vA at this;by_cases hl:x.length=([]:List Int).length
   ·have:x=[]:=List.eq_nil_of_length_eq_zero hl;exact⟨r,by rw[this]⟩
   ·rw[if_neg hl]at this;have:=of_decide_eq_true this;simp at this
def cnt(ls:ZA)(b:Nat):Nat->List Int->Nat
 |0,_=>1
 |t+1,x=>((List.range b).map λ(c:Nat)=>if lacks ls (x++[(c:Int)])=true then cnt ls b t (yd ls (x++[(c:Int)])) else 0).sum
def jx(b:Nat):Nat->Nat->List Int
 |0,_=>[]
 |t+1,r=>((r / b^t:Nat):Int)::jx b t (r % b^t)
def many(p:Nat->Bool):Nat->Nat
 |0=>0
 |n+1=>many p n+(if p n=true then 1 else 0)
theorem uE{p q:Nat->Bool}:∀{N:Nat},(∀n,n<N->p n=q n)->many p N=many q N
 |0,_=>rfl
 |N+1,h=>by rw[many,many,uE (N:=N) λn hn=>h n (by omega),h N (by omega)]
theorem Vg{p:Nat->Bool}:∀{N:Nat},(∀n,n<N->p n=false)->many p N=0
 |0,_=>rfl
 |N+1,h=>by rw[many,Vg (N:=N) λn hn=>h n (by omega),h N (by omega)];rfl
theorem X8(p:Nat->Bool)(A:Nat):∀B:Nat,many p (A+B)=many p A+many (λn=>p (A+n)) B
 |0=>rfl
 |B+1=>by rw[<-Nat.add_assoc,many,many,X8 p A B,Nat.add_assoc]
theorem UV(p:Nat->Bool)(B:Nat):∀A:Nat,many p (A*B)=((List.range A).map λc=>many (λr=>p (c*B+r)) B).sum
 |0=>by simp[many]
 |A+1=>by
  rw[Nat.succ_mul,X8,UV p B A,List.range_succ,List.map_append,List.sum_append];simp
theorem X6(hr:r<b^t):jx b (t+1) (c*b^t+r)=(c:Int)::jx b t r:=by
 have h0:0<b^t:=by omega
 rw[jx,Nat.add_comm,Nat.add_mul_div_right _ _ h0,Nat.div_eq_of_lt hr,Nat.zero_add,Nat.add_mul_mod_self_right,Nat.mod_eq_of_lt hr]
theorem YW{f g:Nat->Nat}:∀{N:Nat},(∀c,c<N->f c=g c)->((List.range N).map f).sum=((List.range N).map g).sum:=by
 intro N h;congr 1;apply List.map_congr_left;intro c hc;exact h c (List.mem_range.mp hc)
theorem UW(ne:∀l∈ls,l≠[])(ih:∀x,lacks ls x=true->many (λr=>lacks ls (x++jx b t r)) (b^t)=cnt ls b t (yd ls x))(c:Nat):
  many (λr=>lacks ls (x++jx b (t+1) (c*b^t+r))) (b^t)=if lacks ls (x++[(c:Int)])=true then cnt ls b t (yd ls (x++[(c:Int)])) else 0:=by
 have e1:many (λr=>lacks ls (x++jx b (t+1) (c*b^t+r))) (b^t)=many (λr=>lacks ls (x++[(c:Int)]++jx b t r)) (b^t):=by
  apply uE;intro r hr;rw[X6 hr,List.append_assoc];rfl
 rw[e1];by_cases h:lacks ls (x++[(c:Int)])=true
 ·rw[if_pos h,ih _ h]
 ·rw[if_neg h];apply Vg;intro r _;cases hc:lacks ls (x++[(c:Int)]++jx b t r) with
  |false=>rfl
  |true=>exact absurd (QQ ne hc) h
theorem Jy{ls:ZA}(ne:∀l∈ls,l≠[]){b:Nat}:∀(t:Nat) (x:List Int),lacks ls x=true->many (λr=>lacks ls (x++jx b t r)) (b^t)=cnt ls b t (yd ls x)
 |0,x,h=>by
  rw[Nat.pow_zero,many,many,cnt,jx,List.append_nil,if_pos h]
 |t+1,x,h=>by
  rw[Nat.pow_succ',UV,cnt];apply YW;intro c _;rw[UW ne (Jy ne t),ZC ne _ h,Zh]
def gd(ls:ZA)(b n:Nat):Bool:=lacks ls (figs b n)
theorem Ul{b:Nat}:∀(t n:Nat),jx b (t+1) n=tops b t n
 |0,n=>by simp[jx,tops]
 |t+1,n=>by rw[jx,Ul t,tops]
theorem zel(h2:2<=b)(h1:1<=c)(hc:c<b)(hr:r<b^t):figs b (c*b^t+r)=(c:Int)::jx b t r:=by
 rw[<-X6 hr,Ul];refine (Yx h2 t _ ?_ (.inr ?_)).symm
 ·rw[Nat.pow_succ'];have:(c+1)*b^t<=b*b^t:=Nat.mul_le_mul_right _ hc;rw[Nat.succ_mul]at this;omega
 ·have:1*b^t<=c*b^t:=Nat.mul_le_mul_right _ h1;omega
def ux(ls:ZA)(b:Nat):Nat->Nat
 |0=>if lacks ls [0]=true then 1 else 0
 |t+1=>((List.range b).map λ(c:Nat)=>if c=0 then ux ls b t else if lacks ls [(c:Int)]=true then cnt ls b t (yd ls [(c:Int)]) else 0).sum
theorem QW(ne:∀l∈ls,l≠[])(h2:2<=b)(h1:1<=c)(hc:c<b):many (λr=>gd ls b (c*b^t+r)) (b^t)=if lacks ls [(c:Int)]=true then cnt ls b t (yd ls [(c:Int)]) else 0:=by
 have e:=UW (x:=[]) ne (b:=b) (Jy ne t) c;rw[List.nil_append]at e;rw[<-e];apply uE;intro r hr;rw[gd,zel h2 h1 hc hr,List.nil_append,X6 hr]
theorem Jl{ls:ZA}(ne:∀l∈ls,l≠[]){b:Nat}(h2:2<=b):∀t:Nat,ux ls b t=many (gd ls b) (b^t)
 |0=>by
  rw[Nat.pow_zero,many,many,ux,Nat.zero_add];unfold gd;rw[qj (show 0<b by omega)];rfl
 |t+1=>by
  rw[Nat.pow_succ',UV,ux];apply YW;intro c hc;by_cases h0:c=0
  ·subst h0;rw[if_pos rfl,Jl ne h2 t];apply uE;intro r _;rw[Nat.zero_mul,Nat.zero_add]
  ·rw[if_neg h0,QW ne h2 (by omega) hc]
theorem zff{α:Type}[DecidableEq α]:∀(xs ws:List α),(∀x∈xs,x∈ws)->ws.length<xs.length->∃(i j:Nat) (x:α),i<j/\xs[i]?=some x/\xs[j]?=some x
 |[],ws,_,h=>by simp at h
 |x::xs,ws,hm,h=>by
  by_cases hx:x∈xs
  ·obtain⟨j,hj⟩:=List.getElem?_of_mem hx;exact⟨0,j+1,x,by omega,rfl,by simpa using hj⟩
  ·have hxw:=hm x List.mem_cons_self;obtain⟨i,j,z,hij,h1,h2⟩:=zff xs (ws.erase x) (λy hy=>(List.mem_erase_of_ne (λe:y=x=>hx (by rw[<-e];exact hy))).mpr (hm y (List.mem_cons_of_mem _ hy))) (by
    rw[List.length_erase_of_mem hxw];rw[List.length_cons]at h;have:0<ws.length:=List.length_pos_of_mem hxw;omega)
   exact⟨i+1,j+1,z,by omega,by simpa using h1,by simpa using h2⟩
theorem QT(h2:2<=b)(hn:n<b^(k+1))(h:k=0\/b^k<=n):(figs b n).length=k+1:=by
 rw[<-Yx h2 k n hn h,zbp]
theorem zfV(h2:2<=b)(n:Nat):∃k,n<b^(k+1)/\(k=0\/b^k<=n):=by
 have key:∀K:Nat,n<b^(K+1)->∃k,n<b^(k+1)/\(k=0\/b^k<=n):=by
  intro K
  induction K with
  |zero=>intro h;exact⟨0,h,.inl rfl⟩
  |succ K ih=>
   intro h;by_cases q:n<b^(K+1)
   ·exact ih q
   ·exact⟨K+1,h,.inr (by omega)⟩
 refine key n ?_;have:n<2^n:=Nat.lt_two_pow_self;have h3:=Nat.pow_le_pow_left h2 n;have h4:b^n<=b^(n+1):=Nat.pow_le_pow_right (by omega) (Nat.le_succ n);omega
theorem Wj(h2:2<=b):(figs b n).length=k+1↔n<b^(k+1)/\(k=0\/b^k<=n):=by
 refine⟨λh=>?_,λh=>QT h2 h.1 h.2⟩;obtain⟨m,h1,h3⟩:=zfV h2 n;have e:=QT h2 h1 h3;obtain rfl:k=m:=by omega
 exact⟨h1,h3⟩
def ZQ(ls:ZA)(b t:Nat):Option (List Int)->Nat->Nat
 |some x,c=>if lacks ls (x++[(c:Int)])=true then cnt ls b t (yd ls (x++[(c:Int)])) else 0
 |none,c=>if c=0 then ux ls b t else if lacks ls [(c:Int)]=true then cnt ls b t (yd ls [(c:Int)]) else 0
def under(ls:ZA)(b t:Nat)(o:Option (List Int))(s:Nat):Nat:=((List.range s).map (ZQ ls b t o)).sum
theorem zdc(ls:ZA)(b t:Nat)(x:List Int):under ls b t (some x) b=cnt ls b (t+1) x:=rfl
theorem zb9(ls:ZA)(b t:Nat):under ls b t none b=ux ls b (t+1):=rfl
theorem V0(ls:ZA)(b t:Nat)(o:Option (List Int)):under ls b t o 0=0:=rfl
theorem qL(ls:ZA)(b t:Nat)(o:Option (List Int))(s:Nat):under ls b t o (s+1)=under ls b t o s+ZQ ls b t o s:=by
 unfold under;rw[List.range_succ,List.map_append,List.sum_append];simp
def Rep(ls:ZA)(b m:Nat)(o:Option (List Int)):Prop:=(m=0/\o=none)\/(1<=m/\gd ls b m=true/\o=some (yd ls (figs b m)))
theorem qO(h2:2<=b)(h1:1<=m)(hc:c<b):figs b (m*b+c)=figs b m++[(c:Int)]:=by
 have hge:b<=m*b+c:=by
  have:1*b<=m*b:=Nat.mul_le_mul_right b h1;omega
 rw[XR h2 hge];have e1:(m*b+c) / b=m:=by rw[Nat.add_comm,Nat.add_mul_div_right _ _ (by omega),Nat.div_eq_of_lt hc,Nat.zero_add]
 have e2:(m*b+c) % b=c:=by rw[Nat.add_comm,Nat.add_mul_mod_self_right,Nat.mod_eq_of_lt hc]
 rw[e1,e2]
theorem zco(h2:2<=b)(h1:1<=m):1<=m*b+c:=by
 have:1*b<=m*b:=Nat.mul_le_mul_right b h1;omega
theorem Ve{b m:Nat}(h2:2<=b)(h1:1<=m):∀(t r:Nat),r<b^t->figs b (m*b^t+r)=figs b m++jx b t r
 |0,r,hr=>by
  have:r=0:=by rw[Nat.pow_zero]at hr;omega
  subst this;rw[Nat.pow_zero,Nat.mul_one,Nat.add_zero,jx,List.append_nil]
 |t+1,r,hr=>by
  have hp:0<b^t:=Nat.pow_pos (by omega);have hc:r / b^t<b:=by
   rw[Nat.div_lt_iff_lt_mul hp];rw[Nat.pow_succ',]at hr;exact hr
  have hm:r % b^t<b^t:=Nat.mod_lt _ hp;have e:m*b^(t+1)+r=(m*b+r / b^t)*b^t+r % b^t:=by
   have h:=Nat.div_add_mod r (b^t);rw[Nat.pow_succ',Nat.add_mul,Nat.mul_assoc,Nat.add_assoc,Nat.mul_comm (r / b^t),h]
  have h1':1<=m*b+r / b^t:=zco h2 h1;rw[e,Ve h2 h1' t _ hm,qO h2 h1 hc,jx,List.append_assoc];rfl
theorem zb0(ne:∀l∈ls,l≠[])(h2:2<=b)(R:Rep ls b m o)(t:Nat)(hc:c<b):ZQ ls b t o c=many (λr=>gd ls b ((m*b+c)*b^t+r)) (b^t):=by
 rcases R with ⟨rfl,rfl⟩ | ⟨h1,hg,rfl⟩
 ·rw[Nat.zero_mul,Nat.zero_add];show (if c=0 then _ else _)=_;by_cases h0:c=0
  ·subst h0;rw[if_pos rfl,Jl ne h2];apply uE;intro r _;rw[Nat.zero_mul,Nat.zero_add]
  ·rw[if_neg h0,QW ne h2 (by omega) hc]
 ·have e:=UW (x:=figs b m) ne (b:=b) (Jy ne t) c;show (if lacks ls (yd ls (figs b m)++[(c:Int)])=true then cnt ls b t (yd ls (yd ls (figs b m)++[(c:Int)])) else 0)=_;rw[ZC ne _ hg,Zh,<-e];apply uE;intro r hr;rw[gd,Ve h2 (zco h2 h1) t r hr,qO h2 h1 hc,X6 hr,List.append_assoc];rfl
theorem Xv{ls:ZA}(ne:∀l∈ls,l≠[]){b m:Nat}{o:Option (List Int)}(h2:2<=b)(R:Rep ls b m o)(t:Nat):∀{s:Nat},s<=b->many (gd ls b) (m*b^(t+1))+under ls b t o s=many (gd ls b) ((m*b+s)*b^t)
 |0,_=>by rw[V0,Nat.add_zero,Nat.pow_succ',show (m*b+0)*b^t=m*(b*b^t) by rw[Nat.add_zero,Nat.mul_assoc]]
 |s+1,hs=>by
  rw[qL,<-Nat.add_assoc,Xv ne h2 R t (s:=s) (by omega),zb0 ne h2 R t (show s<b by omega),<-Nat.add_assoc,Nat.succ_mul (m*b+s),X8]
theorem Rep.step(ne:∀l∈ls,l≠[])(h2:2<=b)(R:Rep ls b m o)(hc:c<b):
  (o=none/\c=0/\Rep ls b (m*b+c) none)\/(¬ (o=none/\c=0)/\((lacks ls (o.getD []++[(c:Int)])=true/\Rep ls b (m*b+c) (some (yd ls (o.getD []++[(c:Int)]))))\/(lacks ls (o.getD []++[(c:Int)])=false/\1<=m*b+c/\gd ls b (m*b+c)=false))):=by
 rcases R with ⟨rfl,rfl⟩ | ⟨h1,hg,rfl⟩
 ·by_cases h0:c=0
  ·left;exact⟨rfl,h0,.inl ⟨by omega,rfl⟩⟩
  ·right;refine⟨λz=>h0 z.2,?_⟩;rw[Nat.zero_mul,Nat.zero_add];show (lacks ls [c]=true/\_)\/(lacks ls [c]=false/\_)
   have eg:gd ls b c=lacks ls [c]:=by unfold gd;rw[qj hc]
   cases hl:lacks ls [c] with
   |true=>left;exact⟨rfl,.inr ⟨by omega,by rw[eg];exact hl,by rw[qj hc];rfl⟩⟩
   |false=>right;exact⟨rfl,by omega,by rw[eg];exact hl⟩
 ·right;refine⟨λz=>(nomatch z.1),?_⟩;have hm:1<=m*b+c:=zco h2 h1;show (lacks ls (yd ls (figs b m)++[(c:Int)])=true/\Rep ls b (m*b+c) (some (yd ls (yd ls (figs b m)++[(c:Int)]))))\/(lacks ls (yd ls (figs b m)++[(c:Int)])=false/\_)
  rw[ZC ne _ hg,Zh];have eg:gd ls b (m*b+c)=lacks ls (figs b m++[(c:Int)]):=by unfold gd;rw[qO h2 h1 hc]
  cases hl:lacks ls (figs b m++[(c:Int)]) with
  |true=>left;exact⟨rfl,.inr ⟨hm,by rw[eg];exact hl,by rw[qO h2 h1 hc]⟩⟩
  |false=>right;exact⟨rfl,hm,by rw[eg];exact hl⟩
theorem zfg(ne:∀l∈ls,l≠[])(h2:2<=b)(h1:1<=m)(hg:gd ls b m=false)(t:Nat)(hr:r<=b^t):many (gd ls b) (m*b^t+r)=many (gd ls b) (m*b^t):=by
 rw[X8,Vg (N:=r)]
 ·omega
 intro k hk;cases hc:gd ls b (m*b^t+k) with
 |false=>rfl
 |true=>
  unfold gd at hc hg;rw[Ve h2 h1 t k (by omega)]at hc;rw[QQ ne hc]at hg;cases hg
theorem zbl{b:Nat}:∀{t n k:Nat},k<t->n<b^t->(jx b t n)[k]?=some (((n / b^(t-1-k)) % b:Nat):Int)
 |0,_,_,hk,_=>by omega
 |t+1,n,0,_,hn=>by
  have:n / b^t<b:=by
   rw[Nat.pow_succ']at hn;rcases Nat.eq_zero_or_pos (b^t) with h | h
   ·rw[h]at hn;omega
   ·rw[Nat.div_lt_iff_lt_mul h];exact hn
  rw[jx,List.getElem?_cons_zero,show t+1-1-0=t by omega,Nat.mod_eq_of_lt this]
 |t+1,n,k+1,hk,hn=>by
  have hb:0<b:=by
   rcases Nat.eq_zero_or_pos b with h | h
   ·subst h;omega
   ·exact h
  rw[jx,List.getElem?_cons_succ,zbl (by omega) (Nat.mod_lt _ (Nat.pow_pos hb))];have e:t+1-1-(k+1)=t-1-k:=by omega
  rw[e];generalize hj:t-1-k=j;obtain⟨q,hq⟩:∃q,t=j+(q+1):=⟨t-j-1,by omega⟩
  rw[hq,Nat.pow_add,Nat.mod_mul_right_div_self,Nat.pow_succ',Nat.mod_mul_right_mod]
theorem zbm(h2:2<=b)(hN:(figs b n).length=N)(hk:k<N):(figs b n)[k]?=some (((n / b^(N-1-k)) % b:Nat):Int):=by
 obtain⟨K,rfl⟩:∃K,N=K+1:=⟨N-1,by omega⟩
 obtain⟨h1,h3⟩:=(Wj h2).mp hN;rw[<-Yx h2 K n h1 h3,<-Ul];exact zbl hk h1
theorem uR(h2:2<=b)(hN:(figs b n).length=N):n<b^N:=by
 cases N with
 |zero=>exact absurd (List.length_eq_zero_iff.mp hN) zcx
 |succ K=>exact ((Wj h2).mp hN).1
theorem zbk(hb:0<b):n / b^t=n / b^(t+1)*b+(n / b^t) % b:=by
 have h:=Nat.div_add_mod (n / b^t) b;rw[Nat.div_div_eq_div_mul,<-Nat.pow_succ,Nat.mul_comm]at h;exact h.symm
end Lw
namespace L2
open Lw
open PySem PySem.Spec PyProof.Rows
section
variable {X:Cx} {tg:Expr}
end
def zgY(C:Addr)(m:Str)(sp:Sp)(Ex:St->XK)(ta:TE)(t:TA):TE:=fun σ H Q=>ta σ H λx H1=>Ex3 λa dx fs=>x=.ref a/\H1 a=some (.ins C dx fs)/\fs.lookup m=none/\t σ H1 λvs H2=>sp (x::vs) H2 Q (Ex σ)
section
variable {X:Cx} {C:Addr} {q x:Str} {st:Stmt} {ps:List Str} {f:Addr} {fd:FuncData} {k:Nat} {sp:Sp} {Ex:St->XK} {o e:Expr} {es:List Expr} {ta:TE} {t:TA} {apos p pos:Pos}
theorem zd7{pl:Sem Bool}(D:Mt X.K C q x st ps f fd)(c:Cls X.K C)(G:FnOk X.prog X.w X.K X.mg X.base (CX1 X.prog X.w) k f fd ps sp)(hr:Room k X.A)(hx:zbq X Ex)(he:PE X o ta)(ha:PA X (e::es) t)(hst:starEach (e::es) X.env=(false,eval e X.env)::starEach es X.env:=by rfl)(hpl:(backTo pos (starEach es X.env)).any (·.1)=false:=by rfl)(ht:eval (.Call (.Attribute o x apos) (e::es) [] pos) X.env=(do
   let ov <-eval o X.env
   standAt apos.atName
   let (f,first) <-holding [ov] (getMethod ov x pl)
   callWith pos f first (backTo pos (starEach (e::es) X.env)) (backToKw pos (keywordEach [] X.env))):=by rfl):PE X (.Call (.Attribute o x apos) (e::es) [] pos) (zgY C x sp Ex ta t):=by
 intro pins s σ H Q I h;refine W.methodCall_KW (thn (he pins s σ H _ I h) λu s1 ⟨y,H1,I1,ry,a,dx,fs,ey,ea,l,z⟩=>?_) ht;subst ey;obtain rfl:u=Value.ref a:=ry;refine Xg I1 ea c D.m l ?_;refine W.callWith_K I.ok.mod.kin D.m.kp (thn (ha pos pins s1 σ H1 _ I1 z) λus s2 ⟨vs,H2,I2,r,z2⟩=>⟨I2.kIn,?_⟩) hst hpl;exact zcq (vs:=.ref a::vs) G hr D.b hx I2 (.cons rfl r) z2
end
theorem FnOk.calm{K:W.Frag}(F:FnOk P w K mg base (CX1 P w) k f fd ps sp):FnOk P w K mg base CX0 k f fd ps (λvs H Q _=>sp vs H Q λ_ _ _=>False):=
 ⟨λvs H Q E h=>F.len vs H Q _ h,λA outer s H args us vs Q E hr e0 hb hv hs=>codeAny_mono (F.run A outer s H args us vs Q (λ_ _ _=>False) hr e0 hb hv hs) λr s' q=>by
  cases r with
  |error e=>obtain⟨_,_,_,_,_,_,_,_,_,_,_,hE⟩:=q;exact hE.elim
  |ok fl=>cases fl<;>exact q⟩
def zhb(K:W.Frag):R2:=λx y H Q=>Ex4 λp xs ts u=>y=.ref p/\SqT K H p xs/\TrsAt K H ts xs/\TrAt K H u x/\xq ts<=8/\Q (.bl (ts.any λt=>teq t u)) H
section
variable {X:Cx} {K:W.Frag}
open Classical in
theorem zg5(hu:X.A.units+64<cLine):OpR X (compareOp .In) (zhb X.K):=by
 intro pins s σ H x y v u Q I rx ry h;obtain⟨p,xs,ts,t,rfl,hq,hts,ht,hd,q⟩:=h;cases ry
 obtain⟨its,r,pl,hz⟩:=I.tuple hq;refine SeqAt.in_tupleAt _ pl (VJ I hu ht rx hd hts r) ⟨.bl _,H,I,rfl,?_⟩;simp only[List.any_toArray];rw[zan I hd hts r];exact q
theorem zht(K:W.Frag)(hu:X.A.units+64<cLine)(e:X.K=K:=by rfl):OpR X (compareOp .In) (zhb K):=by subst e;exact zg5 hu
end
end L2
namespace PySem
open Sem (wp)
theorem JP:typeLookup (.type "list") "keys"= pure none:=am_miss_of_fast (by decide +kernel)
set_option maxHeartbeats 0 in
theorem Qc(hx:s.heap.get? a=some o)(hc:o.cls=.type "list")(hdat:o.data=.seq xs k)(hd:o.dict=none)(hA:A.handled=none)(h:∀h' tk,(∀b o,s.heap.get? b=some o->h'.get? b=some o)->Q none { s with heap:=h',toks:=tk }):
  wpAny (model prog w) A (getAttr? (.ref a) "keys") Q E s:=by
 obtain⟨c,dct,dat,sl⟩:=o;simp only at hc hdat hd;subst hc hdat hd;obtain⟨hp,g,d,tk,os⟩:=s;have hT:∀tk',(⟨hp,g,d,tk',os⟩:Shared).TypeIs (.ref a) "list":=λ_=>⟨_,hx,rfl⟩
 have f1:=sub_AttributeError;have f3:=F.slot_list_getattribute.lookup;have f4:=F.slot_list_getattribute.bind (.ref a);have f5:=am_list_getattr_none;unfold getAttr? getAttrBy? getAttrBy
 repeat (any_goals (first | assumption | exact hT _ | ((with_reducible show wpAny _ _ (call (Value.builtin "list.__getattribute__") _ _) _ _ _);refine call_meets F.slot_list_getattribute (hT _) am_entry_list_getattribute (F.args_list_getattribute_2 _ _) (meets_getattribute_miss_list a xs k sl "keys" _ JP (by decide +kernel) (by decide +kernel)) ⟨hx,hA,λh' tk' e hx'=>?_⟩) | wp_step))
 obtain⟨t',u',he⟩:=hx'.there;show wpAny _ _ (getattributeRaised _ _ _ _ _ _ _) _ _ _;unfold getattributeRaised
 repeat (any_goals (first | assumption | wp_step))
 exact h _ _ hx'.of.keeps
namespace F
theorem uz:entryFor table "dict.update.loop"= some Builtin.«dict.update.loop»:=entryFor_of_tree (by kernel_rfl)
theorem yU:plainId "dict.update.loop"= true:=by decide +kernel
end F
section
variable {prog:Program} {w:World} {A:Around} {R:Result->Shared->Prop} {I:Addr} {fp wr:List Addr} {G:Array GenState->Array GenState->Prop} {n:Nat} {P:Nat->Value->Prop} {St:Nat->Shared->Prop}
variable {K:Type} [DecidableEq K] {knd:KeyKind prog w K}
end
section
variable {prog:Program} {w:World} {K:Type} [DecidableEq K] {knd:KeyKind prog w K} {A:Around} {E:Value->Shared->Prop} {s:Shared}
end
section
variable {prog:Program} {w:World} {κ:Type} [DecidableEq κ] {knd:KeyKind prog w κ}
theorem IsTupleKey.get(x:IsTupleKey knd h k a)(e:∀o,h.get? a=some o->h'.get? a=some o):IsTupleKey knd h' k a:=by
 obtain⟨o,its,n,h1,r⟩:=x;exact⟨o,its,n,e _ h1,r⟩
end
def wA[DecidableEq K](xs more:List (K×Addr×Value)):List (K×Addr×Value):=more.foldl (λacc x=>storedH acc x.1 x.2.1 x.2.2) xs
section
variable {K:Type} [DecidableEq K]
theorem zap(xs more:List (K×Addr×Value))(x:K×Addr×Value):wA xs (more++[x])=storedH (wA xs more) x.1 x.2.1 x.2.2:=by
 unfold wA;rw[List.foldl_append];rfl
theorem JH{x:K×Addr×Value}(h:x∈storedH xs k a v):x.2.1=a\/∃y∈xs,y.2.1=x.2.1:=by
 unfold storedH at h;split at h
 ·obtain⟨y,hy,rfl⟩:=List.mem_map.mp h;refine .inr ⟨y,hy,?_⟩;unfold putAt;split<;>rfl
 ·rcases List.mem_append.mp h with h | h
  ·exact .inr ⟨x,h,rfl⟩
  ·rw[List.mem_singleton.mp h];exact .inl rfl
theorem Wu:∀{more xs:List (K×Addr×Value)} {x:K×Addr×Value},x∈wA xs more->(∃y∈more,y.2.1=x.2.1)\/∃y∈xs,y.2.1=x.2.1
 |[],xs,x,h=>.inr ⟨x,h,rfl⟩
 |m::more,xs,x,h=>by
  rcases Wu (more:=more) (xs:=storedH xs m.1 m.2.1 m.2.2) h with ⟨y,hy,e⟩ | ⟨y,hy,e⟩
  ·exact .inl ⟨y,List.mem_cons_of_mem _ hy,e⟩
  ·rcases JH hy with e2 | ⟨z,hz,e2⟩
   ·exact .inl ⟨m,List.mem_cons_self,by rw[<-e2,e]⟩
   ·exact .inr ⟨z,hz,by rw[e2,e]⟩
theorem zaR(xs:List (K×Addr×Value))(k:K)(a:Addr)(v:Value):(storedH xs k a v).length<=xs.length+1:=by
 unfold storedH;split
 ·rw[List.length_map];omega
 ·rw[List.length_append];exact Nat.le_refl _
theorem Vm:∀(more xs:List (K×Addr×Value)),(wA xs more).length<=xs.length+more.length
 |[],xs=>Nat.le_refl _
 |m::more,xs=>by
  have h1:=Vm more (storedH xs m.1 m.2.1 m.2.2);have h2:=zaR xs m.1 m.2.1 m.2.2;show (wA (storedH xs m.1 m.2.1 m.2.2) more).length<=_;rw[List.length_cons];omega
end
def Z1{κ:Type}[DecidableEq κ](knd:KeyKind prog w κ)(h:Heap)(n:Nat)(P:Nat->Value->Prop)(kvs:List (List κ×Addr×Value))(bad:List Addr):Prop :=
 (∀x∈kvs,x.2.1∉bad/\IsTupleKey knd h x.1 x.2.1)/\∀i v,i<n->P i v->∃T kv,kvs[i]?=some kv/\v=.ref T/\T∉bad/\PyProof.Rows.IsTup h T #[.ref kv.2.1,kv.2.2]
section
variable {prog:Program} {w:World} {A:Around} {R:Result->Shared->Prop} {I:Addr} {fp wr:List Addr} {G:Array GenState->Array GenState->Prop} {n:Nat} {P:Nat->Value->Prop} {St:Nat->Shared->Prop}
variable {κ:Type} [DecidableEq κ] {knd:KeyKind prog w κ}
set_option maxHeartbeats 0 in
theorem qX(hu:A.units+8<cLine)(W:WalksS prog w A.in1 I fp wr G n P St)(D:Addr)(hDf:D∉fp)(kvs:List (List κ×Addr×Value))(hn:kvs.length=n)(hz:n<=sizeLine):
  ∀k i s,n-i=k->i<=n->St i s->Z1 knd s.heap n P kvs (D::wr) ->
   s.heap.DictOfH (tupleKind knd) D (wA [] (kvs.take i)) ->
   (∀s',Moved (D::wr) G s s'->s'.heap.DictOfH (tupleKind knd) D (wA [] kvs)->R (.ok (.ret .none)) s') ->
   codeAny (model prog w) A (.builtin "dict.update.loop" ⟨[.ref D,.ref I,rawInt i,.none],[]⟩) R s:=by
 have hDw:D∉wr:=λh=>hDf (W.sub _ h);have hsub:∀b∈wr,b∈D::wr:=λb hb=>List.mem_cons_of_mem _ hb;have keepD:∀{s s':Shared} {i:Nat},Z1 knd s.heap n P kvs (D::wr)->Moved wr G s s'->s.heap.DictOfH (tupleKind knd) D (wA [] (kvs.take i))->s'.heap.DictOfH (tupleKind knd) D (wA [] (kvs.take i)):=λhP hm hS=>by
  obtain⟨o,es,ep,ho,h2,h3,h4,h5,h6⟩:=hS;refine⟨o,es,ep,hm.heap D _ hDw ho,h2,h3,h4,λx hx=>?_,h6⟩;rcases Wu hx with ⟨y,hy,e⟩ | ⟨y,hy,_⟩
  ·have hb:=(hP.1 y (List.mem_of_mem_take hy)).1;exact IsTupleKey.get (h5 x hx) λo q=>hm.heap _ o (by rw[<-e];exact λz=>hb (hsub _ z)) q
  ·exact nomatch hy
 have keepP:∀{h h':Heap},(∀b o,b∉D::wr->h.get? b=some o->h'.get? b=some o)->Z1 knd h n P kvs (D::wr)->Z1 knd h' n P kvs (D::wr):=λhk hP=>by
  refine⟨λx hx=>⟨(hP.1 x hx).1,IsTupleKey.get (hP.1 x hx).2 λo q=>hk _ o (hP.1 x hx).1 q⟩,λi v hi hv=>?_⟩;obtain⟨T,kv,e1,e2,e3,⟨o,ho,r⟩⟩:=hP.2 i v hi hv;exact⟨T,kv,e1,e2,e3,⟨o,hk T o e3 ho,r⟩⟩
 intro k
 induction k with
 |zero=>
  intro i s hk hi hst hP hS hR;have hin:i=n:=by omega
  subst hin;refine codeAny_builtin F.uz ?_;refine wpAny_bind (W.done s _ _ hst λs' hm=>?_);refine wpAny_bind (wpAny_pure ?_);refine wpAny_pure (hR s' (hm.mono hsub) ?_);have:=keepD hP hm hS;rwa[<-hn,List.take_length]at this
 |succ k ih=>
  intro i s hk hi hst hP hS hR;have hlt:i<n:=by omega
  refine codeAny_builtin F.uz ?_;refine wpAny_bind (W.item i s _ _ hlt hst λv s' hPv hst' hm=>?_);have hP':=keepP (λb o hb e=>hm.heap b o (λz=>hb (hsub b z)) e) hP;obtain⟨T,kv,e1,rfl,e3,⟨o,ho,hc,m,hd⟩⟩:=hP'.2 i v hlt hPv;have hS':=keepD hP hm hS;have hkv:=hP'.1 kv (List.mem_of_getElem? e1);show wpAny _ A.in1 (holding [Value.ref T] _ >>= _) _ _ s';refine wpAny_bind (wpAny_holding ?_);refine wpAny_bind (wpAny_tryCatch ?_);refine wpAny_bind (wpAny_typeOf (show s'.TypeIs (.ref T) "tuple" from ⟨o,ho,hc⟩) ?_);refine wpAny_bind (wpAny_seqItems ho hd ?_);refine wpAny_pure ?_;refine wpAny_holding ?_;have hlen:(wA [] (kvs.take i)).length<=sizeLine:=by
   have:=Vm (kvs.take i) [];rw[List.length_take,List.length_nil]at this;omega
  refine wpAny_dictSet_heap (show (tupleKind knd).room _ from ?room) hkv.2 hS' (λh' hd' hsb=>?_) hlen
  case room=>show Around.units _<cLine;simp;omega
  have et:kvs.take (i+1)=kvs.take i++[kv]:=by rw[List.take_succ,e1];rfl
  rw[<-zap,<-et]at hd';refine wpAny_pure ⟨plainId_quiet F.yU _,?_⟩;have hsz:(i+1)=((i+1:Nat):Int):=by omega
  refine ih (i+1) _ (by omega) hlt (W.frame _ s' _ _ hst' (Nat.le_add_right _ _) λb hb o e=>?_) (keepP (λb o hb e=>?_) hP') hd' λs'' hm'' hS''=>?_
  ·rw[hsb.2 b (λh:b=D=>hDf (by rw[<-h];exact hb))];exact e
  ·rw[hsb.2 b (λh:b=D=>hb (by rw[h];exact List.mem_cons_self))];exact e
  ·refine hR s'' (Moved.trans W.gtrans ((hm.mono hsub).then_heap (Nat.le_add_right _ _) λb o hb e=>?_) hm'') hS'';rw[hsb.2 b (λh:b=D=>hb (by rw[h];exact List.mem_cons_self))];exact e
end
section
variable {prog:Program} {w:World} {κ:Type} [DecidableEq κ] {knd:KeyKind prog w κ} {A:Around} {E:Value->Shared->Prop} {s:Shared}
set_option maxHeartbeats 0 in
theorem WT(hu:A.units+16<cLine)(hh:A.handled=none)(ho:s.heap.get? l=some o)(hc:o.cls=.type "list")(hdat:o.data=.seq items k)(hd:o.dict=none)(hlen:kvs.length=items.size)(hz:items.size<=sizeLine)(hK:∀x∈kvs,IsTupleKey knd s.heap x.1 x.2.1)(hP:∀(i:Nat) (v:Value),items[i]?=some v->∃T kv,kvs[i]?=some kv/\v=.ref T/\PyProof.Rows.IsTup s.heap T #[.ref kv.2.1,kv.2.2])(h:∀h' tk,h'.DictOfH (tupleKind knd) s.heap.objs.size (wA [] kvs)->(∀b o,s.heap.get? b=some o->h'.get? b=some o)->Q (.ref s.heap.objs.size) { s with heap:=h',toks:=tk }):
  wpAny (model prog w) A (call (.type "dict") [.ref l]) Q E s:=by
 refine callType_codes (Q₁:=λobj s₁=>obj=.ref s.heap.objs.size/\s₁={ s with heap:=s.heap.push { cls:=.type "dict",data:=.dict #[] } }) F.kt_called_dict (F.kt_typeCall_dict_1 _) F.entry_dict_init (kt_code_dict_new _ ⟨rfl,rfl⟩) ?_;rintro obj s₁ ⟨rfl,rfl⟩;have hnew:(s.heap.push { cls:=.type "dict",data:=.dict #[] }).DictOf knd s.heap.objs.size []:=Heap.DictOf.new s.heap;have hnewH:(s.heap.push { cls:=.type "dict",data:=.dict #[] }).DictOfH (tupleKind knd) s.heap.objs.size []:=Heap.DictOfH.new s.heap;have ho1:(s.heap.push { cls:=.type "dict",data:=.dict #[] }).get? l=some o:=Heap.get?_push_of_some _ ho;refine⟨hnew.typeIs,F.args_dict_init_2 _ _,?_⟩;refine wpAny_bind ?_;refine wpAny_bind (wpAny_notOrdered_dict hnew.typeIs ?_);refine wpAny_pure ?_;refine wpAny_bind (wpAny_typeOf (show Shared.TypeIs { s with heap:=s.heap.push { cls:=.type "dict",data:=.dict #[] } } (.ref l) "list" from ⟨o,ho1,hc⟩) ?_);refine wpAny_bind ?_;refine Qc ho1 hc hdat hd ?_ λh1 tk1 k1=>?_
 ·simp[hh]
 refine wpAny_bind (wpAny_rule ?_);have ho2:=k1 _ _ ho1;have hl1:h1.IsList l items:=⟨o,ho2,hc,k,hdat⟩
 refine wpAny_bind (wpAny_pyIter_list hl1 ?_);refine wpAny_pure ⟨plainId_quiet F.yU _,?_⟩;have hlS:=Heap.lt_size ho;have hh3:A.in1.in1.handled=none:=by simp[hh]
 have hneI:=Nat.ne_of_lt (Heap.lt_size ho2);have hD1:=k1 _ _ (Heap.get?_push_size _ rfl);have hDI:=Nat.ne_of_lt (Heap.lt_size hD1);have hSf:s.heap.objs.size∉[h1.objs.size,l]:=by
  simp only[List.mem_cons,List.not_mem_nil,or_false,not_or];exact⟨hDI,Nat.ne_of_gt hlS⟩
 have hold:∀b o,s.heap.get? b=some o->h1.get? b=some o:=λb o e=>k1 _ _ (Heap.get?_push_of_some _ e);refine qX (knd:=knd) ?hu0 ((Walks.list hh3 h1.objs.size l hneI items).toS) s.heap.objs.size hSf kvs hlen hz (items.size-0) 0 _ (by omega) (Nat.zero_le _)
  ⟨⟨_,Heap.get?_push_size _ rfl,rfl,rfl⟩,(hl1.push _)⟩ ?hP0 ?hS0 ?hR
 case hP0=>
  refine⟨λx hx=>?_,λi v hi hv=>?_⟩
  ·have kx:=hK x hx;refine⟨?_,IsTupleKey.get kx λo q=>Heap.get?_push_of_some _ (hold _ _ q)⟩;obtain⟨ot,_,_,ht,_⟩:=kx;simp only[List.mem_cons,List.not_mem_nil,or_false,not_or];exact⟨Nat.ne_of_lt (Heap.lt_size ht),Nat.ne_of_lt (Heap.lt_size (hold _ _ ht))⟩
  ·obtain⟨T,kv,e1,e2,⟨ot,ht,r⟩⟩:=hP i v hv;have ht1:=hold _ _ ht;refine⟨T,kv,e1,e2,?_,⟨ot,Heap.get?_push_of_some _ ht1,r⟩⟩;simp only[List.mem_cons,List.not_mem_nil,or_false,not_or];exact⟨Nat.ne_of_lt (Heap.lt_size ht),Nat.ne_of_lt (Heap.lt_size ht1)⟩
 case hS0=>
  obtain⟨od,es,ep,hod,h2,h3,h4,_,h6⟩:=hnewH;exact⟨od,es,ep,Heap.get?_push_of_some _ (k1 _ _ hod),h2,h3,h4,(λx hx=>nomatch hx),h6⟩
 case hu0=>simp;omega
 case hR=>
  intro s' hm hS';obtain⟨h',g',d',tk',os'⟩:=s';have eg:=hm.gens;have ed:=hm.drawn;have eo:=hm.os;subst eg;subst ed;subst eo;refine⟨rfl,h h' tk' hS' λb q e=>?_⟩;have hb1:=Nat.ne_of_lt (Heap.lt_size e);have hb2:=Nat.ne_of_lt (Heap.lt_size (hold _ _ e));exact hm.heap b q (by simp only[List.mem_cons,List.not_mem_nil,or_false,not_or];exact⟨hb1,hb2⟩) (Heap.get?_push_of_some _ (hold _ _ e))
end
end PySem
namespace HT
open PySem PySem.Spec PyProof.Rows
section
variable {prog:Program} {w:World} {A:Around} {E:Value->Shared->Prop} {s:Shared}
theorem zfN{ws:List Value}(ht:IsTup s.heap t ([]:List Value).toArray)(hb:IsTup s.heap b ws.toArray)(h:Q (.ref b) s):wpAny (model prog w) A (binaryOp .Add (.ref t) (.ref b)) Q E s:=by
 obtain⟨⟨c1,d1,x1,l1⟩,p1,q1,n1,r1⟩:=id ht;obtain⟨⟨c2,d2,x2,l2⟩,p2,q2,n2,r2⟩:=id hb;subst q1 r1 q2 r2;exact concat_meets ⟨_,p1,rfl⟩ ⟨_,p2,rfl⟩ noFill_tuple_add seq_tuple_add PySem.F.slot_tuple_add PySem.F.entry_tuple_add (PySem.F.args_tuple_add_2 _ _) (tuple_addW0 t b #[] ws.toArray n1 n2 d1 d2 l1 l2 rfl) ⟨p1,p2,h⟩
theorem zdy{lo hi:Option Int}(ht:IsTup s.heap t items)(hs:s.heap.IsSliceOf sl vl vu .none)(pl:IsPart vl lo)(pu:IsPart vu hi)(hw:sIx items.size 0 lo=0/\sIx items.size items.size hi=items.size)(h:Q (.ref t) s):wpAny (model prog w) A (getItem (.ref t) (.ref sl)) Q E s:=by
 obtain⟨os,hos,hcs,hds⟩:=id hs;have tS:s.TypeIs (.ref sl) "slice":=⟨os,hos,hcs⟩
 unfold getItem
 try with_reducible refine wpAny_holding ?_
 first | refine wpAny_bind (wpAny_pure ?_) | skip
 refine wpAny_bind (wpAny_sequenceKey ht.typeIs (by decide) ?_);refine wpAny_bind (wpAny_callSpecial?_slot ht.typeIs PyProof.Rows.slot_tuple_getitem
  (wpAny_call_entry PyProof.Rows.slot_tuple_getitem ht.typeIs entry_tuple_getitem ?_ (args_tuple_getitem _ _)))
 show wpAny _ _ (Builtin.Tuple.tupleItemsOf (.ref t) >>= _) _ _ s;refine wpAny_bind (tupleItemsOf_ ht ?_);refine wpAny_bind (wpAny_typeOf tS ?_);refine wpAny_bind (jO hs pl pu ?_);have yes:(((sIx items.size 0 lo:Nat):Int) == 0 && (1:Int) == 1 && (sIx items.size items.size hi-sIx items.size 0 lo) == items.size)=true:=by
  rw[hw.1,hw.2];simp
 show wpAny _ _ (if (((sIx items.size 0 lo:Nat):Int) == 0 && 1 == 1 && (sIx items.size items.size hi-sIx items.size 0 lo) == items.size)=true then _ else _) _ _ s;rw[if_pos yes];have ex:∀{R:Bool->Shared->Prop} {E':Value->Shared->Prop},R true s->wpAny (model prog w) A.in1 (Builtin.Tuple.tupleIsExact (.ref t)) R E' s:=λ{R E'} q=>by
  exact wpAny_bind (wpAny_typeOf ht.typeIs (wpAny_pure (by exact q)))
 first
  |exact wpAny_bind (ex (by exact wpAny_bind (wpAny_rule (wpAny_pure ⟨_,rfl,wpAny_pure h⟩))))
  |exact wpAny_bind (wpAny_bind (ex (by exact wpAny_bind (wpAny_rule (wpAny_bind (wpAny_pure (wpAny_pure ⟨_,rfl,wpAny_pure h⟩)))))))
  |exact wpAny_bind (ex (by exact wpAny_bind (wpAny_rule (wpAny_bind (wpAny_pure (wpAny_pure ⟨_,rfl,wpAny_pure h⟩))))))
end
end HT
namespace L2
open PySem PySem.Spec PyProof.Rows
section
variable {X:Cx}
def zhj:R2:=λx y H Q=>Ex4 λa b xs ys=>x=.ref a/\y=.ref b/\H a=some (.tup xs)/\H b=some (.tup ys)/\xs.length+ys.length<=sizeLine/\∀p H',Same H H'->H' p=some (.tup (xs++ys))->Q (.ref p) H'
theorem zf3:OpR X (binaryOp .Add) zhj:=by
 intro pins s σ H x y v u Q I rx ry h;obtain⟨a,b,xs,ys,rfl,rfl,ha,hb,hz,q⟩:=h;cases rx
 cases ry;by_cases hx:xs=[]
 ·subst hx;obtain⟨its,r1,p1,_⟩:=I.tuple (SqT.of ha);obtain⟨its2,r2,p2,_⟩:=I.tuple (SqT.of hb);obtain rfl:its=[]:=r1.nil_iff.mpr rfl;exact HT.zfN p1 p2 ⟨.ref b,H,I,rfl,q b H (Same.refl _) hb⟩
 ·refine zfY pins s σ H (.ref a) (.ref b) (.ref a) (.ref b) Q I rfl rfl ⟨a,b,xs,ys,rfl,rfl,SqT.of ha,SqT.of hb,hx,hz,λe=>q a H (Same.refl _) (by rw[e,List.append_nil];exact ha),λ_ p hp=>q p _ (zm hp) zg⟩
theorem zfv(K:W.Frag)(e:X.K=K:=by rfl):wF X (.type "tuple") (λxs H Q=>∃p ys,xs=[.ref p]/\((SqL K H p ys/\∀l,H l=none->Q (.ref l) (upd H l (.tup ys)))\/(SqT K H p ys/\Q (.ref p) H))):=by subst e;exact jA
def zhV:V->Option Int->Option Int->Hp->VK->Prop:=λx lo hi H Q=>Ex2 λa xs=>x=.ref a/\H a=some (.tup xs)/\∀p H',Same H H'->H' p=some (.tup (uh xs lo hi))->Q (.ref p) H'
theorem zcK:SlR X zhV:=by
 intro pins s σ H x v vl vu lo hi sl Q I rx hs pl pu h;obtain⟨a,xs,rfl,hx,q⟩:=h;by_cases hw:HT.sIx xs.length 0 lo=0/\HT.sIx xs.length xs.length hi=xs.length
 ·cases rx;obtain⟨its,r,ht,hz⟩:=I.tuple (SqT.of hx)
  have hlen:its.toArray.size=xs.length:=by rw[List.size_toArray];exact r.length.symm
  refine⟨"tuple",_,PyProof.Rows.slot_tuple_getitem.lookup,ht.typeIs,?_⟩;refine HT.zdy ht hs pl pu (by rw[hlen];exact hw) ⟨.ref a,H,I,rfl,q a H (Same.refl _) ?_⟩;unfold uh;rw[hw.1,hw.2,List.drop_zero,Nat.sub_zero,List.take_length];exact hx
 ·exact zgU pins s σ H (.ref a) v vl vu lo hi sl Q I rx hs pl pu ⟨a,xs,rfl,SqT.of hx,hw,λp hp=>q p _ (zm hp) zg⟩
end
abbrev NK:=List Key×List Key
section
variable {P:Program} {w:World}
variable {A:Around} {E:Value->Shared->Prop} {s:Shared}
end
section
variable {P:Program} {w:World} {H:Hp} {h:Heap} {a b:Addr} {k:NK}
end
section
variable {X:Cx} {pins:List (Addr×Obj)} {σ:St} {H:Hp} {s:Shared} {a b:Addr} {v:V} {u r:Value} {A:Around} {E:Value->Shared->Prop} {kvs:List (NK×V)} {k:NK}
end
theorem tL(hr:Room k A):A.units+2<cLine:=by have:=hr.units;omega
section
variable {X:Cx} {o i value:Expr} {pos pos':Pos} {td ty tv:TE}
end
def Xu(P:Program)(w:World)(a:Addr)(xs:List (List Key×Addr×Value))(ep:Nat):Heap->Prop:=λh=>∃o es,h.get? a=some o/\o.ExactDict/\o.data=.dict es ep/\es.toList=xs.map (entryOfKey (tupleKind (wD P w)))/\(xs.map (·.1)).Nodup
def DE(P:Program)(w:World)(H:Hp)(a:Addr)(kvs:List (List Key×V)):Prop:=∃xs ep,H a=some (.ext (Xu P w a xs ep))/\KT H kvs xs/\kvs.length<=sizeLine/\(a == sysModules)=false
theorem DE.same(h:DE P w H a kvs)(s:Same H H'):DE P w H' a kvs:=let ⟨xs,ep,h1,h2,h3⟩:=h;⟨xs,ep,s _ _ h1,h2.keeps λb xs e=>s _ _ e,h3⟩
theorem DE.stay(h:DE P w H a kvs)(e:H' a=H a)(s:∀b xs,H b=some (.tup xs)->H' b=some (.tup xs)):DE P w H' a kvs:=let ⟨xs,ep,h1,h2,h3⟩:=h;⟨xs,ep,by rw[e];exact h1,h2.keeps s,h3⟩
theorem DE.ne(h:DE P w H a kvs)(e:H b=some (.tup xs)):b≠a:=let ⟨_,_,h1,_⟩:=h;uf e h1 (λz=>nomatch z)
section
variable {P:Program} {w:World} {H:Hp} {h:Heap} {a b:Addr} {k:List Key}
theorem zcp(ok:HOk P w H h)(d:DE P w H a kvs):∃xs,KT H kvs xs/\h.DictOfH (tupleKind (wD P w)) a xs:=by
 obtain⟨xs,ep,e,r,_,_⟩:=d;obtain⟨⟨o,es,h1,h2,h3,h4,h5⟩,_⟩:=(show ObjOk P w H h a (.ext (Xu P w a xs ep)) from ok a _ e)
 refine⟨xs,r,o,es,ep,h1,h2,h3,h4,?_,h5⟩;have all:∀{l:List (List Key×V)} {m:List (List Key×Addr×Value)},KT H l m->∀x∈m,(tupleKind (wD P w)).is h x.1 x.2.1:=λ{l m} q=>by
  induction q with
  |nil=>intro x hx;exact nomatch hx
  |@cons p q ps qs hq t ih=>
   intro x hx;rcases List.mem_cons.mp hx with e | hx
   ·subst e;exact U8 ok (by rw[<-hq.1];exact hq.2.1)
   ·exact ih x hx
 exact all r
theorem zat(p:Xu P w a xs ep h'):ObjOk P w H' h' a (.ext (Xu P w a xs ep)):=
 ⟨p,let ⟨o,_,e,_⟩:=p;⟨o,e⟩,λh1 h2 ⟨o,es,e,c⟩ k=>⟨o,es,k _ e,c⟩⟩
end
section
variable {X:Cx} {pins:List (Addr×Obj)} {σ:St} {H:Hp} {s:Shared} {a b:Addr} {v:V} {u r:Value} {A:Around} {E:Value->Shared->Prop} {kvs:List (List Key×V)} {k:List Key}
theorem zdJ(hu:A.units+2<cLine)(I:Inv X pins σ H s)(d:DE X.prog X.w H a kvs)(t:H b=some (.tup (k.map kV)))(l:yJ kvs k=some v)(h:∀w' s',Inv X pins σ H s'->RelV v w'->Q w' s'):wpAny (model X.prog X.w) A (getItem (.ref a) (.ref b)) Q E s:=by
 obtain⟨xs,rel,dd⟩:=zcp I.hok d;obtain⟨w',hw,rw'⟩:=RelO.some_of (by rw[<-l];exact rel.val k);obtain⟨p,hp,hp2⟩:=Option.map_eq_some_iff.mp hw;refine wpAny_getItem_heap (tupleKind_room_in1 (by omega)) (U8 I.hok t) dd hp ?_;rw[hp2];exact h w' _ (I.tok _) rw'
theorem zf8(hu:A.units+2<cLine)(I:Inv X pins σ H s)(d:DE X.prog X.w H a kvs)(t:H b=some (.tup (k.map kV)))(h:∀s',Inv X pins σ H s'->Q (.bool (!(yJ kvs k).isSome)) s'):wpAny (model X.prog X.w) A (compareOp .NotIn (.ref b) (.ref a)) Q E s:=by
 obtain⟨xs,rel,dd⟩:=zcp I.hok d;obtain⟨_,_,_,_,_,hd⟩:=d;refine wpAny_notIn_heap (tupleKind_room_in1 (by omega)) (U8 I.hok t) hd dd ?_;have q:=(rel.val k).isSome_eq;rw[Option.isSome_map]at q;rw[<-q];exact h _ (I.tok _)
theorem zdm(hu:A.units+2<cLine)(I:Inv X pins σ H s)(d:DE X.prog X.w H a kvs)(t:H b=some (.tup (k.map kV)))(hl:kvs.length<sizeLine)(rv:RelV v r)(h:∀s' H',DE X.prog X.w H' a (putK kvs k v)->(∀b,b≠a->H' b=H b)->Inv X pins σ H' s'->Q () s'):wpAny (model X.prog X.w) A (setItem (.ref a) (.ref b) r) Q E s:=by
 obtain⟨xs,rel,dd⟩:=zcp I.hok d;have nt:=λb ys=>d.ne (b:=b) (xs:=ys);obtain⟨ys,ep0,e,_,z,hd⟩:=d;have hz:xs.length<=sizeLine:=by rw[<-Paired.length rel];exact z
 refine wpAny_setItem_heap (tupleKind_room_in1 (by omega)) (U8 I.hok t) dd λh' dd' hs=>?_;obtain⟨q,es,ep,hq,h2,h3,h4,_,h5⟩:=dd';have sm:∀c,c≠a->upd H a (.ext (Xu X.prog X.w a (storedH xs k b r) ep)) c=H c:=λc hc=>zr hc;refine h _ _ ⟨storedH xs k b r,ep,zg,(rel.put k t rv).keeps λc zs ec=>by rw[zr (nt c zs ec)];exact ec,by have:=Yd kvs k v;omega,hd⟩ sm (zge I (by rw[e];exact True.intro) hs ⟨q,hq⟩ (zat ⟨q,es,hq,h2,h3,h4,h5⟩))
theorem zdP(I:Inv X pins σ H s)(d:DE X.prog X.w H a kvs):s.TypeIs (.ref a) "dict":=let ⟨_,_,dd⟩:=zcp I.hok d;dd.typeIs
end
def zgi(P:Program)(w:World)(td ty:TE):TE:=fun σ H Q=>td σ H λx H1=>ty σ H1 λy H2=>Ex5 λa kvs k b v=>x=.ref a/\DE P w H2 a kvs/\y=.ref b/\H2 b=some (.tup (k.map kV))/\yJ kvs k=some v/\Q v H2
def zfz(P:Program)(w:World)(ty td:TE):TE:=fun σ H Q=>ty σ H λy H1=>td σ H1 λx H2=>Ex4 λa kvs k b=>x=.ref a/\DE P w H2 a kvs/\y=.ref b/\H2 b=some (.tup (k.map kV))/\Q (.bl (!(yJ kvs k).isSome)) H2
def zhD(P:Program)(w:World)(td ty tv:TE):TS:=λD σ H=>tv σ H λv H1=>td σ H1 λx H2=>ty σ H2 λy H3=>Ex4 λa kvs k b=>x=.ref a/\DE P w H3 a kvs/\y=.ref b/\H3 b=some (.tup (k.map kV))/\kvs.length<sizeLine/\∀H4,DE P w H4 a (putK kvs k v)->(∀c,c≠a->H4 c=H3 c)->D.nx σ H4
def zhE(P:Program)(w:World):TE:=λ_ H Q=>∀p H',H p=none->DE P w H' p []->(∀c,c≠p->H' c=H c)->Q (.ref p) H'
section
variable {X:Cx} {o i value:Expr} {pos pos':Pos} {td ty tv:TE}
theorem zf2(hu:X.A.units+2<cLine)(ho:PE X o td)(hi:PE X i ty)(hs:zgJ i):PE X (.Subscript o i pos) (zgi X.prog X.w td ty):=by
 intro pins s σ H Q I h;refine zf0 PySem.F.slot_dict_getitem.lookup hs (thn (ho pins s σ H _ I h) λu s1 ⟨x,H1,I1,rx,q1⟩=>thn (hi pins s1 σ H1 _ I1 q1) λiv s2 ⟨y,H2,I2,ry,a,kvs,k,b,v,ex,d,ey,t,l,q2⟩=>?_);subst ex ey;obtain rfl:u=Value.ref a:=rx;obtain rfl:iv=Value.ref b:=ry;exact⟨zdP I2 d,zdJ hu I2 d t l λw' s3 I3 rw'=>⟨v,H2,I3,rw',q2⟩⟩
theorem zc4(hu:X.A.units+2<cLine)(hi:PE X i ty)(ho:PE X o td):PC X .NotIn i o (zfz X.prog X.w ty td):=by
 intro pins s σ H Q I h;refine thn (hi pins s σ H _ I h) λiv s1 ⟨y,H1,I1,ry,q1⟩=>thn (ho pins s1 σ H1 _ I1 q1) λu s2 ⟨x,H2,I2,rx,a,kvs,k,b,ex,d,ey,t,q2⟩=>?_;subst ex ey;obtain rfl:u=Value.ref a:=rx;obtain rfl:iv=Value.ref b:=ry;exact zf8 hu I2 d t λs3 I3=>⟨.bl _,H2,I3,rfl,q2⟩
theorem zac(hu:X.A.units+2<cLine)(ho:PE X o td)(hi:PE X i ty)(hv:PE X value tv)(hs:swapsWith value (some (.Subscript o i pos')) pos.line X.env=pure false):
  PS X (.Assign [.Subscript o i pos'] value pos) (zhD X.prog X.w td ty tv):=by
 intro pins s σ H D I h;refine wpAny_Assign_Subscript (thn (hv pins s σ H _ I h) λr s1 ⟨v,H1,I1,rv,q1⟩=>thn (ho pins s1 σ H1 _ I1 q1) λu s2 ⟨x,H2,I2,rx,q2⟩=>thn (hi pins s2 σ H2 _ I2 q2) λiv s3 ⟨y,H3,I3,ry,a,kvs,k,b,ex,d,ey,t,hl,q3⟩=>?_) hs;subst ex ey;obtain rfl:u=Value.ref a:=rx;obtain rfl:iv=Value.ref b:=ry;exact zdm hu I3 d t hl rv λs4 H4 d4 c4 I4=>⟨σ,H4,I4,q3 H4 d4 c4⟩
theorem Ju:PE X (.Dict [] [] pos) (zhE X.prog X.w):=λpins s σ H Q I h=>by
 have p0:Xu X.prog X.w s.heap.objs.size [] 0 (s.heap.push { cls:=.type "dict",data:=.dict #[] }):=⟨_,#[],Heap.get?_push_size _ rfl,⟨rfl,rfl,rfl⟩,rfl,rfl,List.nodup_nil⟩
 have fr:=I.hok.fresh (Nat.le_refl s.heap.objs.size);exact wpAny_Dict_empty ⟨.ref s.heap.objs.size,_,I.laid (λ_ _ q=>Heap.get?_push_of_some _ q) (Nat.le_refl _) (zat p0),rfl,h _ _ fr ⟨[],0,zg,.nil,Nat.zero_le _,beq_eq_false_iff_ne.mpr (Ne.symm (Nat.ne_of_lt I.big))⟩ λc hc=>zr hc⟩
end
theorem Yj{pos:Pos}(P:Program)(w:World)(hu:X.A.units+2<cLine)(ho:PE X o td)(hi:PE X i ty)(hs:zgJ i)(e1:X.prog=P:=by rfl)(e2:X.w=w:=by rfl):PE X (.Subscript o i pos) (zgi P w td ty):=by subst e1 e2;exact zf2 hu ho hi hs
section
variable {X:Cx}
abbrev zd1(K:W.Frag)(H:Hp):List Addr->List (List Key×V)->Prop:=Paired λt kv=>∃b,SqT K H t [.ref b,kv.2]/\H b=some (.tup (kv.1.map kV))
def jG(kvs more:List (List Key×V)):List (List Key×V):=more.foldl (λacc kv=>putK acc kv.1 kv.2) kvs
theorem KT.merge{H:Hp}:∀{more:List (List Key×V)} {rs:List (List Key×Addr×Value)} {kvs:List (List Key×V)} {xs:List (List Key×Addr×Value)},KT H more rs->KT H kvs xs->KT H (jG kvs more) (wA xs rs)
 |_,_,_,_,.nil,r=>r
 |_,_,_,_,.cons (a:=p) (b:=q) h t,r=>by
  show KT H (jG (putK _ p.1 p.2) _) (wA (storedH _ q.1 q.2.1 q.2.2) _);rw[<-h.1];exact KT.merge t (r.put p.1 h.2.1 h.2.2)
theorem Vn{pins:List (Addr×Obj)}{s:Shared}{σ:St}{H:Hp}(I:Inv X pins σ H s):∀{ts:List Addr} {kvs:List (List Key×V)} {its:List Value},zd1 X.K H ts kvs->Vals (ts.map V.ref) its ->
  ∃rs:List (List Key×Addr×Value),KT H kvs rs/\rs.length=its.length/\∀(i:Nat) (v:Value),its[i]?=some v->∃(T:Addr) (kv:List Key×Addr×Value),rs[i]?=some kv/\v=.ref T/\IsTup s.heap T #[.ref kv.2.1,kv.2.2]
 |_,_,_,.nil,r=>by
  rw[List.map_nil]at r;cases r
  exact⟨[],.nil,rfl,λi v e=>by cases e⟩
 |_,_,_,.cons (a:=t) (b:=kv) ⟨b,h,hb⟩ q,r=>by
  rw[List.map_cons]at r;cases r with
  |cons r1 r2=>
   obtain⟨rs,k1,k2,k3⟩:=Vn I q r2;obtain⟨its2,rv,it,_⟩:=I.tuple h;obtain⟨u,w',e,ru,rw'⟩:=vals2 rv;subst e;cases r1
   obtain rfl:u=.ref b:=ru;refine⟨(kv.1,b,w')::rs,.cons ⟨rfl,hb,rw'⟩ k1,by simp[k2],λi v e=>?_⟩;cases i with
   |zero=>cases e;exact⟨t,(kv.1,b,w'),rfl,rfl,it⟩
   |succ i=>exact k3 i v e
def zeK(P:Program)(w:World)(K:W.Frag):List V->Hp->VK->Prop:=λxs H Q=>Ex3 λa ts kvs=>xs=[.ref a]/\SqL K H a (ts.map V.ref)/\zd1 K H ts kvs/\∀p H',H p=none->DE P w H' p (jG [] kvs)->(∀c,c≠p->H' c=H c)->Q (.ref p) H'
theorem Y8:∀(more kvs:List (List Key×V)),(jG kvs more).length<=kvs.length+more.length
 |[],kvs=>Nat.le_refl _
 |m::more,kvs=>by
  have h1:=Y8 more (putK kvs m.1 m.2);have h2:=Yd kvs m.1 m.2;show (jG (putK kvs m.1 m.2) more).length<=_;rw[List.length_cons];omega
theorem zbR(hc:X.calm=true)(hu:X.A.units+64<cLine):wF X (.type "dict") (zeK X.prog X.w X.K):=by
 intro pins s σ H xs us Q I r h;obtain⟨a,ts,kvs,rfl,hq,hp,q⟩:=h;obtain⟨u,rfl,rx⟩:=vals1 r;cases rx
 obtain⟨its,rv,⟨o,n,e,c,d,dat⟩,hz⟩:=I.list hq;obtain⟨rs,k1,k2,k3⟩:=Vn I hp rv;have hl:=rv.length;rw[hl]at hz;have hk:=Paired.length k1;have hm:(jG [] kvs).length<=sizeLine:=by
  have h1:=Y8 kvs [];rw[List.length_nil]at h1;omega
 have all:∀{l:List (List Key×V)} {m:List (List Key×Addr×Value)},KT H l m->∀x∈m,IsTupleKey (wD X.prog X.w) s.heap x.1 x.2.1:=λ{l m} q=>by
  induction q with
  |nil=>intro x hx;exact nomatch hx
  |@cons p q ps qs hq t ih=>
   intro x hx;rcases List.mem_cons.mp hx with e | hx
   ·subst e;exact U8 I.hok (by rw[<-hq.1];exact hq.2.1)
   ·exact ih x hx
 refine WT (by omega) (I.ok.hd hc) e c dat d (by simpa using k2) (by simpa using hz) (all k1) (λi v hv=>k3 i v (by simpa using hv)) λh' tk dd k=>?_;obtain⟨q0,es,ep,hq0,h2,h3,h4,_,h5⟩:=dd;have fr:=I.hok.fresh (Nat.le_refl s.heap.objs.size);refine⟨.ref s.heap.objs.size,_,I.laid k (Nat.le_refl _) (zat ⟨q0,es,hq0,h2,h3,h4,h5⟩),rfl,q _ _ fr ⟨_,ep,zg,((k1.merge .nil).keeps λc zs ec=>by rw[zr (zx ec fr)];exact ec),hm,beq_eq_false_iff_ne.mpr (Ne.symm (Nat.ne_of_lt I.big))⟩ λc hc=>zr hc⟩
theorem zfr(P:Program)(w:World)(K:W.Frag)(hc:X.calm=true)(hu:X.A.units+64<cLine)(e1:X.prog=P:=by rfl)(e2:X.w=w:=by rfl)(e:X.K=K:=by rfl):wF X (.type "dict") (zeK P w K):=by subst e e1 e2;exact zbR hc hu
end
def zdh(P:Program)(w:World)(a:Addr)(xs:List (List Key×Addr×Value))(ep:Nat):It :=
 ⟨λi H=>H a=some (.ext (Xu P w a xs ep))/\i<xs.length,λi H v H'=>H'=H/\∃x,xs[i]?=some x/\v=.ref x.2.1,λi H=>H a=some (.ext (Xu P w a xs ep))/\xs.length=i⟩
theorem Jv(p:Xu P w a xs ep h):HT.RawD h a (xs.map λx=>Value.ref x.2.1) ep:=by
 obtain⟨o,es,h1,h2,h3,h4,_⟩:=p;refine⟨o,es,h1,h2,h3,?_⟩;rw[h4,List.map_map];apply List.map_congr_left;intro x _;rfl
theorem zdo{P:Program}{w:World}{K:W.Frag}{tg:Expr}(a it:Addr)(xs:List (List Key×Addr×Value))(ep:Nat):Turn P w K tg (zdh P w a xs ep) [it] it (λi h=>h.IsKeyIter it a i xs.length ep) where
 mem:=by simp
 obj:=λi h st b hb=>by
  have e:b=it:=by simpa using hb
  subst e;obtain⟨o,e,c,d⟩:=st;exact⟨o,e,λv z=>by rw[d]at z;cases z⟩
 keep:=λi h h' st k=>by
  obtain⟨o,e,r⟩:=st;exact⟨o,k it (by simp) o e,r⟩
 item:=by
  intro X hP hw hK hc i pins s σ H E I hf st hg;subst hP hw hK;obtain⟨ha,hi⟩:=hg;have hr:=Jv (I.hok a _ ha).1;have hx:=List.getElem?_eq_getElem hi;obtain⟨f0,f1,f2,f3,f4,f5⟩:=hf it (by simp);have hlen:(xs.map λx=>Value.ref x.2.1).length=xs.length:=List.length_map _;refine HT.zcV (by rw[hlen];exact st) hr (by rw[List.getElem?_map,hx];rfl) λh' st' sb=>?_;rw[hlen]at st';have I1:=I.turned (t':=s.toks) (λb o hb e=>(sb.2 b hb).trans e) f0 f1 f3 f4 f5;obtain⟨o,e,c,d⟩:=id st';exact⟨_,rfl,ze0 e c d (by decide) ⟨.ref xs[i].2.1,H,I1,rfl,⟨rfl,xs[i],hx,rfl⟩,st',λb hb=>(hf b hb).1⟩⟩
 done:=by
  intro X hP hw hK hc i pins s σ H E I hf st hg;subst hP hw hK;obtain⟨ha,hi⟩:=hg;subst hi;have hr:=Jv (I.hok a _ ha).1;obtain⟨f0,f1,f2,f3,f4,f5⟩:=hf it (by simp);have hlen:(xs.map λx=>Value.ref x.2.1).length=xs.length:=List.length_map _;refine HT.zeA (I.ok.hd hc) (by rw[hlen];exact st) hr λh' sb=>⟨rfl,I.turned (λb o hb e=>sb b o hb e) f0 f1 f3 f4 f5⟩
 self:=λ_ _ _ _ _ st h=>wpAny_pyIter_keyiter st h
def zhA(P:Program)(w:World)(tl:TE):TI:=fun σ H R=>tl σ H λx H1=>Ex3 λa xs ep=>x=.ref a/\H1 a=some (.ext (Xu P w a xs ep))/\(a == sysModules)=false/\R (zdh P w a xs ep) H1
theorem zaB{tg:Expr}(P:Program)(w:World)(hl:PE X l tl)(e1:X.prog=P:=by rfl)(e2:X.w=w:=by rfl):PI X tg l (zhA P w tl):=by
 subst e1 e2;intro pins s σ H R I h;refine thn (hl pins s σ H _ I h) λv s1 ⟨x,H1,I1,r1,q1⟩=>?_;obtain⟨a,xs,ep,e,ha,hd,q⟩:=q1;subst e;obtain rfl:v=.ref a:=r1;have hr:=Jv (I1.hok a _ ha).1;have hlen:(xs.map λx=>Value.ref x.2.1).length=xs.length:=List.length_map _;refine HT.zcM hd hr ?_;rw[hlen];refine⟨s1.heap.objs.size,[s1.heap.objs.size],_,_,H1,rfl,I1.kept λb o e=>Heap.get?_push_of_some _ e,zdo a _ xs ep,⟨_,Heap.get?_push_size _ rfl,rfl,rfl⟩,λb hb=>?_,q⟩;have e:b=s1.heap.objs.size:=by simpa using hb
 subst e;exact I1.fpOk (Nat.le_refl _) (I1.hok.fresh (Nat.le_refl _))
theorem kt_key{H:Hp}:∀{kvs:List (List Key×V)} {xs:List (List Key×Addr×Value)},KT H kvs xs->∀{i:Nat} {x:List Key×Addr×Value},xs[i]?=some x->∃kv,kvs[i]?=some kv/\H x.2.1=some (.tup (kv.1.map kV))
 |_,_,.nil,i,x,e=>by cases e
 |_,_,.cons (a:=p) (b:=q) h t,i,x,e=>by
  cases i with
  |zero=>cases e;exact⟨p,rfl,h.2.1⟩
  |succ i=>exact kt_key t e
theorem zfj{g:TG}{tb:TS}{D:Ends}(d:DE P w H a kvs)(Pv:Nat->St->Hp->Prop)(h0:Pv 0 σ H)(hl:∀i σ' H',i<=kvs.length->Pv i σ' H'->H' a=H a/\∀c zs,H c=some (.tup zs)->H' c=some (.tup zs))(hs:∀i kv p σ' H',kvs[i]?=some kv->H' p=some (.tup (kv.1.map kV))->Pv i σ' H'->g (.ref p) σ' H' fun σ2 H2=>tb { D with nx:=Pv (i+1),ct:=Pv (i+1),bk:=D.nx } σ2 H2)(hd:∀σ' H',Pv kvs.length σ' H'->D.nx σ' H'):
  Ex3 λa' xs ep=>V.ref a=.ref a'/\H a'=some (.ext (Xu P w a' xs ep))/\(a' == sysModules)=false/\∃W:Nat->Nat->St->Hp->Prop,(∃m,W 0 m σ H)/\∀i m σ H,W i m σ H ->
   ((zdh P w a' xs ep).stop i H/\D.nx σ H)\/((zdh P w a' xs ep).go i H/\∃N:St->Hp->Prop,(∀σ' H',N σ' H'->∃m',m'<m/\W (i+1) m' σ' H')/\∀x H',(zdh P w a' xs ep).yld i H x H'->g x σ H' fun σ2 H2=>tb { D with nx:=N,ct:=N,bk:=D.nx } σ2 H2):=by
 obtain⟨xs,ep,ha,kt,hz,hs0⟩:=d;have hlen:=Paired.length kt;refine⟨a,xs,ep,rfl,ha,hs0,λi m σ H=>m=kvs.length-i/\i<=kvs.length/\Pv i σ H,⟨kvs.length,by simp,Nat.zero_le _,h0⟩,?_⟩;rintro i m σ' H' ⟨rfl,hi,p⟩;obtain⟨q1,q2⟩:=hl i σ' H' hi p;by_cases hlt:i<kvs.length
 ·refine .inr ⟨⟨by rw[q1];exact ha,by omega⟩,Pv (i+1),fun σ' H' p'=>⟨kvs.length-(i+1),by omega,rfl,hlt,p'⟩,λx H2 y=>?_⟩;obtain⟨e,z,hz,rfl⟩:=y;subst e;obtain⟨kv,h1,h2⟩:=kt_key kt hz;exact hs i kv _ σ' _ h1 (q2 _ _ h2) p
 ·have e:i=kvs.length:=by omega
  subst e;exact .inl ⟨⟨by rw[q1];exact ha,hlen.symm⟩,hd σ' H' p⟩
theorem zdq(d:DE P w H a kvs)(Pv:Nat->List V->Hp->Prop)(h0:Pv 0 [] H)(hl:∀i ys H',i<=kvs.length->Pv i ys H'->H' a=H a/\∀c zs,H c=some (.tup zs)->H' c=some (.tup zs))(hs:∀i kv p ys H',kvs[i]?=some kv->H' p=some (.tup (kv.1.map kV))->Pv i ys H'->ys.length<sizeLine/\tt (some (.ref p)::uJ js σ) H' λb H2=>if b=true then te (some (.ref p)::uJ js σ) H2 λv H3=>Pv (i+1) (ys++[v]) H3 else Pv (i+1) ys H2)(hd:∀ys H',Pv kvs.length ys H'->∀D,H' D=none->Q (.ref D) (upd H' D (.lst ys))):
  Ex3 λa' xs ep=>V.ref a=.ref a'/\H a'=some (.ext (Xu P w a' xs ep))/\(a' == sysModules)=false/\CompLoop (zdh P w a' xs ep) js tt te σ Q H:=by
 obtain⟨xs,ep,ha,kt,hz,hs0⟩:=d;have hlen:=Paired.length kt;refine⟨a,xs,ep,rfl,ha,hs0,λi m ys H=>m=kvs.length-i/\i<=kvs.length/\Pv i ys H,⟨kvs.length,by simp,Nat.zero_le _,h0⟩,?_⟩;rintro i m ys H' ⟨rfl,hi,p⟩;obtain⟨q1,q2⟩:=hl i ys H' hi p;by_cases hlt:i<kvs.length
 ·have hx:xs[i]?=some (xs[i]'(by omega)):=List.getElem?_eq_getElem (by omega);obtain⟨kv,h1,h2⟩:=kt_key kt hx;obtain⟨hz,hst⟩:=hs i kv _ ys H' h1 (q2 _ _ h2) p;refine .inr ⟨⟨by rw[q1];exact ha,by omega⟩,hz,Pv (i+1),λys' H' p'=>⟨kvs.length-(i+1),by omega,rfl,hlt,p'⟩,λx H2 y=>?_⟩;obtain⟨e,z,hz,rfl⟩:=y;subst e;rw[hx]at hz;cases hz
  exact hst
 ·have e:i=kvs.length:=by omega
  subst e;exact .inl ⟨⟨by rw[q1];exact ha,hlen.symm⟩,hd ys H' p⟩
open PySem PySem.Spec PyProof.Rows PySem.W
section
variable {X:Cx}
def zgc(P:Program)(w:World):List V->Hp->VK->Prop:=λxs H Q=>Ex3 λ(a:Addr) (kvs:List (List Key×V)) (ls:ZA)=>xs=[.ref a]/\DE P w H a kvs/\kvs.map (·.1)=ls.map kI/\ls.length<=60/\(∀l∈ls,l≠[]) /\
 ∀(p:Addr) (zs':ZB),H p=none->(zs'.map (·.2)).Perm ls->zs'.Pairwise (λx y=>HT.lexLt x.2 y.2=true)->(∀z∈zs',H z.1=some (.tup (z.2.map V.int)))->Q (.ref p) (upd H p (.lst (zs'.map λz=>V.ref z.1)))
theorem zd0(P:Program)(w:World)(e1:X.prog=P:=by rfl)(e2:X.w=w:=by rfl)(hcalm:X.calm=true:=by rfl):wF X (.builtin "sorted") (zgc P w):=by
 subst e1 e2;intro pins s σ H xs us Q I r h;obtain⟨a,kvs,ls,rfl,ha,hks,h60,hne,q⟩:=h;obtain⟨u,rfl,rx⟩:=vals1 r;cases rx
 obtain⟨xs,ep,e0,rel,z,hd⟩:=ha;obtain⟨⟨o,es,h1,h2,h3,h4,h6⟩,_⟩:=(show ObjOk X.prog X.w H s.heap a (.ext (Xu X.prog X.w a xs ep)) from I.hok a _ e0)
 obtain⟨zs,hz2,hzr,hzt,hx1⟩:=zaV rel hks;have hzl:zs.length=ls.length:=by rw[<-hz2,List.length_map]
 have nd:(zs.map (·.2)).Nodup:=by
  rw[hz2];rw[hx1]at h6;exact (List.pairwise_map.mp h6).imp λhab e=>hab (by rw[e])
 have hraw:HT.RawD s.heap a (zs.map λz=>Value.ref z.1) ep:=⟨o,es,h1,h2,h3,by rw[h4,List.map_map,<-hzr];rfl⟩
 have hkl:(zs.map λz=>Value.ref z.1).length=zs.length:=List.length_map ..;have hO:=zg4 nd;rw[List.length_map]at hO;have hzt':∀z∈zs,H z.1=some (.tup (z.2.map V.int))/\z.2≠[]:=λz hz=>⟨hzt z hz,hne _ (by rw[<-hz2];exact List.mem_map.mpr ⟨z,hz,rfl⟩)⟩
 refine HT.zfQ (n:=zs.length) (κ:=tuples' true) (Pv:=λvs=>vs=zs.map λz=>Value.ref z.1) (by omega) (λR hR=>?_) λvs hl hv=>?_
 ·refine kdu_collect (HT.zg2 hd) (I.ok.hd hcalm) hraw (by rw[hkl];exact Nat.le_trans (show zs.length<=60 by omega) (by decide)) λh' tk acc hk hacc=>?_;have hal:acc.toList.length=zs.length:=by rw[Array.length_toList,hacc.1,hkl]
  refine hR h' tk acc.toList hk hal ?_;apply List.ext_getElem?;intro i;cases e:acc.toList[i]? with
  |some v=>exact (hacc.2 i v (by rw[<-Array.getElem?_toList];exact e)).symm
  |none=>rw[List.getElem?_eq_none (by rw[hkl,<-hal];exact List.getElem?_eq_none_iff.mp e)]
 ·subst hv;have gr:∀i,i<zs.length->(zs.map λz=>Value.ref z.1).getD i Value.none=.ref (zs.getD i (0,[])).1/\(zs.map (·.2)).getD i []=(zs.getD i (0,[])).2/\zs.getD i (0,[])∈zs:=λi hi=>by
   have e:zs.getD i (0,[])=zs[i]:=by rw[List.getD_eq_getElem?_getD,List.getElem?_eq_getElem hi];rfl
   rw[e];refine⟨?_,?_,List.getElem_mem _⟩
   ·rw[List.getD_eq_getElem?_getD,List.getElem?_map,List.getElem?_eq_getElem hi];rfl
   ·rw[List.getD_eq_getElem?_getD,List.getElem?_map,List.getElem?_eq_getElem hi];rfl
  refine⟨_,hO,λG tk kG hn2 Q' hq=>?_,λG tk kG i j C hi hj hC=>?_,λp h' h'' tk e hp hw k1 k2 hat=>?_⟩
  ·obtain⟨fs,ht,hfl,hfi⟩:=Q6 (I.kept kG) zs hzt';refine kat_kind (T:=.type "int") ht (by omega) (λv hv=>?_) (by decide) (by exact hq);obtain⟨n,t,rfl⟩:=hfi v hv;exact Looks.of_pure rfl
  ·obtain⟨a1,a2,a3⟩:=gr i hi;obtain⟨b1,b2,b3⟩:=gr j hj;unfold kas_ask;rw[a1,b1];refine zf4 (I.kept kG) (hzt _ a3) (hzt _ b3) ?_;rw[a2,b2]at hC;exact hC
  ·obtain⟨zs',pm,pw,hm⟩:=zfd hp hw;rw[hm]at hat;have I1:=I.kept (t':=tk) k1;have hfree:=I1.hok.fresh (Nat.le_refl _);have hl':=pm.length_eq;refine⟨.ref h'.objs.size,_,I1.laid (o:=.lst (zs'.map λz=>V.ref z.1)) k2 (Nat.le_refl _) ⟨by rw[List.length_map];exact Nat.le_trans (show zs'.length<=60 by omega) (by decide),_,e,Yy zs',hat⟩,rfl,q _ zs' hfree (by rw[<-hz2];exact pm.map _) pw λz hz=>hzt z (pm.mem_iff.mp hz)⟩
end
structure Sq (X:Cx) (l:List Stmt) where
 t:TS
 p:PSs X l t
def sbs:Stmt->Bool->List Stmt
 |.For _ _ b _ _,true=>b
 |.While _ b _ _,true=>b
 |.If _ b _ _,true=>b
 |.If _ _ b _,false=>b
 |_,_=>[]
def sb(l:List Stmt)(i:Nat)(k:Bool):List Stmt :=
 match l.drop i with
 |s::_=>sbs s k
 |[]=>[]
theorem xm(h:let Y:=X;∃t,PSs Y l t/\t D σ H):∃t,PSs X l t/\t D σ H:=h
theorem Qx(h:H l=none)(e:upd H l o=G):Same H G/\G l=some o:=by
 subst e;exact⟨λb u q=>by rw[zr (zx q h)];exact q,zg⟩
end L2
namespace PySem.W.Fast
def tw1730812170432622399:=0
def tw714801213886893461:=0
def tw17169485982665864110:=0
def tw18147145361334708662:=0
def tw3622239569806100389:=0
def tw2298634696616240684:=0
def tw5512304863381613448:=0
def tw8045566355804134136:=0
def tw2772184481603903042:=0
def tw17568373144094503007:=0
def tw17322083260685371016:=0
def tw1020214054824204008:=0
def tw10184862238903740817:=0
def tw2407854749550794585:=0
def tw12386844721581966492:=0
def tw15105677947210581075:=0
def tw3820121574307882068:=0
def tw7397320213071126384:=0
def tw11225422290834740065:=0
def tw6226496944971923802:=0
def tw8276955436752645854:=0
def tw1875491252393338292:=0
def tw18324369187707416601:=0
def tw1315140720988815890:=0
def tw17502672757996344376:=0
def tw17325159563000654440:=0
def tw2555297240484417991:=0
def tw10724156654155975051:=0
def tw10415387249134661441:=0
def tw14589167322067582026:=0
def tw3621667594206430060:=0
def tw16174027799076311393:=0
def tw14756497393288686879:=0
def tw15605046408143712123:=0
def tw15735691726552677996:=0
def tw14740509371925799311:=0
def tw1713441203257971890:=0
def tw9500345166698421438:=0
def tw11529578942853616128:=0
def tw1935564704072362367:=0
def tw8921086976307347829:=0
def tw15185928335109445428:=0
def tw11321383433704012822:=0
def tw14127840418700214935:=0
def tw17935029740815035679:=0
def tw18148285678831853559:=0
def tw7735029608853801297:=0
def tw14886538971245916770:=0
def tw4533790343254607689:=0
def tw11589060198859034476:=0
def tw9597143946630561209:=0
def tw9664685975364860753:=0
def tw7316738022594022289:=0
def tw9213214797919845409:=0
def tw2156061348551635617:=0
def tw14347268696153373467:=0
def tw11348633689884686258:=0
def tw16083938886137467825:=0
def tw4048369590558636278:=0
def tw17834636572403433316:=0
def tw15141886726699999322:=0
def tw2091768186930137383:=0
def tw12489944175013333370:=0
def tw11180147524969507490:=0
def tw1909534112208960849:=0
def tw1906524205818503518:=0
def tw732559702487996083:=0
def tw13945808900778818733:=0
def tw11881413526596758176:=0
def tw7994988693325301978:=0
def tw16225328572903233136:=0
def tw16622444786264775957:=0
def tw15308710137935580113:=0
def tw15734617638871613777:=0
def tw3352233292098850664:=0
def tw8823187592387335991:=0
def tw4324182004484586551:=0
def tw8432937519177887615:=0
def tw7844920977882374135:=0
def tw6921660734252586829:=0
def tw6465183212703288850:=0
def tw6477802305897194615:=0
def tw1617161794149867142:=0
def tw5103183455981332486:=0
def tw8427943783553431423:=0
def tw8407584396197633452:=0
def tw11943644384206048100:=0
def tw11271256133193511007:=0
def tw13037763981066552396:=0
def tw7578010053388285052:=0
def tw10875606633354449617:=0
def tw17543809372687430299:=0
def tw8679889192409768:=0
def tw15940392173092668795:=0
def tw8465358155268157252:=0
def tw18310486414014530147:=0
def tw15595585749479110795:=0
def tw15122331979992278382:=0
def tw12041035420998673458:=0
def tw5672097101069135465:=0
def tw2039464502521218905:=0
def tw4867261696365269322:=0
def tw724694780083966150:=0
def tw9024097876091350454:=0
def tw17427427150375206151:=0
def tw4666964243064244934:=0
def tw4952512921335972638:=0
def tw3491324240747046442:=0
def tw16826034962824843580:=0
def tw3364935527794097875:=0
def tw15177754764712208490:=0
def tw14107124404036670990:=0
def tw18176795111938407797:=0
def tw14542816971679315784:=0
def tw877516494082764882:=0
def tw15629538896125647986:=0
def tw17671697085827490063:=0
def tw7719617018541733055:=0
def tw16166990791449205465:=0
def tw5934080568782876371:=0
def tw11827106246164077404:=0
def tw8508520527869597462:=0
def tw10948976441601718314:=0
def tw15780387521675659027:=0
def tw873309600705380717:=0
def tw15170826615237097410:=0
def tw44125564216947906:=0
def tw13348436409797990752:=0
def tw10279380564109979053:=0
def tw16233409158908198250:=0
def tw13262562369918941682:=0
def tw9813788854417444194:=0
def tw8966527239793375490:=0
def tw3691664416171454249:=0
def tw402732781242143254:=0
def tw2488270406542170823:=0
def tw6145820644640669874:=0
def tw2565152901360744748:=0
def tw3156067956912725808:=0
def tw13480510814744987169:=0
def tw17792575708737485528:=0
def tw11747778752718226583:=0
def tw656773640331848021:=0
def tw11921029963987894005:=0
def tw2345995947685784733:=0
def tw5794600470916115369:=0
def tw9558597250752213684:=0
def tw13787724776105283446:=0
def tw7387175926186160674:=0
def tw14199964192664533003:=0
def tw7773460808973994242:=0
def tw6067253536810055807:=0
def tw12403735942974229496:=0
def tw9330939041864443086:=0
def tw11703546560822162308:=0
def tw3832450789608312869:=0
def tw7974166327760402177:=0
def tw16434364588644349280:=0
def tw9199220869634721586:=0
def tw7565513104978222373:=0
def tw683842631729678562:=0
def tw5015826781082944995:=0
def tw916897186445196078:=0
def tw11457602154267825062:=0
def tw10121333183635347159:=0
def tw408478201532523622:=0
def tw529894372800075872:=0
def tw13866799407350506760:=0
def tw18021612346749998621:=0
def tw7089504587018204856:=0
def tw16106606389569949771:=0
def tw13014883847966769611:=0
def tw6277916961670235742:=0
def tw15130680376580389515:=0
def tw11847337535018674056:=0
def tw8956413199508870321:=0
def tw11066678278734587356:=0
def tw15370204782102283357:=0
def tw11795793671784584837:=0
def tw10952204300328371671:=0
def tw652663530894216551:=0
def tw12373856394883559191:=0
def tw9029010460964975063:=0
def tw14376656965819866264:=0
def tw15683602497836211056:=0
def tw14181863147995688068:=0
def tw10300447192417544453:=0
def tw3049457288596155054:=0
def tw14519203505143180927:=0
def tw13545872862099154820:=0
def tw4435008918540943568:=0
def tw3452875778276701494:=0
def tw4142858930165545183:=0
def tw1582030300508089604:=0
def tw1732709827872375035:=0
def tw13283151810155472968:=0
def tw16037259486619808598:=0
def tw17063099005591370001:=0
def tw8040182505124072919:=0
def tw17385014924233747004:=0
def tw9177501724419629325:=0
def tw17471754006742464817:=0
def tw796175069941509267:=0
def tw7531487786679444838:=0
def tw3792443132920989877:=0
def tw6119378407199036977:=0
def tw11033661351962366910:=0
def tw15290580676152096360:=0
def tw8549051233651350173:=0
def tw9893460260697728160:=0
def tw9002238416285904329:=0
def tw2305629587255803776:=0
def tw1561233382317524600:=0
def tw11487899958703484924:=0
def tw4969032889352715979:=0
def tw13704591771375875983:=0
def tw5093082781493176538:=0
def tw680392031496598551:=0
def tw18229117457764229872:=0
def tw15664769542429968637:=0
def tw16278460125390573453:=0
def tw4754627782785086225:=0
def tw6804511743654662585:=0
def tw12580126183757762327:=0
def tw4028051063636337904:=0
def tw3602643412551630752:=0
def tw4968763929111692177:=0
def tw3624750732272239474:=0
def tw14196714090327583252:=0
def tw5651272664360630853:=0
def tw16521500110938779991:=0
def tw10841172526993744732:=0
def tw9420001521451580004:=0
def tw8303893919339921253:=0
def tw16387107346630927056:=0
def tw12668995621240298590:=0
def tw11915225380451267918:=0
def tw8688217222169300439:=0
def tw820441643974119864:=0
def tw13479619322526232084:=0
def tw1139605604451771857:=0
def tw16786927123114855810:=0
def tw18250133863957161003:=0
def tw16783939352362345978:=0
def tw9262004140918190006:=0
def tw10155072345385807061:=0
def tw12171046924664222603:=0
def tw17769735348362764912:=0
def tw10009050265543516705:=0
def tw9330841334626697473:=0
def tw2779111750011689964:=0
def tw7457122564107249015:=0
def tw10311229204260299653:=0
def tw11183662583374390831:=0
def tw15716314390632802089:=0
def tw13975386878214908371:=0
def tw395162715441501794:=0
def tw12514584479587760764:=0
def tw3680555909502136389:=0
def tw18002069180261756572:=0
def tw3329889282823126198:=0
def tw7520911307759620607:=0
def tw1592759462821651067:=0
def tw11896433886659567084:=0
def tw13223814206068580431:=0
def tw15520676813828521858:=0
def tw2381746269086708409:=0
def tw9496969643521175179:=0
def tw4668658734881207016:=0
def tw17099504763864474921:=0
def tw944170310281781265:=0
def tw13637886815705816701:=0
def tw3495192618418509535:=0
def tw1212250945060945073:=0
def tw18072207126709607138:=0
def tw2109525118688387724:=0
def tw4695911779434923074:=0
def tw5095479692402976277:=0
def tw6772972545636720166:=0
def tw497308015345633837:=0
def tw6543930172922654560:=0
def tw8156491800139802390:=0
def tw15334617430577177647:=0
def tw3663619035776594342:=0
def tw3966312001639059569:=0
def tw3098109369735795085:=0
def tw7819733990673996732:=0
def tw3162985545061247475:=0
def tw8628067391562705323:=0
def tw16103607643827788776:=0
def tw3795884202345415691:=0
def tw18246535623130182397:=0
def tw8356940978871319026:=0
def tw18239797371633605048:=0
def tw18319919228197967649:=0
def tw443246344308379316:=0
def tw9656723486377154051:=0
def tw12121926020362858100:=0
def tw9655921389244564746:=0
def tw6316554708269999402:=0
def tw17651839252726609152:=0
def tw8764591699404267354:=0
def tw3569115459896227121:=0
def tw14051593775038896508:=0
def tw12123718842187794536:=0
def tw4606694725079774645:=0
def tw9813859193037175721:=0
def tw1924324315023141911:=0
def tw16759728408124035674:=0
def tw13026328806702508305:=0
def tw7326835307196665424:=0
def tw7169041907749482436:=0
def tw10963967110610251474:=0
def tw11783138267620343889:=0
def tw14471008798634281515:=0
def tw5273380311399285872:=0
def tw18071286980048356105:=0
def tw12006840227917307591:=0
def tw8948588187822151819:=0
def tw738371021797724107:=0
def tw7847958079677004723:=0
def tw1661587461557557478:=0
def tw8249853041371864594:=0
def tw7544067597814062713:=0
def tw7792423090363075779:=0
def tw8943064865952712509:=0
def tw8399422456286020300:=0
def tw14578866316645920296:=0
def tw10673457729452437744:=0
def tw4702913752004428205:=0
def tw4347247930253392162:=0
def tw8327673666803339383:=0
def tw16890228225220162469:=0
def tw3291465466716553671:=0
def tw11136427030090987969:=0
def tw16511700331990277710:=0
def tw13083479609899146616:=0
def tw3665754414631459220:=0
def tw4822897629936509028:=0
def tw8682175308598333421:=0
def tw7752202226857241653:=0
def tw14057867608781993486:=0
def tw11902213238479529911:=0
def tw12865946532557893423:=0
def tw17867024094906834233:=0
def tw8689551339892383380:=0
def tw8353043545768365141:=0
def tw9625539786554770586:=0
def tw8712470252390191745:=0
def tw1215324551531271128:=0
def tw15346732781269903320:=0
def tw1398987559658123492:=0
def tw15587398334018263751:=0
def tw5819566487539273083:=0
def tw7887708098455000847:=0
def tw4375356822313591875:=0
def tw5580462978822024739:=0
def tw14844214906860422078:=0
def tw5299407980478560547:=0
def tw18019937281692835395:=0
def tw15186564268077144643:=0
def tw6270523099747123997:=0
def tw17033368131055585599:=0
def tw16780648568125480187:=0
def tw17887500236839142086:=0
def tw11390506413859971075:=0
def tw14885047904385202601:=0
def tw16781590527981743651:=0
def tw9744620347820759878:=0
def tw16845823997525387794:=0
def tw5784360802359095205:=0
def tw11390956572851924881:=0
def tw7515096420136042964:=0
def tw12486801361322792560:=0
def tw6322396251452250080:=0
def tw18216270646145774361:=0
def tw15721217144718594076:=0
def tw11343475395056868378:=0
def tw17183049225950516276:=0
def tw3731908339522016658:=0
def tw11172423971257739050:=0
def tw5638885294745554119:=0
def tw6112331320100876526:=0
def tw18238217649897502719:=0
def tw16990631466583846886:=0
def tw95051879339776350:=0
def tw9601724618732053628:=0
def tw12628662407352606402:=0
def tw7956075914419245952:=0
def tw5322385256767703135:=0
def tw2147476219585425301:=0
def tw10410765116218783993:=0
def tw13281280458836128054:=0
def tw3219586281040228503:=0
def tw3745875152854150132:=0
def tw16642192057704546024:=0
def tw13200230930144904795:=0
def tw4549892063630412769:=0
def tw13061985318413370799:=0
def tw4725862851863144585:=0
def tw4459955457220283500:=0
def tw18283103961895037874:=0
def tw16377428825919784047:=0
def tw17936753077476200264:=0
def tw7185751567719485095:=0
def tw12541932205737978454:=0
def tw15260907059446454370:=0
def tw17197967364347297281:=0
def tw13705630904511588455:=0
def tw6977388464205683340:=0
def tw15105996387361072750:=0
def tw16920017739485966387:=0
def tw13715805053078605009:=0
def tw6312097884721129168:=0
def tw529762566997061749:=0
def tw15470228345915357936:=0
def tw13113327604133124844:=0
def tw7492545193600149261:=0
def tw1561830079054926962:=0
def tw13175511417792633424:=0
def tw12614124747394345184:=0
def tw13663495531874940798:=0
def tw15928455188010848112:=0
def tw453744575229995317:=0
def tw15945552038296225426:=0
def tw13786390938647436647:=0
def tw3142354852835846486:=0
def tw16241324035424869577:=0
def tw5126912803329078803:=0
def tw6025171382728853469:=0
def tw16904695539437586442:=0
def tw9447695426128840221:=0
def tw11496687261207707777:=0
def tw7786024274459323558:=0
def tw17477446354739518389:=0
def tw5293190617766244066:=0
def tw10216790809513671313:=0
def tw12709892993559359962:=0
def tw17497986302793354636:=0
def tw17704375762690542782:=0
def tw13795556199358255091:=0
def tw1839804619384152450:=0
def tw18292843597329941896:=0
def tw12693356580447840404:=0
def tw4960346021644245111:=0
def tw5928762799574504203:=0
def tw13757124435667778143:=0
def tw1114330014722895000:=0
def tw14405953189712197945:=0
def tw4306685137991202426:=0
def tw17342377363699257931:=0
def tw12463744195347681117:=0
def tw13769335386118425533:=0
def tw17396655603008752719:=0
def tw14243525435086918663:=0
def tw5251984219760423927:=0
def tw8906995972379122591:=0
def tw8719062488907035944:=0
def tw7437419656863032938:=0
def tw586701050048500599:=0
def tw11786790969524352901:=0
def tw3724693381408111913:=0
def tw8987844732124313442:=0
def tw14474980487790059839:=0
def tw11989172265082831763:=0
def tw7241434109088821866:=0
def tw5321900002263991136:=0
def tw18423264721675113019:=0
def tw1066486699620639708:=0
def tw6389255219929696724:=0
def tw17651217880430693214:=0
def tw17804544259097640916:=0
def tw15190010551042758157:=0
def tw16554383560437609340:=0
def tw9745541474369482192:=0
def tw4761628659379988461:=0
def tw7379504217571535475:=0
def tw4165616307900728935:=0
def tw2873401254763461396:=0
def tw12445171915694320089:=0
def tw16305615685868753562:=0
def tw7113294170173642315:=0
def tw8283604414209369468:=0
def tw13336272934870259363:=0
def tw7505613291330999105:=0
def tw17538703902846159282:=0
def tw17277630345894750368:=0
def tw5905963432948571410:=0
def tw6593930892880792893:=0
def tw2250792948962982360:=0
def tw11178687646391290273:=0
def tw17319692105837649133:=0
def tw17282441915051578103:=0
def tw6969501777273533254:=0
def tw18446259810277840701:=0
def tw13607228079850094331:=0
def tw11117511622079269970:=0
def tw11079629463837786700:=0
def tw6025613573762457259:=0
def tw9024071202595815254:=0
def tw689964025596666095:=0
def tw16937503267473225687:=0
def tw338030562674717286:=0
def tw9393839793590629986:=0
def tw13192000572571638379:=0
def tw15726705368866079288:=0
def tw16062492290349561482:=0
def tw2098709547672254453:=0
def tw14660752727529608538:=0
def tw11442125122528073761:=0
def tw15768175214520207784:=0
def tw7413746810520662888:=0
def tw7133402107735549727:=0
def tw17500402805826590747:=0
def tw3178562378525915604:=0
def tw5061614488311314420:=0
def tw11908038059050074915:=0
def tw10660146853628867740:=0
def tw10386252639859040082:=0
def tw12381370839426702073:=0
def tw8658260330986011593:=0
def tw16589333933815100438:=0
def tw16241862028729845950:=0
def tw3542406724773777454:=0
def tw18335143664530732309:=0
def tw16117020038224487974:=0
def tw14776427190041544846:=0
def tw7970357118905905300:=0
def tw14367989429950659506:=0
def tw5941103521993523842:=0
def tw10057542639004719362:=0
def tw12573038442931935740:=0
def tw7722985433584470693:=0
def tw13931477910002616779:=0
def tw11141254776706541662:=0
def tw13809949781772158489:=0
def tw16985088711446180670:=0
def tw4144411049180098272:=0
def tw17292859426269638877:=0
def tw17537149053058144511:=0
def tw11277947749548977259:=0
def tw5677661621764147119:=0
def tw8353817046323290542:=0
def tw14618628207999801148:=0
def tw13468129662746800662:=0
def tw5702292465301397152:=0
def tw15138498966654499404:=0
def tw2266945776761055472:=0
def tw10603207226420322460:=0
def tw18358733114966535830:=0
def tw11371522061171302015:=0
def tw2339292384782724673:=0
def tw12401726531797466531:=0
def tw14087805634382480035:=0
def tw6588642691696433083:=0
def tw3753048055498939586:=0
def tw11461794994905868655:=0
def tw14258457398201060870:=0
def tw15568987900782815647:=0
def tw2514832179833188409:=0
def tw3056447089544459915:=0
def tw1447194414356647948:=0
def tw8427448318586570532:=0
def tw885405843365671183:=0
def tw5359192110725580085:=0
def tw11511417312761065443:=0
def tw9025730951144536127:=0
def tw15353023951667102492:=0
def tw4281254320770680526:=0
def tw2699441169256945441:=0
def tw10756427677472951934:=0
def tw9653307612644793146:=0
def tw4672394958172175251:=0
def tw16331310480336372333:=0
def tw7816348858638067938:=0
def tw7482812575743985177:=0
def tw10569308656539732750:=0
def tw4896174132617776405:=0
def tw4400333380256860288:=0
def tw13083660078448185421:=0
def tw18290283243859378070:=0
def tw8290465047818445733:=0
def tw17573425866479028912:=0
def tw12159613049823172388:=0
def tw3823784655932463682:=0
def tw11518384473108726020:=0
def tw12099117982909006762:=0
def tw9928482365334593436:=0
end PySem.W.Fast
namespace Lw
open PySem L2 PyProof.Rows
def top(i:Nat):Stmt:=PySem.Challenge.pw_lackstretch_k34_keepers_apart.main.body.getD i (.Pass ⟨0,0,0,0⟩)
abbrev uH:Stmt:=top 20
abbrev ju:Stmt:=top 21
abbrev jN:Stmt:=top 22
abbrev jq:Stmt:=top 23
abbrev vJ:Stmt:=top 24
abbrev vf:Stmt:=top 25
abbrev uX:Stmt:=top 26
abbrev wH:Stmt:=top 27
abbrev jM:Stmt:=top 28
abbrev qi:Stmt:=top 29
abbrev wR:Stmt:=top 30
abbrev qm:Stmt:=top 31
abbrev qt:Stmt:=top 32
abbrev xr:Stmt:=top 33
abbrev wY:Stmt:=top 34
abbrev yL:Stmt:=top 35
abbrev uw:Stmt:=top 37
abbrev xF:Stmt:=top 38
abbrev yp:Stmt:=top 39
abbrev xY:Stmt:=top 42
abbrev um:Stmt:=top 43
abbrev vW:Stmt:=top 44
abbrev yI:Stmt:=inClass (top 45) 0
abbrev xP:Stmt:=inClass (top 45) 1
abbrev xx:Stmt:=inClass (top 45) 2
abbrev wB:Stmt:=inClass (top 45) 3
abbrev yg:Stmt:=inClass (top 45) 4
abbrev yq:Stmt:=inClass (top 49) 0
abbrev wJ:Stmt:=inClass (top 49) 1
abbrev vU:Stmt:=inClass (top 49) 2
abbrev yD:Stmt:=inClass (top 49) 3
abbrev vH:Stmt:=inClass (top 49) 4
abbrev wU:Stmt:=inClass (top 49) 6
abbrev uV:Stmt:=top 51
abbrev vp:Stmt:=top 52
abbrev yf:Stmt:=top 53
abbrev yG:Stmt:=top 54
abbrev xR:Stmt:=top 55
abbrev tD:Stmt:=top 56
abbrev tE:Stmt:=top 57
abbrev tG:Stmt:=top 58
abbrev yz:Stmt:=top 59
abbrev zW:Stmt:=top 60
abbrev xj:Stmt:=top 61
abbrev zP:Stmt:=top 62
abbrev wG:Stmt:=top 65
abbrev uW:Stmt:=top 66
abbrev jn:Stmt:=top 67
abbrev yF:Stmt:=top 68
abbrev xQ:Stmt:=top 69
abbrev xK:Stmt:=top 70
abbrev uA:Stmt:=top 71
abbrev vq:Stmt:=top 72
def WP:PyData->Bool
 |.int _=>true
 |_=>false
def qD:PyData->Int
 |.int i=>i
 |_=>0
def qI:PyData->Bool
 |.int i=>decide (2<=i/\i<=16)
 |_=>false
def WF(b:Int):PyData->Bool
 |.int i=>decide (0<=i/\i<b)
 |_=>false
def Uk(b:Int):PyData->Bool
 |.list xs=>xs.all (WF b)
 |_=>false
def YL:PyData->List PyData
 |.list xs=>xs
 |_=>[]
def yE(d:PyData):List Int:=(YL d).map qD
def zJ(b:Int)(d:PyData):Bool:=Uk b d && decide (1<=(YL d).length/\(YL d).length<=4)
def qg(ls:ZA):Bool:=(List.range (ls.length-1)).all λk=>HT.lexLt (ls.getD k []) (ls.getD (k+1) [])
def zdd(b:Int):PyData->Bool
 |.list xs=>decide (xs.length<=4) && (xs.all (zJ b) && qg (xs.map yE))
 |_=>false
def Xa:PyData->Bool
 |.tuple [d,l]=>qI d && zdd (qD d) l
 |_=>false
theorem zdC(d:PyData):WP d=(isT "int" d && !isT "bool" d):=by cases d<;>rfl
theorem Xn(h:WP d=true):d=.int (qD d):=by cases d<;>first | rfl | cases h
section
variable {P:Program} {w:World} {K:W.Frag} {mg:Str->Option Value} {base:Heap}
def jb:Sp:=λvs H Q _=>Ex2 λv d=>vs=[v]/\ThAt H d v/\Q (.bl (WP d)) H
theorem zaJ:zE ["thing"] ["thing"] (zu uH):={}
theorem Yl(D:Df K mg "is_whole" uH Aa f fd)(T:Blt mg):FnOk P w K mg base CX0 1 f fd Aa jb:=by
 refine D.fn.ok zaJ (λvs H Q E h=>?_) (λcdv A outer s H vs Q E hr h=>?_)
 ·obtain⟨v,d,rfl,_⟩:=h;rfl
 ·obtain⟨v,d,rfl,hd,q⟩:=h;refine⟨_,(zz (zH (qG (zA (Z5 K) (by rfl) T.n_isinstance boot_isinstance (zf (pv 0) (zf (vL (v:=.ty "int") rfl T.n_int boot_int rfl) zj))) (qW (zdW (zA (Z5 K) (by rfl) T.n_isinstance boot_isinstance (zf (pv 0) (zf (vL (v:=.ty "bool") rfl T.n_bool boot_bool rfl) zj)))))))),?_⟩;rw[zdC]at q;refine⟨_,rfl,_,_,_,_,rfl,hd.ty,zcl d,_,rfl,?_⟩;cases h1:isT "int" d with
  |false=>rw[h1]at q;exact yr q
  |true=>
   rw[h1,Bool.true_and]at q;exact ym ⟨_,rfl,_,_,_,_,rfl,hd.ty,zba d,_,rfl,q⟩
def Xe:Sp:=λvs H Q _=>Ex2 λv d=>vs=[v]/\ThAt H d v/\Q (.bl (qI d)) H
theorem zb4:zE ["thing"] ["thing"] (zu jN):={}
theorem zbO(D:Df K mg "is_base" jN Aa f fd)(xu:Df K mg "is_whole" uH Aa f1 fd1)(T:Blt mg)(ZF:mg "LEAST_BASE"= some (.int 2 t1))(tH:mg "GREATEST_BASE"= some (.int 16 t2)):
  FnOk P w K mg base CX0 2 f fd Aa Xe:=by
 have j9:FnOk P w K mg base CX0 1 f1 fd1 Aa jb:=Yl xu T;refine D.fn.ok zb4 (λvs H Q E h=>?_) (λcdv A outer s H vs Q E hr h=>?_)
 ·obtain⟨v,d,rfl,_⟩:=h;rfl
 ·obtain⟨v,d,rfl,hd,q⟩:=h;refine⟨_,(zz (zH (qG (zK xu j9 (hr.mono (by decide)) (zf (pv 0) zj)) (qW (Ut Us Us (xn (v:=.int 2) rfl ZF ⟨_,rfl⟩) (pv 0) (xn (v:=.int 16) rfl tH ⟨_,rfl⟩)))))),?_⟩;refine⟨_,rfl,v,d,rfl,hd,_,rfl,?_⟩;cases hw:WP d with
  |false=>
   have:qI d=false:=by cases d<;>first | rfl | cases hw
   rw[this]at q;exact yr q
  |true=>
   have e:=Xn hw;generalize qD d=i at e;subst e;subst hd;refine ym ⟨_,rfl,_,_,rfl,rfl,_,rfl,?_⟩
   replace q:Q (.bl (decide (2<=i/\i<=16))) H:=q
   refine zbP (λh1=>?_) (λh1=>?_)
   ·have h1':=of_decide_eq_true h1;refine⟨_,_,rfl,rfl,?_⟩;rw[show decide (2<=i/\i<=16)=decide (i<=16) by simp[h1']]at q;exact q
   ·have h1':¬ 2<=i:=λz=>h1 (decide_eq_true z);rw[show decide (2<=i/\i<=16)=false by simp[h1']]at q;exact q
def Wg:Sp:=λvs H Q _=>Ex3 λb v d=>vs=[.int b,v]/\ThAt H d v/\Q (.bl (WF b d)) H
theorem zaf:zE ["base","thing"] ["base","thing"] (zu jq):={}
theorem zao(D:Df K mg "is_figure" jq Ab f fd)(xu:Df K mg "is_whole" uH Aa f1 fd1)(T:Blt mg):FnOk P w K mg base CX0 2 f fd Ab Wg:=by
 have j9:FnOk P w K mg base CX0 1 f1 fd1 Aa jb:=Yl xu T;refine D.fn.ok zaf (λvs H Q E h=>?_) (λcdv A outer s H vs Q E hr h=>?_)
 ·obtain⟨b,v,d,rfl,_⟩:=h;rfl
 ·obtain⟨b,v,d,rfl,hd,q⟩:=h;refine⟨_,(zz (zH (qG (zK xu j9 (hr.mono (by decide)) (zf (pv 1) zj)) (qW (Ut Us zbn zy (pv 1) (pv 0)))))),?_⟩;refine⟨_,rfl,v,d,rfl,hd,_,rfl,?_⟩;cases hw:WP d with
  |false=>
   have:WF b d=false:=by cases d<;>first | rfl | cases hw
   rw[this]at q;exact yr q
  |true=>
   have e:=Xn hw;generalize qD d=i at e;subst e;rw[ThAt]at hd;subst hd;refine ym ⟨_,rfl,_,_,rfl,rfl,_,rfl,?_⟩
   replace q:Q (.bl (decide (0<=i/\i<b))) H:=q
   refine zbP (λh1=>?_) (λh1=>?_)
   ·have h1':(0:Int)<=i:=of_decide_eq_true h1;refine⟨_,rfl,_,_,rfl,rfl,?_⟩;rw[show decide (0<=i/\i<b)=decide (i<b) by simp[h1']]at q;exact q
   ·have h1':¬ (0:Int)<=i:=λz=>h1 (decide_eq_true z);rw[show decide (0<=i/\i<b)=false by simp[h1']]at q;exact q
end
mutual
def vX:PyData->Nat
 |.list xs=>max xs.length (Yo xs)
 |.tuple xs=>max xs.length (Yo xs)
 |_=>0
def Yo:List PyData->Nat
 |[]=>0
 |d::ds=>max (vX d) (Yo ds)
end
theorem QV{d:PyData}:∀{ds:List PyData},d∈ds->vX d<=Yo ds
 |e::ds,h=>by
  rw[Yo];rcases List.mem_cons.mp h with rfl | h
  ·omega
  ·have:=QV h;omega
theorem Jr{H:Hp}{b:Int}:∀{xs:List PyData} {ys:List V},ThsAt H xs ys->xs.all (WF b)=true->ys=(xs.map qD).map V.int
 |[],ys,h,_=>by rw[ThsAt]at h;rw[h];rfl
 |d::ds,ys,h,q=>by
  rw[ThsAt]at h;obtain⟨y,zs,h1,h2,h3⟩:=h;rw[List.all_cons,Bool.and_eq_true]at q;have e:d=.int (qD d):=by cases d<;>first | rfl | cases q.1
  rw[e,ThAt]at h2;rw[h1,h2,Jr h3 q.2];rfl
theorem ThAt.figs(h:ThAt H d v)(q:Uk b d=true):∃a,v=.ref a/\H a=some (.lst ((yE d).map V.int)):=by
 cases d with
 |list xs=>
  obtain⟨a,ys,h1,h2,h3⟩:=h;exact⟨a,h1,by rw[h2,Jr h3 q];rfl⟩
 |_=>cases q
theorem Ub(h:isT "list" d=true):∃xs,d=.list xs:=by
 cases d<;>first | exact⟨_,rfl⟩ | cases h
theorem zds(h:isT "tuple" d=true):∃xs,d=.tuple xs:=by
 cases d<;>first | exact⟨_,rfl⟩ | cases h
theorem WL{α:Type}{p:α->Bool}{l:List α}:(l.map p).all id=l.all p:=by rw[List.all_map];rfl
section
variable {P:Program} {w:World} {K:W.Frag} {mg:Str->Option Value} {base:Heap}
def Ym:Sp:=λvs H Q _=>Ex3 λb v d=>vs=[.int b,v]/\ThAt H d v/\vX d<=100000/\∀H',Same H H'->Q (.bl (Uk b d)) H'
theorem Qf:zE ["base","thing"] ["base","thing"] (zu vJ):={}
theorem Uv(D:Df K mg "are_figures" vJ Ab f fd)(Zc:Df K mg "is_figure" jq Ab f1 fd1)(Xq:FnOk P w K mg base CX0 2 f1 fd1 Ab Wg)(T:Blt mg):
  FnOk P w K mg base CX0 3 f fd Ab Ym:=by
 refine D.fn.ok Qf (λvs H Q E h=>?_) (λcdv A outer s H vs Q E hr h=>?_)
 ·obtain⟨b,v,d,rfl,_⟩:=h;rfl
 ·obtain⟨b,v,d,rfl,hd,hs,kk⟩:=h;refine⟨_,(zz (zH (qG (zA (Z5 K) (by rfl) T.n_isinstance boot_isinstance (zf (pv 1) (zf (vL (v:=.ty "list") rfl T.n_list boot_list rfl) zj))) (qW (zA (k_all K rfl) (by rfl) T.n_all boot_all (zf (yx (show CScope (zu vJ) _ "each" ["base","thing"] ["base"] [0] from {}) rfl (ql K (pv 1)) (λ_ _ _ _=>yQ) (λ_ _ _ _=>(zK Zc Xq (hr.mono (by decide)) (zf (pv 1) (zf (pv 0) zj))))) zj)))))),?_⟩;refine⟨_,rfl,_,_,_,_,rfl,hd.ty,Ud d,_,rfl,?_⟩;cases hl:isT "list" d with
  |false=>
   have q:=kk H (Same.refl _);rw[show Uk b d=false by cases d<;>first | rfl | cases hl]at q;exact yr q
  |true=>
   obtain⟨xs,rfl⟩:=Ub hl;obtain⟨a,ys,rfl,ha,hx⟩:=hd;rw[vX]at hs;refine ym ⟨_,rfl,a,rfl,⟨_,SqL.of ha⟩,yt (λi us H4=>us=((xs.take i).map (WF b)).map V.bl/\H4=H) ⟨by simp,rfl⟩ (λi us H4 _ ⟨_,e⟩=>by rw[e];exact SqL.of ha) ?_ ?_⟩
   ·rintro j x us H4 hj ⟨rfl,rfl⟩;obtain⟨d,hdj,hd⟩:=hx.get hj;refine⟨?_,?_⟩
    ·rw[List.length_map,List.length_map,List.length_take];exact Nat.lt_of_le_of_lt (show min j xs.length<=100000 by omega) (by decide)
    unfold jB;dsimp only;refine⟨_,rfl,_,rfl,b,x,d,rfl,hd,?_,rfl⟩;rw[List.take_succ,hdj];simp
   ·rintro us H4 ⟨rfl,rfl⟩ Dd hD;refine⟨Dd,_,rfl,SqL.of zg,?_⟩;rw[hx.len,List.take_length,WL];exact kk _ (zm hD)
def uP:Sp:=λvs H Q _=>Ex3 λb v d=>vs=[.int b,v]/\ThAt H d v/\vX d<=100000/\∀H',Same H H'->Q (.bl (zJ b d)) H'
theorem Ql:zE ["base","thing"] ["base","thing"] (zu vf):={}
theorem Qw(D:Df K mg "is_stretch" vf Ab f fd)(qb:Df K mg "are_figures" vJ Ab f1 fd1)(Zu:FnOk P w K mg base CX0 3 f1 fd1 Ab Ym)(uC:mg "LONGEST_STRETCH"= some (.int 4 t1))(T:Blt mg):
  FnOk P w K mg base CX0 4 f fd Ab uP:=by
 refine D.fn.ok Ql (λvs H Q E h=>?_) (λcdv A outer s H vs Q E hr h=>?_)
 ·obtain⟨b,v,d,rfl,_⟩:=h;rfl
 ·obtain⟨b,v,d,rfl,hd,hs,kk⟩:=h;refine⟨_,(zz (zH (qG (zK qb Zu (hr.mono (by decide)) (zf (pv 0) (zf (pv 1) zj))) (qW (Ut Us Us zy (zA (xZ K) (by rfl) T.n_len PySem.boot_len (zf (pv 1) zj)) (xn (v:=.int 4) rfl uC ⟨_,rfl⟩)))))),?_⟩;refine⟨_,rfl,_,rfl,b,v,d,rfl,hd,hs,λH1 m1=>⟨_,rfl,?_⟩⟩;have q:=kk H1 m1;unfold zJ at q;cases hf:Uk b d with
  |false=>rw[hf]at q;exact yr q
  |true=>
   rw[hf,Bool.true_and]at q;obtain⟨a,rfl,ha⟩:=ThAt.figs hd hf;refine ym ⟨_,rfl,a,_,rfl,.inl (SqL.of (m1 _ _ ha)),_,_,rfl,rfl,_,rfl,?_⟩;have el:(yE d).length=(YL d).length:=List.length_map _;rw[List.length_map,el];generalize (YL d).length=n at q;by_cases h1:1<=n
   ·rw[decide_eq_true (show 1<=(n:Int) by omega)];refine ym ⟨_,_,rfl,rfl,?_⟩;rw[show decide (1<=n/\n<=4)=decide ((n:Int)<=4) from decide_eq_decide.mpr ⟨λz=>by omega,λz=>⟨h1,by omega⟩⟩]at q;exact q
   ·rw[decide_eq_false (show ¬ 1<=(n:Int) by omega)];rw[decide_eq_false (show ¬ (1<=n/\n<=4) from λz=>h1 z.1)]at q;exact yr q
def Wz:Sp:=λvs H Q _=>Ex2 λ(bl:Addr) (zs:ZB)=>vs=[.ref bl]/\H bl=some (.lst (zs.map λz=>V.ref z.1))/\(∀z∈zs,H z.1=some (.lst (z.2.map V.int)))/\zs.length<=4/\∀H',Same H H'->Q (.bl (qg (zs.map (·.2)))) H'
theorem zaa:zE ["stretches"] ["stretches"] (zu uX):={}
theorem zaj(D:Df K mg "is_rising" uX Ar f fd)(T:Blt mg):FnOk P w K mg base CX0 1 f fd Ar Wz:=by
 refine D.fn.ok zaa (λvs H Q E h=>?_) (λcdv A outer s H vs Q E hr h=>?_)
 ·obtain⟨bl,zs,rfl,_⟩:=h;rfl
 ·obtain⟨bl,zs,rfl,hb,hz,h4,kk⟩:=h;have HU:=YH hr;refine⟨_,(zz (zH (zA (k_all K rfl) (by rfl) T.n_all boot_all (zf (yx (show CScope (zu uX) _ "k" ["stretches"] ["stretches"] [0] from {}) rfl (yK rfl T.n_range (zf (zO Xr (zA (xZ K) (by rfl) T.n_len PySem.boot_len (zf (pv 0) zj)) zy) zj)) (λ_ _ _ _=>yQ) (λ_ _ _ _=>(ur (zhQ K HU) (zR (yo K) (pv 1) (pv 0) (λ_ _=>rfl)) (zR (yo K) (pv 1) (zO wK (pv 0) zy) (λ_ _=>rfl)) (zV _)))) zj)))),?_⟩;refine⟨_,rfl,bl,_,rfl,.inl (SqL.of hb),_,_,rfl,rfl,_,rfl,?_⟩;rw[List.length_map];refine⟨by omega,by omega,wV (λi ys H4=>ys=((List.range i).map λk=>HT.lexLt ((zs.map (·.2)).getD k []) ((zs.map (·.2)).getD (k+1) [])).map V.bl/\H4=H) ⟨by simp,rfl⟩ ?_ ?_⟩
  ·rintro i ys H4 hi ⟨rfl,rfl⟩;refine⟨by rw[List.length_map,List.length_map,List.length_range];exact Nat.lt_of_lt_of_le (show i<5 by omega) (by decide),?_⟩;unfold jB;dsimp only;have hi0:i<zs.length:=by omega
   have hi1:i+1<zs.length:=by omega
   have g0:atI (zs.map λz=>V.ref z.1) (0+i)=some (.ref (zs[i]).1):=by rw[Int.zero_add];exact yV (by rw[List.getElem?_map,List.getElem?_eq_getElem hi0];rfl)
   have g1:atI (zs.map λz=>V.ref z.1) (0+i+1)=some (.ref (zs[i+1]).1):=by rw[Int.zero_add];exact yV (by rw[List.getElem?_map,List.getElem?_eq_getElem hi1];rfl)
   refine⟨_,rfl,_,rfl,bl,_,_,_,rfl,rfl,SqL.of hb,g0,?_⟩;refine⟨_,rfl,_,rfl,_,_,rfl,rfl,bl,_,_,_,rfl,rfl,SqL.of hb,g1,?_⟩;refine⟨_,_,_,_,rfl,rfl,SqL.of (hz _ (List.getElem_mem hi0)),SqL.of (hz _ (List.getElem_mem hi1)),?_,rfl⟩;rw[List.range_succ];have e0:(zs.map (·.2)).getD i []=(zs[i]).2:=by simp[List.getD,List.getElem?_map,List.getElem?_eq_getElem hi0]
   have e1:(zs.map (·.2)).getD (i+1) []=(zs[i+1]).2:=by simp[List.getD,List.getElem?_map,List.getElem?_eq_getElem hi1]
   rw[List.map_append,List.map_append,List.map_singleton,List.map_singleton,e0,e1]
  ·rintro ys H4 ⟨rfl,rfl⟩ Dd hD;refine⟨Dd,_,rfl,SqL.of zg,?_⟩;rw[WL];have q:=kk _ (zm hD (o:=.lst (((List.range ((zs.length:Int)-1).toNat).map λk=>HT.lexLt ((zs.map (·.2)).getD k []) ((zs.map (·.2)).getD (k+1) [])).map V.bl)));unfold qg at q;rw[List.length_map,show zs.length-1=((zs.length:Int)-1).toNat by omega]at q;exact q
end
end Lw
namespace Lw
open PySem L2 PyProof.Rows
theorem X4{H:Hp}{b:Int}:∀{xs:List PyData} {ys:List V},ThsAt H xs ys->xs.all (zJ b)=true->∃zs:ZB,ys=zs.map (λz=>V.ref z.1)/\zs.map (·.2)=xs.map yE/\∀z∈zs,H z.1=some (.lst (z.2.map V.int))
 |[],ys,h,_=>by rw[ThsAt]at h;exact⟨[],h,rfl,by simp⟩
 |d::ds,ys,h,q=>by
  rw[ThsAt]at h;obtain⟨y,us,h1,h2,h3⟩:=h;rw[List.all_cons,Bool.and_eq_true]at q;obtain⟨zs,e1,e2,e3⟩:=X4 h3 q.2;have qf:Uk b d=true:=by have:=q.1;unfold zJ at this;rw[Bool.and_eq_true]at this;exact this.1
  obtain⟨a,ea,ha⟩:=ThAt.figs h2 qf;refine⟨(a,yE d)::zs,by rw[h1,ea,e1];rfl,by rw[List.map_cons,List.map_cons,e2],λz hz=>?_⟩;rcases List.mem_cons.mp hz with rfl | hz
  ·exact ha
  ·exact e3 z hz
section
variable {P:Program} {w:World} {K:W.Frag} {mg:Str->Option Value} {base:Heap}
def Yi:Sp:=λvs H Q _=>Ex3 λb v d=>vs=[.int b,v]/\ThAt H d v/\vX d<=100000/\∀H',Same H H'->Q (.bl (zdd b d)) H'
theorem Uy:zE ["base","thing"] ["base","thing"] (zu wH):={}
theorem Ug(D:Df K mg "is_bad_list" wH Ab f fd)(yX:Df K mg "is_stretch" vf Ab f1 fd1)(xM:FnOk P w K mg base CX0 4 f1 fd1 Ab uP)(Zf:Df K mg "is_rising" uX Ar f2 fd2)(xf:mg "MOST_STRETCHES"= some (.int 4 t1))(T:Blt mg):
  FnOk P w K mg base CX0 5 f fd Ab Yi:=by
 have zbw:FnOk P w K mg base CX0 1 f2 fd2 Ar Wz:=zaj Zf T;refine D.fn.ok Uy (λvs H Q E h=>?_) (λcdv A outer s H vs Q E hr h=>?_)
 ·obtain⟨b,v,d,rfl,_⟩:=h;rfl
 ·obtain⟨b,v,d,rfl,hd,hs,kk⟩:=h;refine xm ?_;intro XX;let q1:Sq XX ((zq wH).drop 1):=⟨_,zz (zH (qG (zA (k_all K rfl) (by rfl) T.n_all boot_all (zf (yx (show CScope (zu wH) _ "each" ["base","thing"] ["base"] [0] from {}) rfl (ql K (pv 1)) (λ_ _ _ _=>yQ) (λ_ _ _ _=>(zK yX xM (hr.mono (by decide)) (zf (pv 1) (zf (pv 0) zj))))) zj)) (qW (zK Zf zbw (hr.mono (by decide)) (zf (pv 1) zj)))))⟩
  refine⟨_,(zp (yP (PW.pt (Wh (vP (wC (zA (Z5 K) (by rfl) T.n_isinstance boot_isinstance (zf (pv 1) (zf (vL (v:=.ty "list") rfl T.n_list boot_list rfl) zj))))) (Z3 (zN za7 (zA (xZ K) (by rfl) T.n_len PySem.boot_len (zf (pv 1) zj)) (xn (v:=.int 4) rfl xf ⟨_,rfl⟩) (zV _)))))
    (zz (zH qN))
    ye) q1.p),?_⟩
  refine⟨_,rfl,_,_,_,_,rfl,hd.ty,Ud d,_,rfl,?_⟩;cases hl:isT "list" d with
  |false=>
   have q:=kk H (Same.refl _);rw[show zdd b d=false by cases d<;>first | rfl | cases hl]at q;exact ym (ym q)
  |true=>
   obtain⟨xs,rfl⟩:=Ub hl;rw[ThAt]at hd;obtain⟨a,ys,rfl,ha,hx⟩:=hd;rw[vX]at hs;refine yr ⟨_,rfl,a,_,rfl,.inl (SqL.of ha),_,_,rfl,rfl,_,rfl,?_⟩;rw[hx.len];have kk':∀H',Same H H'->Q (.bl (decide (xs.length<=4) && (xs.all (zJ b) && qg (xs.map yE)))) H':=kk;by_cases h4:xs.length<=4
   case neg=>
    rw[decide_eq_true (show (4:Int)<(xs.length:Int) by omega)];have q:=kk' H (Same.refl _);rw[decide_eq_false h4,Bool.false_and]at q;exact ym q
   rw[decide_eq_false (show ¬ (4:Int)<(xs.length:Int) by omega)];rw[decide_eq_true h4,Bool.true_and]at kk';refine yr ⟨_,rfl,a,rfl,⟨_,SqL.of ha⟩,yt (K:=K) (a:=a) (xs:=ys) (λi us H4=>us=((xs.take i).map (zJ b)).map V.bl/\Same H H4) ⟨by simp,Same.refl _⟩ (λi us H4 _ ⟨_,e⟩=>SqL.of (e _ _ ha)) ?_ ?_⟩
   ·rintro j x us H4 hj ⟨rfl,m4⟩;obtain⟨d,hdj,hd⟩:=hx.get hj;refine⟨?_,?_⟩
    ·rw[List.length_map,List.length_map,List.length_take];exact Nat.lt_of_le_of_lt (show min j xs.length<=4 by omega) (by decide)
    unfold jB;dsimp only;rw[if_pos rfl];have:=QV (List.mem_of_getElem? hdj);refine⟨_,rfl,_,rfl,b,x,d,rfl,hd.same m4,by omega,λH5 m5=>⟨?_,m4.trans m5⟩⟩;rw[List.take_succ,hdj];simp
   ·rintro us H4 ⟨rfl,m4⟩ Dd hD;refine⟨Dd,_,rfl,SqL.of zg,?_⟩;have m5:=m4.trans (zm hD (o:=.lst (((xs.take ys.length).map (zJ b)).map V.bl)));rw[hx.len,List.take_length,WL]at *;refine⟨_,rfl,?_⟩;cases hst:xs.all (zJ b) with
    |false=>
     have q:=kk' _ m5;rw[hst,Bool.false_and]at q;exact yr q
    |true=>
     rw[hst,Bool.true_and]at kk';obtain⟨zs,e1,e2,e3⟩:=X4 hx hst;refine ym ⟨_,rfl,a,zs,rfl,by rw[<-e1];exact m5 _ _ ha,λz hz=>m5 _ _ (e3 z hz),?_,λH6 m6=>?_⟩
     ·have:=congrArg List.length e2;rw[List.length_map,List.length_map]at this;omega
     ·rw[e2];exact kk' H6 (m5.trans m6)
def UJ:Sp:=λvs H Q _=>Ex2 λv d=>vs=[v]/\ThAt H d v/\vX d<=100000/\∀H',Same H H'->Q (.bl (Xa d)) H'
theorem zbN:zE ["thing"] ["thing"] (zu jM):={}
theorem zb3(D:Df K mg "is_rule" jM Aa f fd)(qR:Df K mg "is_base" jN Aa f1 fd1)(jU:FnOk P w K mg base CX0 2 f1 fd1 Aa Xe)(tY:Df K mg "is_bad_list" wH Ab f2 fd2)(ZJ:FnOk P w K mg base CX0 5 f2 fd2 Ab Yi)(T:Blt mg):
  FnOk P w K mg base CX0 6 f fd Aa UJ:=by
 refine D.fn.ok zbN (λvs H Q E h=>?_) (λcdv A outer s H vs Q E hr h=>?_)
 ·obtain⟨v,d,rfl,_⟩:=h;rfl
 ·obtain⟨v,d,rfl,hd,hs,kk⟩:=h;refine xm ?_;intro XX;let q1:Sq XX ((zq jM).drop 1):=⟨_,zz (zH (qG (zK qR jU (hr.mono (by decide)) (zf (zR (vB K) (pv 0) zy (λ_ _=>rfl)) zj)) (qW (zK tY ZJ (hr.mono (by decide)) (zf (zR (vB K) (pv 0) zy (λ_ _=>rfl)) (zf (zR (vB K) (pv 0) zy (λ_ _=>rfl)) zj))))))⟩
  refine⟨_,(zp (yP (PW.pt (Wh (vP (wC (zA (Z5 K) (by rfl) T.n_isinstance boot_isinstance (zf (pv 0) (zf (vL (v:=.ty "tuple") rfl T.n_tuple boot_tuple rfl) zj))))) (Z3 (zN zfe (zA (xZ K) (by rfl) T.n_len PySem.boot_len (zf (pv 0) zj)) zy (zV _)))))
    (zz (zH qN))
    ye) q1.p),?_⟩
  refine⟨_,rfl,_,_,_,_,rfl,hd.ty,kit_tuple d,_,rfl,?_⟩;cases hl:isT "tuple" d with
  |false=>
   have q:=kk H (Same.refl _);rw[show Xa d=false by cases d<;>first | rfl | cases hl]at q;exact ym (ym q)
  |true=>
   obtain⟨xs,rfl⟩:=zds hl;obtain⟨a,ys,rfl,ha,hx⟩:=hd;rw[vX]at hs;refine yr ⟨_,rfl,a,_,rfl,.inr (SqT.of ha),rfl,_,rfl,?_⟩;rw[hx.len]
   match xs,hx,hs,kk with
   |[],hx,hs,kk=>exact ym (kk H (Same.refl _))
   |[_],hx,hs,kk=>exact ym (kk H (Same.refl _))
   |_::_::_::t,hx,hs,kk=>
    have q:=kk H (Same.refl _);rename_i d1 d2 d3
    rw[show (!decide (V.int ((d1::d2::d3::t).length)=V.int 2))=true by
     rfl]
    exact ym q
   |[d,e],hx,hs,kk=>
    obtain⟨y,us,rfl,hd,hx⟩:=hx;obtain⟨z,ws,rfl,he,hx⟩:=hx;subst hx;rw[Yo,Yo,Yo]at hs;refine yr ?_;refine⟨_,rfl,a,_,_,y,rfl,rfl,SqT.of ha,rfl,y,d,rfl,hd,_,rfl,?_⟩;have kk':∀H',Same H H'->Q (.bl (qI d && zdd (qD d) e)) H':=kk;cases hb:qI d with
    |false=>
     have q:=kk' H (Same.refl _);rw[hb,Bool.false_and]at q;exact yr q
    |true=>
     rw[hb,Bool.true_and]at kk';have ed:d=.int (qD d):=by cases d<;>first | rfl | cases hb
     have ey:y=.int (qD d):=by rw[ed,ThAt]at hd;exact hd
     subst ey;exact ym ⟨_,rfl,a,_,_,V.int (qD d),rfl,rfl,SqT.of ha,rfl,_,rfl,a,_,_,z,rfl,rfl,SqT.of ha,rfl,qD d,z,e,rfl,he,by omega,kk'⟩
end
structure RuleAt (H:Hp) (r:Addr) (b:Nat) (bl:Addr) (zs:ZB):Prop where
 tu:H r=some (.tup [.int b,.ref bl])
 li:H bl=some (.lst (zs.map λz=>V.ref z.1))
 st:∀z∈zs,H z.1=some (.lst (z.2.map V.int))
theorem RuleAt.same(R:RuleAt H r b bl zs)(s:Same H H'):RuleAt H' r b bl zs:=⟨s _ _ R.tu,s _ _ R.li,λz hz=>s _ _ (R.st z hz)⟩
structure VR (b:Nat) (l:List Int):Prop where
 ne:l≠[]
 len:l.length<=4
 fig:∀f∈l,0<=f/\f<b
structure GoodRule (b:Nat) (ls:ZA):Prop where
 b2:2<=b
 b16:b<=16
 len:ls.length<=4
 st:∀l∈ls,VR b l
 up:ls.Pairwise λx y=>HT.lexLt x y=true
theorem Yz(xs:List V)(m:Nat):uh xs none (some (m:Int))=xs.take m:=by
 unfold uh;rw[HT.Ws,HT.Uw,List.drop_zero,Nat.sub_zero];by_cases h:m<=xs.length
 ·rw[Nat.min_eq_left h]
 ·rw[Nat.min_eq_right (by omega),List.take_of_length_le (Nat.le_refl _),List.take_of_length_le (by omega)]
theorem qw(xs:List V)(m:Nat):uh xs (some (m:Int)) none=xs.drop m:=by
 unfold uh;rw[HT.Ws,HT.Uw];by_cases h:m<=xs.length
 ·rw[Nat.min_eq_left h,List.take_of_length_le (by rw[List.length_drop];omega)]
 ·rw[Nat.min_eq_right (by omega),List.drop_of_length_le (Nat.le_refl _),List.drop_of_length_le (by omega)];simp
theorem Yq{ls:ZA}:((ls.map yN).any λt=>teq t (yN x))=decide (x∈ls):=by
 rw[Bool.eq_iff_iff];simp only[List.any_eq_true,List.mem_map,decide_eq_true_eq];constructor
 ·rintro⟨t,⟨l,hl,rfl⟩,e⟩;rw[uY]at e;rw[<-of_decide_eq_true e];exact hl
 ·intro h;exact⟨yN x,⟨x,h,rfl⟩,jT _⟩
theorem wg:∀ls:ZA,xq (ls.map yN)<=1
 |[]=>by simp[xq]
 |l::ls=>by rw[List.map_cons,xq,uI];have:=wg ls;omega
theorem TrsAt.lists{K:W.Frag}{H:Hp}:∀{zs:ZB},(∀z∈zs,H z.1=some (.lst (z.2.map V.int)))->TrsAt K H ((zs.map (·.2)).map yN) (zs.map λz=>V.ref z.1)
 |[],_=>by rw[List.map_nil,List.map_nil,TrsAt];rfl
 |z::zs,h=>by
  rw[List.map_cons,List.map_cons,TrsAt];exact⟨_,_,rfl,TrAt.ints (SqL.of (h z List.mem_cons_self)),TrsAt.lists λz hz=>h z (List.mem_cons_of_mem _ hz)⟩
section
variable {P:Program} {w:World} {K:W.Frag} {mg:Str->Option Value} {base:Heap}
theorem zbo(xs:List V)(k m:Nat):uh xs (some (k:Int)) (some (m:Int))=(xs.drop k).take (m-k):=by
 unfold uh;rw[HT.Ws,HT.Ws];by_cases hk:k<=xs.length
 ·rw[Nat.min_eq_left hk];by_cases hm:m<=xs.length
  ·rw[Nat.min_eq_left hm]
  ·rw[Nat.min_eq_right (by omega),List.take_of_length_le (by rw[List.length_drop];omega),List.take_of_length_le (by rw[List.length_drop];omega)]
 ·rw[List.drop_of_length_le (show xs.length<=k by omega),Nat.min_eq_right (show xs.length<=k by omega),List.drop_of_length_le (Nat.le_refl _)];simp
def jQ:Sp:=λvs H Q _=>Ex4 λsa fa st fs=>vs=[.ref sa,.ref fa]/\H sa=some (.lst (st.map V.int))/\H fa=some (.lst (fs.map V.int))/\st≠[]/\st.length<=1000/\fs.length<=1000/\∀H',Same H H'->Q (.bl (YG st fs)) H'
theorem jL:zE ["stretch","figures","size"] ["stretch","figures"] (zu xr):={}
theorem WW(D:Df K mg "stands_within" xr Aw f fd)(T:Blt mg):FnOk P w K mg base CX0 1 f fd Aw jQ:=by
 refine D.fn.ok jL (λvs H Q E h=>?_) (λcdv A outer s H vs Q E hr h=>?_)
 ·obtain⟨sa,fa,st,fs,rfl,_⟩:=h;rfl
 ·obtain⟨sa,fa,st,fs,rfl,hs,hf,ne,hl1,hl2,kk⟩:=h;have HU:=YH hr;refine xm ?_;intro XX;let q1:Sq XX ((zq xr).drop 1):=⟨_,zz (zH (zA (zfk K rfl) (by rfl) T.n_any boot_any (zf (yx (show CScope (zu xr) _ "k" ["stretch","figures","size"] ["stretch","figures","size"] [0,1,2] from {}) rfl (yK rfl T.n_range (zf (zO wK (zO Xr (zA (xZ K) (by rfl) T.n_len PySem.boot_len (zf (pv 1) zj)) (pv 2)) zy) zj)) (λ_ _ _ _=>yQ) (λ_ _ _ _=>(ur (zcP K HU) (xg (jP K) (pv 2) (xG (pv 0)) (xG (zO wK (pv 0) (pv 3)))) (pv 1) (zV _)))) zj)))⟩
  refine⟨_,(zp (zG (i:=2) jL.nd rfl (Or.inr rfl) (zA (xZ K) (by rfl) T.n_len PySem.boot_len (zf (pv 0) zj))) q1.p),?_⟩;refine⟨_,rfl,sa,_,rfl,.inl (SqL.of hs),?_⟩;rw[List.length_map];refine⟨_,rfl,fa,_,rfl,.inl (SqL.of hf),_,rfl,_,_,rfl,rfl,_,_,rfl,rfl,_,rfl,?_⟩;rw[List.length_map];refine⟨by omega,by omega,wV (λi ys H4=>ys=((List.range i).map λk=>decide ((fs.drop k).take st.length=st)).map V.bl/\Same H H4) ⟨by simp,Same.refl _⟩ ?_ ?_⟩
  ·rintro i ys H4 hi ⟨rfl,s4⟩;refine⟨by rw[List.length_map,List.length_map,List.length_range];exact Nat.lt_of_lt_of_le (show i<2000 by omega) (by decide),?_⟩;unfold jB;refine⟨_,rfl,_,rfl,_,rfl,_,rfl,_,rfl,_,_,rfl,rfl,_,rfl,fa,_,rfl,SqL.of (s4 _ _ hf),λp hp=>?_⟩;have e1:uh (fs.map V.int) (some (0+i)) (some (0+i+st.length))=((fs.drop i).take st.length).map V.int:=by
    have e:(0+i+st.length)=((i+st.length:Nat):Int):=by omega
    rw[e,Int.zero_add,zbo,List.map_take,List.map_drop,Nat.add_sub_cancel_left]
   rw[e1];refine⟨_,rfl,yN ((fs.drop i).take st.length),yN st,TrAt.ints (SqL.of zg),TrAt.ints (SqL.of (zm hp _ _ (s4 _ _ hs))),(by rw[uI];decide),?_,s4.trans (zm hp)⟩;rw[List.range_succ,List.map_append,List.map_append];have e2:=uY ((fs.drop i).take st.length) st;show _=_++[V.bl (decide ((fs.drop i).take st.length=st))]
   rw[<-e2];rfl
  ·rintro ys H4 ⟨rfl,s4⟩ Dd hD;refine⟨Dd,_,rfl,SqL.of zg,?_⟩;have q:=kk _ (s4.trans (zm hD (o:=.lst (((List.range ((fs.length:Int)-st.length+1).toNat).map λk=>decide ((fs.drop k).take st.length=st)).map V.bl))));rw[zcf ne]at q;rw[List.any_map];exact q
def tX:Sp:=λvs H Q _=>Ex4 λ(bl:Addr) (fa:Addr) (zs:ZB) (fs:List Int)=>vs=[.ref bl,.ref fa]/\H bl=some (.lst (zs.map λz=>V.ref z.1))/\(∀z∈zs,H z.1=some (.lst (z.2.map V.int)))/\H fa=some (.lst (fs.map V.int))/\zs.length<=100/\fs.length<=1000/\(∀z∈zs,z.2≠[]/\z.2.length<=1000)/\∀H',Same H H'->Q (.bl (lacks (zs.map (·.2)) fs)) H'
theorem JM:zE ["bad","figures"] ["bad","figures"] (zu wY):={}
theorem JZ(D:Df K mg "lacks_all" wY Ac f fd)(ut:Df K mg "stands_within" xr Aw f1 fd1)(T:Blt mg):FnOk P w K mg base CX0 2 f fd Ac tX:=by
 have Ua:FnOk P w K mg base CX0 1 f1 fd1 Aw jQ:=WW ut T;refine D.fn.ok JM (λvs H Q E h=>?_) (λcdv A outer s H vs Q E hr h=>?_)
 ·obtain⟨bl,fa,zs,fs,rfl,_⟩:=h;rfl
 ·obtain⟨bl,fa,zs,fs,rfl,hb,hz,hf,hl1,hl2,ne,kk⟩:=h;refine⟨_,(zz (zH (zdW (zA (zfk K rfl) (by rfl) T.n_any boot_any (zf (yx (show CScope (zu wY) _ "stretch" ["bad","figures"] ["figures"] [1] from {}) rfl (ql K (pv 0)) (λ_ _ _ _=>yQ) (λ_ _ _ _=>(zK ut Ua (hr.mono (by decide)) (zf (pv 0) (zf (pv 1) zj))))) zj))))),?_⟩;refine⟨_,rfl,bl,rfl,⟨_,SqL.of hb⟩,yt (λi ys H4=>ys=((zs.take i).map λz=>YG z.2 fs).map V.bl/\Same H H4) ⟨by simp,Same.refl _⟩ (λi ys H4 _ ⟨_,e⟩=>SqL.of (e _ _ hb)) ?_ ?_⟩
  ·rintro j x ys H4 hx ⟨rfl,s4⟩;rw[List.getElem?_map]at hx;obtain⟨z,hzj,e⟩:=Option.map_eq_some_iff.mp hx;subst e;have hzm:=List.mem_of_getElem? hzj;refine⟨?_,?_⟩
   ·rw[List.length_map,List.length_map,List.length_take];exact Nat.lt_of_le_of_lt (Nat.le_trans (Nat.min_le_right _ _) hl1) (by decide)
   unfold jB;dsimp only;refine⟨_,rfl,_,rfl,z.1,fa,z.2,fs,rfl,s4 _ _ (hz z hzm),s4 _ _ hf,(ne z hzm).1,(ne z hzm).2,hl2,λH5 s5=>⟨?_,s4.trans s5⟩⟩;rw[List.take_succ,hzj];simp
  ·rintro ys H4 ⟨rfl,s4⟩ Dd hD;refine⟨Dd,_,rfl,SqL.of zg,_,rfl,?_⟩;have q:=kk _ (s4.trans (zm hD (o:=.lst (((zs.take (zs.map λz=>V.ref z.1).length).map λz=>YG z.2 fs).map V.bl))));rw[List.length_map,List.take_length]at q ⊢;unfold lacks at q;rw[List.any_map]at q ⊢;exact q
end
def Sto(H:Hp)(s:Addr):Prop:=∃g x k:Int,H s=some (.lst [.int g,.int x,.int k])
theorem Sto.ne(S:Sto H s)(h:H p=none):p≠s:=λz=>by
 obtain⟨g,x,k,e⟩:=S;rw[z,e]at h;cases h
structure Stq (s:Addr) (H H':Hp):Prop where
 st:Sto H' s
 sm:∀b o,b≠s->H b=some o->H' b=some o
theorem Stq.refl(S:Sto H s):Stq s H H:=⟨S,λ_ _ _ e=>e⟩
theorem Stq.trans(a:Stq s H H1)(b:Stq s H1 H2):Stq s H H2:=⟨b.st,λc o h e=>b.sm c o h (a.sm c o h e)⟩
theorem Stq.same(a:Stq s H H1)(m:Same H1 H2):Stq s H H2:=⟨by obtain⟨g,x,k,e⟩:=a.st;exact⟨g,x,k,m _ _ e⟩,λc o h e=>m c o (a.sm c o h e)⟩
theorem Stq.free(a:Stq s H H')(h:H' p=none):H p=none:=by
 cases e:H p with
 |none=>rfl
 |some o=>
  have:=a.sm p o (a.st.ne h) e;rw[h]at this;cases this
theorem Stq.new(a:Stq s H H')(h:H' p=none):Stq s H (upd H' p o):=a.same (zm h)
section
variable {P:Program} {w:World} {K:W.Frag} {mg:Str->Option Value} {base:Heap}
def Wl(K:W.Frag):Sp:=λvs H Q _=>Ex3 λ(a:Addr) (ns:List Int) (k:Nat)=>vs=[.ref a,.int k]/\SqL K H a (ns.map V.int)/\ns.length<=63/\k<=1000/\∀c:Int,Q (.int c) H
theorem zah:zE ["script","k"] ["script","k"] (zu uV):={}
theorem J6(D:Df K mg "_law_cell" uV As f fd)(T:Blt mg):FnOk P w K mg base CX0 1 f fd As (Wl K):=by
 refine D.fn.ok zah (λvs H Q E h=>?_) (λcdv A outer s H vs Q E hr h=>?_)
 ·obtain⟨a,ns,k,rfl,_⟩:=h;rfl
 ·obtain⟨a,ns,k,rfl,hS,hlen,hk,kk⟩:=h;refine xm ?_;intro XX;let q1:Sq XX ((zq uV).drop 1):=⟨_,zz (zH (zO wK (zO wK (zO Zm (zO Zm zy (pv 1)) (pv 1)) (zO Zm zy (pv 1))) zy))⟩
  refine⟨_,(zp (yP (zN zbn (pv 1) (zA (xZ K) (by rfl) T.n_len PySem.boot_len (zf (pv 0) zj)) (zV _))
    (zz (zH (zR (yo K) (pv 0) (pv 1) (λ_ _=>rfl))))
    ye) q1.p),?_⟩
  refine⟨_,rfl,_,rfl,a,_,rfl,.inl hS,_,_,rfl,rfl,_,rfl,?_⟩;refine zbP (λhlt=>?_) (λ_=>?_)
  ·have hlt':k<ns.length:=by
    have:=of_decide_eq_true hlt;rw[List.length_map]at this;omega
   refine⟨_,rfl,_,rfl,a,_,_,.int (ns[k]),rfl,rfl,hS,?_,kk _⟩;exact yV (by rw[List.getElem?_map,List.getElem?_eq_getElem hlt'];rfl)
  ·refine⟨_,rfl,_,_,rfl,rfl,.inl ⟨by decide,by decide⟩,_,rfl,_,_,rfl,rfl,.inr ⟨by omega,by omega⟩,_,rfl,_,_,rfl,rfl,.inl ⟨by decide,by decide⟩,_,_,rfl,rfl,_,_,rfl,rfl,kk _⟩
def Y0:Sp:=λvs H Q _=>∃c:Int,vs=[.int c]/\∀s H',H s=none->Sto H' s->Same H H'->Q (.ref s) H'
theorem jH:zE ["cell","great"] ["cell"] (zu vp):={}
theorem QL(D:Df K mg "_law_store" vp ["cell"] f fd)(T:Blt mg):FnOk P w K mg base CX0 1 f fd ["cell"] Y0:=by
 refine D.fn.ok jH (λvs H Q E h=>?_) (λcdv A outer s H vs Q E hr h=>?_)
 ·obtain⟨c,rfl,_⟩:=h;rfl
 ·obtain⟨c,rfl,kk⟩:=h;refine xm ?_;intro XX;let q1:Sq XX ((zq vp).drop 2):=⟨_,zz (zH (yc (zf (pv 1) (zf (zO jy (pv 0) zy) (zf zy zj)))))⟩
  let q2:Sq XX ((zq vp).drop 1):=⟨_,zp (yP (zN zeM (pv 0) (zO zet zy zy) (zV _))
    (zz (zG (i:=1) jH.nd rfl (Or.inl rfl) (pv 0)))
    ye) q1.p⟩
  refine⟨_,(zp (zG (i:=1) jH.nd rfl (Or.inl rfl) zy) q2.p),?_⟩;refine⟨_,rfl,_,_,rfl,rfl,⟨by decide,by decide,by decide⟩,_,_,rfl,rfl,_,rfl,?_⟩;generalize decide ((10:Int)^(18:Int).toNat<=c)=bb;cases bb with
  |true=>
   refine ym ?_;refine⟨_,rfl,_,rfl,_,rfl,_,_,rfl,rfl,(by decide:(0:Int)<2147483629),(by decide:3<=sizeLine),λl hl=>?_⟩;exact kk l _ hl ⟨_,_,_,zg⟩ (zm hl)
  |false=>
   refine yr ?_;refine⟨_,rfl,_,rfl,_,_,rfl,rfl,(by decide:(0:Int)<2147483629),(by decide:3<=sizeLine),λl hl=>?_⟩;exact kk l _ hl ⟨_,_,_,zg⟩ (zm hl)
def xO:Sp:=λvs H Q _=>Ex2 λs m=>vs=[.ref s,.int m]/\Sto H s/\0<m/\m<2^200/\∀(r:Nat) (H':Hp),(r:Int)<m->Stq s H H'->Q (.int r) H'
theorem ug:zE ["store","many","told","one"] ["store","many"] (zu yf):={}
theorem vg(D:Df K mg "_law_take" yf Ae f fd)(T:Blt mg):FnOk P w K mg base CX0 1 f fd Ae xO:=by
 refine D.fn.ok ug (λvs H Q E h=>?_) (λcdv A outer s H vs Q E hr h=>?_)
 ·obtain⟨s,m,rfl,_⟩:=h;rfl
 ·obtain⟨sa,m,rfl,S,hm0,hm1,kk⟩:=h;obtain⟨g,x,k,hs⟩:=id S;refine xm ?_;intro XX;let q1:Sq XX ((zq yf).drop 5):=⟨_,zz (zH (zO jy (zO Ye (pv 3) zy) (pv 1)))⟩
  let q2:Sq XX ((zq yf).drop 4):=⟨_,zp (zG (i:=3) ug.nd rfl (Or.inl rfl) (zO jy (zO Zm (zO wK (pv 3) (zO Zm zy (zR (yo K) (pv 0) zy (λ_ _=>rfl)))) zy) zy)) q1.p⟩
  let q3:Sq XX ((zq yf).drop 3):=⟨_,zp (zG (i:=3) ug.nd rfl (Or.inl rfl) (zO jy (zO Zm (pv 3) (pv 3)) zy)) q2.p⟩
  let q4:Sq XX ((zq yf).drop 2):=⟨_,zp (zG (i:=3) ug.nd rfl (Or.inl rfl) (zO jy (zO Zm (zO wK (zR (yo K) (pv 0) zy (λ_ _=>rfl)) (zO Zm zy (zR (yo K) (pv 0) zy (λ_ _=>rfl)))) zy) zy)) q3.p⟩
  let q5:Sq XX ((zq yf).drop 1):=⟨_,zp (Xp (zO wK (zR (yo K) (pv 0) zy (λ_ _=>rfl)) zy) (zbL (pv 0) zy set_list)) q4.p⟩
  let q6:Sq XX ((sb (zq yf) 0 true).drop 2):=⟨_,zz (zH (pv 2))⟩
  let q7:Sq XX ((sb (zq yf) 0 true).drop 1):=⟨_,zp (Xp (zO Ye (zR (yo K) (pv 0) zy (λ_ _=>rfl)) (pv 1)) (zbL (pv 0) zy set_list)) q6.p⟩
  refine⟨_,(zp (yP (zN za7 (zR (yo K) (pv 0) zy (λ_ _=>rfl)) zy (zV _))
    (zp (zG (i:=2) ug.nd rfl (Or.inl rfl) (zO jy (zR (yo K) (pv 0) zy (λ_ _=>rfl)) (pv 1))) q7.p)
    ye) q5.p),?_⟩
  have fin:∀(H':Hp) (y:Int) (g x k:Int),H'=upd H sa (.lst [.int g,.int x,.int k])->Q (.int (y % m)) H':=by
   intro H' y g x k e;subst e;have h0:0<=y % m:=Int.emod_nonneg _ (by omega);have h1:y % m<m:=Int.emod_lt_of_pos _ hm0;obtain⟨r,hr⟩:∃r:Nat,y % m=(r:Int):=⟨(y % m).toNat,by omega⟩
   rw[hr];exact kk r _ (by omega) ⟨⟨_,_,_,zg⟩,λb o hb e=>by rw[zr hb];exact e⟩
  refine⟨_,rfl,sa,_,_,_,rfl,rfl,SqL.of hs,rfl,_,_,rfl,rfl,_,rfl,?_⟩;refine zbP (λ_=>?_) (λ_=>?_)
  ·refine⟨_,rfl,sa,_,_,V.int g,rfl,rfl,SqL.of hs,rfl,_,rfl,_,_,rfl,rfl,hm0,?_⟩;refine⟨_,rfl,sa,_,_,V.int g,rfl,rfl,SqL.of hs,rfl,_,rfl,_,_,rfl,rfl,⟨hm0,hm1⟩,_,rfl,sa,_,_,0,rfl,rfl,hs,rfl,?_⟩;refine⟨_,rfl,?_⟩;exact fin _ g (g / m) x k rfl
  ·refine⟨_,rfl,sa,_,_,V.int k,rfl,rfl,SqL.of hs,rfl,_,_,rfl,rfl,_,rfl,sa,_,_,2,rfl,rfl,hs,rfl,?_⟩;have hs1:upd H sa (.lst [V.int g,V.int x,V.int (k+1)]) sa=some (.lst [V.int g,V.int x,V.int (k+1)]):=zg;refine⟨_,rfl,sa,_,_,V.int x,rfl,rfl,SqL.of hs1,rfl,?_⟩;refine⟨_,rfl,sa,_,_,V.int (k+1),rfl,rfl,SqL.of hs1,rfl,_,_,rfl,rfl,.inl ⟨by decide,by decide⟩,_,_,rfl,rfl,_,_,rfl,rfl,.inr ⟨by decide,by decide⟩,_,_,rfl,rfl,(by decide:(0:Int)<2147483647),?_⟩;generalize hn1:(x+7919*(k+1))*48271 % 2147483647=n1;have n1b:0<=n1/\n1<2147483647:=by rw[<-hn1];exact⟨Int.emod_nonneg _ (by decide),Int.emod_lt_of_pos _ (by decide)⟩
   refine⟨_,rfl,_,rfl,_,_,rfl,rfl,.inl ⟨by omega,by omega⟩,_,_,rfl,rfl,(by decide:(0:Int)<2147483629),?_⟩;generalize hn2:n1*n1 % 2147483629=n2;refine⟨_,rfl,_,rfl,sa,_,_,V.int (k+1),rfl,rfl,SqL.of hs1,rfl,_,_,rfl,rfl,.inl ⟨by decide,by decide⟩,_,_,rfl,rfl,_,_,rfl,rfl,.inr ⟨by decide,by decide⟩,_,_,rfl,rfl,(by decide:(0:Int)<2147483587),?_⟩;generalize hn3:(n2+40692*(k+1))*69621 % 2147483587=n3;refine⟨_,rfl,_,_,rfl,rfl,⟨by decide,by decide⟩,_,rfl,_,_,rfl,rfl,hm0,?_⟩;exact fin _ _ _ _ _ rfl
def Wy:Sp:=λvs H Q _=>∃s:Addr,vs=[.ref s]/\Sto H s/\∀(b:Nat) (H':Hp),2<=b->b<=16->Stq s H H'->Q (.int b) H'
theorem JB:zE ["store"] ["store"] (zu tD):={}
set_option maxHeartbeats 0 in
theorem JC(D:Df K mg "_law_base" tD Ad f fd)(zB:Df K mg "_law_take" yf Ae f1 fd1)(T:Blt mg):FnOk P w K mg base CX0 2 f fd Ad Wy:=by
 have zM:FnOk P w K mg base CX0 1 f1 fd1 Ae xO:=vg zB T;refine D.fn.ok JB (λvs H Q E h=>?_) (λcdv A outer s H vs Q E hr h=>?_)
 ·obtain⟨s,rfl,_⟩:=h;rfl
 ·obtain⟨sa,rfl,S,kk⟩:=h;refine⟨_,(zz (zH (zR (yo K) (yc (zf zy (zf zy (zf zy (zf zy (zf (zO wK zy (zK zB zM (hr.mono (by decide)) (zf (pv 0) (zf zy zj)))) zj)))))) (zK zB zM (hr.mono (by decide)) (zf (pv 0) (zf zy zj))) (λ_ _=>rfl)))),?_⟩;refine⟨_,rfl,?_⟩;refine⟨sa,15,rfl,S,(by decide),(by decide),λx1 H1 hx1 S1=>?_⟩;refine⟨2,x1,rfl,rfl,?_⟩;refine⟨(by show 5<=sizeLine;decide),λl1 hl1=>?_⟩;have n1:=S1.st.ne hl1;have S2:=S1.new hl1 (o:=.lst [.int 2,.int 3,.int 10,.int 16,.int (2+(x1:Int))]);refine⟨_,rfl,sa,_,rfl,S2.st,(by decide),(by decide),λx2 H3 hx2 S3=>?_⟩;obtain⟨b,hb,hb2,hb16⟩:∃b:Nat,atI [V.int 2,V.int 3,V.int 10,V.int 16,V.int (2+(x1:Int))] (x2:Int)=some (.int b)/\2<=b/\b<=16:=by
   have h5:x2<5:=by omega
   match x2,h5 with
   |0,_=>exact⟨2,rfl,by omega,by omega⟩
   |1,_=>exact⟨3,rfl,by omega,by omega⟩
   |2,_=>exact⟨10,rfl,by omega,by omega⟩
   |3,_=>exact⟨16,rfl,by omega,by omega⟩
   |4,_=>exact⟨2+x1,rfl,by omega,by omega⟩
  exact⟨l1,_,_,_,rfl,rfl,SqL.of (S3.sm _ _ n1 zg),hb,kk b H3 hb2 hb16 (S2.trans S3)⟩
def tK:Sp:=λvs H Q _=>Ex3 λ(s:Addr) (b:Nat) (few:Nat)=>vs=[.ref s,.int b,.int few]/\Sto H s/\2<=few/\few<=b/\b<=16/\∀l ms H',Stq s H H'->H l=none->H' l=some (.lst (ms.map V.int))->VR b ms->Q (.ref l) H'
theorem ZX:zE ["store","base","few","many"] ["store","base","few"] (zu yG):={}
theorem ZR(D:Df K mg "_law_stretch" yG Aj f fd)(zB:Df K mg "_law_take" yf Ae f1 fd1)(T:Blt mg):FnOk P w K mg base CX0 2 f fd Aj tK:=by
 have zM:FnOk P w K mg base CX0 1 f1 fd1 Ae xO:=vg zB T;refine D.fn.ok ZX (λvs H Q E h=>?_) (λcdv A outer s H vs Q E hr h=>?_)
 ·obtain⟨s,b,few,rfl,_⟩:=h;rfl
 ·obtain⟨sa,b,few,rfl,S,hf2,hfb,hb16,kk⟩:=h;refine xm ?_;intro XX;let q1:Sq XX ((zq yG).drop 1):=⟨_,zz (zH (yx (show CScope (zu yG) _ "k" ["store","base","few","many"] ["store","few","base"] [0,2,1] from {}) rfl (yK rfl T.n_range (zf (pv 3) zj)) (λ_ _ _ _=>yQ) (λ_ _ _ _=>(zK zB zM (hr.mono (by decide)) (zf (pv 1) (zf (zR (yo K) (yc (zf (pv 2) (zf (pv 2) (zf (pv 3) zj)))) (zK zB zM (hr.mono (by decide)) (zf (pv 1) (zf zy zj))) (λ_ _=>rfl)) zj))))))⟩
  refine⟨_,(zp (zG (i:=3) ZX.nd rfl (Or.inl rfl) (zO wK zy (zK zB zM (hr.mono (by decide)) (zf (pv 0) (zf zy zj))))) q1.p),?_⟩;refine⟨_,rfl,sa,_,rfl,S,(by decide),(by decide),λx1 H1 hx1 S1=>⟨_,_,rfl,rfl,?_⟩⟩;refine⟨_,rfl,(1+(x1:Int)),rfl,by omega,by omega,wV (lo:=0) (n:=(1+(x1:Int)).toNat) (λj ys Hc=>Stq sa H Hc/\∃ms:List Int,ys=ms.map V.int/\ms.length=j/\∀f∈ms,0<=f/\f<(b:Int)) ⟨S1,[],rfl,rfl,by simp⟩ ?_ ?_⟩
  ·rintro j ys Hc hj ⟨Sc,ms,rfl,hml,hmf⟩;refine⟨by rw[List.length_map,hml];exact Nat.lt_of_lt_of_le (show j<5 by omega) (by decide),?_⟩;unfold jB;dsimp only;rw[if_pos rfl];refine⟨_,rfl,_,rfl,_,rfl,_,rfl,(by show 3<=sizeLine;decide),λl2 hl2=>?_⟩;have n2:=Sc.st.ne hl2;have S3:=Sc.new hl2 (o:=.lst [.int few,.int few,.int b]);refine⟨_,rfl,sa,_,rfl,S3.st,(by decide),(by decide),λx2 H4 hx2 S4=>?_⟩;obtain⟨m,hm,hm1,hm2⟩:∃m:Nat,atI [V.int few,V.int few,V.int b] (x2:Int)=some (.int m)/\2<=m/\m<=b:=by
    have h3:x2<3:=by omega
    match x2,h3 with
    |0,_=>exact⟨few,rfl,by omega,by omega⟩
    |1,_=>exact⟨few,rfl,by omega,by omega⟩
    |2,_=>exact⟨b,rfl,by omega,by omega⟩
   refine⟨l2,_,_,_,rfl,rfl,SqL.of (S4.sm _ _ n2 zg),hm,sa,_,rfl,S4.st,by omega,by omega,λx3 H5 hx3 S5=>⟨(S3.trans S4).trans S5,ms++[(x3:Int)],by simp,by simp[hml],λf hf=>?_⟩⟩;rcases List.mem_append.mp hf with hf | hf
   ·exact hmf f hf
   ·have e:f=(x3:Int):=by simpa using hf
    omega
  ·rintro ys Hc ⟨Sc,ms,rfl,hml,hmf⟩ p hp;exact kk p ms _ (Sc.new hp) (Sc.free hp) zg ⟨λz=>by rw[z]at hml;simp at hml;omega,by omega,hmf⟩
theorem zeI(d:DE P w H a kvs)(St:Sto H s)(S:Stq s H H'):DE P w H' a kvs:=by
 obtain⟨xs,ep,h1,h2,h3⟩:=d;obtain⟨g,x,k,e⟩:=St;exact⟨xs,ep,S.sm _ _ (uf h1 e nofun) h1,h2.keeps λb ys q=>S.sm _ _ (uf q e nofun) q,h3⟩
structure zhc (H0 H:Hp) (bl:Addr) (b:Nat) (zs:ZB):Prop where
 li:H bl=some (.lst (zs.map λz=>V.ref z.1))
 st:∀z∈zs,H z.1=some (.lst (z.2.map V.int))
 nl:H0 bl=none
 ns:∀z∈zs,H0 z.1=none
 len:zs.length<=4
 good:∀z∈zs,VR b z.2
 up:(zs.map (·.2)).Pairwise λx y=>HT.lexLt x y=true
def Vs:Sp:=λvs H Q _=>Ex2 λ(s:Addr) (b:Nat)=>vs=[.ref s,.int b]/\Sto H s/\2<=b/\b<=16/\∀bl zs H',Stq s H H'->zhc H H' bl b zs->Q (.ref bl) H'
theorem uZ:zE ["store","base","few","known","k","one"] ["store","base"] (zu xR):={}
theorem zaC(D:Df K mg "_law_bad" xR An f fd)(zB:Df K mg "_law_take" yf Ae f1 fd1)(yj:Df K mg "_law_stretch" yG Aj f2 fd2)(T:Blt mg):FnOk P w K mg base CX0 3 f fd An Vs:=by
 have zM:FnOk P w K mg base CX0 1 f1 fd1 Ae xO:=vg zB T;have jC:FnOk P w K mg base CX0 2 f2 fd2 Aj tK:=ZR yj zB T;refine D.fn.ok uZ (λvs H Q E h=>?_) (λcdv A outer s H vs Q E hr h=>?_)
 ·obtain⟨s,b,rfl,_⟩:=h;rfl
 ·obtain⟨sa,b,rfl,S,hb2,hb16,kk⟩:=h;refine xm ?_;intro XX;let q1:Sq XX ((zq xR).drop 3):=⟨_,zz (zH (yx (show CScope (zu xR) _ "one" ["store","base","few","known","k","one"] [] [] from {}) rfl (ql K (zA (zd0 P w) (by rfl) T.n_sorted boot_sorted (zf (pv 3) zj))) (λ_ _ _ _=>yQ) (λ_ _ _ _=>(yR (j0 K) (by rfl) T.n_list boot_list (zf (pv 0) zj)))))⟩
  let q2:Sq XX ((sb (zq xR) 2 true).drop 1):=⟨_,zz (zac (tL hr) (pv 3) (yR jA (by rfl) T.n_tuple boot_tuple (zf (pv 5) zj)) qN rfl)⟩
  let q3:Sq XX ((zq xR).drop 2):=⟨_,zp (uB PassesOwn.never rfl (yK rfl T.n_range (zf (zK zB zM (hr.mono (by decide)) (zf (pv 0) (zf zy zj))) zj)) (yh (i:=4) uZ.nd rfl (Or.inl rfl))
    (zp (zG (i:=5) uZ.nd rfl (Or.inl rfl) (zK yj jC (hr.mono (by decide)) (zf (pv 0) (zf (pv 1) (zf (pv 2) zj))))) q2.p)) q1.p⟩
  let q4:Sq XX ((zq xR).drop 1):=⟨_,zp (zG (i:=3) uZ.nd rfl (Or.inl rfl) Ju) q3.p⟩
  refine⟨_,(zp (zG (i:=2) uZ.nd rfl (Or.inl rfl) (zA (Va rfl) (by rfl) T.n_min boot_min (zf (pv 1) (zf (zR (yo K) (yc (zf zy (zf zy (zf (pv 1) zj)))) (zK zB zM (hr.mono (by decide)) (zf (pv 0) (zf zy zj))) (λ_ _=>rfl)) zj)))) q4.p),?_⟩;refine⟨_,rfl,_,rfl,(by show 3<=sizeLine;decide),λl1 hl1=>?_⟩;have n1:=S.ne hl1;have S1:=(Stq.refl S).new hl1 (o:=.lst [.int 2,.int 3,.int b]);refine⟨_,rfl,sa,_,rfl,S1.st,(by decide),(by decide),λx1 H2 hx1 S2=>?_⟩;obtain⟨m,hm,hm2⟩:∃m:Nat,atI [V.int 2,V.int 3,V.int b] (x1:Int)=some (.int m)/\2<=m:=by
   have h3:x1<3:=by omega
   match x1,h3 with
   |0,_=>exact⟨2,rfl,by omega⟩
   |1,_=>exact⟨3,rfl,by omega⟩
   |2,_=>exact⟨b,rfl,by omega⟩
  refine⟨l1,_,_,_,rfl,rfl,SqL.of (S2.sm _ _ n1 zg),hm,_,_,rfl,?_⟩;obtain⟨few,hfew,hfew1,hfew2⟩:∃few:Nat,(if (m:Int)<(b:Int) then (m:Int) else (b:Int))=(few:Int)/\2<=few/\few<=b:=by
   by_cases z:m<b
   ·exact⟨m,by rw[if_pos (by omega)],by omega,by omega⟩
   ·exact⟨b,by rw[if_neg (by omega)],by omega,by omega⟩
  rw[hfew];have S12:=S1.trans S2;intro kd H3 hkd d3 c3;have nkd:=S12.st.ne hkd;have hkd0:=S12.free hkd;have S3:=S12.same (H2:=H3) (λc u e=>by rw[c3 c (zx e hkd)];exact e);refine⟨_,rfl,sa,_,rfl,S3.st,(by decide),(by decide),λx2 H4 hx2 S4=>?_⟩;refine⟨_,rfl,by omega,by omega,vm (lo:=0) (n:=(x2:Int).toNat) (λi σ H5=>∃(v1 v2:Option V) (kvs:List (List Key×V)) (ls:ZA),σ=[some (.ref sa),some (.int b),some (.int few),some (.ref kd),v1,v2]/\Stq sa H H5/\DE P w H5 kd kvs/\kvs.map (·.1)=ls.map kI/\ls.length<=i/\∀l∈ls,VR b l)
   ⟨none,none,[],[],rfl,S3.trans S4,zeI d3 S3.st S4,rfl,Nat.le_refl _,by simp⟩ ?_ ?_⟩
  ·rintro i σ H5 hi ⟨v1,v2,kvs,ls,rfl,S5,hk5,hks,hll,hgd⟩;refine⟨_,rfl,_,rfl,_,rfl,sa,b,few,rfl,S5.st,hfew1,hfew2,hb16,λl ms H6 S6 hl0 hl6 gms=>?_⟩;have hk6:=zeI hk5 S5.st S6;refine⟨_,rfl,_,rfl,l,_,rfl,.inl ⟨SqL.of hl6,λtp htp=>?_⟩⟩;have hk7:=hk6.same (zm htp (o:=.tup (ms.map V.int)));have hkl:kvs.length=ls.length:=by have:=congrArg List.length hks;rwa[List.length_map,List.length_map]at this
   refine⟨kd,kvs,kI ms,tp,rfl,hk7,rfl,(by rw[U9];exact zg),Nat.lt_of_le_of_lt (show kvs.length<=4 by omega) (by decide),λH8 d8 c8=>?_⟩;have S6:=(S5.trans S6).new htp (o:=.tup (ms.map V.int));have S7:Stq sa H H8:=⟨by obtain⟨g,x,k,e⟩:=S6.st;exact⟨g,x,k,by rw[c8 _ (Ne.symm nkd)];exact e⟩,λc u hc e=>by rw[c8 c (zx e hkd0)];exact S6.sm c u hc e⟩
   by_cases hin:ms∈ls
   ·refine⟨_,_,putK kvs (kI ms) (.bl true),ls,rfl,S7,d8,?_,by omega,hgd⟩;unfold putK;rw[if_pos (by
     rw[List.any_eq_true];have:kI ms∈kvs.map (·.1):=by rw[hks];exact List.mem_map.mpr ⟨ms,hin,rfl⟩
     obtain⟨kv,h1,h2⟩:=List.mem_map.mp this;exact⟨kv,h1,decide_eq_true h2⟩),List.map_map,<-hks]
    refine List.map_congr_left λkv _=>?_;show (if kv.1=kI ms then (kv.1,V.bl true) else kv).1=kv.1;split<;>rfl
   ·refine⟨_,_,putK kvs (kI ms) (.bl true),ls++[ms],rfl,S7,d8,?_,by rw[List.length_append,List.length_singleton];omega,λl hl=>?_⟩
    ·unfold putK;rw[if_neg (by
      rw[List.any_eq_true];rintro⟨kv,h1,h2⟩;have h3:kI ms∈kvs.map (·.1):=List.mem_map.mpr ⟨kv,h1,of_decide_eq_true h2⟩;rw[hks]at h3;obtain⟨l,h4,h5⟩:=List.mem_map.mp h3;exact hin (Vc h5▸h4)),List.map_append,List.map_append,hks]
     rfl
    ·rcases List.mem_append.mp hl with hl | hl
     ·exact hgd l hl
     ·have e:l=ms:=by simpa using hl
      rw[e];exact gms
  ·rintro σ H5 ⟨v1,v2,kvs,ls,rfl,S5,hk5,hks,hll,hgd⟩;refine⟨_,rfl,kd,kvs,ls,rfl,hk5,hks,by omega,λl hl=>(hgd l hl).ne,λp zs hp pm pw hz=>?_⟩;have hzl:zs.length=ls.length:=by have:=pm.length_eq;rwa[List.length_map]at this
   have S6:=S5.new hp (o:=.lst (zs.map λz=>V.ref z.1));refine⟨p,rfl,⟨_,SqL.of zg⟩,yt (K:=K) (a:=p) (xs:=zs.map λz=>V.ref z.1) (λi ys H7=>Same (upd H5 p (.lst (zs.map λz=>V.ref z.1))) H7/\∃ws:ZB,ys=ws.map (λz=>V.ref z.1)/\ws.map (·.2)=(zs.take i).map (·.2)/\∀z∈ws,H z.1=none/\H7 z.1=some (.lst (z.2.map V.int))) ⟨Same.refl _,[],rfl,by simp,by simp⟩ (λi ys H7 _ ⟨m7,_⟩=>SqL.of (m7 _ _ zg)) ?_ ?_⟩
   ·rintro j x ys H7 hx ⟨m7,ws,rfl,hw2,hws⟩;rw[List.getElem?_map]at hx;obtain⟨z,hzj,e⟩:=Option.map_eq_some_iff.mp hx;subst e;have hzm:=List.mem_of_getElem? hzj;have hj:j<zs.length:=(List.getElem?_eq_some_iff.mp hzj).1;have hwl:ws.length<=j:=by have:=congrArg List.length hw2;rw[List.length_map,List.length_map,List.length_take]at this;omega
    refine⟨by rw[List.length_map];exact Nat.lt_of_le_of_lt (show ws.length<=4 by omega) (by decide),?_⟩;unfold jB;dsimp only;rw[if_pos rfl];refine⟨_,rfl,z.1,_,rfl,.inr (SqT.of (m7 _ _ (zm hp _ _ (hz z hzm)))),λq hq=>⟨m7.trans (zm hq),ws++[(q,z.2)],by simp,?_,λy hy=>?_⟩⟩
    ·rw[List.map_append,hw2,List.take_succ,hzj];simp
    ·rcases List.mem_append.mp hy with hy | hy
     ·exact⟨(hws y hy).1,zm hq _ _ (hws y hy).2⟩
     ·have e:y=(q,z.2):=by simpa using hy
      subst e;exact⟨S6.free (m7.free hq),zg⟩
   ·rintro ys H7 ⟨m7,ws,rfl,hw2,hws⟩ bl hbl;rw[List.length_map,List.take_length]at hw2;have hwl:ws.length=zs.length:=by have:=congrArg List.length hw2;rwa[List.length_map,List.length_map]at this
    have m8:=zm hbl (o:=.lst (ws.map λz=>V.ref z.1));refine kk bl ws _ (S6.same (m7.trans m8)) ⟨zg,λz hz'=>m8 _ _ (hws z hz').2,S6.free (m7.free hbl),λz hz'=>(hws z hz').1,by omega,λz hz'=>?_,?_⟩
    ·refine hgd _ ?_;have:z.2∈zs.map (·.2):=by rw[<-hw2];exact List.mem_map.mpr ⟨z,hz',rfl⟩
     exact pm.mem_iff.mp this
    ·rw[hw2,List.pairwise_map];exact pw
def Y6:Sp:=λvs H Q _=>Ex4 λ(bl:Addr) (fa:Addr) (zs:ZB) (fs:List Int)=>vs=[.ref bl,.ref fa]/\H bl=some (.lst (zs.map λz=>V.ref z.1))/\(∀z∈zs,H z.1=some (.lst (z.2.map V.int)))/\H fa=some (.lst (fs.map V.int))/\zs.length<=100/\∀H',Same H H'->Q (.bl (vN (zs.map (·.2)) fs)) H'
theorem QG:zE ["bad","figures"] ["bad","figures"] (zu uw):={}
theorem QB(D:Df K mg "begins_one" uw Ac f fd)(T:Blt mg):FnOk P w K mg base CX0 1 f fd Ac Y6:=by
 refine D.fn.ok QG (λvs H Q E h=>?_) (λcdv A outer s H vs Q E hr h=>?_)
 ·obtain⟨bl,fa,zs,fs,rfl,_⟩:=h;rfl
 ·obtain⟨bl,fa,zs,fs,rfl,hb,hz,hf,hl1,kk⟩:=h;have HU:=YH hr;refine⟨_,(zz (zH (zA (zfk K rfl) (by rfl) T.n_any boot_any (zf (yx (show CScope (zu uw) _ "stretch" ["bad","figures"] ["figures"] [1] from {}) rfl (ql K (pv 0)) (λ_ _ _ _=>yQ) (λ_ _ _ _=>(ur (zcP K HU) (xg (jP K) (pv 0) wZ (xG (zA (xZ K) (by rfl) T.n_len PySem.boot_len (zf (pv 1) zj)))) (pv 1) (zV _)))) zj)))),?_⟩;refine⟨_,rfl,bl,rfl,⟨_,SqL.of hb⟩,yt (K:=K) (a:=bl) (xs:=zs.map λz=>V.ref z.1) (λi ys H4=>ys=((zs.take i).map λz=>decide (z.2.take fs.length=fs)).map V.bl/\Same H H4) ⟨by simp,Same.refl _⟩ (λi ys H4 _ ⟨_,e⟩=>SqL.of (e _ _ hb)) ?_ ?_⟩
  ·rintro j x ys H4 hx ⟨rfl,s4⟩;rw[List.getElem?_map]at hx;obtain⟨z,hzj,e⟩:=Option.map_eq_some_iff.mp hx;subst e;have hzm:=List.mem_of_getElem? hzj;refine⟨?_,?_⟩
   ·rw[List.length_map,List.length_map,List.length_take];exact Nat.lt_of_le_of_lt (Nat.le_trans (Nat.min_le_right _ _) hl1) (by decide)
   unfold jB;dsimp only;rw[if_pos rfl];refine⟨_,rfl,_,rfl,fa,_,rfl,.inl (SqL.of (s4 _ _ hf)),_,rfl,z.1,_,rfl,SqL.of (s4 _ _ (hz z hzm)),λp hp=>?_⟩;rw[List.length_map,Yz,<-List.map_take];refine⟨_,rfl,yN (z.2.take fs.length),yN fs,TrAt.ints (a:=p) (SqL.of zg),TrAt.ints (a:=fa) (SqL.of (zm hp _ _ (s4 _ _ hf))),(by rw[uI];decide),?_,s4.trans (zm hp)⟩;rw[List.take_succ,hzj];have e2:=uY (z.2.take fs.length) fs;show _++[V.bl (teq _ _)]=_;rw[e2];simp
  ·rintro ys H4 ⟨rfl,s4⟩ Dd hD;refine⟨Dd,_,rfl,SqL.of zg,?_⟩;have q:=kk _ (s4.trans (zm hD (o:=.lst (((zs.take (zs.map λz=>V.ref z.1).length).map λz=>decide (z.2.take fs.length=fs)).map V.bl))));rw[List.length_map,List.take_length]at q ⊢;unfold vN at q;rw[List.any_map]at q ⊢;exact q
def zgv(ls:ZA)(fs:List Int)(H H':Hp)(v:V):Prop:=(lacks ls fs=false/\v=.non)\/(lacks ls fs=true/\∃l,v=.ref l/\H l=none/\H' l=some (.lst ((yd ls fs).map V.int)))
def jX:Sp:=λvs H Q _=>Ex4 λ(bl:Addr) (fa:Addr) (zs:ZB) (fs:List Int)=>vs=[.ref bl,.ref fa]/\H bl=some (.lst (zs.map λz=>V.ref z.1))/\(∀z∈zs,H z.1=some (.lst (z.2.map V.int)))/\H fa=some (.lst (fs.map V.int))/\zs.length<=100/\fs.length<=1000/\(∀z∈zs,z.2≠[]/\z.2.length<=1000) /\
 ∀v H',zgv (zs.map (·.2)) fs H H' v->Same H H'->Q v H'
theorem jY:zE ["bad","figures","start"] ["bad","figures"] (zu xF):={}
theorem W9(D:Df K mg "longest_stand" xF Ac f fd)(xU:Df K mg "lacks_all" wY Ac f1 fd1)(ww:FnOk P w K mg base CX0 2 f1 fd1 Ac tX)(jj:Df K mg "begins_one" uw Ac f2 fd2)(T:Blt mg):FnOk P w K mg base CX0 3 f fd Ac jX:=by
 have zbj:FnOk P w K mg base CX0 1 f2 fd2 Ac Y6:=QB jj T;refine D.fn.ok jY (λvs H Q E h=>?_) (λcdv A outer s H vs Q E hr h=>?_)
 ·obtain⟨bl,fa,zs,fs,rfl,_⟩:=h;rfl
 ·obtain⟨bl,fa,zs,fs,rfl,hb,hz,hf,hl1,hl2,ne,kk⟩:=h;refine xm ?_;intro XX;let q1:Sq XX ((zq xF).drop 2):=⟨_,zz (zH (yc zj))⟩
  let q2:Sq XX ((zq xF).drop 1):=⟨_,zp (uB PassesOwn.never rfl (yK rfl T.n_range (zf (zA (xZ K) (by rfl) T.n_len PySem.boot_len (zf (pv 1) zj)) zj)) (yh (i:=2) jY.nd rfl (Or.inl rfl))
    (zz (yP (wC (zK jj zbj (hr.mono (by decide)) (zf (pv 0) (zf (xg (jP K) (pv 1) (xG (pv 2)) wZ) zj))))
     (zz (zH (xg (jP K) (pv 1) (xG (pv 2)) wZ)))
     ye))) q1.p⟩
  refine⟨_,(zp (yP (vP (wC (zK xU ww (hr.mono (by decide)) (zf (pv 0) (zf (pv 1) zj)))))
    (zz (zH vC))
    ye) q2.p),?_⟩
  refine⟨_,rfl,_,rfl,bl,fa,zs,fs,rfl,hb,hz,hf,hl1,hl2,ne,λH1 s1=>⟨_,rfl,?_⟩⟩;cases hL:lacks (zs.map (·.2)) fs with
  |false=>exact ym (kk _ _ (.inl ⟨hL,rfl⟩) s1)
  |true=>
   refine yr ?_;refine⟨_,rfl,fa,_,rfl,.inl (SqL.of (s1 _ _ hf)),(((fs.map V.int).length:Nat):Int),rfl,by rw[List.length_map];omega,by rw[List.length_map];omega,vm (lo:=0) (n:=(((fs.map V.int).length:Nat):Int).toNat) (λi σ H2=>∃v1:Option V,σ=[some (.ref bl),some (.ref fa),v1]/\Same H H2/\∀k,k<i->vN (zs.map (·.2)) (fs.drop k)=false) ⟨none,rfl,s1,λk hk=>by omega⟩ ?_ ?_⟩
   ·rintro i σ H2 hi ⟨v1,rfl,s2,hno⟩;have hi':i<fs.length:=by rw[List.length_map]at hi;omega
    refine⟨_,rfl,_,rfl,_,rfl,_,rfl,fa,_,rfl,SqL.of (s2 _ _ hf),λp hp=>?_⟩;rw[Int.zero_add,qw,<-List.map_drop];have t:=s2.trans (zm hp (o:=.lst ((fs.drop i).map V.int)));refine⟨bl,p,zs,fs.drop i,rfl,t _ _ hb,λz hzm=>t _ _ (hz z hzm),zg,hl1,λH3 s3=>⟨_,rfl,?_⟩⟩;have t3:=t.trans s3;cases hB:vN (zs.map (·.2)) (fs.drop i) with
    |true=>
     refine ym ⟨_,rfl,_,rfl,_,rfl,fa,_,rfl,SqL.of (t3 _ _ hf),λq hq=>?_⟩;rw[qw,<-List.map_drop];refine kk _ _ (.inr ⟨hL,q,rfl,t3.free hq,?_⟩) (t3.trans (zm hq));rw[zg,zd4 (by omega) hno hB]
    |false=>
     refine yr ⟨_,rfl,t3,λk hk=>?_⟩;by_cases e:k<i
     ·exact hno k e
     ·have:k=i:=by omega
      rw[this];exact hB
   ·rintro σ H2 ⟨v1,rfl,s2,hno⟩;refine⟨(by decide:0<=sizeLine),λq hq=>kk _ _ (.inr ⟨hL,q,rfl,s2.free hq,?_⟩) (s2.trans (zm hq))⟩;rw[zg,zbJ (λk hk=>hno k (by rw[List.length_map];omega))];rfl
end
section
variable {P:Program} {w:World} {K:W.Frag} {mg:Str->Option Value} {base:Heap} {T0:Addr}
def lamP:Pos:=⟨99,29,99,59⟩
def zgn:Scope:=match (zq yp).getLast? with
 |some (.Return (some (.Call _ _ [⟨_,.Lambda _ _ sc _,_⟩] _)) _)=>sc
 |_=>zu yp
theorem zgS:zE ["each"] ["each"] zgn:={}
theorem zeW(s:Same H H')(h:H p=none):Same H (upd H' p o):=λb u e=>by rw[zr (zx e h)];exact s b u e
def SameL(T:Addr)(H H':Hp):Prop:=∀b u,b≠T->H b=some u->H' b=some u
abbrev LT(T:Addr)(H:Hp):Prop:=WQ T lamP ((("stands_of" : Str)++(".<locals>." : Str))++("<lambda>" : Str)) H
theorem SameL.of(s:Same H H'):SameL T H H':=λb u _ e=>s b u e
theorem LT.same(h:LT T H)(s:Same H H'):LT T H':=by
 rcases h with h | ⟨c,h1,h2⟩
 ·exact .inl (s _ _ h)
 ·exact .inr ⟨c,s _ _ h1,s _ _ h2⟩
theorem LT.lst(h:LT T H)(e:H b=some (.lst xs)):b≠T:=λz=>by
 rw[z]at e;rcases h with h | ⟨c,h,_⟩
 ·rw[h]at e;cases e
 ·rw[h]at e;cases e
theorem LT.tup(h:LT T H)(e:H b=some (.tup xs)):b≠T:=λz=>by
 rw[z]at e;rcases h with h | ⟨c,h,_⟩
 ·rw[h]at e;cases e
 ·rw[h]at e;cases e
theorem LT.none(h:LT T H)(e:H b=none):b≠T:=λz=>by
 rw[z]at e;rcases h with h | ⟨c,h,_⟩
 ·rw[h]at e;cases e
 ·rw[h]at e;cases e
def X7(T:Addr):Sp:=λvs H Q _=>Ex2 λ(bl:Addr) (zs:ZB)=>vs=[.ref bl]/\H bl=some (.lst (zs.map λz=>V.ref z.1))/\(∀z∈zs,H z.1=some (.lst (z.2.map V.int)))/\zs.length<=4/\(∀z∈zs,z.2≠[]/\z.2.length<=4)/\LT T H /\
 ∀(D:Addr) (ws:ZB) (H':Hp),H D=none->H' D=some (.lst (ws.map λz=>V.ref z.1))->(∀z∈ws,H z.1=none/\H' z.1=some (.lst (z.2.map V.int))/\z.1≠D)->StandsL (zs.map (·.2)) (ws.map (·.2))->ws.length<=13->SameL T H H'->LT T H'->Q (.ref D) H'
theorem ud:zE ["bad","found","stretch","size","stand"] ["bad"] (zu yp):={}
theorem zak(D:Df K mg "stands_of" yp ["bad"] f fd)(hc:fd.code=.ref c)(hcT:W.codeHdIn K c T0=true)(hBM:base.BuiltinsAt mg T0)(hgT:mainGlobals≠T0)(xU:Df K mg "lacks_all" wY Ac f1 fd1)(ww:FnOk P w K mg base CX0 2 f1 fd1 Ac tX)(T:Blt mg):
    FnOk P w K mg base CX0 6 f fd ["bad"] (X7 T0):=by
  obtain⟨oc,od,kV,doc,pm,an,cdv,ct,osl,rfl,lk,hcd⟩:=D.fn.ex;obtain rfl:cdv=.ref c:=hc;refine zeV lk hcd ud (λvs H Q E h=>?_) (λA outer s H vs Q E hr h=>?_)
  · obtain⟨bl,zs,rfl,_⟩:=h;rfl
  · obtain⟨bl,zs,rfl,hb,hz,h4,hst,hLT,kk⟩:=h
    have HU:=YH hr;have lam_body:∀(f' c':Addr) (s':Shared) (H':Hp) (z:Addr×List Int),H' z.1=some (.lst (z.2.map V.int))->∃t,PE (YD CX0 P w K mg base ["each"] ((("stands_of" : Str)++(".<locals>." : Str))++("<lambda>" : Str)) zgn f' (.ref c') (A.deeper (envOfC "stands_of" (zu yp) s.heap.objs.size f (.ref c))).in1.in1 (envOfC "stands_of" (zu yp) s.heap.objs.size f (.ref c)::outer) s' H' E0)
        (match (zq yp).getLast? with
          |some (.Return (some (.Call _ _ [⟨_,.Lambda _ b _ _,_⟩] _)) _)=>b
          |_=>.Constant .none 0 ⟨0,0,0,0⟩) t /\
        t (start ["each"] [.ref z.1]) H' λv H2=>∃p,v=.ref p/\H' p=none/\H2=upd H' p (.tup [.int z.2.length,.ref z.1]):=by
      intro f' c' s' H' z hz';refine⟨_,(wu (zf (zA (xZ K) (by rfl) T.n_len PySem.boot_len (zf (pv 0) zj)) (zf (pv 0) zj))),?_⟩;refine⟨_,rfl,z.1,_,rfl,.inl (SqL.of hz'),_,rfl,(by show 2<=sizeLine;decide),λp hp=>⟨p,rfl,hp,?_⟩⟩;rw[List.length_map]
    refine Exists.elim (?key:∃t,PSs (YD CX0 P w K mg base ["bad","found","stretch","size","stand"] "stands_of" (zu yp) f (.ref c) A outer s H E).nox (zq yp) t/\t { nx:=λ_ H'=>Q .non H',rt:=Q } (start ["bad","found","stretch","size","stand"] [.ref bl]) H) λt h=>⟨t,h.1.nox,h.2⟩
    refine xm ?_;intro XX;let q1:Sq XX ((zq yp).drop 2):=⟨_,zz (zH (zbu (k:=1) (pv 1) rfl T.n_sorted (hr.mono (by decide)) rfl rfl rfl hcT hBM hgT zgS (λ_ _ _ _=>rfl) lam_body))⟩
    let q2:Sq XX ((sb (sb (zq yp) 1 true) 0 true).drop 1):=⟨_,zz (yP (PW.pt (zav (zN (zaS K HU) (pv 4) (pv 1) (by with_unfolding_all rfl)) (VN (wC (zK xU ww (hr.mono (by decide)) (zf (pv 0) (zf (pv 4) zj)))))))
            (zz (vh (Wm PySem.F.plainAttrs_list PySem.F.slot_list_append PySem.F.type_list_append uD (pv 1) (zf (pv 4) zj))))
            ye)⟩
    let q3:Sq XX ((zq yp).drop 1):=⟨_,zp (uB PassesOwn.never rfl (ql K (pv 0)) (yh (i:=2) ud.nd rfl (Or.inl rfl))
        (zz (uB PassesOwn.never rfl (Jq rfl T.n_range (zf zy (zf (zA (xZ K) (by rfl) T.n_len PySem.boot_len (zf (pv 2) zj)) zj))) (yh (i:=3) ud.nd rfl (Or.inl rfl))
          (zp (zG (i:=4) ud.nd rfl (Or.inl rfl) (xg (jP K) (pv 2) wZ (xG (pv 3)))) q2.p)))) q1.p⟩
    refine⟨_,(zp (zG (i:=1) ud.nd rfl (Or.inl rfl) (yc (zf (yc zj) zj))) q3.p),?_⟩;have hls:∀st∈zs.map (·.2),st≠[]/\st.length<=4:=λst h=>by obtain⟨z,hz,rfl⟩:=List.mem_map.mp h;exact hst z hz
    refine⟨(by decide:0<=sizeLine),λe0 he0=>⟨(by show 1<=sizeLine;decide),λfo hfo=>?_⟩⟩;have hfoH:H fo=none:=(zm he0).free hfo;have nef:e0≠fo:=λz=>by rw[<-z,zg]at hfo;cases hfo
    let Inv1:ZB->(List Int->Prop)->Hp->Prop:=λws M H2=>H2 fo=some (.lst (ws.map λz=>V.ref z.1))/\(∀z∈ws,H z.1=none/\H2 z.1=some (.lst (z.2.map V.int))/\z.1≠fo)/\(ws.map (·.2)).Nodup/\(∀x,x∈ws.map (·.2)↔M x)/\Same H H2;let M1:Nat->List Int->Prop:=λi x=>x=[]\/∃z∈zs.take i,∃k,1<=k/\k<z.2.length/\x=z.2.take k/\lacks (zs.map (·.2)) x=true;refine⟨_,rfl,bl,rfl,⟨_,SqL.of ((zm he0).trans (zm hfo) _ _ hb)⟩,zaN (K:=K) (a:=bl) (xs:=zs.map λz=>V.ref z.1) (λi σ H2=>∃(v2 v3 v4:Option V) (ws:ZB),σ=[some (.ref bl),some (.ref fo),v2,v3,v4]/\Inv1 ws (M1 i) H2/\ws.length<=1+3*i)
      ⟨none,none,none,[(e0,[])],rfl,⟨zg,λz hz'=>?_,by simp,λx=>?_,(zm he0).trans (zm hfo)⟩,by simp⟩ (λi σ H2 _ ⟨_,_,_,_,_,⟨_,_,_,_,e⟩,_⟩=>SqL.of (e _ _ hb)) ?_ ?_⟩
    · have e:z=(e0,[]):=by simpa using hz'
      subst e;exact⟨he0,by rw[zr nef,zg];rfl,nef⟩
    · constructor
      · intro hx
        exact .inl (by simpa using hx)
      · rintro (rfl | ⟨z,hz',_⟩)
        · simp
        · simp at hz'
    · rintro i x σ H2 hx ⟨v2,v3,v4,ws,rfl,⟨hF,hW,ndW,hM,sm⟩,hlen⟩
      rw[List.getElem?_map]at hx;obtain⟨z,hzj,e⟩:=Option.map_eq_some_iff.mp hx;subst e;have hzm:=List.mem_of_getElem? hzj;have hi4:i<zs.length:=(List.getElem?_eq_some_iff.mp hzj).1;obtain⟨hne,hz4⟩:=hst z hzm;have hpos:0<z.2.length:=List.length_pos_iff.mpr hne;refine⟨_,rfl,z.1,_,rfl,.inl (SqL.of (sm _ _ (hz z hzm))),1,_,rfl,?_,?_⟩
      · rw[List.length_map];omega
      rw[List.length_map];refine vm (lo:=1) (n:=((z.2.length:Int)-1).toNat) (λj σ H3=>∃(v3 v4:Option V) (ws:ZB),σ=[some (.ref bl),some (.ref fo),some (.ref z.1),v3,v4]/\Inv1 ws (λx=>M1 i x\/∃k,1<=k/\k<=j/\x=z.2.take k/\lacks (zs.map (·.2)) x=true) H3/\ws.length<=1+3*i+j)
        ⟨_,_,ws,rfl,⟨hF,hW,ndW,λx=>?_,sm⟩,hlen⟩ ?_ ?_
      · rw[hM]
        constructor
        · exact .inl
        · rintro (h | ⟨k,h1,h2,_⟩)
          · exact h
          · omega
      · rintro j σ H3 hj ⟨v3,v4,ws,rfl,⟨hF,hW,ndW,hM,sm⟩,hlen⟩
        have hj':j+1<z.2.length:=by omega
        refine⟨_,rfl,_,rfl,_,rfl,z.1,_,rfl,SqL.of (sm _ _ (hz z hzm)),λp hp=>?_⟩;rw[show (1:Int)+(j:Int)=((j+1:Nat):Int) by omega,Yz,<-List.map_take];have sm2:=sm.trans (zm hp (o:=.lst ((z.2.take (j+1)).map V.int)));have hF2:(upd H3 p (.lst ((z.2.take (j+1)).map V.int))) fo=some (.lst (ws.map λz=>V.ref z.1)):=zm hp _ _ hF;have hW2:∀y∈ws,H y.1=none/\(upd H3 p (.lst ((z.2.take (j+1)).map V.int))) y.1=some (.lst (y.2.map V.int))/\y.1≠fo:=λy hy=>⟨(hW y hy).1,zm hp _ _ (hW y hy).2.1,(hW y hy).2.2⟩
        have npf:p≠fo:=λy=>by rw[y,hF]at hp;cases hp
        have hpH:H p=none:=sm.free hp;generalize hx:z.2.take (j+1)=x at *;have hxl:x.length<=4:=by rw[<-hx,List.length_take];omega
        have stay:(x∈ws.map (·.2)\/lacks (zs.map (·.2)) x=false)->∀y,y∈ws.map (·.2)↔(M1 i y\/∃k,1<=k/\k<=j+1/\y=z.2.take k/\lacks (zs.map (·.2)) y=true):=λhor y=>by
          constructor
          · intro hy
            rcases (hM y).mp hy with h | ⟨k,h1,h2,h3⟩
            · exact .inl h
            · exact .inr ⟨k,h1,by omega,h3⟩
          · rintro (h | ⟨k,h1,h2,h3,h4⟩)
            · exact (hM y).mpr (.inl h)
            · by_cases hk:k<=j
              · exact (hM y).mpr (.inr ⟨k,h1,hk,h3,h4⟩)
              · have:k=j+1:=by omega
                rw[this,hx]at h3;rw[h3]at h4 ⊢;rcases hor with h | h
                · exact h
                · rw[h]at h4;cases h4
        refine⟨_,rfl,_,rfl,fo,_,(ws.map (·.2)).map yN,yN x,rfl,SqL.of hF2,TrsAt.lists (λy hy=>(hW2 y hy).2.1),TrAt.ints (a:=p) (SqL.of zg),Nat.le_trans (wg _) (by decide),_,rfl,?_⟩;rw[if_pos rfl,Yq];by_cases hin:x∈ws.map (·.2)
        · rw[decide_eq_true hin]
          refine yr ?_;exact yr ⟨_,_,ws,rfl,⟨hF2,hW2,ndW,stay (.inl hin),sm2⟩,by omega⟩
        · rw[decide_eq_false hin]
          refine ym ?_;refine⟨_,rfl,_,rfl,bl,p,zs,x,rfl,sm2 _ _ hb,λy hy=>sm2 _ _ (hz y hy),zg,by omega,by omega,λy hy=>⟨(hst y hy).1,Nat.le_trans (hst y hy).2 (by decide)⟩,λH4 s4=>⟨_,rfl,?_⟩⟩;have sm4:=sm2.trans s4;have hF4:=s4 _ _ hF2;have hW4:∀y∈ws,H y.1=none/\H4 y.1=some (.lst (y.2.map V.int))/\y.1≠fo:=λy hy=>⟨(hW2 y hy).1,s4 _ _ (hW2 y hy).2.1,(hW2 y hy).2.2⟩
          have hp4:=s4 _ _ (zg (H:=H3) (a:=p) (o:=.lst (x.map V.int)));cases hLk:lacks (zs.map (·.2)) x with
          |false=>exact yr ⟨_,_,ws,rfl,⟨hF4,hW4,ndW,stay (.inr hLk),sm4⟩,by omega⟩
          |true=>
            refine ym ⟨_,rfl,.inl ⟨rfl,_,SqL.of hF4⟩,_,rfl,fo,_,_,rfl,rfl,hF4,by rw[List.length_map];exact Nat.lt_of_le_of_lt (show ws.length<=100 by omega) (by decide),?_⟩;refine⟨_,_,ws++[(p,x)],rfl,⟨by rw[zg,List.map_append];rfl,λy hy=>?_,?_,λy=>?_,zeW sm4 hfoH⟩,by rw[List.length_append,List.length_singleton];omega⟩
            · rcases List.mem_append.mp hy with hy | hy
              · obtain⟨a1,a2,a3⟩:=hW4 y hy
                exact⟨a1,by rw[zr a3];exact a2,a3⟩
              · rw[List.mem_singleton.mp hy]
                exact⟨hpH,by rw[zr npf];exact hp4,npf⟩
            · rw[List.map_append]
              refine List.nodup_append.mpr ⟨ndW,by simp,λa ha b hb'=>?_⟩;have e:b=x:=by simpa using hb'
              rw[e];exact λq=>hin (q▸ha)
            · rw[List.map_append,List.mem_append]
              constructor
              · rintro (h | h)
                · rcases (hM y).mp h with h | ⟨k,h1,h2,h3⟩
                  · exact .inl h
                  · exact .inr ⟨k,h1,by omega,h3⟩
                · have e:y=x:=by simpa using h
                  rw[e];exact .inr ⟨j+1,by omega,Nat.le_refl _,hx.symm,hLk⟩
              · rintro (h | ⟨k,h1,h2,h3,h4⟩)
                · exact .inl ((hM y).mpr (.inl h))
                · by_cases hk:k<=j
                  · exact .inl ((hM y).mpr (.inr ⟨k,h1,hk,h3,h4⟩))
                  · have:k=j+1:=by omega
                    rw[this,hx]at h3;exact .inr (by simp[h3])
      · rintro σ H3 ⟨v3,v4,ws,rfl,⟨hF,hW,ndW,hM,sm⟩,hlen⟩
        refine⟨_,_,_,ws,rfl,⟨hF,hW,ndW,λx=>?_,sm⟩,by omega⟩;rw[hM];constructor
        · rintro ((h | ⟨y,hy,h⟩) | ⟨k,h1,h2,h3⟩)
          · exact .inl h
          · exact .inr ⟨y,by rw[List.take_succ];exact List.mem_append_left _ hy,h⟩
          · exact .inr ⟨z,by rw[List.take_succ,hzj];simp,k,h1,by omega,h3⟩
        · rintro (h | ⟨y,hy,k,h1,h2,h3⟩)
          · exact .inl (.inl h)
          · rw[List.take_succ,hzj]at hy
            rcases List.mem_append.mp hy with hy | hy
            · exact .inl (.inr ⟨y,hy,k,h1,h2,h3⟩)
            · have e:y=z:=by simpa using hy
              rw[e]at h2 h3;exact .inr ⟨k,h1,by omega,h3⟩
    · rintro σ H2 ⟨v2,v3,v4,ws,rfl,⟨hF,hW,ndW,hM,sm⟩,hlen⟩
      rw[List.length_map]at hM hlen;refine⟨_,rfl,fo,ws,rfl,hF,λz hz'=>(hW z hz').2.1,ndW,by omega,hLT.same sm,λD ws' H3 hD hD3 up lt pm pw=>?_⟩;have lt2:=hLT.same sm;have inw:∀z∈ws',z∈ws:=λz hz'=>pm.mem_iff.mp hz';refine kk D ws' _ (sm.free hD) zg (λz hz'=>?_) ⟨λx=>?_,by rw[List.pairwise_map];exact pw⟩ (by rw[pm.length_eq];omega) (λb u hb' e=>?_) ?_
      · obtain⟨a1,a2,a3⟩:=hW z (inw z hz')
        have n1:z.1≠D:=zx a2 hD;exact⟨a1,by rw[zr n1];exact up _ _ (lt2.lst a2) a2,n1⟩
      · have e:x∈ws'.map (·.2)↔x∈ws.map (·.2):=(pm.map (·.2)).mem_iff
        rw[e,hM];show (x=[]\/_)↔(x=[]\/_);constructor
        · rintro (h | ⟨z,hz',k,h1,h2,h3,h4⟩)
          · exact .inl h
          · rw[List.take_length]at hz'
            exact .inr ⟨z.2,List.mem_map.mpr ⟨z,hz',rfl⟩,k,h1,h2,h3,h4⟩
        · rintro (h | ⟨st,hst',k,h1,h2,h3,h4⟩)
          · exact .inl h
          · obtain⟨z,hz',rfl⟩:=List.mem_map.mp hst'
            exact .inr ⟨z,by rw[List.take_length];exact hz',k,h1,h2,h3,h4⟩
      · have q:=up b u hb' (sm _ _ e)
        rw[zr (zx q hD3)];exact q
      · exact LT.same (show LT T0 H3 from lt) (zm hD3)
def plc(ls ws:ZA)(fs:List Int):V:=if lacks ls fs=true then .int ((ws.idxOf (yd ls fs):Nat):Int) else .non
theorem ZP{x:List Int}:∀{xs:ZA} {m:Nat},m<xs.idxOf x->∀h:m<xs.length,xs[m]≠x
 |[],m,h,h'=>by simp at h'
 |y::ys,m,h,h'=>by
  rw[List.idxOf_cons]at h;by_cases e:y=x
  ·subst e;simp at h
  ·have e':(y == x)=false:=by simpa using e
   rw[e']at h;cases m with
   |zero=>simpa using e
   |succ m=>simpa using ZP (by simpa using h) (by simpa using h')
def ZM:Sp:=λvs H Q _=>Ex6 λ(bl:Addr) (Dd:Addr) (fa:Addr) (zs:ZB) (ws:ZB) (fs:List Int)=>vs=[.ref bl,.ref Dd,.ref fa]/\H bl=some (.lst (zs.map λz=>V.ref z.1))/\(∀z∈zs,H z.1=some (.lst (z.2.map V.int)))/\H Dd=some (.lst (ws.map λz=>V.ref z.1))/\(∀z∈ws,H z.1=some (.lst (z.2.map V.int)))/\H fa=some (.lst (fs.map V.int))/\zs.length<=4/\ws.length<=13/\fs.length<=1000/\(∀z∈zs,z.2≠[]/\z.2.length<=4) /\
 (lacks (zs.map (·.2)) fs=true->yd (zs.map (·.2)) fs∈ws.map (·.2))/\∀H',Same H H'->Q (plc (zs.map (·.2)) (ws.map (·.2)) fs) H'
theorem ZW:zE ["bad","stands","figures","stand"] ["bad","stands","figures"] (zu xY):={}
theorem Vz(D:Df K mg "place_behind" xY Ax f fd)(uv:Df K mg "longest_stand" xF Ac f1 fd1)(qF:FnOk P w K mg base CX0 3 f1 fd1 Ac jX):FnOk P w K mg base CX0 4 f fd Ax ZM:=by
 refine D.fn.ok ZW (λvs H Q E h=>?_) (λcdv A outer s H vs Q E hr h=>?_)
 ·obtain⟨bl,Dd,fa,zs,ws,fs,rfl,_⟩:=h;rfl
 ·obtain⟨bl,Dd,fa,zs,ws,fs,rfl,hb,hz,hD,hw,hf,h4,h13,hl,hst,hin,kk⟩:=h;have HU:=YH hr;refine xm ?_;intro XX;let q1:Sq XX ((zq xY).drop 2):=⟨_,zz (zH (Wm PySem.F.plainAttrs_list PySem.F.slot_list_index PySem.F.type_list_index (zem K HU) (pv 1) (zf (pv 3) zj)))⟩
  let q2:Sq XX ((zq xY).drop 1):=⟨_,zp (yP (zN zce (pv 3) vC (zV _))
    (zz (zH vC))
    ye) q1.p⟩
  refine⟨_,(zp (zG (i:=3) ZW.nd rfl (Or.inl rfl) (zK uv qF (hr.mono (by decide)) (zf (pv 0) (zf (pv 2) zj)))) q2.p),?_⟩;refine⟨_,rfl,_,rfl,bl,fa,zs,fs,rfl,hb,hz,hf,by omega,hl,λz hz=>⟨(hst z hz).1,Nat.le_trans (hst z hz).2 (by decide)⟩,λv H1 sv s1=>?_⟩;have q:=kk H1 s1;unfold plc at q;rcases sv with ⟨hL,rfl⟩ | ⟨hL,l,rfl,hn,hv⟩
  ·rw[hL,if_neg (by decide)]at q;exact⟨_,rfl,rfl,_,rfl,ym q⟩
  ·rw[if_pos hL]at q;have hm:=hin hL;have hlt:=List.idxOf_lt_length_iff.mpr hm;refine⟨_,rfl,rfl,_,rfl,yr ?_⟩;refine⟨_,rfl,.inl ⟨rfl,_,SqL.of (s1 _ _ hD)⟩,_,rfl,Dd,_,_,(ws.map (·.2)).map yN,yN (yd (zs.map (·.2)) fs),(ws.map (·.2)).idxOf (yd (zs.map (·.2)) fs),rfl,rfl,SqL.of (s1 _ _ hD),TrsAt.lists (λz hz=>s1 _ _ (hw z hz)),TrAt.ints (a:=l) (SqL.of hv),Nat.le_trans (wg _) (by decide),by rw[List.length_map];exact hlt,?_,?_,q⟩
   ·intro t ht;rw[List.getElem?_map,List.getElem?_eq_getElem hlt,Option.map_some]at ht;rw[<-Option.some.inj ht,List.getElem_idxOf hlt,uY,decide_eq_true rfl]
   ·intro m t hm' ht;rw[List.getElem?_map,List.getElem?_eq_getElem (Nat.lt_trans hm' hlt),Option.map_some]at ht;rw[<-Option.some.inj ht,uY,decide_eq_false];intro e;have q3:=ZP hm' (Nat.lt_trans hm' hlt);exact q3 e
def Vw(ls ws:ZA)(b:Nat)(x:List Int):List V:=(List.range b).map λ(c:Nat)=>plc ls ws (x++[(c:Int)])
def YS:Sp:=λvs H Q _=>Ex6 λ(r:Addr) (b:Nat) (bl:Addr) (zs:ZB) (Dd:Addr) (ws:ZB)=>Ex2 λsa xs=>vs=[.ref r,.ref Dd,.ref sa]/\RuleAt H r b bl zs/\GoodRule b (zs.map (·.2))/\H Dd=some (.lst (ws.map λz=>V.ref z.1))/\(∀z∈ws,H z.1=some (.lst (z.2.map V.int)))/\StandsL (zs.map (·.2)) (ws.map (·.2))/\ws.length<=13/\H sa=some (.lst (xs.map V.int))/\xs.length<=100 /\
 ∀p H',H p=none->Same H H'->H' p=some (.lst (Vw (zs.map (·.2)) (ws.map (·.2)) b xs))->Q (.ref p) H'
theorem Qq:zE ["rule","stands","stand"] ["rule","stands","stand"] (zu um):={}
theorem QF(D:Df K mg "steps_from" um At f fd)(uL:Df K mg "place_behind" xY Ax f1 fd1)(jw:FnOk P w K mg base CX0 4 f1 fd1 Ax ZM)(T:Blt mg):FnOk P w K mg base CX0 5 f fd At YS:=by
 refine D.fn.ok Qq (λvs H Q E h=>?_) (λcdv A outer s H vs Q E hr h=>?_)
 ·obtain⟨r,b,bl,zs,Dd,ws,sa,xs,rfl,_⟩:=h;rfl
 ·obtain⟨r,b,bl,zs,Dd,ws,sa,xs,rfl,R,g,hD,hw,SL,h13,hs,hl,kk⟩:=h;have h4:zs.length<=4:=by have:=g.len;rwa[List.length_map]at this
  have ne:∀l∈zs.map (·.2),l≠[]:=λl hl=>(g.st l hl).ne;refine⟨_,(zz (zH (yx (show CScope (zu um) _ "figure" ["rule","stands","stand"] ["stands","rule","stand"] [1,0,2] from {}) rfl (yK rfl T.n_range (zf (zR (vB K) (pv 0) zy (λ_ _=>rfl)) zj)) (λ_ _ _ _=>yQ) (λ_ _ _ _=>(zK uL jw (hr.mono (by decide)) (zf (zR (vB K) (pv 2) zy (λ_ _=>rfl)) (zf (pv 1) (zf (zO vQ (pv 3) (yc (zf (pv 0) zj))) zj)))))))),?_⟩;have b16:=g.b16;refine⟨_,rfl,r,_,_,V.int b,rfl,rfl,SqT.of R.tu,rfl,b,rfl,by omega,by omega,wV (λi ys H4=>ys=Vw (zs.map (·.2)) (ws.map (·.2)) i xs/\Same H H4) ⟨rfl,Same.refl _⟩ ?_ ?_⟩
  ·rintro i ys H4 hi ⟨rfl,s4⟩;have hi':i<b:=by omega
   refine⟨?_,?_⟩
   ·unfold Vw;rw[List.length_map,List.length_range];exact Nat.lt_of_lt_of_le (show i<16 by omega) (by decide)
   unfold jB;dsimp only;have R4:=R.same s4;have hs4:=s4 _ _ hs;refine⟨_,rfl,r,_,_,V.ref bl,rfl,rfl,SqT.of R4.tu,rfl,_,rfl,_,rfl,_,rfl,(by show 1<=sizeLine;decide),λp1 q1=>?_⟩;have n1:=zx hs4 q1;refine⟨sa,p1,_,_,rfl,rfl,by rw[zr n1];exact hs4,zg,by rw[List.length_map];exact Nat.le_trans (show xs.length+1<=101 by omega) (by decide),λp2 q2=>?_⟩;have t2:=s4.trans ((zm q1).trans (zm q2 (o:=.lst (xs.map V.int++[V.int (0+i)]))));have R5:=R.same t2;refine⟨bl,Dd,p2,zs,ws,xs++[0+(i:Int)],rfl,R5.li,R5.st,t2 _ _ hD,λz hz=>t2 _ _ (hw z hz),by rw[zg,List.map_append];rfl,h4,h13,by rw[List.length_append,List.length_singleton];omega,λz hz=>⟨(g.st _ (List.mem_map.mpr ⟨z,hz,rfl⟩)).ne,(g.st _ (List.mem_map.mpr ⟨z,hz,rfl⟩)).len⟩,λh=>(SL.mem _).mpr (Zn ne h),λH5 s5=>⟨?_,t2.trans s5⟩⟩;unfold Vw;rw[List.range_succ,List.map_append,Int.zero_add];rfl
  ·rintro ys H4 ⟨rfl,s4⟩ p hp;refine kk p _ (s4.free hp) (s4.trans (zm hp)) ?_;rw[zg,Int.toNat_natCast]
def Qh(ls ws:ZA)(b:Nat):List (List V):=ws.map (Vw ls ws b)++[V.int (ws.length:Nat)::(Vw ls ws b []).drop 1]
def Wx:Sp:=λvs H Q _=>Ex6 λ(r:Addr) (b:Nat) (bl:Addr) (zs:ZB) (Dd:Addr) (ws:ZB)=>vs=[.ref r,.ref Dd]/\RuleAt H r b bl zs/\GoodRule b (zs.map (·.2))/\H Dd=some (.lst (ws.map λz=>V.ref z.1))/\(∀z∈ws,H z.1=some (.lst (z.2.map V.int)))/\StandsL (zs.map (·.2)) (ws.map (·.2))/\ws.length<=13 /\
 ∀(p:Addr) (rs:List (Addr×List V)) (H':Hp),H p=none->Same H H'->H' p=some (.lst (rs.map λz=>V.ref z.1))->(∀z∈rs,H z.1=none/\H' z.1=some (.lst z.2))->rs.map (·.2)=Qh (zs.map (·.2)) (ws.map (·.2)) b->Q (.ref p) H'
theorem Wn:zE ["rule","stands","steps"] ["rule","stands"] (zu vW):={}
theorem zag(D:Df K mg "all_steps" vW Ay f fd)(jo:Df K mg "steps_from" um At f1 fd1)(Z7:FnOk P w K mg base CX0 5 f1 fd1 At YS)(T:Blt mg):FnOk P w K mg base CX0 6 f fd Ay Wx:=by
 refine D.fn.ok Wn (λvs H Q E h=>?_) (λcdv A outer s H vs Q E hr h=>?_)
 ·obtain⟨r,b,bl,zs,Dd,ws,rfl,_⟩:=h;rfl
 ·obtain⟨r,b,bl,zs,Dd,ws,rfl,R,g,hD,hw,SL,h13,kk⟩:=h;have l3:∀z∈ws,z.2.length<=3:=λz hz=>zaz (λst h=>(g.st st h).len) ((SL.mem _).mp (List.mem_map.mpr ⟨z,hz,rfl⟩));obtain⟨w1,hw1⟩:=SL.first;refine xm ?_;intro XX;let q1:Sq XX ((zq vW).drop 1):=⟨_,zz (zH (zO vQ (pv 2) (yc (zf (zO vQ (yc (zf (zA (xZ K) (by rfl) T.n_len PySem.boot_len (zf (pv 1) zj)) zj)) (xg (jP K) (zR (yo K) (pv 2) zy (λ_ _=>rfl)) (xG zy) wZ)) zj))))⟩
  refine⟨_,(zp (qJ (i:=2) (show CScope (zu vW) _ "stand" ["rule","stands","steps"] ["rule","stands"] [0,1] from {}) rfl Wn.nd rfl (Or.inl rfl) (ql K (pv 1)) (λ_ _ _ _=>yQ) (λ_ _ _ _=>(zK jo Z7 (hr.mono (by decide)) (zf (pv 1) (zf (pv 2) (zf (pv 0) zj)))))) q1.p),?_⟩;refine⟨_,rfl,Dd,rfl,⟨_,SqL.of hD⟩,yt (K:=K) (a:=Dd) (xs:=ws.map λz=>V.ref z.1) (λi ys H4=>∃rs:List (Addr×List V),ys=(rs.map λz=>V.ref z.1)/\(∀z∈rs,H z.1=none/\H4 z.1=some (.lst z.2))/\rs.map (·.2)=(ws.take i).map (λz=>Vw (zs.map (·.2)) (ws.map (·.2)) b z.2)/\Same H H4) ⟨[],rfl,λz hz=>(by cases hz),rfl,Same.refl _⟩ (λi ys H4 _ ⟨_,_,_,_,e⟩=>SqL.of (e _ _ hD)) ?_ ?_⟩
  ·rintro j x ys H4 hx ⟨rs,rfl,hrs,hr2,s4⟩;rw[List.getElem?_map]at hx;obtain⟨z,hzj,e⟩:=Option.map_eq_some_iff.mp hx;subst e;have hzm:=List.mem_of_getElem? hzj;refine⟨?_,?_⟩
   ·have e1:=congrArg List.length hr2;rw[List.length_map,List.length_map,List.length_take]at e1;rw[List.length_map,e1];exact Nat.lt_of_le_of_lt (Nat.le_trans (Nat.min_le_right _ _) h13) (by decide)
   unfold jB;dsimp only;rw[if_pos rfl];refine⟨_,rfl,_,rfl,_,rfl,r,b,bl,zs,Dd,ws,z.1,z.2,rfl,R.same s4,g,s4 _ _ hD,λz hz=>s4 _ _ (hw z hz),SL,h13,s4 _ _ (hw z hzm),Nat.le_trans (l3 z hzm) (by decide),λp H5 hp s5 hv=>?_⟩;refine⟨rs++[(p,Vw (zs.map (·.2)) (ws.map (·.2)) b z.2)],by simp,λy hy=>?_,?_,s4.trans s5⟩
   ·rcases List.mem_append.mp hy with h | h
    ·exact⟨(hrs y h).1,s5 _ _ (hrs y h).2⟩
    ·rw[List.mem_singleton]at h;subst h;exact⟨s4.free hp,hv⟩
   ·rw[List.map_append,hr2,List.take_succ,hzj];simp
  ·rintro ys H4 ⟨rs,rfl,hrs,hr2,s4⟩ p hp;have hl2:=congrArg List.length hr2;rw[List.length_map,List.take_length]at hr2;rw[List.length_map,List.length_map,List.length_take,List.length_map,Nat.min_self]at hl2;obtain⟨w0,ws',rfl⟩:∃w0 ws',ws=w0::ws':=by
    cases ws with
    |nil=>simp at hw1
    |cons a b=>exact⟨a,b,rfl⟩
   have hw0:w0.2=[]:=by
    rw[List.map_cons]at hw1;exact (List.cons.inj hw1).1
   obtain⟨r0,rs',rfl⟩:∃r0 rs',rs=r0::rs':=by
    cases rs with
    |nil=>simp at hl2
    |cons a b=>exact⟨a,b,rfl⟩
   have hr0:r0.2=Vw (zs.map (·.2)) ((w0::ws').map (·.2)) b []:=by
    have e:=(List.cons.inj hr2).1;rw[<-hw0];exact e
   have t4:=s4.trans (zm hp (o:=.lst ((r0::rs').map λz=>V.ref z.1)));have hr04:∀z∈r0::rs',upd H4 p (.lst ((r0::rs').map λz=>V.ref z.1)) z.1=some (.lst z.2):=λz hz=>zm hp _ _ (hrs z hz).2;refine⟨_,rfl,_,rfl,Dd,_,rfl,.inl (SqL.of (t4 _ _ hD)),(by show 1<=sizeLine;decide),λp1 q1=>?_⟩;have u1:=zm q1 (o:=.lst [V.int (((w0::ws').map λz=>V.ref z.1).length:Nat)]);refine⟨_,rfl,p,_,_,V.ref r0.1,rfl,rfl,SqL.of (u1 _ _ zg),yV (j:=0) rfl,_,rfl,r0.1,_,rfl,SqL.of (u1 _ _ (hr04 r0 List.mem_cons_self)),λp2 q2=>?_⟩;have hb1:r0.2.length<=16:=by
    rw[hr0];unfold Vw;rw[List.length_map,List.length_range];exact g.b16
   have u2:=u1.trans (zm q2 (o:=.lst (uh r0.2 (some 1) none)));refine⟨p1,p2,_,_,rfl,rfl,zm q2 _ _ zg,zg,?_,λp3 q3=>?_⟩
   ·rw[show (1:Int)=((1:Nat):Int) from rfl,qw,List.length_drop,List.length_singleton];exact Nat.le_trans (show 1+(r0.2.length-1)<=100 by omega) (by decide)
   have ev:([V.int (((w0::ws').map λz=>V.ref z.1).length:Nat)]++uh r0.2 (some 1) none)=V.int (((w0::ws').map (·.2)).length:Nat)::(Vw (zs.map (·.2)) ((w0::ws').map (·.2)) b []).drop 1:=by
    rw[show (1:Int)=((1:Nat):Int) from rfl,qw,hr0,List.length_map,List.length_map];rfl
   have u3:=u2.trans (zm q3 (o:=.lst ([V.int (((w0::ws').map λz=>V.ref z.1).length:Nat)]++uh r0.2 (some 1) none)));refine⟨(by show 1<=sizeLine;decide),λp4 q4=>?_⟩;have u4:=u3.trans (zm q4 (o:=.lst [V.ref p3]));refine⟨p,p4,_,_,rfl,rfl,u4 _ _ zg,zg,?_,λp5 q5=>?_⟩
   ·rw[List.length_map,List.length_singleton];exact Nat.le_trans (show (r0::rs').length+1<=100 by omega) (by decide)
   have u5:=u4.trans (zm q5 (o:=.lst ((r0::rs').map (λz=>V.ref z.1)++[V.ref p3])));refine kk p5 (r0::rs'++[(p3,[V.int (((w0::ws').map λz=>V.ref z.1).length:Nat)]++uh r0.2 (some 1) none)]) _ (t4.free (u4.free q5)) (t4.trans u5) ?_ ?_ ?_
   ·rw[zg,List.map_append];rfl
   ·intro z hz;rcases List.mem_append.mp hz with h | h
    ·exact⟨(hrs z h).1,u5 _ _ (hr04 z h)⟩
    ·rw[List.mem_singleton]at h;subst h;exact⟨t4.free (u2.free q3),zm q5 _ _ (zm q4 _ _ zg)⟩
   ·rw[List.map_append,hr2,ev];unfold Qh;rw[List.map_map];rfl
end
structure ClT (K:W.Frag) (mg:Str->Option Value) (C:Addr):Prop where
 cl:Cls K C
 nm:mg "Tails"= some (.ref C)
 n_base:NoAttr K C "base"
 n_outset:NoAttr K C "outset"
 n_steps:NoAttr K C "steps"
 n_layers:NoAttr K C "layers"
def Yb(b n:Nat)(sa la:Addr):List (Str×V):=zZ "layers" (.ref la) (zZ "steps" (.ref sa) (zZ "outset" (.int n) (zZ "base" (.int b) [])))
theorem zde(b n:Nat)(sa la:Addr):(Yb b n sa la).lookup ("base" : Str)=some (.int b):=by
 unfold Yb;rw[zF,if_neg (by decide +kernel),zF,if_neg (by decide +kernel),zF,if_neg (by decide +kernel),zF,if_pos rfl]
theorem Vi(b n:Nat)(sa la:Addr):(Yb b n sa la).lookup ("outset" : Str)=some (.int n):=by
 unfold Yb;rw[zF,if_neg (by decide +kernel),zF,if_neg (by decide +kernel),zF,if_pos rfl]
theorem yS(b n:Nat)(sa la:Addr):(Yb b n sa la).lookup ("steps" : Str)=some (.ref sa):=by
 unfold Yb;rw[zF,if_neg (by decide +kernel),zF,if_pos rfl]
theorem jc(b n:Nat)(sa la:Addr):(Yb b n sa la).lookup ("layers" : Str)=some (.ref la):=by
 unfold Yb;rw[zF,if_pos rfl]
theorem Wc(b n:Nat)(sa la:Addr){m:Str}(h1:¬ m ="layers":=by decide +kernel)(h2:¬ m ="steps":=by decide +kernel)(h3:¬ m ="outset":=by decide +kernel)(h4:¬ m ="base":=by decide +kernel):(Yb b n sa la).lookup m=none:=by
 unfold Yb;rw[zF,if_neg h1,zF,if_neg h2,zF,if_neg h3,zF,if_neg h4];rfl
def wz(ls ws:ZA)(b t:Nat):List Int:=(ws.map λx=>((cnt ls b t x:Nat):Int))++[((ux ls b t:Nat):Int)]
def stepV(ls ws:ZA):Option (List Int)->Nat->V
 |some x,c=>plc ls ws (x++[(c:Int)])
 |none,c=>if c=0 then .int (ws.length:Nat) else plc ls ws [(c:Int)]
theorem qH(ls ws:ZA)(c:Nat):stepV ls ws none c=if c=0 then .int (ws.length:Nat) else plc ls ws [(c:Int)]:=rfl
theorem zcb(ls:ZA)(b t:Nat)(x:List Int)(c:Nat):ZQ ls b t (some x) c=if lacks ls (x++[(c:Int)])=true then cnt ls b t (yd ls (x++[(c:Int)])) else 0:=rfl
theorem Xk(ls:ZA)(b t:Nat)(c:Nat):ZQ ls b t none c=if c=0 then ux ls b t else if lacks ls [(c:Int)]=true then cnt ls b t (yd ls [(c:Int)]) else 0:=rfl
theorem Qd(hb:1<=b)(hi:i<=ws.length):(Qh ls ws b)[i]?=some ((List.range b).map (stepV ls ws ws[i]?)):=by
 unfold Qh;by_cases h:i<ws.length
 ·rw[List.getElem?_append_left (by rw[List.length_map];exact h),List.getElem?_map,List.getElem?_eq_getElem h];rfl
 ·have e:i=ws.length:=by omega
  subst e;rw[List.getElem?_append_right (by rw[List.length_map];exact Nat.le_refl _),List.length_map,Nat.sub_self,List.getElem?_eq_none (Nat.le_refl _)];show some _=some _;congr 1;obtain⟨k,rfl⟩:∃k,b=k+1:=⟨b-1,by omega⟩
  unfold Vw;rw[List.range_succ_eq_map,List.map_cons,List.map_cons,List.drop_succ_cons,List.drop_zero];rw[List.map_map,List.map_map];rfl
structure TailsAt (C:Addr) (H:Hp) (p la:Addr) (b:Nat) (ls ws:ZA) (L:Nat):Prop where
 ob:∃(dx sa:Addr) (srs:List (Addr×List V)),aw [la] H p=some (.ins C dx (Yb b ws.length sa la))/\aw [la] H sa=some (.lst (srs.map λz=>V.ref z.1))/\(∀z∈srs,aw [la] H z.1=some (.lst z.2))/\srs.map (·.2)=Qh ls ws b
 ly:∃lrs:ZB,H la=some (.lst (lrs.map λz=>V.ref z.1))/\(∀z∈lrs,aw [la] H z.1=some (.lst (z.2.map V.int)))/\lrs.map (·.2)=(List.range L).map (wz ls ws b)
 l1:1<=L
structure GoodT (b:Nat) (ls ws:ZA):Prop where
 g:GoodRule b ls
 s:StandsL ls ws
 h13:ws.length<=13
theorem GoodT.ne(G:GoodT b ls ws):∀l∈ls,l≠[]:=λl hl=>(G.g.st l hl).ne
theorem TailsAt.same{C p la b:Nat}(A:TailsAt C H p la b ls ws L)(m:Same H H'):TailsAt C H' p la b ls ws L:=by
 obtain⟨dx,sa,srs,h1,h2,h3,h4⟩:=A.ob;obtain⟨lrs,g1,g2,g3⟩:=A.ly;have m':=m.aw [la];exact⟨⟨dx,sa,srs,m' _ _ h1,m' _ _ h2,λz hz=>m' _ _ (h3 z hz),h4⟩,⟨lrs,m _ _ g1,λz hz=>m' _ _ (g2 z hz),g3⟩,A.l1⟩
theorem zaX(G:GoodT b ls ws)(hi:i<=ws.length):
  (stepV ls ws ws[i]? c=.non/\ZQ ls b t ws[i]? c=0)\/∃j:Nat,stepV ls ws ws[i]? c=.int j/\j<=ws.length/\(wz ls ws b t)[j]?=some ((ZQ ls b t ws[i]? c:Nat):Int):=by
 have at_:∀fs:List Int,lacks ls fs=true->∃j:Nat,plc ls ws fs=.int j/\j<=ws.length/\(wz ls ws b t)[j]?=some ((cnt ls b t (yd ls fs):Nat):Int):=by
  intro fs h;have hm:yd ls fs∈ws:=(G.s.mem _).mpr (Zn G.ne h);have hlt:=List.idxOf_lt_length_iff.mpr hm;refine⟨ws.idxOf (yd ls fs),by unfold plc;rw[if_pos h],Nat.le_of_lt hlt,?_⟩;unfold wz;rw[List.getElem?_append_left (by rw[List.length_map];exact hlt),List.getElem?_map,List.getElem?_eq_getElem hlt,List.getElem_idxOf hlt];rfl
 cases hw:ws[i]? with
 |some x=>
  show (plc ls ws (x++[(c:Int)])=.non/\(if lacks ls (x++[(c:Int)])=true then _ else 0)=0)\/_;by_cases h:lacks ls (x++[(c:Int)])=true
  ·right;obtain⟨j,h1,h2,h3⟩:=at_ _ h;refine⟨j,h1,h2,?_⟩;rw[h3,zcb,if_pos h]
  ·left;exact⟨by unfold plc;rw[if_neg h],by rw[if_neg h]⟩
 |none=>
  by_cases h0:c=0
  ·right;refine⟨ws.length,by rw[qH,if_pos h0],Nat.le_refl _,?_⟩;unfold wz;rw[Xk,if_pos h0,List.getElem?_append_right (by rw[List.length_map];exact Nat.le_refl _),List.length_map,Nat.sub_self];rfl
  ·by_cases h:lacks ls [(c:Int)]=true
   ·right;obtain⟨j,h1,h2,h3⟩:=at_ _ h;refine⟨j,by rw[qH,if_neg h0];exact h1,h2,?_⟩;rw[h3,Xk,if_neg h0,if_pos h]
   ·left;refine⟨?_,?_⟩
    ·rw[qH,if_neg h0];unfold plc;rw[if_neg h]
    ·rw[Xk,if_neg h0,if_neg h]
theorem UL(h:b∈fp):aw fp (upd H b o)=aw fp H:=by
 funext c;by_cases hc:c∈fp
 ·rw[qZ hc,qZ hc]
 ·rw[zT hc,zT hc,zr (λz:c=b=>hc (by rw[z];exact h))]
section
variable {P:Program} {w:World} {K:W.Frag} {mg:Str->Option Value} {base:Heap} {T0 C:Addr}
def Xw(C:Addr):Sp:=λvs H Q _=>Ex6 λp la b ls ws L=>Ex4 λ(t:Nat) (lay:Addr) (i:Nat) (s:Nat)=>vs=[.ref p,.ref lay,.int i,.int s]/\TailsAt C H p la b ls ws L/\GoodT b ls ws/\H lay=some (.lst ((wz ls ws b t).map V.int))/\i<=ws.length/\s<=b /\
 ∀H',Same H H'->Q (.int (under ls b t ws[i]? s:Nat)) H'
theorem Vf:zE ["self","layer","place","stop"] ["self","layer","place","stop"] (zu xx):={}
theorem Qg(D:Mt K C "Tails.many_by" "many_by" xx Al f fd)(zQ:ClT K mg C)(T:Blt mg)(U:Qt mg):FnOk P w K mg base CX0 1 f fd Al (Xw C):=by
 refine D.fn.ok Vf (λvs H Q E h=>?_) (λcdv A outer s H vs Q E hr h=>?_)
 ·obtain⟨p,la,b,ls,ws,L,t,lay,i,s,rfl,_⟩:=h;rfl
 ·obtain⟨p,la,b,ls,ws,L,t,lay,i,s,rfl,TA,G,hlay,hi,hs,kk⟩:=h;obtain⟨dx,sa,srs,h1,h2,h3,h4⟩:=TA.ob;have b16:=G.g.b16;have b2:=G.g.b2;refine⟨_,(zz (zH (zA (zcG K rfl) (by rfl) U.n_sum boot_sum (zf (yx (show CScope (zu xx) _ "behind" ["self","layer","place","stop"] ["layer"] [1] from {}) rfl (ql K (xg (jP K) (zR (yo K) (wX K (pv 0)) (pv 2) (λ_ _=>rfl)) wZ (xG (pv 3)))) (λ_ _ _ _=>(vK (zN Yu (pv 0) vC (zV _)))) (λ_ _ _ _=>(zR (yo K) (pv 1) (pv 0) (λ_ _=>rfl)))) zj)))),?_⟩;have hrow:=Qd (ls:=ls) (b:=b) (by omega) hi;rw[<-h4,List.getElem?_map]at hrow;obtain⟨z,hz,ez⟩:=Option.map_eq_some_iff.mp hrow;have hzm:=List.mem_of_getElem? hz;have hz3:=zL _ _ _ _ (h3 z hzm);refine⟨_,rfl,p,C,dx,_,_,rfl,zL _ _ _ _ h1,zQ.cl,zQ.n_steps,yS _ _ _ _,_,rfl,sa,_,_,V.ref z.1,rfl,rfl,SqL.of (zL _ _ _ _ h2),yV (by rw[List.getElem?_map,hz];rfl),?_⟩;refine⟨_,rfl,_,rfl,z.1,_,rfl,SqL.of hz3,λq hq=>?_⟩;have m1:=zm hq (o:=.lst (uh z.2 none (some (s:Int))));have ecut:uh z.2 none (some (s:Int))=(List.range s).map (stepV ls ws ws[i]?):=by
   rw[Yz,ez,<-List.map_take,List.take_range,Nat.min_eq_left hs]
  rw[ecut]at m1 ⊢;refine⟨q,rfl,⟨_,SqL.of zg⟩,yt (K:=K) (a:=q) (xs:=(List.range s).map (stepV ls ws ws[i]?)) (λk ys H4=>H4=upd H q (.lst ((List.range s).map (stepV ls ws ws[i]?)))/\∃ms:List Int,ys=ms.map V.int/\ms.length<=k/\ms.sum=((under ls b t ws[i]? k:Nat):Int)) ⟨rfl,[],rfl,Nat.le_refl _,by simp[under]⟩ (λk ys H4 _ ⟨e,_⟩=>by rw[e];exact SqL.of zg) ?_ ?_⟩
  ·rintro k x ys H4 hx ⟨rfl,ms,rfl,hml,hms⟩;rw[List.getElem?_map]at hx;obtain⟨c,hc,e⟩:=Option.map_eq_some_iff.mp hx;have hk:k<s:=by have:=(List.getElem?_eq_some_iff.mp hc).1;rwa[List.length_range]at this
   have ec:c=k:=by
    rw[List.getElem?_range hk]at hc;exact (Option.some.inj hc).symm
   subst ec;subst e;refine⟨by rw[List.length_map];exact Nat.lt_of_le_of_lt (show ms.length<=16 by omega) (by decide),?_⟩;have hus:=qL ls b t ws[i]? c;rcases zaX (t:=t) G (c:=c) hi with ⟨e1,e2⟩ | ⟨j,e1,e2,e3⟩
   ·rw[e1];refine⟨_,rfl,rfl,_,rfl,yr ⟨rfl,ms,rfl,by omega,?_⟩⟩;rw[hus,e2,hms];omega
   ·rw[e1];refine⟨_,rfl,rfl,_,rfl,ym ?_⟩;refine⟨_,rfl,_,rfl,lay,_,_,V.int ((ZQ ls b t ws[i]? c:Nat):Int),rfl,rfl,SqL.of (m1 _ _ hlay),yV (by rw[List.getElem?_map,e3];rfl),rfl,ms++[((ZQ ls b t ws[i]? c:Nat):Int)],by simp,by rw[List.length_append,List.length_singleton];omega,?_⟩;rw[List.sum_append,hms,hus];simp
  ·rintro ys H4 ⟨rfl,ms,rfl,hml,hms⟩ Dd hD;refine⟨Dd,ms,rfl,SqL.of zg,?_⟩;rw[hms,List.length_map,List.length_range];exact kk _ (m1.trans (zm hD))
def NoRef(H:Hp)(a c:Addr):Prop:=∀xs,H a=some (.lst xs)->V.ref c∉xs
def NR(la:Addr)(H H':Hp):Prop:=∀c o,c≠la->H c=some o->NoRef H la c->NoRef H' la c
theorem NR.refl(la:Addr)(H:Hp):NR la H H:=λ_ _ _ _ h=>h
theorem zaZ(m:Same (aw [la] H) (aw [la] H'))(hc:c≠la)(e:H c=some o):H' c=some o:=by
 have hc':c∉[la]:=by simpa using hc
 have:=m c o (by rw[zT hc'];exact e);rwa[zT hc']at this
theorem NR.trans(a:NR la H H1)(m:Same (aw [la] H) (aw [la] H1))(b:NR la H1 H2):NR la H H2:=λc o hc e h=>b c o hc (zaZ m hc e) (a c o hc e h)
theorem NoRef.same(n:NoRef H a c)(h:H a=some o)(h':H' a=some o):NoRef H' a c:=λxs hx=>n xs (by rw[h,<-h'];exact hx)
theorem NR.same(a:NR la H H1)(h:H1 la=some o)(m:Same H1 H2):NR la H H2:=λc u hc e n=>(a c u hc e n).same h (m _ _ h)
def TQ(C:Addr)(H:Hp)(p la:Addr)(b:Nat)(ls ws:ZA)(L:Nat)(R:Nat->Hp->Prop):Prop:=∀L' H',L<=L'->TailsAt C H' p la b ls ws L'->Same (aw [la] H) (aw [la] H')->NR la H H'->R L' H'
def zaD(C:Addr):Sp:=λvs H Q _=>Ex5 λp la b ls ws=>Ex2 λ(L:Nat) (t:Nat)=>vs=[.ref p,.int t]/\TailsAt C H p la b ls ws L/\GoodT b ls ws/\L<=1000/\t<1000 /\
 ∀lay:Addr,TQ C H p la b ls ws L λL' H'=>L'<=max L (t+1)->aw [la] H' lay=some (.lst ((wz ls ws b t).map V.int))->Q (.ref lay) H'
theorem Yn:zE ["self","left","shorter"] ["self","left"] (zu xP):={}
theorem zaA:((List.range (ws.length+1)).map λi=>((under ls b t ws[i]? b:Nat):Int))=wz ls ws b (t+1):=by
 unfold wz;apply List.ext_getElem?;intro i;rw[List.getElem?_map];by_cases h:i<ws.length
 ·rw[List.getElem?_range (by omega),List.getElem?_append_left (by rw[List.length_map];exact h),List.getElem?_map,Option.map_some,List.getElem?_eq_getElem h];rfl
 ·by_cases h2:i=ws.length
  ·subst h2;rw[List.getElem?_range (by omega),List.getElem?_append_right (by rw[List.length_map];exact Nat.le_refl _),List.length_map,Nat.sub_self,Option.map_some,List.getElem?_eq_none (Nat.le_refl _)];rfl
  ·rw[List.getElem?_eq_none (by rw[List.length_range];omega),List.getElem?_eq_none (by rw[List.length_append,List.length_map,List.length_singleton];omega)];rfl
theorem zeJ(D:Mt K C "Tails.layer" "layer" xP Az f fd)(yO:Mt K C "Tails.many_by" "many_by" xx Al f1 fd1)(zQ:ClT K mg C)(T:Blt mg)(U:Qt mg):FnOk P w K mg base CX0 2 f fd Az (zaD C):=by
 have qQ:FnOk P w K mg base CX0 1 f1 fd1 Al (Xw C):=Qg yO zQ T U;refine D.fn.ok Yn (λvs H Q E h=>?_) (λcdv A outer s H vs Q E hr h=>?_)
 ·obtain⟨p,la,b,ls,ws,L,t,rfl,_⟩:=h;rfl
 ·obtain⟨p,la,b,ls,ws,L,t,rfl,TA,G,hL,ht,kk⟩:=h;have h13:=G.h13;refine xm ?_;intro XX;let q1:Sq XX ((zq xP).drop 1):=⟨_,zz (zH (zR (yo K) (wX K (pv 0)) (pv 1) (λ_ _=>rfl)))⟩
  let q2:Sq XX ((sb (zq xP) 0 true).drop 1):=⟨_,zz (vh (Wm PySem.F.plainAttrs_list PySem.F.slot_list_append PySem.F.type_list_append uD (wX K (pv 0)) (zf (yx (show CScope (zu xP) _ "place" ["self","left","shorter"] ["shorter","self"] [2,0] from {}) rfl (yK rfl T.n_range (zf (zO wK (wX K (pv 0)) zy) zj)) (λ_ _ _ _=>yQ) (λ_ _ _ _=>(Xc yO zQ.cl qQ (hr.mono (by decide)) (pv 2) (zf (pv 1) (zf (pv 0) (zf (wX K (pv 2)) zj)))))) zj)))⟩
  refine⟨_,(zp (X5 PassesOwn.never (zN Us (zA (xZ K) (by rfl) T.n_len PySem.boot_len (zf (wX K (pv 0)) zj)) (pv 1) (zV _))
    (zp (zG (i:=2) Yn.nd rfl (Or.inr rfl) (zR (yo K) (wX K (pv 0)) (zcR JR zy) (λ_ _=>rfl))) q2.p)) q1.p),?_⟩
  refine V6 (fun σ H2=>∃(v:Option V) (L':Nat),σ=[some (.ref p),some (.int t),v]/\L<=L'/\L'<=max L (t+1)/\TailsAt C H2 p la b ls ws L'/\Same (aw [la] H) (aw [la] H2)/\NR la H H2)
   (fun σ H2=>match H2 la with | some (.lst xs)=>t+1-xs.length | _=>0) ⟨none,L,rfl,Nat.le_refl _,Nat.le_max_left _ _,TA,Same.refl _,NR.refl _ _⟩ ?_ ?_
  ·rintro σ H2 ⟨v,L',rfl,hLL,hLm,TA2,m2,nr2⟩;obtain⟨dx,sa,srs,h1,h2,h3,h4⟩:=TA2.ob;obtain⟨lrs,g1,g2,g3⟩:=TA2.ly;have hl:lrs.length=L':=by have:=congrArg List.length g3;rwa[List.length_map,List.length_map,List.length_range]at this
   have hp:=zL _ _ _ _ h1;have l1:=TA2.l1;refine⟨_,rfl,p,C,dx,_,_,rfl,hp,zQ.cl,zQ.n_layers,jc _ _ _ _,la,_,rfl,.inl (SqL.of g1),_,rfl,_,_,rfl,rfl,_,rfl,?_⟩;rw[List.length_map,hl];refine zbP (λhc=>?_) (λhc=>?_)
   ·have hc':L'<=t:=by have:=of_decide_eq_true hc;omega
    have hlast:lrs[L'-1]?=some lrs[L'-1]:=List.getElem?_eq_getElem (by omega);generalize hz:lrs[L'-1]=z at hlast;have hzm:z∈lrs:=List.mem_of_getElem? hlast;have hz2:z.2=wz ls ws b (L'-1):=by
     have e:=congrArg (λl=>l[L'-1]?) g3;simp only[List.getElem?_map,hlast,List.getElem?_range (show L'-1<L' by omega),Option.map_some]at e;exact Option.some.inj e
    have elr:lrs=lrs.take (L'-1)++[z]:=by
     have e:=(List.take_append_drop (L'-1) lrs).symm;rw[List.drop_eq_getElem_cons (show L'-1<lrs.length by omega),hz,List.drop_of_length_le (by omega)]at e;exact e
    have eat:atI (lrs.map λz=>V.ref z.1) (-1)=some (V.ref z.1):=by
     rw[elr,List.map_append];exact ze8 _ _
    refine⟨_,rfl,p,C,dx,_,_,rfl,hp,zQ.cl,zQ.n_layers,jc _ _ _ _,_,rfl,la,_,_,V.ref z.1,rfl,rfl,SqL.of g1,eat,?_⟩;refine⟨_,rfl,p,C,dx,_,_,rfl,hp,zQ.cl,zQ.n_layers,jc _ _ _ _,.inl ⟨rfl,_,SqL.of g1⟩,?_⟩;refine⟨_,rfl,p,C,dx,_,_,rfl,hp,zQ.cl,zQ.n_outset,Vi _ _ _ _,_,_,rfl,rfl,((ws.length:Int)+1),rfl,by omega,by omega,wV (lo:=0) (n:=((ws.length:Int)+1).toNat) (λi ys H4=>ys=(((List.range i).map λi=>((under ls b (L'-1) ws[i]? b:Nat):Int))).map V.int/\Same H2 H4) ⟨rfl,Same.refl _⟩ ?_ ?_⟩
    ·rintro i ys H4 hi ⟨rfl,m4⟩;refine⟨by rw[List.length_map,List.length_map,List.length_range];exact Nat.lt_of_lt_of_le (show i<20 by omega) (by decide),?_⟩;unfold jB;dsimp only;rw[if_pos rfl];have TA4:=TA2.same m4;have hp4:=m4 _ _ hp;refine⟨_,rfl,p,dx,_,rfl,hp4,Wc _ _ _ _,_,rfl,_,rfl,_,rfl,p,C,dx,_,_,rfl,hp4,zQ.cl,zQ.n_base,zde _ _ _ _,?_⟩;refine⟨p,la,b,ls,ws,L',L'-1,z.1,i,b,by rw[Int.zero_add];rfl,TA4,G,?_,by omega,Nat.le_refl _,λH5 m5=>⟨?_,m4.trans m5⟩⟩
     ·rw[<-hz2];exact m4 _ _ (zL _ _ _ _ (g2 z hzm))
     ·rw[List.range_succ,List.map_append,List.map_append];rfl
    rintro ys H4 ⟨rfl,m4⟩ q hq;rw[show ((ws.length:Int)+1).toNat=ws.length+1 by omega,zaA,show L'-1+1=L' by omega];have m5:=zm hq (o:=.lst ((wz ls ws b L').map V.int));have gla:=m5 _ _ (m4 _ _ g1);have nq:q≠la:=λe=>by rw[e,m4 _ _ g1]at hq;cases hq
    refine⟨la,_,_,rfl,rfl,gla,by rw[List.length_map,hl];exact Nat.lt_of_le_of_lt (show L'<=1000 by omega) (by decide),?_⟩;have m25:Same (aw [la] H2) (aw [la] (upd (upd H4 q (.lst ((wz ls ws b L').map V.int))) la (.lst (lrs.map (λz=>V.ref z.1)++[.ref q])))):=by
     rw[UL (by simp)];exact (m4.trans m5).aw [la]
    refine⟨⟨_,L'+1,rfl,by omega,by omega,⟨⟨dx,sa,srs,m25 _ _ h1,m25 _ _ h2,λy hy=>m25 _ _ (h3 y hy),h4⟩,⟨lrs++[(q,wz ls ws b L')],by rw[zg];simp,λy hy=>?_,?_⟩,by omega⟩,m2.trans m25,nr2.trans m2 ?_⟩,?_⟩
    ·rcases List.mem_append.mp hy with hy | hy
     ·exact m25 _ _ (g2 y hy)
     ·have e:y=(q,wz ls ws b L'):=by simpa using hy
      subst e;rw[UL (by simp),zT (by simp[nq]),zg]
    ·rw[List.map_append,g3,List.range_succ,List.map_append];rfl
    ·intro c o hc e n xs hx;rw[zg]at hx;injection hx with hx
     injection hx with hx
     rw[<-hx,List.mem_append];rintro (h | h)
     ·exact n _ g1 h
     ·rw[List.mem_singleton]at h;injection h with h
      rw[<-h,m4 _ _ e]at hq;cases hq
    ·show (match (upd (upd H4 q (.lst ((wz ls ws b L').map V.int))) la (.lst (lrs.map (λz=>V.ref z.1)++[.ref q]))) la with | some (.lst xs)=>t+1-xs.length | _=>0)<(match H2 la with | some (.lst xs)=>t+1-xs.length | _=>0);rw[zg,g1];show t+1-(lrs.map (λz=>V.ref z.1)++[V.ref q]).length<t+1-(lrs.map λz=>V.ref z.1).length;rw[List.length_append,List.length_map,List.length_singleton];omega
   ·have hc':t<L':=by
     by_cases z:t<L'
     ·exact z
     ·exact absurd (decide_eq_true (by omega:(L':Int)<=t)) hc
    have hlast:lrs[t]?=some lrs[t]:=List.getElem?_eq_getElem (by omega);generalize hz:lrs[t]=z at hlast;have hzm:z∈lrs:=List.mem_of_getElem? hlast;have hz2:z.2=wz ls ws b t:=by
     have e:=congrArg (λl=>l[t]?) g3;simp only[List.getElem?_map,hlast,List.getElem?_range hc',Option.map_some]at e;exact Option.some.inj e
    refine⟨_,rfl,p,C,dx,_,_,rfl,hp,zQ.cl,zQ.n_layers,jc _ _ _ _,_,rfl,la,_,_,V.ref z.1,rfl,rfl,SqL.of g1,yV (by rw[List.getElem?_map,hlast];rfl),?_⟩;exact kk z.1 L' H2 hLL TA2 m2 nr2 hLm (by rw[<-hz2];exact g2 z hzm)
  ·intro σ H2 Q Q' hq;rintro⟨v0,e0,a,C',dx,fs,v,h1,h2,h3,h4,h5,p',ys,h6,h7,v1,e1,i,j,e3,e4,k,e5,q⟩;exact⟨v0,e0,a,C',dx,fs,v,h1,h2,h3,h4,h5,p',ys,h6,h7,v1,e1,i,j,e3,e4,k,e5,hq _ _ q⟩
def YZ(C:Addr):Sp:=λvs H Q _=>Ex6 λp la b ls ws L=>Ex3 λ(i:Nat) (s:Nat) (t:Nat)=>vs=[.ref p,.int i,.int s,.int t]/\TailsAt C H p la b ls ws L/\GoodT b ls ws/\L<=1000/\t<1000/\i<=ws.length/\s<=b/\TQ C H p la b ls ws L λL' H'=>L'<=max L (t+1)->Q (.int (under ls b t ws[i]? s:Nat)) H'
theorem YF:zE ["self","place","stop","left"] ["self","place","stop","left"] (zu wB):={}
theorem Qv(D:Mt K C "Tails.many_under" "many_under" wB Au f fd)(qp:Mt K C "Tails.layer" "layer" xP Az f1 fd1)(yO:Mt K C "Tails.many_by" "many_by" xx Al f2 fd2)(zQ:ClT K mg C)(T:Blt mg)(U:Qt mg):FnOk P w K mg base CX0 3 f fd Au (YZ C):=by
 have qQ:FnOk P w K mg base CX0 1 f2 fd2 Al (Xw C):=Qg yO zQ T U;have JT:FnOk P w K mg base CX0 2 f1 fd1 Az (zaD C):=zeJ qp yO zQ T U;refine D.fn.ok YF (λvs H Q E h=>?_) (λcdv A outer s H vs Q E hr h=>?_)
 ·obtain⟨p,la,b,ls,ws,L,i,s,t,rfl,_⟩:=h;rfl
 ·obtain⟨p,la,b,ls,ws,L,i,s,t,rfl,TA,G,hL,ht,hi,hs,kk⟩:=h;obtain⟨dx,sa,srs,h1,h2,h3,h4⟩:=TA.ob;have hp:=zL _ _ _ _ h1;refine⟨_,(zz (zH (Xc yO zQ.cl qQ (hr.mono (by decide)) (pv 0) (zf (Xc qp zQ.cl JT (hr.mono (by decide)) (pv 0) (zf (pv 3) zj)) (zf (pv 1) (zf (pv 2) zj)))))),?_⟩;refine⟨_,rfl,p,dx,_,rfl,hp,Wc _ _ _ _,?_⟩;refine⟨_,rfl,p,dx,_,rfl,hp,Wc _ _ _ _,_,rfl,p,la,b,ls,ws,L,t,rfl,TA,G,hL,ht,λlay L' H' hLL TA' m' nr' hm hlay=>?_⟩;exact⟨_,rfl,_,rfl,p,la,b,ls,ws,L',t,lay,i,s,rfl,TA',G,zL _ _ _ _ hlay,hi,hs,λH2 m2=>kk L' H2 hLL (TA'.same m2) (m'.trans (m2.aw [la])) (let ⟨_,g,_⟩:=TA'.ly;nr'.same g m2) hm⟩
end
theorem zdA(G:GoodT b ls ws)(hi:i<=ws.length)(R:Rep ls b m ws[i]?)(hc:c<b):
  (∃j:Nat,stepV ls ws ws[i]? c=.int j/\j<=ws.length/\Rep ls b (m*b+c) ws[j]?)\/(stepV ls ws ws[i]? c=.non/\1<=m*b+c/\gd ls b (m*b+c)=false):=by
 have b2:=G.g.b2;have ep:∀h:¬ (ws[i]?=none/\c=0),stepV ls ws ws[i]? c=plc ls ws (ws[i]?.getD []++[(c:Int)]):=by
  intro h;cases hw:ws[i]? with
  |some x=>rfl
  |none=>
   rw[qH,if_neg (λz=>h ⟨hw,z⟩)];rfl
 rcases R.step G.ne b2 hc with ⟨h1,h2,h3⟩ | ⟨h0,⟨h1,h2⟩ | ⟨h1,h2,h3⟩⟩
 ·left;refine⟨ws.length,by rw[h1,qH,if_pos h2],Nat.le_refl _,by rw[List.getElem?_eq_none (Nat.le_refl _)];exact h3⟩
 ·left;have hm:yd ls (ws[i]?.getD []++[(c:Int)])∈ws:=(G.s.mem _).mpr (Zn G.ne h1);have hlt:=List.idxOf_lt_length_iff.mpr hm;refine⟨ws.idxOf (yd ls (ws[i]?.getD []++[(c:Int)])),by rw[ep h0];unfold plc;rw[if_pos h1],Nat.le_of_lt hlt,?_⟩;rw[List.getElem?_eq_getElem hlt,List.getElem_idxOf hlt];exact h2
 ·right;exact⟨by rw[ep h0];unfold plc;rw[if_neg (by rw[h1];exact Bool.false_ne_true)],h2,h3⟩
section
variable {P:Program} {w:World} {K:W.Frag} {mg:Str->Option Value} {base:Heap} {T0 C:Addr}
theorem zd9{p la b:Nat}(TA:TailsAt C H p la b ls ws L)(G:GoodT b ls ws)(hi:i<=ws.length)(hc:c<b):
  ∃(dx sa:Addr) (srs:List (Addr×List V)) (z:Addr×List V),H p=some (.ins C dx (Yb b ws.length sa la))/\H sa=some (.lst (srs.map λz=>V.ref z.1))/\atI (srs.map λz=>V.ref z.1) (i:Int)=some (V.ref z.1)/\H z.1=some (.lst z.2)/\atI z.2 (c:Int)=some (stepV ls ws ws[i]? c):=by
 obtain⟨dx,sa,srs,h1,h2,h3,h4⟩:=TA.ob;have hrow:=Qd (ls:=ls) (b:=b) (by have:=G.g.b2;omega) hi;rw[<-h4,List.getElem?_map]at hrow;obtain⟨z,hz,ez⟩:=Option.map_eq_some_iff.mp hrow;refine⟨dx,sa,srs,z,zL _ _ _ _ h1,zL _ _ _ _ h2,yV (by rw[List.getElem?_map,hz];rfl),zL _ _ _ _ (h3 z (List.mem_of_getElem? hz)),yV ?_⟩;rw[ez,List.getElem?_map,List.getElem?_range hc];rfl
theorem TailsAt.obj{p la b:Nat}(TA:TailsAt C H p la b ls ws L):∃dx sa,H p=some (.ins C dx (Yb b ws.length sa la)):=by
 obtain⟨dx,sa,srs,h1,_⟩:=TA.ob;exact⟨dx,sa,zL _ _ _ _ h1⟩
def Y9(C:Addr):Sp:=λvs H Q _=>Ex6 λp la b ls ws L=>Ex2 λfa n=>vs=[.ref p,.ref fa]/\TailsAt C H p la b ls ws L/\GoodT b ls ws/\L<=1000/\aw [la] H fa=some (.lst ((figs b n).map V.int))/\n<2^900/\TQ C H p la b ls ws L λL' H'=>L'<=1000->Q (.int (many (gd ls b) n:Nat)) H'
theorem yH:zE ["self","figures","place","many","k"] ["self","figures"] (zu yg):={}
theorem Qo(D:Mt K C "Tails.many_below" "many_below" yg A4 f fd)(wL:Mt K C "Tails.many_under" "many_under" wB Au f1 fd1)(uy:FnOk P w K mg base CX0 3 f1 fd1 Au (YZ C))(zQ:ClT K mg C)(T:Blt mg):FnOk P w K mg base CX0 4 f fd A4 (Y9 C):=by
 refine D.fn.ok yH (λvs H Q E h=>?_) (λcdv A outer s H vs Q E hr h=>?_)
 ·obtain⟨p,la,b,ls,ws,L,fa,n,rfl,_⟩:=h;rfl
 ·obtain⟨p,la,b,ls,ws,L,fa,n,rfl,TA,G,hL,hf,hn,kk⟩:=h;have b2:=G.g.b2;have hlen:=ZZ b2 900 n hn;obtain⟨dx0,sa0,hp0⟩:=TA.obj;generalize hN:(figs b n).length=N at hlen;have hnN:=uR b2 hN;refine xm ?_;intro XX;let q1:Sq XX ((zq yg).drop 3):=⟨_,zz (zH (pv 3))⟩
  let q2:Sq XX ((sb (zq yg) 2 true).drop 2):=⟨_,zz (yP (zN zce (pv 2) vC (zV _))
     (zz (zH (pv 3)))
     ye)⟩
  let q3:Sq XX ((sb (zq yg) 2 true).drop 1):=⟨_,zp (zG (i:=2) yH.nd rfl (Or.inl rfl) (zR (yo K) (zR (yo K) (wX K (pv 0)) (pv 2) (λ_ _=>rfl)) (zR (yo K) (pv 1) (pv 4) (λ_ _=>rfl)) (λ_ _=>rfl))) q2.p⟩
  let q4:Sq XX ((zq yg).drop 2):=⟨_,zp (uB PassesOwn.never rfl (yK rfl T.n_range (zf (zA (xZ K) (by rfl) T.n_len PySem.boot_len (zf (pv 1) zj)) zj)) (yh (i:=4) yH.nd rfl (Or.inl rfl))
    (zp (zgT (i:=3) yH.nd rfl (Or.inl rfl) (Xc wL zQ.cl uy (hr.mono (by decide)) (pv 0) (zf (pv 2) (zf (zR (yo K) (pv 1) (pv 4) (λ_ _=>rfl)) (zf (zO Xr (zO Xr (zA (xZ K) (by rfl) T.n_len PySem.boot_len (zf (pv 1) zj)) (pv 4)) zy) zj)))) zg6) q3.p)) q1.p⟩
  let q5:Sq XX ((zq yg).drop 1):=⟨_,zp (zG (i:=3) yH.nd rfl (Or.inl rfl) zy) q4.p⟩
  refine⟨_,(zp (zG (i:=2) yH.nd rfl (Or.inl rfl) (wX K (pv 0))) q5.p),?_⟩;refine⟨_,rfl,p,C,dx0,_,_,rfl,hp0,zQ.cl,zQ.n_outset,Vi _ _ _ _,?_⟩;refine⟨_,rfl,fa,_,rfl,.inl (SqL.of (zL _ _ _ _ hf)),?_⟩;rw[List.length_map,hN];refine⟨_,rfl,by omega,by omega,vm (lo:=0) (n:=(N:Int).toNat) (λk σ H2=>∃(v4:Option V) (i L':Nat),σ=[some (.ref p),some (.ref fa),some (.int i),some (.int (many (gd ls b) (n / b^(N-k)*b^(N-k)):Nat)),v4]/\i<=ws.length/\Rep ls b (n / b^(N-k)) ws[i]?/\L<=L'/\L'<=1000/\TailsAt C H2 p la b ls ws L'/\Same (aw [la] H) (aw [la] H2)/\NR la H H2) ⟨none,ws.length,L,?_,Nat.le_refl _,?_,Nat.le_refl _,hL,TA,Same.refl _,NR.refl _ _⟩ ?_ ?_⟩
  ·rw[Nat.sub_zero,Nat.div_eq_of_lt hnN,Nat.zero_mul];rfl
  ·rw[Nat.sub_zero,Nat.div_eq_of_lt hnN,List.getElem?_eq_none (Nat.le_refl _)];exact .inl ⟨rfl,rfl⟩
  ·rintro k σ H2 hk ⟨v4,i,L',rfl,hi,R,hLL,hL',TA2,m2,nr2⟩;have hkN:k<N:=by omega
   obtain⟨t,ht⟩:∃t,N-k=t+1:=⟨N-k-1,by omega⟩
   have et:N-1-k=t:=by omega
   have hfk:=zbm b2 hN hkN;rw[et]at hfk;rw[ht]at R ⊢;have hnx:=zbk (b:=b) (n:=n) (t:=t) (by omega);have hcb:n / b^t % b<b:=Nat.mod_lt _ (by omega);generalize hc:n / b^t % b=c at hfk hnx hcb;have hf2:=m2 _ _ hf;have hfH2:=zL _ _ _ _ hf2;obtain⟨dx2,sa2,hp2⟩:=TA2.obj;have hat:atI ((figs b n).map V.int) (0+(k:Int))=some (V.int (c:Nat)):=by rw[Int.zero_add];exact yV (by rw[List.getElem?_map,hfk];rfl)
   refine⟨_,rfl,_,rfl,p,dx2,_,rfl,hp2,Wc _ _ _ _,_,rfl,_,rfl,_,rfl,fa,_,_,_,rfl,rfl,SqL.of hfH2,hat,_,rfl,fa,_,rfl,.inl (SqL.of hfH2),_,rfl,_,_,rfl,rfl,_,_,rfl,rfl,?_⟩;refine⟨p,la,b,ls,ws,L',i,c,t,?_,TA2,G,hL',by omega,hi,by omega,λL3 H3 hL3 TA3 m3 nr3 hmx=>?_⟩
   ·rw[List.length_map,hN];show [V.ref p,V.int i,V.int c,V.int ((N:Int)-(0+(k:Int))-1)]=_;rw[show ((N:Int)-(0+(k:Int))-1)=(t:Int) by omega]
   have hL3':L3<=1000:=by omega
   have m23:=m2.trans m3;have nr23:=nr2.trans m2 nr3;have hf3:=zL _ _ _ _ (m23 _ _ hf);refine⟨_,_,rfl,rfl,?_⟩;have eum:=Xv G.ne b2 R t (s:=c) (by omega);rw[<-hnx]at eum;obtain⟨dx3,sa3,srs3,z3,q1,q2,q3,q4,q5⟩:=zd9 TA3 G hi hcb;refine⟨_,rfl,p,C,dx3,_,_,rfl,q1,zQ.cl,zQ.n_steps,yS _ _ _ _,_,rfl,sa3,_,_,_,rfl,rfl,SqL.of q2,q3,_,rfl,_,rfl,fa,_,_,_,rfl,rfl,SqL.of hf3,hat,z3.1,_,_,_,rfl,rfl,SqL.of q4,q5,?_⟩;rcases zdA G hi R hcb with ⟨j,e1,e2,e3⟩ | ⟨e1,e2,e3⟩
   ·rw[e1];refine⟨_,rfl,rfl,_,rfl,yr ⟨some (.int (0+(k:Int))),j,L3,?_,e2,?_,by omega,hL3',TA3,m23,nr23⟩⟩
    ·rw[show N-(k+1)=t by omega,<-eum];show [_,_,_,some (V.int ((many (gd ls b) (n / b^(t+1)*b^(t+1)):Nat)+(under ls b t ws[i]? c:Nat):Int)),_]=[_,_,_,some (V.int ((many (gd ls b) (n / b^(t+1)*b^(t+1))+under ls b t ws[i]? c:Nat):Int)),_]
     rw[Int.natCast_add]
    ·rw[show N-(k+1)=t by omega,hnx];exact e3
   ·rw[e1];refine⟨_,rfl,rfl,_,rfl,ym ⟨_,rfl,?_⟩⟩;have q:=kk L3 H3 (by omega) TA3 m23 nr23 hL3';rw[<-hnx]at e2 e3;have ebad:=zfg G.ne b2 e2 e3 t (r:=n % b^t) (Nat.le_of_lt (Nat.mod_lt _ (Nat.pow_pos (by omega))));rw[Nat.mul_comm,Nat.div_add_mod,Nat.mul_comm]at ebad;rw[ebad,<-eum,Int.natCast_add]at q;exact q
  ·rintro σ H2 ⟨v4,i,L',rfl,hi,R,hLL,hL',TA2,m2,nr2⟩;refine⟨_,rfl,?_⟩;have q:=kk L' H2 hLL TA2 m2 nr2 hL';rw[Int.toNat_natCast,Nat.sub_self,Nat.pow_zero,Nat.div_one,Nat.mul_one];exact q
end
theorem LT.off(h:LT T H)(hla:H la=some (.lst xs))(m:Same (aw [la] H) (aw [la] H')):LT T H':=by
 have go:∀c o,c≠la->H c=some o->H' c=some o:=λc o hc e=>by
  have hc':c∉[la]:=by simpa using hc
  have:=m c o (by rw[zT hc'];exact e);rwa[zT hc']at this
 have n0:=Ne.symm (h.lst hla);rcases h with h | ⟨c,h1,h2⟩
 ·exact .inl (go _ _ n0 h)
 ·refine .inr ⟨c,go _ _ n0 h1,go _ _ (λz=>?_) h2⟩;rw[z,hla]at h2;cases h2
theorem JS{α:Type}{f:α->V}(h:∀a,f a=V.int 1):∀l:List α,(List.replicate l.length [V.int 1]).flatten=l.map f
 |[]=>rfl
 |a::l=>by rw[List.length_cons,List.replicate_succ,List.flatten_cons,JS h l,List.map_cons,h a];rfl
section
variable {P:Program} {w:World} {K:W.Frag} {mg:Str->Option Value} {base:Heap} {T0 C:Addr}
def We(T0 C:Addr):Sp:=λvs H Q _=>Ex6 λp dx r b bl zs=>vs=[.ref p,.ref r]/\H p=some (.ins C dx [])/\RuleAt H r b bl zs/\GoodRule b (zs.map (·.2))/\LT T0 H /\
 ∀la ws H',TailsAt C H' p la b (zs.map (·.2)) ws 1->GoodT b (zs.map (·.2)) ws->(∀c o,c≠p->c≠T0->H c=some o->H' c=some o)->LT T0 H'->H la=none->(Ex2 λdx sa=>H' p=some (.ins C dx (Yb b ws.length sa la))/\H sa=none/\∀c o,H c=some o->NoRef H' la c/\NoRef H' sa c)->Q .non H'
theorem jt:zE ["self","rule","stands"] ["self","rule"] (zu yI):={}
theorem zex(D:Mt K C "Tails.__init__" "__init__" yI Ao f fd)(Zj:Df K mg "stands_of" yp ["bad"] f1 fd1)(Xf:FnOk P w K mg base CX0 6 f1 fd1 ["bad"] (X7 T0))(Zx:Df K mg "all_steps" vW Ay f2 fd2)(Xl:FnOk P w K mg base CX0 6 f2 fd2 Ay Wx)(xU:Df K mg "lacks_all" wY Ac f3 fd3)(ww:FnOk P w K mg base CX0 2 f3 fd3 Ac tX)(zQ:ClT K mg C)(T:Blt mg):FnOk P w K mg base CX0 7 f fd Ao (We T0 C):=by
 refine D.fn.ok jt (λvs H Q E h=>?_) (λcdv A outer s H vs Q E hr h=>?_)
 ·obtain⟨p,dx,r,b,bl,zs,rfl,_⟩:=h;rfl
 ·obtain⟨p,dx,r,b,bl,zs,rfl,hp,R,g,hT,kk⟩:=h;have h4:zs.length<=4:=by have:=g.len;rwa[List.length_map]at this
  have gz:∀z∈zs,z.2≠[]/\z.2.length<=4:=λz hz=>⟨(g.st _ (List.mem_map.mpr ⟨z,hz,rfl⟩)).ne,(g.st _ (List.mem_map.mpr ⟨z,hz,rfl⟩)).len⟩
  have npT:p≠T0:=λz=>by
   rw[z]at hp;rcases hT with h | ⟨c,h,_⟩
   ·rw[h]at hp;cases hp
   ·rw[h]at hp;cases hp
  refine xm ?_;intro XX;let q1:Sq XX ((zq yI).drop 4):=⟨_,zz (jJ (pv 0) (yc (zf (zO vQ (zO zeq (yc (zf zy zj)) (zA (xZ K) (by rfl) T.n_len PySem.boot_len (zf (pv 2) zj))) (yc (zf (zeB (wC (zK xU ww (hr.mono (by decide)) (zf (zR (vB K) (pv 1) zy (λ_ _=>rfl)) (zf (yc (zf zy zj)) zj)))) zy zy) zj))) zj)) rfl)⟩
  let q2:Sq XX ((zq yI).drop 3):=⟨_,zp (jJ (pv 0) (zK Zx Xl (hr.mono (by decide)) (zf (pv 1) (zf (pv 2) zj))) rfl) q1.p⟩
  let q3:Sq XX ((zq yI).drop 2):=⟨_,zp (jJ (pv 0) (zA (xZ K) (by rfl) T.n_len PySem.boot_len (zf (pv 2) zj)) rfl) q2.p⟩
  let q4:Sq XX ((zq yI).drop 1):=⟨_,zp (jJ (pv 0) (zR (vB K) (pv 1) zy (λ_ _=>rfl)) rfl) q3.p⟩
  refine⟨_,(zp (zG (i:=2) jt.nd rfl (Or.inl rfl) (zK Zj Xf (hr.mono (by decide)) (zf (zR (vB K) (pv 1) zy (λ_ _=>rfl)) zj))) q4.p),?_⟩;refine⟨_,rfl,r,_,_,V.ref bl,rfl,rfl,SqT.of R.tu,rfl,bl,zs,rfl,R.li,R.st,h4,gz,hT,λDd ws H1 hDn hD hws SL h13 mL hT1=>?_⟩;have R1:RuleAt H1 r b bl zs:=⟨mL _ _ (hT.tup R.tu) R.tu,mL _ _ (hT.lst R.li) R.li,λz hz=>mL _ _ (hT.lst (R.st z hz)) (R.st z hz)⟩
  have hp1:=mL _ _ npT hp;have rp:r≠p:=uf R1.tu hp1 (λz=>nomatch z);have lp:∀{c:Addr} {xs:List V},H1 c=some (.lst xs)->c≠p:=λh=>uf h hp1 (λz=>nomatch z);refine⟨_,rfl,r,_,_,V.int b,rfl,rfl,SqT.of R1.tu,rfl,_,rfl,p,C,dx,_,rfl,hp1,zQ.cl,zQ.n_base,(by show 0<1000;decide),?_⟩;refine⟨_,rfl,Dd,_,rfl,.inl (SqL.of (by rw[zr (lp hD)];exact hD)),_,rfl,p,C,dx,_,rfl,zg,zQ.cl,zQ.n_outset,(by show 1<1000;decide),?_⟩;rw[zcT,List.length_map];generalize hH3:upd H1 p (.ins C dx (zZ "outset" (.int (ws.length:Nat)) (zZ "base" (.int b) [])))=H3;have m3:∀c o,c≠p->H1 c=some o->H3 c=some o:=λc o hc e=>by rw[<-hH3,zr hc];exact e
  have hp3:H3 p=some (.ins C dx (zZ "outset" (.int (ws.length:Nat)) (zZ "base" (.int b) []))):=by rw[<-hH3,zg]
  have R3:RuleAt H3 r b bl zs:=⟨m3 _ _ rp R1.tu,m3 _ _ (lp R1.li) R1.li,λz hz=>m3 _ _ (lp (R1.st z hz)) (R1.st z hz)⟩
  refine⟨_,rfl,_,rfl,r,b,bl,zs,Dd,ws,rfl,R3,g,m3 _ _ (lp hD) hD,λz hz=>m3 _ _ (lp (hws z hz).2.1) (hws z hz).2.1,SL,h13,λsa srs H4 hsa m4 hsal hsrs hsr2=>?_⟩;have hp4:=m4 _ _ hp3;have len2:(zZ "outset" (.int (ws.length:Nat)) (zZ "base" (.int b) [])).length<=2:=Nat.le_trans (xJ _ _ _) (Nat.succ_le_succ (xJ _ _ _));refine⟨_,rfl,p,C,dx,_,rfl,hp4,zQ.cl,zQ.n_steps,by omega,?_⟩;generalize hH5:upd H4 p (.ins C dx (zZ "steps" (.ref sa) (zZ "outset" (.int (ws.length:Nat)) (zZ "base" (.int b) []))))=H5;have m5:∀c o,c≠p->H4 c=some o->H5 c=some o:=λc o hc e=>by rw[<-hH5,zr hc];exact e
  have hp5:H5 p=some (.ins C dx (zZ "steps" (.ref sa) (zZ "outset" (.int (ws.length:Nat)) (zZ "base" (.int b) [])))):=by rw[<-hH5,zg]
  have lp4:∀{c:Addr} {xs:List V},H4 c=some (.lst xs)->c≠p:=λh=>uf h hp4 (λz=>nomatch z);have R4:=R3.same m4;have R5:RuleAt H5 r b bl zs:=⟨m5 _ _ (uf R4.tu hp4 (λz=>nomatch z)) R4.tu,m5 _ _ (lp4 R4.li) R4.li,λz hz=>m5 _ _ (lp4 (R4.st z hz)) (R4.st z hz)⟩
  have hD5:H5 Dd=some (.lst (ws.map λz=>V.ref z.1)):=m5 _ _ (lp4 (m4 _ _ (m3 _ _ (lp hD) hD))) (m4 _ _ (m3 _ _ (lp hD) hD));refine⟨(by show 1<=sizeLine;decide),λq1 n1=>?_⟩;refine⟨_,rfl,Dd,_,rfl,.inl (SqL.of (zm n1 _ _ hD5)),?_⟩;rw[List.length_map];refine⟨q1,_,_,rfl,rfl,zg,by omega,by omega,?_,λq2 n2=>?_⟩
  ·show 1*(ws.length:Int).toNat<=sizeLine;exact Nat.le_trans (show 1*(ws.length:Int).toNat<=13 by omega) (by decide)
  have s1:=zm n1 (o:=.lst [V.int 1]);have s2:=s1.trans (zm n2 (o:=.lst (List.replicate (ws.length:Int).toNat [V.int 1]).flatten));have R6:=R5.same s2;refine⟨_,rfl,r,_,_,V.ref bl,rfl,rfl,SqT.of R6.tu,rfl,(by show 1<=sizeLine;decide),λq3 n3=>?_⟩;have s3:=s2.trans (zm n3 (o:=.lst [V.int 0]));have R7:=R5.same s3;refine⟨bl,q3,zs,[0],rfl,R7.li,R7.st,zg,by omega,by decide,λz hz=>⟨(gz z hz).1,Nat.le_trans (gz z hz).2 (by decide)⟩,λH8 s8=>⟨_,rfl,?_⟩⟩;have s38:=s3.trans s8;have fin:∀x:Int,x=((ux (zs.map (·.2)) b 0:Nat):Int)->∀q4,H8 q4=none->q2≠q4->∀q5,upd H8 q4 (.lst [V.int x]) q5=none->∀q6,upd (upd H8 q4 (.lst [V.int x])) q5 (.lst ((List.replicate (ws.length:Int).toNat [V.int 1]).flatten++[V.int x])) q6=none ->
    Q .non (upd (upd (upd (upd H8 q4 (.lst [V.int x])) q5 (.lst ((List.replicate (ws.length:Int).toNat [V.int 1]).flatten++[V.int x]))) q6 (.lst [V.ref q5])) p (.ins C dx (zZ "layers" (.ref q6) (zZ "steps" (.ref sa) (zZ "outset" (.int (ws.length:Nat)) (zZ "base" (.int b) [])))))):=by
   intro x hx q4 n4 _ q5 n5 q6 n6;have t4:=zm n4 (o:=.lst [V.int x]);have t5:=zm n5 (o:=.lst ((List.replicate (ws.length:Int).toNat [V.int 1]).flatten++[V.int x]));have t6:=zm n6 (o:=.lst [V.ref q5]);have t46:=t4.trans (t5.trans t6);have s56:=s38.trans t46;have hp9:=s56 _ _ hp5;have f3:∀c,H3 c=none->H c=none:=λc h3'=>by
    have h1':H1 c=none:=by
     rw[<-hH3]at h3';by_cases z:c=p
     ·subst z;rw[zg]at h3';cases h3'
     ·rwa[zr z]at h3'
    cases e:H c with
    |none=>rfl
    |some o=>
     by_cases z:c=T0
     ·subst z;exact absurd h1' (by
       rcases hT1 with h | ⟨d,h,_⟩
       ·rw[h];simp
       ·rw[h];simp)
     ·rw[mL c o z e]at h1';cases h1'
   have f5:∀c,H5 c=none->H c=none:=λc hc=>by
    have h5:H4 c=none:=by
     rw[<-hH5]at hc;by_cases z:c=p
     ·subst z;rw[zg]at hc;cases hc
     ·rwa[zr z]at hc
    exact f3 c (m4.free h5)
   have q6H5:H5 q6=none:=(s38.trans (t4.trans t5)).free n6;have q6p:q6≠p:=λz=>by rw[z,hp5]at q6H5;cases q6H5
   have np5:q5≠q6:=λz=>by rw[<-z,zg]at n6;cases n6
   generalize hH9:upd (upd (upd H8 q4 (.lst [V.int x])) q5 (.lst ((List.replicate (ws.length:Int).toNat [V.int 1]).flatten++[V.int x]))) q6 (.lst [V.ref q5])=H9 at t6 t46 s56 hp9;have hq6:H9 q6=some (.lst [V.ref q5]):=by rw[<-hH9,zg]
   have hq5:H9 q5=some (.lst ((List.replicate (ws.length:Int).toNat [V.int 1]).flatten++[V.int x])):=by rw[<-hH9,zr np5,zg]
   have q5p:q5≠p:=uf hq5 hp9 (λz=>nomatch z);have off:∀c o,c≠p->H5 c=some o->aw [q6] (upd H9 p (.ins C dx (Yb b ws.length sa q6))) c=some o:=λc o hc e=>by
    have hcq:c≠q6:=zx e q6H5;rw[zT (by simpa using hcq),zr hc];exact s56 c o e
   have sa4:H4 sa=some (.lst (srs.map λz=>V.ref z.1)):=hsal;have l1:∀{c:Addr} {xs:List V},H4 c=some (.lst xs)->H5 c=some (.lst xs)/\c≠p:=λh=>⟨m5 _ _ (lp4 h) h,lp4 h⟩
   refine kk q6 (ws.map (·.2)) _ ⟨⟨dx,sa,srs,?_,off _ _ (l1 hsal).2 (l1 hsal).1,λz hz=>off _ _ (l1 (hsrs z hz).2).2 (l1 (hsrs z hz).2).1,hsr2⟩,⟨[(q5,wz (zs.map (·.2)) (ws.map (·.2)) b 0)],by rw[zr q6p];exact hq6,λz hz=>?_,rfl⟩,Nat.le_refl _⟩ ⟨g,SL,by rw[List.length_map];exact h13⟩ (λc o hc hcT e=>?_) ?_ (f5 _ q6H5) ⟨dx,sa,by rw[zg,List.length_map];rfl,f3 _ hsa,λc o e=>⟨λxs hx=>?_,λxs hx=>?_⟩⟩
   ·rw[zT (by simpa using Ne.symm q6p),List.length_map];exact zg
   ·have e:z=(q5,wz (zs.map (·.2)) (ws.map (·.2)) b 0):=by simpa using hz
    subst e;rw[zT (by simpa using np5),zr q5p,hq5];congr 2;unfold wz;rw[List.map_append,hx,Int.toNat_natCast,List.map_map,List.map_map];rw[JS (λ_=>rfl) ws];rfl
   ·rw[zr hc];have h1:=mL c o hcT e;exact s56 c o (m5 c o hc (m4 c o (m3 c o hc h1)))
   ·have a1:LT T0 H3:=by
     rcases hT1 with h | ⟨d,h1,h2⟩
     ·exact .inl (m3 _ _ (Ne.symm npT) h)
     ·exact .inr ⟨d,m3 _ _ (Ne.symm npT) h1,m3 _ _ (uf h2 hp1 (λz=>nomatch z)) h2⟩
    have a2:=a1.same m4;have a3:LT T0 H5:=by
     rcases a2 with h | ⟨d,h1,h2⟩
     ·exact .inl (m5 _ _ (Ne.symm npT) h)
     ·exact .inr ⟨d,m5 _ _ (Ne.symm npT) h1,m5 _ _ (uf h2 hp4 (λz=>nomatch z)) h2⟩
    have a4:=a3.same s56;rcases a4 with h | ⟨d,h1,h2⟩
    ·exact .inl (by rw[zr (Ne.symm npT)];exact h)
    ·exact .inr ⟨d,by rw[zr (Ne.symm npT)];exact h1,by rw[zr (uf h2 hp9 (λz=>nomatch z))];exact h2⟩
   ·rw[zr q6p,hq6]at hx;injection hx with hx
    injection hx with hx
    rw[<-hx,List.mem_singleton];intro z;injection z with z
    have q5n:H5 q5=none:=(s38.trans t4).free n5;rw[z,f5 _ q5n]at e;cases e
   ·rw[zr (l1 hsal).2,s56 _ _ (l1 hsal).1]at hx;injection hx with hx
    injection hx with hx
    rw[<-hx];intro hm;obtain⟨z,hz,ez⟩:=List.mem_map.mp hm;injection ez with ez
    rw[<-ez,f3 _ (hsrs z hz).1]at e;cases e
  have hq2:H8 q2=some (.lst (List.replicate (ws.length:Int).toNat [V.int 1]).flatten):=s8 _ _ (zm n3 _ _ zg);have lenr:(List.replicate (ws.length:Int).toNat [V.int 1]).flatten.length<=13:=by rw[Int.toNat_natCast,JS (f:=λ_=>V.int 1) (λ_=>rfl) ws,List.length_map];exact h13
  have len3:(zZ "steps" (.ref sa) (zZ "outset" (.int (ws.length:Nat)) (zZ "base" (.int b) []))).length<=3:=Nat.le_trans (xJ _ _ _) (Nat.succ_le_succ len2);have tail:∀x:Int,x=((ux (zs.map (·.2)) b 0:Nat):Int)->∀q4,H8 q4=none->Ex4 λl b' xs zs'=>V.ref q2=V.ref l/\V.ref q4=V.ref b'/\upd H8 q4 (.lst [V.int x]) l=some (.lst xs)/\upd H8 q4 (.lst [V.int x]) b'=some (.lst zs')/\xs.length+zs'.length<=sizeLine/\∀q5,upd H8 q4 (.lst [V.int x]) q5=none ->
    1<=sizeLine/\∀q6,upd (upd H8 q4 (.lst [V.int x])) q5 (.lst (xs++zs')) q6=none->∃v,some (some (V.ref p))=some (some v)/\Ex4 λa C' dx' fs=>v=.ref a/\upd (upd (upd H8 q4 (.lst [V.int x])) q5 (.lst (xs++zs'))) q6 (.lst [V.ref q5]) a=some (.ins C' dx' fs)/\Cls K C'/\NoAttr K C' "layers"/\fs.length<1000/\Q .non (upd (upd (upd (upd H8 q4 (.lst [V.int x])) q5 (.lst (xs++zs'))) q6 (.lst [V.ref q5])) a (.ins C' dx' (zZ "layers" (.ref q6) fs))):=by
   intro x hx q4 n4;have nq:q2≠q4:=zx hq2 n4;refine⟨q2,q4,_,_,rfl,rfl,by rw[zr nq];exact hq2,zg,Nat.le_trans (Nat.add_le_add lenr (Nat.le_refl 1)) (by decide),λq5 n5=>⟨(by decide),λq6 n6=>?_⟩⟩;have hp8:=s38 _ _ hp5;exact⟨_,rfl,p,C,dx,_,rfl,(zm n4).trans ((zm n5).trans (zm n6)) _ _ hp8,zQ.cl,zQ.n_layers,by omega,fin x hx q4 n4 nq q5 n5 q6 n6⟩
  cases hlk:lacks (zs.map (·.2)) [0] with
  |true=>
   refine ym ?_;refine⟨(by show 1<=sizeLine;decide),λq4 n4=>?_⟩;exact tail 1 (by unfold ux;rw[hlk];rfl) q4 n4
  |false=>
   refine yr ?_;refine⟨(by show 1<=sizeLine;decide),λq4 n4=>?_⟩;exact tail 0 (by unfold ux;rw[hlk];rfl) q4 n4
end
theorem zcr(nx:H x=none)(ndx:H dx=none):Same H (upd (upd H dx (.own x)) x (.ins C dx [])):=λb o e=>by
 rw[zr (zx e nx),zr (zx e ndx)];exact e
theorem TailsAt.la{C p la b:Nat}(TA:TailsAt C H p la b ls ws L):∃xs,H la=some (.lst xs):=let ⟨_,h,_⟩:=TA.ly;⟨_,h⟩
section
variable {P:Program} {w:World} {K:W.Frag} {mg:Str->Option Value} {base:Heap} {T0 C:Addr}
def zhi(T0 C:Addr)(b:Nat)(ls:ZA)(H:Hp)(x:Addr)(H':Hp):Prop:=∃la ws,TailsAt C H' x la b ls ws 1/\GoodT b ls ws/\SameL T0 H H'/\LT T0 H'/\H la=none/\H x=none/\∃dx sa,H' x=some (.ins C dx (Yb b ws.length sa la))/\H sa=none/\∀c o,H c=some o->NoRef H' la c/\NoRef H' sa c
theorem zcm(R:RuleAt H r b bl zs)(g:GoodRule b (zs.map (·.2)))(hT:LT T0 H){R':Addr->Hp->Prop}(k:∀x H',zhi T0 C b (zs.map (·.2)) H x H'->R' x H'):
  ∀x dx,H x=none->H dx=none->dx≠x->We T0 C (.ref x::([.ref r]++[])) (upd (upd H dx (.own x)) x (.ins C dx [])) (λv H2=>v=.non/\R' x H2) E0:=by
 intro x dx nx ndx nex;have s0:=zcr (C:=C) nx ndx;refine⟨x,dx,r,b,bl,zs,rfl,zg,R.same s0,g,hT.same s0,λla ws H' TA G fr hT' hla ⟨dx',sa,e1,e2,e3⟩=>⟨rfl,k x H' ⟨la,ws,TA,G,λc o hc e=>fr c o (zx e nx) hc (s0 c o e),hT',s0.free hla,nx,dx',sa,e1,s0.free e2,λc o e=>e3 c o (s0 _ _ e)⟩⟩⟩
end
theorem U4(g:GoodRule b ls):Xa (.tuple [.int b,.list (ls.map λl=>.list (l.map .int))])=true:=by
 have hb:qI (.int b)=true:=decide_eq_true (by have:=g.b2;have:=g.b16;omega);have hs:∀l∈ls,zJ b (.list (l.map .int))=true:=λl hl=>by
  have s:=g.st l hl;have h1:Uk b (.list (l.map .int))=true:=by
   show (l.map PyData.int).all (WF b)=true;rw[List.all_eq_true];intro x hx;obtain⟨i,hi,rfl⟩:=List.mem_map.mp hx;exact decide_eq_true (s.fig i hi)
  have h2:(YL (.list (l.map .int))).length=l.length:=List.length_map ..;unfold zJ;rw[h1,h2,Bool.true_and];exact decide_eq_true ⟨List.length_pos_iff.mpr s.ne,s.len⟩
 have hi:(ls.map λl=>PyData.list (l.map .int)).map yE=ls:=by
  rw[List.map_map]
  conv=>rhs;rw[<-List.map_id ls]
  refine List.map_congr_left λl _=>?_;show (l.map PyData.int).map qD=l;rw[List.map_map]
  conv=>rhs;rw[<-List.map_id l]
  rfl
 show (qI (.int b) && zdd b (.list (ls.map λl=>.list (l.map .int))))=true;rw[hb,Bool.true_and];show (decide ((ls.map λl=>PyData.list (l.map .int)).length<=4) && ((ls.map λl=>PyData.list (l.map .int)).all (zJ b) && qg ((ls.map λl=>PyData.list (l.map .int)).map yE)))=true;rw[hi,List.length_map,decide_eq_true g.len,Bool.true_and,Bool.and_eq_true];refine⟨?_,?_⟩
 ·rw[List.all_eq_true];intro x hx;obtain⟨l,hl,rfl⟩:=List.mem_map.mp hx;exact hs l hl
 ·unfold qg;rw[List.all_eq_true];intro k hk;have hk:=List.mem_range.mp hk;rw[List.getD_eq_getElem?_getD,List.getD_eq_getElem?_getD,List.getElem?_eq_getElem (show k<ls.length by omega),List.getElem?_eq_getElem (show k+1<ls.length by omega)];exact List.pairwise_iff_getElem.mp g.up k (k+1) (by omega) (by omega) (by omega)
theorem RuleAt.th(R:RuleAt H r b bl zs):ThAt H (.tuple [.int b,.list ((zs.map (·.2)).map λl=>.list (l.map .int))]) (.ref r):=by
 rw[ThAt];refine⟨r,_,rfl,R.tu,?_⟩;rw[ThsAt];refine⟨_,_,rfl,by rw[ThAt],?_⟩;rw[ThsAt];refine⟨_,_,rfl,?_,by rw[ThsAt]⟩;rw[ThAt];refine⟨bl,_,rfl,R.li,?_⟩;rw[List.map_map];exact ThsAt.map λz hz=>ThAt.ints (R.st z hz)
theorem RuleAt.thing(R:RuleAt H r b bl zs)(g:GoodRule b (zs.map (·.2))):∃d,ThAt H d (.ref r)/\Xa d=true/\Fit 3 5000 d:=by
 have h:=R.th;refine⟨_,h,U4 g,Th.fit ?_ h⟩;have hl:=g.len;rw[List.length_map]at hl;have b16:=g.b16;have hz:∀z∈zs,Th H 1 404 (.ref z.1):=λz hz=>by
  have s:=g.st _ (List.mem_map.mpr ⟨z,hz,rfl⟩);refine Th.ints (R.st z hz) (λi hi=>by have:=s.fig i hi;omega) (by have:=s.len;omega)
 have hb:Th H 2 1620 (.ref bl):=Th.lst R.li (λv hv=>by
  obtain⟨z,hz',rfl⟩:=List.mem_map.mp hv;exact hz z hz') (by rw[List.length_map];omega)
 refine Th.tup (k:=2) (n:=1620) R.tu (λv hv=>?_) (by show 1621*2<=5000;decide);simp only[List.mem_cons,List.not_mem_nil,or_false]at hv;rcases hv with rfl | rfl
 ·exact Th.int (by omega) (by decide)
 ·exact hb
theorem U0(h:zJ b d=true):∃l:List Int,d=.list (l.map .int)/\l≠[]/\l.length<=4/\∀i∈l,0<=i/\i<b:=by
 unfold zJ at h;rw[Bool.and_eq_true]at h;obtain⟨h1,h2⟩:=h;have h2:=of_decide_eq_true h2;cases d with
 |list xs=>
  have h1:xs.all (WF b)=true:=h1;rw[List.all_eq_true]at h1;have h2:1<=xs.length/\xs.length<=4:=h2;have hx:∀x∈xs,x=.int (qD x)/\0<=qD x/\qD x<b:=λx hx=>by
   have q:=h1 x hx;cases x with
   |int i=>exact⟨rfl,of_decide_eq_true q⟩
   |_=>cases q
  refine⟨xs.map qD,?_,λz=>?_,by rw[List.length_map];exact h2.2,λi hi=>?_⟩
  ·rw[List.map_map]
   conv=>lhs;rw[<-List.map_id xs]
   exact congrArg PyData.list (List.map_congr_left λx hx'=>(hx x hx').1)
  ·have:xs.length=0:=by rw[<-List.length_map (f:=qD),z];rfl
   omega
  ·obtain⟨x,hx',rfl⟩:=List.mem_map.mp hi;exact (hx x hx').2
 |_=>cases h1
theorem QR{H:Hp}{b:Int}:∀{xs:List PyData} {ys:List V},ThsAt H xs ys->xs.all (zJ b)=true->∃zs:ZB,ys=zs.map (λz=>V.ref z.1)/\xs.map yE=zs.map (·.2)/\(∀z∈zs,H z.1=some (.lst (z.2.map V.int)))/\∀z∈zs,z.2≠[]/\z.2.length<=4/\∀i∈z.2,0<=i/\i<b
 |[],ys,h,_=>by rw[ThsAt]at h;subst h;exact⟨[],rfl,rfl,by simp,by simp⟩
 |d::ds,ys,h,g=>by
  rw[ThsAt]at h;obtain⟨y,us,rfl,h1,h2⟩:=h;rw[List.all_cons,Bool.and_eq_true]at g;obtain⟨zs,rfl,e,h3,h4⟩:=QR h2 g.2;obtain⟨l,rfl,l1,l2,l3⟩:=U0 g.1;rw[ThAt]at h1;obtain⟨a,vs,rfl,h5,h6⟩:=h1;have ev:vs=l.map V.int:=by
   clear l1 l2 l3 h5 g
   induction l generalizing vs with
   |nil=>rw[List.map_nil,ThsAt]at h6;exact h6
   |cons i l ih=>
    rw[List.map_cons,ThsAt]at h6;obtain⟨y,us,rfl,q1,q2⟩:=h6;rw[ThAt]at q1;rw[q1,ih us q2];rfl
  subst ev;refine⟨(a,l)::zs,rfl,?_,λz hz=>?_,λz hz=>?_⟩
  ·rw[List.map_cons,List.map_cons,e];congr 1;show (l.map PyData.int).map qD=l;rw[List.map_map]
   conv=>rhs;rw[<-List.map_id l]
   rfl
  ·rcases List.mem_cons.mp hz with rfl | hz
   ·exact h5
   ·exact h3 z hz
  ·rcases List.mem_cons.mp hz with rfl | hz
   ·exact⟨l1,l2,l3⟩
   ·exact h4 z hz
theorem zdG:∀{ls:ZA},qg ls=true->ls.Pairwise λx y=>HT.lexLt x y=true:=by
 intro ls h;unfold qg at h;rw[List.all_eq_true]at h;have nxt:∀k,(hk:k+1<ls.length)->HT.lexLt (ls[k]'(by omega)) ls[k+1]=true:=λk hk=>by
  have q:=h k (List.mem_range.mpr (by omega));rwa[List.getD_eq_getElem?_getD,List.getD_eq_getElem?_getD,List.getElem?_eq_getElem (show k<ls.length by omega),List.getElem?_eq_getElem hk]at q
 refine List.pairwise_iff_getElem.mpr λi j hi hj hij=>?_;obtain⟨n,rfl⟩:∃n,j=i+1+n:=⟨j-(i+1),by omega⟩
 induction n with
 |zero=>exact nxt i hj
 |succ n ih=>exact HT.wQ _ _ _ (ih (by omega) (by omega)) (nxt (i+1+n) hj)
theorem zfB(h:ThAt H d v)(hr:Xa d=true):∃r b bl zs,v=.ref r/\RuleAt H r b bl zs/\GoodRule b (zs.map (·.2)):=by
 have go:∀e l,d=.tuple [e,l]->∃r b bl zs,v=.ref r/\RuleAt H r b bl zs/\GoodRule b (zs.map (·.2)):=by
  rintro e l rfl;have hr:(qI e && zdd (qD e) l)=true:=hr;rw[Bool.and_eq_true]at hr;obtain⟨h1,h2⟩:=hr;cases e with
  |int i=>
   have h1:=of_decide_eq_true h1;cases l with
   |list xs=>
    have h2:(decide (xs.length<=4) && (xs.all (zJ i) && qg (xs.map yE)))=true:=h2;rw[Bool.and_eq_true,Bool.and_eq_true]at h2;obtain⟨h3,h4,h5⟩:=h2;have h3:=of_decide_eq_true h3;obtain⟨a,ys,rfl,h6,h7⟩:=h;obtain⟨y,us,rfl,h8,h7⟩:=h7;obtain⟨z,ws,rfl,h9,h7⟩:=h7;subst h7 h8;obtain⟨bl,vs,rfl,g1,g2⟩:=h9;obtain⟨zs,rfl,e,g3,g4⟩:=QR g2 h4;rw[e]at h5;have hn:((i.toNat:Nat))=i:=by omega
    refine⟨a,i.toNat,bl,zs,rfl,⟨by rw[hn];exact h6,g1,g3⟩,⟨by omega,by omega,?_,λl hl=>?_,zdG h5⟩⟩
    ·rw[<-e,List.length_map];exact h3
    ·obtain⟨z,hz,rfl⟩:=List.mem_map.mp hl;obtain⟨q1,q2,q3⟩:=g4 z hz;exact⟨q1,q2,λf hf=>by rw[hn];exact q3 f hf⟩
   |_=>cases h2
  |_=>cases h1
 cases d with
 |tuple xs=>
  match xs,hr with
  |[e,l],_=>exact go e l rfl
  |[],hr=>cases hr
  |[_],hr=>cases hr
  |_::_::_::_,hr=>cases hr
 |_=>cases hr
def U7:PyData->Bool
 |.int i=>decide (0<=i)
 |_=>false
section
variable {P:Program} {w:World} {K:W.Frag} {mg:Str->Option Value} {base:Heap}
def XJ:Sp:=λvs H Q _=>Ex2 λv d=>vs=[v]/\ThAt H d v/\Q (.bl (U7 d)) H
theorem Jx:zE ["thing"] ["thing"] (zu ju):={}
theorem JG(D:Df K mg "is_number" ju Aa f fd)(xu:Df K mg "is_whole" uH Aa f1 fd1)(T:Blt mg):FnOk P w K mg base CX0 2 f fd Aa XJ:=by
 have j9:FnOk P w K mg base CX0 1 f1 fd1 Aa jb:=Yl xu T;refine D.fn.ok Jx (λvs H Q E h=>?_) (λcdv A outer s H vs Q E hr h=>?_)
 ·obtain⟨v,d,rfl,_⟩:=h;rfl
 ·obtain⟨v,d,rfl,hd,q⟩:=h;refine⟨_,(zz (zH (qG (zK xu j9 (hr.mono (by decide)) (zf (pv 0) zj)) (qW (ur zeM (pv 0) zy (zV _)))))),?_⟩;refine⟨_,rfl,v,d,rfl,hd,_,rfl,?_⟩;cases hw:WP d with
  |false=>
   have:U7 d=false:=by cases d<;>first | rfl | cases hw
   rw[this]at q;exact yr q
  |true=>
   have e:=Xn hw;generalize qD d=i at e;subst e;rw[ThAt]at hd;subst hd;exact ym ⟨_,rfl,_,_,rfl,rfl,q⟩
def YT(qS:Addr):Sp:=λvs H Q E=>Ex2 λv d=>vs=[v]/\ThAt H d v/\vX d<=100000/\(Xa d=false->∀H',Same H H'->E (.ref qS) none H')/\(Xa d=true->∀H',Same H H'->Q .non H')
theorem Qj:zE ["thing"] ["thing"] (zu qm):={}
theorem Qz(D:Df K mg "check_rule" qm Aa f fd)(Wv:Df K mg "is_rule" jM Aa f1 fd1)(VV:FnOk P w K mg base CX0 6 f1 fd1 Aa UJ)(qEi:VF K mg "NoRule" qS):FnOk P w K mg base (CX1 P w) 7 f fd Aa (YT qS):=by
 refine D.fn.ok1 Qj (λvs H Q E h=>?_) (λcdv A outer s H vs Q E hr h=>?_)
 ·obtain⟨v,d,rfl,_⟩:=h;rfl
 ·obtain⟨v,d,rfl,hd,hs,kNo,kOk⟩:=h;refine⟨_,(zz (yP (vP (wC (zK Wv VV (hr.mono (by decide)) (zf (pv 0) zj))))
    (zz (j5 qEi jV rfl (zf qC zj)))
    ye)),?_⟩
  refine⟨_,rfl,v,d,rfl,hd,hs,λH1 m1=>⟨_,rfl,?_⟩⟩;cases hr:Xa d with
  |false=>exact ym ⟨by show 1<=sizeLine;decide,kNo hr _ m1⟩
  |true=>exact yr (kOk hr _ m1)
end
theorem zb5:∀ds:List PyData,ds.length<=PyData.weightAll ds
 |[]=>Nat.zero_le _
 |d::ds=>by rw[PyData.weightAll,List.length_cons];have:=zb5 ds;omega
mutual
theorem zbV:∀d:PyData,vX d<=d.weight
 |.none=>by rw[vX.eq_def];exact Nat.zero_le _
 |.bool _=>by rw[vX.eq_def];exact Nat.zero_le _
 |.int _=>by rw[vX.eq_def];exact Nat.zero_le _
 |.str _=>by rw[vX.eq_def];exact Nat.zero_le _
 |.list xs=>by rw[vX,PyData.weight];have:=zb5 xs;have:=JX xs;omega
 |.tuple xs=>by rw[vX,PyData.weight];have:=zb5 xs;have:=JX xs;omega
 |.dict _=>by rw[vX.eq_def];exact Nat.zero_le _
theorem JX:∀ds:List PyData,Yo ds<=PyData.weightAll ds
 |[]=>by rw[Yo];exact Nat.zero_le _
 |d::ds=>by rw[Yo,PyData.weightAll];have:=zbV d;have:=JX ds;omega
end
end Lw
namespace Lw
open PySem L2 PyProof.Rows
section
variable {P:Program} {w:World} {K:W.Frag} {mg:Str->Option Value} {base:Heap}
def YK(qA:Addr):Sp:=λvs H Q E=>Ex2 λv d=>vs=[v]/\ThAt H d v/\(qI d=false->E (.ref qA) none H)/\(qI d=true->Q .non H)
theorem QC:zE ["thing"] ["thing"] (zu qi):={}
theorem Qn(D:Df K mg "check_base" qi Aa f fd)(qR:Df K mg "is_base" jN Aa f1 fd1)(jU:FnOk P w K mg base CX0 2 f1 fd1 Aa Xe)(qEg:VF K mg "NoBase" qA):FnOk P w K mg base (CX1 P w) 3 f fd Aa (YK qA):=by
 refine D.fn.ok1 QC (λvs H Q E h=>?_) (λcdv A outer s H vs Q E hr h=>?_)
 ·obtain⟨v,d,rfl,_⟩:=h;rfl
 ·obtain⟨v,d,rfl,hd,kNo,kOk⟩:=h;refine⟨_,(zz (yP (vP (wC (zK qR jU (hr.mono (by decide)) (zf (pv 0) zj))))
    (zz (j5 qEg jV rfl (zf qC zj)))
    ye)),?_⟩
  refine⟨_,rfl,v,d,rfl,hd,_,rfl,?_⟩;cases hr:qI d with
  |false=>exact ym ⟨by show 1<=sizeLine;decide,kNo hr⟩
  |true=>exact yr (kOk hr)
def tM(qB:Addr):Sp:=λvs H Q E=>Ex2 λv d=>vs=[v]/\ThAt H d v/\(U7 d=false->E (.ref qB) none H)/\(U7 d=true->Q .non H)
theorem VD:zE ["thing"] ["thing"] (zu wR):={}
theorem Vv(D:Df K mg "check_number" wR Aa f fd)(Zz:Df K mg "is_number" ju Aa f1 fd1)(Xy:FnOk P w K mg base CX0 2 f1 fd1 Aa XJ)(qEh:VF K mg "NoNumber" qB):FnOk P w K mg base (CX1 P w) 3 f fd Aa (tM qB):=by
 refine D.fn.ok1 VD (λvs H Q E h=>?_) (λcdv A outer s H vs Q E hr h=>?_)
 ·obtain⟨v,d,rfl,_⟩:=h;rfl
 ·obtain⟨v,d,rfl,hd,kNo,kOk⟩:=h;refine⟨_,(zz (yP (vP (wC (zK Zz Xy (hr.mono (by decide)) (zf (pv 0) zj))))
    (zz (j5 qEh jV rfl (zf qC zj)))
    ye)),?_⟩
  refine⟨_,rfl,v,d,rfl,hd,_,rfl,?_⟩;cases hr:U7 d with
  |false=>exact ym ⟨by show 1<=sizeLine;decide,kNo hr⟩
  |true=>exact yr (kOk hr)
theorem Wk(h:ThAt H d v)(hb:qI d=true):∃b:Nat,d=.int b/\v=.int b/\2<=b/\b<=16:=by
 cases d with
 |int i=>
  have hb:2<=i/\i<=16:=of_decide_eq_true hb;rw[ThAt]at h;have e:((i.toNat:Nat):Int)=i:=by omega
  exact⟨i.toNat,by rw[e],by rw[h,e],by omega,by omega⟩
 |_=>cases hb
theorem zeo(h:ThAt H d v)(hb:U7 d=true):∃n:Nat,d=.int n/\v=.int n:=by
 cases d with
 |int i=>
  have hb:0<=i:=of_decide_eq_true hb;rw[ThAt]at h;have e:((i.toNat:Nat):Int)=i:=by omega
  exact⟨i.toNat,by rw[e],by rw[h,e]⟩
 |_=>cases hb
def Y5(qA qB:Addr):Sp:=λvs H Q E=>Ex4 λv u d e=>vs=[v,u]/\ThAt H d v/\ThAt H e u/\(qI d=false->E (.ref qA) none H)/\(qI d=true->U7 e=false->E (.ref qB) none H) /\
 ∀b n:Nat,d=.int b->2<=b->b<=16->e=.int n->n<2^900/\∀l H',H l=none->H' l=some (.lst ((figs b n).map V.int))->Same H H'->Q (.ref l) H'
theorem uM:zE ["base","n","backwards","rest"] ["base","n"] (zu yL):={}
theorem Qm(D:Df K mg "figures_of" yL Ai f fd)(jd:Df K mg "check_base" qi Aa f1 fd1)(Yk:FnOk P w K mg base (CX1 P w) 3 f1 fd1 Aa (YK qA))(xV:Df K mg "check_number" wR Aa f2 fd2)(wI:FnOk P w K mg base (CX1 P w) 3 f2 fd2 Aa (tM qB))(T:Blt mg):FnOk P w K mg base (CX1 P w) 4 f fd Ai (Y5 qA qB):=by
 refine D.fn.ok1 uM (λvs H Q E h=>?_) (λcdv A outer s H vs Q E hr h=>?_)
 ·obtain⟨v,u,d,e,rfl,_⟩:=h;rfl
 ·obtain⟨v,u,d,e,rfl,hd,he,kB,kN,kOk⟩:=h;refine xm ?_;intro XX;let q1:Sq XX ((zq yL).drop 5):=⟨_,zz (zH (zbU rfl rfl T.n_list rfl T.n_reversed (pv 2)))⟩
  let q2:Sq XX ((sb (zq yL) 4 true).drop 1):=⟨_,zz (zG (i:=3) uM.nd rfl (Or.inl rfl) (zO Ye (pv 3) (pv 0)))⟩
  let q3:Sq XX ((zq yL).drop 4):=⟨_,zp (X5 PassesOwn.leaving (zN za7 (pv 3) zy (zV _))
    (zp (vh (Wm PySem.F.plainAttrs_list PySem.F.slot_list_append PySem.F.type_list_append uD (pv 2) (zf (zO jy (pv 3) (pv 0)) zj))) q2.p)) q1.p⟩
  let q4:Sq XX ((zq yL).drop 3):=⟨_,zp (zG (i:=3) uM.nd rfl (Or.inl rfl) (zO Ye (pv 1) (pv 0))) q3.p⟩
  let q5:Sq XX ((zq yL).drop 2):=⟨_,zp (zG (i:=2) uM.nd rfl (Or.inl rfl) (yc (zf (zO jy (pv 1) (pv 0)) zj))) q4.p⟩
  let q6:Sq XX ((zq yL).drop 1):=⟨_,zp (vh (Ue xV wI (hr.mono (by decide)) jZ (zf (pv 1) zj))) q5.p⟩
  refine⟨_,(zp (vh (Ue jd Yk (hr.mono (by decide)) jZ (zf (pv 0) zj))) q6.p),?_⟩;refine⟨_,rfl,v,d,rfl,hd,kB,λhb=>?_⟩;refine⟨_,rfl,u,e,rfl,he,kN hb,λhn'=>?_⟩;obtain⟨b,rfl,rfl,h2,h16⟩:=Wk hd hb;obtain⟨n,rfl,rfl⟩:=zeo he hn';obtain⟨hn,k⟩:=kOk b n rfl h2 h16 rfl;refine⟨_,rfl,_,rfl,_,_,rfl,rfl,(by omega),(by decide:1<=sizeLine),λl hl=>?_⟩;refine⟨_,rfl,_,rfl,_,_,rfl,rfl,⟨by omega,by omega⟩,?_⟩;have hlen:=ZZ h2 900 n hn;refine V6 (fun σ H2=>∃(r:Nat) (L:List Int),σ=[some (.int b),some (.int n),some (.ref l),some (.int r)]/\H2 l=some (.lst (L.map V.int))/\Same H H2/\figs b n=ahead b r++L.reverse)
   (fun σ _=>match σ with | [_,_,_,some (.int r)]=>r.toNat | _=>0) ?_ ?_ ?_
  ·refine⟨n / b,[((n % b:Nat))],?_,?_,zm hl,?_⟩
   ·rfl
   ·rw[zg];simp
   ·rw[Ys h2];simp
  ·rintro σ H2 ⟨r,L,rfl,hL,sH,he⟩;refine⟨_,rfl,_,_,rfl,rfl,_,rfl,?_⟩;refine zbP (λh1=>?_) (λh1=>?_)
   ·have hr0:0<r:=by have:=of_decide_eq_true h1;omega
    have hLl:L.length<=901:=by
     have:=congrArg List.length he;rw[List.length_append,List.length_reverse]at this;omega
    refine⟨_,rfl,.inl ⟨rfl,_,SqL.of hL⟩,_,rfl,_,rfl,_,_,rfl,rfl,(by omega),l,_,_,rfl,rfl,hL,by rw[List.length_map];exact Nat.lt_of_le_of_lt hLl (by decide),?_⟩;refine⟨_,rfl,_,rfl,_,_,rfl,rfl,⟨by omega,by omega⟩,?_⟩;refine⟨⟨r / b,L++[((r % b:Nat):Int)],?_,?_,?_,?_⟩,?_⟩
    ·simp
    ·rw[zg];simp
    ·exact λb' o e=>by rw[zr (zx e hl)];exact sH b' o e
    ·rw[he,Uh h2 hr0,List.reverse_append];simp
    ·show (r / (b:Int)).toNat<(r:Int).toNat;have:r / b<r:=Nat.div_lt_self hr0 (by omega);omega
   ·have hr0:r=0:=by
     by_cases z:r=0
     ·exact z
     ·exact absurd (decide_eq_true (by omega)) h1
    subst hr0;refine⟨_,rfl,l,_,rfl,SqL.of hL,λq hq=>?_⟩;have hlq:q≠l:=λz=>by rw[z,hL]at hq;cases hq
    refine k q _ (sH.free hq) ?_ (sH.trans (zm hq));rw[zg,he];simp[ahead]
  ·intro σ H2 Q Q' hq;rintro⟨v,e,i,j,e1,e2,k,e3,q⟩;exact⟨v,e,i,j,e1,e2,k,e3,hq _ _ q⟩
end
theorem TailsAt.updI{C tl la b p CS dxp:Nat}(TA:TailsAt C H tl la b ls ws L)(h:H p=some (.ins CS dxp fs))(hne:tl≠p):TailsAt C (upd H p o) tl la b ls ws L:=by
 obtain⟨dx,sa,srs,h1,h2,h3,h4⟩:=TA.ob;obtain⟨lrs,g1,g2,g3⟩:=TA.ly;have nl:∀{c:Addr} {xs:List V},H c=some (.lst xs)->c≠p:=λe z=>by rw[z,h]at e;cases e
 have go:∀c u,c≠p->aw [la] H c=some u->aw [la] (upd H p o) c=some u:=λc u hc e=>by
  have hcl:c∉[la]:=λhz=>by rw[qZ hz]at e;cases e
  rw[zT hcl]at e ⊢;rw[zr hc];exact e
 exact⟨⟨dx,sa,srs,go _ _ hne h1,go _ _ (nl (zL _ _ _ _ h2)) h2,λz hz=>go _ _ (nl (zL _ _ _ _ (h3 z hz))) (h3 z hz),h4⟩,⟨lrs,by rw[zr (nl g1)];exact g1,λz hz=>go _ _ (nl (zL _ _ _ _ (g2 z hz))) (g2 z hz),g3⟩,TA.l1⟩
theorem LT.putI(h:LT T H)(e:H p=some (.ins CS dx fs)):LT T (upd H p o):=by
 have nT:p≠T:=λz=>by
  rw[z]at e;rcases h with h | ⟨c,h,_⟩
  ·rw[h]at e;cases e
  ·rw[h]at e;cases e
 rcases h with h | ⟨c,h1,h2⟩
 ·exact .inl (by rw[zr (Ne.symm nT)];exact h)
 ·exact .inr ⟨c,by rw[zr (Ne.symm nT)];exact h1,by rw[zr (λz=>by rw[z,e]at h2;cases h2)];exact h2⟩
structure ClK (K:W.Frag) (mg:Str->Option Value) (C:Addr):Prop where
 cl:Cls K C
 nm:mg "Keeper"= some (.ref C)
 n_base:NoAttr K C "base"
 n_bad:NoAttr K C "bad"
 n_bound:NoAttr K C "bound"
 n_tails:NoAttr K C "tails"
def vO(b:Nat)(bl:Addr)(bd:Nat)(tl:Addr):List (Str×V):=zZ "tails" (.ref tl) (zZ "bound" (.int bd) (zZ "bad" (.ref bl) (zZ "base" (.int b) [])))
section
variable (b:Nat) (bl:Addr) (bd:Nat) (tl:Addr)
theorem zbs:(vO b bl bd tl).lookup ("tails" : Str)=some (.ref tl):=by unfold vO;rw[zF,if_pos rfl]
theorem Ui:(vO b bl bd tl).lookup ("bound" : Str)=some (.int bd):=by unfold vO;rw[zF,if_neg (by decide +kernel),zF,if_pos rfl]
theorem jR:(vO b bl bd tl).lookup ("bad" : Str)=some (.ref bl):=by unfold vO;rw[zF,if_neg (by decide +kernel),zF,if_neg (by decide +kernel),zF,if_pos rfl]
theorem jK:(vO b bl bd tl).lookup ("base" : Str)=some (.int b):=by unfold vO;rw[zF,if_neg (by decide +kernel),zF,if_neg (by decide +kernel),zF,if_neg (by decide +kernel),zF,if_pos rfl]
theorem uK{m:Str}(h1:¬ m ="tails":=by decide +kernel)(h2:¬ m ="bound":=by decide +kernel)(h3:¬ m ="bad":=by decide +kernel)(h4:¬ m ="base":=by decide +kernel):(vO b bl bd tl).lookup m=none:=by
 unfold vO;rw[zF,if_neg h1,zF,if_neg h2,zF,if_neg h3,zF,if_neg h4];rfl
theorem zbd:(vO b bl bd tl).length<=4:=Nat.le_trans (xJ _ _ _) (Nat.succ_le_succ (Nat.le_trans (xJ _ _ _) (Nat.succ_le_succ (Nat.le_trans (xJ _ _ _) (Nat.succ_le_succ (xJ _ _ _))))))
theorem VG:vO b bl bd tl=[(("base" : Str),V.int (b:Int)),(("bad" : Str),V.ref bl),(("bound" : Str),V.int (bd:Int)),(("tails" : Str),V.ref tl)]:=by
 unfold vO;rw[zZ,zZ,if_neg (by decide +kernel),zZ,zZ,if_neg (by decide +kernel),zZ,if_neg (by decide +kernel),zZ,zZ,if_neg (by decide +kernel),zZ,if_neg (by decide +kernel),zZ,if_neg (by decide +kernel),zZ]
theorem zbi(bl2:Addr):zZ "bad" (.ref bl2) (vO b bl bd tl)=vO b bl2 bd tl:=by
 rw[VG,VG,zZ,if_neg (by decide +kernel),zZ,if_pos rfl]
theorem QK(tl2:Addr):zZ "tails" (.ref tl2) (vO b bl bd tl)=vO b bl bd tl2:=by
 rw[VG,VG,zZ,if_neg (by decide +kernel),zZ,if_neg (by decide +kernel),zZ,if_neg (by decide +kernel),zZ,if_pos rfl]
end
structure KpAt (C CK:Addr) (H:Hp) (k tl sa la:Addr) (b bd:Nat) (bl:Addr) (zs:ZB) (ws:ZA) (L:Nat):Prop where
 ob:∃dx,H k=some (.ins CK dx (vO b bl bd tl))
 li:H bl=some (.lst (zs.map λz=>V.ref z.1))
 st:∀z∈zs,H z.1=some (.lst (z.2.map V.int))
 ta:TailsAt C H tl la b (zs.map (·.2)) ws L
 sa:∃dx,H tl=some (.ins C dx (Yb b ws.length sa la))
 gt:GoodT b (zs.map (·.2)) ws
 bla:bl≠la
 l:L<=1000
section
variable {C CK:Addr} {H H':Hp} {k tl sa la:Addr} {b bd:Nat} {bl:Addr} {zs:ZB} {ws:ZA} {L L':Nat}
theorem KpAt.zla(A:KpAt C CK H k tl sa la b bd bl zs ws L)(hz:z∈zs):z.1≠la:=λe=>by
 obtain⟨lrs,h1,_,h3⟩:=A.ta.ly;have h:=A.st z hz;rw[e,h1]at h;have hne:=(A.gt.g.st z.2 (List.mem_map.mpr ⟨z,hz,rfl⟩)).ne;injection h with h
 injection h with h
 cases hz2:z.2 with
 |nil=>exact hne hz2
 |cons x y=>
  rw[hz2]at h;cases lrs with
  |nil=>cases h
  |cons x' y'=>injection h with h _;cases h
theorem KpAt.kla(A:KpAt C CK H k tl sa la b bd bl zs ws L):k≠la:=by
 obtain⟨dx,h⟩:=A.ob;obtain⟨lrs,h1,_⟩:=A.ta.ly;exact uf h h1 (λz=>nomatch z)
theorem KpAt.tla(A:KpAt C CK H k tl sa la b bd bl zs ws L):tl≠la:=by
 obtain⟨dx,h⟩:=A.sa;obtain⟨lrs,h1,_⟩:=A.ta.ly;exact uf h h1 (λz=>nomatch z)
theorem KpAt.more(A:KpAt C CK H k tl sa la b bd bl zs ws L)(TA:TailsAt C H' tl la b (zs.map (·.2)) ws L')(m:Same (aw [la] H) (aw [la] H'))(hL:L'<=1000):KpAt C CK H' k tl sa la b bd bl zs ws L':=by
 have go:∀c o,c≠la->H c=some o->H' c=some o:=λc o hc e=>by
  have hc':c∉[la]:=by simpa using hc
  have:=m c o (by rw[zT hc'];exact e);rwa[zT hc']at this
 obtain⟨dx,h1⟩:=A.ob;obtain⟨dt,h2⟩:=A.sa;exact⟨⟨dx,go _ _ A.kla h1⟩,go _ _ A.bla A.li,λz hz=>go _ _ (A.zla hz) (A.st z hz),TA,⟨dt,go _ _ A.tla h2⟩,A.gt,A.bla,hL⟩
theorem KpAt.same(A:KpAt C CK H k tl sa la b bd bl zs ws L)(m:Same H H'):KpAt C CK H' k tl sa la b bd bl zs ws L:=A.more (A.ta.same m) (m.aw [la]) A.l
end
theorem KpAt.las{k tl sa la:Addr}(A:KpAt C CK H k tl sa la b bd bl zs ws L):∃as:List Addr,H la=some (.lst (as.map V.ref)):=by
 obtain⟨lrs,g1,_⟩:=A.ta.ly;exact⟨lrs.map (·.1),by rw[List.map_map];exact g1⟩
theorem KpAt.sas'{k tl sa la:Addr}(A:KpAt C CK H k tl sa la b bd bl zs ws L):∃xs,aw [la] H sa=some (.lst xs):=by
 obtain⟨dq,saq,srs,q1,q2,_⟩:=A.ta.ob;obtain⟨dt,q3⟩:=A.sa;have es:saq=sa:=by
  have:=zL _ _ _ _ q1;rw[q3]at this;injection this with this
  injection this with _ _ this
  have e:=yS b ws.length saq la;rw[<-this,yS]at e;injection e with e
  injection e with e
  exact e.symm
 rw[es]at q2;exact⟨_,q2⟩
theorem KpAt.sas{k tl sa la:Addr}(A:KpAt C CK H k tl sa la b bd bl zs ws L):∃xs,H sa=some (.lst xs):=let ⟨_,h⟩:=A.sas';⟨_,zL _ _ _ _ h⟩
theorem KpAt.sla{k tl sa la:Addr}(A:KpAt C CK H k tl sa la b bd bl zs ws L):sa≠la:=λe=>by
 obtain⟨xs,h⟩:=A.sas';rw[qZ (by simp[e])]at h;cases h
structure ClrK (c:Addr) (H:Hp) (k tl sa la bl:Addr) (zs:ZB):Prop where
 nk:c≠k
 ntl:c≠tl
 nsa:c≠sa
 nla:c≠la
 nbl:c≠bl
 nz:∀z∈zs,c≠z.1
 rla:NoRef H la c
 rsa:NoRef H sa c
def KpS(H H':Hp)(k tl sa la bl:Addr)(zs:ZB):Prop:=∀c o,H c=some o->ClrK c H k tl sa la bl zs->ClrK c H' k tl sa la bl zs
theorem KpAt.kps{k tl sa la:Addr}(A:KpAt C CK H k tl sa la b bd bl zs ws L)(m:Same H H'):KpS H H' k tl sa la bl zs:=λc o e q=>by
 obtain⟨_,h1⟩:=A.las;obtain⟨_,h2⟩:=A.sas;exact⟨q.nk,q.ntl,q.nsa,q.nla,q.nbl,q.nz,q.rla.same h1 (m _ _ h1),q.rsa.same h2 (m _ _ h2)⟩
section
variable {P:Program} {w:World} {K:W.Frag} {mg:Str->Option Value} {base:Heap} {T0 C CK:Addr}
def Xx:Sp:=λvs H Q _=>Ex4 λr b bl zs=>vs=[.ref r]/\RuleAt H r b bl zs/\zs.length<=100 /\
 ∀r' bl' zs' H',Same H H'->RuleAt H' r' b bl' zs'->zs'.map (·.2)=zs.map (·.2)->H bl'=none->H r'=none->(∀z∈zs',H z.1=none/\z.1≠bl')->Q (.ref r') H'
theorem zb7:zE ["rule"] ["rule"] (zu qt):={}
theorem zca(D:Df K mg "copy_of" qt Af f fd)(T:Blt mg):FnOk P w K mg base CX0 1 f fd Af Xx:=by
 refine D.fn.ok zb7 (λvs H Q E h=>?_) (λcdv A outer s H vs Q E hr h=>?_)
 ·obtain⟨r,b,bl,zs,rfl,_⟩:=h;rfl
 ·obtain⟨r,b,bl,zs,rfl,R,hl,kk⟩:=h;refine⟨_,(zz (zH (wu (zf (zR (vB K) (pv 0) zy (λ_ _=>rfl)) (zf (yx (show CScope (zu qt) _ "stretch" ["rule"] [] [] from {}) rfl (ql K (zR (vB K) (pv 0) zy (λ_ _=>rfl))) (λ_ _ _ _=>yQ) (λ_ _ _ _=>(yR (j0 K) (by rfl) T.n_list boot_list (zf (pv 0) zj)))) zj))))),?_⟩;refine⟨_,rfl,r,_,_,V.int b,rfl,rfl,SqT.of R.tu,rfl,?_⟩;refine⟨_,rfl,r,_,_,V.ref bl,rfl,rfl,SqT.of R.tu,rfl,bl,rfl,⟨_,SqL.of R.li⟩,yt (K:=K) (a:=bl) (xs:=zs.map λz=>V.ref z.1) (λi ys H4=>Same H H4/\∃ws:ZB,ys=ws.map (λz=>V.ref z.1)/\ws.length=i/\ws.map (·.2)=(zs.take i).map (·.2)/\∀z∈ws,H z.1=none/\H4 z.1=some (.lst (z.2.map V.int))) ⟨Same.refl _,[],rfl,rfl,rfl,by simp⟩ (λi ys H4 _ ⟨e,_⟩=>SqL.of (e _ _ R.li)) ?_ ?_⟩
  ·rintro j x ys H4 hx ⟨s4,ws,rfl,hwl,hw2,hws⟩;rw[List.getElem?_map]at hx;obtain⟨z,hzj,e⟩:=Option.map_eq_some_iff.mp hx;subst e;have hzm:=List.mem_of_getElem? hzj;have hj:j<zs.length:=(List.getElem?_eq_some_iff.mp hzj).1;refine⟨by rw[List.length_map,hwl];exact Nat.lt_of_lt_of_le (show j<101 by omega) (by decide),?_⟩;unfold jB;dsimp only;rw[if_pos rfl];refine⟨_,rfl,z.1,_,rfl,.inl (SqL.of (s4 _ _ (R.st z hzm))),λp hp=>⟨s4.trans (zm hp),ws++[(p,z.2)],by simp,by simp[hwl],?_,λy hy=>?_⟩⟩
   ·rw[List.map_append,hw2,List.take_succ,hzj];simp
   ·rcases List.mem_append.mp hy with hy | hy
    ·exact⟨(hws y hy).1,zm hp _ _ (hws y hy).2⟩
    ·have e:y=(p,z.2):=by simpa using hy
     subst e;exact⟨s4.free hp,zg⟩
  ·rintro ys H4 ⟨s4,ws,rfl,hwl,hw2,hws⟩ bl' hbl';refine⟨(by show 2<=sizeLine;decide),λr' hr'=>?_⟩;have s5:=zm hbl' (o:=.lst (ws.map λz=>V.ref z.1));have s6:=zm hr' (o:=.tup [.int b,.ref bl']);refine kk r' bl' ws _ (s4.trans (s5.trans s6)) ⟨zg,s6 _ _ zg,λz hz=>s6 _ _ (s5 _ _ (hws z hz).2)⟩ ?_ (s4.free hbl') (s4.free (s5.free hr')) λz hz=>⟨(hws z hz).1,zx (hws z hz).2 hbl'⟩
   rw[hw2,List.length_map,List.take_length]
def WK:Sp:=λvs H Q _=>Ex4 λr b bl zs=>vs=[.ref r]/\RuleAt H r b bl zs/\zs.length<=100 /\
 ∀r' bl' zs' H',Same H H'->RuleAt H' r' b bl' zs'->zs'.map (·.2)=zs.map (·.2)->H bl'=none->H r'=none->(∀z∈zs',H z.1=none/\z.1≠bl')->Q (.ref r') H'
theorem zai:zE ["rule"] ["rule"] (zu tG):={}
theorem JW(D:Df K mg "_law_copy" tG Af f fd)(T:Blt mg):FnOk P w K mg base CX0 1 f fd Af WK:=by
 refine D.fn.ok zai (λvs H Q E h=>?_) (λcdv A outer s H vs Q E hr h=>?_)
 ·obtain⟨r,b,bl,zs,rfl,_⟩:=h;rfl
 ·obtain⟨r,b,bl,zs,rfl,R,hl,kk⟩:=h;refine⟨_,(zz (zH (wu (zf (zR (vB K) (pv 0) zy (λ_ _=>rfl)) (zf (yx (show CScope (zu tG) _ "one" ["rule"] [] [] from {}) rfl (ql K (zR (vB K) (pv 0) zy (λ_ _=>rfl))) (λ_ _ _ _=>yQ) (λ_ _ _ _=>(yR (j0 K) (by rfl) T.n_list boot_list (zf (pv 0) zj)))) zj))))),?_⟩;refine⟨_,rfl,r,_,_,V.int b,rfl,rfl,SqT.of R.tu,rfl,?_⟩;refine⟨_,rfl,r,_,_,V.ref bl,rfl,rfl,SqT.of R.tu,rfl,bl,rfl,⟨_,SqL.of R.li⟩,yt (K:=K) (a:=bl) (xs:=zs.map λz=>V.ref z.1) (λi ys H4=>Same H H4/\∃ws:ZB,ys=ws.map (λz=>V.ref z.1)/\ws.length=i/\ws.map (·.2)=(zs.take i).map (·.2)/\∀z∈ws,H z.1=none/\H4 z.1=some (.lst (z.2.map V.int))) ⟨Same.refl _,[],rfl,rfl,rfl,by simp⟩ (λi ys H4 _ ⟨e,_⟩=>SqL.of (e _ _ R.li)) ?_ ?_⟩
  ·rintro j x ys H4 hx ⟨s4,ws,rfl,hwl,hw2,hws⟩;rw[List.getElem?_map]at hx;obtain⟨z,hzj,e⟩:=Option.map_eq_some_iff.mp hx;subst e;have hzm:=List.mem_of_getElem? hzj;have hj:j<zs.length:=(List.getElem?_eq_some_iff.mp hzj).1;refine⟨by rw[List.length_map,hwl];exact Nat.lt_of_lt_of_le (show j<101 by omega) (by decide),?_⟩;unfold jB;dsimp only;rw[if_pos rfl];refine⟨_,rfl,z.1,_,rfl,.inl (SqL.of (s4 _ _ (R.st z hzm))),λp hp=>⟨s4.trans (zm hp),ws++[(p,z.2)],by simp,by simp[hwl],?_,λy hy=>?_⟩⟩
   ·rw[List.map_append,hw2,List.take_succ,hzj];simp
   ·rcases List.mem_append.mp hy with hy | hy
    ·exact⟨(hws y hy).1,zm hp _ _ (hws y hy).2⟩
    ·have e:y=(p,z.2):=by simpa using hy
     subst e;exact⟨s4.free hp,zg⟩
  ·rintro ys H4 ⟨s4,ws,rfl,hwl,hw2,hws⟩ bl' hbl';refine⟨(by show 2<=sizeLine;decide),λr' hr'=>?_⟩;have s5:=zm hbl' (o:=.lst (ws.map λz=>V.ref z.1));have s6:=zm hr' (o:=.tup [.int b,.ref bl']);refine kk r' bl' ws _ (s4.trans (s5.trans s6)) ⟨zg,s6 _ _ zg,λz hz=>s6 _ _ (s5 _ _ (hws z hz).2)⟩ ?_ (s4.free hbl') (s4.free (s5.free hr')) λz hz=>⟨(hws z hz).1,zx (hws z hz).2 hbl'⟩
   rw[hw2,List.length_map,List.take_length]
theorem zgh{b:Nat}(b2:2<=b)(b16:b<=16)(z:qI (.int b)=false):False:=by
 have q:decide (2<=(b:Int)/\(b:Int)<=16)=false:=z;rw[decide_eq_true (by omega)]at q;cases q
theorem ze2{n:Nat}(z:U7 (.int n)=false):False:=by
 have q:decide (0<=(n:Int))=false:=z;rw[decide_eq_true (by omega)]at q;cases q
def Ja(T0 C CK qB:Addr):Sp:=λvs H Q E=>Ex6 λk tl sa la b bd=>Ex6 λbl zs ws L v e=>vs=[.ref k,v]/\KpAt C CK H k tl sa la b bd bl zs ws L/\ThAt H e v/\LT T0 H/\(U7 e=false->E (.ref qB) none H) /\
 ∀n:Nat,e=.int n->n<2^900/\∀L' H',KpAt C CK H' k tl sa la b bd bl zs ws L'->Same (aw [la] H) (aw [la] H')->LT T0 H'->KpS H H' k tl sa la bl zs->Q (.int (many (gd (zs.map (·.2)) b) n:Nat)) H'
theorem Vu:zE ["self","n"] ["self","n"] (zu wU):={}
theorem zdz(D:Mt K CK "Keeper.below" "below" wU Ah f fd)(wM:Mt K C "Tails.many_below" "many_below" yg A4 f1 fd1)(vZ:FnOk P w K mg base CX0 4 f1 fd1 A4 (Y9 C))(ji:Df K mg "figures_of" yL Ai f2 fd2)(Z9:FnOk P w K mg base (CX1 P w) 4 f2 fd2 Ai (Y5 qA qB))(zQ:ClT K mg C)(cKeeper:ClK K mg CK):FnOk P w K mg base (CX1 P w) 5 f fd Ah (Ja T0 C CK qB):=by
 refine D.fn.ok1 Vu (λvs H Q E h=>?_) (λcdv A outer s H vs Q E hr h=>?_)
 ·obtain⟨k,tl,sa,la,b,bd,bl,zs,ws,L,v,e,rfl,_⟩:=h;rfl
 ·obtain⟨k,tl,sa,la,b,bd,bl,zs,ws,L,v,e,rfl,KA,he,hT,kN,kG⟩:=h;have b2:=KA.gt.g.b2;have b16:=KA.gt.g.b16;obtain⟨dx,hk⟩:=KA.ob;obtain⟨dt,htl⟩:=KA.sa;obtain⟨lx,hla⟩:=KA.ta.la;refine⟨_,(zz (zH (Xc wM zQ.cl vZ (hr.mono (by decide)) (wX K (pv 0)) (zf (Ue ji Z9 (hr.mono (by decide)) jZ (zf (wX K (pv 0)) (zf (pv 1) zj))) zj)))),?_⟩;refine⟨_,rfl,k,CK,dx,_,_,rfl,hk,cKeeper.cl,cKeeper.n_tails,zbs _ _ _ _,tl,dt,_,rfl,htl,Wc _ _ _ _,?_⟩;refine⟨_,rfl,k,CK,dx,_,_,rfl,hk,cKeeper.cl,cKeeper.n_base,jK _ _ _ _,_,rfl,.int b,v,.int b,e,rfl,by rw[ThAt],he,λz=>(zgh b2 b16 z).elim,λ_ hn=>kN hn,λb' n eb h2 h16 en=>?_⟩;obtain rfl:b=b':=by injection eb with eb;omega
  obtain⟨hn,kk⟩:=kG n en;refine⟨hn,λfa H1 hfa hv s1=>?_⟩;have KA1:=KA.same s1;have fala:fa≠la:=λz=>by rw[z,hla]at hfa;cases hfa
  refine⟨tl,la,b,_,ws,L,fa,n,rfl,KA1.ta,KA.gt,KA.l,by rw[zT (by simpa using fala)];exact hv,hn,λL2 H2 hL2 TA2 m2 nr2 hL'=>?_⟩;refine kk L2 H2 (KA1.more TA2 m2 hL') ((s1.aw [la]).trans m2) ((hT.same s1).off (s1 _ _ hla) m2) λc o e q=>?_;have q1:=KA.kps s1 c o e q;obtain⟨_,hs⟩:=KA1.sas;exact⟨q.nk,q.ntl,q.nsa,q.nla,q.nbl,q.nz,nr2 c o q.nla (s1 _ _ e) q1.rla,q1.rsa.same hs (zaZ m2 KA1.sla hs)⟩
def j6(T0 C CK:Addr):Sp:=λvs H Q _=>Ex6 λk tl sa la b bd=>Ex5 λ(bl:Addr) (zs:ZB) (ws:ZA) (L:Nat) (n:Nat)=>vs=[.ref k,.int n]/\KpAt C CK H k tl sa la b bd bl zs ws L/\n<2^900/\LT T0 H /\
 ∀L' H',KpAt C CK H' k tl sa la b bd bl zs ws L'->Same (aw [la] H) (aw [la] H')->LT T0 H'->KpS H H' k tl sa la bl zs->Q (.int (many (gd (zs.map (·.2)) b) n:Nat)) H'
theorem zbW(G:FnOk P w K mg base (CX1 P w) 5 f fd Ah (Ja T0 C CK qB)):FnOk P w K mg base CX0 5 f fd Ah (j6 T0 C CK):=
 G.calm.imp λvs H Q E ⟨k,tl,sa,la,b,bd,bl,zs,ws,L,n,e,KA,hn,hT,kk⟩=>⟨k,tl,sa,la,b,bd,bl,zs,ws,L,.int n,.int n,e,KA,by rw[ThAt],hT,λz=>ze2 z,λm em=>by
  obtain rfl:n=m:=by injection em with em;omega
  exact⟨hn,kk⟩⟩
def Off(T k la:Addr)(H H':Hp):Prop:=∀c o,c≠k->c≠la->c≠T->H c=some o->H' c=some o
def VH(C CK:Addr):Sp:=λvs H Q _=>Ex6 λk tl sa la b bd=>Ex4 λbl zs ws L=>vs=[.ref k]/\KpAt C CK H k tl sa la b bd bl zs ws L /\
 ∀r bl' zs' H',Same H H'->RuleAt H' r b bl' zs'->zs'.map (·.2)=zs.map (·.2)->H bl'=none->H r=none->(∀z∈zs',H z.1=none/\z.1≠bl')->Q (.ref r) H'
theorem V7:zE ["self"] ["self"] (zu vH):={}
theorem zga(D:Mt K CK "Keeper.rule" "rule" vH Am f fd)(qU:Df K mg "copy_of" qt Af f1 fd1)(j7:FnOk P w K mg base CX0 1 f1 fd1 Af Xx)(cKeeper:ClK K mg CK):FnOk P w K mg base CX0 2 f fd Am (VH C CK):=by
 refine D.fn.ok V7 (λvs H Q E h=>?_) (λcdv A outer s H vs Q E hr h=>?_)
 ·obtain⟨k,tl,sa,la,b,bd,bl,zs,ws,L,rfl,_⟩:=h;rfl
 ·obtain⟨k,tl,sa,la,b,bd,bl,zs,ws,L,rfl,KA,kk⟩:=h;obtain⟨dx,hk⟩:=KA.ob;have h4:zs.length<=4:=by have:=KA.gt.g.len;rwa[List.length_map]at this
  refine⟨_,(zz (zH (zK qU j7 (hr.mono (by decide)) (zf (wu (zf (wX K (pv 0)) (zf (wX K (pv 0)) zj))) zj)))),?_⟩;refine⟨_,rfl,k,CK,dx,_,_,rfl,hk,cKeeper.cl,cKeeper.n_base,jK _ _ _ _,_,rfl,k,CK,dx,_,_,rfl,hk,cKeeper.cl,cKeeper.n_bad,jR _ _ _ _,(by show 2<=sizeLine;decide),λt ht=>?_⟩;have s1:=zm ht (o:=.tup [.int b,.ref bl]);refine⟨t,b,bl,zs,rfl,⟨zg,s1 _ _ KA.li,λz hz=>s1 _ _ (KA.st z hz)⟩,by omega,λr bl' zs' H' s' R' e' n1 n2 n3=>?_⟩;exact kk r bl' zs' H' (s1.trans s') R' e' (s1.free n1) (s1.free n2) (λz hz=>⟨s1.free (n3 z hz).1,(n3 z hz).2⟩)
def Uo(T0 C CK qS qB:Addr):Sp:=λvs H Q E=>Ex6 λk dx v u d e=>vs=[.ref k,v,u]/\H k=some (.ins CK dx [])/\ThAt H d v/\ThAt H e u/\vX d<=100000/\LT T0 H/\(Xa d=false->∀H',Same H H'->E (.ref qS) none H')/\(Xa d=true->U7 e=false->∀H',Same H H'->E (.ref qB) none H') /\
 ∀(r:Addr) (b:Nat) (bl:Addr) (zs:ZB) (bd:Nat),v=.ref r->RuleAt H r b bl zs->GoodRule b (zs.map (·.2))->e=.int bd ->
 ∀tl sa la bl2 zs2 ws L H',KpAt C CK H' k tl sa la b bd bl2 zs2 ws L->zs2.map (·.2)=zs.map (·.2)->(∀c o,c≠k->c≠T0->H c=some o->H' c=some o)->LT T0 H'->H la=none->H sa=none->H bl2=none->(∀c o,H c=some o->c≠k->ClrK c H' k tl sa la bl2 zs2)->Q .non H'
theorem Xo:zE ["self","rule","b"] ["self","rule","b"] (zu yq):={}
theorem zbA(D:Mt K CK "Keeper.__init__" "__init__" yq Ak f fd)(jh:Df K mg "check_rule" qm Aa f1 fd1)(Yp:FnOk P w K mg base (CX1 P w) 7 f1 fd1 Aa (YT qS))(xV:Df K mg "check_number" wR Aa f2 fd2)(wI:FnOk P w K mg base (CX1 P w) 3 f2 fd2 Aa (tM qB))(qU:Df K mg "copy_of" qt Af f3 fd3)(j7:FnOk P w K mg base CX0 1 f3 fd3 Af Xx)(W4:Mk K C f4)(W2:Binds K fd4 ["self","rule"] [])(vR:FnOk P w K mg base CX0 7 f4 fd4 Ao (We T0 C))(zQ:ClT K mg C)(cKeeper:ClK K mg CK):FnOk P w K mg base (CX1 P w) 9 f fd Ak (Uo T0 C CK qS qB):=by
 refine D.fn.ok1 Xo (λvs H Q E h=>?_) (λcdv A outer s H vs Q E hr h=>?_)
 ·obtain⟨k,dx,v,u,d,e,rfl,_⟩:=h;rfl
 ·obtain⟨k,dx,v,u,d,e,rfl,hk,hd,he,hs,hT,kR,kN,kG⟩:=h;refine xm ?_;intro XX;let q1:Sq XX ((zq yq).drop 5):=⟨_,zz (jJ (pv 0) (Wd W4 vR (hr.mono (by decide)) rfl zQ.nm W2 .nil Vj (zf (pv 1) zj)) rfl)⟩
  let q2:Sq XX ((zq yq).drop 4):=⟨_,zp (jJ (pv 0) (pv 2) rfl) q1.p⟩
  let q3:Sq XX ((zq yq).drop 3):=⟨_,zp (jJ (pv 0) (zR (vB K) (zK qU j7 (hr.mono (by decide)) (zf (pv 1) zj)) zy (λ_ _=>rfl)) rfl) q2.p⟩
  let q4:Sq XX ((zq yq).drop 2):=⟨_,zp (jJ (pv 0) (zR (vB K) (pv 1) zy (λ_ _=>rfl)) rfl) q3.p⟩
  let q5:Sq XX ((zq yq).drop 1):=⟨_,zp (vh (Ue xV wI (hr.mono (by decide)) jZ (zf (pv 2) zj))) q4.p⟩
  refine⟨_,(zp (vh (Ue jh Yp (hr.mono (by decide)) jZ (zf (pv 1) zj))) q5.p),?_⟩;refine⟨_,rfl,v,d,rfl,hd,hs,kR,λhru H1 m1=>?_⟩;refine⟨_,rfl,u,e,rfl,he.same m1,λhn=>kN hru hn H1 m1,λhnum=>?_⟩;obtain⟨r,b,bl,zs,rfl,R,g⟩:=zfB hd hru;obtain⟨bd,rfl,rfl⟩:=zeo he hnum;have kk:=kG r b bl zs bd rfl R g rfl;have h4:zs.length<=4:=by have:=g.len;rwa[List.length_map]at this
  have hk1:=m1 _ _ hk;have R1:=R.same m1;have T1:=hT.same m1;have rk:r≠k:=uf R1.tu hk1 (λz=>nomatch z);have lk:∀{c:Addr} {xs:List V},H1 c=some (.lst xs)->c≠k:=λh=>uf h hk1 (λz=>nomatch z);refine⟨_,rfl,r,_,_,V.int b,rfl,rfl,SqT.of R1.tu,rfl,_,rfl,k,CK,dx,_,rfl,hk1,cKeeper.cl,cKeeper.n_base,(by show 0<1000;decide),?_⟩;have R2:RuleAt (upd H1 k (.ins CK dx (zZ "base" (.int b) []))) r b bl zs:=⟨by rw[zr rk];exact R1.tu,by rw[zr (lk R1.li)];exact R1.li,λz hz=>by rw[zr (lk (R1.st z hz))];exact R1.st z hz⟩
  have T2:=T1.putI (o:=.ins CK dx (zZ "base" (.int b) [])) hk1;have hk2:upd H1 k (.ins CK dx (zZ "base" (.int b) [])) k=some (.ins CK dx (zZ "base" (.int b) [])):=zg;have n2:∀c o,c≠k->H c=some o->upd H1 k (.ins CK dx (zZ "base" (.int b) [])) c=some o:=λc o hc e=>by rw[zr hc];exact m1 c o e
  generalize upd H1 k (.ins CK dx (zZ "base" (.int b) []))=H2 at R2 T2 hk2 n2;refine⟨_,rfl,r,b,bl,zs,rfl,R2,by omega,λr3 bl3 zs3 H3 s3 R3 e3 nb3 nr3 nz3=>?_⟩;have hk3:=s3 _ _ hk2;refine⟨r3,_,_,V.ref bl3,rfl,rfl,SqT.of R3.tu,rfl,_,rfl,k,CK,dx,_,rfl,hk3,cKeeper.cl,cKeeper.n_bad,(by show 1<1000;decide),?_⟩;refine⟨_,rfl,_,rfl,k,CK,dx,_,rfl,zg,cKeeper.cl,cKeeper.n_bound,(by show 2<1000;decide),?_⟩;rw[zcT];have lk3:∀{c:Addr} {xs:List V},H3 c=some (.lst xs)->c≠k:=λh=>uf h hk3 (λz=>nomatch z);have R2':=R2.same s3;have R4:RuleAt (upd H3 k (.ins CK dx (zZ "bound" (.int bd) (zZ "bad" (.ref bl3) (zZ "base" (.int b) []))))) r b bl zs:=⟨by rw[zr rk];exact R2'.tu,by rw[zr (lk3 R2'.li)];exact R2'.li,λz hz=>by rw[zr (lk3 (R2'.st z hz))];exact R2'.st z hz⟩
  have T4:=(T2.same s3).putI (o:=.ins CK dx (zZ "bound" (.int bd) (zZ "bad" (.ref bl3) (zZ "base" (.int b) [])))) hk3;have hk4:upd H3 k (.ins CK dx (zZ "bound" (.int bd) (zZ "bad" (.ref bl3) (zZ "base" (.int b) [])))) k=some (.ins CK dx (zZ "bound" (.int bd) (zZ "bad" (.ref bl3) (zZ "base" (.int b) [])))):=zg;have n4:∀c o,c≠k->H3 c=some o->upd H3 k (.ins CK dx (zZ "bound" (.int bd) (zZ "bad" (.ref bl3) (zZ "base" (.int b) [])))) c=some o:=λc o hc e=>by rw[zr hc];exact e
  have f4:∀c,upd H3 k (.ins CK dx (zZ "bound" (.int bd) (zZ "bad" (.ref bl3) (zZ "base" (.int b) [])))) c=none->H c=none:=λc hc=>by
   have hck:c≠k:=λz=>by rw[z,zg]at hc;cases hc
   rw[zr hck]at hc;cases e:H c with
   |none=>rfl
   |some o=>rw[s3 _ _ (n2 c o hck e)]at hc;cases hc
  generalize upd H3 k (.ins CK dx (zZ "bound" (.int bd) (zZ "bad" (.ref bl3) (zZ "base" (.int b) []))))=H4 at R4 T4 hk4 n4 f4;refine⟨_,rfl,?_⟩;refine zcm R4 g T4 ?_;rintro tl H5 ⟨la,ws,TA5,G,m5,T5,hla,ntl4,dt,sa,htl,hsa,nrs⟩;have npT:k≠T0:=λz=>by
   rw[z]at hk4;rcases T4 with h | ⟨c,h,_⟩
   ·rw[h]at hk4;cases hk4
   ·rw[h]at hk4;cases hk4
  have hk5:=m5 _ _ npT hk4;have tlk:tl≠k:=λz=>by
   rw[z,hk5]at htl;injection htl with e
   injection e with _ _ e
   have:=yS b ws.length sa la;rw[<-e]at this;rw[zF,if_neg (by decide +kernel),zF,if_neg (by decide +kernel),zF,if_neg (by decide +kernel)]at this;cases this
  refine⟨_,rfl,k,CK,dx,_,rfl,hk5,cKeeper.cl,cKeeper.n_tails,(by show 3<1000;decide),?_⟩;have hbl4:=n4 _ _ (lk3 R3.li) R3.li;have hbl5:=m5 _ _ (T4.lst hbl4) hbl4;have lk5:∀{c:Addr} {xs:List V},H5 c=some (.lst xs)->c≠k:=λh=>uf h hk5 (λz=>nomatch z);have hz5:∀z∈zs3,H5 z.1=some (.lst (z.2.map V.int)):=λz hz=>m5 _ _ (T4.lst (n4 _ _ (lk3 (R3.st z hz)) (R3.st z hz))) (n4 _ _ (lk3 (R3.st z hz)) (R3.st z hz));rw[<-e3]at G TA5;have hblH:H bl3=none:=by
   cases e:H bl3 with
   |none=>rfl
   |some o=>
    rw[n2 bl3 o (lk3 R3.li) e]at nb3;cases nb3
  refine kk tl sa la bl3 zs3 ws 1 _ ⟨⟨dx,by rw[zg];rfl⟩,by rw[zr (lk5 hbl5)];exact hbl5,λz hz=>by rw[zr (lk5 (hz5 z hz))];exact hz5 z hz,TA5.updI hk5 tlk,⟨dt,by rw[zr tlk];exact htl⟩,G,zx hbl4 hla,by decide⟩ e3 (λc o hc hcT e=>?_) (T5.putI hk5) (f4 _ hla) (f4 _ hsa) hblH (λc o e hc=>?_)
  ·rw[zr hc];exact m5 c o hcT (n4 c o hc (s3 c o (n2 c o hc e)))
  ·obtain⟨o4,e4⟩:∃o4,H4 c=some o4:=by
    cases e':H4 c with
    |none=>rw[f4 c e']at e;cases e
    |some o4=>exact⟨o4,rfl⟩
   have h2c:=n2 c o hc e;have lak:la≠k:=λz=>by rw[z,hk4]at hla;cases hla
   have sak:sa≠k:=λz=>by rw[z,hk4]at hsa;cases hsa
   obtain⟨r1,r2⟩:=nrs c o4 e4;exact⟨hc,zx e4 ntl4,zx e4 hsa,zx e4 hla,zx e hblH,λz hz=>zx h2c (nz3 z hz).1,λxs hx=>r1 xs (by rwa[zr lak]at hx),λxs hx=>r2 xs (by rwa[zr sak]at hx)⟩
theorem KpAt.ila{k tl sa la:Addr}(A:KpAt C CK H k tl sa la b bd bl zs ws L)(h:H c=some (.lst (ns.map V.int)))(hne:ns≠[]):c≠la:=λe=>by
 obtain⟨lrs,h1,_,h3⟩:=A.ta.ly;rw[e,h1]at h;injection h with h
 injection h with h
 cases hz2:ns with
 |nil=>exact hne hz2
 |cons x y=>
  rw[hz2]at h;cases lrs with
  |nil=>cases h
  |cons x' y'=>injection h with h _;cases h
theorem Off.trans(a:Off T k la H H1)(b:Off T k la1 H1 H2)(h:H la1=none\/la1=la):Off T k la H H2:=λc o h1 h2 h3 e=>b c o h1 (λz=>by
 rcases h with h | h
 ·rw[z,h]at e;cases e
 ·exact h2 (z.trans h)) h3 (a c o h1 h2 h3 e)
theorem Off.of(m:Same H H'):Off T k la H H':=λc o _ _ _ e=>m c o e
theorem Off.aw(m:Same (aw [la] H) (aw [la] H')):Off T k la H H':=λc o _ h _ e=>by
 have hc':c∉[la]:=by simpa using h
 have:=m c o (by rw[zT hc'];exact e);rwa[zT hc']at this
def Xh(T0 C CK:Addr):Sp:=λvs H Q _=>Ex6 λk tl sa la b bd=>Ex6 λbl zs ws L bl2 zs2=>vs=[.ref k,.ref bl2]/\KpAt C CK H k tl sa la b bd bl zs ws L/\bd<2^900/\LT T0 H/\H bl2=some (.lst (zs2.map λz=>V.ref z.1))/\(∀z∈zs2,H z.1=some (.lst (z.2.map V.int)))/\GoodRule b (zs2.map (·.2))/\bl2≠la /\
 ∀p tl2 sa2 la2 ws2 L2 H',H p=none->H' p=some (.tup [.int (many (gd (zs.map (·.2)) b) bd:Nat),.int (many (gd (zs2.map (·.2)) b) bd:Nat)])->KpAt C CK H' k tl2 sa2 la2 b bd bl2 zs2 ws2 L2->Off T0 k la H H'->LT T0 H'->H la2=none->H sa2=none->p≠la2->(∀c o,H c=some o->c≠k->c≠bl2->(∀z∈zs2,c≠z.1)->ClrK c H' k tl2 sa2 la2 bl2 zs2)->Q (.ref p) H'
theorem jg:zE ["self","bad","before"] ["self","bad"] (zu yD):={}
theorem zcd(D:Mt K CK "Keeper.turn_to" "turn_to" yD Ap f fd)(MKeeper_below:Mt K CK "Keeper.below" "below" wU Ah f1 fd1)(GKeeper_below:FnOk P w K mg base CX0 5 f1 fd1 Ah (j6 T0 C CK))(W4:Mk K C f4)(W2:Binds K fd4 ["self","rule"] [])(vR:FnOk P w K mg base CX0 7 f4 fd4 Ao (We T0 C))(zQ:ClT K mg C)(cKeeper:ClK K mg CK):FnOk P w K mg base CX0 9 f fd Ap (Xh T0 C CK):=by
 refine D.fn.ok jg (λvs H Q E h=>?_) (λcdv A outer s H vs Q E hr h=>?_)
 ·obtain⟨k,tl,sa,la,b,bd,bl,zs,ws,L,bl2,zs2,rfl,_⟩:=h;rfl
 ·obtain⟨k,tl,sa,la,b,bd,bl,zs,ws,L,bl2,zs2,rfl,KA,hbd,hT,hb2,hz2,g2,bla,kk⟩:=h;obtain⟨dx,hk⟩:=KA.ob;refine xm ?_;intro XX;let q1:Sq XX ((zq yD).drop 3):=⟨_,zz (zH (wu (zf (pv 2) (zf (Xc MKeeper_below cKeeper.cl GKeeper_below (hr.mono (by decide)) (pv 0) (zf (wX K (pv 0)) zj)) zj))))⟩
  let q2:Sq XX ((zq yD).drop 2):=⟨_,zp (jJ (pv 0) (Wd W4 vR (hr.mono (by decide)) rfl zQ.nm W2 .nil Vj (zf (wu (zf (wX K (pv 0)) (zf (pv 1) zj))) zj)) rfl) q1.p⟩
  let q3:Sq XX ((zq yD).drop 1):=⟨_,zp (jJ (pv 0) (pv 1) rfl) q2.p⟩
  refine⟨_,(zp (zG (i:=2) jg.nd rfl (Or.inl rfl) (Xc MKeeper_below cKeeper.cl GKeeper_below (hr.mono (by decide)) (pv 0) (zf (wX K (pv 0)) zj))) q3.p),?_⟩;refine⟨_,rfl,k,dx,_,rfl,hk,uK _ _ _ _,_,rfl,k,CK,dx,_,_,rfl,hk,cKeeper.cl,cKeeper.n_bound,Ui _ _ _ _,k,tl,sa,la,b,bd,bl,zs,ws,L,bd,rfl,KA,hbd,hT,λL1 H1 KA1 m1 T1 _=>?_⟩;obtain⟨dx1,hk1⟩:=KA1.ob;have O1:Off T0 k la H H1:=Off.aw m1;have go1:∀c o,c≠la->H c=some o->H1 c=some o:=λc o hc e=>by
   have hc':c∉[la]:=by simpa using hc
   have:=m1 c o (by rw[zT hc'];exact e);rwa[zT hc']at this
  have hb1:=go1 _ _ bla hb2;have hz1:∀z∈zs2,H1 z.1=some (.lst (z.2.map V.int)):=λz hz=>go1 _ _ (KA.ila (hz2 z hz) (g2.st z.2 (List.mem_map.mpr ⟨z,hz,rfl⟩)).ne) (hz2 z hz);have f1:∀c,H1 c=none->H c=none:=λc hc=>by
   cases e:H c with
   |none=>rfl
   |some o=>
    by_cases z:c=la
    ·obtain⟨lx,hx⟩:=KA1.ta.la;rw[z,hx]at hc;cases hc
    ·rw[go1 c o z e]at hc;cases hc
  refine⟨_,rfl,_,rfl,k,CK,dx1,_,rfl,hk1,cKeeper.cl,cKeeper.n_bad,Nat.lt_of_le_of_lt (zbd _ _ _ _) (by decide),?_⟩;rw[zbi];have lk1:∀{c:Addr} {xs:List V},H1 c=some (.lst xs)->c≠k:=λh=>uf h hk1 (λz=>nomatch z);have hk2:upd H1 k (.ins CK dx1 (vO b bl2 bd tl)) k=some (.ins CK dx1 (vO b bl2 bd tl)):=zg;have T2:=T1.putI (o:=.ins CK dx1 (vO b bl2 bd tl)) hk1;have n2:∀c o,c≠k->H1 c=some o->upd H1 k (.ins CK dx1 (vO b bl2 bd tl)) c=some o:=λc o hc e=>by rw[zr hc];exact e
  have f2:∀c,upd H1 k (.ins CK dx1 (vO b bl2 bd tl)) c=none->H c=none:=λc hc=>by
   have hck:c≠k:=λz=>by rw[z,zg]at hc;cases hc
   rw[zr hck]at hc;exact f1 c hc
  generalize upd H1 k (.ins CK dx1 (vO b bl2 bd tl))=H2 at hk2 T2 n2 f2;refine⟨_,rfl,k,CK,dx1,_,_,rfl,hk2,cKeeper.cl,cKeeper.n_base,jK _ _ _ _,_,rfl,(by show 2<=sizeLine;decide),λt ht=>?_⟩;have s3:=zm ht (o:=.tup [.int b,.ref bl2]);have hb3:=s3 _ _ (n2 _ _ (lk1 hb1) hb1);have hz3:∀z∈zs2,upd H2 t (.tup [.int b,.ref bl2]) z.1=some (.lst (z.2.map V.int)):=λz hz=>s3 _ _ (n2 _ _ (lk1 (hz1 z hz)) (hz1 z hz));have T3:=T2.same s3;refine zcm ⟨zg,hb3,hz3⟩ g2 T3 ?_;have hk3:=s3 _ _ hk2;generalize upd H2 t (.tup [.int b,.ref bl2])=H3 at s3 hb3 hz3 T3 hk3;rintro tl2 H4 ⟨la2,ws2,TA4,G,m4,T4,hla2,ntl3,dt,sa2,htl,hsa2,nrs⟩;have npT:k≠T0:=λz=>by
   rw[z]at hk3;rcases T3 with h | ⟨c,h,_⟩
   ·rw[h]at hk3;cases hk3
   ·rw[h]at hk3;cases hk3
  have hk4:=m4 _ _ npT hk3;have tlk:tl2≠k:=λz=>by
   rw[z,hk4]at htl;injection htl with e
   injection e with _ _ e
   have:=yS b ws2.length sa2 la2;rw[<-e,uK]at this;cases this
  have hb4:=m4 _ _ (T3.lst hb3) hb3;have hz4:∀z∈zs2,H4 z.1=some (.lst (z.2.map V.int)):=λz hz=>m4 _ _ (T3.lst (hz3 z hz)) (hz3 z hz);have lk4:∀{c:Addr} {xs:List V},H4 c=some (.lst xs)->c≠k:=λh=>uf h hk4 (λz=>nomatch z);refine⟨_,rfl,k,CK,dx1,_,rfl,hk4,cKeeper.cl,cKeeper.n_tails,Nat.lt_of_le_of_lt (zbd _ _ _ _) (by decide),?_⟩;rw[QK];have KA5:KpAt C CK (upd H4 k (.ins CK dx1 (vO b bl2 bd tl2))) k tl2 sa2 la2 b bd bl2 zs2 ws2 1:=⟨⟨dx1,zg⟩,by rw[zr (lk4 hb4)];exact hb4,λz hz=>by rw[zr (lk4 (hz4 z hz))];exact hz4 z hz,TA4.updI hk4 tlk,⟨dt,by rw[zr tlk];exact htl⟩,G,zx hb3 hla2,by decide⟩
  have T5:=T4.putI (o:=.ins CK dx1 (vO b bl2 bd tl2)) hk4;have O5:Off T0 k la H (upd H4 k (.ins CK dx1 (vO b bl2 bd tl2))):=λc o h1 h2 h3 e=>by rw[zr h1];exact m4 c o h3 (s3 _ _ (n2 c o h1 (go1 c o h2 e)))
  have f5:∀c,upd H4 k (.ins CK dx1 (vO b bl2 bd tl2)) c=none->H3 c=none:=λc hc=>by
   have hck:c≠k:=λz=>by rw[z,zg]at hc;cases hc
   rw[zr hck]at hc;cases e:H3 c with
   |none=>rfl
   |some o=>
    by_cases z:c=T0
    ·rw[z]at hc;exact absurd rfl (T4.none hc)
    ·rw[m4 c o z e]at hc;cases hc
  have fr:∀c,H3 c=none->H c=none:=λc hc=>f2 c (s3.free hc);have CL5:∀c o,H c=some o->c≠k->c≠bl2->(∀z∈zs2,c≠z.1)->ClrK c (upd H4 k (.ins CK dx1 (vO b bl2 bd tl2))) k tl2 sa2 la2 bl2 zs2:=λc o e hc hb hz=>by
   obtain⟨o3,e3⟩:∃o3,H3 c=some o3:=by
    cases e':H3 c with
    |none=>rw[fr c e']at e;cases e
    |some o3=>exact⟨o3,rfl⟩
   have lak:la2≠k:=λz=>by rw[z,hk3]at hla2;cases hla2
   have sak:sa2≠k:=λz=>by rw[z,hk3]at hsa2;cases hsa2
   obtain⟨r1,r2⟩:=nrs c o3 e3;exact⟨hc,zx e3 ntl3,zx e3 hsa2,zx e3 hla2,hb,hz,λxs hx=>r1 xs (by rwa[zr lak]at hx),λxs hx=>r2 xs (by rwa[zr sak]at hx)⟩
  generalize upd H4 k (.ins CK dx1 (vO b bl2 bd tl2))=H5 at KA5 T5 O5 f5 CL5;obtain⟨dx5,hk5⟩:=KA5.ob;refine⟨_,rfl,_,rfl,k,dx5,_,rfl,hk5,uK _ _ _ _,_,rfl,k,CK,dx5,_,_,rfl,hk5,cKeeper.cl,cKeeper.n_bound,Ui _ _ _ _,k,tl2,sa2,la2,b,bd,bl2,zs2,ws2,1,bd,rfl,KA5,hbd,T5,λL6 H6 KA6 m6 T6 ks6=>⟨(by show 2<=sizeLine;decide),λp hp=>?_⟩⟩;have s7:=zm hp (o:=.tup [.int (many (gd (zs.map (·.2)) b) bd:Nat),.int (many (gd (zs2.map (·.2)) b) bd:Nat)]);have O6:=(O5.trans (Off.aw (T:=T0) (k:=k) m6) (.inl (fr _ hla2)))
  obtain⟨lx6,hlx6⟩:=KA6.ta.la;have pla:p≠la2:=λz=>by rw[z,hlx6]at hp;cases hp
  have hp5:H5 p=none:=by
   cases e:H5 p with
   |none=>rfl
   |some o=>
    have:=Off.aw (T:=T0) (k:=k) m6;have hc':p∉[la2]:=by simpa using pla
    have:=m6 p o (by rw[zT hc'];exact e);rw[zT hc',hp]at this;cases this
  exact kk p tl2 sa2 la2 ws2 L6 _ (fr _ (f5 _ hp5)) zg (KA6.same s7) (λc o h1 h2 h3 e=>s7 _ _ (O6 c o h1 h2 h3 e)) (T6.same s7) (fr _ hla2) (fr _ hsa2) pla λc o e hc hb hz=>by
   obtain⟨o5,e5⟩:∃o5,H5 c=some o5:=by
    cases e':H5 c with
    |none=>rw[fr c (f5 c e')]at e;cases e
    |some o5=>exact⟨o5,rfl⟩
   have q6:=ks6 c o5 e5 (CL5 c o e hc hb hz);have e6:=zaZ m6 q6.nla e5;exact KA6.kps s7 c _ e6 q6
def KQ(T0 C CK:Addr)(H:Hp)(k la:Addr)(b bd:Nat)(zs:ZB)(ok:ZA->Prop)(Q:VK):Prop :=
 ∀p tl2 sa2 la2 bl2 zs2 ws2 L2 H',H p=none->H' p=some (.tup [.int (many (gd (zs.map (·.2)) b) bd:Nat),.int (many (gd (zs2.map (·.2)) b) bd:Nat)])->KpAt C CK H' k tl2 sa2 la2 b bd bl2 zs2 ws2 L2->ok (zs2.map (·.2))->Off T0 k la H H'->LT T0 H'->H la2=none->H sa2=none->H bl2=none->p≠la2->(∀c o,H c=some o->c≠k->(∀z∈zs,c≠z.1)->ClrK c H' k tl2 sa2 la2 bl2 zs2)->Q (.ref p) H'
theorem GoodRule.nodup(g:GoodRule b ls):ls.Nodup:=g.up.imp λ{x y} h z=>by rw[z,HT.yW]at h;cases h
theorem zeF{b:Nat}(hd:ThAt H d v)(hs:zJ b d=true):∃st,v=.ref st/\H st=some (.lst ((yE d).map V.int))/\VR b (yE d):=by
 obtain⟨l,rfl,h1,h2,h3⟩:=U0 hs;obtain⟨a,rfl,e⟩:=ThAt.figs (b:=b) hd (by unfold zJ at hs;rw[Bool.and_eq_true]at hs;exact hs.1);have el:yE (.list (l.map .int))=l:=by
  show (l.map PyData.int).map qD=l;rw[List.map_map]
  conv=>rhs;rw[<-List.map_id l]
  rfl
 rw[el]at e ⊢;exact⟨a,rfl,e,h1,h2,h3⟩
def zaY(T0 C CK xD xE:Addr):Sp:=λvs H Q E=>Ex6 λk tl sa la b bd=>Ex6 λbl zs ws L v d=>vs=[.ref k,v]/\KpAt C CK H k tl sa la b bd bl zs ws L/\bd<2^900/\LT T0 H/\ThAt H d v/\vX d<=100000/\(zs.length=4->E (.ref xE) none H) /\
 (zs.length≠4->zJ b d=false\/yE d∈zs.map (·.2)->∀H',Same H H'->E (.ref xD) none H')/\(zs.length≠4->zJ b d=true->yE d∉zs.map (·.2)->KQ T0 C CK H k la b bd zs (λls2=>ls2.Perm (zs.map (·.2)++[yE d])) Q)
theorem Uz:zE ["self","stretch"] ["self","stretch"] (zu wJ):={}
theorem zdT(D:Mt K CK "Keeper.come" "come" wJ Ag f fd)(MKeeper_turn_to:Mt K CK "Keeper.turn_to" "turn_to" yD Ap f1 fd1)(GKeeper_turn_to:FnOk P w K mg base CX0 9 f1 fd1 Ap (Xh T0 C CK))(yX:Df K mg "is_stretch" vf Ab f2 fd2)(xM:FnOk P w K mg base CX0 4 f2 fd2 Ab uP)(xf:mg "MOST_STRETCHES"= some (.int 4 t1))(cKeeper:ClK K mg CK)(qEj:VF K mg "NoStretch" xD)(qFa:VF K mg "TooMany" xE)(T:Blt mg):FnOk P w K mg base (CX1 P w) 10 f fd Ag (zaY T0 C CK xD xE):=by
 refine D.fn.ok1 Uz (λvs H Q E h=>?_) (λcdv A outer s H vs Q E hr h=>?_)
 ·obtain⟨k,tl,sa,la,b,bd,bl,zs,ws,L,v,d,rfl,_⟩:=h;rfl
 ·obtain⟨k,tl,sa,la,b,bd,bl,zs,ws,L,v,d,rfl,KA,hbd,hT,hd,hs,kM,kS,kG⟩:=h;have h4:zs.length<=4:=by have:=KA.gt.g.len;rwa[List.length_map]at this
  have HU:=YH hr;have g:=KA.gt.g;obtain⟨dx,hk⟩:=KA.ob;refine xm ?_;intro XX;let q1:Sq XX ((zq wJ).drop 2):=⟨_,zz (zH (Xc MKeeper_turn_to cKeeper.cl GKeeper_turn_to (hr.mono (by decide)) (pv 0) (zf (zA (zcU K HU) (by rfl) T.n_sorted boot_sorted (zf (zO vQ (wX K (pv 0)) (yc (zf (yR (j0 K) (by rfl) T.n_list boot_list (zf (pv 1) zj)) zj))) zj)) zj)))⟩
  let q2:Sq XX ((zq wJ).drop 1):=⟨_,zp (yP (PW.pt (Wh (vP (wC (zK yX xM (hr.mono (by decide)) (zf (wX K (pv 0)) (zf (pv 1) zj))))) (Z3 (zN (ze7 K HU) (pv 1) (wX K (pv 0)) (by with_unfolding_all rfl)))))
    (zz (j5 qEj jV rfl (zf qC zj)))
    ye) q1.p⟩
  refine⟨_,(zp (yP (zN Wb (zA (xZ K) (by rfl) T.n_len PySem.boot_len (zf (wX K (pv 0)) zj)) (xn (v:=.int 4) rfl xf ⟨_,rfl⟩) (zV _))
    (zz (j5 qFa jV rfl (zf qC zj)))
    ye) q2.p),?_⟩
  refine⟨_,rfl,k,CK,dx,_,_,rfl,hk,cKeeper.cl,cKeeper.n_bad,jR _ _ _ _,bl,_,rfl,.inl (SqL.of KA.li),rfl,_,rfl,?_⟩;rw[List.length_map];by_cases hl4:zs.length=4
  ·rw[decide_eq_true (by rw[hl4];rfl)];exact ym ⟨by show 1<=sizeLine;decide,kM hl4⟩
  rw[decide_eq_false (λz=>hl4 (by injection z with z;omega))];refine yr ?_;refine⟨_,rfl,k,CK,dx,_,_,rfl,hk,cKeeper.cl,cKeeper.n_base,jK _ _ _ _,_,rfl,b,v,d,rfl,hd,hs,λH1 s1=>⟨_,rfl,?_⟩⟩;cases hstr:zJ b d with
  |false=>exact ym ⟨by show 1<=sizeLine;decide,kS hl4 (.inl hstr) H1 s1⟩
  |true=>
  refine yr ?_;obtain⟨st,rfl,hst,gst⟩:=zeF hd hstr;have kk:=kG hl4 hstr;have kS:=λz=>kS hl4 (.inr z);have h3:zs.length<=3:=by omega
  generalize yE d=ns at hst gst kk kS;have KA1:=KA.same s1;have hk1:=s1 _ _ hk;refine⟨_,rfl,_,rfl,k,CK,dx,_,_,rfl,hk1,cKeeper.cl,cKeeper.n_bad,jR _ _ _ _,bl,_,(zs.map (·.2)).map yN,yN ns,rfl,SqL.of KA1.li,TrsAt.lists KA1.st,TrAt.ints (a:=st) (SqL.of (s1 _ _ hst)),Nat.le_trans (wg _) (by decide),_,rfl,?_⟩;rw[if_neg (by decide),Yq];by_cases hnot:ns∈zs.map (·.2)
  ·rw[decide_eq_true hnot];exact ym ⟨by show 1<=sizeLine;decide,kS hnot H1 s1⟩
  rw[decide_eq_false hnot];have kk:=kk hnot;refine yr ?_;refine⟨_,rfl,k,dx,_,rfl,hk1,uK _ _ _ _,?_⟩;refine⟨_,rfl,k,CK,dx,_,_,rfl,hk1,cKeeper.cl,cKeeper.n_bad,jR _ _ _ _,_,rfl,st,_,rfl,.inl (SqL.of (s1 _ _ hst)),λq hq=>⟨(by show 1<=sizeLine;decide),λl1 hl1=>?_⟩⟩;have s2:=s1.trans (zm hq (o:=.lst (ns.map V.int)));have s3:=s2.trans (zm hl1 (o:=.lst [.ref q]));have hq3:=zm hl1 (o:=.lst [.ref q]) _ _ (zg (H:=H1) (a:=q) (o:=.lst (ns.map V.int)));refine⟨bl,l1,_,_,rfl,rfl,s3 _ _ KA.li,zg,by rw[List.length_map];exact Nat.le_trans (show zs.length+1<=5 by omega) (by decide),λl2 hl2=>?_⟩;have s4:=s3.trans (zm hl2 (o:=.lst (zs.map (λz=>V.ref z.1)++[.ref q])));have hq4:=zm hl2 (o:=.lst (zs.map (λz=>V.ref z.1)++[.ref q])) _ _ hq3;have nd:((zs++[(q,ns)]).map (·.2)).Nodup:=by
   rw[List.map_append];refine List.nodup_append.mpr ⟨g.nodup,by simp,λx hx y hy=>?_⟩;have e:y=ns:=by simpa using hy
   rw[e];exact λz=>hnot (z▸hx)
  have hst4:∀z∈zs++[(q,ns)],upd (upd (upd H1 q (.lst (ns.map V.int))) l1 (.lst [.ref q])) l2 (.lst (zs.map (λz=>V.ref z.1)++[.ref q])) z.1=some (.lst (z.2.map V.int)):=λz hz=>by
   rcases List.mem_append.mp hz with hz | hz
   ·exact s4 _ _ (KA.st z hz)
   ·have e:z=(q,ns):=by simpa using hz
    subst e;exact hq4
  refine⟨l2,zs++[(q,ns)],rfl,SqL.of (by rw[zg];simp),by rw[List.length_append,List.length_singleton];omega,λz hz=>SqL.of (hst4 z hz),nd,λbq zs' hbq pm pw=>?_⟩;have s5:=zm hbq (o:=.lst (zs'.map λz=>V.ref z.1));have s15:=s4.trans s5;have hmem:∀z,z∈zs'↔z∈zs++[(q,ns)]:=λz=>pm.mem_iff;have gm:GoodRule b (zs'.map (·.2)):=⟨g.b2,g.b16,by rw[List.length_map,pm.length_eq,List.length_append,List.length_singleton];omega,λl hl=>by
   obtain⟨z,hz,rfl⟩:=List.mem_map.mp hl;rcases List.mem_append.mp ((hmem z).mp hz) with hz | hz
   ·exact g.st _ (List.mem_map.mpr ⟨z,hz,rfl⟩)
   ·have e:z=(q,ns):=by simpa using hz
    subst e;exact gst,by rw[List.pairwise_map];exact pw⟩
  have KA5:=KA.same s15;obtain⟨lx,hlx⟩:=KA.ta.la;have bqla:bq≠la:=λz=>by rw[z,s4 _ _ hlx]at hbq;cases hbq
  refine⟨k,tl,sa,la,b,bd,bl,zs,ws,L,bq,zs',rfl,KA5,hbd,hT.same s15,zg,λz hz=>s5 _ _ (hst4 z ((hmem z).mp hz)),gm,bqla,λp tl2 sa2 la2 ws2 L2 H' hp hv KA2 O2 T2 hla2 hsa2 pla cl2=>?_⟩;have hqH:H q=none:=s1.free hq;refine kk p tl2 sa2 la2 bq zs' ws2 L2 H' (s15.free hp) hv KA2 ?_ ((Off.of s15).trans O2 (.inr rfl)) T2 (s15.free hla2) (s15.free hsa2) (s4.free hbq) pla λc o e hc hz=>cl2 c o (s15 _ _ e) hc (zx e (s4.free hbq)) λz hzm=>by
   rcases List.mem_append.mp ((hmem z).mp hzm) with h | h
   ·exact hz z h
   ·have e':z=(q,ns):=by simpa using h
    subst e';exact zx e hqH
  have:=pm.map (·.2);rwa[List.map_append]at this
def zfl(T0 C CK xD:Addr):Sp:=λvs H Q E=>Ex6 λk tl sa la b bd=>Ex6 λbl zs ws L v d=>vs=[.ref k,v]/\KpAt C CK H k tl sa la b bd bl zs ws L/\bd<2^900/\LT T0 H/\ThAt H d v/\vX d<=100000 /\
 (zJ b d=false\/yE d∉zs.map (·.2)->∀H',Same H H'->E (.ref xD) none H')/\(zJ b d=true->yE d∈zs.map (·.2)->KQ T0 C CK H k la b bd zs (λls2=>ls2=(zs.map (·.2)).filter λl=>decide (l≠yE d)) Q)
theorem J0:zE ["self","stretch"] ["self","stretch"] (zu vU):={}
theorem zg9(D:Mt K CK "Keeper.go" "go" vU Ag f fd)(MKeeper_turn_to:Mt K CK "Keeper.turn_to" "turn_to" yD Ap f1 fd1)(GKeeper_turn_to:FnOk P w K mg base CX0 9 f1 fd1 Ap (Xh T0 C CK))(yX:Df K mg "is_stretch" vf Ab f2 fd2)(xM:FnOk P w K mg base CX0 4 f2 fd2 Ab uP)(cKeeper:ClK K mg CK)(qEj:VF K mg "NoStretch" xD)(T:Blt mg):FnOk P w K mg base (CX1 P w) 10 f fd Ag (zfl T0 C CK xD):=by
 refine D.fn.ok1 J0 (λvs H Q E h=>?_) (λcdv A outer s H vs Q E hr h=>?_)
 ·obtain⟨k,tl,sa,la,b,bd,bl,zs,ws,L,v,d,rfl,_⟩:=h;rfl
 ·obtain⟨k,tl,sa,la,b,bd,bl,zs,ws,L,v,d,rfl,KA,hbd,hT,hd,hs,kS,kG⟩:=h;have HU:=YH hr;have g:=KA.gt.g;obtain⟨dx,hk⟩:=KA.ob;refine xm ?_;intro XX;let q1:Sq XX ((zq vU).drop 1):=⟨_,zz (zH (Xc MKeeper_turn_to cKeeper.cl GKeeper_turn_to (hr.mono (by decide)) (pv 0) (zf (yx (show CScope (zu vU) _ "each" ["self","stretch"] ["stretch"] [1] from {}) rfl (ql K (wX K (pv 0))) (λ_ _ _ _=>(vK (zN (Y7 K HU) (pv 0) (pv 1) (zV _)))) (λ_ _ _ _=>(pv 0))) zj)))⟩
  refine⟨_,(zp (yP (PW.pt (Wh (vP (wC (zK yX xM (hr.mono (by decide)) (zf (wX K (pv 0)) (zf (pv 1) zj))))) (Z3 (zN (zaS K HU) (pv 1) (wX K (pv 0)) (by with_unfolding_all rfl)))))
    (zz (j5 qEj jV rfl (zf qC zj)))
    ye) q1.p),?_⟩
  refine⟨_,rfl,k,CK,dx,_,_,rfl,hk,cKeeper.cl,cKeeper.n_base,jK _ _ _ _,_,rfl,b,v,d,rfl,hd,hs,λH1 s1=>⟨_,rfl,?_⟩⟩;cases hstr:zJ b d with
  |false=>exact ym ⟨by show 1<=sizeLine;decide,kS (.inl hstr) H1 s1⟩
  |true=>
  refine yr ?_;obtain⟨st,rfl,hst,gst⟩:=zeF hd hstr;have kk:=kG hstr;have kS:=λz=>kS (.inr z);generalize yE d=ns at hst gst kk kS;have KA1:=KA.same s1;have hk1:=s1 _ _ hk;refine⟨_,rfl,_,rfl,k,CK,dx,_,_,rfl,hk1,cKeeper.cl,cKeeper.n_bad,jR _ _ _ _,bl,_,(zs.map (·.2)).map yN,yN ns,rfl,SqL.of KA1.li,TrsAt.lists KA1.st,TrAt.ints (a:=st) (SqL.of (s1 _ _ hst)),Nat.le_trans (wg _) (by decide),_,rfl,?_⟩;rw[if_pos rfl,Yq];by_cases hin:ns∈zs.map (·.2)
  case neg=>
   rw[decide_eq_false hin];exact ym ⟨by show 1<=sizeLine;decide,kS hin H1 s1⟩
  rw[decide_eq_true hin];have kk:=kk hin;refine yr ?_;refine⟨_,rfl,k,dx,_,rfl,hk1,uK _ _ _ _,?_⟩;refine⟨_,rfl,k,CK,dx,_,_,rfl,hk1,cKeeper.cl,cKeeper.n_bad,jR _ _ _ _,bl,rfl,⟨_,SqL.of KA1.li⟩,yt (K:=K) (a:=bl) (xs:=zs.map λz=>V.ref z.1) (λi ys H4=>H4=H1/\ys=((zs.take i).filter λz=>decide (z.2≠ns)).map λz=>V.ref z.1) ⟨rfl,rfl⟩ (λi ys H4 _ ⟨e,_⟩=>by rw[e];exact SqL.of KA1.li) ?_ ?_⟩
  ·rintro j x ys H4 hx ⟨rfl,rfl⟩;rw[List.getElem?_map]at hx;obtain⟨z,hzj,e⟩:=Option.map_eq_some_iff.mp hx;subst e;have hzm:=List.mem_of_getElem? hzj;have h4:zs.length<=4:=by have:=g.len;rwa[List.length_map]at this
   refine⟨by rw[List.length_map];exact Nat.lt_of_le_of_lt (Nat.le_trans (List.length_filter_le _ _) (Nat.le_trans (List.length_take_le' _ _) h4)) (by decide),?_⟩;refine⟨_,rfl,_,rfl,yN z.2,yN ns,TrAt.ints (a:=z.1) (SqL.of (KA1.st z hzm)),TrAt.ints (a:=st) (SqL.of (s1 _ _ hst)),(by rw[uI];decide),_,rfl,?_⟩;rw[if_pos rfl,uY,List.take_succ,hzj];by_cases e:z.2=ns
   ·rw[decide_eq_true e];refine yr ⟨rfl,?_⟩;simp[List.filter_append,e]
   ·rw[decide_eq_false e];refine ym ⟨_,rfl,rfl,?_⟩;simp[List.filter_append,e]
  rintro ys H4 ⟨rfl,rfl⟩ bq hbq;rw[List.length_map,List.take_length];have s5:=zm hbq (o:=.lst ((zs.filter λz=>decide (z.2≠ns)).map λz=>V.ref z.1));have s15:=s1.trans s5;have ef:(zs.filter λz=>decide (z.2≠ns)).map (·.2)=(zs.map (·.2)).filter λl=>decide (l≠ns):=by
   rw[List.filter_map];rfl
  have gm:GoodRule b ((zs.filter λz=>decide (z.2≠ns)).map (·.2)):=by
   rw[ef];exact⟨g.b2,g.b16,Nat.le_trans (List.length_filter_le _ _) g.len,λl hl=>g.st l (List.mem_filter.mp hl).1,g.up.sublist List.filter_sublist⟩
  obtain⟨lx,hlx⟩:=KA.ta.la;have bqla:bq≠la:=λz=>by rw[z,s1 _ _ hlx]at hbq;cases hbq
  refine⟨k,tl,sa,la,b,bd,bl,zs,ws,L,bq,zs.filter λz=>decide (z.2≠ns),rfl,KA.same s15,hbd,hT.same s15,zg,λz hz=>s15 _ _ (KA.st z (List.mem_filter.mp hz).1),gm,bqla,λp tl2 sa2 la2 ws2 L2 H' hp hv KA2 O2 T2 hla2 hsa2 pla cl2=>?_⟩;exact kk p tl2 sa2 la2 bq _ ws2 L2 H' (s15.free hp) hv KA2 ef ((Off.of s15).trans O2 (.inr rfl)) T2 (s15.free hla2) (s15.free hsa2) (s1.free hbq) pla λc o e hc hz=>cl2 c o (s15 _ _ e) hc (zx e (s1.free hbq)) λz hzm=>hz z (List.mem_filter.mp hzm).1
end
theorem Stq.aw(a:Stq s H H'):Same (aw [s] H) (aw [s] H'):=λb o e=>by
 have hb:b∉[s]:=λhb=>by rw[qZ hb]at e;cases e
 rw[zT hb]at e ⊢;exact a.sm b o (λz=>hb (by simp[z])) e
theorem Stq.lay(q:Stq s H H1)(m:Same H1 H2):Stq s H H2:=⟨by obtain⟨x,y,z,e⟩:=q.st;exact⟨x,y,z,m _ _ e⟩,λc o h e=>m _ _ (q.sm c o h e)⟩
theorem Stq.awM(q:Stq s H H')(M:List Addr):Same (L2.aw (s::M) H) (L2.aw (s::M) H'):=λc o e=>by
 have hc:c∉s::M:=λz=>by rw[qZ z]at e;cases e
 rw[zT hc]at e ⊢;exact q.sm c o (λz=>hc (by rw[z];exact List.mem_cons_self)) e
theorem Stq.out(q:Stq s H H')(hM:∀m∈M,H m≠none)(h:H' p=none):p∉s::M:=λz=>by
 have ns:p≠s:=q.st.ne h;rcases List.mem_cons.mp z with z | z
 ·exact ns z
 ·cases e:H p with
  |none=>exact hM p z e
  |some o=>rw[q.sm p o ns e]at h;cases h
def sVM(s:Addr)(M:List Addr)(H0:Hp):View:=⟨aw (s::M),λH=>Stq s H0 H/\∀m∈M,H0 m≠none,λh=>zL _ _ _ _ h,λ{H p} o ok hp=>⟨⟨ok.1.lay (zm hp),ok.2⟩,(zm hp).aw _,by rw[zT (ok.1.out ok.2 hp),zg]⟩⟩
section
variable {K:W.Frag} {s:Addr} {M:List Addr} {H0:Hp} {Γ:Cxt} {te:TE} {lo hi:Int} {x:Nat}
theorem YC(hd:Γ[x]?=some (some (za5 (.ref s))))(h:Tp (sVM s M H0) Γ te (tyI lo hi))(h1:1<=lo:=by first | decide | omega)(h2:hi<=1000:=by first | decide | omega):Tp (sVM s M H0) Γ (zd2 xO [] E0 (j8 (zgb x) (j8 te W0))) (tyI 0 (hi-1)):=fun σ H Q o f q=>by
 obtain⟨v,e,t⟩:=f.2 x _ hd;refine⟨v,e,h σ H _ o f λu H1 o1 s1 ⟨m,e1,a1,b1⟩=>⟨s,m,by rw[show v=V.ref s from t,e1];rfl,o1.1.st,by omega,Int.lt_of_le_of_lt (Int.le_trans b1 h2) (by decide +kernel),λr H' hr S=>q _ H' ⟨o1.1.trans S,o1.2⟩ (s1.trans (S.awM M)) ⟨r,rfl,by omega,by omega⟩⟩⟩
end
abbrev tyF(b:Nat)(lo:Nat):Ty:=wN (tyI 0 (b-1)) lo 4
theorem tyF.ofL{b lo:Nat}{l:List Int}(h:G a=some (.lst (l.map V.int)))(h1:lo<=l.length)(h4:l.length<=4)(hf:∀i∈l,0<=i/\i<(b:Int)):(tyF b lo).p G (.ref a):=⟨a,_,rfl,h,by rw[List.length_map];exact h1,by rw[List.length_map];exact h4,λu hu=>by
 obtain⟨i,hi,rfl⟩:=List.mem_map.mp hu;exact⟨i,rfl,(hf i hi).1,by have:=(hf i hi).2;omega⟩⟩
theorem zf7(ls:ZA):teq (.lst (ls.map yN)) (.lst [])=decide (ls=[]):=by
 cases ls with
 |nil=>rfl
 |cons l ls=>simp[teq,tW]
section
variable {w:View} {Γ:Cxt} {te:TE} {K:W.Frag} {x b lo:Nat}
theorem WD(b16:b<=16)(h:Tp w Γ te (tyF b lo)):Tp w Γ te (tyL 1 100 lo 4):=Tp.leL (Tp.ofLI h (by decide) (by omega))
theorem zes(h:Tp w Γ te (tyF b lo)):Tp w Γ (tCB (λxs H Q=>∃p ys,xs=[.ref p]/\(SqL K H p ys\/SqT K H p ys)/\∀l,H l=none->Q (.ref l) (upd H l (.lst ys))) (j8 te W0)) (tyF b lo):=fun σ H Q o f q=>h σ H _ o f λv H1 o1 s1 ⟨a,vs,e,g,l1,l2,r⟩=>⟨a,_,by rw[e],.inl (SqL.of (w.out g)),λp hp=>by
 obtain⟨o2,s2,e2⟩:=w.new (.lst vs) o1 hp;exact q (.ref p) _ o2 (s1.trans s2) ⟨p,vs,rfl,e2,l1,l2,λu hu=>(tyI 0 (b-1)).mo s2 (r u hu)⟩⟩
end
section
variable {P:Program} {w:World} {K:W.Frag} {mg:Str->Option Value} {base:Heap}
def Zq:Sp:=λvs H Q _=>Ex6 λs r M b bl zs=>vs=[.ref s,.ref r]/\Sto H s/\(∀m∈M,H m≠none)/\RuleAt (aw (s::M) H) r b bl zs/\GoodRule b (zs.map (·.2))/\∀(t:Addr) (door:Nat) (u:V) (d:PyData) (H':Hp),Stq s H H'->Same (aw (s::M) H) (aw (s::M) H')->aw (s::M) H' t=some (.tup [.int door,u])->door<=1->ThAt (aw (s::M) H') d u->Fit 3 2000 d->Q (.ref t) H'
theorem yw:zE ["store","rule","base","bad","way","stretch","one","some","at","odd","wrong"] ["store","rule"] (zu jn):={}
set_option maxHeartbeats 0 in
theorem J9(D:Df K mg "_law_deed" jn A5 f fd)(zB:Df K mg "_law_take" yf Ae f1 fd1)(yj:Df K mg "_law_stretch" yG Aj f2 fd2)(T:Blt mg):FnOk P w K mg base CX0 3 f fd A5 Zq:=by
 have zM:FnOk P w K mg base CX0 1 f1 fd1 Ae xO:=vg zB T;have jC:FnOk P w K mg base CX0 2 f2 fd2 Aj tK:=ZR yj zB T;refine D.fn.ok yw (λvs H Q E h=>?_) (λcdv A outer s H vs Q E hr h=>?_)
 ·obtain⟨s,r,M,b,bl,zs,rfl,_⟩:=h;rfl
 ·obtain⟨s,r,M,b,bl,zs,rfl,St,hM,R,g,kk⟩:=h;have HU:=YH hr;have b2:=g.b2;have b16:=g.b16;have h4:zs.length<=4:=by have:=g.len;rwa[List.length_map]at this
  refine⟨_,(zp (Xp (pv 1) (XC rfl (xN (yh (i:=2) yw.nd rfl (Or.inl rfl)) (xN (yh (i:=3) yw.nd rfl (Or.inl rfl)) Zk))))
   (zp (zG (i:=4) yw.nd rfl (Or.inl rfl) (zK zB zM (hr.mono (by decide)) (zf (pv 0) (zf zy zj))))
   (zp (zG (i:=5) yw.nd rfl (Or.inl rfl) (zK yj jC (hr.mono (by decide)) (zf (pv 0) (zf (pv 2) (zf (zA (Va rfl) (by rfl) T.n_min boot_min (zf (pv 2) (zf (zO wK zy (zK zB zM (hr.mono (by decide)) (zf (pv 0) (zf zy zj)))) zj))) zj)))))
   (zp (zeR (yP (PW.pt (zav (zN (Y7 K HU) (pv 3) (yc zj) (zV _)) (VN (zN (zht K HU) (pv 4) (wu (zf zy (zf zy (zf zy (zf zy zj))))) (by with_unfolding_all rfl)))))
    (zp (zG (i:=6) yw.nd rfl (Or.inl rfl) (zR (yo K) (pv 3) (zK zB zM (hr.mono (by decide)) (zf (pv 0) (zf (zA (xZ K) (by rfl) T.n_len PySem.boot_len (zf (pv 3) zj)) zj))) (λ_ _=>rfl)))
    (zp (zcC (i:=7) yw.nd rfl (Or.inl rfl) (Zy (zU (pei (pv 6)) (zU (pei (pv 6)) (zU (pei (Vt (pv 6))) (zU (pei (xg (jP K) (pv 6) (xG zy) wZ)) (zU (pei (xg (jP K) (zO vQ (pv 6) (yc (zf (zK zB zM (hr.mono (by decide)) (zf (pv 0) (zf (pv 2) zj))) zj))) wZ (xG zy))) (zU (pei (pv 6)) jk))))))))
    (zz (zG (i:=5) yw.nd rfl (Or.inl rfl) (yR (j0 K) (by rfl) T.n_list boot_list (zf (zR (yo K) (pv 7) (zK zB zM (hr.mono (by decide)) (zf (pv 0) (zf zy zj))) (λ_ _=>rfl)) zj))))))
    ye))
   (zp (zeR (yP (zN Wb (pv 4) zy (zV _))
    (zp (zG (i:=8) yw.nd rfl (Or.inl rfl) (zK zB zM (hr.mono (by decide)) (zf (pv 0) (zf (zA (xZ K) (by rfl) T.n_len PySem.boot_len (zf (pv 5) zj)) zj))))
    (zp (zG (i:=9) yw.nd rfl (Or.inl rfl) (zeh (yo K) (Zy (zU (pei (pv 2)) (zU (pei (zcR JR zy)) (zU (pei qN) (zU (pei qN) (zU (pei vC) (w6 (zU (Zy (zU tV jk)) (zU (pei (zO zet zy zy)) jk))))))))) (zK zB zM (hr.mono (by decide)) (zf (pv 0) (zf zy zj))) (λ_ _=>rfl)))
    (zp (zcC (i:=10) yw.nd rfl (Or.inl rfl) (Zy (zU (pei (zO vQ (zO vQ (xg (jP K) (pv 5) wZ (xG (pv 8))) (yc (zf (pv 9) zj))) (xg (jP K) (pv 5) (xG (zO wK (pv 8) zy)) wZ))) (zU (Zy jk) (zU (pei (zO zeq (yc (zf zy zj)) zy)) (zU (pei (yR jA (by rfl) T.n_tuple boot_tuple (zf (pv 5) zj))) (zU (pei vC) jk)))))))
    (zz (zG (i:=5) yw.nd rfl (Or.inl rfl) (zR (yo K) (zgE vQ (pv 10) (Zy (w6 (zU tV (zU (pei ze9) (zU (pei qN) (zU (pei (yc (zf (pv 5) zj))) jk))))))) (zK zB zM (hr.mono (by decide)) (zf (pv 0) (zf zy zj))) (λ_ _=>rfl)))))))
    ye))
   (zz (zH (wu (zf (zeh (yo K) (Zy (zU tV (zU tV (zU tV (zU tV (zU tV (zU (pei (zK zB zM (hr.mono (by decide)) (zf (pv 0) (zf zy zj)))) (zU tV (zU tV jk))))))))) (pv 4) (λ_ _=>rfl)) (zf (pv 5) zj)))))))))),?_⟩
  refine⟨_,rfl,r,_,rfl,SqT.of (zL _ _ _ _ R.tu),rfl,_,_,rfl,_,_,rfl,rfl,?_⟩;refine⟨_,rfl,s,8,rfl,St,by decide,by decide,λway H1 hway q1=>?_⟩;refine⟨_,rfl,_,rfl,_,rfl,_,rfl,s,2,rfl,q1.st,by decide,by decide,λx H2 hx q2=>⟨_,_,rfl,rfl,_,_,rfl,?_⟩⟩;obtain⟨few,hfew,f1,f2⟩:∃few:Nat,(if (2+(x:Int))<(b:Int) then (2+(x:Int)) else (b:Int))=(few:Int)/\2<=few/\few<=b:=by
   by_cases z:2+x<b
   ·exact⟨2+x,by rw[if_pos (by omega)];omega,by omega,by omega⟩
   ·exact⟨b,by rw[if_neg (by omega)],by omega,by omega⟩
  rw[hfew];refine⟨s,b,few,rfl,q2.st,f1,f2,b16,λl ms H3 q3 hl hl3 gms=>?_⟩;have q13:=(q1.trans q2).trans q3;have m3:=q13.awM M;have S3:=q13;have nls:l∉s::M:=(q1.trans q2).out hM hl;have R3:=R.same m3;have tl3:(tyF b 1).p (aw (s::M) H3) (.ref l):=tyF.ofL (by rw[zT nls];exact hl3) (List.length_pos_iff.mpr gms.ne) gms.len gms.fig;refine⟨fun σ H'=>∃(vst:V) (v6 v7 v8 v9 v10:Option V),σ=[some (.ref s),some (.ref r),some (.int b),some (.ref bl),some (.int way),some vst,v6,v7,v8,v9,v10]/\Stq s H H'/\Same (aw (s::M) H) (aw (s::M) H')/\(tyF b (if way=5 then 1 else 0)).p (aw (s::M) H') vst,?_,?_⟩
  ·refine⟨_,rfl,(by show 0<=sizeLine;decide),λle hle=>⟨.lst ((zs.map (·.2)).map yN),.lst [],?_,?_,?_,_,rfl,?_⟩⟩
   ·rw[TrAt];exact⟨bl,_,rfl,SqL.of (zm hle _ _ (zL _ _ _ _ R3.li)),TrsAt.lists λz hz=>zm hle _ _ (zL _ _ _ _ (R3.st z hz))⟩
   ·rw[TrAt];exact⟨le,_,rfl,SqL.of zg,by rw[TrsAt]⟩
   ·have:=wg (zs.map (·.2));simp only[vG];omega
   have k4:=zm hle (o:=.lst []);have m4:=m3.trans (k4.aw (s::M));have S4:=S3.lay k4;have tl4:=(tyF b 1).mo (k4.aw (s::M)) tl3;have R4:=R.same m4;generalize upd H3 le (.lst [])=H4 at k4 m4 S4 tl4 R4 ⊢;have low:∀{G:Hp} {v:V},(tyF b 1).p G v->(tyF b (if way=5 then 1 else 0)).p G v:=λ⟨a,vs,e,h,l1,l2,r⟩=>⟨a,vs,e,h,by split<;>omega,l2,r⟩
   rw[zf7];by_cases hnil:zs.map (·.2)=[]
   ·rw[decide_eq_true hnil];exact yr ⟨_,_,_,_,_,_,rfl,S4,m4,low tl4⟩
   rw[decide_eq_false hnil];refine ym ?_;refine⟨_,rfl,(by show 4<=sizeLine;decide),λtu htu=>⟨tu,_,[.int 1,.int 2,.int 3,.int 4],.int way,rfl,SqT.of zg,?_,by rw[TrAt],by simp[xq,vG],_,rfl,?_⟩⟩
   ·rw[TrsAt];refine⟨_,_,rfl,by rw[TrAt],?_⟩;rw[TrsAt];refine⟨_,_,rfl,by rw[TrAt],?_⟩;rw[TrsAt];refine⟨_,_,rfl,by rw[TrAt],?_⟩;rw[TrsAt];exact⟨_,_,rfl,by rw[TrAt],by rw[TrsAt]⟩
   have k5:=zm htu (o:=.tup [.int 1,.int 2,.int 3,.int 4]);have m5:=m4.trans (k5.aw (s::M));have S5:=S4.lay k5;have tl5:=(tyF b 1).mo (k5.aw (s::M)) tl4;have R5:=R.same m5;generalize upd H4 tu (.tup [.int 1,.int 2,.int 3,.int 4])=H5 at k5 m5 S5 tl5 R5 ⊢;cases hin:([Tr.int 1,.int 2,.int 3,.int 4].any λt=>teq t (.int way)) with
   |false=>exact yr ⟨_,_,_,_,_,_,rfl,S5,m5,low tl5⟩
   |true=>
    refine ym ?_;have w5:¬ way=5:=λz=>by rw[z]at hin;simp[teq]at hin
    rw[if_neg w5];have hz1:0<zs.length:=List.length_pos_iff.mpr (λz=>hnil (by rw[z];rfl));refine⟨_,rfl,_,rfl,_,rfl,bl,_,rfl,.inl (SqL.of (zL _ _ _ _ R5.li)),s,_,rfl,S5.st,by rw[List.length_map];omega,by rw[List.length_map];exact Int.lt_of_le_of_lt (show (zs.length:Int)<=4 by omega) (by decide +kernel),λx6 H6 hx6 q6=>?_⟩;rw[List.length_map]at hx6;obtain⟨z,hz⟩:∃z,zs[x6]?=some z:=⟨_,List.getElem?_eq_getElem (by omega)⟩
    have hzm:=List.mem_of_getElem? hz;have gz:=g.st z.2 (List.mem_map.mpr ⟨z,hzm,rfl⟩);have m6:=m5.trans (q6.awM M);have S6:=S5.trans q6;have R6:=R.same m6;refine⟨bl,_,_,.ref z.1,rfl,rfl,SqL.of (zL _ _ _ _ R6.li),yV (by rw[List.getElem?_map,hz];rfl),?_⟩;have to6:(tyF b 1).p (aw (s::M) H6) (.ref z.1):=tyF.ofL (R6.st z hzm) (List.length_pos_iff.mpr gz.ne) gz.len gz.fig;refine Tp.asg2 (w:=sVM s M H) (Γ:=[some (za5 (.ref s)),none,some (tyI b b),none,none,none,some (tyF b 1),none,none,none,none]) (T1:=wN (tyF b 0) 6 6) (Tp.lstT (TpB.cons (Tp.wideL (Tp.var rfl) (λ_ _ t=>t) (by decide) (by decide)) (TpB.cons (Tp.wideL (Tp.var rfl) (λ_ _ t=>t) (by decide) (by decide)) (TpB.cons (Tp.wideL (Tp.rev (Tp.var rfl)) (λ_ _ t=>t) (by decide) (by decide)) (TpB.cons (Tp.sl (Tp.var rfl) (TpO.some Tp.int) TpO.none) (TpB.cons (Tp.takeU (c:=4) (Tp.catT (Tp.var rfl) (Tp.lstT (TpB.cons (YC rfl (Tp.var rfl)) TpB.nil)))) (TpB.cons (Tp.wideL (Tp.var rfl) (λ_ _ t=>t) (by decide) (by decide)) TpB.nil))))))) ⟨S6,hM⟩ (Fits.cons rfl (Fits.skip (Fits.cons ⟨b,rfl,Int.le_refl _,Int.le_refl _⟩ (Fits.skip (Fits.skip (Fits.skip (Fits.cons to6 (Fits.any _)))))))) λvs7 H7 S7 m7 t7=>?_;refine (zes (w:=sVM s M H) (Γ:=[some (za5 (.ref s)),none,none,none,none,none,none,some (wN (tyF b 0) 6 6),none,none,none]) (Tp.ix (Tp.var rfl) (YC rfl Tp.int) (by decide))) _ H7 _ S7 (Fits.cons rfl (Fits.skip (Fits.skip (Fits.skip (Fits.skip (Fits.skip (Fits.skip (Fits.cons t7 (Fits.any _))))))))) λv8 H8 S8 m8 t8=>?_;exact⟨_,_,_,_,_,_,rfl,S8.1,m6.trans (Same.trans m7 m8),t8⟩
  ·rintro σ H4 ⟨vst,v6,v7,v8,v9,v10,rfl,S4,m4,t4⟩;refine⟨fun σ H'=>∃(vst:V) (v6 v7 v8 v9 v10:Option V),σ=[some (.ref s),some (.ref r),some (.int b),some (.ref bl),some (.int way),some vst,v6,v7,v8,v9,v10]/\Stq s H H'/\Same (aw (s::M) H) (aw (s::M) H')/\(ZK 3 2000).p (aw (s::M) H') vst,?_,?_⟩
   ·refine⟨_,rfl,rfl,_,rfl,?_⟩;by_cases hw5:way=5
    ·rw[decide_eq_true (by rw[hw5];rfl)];refine ym ?_;rw[if_pos hw5]at t4;have hb25:(b:Int)<=10^Int.toNat 25:=Int.le_trans (show (b:Int)<=16 by omega) (by decide);refine Tp.asg2 (w:=sVM s M H) (Γ:=[some (za5 (.ref s)),none,none,none,none,some (tyF b 1),none,none,none,none,none]) (T1:=tyI 0 3) (Tp.wide (YC rfl (Tp.len (Tp.var rfl))) (by decide) (by decide)) ⟨S4,hM⟩ (Fits.cons rfl (Fits.skip (Fits.skip (Fits.skip (Fits.skip (Fits.cons t4 (Fits.any _))))))) λva H5 S5 m5 t5=>?_;have t45:=(tyF b 1).mo m5 t4;refine Tp.asg2 (w:=sVM s M H) (Γ:=[some (za5 (.ref s)),none,some (tyI b b),none,none,none,none,none,none,none,none]) (T1:=ZK 1 200) (Tp.ix (Tp.lstT (TpB.cons (Tp.le (Tp.ofI (Tp.var rfl) (by omega) (by omega)) (by decide) (by decide)) (TpB.cons (Tp.le (Tp.ofI (Tp.neg Tp.int)) (by decide) (by decide)) (TpB.cons (Tp.le Tp.bl (by decide) (by decide)) (TpB.cons (Tp.le Tp.bl (by decide) (by decide)) (TpB.cons (Tp.le Tp.non (by decide) (by decide)) (TpB.cons (Tp.le (Tp.str (by decide +kernel) (by decide +kernel)) (by decide) (by decide)) (TpB.cons (Tp.le (Tp.ofL (Tp.lst (TpA.cons (Tp.ofI Tp.int) TpA.nil))) (by decide) (by decide)) (TpB.cons (Tp.le (Tp.ofI (Tp.pow ⟨by decide,by decide,by decide⟩)) (by decide) (by decide)) TpB.nil))))))))) (YC rfl Tp.int) (by decide)) S5 (Fits.cons rfl (Fits.skip (Fits.cons ⟨b,rfl,Int.le_refl _,Int.le_refl _⟩ (Fits.any _)))) λvo H6 S6 m6 t6=>?_;have t46:=(tyF b 1).mo m6 t45;have t56:=(tyI 0 3).mo m6 t5;refine Tp.asg2 (w:=sVM s M H) (Γ:=[some (za5 (.ref s)),none,none,none,none,some (tyF b 1),none,none,some (tyI 0 3),some (ZK 1 200),none]) (T1:=wN (ZK 3 2000) 5 5) (Tp.lstT (TpB.cons (Tp.le (Tp.ofL (Tp.catT (Tp.catT (Tp.sl (Tp.leL (k':=1) (n':=200) (WD b16 (Tp.var rfl))) TpO.none (TpO.some (Tp.var rfl))) (Tp.lstT (TpB.cons (Tp.var rfl) TpB.nil))) (Tp.sl (Tp.leL (k':=1) (n':=200) (WD b16 (Tp.var rfl))) (TpO.some (Tp.add (Tp.var rfl) Tp.int)) TpO.none))) (by decide) (by decide)) (TpB.cons (Tp.le (Tp.ofL (Tp.lst TpA.nil)) (by decide) (by decide)) (TpB.cons (Tp.le (Tp.ofL (Tp.rep (c:=5) (c':=5) (Tp.lst (TpA.cons (Tp.ofI Tp.int) TpA.nil)) Tp.int)) (by decide) (by decide)) (TpB.cons (Tp.le (Tp.tupOf (WD b16 (Tp.var rfl))) (by decide) (by decide)) (TpB.cons (Tp.le Tp.non (by decide) (by decide)) TpB.nil)))))) S6 (Fits.cons rfl (Fits.skip (Fits.skip (Fits.skip (Fits.skip (Fits.cons t46 (Fits.skip (Fits.skip (Fits.cons t56 (Fits.cons t6 (Fits.any _))))))))))) λvw H7 S7 m7 t7=>?_;have t47:=(tyF b 1).mo m7 t46;refine (Tp.ix (w:=sVM s M H) (Γ:=[some (za5 (.ref s)),none,none,none,none,some (tyF b 1),none,none,none,none,some (wN (ZK 3 2000) 5 5)]) (T:=ZK 3 2000) (Tp.catT (Tp.var rfl) (Tp.lstT (TpB.cons (Tp.le (Tp.str (by decide +kernel) (by decide +kernel)) (by decide) (by decide)) (TpB.cons (Tp.le (Tp.ofI Tp.int) (by decide) (by decide)) (TpB.cons (Tp.le Tp.emp (by decide) (by decide)) (TpB.cons (Tp.le Tp.bl (by decide) (by decide)) (TpB.cons (Tp.le (Tp.ofL (Tp.lst (TpA.cons (Tp.ofL (WD b16 (Tp.var rfl))) TpA.nil))) (by decide) (by decide)) TpB.nil))))))) (YC rfl Tp.int) (by decide)) _ H7 _ S7 (Fits.cons rfl (Fits.skip (Fits.skip (Fits.skip (Fits.skip (Fits.cons t47 (Fits.skip (Fits.skip (Fits.skip (Fits.skip (Fits.cons t7 Fits.nil))))))))))) λv8 H8 S8 m8 t8=>?_;exact⟨_,_,_,_,_,_,rfl,S8.1,m4.trans (Same.trans m5 (Same.trans m6 (Same.trans m7 m8))),t8⟩
    ·rw[decide_eq_false (λz=>hw5 (by injection z with z;omega))];refine yr ⟨_,_,_,_,_,_,rfl,S4,m4,?_⟩;rw[if_neg hw5]at t4;obtain⟨v9,e9,q9⟩:=(Tp.le (Tp.ofL (WD b16 (Tp.var (w:=idV) (Γ:=[some (tyF b 0)]) (x:=0) rfl))) (by decide) (by decide)) [some vst] _ (λv G=>(ZK 3 2000).p G v) trivial (Fits.cons t4 Fits.nil) λv G _ m t=>t;cases e9;exact q9
   ·rintro σ H5 ⟨vst5,u6,u7,u8,u9,u10,rfl,S5,m5,t5⟩;refine (Tp.ix (w:=sVM s M H) (Γ:=[some (za5 (.ref s)),none,none,none,some (tyI 0 7),none,none,none,none,none,none]) (T:=tyI 0 1) (Tp.lstT (TpB.cons (Tp.wide Tp.int (by decide) (by decide)) (TpB.cons (Tp.wide Tp.int (by decide) (by decide)) (TpB.cons (Tp.wide Tp.int (by decide) (by decide)) (TpB.cons (Tp.wide Tp.int (by decide) (by decide)) (TpB.cons (Tp.wide Tp.int (by decide) (by decide)) (TpB.cons (Tp.wide (YC rfl Tp.int) (by decide) (by decide)) (TpB.cons (Tp.wide Tp.int (by decide) (by decide)) (TpB.cons (Tp.wide Tp.int (by decide) (by decide)) TpB.nil))))))))) (Tp.var rfl) (by decide)) _ H5 _ ⟨S5,hM⟩ (Fits.cons rfl (Fits.skip (Fits.skip (Fits.skip (Fits.cons ⟨way,rfl,by omega,by omega⟩ (Fits.any _)))))) λvd H6 S6 m6 t6=>?_;obtain⟨i,rfl,i0,i1⟩:=t6;refine⟨_,rfl,(by show 2<=sizeLine;decide),λt ht=>?_⟩;have k7:=zm ht (o:=.tup [.int i,vst5]);obtain⟨d,td,fd⟩:=(ZK 3 2000).mo (Same.trans m6 (k7.aw (s::M))) t5;refine kk t i.toNat vst5 d _ (S6.1.lay k7) (m5.trans (Same.trans m6 (k7.aw (s::M)))) ?_ (by omega) td fd;rw[zT (S6.1.out hM ht),show ((i.toNat:Nat):Int)=i by omega];exact zg
end
end Lw
namespace L2
open PySem PySem.Spec PyProof.Rows PySem.SeqAt
section
variable {X:Cx} {K:W.Frag}
def zhv(K:W.Frag):R2:=λx y H Q=>Ex3 λa b xs=>x=.ref a/\y=.ref b/\SqL K H a xs/\SqL K H b []/\Q (.bl xs.isEmpty) H
theorem zeC(hu:X.A.units+64<cLine):OpR X (compareOp .Eq) (zhv X.K):=by
 intro pins s σ H x y v u Q I rx ry h;obtain⟨a,b,xs,rfl,rfl,h1,h2,q⟩:=h;cases rx
 cases ry;obtain⟨its,r1,p1,_⟩:=I.list h1
 obtain⟨its2,r2,p2,_⟩:=I.list h2;have m2:=r2.length;have hA:X.A.units<cLine:=by omega
 cases r2;cases r1 with
 |nil=>
  have q1:=RcAt.lists (e:=λ_=>true) p1.isList p2.isList rfl hA (λj h=>absurd h (by simp));exact q1 _ _ _ _ ⟨.bl _,H,I,rfl,q⟩
 |cons r rs=>
  have q1:=RcAt.lists_lengths (A:=X.A) (s:=s) p1.isList p2.isList (by rw[bne_iff_ne];simp) hA;exact q1 _ _ _ _ ⟨.bl _,H,I,rfl,q⟩
theorem zfL(hu:X.A.units+64<cLine)(e:X.K=K:=by rfl):OpR X (compareOp .Eq) (zhv K):=by subst e;exact zeC hu
end
end L2
namespace Lw
open PySem L2 PyProof.Rows
section
variable {P:Program} {w:World} {K:W.Frag} {mg:Str->Option Value} {base:Heap}
def qP:Sp:=λvs H Q _=>Ex3 λ(b:Nat) (v:V) (d:PyData)=>vs=[.int b,v]/\ThAt H d v/\vX d<=100000/\∀H',Same H H'->Q (.bl (zJ b d)) H'
theorem Xm:zE ["base","thing"] ["base","thing"] (zu yF):={}
theorem Xz(D:Df K mg "_law_is_stretch" yF Ab f fd)(T:Blt mg):FnOk P w K mg base CX0 1 f fd Ab qP:=by
 refine D.fn.ok Xm (λvs H Q E h=>?_) (λcdv A outer s H vs Q E hr h=>?_)
 ·obtain⟨b,v,d,rfl,_⟩:=h;rfl
 ·obtain⟨b,v,d,rfl,hd,hs,kk⟩:=h;have HU:=YH hr;refine xm ?_;intro XX;let q1:Sq XX ((zq yF).drop 1):=⟨_,zz (zH (ur (zfL (K:=K) HU) (yx (show CScope (zu yF) _ "one" ["base","thing"] ["base"] [0] from {}) rfl (ql K (pv 1)) (λ_ _ _ _=>(vK (PW.pt (Wh (vP (wC (zA (Z5 K) (by rfl) T.n_isinstance boot_isinstance (zf (pv 0) (zf (vL (v:=.ty "int") rfl T.n_int boot_int rfl) zj))))) (Wh (wC (zA (Z5 K) (by rfl) T.n_isinstance boot_isinstance (zf (pv 0) (zf (vL (v:=.ty "bool") rfl T.n_bool boot_bool rfl) zj)))) (Z3 (vP (za8 Us zbn zy (pv 0) (pv 1))))))))) (λ_ _ _ _=>(pv 0))) (yc zj) (zV _)))⟩
  refine⟨_,(zp (yP (PW.pt (Wh (vP (wC (zA (Z5 K) (by rfl) T.n_isinstance boot_isinstance (zf (pv 1) (zf (vL (v:=.ty "list") rfl T.n_list boot_list rfl) zj))))) (Z3 (vP (za8 zbn zbn zy (zA (xZ K) (by rfl) T.n_len PySem.boot_len (zf (pv 1) zj)) zy)))))
    (zz (zH qN))
    ye) q1.p),?_⟩
  refine⟨_,rfl,_,_,_,_,rfl,hd.ty,Ud d,_,rfl,?_⟩;cases hl:isT "list" d with
  |false=>
   have q:=kk H (Same.refl _);rw[show zJ b d=false by cases d<;>first | rfl | cases hl]at q;exact ym q
  |true=>
   obtain⟨xs,rfl⟩:=Ub hl;rw[ThAt]at hd;obtain⟨a,ys,rfl,ha,hx⟩:=hd;rw[vX]at hs;refine yr ?_;have hyl:=hx.len;have no:¬ (1<=xs.length/\xs.length<=4)->zJ b (.list xs)=false:=λz=>by
    unfold zJ;rw[show decide (1<=(YL (.list xs)).length/\(YL (.list xs)).length<=4)=false from decide_eq_false z,Bool.and_false]
   refine⟨_,rfl,a,_,rfl,.inl (SqL.of ha),_,_,rfl,rfl,_,rfl,?_⟩;by_cases h0:0<ys.length
   case neg=>
    rw[decide_eq_false (show ¬ (0:Int)<(ys.length:Int) by omega)];have q:=kk H (Same.refl _);rw[no (by omega)]at q;exact yr ⟨_,rfl,ym q⟩
   rw[decide_eq_true (show (0:Int)<(ys.length:Int) by omega)];refine ym ⟨_,_,rfl,rfl,_,rfl,?_⟩;by_cases h5:ys.length<5
   case neg=>
    rw[decide_eq_false (show ¬ (ys.length:Int)<5 by omega)];have q:=kk H (Same.refl _);rw[no (by omega)]at q;exact ym q
   rw[decide_eq_true (show (ys.length:Int)<5 by omega)];refine yr ?_;refine⟨_,rfl,a,rfl,⟨_,SqL.of ha⟩,yt (K:=K) (a:=a) (xs:=ys) (λi us H4=>us.isEmpty=(xs.take i).all (WF b)/\us.length<=i/\H4=H) ⟨rfl,Nat.le_refl _,rfl⟩ (λi us H4 _ ⟨_,_,e⟩=>by rw[e];exact SqL.of ha) ?_ ?_⟩
   ·rintro j x us H4 hj ⟨hus,hul,rfl⟩;obtain⟨e,hej,he⟩:=hx.get hj;have hj5:=(List.getElem?_eq_some_iff.mp hj).1;refine⟨Nat.lt_of_le_of_lt hul (Nat.lt_trans hj5 (Nat.lt_trans h5 (by decide))),?_⟩;have tk:(xs.take (j+1)).all (WF b)=((xs.take j).all (WF b) && WF b e):=by rw[List.take_succ,hej];simp
    have bad:WF b e=false->((us++[x]).isEmpty=(xs.take (j+1)).all (WF b)/\(us++[x]).length<=j+1/\H4=H4):=λz=>⟨by rw[tk,z,Bool.and_false];simp,by rw[List.length_append,List.length_singleton];omega,rfl⟩
    refine⟨_,rfl,_,_,_,_,rfl,he.ty,zcl e,_,rfl,?_⟩;cases hi:isT "int" e with
    |false=>exact ym (ym ⟨_,rfl,bad (by cases e<;>first | rfl | cases hi)⟩)
    |true=>
     refine yr ⟨_,rfl,_,_,_,_,rfl,he.ty,zba e,_,rfl,?_⟩;cases hb:isT "bool" e with
     |true=>exact ym (ym ⟨_,rfl,bad (by cases e<;>first | rfl | cases hb)⟩)
     |false=>
      obtain⟨i,rfl⟩:∃i,e=.int i:=by cases e<;>first | exact⟨_,rfl⟩ | (cases hb;done) | (cases hi;done)
      rw[ThAt]at he;subst he;refine yr ⟨_,rfl,_,_,rfl,rfl,_,rfl,?_⟩;by_cases z0:0<=i
      case neg=>
       rw[decide_eq_false z0];exact yr ⟨_,rfl,ym ⟨_,rfl,bad (decide_eq_false λz=>z0 z.1)⟩⟩
      rw[decide_eq_true z0];refine ym ⟨_,rfl,_,_,rfl,rfl,_,rfl,?_⟩;by_cases z1:i<(b:Int)
      ·rw[decide_eq_true z1];exact yr ⟨by rw[tk,hus,show WF b (.int i)=true from decide_eq_true ⟨z0,z1⟩,Bool.and_true],by omega,rfl⟩
      ·rw[decide_eq_false z1];exact ym ⟨_,rfl,bad (decide_eq_false λz=>z1 z.2)⟩
   ·rintro us H4 ⟨hus,hul,rfl⟩ Dd hD;refine⟨(by show 0<=sizeLine;decide),λp0 hp0=>⟨Dd,p0,us,rfl,rfl,SqL.of (zm hp0 _ _ zg),SqL.of zg,?_⟩⟩;rw[hus,hx.len,List.take_length];have q:=kk _ ((zm hD (o:=.lst us)).trans (zm hp0 (o:=.lst [])));unfold zJ at q;rw[show decide (1<=(YL (.list xs)).length/\(YL (.list xs)).length<=4)=true from decide_eq_true ⟨by show 1<=xs.length;omega,by show xs.length<=4;omega⟩,Bool.and_true]at q;exact q
end
theorem zd3{A B:Prop}(hc:c=false)(h:B):if c=true then A else B:=by rw[hc];exact yr h
theorem zft{A B:Prop}(hc:c=true)(h:A):if c=true then A else B:=by rw[hc];exact ym h
theorem Z8(h:¬ i=j):decide (V.int i=V.int j)=false:=decide_eq_false (λz=>h (by injection z))
def qY(b:Nat)(ls:ZA)(d:PyData)(door:Nat):Option Str :=
 if door=0 then (if ls.length=4 then some ("many" : Str) else if zJ b d=false\/yE d∈ls then some ("stretch" : Str) else none)
 else if door=1 then (if zJ b d=false\/yE d∉ls then some ("stretch" : Str) else none)
 else if U7 d=false then some ("number" : Str) else none
section
variable {b:Nat} {ls:ZA} {d:PyData}
theorem QS(h:ls.length=4):qY b ls d 0=some ("many" : Str):=by unfold qY;rw[if_pos rfl,if_pos h]
theorem Q5(h:ls.length≠4)(q:zJ b d=false\/yE d∈ls):qY b ls d 0=some ("stretch" : Str):=by unfold qY;rw[if_pos rfl,if_neg h,if_pos q]
theorem V3(h:ls.length≠4)(q:zJ b d=true)(q2:yE d∉ls):qY b ls d 0=none:=by unfold qY;rw[if_pos rfl,if_neg h,if_neg (by rintro (z | z);rw[q]at z;cases z;exact q2 z)]
theorem zcO(q:zJ b d=false\/yE d∉ls):qY b ls d 1=some ("stretch" : Str):=by unfold qY;rw[if_neg (by decide),if_pos rfl,if_pos q]
theorem zbf(q:zJ b d=true)(q2:yE d∈ls):qY b ls d 1=none:=by unfold qY;rw[if_neg (by decide),if_pos rfl,if_neg (by rintro (z | z);rw[q]at z;cases z;exact z q2)]
end
def DueL(door:Nat)(ls:ZA)(ns:List Int)(ls2:ZA):Prop:=(door=0->ls2.Perm (ls++[ns]))/\(door=1->ls2=ls.filter λl=>decide (l≠ns))
section
variable {P:Program} {w:World} {K:W.Frag} {mg:Str->Option Value} {base:Heap}
def Z2:Sp:=λvs H Q _=>Ex6 λ(r:Addr) (t:Addr) (b:Nat) (bl:Addr) (zs:ZB) (door:Nat)=>Ex2 λu d=>vs=[.ref r,.ref t]/\RuleAt H r b bl zs/\GoodRule b (zs.map (·.2))/\H t=some (.tup [.int door,u])/\door<=1/\ThAt H d u/\vX d<=100000 /\
 (∀x,qY b (zs.map (·.2)) d door=some x->∀H',Same H H'->Q (.str x) H') /\
 (qY b (zs.map (·.2)) d door=none->∀r2 bl2 zs2 H',Same H H'->RuleAt H' r2 b bl2 zs2->GoodRule b (zs2.map (·.2))->DueL door (zs.map (·.2)) (yE d) (zs2.map (·.2))->H r2=none->H bl2=none->(∀z∈zs2,z∈zs\/H z.1=none)->Q (.ref r2) H')
theorem uU:zE ["rule","deed","base","bad","door","stretch"] ["rule","deed"] (zu xQ):={}
set_option maxHeartbeats 0 in
theorem za9(D:Df K mg "_law_due" xQ A6 f fd)(yZ:Df K mg "_law_is_stretch" yF Ab f1 fd1)(T:Blt mg):FnOk P w K mg base CX0 2 f fd A6 Z2:=by
 have WY:FnOk P w K mg base CX0 1 f1 fd1 Ab qP:=Xz yZ T;refine D.fn.ok uU (λvs H Q E h=>?_) (λcdv A outer s H vs Q E hr h=>?_)
 ·obtain⟨r,t,b,bl,zs,door,u,d,rfl,_⟩:=h;rfl
 ·obtain⟨r,t,b,bl,zs,door,u,d,rfl,R,g,ht,hdo,hd,hs,kR,kO⟩:=h;have HU:=YH hr;have h4:zs.length<=4:=by have:=g.len;rwa[List.length_map]at this
  have hl:(zs.map (·.2)).length=zs.length:=List.length_map _;have kM:door=0->zs.length=4->∀H',Same H H'->Q (.str "many") H':=λh0 hl4=>kR _ (by rw[h0];exact QS (by omega));have kS:¬ (door=0/\zs.length=4)->(zJ b d=false\/¬ (yE d∈zs.map (·.2)↔door=1))->∀H',Same H H'->Q (.str "stretch") H':=λhn q=>by
   refine kR _ ?_;rcases (show door=0\/door=1 by omega) with rfl | rfl
   ·refine Q5 (λz=>hn ⟨rfl,by omega⟩) (q.imp id λz=>?_);by_cases hi:yE d∈zs.map (·.2)
    ·exact hi
    ·exact absurd ⟨λy=>absurd y hi,λy=>absurd y (by decide)⟩ z
   ·exact zcO (q.imp id λz hi=>z ⟨λ_=>rfl,λ_=>hi⟩)
  have kG:zJ b d=true->(yE d∈zs.map (·.2)↔door=1)->¬ (door=0/\zs.length=4)->∀(r2 bl2:Addr) (zs2:ZB) (H':Hp),Same H H'->RuleAt H' r2 b bl2 zs2->GoodRule b (zs2.map (·.2))->DueL door (zs.map (·.2)) (yE d) (zs2.map (·.2))->H r2=none->H bl2=none->(∀z∈zs2,z∈zs\/H z.1=none)->Q (.ref r2) H':=λh1 h2 h3=>by
   refine kO ?_;rcases (show door=0\/door=1 by omega) with rfl | rfl
   ·exact V3 (λz=>h3 ⟨rfl,by omega⟩) h1 λz=>absurd (h2.mp z) (by decide)
   ·exact zbf h1 (h2.mpr rfl)
  refine xm ?_;intro XX;let q1:Sq XX ((zq xQ).drop 5):=⟨_,zz (zH (wu (zf (pv 2) (zf (yx (show CScope (zu xQ) _ "one" ["rule","deed","base","bad","door","stretch"] ["stretch"] [5] from {}) rfl (ql K (pv 3)) (λ_ _ _ _=>(vK (zN (Y7 K HU) (pv 0) (pv 1) (zV _)))) (λ_ _ _ _=>(pv 0))) zj))))⟩
  let q2:Sq XX ((zq xQ).drop 4):=⟨_,zp (yP (zN Wb (pv 4) zy (zV _))
    (zz (zH (wu (zf (pv 2) (zf (zA (zcU K HU) (by rfl) T.n_sorted boot_sorted (zf (zO vQ (pv 3) (yc (zf (yR (j0 K) (by rfl) T.n_list boot_list (zf (pv 5) zj)) zj))) zj)) zj)))))
    ye) q1.p⟩
  let q3:Sq XX ((zq xQ).drop 3):=⟨_,zp (yP (PW.pt (Wh (vP (wC (zK yZ WY (hr.mono (by decide)) (zf (pv 2) (zf (pv 5) zj))))) (Z3 (zN zfe (ur (ze7 K HU) (pv 5) (pv 3) (by with_unfolding_all rfl)) (ur Wb (pv 4) zy (zV _)) (zV _)))))
    (zz (zH qC))
    ye) q2.p⟩
  let q4:Sq XX ((zq xQ).drop 2):=⟨_,zp (yP (PW.pt (zav (zN Wb (pv 4) zy (zV _)) (VN (zN Wb (zA (xZ K) (by rfl) T.n_len PySem.boot_len (zf (pv 3) zj)) zy (zV _)))))
    (zz (zH qC))
    ye) q3.p⟩
  let q5:Sq XX ((zq xQ).drop 1):=⟨_,zp (Xp (pv 1) (XC rfl (xN (yh (i:=4) uU.nd rfl (Or.inl rfl)) (xN (yh (i:=5) uU.nd rfl (Or.inr rfl)) Zk)))) q4.p⟩
  refine⟨_,(zp (Xp (pv 0) (XC rfl (xN (yh (i:=2) uU.nd rfl (Or.inl rfl)) (xN (yh (i:=3) uU.nd rfl (Or.inl rfl)) Zk)))) q5.p),?_⟩;refine⟨_,rfl,r,_,rfl,SqT.of R.tu,rfl,_,_,rfl,_,_,rfl,rfl,?_⟩;refine⟨_,rfl,t,_,rfl,SqT.of ht,rfl,_,_,rfl,_,_,rfl,rfl,?_⟩;have kS:=λ(z:¬ (door=0/\zs.length=4)) q=>kS z q;suffices key:¬ (door=0/\zs.length=4)->_ by
   refine⟨_,rfl,rfl,_,rfl,?_⟩;by_cases hd0:door=0
   ·rw[decide_eq_true (by rw[hd0];rfl)];refine ym ⟨_,rfl,bl,_,rfl,.inl (SqL.of R.li),rfl,_,rfl,?_⟩;rw[List.length_map];by_cases hl4:zs.length=4
    ·rw[decide_eq_true (by rw[hl4];rfl)];exact ym (kM hd0 hl4 H (Same.refl _))
    ·rw[decide_eq_false (λz=>hl4 (by injection z with z;omega))];exact yr (key λz=>hl4 z.2)
   ·rw[Z8 (by omega)];exact yr (key λz=>hd0 z.1)
  intro hn4;refine⟨_,rfl,_,rfl,b,u,d,rfl,hd,hs,λH1 s1=>⟨_,rfl,?_⟩⟩;cases hstr:zJ b d with
  |false=>exact ym (kS hn4 (.inl hstr) H1 s1)
  |true=>
  refine yr ?_;obtain⟨st,rfl,hst,gst⟩:=zeF hd hstr;have kS:=λz=>kS hn4 (.inr z);have kk:=λz=>kG hstr z hn4;generalize yE d=ns at hst gst kk kS;have R1:=R.same s1;refine⟨_,rfl,_,rfl,bl,_,(zs.map (·.2)).map yN,yN ns,rfl,SqL.of R1.li,TrsAt.lists R1.st,TrAt.ints (a:=st) (SqL.of (s1 _ _ hst)),Nat.le_trans (wg _) (by decide),?_⟩;rw[if_neg (by decide),Yq];refine⟨_,rfl,rfl,rfl,_,rfl,?_⟩;have e1:decide (V.int (door:Int)=V.int 1)=decide (door=1):=decide_eq_decide.mpr ⟨λz=>by injection z with z;omega,λz=>by rw[z];rfl⟩;rw[e1];by_cases hiff:ns∈zs.map (·.2)↔door=1
  case neg=>
   rw[show (!decide (V.bl (decide (ns∈zs.map (·.2)))=V.bl (decide (door=1))))=true by
    rw[decide_eq_false (λz=>hiff (by injection z with z;exact decide_eq_decide.mp z))];rfl]
   exact ym (kS hiff H1 s1)
  rw[show (!decide (V.bl (decide (ns∈zs.map (·.2)))=V.bl (decide (door=1))))=false by
    rw[decide_eq_true (by rw[decide_eq_decide.mpr hiff])];rfl]
  refine yr ?_;have kk:=kk hiff;refine⟨_,rfl,rfl,_,rfl,?_⟩;rcases (show door=0\/door=1 by omega) with rfl | rfl
  ·refine zft (decide_eq_true rfl) ?_;have hnot:ns∉zs.map (·.2):=λz=>absurd (hiff.mp z) (by decide);have h3:zs.length<=3:=by
    by_cases z:zs.length=4
    ·exact absurd ⟨rfl,z⟩ hn4
    ·omega
   refine⟨_,rfl,_,rfl,_,rfl,st,_,rfl,.inl (SqL.of (s1 _ _ hst)),λq hq=>⟨(by show 1<=sizeLine;decide),λl1 hl1=>?_⟩⟩;have s2:=s1.trans (zm hq (o:=.lst (ns.map V.int)));have s3:=s2.trans (zm hl1 (o:=.lst [.ref q]));have hq3:=zm hl1 (o:=.lst [.ref q]) _ _ (zg (H:=H1) (a:=q) (o:=.lst (ns.map V.int)));refine⟨bl,l1,_,_,rfl,rfl,s3 _ _ R.li,zg,by rw[List.length_map];exact Nat.le_trans (show zs.length+1<=5 by omega) (by decide),λl2 hl2=>?_⟩;have s4:=s3.trans (zm hl2 (o:=.lst (zs.map (λz=>V.ref z.1)++[.ref q])));have hq4:=zm hl2 (o:=.lst (zs.map (λz=>V.ref z.1)++[.ref q])) _ _ hq3;have nd:((zs++[(q,ns)]).map (·.2)).Nodup:=by
    rw[List.map_append];refine List.nodup_append.mpr ⟨g.nodup,by simp,λx hx y hy=>?_⟩;have e:y=ns:=by simpa using hy
    rw[e];exact λz=>hnot (z▸hx)
   have hst4:∀z∈zs++[(q,ns)],upd (upd (upd H1 q (.lst (ns.map V.int))) l1 (.lst [.ref q])) l2 (.lst (zs.map (λz=>V.ref z.1)++[.ref q])) z.1=some (.lst (z.2.map V.int)):=λz hz=>by
    rcases List.mem_append.mp hz with hz | hz
    ·exact s4 _ _ (R.st z hz)
    ·have e:z=(q,ns):=by simpa using hz
     subst e;exact hq4
   refine⟨l2,zs++[(q,ns)],rfl,SqL.of (by rw[zg];simp),by rw[List.length_append,List.length_singleton];omega,λz hz=>SqL.of (hst4 z hz),nd,λbq zs' hbq pm pw=>?_⟩;have s5:=zm hbq (o:=.lst (zs'.map λz=>V.ref z.1));have s15:=s4.trans s5;have hmem:∀z,z∈zs'↔z∈zs++[(q,ns)]:=λz=>pm.mem_iff;have gm:GoodRule b (zs'.map (·.2)):=⟨g.b2,g.b16,by rw[List.length_map,pm.length_eq,List.length_append,List.length_singleton];omega,λl hl=>by
    obtain⟨z,hz,rfl⟩:=List.mem_map.mp hl;rcases List.mem_append.mp ((hmem z).mp hz) with hz | hz
    ·exact g.st _ (List.mem_map.mpr ⟨z,hz,rfl⟩)
    ·have e:z=(q,ns):=by simpa using hz
     subst e;exact gst,by rw[List.pairwise_map];exact pw⟩
   refine⟨(by show 2<=sizeLine;decide),λr2 hr2=>?_⟩;have s6:=zm hr2 (o:=.tup [.int b,.ref bq]);refine kk r2 bq zs' _ (s15.trans s6) ⟨zg,s6 _ _ zg,λz hz=>s6 _ _ (s5 _ _ (hst4 z ((hmem z).mp hz)))⟩ gm ⟨λ_=>?_,λz=>absurd z (by decide)⟩ (s15.free hr2) (s4.free hbq) λz hz=>?_
   ·have:=pm.map (·.2);rwa[List.map_append]at this
   ·rcases List.mem_append.mp ((hmem z).mp hz) with h | h
    ·exact .inl h
    ·have e:z=(q,ns):=by simpa using h
     subst e;exact .inr (s1.free hq)
  ·refine zd3 (Z8 (by decide)) ?_;refine⟨_,rfl,_,rfl,bl,rfl,⟨_,SqL.of R1.li⟩,yt (K:=K) (a:=bl) (xs:=zs.map λz=>V.ref z.1) (λi ys H4=>H4=H1/\ys=((zs.take i).filter λz=>decide (z.2≠ns)).map λz=>V.ref z.1) ⟨rfl,rfl⟩ (λi ys H4 _ ⟨e,_⟩=>by rw[e];exact SqL.of R1.li) ?_ ?_⟩
   ·rintro j x ys H4 hx ⟨rfl,rfl⟩;rw[List.getElem?_map]at hx;obtain⟨z,hzj,e⟩:=Option.map_eq_some_iff.mp hx;subst e;have hzm:=List.mem_of_getElem? hzj;refine⟨by rw[List.length_map];exact Nat.lt_of_le_of_lt (Nat.le_trans (List.length_filter_le _ _) (Nat.le_trans (List.length_take_le' _ _) h4)) (by decide),?_⟩;refine⟨_,rfl,_,rfl,yN z.2,yN ns,TrAt.ints (a:=z.1) (SqL.of (R1.st z hzm)),TrAt.ints (a:=st) (SqL.of (s1 _ _ hst)),(by rw[uI];decide),_,rfl,?_⟩;rw[if_pos rfl,uY,List.take_succ,hzj];by_cases e:z.2=ns
    ·rw[decide_eq_true e];refine yr ⟨rfl,?_⟩;simp[List.filter_append,e]
    ·rw[decide_eq_false e];refine ym ⟨_,rfl,rfl,?_⟩;simp[List.filter_append,e]
   rintro ys H4 ⟨rfl,rfl⟩ bq hbq;rw[List.length_map,List.take_length];have s5:=zm hbq (o:=.lst ((zs.filter λz=>decide (z.2≠ns)).map λz=>V.ref z.1));have s15:=s1.trans s5;have ef:(zs.filter λz=>decide (z.2≠ns)).map (·.2)=(zs.map (·.2)).filter λl=>decide (l≠ns):=by
    rw[List.filter_map];rfl
   have gm:GoodRule b ((zs.filter λz=>decide (z.2≠ns)).map (·.2)):=by
    rw[ef];exact⟨g.b2,g.b16,Nat.le_trans (List.length_filter_le _ _) g.len,λl hl=>g.st l (List.mem_filter.mp hl).1,g.up.sublist List.filter_sublist⟩
   refine⟨(by show 2<=sizeLine;decide),λr2 hr2=>?_⟩;have s6:=zm hr2 (o:=.tup [.int b,.ref bq]);exact kk r2 bq _ _ (s15.trans s6) ⟨zg,s6 _ _ zg,λz hz=>s6 _ _ (s15 _ _ (R.st z (List.mem_filter.mp hz).1))⟩ gm ⟨λz=>absurd z (by decide),λ_=>ef⟩ (s15.free hr2) (s1.free hbq) λz hz=>.inl (List.mem_filter.mp hz).1
end
structure zbB (mg:Str->Option Value) (qA qB qE qS qV xA xB xC xD xE xI xS yA:Addr):Prop where
 qAb:mg "NoBase"= some (.ref qA)
 qAf:mg "NoNumber"= some (.ref qB)
 qAc:mg "NoFigures"= some (.ref qE)
 qAh:mg "NoRule"= some (.ref qS)
 qAj:mg "NoStand"= some (.ref qV)
 qAd:mg "NoGood"= some (.ref xA)
 qAa:mg "Endless"= some (.ref xB)
 qAi:mg "NoRules"= some (.ref xC)
 qBa:mg "NoStretch"= some (.ref xD)
 qBc:mg "TooMany"= some (.ref xE)
 qBb:mg "NoText"= some (.ref xI)
 qAe:mg "NoName"= some (.ref xS)
 qAg:mg "NoRow"= some (.ref yA)
structure V8 (K:W.Frag) (C qA qB qE qS qV xA xB xC xD xE xI xS yA:Addr) (k:Nat):Prop where
 i:J4 K C
 v:W.kitOne K (.ref C) (.type "ValueError")=some true
 k0:W.kitOne K (.ref C) (.ref qA)=some (decide (0=k))
 k1:W.kitOne K (.ref C) (.ref qB)=some (decide (1=k))
 k2:W.kitOne K (.ref C) (.ref qE)=some (decide (2=k))
 k3:W.kitOne K (.ref C) (.ref qS)=some (decide (3=k))
 k4:W.kitOne K (.ref C) (.ref qV)=some (decide (4=k))
 k5:W.kitOne K (.ref C) (.ref xA)=some (decide (5=k))
 k6:W.kitOne K (.ref C) (.ref xB)=some (decide (6=k))
 k7:W.kitOne K (.ref C) (.ref xC)=some (decide (7=k))
 k8:W.kitOne K (.ref C) (.ref xD)=some (decide (8=k))
 k9:W.kitOne K (.ref C) (.ref xE)=some (decide (9=k))
 k10:W.kitOne K (.ref C) (.ref xI)=some (decide (10=k))
 k11:W.kitOne K (.ref C) (.ref xS)=some (decide (11=k))
 k12:W.kitOne K (.ref C) (.ref yA)=some (decide (12=k))
def Je:List Str:=["base","number","figures","rule","stand","good","endless","rules","stretch","many","text","name","row"]
theorem VB:bootBuiltins "ValueError"= some (.type "ValueError"):=by decide +kernel
section
variable {P:Program} {w:World} {K:W.Frag} {mg:Str->Option Value} {base:Heap}
def Wt(K:W.Frag)(qA qB qE qS qV xA xB xC xD xE xI xS yA:Addr):Sp:=λvs H Q _=>Ex5 λe C k dk d=>vs=[.ref e,.str d]/\H e=some (WN e C)/\V8 K C qA qB qE qS qV xA xB xC xD xE xI xS yA k/\Je[k]?=some dk/\∀H',Same H H'->Q (.bl (decide (dk=d))) H'
theorem wy:zE ["e","due","kinds","words","found"] ["e","due"] (zu uW):={}
set_option maxHeartbeats 0 in
theorem JK(D:Df K mg "_law_kind" uW ["e","due"] f fd)(XN:zbB mg qA qB qE qS qV xA xB xC xD xE xI xS yA)(qCe:mg "ValueError"= none)(T:Blt mg)(U:Qt mg):FnOk P w K mg base CX0 1 f fd ["e","due"] (Wt K qA qB qE qS qV xA xB xC xD xE xI xS yA):=by
 obtain⟨qAb,qAf,qAc,qAh,qAj,qAd,qAa,qAi,qBa,qBc,qBb,qAe,qAg⟩:=XN;refine D.fn.ok wy (λvs H Q E h=>?_) (λcdv A outer s H vs Q E hr h=>?_)
 ·obtain⟨e,C,k,dk,d,rfl,_⟩:=h;rfl
 ·obtain⟨e,C,k,dk,d,rfl,hE,Kd,hd,kk⟩:=h;have he:=hE;have HU:=YH hr;have hk:k<13:=(List.getElem?_eq_some_iff.mp hd).1;refine⟨_,(zp (zG (i:=2) wy.nd rfl (Or.inl rfl) (yc (zf (zA (uo K) (by rfl) T.n_isinstance boot_isinstance (zf (pv 0) (zf (xn (v:=.ref qA) rfl qAb rfl) zj))) (zf (zA (uo K) (by rfl) T.n_isinstance boot_isinstance (zf (pv 0) (zf (xn (v:=.ref qB) rfl qAf rfl) zj))) (zf (zA (uo K) (by rfl) T.n_isinstance boot_isinstance (zf (pv 0) (zf (xn (v:=.ref qE) rfl qAc rfl) zj))) (zf (zA (uo K) (by rfl) T.n_isinstance boot_isinstance (zf (pv 0) (zf (xn (v:=.ref qS) rfl qAh rfl) zj))) zj))))))
   (zp (zG (i:=2) wy.nd rfl (Or.inl rfl) (zO vQ (pv 2) (yc (zf (zA (uo K) (by rfl) T.n_isinstance boot_isinstance (zf (pv 0) (zf (xn (v:=.ref qV) rfl qAj rfl) zj))) (zf (zA (uo K) (by rfl) T.n_isinstance boot_isinstance (zf (pv 0) (zf (xn (v:=.ref xA) rfl qAd rfl) zj))) (zf (zA (uo K) (by rfl) T.n_isinstance boot_isinstance (zf (pv 0) (zf (xn (v:=.ref xB) rfl qAa rfl) zj))) (zf (zA (uo K) (by rfl) T.n_isinstance boot_isinstance (zf (pv 0) (zf (xn (v:=.ref xC) rfl qAi rfl) zj))) zj)))))))
   (zp (zG (i:=2) wy.nd rfl (Or.inl rfl) (zO vQ (pv 2) (yc (zf (zA (uo K) (by rfl) T.n_isinstance boot_isinstance (zf (pv 0) (zf (xn (v:=.ref xD) rfl qBa rfl) zj))) (zf (zA (uo K) (by rfl) T.n_isinstance boot_isinstance (zf (pv 0) (zf (xn (v:=.ref xE) rfl qBc rfl) zj))) (zf (zA (uo K) (by rfl) T.n_isinstance boot_isinstance (zf (pv 0) (zf (xn (v:=.ref xI) rfl qBb rfl) zj))) zj))))))
   (zdi (zG (i:=2) wy.nd rfl (Or.inl rfl) (zO vQ (pv 2) (yc (zf (zA (uo K) (by rfl) T.n_isinstance boot_isinstance (zf (pv 0) (zf (xn (v:=.ref xS) rfl qAe rfl) zj))) (zf (zA (uo K) (by rfl) T.n_isinstance boot_isinstance (zf (pv 0) (zf (xn (v:=.ref yA) rfl qAg rfl) zj))) zj)))))
   (zdU (i:=3) wy.nd rfl (Or.inl rfl) (w6 (w6 (w6 (w6 (w6 (w6 (w6 (w6 (w6 (w6 (w6 jk)))))))))))
   (zp (za0 (i:=4) (show CScopeT (zu uW) _ ["word","kind"] ["e","due","kinds","words","found"] [] [] from {}) rfl wy.nd rfl (Or.inl rfl) (zdO K rfl U.n_zip (zf (zO vQ (pv 3) (yc (zcj (zcj zj)))) (zf (pv 2) zj))) (λ_ _ _ _=>(zgX K 2 rfl (xN (yh (i:=0) (show List.Nodup (α:=Str) ["word","kind"] by decide) rfl (.inl (lookup_relabel_local rfl)) (.inr (lookup_relabel_local rfl))) (xN (yh (i:=1) (show List.Nodup (α:=Str) ["word","kind"] by decide) rfl (.inl (lookup_relabel_local rfl)) (.inr (lookup_relabel_local rfl))) Zk)))) (λ_ _ _ _=>(vK (wC (pv 1)))) (λ_ _ _ _=>(pv 0)))
   (zz (zH (qG (zA (uo K) (by rfl) T.n_isinstance boot_isinstance (zf (pv 0) (zf (vL (v:=.ty "ValueError") rfl qCe VB rfl) zj))) (qW (ur (zcP K HU) (pv 4) (yc (zf (pv 1) zj)) (zV _)))))))))))),?_⟩
  refine⟨_,rfl,e,C,_,_,_,rfl,rfl,(λ_ h=>h),he,Kd.i,Kd.k0,_,rfl,e,C,_,_,_,rfl,rfl,(λ_ h=>h),he,Kd.i,Kd.k1,_,rfl,e,C,_,_,_,rfl,rfl,(λ_ h=>h),he,Kd.i,Kd.k2,_,rfl,e,C,_,_,_,rfl,rfl,(λ_ h=>h),he,Kd.i,Kd.k3,(by show 4<=sizeLine;decide),λl0 hl0=>?_⟩;generalize hG0:upd _ l0 _=G0;obtain⟨m0,h0⟩:=Qx hl0 hG0;have he:=m0 _ _ he;refine⟨_,rfl,_,rfl,e,C,_,_,_,rfl,rfl,(λ_ h=>h),he,Kd.i,Kd.k4,_,rfl,e,C,_,_,_,rfl,rfl,(λ_ h=>h),he,Kd.i,Kd.k5,_,rfl,e,C,_,_,_,rfl,rfl,(λ_ h=>h),he,Kd.i,Kd.k6,_,rfl,e,C,_,_,_,rfl,rfl,(λ_ h=>h),he,Kd.i,Kd.k7,(by show 4<=sizeLine;decide),λa1 ha1=>?_⟩;generalize hA1:upd _ a1 _=A1;obtain⟨n1,i1⟩:=Qx ha1 hA1;refine⟨l0,a1,_,_,rfl,rfl,n1 _ _ h0,i1,(by show 4+4<=sizeLine;decide),λl1 hl1=>?_⟩;generalize hG1:upd _ l1 _=G1;obtain⟨m1,h1⟩:=Qx hl1 hG1;have he:=m1 _ _ (n1 _ _ he);refine⟨_,rfl,_,rfl,e,C,_,_,_,rfl,rfl,(λ_ h=>h),he,Kd.i,Kd.k8,_,rfl,e,C,_,_,_,rfl,rfl,(λ_ h=>h),he,Kd.i,Kd.k9,_,rfl,e,C,_,_,_,rfl,rfl,(λ_ h=>h),he,Kd.i,Kd.k10,(by show 3<=sizeLine;decide),λa2 ha2=>?_⟩;generalize hA2:upd _ a2 _=A2;obtain⟨n2,i2⟩:=Qx ha2 hA2;refine⟨l1,a2,_,_,rfl,rfl,n2 _ _ h1,i2,(by show 8+3<=sizeLine;decide),λl2 hl2=>?_⟩;generalize hG2:upd _ l2 _=G2;obtain⟨m2,h2⟩:=Qx hl2 hG2;have he:=m2 _ _ (n2 _ _ he);refine⟨_,rfl,_,rfl,e,C,_,_,_,rfl,rfl,(λ_ h=>h),he,Kd.i,Kd.k11,_,rfl,e,C,_,_,_,rfl,rfl,(λ_ h=>h),he,Kd.i,Kd.k12,(by show 2<=sizeLine;decide),λa3 ha3=>?_⟩;generalize hA3:upd _ a3 _=A3;obtain⟨n3,i3⟩:=Qx ha3 hA3;refine⟨l2,a3,_,_,rfl,rfl,n3 _ _ h2,i3,(by show 11+2<=sizeLine;decide),λl3 hl3=>?_⟩;generalize hG3:upd _ l3 _=G3;obtain⟨m3,h3⟩:=Qx hl3 hG3;have m3:=m0.trans (n1.trans (m1.trans (n2.trans (m2.trans (n3.trans m3)))));clear hG0 hA1 hG1 hA2 hG2 hA3 hG3;refine⟨(by show 11<=sizeLine;decide),λwl hwl=>?_⟩;generalize hG4:upd _ wl _=G4;obtain⟨m4,h4⟩:=Qx hwl hG4;refine⟨_,rfl,(by show 2<=sizeLine;decide),λw2 hw2=>?_⟩;generalize hG5:upd _ w2 _=G5;obtain⟨n5,h5⟩:=Qx hw2 hG5;refine⟨wl,w2,_,_,rfl,rfl,n5 _ _ h4,h5,(by show 11+2<=sizeLine;decide),λw3 hw3=>?_⟩;generalize hG6:upd _ w3 _=G6;obtain⟨n6,h6⟩:=Qx hw3 hG6;have n6:=m4.trans (n5.trans n6);have m6:=m3.trans n6;have h36:G6 l3=some (.lst ((List.range 13).map λj=>V.bl (decide (j=k)))):=n6 _ _ h3;have hw36:G6 w3=some (.lst (Je.map V.str)):=h6;clear hG4 hG5 hG6 h3 h6;refine⟨_,rfl,w3,l3,rfl,⟨_,SqL.of hw36⟩,⟨_,SqL.of h36⟩,zc5 (K:=K) (a:=w3) (b:=l3) (xs:=Je.map V.str) (ys:=(List.range 13).map λj=>V.bl (decide (j=k))) (λi zs G7=>zs=(if k<i then [V.str dk] else [])/\Same G6 G7) rfl ⟨by rw[if_neg (by omega)],Same.refl _⟩ (λi zs G7 _ ⟨_,m7⟩=>⟨SqL.of (m7 _ _ hw36),SqL.of (m7 _ _ h36)⟩) ?_ (λi zs G7 _ ⟨e,_⟩=>by rw[e];split;exact (by decide:1<sizeLine);exact (by decide:0<sizeLine)) ?_⟩
  ·rintro i x y zs G7 Tp hx hy ⟨rfl,m7⟩ hT;rw[List.getElem?_map]at hx hy;obtain⟨wd,hwd,e1⟩:=Option.map_eq_some_iff.mp hx;obtain⟨j,hj,e2⟩:=Option.map_eq_some_iff.mp hy;have ej:j=i:=by
    have q:=List.getElem?_eq_some_iff.mp hj;obtain⟨_,q⟩:=q;rw[List.getElem_range]at q;exact q.symm
   subst e1 e2 ej;have m8:=m7.trans (zm hT (o:=.tup [V.str wd,V.bl (decide (j=k))]));refine⟨Tp,_,rfl,SqT.of zg,rfl,_,_,rfl,_,_,rfl,rfl,⟨[some (.str wd),some (.bl (decide (j=k)))],rfl,rfl⟩,?_⟩;refine⟨_,rfl,_,rfl,?_⟩;by_cases hjk:j=k
   ·rw[decide_eq_true hjk]at m8 ⊢;refine ym ⟨_,rfl,?_,m8⟩;subst hjk;rw[hd]at hwd;cases hwd
    rw[if_neg (by omega),if_pos (by omega)];rfl
   ·rw[decide_eq_false hjk]at m8 ⊢;refine yr ⟨?_,m8⟩;by_cases hlt:k<j
    ·rw[if_pos hlt,if_pos (by omega)]
    ·rw[if_neg hlt,if_neg (by omega)]
  rintro zs G7 ⟨rfl,m7⟩ fd hfd;rw[if_pos (show k<(Je.map V.str).length from hk)];have m8:=m6.trans (m7.trans (zm hfd (o:=.lst [V.str dk])));refine⟨_,rfl,e,C,_,_,_,rfl,rfl,(λ_ h=>h),m8 _ _ hE,Kd.i,Kd.v,_,rfl,ym ?_⟩;refine⟨_,rfl,_,rfl,(by show 1<=sizeLine;decide),λdl hdl=>?_⟩;refine⟨.lst [.str dk],.lst [.str d],?_,?_,(by simp[vG,xq]),?_⟩
  ·rw[TrAt];exact⟨fd,_,rfl,SqL.of (zm hdl _ _ zg),by rw[TrsAt];exact⟨_,_,rfl,by rw[TrAt],by rw[TrsAt]⟩⟩
  ·rw[TrAt];exact⟨dl,_,rfl,SqL.of zg,by rw[TrsAt];exact⟨_,_,rfl,by rw[TrAt],by rw[TrsAt]⟩⟩
  have et:teq (.lst [.str dk]) (.lst [.str d])=decide (dk=d):=by
   simp only[teq,tW,Bool.and_true];rw[Bool.eq_iff_iff,beq_iff_eq,decide_eq_true_iff]
  have q:=kk _ (m8.trans (zm hdl (o:=.lst [V.str d])));rw[<-et]at q;exact q
end
theorem ClrK.put(q:ClrK c H k tl sa la bl zs)(h1:la≠t)(h2:sa≠t):ClrK c (upd H t o) k tl sa la bl zs:=⟨q.nk,q.ntl,q.nsa,q.nla,q.nbl,q.nz,λxs hx=>q.rla xs (by rwa[zr h1]at hx),λxs hx=>q.rsa xs (by rwa[zr h2]at hx)⟩
theorem KQ.lay(h:KQ T0 C CK H k la b bd zs ok Q)(hk:∀l,ok' l->ok l)(m:∀(p:Addr) (x y:Nat) H',H p=none->H' p=some (.tup [.int x,.int y])->(∀c o,H' c=none->Q (.ref p) (upd H' c o))->Q' (.ref p) H'):KQ T0 C CK H k la b bd zs ok' Q':=λp tl2 sa2 la2 bl2 zs2 ws2 L2 H' a1 a2 a3 a4 a5 a6 a7 a8 a9 a10 a11=>m _ _ _ _ a1 a2 λc o hc=>by
 have s:=zm hc (o:=o);obtain⟨_,w1⟩:=a3.sas;obtain⟨_,w2⟩:=a3.las;exact h p tl2 sa2 la2 bl2 zs2 ws2 L2 _ a1 (s _ _ a2) (a3.same s) (hk _ a4) (λd u h1 h2 h3 e=>s _ _ (a5 d u h1 h2 h3 e)) (a6.same s) a7 a8 a9 a10 λd u e h1 h2=>(a11 d u e h1 h2).put (zx w2 hc) (zx w1 hc)
section
variable {P:Program} {w:World} {K:W.Frag} {mg:Str->Option Value} {base:Heap} {T0 C CK:Addr}
theorem Vq:W.kitOne K (.type "str") (.type "str")=some true:=zaq (by decide +kernel) (by decide +kernel) (λ_=>rfl)
theorem jE:W.kitOne K (.type "tuple") (.type "str")=some false:=zaq (by decide +kernel) (by decide +kernel) (λe=>absurd e (by decide))
def uO(T0 C CK:Addr):Sp:=λvs H Q _=>Ex6 λk tl sa la b bd=>Ex6 λ(bl:Addr) (zs:ZB) (ws:ZA) (L:Nat) (t:Addr) (door:Nat)=>Ex3 λu d dv=>vs=[.ref k,.ref t,dv]/\KpAt C CK H k tl sa la b bd bl zs ws L/\bd<2^900/\LT T0 H/\H t=some (.tup [.int door,u])/\door<=1/\ThAt H d u/\vX d<=100000 /\
 (∀x,qY b (zs.map (·.2)) d door=some x->dv=.str x/\∀H',Same H H'->Q (.str x) H')/\(qY b (zs.map (·.2)) d door=none->KQ T0 C CK H k la b bd zs (DueL door (zs.map (·.2)) (yE d)) Q)
theorem xT:zE ["keeper","deed","due","caught","found","e"] ["keeper","deed","due"] (zu xK):={}
set_option maxHeartbeats 0 in
theorem Qs(D:Df K mg "_law_asked" xK A8 f fd)(MKeeper_come:Mt K CK "Keeper.come" "come" wJ Ag f1 fd1)(GKeeper_comeX:FnOk P w K mg base (CX1 P w) 10 f1 fd1 Ag (zaY T0 C CK xD xE))(MKeeper_go:Mt K CK "Keeper.go" "go" vU Ag f2 fd2)(GKeeper_goX:FnOk P w K mg base (CX1 P w) 10 f2 fd2 Ag (zfl T0 C CK xD))(cKeeper:ClK K mg CK)(ZD:Df K mg "_law_kind" uW ["e","due"] f6 fd6)(XN:zbB mg qA qB qE qS qV xA xB xC xD xE xI xS yA)(qCe:mg "ValueError"= none)(qBd:zbQ K mg "LackError" yB)(qBi:W.kitCls K (.ref xD) (.ref yB)=some true)(qBj:W.kitCls K (.ref xE) (.ref yB)=some true)(qBg:V8 K xD qA qB qE qS qV xA xB xC xD xE xI xS yA 8)(qBh:V8 K xE qA qB qE qS qV xA xB xC xD xE xI xS yA 9)(T:Blt mg)(U:Qt mg):FnOk P w K mg base CX0 11 f fd A8 (uO T0 C CK):=by
 have zcg:FnOk P w K mg base CX0 1 f6 fd6 ["e","due"] (Wt K qA qB qE qS qV xA xB xC xD xE xI xS yA):=JK ZD XN qCe T U;refine D.fn.ok xT (λvs H Q E h=>?_) (λcdv A outer s H vs Q E hr h=>?_)
 ·obtain⟨k,tl,sa,la,b,bd,bl,zs,ws,L,t,door,u,d,dv,rfl,_⟩:=h;rfl
 ·obtain⟨k,tl,sa,la,b,bd,bl,zs,ws,L,t,door,u,d,dv,rfl,KA,hbd,hT,ht,h1,hd,hs,kR,kO⟩:=h;have HU:=YH hr;obtain⟨dx,hk⟩:=KA.ob;have hl:(zs.map (·.2)).length=zs.length:=List.length_map _;refine xm ?_;intro XX;let q1:Sq XX ((zq xK).drop 4):=⟨_,zz (zH (zR (yo K) (yc (zf qC (zf (pv 2) zj))) (yR YB (by rfl) T.n_int boot_int (zf (qG (zA (Z5 K) (by rfl) T.n_isinstance boot_isinstance (zf (pv 2) (zf (vL (v:=.ty "str") rfl U.n_str boot_str rfl) zj))) (qW (zK ZD zcg (hr.mono (by decide)) (zf (pv 3) (zf (pv 2) zj))))) zj)) (λ_ _=>rfl)))⟩
  let q2:Sq XX ((zq xK).drop 3):=⟨_,zp (yP (zN zce (pv 3) vC (zV _))
    (zz (zH (zR (yo K) (yc (zf (pv 4) (zf qC zj))) (yR YB (by rfl) T.n_int boot_int (zf (zA (Z5 K) (by rfl) T.n_isinstance boot_isinstance (zf (pv 4) (zf (vL (v:=.ty "str") rfl U.n_str boot_str rfl) zj))) zj)) (λ_ _=>rfl))))
    ye) q1.p⟩
  let q3:Sq XX ((zq xK).drop 2):=⟨_,zp (zej (i:=5) qBd rfl rfl xT.nd rfl rfl (λ_ _ _ hS=>
    (zz (yP (zN Wb (zR (vB K) (pv 1) zy (λ_ _=>rfl)) zy (zV _))
     (zz (zG (i:=4) xT.nd rfl (Or.inl rfl) (zd7 MKeeper_come cKeeper.cl GKeeper_comeX (hr.mono (by decide)) hS (pv 0) (zf (zR (vB K) (pv 1) zy (λ_ _=>rfl)) zj))))
     (zz (zG (i:=4) xT.nd rfl (Or.inl rfl) (zd7 MKeeper_go cKeeper.cl GKeeper_goX (hr.mono (by decide)) hS (pv 0) (zf (zR (vB K) (pv 1) zy (λ_ _=>rfl)) zj))))))) (λ_=>
    (zz (zG (i:=3) xT.nd rfl (Or.inl rfl) (pv 5))))) q2.p⟩
  let q4:Sq XX ((zq xK).drop 1):=⟨_,zp (zG (i:=4) xT.nd rfl (Or.inl rfl) vC) q3.p⟩
  refine⟨_,(zp (zG (i:=3) xT.nd rfl (Or.inl rfl) vC) q4.p),?_⟩;have eX:∀(x Ce:Addr) (j:Nat) (dk:Str) (H1:Hp),qY b (zs.map (·.2)) d door=some dk->V8 K Ce qA qB qE qS qV xA xB xC xD xE xI xS yA j->Je[j]?=some dk->Same H H1->H1 x=none->∃(C:Addr) (j:Nat) (dk:Str),upd H1 x (WN x Ce) x=some (WN x C)/\V8 K C qA qB qE qS qV xA xB xC xD xE xI xS yA j/\Je[j]?=some dk/\Same H (upd H1 x (WN x Ce))/\qY b (zs.map (·.2)) d door=some dk:=λx Ce j dk H1 q Kd hw m hx=>⟨Ce,j,dk,zg,Kd,hw,m.trans (zm hx),q⟩
  have i0:∀{H1:Hp},Same H H1->SqT K H1 t [.int door,u]:=λm=>SqT.of (m _ _ ht);have i1:=i0 (Same.refl _);refine⟨_,rfl,t,_,_,_,rfl,rfl,i1,rfl,rfl,_,rfl,?_⟩;rcases (show door=0\/door=1 by omega) with rfl | rfl
  case' inl=>
   refine zft (decide_eq_true rfl) ⟨_,rfl,k,dx,_,rfl,hk,uK _ _ _ _,_,rfl,t,_,_,_,rfl,rfl,i1,rfl,k,tl,sa,la,b,bd,bl,zs,ws,L,u,d,rfl,KA,hbd,hT,hd,hs,λq=>⟨_,rfl,qBj,λx hx=>?m0⟩,λq q2 H1 m=>⟨_,rfl,qBi,λx hx=>?s0⟩,λq q2 q3=>(kO (V3 (by rw[hl];exact q) q2 q3)).lay (λl hp=>⟨λ_=>hp,λz=>absurd z (by decide)⟩) λp x y H' hp hv kq=>?k0⟩
  case' inr=>
   refine zd3 (Z8 (by decide)) ⟨_,rfl,k,dx,_,rfl,hk,uK _ _ _ _,_,rfl,t,_,_,_,rfl,rfl,i1,rfl,k,tl,sa,la,b,bd,bl,zs,ws,L,u,d,rfl,KA,hbd,hT,hd,hs,λq H1 m=>⟨_,rfl,qBi,λx hx=>?s1⟩,λq q2=>(kO (zbf q q2)).lay (λl hp=>⟨λz=>absurd z (by decide),λ_=>hp⟩) λp x y H' hp hv kq=>?k1⟩
  case' m0=>
   obtain⟨Ce,j,dk,hC,Kd,hw,m2,hq⟩:=eX x _ 9 "many" H (QS (by rw[hl];exact q)) qBh rfl (Same.refl _) hx;generalize upd H x (WN x xE)=H2 at hC m2
  case' s0=>
   obtain⟨Ce,j,dk,hC,Kd,hw,m2,hq⟩:=eX x _ 8 "stretch" H1 (Q5 (by rw[hl];exact q) q2) qBg rfl m hx;generalize upd H1 x (WN x xD)=H2 at hC m2
  case' s1=>
   obtain⟨Ce,j,dk,hC,Kd,hw,m2,hq⟩:=eX x _ 8 "stretch" H1 (zcO q) qBg rfl m hx;generalize upd H1 x (WN x xD)=H2 at hC m2
  case k0=>
   refine⟨_,rfl,rfl,_,rfl,ym ?_⟩;refine⟨_,rfl,(by show 2<=sizeLine;decide),λli hli=>?_⟩;refine⟨_,rfl,_,_,_,_,rfl,.tup (zm hli _ _ hv),jE,.inr ⟨_,rfl,?_⟩⟩;exact⟨li,_,_,.ref p,rfl,rfl,SqL.of zg,rfl,kq li _ hli⟩
  case k1=>
   refine⟨_,rfl,rfl,_,rfl,ym ?_⟩;refine⟨_,rfl,(by show 2<=sizeLine;decide),λli hli=>?_⟩;refine⟨_,rfl,_,_,_,_,rfl,.tup (zm hli _ _ hv),jE,.inr ⟨_,rfl,?_⟩⟩;exact⟨li,_,_,.ref p,rfl,rfl,SqL.of zg,rfl,kq li _ hli⟩
  all_goals
   obtain⟨rfl,kq⟩:=kR dk hq;refine⟨_,rfl,_,rfl,rfl,_,rfl,yr ?_⟩;refine⟨_,rfl,(by show 2<=sizeLine;decide),λli hli=>?_⟩;have m3:=zm hli (o:=.lst [.str "other",.str dk]);refine⟨_,rfl,_,_,_,_,rfl,.str _,Vq,_,rfl,ym ?_⟩;refine⟨_,rfl,_,rfl,x,Ce,j,dk,dk,rfl,m3 _ _ hC,Kd,hw,λH3 m4=>.inr ⟨_,rfl,?_⟩⟩;rw[decide_eq_true rfl,if_pos rfl];exact⟨li,_,_,.str dk,rfl,rfl,SqL.of (m4 _ _ zg),rfl,kq _ ((m2.trans m3).trans m4)⟩
end
theorem LT.stq(h:LT T H)(S:Sto H s)(m:∀c o,c≠s->H c=some o->H' c=some o):LT T H':=by
 obtain⟨g,x,k,e⟩:=S;have n0:T≠s:=Ne.symm (h.lst e);rcases h with h | ⟨c,h1,h2⟩
 ·exact .inl (m _ _ n0 h)
 ·refine .inr ⟨c,m _ _ n0 h1,m _ _ (λz=>?_) h2⟩;rw[z,e]at h2;cases h2
theorem LT.ins(h:LT T H)(e:H b=some (.ins CS dx fs)):b≠T:=λz=>by
 rw[z]at e;rcases h with h | ⟨c,h,_⟩
 ·rw[h]at e;cases e
 ·rw[h]at e;cases e
theorem TailsAt.sameL{T0 C tl la b:Addr}(TA:TailsAt C H tl la b ls ws L)(hT:LT T0 H)(m:SameL T0 H H'):TailsAt C H' tl la b ls ws L:=by
 obtain⟨dx,sa',srs,h1,h2,h3,h4⟩:=TA.ob;obtain⟨lrs,g1,g2,g3⟩:=TA.ly;have go:∀c u,c≠T0->aw [la] H c=some u->aw [la] H' c=some u:=λc u hc e=>by
  have hcl:c∉[la]:=λhz=>by rw[qZ hz]at e;cases e
  rw[zT hcl]at e ⊢;exact m c u hc e
 exact⟨⟨dx,sa',srs,go _ _ (hT.ins (zL _ _ _ _ h1)) h1,go _ _ (hT.lst (zL _ _ _ _ h2)) h2,λz hz=>go _ _ (hT.lst (zL _ _ _ _ (h3 z hz))) (h3 z hz),h4⟩,⟨lrs,m _ _ (hT.lst g1) g1,λz hz=>go _ _ (hT.lst (zL _ _ _ _ (g2 z hz))) (g2 z hz),g3⟩,TA.l1⟩
theorem KpAt.sameL{k tl sa la:Addr}(A:KpAt C CK H k tl sa la b bd bl zs ws L)(hT:LT T0 H)(m:SameL T0 H H'):KpAt C CK H' k tl sa la b bd bl zs ws L:=by
 obtain⟨dx,h1⟩:=A.ob;obtain⟨dt,h2⟩:=A.sa;exact⟨⟨dx,m _ _ (hT.ins h1) h1⟩,m _ _ (hT.lst A.li) A.li,λz hz=>m _ _ (hT.lst (A.st z hz)) (A.st z hz),A.ta.sameL hT m,⟨dt,m _ _ (hT.ins h2) h2⟩,A.gt,A.bla,A.l⟩
theorem KpAt.kpsL{k tl sa la:Addr}(A:KpAt C CK H k tl sa la b bd bl zs ws L)(hT:LT T0 H)(m:SameL T0 H H')(q:ClrK c H k tl sa la bl zs):ClrK c H' k tl sa la bl zs:=by
 obtain⟨_,h1⟩:=A.las;obtain⟨_,h2⟩:=A.sas;exact⟨q.nk,q.ntl,q.nsa,q.nla,q.nbl,q.nz,q.rla.same h1 (m _ _ (hT.lst h1) h1),q.rsa.same h2 (m _ _ (hT.lst h2) h2)⟩
section
variable {T0 C CK:Addr} {Hb H H':Hp} {X:List Addr} {s k:Addr} {b bd:Nat} {ls:ZA}
theorem Sto.same(S:Sto H s)(m:Same H H'):Sto H' s:=by obtain⟨x,y,z,e⟩:=S;exact⟨x,y,z,m _ _ e⟩
end
theorem ints_map(l:List Int):yE (.list (l.map .int))=l:=by
 show (l.map PyData.int).map qD=l;rw[List.map_map]
 conv=>rhs;rw[<-List.map_id l]
 rfl
theorem Jg(ls:ZA):(ls.map λl=>PyData.list (l.map .int)).map yE=ls:=by
 rw[List.map_map]
 conv=>rhs;rw[<-List.map_id ls]
 exact List.map_congr_left λl _=>ints_map l
def Yw(T0 C CK:Addr):Sp:=λvs H Q _=>Ex5 λk dx r b bl=>Ex2 λ(zs:ZB) (bd:Nat)=>vs=[.ref k,.ref r,.int bd]/\H k=some (.ins CK dx [])/\RuleAt H r b bl zs/\GoodRule b (zs.map (·.2))/\LT T0 H /\
 ∀tl sa la bl2 zs2 ws L H',KpAt C CK H' k tl sa la b bd bl2 zs2 ws L->zs2.map (·.2)=zs.map (·.2)->(∀c o,c≠k->c≠T0->H c=some o->H' c=some o)->LT T0 H'->H la=none->H sa=none->H bl2=none->(∀c o,H c=some o->c≠k->ClrK c H' k tl sa la bl2 zs2)->Q .non H'
theorem zbh{K:W.Frag}(G:FnOk P w K mg base (CX1 P w) 9 f fd Ak (Uo T0 C CK qS qB)):FnOk P w K mg base CX0 9 f fd Ak (Yw T0 C CK):=
 G.calm.imp λvs H Q E ⟨k,dx,r,b,bl,zs,bd,e,hk,R,g,hT,kk⟩=>by
  have t:=R.th;have f:vX (.tuple [.int b,.list ((zs.map (·.2)).map λl=>.list (l.map .int))])<=100000:=by
   obtain⟨d,td,_,ft⟩:=R.thing g;rw[t.uniq td];exact Nat.le_trans (zbV d) (Nat.le_trans ft.wt (by decide))
  refine⟨k,dx,.ref r,.int bd,_,.int bd,e,hk,t,by rw[ThAt],f,hT,λz=>absurd z (by rw[U4 g];intro z;cases z),λ_ z=>(ze2 z).elim,λr' b' bl' zs' bd' er R' g' ee=>?_⟩;obtain rfl:r=r':=by injection er
  obtain rfl:bd=bd':=by injection ee with ee;omega
  have e:=t.uniq R'.th;injection e with e
  injection e with e1 e
  injection e with e2 _
  injection e1 with e1
  injection e2 with e2
  obtain rfl:b=b':=by omega
  have e3:=congrArg (List.map yE) e2;rw[Jg,Jg]at e3;intro tl sa la bl2 zs2 ws L H' A1 A2;exact kk tl sa la bl2 zs2 ws L H' A1 (A2.trans e3.symm)
def zgk(T0 C CK:Addr)(b bd:Nat)(ls:ZA)(H:Hp)(k:Addr)(H':Hp):Prop:=∃tl sa la bl zs ws L,KpAt C CK H' k tl sa la b bd bl zs ws L/\zs.map (·.2)=ls/\SameL T0 H H'/\LT T0 H'/\H k=none/\H la=none/\H sa=none/\H bl=none/\∀c o,H c=some o->ClrK c H' k tl sa la bl zs
theorem zbY(R:RuleAt H r b bl zs)(g:GoodRule b (zs.map (·.2)))(hT:LT T0 H){R':Addr->Hp->Prop}(k:∀x H',zgk T0 C CK b bd (zs.map (·.2)) H x H'->R' x H'):
  ∀x dx,H x=none->H dx=none->dx≠x->Yw T0 C CK (.ref x::([.ref r,.int bd]++[])) (upd (upd H dx (.own x)) x (.ins CK dx [])) (λv H2=>v=.non/\R' x H2) E0:=by
 intro x dx nx ndx nex;have s0:=zcr (C:=CK) nx ndx;refine⟨x,dx,r,b,bl,zs,bd,rfl,zg,R.same s0,g,hT.same s0,λtl sa la bl2 zs2 ws L H' KA e fr hT' hla hsa hbl cl=>⟨rfl,k x H' ⟨tl,sa,la,bl2,zs2,ws,L,KA,e,λc o hc e=>fr c o (zx e nx) hc (s0 c o e),hT',nx,s0.free hla,s0.free hsa,s0.free hbl,λc o e=>cl c o (s0 _ _ e) (zx e nx)⟩⟩⟩
section
variable {T0 C CK:Addr} {Hb H H':Hp} {X:List Addr} {s k:Addr} {b bd:Nat} {ls:ZA}
theorem KpAt.fresh{tl sa la bl c:Addr}(A:KpAt C CK H k tl sa la b bd bl zs ws L)(h:H c=none):ClrK c H k tl sa la bl zs:=by
 obtain⟨dx,h1⟩:=A.ob;obtain⟨dt,h2⟩:=A.sa;obtain⟨xs1,w1⟩:=A.las;obtain⟨xs2,w2⟩:=A.sas;obtain⟨dx',sa',srs,t1,t2,t3,t4⟩:=A.ta.ob;obtain⟨lrs,g1,g2,g3⟩:=A.ta.ly;have esa:sa=sa':=by
  have:=zL _ _ _ _ t1;rw[h2]at this;injection this with this
  injection this with _ _ this
  have e:=yS b ws.length sa' la;rw[<-this,yS]at e;injection e with e
  injection e
 subst esa;refine⟨Ne.symm (zx h1 h),Ne.symm (zx h2 h),Ne.symm (zx w2 h),Ne.symm (zx w1 h),Ne.symm (zx A.li h),λz hz=>Ne.symm (zx (A.st z hz) h),λxs hx hm=>?_,λxs hx hm=>?_⟩
 ·rw[g1]at hx;injection hx with hx
  injection hx with hx
  rw[<-hx]at hm;obtain⟨z,hz,e⟩:=List.mem_map.mp hm;injection e with e
  have:=zL _ _ _ _ (g2 z hz);rw[e,h]at this;cases this
 ·rw[zL _ _ _ _ t2]at hx;injection hx with hx
  injection hx with hx
  rw[<-hx]at hm;obtain⟨z,hz,e⟩:=List.mem_map.mp hm;injection e with e
  have:=zL _ _ _ _ (t3 z hz);rw[e,h]at this;cases this
end
section
variable {T0 C CK:Addr} {Hb H H':Hp} {X M:List Addr} {s k:Addr} {b bd:Nat} {ls:ZA}
theorem KpAt.clrM{tl sa la bl:Addr}(A:KpAt C CK H k tl sa la b bd bl zs ws L)(q:∀c∈M,ClrK c H k tl sa la bl zs)(m:∀c o,c∉M->H c=some o->H' c=some o):KpAt C CK H' k tl sa la b bd bl zs ws L/\∀c,ClrK c H k tl sa la bl zs->ClrK c H' k tl sa la bl zs:=by
 obtain⟨dx,h1⟩:=A.ob;obtain⟨dt,h2⟩:=A.sa;obtain⟨xs1,w1⟩:=A.las;obtain⟨xs2,w2⟩:=A.sas;obtain⟨dx',sa',srs,t1,t2,t3,t4⟩:=A.ta.ob;obtain⟨lrs,g1,g2,g3⟩:=A.ta.ly;have esa:sa=sa':=by
  have:=zL _ _ _ _ t1;rw[h2]at this;injection this with this
  injection this with _ _ this
  have e:=yS b ws.length sa' la;rw[<-this,yS]at e;injection e with e
  injection e
 subst esa;have go:∀c u,c∉M->aw [la] H c=some u->aw [la] H' c=some u:=λc u hc e=>by
  have hcl:c∉[la]:=λhz=>by rw[qZ hz]at e;cases e
  rw[zT hcl]at e ⊢;exact m c u hc e
 have nk:k∉M:=λz=>(q _ z).nk rfl;have ntl:tl∉M:=λz=>(q _ z).ntl rfl;have nsa:sa∉M:=λz=>(q _ z).nsa rfl;have nla:la∉M:=λz=>(q _ z).nla rfl;have nbl:bl∉M:=λz=>(q _ z).nbl rfl;refine⟨⟨⟨dx,m _ _ nk h1⟩,m _ _ nbl A.li,λz hz=>m _ _ (λy=>(q _ y).nz z hz rfl) (A.st z hz),⟨⟨dx',sa,srs,go _ _ ntl t1,go _ _ nsa t2,λz hz=>go _ _ (λe=>?_) (t3 z hz),t4⟩,⟨lrs,m _ _ nla g1,λz hz=>go _ _ (λe=>?_) (g2 z hz),g3⟩,A.ta.l1⟩,⟨dt,m _ _ ntl h2⟩,A.gt,A.bla,A.l⟩,λc r=>⟨r.nk,r.ntl,r.nsa,r.nla,r.nbl,r.nz,r.rla.same w1 (m _ _ nla w1),r.rsa.same w2 (m _ _ nsa w2)⟩⟩
 ·exact (q _ e).rsa _ (zL _ _ _ _ t2) (List.mem_map.mpr ⟨z,hz,rfl⟩)
 ·exact (q _ e).rla _ g1 (List.mem_map.mpr ⟨z,hz,rfl⟩)
theorem KpAt.clrT{tl sa la bl:Addr}(A:KpAt C CK H k tl sa la b bd bl zs ws L)(lt:LT T0 H):ClrK T0 H k tl sa la bl zs:=by
 obtain⟨dx,h1⟩:=A.ob;obtain⟨dt,h2⟩:=A.sa;obtain⟨xs1,w1⟩:=A.las;obtain⟨xs2,w2⟩:=A.sas;obtain⟨dx',sa',srs,t1,t2,t3,t4⟩:=A.ta.ob;obtain⟨lrs,g1,g2,g3⟩:=A.ta.ly;have esa:sa=sa':=by
  have:=zL _ _ _ _ t1;rw[h2]at this;injection this with this
  injection this with _ _ this
  have e:=yS b ws.length sa' la;rw[<-this,yS]at e;injection e with e
  injection e
 subst esa;refine⟨Ne.symm (lt.ins h1),Ne.symm (lt.ins h2),Ne.symm (lt.lst w2),Ne.symm (lt.lst w1),Ne.symm (lt.lst A.li),λz hz=>Ne.symm (lt.lst (A.st z hz)),λxs hx hm=>?_,λxs hx hm=>?_⟩
 ·rw[g1]at hx;injection hx with hx
  injection hx with hx
  rw[<-hx]at hm;obtain⟨z,hz,e⟩:=List.mem_map.mp hm;injection e with e
  exact lt.lst (zL _ _ _ _ (g2 z hz)) e
 ·rw[zL _ _ _ _ t2]at hx;injection hx with hx
  injection hx with hx
  rw[<-hx]at hm;obtain⟨z,hz,e⟩:=List.mem_map.mp hm;injection e with e
  exact lt.lst (zL _ _ _ _ (t3 z hz)) e
end
theorem zcS:∀{l1 l2:ZA},l1.Pairwise (λx y=>HT.lexLt x y=true)->l2.Pairwise (λx y=>HT.lexLt x y=true)->(∀x,x∈l1↔x∈l2)->l1=l2
 |[],[],_,_,_=>rfl
 |[],y::l2,_,_,h=>absurd ((h y).mpr List.mem_cons_self) List.not_mem_nil
 |x::l1,[],_,_,h=>absurd ((h x).mp List.mem_cons_self) List.not_mem_nil
 |x::l1,y::l2,p1,p2,h=>by
  rw[List.pairwise_cons]at p1 p2;have e:x=y:=by
   rcases List.mem_cons.mp ((h x).mp List.mem_cons_self) with e | e
   ·exact e
   ·rcases List.mem_cons.mp ((h y).mpr List.mem_cons_self) with e' | e'
    ·exact e'.symm
    ·have a1:=p2.1 x e;have a2:=p1.1 y e';have:=HT.wQ _ _ _ a1 a2;rw[HT.yW]at this;cases this
  subst e;rw[zcS p1.2 p2.2 λz=>?_];constructor
  ·intro hz;rcases List.mem_cons.mp ((h z).mp (List.mem_cons_of_mem _ hz)) with e | e
   ·have:=p1.1 z hz;rw[e,HT.yW]at this;cases this
   ·exact e
  ·intro hz;rcases List.mem_cons.mp ((h z).mpr (List.mem_cons_of_mem _ hz)) with e | e
   ·have:=p2.1 z hz;rw[e,HT.yW]at this;cases this
   ·exact e
theorem DueL.uniq(h:door<=1)(a:DueL door ls ns l1)(b':DueL door ls ns l2)(g1:GoodRule b l1)(g2:GoodRule b l2):l1=l2:=by
 rcases (show door=0\/door=1 by omega) with e | e
 ·exact zcS g1.up g2.up λx=>((a.1 e).trans (b'.1 e).symm).mem_iff
 ·rw[a.2 e,b'.2 e]
def SO(T0 C CK:Addr)(H:Hp)(X:List Addr)(k la:Addr)(b bd:Nat)(ls:ZA):Prop:=∃tl sa bl zs ws L,KpAt C CK H k tl sa la b bd bl zs ws L/\zs.map (·.2)=ls/\∀c∈X,(∃o,H c=some o)/\c≠T0/\ClrK c H k tl sa la bl zs
section
variable {T0 C CK:Addr} {Hb H H':Hp} {X M:List Addr} {s k la:Addr} {b bd:Nat} {ls:ZA}
theorem SO.same(D:SO T0 C CK H X k la b bd ls)(m:Same H H'):SO T0 C CK H' X k la b bd ls:=by
 obtain⟨tl,sa,bl,zs,ws,L,A,e,q⟩:=D;exact⟨tl,sa,bl,zs,ws,L,A.same m,e,λc hc=>let ⟨⟨o,h⟩,n,r⟩:=q c hc;⟨⟨o,m _ _ h⟩,n,A.kps m c o h r⟩⟩
theorem SO.good_rule(D:SO T0 C CK H X k la b bd ls):GoodRule b ls:=by
 obtain⟨tl,sa,bl,zs,ws,L,A,rfl,_⟩:=D;exact A.gt.g
theorem SO.ob(D:SO T0 C CK H X k la b bd ls):∃dx bl tl,H k=some (.ins CK dx (vO b bl bd tl)):=by
 obtain⟨tl,sa,bl,zs,ws,L,A,_⟩:=D;obtain⟨dx,h⟩:=A.ob;exact⟨dx,bl,tl,h⟩
theorem SO.ola(D:SO T0 C CK H X k la b bd ls):∃xs,H la=some (.lst xs):=by
 obtain⟨tl,sa,bl,zs,ws,L,A,_⟩:=D;obtain⟨xs,h⟩:=A.las;exact⟨_,h⟩
theorem SO.other(D:SO T0 C CK H X k la b bd ls)(O:Off T0 k2 la2 H H')(lt:LT T0 H)(h1:k2∈X)(h2:la2∈X)(Z:List Addr)(hZ:∀c∈Z,(∃o,H' c=some o)/\c≠T0/\(c∈X\/H c=none)):SO T0 C CK H' Z k la b bd ls:=by
 obtain⟨tl,sa,bl,zs,ws,L,A,e,q⟩:=D;have hq:∀c∈[k2,la2,T0],ClrK c H k tl sa la bl zs:=λc hc=>by
  simp at hc;rcases hc with rfl | rfl | rfl
  ·exact (q _ h1).2.2
  ·exact (q _ h2).2.2
  ·exact A.clrT lt
 obtain⟨A2,qq⟩:=A.clrM (H':=H') hq λc o hc h=>by
  simp at hc;exact O c o hc.1 hc.2.1 hc.2.2 h
 refine⟨tl,sa,bl,zs,ws,L,A2,e,λc hc=>?_⟩;obtain⟨o,t,h⟩:=hZ c hc;rcases h with h | h
 ·exact⟨o,t,qq c (q c h).2.2⟩
 ·exact⟨o,t,qq c (A.fresh h)⟩
theorem SO.asked(D:SO T0 C CK H X k la b bd ls)(lt:LT T0 H)(hbd:bd<2^900){door:Nat}(ht:H t=some (.tup [.int door,u]))(h1:door<=1)(hd:ThAt H d u)(hs:vX d<=100000)(kR:∀x,qY b ls d door=some x->dv=.str x/\∀H',Same H H'->Q (.str x) H')(kO:qY b ls d door=none->∀p la' ls2 H',DueL door ls (yE d) ls2->SO T0 C CK H' X k la' b bd ls2->Off T0 k la H H'->LT T0 H'->H la'=none->H p=none->p≠la'->H' p=some (.tup [.int (many (gd ls b) bd:Nat),.int (many (gd ls2 b) bd:Nat)])->Q (.ref p) H'):uO T0 C CK [.ref k,.ref t,dv] H Q E:=by
 obtain⟨tl,sa,bl,zs,ws,L,A,rfl,q⟩:=D;exact⟨k,tl,sa,la,b,bd,bl,zs,ws,L,t,door,u,d,dv,rfl,A,hbd,lt,ht,h1,hd,hs,λx hx=>kR x hx,λhx p tl2 sa2 la2 bl2 zs2 ws2 L2 H' hp hv A2 ok O lt2 hla2 hsa2 hbl2 pla cl=>kO hx p la2 _ H' ok ⟨tl2,sa2,bl2,zs2,ws2,L2,A2,rfl,λc hc=>let ⟨⟨o,h⟩,n,r⟩:=q c hc;⟨⟨o,O c o r.nk r.nla n h⟩,n,cl c o h r.nk λz hz=>r.nz z hz⟩⟩ O lt2 hla2 hp pla hv⟩
theorem zcQ(lt:LT T H):H T≠none:=λz=>lt.none z rfl
end
theorem LT.sq{K:W.Frag}(h:LT T H)(m:SameL T H H')(q:SqL K H a xs):SqL K H' a xs:=by
 rcases q with (q | ⟨o,q⟩) | q
 ·exact .inl (.inl (m _ _ (h.lst q) q))
 ·refine .inl (.inr ⟨o,m _ _ (λz=>?_) q⟩);rw[z]at q;rcases h with h | ⟨c,h,_⟩
  ·rw[h]at q;cases q
  ·rw[h]at q;cases q
 ·exact .inr q
theorem zfc(h:aw [s] H c=some o)(n:c≠T):aw [T,s] H c=some o:=by
 have hc:c∉[s]:=λz=>by rw[qZ z]at h;cases h
 rw[zT hc]at h;simp at hc;rw[zT (by simp[n,hc])];exact h
theorem RuleAt.vw(R:RuleAt (aw [s] H) r b bl zs)(lt:LT T H):RuleAt (aw [T,s] H) r b bl zs :=
 ⟨zfc R.tu (lt.tup (zL _ _ _ _ R.tu)),zfc R.li (lt.lst (zL _ _ _ _ R.li)),λz hz=>zfc (R.st z hz) (lt.lst (zL _ _ _ _ (R.st z hz)))⟩
def QM(x y:Nat):Tr:=.tup [.int x,.int y]
theorem TrAt.pair{K:W.Frag}(h:H p=some (.tup [.int x,.int y])):TrAt K H (QM x y) (.ref p):=by
 unfold QM;rw[TrAt];exact⟨p,_,rfl,SqT.of h,by rw[TrsAt];exact⟨_,_,rfl,by rw[TrAt],by rw[TrsAt];exact⟨_,_,rfl,by rw[TrAt],by rw[TrsAt]⟩⟩⟩
theorem zcZ(x y:Nat):vG (QM x y)<=8:=by simp[QM,vG,xq]
structure Kp where
 k:Addr
 la:Addr
 bd:Nat
 ls:ZA
def adK(ks:List Kp):List Addr:=ks.flatMap λq=>[q.k,q.la]
theorem Zd:c∈adK ks↔∃q∈ks,c=q.k\/c=q.la:=by simp[adK]
abbrev oth(ks:List Kp)(i:Nat):List Addr:=adK (ks.eraseIdx i)
theorem Zw:c∈oth ks i↔∃j q,j≠i/\ks[j]?=some q/\(c=q.k\/c=q.la):=by
 rw[Zd];constructor
 ·rintro⟨q,hq,h⟩;obtain⟨j,hj,e⟩:=List.mem_eraseIdx_iff_getElem?.mp hq;exact⟨j,q,hj,e,h⟩
 ·rintro⟨j,q,hj,e,h⟩;exact⟨q,List.mem_eraseIdx_iff_getElem?.mpr ⟨j,hj,e⟩,h⟩
structure Grp (T0 C CK:Addr) (Hb H:Hp) (X:List Addr) (s:Addr) (b:Nat) (ks:List Kp):Prop where
 so:∀i q,ks[i]?=some q->SO T0 C CK H (s::X++oth ks i) q.k q.la b q.bd q.ls
 xs:∀c∈s::X,(∃o,H c=some o)/\c≠T0
 lt:LT T0 H
 st:Sto H s
 bs:∀c o,Hb c=some o->H c=some o/\c∉T0::s::adK ks
section
variable {T0 C CK:Addr} {Hb H H':Hp} {X:List Addr} {s k la:Addr} {b bd i:Nat} {ls:ZA} {ks:List Kp} {q:Kp}
theorem Grp.same(G:Grp T0 C CK Hb H X s b ks)(m:Same H H'):Grp T0 C CK Hb H' X s b ks:=⟨λi q h=>(G.so i q h).same m,λc hc=>let ⟨⟨o,h⟩,n⟩:=G.xs c hc;⟨⟨o,m _ _ h⟩,n⟩,G.lt.same m,G.st.same m,λc o h=>⟨m _ _ (G.bs c o h).1,(G.bs c o h).2⟩⟩
theorem Grp.base(G:Grp T0 C CK Hb H X s b ks):Same Hb H:=λc o h=>(G.bs c o h).1
theorem Grp.ad(G:Grp T0 C CK Hb H X s b ks)(h:c∈T0::s::adK ks):H c≠none:=by
 rcases List.mem_cons.mp h with rfl | h
 ·exact zcQ G.lt
 rcases List.mem_cons.mp h with rfl | h
 ·obtain⟨o,e⟩:=(G.xs c (by simp)).1;rw[e];simp
 obtain⟨q,hq,h⟩:=Zd.mp h;obtain⟨i,hi⟩:=List.getElem?_of_mem hq;rcases h with rfl | rfl
 ·obtain⟨_,_,_,e⟩:=(G.so i q hi).ob;rw[e];simp
 ·obtain⟨_,e⟩:=(G.so i q hi).ola;rw[e];simp
theorem Grp.view(G:Grp T0 C CK Hb H X s b ks):Grp T0 C CK (aw (T0::s::adK ks) H) H X s b ks/\Same Hb (aw (T0::s::adK ks) H):=
 ⟨⟨G.so,G.xs,G.lt,G.st,λc o h=>by
  have hc:c∉T0::s::adK ks:=λz=>by rw[qZ z]at h;cases h
  rw[zT hc]at h;exact⟨h,hc⟩⟩,λc o h=>by rw[zT (G.bs c o h).2];exact (G.bs c o h).1⟩
theorem Grp.more(G:Grp T0 C CK Hb H X s b ks)(G':Grp T0 C CK Hb H' X s b ks):∃Hb',Grp T0 C CK Hb' H' X s b ks/\Same Hb Hb'/\∀c o,H c=none->H' c=some o->Hb' c=some o :=
 ⟨_,G'.view.1,G'.view.2,λc o h h'=>by rw[zT (λz=>G.ad z h)];exact h'⟩
theorem Grp.stq(G:Grp T0 C CK Hb H X s b ks)(m:Stq s H H'):Grp T0 C CK Hb H' X s b ks:=by
 have O:Off T0 s s H H':=λc o h _ _ e=>m.sm c o h e;have up:∀c,(∃o,H c=some o)->∃o,H' c=some o:=λc ⟨o,h⟩=>by
  by_cases z:c=s
  ·obtain⟨x,y,u,e⟩:=m.st;exact⟨_,by rw[z];exact e⟩
  ·exact⟨o,m.sm c o z h⟩
 refine⟨λi q h=>(G.so i q h).other O G.lt (by simp) (by simp) _ λc hc=>?_,λc hc=>⟨up c (G.xs c hc).1,(G.xs c hc).2⟩,G.lt.stq G.st m.sm,m.st,λc o h=>⟨m.sm c o (λz=>(G.bs c o h).2 (by simp[z])) (G.bs c o h).1,(G.bs c o h).2⟩⟩;obtain⟨_,_,_,_,_,_,_,_,r⟩:=G.so i q h;exact⟨up c (r c hc).1,(r c hc).2.1,.inl hc⟩
theorem set_same{α:Type}{l:List α}{a:α}(h:l[i]?=some a):l.set i a=l:=by
 refine List.ext_getElem? λj=>?_;rw[List.getElem?_set];split
 ·next e=>
  subst e;rw[h,if_pos (List.getElem?_eq_some_iff.mp h).1]
 ·rfl
theorem Grp.put(G:Grp T0 C CK Hb H X s b ks)(hi:ks[i]?=some q)(O:Off T0 q.k q.la H H')(lt':LT T0 H')(S':SO T0 C CK H' (s::X++oth ks i) q.k la' b q.bd l2)(hla:la'=q.la\/H la'=none):Grp T0 C CK Hb H' X s b (ks.set i ⟨q.k,la',q.bd,l2⟩):=by
 obtain⟨_,_,_,_,_,_,_,_,r⟩:=G.so i q hi;obtain⟨_,_,_,hk'⟩:=S'.ob;obtain⟨_,hla'⟩:=S'.ola;have keep:∀c∈s::X++oth ks i,(∃o,H' c=some o)/\c≠T0:=λc hc=>let ⟨⟨o,h⟩,n,t⟩:=r c hc;⟨⟨o,O c o t.nk t.nla n h⟩,n⟩;obtain⟨x,y,z,hs⟩:=G.st;have ts:=(r s (by simp)).2.2;refine⟨λj q2 hj=>?_,λc hc=>keep c (by simp at hc ⊢;rcases hc with h | h<;>simp[h]),lt',⟨x,y,z,O s _ ts.nk ts.nla (r s (by simp)).2.1 hs⟩,λc o h=>?_⟩
 ·by_cases hji:i=j
  ·subst hji;rw[List.getElem?_set_self (List.getElem?_eq_some_iff.mp hi).1]at hj;cases hj
   show SO T0 C CK H' (s::X++adK ((ks.set i ⟨q.k,la',q.bd,l2⟩).eraseIdx i)) q.k la' b q.bd l2;rw[List.eraseIdx_set_eq];exact S'
  ·rw[List.getElem?_set_ne hji]at hj;have iq:∀{c},c=q.k\/c=q.la->c∈s::X++oth ks j:=λh=>List.mem_append_right _ (Zw.mpr ⟨i,q,hji,hi,h⟩);refine (G.so j q2 hj).other O G.lt (iq (.inl rfl)) (iq (.inr rfl)) _ λc hc=>?_;rcases List.mem_append.mp hc with hc | hc
   ·have:=keep c (List.mem_append_left _ hc);exact⟨this.1,this.2,.inl (List.mem_append_left _ hc)⟩
   obtain⟨j',q',hj',e',h⟩:=Zw.mp hc;by_cases z:i=j'
   ·subst z;rw[List.getElem?_set_self (List.getElem?_eq_some_iff.mp hi).1]at e';cases e'
    rcases h with rfl | rfl
    ·exact⟨⟨_,hk'⟩,lt'.ins hk',.inl (iq (.inl rfl))⟩
    ·refine⟨⟨_,hla'⟩,lt'.lst hla',?_⟩;rcases hla with e | e
     ·exact .inl (iq (.inr e))
     ·exact .inr e
   ·rw[List.getElem?_set_ne z]at e';have:=keep c (List.mem_append_right _ (Zw.mpr ⟨j',q',Ne.symm z,e',h⟩));exact⟨this.1,this.2,.inl (List.mem_append_right _ (Zw.mpr ⟨j',q',hj',e',h⟩))⟩
 ·obtain⟨h1,h2⟩:=G.bs c o h;have n:∀q'∈ks,c≠q'.k/\c≠q'.la:=λq' hq=>⟨λz=>h2 (by simp[Zd];exact .inr (.inr ⟨q',hq,.inl z⟩)),λz=>h2 (by simp[Zd];exact .inr (.inr ⟨q',hq,.inr z⟩))⟩
  have nq:=n q (List.mem_of_getElem? hi);simp at h2;refine⟨O c o nq.1 nq.2 h2.1 h1,λz=>?_⟩;rcases List.mem_cons.mp z with z | z
  ·exact h2.1 z
  rcases List.mem_cons.mp z with z | z
  ·exact h2.2.1 z
  obtain⟨q',hq',e⟩:=Zd.mp z;rcases List.mem_or_eq_of_mem_set hq' with hq' | rfl
  ·exact e.elim (n q' hq').1 (n q' hq').2
  ·rcases e with e | e
   ·exact nq.1 e
   ·rcases hla with z | z
    ·exact nq.2 (e.trans z)
    ·exact zx h1 z e
theorem SO.below(D:SO T0 C CK H X k la b bd ls)(lt:LT T0 H)(hn:n<2^900){Q:VK}(h:∀H',SO T0 C CK H' X k la b bd ls->Off T0 k la H H'->LT T0 H'->Q (.int (many (gd ls b) n:Nat)) H'):j6 T0 C CK [.ref k,.int n] H Q E:=by
 obtain⟨tl,sa,bl,zs,ws,L,A,rfl,q⟩:=D;exact⟨k,tl,sa,la,b,bd,bl,zs,ws,L,n,rfl,A,hn,lt,λL' H' A' m lt' ks=>h H' ⟨tl,sa,bl,zs,ws,L',A',rfl,λc hc=>let ⟨⟨o,h⟩,n,r⟩:=q c hc;⟨⟨o,zaZ m r.nla h⟩,n,ks c o h r⟩⟩ (λc o _ h _ e=>zaZ m h e) lt'⟩
theorem Grp.below(G:Grp T0 C CK Hb H X s b ks)(hi:ks[i]?=some q)(hn:n<2^900){Q:VK}(h:∀H',Grp T0 C CK Hb H' X s b ks->Q (.int (many (gd q.ls b) n:Nat)) H'):j6 T0 C CK [.ref q.k,.int n] H Q E :=
 (G.so i q hi).below G.lt hn λH' S O lt'=>h H' (by have:=G.put hi O lt' S (.inl rfl);rwa[show (⟨q.k,q.la,q.bd,q.ls⟩:Kp)=q from rfl,set_same hi]at this)
theorem Grp.rule(G:Grp T0 C CK Hb H X s b ks)(hi:ks[i]?=some q)(h:∀r bl zs Hb' H',RuleAt Hb' r b bl zs->zs.map (·.2)=q.ls->Grp T0 C CK Hb' H' X s b ks->Same Hb Hb'->Q (.ref r) H'):VH C CK [.ref q.k] H Q E:=by
 obtain⟨tl,sa,bl,zs,ws,L,A,e,_⟩:=G.so i q hi;refine⟨q.k,tl,sa,q.la,b,q.bd,bl,zs,ws,L,rfl,A,λr bl' zs' H' m R e' hb hr hz=>?_⟩;obtain⟨Hb',D',mb,new⟩:=G.more (G.same m);exact h r bl' zs' Hb' H' ⟨new _ _ hr R.tu,new _ _ hb R.li,λz hzm=>new _ _ (hz z hzm).1 (R.st z hzm)⟩ (e'.trans e) D' mb
theorem Grp.good_rule(G:Grp T0 C CK Hb H X s b ks)(hi:ks[i]?=some q):GoodRule b q.ls:=(G.so i q hi).good_rule
theorem Grp.deed(G:Grp T0 C CK Hb H X s b ks)(hi:ks[i]?=some q)(R:RuleAt Hb r b bl zs)(e:zs.map (·.2)=q.ls)(h:∀(t:Addr) (door:Nat) (u:V) (d:PyData) (Hb' H':Hp),Grp T0 C CK Hb' H' X s b ks->Same Hb Hb'->Hb' t=some (.tup [.int door,u])->door<=1->ThAt Hb' d u->Fit 3 2000 d->Q (.ref t) H'):Zq [.ref s,.ref r] H Q E:=by
 have mb:Same Hb (aw (s::T0::adK ks) H):=λc o e=>by
  obtain⟨h1,h2⟩:=G.bs c o e;rw[zT (λz=>h2 (by simp at z ⊢;rcases z with h | h | h<;>simp[h]))];exact h1
 refine⟨s,r,T0::adK ks,b,bl,zs,rfl,G.st,λm hm=>G.ad (by simp at hm ⊢;rcases hm with h | h<;>simp[h]),R.same mb,by rw[e];exact G.good_rule hi,λt door u d H' qs m ht h1 hd f=>h t door u d (aw (s::T0::adK ks) H') H' ⟨(G.stq qs).so,(G.stq qs).xs,(G.stq qs).lt,qs.st,λc o h=>?_⟩ (mb.trans m) ht h1 hd f⟩;have hc:c∉s::T0::adK ks:=λz=>by rw[qZ z]at h;cases h
 rw[zT hc]at h;exact⟨h,λz=>hc (by simp at z ⊢;rcases z with h | h | h<;>simp[h])⟩
theorem Grp.asked(G:Grp T0 C CK Hb H X s b ks)(hi:ks[i]?=some q)(hbd:q.bd<2^900){door:Nat}(ht:Hb t=some (.tup [.int door,u]))(h1:door<=1)(hd:ThAt Hb d u)(hs:vX d<=100000)(kR:∀x,qY b q.ls d door=some x->dv=.str x/\∀H',Grp T0 C CK Hb H' X s b ks->Q (.str x) H')(kO:qY b q.ls d door=none->∀p la' l2 Hb' H',DueL door q.ls (yE d) l2->GoodRule b l2->Grp T0 C CK Hb' H' X s b (ks.set i ⟨q.k,la',q.bd,l2⟩)->Same Hb Hb'->Hb' p=some (.tup [.int (many (gd q.ls b) q.bd:Nat),.int (many (gd l2 b) q.bd:Nat)])->Q (.ref p) H'):uO T0 C CK [.ref q.k,.ref t,dv] H Q E:=by
 have mb:=G.base;refine (G.so i q hi).asked G.lt hbd (mb _ _ ht) h1 (hd.same mb) hs (λx hx=>⟨(kR x hx).1,λH' m=>(kR x hx).2 H' (G.same m)⟩) λhx p la' l3 H' du A' O lt' nla np npl hv=>?_;have G':=G.put hi O lt' A' (.inr nla);refine kO hx p la' l3 _ H' du A'.good_rule G'.view.1 G'.view.2 ?_;rw[zT]
 ·exact hv
 intro z;rcases List.mem_cons.mp z with z | z
 ·exact zcQ G.lt (by rw[<-z];exact np)
 rcases List.mem_cons.mp z with z | z
 ·exact G.ad (c:=s) (by simp) (by rw[<-z];exact np)
 obtain⟨q',hq',e⟩:=Zd.mp z;have old:∀q'∈ks,¬ (p=q'.k\/p=q'.la):=λq' h e=>G.ad (List.mem_cons_of_mem _ (List.mem_cons_of_mem _ (Zd.mpr ⟨q',h,e⟩))) np;rcases List.mem_or_eq_of_mem_set hq' with h | rfl
 ·exact old q' h e
 ·rcases e with e | e
  ·exact old q (List.mem_of_getElem? hi) (.inl e)
  ·exact npl e
theorem Grp.add(G:Grp T0 C CK Hb H X s b ks)(M:zgk T0 C CK b bd ls H k H'):∃la,Grp T0 C CK Hb H' X s b (ks++[⟨k,la,bd,ls⟩]):=by
 obtain⟨tl,sa,la,bl,zs,ws,L,A,e,m,lt',hk,hla,hsa,hbl,cl⟩:=M;obtain⟨dx,h1⟩:=A.ob;obtain⟨xs,h2⟩:=A.las;have new:∀{j:Nat} {q:Kp},(ks++[⟨k,la,bd,ls⟩])[j]?=some q->ks[j]?=some q\/j=ks.length/\q=⟨k,la,bd,ls⟩:=λ{j q} e=>by
  by_cases z:j<ks.length
  ·rw[List.getElem?_append_left z]at e;exact .inl e
  ·have hl:=(List.getElem?_eq_some_iff.mp e).1;rw[List.length_append,List.length_singleton]at hl;obtain rfl:j=ks.length:=by omega
   rw[List.getElem?_concat_length]at e;exact .inr ⟨rfl,(Option.some.inj e).symm⟩
 have up:∀c o,H c=some o->c≠T0->(∃o,H' c=some o)/\c≠T0:=λc o h n=>⟨⟨o,m _ _ n h⟩,n⟩
 refine⟨la,⟨λj q hj=>?_,λc hc=>let ⟨⟨o,h⟩,n⟩:=G.xs c hc;up c o h n,lt',?_,λc o h=>?_⟩⟩
 ·rcases new hj with hj | ⟨rfl,rfl⟩
  ·obtain⟨tl',sa',bl',zs',ws',L',A',e',r⟩:=G.so j q hj;have old:∀c∈s::X++oth ks j,(∃o,H' c=some o)/\c≠T0/\ClrK c H' q.k tl' sa' q.la bl' zs':=λc hc=>let ⟨⟨o,h⟩,n,t⟩:=r c hc;⟨⟨o,m _ _ n h⟩,n,A'.kpsL G.lt m t⟩;refine⟨tl',sa',bl',zs',ws',L',A'.sameL G.lt m,e',λc hc=>?_⟩;rcases List.mem_append.mp hc with hc | hc
   ·exact old c (List.mem_append_left _ hc)
   obtain⟨j',q',hj',e',h⟩:=Zw.mp hc;rcases new e' with e' | ⟨rfl,rfl⟩
   ·exact old c (List.mem_append_right _ (Zw.mpr ⟨j',q',hj',e',h⟩))
   ·rcases h with rfl | rfl
    ·exact⟨⟨_,h1⟩,G.lt.none hk,A'.kpsL G.lt m (A'.fresh hk)⟩
    ·exact⟨⟨_,h2⟩,G.lt.none hla,A'.kpsL G.lt m (A'.fresh hla)⟩
  ·refine⟨tl,sa,bl,zs,ws,L,A,e,λc hc=>?_⟩;have fin:∀o,H c=some o->c≠T0->(∃o,H' c=some o)/\c≠T0/\ClrK c H' k tl sa la bl zs:=λo h n=>⟨⟨o,m _ _ n h⟩,n,cl c o h⟩
   rcases List.mem_append.mp hc with hc | hc
   ·obtain⟨⟨o,h⟩,n⟩:=G.xs c hc;exact fin o h n
   obtain⟨j',q',hj',e',h⟩:=Zw.mp hc;rcases new e' with e' | ⟨z,_⟩
   ·rcases h with rfl | rfl
    ·obtain⟨_,_,_,h⟩:=(G.so j' q' e').ob;exact fin _ h (G.lt.ins h)
    ·obtain⟨_,h⟩:=(G.so j' q' e').ola;exact fin _ h (G.lt.lst h)
   ·exact absurd z hj'
 ·obtain⟨x,y,z,h⟩:=G.st;exact⟨x,y,z,m _ _ (G.lt.lst h) h⟩
 ·obtain⟨h3,h4⟩:=G.bs c o h;simp[adK]at h4 ⊢;exact⟨m _ _ h4.1 h3,h4.1,h4.2.1,h4.2.2,zx h3 hk,zx h3 hla⟩
theorem LT.poke(h:LT T H)(e:H c=some (.lst xs))(m:∀d o,d≠c->H d=some o->H' d=some o):LT T H':=by
 have n0:T≠c:=Ne.symm (h.lst e);rcases h with h | ⟨d,h1,h2⟩
 ·exact .inl (m _ _ n0 h)
 ·refine .inr ⟨d,m _ _ n0 h1,m _ _ (λz=>?_) h2⟩;rw[z,e]at h2;cases h2
theorem Grp.poke(G:Grp T0 C CK Hb H X s b ks){xs:List V}(hc:c∈X)(hb:Hb c=some (.lst xs))(o:HO):Grp T0 C CK (upd Hb c o) (upd H c o) X s b ks:=by
 obtain⟨hH,hn⟩:=G.bs c _ hb;have ncs:s≠c:=λz=>hn (by simp[z]);have O:Off T0 c c H (upd H c o):=λd u h _ _ e=>by rw[zr h];exact e
 have up:∀d,(∃o,H d=some o)->∃u,upd H c o d=some u:=λd ⟨u,h⟩=>by
  by_cases z:d=c
  ·exact⟨o,by rw[z,zg]⟩
  ·exact⟨u,by rw[zr z];exact h⟩
 have hin:∀i,c∈s::X++oth ks i:=λi=>by simp[hc]
 obtain⟨x,y,z,hs⟩:=G.st;refine⟨λi q h=>(G.so i q h).other O G.lt (hin i) (hin i) _ λd hd=>?_,λd hd=>⟨up d (G.xs d hd).1,(G.xs d hd).2⟩,G.lt.poke hH λd u h e=>by rw[zr h];exact e,⟨x,y,z,by rw[zr ncs];exact hs⟩,λd u h=>?_⟩
 ·obtain⟨_,_,_,_,_,_,_,_,r⟩:=G.so i q h;exact⟨up d (r d hd).1,(r d hd).2.1,.inl hd⟩
 ·by_cases z:d=c
  ·rw[z,zg]at h;rw[z,zg];exact⟨h,hn⟩
  ·rw[zr z]at h ⊢;exact G.bs d u h
theorem Grp.grow(G:Grp T0 C CK Hb H X s b ks)(h:H c=none)(m:Same H H')(h':H' c=some o):Grp T0 C CK Hb H' (c::X) s b ks:=by
 have G':=G.same m;refine⟨λi q hi=>?_,λd hd=>?_,G'.lt,G'.st,G'.bs⟩
 ·obtain⟨tl,sa,bl,zs,ws,L,A,e,r⟩:=G'.so i q hi;obtain⟨tl',sa',bl',zs',ws',L',A0,e0,r0⟩:=G.so i q hi;refine⟨tl',sa',bl',zs',ws',L',A0.same m,e0,λd hd=>?_⟩;simp at hd;by_cases z:d=c
  ·subst z;refine⟨⟨o,h'⟩,G.lt.none h,?_⟩;have cl:=A0.fresh h;obtain⟨xs1,w1⟩:=A0.las;obtain⟨xs2,w2⟩:=A0.sas;exact⟨cl.nk,cl.ntl,cl.nsa,cl.nla,cl.nbl,cl.nz,cl.rla.same w1 (m _ _ w1),cl.rsa.same w2 (m _ _ w2)⟩
  ·obtain⟨⟨u,hu⟩,n,t⟩:=r0 d (by simp;rcases hd with h | h | h | h<;>simp_all);exact⟨⟨u,m _ _ hu⟩,n,A0.kps m d u hu t⟩
 ·simp at hd;rcases hd with rfl | rfl | hd
  ·exact G'.xs d (by simp)
  ·exact⟨⟨o,h'⟩,G.lt.none h⟩
  ·exact G'.xs d (by simp[hd])
end
structure RuX (Hb:Hp) (X:List Addr) (r:Addr) (b:Nat) (bl:Addr) (zs:ZB):Prop where
 ru:RuleAt Hb r b bl zs
 nr:r∉X
 nb:bl∉X
 nz:∀z∈zs,z.1∉X
theorem RuX.same(R:RuX Hb X r b bl zs)(m:Same Hb Hb'):RuX Hb' X r b bl zs:=⟨R.ru.same m,R.nr,R.nb,R.nz⟩
theorem RuX.poke(R:RuX Hb X r b bl zs)(h:c∈X):RuX (upd Hb c o) X r b bl zs :=
 ⟨⟨by rw[zr (λz=>R.nr (by rw[z];exact h))];exact R.ru.tu,by rw[zr (λz=>R.nb (by rw[z];exact h))];exact R.ru.li,λz hz=>by rw[zr (λy=>R.nz z hz (by rw[y];exact h))];exact R.ru.st z hz⟩,R.nr,R.nb,R.nz⟩
theorem Grp.dueX{b i:Nat}(G:Grp T0 C CK Hb H X s b ks)(hi:ks[i]?=some q){door:Nat}(R:RuX Hb X r b bl zs)(e:zs.map (·.2)=q.ls)(ht:Hb t=some (.tup [.int door,u]))(h1:door<=1)(hd:ThAt Hb d u)(hs:vX d<=100000)(kR:∀x,qY b q.ls d door=some x->∀H',Grp T0 C CK Hb H' X s b ks->Q (.str x) H')(kO:qY b q.ls d door=none->∀r2 bl2 zs2 Hb' H',Grp T0 C CK Hb' H' X s b ks->Same Hb Hb'->RuX Hb' X r2 b bl2 zs2->GoodRule b (zs2.map (·.2))->DueL door q.ls (yE d) (zs2.map (·.2))->Q (.ref r2) H'):Z2 [.ref r,.ref t] H Q E:=by
 have g:=G.good_rule hi;rw[<-e]at g kR kO;refine⟨r,t,b,bl,zs,door,u,d,rfl,R.ru.same G.base,g,G.base _ _ ht,h1,hd.same G.base,hs,λx hx H' m=>kR x hx H' (G.same m),λhx r2 bl2 zs2 H' m R2 g2 du n1 n2 n3=>?_⟩;obtain⟨Hb',D',mb,new⟩:=G.more (G.same m);have fr:∀{c},H c=none->c∉X:=λ{c} h z=>by
  obtain⟨⟨o,e⟩,_⟩:=G.xs c (List.mem_cons_of_mem _ z);rw[h]at e;cases e
 refine kO hx r2 bl2 zs2 Hb' H' D' mb ⟨⟨new _ _ n1 R2.tu,new _ _ n2 R2.li,λz hz=>?_⟩,fr n1,fr n2,λz hz=>?_⟩ g2 du
 ·rcases n3 z hz with h | h
  ·exact mb _ _ (R.ru.st z h)
  ·exact new _ _ h (R2.st z hz)
 ·rcases n3 z hz with h | h
  ·exact R.nz z h
  ·exact fr h
theorem zbG(h:Ze ls x):lacks ls x=true/\yd ls x=x:=by
 rcases h with rfl | ⟨st,hst,k,h1,h2,rfl,h3⟩
 ·refine⟨?_,rfl⟩;unfold lacks;rw[Bool.not_eq_true',List.any_eq_false];intro st _ h;simp[YG]at h
 ·refine⟨h3,V5 ?_⟩;unfold vN;rw[List.any_eq_true];refine⟨st,hst,decide_eq_true ?_⟩;rw[List.length_take,Nat.min_eq_left (by omega)]
def aft(ls:ZA)(x:List Int)(f:Int):Option (List Int):=if lacks ls (x++[f])=true then some (yd ls (x++[f])) else none
def ends(fs:List Int):ZA:=(List.range (fs.length+1)).map fs.drop
theorem zda(fs:List Int):((ends fs).filter (vN ls)++[[]]).head?=some (yd ls fs):=by
 obtain⟨j,h1,h2,h3,h4⟩:=qy (ls:=ls) fs;rw[List.head?_append,List.head?_filter];unfold ends;rw[List.find?_map];by_cases hj:j<fs.length
 ·have:(List.range (fs.length+1)).find? (vN ls ∘ fs.drop)=some j:=by
   rw[List.find?_range_eq_some];refine⟨h4 hj,List.mem_range.mpr (by omega),λk hk=>?_⟩;show (!vN ls (fs.drop k))=true;rw[h3 k hk];rfl
  rw[this,h2];rfl
 ·have ej:j=fs.length:=by omega
  subst ej;rw[List.drop_length]at h2;rw[h2];cases e:(List.range (fs.length+1)).find? (vN ls ∘ fs.drop) with
  |none=>rfl
  |some i=>
   rw[List.find?_range_eq_some]at e;obtain⟨e1,e2,_⟩:=e;have e2:=List.mem_range.mp e2;by_cases hi:i<fs.length
   ·have:=h3 i hi;rw[show vN ls (fs.drop i)=true from e1]at this;cases this
   ·have:i=fs.length:=by omega
    rw[this];simp
theorem zfO(ne:∀l∈ls,l≠[])(f:Int)(h:lacks ls x=true):(∃e∈ends (x++[f]),e∈ls)↔lacks ls (x++[f])=false:=by
 constructor
 ·rintro⟨e,he,hl⟩;obtain⟨i,_,rfl⟩:=List.mem_map.mp he;have:=zbX hl (ne _ hl) ((x++[f]).take i);rwa[List.take_append_drop]at this
 ·intro hf;obtain⟨st,hst,hs⟩:∃st∈ls,YG st (x++[f])=true:=by
   unfold lacks at hf;have hf:(ls.any λst=>YG st (x++[f]))=true:=by simpa using hf
   exact List.any_eq_true.mp hf
  obtain⟨k,hk⟩:=(vI (ne st hst)).mp hs;have hlen:=congrArg List.length hk;rw[List.length_take,List.length_drop,List.length_append,List.length_singleton]at hlen;have hpos:=List.length_pos_iff.mpr (ne st hst);by_cases hx:k+st.length<=x.length
  ·exfalso;have:YG st x=true:=by
    rw[vI (ne st hst)];refine⟨k,?_⟩;rw[List.drop_append_of_le_length (by omega),List.take_append_of_le_length (by rw[List.length_drop];omega)]at hk;exact hk
   unfold lacks at h;have h:(ls.any λst=>YG st x)=false:=by simpa using h
   rw[List.any_eq_false]at h;exact h st hst this
  ·refine⟨(x++[f]).drop k,List.mem_map.mpr ⟨k,List.mem_range.mpr (by rw[List.length_append,List.length_singleton];omega),rfl⟩,?_⟩;rw[List.take_of_length_le (by rw[List.length_drop,List.length_append,List.length_singleton];omega)]at hk;rw[hk];exact hst
def J1(ls:ZA)(x:List Int)(a n:Nat):List Nat:=((List.range n).map (a+·)).filter λc=>lacks ls (x++[(c:Int)])
def jW(ls:ZA)(b t:Nat)(x:List Int)(a n:Nat):Nat:=((J1 ls x a n).map λ(c:Nat)=>cnt ls b t (yd ls (x++[(c:Int)]))).sum
theorem zaK(ls:ZA)(x:List Int)(a n:Nat):J1 ls x a (n+1)=J1 ls x a n++(if lacks ls (x++[((a+n:Nat):Int)])=true then [a+n] else []):=by
 unfold J1;rw[List.range_succ,List.map_append,List.filter_append];congr 1;rw[List.map_cons,List.map_nil,List.filter_cons];split<;>rfl
theorem Xd(ls:ZA)(b t:Nat)(x:List Int)(a n:Nat):jW ls b t x a (n+1)=jW ls b t x a n+ZQ ls b t (some x) (a+n):=by
 unfold jW;rw[zaK,List.map_append,List.sum_append];congr 1;show _=if lacks ls (x++[((a+n:Nat):Int)])=true then _ else 0;split<;>simp
theorem jl(ls:ZA)(b t:Nat)(x:List Int):∀n,jW ls b t x 0 n=under ls b t (some x) n
 |0=>rfl
 |n+1=>by rw[Xd,jl,qL,Nat.zero_add]
theorem qe(ls:ZA)(b t:Nat):∀n,ux ls b t+jW ls b t [] 1 n=under ls b t none (n+1)
 |0=>by
  rw[qL,V0];show ux ls b t+0=0+(if (0:Nat)=0 then ux ls b t else if lacks ls [((0:Nat):Int)]=true then cnt ls b t (yd ls [((0:Nat):Int)]) else 0)
  rw[if_pos rfl];omega
 |n+1=>by
  rw[Xd,<-Nat.add_assoc,qe,qL ls b t none (n+1)];congr 1;show (if lacks ls ([]++[((1+n:Nat):Int)])=true then cnt ls b t (yd ls ([]++[((1+n:Nat):Int)])) else 0)=if n+1=0 then ux ls b t else if lacks ls [((n+1:Nat):Int)]=true then cnt ls b t (yd ls [((n+1:Nat):Int)]) else 0;rw[if_neg (by omega:¬ n+1=0),Nat.add_comm 1 n];rfl
def zeu(ls:ZA)(b t:Nat):Nat:=jW ls b t [] 1 (b-1)
theorem Um(ls:ZA)(h2:2<=b)(t:Nat):ux ls b t+zeu ls b t=ux ls b (t+1):=by
 unfold zeu;rw[qe,show b-1+1=b by omega,zb9]
theorem V1(ls:ZA){b:Nat}(h2:2<=b):∀m,(if lacks ls [0]=true then 1 else 0)+((List.range m).map λt=>zeu ls b t).sum=ux ls b m
 |0=>rfl
 |m+1=>by
  rw[List.range_succ,List.map_append,List.sum_append,<-Nat.add_assoc,V1 ls h2 m,<-Um ls h2 m];simp
def PartN(ls:ZA)(b n L k:Nat)(o:Option (List Int))(tot:Nat):Prop :=
 (k=0/\o=some []/\tot=ux ls b (L-1))\/(1<=k/\gd ls b (n / b^(L-k))=true/\o=some (yd ls (figs b (n / b^(L-k))))/\tot=many (gd ls b) (n / b^(L-k)*b^(L-k)))\/(1<=k/\o=none/\tot=many (gd ls b) n)
theorem PartN.rep(h2:2<=b)(hn:0<n)(hL:(figs b n).length=L)(hk:k<L)(p:PartN ls b n L k (some x) tot):
  ∃o,Rep ls b (n / b^(L-k)) o/\((k=0/\x=[]/\o=none/\tot=ux ls b (L-1))\/(1<=k/\o=some x/\tot=many (gd ls b) (n / b^(L-k)*b^(L-k)))):=by
 rcases p with ⟨rfl,e,t⟩ | ⟨h1,g,e,t⟩ | ⟨h1,e,_⟩
 ·cases e;have:n / b^(L-0)=0:=Nat.div_eq_of_lt (uR h2 hL)
  exact⟨none,.inl ⟨this,rfl⟩,.inl ⟨rfl,rfl,rfl,t⟩⟩
 ·cases e;refine⟨_,.inr ⟨?_,g,rfl⟩,.inr ⟨h1,rfl,t⟩⟩
  have hs:=(Wj (k:=L-1) h2).mp (by rw[hL];omega);have hp:0<b^(L-k):=Nat.pow_pos (by omega);have:b^(L-k)<=n:=by
   rcases hs.2 with z | z
   ·omega
   ·exact Nat.le_trans (Nat.pow_le_pow_right (by omega) (by omega)) z
  exact Nat.div_pos this hp
 ·cases e
theorem PartN.next(ne:∀l∈ls,l≠[])(h2:2<=b)(hn:0<n)(hL:(figs b n).length=L)(hk:k<L)(p:PartN ls b n L k (some x) tot){c:Nat}(hc:(figs b n)[k]?=some (c:Int)):
  c<b/\(k=0->1<=c)/\PartN ls b n L (k+1) (aft ls x c) (tot+jW ls b (L-1-k) x (if k=0 then 1 else 0) (c-(if k=0 then 1 else 0))):=by
 have ec:c=(n / b^(L-1-k)) % b:=by
  rw[zbm h2 hL hk]at hc;have hc:((n / b^(L-1-k) % b:Nat):Int)=(c:Int):=by simpa using hc
  omega
 have hcb:c<b:=by rw[ec];exact Nat.mod_lt _ (by omega)
 have et:L-k=L-1-k+1:=by omega
 have htop:n / b^(L-1-k)=n / b^(L-k)*b+c:=by rw[et,ec];exact zbk (by omega)
 obtain⟨o,R,hor⟩:=p.rep h2 hn hL hk;have hu:=Xv ne h2 R (L-1-k) (s:=c) (by omega);have hs:=R.step ne h2 hcb;rw[<-et,<-htop]at hu;have hstep:c≠0\/k≠0:=by
  by_cases hk0:k=0
  ·left;intro hc0;have hs:=(Wj (k:=L-1) h2).mp (by rw[hL];omega);have z:n / b^(L-k)=0:=by rw[hk0];exact Nat.div_eq_of_lt (uR h2 hL)
   rw[z,hc0,hk0]at htop;have hlt:n<b^(L-1):=by
    have hp:0<b^(L-1):=Nat.pow_pos (by omega);have:n / b^(L-1)=0:=by simpa using htop
    rcases Nat.div_eq_zero_iff.mp this with q | q
    ·omega
    ·exact q
   rcases hs.2 with q | q
   ·rw[q,Nat.pow_zero]at hlt;omega
   ·omega
  ·exact .inr hk0
 have hm1:1<=n / b^(L-1-k):=by
  rcases hor with ⟨rfl,_,_,_⟩ | ⟨h1,rfl,_⟩
  ·rw[htop];rcases hstep with q | q
   ·omega
   ·exact absurd rfl q
  ·rcases R with ⟨_,z⟩ | ⟨z,_⟩
   ·cases z
   ·rw[htop];exact zco h2 z
 refine⟨hcb,λz=>by rcases hstep with q | q;omega;exact absurd z q,?_⟩;have etot:tot+jW ls b (L-1-k) x (if k=0 then 1 else 0) (c-(if k=0 then 1 else 0))=many (gd ls b) (n / b^(L-1-k)*b^(L-1-k)):=by
  rcases hor with ⟨rfl,rfl,rfl,rfl⟩ | ⟨h1,rfl,rfl⟩
  ·rw[if_pos rfl];have q:=qe ls b (L-1) (c-1);have hc1:1<=c:=by rcases hstep with q | q;omega;exact absurd rfl q
   rw[show c-1+1=c by omega]at q;have e0:L-1-0=L-1:=Nat.sub_zero _;rw[e0]at hu ⊢;rw[q,<-hu];have z:n / b^(L-0)=0:=Nat.div_eq_of_lt (uR h2 hL);rw[z,Nat.zero_mul];simp[many]
  ·rw[if_neg (by omega),Nat.sub_zero,jl,hu]
 rw[etot];have eL:L-(k+1)=L-1-k:=by omega
 have key:(lacks ls (x++[(c:Int)])=true->gd ls b (n / b^(L-1-k))=true/\yd ls (x++[(c:Int)])=yd ls (figs b (n / b^(L-1-k))))/\(lacks ls (x++[(c:Int)])=false->gd ls b (n / b^(L-1-k))=false):=by
  rcases hor with ⟨rfl,rfl,rfl,_⟩ | ⟨h1,rfl,_⟩
  ·have z:n / b^(L-0)=0:=Nat.div_eq_of_lt (uR h2 hL);rw[z,Nat.zero_mul,Nat.zero_add]at htop;rw[htop];unfold gd;rw[qj hcb];exact⟨λh=>⟨h,rfl⟩,λh=>h⟩
  ·rcases R with ⟨_,z⟩ | ⟨z1,z2,z3⟩
   ·cases z
   ·cases z3;rw[htop]
    unfold gd at z2 ⊢;rw[qO h2 z1 hcb,<-ZC ne (c:Int) z2,Zh];exact⟨λh=>⟨h,rfl⟩,λh=>h⟩
 unfold aft;cases hl:lacks ls (x++[(c:Int)]) with
 |true=>
  obtain⟨g,e⟩:=key.1 hl;rw[if_pos rfl];exact .inr (.inl ⟨by omega,by rw[eL];exact g,by rw[eL,e],by rw[eL]⟩)
 |false=>
  have g:=key.2 hl;rw[if_neg Bool.false_ne_true];refine .inr (.inr ⟨by omega,rfl,?_⟩);have hb:=zfg ne h2 hm1 g (L-1-k) (r:=n % b^(L-1-k)) (Nat.le_of_lt (Nat.mod_lt _ (Nat.pow_pos (by omega))));have en:n / b^(L-1-k)*b^(L-1-k)+n % b^(L-1-k)=n:=by rw[Nat.mul_comm];exact Nat.div_add_mod n _
  rw[en]at hb;exact hb.symm
theorem PartN.done(hL:1<=L)(p:PartN ls b n L L o tot):tot=many (gd ls b) n:=by
 rcases p with ⟨z,_⟩ | ⟨_,_,_,t⟩ | ⟨_,_,t⟩
 ·omega
 ·rw[t,Nat.sub_self,Nat.pow_zero,Nat.div_one,Nat.mul_one]
 ·exact t
def zeU(ls F:ZA)(x:List Int):ZA:=if x∈F then F else if lacks ls x=true then F++[x] else F
def YX(ls:ZA)(st:List Int):Nat->ZA->ZA
 |0,F=>F
 |j+1,F=>zeU ls (YX ls st j F) (st.take (j+1))
def zdp(ls xs:ZA):ZA:=xs.foldl (λF st=>YX ls st (st.length-1) F) [[]]
theorem zd6:y∈zeU ls F x↔y∈F\/(y=x/\lacks ls y=true):=by
 unfold zeU;by_cases h:x∈F
 ·rw[if_pos h];exact⟨.inl,λz=>z.elim id λz=>by rw[z.1];exact h⟩
 ·rw[if_neg h];by_cases h2:lacks ls x=true
  ·rw[if_pos h2,List.mem_append,List.mem_singleton];exact⟨λz=>z.imp id λz=>⟨z,by rw[z];exact h2⟩,λz=>z.imp id λz=>z.1⟩
  ·rw[if_neg h2];exact⟨.inl,λz=>z.elim id λz=>absurd (by rw[<-z.1];exact z.2) h2⟩
theorem Jt{ls F:ZA}{st y:List Int}:∀{j:Nat},y∈YX ls st j F↔y∈F\/∃k,1<=k/\k<=j/\y=st.take k/\lacks ls y=true
 |0=>⟨.inl,λz=>z.elim id λ⟨k,h1,h2,_⟩=>by omega⟩
 |j+1=>by
  rw[YX,zd6,Jt];constructor
  ·rintro ((h | ⟨k,h1,h2,h3⟩) | ⟨h1,h2⟩)
   ·exact .inl h
   ·exact .inr ⟨k,h1,by omega,h3⟩
   ·exact .inr ⟨j+1,by omega,by omega,h1,h2⟩
  ·rintro (h | ⟨k,h1,h2,h3,h4⟩)
   ·exact .inl (.inl h)
   ·by_cases hk:k<=j
    ·exact .inl (.inr ⟨k,h1,hk,h3,h4⟩)
    ·exact .inr ⟨by rw[h3];congr 1;omega,h4⟩
theorem Q9{ls:ZA}{y:List Int}:∀{xs F:ZA},y∈xs.foldl (λF st=>YX ls st (st.length-1) F) F↔y∈F\/∃st∈xs,∃k,1<=k/\k<st.length/\y=st.take k/\lacks ls y=true
 |[],F=>by simp
 |st::xs,F=>by
  rw[List.foldl_cons,Q9,Jt];constructor
  ·rintro ((h | ⟨k,h1,h2,h3⟩) | ⟨s,hs,h⟩)
   ·exact .inl h
   ·exact .inr ⟨st,by simp,k,h1,by omega,h3⟩
   ·exact .inr ⟨s,by simp[hs],h⟩
  ·rintro (h | ⟨s,hs,k,h1,h2,h3⟩)
   ·exact .inl (.inl h)
   ·rcases List.mem_cons.mp hs with rfl | hs
    ·exact .inl (.inr ⟨k,h1,by omega,h3⟩)
    ·exact .inr ⟨s,hs,k,h1,h2,h3⟩
theorem zdQ:y∈zdp ls ls↔Ze ls y:=by
 unfold zdp Ze;rw[Q9,List.mem_singleton]
theorem zeO(ls F:ZA)(x:List Int):(zeU ls F x).length<=F.length+1:=by
 unfold zeU;split
 ·omega
 ·split
  ·rw[List.length_append,List.length_singleton];omega
  ·omega
theorem QX(ls:ZA)(st:List Int)(F:ZA):∀j,(YX ls st j F).length<=F.length+j
 |0=>Nat.le_refl _
 |j+1=>by rw[YX];have:=zeO ls (YX ls st j F) (st.take (j+1));have:=QX ls st F j;omega
theorem Q4{ls:ZA}:∀{xs F:ZA},(∀st∈xs,st.length<=4)->(xs.foldl (λF st=>YX ls st (st.length-1) F) F).length<=F.length+3*xs.length
 |[],F,_=>by simp
 |st::xs,F,h=>by
  rw[List.foldl_cons,List.length_cons];have:=Q4 (ls:=ls) (xs:=xs) (F:=YX ls st (st.length-1) F) λs hs=>h s (List.mem_cons_of_mem _ hs);have:=QX ls st F (st.length-1);have:=h st List.mem_cons_self;omega
theorem zfn(h4:ls.length<=4)(h:∀st∈ls,st.length<=4):(zdp ls ls).length<=13:=by
 have:=Q4 (ls:=ls) (xs:=ls) (F:=[[]]) h;unfold zdp;rw[List.length_singleton]at this;omega
def kI(x:List Int):List Key:=x.map Sum.inl
theorem U9(x:List Int):(kI x).map kV=x.map V.int:=by unfold kI;rw[List.map_map];rfl
theorem Vc(h:kI x=kI y):x=y:=by
 unfold kI at h;exact (List.map_inj_right (λa b e=>by injection e)).mp h
def AftV(H:Hp):Option (List Int)->V->Prop
 |none,v=>v=.non
 |some y,v=>∃c,v=.ref c/\H c=some (.tup (y.map V.int))
theorem AftV.same(h:AftV H o v)(s:∀b xs,H b=some (.tup xs)->H' b=some (.tup xs)):AftV H' o v:=by
 cases o with
 |none=>exact h
 |some y=>obtain⟨c,e,q⟩:=h;exact⟨c,e,s _ _ q⟩
def kA(x:List Int)(f:Nat):NK:=(kI x,[.inl (f:Int),.inl 0])
def kW(x:List Int)(t:Nat):NK:=(kI x,[.inl (t:Int)])
def Ent(ls:ZA)(b:Nat)(H:Hp)(k:NK)(v:V):Prop :=
 (∃x f,Ze ls x/\f<b/\k=kA x f/\AftV H (aft ls x f) v)\/∃x t,Ze ls x/\1<=t/\t<=1000/\k=kW x t/\v=.int (cnt ls b t x:Nat)
structure Tab (ls:ZA) (b:Nat) (H:Hp) (kvs:List (NK×V)):Prop where
 nd:(kvs.map (·.1)).Nodup
 ok:∀p∈kvs,Ent ls b H p.1 p.2
section
variable {ls:ZA} {b:Nat} {H H':Hp} {kvs:List (NK×V)}
theorem Uq{k:NK}{v:V}:∀{kvs:List (NK×V)},yJ kvs k=some v->(k,v)∈kvs
 |[],h=>by cases h
 |p::kvs,h=>by
  by_cases e:p.1=k
  ·rw[xX e]at h;cases h
   exact List.mem_cons.mpr (.inl (by rw[<-e]))
  ·rw[xW e]at h;exact List.mem_cons_of_mem _ (Uq h)
theorem Tab.way(t:Tab ls b H kvs)(h:yJ kvs (kW x n)=some v):v=.int (cnt ls b n x:Nat):=by
 rcases t.ok _ (Uq h) with ⟨y,g,_,_,e,q⟩ | ⟨y,m,_,_,_,e,q⟩
 ·exfalso;have e:=congrArg (λz:NK=>z.2.length) e;simp[kA,kW]at e
 ·unfold kW at e;injection e with e1 e2
  injection e2 with e2 e3
  injection e2 with e2
  have e1:=Vc e1;have e2:n=m:=by omega
  subst e1 e2;exact q
end
def wO(x:List Int):Tr:=.tup (x.map Tr.int)
theorem TrAt.tupI{K:W.Frag}(h:H a=some (.tup (x.map V.int))):TrAt K H (wO x) (.ref a):=by
 unfold wO;rw[TrAt];exact⟨a,_,rfl,SqT.of h,TrsAt.ints⟩
theorem zaW(a b:List Int):teq (wO a) (wO b)=decide (a=b):=by unfold wO;rw[teq];exact Uc zcz a b
theorem Jb(x:List Int):vG (wO x)=1:=by unfold wO;rw[vG,XH]
theorem qK:∀ls:ZA,xq (ls.map wO)<=1
 |[]=>by rw[List.map_nil,xq];omega
 |x::ls=>by rw[List.map_cons,xq,Jb];have:=qK ls;omega
theorem TrsAt.tups{K:W.Frag}{H:Hp}:∀{zs:ZB},(∀z∈zs,H z.1=some (.tup (z.2.map V.int)))->TrsAt K H ((zs.map (·.2)).map wO) (zs.map λz=>V.ref z.1)
 |[],_=>by rw[List.map_nil,List.map_nil,List.map_nil,TrsAt]
 |z::zs,h=>by
  rw[List.map_cons,List.map_cons,List.map_cons,TrsAt];exact⟨_,_,rfl,TrAt.tupI (h z List.mem_cons_self),TrsAt.tups λy hy=>h y (List.mem_cons_of_mem _ hy)⟩
theorem zfy{ls:ZA}:((ls.map wO).any λt=>teq t (wO x))=decide (x∈ls):=by
 induction ls with
 |nil=>simp
 |cons y ls ih=>
  rw[List.map_cons,List.any_cons,ih,zaW,<-Bool.decide_or];refine decide_eq_decide.mpr ?_;rw[List.mem_cons];exact⟨λz=>z.imp Eq.symm id,λz=>z.imp Eq.symm id⟩
theorem WX(ts:List Tr):teq (.lst ts) (.lst [])=ts.isEmpty:=by
 cases ts with
 |nil=>rfl
 |cons t ts=>rw[teq,jm (by simp)];rfl
theorem zdn(x:List Int)(i:Nat):uh (x.map V.int) (some (i:Int)) none=(x.drop i).map V.int:=by rw[qw,<-List.map_drop]
theorem zdg(x:List Int)(i:Nat):uh (x.map V.int) none (some (i:Int))=(x.take i).map V.int:=by rw[Yz,<-List.map_take]
theorem zeG{A B:Prop}(hc:c=false)(h:B):if c=true then A else B:=by rw[hc];exact yr h
theorem zct{A B:Prop}(hc:c=true)(h:A):if c=true then A else B:=by rw[hc];exact ym h
structure TupsAt (H:Hp) (tl:Addr) (ts:ZB):Prop where
 li:H tl=some (.lst (ts.map λt=>V.ref t.1))
 st:∀t∈ts,H t.1=some (.tup (t.2.map V.int))
theorem TupsAt.same(R:TupsAt H tl ts)(s:Same H H'):TupsAt H' tl ts:=⟨s _ _ R.li,λt h=>s _ _ (R.st t h)⟩
section
variable {P:Program} {w:World} {K:W.Frag} {mg:Str->Option Value} {base:Heap}
def YM:Sp:=λvs H Q _=>Ex6 λ(tl:Addr) (ts:ZB) (sa:Addr) (x:List Int) (f:Nat) (b:Nat)=>vs=[.ref tl,.ref sa,.int f]/\TupsAt H tl ts/\H sa=some (.tup (x.map V.int))/\GoodRule b (ts.map (·.2))/\Ze (ts.map (·.2)) x /\
 ∀v H',Same H H'->AftV H' (aft (ts.map (·.2)) x f) v->Q v H'
theorem uN:zE ["bad","stand","figure","whole","ends","good"] ["bad","stand","figure"] (zu yz):={}
set_option maxHeartbeats 0 in
theorem QD(D:Df K mg "_law_after" yz Av f fd)(T:Blt mg):FnOk P w K mg base CX0 1 f fd Av YM:=by
 refine D.fn.ok uN (λvs H Q E h=>?_) (λcdv A outer s H vs Q E hr h=>?_)
 ·obtain⟨tl,ts,sa,x,f,b,rfl,_⟩:=h;rfl
 ·obtain⟨tl,ts,sa,x,f,b,rfl,R,hsa,g,hx,kk⟩:=h;have HU:=YH hr;have h4:ts.length<=4:=by have:=g.len;rwa[List.length_map]at this
  have hst4:∀st∈ts.map (·.2),st.length<=4:=λst h=>(g.st st h).len;have ne:∀st∈ts.map (·.2),st≠[]:=λst h=>(g.st st h).ne;have hx3:=zaz hst4 hx;have hLx:lacks (ts.map (·.2)) x=true:=(zbG hx).1;refine xm ?_;intro XX;let q1:Sq XX ((zq yz).drop 4):=⟨_,zz (zH (zR (yo K) (zO vQ (pv 5) (yc (zf (wu zj) zj))) zy (λ_ _=>rfl)))⟩
  let q2:Sq XX ((zq yz).drop 3):=⟨_,zp (za3 (i:=5) (show CScopeD (zu yz) _ "end" ["bad","stand","figure","whole","ends","good"] ["bad"] [0] from ⟨rfl,by decide +kernel,by decide +kernel,rfl,by decide +kernel,rfl,by decide +kernel,by decide +kernel,λ_ _=>rfl,λ_=>rfl⟩) rfl uN.nd rfl (Or.inl rfl) (ql K (pv 4)) (λ_ _ _ _=>(vK (zN (Y7 K HU) (yx (CScope.re (show CScope _ _ "one" ["end","bad"] ["end"] [0] from {})) rfl (ql K (pv 1)) (λ_ _ _ _=>(vK (zN (zcP K HU) (xg zcK (pv 0) wZ (xG (zA (xZ K) (by rfl) T.n_len PySem.boot_len (zf (pv 1) zj)))) (pv 1) (zV _)))) (λ_ _ _ _=>(pv 0))) (yc zj) (zV _)))) (λ_ _ _ _=>(pv 0))) q1.p⟩
  let q3:Sq XX ((zq yz).drop 2):=⟨_,zp (yP (zN (Y7 K HU) (yx (show CScope (zu yz) _ "end" ["bad","stand","figure","whole","ends","good"] ["bad"] [0] from {}) rfl (ql K (pv 4)) (λ_ _ _ _=>(vK (zN (ze7 K HU) (pv 0) (pv 1) (by with_unfolding_all rfl)))) (λ_ _ _ _=>(pv 0))) (yc zj) (zV _))
    (zz (zH vC))
    ye) q2.p⟩
  let q4:Sq XX ((zq yz).drop 1):=⟨_,zp (qJ (i:=4) (show CScope (zu yz) _ "at" ["bad","stand","figure","whole","ends","good"] ["whole"] [3] from {}) rfl uN.nd rfl (Or.inl rfl) (yK rfl T.n_range (zf (zO wK (zA (xZ K) (by rfl) T.n_len PySem.boot_len (zf (pv 3) zj)) zy) zj)) (λ_ _ _ _=>yQ) (λ_ _ _ _=>(xg zcK (pv 1) (xG (pv 0)) wZ))) q3.p⟩
  refine⟨_,(zp (zG (i:=3) uN.nd rfl (Or.inr rfl) (zO zf3 (pv 1) (wu (zf (pv 2) zj)))) q4.p),?_⟩;refine⟨_,rfl,_,rfl,(by show 1<=sizeLine;decide),λp1 hp1=>?_⟩;have m1:=zm hp1 (o:=.tup [.int f]);refine⟨sa,p1,_,_,rfl,rfl,m1 _ _ hsa,zg,by rw[List.length_map];exact Nat.le_trans (show x.length+1<=100 by omega) (by decide),λwa H1 s1 h1=>?_⟩;rw[show x.map V.int++[V.int f]=(x++[(f:Int)]).map V.int by rw[List.map_append];rfl]at h1;have s01:=m1.trans s1;have hlen:((x++[(f:Int)]).map V.int).length=x.length+1:=by simp
  refine⟨_,rfl,wa,_,rfl,.inr (SqT.of h1),_,_,rfl,rfl,_,rfl,by rw[hlen];omega,by rw[hlen];omega,wV (lo:=0) (n:=((((x++[(f:Int)]).map V.int).length:Nat)+(1:Int)).toNat) (λi ys Hc=>∃es:ZB,ys=es.map (λt=>V.ref t.1)/\es.map (·.2)=(List.range i).map (x++[(f:Int)]).drop/\(∀t∈es,Hc t.1=some (.tup (t.2.map V.int)))/\Same H1 Hc) ⟨[],rfl,rfl,by simp,Same.refl _⟩ ?_ ?_⟩
  ·rintro i ys Hc hi ⟨es,rfl,e2,he,sc⟩;refine⟨by have:=congrArg List.length e2;rw[List.length_map,List.length_map,List.length_range]at this;rw[List.length_map,this];exact Nat.lt_of_le_of_lt (show i<=10 by rw[hlen]at hi;omega) (by decide),?_⟩;unfold jB;dsimp only;rw[if_pos rfl];refine⟨_,rfl,_,rfl,_,rfl,wa,_,rfl,sc _ _ h1,λp3 H3 s3 h3=>?_⟩;rw[Int.zero_add,zdn]at h3;refine⟨es++[(p3,(x++[(f:Int)]).drop i)],by simp,by rw[List.map_append,e2,List.range_succ,List.map_append];rfl,λt ht=>?_,sc.trans s3⟩;rcases List.mem_append.mp ht with h | h
   ·exact s3 _ _ (he t h)
   ·rw[List.mem_singleton.mp h];exact h3
  rintro ys H2 ⟨es,rfl,e2,he,s2⟩ el hel;rw[show ((((x++[(f:Int)]).map V.int).length:Nat)+(1:Int)).toNat=(x++[(f:Int)]).length+1 by rw[hlen,List.length_append,List.length_singleton];omega]at e2;have e2:es.map (·.2)=ends (x++[(f:Int)]):=e2;have hel10:es.length<=10:=by
   have:=congrArg List.length e2;unfold ends at this;rw[List.length_map,List.length_map,List.length_range,List.length_append,List.length_singleton]at this;omega
  have m3:=zm hel (o:=.lst (es.map λt=>V.ref t.1));have s03:=(s01.trans s2).trans m3;have E3:TupsAt (upd H2 el (.lst (es.map λt=>V.ref t.1))) el es:=⟨zg,λt h=>m3 _ _ (he t h)⟩
  generalize upd H2 el (.lst (es.map λt=>V.ref t.1))=H3 at s03 E3;have R3:=R.same s03;refine⟨_,rfl,el,rfl,⟨_,SqL.of E3.li⟩,yt (K:=K) (a:=el) (xs:=es.map λt=>V.ref t.1) (λi ys Hc=>ys=((es.take i).filter λt=>decide (t.2∈ts.map (·.2))).map (λt=>V.ref t.1)/\Same H3 Hc) ⟨by simp,Same.refl _⟩ (λi ys Hc _ ⟨_,e⟩=>SqL.of (e _ _ E3.li)) ?_ ?_⟩
  ·rintro i v ys Hc hi ⟨rfl,sc⟩;rw[List.getElem?_map]at hi;obtain⟨t,htj,e⟩:=Option.map_eq_some_iff.mp hi;subst e;have htm:=List.mem_of_getElem? htj;have Rc:=R3.same sc;refine⟨by rw[List.length_map];exact Nat.lt_of_le_of_lt (Nat.le_trans (List.length_filter_le _ _) (by rw[List.length_take];exact show min i es.length<=10 by omega)) (by decide),?_⟩;refine⟨_,rfl,_,rfl,tl,_,(ts.map (·.2)).map wO,wO t.2,rfl,SqL.of Rc.li,TrsAt.tups Rc.st,TrAt.tupI (sc _ _ (E3.st t htm)),Nat.le_trans (qK _) (by decide),_,rfl,?_⟩;rw[if_neg (by decide),zfy,List.take_succ,htj,Option.toList_some,List.filter_append,List.filter_cons,List.filter_nil];by_cases hq:t.2∈ts.map (·.2)
   ·rw[decide_eq_true hq];exact ym ⟨_,rfl,by rw[if_pos rfl,List.map_append];rfl,sc⟩
   ·rw[decide_eq_false hq];exact yr ⟨by rw[if_neg Bool.false_ne_true,List.append_nil],sc⟩
  rintro ys H4 ⟨rfl,s4⟩ D9 hD9;rw[List.length_map,List.take_length];refine⟨(by decide:0<=sizeLine),λp0 hp0=>?_⟩;generalize hks:(es.filter λt=>decide (t.2∈ts.map (·.2)))=ks at hD9 hp0;have ma:=zm hD9 (o:=.lst (ks.map λz=>V.ref z.1));have mb:=zm hp0 (o:=.lst []);have s34:=s4.trans (ma.trans mb);refine⟨.lst ((ks.map (·.2)).map wO),.lst [],?_,?_,(by rw[vG];have:=qK (ks.map (·.2));omega),_,rfl,?_⟩
  ·rw[TrAt];exact⟨D9,_,rfl,SqL.of (mb _ _ zg),TrsAt.tups λz hz=>s34 _ _ (E3.st z (by rw[<-hks]at hz;exact (List.mem_filter.mp hz).1))⟩
  ·rw[TrAt];exact⟨p0,_,rfl,SqL.of zg,by rw[TrsAt]⟩
  show if (!teq (.lst ((ks.map (·.2)).map wO)) (.lst []))=true then _ else _;rw[WX];have hk:(!((ks.map (·.2)).map wO).isEmpty)=!lacks (ts.map (·.2)) (x++[(f:Int)]):=by
   have q:=zfO ne (f:Int) hLx;cases hL:lacks (ts.map (·.2)) (x++[(f:Int)]) with
   |false=>
    obtain⟨e,h1,h2⟩:=q.mpr hL;rw[<-e2]at h1;obtain⟨t,ht,rfl⟩:=List.mem_map.mp h1;have:t∈ks:=by rw[<-hks];exact List.mem_filter.mpr ⟨ht,decide_eq_true h2⟩
    cases ks with
    |nil=>cases this
    |cons _ _=>rfl
   |true=>
    cases ks with
    |nil=>rfl
    |cons t ks'=>
     exfalso;have ht:t∈es.filter λt=>decide (t.2∈ts.map (·.2)):=by rw[hks];exact List.mem_cons_self
     have ht:=List.mem_filter.mp ht;have:=q.mp ⟨t.2,by rw[<-e2];exact List.mem_map.mpr ⟨t,ht.1,rfl⟩,of_decide_eq_true ht.2⟩;rw[hL]at this;cases this
  rw[hk];have s04:=s03.trans s34;have E4:=E3.same s34;generalize upd (upd H4 D9 (.lst (ks.map λz=>V.ref z.1))) p0 (.lst [])=Ha at s04 E4;have R4:=R.same s04;cases hL:lacks (ts.map (·.2)) (x++[(f:Int)]) with
  |false=>
   refine ym (kk _ _ s04 ?_);unfold aft;rw[if_neg (by rw[hL];exact Bool.false_ne_true)];rfl
  |true=>
  refine yr ?_;refine⟨_,rfl,el,rfl,⟨_,SqL.of E4.li⟩,yt (K:=K) (a:=el) (xs:=es.map λt=>V.ref t.1) (λi ys Hc=>ys=((es.take i).filter λt=>vN (ts.map (·.2)) t.2).map (λt=>V.ref t.1)/\Same Ha Hc) ⟨by simp,Same.refl _⟩ (λi ys Hc _ ⟨_,e⟩=>SqL.of (e _ _ E4.li)) ?_ ?_⟩
  ·rintro i v ys Hc hi ⟨rfl,sc⟩;rw[List.getElem?_map]at hi;obtain⟨t,htj,e⟩:=Option.map_eq_some_iff.mp hi;subst e;have htm:=List.mem_of_getElem? htj;have Rc:=R4.same sc;refine⟨by rw[List.length_map];exact Nat.lt_of_le_of_lt (Nat.le_trans (List.length_filter_le _ _) (by rw[List.length_take];exact show min i es.length<=10 by omega)) (by decide),?_⟩;refine⟨_,rfl,tl,rfl,⟨_,SqL.of Rc.li⟩,yt (K:=K) (a:=tl) (xs:=ts.map λt=>V.ref t.1) (λj us Hd=>us=((ts.take j).filter λz=>decide (z.2.take t.2.length=t.2)).map (λz=>V.ref z.1)/\Same Hc Hd) ⟨by simp,Same.refl _⟩ (λj us Hd _ ⟨_,e⟩=>SqL.of (e _ _ Rc.li)) ?_ ?_⟩
   ·rintro j u us Hd hj ⟨rfl,sd⟩;rw[List.getElem?_map]at hj;obtain⟨z,hzj,e⟩:=Option.map_eq_some_iff.mp hj;subst e;have hzm:=List.mem_of_getElem? hzj;refine⟨by rw[List.length_map];exact Nat.lt_of_le_of_lt (Nat.le_trans (List.length_filter_le _ _) (by rw[List.length_take];exact show min j ts.length<=10 by omega)) (by decide),?_⟩;have htd:=sd _ _ (sc _ _ (E4.st t htm));refine⟨_,rfl,_,rfl,t.1,_,rfl,.inr (SqT.of htd),_,rfl,z.1,_,rfl,sd _ _ (Rc.st z hzm),λp4 H5 s5 h5=>?_⟩;rw[List.length_map,zdg]at h5;refine⟨_,rfl,wO (z.2.take t.2.length),wO t.2,TrAt.tupI h5,TrAt.tupI (s5 _ _ htd),(by rw[Jb];decide),_,rfl,?_⟩;show if teq (wO (z.2.take t.2.length)) (wO t.2)=true then _ else _;rw[zaW,List.take_succ,hzj,Option.toList_some,List.filter_append,List.filter_cons,List.filter_nil];by_cases hq:z.2.take t.2.length=t.2
    ·rw[decide_eq_true hq];exact ym ⟨_,rfl,by rw[if_pos rfl,List.map_append];rfl,sd.trans s5⟩
    ·rw[decide_eq_false hq];exact yr ⟨by rw[if_neg Bool.false_ne_true,List.append_nil],sd.trans s5⟩
   ·rintro us Hd ⟨rfl,sd⟩ D4 hD4;rw[List.length_map,List.take_length];refine⟨(by decide:0<=sizeLine),λp0 hp0=>?_⟩;generalize hks:(ts.filter λz=>decide (z.2.take t.2.length=t.2))=ks at hD4 hp0;have m4:=zm hD4 (o:=.lst (ks.map λz=>V.ref z.1));have m5:=zm hp0 (o:=.lst []);have sE:=sd.trans (m4.trans m5);refine⟨.lst ((ks.map (·.2)).map wO),.lst [],?_,?_,(by rw[vG];have:=qK (ks.map (·.2));omega),_,rfl,?_⟩
    ·rw[TrAt];exact⟨D4,_,rfl,SqL.of (m5 _ _ zg),TrsAt.tups λz hz=>sE _ _ (Rc.st z (by rw[<-hks]at hz;exact (List.mem_filter.mp hz).1))⟩
    ·rw[TrAt];exact⟨p0,_,rfl,SqL.of zg,by rw[TrsAt]⟩
    show if (!teq (.lst ((ks.map (·.2)).map wO)) (.lst []))=true then _ else _;have hb:vN (ts.map (·.2)) t.2=!((ks.map (·.2)).map wO).isEmpty:=by
     unfold vN;rw[List.any_map,<-hks,Bool.eq_iff_iff];simp[List.any_eq_true,List.isEmpty_iff]
    rw[WX,<-hb,List.take_succ,htj,Option.toList_some,List.filter_append,List.filter_cons,List.filter_nil];cases vN (ts.map (·.2)) t.2 with
    |true=>exact ym ⟨_,rfl,by rw[if_pos rfl,List.map_append];rfl,sc.trans sE⟩
    |false=>exact yr ⟨by rw[if_neg Bool.false_ne_true,List.append_nil],sc.trans sE⟩
  rintro ys H5 ⟨rfl,s5⟩ gl hgl;rw[List.length_map,List.take_length];generalize hgsd:(es.filter λt=>vN (ts.map (·.2)) t.2)=gs at hgl;have hgl10:gs.length<=10:=by rw[<-hgsd];exact Nat.le_trans (List.length_filter_le _ _) hel10
  have m5:=zm hgl (o:=.lst (gs.map λt=>V.ref t.1));refine⟨_,rfl,(by decide:0<=sizeLine),λe0 he0=>?_⟩;have m6:=zm he0 (o:=.tup []);refine⟨(by show 1<=sizeLine;decide),λp5 hp5=>?_⟩;have m7:=zm hp5 (o:=.lst [.ref e0]);refine⟨gl,p5,_,_,rfl,rfl,m7 _ _ (m6 _ _ zg),zg,by rw[List.length_map];exact Nat.le_trans (show gs.length+1<=100 by omega) (by decide),λp6 hp6=>?_⟩;have m8:=zm hp6 (o:=.lst (gs.map (λt=>V.ref t.1)++[.ref e0]));have m48:=s5.trans (m5.trans (m6.trans (m7.trans m8)));have hh:=zda (ls:=ts.map (·.2)) (x++[(f:Int)]);rw[<-show (gs++[((e0,[]):Addr×List Int)]).map (·.2)=(ends (x++[(f:Int)])).filter (vN (ts.map (·.2)))++[[]] by rw[List.map_append,<-e2,List.filter_map,<-hgsd];rfl,List.head?_map,List.head?_eq_getElem?]at hh;obtain⟨c,hc0,hc2⟩:=Option.map_eq_some_iff.mp hh;refine⟨p6,_,_,.ref c.1,rfl,rfl,SqL.of zg,yV (j:=0) (by rw[show gs.map (λt=>V.ref t.1)++[V.ref e0]=(gs++[((e0,[]):Addr×List Int)]).map λt=>V.ref t.1 by rw[List.map_append];rfl,List.getElem?_map,hc0];rfl),kk _ _ (s04.trans m48) ?_⟩;unfold aft;rw[if_pos hL];refine⟨c.1,rfl,?_⟩;rw[<-hc2];rcases List.mem_append.mp (List.mem_of_getElem? hc0) with h | h
  ·exact m48 _ _ (E4.st c (by rw[<-hgsd]at h;exact (List.mem_filter.mp h).1))
  ·rw[List.mem_singleton.mp h];exact m8 _ _ (m7 _ _ zg)
end
theorem zez(ne:∀l∈ls,l≠[])(h:aft ls x c=some y):lacks ls (x++[c])=true/\y=yd ls (x++[c])/\Ze ls y:=by
 unfold aft at h;by_cases hl:lacks ls (x++[c])=true
 ·rw[if_pos hl]at h;cases h
  exact⟨hl,rfl,Zn ne hl⟩
 ·rw[if_neg hl]at h;cases h
theorem zax{κ:Type}[DecidableEq κ]{k:κ}{v:V}:∀{kvs:List (κ×V)},yJ kvs k=some v->(k,v)∈kvs
 |[],h=>by cases h
 |p::r,h=>by
  by_cases e:p.1=k
  ·rw[xX e]at h;cases h
   rw[<-e];exact List.mem_cons_self
  ·rw[xW e]at h;exact List.mem_cons_of_mem _ (zax h)
theorem zfE(W:Nat->L2.St->Hp->Prop)(m:Nat)(h0:W m σ H)(hs:∀m σ H,W m σ H->c σ H λb H1=>if b=true then tb { D with nx:=fun σ' H'=>∃m',m'<m/\W m' σ' H',ct:=fun σ' H'=>∃m',m'<m/\W m' σ' H',bk:=D.nx } σ H1 else D.nx σ H1)(mono:∀σ H Q Q',(∀b H1,Q b H1->Q' b H1)->c σ H Q->c σ H Q'):zb6 c tb D σ H:=by
 refine⟨W,⟨m,h0⟩,λm σ H hw=>mono σ H _ _ (λb H1 q=>?_) (hs m σ H hw)⟩;cases b with
 |true=>exact ym ⟨_,λ_ _ h=>h,by simpa using q⟩
 |false=>exact yr (by simpa using q)
theorem Jk{α:Type}(f:α->Nat):∀l:List α,(l.map λr=>((f r:Nat):Int)).sum=(((l.map f).sum:Nat):Int)
 |[]=>rfl
 |a::l=>by rw[List.map_cons,List.sum_cons,List.map_cons,List.sum_cons,Jk f l,Int.natCast_add]
theorem Jm:∀(more kvs:List (List Key×V)),((kvs++more).map (·.1)).Nodup->jG kvs more=kvs++more
 |[],kvs,_=>by simp[jG]
 |m::more,kvs,h=>by
  have hn:yJ kvs m.1=none:=by
   cases e:yJ kvs m.1 with
   |none=>rfl
   |some v=>
    exfalso;have h1:=zcE e;rw[List.map_append,List.map_cons]at h;exact (List.nodup_append.mp h).2.2 m.1 h1 m.1 List.mem_cons_self rfl
  show jG (putK kvs m.1 m.2) more=_;rw[Z0 _ hn,Jm more _ (by rw[List.append_assoc];exact h),List.append_assoc];rfl
theorem V9{κ:Type}[DecidableEq κ]{k:κ}:∀{kvs:List (κ×V)},k∈kvs.map (·.1)->∃v,yJ kvs k=some v/\(k,v)∈kvs
 |[],h=>nomatch h
 |p::r,h=>by
  by_cases e:p.1=k
  ·exact⟨p.2,xX e,by rw[<-e];exact List.mem_cons_self⟩
  ·rw[List.map_cons,List.mem_cons]at h;obtain⟨v,h1,h2⟩:=V9 (h.resolve_left λz=>e z.symm);exact⟨v,by rw[xW e];exact h1,List.mem_cons_of_mem _ h2⟩
def Xi(ls:ZA)(x:List Int)(a n:Nat):ZA:=(List.range n).filterMap λi=>aft ls x ((a+i:Nat):Int)
theorem Jh(ls:ZA)(x:List Int)(a n:Nat):Xi ls x a (n+1)=Xi ls x a n++(aft ls x ((a+n:Nat):Int)).toList:=by
 unfold Xi;rw[List.range_succ,List.filterMap_append];congr 1
theorem zfI(ne:∀l∈ls,l≠[])(h:y∈Xi ls x a n):Ze ls y:=by
 obtain⟨c,_,e⟩:=List.mem_filterMap.mp h;exact (zez ne e).2.2
theorem Wf(ls:ZA)(x:List Int)(a n:Nat):(Xi ls x a n).length<=n:=Nat.le_trans (List.length_filterMap_le ..) (by rw[List.length_range];exact Nat.le_refl _)
theorem zaT(ls:ZA)(b t:Nat)(x:List Int)(a:Nat):∀n,((Xi ls x a n).map (cnt ls b t)).sum=jW ls b t x a n
 |0=>rfl
 |n+1=>by
  rw[Jh,List.map_append,List.sum_append,zaT ls b t x a n,Xd];congr 1;unfold aft ZQ;by_cases h:lacks ls (x++[((a+n:Nat):Int)])=true
  ·rw[if_pos h];dsimp only;rw[if_pos h];simp
  ·rw[if_neg h];dsimp only;rw[if_neg h];simp
def AftL(H:Hp)(ls:ZA)(x:List Int)(a:Nat)(us:List V):Prop:=∀i v,us[i]?=some v->AftV H (aft ls x ((a+i:Nat):Int)) v
theorem AftL.same(h:AftL H ls x a us)(s:∀b xs,H b=some (.tup xs)->H' b=some (.tup xs)):AftL H' ls x a us:=λi v e=>(h i v e).same s
theorem XQ{K:W.Frag}(hl:H la=some (.lst us))(A:AftL H ls x a us)(hn:us.length<=100)(ht:∀v (R:Bool->Hp->Prop),R (!decide (v=V.non)) H->tt (some v::uJ js σ) H R)(F:Addr×List Int->V)(he:∀e:Addr×List Int,e.2∈Xi ls x a us.length->H e.1=some (.tup (e.2.map V.int))->∀R:V->Hp->Prop,R (F e) H->te (some (.ref e.1)::uJ js σ) H R)(hd:∀es:ZB,(∀e∈es,H e.1=some (.tup (e.2.map V.int)))->es.map (·.2)=Xi ls x a us.length->∀D,H D=none->Q (.ref D) (upd H D (.lst (es.map F)))):CompLoop (Itl K la) js tt te σ Q H:=by
 refine yt (K:=K) (a:=la) (xs:=us) (λi ys Hd=>∃es:ZB,ys=es.map F/\(∀e∈es,H e.1=some (.tup (e.2.map V.int)))/\es.map (·.2)=Xi ls x a i/\Hd=H) ⟨[],rfl,(λe h=>nomatch h),rfl,rfl⟩ (λi ys Hd _ ⟨_,_,_,_,e⟩=>by rw[e];exact SqL.of hl) ?_ ?_
 ·rintro i v ys Hd hi ⟨es,rfl,h1,h2,rfl⟩;have hil:=(List.getElem?_eq_some_iff.mp hi).1;refine⟨by have:=congrArg List.length h2;have h3:=Wf ls x a i;rw[List.length_map]at this ⊢;exact Nat.lt_of_le_of_lt (show es.length<=100 by omega) (by decide),ht v _ ?_⟩;have av:=A i v hi;have hs:=Jh ls x a i;cases ha:aft ls x ((a+i:Nat):Int) with
  |none=>
   rw[ha]at av hs;obtain rfl:v=.non:=av;exact zeG (by rw[decide_eq_true rfl];rfl) ⟨es,rfl,h1,by rw[h2,hs];simp,rfl⟩
  |some y=>
   rw[ha]at av hs;obtain⟨p,rfl,hp⟩:=av;refine zct (by rw[decide_eq_false (λz=>by cases z)];rfl) (he (p,y) ?_ hp _ ⟨es++[(p,y)],by simp,λe h=>?_,by rw[List.map_append,h2,hs];rfl,rfl⟩)
   ·exact List.mem_filterMap.mpr ⟨i,List.mem_range.mpr hil,ha⟩
   ·rcases List.mem_append.mp h with h | h
    ·exact h1 e h
    ·rw[List.mem_singleton.mp h];exact hp
 ·rintro ys Hd ⟨es,rfl,h1,h2,rfl⟩ D hD;exact hd es h1 h2 D hD
theorem zar{es:ZB}(h:es.map (·.2)=Xi ls x a n):(es.map λe=>((cnt ls b t e.2:Nat):Int)).sum=((jW ls b t x a n:Nat):Int):=by
 rw[Jk (λe:Addr×List Int=>cnt ls b t e.2),<-zaT,<-h,List.map_map];rfl
theorem zfH[DecidableEq κ](nd:(kvs.map (·.1)).Nodup){kv:κ×V}{j:Nat}(h:kvs[j]?=some kv):yJ kvs kv.1=some kv.2:=by
 obtain⟨v,e1,e2⟩:=V9 (k:=kv.1) (kvs:=kvs) (List.mem_map.mpr ⟨kv,List.mem_of_getElem? h,rfl⟩);obtain⟨i,hi⟩:=List.getElem?_of_mem e2;have h1:(kvs.map (·.1))[i]?=some kv.1:=by rw[List.getElem?_map,hi];rfl
 have h2:(kvs.map (·.1))[j]?=some kv.1:=by rw[List.getElem?_map,h];rfl
 have:=(List.getElem?_inj (by rw[List.length_map];exact (List.getElem?_eq_some_iff.mp hi).1) nd).mp (h1.trans h2.symm);rw[this,h]at hi;rw[show kv.2=v from congrArg Prod.snd (Option.some.inj hi)];exact e1
structure StepAt (H:Hp) (ls:ZA) (n:Nat) (x:List Int) (la:Addr) (us:List V):Prop where
 li:H la=some (.lst us)
 ln:us.length=n
 ok:AftL H ls x 0 us
theorem StepAt.keep(h:StepAt H ls n x la us)(hl:H' la=H la)(ht:∀c zs,H c=some (.tup zs)->H' c=some (.tup zs)):StepAt H' ls n x la us:=⟨by rw[hl];exact h.li,h.ln,h.ok.same ht⟩
structure StepsD (P:Program) (w:World) (H:Hp) (fo:Addr) (ls:ZA) (b:Nat) (kvs:List (List Key×V)):Prop where
 d:DE P w H fo kvs
 nd:(kvs.map (·.1)).Nodup
 ok:∀kv∈kvs,∃x la us,kv.1=kI x/\Ze ls x/\kv.2=.ref la/\StepAt H ls b x la us
section
variable {P:Program} {w:World} {H H':Hp} {fo:Addr} {ls:ZA} {b:Nat} {kvs:List (List Key×V)}
theorem StepsD.get(s:StepsD P w H fo ls b kvs)(h:yJ kvs (kI x)=some v):∃la us,v=.ref la/\Ze ls x/\StepAt H ls b x la us:=by
 obtain⟨y,la,us,h1,h2,h3,h4⟩:=s.ok _ (zax h);obtain rfl:=Vc h1;exact⟨la,us,h3,h2,h4⟩
theorem StepsD.len(s:StepsD P w H fo ls b kvs)(h4:ls.length<=4)(h:∀st∈ls,st.length<=4):kvs.length<=13:=by
 have hk:=zfn h4 h;by_cases hc:kvs.length<=((zdp ls ls).map kI).length
 ·rw[List.length_map]at hc;omega
 ·exfalso;obtain⟨i,j,x,hij,h1,h2⟩:=zff (kvs.map (·.1)) ((zdp ls ls).map kI) (λk hk=>by
   obtain⟨p,hp,rfl⟩:=List.mem_map.mp hk;obtain⟨x,la,us,q1,q2,_⟩:=s.ok p hp;exact List.mem_map.mpr ⟨x,zdQ.mpr q2,q1.symm⟩) (by rw[List.length_map (f:=λx:List Key×V=>x.1)];omega)
  have hj:=(List.getElem?_eq_some_iff.mp h2).1;have:=(List.getElem?_inj (by omega) s.nd).mp (h1.trans h2.symm);omega
theorem StepsD.keep(s:StepsD P w H fo ls b kvs)(hf:H' fo=H fo)(hl:∀kv∈kvs,∀la,kv.2=.ref la->H' la=H la)(ht:∀c zs,H c=some (.tup zs)->H' c=some (.tup zs)):StepsD P w H' fo ls b kvs :=
 ⟨s.d.stay hf ht,s.nd,λkv hk=>let ⟨x,la,us,h1,h2,h3,h4⟩:=s.ok kv hk;⟨x,la,us,h1,h2,h3,h4.keep (hl kv hk la h3) ht⟩⟩
theorem StepsD.lst(s:StepsD P w H fo ls b kvs)(hk:kv∈kvs)(e:kv.2=.ref la):∃us,H la=some (.lst us):=by
 obtain⟨x,la',us,_,_,h3,h4⟩:=s.ok kv hk;rw[e]at h3;cases h3
 exact⟨us,h4.li⟩
theorem StepsD.same(s:StepsD P w H fo ls b kvs)(m:Same H H'):StepsD P w H' fo ls b kvs:=by
 have d:=s.d;obtain⟨_,_,e,_⟩:=d;exact s.keep (by rw[e];exact m _ _ e) (λkv hk la e=>by
  obtain⟨us,h⟩:=s.lst hk e;rw[h];exact m _ _ h) λc zs h=>m _ _ h
theorem StepsD.ne(s:StepsD P w H fo ls b kvs)(h:H c=some u)(hu:∀φ,u≠.ext φ):c≠fo:=λz=>by
 have d:=s.d;obtain⟨_,_,e,_⟩:=d;rw[z,e]at h;cases h
 exact hu _ rfl
theorem StepsD.put(s:StepsD P w H fo ls b kvs)(hn:yJ kvs (kI x)=none)(hd:DE P w H' fo (putK kvs (kI x) (.ref la)))(ho:∀c,c≠fo->H' c=H c)(hx:Ze ls x)(hs:StepAt H ls b x la us):StepsD P w H' fo ls b (putK kvs (kI x) (.ref la)):=by
 have kt:∀c zs,H c=some (.tup zs)->H' c=some (.tup zs):=λc zs h=>by rw[ho c (s.ne h λ_ z=>nomatch z)];exact h
 refine⟨hd,zfD _ s.nd hn,λkv hk=>?_⟩;rw[Z0 _ hn]at hk;rcases List.mem_append.mp hk with hk | hk
 ·obtain⟨y,la',us',h1,h2,h3,h4⟩:=s.ok kv hk;exact⟨y,la',us',h1,h2,h3,h4.keep (ho _ (s.ne h4.li λ_ z=>nomatch z)) kt⟩
 ·rw[List.mem_singleton.mp hk];exact⟨x,la,us,rfl,hx,rfl,hs.keep (ho _ (s.ne hs.li λ_ z=>nomatch z)) kt⟩
end
def RowD(P:Program)(w:World)(H:Hp)(a:Addr)(ls:ZA)(b t:Nat)(M:List Int->Prop):Prop:=∃kr,DE P w H a kr/\∀x,M x->yJ kr (kI x)=some (.int ((cnt ls b t x:Nat):Int))
section
variable {P:Program} {w:World} {H H':Hp} {a ra:Addr} {rs:List Addr} {ls:ZA} {b t:Nat} {M:List Int->Prop}
theorem RowD.keep(h:RowD P w H a ls b t M)(ha:H' a=H a)(ht:∀c zs,H c=some (.tup zs)->H' c=some (.tup zs)):RowD P w H' a ls b t M:=let ⟨kr,d,k⟩:=h;⟨kr,d.stay ha ht,k⟩
theorem RowD.ext(h:RowD P w H a ls b t M):∃φ,H a=some (.ext φ):=let ⟨_,⟨_,_,e,_⟩,_⟩:=h;⟨_,e⟩
theorem RowD.same(h:RowD P w H a ls b t M)(m:Same H H'):RowD P w H' a ls b t M:=by
 obtain⟨φ,e⟩:=h.ext;exact h.keep (by rw[e];exact m _ _ e) λc zs q=>m _ _ q
structure RowsD (P:Program) (w:World) (H:Hp) (ra:Addr) (rs:List Addr) (ls:ZA) (b:Nat) (M:List Int->Prop):Prop where
 li:H ra=some (.lst (rs.map V.ref))
 ok:∀(t:Nat) (a:Addr),rs[t]?=some a->RowD P w H a ls b t M
theorem RowsD.same(h:RowsD P w H ra rs ls b M)(m:Same H H'):RowsD P w H' ra rs ls b M:=⟨m _ _ h.li,λt a e=>(h.ok t a e).same m⟩
end
def zcA(ls:ZA)(b:Nat)(M:List Int->Prop):Prop:=M []/\∀x,M x->∀y∈Xi ls x 0 b,M y
section
variable {P:Program} {w:World} {K:W.Frag} {mg:Str->Option Value} {base:Heap}
structure zgP (P:Program) (w:World) (H:Hp) (fo ra:Addr) (ls:ZA) (b m:Nat) (kvs:List (List Key×V)) (rs:List Addr) (M:List Int->Prop):Prop where
 s:StepsD P w H fo ls b kvs
 r:RowsD P w H ra rs ls b M
 l:rs.length=m+1
 c:zcA ls b M
 e:∀x,M x↔yJ kvs (kI x)≠none
def X3(P:Program)(w:World):Sp:=λvs H Q _=>Ex5 λ(r:Addr) (b:Nat) (bl:Addr) (zs:ZB) (m:Nat)=>vs=[.ref r,.int m]/\RuleAt H r b bl zs/\GoodRule b (zs.map (·.2))/\m<=101/\∀wa fo ra kvs rs M H',H' wa=some (.tup [.ref fo,.ref ra])->Same H H'->zgP P w H' fo ra (zs.map (·.2)) b m kvs rs M->Q (.ref wa) H'
theorem yM:zE ["rule","most","base","bad","steps","left","stand","rows","more","row"] ["rule","most"] (zu zW):={}
set_option maxHeartbeats 0 in
theorem JN(D:Df K mg "_law_ways" zW A9 f fd)(vV:Df K mg "_law_after" yz Av f1 fd1)(n_dict:mg "dict"= none)(T:Blt mg)(U:Qt mg):FnOk P w K mg base CX0 2 f fd A9 (X3 P w):=by
 have zbr:FnOk P w K mg base CX0 1 f1 fd1 Av YM:=QD vV T;refine D.fn.ok yM (λvs H Q E h=>?_) (λcdv A outer s H vs Q E hr h=>?_)
 ·obtain⟨r,b,bl,zs,m,rfl,_⟩:=h;rfl
 ·obtain⟨r,b,bl,zs,m,rfl,R,g,hm,kk⟩:=h;have HU:=YH hr;have b2:=g.b2;have b16:=g.b16;have h4:(zs.map (·.2)).length<=4:=g.len;have hz4:zs.length<=4:=by have:=h4;rwa[List.length_map]at this
  have hst4:∀st∈zs.map (·.2),st.length<=4:=λst h=>(g.st st h).len;have ne:∀st∈zs.map (·.2),st≠[]:=λst h=>(g.st st h).ne;refine xm ?_;intro XX;let q1:Sq XX ((zq zW).drop 7):=⟨_,zz (zH (wu (zf (pv 4) (zf (pv 7) zj))))⟩
  let q2:Sq XX ((sb (zq zW) 6 true).drop 2):=⟨_,zz (vh (Wm PySem.F.plainAttrs_list PySem.F.slot_list_append PySem.F.type_list_append uD (pv 7) (zf (pv 9) zj)))⟩
  let q3:Sq XX ((sb (zq zW) 6 true).drop 1):=⟨_,zp (uB PassesOwn.never rfl (zaB P w (pv 4)) (yh (i:=6) yM.nd rfl (Or.inr rfl))
     (zz (zac (tL hr) (pv 9) (pv 6) (zA (zcG K rfl) (by rfl) U.n_sum boot_sum (zf (yx (show CScope (zu zW) _ "one" ["rule","most","base","bad","steps","left","stand","rows","more","row"] ["rows"] [7] from {}) rfl (ql K (Yj P w (tL hr) (pv 4) (pv 6) (λ_ _=>rfl))) (λ_ _ _ _=>(vK (zN Yu (pv 0) vC (zV _)))) (λ_ _ _ _=>(Yj P w (tL hr) (zR (yo K) (pv 1) (zcR JR zy) (λ_ _=>rfl)) (pv 0) (λ_ _=>rfl)))) zj)) rfl))) q2.p⟩
  let q4:Sq XX ((zq zW).drop 6):=⟨_,zp (uB PassesOwn.never rfl (yK rfl T.n_range (zf (pv 1) zj)) (yh (i:=8) yM.nd rfl (Or.inl rfl))
    (zp (zG (i:=9) yM.nd rfl (Or.inl rfl) Ju) q3.p)) q1.p⟩
  let q5:Sq XX ((zq zW).drop 5):=⟨_,zp (zG (i:=7) yM.nd rfl (Or.inr rfl) (yc (zf (yR (zfr P w K rfl hr.units) (by rfl) n_dict PyProof.Rows.boot_dict (zf (yx (show CScope (zu zW) _ "stand" ["rule","most","base","bad","steps","left","stand","rows","more","row"] [] [] from {}) rfl (zaB P w (pv 4)) (λ_ _ _ _=>yQ) (λ_ _ _ _=>(wu (zf (pv 0) (zf zy zj))))) zj)) zj))) q4.p⟩
  let q6:Sq XX ((sb (sb (zq zW) 4 true) 1 true).drop 1):=⟨_,zz (vh (Wm PySem.F.plainAttrs_list PySem.F.slot_list_extend PySem.F.type_list_extend zc8 (pv 5) (zf (yx (show CScope (zu zW) _ "one" ["rule","most","base","bad","steps","left","stand","rows","more","row"] [] [] from {}) rfl (ql K (Yj P w (tL hr) (pv 4) (pv 6) (λ_ _=>rfl))) (λ_ _ _ _=>(vK (zN Yu (pv 0) vC (zV _)))) (λ_ _ _ _=>(pv 0))) zj)))⟩
  let q7:Sq XX ((sb (zq zW) 4 true).drop 1):=⟨_,zz (yP (zgQ (zc4 (tL hr) (pv 6) (pv 4)) (by with_unfolding_all rfl))
     (zp (zac (tL hr) (pv 4) (pv 6) (yx (show CScope (zu zW) _ "figure" ["rule","most","base","bad","steps","left","stand","rows","more","row"] ["bad","stand"] [3,6] from {}) rfl (yK rfl T.n_range (zf (pv 2) zj)) (λ_ _ _ _=>yQ) (λ_ _ _ _=>(zK vV zbr (hr.mono (by decide)) (zf (pv 1) (zf (pv 2) (zf (pv 0) zj)))))) rfl) q6.p)
     ye)⟩
  let q8:Sq XX ((zq zW).drop 4):=⟨_,zp (X5 PassesOwn.never (zN (Y7 K HU) (pv 5) (yc zj) (zV _))
    (zp (zG (i:=6) yM.nd rfl (Or.inr rfl) (zew PySem.F.plainAttrs_list PySem.F.slot_list_pop PySem.F.type_list_pop zg3 (pv 5))) q7.p)) q5.p⟩
  let q9:Sq XX ((zq zW).drop 3):=⟨_,zp (zG (i:=5) yM.nd rfl (Or.inl rfl) (yc (zf (wu zj) zj))) q8.p⟩
  let q10:Sq XX ((zq zW).drop 2):=⟨_,zp (zG (i:=4) yM.nd rfl (Or.inl rfl) Ju) q9.p⟩
  let q11:Sq XX ((zq zW).drop 1):=⟨_,zp (zG (i:=3) yM.nd rfl (Or.inr rfl) (yx (show CScope (zu zW) _ "one" ["rule","most","base","bad","steps","left","stand","rows","more","row"] [] [] from {}) rfl (ql K (zR (vB K) (pv 0) zy (λ_ _=>rfl))) (λ_ _ _ _=>yQ) (λ_ _ _ _=>(yR (zfv K) (by rfl) T.n_tuple boot_tuple (zf (pv 0) zj))))) q10.p⟩
  refine⟨_,(zp (zG (i:=2) yM.nd rfl (Or.inl rfl) (zR (vB K) (pv 0) zy (λ_ _=>rfl))) q11.p),?_⟩;refine⟨_,rfl,r,_,_,V.int b,rfl,rfl,SqT.of R.tu,rfl,?_⟩;refine⟨_,rfl,r,_,_,V.ref bl,rfl,rfl,SqT.of R.tu,rfl,bl,rfl,⟨_,SqL.of R.li⟩,yt (K:=K) (a:=bl) (xs:=zs.map λz=>V.ref z.1) (λi ys Hc=>∃ts:ZB,ys=ts.map (λt=>V.ref t.1)/\ts.map (·.2)=(zs.take i).map (·.2)/\(∀t∈ts,Hc t.1=some (.tup (t.2.map V.int)))/\Same H Hc) ⟨[],rfl,by simp,by simp,Same.refl _⟩ (λi ys Hc _ ⟨_,_,_,_,e⟩=>SqL.of (e _ _ R.li)) ?_ ?_⟩
  ·rintro i x ys Hc hx ⟨ts,rfl,e2,ht,sc⟩;rw[List.getElem?_map]at hx;obtain⟨z,hzj,e⟩:=Option.map_eq_some_iff.mp hx;subst e;have hzm:=List.mem_of_getElem? hzj;refine⟨by have:=congrArg List.length e2;rw[List.length_map,List.length_map,List.length_take]at this;rw[List.length_map];exact Nat.lt_of_le_of_lt (show ts.length<=4 by omega) (by decide),?_⟩;unfold jB;dsimp only;rw[if_pos rfl];refine⟨_,rfl,z.1,_,rfl,.inl ⟨SqL.of (sc _ _ (R.st z hzm)),λp hp=>?_⟩⟩;have m:=zm hp (o:=.tup (z.2.map V.int));refine⟨ts++[(p,z.2)],by simp,by rw[List.map_append,e2,List.take_succ,hzj,List.map_append];rfl,λt ht'=>?_,sc.trans m⟩;rcases List.mem_append.mp ht' with h | h
   ·exact m _ _ (ht t h)
   ·rw[List.mem_singleton.mp h];exact zg
  rintro ys Hc ⟨ts,rfl,e2,ht,sc⟩ tl htl;have mt:=zm htl (o:=.lst (ts.map λt=>V.ref t.1));rw[List.length_map,List.take_length]at e2;have B:TupsAt (upd Hc tl (.lst (ts.map λt=>V.ref t.1))) tl ts:=⟨zg,λt h=>mt _ _ (ht t h)⟩
  have sB:=sc.trans mt;rw[<-e2]at g h4 hst4 ne kk;generalize upd Hc tl (.lst (ts.map λt=>V.ref t.1))=HB at B sB;refine λfo H1 hfo d1 c1=>?_;have s1:Same HB H1:=λc u e=>by rw[c1 c (zx e hfo)];exact e
  refine⟨(by decide:0<=sizeLine),λe0 he0=>⟨(by show 1<=sizeLine;decide),λwa hwa=>?_⟩⟩;have m2:=zm he0 (o:=.tup []);have m3:=zm hwa (o:=.lst [.ref e0]);have hwa0:HB wa=none:=s1.free (m2.free hwa);have S2:StepsD P w (upd (upd H1 e0 (.tup [])) wa (.lst [.ref e0])) fo (ts.map (·.2)) b []:=⟨(d1.same m2).same m3,List.nodup_nil,λkv hk=>nomatch hk⟩
  have s2:=(s1.trans m2).trans m3;have hw2:(upd (upd H1 e0 (.tup [])) wa (.lst [.ref e0])) wa=some (.lst (([(e0,([]:List Int))]:ZB).map λz=>V.ref z.1)):=zg;have he2:(upd (upd H1 e0 (.tup [])) wa (.lst [.ref e0])) e0=some (.tup (([]:List Int).map V.int)):=m3 _ _ zg;generalize upd (upd H1 e0 (.tup [])) wa (.lst [.ref e0])=H2 at S2 s2 hw2 he2;refine zfE (λm' σ Hc=>∃(kvs:List (List Key×V)) (ws:ZB) (v6:Option V),σ=[some (.ref r),some (.int m),some (.int b),some (.ref tl),some (.ref fo),some (.ref wa),v6,none,none,none]/\StepsD P w Hc fo (ts.map (·.2)) b kvs/\(∀kv∈kvs,kv.2≠.ref wa)/\Hc wa=some (.lst (ws.map λz=>V.ref z.1))/\(∀z∈ws,Hc z.1=some (.tup (z.2.map V.int))/\Ze (ts.map (·.2)) z.2)/\(∀x,yJ kvs (kI x)≠none->∀y∈Xi (ts.map (·.2)) x 0 b,yJ kvs (kI y)≠none\/y∈ws.map (·.2))/\(yJ kvs (kI [])≠none\/[]∈ws.map (·.2))/\Same HB Hc/\ws.length<=1+16*kvs.length/\m'=(13-kvs.length)*17+ws.length) _ ⟨[],[(e0,[])],none,rfl,S2,(λkv hk=>nomatch hk),hw2,(λz hz=>by rw[List.mem_singleton.mp hz];exact⟨he2,.inl rfl⟩),(λx h=>absurd rfl h),.inr (by simp),s2,by simp,rfl⟩ ?_ ?_
  ·rintro m' σ Hc ⟨kvs,ws,v6,rfl,S,hkw,hwl,hws,hcl,hrt,sc,hwn,rfl⟩;have hk13:=S.len h4 hst4;refine⟨_,rfl,(by decide:0<=sizeLine),λp0 hp0=>?_⟩;have mp:=zm hp0 (o:=.lst []);refine⟨.lst ((ws.map (·.2)).map wO),.lst [],?_,?_,(by rw[vG];have:=qK (ws.map (·.2));omega),_,rfl,?_⟩
   ·rw[TrAt];exact⟨wa,_,rfl,SqL.of (mp _ _ hwl),TrsAt.tups λz hz=>mp _ _ (hws z hz).1⟩
   ·rw[TrAt];exact⟨p0,_,rfl,SqL.of zg,by rw[TrsAt]⟩
   rw[if_pos rfl,WX];have Sp:=S.same mp;have hwp:=mp _ _ hwl;have scp:=sc.trans mp;have hwsp:∀z∈ws,(upd Hc p0 (.lst [])) z.1=some (.tup (z.2.map V.int))/\Ze (ts.map (·.2)) z.2:=λz hz=>⟨mp _ _ (hws z hz).1,(hws z hz).2⟩
   generalize upd Hc p0 (.lst [])=Hp at Sp hwp scp hwsp;rcases (show ws=[]\/∃(ws':ZB) (z:Addr×List Int),ws=ws'++[z] by
    rcases List.eq_nil_or_concat ws with h | ⟨a,b,h⟩
    ·exact .inl h
    ·exact .inr ⟨a,b,by rw[h,List.concat_eq_append]⟩) with rfl | ⟨ws',z,rfl⟩
   ·refine yr ?_;have hcl:∀x,yJ kvs (kI x)≠none->∀y∈Xi (ts.map (·.2)) x 0 b,yJ kvs (kI y)≠none:=λx hx y hy=>(hcl x hx y hy).resolve_right (by simp);have hrt:=hrt.resolve_right (by simp);have s1:=sB.trans scp;obtain⟨M,eM⟩:∃M:List Int->Prop,M=λx=>yJ kvs (kI x)≠none:=⟨_,rfl⟩
    have CM:zcA (ts.map (·.2)) b M:=by rw[eM];exact⟨hrt,hcl⟩
    have hin:∀{x},M x->kI x∈kvs.map (·.1):=λ{x} hx=>by
     rw[eM]at hx;cases e:yJ kvs (kI x) with
     |none=>exact absurd e hx
     |some v=>exact zcE e
    refine⟨_,rfl,zdq Sp.d (λi ys Hc=>∃(qs:List Addr) (ks:List (List Key×V)),ys=qs.map V.ref/\Paired (λt (kv:List Key×V)=>∃b,Hc t=some (.tup [.ref b,kv.2])/\Hc b=some (.tup (kv.1.map kV))) qs ks/\ks.map (·.1)=(kvs.map (·.1)).take i/\(∀kv∈ks,kv.2=.int 1)/\Same Hp Hc) ⟨[],[],rfl,.nil,rfl,(λkv h=>nomatch h),Same.refl _⟩ (λi ys Hc _ ⟨_,_,_,_,_,_,e⟩=>?_) ?_ ?_⟩
    ·have d:=Sp.d;obtain⟨_,_,e1,_⟩:=d;exact⟨by rw[e1];exact e _ _ e1,λc us q=>e _ _ q⟩
    ·rintro i kv p ys Hc hkv hp ⟨qs,ks,rfl,hpt,ek,hks,sc⟩;have hlen:qs.length=ks.length:=Paired.length hpt;have hkl:ks.length<=13:=by have:=congrArg List.length ek;rw[List.length_map,List.length_take,List.length_map]at this;omega
     refine⟨by rw[List.length_map,hlen];exact Nat.lt_of_le_of_lt (show ks.length<=100 by omega) (by decide),?_⟩;unfold jB;dsimp only;rw[if_pos rfl];refine⟨_,rfl,(by show 2<=sizeLine;decide),λt2 ht2=>?_⟩;have m2:=zm ht2 (o:=.tup [.ref p,.int 1]);refine⟨qs++[t2],ks++[(kv.1,.int 1)],by rw[List.map_append];rfl,Paired.snoc (Paired.mapP hpt λt kv ⟨b,q1,q2⟩=>⟨b,m2 _ _ q1,m2 _ _ q2⟩) ⟨p,zg,m2 _ _ hp⟩,?_,λkv' h=>?_,sc.trans m2⟩
     ·rw[List.map_append,ek,List.take_succ,List.getElem?_map,hkv];rfl
     ·rcases List.mem_append.mp h with h | h
      ·exact hks kv' h
      ·rw[List.mem_singleton.mp h]
    rintro ys Hc ⟨qs,ks,rfl,hpt,ek,hks,sc⟩ D0 hD0;have mD:=zm hD0 (o:=.lst (qs.map V.ref));have sD:=sc.trans mD;rw[<-List.length_map (f:=λx:List Key×V=>x.1),List.take_length]at ek;have eK:jG [] ks=ks:=by rw[Jm ks [] (by rw[List.nil_append,ek];exact Sp.nd)];rfl
    refine⟨D0,qs,ks,rfl,SqL.of zg,Paired.mapP hpt λt kv ⟨b,q1,q2⟩=>⟨b,SqT.of (mD _ _ q1),mD _ _ q2⟩,λr0 H3 hr0 d3 c3=>?_⟩;rw[eK]at d3;have m3:Same (upd Hc D0 (.lst (qs.map V.ref))) H3:=λc u e=>by rw[c3 c (zx e hr0)];exact e
    have s13:=sD.trans m3;have Row3:RowD P w H3 r0 (ts.map (·.2)) b 0 M:=⟨ks,d3,λx hx=>by
     obtain⟨v,e1,e2⟩:=V9 (show kI x∈ks.map (·.1) by rw[ek];exact hin hx);rw[e1,show v=.int 1 from hks _ e2];rfl⟩
    refine⟨(by show 1<=sizeLine;decide),λra hra=>?_⟩;have m4:=zm hra (o:=.lst [.ref r0]);have s14:=s13.trans m4;have hra0:H ra=none:=(s1.trans s13).free hra;have hkr:∀kv∈kvs,kv.2≠.ref ra:=λkv hk e=>by
     obtain⟨us,h⟩:=Sp.lst hk e;have:=s13 _ _ h;rw[hra]at this;cases this
    have Rows4:RowsD P w (upd H3 ra (.lst [.ref r0])) ra [r0] (ts.map (·.2)) b M:=⟨zg,λt a e=>by
     cases t with
     |zero=>cases e;exact Row3.same m4
     |succ t=>cases e⟩
    have S4:=Sp.same s14;have s04:=s1.trans s14;generalize upd H3 ra (.lst [.ref r0])=H4 at Rows4 S4 s04;refine⟨_,rfl,_,rfl,by omega,by omega,?_⟩;rw[Int.toNat_natCast];refine vm (lo:=0) (n:=m) (λi σ Hc=>∃(rs:List Addr) (v6 v8 v9:Option V),σ=[some (.ref r),some (.int m),some (.int b),some (.ref tl),some (.ref fo),some (.ref wa),v6,some (.ref ra),v8,v9]/\rs.length=i+1/\RowsD P w Hc ra rs (ts.map (·.2)) b M/\StepsD P w Hc fo (ts.map (·.2)) b kvs/\Same H Hc) ⟨[r0],v6,none,none,rfl,rfl,Rows4,S4,s04⟩ ?_ ?_
    ·rintro i σ Hc hi ⟨rs,v6,v8,v9,rfl,hrl,Rw,S,sc⟩;refine λrw0 H5 hrw d5 c5=>?_;have m5:Same Hc H5:=λc u e=>by rw[c5 c (zx e hrw)];exact e
     have S5:=S.same m5;have Rw5:=Rw.same m5;obtain⟨lr,hlr2⟩:∃lr,rs[i]?=some lr:=⟨_,List.getElem?_eq_getElem (by omega)⟩
     have hlast:atI (rs.map V.ref) (-1)=some (.ref lr):=by
      unfold atI;rw[List.length_map,hrl];unfold ixN;rw[if_neg (by omega),if_pos (by omega)];show (rs.map V.ref)[(-1+((i+1:Nat):Int)).toNat]?=_;rw[show (-1+((i+1:Nat):Int)).toNat=i by omega,List.getElem?_map,hlr2];rfl
     have hne:∀{c:Addr} {u:HO},Hc c=some u->c≠rw0:=λe z=>by rw[z,hrw]at e;cases e
     have hrwfo:fo≠rw0:=by
      have d:=S.d;obtain⟨_,_,e2,_⟩:=d;exact hne e2
     have nlst:∀{c:Addr} {us:List V},H5 c=some (.lst us)->c≠rw0:=λ{c us} h z=>by
      obtain⟨_,_,e,_⟩:=d5;rw[z,e]at h;cases h
     have Sd:∀{Hd:L2.Hp},(∀c u,c≠rw0->H5 c=some u->Hd c=some u)->StepsD P w Hd fo (ts.map (·.2)) b kvs:=λ{Hd} sd=>by
      have d:=S5.d;obtain⟨_,_,e1,_⟩:=d;exact S5.keep (by rw[e1];exact sd _ _ hrwfo e1) (λkv hk la e=>by
       obtain⟨us,h⟩:=S5.lst hk e;rw[h];exact sd _ _ (nlst h) h) λc us q=>sd _ _ (d5.ne q) q
     have Ld:∀{Hd:L2.Hp},(∀c u,c≠rw0->H5 c=some u->Hd c=some u)->∀t a,rs[t]?=some a->RowD P w Hd a (ts.map (·.2)) b t M:=λ{Hd} sd t a e=>by
      have L5:=Rw5.ok t a e;obtain⟨φ,e1⟩:=L5.ext;obtain⟨φ',e2⟩:=(Rw.ok t a e).ext;exact L5.keep (by rw[e1];exact sd _ _ (hne e2) e1) λc us q=>sd _ _ (d5.ne q) q
     refine⟨_,rfl,zfj S5.d (λj σ Hd=>∃(kr:List (List Key×V)) (v6:Option V),σ=[some (.ref r),some (.int m),some (.int b),some (.ref tl),some (.ref fo),some (.ref wa),v6,some (.ref ra),some (.int (0+(i:Int))),some (.ref rw0)]/\DE P w Hd rw0 kr/\kr.length<=j/\(∀kv∈kvs.take j,∀x,kv.1=kI x->yJ kr (kI x)=some (.int ((cnt (ts.map (·.2)) b (i+1) x:Nat):Int)))/\(∀c u,c≠rw0->H5 c=some u->Hd c=some u)) ⟨[],v6,rfl,d5,Nat.zero_le _,(λkv h=>by simp at h),λc u _ e=>e⟩ (λj σ Hd _ ⟨_,_,_,_,_,_,e⟩=>?_) ?_ ?_⟩
     ·have d:=S5.d;obtain⟨_,_,e1,_⟩:=d;exact⟨by rw[e1];exact e _ _ hrwfo e1,λc us q=>e _ _ (d5.ne q) q⟩
     ·rintro j kv p σ Hd hkv hp ⟨kr,v6,rfl,dd,hkrl,hkr',sd⟩;have hj:j<kvs.length:=(List.getElem?_eq_some_iff.mp hkv).1;have Sd:=Sd sd;obtain⟨x,la,us,ex,hx,ela,Std⟩:=Sd.ok kv (List.mem_of_getElem? hkv);have hv:=zfH S5.nd hkv;rw[ex,ela]at hv;rw[ex]at hp;have Mx:M x:=by rw[eM];show yJ kvs (kI x)≠none;rw[hv];simp
      have hrd:Hd ra=some (.lst (rs.map V.ref)):=sd _ _ (nlst Rw5.li) Rw5.li;obtain⟨kr2,d2,k2⟩:=Ld sd i lr hlr2;refine⟨_,rfl,_,rfl,fo,kvs,kI x,p,.ref la,rfl,Sd.d,rfl,hp,hv,la,rfl,⟨_,SqL.of Std.li⟩,XQ Std.li Std.ok (by rw[Std.ln];omega) (λv R r=>⟨_,rfl,rfl,_,rfl,r⟩) (λe=>.int ((cnt (ts.map (·.2)) b i e.2:Nat):Int)) (λe he hp R r=>?_) λes _ hes D1 hD1=>?_⟩
      ·rw[Std.ln]at he;exact⟨_,rfl,_,rfl,ra,_,_,.ref lr,rfl,rfl,SqL.of hrd,hlast,_,rfl,lr,kr2,kI e.2,e.1,_,rfl,d2,rfl,by rw[U9];exact hp,k2 _ (CM.2 x Mx _ he),r⟩
      rw[Std.ln]at hes;rw[show (es.map λe=>V.int ((cnt (ts.map (·.2)) b i e.2:Nat):Int))=(es.map λe=>((cnt (ts.map (·.2)) b i e.2:Nat):Int)).map V.int by rw[List.map_map];rfl];have n1:=zm hD1 (o:=.lst ((es.map λe=>((cnt (ts.map (·.2)) b i e.2:Nat):Int)).map V.int));refine⟨D1,_,rfl,SqL.of zg,?_⟩;rw[zar hes,jl,zdc];generalize upd Hd D1 (.lst ((es.map λe=>((cnt (ts.map (·.2)) b i e.2:Nat):Int)).map V.int))=He at n1;refine⟨_,rfl,_,rfl,rw0,kr,kI x,p,rfl,dd.same n1,rfl,n1 _ _ hp,Nat.lt_of_le_of_lt (show kr.length<=100 by omega) (by decide),λHk dk ck=>?_⟩;refine⟨_,_,rfl,dk,by have:=Yd kr (kI x) (.int ((cnt (ts.map (·.2)) b (i+1) x:Nat):Int));omega,λkv' hkv' x' ex'=>?_,λc u hc e=>by rw[ck c hc];exact n1 _ _ (sd c u hc e)⟩;rw[Wo];by_cases hxx:kI x'=kI x
      ·obtain rfl:=Vc hxx;rw[if_pos rfl]
      ·rw[if_neg hxx];rw[List.take_succ,hkv]at hkv';rcases List.mem_append.mp hkv' with h | h
       ·exact hkr' kv' h x' ex'
       ·have h:kv'=kv:=by simpa using h
        rw[h]at ex';exact absurd (ex'.symm.trans ex) hxx
     ·rintro σ Hd ⟨kr,v6,rfl,dd,hkrl,hkr',sd⟩;have hrd:Hd ra=some (.lst (rs.map V.ref)):=sd _ _ (nlst Rw5.li) Rw5.li;refine⟨_,rfl,.inl ⟨rfl,_,SqL.of hrd⟩,_,rfl,ra,_,_,rfl,rfl,hrd,by rw[List.length_map];exact Nat.lt_of_le_of_lt (show rs.length<=200 by omega) (by decide),?_⟩;have ktr:∀c us,Hd c=some (.tup us)->(upd Hd ra (.lst (rs.map V.ref++[.ref rw0]))) c=some (.tup us):=λc us q=>by rw[zr (λz=>by rw[z,hrd]at q;cases q)];exact q
      have ker:∀{c:Addr} {φ},Hd c=some (.ext φ)->(upd Hd ra (.lst (rs.map V.ref++[.ref rw0]))) c=Hd c:=λ{c φ} q=>zr λz=>by rw[z,hrd]at q;cases q
      have s6:Same H (upd Hd ra (.lst (rs.map V.ref++[.ref rw0]))):=λc u e=>by
       rw[zr (zx e hra0)];exact sd c u (hne (sc _ _ e)) (m5 _ _ (sc _ _ e))
      have Row6:∀t a,(rs++[rw0])[t]?=some a->RowD P w (upd Hd ra (.lst (rs.map V.ref++[.ref rw0]))) a (ts.map (·.2)) b t M:=λt a e=>by
       by_cases ht:t<rs.length
       ·rw[List.getElem?_append_left ht]at e;have L:=Ld sd t a e;obtain⟨φ2,e3⟩:=L.ext;exact L.keep (ker e3) ktr
       ·have hl:=(List.getElem?_eq_some_iff.mp e).1;rw[List.length_append,List.length_singleton]at hl;have et:t=rs.length:=by omega
        subst et;rw[List.getElem?_concat_length]at e;cases e
        have d:=dd;obtain⟨_,_,e3,_⟩:=d;refine⟨kr,dd.stay (ker e3) ktr,λx hx=>?_⟩;obtain⟨kv,hkv,ekv⟩:=List.mem_map.mp (hin hx);rw[hrl];exact hkr' kv (by rw[List.take_length];exact hkv) x ekv
      have S6:StepsD P w (upd Hd ra (.lst (rs.map V.ref++[.ref rw0]))) fo (ts.map (·.2)) b kvs:=by
       have S:=Sd sd;have d:=S.d;obtain⟨_,_,e1,_⟩:=d;exact S.keep (ker e1) (λkv hk la e=>zr λz=>hkr kv hk (by rw[e,z])) ktr
      have hr6:(upd Hd ra (.lst (rs.map V.ref++[.ref rw0]))) ra=some (.lst ((rs++[rw0]).map V.ref)):=by rw[zg,List.map_append];rfl
      exact⟨rs++[rw0],_,_,_,rfl,by rw[List.length_append,hrl];rfl,⟨hr6,Row6⟩,S6,s6⟩
    ·rintro σ Hc ⟨rs,v6,v8,v9,rfl,hrl,Rw,S,sc⟩;refine⟨_,rfl,_,rfl,(by show 2<=sizeLine;decide),λwt hwt=>?_⟩;have mw:=zm hwt (o:=.tup [.ref fo,.ref ra]);exact kk wt fo ra kvs rs M _ zg (sc.trans mw) ⟨S.same mw,Rw.same mw,hrl,CM,λx=>by rw[eM]⟩
   ·have hzst:=(hwsp z (by simp)).2;have hz1:=(hwsp z (by simp)).1;have hfowa:fo≠wa:=λe=>Sp.ne hwp (λ_ z=>nomatch z) e.symm;refine zct (by simp) ?_;refine⟨_,rfl,.inl ⟨rfl,_,SqL.of hwp⟩,wa,_,.ref z.1,rfl,rfl,hwp,by simp,?_⟩;rw[show ((ws'++[z]).map λz=>V.ref z.1).dropLast=ws'.map λz=>V.ref z.1 by simp];have kt:∀c us,Hp c=some (.tup us)->(upd Hp wa (.lst (ws'.map λz=>V.ref z.1))) c=some (.tup us):=λc us h=>by
     rw[zr (λq=>by rw[q,hwp]at h;cases h)];exact h
    have S3:StepsD P w (upd Hp wa (.lst (ws'.map λz=>V.ref z.1))) fo (ts.map (·.2)) b kvs:=Sp.keep (zr hfowa) (λkv hk la e=>zr λq=>hkw kv hk (by rw[e,q])) kt;have sc3:Same HB (upd Hp wa (.lst (ws'.map λz=>V.ref z.1))):=λc u e=>by rw[zr (zx e hwa0)];exact scp _ _ e
    have hw3:(upd Hp wa (.lst (ws'.map λz=>V.ref z.1))) wa=some (.lst (ws'.map λz=>V.ref z.1)):=zg;have hws3:∀y∈ws',(upd Hp wa (.lst (ws'.map λz=>V.ref z.1))) y.1=some (.tup (y.2.map V.int))/\Ze (ts.map (·.2)) y.2:=λy hy=>⟨kt _ _ (hwsp y (by simp[hy])).1,(hwsp y (by simp[hy])).2⟩
    have hz3:=kt _ _ hz1;generalize upd Hp wa (.lst (ws'.map λz=>V.ref z.1))=H3 at S3 sc3 hw3 hws3 hz3;rw[List.length_append,List.length_singleton]at hwn;refine⟨_,rfl,_,rfl,fo,kvs,kI z.2,z.1,rfl,S3.d,rfl,by rw[U9];exact hz3,_,rfl,?_⟩;cases hv:yJ kvs (kI z.2) with
    |some v=>
     have hin:∀{y:List Int},y∈(ws'++[z]).map (·.2)->yJ kvs (kI y)≠none\/y∈ws'.map (·.2):=λ{y} h=>by
      rw[List.map_append,List.mem_append]at h;rcases h with h | h
      ·exact .inr h
      ·rw[List.mem_singleton.mp h,hv];exact .inl (by simp)
     exact yr ⟨_,by rw[List.length_append,List.length_singleton];omega,kvs,ws',_,rfl,S3,hkw,hw3,hws3,λx hx y hy=>(hcl x hx y hy).elim .inl hin,hrt.elim .inl hin,sc3,by omega,rfl⟩
    |none=>
     refine ym ?_;have B3:=B.same sc3;refine⟨_,rfl,_,rfl,by omega,by omega,?_⟩;rw[Int.toNat_natCast];refine wV (lo:=0) (n:=b) (λi us Hd=>us.length=i/\AftL Hd (ts.map (·.2)) z.2 0 us/\Same H3 Hd) ⟨rfl,(λi v e=>nomatch e),Same.refl _⟩ ?_ ?_
     ·rintro i us Hd hi ⟨hul,ul,sd⟩;refine⟨by rw[hul];exact Nat.lt_of_le_of_lt (show i<=100 by omega) (by decide),?_⟩;unfold jB;dsimp only;rw[if_pos rfl];refine⟨_,rfl,_,rfl,_,rfl,tl,ts,z.1,z.2,i,b,by rw[Int.zero_add];rfl,B3.same sd,sd _ _ hz3,g,hzst,λv He se av=>⟨by rw[List.length_append,hul];rfl,λj u e=>?_,sd.trans se⟩⟩;have ul':=ul.same λc us e=>se _ _ e;by_cases hj:j<us.length
      ·rw[List.getElem?_append_left hj]at e;exact ul' j u e
      ·have hl:=(List.getElem?_eq_some_iff.mp e).1;rw[List.length_append,List.length_singleton]at hl;obtain rfl:j=us.length:=by omega
       rw[List.getElem?_concat_length]at e;cases e
       rw[hul,Nat.zero_add];exact av
     rintro us H4 ⟨hul,ul,s34⟩ la hla;have m4:=zm hla (o:=.lst us);have s37:=s34.trans m4;have St7:StepAt (upd H4 la (.lst us)) (ts.map (·.2)) b z.2 la us:=⟨zg,hul,ul.same λc us e=>m4 _ _ e⟩
     have hlawa:la≠wa:=λe=>by have:=s34 _ _ hw3;rw[<-e,hla]at this;cases this
     generalize upd H4 la (.lst us)=H7 at s37 St7;have S7:=S3.same s37;have hz7:=s37 _ _ hz3;refine⟨_,rfl,_,rfl,fo,kvs,kI z.2,z.1,rfl,S7.d,rfl,by rw[U9];exact hz7,Nat.lt_of_le_of_lt (show kvs.length<=100 by omega) (by decide),λH8 d8 c8=>?_⟩;have S8:=S7.put hv d8 c8 hzst St7;have k8:∀{c:Addr} {u:HO},H7 c=some u->(∀φ,u≠.ext φ)->H8 c=some u:=λ{c u} h hu=>by rw[c8 c (S7.ne h hu)];exact h
     have hw8:=k8 (s37 _ _ hw3) (λ_ z=>nomatch z);have hz8:=k8 hz7 (λ_ z=>nomatch z);have hws8:∀y∈ws',H8 y.1=some (.tup (y.2.map V.int))/\Ze (ts.map (·.2)) y.2:=λy hy=>⟨k8 (s37 _ _ (hws3 y hy).1) (λ_ z=>nomatch z),(hws3 y hy).2⟩
     have sc8:Same HB H8:=λc u e=>by rw[c8 c (zx e hfo)];exact s37 _ _ (sc3 _ _ e)
     have St8:StepAt H8 (ts.map (·.2)) b z.2 la us:=St7.keep (c8 _ (S7.ne St7.li λ_ z=>nomatch z)) λc zs h=>k8 h λ_ z=>nomatch z;have vz:yJ (putK kvs (kI z.2) (.ref la)) (kI z.2)=some (.ref la):=by rw[Wo,if_pos rfl]
     have hkw8:∀kv∈putK kvs (kI z.2) (.ref la),kv.2≠.ref wa:=λkv hk=>by
      rw[Z0 _ hv]at hk;rcases List.mem_append.mp hk with hk | hk
      ·exact hkw kv hk
      ·rw[List.mem_singleton.mp hk];exact λe=>hlawa (by injection e)
     have hl8:(putK kvs (kI z.2) (.ref la)).length=kvs.length+1:=by rw[Z0 _ hv,List.length_append];rfl
     have h813:=S8.len h4 hst4;refine⟨_,rfl,.inl ⟨rfl,_,SqL.of hw8⟩,_,rfl,_,rfl,fo,_,kI z.2,z.1,.ref la,rfl,S8.d,rfl,by rw[U9];exact hz8,vz,la,rfl,⟨_,SqL.of St8.li⟩,XQ St8.li St8.ok (by rw[hul];omega) (λv R r=>⟨_,rfl,rfl,_,rfl,r⟩) (λe=>.ref e.1) (λe _ _ R r=>⟨_,rfl,r⟩) λes hes1 hes2 ex hex=>?_⟩;rw[hul]at hes2;have hesl:es.length<=b:=by have:=congrArg List.length hes2;rw[List.length_map]at this;rw[this];exact Wf _ _ _ _
     have me:=zm hex (o:=.lst (es.map λe=>V.ref e.1));refine⟨wa,ex,_,_,rfl,rfl,me _ _ hw8,zg,?_,?_⟩
     ·rw[List.length_map,List.length_map];exact Nat.le_trans (show ws'.length+es.length<=10000 by omega) (by decide)
     have hwa9:=me _ _ hw8;have S9:=S8.same me;have sc9:=sc8.trans me;have hws9:∀y∈ws'++es,(upd H8 ex (.lst (es.map λe=>V.ref e.1))) y.1=some (.tup (y.2.map V.int))/\Ze (ts.map (·.2)) y.2:=λy hy=>by
      rcases List.mem_append.mp hy with h | h
      ·exact⟨me _ _ (hws8 y h).1,(hws8 y h).2⟩
      ·exact⟨me _ _ (hes1 y h),zfI ne (by rw[<-hes2];exact List.mem_map.mpr ⟨y,h,rfl⟩)⟩
     generalize upd H8 ex (.lst (es.map λe=>V.ref e.1))=H9 at hwa9 S9 sc9 hws9;rw[show (ws'.map λz=>V.ref z.1)++(es.map λe=>V.ref e.1)=(ws'++es).map λz=>V.ref z.1 by rw[List.map_append]];have kt9:∀c us,H9 c=some (.tup us)->(upd H9 wa (.lst ((ws'++es).map λz=>V.ref z.1))) c=some (.tup us):=λc us h=>by
      rw[zr (λq=>by rw[q,hwa9]at h;cases h)];exact h
     have hin:∀{y:List Int},y∈(ws'++[z]).map (·.2)->yJ (putK kvs (kI z.2) (.ref la)) (kI y)≠none\/y∈(ws'++es).map (·.2):=λ{y} h=>by
      rw[List.map_append,List.mem_append]at h;rcases h with h | h
      ·exact .inr (by rw[List.map_append];exact List.mem_append_left _ h)
      ·rw[List.mem_singleton.mp h,vz];exact .inl (by simp)
     have hup:∀{y:List Int},yJ kvs (kI y)≠none->yJ (putK kvs (kI z.2) (.ref la)) (kI y)≠none:=λ{y} h=>by
      rw[Wo];split
      ·simp
      ·exact h
     refine⟨_,?_,putK kvs (kI z.2) (.ref la),ws'++es,_,rfl,S9.keep (zr hfowa) (λkv hk la e=>zr λq=>hkw8 kv hk (by rw[e,q])) kt9,hkw8,zg,(λy hy=>⟨kt9 _ _ (hws9 y hy).1,(hws9 y hy).2⟩),λx hx y hy=>?_,hrt.elim (λh=>.inl (hup h)) hin,(λc u e=>by rw[zr (zx e hwa0)];exact sc9 _ _ e),by rw[hl8,List.length_append];omega,rfl⟩
     ·rw[hl8,List.length_append,List.length_append,List.length_singleton];omega
     ·rw[Wo]at hx;by_cases hxz:kI x=kI z.2
      ·obtain rfl:=Vc hxz;rw[<-hes2]at hy;exact .inr (by rw[List.map_append];exact List.mem_append_right _ hy)
      ·rw[if_neg hxz]at hx;exact (hcl x hx y hy).elim (λh=>.inl (hup h)) hin
  ·intro σ H2 Q Q' hq;rintro⟨v,e,sz,h⟩;refine⟨v,e,sz,λp hp=>?_⟩;obtain⟨t1,t2,a1,a2,dep,c1,ec,q⟩:=h p hp;exact⟨t1,t2,a1,a2,dep,c1,ec,hq _ _ q⟩
def ZS:Sp:=λvs H Q _=>Ex2 λ(b:Nat) (n:Nat)=>vs=[.int b,.int n]/\2<=b/\b<=16/\n<2^900 /\
 ∀l H',H l=none->H' l=some (.lst ((figs b n).map V.int))->Same H H'->Q (.ref l) H'
theorem tR:zE ["base","n","found"] ["base","n"] (zu xj):={}
theorem Vx(D:Df K mg "_law_figures" xj Ai f fd)(T:Blt mg):FnOk P w K mg base CX0 1 f fd Ai ZS:=by
 refine D.fn.ok tR (λvs H Q E h=>?_) (λcdv A outer s H vs Q E hr h=>?_)
 ·obtain⟨b,n,rfl,_⟩:=h;rfl
 ·obtain⟨b,n,rfl,h2,h16,hn,k⟩:=h;refine xm ?_;intro XX;let q1:Sq XX ((zq xj).drop 2):=⟨_,zz (zH (Vt (pv 2)))⟩
  let q2:Sq XX ((sb (zq xj) 1 true).drop 1):=⟨_,zz (vh (Wm PySem.F.plainAttrs_list PySem.F.slot_list_append PySem.F.type_list_append uD (pv 2) (zf (zO jy (pv 1) (pv 0)) zj)))⟩
  let q3:Sq XX ((zq xj).drop 1):=⟨_,zp (X5 PassesOwn.never (zN zeM (pv 1) (pv 0) (zV _))
    (zp (zG (i:=1) tR.nd rfl (Or.inl rfl) (zO Ye (pv 1) (pv 0))) q2.p)) q1.p⟩
  refine⟨_,(zp (zG (i:=2) tR.nd rfl (Or.inl rfl) (yc (zf (zO jy (pv 1) (pv 0)) zj))) q3.p),?_⟩;refine⟨_,rfl,_,rfl,_,_,rfl,rfl,(by omega:(0:Int)<b),(by decide:1<=sizeLine),λl hl=>?_⟩;have hlen:=ZZ h2 900 n hn;refine V6 (fun σ H2=>∃(r:Nat) (L:List Int),σ=[some (.int b),some (.int r),some (.ref l)]/\H2 l=some (.lst (L.map V.int))/\Same H H2/\figs b n=ahead b (r / b)++L.reverse)
   (fun σ _=>match σ with | [_,some (.int r),_]=>r.toNat | _=>0) ?_ ?_ ?_
  ·refine⟨n,[((n % b:Nat):Int)],rfl,?_,zm hl,?_⟩
   ·rw[zg];simp
   ·rw[Ys h2];simp
  ·rintro σ H2 ⟨r,L,rfl,hL,sH,he⟩;refine⟨_,rfl,_,rfl,_,_,rfl,rfl,_,rfl,?_⟩;refine zbP (λh1=>?_) (λh1=>?_)
   ·have hr0:b<=r:=by have:=of_decide_eq_true h1;omega
    have hrb:0<r / b:=Nat.div_pos hr0 (by omega);have hLl:L.length<=901:=by
     have:=congrArg List.length he;rw[List.length_append,List.length_reverse]at this;omega
    refine⟨_,rfl,_,rfl,_,_,rfl,rfl,⟨by omega,by omega⟩,?_⟩;refine⟨_,rfl,.inl ⟨rfl,_,SqL.of hL⟩,_,rfl,_,rfl,_,_,rfl,rfl,(by omega:(0:Int)<b),l,_,_,rfl,rfl,hL,by rw[List.length_map];exact Nat.lt_of_le_of_lt hLl (by decide),?_⟩;refine⟨⟨r / b,L++[((r / b % b:Nat):Int)],?_,?_,?_,?_⟩,?_⟩
    ·simp
    ·rw[zg];simp
    ·exact λb' o e=>by rw[zr (zx e hl)];exact sH b' o e
    ·rw[he,Uh h2 hrb,List.reverse_append];simp
    ·show ((r:Int) / (b:Int)).toNat<(r:Int).toNat;have:r / b<r:=Nat.div_lt_self (by omega) (by omega);omega
   ·have hr0:r<b:=by
     by_cases z:r<b
     ·exact z
     ·exact absurd (decide_eq_true (by omega:(b:Int)<=r)) h1
    refine⟨_,rfl,l,_,rfl,SqL.of hL,λq hq=>?_⟩;refine k q _ (sH.free hq) ?_ (sH.trans (zm hq));rw[zg,he,Nat.div_eq_of_lt hr0];simp[ahead]
  ·intro σ H2 Q Q' hq;rintro⟨v,e,v2,e2,i,j,e3,e4,k,e5,q⟩;exact⟨v,e,v2,e2,i,j,e3,e4,k,e5,hq _ _ q⟩
end
theorem zhk(ls:ZA)(h2:2<=b)(n:Nat):jW ls b 0 [] 0 (n+1)=ux ls b 0+jW ls b 0 [] 1 n:=by
 rw[jl,qe];unfold under;congr 1;refine List.map_congr_left λc _=>?_;by_cases c0:c=0
 ·subst c0;rw[show ZQ ls b 0 none 0=ux ls b 0 from rfl,<-V1 ls h2 0];rfl
 ·show _=if c=0 then _ else _;rw[if_neg c0];rfl
theorem za1(h:a+n<=b)(hy:y∈Xi ls x a n):y∈Xi ls x 0 b:=by
 obtain⟨c,hc,e⟩:=List.mem_filterMap.mp hy;exact List.mem_filterMap.mpr ⟨a+c,List.mem_range.mpr (by have:=List.mem_range.mp hc;omega),by rw[Nat.zero_add];exact e⟩
theorem AftL.cut(h:AftL H ls x 0 us)(a m:Nat):AftL H ls x a ((us.drop a).take m):=λi v e=>by
 rw[List.getElem?_take,List.getElem?_drop]at e;split at e
 ·have:=h _ v e;rwa[Nat.zero_add]at this
 ·cases e
theorem za2{K:W.Frag}{es:ZB}{F:List Int->Nat}(hl:H la=some (.lst (es.map λe=>V.ref e.1)))(h1:es.length<=100)(he:∀e∈es,∀R:V->Hp->Prop,R (.int ((F e.2:Nat):Int)) H->te (some (.ref e.1)::uJ js σ) H R)(hd:∀D,H D=none->Q (.ref D) (upd H D (.lst ((es.map λe=>((F e.2:Nat):Int)).map V.int)))):CompLoop (Itl K la) js jB te σ Q H:=by
 refine yt (K:=K) (a:=la) (xs:=es.map λe=>V.ref e.1) (λi ys Hd=>ys=((es.take i).map λe=>((F e.2:Nat):Int)).map V.int/\Hd=H) ⟨rfl,rfl⟩ (λi ys Hd _ ⟨_,e⟩=>by rw[e];exact SqL.of hl) ?_ ?_
 ·rintro i v ys Hd hi ⟨rfl,rfl⟩;rw[List.getElem?_map]at hi;obtain⟨e,hei,rfl⟩:=Option.map_eq_some_iff.mp hi;refine⟨by rw[List.length_map,List.length_map,List.length_take];exact Nat.lt_of_le_of_lt (show min i es.length<=100 by omega) (by decide),?_⟩;unfold jB;dsimp only;rw[if_pos rfl];refine he e (List.mem_of_getElem? hei) _ ⟨?_,rfl⟩;rw[List.take_succ,hei,Option.toList_some,List.map_append,List.map_append];rfl
 ·rintro ys Hd ⟨rfl,rfl⟩ D hD;rw[List.length_map,List.take_length];exact hd D hD
theorem and_int{k L:Nat}(hf:∀R:VK,R (.int k) H->f σ H R)(hg:∀R:VK,R (.int L) H->g σ H R)(h:Q (.int ((if k=0/\1<L then 1 else 0:Nat):Int)) H):tCB (λxs H Q=>(∃i,xs=[V.int i]/\Q (V.int i) H)\/∃k,xs=[V.bl k]/\Q (V.int (if k=true then 1 else 0)) H) (j8 (zgq (tOp rEq f (tC (.int 0))) (tOp (rI0 λi j=>V.bl (decide (j<i))) g (tC (.int 1)))) W0) σ H Q:=by
 refine hf _ ⟨rfl,_,rfl,?_⟩;by_cases k0:k=0
 ·subst k0;refine zct (decide_eq_true rfl) (hg _ ⟨_,_,rfl,rfl,.inr ⟨_,rfl,?_⟩⟩);by_cases z:1<L
  ·rw[if_pos ⟨rfl,z⟩]at h;rw[if_pos (decide_eq_true (by omega))];exact h
  ·rw[if_neg (λq=>z q.2)]at h;rw[if_neg (by rw[decide_eq_false (by omega)];exact Bool.false_ne_true)];exact h
 ·refine zeG (decide_eq_false (λz=>by injection z with z;omega)) (.inr ⟨_,rfl,?_⟩);rw[if_neg (λq=>k0 q.1)]at h;exact h
section
variable {P:Program} {w:World} {K:W.Frag} {mg:Str->Option Value} {base:Heap}
def jF(P:Program)(w:World):Sp:=λvs H Q _=>Ex5 λ(r:Addr) (b:Nat) (bl:Addr) (zs:ZB) (n:Nat)=>vs=[.ref r,.int n]/\RuleAt H r b bl zs/\GoodRule b (zs.map (·.2))/\n<2^100/\∀H',Same H H'->Q (.int (many (gd (zs.map (·.2)) b) n:Nat)) H'
theorem zY:zE ["rule","n","base","figures","size","steps","rows","total","many","some","stand","at","figure"] ["rule","n"] (zu zP):={}
set_option maxHeartbeats 0 in
theorem QH(D:Df K mg "_law_below" zP Aq f fd)(uQ:Df K mg "_law_figures" xj Ai f1 fd1)(Zg:Df K mg "_law_ways" zW A9 f2 fd2)(vV:Df K mg "_law_after" yz Av f3 fd3)(n_dict:mg "dict"= none)(T:Blt mg)(U:Qt mg):FnOk P w K mg base CX0 3 f fd Aq (jF P w):=by
 have Qk:FnOk P w K mg base CX0 1 f1 fd1 Ai ZS:=Vx uQ T;have zbI:FnOk P w K mg base CX0 2 f2 fd2 A9 (X3 P w):=JN Zg vV n_dict T U;refine D.fn.ok zY (λvs H Q E h=>?_) (λcdv A outer s H vs Q E hr h=>?_)
 ·obtain⟨r,b,bl,zs,n,rfl,_⟩:=h;rfl
 ·obtain⟨r,b,bl,zs,n,rfl,R,g,hn,kk⟩:=h;have b2:=g.b2;have b16:=g.b16;have hst4:∀st∈zs.map (·.2),st.length<=4:=λst h=>(g.st st h).len;have ne:∀st∈zs.map (·.2),st≠[]:=λst h=>(g.st st h).ne;refine xm ?_;intro XX;let q1:Sq XX ((zq zP).drop 8):=⟨_,zz (zH (pv 7))⟩
  let q2:Sq XX ((sb (sb (zq zP) 7 true) 0 true).drop 2):=⟨_,zz (zG (i:=10) zY.nd rfl (Or.inl rfl) (zR (yo K) (Yj P w (tL hr) (pv 5) (pv 10) (λ_ _=>rfl)) (pv 12) (λ_ _=>rfl)))⟩
  let q3:Sq XX ((sb (sb (zq zP) 7 true) 0 true).drop 1):=⟨_,zp (zG (i:=7) zY.nd rfl (Or.inl rfl) (zO wK (pv 7) (zA (zcG K rfl) (by rfl) U.n_sum boot_sum (zf (yx (show CScope (zu zP) _ "one" ["rule","n","base","figures","size","steps","rows","total","many","some","stand","at","figure"] ["rows","at","size"] [6,11,4] from {}) rfl (ql K (pv 9)) (λ_ _ _ _=>yQ) (λ_ _ _ _=>(Yj P w (tL hr) (zR (yo K) (pv 1) (zO Xr (zO Xr (pv 3) zy) (pv 2)) (λ_ _=>rfl)) (pv 0) (λ_ _=>rfl)))) zj)))) q2.p⟩
  let q4:Sq XX ((zq zP).drop 7):=⟨_,zp (uB PassesOwn.never rfl (zf6 K rfl T.n_enumerate (zf (pv 3) zj)) (XC rfl (xN (yh (i:=11) zY.nd rfl (Or.inr rfl)) (xN (yh (i:=12) zY.nd rfl (Or.inl rfl)) Zk)))
    (zz (yP (zN Yu (pv 10) vC (zV _))
     (zp (qJ (i:=9) (show CScope (zu zP) _ "one" ["rule","n","base","figures","size","steps","rows","total","many","some","stand","at","figure"] [] [] from {}) rfl zY.nd rfl (Or.inl rfl) (ql K (xg (jP K) (Yj P w (tL hr) (pv 5) (pv 10) (λ_ _=>rfl)) (xG (yR YB (by rfl) T.n_int boot_int (zf (qG (ur Wb (pv 11) zy (zV _)) (qW (ur za7 (pv 4) zy (zV _)))) zj))) (xG (pv 12)))) (λ_ _ _ _=>(vK (zN Yu (pv 0) vC (zV _)))) (λ_ _ _ _=>(pv 0))) q3.p)
     ye))) q1.p⟩
  let q5:Sq XX ((zq zP).drop 6):=⟨_,zp (zG (i:=10) zY.nd rfl (Or.inl rfl) (wu zj)) q4.p⟩
  let q6:Sq XX ((sb (zq zP) 5 true).drop 1):=⟨_,zz (zG (i:=7) zY.nd rfl (Or.inl rfl) (zO wK (pv 7) (zA (zcG K rfl) (by rfl) U.n_sum boot_sum (zf (yx (show CScope (zu zP) _ "one" ["rule","n","base","figures","size","steps","rows","total","many","some","stand","at","figure"] ["rows","many"] [6,8] from {}) rfl (ql K (pv 9)) (λ_ _ _ _=>yQ) (λ_ _ _ _=>(Yj P w (tL hr) (zR (yo K) (pv 1) (zO Xr (pv 2) zy) (λ_ _=>rfl)) (pv 0) (λ_ _=>rfl)))) zj))))⟩
  let q7:Sq XX ((zq zP).drop 5):=⟨_,zp (uB PassesOwn.never rfl (Jq rfl T.n_range (zf zy (zf (pv 4) zj))) (yh (i:=8) zY.nd rfl (Or.inr rfl))
    (zp (qJ (i:=9) (show CScope (zu zP) _ "one" ["rule","n","base","figures","size","steps","rows","total","many","some","stand","at","figure"] [] [] from {}) rfl zY.nd rfl (Or.inl rfl) (ql K (xg (jP K) (Yj P w (tL hr) (pv 5) (wu zj) (λ_ _=>rfl)) (xG (yR YB (by rfl) T.n_int boot_int (zf (ur za7 (pv 8) zy (zV _)) zj))) wZ)) (λ_ _ _ _=>(vK (zN Yu (pv 0) vC (zV _)))) (λ_ _ _ _=>(pv 0))) q6.p)) q5.p⟩
  let q8:Sq XX ((zq zP).drop 4):=⟨_,zp (zG (i:=7) zY.nd rfl (Or.inl rfl) zy) q7.p⟩
  let q9:Sq XX ((zq zP).drop 3):=⟨_,zp (Xp (zK Zg zbI (hr.mono (by decide)) (zf (pv 0) (zf (pv 4) zj))) (XC rfl (xN (yh (i:=5) zY.nd rfl (Or.inl rfl)) (xN (yh (i:=6) zY.nd rfl (Or.inr rfl)) Zk)))) q8.p⟩
  let q10:Sq XX ((zq zP).drop 2):=⟨_,zp (zG (i:=4) zY.nd rfl (Or.inr rfl) (zA (xZ K) (by rfl) T.n_len PySem.boot_len (zf (pv 3) zj))) q9.p⟩
  let q11:Sq XX ((zq zP).drop 1):=⟨_,zp (zG (i:=3) zY.nd rfl (Or.inl rfl) (zK uQ Qk (hr.mono (by decide)) (zf (pv 2) (zf (pv 1) zj)))) q10.p⟩
  refine⟨_,(zp (zG (i:=2) zY.nd rfl (Or.inl rfl) (zR (vB K) (pv 0) zy (λ_ _=>rfl))) q11.p),?_⟩;refine⟨_,rfl,r,_,_,V.int b,rfl,rfl,SqT.of R.tu,rfl,?_⟩;refine⟨_,rfl,_,rfl,b,n,rfl,b2,b16,Nat.lt_of_lt_of_le hn (Nat.pow_le_pow_right (by decide) (by decide)),λl H1 hl hL s1=>?_⟩;obtain⟨L,eL⟩:∃L,(figs b n).length=L:=⟨_,rfl⟩
  have hL100:L<=101:=by rw[<-eL];exact ZZ b2 100 n hn
  have hL1:1<=L:=by rw[<-eL];exact List.length_pos_iff.mpr zcx
  refine⟨_,rfl,l,_,rfl,.inl (SqL.of hL),?_⟩;rw[List.length_map,eL];refine⟨_,rfl,_,rfl,r,b,bl,zs,L,rfl,R.same s1,g,hL100,λwt fo ra kvs rs M H2 hwt s2 W=>?_⟩;refine⟨wt,_,rfl,SqT.of hwt,rfl,_,_,rfl,_,_,rfl,rfl,?_⟩;have hL2:=s2 _ _ hL;have s02:=s1.trans s2;refine⟨_,rfl,1,_,rfl,by omega,?_⟩;rw[show ((L:Int)-1).toNat=L-1 by omega];have vM:∀{x},M x->∃v,yJ kvs (kI x)=some v:=λ{x} hx=>by
   cases e:yJ kvs (kI x) with
   |none=>exact absurd e ((W.e x).mp hx)
   |some v=>exact⟨v,rfl⟩
  refine vm (lo:=1) (n:=L-1) (λi σ Hc=>∃(v8 v9:Option V),σ=[some (.ref r),some (.int n),some (.int b),some (.ref l),some (.int L),some (.ref fo),some (.ref ra),some (.int ((if i=0 then 0 else ux (zs.map (·.2)) b i:Nat):Int)),v8,v9,none,none,none]/\Same H2 Hc) ⟨none,none,rfl,Same.refl _⟩ ?_ ?_
  ·rintro i σ Hc hi ⟨v8,v9,rfl,sc⟩;obtain⟨v,hv⟩:=vM W.c.1;refine⟨_,rfl,(by decide:0<=sizeLine),λe0 he0=>?_⟩;have m1:=zm he0 (o:=.tup []);have sc1:=sc.trans m1;obtain⟨la,us,rfl,_,St⟩:=(W.s.same sc1).get hv;refine⟨fo,kvs,kI [],e0,.ref la,rfl,(W.s.same sc1).d,rfl,zg,hv,?_⟩;obtain⟨a,ha,hab⟩:∃a:Nat,(if decide ((1:Int)<1+(i:Int))=true then (1:Int) else 0)=(a:Int)/\a=if i=0 then 0 else 1:=⟨_,by by_cases z:i=0<;>simp[z]<;>omega,rfl⟩
   refine⟨_,rfl,_,_,rfl,rfl,.inr ⟨_,rfl,_,rfl,?_⟩⟩;dsimp only;rw[ha];refine⟨la,us,rfl,SqL.of St.li,λp hp=>?_⟩;rw[qw,show us.drop a=(us.drop a).take (b-a) by rw[List.take_of_length_le (by rw[List.length_drop,St.ln];exact Nat.le_refl _)]];have m2:=zm hp (o:=.lst ((us.drop a).take (b-a)));have A2:=(St.ok.cut a (b-a)).same λc us e=>m2 _ _ e;have hul:((us.drop a).take (b-a)).length=b-a:=by rw[List.length_take,List.length_drop,St.ln];omega
   refine⟨p,rfl,⟨_,SqL.of zg⟩,XQ zg A2 (by rw[hul];omega) (λv R r=>⟨_,rfl,rfl,_,rfl,r⟩) (λe=>.ref e.1) (λe _ _ R r=>⟨_,rfl,r⟩) λes he1 he2 D1 hD1=>?_⟩;rw[hul]at he2;have hab':a+(b-a)<=b:=by rw[hab];split<;>omega
   have m3:=zm hD1 (o:=.lst (es.map λe=>V.ref e.1));have hes:es.length<=100:=by have:=congrArg List.length he2;have h3:=Wf (zs.map (·.2)) [] a (b-a);rw[List.length_map]at this;omega
   have sc3:=(sc1.trans m2).trans m3;have W3:=W.r.same sc3;obtain⟨lr,hlr⟩:∃lr,rs[i]?=some lr:=⟨_,List.getElem?_eq_getElem (by have:=W.l;omega)⟩
   obtain⟨kr,dr,kr2⟩:=W3.ok i lr hlr;refine⟨_,rfl,_,rfl,D1,rfl,⟨_,SqL.of zg⟩,za2 (F:=cnt (zs.map (·.2)) b i) zg hes (λe he R r=>?_) λD2 hD2=>?_⟩
   ·exact⟨_,rfl,_,rfl,_,_,rfl,rfl,ra,_,_,.ref lr,rfl,rfl,SqL.of W3.li,by rw[show (1:Int)+(i:Int)-1=(i:Int) by omega];exact yV (by rw[List.getElem?_map,hlr];rfl),_,rfl,lr,kr,kI e.2,e.1,_,rfl,dr,rfl,by rw[U9];exact m3 _ _ (he1 e he),kr2 _ (W.c.2 _ W.c.1 _ (za1 hab' (by rw[<-he2];exact List.mem_map.mpr ⟨e,he,rfl⟩))),r⟩
   refine⟨D2,_,rfl,SqL.of zg,_,_,rfl,rfl,some (.int (1+(i:Int))),some (.ref D1),?_,sc3.trans (zm hD2)⟩;dsimp only;rw[zar he2,<-Int.natCast_add,show (if i=0 then 0 else ux (zs.map (·.2)) b i)+jW (zs.map (·.2)) b i [] a (b-a)=if i+1=0 then 0 else ux (zs.map (·.2)) b (i+1) by
    rw[if_neg (show ¬ i+1=0 by omega),<-Um _ b2,hab];by_cases z:i=0
    ·subst z;have hs:=zhk (zs.map (·.2)) b2 (b-1);rw[show b-1+1=b by omega]at hs;rw[if_pos rfl,if_pos rfl,Nat.zero_add,Nat.sub_zero,hs];rfl
    ·rw[if_neg z,if_neg z];rfl]
   rfl
  ·rintro σ Hc ⟨v8,v9,rfl,sc⟩;refine⟨(by decide:0<=sizeLine),λe1 he1=>?_⟩;have m5:=zm he1 (o:=.tup []);have sc5:=sc.trans m5;have he15:(upd Hc e1 (.tup [])) e1=some (.tup (([]:List Int).map V.int)):=zg;generalize upd Hc e1 (.tup [])=H5 at sc5 he15;have hL5:=sc5 _ _ hL2;have W5:=W.s.same sc5;have R5:=W.r.same sc5;refine⟨_,rfl,l,rfl,⟨_,SqL.of hL5⟩,zef (K:=K) (a:=l) (xs:=(figs b n).map V.int) (λk σ Hc=>∃(sv:V) (tot:Nat) (o:Option (List Int)) (v8 v9 v11 v12:Option V),σ=[some (.ref r),some (.int n),some (.int b),some (.ref l),some (.int L),some (.ref fo),some (.ref ra),some (.int (tot:Int)),v8,v9,some sv,v11,v12]/\((k=0/\o=some []/\tot=if L=1 then 0 else ux (zs.map (·.2)) b (L-1))\/1<=k/\(n=0/\tot=0\/0<n/\PartN (zs.map (·.2)) b n L k o tot))/\AftV Hc o sv/\(∀x,o=some x->M x)/\Same H5 Hc)
    ⟨.ref e1,_,some [],_,_,none,none,by rw[show (if L-1=0 then 0 else ux (zs.map (·.2)) b (L-1))=if L=1 then 0 else ux (zs.map (·.2)) b (L-1) by by_cases z:L=1<;>simp[z]<;>omega];rfl,.inl ⟨rfl,rfl,rfl⟩,⟨e1,rfl,he15⟩,λx e=>by cases e;exact W.c.1,Same.refl _⟩ (λk σ Hc _ ⟨_,_,_,_,_,_,_,_,_,_,_,s⟩=>SqL.of (s _ _ hL5)) ?_ ?_⟩
   ·rintro k z σ Hc tq hkz ⟨sv,tot,o,v8,v9,v11,v12,rfl,pN,av,ist,sc⟩ htq;rw[List.getElem?_map]at hkz;obtain⟨ci,hki,e⟩:=Option.map_eq_some_iff.mp hkz;subst e;have hkL:k<L:=by rw[<-eL];exact (List.getElem?_eq_some_iff.mp hki).1
    obtain⟨c,rfl,hcb⟩:∃c:Nat,ci=(c:Int)/\c<b:=by
     have:=zeX b2 n ci (List.mem_of_getElem? hki);exact⟨ci.toNat,by omega,by omega⟩
    have m6:=zm htq (o:=.tup [.int (k:Nat),.int c]);have s56:=sc.trans m6;refine⟨tq,_,rfl,SqT.of zg,rfl,_,_,rfl,_,_,rfl,rfl,?_⟩;have av6:=av.same λb xs e=>m6 _ _ e;generalize upd Hc tq (.tup [.int (k:Nat),.int c])=H6 at s56 av6;cases o with
    |none=>
     obtain rfl:sv=.non:=av6;refine⟨_,rfl,rfl,_,rfl,zeG (by rw[decide_eq_true rfl];rfl) ⟨_,tot,none,_,_,_,_,rfl,.inr ⟨by omega,?_⟩,rfl,(λx e=>by cases e),s56⟩⟩;rcases pN with ⟨_,z,_⟩ | ⟨_,z | ⟨h,p⟩⟩
     ·cases z
     ·exact .inl z
     ·refine .inr ⟨h,?_⟩;rcases p with ⟨_,z,_⟩ | ⟨_,_,z,_⟩ | ⟨_,_,h3⟩
      ·cases z
      ·cases z
      ·exact .inr (.inr ⟨by omega,rfl,h3⟩)
    |some x=>
    obtain⟨sa,rfl,hsa⟩:=av6;have hx:=ist x rfl;obtain⟨v,hv⟩:=vM hx;have W6:=W5.same s56;obtain⟨la,us,rfl,_,St⟩:=W6.get hv;refine⟨_,rfl,rfl,_,rfl,zct (by rw[decide_eq_false (λz=>by cases z)];rfl) ?_⟩;refine⟨_,rfl,_,rfl,fo,kvs,kI x,sa,.ref la,rfl,W6.d,rfl,by rw[U9];exact hsa,hv,?_⟩;refine and_int (k:=k) (L:=L) (λR r=>⟨_,rfl,r⟩) (λR r=>⟨_,rfl,r⟩) ⟨_,rfl,_,rfl,_,rfl,la,us,rfl,SqL.of St.li,λp hp=>?_⟩;obtain⟨a,ha⟩:∃a:Nat,a=if k=0/\1<L then 1 else 0:=⟨_,rfl⟩
    rw[<-ha];rw[zbo];have m7:=zm hp (o:=.lst ((us.drop a).take (c-a)));have A7:=(St.ok.cut a (c-a)).same λc us e=>m7 _ _ e;have hul:((us.drop a).take (c-a)).length=c-a:=by rw[List.length_take,List.length_drop,St.ln];omega
    refine⟨p,rfl,⟨_,SqL.of zg⟩,XQ zg A7 (by rw[hul];omega) (λv R r=>⟨_,rfl,rfl,_,rfl,r⟩) (λe=>.ref e.1) (λe _ _ R r=>⟨_,rfl,r⟩) λes he1 he2 D1 hD1=>?_⟩;rw[hul]at he2;have m8:=zm hD1 (o:=.lst (es.map λe=>V.ref e.1));have hes:es.length<=100:=by have:=congrArg List.length he2;have h3:=Wf (zs.map (·.2)) x a (c-a);rw[List.length_map]at this;omega
    have R8:=R5.same (s56.trans (m7.trans m8));obtain⟨lr,hlr⟩:∃lr,rs[L-1-k]?=some lr:=⟨_,List.getElem?_eq_getElem (by have:=W.l;omega)⟩
    obtain⟨kr,dr,kr2⟩:=R8.ok _ lr hlr;have ha1:a<=1:=by rw[ha];split<;>omega
    refine⟨_,rfl,_,rfl,D1,rfl,⟨_,SqL.of zg⟩,za2 (F:=cnt (zs.map (·.2)) b (L-1-k)) zg hes (λe he R r=>?_) λD2 hD2=>?_⟩
    ·exact⟨_,rfl,_,rfl,_,_,rfl,rfl,_,rfl,_,_,rfl,rfl,ra,_,_,.ref lr,rfl,rfl,SqL.of R8.li,by rw[show (L:Int)-1-(k:Int)=((L-1-k:Nat):Int) by omega];exact yV (by rw[List.getElem?_map,hlr];rfl),_,rfl,lr,kr,kI e.2,e.1,_,rfl,dr,rfl,by rw[U9];exact m8 _ _ (he1 e he),kr2 _ (W.c.2 _ hx _ (za1 (a:=a) (n:=c-a) (by omega) (by rw[<-he2];exact List.mem_map.mpr ⟨e,he,rfl⟩))),r⟩
    have m9:=zm hD2 (o:=.lst ((es.map λe=>((cnt (zs.map (·.2)) b (L-1-k) e.2:Nat):Int)).map V.int));have s69:=(m7.trans m8).trans m9;refine⟨D2,_,rfl,SqL.of zg,_,_,rfl,rfl,?_⟩;dsimp only;rw[zar he2,<-Int.natCast_add];generalize upd (upd (upd H6 p (.lst ((us.drop a).take (c-a)))) D1 (.lst (es.map λe=>V.ref e.1))) D2 (.lst ((es.map λe=>((cnt (zs.map (·.2)) b (L-1-k) e.2:Nat):Int)).map V.int))=H9 at s69;have St9:StepAt H9 (zs.map (·.2)) b x la us:=St.keep (by rw[St.li];exact s69 _ _ St.li) λc zs h=>s69 _ _ h;obtain⟨v',hv'⟩:∃v',us[c]?=some v':=⟨_,List.getElem?_eq_getElem (by rw[St.ln];exact hcb)⟩
    have av9:=St9.ok c v' hv';rw[Nat.zero_add]at av9;refine⟨_,rfl,_,rfl,fo,kvs,kI x,sa,.ref la,rfl,(W6.same s69).d,rfl,by rw[U9];exact s69 _ _ hsa,hv,_,rfl,la,_,_,v',rfl,rfl,SqL.of St9.li,yV hv',?_⟩;refine⟨v',_,aft (zs.map (·.2)) x c,_,_,_,_,rfl,.inr ⟨by omega,?_⟩,av9,(λy hy=>W.c.2 _ hx _ (List.mem_filterMap.mpr ⟨c,List.mem_range.mpr hcb,by rw[Nat.zero_add];exact hy⟩)),s56.trans s69⟩;have f0:figs b 0=[0]:=by rw[Ys b2];simp[ahead]
    by_cases hn0:n=0
    ·subst hn0;rw[f0]at hki eL;obtain rfl:1=L:=eL;obtain rfl:k=0:=by omega
     obtain rfl:c=0:=by simp at hki;omega
     refine .inl ⟨rfl,?_⟩;rcases pN with ⟨_,_,h⟩ | ⟨h,_⟩
     ·rw[h,if_pos rfl,show 0-a=0 from Nat.zero_sub a];rfl
     ·omega
    ·refine .inr ⟨by omega,?_⟩;rcases pN with ⟨rfl,ex,ht⟩ | ⟨hk,⟨z,_⟩ | ⟨h0,p⟩⟩
     ·cases ex;obtain⟨_,hc1,q⟩:=PartN.next ne b2 (show 0<n by omega) eL hkL (.inl ⟨rfl,rfl,rfl⟩) hki
      rw[if_pos rfl,Nat.sub_zero]at q;have hc1:=hc1 rfl;rw[ht,ha,Nat.sub_zero];by_cases z:L=1
      ·have hs:=zhk (zs.map (·.2)) b2 (c-1);rw[show c-1+1=c by omega]at hs;rw[if_pos z,if_neg (by omega),Nat.sub_zero,Nat.zero_add,show L-1=0 by omega,hs,Nat.zero_add];rwa[show L-1=0 by omega]at q
      ·rw[if_neg z,if_pos ⟨rfl,by omega⟩];exact q
     ·exact absurd z hn0
     ·obtain⟨_,_,q⟩:=p.next ne b2 h0 eL hkL hki;rw[if_neg (show ¬ k=0 by omega)]at q;rw[ha,if_neg (by omega)];exact q
   ·rintro σ Hc ⟨sv,tot,o,v8,v9,v11,v12,rfl,pN,av,ist,sc⟩;have q:=kk Hc ((s02.trans sc5).trans sc);rw[List.length_map,eL]at pN;rw[<-show tot=many (gd (zs.map (·.2)) b) n by
     rcases pN with ⟨z,_⟩ | ⟨_,⟨z,z2⟩ | ⟨_,p⟩⟩
     ·omega
     ·rw[z,z2];rfl
     ·exact p.done hL1]at q
    exact⟨_,rfl,q⟩
def Yg:Sp:=λvs H Q _=>∃s:Addr,vs=[.ref s]/\Sto H s/\∀(n:Nat) (H':Hp),n<2^100->Stq s H H'->Q (.int n) H'
theorem ue:zE ["store","found","k"] ["store"] (zu wG):={}
theorem Qi(D:Df K mg "_law_number" wG Ad f fd)(zB:Df K mg "_law_take" yf Ae f1 fd1)(T:Blt mg):FnOk P w K mg base CX0 2 f fd Ad Yg:=by
 have zM:FnOk P w K mg base CX0 1 f1 fd1 Ae xO:=vg zB T;refine D.fn.ok ue (λvs H Q E h=>?_) (λcdv A outer s H vs Q E hr h=>?_)
 ·obtain⟨s,rfl,_⟩:=h;rfl
 ·obtain⟨sa,rfl,S,kk⟩:=h;refine xm ?_;intro XX;let q1:Sq XX ((zq wG).drop 2):=⟨_,zz (zH (pv 1))⟩
  let q2:Sq XX ((zq wG).drop 1):=⟨_,zp (uB PassesOwn.never rfl (yK rfl T.n_range (zf (zO wK zy (zK zB zM (hr.mono (by decide)) (zf (pv 0) (zf (zR (yo K) (yc (zf zy (zf zy (zf zy (zf zy zj))))) (zK zB zM (hr.mono (by decide)) (zf (pv 0) (zf zy zj))) (λ_ _=>rfl)) zj)))) zj)) (yh (i:=2) ue.nd rfl (Or.inl rfl))
    (zz (zG (i:=1) ue.nd rfl (Or.inl rfl) (zO wK (zO Zm (pv 1) zy) (zK zB zM (hr.mono (by decide)) (zf (pv 0) (zf zy zj))))))) q1.p⟩
  refine⟨_,(zp (zG (i:=1) ue.nd rfl (Or.inl rfl) zy) q2.p),?_⟩;refine⟨_,rfl,?_⟩;refine⟨(by show 4<=sizeLine;decide),λl1 hl1=>?_⟩;have n1:=S.ne hl1;have S1:=(Stq.refl S).new hl1 (o:=.lst [.int 2,.int 4,.int 9,.int 26]);refine⟨_,rfl,sa,_,rfl,S1.st,(by decide),(by decide),λx1 H2 hx1 S2=>?_⟩;obtain⟨m,hm,hm1,hm2⟩:∃m:Nat,atI [V.int 2,V.int 4,V.int 9,V.int 26] (x1:Int)=some (.int m)/\2<=m/\m<=26:=by
   have h4:x1<4:=by omega
   match x1,h4 with
   |0,_=>exact⟨2,rfl,by omega,by omega⟩
   |1,_=>exact⟨4,rfl,by omega,by omega⟩
   |2,_=>exact⟨9,rfl,by omega,by omega⟩
   |3,_=>exact⟨26,rfl,by omega,by omega⟩
  refine⟨l1,_,_,_,rfl,rfl,SqL.of (S2.sm _ _ n1 zg),hm,?_⟩;refine⟨sa,_,rfl,S2.st,by omega,by omega,λx2 H3 hx2 S3=>?_⟩;refine⟨1,x2,rfl,rfl,?_⟩;refine⟨(1+(x2:Int)),rfl,by omega,by omega,vm (lo:=0) (n:=(1+(x2:Int)).toNat) (λi σ H4=>∃(v1:Option V) (n:Nat),σ=[some (.ref sa),some (.int n),v1]/\n<10^i/\Stq sa H H4) ⟨none,0,rfl,by decide,(S1.trans S2).trans S3⟩ ?_ ?_⟩
  ·rintro i σ H4 hi ⟨v1,n,rfl,hn,S4⟩;refine⟨_,rfl,_,_,rfl,rfl,.inr ⟨by decide,by decide⟩,_,rfl,sa,_,rfl,S4.st,(by decide),(by decide),λx3 H5 hx3 S5=>⟨_,_,rfl,rfl,some (.int (0+(i:Int))),n*10+x3,?_,?_,S4.trans S5⟩⟩
   ·show [some (V.ref sa),some (V.int ((n:Int)*10+x3)),some (V.int (0+(i:Int)))]=_;rw[show ((n:Int)*10+x3)=((n*10+x3:Nat):Int) by omega]
   ·rw[Nat.pow_succ];omega
  ·rintro σ H4 ⟨v1,n,rfl,hn,S4⟩;refine⟨_,rfl,kk n H4 ?_ S4⟩;have h1:(10:Nat)^(1+(x2:Int)).toNat<=10^26:=Nat.pow_le_pow_right (by decide) (by omega);have h2:(10:Nat)^26<2^100:=by decide
   omega
def Vr(b:Nat)(ls:ZA):Tr:=.tup [.int b,.lst (ls.map yN)]
theorem Q3(b:Nat)(ls:ZA):vG (Vr b ls)<=8:=by
 unfold Vr;rw[vG,xq,xq,xq,vG,vG]
 ·have:=wg ls;omega
 all_goals (intros;rename_i z;cases z)
theorem TrAt.rule(R:RuleAt H r b bl zs):TrAt K H (Vr b (zs.map (·.2))) (.ref r):=by
 unfold Vr;rw[TrAt];refine⟨r,_,rfl,SqT.of R.tu,?_⟩;rw[TrsAt];refine⟨_,_,rfl,by rw[TrAt],?_⟩;rw[TrsAt];refine⟨_,_,rfl,?_,by rw[TrsAt]⟩;rw[TrAt];exact⟨bl,_,rfl,SqL.of R.li,TrsAt.lists R.st⟩
end
theorem zfG{K:W.Frag}{g:TG}{tb:TS}{D:Ends}(Pv:Nat->L2.St->Hp->Prop)(hlen:xs.length=ys.length)(h0:Pv 0 σ H)(hl:∀i σ H,i<=xs.length->Pv i σ H->SqL K H a xs/\SqL K H b ys)(hs:∀i x y σ H T,xs[i]?=some x->ys[i]?=some y->Pv i σ H->H T=none->g (.ref T) σ (upd H T (.tup [x,y])) fun σ2 H2=>tb { D with nx:=Pv (i+1),ct:=Pv (i+1),bk:=D.nx } σ2 H2)(hd:∀σ H,Pv xs.length σ H->D.nx σ H):
  ∃W:Nat->Nat->L2.St->Hp->Prop,(∃m,W 0 m σ H)/\∀i m σ H,W i m σ H ->
   ((Itz K a b).stop i H/\D.nx σ H)\/((Itz K a b).go i H/\∃N:L2.St->Hp->Prop,(∀σ' H',N σ' H'->∃m',m'<m/\W (i+1) m' σ' H')/\∀x H',(Itz K a b).yld i H x H'->g x σ H' fun σ2 H2=>tb { D with nx:=N,ct:=N,bk:=D.nx } σ2 H2):=by
 refine⟨λi m σ H=>m=xs.length-i/\i<=xs.length/\Pv i σ H,⟨xs.length,by simp,Nat.zero_le _,h0⟩,?_⟩;rintro i m σ H ⟨rfl,hi,p⟩;obtain⟨q1,q2⟩:=hl i σ H hi p;by_cases hlt:i<xs.length
 ·have hx:xs[i]?=some xs[i]:=List.getElem?_eq_getElem hlt;have hy:ys[i]?=some (ys[i]'(by omega)):=List.getElem?_eq_getElem (by omega);refine .inr ⟨⟨xs,ys,_,_,q1,q2,hx,hy⟩,Pv (i+1),fun σ' H' p'=>⟨xs.length-(i+1),by omega,rfl,hlt,p'⟩,λv H' yl=>?_⟩;obtain⟨T,x,y,rfl,hT,rfl,k1,k2⟩:=yl;have e1:=k1 xs q1;have e2:=k2 ys q2;rw[hx]at e1;rw[hy]at e2;cases e1
  cases e2;exact hs i _ _ σ H T hx hy p hT
 ·have e:i=xs.length:=by omega
  subst e;exact .inl ⟨⟨xs,ys,q1,q2,.inl (Nat.le_refl _)⟩,hd σ H p⟩
theorem Zr(h:Q [] H):W0 σ H Q:=h
abbrev Ru:=Addr×Addr×ZB
structure RuL (Hb:Hp) (X:List Addr) (b:Nat) (ks:List Kp) (rl:Addr) (rs:List Ru):Prop where
 li:Hb rl=some (.lst (rs.map λr=>V.ref r.1))
 ln:rs.length=ks.length
 ok:∀(i:Nat) q r,ks[i]?=some q->rs[i]?=some r->RuX Hb X r.1 b r.2.1 r.2.2/\r.2.2.map (·.2)=q.ls
theorem RuL.same(R:RuL Hb X b ks rl rs)(m:Same Hb Hb'):RuL Hb' X b ks rl rs:=⟨m _ _ R.li,R.ln,λi q r h h'=>⟨(R.ok i q r h h').1.same m,(R.ok i q r h h').2⟩⟩
theorem RuL.put(R:RuL Hb X b ks rl rs)(hx:rl∈X)(hi:ks[i]?=some q)(R2:RuX Hb X r.1 b r.2.1 r.2.2)(e:r.2.2.map (·.2)=q'.ls):RuL (upd Hb rl (.lst ((rs.map λr=>V.ref r.1).set i (.ref r.1)))) X b (ks.set i q') rl (rs.set i r):=by
 have hil:=(List.getElem?_eq_some_iff.mp hi).1;refine⟨by rw[zg,List.map_set],by rw[List.length_set,List.length_set,R.ln],λj q2 r2 h h'=>?_⟩;by_cases z:i=j
 ·subst z;rw[List.getElem?_set_self hil]at h;rw[List.getElem?_set_self (by rw[R.ln];exact hil)]at h';cases h
  cases h';exact⟨R2.poke hx,e⟩
 ·rw[List.getElem?_set_ne z]at h h';exact⟨(R.ok j q2 r2 h h').1.poke hx,(R.ok j q2 r2 h h').2⟩
theorem RuL.poke(R:RuL Hb X b ks rl rs)(hc:c∈X)(hn:rl≠c):RuL (upd Hb c o) X b ks rl rs:=⟨by rw[zr hn];exact R.li,R.ln,λi q r h h'=>⟨(R.ok i q r h h').1.poke hc,(R.ok i q r h h').2⟩⟩
section
variable {P:Program} {w:World} {K:W.Frag} {mg:Str->Option Value} {base:Heap} {T0 C CK:Addr}
def Xb(T0 C CK:Addr):Sp:=λvs H Q _=>Ex6 λkl rl s X Hb b=>Ex3 λ(n:Nat) (ks:List Kp) (rs:List Ru)=>vs=[.ref kl,.ref rl,.int n]/\Grp T0 C CK Hb H X s b ks/\Hb kl=some (.lst (ks.map λq=>V.ref q.k))/\RuL Hb X b ks rl rs/\n<2^100/\∀Hb' H',Grp T0 C CK Hb' H' X s b ks->Same Hb Hb'->Q (.bl true) H'
theorem jz:zE ["keepers","rules","n","keeper","rule"] ["keepers","rules","n"] (zu uA):={}
set_option maxHeartbeats 0 in
theorem Qu(D:Df K mg "_law_stand" uA Ba f fd)(MKeeper_rule:Mt K CK "Keeper.rule" "rule" vH Am f1 fd1)(GKeeper_rule:FnOk P w K mg base CX0 2 f1 fd1 Am (VH C CK))(MKeeper_below:Mt K CK "Keeper.below" "below" wU Ah f2 fd2)(GKeeper_below:FnOk P w K mg base CX0 5 f2 fd2 Ah (j6 T0 C CK))(cKeeper:ClK K mg CK)(wj:Df K mg "_law_below" zP Aq f3 fd3)(wW:FnOk P w K mg base CX0 3 f3 fd3 Aq (jF P w))(T:Blt mg)(U:Qt mg):FnOk P w K mg base CX0 6 f fd Ba (Xb T0 C CK):=by
 refine D.fn.ok jz (λvs H Q E h=>?_) (λcdv A outer s H vs Q E hr h=>?_)
 ·obtain⟨kl,rl,s,X,Hb,b,n,ks,rs,rfl,_⟩:=h;rfl
 ·obtain⟨kl,rl,s,X,Hb,b,n,ks,rs,rfl,G,hkl,R,hn,kk⟩:=h;have HU:=YH hr;have hn9:n<2^900:=Nat.lt_of_lt_of_le hn (Nat.pow_le_pow_right (by decide) (by decide));refine xm ?_;intro XX;let q1:Sq XX ((zq uA).drop 1):=⟨_,zz (zH qN)⟩
  refine⟨_,(zp (uB PassesOwn.never rfl (zdO K rfl U.n_zip (zf (pv 0) (zf (pv 1) zj))) (XC rfl (xN (yh (i:=3) jz.nd rfl (Or.inl rfl)) (xN (yh (i:=4) jz.nd rfl (Or.inl rfl)) Zk)))
    (zz (yP (PW.pt (Wh (zN (Y7 K HU) (zep MKeeper_rule cKeeper.cl GKeeper_rule (hr.mono (by decide)) (pv 3)) (pv 4) (zV _)) (Z3 (zN zfe (Xc MKeeper_below cKeeper.cl GKeeper_below (hr.mono (by decide)) (pv 3) (zf (pv 2) zj)) (zK wj wW (hr.mono (by decide)) (zf (pv 4) (zf (pv 2) zj))) (zV _)))))
     (zz (zH qN))
     ye))) q1.p),?_⟩
  refine⟨_,rfl,_,rfl,kl,rl,rfl,⟨_,SqL.of (G.base _ _ hkl)⟩,⟨_,SqL.of (G.base _ _ R.li)⟩,zfG (K:=K) (a:=kl) (b:=rl) (xs:=ks.map λq=>V.ref q.k) (ys:=rs.map λr=>V.ref r.1) (λi σ H2=>∃(Hb2:Hp) (v3 v4:Option V),σ=[some (.ref kl),some (.ref rl),some (.int n),v3,v4]/\Grp T0 C CK Hb2 H2 X s b ks/\Same Hb Hb2) (by rw[List.length_map,List.length_map,R.ln]) ⟨Hb,none,none,rfl,G,Same.refl _⟩ (λi σ H2 _ ⟨Hb2,_,_,_,G2,m2⟩=>⟨SqL.of (G2.base _ _ (m2 _ _ hkl)),SqL.of (G2.base _ _ (m2 _ _ R.li))⟩) ?_ ?_⟩
  ·rintro i x y σ H2 tq hx hy ⟨Hb2,v3,v4,rfl,G2,m2⟩ htq;rw[List.getElem?_map]at hx hy;obtain⟨q,hq,rfl⟩:=Option.map_eq_some_iff.mp hx;obtain⟨r,hr',rfl⟩:=Option.map_eq_some_iff.mp hy;obtain⟨RX,e⟩:=(R.same m2).ok i q r hq hr';have m3:=zm htq (o:=.tup [.ref q.k,.ref r.1]);have G3:=G2.same m3;refine⟨tq,_,rfl,SqT.of zg,rfl,_,_,rfl,_,_,rfl,rfl,?_⟩;generalize upd H2 tq (.tup [.ref q.k,.ref r.1])=H3 at G3;obtain⟨dx,kbl,ktl,hk⟩:=(G3.so i q hq).ob;refine⟨_,rfl,q.k,dx,_,rfl,hk,uK _ _ _ _,Zr ?_⟩;refine G3.rule hq λr2 bl2 zs2 Hb4 H4 R2 e2 G4 mb=>?_;have R4:=(RX.same mb).ru;refine⟨_,rfl,Vr b (zs2.map (·.2)),Vr b (r.2.2.map (·.2)),TrAt.rule (R2.same G4.base),TrAt.rule (R4.same G4.base),Q3 _ _,_,rfl,?_⟩;rw[if_pos rfl,e2,e,jT];refine yr ?_;obtain⟨dx4,kbl4,ktl4,hk4⟩:=(G4.so i q hq).ob;refine⟨_,rfl,q.k,dx4,_,rfl,hk4,uK _ _ _ _,_,rfl,Zr ?_⟩;refine G4.below hq hn9 λH5 G5=>?_;refine⟨_,rfl,_,rfl,r.1,b,r.2.1,r.2.2,n,rfl,R4.same G5.base,by rw[e];exact G5.good_rule hq,hn,λH6 m6=>?_⟩;rw[e];exact⟨rfl,_,rfl,zd3 (by simp) ⟨Hb4,_,_,rfl,G5.same m6,m2.trans mb⟩⟩
  ·rintro σ H2 ⟨Hb2,v3,v4,rfl,G2,m2⟩;exact kk Hb2 H2 G2 m2
end
section
variable {P:Program} {w:World} {K:W.Frag} {mg:Str->Option Value} {base:Heap}
def Wq:Sp:=λvs H Q _=>∃s:Addr,vs=[.ref s]/\Sto H s/\∀r b bl zs H',Stq s H H'->RuleAt (aw [s] H') r b bl zs->GoodRule b (zs.map (·.2))->Q (.ref r) H'
theorem XM:zE ["store","base"] ["store"] (zu tE):={}
theorem J2(D:Df K mg "_law_rule" tE Ad f fd)(zB:Df K mg "_law_take" yf Ae f1 fd1)(yj:Df K mg "_law_stretch" yG Aj f2 fd2)(uG:Df K mg "_law_base" tD Ad f3 fd3)(qu:Df K mg "_law_bad" xR An f4 fd4)(T:Blt mg):FnOk P w K mg base CX0 4 f fd Ad Wq:=by
 have zch:FnOk P w K mg base CX0 2 f3 fd3 Ad Wy:=JC uG zB T;have zdt:FnOk P w K mg base CX0 3 f4 fd4 An Vs:=zaC qu zB yj T;refine D.fn.ok XM (λvs H Q E h=>?_) (λcdv A outer s H vs Q E hr h=>?_)
 ·obtain⟨s,rfl,_⟩:=h;rfl
 ·obtain⟨sa,rfl,S,kk⟩:=h;refine xm ?_;intro XX;let q1:Sq XX ((zq tE).drop 1):=⟨_,zz (zH (wu (zf (pv 1) (zf (zK qu zdt (hr.mono (by decide)) (zf (pv 0) (zf (pv 1) zj))) zj))))⟩
  refine⟨_,(zp (zG (i:=1) XM.nd rfl (Or.inl rfl) (zK uG zch (hr.mono (by decide)) (zf (pv 0) zj))) q1.p),?_⟩;refine⟨_,rfl,sa,rfl,S,λb H1 b2 b16 S1=>?_⟩;refine⟨_,rfl,_,rfl,_,rfl,sa,b,rfl,S1.st,b2,b16,λbl zs H2 S2 B=>⟨(by show 2<=sizeLine;decide),λr hr=>?_⟩⟩;have m3:=zm hr (o:=.tup [.int b,.ref bl]);have o:∀p,H1 p=none->p∉[sa]:=λp hp z=>S1.st.ne hp (by simpa using z);have nr:r∉[sa]:=λz=>S2.st.ne hr (by simpa using z);exact kk r b bl zs _ ((S1.trans S2).same m3) ⟨by rw[zT nr];exact zg,by rw[zT (o _ B.nl)];exact m3 _ _ B.li,λz hz=>by rw[zT (o _ (B.ns z hz))];exact m3 _ _ (B.st z hz)⟩ ⟨b2,b16,by rw[List.length_map];exact B.len,λl hl=>by
   obtain⟨z,hz,rfl⟩:=List.mem_map.mp hl;exact B.good z hz,B.up⟩
end
section
variable {T0 C CK:Addr} {H:Hp} {X:List Addr} {s:Addr} {b:Nat}
theorem Grp.init(lt:LT T0 H)(St:Sto H s)(hX:∀c∈X,(∃o,H c=some o)/\c≠T0):Grp T0 C CK (aw [T0,s] H) H X s b []:=by
 obtain⟨x,y,z,e⟩:=St;refine⟨(λi q h=>by cases h),λc hc=>?_,lt,⟨x,y,z,e⟩,λc o h=>?_⟩
 ·rcases List.mem_cons.mp hc with rfl | hc
  ·exact⟨⟨_,e⟩,lt.lst e⟩
  ·exact hX c hc
 ·have hc:c∉[T0,s]:=λz=>by rw[qZ z]at h;cases h
  rw[zT hc]at h;exact⟨h,hc⟩
end
theorem RuX.grow(R:RuX Hb X r b bl zs)(h:Hb c=none):RuX Hb (c::X) r b bl zs :=
 ⟨R.ru,λz=>(List.mem_cons.mp z).elim (zx R.ru.tu h) R.nr,λz=>(List.mem_cons.mp z).elim (zx R.ru.li h) R.nb,λy hy z=>(List.mem_cons.mp z).elim (zx (R.ru.st y hy) h) (R.nz y hy)⟩
section
variable {P:Program} {w:World} {K:W.Frag} {mg:Str->Option Value} {base:Heap} {T0 C CK:Addr}
def zal(K:W.Frag)(T:Addr):Sp:=λvs H Q _=>Ex2 λ(a:Addr) (ns:List Int)=>vs=[.ref a]/\SqL K H a (ns.map V.int)/\ns.length<=63/\LT T H/\∀H',Q (.bl true) H'
theorem vY:zE ["script","at","store","rule","bounds","handed","keepers","rules","turn","k","deed","due","found","one"] ["script"] (zu vq):={}
set_option maxHeartbeats 0 in
theorem zgD(D:Df K mg "law" vq ["script"] f fd)(Zb:Df K mg "_law_cell" uV As f1 fd1)(je:Df K mg "_law_store" vp ["cell"] f2 fd2)(zB:Df K mg "_law_take" yf Ae f3 fd3)(yj:Df K mg "_law_stretch" yG Aj f4 fd4)(qu:Df K mg "_law_bad" xR An f5 fd5)(uG:Df K mg "_law_base" tD Ad f6 fd6)(Zv:Df K mg "_law_rule" tE Ad f7 fd7)(qT:Df K mg "_law_copy" tG Af f8 fd8)(wk:Df K mg "_law_number" wG Ad f9 fd9)(Zt:Df K mg "_law_deed" jn A5 f10 fd10)(Yv:Df K mg "_law_due" xQ A6 f11 fd11)(yZ:Df K mg "_law_is_stretch" yF Ab f12 fd12)(jf:Df K mg "_law_asked" xK A8 f13 fd13)(Z6:FnOk P w K mg base CX0 11 f13 fd13 A8 (uO T0 C CK))(wj:Df K mg "_law_below" zP Aq f14 fd14)(wW:FnOk P w K mg base CX0 3 f14 fd14 Aq (jF P w))(uT:Df K mg "_law_stand" uA Ba f15 fd15)(jr:FnOk P w K mg base CX0 6 f15 fd15 Ba (Xb T0 C CK))(MKeeper_rule:Mt K CK "Keeper.rule" "rule" vH Am f16 fd16)(GKeeper_rule:FnOk P w K mg base CX0 2 f16 fd16 Am (VH C CK))(KKeeper:Mk K CK f17)(BKeeper:Binds K fd17 ["self","rule","b"] [])(GKeeper_init:FnOk P w K mg base CX0 9 f17 fd17 Ak (Yw T0 C CK))(cKeeper:ClK K mg CK)(T:Blt mg)(U:Qt mg):FnOk P w K mg base CX0 13 f fd ["script"] (zal K T0):=by
  have zck:FnOk P w K mg base CX0 1 f1 fd1 As (Wl K):=J6 Zb T;have za4:FnOk P w K mg base CX0 1 f2 fd2 ["cell"] Y0:=QL je T;have zM:FnOk P w K mg base CX0 1 f3 fd3 Ae xO:=vg zB T;have zcc:FnOk P w K mg base CX0 4 f7 fd7 Ad Wq:=J2 Zv zB yj uG qu T;have Uj:FnOk P w K mg base CX0 1 f8 fd8 Af WK:=JW qT T;have qd:FnOk P w K mg base CX0 2 f9 fd9 Ad Yg:=Qi wk zB T;have zbK:FnOk P w K mg base CX0 3 f10 fd10 A5 Zq:=J9 Zt zB yj T;have zdb:FnOk P w K mg base CX0 2 f11 fd11 A6 Z2:=za9 Yv yZ T;refine D.fn.ok vY (λvs H Q E h=>?_) (λcdv A outer s H vs Q E hr h=>?_)
  · obtain⟨a,ns,rfl,_⟩:=h;rfl
  · obtain⟨a,ns,rfl,hS,hlen,hT,kk⟩:=h
    have HU:=YH hr;refine xm ?_;intro XX;let q1:Sq XX ((zq vq).drop 1):=⟨_,zz (zH qN)⟩
    let q2:Sq XX ((sb (zq vq) 0 true).drop 11):=⟨_,zz (yP (vP (wC (zK uT jr (hr.mono (by decide)) (zf (pv 6) (zf (pv 7) (zf zy zj))))))
          (zz (zH qN))
          ye)⟩
    let q3:Sq XX ((sb (zq vq) 0 true).drop 10):=⟨_,zp (vh (zew PySem.F.plainAttrs_list PySem.F.slot_list_clear PySem.F.type_list_clear zdZ (zR (vB K) (pv 5) zy (λ_ _=>rfl)))) q2.p⟩
    let q4:Sq XX ((sb (zq vq) 0 true).drop 9):=⟨_,zp (uB PassesOwn.never rfl (ql K (zR (vB K) (pv 5) zy (λ_ _=>rfl))) (yh (i:=13) vY.nd rfl (Or.inl rfl))
          (zz (vh (Wm PySem.F.plainAttrs_list PySem.F.slot_list_append PySem.F.type_list_append uD (pv 13) (zf zy zj))))) q3.p⟩
    let q5:Sq XX ((sb (zq vq) 0 true).drop 8):=⟨_,zp (yP (zN (Y7 K HU) (pv 5) (pv 3) (zV _))
          (zz (zH qN))
          ye) q4.p⟩
    let q6:Sq XX ((sb (sb (zq vq) 0 true) 7 true).drop 5):=⟨_,zz (yP (PW.pt (zav (zN Wb (zK zB zM (hr.mono (by decide)) (zf (pv 2) (zf zy zj))) zy (zV _)) (VN (vP (wC (zK uT jr (hr.mono (by decide)) (zf (pv 6) (zf (pv 7) (zf (zK wk qd (hr.mono (by decide)) (zf (pv 2) zj)) zj)))))))))
            (zz (zH qN))
            ye)⟩
    let q7:Sq XX ((sb (sb (sb (zq vq) 0 true) 7 true) 4 false).drop 1):=⟨_,zz (Xp (pv 11) (zbL (pv 7) (pv 9) set_list))⟩
    let q8:Sq XX ((sb (sb (zq vq) 0 true) 7 true).drop 4):=⟨_,zp (yP (wC (zA (Z5 K) (by rfl) T.n_isinstance boot_isinstance (zf (pv 11) (zf (vL (v:=.ty "str") rfl U.n_str boot_str rfl) zj))))
            (zz (yP (zN (Y7 K HU) (pv 12) (pv 11) (zV _))
              (zz (zH qN))
              ye))
            (zp (yP (zN (Y7 K HU) (pv 12) (wu (zf (zK wj wW (hr.mono (by decide)) (zf (zR (yo K) (pv 7) (pv 9) (λ_ _=>rfl)) (zf (zR (yo K) (pv 4) (pv 9) (λ_ _=>rfl)) zj))) (zf (zK wj wW (hr.mono (by decide)) (zf (pv 11) (zf (zR (yo K) (pv 4) (pv 9) (λ_ _=>rfl)) zj))) zj))) (zV _))
              (zz (zH qN))
              ye) q7.p)) q6.p⟩
    let q9:Sq XX ((sb (sb (zq vq) 0 true) 7 true).drop 3):=⟨_,zp (zG (i:=12) vY.nd rfl (Or.inl rfl) (zK jf Z6 (hr.mono (by decide)) (zf (zR (yo K) (pv 6) (pv 9) (λ_ _=>rfl)) (zf (pv 10) (zf (pv 11) zj))))) q8.p⟩
    let q10:Sq XX ((sb (sb (zq vq) 0 true) 7 true).drop 2):=⟨_,zp (zG (i:=11) vY.nd rfl (Or.inl rfl) (zK Yv zdb (hr.mono (by decide)) (zf (zR (yo K) (pv 7) (pv 9) (λ_ _=>rfl)) (zf (pv 10) zj)))) q9.p⟩
    let q11:Sq XX ((sb (sb (zq vq) 0 true) 7 true).drop 1):=⟨_,zp (zG (i:=10) vY.nd rfl (Or.inl rfl) (zK Zt zbK (hr.mono (by decide)) (zf (pv 2) (zf (zR (yo K) (pv 7) (pv 9) (λ_ _=>rfl)) zj)))) q10.p⟩
    let q12:Sq XX ((sb (zq vq) 0 true).drop 7):=⟨_,zp (uB PassesOwn.never rfl (yK rfl T.n_range (zf (zK zB zM (hr.mono (by decide)) (zf (pv 2) (zf zy zj))) zj)) (yh (i:=8) vY.nd rfl (Or.inl rfl))
          (zp (zG (i:=9) vY.nd rfl (Or.inl rfl) (zK zB zM (hr.mono (by decide)) (zf (pv 2) (zf zy zj)))) q11.p)) q5.p⟩
    let q13:Sq XX ((sb (zq vq) 0 true).drop 6):=⟨_,zp (qJ (i:=7) (show CScope (zu vq) _ "turn" ["script","at","store","rule","bounds","handed","keepers","rules","turn","k","deed","due","found","one"] ["rule"] [3] from {}) rfl vY.nd rfl (Or.inl rfl) (yK rfl T.n_range (zf zy zj)) (λ_ _ _ _=>yQ) (λ_ _ _ _=>(zK qT Uj (hr.mono (by decide)) (zf (pv 1) zj)))) q12.p⟩
    let q14:Sq XX ((sb (zq vq) 0 true).drop 5):=⟨_,zp (vh (Wm PySem.F.plainAttrs_list PySem.F.slot_list_append PySem.F.type_list_append uD (pv 6) (zf (Wd KKeeper GKeeper_init (hr.mono (by decide)) rfl cKeeper.nm BKeeper .nil Vj (zf (zep MKeeper_rule cKeeper.cl GKeeper_rule (hr.mono (by decide)) (zR (yo K) (pv 6) zy (λ_ _=>rfl))) (zf (zR (yo K) (pv 4) zy (λ_ _=>rfl)) zj))) zj))) q13.p⟩
    let q15:Sq XX ((sb (zq vq) 0 true).drop 4):=⟨_,zp (zG (i:=6) vY.nd rfl (Or.inl rfl) (yc (zf (Wd KKeeper GKeeper_init (hr.mono (by decide)) rfl cKeeper.nm BKeeper .nil Vj (zf (pv 5) (zf (zR (yo K) (pv 4) zy (λ_ _=>rfl)) zj))) (zf (Wd KKeeper GKeeper_init (hr.mono (by decide)) rfl cKeeper.nm BKeeper .nil Vj (zf (pv 5) (zf (zR (yo K) (pv 4) zy (λ_ _=>rfl)) zj))) zj)))) q14.p⟩
    let q16:Sq XX ((sb (zq vq) 0 true).drop 3):=⟨_,zp (zG (i:=5) vY.nd rfl (Or.inl rfl) (zK qT Uj (hr.mono (by decide)) (zf (pv 3) zj))) q15.p⟩
    let q17:Sq XX ((sb (zq vq) 0 true).drop 2):=⟨_,zp (zG (i:=4) vY.nd rfl (Or.inl rfl) (yc (zf (zK wk qd (hr.mono (by decide)) (zf (pv 2) zj)) (zf (zK wk qd (hr.mono (by decide)) (zf (pv 2) zj)) (zf (zK wk qd (hr.mono (by decide)) (zf (pv 2) zj)) zj))))) q16.p⟩
    let q18:Sq XX ((sb (zq vq) 0 true).drop 1):=⟨_,zp (zG (i:=3) vY.nd rfl (Or.inr rfl) (zK Zv zcc (hr.mono (by decide)) (zf (pv 2) zj))) q17.p⟩
    refine⟨_,(zp (uB PassesOwn.never rfl (yK rfl T.n_range (zf (zA (Va rfl) (by rfl) T.n_min boot_min (zf (zA (zdv rfl) (by rfl) T.n_max boot_max (zf (zA (xZ K) (by rfl) T.n_len PySem.boot_len (zf (pv 0) zj)) (zf zy zj))) (zf zy zj))) zj)) (yh (i:=1) vY.nd rfl (Or.inl rfl))
        (zp (zG (i:=2) vY.nd rfl (Or.inl rfl) (zK je za4 (hr.mono (by decide)) (zf (zK Zb zck (hr.mono (by decide)) (zf (pv 0) (zf (pv 1) zj))) zj))) q18.p)) q1.p),?_⟩
    refine⟨_,rfl,a,_,rfl,.inl hS,_,_,rfl,_,_,rfl,?_⟩;generalize hM:(if (5:Int)<(if (3:Int)>((ns.map V.int).length:Int) then 3 else ((ns.map V.int).length:Int)) then (5:Int) else (if (3:Int)>((ns.map V.int).length:Int) then 3 else ((ns.map V.int).length:Int)))=M;have hM1:0<=M/\M<=5:=by
      rw[<-hM];split<;>split<;>omega
    refine⟨M,rfl,by omega,by omega,vm (lo:=0) (n:=M.toNat) (λi σ H2=>∃v1 v2 v3 v4 v5 v6 v7 v8 v9 v10 v11 v12 v13:Option V,σ=[some (.ref a),v1,v2,v3,v4,v5,v6,v7,v8,v9,v10,v11,v12,v13]/\SameL T0 H H2/\LT T0 H2) ⟨_,_,_,_,_,_,_,_,_,_,_,_,_,rfl,SameL.of (Same.refl _),hT⟩ ?_ ?_⟩
    · rintro i σ H2 hi ⟨v1,v2,v3,v4,v5,v6,v7,v8,v9,v10,v11,v12,v13,rfl,m2,T2⟩
      refine⟨_,rfl,_,rfl,a,ns,i,by rw[Int.zero_add];rfl,hT.sq m2 hS,hlen,by omega,λc=>⟨c,rfl,λs H3 hs St3 m3=>?_⟩⟩;refine⟨_,rfl,s,rfl,St3,λr0 b bl0 zs0 H4 q4 R4 g=>?_⟩;have h4:zs0.length<=4:=by have:=g.len;rwa[List.length_map]at this
      refine⟨_,rfl,s,rfl,q4.st,λn0 H5 h0 q5=>⟨_,rfl,s,rfl,q5.st,λn1 H6 h1 q6=>⟨_,rfl,s,rfl,q6.st,λn2 H7 h2 q7=>⟨(by show 3<=sizeLine;decide),λbn hbn=>?_⟩⟩⟩⟩;have qq:=((q5.trans q6).trans q7).new (o:=.lst [.int n0,.int n1,.int n2]) hbn;have T8:=((T2.same m3).stq St3 q4.sm).stq q4.st qq.sm;have R8:RuleAt (aw [s] (upd H7 bn (.lst [.int n0,.int n1,.int n2]))) r0 b bl0 zs0:=R4.same qq.aw;have hb8:(upd H7 bn (.lst [.int n0,.int n1,.int n2])) bn=some (.lst [.int n0,.int n1,.int n2]):=zg;have nbs:bn≠s:=λz=>q7.st.ne hbn z;generalize upd H7 bn (.lst [.int n0,.int n1,.int n2])=H8 at qq T8 R8 hb8;refine⟨_,rfl,r0,b,bl0,zs0,rfl,R8.same (zL _ _),by omega,λrh blh zsh H9 m9 R9 e9 nb nr nz=>?_⟩;have T9:=T8.same m9;have St9:=qq.st.same m9;have G9:Grp T0 C CK (aw [T0,s] H9) H9 (blh::zsh.map (·.1)) s b []:=Grp.init T9 St9 λc hc=>by
        rcases List.mem_cons.mp hc with rfl | hc
        · exact⟨⟨_,R9.li⟩,T9.lst R9.li⟩
        · obtain⟨z,hz,rfl⟩:=List.mem_map.mp hc
          exact⟨⟨_,R9.st z hz⟩,T9.lst (R9.st z hz)⟩
      have R09:RuleAt (aw [T0,s] H9) r0 b bl0 zs0:=(R8.same (m9.aw [s])).vw T9;have hb9:aw [T0,s] H9 bn=some (.lst [.int n0,.int n1,.int n2]):=by rw[zT (by simp[nbs,T8.lst hb8])];exact m9 _ _ hb8
      have g9:GoodRule b (zsh.map (·.2)):=by rw[e9];exact g
      obtain⟨X0,eX0⟩:∃X0,X0=blh::zsh.map (·.1):=⟨_,rfl⟩
      rw[<-eX0]at G9;have Rh9:RuleAt (aw [T0,s] H9) rh b blh zsh:=by
        have ns:∀{c},H8 c=none->c≠s:=λh z=>qq.st.ne h z;exact⟨by rw[zT (by simp[T9.tup R9.tu,ns nr])];exact R9.tu,by rw[zT (by simp[T9.lst R9.li,ns nb])];exact R9.li,λz hz=>by rw[zT (by simp[T9.lst (R9.st z hz),ns (nz z hz).1])];exact R9.st z hz⟩
      have up9:SameL T0 H2 (aw [T0,s] H9):=λc o hc e=>by
        have n:=zx e hs;rw[zT (by simp[hc,n])];exact m9 _ _ (qq.sm c o n (q4.sm c o n (m3 _ _ e)))
      have n9:∀{c o},aw [s] H8 c=some o->c∉X0:=λ{c o} h z=>by
        have h:=zL _ _ _ _ h;rw[eX0]at z;rcases List.mem_cons.mp z with rfl | z
        · rw[nb]at h;cases h
        · obtain⟨y,hy,rfl⟩:=List.mem_map.mp z
          rw[(nz y hy).1]at h;cases h
      have X9:RuX (aw [T0,s] H9) X0 r0 b bl0 zs0:=⟨R09,n9 R8.tu,n9 R8.li,λz hz=>n9 (R8.st z hz)⟩
      generalize aw [T0,s] H9=Hb9 at G9 R09 hb9 Rh9 up9 X9;refine⟨_,rfl,_,rfl,bn,_,_,V.int n0,rfl,rfl,SqL.of (G9.base _ _ hb9),rfl,zbY (bd:=n0) (Rh9.same G9.base) g9 G9.lt ?_⟩;rintro k0 H10 MK0;rw[e9]at MK0;obtain⟨la0,G10⟩:=G9.add MK0;refine⟨_,rfl,_,rfl,bn,_,_,V.int n1,rfl,rfl,SqL.of (G10.base _ _ hb9),rfl,zbY (bd:=n1) (Rh9.same G10.base) g9 G10.lt ?_⟩;rintro k1 H11 MK1;rw[e9]at MK1;obtain⟨la1,G11⟩:=G10.add MK1;refine⟨(by show 2<=sizeLine;decide),λkl hkl=>?_⟩;have G12:=(G11.grow hkl (zm hkl (o:=.lst [.ref k0,.ref k1])) zg).view;have hk12:aw (T0::s::adK ([]++[⟨k0,la0,n0,zs0.map (·.2)⟩]++[⟨k1,la1,n1,zs0.map (·.2)⟩])) (upd H11 kl (.lst [.ref k0,.ref k1])) kl=some (.lst [.ref k0,.ref k1]):=by rw[zT (λz=>G11.ad z hkl)];exact zg
      have hklb:Hb9 kl=none:=G11.base.free hkl;generalize upd H11 kl (.lst [.ref k0,.ref k1])=H12 at G12 hk12;obtain⟨G12,mb12⟩:=G12;generalize aw (T0::s::adK ([]++[⟨k0,la0,n0,zs0.map (·.2)⟩]++[⟨k1,la1,n1,zs0.map (·.2)⟩])) H12=Hb12 at G12 mb12 hk12;have hb12:=mb12 _ _ hb9;refine⟨_,rfl,.inl ⟨rfl,_,SqL.of (G12.base _ _ hk12)⟩,?_⟩;refine⟨_,rfl,kl,_,_,V.ref k0,rfl,rfl,SqL.of (G12.base _ _ hk12),rfl,?_⟩;obtain⟨dx,kbl,ktl,hko⟩:=(G12.so 0 _ rfl).ob;refine⟨k0,dx,_,rfl,hko,uK _ _ _ _,Zr ?_⟩;refine G12.rule (i:=0) rfl λr3 bl3 zs3 Hb13 H13 R3 e3 G13 mb13=>?_;refine⟨_,rfl,bn,_,_,V.int n2,rfl,rfl,SqL.of (G13.base _ _ (mb13 _ _ hb12)),rfl,zbY (bd:=n2) (R3.same G13.base) (by rw[e3];exact g) G13.lt ?_⟩;rintro k2 H14 MK2;rw[e3]at MK2;obtain⟨la2,G14⟩:=G13.add MK2;have hk13:=mb13 _ _ hk12;refine⟨kl,_,_,rfl,rfl,G14.base _ _ hk13,(by show 2<sizeLine;decide),?_⟩;have G15:=G14.poke (c:=kl) (by simp) hk13 (.lst [.ref k0,.ref k1,.ref k2]);have mb15:Same Hb9 (upd Hb13 kl (.lst [.ref k0,.ref k1,.ref k2])):=λc o h=>by rw[zr (zx h hklb)];exact mb13 _ _ (mb12 _ _ h)
      have hk15:(upd Hb13 kl (.lst [.ref k0,.ref k1,.ref k2])) kl=some (.lst [.ref k0,.ref k1,.ref k2]):=zg;have X15:RuX (upd Hb13 kl (.lst [.ref k0,.ref k1,.ref k2])) (kl::X0) r0 b bl0 zs0:=(X9.grow hklb).same mb15;have eks:([]++[⟨k0,la0,n0,zs0.map (·.2)⟩]++[⟨k1,la1,n1,zs0.map (·.2)⟩]++[⟨k2,la2,n2,zs0.map (·.2)⟩]:List Kp)=[⟨k0,la0,n0,zs0.map (·.2)⟩,⟨k1,la1,n1,zs0.map (·.2)⟩,⟨k2,la2,n2,zs0.map (·.2)⟩]:=rfl;rw[eks]at G15;obtain⟨ks,hks⟩:∃ks:List Kp,ks=[⟨k0,la0,n0,zs0.map (·.2)⟩,⟨k1,la1,n1,zs0.map (·.2)⟩,⟨k2,la2,n2,zs0.map (·.2)⟩]:=⟨_,rfl⟩
      rw[<-hks]at G15;have hk15:(upd Hb13 kl (.lst [.ref k0,.ref k1,.ref k2])) kl=some (.lst (ks.map λq=>V.ref q.k)):=by rw[hks];exact hk15
      have kls:∀q∈ks,q.ls=zs0.map (·.2):=λq hq=>by rw[hks]at hq;simp at hq;rcases hq with rfl | rfl | rfl<;>rfl
      have kbd:ks.map (·.bd)=[n0,n1,n2]:=by rw[hks];rfl
      clear hks eks;generalize upd Hb13 kl (.lst [.ref k0,.ref k1,.ref k2])=Hb15 at G15 mb15 hk15 X15;show zdx _ _ _ _ _;have G15:Grp T0 C CK Hb15 (upd H14 kl (.lst ([V.ref k0,V.ref k1]++[V.ref k2]))) (kl::X0) s b ks:=G15;generalize upd H14 kl (.lst ([V.ref k0,V.ref k1]++[V.ref k2]))=H15 at G15;obtain⟨X1,eX1⟩:∃X1,X1=kl::X0:=⟨_,rfl⟩
      rw[<-eX1]at G15 X15;refine⟨3,rfl,by decide,by decide,wV (lo:=0) (n:=(3:Int).toNat) (λj ys Hc=>∃(rs:List Ru) (Hbc:Hp),ys=rs.map (λr=>V.ref r.1)/\rs.length=j/\Grp T0 C CK Hbc Hc X1 s b ks/\Same Hb15 Hbc/\∀r∈rs,RuX Hbc X1 r.1 b r.2.1 r.2.2/\r.2.2.map (·.2)=zs0.map (·.2)) ⟨[],Hb15,rfl,rfl,G15,Same.refl _,λr h=>nomatch h⟩ ?_ ?_⟩
      · rintro j ys Hc hj ⟨rs,Hbc,rfl,hrl,Gc,mbc,hrs⟩
        refine⟨by rw[List.length_map,hrl];exact Nat.lt_of_lt_of_le hj (by decide),?_⟩;unfold jB;dsimp only;rw[if_pos rfl];refine⟨_,rfl,r0,b,bl0,zs0,rfl,(X15.same mbc).ru.same Gc.base,by omega,λr' bl' zs' Hd md Rd ed nb' nr' nz'=>?_⟩;obtain⟨Hbd,Gd,mbd,new⟩:=Gc.more (Gc.same md);have fr:∀{c},Hc c=none->c∉X1:=λ{c} h z=>by
          obtain⟨⟨o,e⟩,_⟩:=Gc.xs c (List.mem_cons_of_mem _ z);rw[h]at e;cases e
        refine⟨rs++[(r',bl',zs')],Hbd,by simp,by simp[hrl],Gd,mbc.trans mbd,λr hr=>?_⟩;rcases List.mem_append.mp hr with h | h
        · exact⟨(hrs r h).1.same mbd,(hrs r h).2⟩
        · rw[List.mem_singleton.mp h]
          exact⟨⟨⟨new _ _ nr' Rd.tu,new _ _ nb' Rd.li,λz hz=>new _ _ (nz' z hz).1 (Rd.st z hz)⟩,fr nr',fr nb',λz hz=>fr (nz' z hz).1⟩,ed⟩
      rintro ys Hc ⟨rs,Hbc,rfl,hrs3,Gc,mbc,hrs⟩ rl hrl;have G16:=(Gc.grow hrl (zm hrl (o:=.lst (rs.map λr=>V.ref r.1))) zg).view;have hrlb:Hbc rl=none:=Gc.base.free hrl;have hrl16:aw (T0::s::adK ks) (upd Hc rl (.lst (rs.map λr=>V.ref r.1))) rl=some (.lst (rs.map λr=>V.ref r.1)):=by rw[zT (λz=>Gc.ad z hrl)];exact zg
      generalize upd Hc rl (.lst (rs.map λr=>V.ref r.1))=H16 at G16 hrl16;obtain⟨G16,mb16⟩:=G16;generalize aw (T0::s::adK ks) H16=Hb16 at G16 mb16 hrl16;have k3:ks.length=3:=by have:=congrArg List.length kbd;rwa[List.length_map]at this
      have L16:RuL Hb16 (rl::X1) b ks rl rs:=⟨hrl16,by rw[hrs3,k3];rfl,λi q r hq hr=>⟨((hrs r (List.mem_of_getElem? hr)).1.grow hrlb).same mb16,by rw[(hrs r (List.mem_of_getElem? hr)).2,kls q (List.mem_of_getElem? hq)]⟩⟩
      have m16:Same Hb9 Hb16:=mb15.trans (mbc.trans mb16);have hk16:=mb16 _ _ (mbc _ _ hk15);have nrl:∀{c o},Hb15 c=some o->c≠rl:=λh=>zx (mbc _ _ h) hrlb;refine⟨_,rfl,s,15,rfl,G16.st,by decide,by decide,λN H17 hN q17=>?_⟩;have G17:=G16.stq q17;obtain⟨X2,eX2⟩:∃X2,X2=rl::X1:=⟨_,rfl⟩
      have hrX:rl∈X2:=by rw[eX2];exact List.mem_cons_self
      rw[<-eX2]at G17 L16;refine⟨_,rfl,by omega,by omega,vm (lo:=0) (n:=(N:Int).toNat) (λj σ G=>∃(rs:List Ru) (ks:List Kp) (Hb:Hp) (v8 v9 v10 v11 v12:Option V),σ=[some (.ref a),some (.int (0+(i:Int))),some (.ref s),some (.ref r0),some (.ref bn),some (.ref rh),some (.ref kl),some (.ref rl),v8,v9,v10,v11,v12,v13]/\Grp T0 C CK Hb G X2 s b ks/\Hb kl=some (.lst (ks.map λq=>V.ref q.k))/\RuL Hb X2 b ks rl rs/\ks.map (·.bd)=[n0,n1,n2]/\∀c o,c≠rl->Hb16 c=some o->Hb c=some o) ⟨rs,ks,Hb16,_,_,_,_,_,rfl,G17,hk16,L16,kbd,λc o _ h=>h⟩ ?_ ?_⟩
      · rintro j σ G0 hj ⟨rs,ks,Hb,w8,w9,w10,w11,w12,rfl,D0,hkl0,L0,kb,up⟩
        have k3:ks.length=3:=by have:=congrArg List.length kb;rwa[List.length_map]at this
        have hb0:=up _ _ (nrl (mb15 _ _ hb9)) (m16 _ _ hb9);refine⟨_,rfl,s,3,rfl,D0.st,by decide,by decide,λk G1 hk q1=>?_⟩;have D1:=D0.stq q1;obtain⟨q,hq⟩:∃q,ks[k]?=some q:=⟨_,List.getElem?_eq_getElem (by omega)⟩
        obtain⟨r,hr'⟩:∃r,rs[k]?=some r:=⟨_,List.getElem?_eq_getElem (by rw[L0.ln];omega)⟩
        obtain⟨RX,er⟩:=L0.ok k q r hq hr';have ark:atI (rs.map λr=>V.ref r.1) (k:Int)=some (.ref r.1):=yV (by rw[List.getElem?_map,hr'];rfl);have akk:atI (ks.map λq=>V.ref q.k) (k:Int)=some (.ref q.k):=yV (by rw[List.getElem?_map,hq];rfl);have abk:atI [V.int n0,V.int n1,V.int n2] (k:Int)=some (.int q.bd):=by
          refine yV ?_;rw[show [V.int n0,V.int n1,V.int n2]=(ks.map (·.bd)).map λ(n:Nat)=>V.int (n:Int) by rw[kb];rfl,List.getElem?_map,List.getElem?_map,hq];rfl
        have hbq:q.bd<2^100:=by
          have:q.bd∈ks.map (·.bd):=List.mem_map.mpr ⟨q,List.mem_of_getElem? hq,rfl⟩;rw[kb]at this;simp at this;rcases this with e | e | e<;>rw[e]<;>assumption
        have hbd:q.bd<2^900:=Nat.lt_of_lt_of_le hbq (Nat.pow_le_pow_right (by decide) (by decide));refine⟨_,rfl,_,rfl,_,rfl,rl,_,_,V.ref r.1,rfl,rfl,SqL.of (D1.base _ _ L0.li),ark,Zr ?_⟩;refine D1.deed hq RX.ru er λt door u d Hb2 G2 D2 mb2 ht h1 hd fd=>?_;have hs:vX d<=100000:=Nat.le_trans (zbV d) (Nat.le_trans fd.wt (by decide));have L2:=L0.same mb2;refine⟨_,rfl,_,rfl,rl,_,_,V.ref r.1,rfl,rfl,SqL.of (D2.base _ _ L2.li),ark,_,rfl,Zr ?_⟩;refine D2.dueX hq (RX.same mb2) er ht h1 hd hs (λx hx G3 D3=>?_) (λhx r2 bl2 zs2 Hb3 G3 D3 mb3 R2 g2 du=>?_)
        · refine⟨_,rfl,_,rfl,kl,_,_,V.ref q.k,rfl,rfl,SqL.of (D3.base _ _ (mb2 _ _ hkl0)),akk,_,rfl,_,rfl,Zr ?_⟩
          refine D3.asked hq hbd ht h1 hd hs (λy hy=>?_) (λhy=>by rw[hx]at hy;cases hy);rw[hx]at hy;injection hy with hy
          subst hy;refine⟨rfl,λG4 D4=>?_⟩;refine⟨_,rfl,_,_,_,_,rfl,.str _,Vq,_,rfl,ym ?_⟩;refine⟨_,rfl,_,rfl,.str x,.str x,by rw[TrAt],by rw[TrAt],by simp[vG],_,rfl,?_⟩;rw[if_pos rfl,jT];refine yr ?_;refine⟨_,rfl,s,3,rfl,D4.st,by decide,by decide,λy G5 hy q5=>⟨rfl,_,rfl,?_⟩⟩;have D5:=D4.stq q5;by_cases hy0:y=0
          · refine zft (decide_eq_true (by rw[hy0];rfl)) ?_
            refine⟨_,rfl,_,rfl,_,rfl,s,rfl,D5.st,λn G6 hn q6=>?_⟩;refine⟨kl,rl,s,X2,Hb2,b,n,ks,rs,rfl,D5.stq q6,mb2 _ _ hkl0,L2,hn,λHb7 G7 D7 m7=>⟨_,rfl,yr ?_⟩⟩;exact⟨rs,ks,Hb7,_,_,_,_,_,rfl,D7,m7 _ _ (mb2 _ _ hkl0),L2.same m7,kb,λc o hc h=>m7 _ _ (mb2 _ _ (up c o hc h))⟩
          · exact zd3 (Z8 (by omega)) ⟨rs,ks,Hb2,_,_,_,_,_,rfl,D5,mb2 _ _ hkl0,L2,kb,λc o hc h=>mb2 _ _ (up c o hc h)⟩
        · have mb23:=mb2.trans mb3
          refine⟨_,rfl,_,rfl,kl,_,_,V.ref q.k,rfl,rfl,SqL.of (D3.base _ _ (mb23 _ _ hkl0)),akk,_,rfl,_,rfl,Zr ?_⟩;refine D3.asked hq hbd (mb3 _ _ ht) h1 (hd.same mb3) hs (λy hy=>by rw[hx]at hy;cases hy) (λ_ p la' l3 Hb4 G4 du4 g4 D4 mb4 hp4=>?_);obtain rfl:zs2.map (·.2)=l3:=du.uniq h1 du4 g2 g4;have mb24:=mb23.trans mb4;refine⟨_,rfl,_,_,_,_,rfl,.tup (D4.base _ _ (mb4 _ _ R2.ru.tu)),jE,_,rfl,yr ?_⟩;have L4:=L0.same mb24;have hb4:=mb24 _ _ hb0;have hp0:ks[k]?=some q:=hq;have gq:=D3.good_rule hq;refine⟨_,rfl,_,rfl,_,rfl,rl,_,_,V.ref r.1,rfl,rfl,SqL.of (D4.base _ _ L4.li),ark,_,rfl,_,rfl,bn,_,_,V.int q.bd,rfl,rfl,SqL.of (D4.base _ _ hb4),abk,?_⟩;refine⟨r.1,b,r.2.1,r.2.2,q.bd,rfl,(RX.same mb24).ru.same D4.base,by rw[er];exact gq,hbq,λG5 m5=>?_⟩;have D5:=D4.same m5;refine⟨_,rfl,_,rfl,_,rfl,bn,_,_,V.int q.bd,rfl,rfl,SqL.of (D5.base _ _ hb4),abk,?_⟩;refine⟨r2,b,bl2,zs2,q.bd,rfl,(R2.same mb4).ru.same D5.base,g2,hbq,λG6 m6=>?_⟩;have D6:=D5.same m6;refine⟨(by show 2<=sizeLine;decide),λtt htt=>?_⟩;have m7:=zm htt (o:=.tup [.int (many (gd (r.2.2.map (·.2)) b) q.bd:Nat),.int (many (gd (zs2.map (·.2)) b) q.bd:Nat)]);have D7:=D6.same m7;refine⟨QM _ _,QM _ _,TrAt.pair (D7.base _ _ hp4),TrAt.pair zg,zcZ _ _,_,rfl,?_⟩;rw[if_pos rfl,er,jT];refine yr ?_;rw[er]at D7;generalize upd G6 tt (.tup [.int (many (gd q.ls b) q.bd:Nat),.int (many (gd (zs2.map (·.2)) b) q.bd:Nat)])=G7 at D7;refine⟨_,rfl,_,rfl,_,rfl,rl,_,(k:Int),k,rfl,rfl,D7.base _ _ L4.li,(by rw[List.length_map,L4.ln,k3];unfold ixN;rw[if_pos (by omega),if_pos (by omega)];rfl),?_⟩;have D8:=D7.poke hrX L4.li (.lst ((rs.map λr=>V.ref r.1).set k (.ref r2)));have kbs:(ks.set k ⟨q.k,la',q.bd,zs2.map (·.2)⟩).map (·.bd)=[n0,n1,n2]:=by rw[List.map_set,<-kb];exact set_same (by rw[List.getElem?_map,hq];rfl)
          have kks:(ks.set k ⟨q.k,la',q.bd,zs2.map (·.2)⟩).map (λq=>V.ref q.k)=ks.map λq=>V.ref q.k:=by rw[List.map_set];exact set_same (by rw[List.getElem?_map,hq];rfl)
          have L8:RuL (upd Hb4 rl (.lst ((rs.map λr=>V.ref r.1).set k (.ref r2)))) X2 b (ks.set k ⟨q.k,la',q.bd,zs2.map (·.2)⟩) rl (rs.set k (r2,bl2,zs2)):=L4.put (r:=(r2,bl2,zs2)) hrX hq (R2.same mb4) rfl;have up8:∀c o,c≠rl->Hb16 c=some o->(upd Hb4 rl (.lst ((rs.map λr=>V.ref r.1).set k (.ref r2)))) c=some o:=λc o hc h=>by rw[zr hc];exact mb24 _ _ (up c o hc h)
          have hkl8:(upd Hb4 rl (.lst ((rs.map λr=>V.ref r.1).set k (.ref r2)))) kl=some (.lst ((ks.set k ⟨q.k,la',q.bd,zs2.map (·.2)⟩).map λq=>V.ref q.k)):=by rw[kks,zr (nrl hk15)];exact mb24 _ _ hkl0
          generalize upd Hb4 rl (.lst ((rs.map λr=>V.ref r.1).set k (.ref r2)))=Hb8 at D8 L8 up8 hkl8;generalize upd G7 rl (.lst ((rs.map λr=>V.ref r.1).set k (.ref r2)))=G8 at D8;generalize ks.set k ⟨q.k,la',q.bd,zs2.map (·.2)⟩=ks8 at D8 L8 kbs hkl8;generalize rs.set k (r2,bl2,zs2)=rs8 at L8;refine⟨_,rfl,s,3,rfl,D8.st,by decide,by decide,λy G9 hy q9=>⟨rfl,_,rfl,?_⟩⟩;have D9:=D8.stq q9;by_cases hy0:y=0
          · refine zft (decide_eq_true (by rw[hy0];rfl)) ?_
            refine⟨_,rfl,_,rfl,_,rfl,s,rfl,D9.st,λn G6 hn q6=>?_⟩;refine⟨kl,rl,s,X2,Hb8,b,n,ks8,rs8,rfl,D9.stq q6,hkl8,L8,hn,λHb7 G7 D7 m7=>⟨_,rfl,yr ?_⟩⟩;exact⟨rs8,ks8,Hb7,_,_,_,_,_,rfl,D7,m7 _ _ hkl8,L8.same m7,kbs,λc o hc h=>m7 _ _ (up8 c o hc h)⟩
          · exact zd3 (Z8 (by omega)) ⟨rs8,ks8,Hb8,_,_,_,_,_,rfl,D9,hkl8,L8,kbs,up8⟩
      · rintro σ G0 ⟨rs,ks,Hb,w8,w9,w10,w11,w12,rfl,D0,hkl0,L0,kb,up⟩
        have kp:Same Hb9 Hb:=λc o h=>up c o (nrl (mb15 _ _ h)) (m16 _ _ h);refine⟨_,rfl,_,rfl,Vr b (zsh.map (·.2)),Vr b (zs0.map (·.2)),TrAt.rule ((Rh9.same kp).same D0.base),TrAt.rule ((R09.same kp).same D0.base),Q3 _ _,_,rfl,?_⟩;rw[if_pos rfl,e9,jT];refine yr ?_;have hh0:=kp _ _ Rh9.tu;have inX:∀{c},c∈X0->c∈X2:=λh=>by rw[eX2,eX1];exact List.mem_cons_of_mem _ (List.mem_cons_of_mem _ h)
        have zX:∀{z},z∈zsh->z.1∈X2:=λh=>inX (by rw[eX0];exact List.mem_cons_of_mem _ (List.mem_map.mpr ⟨_,h,rfl⟩));have bX:blh∈X2:=inX (by rw[eX0];exact List.mem_cons_self);have rlz:∀{c o},Hb9 c=some o->rl≠c:=λh=>Ne.symm (nrl (mb15 _ _ h));have klz:∀{c o},Hb9 c=some o->kl≠c:=λh=>Ne.symm (zx h hklb);have h4h:∀z∈zsh,z.2.length<=4:=λz hz=>(g9.st z.2 (List.mem_map.mpr ⟨z,hz,rfl⟩)).len;have hzl:zsh.length<=4:=by have:=g9.len;rwa[List.length_map]at this
        refine⟨_,rfl,rh,_,_,V.ref blh,rfl,rfl,SqT.of (D0.base _ _ hh0),rfl,blh,rfl,⟨_,SqL.of (D0.base _ _ (kp _ _ Rh9.li))⟩,zaN (K:=K) (a:=blh) (xs:=zsh.map λz=>V.ref z.1) (λe σ G=>∃(Hb':Hp) (v13:Option V),σ=[some (.ref a),some (.int (0+(i:Int))),some (.ref s),some (.ref r0),some (.ref bn),some (.ref rh),some (.ref kl),some (.ref rl),w8,w9,w10,w11,w12,v13]/\Grp T0 C CK Hb' G X2 s b ks/\RuL Hb' X2 b ks rl rs/\(∀z∈zsh,∃xs,Hb' z.1=some (.lst xs)/\xs.length<=4+e)/\∀c o,c∉zsh.map (·.1)->Hb c=some o->Hb' c=some o) ⟨Hb,_,rfl,D0,L0,λz hz=>⟨_,kp _ _ (Rh9.st z hz),by rw[List.length_map];exact h4h z hz⟩,λc o _ h=>h⟩ ?_ ?_ ?_⟩
        · rintro e σ G1 _ ⟨Hb',v13,_,D1,_,_,up1⟩
          exact SqL.of (D1.base _ _ (up1 _ _ (λz=>by obtain⟨y,hy,e⟩:=List.mem_map.mp z;exact (nz y hy).2 e) (kp _ _ Rh9.li)))
        · rintro e v σ G1 he ⟨Hb',v13,rfl,D1,L1,hz1,up1⟩
          rw[List.getElem?_map]at he;obtain⟨z,hze,rfl⟩:=Option.map_eq_some_iff.mp he;have hzm:=List.mem_of_getElem? hze;have hel:=(List.getElem?_eq_some_iff.mp hze).1;obtain⟨xs,hxs,hxl⟩:=hz1 z hzm;refine⟨_,rfl,.inl ⟨rfl,_,SqL.of (D1.base _ _ hxs)⟩,z.1,_,_,rfl,rfl,D1.base _ _ hxs,Nat.lt_of_le_of_lt (show xs.length<=100 by omega) (by decide),?_⟩;refine⟨upd Hb' z.1 (.lst (xs++[.int 0])),_,rfl,D1.poke (zX hzm) hxs _,L1.poke (zX hzm) (rlz (Rh9.st z hzm)),λy hy=>?_,λc o hc h=>by rw[zr (λq=>hc (by rw[q];exact List.mem_map.mpr ⟨z,hzm,rfl⟩))];exact up1 c o hc h⟩;by_cases q:y.1=z.1
          · exact⟨_,by rw[q,zg],by rw[List.length_append,List.length_singleton];omega⟩
          · obtain⟨us,h1,h2⟩:=hz1 y hy
            exact⟨us,by rw[zr q];exact h1,by omega⟩
        · rintro σ G1 ⟨Hb',v13,rfl,D1,L1,hz1,up1⟩
          have nbz:blh∉zsh.map (·.1):=λz=>by obtain⟨y,hy,e⟩:=List.mem_map.mp z;exact (nz y hy).2 e
          have hbl1:=up1 _ _ nbz (kp _ _ Rh9.li);have nzb:∀{c o},Hb9 c=some o->(∀xs,o≠.lst xs)->c∉zsh.map (·.1):=λ{c o} h hn z=>by
            obtain⟨y,hy,e⟩:=List.mem_map.mp z;have:=Rh9.st y hy;rw[e,h]at this;injection this with this
            exact hn _ this
          have hh1:=up1 _ _ (nzb Rh9.tu (λ_ z=>nomatch z)) hh0;refine⟨_,rfl,rh,_,_,V.ref blh,rfl,rfl,SqT.of (D1.base _ _ hh1),rfl,.inl ⟨rfl,_,SqL.of (D1.base _ _ hbl1)⟩,?_⟩;refine⟨blh,_,rfl,rfl,D1.base _ _ hbl1,?_⟩;have D2:=D1.poke bX hbl1 (.lst []);have hkl2:(upd Hb' blh (.lst [])) kl=some (.lst (ks.map λq=>V.ref q.k)):=by
            rw[zr (klz Rh9.li)];exact up1 _ _ (λz=>by obtain⟨y,hy,e⟩:=List.mem_map.mp z;exact klz (Rh9.st y hy) e.symm) hkl0
          refine⟨_,rfl,_,rfl,kl,rl,s,X2,_,b,1000,ks,rs,rfl,D2,hkl2,L1.poke bX (rlz Rh9.li),by decide,λHb3 G3 D3 mb3=>⟨_,rfl,yr ?_⟩⟩;refine⟨_,_,_,_,_,_,_,_,_,_,_,_,_,rfl,λc o hc e=>?_,D3.lt⟩;have e:=m2 c o hc e;have n:=zx e hs;have nX:c∉X0:=n9 (by rw[zT (by simpa using n)];exact qq.sm c o n (q4.sm c o n (m3 _ _ e)));rw[eX0]at nX;refine D3.base _ _ (mb3 _ _ ?_);rw[zr (λz=>nX (by rw[z];exact List.mem_cons_self))];exact up1 c o (λz=>nX (List.mem_cons_of_mem _ z)) (kp _ _ (up9 c o hc e))
    · rintro σ H2 ⟨v1,v2,v3,v4,v5,v6,v7,v8,v9,v10,v11,v12,v13,rfl,_,_⟩
      exact kk H2
end
open PySem L2
theorem fb1{P:List Value->Prop}(h:∀a,P [a]):∀us:List Value,us.length=1->P us
 |[_],_=>h _
theorem fb2{P:List Value->Prop}(h:∀a b,P [a,b]):∀us:List Value,us.length=2->P us
 |[_,_],_=>h _ _
theorem fb3{P:List Value->Prop}(h:∀a b c,P [a,b,c]):∀us:List Value,us.length=3->P us
 |[_,_,_],_=>h _ _ _
theorem fb4{P:List Value->Prop}(h:∀a b c d,P [a,b,c,d]):∀us:List Value,us.length=4->P us
 |[_,_,_,_],_=>h _ _ _ _
theorem ex_{α:Sort u}{p:α->Prop}{a:α}(h:p a):∃x,p x:=⟨a,h⟩
def FL(K:W.Frag)(n q:Str)(st:Stmt)(f:Addr)(cd:Value)(od an:Option Addr)(sl:Array (Option Value))(oc kV dc pm ct:Value):Prop:=K.lookup f=some ⟨oc,od,.func (W.fnOf n q (tZ st) (zq st) (zu st) .none kV dc pm an cd ct),sl⟩/\W.codeIn K cd q=true/\W.keepIn K (.ref f)=true
def FB(n q:Str)(st:Stmt)(ps:List Str):Prop:=∀kV doc pm an cdv ct us,us.length=ps.length->bindArgs (W.fnOf n q (tZ st) (zq st) (zu st) .none kV doc pm an cdv ct) ⟨us,[]⟩=pure (ps.zip us)
def FD(K:W.Frag)(cd:Value)(n:Str)(st:Stmt)(ps:List Str):Prop:=FB n n st ps/\∃f od an sl oc kV dc pm ct,W.nsIn K mainGlobals n=some (some (.ref f))/\FL K n n st f cd od an sl oc kV dc pm ct
def FM(K:W.Frag)(C:Addr)(n q:Str)(st:Stmt)(ps:List Str):Prop:=FB n q st ps/\∃f cd od an sl oc kV dc pm ct,W.findIn K (.ref C) n=some (some (.ref f))/\W.isFn K (.ref f)=true/\FL K n q st f cd od an sl oc kV dc pm ct
abbrev f3(n:Str)(s:Stmt)(ps:List Str):=(n,s,ps)
abbrev f4(n q:Str)(s:Stmt)(ps:List Str):=(n,q,s,ps)
def FDs(K:W.Frag):List (Str×Stmt×List Str)->Prop
 |[]=>True
 | (n,s,ps)::r=>(∃cd,FD K cd n s ps)/\FDs K r
def FMs(K:W.Frag)(C:Addr):List (Str×Str×Stmt×List Str)->Prop
 |[]=>True
 | (n,q,s,ps)::r=>FM K C n q s ps/\FMs K C r
def NNs(K:W.Frag):List Str->Prop
 |[]=>True
 |n::r=>W.nsIn K mainGlobals n=some none/\NNs K r
def NFs(K:W.Frag)(C:Addr):List Str->Prop
 |[]=>True
 |n::r=>W.findIn K (.ref C) n=some none/\NFs K C r
def MRs(K:W.Frag)(C:Addr):Nat->List Addr->Prop
 |_,[]=>True
 |0,D::r=>W.mroIn K C (.ref D)=some true/\MRs K C 99 r
 |n+1,D::r=>W.mroIn K C (.ref D)=some false/\MRs K C n r
def DFs(K:W.Frag)(mg:Str->Option Value):List (Str×Stmt×List Str)->Prop
 |[]=>True
 | (n,s,ps)::r=>(∃f fd,Df K mg n s ps f fd)/\DFs K mg r
def MTs(K:W.Frag)(C:Addr):List (Str×Str×Stmt×List Str)->Prop
 |[]=>True
 | (n,q,s,ps)::r=>(∃f fd,Mt K C q n s ps f fd)/\MTs K C r
def CLs(K:W.Frag)(C:Addr)(n:Str):Prop:=W.nsIn K mainGlobals n=some (some (.ref C))/\W.makesIn K C=true/\W.keepIn K (.ref C)=true/\W.plainGet K C Str.empty=true/\W.hasDictIn K C=true/\W.plainOver K C=true/\W.findIn K (.ref C) "__setattr__"= some (some (.builtin "object.__setattr__"))
section
variable {K:W.Frag} {n q:Str} {C:Addr} {h:Heap} {mg:Str->Option Value}
theorem FD.df{st:Stmt}(x:FD K cd n st ps)(X:K.In h)(G:h.Ns mainGlobals mg):∃f fd,Df K mg n st ps f fd/\fd.code=cd/\∀s us,us.length=ps.length->BindsTo s fd ⟨us,[]⟩ (ps.zip us):=
 let ⟨b,_,_,_,_,_,_,_,_,_,a,l,e,k⟩:=x
 ⟨_,_,zhr X G a l e k b,rfl,λ_ us h=>.of_eq (b _ _ _ _ _ _ us h)⟩
theorem FDs.df(X:K.In h)(G:h.Ns mainGlobals mg):∀{l},FDs K l->DFs K mg l
 |[],_=>trivial
 |_::_,⟨⟨_,x⟩,y⟩=>⟨let ⟨f,fd,d,_⟩:=x.df X G;⟨f,fd,d⟩,FDs.df X G y⟩
theorem FMs.mt:∀{l},FMs K C l->MTs K C l
 |[],_=>trivial
 | (_,_,st,_)::_,⟨⟨b,_,_,_,_,_,_,_,_,_,_,a,i,l,e,k⟩,y⟩=>⟨⟨_,_,zau (st:=st) l e k,(zau (st:=st) l e k).binds b,a,i,k⟩,FMs.mt y⟩
end
structure CF (K:W.Frag) (n:Str) (C:Addr):Prop where
 g:W.nsIn K mainGlobals n=some (some (.ref C))
 m:W.mroIn K C (.type "object")=some true
 t:W.typeIn K (.ref C)=some (.type "type")
theorem CF.cls{K:W.Frag}(x:CF K n D)(e:W.mroIn K C (.ref D)=some b):W.kitCls K (.ref C) (.ref D)=some b:=by
 obtain⟨cd,h,_⟩:=Option.bind_eq_some_iff.mp x.m;show (if ((W.clsIn K D).isSome && W.typeIn K (.ref D) == some (.type "type"))=true then W.subIn K (.ref C) (.ref D) else none)=_;rw[if_pos (by rw[h,x.t,Option.isSome_some,Bool.true_and];exact beq_self_eq_true _)];exact e
theorem CF.no{K:W.Frag}(x:CF K n D)(s:W.mroIn K C (.ref C)=some true)(e:W.mroIn K C (.ref D)=some false):W.kitOne K (.ref C) (.ref D)=some false:=by
 unfold W.kitOne;rw[if_neg (λq=>by
  have h:Value.ref C=Value.ref D:=eq_of_beq q;injection h with h
  rw[<-h,s]at e;cases e)]
 exact x.cls e
theorem zbe{K:W.Frag}:W.kitOne K (.ref C) (.ref C)=some true:=by
 unfold W.kitOne;rw[if_pos (beq_self_eq_true _)]
theorem zdR{K:W.Frag}(e:W.mroIn K C (.type "ValueError")=some true):W.kitOne K (.ref C) (.type "ValueError")=some true:=by
 unfold W.kitOne;split
 ·rfl
 ·show (if W.kitMeta "ValueError"= true then W.subIn K (.ref C) (.type "ValueError") else none)=_;rw[if_pos (by decide +kernel)];exact e
set_option maxHeartbeats 0 in
theorem zg7{l:W.OpenLaw}{K:W.Frag}(X:K.In h)(G:h.Ns mainGlobals mg)(hfa:mg "law"= some (.ref fa))(hcT:W.codeHdIn K c0 T0=true)(hgT:mainGlobals≠T0)(xs0:FDs K [f3 "is_whole" uH ["thing"],f3 "is_number" ju ["thing"],f3 "is_base" jN ["thing"],f3 "is_figure" jq ["base","thing"],f3 "are_figures" vJ ["base","thing"],f3 "is_stretch" vf ["base","thing"],f3 "is_rising" uX ["stretches"],f3 "is_bad_list" wH ["base","thing"],f3 "is_rule" jM ["thing"],f3 "check_base" qi ["thing"],f3 "check_number" wR ["thing"],f3 "check_rule" qm ["thing"],f3 "copy_of" qt ["rule"],f3 "stands_within" xr ["stretch","figures"],f3 "lacks_all" wY ["bad","figures"],f3 "figures_of" yL ["base","n"],f3 "begins_one" uw ["bad","figures"],f3 "longest_stand" xF ["bad","figures"],f3 "place_behind" xY ["bad","stands","figures"],f3 "steps_from" um ["rule","stands","stand"],f3 "all_steps" vW ["rule","stands"],f3 "_law_cell" uV ["script","k"],f3 "_law_store" vp ["cell"],f3 "_law_take" yf ["store","many"]])(xs1:FDs K [f3 "_law_stretch" yG ["store","base","few"],f3 "_law_bad" xR ["store","base"],f3 "_law_base" tD ["store"],f3 "_law_rule" tE ["store"],f3 "_law_copy" tG ["rule"],f3 "_law_after" yz ["bad","stand","figure"],f3 "_law_ways" zW ["rule","most"],f3 "_law_figures" xj ["base","n"],f3 "_law_below" zP ["rule","n"],f3 "_law_number" wG ["store"],f3 "_law_kind" uW ["e","due"],f3 "_law_deed" jn ["store","rule"],f3 "_law_is_stretch" yF ["base","thing"],f3 "_law_due" xQ ["rule","deed"],f3 "_law_asked" xK ["keeper","deed","due"],f3 "_law_stand" uA ["keepers","rules","n"]])(xL:∃cd,FD K cd "law" vq ["script"])(xl:FD K (.ref c0) "stands_of" yp ["bad"])(qDc:CF K "NoBase" qA)(qDg:CF K "NoNumber" qB)(qDd:CF K "NoFigures" qE)(qDi:CF K "NoRule" qS)(qEa:CF K "NoStand" qV)(qDe:CF K "NoGood" xA)(qDa:CF K "Endless" xB)(qDj:CF K "NoRules" xC)(qEb:CF K "NoStretch" xD)(qEd:CF K "TooMany" xE)(qEc:CF K "NoText" xI)(qDf:CF K "NoName" xS)(qDh:CF K "NoRow" yA)(qDb:CF K "LackError" yB)(mLE:W.mroIn K yB (.type "BaseException")=some true)(qCh:W.excIn K qS veT "ValueError.__new__"= true)(qCg:W.excIn K qB veT "ValueError.__new__"= true)(qCf:W.excIn K qA veT "ValueError.__new__"= true)(qCi:W.excIn K xD veT "ValueError.__new__"= true)(qCa:W.mroIn K xD (.ref yB)=some true)(qBe:J4 K xD)(qEe:W.mroIn K xD (.type "ValueError")=some true)(qCc:MRs K xD 8 [qA,qB,qE,qS,qV,xA,xB,xC,xD,xE,xI,xS,yA])(qCj:W.excIn K xE veT "ValueError.__new__"= true)(qCb:W.mroIn K xE (.ref yB)=some true)(qBf:J4 K xE)(qEf:W.mroIn K xE (.type "ValueError")=some true)(qCd:MRs K xE 9 [qA,qB,qE,qS,qV,xA,xB,xC,xD,xE,xI,xS,yA])(aC:CLs K C "Tails")(yC:FMs K C [f4 "__init__" "Tails.__init__" yI ["self","rule"],f4 "layer" "Tails.layer" xP ["self","left"],f4 "many_by" "Tails.many_by" xx ["self","layer","place","stop"],f4 "many_under" "Tails.many_under" wB ["self","place","stop","left"],f4 "many_below" "Tails.many_below" yg ["self","figures"]])(nC:NFs K C ["base","outset","steps","layers"])(aCK:CLs K CK "Keeper")(yCK:FMs K CK [f4 "__init__" "Keeper.__init__" yq ["self","rule","b"],f4 "come" "Keeper.come" wJ ["self","stretch"],f4 "go" "Keeper.go" vU ["self","stretch"],f4 "turn_to" "Keeper.turn_to" yD ["self","bad"],f4 "rule" "Keeper.rule" vH ["self"],f4 "below" "Keeper.below" wU ["self","n"]])(nCK:NFs K CK ["base","bad","bound","tails"])(g0:W.nsIn K mainGlobals "LEAST_BASE"= some (some (.int 2 t0)))(g1:W.nsIn K mainGlobals "GREATEST_BASE"= some (some (.int 16 t1)))(g2:W.nsIn K mainGlobals "MOST_STRETCHES"= some (some (.int 4 t2)))(g3:W.nsIn K mainGlobals "LONGEST_STRETCH"= some (some (.int 4 t3)))(zs:NNs K ["isinstance","int","bool","list","tuple","reversed","len","max","min","range","all","any","sorted","enumerate","repr","sum","abs","zip","str","dict","ValueError"]): ∃fd:FuncData,(∀s v,BindsTo s fd ⟨[v],[]⟩ [("script",v)])/\∀base:Heap,K.In base->base.Ns mainGlobals mg->base.BuiltinsAt mg T0->FnOk l.prog w K mg base CX0 13 fa fd ["script"] (zal K T0):=by
 have M:∀{n v},W.nsIn K mainGlobals n=some (some v)->mg n=some v:=W.mg_of X G;have N:∀{n},W.nsIn K mainGlobals n=some none->mg n=none:=W.mg_none_of X G;obtain⟨z0,z1,z2,z3,z4,z5,z6,z7,z8,z9,z10,z11,z12,z13,z14,z15,z16,z17,z18,z19,z20,_⟩:=zs;have T:Blt mg:=⟨N z0,N z1,N z2,N z3,N z4,N z5,N z6,N z7,N z8,N z9,N z10,N z11,N z12,N z13,N z14⟩
 have U:Qt mg:=⟨N z15,N z16,N z17,N z18⟩
 have ZF:=M g0;have tH:=M g1;have xf:=M g2;have uC:=M g3;have n_dict:=N z19;have qCe:=N z20;obtain⟨⟨_,_,xu⟩,⟨_,_,Zz⟩,⟨_,_,qR⟩,⟨_,_,Zc⟩,⟨_,_,qb⟩,⟨_,_,yX⟩,⟨_,_,Zf⟩,⟨_,_,tY⟩,⟨_,_,Wv⟩,⟨_,_,jd⟩,⟨_,_,xV⟩,⟨_,_,jh⟩,⟨_,_,qU⟩,⟨_,_,ut⟩,⟨_,_,xU⟩,⟨_,_,ji⟩,⟨_,_,jj⟩,⟨_,_,uv⟩,⟨_,_,uL⟩,⟨_,_,jo⟩,⟨_,_,Zx⟩,⟨_,_,Zb⟩,⟨_,_,je⟩,⟨_,_,zB⟩,_⟩:=xs0.df X G;obtain⟨⟨_,_,yj⟩,⟨_,_,qu⟩,⟨_,_,uG⟩,⟨_,_,Zv⟩,⟨_,_,qT⟩,⟨_,_,vV⟩,⟨_,_,Zg⟩,⟨_,_,uQ⟩,⟨_,_,wj⟩,⟨_,_,wk⟩,⟨_,_,ZD⟩,⟨_,_,Zt⟩,⟨_,_,yZ⟩,⟨_,_,Yv⟩,⟨_,_,jf⟩,⟨_,_,uT⟩,_⟩:=xs1.df X G;obtain⟨_,_,Zj,hc,_⟩:=xl.df X G;obtain⟨_,xL⟩:=xL;obtain⟨_,fd,Dlaw,_,bL⟩:=xL.df X G;cases hfa.symm.trans Dlaw.g
 obtain⟨aC,mkC,kcC,pgC,hdC,poC,saC⟩:=aC;obtain⟨⟨_,_,tQ⟩,⟨_,_,qp⟩,⟨_,_,yO⟩,⟨_,_,wL⟩,⟨_,_,wM⟩,_⟩:=yC.mt;have W4:Mk K C _:=let ⟨a,i,_⟩:=tQ.m;⟨mkC,a,i,kcC⟩;have W2:=tQ.b;obtain⟨n0,n1,n2,n3,_⟩:=nC;have zQ:ClT K mg C:=⟨⟨pgC,hdC,poC,saC⟩,M aC,n0,n1,n2,n3⟩
 obtain⟨aCK,mkCK,kcCK,pgCK,hdCK,poCK,saCK⟩:=aCK;obtain⟨⟨_,_,MKeeper___init__⟩,⟨_,_,MKeeper_come⟩,⟨_,_,MKeeper_go⟩,⟨_,_,MKeeper_turn_to⟩,⟨_,_,MKeeper_rule⟩,⟨_,_,MKeeper_below⟩,_⟩:=yCK.mt;have KKeeper:Mk K CK _:=let ⟨a,i,_⟩:=MKeeper___init__.m;⟨mkCK,a,i,kcCK⟩;have BKeeper:=MKeeper___init__.b;obtain⟨n0,n1,n2,n3,_⟩:=nCK;have cKeeper:ClK K mg CK:=⟨⟨pgCK,hdCK,poCK,saCK⟩,M aCK,n0,n1,n2,n3⟩
 refine⟨fd,λs v=>bL s [v] rfl,λbase _ _ hBM=>?_⟩;have R:∀{k f fd ps sp},FnOk l.prog w K mg base CX0 k f fd ps sp->FnOk l.prog w K mg base CX0 k f fd ps sp:=id;have RX:∀{k f fd ps sp},FnOk l.prog w K mg base (CX1 l.prog w) k f fd ps sp->FnOk l.prog w K mg base (CX1 l.prog w) k f fd ps sp:=id;have XN:zbB mg _ _ _ _ _ _ _ _ _ _ _ _ _:=⟨M qDc.g,M qDg.g,M qDd.g,M qDi.g,M qEa.g,M qDe.g,M qDa.g,M qDj.g,M qEb.g,M qEd.g,M qEc.g,M qDf.g,M qDh.g⟩
 have qBd:zbQ K mg "LackError" yB:=⟨M qDb.g,mLE⟩
 have qEi:VF K mg "NoRule" qS:=⟨M qDi.g,qCh⟩
 have qEh:VF K mg "NoNumber" qB:=⟨M qDg.g,qCg⟩
 have qEg:VF K mg "NoBase" qA:=⟨M qDc.g,qCf⟩
 have qEj:VF K mg "NoStretch" xD:=⟨M qEb.g,qCi⟩
 have qBi:=qDb.cls qCa;obtain⟨m0,m1,m2,m3,m4,m5,m6,m7,m8,m9,m10,m11,m12,_⟩:=qCc;have qBg:V8 K xD _ _ _ _ _ _ _ _ _ _ _ _ _ 8:=⟨qBe,zdR qEe,qDc.no m8 m0,qDg.no m8 m1,qDd.no m8 m2,qDi.no m8 m3,qEa.no m8 m4,qDe.no m8 m5,qDa.no m8 m6,qDj.no m8 m7,zbe,qEd.no m8 m9,qEc.no m8 m10,qDf.no m8 m11,qDh.no m8 m12⟩
 have qFa:VF K mg "TooMany" xE:=⟨M qEd.g,qCj⟩
 have qBj:=qDb.cls qCb;obtain⟨m0,m1,m2,m3,m4,m5,m6,m7,m8,m9,m10,m11,m12,_⟩:=qCd;have qBh:V8 K xE _ _ _ _ _ _ _ _ _ _ _ _ _ 9:=⟨qBf,zdR qEf,qDc.no m9 m0,qDg.no m9 m1,qDd.no m9 m2,qDi.no m9 m3,qEa.no m9 m4,qDe.no m9 m5,qDa.no m9 m6,qDj.no m9 m7,qEb.no m9 m8,zbe,qEc.no m9 m10,qDf.no m9 m11,qDh.no m9 m12⟩
 have jU:=R (zbO qR xu T ZF tH);have Xq:=R (zao Zc xu T);have Zu:=R (Uv qb Zc Xq T);have xM:=R (Qw yX qb Zu uC T);have ZJ:=R (Ug tY yX xM Zf xf T);have VV:=R (zb3 Wv qR jU tY ZJ T);have ww:=R (JZ xU ut T);have qF:=R (W9 uv xU ww jj T);have Xf:=R (zak Zj hc hcT hBM hgT xU ww T);have jw:=R (Vz uL uv qF);have Z7:=R (QF jo uL jw T);have Xl:=R (zag Zx jo Z7 T);have uy:=R (Qv wL qp yO zQ T U);have vZ:=R (Qo wM wL uy zQ T);have vR:=R (zex tQ Zj Xf Zx Xl xU ww zQ T);have Xy:=R (JG Zz xu T);have Yp:=RX (Qz jh Wv VV qEi);have Yk:=RX (Qn jd qR jU qEg);have wI:=RX (Vv xV Zz Xy qEh);have Z9:=RX (Qm ji jd Yk xV wI T);have j7:=R (zca qU T);have GKeeper_belowX:=RX (zdz (T0:=T0) MKeeper_below wM vZ ji Z9 zQ cKeeper);have GKeeper_below:FnOk l.prog w K mg base CX0 5 _ _ Ah (j6 T0 C CK):=zbW GKeeper_belowX;have GKeeper_rule:=R (zga (C:=C) MKeeper_rule qU j7 cKeeper);have GKeeper_initX:=RX (zbA MKeeper___init__ jh Yp xV wI qU j7 W4 W2 vR zQ cKeeper);have GKeeper_init:FnOk l.prog w K mg base CX0 9 _ _ Ak (Yw T0 C CK):=zbh GKeeper_initX;have GKeeper_turn_to:=R (zcd MKeeper_turn_to MKeeper_below GKeeper_below W4 W2 vR zQ cKeeper);have GKeeper_comeX:=RX (zdT MKeeper_come MKeeper_turn_to GKeeper_turn_to yX xM xf cKeeper qEj qFa T);have GKeeper_goX:=RX (zg9 MKeeper_go MKeeper_turn_to GKeeper_turn_to yX xM cKeeper qEj T);have Z6:=R (Qs jf MKeeper_come GKeeper_comeX MKeeper_go GKeeper_goX cKeeper ZD XN qCe qBd qBi qBj qBg qBh T U);have wW:=R (QH wj uQ Zg vV n_dict T U);have jr:=R (Qu uT MKeeper_rule GKeeper_rule MKeeper_below GKeeper_below cKeeper wj wW T U);exact zgD Dlaw Zb je zB yj qu uG Zv qT wk Zt Yv yZ jf Z6 wj wW uT jr MKeeper_rule GKeeper_rule KKeeper BKeeper GKeeper_init cKeeper T U
theorem walk2{l:W.OpenLaw}{K:Params->W.Frag}(hn:l.most=some 63)(hdf:d.params.defaults=[])(hY:∀w h,YP w h->(K w.params).In h)(hYT:∀w h,YP w h->h.get? T0=some (W.tabObj #[]))(hKT:∀w:World,(K w.params).lookup T0=none)(hcT:∀w:World,W.codeHdIn (K w.params) c T0=true)(F:∀w mg fa h,(K w.params).In h->h.Ns mainGlobals mg->mg d.name=some (.ref fa) ->
   ∃fd:FuncData,(∀s u,BindsTo s fd ⟨[u],[]⟩ [("script",u)])/\∀base:Heap,(K w.params).In base->base.Ns mainGlobals mg->base.BuiltinsAt mg T0->FnOk l.prog w (K w.params) mg base CX0 13 fa fd ["script"] (zal (K w.params) T0)):
  W.WalkO q loose XP YP l.row.toRowW d [] (λf vs=>PySem.call f vs):=
 L2.zhu (n:=63) (k:=13) (x:="script") (sp:=λw=>zal (K w.params) T0) hn (by decide) hdf ⟨rfl,by decide,by decide,rfl⟩ hY hYT hKT hcT F (λw H a ns hl hT hS=>⟨a,ns,rfl,hS,hl,.inl hT,λ_=>rfl⟩)
end Lw
open PySem PySem.W PyProof.Rows
set_option maxRecDepth 100000 in
set_option maxHeartbeats 0 in
theorem PySem.Challenge.cw_lackstretch_k34_keepers_apart_holds : PySem.Challenge.rw_lackstretch_k34_keepers_apart.Holds := by
 w_on;o_law;k_head;(case hw=>w_witness2)
 k_fill
 refine Lw.walk2 (l:=PySem.Challenge.rw_lackstretch_k34_keepers_apart) (c:=301) (T0:=297) rfl rfl (λw h Y=>W.km_in_of Y) (λw h Y=>W.km_tabs_of Y 297 (by decide)) (λw=>by kernel_rfl) (λw=>by kernel_rfl) ?F
 case F =>
  intro w mg fa h KX G hmg
  apply Lw.zg7 (c0:=301) (T0:=297) KX G hmg (by kernel_rfl) (by decide)
  repeat' first | exact True.intro | exact λ_ _ _ _ _ _=>Lw.fb1 λ_=>rfl | exact λ_ _ _ _ _ _=>Lw.fb2 λ_ _=>rfl | exact λ_ _ _ _ _ _=>Lw.fb3 λ_ _ _=>rfl | exact λ_ _ _ _ _ _=>Lw.fb4 λ_ _ _ _=>rfl | refine' Lw.ex_ ?_ | refine' ⟨?_,?_⟩ | k_is | k_exc | refine' ⟨?_,?_,?_⟩ | refine' ⟨?_,?_,?_,?_,?_,?_,?_⟩ | fail
