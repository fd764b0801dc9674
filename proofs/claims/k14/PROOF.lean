import PyProof.Rows.All
import Wide.All
import OpenK.AllK
import Wide.FinOn
import Lean
import PyProof.EqAt
import PyProof.EqKinds
import PyProof.TupleCall
import PyProof.NeKinds
import KE.KRevSl
import KE.KRevIter
import PyProof.ConsumeWalk
import KE.KSortAsk
import KE.KSortTup
import KE.KDictSum
import PyProof.Rows.SumAny
import PyProof.EnumStmt
import PyProof.EnumMake
import PyProof.Rows.EnumRows
import PyProof.Rows.FactsN_abs
import KE.KLam
import PyProof.LongRange
import PyProof.StrCalls2
import PyProof.PureStr
import PyProof.CallStr
import PyProof.StrLoop
import PyProof.StrWalks
import PyProof.RulesTry
import PyProof.StrOps
import PyProof.ReprRoads
import PyProof.CallFns
import PyProof.ReprLen
import PySem.Challenge.RW_lackstretch_k14_places_of_good_ones
set_option autoImplicit true
set_option Elab.async false
set_option linter.all false
set_option maxRecDepth 100000
abbrev Aa:List PySem.Str:=["thing"]
abbrev Ab:List PySem.Str:=["base","thing"]
abbrev Ac:List PySem.Str:=["rule","n"]
abbrev Ad:List PySem.Str:=["bad","figures"]
abbrev Ae:List PySem.Str:=["base","n"]
abbrev Af:List PySem.Str:=["reader","stand","figure"]
abbrev Ag:List PySem.Str:=["reader","stand","first","end","left"]
abbrev Ah:List PySem.Str:=["reader","length"]
abbrev Ai:List PySem.Str:=["store","many"]
abbrev Aj:List PySem.Str:=["rule"]
abbrev Ak:List PySem.Str:=["store","base"]
abbrev Al:List PySem.Str:=["reader","stand","left"]
abbrev Am:List PySem.Str:=["reader","n"]
abbrev An:List PySem.Str:=["reader","k"]
abbrev Ao:List PySem.Str:=["self","layer","place","stop"]
abbrev Ap:List PySem.Str:=["base","text"]
abbrev Aq:List PySem.Str:=["handed","reader","thing"]
abbrev Ar:List PySem.Str:=["store","base","n"]
abbrev As:List PySem.Str:=["stretches"]
abbrev At:List PySem.Str:=["rule","stands","stand"]
abbrev Au:List PySem.Str:=["self","place","stop","left"]
abbrev Av:List PySem.Str:=["stretch","figures"]
abbrev Aw:List PySem.Str:=["bad","stands","figures"]
abbrev Ax:List PySem.Str:=["rule","stands"]
abbrev Ay:List PySem.Str:=["self","left"]
abbrev Az:List PySem.Str:=["self","figures"]
abbrev A0:List PySem.Str:=["self","rule"]
abbrev A2:List PySem.Str:=["script","many"]
abbrev A3:List PySem.Str:=["base","figures"]
abbrev A4:List PySem.Str:=["caught","due"]
abbrev A5:List PySem.Str:=["store","handed","reader"]
abbrev A6:List PySem.Str:=["bad","found","stretch","size","stand"]
abbrev ZA:=List (List Int)
abbrev ZB:=List (PySem.Addr×List Int)
namespace L2
open PySem PySem.Spec PyProof.Rows
abbrev Key:=Sum Int Str
def Q7:Key->Value->Bool
 |.inl k,v=>Value.isInt k v
 |.inr x,v=>Value.isStrOf x v
def zhW(w:World):Key->Int
 |.inl k=>hashInt k
 |.inr x=>hashStr w x
theorem wz:∀{k:Key} {v:Value},Q7 k v=true->(∃i t,k=Sum.inl i/\v=Value.int i t)\/(∃x t,k=Sum.inr x/\v=Value.str x t)
 |.inl i,v,h=>by
  obtain⟨t,e⟩:=Value.isInt_shape h;exact .inl ⟨i,t,rfl,e⟩
 |.inr x,v,h=>by
  obtain⟨t,e⟩:=Value.isStrOf_shape h;exact .inr ⟨x,t,rfl,e⟩
theorem zdk(i:Int)(t:Tok):Q7 (.inl i) (.int i t)=true:=by simp[Q7,Value.isInt]
theorem zdb(x:Str)(t:Tok):Q7 (.inr x) (.str x t)=true:=by simp[Q7,Value.isStrOf]
theorem zgU(a b:Int):decide ((Sum.inl a:Key)=Sum.inl b)=(a == b):=by
 by_cases e:a=b
 ·subst e;simp
 ·have h:¬ (Sum.inl a:Key)=Sum.inl b:=λq=>e (Sum.inl.inj q);rw[decide_eq_false h];exact (beq_eq_false_iff_ne.mpr e).symm
theorem zf9(a b:Str):decide ((Sum.inr a:Key)=Sum.inr b)=decide (a=b):=by
 by_cases e:a=b
 ·subst e;simp
 ·have h:¬ (Sum.inr a:Key)=Sum.inr b:=λq=>e (Sum.inr.inj q);rw[decide_eq_false h,decide_eq_false e]
theorem zgx(a:Int)(b:Str):decide ((Sum.inl a:Key)=Sum.inr b)=false:=decide_eq_false (λq=>nomatch q)
theorem zgg(a:Str)(b:Int):decide ((Sum.inr a:Key)=Sum.inl b)=false:=decide_eq_false (λq=>nomatch q)
def yu(prog:Program)(w:World):PySem.KeyKind prog w Key where
 is:=Q7
 hash:=zhW w
 inj:=λv a b ha hb=>by
  rcases wz ha with ⟨i,t,rfl,rfl⟩ | ⟨x,t,rfl,rfl⟩
  ·rcases wz hb with ⟨j,u,rfl,e⟩ | ⟨y,u,rfl,e⟩
   ·injection e with e1 _;rw[e1]
   ·exact nomatch e
  ·rcases wz hb with ⟨j,u,rfl,e⟩ | ⟨y,u,rfl,e⟩
   ·exact nomatch e
   ·injection e with e1 _;rw[e1]
 byValue:=λk v h=>by
  rcases wz h with ⟨i,t,rfl,rfl⟩ | ⟨x,t,rfl,rfl⟩<;>rfl
 pyHash:=λhv h=>by
  rcases wz hv with ⟨i,t,rfl,rfl⟩ | ⟨x,t,rfl,rfl⟩
  ·exact wpAny_pyHash_int h
  ·exact wpAny_pyHash_str h
 eqBool:=λhu hv h=>by
  rcases wz hu with ⟨i,t,rfl,rfl⟩ | ⟨x,t,rfl,rfl⟩
  ·rcases wz hv with ⟨j,u,rfl,rfl⟩ | ⟨y,u,rfl,rfl⟩
   ·rw[zgU]at h;exact wpAny_eqBool_int h
   ·rw[zgx]at h;exact SeqAt.EqAt.int_str i t y u _ _ _ _ h
  ·rcases wz hv with ⟨j,u,rfl,rfl⟩ | ⟨y,u,rfl,rfl⟩
   ·rw[zgg]at h;exact SeqAt.EqAt.str_int x t j u _ _ _ _ h
   ·rw[zf9]at h;exact wpAny_eqBool_str h
 «strs»:=λk x t v h=>by
  rcases wz h with ⟨i,u,rfl,e⟩ | ⟨y,u,rfl,e⟩
  ·exact nomatch e
  ·injection e with e1 _
   subst e1;cases v<;>rfl
theorem za0(prog:Program)(w:World)(i:Int)(t:Tok):(yu prog w).is (.inl i) (.int i t)=true:=zdk i t
theorem zbs(prog:Program)(w:World)(x:Str)(t:Tok):(yu prog w).is (.inr x) (.str x t)=true:=zdb x t
inductive V where
 |non | bl (b:Bool) | int (i:Int) | str (x:Str) | byt (b:Array UInt8) | flt (b:UInt64) | ref (a:Addr) | ty (n:String)
 deriving DecidableEq
def RelV:V->Value->Prop
 |.non,u=>u=Value.none
 |.bl b,u=>u=Value.bool b
 |.int i,u=>∃t,u=Value.int i t
 |.str x,u=>∃t,u=Value.str x t
 |.byt b,u=>∃t,u=Value.bytes b t
 |.flt b,u=>∃t,u=Value.float b t
 |.ref a,u=>u=Value.ref a
 |.ty n,u=>u=Value.type n
abbrev Vals:List V->List Value->Prop:=Paired RelV
theorem Vals.length(r:Vals xs us):xs.length=us.length:=Paired.length r
theorem Vals.get:∀{xs:List V} {us:List Value} {i:Nat} {x:V},Vals xs us->xs[i]?=some x->∃u,us[i]?=some u/\RelV x u
 |_,_,_,_,.nil,e=>by simp at e
 |_,_,0,_,.cons r _,e=>by simp at e;subst e;exact⟨_,rfl,r⟩
 |_,_,i+1,x,.cons _ t,e=>by
  obtain⟨u,h1,h2⟩:=Vals.get t (by simpa using e);exact⟨u,by simpa using h1,h2⟩
theorem Vals.set{x:V}{u:Value}(r:RelV x u):∀{xs:List V} {us:List Value} (i:Nat),Vals xs us->Vals (xs.set i x) (us.set i u)
 |_,_,_,.nil=>.nil
 |_,_,0,.cons _ t=>.cons r t
 |_,_,i+1,.cons q t=>.cons q (Vals.set r i t)
theorem Vals.append:∀{xs ys:List V} {us ws:List Value},Vals xs us->Vals ys ws->Vals (xs++ys) (us++ws)
 |_,_,_,_,.nil,s=>s
 |_,_,_,_,.cons r t,s=>.cons r (Vals.append t s)
theorem Vals.take:∀{xs:List V} {us:List Value} (n:Nat),Vals xs us->Vals (xs.take n) (us.take n)
 |_,_,0,_=>.nil
 |_,_,_+1,.nil=>.nil
 |_,_,n+1,.cons r t=>.cons r (Vals.take n t)
theorem Vals.drop:∀{xs:List V} {us:List Value} (n:Nat),Vals xs us->Vals (xs.drop n) (us.drop n)
 |_,_,0,r=>r
 |_,_,_+1,.nil=>.nil
 |_,_,n+1,.cons _ t=>Vals.drop n t
def RelO:Option V->Option Value->Prop
 |some v,some u=>RelV v u
 |none,none=>True
 |_,_=>False
def KV:List (κ×V)->List (κ×Value)->Prop:=Paired λp q=>p.1=q.1/\RelV p.2 q.2
def kV:Key->V
 |.inl i=>.int i
 |.inr x=>.str x
inductive Ex2 {α β:Type} (p:α->β->Prop):Prop
 |mk (a:α) (b:β) (h:p a b):Ex2 p
inductive Ex3 {α β γ:Type} (p:α->β->γ->Prop):Prop
 |mk (a:α) (b:β) (c:γ) (h:p a b c):Ex3 p
inductive Ex4 {α β γ δ:Type} (p:α->β->γ->δ->Prop):Prop
 |mk (a:α) (b:β) (c:γ) (d:δ) (h:p a b c d):Ex4 p
inductive Ex5 {α β γ δ ε:Type} (p:α->β->γ->δ->ε->Prop):Prop
 |mk (a:α) (b:β) (c:γ) (d:δ) (e:ε) (h:p a b c d e):Ex5 p
inductive Ex6 {α β γ δ ε ζ:Type} (p:α->β->γ->δ->ε->ζ->Prop):Prop
 |mk (a:α) (b:β) (c:γ) (d:δ) (e:ε) (f:ζ) (h:p a b c d e f):Ex6 p
inductive HO where
 |lst (xs:List V)
 |tup (xs:List V)
 |dK (kvs:List (Key×V)) | dT (kvs:List (List Key×V))
 |set (S:Int->Bool) (n:Nat)
 |ins (C dx:Addr) (fs:List (Str×V))
 |own (x:Addr)
 |xd (fs:List (Str×V))
 |met (f x:Addr)
 |rng (lo hi:Int)
 |frz (o:Obj) (u:HO)
 |tbl (ps:Array Value)
 |ext (φ:Heap->Prop)
abbrev Hp:=Addr->Option HO
def upd(H:Hp)(a:Addr)(o:HO):Hp:=λb=>if b=a then some o else H b
theorem zp:upd H a o a=some o:=by unfold upd;rw[if_pos rfl]
theorem zB(h:b≠a):upd H a o b=H b:=by unfold upd;rw[if_neg h]
theorem zfe:upd (upd H a o) a u=upd H a u:=by
 funext b;unfold upd;split<;>rfl
theorem Xc{H:Hp}(h:H a=some o)(h':H b=some u)(d:o≠u):a≠b:=by
 intro e;subst e;rw[h]at h';exact d (Option.some.inj h')
theorem zK{H:Hp}(h:H a=some o)(h':H b=none):a≠b:=by
 intro e;subst e;rw[h]at h';cases h'
section
variable (P:Program) (w:World)
def ObjOk(H:Hp)(h:Heap)(a:Addr):HO->Prop
 |.lst xs=>xs.length<=sizeLine/\∃(its:List Value) (n:Nat),Vals xs its/\h.get? a=some { cls:=.type "list",data:=.seq its.toArray n }
 |.tup xs=>xs.length<=sizeLine/\∃its:List Value,Vals xs its/\IsTup h a its.toArray
 |.dK kvs=>kvs.length<=sizeLine/\(a == sysModules)=false/\∃vs,KV kvs vs/\h.DictOf (yu P w) a vs
 |.dT kvs=>kvs.length<=sizeLine/\(a == sysModules)=false/\∃xs:List (List Key×Addr×Value),
   Paired (λ(p:List Key×V) (q:List Key×Addr×Value)=>p.1=q.1/\H q.2.1=some (.tup (p.1.map kV))/\RelV p.2 q.2.2) kvs xs /\
   ∃o es ep,h.get? a=some o/\o.ExactDict/\o.data=.dict es ep/\es.toList=xs.map (entryOfKey (tupleKind (yu P w)))/\(xs.map (·.1)).Nodup
 |.set S n=>h.SetOf (intKind P w) a S n
 |.ins C dx fs=>H dx=some (.own a)/\fs.length<=1000/\dx≠a/\h.get? a=some (W.instObj C dx) /\
   ∃mA,h.Ns1 dx mA/\(∀f,RelO (fs.lookup f) (mA f))/\PySem.Within mA (fs.map (·.1))
 |.own _=>∃o,h.get? a=some o
 |.xd fs=>∃mA,h.Ns1 a mA/\∀f,RelO (fs.lookup f) (mA f)
 |.rng lo hi=>∃t u v,h.get? a=some { cls:=.type "range",data:=.fields #[.int lo t,.int hi u,.int 1 v] }
 |.frz o u=>h.get? a=some o/\ObjOk H h a u
 |.tbl ps=>h.get? a=some { cls:=.none,data:=.fields ps }
 |.met f x=>h.get? a=some (W.methodObj (.ref f) (.ref x))
 |.ext φ=>φ h/\(∃o,h.get? a=some o)/\∀h1 h2:Heap,φ h1->(∀o,h1.get? a=some o->h2.get? a=some o)->φ h2
def HOk(H:Hp)(h:Heap):Prop:=∀a o,H a=some o->ObjOk P w H h a o
end
section
variable {P:Program} {w:World} {H H':Hp} {h h':Heap} {a:Addr} {o:HO}
theorem ObjOk.lt(x:ObjOk P w H h a o):a<h.objs.size:=by
 cases o with
 |lst xs=>obtain⟨_,_,_,_,e⟩:=x;exact Heap.lt_size e
 |tup xs=>obtain⟨_,_,_,p⟩:=x;exact p.lt
 |dK kvs=>obtain⟨_,_,_,_,o,_,_,e,_⟩:=x;exact Heap.lt_size e
 |dT kvs=>obtain⟨_,_,_,_,o,_,_,e,_⟩:=x;exact Heap.lt_size e
 |set S n=>obtain⟨o,_,_,_,e,_⟩:=x;exact Heap.lt_size e
 |ins C dx fs=>obtain⟨_,_,_,e,_⟩:=x;exact Heap.lt_size e
 |own y=>obtain⟨_,e⟩:=x;exact Heap.lt_size e
 |xd fs=>obtain⟨_,⟨_,_,_,e,_⟩,_⟩:=x;exact Heap.lt_size e
 |rng lo hi=>obtain⟨_,_,_,e⟩:=x;exact Heap.lt_size e
 |frz ob u=>obtain⟨e,_⟩:=x;exact Heap.lt_size e
 |tbl ps=>exact Heap.lt_size (show h.get? a=some _ from x)
 |met f y=>exact Heap.lt_size (show h.get? a=some _ from x)
 |ext φ=>obtain⟨_,⟨_,e⟩,_⟩:=x;exact Heap.lt_size e
theorem Paired.mapP{α β:Type}{F G:α->β->Prop}:∀{l₁:List α} {l₂:List β},Paired F l₁ l₂->(∀a b,F a b->G a b)->Paired G l₁ l₂
 |_,_,.nil,_=>.nil
 |_,_,.cons r t,f=>.cons (f _ _ r) (Paired.mapP t f)
theorem ObjOk.stay(x:ObjOk P w H h a o)(k:∀b u,(b=a\/H b=some (.own a))->h.get? b=some u->h'.get? b=some u)(ho:∀b,H b=some (.own a)->H' b=some (.own a))(ht:∀b xs,H b=some (.tup xs)->H' b=some (.tup xs)):ObjOk P w H' h' a o:=by
 induction o with
 |lst xs=>obtain⟨z,its,n,r,e⟩:=x;exact⟨z,its,n,r,k _ _ (.inl rfl) e⟩
 |tup xs=>obtain⟨z,its,r,ob,e,c⟩:=x;exact⟨z,its,r,ob,k _ _ (.inl rfl) e,c⟩
 |dK kvs=>obtain⟨z,y,vs,r,ob,es,ep,e,c⟩:=x;exact⟨z,y,vs,r,ob,es,ep,k _ _ (.inl rfl) e,c⟩
 |dT kvs=>
  obtain⟨z,y,xs,r,ob,es,ep,e,c⟩:=x;exact⟨z,y,xs,Paired.mapP r λp q z=>⟨z.1,ht _ _ z.2.1,z.2.2⟩,ob,es,ep,k _ _ (.inl rfl) e,c⟩
 |set S n=>obtain⟨ob,es,ep,t,e,c⟩:=x;exact⟨ob,es,ep,t,k _ _ (.inl rfl) e,c⟩
 |ins C dx fs=>
  obtain⟨d,z,ne,e,mA,⟨od,es,ep,e2,c⟩,r⟩:=x;exact⟨ho _ d,z,ne,k _ _ (.inl rfl) e,mA,⟨od,es,ep,k _ _ (.inr d) e2,c⟩,r⟩
 |own y=>obtain⟨ob,e⟩:=x;exact⟨ob,k _ _ (.inl rfl) e⟩
 |xd fs=>obtain⟨mA,⟨od,es,ep,e,c⟩,r⟩:=x;exact⟨mA,⟨od,es,ep,k _ _ (.inl rfl) e,c⟩,r⟩
 |rng lo hi=>obtain⟨t,u,v,e⟩:=x;exact⟨t,u,v,k _ _ (.inl rfl) e⟩
 |frz ob u ih=>obtain⟨e,q⟩:=x;exact⟨k _ _ (.inl rfl) e,ih q⟩
 |tbl ps=>
  have e:=x;exact k a _ (.inl rfl) e
 |met f y=>
  have e:=x;exact k a _ (.inl rfl) e
 |ext φ=>obtain⟨p,⟨o,e⟩,st⟩:=x;exact⟨st _ _ p λo q=>k _ _ (.inl rfl) q,⟨o,k _ _ (.inl rfl) e⟩,st⟩
theorem HOk.lt(x:HOk P w H h)(e:H a=some o):a<h.objs.size:=(x a o e).lt
theorem HOk.fresh(x:HOk P w H h)(e:h.objs.size<=a):H a=none:=by
 cases q:H a with
 |none=>rfl
 |some u=>exact absurd (Nat.lt_of_lt_of_le (x.lt q) e) (Nat.lt_irrefl _)
theorem HOk.kept(x:HOk P w H h)(k:∀b u,h.get? b=some u->h'.get? b=some u):HOk P w H h':=λa o e=>
 (x a o e).stay (λb u _ q=>k b u q) (λ_ q=>q) λ_ _ q=>q
theorem HOk.laid(x:HOk P w H h)(k:∀b u,h.get? b=some u->h'.get? b=some u)(hp:h.objs.size<=a)(new:ObjOk P w (upd H a o) h' a o):HOk P w (upd H a o) h':=λb u e=>by
 have hn:=x.fresh hp;by_cases hb:b=a
 ·subst hb;rw[zp]at e;cases e;exact new
 ·rw[zB hb]at e;exact (x b u e).stay (λc v _ q=>k c v q) (λc q=>by rw[zB (zK q hn)];exact q) λc xs q=>by rw[zB (zK q hn)];exact q
end
def Rd(H:Hp)(a:Addr)(u:HO):Prop:=H a=some u\/∃o,H a=some (.frz o u)
theorem Rd.ok(r:Rd H a u)(x:HOk P w H h):ObjOk P w H h a u:=by
 rcases r with r | ⟨o,r⟩
 ·exact x a u r
 ·obtain⟨_,q⟩:=x a _ r;exact q
def Mut:Option HO->Prop
 |some (.lst _)=>True
 |some (.dK _)=>True
 |some (.dT _)=>True
 |some (.set _ _)=>True
 |some (.ins _ _ _)=>True
 |some (.ext _)=>True
 |_=>False
section
variable {P:Program} {w:World} {H:Hp} {h h':Heap} {x e:Addr} {o':HO}
theorem HOk.write(ok:HOk P w H h)(mu:Mut (H x))(he:e=x\/H e=some (.own x))(k:∀b u,b≠e->h.get? b=some u->h'.get? b=some u)(heo:∃u,h'.get? e=some u)(new:ObjOk P w (upd H x o') h' x o'):HOk P w (upd H x o') h':=λb u q=>by
 have nown:∀c y,H c=some (.own y)->c≠x:=λc y r z=>by subst z;rw[r]at mu;exact mu
 have ntup:∀c xs,H c=some (.tup xs)->c≠x:=λc xs r z=>by subst z;rw[r]at mu;exact mu
 by_cases hb:b=x
 ·subst hb;rw[zp]at q;cases q;exact new
 ·rw[zB hb]at q;by_cases hbe:b=e
  ·have q':H b=some (.own x):=by
    rcases he with z | z
    ·exact absurd (hbe.trans z) hb
    ·rw[hbe];exact z
   rw[q]at q';cases q'
   obtain⟨v,hv⟩:=heo;exact⟨v,by rw[hbe];exact hv⟩
  ·refine (ok b u q).stay (λc v hc r=>k c v ?_ r) (λc r=>by rw[zB (nown c b r)];exact r) λc xs r=>by rw[zB (ntup c xs r)];exact r
   rcases hc with rfl | hc
   ·exact hbe
   ·rintro rfl;rcases he with z | z
    ·exact nown c b hc z
    ·rw[hc]at z;cases z;exact hb rfl
end
structure Un (fs ex:List Addr) (H H':Hp) (h h':Heap):Prop where
 keep:∀b o,h.get? b=some o->H b=none->b∉fs->b∉ex->h'.get? b=some o
 slot:∀b o,h.get? b=some o->H b=none->b∈fs->b∉ex->∃sl,h'.get? b=some { o with slots:=sl }
 free:∀b o,h.get? b=some o->H b=none->b∉ex->H' b=none
 there:∀b o,h.get? b=some o->b∉ex->∃o',h'.get? b=some o'
 tups:∀b xs,H b=some (.tup xs)->H' b=some (.tup xs)
 frzs:∀b o u,H b=some (.frz o u)->H' b=some (.frz o u)
 tbls:∀b ps,H b=some (.tbl ps)->∃more,H' b=some (.tbl (ps++more))
section
variable {fs fs' ex ex':List Addr} {H H1 H2:Hp} {h h1 h2 h':Heap} {a x e:Addr} {o:HO}
theorem Un.any(u:Un fs ex H H1 h h1)(q:h.get? b=some ob)(n:H b=none)(hx:b∉ex):∃sl,h1.get? b=some { ob with slots:=sl }:=by
 by_cases hb:b∈fs
 ·exact u.slot b ob q n hb hx
 ·exact⟨ob.slots,u.keep b ob q n hb hx⟩
theorem Un.kept(k:∀b u,h.get? b=some u->h'.get? b=some u):Un fs ex H H h h' :=
 ⟨λb ob q _ _ _=>k b ob q,λb ob q _ _ _=>⟨ob.slots,k b ob q⟩,λ_ _ _ n _=>n,λb ob q _=>⟨ob,k b ob q⟩,λ_ _ q=>q,λ_ _ _ q=>q,λ_ ps q=>⟨#[],by rw[q];simp⟩⟩
theorem Un.refl:Un fs ex H H h h:=Un.kept λ_ _ q=>q
theorem Un.laid(k:∀b u,h.get? b=some u->h'.get? b=some u)(hp:h.objs.size<=a)(hn:H a=none):Un fs ex H (upd H a o) h h' where
 keep:=λb u q _ _ _=>k b u q
 slot:=λb u q _ _ _=>⟨u.slots,k b u q⟩
 free:=λb u q n _=>by rw[zB (Nat.ne_of_lt (Nat.lt_of_lt_of_le (Heap.lt_size q) hp))];exact n
 there:=λb u q _=>⟨u,k b u q⟩
 tups:=λb xs q=>by rw[zB (zK q hn)];exact q
 frzs:=λb u xs q=>by rw[zB (zK q hn)];exact q
 tbls:=λb ps q=>⟨#[],by rw[zB (zK q hn),q];simp⟩
theorem Un.write(mu:Mut (H x))(he:e=x\/H e=some (.own x))(k:∀b u,b≠e->h.get? b=some u->h'.get? b=some u)(heo:∃u,h'.get? e=some u):Un fs ex H (upd H x o) h h':=by
 have hx:∀b,H b=none->b≠x:=λb n z=>by subst z;rw[n]at mu;exact mu
 have hb:∀b,H b=none->b≠e:=λb n z=>by
  subst z;rcases he with r | r
  ·exact hx b n r
  ·rw[n]at r;cases r
 have hm:∀b u,H b=some u->¬ Mut (some u)->b≠x:=λb u q nm z=>by subst z;rw[q]at mu;exact nm mu
 refine⟨λb u q n _ _=>k b u (hb b n) q,λb u q n _ _=>⟨u.slots,k b u (hb b n) q⟩,λb u q n _=>by rw[zB (hx b n)];exact n,λb u q _=>?_,
  λb xs q=>by rw[zB (hm b _ q λz=>z)];exact q,λb u xs q=>by rw[zB (hm b _ q λz=>z)];exact q,λb ps q=>⟨#[],by rw[zB (hm b _ q λz=>z),q];simp⟩⟩
 by_cases hbe:b=e
 ·subst hbe;exact heo
 ·exact⟨u,k b u hbe q⟩
end
def trk(h:Heap)(H:Hp):List Addr:=(List.range h.objs.size).filter λa=>(H a).isSome
def Q0(h:Heap)(H:Hp):Heap:=W.hideAll h (trk h H)
theorem zcV(h:Heap)(H:Hp):(Q0 h H).objs.size=h.objs.size:=W.hideAll_size _ _
theorem zed(e:h.get? b=some o)(n:H b=none):(Q0 h H).get? b=some o :=
 W.hideAll_get _ e λhm=>by
  have q:=(List.mem_filter.mp hm).2;rw[n]at q;simp at q
theorem zfg(e:(Q0 h H).get? b=some o):h.get? b=some o/\H b=none:=by
 have e':=W.of_hideAll (trk h H) e;refine⟨e',?_⟩;cases q:H b with
 |none=>rfl
 |some x=>
  have hm:b∈trk h H:=List.mem_filter.mpr ⟨List.mem_range.mpr (Heap.lt_size e'),by simp[q]⟩;have z:(Q0 h H).get? b=none:=W.hideAll_none (trk h H) hm;rw[z]at e;cases e
def zfK(g h:Heap)(L:Addr):List (Addr×Obj):=(List.range h.objs.size).filterMap λa=>if a=L\/(g.get? a).isSome=true then none else (h.get? a).map λo=>(a,o)
def rest(g h:Heap)(L d:Addr):List (Addr×Obj):=(zfK g h L).filter λp=>decide (p.1≠d)
structure Mod (K:W.Frag) (mg:Str->Option Value) (base:Heap):Prop where
 kin:K.In base
 glob:base.Ns mainGlobals mg
 blt:∃mb,base.Ns builtinsNs mb/\∀x:Str,x ≠ "__name__"->mb x=bootBuiltins x
 nolimit:base.NoLimit
structure Cx where
 prog:Program
 w:World
 K:W.Frag
 mg:Str->Option Value
 base:Heap
 A:Around
 N:List Str
 s₀:Shared
 H₀:Hp
 env:Env
 outer:List Env
 stack:List Env
 ex:List Addr
 fn:Str->Bool
 calm:Bool
 pn:List (Addr×Obj)
 xe:Value->Shared->Prop
def frs(l:List Env):List Addr:=l.filterMap (·.frame)
abbrev Cx.fs(X:Cx):List Addr:=frs X.outer
def Vis(sc:Scope)(x:Str):Prop:=sc.names.lookup x=some .local\/sc.names.lookup x=some .cell\/sc.names.lookup x=some .free
def Loc(sc:Scope)(x:Str):Prop:=sc.names.lookup x=some .local\/sc.names.lookup x=some .cell
def Look(env:Env)(h:Heap)(m:Str->Option Value)(x:Str)(u:Value):Prop :=
 (env.kindOf x=some .local/\m x=some u)\/((env.kindOf x=some .cell\/env.kindOf x=some .free)/\∃c,env.cells.lookup x=some c/\h.IsCell c (some u))
structure Cx.Ok (X:Cx):Prop where
 mod:Mod X.K X.mg X.base
 kind:X.env.scope.kind=.function
 glob:X.env.globals=mainGlobals
 blt:X.env.builtins=builtinsNs
 above:X.s₀.heap.objs.size<=X.env.locals
 inj:∀x y c,X.env.cells.lookup x=some c->X.env.cells.lookup y=some c->x=y
 has:∀x,(X.env.kindOf x=some .cell\/X.env.kindOf x=some .free)->∃c,X.env.cells.lookup x=some c
 cab:∀x c,X.fn x=true->X.env.cells.lookup x=some c->X.s₀.heap.objs.size<=c
 hd:X.calm=true->X.A.handled=none
 frames:X.A.frames=some X.stack
 stk:X.stack=X.outer\/(X.stack=X.env::X.outer/\X.env.frame=some X.env.locals)
 exf:∀b∈X.ex,b≠X.env.locals/\∀x c,X.env.cells.lookup x=some c->c≠b
 bs:∀b o,X.base.get? b=some o->X.s₀.heap.get? b=some o/\X.H₀ b=none
 bsz:X.base.objs.size<=X.s₀.heap.objs.size
 noex:∀b o,X.base.get? b=some o->b∉X.ex
 exfs:∀b∈X.ex,b∉X.fs
 funs:X.s₀.heap.FunFrames X.base X.outer
 frf:∀b∈X.fs,X.H₀ b=none
structure Inv (X:Cx) (pins:List (Addr×Obj)) (Z:List (Option V)) (H:Hp) (s:Shared):Prop where
 ok:X.Ok
 os:s.os=X.s₀.os
 bare:AllBare s.gens
 base:Un X.fs X.ex X.H₀ H X.s₀.heap s.heap
 loc:∃m,s.heap.Ns X.env.locals m/\∀(i:Nat) (x:Str) (v:V),X.N[i]?=some x->Z[i]?=some (some v)->Vis X.env.scope x->∃u,RelV v u/\Look X.env s.heap m x u
 cell:∀x c,X.env.cells.lookup x=some c->∃v,s.heap.IsCell c v
 free:H X.env.locals=none
 freeC:∀x c,X.env.cells.lookup x=some c->H c=none
 pin:∀p∈X.pn++pins,s.heap.get? p.1=some p.2/\H p.1=none/\p.1≠X.env.locals/\p.1∉X.fs/\∀v,p.2.data≠.cell v
 hok:HOk X.prog X.w H s.heap
 len:Z.length=X.N.length
section
variable {X:Cx} {pins:List (Addr×Obj)} {Z:List (Option V)} {H H':Hp} {s:Shared} {h':Heap}
theorem Cx.Ok.nofr(ok:X.Ok)(e:X.base.get? b=some o):b∉X.fs:=λhb=>by
 have:=(ok.funs.mem hb).1;rw[e]at this;cases this
theorem Inv.bs(I:Inv X pins Z H s):∀b o,X.base.get? b=some o->s.heap.get? b=some o/\H b=none:=λb o e=>
 ⟨I.base.keep b o (I.ok.bs b o e).1 (I.ok.bs b o e).2 (I.ok.nofr e) (I.ok.noex b o e),I.base.free b o (I.ok.bs b o e).1 (I.ok.bs b o e).2 (I.ok.noex b o e)⟩
theorem Inv.bk(I:Inv X pins Z H s):∀b o,X.base.get? b=some o->s.heap.get? b=some o:=λb o e=>(I.bs b o e).1
theorem Inv.mod(I:Inv X pins Z H s):Mod X.K X.mg X.base:=I.ok.mod
theorem Inv.kIn(I:Inv X pins Z H s):X.K.In s.heap:=I.ok.mod.kin.keeps I.bk
theorem Inv.nolimit(I:Inv X pins Z H s):s.heap.NoLimit:=I.ok.mod.nolimit.keeps I.bk
theorem Inv.fr(I:Inv X pins Z H s):∃m,Fr X.base X.env.locals s.heap m :=
 let ⟨m,hn,_⟩:=I.loc
 ⟨m,hn,I.bk,Nat.le_trans I.ok.bsz I.ok.above⟩
theorem Inv.lt(I:Inv X pins Z H s):X.env.locals<s.heap.objs.size:=let ⟨_,hn,_⟩:=I.loc;hn.lt
theorem Inv.sz(I:Inv X pins Z H s):X.s₀.heap.objs.size<=s.heap.objs.size:=Nat.le_trans I.ok.above (Nat.le_of_lt I.lt)
theorem Inv.nofs(I:Inv X pins Z H s){a:Addr}(h:s.heap.objs.size<=a):a∉X.fs:=λhb=>by
 obtain⟨_,o,ho,_⟩:=I.ok.funs.mem hb;exact absurd (Nat.lt_of_lt_of_le (Heap.lt_size ho) (Nat.le_trans I.sz h)) (Nat.lt_irrefl _)
theorem Inv.cne(I:Inv X pins Z H s):∀x c,X.env.cells.lookup x=some c->c≠X.env.locals:=λx c e z=>by
 obtain⟨v,o,ho,hd⟩:=I.cell x c e;obtain⟨m,⟨o',es,ep,ho',hd',_⟩,_⟩:=I.loc;rw[z,ho']at ho;cases ho;rw[hd']at hd;cases hd
theorem Inv.funs(I:Inv X pins Z H s):s.heap.FunFrames X.base X.outer:=by
 have all:∀l,(∀b∈frs l,b∈X.fs)->X.s₀.heap.FunFrames X.base l->s.heap.FunFrames X.base l:=by
  intro l
  induction l with
  |nil=>intro _ _;trivial
  |cons env r ih=>
   intro hs hl;obtain⟨hk,⟨L,o,hf,hn,ho,hd⟩,hr⟩:=hl;have hL:=hs L (by unfold frs;rw[List.filterMap_cons,hf];exact List.mem_cons_self);obtain⟨sl,e⟩:=I.base.slot L o ho (I.ok.frf L hL) hL λz=>I.ok.exfs L z hL;exact⟨hk,⟨L,_,hf,hn,e,hd⟩,ih (λb hb=>hs b (by unfold frs;rw[List.filterMap_cons,hf];exact List.mem_cons_of_mem _ hb)) hr⟩
 exact all X.outer (λ_ hb=>hb) I.ok.funs
theorem Inv.stack(I:Inv X pins Z H s):s.heap.FunFrames X.base X.stack:=by
 rcases I.ok.stk with e | ⟨e,hf⟩
 ·rw[e];exact I.funs
 ·rw[e];obtain⟨m,hn,_⟩:=I.loc;refine .cons (by rw[I.ok.kind];decide) hf hn ?_ I.funs;exact Heap.get?_none_of_le (Nat.le_trans I.ok.bsz I.ok.above)
theorem Inv.stkSub(I:Inv X pins Z H s):∀b∈frs X.stack,b∈X.env.locals::X.fs:=λb hb=>by
 rcases I.ok.stk with e | ⟨e,hf⟩
 ·rw[e]at hb;exact List.mem_cons_of_mem _ hb
 ·rw[e]at hb;unfold frs at hb;rw[List.filterMap_cons,hf]at hb;exact hb
theorem Inv.stkFree(I:Inv X pins Z H s):∀b∈frs X.stack,H b=none:=λb hb=>by
 rcases List.mem_cons.mp (I.stkSub b hb) with e | hb
 ·rw[e];exact I.free
 ·obtain⟨_,o,ho,_⟩:=I.ok.funs.mem hb;exact I.base.free b o ho (I.ok.frf b hb) λz=>I.ok.exfs b z hb
theorem Inv.step{ch:List Addr}(I:Inv X pins Z H s)(hch:∀b∈ch,(b∈X.ex\/X.s₀.heap.objs.size<=b)/\b≠X.env.locals/\(∀x c,X.env.cells.lookup x=some c->c≠b)/\∀p∈X.pn++pins,p.1≠b)(keep:∀b o,b≠X.env.locals->b∉X.fs->b∉ch->s.heap.get? b=some o->H b=none->h'.get? b=some o)(slot:∀b o,b≠X.env.locals->b∈X.fs->b∉ch->s.heap.get? b=some o->H b=none->∃sl,h'.get? b=some { o with slots:=sl })(free:∀b o,b∉ch->s.heap.get? b=some o->H b=none->H' b=none)(there:∀b o,b∉ch->s.heap.get? b=some o->∃o',h'.get? b=some o')(tups:∀b xs,H b=some (.tup xs)->H' b=some (.tup xs))(frzs:∀b o u,H b=some (.frz o u)->H' b=some (.frz o u))(tbls:∀b ps,H b=some (.tbl ps)->∃more,H' b=some (.tbl (ps++more)))(ns:∀m,s.heap.Ns X.env.locals m->h'.Ns X.env.locals m)(hok:HOk X.prog X.w H' h')(hg:AllBare g'):
  Inv X pins Z H' { s with heap:=h',gens:=g',drawn:=d',toks:=t' }:=by
 have neL:∀b o,X.s₀.heap.get? b=some o->b≠X.env.locals:=λb o e=>Nat.ne_of_lt (Nat.lt_of_lt_of_le (Heap.lt_size e) I.ok.above);have neC:∀b o,X.s₀.heap.get? b=some o->b∉X.ex->b∉ch:=λb o e hx hb=>by
  rcases (hch b hb).1 with z | z
  ·exact hx z
  ·exact absurd (Nat.lt_of_lt_of_le (Heap.lt_size e) z) (Nat.lt_irrefl _)
 have cellK:∀x c,X.env.cells.lookup x=some c->∀v,s.heap.IsCell c v->h'.IsCell c v:=λx c e v ⟨o,ho,hd⟩=>by
  have nch:c∉ch:=λz=>(hch c z).2.2.1 x c e rfl;by_cases hc:c∈X.fs
  ·obtain⟨sl,q⟩:=slot c o (I.cne x c e) hc nch ho (I.freeC x c e);exact⟨_,q,hd⟩
  ·exact⟨o,keep c o (I.cne x c e) hc nch ho (I.freeC x c e),hd⟩
 refine⟨I.ok,I.os,hg,⟨λb o e n hb hx=>?_,λb o e n hb hx=>?_,λb o e n hx=>?_,λb o e hx=>?_,λb xs e=>tups b xs (I.base.tups b xs e),λb o xs e=>frzs b o xs (I.base.frzs b o xs e),λb ps e=>?_⟩,?_,λx c e=>?_,?_,λx c e=>?_,λp hp=>?_,hok,I.len⟩
 ·exact keep b o (neL b o e) hb (neC b o e hx) (I.base.keep b o e n hb hx) (I.base.free b o e n hx)
 ·obtain⟨sl,e1⟩:=I.base.slot b o e n hb hx;obtain⟨sl',e2⟩:=slot b _ (neL b o e) hb (neC b o e hx) e1 (I.base.free b o e n hx);exact⟨sl',e2⟩
 ·obtain⟨o',e1⟩:=I.base.there b o e hx;exact free b o' (neC b o e hx) e1 (I.base.free b o e n hx)
 ·obtain⟨o',e1⟩:=I.base.there b o e hx;exact there b o' (neC b o e hx) e1
 ·obtain⟨m1,e1⟩:=I.base.tbls b ps e;obtain⟨m2,e2⟩:=tbls b _ e1;exact⟨m1++m2,by rw[e2,Array.append_assoc]⟩
 ·obtain⟨m,hn,hl⟩:=I.loc;refine⟨m,ns m hn,λi x v e1 e2 e3=>?_⟩;obtain⟨u,r,l⟩:=hl i x v e1 e2 e3;refine⟨u,r,?_⟩;rcases l with l | ⟨k,c,e,z⟩
  ·exact .inl l
  ·exact .inr ⟨k,c,e,cellK x c e _ z⟩
 ·obtain⟨v,z⟩:=I.cell x c e;exact⟨v,cellK x c e v z⟩
 ·obtain⟨m,⟨o,_,_,ho,_⟩,_⟩:=I.loc;exact free _ o (λz=>(hch _ z).2.1 rfl) ho I.free
 ·obtain⟨v,o,ho,hd⟩:=I.cell x c e;exact free c o (λz=>(hch c z).2.2.1 x c e rfl) ho (I.freeC x c e)
 ·obtain⟨e,n,ne,nf,d⟩:=I.pin p hp;have nch:p.1∉ch:=λz=>(hch p.1 z).2.2.2 p hp rfl;exact⟨keep p.1 p.2 ne nf nch e n,free p.1 p.2 nch e n,ne,nf,d⟩
theorem Inv.un(I:Inv X pins Z H s)(u:Un X.fs [] H H' s.heap h')(hok:HOk X.prog X.w H' h'):Inv X pins Z H' { s with heap:=h',toks:=t' }:=by
 obtain⟨m,⟨o,es,ep,ho,r⟩,_⟩:=id I.loc;obtain⟨sl,hL⟩:=u.any ho I.free (by simp);exact I.step (ch:=[]) (λ_ z=>nomatch z) (λb o _ hb _ e n=>u.keep b o e n hb (by simp)) (λb o _ hb _ e n=>u.slot b o e n hb (by simp)) (λb o _ e n=>u.free b o e n (by simp)) (λb o _ e=>u.there b o e (by simp)) u.tups u.frzs u.tbls (λm' hm=>by
  obtain⟨o',es',ep',ho',r'⟩:=hm;rw[ho]at ho';cases ho'
  exact⟨_,es',ep',hL,r'⟩) hok I.bare
theorem Inv.call(I:Inv X pins Z H s)(u:Un (frs X.stack) ch H H' s.heap h')(hok:HOk X.prog X.w H' h')(hg:AllBare g')(hch:∀b∈ch,(b∈X.ex\/X.s₀.heap.objs.size<=b)/\b≠X.env.locals/\(∀x c,X.env.cells.lookup x=some c->c≠b)/\∀p∈X.pn++pins,p.1≠b):
  Inv X pins Z H' { s with heap:=h',gens:=g',drawn:=d',toks:=t' }:=by
 obtain⟨m,⟨o,es,ep,ho,r⟩,_⟩:=id I.loc;obtain⟨sl,hL⟩:=u.any ho I.free λz=>(hch _ z).2.1 rfl;exact I.step hch (λb o hL hb hc e n=>u.keep b o e n (λz=>(List.mem_cons.mp (I.stkSub b z)).elim hL hb) hc) (λb o _ _ hc e n=>u.any e n hc) (λb o hc e n=>u.free b o e n hc) (λb o hc e=>u.there b o e hc) u.tups u.frzs u.tbls (λm' hm=>by
  obtain⟨o',es',ep',ho',r'⟩:=hm;rw[ho]at ho';cases ho'
  exact⟨_,es',ep',hL,r'⟩) hok hg
theorem Inv.turned(I:Inv X pins Z H s)(k:∀b o,b≠it->s.heap.get? b=some o->h'.get? b=some o)(hn:H it=none)(hL:it≠X.env.locals)(h1:it∈X.ex\/X.s₀.heap.objs.size<=it)(h2:∀x c,X.env.cells.lookup x=some c->c≠it)(h3:∀p∈X.pn++pins,p.1≠it):Inv X pins Z H { s with heap:=h',toks:=t' }:=by
 have nit:∀b u,H b=some u->b≠it:=λb u e z=>by rw[z,hn]at e;cases e
 refine I.step (ch:=[it]) (λb hb=>?_) (λb o _ _ hc e _=>k b o (λz=>hc (by simp[z])) e) (λb o _ _ hc e _=>⟨o.slots,k b o (λz=>hc (by simp[z])) e⟩) (λ_ _ _ _ n=>n)
  (λb o hc e=>⟨o,k b o (λz=>hc (by simp[z])) e⟩) (λ_ _ e=>e) (λ_ _ _ e=>e) (λb ps e=>⟨#[],by rw[e];simp⟩) (λm hm=>?_) (λb u e=>?_) I.bare
 ·have e:b=it:=by simpa using hb
  subst e;exact⟨h1,hL,h2,h3⟩
 ·obtain⟨o,es,ep,ho,r⟩:=hm;exact⟨o,es,ep,k _ o (Ne.symm hL) ho,r⟩
 ·refine (I.hok b u e).stay (λc v hc q=>k c v ?_ q) (λ_ q=>q) λ_ _ q=>q;rcases hc with z | z
  ·rw[z];exact nit b u e
  ·exact nit c _ z
theorem Inv.tok(I:Inv X pins Z H s)(t:Nat):Inv X pins Z H { s with toks:=t }:=I.un (h':=s.heap) (t':=t) Un.refl I.hok
theorem Inv.kept(I:Inv X pins Z H s)(k:∀b u,s.heap.get? b=some u->h'.get? b=some u):Inv X pins Z H { s with heap:=h',toks:=t' }:=I.un (Un.kept k) (I.hok.kept k)
theorem Inv.laid{a:Addr}(I:Inv X pins Z H s)(k:∀b u,s.heap.get? b=some u->h'.get? b=some u)(hp:s.heap.objs.size<=a)(new:ObjOk X.prog X.w (upd H a o) h' a o):
  Inv X pins Z (upd H a o) { s with heap:=h',toks:=t' }:=I.un (Un.laid k hp (I.hok.fresh hp)) (I.hok.laid k hp new)
theorem Inv.write(I:Inv X pins Z H s)(mu:Mut (H x))(he:e=x\/H e=some (.own x))(k:∀b u,b≠e->s.heap.get? b=some u->h'.get? b=some u)(heo:∃u,h'.get? e=some u)(new:ObjOk X.prog X.w (upd H x o) h' x o):Inv X pins Z (upd H x o) { s with heap:=h',toks:=t' }:=I.un (Un.write mu he k heo) (I.hok.write mu he k heo new)
theorem Inv.weak(I:Inv X pins Z H s)(hl:σ'.length=Z.length)(w:∀(i:Nat) v,σ'[i]?=some (some v)->Z[i]?=some (some v)):Inv X pins σ' H s :=
 ⟨I.ok,I.os,I.bare,I.base,let ⟨m,hn,hl'⟩:=I.loc;⟨m,hn,λi x v e1 e2 e3=>hl' i x v e1 (w i v e2) e3⟩,I.cell,I.free,I.freeC,I.pin,I.hok,hl.trans I.len⟩
theorem Inv.pins_of(I:Inv X pins Z H s)(h:∀p∈pins',s.heap.get? p.1=some p.2/\H p.1=none/\p.1≠X.env.locals/\p.1∉X.fs/\∀v,p.2.data≠.cell v):Inv X pins' Z H s :=
 ⟨I.ok,I.os,I.bare,I.base,I.loc,I.cell,I.free,I.freeC,λp hp=>(List.mem_append.mp hp).elim (λz=>I.pin p (List.mem_append_left _ z)) (h p),I.hok,I.len⟩
theorem Uw{N:List Str}(hN:N.Nodup){i j:Nat}(a:N[i]?=some x)(b:N[j]?=some x):i=j:=by
 obtain⟨h1,e1⟩:=List.getElem?_eq_some_iff.mp a;obtain⟨h2,e2⟩:=List.getElem?_eq_some_iff.mp b;exact (List.getElem_inj hN).mp (e1.trans e2.symm)
theorem Jk(I:Inv X pins Z H s)(hN:X.N.Nodup)(hi:X.N[i]?=some x)(hx:Loc X.env.scope x)(r:RelV v u)(h:∀s',Inv X pins (Z.set i (some v)) H s'->(∃a,Heap.SameBut a s.heap s'.heap/\(a=X.env.locals\/X.env.cells.lookup x=some a))->Q () s')(hf:X.fn x=true\/X.env.scope.names.lookup x=some .local:=by first | exact .inl rfl | exact .inr rfl | assumption):wpAny M A (storeName X.env x u) Q E s:=by
 obtain⟨m,hn,hl⟩:=id I.loc;have hcls:(X.env.scope.kind == .class || (X.env.scope.kind == .module && X.env.locals != X.env.globals))=false:=by rw[I.ok.kind];rfl
 have hiσ:i<Z.length:=by rw[I.len];exact (List.getElem?_eq_some_iff.mp hi).1
 have cne:=I.cne;have tracked:∀{a:Addr} {h':Heap},(∃o,s.heap.get? a=some o/\H a=none)->Heap.SameBut a s.heap h'->HOk X.prog X.w H h':=λ{a h'} ha hs b ob e=>by
  obtain⟨_,_,hfree⟩:=ha;refine (I.hok b ob e).stay (λc w' hc q=>(hs.2 c ?_).trans q) (λ_ q=>q) λ_ _ q=>q;rintro rfl;rcases hc with rfl | hc
  ·rw[hfree]at e;cases e
  ·rw[hfree]at hc;cases hc
 rcases hx with hk | hk
 ·refine wpAny_storeName_local hk hn (λh' hn' hs=>?_) hcls;obtain⟨oL,_,_,hoL,_⟩:=id hn;refine h _ ⟨I.ok,I.os,I.bare,⟨λb o e n hb hx=>?_,λb o e n hb hx=>?_,I.base.free,λb o e hx=>?_,I.base.tups,I.base.frzs,I.base.tbls⟩,⟨_,hn',λj y v' e1 e2 e3=>?_⟩,λy c e=>?_,I.free,I.freeC,λp hp=>?_,tracked ⟨oL,hoL,I.free⟩ hs,by simpa using I.len⟩ ⟨_,hs,.inl rfl⟩
  ·exact (hs.2 b (Nat.ne_of_lt (Nat.lt_of_lt_of_le (Heap.lt_size e) I.ok.above))).trans (I.base.keep b o e n hb hx)
  ·obtain⟨sl,e1⟩:=I.base.slot b o e n hb hx;exact⟨sl,(hs.2 b (Nat.ne_of_lt (Nat.lt_of_lt_of_le (Heap.lt_size e) I.ok.above))).trans e1⟩
  ·obtain⟨o',e1⟩:=I.base.there b o e hx;exact⟨o',(hs.2 b (Nat.ne_of_lt (Nat.lt_of_lt_of_le (Heap.lt_size e) I.ok.above))).trans e1⟩
  ·by_cases hj:j=i
   ·subst hj;rw[hi]at e1;cases e1
    rw[List.getElem?_set_self hiσ]at e2;cases e2
    exact⟨u,r,.inl ⟨hk,by simp⟩⟩
   ·rw[List.getElem?_set_ne (Ne.symm hj)]at e2;obtain⟨u',r',q⟩:=hl j y v' e1 e2 e3;refine⟨u',r',?_⟩;rcases q with ⟨k,e⟩ | ⟨k,c,e,z⟩
    ·refine .inl ⟨k,?_⟩;have:y≠x:=λe=>hj (Uw hN e1 (e▸hi));simp[this,e]
    ·exact .inr ⟨k,c,e,z.sameBut hs (cne y c e)⟩
  ·obtain⟨w',z⟩:=I.cell y c e;exact⟨w',z.sameBut hs (cne y c e)⟩
  ·obtain⟨e,n,ne,nf,d⟩:=I.pin p hp;exact⟨(hs.2 p.1 ne).trans e,n,ne,nf,d⟩
 ·have hfn:X.fn x=true:=by
   rcases hf with z | z
   ·exact z
   ·rw[z]at hk;cases hk
  obtain⟨c,hc⟩:=I.ok.has x (.inl hk);obtain⟨w',z⟩:=I.cell x c hc;refine wpAny_storeName_cell I.ok.kind hk hc z (λh' hc' hs=>?_);obtain⟨oc,hoc,hocd⟩:=id z;refine h { s with heap:=h' } ⟨I.ok,I.os,I.bare,⟨λb o e n hb hx=>?_,λb o e n hb hx=>?_,I.base.free,λb o e hx=>?_,I.base.tups,I.base.frzs,I.base.tbls⟩,⟨m,hn.sameBut hs (Ne.symm (cne x c hc)),λj y v' e1 e2 e3=>?_⟩,λy c' e=>?_,I.free,I.freeC,λp hp=>?_,tracked ⟨oc,hoc,I.freeC x c hc⟩ hs,by simpa using I.len⟩ ⟨c,hs,.inr hc⟩
  ·exact (hs.2 b (Nat.ne_of_lt (Nat.lt_of_lt_of_le (Heap.lt_size e) (I.ok.cab x c hfn hc)))).trans (I.base.keep b o e n hb hx)
  ·obtain⟨sl,e1⟩:=I.base.slot b o e n hb hx;exact⟨sl,(hs.2 b (Nat.ne_of_lt (Nat.lt_of_lt_of_le (Heap.lt_size e) (I.ok.cab x c hfn hc)))).trans e1⟩
  ·obtain⟨o',e1⟩:=I.base.there b o e hx;exact⟨o',(hs.2 b (Nat.ne_of_lt (Nat.lt_of_lt_of_le (Heap.lt_size e) (I.ok.cab x c hfn hc)))).trans e1⟩
  ·by_cases hj:j=i
   ·subst hj;rw[hi]at e1;cases e1
    rw[List.getElem?_set_self hiσ]at e2;cases e2
    exact⟨u,r,.inr ⟨.inl hk,c,hc,hc'⟩⟩
   ·rw[List.getElem?_set_ne (Ne.symm hj)]at e2;obtain⟨u',r',q⟩:=hl j y v' e1 e2 e3;refine⟨u',r',?_⟩;rcases q with q | ⟨k,c',e,z'⟩
    ·exact .inl q
    ·refine .inr ⟨k,c',e,z'.sameBut hs ?_⟩;rintro rfl;exact hj (Uw hN e1 (I.ok.inj _ _ _ e hc▸hi))
  ·by_cases hcc:c'=c
   ·subst hcc;exact⟨_,hc'⟩
   ·obtain⟨w2,z2⟩:=I.cell y c' e;exact⟨w2,z2.sameBut hs hcc⟩
  ·obtain⟨e,n,ne,nf,d⟩:=I.pin p hp;refine⟨(hs.2 p.1 ?_).trans e,n,ne,nf,d⟩;intro q;rw[q,hoc]at e;have q':=Option.some.inj e;exact d w' (by rw[<-q'];exact hocd)
theorem Wb(I:Inv X pins Z H s)(hN:X.N.Nodup)(hi:X.N[i]?=some x)(hx:Loc X.env.scope x)(r:RelV v u)(h:∀s',Inv X pins (Z.set i (some v)) H s'->Q () s')(hf:X.fn x=true\/X.env.scope.names.lookup x=some .local:=by first | exact .inl rfl | exact .inr rfl | assumption):wpAny M A (storeName X.env x u) Q E s :=
 Jk I hN hi hx r (λs' I' _=>h s' I') hf
theorem Inv.call'(I:Inv X pins Z H s)(ho:s'.os=s.os)(u:Un (frs X.stack) ch H H' s.heap s'.heap)(hok:HOk X.prog X.w H' s'.heap)(hg:AllBare s'.gens)(hch:∀b∈ch,(b∈X.ex\/X.s₀.heap.objs.size<=b)/\b≠X.env.locals/\(∀x c,X.env.cells.lookup x=some c->c≠b)/\∀p∈X.pn++pins,p.1≠b):Inv X pins Z H' s':=by
 obtain⟨h',g',d',t',o'⟩:=s';have e:=ho;subst e;exact I.call u hok hg hch
end
abbrev XK:=Value->Option Addr->Hp->Prop
abbrev St:=List (Option V)
abbrev VK:=V->Hp->Prop
abbrev TE:=St->Hp->VK->Prop
abbrev TT:=St->Hp->(Bool->Hp->Prop)->Prop
abbrev TA:=St->Hp->(List V->Hp->Prop)->Prop
structure Ends where
 nx:St->Hp->Prop
 rt:VK
 bk:St->Hp->Prop:=λ_ _=>False
 ct:St->Hp->Prop:=λ_ _=>False
abbrev TS:=Ends->St->Hp->Prop
def EP(X:Cx)(pins:List (Addr×Obj))(Z:St)(Q:VK)(u:Value)(s':Shared):Prop:=∃v H',Inv X pins Z H' s'/\RelV v u/\Q v H'
def TP(X:Cx)(pins:List (Addr×Obj))(Z:St)(Q:Bool->Hp->Prop)(b:Bool)(s':Shared):Prop:=∃H',Inv X pins Z H' s'/\Q b H'
def AP(X:Cx)(pins:List (Addr×Obj))(Z:St)(Q:List V->Hp->Prop)(us:List Value)(s':Shared):Prop:=∃vs H',Inv X pins Z H' s'/\Vals vs us/\Q vs H'
def SP(X:Cx)(pins:List (Addr×Obj))(D:Ends)(f:Flow)(s':Shared):Prop :=
 match f with
 |.next=>∃σ' H',Inv X pins σ' H' s'/\D.nx σ' H'
 |.brk=>∃σ' H',Inv X pins σ' H' s'/\D.bk σ' H'
 |.cont=>∃σ' H',Inv X pins σ' H' s'/\D.ct σ' H'
 |.ret u=>∃v σ' H',Inv X pins σ' H' s'/\RelV v u/\D.rt v H'
def PE(X:Cx)(e:Expr)(t:TE):Prop :=
 ∀(pins:List (Addr×Obj)) (s:Shared) (Z:St) (H:Hp) (Q:VK),Inv X pins Z H s->t Z H Q->wpAny (model X.prog X.w) X.A (eval e X.env) (EP X pins Z Q) X.xe s
def PT(X:Cx)(e:Expr)(t:TT):Prop :=
 ∀(pins:List (Addr×Obj)) (s:Shared) (Z:St) (H:Hp) (Q:Bool->Hp->Prop),Inv X pins Z H s->t Z H Q->wpAny (model X.prog X.w) X.A (isTrue e X.env (eval e X.env)) (TP X pins Z Q) X.xe s
def PW(X:Cx)(e:Expr)(t:TT):Prop :=
 ∀(whole:Sem Value) (pins:List (Addr×Obj)) (s:Shared) (Z:St) (H:Hp) (Q:Bool->Hp->Prop),Inv X pins Z H s->t Z H Q->wpAny (model X.prog X.w) X.A (isTrue e X.env whole) (TP X pins Z Q) X.xe s
theorem PW.pt(h:PW X e t):PT X e t:=h _
def PA(X:Cx)(es:List Expr)(t:TA):Prop :=
 ∀(pos:Pos) (pins:List (Addr×Obj)) (s:Shared) (Z:St) (H:Hp) (Q:List V->Hp->Prop),Inv X pins Z H s->t Z H Q->wpAny (model X.prog X.w) X.A (spliced (backTo pos (starEach es X.env))) (AP X pins Z Q) X.xe s
def PS(X:Cx)(st:Stmt)(t:TS):Prop :=
 ∀(pins:List (Addr×Obj)) (s:Shared) (Z:St) (H:Hp) (D:Ends),Inv X pins Z H s->t D Z H->wpAny (model X.prog X.w) X.A (exec st X.env) (SP X pins D) X.xe s
def PSs(X:Cx)(st:List Stmt)(t:TS):Prop :=
 ∀(pins:List (Addr×Obj)) (s:Shared) (Z:St) (H:Hp) (D:Ends),Inv X pins Z H s->t D Z H->wpAny (model X.prog X.w) X.A (execs st X.env) (SP X pins D) X.xe s
theorem thn(h:wpAny M A t Q E s)(hQ:∀a s,Q a s->Q' a s):wpAny M A t Q' E s:=wpAny_mono h hQ λ_ _ x=>x
section
variable {X:Cx}
def zfv(i:Nat):TE:=λZ H Q=>∃v,Z[i]?=some (some v)/\Q v H
def tC(v:V):TE:=λ_ H Q=>Q v H
theorem zge{pos:Pos}(hN:X.N[i]?=some x)(hv:Vis X.env.scope x)(hd:(x == ("__debug__" : Str))=false:=by decide)(hcd:(x == ("__classdict__" : Str))=false:=by decide):PE X (.Name x pos) (zfv i):=by
 intro pins s Z H Q I h;obtain⟨v,e,h⟩:=h;obtain⟨m,hn,hl⟩:=I.loc;obtain⟨u,r,l⟩:=hl i x v hN e hv;have fin:EP X pins Z Q u s:=⟨v,H,I,r,h⟩
 rcases l with ⟨hk,hm⟩ | ⟨hk,c,hc,hcell⟩
 ·exact wpAny_Name (wpAny_loadName_local I.ok.kind hk hn hm fin) hd
 ·rcases hk with hk | hk
  ·exact wpAny_Name (wpAny_loadName_cell I.ok.kind hk hc hcell fin) hd
  ·exact wpAny_Name (wpAny_loadName_free I.ok.kind hk hc hcell fin hcd) hd
theorem zm{i j pos}:PE X (.Constant (.int i) j pos) (tC (.int i)):=λ_ _ _ H _ I h=>wpAny_Constant_int ⟨.int i,H,I.tok _,⟨_,rfl⟩,h⟩
theorem uN{b j pos}:PE X (.Constant (.bool b) j pos) (tC (.bl b)):=λ_ _ _ H _ I h=>Constant_bool ⟨.bl b,H,I,rfl,h⟩
theorem xM{j pos}:PE X (.Constant .none j pos) (tC .non):=λ_ _ _ H _ I h=>Constant_none ⟨.non,H,I,rfl,h⟩
theorem U8{x j pos}:PE X (.Constant (.str x) j pos) (tC (.str x)):=λ_ _ _ H _ I h=>Calls.Constant_str ⟨.str x,H,I.tok _,⟨_,rfl⟩,h⟩
def Gl(X:Cx)(x:Str):Prop:=X.env.kindOf x=some .globalImplicit
theorem YJ{Z:St}(I:Inv X pins Z H s)(hg:Gl X x)(hm:X.mg x=some u)(h:Q u s)(hd:(x == ("__debug__" : Str))=false:=by decide):wpAny (model X.prog X.w) X.A (eval (.Name x pos) X.env) Q E s :=
 Calls.Name_function_global I.ok.kind hg (Calls.loadGlobal_global (by rw[I.ok.glob];exact I.mod.glob.keeps I.bk) hm h) hd
theorem ZV{E:Value->Shared->Prop}{Z:St}{pos:Pos}(I:Inv X pins Z H s)(hg:Gl X x)(hm:X.mg x=none)(hv:bootBuiltins x=some u)(h:Q u s)(hn:x ≠ "__name__":=by decide)(hd:(x == ("__debug__" : Str))=false:=by decide):wpAny (model X.prog X.w) X.A (eval (.Name x pos) X.env) Q E s:=by
 obtain⟨mb,h1,h2⟩:=I.mod.blt;exact Calls.Name_function_global I.ok.kind hg (Calls.loadGlobal_builtin (by rw[I.ok.glob];exact I.mod.glob.keeps I.bk) hm (by rw[I.ok.blt];exact h1.keeps I.bk) ((h2 x hn).trans hv) h) hd
theorem xK(hg:Gl X x)(hm:X.mg x=some u)(r:RelV v u)(hd:(x == ("__debug__" : Str))=false:=by decide):PE X (.Name x pos) (tC v):=
 λ_ _ _ H _ I h=>YJ I hg hm ⟨v,H,I,r,h⟩ hd
theorem ue{pos:Pos}(hg:Gl X x)(hm:X.mg x=none)(hv:bootBuiltins x=some u)(r:RelV v u)(hn:x ≠ "__name__":=by decide)(hd:(x == ("__debug__" : Str))=false:=by decide):PE X (.Name x pos) (tC v):=
 λ_ _ _ H _ I h=>ZV I hg hm hv ⟨v,H,I,r,h⟩ hn hd
variable {a b:Expr} {ta tb:TE} {pos:Pos}
def PC(X:Cx)(op:CmpOp)(a b:Expr)(t:TE):Prop :=
 ∀(pins:List (Addr×Obj)) (s:Shared) (Z:St) (H:Hp) (Q:VK),Inv X pins Z H s->t Z H Q ->
  wpAny (model X.prog X.w) X.A (eval a X.env) (λv s₁=>wpAny (model X.prog X.w) X.A (eval b X.env) (λu s₂=>wpAny (model X.prog X.w) X.A (compareOp op v u) (EP X pins Z Q) X.xe s₂) X.xe s₁) X.xe s
theorem zey(b:Expr)(h:op≠.In)(h2:op≠.NotIn):behindInMarks op b=false:=by
 have e1:(op == CmpOp.In)=false:=by cases op<;>first | rfl | exact absurd rfl h
 have e2:(op == CmpOp.NotIn)=false:=by cases op<;>first | rfl | exact absurd rfl h2
 cases b<;>simp[behindInMarks,e1,e2]
def tB(t:TE):TT:=λZ H Q=>t Z H λx H1=>∃c,x=.bl c/\Q c H1
theorem zdX(h:PC X op a b t)(h1:behindInMarks op b=false:=by first | exact zey _ (by decide) (by decide) | rfl):PT X (.Compare a [op] [b] pos) (tB t):=by
 intro pins s Z H Q I hw;refine wpAny_isTrue_Compare1 (thn (h pins s Z H _ I hw) λv s1 h1=>thn h1 λu s2 h2=>thn h2 λc s3 ⟨x,H1,I1,r1,q1⟩=>?_) h1;obtain⟨d,rfl,q⟩:=q1;cases r1
 exact wpAny_truthy_bool ⟨H1,I1,q⟩
theorem xx(h:PE X e t)(he:∀whole,isTrue e X.env whole=(do let v <-whole;standAt e.pos;holding [v] (truthy v)):=by intro _;rfl):PT X e (tB t):=by
 intro pins s Z H Q I hw;refine isTrue_plain (thn (h pins s Z H _ I hw) λv s1 ⟨x,H1,I1,r1,q1⟩=>?_) (he _);obtain⟨d,rfl,q⟩:=q1;cases r1
 exact wpAny_truthy_bool ⟨H1,I1,q⟩
variable {tA tB':TT} {rest:List Expr}
def zh2(t u:TT):TT:=λZ H Q=>t Z H λc H1=>if c=true then u Z H1 Q else Q false H1
def tOr(t u:TT):TT:=λZ H Q=>t Z H λc H1=>if c=true then Q true H1 else u Z H1 Q
def zhH(t:TT):TT:=λZ H Q=>t Z H λc H1=>Q (!c) H1
theorem YQ(ha:PT X a tA):PW X (.BoolOp .And [a] pos) tA:=by
 intro wh pins s Z H Q I h;refine isTrue_and (thn (ha pins s Z H Q I h) λc s1 e=>?_);cases c with
 |true=>exact isTrue_and_nil e
 |false=>exact e
theorem Zj(ha:PT X a tA):PW X (.BoolOp .Or [a] pos) tA:=by
 intro wh pins s Z H Q I h;refine isTrue_or (thn (ha pins s Z H Q I h) λc s1 e=>?_);cases c with
 |false=>exact isTrue_or_nil e
 |true=>exact e
theorem Vh(ha:PT X a tA)(hb:PW X (.BoolOp .And (b::rest) pos) tB'):PW X (.BoolOp .And (a::b::rest) pos) (zh2 tA tB'):=by
 intro wh pins s Z H Q I h;refine isTrue_and (thn (ha pins s Z H _ I h) λc s1 ⟨H1,I1,q1⟩=>?_);cases c with
 |true=>exact hb wh pins s1 Z H1 Q I1 q1
 |false=>exact⟨H1,I1,q1⟩
theorem Ym(ha:PT X a tA)(hb:PW X (.BoolOp .Or (b::rest) pos) tB'):PW X (.BoolOp .Or (a::b::rest) pos) (tOr tA tB'):=by
 intro wh pins s Z H Q I h;refine isTrue_or (thn (ha pins s Z H _ I h) λc s1 ⟨H1,I1,q1⟩=>?_);cases c with
 |true=>exact⟨H1,I1,q1⟩
 |false=>exact hb wh pins s1 Z H1 Q I1 q1
theorem wD(ha:PT X a tA):PT X (.UnaryOp .Not a pos) (zhH tA):=by
 intro pins s Z H Q I h;exact isTrue_not (ha pins s Z H (λc H1=>Q (!c) H1) I h)
def zg2(ta tb:TE):TE:=λZ H Q=>ta Z H λx H1=>∃c,x=.bl c/\if c=true then tb Z H1 Q else Q (.bl false) H1
def zhI(ta tb:TE):TE:=λZ H Q=>ta Z H λx H1=>∃c,x=.bl c/\if c=true then Q (.bl true) H1 else tb Z H1 Q
def zhq(ta:TE):TE:=λZ H Q=>ta Z H λx H1=>∃c,x=.bl c/\Q (.bl (!c)) H1
theorem qd{op}(h:PE X a t):PE X (.BoolOp op [a] pos) t:=λpins s Z H Q I hw=>BoolOp_one (h pins s Z H Q I hw)
theorem ql(ha:PE X a ta)(hb:PE X (.BoolOp .And (b::rest) pos) tb):PE X (.BoolOp .And (a::b::rest) pos) (zg2 ta tb):=by
 intro pins s Z H Q I h;refine BoolOp_and (thn (ha pins s Z H _ I h) λv s1 ⟨x,H1,I1,r1,q1⟩=>?_);obtain⟨c,rfl,q1⟩:=q1;cases r1
 refine wpAny_truthy_bool ?_;cases c with
 |true=>exact hb pins s1 Z H1 Q I1 q1
 |false=>exact⟨.bl false,H1,I1,rfl,q1⟩
theorem zg7(ha:PE X a ta)(hb:PE X (.BoolOp .Or (b::rest) pos) tb):PE X (.BoolOp .Or (a::b::rest) pos) (zhI ta tb):=by
 intro pins s Z H Q I h;refine BoolOp_or (thn (ha pins s Z H _ I h) λv s1 ⟨x,H1,I1,r1,q1⟩=>?_);obtain⟨c,rfl,q1⟩:=q1;cases r1
 refine wpAny_truthy_bool ?_;cases c with
 |false=>exact hb pins s1 Z H1 Q I1 q1
 |true=>exact⟨.bl true,H1,I1,rfl,q1⟩
theorem zaq(ha:PE X a ta):PE X (.UnaryOp .Not a pos) (zhq ta):=by
 intro pins s Z H Q I h;refine UnaryOp_ (thn (ha pins s Z H _ I h) λv s1 ⟨x,H1,I1,r1,q1⟩=>?_);obtain⟨c,rfl,q1⟩:=q1;cases r1
 exact not_of (wpAny_truthy_bool ⟨.bl (!c),H1,I1,rfl,q1⟩)
def tIf(t:TT)(ta tb:TE):TE:=λZ H Q=>t Z H λc H1=>if c=true then ta Z H1 Q else tb Z H1 Q
theorem zec(hc:PT X c tA)(ha:PE X a ta)(hb:PE X b tb):PE X (.IfExp c a b pos) (tIf tA ta tb):=by
 intro pins s Z H Q I h;refine wpAny_IfExp (thn (hc pins s Z H _ I h) λd s1 ⟨H1,I1,q1⟩=>?_);cases d with
 |true=>exact ha pins s1 Z H1 Q I1 q1
 |false=>exact hb pins s1 Z H1 Q I1 q1
end
def SqL(K:W.Frag)(H:Hp)(a:Addr)(xs:List V):Prop :=
 Rd H a (.lst xs) \/
  ∃o its n,K.lookup a=some o/\o.cls=.type "list"/\o.dict=none/\o.data=.seq its n/\its.size<=sizeLine/\Vals xs its.toList
def SqT(K:W.Frag)(H:Hp)(a:Addr)(xs:List V):Prop :=
 Rd H a (.tup xs) \/
  ∃o its n,K.lookup a=some o/\o.cls=.type "tuple"/\o.data=.seq its n/\its.size<=sizeLine/\Vals xs its.toList
def zh3:Value->Option V
 |.none=>some .non
 |.bool b=>some (.bl b)
 |.int i _=>some (.int i)
 |.str x _=>some (.str x)
 |.bytes b _=>some (.byt b)
 |.float b _=>some (.flt b)
 |.ref a=>some (.ref a)
 |.type n=>some (.ty n)
 |_=>none
theorem RelV.abs(r:RelV x u):zh3 u=some x:=by
 cases x with
 |non=>cases r;rfl
 |bl _=>cases r;rfl
 |int _=>obtain⟨t,rfl⟩:=r;rfl
 |str _=>obtain⟨t,rfl⟩:=r;rfl
 |byt _=>obtain⟨t,rfl⟩:=r;rfl
 |flt _=>obtain⟨t,rfl⟩:=r;rfl
 |ref _=>cases r;rfl
 |ty _=>cases r;rfl
theorem RelV.inj(r:RelV x u)(q:RelV y u):x=y:=Option.some.inj (r.abs.symm.trans q.abs)
theorem Vals.inj:∀{xs ys:List V} {us:List Value},Vals xs us->Vals ys us->xs=ys
 |_,_,_,.nil,.nil=>rfl
 |_,_,_,.cons r t,.cons r' t'=>by rw[r.inj r',Vals.inj t t']
section
variable {X:Cx} {pins:List (Addr×Obj)} {Z:St} {H:Hp} {s:Shared} {a:Addr} {xs ys:List V}
theorem SqL.of{K:W.Frag}(h:H a=some (.lst xs)):SqL K H a xs:=.inl (.inl h)
theorem SqT.of{K:W.Frag}(h:H a=some (.tup xs)):SqT K H a xs:=.inl (.inl h)
theorem Inv.list(I:Inv X pins Z H s)(h:SqL X.K H a xs):∃its:List Value,Vals xs its/\PlainL s.heap a its.toArray/\xs.length<=sizeLine:=by
 rcases h with h | ⟨o,its,n,hk,hc,hd,hs,hz,r⟩
 ·obtain⟨z,its,n,r,e⟩:=h.ok I.hok;exact⟨its,r,⟨_,n,e,rfl,rfl,rfl⟩,z⟩
 ·refine⟨its.toList,r,⟨o,n,I.kIn a o hk,hc,hd,by simpa using hs⟩,?_⟩;have e:=r.length;simp only[Array.length_toList]at e;omega
theorem Inv.tuple(I:Inv X pins Z H s)(h:SqT X.K H a xs):∃its:List Value,Vals xs its/\IsTup s.heap a its.toArray/\xs.length<=sizeLine:=by
 rcases h with h | ⟨o,its,n,hk,hc,hs,hz,r⟩
 ·obtain⟨z,its,r,p⟩:=h.ok I.hok;exact⟨its,r,p,z⟩
 ·refine⟨its.toList,r,⟨o,I.kIn a o hk,hc,n,by simpa using hs⟩,?_⟩;have e:=r.length;simp only[Array.length_toList]at e;omega
theorem Inv.list_inj(I:Inv X pins Z H s)(h:SqL X.K H a xs)(h':SqL X.K H a ys):xs=ys:=by
 obtain⟨its,r,⟨o,n,e,_,_,d⟩,_⟩:=I.list h;obtain⟨its',r',⟨o',n',e',_,_,d'⟩,_⟩:=I.list h';rw[e]at e';cases e'
 rw[d]at d';injection d' with d1 _
 have:its=its':=by simpa using congrArg Array.toList d1
 subst this;exact r.inj r'
theorem Inv.tuple_inj(I:Inv X pins Z H s)(h:SqT X.K H a xs)(h':SqT X.K H a ys):xs=ys:=by
 obtain⟨its,r,⟨o,e,_,n,d⟩,_⟩:=I.tuple h;obtain⟨its',r',⟨o',e',_,n',d'⟩,_⟩:=I.tuple h';rw[e]at e';cases e'
 rw[d]at d';injection d' with d1 _
 have:its=its':=by simpa using congrArg Array.toList d1
 subst this;exact r.inj r'
end
abbrev Cx.wish(X:Cx)(E:Value->Shared->Prop):Cx:={ X with xe:=E }
abbrev Cx.nox(X:Cx):Cx:=X.wish λ_ _=>False
theorem Cx.Ok.wish{X:Cx}(ok:X.Ok)(E:Value->Shared->Prop):(X.wish E).Ok :=
 ⟨ok.mod,ok.kind,ok.glob,ok.blt,ok.above,ok.inj,ok.has,ok.cab,ok.hd,ok.frames,ok.stk,ok.exf,ok.bs,ok.bsz,ok.noex,ok.exfs,ok.funs,ok.frf⟩
theorem Cx.Ok.unwish{X:Cx}(ok:(X.wish E).Ok):X.Ok :=
 ⟨ok.mod,ok.kind,ok.glob,ok.blt,ok.above,ok.inj,ok.has,ok.cab,ok.hd,ok.frames,ok.stk,ok.exf,ok.bs,ok.bsz,ok.noex,ok.exfs,ok.funs,ok.frf⟩
section
variable {X:Cx} {pins:List (Addr×Obj)} {Z:St} {H:Hp} {s:Shared} {E:Value->Shared->Prop}
theorem Inv.wish(I:Inv X pins Z H s)(E:Value->Shared->Prop):Inv (X.wish E) pins Z H s:=⟨I.ok.wish E,I.os,I.bare,I.base,I.loc,I.cell,I.free,I.freeC,I.pin,I.hok,I.len⟩
theorem Inv.unwish(I:Inv (X.wish E) pins Z H s):Inv X pins Z H s:=⟨I.ok.unwish,I.os,I.bare,I.base,I.loc,I.cell,I.free,I.freeC,I.pin,I.hok,I.len⟩
theorem SP.unwish(h:SP (X.wish E) pins D f s'):SP X pins D f s':=by
 cases f with
 |next=>obtain⟨σ',H',I,q⟩:=h;exact⟨σ',H',I.unwish,q⟩
 |brk=>obtain⟨σ',H',I,q⟩:=h;exact⟨σ',H',I.unwish,q⟩
 |cont=>obtain⟨σ',H',I,q⟩:=h;exact⟨σ',H',I.unwish,q⟩
 |ret u=>obtain⟨v,σ',H',I,r,q⟩:=h;exact⟨v,σ',H',I.unwish,r,q⟩
theorem PSs.nox{st:List Stmt}(h:PSs X.nox st t):PSs X st t:=λpins s Z H D I hw=>
 wpAny_mono (h pins s Z H D (I.wish _) hw) (λ_ _ q=>q.unwish) λ_ _ z=>False.elim z
end
section
variable {X:Cx} {st:Stmt} {rest:List Stmt} {t u:TS} {e:Expr} {te:TE} {pos:Pos}
def zhy:TS:=λD Z H=>D.nx Z H
def Uy(t u:TS):TS:=λD Z H=>t { D with nx:=u D } Z H
theorem zP:PSs X [] zhy:=λ_ _ Z H _ I h=>wpAny_execs_nil ⟨Z,H,I,h⟩
theorem zj(h1:PS X st t)(h2:PSs X rest u):PSs X (st::rest) (Uy t u):=by
 intro pins s Z H D I h;refine wpAny_execs_cons (thn (h1 pins s Z H { D with nx:=u D } I h) λf s1 q=>?_);cases f with
 |next=>
  obtain⟨σ',H',I',q⟩:=q;exact h2 pins s1 σ' H' D I' q
 |ret v=>exact q
 |brk=>exact q
 |cont=>exact q
theorem zu(h1:PS X st t):PSs X [st] t:=by
 intro pins s Z H D I h;refine wpAny_execs_cons (thn (h1 pins s Z H D I h) λf s1 q=>?_);cases f with
 |next=>exact wpAny_execs_nil q
 |ret v=>exact q
 |brk=>exact q
 |cont=>exact q
theorem Inv.quiet{Z:St}(I:Inv X pins Z H s):interactive X.env=false:=by simp[interactive,I.ok.kind]
def zhm(te:TE):TS:=λD Z H=>te Z H λ_ H1=>D.nx Z H1
theorem wI(he:PE X e te)(hs:swapsWith e none pos.line X.env=pure false:=by rfl):PS X (.Expr e pos) (zhm te):=by
 intro pins s Z H D I h;exact wpAny_Expr_any (thn (he pins s Z H _ I h) λv s1 ⟨x,H1,I1,r1,q1⟩=>⟨Z,H1,I1,q1⟩) I.quiet hs
def zg0(te:TE):TS:=λD Z H=>te Z H D.rt
theorem zG(he:PE X e te):PS X (.Return (some e) pos) (zg0 te):=by
 intro pins s Z H D I h;exact wpAny_Return_some (thn (he pins s Z H _ I h) λv s1 ⟨x,H1,I1,r1,q1⟩=>⟨x,Z,H1,I1,r1,q1⟩)
def zh0(c:TT)(t u:TS):TS:=λD Z H=>c Z H λb H1=>if b=true then t D Z H1 else u D Z H1
theorem yG(hc:PT X c tc)(ha:PSs X a t)(hb:PSs X b u):PS X (.If c a b pos) (zh0 tc t u):=by
 intro pins s Z H D I h;refine wpAny_If (thn (hc pins s Z H _ I h) λd s1 ⟨H1,I1,q1⟩=>?_);cases d with
 |true=>exact ha pins s1 Z H1 D I1 q1
 |false=>exact hb pins s1 Z H1 D I1 q1
def zgy:TS:=λ_ _ _=>False
theorem WK:PS X st zgy:=λ_ _ _ _ _ _ h=>h.elim
end
abbrev TG:=V->St->Hp->(St->Hp->Prop)->Prop
abbrev TGs:=List V->St->Hp->(St->Hp->Prop)->Prop
def PG(X:Cx)(target:Expr)(t:TG):Prop :=
 ∀(pins:List (Addr×Obj)) (s:Shared) (Z:St) (H:Hp) (v:V) (u:Value) (Q:St->Hp->Prop),Inv X pins Z H s->RelV v u->t v Z H Q ->
  wpAny (model X.prog X.w) X.A (assign target X.env u) (λ_ s'=>∃σ' H',Inv X pins σ' H' s'/\Q σ' H') X.xe s
def PGs(X:Cx)(ts:List Expr)(t:TGs):Prop :=
 ∀(pins:List (Addr×Obj)) (s:Shared) (Z:St) (H:Hp) (vs:List V) (us:List Value) (Q:St->Hp->Prop),Inv X pins Z H s->Vals vs us->t vs Z H Q ->
  wpAny (model X.prog X.w) X.A (assignInOrder ((assignEach ts X.env).map (·.2)) us) (λ_ s'=>∃σ' H',Inv X pins σ' H' s'/\Q σ' H') X.xe s
abbrev zgh:=V->V->V->Hp->(Hp->Prop)->Prop
def zhD(X:Cx)(t:zgh):Prop :=
 ∀(pins:List (Addr×Obj)) (s:Shared) (Z:St) (H:Hp) (o i v:V) (ov iv u:Value) (Q:Hp->Prop),Inv X pins Z H s->RelV o ov->RelV i iv->RelV v u->t o i v H Q ->
  wpAny (model X.prog X.w) X.A (setItem ov iv u) (λ_ s'=>∃H',Inv X pins Z H' s'/\Q H') X.xe s
abbrev TIp:=V->V->Hp->VK->Prop
def PIp(X:Cx)(op:Operator)(t:TIp):Prop :=
 ∀(pins:List (Addr×Obj)) (s:Shared) (Z:St) (H:Hp) (x y:V) (v u:Value) (Q:VK),Inv X pins Z H s->RelV x v->RelV y u->t x y H Q ->
  wpAny (model X.prog X.w) X.A (inplaceOp op v u) (EP X pins Z Q) X.xe s
section
variable {X:Cx} {pos:Pos}
def X5(i:Nat):TG:=λv Z H Q=>Q (Z.set i (some v)) H
theorem zV(hN:X.N.Nodup)(hi:X.N[i]?=some x)(hx:Loc X.env.scope x)(hf:X.fn x=true\/X.env.scope.names.lookup x=some .local:=by first | exact .inl rfl | exact .inr rfl | assumption):PG X (.Name x pos) (X5 i):=by
 intro pins s Z H v u Q I r h;exact wpAny_assign_Name (Wb I hN hi hx r (λs' I'=>⟨_,H,I',h⟩) hf)
def zh1:TGs:=λvs Z H Q=>vs=[]/\Q Z H
def zhB(t:TG)(u:TGs):TGs:=λvs Z H Q=>Ex2 λv r=>vs=v::r/\t v Z H fun σ' H'=>u r σ' H' Q
theorem X8:PGs X [] zh1:=by
 intro pins s Z H vs us Q I r h;obtain⟨e,h⟩:=h;subst e;cases r
 exact assignInOrder_nil ⟨Z,H,I,h⟩
theorem wN(h1:PG X e t)(h2:PGs X es u)(hs:(assignEach (e::es) X.env).map (·.2)=assign e X.env::(assignEach es X.env).map (·.2):=by rfl):PGs X (e::es) (zhB t u):=by
 intro pins s Z H vs us Q I r h;obtain⟨v,vr,e1,h⟩:=h;subst e1;cases r with
 |cons r rr=>
  rw[hs];refine assignInOrder_cons (thn (h1 pins s Z H _ _ _ I r h) λ_ s1 ⟨σ1,H1,I1,q1⟩=>?_);exact h2 pins s1 σ1 H1 _ _ Q I1 rr q1
def zht(K:W.Frag)(n:Nat)(t:TGs):TG:=λv Z H Q=>Ex2 λa xs=>v=.ref a/\SqT K H a xs/\xs.length=n/\t xs Z H Q
theorem zab{k:Nat}(hc:X.calm=true)(h:PGs X es t)(hn:(assignEach es X.env).length=n:=by rfl)(hst:(assignEach es X.env).findIdx? (·.1)=none:=by rfl):PG X (.Tuple es k pos) (zht X.K n t):=by
 intro pins s Z H v u Q I r hw;obtain⟨a,xs,e1,hq,hl,hw⟩:=hw;subst e1;cases r
 obtain⟨its,rv,ht,hz⟩:=I.tuple hq;refine assign_Tuple_tuple (I.ok.hd hc) ht (by simp[hn,<-hl,rv.length]) hst λh' hx=>?_;have I1:=I.kept (t':=s.toks) λb o e=>hx b o (Nat.ne_of_lt (Heap.lt_size e)) e;exact h pins _ Z H xs _ Q I1 (by simpa using rv) hw
def zhL(to ti:TE)(t:zgh):TG:=λv Z H Q=>to Z H λo H1=>ti Z H1 λi H2=>t o i v H2 λH3=>Q Z H3
theorem zgT(ho:PE X o to)(hi:PE X i ti)(hs:zhD X t)(ha:∀v,assign (.Subscript o i pos) X.env v=(do
   let ov <-holding [v] (eval o X.env);let iv <-holding [v,ov] (eval i X.env)
   standAt pos
   holding [v,ov,iv] (setItem ov iv v)
   release [v,ov,iv] []):=by intro _;rfl):PG X (.Subscript o i pos) (zhL to ti t):=by
 intro pins s Z H v u Q I r h;refine wpAny_bind (wpAny_holding (thn (ho pins s Z H _ I h) λov s1 ⟨x,H1,I1,r1,q1⟩=>?_));refine wpAny_bind (wpAny_holding (thn (hi pins s1 Z H1 _ I1 q1) λiv s2 ⟨y,H2,I2,r2,q2⟩=>?_));refine wpAny_bind (wpAny_standAt (wpAny_bind (wpAny_holding (thn (hs pins s2 Z H2 x y v ov iv u _ I2 r1 r2 r q2) λ_ s3 ⟨H3,I3,q3⟩=>?_))));exact wpAny_release ⟨Z,H3,I3,q3⟩
def zcf(te:TE)(g:TG):TS:=λD Z H=>te Z H λx H1=>g x Z H1 D.nx
theorem zgu(he:PE X e te)(hg:PG X tg g)(hs:swapsWithSole [tg] e pos.line X.env=pure false:=by rfl)(hw:swappedStores [tg] e X.env=pure none:=by rfl)(h1:(assignEach [tg] X.env).map (·.2)=[assign tg X.env]:=by rfl):PS X (.Assign [tg] e pos) (zcf te g):=by
 intro pins s Z H D I h;refine wpAny_Assign_stores (thn (he pins s Z H _ I h) λv s1 ⟨x,H1,I1,r1,q1⟩=>?_) hs hw;rw[h1];exact thn (hg pins s1 Z H1 x v _ I1 r1 q1) λ_ s2 q=>q
theorem zA(hN:X.N.Nodup)(hi:X.N[i]?=some x)(hx:Loc X.env.scope x)(he:PE X e te)(hs:swapsWith e (some (.Name x pos')) pos.line X.env=pure false:=by rfl)(hf:X.fn x=true\/X.env.scope.names.lookup x=some .local:=by first | exact .inl rfl | exact .inr rfl | assumption):
  PS X (.Assign [.Name x pos'] e pos) (zcf te (X5 i)):=by
 intro pins s Z H D I h;refine wpAny_Assign_Name (thn (he pins s Z H _ I h) λv s1 ⟨y,H1,I1,r1,q1⟩=>?_) hs;exact Wb I1 hN hi hx r1 (λs2 I2=>⟨_,H1,I2,q1⟩) hf
def zhX(i:Nat)(te:TE)(ti:TIp):TS:=λD Z H=>∃x,Z[i]?=some (some x)/\te Z H λy H1=>ti x y H1 λz H2=>D.nx (Z.set i (some z)) H2
theorem zgQ(hN:X.N.Nodup)(hi:X.N[i]?=some x)(hx:Loc X.env.scope x)(he:PE X e te)(ho:PIp X op ti)(hf:X.fn x=true\/X.env.scope.names.lookup x=some .local:=by first | exact .inl rfl | exact .inr rfl | assumption):
  PS X (.AugAssign (.Name x pos') op e pos) (zhX i te ti):=by
 intro pins s Z H D I h;obtain⟨v,e1,h⟩:=h;obtain⟨m,hn,hl⟩:=I.loc;have vis:Vis X.env.scope x:=by rcases hx with k | k;exact .inl k;exact .inr (.inl k)
 obtain⟨u,r,l⟩:=hl i x v hi e1 vis;refine wpAny_AugAssign_Name ?_;have go:wpAny (model X.prog X.w) X.A (eval e X.env) (λw s₂=>wpAny (model X.prog X.w) X.A (inplaceOp op u w) (λr s₃=>wpAny (model X.prog X.w) X.A (storeName X.env x r) (λ_=>SP X pins D .next) X.xe s₃) X.xe s₂) X.xe s:=by
  refine thn (he pins s Z H _ I h) λw s1 ⟨y,H1,I1,r1,q1⟩=>?_;refine thn (ho pins s1 Z H1 v y u w _ I1 r r1 q1) λz s2 ⟨zv,H2,I2,r2,q2⟩=>?_;exact Wb I2 hN hi hx r2 (λs3 I3=>⟨_,H2,I3,q2⟩) hf
 rcases l with ⟨hk,hm⟩ | ⟨hk,c,hc,hcell⟩
 ·exact wpAny_loadName_local I.ok.kind hk hn hm go
 ·rcases hk with hk | hk
  ·exact wpAny_loadName_cell I.ok.kind hk hc hcell go
  ·rcases hx with k | k
   ·have:X.env.scope.names.lookup x=some .free:=hk;rw[k]at this;cases this
   ·have:X.env.scope.names.lookup x=some .free:=hk;rw[k]at this;cases this
def ipI(f:Int->Int->Int):TIp:=λx y H Q=>Ex2 λi j=>x=.int i/\y=.int j/\Q (.int (f i j)) H
theorem zgr:PIp X .Add (ipI λi j=>i+j):=by
 intro pins s Z H x y v u Q I r1 r2 h;obtain⟨i,j,e1,e2,q⟩:=h;subst e1;subst e2;obtain⟨t,rfl⟩:=r1;obtain⟨t',rfl⟩:=r2;exact iadd_int ⟨.int _,H,I.tok _,⟨_,rfl⟩,q⟩
def zeI(c:TT)(tb:TS):TS:=λD Z H=>∃W:Nat->St->Hp->Prop,(∃m,W m Z H)/\∀m Z H,W m Z H ->
 c Z H λb H1=>if b=true then ∃N:St->Hp->Prop,(∀σ' H',N σ' H'->∃m',m'<m/\W m' σ' H')/\tb { D with nx:=N,ct:=N,bk:=D.nx } Z H1 else D.nx Z H1
theorem Yz(hp:PassesOwn (model X.prog X.w) X.A X.env X.xe)(hc:PT X c tc)(hb:PSs X body tb):PS X (.While c body [] pos) (zeI tc tb):=by
 intro pins s Z H D I h;obtain⟨W,⟨m0,w0⟩,turn⟩:=h;refine wpAny_While (codeAny_whileLoop (λn s'=>∃σ' H',Inv X pins σ' H' s'/\W n σ' H') ?_ m0 ⟨Z,H,I,w0⟩);rintro n s1 ⟨σ1,H1,I1,w1⟩;refine wpAny_passesOwn hp (thn (hc pins s1 σ1 H1 _ I1 (turn n σ1 H1 w1)) λb s2 ⟨H2,I2,q2⟩=>?_);cases b with
 |true=>
  obtain⟨N,hN,q2⟩:=q2;refine wpAny_passesOwn hp (thn (hb pins s2 σ1 H2 _ I2 q2) λf s3 q3=>?_);cases f with
  |next=>
   obtain⟨σ3,H3,I3,n3⟩:=q3;obtain⟨m',hm,w3⟩:=hN σ3 H3 n3;exact⟨m',hm,σ3,H3,I3,w3⟩
  |cont=>
   obtain⟨σ3,H3,I3,n3⟩:=q3;obtain⟨m',hm,w3⟩:=hN σ3 H3 n3;exact⟨m',hm,σ3,H3,I3,w3⟩
  |brk=>exact q3
  |ret v=>exact q3
 |false=>
  exact wpAny_execs_nil ⟨σ1,H2,I2,q2⟩
end
structure It where
 go:Nat->Hp->Prop
 yld:Nat->Hp->V->Hp->Prop
 stop:Nat->Hp->Prop
def U6(X:Cx)(pins:List (Addr×Obj))(H:Hp)(b:Addr):Prop :=
 H b=none/\b≠X.env.locals/\b∉X.fs/\(b∈X.ex\/X.s₀.heap.objs.size<=b)/\(∀x c,X.env.cells.lookup x=some c->c≠b)/\∀p∈X.pn++pins,p.1≠b
theorem Inv.fpOk{Z:St}{b:Addr}(I:Inv X pins Z H s)(hb:s.heap.objs.size<=b)(hn:H' b=none):U6 X pins H' b:=by
 refine⟨hn,Nat.ne_of_gt (Nat.lt_of_lt_of_le I.lt hb),I.nofs hb,.inr (Nat.le_trans I.sz hb),λx c e z=>?_,λp hp z=>?_⟩
 ·obtain⟨v,q⟩:=I.cell x c e;exact absurd (Nat.lt_of_lt_of_le q.lt (by rw[z];exact hb)) (Nat.lt_irrefl _)
 ·exact absurd (Nat.lt_of_lt_of_le (Heap.lt_size (I.pin p hp).1) (by rw[z];exact hb)) (Nat.lt_irrefl _)
structure Turn (P:Program) (w:World) (K:W.Frag) (tg:Expr) (J:It) (fp:List Addr) (it:Addr) (tn:Nat->Heap->Prop):Prop where
 mem:it∈fp
 obj:∀i h,tn i h->∀b∈fp,∃o,h.get? b=some o/\∀v,o.data≠.cell v
 keep:∀i h h',tn i h->(∀b∈fp,∀o,h.get? b=some o->h'.get? b=some o)->tn i h'
 item:∀(X:Cx),X.prog=P->X.w=w->X.K=K->X.calm=true->∀(i:Nat) (pins:List (Addr×Obj)) (s:Shared) (Z:St) (H:Hp) (E:Value->Shared->Prop),Inv X pins Z H s->(∀b∈fp,U6 X pins H b)->tn i s.heap->J.go i H ->
  wpAny (model P w) X.A (pyNext (.ref it)) (λr s1=>∃u,r=some u /\
   wpAny (model P w) X.A (letOwnedTupleGo tg (.ref it) u) (λ_ s2=>∃x H',Inv X pins Z H' s2/\RelV x u/\J.yld i H x H'/\tn (i+1) s2.heap/\∀b∈fp,H' b=none) E s1) E s
 done:∀(X:Cx),X.prog=P->X.w=w->X.K=K->X.calm=true->∀(i:Nat) (pins:List (Addr×Obj)) (s:Shared) (Z:St) (H:Hp) (E:Value->Shared->Prop),Inv X pins Z H s->(∀b∈fp,U6 X pins H b)->tn i s.heap->J.stop i H ->
  wpAny (model P w) X.A (pyNext (.ref it)) (λr s1=>r=none/\Inv X pins Z H s1) E s
 self:∀(A:Around) (i:Nat) (s:Shared) (Q:Value->Shared->Prop) (E:Value->Shared->Prop),tn i s.heap->Q (.ref it) s->wpAny (model P w) A (pyIter (.ref it)) Q E s
abbrev TI:=St->Hp->(It->Hp->Prop)->Prop
def PIE(X:Cx)(pins:List (Addr×Obj))(Z:St)(tg:Expr)(R:It->Hp->Prop)(itv:Value)(s2:Shared):Prop :=
 ∃it fp tn J H',itv=.ref it/\Inv X pins Z H' s2/\Turn X.prog X.w X.K tg J fp it tn/\tn 0 s2.heap/\(∀b∈fp,U6 X pins H' b)/\R J H'
def PI(X:Cx)(tg iter:Expr)(wi:TI):Prop :=
 ∀(pins:List (Addr×Obj)) (s:Shared) (Z:St) (H:Hp) (R:It->Hp->Prop),Inv X pins Z H s->wi Z H R ->
  wpAny (model X.prog X.w) X.A (eval iter X.env) (λv s1=>wpAny (model X.prog X.w) X.A (pyIter v) (PIE X pins Z tg R) X.xe s1) X.xe s
theorem zeD(ho:s.heap.get? it=some o)(hc:o.cls=.type n)(hd:o.data=.fields vs)(hn:["enumerate","zip","dict_itemiterator","dict_reverseitemiterator","odict_iterator","itertools.zip_longest","itertools.pairwise"].contains n=false)(hQ:Q () s):wpAny M A (letOwnedTupleGo tg (.ref it) u) Q E s:=by
  cases tg<;>first
    |exact wpAny_pure hQ
    | (cases u<;>first
        |exact wpAny_pure hQ
        | (refine wpAny_bind (wpAny_load ho ?_)
           rw[hc,hd];show wpAny M A (if (["enumerate","zip","dict_itemiterator","dict_reverseitemiterator","odict_iterator","itertools.zip_longest","itertools.pairwise"].contains n && vs[0]? == some (rawInt _))=true then _ else _) Q E s;rw[if_neg (by intro h;rw[hn,Bool.false_and]at h;cases h)];exact wpAny_pure hQ))
def Itl(K:W.Frag)(a:Addr):It :=
 ⟨λi H=>∃xs x,SqL K H a xs/\xs[i]?=some x,λi H x H'=>H'=H/\∀xs,SqL K H a xs->xs[i]?=some x,λi H=>∃xs,SqL K H a xs/\xs.length<=i⟩
def Itr(lo:Int)(n:Nat):It:=⟨λi _=>i<n,λi H x H'=>H'=H/\x=.int (lo+i),λi _=>n<=i⟩
theorem zdj{P:Program}{w:World}{K:W.Frag}{tg:Expr}(a it:Addr):Turn P w K tg (Itl K a) [it] it (λi h=>h.IsListIter it a i) where
 mem:=by simp
 obj:=λi h st b hb=>by
  have e:b=it:=by simpa using hb
  subst e;obtain⟨o,e,c,d⟩:=st;exact⟨o,e,λv z=>by rw[d]at z;cases z⟩
 keep:=λi h h' st k=>st.at λo e=>k it (by simp) o e
 item:=by
  intro X hP hw hK hc i pins s Z H E I hf st hg;subst hP hw hK;obtain⟨xs,x,hq,hx⟩:=hg;obtain⟨its,rv,p,hz⟩:=I.list hq;obtain⟨u,hu,ru⟩:=rv.get hx;obtain⟨f0,f1,f2,f3,f4,f5⟩:=hf it (by simp);refine wpAny_pyNext_list_item st p.isList (by simpa using hu) λh' st' sb=>?_;have I1:=I.turned (t':=s.toks) (λb o hb e=>(sb.2 b hb).trans e) f0 f1 f3 f4 f5;obtain⟨o,e,c,d⟩:=id st';exact⟨u,rfl,zeD e c d (by decide) ⟨x,H,I1,ru,⟨rfl,λys hy=>by rw[I.list_inj hy hq];exact hx⟩,st',λb hb=>(hf b hb).1⟩⟩
 done:=by
  intro X hP hw hK hc i pins s Z H E I hf st hg;subst hP hw hK;obtain⟨xs,hq,hx⟩:=hg;obtain⟨its,rv,p,hz⟩:=I.list hq;obtain⟨f0,f1,f2,f3,f4,f5⟩:=hf it (by simp);have hl:=rv.length;exact wpAny_pyNext_list_end (I.ok.hd hc) st p.isList (by simp;omega) λh' eb=>⟨rfl,I.turned (λb o hb e=>eb b o hb e) f0 f1 f3 f4 f5⟩
 self:=λ_ _ _ _ _ st h=>wpAny_pyIter_listiter st h
theorem zcc{P:Program}{w:World}{K:W.Frag}{tg:Expr}(it:Addr)(lo:Int)(n:Nat):Turn P w K tg (Itr lo n) [it] it (λi h=>IsRangeIter h it (lo+(i:Nat)*1) ((n:Int)-(i:Nat)) 1) where
 mem:=by simp
 obj:=λi h st b hb=>by
  have e:b=it:=by simpa using hb
  subst e;exact⟨_,st,λv z=>by
   have z':=z;cases z'⟩
 keep:=λi h h' st k=>k it (by simp) _ st
 item:=by
  intro X hP hw hK hc i pins s Z H E I hf st hg;subst hP hw hK;obtain⟨f0,f1,f2,f3,f4,f5⟩:=hf it (by simp);have W:=Walks.range (prog:=X.prog) (w:=X.w) (I.ok.hd hc) it lo 1 n;refine W.item i s _ _ hg st λv h' tk hv st' kk=>?_;obtain⟨t,rfl⟩:=hv;have I1:Inv X pins Z H { s with heap:=h',toks:=tk }:=I.turned (λb o hb e=>kk b o (by simpa using hb) e) f0 f1 f3 f4 f5;refine⟨_,rfl,zeD st' rfl rfl (by decide) ⟨.int (lo+i),H,I1,⟨t,?_⟩,⟨rfl,rfl⟩,st',λb hb=>(hf b hb).1⟩⟩;rw[Int.mul_one]
 done:=by
  intro X hP hw hK hc i pins s Z H E I hf st hg;subst hP hw hK;obtain⟨f0,f1,f2,f3,f4,f5⟩:=hf it (by simp);exact wpAny_pyNext_range_end (I.ok.hd hc) st (by have:n<=i:=hg;omega) λh' eb=>⟨rfl,I.turned (λb o hb e=>eb b o hb e) f0 f1 f3 f4 f5⟩
 self:=λ_ _ _ _ _ st h=>wpAny_pyIter_rangeiter st h
section
variable {X:Cx} {tg:Expr}
def zf1(K:W.Frag)(tl:TE):TI:=λZ H R=>tl Z H λx H1=>∃a,x=.ref a/\(∃xs,SqL K H1 a xs)/\R (Itl K a) H1
theorem zfP(hl:PE X l tl):PI X tg l (zf1 X.K tl):=by
 intro pins s Z H R I h;refine thn (hl pins s Z H _ I h) λv s1 ⟨x,H1,I1,r1,q1⟩=>?_;obtain⟨a,e,⟨xs,hq⟩,q⟩:=q1;subst e;cases r1
 obtain⟨its,rv,p,hz⟩:=I1.list hq;refine wpAny_pyIter_list p.isList ?_;refine⟨s1.heap.objs.size,[s1.heap.objs.size],_,_,H1,rfl,I1.kept λb o e=>Heap.get?_push_of_some _ e,zdj a _,⟨_,Heap.get?_push_size _ rfl,rfl,rfl⟩,λb hb=>?_,q⟩;have e:b=s1.heap.objs.size:=by simpa using hb
 subst e;exact I1.fpOk (Nat.le_refl _) (I1.hok.fresh (Nat.le_refl _))
theorem za4{Z:St}{lo hi:Int}(I:Inv X pins Z H s)(h1:-(2^62)<=lo)(h2:lo<2^62)(h3:-(2^62)<=hi)(h4:hi<2^62)(q:R (Itr lo (hi-lo).toNat) H):wpAny (model X.prog X.w) X.A (pyIter (.ref s.heap.objs.size)) (PIE X pins Z tg R) E { s with heap:=s.heap.push { cls:=.type "range",data:=.fields #[.int lo t,.int hi u,.int 1 v] },toks:=tk }:=by
 refine wpAny_pyIter_range (IsRange.new ..) (small_one h1 h2 h3 h4) ?_;have I1:Inv X pins Z H { s with heap:=s.heap.push { cls:=.type "range",data:=.fields #[.int lo t,.int hi u,.int 1 v] },toks:=tk }:=I.kept λb o e=>Heap.get?_push_of_some _ e;refine⟨(s.heap.push { cls:=.type "range",data:=.fields #[.int lo t,.int hi u,.int 1 v] }).objs.size,[(s.heap.push { cls:=.type "range",data:=.fields #[.int lo t,.int hi u,.int 1 v] }).objs.size],_,_,H,rfl,
  I1.kept λb o e=>Heap.get?_push_of_some _ e,zcc _ lo (hi-lo).toNat,?_,λb hb=>?_,q⟩
 ·have e1:lo+((0:Nat))*1=lo:=by simp
  have e2:(((hi-lo).toNat:Nat))-((0:Nat))=Builtin.Range.rangeSize lo hi 1:=by rw[rangeSize_one];split<;>omega
  rw[e1,e2];exact Heap.get?_push_size _ rfl
 ·have e:b=(s.heap.push { cls:=.type "range",data:=.fields #[.int lo t,.int hi u,.int 1 v] }).objs.size:=by simpa using hb
  subst e;exact I1.fpOk (Nat.le_refl _) (I1.hok.fresh (Nat.le_refl _))
def zhv(ta:TA):TI:=λZ H R=>ta Z H λvs H1=>∃j:Int,vs=[.int j]/\-(2^62)<=j/\j<2^62/\R (Itr 0 j.toNat) H1
def zhG(ta:TA):TI:=λZ H R=>ta Z H λvs H1=>Ex2 λi j=>vs=[.int i,.int j]/\(-(2^62)<=i/\i<2^62/\-(2^62)<=j/\j<2^62)/\R (Itr i (j-i).toNat) H1
theorem yt(hg:Gl X "range")(hm:X.mg "range"= none)(ha:PA X [a] ta)(hs:starEach [a] X.env=[(false,eval a X.env)]:=by rfl):PI X tg (.Call (.Name "range" p) [a] [] pos) (zhv ta):=by
 intro pins s Z H R I h;refine Call_ (ZV I hg hm boot_range (PyProof.Rows.callWith_type1 (thn (ha pos pins s Z H _ I h) λus s1 ⟨vs,H1,I1,r1,q1⟩=>?_) hs rfl));obtain⟨j,e,q1,q2,q⟩:=q1;subst e;cases r1 with
 |cons r rr=>
  cases rr;obtain⟨t,rfl⟩:=r
  exact call_range_1 (za4 I1 (by omega) (by omega) q1 q2 (by simpa using q))
theorem YL{p pos:Pos}(hg:Gl X "range")(hm:X.mg "range"= none)(ha:PA X [a,b] ta)(hs:starEach [a,b] X.env=[(false,eval a X.env),(false,eval b X.env)]:=by rfl)(hs2:starEach [b] X.env=[(false,eval b X.env)]:=by rfl):
  PI X tg (.Call (.Name "range" p) [a,b] [] pos) (zhG ta):=by
 intro pins s Z H R I h;refine Call_ (ZV I hg hm boot_range (PyProof.Rows.callWith_type1 (thn (ha pos pins s Z H _ I h) λus s1 ⟨vs,H1,I1,r1,q1⟩=>?_) (by rw[hs,hs2]) (by rw[hs2];rfl)));obtain⟨i,j,e,⟨q1,q2,q3,q4⟩,q⟩:=q1;subst e;cases r1 with
 |cons r rr=>
  cases rr with
  |cons r' rr=>
   cases rr;obtain⟨t,rfl⟩:=r
   obtain⟨t',rfl⟩:=r';exact call_range_2 (za4 I1 q1 q2 q3 q4 q)
def zhK(wi:TI)(g:TG)(tb:TS):TS:=λD Z H=>wi Z H λJ H1=>∃W:Nat->Nat->St->Hp->Prop,(∃m,W 0 m Z H1)/\∀i m Z H,W i m Z H ->
 (J.stop i H/\D.nx Z H)\/(J.go i H/\∃N:St->Hp->Prop,(∀σ' H',N σ' H'->∃m',m'<m/\W (i+1) m' σ' H')/\∀x H',J.yld i H x H'->g x Z H' fun σ2 H2=>tb { D with nx:=N,ct:=N,bk:=D.nx } σ2 H2)
def Vg(fp:List Addr)(h:Heap):List (Addr×Obj):=fp.filterMap λb=>(h.get? b).map λo=>(b,o)
theorem XD(hb:b∈fp)(e:h.get? b=some o):(b,o)∈Vg fp h:=List.mem_filterMap.mpr ⟨b,hb,by rw[e];rfl⟩
theorem zcX(hp:p∈Vg fp h):p.1∈fp/\h.get? p.1=some p.2:=by
 obtain⟨b,hb,e⟩:=List.mem_filterMap.mp hp;cases q:h.get? b with
 |none=>rw[q]at e;cases e
 |some o=>
  rw[q]at e;have e':=Option.some.inj e;subst e';exact⟨hb,q⟩
theorem Inv.pinned{Z:St}(I:Inv X pins Z H s)(hf:∀b∈fp,U6 X pins H b)(ho:∀b∈fp,∃o,s.heap.get? b=some o/\∀v,o.data≠.cell v):Inv X (pins++Vg fp s.heap) Z H s :=
 I.pins_of λp hp=>(List.mem_append.mp hp).elim (λz=>I.pin p (List.mem_append_right _ z)) λz=>by
  obtain⟨hb,e⟩:=zcX z;obtain⟨f0,f1,f2,_⟩:=hf p.1 hb;obtain⟨o,e',d⟩:=ho p.1 hb;rw[e]at e';cases e'
  exact⟨e,f0,f1,f2,d⟩
theorem Inv.unpinned{Z:St}(I:Inv X (pins++pl) Z H s):Inv X pins Z H s:=I.pins_of λp hp=>I.pin p (List.mem_append_right _ (List.mem_append_left _ hp))
theorem xj(hp:PassesOwn (model X.prog X.w) X.A X.env X.xe)(hc:X.calm=true)(hi:PI X tg iter wi)(hg:PG X tg g)(hb:PSs X body tb)(hs:∀x,foldedSetIterable iter X.env x=pure x:=by intro _;rfl):PS X (.For tg iter body [] pos) (zhK wi g tb):=by
 intro pins s Z H D I h;refine wpAny_For (thn (hi pins s Z H _ I h) λv s1 h1=>thn h1 λitv s2 h2=>?_) hs;obtain⟨it,fp,tn,J,H2,e,I2,T,st2,f2,W,⟨m0,w0⟩,turn⟩:=h2;subst e;have stat:∀{H':Hp},(∀b∈fp,H' b=none)->∀b∈fp,U6 X pins H' b:=λhn b hb=>⟨hn b hb,(f2 b hb).2⟩
 refine codeAny_forLoop_any (λn s'=>∃i σ' H',Inv X pins σ' H' s'/\tn i s'.heap/\(∀b∈fp,H' b=none)/\W i n σ' H') ?_ m0 ⟨0,Z,H2,I2,st2,λb hb=>(f2 b hb).1,w0⟩;rintro n s3 ⟨i,σ3,H3,I3,st3,fr3,w3⟩;rcases turn i n σ3 H3 w3 with ⟨stop,qn⟩ | ⟨go,N,hN,step⟩
 ·refine wpAny_passesOwn hp (thn (T.done X rfl rfl rfl hc i pins s3 σ3 H3 X.xe I3 (stat fr3) st3 stop) λr s4 ⟨hr,I4⟩=>?_);subst hr;exact wpAny_execs_nil ⟨σ3,H3,I4,qn⟩
 ·refine wpAny_passesOwn hp (thn (T.item X rfl rfl rfl hc i pins s3 σ3 H3 X.xe I3 (stat fr3) st3 go) λr s4 ⟨u,hr,h4⟩=>?_);subst hr;refine wpAny_passesOwn hp (thn h4 λ_ s5 ⟨x,H5,I5,r5,y5,st5,fr5⟩=>?_);have I5':=I5.pinned (stat fr5) (T.obj _ _ st5);refine wpAny_passesOwn hp (thn (hg _ s5 σ3 H5 x u _ I5' r5 (step x H5 y5)) λ_ s6 ⟨σ6,H6,I6,q6⟩=>?_);refine wpAny_passesOwn hp (thn (hb _ s6 σ6 H6 _ I6 q6) λf s7 q7=>?_);have again:∀{σ7:St} {H7:Hp},Inv X (pins++Vg fp s5.heap) σ7 H7 s7->N σ7 H7->∃m,m<n/\∃i σ' H',Inv X pins σ' H' s7/\tn i s7.heap/\(∀b∈fp,H' b=none)/\W i m σ' H':=λ{σ7 H7} I7 n7=>by
   obtain⟨m',hm,w7⟩:=hN σ7 H7 n7;refine⟨m',hm,i+1,σ7,H7,I7.unpinned,T.keep _ _ _ st5 λb hb o e=>(I7.pin (b,o) (List.mem_append_right _ (List.mem_append_right _ (XD hb e)))).1,λb hb=>?_,w7⟩;obtain⟨o,e,d⟩:=T.obj _ _ st5 b hb;exact (I7.pin (b,o) (List.mem_append_right _ (List.mem_append_right _ (XD hb e)))).2.1
  cases f with
  |next=>obtain⟨σ7,H7,I7,n7⟩:=q7;exact again I7 n7
  |cont=>obtain⟨σ7,H7,I7,n7⟩:=q7;exact again I7 n7
  |brk=>obtain⟨σ7,H7,I7,q7⟩:=q7;exact⟨σ7,H7,I7.unpinned,q7⟩
  |ret v=>obtain⟨x7,σ7,H7,I7,r7,q7⟩:=q7;exact⟨x7,σ7,H7,I7.unpinned,r7,q7⟩
end
theorem qH{K:W.Frag}{g:TG}{tb:TS}{D:Ends}(Pv:Nat->St->Hp->Prop)(h0:Pv 0 Z H)(hl:∀i Z H,i<=xs.length->Pv i Z H->SqL K H a xs)(hs:∀i x Z H,xs[i]?=some x->Pv i Z H->g x Z H fun σ2 H2=>tb { D with nx:=Pv (i+1),ct:=Pv (i+1),bk:=D.nx } σ2 H2)(hd:∀Z H,Pv xs.length Z H->D.nx Z H):
  ∃W:Nat->Nat->St->Hp->Prop,(∃m,W 0 m Z H)/\∀i m Z H,W i m Z H ->
   ((Itl K a).stop i H/\D.nx Z H)\/((Itl K a).go i H/\∃N:St->Hp->Prop,(∀σ' H',N σ' H'->∃m',m'<m/\W (i+1) m' σ' H')/\∀x H',(Itl K a).yld i H x H'->g x Z H' fun σ2 H2=>tb { D with nx:=N,ct:=N,bk:=D.nx } σ2 H2):=by
 refine⟨λi m Z H=>m=xs.length-i/\i<=xs.length/\Pv i Z H,⟨xs.length,by simp,Nat.zero_le _,h0⟩,?_⟩;rintro i m Z H ⟨rfl,hi,p⟩;have q:=hl i Z H hi p;by_cases hlt:i<xs.length
 ·refine .inr ⟨⟨xs,xs[i],q,by simp[hlt]⟩,Pv (i+1),fun σ' H' p'=>⟨xs.length-(i+1),by omega,rfl,hlt,p'⟩,λx H' y=>?_⟩;obtain⟨e,y⟩:=y;subst e;exact hs i x Z _ (y xs q) p
 ·have e:i=xs.length:=by omega
  subst e;exact .inl ⟨⟨xs,q,Nat.le_refl _⟩,hd Z H p⟩
theorem yP{lo:Int}{g:TG}{tb:TS}{D:Ends}(Pv:Nat->St->Hp->Prop)(h0:Pv 0 Z H)(hs:∀i Z H,i<n->Pv i Z H->g (.int (lo+i)) Z H fun σ2 H2=>tb { D with nx:=Pv (i+1),ct:=Pv (i+1),bk:=D.nx } σ2 H2)(hd:∀Z H,Pv n Z H->D.nx Z H):
  ∃W:Nat->Nat->St->Hp->Prop,(∃m,W 0 m Z H)/\∀i m Z H,W i m Z H ->
   ((Itr lo n).stop i H/\D.nx Z H)\/((Itr lo n).go i H/\∃N:St->Hp->Prop,(∀σ' H',N σ' H'->∃m',m'<m/\W (i+1) m' σ' H')/\∀x H',(Itr lo n).yld i H x H'->g x Z H' fun σ2 H2=>tb { D with nx:=N,ct:=N,bk:=D.nx } σ2 H2):=by
 refine⟨λi m Z H=>m=n-i/\i<=n/\Pv i Z H,⟨n,by simp,Nat.zero_le _,h0⟩,?_⟩;rintro i m Z H ⟨rfl,hi,p⟩;by_cases hlt:i<n
 ·refine .inr ⟨hlt,Pv (i+1),fun σ' H' p'=>⟨n-(i+1),by omega,rfl,hlt,p'⟩,λx H' y=>?_⟩;obtain⟨e,y⟩:=y;subst e y;exact hs i Z _ hlt p
 ·have e:i=n:=by omega
  subst e;exact .inl ⟨Nat.le_refl _,hd Z H p⟩
theorem Yt(Pv:St->Hp->Prop)(μ:St->Hp->Nat)(h0:Pv Z H)(hs:∀Z H,Pv Z H->c Z H λb H1=>if b=true then tb { D with nx:=fun σ' H'=>Pv σ' H'/\μ σ' H'<μ Z H,ct:=fun σ' H'=>Pv σ' H'/\μ σ' H'<μ Z H,bk:=D.nx } Z H1 else D.nx Z H1)(mono:∀Z H Q Q',(∀b H1,Q b H1->Q' b H1)->c Z H Q->c Z H Q'):zeI c tb D Z H:=by
 refine⟨λm Z H=>m=μ Z H/\Pv Z H,⟨_,rfl,h0⟩,?_⟩;rintro m Z H ⟨rfl,p⟩;refine mono Z H _ _ (λb H1 q=>?_) (hs Z H p);cases b with
 |true=>exact⟨_,fun σ' H' ⟨p',l⟩=>⟨_,l,rfl,p'⟩,q⟩
 |false=>exact q
abbrev R2:=V->V->Hp->VK->Prop
def OpR(X:Cx)(f:Value->Value->Sem Value)(r:R2):Prop :=
 ∀(pins:List (Addr×Obj)) (s:Shared) (Z:St) (H:Hp) (x y:V) (v u:Value) (Q:VK),Inv X pins Z H s->RelV x v->RelV y u->r x y H Q ->
  wpAny (model X.prog X.w) X.A (f v u) (EP X pins Z Q) X.xe s
def UnR(X:Cx)(f:Value->Sem Value)(r:V->Hp->VK->Prop):Prop :=
 ∀(pins:List (Addr×Obj)) (s:Shared) (Z:St) (H:Hp) (x:V) (v:Value) (Q:VK),Inv X pins Z H s->RelV x v->r x H Q ->
  wpAny (model X.prog X.w) X.A (f v) (EP X pins Z Q) X.xe s
def vg(X:Cx)(f:Value)(r:List V->Hp->VK->Prop):Prop :=
 ∀(pins:List (Addr×Obj)) (s:Shared) (Z:St) (H:Hp) (xs:List V) (us:List Value) (Q:VK),Inv X pins Z H s->Vals xs us->r xs H Q ->
  wpAny (model X.prog X.w) X.A (call f us) (EP X pins Z Q) X.xe s
def tOp(r:R2)(ta tb:TE):TE:=λZ H Q=>ta Z H λx H1=>tb Z H1 λy H2=>r x y H2 Q
def tUn(r:V->Hp->VK->Prop)(ta:TE):TE:=λZ H Q=>ta Z H λx H1=>r x H1 Q
def rI(C:Int->Int->Prop)(g:Int->Int->V):R2:=λx y H Q=>Ex2 λi j=>x=.int i/\y=.int j/\C i j/\Q (g i j) H
def rI0(g:Int->Int->V):R2:=λx y H Q=>Ex2 λi j=>x=.int i/\y=.int j/\Q (g i j) H
def rU(g:Int->V):V->Hp->VK->Prop:=λx H Q=>∃i,x=.int i/\Q (g i) H
section
variable {X:Cx} {a b c:Expr} {ta tb tc:TE} {pos:Pos}
theorem zgp(ha:PE X a ta)(hb:PE X b tb){Z:St}{R:V->V->Hp->Prop}(I:Inv X pins Z H s)(h:ta Z H λx H1=>tb Z H1 λy H2=>R x y H2){f:Value->Value->Sem Value}(hf:∀v u s2 x y H2,Inv X pins Z H2 s2->RelV x v->RelV y u->R x y H2->wpAny (model X.prog X.w) X.A (f v u) Q X.xe s2):
  wpAny (model X.prog X.w) X.A (eval a X.env) (λv s₁=>wpAny (model X.prog X.w) X.A (eval b X.env) (λu s₂=>wpAny (model X.prog X.w) X.A (f v u) Q X.xe s₂) X.xe s₁) X.xe s:=by
 refine thn (ha pins s Z H _ I h) λv s1 ⟨x,H1,I1,r1,q1⟩=>?_;refine thn (hb pins s1 Z H1 _ I1 q1) λu s2 ⟨y,H2,I2,r2,q2⟩=>?_;exact hf v u s2 x y H2 I2 r1 r2 q2
theorem zy(ho:OpR X (binaryOp op) r)(ha:PE X a ta)(hb:PE X b tb):PE X (.BinOp a op b pos) (tOp r ta tb):=by
 intro pins s Z H Q I h;exact wpAny_BinOp (zgp ha hb I h λv u s2 x y H2 I2 rx ry q=>ho pins s2 Z H2 x y v u Q I2 rx ry q)
theorem zcp(ho:UnR X (unaryOp op) r)(ha:PE X a ta):PE X (.UnaryOp op a pos) (tUn r ta):=by
 intro pins s Z H Q I h;exact UnaryOp_ (thn (ha pins s Z H _ I h) λv s1 ⟨x,H1,I1,r1,q1⟩=>ho pins s1 Z H1 x v Q I1 r1 q1)
theorem opI{g:Int->Int->Int}(rule:∀i j t u s Q E,C i j->Q (.int (g i j) s.toks) { s with toks:=s.toks+1 }->wpAny (model X.prog X.w) X.A (f (.int i t) (.int j u)) Q E s):
  OpR X f (rI C λi j=>.int (g i j)):=by
 intro pins s Z H x y v u Q I rx ry h;obtain⟨i,j,rfl,rfl,hc,q⟩:=h;obtain⟨t,rfl⟩:=rx;obtain⟨t',rfl⟩:=ry;exact rule i j t t' s _ _ hc ⟨.int (g i j),H,I.tok _,⟨_,rfl⟩,q⟩
theorem zhd{g:Int->Int->Int}(rule:∀i j t u s Q E,Q (.int (g i j) s.toks) { s with toks:=s.toks+1 }->wpAny (model X.prog X.w) X.A (f (.int i t) (.int j u)) Q E s):
  OpR X f (rI0 λi j=>.int (g i j)):=by
 intro pins s Z H x y v u Q I rx ry h;obtain⟨i,j,rfl,rfl,q⟩:=h;obtain⟨t,rfl⟩:=rx;obtain⟨t',rfl⟩:=ry;exact rule i j t t' s _ _ ⟨.int (g i j),H,I.tok _,⟨_,rfl⟩,q⟩
theorem ze5{g:Int->Int->Bool}(rule:∀i j t u s Q E,Q (.bool (g i j)) s->wpAny (model X.prog X.w) X.A (f (.int i t) (.int j u)) Q E s):
  OpR X f (rI0 λi j=>.bl (g i j)):=by
 intro pins s Z H x y v u Q I rx ry h;obtain⟨i,j,rfl,rfl,q⟩:=h;obtain⟨t,rfl⟩:=rx;obtain⟨t',rfl⟩:=ry;exact rule i j t t' s _ _ ⟨.bl (g i j),H,I,rfl,q⟩
def zgA(i j:Int):Prop:=0<=j/\j<=1000000/\i.natAbs<2^64
def CMul(i j:Int):Prop:=(-(2^64)<i/\i<2^64)\/(-(2^64)<j/\j<2^64)
theorem CMul.ok(h:CMul i j):IntMulOk i j:=by
 rcases h with ⟨h1,h2⟩ | ⟨h1,h2⟩
 ·exact .of_left (intBits_le_64 h1 h2)
 ·exact .of_right (intBits_le_64 h1 h2)
theorem ym:OpR X (binaryOp .Add) (rI0 λi j=>.int (i+j)):=zhd λ_ _ _ _ _ _ _ q=>add_int q
theorem xT:OpR X (binaryOp .Sub) (rI0 λi j=>.int (i-j)):=zhd λ_ _ _ _ _ _ _ q=>sub_int q
theorem wL:OpR X (binaryOp .Mult) (rI CMul λi j=>.int (i*j)):=opI λ_ _ _ _ _ _ _ hc q=>mul_int q hc.ok
theorem yh:OpR X (binaryOp .Mod) (rI (λ_ j=>0<j) λi j=>.int (i % j)):=opI λi j _ _ _ _ _ hc q=>by
 exact mod_int' (by omega) (by rw[Int.fmod_eq_emod_of_nonneg i (by omega)];exact q)
theorem ZZ:OpR X (binaryOp .Pow) (rI zgA λi j=>.int (i^j.toNat)):=opI λ_ _ _ _ _ _ _ hc q=>pow_int_small hc.1 hc.2.1 hc.2.2 q
theorem unI{g:Int->Int}(rule:∀i t s Q E,Q (.int (g i) s.toks) { s with toks:=s.toks+1 }->wpAny (model X.prog X.w) X.A (f (.int i t)) Q E s):
  UnR X f (rU λi=>.int (g i)):=by
 intro pins s Z H x v Q I rx h;obtain⟨i,rfl,q⟩:=h;obtain⟨t,rfl⟩:=rx;exact rule i t s _ _ ⟨.int (g i),H,I.tok _,⟨_,rfl⟩,q⟩
theorem zay:UnR X (unaryOp .USub) (rU λi=>.int (-i)):=unI λ_ _ _ _ _ q=>neg_int q
end
def zhw:V->V->Bool
 |.non,.non=>true | .non,.int _=>true | .int _,.non=>true | .non,.bl _=>true | .bl _,.non=>true | .non,.str _=>true | .str _,.non=>true
 |.int _,.int _=>true | .bl _,.bl _=>true | .str _,.str _=>true | .byt _,.byt _=>true
 |.int _,.str _=>true | .str _,.int _=>true | .bl _,.str _=>true | .str _,.bl _=>true
 |_,_=>false
def rEq:R2:=λx y H Q=>zhw x y=true/\Q (.bl (decide (x=y))) H
def rNe:R2:=λx y H Q=>zhw x y=true/\Q (.bl (!decide (x=y))) H
theorem zcJ:decide (V.int i=V.int j)=(i == j):=by
 rw[Bool.eq_iff_iff];simp
theorem zeq:decide (V.bl i=V.bl j)=(i == j):=by
 rw[Bool.eq_iff_iff];simp
theorem zcF:decide (V.str i=V.str j)=(i == j):=by
 rw[Bool.eq_iff_iff];simp
theorem zcC:decide (V.byt i=V.byt j)=(i.toList == j.toList):=by
 rw[Bool.eq_iff_iff];cases i
 cases j;simp
section
variable {X:Cx} {a b c:Expr} {ta tb tc:TE} {pos:Pos}
theorem yE{Z:St}(I:Inv X pins Z H s)(q:Q (.bl k) H)(e:k=k'):EP X pins Z Q (.bool k') s:=by
 subst e;exact⟨.bl k,H,I,rfl,q⟩
theorem Zt:OpR X (compareOp .Eq) rEq:=by
 intro pins s Z H x y v u Q I rx ry h;obtain⟨hs,q⟩:=h;cases x with
 |non=>
  cases rx;cases y with
  |non=>cases ry;exact PySem.EqNone.eq_none_none (yE I q (by simp))
  |bl j=>cases ry;exact PySem.EqNone.eq_none_bool (yE I q (by simp))
  |int j=>obtain⟨t',rfl⟩:=ry;exact PySem.EqNone.eq_none_int (yE I q (by simp))
  |str j=>obtain⟨t',rfl⟩:=ry;exact PySem.EqNone.eq_none_str (yE I q (by simp))
  |_=>exact absurd (show false=true from hs) Bool.false_ne_true
 |bl i=>
  cases rx;cases y with
  |non=>cases ry;exact PySem.EqNone.eq_bool_none (yE I q (by simp))
  |bl j=>cases ry;exact eq_bool (yE I q zeq)
  |str j=>obtain⟨t',rfl⟩:=ry;exact PySem.EqMixed.eq_bool_str (yE I q (by simp))
  |_=>exact absurd (show false=true from hs) Bool.false_ne_true
 |int i=>
  obtain⟨t,rfl⟩:=rx;cases y with
  |non=>cases ry;exact PySem.EqNone.eq_int_none (yE I q (by simp))
  |int j=>obtain⟨t',rfl⟩:=ry;exact eq_int (yE I q zcJ)
  |str j=>obtain⟨t',rfl⟩:=ry;exact PySem.EqMixed.eq_int_str (yE I q (by simp))
  |_=>exact absurd (show false=true from hs) Bool.false_ne_true
 |str i=>
  obtain⟨t,rfl⟩:=rx;cases y with
  |non=>cases ry;exact PySem.EqNone.eq_str_none (yE I q (by simp))
  |bl j=>cases ry;exact PySem.EqMixed.eq_str_bool (yE I q (by simp))
  |int j=>obtain⟨t',rfl⟩:=ry;exact PySem.EqMixed.eq_str_int (yE I q (by simp))
  |str j=>obtain⟨t',rfl⟩:=ry;exact eq_str (yE I q zcF)
  |_=>exact absurd (show false=true from hs) Bool.false_ne_true
 |byt i=>
  obtain⟨t,rfl⟩:=rx;cases y with
  |byt j=>obtain⟨t',rfl⟩:=ry;exact W.eq_bytes (yE I q zcC)
  |_=>exact absurd (show false=true from hs) Bool.false_ne_true
 |_=>cases y<;>exact absurd (show false=true from hs) Bool.false_ne_true
theorem zcD:OpR X (compareOp .NotEq) rNe:=by
 intro pins s Z H x y v u Q I rx ry h;obtain⟨hs,q⟩:=h;cases x with
 |non=>
  cases rx;cases y with
  |non=>cases ry;exact PySem.EqNone.ne_none_none (yE I q (by simp))
  |bl j=>cases ry;exact PySem.EqNone.ne_none_bool (yE I q (by simp))
  |int j=>obtain⟨t',rfl⟩:=ry;exact PySem.EqNone.ne_none_int (yE I q (by simp))
  |str j=>obtain⟨t',rfl⟩:=ry;exact PySem.EqNone.ne_none_str (yE I q (by simp))
  |_=>exact absurd (show false=true from hs) Bool.false_ne_true
 |bl i=>
  cases rx;cases y with
  |non=>cases ry;exact PySem.EqNone.ne_bool_none (yE I q (by simp))
  |bl j=>cases ry;exact ne_bool (yE I q (congrArg not zeq))
  |str j=>obtain⟨t',rfl⟩:=ry;exact PySem.EqMixed.ne_bool_str (yE I q (by simp))
  |_=>exact absurd (show false=true from hs) Bool.false_ne_true
 |int i=>
  obtain⟨t,rfl⟩:=rx;cases y with
  |non=>cases ry;exact PySem.EqNone.ne_int_none (yE I q (by simp))
  |int j=>obtain⟨t',rfl⟩:=ry;exact ne_int (yE I q (congrArg not zcJ))
  |str j=>obtain⟨t',rfl⟩:=ry;exact PySem.EqMixed.ne_int_str (yE I q (by simp))
  |_=>exact absurd (show false=true from hs) Bool.false_ne_true
 |str i=>
  obtain⟨t,rfl⟩:=rx;cases y with
  |non=>cases ry;exact PySem.EqNone.ne_str_none (yE I q (by simp))
  |bl j=>cases ry;exact PySem.EqMixed.ne_str_bool (yE I q (by simp))
  |int j=>obtain⟨t',rfl⟩:=ry;exact PySem.EqMixed.ne_str_int (yE I q (by simp))
  |str j=>obtain⟨t',rfl⟩:=ry;exact ne_str (yE I q (congrArg not zcF))
  |_=>exact absurd (show false=true from hs) Bool.false_ne_true
 |byt i=>
  obtain⟨t,rfl⟩:=rx;cases y with
  |byt j=>obtain⟨t',rfl⟩:=ry;exact W.ne_bytes (yE I q (congrArg not zcC))
  |_=>exact absurd (show false=true from hs) Bool.false_ne_true
 |_=>cases y<;>exact absurd (show false=true from hs) Bool.false_ne_true
theorem Wj:OpR X (compareOp .Lt) (rI0 λi j=>.bl (decide (i<j))):=ze5 λ_ _ _ _ _ _ _ q=>lt_int q
theorem Qn:OpR X (compareOp .LtE) (rI0 λi j=>.bl (decide (i<=j))):=ze5 λ_ _ _ _ _ _ _ q=>le_int q
theorem zbb:OpR X (compareOp .Gt) (rI0 λi j=>.bl (decide (j<i))):=ze5 λ_ _ _ _ _ _ _ q=>gt_int q
theorem zbp:OpR X (compareOp .GtE) (rI0 λi j=>.bl (decide (j<=i))):=ze5 λ_ _ _ _ _ _ _ q=>ge_int q
theorem Xv:OpR X (compareOp .Is) (λx y H Q=>y=.non/\Q (.bl (decide (x=.non))) H):=by
 intro pins s Z H x y v u Q I rx ry h;obtain⟨rfl,q⟩:=h;cases ry
 refine is_none_gen (yE I q ?_);cases x<;>first
  | (cases rx;rfl)
  | (obtain⟨t,rfl⟩:=rx;rfl)
theorem jX:OpR X (compareOp .IsNot) (λx y H Q=>y=.non/\Q (.bl (!decide (x=.non))) H):=by
 intro pins s Z H x y v u Q I rx ry h;obtain⟨rfl,q⟩:=h;cases ry
 refine isnot_none_gen (yE I q ?_);cases x<;>first
  | (cases rx;rfl)
  | (obtain⟨t,rfl⟩:=rx;rfl)
theorem zM(b:Expr)(h:op≠.In:=by decide)(h2:op≠.NotIn:=by decide):behindInMarks op b=false:=by
 have e1:(op == CmpOp.In)=false:=by cases op<;>first | rfl | exact absurd rfl h
 have e2:(op == CmpOp.NotIn)=false:=by cases op<;>first | rfl | exact absurd rfl h2
 cases b<;>simp[behindInMarks,e1,e2]
theorem xr(ho:OpR X (compareOp op) r)(ha:PE X a ta)(hb:PE X b tb)(hm:behindInMarks op b=false):PE X (.Compare a [op] [b] pos) (tOp r ta tb):=by
 intro pins s Z H Q I h;exact wpAny_Compare1 (zgp ha hb I h λv u s2 x y H2 I2 rx ry q=>ho pins s2 Z H2 x y v u Q I2 rx ry q) hm
def zf2(t:TE):TT:=λZ H Q=>t Z H λx H'=>∃k,x=.bl k/\Q k H'
theorem zO(ho:OpR X (compareOp op) r)(ha:PE X a ta)(hb:PE X b tb)(hm:behindInMarks op b=false):PT X (.Compare a [op] [b] pos) (zf2 (tOp r ta tb)):=by
 intro pins s Z H Q I h;refine wpAny_isTrue_Compare1 (thn (ha pins s Z H _ I h) λv s1 ⟨x,H1,I1,r1,q1⟩=>thn (hb pins s1 Z H1 _ I1 q1) λu s2 ⟨y,H2,I2,r2,q2⟩=>
  thn (ho pins s2 Z H2 x y v u _ I2 r1 r2 q2) λc s3 ⟨z,H3,I3,r3,k,e,q3⟩=>?_) hm
 subst e;cases r3
 exact wpAny_truthy_bool ⟨H3,I3,q3⟩
def zdG(r r':R2)(ta tb tc:TE):TE:=λZ H Q=>ta Z H λx H1=>tb Z H1 λy H2=>r x y H2 λz H3=>∃k,z=.bl k /\
 (if k=true then tc Z H3 λw' H4=>r' y w' H4 Q else Q (.bl false) H3)
theorem V2(ho:OpR X (compareOp op) r)(ho':OpR X (compareOp op') r')(ha:PE X a ta)(hb:PE X b tb)(hc:PE X c tc)(hm:lastMarks [op,op'] [b,c]=false:=by with_unfolding_all rfl):PE X (.Compare a [op,op'] [b,c] pos) (zdG r r' ta tb tc):=by
 intro pins s Z H Q I h;refine Compare_chain (thn (ha pins s Z H _ I h) λv s1 ⟨x,H1,I1,r1,q1⟩=>chain_link (thn (hb pins s1 Z H1 _ I1 q1) λu s2 ⟨y,H2,I2,r2,q2⟩=>
  thn (ho pins s2 Z H2 x y v u _ I2 r1 r2 q2) λd s3 ⟨z,H3,I3,r3,k,e,q3⟩=>?_)) hm
 subst e;cases r3
 refine wpAny_truthy_bool ?_;cases k with
 |false=>exact ite_ff ⟨.bl false,H3,I3,rfl,q3⟩
 |true=>exact ite_tt (chain_last (thn (hc pins s3 Z H3 _ I3 q3) λw' s4 ⟨z',H4,I4,r4,q4⟩=>ho' pins s4 Z H4 y z' u w' Q I4 r2 r4 q4))
theorem zdN(ho:OpR X (compareOp op) r)(ho':OpR X (compareOp op') r')(ha:PE X a ta)(hb:PE X b tb)(hc:PE X c tc)(hm:lastMarks [op,op'] [b,c]=false:=by with_unfolding_all rfl):PT X (.Compare a [op,op'] [b,c] pos) (zf2 (zdG r r' ta tb tc)):=by
 intro pins s Z H Q I h;refine isTrue_chain (thn (ha pins s Z H _ I h) λv s1 ⟨x,H1,I1,r1,q1⟩=>test_link (thn (hb pins s1 Z H1 _ I1 q1) λu s2 ⟨y,H2,I2,r2,q2⟩=>
  thn (ho pins s2 Z H2 x y v u _ I2 r1 r2 q2) λd s3 ⟨z,H3,I3,r3,k,e,q3⟩=>?_)) hm
 subst e;cases r3
 refine wpAny_truthy_bool ?_;cases k with
 |false=>
  obtain⟨k',e',q'⟩:=q3;cases e'
  exact ite_ff ⟨H3,I3,q'⟩
 |true=>
  refine ite_tt (test_last (thn (hc pins s3 Z H3 _ I3 q3) λw' s4 ⟨z',H4,I4,r4,q4⟩=>thn (ho' pins s4 Z H4 y z' u w' _ I4 r2 r4 q4) λd' s5 ⟨z2,H5,I5,r5,k2,e2,q5⟩=>?_));subst e2;cases r5
  exact wpAny_truthy_bool ⟨H5,I5,q5⟩
theorem Vf:(sizeLine:Nat)<2^63:=by rw[sizeLine_eq];decide
theorem zcj:OpR X (binaryOp .Add) (λx y H Q=>∃i j,x=.str i/\y=.str j/\i.length+j.length<=sizeLine/\Q (.str (i++j)) H):=by
 intro pins s Z H x y v u Q I rx ry h;obtain⟨i,j,rfl,rfl,hz,q⟩:=h;obtain⟨t,rfl⟩:=rx;obtain⟨t',rfl⟩:=ry;exact add_str (λt' tk=>⟨.str (i++j),H,I.tok _,⟨_,rfl⟩,q⟩) hz
theorem vals1(r:Vals [x] us):∃u,us=[u]/\RelV x u:=by
 cases r with
 |cons r1 r2=>cases r2;exact⟨_,rfl,r1⟩
theorem vals2(r:Vals [x,y] us):∃u w',us=[u,w']/\RelV x u/\RelV y w':=by
 cases r with
 |cons r1 r2=>
  cases r2 with
  |cons r3 r4=>cases r4;exact⟨_,_,rfl,r1,r3⟩
theorem zeF:vg X (.builtin "abs") (λxs H Q=>∃i,xs=[.int i]/\Q (.int (if i<0 then -i else i)) H):=by
 intro pins s Z H xs us Q I r h;obtain⟨i,rfl,q⟩:=h;obtain⟨u,rfl,t,rfl⟩:=vals1 r;exact call_abs_int λu tk=>⟨.int (if i<0 then -i else i),H,I.tok _,⟨_,rfl⟩,q⟩
theorem Jx(hc:X.calm=true):vg X (.builtin "max") (λxs H Q=>∃i j,xs=[.int i,.int j]/\Q (.int (if j>i then j else i)) H):=by
 intro pins s Z H xs us Q I r h;obtain⟨i,j,rfl,q⟩:=h;obtain⟨u,w',rfl,⟨t,rfl⟩,⟨t',rfl⟩⟩:=vals2 r;refine max_two_ints (I.ok.hd hc) λh' tk k=>⟨_,H,I.kept k,?_,q⟩
 by_cases hj:j>i
 ·rw[if_pos hj,if_pos hj];exact⟨_,rfl⟩
 ·rw[if_neg hj,if_neg hj];exact⟨_,rfl⟩
theorem Jc(hc:X.calm=true):vg X (.builtin "min") (λxs H Q=>∃i j,xs=[.int i,.int j]/\Q (.int (if j<i then j else i)) H):=by
 intro pins s Z H xs us Q I r h;obtain⟨i,j,rfl,q⟩:=h;obtain⟨u,w',rfl,⟨t,rfl⟩,⟨t',rfl⟩⟩:=vals2 r;refine min_two_ints (I.ok.hd hc) λh' tk k=>⟨_,H,I.kept k,?_,q⟩
 by_cases hj:j<i
 ·rw[if_pos hj,if_pos hj];exact⟨_,rfl⟩
 ·rw[if_neg hj,if_neg hj];exact⟨_,rfl⟩
theorem tZ:vg X (.type "int") (λxs H Q=>(∃i,xs=[.int i]/\Q (.int i) H)\/∃k,xs=[.bl k]/\Q (.int (if k then 1 else 0)) H):=by
 intro pins s Z H xs us Q I r h;rcases h with ⟨i,rfl,q⟩ | ⟨k,rfl,q⟩
 ·obtain⟨u,rfl,t,rfl⟩:=vals1 r;exact call_int_int ⟨.int i,H,I,⟨_,rfl⟩,q⟩
 ·obtain⟨u,rfl,r1⟩:=vals1 r;cases r1
  exact call_int_bool ⟨.int (if k then 1 else 0),H,I.tok _,⟨_,rfl⟩,q⟩
end
structure ObjM (h:Heap) (x dx C:Addr) (mA:Str->Option Value):Prop where
 obj:h.get? x=some (W.instObj C dx)
 ns:h.Ns1 dx mA
 ne:dx≠x
theorem zdi{h:Heap}(n:h.Ns1 dx mA):∃od,h.get? dx=some od/\∀name,W.lookIn name od=some (mA name):=by
 obtain⟨o,es,ep,ho,hd,hk,_,hm⟩:=n;refine⟨o,ho,λname=>?_⟩;have e:=hm name;unfold nsFind findBy at e;rw[<-Array.find?_toList]at e;unfold W.lookIn;rw[hd];dsimp only;split
 ·rename_i y q
  rw[q]at e;exact congrArg some e
 ·rename_i q
  rw[q]at e;have a:es.toList.any (·.refKey)=false:=by
   rw[List.any_eq_false];intro y hy;obtain⟨z,t,hkey⟩:=hk y (Array.mem_toList_iff.mp hy);simp[DictEntry.refKey,hkey]
  have a':¬ es.toList.any (·.refKey)=true:=by rw[a];exact Bool.false_ne_true
  rw[if_neg a'];exact congrArg some e
theorem ObjM.look(I:ObjM h x dx C mA):∃od,W.InstAt h x (W.instObj C dx) C (some od)/\∀name,W.lookIn name od=some (mA name):=
 let ⟨od,ho,hl⟩:=zdi I.ns
 ⟨od,⟨I.obj,rfl,rfl,ho⟩,hl⟩
section
variable {prog:Program} {w:World} {A:Around} {E:Value->Shared->Prop} {s:Shared} {K:W.Frag} {x dx C f:Addr} {mA:Str->Option Value} {name:Str} {v:Value}
theorem zfs(X:K.In s.heap)(I:ObjM s.heap x dx C mA)(hg:W.plainGet K C name=true)(hh:W.hasDictIn K C=true)(ha:W.findIn K (.ref C) name=some none)(hv:mA name=some v)(hv':W.handedIn v=true)(h:Q v { s with toks:=s.toks+1 }):
  wpAny (model prog w) A (getAttr (.ref x) name expr) Q E s:=by
 obtain⟨od,J,hl⟩:=I.look;exact W.get_value X J (W.plainGet_of hg).1 (W.findObj_own hh ha rfl (by rw[hl,hv])) hv' h
theorem zeV(X:K.In s.heap)(I:ObjM s.heap x dx C mA)(hg:W.plainGet K C name=true)(hf:W.findIn K (.ref C) name=some (some (.ref f)))(ht:W.isFn K (.ref f)=true)(hv:mA name=none)(h:Q (.ref f,[.ref x]) s):
  wpAny (model prog w) A (getMethod (.ref x) name pl) Q E s:=by
 obtain⟨od,J,hl⟩:=I.look;exact W.method_fn X J (W.plainGet_of hg).1 (W.plainGet_of hg).2 hf (beq_iff_eq.mp ht) (by show (W.lookIn name od).map (·.isSome)=some false;rw[hl,hv];rfl) h
theorem zfu(X:K.In s.heap)(I:ObjM s.heap x dx C mA)(hs:W.findIn K (.ref C) "__setattr__"= some (some (.builtin "object.__setattr__")))(hp:W.plainOver K C=true)(ht:W.takerIn K C name=some none)(hh:W.hasDictIn K C=true)(hw:PySem.Within mA ns)(hsz:ns.length<=sizeLine)(h:∀h',ObjM h' x dx C (λy=>if y=name then some v else mA y)->Heap.SameBut dx s.heap h'->Q () { s with heap:=h',toks:=s.toks+2 }):
  wpAny (model prog w) A (setAttr (.ref x) name v) Q E s:=by
 obtain⟨od,J,hl⟩:=I.look;refine W.set_plain X J hs (W.osa_open X J hp ht λb=>?_);obtain⟨cd,hc,hd'⟩:=W.any_some hh;have hx:=I.obj;refine wpAny_bind (wpAny_pure (wpAny_bind (wpAny_bind (wpAny_loadPart hx (wpAny_bind (W.Looks.here (W.looks_clsIn X hc) ?_))))));rw[hd'];refine wpAny_pure (wpAny_bind (wpAny_pure (wpAny_bind ?_)));refine wpAny_nsSet1 I.ns λh' hn2 hs2=>?_;obtain⟨oD,esD,epD,hoD,hdD,hcD⟩:=hn2.count (PySem.Within.cons name v hw);refine wpAny_bind (wpAny_lookBehind hoD (by rw[hdD];exact pastItsLine_dict (Nat.le_trans hcD (by rw[List.length_cons];omega))) ?_);exact wpAny_pure (h _ ⟨(hs2.2 _ (Ne.symm I.ne)).trans I.obj,hn2,I.ne⟩ hs2)
theorem zeT(X:K.In s.heap)(hm:W.makesIn K C=true)(hi:W.findIn K (.ref C) "__init__"= some (some (.ref f)))(hf:W.typeIn K (.ref f)=some (.type "function"))(h:codeAny (model prog w) (A.under (.builtin "type.__call__" ⟨.ref C::vs,kw⟩)) (.call (.ref f) ⟨.ref (s.heap.objs.size+1)::vs,kw⟩) (W.InitBack (s.heap.objs.size+1) R)
   { s with heap:=(s.heap.push W.emptyDict).push (W.instObj C s.heap.objs.size) }):
  codeAny (model prog w) A (.call (.ref C) ⟨vs,kw⟩) R s:=by
 obtain⟨hh,g,d,t,os⟩:=s;exact W.make_core (W.makes_of X hm) (W.looks_findIn X hi) (λself=>W.bind_fn X self hf) (.inl rfl) h
end
def wR(f:Str)(v:V):List (Str×V)->List (Str×V)
 |[]=>[(f,v)]
 | (g,x)::r=>if g=f then (g,v)::r else (g,x)::wR f v r
theorem yp(f g:Str)(v:V):∀fs:List (Str×V),(wR f v fs).lookup g=if g=f then some v else fs.lookup g
 |[]=>by
  show List.lookup g [(f,v)]=_;by_cases h:g=f
  ·have hb:(g == f)=true:=beq_iff_eq.mpr h;simp only[List.lookup,hb,if_pos h]
  ·have hb:=beq_eq_false_iff_ne.mpr h;simp only[List.lookup,hb,if_neg h]
 | (k,x)::r=>by
  have ih:=yp f g v r;rw[show wR f v ((k,x)::r)=(if k=f then (k,v)::r else (k,x)::wR f v r) from rfl];by_cases hk:k=f
  ·rw[if_pos hk];by_cases h:g=k
   ·have hb:=beq_iff_eq.mpr h;simp only[List.lookup,hb,if_pos (h.trans hk)]
   ·have hb:=beq_eq_false_iff_ne.mpr h;simp only[List.lookup,hb,if_neg (λe:g=f=>h (e.trans hk.symm))]
  ·rw[if_neg hk];by_cases h:g=k
   ·have hb:=beq_iff_eq.mpr h;simp only[List.lookup,hb,if_neg (λe:g=f=>hk (h.symm.trans e))]
   ·have hb:=beq_eq_false_iff_ne.mpr h;simp only[List.lookup,hb];exact ih
theorem W2(f:Str)(v:V):∀fs:List (Str×V),f∈(wR f v fs).map (·.1)/\∀g,g∈fs.map (·.1)->g∈(wR f v fs).map (·.1)
 |[]=>⟨by simp[wR],λg h=>by simp at h⟩
 | (k,x)::r=>by
  obtain⟨i1,i2⟩:=W2 f v r;rw[show wR f v ((k,x)::r)=(if k=f then (k,v)::r else (k,x)::wR f v r) from rfl];by_cases hk:k=f
  ·rw[if_pos hk];subst hk;exact⟨by simp,λg h=>by simpa using h⟩
  ·rw[if_neg hk];refine⟨?_,λg h=>?_⟩
   ·rw[List.map_cons];exact List.mem_cons_of_mem _ i1
   ·rw[List.map_cons]at h ⊢;rcases List.mem_cons.mp h with e | e
    ·exact List.mem_cons.mpr (.inl e)
    ·exact List.mem_cons_of_mem _ (i2 g e)
theorem qF(f:Str)(v:V):∀fs:List (Str×V),(wR f v fs).length<=fs.length+1
 |[]=>by simp[wR]
 | (k,x)::r=>by
  have ih:=qF f v r;rw[show wR f v ((k,x)::r)=(if k=f then (k,v)::r else (k,x)::wR f v r) from rfl];by_cases hk:k=f
  ·rw[if_pos hk,List.length_cons,List.length_cons];omega
  ·rw[if_neg hk,List.length_cons,List.length_cons];omega
theorem RelO.some_of(r:RelO (some v) o):∃u,o=some u/\RelV v u:=by
 cases o with
 |none=>exact (show False from r).elim
 |some u=>exact⟨u,rfl,r⟩
theorem RelO.none_of(r:RelO none o):o=none:=by
 cases o with
 |none=>rfl
 |some u=>exact (show False from r).elim
theorem zdm(r:RelV v u):W.handedIn u=true:=by
 cases v with
 |non=>cases (show u=Value.none from r);rfl
 |bl b=>cases (show u=Value.bool b from r);rfl
 |int i=>obtain⟨t,e⟩:=(show ∃t,u=Value.int i t from r);cases e;rfl
 |str x=>obtain⟨t,e⟩:=(show ∃t,u=Value.str x t from r);cases e;rfl
 |byt b=>obtain⟨t,e⟩:=(show ∃t,u=Value.bytes b t from r);cases e;rfl
 |flt b=>obtain⟨t,e⟩:=(show ∃t,u=Value.float b t from r);cases e;rfl
 |ref a=>cases (show u=Value.ref a from r);rfl
 |ty n=>cases (show u=Value.type n from r);rfl
section
variable {P:Program} {w:World} {H H':Hp} {h h':Heap} {a C dx:Addr} {fs fs':List (Str×V)}
theorem V0(hok:HOk P w H h)(e:H a=some (.ins C dx fs)):∃mA,ObjM h a dx C mA/\(∀f,RelO (fs.lookup f) (mA f))/\PySem.Within mA (fs.map (·.1))/\fs.length<=1000/\H dx=some (.own a):=by
 obtain⟨d,z,ne,ob,mA,n,r,q⟩:=(show ObjOk P w H h a (.ins C dx fs) from hok a _ e)
 exact⟨mA,⟨ob,n,ne⟩,r,q,z,d⟩
end
structure Cls (K:W.Frag) (C:Addr):Prop where
 pg:W.plainGet K C Str.empty=true
 hd:W.hasDictIn K C=true
 po:W.plainOver K C=true
 sa:W.findIn K (.ref C) "__setattr__"= some (some (.builtin "object.__setattr__"))
theorem Cls.get{K:W.Frag}(c:Cls K C)(f:Str):W.plainGet K C f=true:=c.pg
def NoAttr(K:W.Frag)(C:Addr)(f:Str):Prop:=W.findIn K (.ref C) f=some none
theorem NoAttr.taker{K:W.Frag}(n:NoAttr K C f):W.takerIn K C f=some none:=by
 unfold W.takerIn;rw[show W.findIn K (.ref C) f=some none from n];rfl
structure Meth (K:W.Frag) (C:Addr) (m:Str) (f:Addr):Prop where
 at_:W.findIn K (.ref C) m=some (some (.ref f))
 fn:W.isFn K (.ref f)=true
 kp:W.keepIn K (.ref f)=true
section
variable {X:Cx} {pins:List (Addr×Obj)} {Z:St} {H:Hp} {s:Shared} {a C dx:Addr} {fs:List (Str×V)} {f:Str} {v:V} {A:Around} {E:Value->Shared->Prop}
theorem zci(I:Inv X pins Z H s)(e:H a=some (.ins C dx fs))(c:Cls X.K C)(n:NoAttr X.K C f)(l:fs.lookup f=some v)(h:∀u s',Inv X pins Z H s'->RelV v u->Q u s'):wpAny (model X.prog X.w) A (getAttr (.ref a) f b) Q E s:=by
 obtain⟨mA,O,r,_,_,_⟩:=V0 I.hok e;obtain⟨u,hu,ru⟩:=RelO.some_of (by rw[<-l];exact r f);exact zfs I.kIn O (c.get f) c.hd n hu (zdm ru) (h u _ (I.tok _) ru)
theorem zbD(I:Inv X pins Z H s)(e:H a=some (.ins C dx fs))(c:Cls X.K C)(k:Meth X.K C m g)(l:fs.lookup m=none)(h:Q (.ref g,[.ref a]) s):wpAny (model X.prog X.w) A (getMethod (.ref a) m pl) Q E s:=by
 obtain⟨mA,O,r,_,_,_⟩:=V0 I.hok e;have hn:=RelO.none_of (by rw[<-l];exact r m);exact zeV I.kIn O (c.get m) k.at_ k.fn hn h
theorem zch(I:Inv X pins Z H s)(e:H a=some (.ins C dx fs))(c:Cls X.K C)(n:NoAttr X.K C f)(hl:fs.length<1000)(ry:RelV y u)(h:∀s',Inv X pins Z (upd H a (.ins C dx (wR f y fs))) s'->Q () s'):wpAny (model X.prog X.w) A (setAttr (.ref a) f u) Q E s:=by
 obtain⟨mA,O,r,wi,_,ho⟩:=V0 I.hok e;have hz:(fs.map (·.1)).length<=sizeLine:=by rw[List.length_map,sizeLine_eq];omega
 refine zfu I.kIn O c.sa c.po n.taker c.hd wi hz λh' O' sb=>h _ ?_;have hd:∃o,h'.get? dx=some o:=let ⟨o,_,_,e',_⟩:=O'.ns;⟨o,e'⟩;refine I.write (by rw[e];exact True.intro) (.inr ho) (λb q hb z=>(sb.2 b hb).trans z) hd ?_;refine⟨by rw[zB O.ne];exact ho,?_,O.ne,O'.obj,_,O'.ns,λg=>?_,λg hg=>?_⟩
 ·have:=qF f y fs;omega
 ·show RelO ((wR f y fs).lookup g) (if g=f then some u else mA g);rw[yp];by_cases q:g=f
  ·rw[if_pos q,if_pos q];exact ry
  ·rw[if_neg q,if_neg q];exact r g
 ·by_cases q:g=f
  ·rw[q];exact (W2 f y fs).1
  ·refine (W2 f y fs).2 g (wi g λz=>hg ?_);show (if g=f then some u else mA g)=none;rw[if_neg q];exact z
theorem Inv.made(I:Inv X pins Z H s):Inv X pins Z (upd (upd H s.heap.objs.size (.own (s.heap.objs.size+1))) (s.heap.objs.size+1) (.ins C s.heap.objs.size []))
  { s with heap:=(s.heap.push W.emptyDict).push (W.instObj C s.heap.objs.size) }:=by
 have e1:(s.heap.push W.emptyDict).get? s.heap.objs.size=some W.emptyDict:=Heap.get?_push_size s.heap rfl;have e2:((s.heap.push W.emptyDict).push (W.instObj C s.heap.objs.size)).get? (s.heap.objs.size+1)=some (W.instObj C s.heap.objs.size):=by
  have:=Heap.get?_push_size (s.heap.push W.emptyDict) (o:=W.instObj C s.heap.objs.size) rfl;rwa[Heap.size_push]at this
 have e3:(s.heap.push W.emptyDict).Ns s.heap.objs.size (λ_=>none):=⟨W.emptyDict,#[],_,e1,rfl,(λe he=>absurd he (by simp)),λ_=>rfl⟩
 have I1:=I.laid (o:=.own (s.heap.objs.size+1)) (t':=s.toks) (λb u q=>Heap.get?_push_of_some _ q) (Nat.le_refl _) ⟨_,e1⟩;refine I1.laid (λb u q=>Heap.get?_push_of_some _ q) (Nat.le_of_eq (Heap.size_push _ _)) ?_;have ne:s.heap.objs.size≠s.heap.objs.size+1:=Nat.ne_of_lt (Nat.lt_succ_self _);refine⟨by rw[zB ne,zp],Nat.zero_le _,ne,e2,λ_=>none,(Heap.Ns1.of_empty e3).at λo q=>Heap.get?_push_of_some _ q,λ_=>True.intro,λy hy=>absurd rfl hy⟩
theorem zfV(hb:attributeBase e f env (eval e env)=eval e env)(h:wpAny (model prog w) A (eval e env) (λo s₁=>wpAny (model prog w) A (getAttr o f true) Q E s₁) E s):wpAny (model prog w) A (eval (.Attribute e f pos) env) Q E s :=
 Attribute_any_ h (by rw[arm_eval_Attribute,hb])
end
def zhi(K:W.Frag)(ta:TE)(f:Str):TE:=λZ H Q=>ta Z H λx H1=>Ex5 λa C dx fs v=>x=.ref a/\H1 a=some (.ins C dx fs)/\Cls K C/\NoAttr K C f/\fs.lookup f=some v/\Q v H1
def zhR(K:W.Frag)(ta tv:TE)(f:Str):TS:=λD Z H=>tv Z H λy H1=>ta Z H1 λx H2=>Ex4 λa C dx fs=>x=.ref a/\H2 a=some (.ins C dx fs)/\Cls K C/\NoAttr K C f/\fs.length<1000 /\
 D.nx Z (upd H2 a (.ins C dx (wR f y fs)))
section
variable {X:Cx} {o e value:Expr} {f:Str} {pos pos' tpos:Pos} {ta tv:TE}
theorem zgE(he:PE X e ta)(hb:attributeBase e f X.env (eval e X.env)=eval e X.env):PE X (.Attribute e f pos) (zhi X.K ta f):=by
 intro pins s Z H Q I h;refine zfV hb (thn (he pins s Z H _ I h) λu s1 ⟨x,H1,I1,rx,a,C,dx,fs,v,ex,ea,c,n,l,q⟩=>?_);subst ex;obtain rfl:u=Value.ref a:=rx;exact zci I1 ea c n l λu' s2 I2 ru=>⟨v,H1,I2,ru,q⟩
theorem zam(ha:PE X o ta)(hv:PE X value tv)(hs:swapsWith value (some (.Attribute o f pos')) pos.line X.env=pure false):PS X (.Assign [.Attribute o f pos'] value pos) (zhR X.K ta tv f):=by
 intro pins s Z H D I h;refine plainObj_wpAny_Assign_Attribute (thn (hv pins s Z H _ I h) λu s1 ⟨y,H1,I1,ry,q⟩=>thn (ha pins s1 Z H1 _ I1 q) λov s2 ⟨x,H2,I2,rx,a,C,dx,fs,ex,ea,c,n,l,q2⟩=>?_) hs;subst ex;obtain rfl:ov=Value.ref a:=rx;exact zch I2 ea c n l ry λs3 I3=>⟨Z,_,I3,q2⟩
end
section
variable {X:Cx} {pins:List (Addr×Obj)} {Z:St} {H:Hp} {s:Shared} {A:Around} {E:Value->Shared->Prop} {Q:Value->Shared->Prop} {c:Value} {b:Bool}
inductive Wf (K:W.Frag) (H:Hp):V->Value->Prop where
 |non:Wf K H .non (.type "NoneType")
 |bl (x:Bool):Wf K H (.bl x) (.type "bool")
 |int (i:Int):Wf K H (.int i) (.type "int")
 |str (x:Str):Wf K H (.str x) (.type "str")
 |flt (x:UInt64):Wf K H (.flt x) (.type "float")
 |lst {a:Addr} {xs:List V} (e:H a=some (.lst xs)):Wf K H (.ref a) (.type "list")
 |frz {a:Addr} {o:Obj} {xs:List V} (e:H a=some (.frz o (.lst xs))):Wf K H (.ref a) (.type "list")
 |tup {a:Addr} {xs:List V} (e:H a=some (.tup xs)):Wf K H (.ref a) (.type "tuple")
 |dK {a:Addr} {kvs:List (Key×V)} (e:H a=some (.dK kvs)):Wf K H (.ref a) (.type "dict")
 |dT {a:Addr} {kvs:List (List Key×V)} (e:H a=some (.dT kvs)):Wf K H (.ref a) (.type "dict")
 |ins {a C dx:Addr} {fs:List (Str×V)} (e:H a=some (.ins C dx fs)) (cl:Cls K C) (ha:W.findIn K (.ref C) "__class__"= some (some (.builtin "object.__class__")))
   (hn:W.specialIn K (.builtin "object.__class__") "__get__"= some (some (.builtin "getset_descriptor.__get__"))) (htk:W.takesIn K (.builtin "object.__class__")=some true)
   (hm:W.mroIn K C (.type "object")=some true):Wf K H (.ref a) (.ref C)
theorem zdh(I:Inv X pins Z H s)(rx:RelV x u)(ty:Wf X.K H x t)(e:W.kitOne X.K t c=some b)(h:∀tk,Q (.bool b) { s with toks:=tk }):
  wpAny (model X.prog X.w) A (call (.builtin "isinstance") [u,c]) Q E s:=by
 cases ty with
 |non=>cases (show u=Value.none from rx);exact W.kia_one W.kitx_none I.kIn True.intro e (λz=>nomatch z) h
 |bl y=>cases (show u=Value.bool y from rx);exact W.kia_one W.kitx_bool I.kIn True.intro e (λz=>nomatch z) h
 |int i=>obtain⟨t,q⟩:=(show ∃t,u=Value.int i t from rx);cases q;exact W.kia_one W.kitx_int I.kIn True.intro e (λz=>nomatch z) h
 |str y=>obtain⟨t,q⟩:=(show ∃t,u=Value.str y t from rx);cases q;exact W.kia_one W.kitx_str I.kIn True.intro e (λz=>nomatch z) h
 |flt y=>obtain⟨t,q⟩:=(show ∃t,u=Value.float y t from rx);cases q;exact W.kia_one W.kitx_float I.kIn True.intro e (λz=>nomatch z) h
 |@lst a xs ea=>
  cases (show u=Value.ref a from rx);obtain⟨_,_,n,_,h1⟩:=(show ObjOk X.prog X.w H s.heap a (.lst xs) from I.hok a _ ea)
  exact W.kia_one W.kitx_list I.kIn ⟨_,h1,rfl⟩ e (λz=>nomatch z) h
 |@frz a ob xs ea=>
  cases (show u=Value.ref a from rx);obtain⟨_,_,_,n,_,h1⟩:=(show ObjOk X.prog X.w H s.heap a (.frz ob (.lst xs)) from I.hok a _ ea)
  exact W.kia_one W.kitx_list I.kIn ⟨_,h1,rfl⟩ e (λz=>nomatch z) h
 |@tup a xs ea=>
  cases (show u=Value.ref a from rx);obtain⟨_,_,_,p⟩:=(show ObjOk X.prog X.w H s.heap a (.tup xs) from I.hok a _ ea)
  obtain⟨o,h1,h2,_⟩:=p;exact W.kia_one W.kitx_tuple I.kIn ⟨o,h1,h2⟩ e (λz=>nomatch z) h
 |@dK a kvs ea=>
  cases (show u=Value.ref a from rx);obtain⟨_,_,vs,_,p⟩:=(show ObjOk X.prog X.w H s.heap a (.dK kvs) from I.hok a _ ea)
  obtain⟨o,es,ep,h1,h2,_⟩:=p;exact W.kia_one W.kitx_dict I.kIn ⟨o,h1,h2.1⟩ e (λz=>nomatch z) h
 |@dT a kvs ea=>
  cases (show u=Value.ref a from rx);obtain⟨_,_,xs,_,o,es,ep,h1,h2,_⟩:=(show ObjOk X.prog X.w H s.heap a (.dT kvs) from I.hok a _ ea)
  exact W.kia_one W.kitx_dict I.kIn ⟨o,h1,h2.1⟩ e (λz=>nomatch z) h
 |@ins a C dx fs ea cl ha hn htk hm=>
  cases (show u=Value.ref a from rx);obtain⟨mA,O,_⟩:=V0 I.hok ea
  obtain⟨od,J,_⟩:=O.look;exact W.kia_one (W.kitx_own (cl.get _) cl.hd ha hn htk hm) I.kIn J e (λz=>nomatch z) h
end
structure Room (k:Nat) (A:Around):Prop where
 hd:A.handled=none
 dp:A.depth+k+5<recursionLimit
 un:A.units+16*k+200<cLine
 gd:A.guards=some []
theorem Room.mono(r:Room k A)(h:j<=k):Room j A:=⟨r.hd,by have:=r.dp;omega,by have:=r.un;omega,r.gd⟩
theorem Room.deeper(r:Room (k+1) A)(env:Env):Room k (A.deeper env):=
 ⟨r.hd,by have:=r.dp;show A.depth+1+k+5<_;omega,by have:=r.un;show A.units+3+16*k+200<_;omega,r.gd⟩
theorem Room.in1(r:Room (k+1) A):Room k A.in1 :=
 ⟨r.hd,by have:=r.dp;show A.depth+k+5<_;omega,by have:=r.un;show A.units+1+16*k+200<_;omega,r.gd⟩
theorem zbY{A:Around}:(A.under (.builtin "type.__call__" ⟨.ref C::us,kw⟩)).depth=A.depth+1:=by
 first | rfl | simp[Around.under,Code.weight,Code.isCreation,Code.isGuard,Code.isCaller,Code.frames,Code.isFrame,guardIds]
theorem zbG{A:Around}:(A.under (.builtin "type.__call__" ⟨.ref C::us,kw⟩)).units=A.units+1:=by
 first | rfl | simp[Around.under,Code.cUnits,Code.frames,Code.isFrame]
theorem Room.make(r:Room (k+1) A)(C:Addr)(us:List Value)(kw:List (Str×Value)):Room k (A.under (.builtin "type.__call__" ⟨.ref C::us,kw⟩)):=
 ⟨r.hd,by have:=r.dp;rw[zbY];omega,by have:=r.un;rw[zbG];omega,by first | exact r.gd | (simp[Around.under,Code.guards,Code.isGuard,guardIds];exact r.gd)⟩
theorem Room.depth(r:Room k A):A.depth<recursionLimit:=by have:=r.dp;omega
theorem Room.units(r:Room k A):A.units+64<cLine:=by have:=r.un;omega
def zbS:TA:=λ_ H Q=>Q [] H
def Xf(ta:TE)(tr:TA):TA:=λZ H Q=>ta Z H λx H1=>tr Z H1 λxs H2=>Q (x::xs) H2
section
variable {X:Cx} {e:Expr} {es:List Expr} {te:TE} {t:TA} {pos:Pos}
theorem zg:PA X [] zbS:=λ_ _ _ _ H Q I h=>Calls.spliced_nil ⟨[],H,I,.nil,h⟩
theorem zf(ha:PE X e te)(hr:PA X es t)(hs:starEach (e::es) X.env=(false,eval e X.env)::starEach es X.env:=by rfl):PA X (e::es) (Xf te t):=by
 intro pos pins s Z H Q I h;rw[hs];refine Calls.spliced_cons (thn (ha pins s Z H _ I h) λu s1 ⟨x,H1,I1,r1,q1⟩=>?_);exact thn (hr pos pins s1 Z H1 _ I1 q1) λus s2 ⟨xs,H2,I2,r2,q2⟩=>⟨x::xs,H2,I2,.cons r1 r2,q2⟩
def zgJ(t:TA):TE:=λZ H Q=>t Z H λxs H1=>xs.length<=sizeLine/\∀p,H1 p=none->Q (.ref p) (upd H1 p (.tup xs))
def zdO(t:TA):TE:=λZ H Q=>t Z H λxs H1=>xs.length<=sizeLine/\∀p,H1 p=none->Q (.ref p) (upd H1 p (.lst xs))
theorem wC{x1}(h:PA X es t):PE X (.Tuple es x1 pos) (zgJ t):=by
 intro pins s Z H Q I hq;refine wpAny_Tuple_spliced (thn (h pos pins s Z H _ I hq) λus s1 ⟨xs,H1,I1,r,z,q⟩=>⟨by rw[<-r.length];exact z,?_⟩);have hf:=I1.hok.fresh (Nat.le_refl _);refine⟨.ref s1.heap.objs.size,upd H1 s1.heap.objs.size (.tup xs),I1.laid (λb u e=>Heap.get?_push_of_some _ e) (Nat.le_refl _) ?_,rfl,q _ hf⟩;exact⟨z,us,r,⟨_,Heap.get?_push_size _ rfl,rfl,_,rfl⟩⟩
theorem yc(h:PA X es t):PE X (.List es pos) (zdO t):=by
 intro pins s Z H Q I hq;refine wpAny_List_spliced (thn (h pos pins s Z H _ I hq) λus s1 ⟨xs,H1,I1,r,z,q⟩=>⟨by rw[<-r.length];exact z,?_⟩);have hf:=I1.hok.fresh (Nat.le_refl _);refine⟨.ref s1.heap.objs.size,upd H1 s1.heap.objs.size (.lst xs),I1.laid (λb u e=>Heap.get?_push_of_some _ e) (Nat.le_refl _) ?_,rfl,q _ hf⟩;exact⟨z,us,0,r,Heap.get?_push_size _ rfl⟩
end
abbrev Sp:=List V->Hp->VK->XK->Prop
abbrev CXT:=List Env->Hp->Shared->XK->Value->Shared->Prop
structure Env0 (P:Program) (w:World) (K:W.Frag) (mg:Str->Option Value) (base:Heap) (A:Around) (outer:List Env) (s:Shared) (H:Hp):Prop where
 frames:A.frames=some outer
 mod:Mod K mg base
 bs:∀b o,base.get? b=some o->s.heap.get? b=some o/\H b=none
 bsz:base.objs.size<=s.heap.objs.size
 funs:s.heap.FunFrames base outer
 frf:∀b∈frs outer,H b=none
 hok:HOk P w H s.heap
 bare:AllBare s.gens
def CE(outer:List Env)(P:Program)(w:World)(H:Hp)(s:Shared)(Q:VK)(u:Value)(s':Shared):Prop :=
 ∃v H',s'.os=s.os/\AllBare s'.gens/\Un (frs outer) [] H H' s.heap s'.heap/\HOk P w H' s'.heap/\RelV v u/\Q v H'
def CR(CX:CXT)(outer:List Env)(P:Program)(w:World)(H:Hp)(s:Shared)(Q:VK)(E:XK)(r:Result)(s':Shared):Prop :=
 match r with
 |.ok (.ret u)=>CE outer P w H s Q u s'
 |.ok _=>False
 |.error e=>CX outer H s E e s'
structure FnOk (P:Program) (w:World) (K:W.Frag) (mg:Str->Option Value) (base:Heap) (CX:CXT) (k:Nat) (f:Addr) (fd:FuncData) (ps:List Str) (sp:Sp):Prop where
 len:∀vs H Q E,sp vs H Q E->vs.length=ps.length
 run:∀(A:Around) (outer:List Env) (s:Shared) (H:Hp) (args:Args) (us:List Value) (vs:List V) (Q:VK) (E:XK),Room k A->Env0 P w K mg base A outer s H->BindsTo s fd args (ps.zip us)->Vals vs us->sp vs H Q E ->
  codeAny (model P w) A (.call (.ref f) args) (CR CX outer P w H s Q E) s
theorem FnOk.imp{K:W.Frag}(F:FnOk P w K mg base CX k f fd ps sp)(h:∀vs H Q E,sp' vs H Q E->sp vs H Q E):FnOk P w K mg base CX k f fd ps sp' :=
 ⟨λvs H Q E q=>F.len vs H Q E (h _ _ _ _ q),λA outer s H args us vs Q E hr he hb hv hs=>F.run A outer s H args us vs Q E hr he hb hv (h _ _ _ _ hs)⟩
theorem Env0.make{K:W.Frag}(e:Env0 P w K mg base A outer s H)(C:Addr)(us:List Value)(kw:List (Str×Value)):
  Env0 P w K mg base (A.under (.builtin "type.__call__" ⟨.ref C::us,kw⟩)) outer s H:=⟨by first | exact e.frames | (simpa[Around.under,Code.envs,Code.isFrame,pushEnvs] using e.frames),e.mod,e.bs,e.bsz,e.funs,e.frf,e.hok,e.bare⟩
theorem Env0.in1{K:W.Frag}(e:Env0 P w K mg base A outer s H):
  Env0 P w K mg base A.in1 outer s H:=⟨e.frames,e.mod,e.bs,e.bsz,e.funs,e.frf,e.hok,e.bare⟩
section
variable {X:Cx} {pins:List (Addr×Obj)} {Z:St} {H:Hp} {s s':Shared}
theorem Inv.env0(I:Inv X pins Z H s):Env0 X.prog X.w X.K X.mg X.base X.A X.stack s H :=
 ⟨I.ok.frames,I.ok.mod,I.bs,Nat.le_trans I.ok.bsz I.sz,I.stack,I.stkFree,I.hok,I.bare⟩
theorem Inv.after(I:Inv X pins Z H s)(h:CE X.stack X.prog X.w H s Q u s'):EP X pins Z Q u s':=by
 obtain⟨v,H',os,bare,un,hok,r,q⟩:=h;obtain⟨hh,g,d,t,os'⟩:=s';obtain rfl:os'=s.os:=os;exact⟨v,H',I.call un hok bare (λb z=>absurd z (by simp)),r,q⟩
end
def zfY(sp:Sp)(dvs:List V)(E:XK)(t:TA):TE:=λZ H Q=>t Z H λvs H1=>sp (vs++dvs) H1 Q E
def zf7(C:Addr)(m:Str)(sp:Sp)(dvs:List V)(E:XK)(ta:TE)(t:TA):TE:=λZ H Q=>ta Z H λx H1=>Ex3 λa dx fs=>x=.ref a/\H1 a=some (.ins C dx fs)/\fs.lookup m=none /\
 t Z H1 λvs H2=>sp (x::(vs++dvs)) H2 Q E
def zha(C:Addr)(sp:Sp)(dvs:List V)(E:XK)(t:TA):TE:=λZ H Q=>t Z H λvs H1=>∀x dx,H1 x=none->H1 dx=none->dx≠x ->
 sp (.ref x::(vs++dvs)) (upd (upd H1 dx (.own x)) x (.ins C dx [])) (λv H2=>v=.non/\Q (.ref x) H2) E
def Binds(K:W.Frag)(fd:FuncData)(ps:List Str)(ds:List Value):Prop :=
 ∀s us,K.In s.heap->(us++ds).length=ps.length->BindsTo s fd ⟨us,[]⟩ (ps.zip (us++ds))
theorem Binds.all{K:W.Frag}(h:∀us:List Value,us.length=ps.length->bindArgs fd ⟨us,[]⟩=pure (ps.zip us)):Binds K fd ps []:=λs us _ hl=>by
 rw[List.append_nil]at hl ⊢;exact .of_eq (h us hl)
def Vi(CX:CXT)(X:Cx)(E:XK):Prop:=∀(pins:List (Addr×Obj)) (Z:St) (H:Hp) (s:Shared) (e:Value) (s':Shared),Inv X pins Z H s->CX X.stack H s E e s'->X.xe e s'
section
variable {X:Cx} {CX:CXT} {k:Nat} {f C:Addr} {fd:FuncData} {ps:List Str} {sp:Sp} {dvs:List V} {ds:List Value} {E:XK} {x m:Str} {p pos apos:Pos} {e o:Expr} {es:List Expr} {ta:TE} {t:TA}
theorem zeW{Z:St}(F:FnOk X.prog X.w X.K X.mg X.base CX k f fd ps sp)(hr:Room k X.A)(hb:Binds X.K fd ps ds)(hd:Vals dvs ds)(hx:Vi CX X E)(I:Inv X pins Z H s)(r:Vals vs us)(h:sp (vs++dvs) H Q E):wpAny (model X.prog X.w) X.A (call (.ref f) us) (EP X pins Z Q) X.xe s:=by
 have r2:=r.append hd;have hl:(us++ds).length=ps.length:=by rw[<-r2.length];exact F.len _ _ _ _ h
 refine wpAny_call (codeAny_mono (F.run X.A X.stack s H ⟨us,[]⟩ (us++ds) (vs++dvs) Q E hr I.env0 (hb s us I.kIn hl) r2 h) λr s' hq=>?_);cases r with
 |error e=>exact hx pins Z H s e s' I hq
 |ok fl=>
  cases fl with
  |ret u=>exact I.after hq
  |next=>exact False.elim hq
  |brk=>exact False.elim hq
  |cont=>exact False.elim hq
theorem zfi(F:FnOk X.prog X.w X.K X.mg X.base CX k f fd ps sp)(hr:Room k X.A)(hg:Gl X x)(hm:X.mg x=some (.ref f))(hk:W.keepIn X.K (.ref f)=true)(hb:Binds X.K fd ps ds)(hd:Vals dvs ds)(hx:Vi CX X E)(ha:PA X (e::es) t)(hdb:(x == ("__debug__" : Str))=false:=by decide)(he:starEach (e::es) X.env=(false,eval e X.env)::starEach es X.env:=by rfl)(hpl:(backTo pos (starEach es X.env)).any (·.1)=false:=by rfl):
  PE X (.Call (.Name x p) (e::es) [] pos) (zfY sp dvs E t):=by
 intro pins s Z H Q I h;refine wpAny_Call_Name_kw (YJ I hg hm ?_ hdb);refine W.callWith_K I.ok.mod.kin hk (thn (ha pos pins s Z H _ I h) λus s1 ⟨vs,H1,I1,r,q⟩=>⟨I1.kIn,?_⟩) he hpl;exact zeW F hr hb hd hx I1 r q
theorem zfQ{pl:Sem Bool}(he:PE X o ta)(c:Cls X.K C)(hm:Meth X.K C m f)(F:FnOk X.prog X.w X.K X.mg X.base CX k f fd ps sp)(hr:Room k X.A)(hb:Binds X.K fd ps ds)(hd:Vals dvs ds)(hx:Vi CX X E)(ha:PA X (e::es) t)(hst:starEach (e::es) X.env=(false,eval e X.env)::starEach es X.env:=by rfl)(hpl:(backTo pos (starEach es X.env)).any (·.1)=false:=by rfl)(ht:eval (.Call (.Attribute o m apos) (e::es) [] pos) X.env=(do
   let ov <-eval o X.env
   standAt apos.atName
   let (f,first) <-holding [ov] (getMethod ov m pl)
   callWith pos f first (backTo pos (starEach (e::es) X.env)) (backToKw pos (keywordEach [] X.env))):=by rfl):
  PE X (.Call (.Attribute o m apos) (e::es) [] pos) (zf7 C m sp dvs E ta t):=by
 intro pins s Z H Q I h;refine W.methodCall_KW (thn (he pins s Z H _ I h) λu s1 ⟨x,H1,I1,rx,a,dx,fs,ex,ea,l,q⟩=>?_) ht;subst ex;obtain rfl:u=Value.ref a:=rx;refine zbD I1 ea c hm l ?_;refine W.callWith_K I.ok.mod.kin hm.kp (thn (ha pos pins s1 Z H1 _ I1 q) λus s2 ⟨vs,H2,I2,r,q2⟩=>⟨I2.kIn,?_⟩) hst hpl;exact zeW (vs:=.ref a::vs) F hr hb hd hx I2 (.cons rfl r) q2
structure Mk (K:W.Frag) (C f:Addr):Prop where
 makes:W.makesIn K C=true
 init:W.findIn K (.ref C) "__init__"= some (some (.ref f))
 fn:W.isFn K (.ref f)=true
 kp:W.keepIn K (.ref C)=true
theorem zdJ{Z:St}(M:Mk X.K C f)(F:FnOk X.prog X.w X.K X.mg X.base CX k f fd ps sp)(hr:Room (k+1) X.A)(hb:Binds X.K fd ps ds)(hd:Vals dvs ds)(hx:Vi CX X E)(I:Inv X pins Z H s)(r:Vals vs us)(h:∀x dx,H x=none->H dx=none->dx≠x->sp (.ref x::(vs++dvs)) (upd (upd H dx (.own x)) x (.ins C dx [])) (λv H2=>v=.non/\Q (.ref x) H2) E):
  wpAny (model X.prog X.w) X.A (call (.ref C) us) (EP X pins Z Q) X.xe s:=by
 have hq:=h (s.heap.objs.size+1) s.heap.objs.size (I.hok.fresh (Nat.le_succ _)) (I.hok.fresh (Nat.le_refl _)) (Nat.ne_of_lt (Nat.lt_succ_self _));have I2:=Inv.made (C:=C) I;have r2:Vals (V.ref (s.heap.objs.size+1)::(vs++dvs)) (Value.ref (s.heap.objs.size+1)::(us++ds)):=.cons rfl (r.append hd);have hl:(Value.ref (s.heap.objs.size+1)::us++ds).length=ps.length:=by
  have e:=r2.length;rw[F.len _ _ _ _ hq]at e;exact e.symm
 refine wpAny_call (zeT I.kIn M.makes M.init (beq_iff_eq.mp M.fn) (codeAny_mono (F.run _ X.stack _ _ ⟨Value.ref (s.heap.objs.size+1)::us,[]⟩ (Value.ref (s.heap.objs.size+1)::(us++ds)) _ _ E (hr.make C us [])
  (I2.env0.make C us []) (hb _ (Value.ref (s.heap.objs.size+1)::us) I2.kIn hl) r2 hq) λr s' hq'=>?_))
 cases r with
 |error e=>exact hx pins Z _ _ e s' I2 hq'
 |ok fl=>
  cases fl with
  |ret u=>
   obtain⟨v,H',I3,rv,ev,q3⟩:=I2.after hq';subst ev;exact⟨rv,⟨V.ref (s.heap.objs.size+1),H',I3,rfl,q3⟩⟩
  |next=>exact False.elim hq'
  |brk=>exact False.elim hq'
  |cont=>exact False.elim hq'
theorem zfp(M:Mk X.K C f)(F:FnOk X.prog X.w X.K X.mg X.base CX k f fd ps sp)(hr:Room (k+1) X.A)(hg:Gl X x)(hm:X.mg x=some (.ref C))(hb:Binds X.K fd ps ds)(hd:Vals dvs ds)(hx:Vi CX X E)(ha:PA X (e::es) t)(hdb:(x == ("__debug__" : Str))=false:=by decide)(he:starEach (e::es) X.env=(false,eval e X.env)::starEach es X.env:=by rfl)(hpl:(backTo pos (starEach es X.env)).any (·.1)=false:=by rfl):
  PE X (.Call (.Name x p) (e::es) [] pos) (zha C sp dvs E t):=by
 intro pins s Z H Q I h;refine wpAny_Call_Name_kw (YJ I hg hm ?_ hdb);refine W.callWith_K I.ok.mod.kin M.kp (thn (ha pos pins s Z H _ I h) λus s1 ⟨vs,H1,I1,r,q⟩=>⟨I1.kIn,?_⟩) he hpl;exact zdJ M F hr hb hd hx I1 r q
end
section
variable {X:Cx} {CX:CXT} {k:Nat} {f C:Addr} {fd:FuncData} {ps ks:List Str} {sp:Sp} {E:XK} {x m:Str} {p pos apos kpos:Pos} {e o:Expr} {es:List Expr} {kws:List Keyword} {te ta:TE} {t tk:TA} {nm:Option Str}
variable {g:List Value->List Value->List Value} {gV:List V->List V->List V}
end
structure zF (N P:List Str) (sc:Scope):Prop where
 kind:sc.kind=.function:=by rfl
 co:sc.isCoroutine=false:=by rfl
 gen:sc.isGenerator=false:=by rfl
 nd:N.Nodup:=by decide +kernel
 pre:N.take P.length=P:=by rfl
 par:∀x∈P,sc.names.lookup x=some .local\/sc.names.lookup x=some .cell:=by decide +kernel
 nofree:∀y∈sc.names,y.2≠.free:=by decide +kernel
theorem Jv{kindOf:Str->Option NameKind}{x:Str}:∀{binds:List (Str×Value)} {m:Str->Option Value},(∀v,(x,v)∉binds)->bindL kindOf binds m x=m x
 |[],_,_=>rfl
 | (n,v)::r,m,h=>by
  unfold bindL;rw[Jv λw hw=>h w (List.mem_cons_of_mem _ hw)];split
  ·have:x≠n:=by rintro rfl;exact h v List.mem_cons_self
   simp[this]
  ·rfl
theorem Jb{kindOf:Str->Option NameKind}{x:Str}:∀{binds:List (Str×Value)} {m:Str->Option Value},(∀v,(x,v)∉binds)->bindC kindOf binds m x=m x
 |[],_,_=>rfl
 | (n,v)::r,m,h=>by
  unfold bindC;rw[Jb λw hw=>h w (List.mem_cons_of_mem _ hw)];split
  ·rfl
  ·have:x≠n:=by rintro rfl;exact h v List.mem_cons_self
   simp[this]
theorem Jh{kindOf:Str->Option NameKind}{x:Str}{v:Value}:∀{P:List Str} {vs:List Value} {i:Nat} {m:Str->Option Value},P.Nodup->P[i]?=some x->vs[i]?=some v->kindOf x=some .local ->
  bindL kindOf (P.zip vs) m x=some v
 |[],_,_,_,_,h,_,_=>by simp at h
 |_::_,[],_,_,_,_,h,_=>by simp at h
 |p::P,w::vs,0,m,nd,h1,h2,hk=>by
  simp at h1 h2;subst h1;subst h2;show bindL kindOf ((p,w)::P.zip vs) m p=_;unfold bindL;rw[Jv λv hv=>(List.nodup_cons.mp nd).1 (List.of_mem_zip hv).1,if_pos hk];simp
 |p::P,w::vs,i+1,m,nd,h1,h2,hk=>by
  show bindL kindOf ((p,w)::P.zip vs) m x=_;unfold bindL;exact Jh (i:=i) (List.nodup_cons.mp nd).2 (by simpa using h1) (by simpa using h2) hk
theorem Q5{kindOf:Str->Option NameKind}{x:Str}{v:Value}:∀{P:List Str} {vs:List Value} {i:Nat} {m:Str->Option Value},P.Nodup->P[i]?=some x->vs[i]?=some v->kindOf x≠some .local ->
  bindC kindOf (P.zip vs) m x=some v
 |[],_,_,_,_,h,_,_=>by simp at h
 |_::_,[],_,_,_,_,h,_=>by simp at h
 |p::P,w::vs,0,m,nd,h1,h2,hk=>by
  simp at h1 h2;subst h1;subst h2;show bindC kindOf ((p,w)::P.zip vs) m p=_;unfold bindC;rw[Jb λv hv=>(List.nodup_cons.mp nd).1 (List.of_mem_zip hv).1,if_neg hk];simp
 |p::P,w::vs,i+1,m,nd,h1,h2,hk=>by
  show bindC kindOf ((p,w)::P.zip vs) m x=_;unfold bindC;exact Q5 (i:=i) (List.nodup_cons.mp nd).2 (by simpa using h1) (by simpa using h2) hk
def start(N:List Str)(vs:List V):St:=vs.map some++List.replicate (N.length-vs.length) none
def XJ(CX:CXT)(P:Program)(w:World)(K:W.Frag)(mg:Str->Option Value)(base:Heap)(N:List Str)(qual:Str)(scope:Scope)(f:Addr)(cd:Value)(A:Around)(outer:List Env)(s:Shared)(H:Hp)(E:XK):Cx where
 prog:=P
 w:=w
 K:=K
 mg:=mg
 base:=base
 A:=A.deeper (envOfC qual scope s.heap.objs.size f cd)
 N:=N
 s₀:=s
 H₀:=H
 env:=envOfC qual scope s.heap.objs.size f cd
 outer:=outer
 stack:=envOfC qual scope s.heap.objs.size f cd::outer
 ex:=[]
 calm:=true
 fn:=λ_=>true
 pn:=[]
 xe:=λe s'=>wpAny (model P w) (A.deeper (envOfC qual scope s.heap.objs.size f cd)) (leaving (envOfC qual scope s.heap.objs.size f cd) e) (λ_ s''=>CX outer H s E e s'') (λe' s''=>CX outer H s E e' s'') s'
theorem za3{sc:Scope}(h:sc.names.lookup x=some .cell):∃c,(cellsFrom n sc.names []).lookup x=some c:=by
 have q:=W.cellsFrom_some sc.names n [] (.inl h);exact Option.isSome_iff_exists.mp q
theorem Jo{K:W.Frag}(S:zF N ps scope)(hd:A.handled=none)(e0:Env0 P w K mg base A outer s H)(hl:vs.length=ps.length)(r:Vals vs us)(x:InCallC s s.heap.objs.size (bindL (envOfC qual scope s.heap.objs.size f cd).kindOf (ps.zip us) λ_=>none) (cellsFrom (s.heap.objs.size+1) scope.names []) (bindC (envOfC qual scope s.heap.objs.size f cd).kindOf (ps.zip us) λ_=>none) s1):
  Inv (XJ CX P w K mg base N qual scope f cd A outer s H E) [] (start N vs) H s1:=by
 have hpl:ps.length<=N.length:=by have:=congrArg List.length S.pre;rw[List.length_take]at this;omega
 obtain⟨h1,tk,rfl,hk⟩:=x.done;have noA:∀b:Addr,b∉(XJ CX P w K mg base N qual scope f cd A outer s H E).ex:=λb z=>absurd (show b∈([]) from z) (by simp);refine⟨⟨e0.mod,S.kind,rfl,rfl,Nat.le_refl _,λy z c h1 h2=>?_,λy hy=>?_,λy c _ h=>?_,λ_=>hd,Around.frames_deeper e0.frames,.inr ⟨rfl,rfl⟩,λb z=>absurd z (noA b),e0.bs,e0.bsz,λb _ _=>noA b,λb z=>absurd z (noA b),e0.funs,e0.frf⟩,
  rfl,e0.bare,Un.kept hk,⟨_,x.toInCall.ns,λi y v h1 h2 h3=>?_⟩,λy c h=>⟨_,x.cell y c h⟩,e0.hok.fresh (Nat.le_refl _),λy c h=>?_,λp hp=>absurd (show p∈([]) from hp) (by simp),e0.hok.kept hk,?_⟩
 ·exact name_of_addr x.apart (PySem.mem_of_lookup h1) (PySem.mem_of_lookup h2)
 ·have hy:=hy;rcases hy with hy | hy
  ·exact za3 hy
  ·exact absurd rfl (S.nofree _ (PySem.mem_of_lookup hy))
 ·exact Nat.le_of_lt (x.above y c (PySem.mem_of_lookup h))
 ·have hi:i<vs.length:=by
   unfold start at h2;by_cases hi:i<vs.length
   ·exact hi
   ·rw[List.getElem?_append_right (by simpa using hi)]at h2;rw[List.getElem?_replicate]at h2;split at h2<;>cases h2
  have ha:vs[i]?=some v:=by
   unfold start at h2;rw[List.getElem?_append_left (by simpa using hi),List.getElem?_map]at h2;cases e:vs[i]? with
   |none=>rw[e]at h2;cases h2
   |some a=>rw[e]at h2;cases h2;rfl
  obtain⟨u,hu,rv⟩:=r.get ha;have hp:ps[i]?=some y:=by
   rw[<-S.pre,List.getElem?_take_of_lt (by omega)];exact h1
  have ndP:ps.Nodup:=by rw[<-S.pre];exact S.nd.sublist (List.take_sublist _ _)
  refine⟨u,rv,?_⟩;rcases S.par y (List.mem_of_getElem? hp) with k | k
  ·exact .inl ⟨k,Jh ndP hp hu k⟩
  ·obtain⟨c,e⟩:=za3 k;refine .inr ⟨.inl k,c,e,?_⟩;have q:=x.cell y c e;rw[Q5 ndP hp hu (by show scope.names.lookup y≠_;rw[k];decide)]at q;exact q
 ·exact e0.hok.fresh (Nat.le_of_lt (x.above y c (PySem.mem_of_lookup h)))
 ·unfold start;show _=N.length;rw[List.length_append,List.length_map,List.length_replicate];omega
theorem zem{K:W.Frag}{dV kV doc pm cdv ct oc:Value}(lk:K.lookup f=some ⟨oc,od,.func (W.fnOf name qual params body scope dV kV doc pm an cdv ct),osl⟩)(hcd:W.codeIn K cdv qual=true)(S:zF N ps scope)(len:∀vs H Q E,sp vs H Q E->vs.length=ps.length)(hbody:∀A outer s H vs Q E,Room k (A.deeper (envOfC qual scope s.heap.objs.size f cdv))->sp vs H Q E ->
   ∃t,PSs (XJ CX P w K mg base N qual scope f cdv A outer s H E) body t/\t { nx:=λ_ H'=>Q .non H',rt:=Q } (start N vs) H):
  FnOk P w K mg base CX (k+1) f (W.fnOf name qual params body scope dV kV doc pm an cdv ct) ps sp:=by
 refine⟨len,λA outer s H args us vs Q E hr e0 hb r hsp=>?_⟩;have hl:=len _ _ _ _ hsp;have KX:=e0.mod.kin.keeps λb o e=>(e0.bs b o e).1;have lim:=e0.mod.nolimit.keeps λb o e=>(e0.bs b o e).1;have hkind:∀y∈ps.zip us,scope.names.lookup y.1=some .local\/(scope.names.lookup y.1=some .cell/\((cellsFrom (s.heap.objs.size+1) scope.names []).lookup y.1).isSome=true):=λ⟨n,v⟩ hy=>by
  rcases S.par n (List.of_mem_zip hy).1 with q | q
  ·exact .inl q
  ·exact .inr ⟨q,W.cellsFrom_some _ _ _ (.inl q)⟩
 refine codeAny_call_function hr.depth (KX _ _ lk) rfl S.co S.gen rfl (W.codeRec_of KX hcd) (hb _ _ _ _ ?_);refine wpAny_newFunctionEnv_cells S.kind hkind λenv he s1 x=>?_;subst he;refine⟨lim.keeps x.toInCall.keep,codeAny_func ?_⟩;obtain⟨t,ht,hq⟩:=hbody A outer s H vs Q E (hr.deeper _) hsp;have I:Inv (XJ CX P w K mg base N qual scope f cdv A outer s H E) [] (start N vs) H s1:=Jo S hr.hd e0 hl r x;refine wpAny_mono (ht [] s1 (start N vs) H _ I hq) (λfl s' hs=>?_) λe s' hs=>hs;have fin:∀{σ':St} {H':Hp} {v:V} {u:Value},Inv (XJ CX P w K mg base N qual scope f cdv A outer s H E) [] σ' H' s'->RelV v u->Q v H'->CE outer P w H s Q u s' :=
  λ{σ' H' v u} J rv q=>⟨v,H',J.os,J.bare,J.base,J.hok,rv,q⟩
 cases fl with
 |ret u=>
  obtain⟨v,σ',H',J,rv,q⟩:=hs;exact fin J rv q
 |next=>
  obtain⟨σ',H',J,q⟩:=hs;exact fin (v:=V.non) J rfl q
 |brk=>
  obtain⟨_,_,_,q⟩:=hs;exact False.elim q
 |cont=>
  obtain⟨_,_,_,q⟩:=hs;exact False.elim q
section
variable {X:Cx} {x:Str} {p pos:Pos} {e:Expr} {es:List Expr} {t:TA} {id T:String} {r:List V->Hp->VK->Prop}
def tCB(r:List V->Hp->VK->Prop)(t:TA):TE:=λZ H Q=>t Z H λvs H1=>r vs H1 Q
theorem zz(hc:vg X (.builtin id) r)(hg:Gl X x)(hm:X.mg x=none)(hv:bootBuiltins x=some (.builtin id))(ha:PA X (e::es) t)(hn:x ≠ "__name__":=by decide)(hdb:(x == ("__debug__" : Str))=false:=by decide)(he:starEach (e::es) X.env=(false,eval e X.env)::starEach es X.env:=by rfl)(hpl:(backTo pos (starEach es X.env)).any (·.1)=false:=by rfl):PE X (.Call (.Name x p) (e::es) [] pos) (tCB r t):=by
 intro pins s Z H Q I h;refine wpAny_Call_Name_kw (ZV I hg hm hv ?_ hn hdb);exact PyProof.Rows.callWith_builtin1 (thn (ha pos pins s Z H _ I h) λus s1 ⟨vs,H1,I1,r1,q1⟩=>hc pins s1 Z H1 vs us Q I1 r1 q1) he hpl
theorem wM(hc:vg X (.type T) r)(hg:Gl X x)(hm:X.mg x=none)(hv:bootBuiltins x=some (.type T))(ha:PA X (e::es) t)(hn:x ≠ "__name__":=by decide)(hdb:(x == ("__debug__" : Str))=false:=by decide)(he:starEach (e::es) X.env=(false,eval e X.env)::starEach es X.env:=by rfl)(hpl:(backTo pos (starEach es X.env)).any (·.1)=false:=by rfl):PE X (.Call (.Name x p) (e::es) [] pos) (tCB r t):=by
 intro pins s Z H Q I h;refine wpAny_Call_Name_kw (ZV I hg hm hv ?_ hn hdb);exact PyProof.Rows.callWith_type1 (thn (ha pos pins s Z H _ I h) λus s1 ⟨vs,H1,I1,r1,q1⟩=>hc pins s1 Z H1 vs us Q I1 r1 q1) he hpl
end
end L2
namespace HT
open PySem PyProof.Rows
def lexLt:List Int->List Int->Bool
 |[],[]=>false
 |[],_::_=>true
 |_::_,[]=>false
 |x::xs,y::ys=>if x=y then lexLt xs ys else decide (x<y)
theorem qg(x y:Int)(xs ys:List Int):lexLt (x::xs) (y::ys)=if x=y then lexLt xs ys else decide (x<y):=rfl
theorem Y6:lexLt [] []=false:=rfl
theorem Qp(y:Int)(ys:List Int):lexLt [] (y::ys)=true:=rfl
theorem uX(x:Int)(xs:List Int):lexLt (x::xs) []=false:=rfl
theorem ze1(A:Around)(s:Shared)(a:Int)(t:Tok)(c:Int)(u:Tok):∃e,SeqAt.EqAt A s (.int a t) (.int c u) e/\(e=true↔a=c):=
 ⟨(a == c),SeqAt.EqAt.int_int a t c u,by simp⟩
theorem zbg(A:Around)(s:Shared)(a:Int)(t:Tok)(c:Int)(u:Tok)(prog:Program)(w:World)(E:Value->Shared->Prop)(Q:Value->Shared->Prop)(h:Q (.bool (decide (a<c))) s):
  wpAny (model prog w) A (richCompare .Lt (.int a t) (.int c u)) Q E s :=
 (PyProof.Rows.lt_int h)
section
open PySem.SeqAt
open PySem.AutoSeq1 (wpAny_loadPart')
open PySem.MeetsSeq PySem.MeetsSeq2 PySem.MeetsSeq3
end
section
variable {prog:Program} {w:World} {A:Around} {E:Value->Shared->Prop} {s:Shared}
theorem zfk(ht:IsTup s.heap t vs.toArray)(hb:IsTup s.heap b ws.toArray)(hv:vs≠[])(h1:ws=[]->Q (.ref t) s)(h2:ws≠[]->Q (.ref s.heap.objs.size) { s with heap:=s.heap.push { cls:=.type "tuple",data:=.seq (vs++ws).toArray } })(hsz:vs.length+ws.length<=sizeLine):wpAny (model prog w) A (binaryOp .Add (.ref t) (.ref b)) Q E s:=by
 obtain⟨⟨cls,dd,data,sl⟩,ho,hc,n,hd⟩:=id ht;obtain⟨⟨cls2,dd2,data2,sl2⟩,ho2,hc2,n2,hd2⟩:=id hb;subst hc hd hc2 hd2;have e:vs.toArray++ws.toArray=(vs++ws).toArray:=by simp
 by_cases hw:ws=[]
 ·exact concat_meets ⟨_,ho,rfl⟩ ⟨_,ho2,rfl⟩ noFill_tuple_add seq_tuple_add PySem.F.slot_tuple_add PySem.F.entry_tuple_add (PySem.F.args_tuple_add_2 _ _)
   (tuple_addW1 t b vs.toArray ws.toArray n n2 dd dd2 sl sl2 (by simpa using hv) (by simp[hw])) ⟨ho,ho2,h1 hw⟩
 ·refine concat_meets ⟨_,ho,rfl⟩ ⟨_,ho2,rfl⟩ noFill_tuple_add seq_tuple_add PySem.F.slot_tuple_add PySem.F.entry_tuple_add (PySem.F.args_tuple_add_2 _ _)
   (tuple_addW2 t b vs.toArray ws.toArray n n2 dd dd2 sl sl2 (by simpa using hv) (by simpa using hw) (by exact hsz)) ⟨ho,ho2,?_⟩
  rw[e];exact h2 hw
def sIx(n d:Nat):Option Int->Nat
 |none=>d
 |some v=>if v<0 then (v+(n:Int)).toNat else min v.toNat n
theorem zaX(n d:Nat):sIx n d none=d:=rfl
theorem VR(n d k:Nat):sIx n d (some (k:Int))=min k n:=by
 show (if k<0 then (k+(n:Int)).toNat else min (k:Int).toNat n)=min k n;rw[if_neg (by omega),Int.toNat_natCast]
theorem zgM(n d:Nat)(hd:d<=n)(o:Option Int):sIx n d o<=n:=by
 cases o with
 |none=>exact hd
 |some v=>
  show (if v<0 then (v+n).toNat else min v.toNat n)<=n;by_cases hv:v<0
  ·rw[if_pos hv];omega
  ·rw[if_neg hv];exact Nat.min_le_right _ _
theorem zcI(v:Int)(n d:Nat):(if v<0 then max (v+(n:Int)) 0 else min v (n:Int))=((sIx n d (some v):Nat):Int):=by
 show (if v<0 then max (v+n) 0 else min v n)=(((if v<0 then (v+(n:Int)).toNat else min v.toNat n):Nat))
 by_cases hv:v<0
 ·simp only[if_pos hv];omega
 ·simp only[if_neg hv];omega
theorem zcm(lo hi:Option Int)(n:Nat):Builtin.Slice.sliceAdjust lo hi 1 (n:Int)=(((sIx n 0 lo:Nat):Int),((sIx n n hi:Nat):Int)):=by
 have h1:¬ (1<0):=by omega
 refine Prod.ext ?_ ?_
 ·cases lo with
  |none=>rfl
  |some v=>exact zcI v n 0
 ·cases hi with
  |none=>rfl
  |some v=>exact zcI v n n
theorem zb3(i j:Nat):Builtin.Slice.slicePlaces (i:Int) (j:Int) 1=j-i:=by
 unfold Builtin.Slice.slicePlaces;have h1:1>0:=by omega
 split<;>omega
theorem V3(p:IsPart v o)(h:Q o s):wpAny (model prog w) A (Builtin.Slice.slicePartIndex v) Q E s:=by
 cases p with
 |none=>exact slicePart_none h
 |int i t=>exact slicePart_int h
theorem Zz{lo hi:Option Int}{Q:Int×Int×Nat->Shared->Prop}(hs:s.heap.IsSliceOf sl vl vu .none)(pl:IsPart vl lo)(pu:IsPart vu hi)(h:Q (((sIx n 0 lo:Nat):Int),1,sIx n n hi-sIx n 0 lo) s):wpAny (model prog w) A (Builtin.Slice.sliceApplied (.ref sl) (pure (n:Int))) Q E s:=by
 obtain⟨os,hos,hcs,hds⟩:=id hs;refine wpAny_bind (wpAny_bind (wpAny_field hos hds rfl (wpAny_bind (wpAny_field hos hds rfl (wpAny_bind (wpAny_field hos hds rfl (wpAny_pure ?_)))))));refine wpAny_bind (slicePart_none ?_);refine wpAny_bind (V3 pl (wpAny_bind (V3 pu (wpAny_bind (wpAny_pure ?_)))));show wpAny _ _ (match Builtin.Slice.sliceAdjust lo hi 1 n with | (lo,hi)=>pure (lo,(1:Int),Builtin.Slice.slicePlaces lo hi 1)) _ _ s;rw[zcm lo hi n];show wpAny _ _ (pure (((sIx n 0 lo:Nat):Int),1,Builtin.Slice.slicePlaces ((sIx n 0 lo:Nat)) ((sIx n n hi:Nat)) 1)) _ _ s;rw[zb3];exact wpAny_pure h
theorem zeA(xs:Array Value)(i k:Nat):((List.range k).filterMap λ(m:Nat)=>xs[((i:Int)+(m:Int)*1).toNat]?).toArray=((xs.toList.drop i).take k).toArray:=by
 have e:(λ(m:Nat)=>xs[(i+(m:Int)*1).toNat]?)=λm=>xs[i+m]?:=by
  funext m;have:(i+(m:Int)*1).toNat=i+m:=by omega
  rw[this]
 rw[e];have:=pick_run xs i k;rw[List.filterMap_map]at this;have e2:((λx=>xs[x]?) ∘ λx=>i+x)=λm=>xs[i+m]?:=rfl;rw[e2]at this;rw[this]
theorem Ww{lo hi:Option Int}(ht:IsTup s.heap t items)(hs:s.heap.IsSliceOf sl vl vu .none)(pl:IsPart vl lo)(pu:IsPart vu hi)(hw:¬ (sIx items.size 0 lo=0/\sIx items.size items.size hi=items.size))(h:Q (.ref s.heap.objs.size) { s with heap:=s.heap.push { cls:=.type "tuple",data:=.seq ((items.toList.drop (sIx items.size 0 lo)).take (sIx items.size items.size hi-sIx items.size 0 lo)).toArray } })(hsz:items.size<=sizeLine):wpAny (model prog w) A (getItem (.ref t) (.ref sl)) Q E s:=by
 have htake:sizeOk (.seq ((items.toList.drop (sIx items.size 0 lo)).take (sIx items.size items.size hi-sIx items.size 0 lo)).toArray):=by
  show ((items.toList.drop (sIx items.size 0 lo)).take (sIx items.size items.size hi-sIx items.size 0 lo)).toArray.size<=sizeLine;rw[List.size_toArray,List.length_take,List.length_drop,Array.length_toList];omega
 obtain⟨os,hos,hcs,hds⟩:=id hs;have hTs:s.TypeIs (.ref sl) "slice":=⟨os,hos,hcs⟩
 unfold getItem
 try with_reducible refine wpAny_holding ?_
 first | refine wpAny_bind (wpAny_pure ?_) | skip
 refine wpAny_bind (wpAny_sequenceKey ht.typeIs (by decide) ?_);refine wpAny_bind (wpAny_callSpecial?_slot ht.typeIs PyProof.Rows.slot_tuple_getitem
  (wpAny_call_entry PyProof.Rows.slot_tuple_getitem ht.typeIs entry_tuple_getitem ?_ (args_tuple_getitem _ _)))
 show wpAny _ _ (Builtin.Tuple.tupleItemsOf (.ref t) >>= _) _ _ s;refine wpAny_bind (tupleItemsOf_ ht ?_);refine wpAny_bind (wpAny_typeOf hTs ?_);refine wpAny_bind (Zz hs pl pu ?_);have hno:¬ ((((sIx items.size 0 lo:Nat):Int) == 0 && (1:Int) == 1 && (sIx items.size items.size hi-sIx items.size 0 lo) == items.size)=true):=by
  intro q;rw[Bool.and_eq_true,Bool.and_eq_true]at q;have q1:=eq_of_beq q.1.1;have q2:=eq_of_beq q.2;exact hw ⟨by omega,by omega⟩
 show wpAny _ _ (if (((sIx items.size 0 lo:Nat):Int) == 0 && 1 == 1 && (sIx items.size items.size hi-sIx items.size 0 lo) == items.size)=true then _ else _) _ _ s;rw[if_neg hno,zeA]
 first
  |exact wpAny_bind (wpAny_newObj_type (wpAny_pure ⟨_,rfl,wpAny_pure h⟩) htake)
  |exact wpAny_bind (wpAny_newObj_type (wpAny_bind (wpAny_pure (wpAny_pure ⟨_,rfl,wpAny_pure h⟩))) htake)
  |exact wpAny_bind (wpAny_bind (wpAny_newObj_type (wpAny_pure (wpAny_pure ⟨_,rfl,wpAny_pure h⟩)) htake))
  |exact wpAny_bind (wpAny_bind (wpAny_newObj_type (wpAny_pure ⟨_,rfl,wpAny_pure h⟩) htake))
end
end HT
namespace L2
open PySem PySem.Spec PyProof.Rows
abbrev TO:=St->Hp->(Option Int->Hp->Prop)->Prop
def PO(X:Cx)(e:Option Expr)(t:TO):Prop :=
 ∀(pins:List (Addr×Obj)) (s:Shared) (Z:St) (H:Hp) (Q:Option Int->Hp->Prop),Inv X pins Z H s->t Z H Q ->
  wpAny (model X.prog X.w) X.A (evalPart e X.env) (λu s'=>∃o H',Inv X pins Z H' s'/\IsPart u o/\Q o H') X.xe s
def zah:TO:=λ_ H Q=>Q none H
def zcz(t:TE):TO:=λZ H Q=>t Z H λx H1=>∃i,x=.int i/\Q (some i) H1
theorem intsAre_of:∀{us:List Value},Vals (ns.map V.int) us->IntsAre us ns:=by
 induction ns with
 |nil=>intro us r;cases r;exact .nil
 |cons n ns ih=>
  intro us r;cases r with
  |cons r1 r2=>
   obtain⟨t,e⟩:=r1;subst e;exact .cons n t (ih r2)
section
variable {X:Cx} {e:Expr} {te:TE} {lo hi:Option Expr} {tl th:TO} {pos p2:Pos}
theorem wA:PO X none zah:=by
 intro pins s Z H Q I h;rw[evalPart_none];exact wpAny_pure ⟨none,H,I,.none,h⟩
theorem yW(h:PE X e te):PO X (some e) (zcz te):=by
 intro pins s Z H Q I hw;refine thn (h pins s Z H _ I hw) λu s1 ⟨x,H1,I1,r1,q1⟩=>?_;obtain⟨i,rfl,q⟩:=q1;obtain⟨t,rfl⟩:=r1;exact⟨some i,H1,I1,.int i t,q⟩
def SlR(X:Cx)(r:V->Option Int->Option Int->Hp->VK->Prop):Prop :=
 ∀(pins:List (Addr×Obj)) (s:Shared) (Z:St) (H:Hp) (x:V) (v vl vu:Value) (lo hi:Option Int) (sl:Addr) (Q:VK),Inv X pins Z H s->RelV x v->s.heap.IsSliceOf sl vl vu .none->IsPart vl lo->IsPart vu hi->r x lo hi H Q ->
  ∃T id,typeLookup (.type T) "__getitem__"= pure (some (.builtin id))/\s.TypeIs v T/\wpAny (model X.prog X.w) X.A (getItem v (.ref sl)) (EP X pins Z Q) X.xe s
def tSl(r:V->Option Int->Option Int->Hp->VK->Prop)(te:TE)(tl th:TO):TE:=λZ H Q=>te Z H λx H1=>tl Z H1 λl H2=>th Z H2 λu H3=>r x l u H3 Q
theorem yN(hr:SlR X r)(he:PE X e te)(hl:PO X lo tl)(hu:PO X hi th):PE X (.Subscript e (.Slice lo hi none p2) pos) (tSl r te tl th):=by
 intro pins s Z H Q I h;refine Subscript_ (thn (he pins s Z H _ I h) λv s1 ⟨x,H1,I1,r1,q1⟩=>?_);refine wpAny_Slice (thn (hl pins s1 Z H1 _ I1 q1) λvl s2 ⟨l,H2,I2,pl,q2⟩=>thn (hu pins s2 Z H2 _ I2 q2) λvu s3 ⟨u,H3,I3,pu,q3⟩=>?_);refine wpAny_pure ?_;have I4:Inv X pins Z H3 { s3 with heap:=s3.heap.push { cls:=.type "slice",data:=.fields #[vl,vu,.none] } }:=I3.kept λb ob q=>Heap.get?_push_of_some _ q;obtain⟨T,id,hT,ht,hg⟩:=hr pins { s3 with heap:=s3.heap.push { cls:=.type "slice",data:=.fields #[vl,vu,.none] } } Z H3 x v vl vu l u s3.heap.objs.size Q I4 r1 (Heap.IsSliceOf.new ..) pl pu q3;exact tail_any ht hT hg (by with_unfolding_all rfl)
def uQ(xs:List V)(lo hi:Option Int):List V:=(xs.drop (HT.sIx xs.length 0 lo)).take (HT.sIx xs.length xs.length hi-HT.sIx xs.length 0 lo)
theorem Vo(xs:List V)(lo hi:Option Int):(uQ xs lo hi).length<=xs.length:=by
 unfold uQ;rw[List.length_take,List.length_drop];omega
def zhO(K:W.Frag):V->Option Int->Option Int->Hp->VK->Prop:=λx lo hi H Q=>Ex2 λa xs=>x=.ref a/\SqT K H a xs /\
 ¬ (HT.sIx xs.length 0 lo=0/\HT.sIx xs.length xs.length hi=xs.length)/\∀p,H p=none->Q (.ref p) (upd H p (.tup (uQ xs lo hi)))
theorem zgF:SlR X (zhO X.K):=by
 intro pins s Z H x v vl vu lo hi sl Q I rx hs pl pu h;obtain⟨a,xs,rfl,hx,hw,q⟩:=h;cases rx
 obtain⟨its,r,ht,hz⟩:=I.tuple hx;have hlen:its.toArray.size=xs.length:=by rw[List.size_toArray];exact r.length.symm
 refine⟨"tuple",_,PyProof.Rows.slot_tuple_getitem.lookup,ht.typeIs,?_⟩;refine HT.Ww ht hs pl pu (by rw[hlen];exact hw) ?_ (by rw[hlen];exact hz);rw[hlen];refine⟨.ref s.heap.objs.size,_,I.laid (λb ob q=>Heap.get?_push_of_some _ q) (Nat.le_refl _) ?_,rfl,q _ (I.hok.fresh (Nat.le_refl _))⟩;exact⟨Nat.le_trans (Vo xs lo hi) hz,_,(r.drop (HT.sIx xs.length 0 lo)).take (HT.sIx xs.length xs.length hi-HT.sIx xs.length 0 lo),IsTup.new _ _⟩
def zhx(K:W.Frag):R2:=λx y H Q=>Ex4 λa b xs ys=>x=.ref a/\y=.ref b/\SqT K H a xs/\SqT K H b ys/\xs≠[]/\xs.length+ys.length<=sizeLine /\
 (ys=[]->Q (.ref a) H)/\(ys≠[]->∀p,H p=none->Q (.ref p) (upd H p (.tup (xs++ys))))
theorem Vals.nil_iff(r:Vals xs us):us=[]↔xs=[]:=by
 cases r with
 |nil=>simp
 |cons _ _=>simp
theorem zfM:OpR X (binaryOp .Add) (zhx X.K):=by
 intro pins s Z H x y v u Q I rx ry h;obtain⟨a,b,xs,ys,rfl,rfl,ha,hb,hx,hz,q1,q2⟩:=h;cases rx
 cases ry;obtain⟨its,r1,p1,_⟩:=I.tuple ha
 obtain⟨its2,r2,p2,_⟩:=I.tuple hb;refine HT.zfk p1 p2 (λz=>hx (r1.nil_iff.mp z)) (λz=>⟨.ref a,H,I,rfl,q1 (r2.nil_iff.mp z)⟩) (λz=>?_) (by rw[<-r1.length,<-r2.length];exact hz);refine⟨.ref s.heap.objs.size,_,I.laid (λb ob q=>Heap.get?_push_of_some _ q) (Nat.le_refl _) ?_,rfl,q2 (λw=>z (r2.nil_iff.mpr w)) _ (I.hok.fresh (Nat.le_refl _))⟩;exact⟨by rw[List.length_append];exact hz,_,r1.append r2,IsTup.new _ _⟩
end
def ixN(n:Nat)(i:Int):Option Nat:=if 0<=i then (if i<n then some i.toNat else none) else if -(n:Int)<=i then some (i+n).toNat else none
def atI{α:Type}(xs:List α)(i:Int):Option α:=(ixN xs.length i).bind λj=>xs[j]?
theorem zcK(h:ixN n i=some j):seqIndex? i n=some j/\j<n/\-(n:Int)<=i/\i<n:=by
 unfold ixN at h;by_cases h0:0<=i
 ·rw[if_pos h0]at h;by_cases h1:i<n
  ·rw[if_pos h1]at h;have e:=Option.some.inj h;exact⟨by rw[seqIndex_of h0 h1,e],by omega,by omega,h1⟩
  ·rw[if_neg h1]at h;cases h
 ·rw[if_neg h0]at h;by_cases h1:-n<=i
  ·rw[if_pos h1]at h;have e:=Option.some.inj h;exact⟨by rw[seqIndex_neg (by omega) h1,e],by omega,h1,by omega⟩
  ·rw[if_neg h1]at h;cases h
theorem JM(h:atI xs i=some v):∃j,seqIndex? i xs.length=some j/\xs[j]?=some v/\j<xs.length/\-(xs.length:Int)<=i/\i<xs.length:=by
 unfold atI at h;cases e:ixN xs.length i with
 |none=>rw[e]at h;cases h
 |some j=>
  rw[e]at h;obtain⟨h1,h2,h3,h4⟩:=zcK e;exact⟨j,h1,h,h2,h3,h4⟩
theorem xW{j:Nat}(h:xs[j]?=some v):atI xs (j:Int)=some v:=by
 have hj:=(List.getElem?_eq_some_iff.mp h).1;have e:ixN xs.length j=some j:=by
  unfold ixN;rw[if_pos (by omega),if_pos (by omega)];simp
 unfold atI;rw[e];exact h
theorem zd0(xs:List α)(v:α):atI (xs++[v]) (-1)=some v:=by
 have hl:(xs++[v]).length=xs.length+1:=by simp
 have e:ixN (xs++[v]).length (-1)=some xs.length:=by
  unfold ixN;rw[hl,if_neg (by decide),if_pos (by omega)];congr 1;omega
 unfold atI;rw[e];simp
def zfq(b:Expr):Prop:=∀o i,subscripted b false o i=operate [o,i] (getItem o i)
def IxR(X:Cx)(r:R2):Prop :=
 ∀(value slice:Expr) (pins:List (Addr×Obj)) (s:Shared) (Z:St) (H:Hp) (x y:V) (v u:Value) (Q:VK),Inv X pins Z H s->RelV x v->RelV y u->r x y H Q ->
  subscripted slice false v u=operate [v,u] (getItem v u)->wpAny (model X.prog X.w) X.A (subscriptTail value slice v u) (EP X pins Z Q) X.xe s
def MtR(X:Cx)(id:String)(r:V->List V->Hp->VK->Prop):Prop :=
 ∀(pins:List (Addr×Obj)) (s:Shared) (Z:St) (H:Hp) (x:V) (xs:List V) (v:Value) (us:List Value) (Q:VK),Inv X pins Z H s->RelV x v->Vals xs us->r x xs H Q ->
  wpAny (model X.prog X.w) X.A (call (.builtin id) (v::us)) (EP X pins Z Q) X.xe s
section
variable {X:Cx} {a b:Expr} {ta tb:TE} {pos:Pos}
theorem zR(hr:IxR X r)(ha:PE X a ta)(hb:PE X b tb)(hs:zfq b):PE X (.Subscript a b pos) (tOp r ta tb):=by
 intro pins s Z H Q I h;exact Subscript_ (zgp ha hb I h λv u s2 x y H2 I2 rx ry q=>hr a b pins s2 Z H2 x y v u Q I2 rx ry q (hs _ _))
def zhk(K:W.Frag):R2:=λx y H Q=>Ex4 λp xs i v=>x=.ref p/\y=.int i/\SqL K H p xs/\atI xs i=some v/\Q v H
def zhA(K:W.Frag):R2:=λx y H Q=>Ex4 λp xs i v=>x=.ref p/\y=.int i/\SqT K H p xs/\atI xs i=some v/\Q v H
def zhU:R2:=λx y H Q=>Ex3 λz i c=>x=.str z/\y=.int i/\z.length<=sizeLine/\atI z.cps.toList i=some c/\Q (.str ⟨#[c]⟩) H
theorem zff:IxR X (zhk X.K):=by
 intro value slice pins s Z H x y v u Q I rx ry h hs;obtain⟨p,xs,i,z,rfl,rfl,hq,he,q⟩:=h;cases rx
 obtain⟨t,rfl⟩:=ry;obtain⟨its,r,pl,hz⟩:=I.list hq;obtain⟨j,h1,h2,h3,h4,h5⟩:=JM he;obtain⟨w,ew,rw'⟩:=r.get h2;have hl:=r.length;have hn:=Vf;have fin:EP X pins Z Q w s:=⟨z,H,I,rw',q⟩
 by_cases h0:0<=i
 ·have hj:i.toNat=j:=by
   rw[seqIndex_of h0 h5]at h1;exact Option.some.inj h1
  exact item_listR pl.isList h0 (by omega) (by rw[hj];simpa using ew) fin hs
 ·have hj:(i+its.toArray.size).toNat=j:=by
   rw[seqIndex_neg (by omega) h4]at h1;rw[List.size_toArray,<-hl];exact Option.some.inj h1
  exact subscriptTail_builtinR pl.isList.typeIs slot_list_getitem.lookup
   (wpAny_getItem_list_neg pl.isList (by omega) (by rw[List.size_toArray]<;>omega) (by omega) (by rw[hj];simpa using ew) ⟨rfl,fin⟩) hs
theorem zgL:IxR X (zhA X.K):=by
 intro value slice pins s Z H x y v u Q I rx ry h hs;obtain⟨p,xs,i,z,rfl,rfl,hq,he,q⟩:=h;cases rx
 obtain⟨t,rfl⟩:=ry;obtain⟨its,r,pl,hz⟩:=I.tuple hq;obtain⟨j,h1,h2,h3,h4,h5⟩:=JM he;obtain⟨w,ew,rw'⟩:=r.get h2;have hl:=r.length;have hn:=Vf;have fin:EP X pins Z Q w s:=⟨z,H,I,rw',q⟩
 exact subscriptTail_builtinR pl.typeIs slot_tuple_getitem.lookup
  (getItem_tuple pl (by omega) (by omega) (by rw[List.size_toArray,<-hl];exact h1) (by simpa using ew) ⟨rfl,fin⟩) hs
theorem zbE:IxR X zhU:=by
 intro value slice pins s Z H x y v u Q I rx ry h hs;obtain⟨z,i,c,rfl,rfl,hz,he,q⟩:=h;obtain⟨t,rfl⟩:=rx;obtain⟨t',rfl⟩:=ry;obtain⟨j,h1,h2,h3,h4,h5⟩:=JM he;have hl:z.cps.toList.length=z.length:=by simp[Str.length]
 rw[hl]at h1 h4 h5;have hn:=Vf;exact tail_any (typeIs_str s z t) slot_str_getitem.lookup (getItem_str (by
  have e1:decide (i < -(2^63))=false:=decide_eq_false (by omega);have e2:decide (i>=2^63)=false:=decide_eq_false (by omega);rw[e1,e2,Bool.or_false]) (by rw[h1];simpa using h2) ⟨.str ⟨#[c]⟩,H,I.tok _,⟨_,rfl⟩,q⟩) hs
theorem zb5(its:List Value)(n j:Nat)(u:Value):Obj.mapSeq (·.setIfInBounds j u) { cls:=.type "list",data:=.seq its.toArray n }={ cls:=.type "list",data:=.seq (its.set j u).toArray n }:=by
 simp[Obj.mapSeq]
theorem Inv.lst{Z:St}(I:Inv X pins Z H s)(h:H p=some (.lst xs)):
  ∃its n,Vals xs its/\s.heap.get? p=some { cls:=.type "list",data:=.seq its.toArray n }/\xs.length<=sizeLine:=by
 obtain⟨z,its,n,r,e⟩:=I.hok p _ h;exact⟨its,n,r,e,z⟩
theorem Inv.lstUpd{Z:St}{its its':List Value}(I:Inv X pins Z H s)(h:H p=some (.lst xs))(ho:s.heap.get? p=some { cls:=.type "list",data:=.seq its.toArray n })(hf:f { cls:=.type "list",data:=.seq its.toArray n }={ cls:=.type "list",data:=.seq its'.toArray n' })(r:Vals ys its')(hz:ys.length<=sizeLine)(t:Nat):
  Inv X pins Z (upd H p (.lst ys)) { s with heap:=s.heap.update p f,toks:=t }:=by
 have e:(s.heap.update p f).get? p=some { cls:=.type "list",data:=.seq its'.toArray n' }:=by
  rw[Heap.get?_update_self f ho (by rw[hf]<;>rfl),hf]
 refine I.write (by rw[h];trivial) (.inl rfl) (λb u hb q=>(Heap.get?_update_other _ _ (Ne.symm hb)).trans q) ⟨_,e⟩ ?_;exact⟨hz,its',n',r,e⟩
def zhC:V->V->V->Hp->(Hp->Prop)->Prop:=λo i v H Q=>Ex4 λp xs k j=>o=.ref p/\i=.int k/\H p=some (.lst xs)/\ixN xs.length k=some j/\Q (upd H p (.lst (xs.set j v)))
theorem set_list:zhD X zhC:=by
 intro pins s Z H o i v ov iv u Q I ro ri rv h;obtain⟨p,xs,k,j,rfl,rfl,hp,hj,q⟩:=h;cases ro
 obtain⟨t,rfl⟩:=ri;obtain⟨its,n,r,ho,hz⟩:=I.lst hp;obtain⟨h1,h2,h3,h4⟩:=zcK hj;have hl:=r.length;have hn:=Vf;have I':=
  I.lstUpd hp ho (zb5 its n j u) (r.set rv j) (by rw[List.length_set];exact hz) s.toks
 by_cases h0:0<=k
 ·have hk:k.toNat=j:=by
   rw[seqIndex_of h0 h4]at h1;exact Option.some.inj h1
  exact W.ki_setAt ho h0 (by omega) (by rw[List.size_toArray,<-hl];exact h4) (by rw[hk];exact⟨_,I',q⟩)
 ·have hk:(k+its.toArray.size).toNat=j:=by
   rw[seqIndex_neg (by omega) h3]at h1;rw[List.size_toArray,<-hl];exact Option.some.inj h1
  exact W.ki_setBack ho (by omega) (by rw[List.size_toArray,<-hl];exact h3) (by omega) (by rw[hk];exact⟨_,I',q⟩)
theorem JS(lo hi:Option Int)(n:Nat):(sliceBounds lo hi none n).1=((HT.sIx n 0 lo:Nat):Int)/\(sliceBounds lo hi none n).2.1=((HT.sIx n n hi:Nat):Int)/\(sliceBounds lo hi none n).2.2=1:=by
 refine⟨?_,?_,rfl⟩
 ·cases lo with
  |none=>simp[sliceBounds,HT.sIx]
  |some i=>
   simp only[sliceBounds,HT.sIx,Option.getD_none,show 1>0 by decide,if_true];by_cases h:i<0
   ·simp only[h,if_true]<;>omega
   ·simp only[h,if_false]<;>omega
 ·cases hi with
  |none=>simp[sliceBounds,HT.sIx]
  |some i=>
   simp only[sliceBounds,HT.sIx,Option.getD_none,show 1>0 by decide,if_true];by_cases h:i<0
   ·simp only[h,if_true]<;>omega
   ·simp only[h,if_false]<;>omega
theorem Qw(its:List Value)(lo hi:Option Int):slicePick its.toArray lo hi none=((its.drop (HT.sIx its.length 0 lo)).take (HT.sIx its.length its.length hi-HT.sIx its.length 0 lo)).toArray:=by
 obtain⟨h1,h2,h3⟩:=JS lo hi its.toArray.size;unfold slicePick;rw[h1,h2,h3];simp only[sliceRange_one,pick_run,List.size_toArray]<;>rfl
def zeg(K:W.Frag):V->Option Int->Option Int->Hp->VK->Prop:=λx lo hi H Q=>Ex2 λa xs=>x=.ref a/\SqL K H a xs/\∀p,H p=none->Q (.ref p) (upd H p (.lst (uQ xs lo hi)))
theorem zfh:SlR X (zeg X.K):=by
 intro pins s Z H x v vl vu lo hi sl Q I rx hs pl pu h;obtain⟨a,xs,rfl,hx,q⟩:=h;cases rx
 obtain⟨its,r,ht,hz⟩:=I.list hx;have hlen:=r.length;refine⟨"list",_,slot_list_getitem.lookup,ht.isList.typeIs,?_⟩;refine wpAny_getItem_list_slice ht.isList hs pl pu .none (by simp) ?_ (by rw[List.size_toArray]<;>omega);rw[Qw,<-hlen];refine⟨.ref s.heap.objs.size,_,I.laid (λb ob q=>Heap.get?_push_of_some _ q) (Nat.le_refl _) ?_,rfl,q _ (I.hok.fresh (Nat.le_refl _))⟩;exact⟨Nat.le_trans (Vo xs lo hi) hz,_,0,(r.drop (HT.sIx xs.length 0 lo)).take (HT.sIx xs.length xs.length hi-HT.sIx xs.length 0 lo),Heap.get?_push_size _ rfl⟩
theorem JR:vg X (.builtin "len") (λxs H Q=>∃p ys,xs=[.ref p]/\(SqL X.K H p ys\/SqT X.K H p ys)/\Q (.int ys.length) H):=by
 intro pins s Z H xs us Q I r h;obtain⟨p,ys,rfl,hq,q⟩:=h;obtain⟨u,rfl,rx⟩:=vals1 r;cases rx
 have hn:=Vf;rcases hq with hq | hq
 ·obtain⟨its,r',pl,hz⟩:=I.list hq;have hlen:=r'.length;exact Calls.call_len_list pl.isList (by simp only[List.size_toArray]<;>omega) ⟨.int ys.length,H,I.tok _,⟨s.toks+1,by rw[List.size_toArray,hlen]⟩,q⟩
 ·obtain⟨its,r',pl,hz⟩:=I.tuple hq;have hlen:=r'.length;exact len_tuple pl (by simp only[List.size_toArray]<;>omega) ⟨.int ys.length,H,I.tok _,⟨s.toks+1,by rw[List.size_toArray,hlen]⟩,q⟩
theorem zal:vg X (.builtin "len") (λxs H Q=>∃z,xs=[.str z]/\z.length<=sizeLine/\Q (.int z.length) H):=by
 intro pins s Z H xs us Q I r h;obtain⟨z,rfl,hz,q⟩:=h;obtain⟨u,rfl,t,rfl⟩:=vals1 r;have hn:=Vf;exact len_str (by omega) ⟨.int z.length,H,I.tok _,⟨_,rfl⟩,q⟩
theorem zao:vg X (.type "list") (λxs H Q=>∃p ys,xs=[.ref p]/\(SqL X.K H p ys\/SqT X.K H p ys)/\∀l,H l=none->Q (.ref l) (upd H l (.lst ys))):=by
 intro pins s Z H xs us Q I r h;obtain⟨p,ys,rfl,hq,q⟩:=h;obtain⟨u,rfl,rx⟩:=vals1 r;cases rx
 have fin:∀its,Vals ys its->ys.length<=sizeLine->∀h' c',(∀b o',s.heap.get? b=some o'->h'.get? b=some o') ->
   h'.get? s.heap.objs.size=some { cls:=.type "list",dict:=none,data:=.seq its.toArray c',slots:=#[] }->EP X pins Z Q (.ref s.heap.objs.size) { s with heap:=h' }:=λits r' hz h' c' kp e=>
  ⟨.ref s.heap.objs.size,_,I.laid kp (Nat.le_refl _) (show ObjOk X.prog X.w _ h' _ (.lst ys) from ⟨hz,its,c',r',e⟩),rfl,q _ (I.hok.fresh (Nat.le_refl _))⟩
 rcases hq with hq | hq
 ·obtain⟨its,r',pl,hz⟩:=I.list hq;have hlen:=r'.length;obtain⟨o,ho,hc,n,hd⟩:=pl.isList;exact call_list_seq p (.inl rfl) ho hc hd (λh' c' kp e=>fin its r' hz h' c' kp e) (by simp only[List.size_toArray]<;>omega)
 ·obtain⟨its,r',pl,hz⟩:=I.tuple hq;have hlen:=r'.length;obtain⟨o,ho,hc,n,hd⟩:=pl;exact call_list_seq p (.inr rfl) ho hc hd (λh' c' kp e=>fin its r' hz h' c' kp e) (by simp only[List.size_toArray]<;>omega)
theorem Y4:vg X (.type "tuple") (λxs H Q=>∃p ys,xs=[.ref p]/\((SqL X.K H p ys/\∀l,H l=none->Q (.ref l) (upd H l (.tup ys)))\/(SqT X.K H p ys/\Q (.ref p) H))):=by
 intro pins s Z H xs us Q I r h;obtain⟨p,ys,rfl,h⟩:=h;obtain⟨u,rfl,rx⟩:=vals1 r;cases rx
 rcases h with ⟨hq,q⟩ | ⟨hq,q⟩
 ·obtain⟨its,r',pl,hz⟩:=I.list hq;have hlen:=r'.length;refine call_tuple_list pl.isList (λh' kp=>?_) (by simp only[List.size_toArray]<;>omega);have I1:=I.kept (t':=s.toks) kp;have I2:=
   I1.laid (t':=s.toks) (λb o e=>Heap.get?_push_of_some _ e) (Nat.le_refl _) (show ObjOk X.prog X.w _ _ _ (.tup ys) from ⟨hz,its,r',IsTup.new _ _⟩)
  exact⟨.ref h'.objs.size,_,I2,rfl,q _ (I1.hok.fresh (Nat.le_refl _))⟩
 ·obtain⟨its,r',pl,hz⟩:=I.tuple hq;exact call_tuple_same pl ⟨.ref p,H,I,rfl,q⟩
def tyV(K:W.Frag)(T:String)(x:V)(H:Hp):Prop:=match x with
 |.str _=>T ="str"
 |.int _=>T ="int"
 |.ref p=>(T ="list"/\∃xs,SqL K H p xs)\/(T ="tuple"/\∃o,K.lookup p=some o/\o.cls=.type "tuple"/\o.dict=none) \/
   (T ="dict"/\((∃kvs,H p=some (.dK kvs))\/∃kvs,H p=some (.dT kvs)))\/(T ="set"/\∃S n,H p=some (.set S n))
 |_=>False
theorem zgC{Z:St}(I:Inv X pins Z H s)(r:RelV x v)(ty:tyV X.K T x H):
  s.TypeIs v T/\∀a,v=.ref a->∃ob,s.heap.get? a=some ob/\ob.dict=none:=by
 cases x with
 |str z=>
  obtain⟨t,rfl⟩:=r;cases (show T ="str" from ty)
  exact⟨typeIs_str s z t,λ_ e=>nomatch e⟩
 |int i=>
  obtain⟨t,rfl⟩:=r;cases (show T ="int" from ty)
  exact⟨typeIs_int s i t,λ_ e=>nomatch e⟩
 |ref p=>
  cases r;rcases ty with ⟨rfl,xs,hq⟩ | ⟨rfl,o,hk,hc,hd⟩ | ⟨rfl,hk⟩ | ⟨rfl,S,n,hk⟩
  ·obtain⟨its,_,pl,_⟩:=I.list hq;refine⟨pl.isList.typeIs,λa e=>?_⟩;cases e
   obtain⟨o,n,e,c,hd,_⟩:=pl;exact⟨o,e,hd⟩
  ·refine⟨⟨o,I.kIn p o hk,hc⟩,λa e=>?_⟩;cases e
   exact⟨o,I.kIn _ o hk,hd⟩
  ·have z:∃o,s.heap.get? p=some o/\o.ExactDict:=by
    rcases hk with ⟨kvs,hk⟩ | ⟨kvs,hk⟩
    ·obtain⟨_,_,_,_,o,_,_,e,ex,_⟩:=I.hok p _ hk;exact⟨o,e,ex⟩
    ·obtain⟨_,_,_,_,o,_,_,e,ex,_⟩:=I.hok p _ hk;exact⟨o,e,ex⟩
   obtain⟨o,e,ex⟩:=z;refine⟨⟨o,e,ex.1⟩,λa e2=>?_⟩;cases e2
   exact⟨o,e,ex.2.1⟩
  ·obtain⟨o,_,_,_,e,ex,_⟩:=I.hok p _ hk;refine⟨⟨o,e,ex.1⟩,λa e2=>?_⟩;cases e2
   exact⟨o,e,ex.2.1⟩
 |_=>exact False.elim ty
def tBM(K:W.Frag)(T:String)(r:V->List V->Hp->VK->Prop)(to:TE)(t:TA):TE:=λZ H Q=>to Z H λx H1=>tyV K T x H1/\t Z H1 λxs H2=>r x xs H2 Q
variable {o e:Expr} {es:List Expr} {to:TE} {t:TA} {name:Str} {apos cpos:Pos} {T id:String} {r:V->List V->Hp->VK->Prop}
theorem Yj(pa:PlainAttrs T)(slot:Slot T name id)(hty:typeOf (.builtin id)=pure (.type "method_descriptor"))(hm:MtR X id r)(ho:PE X o to)(ha:PA X (e::es) t)(hbase:attributeBase o name X.env (eval o X.env)=eval o X.env:=by rfl)(hfew:((backTo cpos (starEach (e::es) X.env)).all (λx=>!x.1) && (backToKw cpos (keywordEach [] X.env)).all (λx=>x.1.isSome)
   && decide ((e::es).length+([]:List Keyword).length+(if ([]:List Keyword).isEmpty then 0 else 1)<30))=true:=by rfl)(hline:(apos.endLine == cpos.line)=true:=by rfl)(hs:starEach (e::es) X.env=(false,eval e X.env)::starEach es X.env:=by rfl)(hplain:(backTo cpos (starEach es X.env)).any (·.1)=false:=by rfl):
  PE X (.Call (.Attribute o name apos) (e::es) [] cpos) (tBM X.K T r to t):=by
 intro pins s Z H Q I h;refine wpAny_Call_method_late hbase hfew hline rfl (thn (ho pins s Z H _ I h) λv s1 ⟨x,H1,I1,r1,ty,q1⟩=>?_);obtain⟨h1,h2⟩:=zgC I1 r1 ty;refine⟨T,id,pa,slot,hty,h1,h2,?_⟩;have hA:=ha cpos pins s1 Z H1 _ I1 q1;rw[hs]at hA ⊢;refine Calls.callWith_builtin (by show (false || (backTo cpos (starEach es X.env)).any (·.1))=false;rw[hplain]<;>rfl) (Calls.evalArgs_plain ?_);exact thn hA λus s2 ⟨vs,H2,I2,r2,q2⟩=>hm pins s2 Z H2 x vs v us Q I2 r1 r2 q2
end
def MtM(X:Cx)(id:String)(r:V->List V->Hp->VK->Prop):Prop :=
 ∀(pins:List (Addr×Obj)) (s:Shared) (Z:St) (H:Hp) (x:V) (xs:List V) (v:Value) (us:List Value) (Q:VK),Inv X pins Z H s->RelV x v->Vals xs us->r x xs H Q ->
  wpAny (model X.prog X.w) X.A (call (.builtin id) (v::us)) (EP X pins Z Q) X.xe s
theorem Vals.one:∀{x:V} {us:List Value},Vals [x] us->∃u,us=[u]/\RelV x u
 |_,_,.cons r .nil=>⟨_,rfl,r⟩
theorem Vals.zero:∀{us:List Value},Vals [] us->us=[]
 |_,.nil=>rfl
theorem Vals.dropLast(h:Vals xs us):Vals xs.dropLast us.dropLast:=by
 induction h with
 |nil=>exact .nil
 |cons r t ih=>
  cases t with
  |nil=>exact .nil
  |cons q t'=>exact .cons r ih
theorem Vals.reverse(h:Vals xs us):Vals xs.reverse us.reverse:=by
 induction h with
 |nil=>exact .nil
 |cons r t ih=>rw[List.reverse_cons,List.reverse_cons];exact Vals.append ih (.cons r .nil)
theorem Vals.rep{xs:List V}{us:List Value}(h:Vals xs us):∀k:Nat,Vals (List.replicate k xs).flatten (List.replicate k us).flatten
 |0=>.nil
 |k+1=>by
  rw[List.replicate_succ,List.replicate_succ,List.flatten_cons,List.flatten_cons];exact Vals.append h (Vals.rep h k)
theorem foldl_rep(its:List Value):∀(k:Nat) (acc:List Value),
  List.foldl (λx1 x2=>x1++x2) acc.toArray (List.replicate k its.toArray)=(acc++(List.replicate k its).flatten).toArray
 |0,acc=>by simp
 |k+1,acc=>by
  have e:acc.toArray++its.toArray=(acc++its).toArray:=by simp
  have e2:(acc++its)++(List.replicate k its).flatten=acc++(List.replicate (k+1) its).flatten:=by
   rw[List.replicate_succ,List.flatten_cons,List.append_assoc]
  rw[<-e2,<-foldl_rep its k (acc++its),<-e,List.replicate_succ,List.foldl_cons]
section
variable {X:Cx} {pins:List (Addr×Obj)} {Z:St} {H:Hp} {s:Shared} {l b:Addr} {xs ys zs:List V}
theorem Inv.lset{its its':List Value}(I:Inv X pins Z H s)(hH:H l=some (.lst xs))(e:s.heap.get? l=some { cls:=.type "list",data:=.seq its.toArray n })(hf:f its.toArray=its'.toArray)(hv:Vals ys its')(hz:ys.length<=sizeLine):
  Inv X pins Z (upd H l (.lst ys)) { s with heap:=s.heap.update l (Obj.mapSeq f),toks:=t' }:=by
 have q:=PySem.IsL.update e f;rw[hf]at q;refine I.write (by rw[hH];exact trivial) (.inl rfl) (λb' u hb hu=>(Heap.get?_update_other s.heap (Obj.mapSeq f) (Ne.symm hb)).trans hu) ⟨_,q⟩ ?_;exact⟨hz,its',_,hv,q⟩
theorem Inv.lnew(I:Inv X pins Z H s)(hv:Vals ys its)(hz:ys.length<=sizeLine):
  Inv X pins Z (upd H s.heap.objs.size (.lst ys)) { s with heap:=s.heap.push { cls:=.type "list",data:=.seq its.toArray },toks:=t' } :=
 I.laid (λ_ _ q=>Heap.get?_push_of_some _ q) (Nat.le_refl _) ⟨hz,its,0,hv,Heap.get?_push_size _ rfl⟩
theorem Inv.fresh(I:Inv X pins Z H s):H s.heap.objs.size=none:=I.hok.fresh (Nat.le_refl _)
theorem Inv.lstM(I:Inv X pins Z H s)(hH:H l=some (.lst xs)):xs.length<=sizeLine/\∃its n,Vals xs its/\xs.length=its.length/\s.heap.get? l=some { cls:=.type "list",data:=.seq its.toArray n }:=by
 obtain⟨z,its,n,r,e⟩:=I.hok l _ hH;exact⟨z,its,n,r,r.length,e⟩
theorem zdL(h:n<=sizeLine):Builtin.List.listTooLong n=false:=by
 unfold Builtin.List.listTooLong;exact decide_eq_false (by omega)
end
section
variable {X:Cx}
def zfN:V->List V->Hp->VK->Prop:=λx vs H Q=>Ex3 λl xs y=>x=.ref l/\vs=[y]/\H l=some (.lst xs)/\xs.length<sizeLine/\Q .non (upd H l (.lst (xs++[y])))
theorem vB:MtM X "list.append" zfN:=by
 intro pins s Z H x vs v us Q I rx rv h;obtain⟨l,xs,y,rfl,rfl,hH,hz,q⟩:=h;cases rx
 obtain⟨u,rfl,ru⟩:=rv.one;obtain⟨z,its,n,r,hl,e⟩:=I.lstM hH;refine call_meets F.slot_list_append ⟨_,e,rfl⟩ F.entry_list_append (F.args_list_append_2 _ _) (PySem.list_append l its.toArray n u (by rw[List.size_toArray];omega)) ⟨e,?_⟩;refine⟨.non,_,I.lset hH e (by simp) (r.append (.cons ru .nil)) ?_,rfl,q⟩;rw[List.length_append,List.length_singleton];omega
def zgX:R2:=λx y H Q=>Ex4 λl b xs zs=>x=.ref l/\y=.ref b/\H l=some (.lst xs)/\H b=some (.lst zs)/\xs.length+zs.length<=sizeLine/\∀p,H p=none->Q (.ref p) (upd H p (.lst (xs++zs)))
theorem wQ:OpR X (binaryOp .Add) zgX:=by
 intro pins s Z H x y v u Q I rx ry h;obtain⟨l,b,xs,zs,rfl,rfl,hH,hB,hz,q⟩:=h;cases rx
 cases ry;obtain⟨z,its,n,r,hl,e⟩:=I.lstM hH
 obtain⟨z2,its2,n2,r2,hl2,e2⟩:=I.lstM hB;refine PySem.P.add_list e e2 ?_ (by rw[List.size_toArray,List.size_toArray];omega);have ea:its.toArray++its2.toArray=(its++its2).toArray:=by simp
 rw[ea];exact⟨.ref _,_,I.lnew (r.append r2) (by rw[List.length_append];omega),rfl,q _ I.fresh⟩
def zhZ:R2:=λx y H Q=>Ex3 λl k xs=>x=.ref l/\y=.int k/\H l=some (.lst xs)/\-(2^63)<=k/\k<2^63/\xs.length*k.toNat<=sizeLine /\
 ∀p,H p=none->Q (.ref p) (upd H p (.lst (List.replicate k.toNat xs).flatten))
theorem len_rep{α:Type}(xs:List α)(k:Nat):(List.replicate k xs).flatten.length=k*xs.length:=by
 induction k with
 |zero=>simp
 |succ k ih=>rw[List.replicate_succ,List.flatten_cons,List.length_append,ih,Nat.succ_mul,Nat.add_comm]
theorem zgR:OpR X (binaryOp .Mult) zhZ:=by
 intro pins s Z H x y v u Q I rx ry h;obtain⟨l,k,xs,rfl,rfl,hH,h1,h2,hz,q⟩:=h;cases rx
 obtain⟨t,rfl⟩:=ry;obtain⟨z,its,n,r,hl,e⟩:=I.lstM hH;have hlen:its.toArray.size*k.toNat<=sizeLine:=by rw[List.size_toArray,<-hl];exact hz
 have hcap:¬ its.toArray.size*k.toNat>(2^63-1) / 8:=by
  have:sizeLine<=(2^63-1) / 8:=by decide
  omega
 have hfit:¬ (!Builtin.List.listFitsIndex k)=true:=by
  rw[fitsIndex_both h1 h2];exact Bool.false_ne_true
 have hlong:¬ Builtin.List.listTooLong (its.toArray.size*k.toNat)=true:=by
  rw[zdL hlen];exact Bool.false_ne_true
 have hnew:List.foldl (λx1 x2=>x1++x2) #[] (List.replicate (if its.toArray.isEmpty=true then 0 else k.toNat) its.toArray)=(List.replicate k.toNat its).flatten.toArray:=by
  have f0:∀m:Nat,List.foldl (λx1 x2=>x1++x2) #[] (List.replicate m its.toArray)=(List.replicate m its).flatten.toArray:=λm=>by
   have:=foldl_rep its m [];exact this
  rw[f0];cases its with
  |nil=>simp
  |cons a r'=>rw[if_neg (by simp)]
 refine wpAny_binaryOp_repeat_ref (by decide) ⟨_,e,rfl⟩ (λs'=>typeIs_int s' k t) noFill_list_mul F.fills_int_mul F.slot_int_rmul repeat_list F.slot_int_index.lookup
  (call_meets F.slot_int_rmul (typeIs_int s k t) F.entry_int_rmul (F.args_int_rmul_2 _ _) (int___rmul___int_list k t l its.toArray n)
   ⟨e,rfl,⟨_,e,rfl⟩,call_meets F.slot_list_mul ⟨_,e,rfl⟩ F.entry_list_mul (F.args_list_mul_2 _ _) (AutoListH.list___mul___list_int_3 l its.toArray n k t hfit hcap hlong) ⟨e,?_⟩⟩)
 rw[hnew];exact⟨.ref _,_,I.lnew (r.rep k.toNat) (by rw[len_rep,Nat.mul_comm];exact hz),rfl,q _ I.fresh⟩
end
section
variable {prog:Program} {w:World} {A:Around} {E:Value->Shared->Prop} {s:Shared}
end
section
variable {X:Cx}
end
end L2
namespace Att
open PySem PySem.W PySem.Calls PyProof.Rows
theorem VG:∀ns vs,WellAll P h vs (ns.map WData.int)->IntsAre vs ns:=by
 intro ns
 induction ns with
 |nil=>
  intro vs w;cases w
  exact .nil
 |cons n ns ih=>
  intro vs w;cases w with
  |cons a b=>
   cases a;exact .cons _ _ (ih _ b)
theorem zcW{l:OpenLaw}(hn:l.most=some n)(hpre:l.row.toRowW.claim.pre args=true)(hwl:WellAll P h vals args):
  ∃a vs ns,vals=[Value.ref a]/\args=[WData.list (ns.map WData.int)]/\h.get? a=some { cls:=.type "list",data:=.seq vs.toArray }/\IntsAre vs ns/\ns.length<=n:=by
 have hsh:=(pre_splitW hpre).1;have hc:l.pre.holds [] { args:=args }=true:=(pre_splitW hpre).2;obtain⟨d,r,rfl,h1,h2⟩:=hasAllW_cons hsh;obtain rfl:=hasAllW_nil h2;obtain⟨xs,rfl,h3⟩:=hasW_list h1;obtain⟨ns,rfl⟩:=items_int h3;have hlen:ns.length<=n:=by
  have h4:(WTm.not (.lt (.lit (.int n)) (.len (.arg 0)))).holds [] { args:=[.list (ns.map .int)] }=true:=by
   have h4:=(holds_andW hc).1;rw[hn]at h4;exact h4
  have h5:=condW_of h4 (w_not (w_lt w_lit (w_len_list (w_arg rfl))));refine Nat.le_of_not_lt λq=>?_;have q':n<((ns.length:Nat)):=by omega
  first
   | (rw[decide_eq_true q']at h5;exact absurd h5 (by decide))
   | (simp at h5;omega)
 cases hwl with
 |cons w1 w2=>
  cases w2;cases w1 with
  |list ho hall=>exact⟨_,_,ns,rfl,rfl,ho,VG ns _ hall,hlen⟩
theorem zc8(l:OpenLaw)(args:List WData):l.row.toRowW.claim.post args (.bool true) args=true :=
 postW_of
  (show WShape.has [] (.bool true) .bool=true by first | rfl | decide | simp[WShape.has,WShape.arms,WShape.armsAll])
  (show (WTm.eq .res (.lit (.bool true))).value [] { args:=args,res:=some (.bool true),after:=args }=some (.bool (true == true)) from w_eq_bool (w_res rfl) w_lit) rfl
theorem zbf{l:OpenLaw}(hn:l.most=some n)(hdf:d.params.defaults=[])(call:∀w s₀ s₁ mg mb fa o pm cd doc a vs ns,
   Ground q loose [] XP w s₀ mg mb s₁.heap->YP w s₁.heap ->
   s₁.heap.get? fa=some o->o.data=.func (docDef d.name d.params d.body d.scope pm cd doc)->s₁.heap.CodeRec cd d.name->mg d.name=some (.ref fa) ->
   s₁.heap.get? a=some { cls:=.type "list",data:=.seq vs.toArray }->IntsAre vs ns->ns.length<=n->s₁.gens=#[] ->
   codeAny (model l.prog w) callerA (.call (.ref fa) ⟨[.ref a],[]⟩) (λr s'=>r=.ok (.ret (.bool true))/\OldK s₁.heap s'.heap/\s'.os=s₁.os/\AllBare s'.gens) s₁):
  WalkO q loose XP YP l.row.toRowW d [] (λf vs=>PySem.call f vs):=by
 intro w s₀ s₁ mg mb G Y fa o pm cd doc dV kV ho hd hcd hD hmg hg args vals as hpre hlay hrd hwl hlo;obtain rfl:dV=.none:=Dflts.none hD hdf;obtain rfl:kV=.none:=Dflts.noKw hD;obtain⟨a,vs,ns,rfl,rfl,hobj,hints,hlen⟩:=zcW hn hpre hwl;refine enter_call (codeAny_mono (call w s₀ s₁ mg mb fa o pm cd doc a vs ns G Y ho (fd_plain hd) hcd hmg hobj hints hlen hg) λr s' hq=>?_);obtain⟨rfl,h2,h3,h4⟩:=hq;exact⟨.inl ⟨.bool true,.bool true,[],rfl,λ_=>rfl,.bool true,zc8 l _,λ_=>⟨List.Pairwise.nil,λ_ hm=>(nomatch hm)⟩⟩,h2,h3,h4⟩
section
variable {prog:Program} {w:World} {A:Around} {E:Value->Shared->Prop} {s:Shared} {K:Frag}
end
end Att
namespace L2
open PySem PySem.Spec PyProof.Rows
theorem Jp:∀{vs:List Value} {ns:List Int},IntsAre vs ns->Vals (ns.map V.int) vs
 |_,_,.nil=>.nil
 |_,_,.cons n t h=>.cons ⟨t,rfl⟩ (Jp h)
def inClass(s:Stmt)(j:Nat):Stmt:=match s with
 |.ClassDef _ _ _ body _ _ _ _ _ _ _=>body.getD j (.Pass ⟨0,0,0,0⟩)
 |_=>.Pass ⟨0,0,0,0⟩
def qW(s:Stmt):Arguments:=match s with
 |.FunctionDef _ a _ _ _ _ _ _ _ _=>a
 |_=>{ posonlyargs:=[],args:=[],vararg:=none,kwonlyargs:=[],kw_defaults:=[],kwarg:=none,defaults:=[] }
def zq(s:Stmt):List Stmt:=match s with
 |.FunctionDef _ _ b _ _ _ _ _ _ _=>b
 |_=>[]
def zx(s:Stmt):Scope:=match s with
 |.FunctionDef _ _ _ _ _ _ sc _ _ _=>sc
 |_=>{ kind:=.function,names:=[],isGenerator:=false,isCoroutine:=false }
abbrev CX0:CXT:=λ_ _ _ _ _ _=>False
abbrev E0:XK:=λ_ _ _=>False
theorem zdT:Vi CX0 X E0:=λ_ _ _ _ _ _ _ h=>h.elim
structure Fun (K:W.Frag) (x qual:Str) (st:Stmt) (f:Addr) (fd:FuncData):Prop where
 ex:∃(oc:Value) (od:Option Addr) (kV doc pm:Value) (an:Option Addr) (cdv ct:Value) (osl:Array (Option Value)),
  fd=W.fnOf x qual (qW st) (zq st) (zx st) .none kV doc pm an cdv ct/\K.lookup f=some ⟨oc,od,.func fd,osl⟩/\W.codeIn K cdv qual=true
 kp:W.keepIn K (.ref f)=true
section
variable {P:Program} {w:World} {K:W.Frag} {mg:Str->Option Value} {base:Heap}
theorem Fun.ok{st:Stmt}(F:Fun K x qual st f fd)(S:zF N ps (zx st))(len:∀vs H Q E,sp vs H Q E->vs.length=ps.length)(hbody:∀cdv A outer s H vs Q E,Room k (A.deeper (envOfC qual (zx st) s.heap.objs.size f cdv))->sp vs H Q E ->
   ∃t,PSs (XJ CX0 P w K mg base N qual (zx st) f cdv A outer s H E).nox (zq st) t/\t { nx:=λ_ H'=>Q .non H',rt:=Q } (start N vs) H):FnOk P w K mg base CX0 (k+1) f fd ps sp:=by
 obtain⟨oc,od,kV,doc,pm,an,cdv,ct,osl,rfl,lk,hcd⟩:=F.ex;refine zem lk hcd S len λA outer s H vs Q E hr hsp=>?_;obtain⟨t,h,q⟩:=hbody cdv A outer s H vs Q E hr hsp;exact⟨t,h.nox,q⟩
theorem Fun.binds{st:Stmt}(F:Fun K x qual st f fd)(h:∀kV doc pm an cdv ct us,us.length=ps.length->bindArgs (W.fnOf x qual (qW st) (zq st) (zx st) .none kV doc pm an cdv ct) ⟨us,[]⟩=pure (ps.zip us)):Binds K fd ps []:=by
 obtain⟨oc,od,kV,doc,pm,an,cdv,ct,osl,rfl,lk,hcd⟩:=F.ex;exact .all (h kV doc pm an cdv ct)
theorem JZ{st:Stmt}{kV doc pm cdv ct:Value}(l:K.lookup f=some ⟨oc,od,.func (W.fnOf x qual (qW st) (zq st) (zx st) .none kV doc pm an cdv ct),osl⟩)(c:W.codeIn K cdv qual=true)(k:W.keepIn K (.ref f)=true):Fun K x qual st f (W.fnOf x qual (qW st) (zq st) (zx st) .none kV doc pm an cdv ct):=⟨⟨oc,od,kV,doc,pm,an,cdv,ct,osl,rfl,l,c⟩,k⟩
end
theorem zhh(hr:Room k A):A.units+1<cLine:=Nat.lt_of_le_of_lt (Nat.add_le_add_left (by decide:1<=64) _) hr.units
section
variable {X:Cx}
theorem pv(i:Nat){pos:Pos}(hN:X.N[i]?=some x:=by rfl)(hv:Vis X.env.scope x:=by first | exact Or.inl rfl | exact Or.inr (Or.inl rfl) | exact Or.inr (Or.inr rfl))(hd:(x == ("__debug__" : Str))=false:=by decide)(hcd:(x == ("__classdict__" : Str))=false:=by decide):PE X (.Name x pos) (zfv i):=zge hN hv hd hcd
end
theorem xF{A B:Prop}(h:B):if false=true then A else B:=by
 rw[if_neg Bool.false_ne_true];exact h
theorem xU{A B:Prop}(h:A):if true=true then A else B:=by
 rw[if_pos rfl];exact h
theorem Vb{c A B:Prop}[Decidable c](h1:c->A)(h2:¬ c->B):if c then A else B:=by
 by_cases h:c
 ·rw[if_pos h];exact h1 h
 ·rw[if_neg h];exact h2 h
def Same(H H':Hp):Prop:=∀b o,H b=some o->H' b=some o
theorem Same.refl(H:Hp):Same H H:=λ_ _ h=>h
theorem Same.trans(a:Same H H1)(b:Same H1 H2):Same H H2:=λc o h=>b c o (a c o h)
theorem Same.free(e:Same H H')(h:H' l=Option.none):H l=Option.none:=by
 cases q:H l with
 |none=>rfl
 |some o=>
  rw[e l o q]at h;cases h
theorem Same.seq{K:W.Frag}(e:Same H H')(h:SqL K H a xs):SqL K H' a xs:=by
 rcases h with (h | ⟨o,h⟩) | h
 ·exact .inl (.inl (e _ _ h))
 ·exact .inl (.inr ⟨o,e _ _ h⟩)
 ·exact .inr h
def qM(cells:List (Str×Addr)):List (Str×NameKind)->List (Str×Addr)->List (Str×Addr)
 |[],cs=>cs
 | (n,k)::r,cs=>qM cells r (if k=.free then (match cells.lookup n with | some c=>(n,c)::cs | none=>cs) else cs)
theorem Ye{env:Env}:∀(names:List (Str×NameKind)) (cs:List (Str×Addr)),(∀x∈names,x.2=.free->∃c,env.cells.lookup x.1=some c) ->
  (forIn names cs λ(x:Str×NameKind) (r:List (Str×Addr))=>if (x.2 == .free)=true then (do let c <-cellOf env x.1;pure (ForInStep.yield ((x.1,c)::r)):Sem _) else pure (ForInStep.yield r))=pure (qM env.cells names cs)
 |[],cs,_=>rfl
 | (n,k)::r,cs,h=>by
  have ih:=λcs'=>Ye r cs' λx hx=>h x (List.mem_cons_of_mem _ hx);rw[List.forIn_cons];by_cases hk:k=.free
  ·subst hk;obtain⟨c,hc⟩:=h (n,.free) List.mem_cons_self rfl;have e:cellOf env n=pure c:=by unfold cellOf;rw[hc]
   simp only[beq_self_eq_true,if_true,e,pure_bind,qM,hc];exact ih _
  ·have hb:(k == NameKind.free)=false:=by simpa using hk
   simp only[hb,Bool.false_eq_true,if_false,pure_bind,qM,hk];exact ih _
theorem Y5(h:∀x∈scope.names,x.2=.free->∃c,env.cells.lookup x.1=some c):closureFor scope env=pure (qM env.cells scope.names []):=by
  have e:=Ye scope.names [] h;unfold closureFor
  first
    | (simp only[bind_pure];exact e)
    | (show (forIn scope.names [] _ >>= λr=>pure r)=_
       rfl)
theorem Xo{cells:List (Str×Addr)}{y:Str}{c:Addr}:∀{names:List (Str×NameKind)} {cs:List (Str×Addr)},(∀y c,cs.lookup y=some c->cells.lookup y=some c)->(qM cells names cs).lookup y=some c->cells.lookup y=some c
 |[],cs,h,e=>h y c e
 | (n,k)::r,cs,h,e=>by
  refine Xo (names:=r) ?_ e;intro y' c' e';by_cases hk:k=.free
  ·rw[if_pos hk]at e';cases q:cells.lookup n with
   |none=>rw[q]at e';exact h _ _ e'
   |some d=>
    rw[q]at e';simp only[List.lookup_cons]at e';cases hb:y' == n with
    |true=>
     rw[hb]at e';cases e'
     have:y'=n:=by simpa using hb
     rw[this];exact q
    |false=>rw[hb]at e';exact h _ _ e'
  ·rw[if_neg hk]at e';exact h _ _ e'
theorem Ul{cells:List (Str×Addr)}{y:Str}:∀{names:List (Str×NameKind)} {cs:List (Str×Addr)},((∃c,cs.lookup y=some c)\/((y,NameKind.free)∈names/\∃c,cells.lookup y=some c))->∃c,(qM cells names cs).lookup y=some c
 |[],cs,h=>by
  rcases h with h | ⟨h,_⟩
  ·exact h
  ·cases h
 | (n,k)::r,cs,h=>by
  refine Ul (names:=r) ?_;rcases h with ⟨c,h⟩ | ⟨h,c,hc⟩
  ·left;by_cases hk:k=.free
   ·rw[if_pos hk];cases q:cells.lookup n with
    |none=>exact⟨c,h⟩
    |some d=>
     simp only[List.lookup_cons];cases hb:y == n with
     |true=>exact⟨d,rfl⟩
     |false=>exact⟨c,h⟩
   ·rw[if_neg hk];exact⟨c,h⟩
  ·rcases List.mem_cons.mp h with e | h
   ·cases e;left
    rw[if_pos rfl,hc];exact⟨c,by simp⟩
   ·exact .inr ⟨h,c,hc⟩
theorem tH{env:Env}:∀{names:List (Str×NameKind)} {x:Str} {k:NameKind},
  (names.map λ(n,k)=>if (k == NameKind.free && env.scope.kind == .function && env.kindOf n == some .cell) then (n,NameKind.cell) else (n,k)).lookup x=some k->names.lookup x=some k\/(k=.cell/\names.lookup x=some .free)
 |[],_,_,h=>by simp at h
 | (n,k0)::r,x,k,h=>by
  have ih:=@tH env r x k;rw[List.map_cons]at h;by_cases hc:(k0 == NameKind.free && env.scope.kind == .function && env.kindOf n == some .cell)=true
  ·simp only[hc,if_true,List.lookup_cons]at h;have hk0:k0=.free:=by
    simp only[Bool.and_eq_true]at hc;simpa using hc.1.1
   cases hx:x == n with
   |true=>rw[hx]at h;cases h;right;simp[List.lookup_cons,hx,hk0]
   |false=>rw[hx]at h;simp only[List.lookup_cons,hx];exact ih h
  ·have hc':(k0 == NameKind.free && env.scope.kind == .function && env.kindOf n == some .cell)=false:=by simpa using hc
   simp only[hc',Bool.false_eq_true,if_false,List.lookup_cons]at h;cases hx:x == n with
   |true=>rw[hx]at h;cases h;left;simp[List.lookup_cons,hx]
   |false=>rw[hx]at h;simp only[List.lookup_cons,hx];exact ih h
def cxG(X:Cx)(ow N:List Str)(scope:Scope)(C:Addr)(s₀:Shared)(H₀:Hp)(ex:List Addr):Cx:={ X with N:=N,s₀:=s₀,H₀:=H₀,env:=compEnvC scope (ow.map (·,C+1)++qM X.env.cells scope.names []) C X.env,outer:=X.stack,ex:=ex,fn:=λy=>ow.elem y,pn:=[],xe:=λ_ _=>False }
def cxC(X:Cx)(N:List Str)(scope:Scope)(C:Addr)(s₀:Shared)(H₀:Hp)(ex:List Addr):Cx:=cxG X [] N scope C s₀ H₀ ex
def qX(js:List Nat)(Z:St):St:=js.map λj=>(Z[j]?).join
theorem zeB{i:Nat}(h:(qX js Z)[i]?=some (some v)):∃j,js[i]?=some j/\Z[j]?=some (some v):=by
 unfold qX at h;rw[List.getElem?_map]at h;cases e:js[i]? with
 |none=>rw[e]at h;cases h
 |some j=>
  rw[e]at h;have h':(Z[j]?).join=some v:=Option.some.inj h;refine⟨j,rfl,?_⟩;cases q:Z[j]? with
  |none=>rw[q]at h';cases h'
  |some z=>rw[q]at h';exact congrArg some h'
structure CScope (sc:Scope) (scope:Scope) (x:Str) (M:List Str) (ys:List Str) (js:List Nat):Prop where
 kind:scope.kind=.function:=by rfl
 cell:∀y∈scope.names,y.2≠.cell:=by decide +kernel
 loc:∀y∈scope.names,y.2=.local->scope.names.lookup y.1=some .local:=by decide +kernel
 var:scope.names.lookup x=some .local:=by rfl
 free:∀y∈scope.names,y.2=.free->sc.names.lookup y.1=some .cell\/sc.names.lookup y.1=some .free:=by decide +kernel
 caps:js.map (M[·]?)=ys.map some:=by rfl
 fr:∀y∈ys,scope.names.lookup y=some .free:=by decide +kernel
 nd:(x::ys).Nodup:=by decide +kernel
structure zbv (sc:Scope) (scope:Scope) (xs ow:List Str) (M:List Str) (ys:List Str) (js:List Nat):Prop where
 kind:scope.kind=.function
 cell:∀y∈scope.names,y.2=.cell->y.1∈ow
 loc:∀y∈scope.names,y.2=.local->scope.names.lookup y.1=some .local
 free:∀y∈scope.names,y.2=.free->sc.names.lookup y.1=some .cell\/sc.names.lookup y.1=some .free
 caps:js.map (M[·]?)=ys.map some
 fr:∀y∈ys,scope.names.lookup y=some .free
 nd:(xs++ys).Nodup
 one:∀y∈ow,∀z∈ow,y=z
 sub:∀y∈ow,y∈xs
 own:∀n acc,cellsFrom n scope.names acc=ow.map (·,n)++acc
 psh:∀h:Heap,∀y∈ow,(pushCells h scope.names).get? h.objs.size=some { cls:=.type "cell",data:=.cell none }
theorem Us:∀{names:List (Str×NameKind)} {n:Nat} {acc:List (Str×Addr)},(∀y∈names,y.2≠.cell)->cellsFrom n names acc=acc
 |[],_,_,_=>rfl
 | (_,k)::r,_,_,h=>by
  unfold cellsFrom;rw[if_neg (λe=>h _ List.mem_cons_self (eq_of_beq e))];exact Us λy hy=>h y (List.mem_cons_of_mem _ hy)
theorem YD{C:Addr}{cl:List (Str×Addr)}{y:Str}:∀ow:List Str,(ow.map (·,C)++cl).lookup y=if y∈ow then some C else cl.lookup y
 |[]=>rfl
 |x::r=>by
  rw[List.map_cons,List.cons_append,List.lookup_cons,YD r];by_cases h:y=x
  ·subst h;simp
  ·rw[beq_eq_false_iff_ne.mpr h];simp[h]
def nones(xs:List Str):St:=xs.map λ_=>none
theorem YS:(nones xs).length=xs.length:=List.length_map ..
theorem Jy(h:(nones xs++c)[i]?=some (some v)):∃k,i=xs.length+k/\c[k]?=some (some v):=by
 by_cases hix:i<xs.length
 ·rw[List.getElem?_append_left (by rw[YS];exact hix)]at h;unfold nones at h;rw[List.getElem?_map,List.getElem?_eq_getElem hix]at h;cases h
 ·rw[List.getElem?_append_right (by rw[YS];omega),YS]at h;exact⟨i-xs.length,by omega,h⟩
theorem zeZ(S:zbv sc scope xs ow N ys js)(hQ:∀h',h'.Ns s.heap.objs.size (λ_=>none)->(∀y∈ow,h'.get? (s.heap.objs.size+1)=some { cls:=.type "cell",data:=.cell none })->(∀b o,s.heap.get? b=some o->h'.get? b=some o) ->
   Q { scope,locals:=s.heap.objs.size,globals,cells:=ow.map (·,s.heap.objs.size+1)++cl,qual,func:=none,code:=outer.code,frame:=outer.frame,builtins:=outer.builtins } { s with heap:=h' }):
  wpAny M A (newFunctionEnv scope globals cl [] qual none .none (some outer)) Q E s:=by
 refine wpAny_bind (wpAny_alloc (wpAny_bind (wpAny_layCells _ (λname kind cells=>by cases hkc:kind == NameKind.cell<;>simp[hkc]) _ _ _ _ ?_)));rw[S.own];refine wpAny_bind (wpAny_pure (wpAny_pure ?_));have hsz:(s.heap.push { cls:=.type "dict",data:=.dict #[] }).objs.size=s.heap.objs.size+1:=Heap.size_push ..;have q:=hQ _ ((Heap.Ns.new s.heap (.type "dict")).keeps λb o e=>pushCells_keeps scope.names _ b o e) (λy hy=>by rw[<-hsz];exact S.psh _ y hy) λb o e=>pushCells_keeps _ _ _ _ (Heap.get?_push_of_some _ e);rw[<-hsz]at q;exact q
section
variable {X:Cx} {pins:List (Addr×Obj)} {Z:St} {H:Hp} {s:Shared} {scope:Scope} {x:Str} {xs ow ys:List Str} {js:List Nat} {fp:List Addr} {h₁:Heap} {tk:Nat} {C:Addr}
theorem zc0(I:Inv X pins Z H s)(S:zbv X.env.scope scope xs ow X.N ys js)(hf:∀b∈fp,U6 X pins H b)(ho:∀b∈fp,∃o,s.heap.get? b=some o)(hC:s.heap.objs.size<=C)(hk:∀b o,s.heap.get? b=some o->h₁.get? b=some o)(hn:h₁.Ns C λ_=>none)(hcell:∀y∈ow,h₁.get? (C+1)=some { cls:=.type "cell",data:=.cell none }):
  Inv (cxG X ow (xs++ys) scope C s H fp) [] (nones xs++qX js Z) H { s with heap:=h₁,toks:=tk }:=by
 generalize hcl:qM X.env.cells scope.names []=cl;have sub:∀y c,cl.lookup y=some c->X.env.cells.lookup y=some c:=λy c e=>Xo (λ_ _ z=>by simp at z) (hcl▸e);have eE:(cxG X ow (xs++ys) scope C s H fp).env=compEnvC scope (ow.map (·,C+1)++cl) C X.env:=by rw[<-hcl];rfl
 have has:∀y,y∉ow->scope.names.lookup y=some .free->∃c,(ow.map (·,C+1)++cl).lookup y=some c/\cl.lookup y=some c:=λy hy e=>by
  have m:=PySem.mem_of_lookup e;obtain⟨c,h⟩:=Ul (.inr ⟨m,I.ok.has y (S.free _ m rfl)⟩);rw[YD,if_neg hy,<-hcl];exact⟨c,h,h⟩
 have look:∀y c,(cxG X ow (xs++ys) scope C s H fp).env.cells.lookup y=some c->(y∈ow/\c=C+1)\/(y∉ow/\cl.lookup y=some c):=λy c e=>by
  rw[eE]at e;have e:(ow.map (·,C+1)++cl).lookup y=some c:=e;rw[YD]at e;split at e
  ·exact .inl ⟨‹_›,(Option.some.inj e).symm⟩
  ·exact .inr ⟨‹_›,e⟩
 have old:∀y c,cl.lookup y=some c->¬ C+1=c:=λy c e z=>by
  obtain⟨v,o,e2,_⟩:=I.cell y c (sub y c e);exact absurd (Heap.lt_size e2) (z▸Nat.not_lt.mpr (Nat.le_succ_of_le hC))
 have lt:∀b∈fp,b<s.heap.objs.size:=λb hb=>by obtain⟨o,e⟩:=ho b hb;exact Heap.lt_size e
 have ok:(cxG X ow (xs++ys) scope C s H fp).Ok:=by
  refine⟨I.ok.mod,S.kind,I.ok.glob,I.ok.blt,hC,λy z c e1 e2=>?inj,λy hy=>?_,λy c z e=>?_,I.ok.hd,I.ok.frames,.inl rfl,λb hb=>?_,I.bs,Nat.le_trans I.ok.bsz I.sz,λb o e hb=>?_,λb hb z=>?_,I.stack,I.stkFree⟩
  case inj=>
   rcases look y c e1 with ⟨h1,h2⟩ | ⟨_,h1⟩<;>rcases look z c e2 with ⟨h3,h4⟩ | ⟨_,h3⟩
   ·exact S.one _ h1 _ h3
   ·exact absurd h2.symm (old z c h3)
   ·exact absurd h4.symm (old y c h1)
   ·exact I.ok.inj y z c (sub _ _ h1) (sub _ _ h3)
  ·have hy':=hy;rw[eE];show ∃c,(ow.map (·,C+1)++cl).lookup y=some c;by_cases hyx:y∈ow
   ·exact⟨C+1,by rw[YD,if_pos hyx]⟩
   have has':=λz=>(has y hyx z).imp λ_ h=>h.1;rcases hy' with e | e
   ·rcases tH e with z | ⟨_,z⟩
    ·exact absurd (S.cell _ (PySem.mem_of_lookup z) rfl) hyx
    ·exact has' z
   ·rcases tH e with z | ⟨z,_⟩
    ·exact has' z
    ·cases z
  ·rcases look y c e with ⟨_,h⟩ | ⟨h,_⟩
   ·rw[h];exact Nat.le_succ_of_le hC
   ·exact absurd (List.elem_iff.mp z) h
  ·refine⟨Nat.ne_of_lt (Nat.lt_of_lt_of_le (lt b hb) hC),λy c e=>?_⟩;rcases look y c e with ⟨_,h⟩ | ⟨_,h⟩
   ·rw[h];exact Nat.ne_of_gt (Nat.lt_of_lt_of_le (lt b hb) (Nat.le_succ_of_le hC))
   ·exact (hf b hb).2.2.2.2.1 y c (sub y c h)
  ·rcases (hf b hb).2.2.2.1 with z | z
   ·exact I.ok.noex b o e z
   ·exact absurd (Nat.lt_of_lt_of_le (Heap.lt_size e) (Nat.le_trans I.ok.bsz z)) (Nat.lt_irrefl _)
  ·rcases List.mem_cons.mp (I.stkSub b z) with e | e
   ·exact (hf b hb).2.1 e
   ·exact (hf b hb).2.2.1 e
 refine⟨ok,rfl,I.bare,Un.kept hk,⟨_,hn,λi y v e1 e2 e3=>?_⟩,λy c e=>?_,I.hok.fresh hC,λy c e=>(look y c e).elim (λh=>by rw[h.2];exact I.hok.fresh (Nat.le_succ_of_le hC)) (λh=>I.freeC y c (sub y c h.2)),λp hp=>absurd (show p∈([]) from hp) (by simp),I.hok.kept hk,?_⟩
 ·obtain⟨k,rfl,e2'⟩:=Jy e2;have e1':ys[k]?=some y:=by
   have e1:(xs++ys)[xs.length+k]?=some y:=e1;rw[List.getElem?_append_right (by omega),Nat.add_sub_cancel_left]at e1;exact e1
  obtain⟨j,hj,hσ⟩:=zeB e2';have hN:X.N[j]?=some y:=by
   have z:=congrArg (λl=>l[k]?) S.caps;simp only[List.getElem?_map,hj,e1',Option.map_some]at z;exact Option.some.inj z
  have hmy:=List.mem_of_getElem? e1';have hfr:=S.fr y hmy;have hkind:=S.free _ (PySem.mem_of_lookup hfr) rfl;obtain⟨m',hns,hl⟩:=I.loc;obtain⟨u,r,lk⟩:=hl j y v hN hσ (.inr hkind);refine⟨u,r,.inr ⟨?_,?_⟩⟩
  ·have e3':=e3;rcases e3' with z | z
   ·rcases tH z with q | ⟨q,_⟩
    ·rw[hfr]at q;cases q
    ·cases q
   ·exact z
  ·obtain⟨c,hc,hc2⟩:=has y (λz=>(List.nodup_append.mp S.nd).2.2 y (S.sub y z) y hmy rfl) hfr;rw[eE];refine⟨c,hc,?_⟩;rcases lk with ⟨z,_⟩ | ⟨_,c',hc',cell⟩
   ·rcases hkind with q | q<;>· rw[show X.env.scope.names.lookup y=some .local from z]at q;cases q
   ·rw[sub y c hc2]at hc';cases hc'
    obtain⟨o,e,d⟩:=cell;exact⟨o,hk _ _ e,d⟩
 ·rcases look y c e with ⟨q,h⟩ | ⟨_,h⟩
  ·rw[h];exact⟨none,_,hcell y q,rfl⟩
  ·obtain⟨v,o,e',d⟩:=I.cell y c (sub y c h);exact⟨v,o,hk _ _ e',d⟩
 ·have z:=congrArg List.length S.caps;simp only[List.length_map]at z;show (nones xs++qX js Z).length=(xs++ys).length;simp[qX,nones,z]
theorem CScope.gn(S:CScope sc scope x N ys js):zbv sc scope [x] [] N ys js:=⟨S.kind,λy h e=>absurd e (S.cell y h),S.loc,S.free,S.caps,S.fr,S.nd,nofun,nofun,λ_ _=>Us S.cell,λ_=>nofun⟩
end
def PTs(X:Cx)(ifs:List Expr)(t:TT):Prop :=
 ∀(pins:List (Addr×Obj)) (s:Shared) (Z:St) (H:Hp) (Q:Bool->Hp->Prop),Inv X pins Z H s->t Z H Q ->
  wpAny (model X.prog X.w) X.A (forIn ifs true λc r=>if r=true then do let ok <-isTrue c X.env (eval c X.env);pure (ForInStep.yield ok) else pure (ForInStep.yield r)) (TP X pins Z Q) X.xe s
def jJ:TT:=λ_ H Q=>Q true H
theorem yX:PTs X [] jJ:=λpins s Z H Q I h=>wpAny_tests_nil ⟨H,I,h⟩
theorem WN(h:PT X c t):PTs X [c] t:=λpins s Z H Q I hw=>wpAny_tests_one (h pins s Z H Q I hw)
def CompLoop(J:It)(js:List Nat)(tt:TT)(te:TE)(Z:St)(Q:VK)(H:Hp):Prop:=∃W:Nat->Nat->List V->Hp->Prop,(∃m,W 0 m [] H)/\∀i m ys H,W i m ys H ->
 (J.stop i H/\∀D,H D=none->Q (.ref D) (upd H D (.lst ys))) \/
 (J.go i H/\ys.length<sizeLine/\∃N:List V->Hp->Prop,(∀ys' H',N ys' H'->∃m',m'<m/\W (i+1) m' ys' H')/\∀x H',J.yld i H x H'->tt (some x::qX js Z) H' λb H2=>if b=true then te (some x::qX js Z) H2 λv H3=>N (ys++[v]) H3 else N ys H2)
def zeO(wi:TI)(js:List Nat)(tt:TT)(te:TE):TE:=λZ H Q=>wi Z H λJ H1=>CompLoop J js tt te Z Q H1
theorem HOk.track(x:HOk P w H h)(hn:H a=none)(new:ObjOk P w (upd H a o) h a o):HOk P w (upd H a o) h:=λb u e=>by
 by_cases hb:b=a
 ·subst hb;rw[zp]at e;cases e;exact new
 ·rw[zB hb]at e;exact (x b u e).stay (λ_ _ _ q=>q) (λc q=>by rw[zB (zK q hn)];exact q) λc xs q=>by rw[zB (zK q hn)];exact q
section
variable {prog:Program} {w:World} {A:Around} {R:Result->Shared->Prop} {s:Shared}
theorem zdc(hN:N=notedBy (model prog w) A env λe s'=>R (.error e) s')(I:Nat->Shared->Prop)(turn:∀n s,I n s->wpAny (model prog w) A (pyNext it) (λr s₁=>match r with
   |none=>R (.ok .next) s₁
   |some v=>wpAny (model prog w) A (letOwnedTupleGo target it v) (λ_ s₅=>wpAny (model prog w) A (assign target env v) (λ_ s₂=>
     wpAny (model prog w) A (forIn ifs true λc r=>if r=true then do let ok <-isTrue c env (eval c env);pure (ForInStep.yield ok) else pure (ForInStep.yield r)) (λok s₃=>if ok=true then wpAny (model prog w) A (eval elt env) (λx s₄=>wpAny (model prog w) A (call (.builtin "list.append") [acc,x]) (λ_ s₅=>∃m,m<n/\I m s₅) N s₄) N s₃ else ∃m,m<n/\I m s₃) N s₂) N s₅) N s₁) N s)(n:Nat)(h:I n s):codeAny (model prog w) A (.compLoop (.ListComp elt [⟨target,iter,ifs,0⟩] scope pos) 0 it acc env) R s:=by
 subst hN;refine codeAny_loop rfl I (λn s hI=>?_) n h;refine wpAny_noted (wpAny_bind (wpAny_standAt (wpAny_bind (wpAny_mono (turn n s hI) (λr s₁ h₁=>?_) λ_ _ h'=>h'))));cases r with
 |none=>exact wpAny_pure h₁
 |some v=>
  refine wpAny_bind (wpAny_mono h₁ (λ_ s₅ h₅=>wpAny_bind (wpAny_mono h₅ (λ_ s₂ h₂=>wpAny_bind (wpAny_mono h₂ (λok s₃ h₃=>?_) λ_ _ h'=>h')) λ_ _ h'=>h')) λ_ _ h'=>h');cases ok with
  |false=>exact wpAny_pure ⟨rfl,h₃⟩
  |true=>exact wpAny_bind (wpAny_bind (wpAny_mono h₃ (λx s₄ h₄=>wpAny_bind (wpAny_mono h₄ (λ_ s₆ h₆=>wpAny_pure (wpAny_pure ⟨rfl,h₆⟩)) λ_ _ h'=>h')) λ_ _ h'=>h'))
end
def jo(J:It)(xs:List Str)(js:List Nat)(g:TG)(tt:TT)(te:TE)(Z:St)(Q:VK)(H:Hp):Prop:=∃W:Nat->Nat->List V->Hp->Prop,(∃m,W 0 m [] H)/\∀i m ys H,W i m ys H ->
 (J.stop i H/\∀D,H D=none->Q (.ref D) (upd H D (.lst ys))) \/
 (J.go i H/\ys.length<sizeLine/\∃N:List V->Hp->Prop,(∀ys' H',N ys' H'->∃m',m'<m/\W (i+1) m' ys' H')/\∀x H',J.yld i H x H'->g x (nones xs++qX js Z) H' fun σ' H1=>(∃vs:St,vs.length=xs.length/\σ'=vs++qX js Z)/\tt σ' H1 λb H2=>if b=true then te σ' H2 λv H3=>N (ys++[v]) H3 else N ys H2)
def zgj(wi:TI)(xs:List Str)(js:List Nat)(g:TG)(tt:TT)(te:TE):TE:=λZ H Q=>wi Z H λJ H1=>jo J xs js g tt te Z Q H1
section
variable {X:Cx} {elt iter:Expr} {ifs:List Expr} {tg:Expr} {xs ow:List Str} {pos:Pos} {g:TG} {scope:Scope} {ys:List Str} {js:List Nat} {wi:TI} {tt:TT} {te:TE}
theorem Vp{Z:St}{R:Value->Addr->Result->Shared->Prop}(S:zbv X.env.scope scope xs ow X.N ys js)(hc:X.calm=true)(hg:∀C s₀ H₀ ex,PG (cxG X ow (xs++ys) scope C s₀ H₀ ex) tg g)(ht:∀C s₀ H₀ ex,PTs (cxG X ow (xs++ys) scope C s₀ H₀ ex) ifs tt)(he:∀C s₀ H₀ ex,PE (cxG X ow (xs++ys) scope C s₀ H₀ ex) elt te)(I:Inv X pins Z H s)(T:Turn X.prog X.w X.K tg J fp it tn)(st:tn 0 s.heap)(hf:∀b∈fp,U6 X pins H b)(hw:jo J xs js g tt te Z Q H)(hR:∀D C s' H' m',Inv X pins Z H' s'->Q (.ref D) H'->s.heap.objs.size<=C->H' C=none->s'.heap.Ns C m'->R (.ref D) C (.ok .next) s'):
  wpAny (model X.prog X.w) X.A (newList []) (λacc s₃=>wpAny (model X.prog X.w) X.A (newFunctionEnv scope X.env.globals (qM X.env.cells scope.names []) [] X.env.qual none .none (some X.env)) (λcenv s₄=>
   codeAny (model X.prog X.w) X.A (.compStart (.ListComp elt [⟨tg,iter,ifs,0⟩] scope pos) 0 (.ref it) acc { cenv with scope:=relabel scope X.env }) (R acc cenv.locals) s₄) E s₃) E s:=by
 obtain⟨W,⟨m0,w0⟩,turn⟩:=hw;refine wpAny_newObj_type (zeZ S λh₁ hns₁ hce₁ hsb₁=>?_);generalize hH2:s.heap.push { cls:=.type "list",dict:=none,data:=.seq ([]).toArray }=G at hns₁ hce₁ hsb₁ ⊢;generalize hD:s.heap.objs.size=D at *;generalize hCe:G.objs.size=C at *;have hC:C=D+1:=by rw[<-hCe,<-hH2,Heap.size_push,hD]
 have hDlt:D<C:=by rw[hC];exact Nat.lt_succ_self D
 have hDC:=Nat.ne_of_lt hDlt;have old:∀b o,s.heap.get? b=some o->h₁.get? b=some o:=λb o e=>hsb₁ b o (hH2▸Heap.get?_push_of_some _ e);have hacc:h₁.get? D=some { cls:=.type "list",data:=.seq ([]).toArray 0 }:=by
  refine hsb₁ D _ ?_;rw[<-hH2,<-hD];exact Heap.get?_push_size _ rfl
 have obj0:=T.obj 0 _ st;have fplt:∀b∈fp,b<D:=λb hb=>by obtain⟨o,e,_⟩:=obj0 b hb;exact hD▸Heap.lt_size e
 generalize hX:cxG X ow (xs++ys) scope C s H fp=X';have I1:Inv X' [] (nones xs++qX js Z) H { s with heap:=h₁,toks:=s.toks }:=by
  subst hX;exact zc0 I S hf (λb hb=>by obtain⟨o,e,_⟩:=obj0 b hb;exact⟨o,e⟩) (by omega) old hns₁ hce₁
 have eP:X'.prog=X.prog:=by subst hX;rfl
 have eW:X'.w=X.w:=by subst hX;rfl
 have eK:X'.K=X.K:=by subst hX;rfl
 have eA:X'.A=X.A:=by subst hX;rfl
 have eC:X'.calm=true:=by subst hX;exact hc
 have eL:X'.env.locals=C:=by subst hX;rfl
 have eS:X'.s₀=s:=by subst hX;rfl
 have eN:X'.N=xs++ys:=by subst hX;rfl
 have eE:X'.env=compEnvC scope (ow.map (·,C+1)++qM X.env.cells scope.names []) C X.env:=by subst hX;rfl
 have eXe:X'.xe=λ_ _=>False:=by subst hX;rfl
 have eX:X'.ex=fp:=by subst hX;rfl
 have ePn:X'.pn=[]:=by subst hX;rfl
 have efs:∀b,b∈X'.fs->b∈frs X.stack:=λb z=>by subst hX;exact z
 have look:∀y c,X'.env.cells.lookup y=some c->C<c\/X.env.cells.lookup y=some c:=λy c e=>by
  rw[eE]at e;have e:(ow.map (·,C+1)++qM X.env.cells scope.names []).lookup y=some c:=e;rw[YD]at e;split at e
  ·exact .inl (Nat.lt_of_succ_le (Nat.le_of_eq (Option.some.inj e)))
  ·exact .inr (Xo (λ_ _ z=>by simp at z) e)
 have cellNe:∀y c,X'.env.cells.lookup y=some c->c≠D:=λy c e=>by
  rcases look y c e with z | z
  ·exact Nat.ne_of_gt (Nat.lt_trans hDlt z)
  ·obtain⟨v,o,e2,_⟩:=I.cell y c z;exact Nat.ne_of_lt (hD▸Heap.lt_size e2)
 have frLt:∀b,b∈X'.fs->b<D:=λb z=>by
  rcases List.mem_cons.mp (I.stkSub b (efs b z)) with e | e
  ·rw[e];exact hD▸I.lt
  ·exact Nat.lt_of_not_le λh=>I.nofs (hD▸h) e
 have fpOk:∀p H',(∀b∈fp,H' b=none)->(∀q∈p,q.1=D)->∀b∈fp,U6 X' p H' b:=λp H' hn hp b hb=>by
  refine⟨hn b hb,?_,λz=>?_,.inl (eX▸hb),λy c e=>?_,λq hq=>?_⟩
  ·rw[eL];exact Nat.ne_of_lt (Nat.lt_trans (fplt b hb) hDlt)
  ·rcases List.mem_cons.mp (I.stkSub b (efs b z)) with e | e
   ·exact (hf b hb).2.1 e
   ·exact (hf b hb).2.2.1 e
  ·rcases look y c e with z | z
   ·exact Nat.ne_of_gt (Nat.lt_trans (Nat.lt_trans (fplt b hb) hDlt) z)
   ·exact (hf b hb).2.2.2.2.1 y c z
  ·rw[ePn,List.nil_append]at hq;rw[hp q hq];exact Nat.ne_of_gt (fplt b hb)
 have noCell:∀(its:List Value) k v,({ cls:=.type "list",data:=.seq its.toArray k }:Obj).data≠.cell v:=λits k v z=>by cases z
 have done:∀{zs:List V} {its:List Value} {k:Nat} {H':Hp} {s':Shared},Inv X' [] (nones xs++qX js Z) H' s'->s'.heap.get? D=some { cls:=.type "list",data:=.seq its.toArray k }->Vals zs its->H' D=none->zs.length<=sizeLine ->
   (∀D,H' D=none->Q (.ref D) (upd H' D (.lst zs)))->R (.ref D) C (.ok .next) s':=λ{zs its k H' s'} I' hd hv hn hz q=>by
  have un:=I'.base;obtain⟨m',hns,_⟩:=I'.loc;rw[eL]at hns;have hCn:H' C=none:=by have:=I'.free;rw[eL]at this;exact this
  have hH0:X'.H₀=H:=by subst hX;rfl
  have un2:Un (frs X.stack) fp H (upd H' D (.lst zs)) s.heap s'.heap:=by
   have ne:∀b o,s.heap.get? b=some o->b≠D:=λb o e=>Nat.ne_of_lt (hD▸Heap.lt_size e);have un':Un (frs X.stack) fp H H' s.heap s'.heap:=by subst hX;exact un
   exact⟨un'.keep,un'.slot,λb o e n hx=>by rw[zB (ne b o e)];exact un'.free b o e n hx,un'.there,λb xs e=>by rw[zB (zK (un'.tups b xs e) hn)];exact un'.tups b xs e,
    λb o u e=>by rw[zB (zK (un'.frzs b o u e) hn)];exact un'.frzs b o u e,λb ps e=>by
     obtain⟨more,z⟩:=un'.tbls b ps e;exact⟨more,by rw[zB (zK z hn)];exact z⟩⟩
  have hok:HOk X.prog X.w (upd H' D (.lst zs)) s'.heap:=by
   have h0:=I'.hok;rw[eP,eW]at h0;exact h0.track hn ⟨hz,its,k,hv,hd⟩
  have I2:=I.call' (by have:=I'.os;rw[eS]at this;exact this) un2 hok I'.bare λb hb=>⟨(hf b hb).2.2.2.1,(hf b hb).2.1,(hf b hb).2.2.2.2.1,(hf b hb).2.2.2.2.2⟩
  exact hR D C s' _ m' I2 (q D hn) (by omega) (by rw[zB (Ne.symm hDC)];exact hCn) hns
 have loop:codeAny (model X.prog X.w) X.A (.compLoop (.ListComp elt [⟨tg,iter,ifs,0⟩] scope pos) 0 (.ref it) (.ref D) X'.env) (R (.ref D) C) { s with heap:=h₁,toks:=s.toks }:=by
  refine zdc rfl (λn s'=>∃i zs its k H',Inv X' [] (nones xs++qX js Z) H' s'/\tn i s'.heap/\(∀b∈fp,H' b=none)/\s'.heap.get? D=some { cls:=.type "list",data:=.seq its.toArray k }/\Vals zs its/\H' D=none/\zs.length<=sizeLine/\W i n zs H')
   ?_ m0 ⟨0,[],[],0,H,I1,T.keep _ _ _ st (λb hb o e=>old b o e),λb hb=>(hf b hb).1,hacc,.nil,I.hok.fresh (by omega),Nat.zero_le _,w0⟩
  rintro n s3 ⟨i,zs,its,k,H3,I3,st3,fr3,d3,v3,n3,z3,w3⟩;have pinD:Inv X' [(D,{ cls:=.type "list",data:=.seq its.toArray k })] (nones xs++qX js Z) H3 s3:=I3.pins_of λp hp=>by
   have e:p=(D,{ cls:=.type "list",data:=.seq its.toArray k }):=by simpa using hp
   subst e;exact⟨d3,n3,by rw[eL];exact hDC,λz=>Nat.lt_irrefl _ (frLt D z),noCell its k⟩
  have hpD:∀q∈[(D,({ cls:=.type "list",data:=.seq its.toArray k }:Obj))],q.1=D:=λq hq=>by
   have e:q=(D,{ cls:=.type "list",data:=.seq its.toArray k }):=by simpa using hq
   rw[e]
  rcases turn i n zs H3 w3 with ⟨stop,qn⟩ | ⟨go,hzl,NN,hNN,step⟩
  ·refine thn (eA▸T.done X' eP eW eK eC i _ s3 _ H3 _ pinD (fpOk _ _ fr3 hpD) st3 stop) λr s4 ⟨hr,I4⟩=>?_;subst hr;exact done (I4.pins_of λp hp=>absurd hp (by simp)) (I4.pin (D,{ cls:=.type "list",data:=.seq its.toArray k }) (List.mem_append_right _ (by simp))).1 v3 n3 z3 qn
  ·refine thn (eA▸T.item X' eP eW eK eC i _ s3 _ H3 _ pinD (fpOk _ _ fr3 hpD) st3 go) λr s4 ⟨u,hr,h4⟩=>?_;subst hr;refine thn h4 λ_ s4 ⟨v,H5,I5,r5,y5,st5,fr5⟩=>?_;have I5':=I5.pinned (fpOk _ _ fr5 hpD) (T.obj _ _ st5);have ev:∀{α:Type} {t:Sem α} {Q':α->Shared->Prop} {E':Value->Shared->Prop} {s':Shared},wpAny (model X'.prog X'.w) X'.A t Q' X'.xe s'->wpAny (model X.prog X.w) X.A t Q' E' s':=λ{α t Q' E' s'} hh=>by
    rw[eP,eW,eA,eXe]at hh;exact wpAny_mono hh (λ_ _ q=>q) λ_ _ z=>z.elim
   have hgg:=hX▸hg C s H fp;refine ev (thn (hgg _ s4 _ H5 v u _ I5' r5 (step v H5 y5)) λ_ s6 ⟨σ6,H6,I6,⟨vs6,hvl,e6⟩,q6⟩=>?_);subst e6;have back:∀{σ':St} {H7:Hp} {s7:Shared},Inv X' ([(D,{ cls:=.type "list",data:=.seq its.toArray k })]++Vg fp s4.heap) (vs6++qX js Z) H7 s7->Inv X' [] (nones xs++qX js Z) H7 s7:=λ{_ H7 s7} I7=>by
    refine (I7.pins_of λp hp=>absurd hp (by simp)).weak (by rw[List.length_append,List.length_append,hvl,YS]) λi v' e=>?_;obtain⟨k',rfl,e'⟩:=Jy e;rw[List.getElem?_append_right (by omega),hvl,Nat.add_sub_cancel_left];exact e'
   have fps:∀{σ':St} {H7:Hp} {s7:Shared},Inv X' ([(D,{ cls:=.type "list",data:=.seq its.toArray k })]++Vg fp s4.heap) σ' H7 s7->(∀b∈fp,H7 b=none)/\(∀b∈fp,∀o,s4.heap.get? b=some o->s7.heap.get? b=some o)/\s7.heap.get? D=some { cls:=.type "list",data:=.seq its.toArray k }/\H7 D=none:=λ{σ' H7 s7} I7=>by
    have g:∀b∈fp,∀o,s4.heap.get? b=some o->s7.heap.get? b=some o/\H7 b=none:=λb hb o e=>by
     have z:=I7.pin (b,o) (List.mem_append_right _ (List.mem_append_right _ (XD hb e)));exact⟨z.1,z.2.1⟩
    refine⟨λb hb=>?_,λb hb o e=>(g b hb o e).1,(I7.pin (D,{ cls:=.type "list",data:=.seq its.toArray k }) (List.mem_append_right _ (by simp))).1,(I7.pin (D,{ cls:=.type "list",data:=.seq its.toArray k }) (List.mem_append_right _ (by simp))).2.1⟩;obtain⟨o,e,_⟩:=T.obj _ _ st5 b hb;exact (g b hb o e).2
   have hte:=hX▸ht C s H fp;have hee:=hX▸he C s H fp;refine ev (thn (hte _ s6 _ H6 _ I6 q6) λb s7 ⟨H7,I7,q7⟩=>?_);cases b with
   |false=>
    obtain⟨m',hm,w7⟩:=hNN _ _ q7;obtain⟨g1,g2,g3,g4⟩:=fps I7;exact⟨m',hm,i+1,zs,its,k,H7,back (σ':=[]) I7,T.keep _ _ _ st5 g2,g1,g3,v3,g4,z3,w7⟩
   |true=>
    refine ev (thn (hee _ s7 _ H7 _ I7 q7) λu8 s8 ⟨v8,H8,I8,r8,q8⟩=>?_);obtain⟨m',hm,w8⟩:=hNN _ _ q8;obtain⟨g1,g2,g3,g4⟩:=fps I8;have hil:=v3.length;refine call_meets F.slot_list_append ⟨_,g3,rfl⟩ F.entry_list_append (F.args_list_append_2 _ _) (PySem.list_append D its.toArray k u8 (by rw[List.size_toArray];omega)) ⟨g3,?_⟩;have q:=PySem.IsL.update g3 (λa=>a.push u8);have ea:its.toArray.push u8=(its++[u8]).toArray:=by simp
    rw[ea]at q;have kk:∀b o,b≠D->s8.heap.get? b=some o->(s8.heap.update D (Obj.mapSeq λa=>a.push u8)).get? b=some o:=λb o hb e=>(Heap.get?_update_other _ _ (Ne.symm hb)).trans e;have I9:Inv X' [] (nones xs++qX js Z) H8 { s8 with heap:=s8.heap.update D (Obj.mapSeq λa=>a.push u8),toks:=s8.toks }:=by
     refine (back (σ':=[]) I8).turned kk g4 (by rw[eL];exact hDC) (.inr (by rw[eS];omega)) cellNe λp hp=>?_;rw[ePn]at hp;exact absurd hp (by simp)
    refine⟨m',hm,i+1,zs++[v8],its++[u8],_,H8,I9,T.keep _ _ _ st5 (λb hb o e=>kk b o (Nat.ne_of_lt (fplt b hb)) (g2 b hb o e)),g1,q,v3.append (.cons r8 .nil),g4,?_,w8⟩;rw[List.length_append,List.length_singleton];omega
 rw[eE]at loop;exact codeAny_compStart_list loop (T.self _ 0 _ _ _ (T.keep _ _ _ st (λb hb o e=>old b o e)) loop)
theorem zbd{L:It->St->VK->Hp->Prop}(hL:∀J Z Q H,L J Z Q H->jo J xs js g tt te Z Q H)(S:zbv X.env.scope scope xs ow X.N ys js)(hc:X.calm=true)(hi:PI X tg iter wi)(hg:∀C s₀ H₀ ex,PG (cxG X ow (xs++ys) scope C s₀ H₀ ex) tg g)(ht:∀C s₀ H₀ ex,PTs (cxG X ow (xs++ys) scope C s₀ H₀ ex) ifs tt)(he:∀C s₀ H₀ ex,PE (cxG X ow (xs++ys) scope C s₀ H₀ ex) elt te)(hs:∀x,foldedSetIterable iter X.env x=pure x:=by intro _;rfl):PE X (.ListComp elt [⟨tg,iter,ifs,0⟩] scope pos) (λZ H Q=>wi Z H λJ H1=>L J Z Q H1):=by
 intro pins s Z H Q I h;refine wpAny_comprehension_free rfl hs (Y5 λy hy e=>I.ok.has _ (S.free y hy e)) S.kind S.loc (thn (hi pins s Z H _ I h) λv s1 h1=>thn h1 λitv s2 h2=>?_);obtain⟨it,fp,tn,J,H2,e,I2,T,st2,f2,hw⟩:=h2;subst e;refine Vp S hc hg ht he I2 T st2 f2 (hL _ _ _ _ hw) ?_;intro D C s' H' m' I' q hC hn hns;refine⟨m',hns,λh' hs'=>⟨.ref D,H',?_,rfl,q⟩⟩;have e:=I2.fpOk hC hn;exact I'.turned (λb o hb e=>(hs'.2 b hb).trans e) hn e.2.1 e.2.2.2.1 e.2.2.2.2.1 e.2.2.2.2.2
theorem Vs{L:It->St->VK->Hp->Prop}(hL:∀J Z Q H,L J Z Q H->jo J xs js g tt te Z Q H){py spos:Pos}(S:zbv X.env.scope scope xs ow X.N ys js)(hc:X.calm=true)(hN:X.N.Nodup)(hy:X.N[i]?=some y)(hl:Loc X.env.scope y)(hi:PI X tg iter wi)(hg:∀C s₀ H₀ ex,PG (cxG X ow (xs++ys) scope C s₀ H₀ ex) tg g)(ht:∀C s₀ H₀ ex,PTs (cxG X ow (xs++ys) scope C s₀ H₀ ex) ifs tt)(he:∀C s₀ H₀ ex,PE (cxG X ow (xs++ys) scope C s₀ H₀ ex) elt te)(hf:X.fn y=true\/X.env.scope.names.lookup y=some .local:=by first | exact .inl rfl | exact .inr rfl | assumption)(hsw:swapsWith (.ListComp elt [⟨tg,iter,ifs,0⟩] scope pos) (some (.Name y py)) spos.line X.env=pure true:=by rfl)(hs:∀x,foldedSetIterable iter X.env x=pure x:=by intro _;rfl):PS X (.Assign [.Name y py] (.ListComp elt [⟨tg,iter,ifs,0⟩] scope pos) spos) (zcf (λZ H Q=>wi Z H λJ H1=>L J Z Q H1) (X5 i)):=by
 intro pins s Z H D I h;rw[exec_Assign_Name_used _ _ _ _ hsw];refine wpAny_bind (wpAny_standAt (wpAny_bind ?_));refine wpAny_bind (wpAny_mono (wpAny_comprehension_free rfl hs (Y5 λy hy e=>I.ok.has _ (S.free y hy e)) S.kind S.loc
  (thn (hi pins s Z H _ I h) λv s1 h1=>thn h1 λitv s2 h2=>?_)) (λ_ s' hq=>wpAny_pure (wpAny_pure hq)) λ_ _ e=>e)
 obtain⟨it,fp,tn,J,H2,e,I2,T,st2,f2,hw⟩:=h2;subst e;refine Vp S hc hg ht he I2 T st2 f2 (hL _ _ _ _ hw) ?_;intro Da C s' H' m' I' q hC hn hns;have e:=I2.fpOk hC hn;refine wpAny_assign_Name (Jk I' hN hy hl (show RelV (.ref Da) (.ref Da) from rfl) (λs2' I3 ⟨a,sb,ha⟩=>?_) hf);have hCa:C≠a:=by
  rcases ha with z | z
  ·rw[z];exact e.2.1
  ·intro w;exact e.2.2.2.2.1 _ _ z w.symm
 refine⟨m',hns.sameBut sb hCa,λh' hs'=>⟨_,H',?_,q⟩⟩;exact I3.turned (λb o hb e=>(hs'.2 b hb).trans e) hn e.2.1 e.2.2.2.1 e.2.2.2.2.1 e.2.2.2.2.2
theorem CompLoop.t(h:CompLoop J js tt te Z Q H):jo J [x] js (X5 0) tt te Z Q H:=by
 obtain⟨W,h0,h⟩:=h;exact⟨W,h0,λi m ys H w=>(h i m ys H w).imp id λ⟨a,b,N,c,d⟩=>⟨a,b,N,c,λx H' y=>⟨⟨[some x],rfl,rfl⟩,d x H' y⟩⟩⟩
variable {x:Str} {px:Pos}
theorem yV(S:CScope X.env.scope scope x X.N ys js)(hc:X.calm=true)(hi:PI X (.Name x px) iter wi)(ht:∀C s₀ H₀ ex,PTs (cxC X (x::ys) scope C s₀ H₀ ex) ifs tt)(he:∀C s₀ H₀ ex,PE (cxC X (x::ys) scope C s₀ H₀ ex) elt te)(hs:∀x,foldedSetIterable iter X.env x=pure x:=by intro _;rfl):PE X (.ListComp elt [⟨.Name x px,iter,ifs,0⟩] scope pos) (zeO wi js tt te):=
 zbd (λ_ _ _ _ h=>h.t) S.gn hc hi (λ_ _ _ _=>zV S.nd rfl (.inl (lookup_relabel_local S.var)) (.inr (lookup_relabel_local S.var))) ht he hs
theorem Qu{py spos:Pos}(S:CScope X.env.scope scope x X.N ys js)(hc:X.calm=true)(hN:X.N.Nodup)(hy:X.N[i]?=some y)(hl:Loc X.env.scope y)(hi:PI X (.Name x px) iter wi)(ht:∀C s₀ H₀ ex,PTs (cxC X (x::ys) scope C s₀ H₀ ex) ifs tt)(he:∀C s₀ H₀ ex,PE (cxC X (x::ys) scope C s₀ H₀ ex) elt te)(hf:X.fn y=true\/X.env.scope.names.lookup y=some .local:=by first | exact .inl rfl | exact .inr rfl | assumption)(hsw:swapsWith (.ListComp elt [⟨.Name x px,iter,ifs,0⟩] scope pos) (some (.Name y py)) spos.line X.env=pure true:=by rfl)(hs:∀x,foldedSetIterable iter X.env x=pure x:=by intro _;rfl):PS X (.Assign [.Name y py] (.ListComp elt [⟨.Name x px,iter,ifs,0⟩] scope pos) spos) (zcf (zeO wi js tt te) (X5 i)):=
 Vs (λ_ _ _ _ h=>h.t) S.gn hc hN hy hl hi (λ_ _ _ _=>zV S.nd rfl (.inl (lookup_relabel_local S.var)) (.inr (lookup_relabel_local S.var))) ht he hf hsw hs
end
theorem xu{K:W.Frag}(Pv:Nat->List V->Hp->Prop)(h0:Pv 0 [] H)(hl:∀i ys H,i<=xs.length->Pv i ys H->SqL K H a xs)(hs:∀i x ys H,xs[i]?=some x->Pv i ys H->ys.length<sizeLine/\tt (some x::qX js Z) H λb H2=>if b=true then te (some x::qX js Z) H2 λv H3=>Pv (i+1) (ys++[v]) H3 else Pv (i+1) ys H2)(hd:∀ys H,Pv xs.length ys H->∀D,H D=none->Q (.ref D) (upd H D (.lst ys))):
  CompLoop (Itl K a) js tt te Z Q H:=by
 refine⟨λi m ys H=>m=xs.length-i/\i<=xs.length/\Pv i ys H,⟨xs.length,by simp,Nat.zero_le _,h0⟩,?_⟩;rintro i m ys H ⟨rfl,hi,p⟩;have q:=hl i ys H hi p;by_cases hlt:i<xs.length
 ·have hx:=List.getElem?_eq_getElem hlt;obtain⟨hz,hst⟩:=hs i xs[i] ys H hx p;refine .inr ⟨⟨xs,xs[i],q,hx⟩,hz,Pv (i+1),λys' H' p'=>⟨xs.length-(i+1),by omega,rfl,hlt,p'⟩,λx H' y=>?_⟩;obtain⟨e,y⟩:=y;subst e;have e2:=y xs q;rw[hx]at e2;cases e2
  exact hst
 ·have e:i=xs.length:=by omega
  subst e;exact .inl ⟨⟨xs,q,Nat.le_refl _⟩,hd ys H p⟩
theorem vQ{lo:Int}(Pv:Nat->List V->Hp->Prop)(h0:Pv 0 [] H)(hs:∀i ys H,i<n->Pv i ys H->ys.length<sizeLine/\tt (some (.int (lo+i))::qX js Z) H λb H2=>if b=true then te (some (.int (lo+i))::qX js Z) H2 λv H3=>Pv (i+1) (ys++[v]) H3 else Pv (i+1) ys H2)(hd:∀ys H,Pv n ys H->∀D,H D=none->Q (.ref D) (upd H D (.lst ys))):
  CompLoop (Itr lo n) js tt te Z Q H:=by
 refine⟨λi m ys H=>m=n-i/\i<=n/\Pv i ys H,⟨n,by simp,Nat.zero_le _,h0⟩,?_⟩;rintro i m ys H ⟨rfl,hi,p⟩;by_cases hlt:i<n
 ·obtain⟨hz,hst⟩:=hs i ys H hlt p;refine .inr ⟨hlt,hz,Pv (i+1),λys' H' p'=>⟨n-(i+1),by omega,rfl,hlt,p'⟩,λx H' y=>?_⟩;obtain⟨e,y⟩:=y;subst e y;exact hst
 ·have e:i=n:=by omega
  subst e;exact .inl ⟨Nat.le_refl _,hd ys H p⟩
open PySem PySem.Spec PyProof.Rows PySem.SeqAt
inductive Tr where
 |non | bl (b:Bool) | int (i:Int) | str (x:Str) | lst (ts:List Tr) | tup (ts:List Tr)
mutual
def TrAt(K:W.Frag)(H:Hp):Tr->V->Prop
 |.non,v=>v=.non
 |.bl b,v=>v=.bl b
 |.int i,v=>v=.int i
 |.str x,v=>v=.str x
 |.lst ts,v=>∃a xs,v=.ref a/\SqL K H a xs/\TrsAt K H ts xs
 |.tup ts,v=>∃a xs,v=.ref a/\SqT K H a xs/\TrsAt K H ts xs
def TrsAt(K:W.Frag)(H:Hp):List Tr->List V->Prop
 |[],xs=>xs=[]
 |t::ts,xs=>∃y ys,xs=y::ys/\TrAt K H t y/\TrsAt K H ts ys
end
mutual
def teq:Tr->Tr->Bool
 |.non,.non=>true
 |.bl a,.bl b=>a == b
 |.bl a,.int b=>(if a then 1 else 0) == b
 |.int a,.bl b=>a == (if b then 1 else 0)
 |.int a,.int b=>a == b
 |.str a,.str b=>a == b
 |.lst a,.lst b=>qQ a b
 |.tup a,.tup b=>qQ a b
 |_,_=>false
def qQ:List Tr->List Tr->Bool
 |[],[]=>true
 |t::ts,u::us=>teq t u && qQ ts us
 |_,_=>false
end
mutual
def qj:Tr->Nat
 |.lst ts=>wj ts+1
 |.tup ts=>wj ts+1
 |_=>0
def wj:List Tr->Nat
 |[]=>0
 |t::ts=>max (qj t) (wj ts)
end
theorem Yo{t:Tr}:∀{ts:List Tr},t∈ts->qj t<=wj ts
 |u::ts,h=>by
  rw[wj];rcases List.mem_cons.mp h with e | h
  ·rw[e];exact Nat.le_max_left _ _
  ·exact Nat.le_trans (Yo h) (Nat.le_max_right _ _)
section
variable {K:W.Frag} {H:Hp}
theorem TrsAt.length:∀{ts:List Tr} {xs:List V},TrsAt K H ts xs->ts.length=xs.length
 |[],xs,h=>by rw[TrsAt]at h;subst h;rfl
 |t::ts,xs,h=>by
  rw[TrsAt]at h;obtain⟨y,ys,rfl,_,h⟩:=h;rw[List.length_cons,List.length_cons,TrsAt.length h]
theorem TrsAt.get:∀{ts:List Tr} {xs:List V} {j:Nat} {t:Tr},TrsAt K H ts xs->ts[j]?=some t->∃x,xs[j]?=some x/\TrAt K H t x
 |[],xs,j,t,h,e=>by simp at e
 |u::ts,xs,0,t,h,e=>by
  rw[TrsAt]at h;obtain⟨y,ys,rfl,hy,h⟩:=h;simp at e;subst e;exact⟨y,rfl,hy⟩
 |u::ts,xs,j+1,t,h,e=>by
  obtain⟨y,ys,rfl,hy,h⟩:=h;obtain⟨x,e1,e2⟩:=TrsAt.get h (by simpa using e);exact⟨x,by simpa using e1,e2⟩
theorem TrsAt.mk:∀{ts:List Tr} {xs:List V},ts.length=xs.length->(∀(j:Nat) (t:Tr) (x:V),ts[j]?=some t->xs[j]?=some x->TrAt K H t x)->TrsAt K H ts xs
 |[],[],_,_=>by rw[TrsAt]
 |[],_::_,h,_=>by simp at h
 |_::_,[],h,_=>by simp at h
 |t::ts,x::xs,h,f=>by
  rw[TrsAt];exact⟨x,xs,rfl,f 0 t x rfl rfl,TrsAt.mk (by simpa using h) λj t x e1 e2=>f (j+1) t x (by simpa using e1) (by simpa using e2)⟩
theorem TrsAt.ints:∀{ns:List Int},TrsAt K H (ns.map Tr.int) (ns.map V.int)
 |[]=>by rw[List.map_nil,TrsAt];rfl
 |n::ns=>by rw[List.map_cons,TrsAt];exact⟨_,_,rfl,by rw[TrAt],TrsAt.ints⟩
def wK(ns:List Int):Tr:=.lst (ns.map Tr.int)
theorem TrAt.ints(h:SqL K H a (ns.map V.int)):TrAt K H (wK ns) (.ref a):=by
 unfold wK;rw[TrAt];exact⟨a,_,rfl,h,TrsAt.ints⟩
end
mutual
theorem Ws:∀t:Tr,teq t t=true
 |.non=>by rw[teq]
 |.bl b=>by rw[teq];simp
 |.int i=>by rw[teq];simp
 |.str x=>by rw[teq];simp
 |.lst ts=>by rw[teq];exact Zq ts
 |.tup ts=>by rw[teq];exact Zq ts
theorem Zq:∀ts:List Tr,qQ ts ts=true
 |[]=>by rw[qQ]
 |t::ts=>by rw[qQ,Ws t,Zq ts];rfl
end
theorem Uj{α:Type}[DecidableEq α]{f:α->Tr}(h:∀a b,teq (f a) (f b)=decide (a=b)):∀(xs ys:List α),qQ (xs.map f) (ys.map f)=decide (xs=ys)
 |[],[]=>by simp[qQ]
 |[],_::_=>by simp[qQ]
 |_::_,[]=>by simp[qQ]
 |x::xs,y::ys=>by
  rw[List.map_cons,List.map_cons,qQ,h,Uj h xs ys,Bool.eq_iff_iff];simp
theorem zcM(a b:Int):teq (.int a) (.int b)=decide (a=b):=by rw[teq,Bool.eq_iff_iff];simp
theorem jC(a b:List Int):teq (wK a) (wK b)=decide (a=b):=by unfold wK;rw[teq];exact Uj zcM a b
theorem XF:∀ns:List Int,wj (ns.map Tr.int)=0
 |[]=>by simp[wj]
 |n::ns=>by rw[List.map_cons,wj,XF ns,qj]<;>simp
theorem ju(ns:List Int):qj (wK ns)=1:=by unfold wK;rw[qj,XF]
theorem jR:∀{ts us:List Tr},ts.length≠us.length->qQ ts us=false
 |[],[],h=>absurd rfl h
 |[],_::_,_=>by simp[qQ]
 |_::_,[],_=>by simp[qQ]
 |t::ts,u::us,h=>by rw[qQ,jR (by simpa using h),Bool.and_false]
def eAt(ts us:List Tr)(j:Nat):Bool:=match ts[j]?,us[j]? with
 |some t,some u=>teq t u
 |_,_=>true
theorem zak:∀{ts us:List Tr},ts.length=us.length->(List.range ts.length).all (eAt ts us)=qQ ts us
 |[],[],_=>by simp[qQ]
 |[],_::_,h=>by simp at h
 |_::_,[],h=>by simp at h
 |t::ts,u::us,h=>by
  rw[List.length_cons,List.range_succ_eq_map,List.all_cons,List.all_map,qQ,<-zak (ts:=ts) (us:=us) (by simpa using h)];rfl
section
variable {X:Cx} {pins:List (Addr×Obj)} {Z:St} {H:Hp} {s:Shared}
theorem V7(I:Inv X pins Z H s):∀(n:Nat) {t u:Tr} {v:V},qj t<=n->TrAt X.K H t v->TrAt X.K H u v->t=u:=by
 intro n
 induction n with
 |zero=>
  intro t u v hd ht hu;cases t with
  |lst ts=>rw[qj]at hd;omega
  |tup ts=>rw[qj]at hd;omega
  |_=>(rw[TrAt]at ht;subst ht;cases u<;>(rw[TrAt]at hu)<;>first | rfl | (obtain⟨_,_,z,_⟩:=hu;cases z) | (cases hu;rfl) | cases hu)
 |succ n ih=>
  intro t u v hd ht hu;have lists:∀{ts us:List Tr} {xs:List V},wj ts<=n->TrsAt X.K H ts xs->TrsAt X.K H us xs->ts=us:=by
   intro ts us xs hd h1 h2;apply List.ext_getElem?;intro j;have l1:=h1.length;have l2:=h2.length;by_cases hj:j<ts.length
   ·obtain⟨t,e⟩:∃t,ts[j]?=some t:=⟨_,List.getElem?_eq_getElem hj⟩
    obtain⟨u,e'⟩:∃u,us[j]?=some u:=⟨_,List.getElem?_eq_getElem (by omega)⟩
    obtain⟨x,ex,hx⟩:=h1.get e;obtain⟨y,ey,hy⟩:=h2.get e';rw[ex]at ey;cases ey
    rw[e,e',ih (Nat.le_trans (Yo (List.mem_of_getElem? e)) hd) hx hy]
   ·rw[List.getElem?_eq_none (by omega),List.getElem?_eq_none (by omega)]
  cases t with
  |lst ts=>
   obtain⟨a,xs,rfl,q,h1⟩:=ht;cases u with
   |lst us=>
    obtain⟨b,ys,e,q',h2⟩:=hu;cases e
    rw[I.list_inj q' q]at h2;rw[lists (by rw[qj]at hd;omega) h1 h2]
   |tup us=>
    obtain⟨b,ys,e,q',h2⟩:=hu;cases e
    obtain⟨_,_,pl,_⟩:=I.list q;obtain⟨_,_,pt,_⟩:=I.tuple q';exact absurd rfl (ne_of_list_tuple pl.isList pt)
   |_=>rw[TrAt]at hu;cases hu
  |tup ts=>
   obtain⟨a,xs,rfl,q,h1⟩:=ht;cases u with
   |tup us=>
    obtain⟨b,ys,e,q',h2⟩:=hu;cases e
    rw[I.tuple_inj q' q]at h2;rw[lists (by rw[qj]at hd;omega) h1 h2]
   |lst us=>
    obtain⟨b,ys,e,q',h2⟩:=hu;cases e
    obtain⟨_,_,pl,_⟩:=I.list q';obtain⟨_,_,pt,_⟩:=I.tuple q;exact absurd rfl (ne_of_list_tuple pl.isList pt)
   |_=>rw[TrAt]at hu;cases hu
  |_=>(rw[TrAt]at ht;subst ht;cases u<;>(rw[TrAt]at hu)<;>first | rfl | (obtain⟨_,_,z,_⟩:=hu;cases z) | (cases hu;rfl) | cases hu)
structure zhS (A:Around) (s:Shared) (a b:Value) (r:Bool):Prop where
 rc:RcAt A s a b r
 ne:RcNeAt A s a b (!r)
 eq:EqAt A s a b r
theorem units_in1(A:Around):A.in1.units=A.units+1:=rfl
theorem VV(I:Inv X pins Z H s):∀(n:Nat) {t u:Tr} {v w:V} {a b:Value} {A:Around},qj t<=n->TrAt X.K H t v->TrAt X.K H u w->RelV v a->RelV w b->A.units+n<cLine->zhS A s a b (teq t u):=by
 intro n
 induction n with
 |zero=>
  intro t u v w a b A hd ht hu ra rb hA;have hA':A.units<cLine:=by omega
  cases t with
  |lst ts=>rw[qj]at hd;omega
  |tup ts=>rw[qj]at hd;omega
  |non=>
   rw[TrAt]at ht;subst ht;cases ra
   cases u with
   |non=>rw[TrAt]at hu;subst hu;cases rb;rw[teq];exact⟨.none_none,.none_none,.same _⟩
   |bl b=>rw[TrAt]at hu;subst hu;cases rb;simp only[teq];exact⟨.none_bool _,.none_bool _,.none_bool _⟩
   |int b=>rw[TrAt]at hu;subst hu;obtain⟨_,rfl⟩:=rb;simp only[teq];exact⟨.none_int _ _,.none_int _ _,.none_int _ _⟩
   |str b=>rw[TrAt]at hu;subst hu;obtain⟨_,rfl⟩:=rb;simp only[teq];exact⟨.none_str _ _,.none_str _ _,.none_str _ _⟩
   |lst us=>rw[TrAt]at hu;obtain⟨p,ys,rfl,q,_⟩:=hu;cases rb;obtain⟨_,_,pl,_⟩:=I.list q;simp only[teq];exact⟨.none_list pl.isList hA',.none_list pl.isList hA',.none_list pl.isList hA'⟩
   |tup us=>rw[TrAt]at hu;obtain⟨p,ys,rfl,q,_⟩:=hu;cases rb;obtain⟨_,_,pl,_⟩:=I.tuple q;simp only[teq];exact⟨.none_tuple pl hA',.none_tuple pl hA',.none_tuple pl hA'⟩
  |bl c=>
   rw[TrAt]at ht;subst ht;cases ra
   cases u with
   |non=>rw[TrAt]at hu;subst hu;cases rb;simp only[teq];exact⟨.bool_none _,.bool_none _,.bool_none _⟩
   |bl b=>rw[TrAt]at hu;subst hu;cases rb;rw[teq];exact⟨.bool_bool _ _,.bool_bool _ _,.bool_bool _ _⟩
   |int b=>rw[TrAt]at hu;subst hu;obtain⟨_,rfl⟩:=rb;rw[teq];exact⟨.bool_int _ _ _,.bool_int _ _ _,.bool_int _ _ _⟩
   |str b=>rw[TrAt]at hu;subst hu;obtain⟨_,rfl⟩:=rb;simp only[teq];exact⟨.bool_str _ _ _,.bool_str _ _ _,.bool_str _ _ _⟩
   |lst us=>rw[TrAt]at hu;obtain⟨p,ys,rfl,q,_⟩:=hu;cases rb;obtain⟨_,_,pl,_⟩:=I.list q;simp only[teq];exact⟨.bool_list _ pl.isList hA',.bool_list _ pl.isList hA',.bool_list _ pl.isList hA'⟩
   |tup us=>rw[TrAt]at hu;obtain⟨p,ys,rfl,q,_⟩:=hu;cases rb;obtain⟨_,_,pl,_⟩:=I.tuple q;simp only[teq];exact⟨.bool_tuple _ pl hA',.bool_tuple _ pl hA',.bool_tuple _ pl hA'⟩
  |int c=>
   rw[TrAt]at ht;subst ht;obtain⟨_,rfl⟩:=ra;cases u with
   |non=>rw[TrAt]at hu;subst hu;cases rb;simp only[teq];exact⟨.int_none _ _,.int_none _ _,.int_none _ _⟩
   |bl b=>rw[TrAt]at hu;subst hu;cases rb;rw[teq];exact⟨.int_bool _ _ _,.int_bool _ _ _,.int_bool _ _ _⟩
   |int b=>rw[TrAt]at hu;subst hu;obtain⟨_,rfl⟩:=rb;rw[teq];exact⟨.int_int _ _ _ _,.int_int _ _ _ _,.int_int _ _ _ _⟩
   |str b=>rw[TrAt]at hu;subst hu;obtain⟨_,rfl⟩:=rb;simp only[teq];exact⟨.int_str _ _ _ _,.int_str _ _ _ _,.int_str _ _ _ _⟩
   |lst us=>rw[TrAt]at hu;obtain⟨p,ys,rfl,q,_⟩:=hu;cases rb;obtain⟨_,_,pl,_⟩:=I.list q;simp only[teq];exact⟨.int_list _ _ pl.isList hA',.int_list _ _ pl.isList hA',.int_list _ _ pl.isList hA'⟩
   |tup us=>rw[TrAt]at hu;obtain⟨p,ys,rfl,q,_⟩:=hu;cases rb;obtain⟨_,_,pl,_⟩:=I.tuple q;simp only[teq];exact⟨.int_tuple _ _ pl hA',.int_tuple _ _ pl hA',.int_tuple _ _ pl hA'⟩
  |str c=>
   rw[TrAt]at ht;subst ht;obtain⟨_,rfl⟩:=ra;cases u with
   |non=>rw[TrAt]at hu;subst hu;cases rb;simp only[teq];exact⟨.str_none _ _,.str_none _ _,.str_none _ _⟩
   |bl b=>rw[TrAt]at hu;subst hu;cases rb;simp only[teq];exact⟨.str_bool _ _ _,.str_bool _ _ _,.str_bool _ _ _⟩
   |int b=>rw[TrAt]at hu;subst hu;obtain⟨_,rfl⟩:=rb;simp only[teq];exact⟨.str_int _ _ _ _,.str_int _ _ _ _,.str_int _ _ _ _⟩
   |str b=>rw[TrAt]at hu;subst hu;obtain⟨_,rfl⟩:=rb;rw[teq];exact⟨.str_str _ _ _ _,.str_str _ _ _ _,.str_str _ _ _ _⟩
   |lst us=>rw[TrAt]at hu;obtain⟨p,ys,rfl,q,_⟩:=hu;cases rb;obtain⟨_,_,pl,_⟩:=I.list q;simp only[teq];exact⟨.str_list _ _ pl.isList hA',.str_list _ _ pl.isList hA',.str_list _ _ pl.isList hA'⟩
   |tup us=>rw[TrAt]at hu;obtain⟨p,ys,rfl,q,_⟩:=hu;cases rb;obtain⟨_,_,pl,_⟩:=I.tuple q;simp only[teq];exact⟨.str_tuple _ _ pl hA',.str_tuple _ _ pl hA',.str_tuple _ _ pl hA'⟩
 |succ n ih=>
  intro t u v w a b A hd ht hu ra rb hA;have hA':A.units<cLine:=by omega
  have items:∀{ts us:List Tr} {xs ys:List V} {its its2:List Value},wj ts<=n->TrsAt X.K H ts xs->TrsAt X.K H us ys->Vals xs its->Vals ys its2 ->
    ∀j (h1:j<its.toArray.size) (h2:j<its2.toArray.size),EqAt A.in1 s its.toArray[j] its2.toArray[j] (eAt ts us j):=by
   intro ts us xs ys its its2 hdn h1 h2 r1 r2 j hj1 hj2;have l1:=h1.length;have l2:=h2.length;have m1:=r1.length;have m2:=r2.length;rw[List.size_toArray]at hj1 hj2;obtain⟨t,e⟩:∃t,ts[j]?=some t:=⟨_,List.getElem?_eq_getElem (by omega)⟩
   obtain⟨u,e'⟩:∃u,us[j]?=some u:=⟨_,List.getElem?_eq_getElem (by omega)⟩
   obtain⟨x,ex,hx⟩:=h1.get e;obtain⟨y,ey,hy⟩:=h2.get e';obtain⟨vx,fx,rx⟩:=r1.get ex;obtain⟨vy,fy,ry⟩:=r2.get ey;have g1:its.toArray[j]'(by simpa using hj1)=vx:=by
    have z:its[j]=vx:=Option.some.inj ((List.getElem?_eq_getElem hj1).symm.trans fx);simpa using z
   have g2:its2.toArray[j]'(by simpa using hj2)=vy:=by
    have z:its2[j]=vy:=Option.some.inj ((List.getElem?_eq_getElem hj2).symm.trans fy);simpa using z
   rw[g1,g2];have q:=(ih (A:=A.in1) (Nat.le_trans (Yo (List.mem_of_getElem? e)) hdn) hx hy rx ry (by rw[units_in1];omega)).eq;unfold eAt;rw[e,e'];exact q
  by_cases hz:qj t<=n
  ·exact ih hz ht hu ra rb (by omega)
  cases t with
  |lst ts=>
   rw[TrAt]at ht;obtain⟨p,xs,rfl,q,h1⟩:=ht;cases ra
   obtain⟨its,r1,pl,_⟩:=I.list q;cases u with
   |non=>rw[TrAt]at hu;subst hu;cases rb;simp only[teq];exact⟨.list_none pl.isList hA',.list_none pl.isList hA',.list_none pl.isList hA'⟩
   |bl b=>rw[TrAt]at hu;subst hu;cases rb;simp only[teq];exact⟨.list_bool _ pl.isList hA',.list_bool _ pl.isList hA',.list_bool _ pl.isList hA'⟩
   |int b=>rw[TrAt]at hu;subst hu;obtain⟨_,rfl⟩:=rb;simp only[teq];exact⟨.list_int _ _ pl.isList hA',.list_int _ _ pl.isList hA',.list_int _ _ pl.isList hA'⟩
   |str b=>rw[TrAt]at hu;subst hu;obtain⟨_,rfl⟩:=rb;simp only[teq];exact⟨.list_str _ _ pl.isList hA',.list_str _ _ pl.isList hA',.list_str _ _ pl.isList hA'⟩
   |tup us=>rw[TrAt]at hu;obtain⟨p',ys,rfl,q',_⟩:=hu;cases rb;obtain⟨_,_,pl',_⟩:=I.tuple q';simp only[teq];exact⟨.list_tuple pl.isList pl' hA',.list_tuple pl.isList pl' hA',.list_tuple pl.isList pl' hA'⟩
   |lst us=>
    have hu0:=hu;rw[TrAt]at hu;obtain⟨p',ys,rfl,q',h2⟩:=hu;cases rb
    obtain⟨its2,r2,pl',_⟩:=I.list q';have l1:=h1.length;have l2:=h2.length;have m1:=r1.length;have m2:=r2.length;have hdn:wj ts<=n:=by rw[qj]at hd;omega
    have both:RcAt A s (.ref p) (.ref p') (qQ ts us)/\RcNeAt A s (.ref p) (.ref p') (!qQ ts us):=by
     by_cases hsz:ts.length=us.length
     ·have hs:its.toArray.size=its2.toArray.size:=by rw[List.size_toArray,List.size_toArray];omega
      have it:=items hdn h1 h2 r1 r2;have e1:(List.range its.toArray.size).all (eAt ts us)=qQ ts us:=by
       rw[List.size_toArray,<-m1,<-l1];exact zak hsz
      have a1:=RcAt.lists pl.isList pl'.isList hs hA' it;have a2:=RcNeAt.lists pl.isList pl'.isList hs hA' it;rw[e1]at a1 a2;exact⟨a1,a2⟩
     ·have hs:(its.toArray.size != its2.toArray.size)=true:=by
       rw[List.size_toArray,List.size_toArray,bne_iff_ne];omega
      rw[jR hsz];exact⟨.lists_lengths pl.isList pl'.isList hs hA',.lists_lengths pl.isList pl'.isList hs hA'⟩
    rw[teq];refine⟨both.1,both.2,?_⟩;by_cases hpp:p=p'
    ·subst hpp;have e:Tr.lst ts=Tr.lst us:=V7 I (n+1) hd (show TrAt X.K H (.lst ts) (.ref p) by rw[TrAt];exact⟨p,xs,rfl,q,h1⟩) hu0;cases e
     rw[Zq];exact .same _
    ·exact .of_refs hpp both.1
  |tup ts=>
   rw[TrAt]at ht;obtain⟨p,xs,rfl,q,h1⟩:=ht;cases ra
   obtain⟨its,r1,pl,_⟩:=I.tuple q;cases u with
   |non=>rw[TrAt]at hu;subst hu;cases rb;simp only[teq];exact⟨.tuple_none pl hA',.tuple_none pl hA',.tuple_none pl hA'⟩
   |bl b=>rw[TrAt]at hu;subst hu;cases rb;simp only[teq];exact⟨.tuple_bool _ pl hA',.tuple_bool _ pl hA',.tuple_bool _ pl hA'⟩
   |int b=>rw[TrAt]at hu;subst hu;obtain⟨_,rfl⟩:=rb;simp only[teq];exact⟨.tuple_int _ _ pl hA',.tuple_int _ _ pl hA',.tuple_int _ _ pl hA'⟩
   |str b=>rw[TrAt]at hu;subst hu;obtain⟨_,rfl⟩:=rb;simp only[teq];exact⟨.tuple_str _ _ pl hA',.tuple_str _ _ pl hA',.tuple_str _ _ pl hA'⟩
   |lst us=>rw[TrAt]at hu;obtain⟨p',ys,rfl,q',_⟩:=hu;cases rb;obtain⟨_,_,pl',_⟩:=I.list q';simp only[teq];exact⟨.tuple_list pl pl'.isList hA',.tuple_list pl pl'.isList hA',.tuple_list pl pl'.isList hA'⟩
   |tup us=>
    have hu0:=hu;rw[TrAt]at hu;obtain⟨p',ys,rfl,q',h2⟩:=hu;cases rb
    obtain⟨its2,r2,pl',_⟩:=I.tuple q';have l1:=h1.length;have l2:=h2.length;have m1:=r1.length;have m2:=r2.length;have hdn:wj ts<=n:=by rw[qj]at hd;omega
    have e1:((List.range (min its.toArray.size its2.toArray.size)).all (eAt ts us) && its.toArray.size == its2.toArray.size)=qQ ts us:=by
     rw[List.size_toArray,List.size_toArray,<-m1,<-l1,<-m2,<-l2];by_cases hsz:ts.length=us.length
     ·rw[<-hsz,Nat.min_self,beq_self_eq_true,Bool.and_true];exact zak hsz
     ·rw[jR hsz,beq_eq_false_iff_ne.mpr hsz,Bool.and_false]
    have it:=items hdn h1 h2 r1 r2;have a1:=RcAt.tuples pl pl' hA' it;have a2:=RcNeAt.tuples pl pl' hA' it;rw[e1]at a1 a2;rw[teq];refine⟨a1,a2,?_⟩;by_cases hpp:p=p'
    ·subst hpp;have e:Tr.tup ts=Tr.tup us:=V7 I (n+1) hd (show TrAt X.K H (.tup ts) (.ref p) by rw[TrAt];exact⟨p,xs,rfl,q,h1⟩) hu0;cases e
     rw[Zq];exact .same _
    ·exact .of_refs hpp a1
  |non=>exact absurd (Nat.zero_le _) hz
  |bl b=>exact absurd (Nat.zero_le _) hz
  |int b=>exact absurd (Nat.zero_le _) hz
  |str b=>exact absurd (Nat.zero_le _) hz
end
section
variable {X:Cx}
def zfz(K:W.Frag)(neg:Bool):R2:=λx y H Q=>Ex2 λt u=>TrAt K H t x/\TrAt K H u y/\qj t<=8/\Q (.bl (if neg then !teq t u else teq t u)) H
theorem zgf(hu:X.A.units+64<cLine):OpR X (compareOp .Eq) (zfz X.K false):=by
 intro pins s Z H x y v u Q I rx ry h;obtain⟨t,t',h1,h2,hd,q⟩:=h;exact (VV I 8 hd h1 h2 rx ry (by omega)).rc _ _ _ _ ⟨.bl _,H,I,rfl,q⟩
theorem zgP(hu:X.A.units+64<cLine):OpR X (compareOp .NotEq) (zfz X.K true):=by
 intro pins s Z H x y v u Q I rx ry h;obtain⟨t,t',h1,h2,hd,q⟩:=h;exact (VV I 8 hd h1 h2 rx ry (by omega)).ne _ _ _ _ ⟨.bl _,H,I,rfl,q⟩
open Classical in
def zfj(K:W.Frag)(neg:Bool):R2:=λx y H Q=>Ex4 λp xs ts u=>y=.ref p/\SqL K H p xs/\TrsAt K H ts xs/\TrAt K H u x/\wj ts<=8/\Q (.bl (if neg then !(ts.any λt=>teq t u) else ts.any λt=>teq t u)) H
open Classical in
theorem zbP{pins:List (Addr×Obj)}{Z:St}{H:Hp}{s:Shared}(I:Inv X pins Z H s){u:Tr}:∀{ts:List Tr} {xs:List V} {its:List Value},wj ts<=8->TrsAt X.K H ts xs->Vals xs its ->
  its.any (λy=>decide (∃t x,RelV x y/\TrAt X.K H t x/\teq t u=true))=ts.any λt=>teq t u
 |[],xs,its,_,h,r=>by rw[TrsAt]at h;subst h;cases r;rfl
 |t::ts,xs,its,hd,h,r=>by
  rw[TrsAt]at h;obtain⟨y,ys,rfl,hy,h⟩:=h;cases r with
  |cons r1 r2=>
   rw[wj]at hd;rw[List.any_cons,List.any_cons,zbP I (by omega) h r2];congr 1;rw[Bool.eq_iff_iff,decide_eq_true_iff];constructor
   ·rintro⟨t',x',r',h',e⟩;rw[r1.inj r']at hy;rw[V7 I 8 (by omega) hy h'];exact e
   ·intro e;exact⟨t,y,r1,hy,e⟩
open Classical in
theorem JW{pins:List (Addr×Obj)}{Z:St}{H:Hp}{s:Shared}(I:Inv X pins Z H s)(hu:X.A.units+64<cLine){u:Tr}{x:V}{v:Value}(hx:TrAt X.K H u x)(rx:RelV x v){ts:List Tr}{xs:List V}{its:List Value}(hd:wj ts<=8)(h:TrsAt X.K H ts xs)(r:Vals xs its):
  ∀y,y∈its.toArray->SeqAt.EqAt X.A.in1 s y v (decide (∃t x,RelV x y/\TrAt X.K H t x/\teq t u=true)):=by
 intro y hy;have hy':y∈its:=by simpa using hy
 obtain⟨j,hj,e⟩:=List.getElem_of_mem hy';have l1:=h.length;have m1:=r.length;obtain⟨t,et⟩:∃t,ts[j]?=some t:=⟨_,List.getElem?_eq_getElem (by omega)⟩
 obtain⟨z,ez,hz⟩:=h.get et;obtain⟨w,ew,rw'⟩:=r.get ez;have e':y=w:=by
  rw[List.getElem?_eq_getElem hj]at ew;exact e.symm.trans (Option.some.inj ew)
 subst e';have hd':qj t<=8:=Nat.le_trans (Yo (List.mem_of_getElem? et)) hd;have q:=(VV I 8 (A:=X.A.in1) hd' hz hx rw' rx (by rw[units_in1];omega)).eq;have e2:decide (∃t x,RelV x y/\TrAt X.K H t x/\teq t u=true)=teq t u:=by
  rw[Bool.eq_iff_iff,decide_eq_true_iff];constructor
  ·rintro⟨t',x',r',h',e3⟩;rw[rw'.inj r']at hz;rw[V7 I 8 hd' hz h'];exact e3
  ·intro e3;exact⟨t,z,rw',hz,e3⟩
 rw[e2];exact q
open Classical in
theorem zgq(hu:X.A.units+64<cLine):OpR X (compareOp .In) (zfj X.K false):=by
 intro pins s Z H x y v u Q I rx ry h;obtain⟨p,xs,ts,t,rfl,hq,hts,ht,hd,q⟩:=h;cases ry
 obtain⟨its,r,pl,hz⟩:=I.list hq;refine SeqAt.in_listAt _ pl.isList (JW I hu ht rx hd hts r) ⟨.bl _,H,I,rfl,?_⟩;simp only[List.any_toArray];rw[zbP I hd hts r];exact q
open Classical in
theorem zc5(hu:X.A.units+64<cLine):OpR X (compareOp .NotIn) (zfj X.K true):=by
 intro pins s Z H x y v u Q I rx ry h;obtain⟨p,xs,ts,t,rfl,hq,hts,ht,hd,q⟩:=h;cases ry
 obtain⟨its,r,pl,hz⟩:=I.list hq;refine SeqAt.notIn_listAt _ pl.isList (JW I hu ht rx hd hts r) ⟨.bl _,H,I,rfl,?_⟩;simp only[List.any_toArray];rw[zbP I hd hts r];exact q
end
end L2
namespace L2
open PySem PySem.Spec PyProof.Rows
theorem Xj{K:W.Frag}(h1:W.kitMeta U=true)(h2:(fastBuiltinMro T).map (·.contains (Value.type U))=some b)(hb:T=U->b=true):W.kitOne K (.type T) (.type U)=some b:=by
 unfold W.kitOne;by_cases e:T=U
 ·subst e;rw[if_pos (by simp),hb rfl]
 ·rw[if_neg (by simpa using e)];show (if W.kitMeta U=true then W.subIn K (.type T) (.type U) else none)=some b;rw[if_pos h1];exact h2
section
variable {K:W.Frag}
theorem qL:W.kitOne K (.type "int") (.type "int")=some true:=Xj (by decide +kernel) (by decide +kernel) (λ_=>rfl)
theorem tL:W.kitOne K (.type "int") (.type "bool")=some false:=Xj (by decide +kernel) (by decide +kernel) (λe=>absurd e (by decide))
theorem YZ:W.kitOne K (.type "list") (.type "list")=some true:=Xj (by decide +kernel) (by decide +kernel) (λ_=>rfl)
theorem VD:W.kitOne K (.type "tuple") (.type "tuple")=some true:=Xj (by decide +kernel) (by decide +kernel) (λ_=>rfl)
end
section
variable {X:Cx}
def zhE(K:W.Frag):List V->Hp->VK->Prop:=λxs H Q=>Ex4 λx T t b=>xs=[x,.ty T]/\Wf K H x t/\W.kitOne K t (.type T)=some b/\Q (.bl b) H
theorem Yp:vg X (.builtin "isinstance") (zhE X.K):=by
 intro pins s Z H xs us Q I r h;obtain⟨x,T,t,b,rfl,ty,e,q⟩:=h;obtain⟨u,v,rfl,rx,rt⟩:=vals2 r;cases rt
 exact zdh I rx ty e λtk=>⟨.bl b,H,I.tok tk,rfl,q⟩
def zg6(i j:Int):Prop:=0<j/\j<2^200
theorem vJ:OpR X (binaryOp .FloorDiv) (rI zg6 λi j=>.int (i / j)):=opI λi j _ _ _ _ _ hc q=>by
 have h1:=hc.1;have h2:=hc.2;refine floordiv_int (by omega) (by rw[Int.fdiv_eq_ediv_of_nonneg i (by omega)];exact q) (.inl (PyProof.noPylong_of_log2 ?_));have h3:j.natAbs<2^200:=by omega
 have h4:=(Nat.log2_lt (by omega)).mpr h3;omega
theorem Vn{bs:List Bool}(r:Vals (bs.map V.bl) its):TruthOf P w A (λi v=>its.toArray[i]?=some v) (λi=>bs.getD i false):=by
 intro i v s Q E hP hQ;have hl:=r.length;rw[List.length_map]at hl;have e:its[i]?=some v:=by simpa using hP
 have hi:=(List.getElem?_eq_some_iff.mp e).1;have e2:(bs.map V.bl)[i]?=some (.bl (bs[i]'(by omega))):=by rw[List.getElem?_map,List.getElem?_eq_getElem (by omega)];rfl
 obtain⟨u,e3,r3⟩:=r.get e2;rw[e]at e3;cases e3
 cases r3;have e4:bs.getD i false=bs[i]:=by rw[List.getD_eq_getElem?_getD,List.getElem?_eq_getElem (by omega)];rfl
 exact wpAny_truthy_bool (e4▸hQ)
theorem zaU:∀bs:List Bool,(List.range bs.length).all (λi=>bs.getD i false)=bs.all id
 |[]=>rfl
 |b::bs=>by
  rw[List.length_cons,List.range_succ_eq_map,List.all_cons,List.all_map,List.all_cons,<-zaU bs];rfl
theorem zaQ:∀bs:List Bool,(List.range bs.length).any (λi=>bs.getD i false)=bs.any id
 |[]=>rfl
 |b::bs=>by
  rw[List.length_cons,List.range_succ_eq_map,List.any_cons,List.any_map,List.any_cons,<-zaQ bs];rfl
def zhb(K:W.Frag):List V->Hp->VK->Prop:=λxs H Q=>Ex2 λ(a:Addr) (bs:List Bool)=>xs=[.ref a]/\SqL K H a (bs.map V.bl)/\Q (.bl (bs.all id)) H
def zhg(K:W.Frag):List V->Hp->VK->Prop:=λxs H Q=>Ex2 λ(a:Addr) (bs:List Bool)=>xs=[.ref a]/\SqL K H a (bs.map V.bl)/\Q (.bl (bs.any id)) H
theorem zes(hc:X.calm=true):vg X (.builtin "all") (zhb X.K):=by
 intro pins s Z H xs us Q I r h;obtain⟨a,bs,rfl,hq,q⟩:=h;obtain⟨u,rfl,rx⟩:=vals1 r;cases rx
 obtain⟨its,rv,pl,hz⟩:=I.list hq;have hl:=rv.length;rw[List.length_map]at hl;obtain⟨o,n,eo,_⟩:=id pl;have hne:=Nat.ne_of_lt (Heap.lt_size eo);refine call_all_walk (wpAny_pyIter_list pl.isList ?_);refine⟨_,_,_,_,_,_,_,rfl,Walks.list (show X.A.in1.handled=none from I.ok.hd hc) s.heap.objs.size a hne its.toArray,⟨⟨_,Heap.get?_push_size _ rfl,rfl,rfl⟩,pl.isList.at λo e=>Heap.get?_push_of_some _ e⟩,Vn rv,λh' tk hk=>?_⟩;have I1:Inv X pins Z H { s with heap:=h',toks:=tk }:=I.kept λb o e=>hk b o (by have:=Heap.lt_size e;simp;exact Nat.ne_of_lt this) (Heap.get?_push_of_some _ e);refine⟨.bl _,H,I1,rfl,?_⟩;rw[List.size_toArray,<-hl,zaU];exact q
theorem zdR(hc:X.calm=true):vg X (.builtin "any") (zhg X.K):=by
 intro pins s Z H xs us Q I r h;obtain⟨a,bs,rfl,hq,q⟩:=h;obtain⟨u,rfl,rx⟩:=vals1 r;cases rx
 obtain⟨its,rv,pl,hz⟩:=I.list hq;have hl:=rv.length;rw[List.length_map]at hl;obtain⟨o,n,eo,_⟩:=id pl;have hne:=Nat.ne_of_lt (Heap.lt_size eo);refine call_any_walk (wpAny_pyIter_list pl.isList ?_);refine⟨_,_,_,_,_,_,_,rfl,Walks.list (show X.A.in1.handled=none from I.ok.hd hc) s.heap.objs.size a hne its.toArray,⟨⟨_,Heap.get?_push_size _ rfl,rfl,rfl⟩,pl.isList.at λo e=>Heap.get?_push_of_some _ e⟩,Vn rv,λh' tk hk=>?_⟩;have I1:Inv X pins Z H { s with heap:=h',toks:=tk }:=I.kept λb o e=>hk b o (by have:=Heap.lt_size e;simp;exact Nat.ne_of_lt this) (Heap.get?_push_of_some _ e);refine⟨.bl _,H,I1,rfl,?_⟩;rw[List.size_toArray,<-hl,zaQ];exact q
def zf4(K:W.Frag)(te:TE):TE:=λZ H Q=>te Z H λx H1=>Ex2 λa xs=>x=.ref a/\SqL K H1 a xs/\∀p,H1 p=none->Q (.ref p) (upd H1 p (.lst xs.reverse))
theorem Vy(he:PE X e te):PE X (.Subscript e (.Slice none none (some (.UnaryOp .USub (.Constant (.int 1) j p1) p2)) p3) pos) (zf4 X.K te):=by
 intro pins s Z H Q I h;refine Subscript_ (thn (he pins s Z H _ I h) λv s1 ⟨x,H1,I1,r1,q1⟩=>?_);obtain⟨a,xs,rfl,hx,q⟩:=q1;cases r1
 refine wpAny_Slice ?_;refine wpAny_pure (wpAny_pure ?_);refine thn (zcp zay (zm) pins s1 Z H1 (λv H2=>v=.int (-1)/\H2=H1) I1 ⟨1,rfl,rfl,rfl⟩) λu s2 ⟨y,H2,I2,r2,e1,e2⟩=>?_;subst e1 e2;obtain⟨t,rfl⟩:=r2;obtain⟨its,r,ht,hz⟩:=I2.list hx;have I3:Inv X pins Z H2 { s2 with heap:=s2.heap.push { cls:=.type "slice",data:=.fields #[.none,.none,.int (-1) t] } }:=I2.kept λb ob q=>Heap.get?_push_of_some _ q;obtain⟨its',r',ht',hz'⟩:=I3.list hx;have hlen':=r'.length;refine tail_any ht'.isList.typeIs slot_list_getitem.lookup ?_ (by with_unfolding_all rfl);refine wpAny_getItem_list_slice ht'.isList (Heap.IsSliceOf.new ..) .none .none (.int (-1) t) (by simp) ?_ (by rw[List.size_toArray]<;>omega);rw[W.krv_pick];refine⟨.ref _,_,I3.laid (λb ob q=>Heap.get?_push_of_some _ q) (Nat.le_refl _) ?_,rfl,q _ (I3.hok.fresh (Nat.le_refl _))⟩;exact⟨by rw[List.length_reverse];exact hz,_,0,r'.reverse,Heap.get?_push_size _ rfl⟩
theorem zd8:typeLookup (.type "list_reverseiterator") "__len__"= pure none:=by rw[typeLookup_type,builtinLookup_eq_fast];kernel_rfl
theorem zfd:typeLookup (.type "list_reverseiterator") "__length_hint__"= pure (some (.builtin "list_reverseiterator.__length_hint__")):=by kernel_rfl
section
variable {prog:Program} {w:World} {A:Around} {E:Value->Shared->Prop} {s:Shared}
theorem zbF(hh:A.handled=none)(hit:s.heap.IsRevIter I l ((items.size:Int)-1))(hL:s.heap.IsList l items)(S:Addr)(res:Value)(c₀:Nat)(hS:s.heap.get? S=some { cls:=.type "list",data:=.seq #[] c₀ })(hSl:S≠l)(hR:∀s' acc' c',Moved [S,I] (λa b=>b=a) s s'->s'.heap.get? S=some { cls:=.type "list",dict:=none,data:=.seq acc' c',slots:=#[] } ->
   ItemsOf (λi v=>items[items.size-1-i]?=some v) acc' items.size->R (.ok (.ret res)) s')(hn:items.size<=sizeLine):
  wpAny (model prog w) A.in1 (Builtin.List.listExtendWith (.ref S) (.ref I) res)
   (λfin s'=>match fin with | .done f=>R (.ok f) s' | .again c'=>c'.quiet=true/\codeAny (model prog w) A c' R s') (λe s'=>R (.error e) s') s:=by
 obtain⟨oi,hoi,hci,hdi⟩:=id hit;obtain⟨ol,hol,hcl,nl,hdl⟩:=id hL;have hSI:S≠I:=by
  rintro rfl;rw[hS]at hoi;cases hoi;exact absurd (show Value.type "list"= Value.type "list_reverseiterator" from hci) (by decide)
 have hne:l≠I:=by
  rintro rfl;rw[hol]at hoi;cases hoi;rw[hcl]at hci;exact absurd hci (by decide)
 have hSf:S∉[I,l]:=λhm=>by
  rcases List.mem_cons.mp hm with e | hm
  ·exact hSI e
  ·exact hSl (List.mem_singleton.mp hm)
 refine wpAny_bind (wpAny_typeOf hit.typeIs ?_);have h1:Builtin.List.listSameRef (.ref S) (.ref I)=false:=by simp[Builtin.List.listSameRef,hSI]
 have h2:(Value.type "list_reverseiterator"== Value.type "list")=false:=by decide
 have h3:(Value.type "list_reverseiterator"== Value.type "tuple")=false:=by decide
 simp only[h1,h2,h3,Bool.or_false,Bool.false_eq_true,if_false];refine wpAny_bind (wpAny_pyIter_revIter hit ?_);refine wpAny_bind (wpAny_holding ?_);refine wpAny_bind (wpAny_specialOf hit.typeIs zd8 ?_);refine wpAny_bind (wpAny_specialOf hit.typeIs zfd ?_);generalize hid:("list_reverseiterator.__length_hint__" )=id0
 wp_delta
 subst hid;refine wpAny_bind (wpAny_isInstance (b:=true) hit.typeIs (by kernel_rfl) ?_);refine wpAny_pure ?_;have W:=Walks.listRev (prog:=prog) (w:=w) (A:=A.in1) hh I l hne items;refine wpAny_pure ⟨plainId_quiet F.plain_extend_loop _,codeAny_extend_loopS W.toS hn _ hSf _ items.size 0 _ _ _ rfl (Nat.zero_le _) ⟨Nat.zero_le _,by simpa using hit,hL⟩ hS (ItemsOf.nil _) λs' acc' c' hm hS' hacc=>?_⟩;exact hR s' acc' c' hm hS' hacc
theorem zeK(hh:A.handled=none)(hit:s.heap.IsRevIter I l ((items.size:Int)-1))(hL:s.heap.IsList l items)(S:Addr)(hS:s.heap.get? S=some { cls:=.type "list",data:=.seq #[] })(hSl:S≠l)(hSI:S≠I)(hR:∀s' acc' c',s'.gens=s.gens->s'.os=s.os->(∀b o,b≠S->b≠I->s.heap.get? b=some o->s'.heap.get? b=some o)->s'.heap.get? S=some { cls:=.type "list",dict:=none,data:=.seq acc' c',slots:=#[] } ->
   ItemsOf (λi v=>items[items.size-1-i]?=some v) acc' items.size->R (.ok (.ret .none)) s')(hn:items.size<=sizeLine):
  wpAny (model prog w) A.in1 (Builtin.«list.__init__» ⟨[.ref S,.ref I],[]⟩)
   (λfin s'=>match fin with | .done f=>R (.ok f) s' | .again c'=>c'.quiet=true/\codeAny (model prog w) A c' R s') (λe s'=>R (.error e) s') s:=by
 refine wpAny_bind ?_;refine wpAny_bind (wpAny_seqItems hS rfl (wpAny_pure ?_));refine wpAny_bind (wpAny_updateSeq hS rfl ?_);have hS₂:=Heap.get?_update_self (Obj.mapSeq (λ_=>(#[]))) hS rfl;have oth:∀b o,b≠S->s.heap.get? b=some o->(s.heap.update S (Obj.mapSeq (λ_=>(#[])))).get? b=some o :=
  λb o hb e=>(Heap.get?_update_other _ _ (Ne.symm hb)).trans e
 refine wpAny_bind (wpAny_letGo ?_);refine zbF (hn:=hn) hh (hit.at λo e=>oth I o (Ne.symm hSI) e) (hL.at λo e=>oth l o (Ne.symm hSl) e) S .none _ hS₂ hSl λs' acc' c' hm hS' hacc=>?_;refine hR s' acc' c' hm.gens hm.os (λb o hb hi e=>hm.heap b o (λz=>?_) (oth b o hb e)) hS' hacc;rcases List.mem_cons.mp z with e' | z
 ·exact hb e'
 ·exact hi (List.mem_singleton.mp z)
theorem X6(hh:A.handled=none)(hit:s.heap.IsRevIter I l ((items.size:Int)-1))(hL:s.heap.IsList l items)(hQ:∀s' acc' c',s'.gens=s.gens->s'.os=s.os->(∀b o,b≠I->s.heap.get? b=some o->s'.heap.get? b=some o) ->
   s'.heap.get? s.heap.objs.size=some { cls:=.type "list",dict:=none,data:=.seq acc' c',slots:=#[] }->ItemsOf (λi v=>items[items.size-1-i]?=some v) acc' items.size->Q (.ref s.heap.objs.size) s')(hn:items.size<=sizeLine):
  wpAny (model prog w) A (call (.type "list") [.ref I]) Q E s:=by
 refine callType_codes (Q₁:=λobj s₁=>obj=.ref s.heap.objs.size/\s₁={ s with heap:=s.heap.push { cls:=.type "list",data:=.seq #[] } }) F.called_list (F.typeCall_list_1 _) F.entry_list_init
  (code_list_new _ ⟨rfl,rfl⟩) λobj s₁ h₁=>?_
 obtain⟨rfl,rfl⟩:=h₁;have hS:(s.heap.push { cls:=.type "list",data:=.seq #[] }).get? s.heap.objs.size=some { cls:=.type "list",data:=.seq #[] }:=Heap.get?_push_size _ rfl;obtain⟨oi,hoi,_⟩:=id hit;obtain⟨ol,hol,_⟩:=id hL;refine⟨⟨_,hS,rfl⟩,F.args_list_init_2 _ _,zeK (A:=A.in1) (hn:=hn) hh (hit.at λo e=>Heap.get?_push_of_some _ e) (hL.at λo e=>Heap.get?_push_of_some _ e) _ hS (Nat.ne_of_gt (Heap.lt_size hol)) (Nat.ne_of_gt (Heap.lt_size hoi)) λs' acc' c' hg ho hk hS' hacc=>?_⟩;exact⟨rfl,hQ s' acc' c' hg ho (λb o hI e=>hk b o (Nat.ne_of_lt (Heap.lt_size e)) hI (Heap.get?_push_of_some _ e)) hS' hacc⟩
end
theorem zdC{items acc:Array Value}(h:ItemsOf (λi v=>items[items.size-1-i]?=some v) acc items.size):acc=items.toList.reverse.toArray:=by
 apply Array.ext_getElem?;intro i;by_cases hi:i<items.size
 ·have e:acc[i]?=some (acc[i]'(by rw[h.1];exact hi)):=Array.getElem?_eq_getElem _;have q:=h.2 i _ e;rw[e,<-q];simp[List.getElem?_reverse,hi]
 ·rw[Array.getElem?_eq_none (by rw[h.1];omega),Array.getElem?_eq_none (by simp;omega)]
def zdP(K:W.Frag)(te:TE):TE:=λZ H Q=>te Z H λx H1=>Ex2 λl ys=>x=.ref l/\SqL K H1 l ys/\∀q,H1 q=none->Q (.ref q) (upd H1 q (.lst ys.reverse))
theorem zcl{p1 p2 pos1 pos2:Pos}(hc:X.calm=true)(hg1:Gl X "list")(hm1:X.mg "list"= none)(hg2:Gl X "reversed")(hm2:X.mg "reversed"= none)(he:PE X e te)(hs:starEach [e] X.env=[(false,eval e X.env)]:=by rfl)(hs2:starEach [.Call (.Name "reversed" p2) [e] [] pos2] X.env=[(false,eval (.Call (.Name "reversed" p2) [e] [] pos2) X.env)]:=by rfl):
  PE X (.Call (.Name "list" p1) [.Call (.Name "reversed" p2) [e] [] pos2] [] pos1) (zdP X.K te):=by
 intro pins s Z H Q I h;refine wpAny_Call_Name_kw (ZV I hg1 hm1 boot_list ?_);refine PyProof.Rows.callWith_type1 ?_ hs2 rfl;refine Calls.spliced_cons ?_;refine wpAny_Call_Name_kw (ZV I hg2 hm2 boot_reversed ?_);refine PyProof.Rows.callWith_type1 ?_ hs rfl;rw[hs];refine Calls.spliced_cons (thn (he pins s Z H _ I h) λv s1 ⟨x,H1,I1,r1,q1⟩=>Calls.spliced_nil ?_);obtain⟨l,ys,rfl,hq,q⟩:=q1;cases r1
 obtain⟨its,rv,pl,hz⟩:=I1.list hq;have hl:=rv.length;refine call_reversed_list pl.isList (Calls.spliced_nil ?_);have hsz:its.toArray.size=ys.length:=by rw[List.size_toArray,hl]
 refine X6 (I1.ok.hd hc) ⟨_,Heap.get?_push_size _ rfl,rfl,rfl⟩ (pl.isList.at λo e=>Heap.get?_push_of_some _ e) (λs' acc c hgn ho hk hS hacc=>?_) (by rw[List.size_toArray,<-hl];exact hz);have e1:(s1.heap.push (revObj l (its.toArray.size-1))).objs.size=s1.heap.objs.size+1:=Heap.size_push _ _;rw[show ({ s1 with heap:=s1.heap.push (revObj l ((its.toArray.size:Int)-1)) }:Shared).heap.objs.size=s1.heap.objs.size+1 from e1]at hS ⊢;have kept:∀b o,s1.heap.get? b=some o->s'.heap.get? b=some o:=λb o e=>hk b o (Nat.ne_of_lt (Heap.lt_size e)) (Heap.get?_push_of_some _ e);have hokL:=I1.laid (o:=.lst ys.reverse) (t':=s'.toks) kept (Nat.le_succ _) ⟨by rw[List.length_reverse];exact hz,its.reverse,c,rv.reverse,by rw[hS,zdC hacc]⟩;have I2:Inv X pins Z (upd H1 (s1.heap.objs.size+1) (.lst ys.reverse)) s':=by
  refine I1.call' (ch:=[]) (by rw[ho]) ?_ hokL.hok (by rw[hgn];exact I1.bare) λb z=>absurd z (by simp);exact Un.laid kept (Nat.le_succ _) (I1.hok.fresh (Nat.le_succ _))
 exact⟨.ref _,_,I2,rfl,q _ (I1.hok.fresh (Nat.le_succ _))⟩
end
section
variable {X:Cx} (K:W.Frag)
theorem Vv(e:X.K=K:=by rfl):vg X (.builtin "isinstance") (zhE K):=by subst e;exact Yp
theorem wy(e:X.K=K:=by rfl):vg X (.builtin "len") (λxs H Q=>∃p ys,xs=[.ref p]/\(SqL K H p ys\/SqT K H p ys)/\Q (.int ys.length) H):=by subst e;exact JR
theorem yJ(e:X.K=K:=by rfl):IxR X (zhk K):=by subst e;exact zff
theorem vO(e:X.K=K:=by rfl):IxR X (zhA K):=by subst e;exact zgL
theorem qD(e:X.K=K:=by rfl):SlR X (zeg K):=by subst e;exact zfh
theorem k_all(hc:X.calm=true)(e:X.K=K:=by rfl):vg X (.builtin "all") (zhb K):=by subst e;exact zes hc
theorem zdY(hc:X.calm=true)(e:X.K=K:=by rfl):vg X (.builtin "any") (zhg K):=by subst e;exact zdR hc
theorem zaN(e:X.K=K:=by rfl):vg X (.type "list") (λxs H Q=>∃p ys,xs=[.ref p]/\(SqL K H p ys\/SqT K H p ys)/\∀l,H l=none->Q (.ref l) (upd H l (.lst ys))):=by subst e;exact zao
theorem zbu(hu:X.A.units+64<cLine)(e:X.K=K:=by rfl):OpR X (compareOp .Eq) (zfz K false):=by subst e;exact zgf hu
theorem zeH(hu:X.A.units+64<cLine)(e:X.K=K:=by rfl):OpR X (compareOp .NotEq) (zfz K true):=by subst e;exact zgP hu
theorem zg9(hu:X.A.units+64<cLine)(e:X.K=K:=by rfl):OpR X (compareOp .In) (zfj K false):=by subst e;exact zgq hu
theorem zeJ(hu:X.A.units+64<cLine)(e:X.K=K:=by rfl):OpR X (compareOp .NotIn) (zfj K true):=by subst e;exact zc5 hu
theorem je(hl:PE X l tl)(e:X.K=K:=by rfl):PI X tg l (zf1 K tl):=by subst e;exact zfP hl
end
structure Df (K:W.Frag) (mg:Str->Option Value) (x:Str) (st:Stmt) (ps:List Str) (f:Addr) (fd:FuncData):Prop where
 fn:Fun K x x st f fd
 b:Binds K fd ps []
 g:mg x=some (.ref f)
theorem zE{st:Stmt}{p pos:Pos}(D:Df X.K X.mg x st ps f fd)(G:FnOk X.prog X.w X.K X.mg X.base CX0 k f fd ps sp)(hr:Room k X.A)(ha:PA X (e::es) t)(hg:Gl X x:=by rfl)(hdb:(x == ("__debug__" : Str))=false:=by decide)(he:starEach (e::es) X.env=(false,eval e X.env)::starEach es X.env:=by rfl)(hpl:(backTo pos (starEach es X.env)).any (·.1)=false:=by rfl):PE X (.Call (.Name x p) (e::es) [] pos) (zfY sp [] E0 t):=
 zfi G hr hg D.g D.fn.kp D.b .nil zdT ha hdb he hpl
theorem zhn{K:W.Frag}{st:Stmt}{kV doc pm cdv ct:Value}(X:K.In h)(G:h.Ns mainGlobals mg)(a:W.nsIn K mainGlobals x=some (some (.ref f)))(l:K.lookup f=some ⟨oc,od,.func (W.fnOf x x (qW st) (zq st) (zx st) .none kV doc pm an cdv ct),osl⟩)(c:W.codeIn K cdv x=true)(k:W.keepIn K (.ref f)=true)(hb:∀kV doc pm an cdv ct us,us.length=ps.length->bindArgs (W.fnOf x x (qW st) (zq st) (zx st) .none kV doc pm an cdv ct) ⟨us,[]⟩=pure (ps.zip us)):
  Df K mg x st ps f (W.fnOf x x (qW st) (zq st) (zx st) .none kV doc pm an cdv ct):=
 ⟨JZ l c k,(JZ l c k).binds hb,W.mg_of X G a⟩
structure Blt (mg:Str->Option Value):Prop where
 n_isinstance:mg "isinstance"= none
 n_int:mg "int"= none
 n_bool:mg "bool"= none
 n_list:mg "list"= none
 n_tuple:mg "tuple"= none
 n_reversed:mg "reversed"= none
 n_len:mg "len"= none
 n_max:mg "max"= none
 n_min:mg "min"= none
 n_range:mg "range"= none
 n_all:mg "all"= none
 n_any:mg "any"= none
 n_sorted:mg "sorted"= none
 n_enumerate:mg "enumerate"= none
 n_repr:mg "repr"= none
theorem zax(hr:Room k A):A.units+64<cLine:=hr.units
def aw(fp:List Addr)(H:Hp):Hp:=λb=>if b∈fp then none else H b
theorem Uc(h:b∈fp):aw fp H b=none:=by unfold aw;rw[if_pos h]
theorem xf(h:b∉fp):aw fp H b=H b:=by unfold aw;rw[if_neg h]
theorem xq(fp:List Addr)(H:Hp):Same (aw fp H) H:=λb o e=>by
 by_cases h:b∈fp
 ·rw[Uc h]at e;cases e
 ·rw[xf h]at e;exact e
theorem Same.aw(h:Same H H')(fp:List Addr):Same (aw fp H) (aw fp H'):=λb o e=>by
 by_cases hb:b∈fp
 ·rw[Uc hb]at e;cases e
 ·rw[xf hb]at e ⊢;exact h b o e
theorem zr(h:H p=none):Same H (upd H p o):=λb u e=>by rw[zB (zK e h)];exact e
end L2
namespace HT
open PySem PyProof.Rows
section
open PySem.SeqAt
open PySem.AutoSeq1 (wpAny_loadPart')
open PySem.MeetsSeq PySem.MeetsSeq2 PySem.MeetsSeq3 PySem.SeqRoads2
theorem zcA(h:IntsAre vs ns)(hi:i<ns.length):∃t,vs[i]?=some (.int (ns[i]) t):=by
 induction h generalizing i with
 |nil=>simp at hi
 |cons a t h ih=>
  cases i with
  |zero=>exact⟨t,rfl⟩
  |succ i=>
   obtain⟨t',e⟩:=ih (by simpa using hi);exact⟨t',by simpa using e⟩
theorem zfW(l b:Addr)(items items2:Array Value)(n n2:Nat)(dd dd2:Option Addr)(sl sl2:Array (Option Value))(ns ms:List Int)(hi:IntsAre items.toList ns)(hj:IntsAre items2.toList ms)(k:Nat):
  ∀i:Nat,ns.length-i=k->i<=ns.length->i<=ms.length->Meets (Builtin.«list.__eq__.loop» ⟨[.ref l,.ref b,rawInt i,rawInt 0],[]⟩)
   (λ_ R s=>s.heap.get? l=some { cls:=.type "list",dict:=dd,data:=.seq items n,slots:=sl }/\s.heap.get? b=some { cls:=.type "list",dict:=dd2,data:=.seq items2 n2,slots:=sl2 } /\
    R (.ok (.ret (.bool (lexLt (ns.drop i) (ms.drop i))))) s):=by
 have z1:items.size=ns.length:=by rw[<-hi.length];simp
 have z2:items2.size=ms.length:=by rw[<-hj.length];simp
 induction k with
 |zero=>
  intro i hk h1 h2 prog w A R s h;obtain⟨hp,g,d,tk,os⟩:=s;obtain⟨hl,hb,h⟩:=h;have hin:i=ns.length:=by omega
  wp_walk using wpAny_loadPart' hl,wpAny_loadPart' hb
  have hi1:items[((i:Nat):Int).toNat]?=none:=by simp;omega
  have hd:ns.drop i=[]:=by simp;omega
  rw[hd]at h;rw[hi1]
  wp_walk using wpAny_loadPart' hl,wpAny_loadPart' hb
  show R (.ok (.ret (.bool (decide (items.size<items2.size))))) _;have e:lexLt [] (ms.drop i)=decide (items.size<items2.size):=by
   cases q:ms.drop i with
   |nil=>
    rw[Y6];have:ms.length<=i:=by simpa using List.drop_eq_nil_iff.mp q
    exact (decide_eq_false (by omega)).symm
   |cons x y=>
    rw[Qp];have:i<ms.length:=by
     by_cases z:i<ms.length
     ·exact z
     ·rw[List.drop_of_length_le (by omega)]at q;cases q
    exact (decide_eq_true (by omega)).symm
  rw[<-e];exact h
 |succ k ih=>
  intro i hk h1 h2 prog w A R s h;obtain⟨hp,g,d,tk,os⟩:=s;obtain⟨hl,hb,h⟩:=h;have hlt:i<ns.length:=by omega
  obtain⟨t,et⟩:=zcA hi hlt;have hi1:items[((i:Nat):Int).toNat]?=some (.int (ns[i]) t):=by simpa using et
  by_cases hm:i<ms.length
  ·obtain⟨u,eu⟩:=zcA hj hm;have hi2:items2[((i:Nat):Int).toNat]?=some (.int (ms[i]) u):=by simpa using eu
   wp_walk using wpAny_loadPart' hl,wpAny_loadPart' hb
   rw[List.drop_eq_getElem_cons hlt,List.drop_eq_getElem_cons hm,qg]at h;have hc:((i:Int)+1)=((i+1:Nat):Int):=by push_cast;rfl
   rw[hi1,hi2];obtain⟨e,he,hiff⟩:=ze1 A.in1 ⟨hp,g,d,tk,os⟩ (ns[i]) t (ms[i]) u;refine wpAny_bind (he prog w _ _ ?_);cases e with
   |true=>
    rw[if_pos (hiff.mp rfl)]at h
    wp_walk
    rw[hc];exact⟨plainId_quiet plain_eq_loop _,codeAny_builtin entry_eq_loop (by
     rw[Around.under_plainId plain_eq_loop _];exact ih (i+1) (by omega) (by omega) (by omega) prog w A R _ ⟨hl,hb,h⟩)⟩
   |false=>
    rw[if_neg (λq=>absurd (hiff.mpr q) Bool.false_ne_true)]at h;have hri:=zbg A.in1 ⟨hp,g,d,tk,os⟩ (ns[i]) t (ms[i]) u prog w
    wp_walk using wpAny_loadPart' hl,wpAny_loadPart' hb
    rw[hi1,hi2]
    wp_walk using hri
    simpa using h
  ·have hi2:items2[((i:Nat):Int).toNat]?=none:=by simp;omega
   wp_walk using wpAny_loadPart' hl,wpAny_loadPart' hb
   rw[List.drop_eq_getElem_cons hlt,List.drop_of_length_le (show ms.length<=i by omega),uX]at h;rw[hi1,hi2]
   wp_walk using wpAny_loadPart' hl,wpAny_loadPart' hb
   show R (.ok (.ret (.bool (decide (items.size<items2.size))))) _;rw[decide_eq_false (by omega)];exact h
theorem zat(l b:Addr)(items items2:Array Value)(n n2:Nat)(dd dd2:Option Addr)(sl sl2:Array (Option Value))(ns ms:List Int)(hi:IntsAre items.toList ns)(hj:IntsAre items2.toList ms):
  Meets (Builtin.«list.__lt__» ⟨[.ref l,.ref b],[]⟩)
   (λ_ R s=>s.heap.get? l=some { cls:=.type "list",dict:=dd,data:=.seq items n,slots:=sl }/\s.heap.get? b=some { cls:=.type "list",dict:=dd2,data:=.seq items2 n2,slots:=sl2 } /\
    R (.ok (.ret (.bool (lexLt ns ms)))) s):=by
 intro prog w A R s h;obtain⟨hp,g,d,tk,os⟩:=s;obtain⟨hl,hb,h⟩:=h;have f3:=AutoSeq1.sub_list_list
 wp_walk using wpAny_loadPart' hl,wpAny_loadPart' hb
 exact⟨plainId_quiet plain_eq_loop _,codeAny_builtin entry_eq_loop (by
  exact zfW l b items items2 n n2 dd dd2 sl sl2 ns ms hi hj _ 0 rfl (Nat.zero_le _) (Nat.zero_le _) prog w A R _ ⟨hl,hb,by simpa using h⟩)⟩
end
section
variable {prog:Program} {w:World} {A:Around} {E:Value->Shared->Prop} {s:Shared}
theorem Vr(hl:s.heap.IsList l items)(hb:s.heap.IsList b items2)(hi:IntsAre items.toList ns)(hj:IntsAre items2.toList ms)(hu:A.units<cLine)(h:Q (.bool (lexLt ns ms)) s):wpAny (model prog w) A (richCompare .Lt (.ref l) (.ref b)) Q E s:=by
 obtain⟨⟨cls,dd,data,sl⟩,ho,hc,n,hd⟩:=id hl;obtain⟨⟨cls2,dd2,data2,sl2⟩,ho2,hc2,n2,hd2⟩:=id hb;subst hc hd hc2 hd2;exact richCompare_meets_room ⟨_,ho,rfl⟩ ⟨_,ho2,rfl⟩ PySem.F.slot_list_lt PySem.F.entry_list_lt (PySem.F.args_list_lt_2 _ _) (zat l b items items2 n n2 dd dd2 sl sl2 ns ms hi hj)
  ⟨ho,ho2,show Value.bool (lexLt ns ms)≠Value.notImplemented/\Q (.bool (lexLt ns ms)) s from ⟨(λx=>nomatch x),h⟩⟩ hu
end
open PySem PyProof.Rows PySem.W
def kin{α:Type}(n:Nat):KasT α->Bool
 |.ret _=>true
 |.ask i j k=>decide (i<n) && decide (j<n) && kin n (k true) && kin n (k false)
def tab(b:Nat->Nat->Bool)(i j:Nat):Bool:=if i<j then b i j else if j<i then !b j i else false
theorem jk:∀a:List Int,lexLt a a=false
 |[]=>rfl
 |x::a=>by rw[qg,if_pos rfl,jk a]
theorem XH:∀a b:List Int,a≠b->lexLt b a=!lexLt a b
 |[],[],h=>absurd rfl h
 |[],_::_,_=>rfl
 |_::_,[],_=>rfl
 |x::a,y::b,h=>by
  rw[qg,qg];by_cases e:x=y
  ·subst e;rw[if_pos rfl,if_pos rfl];exact XH a b λz=>h (by rw[z])
  ·rw[if_neg e,if_neg (Ne.symm e),Bool.eq_iff_iff];simp;omega
theorem jN:∀a b c:List Int,lexLt a b=true->lexLt b c=true->lexLt a c=true
 |[],[],_,h,_=>by rw[Y6]at h;cases h
 |[],_::_,[],_,h=>by rw[uX]at h;cases h
 |[],_::_,_::_,_,_=>rfl
 |_::_,[],_,h,_=>by rw[uX]at h;cases h
 |_::_,_::_,[],_,h=>by rw[uX]at h;cases h
 |x::a,y::b,z::c,h1,h2=>by
  rw[qg]at h1 h2 ⊢;by_cases e1:x=y
  ·subst e1;rw[if_pos rfl]at h1;by_cases e2:x=z
   ·subst e2;rw[if_pos rfl]at h2 ⊢;exact jN a b c h1 h2
   ·rw[if_neg e2]at h2 ⊢;exact h2
  ·rw[if_neg e1]at h1;have h1':=of_decide_eq_true h1;by_cases e2:y=z
   ·subst e2;rw[if_neg e1];exact h1
   ·rw[if_neg e2]at h2;have h2':=of_decide_eq_true h2;rw[if_neg (show x≠z by omega)];exact decide_eq_true (by omega)
end HT
namespace L2
open PySem PySem.Spec PyProof.Rows
section
variable {X:Cx}
def zhY(K:W.Frag):R2:=λx y H Q=>Ex4 λa b ns ms=>x=.ref a/\y=.ref b/\SqL K H a (ns.map V.int)/\SqL K H b (ms.map V.int)/\Q (.bl (HT.lexLt ns ms)) H
theorem zhr(K:W.Frag)(hu:X.A.units+64<cLine)(e:X.K=K:=by rfl):OpR X (compareOp .Lt) (zhY K):=by
 subst e;intro pins s Z H x y v u Q I rx ry h;obtain⟨a,b,ns,ms,rfl,rfl,ha,hb,q⟩:=h;cases rx
 cases ry;obtain⟨its,r1,p1,_⟩:=I.list ha
 obtain⟨its2,r2,p2,_⟩:=I.list hb;exact HT.Vr p1.isList p2.isList (intsAre_of r1) (intsAre_of r2) (by omega) ⟨.bl (HT.lexLt ns ms),H,I,rfl,q⟩
end
end L2
namespace HT
open PySem PyProof.Rows PySem.W
def KW{α:Type}(c:Nat->Nat->Bool)(n:Nat):KasT α->(α->Prop)->Prop
 |.ret a,Q=>Q a
 |.ask i j k,Q=>i<n/\j<n/\KW c n (k (c i j)) Q
theorem KW.bind{α β:Type}{c:Nat->Nat->Bool}{n:Nat}{f:α->KasT β}{Q:β->Prop}:∀{t:KasT α},KW c n t (λa=>KW c n (f a) Q)->KW c n (t.bind f) Q
 |.ret _,h=>h
 |.ask _ _ k,h=>⟨h.1,h.2.1,KW.bind (t:=k _) h.2.2⟩
theorem KW.mono{α:Type}{c:Nat->Nat->Bool}{n:Nat}{Q Q':α->Prop}(hq:∀a,Q a->Q' a):∀{t:KasT α},KW c n t Q->KW c n t Q'
 |.ret a,h=>hq a h
 |.ask _ _ k,h=>⟨h.1,h.2.1,KW.mono hq (t:=k _) h.2.2⟩
theorem KW.wp{α:Type}{n:Nat}{c:Nat->Nat->Bool}{cmp:Nat->Nat->(Bool->Shared->Prop)->Shared->Prop}{s:Shared}{Q:α->Prop}(hc:∀i j C,i<n->j<n->C (c i j) s->cmp i j C s):
  ∀t:KasT α,KW c n t Q->t.kasWp cmp (λa s'=>s'=s/\Q a) s
 |.ret _,h=>⟨rfl,h⟩
 |.ask i j k,h=>hc i j _ h.1 h.2.1 (KW.wp hc (k (c i j)) h.2.2)
structure Ord (c:Nat->Nat->Bool) (n:Nat):Prop where
 tr:∀i j k,i<n->j<n->k<n->c i j=true->c j k=true->c i k=true
 tot:∀i j,i<n->j<n->i≠j->c i j=false->c j i=true
 asy:∀i j,i<n->j<n->c i j=true->c j i=false
structure Pm (n:Nat) (p:Array Nat):Prop where
 sz:p.size=n
 pm:p.toList.Perm (List.range n)
theorem Pm.lt(h:Pm n p)(i:Nat)(hi:i<n):p.getD i 0<n:=by
 have hs:=h.sz;have e:p.getD i 0=p[i]:=by simp[Array.getD,hs,hi]
 rw[e];exact List.mem_range.mp (h.pm.mem_iff.mp (by simp))
theorem Pm.ne(h:Pm n p)(hi:i<n)(hj:j<n)(hij:i≠j):p.getD i 0≠p.getD j 0:=by
 have hs:=h.sz;have e1:p.getD i 0=p.toList[i]'(by simp[hs,hi]):=by simp[Array.getD,hs,hi]
 have e2:p.getD j 0=p.toList[j]'(by simp[hs,hj]):=by simp[Array.getD,hs,hj]
 rw[e1,e2];have nd:=h.pm.nodup_iff.mpr List.nodup_range;intro z;exact hij ((List.getElem_inj nd).mp z)
theorem Pm.of(h:Pm n p)(z:q.Perm p):Pm n q:=⟨by rw[z.size_eq];exact h.sz,(Array.perm_iff_toList_perm.mp z).trans h.pm⟩
def Up(c:Nat->Nat->Bool)(p:Array Nat)(m:Nat):Prop:=∀i j,i<j->j<m->c (p.getD i 0) (p.getD j 0)=true
def Dn(c:Nat->Nat->Bool)(p:Array Nat)(m:Nat):Prop:=∀i j,i<j->j<m->c (p.getD j 0) (p.getD i 0)=true
section
variable {c:Nat->Nat->Bool} {n:Nat}
theorem zbJ(O:Ord c n){p:Array Nat}(hp:Pm n p):∀(f m:Nat),1<=m->m+f<=n->Up c p m->KW c n (kas_asc p f m) (λr=>m<=r/\r<=m+f/\Up c p r/\(r<m+f->c (p.getD r 0) (p.getD (r-1) 0)=true))
 |0,m,_,_,u=>⟨Nat.le_refl _,Nat.le_refl _,u,λz=>absurd z (Nat.lt_irrefl _)⟩
 |f+1,m,h1,h2,u=>by
  refine⟨hp.lt m (by omega),hp.lt (m-1) (by omega),?_⟩;cases e:c (p.getD m 0) (p.getD (m-1) 0) with
  |true=>exact⟨Nat.le_refl _,by omega,u,λ_=>e⟩
  |false=>
   have hs:c (p.getD (m-1) 0) (p.getD m 0)=true:=O.tot _ _ (hp.lt m (by omega)) (hp.lt (m-1) (by omega)) (hp.ne (by omega) (by omega) (by omega)) e;have u':Up c p (m+1):=λi j hij hj=>by
    by_cases hjm:j<m
    ·exact u i j hij hjm
    ·have ej:j=m:=by omega
     subst ej;by_cases hi:i=j-1
     ·rw[hi];exact hs
     ·exact O.tr _ _ _ (hp.lt i (by omega)) (hp.lt (j-1) (by omega)) (hp.lt j (by omega)) (u i (j-1) (by omega) (by omega)) hs
   refine KW.mono (λr h=>?_) (zbJ O hp f (m+1) (by omega) (by omega) u');exact⟨by omega,by omega,h.2.2.1,λz=>h.2.2.2 (by omega)⟩
theorem zcv(O:Ord c n){p:Array Nat}(hp:Pm n p):∀(f m:Nat),1<=m->m+f<=n->Dn c p m->KW c n (kas_desc f p m 0) (λr=>r.1=p/\r.2.2=0/\m<=r.2.1/\r.2.1<=m+f/\Dn c p r.2.1)
 |0,m,_,_,u=>⟨rfl,rfl,Nat.le_refl _,Nat.le_refl _,u⟩
 |f+1,m,h1,h2,u=>by
  refine⟨hp.lt m (by omega),hp.lt (m-1) (by omega),?_⟩;cases e:c (p.getD m 0) (p.getD (m-1) 0) with
  |true=>
   have u':Dn c p (m+1):=λi j hij hj=>by
    by_cases hjm:j<m
    ·exact u i j hij hjm
    ·have ej:j=m:=by omega
     subst ej;by_cases hi:i=j-1
     ·rw[hi];exact e
     ·exact O.tr _ _ _ (hp.lt j (by omega)) (hp.lt (j-1) (by omega)) (hp.lt i (by omega)) e (u i (j-1) (by omega) (by omega))
   refine KW.mono (λr h=>?_) (zcv O hp f (m+1) (by omega) (by omega) u');exact⟨h.1,h.2.1,by omega,by omega,h.2.2.2.2⟩
  |false=>
   have hs:=O.tot _ _ (hp.lt m (by omega)) (hp.lt (m-1) (by omega)) (hp.ne (by omega) (by omega) (by omega)) e;refine⟨hp.lt (m-1) (by omega),hp.lt m (by omega),?_⟩;rw[hs];exact⟨rfl,rfl,Nat.le_refl _,(show m<=m+(f+1) by omega),u⟩
theorem rev_getD(hm:m<=p.size)(k:Nat):(kas_rev p 0 m).getD k 0=if k<m then p.getD (m-1-k) 0 else p.getD k 0:=by
 have q:=getElem?_mirror_all (i:=0) hm k;have e:∀(a:Array Nat) j,a.getD j 0=(a[j]?).getD 0:=λa j=>by simp[Array.getD_eq_getD_getElem?]
 unfold kas_rev;rw[e,q];by_cases h:k<m
 ·rw[if_pos ⟨Nat.zero_le _,h⟩,if_pos h,e,Nat.zero_add]
 ·rw[if_neg (by omega),if_neg h,e]
theorem zef(O:Ord c n)(hp:Pm n p)(h1:1<=m)(h2:m<=n)(u:Dn c p m):KW c n (kas_tail3 m n p) (λr=>1<=r.1/\r.1<=n/\Pm n r.2/\Up c r.2 r.1):=by
 have hr:Pm n (kas_rev p 0 m):=hp.of (mirror_perm _ _ _ _);have hsz:m<=p.size:=by rw[hp.sz];exact h2
 have u':Up c (kas_rev p 0 m) m:=λi j hij hj=>by
  rw[rev_getD hsz,rev_getD hsz,if_pos (by omega),if_pos hj];exact u _ _ (by omega) (by omega)
 refine KW.bind (KW.mono (λr h=>?_) (zbJ O hr (n-m) m h1 (by omega) u'));exact⟨by omega,by omega,hr,h.2.2.1⟩
theorem zd4(O:Ord c n)(hp:Pm n p)(h2:2<=n):KW c n (kas_count n p) (λr=>1<=r.1/\r.1<=n/\Pm n r.2/\Up c r.2 r.1):=by
 refine KW.bind (KW.mono (λr h=>?_) (zbJ O hp (n-1) 1 (Nat.le_refl _) (by omega) (λi j hij hj=>by omega)));obtain⟨h1,h3,u,st⟩:=h;by_cases e:r=n
 ·subst e;rw[if_pos (by simp)];exact⟨h1,Nat.le_refl _,hp,u⟩
 ·rw[if_neg (by simpa using e)];by_cases hr:r>1
  ·rw[if_pos hr];refine⟨hp.lt 0 (by omega),hp.lt (r-1) (by omega),?_⟩;rw[u 0 (r-1) (by omega) (by omega)];exact⟨h1,by omega,hp,u⟩
  ·rw[if_neg hr];have er:r=1:=by omega
   subst er;have s1:=st (by omega);have d:Dn c p 2:=λi j hij hj=>by
    have ei:i=0:=by omega
    have ej:j=1:=by omega
    subst ei;subst ej;exact s1
   refine KW.bind (KW.mono (λr h=>?_) (zcv O hp (n-2) 2 (by omega) (by omega) d));obtain⟨a1,a2,a3,a4,a5⟩:=h;obtain⟨q,m,z⟩:=r;simp only at a1 a2 a3 a4 a5;subst a1;subst a2;exact zef O hp (show 1<=m by omega) (show m<=n by omega) a5
theorem Uo(O:Ord c n){p:Array Nat}(hp:Pm n p){k:Nat}(hk:k<n)(u:Up c p k):∀(f l r:Nat),l<=r->r<=k->r-l<=f->(∀i,i<l->c (p.getD i 0) (p.getD k 0)=true)->(∀i,r<=i->i<k->c (p.getD k 0) (p.getD i 0)=true) ->
  KW c n (kas_place p k f l r) (λl=>l<=k/\(∀i,i<l->c (p.getD i 0) (p.getD k 0)=true)/\(∀i,l<=i->i<k->c (p.getD k 0) (p.getD i 0)=true))
 |0,l,r,h1,h2,h3,lo,hi=>⟨by omega,lo,λi a b=>hi i (by omega) b⟩
 |f+1,l,r,h1,h2,h3,lo,hi=>by
  unfold kas_place;by_cases hlr:l>=r
  ·rw[if_pos hlr];exact⟨by omega,lo,λi a b=>hi i (by omega) b⟩
  ·rw[if_neg hlr];have hm:(l+r) / 2<k:=by omega
   refine⟨hp.lt k hk,hp.lt _ (by omega),?_⟩;cases e:c (p.getD k 0) (p.getD ((l+r) / 2) 0) with
   |true=>
    refine Uo O hp hk u f l ((l+r) / 2) (by omega) (by omega) (by omega) lo λi a b=>?_;by_cases ei:i=(l+r) / 2
    ·rw[ei];exact e
    ·exact O.tr _ _ _ (hp.lt k hk) (hp.lt _ (by omega)) (hp.lt i (by omega)) e (u _ _ (by omega) b)
   |false=>
    dsimp only;have hs:=O.tot _ _ (hp.lt k hk) (hp.lt _ (by omega)) (hp.ne hk (by omega) (by omega)) e;refine Uo O hp hk u f ((l+r) / 2+1) r (by omega) h2 (by omega) (λi a=>?_) hi;by_cases ei:i=(l+r) / 2
    ·rw[ei];exact hs
    ·exact O.tr _ _ _ (hp.lt i (by omega)) (hp.lt _ (by omega)) (hp.lt k hk) (u _ _ (by omega) (by omega)) hs
theorem zbq(hk:k<p.size)(hl:l<=k)(i:Nat):(bubble p k (k-l)).getD i 0=if i=l then p.getD k 0 else if l<i/\i<=k then p.getD (i-1) 0 else p.getD i 0:=by
 have q:=getElem?_bubble hk (k-l) (by omega) i;have e:∀(a:Array Nat) j,a.getD j 0=(a[j]?).getD 0:=λa j=>by simp[Array.getD_eq_getD_getElem?]
 rw[show k-(k-l)=l by omega]at q;rw[e,e p k,e p (i-1),e p i,q];split
 ·rfl
 ·split
  ·rfl
  ·rfl
theorem zeE(O:Ord c n):∀(f:Nat) {p:Array Nat} {k:Nat},Pm n p->1<=k->k+f=n->Up c p k->KW c n (kas_bin f p k) (λq=>Pm n q/\Up c q n)
 |0,p,k,hp,h1,h2,u=>by
  have:k=n:=by omega
  subst this;exact⟨hp,u⟩
 |f+1,p,k,hp,h1,h2,u=>by
  refine KW.bind (KW.mono (λl h=>?_) (Uo O hp (show k<n by omega) u k 0 k (Nat.zero_le _) (Nat.le_refl _) (by omega) (λi hi=>by omega) (λi a b=>by omega)));obtain⟨hlk,lo,hi⟩:=h;have hks:k<p.size:=by rw[hp.sz];omega
  refine zeE O f (hp.of (bubble_perm _ _ _)) (by omega) (by omega) λi j hij hj=>?_;rw[zbq hks hlk,zbq hks hlk];by_cases hi1:i=l
  ·rw[if_pos hi1,if_neg (by omega),if_pos (by omega)];exact hi _ (by omega) (by omega)
  ·rw[if_neg hi1];by_cases hi2:l<i/\i<=k
   ·rw[if_pos hi2,if_neg (by omega),if_pos (by omega)];exact u _ _ (by omega) (by omega)
   ·rw[if_neg hi2];by_cases hj1:j=l
    ·rw[if_pos hj1];exact lo _ (by omega)
    ·rw[if_neg hj1];by_cases hj2:l<j/\j<=k
     ·rw[if_pos hj2];exact u _ _ (by omega) (by omega)
     ·rw[if_neg hj2];exact u _ _ (by omega) (by omega)
theorem zf0(O:Ord c n)(h2:2<=n):KW c n (kas_sort n) (λp=>Pm n p/\Up c p n):=by
 have h0:Pm n (List.toArray (List.range n)):=⟨by simp,by simp⟩
 refine KW.bind (KW.mono (λr h=>?_) (zd4 O h0 h2));obtain⟨h1,h3,hp,u⟩:=h;by_cases hr:r.1<n
 ·rw[if_pos hr,Nat.max_eq_left h1];exact zeE O _ hp h1 (by omega) u
 ·rw[if_neg hr];have:r.1=n:=by omega
  rw[this]at u;exact⟨hp,u⟩
end
section
variable {prog:Program} {w:World} {A:Around} {E:Value->Shared->Prop} {s:Shared}
theorem Je{α:Type}(d:α)(zs:List α){p:List Nat}(h:p.Perm (List.range zs.length)):(p.map λi=>zs.getD i d).Perm zs:=by
 have e:(List.range zs.length).map (λi=>zs.getD i d)=zs:=by
  apply List.ext_getElem?;intro i;rw[List.getElem?_map];by_cases hi:i<zs.length
  ·rw[List.getElem?_range hi,Option.map_some,List.getD_eq_getElem?_getD,List.getElem?_eq_getElem hi];rfl
  ·rw[List.getElem?_eq_none (by simpa using hi),List.getElem?_eq_none (by omega)];rfl
 have q:=h.map λi=>zs.getD i d;rw[e]at q;exact q
end
end HT
namespace L2
open PySem PySem.Spec PyProof.Rows
section
variable {X:Cx}
theorem Jl:∀{zs:ZB} {its:List Value},Vals (zs.map λz=>V.ref z.1) its->its=zs.map λz=>Value.ref z.1
 |[],its,h=>by cases h;rfl
 |z::zs,its,h=>by
  cases h with
  |cons r t=>rw[Jl t];cases r;rfl
theorem Vj:∀(zs:ZB),Vals (zs.map λz=>V.ref z.1) (zs.map λz=>Value.ref z.1)
 |[]=>.nil
 |z::zs=>.cons rfl (Vj zs)
end
section
variable {κ:Type} [DecidableEq κ]
def vL(kvs:List (κ×V))(k:κ):Option V:=(kvs.find? λkv=>decide (kv.1=k)).map (·.2)
def putK(kvs:List (κ×V))(k:κ)(v:V):List (κ×V):=
 if (kvs.any λkv=>decide (kv.1=k))=true then kvs.map (λkv=>if kv.1=k then (kv.1,v) else kv) else kvs++[(k,v)]
theorem vh{k:κ}(e:p.1=k):vL (p::r) k=some p.2:=by simp[vL,List.find?_cons,e]
theorem vp{k:κ}(e:¬ p.1=k):vL (p::r) k=vL r k:=by simp[vL,List.find?_cons,e]
theorem qJ(k:κ):∀kvs:List (κ×V),(kvs.any λkv=>decide (kv.1=k))=(vL kvs k).isSome
 |[]=>rfl
 |p::r=>by
  rw[List.any_cons];by_cases e:p.1=k
  ·simp only[vh e,decide_eq_true e,Bool.true_or,Option.isSome_some]
  ·rw[vp e,decide_eq_false e,Bool.false_or];exact qJ k r
theorem za5(k j:κ)(y:V):∀kvs:List (κ×V),vL (kvs.map λkv=>if kv.1=k then (kv.1,y) else kv) j=(vL kvs j).map λx=>if j=k then y else x
 |[]=>rfl
 |p::r=>by
  have ih:=za5 k j y r;rw[List.map_cons];by_cases h:p.1=k
  ·rw[if_pos h];by_cases e:p.1=j
   ·rw[vh (p:=(p.1,y)) e,vh e,Option.map_some,if_pos (e.symm.trans h)]
   ·rw[vp (p:=(p.1,y)) e,vp e,ih]
  ·rw[if_neg h];by_cases e:p.1=j
   ·rw[vh e,vh e,Option.map_some,if_neg (λz=>h (e.trans z))]
   ·rw[vp e,vp e,ih]
theorem Q8(k j:κ)(y:V):∀kvs:List (κ×V),vL kvs k=none->vL (kvs++[(k,y)]) j=if j=k then some y else vL kvs j
 |[],_=>by
  by_cases e:k=j
  ·rw[if_pos e.symm];exact vh (p:=(k,y)) e
  ·rw[if_neg (λz=>e z.symm)];exact vp (p:=(k,y)) e
 |p::r,hn=>by
  rw[List.cons_append];have hk:¬ p.1=k:=λz=>by rw[vh z]at hn;cases hn
  rw[vp hk]at hn;have ih:=Q8 k j y r hn;by_cases e:p.1=j
  ·rw[vh e,vh e,if_neg (λz=>hk (e.trans z))]
  ·rw[vp e,vp e,ih]
theorem zaM(kvs:List (κ×V))(k j:κ)(y:V):vL (putK kvs k y) j=if j=k then some y else vL kvs j:=by
 unfold putK;by_cases a:(kvs.any λkv=>decide (kv.1=k))=true
 ·rw[if_pos a,za5];rw[qJ]at a;by_cases e:j=k
  ·obtain⟨x,hx⟩:=Option.isSome_iff_exists.mp a;rw[if_pos e,e,hx,Option.map_some,if_pos rfl]
  ·rw[if_neg e];cases vL kvs j with
   |none=>rfl
   |some x=>rw[Option.map_some,if_neg e]
 ·rw[if_neg a];refine Q8 k j y kvs ?_;rw[qJ]at a;cases q:vL kvs k with
  |none=>rfl
  |some x=>rw[q]at a;exact (a rfl).elim
theorem jZ(kvs:List (κ×V))(k:κ)(v:V):(putK kvs k v).length<=kvs.length+1:=by
 unfold putK;split
 ·rw[List.length_map];omega
 ·rw[List.length_append,List.length_cons,List.length_nil];omega
theorem Wo{k:κ}(v:V)(h:vL kvs k=none):putK kvs k v=kvs++[(k,v)]:=by
 unfold putK;rw[qJ,h];exact if_neg (by decide)
theorem RelO.isSome_eq(r:RelO o u):o.isSome=u.isSome:=by
 cases o with
 |none=>cases u with
  |none=>rfl
  |some _=>exact (show False from r).elim
 |some _=>cases u with
  |none=>exact (show False from r).elim
  |some _=>rfl
theorem RelO.getD(r:RelO o u)(rd:RelV d d'):RelV (o.getD d) (u.getD d'):=by
 cases o with
 |none=>cases u with
  |none=>exact rd
  |some _=>exact (show False from r).elim
 |some _=>cases u with
  |none=>exact (show False from r).elim
  |some _=>exact r
theorem KV.any(r:KV kvs vs)(k:κ):(kvs.any λkv=>decide (kv.1=k))=vs.any λkv=>decide (kv.1=k):=by
 unfold KV at r
 induction r with
 |nil=>rfl
 |cons h t ih=>rw[List.any_cons,List.any_cons,ih,h.1]
theorem KV.repl(r:KV kvs vs)(k:κ)(ry:RelV y u):
  KV (kvs.map λkv=>if kv.1=k then (kv.1,y) else kv) (vs.map λkv=>if kv.1=k then (kv.1,u) else kv):=by
 unfold KV at r ⊢
 induction r with
 |nil=>exact .nil
 |@cons p q ps qs h t ih=>
  rw[List.map_cons,List.map_cons];refine .cons ?_ ih;obtain⟨h1,h2⟩:=h;by_cases e:p.1=k
  ·rw[if_pos e,if_pos (h1.symm.trans e)];exact⟨h1,ry⟩
  ·rw[if_neg e,if_neg (λz=>e (h1.trans z))];exact⟨h1,h2⟩
theorem KV.put(r:KV kvs vs)(k:κ)(ry:RelV y u):KV (putK kvs k y) (stored vs k u):=by
 unfold putK stored;rw[r.any k];by_cases e:(vs.any λkv=>decide (kv.1=k))=true
 ·rw[if_pos e,if_pos e];exact r.repl k ry
 ·rw[if_neg e,if_neg e];exact Paired.snoc r ⟨rfl,ry⟩
theorem KV.length{vs:List (κ×Value)}(r:KV kvs vs):kvs.length=vs.length:=Paired.length r
end
theorem zfZ(r:RelV (kV k) u):(yu P w).is k u=true:=by
 cases k with
 |inl i=>obtain⟨t,e⟩:=(show ∃t,u=Value.int i t from r);subst e;exact za0 P w i t
 |inr x=>obtain⟨t,e⟩:=(show ∃t,u=Value.str x t from r);subst e;exact zbs P w x t
theorem Vk{P:Program}{w:World}:∀{ks:List Key} {us:List Value},Vals (ks.map kV) us->ItemsAre (yu P w) ks us
 |[],_,r=>by rw[List.map_nil]at r;cases r;exact .nil
 |k::ks,_,r=>by
  rw[List.map_cons]at r;cases r with
  |cons h t=>exact .cons (zfZ h) (Vk t)
abbrev KT(H:Hp):List (List Key×V)->List (List Key×Addr×Value)->Prop:=Paired λp q=>p.1=q.1/\H q.2.1=some (.tup (p.1.map kV))/\RelV p.2 q.2.2
theorem KT.val(r:KT H kvs xs)(k:List Key):RelO (vL kvs k) ((atKey xs k).map (·.2)):=by
 induction r with
 |nil=>exact True.intro
 |@cons p q ps qs h t ih=>
  obtain⟨h1,_,h2⟩:=h;by_cases e:p.1=k
  ·have e':=h1.symm.trans e;have b:atKey (q::qs) k=some q.2:=by simp[atKey,List.find?_cons,e']
   rw[vh e,b];exact h2
  ·have e':¬ q.1=k:=λz=>e (h1.trans z);have b:atKey (q::qs) k=atKey qs k:=by simp[atKey,List.find?_cons,e']
   rw[vp e,b];exact ih
theorem KT.repl(r:KT H kvs xs)(k:List Key)(ry:RelV y u):
  KT H (kvs.map λkv=>if kv.1=k then (kv.1,y) else kv) (xs.map (putAt k u)):=by
 induction r with
 |nil=>exact .nil
 |@cons p q ps qs h t ih=>
  rw[List.map_cons,List.map_cons];refine .cons ?_ ih;obtain⟨h1,h2,h3⟩:=h;unfold putAt;by_cases e:p.1=k
  ·rw[if_pos e,if_pos (h1.symm.trans e)];exact⟨h1,h2,ry⟩
  ·rw[if_neg e,if_neg (λz=>e (h1.trans z))];exact⟨h1,h2,h3⟩
theorem KT.put(r:KT H kvs xs)(k:List Key)(hb:H b=some (.tup (k.map kV)))(ry:RelV y u):
  KT H (putK kvs k y) (storedH xs k b u):=by
 have e:(kvs.any λkv=>decide (kv.1=k))=(atKey xs k).isSome:=by
  rw[qJ,(r.val k).isSome_eq,Option.isSome_map]
 unfold putK storedH;rw[e];by_cases q:(atKey xs k).isSome=true
 ·rw[if_pos q,if_pos q];exact r.repl k ry
 ·rw[if_neg q,if_neg q];exact Paired.snoc r ⟨rfl,hb,ry⟩
theorem KT.keeps(r:KT H kvs xs)(ht:∀b ys,H b=some (.tup ys)->H' b=some (.tup ys)):KT H' kvs xs :=
 Paired.mapP r λ_ _ z=>⟨z.1,ht _ _ z.2.1,z.2.2⟩
section
variable {P:Program} {w:World} {H:Hp} {h:Heap} {a:Addr}
theorem zf6(ok:HOk P w H h)(e:Rd H a u):ObjOk P w H h a u:=e.ok ok
theorem zhp(ok:HOk P w H h)(e:Rd H a (.dK kvs)):kvs.length<=sizeLine/\(a == sysModules)=false/\∃vs,KV kvs vs/\h.DictOf (yu P w) a vs :=
 show ObjOk P w H h a (.dK kvs) from zf6 ok e
theorem zhe(ok:HOk P w H h)(e:H a=some (.dK kvs)):kvs.length<=sizeLine/\(a == sysModules)=false/\∃vs,KV kvs vs/\h.DictOf (yu P w) a vs:=zhp ok (.inl e)
theorem zbX(ok:HOk P w H h)(e:H a=some (.tup (ks.map kV))):(tupleKind (yu P w)).is h ks a:=by
 obtain⟨_,its,r,o,h1,h2,n,h3⟩:=(show ObjOk P w H h a (.tup (ks.map kV)) from ok a _ e)
 exact⟨o,its.toArray,n,h1,h2,h3,by simpa using Vk r⟩
theorem zhz(ok:HOk P w H h)(e:Rd H a (.dT kvs)):kvs.length<=sizeLine/\(a == sysModules)=false /\
  ∃xs,KT H kvs xs/\h.DictOfH (tupleKind (yu P w)) a xs:=by
 obtain⟨z,y,xs,r,o,es,ep,h1,h2,h3,h4,h5⟩:=(show ObjOk P w H h a (.dT kvs) from zf6 ok e)
 refine⟨z,y,xs,r,o,es,ep,h1,h2,h3,h4,λx hx=>?_,h5⟩;have all:∀{l:List (List Key×V)} {m:List (List Key×Addr×Value)},KT H l m->∀x∈m,(tupleKind (yu P w)).is h x.1 x.2.1:=by
  intro l m q
  induction q with
  |nil=>intro x hx;exact nomatch hx
  |@cons p q ps qs hq t ih=>
   intro x hx;rcases List.mem_cons.mp hx with e | hx
   ·subst e;exact zbX ok (by rw[<-hq.1];exact hq.2.1)
   ·exact ih x hx
 exact all r x hx
theorem zf5(ok:HOk P w H h)(e:H a=some (.dT kvs)):kvs.length<=sizeLine/\(a == sysModules)=false /\
  ∃xs,KT H kvs xs/\h.DictOfH (tupleKind (yu P w)) a xs:=zhz ok (.inl e)
end
def DGet(H:Hp)(a:Addr)(y:V)(r:Option V):Prop :=
 (∃kvs k,Rd H a (.dK kvs)/\y=kV k/\r=vL kvs k)\/∃kvs k b,Rd H a (.dT kvs)/\y=.ref b/\H b=some (.tup (k.map kV))/\r=vL kvs k
def DPut(H:Hp)(a:Addr)(y v:V)(H':Hp):Prop :=
 (∃kvs k,H a=some (.dK kvs)/\y=kV k/\kvs.length<sizeLine/\H'=upd H a (.dK (putK kvs k v))) \/
 ∃kvs k b,H a=some (.dT kvs)/\y=.ref b/\H b=some (.tup (k.map kV))/\kvs.length<sizeLine/\H'=upd H a (.dT (putK kvs k v))
theorem DGet.k{k:Key}(e:H a=some (.dK kvs)):DGet H a (kV k) (vL kvs k):=.inl ⟨kvs,k,.inl e,rfl,rfl⟩
theorem DPut.k{k:Key}(e:H a=some (.dK kvs))(hl:kvs.length<sizeLine):DPut H a (kV k) v (upd H a (.dK (putK kvs k v))):=.inl ⟨kvs,k,e,rfl,hl,rfl⟩
theorem DPut.t{k:List Key}(e:H a=some (.dT kvs))(eb:H b=some (.tup (k.map kV)))(hl:kvs.length<sizeLine):
  DPut H a (.ref b) v (upd H a (.dT (putK kvs k v))):=.inr ⟨kvs,k,b,e,rfl,eb,hl,rfl⟩
section
variable {X:Cx} {pins:List (Addr×Obj)} {Z:St} {H:Hp} {s:Shared} {a:Addr} {y v:V} {u r:Value} {o:Option V} {A:Around} {E:Value->Shared->Prop}
theorem Inv.big(I:Inv X pins Z H s):sysModules<s.heap.objs.size:=by
 have h:=(I.mod.glob.keeps I.bk).lt;exact Nat.lt_trans (by decide) h
theorem JP(I:Inv X pins Z H s)(mu:Mut (H a))(hs:Heap.SameBut a s.heap h')(he:∃q,h'.get? a=some q)(new:ObjOk X.prog X.w (upd H a ob) h' a ob):
  Inv X pins Z (upd H a ob) { s with heap:=h',toks:=t' } :=
 I.write mu (.inl rfl) (λb q hb z=>(hs.2 b hb).trans z) he new
theorem zga(z:kvs.length<=sizeLine)(hd:(a == sysModules)=false)(rel:KV kvs vs)(dd:h'.DictOf (yu P w) a vs):
  ObjOk P w H' h' a (.dK kvs):=⟨z,hd,vs,rel,dd⟩
theorem zc6(hu:A.units+1<cLine)(I:Inv X pins Z H s)(g:DPut H a y v H')(ry:RelV y u)(rv:RelV v r)(h:∀s',Inv X pins Z H' s'->Q () s'):
  wpAny (model X.prog X.w) A (setItem (.ref a) u r) Q E s:=by
 rcases g with ⟨kvs,k,e,ey,l,eH⟩ | ⟨kvs,k,b,e,ey,eb,l,eH⟩
 ·subst ey eH;obtain⟨z,hd,vs,rel,dd⟩:=zhe I.hok e;have hz:vs.length<=sizeLine:=by rw[<-rel.length];exact z
  have hl:(putK kvs k v).length<=sizeLine:=by have:=jZ kvs k v;omega
  refine wpAny_setItem_pairs (zfZ ry) dd λh' dd' hs=>h _ ?_;have he:∃q,h'.get? a=some q:=let ⟨q,_,_,hq,_⟩:=dd';⟨q,hq⟩;exact JP I (by rw[e];exact True.intro) hs he (zga hl hd (rel.put k rv) dd')
 ·subst ey eH;cases (show u=Value.ref b from ry)
  obtain⟨z,hd,xs,rel,dd⟩:=zf5 I.hok e;have hz:xs.length<=sizeLine:=by rw[<-Paired.length rel];exact z
  have hl:(putK kvs k v).length<=sizeLine:=by have:=jZ kvs k v;omega
  refine wpAny_setItem_heap (tupleKind_room_in1 hu) (zbX I.hok eb) dd λh' dd' hs=>h _ ?_;obtain⟨q,es,ep,hq,h2,h3,h4,_,h5⟩:=dd';refine JP I (by rw[e];exact True.intro) hs ⟨q,hq⟩ ⟨hl,hd,_,(rel.put k eb rv).keeps λc ys ec=>?_,q,es,ep,hq,h2,h3,h4,h5⟩;rw[zB (Xc ec e (λz=>nomatch z))];exact ec
end
section
variable {X:Cx} {pins:List (Addr×Obj)} {Z:St} {H:Hp} {s:Shared} {a:Addr} {kvs:List (Key×V)} {k:Key} {u:Value} {A:Around} {E:Value->Shared->Prop}
end
def zg8(i:Expr):Prop:=∀ov iv,subscripted i false ov iv=operate [ov,iv] (getItem ov iv)
theorem ze9{T id:String}(hl:typeLookup (.type T) "__getitem__"= pure (some (.builtin id)))(hs:zg8 slice)(h:wpAny (model prog w) A (eval value env) (λo s₁=>wpAny (model prog w) A (eval slice env) (λi s₂=>s₂.TypeIs o T/\wpAny (model prog w) A (getItem o i) Q E s₂) E s₁) E s):
  wpAny (model prog w) A (eval (.Subscript value slice pos) env) Q E s:=by
 refine Subscript_ (wpAny_mono h (λo s₁ h₁=>wpAny_mono h₁ (λi s₂ h₂=>?_) λ_ _ x=>x) λ_ _ x=>x);obtain⟨hT,h₂⟩:=h₂;refine wpAny_bind ?_;refine wpAny_bind (wpAny_specialOf hT hl ?_);have fin:wpAny (model prog w) A (subscripted slice false o i) (λr s₃=>wpAny (model prog w) A (letTemporaryGo value o r >>= λ_=>pure r) Q E s₃) E s₂:=by
  rw[hs o i];exact wpAny_operating (wpAny_mono h₂ (λr s₃ h₃=>wpAny_bind (wpAny_letTemporaryGo (wpAny_pure h₃))) λ_ _ x=>x)
 first
  |exact wpAny_pure (wpAny_bind fin)
  |exact wpAny_bind (wpAny_pure (wpAny_bind fin))
  |exact wpAny_bind fin
def zhl(td ty tv:TE):TS:=λD Z H=>tv Z H λv H1=>td Z H1 λx H2=>ty Z H2 λy H3=>Ex2 λa H4=>x=.ref a/\DPut H3 a y v H4/\D.nx Z H4
section
variable {X:Cx} {o i e value:Expr} {pos pos' tpos:Pos} {td ty tv:TE}
theorem ze6(hu:X.A.units+1<cLine)(ho:PE X o td)(hi:PE X i ty)(hv:PE X value tv)(hs:swapsWith value (some (.Subscript o i pos')) pos.line X.env=pure false):
  PS X (.Assign [.Subscript o i pos'] value pos) (zhl td ty tv):=by
 intro pins s Z H D I h;refine wpAny_Assign_Subscript (thn (hv pins s Z H _ I h) λr s1 ⟨v,H1,I1,rv,q1⟩=>thn (ho pins s1 Z H1 _ I1 q1) λu s2 ⟨x,H2,I2,rx,q2⟩=>thn (hi pins s2 Z H2 _ I2 q2) λiv s3 ⟨y,H3,I3,ry,a,H4,ex,g,q3⟩=>?_) hs;subst ex;obtain rfl:u=Value.ref a:=rx;exact zc6 hu I3 g ry rv λs4 I4=>⟨Z,H4,I4,q3⟩
end
theorem zeQ(h:Heap)(hb:sysModules<h.objs.size):ObjOk P w H (h.push { cls:=.type "dict",data:=.dict #[] }) h.objs.size (.dK []):=
 ⟨Nat.zero_le _,beq_eq_false_iff_ne.mpr (Ne.symm (Nat.ne_of_lt hb)),[],.nil,Heap.DictOf.new h⟩
theorem ze0(h:Heap)(hb:sysModules<h.objs.size):ObjOk P w H (h.push { cls:=.type "dict",data:=.dict #[] }) h.objs.size (.dT []):=
 ⟨Nat.zero_le _,beq_eq_false_iff_ne.mpr (Ne.symm (Nat.ne_of_lt hb)),[],.nil,_,#[],0,Heap.get?_push_size _ rfl,⟨rfl,rfl,rfl⟩,rfl,rfl,List.nodup_nil⟩
def zej:TE:=λ_ H Q=>∀p,H p=none->Q (.ref p) (upd H p (.dK []))
def zgK:TE:=λ_ H Q=>∀p,H p=none->Q (.ref p) (upd H p (.dT []))
section
variable {X:Cx} {pos:Pos}
theorem zdZ:PE X (.Dict [] [] pos) zej:=λpins s Z H Q I h=>
 wpAny_Dict_empty ⟨.ref s.heap.objs.size,_,I.laid (λ_ _ q=>Heap.get?_push_of_some _ q) (Nat.le_refl _) (zeQ s.heap I.big),rfl,h _ (I.hok.fresh (Nat.le_refl _))⟩
theorem zdS:PE X (.Dict [] [] pos) zgK:=λpins s Z H Q I h=>
 wpAny_Dict_empty ⟨.ref s.heap.objs.size,_,I.laid (λ_ _ q=>Heap.get?_push_of_some _ q) (Nat.le_refl _) (ze0 s.heap I.big),rfl,h _ (I.hok.fresh (Nat.le_refl _))⟩
end
structure M1 (X:Cx) (o:Expr) (m:Str) (apos:Pos) (e:Expr) (cpos:Pos):Prop where
 base:attributeBase o m X.env (eval o X.env)=eval o X.env
 few:((backTo cpos (starEach [e] X.env)).all (λx=>!x.1) && (backToKw cpos (keywordEach [] X.env)).all (λx=>x.1.isSome)
  && decide (([e]:List Expr).length+([]:List Keyword).length+(if ([]:List Keyword).isEmpty then 0 else 1)<30))=true
 line:(apos.endLine == cpos.line)=true
 trees:backTo cpos (starEach [e] X.env)=[(false,eval e X.env)]
section
variable {X:Cx} {pins:List (Addr×Obj)} {Z:St} {H:Hp} {s:Shared} {a:Addr} {y d:V} {u r:Value} {o:Option V} {A:Around} {E:Value->Shared->Prop}
end
section
variable {X:Cx} {o e f:Expr} {apos cpos:Pos} {td ty tx:TE}
end
section
variable {X:Cx} {pins:List (Addr×Obj)} {Z:St} {H:Hp} {s:Shared} {a:Addr} {kvs:List (Key×V)} {A:Around} {E:Value->Shared->Prop}
end
section
variable {X:Cx} {pins:List (Addr×Obj)} {Z:St} {H:Hp} {s:Shared} {a:Addr} {y:V} {u:Value} {A:Around} {E:Value->Shared->Prop}
end
section
variable {X:Cx}
end
section
variable {κ:Type} [DecidableEq κ]
theorem zbz{k:κ}(h:vL kvs k=none):¬ k∈kvs.map (·.1):=by
 intro m;obtain⟨p,hp,e⟩:=List.mem_map.mp m;have q:(kvs.any λkv=>decide (kv.1=k))=true:=List.any_eq_true.mpr ⟨p,hp,decide_eq_true e⟩;rw[qJ,h]at q;exact absurd q (by simp)
theorem zcE:∀{l:List κ} {k:κ},l.Nodup->¬ k∈l->(l++[k]).Nodup
 |[],k,_,_=>by simp
 |a::r,k,h,hk=>by
  obtain⟨h1,h2⟩:=List.nodup_cons.mp h;refine List.nodup_cons.mpr ⟨λm=>?_,zcE h2 λm=>hk (List.mem_cons.mpr (Or.inr m))⟩;rcases List.mem_append.mp m with q | q
  ·exact h1 q
  ·exact hk (List.mem_cons.mpr (Or.inl (List.mem_singleton.mp q).symm))
theorem zfb{k:κ}(v:V)(hn:(kvs.map (·.1)).Nodup)(h:vL kvs k=none):((putK kvs k v).map (·.1)).Nodup:=by
 rw[Wo v h,List.map_append];exact zcE hn (zbz h)
end
end L2
namespace HT
open PySem PyProof.Rows PySem.W
section
variable {prog:Program} {w:World} {A:Around} {E:Value->Shared->Prop} {s:Shared}
theorem zcg(ho:s.heap.get? a=some (seqObj "list" vs.toArray n0))(h60:vs.length<=60)(O:Ord c vs.length)(hkind:∀G:Heap,(∀b o,b≠a->s.heap.get? b=some o->G.get? b=some o)->2<=vs.length->∀Q:SortKind->Shared->Prop,Q κ { s with heap:=G }->wpAny (model prog w) A (keyKind' vs.toArray) Q E { s with heap:=G })(hcmp:∀G:Heap,(∀b o,b≠a->s.heap.get? b=some o->G.get? b=some o)->∀i j (C:Bool->Shared->Prop),i<vs.length->j<vs.length->C (c i j) { s with heap:=G }->kas_ask prog w A κ vs i j C { s with heap:=G })(h:∀p:List Nat,p.Perm (List.range vs.length)->p.Pairwise (λi j=>c i j=true)->P (.done (.ret .none)) { s with heap:=sortedHeap s.heap a vs (p.map λi=>vs.getD i Value.none).toArray }):
  wpAny (model prog w) A (Builtin.«list.sort» ⟨[.ref a],[]⟩) P E s:=by
 rw[list_sort_plain];have hsl:vs.length<=sizeLine:=Nat.le_trans h60 (by decide);have ha:=Heap.lt_size ho;obtain⟨e1,ho1⟩:∃e1,(s.heap.update a (Obj.mapSeq λ_=>#[])).get? a=some (seqObj "list" #[] e1):=⟨_,get?_update_seq ho (λ_=>#[])⟩
 refine wpAny_bind (listItems_at ho rfl (wpAny_bind (listUpdate_at ho rfl (wpAny_bind (seqEpoch_at ho1 rfl (wpAny_bind (wpAny_newTuple (wpAny_bind (wpAny_newList (wpAny_holding ?_) (Nat.zero_le _))) (by exact hsl))))) (by exact hsl) (Nat.zero_le _))));generalize hG:(((s.heap.update a (Obj.mapSeq λ_=>(#[]))).push (seqObj "tuple" vs.toArray 0)).push (seqObj "list" #[] 0))=G;have ho6:G.get? a=some (seqObj "list" #[] e1):=by
  rw[<-hG,Heap.get?_push_ne _ _ _ (by rw[size_push',Heap.size_update];exact Nat.ne_of_lt (Nat.lt_succ_of_lt ha)),Heap.get?_push_ne _ _ _ (by rw[Heap.size_update];exact Nat.ne_of_lt ha)];exact ho1
 have keep:∀b o,b≠a->s.heap.get? b=some o->G.get? b=some o:=λb o hb e=>by
  have hlt:=Heap.lt_size e;rw[<-hG,Heap.get?_push_ne _ _ _ (by rw[size_push',Heap.size_update];exact Nat.ne_of_lt (Nat.lt_succ_of_lt hlt)),Heap.get?_push_ne _ _ _ (by rw[Heap.size_update];exact Nat.ne_of_lt hlt),Heap.get?_update_other _ _ (Ne.symm hb)];exact e
 dsimp only;have e2:∀out:Array Value,G.update a (Obj.mapSeq λ_=>out)=sortedHeap s.heap a vs out:=λout=>by rw[<-hG];rfl
 by_cases h2:vs.toArray.size<2
 ·rw[if_pos h2,if_pos h2];refine wpAny_bind (wpAny_pure ?_);refine wpAny_bind (wpAny_pure ?_);rw[List.size_toArray]at h2;have hout:(arrOf (SortSt.mk' general' (vs.toArray.zip vs.toArray) #[] 7 none)).map (·.2)=((List.range vs.length).map λi=>vs.getD i Value.none).toArray:=by
   apply Array.toList_inj.mp;rw[Array.toList_map,Array.toList_zip,List.map_snd_zip (by simp)];apply List.ext_getElem?;intro i;rw[List.getElem?_map];by_cases hi:i<vs.length
   ·rw[List.getElem?_range hi,Option.map_some,List.getD_eq_getElem?_getD,List.getElem?_eq_getElem hi];rfl
   ·rw[List.getElem?_eq_none (by simpa using hi),List.getElem?_eq_none (by simpa using hi)];rfl
  rw[hout];refine wpAny_bind (seqEpoch_at ho6 rfl (wpAny_bind (listUpdate_at ho6 rfl ?_ (Nat.zero_le _) (by rw[List.size_toArray,List.length_map,List.length_range];exact Nat.le_succ_of_le hsl))));simp only[bne_self_eq_false,Bool.false_eq_true,if_false];rw[e2];refine wpAny_pure (h _ (List.Perm.refl _) ?_);rw[List.pairwise_iff_getElem];intro i j hi hj hij;rw[List.length_range]at hj;omega
 ·rw[if_neg h2,if_neg h2];rw[List.size_toArray]at h2;refine wpAny_bind (hkind G keep (by omega) _ ?_);have ask:=
   KW.wp (λi j C hi hj hC=>hcmp G keep i j C hi hj hC) _ (zf0 O (by omega))
  refine wpAny_bind (wpAny_mono (kat_run (Q:=λst' s'=>∃p:Array Nat,s'={ s with heap:=G }/\arrOf st'=p.map (kas_item (vs.toArray.zip vs.toArray))/\failedOf st'=none/\Pm vs.length p/\Up c p vs.length)
   rfl (by omega) (by omega) (λp st' s' _ a2 a3 a4=>⟨p,a4.1,a2,a3,a4.2⟩) ask) ?_ λ_ _ e=>e)
  rintro⟨⟨⟩,st'⟩ s' ⟨p,rfl,har,hfl,hpm,hup⟩;have hpl:p.toList.length=vs.length:=by rw[hpm.pm.length_eq,List.length_range]
  have hol:(p.toList.map λi=>vs.getD i Value.none).length=vs.length:=by rw[List.length_map,hpl]
  rw[kat_snds rfl har];refine wpAny_bind (seqEpoch_at ho6 rfl (wpAny_bind (listUpdate_at ho6 rfl ?_ (Nat.zero_le _) (by rw[List.size_toArray,hol];exact Nat.le_succ_of_le hsl))));rw[hfl];simp only[bne_self_eq_false,Bool.false_eq_true,if_false];rw[e2];refine wpAny_pure (h _ hpm.pm ?_);rw[List.pairwise_iff_getElem];intro i j hi hj hij;have q1:=hup i j hij (by omega);have g1:p.getD i 0=p.toList[i]:=by
   have:i<p.size:=by omega
   simp[Array.getD,this]
  have g2:p.getD j 0=p.toList[j]:=by
   have:j<p.size:=by omega
   simp[Array.getD,this]
  rw[g1,g2]at q1;exact q1
theorem zft{Pv:List Value->Prop}(h60:n<=60)(hcol:∀R:List Value->Shared->Prop,(∀h' tk vs,(∀b o,s.heap.get? b=some o->h'.get? b=some o)->vs.length=n->Pv vs->R vs { s with heap:=h',toks:=tk })->wpAny (model prog w) A.in1 (collect (.ref r)) R E s)(hord:∀vs,vs.length=n->Pv vs->∃c:Nat->Nat->Bool,Ord c n /\
   (∀G tk,(∀b o,s.heap.get? b=some o->G.get? b=some o)->2<=n->∀Q:SortKind->Shared->Prop,Q κ { s with heap:=G,toks:=tk }->wpAny (model prog w) A.in1.in1 (keyKind' vs.toArray) Q E { s with heap:=G,toks:=tk }) /\
   (∀G tk,(∀b o,s.heap.get? b=some o->G.get? b=some o)->∀i j (C:Bool->Shared->Prop),i<n->j<n->C (c i j) { s with heap:=G,toks:=tk }->kas_ask prog w A.in1.in1 κ vs i j C { s with heap:=G,toks:=tk }) /\
   ∀(p:List Nat) (h' h'':Heap) (tk e:Nat),p.Perm (List.range n)->p.Pairwise (λi j=>c i j=true)->(∀b o,s.heap.get? b=some o->h'.get? b=some o)->(∀b o,h'.get? b=some o->h''.get? b=some o)->h''.get? h'.objs.size=some (seqObj "list" (p.map λi=>vs.getD i Value.none).toArray e)->Q (.ref h'.objs.size) { s with heap:=h'',toks:=tk }):
  wpAny (model prog w) A (call (.builtin "sorted") [.ref r]) Q E s:=by
 refine Calls.call_function_entry kind_sorted plain_sorted entry_sorted (args_sorted1 _) ?_;refine wpAny_bind (wpAny_pure (wpAny_bind (hcol _ λh' tk vs hk hl pv=>?_)));obtain⟨c,O,hkind,hcmp,fin⟩:=hord vs hl pv;subst hl;have hsl:vs.length<=sizeLine:=Nat.le_trans h60 (by decide);refine wpAny_bind (wpAny_newList ?_ hsl);have hoL:(h'.push (seqObj "list" vs.toArray 0)).get? h'.objs.size=some (seqObj "list" vs.toArray 0):=Heap.get?_push_size _ rfl;have ne:∀b o,s.heap.get? b=some o->b≠h'.objs.size:=λb o q=>Nat.ne_of_lt (Heap.lt_size (hk b o q));refine wpAny_bind (wpAny_holding (wpAny_call_entry slot_list_sort ⟨_,hoL,rfl⟩ entry_list_sort (zcg hoL h60 O (λG kG h2 Q' hq=>hkind G tk (λb o q=>kG b o (ne b o q) (Heap.get?_push_of_some _ (hk b o q))) h2 Q' hq)
  (λG kG i j C hi hj hC=>hcmp G tk (λb o q=>kG b o (ne b o q) (Heap.get?_push_of_some _ (hk b o q))) i j C hi hj hC) λp hp hw=>⟨_,rfl,?_⟩) (args_list_sort _)))
 refine wpAny_pure ⟨_,rfl,?_⟩;obtain⟨e,he⟩:=sortedHeap_at hoL;refine fin p h' _ tk e hp hw hk (λb o q=>?_) he;have hlt:=Heap.lt_size q;rw[sortedHeap_old (Nat.ne_of_lt hlt) (by rw[size_push'];exact Nat.lt_succ_of_lt hlt)];exact Heap.get?_push_of_some _ q
end
def RawD(h:Heap)(d:Addr)(ks:List Value)(ep:Nat):Prop:=∃o es,h.get? d=some o/\o.ExactDict/\o.data=.dict es ep/\es.toList.map (·.key)=ks
theorem RawD.at(x:RawD h d ks ep)(e:∀o,h.get? d=some o->h'.get? d=some o):RawD h' d ks ep:=let ⟨o,es,ho,r⟩:=x;⟨o,es,e _ ho,r⟩
theorem RawD.lt(x:RawD h d ks ep):d<h.objs.size:=let ⟨_,_,ho,_⟩:=x;Heap.lt_size ho
theorem RawD.ty{s:Shared}(x:RawD s.heap d ks ep):s.TypeIs (.ref d) "dict":=let ⟨o,_,ho,hc,_⟩:=x;⟨o,ho,hc.1⟩
section
variable {prog:Program} {w:World} {A:Around} {E:Value->Shared->Prop} {s:Shared} {d it:Addr} {ks:List Value} {ep i:Nat}
theorem zfT(hd:(d == sysModules)=false)(hm:RawD s.heap d ks ep)(hQ:Q (.ref s.heap.objs.size) { s with heap:=s.heap.push { cls:=.type "dict_keyiterator",data:=.fields #[.ref d,.int 0 0,.int ks.length 0,.int ep 0] } }):
  wpAny (model prog w) A (pyIter (.ref d)) Q E s:=by
 obtain⟨o,es,ho,hc,hdat,hk⟩:=id hm;refine wpAny_pyIter_slot hm.ty F.slot_dict_iter (wpAny_call_entry F.slot_dict_iter hm.ty F.entry_dict_iter ?_ (F.args_dict_iter_1 _));refine wpAny_bind (wpAny_bind (wpAny_notOrdered_dict hm.ty ?_));refine wpAny_pure ?_;show wpAny _ _ (Builtin.Dict.showsAll d >>= _) _ _ s;unfold Builtin.Dict.showsAll;rw[hd,if_neg Bool.false_ne_true];have hsz:es.size=ks.length:=by rw[<-hk];simp
 refine wpAny_bind (wpAny_pure (wpAny_bind (wpAny_dictEntries ho hdat (wpAny_bind (wpAny_dictEpoch ho hdat (wpAny_bind (wpAny_newObj_type (wpAny_pure ⟨_,rfl,"dict_keyiterator",_,⟨_,Heap.get?_push_size _ rfl,rfl⟩,F.slot_dict_keyiterator_next.lookup,?_⟩))))))));simpa[rawInt,hsz] using hQ
theorem zfJ(hit:s.heap.IsKeyIter it d i ks.length ep)(hm:RawD s.heap d ks ep)(hx:ks[i]?=some v)(hQ:∀h',h'.IsKeyIter it d (i+1) ks.length ep->Heap.SameBut it s.heap h'->Q (some v) { s with heap:=h' }):wpAny (model prog w) A (pyNext (.ref it)) Q E s:=by
 obtain⟨o,ho,hc,hd⟩:=id hit;obtain⟨od,es,hod,hcd,hdd,hk⟩:=id hm;have hsz:es.size=ks.length:=by rw[<-hk];simp
 have hlt:i<es.size:=by rw[hsz];exact (List.getElem?_eq_some_iff.mp hx).1
 have hkey:es[i].key=v:=by
  rw[<-hk,List.getElem?_map]at hx;simpa[hlt] using hx
 have hown:Builtin.Dict_items.ownsTuple "dict_keyiterator"= false:=by decide
 refine wpAny_bind (wpAny_attempt (wpAny_callSpecial?_slot hit.typeIs F.slot_dict_keyiterator_next (wpAny_call_entry F.slot_dict_keyiterator_next hit.typeIs F.entry_dict_keyiterator_next ?_ (F.args_dict_keyiterator_next_1 _))));refine wpAny_bind (wpAny_pure (wpAny_bind (wpAny_bind ?_)))
 first | refine wpAny_bind (wpAny_typeNameOfWhole_keyiter hit.typeIs (wpAny_pure (wpAny_bind (wpAny_fieldsOf ho hd ?_)))) | refine wpAny_bind (wpAny_typeNameOf_keyiter hit.typeIs (wpAny_pure (wpAny_bind (wpAny_fieldsOf ho hd ?_))))
 refine wpAny_bind (wpAny_pure (wpAny_bind (wpAny_dictEntries hod hdd ?_)));rw[if_neg (by rw[hsz];simp)];refine wpAny_bind (wpAny_pure (wpAny_bind (wpAny_dictEpoch hod hdd ?_)));rw[if_neg (by simp)];refine wpAny_pure ?_;simp only[show ¬ (i<0) from by omega,if_false,Int.toNat_natCast,Array.getElem?_eq_getElem hlt];refine wpAny_bind ?_
 first | refine wpAny_bind (wpAny_typeNameOfWhole_keyiter hit.typeIs (wpAny_pure (wpAny_bind (wpAny_isOneOf_keyiter hit.typeIs ?_)))) | refine wpAny_bind (wpAny_typeNameOf_keyiter hit.typeIs (wpAny_pure (wpAny_bind (wpAny_isOneOf_keyiter hit.typeIs ?_))))
 show wpAny _ _ (setField (.ref it) 1 (rawInt (i+1)) >>= _) _ _ s;refine wpAny_bind (wpAny_setField ho hd (by simp) ?_);have hit':(s.heap.update it (Obj.mapFields (·.setIfInBounds 1 (rawInt (i+1))))).IsKeyIter it d (i+1) ks.length ep :=
  ⟨_,Heap.get?_update_self _ ho (Obj.isFreed_of_fields (Obj.data_mapFields hd _)),(Obj.cls_mapFields ..).trans hc,by rw[Obj.data_mapFields hd];simp[rawInt]⟩
 refine wpAny_bind (wpAny_holding (wpAny_bind (wpAny_isOneOf_keyiter hit'.typeIs ?_)));rw[hkey];exact wpAny_pure (wpAny_pure ⟨_,rfl,wpAny_pure (hQ _ hit' (Heap.SameBut.update ..))⟩)
theorem zgi(hh:A.handled=none)(hit:s.heap.IsKeyIter it d ks.length ks.length ep)(hm:RawD s.heap d ks ep)(hQ:∀h',Heap.ExtBut it s.heap h'->Q none { s with heap:=h' }):wpAny (model prog w) A (pyNext (.ref it)) Q E s:=by
 obtain⟨o,ho,hc,hd⟩:=id hit;obtain⟨od,es,hod,hcd,hdd,hk⟩:=id hm;have hsz:es.size=ks.length:=by rw[<-hk];simp
 have hge:=Nat.le_of_eq hsz;have hown:Builtin.Dict_items.ownsTuple "dict_keyiterator"= false:=by decide
 refine wpAny_bind (wpAny_attempt (wpAny_callSpecial?_slot hit.typeIs F.slot_dict_keyiterator_next (wpAny_call_entry F.slot_dict_keyiterator_next hit.typeIs F.entry_dict_keyiterator_next ?_ (F.args_dict_keyiterator_next_1 _))));refine wpAny_bind (wpAny_pure (wpAny_bind (wpAny_bind ?_)))
 first | refine wpAny_bind (wpAny_typeNameOfWhole_keyiter hit.typeIs (wpAny_pure (wpAny_bind (wpAny_fieldsOf ho hd ?_)))) | refine wpAny_bind (wpAny_typeNameOf_keyiter hit.typeIs (wpAny_pure (wpAny_bind (wpAny_fieldsOf ho hd ?_))))
 show wpAny _ _ (if (Value.ref d == Value.none)=true then _ else _) _ _ s;refine wpAny_bind (wpAny_pure (wpAny_bind (wpAny_dictEntries hod hdd ?_)));rw[if_neg (by rw[hsz];simp)];refine wpAny_bind (wpAny_pure (wpAny_bind (wpAny_dictEpoch hod hdd ?_)));rw[if_neg (by simp)];refine wpAny_pure ?_;simp only[show ¬ (ks.length<0) from by omega,if_false,Int.toNat_natCast,Array.getElem?_eq_none hge];refine wpAny_bind ?_
 first | refine wpAny_bind (wpAny_typeNameOfWhole_keyiter hit.typeIs (wpAny_pure ?_)) | refine wpAny_bind (wpAny_typeNameOf_keyiter hit.typeIs (wpAny_pure ?_))
 show wpAny _ _ (setField (.ref it) 0 .none >>= _) _ _ s;refine wpAny_bind (wpAny_setField ho hd (by simp) ?_);refine wpAny_bind ?_;refine wpAny_bind (wpAny_newObj_type (wpAny_bind (wpAny_of_eq (by first | rfl | (simp only[firstArgMember];rfl)) (wpAny_newObj_type ?_ (by size_fits)))) (by size_fits));refine wpAny_bind (wpAny_handled ?_);rw[show A.in1.handled=none from hh];refine wpAny_bind (wpAny_pure (wpAny_throw ?_));refine wpAny_bind (wpAny_isInstance ⟨_,Heap.get?_push_size _ rfl,rfl⟩ isSubtype_stop ?_);exact wpAny_pure (hQ _ (((Heap.SameBut.update ..).extBut.push _).push _))
theorem zeC(hh:A.handled=none)(I d:Addr)(hne:d≠I)(ks:List Value)(ep:Nat):Walks prog w A I [I,d] [I] ks.length (λi v=>ks[i]?=some v) (λi h=>h.IsKeyIter I d i ks.length ep/\RawD h d ks ep) where
 sub:=λb hb=>by simp at hb;simp[hb]
 frame:=λ_ _ _ st hk=>⟨st.1.at λo e=>hk I (by simp) o e,st.2.at λo e=>hk d (by simp) o e⟩
 item:=λi s Q E hi st hQ=>by
  refine zfJ st.1 st.2 (List.getElem?_eq_getElem hi) λh' hit' hs'=>hQ _ h' s.toks (List.getElem?_eq_getElem hi) ⟨hit',st.2.at λo e=>hs'.extBut _ _ hne e⟩ λb o hb e=>hs'.extBut b o (λh=>hb (by simp[h])) e
 done:=λs Q E st hQ=>zgi hh st.1 st.2 λh' he'=>hQ h' s.toks λb o hb e=>he' b o (λh=>hb (by simp[h])) e
 self:=λ_ _ _ _ st hQ=>wpAny_pyIter_keyiter st.1 hQ
theorem zgc(lo:(d == sysModules)=false):KdlSrc prog w "dict" d d ks.length (λi v=>ks[i]?=some v) (λh=>RawD h d ks ep) where
 type:=λ_ hm=>hm.ty
 there:=λ_ hm=>⟨hm.lt,hm.lt⟩
 keep:=λ_ _ hm hk=>hm.at λo e=>hk d (.inl rfl) o e
 notList:=by decide
 notTuple:=by decide
 hint:=λ_ _ _ _ hm hq=>kdl_hint_dict hm.ty hq
 iter:=λ_ _ hh hm=>⟨_,_,(λ_ _ hq=>zfT lo hm hq),zeC hh _ d (Nat.ne_of_lt hm.lt) ks ep,⟨⟨_,Heap.get?_push_size _ rfl,rfl,rfl⟩,hm.at λo e=>Heap.get?_push_of_some _ e⟩⟩
end
end HT
namespace L2
open PySem PySem.Spec PyProof.Rows PySem.W
def kI(ns:List Int):List Key:=ns.map Sum.inl
theorem zew(ns:List Int):(kI ns).map kV=ns.map V.int:=by unfold kI;rw[List.map_map];rfl
section
variable {X:Cx} {pins:List (Addr×Obj)} {Z:St} {H:Hp} {s:Shared}
theorem zaB(I:Inv X pins Z H s)(h:H p=some (.tup (ns.map V.int))):∃its o m,IntsAre its ns/\s.heap.get? p=some o/\o.cls=.type "tuple"/\o.data=.seq its.toArray m:=by
 obtain⟨_,its,r,o,e,hc,m,hd⟩:=I.hok p _ h;exact⟨its,o,m,by simpa using intsAre_of r,e,hc,hd⟩
end
theorem zbi{prog:Program}{w:World}{A:Around}{Q:Bool->Shared->Prop}{s:Shared}{f:Bool}:∀{xs ys:List Value} {as bs:List Int} (i:Nat),IntsAre xs as->IntsAre ys bs->f=decide (as.length<bs.length)->Q (HT.lexLt as bs) s->KatLex prog w A true f Q (xs.zip ys) i s
 |[],_,_,_,i,.nil,.nil,hf,h=>by subst hf;exact kat_nil h
 |[],_,_,_,i,.nil,.cons m u hj,hf,h=>by subst hf;exact kat_nil h
 |_,[],_,_,i,.cons n t hi,.nil,hf,h=>by subst hf;exact kat_nil h
 |_,_,_,_,i,.cons n t (ns:=as) hi,.cons m u (ns:=bs) hj,hf,h=>by
  rw[List.zip_cons_cons];refine kat_cons (wpAny_eqBool_int ?_);rw[HT.qg]at h;by_cases e:n=m
  ·rw[if_pos e]at h;rw[show (n == m)=true by simp[e]];exact kat_yes (zbi (i+1) hi hj (by rw[hf];simp) h)
  ·rw[if_neg e]at h;rw[show (n == m)=false by simp[e]];refine kat_no ?_;by_cases hi0:i=0
   ·subst hi0;exact oneLt_int h
   ·rw[show (true && i == 0)=false by simp[hi0]];exact kat_one _ _ (HT.zbg A s n t m u prog w _ _ h)
section
variable {X:Cx} {pins:List (Addr×Obj)} {Z:St} {H:Hp} {s:Shared}
theorem ze2(I:Inv X pins Z H s)(hp:H p=some (.tup (as.map V.int)))(hq:H q=some (.tup (bs.map V.int)))(h:Q (HT.lexLt as bs) s):
  wpAny (model X.prog X.w) A (keyLt' (tuples' true) (.ref p) (.ref q)) Q E s:=by
 obtain⟨its,o,m,hi,e,_,hd⟩:=zaB I hp;obtain⟨its',o',m',hi',e',_,hd'⟩:=zaB I hq;refine kat_lt e hd e' hd' ?_;rw[List.size_toArray,List.size_toArray,hi.length,hi'.length];exact zbi 0 (by simpa using hi) (by simpa using hi') rfl h
end
theorem Jw{X:Cx}{pins:List (Addr×Obj)}{Z:St}{H:Hp}{s:Shared}(I:Inv X pins Z H s):∀zs:ZB,(∀z∈zs,H z.1=some (.tup (z.2.map V.int))/\z.2≠[])->∃fs:List Value,KatTups s.heap (zs.map λz=>Value.ref z.1) fs/\fs.length=zs.length/\∀v∈fs,∃n t,v=Value.int n t
 |[],_=>⟨[],KatTups.nil,rfl,λv hv=>by cases hv⟩
 |z::zs,h=>by
  obtain⟨fs,h1,h2,h3⟩:=Jw I zs λq hq=>h q (.tail _ hq);obtain⟨za,zl⟩:=z;obtain⟨hz,hne⟩:=h (za,zl) (.head _);obtain⟨its,o,m,hi,e,hc,hd⟩:=zaB I hz;cases hi with
  |nil=>exact absurd rfl hne
  |cons n t hi=>
   refine⟨.int n t::fs,KatTups.cons e hc hd (by simp) h1,by simp[h2],λv hv=>?_⟩;rcases List.mem_cons.mp hv with rfl | hv
   ·exact⟨n,t,rfl⟩
   ·exact h3 v hv
theorem zgw{ls:ZA}(nd:ls.Nodup):HT.Ord (λi j=>HT.lexLt (ls.getD i []) (ls.getD j [])) ls.length:=by
 have ge:∀i,(h:i<ls.length)->ls.getD i []=ls[i]:=λi h=>by rw[List.getD_eq_getElem?_getD,List.getElem?_eq_getElem h];rfl
 refine⟨λi j k _ _ _ h1 h2=>HT.jN _ _ _ h1 h2,λi j hi hj hij h=>?_,λi j hi hj h=>?_⟩
 ·have ne:ls.getD i []≠ls.getD j []:=λz=>by
   rw[ge i hi,ge j hj]at z;exact hij ((List.getElem_inj nd).mp z)
  have:=HT.XH _ _ ne;rw[h]at this;exact this
 ·cases e:HT.lexLt (ls.getD j []) (ls.getD i []) with
  |false=>rfl
  |true=>
   have:=HT.jN _ _ _ h e;rw[HT.jk]at this;cases this
theorem zeM{zs:ZB}{p:List Nat}(hp:p.Perm (List.range zs.length))(hw:p.Pairwise (λi j=>HT.lexLt ((zs.map (·.2)).getD i []) ((zs.map (·.2)).getD j [])=true)):
  ∃zs':ZB,zs'.Perm zs/\zs'.Pairwise (λx y=>HT.lexLt x.2 y.2=true)/\(p.map λi=>(zs.map λz=>Value.ref z.1).getD i Value.none)=zs'.map λz=>Value.ref z.1:=by
 have g:∀i∈p,(zs.map (·.2)).getD i []=(zs.getD i (0,[])).2/\(zs.map λz=>Value.ref z.1).getD i Value.none=Value.ref (zs.getD i (0,[])).1:=λi hi=>by
  have hi':=List.mem_range.mp (hp.mem_iff.mp hi);constructor
  ·rw[List.getD_eq_getElem?_getD,List.getD_eq_getElem?_getD,List.getElem?_map,List.getElem?_eq_getElem hi'];rfl
  ·rw[List.getD_eq_getElem?_getD,List.getD_eq_getElem?_getD,List.getElem?_map,List.getElem?_eq_getElem hi'];rfl
 refine⟨p.map λi=>zs.getD i (0,[]),HT.Je _ zs hp,?_,?_⟩
 ·rw[List.pairwise_map];refine List.Pairwise.imp_of_mem ?_ hw;intro i j hi hj h;rw[(g i hi).1,(g j hj).1]at h;exact h
 ·rw[List.map_map];exact List.map_congr_left λi hi=>(g i hi).2
theorem zaW{H:Hp}:∀{kvs:List (List Key×V)} {xs:List (List Key×Addr×Value)} {ls:ZA},KT H kvs xs->kvs.map (·.1)=ls.map kI->∃zs:ZB,zs.map (·.2)=ls/\(xs.map λx=>Value.ref x.2.1)=zs.map (λz=>Value.ref z.1)/\(∀z∈zs,H z.1=some (.tup (z.2.map V.int)))/\xs.map (·.1)=ls.map kI
 |[],[],ls,.nil,e=>by
  cases ls with
  |nil=>exact⟨[],rfl,rfl,by simp,rfl⟩
  |cons _ _=>simp at e
 |p::kvs,q::xs,ls,.cons h t,e=>by
  cases ls with
  |nil=>simp at e
  |cons l ls=>
   rw[List.map_cons,List.map_cons]at e;injection e with e1 e2
   obtain⟨zs,h1,h2,h3,h4⟩:=zaW t e2;refine⟨(q.2.1,l)::zs,by simp[h1],by simp[h2],λz hz=>?_,?_⟩
   ·rcases List.mem_cons.mp hz with rfl | hz
    ·have:=h.2.1;rw[e1,zew]at this;exact this
    ·exact h3 z hz
   ·rw[List.map_cons,List.map_cons,h4,<-h.1,e1]
section
variable {X:Cx}
def zgd:List V->Hp->VK->Prop:=λxs H Q=>Ex3 λ(a:Addr) (kvs:List (List Key×V)) (ls:ZA)=>xs=[.ref a]/\H a=some (.dT kvs)/\kvs.map (·.1)=ls.map kI/\ls.length<=60/\(∀l∈ls,l≠[]) /\
 ∀(p:Addr) (zs':ZB),H p=none->(zs'.map (·.2)).Perm ls->zs'.Pairwise (λx y=>HT.lexLt x.2 y.2=true)->(∀z∈zs',H z.1=some (.tup (z.2.map V.int)))->Q (.ref p) (upd H p (.lst (zs'.map λz=>V.ref z.1)))
theorem zfD(hcalm:X.calm=true:=by rfl):vg X (.builtin "sorted") zgd:=by
 intro pins s Z H xs us Q I r h;obtain⟨a,kvs,ls,rfl,ha,hks,h60,hne,q⟩:=h;obtain⟨u,rfl,rx⟩:=vals1 r;cases rx
 obtain⟨z,hd,xs,rel,o,es,ep,h1,h2,h3,h4,h5,h6⟩:=zf5 I.hok ha;obtain⟨zs,hz2,hzr,hzt,hx1⟩:=zaW rel hks;have hzl:zs.length=ls.length:=by rw[<-hz2,List.length_map]
 have nd:(zs.map (·.2)).Nodup:=by
  rw[hz2];rw[hx1]at h6;exact (List.pairwise_map.mp h6).imp λhab e=>hab (by rw[e])
 have hraw:HT.RawD s.heap a (zs.map λz=>Value.ref z.1) ep:=⟨o,es,h1,h2,h3,by rw[h4,List.map_map,<-hzr];rfl⟩
 have hkl:(zs.map λz=>Value.ref z.1).length=zs.length:=List.length_map ..;have hO:=zgw nd;rw[List.length_map]at hO;have hzt':∀z∈zs,H z.1=some (.tup (z.2.map V.int))/\z.2≠[]:=λz hz=>⟨hzt z hz,hne _ (by rw[<-hz2];exact List.mem_map.mpr ⟨z,hz,rfl⟩)⟩
 refine HT.zft (n:=zs.length) (κ:=tuples' true) (Pv:=λvs=>vs=zs.map λz=>Value.ref z.1) (by omega) (λR hR=>?_) λvs hl hv=>?_
 ·refine kdu_collect (HT.zgc hd) (I.ok.hd hcalm) hraw (by rw[hkl];exact Nat.le_trans (show zs.length<=60 by omega) (by decide)) λh' tk acc hk hacc=>?_;have hal:acc.toList.length=zs.length:=by rw[Array.length_toList,hacc.1,hkl]
  refine hR h' tk acc.toList hk hal ?_;apply List.ext_getElem?;intro i;cases e:acc.toList[i]? with
  |some v=>exact (hacc.2 i v (by rw[<-Array.getElem?_toList];exact e)).symm
  |none=>rw[List.getElem?_eq_none (by rw[hkl,<-hal];exact List.getElem?_eq_none_iff.mp e)]
 ·subst hv;have gr:∀i,i<zs.length->(zs.map λz=>Value.ref z.1).getD i Value.none=.ref (zs.getD i (0,[])).1/\(zs.map (·.2)).getD i []=(zs.getD i (0,[])).2/\zs.getD i (0,[])∈zs:=λi hi=>by
   have e:zs.getD i (0,[])=zs[i]:=by rw[List.getD_eq_getElem?_getD,List.getElem?_eq_getElem hi];rfl
   rw[e];refine⟨?_,?_,List.getElem_mem _⟩
   ·rw[List.getD_eq_getElem?_getD,List.getElem?_map,List.getElem?_eq_getElem hi];rfl
   ·rw[List.getD_eq_getElem?_getD,List.getElem?_map,List.getElem?_eq_getElem hi];rfl
  refine⟨_,hO,λG tk kG hn2 Q' hq=>?_,λG tk kG i j C hi hj hC=>?_,λp h' h'' tk e hp hw k1 k2 hat=>?_⟩
  ·obtain⟨fs,ht,hfl,hfi⟩:=Jw (I.kept kG) zs hzt';refine kat_kind (T:=.type "int") ht (by omega) (λv hv=>?_) (by decide) (by exact hq);obtain⟨n,t,rfl⟩:=hfi v hv;exact Looks.of_pure rfl
  ·obtain⟨a1,a2,a3⟩:=gr i hi;obtain⟨b1,b2,b3⟩:=gr j hj;unfold kas_ask;rw[a1,b1];refine ze2 (I.kept kG) (hzt _ a3) (hzt _ b3) ?_;rw[a2,b2]at hC;exact hC
  ·obtain⟨zs',pm,pw,hm⟩:=zeM hp hw;rw[hm]at hat;have I1:=I.kept (t':=tk) k1;have hfree:=I1.hok.fresh (Nat.le_refl _);have hl':=pm.length_eq;refine⟨.ref h'.objs.size,_,I1.laid (o:=.lst (zs'.map λz=>V.ref z.1)) k2 (Nat.le_refl _) ⟨by rw[List.length_map];exact Nat.le_trans (show zs'.length<=60 by omega) (by decide),_,e,Vj zs',hat⟩,rfl,q _ zs' hfree (by rw[<-hz2];exact pm.map _) pw λz hz=>hzt z (pm.mem_iff.mp hz)⟩
end
open PySem PySem.Spec PyProof.Rows
section
variable {X:Cx} {tg:Expr}
end
open PySem PySem.Spec PyProof.Rows PySem.SeqAt
section
variable {X:Cx}
def zhj(K:W.Frag):List V->Hp->VK->Prop:=λxs H Q=>Ex2 λ(a:Addr) (ns:List Int)=>xs=[.ref a]/\SqL K H a (ns.map V.int)/\Q (.int ns.sum) H
theorem zeS(hc:X.calm=true):vg X (.builtin "sum") (zhj X.K):=by
 intro pins s Z H xs us Q I r h;obtain⟨a,ns,rfl,hq,q⟩:=h;obtain⟨u,rfl,rx⟩:=vals1 r;cases rx
 obtain⟨its,rv,pl,hz⟩:=I.list hq;have hi:=intsAre_of rv;obtain⟨ys,hy⟩:=hi.allInts.items;have hn:(ys.toList.map (·.1)).sum=ns.sum:=by
  have e:=hi.numsOf;have e2:=nums_intItems ys;rw[<-hy]at e2;rw[<-e,<-e2]
 refine sum_intListG (I.ok.hd hc) (by rw[<-hy];exact pl.isList) λh' tk t' hk=>?_;refine⟨.int ns.sum,H,I.kept λb o e=>hk b o e,?_,q⟩;refine⟨t',?_⟩;rw[preSum_eq,List.take_of_length_le (by simp),hn]
theorem za9(K:W.Frag)(hc:X.calm=true)(e:X.K=K:=by rfl):vg X (.builtin "sum") (zhj K):=by subst e;exact zeS hc
def zco(K:W.Frag):V->List V->Hp->VK->Prop:=λx vs H Q=>Ex6 λl xs y ts u j=>x=.ref l/\vs=[y]/\SqL K H l xs/\TrsAt K H ts xs/\TrAt K H u y/\wj ts<=8/\j<ts.length /\
 (∀t,ts[j]?=some t->teq t u=true)/\(∀m t,m<j->ts[m]?=some t->teq t u=false)/\Q (.int (j:Nat)) H
open Classical in
theorem zde(hu:X.A.units+64<cLine):MtM X "list.index" (zco X.K):=by
 intro pins s Z H x vs v us Q I rx rv h;obtain⟨l,xs,y,ts,u,j,rfl,rfl,hq,hts,ht,hd,hj,hit,hno,q⟩:=h;cases rx
 obtain⟨u0,rfl,ru⟩:=Vals.one rv;obtain⟨its,r,pl,hz⟩:=I.list hq;obtain⟨⟨cls,dd,data,sl⟩,ho,hc,n,hdat⟩:=id pl.isList;simp only at hc hdat;subst hc hdat;have l1:=hts.length;have m1:=r.length;have val:∀(m:Nat) (hm:m<its.length) (t:Tr),ts[m]?=some t->decide (∃t x,RelV x its[m]/\TrAt X.K H t x/\teq t u=true)=teq t u:=by
  intro m hm t et;obtain⟨z,ez,hz'⟩:=hts.get et;obtain⟨w,ew,rw'⟩:=r.get ez;have e':its[m]=w:=by
   rw[List.getElem?_eq_getElem hm]at ew;exact Option.some.inj ew
  rw[e',Bool.eq_iff_iff,decide_eq_true_iff];constructor
  ·rintro⟨t',x',r',h',e3⟩;rw[rw'.inj r']at hz';rw[V7 I 8 (Nat.le_trans (Yo (List.mem_of_getElem? et)) hd) hz' h'];exact e3
  ·intro e3;exact⟨t,z,rw',hz',e3⟩
 have hjs:j<its.length:=by omega
 have hsl:(sizeLine:Int)<2^63-1:=by decide
 refine call_meets PySem.F.slot_list_index ⟨_,ho,rfl⟩ PySem.F.entry_list_index (PySem.F.args_list_index_2 _ _)
  (list_indexAt l its.toArray n dd sl u0 (λy=>decide (∃t x,RelV x y/\TrAt X.K H t x/\teq t u=true)) j (by simpa using hjs) (by omega) ?_ ?_) ⟨ho,JW I hu ht ru hd hts r,?_⟩
 ·have q:=val j hjs _ (List.getElem?_eq_getElem hj);rw[hit _ (List.getElem?_eq_getElem hj)]at q;simpa using q
 ·intro m hm hlt;have hm':m<ts.length:=by omega
  have q:=val m (by omega) _ (List.getElem?_eq_getElem hm');rw[hno m _ hlt (List.getElem?_eq_getElem hm')]at q;simpa using q
 ·exact⟨.int (j:Nat),H,I.kept λb o e=>e,⟨_,rfl⟩,q⟩
theorem zd9(K:W.Frag)(hu:X.A.units+64<cLine)(e:X.K=K:=by rfl):MtM X "list.index" (zco K):=by subst e;exact zde hu
end
structure CScopeT (sc:Scope) (scope:Scope) (xs:List Str) (M:List Str) (ys:List Str) (js:List Nat):Prop where
 kind:scope.kind=.function:=by rfl
 cell:∀y∈scope.names,y.2≠.cell:=by decide +kernel
 loc:∀y∈scope.names,y.2=.local->scope.names.lookup y.1=some .local:=by decide +kernel
 var:∀x∈xs,scope.names.lookup x=some .local:=by decide +kernel
 free:∀y∈scope.names,y.2=.free->sc.names.lookup y.1=some .cell\/sc.names.lookup y.1=some .free:=by decide +kernel
 caps:js.map (M[·]?)=ys.map some:=by rfl
 fr:∀y∈ys,scope.names.lookup y=some .free:=by decide +kernel
 nd:(xs++ys).Nodup:=by decide +kernel
theorem CScope.nofree(kind:scope.kind=.function)(cell:∀y∈scope.names,y.2≠.cell)(loc:∀y∈scope.names,y.2=.local->scope.names.lookup y.1=some .local)(var:scope.names.lookup x=some .local)(free:∀y∈scope.names,y.2≠.free):CScope sc scope x M [] [] :=
 ⟨kind,cell,loc,var,λy hy e=>absurd e (free y hy),rfl,by simp,by simp⟩
section
variable {X:Cx} {elt iter:Expr} {ifs:List Expr} {tg:Expr} {xs:List Str} {pos:Pos} {g:TG} {scope:Scope} {ys:List Str} {js:List Nat} {wi:TI} {tt:TT} {te:TE}
theorem CScopeT.gn(S:CScopeT sc scope xs N ys js):zbv sc scope xs [] N ys js:=⟨S.kind,λy h e=>absurd e (S.cell y h),S.loc,S.free,S.caps,S.fr,S.nd,nofun,nofun,λ_ _=>Us S.cell,λ_=>nofun⟩
theorem zbr(S:CScopeT X.env.scope scope xs X.N ys js)(hc:X.calm=true)(hi:PI X tg iter wi)(hg:∀C s₀ H₀ ex,PG (cxC X (xs++ys) scope C s₀ H₀ ex) tg g)(ht:∀C s₀ H₀ ex,PTs (cxC X (xs++ys) scope C s₀ H₀ ex) ifs tt)(he:∀C s₀ H₀ ex,PE (cxC X (xs++ys) scope C s₀ H₀ ex) elt te)(hs:∀x,foldedSetIterable iter X.env x=pure x:=by intro _;rfl):PE X (.ListComp elt [⟨tg,iter,ifs,0⟩] scope pos) (zgj wi xs js g tt te):=zbd (λ_ _ _ _ h=>h) S.gn hc hi hg ht he hs
end
theorem Ub{K:W.Frag}(Pv:Nat->List V->Hp->Prop)(h0:Pv 0 [] H)(hl:∀i ys H,i<=xs.length->Pv i ys H->SqL K H a xs)(hs:∀i x ys H,xs[i]?=some x->Pv i ys H->ys.length<sizeLine/\g x (nones ns++qX js Z) H fun σ' H1=>(∃vs:St,vs.length=ns.length/\σ'=vs++qX js Z)/\tt σ' H1 λb H2=>if b=true then te σ' H2 λv H3=>Pv (i+1) (ys++[v]) H3 else Pv (i+1) ys H2)(hd:∀ys H,Pv xs.length ys H->∀D,H D=none->Q (.ref D) (upd H D (.lst ys))):
  jo (Itl K a) ns js g tt te Z Q H:=by
 refine⟨λi m ys H=>m=xs.length-i/\i<=xs.length/\Pv i ys H,⟨xs.length,by simp,Nat.zero_le _,h0⟩,?_⟩;rintro i m ys H ⟨rfl,hi,p⟩;have q:=hl i ys H hi p;by_cases hlt:i<xs.length
 ·have hx:=List.getElem?_eq_getElem hlt;obtain⟨hz,hst⟩:=hs i xs[i] ys H hx p;refine .inr ⟨⟨xs,xs[i],q,hx⟩,hz,Pv (i+1),λys' H' p'=>⟨xs.length-(i+1),by omega,rfl,hlt,p'⟩,λx H' y=>?_⟩;obtain⟨e,y⟩:=y;subst e;have e2:=y xs q;rw[hx]at e2;cases e2
  exact hst
 ·have e:i=xs.length:=by omega
  subst e;exact .inl ⟨⟨xs,q,Nat.le_refl _⟩,hd ys H p⟩
theorem zer(K:W.Frag){k:Nat}{pos:Pos}(n:Nat)(hc:X.calm=true)(h:PGs X es t)(e:X.K=K:=by rfl)(hn:(assignEach es X.env).length=n:=by rfl)(hst:(assignEach es X.env).findIdx? (·.1)=none:=by rfl):PG X (.Tuple es k pos) (zht K n t):=by subst e;exact zab hc h hn hst
theorem Wh(K:W.Frag){pos:Pos}(he:PE X e ta)(hb:attributeBase e f X.env (eval e X.env)=eval e X.env:=by rfl)(ek:X.K=K:=by rfl):PE X (.Attribute e f pos) (zhi K ta f):=by subst ek;exact zgE he hb
structure Mt (K:W.Frag) (C:Addr) (q x:Str) (st:Stmt) (ps:List Str) (f:Addr) (fd:FuncData):Prop where
 fn:Fun K x q st f fd
 b:Binds K fd ps []
 m:Meth K C x f
theorem zbA{st:Stmt}{apos pos:Pos}{pl:Sem Bool}(D:Mt X.K C q x st ps f fd)(c:Cls X.K C)(G:FnOk X.prog X.w X.K X.mg X.base CX0 k f fd ps sp)(hr:Room k X.A)(he:PE X o ta)(ha:PA X (e::es) t)(hst:starEach (e::es) X.env=(false,eval e X.env)::starEach es X.env:=by rfl)(hpl:(backTo pos (starEach es X.env)).any (·.1)=false:=by rfl)(ht:eval (.Call (.Attribute o x apos) (e::es) [] pos) X.env=(do
   let ov <-eval o X.env
   standAt apos.atName
   let (f,first) <-holding [ov] (getMethod ov x pl)
   callWith pos f first (backTo pos (starEach (e::es) X.env)) (backToKw pos (keywordEach [] X.env))):=by rfl):PE X (.Call (.Attribute o x apos) (e::es) [] pos) (zf7 C x sp [] E0 ta t):=
 zfQ he c D.m G hr D.b .nil zdT ha hst hpl ht
structure Wu (mg:Str->Option Value):Prop where
 n_sum:mg "sum"= none
 n_abs:mg "abs"= none
 n_zip:mg "zip"= none
 n_str:mg "str"= none
section
variable {X:Cx} {tg:Expr}
end
theorem Inv.turned2{Z:St}{e it T:Addr}(I:Inv X pins Z H s)(k:∀b o,b≠e->b≠it->s.heap.get? b=some o->h'.get? b=some o)(fe:U6 X pins H e)(fi:U6 X pins H it)(hT:s.heap.objs.size<=T)(new:ObjOk X.prog X.w (upd H T o) h' T o):Inv X pins Z (upd H T o) { s with heap:=h',toks:=t' }:=by
 have hn:=I.hok.fresh hT;have na:∀b u,H b=some u->b≠T:=λb u e z=>by rw[z,hn]at e;cases e
 have ne:∀b u,H b=some u->b≠e:=λb u q z=>by rw[z,fe.1]at q;cases q
 have ni:∀b u,H b=some u->b≠it:=λb u q z=>by rw[z,fi.1]at q;cases q
 have k':∀b o,b∉[e,it]->s.heap.get? b=some o->h'.get? b=some o:=λb o hb q=>k b o (λz=>hb (by simp[z])) (λz=>hb (by simp[z])) q;refine I.step (λb hb=>?_) (λb o _ _ hc q _=>k' b o hc q) (λb o _ _ hc q _=>⟨o.slots,k' b o hc q⟩) (λb o hc q n=>by rw[zB (Nat.ne_of_lt (Nat.lt_of_lt_of_le (Heap.lt_size q) hT))];exact n)
  (λb o hc q=>⟨o,k' b o hc q⟩) (λb xs q=>by rw[zB (na b _ q)];exact q) (λb o u q=>by rw[zB (na b _ q)];exact q) (λb ps q=>⟨#[],by rw[zB (na b _ q),q];simp⟩) (λm hm=>?_) (λb u q=>?_) I.bare
 ·rcases List.mem_cons.mp hb with z | hb
  ·subst z;exact⟨fe.2.2.2.1,fe.2.1,fe.2.2.2.2.1,fe.2.2.2.2.2⟩
  ·have z:b=it:=by simpa using hb
   subst z;exact⟨fi.2.2.2.1,fi.2.1,fi.2.2.2.2.1,fi.2.2.2.2.2⟩
 ·obtain⟨o,es,ep,ho,r⟩:=hm;exact⟨o,es,ep,k _ o (Ne.symm fe.2.1) (Ne.symm fi.2.1) ho,r⟩
 ·by_cases hb:b=T
  ·subst hb;rw[zp]at q;cases q
   exact new
  ·rw[zB hb]at q;refine (I.hok b u q).stay (λc v hc z=>k c v ?_ ?_ z) (λc z=>by rw[zB (na c _ z)];exact z) λc xs z=>by rw[zB (na c _ z)];exact z
   ·rcases hc with rfl | hc
    ·exact ne _ _ q
    ·exact ne _ _ hc
   ·rcases hc with rfl | hc
    ·exact ni _ _ q
    ·exact ni _ _ hc
def Ite(K:W.Frag)(a:Addr):It :=
 ⟨λi H=>∃xs x,SqL K H a xs/\xs[i]?=some x,λi H v H'=>∃T x,v=.ref T/\H T=none/\H'=upd H T (.tup [.int (i:Nat),x])/\∀xs,SqL K H a xs->xs[i]?=some x,λi H=>∃xs,SqL K H a xs/\xs.length<=i⟩
theorem zdp{P:Program}{w:World}{K:W.Frag}{elts:List Expr}{k:Nat}{tp:Pos}(a e it:Addr)(hei:e≠it):Turn P w K (.Tuple elts k tp) (Ite K a) [e,it] e (λi h=>(∃old,IsEnum h e it i old)/\h.IsListIter it a i) where
 mem:=by simp
 obj:=λi h st b hb=>by
  obtain⟨⟨old,he⟩,o,hi,c,d⟩:=st;rcases List.mem_cons.mp hb with z | hb
  ·subst z;exact⟨_,he,λv z=>by
    have z':=z;cases z'⟩
  ·have z:b=it:=by simpa using hb
   subst z;exact⟨o,hi,λv z=>by rw[d]at z;cases z⟩
 keep:=λi h h' st k=>by
  obtain⟨⟨old,he⟩,hi⟩:=st;exact⟨⟨old,k e (by simp) _ he⟩,hi.at λo q=>k it (by simp) o q⟩
 item:=by
  intro X hP hw hK hc i pins s Z H E I hf st hg;subst hP hw hK;obtain⟨xs,x,hq,hx⟩:=hg;obtain⟨its,rv,p,hz⟩:=I.list hq;obtain⟨u,hu,ru⟩:=rv.get hx;obtain⟨⟨old,he⟩,hi⟩:=st;refine wpAny_pyNext_enum_item he hi p.isList (by simpa using hu) hei λh' ho hi' hT hsz hk=>?_;refine⟨_,rfl,?_⟩;refine wpAny_letOwnedTupleGo_enum ho λh'' he' hs'=>?_;have helt:=Heap.lt_size he;have hT2:=(hs'.2 _ (Nat.ne_of_gt helt)).trans hT;have fe:=hf e (by simp);have fi:=hf it (by simp);have I1:Inv X pins Z (upd H s.heap.objs.size (.tup [.int i,x])) { s with heap:=h'',toks:=s.toks+1 }:=by
   refine I.turned2 (λb o hb1 hb2 q=>(hs'.2 b hb1).trans (hk b o hb1 hb2 q)) fe fi (Nat.le_refl _) ⟨by show 2<=sizeLine;decide,[.int i s.toks,u],.cons ⟨_,rfl⟩ (.cons ru .nil),_,hT2,rfl,0,rfl⟩
  refine⟨.ref s.heap.objs.size,_,I1,rfl,⟨s.heap.objs.size,x,rfl,I.hok.fresh (Nat.le_refl _),rfl,λys hy=>by rw[I.list_inj hy hq];exact hx⟩,⟨⟨_,by simpa using he'⟩,hi'.at λo q=>(hs'.2 it (Ne.symm hei)).trans q⟩,λb hb=>?_⟩;have hbl:b<s.heap.objs.size:=by
   rcases List.mem_cons.mp hb with z | hb
   ·rw[z];exact helt
   ·have z:b=it:=by simpa using hb
    obtain⟨o,q,_⟩:=hi;rw[z];exact Heap.lt_size q
  rw[zB (Nat.ne_of_lt hbl)];exact (hf b hb).1
 done:=by
  intro X hP hw hK hc i pins s Z H E I hf st hg;subst hP hw hK;obtain⟨xs,hq,hx⟩:=hg;obtain⟨its,rv,p,hz⟩:=I.list hq;obtain⟨⟨old,he⟩,hi⟩:=st;obtain⟨f0,f1,f2,f3,f4,f5⟩:=hf it (by simp);have hl:=rv.length;exact wpAny_pyNext_enum_end (I.ok.hd hc) he hi p.isList (by simp;omega) λh' eb=>⟨rfl,I.turned (λb o hb q=>eb b o hb q) f0 f1 f3 f4 f5⟩
 self:=λ_ _ _ _ _ st h=>by
  obtain⟨⟨old,he⟩,_⟩:=st;exact wpAny_pyIter_enum he h
section
variable {X:Cx}
def zhf(K:W.Frag)(tl:TA):TI:=λZ H R=>tl Z H λvs H1=>∃a,vs=[.ref a]/\(∃xs,SqL K H1 a xs)/\R (Ite K a) H1
theorem zcL(K:W.Frag){elts:List Expr}{k:Nat}{tp:Pos}{p pos:Pos}(hg:Gl X "enumerate")(hm:X.mg "enumerate"= none)(ha:PA X [a] ta)(hs:starEach [a] X.env=[(false,eval a X.env)]:=by rfl)(ek:X.K=K:=by rfl):
  PI X (.Tuple elts k tp) (.Call (.Name "enumerate" p) [a] [] pos) (zhf K ta):=by
 subst ek;intro pins s Z H R I h;refine Call_ (ZV I hg hm boot_enumerate (PyProof.Rows.callWith_type1 (thn (ha pos pins s Z H _ I h) λus s1 ⟨vs,H1,I1,r1,q1⟩=>?_) (by rw[hs];rfl) (by rfl)));obtain⟨l,e,⟨xs,hq⟩,q⟩:=q1;subst e;cases r1 with
 |cons r rr=>
  cases rr;cases r
  obtain⟨its,rv,pl,hz⟩:=I1.list hq;refine call_enumerate_list pl.isList λh' he hi hsz hk=>?_;refine wpAny_pyIter_enum he ?_;have I2:=I1.kept (t':=s1.toks) λb o q=>hk b o q;refine⟨s1.heap.objs.size+1,[s1.heap.objs.size+1,s1.heap.objs.size],_,_,H1,rfl,I2,zdp l _ _ (Nat.succ_ne_self _),⟨⟨_,he⟩,hi⟩,λb hb=>?_,q⟩;have hb2:s1.heap.objs.size<=b:=by
   rcases List.mem_cons.mp hb with z | hb
   ·rw[z];exact Nat.le_succ _
   ·have z:b=s1.heap.objs.size:=by simpa using hb
    rw[z];exact Nat.le_refl _
  exact I1.fpOk hb2 (I1.hok.fresh hb2)
theorem za2{K:W.Frag}{g:TG}{tb:TS}{D:Ends}(Pv:Nat->St->Hp->Prop)(h0:Pv 0 Z H)(hl:∀i Z H,i<=xs.length->Pv i Z H->SqL K H a xs)(hs:∀i x Z H T,xs[i]?=some x->Pv i Z H->H T=none->g (.ref T) Z (upd H T (.tup [.int (i:Nat),x])) fun σ2 H2=>tb { D with nx:=Pv (i+1),ct:=Pv (i+1),bk:=D.nx } σ2 H2)(hd:∀Z H,Pv xs.length Z H->D.nx Z H):
  ∃W:Nat->Nat->St->Hp->Prop,(∃m,W 0 m Z H)/\∀i m Z H,W i m Z H ->
   ((Ite K a).stop i H/\D.nx Z H)\/((Ite K a).go i H/\∃N:St->Hp->Prop,(∀σ' H',N σ' H'->∃m',m'<m/\W (i+1) m' σ' H')/\∀x H',(Ite K a).yld i H x H'->g x Z H' fun σ2 H2=>tb { D with nx:=N,ct:=N,bk:=D.nx } σ2 H2):=by
 refine⟨λi m Z H=>m=xs.length-i/\i<=xs.length/\Pv i Z H,⟨xs.length,by simp,Nat.zero_le _,h0⟩,?_⟩;rintro i m Z H ⟨rfl,hi,p⟩;have q:=hl i Z H hi p;by_cases hlt:i<xs.length
 ·have hx:=List.getElem?_eq_getElem hlt;refine .inr ⟨⟨xs,xs[i],q,hx⟩,Pv (i+1),fun σ' H' p'=>⟨xs.length-(i+1),by omega,rfl,hlt,p'⟩,λv H' y=>?_⟩;obtain⟨T,x,rfl,hT,rfl,hy⟩:=y;have e2:=hy xs q;rw[hx]at e2;cases e2
  exact hs i xs[i] Z H T hx p hT
 ·have e:i=xs.length:=by omega
  subst e;exact .inl ⟨⟨xs,q,Nat.le_refl _⟩,hd Z H p⟩
end
def Qm(c:Addr)(q:Str):HO:=.ext λh=>h.CodeRec (.ref c) q
def zcy(P:Addr)(pos:Pos)(q:Str)(H:Hp)(c:Addr):Prop:=H P=some (.tbl #[rawInt pos.line,rawInt pos.col,.ref c])/\H c=some (Qm c q)
def Xr(P:Addr)(pos:Pos)(q:Str)(H:Hp):Prop:=H P=some (.tbl #[])\/∃c,zcy P pos q H c
section
variable {P:Program} {w:World} {K:Frag} {mg:Str->Option Value} {base:Heap} {N ps:List Str} {k:Nat} {A:Around} {outer:List Env} {s:Shared} {H:Hp} {us:List Value} {vs:List V} {Q:VK} {E:XK} {f:Addr} {o:Obj}
 {name qual:Str} {params:Arguments} {body:Expr} {scope:Scope} {pm cdv ct:Value} {args:Args}
theorem zfn(ho:s.heap.get? f=some o)(hd:o.data=.func (kla_fn name qual params body scope [] pm cdv ct))(hcd:s.heap.CodeRec cdv qual)(S:zF N ps scope)(hr:Room (k+1) A)(e0:Env0 P w K mg base A outer s H)(hb:BindsTo s (kla_fn name qual params body scope [] pm cdv ct) args (ps.zip us))(hl:vs.length=ps.length)(r:Vals vs us)(hbody:∃t,PE (XJ CX0 P w K mg base N qual scope f cdv A outer s H E) body t/\t (start N vs) H Q):codeAny (model P w) A (.call (.ref f) args) (CR CX0 outer P w H s Q E) s:=by
 have lim:=e0.mod.nolimit.keeps λb o e=>(e0.bs b o e).1;have hkind:∀y∈ps.zip us,scope.names.lookup y.1=some .local\/(scope.names.lookup y.1=some .cell/\((cellsFrom (s.heap.objs.size+1) scope.names []).lookup y.1).isSome=true):=λ⟨n,v⟩ hy=>by
  rcases S.par n (List.of_mem_zip hy).1 with q | q
  ·exact .inl q
  ·exact .inr ⟨q,W.cellsFrom_some _ _ _ (.inl q)⟩
 refine kla_callFunE hr.depth ho hd S.co S.gen rfl hcd (hb _ _ _ _ ?_);refine wpAny_newFunctionEnv_cells S.kind hkind λenv he s1 x=>?_;subst he;refine⟨lim.keeps x.toInCall.keep,kla_codeExpr ?_⟩;obtain⟨t,ht,hq⟩:=hbody;have I:Inv (XJ CX0 P w K mg base N qual scope f cdv A outer s H E) [] (start N vs) H s1:=Jo S hr.hd e0 hl r x;refine wpAny_mono (ht [] s1 (start N vs) H _ I hq) (λu s' hs=>?_) λe s' hs=>hs;obtain⟨v,H',J,rv,q⟩:=hs;exact⟨v,H',J.os,J.bare,J.base,J.hok,rv,q⟩
end
section
variable {X:Cx} {pins:List (Addr×Obj)} {Z:St} {H:Hp} {s:Shared} {params:Arguments} {body:Expr} {scope:Scope} {pos:Pos} {c P:Addr} {Q:Value->Shared->Prop}
theorem zdE(I:Inv X pins Z H s)(hdef:defaultsOf params X.env=([],[]))(hcl:closureFor scope X.env=pure [])(hcode:X.env.code=.ref c)(hK:codeHdIn X.K c P=true)(hB:X.base.BuiltinsAt X.mg P)(hgP:mainGlobals≠P)(hT:Xr P pos (X.env.qual ++ "<lambda>") H)(h:∀f c' H' s' pm ct,Inv X pins Z H' s'->zcy P pos (X.env.qual ++ "<lambda>") H' c'->s'.heap.get? f=some (kla_obj "<lambda>" (X.env.qual ++ "<lambda>") params body scope [] pm c' ct)->H' f=none->s.heap.objs.size<=f ->
   (∀b u,b≠P->H b=some u->H' b=some u)->Q (.ref f) s'):
  wpAny (model X.prog X.w) X.A (eval (.Lambda params body scope pos) X.env) Q X.xe s:=by
 have C:=codeHd_of_K I.kIn hK;have hg:=I.mod.glob.keeps I.bk;have hb:s.heap.BuiltinsAt X.mg P:=by
  obtain⟨bm,o,b1,b2,b3,b4,b5,b6,b7,b8⟩:=hB;exact⟨bm,o,b1,b2,b3,b4,I.bk _ _ b5,b6,b7,b8⟩
 refine kla_eval hdef ?_;rcases hT with hP | ⟨c',hP,hc'⟩
 ·have hPo:=I.hok P _ hP;refine kla_makeFunction hcl I.ok.glob hg hcode C hPo (show TriplesOk [] from trivial) rfl hgP hb λc' ct h' tk hx hge hlt hrec htb=>?_;have htb':=htb;have hPc:P≠c':=λz=>by
   have:=Heap.lt_size hPo;rw[z]at this;exact absurd (Nat.lt_of_lt_of_le this hge) (Nat.lt_irrefl _)
  have hHc:=I.hok.fresh hge;have old:∀b o,b≠P->s.heap.get? b=some o->(h'.push (kla_obj "<lambda>" (X.env.qual ++ "<lambda>") params body scope [] ((X.mg "__name__").getD .none) c' ct)).get? b=some o:=λb o hb e=>Heap.get?_push_of_some _ (hx b o hb e);have nP:∀b,H b=none->b≠P:=λb n z=>by rw[z,hP]at n;cases n
  have up:∀b u,b≠P->H b=some u->upd (upd H P (.tbl #[rawInt pos.line,rawInt pos.col,.ref c'])) c' (Qm c' (X.env.qual ++ "<lambda>")) b=some u:=λb u hb e=>by
   rw[zB (λz=>by rw[z,hHc]at e;cases e),zB hb];exact e
  have upn:∀b,b≠P->b≠c'->H b=none->upd (upd H P (.tbl #[rawInt pos.line,rawInt pos.col,.ref c'])) c' (Qm c' (X.env.qual ++ "<lambda>")) b=none:=λb h1 h2 e=>by
   rw[zB h2,zB h1];exact e
  have J:Inv X pins Z (upd (upd H P (.tbl #[rawInt pos.line,rawInt pos.col,.ref c'])) c' (Qm c' (X.env.qual ++ "<lambda>"))) { s with heap:=h'.push (kla_obj "<lambda>" (X.env.qual ++ "<lambda>") params body scope [] ((X.mg "__name__").getD .none) c' ct),toks:=tk }:=by
   refine I.un ⟨λb o e n _ _=>old b o (nP b n) e,λb o e n _ _=>⟨o.slots,old b o (nP b n) e⟩,λb o e n _=>upn b (nP b n) (Nat.ne_of_lt (Nat.lt_of_lt_of_le (Heap.lt_size e) hge)) n,λb o e _=>?_,λb xs e=>up b _ (λz=>by rw[z,hP]at e;cases e) e,λb o u e=>up b _ (λz=>by rw[z,hP]at e;cases e) e,λb ps e=>?_⟩ ?_
   ·by_cases hb:b=P
    ·rw[hb];exact⟨_,Heap.get?_push_of_some _ htb'⟩
    ·exact⟨o,old b o hb e⟩
   ·by_cases hb:b=P
    ·rw[hb]at e ⊢;rw[hP]at e;cases e
     exact⟨#[rawInt pos.line,rawInt pos.col,.ref c'],by rw[zB hPc,zp];rfl⟩
    ·exact⟨#[],by rw[up b _ hb e];simp⟩
   ·intro b u e;by_cases hbc:b=c'
    ·subst hbc;rw[zp]at e;cases e
     obtain⟨c2,oc,vs,t,e1,e2,e3,e4⟩:=id hrec;cases e1
     have q:=Heap.get?_push_of_some (kla_obj "<lambda>" (X.env.qual ++ "<lambda>") params body scope [] ((X.mg "__name__").getD .none) b ct) e2;refine⟨⟨b,oc,vs,t,rfl,q,e3,e4⟩,⟨oc,q⟩,λh1 h2 ⟨c3,o3,v3,t3,a1,a2,a3,a4⟩ k=>?_⟩;cases a1
     exact⟨b,o3,v3,t3,rfl,k _ a2,a3,a4⟩
    ·rw[zB hbc]at e;by_cases hbP:b=P
     ·rw[hbP]at e ⊢;rw[zp]at e;cases e
      exact Heap.get?_push_of_some _ htb'
     ·rw[zB hbP]at e;refine (I.hok b u e).stay (λd v hd q=>old d v ?_ q) (λd q=>?_) λd xs q=>?_
      ·rcases hd with rfl | hd
       ·exact hbP
       ·intro z;rw[z,hP]at hd;cases hd
      ·exact up d _ (λz=>by rw[z,hP]at q;cases q) q
      ·exact up d _ (λz=>by rw[z,hP]at q;cases q) q
  have hsz:=Nat.le_of_lt (Nat.lt_of_le_of_lt hge hlt);refine h _ c' _ _ _ ct J ⟨by rw[zB hPc,zp],zp⟩ (Heap.get?_push_size _ rfl) ?_ hsz up;exact upn _ (Nat.ne_of_gt (Nat.lt_of_lt_of_le (Heap.lt_size hPo) hsz)) (Nat.ne_of_gt hlt) (I.hok.fresh hsz)
 ·have hPo:=I.hok P _ hP;refine kla_makeFunctionHit hcl I.ok.glob hg hcode C hPo (show TriplesOk [rawInt pos.line,rawInt pos.col,.ref c'] from trivial) (cv:=.ref c') ?_ hb λct h' tk hk hsz=>?_
  ·have:=codeAmong_snoc (pos:=pos) (c:=.ref c') [] trivial rfl;exact this
  ·exact h _ c' H _ _ ct (I.kept λb u e=>Heap.get?_push_of_some _ (hk b u e)) ⟨hP,hc'⟩ (Heap.get?_push_size _ rfl) (I.hok.fresh hsz) hsz (λb u _ e=>e)
end
end L2
namespace HT
def um(a b:List Int):Bool:=if a.length=b.length then lexLt a b else decide (a.length<b.length)
theorem JD(a:List Int):um a a=false:=by unfold um;rw[if_pos rfl,jk]
theorem Vu(a b c:List Int)(h1:um a b=true)(h2:um b c=true):um a c=true:=by
 unfold um at *;by_cases e1:a.length=b.length
 ·rw[if_pos e1]at h1;by_cases e2:b.length=c.length
  ·rw[if_pos e2]at h2;rw[if_pos (e1.trans e2)];exact jN a b c h1 h2
  ·rw[if_neg e2]at h2;rw[if_neg (by omega)];have:=of_decide_eq_true h2;exact decide_eq_true (by omega)
 ·rw[if_neg e1]at h1;have h1':=of_decide_eq_true h1;by_cases e2:b.length=c.length
  ·rw[if_neg (by omega)];exact decide_eq_true (by omega)
  ·rw[if_neg e2]at h2;have:=of_decide_eq_true h2;rw[if_neg (by omega)];exact decide_eq_true (by omega)
theorem zbM(a b:List Int)(h:a≠b):um b a=!um a b:=by
 unfold um;by_cases e:a.length=b.length
 ·rw[if_pos e,if_pos e.symm,XH a b h]
 ·rw[if_neg e,if_neg (Ne.symm e),Bool.eq_iff_iff];simp;omega
theorem zhM{ls:ZA}(nd:ls.Nodup):Ord (λi j=>um (ls.getD i []) (ls.getD j [])) ls.length:=by
 have ge:∀i,(h:i<ls.length)->ls.getD i []=ls[i]:=λi h=>by rw[List.getD_eq_getElem?_getD,List.getElem?_eq_getElem h];rfl
 refine⟨λi j k _ _ _ h1 h2=>Vu _ _ _ h1 h2,λi j hi hj hij h=>?_,λi j hi hj h=>?_⟩
 ·have ne:ls.getD i []≠ls.getD j []:=λz=>by
   rw[ge i hi,ge j hj]at z;exact hij ((List.getElem_inj nd).mp z)
  have:=zbM _ _ ne;rw[h]at this;exact this
 ·cases e:um (ls.getD j []) (ls.getD i []) with
  |false=>rfl
  |true=>
   have:=Vu _ _ _ h e;rw[JD]at this;cases this
end HT
namespace L2
open PySem PySem.Spec PyProof.Rows PySem.W
section
variable {X:Cx} {pins:List (Addr×Obj)} {Z:St} {H:Hp} {s:Shared}
theorem zbN(I:Inv X pins Z H s)(h:H p=some (.tup [.int n,.ref z])):∃t o m,s.heap.get? p=some o/\o.cls=.type "tuple"/\o.data=.seq #[.int n t,.ref z] m:=by
 obtain⟨_,its,r,o,e,hc,m,hd⟩:=I.hok p _ h;cases r with
 |cons r1 r2=>
  cases r2 with
  |cons r3 r4=>
   cases r4;obtain⟨t,rfl⟩:=r1
   cases r3;exact⟨t,o,m,e,hc,hd⟩
theorem zgV(I:Inv X pins Z H s)(hp:H p=some (.tup [.int as.length,.ref za]))(hq:H q=some (.tup [.int bs.length,.ref zb]))(ha:H za=some (.lst (as.map V.int)))(hb:H zb=some (.lst (bs.map V.int)))(hu:A.units+2<cLine)(h:Q (HT.um as bs) s):wpAny (model X.prog X.w) A (keyLt' (tuples' true) (.ref p) (.ref q)) Q E s:=by
 obtain⟨t,o,m,e,_,hd⟩:=zbN I hp;obtain⟨t',o',m',e',_,hd'⟩:=zbN I hq;refine kat_lt e hd e' hd' ?_;refine kat_cons (wpAny_eqBool_int ?_);unfold HT.um at h;by_cases hl:as.length=bs.length
 ·rw[if_pos hl]at h;have e1:(as.length == (bs.length:Int))=true:=by rw[hl];simp
  rw[e1];refine kat_yes (kat_cons ?_);refine (VV I 1 (by rw[ju];exact Nat.le_refl _) (TrAt.ints (SqL.of ha)) (TrAt.ints (SqL.of hb)) rfl rfl (by omega)).eq _ _ _ _ ?_;rw[jC];by_cases hab:as=bs
  ·rw[decide_eq_true hab];refine kat_yes (kat_nil ?_);rw[hab,HT.jk]at h;exact h
  ·rw[decide_eq_false hab];refine kat_no (kat_one _ _ ?_);obtain⟨its,r1,p1,_⟩:=I.list (SqL.of ha);obtain⟨its2,r2,p2,_⟩:=I.list (SqL.of hb);exact HT.Vr p1.isList p2.isList (by simpa using intsAre_of r1) (by simpa using intsAre_of r2) (by omega) h
 ·rw[if_neg hl]at h;have e1:(as.length == (bs.length:Int))=false:=by simp;omega
  rw[e1];refine kat_no ?_;refine oneLt_int ?_;have:decide (as.length<(bs.length:Int))=decide (as.length<bs.length):=by
   simp
  rw[this];exact h
end
end L2
set_option maxHeartbeats 4000000
namespace L2
open PySem PySem.Spec PyProof.Rows PySem.W
section
variable {X:Cx} {pins:List (Addr×Obj)} {Z:St} {H:Hp} {s:Shared}
structure zdD (X:Cx) (pins:List (Addr×Obj)) (n:Nat) (a:Addr):Prop where
 s0:X.s₀.heap.objs.size<=a
 lo:a≠X.env.locals
 ce:∀x c,X.env.cells.lookup x=some c->c≠a
 fs:a∉X.fs
 pn:∀p∈X.pn++pins,p.1≠a
 ge:n<=a
theorem Inv.late(I:Inv X pins Z H s){a:Addr}(h:s.heap.objs.size<=a):zdD X pins s.heap.objs.size a :=
 ⟨Nat.le_trans I.sz h,Nat.ne_of_gt (Nat.lt_of_lt_of_le I.lt h),λx c e z=>by
  obtain⟨v,o,ho,_⟩:=I.cell x c e;rw[z]at ho;exact absurd (Nat.lt_of_lt_of_le (Heap.lt_size ho) h) (Nat.lt_irrefl _),I.nofs h,λp hp z=>by
  obtain⟨e,_⟩:=I.pin p hp;rw[z]at e;exact absurd (Nat.lt_of_lt_of_le (Heap.lt_size e) h) (Nat.lt_irrefl _),h⟩
theorem Inv.tell(I:Inv X pins Z H s)(L:zdD X pins m a)(hn:H a=none)(k:∀b o,b≠a->s.heap.get? b=some o->h'.get? b=some o)(hv:Vals xs its)(hz:xs.length<=sizeLine)(ha:h'.get? a=some (seqObj "list" its.toArray n)):Inv X pins Z (upd H a (.lst xs)) { s with heap:=h',toks:=t' }:=by
 have na:∀b u,H b=some u->b≠a:=λb u e z=>by rw[z,hn]at e;cases e
 refine I.step (ch:=[a]) (λb hb=>?_) (λb o _ _ hc e _=>k b o (λz=>hc (by simp[z])) e) (λb o _ _ hc e _=>⟨o.slots,k b o (λz=>hc (by simp[z])) e⟩) (λb o hc e n=>by rw[zB (λz=>hc (by simp[z]))];exact n)
  (λb o hc e=>⟨o,k b o (λz=>hc (by simp[z])) e⟩) (λb xs e=>by rw[zB (na b _ e)];exact e) (λb o u e=>by rw[zB (na b _ e)];exact e) (λb ps e=>⟨#[],by rw[zB (na b _ e),e];simp⟩) (λm hm=>?_) (λb u e=>?_) I.bare
 ·have e:b=a:=by simpa using hb
  subst e;exact⟨.inr L.s0,L.lo,L.ce,L.pn⟩
 ·obtain⟨o,es,ep,ho,r⟩:=hm;exact⟨o,es,ep,k _ o (Ne.symm L.lo) ho,r⟩
 ·by_cases hb:b=a
  ·subst hb;rw[zp]at e;cases e
   exact⟨hz,its,n,hv,ha⟩
  ·rw[zB hb]at e;refine (I.hok b u e).stay (λc v hc q=>k c v ?_ q) (λc q=>by rw[zB (na c _ q)];exact q) λc xs q=>by rw[zB (na c _ q)];exact q
   rcases hc with rfl | hc
   ·exact hb
   ·exact na c _ hc
def zgO(H:Hp)(zs:ZB)(pl:List Addr):Prop:=∀j z,zs[j]?=some z->j<pl.length->∃p,pl[j]?=some p/\H p=some (.tup [.int z.2.length,.ref z.1])
theorem kat_tups(I:Inv X pins Z H s):∀pl:List Addr,(∀p∈pl,∃(n:Int) (z:Addr),H p=some (.tup [.int n,.ref z]))->∃fs:List Value,KatTups s.heap (pl.map Value.ref) fs/\fs.length=pl.length/\∀v∈fs,∃n t,v=Value.int n t
 |[],_=>⟨[],KatTups.nil,rfl,λv hv=>by cases hv⟩
 |p::pl,h=>by
  obtain⟨fs,h1,h2,h3⟩:=kat_tups I pl λq hq=>h q (.tail _ hq);obtain⟨n,z,e⟩:=h p (.head _);obtain⟨t,o,m,e1,e2,e3⟩:=zbN I e;refine⟨.int n t::fs,KatTups.cons e1 e2 e3 rfl h1,by simp[h2],λv hv=>?_⟩;rcases List.mem_cons.mp hv with rfl | hv
  ·exact⟨n,t,rfl⟩
  ·exact h3 v hv
theorem zeu{zs:ZB}(I:Inv X ((f,fo)::(a,seqObj "list" #[] e1)::pins) Z H s)(La:zdD X pins n a)(Lk:zdD X ((f,fo)::(a,seqObj "list" #[] e1)::pins) n kS)(hkS:s.heap.get? kS=some (seqObj "list" #[] 0))(hkn:H kS=none)(hz:∀z∈zs,H z.1=some (.lst (z.2.map V.int)))(nd:(zs.map (·.2)).Nodup)(h60:zs.length<=60)(hu:A.units+2<cLine)(turn:∀H' s' pins' z,Inv X pins' Z H' s'->(f,fo)∈pins'->Same H H'->z∈zs ->
   wpAny (model X.prog X.w) A (call (.ref f) [.ref z.1]) (EP X pins' Z λv H2=>∃p,v=.ref p/\H' p=none/\H2=upd H' p (.tup [.int z.2.length,.ref z.1])) (λ_ _=>False) s')(done:∀(H':Hp) (s':Shared) (zs':ZB),Inv X pins Z (upd H' a (.lst (zs'.map λz=>V.ref z.1))) s'->Same H H'->H' a=none->zs'.Perm zs->zs'.Pairwise (λx y=>HT.um x.2 y.2=true)->P (.done (.ret .none)) s'):
  wpAny (model X.prog X.w) A (ksk_rest a (.ref f) false (zs.map λz=>Value.ref z.1).toArray e1 (.ref kS)) P E s:=by
 unfold ksk_rest;refine wpAny_bind (wpAny_rule ?_)
 first
  |rw[List.forIn_toArray]
  | (rw[<-Array.forIn_toList];simp only[List.toList_toArray])
  |rw[<-Array.forIn_toList]
 refine wpAny_bind (ksk_fold (λi s'=>∃(H':Hp) (pl:List Addr) (e:Nat),Inv X ((f,fo)::(a,seqObj "list" #[] e1)::pins) Z H' s'/\s'.heap.get? kS=some (seqObj "list" (pl.map Value.ref).toArray e)/\H' kS=none/\pl.length=i/\zgO H' zs pl/\Same H H') (zs.map λz=>Value.ref z.1) 0 s
  ⟨H,[],0,I,hkS,hkn,rfl,λj z _ h=>by simp at h,Same.refl _⟩ ?step ?fin)
 case step=>
  rintro j x s' hx ⟨H',pl,e,I',hk',hkn',hpl,hkeys,sm⟩;rw[Nat.zero_add]at hpl ⊢;rw[List.getElem?_map]at hx;obtain⟨z,hzj,ez⟩:=Option.map_eq_some_iff.mp hx;subst ez;have hzm:=List.mem_of_getElem? hzj;have hj:j<zs.length:=(List.getElem?_eq_some_iff.mp hzj).1;have I2:Inv X ((kS,seqObj "list" (pl.map Value.ref).toArray e)::(f,fo)::(a,seqObj "list" #[] e1)::pins) Z H' s':=I'.pins_of λp hp=>by
   rcases List.mem_cons.mp hp with rfl | hp
   ·exact⟨hk',hkn',Lk.lo,Lk.fs,λv z=>by cases z⟩
   ·exact I'.pin p (List.mem_append_right _ hp)
  refine wpAny_bind (wpAny_attempt (wpAny_mono (turn H' s' _ z I2 (by simp) sm hzm) (λv s'' he=>?_) λ_ _ hF=>hF.elim));obtain⟨v',H2,I3,rv,p,rfl,hpf,rfl⟩:=he;cases rv
  have pk:=I3.pin (kS,seqObj "list" (pl.map Value.ref).toArray e) (List.mem_append_right _ (.head _));have I4:Inv X ((f,fo)::(a,seqObj "list" #[] e1)::pins) Z (upd H' p (.tup [.int z.2.length,.ref z.1])) s'':=I3.pins_of λq hq=>I3.pin q (List.mem_append_right _ (.tail _ hq));obtain⟨c2,hc2⟩:∃c2,(s''.heap.update kS (Obj.mapSeq (·.push (.ref p)))).get? kS=some (seqObj "list" ((pl.map Value.ref).toArray.push (.ref p)) c2):=⟨_,get?_update_seq pk.1 (·.push (.ref p))⟩
  have hsl:(pl.map Value.ref).toArray.size<=60:=by rw[List.size_toArray,List.length_map];omega
  dsimp only;refine wpAny_bind (listUpdate_at pk.1 rfl ?_ (Nat.le_trans hsl (by decide)) (by rw[Array.size_push];exact Nat.le_trans (Nat.succ_le_succ hsl) (by decide)));refine wpAny_pure ⟨rfl,_,pl++[p],c2,I4.turned (t':=s''.toks) (λb o hb q=>?_) pk.2.1 Lk.lo (.inr Lk.s0) Lk.ce Lk.pn,?_,pk.2.1,by rw[List.length_append,List.length_singleton,hpl],λi y hy hi=>?_,sm.trans (zr hpf)⟩
  ·rw[Heap.get?_update_other _ _ (Ne.symm hb)];exact q
  ·rw[hc2];simp
  ·by_cases hlt:i<pl.length
   ·obtain⟨p',e1',e2'⟩:=hkeys i y hy hlt;exact⟨p',by rw[List.getElem?_append_left hlt];exact e1',by rw[zB (zK e2' hpf)];exact e2'⟩
   ·have ei:i=pl.length:=by rw[List.length_append,List.length_singleton]at hi;omega
    have ej:i=j:=by omega
    rw[ej,hzj]at hy;cases hy
    exact⟨p,by rw[ei];simp,zp⟩
 case fin=>
  rintro s' ⟨H',pl,e,I',hk',hkn',hpl,hkeys,sm⟩;rw[Nat.zero_add,List.length_map]at hpl
  try dsimp only
  refine wpAny_bind (listItems_at hk' rfl ?_);have ga:=I'.pin (a,seqObj "list" #[] e1) (List.mem_append_right _ (.tail _ (.head _)));have Ip:Inv X pins Z H' s':=I'.pins_of λq hq=>I'.pin q (by
   rcases List.mem_append.mp (List.mem_append_right X.pn hq) with h | h
   ·exact List.mem_append_left _ h
   ·exact List.mem_append_right _ (.tail _ (.tail _ h)))
  have nka:kS≠a:=λz=>Lk.pn (a,seqObj "list" #[] e1) (List.mem_append_right _ (.tail _ (.head _))) z.symm;have tail:∀(st:SortSt) (zs':ZB),(arrOf st).map (·.2)=(zs'.map λz=>Value.ref z.1).toArray->failedOf st=none->zs'.Perm zs->zs'.Pairwise (λx y=>HT.um x.2 y.2=true) ->
    wpAny (model X.prog X.w) A (ksk_tail a false e1 (.ref kS) st) P E s':=by
   intro st zs' hout hfl pm pw;have hlen:zs'.length<=60:=by rw[pm.length_eq];exact h60
   have s1:=Heap.SameBut.update s'.heap kS (Obj.mapSeq λ_=>(#[]:Array Value));have na1:(s'.heap.update kS (Obj.mapSeq λ_=>(#[]:Array Value))).get? a=some (seqObj "list" #[] e1):=(s1.2 a nka.symm).trans ga.1;obtain⟨c2,hc2⟩:∃c2,((s'.heap.update kS (Obj.mapSeq λ_=>(#[]:Array Value))).update a (Obj.mapSeq λ_=>(zs'.map λz=>Value.ref z.1).toArray)).get? a=some (seqObj "list" (zs'.map λz=>Value.ref z.1).toArray c2):=
    ⟨_,get?_update_seq na1 λ_=>(zs'.map λz=>Value.ref z.1).toArray⟩
   have I5:Inv X pins Z H' { s' with heap:=s'.heap.update kS (Obj.mapSeq λ_=>(#[]:Array Value)),toks:=s'.toks }:=Ip.turned (λb o hb q=>by rw[Heap.get?_update_other _ _ (Ne.symm hb)];exact q) hkn' Lk.lo (.inr Lk.s0) Lk.ce (λq hq=>Lk.pn q (by
    rcases List.mem_append.mp hq with h | h
    ·exact List.mem_append_left _ h
    ·exact List.mem_append_right _ (.tail _ (.tail _ h))))
   have I6:=I5.tell (t':=s'.toks) (h':=(s'.heap.update kS (Obj.mapSeq λ_=>(#[]:Array Value))).update a (Obj.mapSeq λ_=>(zs'.map λz=>Value.ref z.1).toArray)) La ga.2.1 (λb o hb q=>by rw[Heap.get?_update_other _ _ (Ne.symm hb)];exact q) (Vj zs') (by rw[List.length_map];exact Nat.le_trans hlen (by decide)) hc2;unfold ksk_tail
   try dsimp only
   refine wpAny_bind (listUpdate_at hk' rfl ?_ (by rw[List.size_toArray,List.length_map,hpl];exact Nat.le_trans h60 (by decide)) (Nat.zero_le _));refine wpAny_bind (wpAny_letGo ?_);refine wpAny_bind (seqEpoch_at na1 rfl ?_);simp only[Bool.false_eq_true,if_false];rw[hout];refine wpAny_bind (listUpdate_at na1 rfl ?_ (Nat.zero_le _) (by rw[List.size_toArray,List.length_map];exact Nat.le_trans hlen (by decide)));rw[hfl];simp only[bne_self_eq_false,Bool.false_eq_true,if_false];exact wpAny_pure (done H' _ zs' I6 sm ga.2.1 pm pw)
  unfold ksk_end
  try dsimp only
  simp only[Bool.false_eq_true,if_false];have hvl:(zs.map λz=>Value.ref z.1).toArray.size=zs.length:=by rw[List.size_toArray,List.length_map]
  by_cases h2:(zs.map λz=>Value.ref z.1).toArray.size<2
  ·rw[if_pos h2,if_pos h2];refine wpAny_bind (wpAny_pure ?_);rw[StateT.run_pure];refine wpAny_bind (wpAny_pure ?_)
   try dsimp only
   refine tail _ zs ?_ rfl (List.Perm.refl _) ?_
   ·show (((pl.map Value.ref).toArray.zip (zs.map λz=>Value.ref z.1).toArray).map (·.2))=_;apply Array.toList_inj.mp;rw[Array.toList_map,Array.toList_zip,List.map_snd_zip (by simp[hpl])]
   ·rw[hvl]at h2
    match zs,h2 with
    |[],_=>exact .nil
    |[_],_=>exact List.pairwise_singleton _ _
  ·rw[if_neg h2,if_neg h2];rw[hvl]at h2;have hkl:(pl.map Value.ref).length=(zs.map λz=>Value.ref z.1).length:=by rw[List.length_map,List.length_map,hpl]
   have hk2:∀j,j<zs.length->∃p,pl[j]?=some p/\H' p=some (.tup [.int (zs.getD j (0,[])).2.length,.ref (zs.getD j (0,[])).1])/\zs.getD j (0,[])∈zs:=λj hj=>by
    have e:zs.getD j (0,[])=zs[j]:=by rw[List.getD_eq_getElem?_getD,List.getElem?_eq_getElem hj];rfl
    rw[e];obtain⟨p,e1,e2⟩:=hkeys j zs[j] (List.getElem?_eq_getElem hj) (by omega);exact⟨p,e1,e2,List.getElem_mem hj⟩
   obtain⟨fs,ht,hfl,hfi⟩:=kat_tups I' pl λp hp=>by
    obtain⟨j,hj,rfl⟩:=List.getElem_of_mem hp;obtain⟨p',e1,e2,_⟩:=hk2 j (by omega);rw[List.getElem?_eq_getElem hj]at e1;cases e1
    exact⟨_,_,e2⟩
   refine wpAny_bind (kat_kind (T:=.type "int") ht (by omega) (λv hv=>?_) (by decide) ?_)
   ·obtain⟨n,t,rfl⟩:=hfi v hv;exact Looks.of_pure rfl
   have ls2:(zs.map (·.2)).length=zs.length:=List.length_map ..;have ask:(kas_sort (zs.map λz=>Value.ref z.1).length).kasWp (kas_ask X.prog X.w A (tuples' true) (pl.map Value.ref)) (λp s''=>s''=s'/\(HT.Pm zs.length p/\HT.Up (λi j=>HT.um ((zs.map (·.2)).getD i []) ((zs.map (·.2)).getD j [])) p zs.length)) s':=by
    rw[List.length_map];have O:=HT.zhM nd;rw[ls2]at O;refine HT.KW.wp (n:=zs.length) (λi j C hi hj hC=>?_) _ (HT.zf0 O (by omega));obtain⟨p,e1,e2,e3⟩:=hk2 i hi;obtain⟨q,d1,d2,d3⟩:=hk2 j hj;have ei:(zs.map (·.2)).getD i []=(zs.getD i (0,[])).2:=by rw[List.getD_eq_getElem?_getD,List.getD_eq_getElem?_getD,List.getElem?_map,List.getElem?_eq_getElem hi];rfl
    have ej:(zs.map (·.2)).getD j []=(zs.getD j (0,[])).2:=by rw[List.getD_eq_getElem?_getD,List.getD_eq_getElem?_getD,List.getElem?_map,List.getElem?_eq_getElem hj];rfl
    have gi:(pl.map Value.ref).getD i Value.none=.ref p:=by rw[List.getD_eq_getElem?_getD,List.getElem?_map,e1];rfl
    have gj:(pl.map Value.ref).getD j Value.none=.ref q:=by rw[List.getD_eq_getElem?_getD,List.getElem?_map,d1];rfl
    unfold kas_ask;rw[gi,gj];refine zgV I' e2 d2 (sm _ _ (hz _ e3)) (sm _ _ (hz _ d3)) hu ?_
    try dsimp only at hC
    rw[ei,ej]at hC;exact hC
   have eT:(Value.type "int" != Value.type "tuple")=true:=by decide
   rw[eT];refine wpAny_bind (wpAny_mono (kat_run (ks:=pl.map Value.ref) (vs:=zs.map λz=>Value.ref z.1) (Q:=λst' s''=>∃p:Array Nat,s''=s'/\arrOf st'=p.map (kas_item ((pl.map Value.ref).toArray.zip (zs.map λz=>Value.ref z.1).toArray))/\failedOf st'=none/\HT.Pm zs.length p/\HT.Up (λi j=>HT.um ((zs.map (·.2)).getD i []) ((zs.map (·.2)).getD j [])) p zs.length)
    hkl (by rw[List.length_map];omega) (by rw[List.length_map];omega) (λp st' s'' _ a2 a3 a4=>⟨p,a4.1,a2,a3,a4.2⟩) ask) ?_ λ_ _ e=>e)
   rintro⟨⟨⟩,st'⟩ s'' ⟨p,rfl,har,hfl2,hpm,hup⟩
   try dsimp only
   have hout:=kat_snds hkl har;have hpl2:p.toList.length=zs.length:=by rw[hpm.pm.length_eq,List.length_range]
   refine tail st' (p.toList.map λi=>zs.getD i (0,[])) ?_ hfl2 (HT.Je _ zs hpm.pm) ?_
   ·rw[hout,List.map_map];congr 1;refine List.map_congr_left λi hi=>?_;have hi':=List.mem_range.mp (hpm.pm.mem_iff.mp hi);show _=Value.ref (zs.getD i (0,[])).1;rw[List.getD_eq_getElem?_getD,List.getD_eq_getElem?_getD,List.getElem?_map,List.getElem?_eq_getElem hi'];rfl
   ·rw[List.pairwise_map,List.pairwise_iff_getElem];intro i j hi hj hij;have q1:=hup i j hij (by omega);have e1:p.getD i 0=p.toList[i]:=by
     have:i<p.size:=by rw[hpm.sz];omega
     simp[Array.getD,this]
    have e2:p.getD j 0=p.toList[j]:=by
     have:j<p.size:=by rw[hpm.sz];omega
     simp[Array.getD,this]
    rw[e1,e2]at q1;have m1:=List.mem_range.mp (hpm.pm.mem_iff.mp (List.getElem_mem hi));have m2:=List.mem_range.mp (hpm.pm.mem_iff.mp (List.getElem_mem hj));have ei:(zs.map (·.2)).getD p.toList[i] []=(zs.getD p.toList[i] (0,[])).2:=by rw[List.getD_eq_getElem?_getD,List.getD_eq_getElem?_getD,List.getElem?_map,List.getElem?_eq_getElem m1];rfl
    have ej:(zs.map (·.2)).getD p.toList[j] []=(zs.getD p.toList[j] (0,[])).2:=by rw[List.getD_eq_getElem?_getD,List.getD_eq_getElem?_getD,List.getElem?_map,List.getElem?_eq_getElem m2];rfl
    try dsimp only at q1
    rw[ei,ej]at q1;exact q1
theorem za1{zs:ZB}(I:Inv X ((f,fo)::pins) Z H s)(hl:H l=some (.lst (zs.map λz=>V.ref z.1)))(hz:∀z∈zs,H z.1=some (.lst (z.2.map V.int)))(nd:(zs.map (·.2)).Nodup)(h60:zs.length<=60)(hu:X.A.in1.in1.units+2<cLine)(turn:∀H' s' pins' z,Inv X pins' Z H' s'->(f,fo)∈pins'->Same H H'->z∈zs ->
   wpAny (model X.prog X.w) X.A.in1.in1 (call (.ref f) [.ref z.1]) (EP X pins' Z λv H2=>∃p,v=.ref p/\H' p=none/\H2=upd H' p (.tup [.int z.2.length,.ref z.1])) (λ_ _=>False) s')(q:∀(D:Addr) (H':Hp) (zs':ZB),H D=none->Same H H'->H' D=none->zs'.Perm zs->zs'.Pairwise (λx y=>HT.um x.2 y.2=true)->Q (.ref D) (upd H' D (.lst (zs'.map λz=>V.ref z.1)))):
  wpAny (model X.prog X.w) X.A (call (.builtin "sorted") [.ref l] [(Str.ofString "key",.ref f)]) (EP X pins Z Q) X.xe s:=by
 obtain⟨its,r1,p1,_⟩:=I.list (SqL.of hl);have e1:=Jl r1;subst e1;have hvl:(zs.map λz=>Value.ref z.1).length=zs.length:=List.length_map ..;have hsl:(zs.map λz=>Value.ref z.1).length<=sizeLine:=by rw[hvl,sizeLine_eq];omega
 refine call_function_entry_kw kind_sorted plain_sorted entry_sorted (ksk_s1 _ _) ?_;refine wpAny_bind (wpAny_pure (wpAny_bind (collect_list p1.isList (wpAny_bind (wpAny_newList ?_ hsl)) hsl)));generalize hB:(s.heap.push (seqObj "list" #[] 0)).update s.heap.objs.size (Obj.mapSeq (·++(zs.map λz=>Value.ref z.1).toArray))=B;have hsz:B.objs.size=s.heap.objs.size+1:=by rw[<-hB,Heap.size_update,size_push']
 have keep:∀b o,s.heap.get? b=some o->(B.push (seqObj "list" (zs.map λz=>Value.ref z.1).toArray 0)).get? b=some o:=λb o q=>by
  have hlt:=Heap.lt_size q;rw[Heap.get?_push_ne _ _ _ (by rw[hsz];exact Nat.ne_of_lt (Nat.lt_succ_of_lt hlt)),<-hB,Heap.get?_update_ne _ _ _ _ (Nat.ne_of_lt hlt),Heap.get?_push_ne _ _ _ (Nat.ne_of_lt hlt)];exact q
 have hoL:(B.push (seqObj "list" (zs.map λz=>Value.ref z.1).toArray 0)).get? (s.heap.objs.size+1)=some (seqObj "list" (zs.map λz=>Value.ref z.1).toArray 0):=by
  rw[<-hsz];exact Heap.get?_push_size _ rfl
 have hszB:(B.push (seqObj "list" (zs.map λz=>Value.ref z.1).toArray 0)).objs.size=s.heap.objs.size+2:=by rw[size_push',hsz]
 rw[hsz];refine wpAny_bind (wpAny_holding (wpAny_call_entry_kw slot_list_sort ⟨_,hoL,rfl⟩ entry_list_sort ?body (ksk_l1 _ _)))
 case body=>
  rw[ksk_t1];generalize hG:B.push (seqObj "list" (zs.map λz=>Value.ref z.1).toArray 0)=G at keep hoL hszB;generalize hLd:s.heap.objs.size+1=L at hoL;obtain⟨e1,ho1⟩:∃e1,(G.update L (Obj.mapSeq λ_=>(#[]))).get? L=some (seqObj "list" #[] e1):=⟨_,get?_update_seq hoL λ_=>#[]⟩
  refine wpAny_bind (listItems_at hoL rfl ?_);refine wpAny_bind (listUpdate_at hoL rfl ?_ (by exact hsl) (Nat.zero_le _));refine wpAny_bind (seqEpoch_at ho1 rfl ?_);refine wpAny_bind (wpAny_newTuple ?_ (by exact hsl));refine wpAny_bind (wpAny_newList ?_ (Nat.zero_le _));refine wpAny_holding ?_;generalize hM:(G.update L (Obj.mapSeq λ_=>(#[]))).push (seqObj "tuple" (zs.map λz=>Value.ref z.1).toArray 0)=M;have hMs:M.objs.size=s.heap.objs.size+3:=by rw[<-hM,size_push',Heap.size_update,hszB]
  have hkS:(M.push (seqObj "list" #[] 0)).get? (s.heap.objs.size+3)=some (seqObj "list" #[] 0):=by rw[<-hMs];exact Heap.get?_push_size _ rfl
  have hL2:(M.push (seqObj "list" #[] 0)).get? L=some (seqObj "list" #[] e1):=Heap.get?_push_of_some _ (by rw[<-hM];exact Heap.get?_push_of_some _ ho1);have keep2:∀b o,s.heap.get? b=some o->(M.push (seqObj "list" #[] 0)).get? b=some o:=λb o q=>by
   have hlt:=Heap.lt_size q;refine Heap.get?_push_of_some _ ?_;rw[<-hM];refine Heap.get?_push_of_some _ ?_;rw[Heap.get?_update_ne _ _ _ _ (by rw[<-hLd];exact Nat.ne_of_lt (Nat.lt_succ_of_lt hlt))];exact keep b o q
  have La0:=I.late (a:=L) (by rw[<-hLd];exact Nat.le_succ _);have Lk0:=I.late (a:=s.heap.objs.size+3) (by omega);have I1:Inv X ((f,fo)::pins) Z H { s with heap:=M.push (seqObj "list" #[] 0),toks:=s.toks }:=I.kept keep2;have hLn:H L=none:=I.hok.fresh (by rw[<-hLd];exact Nat.le_succ _);have I2:Inv X ((f,fo)::(L,seqObj "list" #[] e1)::pins) Z H { s with heap:=M.push (seqObj "list" #[] 0),toks:=s.toks }:=I1.pins_of λp hp=>by
   rcases List.mem_cons.mp hp with rfl | hp
   ·exact I1.pin _ (List.mem_append_right _ (.head _))
   ·rcases List.mem_cons.mp hp with rfl | hp
    ·exact⟨hL2,hLn,La0.lo,La0.fs,λv z=>by cases z⟩
    ·exact I1.pin p (List.mem_append_right _ (.tail _ hp))
  have La:zdD X pins s.heap.objs.size L:=⟨La0.s0,La0.lo,La0.ce,La0.fs,λp hp=>La0.pn p (by
   rcases List.mem_append.mp hp with h | h
   ·exact List.mem_append_left _ h
   ·exact List.mem_append_right _ (.tail _ h)),La0.ge⟩
  have Lk:zdD X ((f,fo)::(L,seqObj "list" #[] e1)::pins) s.heap.objs.size (s.heap.objs.size+3):=⟨Lk0.s0,Lk0.lo,Lk0.ce,Lk0.fs,λp hp=>by
   rcases List.mem_append.mp hp with h | h
   ·exact Lk0.pn p (List.mem_append_left _ h)
   ·rcases List.mem_cons.mp h with rfl | h
    ·exact Lk0.pn _ (List.mem_append_right _ (.head _))
    ·rcases List.mem_cons.mp h with rfl | h
     ·show L≠_;omega
     ·exact Lk0.pn p (List.mem_append_right _ (.tail _ h)),Lk0.ge⟩
  rw[hMs];refine zeu I2 La Lk hkS (I.hok.fresh (by omega)) hz nd h60 hu turn λH' s' zs' I' sm hn pm pw=>⟨_,rfl,?_⟩
  exact wpAny_pure ⟨_,rfl,.ref L,_,I',rfl,q L H' zs' hLn sm hn pm pw⟩
end
section
variable {X:Cx} {Z:St} {H:Hp} {s:Shared} {params:Arguments} {body:Expr} {scope:Scope} {pos lpos kpos p:Pos} {c P:Addr} {y:Str} {e:Expr} {te:TE}
theorem zeN(I:Inv X pins Z H s)(hf:(f,kla_obj "<lambda>" q params body scope [] pm c' ct)∈pins)(hL:zcy P lpos q H c')(S:zF [y] [y] scope)(hr:Room (k+1) X.A.in1.in1)(hb:∀pm ct u,bindArgs (kla_fn "<lambda>" q params body scope [] pm (.ref c') ct) ⟨[u],[]⟩=pure [(y,u)])(rv:RelV v u)(hbody:∃t,PE (XJ CX0 X.prog X.w X.K X.mg X.base [y] q scope f (.ref c') X.A.in1.in1 X.stack s H E0) body t/\t (start [y] [v]) H Q):
  wpAny (model X.prog X.w) X.A.in1.in1 (call (.ref f) [u]) (EP X pins Z Q) (λ_ _=>False) s:=by
 have pf:=I.pin _ (List.mem_append_right X.pn hf);have hcd:=(I.hok c' _ hL.2).1;refine wpAny_call (codeAny_mono (zfn (us:=[u]) pf.1 rfl hcd S hr I.env0.in1.in1 (BindsTo.of_eq (hb pm ct u)) rfl (.cons rv .nil) hbody) λr s' hq=>?_);cases r with
 |error e=>exact hq
 |ok fl=>
  cases fl with
  |ret u=>exact I.after hq
  |next=>exact False.elim hq
  |brk=>exact False.elim hq
  |cont=>exact False.elim hq
def zdF(P:Addr)(lpos:Pos)(q:Str)(te:TE):TE:=λZ H Q=>te Z H λx H1=>∃(l:Addr) (zs:ZB),x=.ref l/\H1 l=some (.lst (zs.map λz=>V.ref z.1))/\(∀z∈zs,H1 z.1=some (.lst (z.2.map V.int)))/\(zs.map (·.2)).Nodup/\zs.length<=60/\Xr P lpos q H1 /\
 ∀(D:Addr) (zs':ZB) (H2:Hp),H1 D=none->H2 D=none->(∀b u,b≠P->H1 b=some u->H2 b=some u)->Xr P lpos q H2->zs'.Perm zs->zs'.Pairwise (λx y=>HT.um x.2 y.2=true)->Q (.ref D) (upd H2 D (.lst (zs'.map λz=>V.ref z.1)))
theorem zbT(he:PE X e te)(hg:Gl X "sorted")(hm:X.mg "sorted"= none)(hr:Room (k+3) X.A)(hdef:defaultsOf params X.env=([],[]))(hcl:closureFor scope X.env=pure [])(hcode:X.env.code=.ref c)(hK:codeHdIn X.K c P=true)(hB:X.base.BuiltinsAt X.mg P)(hgP:mainGlobals≠P)(S:zF [y] [y] scope)(hb:∀pm cd ct u,bindArgs (kla_fn "<lambda>" (X.env.qual ++ "<lambda>") params body scope [] pm cd ct) ⟨[u],[]⟩=pure [(y,u)])(hbody:∀(f c':Addr) (s:Shared) (H:Hp) (z:Addr×List Int),H z.1=some (.lst (z.2.map V.int))->∃t,PE (XJ CX0 X.prog X.w X.K X.mg X.base [y] (X.env.qual ++ "<lambda>") scope f (.ref c') X.A.in1.in1 X.stack s H E0) body t /\
   t (start [y] [.ref z.1]) H λv H2=>∃p,v=.ref p/\H p=none/\H2=upd H p (.tup [.int z.2.length,.ref z.1]))(hs1:starEach [e] X.env=[(false,eval e X.env)]:=by rfl):
  PE X (.Call (.Name "sorted" p) [e] [⟨some "key",.Lambda params body scope lpos,kpos⟩] pos) (zdF P lpos (X.env.qual ++ "<lambda>") te):=by
 intro pins s Z H Q I h;refine wpAny_Call_Name_kw (ZV I hg hm boot_sorted ?_ (by decide) (by decide));have ha:=zf he zg hs1;refine callWith_kw (thn (ha pos pins s Z H (λvs H1=>match vs with
  |[x]=>∃l zs,x=.ref l/\H1 l=some (.lst (zs.map λz=>V.ref z.1))/\(∀z∈zs,H1 z.1=some (.lst (z.2.map V.int)))/\(zs.map (·.2)).Nodup/\zs.length<=60/\Xr P lpos (X.env.qual ++ "<lambda>") H1 /\
   ∀D (zs':ZB) H2,H1 D=none->H2 D=none->(∀b u,b≠P->H1 b=some u->H2 b=some u)->Xr P lpos (X.env.qual ++ "<lambda>") H2->zs'.Perm zs->zs'.Pairwise (λx y=>HT.um x.2 y.2=true)->Q (.ref D) (upd H2 D (.lst (zs'.map λz=>V.ref z.1)))
  |_=>False) I h) λus s1 ⟨vs,H1,I1,r1,q1⟩=>?_) (by rw[hs1];rfl) (by rw[hs1];rfl)
 match vs,q1 with
 |[x],q1=>
  obtain⟨l,zs,rfl,hl,hz,nd,h60,hT,q⟩:=q1;obtain⟨u,rfl,rx⟩:=vals1 r1;cases rx
  refine wpAny_evalAll_cons (wpAny_bind (zdE I1 hdef hcl hcode hK hB hgP hT λf c' H2 s2 pm ct I2 hL hfo hfn hsz up=>wpAny_bind (wpAny_standAt (wpAny_pure ?_))));refine wpAny_evalAll_nil ?_;have Lf:=I1.late hsz;have I3:Inv X ((f,kla_obj "<lambda>" (X.env.qual ++ "<lambda>") params body scope [] pm c' ct)::pins) Z H2 s2:=I2.pins_of λp hp=>by
   rcases List.mem_cons.mp hp with rfl | hp
   ·exact⟨hfo,hfn,Lf.lo,Lf.fs,λv z=>by cases z⟩
   ·exact I2.pin p (List.mem_append_right _ hp)
  have hPl:∀b xs,H1 b=some (.lst xs)->b≠P:=λb xs e z=>by
   rw[z]at e;rcases hT with t | ⟨c2,t,_⟩
   ·rw[t]at e;cases e
   ·rw[t]at e;cases e
  have hr2:=(hr.in1).in1;refine za1 I3 (up _ _ (hPl _ _ hl) hl) (λz hzm=>up _ _ (hPl _ _ (hz z hzm)) (hz z hzm)) nd h60 (by have:=hr2.units;omega) (λH' s' pins' z I' hf sm hzm=>?_) λD H' zs' hD sm hn pm pw=>?_
  ·have hL':zcy P lpos (X.env.qual ++ "<lambda>") H' c':=⟨sm _ _ hL.1,sm _ _ hL.2⟩
   exact zeN (v:=.ref z.1) I' hf hL' S hr2 (λpm ct u=>hb pm (.ref c') ct u) rfl (hbody f c' s' H' z (sm _ _ (up _ _ (hPl _ _ (hz z hzm)) (hz z hzm))))
  ·refine q D zs' H' ?_ hn (λb u hb e=>sm _ _ (up b u hb e)) (.inr ⟨c',sm _ _ hL.1,sm _ _ hL.2⟩) pm pw;cases e:H1 D with
   |none=>rfl
   |some u=>
    by_cases hDP:D=P
    ·rw[hDP,hL.1]at hD;cases hD
    ·rw[up D u hDP e]at hD;cases hD
end
theorem zdt{K:Frag}(KX:K.In s₁.heap)(hns:s₁.heap.Ns mainGlobals mg)(hb:s₁.heap.Ns builtinsNs mb)(hbb:∀x:Str,x ≠ "__name__"->mb x=bootBuiltins x)(hlim:s₁.heap.NoLimit)(hg:s₁.gens=#[])(hBM:∃bm ob,mg "__builtins__"= some (.ref bm)/\bm≠builtinsNs/\s₁.heap.get? bm=some ob/\ob.cls=.type "module"/\ob.dict=some builtinsNs/\ob.data=.plain)(hT:s₁.heap.get? T=some (tabObj #[]))(hKT:K.lookup T=none)(hcT:codeHdIn K c T=true)(ha:s₁.heap.get? a=some { cls:=.type "list",data:=.seq vs.toArray })(hi:IntsAre vs ns)(hl:ns.length<=sizeLine)(hr:Room k callerA)(F:∀base:Heap,K.In base->base.Ns mainGlobals mg->base.BuiltinsAt mg T->FnOk P w K mg base CX k fa fd [x] sp)(hbind:∀s u,BindsTo s fd ⟨[u],[]⟩ [(x,u)])(hsp:∀H:Hp,H T=some (.tbl #[])->SqL K H a (ns.map V.int)->sp [.ref a] H (λv _=>v=.bl true) λ_ _ _=>False)(hCX:∀H e s',CX [] H s₁ (λ_ _ _=>False) e s'->False):
  codeAny (model P w) callerA (.call (.ref fa) ⟨[.ref a],[]⟩) (λr s'=>r=.ok (.ret (.bool true))/\OldK s₁.heap s'.heap/\s'.os=s₁.os/\AllBare s'.gens) s₁:=by
 have rv:=Jp hi;have lenV:=hi.length;have tabT:=(codeHd_of_K KX hcT).tab hT;have core:∀H:Hp,H T=some (.tbl #[])->SqL K H a (ns.map V.int)->HOk P w H s₁.heap->(∀b,H b≠none->b=a\/b=T)->(∀b,b≠T->H b=none\/∃o xs,H b=some (.frz o (.lst xs)))->(∀b,H b≠none->K.lookup b=none) ->
   codeAny (model P w) callerA (.call (.ref fa) ⟨[.ref a],[]⟩) (λr s'=>r=.ok (.ret (.bool true))/\OldK s₁.heap s'.heap/\s'.os=s₁.os/\AllBare s'.gens) s₁:=by
  intro H hHT hS hok hA hO hK;have base_of:∀{b:Addr} {o:Obj},s₁.heap.get? b=some o->H b=none->(Q0 s₁.heap H).get? b=some o:=λe n=>zed e n;have noA:∀{b:Addr} {o:Obj},s₁.heap.get? b=some o->(∀xs n,o.data≠.seq xs n)->(∀ps,o.data≠.fields ps)->H b=none:=λ{b o} e d1 d2=>by
   cases q:H b with
   |none=>rfl
   |some u=>
    rcases hA b (by rw[q];simp) with e' | e'
    ·subst e';rw[ha]at e;cases e
     exact absurd rfl (d1 _ _)
    ·subst e';rw[hT]at e;cases e
     exact absurd rfl (d2 _)
  have nsK:∀{b:Addr} {m:Str->Option Value},s₁.heap.Ns b m->(Q0 s₁.heap H).Ns b m:=λ{b m} ⟨o,es,ep,e,d,r⟩=>⟨o,es,ep,base_of e (noA e (λxs n z=>by rw[d]at z;cases z) (λps z=>by rw[d]at z;cases z)),d,r⟩
  have hKb:K.In (Q0 s₁.heap H):=λb o e=>base_of (KX b o e) (by
   cases q:H b with
   |none=>rfl
   |some u=>rw[hK b (by rw[q];simp)]at e;cases e)
  have hM:Mod K mg (Q0 s₁.heap H):=⟨hKb,nsK hns,⟨mb,nsK hb,hbb⟩,let ⟨mc,h1,h2⟩:=hlim;⟨mc,nsK h1,h2⟩⟩
  have hBA:(Q0 s₁.heap H).BuiltinsAt mg T:=by
   obtain⟨bm,ob,b1,b2,b3,b4,b5,b6⟩:=hBM;refine⟨bm,ob,b1,b2,λz=>?_,λz=>?_,base_of b3 (noA b3 (λxs n z=>by rw[b6]at z;cases z) (λps z=>by rw[b6]at z;cases z)),b4,b5,b6⟩
   ·obtain⟨o,es,ep,e,hd,_⟩:=hns;rw[z,e]at b3;cases b3
    rw[hd]at b6;cases b6
   ·rw[z,hT]at b3;cases b3;cases b4
  have e0:Env0 P w K mg (Q0 s₁.heap H) callerA [] s₁ H:=⟨rfl,hM,λb o e=>zfg e,Nat.le_of_eq (zcV _ _),trivial,λb hb=>absurd (show b∈([]) from hb) (by simp),hok,.of_eq hg⟩
  refine codeAny_mono ((F _ hKb (nsK hns) hBA).run callerA [] s₁ H ⟨[.ref a],[]⟩ [.ref a] [.ref a] _ _ hr e0 (hbind s₁ (.ref a)) (.cons rfl .nil) (hsp H hHT hS)) λr s' h=>?_;cases r with
  |error e=>exact (hCX H e s' h).elim
  |ok fl=>
   cases fl with
   |next=>exact False.elim h
   |brk=>exact False.elim h
   |cont=>exact False.elim h
   |ret u=>
    obtain⟨v,H',os,bare,un,hok',r',q⟩:=h;have q':=q;subst q';obtain rfl:u=Value.bool true:=r';have oth:∀b o,b≠T->s₁.heap.get? b=some o->s'.heap.get? b=some o:=λb o hbT e=>by
     cases q:H b with
     |none=>exact un.keep b o e q (by intro z;exact absurd (show b∈([]) from z) (by simp)) (by simp)
     |some u=>
      rcases hO b hbT with z | ⟨ob,xs,z⟩
      ·rw[q]at z;cases z
      ·have z2:=un.frzs b ob _ z;obtain⟨e1,_⟩:=hok b _ z;obtain⟨e2,_⟩:=hok' b _ z2;rw[e]at e1;cases e1
       exact e2
    obtain⟨more,hm⟩:=un.tbls T _ hHT;have hTm:=hok' T _ hm;refine⟨rfl,⟨λb o e=>?_,λb o e=>?_⟩,os,bare⟩
    ·by_cases hbT:b=T
     ·subst hbT;rw[hT]at e;cases e
      exact .inr (.inl ⟨tabT.isCodeTable,rfl,#[],more,rfl,hTm⟩)
     ·exact .inl (oth b o hbT e)
    ·by_cases hbT:b=T
     ·subst hbT;exact⟨_,hTm⟩
     ·exact⟨o,oth b o hbT e⟩
 have hTa:T≠a:=λz=>by rw[z,ha]at hT;cases hT
 cases hk:K.lookup a with
 |some o=>
  have e:=KX a o hk;rw[ha]at e;cases e
  refine core (λb=>if b=T then some (.tbl #[]) else none) (if_pos rfl) (.inr ⟨_,vs.toArray,_,hk,rfl,rfl,rfl,by rw[List.size_toArray,lenV];exact hl,by simpa using rv⟩) (λb u z=>?_) (λb z=>?_) (λb hb=>.inl (if_neg hb)) λb z=>?_
  ·by_cases hb:b=T
   ·have z':=(if_pos hb).symm.trans z;cases z'
    subst hb;exact hT
   ·have z':=(if_neg hb).symm.trans z;cases z'
  ·by_cases hb:b=T
   ·exact .inr hb
   ·exact absurd (if_neg hb) z
  ·by_cases hb:b=T
   ·rw[hb];exact hKT
   ·exact absurd (if_neg hb) z
 |none=>
  refine core (λb=>if b=a then some (.frz { cls:=.type "list",data:=.seq vs.toArray } (.lst (ns.map V.int))) else if b=T then some (.tbl #[]) else none) (by rw[if_neg hTa,if_pos rfl]) (.inl (.inr ⟨{ cls:=.type "list",data:=.seq vs.toArray },if_pos rfl⟩)) (λb u z=>?_) (λb z=>?_) (λb hb=>?_) λb z=>?_
  ·by_cases hb:b=a
   ·have z':=(if_pos hb).symm.trans z;cases z'
    subst hb;exact⟨ha,by rw[List.length_map];exact hl,vs,_,rv,ha⟩
   ·have z':=(if_neg hb).symm.trans z;by_cases hb2:b=T
    ·have z2:=(if_pos hb2).symm.trans z';cases z2
     subst hb2;exact hT
    ·have z2:=(if_neg hb2).symm.trans z';cases z2
  ·by_cases hb:b=a
   ·exact .inl hb
   ·by_cases hb2:b=T
    ·exact .inr hb2
    ·exact absurd (by rw[if_neg hb,if_neg hb2]) z
  ·by_cases hba:b=a
   ·exact .inr ⟨_,_,if_pos hba⟩
   ·exact .inl (by rw[if_neg hba,if_neg hb])
  ·by_cases hb:b=a
   ·rw[hb];exact hk
   ·by_cases hb2:b=T
    ·rw[hb2];exact hKT
    ·exact absurd (by rw[if_neg hb,if_neg hb2]) z
theorem zhc{l:W.OpenLaw}{K:Params->W.Frag}{sp:World->Sp}(hn:l.most=some n)(hn2:n<=sizeLine)(hdf:d.params.defaults=[])(hr:Room k callerA)(hY:∀w h,YP w h->(K w.params).In h)(hYT:∀w h,YP w h->h.get? T=some (tabObj #[]))(hKT:∀w:World,(K w.params).lookup T=none)(hcT:∀w:World,codeHdIn (K w.params) c T=true)(F:∀w mg fa h,(K w.params).In h->h.Ns mainGlobals mg->mg d.name=some (.ref fa) ->
   ∃fd:FuncData,(∀s u,BindsTo s fd ⟨[u],[]⟩ [(x,u)]) /\
    ∀base:Heap,(K w.params).In base->base.Ns mainGlobals mg->base.BuiltinsAt mg T->FnOk l.prog w (K w.params) mg base CX0 k fa fd [x] (sp w))(hsp:∀(w:World) (H:Hp) (a:Addr) (ns:List Int),ns.length<=n->H T=some (.tbl #[])->SqL (K w.params) H a (ns.map V.int)->sp w [.ref a] H (λv _=>v=.bl true) λ_ _ _=>False):
  W.WalkO q loose XP YP l.row.toRowW d [] (λf vs=>PySem.call f vs):=by
 refine Att.zbf hn hdf λw s₀ s₁ mg mb fa o pm cd doc a vs ns G Y ho hd hcd hmg hobj hints hlen hg=>?_;have KX:=hY w _ Y;obtain⟨fd,hb,hF⟩:=F w mg fa _ KX G.T.g hmg;exact zdt KX G.T.g G.T.b G.T.builtins G.T.nolimit hg G.T.bmain (hYT w _ Y) (hKT w) (hcT w) hobj hints (Nat.le_trans hlen hn2) hr hF hb (λH hO hS=>hsp w H a ns hlen hO hS) λH e s' h=>h
open PySem PySem.Spec PyProof.Rows
abbrev NK:=List Key×List Key
section
variable {P:Program} {w:World}
def IsNK(P:Program)(w:World)(h:Heap)(k:NK)(a:Addr):Prop :=
 ∃ob its n c us,h.get? a=some ob/\ob.cls=.type "tuple"/\ob.data=.seq its n/\its.toList=.ref c::us/\IsTupleKey (yu P w) h k.1 c/\ItemsAre (yu P w) k.2 us
def Ys(P:Program)(w:World)(k:NK):List Int:=tupleKeyHash (yu P w) k.1::k.2.map (yu P w).hash
theorem IsNK.ty{s:Shared}(x:IsNK P w s.heap k a):s.TypeIs (.ref a) "tuple":=let ⟨ob,_,_,_,_,e,c,_⟩:=x;⟨ob,e,c⟩
theorem IsNK.one(p:IsNK P w h x a)(q:IsNK P w h y a):x=y:=by
 obtain⟨ob,its,n,c,us,e1,_,e2,e3,e4,e5⟩:=p;obtain⟨ob',its',n',c',us',f1,_,f2,f3,f4,f5⟩:=q;rw[e1]at f1;cases f1
 rw[e2]at f2;cases f2
 rw[e3]at f3;cases f3
 exact Prod.ext (e4.inj f4) (e5.inj f5)
theorem IsNK.kept{es ep}(x:IsNK P w h k a)(ho:h.get? d=some o)(hd:o.data=.dict es ep)(hs:Heap.SameBut d h h'):IsNK P w h' k a:=by
 obtain⟨ob,its,n,c,us,e1,ec,e2,e3,e4,e5⟩:=x;have ne:a≠d:=λz=>by
  subst z;rw[e1]at ho;cases ho
  rw[hd]at e2;cases e2
 exact⟨ob,its,n,c,us,(hs.2 a ne).trans e1,ec,e2,e3,e4.keeps ho hd hs,e5⟩
variable {A:Around} {E:Value->Shared->Prop} {s:Shared}
theorem zfO(hu:A.units+1<cLine)(hk:IsNK P w s.heap k a)(h:Q (reduceHash (Builtin.Tuple.tupleHashOf (Ys P w k))) { s with toks:=s.toks+(k.1.length+1+k.2.length+1) }):
  wpAny (model P w) A (pyHash (.ref a)) Q E s:=by
 have tY:=hk.ty;obtain⟨ob,its,n,c,us,e1,ec,e2,e3,e4,e5⟩:=hk;unfold pyHash
 first | unfold pyHashByItsType | skip
 first | refine wpAny_bind (wpAny_cRoomFor_or (.inr (Nat.lt_of_succ_lt hu)) ?_) | skip
 refine wpAny_bind (wpAny_specialOf tY F.slot_tuple_hash.lookup ?_);refine wpAny_bind (wpAny_specialOf tY F.slot_tuple_hash.lookup ?_);refine wpAny_bind (wpAny_callSpecialIfBoundUnlessNone?_slot tY F.slot_tuple_hash (wpAny_call_entry F.slot_tuple_hash tY F.entry_tuple_hash ?_ (F.args_tuple_hash_1 _)));show wpAny _ _ (Builtin.Tuple.tupleItemsOf (.ref a) >>= _) _ _ s;refine wpAny_bind (wpAny_tupleItemsOf e1 e2 ?_);refine wpAny_bind ?_;rw[<-Array.forIn_toList,e3];refine wpAny_forIn_list _
  (λrest b s'=>(rest=.ref c::us/\b=#[]/\s'=s)\/∃done left,k.2=done++left/\ItemsAre (yu P w) left rest/\b.toList=tupleKeyHash (yu P w) k.1::done.map (yu P w).hash/\s'={ s with toks:=s.toks+(k.1.length+1)+done.length })
  _ ?_ ?_ _ _ (.inl ⟨rfl,rfl,rfl⟩)
 ·rintro x rest b s' (⟨z1,rfl,rfl⟩ | ⟨done,left,z1,hl,hb,rfl⟩)
  ·cases z1;refine wpAny_bind (wpAny_pyHash_tuple hu e4 ?_)
   first
    |exact wpAny_pure (.inr ⟨[],k.2,rfl,e5,rfl,rfl⟩)
    |exact wpAny_bind (wpAny_pure (wpAny_pure (.inr ⟨[],k.2,rfl,e5,rfl,rfl⟩)))
  ·cases hl with
   |@cons i _ is _ h1 hl'=>
    refine wpAny_bind ((yu P w).pyHash h1 ?_)
    first
     |exact wpAny_pure (.inr ⟨done++[i],is,by rw[z1];simp,hl',by simp[hb],by simp[Nat.add_assoc]⟩)
     |exact wpAny_bind (wpAny_pure (wpAny_pure (.inr ⟨done++[i],is,by simp,hl',by simp[hb],by simp[Nat.add_assoc]⟩)))
 ·rintro b s' (⟨z1,_,_⟩ | ⟨done,left,z1,hl,hb,rfl⟩)
  ·cases z1
  ·cases hl;rw[List.append_nil]at z1
   show wpAny _ _ (retInt (Builtin.Tuple.tupleHashOf b.toList)) _ _ _;have eH:b.toList=Ys P w k:=by rw[hb];unfold Ys;rw[z1]
   rw[eH];refine wpAny_ret_mkInt ?_;generalize Builtin.Tuple.tupleHashOf (Ys P w k)=m at h;show wpAny _ _ (if (decide (-2^63<=m) && decide (m<2^63))=true then _ else _) Q E _;unfold reduceHash at h;have et:∀t:Nat,t+(k.1.length+1)+done.length+1=t+(k.1.length+1+k.2.length+1):=λt=>by rw[z1];omega
   by_cases hr:(decide (-2^63<=m) && decide (m<2^63))=true
   ·rw[if_pos hr]at h ⊢;refine wpAny_pure ?_
    first | (rw[<-et]at h;exact h) | (simp only[Nat.add_assoc]at et ⊢;exact h)
   ·rw[if_neg hr]at h ⊢;refine wpAny_bind (wpAny_rule (wpAny_pure ?_))
    first | (rw[<-et]at h;exact h) | (simp only[Nat.add_assoc]at et ⊢;exact h)
theorem zbW(hu:A.units<cLine)(hx:IsNK P w s.heap x a)(hy:IsNK P w s.heap y b)(h:R (.done (.ret (.bool (decide (x=y))))) s):
  wpAny (model P w) A (Builtin.«tuple.__eq__» ⟨[.ref a,.ref b],[]⟩) R E s:=by
 have tY:=hy.ty;obtain⟨oa,ia,na,ca,ua,a1,ac,a2,a3,a4,a5⟩:=hx;obtain⟨ob,ib,nb,cb,ub,b1,bc,b2,b3,b4,b5⟩:=hy;have eD:decide (x=y)=(decide (x.1=y.1) && decide (x.2=y.2)):=by
  rw[<-Bool.decide_and];exact decide_eq_decide.mpr Prod.ext_iff
 have eS:(ia.size == ib.size)=(ua.length == ub.length):=by
  rw[<-Array.length_toList,<-Array.length_toList,a3,b3,List.length_cons,List.length_cons];simp
 show wpAny _ _ (isInstance (.ref b) (.type "tuple") >>= _) _ _ s;refine wpAny_bind (wpAny_isInstance tY isSubtype_tuple_tuple ?_);refine wpAny_bind (wpAny_tupleItemsOf a1 a2 ?_);refine wpAny_bind (wpAny_tupleItemsOf b1 b2 ?_);refine wpAny_bind ?_;refine wpAny_forIn_list _
  (λrest r s'=>r.1=none/\s'=s/\(rest=List.zip (.ref ca::ua) (.ref cb::ub)\/(x.1=y.1/\∃x' y' xs' ys',rest=List.zip xs' ys'/\ItemsAre (yu P w) x' xs'/\ItemsAre (yu P w) y' ys'/\decide (x'=y')=decide (x.2=y.2)/\(xs'.length == ys'.length)=(ua.length == ub.length))))
  _ ?_ ?_ _ _ ⟨rfl,rfl,.inl (by rw[<-a3,<-b3])⟩
 ·rintro⟨u,v⟩ rest r s' ⟨hr,rfl,hz | ⟨hE,x',y',xs',ys',hz,hx',hy',hdec,hlen⟩⟩
  ·simp only[List.zip_cons_cons,List.cons.injEq,Prod.mk.injEq]at hz;obtain⟨⟨rfl,rfl⟩,rfl⟩:=hz;refine wpAny_bind (wpAny_eqBool_tuple hu a4 b4 ?_);by_cases hk:x.1=y.1
   ·rw[decide_eq_true hk];exact wpAny_pure ⟨rfl,rfl,.inr ⟨hk,x.2,y.2,ua,ub,rfl,a5,b5,rfl,rfl⟩⟩
   ·rw[decide_eq_false hk];rw[eD,decide_eq_false hk,Bool.false_and]at h;exact wpAny_bind (wpAny_pure (wpAny_pure (wpAny_pure h)))
  ·cases hx' with
   |nil=>simp at hz
   |@cons k1 u' x'' xs'' h1 hx''=>
    cases hy' with
    |nil=>simp at hz
    |@cons k2 v' y'' ys'' h2 hy''=>
     obtain⟨⟨rfl,rfl⟩,rfl⟩:=hz;refine wpAny_bind ((yu P w).eqBool h1 h2 ?_);by_cases hk:k1=k2
     ·subst hk;simp only[Bool.not_true,Bool.false_eq_true,if_false];exact wpAny_pure ⟨rfl,rfl,.inr ⟨hE,x'',y'',xs'',ys'',rfl,hx'',hy'',by rw[<-hdec];by_cases q:x''=y''<;>simp[q],by simpa using hlen⟩⟩
     ·rw[decide_eq_false hk];have hf:decide (x.2=y.2)=false:=by rw[<-hdec];simp[hk]
      rw[eD,hf,Bool.and_false]at h;exact wpAny_bind (wpAny_pure (wpAny_pure (wpAny_pure h)))
 ·rintro⟨r1,r2⟩ s' ⟨hr,rfl,hz | ⟨hE,x',y',xs',ys',hz,hx',hy',hdec,hlen⟩⟩
  ·simp at hz
  subst hr;refine wpAny_pure ?_;have fin:(ia.size == ib.size)=decide (x=y):=by
   rw[eS,eD,decide_eq_true hE,Bool.true_and,<-hdec,<-hlen];cases hx' with
   |nil=>
    cases hy' with
    |nil=>simp
    |cons _ _=>simp
   |cons _ _=>
    cases hy' with
    |nil=>simp
    |cons _ _=>simp at hz
  show R (.done (.ret (.bool (ia.size == ib.size)))) s';rw[fin];exact h
theorem zhs(hu:A.units+1<cLine)(hx:IsNK P w s.heap x a)(hy:IsNK P w s.heap y b)(h:Q (decide (x=y)) s):wpAny (model P w) A (eqBool (.ref a) (.ref b)) Q E s:=by
 unfold eqBool
 try with_reducible refine wpAny_holding ?_
 by_cases hab:(Value.ref a == Value.ref b)=true
 ·rw[if_pos hab];have e:a=b:=by have:=eq_of_beq hab;injection this
  subst e;obtain rfl:=hx.one hy;exact wpAny_bind (wpAny_rule (wpAny_pure (by simpa using h)))
 ·rw[if_neg hab];exact wpAny_bind (wpAny_richCompare_same_room hx.ty hy.ty F.slot_tuple_eq (wpAny_call_entry F.slot_tuple_eq hx.ty F.entry_tuple_eq (zbW hu hx hy ⟨_,rfl,(λe=>nomatch e),wpAny_truthy_bool h⟩) (F.args_tuple_eq_2 _ _)) (Nat.lt_of_succ_lt hu))
theorem Vt{its m}(e1:s.heap.get? a=some ob)(ec:ob.cls=.type "tuple")(e2:ob.data=.seq its m)(hq:∀v∈its.toList,∀{Q:Bool->Shared->Prop},Q true s->wpAny (model P w) A (eqIsQuiet n v) Q E s)(h:Q true s):wpAny (model P w) A (eqIsQuiet (n+1) (.ref a)) Q E s:=by
 have tY:s.TypeIs (.ref a) "tuple":=⟨ob,e1,ec⟩
 unfold eqIsQuiet;refine wpAny_bind (wpAny_specialOf tY F.slot_tuple_eq.lookup ?_);refine wpAny_bind (wpAny_isInstance tY isSubtype_tuple_tuple ?_);refine wpAny_bind (wpAny_seqItems e1 e2 ?_);refine wpAny_bind ?_;rw[<-Array.forIn_toList];refine wpAny_forIn_list _ (λrest r s'=>r.1=none/\s'=s/\∀v∈rest,v∈its.toList) _ ?_ ?_ _ _ ⟨rfl,rfl,λ_ z=>z⟩
 ·rintro v rest r s' ⟨hr,rfl,hall⟩;refine wpAny_bind (hq v (hall v List.mem_cons_self) ?_);exact wpAny_pure ⟨rfl,rfl,λu hu'=>hall u (List.mem_cons_of_mem _ hu')⟩
 ·rintro⟨r1,r2⟩ s' ⟨hr,rfl,_⟩;subst hr;exact wpAny_pure h
theorem Uz(hi:ItemsAre (yu P w) ks us):∀v∈us,∀{Q:Bool->Shared->Prop},Q true s->wpAny (model P w) A (eqIsQuiet n v) Q E s:=λv hv Q q=>by
 rw[eqIsQuiet_byValue _ (hi.byValue v hv)];exact wpAny_pure q
theorem zea(hk:IsNK P w s.heap k a)(h:Q true s):wpAny (model P w) A (eqIsQuiet 8 (.ref a)) Q E s:=by
 obtain⟨ob,its,n,c,us,e1,ec,e2,e3,⟨oc,jts,m,c1,cc,c2,c3⟩,e5⟩:=hk;refine Vt e1 ec e2 (λv hv=>?_) h;rw[e3]at hv;rcases List.mem_cons.mp hv with rfl | hv
 ·exact λq=>Vt c1 cc c2 (Uz c3) q
 ·exact Uz e5 v hv
end
def Zv(P:Program)(w:World):HeapKind P w NK where
 is:=IsNK P w
 hash:=λk=>reduceHash (Builtin.Tuple.tupleHashOf (Ys P w k))
 draws:=λk=>k.1.length+1+k.2.length+1
 room:=λA=>A.units+1<cLine
 inj:=λp q=>p.one q
 keeps:=λx ho hd hs=>x.kept ho hd hs
 pyHash:=λhu hk h=>zfO hu hk h
 eqBool:=λhu hx hy h=>zhs hu hx hy h
 quiet:=λhk h=>zea hk h
end L2
namespace HT
open PySem PySem.Spec PyProof.Rows
section
variable {prog:Program} {w:World} {A:Around} {E:Value->Shared->Prop} {s:Shared}
theorem zfE{ws:List Value}(ht:IsTup s.heap t ([]:List Value).toArray)(hb:IsTup s.heap b ws.toArray)(h:Q (.ref b) s):wpAny (model prog w) A (binaryOp .Add (.ref t) (.ref b)) Q E s:=by
 obtain⟨⟨c1,d1,x1,l1⟩,p1,q1,n1,r1⟩:=id ht;obtain⟨⟨c2,d2,x2,l2⟩,p2,q2,n2,r2⟩:=id hb;subst q1 r1 q2 r2;exact concat_meets ⟨_,p1,rfl⟩ ⟨_,p2,rfl⟩ noFill_tuple_add seq_tuple_add PySem.F.slot_tuple_add PySem.F.entry_tuple_add (PySem.F.args_tuple_add_2 _ _) (tuple_addW0 t b #[] ws.toArray n1 n2 d1 d2 l1 l2 rfl) ⟨p1,p2,h⟩
theorem zc7{lo hi:Option Int}(ht:IsTup s.heap t items)(hs:s.heap.IsSliceOf sl vl vu .none)(pl:IsPart vl lo)(pu:IsPart vu hi)(hw:sIx items.size 0 lo=0/\sIx items.size items.size hi=items.size)(h:Q (.ref t) s):wpAny (model prog w) A (getItem (.ref t) (.ref sl)) Q E s:=by
 obtain⟨os,hos,hcs,hds⟩:=id hs;have tS:s.TypeIs (.ref sl) "slice":=⟨os,hos,hcs⟩
 unfold getItem
 try with_reducible refine wpAny_holding ?_
 first | refine wpAny_bind (wpAny_pure ?_) | skip
 refine wpAny_bind (wpAny_sequenceKey ht.typeIs (by decide) ?_);refine wpAny_bind (wpAny_callSpecial?_slot ht.typeIs PyProof.Rows.slot_tuple_getitem
  (wpAny_call_entry PyProof.Rows.slot_tuple_getitem ht.typeIs entry_tuple_getitem ?_ (args_tuple_getitem _ _)))
 show wpAny _ _ (Builtin.Tuple.tupleItemsOf (.ref t) >>= _) _ _ s;refine wpAny_bind (tupleItemsOf_ ht ?_);refine wpAny_bind (wpAny_typeOf tS ?_);refine wpAny_bind (Zz hs pl pu ?_);have yes:(((sIx items.size 0 lo:Nat):Int) == 0 && (1:Int) == 1 && (sIx items.size items.size hi-sIx items.size 0 lo) == items.size)=true:=by
  rw[hw.1,hw.2];simp
 show wpAny _ _ (if (((sIx items.size 0 lo:Nat):Int) == 0 && 1 == 1 && (sIx items.size items.size hi-sIx items.size 0 lo) == items.size)=true then _ else _) _ _ s;rw[if_pos yes];have ex:∀{R:Bool->Shared->Prop} {E':Value->Shared->Prop},R true s->wpAny (model prog w) A.in1 (Builtin.Tuple.tupleIsExact (.ref t)) R E' s:=λ{R E'} q=>by
  exact wpAny_bind (wpAny_typeOf ht.typeIs (wpAny_pure (by exact q)))
 first
  |exact wpAny_bind (ex (by exact wpAny_bind (wpAny_rule (wpAny_pure ⟨_,rfl,wpAny_pure h⟩))))
  |exact wpAny_bind (wpAny_bind (ex (by exact wpAny_bind (wpAny_rule (wpAny_bind (wpAny_pure (wpAny_pure ⟨_,rfl,wpAny_pure h⟩)))))))
  |exact wpAny_bind (ex (by exact wpAny_bind (wpAny_rule (wpAny_bind (wpAny_pure (wpAny_pure ⟨_,rfl,wpAny_pure h⟩))))))
end
end HT
namespace L2
open PySem PySem.Spec PyProof.Rows
section
variable {X:Cx}
def zho:R2:=λx y H Q=>Ex4 λa b xs ys=>x=.ref a/\y=.ref b/\H a=some (.tup xs)/\H b=some (.tup ys)/\xs.length+ys.length<=sizeLine/\∀p H',Same H H'->H' p=some (.tup (xs++ys))->Q (.ref p) H'
theorem ze7:OpR X (binaryOp .Add) zho:=by
 intro pins s Z H x y v u Q I rx ry h;obtain⟨a,b,xs,ys,rfl,rfl,ha,hb,hz,q⟩:=h;cases rx
 cases ry;by_cases hx:xs=[]
 ·subst hx;obtain⟨its,r1,p1,_⟩:=I.tuple (SqT.of ha);obtain⟨its2,r2,p2,_⟩:=I.tuple (SqT.of hb);obtain rfl:its=[]:=r1.nil_iff.mpr rfl;exact HT.zfE p1 p2 ⟨.ref b,H,I,rfl,q b H (Same.refl _) hb⟩
 ·refine zfM pins s Z H (.ref a) (.ref b) (.ref a) (.ref b) Q I rfl rfl ⟨a,b,xs,ys,rfl,rfl,SqT.of ha,SqT.of hb,hx,hz,λe=>q a H (Same.refl _) (by rw[e,List.append_nil];exact ha),λ_ p hp=>q p _ (zr hp) zp⟩
theorem zfU(K:W.Frag)(e:X.K=K:=by rfl):vg X (.type "tuple") (λxs H Q=>∃p ys,xs=[.ref p]/\((SqL K H p ys/\∀l,H l=none->Q (.ref l) (upd H l (.tup ys)))\/(SqT K H p ys/\Q (.ref p) H))):=by subst e;exact Y4
def zhV:V->Option Int->Option Int->Hp->VK->Prop:=λx lo hi H Q=>Ex2 λa xs=>x=.ref a/\H a=some (.tup xs)/\∀p H',Same H H'->H' p=some (.tup (uQ xs lo hi))->Q (.ref p) H'
theorem zcQ:SlR X zhV:=by
 intro pins s Z H x v vl vu lo hi sl Q I rx hs pl pu h;obtain⟨a,xs,rfl,hx,q⟩:=h;by_cases hw:HT.sIx xs.length 0 lo=0/\HT.sIx xs.length xs.length hi=xs.length
 ·cases rx;obtain⟨its,r,ht,hz⟩:=I.tuple (SqT.of hx)
  have hlen:its.toArray.size=xs.length:=by rw[List.size_toArray];exact r.length.symm
  refine⟨"tuple",_,PyProof.Rows.slot_tuple_getitem.lookup,ht.typeIs,?_⟩;refine HT.zc7 ht hs pl pu (by rw[hlen];exact hw) ⟨.ref a,H,I,rfl,q a H (Same.refl _) ?_⟩;unfold uQ;rw[hw.1,hw.2,List.drop_zero,Nat.sub_zero,List.take_length];exact hx
 ·exact zgF pins s Z H (.ref a) v vl vu lo hi sl Q I rx hs pl pu ⟨a,xs,rfl,SqT.of hx,hw,λp hp=>q p _ (zr hp) zp⟩
end
def zaa(P:Program)(w:World)(a:Addr)(xs:List (NK×Addr×Value)):Heap->Prop:=λh=>∃o es ep,h.get? a=some o/\o.ExactDict/\o.data=.dict es ep/\es.toList=xs.map (entryOfKey (Zv P w))/\(xs.map (·.1)).Nodup
def NTup(H:Hp)(k:NK)(b:Addr):Prop:=∃c,H b=some (.tup (.ref c::k.2.map kV))/\H c=some (.tup (k.1.map kV))
theorem NTup.same(h:NTup H k b)(s:∀b xs,H b=some (.tup xs)->H' b=some (.tup xs)):NTup H' k b:=let ⟨c,h1,h2⟩:=h;⟨c,s _ _ h1,s _ _ h2⟩
abbrev KN(H:Hp):List (NK×V)->List (NK×Addr×Value)->Prop:=Paired λp q=>p.1=q.1/\NTup H p.1 q.2.1/\RelV p.2 q.2.2
theorem KN.val(r:KN H kvs xs)(k:NK):RelO (vL kvs k) ((atKey xs k).map (·.2)):=by
 induction r with
 |nil=>exact True.intro
 |@cons p q ps qs h t ih=>
  obtain⟨h1,_,h2⟩:=h;by_cases e:p.1=k
  ·have e':=h1.symm.trans e;rw[vh e,show atKey (q::qs) k=some q.2 by simp[atKey,List.find?_cons,e']];exact h2
  ·have e':¬ q.1=k:=λz=>e (h1.trans z);rw[vp e,show atKey (q::qs) k=atKey qs k by simp[atKey,List.find?_cons,e']];exact ih
theorem KN.put(r:KN H kvs xs)(k:NK)(hb:NTup H k b)(ry:RelV y u):KN H (putK kvs k y) (storedH xs k b u):=by
 have e:(kvs.any λkv=>decide (kv.1=k))=(atKey xs k).isSome:=by
  rw[qJ,(r.val k).isSome_eq,Option.isSome_map]
 have rep:∀{kvs:List (NK×V)} {xs:List (NK×Addr×Value)},KN H kvs xs->KN H (kvs.map λkv=>if kv.1=k then (kv.1,y) else kv) (xs.map (putAt k u)):=λ{kvs xs} r=>by
  induction r with
  |nil=>exact .nil
  |@cons p q ps qs h t ih=>
   rw[List.map_cons,List.map_cons];refine .cons ?_ ih;obtain⟨h1,h2,h3⟩:=h;unfold putAt;by_cases e:p.1=k
   ·rw[if_pos e,if_pos (h1.symm.trans e)];exact⟨h1,h2,ry⟩
   ·rw[if_neg e,if_neg (λz=>e (h1.trans z))];exact⟨h1,h2,h3⟩
 unfold putK storedH;rw[e];by_cases q:(atKey xs k).isSome=true
 ·rw[if_pos q,if_pos q];exact rep r
 ·rw[if_neg q,if_neg q];exact Paired.snoc r ⟨rfl,hb,ry⟩
theorem KN.keeps(r:KN H kvs xs)(s:∀b xs,H b=some (.tup xs)->H' b=some (.tup xs)):KN H' kvs xs:=Paired.mapP r λ_ _ z=>⟨z.1,z.2.1.same s,z.2.2⟩
def DN(P:Program)(w:World)(H:Hp)(a:Addr)(kvs:List (NK×V)):Prop:=∃xs,H a=some (.ext (zaa P w a xs))/\KN H kvs xs/\kvs.length<=sizeLine/\(a == sysModules)=false
theorem DN.same(h:DN P w H a kvs)(s:Same H H'):DN P w H' a kvs:=let ⟨xs,h1,h2,h3⟩:=h;⟨xs,s _ _ h1,h2.keeps λb xs e=>s _ _ e,h3⟩
theorem DN.stay(h:DN P w H a kvs)(e:H' a=H a)(s:∀b xs,H b=some (.tup xs)->H' b=some (.tup xs)):DN P w H' a kvs:=let ⟨xs,h1,h2,h3⟩:=h;⟨xs,by rw[e];exact h1,h2.keeps s,h3⟩
theorem DN.ne(h:DN P w H a kvs)(e:H b=some (.tup xs)):b≠a:=let ⟨_,h1,_⟩:=h;Xc e h1 (λz=>nomatch z)
section
variable {P:Program} {w:World} {H:Hp} {h:Heap} {a b:Addr} {k:NK}
theorem zcN(ok:HOk P w H h)(e:NTup H k b):IsNK P w h k b:=by
 obtain⟨c,e1,e2⟩:=e;obtain⟨_,its,r,o,h1,h2,n,h3⟩:=(show ObjOk P w H h b (.tup (.ref c::k.2.map kV)) from ok b _ e1)
 cases r with
 |@cons _ v _ vs hv hr=>
  obtain rfl:v=.ref c:=hv;exact⟨o,_,n,c,vs,h1,h2,h3,by simp,zbX ok e2,Vk hr⟩
theorem zcu(ok:HOk P w H h)(d:DN P w H a kvs):∃xs,KN H kvs xs/\h.DictOfH (Zv P w) a xs:=by
 obtain⟨xs,e,r,_,_⟩:=d;obtain⟨⟨o,es,ep,h1,h2,h3,h4,h5⟩,_⟩:=(show ObjOk P w H h a (.ext (zaa P w a xs)) from ok a _ e)
 refine⟨xs,r,o,es,ep,h1,h2,h3,h4,?_,h5⟩;have all:∀{l:List (NK×V)} {m:List (NK×Addr×Value)},KN H l m->∀x∈m,(Zv P w).is h x.1 x.2.1:=λ{l m} q=>by
  induction q with
  |nil=>intro x hx;exact nomatch hx
  |@cons p q ps qs hq t ih=>
   intro x hx;rcases List.mem_cons.mp hx with e | hx
   ·subst e;exact zcN ok (by rw[<-hq.1];exact hq.2.1)
   ·exact ih x hx
 exact all r
theorem zcR(p:zaa P w a xs h'):ObjOk P w H' h' a (.ext (zaa P w a xs)):=
 ⟨p,let ⟨o,_,_,e,_⟩:=p;⟨o,e⟩,λh1 h2 ⟨o,es,ep,e,c⟩ k=>⟨o,es,ep,k _ e,c⟩⟩
end
section
variable {X:Cx} {pins:List (Addr×Obj)} {Z:St} {H:Hp} {s:Shared} {a b:Addr} {v:V} {u r:Value} {A:Around} {E:Value->Shared->Prop} {kvs:List (NK×V)} {k:NK}
theorem zdx(hu:A.units+2<cLine)(I:Inv X pins Z H s)(d:DN X.prog X.w H a kvs)(t:NTup H k b)(l:vL kvs k=some v)(h:∀w' s',Inv X pins Z H s'->RelV v w'->Q w' s'):wpAny (model X.prog X.w) A (getItem (.ref a) (.ref b)) Q E s:=by
 obtain⟨xs,rel,dd⟩:=zcu I.hok d;obtain⟨w',hw,rw'⟩:=RelO.some_of (by rw[<-l];exact rel.val k);obtain⟨p,hp,hp2⟩:=Option.map_eq_some_iff.mp hw;refine wpAny_getItem_heap hu (zcN I.hok t) dd hp ?_;rw[hp2];exact h w' _ (I.tok _) rw'
theorem ze3(hu:A.units+2<cLine)(I:Inv X pins Z H s)(d:DN X.prog X.w H a kvs)(t:NTup H k b)(h:∀s',Inv X pins Z H s'->Q (.bool (!(vL kvs k).isSome)) s'):wpAny (model X.prog X.w) A (compareOp .NotIn (.ref b) (.ref a)) Q E s:=by
 obtain⟨xs,rel,dd⟩:=zcu I.hok d;obtain⟨_,_,_,_,hd⟩:=d;refine wpAny_notIn_heap hu (zcN I.hok t) hd dd ?_;have q:=(rel.val k).isSome_eq;rw[Option.isSome_map]at q;rw[<-q];exact h _ (I.tok _)
theorem zdv(hu:A.units+2<cLine)(I:Inv X pins Z H s)(d:DN X.prog X.w H a kvs)(t:NTup H k b)(hl:kvs.length<sizeLine)(rv:RelV v r)(h:∀s' H',DN X.prog X.w H' a (putK kvs k v)->(∀b,b≠a->H' b=H b)->Inv X pins Z H' s'->Q () s'):wpAny (model X.prog X.w) A (setItem (.ref a) (.ref b) r) Q E s:=by
 obtain⟨xs,rel,dd⟩:=zcu I.hok d;have nt:=λb ys=>d.ne (b:=b) (xs:=ys);obtain⟨ys,e,_,z,hd⟩:=d;have hz:xs.length<=sizeLine:=by rw[<-Paired.length rel];exact z
 refine wpAny_setItem_heap hu (zcN I.hok t) dd λh' dd' hs=>?_;obtain⟨q,es,ep,hq,h2,h3,h4,_,h5⟩:=dd';have sm:∀c,c≠a->upd H a (.ext (zaa X.prog X.w a (storedH xs k b r))) c=H c:=λc hc=>zB hc;refine h _ _ ⟨storedH xs k b r,zp,(rel.put k t rv).keeps λc zs ec=>by rw[zB (nt c zs ec)];exact ec,by have:=jZ kvs k v;omega,hd⟩ sm (JP I (by rw[e];exact True.intro) hs ⟨q,hq⟩ (zcR ⟨q,es,ep,hq,h2,h3,h4,h5⟩))
theorem zeo(I:Inv X pins Z H s)(d:DN X.prog X.w H a kvs):s.TypeIs (.ref a) "dict":=let ⟨_,_,dd⟩:=zcu I.hok d;dd.typeIs
end
theorem Xx(hr:Room k A):A.units+2<cLine:=by have:=hr.units;omega
def zg4(P:Program)(w:World)(td ty:TE):TE:=λZ H Q=>td Z H λx H1=>ty Z H1 λy H2=>Ex5 λa kvs k b v=>x=.ref a/\DN P w H2 a kvs/\y=.ref b/\NTup H2 k b/\vL kvs k=some v/\Q v H2
def ze8(P:Program)(w:World)(ty td:TE):TE:=λZ H Q=>ty Z H λy H1=>td Z H1 λx H2=>Ex4 λa kvs k b=>x=.ref a/\DN P w H2 a kvs/\y=.ref b/\NTup H2 k b/\Q (.bl (!(vL kvs k).isSome)) H2
def zg5(P:Program)(w:World)(td ty tv:TE):TS:=λD Z H=>tv Z H λv H1=>td Z H1 λx H2=>ty Z H2 λy H3=>Ex4 λa kvs k b=>x=.ref a/\DN P w H3 a kvs/\y=.ref b/\NTup H3 k b/\kvs.length<sizeLine/\∀H4,DN P w H4 a (putK kvs k v)->(∀c,c≠a->H4 c=H3 c)->D.nx Z H4
def zhF(P:Program)(w:World):TE:=λ_ H Q=>∀p H',H p=none->DN P w H' p []->(∀c,c≠p->H' c=H c)->Q (.ref p) H'
section
variable {X:Cx} {o i value:Expr} {pos pos':Pos} {td ty tv:TE}
theorem zcn(hu:X.A.units+2<cLine)(ho:PE X o td)(hi:PE X i ty)(hs:zg8 i):PE X (.Subscript o i pos) (zg4 X.prog X.w td ty):=by
 intro pins s Z H Q I h;refine ze9 PySem.F.slot_dict_getitem.lookup hs (thn (ho pins s Z H _ I h) λu s1 ⟨x,H1,I1,rx,q1⟩=>thn (hi pins s1 Z H1 _ I1 q1) λiv s2 ⟨y,H2,I2,ry,a,kvs,k,b,v,ex,d,ey,t,l,q2⟩=>?_);subst ex ey;obtain rfl:u=Value.ref a:=rx;obtain rfl:iv=Value.ref b:=ry;exact⟨zeo I2 d,zdx hu I2 d t l λw' s3 I3 rw'=>⟨v,H2,I3,rw',q2⟩⟩
theorem Jr(hu:X.A.units+2<cLine)(hi:PE X i ty)(ho:PE X o td):PC X .NotIn i o (ze8 X.prog X.w ty td):=by
 intro pins s Z H Q I h;refine thn (hi pins s Z H _ I h) λiv s1 ⟨y,H1,I1,ry,q1⟩=>thn (ho pins s1 Z H1 _ I1 q1) λu s2 ⟨x,H2,I2,rx,a,kvs,k,b,ex,d,ey,t,q2⟩=>?_;subst ex ey;obtain rfl:u=Value.ref a:=rx;obtain rfl:iv=Value.ref b:=ry;exact ze3 hu I2 d t λs3 I3=>⟨.bl _,H2,I3,rfl,q2⟩
theorem JV(hu:X.A.units+2<cLine)(ho:PE X o td)(hi:PE X i ty)(hv:PE X value tv)(hs:swapsWith value (some (.Subscript o i pos')) pos.line X.env=pure false):
  PS X (.Assign [.Subscript o i pos'] value pos) (zg5 X.prog X.w td ty tv):=by
 intro pins s Z H D I h;refine wpAny_Assign_Subscript (thn (hv pins s Z H _ I h) λr s1 ⟨v,H1,I1,rv,q1⟩=>thn (ho pins s1 Z H1 _ I1 q1) λu s2 ⟨x,H2,I2,rx,q2⟩=>thn (hi pins s2 Z H2 _ I2 q2) λiv s3 ⟨y,H3,I3,ry,a,kvs,k,b,ex,d,ey,t,hl,q3⟩=>?_) hs;subst ex ey;obtain rfl:u=Value.ref a:=rx;obtain rfl:iv=Value.ref b:=ry;exact zdv hu I3 d t hl rv λs4 H4 d4 c4 I4=>⟨Z,H4,I4,q3 H4 d4 c4⟩
theorem zfo:PE X (.Dict [] [] pos) (zhF X.prog X.w):=λpins s Z H Q I h=>by
 have p0:zaa X.prog X.w s.heap.objs.size [] (s.heap.push { cls:=.type "dict",data:=.dict #[] }):=⟨_,#[],0,Heap.get?_push_size _ rfl,⟨rfl,rfl,rfl⟩,rfl,rfl,List.nodup_nil⟩
 have fr:=I.hok.fresh (Nat.le_refl s.heap.objs.size);exact wpAny_Dict_empty ⟨.ref s.heap.objs.size,_,I.laid (λ_ _ q=>Heap.get?_push_of_some _ q) (Nat.le_refl _) (zcR p0),rfl,h _ _ fr ⟨[],zp,.nil,Nat.zero_le _,beq_eq_false_iff_ne.mpr (Ne.symm (Nat.ne_of_lt I.big))⟩ λc hc=>zB hc⟩
end
end L2
namespace Lw
def zT(b n:Nat):List Int:=if h:2<=b/\b<=n then zT b (n / b)++[((n % b:Nat):Int)] else [(n:Int)]
termination_by n
decreasing_by exact Nat.div_lt_self (by omega) (by omega)
theorem wJ(h:n<b):zT b n=[(n:Int)]:=by
 rw[zT,dif_neg (by omega)]
theorem jQ(h2:2<=b)(h:b<=n):zT b n=zT b (n / b)++[((n % b:Nat):Int)]:=by
 rw[zT,dif_pos ⟨h2,h⟩]
def ahead(b r:Nat):List Int:=if r=0 then [] else zT b r
theorem W3(h2:2<=b):zT b n=ahead b (n / b)++[((n % b:Nat):Int)]:=by
 unfold ahead;by_cases h:n<b
 ·rw[wJ h,if_pos (Nat.div_eq_of_lt h),Nat.mod_eq_of_lt h];rfl
 ·rw[jQ h2 (by omega),if_neg];have:=Nat.div_pos (a:=n) (b:=b) (by omega) (by omega);omega
theorem UJ(h2:2<=b)(hr:0<r):ahead b r=ahead b (r / b)++[((r % b:Nat):Int)]:=by
 rw[<-W3 h2];unfold ahead;rw[if_neg (by omega)]
theorem vX{b:Nat}(h2:2<=b):∀(m n:Nat),n<2^m->(zT b n).length<=m+1
 |0,n,h=>by rw[wJ (by simp at h;omega)];simp
 |m+1,n,h=>by
  by_cases hn:n<b
  ·rw[wJ hn];simp
  ·rw[jQ h2 (by omega),List.length_append,List.length_singleton];have h3:n / b<=n / 2:=Nat.div_le_div_left h2 (by omega);have h4:n / 2<2^m:=by rw[Nat.pow_succ]at h;omega
   have:=vX h2 m (n / b) (by omega);omega
theorem WD(h2:2<=b):∀n,∀f∈zT b n,0<=f/\f<b:=by
 intro n
 induction n using Nat.strongRecOn with
 |_ n ih=>
  intro f hf;by_cases hn:n<b
  ·rw[wJ hn]at hf;have:f=n:=by simpa using hf
   omega
  ·rw[jQ h2 (by omega)]at hf;rcases List.mem_append.mp hf with hf | hf
   ·exact ih (n / b) (Nat.div_lt_self (by omega) (by omega)) f hf
   ·have e:f=((n % b:Nat)):=by simpa using hf
    have:=Nat.mod_lt n (show 0<b by omega);omega
theorem Wq:zT b n≠[]:=by
 rw[zT];split
 ·simp
 ·simp
def tops(b:Nat):Nat->Nat->List Int
 |0,n=>[((n / b^0:Nat):Int)]
 |k+1,n=>((n / b^(k+1):Nat):Int)::tops b k (n % b^(k+1))
theorem Ja{b:Nat}:∀(k n:Nat),tops b (k+1) n=tops b k (n / b)++[((n % b:Nat):Int)]
 |0,n=>by simp[tops]
 |k+1,n=>by
  rw[tops,Ja k (n % b^(k+2)),tops,List.cons_append];have e:b^(k+1+1)=b*b^(k+1):=by rw[Nat.pow_succ,Nat.mul_comm]
  have e1:n % b^(k+1+1) / b=n / b % b^(k+1):=by rw[e,Nat.mod_mul_right_div_self]
  have e2:n % b^(k+1+1) % b=n % b:=by rw[e,Nat.mod_mul_right_mod]
  have e3:n / b^(k+1+1)=n / b / b^(k+1):=by rw[e,Nat.div_div_eq_div_mul]
  rw[e1,e2,e3]
theorem YH{b:Nat}(h2:2<=b):∀(k n:Nat),n<b^(k+1)->(k=0\/b^k<=n)->tops b k n=zT b n
 |0,n,h,_=>by
  rw[wJ (by simpa using h)];simp[tops]
 |k+1,n,h,hk=>by
  have hge:b^(k+1)<=n:=by
   rcases hk with z | z
   ·omega
   ·exact z
  have hb:=Nat.le_trans (by rw[Nat.pow_succ];exact Nat.le_mul_of_pos_left b (Nat.pow_pos (by omega))) hge;rw[Ja,jQ h2 hb];have h3:n / b<b^(k+1):=by
   rw[Nat.div_lt_iff_lt_mul (by omega),<-Nat.pow_succ];exact h
  have h4:b^k<=n / b:=by
   rw[Nat.le_div_iff_mul_le (by omega),<-Nat.pow_succ];exact hge
  rw[YH h2 k (n / b) h3 (.inr h4)]
theorem zbe{b:Nat}:∀(k n:Nat),(tops b k n).length=k+1
 |0,n=>rfl
 |k+1,n=>by rw[tops,List.length_cons,zbe k]
def Zh(b:Int)(ns:List Int):Int:=ns.foldl (λn f=>n*b+f) 0
theorem YM(b:Int):∀(ns:List Int) (n0:Int),ns.foldl (λn f=>n*b+f) n0=n0*b^ns.length+Zh b ns
 |[],n0=>by simp[Zh]
 |f::ns,n0=>by
  unfold Zh;rw[List.foldl_cons,List.foldl_cons,YM b ns,YM b ns (0*b+f),List.length_cons,Int.pow_succ];rw[Int.zero_mul,Int.zero_add,Int.add_mul,Int.mul_assoc,Int.mul_comm b,Int.add_assoc]
theorem zc2(b f:Int)(ns:List Int):Zh b (f::ns)=f*b^ns.length+Zh b ns:=by
 have:=YM b (f::ns) 0;unfold Zh at *;rw[List.foldl_cons]at *;rw[YM b ns (0*b+f)];unfold Zh;rw[Int.zero_mul,Int.zero_add]
theorem YT(b f:Int)(ns:List Int):Zh b (ns++[f])=Zh b ns*b+f:=by
 unfold Zh;rw[List.foldl_append];rfl
structure Qi (b:Nat) (ns:List Int):Prop where
 ne:ns≠[]
 len:ns.length<=200
 fig:∀f∈ns,0<=f/\f<b
 first:ns.head?≠some 0\/ns.length=1
def Z5(st fs:List Int):Bool:=(List.range fs.length).any λk=>decide ((fs.drop k).take st.length=st)
theorem vV(h:st≠[]):Z5 st fs=true↔∃k,(fs.drop k).take st.length=st:=by
 unfold Z5;simp only[List.any_eq_true,List.mem_range,decide_eq_true_eq];constructor
 ·rintro⟨k,_,e⟩;exact⟨k,e⟩
 ·rintro⟨k,e⟩;refine⟨k,?_,e⟩;have hl:=congrArg List.length e;rw[List.length_take,List.length_drop]at hl;have:0<st.length:=List.length_pos_iff.mpr h;omega
theorem UG(h:st≠[]):Z5 st fs=(List.range ((fs.length:Int)-st.length+1).toNat).any λk=>decide ((fs.drop k).take st.length=st):=by
 rw[Bool.eq_iff_iff,vV h];simp only[List.any_eq_true,List.mem_range,decide_eq_true_eq];constructor
 ·rintro⟨k,e⟩;refine⟨k,?_,e⟩;have hl:=congrArg List.length e;rw[List.length_take,List.length_drop]at hl;have:0<st.length:=List.length_pos_iff.mpr h;omega
 ·rintro⟨k,_,e⟩;exact⟨k,e⟩
def lacks(ls:ZA)(fs:List Int):Bool:=!ls.any λst=>Z5 st fs
theorem Qa{b:Nat}:∀(ns:List Int),(∀f∈ns,0<=f/\f<b)->∃n:Nat,Zh b ns=n/\n<b^ns.length
 |[],_=>⟨0,rfl,by simp⟩
 |f::ns,h=>by
  obtain⟨n,e,hn⟩:=Qa ns λf hf=>h f (List.mem_cons_of_mem _ hf);have hf:=h f List.mem_cons_self;obtain⟨g,rfl⟩:=Int.eq_ofNat_of_zero_le hf.1;refine⟨g*b^ns.length+n,?_,?_⟩
  ·rw[zc2,e];push_cast;rfl
  ·rw[List.length_cons,Nat.pow_succ];have h1:g+1<=b:=by omega
   have h2:(g+1)*b^ns.length<=b*b^ns.length:=Nat.mul_le_mul_right _ h1;rw[Nat.add_mul,Nat.one_mul]at h2;rw[Nat.mul_comm (b^ns.length)];omega
theorem zdz{b:Nat}(h2:2<=b):∀n:Nat,Zh b (zT b n)=n:=by
 intro n
 induction n using Nat.strongRecOn with
 |_ n ih=>
  by_cases h:n<b
  ·rw[wJ h];simp[Zh]
  ·rw[jQ h2 (by omega),YT,ih (n / b) (Nat.div_lt_self (by omega) (by omega))];have:=Nat.div_add_mod n b;have e:((n / b:Nat))*b+((n % b:Nat))=((n / b*b+n % b:Nat):Int):=by push_cast;rfl
   rw[e,Nat.mul_comm,this]
theorem zdy(h2:2<=b):∀n:Nat,0<n->(zT b n).head?≠some 0:=by
 intro n
 induction n using Nat.strongRecOn with
 |_ n ih=>
  intro hn;by_cases h:n<b
  ·rw[wJ h];simp;omega
  ·rw[jQ h2 (by omega)];have q:=ih (n / b) (Nat.div_lt_self hn (by omega)) (Nat.div_pos (by omega) (by omega));cases e:zT b (n / b) with
   |nil=>exact absurd e Wq
   |cons x y=>rw[e]at q;simpa using q
theorem zds(h2:2<=b)(hn:0<n)(hf:f<b):zT b (n*b+f)=zT b n++[(f:Int)]:=by
 have hge:b<=n*b+f:=Nat.le_trans (Nat.le_mul_of_pos_left b hn) (Nat.le_add_right _ _);have e1:(n*b+f) / b=n:=by rw[Nat.mul_comm,Nat.mul_add_div (by omega),Nat.div_eq_of_lt hf];rfl
 have e2:(n*b+f) % b=f:=by rw[Nat.mul_comm,Nat.mul_add_mod,Nat.mod_eq_of_lt hf]
 rw[jQ h2 hge,e1,e2]
theorem zc9{b:Nat}(h2:2<=b):∀k st,st.length=k->st≠[]->(∀f∈st,0<=f/\f<(b:Int))->(st.head?≠some 0\/st.length=1)->∃n:Nat,Zh b st=n/\zT b n=st/\(st.head?≠some 0->0<n):=by
 intro k
 induction k with
 |zero=>intro st hk ne;exact absurd (List.eq_nil_of_length_eq_zero hk) ne
 |succ k ih=>
  intro st hk ne hf h0;obtain⟨ini,x,rfl⟩:∃ini x,st=ini++[x]:=⟨st.dropLast,st.getLast ne,(List.dropLast_concat_getLast ne).symm⟩
  have hx:=hf x (by simp);obtain⟨g,rfl⟩:=Int.eq_ofNat_of_zero_le hx.1;cases hi:ini with
  |nil=>
   subst hi;refine⟨g,by simp[Zh],by rw[wJ (by omega)];rfl,λh=>?_⟩;have:g≠0:=by simpa using h
   omega
  |cons y ys=>
   have hne:ini≠[]:=by rw[hi];simp
   have hhead:ini.head?≠some 0:=by
    rcases h0 with h | h
    ·rw[hi]at h ⊢;simpa using h
    ·rw[hi]at h;simp at h
   obtain⟨m,e1,e2,e3⟩:=ih ini (by simpa using hk) hne (λf hm=>hf f (by simp[hm])) (.inl hhead);have hm:=e3 hhead;rw[<-hi];refine⟨m*b+g,?_,?_,λ_=>?_⟩
   ·rw[YT,e1];push_cast;rfl
   ·rw[zds h2 hm (by omega),e2]
   ·have:=Nat.le_mul_of_pos_right m (show 0<b by omega);omega
theorem zdM(h:st≠[])(q:Z5 st fs=true):Z5 st (fs++gs)=true:=by
 rw[vV h]at q ⊢;obtain⟨k,e⟩:=q;refine⟨k,?_⟩;have hl:=congrArg List.length e;rw[List.length_take,List.length_drop]at hl;have hp:=List.length_pos_iff.mpr h;rw[List.drop_append_of_le_length (by omega),List.take_append_of_le_length (by rw[List.length_drop];omega)];exact e
theorem W4(ne:∀l∈ls,l≠[])(h:lacks ls (fs++gs)=true):lacks ls fs=true:=by
 unfold lacks at *;rw[Bool.not_eq_true',List.any_eq_false]at h ⊢;intro l hl q;exact h l hl (zdM (ne l hl) q)
theorem zb0(h:st∈ls)(ne:st≠[])(pre:List Int):lacks ls (pre++st)=false:=by
 unfold lacks;rw[Bool.not_eq_false',List.any_eq_true];refine⟨st,h,(vV ne).mpr ⟨pre.length,?_⟩⟩;rw[List.drop_left,List.take_of_length_le (Nat.le_refl _)]
def uC(ls:ZA)(fs:List Int):Bool:=ls.any λst=>decide (st.take fs.length=fs)
def zL(ls:ZA):List Int->List Int
 |[]=>[]
 |x::fs=>if uC ls (x::fs) then x::fs else zL ls fs
theorem ZM{ls:ZA}:∀(i:Nat) (fs:List Int),i<=fs.length->(∀k,k<i->uC ls (fs.drop k)=false)->zL ls fs=zL ls (fs.drop i)
 |0,_,_,_=>rfl
 |i+1,[],h,_=>by simp at h
 |i+1,x::fs,h,q=>by
  have h0:=q 0 (by omega);rw[List.drop_zero]at h0;rw[zL,if_neg (by rw[h0];decide),List.drop_succ_cons];exact ZM i fs (by simpa using h) λk hk=>by have:=q (k+1) (by omega);rwa[List.drop_succ_cons]at this
theorem Ui(h:uC ls fs=true):zL ls fs=fs:=by
 cases fs with
 |nil=>rfl
 |cons x fs=>rw[zL,if_pos h]
theorem zex(hi:i<=fs.length)(h:∀k,k<i->uC ls (fs.drop k)=false)(q:uC ls (fs.drop i)=true):zL ls fs=fs.drop i:=by
 rw[ZM i fs hi h,Ui q]
theorem zb2(h:∀k,k<fs.length->uC ls (fs.drop k)=false):zL ls fs=[]:=by
 rw[ZM fs.length fs (Nat.le_refl _) h,List.drop_length];rfl
def X7(ls:ZA)(x:List Int):Prop:=x=[]\/∃st∈ls,∃k,1<=k/\k<st.length/\x=st.take k/\lacks ls x=true
structure StandsL (ls:ZA) (xs:ZA):Prop where
 mem:∀x,x∈xs↔X7 ls x
 up:xs.Pairwise λx y=>HT.um x y=true
theorem za8(h:∀st∈ls,st.length<=4)(q:X7 ls x):x.length<=3:=by
 rcases q with rfl | ⟨st,hst,k,h1,h2,rfl,_⟩
 ·decide
 ·have:=h st hst;rw[List.length_take];omega
theorem zdq(h:uC ls (y++[x])=true):uC ls y=true:=by
 unfold uC at *;rw[List.any_eq_true]at h ⊢;obtain⟨st,hst,q⟩:=h;refine⟨st,hst,decide_eq_true ?_⟩;have q:=of_decide_eq_true q;have e:=congrArg (List.take y.length) q;rw[List.take_left,List.take_take,List.length_append]at e;rw[Nat.min_eq_left (by omega)]at e;exact e
theorem jA{ls:ZA}:∀fs:List Int,∃j,j<=fs.length/\zL ls fs=fs.drop j/\(∀k,k<j->uC ls (fs.drop k)=false)/\(j<fs.length->uC ls (fs.drop j)=true)
 |[]=>⟨0,Nat.le_refl _,rfl,λk hk=>by omega,λh=>by simp at h⟩
 |x::fs=>by
  by_cases h:uC ls (x::fs)=true
  ·exact⟨0,Nat.zero_le _,by rw[zL,if_pos h];rfl,λk hk=>by omega,λ_=>h⟩
  ·obtain⟨j,h1,h2,h3,h4⟩:=jA fs;refine⟨j+1,by rw[List.length_cons];omega,by rw[zL,if_neg h,h2,List.drop_succ_cons],λk hk=>?_,λhj=>by rw[List.drop_succ_cons];exact h4 (by rw[List.length_cons]at hj;omega)⟩;cases k with
   |zero=>rw[List.drop_zero];simpa using h
   |succ k=>rw[List.drop_succ_cons];exact h3 k (by omega)
theorem jr(fs:List Int)(x:Int):zL ls (zL ls fs++[x])=zL ls (fs++[x]):=by
 obtain⟨j,h1,h2,h3,_⟩:=jA fs;rw[h2,ZM j (fs++[x]) (by rw[List.length_append];omega) (λk hk=>?_),List.drop_append_of_le_length h1];rw[List.drop_append_of_le_length (by omega)];cases e:uC ls (fs.drop k++[x]) with
 |false=>rfl
 |true=>rw[<-h3 k hk,zdq e]
theorem zdg(ne:st≠[])(h:Z5 st (fs.drop j)=true):Z5 st fs=true:=by
 rw[vV ne]at h ⊢;obtain⟨k,e⟩:=h;exact⟨j+k,by rw[<-List.drop_drop];exact e⟩
theorem Uk(ne:∀l∈ls,l≠[])(j:Nat)(h:lacks ls fs=true):lacks ls (fs.drop j)=true:=by
 unfold lacks at *;rw[Bool.not_eq_true',List.any_eq_false]at h ⊢;intro st hst q;exact h st hst (zdg (ne st hst) q)
theorem jF(ne:∀l∈ls,l≠[])(x:Int)(h:lacks ls fs=true):lacks ls (zL ls fs++[x])=lacks ls (fs++[x]):=by
 obtain⟨j,h1,h2,h3,_⟩:=jA fs;rw[h2,<-List.drop_append_of_le_length h1];rw[Bool.eq_iff_iff];constructor
 ·intro q;unfold lacks at *;rw[Bool.not_eq_true',List.any_eq_false]at h q ⊢;intro st hst hs;rw[vV (ne st hst)]at hs;obtain⟨k,e⟩:=hs;have hp:=List.length_pos_iff.mpr (ne st hst);have hl:=congrArg List.length e;rw[List.length_take,List.length_drop,List.length_append,List.length_singleton]at hl;by_cases hin:k+st.length<=fs.length
  ·refine h st hst ((vV (ne st hst)).mpr ⟨k,?_⟩);rw[List.drop_append_of_le_length (by omega),List.take_append_of_le_length (by rw[List.length_drop];omega)]at e;exact e
  ·have hk:k+st.length=fs.length+1:=by omega
   rw[List.take_of_length_le (by rw[List.length_drop,List.length_append,List.length_singleton];omega)]at e;by_cases hkj:j<=k
   ·refine q st hst ((vV (ne st hst)).mpr ⟨k-j,?_⟩);rw[List.drop_drop,show j+(k-j)=k by omega,e,List.take_of_length_le (Nat.le_refl _)]
   ·have h3k:=h3 k (by omega);rw[List.drop_append_of_le_length (by omega)]at e;unfold uC at h3k;rw[List.any_eq_false]at h3k;refine h3k st hst (decide_eq_true ?_);rw[<-e,List.take_left]
 ·intro q;exact Uk ne j q
theorem jz(ne:∀l∈ls,l≠[])(h:lacks ls fs=true):X7 ls (zL ls fs):=by
 obtain⟨j,h1,h2,_,h4⟩:=jA fs;rw[h2];by_cases hj:j<fs.length
 ·have q:=h4 hj;unfold uC at q;rw[List.any_eq_true]at q;obtain⟨st,hst,q⟩:=q;have q:=of_decide_eq_true q;have hl:=congrArg List.length q;have hlen:(fs.drop j).length=fs.length-j:=List.length_drop ..;have hlk:=Uk ne j h;refine .inr ⟨st,hst,(fs.drop j).length,by omega,?_,q.symm,hlk⟩;by_cases hlt:(fs.drop j).length<st.length
  ·exact hlt
  ·exfalso;have hle:st.length<=(fs.drop j).length:=by omega
   rw[List.take_of_length_le hle]at q;unfold lacks at hlk;rw[Bool.not_eq_true',List.any_eq_false]at hlk;refine hlk st hst ((vV (ne st hst)).mpr ⟨0,?_⟩);rw[List.drop_zero,<-q,List.take_of_length_le (Nat.le_refl _)]
 ·left;exact List.drop_of_length_le (by omega)
theorem StandsL.first(a:StandsL ls xs):∃r,xs=[]::r:=by
 have h0:=(a.mem []).mpr (.inl rfl);cases xs with
 |nil=>cases h0
 |cons x r=>
  rcases List.mem_cons.mp h0 with e | e
  ·exact⟨r,by rw[e]⟩
  ·have:=(List.pairwise_cons.mp a.up).1 [] e;unfold HT.um at this;by_cases hl:x.length=([]:List Int).length
   ·have:x=[]:=List.eq_nil_of_length_eq_zero hl;exact⟨r,by rw[this]⟩
   ·rw[if_neg hl]at this;have:=of_decide_eq_true this;simp at this
def cnt(ls:ZA)(b:Nat):Nat->List Int->Nat
 |0,_=>1
 |t+1,x=>((List.range b).map λ(c:Nat)=>if lacks ls (x++[(c:Int)])=true then cnt ls b t (zL ls (x++[(c:Int)])) else 0).sum
def Zf(b:Nat):Nat->Nat->List Int
 |0,_=>[]
 |t+1,r=>((r / b^t:Nat):Int)::Zf b t (r % b^t)
def many(p:Nat->Bool):Nat->Nat
 |0=>0
 |n+1=>many p n+(if p n=true then 1 else 0)
theorem qe{p q:Nat->Bool}:∀{N:Nat},(∀n,n<N->p n=q n)->many p N=many q N
 |0,_=>rfl
 |N+1,h=>by rw[many,many,qe (N:=N) λn hn=>h n (by omega),h N (by omega)]
theorem YK{p:Nat->Bool}:∀{N:Nat},(∀n,n<N->p n=false)->many p N=0
 |0,_=>rfl
 |N+1,h=>by rw[many,YK (N:=N) λn hn=>h n (by omega),h N (by omega)];rfl
theorem Zy(p:Nat->Bool)(A:Nat):∀B:Nat,many p (A+B)=many p A+many (λn=>p (A+n)) B
 |0=>rfl
 |B+1=>by rw[<-Nat.add_assoc,many,many,Zy p A B,Nat.add_assoc]
theorem U5(p:Nat->Bool)(B:Nat):∀A:Nat,many p (A*B)=((List.range A).map λc=>many (λr=>p (c*B+r)) B).sum
 |0=>by simp[many]
 |A+1=>by
  rw[Nat.succ_mul,Zy,U5 p B A,List.range_succ,List.map_append,List.sum_append];simp
theorem Zr(p:Nat->Bool)(h:A<=B):many p A<=many p B:=by
 obtain⟨k,rfl⟩:=Nat.exists_eq_add_of_le h;rw[Zy];omega
theorem zct(p:Nat->Bool)(h:A<B)(q:p A=true):many p A<many p B:=by
 have e:many p (A+1)=many p A+1:=by rw[many,if_pos q]
 have:=Zr p (A:=A+1) h;omega
theorem Wx(hr:r<b^t):Zf b (t+1) (c*b^t+r)=(c:Int)::Zf b t r:=by
 have h0:0<b^t:=by omega
 rw[Zf,Nat.add_comm,Nat.add_mul_div_right _ _ h0,Nat.div_eq_of_lt hr,Nat.zero_add,Nat.add_mul_mod_self_right,Nat.mod_eq_of_lt hr]
theorem Xg{f g:Nat->Nat}:∀{N:Nat},(∀c,c<N->f c=g c)->((List.range N).map f).sum=((List.range N).map g).sum:=by
 intro N h;congr 1;apply List.map_congr_left;intro c hc;exact h c (List.mem_range.mp hc)
theorem Qt(ne:∀l∈ls,l≠[])(ih:∀x,lacks ls x=true->many (λr=>lacks ls (x++Zf b t r)) (b^t)=cnt ls b t (zL ls x))(c:Nat):
  many (λr=>lacks ls (x++Zf b (t+1) (c*b^t+r))) (b^t)=if lacks ls (x++[(c:Int)])=true then cnt ls b t (zL ls (x++[(c:Int)])) else 0:=by
 have e1:many (λr=>lacks ls (x++Zf b (t+1) (c*b^t+r))) (b^t)=many (λr=>lacks ls (x++[(c:Int)]++Zf b t r)) (b^t):=by
  apply qe;intro r hr;rw[Wx hr,List.append_assoc];rfl
 rw[e1];by_cases h:lacks ls (x++[(c:Int)])=true
 ·rw[if_pos h,ih _ h]
 ·rw[if_neg h];apply YK;intro r _;cases hc:lacks ls (x++[(c:Int)]++Zf b t r) with
  |false=>rfl
  |true=>exact absurd (W4 ne hc) h
theorem zap{ls:ZA}(ne:∀l∈ls,l≠[]){b:Nat}:∀(t:Nat) (x:List Int),lacks ls x=true->many (λr=>lacks ls (x++Zf b t r)) (b^t)=cnt ls b t (zL ls x)
 |0,x,h=>by
  rw[Nat.pow_zero,many,many,cnt,Zf,List.append_nil,if_pos h]
 |t+1,x,h=>by
  rw[Nat.pow_succ',U5,cnt];apply Xg;intro c _;rw[Qt ne (zap ne t),jF ne _ h,jr]
def gd(ls:ZA)(b n:Nat):Bool:=lacks ls (zT b n)
theorem UT{b:Nat}:∀(t n:Nat),Zf b (t+1) n=tops b t n
 |0,n=>by simp[Zf,tops]
 |t+1,n=>by rw[Zf,UT t,tops]
theorem zeL(h2:2<=b)(h1:1<=c)(hc:c<b)(hr:r<b^t):zT b (c*b^t+r)=(c:Int)::Zf b t r:=by
 rw[<-Wx hr,UT];refine (YH h2 t _ ?_ (.inr ?_)).symm
 ·rw[Nat.pow_succ'];have:(c+1)*b^t<=b*b^t:=Nat.mul_le_mul_right _ hc;rw[Nat.succ_mul]at this;omega
 ·have:1*b^t<=c*b^t:=Nat.mul_le_mul_right _ h1;omega
def uo(ls:ZA)(b:Nat):Nat->Nat
 |0=>if lacks ls [0]=true then 1 else 0
 |t+1=>((List.range b).map λ(c:Nat)=>if c=0 then uo ls b t else if lacks ls [(c:Int)]=true then cnt ls b t (zL ls [(c:Int)]) else 0).sum
theorem Jt(ne:∀l∈ls,l≠[])(h2:2<=b)(h1:1<=c)(hc:c<b):many (λr=>gd ls b (c*b^t+r)) (b^t)=if lacks ls [(c:Int)]=true then cnt ls b t (zL ls [(c:Int)]) else 0:=by
 have e:=Qt (x:=[]) ne (b:=b) (zap ne t) c;rw[List.nil_append]at e;rw[<-e];apply qe;intro r hr;rw[gd,zeL h2 h1 hc hr,List.nil_append,Wx hr]
theorem vZ{ls:ZA}(ne:∀l∈ls,l≠[]){b:Nat}(h2:2<=b):∀t:Nat,uo ls b t=many (gd ls b) (b^t)
 |0=>by
  rw[Nat.pow_zero,many,many,uo,Nat.zero_add];unfold gd;rw[wJ (show 0<b by omega)];rfl
 |t+1=>by
  rw[Nat.pow_succ',U5,uo];apply Xg;intro c hc;by_cases h0:c=0
  ·subst h0;rw[if_pos rfl,vZ ne h2 t];apply qe;intro r _;rw[Nat.zero_mul,Nat.zero_add]
  ·rw[if_neg h0,Jt ne h2 (by omega) hc]
theorem zdV{α:Type}[DecidableEq α]:∀(xs ws:List α),(∀x∈xs,x∈ws)->ws.length<xs.length->∃(i j:Nat) (x:α),i<j/\xs[i]?=some x/\xs[j]?=some x
 |[],ws,_,h=>by simp at h
 |x::xs,ws,hm,h=>by
  by_cases hx:x∈xs
  ·obtain⟨j,hj⟩:=List.getElem?_of_mem hx;exact⟨0,j+1,x,by omega,rfl,by simpa using hj⟩
  ·have hxw:=hm x List.mem_cons_self;obtain⟨i,j,z,hij,h1,h2⟩:=zdV xs (ws.erase x) (λy hy=>(List.mem_erase_of_ne (λe:y=x=>hx (by rw[<-e];exact hy))).mpr (hm y (List.mem_cons_of_mem _ hy))) (by
    rw[List.length_erase_of_mem hxw];rw[List.length_cons]at h;have:0<ws.length:=List.length_pos_of_mem hxw;omega)
   exact⟨i+1,j+1,z,by omega,by simpa using h1,by simpa using h2⟩
theorem Js(h2:2<=b)(hn:n<b^(k+1))(h:k=0\/b^k<=n):(zT b n).length=k+1:=by
 rw[<-YH h2 k n hn h,zbe]
theorem zcw(h2:2<=b)(n:Nat):∃k,n<b^(k+1)/\(k=0\/b^k<=n):=by
 have key:∀K:Nat,n<b^(K+1)->∃k,n<b^(k+1)/\(k=0\/b^k<=n):=by
  intro K
  induction K with
  |zero=>intro h;exact⟨0,h,.inl rfl⟩
  |succ K ih=>
   intro h;by_cases q:n<b^(K+1)
   ·exact ih q
   ·exact⟨K+1,h,.inr (by omega)⟩
 refine key n ?_;have:n<2^n:=Nat.lt_two_pow_self;have h3:=Nat.pow_le_pow_left h2 n;have h4:b^n<=b^(n+1):=Nat.pow_le_pow_right (by omega) (Nat.le_succ n);omega
theorem WQ(h2:2<=b):(zT b n).length=k+1↔n<b^(k+1)/\(k=0\/b^k<=n):=by
 refine⟨λh=>?_,λh=>Js h2 h.1 h.2⟩;obtain⟨m,h1,h3⟩:=zcw h2 n;have e:=Js h2 h1 h3;obtain rfl:k=m:=by omega
 exact⟨h1,h3⟩
def Yc(ls:ZA)(b t:Nat):Option (List Int)->Nat->Nat
 |some x,c=>if lacks ls (x++[(c:Int)])=true then cnt ls b t (zL ls (x++[(c:Int)])) else 0
 |none,c=>if c=0 then uo ls b t else if lacks ls [(c:Int)]=true then cnt ls b t (zL ls [(c:Int)]) else 0
def under(ls:ZA)(b t:Nat)(o:Option (List Int))(s:Nat):Nat:=((List.range s).map (Yc ls b t o)).sum
theorem Ji(ls:ZA)(b t:Nat)(x:List Int):under ls b t (some x) b=cnt ls b (t+1) x:=rfl
theorem zbQ(ls:ZA)(b t:Nat):under ls b t none b=uo ls b (t+1):=rfl
theorem Qo(ls:ZA)(b t:Nat)(o:Option (List Int)):under ls b t o 0=0:=rfl
theorem uD(ls:ZA)(b t:Nat)(o:Option (List Int))(s:Nat):under ls b t o (s+1)=under ls b t o s+Yc ls b t o s:=by
 unfold under;rw[List.range_succ,List.map_append,List.sum_append];simp
def Rep(ls:ZA)(b m:Nat)(o:Option (List Int)):Prop:=(m=0/\o=none)\/(1<=m/\gd ls b m=true/\o=some (zL ls (zT b m)))
theorem uz(h2:2<=b)(h1:1<=m)(hc:c<b):zT b (m*b+c)=zT b m++[(c:Int)]:=by
 have hge:b<=m*b+c:=by
  have:1*b<=m*b:=Nat.mul_le_mul_right b h1;omega
 rw[jQ h2 hge];have e1:(m*b+c) / b=m:=by rw[Nat.add_comm,Nat.add_mul_div_right _ _ (by omega),Nat.div_eq_of_lt hc,Nat.zero_add]
 have e2:(m*b+c) % b=c:=by rw[Nat.add_comm,Nat.add_mul_mod_self_right,Nat.mod_eq_of_lt hc]
 rw[e1,e2]
theorem zbx(h2:2<=b)(h1:1<=m):1<=m*b+c:=by
 have:1*b<=m*b:=Nat.mul_le_mul_right b h1;omega
theorem YG{b m:Nat}(h2:2<=b)(h1:1<=m):∀(t r:Nat),r<b^t->zT b (m*b^t+r)=zT b m++Zf b t r
 |0,r,hr=>by
  have:r=0:=by rw[Nat.pow_zero]at hr;omega
  subst this;rw[Nat.pow_zero,Nat.mul_one,Nat.add_zero,Zf,List.append_nil]
 |t+1,r,hr=>by
  have hp:0<b^t:=Nat.pow_pos (by omega);have hc:r / b^t<b:=by
   rw[Nat.div_lt_iff_lt_mul hp];rw[Nat.pow_succ',]at hr;exact hr
  have hm:r % b^t<b^t:=Nat.mod_lt _ hp;have e:m*b^(t+1)+r=(m*b+r / b^t)*b^t+r % b^t:=by
   have h:=Nat.div_add_mod r (b^t);rw[Nat.pow_succ',Nat.add_mul,Nat.mul_assoc,Nat.add_assoc,Nat.mul_comm (r / b^t),h]
  have h1':1<=m*b+r / b^t:=zbx h2 h1;rw[e,YG h2 h1' t _ hm,uz h2 h1 hc,Zf,List.append_assoc];rfl
theorem zcb(ne:∀l∈ls,l≠[])(h2:2<=b)(R:Rep ls b m o)(t:Nat)(hc:c<b):Yc ls b t o c=many (λr=>gd ls b ((m*b+c)*b^t+r)) (b^t):=by
 rcases R with ⟨rfl,rfl⟩ | ⟨h1,hg,rfl⟩
 ·rw[Nat.zero_mul,Nat.zero_add];show (if c=0 then _ else _)=_;by_cases h0:c=0
  ·subst h0;rw[if_pos rfl,vZ ne h2];apply qe;intro r _;rw[Nat.zero_mul,Nat.zero_add]
  ·rw[if_neg h0,Jt ne h2 (by omega) hc]
 ·have e:=Qt (x:=zT b m) ne (b:=b) (zap ne t) c;show (if lacks ls (zL ls (zT b m)++[(c:Int)])=true then cnt ls b t (zL ls (zL ls (zT b m)++[(c:Int)])) else 0)=_;rw[jF ne _ hg,jr,<-e];apply qe;intro r hr;rw[gd,YG h2 (zbx h2 h1) t r hr,uz h2 h1 hc,Wx hr,List.append_assoc];rfl
theorem jG{ls:ZA}(ne:∀l∈ls,l≠[]){b m:Nat}{o:Option (List Int)}(h2:2<=b)(R:Rep ls b m o)(t:Nat):∀{s:Nat},s<=b->many (gd ls b) (m*b^(t+1))+under ls b t o s=many (gd ls b) ((m*b+s)*b^t)
 |0,_=>by rw[Qo,Nat.add_zero,Nat.pow_succ',show (m*b+0)*b^t=m*(b*b^t) by rw[Nat.add_zero,Nat.mul_assoc]]
 |s+1,hs=>by
  rw[uD,<-Nat.add_assoc,jG ne h2 R t (s:=s) (by omega),zcb ne h2 R t (show s<b by omega),<-Nat.add_assoc,Nat.succ_mul (m*b+s),Zy]
theorem Rep.step(ne:∀l∈ls,l≠[])(h2:2<=b)(R:Rep ls b m o)(hc:c<b):
  (o=none/\c=0/\Rep ls b (m*b+c) none)\/(¬ (o=none/\c=0)/\((lacks ls (o.getD []++[(c:Int)])=true/\Rep ls b (m*b+c) (some (zL ls (o.getD []++[(c:Int)]))))\/(lacks ls (o.getD []++[(c:Int)])=false/\1<=m*b+c/\gd ls b (m*b+c)=false))):=by
 rcases R with ⟨rfl,rfl⟩ | ⟨h1,hg,rfl⟩
 ·by_cases h0:c=0
  ·left;exact⟨rfl,h0,.inl ⟨by omega,rfl⟩⟩
  ·right;refine⟨λz=>h0 z.2,?_⟩;rw[Nat.zero_mul,Nat.zero_add];show (lacks ls [c]=true/\_)\/(lacks ls [c]=false/\_)
   have eg:gd ls b c=lacks ls [c]:=by unfold gd;rw[wJ hc]
   cases hl:lacks ls [c] with
   |true=>left;exact⟨rfl,.inr ⟨by omega,by rw[eg];exact hl,by rw[wJ hc];rfl⟩⟩
   |false=>right;exact⟨rfl,by omega,by rw[eg];exact hl⟩
 ·right;refine⟨λz=>(nomatch z.1),?_⟩;have hm:1<=m*b+c:=zbx h2 h1;show (lacks ls (zL ls (zT b m)++[(c:Int)])=true/\Rep ls b (m*b+c) (some (zL ls (zL ls (zT b m)++[(c:Int)]))))\/(lacks ls (zL ls (zT b m)++[(c:Int)])=false/\_)
  rw[jF ne _ hg,jr];have eg:gd ls b (m*b+c)=lacks ls (zT b m++[(c:Int)]):=by unfold gd;rw[uz h2 h1 hc]
  cases hl:lacks ls (zT b m++[(c:Int)]) with
  |true=>left;exact⟨rfl,.inr ⟨hm,by rw[eg];exact hl,by rw[uz h2 h1 hc]⟩⟩
  |false=>right;exact⟨rfl,hm,by rw[eg];exact hl⟩
theorem zek(ne:∀l∈ls,l≠[])(h2:2<=b)(h1:1<=m)(hg:gd ls b m=false)(t:Nat)(hr:r<=b^t):many (gd ls b) (m*b^t+r)=many (gd ls b) (m*b^t):=by
 rw[Zy,YK (N:=r)]
 ·omega
 intro k hk;cases hc:gd ls b (m*b^t+k) with
 |false=>rfl
 |true=>
  unfold gd at hc hg;rw[YG h2 h1 t k (by omega)]at hc;rw[W4 ne hc]at hg;cases hg
theorem zaP{b:Nat}:∀{t n k:Nat},k<t->n<b^t->(Zf b t n)[k]?=some (((n / b^(t-1-k)) % b:Nat):Int)
 |0,_,_,hk,_=>by omega
 |t+1,n,0,_,hn=>by
  have:n / b^t<b:=by
   rw[Nat.pow_succ']at hn;rcases Nat.eq_zero_or_pos (b^t) with h | h
   ·rw[h]at hn;omega
   ·rw[Nat.div_lt_iff_lt_mul h];exact hn
  rw[Zf,List.getElem?_cons_zero,show t+1-1-0=t by omega,Nat.mod_eq_of_lt this]
 |t+1,n,k+1,hk,hn=>by
  have hb:0<b:=by
   rcases Nat.eq_zero_or_pos b with h | h
   ·subst h;omega
   ·exact h
  rw[Zf,List.getElem?_cons_succ,zaP (by omega) (Nat.mod_lt _ (Nat.pow_pos hb))];have e:t+1-1-(k+1)=t-1-k:=by omega
  rw[e];generalize hj:t-1-k=j;obtain⟨q,hq⟩:∃q,t=j+(q+1):=⟨t-j-1,by omega⟩
  rw[hq,Nat.pow_add,Nat.mod_mul_right_div_self,Nat.pow_succ',Nat.mod_mul_right_mod]
theorem zbw(h2:2<=b)(hN:(zT b n).length=N)(hk:k<N):(zT b n)[k]?=some (((n / b^(N-1-k)) % b:Nat):Int):=by
 obtain⟨K,rfl⟩:∃K,N=K+1:=⟨N-1,by omega⟩
 obtain⟨h1,h3⟩:=(WQ h2).mp hN;rw[<-YH h2 K n h1 h3,<-UT];exact zaP hk h1
theorem wU(h2:2<=b)(hN:(zT b n).length=N):n<b^N:=by
 cases N with
 |zero=>exact absurd (List.length_eq_zero_iff.mp hN) Wq
 |succ K=>exact ((WQ h2).mp hN).1
theorem za6(hb:0<b):n / b^t=n / b^(t+1)*b+(n / b^t) % b:=by
 have h:=Nat.div_add_mod (n / b^t) b;rw[Nat.div_div_eq_div_mul,<-Nat.pow_succ,Nat.mul_comm]at h;exact h.symm
theorem zgB(ne:∀l∈ls,l≠[])(h2:2<=b)(h1:1<=h)(hr:r<b^t)(hg:gd ls b (h*b^t+r)=true):gd ls b h=true:=by
 unfold gd at *;rw[YG h2 h1 t r hr]at hg;exact W4 ne hg
theorem UL(h:many p g<many p n):g<n:=by
 by_cases z:g<n
 ·exact z
 ·have:=Zr p (show n<=g by omega);omega
def aft(ls:ZA)(x:List Int)(f:Int):Option (List Int):=if lacks ls (x++[f])=true then some (zL ls (x++[f])) else none
def ends(fs:List Int):ZA:=(List.range (fs.length+1)).map fs.drop
theorem zdl(fs:List Int):((ends fs).filter (uC ls)++[[]]).head?=some (zL ls fs):=by
 obtain⟨j,h1,h2,h3,h4⟩:=jA fs;rw[List.head?_append,List.head?_filter];unfold ends;rw[List.find?_map];by_cases hj:j<fs.length
 ·have:(List.range (fs.length+1)).find? (uC ls ∘ fs.drop)=some j:=by
   rw[List.find?_range_eq_some];refine⟨h4 hj,List.mem_range.mpr (by omega),λk hk=>?_⟩;show (!uC ls (fs.drop k))=true;rw[h3 k hk];rfl
  rw[this,h2];rfl
 ·have ej:j=fs.length:=by omega
  subst ej;rw[List.drop_length]at h2;rw[h2];cases e:(List.range (fs.length+1)).find? (uC ls ∘ fs.drop) with
  |none=>rfl
  |some i=>
   rw[List.find?_range_eq_some]at e;obtain⟨e1,e2,_⟩:=e;have e2:=List.mem_range.mp e2;by_cases hi:i<fs.length
   ·have:=h3 i hi;rw[show uC ls (fs.drop i)=true from e1]at this;cases this
   ·have:i=fs.length:=by omega
    rw[this];simp
theorem ze4(ne:∀l∈ls,l≠[])(f:Int)(h:lacks ls x=true):(∃e∈ends (x++[f]),e∈ls)↔lacks ls (x++[f])=false:=by
 constructor
 ·rintro⟨e,he,hl⟩;obtain⟨i,_,rfl⟩:=List.mem_map.mp he;have:=zb0 hl (ne _ hl) ((x++[f]).take i);rwa[List.take_append_drop]at this
 ·intro hf;obtain⟨st,hst,hs⟩:∃st∈ls,Z5 st (x++[f])=true:=by
   unfold lacks at hf;have hf:(ls.any λst=>Z5 st (x++[f]))=true:=by simpa using hf
   exact List.any_eq_true.mp hf
  obtain⟨k,hk⟩:=(vV (ne st hst)).mp hs;have hlen:=congrArg List.length hk;rw[List.length_take,List.length_drop,List.length_append,List.length_singleton]at hlen;have hpos:=List.length_pos_iff.mpr (ne st hst);by_cases hx:k+st.length<=x.length
  ·exfalso;have:Z5 st x=true:=by
    rw[vV (ne st hst)];refine⟨k,?_⟩;rw[List.drop_append_of_le_length (by omega),List.take_append_of_le_length (by rw[List.length_drop];omega)]at hk;exact hk
   unfold lacks at h;have h:(ls.any λst=>Z5 st x)=false:=by simpa using h
   rw[List.any_eq_false]at h;exact h st hst this
  ·refine⟨(x++[f]).drop k,List.mem_map.mpr ⟨k,List.mem_range.mpr (by rw[List.length_append,List.length_singleton];omega),rfl⟩,?_⟩;rw[List.take_of_length_le (by rw[List.length_drop,List.length_append,List.length_singleton];omega)]at hk;rw[hk];exact hst
open PySem L2 PyProof.Rows
def zdU(ls F:ZA)(x:List Int):ZA:=if x∈F then F else if lacks ls x=true then F++[x] else F
def Xh(ls:ZA)(st:List Int):Nat->ZA->ZA
 |0,F=>F
 |j+1,F=>zdU ls (Xh ls st j F) (st.take (j+1))
def zby(ls xs:ZA):ZA:=xs.foldl (λF st=>Xh ls st (st.length-1) F) [[]]
theorem zd7:y∈zdU ls F x↔y∈F\/(y=x/\lacks ls y=true):=by
 unfold zdU;by_cases h:x∈F
 ·rw[if_pos h];exact⟨.inl,λz=>z.elim id λz=>by rw[z.1];exact h⟩
 ·rw[if_neg h];by_cases h2:lacks ls x=true
  ·rw[if_pos h2,List.mem_append,List.mem_singleton];exact⟨λz=>z.imp id λz=>⟨z,by rw[z];exact h2⟩,λz=>z.imp id λz=>z.1⟩
  ·rw[if_neg h2];exact⟨.inl,λz=>z.elim id λz=>absurd (by rw[<-z.1];exact z.2) h2⟩
theorem JB{ls F:ZA}{st y:List Int}:∀{j:Nat},y∈Xh ls st j F↔y∈F\/∃k,1<=k/\k<=j/\y=st.take k/\lacks ls y=true
 |0=>⟨.inl,λz=>z.elim id λ⟨k,h1,h2,_⟩=>by omega⟩
 |j+1=>by
  rw[Xh,zd7,JB];constructor
  ·rintro ((h | ⟨k,h1,h2,h3⟩) | ⟨h1,h2⟩)
   ·exact .inl h
   ·exact .inr ⟨k,h1,by omega,h3⟩
   ·exact .inr ⟨j+1,by omega,by omega,h1,h2⟩
  ·rintro (h | ⟨k,h1,h2,h3,h4⟩)
   ·exact .inl (.inl h)
   ·by_cases hk:k<=j
    ·exact .inl (.inr ⟨k,h1,hk,h3,h4⟩)
    ·exact .inr ⟨by rw[h3];congr 1;omega,h4⟩
theorem Jq{ls:ZA}{y:List Int}:∀{xs F:ZA},y∈xs.foldl (λF st=>Xh ls st (st.length-1) F) F↔y∈F\/∃st∈xs,∃k,1<=k/\k<st.length/\y=st.take k/\lacks ls y=true
 |[],F=>by simp
 |st::xs,F=>by
  rw[List.foldl_cons,Jq,JB];constructor
  ·rintro ((h | ⟨k,h1,h2,h3⟩) | ⟨s,hs,h⟩)
   ·exact .inl h
   ·exact .inr ⟨st,by simp,k,h1,by omega,h3⟩
   ·exact .inr ⟨s,by simp[hs],h⟩
  ·rintro (h | ⟨s,hs,k,h1,h2,h3⟩)
   ·exact .inl (.inl h)
   ·rcases List.mem_cons.mp hs with rfl | hs
    ·exact .inl (.inr ⟨k,h1,by omega,h3⟩)
    ·exact .inr ⟨s,hs,k,h1,h2,h3⟩
theorem zaO:y∈zby ls ls↔X7 ls y:=by
 unfold zby X7;rw[Jq,List.mem_singleton]
theorem zd3(ls F:ZA)(x:List Int):(zdU ls F x).length<=F.length+1:=by
 unfold zdU;split
 ·omega
 ·split
  ·rw[List.length_append,List.length_singleton];omega
  ·omega
theorem Jd(ls:ZA)(st:List Int)(F:ZA):∀j,(Xh ls st j F).length<=F.length+j
 |0=>Nat.le_refl _
 |j+1=>by rw[Xh];have:=zd3 ls (Xh ls st j F) (st.take (j+1));have:=Jd ls st F j;omega
theorem Jf{ls:ZA}:∀{xs F:ZA},(∀st∈xs,st.length<=4)->(xs.foldl (λF st=>Xh ls st (st.length-1) F) F).length<=F.length+3*xs.length
 |[],F,_=>by simp
 |st::xs,F,h=>by
  rw[List.foldl_cons,List.length_cons];have:=Jf (ls:=ls) (F:=Xh ls st (st.length-1) F) λs hs=>h s (List.mem_cons_of_mem _ hs);have:=Jd ls st F (st.length-1);have:=h st List.mem_cons_self;omega
theorem zen(h4:ls.length<=4)(h:∀st∈ls,st.length<=4):(zby ls ls).length<=13:=by
 have:=Jf (ls:=ls) (F:=[[]]) h;unfold zby;rw[List.length_singleton]at this;omega
def kI(x:List Int):List Key:=x.map Sum.inl
theorem zew(x:List Int):(kI x).map kV=x.map V.int:=by unfold kI;rw[List.map_map];rfl
theorem zce(h:kI x=kI y):x=y:=by
 unfold kI at h;exact (List.map_inj_right (λa b e=>by injection e)).mp h
def AftV(H:Hp):Option (List Int)->V->Prop
 |none,v=>v=.non
 |some y,v=>∃c,v=.ref c/\H c=some (.tup (y.map V.int))
theorem AftV.same(h:AftV H o v)(s:∀b xs,H b=some (.tup xs)->H' b=some (.tup xs)):AftV H' o v:=by
 cases o with
 |none=>exact h
 |some y=>obtain⟨c,e,q⟩:=h;exact⟨c,e,s _ _ q⟩
def kA(x:List Int)(f:Nat):NK:=(kI x,[.inl (f:Int),.inl 0])
def kW(x:List Int)(t:Nat):NK:=(kI x,[.inl (t:Int)])
def Ent(ls:ZA)(b:Nat)(H:Hp)(k:NK)(v:V):Prop :=
 (∃x f,X7 ls x/\f<b/\k=kA x f/\AftV H (aft ls x f) v)\/∃x t,X7 ls x/\1<=t/\t<=1000/\k=kW x t/\v=.int (cnt ls b t x:Nat)
structure Tab (ls:ZA) (b:Nat) (H:Hp) (kvs:List (NK×V)):Prop where
 nd:(kvs.map (·.1)).Nodup
 ok:∀p∈kvs,Ent ls b H p.1 p.2
section
variable {ls:ZA} {b:Nat} {H H':Hp} {kvs:List (NK×V)}
theorem Tab.nil:Tab ls b H []:=⟨List.nodup_nil,λp hp=>nomatch hp⟩
theorem Tab.same(t:Tab ls b H kvs)(s:∀b xs,H b=some (.tup xs)->H' b=some (.tup xs)):Tab ls b H' kvs:=⟨t.nd,λp hp=>by
 rcases t.ok p hp with ⟨x,f,h1,h2,h3,h4⟩ | h
 ·exact .inl ⟨x,f,h1,h2,h3,h4.same s⟩
 ·exact .inr h⟩
theorem XM{k:NK}{v:V}:∀{kvs:List (NK×V)},vL kvs k=some v->(k,v)∈kvs
 |[],h=>by cases h
 |p::kvs,h=>by
  by_cases e:p.1=k
  ·rw[vh e]at h;cases h
   exact List.mem_cons.mpr (.inl (by rw[<-e]))
  ·rw[vp e]at h;exact List.mem_cons_of_mem _ (XM h)
theorem Tab.aft(t:Tab ls b H kvs)(h:vL kvs (kA x f)=some v):AftV H (aft ls x f) v:=by
 rcases t.ok _ (XM h) with ⟨y,g,_,_,e,q⟩ | ⟨y,n,_,_,_,e,_⟩
 ·unfold kA at e;injection e with e1 e2
  injection e2 with e2 e3
  injection e2 with e2
  have e1:=zce e1;have e2:f=g:=by omega
  subst e1 e2;exact q
 ·exfalso;simp[kA,kW]at e
theorem Tab.way(t:Tab ls b H kvs)(h:vL kvs (kW x n)=some v):v=.int (cnt ls b n x:Nat):=by
 rcases t.ok _ (XM h) with ⟨y,g,_,_,e,q⟩ | ⟨y,m,_,_,_,e,q⟩
 ·exfalso;simp[kA,kW]at e
 ·unfold kW at e;injection e with e1 e2
  injection e2 with e2 e3
  injection e2 with e2
  have e1:=zce e1;have e2:n=m:=by omega
  subst e1 e2;exact q
theorem Tab.put(t:Tab ls b H kvs)(h:vL kvs k=none)(e:Ent ls b H k v):Tab ls b H (putK kvs k v):=by
 refine⟨zfb v t.nd h,λp hp=>?_⟩;rw[Wo v h]at hp;rcases List.mem_append.mp hp with hp | hp
 ·exact t.ok p hp
 ·rw[List.mem_singleton.mp hp];exact e
theorem Tab.put2(t:Tab ls b H kvs)(e:Ent ls b H k v):Tab ls b H (putK kvs k v):=by
 cases h:vL kvs k with
 |none=>exact t.put h e
 |some u=>
  have ha:(kvs.any λkv=>decide (kv.1=k))=true:=by rw[qJ,h];rfl
  unfold putK;rw[if_pos ha];refine⟨?_,λp hp=>?_⟩
  ·rw[List.map_map,show ((λx:NK×V=>x.1) ∘ λkv:NK×V=>if kv.1=k then (kv.1,v) else kv)=(λx:NK×V=>x.1) from funext λkv=>by
    show (if kv.1=k then (kv.1,v) else kv).1=kv.1;split<;>rfl]
   exact t.nd
  ·obtain⟨q,hq,rfl⟩:=List.mem_map.mp hp;by_cases z:q.1=k
   ·rw[if_pos z];rw[z];exact e
   ·rw[if_neg z];exact t.ok q hq
theorem zb6(h:vL kvs k=none):putK (putK kvs k u) k v=putK kvs k v:=by
 rw[Wo u h,Wo v h];unfold putK;have a1:((kvs++[(k,u)]).any λkv=>decide (kv.1=k))=true:=by rw[List.any_append];simp
 rw[if_pos a1,List.map_append];have hn:=zbz h;have e:(kvs.map λkv=>if kv.1=k then (kv.1,v) else kv)=kvs:=by
  conv=>rhs;rw[<-List.map_id kvs]
  refine List.map_congr_left λp hp=>?_;rw[if_neg (λz=>hn (List.mem_map.mpr ⟨p,hp,z⟩))];rfl
 rw[e];simp
def zbj(ls:ZA)(b:Nat):List NK:=((zby ls ls).map λx=>(List.range b).map λf=>kA x f).flatten++((zby ls ls).map λx=>(List.range 1001).map λt=>kW x t).flatten
theorem Qk{α β:Type}{f:α->List β}{n:Nat}(h:∀a,(f a).length<=n):∀l:List α,((l.map f).flatten).length<=n*l.length
 |[]=>by simp
 |a::l=>by
  rw[List.map_cons,List.flatten_cons,List.length_append,List.length_cons,Nat.mul_succ];have:=Qk h l;have:=h a;omega
theorem Tab.len(t:Tab ls b H kvs)(h4:ls.length<=4)(h:∀st∈ls,st.length<=4)(hb:b<=16):kvs.length<=20000:=by
 have hk:(zbj ls b).length<=20000:=by
  have h1:=Qk (f:=λx=>(List.range b).map λf=>kA x f) (λx=>by rw[List.length_map,List.length_range];exact hb) (zby ls ls);have h2:=Qk (f:=λx=>(List.range 1001).map λt=>kW x t) (λx=>by rw[List.length_map,List.length_range];exact Nat.le_refl _) (zby ls ls);have h3:=zen h4 h;unfold zbj;rw[List.length_append];omega
 by_cases hc:kvs.length<=(zbj ls b).length
 ·omega
 ·exfalso;obtain⟨i,j,x,hij,h1,h2⟩:=zdV (kvs.map (·.1)) (zbj ls b) (λk hk=>by
   obtain⟨p,hp,rfl⟩:=List.mem_map.mp hk;unfold zbj;rw[List.mem_append];rcases t.ok p hp with ⟨x,f,q1,q2,q3,_⟩ | ⟨x,n,q1,q2,q3,q4,_⟩
   ·exact .inl (List.mem_flatten.mpr ⟨_,List.mem_map.mpr ⟨x,zaO.mpr q1,rfl⟩,List.mem_map.mpr ⟨f,List.mem_range.mpr q2,q3.symm⟩⟩)
   ·exact .inr (List.mem_flatten.mpr ⟨_,List.mem_map.mpr ⟨x,zaO.mpr q1,rfl⟩,List.mem_map.mpr ⟨n,List.mem_range.mpr (by omega),q4.symm⟩⟩)) (by rw[List.length_map];omega)
  have hj:=(List.getElem?_eq_some_iff.mp h2).1;have:=(List.getElem?_inj (by omega) t.nd).mp (h1.trans h2.symm);omega
end
structure RdS (G:Hp) (rd tl dd:Addr) (b:Nat) (ts:ZB):Prop where
 hd:G rd=some (.lst [.int b,.ref tl,.ref dd])
 li:G tl=some (.lst (ts.map λt=>V.ref t.1))
 st:∀t∈ts,G t.1=some (.tup (t.2.map V.int))
def RdD(P:Program)(w:World)(H:Hp)(dd:Addr)(ls:ZA)(b:Nat):Prop:=∃kvs,DN P w H dd kvs/\Tab ls b H kvs
theorem RdS.same(R:RdS G rd tl dd b ts)(s:Same G G'):RdS G' rd tl dd b ts:=⟨s _ _ R.hd,s _ _ R.li,λt ht=>s _ _ (R.st t ht)⟩
theorem RdD.same(R:RdD P w H dd ls b)(s:Same H H'):RdD P w H' dd ls b:=let ⟨kvs,h1,h2⟩:=R;⟨kvs,h1.same s,h2.same λb xs e=>s _ _ e⟩
theorem zfx:Qm c q≠.ext (zaa P w c xs):=λe=>by
 have e':(λh:Heap=>h.CodeRec (.ref c) q)=zaa P w c xs:=by unfold Qm at e;injection e
 have g0:(⟨Array.replicate (c+1) { cls:=.none,data:=.fields #[.none,.str q default] },{}⟩:Heap).get? c=some { cls:=.none,data:=.fields #[.none,.str q default] }:=by
  unfold Heap.get?;simp
 have h1:(λh:Heap=>h.CodeRec (.ref c) q) ⟨Array.replicate (c+1) { cls:=.none,data:=.fields #[.none,.str q default] },{}⟩:=⟨c,_,_,default,rfl,g0,rfl,rfl⟩
 rw[e']at h1;obtain⟨o,es,ep,g,_,d,_⟩:=h1;rw[g0]at g;cases g
 cases d
theorem DN.lam(h:DN P w H a kvs)(lt:Xr T pos q H):T≠a/\∀c,H c=some (Qm c q)->c≠a:=by
 obtain⟨xs,e,_⟩:=h;refine⟨λz=>?_,λc hc z=>?_⟩
 ·rw[<-z]at e;rcases lt with l | ⟨c,l,_⟩
  ·rw[l]at e;cases e
  ·rw[l]at e;cases e
 ·subst z;rw[hc]at e;injection e with e
  exact zfx e
def SameD(d:Addr)(H H':Hp):Prop:=∀b u,b≠d->H b=some u->H' b=some u
theorem SameD.of(s:Same H H'):SameD d H H':=λb u _ e=>s b u e
theorem SameD.trans(a:SameD d H H1)(b:SameD d H1 H2):SameD d H H2:=λc u h e=>b c u h (a c u h e)
theorem RdD.ne(R:RdD P w H dd ls b)(h:H c=some u)(hu:∀φ,u≠.ext φ):c≠dd:=let ⟨_,⟨_,e,_⟩,_⟩:=R;λz=>by
 rw[z,e]at h;cases h;exact hu _ rfl
theorem RdS.sameD(R:RdS H rd tl dd b ts)(D:RdD P w H dd ls b')(s:SameD dd H H'):RdS H' rd tl dd b ts :=
 ⟨s _ _ (D.ne R.hd λ_ z=>nomatch z) R.hd,s _ _ (D.ne R.li λ_ z=>nomatch z) R.li,λt ht=>s _ _ (D.ne (R.st t ht) λ_ z=>nomatch z) (R.st t ht)⟩
def vP(x:List Int):Tr:=.tup (x.map Tr.int)
theorem TrAt.tupI{K:W.Frag}(h:H a=some (.tup (x.map V.int))):TrAt K H (vP x) (.ref a):=by
 unfold vP;rw[TrAt];exact⟨a,_,rfl,SqT.of h,TrsAt.ints⟩
theorem zaJ(a b:List Int):teq (vP a) (vP b)=decide (a=b):=by unfold vP;rw[teq];exact Uj zcM a b
theorem Jm(x:List Int):qj (vP x)=1:=by unfold vP;rw[qj,XF]
theorem Z4:∀ls:ZA,wj (ls.map vP)<=1
 |[]=>by rw[List.map_nil,wj];omega
 |x::ls=>by rw[List.map_cons,wj,Jm];have:=Z4 ls;omega
theorem TrsAt.tups{K:W.Frag}{H:Hp}:∀{zs:ZB},(∀z∈zs,H z.1=some (.tup (z.2.map V.int)))->TrsAt K H ((zs.map (·.2)).map vP) (zs.map λz=>V.ref z.1)
 |[],_=>by rw[List.map_nil,List.map_nil,List.map_nil,TrsAt]
 |z::zs,h=>by
  rw[List.map_cons,List.map_cons,List.map_cons,TrsAt];exact⟨_,_,rfl,TrAt.tupI (h z List.mem_cons_self),TrsAt.tups λy hy=>h y (List.mem_cons_of_mem _ hy)⟩
theorem zfw{ls:ZA}:((ls.map vP).any λt=>teq t (vP x))=decide (x∈ls):=by
 induction ls with
 |nil=>simp
 |cons y ls ih=>
  rw[List.map_cons,List.any_cons,ih,zaJ,<-Bool.decide_or];refine decide_eq_decide.mpr ?_;rw[List.mem_cons];exact⟨λz=>z.imp Eq.symm id,λz=>z.imp Eq.symm id⟩
theorem Jj(ts:List Tr):teq (.lst ts) (.lst [])=ts.isEmpty:=by
 cases ts with
 |nil=>rfl
 |cons t ts=>rw[teq,jR (by simp)];rfl
def tot(p:Nat->Bool)(f:Nat->Nat):Nat->Nat
 |0=>0
 |n+1=>tot p f n+(if p n=true then f n else 0)
def tt(ls:ZA)(b:Nat)(w:Nat->Nat)(sc:Nat):Nat->List Int->Nat
 |0,_=>0
 |t+1,x=>((List.range b).map λ(c:Nat)=>if lacks ls (x++[(c:Int)])=true then sc^t*w c*cnt ls b t (zL ls (x++[(c:Int)]))+tt ls b w sc t (zL ls (x++[(c:Int)])) else 0).sum
def xX(ls:ZA)(x:List Int)(a n:Nat):List Nat:=((List.range n).map (a+·)).filter λc=>lacks ls (x++[(c:Int)])
def uP(ls:ZA)(b t:Nat)(x:List Int)(a n:Nat):Nat:=((xX ls x a n).map λ(c:Nat)=>cnt ls b t (zL ls (x++[(c:Int)]))).sum
theorem jM(ls:ZA)(x:List Int)(a n:Nat):xX ls x a (n+1)=xX ls x a n++(if lacks ls (x++[((a+n:Nat):Int)])=true then [a+n] else []):=by
 unfold xX;rw[List.range_succ,List.map_append,List.filter_append];congr 1;rw[List.map_cons,List.map_nil,List.filter_cons];split<;>rfl
theorem Ux(ls:ZA)(b t:Nat)(x:List Int)(a n:Nat):uP ls b t x a (n+1)=uP ls b t x a n+Yc ls b t (some x) (a+n):=by
 unfold uP;rw[jM,List.map_append,List.sum_append];congr 1;show _=if lacks ls (x++[((a+n:Nat):Int)])=true then _ else 0;split<;>simp
theorem j7(ls:ZA)(b t:Nat)(x:List Int):∀n,uP ls b t x 0 n=under ls b t (some x) n
 |0=>rfl
 |n+1=>by rw[Ux,j7,uD,Nat.zero_add]
theorem jf(ls:ZA)(b t:Nat):∀n,uo ls b t+uP ls b t [] 1 n=under ls b t none (n+1)
 |0=>by
  rw[uD,Qo];show uo ls b t+0=0+(if (0:Nat)=0 then uo ls b t else if lacks ls [((0:Nat):Int)]=true then cnt ls b t (zL ls [((0:Nat):Int)]) else 0)
  rw[if_pos rfl];omega
 |n+1=>by
  rw[Ux,<-Nat.add_assoc,jf,uD ls b t none (n+1)];congr 1;show (if lacks ls ([]++[((1+n:Nat):Int)])=true then cnt ls b t (zL ls ([]++[((1+n:Nat):Int)])) else 0)=if n+1=0 then uo ls b t else if lacks ls [((n+1:Nat):Int)]=true then cnt ls b t (zL ls [((n+1:Nat):Int)]) else 0;rw[if_neg (by omega:¬ n+1=0),Nat.add_comm 1 n];rfl
theorem zdd(h:c∈xX ls x a n):a<=c/\c<a+n/\lacks ls (x++[(c:Int)])=true:=by
 obtain⟨h1,h2⟩:=List.mem_filter.mp h;obtain⟨i,hi,rfl⟩:=List.mem_map.mp h1;have:=List.mem_range.mp hi;exact⟨by omega,by omega,h2⟩
def ww(ls:ZA)(b t:Nat):Nat:=uP ls b t [] 1 (b-1)
theorem Z6(ls:ZA)(h2:2<=b)(t:Nat):uo ls b t+ww ls b t=uo ls b (t+1):=by
 unfold ww;rw[jf,show b-1+1=b by omega,zbQ]
theorem Xw(ls:ZA){b:Nat}(h2:2<=b):∀m,(if lacks ls [0]=true then 1 else 0)+((List.range m).map λt=>ww ls b t).sum=uo ls b m
 |0=>rfl
 |m+1=>by
  rw[List.range_succ,List.map_append,List.sum_append,<-Nat.add_assoc,Xw ls h2 m,<-Z6 ls h2 m];simp
def PartN(ls:ZA)(b n L k:Nat)(o:Option (List Int))(tot:Nat):Prop :=
 (k=0/\o=some []/\tot=uo ls b (L-1))\/(1<=k/\gd ls b (n / b^(L-k))=true/\o=some (zL ls (zT b (n / b^(L-k))))/\tot=many (gd ls b) (n / b^(L-k)*b^(L-k)))\/(1<=k/\o=none/\tot=many (gd ls b) n)
theorem PartN.rep{tot:Nat}(h2:2<=b)(hn:0<n)(hL:(zT b n).length=L)(hk:k<L)(p:PartN ls b n L k (some x) tot):
  ∃o,Rep ls b (n / b^(L-k)) o/\((k=0/\x=[]/\o=none/\tot=uo ls b (L-1))\/(1<=k/\o=some x/\tot=many (gd ls b) (n / b^(L-k)*b^(L-k)))):=by
 rcases p with ⟨rfl,e,t⟩ | ⟨h1,g,e,t⟩ | ⟨h1,e,_⟩
 ·cases e;have:n / b^(L-0)=0:=Nat.div_eq_of_lt (wU h2 hL)
  exact⟨none,.inl ⟨this,rfl⟩,.inl ⟨rfl,rfl,rfl,t⟩⟩
 ·cases e;refine⟨_,.inr ⟨?_,g,rfl⟩,.inr ⟨h1,rfl,t⟩⟩
  have hs:=(WQ (k:=L-1) h2).mp (by rw[hL];omega);have hp:0<b^(L-k):=Nat.pow_pos (by omega);have:b^(L-k)<=n:=by
   rcases hs.2 with z | z
   ·omega
   ·exact Nat.le_trans (Nat.pow_le_pow_right (by omega) (by omega)) z
  exact Nat.div_pos this hp
 ·cases e
theorem PartN.next(ne:∀l∈ls,l≠[]){tot:Nat}(h2:2<=b)(hn:0<n)(hL:(zT b n).length=L)(hk:k<L)(p:PartN ls b n L k (some x) tot){c:Nat}(hc:(zT b n)[k]?=some (c:Int)):
  c<b/\(k=0->1<=c)/\PartN ls b n L (k+1) (aft ls x c) (tot+uP ls b (L-1-k) x (if k=0 then 1 else 0) (c-(if k=0 then 1 else 0))):=by
 have ec:c=(n / b^(L-1-k)) % b:=by
  rw[zbw h2 hL hk]at hc;have hc:((n / b^(L-1-k) % b:Nat))=(c:Int):=by simpa using hc
  omega
 have hcb:c<b:=by rw[ec];exact Nat.mod_lt _ (by omega)
 have et:L-k=L-1-k+1:=by omega
 have htop:n / b^(L-1-k)=n / b^(L-k)*b+c:=by rw[et,ec];exact za6 (by omega)
 obtain⟨o,R,hor⟩:=p.rep h2 hn hL hk;have hu:=jG ne h2 R (L-1-k) (s:=c) (by omega);rw[<-et,<-htop]at hu;have hstep:c≠0\/k≠0:=by
  by_cases hk0:k=0
  ·left;intro hc0;have hs:=(WQ (k:=L-1) h2).mp (by rw[hL];omega);have z:n / b^(L-k)=0:=by rw[hk0];exact Nat.div_eq_of_lt (wU h2 hL)
   rw[z,hc0,hk0]at htop;have hlt:n<b^(L-1):=by
    have hp:0<b^(L-1):=Nat.pow_pos (by omega);have:n / b^(L-1)=0:=by simpa using htop
    rcases Nat.div_eq_zero_iff.mp this with q | q
    ·omega
    ·exact q
   rcases hs.2 with q | q
   ·rw[q,Nat.pow_zero]at hlt;omega
   ·omega
  ·exact .inr hk0
 have hm1:1<=n / b^(L-1-k):=by
  rcases hor with ⟨rfl,_,_,_⟩ | ⟨h1,rfl,_⟩
  ·rw[htop];rcases hstep with q | q
   ·omega
   ·exact absurd rfl q
  ·rcases R with ⟨_,z⟩ | ⟨z,_⟩
   ·cases z
   ·rw[htop];exact zbx h2 z
 refine⟨hcb,λz=>by rcases hstep with q | q;omega;exact absurd z q,?_⟩;have etot:tot+uP ls b (L-1-k) x (if k=0 then 1 else 0) (c-(if k=0 then 1 else 0))=many (gd ls b) (n / b^(L-1-k)*b^(L-1-k)):=by
  rcases hor with ⟨rfl,rfl,rfl,rfl⟩ | ⟨h1,rfl,rfl⟩
  ·rw[if_pos rfl];have q:=jf ls b (L-1) (c-1);have hc1:1<=c:=by rcases hstep with q | q;omega;exact absurd rfl q
   rw[show c-1+1=c by omega]at q;have e0:L-1-0=L-1:=Nat.sub_zero _;rw[e0]at hu ⊢;rw[q,<-hu];have z:n / b^(L-0)=0:=Nat.div_eq_of_lt (wU h2 hL);rw[z,Nat.zero_mul];simp[many]
  ·rw[if_neg (by omega),Nat.sub_zero,j7,hu]
 rw[etot];have eL:L-(k+1)=L-1-k:=by omega
 have key:(lacks ls (x++[(c:Int)])=true->gd ls b (n / b^(L-1-k))=true/\zL ls (x++[(c:Int)])=zL ls (zT b (n / b^(L-1-k))))/\(lacks ls (x++[(c:Int)])=false->gd ls b (n / b^(L-1-k))=false):=by
  rcases hor with ⟨rfl,rfl,rfl,_⟩ | ⟨h1,rfl,_⟩
  ·have z:n / b^(L-0)=0:=Nat.div_eq_of_lt (wU h2 hL);rw[z,Nat.zero_mul,Nat.zero_add]at htop;rw[htop];unfold gd;rw[wJ hcb];exact⟨λh=>⟨h,rfl⟩,λh=>h⟩
  ·rcases R with ⟨_,z⟩ | ⟨z1,z2,z3⟩
   ·cases z
   ·cases z3;rw[htop]
    unfold gd at z2 ⊢;rw[uz h2 z1 hcb,<-jF ne c z2,jr];exact⟨λh=>⟨h,rfl⟩,λh=>h⟩
 unfold aft;cases hl:lacks ls (x++[(c:Int)]) with
 |true=>
  obtain⟨g,e⟩:=key.1 hl;rw[if_pos rfl];exact .inr (.inl ⟨by omega,by rw[eL];exact g,by rw[eL,e],by rw[eL]⟩)
 |false=>
  have g:=key.2 hl;refine .inr (.inr ⟨by omega,rfl,?_⟩);have hb:=zek ne h2 hm1 g (L-1-k) (r:=n % b^(L-1-k)) (Nat.le_of_lt (Nat.mod_lt _ (Nat.pow_pos (by omega))));have en:n / b^(L-1-k)*b^(L-1-k)+n % b^(L-1-k)=n:=by rw[Nat.mul_comm];exact Nat.div_add_mod n _
  rw[en]at hb;exact hb.symm
theorem PartN.done{tot:Nat}(hL:1<=L)(p:PartN ls b n L L o tot):tot=many (gd ls b) n:=by
 rcases p with ⟨z,_⟩ | ⟨_,_,_,t⟩ | ⟨_,_,t⟩
 ·omega
 ·rw[t,Nat.sub_self,Nat.pow_zero,Nat.div_one,Nat.mul_one]
 ·exact t
theorem Vl{ls:ZA}{x:List Int}{a:Nat}:∀{n j c:Nat},(xX ls x a n)[j]?=some c->(xX ls x a n).take j=xX ls x a (c-a)
 |0,j,c,h=>by simp[xX]at h
 |n+1,j,c,h=>by
  rw[jM]at h ⊢;by_cases hj:j<(xX ls x a n).length
  ·rw[List.getElem?_append_left hj]at h;rw[List.take_append_of_le_length (by omega)];exact Vl h
  ·rw[List.getElem?_append_right (by omega)]at h;by_cases hl:lacks ls (x++[((a+n:Nat):Int)])=true
   ·rw[if_pos hl]at h ⊢;have hj0:j-(xX ls x a n).length=0:=by
     have:=(List.getElem?_eq_some_iff.mp h).1;rw[List.length_singleton]at this;omega
    rw[hj0]at h;have hc:c=a+n:=by simpa using h.symm
    have hj1:j=(xX ls x a n).length:=by omega
    rw[hj1,List.take_left,hc,Nat.add_sub_cancel_left]
   ·rw[if_neg hl]at h;simp at h
def NthN(ls:ZA)(b K L k:Nat)(x:List Int)(m rem:Nat):Prop :=
 (k=0/\x=[]/\m=0/\rem+uo ls b (L-1)=K/\rem<ww ls b (L-1)) \/
 (1<=k/\1<=m/\gd ls b m=true/\x=zL ls (zT b m)/\rem+many (gd ls b) (m*b^(L-k))=K/\rem<cnt ls b (L-k) x)
theorem NthN.total{b K L k:Nat}(h2:2<=b)(hk:k<L)(p:NthN ls b K L k x m rem):rem<uP ls b (L-1-k) x (if k=0 then 1 else 0) (b-(if k=0 then 1 else 0)):=by
 rcases p with ⟨rfl,rfl,_,_,h⟩ | ⟨h1,_,_,_,_,h⟩
 ·rw[if_pos rfl];exact h
 ·rw[if_neg (by omega),Nat.sub_zero,j7,Ji,show L-1-k+1=L-k by omega];exact h
theorem NthN.next(ne:∀l∈ls,l≠[]){b K L k:Nat}(h2:2<=b)(hk:k<L)(p:NthN ls b K L k x m rem)(hc1:(if k=0 then 1 else 0)<=c)(hcb:c<b)(hl:lacks ls (x++[(c:Int)])=true)(hlo:uP ls b (L-1-k) x (if k=0 then 1 else 0) (c-(if k=0 then 1 else 0))<=rem)(hhi:rem-uP ls b (L-1-k) x (if k=0 then 1 else 0) (c-(if k=0 then 1 else 0))<cnt ls b (L-1-k) (zL ls (x++[(c:Int)]))):
  NthN ls b K L (k+1) (zL ls (x++[(c:Int)])) (m*b+c) (rem-uP ls b (L-1-k) x (if k=0 then 1 else 0) (c-(if k=0 then 1 else 0))):=by
 have eL:L-(k+1)=L-1-k:=by omega
 rcases p with ⟨rfl,rfl,rfl,hK,_⟩ | ⟨h1,hm,g,rfl,hK,_⟩
 ·rw[if_pos rfl]at *;have q:=jf ls b (L-1) (c-1);rw[show c-1+1=c by omega]at q;have hu:=jG ne h2 (.inl ⟨rfl,rfl⟩) (L-1) (s:=c) (by omega);rw[Nat.zero_mul,Nat.zero_mul,Nat.zero_add]at hu;simp only[Nat.sub_zero]at hlo hhi ⊢;have eL':L-(0+1)=L-1:=by omega
  have hz:many (gd ls b) 0=0:=rfl;refine .inr ⟨by omega,by omega,?_,?_,?_,?_⟩
  ·unfold gd;rw[Nat.zero_mul,Nat.zero_add,wJ hcb];exact hl
  ·rw[Nat.zero_mul,Nat.zero_add,wJ hcb];rfl
  ·rw[eL',Nat.zero_mul,Nat.zero_add];omega
  ·rw[eL'];exact hhi
 ·rw[if_neg (by omega)]at *;rw[Nat.sub_zero]at *;rw[j7]at *;have hu:=jG ne h2 (.inr ⟨hm,g,rfl⟩) (L-1-k) (s:=c) (by omega);rw[show L-1-k+1=L-k by omega]at hu;have hl2:lacks ls (zT b m++[(c:Int)])=true:=by rw[<-jF ne c g];exact hl
  refine .inr ⟨by omega,zbx h2 hm,?_,?_,?_,?_⟩
  ·unfold gd;rw[uz h2 hm hcb];exact hl2
  ·rw[uz h2 hm hcb,jr]
  ·rw[eL];omega
  ·rw[eL];exact hhi
theorem NthN.done{b K L:Nat}(hL:1<=L)(p:NthN ls b K L L x m rem):gd ls b m=true/\many (gd ls b) m=K:=by
 rcases p with ⟨z,_⟩ | ⟨_,_,g,_,hK,hr⟩
 ·omega
 ·rw[Nat.sub_self,Nat.pow_zero,Nat.mul_one]at hK;rw[Nat.sub_self]at hr;have:rem<1:=hr;exact⟨g,by omega⟩
theorem Q9(ne:∀l∈ls,l≠[])(h2:2<=b)(h:ww ls b t=0):∀M,many (gd ls b) M<=uo ls b t:=by
 have e1:=Z6 ls h2 t;rw[h,Nat.add_zero,vZ ne h2,vZ ne h2]at e1;rw[vZ ne h2];have no:∀g,b^t<=g->1<=g->gd ls b g=false:=λg hg hg1=>by
  cases q:gd ls b g with
  |false=>rfl
  |true=>
   exfalso;obtain⟨k,k1,k2⟩:=zcw h2 g;have hkt:t<=k:=by
    by_cases z:t<=k
    ·exact z
    ·have:b^(k+1)<=b^t:=Nat.pow_le_pow_right (by omega) (by omega);omega
   have hp:0<b^(k-t):=Nat.pow_pos (by omega);have hdm:=Nat.div_add_mod g (b^(k-t));have hpre:=zgB ne h2 (by
    have:b^(k-t)<=g:=by
     rcases k2 with z | z
     ·subst z;have:t=0:=by omega
      subst this;simpa using hg1
     ·exact Nat.le_trans (Nat.pow_le_pow_right (by omega) (by omega)) z
    exact Nat.div_pos this hp) (Nat.mod_lt _ hp) (by rw[Nat.mul_comm,hdm];exact q)
   have hlo:b^t<=g / b^(k-t):=by
    rw[Nat.le_div_iff_mul_le hp,<-Nat.pow_add,show t+(k-t)=k by omega];rcases k2 with z | z
    ·subst z;have:t=0:=by omega
     subst this;simpa using hg1
    ·exact z
   have hhi:g / b^(k-t)<b^(t+1):=by
    rw[Nat.div_lt_iff_lt_mul hp,<-Nat.pow_add,show t+1+(k-t)=k+1 by omega];exact k1
   have h1:=Zr (gd ls b) hlo;have h3:=zct (gd ls b) hhi hpre;omega
 intro M;by_cases hM:M<=b^t
 ·exact Zr _ hM
 ·have hpos:1<=b^t:=Nat.pow_pos (by omega);have:=Zy (gd ls b) (b^t) (M-b^t);rw[show b^t+(M-b^t)=M by omega,YK (p:=λn=>gd ls b (b^t+n)) λn _=>no _ (by omega) (by omega)]at this;omega
def zhP(ls:ZA)(b K:Nat)(o:Option Nat):Prop:=(∃g,o=some g/\gd ls b g=true/\many (gd ls b) g=K)\/(o=none/\∀M,many (gd ls b) M<=K)
end Lw
namespace L2
open PySem PySem.Spec PyProof.Rows
def cxD(X:Cx)(x:Str)(N:List Str)(scope:Scope)(C:Addr)(s₀:Shared)(H₀:Hp)(ex:List Addr):Cx:=cxG X [x] N scope C s₀ H₀ ex
structure CScopeD (sc:Scope) (scope:Scope) (x:Str) (M:List Str) (ys:List Str) (js:List Nat):Prop where
 kind:scope.kind=.function
 cell:∀y∈scope.names,y.2=.cell->y.1=x
 loc:∀y∈scope.names,y.2=.local->scope.names.lookup y.1=some .local
 var:scope.names.lookup x=some .cell
 free:∀y∈scope.names,y.2=.free->sc.names.lookup y.1=some .cell\/sc.names.lookup y.1=some .free
 caps:js.map (M[·]?)=ys.map some
 fr:∀y∈ys,scope.names.lookup y=some .free
 nd:(x::ys).Nodup
 own:∀n acc,cellsFrom n scope.names acc=(x,n)::acc
 psh:∀h:Heap,pushCells h scope.names=h.push { cls:=.type "cell",data:=.cell none }
theorem uq{env:Env}:∀{names:List (Str×NameKind)} {x:Str},names.lookup x=some .cell ->
  (names.map λ(n,k)=>if (k == NameKind.free && env.scope.kind == .function && env.kindOf n == some .cell) then (n,NameKind.cell) else (n,k)).lookup x=some .cell
 |[],_,h=>by simp at h
 | (n,k)::r,x,h=>by
  have ih:=@uq env r x;rw[List.map_cons];have e:∀b:Bool,(if b=true then (n,NameKind.cell) else (n,k)).1=n:=λb=>by cases b<;>rfl
  generalize hb:(k == NameKind.free && env.scope.kind == .function && env.kindOf n == some .cell)=b;simp only[hb];rw[List.lookup_cons]at h;cases hx:x == n with
  |true=>
   rw[hx]at h;have hk:=Option.some.inj h;cases b<;>simp[List.lookup_cons,hx,hk]
  |false=>
   rw[hx]at h;cases b<;>(simp only[if_true,Bool.false_eq_true,if_false,List.lookup_cons,hx];exact ih h)
section
variable {X:Cx} {elt iter:Expr} {ifs:List Expr} {x:Str} {px pos:Pos} {scope:Scope} {ys:List Str} {js:List Nat} {wi:TI} {tt:TT} {te:TE}
theorem CScopeD.gn(S:CScopeD sc scope x N ys js):zbv sc scope [x] [x] N ys js:=⟨S.kind,λy h e=>by rw[S.cell y h e];exact List.mem_cons_self,S.loc,S.free,S.caps,S.fr,S.nd,λy hy z hz=>by rw[List.mem_singleton.mp hy,List.mem_singleton.mp hz],λ_ h=>h,S.own,λh _ _=>by rw[S.psh];exact Heap.get?_push_size _ rfl⟩
theorem zaR{py spos:Pos}(S:CScopeD X.env.scope scope x X.N ys js)(hc:X.calm=true)(hN:X.N.Nodup)(hy:X.N[i]?=some y)(hl:Loc X.env.scope y)(hi:PI X (.Name x px) iter wi)(ht:∀C s₀ H₀ ex,PTs (cxD X x (x::ys) scope C s₀ H₀ ex) ifs tt)(he:∀C s₀ H₀ ex,PE (cxD X x (x::ys) scope C s₀ H₀ ex) elt te)(hf:X.fn y=true\/X.env.scope.names.lookup y=some .local:=by first | exact .inl rfl | exact .inr rfl | assumption)(hsw:swapsWith (.ListComp elt [⟨.Name x px,iter,ifs,0⟩] scope pos) (some (.Name y py)) spos.line X.env=pure true:=by rfl)(hs:∀x,foldedSetIterable iter X.env x=pure x:=by intro _;rfl):PS X (.Assign [.Name y py] (.ListComp elt [⟨.Name x px,iter,ifs,0⟩] scope pos) spos) (zcf (zeO wi js tt te) (X5 i)):=
 Vs (λ_ _ _ _ h=>h.t) S.gn hc hN hy hl hi (λ_ _ _ _=>zV S.nd rfl (.inr (uq S.var)) (.inl (List.elem_iff.mpr List.mem_cons_self))) ht he hf hsw hs
end
theorem qT{env:Env}:∀{names:List (Str×NameKind)} {x:Str},names.lookup x=some .free ->
  (names.map λ(n,k)=>if (k == NameKind.free && env.scope.kind == .function && env.kindOf n == some .cell) then (n,NameKind.cell) else (n,k)).lookup x=some .cell\/(names.map λ(n,k)=>if (k == NameKind.free && env.scope.kind == .function && env.kindOf n == some .cell) then (n,NameKind.cell) else (n,k)).lookup x=some .free
 |[],_,h=>by simp at h
 | (n,k)::r,x,h=>by
  have ih:=@qT env r x;rw[List.map_cons];generalize hb:(k == NameKind.free && env.scope.kind == .function && env.kindOf n == some .cell)=b;simp only[hb];rw[List.lookup_cons]at h;cases hx:x == n with
  |true=>
   rw[hx]at h;have hk:=Option.some.inj h;cases b<;>simp[List.lookup_cons,hx,hk]
  |false=>
   rw[hx]at h;cases b<;>(simp only[if_true,Bool.false_eq_true,if_false,List.lookup_cons,hx];exact ih h)
theorem CScope.re(S:CScope sc scope x M ys js):CScope (relabel sc env) scope x M ys js :=
 ⟨S.kind,S.cell,S.loc,S.var,λy hy e=>(S.free y hy e).elim (λz=>.inl (uq z)) λz=>qT z,S.caps,S.fr,S.nd⟩
section
variable {X:Cx} {tg:Expr}
end
def zdK(n:Addr->Prop)(h:Heap)(e:Addr)(c:Value):Prop :=
 ∃oe oT vs ts a0 T,h.get? e=some oe/\oe.cls=c/\oe.data=.fields vs/\vs[0]?=some a0/\vs[1]?=some (.ref T)/\n T/\T≠e/\h.get? T=some oT/\oT.data=.fields ts/\ts[3]?=some .none
def CX1(P:Program)(w:World):CXT:=λouter H s E e s'=>
 ∃ea c H',e=.ref ea/\s'.os=s.os/\AllBare s'.gens/\Un (frs outer) [] H H' s.heap s'.heap/\HOk P w H' s'.heap/\s.heap.get? ea=none/\H' ea=none /\
  zdK (λT=>s.heap.get? T=none/\H' T=none) s'.heap ea c/\E c none H'
def zfX(X:Cx)(Ex:St->XK):Prop:=∀(pins:List (Addr×Obj)) (Z:St) (H:Hp) (s:Shared) (h':Heap) (ea:Addr) (c:Value) (vs:List Value),Inv X pins Z H s->Heap.MadeExcOf s.heap h' ea c vs->Ex Z c none H->X.xe (.ref ea) { s with heap:=h' }
def zep(X:Cx)(Ex:St->XK):Prop:=∀(pins:List (Addr×Obj)) (Z:St) (H:Hp) (s:Shared) (e:Value) (s':Shared),Inv X pins Z H s->CX1 X.prog X.w X.stack H s (Ex Z) e s'->X.xe e s'
theorem FnOk.up{K:W.Frag}(F:FnOk P w K mg base CX0 k f fd ps sp):FnOk P w K mg base CX k f fd ps sp :=
 ⟨F.len,λA outer s H args us vs Q E hr e0 hb hv hs=>codeAny_mono (F.run A outer s H args us vs Q E hr e0 hb hv hs) λr s' q=>by
  cases r with
  |error e=>exact False.elim q
  |ok fl=>cases fl<;>exact q⟩
theorem ObjOk.thereO(x:ObjOk P w H h a o):∃u,h.get? a=some u:=by
 cases o with
 |lst xs=>obtain⟨_,_,_,_,e⟩:=x;exact⟨_,e⟩
 |tup xs=>obtain⟨_,_,_,o,e,_⟩:=x;exact⟨_,e⟩
 |dK kvs=>obtain⟨_,_,_,_,o,_,_,e,_⟩:=x;exact⟨_,e⟩
 |dT kvs=>obtain⟨_,_,_,_,o,_,_,e,_⟩:=x;exact⟨_,e⟩
 |set S n=>obtain⟨o,_,_,_,e,_⟩:=x;exact⟨_,e⟩
 |ins C dx fs=>obtain⟨_,_,_,e,_⟩:=x;exact⟨_,e⟩
 |own y=>exact x
 |xd fs=>obtain⟨_,⟨_,_,_,e,_⟩,_⟩:=x;exact⟨_,e⟩
 |rng lo hi=>obtain⟨_,_,_,e⟩:=x;exact⟨_,e⟩
 |frz ob u=>obtain⟨e,_⟩:=x;exact⟨_,e⟩
 |tbl ps=>exact⟨_,(show h.get? a=some _ from x)⟩
 |met f y=>exact⟨_,(show h.get? a=some _ from x)⟩
 |ext φ=>obtain⟨_,e,_⟩:=x;exact e
theorem HOk.off(x:HOk P w H h)(e:h.get? a=none):H a=none:=by
 cases q:H a with
 |none=>rfl
 |some o=>obtain⟨u,z⟩:=(x a o q).thereO;rw[e]at z;cases z
section
variable {X:Cx} {pins:List (Addr×Obj)} {Z:St} {H H':Hp} {s s':Shared} {h' B:Heap} {ea:Addr} {c a0:Value}
def Uv(X:Cx)(H':Hp)(s s':Shared)(B:Heap):Prop:=∀b o,s'.heap.get? b=some o->((∃u,s.heap.get? b=some u)\/H' b≠none)->b∉frs X.stack->B.get? b=some o
theorem zbk(I:Inv X pins Z H s)(un:Un (frs X.stack) [] H H' s.heap s'.heap):∀b∈frs X.stack,H' b=none:=λb hb=>by
 obtain⟨_,o,ho,_⟩:=I.stack.mem hb;exact un.free b o ho (I.stkFree b hb) (by simp)
theorem zb4(I:Inv X pins Z H s)(un:Un (frs X.stack) [] H H' s.heap s'.heap)(hok:HOk X.prog X.w H' s'.heap)(hB:Uv X H' s s' B)(st:B.StaysIn h')(up:s'.heap.UpToSlots h'):
  Un (frs X.stack) [] H H' s.heap h'/\HOk X.prog X.w H' h':=by
 have fr:=zbk I un;have sl:∀b o,s.heap.get? b=some o->b∈frs X.stack->∃q,h'.get? b=some { o with slots:=q }:=λb o e hb=>by
  obtain⟨_,o2,ho,hd⟩:=I.stack.mem hb;rw[e]at ho;cases ho
  obtain⟨q,e1⟩:=un.slot b o e (I.stkFree b hb) hb (by simp);obtain⟨q2,e2⟩:=up b _ e1 hd;exact⟨q2,e2⟩
 refine⟨⟨λb o e n hb _=>?_,λb o e _ hb _=>sl b o e hb,λb o e n _=>un.free b o e n (by simp),λb o e _=>?_,un.tups,un.frzs,un.tbls⟩,λa o e=>?_⟩
 ·exact st b o (hB b o (un.keep b o e n hb (by simp)) (.inl ⟨o,e⟩) hb)
 ·by_cases hb:b∈frs X.stack
  ·obtain⟨q,e1⟩:=sl b o e hb;exact⟨_,e1⟩
  ·obtain⟨o1,e1⟩:=un.there b o e (by simp);exact⟨o1,st b o1 (hB b o1 e1 (.inl ⟨o,e⟩) hb)⟩
 ·refine (hok a o e).stay (λb u hc q=>?_) (λ_ q=>q) λ_ _ q=>q;have nb:H' b≠none:=by
   rcases hc with z | z
   ·rw[z,e];intro z2;cases z2
   ·rw[z];intro z2;cases z2
  exact st b u (hB b u q (.inr nb) λhb=>nb (fr b hb))
theorem zhu(I:Inv X pins Z H s)(un:Un (frs X.stack) [] H H' s.heap s'.heap)(hok:HOk X.prog X.w H' s'.heap)(hB:Uv X H' s s' B)(st:B.StaysIn h')(up:s'.heap.UpToSlots h')(t:h'.TracedW B ea c a0):
  zdK (λT=>s.heap.get? T=none/\H' T=none) h' ea c:=by
 obtain⟨oe,vs,T,oT,ts,he,⟨hc,h0⟩,hd,h1,hnT,hTe,hT,hdT,h3⟩:=t;have nF:T∉frs X.stack:=λhb=>by
  obtain⟨_,o,ho,hd⟩:=I.stack.mem hb;obtain⟨q,e1⟩:=un.slot T o ho (I.stkFree T hb) hb (by simp);obtain⟨q2,e2⟩:=up T _ e1 hd;rw[hT]at e2;cases e2
  exact hd _ hdT
 refine⟨oe,oT,vs,ts,a0,T,he,hc,hd,h0,h1,⟨?_,?_⟩,hTe,hT,hdT,h3⟩
 ·cases q:s.heap.get? T with
  |none=>rfl
  |some o=>
   obtain⟨o1,e1⟩:=un.there T o q (by simp);have:=hB T o1 e1 (.inl ⟨o,q⟩) nF;rw[hnT]at this;cases this
 ·cases q:H' T with
  |none=>rfl
  |some o=>
   obtain⟨o1,e1⟩:=(hok T o q).thereO;have:=hB T o1 e1 (.inr (by rw[q];intro z;cases z)) nF;rw[hnT]at this;cases this
theorem zfa(I:Inv X pins Z H s)(hx:X.ex=[])(os:s'.os=s.os)(bare:AllBare s'.gens)(un:Un (frs X.stack) [] H H' s.heap s'.heap)(hok:HOk X.prog X.w H' s'.heap)(n0:s.heap.get? ea=none)(n1:H' ea=none)(hB:Uv X H' s s' B)(st:B.StaysIn h')(t:h'.TracedW B ea c a0)(up:s'.heap.UpToSlots h')(hE:E c none H'):CX1 X.prog X.w X.outer X.H₀ X.s₀ E (.ref ea) { s' with heap:=h' }:=by
 obtain⟨u1,k1⟩:=zb4 I un hok hB st up;have J:Inv X pins Z H' { s' with heap:=h' }:=I.call' os u1 k1 bare λb z=>absurd z (by simp);have off:∀b,s.heap.get? b=none->X.s₀.heap.get? b=none:=λb e=>by
  cases q:X.s₀.heap.get? b with
  |none=>rfl
  |some o=>
   obtain⟨o1,e1⟩:=I.base.there b o q (by rw[hx];simp);rw[e]at e1;cases e1
 have ub:=J.base;rw[hx]at ub;obtain⟨oe,oT,vs,ts,a1,T,he,hc,hd,h0,h1,⟨hn,hm⟩,r⟩:=zhu I un hok hB st up t;exact⟨ea,c,H',rfl,J.os,J.bare,ub,k1,off ea n0,n1,⟨oe,oT,vs,ts,a1,T,he,hc,hd,h0,h1,⟨off T hn,hm⟩,r⟩,hE⟩
theorem zbL(n0:s.heap.get? ea=none)(n1:H' ea=none)(nT:∀T∈Ts,s.heap.get? T=none/\H' T=none):Uv X H' s s' (W.hideAll s'.heap (ea::(Ts++frs X.stack))):=λb o e hb hf=>by
 refine W.hideAll_get _ e λhm=>?_;have bad:∀a,s.heap.get? a=none->H' a=none->b≠a:=λa h1 h2 z=>by
  subst z;rcases hb with ⟨u,q⟩ | q
  ·rw[h1]at q;cases q
  ·exact q h2
 rcases List.mem_cons.mp hm with z | hm
 ·exact bad ea n0 n1 z
 ·rcases List.mem_append.mp hm with z | z
  ·exact bad b (nT b z).1 (nT b z).2 rfl
  ·exact hf z
theorem Ud(I:Inv X pins Z H s)(os:s'.os=s.os)(bare:AllBare s'.gens)(un:Un (frs X.stack) [] H H' s.heap s'.heap)(hok:HOk X.prog X.w H' s'.heap)(ha:∀b∈frs X.stack,b∈as):s'.heap.FunFrames (W.hideAll s'.heap as) X.stack:=by
 have J:=I.call' os un hok bare λb z=>absurd z (by simp);exact W.funFrames_hide J.stack λenv he b hb=>ha b (List.mem_filterMap.mpr ⟨env,he,hb⟩)
theorem zfm(I:Inv X pins Z H s)(os:s'.os=s.os)(bare:AllBare s'.gens)(un:Un (frs X.stack) [] H H' s.heap s'.heap)(hok:HOk X.prog X.w H' s'.heap)(n0:s.heap.get? ea=none)(n1:H' ea=none)(t:zdK (λT=>s.heap.get? T=none/\H' T=none) s'.heap ea c):∃B a0,Uv X H' s s' B/\Heap.FlyingW B X.stack ea c a0 s'.heap:=by
 obtain⟨oe,oT,vs,ts,a0,T,he,hc,hd,h0,h1,⟨hn,hm⟩,hTe,hT,hdT,h3⟩:=t;refine⟨W.hideAll s'.heap (ea::([T]++frs X.stack)),a0,zbL n0 n1 (λb hb=>by rw[List.mem_singleton.mp hb];exact⟨hn,hm⟩),λb o q=>W.of_hideAll _ q,W.hideAll_none _ (by simp),Ud I os bare un hok (by intro b hb;simp[hb]),?_⟩;exact⟨oe,vs,T,oT,ts,he,⟨hc,h0⟩,hd,h1,W.hideAll_none _ (by simp),hTe,hT,hdT,h3⟩
end
theorem zeb{K:W.Frag}:
  zfX (XJ (CX1 P w) P w K mg base N qual scope f cd A outer s₀ H₀ E) λ_=>E:=by
 intro pins Z H s h' ea c vs I hm hE;refine wpAny_leaves_madeW I.ok.frames rfl (λb o q=>W.of_hideAll _ q)
  (Ud I rfl I.bare Un.refl I.hok λb hb=>hb) hm λh2 t fl _ _ up=>?_
 refine zfa I rfl rfl I.bare (Un.kept hm.keeps) (I.hok.kept hm.keeps) hm.new (I.hok.off hm.new) (λb o e hb hf=>?_) fl.1 fl.2.2.2 up hE;refine W.hideAll_get _ ?_ hf;rcases hb with ⟨u,q⟩ | q
 ·have z:=hm.keeps b u q;rw[show h'.get? b=some o from e]at z;cases z;exact q
 ·cases r:H b with
  |none=>exact absurd r q
  |some x=>
   obtain⟨u,q⟩:=(I.hok b x r).thereO;have z:=hm.keeps b u q;rw[show h'.get? b=some o from e]at z;cases z;exact q
abbrev veT:List Value:=[.type "ValueError",.type "Exception",.type "BaseException",.type "object"]
structure zgW (K:W.Frag) (mg:Str->Option Value) (x:Str) (C:Addr):Prop where
 g:mg x=some (.ref C)
 ok:W.excIn K C veT "ValueError.__new__"= true
theorem zfG{K:W.Frag}(X:K.In h)(q:W.excIn K C bmB newId=true):
  ∃bm bs N nm qn hd ab sn sub col dd k0 k1 k2 k3 k5 mN,
   h.get? C=some (excClassObj nm qn C N bs bm hd sn sub ab col dd k0 k1 k2 k3 k5 newId)/\h.Ns N mN/\mN "__init__"= none/\OwnTail h bmB bm:=by
 unfold W.excIn at q;split at q
 ·rename_i dd cd sl e
  split at q
  ·rename_i C2 bm k0 k1 k2 k3 n k5 hm hs
   rw[Bool.and_eq_true,Bool.and_eq_true,Bool.and_eq_true,Bool.and_eq_true,Bool.and_eq_true]at q;have z1:=eq_of_beq q.1.1.1.1.1;have z2:=eq_of_beq q.1.1.1.1.2;have z3:cd.hasDel=false:=by simpa using q.1.1.1.2
   cases cd with
   |mk nm bs mro ns qn hd sn sub ab col del=>
    cases sl with
    |mk l=>
     have hs':=hs;have hm':=hm;have z3':=z3;subst hs' hm' z3' z1 z2;exact⟨bm,bs,ns,nm,qn,hd,ab,sn,sub,col,dd,k0,k1,k2,k3,k5,_,X _ _ e,Heap.Ns.of_isNs (W.isNs_of_in X q.1.2),W.nsMap_none_of_in X q.1.2 (eq_of_beq q.2),W.tail_of_in X q.1.1.2⟩
  ·cases q
 ·cases q
def zgl(c:Value)(Ex:St->XK)(t:TA):TS:=λ_ Z H=>t Z H λvs H1=>vs.length<=sizeLine/\Ex Z c none H1
theorem zdI{np cpos pos:Pos}(O:zgW X.K X.mg x C)(hx:zfX X Ex)(hc:X.calm=true)(ha:PA X (e::es) t)(hg:Gl X x:=by rfl)(hdb:(x == ("__debug__" : Str))=false:=by decide)(he:starEach (e::es) X.env=(false,eval e X.env)::starEach es X.env:=by rfl)(hpl:(backTo cpos (starEach (e::es) X.env)).any (·.1)=false:=by rfl):PS X (.Raise (some (.Call (.Name x np) (e::es) [] cpos)) none pos) (zgl (.ref C) Ex t):=by
 intro pins s Z H D I h;obtain⟨bm,bs,N,nm,qn,hd,ab,sn,sub,col,dd,k0,k1,k2,k3,k5,mN,hC,hN,hni,T⟩:=zfG I.ok.mod.kin O.ok;refine wpAny_Raise_call_subT (nm:=nm) (q:=qn) (N:=N) (bs:=bs) (hdct:=hd) (sn:=sn) (sub:=sub) (ab:=ab) (col:=col) (dd:=dd) (k0:=k0) (k1:=k1) (k2:=k2) (k3:=k3) (k5:=k5)
  PySem.F.excBase_ValueError (T.hasType PySem.F.excBase_ValueError.hasBase) (I.ok.hd hc) hpl hni (YJ I hg O.g ⟨rfl,?_⟩ hdb)
 have ha':=ha cpos pins s Z H _ I h;rw[he]at ha' ⊢;refine Calls.evalArgs_plain (thn ha' λus s1 ⟨vs,H1,I1,r,hz,q⟩=>?_);exact⟨rfl,by rw[<-r.length];exact hz,I1.bk _ _ hC,hN.keeps I1.bk,T.keeps I1.bk,λh' ea hm=>hx pins Z H1 s1 h' ea (.ref C) us I1 hm q⟩
def zgI(sp:Sp)(Ex:St->XK)(t:TA):TE:=λZ H Q=>t Z H λvs H1=>sp vs H1 Q (Ex Z)
theorem zfB{Z:St}(F:FnOk X.prog X.w X.K X.mg X.base (CX1 X.prog X.w) k f fd ps sp)(hr:Room k X.A)(hb:Binds X.K fd ps [])(hx:zep X Ex)(I:Inv X pins Z H s)(r:Vals vs us)(h:sp vs H Q (Ex Z)):wpAny (model X.prog X.w) X.A (call (.ref f) us) (EP X pins Z Q) X.xe s:=by
 have hl:us.length=ps.length:=by rw[<-r.length];exact F.len _ _ _ _ h
 have hb':=hb s us I.kIn (by rw[List.append_nil];exact hl);rw[List.append_nil]at hb';refine wpAny_call (codeAny_mono (F.run X.A X.stack s H ⟨us,[]⟩ us vs Q (Ex Z) hr I.env0 hb' r h) λr s' hq=>?_);cases r with
 |error e=>exact hx pins Z H s e s' I hq
 |ok fl=>
  cases fl with
  |ret u=>exact I.after hq
  |next=>exact False.elim hq
  |brk=>exact False.elim hq
  |cont=>exact False.elim hq
theorem zgn{st:Stmt}{p pos:Pos}(D:Df X.K X.mg x st ps f fd)(G:FnOk X.prog X.w X.K X.mg X.base (CX1 X.prog X.w) k f fd ps sp)(hr:Room k X.A)(hx:zep X Ex)(ha:PA X (e::es) t)(hg:Gl X x:=by rfl)(hdb:(x == ("__debug__" : Str))=false:=by decide)(he:starEach (e::es) X.env=(false,eval e X.env)::starEach es X.env:=by rfl)(hpl:(backTo pos (starEach es X.env)).any (·.1)=false:=by rfl):PE X (.Call (.Name x p) (e::es) [] pos) (zgI sp Ex t):=by
 intro pins s Z H Q I h;refine wpAny_Call_Name_kw (YJ I hg D.g ?_ hdb);refine W.callWith_K I.ok.mod.kin D.fn.kp (thn (ha pos pins s Z H _ I h) λus s1 ⟨vs,H1,I1,r,q⟩=>⟨I1.kIn,?_⟩) he hpl;exact zfB G hr D.b hx I1 r q
theorem Fun.ok1{K:W.Frag}{st:Stmt}(F:Fun K x qual st f fd)(S:zF N ps (zx st))(len:∀vs H Q E,sp vs H Q E->vs.length=ps.length)(hbody:∀cdv A outer s H vs Q E,Room k (A.deeper (envOfC qual (zx st) s.heap.objs.size f cdv))->sp vs H Q E ->
   ∃t,PSs (XJ (CX1 P w) P w K mg base N qual (zx st) f cdv A outer s H E) (zq st) t/\t { nx:=λ_ H'=>Q .non H',rt:=Q } (start N vs) H):FnOk P w K mg base (CX1 P w) (k+1) f fd ps sp:=by
 obtain⟨oc,od,kV,doc,pm,an,cdv,ct,osl,rfl,lk,hcd⟩:=F.ex;exact zem lk hcd S len λA outer s H vs Q E hr hsp=>hbody cdv A outer s H vs Q E hr hsp
open PySem PySem.Spec PyProof.Rows Builtin Builtin.ObjectAttr Builtin.Getset_descriptor
structure zag (K:W.Frag) (C:Addr):Prop where
 ga:W.findIn K (.ref C) "__getattribute__"= some (some (.builtin "BaseException.__getattribute__"))
 hk:W.findIn K (.ref C) "__getattr__"= some none
 at_:W.findIn K (.ref C) "__class__"= some (some (.builtin "object.__class__"))
 sp:W.specialIn K (.builtin "object.__class__") "__get__"= some (some (.builtin "getset_descriptor.__get__"))
 tk:W.takesIn K (.builtin "object.__class__")=some true
 mo:W.mroIn K C (.type "object")=some true
 mb:W.mroIn K C (.type "BaseException")=some true
def ExcAt(e C:Addr)(h:Heap):Prop:=∃o,h.get? e=some o/\o.cls=.ref C
section
variable {prog:Program} {w:World} {A:Around} {K:W.Frag} {e C:Addr} {h:Heap}
theorem ExcAt.ty(x:ExcAt e C h):W.Looks M h (typeOf (.ref e)) (.ref C):=by
 obtain⟨o,h1,h2⟩:=x;have L:W.Looks M h (typeOf (.ref e)) o.cls:=(W.Looks.ld h1).andThen .now;rw[h2]at L;exact L
theorem zbt(X:K.In h)(F:zag K C):W.Looks M h (find (.ref e) (.ref C) "__class__") (.bind (.builtin "getset_descriptor.__get__") (.builtin "object.__class__")):=by
 have q3:W.Looks M h (dataDescriptor? (some (.builtin "object.__class__")) (some (.builtin "getset_descriptor.__get__"))) (some (.builtin "getset_descriptor.__get__",.builtin "object.__class__")):=(W.looks_takesIn X F.tk).andThen .now;have q2:W.Looks M h (getOf (some (.builtin "object.__class__"))) (some (.builtin "getset_descriptor.__get__")):=W.looks_specialIn X F.sp;exact (W.looks_findIn X F.at_).andThen (q2.andThen (q3.andThen (W.Looks.tag .now)))
theorem JQ(X:K.In s.heap)(x:ExcAt e C s.heap)(F:zag K C)(q:R (.ok (.ret (.ref C))) s):codeAny (model prog w) A (.call (.builtin "getset_descriptor.__get__") ⟨[.builtin "object.__class__",.ref e,tp],[]⟩) R s:=by
 cases s with
 |mk hp gn dr tk os=>
  have y0:=x.ty (M:=model prog w);have y1:=W.looks_mroIn (M:=model prog w) X F.mo;refine codeAny_call_builtin W.KF.slot_gs.plain W.KF.entry_gs (W.KF.slot_gs.check _ _ _ _ _ _ _ _ W.KF.type_class (W.KF.args_gs _ _ _) ?_);unfold «getset_descriptor.__get__» descrGet;refine wpAny_bind (wpAny_pure ?_);unfold descrGetter descrCheckInstance descrNameAndClass isInstance;simp only[W.KF.owner_class]
  repeat lk
  refine⟨Code.quiet_builtin _ (by decide +kernel),codeAny_builtin W.KF.entry_class ?_⟩;unfold «object.__class__» shownTypeOf
  repeat lk
  exact q
theorem zgG(X:K.In s.heap)(x:ExcAt e C s.heap)(F:zag K C)(q:R (.ok (.ret (.ref C))) s):codeAny (model prog w) A (.call (.builtin "BaseException.__getattribute__") ⟨[.ref e,.str "__class__" t],[]⟩) R s:=by
 cases s with
 |mk hp gn dr tk os=>
  have y0:=x.ty (M:=model prog w);have y3:=zbt (M:=model prog w) (e:=e) X F;have y4:=W.looks_mroIn (M:=model prog w) X F.mb;refine codeAny_call_builtin PySem.F.attr_ValueError.ga.plain PySem.F.entry_bexc_ga ?_;have z1:builtinKind "BaseException.__getattribute__"= some .slot:=by decide +kernel
  have z2:splitId "BaseException.__getattribute__"= some ("BaseException","__getattribute__"):=by decide +kernel
  have z3:=PySem.F.args_bexc_ga (.ref e) (.str "__class__" t);simp only[checkBuiltinCall,z1,z2];refine wpAny_bind ?_;unfold isInstance;refine wpAny_bind (y0.at (y4.at ?_))
  repeat (any_goals (first | assumption | wp_step))
  obtain⟨o,h1,h2⟩:=id x;refine wpAny_loadPart h1 (wpAny_pure ?_);rw[h2];refine wpAny_bind (y3.at ?_);dsimp only
  repeat (any_goals (first | assumption | with_reducible refine wpAny_holding ?_ | wp_step))
  exact JQ (s:=⟨hp,gn,dr,tk,os⟩) X x F (wpAny_pure q)
theorem zc3(X:K.In s.heap)(x:ExcAt e C s.heap)(F:zag K C)(q:Q (some (.ref C)) { s with toks:=s.toks+1 }):wpAny (model prog w) A (getAttr? (.ref e) "__class__") Q E s:=by
 cases s with
 |mk hp gn dr tk os=>
  have y0:=x.ty (M:=model prog w);have y1:=W.looks_findIn (M:=model prog w) X F.ga;have y2:=W.looks_findIn (M:=model prog w) X F.hk;refine wpAny_bind (wpAny_mkText (wpAny_bind (wpAny_attempt (wpAny_holding (wpAny_bind (y0.at (wpAny_bind (y1.at ?_))))))));refine wpAny_bind ?_;refine y2.at (wpAny_bind (wpAny_attempt (wpAny_holding ?_)));refine wpAny_bind (wpAny_of_eq (PySem.F.attr_ValueError.ga.bind (.ref e)) ?_);exact wpAny_call (zgG X x F (wpAny_pure (wpAny_pure q)))
theorem zdW(F:zag K C):W.KitX K (.ref e) (.ref C) (ExcAt e C) where
 ty:=λ_ _ _ x=>x.ty
 it:=λ_ _ X _=>by
  have z:=F.mo;unfold W.mroIn W.clsIn at z;split at z
  ·rename_i ho
   intro A1 Q1 E1 s1 k q;exact wpAny_bind (wpAny_loadPart (k _ _ (X _ _ ho)) (wpAny_pure q))
  ·cases z
 ne:=λh tp dd its n sl X htp=>by
  have z:=F.mo;refine Bool.eq_false_iff.mpr λq=>?_;have ec:=Value.ref.inj (beq_iff_eq.mp q);subst ec;unfold W.mroIn W.clsIn at z;split at z
  ·rename_i ho
   have z2:=X _ _ ho;rw[htp]at z2;cases z2
  ·cases z
 ca:=λX x q=>zc3 X x F q
def VJ(e C:Addr):HO:=.ext λh=>ExcAt e C h
def zdQ(K:W.Frag):List V->Hp->VK->Prop:=λxs H Q=>Ex5 λe C c cu b=>xs=[.ref e,c]/\RelV c cu/\(∀u,RelV c u->u=cu)/\H e=some (VJ e C)/\zag K C/\W.kitOne K (.ref C) cu=some b/\Q (.bl b) H
theorem zdo:vg X (.builtin "isinstance") (zdQ X.K):=by
 intro pins s Z H xs us Q I r h;obtain⟨e,C,c,cu,b,rfl,_,un,he,F,k,q⟩:=h;obtain⟨u,v,rfl,rx,rt⟩:=vals2 r;cases (show u=Value.ref e from rx)
 cases un v rt;have o:=I.hok e _ he
 exact W.kia_one (zdW F) I.kIn o.1 k (λz=>nomatch z) λtk=>⟨.bl b,H,I.tok tk,rfl,q⟩
theorem uV(K:W.Frag)(e:X.K=K:=by rfl):vg X (.builtin "isinstance") (zdQ K):=by subst e;exact zdo
end
structure zb8 (K:W.Frag) (mg:Str->Option Value) (y:Str) (Ch:Addr):Prop where
 g:mg y=some (.ref Ch)
 mb:W.mroIn K Ch (.type "BaseException")=some true
theorem zda{K:W.Frag}(X:K.In s.heap)(x:ExcAt e C s.heap)(m:W.kitCls K (.ref C) (.ref Ch)=some b)(hb:W.mroIn K Ch (.type "BaseException")=some true)(q:Q b s):wpAny (model prog w) A (excMatches (.ref e) (.ref Ch)) Q E s:=by
 cases s with
 |mk hp gn dr tk os=>
  obtain⟨y1,y2,y3⟩:=W.kit_cls (M:=model prog w) X m;have y0:=x.ty (M:=model prog w);have y4:=W.looks_mroIn (M:=model prog w) X hb;have y5:=tc_notTuple;unfold excMatches isInstance isExcClass
  repeat (first | with_reducible refine W.Looks.at (by assumption) ?_ | (with_reducible refine wpAny_of_eq y5 ?_) | with_reducible refine wpAny_bind ?_ | wp_step)
  cases b
  ·exact wpAny_pure (wpAny_pure (wpAny_pure q))
  ·exact wpAny_pure (wpAny_pure (wpAny_pure q))
section
variable {X:Cx} {pins:List (Addr×Obj)} {Z:St} {H H':Hp} {s s':Shared}
abbrev Cx.sui(X:Cx)(e:Addr):Cx:={ X with A:=X.A.mark (some (.ref e)),calm:=false,xe:=λ_ _=>False }
theorem Inv.toSui(I:Inv X pins Z H s)(e:Addr):Inv (X.sui e) pins Z H s :=
 ⟨⟨I.ok.mod,I.ok.kind,I.ok.glob,I.ok.blt,I.ok.above,I.ok.inj,I.ok.has,I.ok.cab,(λz=>nomatch z),I.ok.frames,I.ok.stk,I.ok.exf,I.ok.bs,I.ok.bsz,I.ok.noex,I.ok.exfs,I.ok.funs,I.ok.frf⟩,I.os,I.bare,I.base,I.loc,I.cell,I.free,I.freeC,I.pin,I.hok,I.len⟩
theorem Inv.ofSui(ok:X.Ok)(I:Inv (X.sui e) pins Z H s):Inv X pins Z H s:=⟨ok,I.os,I.bare,I.base,I.loc,I.cell,I.free,I.freeC,I.pin,I.hok,I.len⟩
abbrev Cx.body(X:Cx)(E:Value->Shared->Prop)(pn:List (Addr×Obj)):Cx:={ X with xe:=E,pn:=pn }
theorem Inv.toBody(I:Inv X pins Z H s)(E:Value->Shared->Prop):Inv (X.body E (X.pn++pins)) [] Z H s :=
 ⟨⟨I.ok.mod,I.ok.kind,I.ok.glob,I.ok.blt,I.ok.above,I.ok.inj,I.ok.has,I.ok.cab,I.ok.hd,I.ok.frames,I.ok.stk,I.ok.exf,I.ok.bs,I.ok.bsz,I.ok.noex,I.ok.exfs,I.ok.funs,I.ok.frf⟩,I.os,I.bare,I.base,I.loc,I.cell,I.free,I.freeC,λp hp=>I.pin p (by rw[List.append_nil]at hp;exact hp),I.hok,I.len⟩
theorem Inv.ofBody(ok:X.Ok)(I:Inv (X.body E (X.pn++pins)) pins' Z H s):Inv X pins Z H s:=⟨ok,I.os,I.bare,I.base,I.loc,I.cell,I.free,I.freeC,λp hp=>I.pin p (List.mem_append_left _ hp),I.hok,I.len⟩
theorem SP.ofBody(ok:X.Ok)(h:SP (X.body E (X.pn++pins)) [] D f s'):SP X pins D f s':=by
 cases f with
 |next=>obtain⟨σ',H',I,q⟩:=h;exact⟨σ',H',I.ofBody ok,q⟩
 |brk=>obtain⟨σ',H',I,q⟩:=h;exact⟨σ',H',I.ofBody ok,q⟩
 |cont=>obtain⟨σ',H',I,q⟩:=h;exact⟨σ',H',I.ofBody ok,q⟩
 |ret u=>obtain⟨v,σ',H',I,r,q⟩:=h;exact⟨v,σ',H',I.ofBody ok,r,q⟩
theorem zcY(un:Un (frs X.stack) [] H H' s.heap h')(hok:HOk X.prog X.w H' h')(n0:s.heap.get? e=none)(n1:H' e=none)(x:ExcAt e C h'):
  Un (frs X.stack) [] H (upd H' e (VJ e C)) s.heap h'/\HOk X.prog X.w (upd H' e (VJ e C)) h':=by
 have ne:∀b o,s.heap.get? b=some o->b≠e:=λb o q z=>by rw[z,n0]at q;cases q
 refine⟨⟨un.keep,un.slot,λb o q n hx=>by rw[zB (ne b o q)];exact un.free b o q n hx,un.there,λb xs q=>?_,λb o u q=>?_,λb ps q=>?_⟩,λb o q=>?_⟩
 ·have z:=un.tups b xs q;rw[zB (zK z n1)];exact z
 ·have z:=un.frzs b o u q;rw[zB (zK z n1)];exact z
 ·obtain⟨more,z⟩:=un.tbls b ps q;exact⟨more,by rw[zB (zK z n1)];exact z⟩
 ·by_cases hb:b=e
  ·subst hb;rw[zp]at q;cases q
   obtain⟨o,h1,h2⟩:=id x;exact⟨x,⟨o,h1⟩,λha hb' xa ka=>let ⟨o,h1,h2⟩:=xa;⟨o,ka o h1,h2⟩⟩
  ·rw[zB hb]at q;exact (hok b o q).stay (λc u _ z=>z) (λc z=>by rw[zB (zK z n1)];exact z) λc xs z=>by rw[zB (zK z n1)];exact z
theorem Inv.gone(I:Inv X pins Z H s)(hN:X.N.Nodup)(hi:X.N[i]?=some n)(hs:Heap.SameBut X.env.locals s.heap h')(hn:∀m,s.heap.Ns X.env.locals m->∃v,h'.Ns X.env.locals λx=>if x=n then v else m x):
  Inv X pins (Z.set i none) H { s with heap:=h',toks:=t }:=by
 have nl:∀b o,X.s₀.heap.get? b=some o->b≠X.env.locals:=λb o e=>Nat.ne_of_lt (Nat.lt_of_lt_of_le (Heap.lt_size e) I.ok.above);have tr:∀b u,H b=some u->b≠X.env.locals:=λb u e z=>by rw[z,I.free]at e;cases e
 obtain⟨m,hm,hl⟩:=id I.loc;obtain⟨v,hv⟩:=hn m hm;refine⟨I.ok,I.os,I.bare,⟨λb o e n hb hx=>(hs.2 b (nl b o e)).trans (I.base.keep b o e n hb hx),λb o e n hb hx=>?_,I.base.free,λb o e hx=>?_,I.base.tups,I.base.frzs,I.base.tbls⟩,⟨_,hv,λj y w e1 e2 e3=>?_⟩,λy c e=>?_,I.free,I.freeC,λp hp=>?_,λb u e=>?_,by rw[List.length_set];exact I.len⟩
 ·obtain⟨sl,q⟩:=I.base.slot b o e n hb hx;exact⟨sl,(hs.2 b (nl b o e)).trans q⟩
 ·obtain⟨o1,q⟩:=I.base.there b o e hx;exact⟨o1,(hs.2 b (nl b o e)).trans q⟩
 ·have hj:j≠i:=λz=>by
   subst z;rw[List.getElem?_set]at e2;split at e2
   ·split at e2<;>cases e2
   ·exact absurd rfl (by assumption)
  rw[List.getElem?_set_ne (Ne.symm hj)]at e2;obtain⟨u,r,q⟩:=hl j y w e1 e2 e3;refine⟨u,r,?_⟩;rcases q with ⟨k,z⟩ | ⟨k,c,z,zc⟩
  ·refine .inl ⟨k,?_⟩;have ny:y≠n:=λz=>hj (Uw hN e1 (z▸hi));show (if y=n then v else m y)=some u;rw[if_neg ny];exact z
  ·exact .inr ⟨k,c,z,zc.sameBut hs (I.cne y c z)⟩
 ·obtain⟨w,z⟩:=I.cell y c e;exact⟨w,z.sameBut hs (I.cne y c e)⟩
 ·obtain⟨e,n,ne,nf,d⟩:=I.pin p hp;exact⟨(hs.2 p.1 ne).trans e,n,ne,nf,d⟩
 ·refine (I.hok b u e).stay (λc z hc q=>(hs.2 c ?_).trans q) (λ_ q=>q) λ_ _ q=>q;rcases hc with z | z
  ·rw[z];exact tr b u e
  ·exact tr c _ z
end
def zf8(i:Nat)(D:Ends):Ends:={ nx:=λZ H=>D.nx (Z.set i none) H,rt:=D.rt,bk:=λZ H=>D.bk (Z.set i none) H,ct:=λZ H=>D.ct (Z.set i none) H }
def xAs(K:W.Frag)(Ch:Addr)(i:Nat)(ts:TS)(D:Ends):St->XK:=λZ c _ H=>∃C,c=.ref C/\W.kitCls K (.ref C) (.ref Ch)=some true/\∀e,H e=none->ts (zf8 i D) (Z.set i (some (.ref e))) (upd H e (VJ e C))
def zgo(K:W.Frag)(Ch:Addr)(i:Nat)(tb:(St->XK)->TS)(ts:TS):TS:=λD Z H=>tb (xAs K Ch i ts D) D Z H
section
variable {X:Cx} {y n:Str} {Ch:Addr} {i:Nat} {body suite:List Stmt} {b₀:Stmt} {tb:(St->XK)->TS} {ts:TS} {np hpos pos:Pos}
theorem zeU(O:zb8 X.K X.mg y Ch)(hstk:X.stack=X.env::X.outer)(hfr:X.env.frame=some X.env.locals)(nd:X.N.Nodup)(hi:X.N[i]?=some n)(hloc:X.env.scope.names.lookup n=some .local)(hb:∀E pn Ex,zep (X.body E pn) Ex->PSs (X.body E pn) body (tb Ex))(hs:∀e,PSs (X.sui e) (b₀::suite) ts)(hg:Gl X y:=by rfl)(hdb:(y == ("__debug__" : Str))=false:=by decide):
  PS X (.Try body [.ExceptHandler (some (.Name y np)) (some n) (b₀::suite) hpos] [] [] pos) (zgo X.K Ch i tb ts):=by
 intro pins s Z H D I h;have ok:=I.ok;refine wpAny_Try_except (wpAny_mono (hb (λe s₁=>wpAny (model X.prog X.w) X.A (noteFrame e X.env) (λ_ s₂=>wpAny (model X.prog X.w) X.A (setFlight e none) (λ_ s₃=>wpAny (model X.prog X.w) X.A (handleBy e X.env [.ExceptHandler (some (.Name y np)) (some n) (b₀::suite) hpos]) (SP X pins D) X.xe s₃) X.xe s₂) X.xe s₁)
  (X.pn++pins) (xAs X.K Ch i ts D) ?_ [] s Z H D (I.toBody _) h) (λf s1 q=>?_) λ_ _ z=>z)
 ·intro pins2 σ2 H2 s2 e s3 I2 hcx;have I2:=I2.ofBody ok;obtain⟨ea,c,H3,rfl,os,bare,un,hok,n0,n1,t,C,rfl,hk,hq⟩:=hcx;obtain⟨B,a0,hB,fl⟩:=zfm I2 os bare un hok n0 n1 t;have fl':Heap.FlyingW B (X.env::X.outer) ea (.ref C) a0 s3.heap:=by rw[<-hstk];exact fl
  refine wpAny_looks_onW (by rw[ok.frames,hstk]) hfr fl' λh4 held up4=>wpAny_landsW held λh5 fl5 up5=>?_;obtain⟨u5,k5⟩:=zb4 I2 un hok hB fl5.1 (up4.trans up5);have J5:Inv X pins σ2 H3 { s3 with heap:=h5 }:=I2.call' os u5 k5 bare λb z=>absurd z (by simp);have x5:=fl5.there;refine wpAny_handleBy_cons (codeAny_handlers_test (YJ (J5.toSui ea) hg O.g ?_ hdb)) (by intro z;cases z);refine zda J5.kIn x5 hk O.mb (codeAny_handlers_suite_as (lands_againW fl5 λh6 fl6 up6=>?_));obtain⟨u6,k6⟩:=zb4 I2 un hok hB fl6.1 ((up4.trans up5).trans up6);obtain⟨u7,k7⟩:=zcY u6 k6 n0 n1 fl6.there;have J7:Inv X pins σ2 (upd H3 ea (VJ ea C)) { s3 with heap:=h6 }:=I2.call' os u7 k7 bare λb z=>absurd z (by simp);refine Wb (X:=X.sui ea) (v:=.ref ea) (J7.toSui ea) nd hi (.inl hloc) rfl (λs8 J8=>?_) (.inr hloc);refine wpAny_mono (hs ea pins s8 _ _ (zf8 i D) J8 (hq ea n1)) (λf s9 q=>?_) λ_ _ z=>False.elim z;have fin:∀{σ9:St} {H9:Hp},Inv (X.sui ea) pins σ9 H9 s9->(∀s10,Inv X pins (σ9.set i none) H9 s10->SP X pins D f s10)->wpAny (model X.prog X.w) X.A (do bindName X.env n .none;unbindBehindTheSuite X.env n hpos) (λ_ s10=>SP X pins D f s10) X.xe s9:=λ{σ9 H9} J k=>by
   have J':=J.ofSui ok;obtain⟨m,hm,_⟩:=id J'.loc;refine wpAny_nameGoes_keeps hloc hm (by rw[ok.kind];rfl) λh10 v hn hsb=>k _ (J'.gone nd hi hsb λm2 hm2=>?_);refine⟨v,?_⟩;have e:m2=m:=by
    obtain⟨o1,es1,ep1,a1,b1,c1,d1⟩:=hm;obtain⟨o2,es2,ep2,a2,b2,c2,d2⟩:=hm2;rw[a1]at a2;cases a2
    rw[b1]at b2;cases b2
    funext z;rw[<-d1,<-d2]
   rw[e];exact hn
  cases f with
  |next=>obtain⟨σ9,H9,J,q⟩:=q;exact fin J λs10 K10=>⟨_,_,K10,q⟩
  |brk=>obtain⟨σ9,H9,J,q⟩:=q;exact fin J λs10 K10=>⟨_,_,K10,q⟩
  |cont=>obtain⟨σ9,H9,J,q⟩:=q;exact fin J λs10 K10=>⟨_,_,K10,q⟩
  |ret u=>obtain⟨v,σ9,H9,J,r,q⟩:=q;exact fin J λs10 K10=>⟨v,_,_,K10,r,q⟩
 ·cases f with
  |next=>exact wpAny_execs_nil (SP.ofBody ok q)
  |ret u=>exact SP.ofBody ok q
  |brk=>exact SP.ofBody ok q
  |cont=>exact SP.ofBody ok q
end
section
variable {X:Cx}
theorem zcr:∀{ts:List Str} {its:List Value},Vals (ts.map V.str) its->∃l:List (Str×Tok),its=strValues l/\l.map (·.1)=ts
 |[],its,h=>by
  cases h;exact⟨[],rfl,rfl⟩
 |x::ts,its,h=>by
  cases h with
  |cons h1 h2=>
   obtain⟨t,rfl⟩:=h1;obtain⟨l,rfl,hl⟩:=zcr h2;exact⟨(x,t)::l,rfl,by rw[List.map_cons,hl]⟩
def rJoin(K:W.Frag):V->List V->Hp->VK->Prop:=λx vs H Q=>Ex3 λz a ts=>x=.str z/\vs=[.ref a]/\SqL K H a (ts.map V.str)/\JoinOk z ts=true/\Q (.str (Txt.join z ts)) H
theorem zfI:MtM X "str.join" (rJoin X.K):=by
 intro pins s Z H x vs v us Q I rx rv h;obtain⟨z,a,ts,rfl,rfl,hq,hok,q⟩:=h;obtain⟨t,rfl⟩:=rx;obtain⟨u0,rfl,ru⟩:=Vals.one rv;cases ru
 obtain⟨its,r,pl,hz⟩:=I.list hq;obtain⟨l,rfl,hl⟩:=zcr r;exact SC.join pl.isList hl hok λt' k=>⟨.str (Txt.join z ts),H,I.tok k,⟨t',rfl⟩,q⟩
theorem zgY(K:W.Frag)(e:X.K=K:=by rfl):MtM X "str.join" (rJoin K):=by subst e;exact zfI
def zfS:V->List V->Hp->VK->Prop:=λx vs H Q=>Ex4 λz y i rest=>x=.str z/\vs=[.str y]/\Builtin.Str.occurrences z y 0 z.length 1=i::rest/\Q (.int i) H
theorem zc4:MtM X "str.index" zfS:=by
 intro pins s Z H x vs v us Q I rx rv h;obtain⟨z,y,i,rest,rfl,rfl,ho,q⟩:=h;obtain⟨t,rfl⟩:=rx;obtain⟨u0,rfl,ru⟩:=Vals.one rv;obtain⟨u,rfl⟩:=ru;exact call_gives F.slot_str_index (typeIs_str _ _ _) F.entry_str_index (F.args_str_index_2 _ _) (gives_str_index z y t u i rest ho) ⟨.int i,H,I.tok _,⟨_,rfl⟩,q⟩
def zhN:R2:=λx y H Q=>Ex2 λu v=>x=.str u/\y=.str v/\Q (.bl (!(Builtin.Str.occurrences v u 0 v.length 1).isEmpty)) H
theorem zgs:OpR X (compareOp .In) zhN:=by
 intro pins s Z H x y u v Q I rx ry h;obtain⟨a,b,rfl,rfl,q⟩:=h;obtain⟨t,rfl⟩:=rx;obtain⟨t',rfl⟩:=ry;exact P.in_str ⟨.bl _,H,I,rfl,q⟩
end
def Its(z:Str):It:=⟨λi _=>i<z.cps.size,λi H v H'=>(∃c,z.cps[i]?=some c/\v=.str ⟨#[c]⟩)/\H'=H,λi _=>z.cps.size<=i⟩
theorem zd5{P:Program}{w:World}{K:W.Frag}{tg:Expr}(z:Str)(t:Tok)(it:Addr):Turn P w K tg (Its z) [it] it (λi h=>h.IsStrIter it "str_ascii_iterator" z t i) where
 mem:=by simp
 obj:=λi h st b hb=>by
  have e:b=it:=by simpa using hb
  subst e;obtain⟨o,e,c,d⟩:=st;exact⟨o,e,λv z=>by rw[d]at z;cases z⟩
 keep:=λi h h' st k=>by
  obtain⟨o,e,r⟩:=st;exact⟨o,k it (by simp) o e,r⟩
 item:=by
  intro X hP hw hK hc i pins s Z H E I hf st hg;subst hP hw hK;obtain⟨f0,f1,f2,f3,f4,f5⟩:=hf it (by simp);have hx:=Array.getElem?_eq_getElem hg;refine wpAny_pyNext_ascii_item st hx λh' st' sb=>?_;have I1:=I.turned (t':=s.toks+1) (λb o hb e=>(sb.2 b hb).trans e) f0 f1 f3 f4 f5;obtain⟨o,e,c,d⟩:=id st';exact⟨_,rfl,zeD e c d (by decide) ⟨.str ⟨#[z.cps[i]]⟩,H,I1,⟨_,rfl⟩,⟨⟨_,hx,rfl⟩,rfl⟩,st',λb hb=>(hf b hb).1⟩⟩
 done:=by
  intro X hP hw hK hc i pins s Z H E I hf st hg;subst hP hw hK;obtain⟨f0,f1,f2,f3,f4,f5⟩:=hf it (by simp);have hg':z.cps.size<=i:=hg;exact wpAny_pyNext_ascii_end (I.ok.hd hc) st (by simpa using hg') λh' eb=>⟨rfl,I.turned (λb o hb e=>eb b o hb e) f0 f1 f3 f4 f5⟩
 self:=λ_ _ _ _ _ st h=>wpAny_pyIter_striter_ascii st h
section
variable {X:Cx} {tg:Expr}
def zhT(tl:TE):TI:=λZ H R=>tl Z H λx H1=>∃z:Str,x=.str z/\z.cps.all (·<128)=true/\R (Its z) H1
theorem zet(hl:PE X l tl):PI X tg l (zhT tl):=by
 intro pins s Z H R I h;refine thn (hl pins s Z H _ I h) λv s1 ⟨x,H1,I1,r1,q1⟩=>?_;obtain⟨z,rfl,ha,q⟩:=q1;obtain⟨t,rfl⟩:=r1;refine wpAny_pyIter_ascii ha ?_;refine⟨s1.heap.objs.size,[s1.heap.objs.size],_,_,H1,rfl,I1.kept λb o e=>Heap.get?_push_of_some _ e,zd5 z t _,⟨_,Heap.get?_push_size _ rfl,rfl,rfl⟩,λb hb=>?_,q⟩;have e:b=s1.heap.objs.size:=by simpa using hb
 subst e;exact I1.fpOk (Nat.le_refl _) (I1.hok.fresh (Nat.le_refl _))
theorem zfL(hx:∀e s,¬ X.xe e s)(hb:PSs X body t):PS X (.Try body (h0::hs) [] [] pos) t:=by
 intro pins s Z H D I h;refine wpAny_Try_except (wpAny_mono (hb pins s Z H D I h) (λf s1 q=>?_) λe s1 z=>absurd z (hx e s1));cases f with
 |next=>exact wpAny_execs_nil q
 |ret v=>exact q
 |brk=>exact q
 |cont=>exact q
end
section
variable {X:Cx} {o e:Expr} {es:List Expr} {to:TE} {t:TA} {name:Str} {apos cpos:Pos} {T id:String} {r:V->List V->Hp->VK->Prop}
theorem zgZ(K:W.Frag)(pa:PlainAttrs T)(slot:Slot T name id)(hty:typeOf (.builtin id)=pure (.type "method_descriptor"))(hm:MtM X id r)(ho:PE X o to)(ha:PA X (e::es) t)(hk:X.K=K:=by rfl)(hbase:attributeBase o name X.env (eval o X.env)=eval o X.env:=by rfl)(hfew:((backTo cpos (starEach (e::es) X.env)).all (λx=>!x.1) && (backToKw cpos (keywordEach [] X.env)).all (λx=>x.1.isSome)
   && decide ((e::es).length+([]:List Keyword).length+(if ([]:List Keyword).isEmpty then 0 else 1)<30))=true:=by rfl)(hline:(apos.endLine == cpos.line)=true:=by rfl)(hs:starEach (e::es) X.env=(false,eval e X.env)::starEach es X.env:=by rfl)(hplain:(backTo cpos (starEach es X.env)).any (·.1)=false:=by rfl):
  PE X (.Call (.Attribute o name apos) (e::es) [] cpos) (tBM K T r to t):=by
 subst hk;exact Yj pa slot hty hm ho ha hbase hfew hline hs hplain
end
theorem zbB(Pv:Nat->List V->Hp->Prop)(h0:Pv 0 [] H)(hs:∀i c ys H,z.cps[i]?=some c->Pv i ys H->ys.length<sizeLine/\tt (some (.str ⟨#[c]⟩)::qX js Z) H λb H2=>if b=true then te (some (.str ⟨#[c]⟩)::qX js Z) H2 λv H3=>Pv (i+1) (ys++[v]) H3 else Pv (i+1) ys H2)(hd:∀ys H,Pv z.cps.size ys H->∀D,H D=none->Q (.ref D) (upd H D (.lst ys))):
  CompLoop (Its z) js tt te Z Q H:=by
 refine⟨λi m ys H=>m=z.cps.size-i/\i<=z.cps.size/\Pv i ys H,⟨z.cps.size,by simp,Nat.zero_le _,h0⟩,?_⟩;rintro i m ys H ⟨rfl,hi,p⟩;by_cases hlt:i<z.cps.size
 ·have hx:=Array.getElem?_eq_getElem hlt;obtain⟨hz,hst⟩:=hs i _ ys H hx p;refine .inr ⟨hlt,hz,Pv (i+1),λys' H' p'=>⟨z.cps.size-(i+1),by omega,rfl,hlt,p'⟩,λx H' y=>?_⟩;obtain⟨⟨c,hc,rfl⟩,rfl⟩:=y;rw[hx]at hc;cases hc
  exact hst
 ·have e:i=z.cps.size:=by omega
  subst e;exact .inl ⟨Nat.le_refl _,hd ys H p⟩
end L2
namespace Lw
open PySem
def cd(f:Nat):Nat:=if f<10 then 48+f else 87+f
abbrev SIG:Str:="0123456789abcdef"
theorem signs_at:∀{f:Nat},f<16->SIG.cps.toList[f]?=some (cd f):=by
 have h:∀f,f<16->SIG.cps.toList[f]?=some (cd f):=by decide +kernel
 exact λ{f} hf=>h f hf
theorem Jz:∀{f:Nat},f<16->Builtin.Str.occurrences SIG ⟨#[cd f]⟩ 0 SIG.length 1=[f]:=by
 have h:∀f,f<16->Builtin.Str.occurrences SIG ⟨#[cd f]⟩ 0 SIG.length 1=[f]:=by decide +kernel
 exact λ{f} hf=>h f hf
theorem zg3(h:f<16):cd f<128:=by unfold cd;split<;>omega
def txt(fs:List Int):Str:=⟨(fs.map λf=>cd f.toNat).toArray⟩
theorem Wg(fs:List Int):(txt fs).cps.toList=fs.map λf=>cd f.toNat:=by simp[txt]
theorem zcU(a y:Str):(a++y).cps.toList=a.cps.toList++y.cps.toList:=Array.toList_append
def jl(sep:List Nat):List (List Nat)->List Nat
 |[]=>[]
 |[x]=>x
 |x::y::r=>x++sep++jl sep (y::r)
theorem zbl(sep:Str):∀xs:List Str,(Str.join sep xs).cps.toList=jl sep.cps.toList (xs.map λx=>x.cps.toList)
 |[]=>rfl
 |[x]=>rfl
 |x::y::r=>by
  rw[Str.join,zcU,zcU,zbl sep (y::r)]
  ·rfl
  ·intro z;cases z
theorem zei:∀xs:List (List Nat),jl [] xs=xs.flatten
 |[]=>rfl
 |[x]=>by rw[jl,List.flatten_cons,List.flatten_nil,List.append_nil]
 |x::y::r=>by
  rw[jl,zei (y::r),List.append_nil];rfl
theorem zfC{a b:Str}(h:a.cps.toList=b.cps.toList):a=b:=by
 apply Str.ext';exact Array.toList_inj.mp h
theorem zdB(fs:List Int):((fs.map λf=>(⟨#[cd f.toNat]⟩:Str)).map λx=>x.cps.toList).flatten=fs.map λf=>cd f.toNat:=by
 induction fs with
 |nil=>rfl
 |cons x fs ih=>rw[List.map_cons,List.map_cons,List.flatten_cons,ih];rfl
theorem zeY(fs:List Int):Txt.join "" (fs.map λf=>(⟨#[cd f.toNat]⟩:Str))=txt fs:=by
 apply zfC;rw[show Txt.join "" (fs.map λf=>(⟨#[cd f.toNat]⟩))=_ from StrLaws.glued_eq_join _ _,zbl,show (Str.cps "").toList=[] from by decide +kernel,zei,zdB,Wg]
theorem Q4(h:∀f∈fs,0<=f/\f<16):(txt fs).cps.all (·<128)=true:=by
 rw[<-Array.all_toList,Wg,List.all_eq_true];intro c hc;obtain⟨f,hf,rfl⟩:=List.mem_map.mp hc;have:=h f hf;exact decide_eq_true (zg3 (by omega))
end Lw
namespace L2
open PySem PyProof.Rows
def unD:List (PyData×PyData)->List (Int×Int)
 | (.int k,.int v)::r=>(k,v)::unD r
 |_=>[]
def dD(ps:List (Int×Int)):List (PyData×PyData):=ps.map λp=>(.int p.1,.int p.2)
def dV(ps:List (Int×Int)):List (Key×V):=ps.map λp=>(.inl p.1,.int p.2)
mutual
def ThAt(H:Hp):PyData->V->Prop
 |.none,v=>v=.non
 |.bool b,v=>v=.bl b
 |.int i,v=>v=.int i
 |.str x,v=>v=.str x
 |.list xs,v=>∃a ys,v=.ref a/\H a=some (.lst ys)/\ThsAt H xs ys
 |.tuple xs,v=>∃a ys,v=.ref a/\H a=some (.tup ys)/\ThsAt H xs ys
 |.dict kvs,v=>kvs=dD (unD kvs)/\∃a,v=.ref a/\H a=some (.dK (dV (unD kvs)))
def ThsAt(H:Hp):List PyData->List V->Prop
 |[],ys=>ys=[]
 |d::ds,ys=>∃y zs,ys=y::zs/\ThAt H d y/\ThsAt H ds zs
end
mutual
theorem ThAt.same{H H':Hp}(m:Same H H'):∀{d:PyData} {v:V},ThAt H d v->ThAt H' d v
 |.none,v,h=>by rw[ThAt]at h ⊢;exact h
 |.bool b,v,h=>by rw[ThAt]at h ⊢;exact h
 |.int i,v,h=>by rw[ThAt]at h ⊢;exact h
 |.str x,v,h=>by rw[ThAt]at h ⊢;exact h
 |.list xs,v,h=>by
  rw[ThAt]at h ⊢;obtain⟨a,ys,h1,h2,h3⟩:=h;exact⟨a,ys,h1,m _ _ h2,ThsAt.same m h3⟩
 |.tuple xs,v,h=>by
  rw[ThAt]at h ⊢;obtain⟨a,ys,h1,h2,h3⟩:=h;exact⟨a,ys,h1,m _ _ h2,ThsAt.same m h3⟩
 |.dict kvs,v,h=>by
  rw[ThAt]at h ⊢;obtain⟨h0,a,h1,h2⟩:=h;exact⟨h0,a,h1,m _ _ h2⟩
theorem ThsAt.same{H H':Hp}(m:Same H H'):∀{ds:List PyData} {ys:List V},ThsAt H ds ys->ThsAt H' ds ys
 |[],ys,h=>by rw[ThsAt]at h ⊢;exact h
 |d::ds,ys,h=>by
  rw[ThsAt]at h ⊢;obtain⟨y,zs,h1,h2,h3⟩:=h;exact⟨y,zs,h1,ThAt.same m h2,ThsAt.same m h3⟩
end
def tyT:PyData->String
 |.none=>"NoneType" | .bool _=>"bool" | .int _=>"int" | .str _=>"str" | .list _=>"list" | .tuple _=>"tuple" | .dict _=>"dict"
theorem ThAt.ty{K:W.Frag}(h:ThAt H d v):Wf K H v (.type (tyT d)):=by
 cases d with
 |none=>rw[ThAt]at h;rw[h];exact .non
 |bool b=>rw[ThAt]at h;rw[h];exact .bl b
 |int i=>rw[ThAt]at h;rw[h];exact .int i
 |str x=>rw[ThAt]at h;rw[h];exact .str x
 |list xs=>rw[ThAt]at h;obtain⟨a,ys,rfl,h2,_⟩:=h;exact .lst h2
 |tuple xs=>rw[ThAt]at h;obtain⟨a,ys,rfl,h2,_⟩:=h;exact .tup h2
 |dict kvs=>rw[ThAt]at h;obtain⟨_,a,rfl,h2⟩:=h;exact .dK h2
def isS(T t:String):Bool:=t == T || (t =="bool" && T =="int")
def isT(T:String)(d:PyData):Bool:=isS T (tyT d)
section
variable {K:W.Frag}
theorem zd6(hT:T ="int"\/T ="bool"\/T ="list"\/T ="tuple"\/T ="str")(ht:t ="NoneType"\/t ="bool"\/t ="int"\/t ="str"\/t ="list"\/t ="tuple"\/t ="dict"):W.kitOne K (.type t) (.type T)=some (isS T t):=by
 rcases hT with rfl | rfl | rfl | rfl | rfl<;>rcases ht with rfl | rfl | rfl | rfl | rfl | rfl | rfl <;>
  first
  |exact Xj (by decide +kernel) (by decide +kernel) (λ_=>rfl)
  |exact Xj (by decide +kernel) (by decide +kernel) (λe=>absurd e (by decide))
theorem zcS(d:PyData):tyT d ="NoneType"\/tyT d ="bool"\/tyT d ="int"\/tyT d ="str"\/tyT d ="list"\/tyT d ="tuple"\/tyT d ="dict":=by
 cases d<;>simp[tyT]
theorem JX(d:PyData):W.kitOne K (.type (tyT d)) (.type "int")=some (isT "int" d):=zd6 (by simp) (zcS d)
theorem zaT(d:PyData):W.kitOne K (.type (tyT d)) (.type "bool")=some (isT "bool" d):=zd6 (by simp) (zcS d)
end
end L2
namespace L2
open PySem PyProof.Rows
section
variable {P:Program} {w:World} {H:Hp} {h:Heap}
theorem J4(ok:HOk P w H h)(e:H a=some (.lst ys)):∃its n,Vals ys its/\h.get? a=some { cls:=.type "list",data:=.seq its.toArray n }:=(ok a _ e).2
theorem zac(ok:HOk P w H h)(e:H a=some (.tup ys)):∃its o n,Vals ys its/\h.get? a=some o/\o.cls=.type "tuple"/\o.data=.seq its.toArray n:=by
 obtain⟨_,its,r,o,h1,h2,n,h3⟩:=ok a _ e;exact⟨its,o,n,r,h1,h2,h3⟩
theorem U9:∀{l:List DictEntry} {vs:List (Key×Value)} {ps:List (Int×Int)},Pairs (yu P w) l vs->KV (dV ps) vs ->
  ReadsAll h (l.map (·.key)) ((dD ps).map (·.1)) []/\ReadsAll h (l.map (·.val)) ((dD ps).map (·.2)) []
 |_,_,[],pr,r=>by
  cases r;cases pr
  exact⟨.nil,.nil⟩
 |_,_,(k,v)::ps,pr,r=>by
  have r':KV ((Sum.inl k,V.int v)::dV ps) _:=r;cases r' with
  |cons r1 r2=>
   cases pr with
   |cons p1 p2 p3=>
    obtain⟨q1,q2⟩:=U9 p3 r2;obtain⟨e1,t1,e2⟩:=r1;rw[<-e1]at p1;obtain⟨t,e3⟩:=Value.isInt_shape (show Value.isInt k _=true from p1);refine⟨?_,?_⟩
    ·refine ReadsAll.cons (as:=[]) ?_ q1;show Reads h (DictEntry.key _) (.int k) [];rw[e3];exact .int _ _
    ·refine ReadsAll.cons (as:=[]) ?_ q2;show Reads h (DictEntry.val _) (.int v) [];rw[p2,e2];exact .int _ _
theorem X3{as:List Addr}{d:Nat}:∀{l:List DictEntry} {vs:List (Key×Value)} {ps:List (Int×Int)},Pairs (yu P w) l vs->KV (dV ps) vs->PyData.showableKv (dD ps)=true ->
  ReprEntriesK P w as h d l (PyData.shownKv (dD ps))
 |_,_,[],pr,r,_=>by
  cases r;cases pr
  show ReprEntriesK P w as h d [] (PyData.shownKv []);rw[PyData.shownKv];exact .nil
 |_,_,(k,v)::ps,pr,r,hs=>by
  have r':KV ((Sum.inl k,V.int v)::dV ps) _:=r;have hs':PyData.showableKv ((.int k,.int v)::dD ps)=true:=hs;rw[PyData.showableKv,PyData.showable,PyData.showable,Bool.and_eq_true,Bool.and_eq_true]at hs';cases r' with
  |cons r1 r2=>
   cases pr with
   |cons p1 p2 p3=>
    obtain⟨e1,t1,e2⟩:=r1;rw[<-e1]at p1;obtain⟨t,e3⟩:=Value.isInt_shape (show Value.isInt k _=true from p1);refine .cons ?_ ?_ (X3 p3 r2 hs'.2)
    ·rw[e3];exact .of_is (ReprIs.int t (of_decide_eq_true hs'.1.1)) _ _ _
    ·rw[p2,e2];exact .of_is (ReprIs.int t1 (of_decide_eq_true hs'.1.2)) _ _ _
theorem zbc:∀ps:List (Int×Int),PyData.depthKv (dD ps)=0
 |[]=>by show PyData.depthKv []=0;rw[PyData.depthKv]
 | (k,v)::ps=>by
  show PyData.depthKv ((.int k,.int v)::dD ps)=0;rw[PyData.depthKv,PyData.depth,PyData.depth,zbc ps];rfl
theorem zaC(ok:HOk P w H h)(e:H a=some (.dK (dV ps))):(a == sysModules)=false/\∃o es n vs,h.get? a=some o/\o.cls=.type "dict"/\o.data=.dict es n/\Pairs (yu P w) es.toList vs/\KV (dV ps) vs:=by
 obtain⟨_,hs,vs,r,o,es,ep,e1,ex,ed,_,pr,_⟩:=ok a _ e;exact⟨hs,o,es,ep,vs,e1,ex.1,ed,pr,r⟩
mutual
theorem Yy(ok:HOk P w H h):∀{d:PyData} {v:V} {u:Value},ThAt H d v->RelV v u->∃as,Reads h u d as
 |.none,v,u,t,r=>by
  rw[ThAt]at t;subst t;have e:u=Value.none:=r;subst e;exact⟨_,.none⟩
 |.bool b,v,u,t,r=>by
  rw[ThAt]at t;subst t;have e:u=Value.bool b:=r;subst e;exact⟨_,.bool b⟩
 |.int i,v,u,t,r=>by
  rw[ThAt]at t;subst t;obtain⟨k,rfl⟩:∃k,u=Value.int i k:=r;exact⟨_,.int i k⟩
 |.str x,v,u,t,r=>by
  rw[ThAt]at t;subst t;obtain⟨k,rfl⟩:∃k,u=Value.str x k:=r;exact⟨_,.str x k⟩
 |.list xs,v,u,t,r=>by
  rw[ThAt]at t;obtain⟨a,ys,rfl,ha,hx⟩:=t;have e:u=Value.ref a:=r;subst e;obtain⟨its,n,rv,ho⟩:=J4 ok ha;obtain⟨as,q⟩:=Ve ok hx rv;exact⟨_,.list ho rfl rfl q⟩
 |.tuple xs,v,u,t,r=>by
  rw[ThAt]at t;obtain⟨a,ys,rfl,ha,hx⟩:=t;have e:u=Value.ref a:=r;subst e;obtain⟨its,o,n,rv,h1,h2,h3⟩:=zac ok ha;obtain⟨as,q⟩:=Ve ok hx rv;exact⟨_,.tuple h1 h2 h3 q⟩
 |.dict kvs,v,u,t,r=>by
  rw[ThAt]at t;obtain⟨hk,a,rfl,ha⟩:=t;generalize unD kvs=ps at hk ha;subst hk;have e:u=Value.ref a:=r;subst e;obtain⟨_,o,es,n,vs,h1,h2,h3,h4,h5⟩:=zaC ok ha;obtain⟨q1,q2⟩:=U9 (h:=h) h4 h5;exact⟨_,.dict h1 h2 h3 q1 q2⟩
theorem Ve(ok:HOk P w H h):∀{ds:List PyData} {ys:List V} {us:List Value},ThsAt H ds ys->Vals ys us->∃as,ReadsAll h us ds as
 |[],ys,us,t,r=>by
  rw[ThsAt]at t;subst t;cases r
  exact⟨_,.nil⟩
 |d::ds,ys,us,t,r=>by
  rw[ThsAt]at t;obtain⟨y,zs,rfl,h1,h2⟩:=t;cases r with
  |cons r1 r2=>
   obtain⟨as,q⟩:=Yy ok h1 r1;obtain⟨bs,q2⟩:=Ve ok h2 r2;exact⟨_,.cons q q2⟩
end
mutual
theorem zeP(ok:HOk P w H h):∀{d:PyData} {v:V} {u:Value},ThAt H d v->RelV v u->d.showable=true->d.shown.length<=sizeLine->∃bs,ReadAtMost h d.depth bs/\ReprK P w bs h d.depth u d.shown
 |.none,v,u,t,r,_,_=>by
  rw[ThAt]at t;subst t;have e:u=Value.none:=r;subst e;exact⟨[],by simp[ReadAtMost],by rw[PyData.shown];exact .of_is ReprIs.none _ _ _⟩
 |.bool b,v,u,t,r,_,_=>by
  rw[ThAt]at t;subst t;have e:u=Value.bool b:=r;subst e;exact⟨[],by simp[ReadAtMost],by rw[PyData.shown];exact .of_is (ReprIs.bool b) _ _ _⟩
 |.int i,v,u,t,r,hs,_=>by
  rw[ThAt]at t;subst t;obtain⟨k,rfl⟩:∃k,u=Value.int i k:=r;rw[PyData.showable]at hs;exact⟨[],by simp[ReadAtMost],by rw[PyData.shown];exact .of_is (ReprIs.int k (of_decide_eq_true hs)) _ _ _⟩
 |.str x,v,u,t,r,_,hz=>by
  rw[ThAt]at t;subst t;obtain⟨k,rfl⟩:∃k,u=Value.str x k:=r;rw[PyData.shown]at hz;exact⟨[],by simp[ReadAtMost],by rw[PyData.shown];exact .of_is (ReprIs.str x k hz) _ _ _⟩
 |.list xs,v,u,t,r,hs,hz=>by
  obtain⟨as,rd⟩:=Yy ok t r;rw[ThAt]at t;obtain⟨a,ys,rfl,ha,hx⟩:=t;have e:u=Value.ref a:=r;subst e;obtain⟨its,n,rv,ho⟩:=J4 ok ha;rw[PyData.showable]at hs;rw[PyData.shown]at hz;obtain⟨bs,hb,hk⟩:=ZD ok hx rv hs λs hsm=>Nat.le_trans (listText_mem_le hsm) hz;have dd:(PyData.list xs).depth=PyData.depthAll xs+1:=by rw[PyData.depth]
  refine⟨a::bs,ReadAtMost.cons rd (by omega) hb,?_⟩;rw[dd,PyData.shown];cases its with
  |nil=>
   cases rv;cases xs with
   |nil=>rw[PyData.shownAll,listText_nil];exact ReprK.listEmpty ho rfl rfl
   |cons _ _=>rw[ThsAt]at hx;obtain⟨_,_,z,_⟩:=hx;cases z
  |cons x l=>exact ReprK.list ho rfl rfl (not_mem_of_deeper rd (by omega) hb) (by rw[hk.length_eq];simp) λi y q=>hk.item i y (by simpa using q)
 |.tuple xs,v,u,t,r,hs,hz=>by
  obtain⟨as,rd⟩:=Yy ok t r;rw[ThAt]at t;obtain⟨a,ys,rfl,ha,hx⟩:=t;have e:u=Value.ref a:=r;subst e;obtain⟨its,o,n,rv,h1,h2,h3⟩:=zac ok ha;rw[PyData.showable]at hs;rw[PyData.shown]at hz;obtain⟨bs,hb,hk⟩:=ZD ok hx rv hs λs hsm=>Nat.le_trans (tupleText_mem_le hsm) hz;have dd:(PyData.tuple xs).depth=PyData.depthAll xs+1:=by rw[PyData.depth]
  refine⟨a::bs,ReadAtMost.cons rd (by omega) hb,?_⟩;rw[dd,PyData.shown];exact ReprK.tuple h1 h2 h3 (not_mem_of_deeper rd (by omega) hb) hk
 |.dict kvs,v,u,t,r,hs,hz=>by
  obtain⟨as,rd⟩:=Yy ok t r;rw[ThAt]at t;obtain⟨hk,a,rfl,ha⟩:=t;generalize unD kvs=ps at hk ha;subst hk;have e:u=Value.ref a:=r;subst e;obtain⟨sy,o,es,n,vs,h1,h2,h3,h4,h5⟩:=zaC ok ha;have dd:(PyData.dict (dD ps)).depth=0+1:=by rw[PyData.depth,zbc]
  rw[PyData.showable]at hs;refine⟨[a],ReadAtMost.cons (d:=.dict (dD ps)) (n:=0) rd (Nat.zero_le _) (by simp[ReadAtMost]),?_⟩;rw[dd,PyData.shown];exact ReprK.dict h1 h2 h3 sy (by simp) (X3 h4 h5 hs)
theorem ZD(ok:HOk P w H h):∀{ds:List PyData} {ys:List V} {us:List Value},ThsAt H ds ys->Vals ys us->PyData.showableAll ds=true->(∀s∈PyData.shownAll ds,s.length<=sizeLine)->∃bs,ReadAtMost h (PyData.depthAll ds) bs/\ReprAllK P w bs h (PyData.depthAll ds) us (PyData.shownAll ds)
 |[],ys,us,t,r,_,_=>by
  rw[ThsAt]at t;subst t;cases r
  exact⟨[],by simp[ReadAtMost],by rw[PyData.shownAll];exact .nil⟩
 |d::ds,ys,us,t,r,hs,hz=>by
  rw[ThsAt]at t;obtain⟨y,zs,rfl,h1,h2⟩:=t;rw[PyData.showableAll,Bool.and_eq_true]at hs;rw[PyData.shownAll]at hz;cases r with
  |cons r1 r2=>
   obtain⟨b1,q1,k1⟩:=zeP ok h1 r1 hs.1 (hz _ (.head _));obtain⟨b2,q2,k2⟩:=ZD ok h2 r2 hs.2 λs hsm=>hz s (.tail _ hsm);have dd:PyData.depthAll (d::ds)=max d.depth (PyData.depthAll ds):=by rw[PyData.depthAll]
   refine⟨b1++b2,(q1.mono (by omega)).append (q2.mono (by omega)),?_⟩;rw[PyData.shownAll];exact .cons ((k1.more λb hb=>List.mem_append_left _ hb).level_le (by omega)) (k2.more_le (λb hb=>List.mem_append_right _ hb) (by omega))
end
end
def zgb:List V->Hp->VK->Prop:=λxs H Q=>Ex2 λv d=>xs=[v]/\ThAt H d v/\d.showable=true/\d.shown.length<=sizeLine/\d.depth<=40/\Q (.str d.shown) H
theorem Qs(hg:X.A.guards=some [])(hu:X.A.units+64<cLine):vg X (.builtin "repr") zgb:=by
 intro pins s Z H xs us Q I r hq;obtain⟨v,d,rfl,t,hs,hz,hd,q⟩:=hq;obtain⟨u,rfl,ru⟩:=vals1 r;obtain⟨as,rd⟩:=Yy I.hok t ru;cases d with
 |none=>
  subst t;have e:=ru;subst e;exact P.repr_of_none ⟨.str "None",H,I.tok _,⟨_,rfl⟩,q⟩
 |bool b=>
  subst t;have e:=ru;subst e;exact P.repr_of_bool ⟨.str _,H,I.tok _,⟨_,rfl⟩,q⟩
 |int i=>
  subst t;obtain⟨k,rfl⟩:∃k,u=Value.int i k:=ru;exact P.repr_of_int (of_decide_eq_true hs) ⟨.str _,H,I.tok _,⟨_,rfl⟩,q⟩
 |str x=>
  subst t;obtain⟨k,rfl⟩:∃k,u=Value.str x k:=ru;exact P.repr_of_str ⟨.str _,H,I.tok _,⟨_,rfl⟩,q⟩ hz
 |list xs=>
  obtain⟨a,ys,rfl,ha,hx⟩:=t;have e:=ru;subst e;obtain⟨its,n,rv,ho⟩:=J4 I.hok ha;rw[PyData.shown]at hz q;obtain⟨bs,hb,hk⟩:=ZD I.hok hx rv hs λs hsm=>Nat.le_trans (listText_mem_le hsm) hz;have dd:(PyData.list xs).depth=PyData.depthAll xs+1:=by rw[PyData.depth]
  refine call_repr_slot (by omega) ⟨_,ho,rfl⟩ PySem.F.slot_list_repr.toG ?_;cases its with
  |nil=>
   cases rv;cases xs with
   |nil=>
    exact call_list_repr_empty ⟨_,ho,rfl⟩ ho rfl ⟨_,_,rfl,.str "[]",H,I.tok _,⟨_,rfl⟩,q⟩
   |cons _ _=>rw[ThsAt]at hx;obtain⟨_,_,z,_⟩:=hx;cases z
  |cons x l=>
   exact call_list_reprK ho rfl rfl (not_mem_of_deeper rd (by omega) hb) (by rw[hk.length_eq];simp) (λi y q=>hk.item i y (by simpa using q)) hg (λb _=>Clear.nil b) (by show X.A.units+1+(PyData.depthAll xs+1)<cLine;omega) (λ_ _ e=>e) (λh' u tk hk=>⟨_,_,rfl,.str _,H,I.kept hk,⟨_,rfl⟩,q⟩) hz
 |tuple xs=>
  obtain⟨a,ys,rfl,ha,hx⟩:=t;have e:=ru;subst e;obtain⟨its,o,n,rv,h1,h2,h3⟩:=zac I.hok ha;obtain⟨bs,hb,hk⟩:=ZD I.hok hx rv hs λs hsm=>Nat.le_trans (tupleText_mem_le hsm) hz;have dd:(PyData.tuple xs).depth=PyData.depthAll xs+1:=by rw[PyData.depth]
  exact call_repr_slot (by omega) ⟨_,h1,h2⟩ PySem.F.slot_tuple_repr (call_tuple_reprK h1 h2 h3 (not_mem_of_deeper rd (by omega) hb) hk hg (λb _=>Clear.nil b) (by show X.A.units+1+(PyData.depthAll xs+1)<cLine;omega) (λ_ _ e=>e) (λh' u tk hk=>⟨_,_,rfl,.str _,H,I.kept hk,⟨_,rfl⟩,q⟩) hz)
 |dict kvs=>
  obtain⟨hk,a,rfl,ha⟩:=t;generalize unD kvs=ps at hk ha;subst hk;have e:=ru;subst e;obtain⟨sy,o,es,n,vs,h1,h2,h3,h4,h5⟩:=zaC I.hok ha;exact call_repr_slot (by omega) ⟨_,h1,h2⟩ PySem.F.slot_dict_repr (call_dict_reprK (as:=[]) h1 h2 h3 sy (by simp) (X3 h4 h5 hs) hg (λb _=>Clear.nil b) (by show X.A.units+1+(0+1)<cLine;omega) (λ_ _ e=>e) (λh' u tk hk=>⟨_,_,rfl,.str _,H,I.kept hk,⟨_,rfl⟩,q⟩) hz)
end L2
namespace L2
open PySem PyProof.Rows
structure Fit (k n:Nat) (d:PyData):Prop where
 ls:d.leavesShort 40=true
 sh:d.showable=true
 dp:d.depth<=k
 wt:d.weight<=n
theorem Fit.shown(f:Fit k n d)(hn:n<=100000):d.shown.length<=sizeLine:=by
 have h:=PyData.shown_le 40 (by decide) d f.ls;have:=f.wt;rw[sizeLine_eq];omega
def Th(H:Hp)(k n:Nat)(v:V):Prop:=∃d,ThAt H d v/\Fit k n d
theorem Th.same(t:Th H k n v)(m:Same H H'):Th H' k n v:=let ⟨d,h,f⟩:=t;⟨d,h.same m,f⟩
theorem Th.le(t:Th H k n v)(hk:k<=k')(hn:n<=n'):Th H k' n' v:=let ⟨d,h,f⟩:=t;⟨d,h,f.ls,f.sh,Nat.le_trans f.dp hk,Nat.le_trans f.wt hn⟩
section
variable {H:Hp} {k n:Nat}
theorem Th.non:Th H k n .non:=⟨.none,by rw[ThAt],by rw[PyData.leavesShort],by rw[PyData.showable],by rw[PyData.depth];exact Nat.zero_le _,by exact Nat.zero_le _⟩
theorem Th.bl:Th H k n (.bl b):=⟨.bool b,by rw[ThAt],by rw[PyData.leavesShort],by rw[PyData.showable],by rw[PyData.depth];exact Nat.zero_le _,by exact Nat.zero_le _⟩
theorem log2_small(h:m<10^30):m.log2<100:=by
 by_cases z:m=0
 ·subst z;decide
 ·exact (Nat.log2_lt z).mpr (Nat.lt_trans h (by decide))
theorem Th.int(h:i.natAbs<10^30)(hn:100<=n):Th H k n (.int i):=by
 refine⟨.int i,by rw[ThAt],?_,?_,by rw[PyData.depth];exact Nat.zero_le _,?_⟩
 ·rw[PyData.leavesShort,PyData.shown];refine decide_eq_true ?_;have:=int_text_length_le10 (by decide) h;rw[PySem.ofString_length];omega
 ·rw[PyData.showable];exact decide_eq_true (Nat.lt_trans (log2_small h) (by decide))
 ·rw[PyData.weight];have:=log2_small h;split<;>omega
theorem Th.str(h:(x.cps.toList.all λc=>decide (c<16^8))=true)(hn:x.cps.size<=n):Th H k n (.str x):=⟨.str x,by rw[ThAt],by rw[PyData.leavesShort];exact h,by rw[PyData.showable],by rw[PyData.depth];exact Nat.zero_le _,by exact hn⟩
theorem Th.emp(h:H a=some (.dK []))(hk:1<=k):Th H k n (.ref a):=⟨.dict [],by exact⟨rfl,a,rfl,h⟩,by rw[PyData.leavesShort,PyData.leavesShortKv],by rw[PyData.showable,PyData.showableKv],by rw[PyData.depth,PyData.depthKv];exact hk,by exact Nat.zero_le _⟩
theorem Ths.of:∀{vs:List V},(∀v∈vs,Th H k n v)->∃ds,ThsAt H ds vs/\PyData.leavesShortAll 40 ds=true/\PyData.showableAll ds=true/\PyData.depthAll ds<=k/\PyData.weightAll ds<=(n+1)*vs.length
 |[],_=>⟨[],by rw[ThsAt],by rw[PyData.leavesShortAll],by rw[PyData.showableAll],by rw[PyData.depthAll];exact Nat.zero_le _,by rw[PyData.weightAll];exact Nat.zero_le _⟩
 |v::vs,h=>by
  obtain⟨d,h1,f⟩:=h v (.head _);obtain⟨ds,g1,g2,g3,g4,g5⟩:=Ths.of λv hv=>h v (.tail _ hv);refine⟨d::ds,by exact⟨_,_,rfl,h1,g1⟩,by rw[PyData.leavesShortAll,f.ls,g2];rfl,by rw[PyData.showableAll,f.sh,g3];rfl,?_,?_⟩
  ·rw[PyData.depthAll];have:=f.dp;omega
  ·rw[PyData.weightAll,List.length_cons,Nat.mul_succ];have:=f.wt;omega
theorem Th.lst(h:H a=some (.lst vs))(t:∀v∈vs,Th H k n v)(hn:(n+1)*vs.length<=n'):Th H (k+1) n' (.ref a):=by
 obtain⟨ds,g1,g2,g3,g4,g5⟩:=Ths.of t;exact⟨.list ds,by exact⟨a,vs,rfl,h,g1⟩,by exact g2,by exact g3,by rw[PyData.depth];omega,by rw[PyData.weight];omega⟩
theorem Th.tup(h:H a=some (.tup vs))(t:∀v∈vs,Th H k n v)(hn:(n+1)*vs.length<=n'):Th H (k+1) n' (.ref a):=by
 obtain⟨ds,g1,g2,g3,g4,g5⟩:=Ths.of t;exact⟨.tuple ds,by exact⟨a,vs,rfl,h,g1⟩,by exact g2,by exact g3,by rw[PyData.depth];omega,by rw[PyData.weight];omega⟩
end
open PySem PySem.Spec PyProof.Rows
def zhJ(t:TS):TS:=λD Z H=>∃P:St->Hp->Prop,t { D with nx:=P } Z H/\∀σ' H',P σ' H'->D.nx σ' H'
theorem zbV{st:Stmt}(h:PS X st t):PS X st (zhJ t):=by
 intro pins s Z H D I hw;obtain⟨P,h1,h2⟩:=hw;refine thn (h pins s Z H _ I h1) λf s1 q=>?_;cases f with
 |next=>obtain⟨σ',H',I',q⟩:=q;exact⟨σ',H',I',h2 _ _ q⟩
 |ret v=>exact q
 |brk=>exact q
 |cont=>exact q
theorem zgt{j}(h:PA X es t):PA X (.Constant (.str x) j pos::es) (Xf (tC (.str x)) t):=zf U8 h rfl
@[irreducible] def PEI (X:Cx) (e:Expr) (t:TE):Prop:=PE X e t
@[irreducible] def PAI (X:Cx) (es:List Expr) (t:TA):Prop:=PA X es t
theorem PEI.o(h:PEI X e t):PE X e t:=by unfold PEI at h;exact h
theorem PAI.o(h:PAI X es t):PA X es t:=by unfold PAI at h;exact h
theorem pei(h:PE X e t):PEI X e t:=by unfold PEI;exact h
theorem pai(h:PA X es t):PAI X es t:=by unfold PAI;exact h
theorem zcT{i j pos}:PEI X (.Constant (.int i) j pos) (tC (.int i)):=pei zm
theorem zaG(h:PAI X es t):PEI X (.List es pos) (zdO t):=pei (yc h.o)
theorem zfH{x1}(h:PAI X es t):PEI X (.Tuple es x1 pos) (zgJ t):=pei (wC h.o)
theorem V1:PAI X [] zbS:=pai zg
theorem zcP{j}(h:PAI X es t):PAI X (.Constant (.str x) j pos::es) (Xf (tC (.str x)) t):=pai (zgt h.o)
theorem vo(ha:PEI X e te)(hr:PAI X es t)(hs:starEach (e::es) X.env=(false,eval e X.env)::starEach es X.env:=by rfl):PAI X (e::es) (Xf te t):=pai (zf ha.o hr.o hs)
theorem zfr{pos' pos:Pos}(hN:X.N.Nodup)(hi:X.N[i]?=some x)(hx:Loc X.env.scope x)(he:PEI X e te)(hs:swapsWith e (some (.Name x pos')) pos.line X.env=pure false:=by rfl)(hf:X.fn x=true\/X.env.scope.names.lookup x=some .local:=by first | exact .inl rfl | exact .inr rfl | assumption):
  PS X (.Assign [.Name x pos'] e pos) (zcf te (X5 i)):=zA hN hi hx he.o hs hf
structure Ty where
 p:Hp->V->Prop
 mo:∀{G G':Hp} {v:V},Same G G'->p G v->p G' v
structure View where
 v:Hp->Hp
 ok:Hp->Prop
 out:∀{H:Hp} {a:Addr} {o:HO},v H a=some o->H a=some o
 new:∀{H:Hp} {p:Addr} (o:HO),ok H->H p=none->ok (upd H p o)/\Same (v H) (v (upd H p o))/\v (upd H p o) p=some o
abbrev Cxt:=List (Option Ty)
def Fits(Γ:Cxt)(G:Hp)(Z:St):Prop:=Z.length=Γ.length/\∀(i:Nat) (T:Ty),Γ[i]?=some (some T)->∃v:V,Z[i]?=some (some v)/\T.p G v
theorem Fits.same(f:Fits Γ G Z)(s:Same G G'):Fits Γ G' Z:=⟨f.1,λi T h=>let ⟨v,e,q⟩:=f.2 i T h;⟨v,e,T.mo s q⟩⟩
theorem Fits.nil:Fits [] G []:=⟨rfl,λi T h=>by simp at h⟩
theorem Fits.cons(q:T.p G v)(f:Fits Γ G Z):Fits (some T::Γ) G (some v::Z):=by
 refine⟨by rw[List.length_cons,List.length_cons,f.1],λi T' h=>?_⟩;cases i with
 |zero=>cases h;exact⟨v,rfl,q⟩
 |succ i=>exact f.2 i T' h
theorem Fits.skip(f:Fits Γ G Z):Fits (none::Γ) G (v::Z):=by
 refine⟨by rw[List.length_cons,List.length_cons,f.1],λi T' h=>?_⟩;cases i with
 |zero=>cases h
 |succ i=>exact f.2 i T' h
def Tp(w:View)(Γ:Cxt)(te:TE)(T:Ty):Prop:=∀Z H Q,w.ok H->Fits Γ (w.v H) Z->(∀v H',w.ok H'->Same (w.v H) (w.v H')->T.p (w.v H') v->Q v H')->te Z H Q
def zgN(k n:Nat):Ty:=⟨λG v=>Th G k n v,λs h=>h.same s⟩
def tyI(lo hi:Int):Ty:=⟨λ_ v=>∃i,v=.int i/\lo<=i/\i<=hi,λ_ h=>h⟩
def ZF(T:Ty)(lo hi:Nat):Ty:=⟨λG v=>∃a vs,v=.ref a/\G a=some (.lst vs)/\lo<=vs.length/\vs.length<=hi/\∀u∈vs,T.p G u,λs ⟨a,vs,h1,h2,h3,h4,h5⟩=>⟨a,vs,h1,s _ _ h2,h3,h4,λu hu=>T.mo s (h5 u hu)⟩⟩
abbrev tyL(k n lo hi:Nat):Ty:=ZF (zgN k n) lo hi
def QX(v:V):Ty:=⟨λ_ u=>u=v,λ_ h=>h⟩
def TpA(w:View)(Γ:Cxt)(ta:TA)(k n m:Nat):Prop:=∀Z H Q,w.ok H->Fits Γ (w.v H) Z->(∀vs H',w.ok H'->Same (w.v H) (w.v H')->vs.length=m->(∀u∈vs,Th (w.v H') k n u)->Q vs H')->ta Z H Q
def TpB(w:View)(Γ:Cxt)(ta:TA)(T:Ty)(m:Nat):Prop:=∀Z H Q,w.ok H->Fits Γ (w.v H) Z->(∀vs H',w.ok H'->Same (w.v H) (w.v H')->vs.length=m->(∀u∈vs,T.p (w.v H') u)->Q vs H')->ta Z H Q
def TpO(w:View)(Γ:Cxt)(to:TO):Prop:=∀Z H Q,w.ok H->Fits Γ (w.v H) Z->(∀o H',w.ok H'->Same (w.v H) (w.v H')->Q o H')->to Z H Q
section
variable {w:View} {Γ:Cxt} {te ta tb:TE} {K:W.Frag} {k n m k' n' m' lo hi lo' hi':Nat} {i j i' j':Int}
theorem Tp.sub(h:Tp w Γ te T)(s:∀G v,T.p G v->T'.p G v):Tp w Γ te T':=λZ H Q o f q=>h Z H Q o f λv H' o' s' t=>q v H' o' s' (s _ _ t)
theorem Tp.var(h:Γ[x]?=some (some T)):Tp w Γ (zfv x) T:=λZ H Q o f q=>let ⟨v,e,t⟩:=f.2 x T h;⟨v,e,q v H o (Same.refl _) t⟩
theorem Tp.int:Tp w Γ (tC (.int i)) (tyI i i):=λZ H Q o f q=>q _ H o (Same.refl _) ⟨i,rfl,Int.le_refl _,Int.le_refl _⟩
theorem Tp.add(ha:Tp w Γ ta (tyI i j))(hb:Tp w Γ tb (tyI i' j')):Tp w Γ (tOp (rI0 λx y=>.int (x+y)) ta tb) (tyI (i+i') (j+j')):=λZ H Q o f q=>ha Z H _ o f λv H1 o1 s1 ⟨x,e1,a1,b1⟩=>hb Z H1 _ o1 (f.same s1) λu H2 o2 s2 ⟨y,e2,a2,b2⟩=>⟨x,y,e1,e2,q _ H2 o2 (s1.trans s2) ⟨_,rfl,by omega,by omega⟩⟩
theorem Tp.subI(ha:Tp w Γ ta (tyI i j))(hb:Tp w Γ tb (tyI i' j')):Tp w Γ (tOp (rI0 λx y=>.int (x-y)) ta tb) (tyI (i-j') (j-i')):=λZ H Q o f q=>ha Z H _ o f λv H1 o1 s1 ⟨x,e1,a1,b1⟩=>hb Z H1 _ o1 (f.same s1) λu H2 o2 s2 ⟨y,e2,a2,b2⟩=>⟨x,y,e1,e2,q _ H2 o2 (s1.trans s2) ⟨_,rfl,by omega,by omega⟩⟩
theorem Tp.neg(ha:Tp w Γ ta (tyI i j)):Tp w Γ (tUn (rU λx=>.int (-x)) ta) (tyI (-j) (-i)):=λZ H Q o f q=>ha Z H _ o f λv H1 o1 s1 ⟨x,e1,a1,b1⟩=>⟨x,e1,q _ H1 o1 s1 ⟨_,rfl,by omega,by omega⟩⟩
theorem Tp.pow(c:zgA x y):Tp w Γ (tOp (rI zgA λi j=>.int (i^j.toNat)) (tC (.int x)) (tC (.int y))) (tyI (x^y.toNat) (x^y.toNat)):=λZ H Q o f q=>⟨x,y,rfl,rfl,c,q _ H o (Same.refl _) ⟨_,rfl,Int.le_refl _,Int.le_refl _⟩⟩
theorem Tp.ofI(h:Tp w Γ te (tyI i j))(h1:-(10^29)<=i:=by decide)(h2:j<=10^29:=by decide):Tp w Γ te (zgN 0 100):=h.sub λG v ⟨x,e,a,b⟩=>by
 rw[e];exact Th.int (by omega) (Nat.le_refl _)
theorem TpA.nil:TpA w Γ zbS 0 0 0:=λZ H Q o f q=>q [] H o (Same.refl _) rfl (by simp)
theorem TpA.cons(h:Tp w Γ te (zgN k n))(ht:TpA w Γ t k' n' m):TpA w Γ (Xf te t) (max k k') (max n n') (m+1):=λZ H Q o f q=>h Z H _ o f λv H1 o1 s1 t1=>ht Z H1 _ o1 (f.same s1) λvs H2 o2 s2 e2 t2=>q (v::vs) H2 o2 (s1.trans s2) (by rw[List.length_cons,e2]) λu hu=>by
 rcases List.mem_cons.mp hu with rfl | hu
 ·exact (t1.same s2).le (Nat.le_max_left _ _) (Nat.le_max_left _ _)
 ·exact (t2 u hu).le (Nat.le_max_right _ _) (Nat.le_max_right _ _)
theorem tW(h:x<=10000):x<=sizeLine:=Nat.le_trans h (by decide)
theorem Tp.lst(h:TpA w Γ t k n m)(hm:m<=10000:=by decide):Tp w Γ (zdO t) (tyL k n m m):=λZ H Q o f q=>h Z H _ o f λvs H1 o1 s1 e1 t1=>⟨tW (by rw[e1];exact hm),λp hp=>by
 obtain⟨o2,s2,e2⟩:=w.new (.lst vs) o1 hp;exact q (.ref p) _ o2 (s1.trans s2) ⟨p,vs,rfl,e2,Nat.le_of_eq e1.symm,Nat.le_of_eq e1,λu hu=>(t1 u hu).same s2⟩⟩
theorem TpO.some(h:Tp w Γ te (tyI i j)):TpO w Γ (zcz te):=λZ H Q o f q=>h Z H _ o f λv H1 o1 s1 ⟨x,e,_⟩=>⟨x,e,q _ H1 o1 s1⟩
theorem zaY(vs:List V)(lo hi:Option Int):(∀v∈uQ vs lo hi,v∈vs)/\(uQ vs lo hi).length<=vs.length:=by
 unfold uQ;refine⟨λv hv=>List.mem_of_mem_drop (List.mem_of_mem_take hv),?_⟩;rw[List.length_take,List.length_drop];omega
theorem Tp.sl(h:Tp w Γ te (ZF T lo hi))(hl:TpO w Γ tl)(hu:TpO w Γ tu):Tp w Γ (tSl (zeg K) te tl tu) (ZF T 0 hi):=λZ H Q o f q=>h Z H _ o f λv H1 o1 s1 t1=>hl Z H1 _ o1 (f.same s1) λx H2 o2 s2=>hu Z H2 _ o2 ((f.same s1).same s2) λy H3 o3 s3=>by
 obtain⟨a,vs,e1,g1,l1,m1,r1⟩:=(ZF T lo hi).mo (s2.trans s3) t1;refine⟨a,vs,e1,SqL.of (w.out g1),λp hp=>?_⟩;obtain⟨o4,s4,e4⟩:=w.new (.lst (uQ vs x y)) o3 hp;exact q (.ref p) _ o4 (s1.trans (s2.trans (s3.trans s4))) ⟨p,_,rfl,e4,Nat.zero_le _,Nat.le_trans (zaY vs x y).2 m1,λu hu=>T.mo s4 (r1 u ((zaY vs x y).1 u hu))⟩
theorem Tp.catT(ha:Tp w Γ ta (ZF T lo hi))(hb:Tp w Γ tb (ZF T lo' hi'))(hm:hi+hi'<=10000:=by first | decide | omega):Tp w Γ (tOp zgX ta tb) (ZF T (lo+lo') (hi+hi')):=λZ H Q o f q=>ha Z H _ o f λv H1 o1 s1 t1=>hb Z H1 _ o1 (f.same s1) λu H2 o2 s2 t2=>by
 obtain⟨a,vs,e1,g1,l1,m1,r1⟩:=(ZF T lo hi).mo s2 t1;obtain⟨b,us,e2,g2,l2,m2,r2⟩:=t2;refine⟨a,b,vs,us,e1,e2,w.out g1,w.out g2,tW (Nat.le_trans (Nat.add_le_add m1 m2) hm),λp hp=>?_⟩;obtain⟨o3,s3,e3⟩:=w.new (.lst (vs++us)) o2 hp;refine q (.ref p) _ o3 (s1.trans (s2.trans s3)) ⟨p,_,rfl,e3,by rw[List.length_append];omega,by rw[List.length_append];omega,λx hx=>?_⟩;rcases List.mem_append.mp hx with hx | hx
 ·exact T.mo s3 (r1 x hx)
 ·exact T.mo s3 (r2 x hx)
theorem TpB.nil:TpB w Γ zbS T 0:=λZ H Q o f q=>q [] H o (Same.refl _) rfl (by simp)
theorem TpB.cons(h:Tp w Γ te T)(ht:TpB w Γ t T m):TpB w Γ (Xf te t) T (m+1):=λZ H Q o f q=>h Z H _ o f λv H1 o1 s1 t1=>ht Z H1 _ o1 (f.same s1) λvs H2 o2 s2 e2 t2=>q (v::vs) H2 o2 (s1.trans s2) (by rw[List.length_cons,e2]) λu hu=>by
 rcases List.mem_cons.mp hu with rfl | hu
 ·exact T.mo s2 t1
 ·exact t2 u hu
theorem Tp.lstT(h:TpB w Γ t T m)(hm:m<=10000:=by decide):Tp w Γ (zdO t) (ZF T m m):=λZ H Q o f q=>h Z H _ o f λvs H1 o1 s1 e1 t1=>⟨tW (by rw[e1];exact hm),λp hp=>by
 obtain⟨o2,s2,e2⟩:=w.new (.lst vs) o1 hp;exact q (.ref p) _ o2 (s1.trans s2) ⟨p,vs,rfl,e2,Nat.le_of_eq e1.symm,Nat.le_of_eq e1,λu hu=>T.mo s2 (t1 u hu)⟩⟩
end
def TpS(w:View)(Γ:Cxt)(ts:TS)(Γ':Cxt)(T:Ty):Prop:=∀D Z H,w.ok H->Fits Γ (w.v H) Z->(∀σ' H',w.ok H'->Same (w.v H) (w.v H')->Fits Γ' (w.v H') σ'->D.nx σ' H')->(∀v H',w.ok H'->Same (w.v H) (w.v H')->T.p (w.v H') v->D.rt v H')->ts D Z H
section
variable {w:View} {Γ Γ1 Γ2:Cxt} {te:TE} {t u:TS} {T T1:Ty}
theorem TpS.ret(h:Tp w Γ te T):TpS w Γ (zg0 te) Γ2 T:=λD Z H o f qn qr=>h Z H _ o f qr
end
theorem Tp.asg2(h:Tp w Γ te T1)(o:w.ok H)(f:Fits Γ (w.v H) Z)(q:∀v H',w.ok H'->Same (w.v H) (w.v H')->T1.p (w.v H') v->u D (Z.set i (some v)) H'):Uy (zcf te (X5 i)) u D Z H:=h Z H _ o f q
theorem Fits.any:∀{G:Hp} (Z:St),Fits (Z.map λ_=>none) G Z:=λ{G} Z=>⟨by rw[List.length_map],λi T h=>by rw[List.getElem?_map]at h;cases e:Z[i]? with | none=>rw[e]at h;cases h | some x=>rw[e]at h;cases h⟩
def uw(vs:List V):Ty:=⟨λG v=>∃a,v=.ref a/\G a=some (.lst vs),λs ⟨a,e,h⟩=>⟨a,e,s _ _ h⟩⟩
def tyX(e C:Addr):Ty:=⟨λG v=>v=.ref e/\G e=some (VJ e C),λs h=>⟨h.1,s _ _ h.2⟩⟩
def idV:View:=⟨id,λ_=>True,λh=>h,λo _ h=>⟨trivial,zr h,zp⟩⟩
def TpE(w:View)(Γ:Cxt)(ta:TA)(vs:List V):Prop:=∀Z H Q,w.ok H->Fits Γ (w.v H) Z->(∀H',w.ok H'->Same (w.v H) (w.v H')->Q vs H')->ta Z H Q
section
variable {w:View} {Γ:Cxt} {te ta tb:TE} {K:W.Frag} {vs us:List V}
theorem TpE.nil:TpE w Γ zbS []:=λZ H Q o f q=>q H o (Same.refl _)
theorem TpE.cons(h:Tp w Γ te (QX v))(ht:TpE w Γ t vs):TpE w Γ (Xf te t) (v::vs):=λZ H Q o f q=>h Z H _ o f λu H1 o1 s1 e1=>ht Z H1 _ o1 (f.same s1) λH2 o2 s2=>by
 rw[show u=v from e1];exact q H2 o2 (s1.trans s2)
theorem Tp.lstE(h:TpE w Γ t vs)(hm:vs.length<=10000:=by first | decide | simp):Tp w Γ (zdO t) (uw vs):=λZ H Q o f q=>h Z H _ o f λH1 o1 s1=>⟨tW hm,λp hp=>by
 obtain⟨o2,s2,e2⟩:=w.new (.lst vs) o1 hp;exact q (.ref p) _ o2 (s1.trans s2) ⟨p,rfl,e2⟩⟩
theorem Tp.catE(ha:Tp w Γ ta (uw vs))(hb:Tp w Γ tb (uw us))(hm:vs.length+us.length<=10000:=by first | decide | simp):Tp w Γ (tOp zgX ta tb) (uw (vs++us)):=λZ H Q o f q=>ha Z H _ o f λv H1 o1 s1 t1=>hb Z H1 _ o1 (f.same s1) λu H2 o2 s2 t2=>by
 obtain⟨a,e1,g1⟩:=(uw vs).mo s2 t1;obtain⟨b,e2,g2⟩:=t2;refine⟨a,b,vs,us,e1,e2,w.out g1,w.out g2,tW hm,λp hp=>?_⟩;obtain⟨o3,s3,e3⟩:=w.new (.lst (vs++us)) o2 hp;exact q (.ref p) _ o3 (s1.trans (s2.trans s3)) ⟨p,rfl,e3⟩
theorem Tp.isiC(hx:Γ[x]?=some (some (tyX e C)))(i:zag K C)(k:W.kitOne K (.ref C) (.ref N)=some b):Tp w Γ (tCB (zdQ K) (Xf (zfv x) (Xf (tC (.ref N)) zbS))) (QX (.bl b)):=λZ H Q o f q=>by
 obtain⟨v,ev,rfl,he⟩:=f.2 x _ hx;exact⟨_,ev,e,C,_,_,_,rfl,rfl,(λ_ h=>h),w.out he,i,k,q _ H o (Same.refl _) rfl⟩
end
structure Sq (X:Cx) (l:List Stmt) where
 t:TS
 p:PSs X l t
def sbs:Stmt->Bool->List Stmt
 |.For _ _ b _ _,true=>b
 |.While _ b _ _,true=>b
 |.If _ b _ _,true=>b
 |.If _ _ b _,false=>b
 |_,_=>[]
def sb(l:List Stmt)(i:Nat)(k:Bool):List Stmt :=
 match l.drop i with
 |s::_=>sbs s k
 |[]=>[]
theorem xO(h:let Y:=X;∃t,PSs Y l t/\t D Z H):∃t,PSs X l t/\t D Z H:=h
theorem zbh(h:H l=none)(e:upd H l o=G):Same H G/\G l=some o:=by
 subst e;exact⟨λb u q=>by rw[zB (zK q h)];exact q,zp⟩
end L2
namespace PySem.W.Fast
def tw6833473169795034849:=0
def tw16036981699228825984:=0
def tw16354722307845254066:=0
def tw9369800993969630944:=0
def tw11456390580832356740:=0
def tw7472110951972259412:=0
def tw13846139555026921387:=0
def tw4103973839823910116:=0
def tw11152984144509095556:=0
def tw2428413363328682450:=0
def tw5265905005190593253:=0
def tw1189471200766678512:=0
def tw3447082773850724599:=0
def tw11650044036974650396:=0
def tw3780618905793540629:=0
def tw17841817096024326970:=0
def tw2488223613629269510:=0
def tw2098542243954579842:=0
def tw4577758479741161560:=0
def tw5890956038834153501:=0
def tw473174704629985892:=0
def tw4966696847080561091:=0
def tw4336038587506904565:=0
def tw5906446465793183191:=0
def tw15636728378822745494:=0
def tw14500316764350008352:=0
def tw8885957541863590755:=0
def tw2229526368433466063:=0
def tw14042091246240734496:=0
def tw3639865448224286267:=0
def tw5651273591637242542:=0
def tw17039373336724566370:=0
def tw16352215583828128588:=0
def tw2463717307207869121:=0
def tw14334795987078132630:=0
def tw16520368197192980467:=0
def tw2620070668959829611:=0
def tw1686489863653340499:=0
def tw7774726875632868005:=0
def tw2370317636444620734:=0
def tw15839256440205783533:=0
def tw17600849872651314351:=0
def tw2246302578581828743:=0
def tw3770186190474316965:=0
def tw17690112911739232189:=0
def tw15278708227718568661:=0
def tw7953027390858623896:=0
def tw6180506562623045459:=0
def tw17075886893061443925:=0
def tw9466198331178848005:=0
def tw9119452483113719722:=0
def tw4501869125437128000:=0
def tw7331440654105252131:=0
def tw6186443676809252390:=0
def tw6798448893617493502:=0
def tw16805006392330047141:=0
def tw865085607555905026:=0
def tw6702609794419446281:=0
def tw12537300668759919596:=0
def tw3461751637357344646:=0
def tw1377995819997267228:=0
def tw11381326392220488801:=0
def tw4688598323467519781:=0
def tw5227794863104786939:=0
def tw335040576006817549:=0
def tw411927450438527656:=0
def tw9368054703068769427:=0
def tw6690583415063013267:=0
def tw8835463143620798155:=0
def tw9593961590521415613:=0
def tw599710526451608745:=0
def tw203418217884576782:=0
def tw9668922494916401626:=0
def tw5002054210222138202:=0
def tw16084860007174346901:=0
def tw9819096280721813195:=0
def tw4281575869602364512:=0
def tw3204323459308804262:=0
def tw11033413321708596584:=0
def tw17049778897492289451:=0
def tw12198126630535777536:=0
def tw10072491218750129616:=0
def tw2532141496747877028:=0
def tw3640398317026721999:=0
def tw17279279467971798119:=0
def tw16941671669493026482:=0
def tw10322558268634240831:=0
def tw15676754762634490295:=0
def tw2400924974904592242:=0
def tw6865126674161773614:=0
def tw11288809338283623181:=0
def tw4126685408669649946:=0
def tw1030290539798726806:=0
def tw11080588606661609900:=0
def tw14631080241868999786:=0
def tw643255301383691011:=0
def tw12060632656985441427:=0
def tw5365556930573933942:=0
def tw11155210199205531699:=0
def tw10532509952114025104:=0
def tw6284873240432806302:=0
def tw928686008352278966:=0
def tw7041062172667852818:=0
def tw15144075335751032513:=0
def tw8511158060735708996:=0
def tw937410057927620686:=0
def tw10792538869738378763:=0
def tw8781449650515825373:=0
def tw31077365895873399:=0
def tw7369514625054316208:=0
def tw6713580802805642698:=0
def tw2952986112640722766:=0
def tw11098155746672766838:=0
def tw16730274881071503762:=0
def tw16134728596608408503:=0
def tw12121893132908451529:=0
def tw1518014723276180766:=0
def tw14736331986493235230:=0
def tw2572005494831239340:=0
def tw14036356729189570825:=0
def tw4621027117602002397:=0
def tw16994519296791688374:=0
def tw17639881734759323630:=0
def tw13620166223835363518:=0
def tw16812170873897242206:=0
def tw14649511336894776269:=0
def tw1952529771148383951:=0
def tw1531325465860397770:=0
def tw662036281314769091:=0
def tw1666443622140911278:=0
def tw14441056799754489308:=0
def tw4630575641031550165:=0
def tw1693936455990138042:=0
def tw10316691323572572522:=0
def tw5186365769473943092:=0
def tw11246315387506035361:=0
def tw4426877894087128641:=0
def tw11667935789085635737:=0
def tw17550132949988329304:=0
def tw5348648290648987690:=0
def tw3563559179696583579:=0
def tw13602444758873169278:=0
def tw15510757370378311044:=0
def tw2495689457121992286:=0
def tw8209657849766762955:=0
def tw5968059140824572244:=0
def tw11034694184194713869:=0
def tw4358574001200006866:=0
def tw4937614674777724296:=0
def tw1140496045126008529:=0
def tw5825048471949334819:=0
def tw4948939703701362597:=0
def tw9947297142821740930:=0
def tw6791197917295919029:=0
def tw16509756048909151404:=0
def tw17182214703132173614:=0
def tw12777288727034018285:=0
def tw10401960547548716606:=0
def tw17204260742340279783:=0
def tw1226603570107718962:=0
def tw17907716918856909363:=0
def tw8014157482499880378:=0
def tw11678800725805919492:=0
def tw9607953176262698778:=0
def tw1989784975136906777:=0
def tw10642614417745516799:=0
def tw6217959921836269695:=0
def tw8836913553324284223:=0
def tw11402129392105235973:=0
def tw2949138496507164464:=0
def tw17582224933789199525:=0
def tw11176254468156777090:=0
def tw4806481479508007729:=0
def tw10549028935075224371:=0
def tw17243838068195373843:=0
def tw4876576936681776851:=0
def tw2207490804140758371:=0
def tw13396146853028545651:=0
def tw108995012970170163:=0
def tw12988191505070185162:=0
def tw1727390021922353652:=0
def tw10112100955971461148:=0
def tw17851200913271221681:=0
def tw16492431722598320520:=0
def tw9613462664570186736:=0
def tw14506082592619210626:=0
def tw1706574766098597244:=0
def tw11681714497313193450:=0
def tw15451933350173697288:=0
def tw208116157817617487:=0
def tw18371586942506059332:=0
def tw12802352891771632650:=0
def tw2977791823192945601:=0
def tw9840851077172753509:=0
def tw4782859339002078003:=0
def tw2136651225467112553:=0
def tw15684420370975700101:=0
def tw1384373113173836844:=0
def tw9857150185330497335:=0
def tw3019682120778670266:=0
def tw9742095155359492609:=0
def tw3494546678301321093:=0
def tw13505364599857970786:=0
def tw12738851651982294628:=0
def tw3170468453839168153:=0
def tw6307825255712162413:=0
def tw10364672443624306380:=0
def tw6510002994259778516:=0
def tw13347261755958124565:=0
def tw6237749258632200528:=0
def tw2111988478516103039:=0
def tw7342730050818210875:=0
def tw6155431596104324998:=0
def tw10688978287895125875:=0
def tw18263876915894216604:=0
def tw13278333279160788729:=0
def tw5961668839973826978:=0
def tw9132596124180026655:=0
def tw13422322143680163429:=0
def tw4662967618471375805:=0
def tw2182903498578764915:=0
def tw7378220302153476508:=0
def tw16583680711723316972:=0
def tw13824531249461826789:=0
def tw6365692197237718712:=0
def tw15145386191342204694:=0
def tw6764048767934400179:=0
def tw10755498912176714344:=0
def tw1181509324903001617:=0
def tw1206545872341453797:=0
def tw16320067753488418562:=0
def tw8591168309847938898:=0
def tw2010174158567826227:=0
def tw11937149846892363071:=0
def tw8950391094801377044:=0
def tw9956555974080017204:=0
def tw6760567760514916645:=0
def tw11110932149939006687:=0
def tw2893230691821234854:=0
def tw1158647860242114323:=0
def tw10322843193717984874:=0
def tw9995275544960814625:=0
def tw3864273886728109119:=0
def tw14610017350911316252:=0
def tw13735804827977613525:=0
def tw5569134097339926965:=0
def tw12254680810989484704:=0
def tw6541183817709578971:=0
def tw4809666249281010637:=0
def tw5978863693285256126:=0
def tw1092695789483014391:=0
def tw10413953764683844560:=0
def tw17848484824698581967:=0
def tw14716493736133309259:=0
def tw7597930419636798844:=0
def tw7959307440364575550:=0
def tw10065694263782849696:=0
def tw14531778535472211195:=0
def tw13782353726362211550:=0
def tw11923831367774988989:=0
def tw12820114809315052863:=0
def tw9126645594211635428:=0
def tw7120528769863924173:=0
def tw11609523575720079717:=0
def tw372450439996424318:=0
def tw8648201604712938617:=0
def tw2933441717725072939:=0
def tw16947589582553083966:=0
def tw16980786115776790848:=0
def tw18345726951086819169:=0
def tw2943199449766189470:=0
def tw10461488491766626888:=0
def tw5702860561856554536:=0
def tw7456048082065168762:=0
def tw11828564085931402924:=0
def tw3177244916928952713:=0
def tw17939330533769189294:=0
def tw13305492360114439626:=0
def tw1478591267678189184:=0
def tw11565736330099042523:=0
def tw8114255399675799415:=0
def tw14720863775658033914:=0
def tw10232669481857591017:=0
def tw15474434480156405008:=0
def tw7585145991043510879:=0
def tw8810509344774939620:=0
def tw11339053077013406399:=0
def tw6543045287018141678:=0
def tw14975723436948070357:=0
def tw2011817685958036999:=0
def tw10297780330624459608:=0
def tw10379303871314532632:=0
def tw10730371155903435407:=0
def tw1513073794107756074:=0
def tw11799585538802828918:=0
def tw4473194404861602892:=0
def tw5141676119021565744:=0
def tw14790721299711520901:=0
def tw17704312084219449444:=0
def tw10722190094815375733:=0
def tw2376687082761938876:=0
def tw4623325089181025763:=0
def tw8654463675164601601:=0
def tw17419610360547184717:=0
def tw2907618183704188787:=0
def tw11148972877566509318:=0
def tw16969998429182731365:=0
def tw1720617601811059452:=0
def tw15437795288574453704:=0
def tw11927940405831744421:=0
def tw908535559286806445:=0
def tw10283412109836859534:=0
def tw13776161968823762115:=0
def tw16979886627274078015:=0
def tw10585260576612690490:=0
def tw1570201179628347987:=0
def tw297784589150403598:=0
def tw7769311195810277055:=0
def tw7659828440746623101:=0
def tw16167029500057792199:=0
def tw3952876900053820729:=0
def tw17575343190532131712:=0
def tw9317017668400647806:=0
def tw15589983905840147721:=0
def tw10006592532206642643:=0
def tw5415531305506404433:=0
def tw14090429881301191661:=0
def tw15395108864671488945:=0
def tw5089522120856388213:=0
def tw8831073689966990930:=0
def tw13225716516269528570:=0
def tw16094481246788972088:=0
def tw16554477279791384788:=0
def tw960561248662853122:=0
def tw14453816447785064552:=0
def tw15648258940345916062:=0
def tw1787199899725243721:=0
def tw12636729305885511041:=0
def tw16043483892158289938:=0
def tw12045989315347010323:=0
def tw4406380172939140571:=0
def tw3778097826692417848:=0
def tw13969804004433690429:=0
def tw2175716106759439265:=0
def tw8926632804031711558:=0
def tw12192941292431776565:=0
def tw17357399385030917412:=0
def tw4855333060950900020:=0
def tw1169718911033283304:=0
def tw16597561235387939011:=0
def tw9020890113166650399:=0
def tw9656577494625912391:=0
def tw13381357548401269691:=0
def tw14807459240709967911:=0
def tw10877509528173375074:=0
def tw13500150904655474983:=0
def tw13274475147346296903:=0
def tw11093500612384317721:=0
def tw11933794584548846219:=0
def tw1261545561768721946:=0
def tw12795012783162773069:=0
def tw2169336302283624487:=0
def tw18299928134571090639:=0
def tw11439054650948882033:=0
def tw17833164477030864538:=0
def tw7680561624753653774:=0
def tw7272575329073034321:=0
def tw984941088212582629:=0
def tw12718130789886389677:=0
def tw69766987329873105:=0
def tw16741795527310459059:=0
def tw5823703171473534072:=0
def tw12487895421272808189:=0
def tw5113326587521284396:=0
def tw17724208682402911517:=0
def tw4827015519369570520:=0
def tw1353949583420557430:=0
def tw7317200152679901891:=0
def tw8845309856751053042:=0
def tw16084173572920580427:=0
def tw2690612602196503354:=0
def tw17534468662135959042:=0
def tw13554064504781878736:=0
def tw2186237334217263646:=0
def tw11185846726835145420:=0
def tw5651191192284807083:=0
def tw9730125671359746273:=0
def tw3700651997903816179:=0
def tw11154824380532364952:=0
def tw14638912662478413028:=0
def tw3232657486654210479:=0
def tw14804052219457027373:=0
def tw1112083005760981595:=0
def tw13436148335009098528:=0
def tw15678138758877084626:=0
def tw13119143911122039726:=0
def tw9640503042288654148:=0
def tw16722776413317990666:=0
def tw9154259023277016675:=0
def tw13159734113505812082:=0
def tw3663212128819201239:=0
def tw2487730955278458405:=0
def tw13471982427040148348:=0
def tw12730667340481570753:=0
def tw12853182985370280316:=0
def tw17701164884755480476:=0
def tw17098483383299695520:=0
def tw4080227838512726924:=0
def tw3754016138870513708:=0
def tw12133329366363753506:=0
def tw11053601639086648961:=0
def tw17515705741884891265:=0
def tw13313778094710452746:=0
def tw15795030198293006187:=0
def tw3340975168824706925:=0
def tw6854036510895171033:=0
def tw4719348001152712534:=0
def tw5767481731517720578:=0
def tw8351007162532743477:=0
def tw9652167812256049146:=0
def tw12347660366484079678:=0
def tw2434862456148358629:=0
def tw5442755320358188678:=0
def tw1346859190057408064:=0
def tw7181294012377004695:=0
def tw13933856277344663262:=0
def tw16098777963191145272:=0
def tw6539584284377116115:=0
def tw3979618754527064491:=0
def tw1996586067383157236:=0
def tw9772312814243669883:=0
def tw6516588445248251174:=0
def tw17614212646920477439:=0
def tw4283067779782433696:=0
def tw2251908717479728985:=0
def tw4788044027486136761:=0
def tw10691150903340601595:=0
def tw8515577685605080067:=0
def tw3717193382622972243:=0
def tw15697054128983388674:=0
def tw7400370369545813284:=0
def tw4670092512045833523:=0
def tw17784064179019237302:=0
def tw17045559673964461779:=0
def tw2057466097268385329:=0
def tw14536734712630310592:=0
def tw126984570382225869:=0
def tw15502527051695415998:=0
def tw15169036931578299019:=0
def tw17959066453357140023:=0
def tw5919115299331177132:=0
def tw10257698294941714146:=0
def tw8979562026995040152:=0
def tw12191570943089095984:=0
def tw3231557405948474488:=0
def tw3455128275344793602:=0
def tw15535873858379492201:=0
def tw11308456064933359312:=0
def tw992835852123348092:=0
def tw7790729074018833687:=0
def tw10859540155881956451:=0
def tw15741703779220769757:=0
def tw13852063034580950217:=0
def tw11469803267239696198:=0
def tw13032592034307055359:=0
def tw3081306830284153040:=0
def tw946362524773024138:=0
def tw5186302153784986092:=0
def tw2154603809837230905:=0
def tw11178348757862993716:=0
def tw15754838663981814357:=0
def tw14494827875479963721:=0
def tw3582126715813677403:=0
def tw9792918836814107390:=0
def tw3199464177703302457:=0
def tw16521431562216920142:=0
def tw15905008109023249078:=0
def tw9832252753331977567:=0
def tw3917775540954728287:=0
def tw2763306686661052426:=0
def tw17431547316119938459:=0
def tw14775941767266585907:=0
def tw14879631846943966138:=0
def tw508266439358794686:=0
def tw17216828151416457325:=0
def tw17279955628191660319:=0
def tw3769367352497794518:=0
def tw16457353778204924225:=0
def tw12822425526607380251:=0
def tw6188258958617753301:=0
def tw15599456244822730660:=0
def tw7684239663818295403:=0
def tw7077984305582204024:=0
def tw1509106123664259879:=0
def tw1043324554822780400:=0
def tw6583606979306831182:=0
def tw17266663278319207351:=0
def tw18176536688306207997:=0
def tw12340434269011988589:=0
def tw8703314529100528842:=0
def tw5810726175915739186:=0
def tw12387445362018214266:=0
def tw5741729766494022290:=0
def tw15927297258374930849:=0
def tw10758714577148467284:=0
def tw2401209917113680814:=0
def tw13585580508280827358:=0
def tw15978489975708479070:=0
def tw13144962047700986704:=0
def tw17968464249253919057:=0
def tw2042645856581822591:=0
def tw780171021448415202:=0
def tw8662203601141053657:=0
def tw4164092226202914891:=0
def tw9656914259605179167:=0
def tw15014852817355695522:=0
def tw14772927002451171762:=0
def tw5504669407385086096:=0
def tw16858151343830743754:=0
def tw11295637975924129772:=0
def tw18285059587193553664:=0
def tw16400633901966847388:=0
def tw13422839174794244592:=0
def tw9148985029622153163:=0
def tw18192030412532266741:=0
def tw16606398423598915495:=0
def tw17318253180658596519:=0
def tw18002760292338553615:=0
def tw1874954366187305510:=0
def tw11991205258803988510:=0
def tw6599556426197104470:=0
def tw7462486753744504195:=0
def tw12343300220310269467:=0
def tw12820156703369873754:=0
def tw16043524986701773992:=0
def tw13275985157783625963:=0
def tw11530434158305912893:=0
def tw2805630862426723647:=0
def tw472350896916715712:=0
def tw7186556864826294056:=0
def tw11762343518389859771:=0
def tw5411677709763408269:=0
def tw1809367166666488961:=0
def tw18036029070276929511:=0
def tw17143307898223751051:=0
def tw7716367407653365970:=0
def tw1548123049419520290:=0
def tw1303185265294483413:=0
def tw1740355481526181862:=0
def tw7698502346981895625:=0
def tw6086598528543276606:=0
def tw9272962272811597341:=0
def tw9050712369667244818:=0
def tw10535173875171174860:=0
def tw12978477138969279401:=0
def tw7985413912541716042:=0
def tw17029981939008971973:=0
def tw8284692602389204776:=0
def tw4347094622264558177:=0
def tw9315404016005339526:=0
def tw14343360105118396318:=0
def tw4535940298448517384:=0
def tw5849443497677333750:=0
def tw13446277783555889904:=0
end PySem.W.Fast
namespace Lw
open PySem L2 PyProof.Rows
def top(i:Nat):Stmt:=PySem.Challenge.pw_lackstretch_k14_places_of_good_ones.main.body.getD i (.Pass ⟨0,0,0,0⟩)
abbrev wG:Stmt:=top 21
abbrev uO:Stmt:=top 22
abbrev ZJ:Stmt:=top 23
abbrev j5:Stmt:=top 24
abbrev vA:Stmt:=top 25
abbrev vz:Stmt:=top 26
abbrev jg:Stmt:=top 27
abbrev qG:Stmt:=top 28
abbrev vD:Stmt:=top 29
abbrev Zn:Stmt:=top 30
abbrev tQ:Stmt:=top 31
abbrev tU:Stmt:=top 32
abbrev ud:Stmt:=top 33
abbrev wg:Stmt:=top 34
abbrev wW:Stmt:=top 35
abbrev tO:Stmt:=top 36
abbrev wX:Stmt:=top 37
abbrev Zm:Stmt:=top 38
abbrev tE:Stmt:=top 40
abbrev xY:Stmt:=top 41
abbrev yD:Stmt:=top 42
abbrev wO:Stmt:=top 44
abbrev tG:Stmt:=top 45
abbrev uM:Stmt:=top 46
abbrev yR:Stmt:=inClass (top 47) 0
abbrev wF:Stmt:=inClass (top 47) 1
abbrev xZ:Stmt:=inClass (top 47) 2
abbrev wY:Stmt:=inClass (top 47) 3
abbrev yj:Stmt:=inClass (top 47) 4
abbrev ux:Stmt:=top 49
abbrev uB:Stmt:=top 50
abbrev wZ:Stmt:=top 53
abbrev ur:Stmt:=top 54
abbrev zU:Stmt:=top 56
abbrev wB:Stmt:=top 57
abbrev yK:Stmt:=top 58
abbrev uI:Stmt:=top 59
abbrev yL:Stmt:=top 60
abbrev yw:Stmt:=top 61
abbrev xV:Stmt:=top 62
abbrev ut:Stmt:=top 63
abbrev zW:Stmt:=top 64
abbrev xm:Stmt:=top 65
abbrev yo:Stmt:=top 66
abbrev xN:Stmt:=top 67
abbrev yd:Stmt:=top 68
abbrev yf:Stmt:=top 69
abbrev uF:Stmt:=top 70
abbrev tK:Stmt:=top 71
abbrev yq:Stmt:=top 72
abbrev yI:Stmt:=top 73
abbrev zX:Stmt:=top 74
abbrev qK:Stmt:=top 75
abbrev uJ:Stmt:=top 76
section
variable {P:Program} {w:World} {K:W.Frag} {mg:Str->Option Value} {base:Heap}
def jP:Sp:=λvs H Q _=>∃i:Int,vs=[.int i]/\Q (.bl true) H
theorem Vm:zF ["thing"] ["thing"] (zx wG):={}
theorem YF(D:Df K mg "is_whole" wG Aa f fd)(T:Blt mg):FnOk P w K mg base CX0 1 f fd Aa jP:=by
 refine D.fn.ok Vm (λvs H Q E h=>?_) (λcdv A outer s H vs Q E hr h=>?_)
 ·obtain⟨i,rfl,_⟩:=h;rfl
 ·obtain⟨i,rfl,q⟩:=h;refine⟨_,(zu (zG (ql (zz Yp (by rfl) T.n_isinstance boot_isinstance (zf (pv 0) (zf (ue (v:=.ty "int") rfl T.n_int boot_int rfl) zg))) (qd (zaq (zz Yp (by rfl) T.n_isinstance boot_isinstance (zf (pv 0) (zf (ue (v:=.ty "bool") rfl T.n_bool boot_bool rfl) zg)))))))),?_⟩;refine⟨_,rfl,_,_,_,_,rfl,.int i,qL,_,rfl,xU ?_⟩;refine⟨_,rfl,_,_,_,_,rfl,.int i,tL,_,rfl,?_⟩;exact q
def XQ:Sp:=λvs H Q _=>∃i:Int,vs=[.int i]/\Q (.bl (decide (2<=i/\i<=16))) H
theorem zbZ:zF ["thing"] ["thing"] (zx ZJ):={}
theorem zbR(D:Df K mg "is_base" ZJ Aa f fd)(yr:Df K mg "is_whole" wG Aa f1 fd1)(T:Blt mg)(Z7:mg "LEAST_BASE"= some (.int 2 t1))(qR:mg "GREATEST_BASE"= some (.int 16 t2)):
  FnOk P w K mg base CX0 2 f fd Aa XQ:=by
 have tV:FnOk P w K mg base CX0 1 f1 fd1 Aa jP:=YF yr T;refine D.fn.ok zbZ (λvs H Q E h=>?_) (λcdv A outer s H vs Q E hr h=>?_)
 ·obtain⟨i,rfl,_⟩:=h;rfl
 ·obtain⟨i,rfl,q⟩:=h;refine⟨_,(zu (zG (ql (zE yr tV (hr.mono (by decide)) (zf (pv 0) zg)) (qd (V2 Qn Qn (xK (v:=.int 2) rfl Z7 ⟨_,rfl⟩) (pv 0) (xK (v:=.int 16) rfl qR ⟨_,rfl⟩)))))),?_⟩;refine⟨_,rfl,i,rfl,_,rfl,xU ?_⟩;refine⟨_,rfl,_,_,rfl,rfl,_,rfl,?_⟩;refine Vb (λh1=>?_) (λh1=>?_)
  ·have h1':=of_decide_eq_true h1;refine⟨_,_,rfl,rfl,?_⟩;rw[show decide (2<=i/\i<=16)=decide (i<=16) by simp[h1']]at q;exact q
  ·have h1':¬ 2<=i:=λz=>h1 (decide_eq_true z);rw[show decide (2<=i/\i<=16)=false by simp[h1']]at q;exact q
def Ze:Sp:=λvs H Q _=>∃i:Int,vs=[.int i]/\2<=i/\i<=16/\Q .non H
theorem QG:zF ["thing"] ["thing"] (zx tQ):={}
theorem QJ(D:Df K mg "check_base" tQ Aa f fd)(jt:Df K mg "is_base" ZJ Aa f1 fd1)(Zw:FnOk P w K mg base CX0 2 f1 fd1 Aa XQ):
  FnOk P w K mg base CX0 3 f fd Aa Ze:=by
 refine D.fn.ok QG (λvs H Q E h=>?_) (λcdv A outer s H vs Q E hr h=>?_)
 ·obtain⟨i,rfl,_⟩:=h;rfl
 ·obtain⟨i,rfl,h1,h2,q⟩:=h;refine⟨_,(zu (yG (wD (xx (zE jt Zw (hr.mono (by decide)) (zf (pv 0) zg))))
    (zu WK)
    zP)),?_⟩
  refine⟨_,rfl,i,rfl,_,rfl,?_⟩;rw[decide_eq_true (show 2<=i/\i<=16 from ⟨h1,h2⟩)];exact xF q
def Wi:Sp:=λvs H Q _=>∃i:Int,vs=[.int i]/\Q (.bl (decide (0<=i))) H
theorem Wk:zF ["thing"] ["thing"] (zx uO):={}
theorem zan(D:Df K mg "is_number" uO Aa f fd)(yr:Df K mg "is_whole" wG Aa f1 fd1)(T:Blt mg):
  FnOk P w K mg base CX0 2 f fd Aa Wi:=by
 have tV:FnOk P w K mg base CX0 1 f1 fd1 Aa jP:=YF yr T;refine D.fn.ok Wk (λvs H Q E h=>?_) (λcdv A outer s H vs Q E hr h=>?_)
 ·obtain⟨i,rfl,_⟩:=h;rfl
 ·obtain⟨i,rfl,q⟩:=h;refine⟨_,(zu (zG (ql (zE yr tV (hr.mono (by decide)) (zf (pv 0) zg)) (qd (xr zbp (pv 0) zm (zM _)))))),?_⟩;refine⟨_,rfl,i,rfl,_,rfl,xU ?_⟩;exact⟨_,rfl,_,_,rfl,rfl,q⟩
def Yh:Sp:=λvs H Q _=>∃i:Int,vs=[.int i]/\0<=i/\Q .non H
theorem Vz:zF ["thing"] ["thing"] (zx tU):={}
theorem VB(D:Df K mg "check_number" tU Aa f fd)(vN:Df K mg "is_number" uO Aa f2 fd2)(yr:Df K mg "is_whole" wG Aa f1 fd1)(T:Blt mg):
  FnOk P w K mg base CX0 3 f fd Aa Yh:=by
 have XR:FnOk P w K mg base CX0 2 f2 fd2 Aa Wi:=zan vN yr T;refine D.fn.ok Vz (λvs H Q E h=>?_) (λcdv A outer s H vs Q E hr h=>?_)
 ·obtain⟨i,rfl,_⟩:=h;rfl
 ·obtain⟨i,rfl,h1,q⟩:=h;refine⟨_,(zu (yG (wD (xx (zE vN XR (hr.mono (by decide)) (zf (pv 0) zg))))
    (zu WK)
    zP)),?_⟩
  refine⟨_,rfl,i,rfl,_,rfl,?_⟩;rw[decide_eq_true h1];exact xF q
end
def zaD:PyData->Bool
 |.int _=>true
 |_=>false
def zad:PyData->Bool
 |.int i=>decide (0<=i)
 |_=>false
theorem Q6(d:PyData):zaD d=(isT "int" d && !isT "bool" d):=by cases d<;>rfl
theorem V6(h:zaD d=true):∃i,d=.int i:=by cases d<;>first | exact⟨_,rfl⟩ | cases h
theorem zdH(h:ThAt H d v)(hb:zad d=true):∃n:Nat,d=.int n/\v=.int n:=by
 cases d with
 |int i=>
  have hb:=of_decide_eq_true hb;have e:((i.toNat:Nat))=i:=by omega
  exact⟨i.toNat,by rw[e],by rw[h,e]⟩
 |_=>cases hb
section
variable {P:Program} {w:World} {K:W.Frag} {mg:Str->Option Value} {base:Heap}
def WT:Sp:=λvs H Q _=>Ex2 λv d=>vs=[v]/\ThAt H d v/\Q (.bl (zaD d)) H
theorem zav(D:Df K mg "is_whole" wG Aa f fd)(T:Blt mg):FnOk P w K mg base CX0 1 f fd Aa WT:=by
 refine D.fn.ok Vm (λvs H Q E h=>?_) (λcdv A outer s H vs Q E hr h=>?_)
 ·obtain⟨v,d,rfl,_⟩:=h;rfl
 ·obtain⟨v,d,rfl,hd,q⟩:=h;refine⟨_,(zu (zG (ql (zz Yp (by rfl) T.n_isinstance boot_isinstance (zf (pv 0) (zf (ue (v:=.ty "int") rfl T.n_int boot_int rfl) zg))) (qd (zaq (zz Yp (by rfl) T.n_isinstance boot_isinstance (zf (pv 0) (zf (ue (v:=.ty "bool") rfl T.n_bool boot_bool rfl) zg)))))))),?_⟩;rw[Q6]at q;refine⟨_,rfl,_,_,_,_,rfl,hd.ty,JX d,_,rfl,?_⟩;cases h1:isT "int" d with
  |false=>rw[h1]at q;exact xF q
  |true=>
   rw[h1,Bool.true_and]at q;exact xU ⟨_,rfl,_,_,_,_,rfl,hd.ty,zaT d,_,rfl,q⟩
def Y7:Sp:=λvs H Q _=>Ex2 λv d=>vs=[v]/\ThAt H d v/\Q (.bl (zad d)) H
theorem QB(D:Df K mg "is_number" uO Aa f fd)(yr:Df K mg "is_whole" wG Aa f1 fd1)(T:Blt mg):FnOk P w K mg base CX0 2 f fd Aa Y7:=by
 have tV:FnOk P w K mg base CX0 1 f1 fd1 Aa WT:=zav yr T;refine D.fn.ok Wk (λvs H Q E h=>?_) (λcdv A outer s H vs Q E hr h=>?_)
 ·obtain⟨v,d,rfl,_⟩:=h;rfl
 ·obtain⟨v,d,rfl,hd,q⟩:=h;refine⟨_,(zu (zG (ql (zE yr tV (hr.mono (by decide)) (zf (pv 0) zg)) (qd (xr zbp (pv 0) zm (zM _)))))),?_⟩;refine⟨_,rfl,v,d,rfl,hd,_,rfl,?_⟩;cases hw:zaD d with
  |false=>
   have:zad d=false:=by cases d<;>first | rfl | cases hw
   rw[this]at q;exact xF q
  |true=>
   obtain⟨i,rfl⟩:=V6 hw;subst hd;exact xU ⟨_,rfl,_,_,rfl,rfl,q⟩
def j9:Sp:=λvs H Q _=>Ex2 λ(b:Nat) (n:Nat)=>vs=[.int b,.int n]/\2<=b/\b<=16/\n<2^900 /\
 ∀l H',H l=none->H' l=some (.lst ((zT b n).map V.int))->Same H H'->Q (.ref l) H'
theorem qt:zF ["base","n","backwards","rest"] ["base","n"] (zx tO):={}
theorem Qv(D:Df K mg "figures_of" tO Ae f fd)(vR:Df K mg "check_base" tQ Aa f1 fd1)(uK:FnOk P w K mg base CX0 3 f1 fd1 Aa Ze)(qC:Df K mg "check_number" tU Aa f2 fd2)(Zd:FnOk P w K mg base CX0 3 f2 fd2 Aa Yh)(T:Blt mg):FnOk P w K mg base CX0 4 f fd Ae j9:=by
 refine D.fn.ok qt (λvs H Q E h=>?_) (λcdv A outer s H vs Q E hr h=>?_)
 ·obtain⟨b,n,rfl,_⟩:=h;rfl
 ·obtain⟨b,n,rfl,h2,h16,hn,k⟩:=h;refine⟨_,(zj (wI (zE vR uK (hr.mono (by decide)) (zf (pv 0) zg)))
   (zj (wI (zE qC Zd (hr.mono (by decide)) (zf (pv 1) zg)))
   (zj (zA (i:=2) qt.nd rfl (Or.inl rfl) (yc (zf (zy yh (pv 1) (pv 0)) zg)))
   (zj (zA (i:=3) qt.nd rfl (Or.inl rfl) (zy vJ (pv 1) (pv 0)))
   (zj (Yz PassesOwn.never (zO zbb (pv 3) zm (zM _))
    (zj (wI (Yj PySem.F.plainAttrs_list PySem.F.slot_list_append PySem.F.type_list_append vB (pv 2) (zf (zy yh (pv 3) (pv 0)) zg)))
    (zu (zA (i:=3) qt.nd rfl (Or.inl rfl) (zy vJ (pv 3) (pv 0))))))
   (zu (zG (zcl rfl rfl T.n_list rfl T.n_reversed (pv 2))))))))),?_⟩
  refine⟨_,rfl,b,rfl,by omega,by omega,?_⟩;refine⟨_,rfl,n,rfl,by omega,?_⟩;refine⟨_,rfl,_,rfl,_,_,rfl,rfl,(by omega),(by decide:1<=sizeLine),λl hl=>?_⟩;refine⟨_,rfl,_,rfl,_,_,rfl,rfl,⟨by omega,by omega⟩,?_⟩;have hlen:=vX h2 900 n hn;refine Yt (λZ H2=>∃(r:Nat) (L:List Int),Z=[some (.int b),some (.int n),some (.ref l),some (.int r)]/\H2 l=some (.lst (L.map V.int))/\Same H H2/\zT b n=ahead b r++L.reverse)
   (λZ _=>match Z with | [_,_,_,some (.int r)]=>r.toNat | _=>0) ?_ ?_ ?_
  ·refine⟨n / b,[((n % b:Nat))],?_,?_,zr hl,?_⟩
   ·rfl
   ·rw[zp];simp
   ·rw[W3 h2];simp
  ·rintro Z H2 ⟨r,L,rfl,hL,sH,he⟩;refine⟨_,rfl,_,_,rfl,rfl,_,rfl,?_⟩;refine Vb (λh1=>?_) (λh1=>?_)
   ·have hr0:0<r:=by have:=of_decide_eq_true h1;omega
    have hLl:L.length<=901:=by
     have:=congrArg List.length he;rw[List.length_append,List.length_reverse]at this;omega
    refine⟨_,rfl,.inl ⟨rfl,_,SqL.of hL⟩,_,rfl,_,rfl,_,_,rfl,rfl,(by omega),l,_,_,rfl,rfl,hL,by rw[List.length_map];exact Nat.lt_of_le_of_lt hLl (by decide),?_⟩;refine⟨_,rfl,_,rfl,_,_,rfl,rfl,⟨by omega,by omega⟩,?_⟩;refine⟨⟨r / b,L++[((r % b:Nat):Int)],?_,?_,?_,?_⟩,?_⟩
    ·simp
    ·rw[zp];simp
    ·exact λb' o e=>by rw[zB (zK e hl)];exact sH b' o e
    ·rw[he,UJ h2 hr0,List.reverse_append];simp
    ·show (r / (b:Int)).toNat<(r:Int).toNat;have:r / b<r:=Nat.div_lt_self hr0 (by omega);omega
   ·have hr0:r=0:=by
     by_cases z:r=0
     ·exact z
     ·exact absurd (decide_eq_true (by omega)) h1
    subst hr0;refine⟨_,rfl,l,_,rfl,SqL.of hL,λq hq=>?_⟩;have hlq:q≠l:=λz=>by rw[z,hL]at hq;cases hq
    refine k q _ (sH.free hq) ?_ (sH.trans (zr hq));rw[zp,he];simp[ahead]
  ·intro Z H2 Q Q' hq;rintro⟨v,e,i,j,e1,e2,k,e3,q⟩;exact⟨v,e,i,j,e1,e2,k,e3,hq _ _ q⟩
def Wv:Sp:=λvs H Q _=>Ex2 λb i=>vs=[.int b,.int i]/\Q (.bl (decide (0<=i/\i<b))) H
theorem zau:zF ["base","thing"] ["base","thing"] (zx j5):={}
theorem zaj(D:Df K mg "is_figure" j5 Ab f fd)(yr:Df K mg "is_whole" wG Aa f1 fd1)(T:Blt mg):FnOk P w K mg base CX0 2 f fd Ab Wv:=by
 have tV:FnOk P w K mg base CX0 1 f1 fd1 Aa jP:=YF yr T;refine D.fn.ok zau (λvs H Q E h=>?_) (λcdv A outer s H vs Q E hr h=>?_)
 ·obtain⟨b,i,rfl,_⟩:=h;rfl
 ·obtain⟨b,i,rfl,q⟩:=h;refine⟨_,(zu (zG (ql (zE yr tV (hr.mono (by decide)) (zf (pv 1) zg)) (qd (V2 Qn Wj zm (pv 1) (pv 0)))))),?_⟩;refine⟨_,rfl,i,rfl,_,rfl,xU ?_⟩;refine⟨_,rfl,_,_,rfl,rfl,_,rfl,?_⟩;refine Vb (λh1=>?_) (λh1=>?_)
  ·have h1':=of_decide_eq_true h1;refine⟨_,rfl,_,_,rfl,rfl,?_⟩;rw[show decide (0<=i/\i<b)=decide (i<b) by simp[h1']]at q;exact q
  ·have h1':¬ 0<=i:=λz=>h1 (decide_eq_true z);rw[show decide (0<=i/\i<b)=false by simp[h1']]at q;exact q
def jy:Sp:=λvs H Q _=>Ex3 λ(b:Int) (a:Addr) (ns:List Int)=>vs=[.int b,.ref a]/\H a=some (.lst (ns.map V.int))/\ns.length<=1000/\∀H',Same H H'->Q (.bl (ns.all λi=>decide (0<=i/\i<b))) H'
theorem U0:zF ["base","thing"] ["base","thing"] (zx vA):={}
theorem V4(D:Df K mg "are_figures" vA Ab f fd)(ZL:Df K mg "is_figure" j5 Ab f1 fd1)(Xp:FnOk P w K mg base CX0 2 f1 fd1 Ab Wv)(T:Blt mg):
  FnOk P w K mg base CX0 3 f fd Ab jy:=by
 refine D.fn.ok U0 (λvs H Q E h=>?_) (λcdv A outer s H vs Q E hr h=>?_)
 ·obtain⟨b,a,ns,rfl,_⟩:=h;rfl
 ·obtain⟨b,a,ns,rfl,ha,hlen,kk⟩:=h;refine⟨_,(zu (zG (ql (zz (Vv K) (by rfl) T.n_isinstance boot_isinstance (zf (pv 1) (zf (ue (v:=.ty "list") rfl T.n_list boot_list rfl) zg))) (qd (zz (k_all K rfl) (by rfl) T.n_all boot_all (zf (yV (show CScope (zx vA) _ "each" ["base","thing"] ["base"] [0] from {}) rfl (je K (pv 1)) (λ_ _ _ _=>yX) (λ_ _ _ _=>(zE ZL Xp (hr.mono (by decide)) (zf (pv 1) (zf (pv 0) zg))))) zg)))))),?_⟩;refine⟨_,rfl,_,_,_,_,rfl,.lst ha,YZ,_,rfl,xU ?_⟩;refine⟨_,rfl,a,rfl,⟨_,SqL.of ha⟩,xu (λi ys H4=>ys=((ns.take i).map λi=>decide (0<=i/\i<b)).map V.bl/\H4=H) ⟨by simp,rfl⟩ (λi ys H4 _ ⟨_,e⟩=>by rw[e];exact SqL.of ha) ?_ ?_⟩
  ·rintro j x ys H4 hx ⟨rfl,rfl⟩;refine⟨?_,?_⟩
   ·rw[List.length_map,List.length_map,List.length_take];exact Nat.lt_of_le_of_lt (Nat.le_trans (Nat.min_le_right _ _) hlen) (by decide)
   obtain⟨z,hz,rfl⟩:∃z,ns[j]?=some z/\x=V.int z:=by
    rw[List.getElem?_map]at hx;obtain⟨z,h,e⟩:=Option.map_eq_some_iff.mp hx;exact⟨z,h,e.symm⟩
   unfold jJ;dsimp only;refine⟨_,rfl,_,rfl,b,z,rfl,?_,rfl⟩;rw[List.take_succ,hz];simp
  ·rintro ys H4 ⟨rfl,rfl⟩ Dd hD;refine⟨Dd,_,rfl,SqL.of zp,?_⟩;have q:=kk _ (zr hD (o:=.lst (((ns.take (ns.map V.int).length).map λi=>decide (0<=i/\i<b)).map V.bl)));rw[List.length_map,List.take_length]at q ⊢;rw[List.all_map];exact q
structure RuleAt (H:Hp) (r:Addr) (b:Nat) (bl:Addr) (zs:ZB):Prop where
 tu:H r=some (.tup [.int b,.ref bl])
 li:H bl=some (.lst (zs.map λz=>V.ref z.1))
 st:∀z∈zs,H z.1=some (.lst (z.2.map V.int))
theorem RuleAt.same(R:RuleAt H r b bl zs)(s:Same H H'):RuleAt H' r b bl zs:=⟨s _ _ R.tu,s _ _ R.li,λz hz=>s _ _ (R.st z hz)⟩
structure zai (b:Nat) (l:List Int):Prop where
 ne:l≠[]
 len:l.length<=4
 fig:∀f∈l,0<=f/\f<b
structure yx (b:Nat) (ls:ZA):Prop where
 b2:2<=b
 b16:b<=16
 len:ls.length<=4
 st:∀l∈ls,zai b l
 up:ls.Pairwise λx y=>HT.lexLt x y=true
theorem zcZ{b:Nat}{ns:List Int}(h:∀f∈ns,0<=f/\f<(b:Int)):(ns.all λi=>decide (0<=i/\i<(b:Int)))=true:=by
 rw[List.all_eq_true];intro x hx;exact decide_eq_true (h x hx)
def Xe:Sp:=λvs H Q _=>Ex3 λ(b:Nat) (a:Addr) (ns:List Int)=>vs=[.int b,.ref a]/\H a=some (.lst (ns.map V.int))/\zai b ns/\∀H',Same H H'->Q (.bl true) H'
theorem QH:zF ["base","thing"] ["base","thing"] (zx jg):={}
theorem QR(D:Df K mg "is_stretch" jg Ab f fd)(vd:Df K mg "are_figures" vA Ab f1 fd1)(ul:FnOk P w K mg base CX0 3 f1 fd1 Ab jy)(uR:mg "LONGEST_STRETCH"= some (.int 4 t1))(T:Blt mg):
  FnOk P w K mg base CX0 4 f fd Ab Xe:=by
 refine D.fn.ok QH (λvs H Q E h=>?_) (λcdv A outer s H vs Q E hr h=>?_)
 ·obtain⟨b,a,ns,rfl,_⟩:=h;rfl
 ·obtain⟨b,a,ns,rfl,ha,g,kk⟩:=h;refine⟨_,(zu (zG (ql (zE vd ul (hr.mono (by decide)) (zf (pv 0) (zf (pv 1) zg))) (qd (V2 Qn Qn zm (zz (wy K) (by rfl) T.n_len PySem.boot_len (zf (pv 1) zg)) (xK (v:=.int 4) rfl uR ⟨_,rfl⟩)))))),?_⟩;have hlen:=g.len;refine⟨_,rfl,_,rfl,b,a,ns,rfl,ha,Nat.le_trans hlen (by decide),λH1 s1=>?_⟩;rw[zcZ g.fig];refine⟨_,rfl,xU ?_⟩;have hpos:=List.length_pos_iff.mpr g.ne;refine⟨_,rfl,a,_,rfl,.inl (SqL.of (s1 _ _ ha)),_,_,rfl,rfl,_,rfl,?_⟩;rw[List.length_map,decide_eq_true (show 1<=(ns.length:Int) by omega)];refine xU ?_;refine⟨_,_,rfl,rfl,?_⟩;dsimp only;rw[decide_eq_true (show (ns.length:Int)<=4 by omega)];exact kk H1 s1
def WY:Sp:=λvs H Q _=>Ex2 λ(bl:Addr) (zs:ZB)=>vs=[.ref bl]/\H bl=some (.lst (zs.map λz=>V.ref z.1))/\(∀z∈zs,H z.1=some (.lst (z.2.map V.int)))/\zs.length<=4/\(zs.map (·.2)).Pairwise (λx y=>HT.lexLt x y=true)/\∀H',Same H H'->Q (.bl true) H'
theorem JF:zF ["stretches"] ["stretches"] (zx qG):={}
theorem zcq:(List.replicate n true).all id=true:=by
 rw[List.all_eq_true];intro x hx;exact (List.mem_replicate.mp hx).2
theorem JT(D:Df K mg "is_rising" qG As f fd)(T:Blt mg):FnOk P w K mg base CX0 1 f fd As WY:=by
 refine D.fn.ok JF (λvs H Q E h=>?_) (λcdv A outer s H vs Q E hr h=>?_)
 ·obtain⟨bl,zs,rfl,_⟩:=h;rfl
 ·obtain⟨bl,zs,rfl,hb,hz,h4,up,kk⟩:=h;have HU:=zax hr;refine⟨_,(zu (zG (zz (k_all K rfl) (by rfl) T.n_all boot_all (zf (yV (show CScope (zx qG) _ "k" ["stretches"] ["stretches"] [0] from {}) rfl (yt rfl T.n_range (zf (zy xT (zz (wy K) (by rfl) T.n_len PySem.boot_len (zf (pv 0) zg)) zm) zg)) (λ_ _ _ _=>yX) (λ_ _ _ _=>(xr (zhr K HU) (zR (yJ K) (pv 1) (pv 0) (λ_ _=>rfl)) (zR (yJ K) (pv 1) (zy ym (pv 0) zm) (λ_ _=>rfl)) (zM _)))) zg)))),?_⟩;refine⟨_,rfl,bl,_,rfl,.inl (SqL.of hb),_,_,rfl,rfl,_,rfl,?_⟩;rw[List.length_map];refine⟨by omega,by omega,vQ (λi ys H4=>ys=(List.replicate i true).map V.bl/\H4=H) ⟨by simp,rfl⟩ ?_ ?_⟩
  ·rintro i ys H4 hi ⟨rfl,rfl⟩;refine⟨by rw[List.length_map,List.length_replicate];exact Nat.lt_of_lt_of_le (show i<5 by omega) (by decide),?_⟩;have hi0:i<zs.length:=by omega
   have hi1:i+1<zs.length:=by omega
   have g0:atI (zs.map λz=>V.ref z.1) (0+i)=some (.ref (zs[i]).1):=by rw[Int.zero_add];exact xW (by rw[List.getElem?_map,List.getElem?_eq_getElem hi0];rfl)
   have g1:atI (zs.map λz=>V.ref z.1) (0+i+1)=some (.ref (zs[i+1]).1):=by rw[Int.zero_add];exact xW (by rw[List.getElem?_map,List.getElem?_eq_getElem hi1];rfl)
   refine⟨_,rfl,_,rfl,bl,_,_,_,rfl,rfl,SqL.of hb,g0,?_⟩;refine⟨_,rfl,_,rfl,_,_,rfl,rfl,bl,_,_,_,rfl,rfl,SqL.of hb,g1,?_⟩;refine⟨_,_,_,_,rfl,rfl,SqL.of (hz _ (List.getElem_mem hi0)),SqL.of (hz _ (List.getElem_mem hi1)),?_,rfl⟩;rw[List.pairwise_map,List.pairwise_iff_getElem]at up;rw[up i (i+1) hi0 hi1 (by omega),List.replicate_succ'];simp
  ·rintro ys H4 ⟨rfl,rfl⟩ Dd hD;refine⟨Dd,_,rfl,SqL.of zp,?_⟩;rw[zcq];exact kk _ (zr hD)
def Yl:Sp:=λvs H Q _=>Ex3 λ(b:Nat) (bl:Addr) (zs:ZB)=>vs=[.int b,.ref bl]/\H bl=some (.lst (zs.map λz=>V.ref z.1))/\(∀z∈zs,H z.1=some (.lst (z.2.map V.int)))/\yx b (zs.map (·.2))/\∀H',Same H H'->Q (.bl true) H'
theorem Qj:zF ["base","thing"] ["base","thing"] (zx vD):={}
theorem Ua(D:Df K mg "is_bad_list" vD Ab f fd)(j6:Df K mg "is_stretch" jg Ab f1 fd1)(YC:FnOk P w K mg base CX0 4 f1 fd1 Ab Xe)(Z9:Df K mg "is_rising" qG As f2 fd2)(tX:mg "MOST_STRETCHES"= some (.int 4 t1))(T:Blt mg):
  FnOk P w K mg base CX0 5 f fd Ab Yl:=by
 have zbK:FnOk P w K mg base CX0 1 f2 fd2 As WY:=JT Z9 T;refine D.fn.ok Qj (λvs H Q E h=>?_) (λcdv A outer s H vs Q E hr h=>?_)
 ·obtain⟨b,bl,zs,rfl,_⟩:=h;rfl
 ·obtain⟨b,bl,zs,rfl,hb,hz,g,kk⟩:=h;have h4:zs.length<=4:=by have:=g.len;rwa[List.length_map]at this
  refine xO ?_;intro XX;let q1:Sq XX ((zq vD).drop 1):=⟨_,zu (zG (ql (zz (k_all K rfl) (by rfl) T.n_all boot_all (zf (yV (show CScope (zx vD) _ "each" ["base","thing"] ["base"] [0] from {}) rfl (je K (pv 1)) (λ_ _ _ _=>yX) (λ_ _ _ _=>(zE j6 YC (hr.mono (by decide)) (zf (pv 1) (zf (pv 0) zg))))) zg)) (qd (zE Z9 zbK (hr.mono (by decide)) (zf (pv 1) zg)))))⟩
  refine⟨_,(zj (yG (PW.pt (Ym (wD (xx (zz (Vv K) (by rfl) T.n_isinstance boot_isinstance (zf (pv 1) (zf (ue (v:=.ty "list") rfl T.n_list boot_list rfl) zg))))) (Zj (zO zbb (zz (wy K) (by rfl) T.n_len PySem.boot_len (zf (pv 1) zg)) (xK (v:=.int 4) rfl tX ⟨_,rfl⟩) (zM _)))))
    (zu (zG uN))
    zP) q1.p),?_⟩
  refine⟨_,rfl,_,_,_,_,rfl,.lst hb,YZ,_,rfl,xF ?_⟩;refine⟨_,rfl,bl,_,rfl,.inl (SqL.of hb),_,_,rfl,rfl,_,rfl,?_⟩;rw[List.length_map,decide_eq_false (show ¬ 4<(zs.length:Int) by omega)];refine xF ?_;refine⟨_,rfl,bl,rfl,⟨_,SqL.of hb⟩,xu (λi ys H4=>ys=(List.replicate i true).map V.bl/\Same H H4) ⟨by simp,Same.refl _⟩ (λi ys H4 _ ⟨_,e⟩=>SqL.of (e _ _ hb)) ?_ ?_⟩
  ·rintro j x ys H4 hx ⟨rfl,s4⟩;rw[List.getElem?_map]at hx;obtain⟨z,hzj,e⟩:=Option.map_eq_some_iff.mp hx;subst e;have hzm:=List.mem_of_getElem? hzj;have hj:=(List.getElem?_eq_some_iff.mp hzj).1;refine⟨by rw[List.length_map,List.length_replicate];exact Nat.lt_of_lt_of_le (show j<5 by omega) (by decide),?_⟩;unfold jJ;dsimp only;refine⟨_,rfl,_,rfl,b,z.1,z.2,rfl,s4 _ _ (hz z hzm),g.st _ (List.mem_map.mpr ⟨z,hzm,rfl⟩),λH5 s5=>⟨?_,s4.trans s5⟩⟩;rw[List.replicate_succ'];simp
  ·rintro ys H4 ⟨rfl,s4⟩ Dd hD;refine⟨Dd,_,rfl,SqL.of zp,?_⟩;rw[zcq];have s5:=s4.trans (zr hD (o:=.lst ((List.replicate (zs.map λz=>V.ref z.1).length true).map V.bl)));refine⟨_,rfl,xU ?_⟩;exact⟨_,rfl,bl,zs,rfl,s5 _ _ hb,λz hzm=>s5 _ _ (hz z hzm),h4,g.up,λH6 s6=>kk H6 (s5.trans s6)⟩
def U4:Sp:=λvs H Q _=>Ex4 λr b bl zs=>vs=[.ref r]/\RuleAt H r b bl zs/\yx b (zs.map (·.2))/\∀H',Same H H'->Q (.bl true) H'
theorem zb9:zF ["thing"] ["thing"] (zx Zn):={}
theorem zca(D:Df K mg "is_rule" Zn Aa f fd)(jt:Df K mg "is_base" ZJ Aa f1 fd1)(Zw:FnOk P w K mg base CX0 2 f1 fd1 Aa XQ)(jc:Df K mg "is_bad_list" vD Ab f2 fd2)(Z0:FnOk P w K mg base CX0 5 f2 fd2 Ab Yl)(T:Blt mg):
  FnOk P w K mg base CX0 6 f fd Aa U4:=by
 refine D.fn.ok zb9 (λvs H Q E h=>?_) (λcdv A outer s H vs Q E hr h=>?_)
 ·obtain⟨r,b,bl,zs,rfl,_⟩:=h;rfl
 ·obtain⟨r,b,bl,zs,rfl,R,g,kk⟩:=h;have b2:=g.b2;have b16:=g.b16;refine xO ?_;intro XX;let q1:Sq XX ((zq Zn).drop 1):=⟨_,zu (zG (ql (zE jt Zw (hr.mono (by decide)) (zf (zR (vO K) (pv 0) zm (λ_ _=>rfl)) zg)) (qd (zE jc Z0 (hr.mono (by decide)) (zf (zR (vO K) (pv 0) zm (λ_ _=>rfl)) (zf (zR (vO K) (pv 0) zm (λ_ _=>rfl)) zg))))))⟩
  refine⟨_,(zj (yG (PW.pt (Ym (wD (xx (zz (Vv K) (by rfl) T.n_isinstance boot_isinstance (zf (pv 0) (zf (ue (v:=.ty "tuple") rfl T.n_tuple boot_tuple rfl) zg))))) (Zj (zO zcD (zz (wy K) (by rfl) T.n_len PySem.boot_len (zf (pv 0) zg)) zm (zM _)))))
    (zu (zG uN))
    zP) q1.p),?_⟩
  refine⟨_,rfl,_,_,_,_,rfl,.tup R.tu,VD,_,rfl,xF ?_⟩;refine⟨_,rfl,r,_,rfl,.inr (SqT.of R.tu),rfl,_,rfl,?_⟩;refine xF ?_;refine⟨_,rfl,r,_,_,V.int b,rfl,rfl,SqT.of R.tu,rfl,b,rfl,?_⟩;rw[decide_eq_true (show (2:Int)<=b/\(b:Int)<=16 from ⟨by omega,by omega⟩)];refine⟨_,rfl,xU ?_⟩;refine⟨_,rfl,r,_,_,V.int b,rfl,rfl,SqT.of R.tu,rfl,_,rfl,r,_,_,V.ref bl,rfl,rfl,SqT.of R.tu,rfl,b,bl,zs,rfl,R.li,R.st,g,kk⟩
def qx:Sp:=λvs H Q _=>Ex4 λr b bl zs=>vs=[.ref r]/\RuleAt H r b bl zs/\yx b (zs.map (·.2))/\∀H',Same H H'->Q .non H'
theorem QV:zF ["thing"] ["thing"] (zx ud):={}
theorem QK(D:Df K mg "check_rule" ud Aa f fd)(WF:Df K mg "is_rule" Zn Aa f1 fd1)(Uh:FnOk P w K mg base CX0 6 f1 fd1 Aa U4):FnOk P w K mg base CX0 7 f fd Aa qx:=by
 refine D.fn.ok QV (λvs H Q E h=>?_) (λcdv A outer s H vs Q E hr h=>?_)
 ·obtain⟨r,b,bl,zs,rfl,_⟩:=h;rfl
 ·obtain⟨r,b,bl,zs,rfl,R,g,kk⟩:=h;refine⟨_,(zu (yG (wD (xx (zE WF Uh (hr.mono (by decide)) (zf (pv 0) zg))))
    (zu WK)
    zP)),?_⟩
  exact⟨_,rfl,r,b,bl,zs,rfl,R,g,λH1 s1=>⟨_,rfl,xF (kk H1 s1)⟩⟩
theorem zbm(xs:List V)(k m:Nat):uQ xs (some (k:Int)) (some (m:Int))=(xs.drop k).take (m-k):=by
 unfold uQ;rw[HT.VR,HT.VR];by_cases hk:k<=xs.length
 ·rw[Nat.min_eq_left hk];by_cases hm:m<=xs.length
  ·rw[Nat.min_eq_left hm]
  ·rw[Nat.min_eq_right (by omega),List.take_of_length_le (by rw[List.length_drop];omega),List.take_of_length_le (by rw[List.length_drop];omega)]
 ·rw[List.drop_of_length_le (show xs.length<=k by omega),Nat.min_eq_right (show xs.length<=k by omega),List.drop_of_length_le (Nat.le_refl _)];simp
def Zk:Sp:=λvs H Q _=>Ex4 λsa fa st fs=>vs=[.ref sa,.ref fa]/\H sa=some (.lst (st.map V.int))/\H fa=some (.lst (fs.map V.int))/\st≠[]/\st.length<=1000/\fs.length<=1000/\∀H',Same H H'->Q (.bl (Z5 st fs)) H'
theorem ZG:zF ["stretch","figures","size"] ["stretch","figures"] (zx wg):={}
theorem W9(D:Df K mg "stands_within" wg Av f fd)(T:Blt mg):FnOk P w K mg base CX0 1 f fd Av Zk:=by
 refine D.fn.ok ZG (λvs H Q E h=>?_) (λcdv A outer s H vs Q E hr h=>?_)
 ·obtain⟨sa,fa,st,fs,rfl,_⟩:=h;rfl
 ·obtain⟨sa,fa,st,fs,rfl,hs,hf,ne,hl1,hl2,kk⟩:=h;have HU:=zax hr;refine xO ?_;intro XX;let q1:Sq XX ((zq wg).drop 1):=⟨_,zu (zG (zz (zdY K rfl) (by rfl) T.n_any boot_any (zf (yV (show CScope (zx wg) _ "k" ["stretch","figures","size"] ["stretch","figures","size"] [0,1,2] from {}) rfl (yt rfl T.n_range (zf (zy ym (zy xT (zz (wy K) (by rfl) T.n_len PySem.boot_len (zf (pv 1) zg)) (pv 2)) zm) zg)) (λ_ _ _ _=>yX) (λ_ _ _ _=>(xr (zbu K HU) (yN (qD K) (pv 2) (yW (pv 0)) (yW (zy ym (pv 0) (pv 3)))) (pv 1) (zM _)))) zg)))⟩
  refine⟨_,(zj (zA (i:=2) ZG.nd rfl (Or.inr rfl) (zz (wy K) (by rfl) T.n_len PySem.boot_len (zf (pv 0) zg))) q1.p),?_⟩;refine⟨_,rfl,sa,_,rfl,.inl (SqL.of hs),?_⟩;rw[List.length_map];refine⟨_,rfl,fa,_,rfl,.inl (SqL.of hf),_,rfl,_,_,rfl,rfl,_,_,rfl,rfl,_,rfl,?_⟩;rw[List.length_map];refine⟨by omega,by omega,vQ (λi ys H4=>ys=((List.range i).map λk=>decide ((fs.drop k).take st.length=st)).map V.bl/\Same H H4) ⟨by simp,Same.refl _⟩ ?_ ?_⟩
  ·rintro i ys H4 hi ⟨rfl,s4⟩;refine⟨by rw[List.length_map,List.length_map,List.length_range];exact Nat.lt_of_lt_of_le (show i<2000 by omega) (by decide),?_⟩;unfold jJ;refine⟨_,rfl,_,rfl,_,rfl,_,rfl,_,rfl,_,_,rfl,rfl,_,rfl,fa,_,rfl,SqL.of (s4 _ _ hf),λp hp=>?_⟩;have e1:uQ (fs.map V.int) (some (0+i)) (some (0+i+st.length))=((fs.drop i).take st.length).map V.int:=by
    have e:(0+i+st.length)=((i+st.length:Nat):Int):=by omega
    rw[e,Int.zero_add,zbm,List.map_take,List.map_drop,Nat.add_sub_cancel_left]
   rw[e1];refine⟨_,rfl,wK ((fs.drop i).take st.length),wK st,TrAt.ints (SqL.of zp),TrAt.ints (SqL.of (zr hp _ _ (s4 _ _ hs))),(by rw[ju];decide),?_,s4.trans (zr hp)⟩;rw[List.range_succ,List.map_append,List.map_append];have e2:=jC ((fs.drop i).take st.length) st;show _=_++[V.bl (decide ((fs.drop i).take st.length=st))]
   rw[<-e2];rfl
  ·rintro ys H4 ⟨rfl,s4⟩ Dd hD;refine⟨Dd,_,rfl,SqL.of zp,?_⟩;have q:=kk _ (s4.trans (zr hD (o:=.lst (((List.range ((fs.length:Int)-st.length+1).toNat).map λk=>decide ((fs.drop k).take st.length=st)).map V.bl))));rw[UG ne]at q;rw[List.any_map];exact q
def uU:Sp:=λvs H Q _=>Ex4 λ(bl:Addr) (fa:Addr) (zs:ZB) (fs:List Int)=>vs=[.ref bl,.ref fa]/\H bl=some (.lst (zs.map λz=>V.ref z.1))/\(∀z∈zs,H z.1=some (.lst (z.2.map V.int)))/\H fa=some (.lst (fs.map V.int))/\zs.length<=100/\fs.length<=1000/\(∀z∈zs,z.2≠[]/\z.2.length<=1000)/\∀H',Same H H'->Q (.bl (lacks (zs.map (·.2)) fs)) H'
theorem JC:zF ["bad","figures"] ["bad","figures"] (zx wW):={}
theorem zaF(D:Df K mg "lacks_all" wW Ad f fd)(u9:Df K mg "stands_within" wg Av f1 fd1)(T:Blt mg):FnOk P w K mg base CX0 2 f fd Ad uU:=by
 have Qe:FnOk P w K mg base CX0 1 f1 fd1 Av Zk:=W9 u9 T;refine D.fn.ok JC (λvs H Q E h=>?_) (λcdv A outer s H vs Q E hr h=>?_)
 ·obtain⟨bl,fa,zs,fs,rfl,_⟩:=h;rfl
 ·obtain⟨bl,fa,zs,fs,rfl,hb,hz,hf,hl1,hl2,ne,kk⟩:=h;refine⟨_,(zu (zG (zaq (zz (zdY K rfl) (by rfl) T.n_any boot_any (zf (yV (show CScope (zx wW) _ "stretch" ["bad","figures"] ["figures"] [1] from {}) rfl (je K (pv 0)) (λ_ _ _ _=>yX) (λ_ _ _ _=>(zE u9 Qe (hr.mono (by decide)) (zf (pv 0) (zf (pv 1) zg))))) zg))))),?_⟩;refine⟨_,rfl,bl,rfl,⟨_,SqL.of hb⟩,xu (λi ys H4=>ys=((zs.take i).map λz=>Z5 z.2 fs).map V.bl/\Same H H4) ⟨by simp,Same.refl _⟩ (λi ys H4 _ ⟨_,e⟩=>SqL.of (e _ _ hb)) ?_ ?_⟩
  ·rintro j x ys H4 hx ⟨rfl,s4⟩;rw[List.getElem?_map]at hx;obtain⟨z,hzj,e⟩:=Option.map_eq_some_iff.mp hx;subst e;have hzm:=List.mem_of_getElem? hzj;refine⟨?_,?_⟩
   ·rw[List.length_map,List.length_map,List.length_take];exact Nat.lt_of_le_of_lt (Nat.le_trans (Nat.min_le_right _ _) hl1) (by decide)
   unfold jJ;dsimp only;refine⟨_,rfl,_,rfl,z.1,fa,z.2,fs,rfl,s4 _ _ (hz z hzm),s4 _ _ hf,(ne z hzm).1,(ne z hzm).2,hl2,λH5 s5=>⟨?_,s4.trans s5⟩⟩;rw[List.take_succ,hzj];simp
  ·rintro ys H4 ⟨rfl,s4⟩ Dd hD;refine⟨Dd,_,rfl,SqL.of zp,_,rfl,?_⟩;have q:=kk _ (s4.trans (zr hD (o:=.lst (((zs.take (zs.map λz=>V.ref z.1).length).map λz=>Z5 z.2 fs).map V.bl))));rw[List.length_map,List.take_length]at q ⊢;unfold lacks at q;rw[List.any_map]at q ⊢;exact q
def Ut:Sp:=λvs H Q _=>Ex5 λ(r:Addr) (b:Nat) (bl:Addr) (zs:ZB) (n:Nat)=>vs=[.ref r,.int n]/\RuleAt H r b bl zs/\yx b (zs.map (·.2))/\n<2^900/\∀H',Same H H'->Q (.bl (lacks (zs.map (·.2)) (zT b n))) H'
theorem zbH:zF ["rule","n"] ["rule","n"] (zx Zm):={}
theorem zbO(D:Df K mg "is_good" Zm Ac f fd)(xP:Df K mg "check_rule" ud Aa f1 fd1)(wu:FnOk P w K mg base CX0 7 f1 fd1 Aa qx)(yU:Df K mg "lacks_all" wW Ad f2 fd2)(xG:FnOk P w K mg base CX0 2 f2 fd2 Ad uU)(vK:Df K mg "figures_of" tO Ae f3 fd3)(uL:FnOk P w K mg base CX0 4 f3 fd3 Ae j9)(T:Blt mg):
  FnOk P w K mg base CX0 8 f fd Ac Ut:=by
 refine D.fn.ok zbH (λvs H Q E h=>?_) (λcdv A outer s H vs Q E hr h=>?_)
 ·obtain⟨r,b,bl,zs,n,rfl,_⟩:=h;rfl
 ·obtain⟨r,b,bl,zs,n,rfl,R,g,hn,kk⟩:=h;refine xO ?_;intro XX;let q1:Sq XX ((zq Zm).drop 1):=⟨_,zu (zG (zE yU xG (hr.mono (by decide)) (zf (zR (vO K) (pv 0) zm (λ_ _=>rfl)) (zf (zE vK uL (hr.mono (by decide)) (zf (zR (vO K) (pv 0) zm (λ_ _=>rfl)) (zf (pv 1) zg))) zg))))⟩
  refine⟨_,(zj (wI (zE xP wu (hr.mono (by decide)) (zf (pv 0) zg))) q1.p),?_⟩;refine⟨_,rfl,r,b,bl,zs,rfl,R,g,λH1 s1=>?_⟩;have R1:=R.same s1;refine⟨_,rfl,r,_,_,V.ref bl,rfl,rfl,SqT.of R1.tu,rfl,?_⟩;refine⟨_,rfl,r,_,_,V.int b,rfl,rfl,SqT.of R1.tu,rfl,_,rfl,b,n,rfl,g.b2,g.b16,hn,λl H2 hl hv s2=>?_⟩;have R2:=R1.same s2;have hfl:=vX g.b2 900 n hn;have h4:zs.length<=4:=by have:=g.len;rwa[List.length_map]at this
  exact⟨bl,l,zs,zT b n,rfl,R2.li,R2.st,hv,by omega,by omega,λz hz=>⟨(g.st _ (List.mem_map.mpr ⟨z,hz,rfl⟩)).ne,Nat.le_trans (g.st _ (List.mem_map.mpr ⟨z,hz,rfl⟩)).len (by decide)⟩,λH3 s3=>kk H3 ((s1.trans s2).trans s3)⟩
end
theorem jn(xs:List V)(m:Nat):uQ xs none (some (m:Int))=xs.take m:=by
 unfold uQ;rw[HT.VR,HT.zaX,List.drop_zero,Nat.sub_zero];by_cases h:m<=xs.length
 ·rw[Nat.min_eq_left h]
 ·rw[Nat.min_eq_right (by omega),List.take_of_length_le (Nat.le_refl _),List.take_of_length_le (by omega)]
theorem jq(xs:List V)(m:Nat):uQ xs (some (m:Int)) none=xs.drop m:=by
 unfold uQ;rw[HT.VR,HT.zaX];by_cases h:m<=xs.length
 ·rw[Nat.min_eq_left h,List.take_of_length_le (by rw[List.length_drop];omega)]
 ·rw[Nat.min_eq_right (by omega),List.drop_of_length_le (Nat.le_refl _),List.drop_of_length_le (by omega)];simp
theorem RuleAt.all(R:RuleAt (aw fp H) r b bl zs):RuleAt H r b bl zs:=R.same (xq fp H)
theorem zdf{ls:ZA}:((ls.map wK).any λt=>teq t (wK x))=decide (x∈ls):=by
 rw[Bool.eq_iff_iff];simp only[List.any_eq_true,List.mem_map,decide_eq_true_eq];constructor
 ·rintro⟨t,⟨l,hl,rfl⟩,e⟩;rw[jC]at e;rw[<-of_decide_eq_true e];exact hl
 ·intro h;exact⟨wK x,⟨x,h,rfl⟩,Ws _⟩
theorem jT:∀ls:ZA,wj (ls.map wK)<=1
 |[]=>by simp[wj]
 |l::ls=>by rw[List.map_cons,wj,ju];have:=jT ls;omega
theorem TrsAt.lists{K:W.Frag}{H:Hp}:∀{zs:ZB},(∀z∈zs,H z.1=some (.lst (z.2.map V.int)))->TrsAt K H ((zs.map (·.2)).map wK) (zs.map λz=>V.ref z.1)
 |[],_=>by rw[List.map_nil,List.map_nil,TrsAt];rfl
 |z::zs,h=>by
  rw[List.map_cons,List.map_cons,TrsAt];exact⟨_,_,rfl,TrAt.ints (SqL.of (h z List.mem_cons_self)),TrsAt.lists λz hz=>h z (List.mem_cons_of_mem _ hz)⟩
section
variable {P:Program} {w:World} {K:W.Frag} {mg:Str->Option Value} {base:Heap}
def YX:Sp:=λvs H Q _=>Ex4 λ(bl:Addr) (fa:Addr) (zs:ZB) (fs:List Int)=>vs=[.ref bl,.ref fa]/\H bl=some (.lst (zs.map λz=>V.ref z.1))/\(∀z∈zs,H z.1=some (.lst (z.2.map V.int)))/\H fa=some (.lst (fs.map V.int))/\zs.length<=100/\∀H',Same H H'->Q (.bl (uC (zs.map (·.2)) fs)) H'
theorem QD:zF ["bad","figures"] ["bad","figures"] (zx tE):={}
theorem QZ(D:Df K mg "begins_one" tE Ad f fd)(T:Blt mg):FnOk P w K mg base CX0 1 f fd Ad YX:=by
 refine D.fn.ok QD (λvs H Q E h=>?_) (λcdv A outer s H vs Q E hr h=>?_)
 ·obtain⟨bl,fa,zs,fs,rfl,_⟩:=h;rfl
 ·obtain⟨bl,fa,zs,fs,rfl,hb,hz,hf,hl1,kk⟩:=h;have HU:=zax hr;refine⟨_,(zu (zG (zz (zdY K rfl) (by rfl) T.n_any boot_any (zf (yV (show CScope (zx tE) _ "stretch" ["bad","figures"] ["figures"] [1] from {}) rfl (je K (pv 0)) (λ_ _ _ _=>yX) (λ_ _ _ _=>(xr (zbu K HU) (yN (qD K) (pv 0) wA (yW (zz (wy K) (by rfl) T.n_len PySem.boot_len (zf (pv 1) zg)))) (pv 1) (zM _)))) zg)))),?_⟩;refine⟨_,rfl,bl,rfl,⟨_,SqL.of hb⟩,xu (λi ys H4=>ys=((zs.take i).map λz=>decide (z.2.take fs.length=fs)).map V.bl/\Same H H4) ⟨by simp,Same.refl _⟩ (λi ys H4 _ ⟨_,e⟩=>SqL.of (e _ _ hb)) ?_ ?_⟩
  ·rintro j x ys H4 hx ⟨rfl,s4⟩;rw[List.getElem?_map]at hx;obtain⟨z,hzj,e⟩:=Option.map_eq_some_iff.mp hx;subst e;have hzm:=List.mem_of_getElem? hzj;refine⟨?_,?_⟩
   ·rw[List.length_map,List.length_map,List.length_take];exact Nat.lt_of_le_of_lt (Nat.le_trans (Nat.min_le_right _ _) hl1) (by decide)
   unfold jJ;refine⟨_,rfl,_,rfl,fa,_,rfl,.inl (SqL.of (s4 _ _ hf)),_,rfl,z.1,_,rfl,SqL.of (s4 _ _ (hz z hzm)),λp hp=>?_⟩;rw[List.length_map,jn,<-List.map_take];refine⟨_,rfl,wK (z.2.take fs.length),wK fs,TrAt.ints (SqL.of zp),TrAt.ints (SqL.of (zr hp _ _ (s4 _ _ hf))),(by rw[ju];decide),?_,s4.trans (zr hp)⟩;rw[List.take_succ,hzj];have e2:=jC (z.2.take fs.length) fs;rw[e2];simp
  ·rintro ys H4 ⟨rfl,s4⟩ Dd hD;refine⟨Dd,_,rfl,SqL.of zp,?_⟩;have q:=kk _ (s4.trans (zr hD (o:=.lst (((zs.take (zs.map λz=>V.ref z.1).length).map λz=>decide (z.2.take fs.length=fs)).map V.bl))));rw[List.length_map,List.take_length]at q ⊢;unfold uC at q;rw[List.any_map]at q ⊢;exact q
def zgD(ls:ZA)(fs:List Int)(H H':Hp)(v:V):Prop:=(lacks ls fs=false/\v=.non)\/(lacks ls fs=true/\∃l,v=.ref l/\H l=none/\H' l=some (.lst ((zL ls fs).map V.int)))
def Zo:Sp:=λvs H Q _=>Ex4 λ(bl:Addr) (fa:Addr) (zs:ZB) (fs:List Int)=>vs=[.ref bl,.ref fa]/\H bl=some (.lst (zs.map λz=>V.ref z.1))/\(∀z∈zs,H z.1=some (.lst (z.2.map V.int)))/\H fa=some (.lst (fs.map V.int))/\zs.length<=100/\fs.length<=1000/\(∀z∈zs,z.2≠[]/\z.2.length<=1000) /\
 ∀v H',zgD (zs.map (·.2)) fs H H' v->Same H H'->Q v H'
theorem Zx:zF ["bad","figures","start"] ["bad","figures"] (zx xY):={}
theorem W5(D:Df K mg "longest_stand" xY Ad f fd)(yU:Df K mg "lacks_all" wW Ad f1 fd1)(xG:FnOk P w K mg base CX0 2 f1 fd1 Ad uU)(jY:Df K mg "begins_one" tE Ad f2 fd2)(T:Blt mg):FnOk P w K mg base CX0 3 f fd Ad Zo:=by
 have zaH:FnOk P w K mg base CX0 1 f2 fd2 Ad YX:=QZ jY T;refine D.fn.ok Zx (λvs H Q E h=>?_) (λcdv A outer s H vs Q E hr h=>?_)
 ·obtain⟨bl,fa,zs,fs,rfl,_⟩:=h;rfl
 ·obtain⟨bl,fa,zs,fs,rfl,hb,hz,hf,hl1,hl2,ne,kk⟩:=h;refine xO ?_;intro XX;let q1:Sq XX ((zq xY).drop 2):=⟨_,zu (zG (yc zg))⟩
  let q2:Sq XX ((zq xY).drop 1):=⟨_,zj (xj PassesOwn.never rfl (yt rfl T.n_range (zf (zz (wy K) (by rfl) T.n_len PySem.boot_len (zf (pv 1) zg)) zg)) (zV (i:=2) Zx.nd rfl (Or.inl rfl))
    (zu (yG (xx (zE jY zaH (hr.mono (by decide)) (zf (pv 0) (zf (yN (qD K) (pv 1) (yW (pv 2)) wA) zg))))
     (zu (zG (yN (qD K) (pv 1) (yW (pv 2)) wA)))
     zP))) q1.p⟩
  refine⟨_,(zj (yG (wD (xx (zE yU xG (hr.mono (by decide)) (zf (pv 0) (zf (pv 1) zg)))))
    (zu (zG xM))
    zP) q2.p),?_⟩
  refine⟨_,rfl,_,rfl,bl,fa,zs,fs,rfl,hb,hz,hf,hl1,hl2,ne,λH1 s1=>⟨_,rfl,?_⟩⟩;cases hL:lacks (zs.map (·.2)) fs with
  |false=>exact xU (kk _ _ (.inl ⟨hL,rfl⟩) s1)
  |true=>
   refine xF ?_;refine⟨_,rfl,fa,_,rfl,.inl (SqL.of (s1 _ _ hf)),(((fs.map V.int).length:Nat)),rfl,by omega,by rw[List.length_map];omega,yP (λi Z H2=>∃v1:Option V,Z=[some (.ref bl),some (.ref fa),v1]/\Same H H2/\∀k,k<i->uC (zs.map (·.2)) (fs.drop k)=false) ⟨none,rfl,s1,λk hk=>by omega⟩ ?_ ?_⟩
   ·rintro i Z H2 hi ⟨v1,rfl,s2,hno⟩;have hi':i<fs.length:=by rw[List.length_map]at hi;omega
    refine⟨_,rfl,_,rfl,_,rfl,_,rfl,fa,_,rfl,SqL.of (s2 _ _ hf),λp hp=>?_⟩;rw[Int.zero_add,jq,<-List.map_drop];have t:=s2.trans (zr hp (o:=.lst ((fs.drop i).map V.int)));refine⟨bl,p,zs,fs.drop i,rfl,t _ _ hb,λz hzm=>t _ _ (hz z hzm),zp,hl1,λH3 s3=>⟨_,rfl,?_⟩⟩;have t3:=t.trans s3;cases hB:uC (zs.map (·.2)) (fs.drop i) with
    |true=>
     refine xU ⟨_,rfl,_,rfl,_,rfl,fa,_,rfl,SqL.of (t3 _ _ hf),λq hq=>?_⟩;rw[jq,<-List.map_drop];refine kk _ _ (.inr ⟨hL,q,rfl,t3.free hq,?_⟩) (t3.trans (zr hq));rw[zp,zex (by omega) hno hB]
    |false=>
     refine xF ⟨_,rfl,t3,λk hk=>?_⟩;by_cases e:k<i
     ·exact hno k e
     ·have:k=i:=by omega
      rw[this];exact hB
   ·rintro Z H2 ⟨v1,rfl,s2,hno⟩;refine⟨(by decide),λq hq=>kk _ _ (.inr ⟨hL,q,rfl,s2.free hq,?_⟩) (s2.trans (zr hq))⟩;rw[zp,zb2 (λk hk=>hno k (by rw[List.length_map];omega))];rfl
end
section
variable {P:Program} {w:World} {K:W.Frag} {mg:Str->Option Value} {base:Heap} {T0:Addr}
def lamP:Pos:=⟨115,29,115,59⟩
def zf3:Scope:=match (zq yD).getLast? with
 |some (.Return (some (.Call _ _ [⟨_,.Lambda _ _ sc _,_⟩] _)) _)=>sc
 |_=>zx yD
theorem zgm:zF ["each"] ["each"] zf3:={}
theorem zel(s:Same H H')(h:H p=none):Same H (upd H' p o):=λb u e=>by rw[zB (zK e h)];exact s b u e
def SameL(T:Addr)(H H':Hp):Prop:=∀b u,b≠T->H b=some u->H' b=some u
abbrev LT(T:Addr)(H:Hp):Prop:=Xr T lamP ((("stands_of" : Str)++(".<locals>." : Str))++("<lambda>" : Str)) H
theorem SameL.of(s:Same H H'):SameL T H H':=λb u _ e=>s b u e
theorem SameL.trans(a:SameL T H H1)(b:SameL T H1 H2):SameL T H H2:=λc u h e=>b c u h (a c u h e)
theorem LT.same(h:LT T H)(s:Same H H'):LT T H':=by
 rcases h with h | ⟨c,h1,h2⟩
 ·exact .inl (s _ _ h)
 ·exact .inr ⟨c,s _ _ h1,s _ _ h2⟩
theorem LT.lst(h:LT T H)(e:H b=some (.lst xs)):b≠T:=λz=>by
 rw[z]at e;rcases h with h | ⟨c,h,_⟩
 ·rw[h]at e;cases e
 ·rw[h]at e;cases e
theorem LT.tup(h:LT T H)(e:H b=some (.tup xs)):b≠T:=λz=>by
 rw[z]at e;rcases h with h | ⟨c,h,_⟩
 ·rw[h]at e;cases e
 ·rw[h]at e;cases e
theorem LT.none(h:LT T H)(e:H b=none):b≠T:=λz=>by
 rw[z]at e;rcases h with h | ⟨c,h,_⟩
 ·rw[h]at e;cases e
 ·rw[h]at e;cases e
def Wl(T:Addr):Sp:=λvs H Q _=>Ex2 λ(bl:Addr) (zs:ZB)=>vs=[.ref bl]/\H bl=some (.lst (zs.map λz=>V.ref z.1))/\(∀z∈zs,H z.1=some (.lst (z.2.map V.int)))/\zs.length<=4/\(∀z∈zs,z.2≠[]/\z.2.length<=4)/\LT T H /\
 ∀(D:Addr) (ws:ZB) (H':Hp),H D=none->H' D=some (.lst (ws.map λz=>V.ref z.1))->(∀z∈ws,H z.1=none/\H' z.1=some (.lst (z.2.map V.int))/\z.1≠D)->StandsL (zs.map (·.2)) (ws.map (·.2))->ws.length<=13->SameL T H H'->LT T H'->Q (.ref D) H'
theorem uZ:zF ["bad","found","stretch","size","stand"] ["bad"] (zx yD):={}
theorem JH(D:Df K mg "stands_of" yD ["bad"] f fd)(hc:fd.code=.ref c)(hcT:W.codeHdIn K c T0=true)(hBM:base.BuiltinsAt mg T0)(hgT:mainGlobals≠T0)(yU:Df K mg "lacks_all" wW Ad f1 fd1)(xG:FnOk P w K mg base CX0 2 f1 fd1 Ad uU)(T:Blt mg):
    FnOk P w K mg base CX0 6 f fd ["bad"] (Wl T0):=by
  obtain⟨oc,od,kV,doc,pm,an,cdv,ct,osl,rfl,lk,hcd⟩:=D.fn.ex;obtain rfl:cdv=.ref c:=hc;refine zem lk hcd uZ (λvs H Q E h=>?_) (λA outer s H vs Q E hr h=>?_)
  · obtain⟨bl,zs,rfl,_⟩:=h;rfl
  · obtain⟨bl,zs,rfl,hb,hz,h4,hst,hLT,kk⟩:=h
    have HU:=zax hr;have lam_body:∀(f' c':Addr) (s':Shared) (H':Hp) (z:Addr×List Int),H' z.1=some (.lst (z.2.map V.int))->∃t,PE (XJ CX0 P w K mg base ["each"] ((("stands_of" : Str)++(".<locals>." : Str))++("<lambda>" : Str)) zf3 f' (.ref c') (A.deeper (envOfC "stands_of" (zx yD) s.heap.objs.size f (.ref c))).in1.in1 (envOfC "stands_of" (zx yD) s.heap.objs.size f (.ref c)::outer) s' H' E0)
        (match (zq yD).getLast? with
          |some (.Return (some (.Call _ _ [⟨_,.Lambda _ b _ _,_⟩] _)) _)=>b
          |_=>.Constant .none 0 ⟨0,0,0,0⟩) t /\
        t (start ["each"] [.ref z.1]) H' λv H2=>∃p,v=.ref p/\H' p=none/\H2=upd H' p (.tup [.int z.2.length,.ref z.1]):=by
      intro f' c' s' H' z hz';refine⟨_,(wC (zf (zz (wy K) (by rfl) T.n_len PySem.boot_len (zf (pv 0) zg)) (zf (pv 0) zg))),?_⟩;refine⟨_,rfl,z.1,_,rfl,.inl (SqL.of hz'),_,rfl,(by show 2<=sizeLine;decide),λp hp=>⟨p,rfl,hp,?_⟩⟩;rw[List.length_map]
    refine Exists.elim (?key:∃t,PSs (XJ CX0 P w K mg base ["bad","found","stretch","size","stand"] "stands_of" (zx yD) f (.ref c) A outer s H E).nox (zq yD) t/\t { nx:=λ_ H'=>Q .non H',rt:=Q } (start ["bad","found","stretch","size","stand"] [.ref bl]) H) λt h=>⟨t,h.1.nox,h.2⟩
    refine xO ?_;intro XX;let q1:Sq XX ((zq yD).drop 2):=⟨_,zu (zG (zbT (k:=1) (pv 1) rfl T.n_sorted (hr.mono (by decide)) rfl rfl rfl hcT hBM hgT zgm (λ_ _ _ _=>rfl) lam_body))⟩
    let q2:Sq XX ((sb (sb (zq yD) 1 true) 0 true).drop 1):=⟨_,zu (yG (PW.pt (Vh (zO (zeJ K HU) (pv 4) (pv 1) (by with_unfolding_all rfl)) (YQ (xx (zE yU xG (hr.mono (by decide)) (zf (pv 0) (zf (pv 4) zg)))))))
            (zu (wI (Yj PySem.F.plainAttrs_list PySem.F.slot_list_append PySem.F.type_list_append vB (pv 1) (zf (pv 4) zg))))
            zP)⟩
    let q3:Sq XX ((zq yD).drop 1):=⟨_,zj (xj PassesOwn.never rfl (je K (pv 0)) (zV (i:=2) uZ.nd rfl (Or.inl rfl))
        (zu (xj PassesOwn.never rfl (YL rfl T.n_range (zf zm (zf (zz (wy K) (by rfl) T.n_len PySem.boot_len (zf (pv 2) zg)) zg))) (zV (i:=3) uZ.nd rfl (Or.inl rfl))
          (zj (zA (i:=4) uZ.nd rfl (Or.inl rfl) (yN (qD K) (pv 2) wA (yW (pv 3)))) q2.p)))) q1.p⟩
    refine⟨_,(zj (zA (i:=1) uZ.nd rfl (Or.inl rfl) (yc (zf (yc zg) zg))) q3.p),?_⟩;have hls:∀st∈zs.map (·.2),st≠[]/\st.length<=4:=λst h=>by obtain⟨z,hz,rfl⟩:=List.mem_map.mp h;exact hst z hz
    refine⟨(by decide:0<=sizeLine),λe0 he0=>⟨(by show 1<=sizeLine;decide),λfo hfo=>?_⟩⟩;have hfoH:H fo=none:=(zr he0).free hfo;have nef:e0≠fo:=λz=>by rw[<-z,zp]at hfo;cases hfo
    let Inv1:ZB->(List Int->Prop)->Hp->Prop:=λws M H2=>H2 fo=some (.lst (ws.map λz=>V.ref z.1))/\(∀z∈ws,H z.1=none/\H2 z.1=some (.lst (z.2.map V.int))/\z.1≠fo)/\(ws.map (·.2)).Nodup/\(∀x,x∈ws.map (·.2)↔M x)/\Same H H2;let M1:Nat->List Int->Prop:=λi x=>x=[]\/∃z∈zs.take i,∃k,1<=k/\k<z.2.length/\x=z.2.take k/\lacks (zs.map (·.2)) x=true;refine⟨_,rfl,bl,rfl,⟨_,SqL.of ((zr he0).trans (zr hfo) _ _ hb)⟩,qH (K:=K) (a:=bl) (xs:=zs.map λz=>V.ref z.1) (λi Z H2=>∃(v2 v3 v4:Option V) (ws:ZB),Z=[some (.ref bl),some (.ref fo),v2,v3,v4]/\Inv1 ws (M1 i) H2/\ws.length<=1+3*i)
      ⟨none,none,none,[(e0,[])],rfl,⟨zp,λz hz'=>?_,by simp,λx=>?_,(zr he0).trans (zr hfo)⟩,by simp⟩ (λi Z H2 _ ⟨_,_,_,_,_,⟨_,_,_,_,e⟩,_⟩=>SqL.of (e _ _ hb)) ?_ ?_⟩
    · have e:z=(e0,[]):=by simpa using hz'
      subst e;exact⟨he0,by rw[zB nef,zp];rfl,nef⟩
    · constructor
      · intro hx
        exact .inl (by simpa using hx)
      · rintro (rfl | ⟨z,hz',_⟩)
        · simp
        · simp at hz'
    · rintro i x Z H2 hx ⟨v2,v3,v4,ws,rfl,⟨hF,hW,ndW,hM,sm⟩,hlen⟩
      rw[List.getElem?_map]at hx;obtain⟨z,hzj,e⟩:=Option.map_eq_some_iff.mp hx;subst e;have hzm:=List.mem_of_getElem? hzj;have hi4:i<zs.length:=(List.getElem?_eq_some_iff.mp hzj).1;obtain⟨hne,hz4⟩:=hst z hzm;have hpos:0<z.2.length:=List.length_pos_iff.mpr hne;refine⟨_,rfl,z.1,_,rfl,.inl (SqL.of (sm _ _ (hz z hzm))),1,_,rfl,?_,?_⟩
      · rw[List.length_map];omega
      rw[List.length_map];refine yP (lo:=1) (n:=((z.2.length:Int)-1).toNat) (λj Z H3=>∃(v3 v4:Option V) (ws:ZB),Z=[some (.ref bl),some (.ref fo),some (.ref z.1),v3,v4]/\Inv1 ws (λx=>M1 i x\/∃k,1<=k/\k<=j/\x=z.2.take k/\lacks (zs.map (·.2)) x=true) H3/\ws.length<=1+3*i+j)
        ⟨_,_,ws,rfl,⟨hF,hW,ndW,λx=>?_,sm⟩,hlen⟩ ?_ ?_
      · rw[hM]
        constructor
        · exact .inl
        · rintro (h | ⟨k,h1,h2,_⟩)
          · exact h
          · omega
      · rintro j Z H3 hj ⟨v3,v4,ws,rfl,⟨hF,hW,ndW,hM,sm⟩,hlen⟩
        have hj':j+1<z.2.length:=by omega
        refine⟨_,rfl,_,rfl,_,rfl,z.1,_,rfl,SqL.of (sm _ _ (hz z hzm)),λp hp=>?_⟩;rw[show (1:Int)+(j:Int)=((j+1:Nat):Int) by omega,jn,<-List.map_take];have sm2:=sm.trans (zr hp (o:=.lst ((z.2.take (j+1)).map V.int)));have hF2:(upd H3 p (.lst ((z.2.take (j+1)).map V.int))) fo=some (.lst (ws.map λz=>V.ref z.1)):=zr hp _ _ hF;have hW2:∀y∈ws,H y.1=none/\(upd H3 p (.lst ((z.2.take (j+1)).map V.int))) y.1=some (.lst (y.2.map V.int))/\y.1≠fo:=λy hy=>⟨(hW y hy).1,zr hp _ _ (hW y hy).2.1,(hW y hy).2.2⟩
        have npf:p≠fo:=λy=>by rw[y,hF]at hp;cases hp
        have hpH:H p=none:=sm.free hp;generalize hx:z.2.take (j+1)=x at *;have hxl:x.length<=4:=by rw[<-hx,List.length_take];omega
        have stay:(x∈ws.map (·.2)\/lacks (zs.map (·.2)) x=false)->∀y,y∈ws.map (·.2)↔(M1 i y\/∃k,1<=k/\k<=j+1/\y=z.2.take k/\lacks (zs.map (·.2)) y=true):=λhor y=>by
          constructor
          · intro hy
            rcases (hM y).mp hy with h | ⟨k,h1,h2,h3⟩
            · exact .inl h
            · exact .inr ⟨k,h1,by omega,h3⟩
          · rintro (h | ⟨k,h1,h2,h3,h4⟩)
            · exact (hM y).mpr (.inl h)
            · by_cases hk:k<=j
              · exact (hM y).mpr (.inr ⟨k,h1,hk,h3,h4⟩)
              · have:k=j+1:=by omega
                rw[this,hx]at h3;rw[h3]at h4 ⊢;rcases hor with h | h
                · exact h
                · rw[h]at h4;cases h4
        refine⟨_,rfl,_,rfl,fo,_,(ws.map (·.2)).map wK,wK x,rfl,SqL.of hF2,TrsAt.lists (λy hy=>(hW2 y hy).2.1),TrAt.ints (a:=p) (SqL.of zp),Nat.le_trans (jT _) (by decide),_,rfl,?_⟩;rw[if_pos rfl,zdf];by_cases hin:x∈ws.map (·.2)
        · rw[decide_eq_true hin]
          refine xF ?_;exact xF ⟨_,_,ws,rfl,⟨hF2,hW2,ndW,stay (.inl hin),sm2⟩,by omega⟩
        · rw[decide_eq_false hin]
          refine xU ?_;refine⟨_,rfl,_,rfl,bl,p,zs,x,rfl,sm2 _ _ hb,λy hy=>sm2 _ _ (hz y hy),zp,by omega,by omega,λy hy=>⟨(hst y hy).1,Nat.le_trans (hst y hy).2 (by decide)⟩,λH4 s4=>⟨_,rfl,?_⟩⟩;have sm4:=sm2.trans s4;have hF4:=s4 _ _ hF2;have hW4:∀y∈ws,H y.1=none/\H4 y.1=some (.lst (y.2.map V.int))/\y.1≠fo:=λy hy=>⟨(hW2 y hy).1,s4 _ _ (hW2 y hy).2.1,(hW2 y hy).2.2⟩
          have hp4:=s4 _ _ (zp (H:=H3) (a:=p) (o:=.lst (x.map V.int)));cases hLk:lacks (zs.map (·.2)) x with
          |false=>exact xF ⟨_,_,ws,rfl,⟨hF4,hW4,ndW,stay (.inr hLk),sm4⟩,by omega⟩
          |true=>
            refine xU ⟨_,rfl,.inl ⟨rfl,_,SqL.of hF4⟩,_,rfl,fo,_,_,rfl,rfl,hF4,by rw[List.length_map];exact Nat.lt_of_le_of_lt (show ws.length<=100 by omega) (by decide),?_⟩;refine⟨_,_,ws++[(p,x)],rfl,⟨by rw[zp,List.map_append];rfl,λy hy=>?_,?_,λy=>?_,zel sm4 hfoH⟩,by rw[List.length_append,List.length_singleton];omega⟩
            · rcases List.mem_append.mp hy with hy | hy
              · obtain⟨a1,a2,a3⟩:=hW4 y hy
                exact⟨a1,by rw[zB a3];exact a2,a3⟩
              · rw[List.mem_singleton.mp hy]
                exact⟨hpH,by rw[zB npf];exact hp4,npf⟩
            · rw[List.map_append]
              refine List.nodup_append.mpr ⟨ndW,by simp,λa ha b hb'=>?_⟩;have e:b=x:=by simpa using hb'
              rw[e];exact λq=>hin (q▸ha)
            · rw[List.map_append,List.mem_append]
              constructor
              · rintro (h | h)
                · rcases (hM y).mp h with h | ⟨k,h1,h2,h3⟩
                  · exact .inl h
                  · exact .inr ⟨k,h1,by omega,h3⟩
                · have e:y=x:=by simpa using h
                  rw[e];exact .inr ⟨j+1,by omega,Nat.le_refl _,hx.symm,hLk⟩
              · rintro (h | ⟨k,h1,h2,h3,h4⟩)
                · exact .inl ((hM y).mpr (.inl h))
                · by_cases hk:k<=j
                  · exact .inl ((hM y).mpr (.inr ⟨k,h1,hk,h3,h4⟩))
                  · have:k=j+1:=by omega
                    rw[this,hx]at h3;exact .inr (by simp[h3])
      · rintro Z H3 ⟨v3,v4,ws,rfl,⟨hF,hW,ndW,hM,sm⟩,hlen⟩
        refine⟨_,_,_,ws,rfl,⟨hF,hW,ndW,λx=>?_,sm⟩,by omega⟩;rw[hM];constructor
        · rintro ((h | ⟨y,hy,h⟩) | ⟨k,h1,h2,h3⟩)
          · exact .inl h
          · exact .inr ⟨y,by rw[List.take_succ];exact List.mem_append_left _ hy,h⟩
          · exact .inr ⟨z,by rw[List.take_succ,hzj];simp,k,h1,by omega,h3⟩
        · rintro (h | ⟨y,hy,k,h1,h2,h3⟩)
          · exact .inl (.inl h)
          · rw[List.take_succ,hzj]at hy
            rcases List.mem_append.mp hy with hy | hy
            · exact .inl (.inr ⟨y,hy,k,h1,h2,h3⟩)
            · have e:y=z:=by simpa using hy
              rw[e]at h2 h3;exact .inr ⟨k,h1,by omega,h3⟩
    · rintro Z H2 ⟨v2,v3,v4,ws,rfl,⟨hF,hW,ndW,hM,sm⟩,hlen⟩
      rw[List.length_map]at hM hlen;refine⟨_,rfl,fo,ws,rfl,hF,λz hz'=>(hW z hz').2.1,ndW,by omega,hLT.same sm,λD ws' H3 hD hD3 up lt pm pw=>?_⟩;have lt2:=hLT.same sm;have inw:∀z∈ws',z∈ws:=λz hz'=>pm.mem_iff.mp hz';refine kk D ws' _ (sm.free hD) zp (λz hz'=>?_) ⟨λx=>?_,by rw[List.pairwise_map];exact pw⟩ (by rw[pm.length_eq];omega) (λb u hb' e=>?_) ?_
      · obtain⟨a1,a2,a3⟩:=hW z (inw z hz')
        have n1:z.1≠D:=zK a2 hD;exact⟨a1,by rw[zB n1];exact up _ _ (lt2.lst a2) a2,n1⟩
      · have e:x∈ws'.map (·.2)↔x∈ws.map (·.2):=(pm.map (·.2)).mem_iff
        rw[e,hM];show (x=[]\/_)↔(x=[]\/_);constructor
        · rintro (h | ⟨z,hz',k,h1,h2,h3,h4⟩)
          · exact .inl h
          · rw[List.take_length]at hz'
            exact .inr ⟨z.2,List.mem_map.mpr ⟨z,hz',rfl⟩,k,h1,h2,h3,h4⟩
        · rintro (h | ⟨st,hst',k,h1,h2,h3,h4⟩)
          · exact .inl h
          · obtain⟨z,hz',rfl⟩:=List.mem_map.mp hst'
            exact .inr ⟨z,by rw[List.take_length];exact hz',k,h1,h2,h3,h4⟩
      · have q:=up b u hb' (sm _ _ e)
        rw[zB (zK q hD3)];exact q
      · exact LT.same (show LT T0 H3 from lt) (zr hD3)
def plc(ls ws:ZA)(fs:List Int):V:=if lacks ls fs=true then .int ((ws.idxOf (zL ls fs):Nat):Int) else .non
theorem Yi{x:List Int}:∀{xs:ZA} {m:Nat},m<xs.idxOf x->∀h:m<xs.length,xs[m]≠x
 |[],m,h,h'=>by simp at h'
 |y::ys,m,h,h'=>by
  rw[List.idxOf_cons]at h;by_cases e:y=x
  ·subst e;simp at h
  ·have e':(y == x)=false:=by simpa using e
   rw[e']at h;cases m with
   |zero=>simpa using e
   |succ m=>simpa using Yi (by simpa using h) (by simpa using h')
def Yd:Sp:=λvs H Q _=>Ex6 λ(bl:Addr) (Dd:Addr) (fa:Addr) (zs:ZB) (ws:ZB) (fs:List Int)=>vs=[.ref bl,.ref Dd,.ref fa]/\H bl=some (.lst (zs.map λz=>V.ref z.1))/\(∀z∈zs,H z.1=some (.lst (z.2.map V.int)))/\H Dd=some (.lst (ws.map λz=>V.ref z.1))/\(∀z∈ws,H z.1=some (.lst (z.2.map V.int)))/\H fa=some (.lst (fs.map V.int))/\zs.length<=4/\ws.length<=13/\fs.length<=1000/\(∀z∈zs,z.2≠[]/\z.2.length<=4) /\
 (lacks (zs.map (·.2)) fs=true->zL (zs.map (·.2)) fs∈ws.map (·.2))/\∀H',Same H H'->Q (plc (zs.map (·.2)) (ws.map (·.2)) fs) H'
theorem Yb:zF ["bad","stands","figures","stand"] ["bad","stands","figures"] (zx wO):={}
theorem VL(D:Df K mg "place_behind" wO Aw f fd)(tM:Df K mg "longest_stand" xY Ad f1 fd1)(jH:FnOk P w K mg base CX0 3 f1 fd1 Ad Zo):FnOk P w K mg base CX0 4 f fd Aw Yd:=by
 refine D.fn.ok Yb (λvs H Q E h=>?_) (λcdv A outer s H vs Q E hr h=>?_)
 ·obtain⟨bl,Dd,fa,zs,ws,fs,rfl,_⟩:=h;rfl
 ·obtain⟨bl,Dd,fa,zs,ws,fs,rfl,hb,hz,hD,hw,hf,h4,h13,hl,hst,hin,kk⟩:=h;have HU:=zax hr;refine xO ?_;intro XX;let q1:Sq XX ((zq wO).drop 2):=⟨_,zu (zG (Yj PySem.F.plainAttrs_list PySem.F.slot_list_index PySem.F.type_list_index (zd9 K HU) (pv 1) (zf (pv 3) zg)))⟩
  let q2:Sq XX ((zq wO).drop 1):=⟨_,zj (yG (zO Xv (pv 3) xM (zM _))
    (zu (zG xM))
    zP) q1.p⟩
  refine⟨_,(zj (zA (i:=3) Yb.nd rfl (Or.inl rfl) (zE tM jH (hr.mono (by decide)) (zf (pv 0) (zf (pv 2) zg)))) q2.p),?_⟩;refine⟨_,rfl,_,rfl,bl,fa,zs,fs,rfl,hb,hz,hf,by omega,hl,λz hz=>⟨(hst z hz).1,Nat.le_trans (hst z hz).2 (by decide)⟩,λv H1 sv s1=>?_⟩;have q:=kk H1 s1;unfold plc at q;rcases sv with ⟨hL,rfl⟩ | ⟨hL,l,rfl,hn,hv⟩
  ·rw[hL,if_neg (by decide)]at q;exact⟨_,rfl,rfl,_,rfl,xU q⟩
  ·rw[if_pos hL]at q;have hm:=hin hL;have hlt:=List.idxOf_lt_length_iff.mpr hm;refine⟨_,rfl,rfl,_,rfl,xF ?_⟩;refine⟨_,rfl,.inl ⟨rfl,_,SqL.of (s1 _ _ hD)⟩,_,rfl,Dd,_,_,(ws.map (·.2)).map wK,wK (zL (zs.map (·.2)) fs),(ws.map (·.2)).idxOf (zL (zs.map (·.2)) fs),rfl,rfl,SqL.of (s1 _ _ hD),TrsAt.lists (λz hz=>s1 _ _ (hw z hz)),TrAt.ints (SqL.of hv),Nat.le_trans (jT _) (by decide),by rw[List.length_map];exact hlt,?_,?_,q⟩
   ·intro t ht;rw[List.getElem?_map,List.getElem?_eq_getElem hlt,Option.map_some]at ht;rw[<-Option.some.inj ht,List.getElem_idxOf hlt,jC,decide_eq_true rfl]
   ·intro m t hm' ht;rw[List.getElem?_map,List.getElem?_eq_getElem (Nat.lt_trans hm' hlt),Option.map_some]at ht;rw[<-Option.some.inj ht,jC,decide_eq_false];intro e;have q3:=Yi hm' (Nat.lt_trans hm' hlt);exact q3 e
def VF(ls ws:ZA)(b:Nat)(x:List Int):List V:=(List.range b).map λ(c:Nat)=>plc ls ws (x++[(c:Int)])
def Xd:Sp:=λvs H Q _=>Ex6 λ(r:Addr) (b:Nat) (bl:Addr) (zs:ZB) (Dd:Addr) (ws:ZB)=>Ex2 λsa xs=>vs=[.ref r,.ref Dd,.ref sa]/\RuleAt H r b bl zs/\yx b (zs.map (·.2))/\H Dd=some (.lst (ws.map λz=>V.ref z.1))/\(∀z∈ws,H z.1=some (.lst (z.2.map V.int)))/\StandsL (zs.map (·.2)) (ws.map (·.2))/\ws.length<=13/\H sa=some (.lst (xs.map V.int))/\xs.length<=100 /\
 ∀p H',H p=none->Same H H'->H' p=some (.lst (VF (zs.map (·.2)) (ws.map (·.2)) b xs))->Q (.ref p) H'
theorem QW:zF ["rule","stands","stand"] ["rule","stands","stand"] (zx tG):={}
theorem QQ(D:Df K mg "steps_from" tG At f fd)(qw:Df K mg "place_behind" wO Aw f1 fd1)(Zi:FnOk P w K mg base CX0 4 f1 fd1 Aw Yd)(T:Blt mg):FnOk P w K mg base CX0 5 f fd At Xd:=by
 refine D.fn.ok QW (λvs H Q E h=>?_) (λcdv A outer s H vs Q E hr h=>?_)
 ·obtain⟨r,b,bl,zs,Dd,ws,sa,xs,rfl,_⟩:=h;rfl
 ·obtain⟨r,b,bl,zs,Dd,ws,sa,xs,rfl,R,g,hD,hw,SL,h13,hs,hl,kk⟩:=h;have h4:zs.length<=4:=by have:=g.len;rwa[List.length_map]at this
  have ne:∀l∈zs.map (·.2),l≠[]:=λl hl=>(g.st l hl).ne;refine⟨_,(zu (zG (yV (show CScope (zx tG) _ "figure" ["rule","stands","stand"] ["stands","rule","stand"] [1,0,2] from {}) rfl (yt rfl T.n_range (zf (zR (vO K) (pv 0) zm (λ_ _=>rfl)) zg)) (λ_ _ _ _=>yX) (λ_ _ _ _=>(zE qw Zi (hr.mono (by decide)) (zf (zR (vO K) (pv 2) zm (λ_ _=>rfl)) (zf (pv 1) (zf (zy wQ (pv 3) (yc (zf (pv 0) zg))) zg)))))))),?_⟩;have b16:=g.b16;refine⟨_,rfl,r,_,_,V.int b,rfl,rfl,SqT.of R.tu,rfl,b,rfl,by omega,by omega,vQ (λi ys H4=>ys=VF (zs.map (·.2)) (ws.map (·.2)) i xs/\Same H H4) ⟨rfl,Same.refl _⟩ ?_ ?_⟩
  ·rintro i ys H4 hi ⟨rfl,s4⟩;have hi':i<b:=by omega
   refine⟨?_,?_⟩
   ·unfold VF;rw[List.length_map,List.length_range];exact Nat.lt_of_lt_of_le (show i<16 by omega) (by decide)
   unfold jJ;dsimp only;have R4:=R.same s4;have hs4:=s4 _ _ hs;refine⟨_,rfl,r,_,_,V.ref bl,rfl,rfl,SqT.of R4.tu,rfl,_,rfl,_,rfl,_,rfl,(by show 1<=sizeLine;decide),λp1 q1=>?_⟩;have n1:=zK hs4 q1;refine⟨sa,p1,_,_,rfl,rfl,by rw[zB n1];exact hs4,zp,by rw[List.length_map];exact Nat.le_trans (show xs.length+1<=101 by omega) (by decide),λp2 q2=>?_⟩;have t2:=s4.trans ((zr q1).trans (zr q2 (o:=.lst (xs.map V.int++[V.int (0+i)]))));have R5:=R.same t2;refine⟨bl,Dd,p2,zs,ws,xs++[0+(i:Int)],rfl,R5.li,R5.st,t2 _ _ hD,λz hz=>t2 _ _ (hw z hz),by rw[zp,List.map_append];rfl,h4,h13,by rw[List.length_append,List.length_singleton];omega,λz hz=>⟨(g.st _ (List.mem_map.mpr ⟨z,hz,rfl⟩)).ne,(g.st _ (List.mem_map.mpr ⟨z,hz,rfl⟩)).len⟩,λh=>(SL.mem _).mpr (jz ne h),λH5 s5=>⟨?_,t2.trans s5⟩⟩;unfold VF;rw[List.range_succ,List.map_append,Int.zero_add];rfl
  ·rintro ys H4 ⟨rfl,s4⟩ p hp;refine kk p _ (s4.free hp) (s4.trans (zr hp)) ?_;rw[zp,Int.toNat_natCast]
def Ur(ls ws:ZA)(b:Nat):List (List V):=ws.map (VF ls ws b)++[V.int (ws.length:Nat)::(VF ls ws b []).drop 1]
def WL:Sp:=λvs H Q _=>Ex6 λ(r:Addr) (b:Nat) (bl:Addr) (zs:ZB) (Dd:Addr) (ws:ZB)=>vs=[.ref r,.ref Dd]/\RuleAt H r b bl zs/\yx b (zs.map (·.2))/\H Dd=some (.lst (ws.map λz=>V.ref z.1))/\(∀z∈ws,H z.1=some (.lst (z.2.map V.int)))/\StandsL (zs.map (·.2)) (ws.map (·.2))/\ws.length<=13 /\
 ∀(p:Addr) (rs:List (Addr×List V)) (H':Hp),H p=none->Same H H'->H' p=some (.lst (rs.map λz=>V.ref z.1))->(∀z∈rs,H z.1=none/\H' z.1=some (.lst z.2))->rs.map (·.2)=Ur (zs.map (·.2)) (ws.map (·.2)) b->Q (.ref p) H'
theorem Wn:zF ["rule","stands","steps"] ["rule","stands"] (zx uM):={}
theorem J0(D:Df K mg "all_steps" uM Ax f fd)(j8:Df K mg "steps_from" tG At f1 fd1)(Yq:FnOk P w K mg base CX0 5 f1 fd1 At Xd)(T:Blt mg):FnOk P w K mg base CX0 6 f fd Ax WL:=by
 refine D.fn.ok Wn (λvs H Q E h=>?_) (λcdv A outer s H vs Q E hr h=>?_)
 ·obtain⟨r,b,bl,zs,Dd,ws,rfl,_⟩:=h;rfl
 ·obtain⟨r,b,bl,zs,Dd,ws,rfl,R,g,hD,hw,SL,h13,kk⟩:=h;have l3:∀z∈ws,z.2.length<=3:=λz hz=>za8 (λst h=>(g.st st h).len) ((SL.mem _).mp (List.mem_map.mpr ⟨z,hz,rfl⟩));obtain⟨w1,hw1⟩:=SL.first;refine xO ?_;intro XX;let q1:Sq XX ((zq uM).drop 1):=⟨_,zu (zG (zy wQ (pv 2) (yc (zf (zy wQ (yc (zf (zz (wy K) (by rfl) T.n_len PySem.boot_len (zf (pv 1) zg)) zg)) (yN (qD K) (zR (yJ K) (pv 2) zm (λ_ _=>rfl)) (yW zm) wA)) zg))))⟩
  refine⟨_,(zj (Qu (i:=2) (show CScope (zx uM) _ "stand" ["rule","stands","steps"] ["rule","stands"] [0,1] from {}) rfl Wn.nd rfl (Or.inl rfl) (je K (pv 1)) (λ_ _ _ _=>yX) (λ_ _ _ _=>(zE j8 Yq (hr.mono (by decide)) (zf (pv 1) (zf (pv 2) (zf (pv 0) zg)))))) q1.p),?_⟩;refine⟨_,rfl,Dd,rfl,⟨_,SqL.of hD⟩,xu (λi ys H4=>∃rs:List (Addr×List V),ys=(rs.map λz=>V.ref z.1)/\(∀z∈rs,H z.1=none/\H4 z.1=some (.lst z.2))/\rs.map (·.2)=(ws.take i).map (λz=>VF (zs.map (·.2)) (ws.map (·.2)) b z.2)/\Same H H4) ⟨[],rfl,λz hz=>(by cases hz),rfl,Same.refl _⟩ (λi ys H4 _ ⟨_,_,_,_,e⟩=>SqL.of (e _ _ hD)) ?_ ?_⟩
  ·rintro j x ys H4 hx ⟨rs,rfl,hrs,hr2,s4⟩;rw[List.getElem?_map]at hx;obtain⟨z,hzj,e⟩:=Option.map_eq_some_iff.mp hx;subst e;have hzm:=List.mem_of_getElem? hzj;refine⟨?_,?_⟩
   ·have e1:=congrArg List.length hr2;rw[List.length_map,List.length_map,List.length_take]at e1;rw[List.length_map,e1];exact Nat.lt_of_le_of_lt (Nat.le_trans (Nat.min_le_right _ _) h13) (by decide)
   unfold jJ;dsimp only;refine⟨_,rfl,_,rfl,_,rfl,r,b,bl,zs,Dd,ws,z.1,z.2,rfl,R.same s4,g,s4 _ _ hD,λz hz=>s4 _ _ (hw z hz),SL,h13,s4 _ _ (hw z hzm),Nat.le_trans (l3 z hzm) (by decide),λp H5 hp s5 hv=>?_⟩;refine⟨rs++[(p,VF (zs.map (·.2)) (ws.map (·.2)) b z.2)],by simp,λy hy=>?_,?_,s4.trans s5⟩
   ·rcases List.mem_append.mp hy with h | h
    ·exact⟨(hrs y h).1,s5 _ _ (hrs y h).2⟩
    ·rw[List.mem_singleton]at h;subst h;exact⟨s4.free hp,hv⟩
   ·rw[List.map_append,hr2,List.take_succ,hzj];simp
  ·rintro ys H4 ⟨rs,rfl,hrs,hr2,s4⟩ p hp;have hl2:=congrArg List.length hr2;rw[List.length_map,List.take_length]at hr2;rw[List.length_map,List.length_map,List.length_take,List.length_map,Nat.min_self]at hl2;obtain⟨w0,ws',rfl⟩:∃w0 ws',ws=w0::ws':=by
    cases ws with
    |nil=>simp at hw1
    |cons a b=>exact⟨a,b,rfl⟩
   have hw0:w0.2=[]:=by
    exact (List.cons.inj hw1).1
   obtain⟨r0,rs',rfl⟩:∃r0 rs',rs=r0::rs':=by
    cases rs with
    |nil=>simp at hl2
    |cons a b=>exact⟨a,b,rfl⟩
   have hr0:r0.2=VF (zs.map (·.2)) ((w0::ws').map (·.2)) b []:=by
    have e:=(List.cons.inj hr2).1;rw[<-hw0];exact e
   have t4:=s4.trans (zr hp (o:=.lst ((r0::rs').map λz=>V.ref z.1)));have hr04:∀z∈r0::rs',upd H4 p (.lst ((r0::rs').map λz=>V.ref z.1)) z.1=some (.lst z.2):=λz hz=>zr hp _ _ (hrs z hz).2;refine⟨_,rfl,_,rfl,Dd,_,rfl,.inl (SqL.of (t4 _ _ hD)),(by show 1<=sizeLine;decide),λp1 q1=>?_⟩;have u1:=zr q1 (o:=.lst [V.int (((w0::ws').map λz=>V.ref z.1).length)]);refine⟨_,rfl,p,_,_,V.ref r0.1,rfl,rfl,SqL.of (u1 _ _ zp),xW rfl,_,rfl,r0.1,_,rfl,SqL.of (u1 _ _ (hr04 r0 List.mem_cons_self)),λp2 q2=>?_⟩;have hb1:r0.2.length<=16:=by
    rw[hr0];unfold VF;rw[List.length_map,List.length_range];exact g.b16
   have u2:=u1.trans (zr q2 (o:=.lst (uQ r0.2 (some 1) none)));refine⟨p1,p2,_,_,rfl,rfl,zr q2 _ _ zp,zp,?_,λp3 q3=>?_⟩
   ·rw[show 1=((1:Nat):Int) from rfl,jq,List.length_drop,List.length_singleton];exact Nat.le_trans (show 1+(r0.2.length-1)<=100 by omega) (by decide)
   have ev:([V.int (((w0::ws').map λz=>V.ref z.1).length)]++uQ r0.2 (some 1) none)=V.int (((w0::ws').map (·.2)).length)::(VF (zs.map (·.2)) ((w0::ws').map (·.2)) b []).drop 1:=by
    rw[show 1=((1:Nat):Int) from rfl,jq,hr0,List.length_map,List.length_map];rfl
   have u3:=u2.trans (zr q3 (o:=.lst ([V.int (((w0::ws').map λz=>V.ref z.1).length)]++uQ r0.2 (some 1) none)));refine⟨(by show 1<=sizeLine;decide),λp4 q4=>?_⟩;have u4:=u3.trans (zr q4 (o:=.lst [V.ref p3]));refine⟨p,p4,_,_,rfl,rfl,u4 _ _ zp,zp,?_,λp5 q5=>?_⟩
   ·rw[List.length_map,List.length_singleton];exact Nat.le_trans (show (r0::rs').length+1<=100 by omega) (by decide)
   have u5:=u4.trans (zr q5 (o:=.lst ((r0::rs').map (λz=>V.ref z.1)++[V.ref p3])));refine kk p5 (r0::rs'++[(p3,[V.int (((w0::ws').map λz=>V.ref z.1).length)]++uQ r0.2 (some 1) none)]) _ (t4.free (u4.free q5)) (t4.trans u5) ?_ ?_ ?_
   ·rw[zp,List.map_append];rfl
   ·intro z hz;rcases List.mem_append.mp hz with h | h
    ·exact⟨(hrs z h).1,u5 _ _ (hr04 z h)⟩
    ·rw[List.mem_singleton]at h;subst h;exact⟨t4.free (u2.free q3),zr q5 _ _ (zr q4 _ _ zp)⟩
   ·rw[List.map_append,hr2,ev];unfold Ur;rw[List.map_map];rfl
end
structure ClT (K:W.Frag) (mg:Str->Option Value) (C:Addr):Prop where
 cl:Cls K C
 nm:mg "Tails"= some (.ref C)
 n_base:NoAttr K C "base"
 n_outset:NoAttr K C "outset"
 n_steps:NoAttr K C "steps"
 n_layers:NoAttr K C "layers"
def WP(b n:Nat)(sa la:Addr):List (Str×V):=wR "layers" (.ref la) (wR "steps" (.ref sa) (wR "outset" (.int n) (wR "base" (.int b) [])))
theorem zdu(b n:Nat)(sa la:Addr):(WP b n sa la).lookup ("base" : Str)=some (.int b):=by
 unfold WP;rw[yp,if_neg (by decide +kernel),yp,if_neg (by decide +kernel),yp,if_neg (by decide +kernel),yp,if_pos rfl]
theorem Vq(b n:Nat)(sa la:Addr):(WP b n sa la).lookup ("outset" : Str)=some (.int n):=by
 unfold WP;rw[yp,if_neg (by decide +kernel),yp,if_neg (by decide +kernel),yp,if_pos rfl]
theorem Ug(b n:Nat)(sa la:Addr):(WP b n sa la).lookup ("steps" : Str)=some (.ref sa):=by
 unfold WP;rw[yp,if_neg (by decide +kernel),yp,if_pos rfl]
theorem jU(b n:Nat)(sa la:Addr):(WP b n sa la).lookup ("layers" : Str)=some (.ref la):=by
 unfold WP;rw[yp,if_pos rfl]
theorem Wz(b n:Nat)(sa la:Addr){m:Str}(h1:¬ m ="layers":=by decide +kernel)(h2:¬ m ="steps":=by decide +kernel)(h3:¬ m ="outset":=by decide +kernel)(h4:¬ m ="base":=by decide +kernel):(WP b n sa la).lookup m=none:=by
 unfold WP;rw[yp,if_neg h1,yp,if_neg h2,yp,if_neg h3,yp,if_neg h4];rfl
def vf(ls ws:ZA)(b t:Nat):List Int:=(ws.map λx=>((cnt ls b t x:Nat):Int))++[((uo ls b t:Nat):Int)]
def stepV(ls ws:ZA):Option (List Int)->Nat->V
 |some x,c=>plc ls ws (x++[(c:Int)])
 |none,c=>if c=0 then .int (ws.length:Nat) else plc ls ws [(c:Int)]
theorem jw(ls ws:ZA)(c:Nat):stepV ls ws none c=if c=0 then .int (ws.length:Nat) else plc ls ws [(c:Int)]:=rfl
theorem zbC(ls:ZA)(b t:Nat)(x:List Int)(c:Nat):Yc ls b t (some x) c=if lacks ls (x++[(c:Int)])=true then cnt ls b t (zL ls (x++[(c:Int)])) else 0:=rfl
theorem XC(ls:ZA)(b t:Nat)(c:Nat):Yc ls b t none c=if c=0 then uo ls b t else if lacks ls [(c:Int)]=true then cnt ls b t (zL ls [(c:Int)]) else 0:=rfl
theorem U7(hb:1<=b)(hi:i<=ws.length):(Ur ls ws b)[i]?=some ((List.range b).map (stepV ls ws ws[i]?)):=by
 unfold Ur;by_cases h:i<ws.length
 ·rw[List.getElem?_append_left (by rw[List.length_map];exact h),List.getElem?_map,List.getElem?_eq_getElem h];rfl
 ·have e:i=ws.length:=by omega
  subst e;rw[List.getElem?_append_right (by rw[List.length_map];exact Nat.le_refl _),List.length_map,Nat.sub_self,List.getElem?_eq_none (Nat.le_refl _)];congr 1;obtain⟨k,rfl⟩:∃k,b=k+1:=⟨b-1,by omega⟩
  unfold VF;rw[List.range_succ_eq_map,List.map_cons,List.map_cons,List.drop_succ_cons,List.drop_zero];rw[List.map_map,List.map_map];rfl
structure TailsAt (C:Addr) (H:Hp) (p la:Addr) (b:Nat) (ls ws:ZA) (L:Nat):Prop where
 ob:∃(dx sa:Addr) (srs:List (Addr×List V)),aw [la] H p=some (.ins C dx (WP b ws.length sa la))/\aw [la] H sa=some (.lst (srs.map λz=>V.ref z.1))/\(∀z∈srs,aw [la] H z.1=some (.lst z.2))/\srs.map (·.2)=Ur ls ws b
 ly:∃lrs:ZB,H la=some (.lst (lrs.map λz=>V.ref z.1))/\(∀z∈lrs,aw [la] H z.1=some (.lst (z.2.map V.int)))/\lrs.map (·.2)=(List.range L).map (vf ls ws b)
 l1:1<=L
structure GoodT (b:Nat) (ls ws:ZA):Prop where
 g:yx b ls
 s:StandsL ls ws
 h13:ws.length<=13
theorem GoodT.ne(G:GoodT b ls ws):∀l∈ls,l≠[]:=λl hl=>(G.g.st l hl).ne
theorem TailsAt.same{C p la b:Nat}(A:TailsAt C H p la b ls ws L)(m:Same H H'):TailsAt C H' p la b ls ws L:=by
 obtain⟨dx,sa,srs,h1,h2,h3,h4⟩:=A.ob;obtain⟨lrs,g1,g2,g3⟩:=A.ly;have m':=m.aw [la];exact⟨⟨dx,sa,srs,m' _ _ h1,m' _ _ h2,λz hz=>m' _ _ (h3 z hz),h4⟩,⟨lrs,m _ _ g1,λz hz=>m' _ _ (g2 z hz),g3⟩,A.l1⟩
theorem zaZ(G:GoodT b ls ws)(hi:i<=ws.length):
  (stepV ls ws ws[i]? c=.non/\Yc ls b t ws[i]? c=0)\/∃j:Nat,stepV ls ws ws[i]? c=.int j/\j<=ws.length/\(vf ls ws b t)[j]?=some ((Yc ls b t ws[i]? c:Nat):Int):=by
 have at_:∀fs:List Int,lacks ls fs=true->∃j:Nat,plc ls ws fs=.int j/\j<=ws.length/\(vf ls ws b t)[j]?=some ((cnt ls b t (zL ls fs):Nat):Int):=by
  intro fs h;have hm:=(G.s.mem _).mpr (jz G.ne h);have hlt:=List.idxOf_lt_length_iff.mpr hm;refine⟨ws.idxOf (zL ls fs),by unfold plc;rw[if_pos h],Nat.le_of_lt hlt,?_⟩;unfold vf;rw[List.getElem?_append_left (by rw[List.length_map];exact hlt),List.getElem?_map,List.getElem?_eq_getElem hlt,List.getElem_idxOf hlt];rfl
 cases hw:ws[i]? with
 |some x=>
  show (plc ls ws (x++[(c:Int)])=.non/\(if lacks ls (x++[(c:Int)])=true then _ else 0)=0)\/_;by_cases h:lacks ls (x++[(c:Int)])=true
  ·right;obtain⟨j,h1,h2,h3⟩:=at_ _ h;refine⟨j,h1,h2,?_⟩;rw[h3,zbC,if_pos h]
  ·left;exact⟨by unfold plc;rw[if_neg h],by rw[if_neg h]⟩
 |none=>
  by_cases h0:c=0
  ·right;refine⟨ws.length,by rw[jw,if_pos h0],Nat.le_refl _,?_⟩;unfold vf;rw[XC,if_pos h0,List.getElem?_append_right (by rw[List.length_map];exact Nat.le_refl _),List.length_map,Nat.sub_self];rfl
  ·by_cases h:lacks ls [c]=true
   ·right;obtain⟨j,h1,h2,h3⟩:=at_ _ h;refine⟨j,by rw[jw,if_neg h0];exact h1,h2,?_⟩;rw[h3,XC,if_neg h0,if_pos h]
   ·left;refine⟨?_,?_⟩
    ·rw[jw,if_neg h0];unfold plc;rw[if_neg h]
    ·rw[XC,if_neg h0,if_neg h]
theorem Uu(h:b∈fp):aw fp (upd H b o)=aw fp H:=by
 funext c;by_cases hc:c∈fp
 ·rw[Uc hc,Uc hc]
 ·rw[xf hc,xf hc,zB (λz:c=b=>hc (by rw[z];exact h))]
section
variable {P:Program} {w:World} {K:W.Frag} {mg:Str->Option Value} {base:Heap} {T0 C:Addr}
def Xl(C:Addr):Sp:=λvs H Q _=>Ex6 λp la b ls ws L=>Ex4 λ(t:Nat) (lay:Addr) (i:Nat) (s:Nat)=>vs=[.ref p,.ref lay,.int i,.int s]/\TailsAt C H p la b ls ws L/\GoodT b ls ws/\H lay=some (.lst ((vf ls ws b t).map V.int))/\i<=ws.length/\s<=b /\
 ∀H',Same H H'->Q (.int (under ls b t ws[i]? s:Nat)) H'
theorem Vc:zF ["self","layer","place","stop"] ["self","layer","place","stop"] (zx xZ):={}
theorem Um(D:Mt K C "Tails.many_by" "many_by" xZ Ao f fd)(zZ:ClT K mg C)(T:Blt mg)(U:Wu mg):FnOk P w K mg base CX0 1 f fd Ao (Xl C):=by
 refine D.fn.ok Vc (λvs H Q E h=>?_) (λcdv A outer s H vs Q E hr h=>?_)
 ·obtain⟨p,la,b,ls,ws,L,t,lay,i,s,rfl,_⟩:=h;rfl
 ·obtain⟨p,la,b,ls,ws,L,t,lay,i,s,rfl,TA,G,hlay,hi,hs,kk⟩:=h;obtain⟨dx,sa,srs,h1,h2,h3,h4⟩:=TA.ob;have b16:=G.g.b16;have b2:=G.g.b2;refine⟨_,(zu (zG (zz (za9 K rfl) (by rfl) U.n_sum boot_sum (zf (yV (show CScope (zx xZ) _ "behind" ["self","layer","place","stop"] ["layer"] [1] from {}) rfl (je K (yN (qD K) (zR (yJ K) (Wh K (pv 0)) (pv 2) (λ_ _=>rfl)) wA (yW (pv 3)))) (λ_ _ _ _=>(WN (zO jX (pv 0) xM (zM _)))) (λ_ _ _ _=>(zR (yJ K) (pv 1) (pv 0) (λ_ _=>rfl)))) zg)))),?_⟩;have hrow:=U7 (ls:=ls) (b:=b) (by omega) hi;rw[<-h4,List.getElem?_map]at hrow;obtain⟨z,hz,ez⟩:=Option.map_eq_some_iff.mp hrow;have hzm:=List.mem_of_getElem? hz;have hz3:=xq _ _ _ _ (h3 z hzm);refine⟨_,rfl,p,C,dx,_,_,rfl,xq _ _ _ _ h1,zZ.cl,zZ.n_steps,Ug _ _ _ _,_,rfl,sa,_,_,V.ref z.1,rfl,rfl,SqL.of (xq _ _ _ _ h2),xW (by rw[List.getElem?_map,hz];rfl),?_⟩;refine⟨_,rfl,_,rfl,z.1,_,rfl,SqL.of hz3,λq hq=>?_⟩;have m1:=zr hq (o:=.lst (uQ z.2 none (some s)));have ecut:uQ z.2 none (some s)=(List.range s).map (stepV ls ws ws[i]?):=by
   rw[jn,ez,<-List.map_take,List.take_range,Nat.min_eq_left hs]
  rw[ecut]at m1 ⊢;refine⟨q,rfl,⟨_,SqL.of zp⟩,xu (λk ys H4=>H4=upd H q (.lst ((List.range s).map (stepV ls ws ws[i]?)))/\∃ms:List Int,ys=ms.map V.int/\ms.length<=k/\ms.sum=((under ls b t ws[i]? k:Nat))) ⟨rfl,[],rfl,Nat.le_refl _,by simp[under]⟩ (λk ys H4 _ ⟨e,_⟩=>by rw[e];exact SqL.of zp) ?_ ?_⟩
  ·rintro k x ys H4 hx ⟨rfl,ms,rfl,hml,hms⟩;rw[List.getElem?_map]at hx;obtain⟨c,hc,e⟩:=Option.map_eq_some_iff.mp hx;have hk:k<s:=by have:=(List.getElem?_eq_some_iff.mp hc).1;rwa[List.length_range]at this
   have ec:c=k:=by
    rw[List.getElem?_range hk]at hc;exact (Option.some.inj hc).symm
   subst ec;subst e;refine⟨by rw[List.length_map];exact Nat.lt_of_le_of_lt (show ms.length<=16 by omega) (by decide),?_⟩;have hus:=uD ls b t ws[i]? c;rcases zaZ G hi with ⟨e1,e2⟩ | ⟨j,e1,e2,e3⟩
   ·rw[e1];refine⟨_,rfl,rfl,_,rfl,xF ⟨rfl,ms,rfl,by omega,?_⟩⟩;rw[hus,e2,hms];omega
   ·rw[e1];refine⟨_,rfl,rfl,_,rfl,xU ?_⟩;refine⟨_,rfl,_,rfl,lay,_,_,V.int ((Yc ls b t ws[i]? c:Nat)),rfl,rfl,SqL.of (m1 _ _ hlay),xW (by rw[List.getElem?_map,e3];rfl),rfl,ms++[((Yc ls b t ws[i]? c:Nat):Int)],by simp,by rw[List.length_append,List.length_singleton];omega,?_⟩;rw[List.sum_append,hms,hus];simp
  ·rintro ys H4 ⟨rfl,ms,rfl,hml,hms⟩ Dd hD;refine⟨Dd,ms,rfl,SqL.of zp,?_⟩;rw[hms,List.length_map,List.length_range];exact kk _ (m1.trans (zr hD))
def TQ(C:Addr)(H:Hp)(p la:Addr)(b:Nat)(ls ws:ZA)(L:Nat)(R:Nat->Hp->Prop):Prop:=∀L' H',L<=L'->TailsAt C H' p la b ls ws L'->Same (aw [la] H) (aw [la] H')->R L' H'
def zaK(C:Addr):Sp:=λvs H Q _=>Ex5 λp la b ls ws=>Ex2 λ(L:Nat) (t:Nat)=>vs=[.ref p,.int t]/\TailsAt C H p la b ls ws L/\GoodT b ls ws/\L<=1000/\t<1000 /\
 ∀lay:Addr,TQ C H p la b ls ws L λL' H'=>L'<=max L (t+1)->aw [la] H' lay=some (.lst ((vf ls ws b t).map V.int))->Q (.ref lay) H'
theorem Yv:zF ["self","left","shorter"] ["self","left"] (zx wF):={}
theorem zbo:((List.range (ws.length+1)).map λi=>((under ls b t ws[i]? b:Nat):Int))=vf ls ws b (t+1):=by
 unfold vf;apply List.ext_getElem?;intro i;rw[List.getElem?_map];by_cases h:i<ws.length
 ·rw[List.getElem?_range (by omega),List.getElem?_append_left (by rw[List.length_map];exact h),List.getElem?_map,Option.map_some,List.getElem?_eq_getElem h];rfl
 ·by_cases h2:i=ws.length
  ·subst h2;rw[List.getElem?_range (by omega),List.getElem?_append_right (by rw[List.length_map];exact Nat.le_refl _),List.length_map,Nat.sub_self,Option.map_some,List.getElem?_eq_none (Nat.le_refl _)];rfl
  ·rw[List.getElem?_eq_none (by rw[List.length_range];omega),List.getElem?_eq_none (by rw[List.length_append,List.length_map,List.length_singleton];omega)];rfl
theorem zeX(D:Mt K C "Tails.layer" "layer" wF Ay f fd)(xg:Mt K C "Tails.many_by" "many_by" xZ Ao f1 fd1)(zZ:ClT K mg C)(T:Blt mg)(U:Wu mg):FnOk P w K mg base CX0 2 f fd Ay (zaK C):=by
 have jD:FnOk P w K mg base CX0 1 f1 fd1 Ao (Xl C):=Um xg zZ T U;refine D.fn.ok Yv (λvs H Q E h=>?_) (λcdv A outer s H vs Q E hr h=>?_)
 ·obtain⟨p,la,b,ls,ws,L,t,rfl,_⟩:=h;rfl
 ·obtain⟨p,la,b,ls,ws,L,t,rfl,TA,G,hL,ht,kk⟩:=h;have h13:=G.h13;refine xO ?_;intro XX;let q1:Sq XX ((zq wF).drop 1):=⟨_,zu (zG (zR (yJ K) (Wh K (pv 0)) (pv 1) (λ_ _=>rfl)))⟩
  let q2:Sq XX ((sb (zq wF) 0 true).drop 1):=⟨_,zu (wI (Yj PySem.F.plainAttrs_list PySem.F.slot_list_append PySem.F.type_list_append vB (Wh K (pv 0)) (zf (yV (show CScope (zx wF) _ "place" ["self","left","shorter"] ["shorter","self"] [2,0] from {}) rfl (yt rfl T.n_range (zf (zy ym (Wh K (pv 0)) zm) zg)) (λ_ _ _ _=>yX) (λ_ _ _ _=>(zbA xg zZ.cl jD (hr.mono (by decide)) (pv 2) (zf (pv 1) (zf (pv 0) (zf (Wh K (pv 2)) zg)))))) zg)))⟩
  refine⟨_,(zj (Yz PassesOwn.never (zO Qn (zz (wy K) (by rfl) T.n_len PySem.boot_len (zf (Wh K (pv 0)) zg)) (pv 1) (zM _))
    (zj (zA (i:=2) Yv.nd rfl (Or.inr rfl) (zR (yJ K) (Wh K (pv 0)) (zcp zay zm) (λ_ _=>rfl))) q2.p)) q1.p),?_⟩
  refine Yt (λZ H2=>∃(v:Option V) (L':Nat),Z=[some (.ref p),some (.int t),v]/\L<=L'/\L'<=max L (t+1)/\TailsAt C H2 p la b ls ws L'/\Same (aw [la] H) (aw [la] H2))
   (λZ H2=>match H2 la with | some (.lst xs)=>t+1-xs.length | _=>0) ⟨none,L,rfl,Nat.le_refl _,Nat.le_max_left _ _,TA,Same.refl _⟩ ?_ ?_
  ·rintro Z H2 ⟨v,L',rfl,hLL,hLm,TA2,m2⟩;obtain⟨dx,sa,srs,h1,h2,h3,h4⟩:=TA2.ob;obtain⟨lrs,g1,g2,g3⟩:=TA2.ly;have hl:lrs.length=L':=by have:=congrArg List.length g3;rwa[List.length_map,List.length_map,List.length_range]at this
   have hp:=xq _ _ _ _ h1;have l1:=TA2.l1;refine⟨_,rfl,p,C,dx,_,_,rfl,hp,zZ.cl,zZ.n_layers,jU _ _ _ _,la,_,rfl,.inl (SqL.of g1),_,rfl,_,_,rfl,rfl,_,rfl,?_⟩;rw[List.length_map,hl];refine Vb (λhc=>?_) (λhc=>?_)
   ·have hc':L'<=t:=by have:=of_decide_eq_true hc;omega
    have hlast:lrs[L'-1]?=some lrs[L'-1]:=List.getElem?_eq_getElem (by omega);generalize hz:lrs[L'-1]=z at hlast;have hzm:z∈lrs:=List.mem_of_getElem? hlast;have hz2:z.2=vf ls ws b (L'-1):=by
     have e:=congrArg (λl=>l[L'-1]?) g3;simp only[List.getElem?_map,hlast,List.getElem?_range (show L'-1<L' by omega),Option.map_some]at e;exact Option.some.inj e
    have elr:lrs=lrs.take (L'-1)++[z]:=by
     have e:=(List.take_append_drop (L'-1) lrs).symm;rw[List.drop_eq_getElem_cons (show L'-1<lrs.length by omega),hz,List.drop_of_length_le (by omega)]at e;exact e
    have eat:atI (lrs.map λz=>V.ref z.1) (-1)=some (V.ref z.1):=by
     rw[elr,List.map_append];exact zd0 _ _
    refine⟨_,rfl,p,C,dx,_,_,rfl,hp,zZ.cl,zZ.n_layers,jU _ _ _ _,_,rfl,la,_,_,V.ref z.1,rfl,rfl,SqL.of g1,eat,?_⟩;refine⟨_,rfl,p,C,dx,_,_,rfl,hp,zZ.cl,zZ.n_layers,jU _ _ _ _,.inl ⟨rfl,_,SqL.of g1⟩,?_⟩;refine⟨_,rfl,p,C,dx,_,_,rfl,hp,zZ.cl,zZ.n_outset,Vq _ _ _ _,_,_,rfl,rfl,((ws.length:Int)+1),rfl,by omega,by omega,vQ (lo:=0) (n:=((ws.length:Int)+1).toNat) (λi ys H4=>ys=(((List.range i).map λi=>((under ls b (L'-1) ws[i]? b:Nat):Int))).map V.int/\Same H2 H4) ⟨rfl,Same.refl _⟩ ?_ ?_⟩
    ·rintro i ys H4 hi ⟨rfl,m4⟩;refine⟨by rw[List.length_map,List.length_map,List.length_range];exact Nat.lt_of_lt_of_le (show i<20 by omega) (by decide),?_⟩;unfold jJ;dsimp only;rw[if_pos rfl];have TA4:=TA2.same m4;have hp4:=m4 _ _ hp;refine⟨_,rfl,p,dx,_,rfl,hp4,Wz _ _ _ _,_,rfl,_,rfl,_,rfl,p,C,dx,_,_,rfl,hp4,zZ.cl,zZ.n_base,zdu _ _ _ _,?_⟩;refine⟨p,la,b,ls,ws,L',L'-1,z.1,i,b,by rw[Int.zero_add];rfl,TA4,G,?_,by omega,Nat.le_refl _,λH5 m5=>⟨?_,m4.trans m5⟩⟩
     ·rw[<-hz2];exact m4 _ _ (xq _ _ _ _ (g2 z hzm))
     ·rw[List.range_succ,List.map_append,List.map_append];rfl
    rintro ys H4 ⟨rfl,m4⟩ q hq;rw[show ((ws.length:Int)+1).toNat=ws.length+1 by omega,zbo,show L'-1+1=L' by omega];have m5:=zr hq (o:=.lst ((vf ls ws b L').map V.int));have gla:=m5 _ _ (m4 _ _ g1);have nq:q≠la:=λe=>by rw[e,m4 _ _ g1]at hq;cases hq
    refine⟨la,_,_,rfl,rfl,gla,by rw[List.length_map,hl];exact Nat.lt_of_le_of_lt (show L'<=1000 by omega) (by decide),?_⟩;have m25:Same (aw [la] H2) (aw [la] (upd (upd H4 q (.lst ((vf ls ws b L').map V.int))) la (.lst (lrs.map (λz=>V.ref z.1)++[.ref q])))):=by
     rw[Uu (by simp)];exact (m4.trans m5).aw [la]
    refine⟨⟨_,L'+1,rfl,by omega,by omega,⟨⟨dx,sa,srs,m25 _ _ h1,m25 _ _ h2,λy hy=>m25 _ _ (h3 y hy),h4⟩,⟨lrs++[(q,vf ls ws b L')],by rw[zp];simp,λy hy=>?_,?_⟩,by omega⟩,m2.trans m25⟩,?_⟩
    ·rcases List.mem_append.mp hy with hy | hy
     ·exact m25 _ _ (g2 y hy)
     ·have e:y=(q,vf ls ws b L'):=by simpa using hy
      subst e;rw[Uu (by simp),xf (by simp[nq]),zp]
    ·rw[List.map_append,g3,List.range_succ,List.map_append];rfl
    ·show (match (upd (upd H4 q (.lst ((vf ls ws b L').map V.int))) la (.lst (lrs.map (λz=>V.ref z.1)++[.ref q]))) la with | some (.lst xs)=>t+1-xs.length | _=>0)<(match H2 la with | some (.lst xs)=>t+1-xs.length | _=>0);rw[zp,g1];show t+1-(lrs.map (λz=>V.ref z.1)++[V.ref q]).length<t+1-(lrs.map λz=>V.ref z.1).length;rw[List.length_append,List.length_map,List.length_singleton];omega
   ·have hc':t<L':=by
     by_cases z:t<L'
     ·exact z
     ·exact absurd (decide_eq_true (by omega:(L':Int)<=t)) hc
    have hlast:lrs[t]?=some lrs[t]:=List.getElem?_eq_getElem (by omega);generalize hz:lrs[t]=z at hlast;have hzm:z∈lrs:=List.mem_of_getElem? hlast;have hz2:z.2=vf ls ws b t:=by
     have e:=congrArg (λl=>l[t]?) g3;simp only[List.getElem?_map,hlast,List.getElem?_range hc',Option.map_some]at e;exact Option.some.inj e
    refine⟨_,rfl,p,C,dx,_,_,rfl,hp,zZ.cl,zZ.n_layers,jU _ _ _ _,_,rfl,la,_,_,V.ref z.1,rfl,rfl,SqL.of g1,xW (by rw[List.getElem?_map,hlast];rfl),?_⟩;exact kk z.1 L' H2 hLL TA2 m2 hLm (by rw[<-hz2];exact g2 z hzm)
  ·intro Z H2 Q Q' hq;rintro⟨v0,e0,a,C',dx,fs,v,h1,h2,h3,h4,h5,p',ys,h6,h7,v1,e1,i,j,e3,e4,k,e5,q⟩;exact⟨v0,e0,a,C',dx,fs,v,h1,h2,h3,h4,h5,p',ys,h6,h7,v1,e1,i,j,e3,e4,k,e5,hq _ _ q⟩
def Y9(C:Addr):Sp:=λvs H Q _=>Ex6 λp la b ls ws L=>Ex3 λ(i:Nat) (s:Nat) (t:Nat)=>vs=[.ref p,.int i,.int s,.int t]/\TailsAt C H p la b ls ws L/\GoodT b ls ws/\L<=1000/\t<1000/\i<=ws.length/\s<=b/\TQ C H p la b ls ws L λL' H'=>L'<=max L (t+1)->Q (.int (under ls b t ws[i]? s:Nat)) H'
theorem YW:zF ["self","place","stop","left"] ["self","place","stop","left"] (zx wY):={}
theorem Q3(D:Mt K C "Tails.many_under" "many_under" wY Au f fd)(jd:Mt K C "Tails.layer" "layer" wF Ay f1 fd1)(xg:Mt K C "Tails.many_by" "many_by" xZ Ao f2 fd2)(zZ:ClT K mg C)(T:Blt mg)(U:Wu mg):FnOk P w K mg base CX0 3 f fd Au (Y9 C):=by
 have jD:FnOk P w K mg base CX0 1 f2 fd2 Ao (Xl C):=Um xg zZ T U;have JG:FnOk P w K mg base CX0 2 f1 fd1 Ay (zaK C):=zeX jd xg zZ T U;refine D.fn.ok YW (λvs H Q E h=>?_) (λcdv A outer s H vs Q E hr h=>?_)
 ·obtain⟨p,la,b,ls,ws,L,i,s,t,rfl,_⟩:=h;rfl
 ·obtain⟨p,la,b,ls,ws,L,i,s,t,rfl,TA,G,hL,ht,hi,hs,kk⟩:=h;obtain⟨dx,sa,srs,h1,h2,h3,h4⟩:=TA.ob;have hp:=xq _ _ _ _ h1;refine⟨_,(zu (zG (zbA xg zZ.cl jD (hr.mono (by decide)) (pv 0) (zf (zbA jd zZ.cl JG (hr.mono (by decide)) (pv 0) (zf (pv 3) zg)) (zf (pv 1) (zf (pv 2) zg)))))),?_⟩;refine⟨_,rfl,p,dx,_,rfl,hp,Wz _ _ _ _,?_⟩;refine⟨_,rfl,p,dx,_,rfl,hp,Wz _ _ _ _,_,rfl,p,la,b,ls,ws,L,t,rfl,TA,G,hL,ht,λlay L' H' hLL TA' m' hm hlay=>?_⟩;exact⟨_,rfl,_,rfl,p,la,b,ls,ws,L',t,lay,i,s,rfl,TA',G,xq _ _ _ _ hlay,hi,hs,λH2 m2=>kk L' H2 hLL (TA'.same m2) (m'.trans (m2.aw [la])) hm⟩
end
theorem zdr(G:GoodT b ls ws)(hi:i<=ws.length)(R:Rep ls b m ws[i]?)(hc:c<b):
  (∃j:Nat,stepV ls ws ws[i]? c=.int j/\j<=ws.length/\Rep ls b (m*b+c) ws[j]?)\/(stepV ls ws ws[i]? c=.non/\1<=m*b+c/\gd ls b (m*b+c)=false):=by
 have b2:=G.g.b2;have ep:∀h:¬ (ws[i]?=none/\c=0),stepV ls ws ws[i]? c=plc ls ws (ws[i]?.getD []++[(c:Int)]):=by
  intro h;cases hw:ws[i]? with
  |some x=>rfl
  |none=>
   rw[jw,if_neg (λz=>h ⟨hw,z⟩)];rfl
 rcases R.step G.ne b2 hc with ⟨h1,h2,h3⟩ | ⟨h0,⟨h1,h2⟩ | ⟨h1,h2,h3⟩⟩
 ·left;refine⟨ws.length,by rw[h1,jw,if_pos h2],Nat.le_refl _,by rw[List.getElem?_eq_none (Nat.le_refl _)];exact h3⟩
 ·left;have hm:=(G.s.mem _).mpr (jz G.ne h1);have hlt:=List.idxOf_lt_length_iff.mpr hm;refine⟨ws.idxOf (zL ls (ws[i]?.getD []++[(c:Int)])),by rw[ep h0];unfold plc;rw[if_pos h1],Nat.le_of_lt hlt,?_⟩;rw[List.getElem?_eq_getElem hlt,List.getElem_idxOf hlt];exact h2
 ·right;exact⟨by rw[ep h0];unfold plc;rw[if_neg (by rw[h1];exact Bool.false_ne_true)],h2,h3⟩
section
variable {P:Program} {w:World} {K:W.Frag} {mg:Str->Option Value} {base:Heap} {T0 C:Addr}
theorem zeR{p la b:Nat}(TA:TailsAt C H p la b ls ws L)(G:GoodT b ls ws)(hi:i<=ws.length)(hc:c<b):
  ∃(dx sa:Addr) (srs:List (Addr×List V)) (z:Addr×List V),H p=some (.ins C dx (WP b ws.length sa la))/\H sa=some (.lst (srs.map λz=>V.ref z.1))/\atI (srs.map λz=>V.ref z.1) (i:Int)=some (V.ref z.1)/\H z.1=some (.lst z.2)/\atI z.2 (c:Int)=some (stepV ls ws ws[i]? c):=by
 obtain⟨dx,sa,srs,h1,h2,h3,h4⟩:=TA.ob;have hrow:=U7 (ls:=ls) (b:=b) (by have:=G.g.b2;omega) hi;rw[<-h4,List.getElem?_map]at hrow;obtain⟨z,hz,ez⟩:=Option.map_eq_some_iff.mp hrow;refine⟨dx,sa,srs,z,xq _ _ _ _ h1,xq _ _ _ _ h2,xW (by rw[List.getElem?_map,hz];rfl),xq _ _ _ _ (h3 z (List.mem_of_getElem? hz)),xW ?_⟩;rw[ez,List.getElem?_map,List.getElem?_range hc];rfl
theorem TailsAt.obj{p la b:Nat}(TA:TailsAt C H p la b ls ws L):∃dx sa,H p=some (.ins C dx (WP b ws.length sa la)):=by
 obtain⟨dx,sa,srs,h1,_⟩:=TA.ob;exact⟨dx,sa,xq _ _ _ _ h1⟩
def Y8(C:Addr):Sp:=λvs H Q _=>Ex6 λp la b ls ws L=>Ex2 λfa n=>vs=[.ref p,.ref fa]/\TailsAt C H p la b ls ws L/\GoodT b ls ws/\L<=1000/\aw [la] H fa=some (.lst ((zT b n).map V.int))/\n<2^900/\TQ C H p la b ls ws L λL' H'=>L'<=1000->Q (.int (many (gd ls b) n:Nat)) H'
theorem yQ:zF ["self","figures","place","many","k"] ["self","figures"] (zx yj):={}
theorem QC(D:Mt K C "Tails.many_below" "many_below" yj Az f fd)(vH:Mt K C "Tails.many_under" "many_under" wY Au f1 fd1)(uT:FnOk P w K mg base CX0 3 f1 fd1 Au (Y9 C))(zZ:ClT K mg C)(T:Blt mg):FnOk P w K mg base CX0 4 f fd Az (Y8 C):=by
 refine D.fn.ok yQ (λvs H Q E h=>?_) (λcdv A outer s H vs Q E hr h=>?_)
 ·obtain⟨p,la,b,ls,ws,L,fa,n,rfl,_⟩:=h;rfl
 ·obtain⟨p,la,b,ls,ws,L,fa,n,rfl,TA,G,hL,hf,hn,kk⟩:=h;have b2:=G.g.b2;have hlen:=vX b2 900 n hn;obtain⟨dx0,sa0,hp0⟩:=TA.obj;generalize hN:(zT b n).length=N at hlen;have hnN:=wU b2 hN;refine xO ?_;intro XX;let q1:Sq XX ((zq yj).drop 3):=⟨_,zu (zG (pv 3))⟩
  let q2:Sq XX ((sb (zq yj) 2 true).drop 2):=⟨_,zu (yG (zO Xv (pv 2) xM (zM _))
     (zu (zG (pv 3)))
     zP)⟩
  let q3:Sq XX ((sb (zq yj) 2 true).drop 1):=⟨_,zj (zA (i:=2) yQ.nd rfl (Or.inl rfl) (zR (yJ K) (zR (yJ K) (Wh K (pv 0)) (pv 2) (λ_ _=>rfl)) (zR (yJ K) (pv 1) (pv 4) (λ_ _=>rfl)) (λ_ _=>rfl))) q2.p⟩
  let q4:Sq XX ((zq yj).drop 2):=⟨_,zj (xj PassesOwn.never rfl (yt rfl T.n_range (zf (zz (wy K) (by rfl) T.n_len PySem.boot_len (zf (pv 1) zg)) zg)) (zV (i:=4) yQ.nd rfl (Or.inl rfl))
    (zj (zgQ (i:=3) yQ.nd rfl (Or.inl rfl) (zbA vH zZ.cl uT (hr.mono (by decide)) (pv 0) (zf (pv 2) (zf (zR (yJ K) (pv 1) (pv 4) (λ_ _=>rfl)) (zf (zy xT (zy xT (zz (wy K) (by rfl) T.n_len PySem.boot_len (zf (pv 1) zg)) (pv 4)) zm) zg)))) zgr) q3.p)) q1.p⟩
  let q5:Sq XX ((zq yj).drop 1):=⟨_,zj (zA (i:=3) yQ.nd rfl (Or.inl rfl) zm) q4.p⟩
  refine⟨_,(zj (zA (i:=2) yQ.nd rfl (Or.inl rfl) (Wh K (pv 0))) q5.p),?_⟩;refine⟨_,rfl,p,C,dx0,_,_,rfl,hp0,zZ.cl,zZ.n_outset,Vq _ _ _ _,?_⟩;refine⟨_,rfl,fa,_,rfl,.inl (SqL.of (xq _ _ _ _ hf)),?_⟩;rw[List.length_map,hN];refine⟨_,rfl,by omega,by omega,yP (lo:=0) (n:=(N:Int).toNat) (λk Z H2=>∃(v4:Option V) (i L':Nat),Z=[some (.ref p),some (.ref fa),some (.int i),some (.int (many (gd ls b) (n / b^(N-k)*b^(N-k)):Nat)),v4]/\i<=ws.length/\Rep ls b (n / b^(N-k)) ws[i]?/\L<=L'/\L'<=1000/\TailsAt C H2 p la b ls ws L'/\Same (aw [la] H) (aw [la] H2)) ⟨none,ws.length,L,?_,Nat.le_refl _,?_,Nat.le_refl _,hL,TA,Same.refl _⟩ ?_ ?_⟩
  ·rw[Nat.sub_zero,Nat.div_eq_of_lt hnN,Nat.zero_mul];rfl
  ·rw[Nat.sub_zero,Nat.div_eq_of_lt hnN,List.getElem?_eq_none (Nat.le_refl _)];exact .inl ⟨rfl,rfl⟩
  ·rintro k Z H2 hk ⟨v4,i,L',rfl,hi,R,hLL,hL',TA2,m2⟩;have hkN:k<N:=by omega
   obtain⟨t,ht⟩:∃t,N-k=t+1:=⟨N-k-1,by omega⟩
   have et:N-1-k=t:=by omega
   have hfk:=zbw b2 hN hkN;rw[et]at hfk;rw[ht]at R ⊢;have hnx:=za6 (b:=b) (n:=n) (t:=t) (by omega);have hcb:n / b^t % b<b:=Nat.mod_lt _ (by omega);generalize hc:n / b^t % b=c at hfk hnx hcb;have hf2:=m2 _ _ hf;have hfH2:=xq _ _ _ _ hf2;obtain⟨dx2,sa2,hp2⟩:=TA2.obj;have hat:atI ((zT b n).map V.int) (0+(k:Int))=some (V.int (c:Nat)):=by rw[Int.zero_add];exact xW (by rw[List.getElem?_map,hfk];rfl)
   refine⟨_,rfl,_,rfl,p,dx2,_,rfl,hp2,Wz _ _ _ _,_,rfl,_,rfl,_,rfl,fa,_,_,_,rfl,rfl,SqL.of hfH2,hat,_,rfl,fa,_,rfl,.inl (SqL.of hfH2),_,rfl,_,_,rfl,rfl,_,_,rfl,rfl,?_⟩;refine⟨p,la,b,ls,ws,L',i,c,t,?_,TA2,G,hL',by omega,hi,by omega,λL3 H3 hL3 TA3 m3 hmx=>?_⟩
   ·rw[List.length_map,hN];show [V.ref p,V.int i,V.int c,V.int ((N:Int)-(0+(k:Int))-1)]=_;rw[show ((N:Int)-(0+(k:Int))-1)=(t:Int) by omega]
   have hL3':L3<=1000:=by omega
   have m23:=m2.trans m3;have hf3:=xq _ _ _ _ (m23 _ _ hf);refine⟨_,_,rfl,rfl,?_⟩;have eum:=jG G.ne b2 R t (s:=c) (by omega);rw[<-hnx]at eum;obtain⟨dx3,sa3,srs3,z3,q1,q2,q3,q4,q5⟩:=zeR TA3 G hi hcb;refine⟨_,rfl,p,C,dx3,_,_,rfl,q1,zZ.cl,zZ.n_steps,Ug _ _ _ _,_,rfl,sa3,_,_,_,rfl,rfl,SqL.of q2,q3,_,rfl,_,rfl,fa,_,_,_,rfl,rfl,SqL.of hf3,hat,z3.1,_,_,_,rfl,rfl,SqL.of q4,q5,?_⟩;rcases zdr G hi R hcb with ⟨j,e1,e2,e3⟩ | ⟨e1,e2,e3⟩
   ·rw[e1];refine⟨_,rfl,rfl,_,rfl,xF ⟨some (.int (0+(k:Int))),j,L3,?_,e2,?_,by omega,hL3',TA3,m23⟩⟩
    ·rw[show N-(k+1)=t by omega,<-eum];show [_,_,_,some (V.int ((many (gd ls b) (n / b^(t+1)*b^(t+1)):Nat)+(under ls b t ws[i]? c:Nat):Int)),_]=[_,_,_,some (V.int ((many (gd ls b) (n / b^(t+1)*b^(t+1))+under ls b t ws[i]? c:Nat):Int)),_]
     rw[Int.natCast_add]
    ·rw[show N-(k+1)=t by omega,hnx];exact e3
   ·rw[e1];refine⟨_,rfl,rfl,_,rfl,xU ⟨_,rfl,?_⟩⟩;have q:=kk L3 H3 (by omega) TA3 m23 hL3';rw[<-hnx]at e2 e3;have ebad:=zek G.ne b2 e2 e3 t (r:=n % b^t) (Nat.le_of_lt (Nat.mod_lt _ (Nat.pow_pos (by omega))));rw[Nat.mul_comm,Nat.div_add_mod,Nat.mul_comm]at ebad;rw[ebad,<-eum,Int.natCast_add]at q;exact q
  ·rintro Z H2 ⟨v4,i,L',rfl,hi,R,hLL,hL',TA2,m2⟩;refine⟨_,rfl,?_⟩;have q:=kk L' H2 hLL TA2 m2 hL';rw[Int.toNat_natCast,Nat.sub_self,Nat.pow_zero,Nat.div_one,Nat.mul_one];exact q
end
theorem LT.off(h:LT T H)(hla:H la=some (.lst xs))(m:Same (aw [la] H) (aw [la] H')):LT T H':=by
 have go:∀c o,c≠la->H c=some o->H' c=some o:=λc o hc e=>by
  have hc':c∉[la]:=by simpa using hc
  have:=m c o (by rw[xf hc'];exact e);rwa[xf hc']at this
 have n0:=Ne.symm (h.lst hla);rcases h with h | ⟨c,h1,h2⟩
 ·exact .inl (go _ _ n0 h)
 ·refine .inr ⟨c,go _ _ n0 h1,go _ _ (λz=>?_) h2⟩;rw[z,hla]at h2;cases h2
theorem J6{α:Type}{f:α->V}(h:∀a,f a=V.int 1):∀l:List α,(List.replicate l.length [V.int 1]).flatten=l.map f
 |[]=>rfl
 |a::l=>by rw[List.length_cons,List.replicate_succ,List.flatten_cons,J6 h l,List.map_cons,h a];rfl
section
variable {P:Program} {w:World} {K:W.Frag} {mg:Str->Option Value} {base:Heap} {T0 C:Addr}
def V9(T0 C:Addr):Sp:=λvs H Q _=>Ex6 λp dx r b bl zs=>vs=[.ref p,.ref r]/\H p=some (.ins C dx [])/\RuleAt H r b bl zs/\yx b (zs.map (·.2))/\LT T0 H /\
 ∀la ws H',TailsAt C H' p la b (zs.map (·.2)) ws 1->GoodT b (zs.map (·.2)) ws->(∀c o,c≠p->c≠T0->H c=some o->H' c=some o)->LT T0 H'->H la=none->Q .non H'
theorem jL:zF ["self","rule","stands"] ["self","rule"] (zx yR):={}
theorem zee(D:Mt K C "Tails.__init__" "__init__" yR A0 f fd)(Z8:Df K mg "stands_of" yD ["bad"] f1 fd1)(X4:FnOk P w K mg base CX0 6 f1 fd1 ["bad"] (Wl T0))(ZQ:Df K mg "all_steps" uM Ax f2 fd2)(XS:FnOk P w K mg base CX0 6 f2 fd2 Ax WL)(yU:Df K mg "lacks_all" wW Ad f3 fd3)(xG:FnOk P w K mg base CX0 2 f3 fd3 Ad uU)(zZ:ClT K mg C)(T:Blt mg):FnOk P w K mg base CX0 7 f fd A0 (V9 T0 C):=by
 refine D.fn.ok jL (λvs H Q E h=>?_) (λcdv A outer s H vs Q E hr h=>?_)
 ·obtain⟨p,dx,r,b,bl,zs,rfl,_⟩:=h;rfl
 ·obtain⟨p,dx,r,b,bl,zs,rfl,hp,R,g,hT,kk⟩:=h;have h4:zs.length<=4:=by have:=g.len;rwa[List.length_map]at this
  have gz:∀z∈zs,z.2≠[]/\z.2.length<=4:=λz hz=>⟨(g.st _ (List.mem_map.mpr ⟨z,hz,rfl⟩)).ne,(g.st _ (List.mem_map.mpr ⟨z,hz,rfl⟩)).len⟩
  have npT:p≠T0:=λz=>by
   rw[z]at hp;rcases hT with h | ⟨c,h,_⟩
   ·rw[h]at hp;cases hp
   ·rw[h]at hp;cases hp
  refine xO ?_;intro XX;let q1:Sq XX ((zq yR).drop 4):=⟨_,zu (zam (pv 0) (yc (zf (zy wQ (zy zgR (yc (zf zm zg)) (zz (wy K) (by rfl) T.n_len PySem.boot_len (zf (pv 2) zg))) (yc (zf (zec (xx (zE yU xG (hr.mono (by decide)) (zf (zR (vO K) (pv 1) zm (λ_ _=>rfl)) (zf (yc (zf zm zg)) zg)))) zm zm) zg))) zg)) rfl)⟩
  let q2:Sq XX ((zq yR).drop 3):=⟨_,zj (zam (pv 0) (zE ZQ XS (hr.mono (by decide)) (zf (pv 1) (zf (pv 2) zg))) rfl) q1.p⟩
  let q3:Sq XX ((zq yR).drop 2):=⟨_,zj (zam (pv 0) (zz (wy K) (by rfl) T.n_len PySem.boot_len (zf (pv 2) zg)) rfl) q2.p⟩
  let q4:Sq XX ((zq yR).drop 1):=⟨_,zj (zam (pv 0) (zR (vO K) (pv 1) zm (λ_ _=>rfl)) rfl) q3.p⟩
  refine⟨_,(zj (zA (i:=2) jL.nd rfl (Or.inl rfl) (zE Z8 X4 (hr.mono (by decide)) (zf (zR (vO K) (pv 1) zm (λ_ _=>rfl)) zg))) q4.p),?_⟩;refine⟨_,rfl,r,_,_,V.ref bl,rfl,rfl,SqT.of R.tu,rfl,bl,zs,rfl,R.li,R.st,h4,gz,hT,λDd ws H1 hDn hD hws SL h13 mL hT1=>?_⟩;have R1:RuleAt H1 r b bl zs:=⟨mL _ _ (hT.tup R.tu) R.tu,mL _ _ (hT.lst R.li) R.li,λz hz=>mL _ _ (hT.lst (R.st z hz)) (R.st z hz)⟩
  have hp1:=mL _ _ npT hp;have rp:r≠p:=Xc R1.tu hp1 (λz=>nomatch z);have lp:∀{c:Addr} {xs:List V},H1 c=some (.lst xs)->c≠p:=λh=>Xc h hp1 (λz=>nomatch z);refine⟨_,rfl,r,_,_,V.int b,rfl,rfl,SqT.of R1.tu,rfl,_,rfl,p,C,dx,_,rfl,hp1,zZ.cl,zZ.n_base,(by show 0<1000;decide),?_⟩;refine⟨_,rfl,Dd,_,rfl,.inl (SqL.of (by rw[zB (lp hD)];exact hD)),_,rfl,p,C,dx,_,rfl,zp,zZ.cl,zZ.n_outset,(by show 1<1000;decide),?_⟩;rw[zfe,List.length_map];generalize hH3:upd H1 p (.ins C dx (wR "outset" (.int (ws.length:Nat)) (wR "base" (.int b) [])))=H3;have m3:∀c o,c≠p->H1 c=some o->H3 c=some o:=λc o hc e=>by rw[<-hH3,zB hc];exact e
  have hp3:H3 p=some (.ins C dx (wR "outset" (.int (ws.length:Nat)) (wR "base" (.int b) []))):=by rw[<-hH3,zp]
  have R3:RuleAt H3 r b bl zs:=⟨m3 _ _ rp R1.tu,m3 _ _ (lp R1.li) R1.li,λz hz=>m3 _ _ (lp (R1.st z hz)) (R1.st z hz)⟩
  refine⟨_,rfl,_,rfl,r,b,bl,zs,Dd,ws,rfl,R3,g,m3 _ _ (lp hD) hD,λz hz=>m3 _ _ (lp (hws z hz).2.1) (hws z hz).2.1,SL,h13,λsa srs H4 hsa m4 hsal hsrs hsr2=>?_⟩;have hp4:=m4 _ _ hp3;have len2:(wR "outset" (.int (ws.length:Nat)) (wR "base" (.int b) [])).length<=2:=Nat.le_trans (qF _ _ _) (Nat.succ_le_succ (qF _ _ _));refine⟨_,rfl,p,C,dx,_,rfl,hp4,zZ.cl,zZ.n_steps,by omega,?_⟩;generalize hH5:upd H4 p (.ins C dx (wR "steps" (.ref sa) (wR "outset" (.int (ws.length:Nat)) (wR "base" (.int b) []))))=H5;have m5:∀c o,c≠p->H4 c=some o->H5 c=some o:=λc o hc e=>by rw[<-hH5,zB hc];exact e
  have hp5:H5 p=some (.ins C dx (wR "steps" (.ref sa) (wR "outset" (.int (ws.length:Nat)) (wR "base" (.int b) [])))):=by rw[<-hH5,zp]
  have lp4:∀{c:Addr} {xs:List V},H4 c=some (.lst xs)->c≠p:=λh=>Xc h hp4 (λz=>nomatch z);have R4:=R3.same m4;have R5:RuleAt H5 r b bl zs:=⟨m5 _ _ (Xc R4.tu hp4 (λz=>nomatch z)) R4.tu,m5 _ _ (lp4 R4.li) R4.li,λz hz=>m5 _ _ (lp4 (R4.st z hz)) (R4.st z hz)⟩
  have hD5:H5 Dd=some (.lst (ws.map λz=>V.ref z.1)):=m5 _ _ (lp4 (m4 _ _ (m3 _ _ (lp hD) hD))) (m4 _ _ (m3 _ _ (lp hD) hD));refine⟨(by show 1<=sizeLine;decide),λq1 n1=>?_⟩;refine⟨_,rfl,Dd,_,rfl,.inl (SqL.of (zr n1 _ _ hD5)),?_⟩;rw[List.length_map];refine⟨q1,_,_,rfl,rfl,zp,by omega,by omega,?_,λq2 n2=>?_⟩
  ·show 1*(ws.length:Int).toNat<=sizeLine;exact Nat.le_trans (show 1*(ws.length:Int).toNat<=13 by omega) (by decide)
  have s1:=zr n1 (o:=.lst [V.int 1]);have s2:=s1.trans (zr n2 (o:=.lst (List.replicate (ws.length:Int).toNat [V.int 1]).flatten));have R6:=R5.same s2;refine⟨_,rfl,r,_,_,V.ref bl,rfl,rfl,SqT.of R6.tu,rfl,(by show 1<=sizeLine;decide),λq3 n3=>?_⟩;have s3:=s2.trans (zr n3 (o:=.lst [V.int 0]));have R7:=R5.same s3;refine⟨bl,q3,zs,[0],rfl,R7.li,R7.st,zp,by omega,by decide,λz hz=>⟨(gz z hz).1,Nat.le_trans (gz z hz).2 (by decide)⟩,λH8 s8=>⟨_,rfl,?_⟩⟩;have s38:=s3.trans s8;have fin:∀x:Int,x=((uo (zs.map (·.2)) b 0:Nat):Int)->∀q4,H8 q4=none->q2≠q4->∀q5,upd H8 q4 (.lst [V.int x]) q5=none->∀q6,upd (upd H8 q4 (.lst [V.int x])) q5 (.lst ((List.replicate (ws.length:Int).toNat [V.int 1]).flatten++[V.int x])) q6=none ->
    Q .non (upd (upd (upd (upd H8 q4 (.lst [V.int x])) q5 (.lst ((List.replicate (ws.length:Int).toNat [V.int 1]).flatten++[V.int x]))) q6 (.lst [V.ref q5])) p (.ins C dx (wR "layers" (.ref q6) (wR "steps" (.ref sa) (wR "outset" (.int (ws.length:Nat)) (wR "base" (.int b) [])))))):=by
   intro x hx q4 n4 _ q5 n5 q6 n6;have t4:=zr n4 (o:=.lst [V.int x]);have t5:=zr n5 (o:=.lst ((List.replicate (ws.length:Int).toNat [V.int 1]).flatten++[V.int x]));have t6:=zr n6 (o:=.lst [V.ref q5]);have t46:=t4.trans (t5.trans t6);have s56:=s38.trans t46;have hp9:=s56 _ _ hp5;have f5:∀c,H5 c=none->H c=none:=λc hc=>by
    have h5:H4 c=none:=by
     rw[<-hH5]at hc;by_cases z:c=p
     ·subst z;rw[zp]at hc;cases hc
     ·rwa[zB z]at hc
    have h3':H3 c=none:=m4.free h5;have h1':H1 c=none:=by
     rw[<-hH3]at h3';by_cases z:c=p
     ·subst z;rw[zp]at h3';cases h3'
     ·rwa[zB z]at h3'
    cases e:H c with
    |none=>rfl
    |some o=>
     by_cases z:c=T0
     ·subst z;exact absurd h1' (by
       rcases hT1 with h | ⟨d,h,_⟩
       ·rw[h];simp
       ·rw[h];simp)
     ·rw[mL c o z e]at h1';cases h1'
   have q6H5:H5 q6=none:=(s38.trans (t4.trans t5)).free n6;have q6p:q6≠p:=λz=>by rw[z,hp5]at q6H5;cases q6H5
   have np5:q5≠q6:=λz=>by rw[<-z,zp]at n6;cases n6
   generalize hH9:upd (upd (upd H8 q4 (.lst [V.int x])) q5 (.lst ((List.replicate (ws.length:Int).toNat [V.int 1]).flatten++[V.int x]))) q6 (.lst [V.ref q5])=H9 at t6 t46 s56 hp9;have hq6:H9 q6=some (.lst [V.ref q5]):=by rw[<-hH9,zp]
   have hq5:H9 q5=some (.lst ((List.replicate (ws.length:Int).toNat [V.int 1]).flatten++[V.int x])):=by rw[<-hH9,zB np5,zp]
   have q5p:q5≠p:=Xc hq5 hp9 (λz=>nomatch z);have off:∀c o,c≠p->H5 c=some o->aw [q6] (upd H9 p (.ins C dx (WP b ws.length sa q6))) c=some o:=λc o hc e=>by
    have hcq:c≠q6:=zK e q6H5;rw[xf (by simpa using hcq),zB hc];exact s56 c o e
   have sa4:H4 sa=some (.lst (srs.map λz=>V.ref z.1)):=hsal;have l1:∀{c:Addr} {xs:List V},H4 c=some (.lst xs)->H5 c=some (.lst xs)/\c≠p:=λh=>⟨m5 _ _ (lp4 h) h,lp4 h⟩
   refine kk q6 (ws.map (·.2)) _ ⟨⟨dx,sa,srs,?_,off _ _ (l1 hsal).2 (l1 hsal).1,λz hz=>off _ _ (l1 (hsrs z hz).2).2 (l1 (hsrs z hz).2).1,hsr2⟩,⟨[(q5,vf (zs.map (·.2)) (ws.map (·.2)) b 0)],by rw[zB q6p];exact hq6,λz hz=>?_,rfl⟩,Nat.le_refl _⟩ ⟨g,SL,by rw[List.length_map];exact h13⟩ (λc o hc hcT e=>?_) ?_ (f5 _ q6H5)
   ·rw[xf (by simpa using Ne.symm q6p),List.length_map];exact zp
   ·have e:z=(q5,vf (zs.map (·.2)) (ws.map (·.2)) b 0):=by simpa using hz
    subst e;rw[xf (by simpa using np5),zB q5p,hq5];congr 2;unfold vf;rw[List.map_append,hx,Int.toNat_natCast,List.map_map,List.map_map];rw[J6 (λ_=>rfl) ws];rfl
   ·rw[zB hc];have h1:=mL c o hcT e;exact s56 c o (m5 c o hc (m4 c o (m3 c o hc h1)))
   ·have a1:LT T0 H3:=by
     rcases hT1 with h | ⟨d,h1,h2⟩
     ·exact .inl (m3 _ _ (Ne.symm npT) h)
     ·exact .inr ⟨d,m3 _ _ (Ne.symm npT) h1,m3 _ _ (Xc h2 hp1 (λz=>nomatch z)) h2⟩
    have a2:=a1.same m4;have a3:LT T0 H5:=by
     rcases a2 with h | ⟨d,h1,h2⟩
     ·exact .inl (m5 _ _ (Ne.symm npT) h)
     ·exact .inr ⟨d,m5 _ _ (Ne.symm npT) h1,m5 _ _ (Xc h2 hp4 (λz=>nomatch z)) h2⟩
    have a4:=a3.same s56;rcases a4 with h | ⟨d,h1,h2⟩
    ·exact .inl (by rw[zB (Ne.symm npT)];exact h)
    ·exact .inr ⟨d,by rw[zB (Ne.symm npT)];exact h1,by rw[zB (Xc h2 hp9 (λz=>nomatch z))];exact h2⟩
  have hq2:H8 q2=some (.lst (List.replicate (ws.length:Int).toNat [V.int 1]).flatten):=s8 _ _ (zr n3 _ _ zp);have lenr:(List.replicate (ws.length:Int).toNat [V.int 1]).flatten.length<=13:=by rw[Int.toNat_natCast,J6 (f:=λ_=>V.int 1) (λ_=>rfl) ws,List.length_map];exact h13
  have len3:(wR "steps" (.ref sa) (wR "outset" (.int (ws.length:Nat)) (wR "base" (.int b) []))).length<=3:=Nat.le_trans (qF _ _ _) (Nat.succ_le_succ len2);have tail:∀x:Int,x=((uo (zs.map (·.2)) b 0:Nat):Int)->∀q4,H8 q4=none->Ex4 λl b' xs zs'=>V.ref q2=V.ref l/\V.ref q4=V.ref b'/\upd H8 q4 (.lst [V.int x]) l=some (.lst xs)/\upd H8 q4 (.lst [V.int x]) b'=some (.lst zs')/\xs.length+zs'.length<=sizeLine/\∀q5,upd H8 q4 (.lst [V.int x]) q5=none ->
    1<=sizeLine/\∀q6,upd (upd H8 q4 (.lst [V.int x])) q5 (.lst (xs++zs')) q6=none->∃v,some (some (V.ref p))=some (some v)/\Ex4 λa C' dx' fs=>v=.ref a/\upd (upd (upd H8 q4 (.lst [V.int x])) q5 (.lst (xs++zs'))) q6 (.lst [V.ref q5]) a=some (.ins C' dx' fs)/\Cls K C'/\NoAttr K C' "layers"/\fs.length<1000/\Q .non (upd (upd (upd (upd H8 q4 (.lst [V.int x])) q5 (.lst (xs++zs'))) q6 (.lst [V.ref q5])) a (.ins C' dx' (wR "layers" (.ref q6) fs))):=by
   intro x hx q4 n4;have nq:q2≠q4:=zK hq2 n4;refine⟨q2,q4,_,_,rfl,rfl,by rw[zB nq];exact hq2,zp,Nat.le_trans (Nat.add_le_add lenr (Nat.le_refl 1)) (by decide),λq5 n5=>⟨(by decide),λq6 n6=>?_⟩⟩;have hp8:=s38 _ _ hp5;exact⟨_,rfl,p,C,dx,_,rfl,(zr n4).trans ((zr n5).trans (zr n6)) _ _ hp8,zZ.cl,zZ.n_layers,by omega,fin x hx q4 n4 nq q5 n5 q6 n6⟩
  cases hlk:lacks (zs.map (·.2)) [0] with
  |true=>
   refine xU ?_;refine⟨(by show 1<=sizeLine;decide),λq4 n4=>?_⟩;exact tail 1 (by unfold uo;rw[hlk];rfl) q4 n4
  |false=>
   refine xF ?_;refine⟨(by show 1<=sizeLine;decide),λq4 n4=>?_⟩;exact tail 0 (by unfold uo;rw[hlk];rfl) q4 n4
end
theorem zfl(nx:H x=none)(ndx:H dx=none):Same H (upd (upd H dx (.own x)) x (.ins C dx [])):=λb o e=>by
 rw[zB (zK e nx),zB (zK e ndx)];exact e
theorem RuleAt.sameL(R:RuleAt H r b bl zs)(hT:LT T0 H)(m:SameL T0 H H'):RuleAt H' r b bl zs :=
 ⟨m _ _ (hT.tup R.tu) R.tu,m _ _ (hT.lst R.li) R.li,λz hz=>m _ _ (hT.lst (R.st z hz)) (R.st z hz)⟩
theorem zdw(m:SameL T0 H H1)(hla:H la=none)(a:Same (aw [la] H1) (aw [la] H2)):SameL T0 H H2:=λc o hc e=>by
 have hcl:c∉[la]:=by simpa using zK e hla
 have:=a c o (by rw[xf hcl];exact m c o hc e);rwa[xf hcl]at this
theorem TailsAt.la{C p la b:Nat}(TA:TailsAt C H p la b ls ws L):∃xs,H la=some (.lst xs):=let ⟨_,h,_⟩:=TA.ly;⟨_,h⟩
section
variable {P:Program} {w:World} {K:W.Frag} {mg:Str->Option Value} {base:Heap} {T0 C:Addr}
def zg1(T0 C:Addr)(b:Nat)(ls:ZA)(H:Hp)(x:Addr)(H':Hp):Prop:=∃la ws,TailsAt C H' x la b ls ws 1/\GoodT b ls ws/\SameL T0 H H'/\LT T0 H'/\H la=none
theorem zfF(R:RuleAt H r b bl zs)(g:yx b (zs.map (·.2)))(hT:LT T0 H){R':Addr->Hp->Prop}(k:∀x H',zg1 T0 C b (zs.map (·.2)) H x H'->R' x H'):
  ∀x dx,H x=none->H dx=none->dx≠x->V9 T0 C (.ref x::([.ref r]++[])) (upd (upd H dx (.own x)) x (.ins C dx [])) (λv H2=>v=.non/\R' x H2) E0:=by
 intro x dx nx ndx nex;have s0:=zfl (C:=C) nx ndx;refine⟨x,dx,r,b,bl,zs,rfl,zp,R.same s0,g,hT.same s0,λla ws H' TA G fr hT' hla=>⟨rfl,k x H' ⟨la,ws,TA,G,λc o hc e=>fr c o (zK e nx) hc (s0 c o e),hT',s0.free hla⟩⟩⟩
def YB(T0:Addr):Sp:=λvs H Q _=>Ex5 λ(r:Addr) (b:Nat) (bl:Addr) (zs:ZB) (n:Nat)=>vs=[.ref r,.int n]/\RuleAt H r b bl zs/\yx b (zs.map (·.2))/\n<2^900/\LT T0 H/\∀H',SameL T0 H H'->LT T0 H'->Q (.int (many (gd (zs.map (·.2)) b) n:Nat)) H'
theorem V5:zF ["rule","n"] ["rule","n"] (zx ux):={}
theorem UV(D:Df K mg "count_below" ux Ac f fd)(xP:Df K mg "check_rule" ud Aa f1 fd1)(wu:FnOk P w K mg base CX0 7 f1 fd1 Aa qx)(vK:Df K mg "figures_of" tO Ae f2 fd2)(uL:FnOk P w K mg base CX0 4 f2 fd2 Ae j9)(zcd:Mk K C f3)(zb7:Binds K fd3 ["self","rule"] [])(Yw:FnOk P w K mg base CX0 7 f3 fd3 A0 (V9 T0 C))(vI:Mt K C "Tails.many_below" "many_below" yj Az f4 fd4)(tR:FnOk P w K mg base CX0 4 f4 fd4 Az (Y8 C))(zZ:ClT K mg C):FnOk P w K mg base CX0 9 f fd Ac (YB T0):=by
 refine D.fn.ok V5 (λvs H Q E h=>?_) (λcdv A outer s H vs Q E hr h=>?_)
 ·obtain⟨r,b,bl,zs,n,rfl,_⟩:=h;rfl
 ·obtain⟨r,b,bl,zs,n,rfl,R,g,hn,hT,kk⟩:=h;refine xO ?_;intro XX;let q1:Sq XX ((zq ux).drop 1):=⟨_,zu (zG (zbA vI zZ.cl tR (hr.mono (by decide)) (zfp zcd Yw (hr.mono (by decide)) rfl zZ.nm zb7 .nil zdT (zf (pv 0) zg)) (zf (zE vK uL (hr.mono (by decide)) (zf (zR (vO K) (pv 0) zm (λ_ _=>rfl)) (zf (pv 1) zg))) zg)))⟩
  refine⟨_,(zj (wI (zE xP wu (hr.mono (by decide)) (zf (pv 0) zg))) q1.p),?_⟩;refine⟨_,rfl,r,b,bl,zs,rfl,R,g,λH1 m1=>?_⟩;refine⟨_,rfl,?_⟩;refine zfF (R.same m1) g (hT.same m1) ?_;rintro x H2 ⟨la,ws,TA,G,mL,hT2,hla⟩;obtain⟨dx2,sa2,hp2⟩:=TA.obj;have R2:=(R.same m1).sameL (hT.same m1) mL;refine⟨x,dx2,_,rfl,hp2,Wz _ _ _ _,?_⟩;refine⟨_,rfl,r,_,_,V.int b,rfl,rfl,SqT.of R2.tu,rfl,_,rfl,b,n,rfl,g.b2,g.b16,hn,λl H3 hl hv m3=>?_⟩;obtain⟨xs,hla2⟩:=TA.la;have nl:l≠la:=λz=>by rw[z,hla2]at hl;cases hl
  refine⟨x,la,b,_,ws,1,l,n,rfl,TA.same m3,G,by decide,by rw[xf (by simpa using nl)];exact hv,hn,λL4 H4 hL4 TA4 m4 hL4'=>?_⟩;have mL3:=mL.trans (.of m3);have mL4:=zdw mL3 hla m4;exact kk H4 ((SameL.of m1).trans mL4) ((hT2.same m3).off (m3 _ _ hla2) m4)
end
section
variable {P:Program} {w:World} {K:W.Frag} {mg:Str->Option Value} {base:Heap} {T0:Addr}
def Yn(T0 xA:Addr):Sp:=λvs H Q E=>Ex6 λr b bl zs v d=>vs=[.ref r,v]/\RuleAt H r b bl zs/\yx b (zs.map (·.2))/\ThAt H d v/\(∀n:Nat,d=.int n->n<2^900)/\LT T0 H /\
 ((∀n:Nat,d=.int n->gd (zs.map (·.2)) b n=false)->∀H',Same H H'->E (.ref xA) none H')/\∀n:Nat,d=.int n->gd (zs.map (·.2)) b n=true->∀H',SameL T0 H H'->LT T0 H'->Q (.int (many (gd (zs.map (·.2)) b) n:Nat)) H'
theorem za7:zF ["rule","n"] ["rule","n"] (zx uB):={}
theorem zaV(D:Df K mg "place_of" uB Ac f fd)(xP:Df K mg "check_rule" ud Aa f1 fd1)(wu:FnOk P w K mg base CX0 7 f1 fd1 Aa qx)(vN:Df K mg "is_number" uO Aa f2 fd2)(yr:Df K mg "is_whole" wG Aa f3 fd3)(Wm:Df K mg "is_good" Zm Ac f4 fd4)(Qq:FnOk P w K mg base CX0 8 f4 fd4 Ac Ut)(qY:Df K mg "count_below" ux Ac f5 fd5)(ZX:FnOk P w K mg base CX0 9 f5 fd5 Ac (YB T0))(qDg:zgW K mg "NoGood" xA)(T:Blt mg):FnOk P w K mg base (CX1 P w) 10 f fd Ac (Yn T0 xA):=by
 have XR:FnOk P w K mg base CX0 2 f2 fd2 Aa Y7:=QB vN yr T;refine D.fn.ok1 za7 (λvs H Q E h=>?_) (λcdv A outer s H vs Q E hr h=>?_)
 ·obtain⟨r,b,bl,zs,v,d,rfl,_⟩:=h;rfl
 ·obtain⟨r,b,bl,zs,v,d,rfl,R,g,hd,hn,hT,kE,kQ⟩:=h;refine xO ?_;intro XX;let q1:Sq XX ((zq uB).drop 2):=⟨_,zu (zG (zE qY ZX (hr.mono (by decide)) (zf (pv 0) (zf (pv 1) zg))))⟩
  let q2:Sq XX ((zq uB).drop 1):=⟨_,zj (yG (PW.pt (Ym (wD (xx (zE vN XR (hr.mono (by decide)) (zf (pv 1) zg)))) (Zj (wD (xx (zE Wm Qq (hr.mono (by decide)) (zf (pv 0) (zf (pv 1) zg))))))))
    (zu (zdI qDg zeb rfl (zf U8 zg)))
    zP) q1.p⟩
  refine⟨_,(zj (wI (zE xP wu (hr.mono (by decide)) (zf (pv 0) zg))) q2.p),?_⟩;refine⟨_,rfl,r,b,bl,zs,rfl,R,g,λH1 m1=>?_⟩;have R1:=R.same m1;have hd1:=hd.same m1;refine⟨_,rfl,v,d,rfl,hd1,_,rfl,?_⟩;cases hm:zad d with
  |false=>exact xU ⟨by decide,kE (λn e=>by rw[e,show zad (.int n)=true from decide_eq_true (Int.natCast_nonneg n)]at hm;cases hm) H1 m1⟩
  |true=>
   obtain⟨n,rfl,rfl⟩:=zdH hd hm;refine xF ⟨_,rfl,_,rfl,r,b,bl,zs,n,rfl,R1,g,hn n rfl,λH2 m2=>⟨_,rfl,?_⟩⟩;have e:lacks (zs.map (·.2)) (zT b n)=gd (zs.map (·.2)) b n:=rfl;rw[e];cases hg:gd (zs.map (·.2)) b n with
   |false=>exact xU ⟨by decide,kE (λk e=>by obtain rfl:n=k:=by { injection e with e;omega };exact hg) H2 (m1.trans m2)⟩
   |true=>
    refine xF ⟨_,rfl,_,rfl,r,b,bl,zs,n,rfl,R1.same m2,g,hn n rfl,(hT.same m1).same m2,λH3 m3 l3=>?_⟩;exact kQ n rfl hg H3 ((SameL.of (m1.trans m2)).trans m3) l3
end
structure Sto2 (H:Hp) (s dr:Addr) (ds:List Int):Prop where
 st:∃i:Int,H s=some (.lst [.ref dr,.int i])
 dr:H dr=some (.lst (ds.map V.int))
 ne:ds≠[]
 len:ds.length<=1000
 nn:∀d∈ds,0<=d/\d<10007
theorem Sto2.nes{s dr p:Addr}(S:Sto2 H s dr ds)(h:H p=none):p≠s:=λz=>by
 obtain⟨i,e⟩:=S.st;rw[z,e]at h;cases h
theorem Sto2.ned{s dr:Addr}(S:Sto2 H s dr ds):dr≠s:=λz=>by
 obtain⟨i,e⟩:=S.st;have h:=S.dr;rw[z,e]at h;injection h with h
 injection h with h
 cases hd:ds with
 |nil=>exact S.ne hd
 |cons a l=>rw[hd,List.map_cons]at h;injection h with h1 _;cases h1
structure Stq2 (T s dr:Addr) (ds:List Int) (H H':Hp):Prop where
 st:Sto2 H' s dr ds
 sm:∀b o,b≠s->b≠T->H b=some o->H' b=some o
section
variable {T s dr p:Addr} {ds:List Int} {H H1 H2 H':Hp} {o:HO}
theorem Stq2.refl(S:Sto2 H s dr ds):Stq2 T s dr ds H H:=⟨S,λ_ _ _ _ e=>e⟩
theorem Stq2.trans(a:Stq2 T s dr ds H H1)(b:Stq2 T s dr ds H1 H2):Stq2 T s dr ds H H2:=⟨b.st,λc o h t e=>b.sm c o h t (a.sm c o h t e)⟩
theorem Sto2.sameL(S:Sto2 H s dr ds)(hT:LT T H)(m:SameL T H H'):Sto2 H' s dr ds:=by
 obtain⟨i,e⟩:=S.st;exact⟨⟨i,m _ _ (hT.lst e) e⟩,m _ _ (hT.lst S.dr) S.dr,S.ne,S.len,S.nn⟩
theorem Sto2.same(S:Sto2 H s dr ds)(m:Same H H'):Sto2 H' s dr ds:=by
 obtain⟨i,e⟩:=S.st;exact⟨⟨i,m _ _ e⟩,m _ _ S.dr,S.ne,S.len,S.nn⟩
theorem Stq2.same(a:Stq2 T s dr ds H H1)(m:Same H1 H2):Stq2 T s dr ds H H2:=⟨a.st.same m,λc o h t e=>m c o (a.sm c o h t e)⟩
theorem Stq2.sameL(a:Stq2 T s dr ds H H1)(hT:LT T H1)(m:SameL T H1 H2):Stq2 T s dr ds H H2:=⟨a.st.sameL hT m,λc o h t e=>m c o t (a.sm c o h t e)⟩
theorem Stq2.put(a:Stq2 T s dr ds H H1)(hs:p≠s)(hd:p≠dr)(h:H p=none):Stq2 T s dr ds H (upd H1 p o):=⟨by
 obtain⟨i,e⟩:=a.st.st;exact⟨⟨i,by rw[zB (Ne.symm hs)];exact e⟩,by rw[zB (Ne.symm hd)];exact a.st.dr,a.st.ne,a.st.len,a.st.nn⟩,λc u hc ht e=>by
  rw[zB (zK e h)];exact a.sm c u hc ht e⟩
end
section
variable {P:Program} {w:World} {K:W.Frag} {mg:Str->Option Value} {base:Heap} {T0:Addr}
def uc(T0:Addr):Sp:=λvs H Q _=>Ex4 λ(s:Addr) (dr:Addr) (ds:List Int) (m:Nat)=>vs=[.ref s,.int m]/\Sto2 H s dr ds/\0<m/\LT T0 H/\∀r H',r<m->r<10007->Stq2 T0 s dr ds H H'->LT T0 H'->Q (.int r) H'
theorem zae:zF ["store","many"] ["store","many"] (zx wB):={}
theorem uW(D:Df K mg "_law_take" wB Ai f fd)(T:Blt mg):FnOk P w K mg base CX0 1 f fd Ai (uc T0):=by
 refine D.fn.ok zae (λvs H Q E h=>?_) (λcdv A outer s H vs Q E hr h=>?_)
 ·obtain⟨s,dr,ds,m,rfl,_⟩:=h;rfl
 ·obtain⟨sa,dr,ds,m,rfl,S,hm0,hT,kk⟩:=h;obtain⟨i,hs⟩:=S.st;have nd:=S.ned;refine xO ?_;intro XX;let q1:Sq XX ((zq wB).drop 1):=⟨_,zu (zG (zy yh (zR (yJ K) (zR (yJ K) (pv 0) zm (λ_ _=>rfl)) (zy yh (zy xT (zR (yJ K) (pv 0) zm (λ_ _=>rfl)) zm) (zz (wy K) (by rfl) T.n_len PySem.boot_len (zf (zR (yJ K) (pv 0) zm (λ_ _=>rfl)) zg))) (λ_ _=>rfl)) (pv 1)))⟩
  refine⟨_,(zj (zgu (zy ym (zR (yJ K) (pv 0) zm (λ_ _=>rfl)) zm) (zgT (pv 0) zm set_list)) q1.p),?_⟩;refine⟨_,rfl,sa,_,_,V.int i,rfl,rfl,SqL.of hs,rfl,_,_,rfl,rfl,_,rfl,sa,_,_,1,rfl,rfl,hs,rfl,?_⟩;have hs1:upd H sa (.lst [V.ref dr,V.int (i+1)]) sa=some (.lst [V.ref dr,V.int (i+1)]):=zp;have hd1:upd H sa (.lst [V.ref dr,V.int (i+1)]) dr=some (.lst (ds.map V.int)):=by rw[zB nd];exact S.dr
  have hdl:=List.length_pos_iff.mpr S.ne;refine⟨_,rfl,sa,_,_,V.ref dr,rfl,rfl,SqL.of hs1,rfl,?_⟩;refine⟨_,rfl,sa,_,_,V.int (i+1),rfl,rfl,SqL.of hs1,rfl,_,_,rfl,rfl,?_⟩;refine⟨_,rfl,sa,_,_,V.ref dr,rfl,rfl,SqL.of hs1,rfl,dr,_,rfl,.inl (SqL.of hd1),_,_,rfl,rfl,(by rw[List.length_map];omega),?_⟩;rw[List.length_map];have hj0:0<=(i+1-1) % ds.length:=Int.emod_nonneg _ (by omega);have hj1:(i+1-1) % ds.length<ds.length:=Int.emod_lt_of_pos _ (by omega);obtain⟨j,hj⟩:∃j:Nat,(i+1-1) % ds.length=j:=⟨((i+1-1) % ds.length).toNat,by omega⟩
  have hjl:j<ds.length:=by omega
  refine⟨dr,_,_,V.int ds[j],rfl,rfl,SqL.of hd1,?_,_,rfl,_,_,rfl,rfl,(by omega),?_⟩
  ·show atI (ds.map V.int) ((i+1-1) % ds.length)=_;rw[hj];exact xW (by rw[List.getElem?_map,List.getElem?_eq_getElem hjl];rfl)
  have hn:=S.nn ds[j] (List.getElem_mem hjl);have h0:0<=ds[j] % m:=Int.emod_nonneg _ (by omega);have h1:ds[j] % m<m:=Int.emod_lt_of_pos _ (by omega);have h2:ds[j] % m<=ds[j]:=by
   have:=Int.mul_ediv_add_emod ds[j] m;have h3:=Int.mul_nonneg (show (0:Int)<=m by omega) (Int.ediv_nonneg hn.1 (show (0:Int)<=m by omega));omega
  obtain⟨r,hr'⟩:∃r:Nat,ds[j] % m=r:=⟨(ds[j] % m).toNat,by omega⟩
  show Q (V.int (ds[j] % m)) _;rw[hr'];refine kk r _ (by omega) (by omega) ⟨⟨⟨_,hs1⟩,hd1,S.ne,S.len,S.nn⟩,λb o hb _ e=>by rw[zB hb];exact e⟩ ?_;have nT:=hT.lst hs;rcases hT with h | ⟨c,h1,h2⟩
  ·exact .inl (by rw[zB (Ne.symm nT)];exact h)
  ·exact .inr ⟨c,by rw[zB (Ne.symm nT)];exact h1,by rw[zB (λz=>by rw[z,hs]at h2;cases h2)];exact h2⟩
structure Drw (H:Hp) (p:Addr) (ds:List Int):Prop where
 li:H p=some (.lst (ds.map V.int))
 nn:∀d∈ds,0<=d/\d<10007
def Y0(K:W.Frag):Sp:=λvs H Q _=>Ex2 λ(a:Addr) (ns:List Int)=>vs=[.ref a,.int 400]/\SqL K H a (ns.map V.int)/\ns.length<=63/\∀p ds H',H p=none->Drw H' p ds->ds≠[]->ds.length<=1000->Same H H'->Q (.ref p) H'
theorem zY:zF ["script","many","drawn","base","k","cell","number","one"] ["script","many"] (zx zU):={}
theorem Qx(D:Df K mg "_law_draws" zU A2 f fd)(T:Blt mg)(U:Wu mg):FnOk P w K mg base CX0 1 f fd A2 (Y0 K):=by
 refine D.fn.ok zY (λvs H Q E h=>?_) (λcdv A outer s H vs Q E hr h=>?_)
 ·obtain⟨a,ns,rfl,_⟩:=h;rfl
 ·obtain⟨a,ns,rfl,hS,hlen,kk⟩:=h;refine xO ?_;intro XX;let q1:Sq XX ((zq zU).drop 4):=⟨_,zu (zG (pv 2))⟩
  let q2:Sq XX ((sb (zq zU) 3 true).drop 3):=⟨_,zu (wI (Yj PySem.F.plainAttrs_list PySem.F.slot_list_append PySem.F.type_list_append vB (pv 2) (zf (zy yh (zy vJ (zy yh (zy wL (pv 7) (pv 7)) zm) zm) zm) zg)))⟩
  let q3:Sq XX ((sb (zq zU) 3 true).drop 2):=⟨_,zj (zA (i:=7) zY.nd rfl (Or.inl rfl) (zy yh (zy ym (zy wL (pv 7) zm) (pv 4)) zm)) q2.p⟩
  let q4:Sq XX ((sb (zq zU) 3 true).drop 1):=⟨_,zj (zA (i:=7) zY.nd rfl (Or.inl rfl) (zy yh (zy wL (pv 7) (pv 7)) zm)) q3.p⟩
  let q5:Sq XX ((zq zU).drop 3):=⟨_,zj (xj PassesOwn.never rfl (yt rfl T.n_range (zf (zy xT (pv 1) (zz (wy K) (by rfl) T.n_len PySem.boot_len (zf (pv 2) zg))) zg)) (zV (i:=4) zY.nd rfl (Or.inl rfl))
    (zj (zA (i:=7) zY.nd rfl (Or.inl rfl) (zy yh (zy ym (zy ym (pv 3) (zy wL zm (pv 4))) zm) zm)) q4.p)) q1.p⟩
  let q6:Sq XX ((sb (sb (sb (zq zU) 2 true) 2 true) 0 true).drop 1):=⟨_,zu (zA (i:=6) zY.nd rfl (Or.inl rfl) (zy vJ (pv 6) zm))⟩
  let q7:Sq XX ((sb (sb (zq zU) 2 true) 2 false).drop 5):=⟨_,zu (wI (Yj PySem.F.plainAttrs_list PySem.F.slot_list_append PySem.F.type_list_append vB (pv 2) (zf (zy yh (zy vJ (pv 7) zm) zm) zg)))⟩
  let q8:Sq XX ((sb (sb (zq zU) 2 true) 2 false).drop 4):=⟨_,zj (zA (i:=7) zY.nd rfl (Or.inl rfl) (zy yh (zy wL (pv 7) (pv 7)) zm)) q7.p⟩
  let q9:Sq XX ((sb (sb (zq zU) 2 true) 2 false).drop 3):=⟨_,zj (zA (i:=7) zY.nd rfl (Or.inl rfl) (zy yh (zy ym (zy ym (zy wL (pv 7) zm) (zy wL zm (pv 4))) zm) zm)) q8.p⟩
  let q10:Sq XX ((sb (sb (zq zU) 2 true) 2 false).drop 2):=⟨_,zj (wI (Yj PySem.F.plainAttrs_list PySem.F.slot_list_append PySem.F.type_list_append vB (pv 2) (zf (zy yh (zy vJ (pv 7) zm) zm) zg))) q9.p⟩
  let q11:Sq XX ((sb (sb (zq zU) 2 true) 2 false).drop 1):=⟨_,zj (zA (i:=7) zY.nd rfl (Or.inl rfl) (zy yh (zy wL (pv 7) (pv 7)) zm)) q10.p⟩
  let q12:Sq XX ((sb (zq zU) 2 true).drop 2):=⟨_,zu (yG (zO zbp (pv 6) (zy ZZ zm zm) (zM _))
     (zu (Yz PassesOwn.never (PW.pt (Vh (zO zbb (pv 6) zm (zM _)) (YQ (zO Wj (zz (wy K) (by rfl) T.n_len PySem.boot_len (zf (pv 2) zg)) (pv 1) (zM _)))))
      (zj (wI (Yj PySem.F.plainAttrs_list PySem.F.slot_list_append PySem.F.type_list_append vB (pv 2) (zf (zy yh (pv 6) zm) zg))) q6.p)))
     (zj (zA (i:=7) zY.nd rfl (Or.inl rfl) (zy yh (zy wL (zy ym (zy ym (zy yh (pv 6) zm) (pv 4)) zm) zm) zm)) q11.p))⟩
  let q13:Sq XX ((sb (zq zU) 2 true).drop 1):=⟨_,zj (zA (i:=3) zY.nd rfl (Or.inl rfl) (zy yh (zy ym (zy wL (pv 3) zm) (pv 6)) zm)) q12.p⟩
  let q14:Sq XX ((zq zU).drop 2):=⟨_,zj (xj PassesOwn.never rfl (zcL K rfl T.n_enumerate (zf (yN (qD K) (pv 0) wA (yW zm)) zg)) (zab rfl (wN (zV (i:=4) zY.nd rfl (Or.inl rfl)) (wN (zV (i:=5) zY.nd rfl (Or.inl rfl)) X8)))
    (zj (zA (i:=6) zY.nd rfl (Or.inl rfl) (zz zeF (by rfl) U.n_abs boot_abs (zf (pv 5) zg))) q13.p)) q5.p⟩
  let q15:Sq XX ((zq zU).drop 1):=⟨_,zj (zA (i:=3) zY.nd rfl (Or.inl rfl) zm) q14.p⟩
  refine⟨_,(zj (zA (i:=2) zY.nd rfl (Or.inl rfl) (yc zg)) q15.p),?_⟩;refine⟨(by decide:0<=sizeLine),λdr hdr=>?_⟩;have m1:Same H (upd H dr (.lst [])):=zr hdr;have add:∀{H2:Hp} {ds:List Int} (y:Int),Drw H2 dr ds->Drw (upd H2 dr (.lst (ds.map V.int++[.int (y % 10007)]))) dr (ds++[y % 10007]):=λ{H2 ds} y Dr=>⟨by rw[zp];simp,λd hd=>by
   rcases List.mem_append.mp hd with hd | hd
   ·exact Dr.nn d hd
   ·have e:d=y % 10007:=by simpa using hd
    rw[e];exact⟨Int.emod_nonneg _ (by decide),Int.emod_lt_of_pos _ (by decide)⟩⟩
  have smp:∀{H2:Hp} {o:HO},Same H H2->Same H (upd H2 dr o):=λm b o e=>by rw[zB (zK e hdr)];exact m b o e
  refine⟨_,rfl,_,rfl,a,_,rfl,m1.seq hS,λq hq=>?_⟩;have ecut:uQ (ns.map V.int) none (some 63)=ns.map V.int:=by
   rw[show (63:Int)=((63:Nat):Int) from rfl,jn,List.take_of_length_le (by rw[List.length_map];exact hlen)]
  rw[ecut];have m2:=m1.trans (zr hq (o:=.lst (ns.map V.int)));have ndq:dr≠q:=λz=>by rw[<-z,zp]at hq;cases hq
  refine⟨q,rfl,⟨_,SqL.of zp⟩,za2 (K:=K) (a:=q) (xs:=ns.map V.int) (λi Z H2=>∃(v4 v5 v6 v7:Option V) (bs:Int) (ds:List Int),Z=[some (.ref a),some (.int 400),some (.ref dr),some (.int bs),v4,v5,v6,v7]/\0<=bs/\bs<2147483629/\Drw H2 dr ds/\ds.length<=400+2*i/\Same H H2/\H2 q=some (.lst (ns.map V.int)))
   ⟨none,none,none,none,7,[],rfl,by decide,by decide,⟨by rw[zB ndq,zp];rfl,by simp⟩,by simp,m2,zp⟩ (λi Z H2 _ ⟨_,_,_,_,_,_,_,_,_,_,_,_,h⟩=>SqL.of h) ?_ ?_⟩
  ·rintro i x Z H2 T1 hx ⟨v4,v5,v6,v7,bs,ds,rfl,hb0,hb1,Dr,hdl,m,hq2⟩ hT1;rw[List.getElem?_map]at hx;obtain⟨cell,hc,e⟩:=Option.map_eq_some_iff.mp hx;subst e;have hi:i<ns.length:=(List.getElem?_eq_some_iff.mp hc).1;have t1:=zr hT1 (o:=.tup [.int (i:Nat),.int cell]);refine⟨T1,_,rfl,SqT.of zp,rfl,_,_,rfl,_,_,rfl,rfl,?_⟩;have m3:=m.trans t1;have Dr3:Drw (upd H2 T1 (.tup [.int (i:Nat),.int cell])) dr ds:=⟨t1 _ _ Dr.li,Dr.nn⟩
   have hq3:=t1 _ _ hq2;generalize upd H2 T1 (.tup [.int (i:Nat),.int cell])=H3 at m3 Dr3 hq3;have ndq3:dr≠q:=ndq;refine⟨_,rfl,cell,rfl,?_⟩
   try dsimp only
   generalize hnum:(if cell<0 then -cell else cell)=num;have hn0:0<=num:=by rw[<-hnum];split<;>omega
   refine⟨_,rfl,_,_,rfl,rfl,.inr ⟨by decide,by decide⟩,_,rfl,_,_,rfl,rfl,_,_,rfl,rfl,(by decide:(0:Int)<2147483629),?_⟩
   try dsimp only
   generalize hbs:(bs*31+num) % 2147483629=bs';have hb0':0<=bs':=by rw[<-hbs];exact Int.emod_nonneg _ (by decide)
   have hb1':bs'<2147483629:=by rw[<-hbs];exact Int.emod_lt_of_pos _ (by decide)
   refine⟨_,rfl,_,_,rfl,rfl,⟨by decide,by decide,by decide⟩,_,_,rfl,rfl,_,rfl,?_⟩;generalize decide ((10:Int)^(18:Int).toNat<=num)=bb;cases bb with
   |true=>
    refine xU ?_;refine Yt (λZ H4=>∃(ds':List Int) (nu:Int),Z=[some (.ref a),some (.int 400),some (.ref dr),some (.int bs'),some (.int (i:Nat)),some (.int cell),some (.int nu),v7]/\0<=nu/\Drw H4 dr ds'/\(ds'.length<=400\/ds'.length<=400+2*i)/\Same H H4/\H4 q=some (.lst (ns.map V.int)))
     (λZ _=>match Z with | [_,_,_,_,_,_,some (.int nu),_]=>nu.toNat | _=>0) ⟨ds,num,rfl,hn0,Dr3,.inr hdl,m3,hq3⟩ ?_ ?_
    ·rintro Z H4 ⟨ds',nu,rfl,hnu,Dr4,hl4,m4,hq4⟩;refine⟨_,rfl,_,_,rfl,rfl,_,rfl,?_⟩;refine Vb (λhp=>?_) (λhp=>?_)
     ·have hp':0<nu:=of_decide_eq_true hp;refine⟨_,rfl,dr,_,rfl,.inl (SqL.of Dr4.li),_,rfl,_,_,rfl,rfl,_,rfl,?_⟩;rw[List.length_map];refine Vb (λhlt=>?_) (λhlt=>?_)
      ·have hlt':ds'.length<400:=by have:=of_decide_eq_true hlt;omega
       refine⟨_,rfl,.inl ⟨rfl,_,SqL.of Dr4.li⟩,_,rfl,_,_,rfl,rfl,(by decide:(0:Int)<10007),dr,_,_,rfl,rfl,Dr4.li,by rw[List.length_map];exact Nat.lt_of_lt_of_le hlt' (by decide),?_⟩;refine⟨_,rfl,_,_,rfl,rfl,⟨by decide,by decide⟩,⟨ds'++[nu % 10007],nu / 10007,rfl,Int.ediv_nonneg hnu (by decide),add nu Dr4,.inl (by rw[List.length_append,List.length_singleton];omega),smp m4,by rw[zB (Ne.symm ndq)];exact hq4⟩,?_⟩;show (nu / 10007).toNat<nu.toNat;have:nu / 10007<nu:=Int.ediv_lt_of_lt_mul (by decide) (by omega);omega
      ·exact⟨_,_,_,_,bs',ds',rfl,hb0',hb1',Dr4,by omega,m4,hq4⟩
     ·exact⟨_,_,_,_,bs',ds',rfl,hb0',hb1',Dr4,by omega,m4,hq4⟩
    ·intro Z H4 Q Q' hq';rintro⟨v0,e0,i0,j0,e1,e2,k0,e3,q0⟩;refine⟨v0,e0,i0,j0,e1,e2,k0,e3,?_⟩;by_cases hk:k0=true
     ·rw[if_pos hk]at q0 ⊢;obtain⟨v1,e4,a1,ys1,e5,s1,v2,e6,i2,j2,e7,e8,k2,e9,q2⟩:=q0;exact⟨v1,e4,a1,ys1,e5,s1,v2,e6,i2,j2,e7,e8,k2,e9,hq' _ _ q2⟩
     ·rw[if_neg hk]at q0 ⊢;exact hq' _ _ q0
   |false=>
    refine xF ?_;refine⟨_,rfl,_,_,rfl,rfl,(by decide:(0:Int)<2147483647),_,rfl,_,_,rfl,rfl,_,_,rfl,rfl,_,_,rfl,rfl,.inr ⟨by decide,by decide⟩,_,_,rfl,rfl,(by decide:(0:Int)<2147483647),?_⟩
    try dsimp only
    generalize ho1:(num % 2147483647+(i:Int)+1)*48271 % 2147483647=o1;have o1b:0<=o1/\o1<2147483647:=by rw[<-ho1];exact⟨Int.emod_nonneg _ (by decide),Int.emod_lt_of_pos _ (by decide)⟩
    refine⟨_,rfl,_,rfl,_,_,rfl,rfl,.inl ⟨by omega,by omega⟩,_,_,rfl,rfl,(by decide:(0:Int)<2147483629),?_⟩
    try dsimp only
    generalize ho2:o1*o1 % 2147483629=o2;have o2b:0<=o2/\o2<2147483629:=by rw[<-ho2];exact⟨Int.emod_nonneg _ (by decide),Int.emod_lt_of_pos _ (by decide)⟩
    refine⟨_,rfl,.inl ⟨rfl,_,SqL.of Dr3.li⟩,_,rfl,_,_,rfl,rfl,⟨by decide,by decide⟩,_,_,rfl,rfl,(by decide:(0:Int)<10007),dr,_,_,rfl,rfl,Dr3.li,by rw[List.length_map];exact Nat.lt_of_le_of_lt (show ds.length<=600 by omega) (by decide),?_⟩;have Dr4:=add (o2 / 8) Dr3;refine⟨_,rfl,_,_,rfl,rfl,.inl ⟨by omega,by omega⟩,_,rfl,_,_,rfl,rfl,.inl ⟨by decide,by decide⟩,_,_,rfl,rfl,_,_,rfl,rfl,_,_,rfl,rfl,(by decide:(0:Int)<2147483563),?_⟩
    try dsimp only
    generalize ho3:(o2*40692+2*(i:Int)+1) % 2147483563=o3;have o3b:0<=o3/\o3<2147483563:=by rw[<-ho3];exact⟨Int.emod_nonneg _ (by decide),Int.emod_lt_of_pos _ (by decide)⟩
    refine⟨_,rfl,_,rfl,_,_,rfl,rfl,.inl ⟨by omega,by omega⟩,_,_,rfl,rfl,(by decide:(0:Int)<2147483647),?_⟩
    try dsimp only
    generalize ho4:o3*o3 % 2147483647=o4;refine⟨_,rfl,.inl ⟨rfl,_,SqL.of Dr4.li⟩,_,rfl,_,_,rfl,rfl,⟨by decide,by decide⟩,_,_,rfl,rfl,(by decide:(0:Int)<10007),dr,_,_,rfl,rfl,Dr4.li,by rw[List.length_map,List.length_append,List.length_singleton];exact Nat.lt_of_le_of_lt (show ds.length+1<=600 by omega) (by decide),?_⟩;exact⟨_,_,_,_,bs',ds++[o2 / 8 % 10007]++[o4 / 8 % 10007],rfl,hb0',hb1',add (o4 / 8) Dr4,by rw[List.length_append,List.length_append,List.length_singleton,List.length_singleton];omega,smp (smp m3),by rw[zB (Ne.symm ndq),zB (Ne.symm ndq)];exact hq3⟩
  ·rintro Z H2 ⟨v4,v5,v6,v7,bs,ds,rfl,hb0,hb1,Dr,hdl,m,hq2⟩;rw[List.length_map]at hdl;refine⟨_,rfl,_,rfl,dr,_,rfl,.inl (SqL.of Dr.li),_,_,rfl,rfl,_,rfl,?_⟩;rw[List.length_map];refine⟨by omega,by omega,yP (lo:=0) (n:=(400-(ds.length:Int)).toNat) (λi Z H3=>∃(v4 v5 v6 v7:Option V) (ds':List Int),Z=[some (.ref a),some (.int 400),some (.ref dr),some (.int bs),v4,v5,v6,v7]/\Drw H3 dr ds'/\ds'.length=ds.length+i/\Same H H3) ⟨_,_,_,_,ds,rfl,Dr,rfl,m⟩ ?_ ?_⟩
   ·rintro i Z H3 hi ⟨v4,v5,v6,v7,ds',rfl,Dr3,hl3,m3⟩;refine⟨_,rfl,_,rfl,_,_,rfl,rfl,.inl ⟨by decide,by decide⟩,_,_,rfl,rfl,_,_,rfl,rfl,_,_,rfl,rfl,(by decide:(0:Int)<2147483629),?_⟩
    try dsimp only
    generalize ho1:(bs+7919*(0+(i:Int))+13) % 2147483629=o1;have o1b:0<=o1/\o1<2147483629:=by rw[<-ho1];exact⟨Int.emod_nonneg _ (by decide),Int.emod_lt_of_pos _ (by decide)⟩
    refine⟨_,rfl,_,rfl,_,_,rfl,rfl,.inl ⟨by omega,by omega⟩,_,_,rfl,rfl,(by decide:(0:Int)<2147483647),?_⟩
    try dsimp only
    generalize ho2:o1*o1 % 2147483647=o2;have o2b:0<=o2/\o2<2147483647:=by rw[<-ho2];exact⟨Int.emod_nonneg _ (by decide),Int.emod_lt_of_pos _ (by decide)⟩
    refine⟨_,rfl,_,_,rfl,rfl,.inl ⟨by omega,by omega⟩,_,rfl,_,_,rfl,rfl,_,_,rfl,rfl,(by decide:(0:Int)<2147483563),?_⟩
    try dsimp only
    generalize ho3:(o2*69621+(0+(i:Int))) % 2147483563=o3;have o3b:0<=o3/\o3<2147483563:=by rw[<-ho3];exact⟨Int.emod_nonneg _ (by decide),Int.emod_lt_of_pos _ (by decide)⟩
    refine⟨_,rfl,.inl ⟨rfl,_,SqL.of Dr3.li⟩,_,rfl,_,rfl,_,_,rfl,rfl,.inl ⟨by omega,by omega⟩,_,_,rfl,rfl,(by decide:(0:Int)<2147483629),_,_,rfl,rfl,⟨by decide,by decide⟩,_,_,rfl,rfl,(by decide:(0:Int)<10007),dr,_,_,rfl,rfl,Dr3.li,by rw[List.length_map,hl3];exact Nat.lt_of_le_of_lt (show ds.length+i<=600 by omega) (by decide),?_⟩;exact⟨_,_,_,_,ds'++[o3*o3 % 2147483629 / 8 % 10007],rfl,add _ Dr3,by rw[List.length_append,List.length_singleton];omega,smp m3⟩
   ·rintro Z H3 ⟨v4,v5,v6,v7,ds',rfl,Dr3,hl3,m3⟩;refine⟨_,rfl,kk dr ds' H3 hdr Dr3 (λz=>?_) (by omega) m3⟩;rw[z]at hl3;simp at hl3;omega
end
theorem LT.putL(h:LT T H)(e:H p=some (.lst xs)):LT T (upd H p o):=by
 have nT:=h.lst e;rcases h with h | ⟨c,h1,h2⟩
 ·exact .inl (by rw[zB (Ne.symm nT)];exact h)
 ·exact .inr ⟨c,by rw[zB (Ne.symm nT)];exact h1,by rw[zB (λz=>by rw[z,e]at h2;cases h2)];exact h2⟩
theorem LT.putD(h:LT T H)(e:H p=some (.dT xs)):LT T (upd H p o):=by
 have nT:p≠T:=λz=>by
  rw[z]at e;rcases h with h | ⟨c,h,_⟩
  ·rw[h]at e;cases e
  ·rw[h]at e;cases e
 rcases h with h | ⟨c,h1,h2⟩
 ·exact .inl (by rw[zB (Ne.symm nT)];exact h)
 ·exact .inr ⟨c,by rw[zB (Ne.symm nT)];exact h1,by rw[zB (λz=>by rw[z,e]at h2;cases h2)];exact h2⟩
structure Fr (T s dr:Addr) (ds:List Int) (H H':Hp):Prop where
 q:Stq2 T s dr ds H H'
 lt:LT T H'
section
variable {T s dr p:Addr} {ds:List Int} {H H1 H2 H':Hp} {o:HO}
theorem Fr.st(a:Fr T s dr ds H H1):Sto2 H1 s dr ds:=a.q.st
theorem Fr.refl(S:Sto2 H s dr ds)(h:LT T H):Fr T s dr ds H H:=⟨.refl S,h⟩
theorem Fr.trans(a:Fr T s dr ds H H1)(b:Fr T s dr ds H1 H2):Fr T s dr ds H H2:=⟨a.q.trans b.q,b.lt⟩
theorem Fr.same(a:Fr T s dr ds H H1)(m:Same H1 H2):Fr T s dr ds H H2:=⟨a.q.same m,a.lt.same m⟩
theorem Fr.sameL(a:Fr T s dr ds H H1)(m:SameL T H1 H2)(h:LT T H2):Fr T s dr ds H H2:=⟨a.q.sameL a.lt m,h⟩
theorem Fr.new(a:Fr T s dr ds H H1)(h:H1 p=none):Fr T s dr ds H (upd H1 p o):=a.same (zr h)
theorem Fr.free(a:Fr T s dr ds H H1)(h:H1 p=none):H p=none:=by
 cases e:H p with
 |none=>rfl
 |some u=>
  have:=a.q.sm p u (a.st.nes h) (a.lt.none h) e;rw[h]at this;cases this
theorem Fr.get(a:Fr T s dr ds H H1)(hs:p≠s)(ht:p≠T)(e:H p=some o):H1 p=some o:=a.q.sm p o hs ht e
theorem Sto2.nedn(S:Sto2 H s dr ds)(h:H p=none):p≠dr:=λz=>by rw[z,S.dr]at h;cases h
theorem Fr.putL(a:Fr T s dr ds H H1)(hs:p≠s)(hd:p≠dr)(h:H p=none)(e:H1 p=some (.lst xs)):Fr T s dr ds H (upd H1 p o):=⟨a.q.put hs hd h,a.lt.putL e⟩
theorem Fr.putD(a:Fr T s dr ds H H1)(hs:p≠s)(hd:p≠dr)(h:H p=none)(e:H1 p=some (.dT xs)):Fr T s dr ds H (upd H1 p o):=⟨a.q.put hs hd h,a.lt.putD e⟩
end
section
variable {P:Program} {w:World} {K:W.Frag} {mg:Str->Option Value} {base:Heap} {T0:Addr}
def Wr(T0:Addr):Sp:=λvs H Q _=>Ex3 λs dr ds=>vs=[.ref s]/\Sto2 H s dr ds/\LT T0 H/\∀r b bl zs H',Fr T0 s dr ds H H'->RuleAt (aw [s] H') r b bl zs->yx b (zs.map (·.2))->Q (.ref r) H'
theorem xH:zF ["store","x","base","found","k","few","stretch","at","y"] ["store"] (zx yK):={}
set_option maxHeartbeats 0 in
theorem zaE(D:Df K mg "_law_rule" yK ["store"] f fd)(zH:Df K mg "_law_take" wB Ai f1 fd1)(T:Blt mg):FnOk P w K mg base CX0 2 f fd ["store"] (Wr T0):=by
 have zQ:FnOk P w K mg base CX0 1 f1 fd1 Ai (uc T0):=uW zH T;refine D.fn.ok xH (λvs H Q E h=>?_) (λcdv A outer s H vs Q E hr h=>?_)
 ·obtain⟨s,dr,ds,rfl,_⟩:=h;rfl
 ·obtain⟨sa,dr,ds,rfl,S,hT,kk⟩:=h;refine xO ?_;intro XX;let q1:Sq XX ((zq yK).drop 4):=⟨_,zu (zG (wC (zf (pv 2) (zf (yV (show CScope (zx yK) _ "stretch" ["store","x","base","found","k","few","stretch","at","y"] [] [] from {}) rfl (je K (zz zfD (by rfl) T.n_sorted boot_sorted (zf (pv 3) zg))) (λ_ _ _ _=>yX) (λ_ _ _ _=>(wM (zaN K) (by rfl) T.n_list boot_list (zf (pv 0) zg)))) zg))))⟩
  let q2:Sq XX ((sb (zq yK) 3 true).drop 3):=⟨_,zu (ze6 (zhh hr) (pv 3) (wM Y4 (by rfl) T.n_tuple boot_tuple (zf (pv 6) zg)) uN rfl)⟩
  let q3:Sq XX ((sb (sb (zq yK) 3 true) 2 true).drop 1):=⟨_,zu (wI (Yj PySem.F.plainAttrs_list PySem.F.slot_list_append PySem.F.type_list_append vB (pv 6) (zf (zR (yJ K) (yc (zf (zy yh (pv 8) (pv 5)) (zf (zy xT (zy xT (pv 2) zm) (zy yh (pv 8) (pv 5))) zg))) (wM tZ (by rfl) T.n_int boot_int (zf (xr Zt (zy yh (zy vJ (pv 8) zm) zm) zm (zM _)) zg)) (λ_ _=>rfl)) zg)))⟩
  let q4:Sq XX ((sb (zq yK) 3 true).drop 2):=⟨_,zj (xj PassesOwn.never rfl (yt rfl T.n_range (zf (zy ym zm (zE zH zQ (hr.mono (by decide)) (zf (pv 0) (zf zm zg)))) zg)) (zV (i:=7) xH.nd rfl (Or.inl rfl))
     (zj (zA (i:=8) xH.nd rfl (Or.inl rfl) (zE zH zQ (hr.mono (by decide)) (zf (pv 0) (zf zm zg)))) q3.p)) q2.p⟩
  let q5:Sq XX ((sb (zq yK) 3 true).drop 1):=⟨_,zj (zA (i:=6) xH.nd rfl (Or.inl rfl) (yc zg)) q4.p⟩
  let q6:Sq XX ((zq yK).drop 3):=⟨_,zj (xj PassesOwn.never rfl (yt rfl T.n_range (zf (zR (yJ K) (yc (zf (zy yh (zy vJ (pv 1) zm) zm) (zf (zy ym zm (zy yh (zy vJ (pv 1) zm) zm)) (zf zm zg)))) (zE zH zQ (hr.mono (by decide)) (zf (pv 0) (zf zm zg))) (λ_ _=>rfl)) zg)) (zV (i:=4) xH.nd rfl (Or.inl rfl))
    (zj (zA (i:=5) xH.nd rfl (Or.inl rfl) (zR (yJ K) (yc (zf (pv 2) (zf (zz (Jc rfl) (by rfl) T.n_min boot_min (zf (pv 2) (zf zm zg))) (zf zm zg)))) (zE zH zQ (hr.mono (by decide)) (zf (pv 0) (zf zm zg))) (λ_ _=>rfl))) q5.p)) q1.p⟩
  let q7:Sq XX ((zq yK).drop 2):=⟨_,zj (zA (i:=3) xH.nd rfl (Or.inl rfl) zdS) q6.p⟩
  let q8:Sq XX ((zq yK).drop 1):=⟨_,zj (zA (i:=2) xH.nd rfl (Or.inl rfl) (zR (yJ K) (yc (zf zm (zf zm (zf zm (zf zm (zf (zy ym zm (zy yh (pv 1) zm)) zg)))))) (zE zH zQ (hr.mono (by decide)) (zf (pv 0) (zf zm zg))) (λ_ _=>rfl))) q7.p⟩
  refine⟨_,(zj (zA (i:=1) xH.nd rfl (Or.inl rfl) (zE zH zQ (hr.mono (by decide)) (zf (pv 0) (zf zm zg)))) q8.p),?_⟩;refine⟨_,rfl,sa,dr,ds,10007,rfl,(Fr.refl S hT:Fr T0 sa dr ds H H).st,(by decide),(Fr.refl S hT:Fr T0 sa dr ds H H).lt,λx H1 hx _ qf_ tf_=>?_⟩;have fq_:=Fr.mk qf_ tf_;have F1:=(Fr.refl S hT:Fr T0 sa dr ds H H).trans fq_;refine⟨_,rfl,_,_,rfl,rfl,(by decide:(0:Int)<15),_,_,rfl,rfl,(by show 5<=sizeLine;decide),λl1 hl1=>?_⟩;have n1:=F1.st.nes hl1;have t1:=F1.lt.none hl1;have F2:=F1.new hl1 (o:=.lst [.int 2,.int 3,.int 10,.int 16,.int (2+(x:Int) % 15)]);refine⟨_,rfl,sa,dr,ds,5,rfl,F2.st,(by decide),F2.lt,λx2 H3 hx2 _ qf_ tf_=>?_⟩;have f3:=Fr.mk qf_ tf_;have F3:=F2.trans f3;obtain⟨b,hb,hb2,hb16⟩:∃b:Nat,atI [V.int 2,V.int 3,V.int 10,V.int 16,V.int (2+(x:Int) % 15)] (x2:Int)=some (.int b)/\2<=b/\b<=16:=by
   match x2,hx2 with
   |0,_=>exact⟨2,rfl,by omega,by omega⟩
   |1,_=>exact⟨3,rfl,by omega,by omega⟩
   |2,_=>exact⟨10,rfl,by omega,by omega⟩
   |3,_=>exact⟨16,rfl,by omega,by omega⟩
   |4,_=>exact⟨2+x % 15,rfl,by omega,by omega⟩
  refine⟨l1,_,_,_,rfl,rfl,SqL.of (f3.get n1 t1 zp),hb,?_⟩;intro kd hkd;have nkd:=F3.st.nes hkd;have ndk:=F3.st.nedn hkd;have tkd:=F3.lt.none hkd;have hkd0:=F3.free hkd;have F4:=F3.new hkd (o:=.dT []);refine⟨_,rfl,_,_,rfl,rfl,⟨by decide,by decide⟩,_,_,rfl,rfl,(by decide:(0:Int)<5),_,rfl,_,_,rfl,rfl,⟨by decide,by decide⟩,_,_,rfl,rfl,(by decide:(0:Int)<2),_,_,rfl,rfl,(by show 3<=sizeLine;decide),λl2 hl2=>?_⟩;have n2:=F4.st.nes hl2;have t2:=F4.lt.none hl2;have hk5:=zr hl2 (o:=.lst [.int ((x:Int) / 15 % 5),.int (1+(x:Int) / 15 % 2),.int 4]) kd _ zp;have F5:=F4.new hl2 (o:=.lst [.int ((x:Int) / 15 % 5),.int (1+(x:Int) / 15 % 2),.int 4]);refine⟨_,rfl,sa,dr,ds,3,rfl,F5.st,(by decide),F5.lt,λx3 H6 hx3 _ qf_ tf_=>?_⟩;have f6:=Fr.mk qf_ tf_;have F6:=F5.trans f6;obtain⟨mm,hmm,hm4⟩:∃m:Nat,atI [V.int ((x:Int) / 15 % 5),V.int (1+(x:Int) / 15 % 2),V.int 4] (x3:Int)=some (.int m)/\m<=4:=by
   match x3,hx3 with
   |0,_=>exact⟨x / 15 % 5,rfl,by omega⟩
   |1,_=>exact⟨1+x / 15 % 2,rfl,by omega⟩
   |2,_=>exact⟨4,rfl,by omega⟩
  refine⟨l2,_,_,_,rfl,rfl,SqL.of (f6.get n2 t2 zp),hmm,?_⟩;refine⟨_,rfl,by omega,by omega,yP (lo:=0) (n:=(mm:Int).toNat) (λi Z H5=>∃(v4 v5 v6 v7 v8:Option V) (kvs:List (List Key×V)) (ls:ZA),Z=[some (.ref sa),some (.int x),some (.int b),some (.ref kd),v4,v5,v6,v7,v8]/\Fr T0 sa dr ds H H5/\H5 kd=some (.dT kvs)/\kvs.map (·.1)=ls.map kI/\ls.length<=i/\∀l∈ls,zai b l)
   ⟨none,none,none,none,none,[],[],rfl,F6,f6.get nkd tkd hk5,rfl,Nat.le_refl _,by simp⟩ ?_ ?_⟩
  ·rintro i Z H7 hi ⟨v4,v5,v6,v7,v8,kvs,ls,rfl,F7,hk7,hks,hll,hgd⟩;refine⟨_,rfl,_,rfl,_,_,rfl,(by show 3<=sizeLine;decide),λl3 hl3=>?_⟩;have n3:=F7.st.nes hl3;have t3:=F7.lt.none hl3;have hk8:=zr hl3 (o:=.lst [.int b,.int (if (3:Int)<(b:Int) then 3 else (b:Int)),.int 2]) kd _ hk7;have F8:=F7.new hl3 (o:=.lst [.int b,.int (if (3:Int)<(b:Int) then 3 else (b:Int)),.int 2]);refine⟨_,rfl,sa,dr,ds,3,rfl,F8.st,(by decide),F8.lt,λx4 H9 hx4 _ qf_ tf_=>?_⟩;have f9:=Fr.mk qf_ tf_;have F9:=F8.trans f9;obtain⟨few,hfew,hfew1,hfew2⟩:∃m:Nat,atI [V.int b,V.int (if (3:Int)<(b:Int) then 3 else (b:Int)),V.int 2] (x4:Int)=some (.int m)/\2<=m/\m<=b:=by
    match x4,hx4 with
    |0,_=>exact⟨b,rfl,by omega,by omega⟩
    |1,_=>
     by_cases z:3<b
     ·exact⟨3,by rw[if_pos (by omega)];rfl,by omega,by omega⟩
     ·exact⟨b,by rw[if_neg (by omega)];rfl,by omega,by omega⟩
    |2,_=>exact⟨2,rfl,by omega,by omega⟩
   refine⟨l3,_,_,_,rfl,rfl,SqL.of (f9.get n3 t3 zp),hfew,?_⟩;have hk9:=f9.get nkd tkd hk8;refine⟨(by decide:0<=sizeLine),λsl hsl=>?_⟩;have nsl:=F9.st.nes hsl;have dsl:=F9.st.nedn hsl;have tsl:=F9.lt.none hsl;have hsl0:=F9.free hsl;have nks:kd≠sl:=λz=>by rw[z,hsl]at hk9;cases hk9
   have hk10:=zr hsl (o:=.lst []) kd _ hk9;have F10:=F9.new hsl (o:=.lst []);refine⟨_,rfl,sa,dr,ds,4,rfl,F10.st,(by decide),F10.lt,λx5 H11 hx5 _ qf_ tf_=>?_⟩;have f11:=Fr.mk qf_ tf_;have F11:=F10.trans f11;refine⟨_,_,rfl,rfl,?_⟩;refine⟨_,rfl,by omega,by omega,yP (lo:=0) (n:=(1+(x5:Int)).toNat) (λj Z Hc=>∃(v4 v7 v8:Option V) (ms:List Int),Z=[some (.ref sa),some (.int x),some (.int b),some (.ref kd),v4,some (.int few),some (.ref sl),v7,v8]/\Fr T0 sa dr ds H Hc/\Hc kd=some (.dT kvs)/\Hc sl=some (.lst (ms.map V.int))/\ms.length=j/\∀f∈ms,0<=f/\f<(b:Int))
    ⟨_,_,_,[],rfl,F11,f11.get nkd tkd hk10,f11.get nsl tsl zp,rfl,by simp⟩ ?_ ?_⟩
   ·rintro j Z Hc hj ⟨v4,v7,v8,ms,rfl,Fc,hkc,hsc,hml,hmf⟩;refine⟨_,rfl,sa,dr,ds,10007,rfl,Fc.st,(by decide),Fc.lt,λy Hd hy _ qf_ tf_=>?_⟩;have fd:=Fr.mk qf_ tf_;have Fd:=Fc.trans fd;have hkd':=fd.get nkd tkd hkc;have hsd:=fd.get nsl tsl hsc;refine⟨_,rfl,.inl ⟨rfl,_,SqL.of hsd⟩,_,rfl,_,rfl,_,_,rfl,rfl,(by omega:(0:Int)<few),_,rfl,_,_,rfl,rfl,_,rfl,_,rfl,_,_,rfl,rfl,(by omega:(0:Int)<few),_,_,rfl,rfl,(by show 2<=sizeLine;decide),λl4 hl4=>?_⟩;have nl4:sl≠l4:=λz=>by rw[<-z,hsd]at hl4;cases hl4
    have s4:=zr hl4 (o:=.lst [.int ((y:Int) % (few:Int)),.int ((b:Int)-1-(y:Int) % (few:Int))]);have Fe:=Fd.new hl4 (o:=.lst [.int ((y:Int) % (few:Int)),.int ((b:Int)-1-(y:Int) % (few:Int))]);have hke:=s4 _ _ hkd';have hse:=s4 _ _ hsd;refine⟨_,rfl,_,_,rfl,rfl,⟨by decide,by decide⟩,_,_,rfl,rfl,(by decide:(0:Int)<6),rfl,.inr ⟨_,rfl,?_⟩⟩;have hy0:0<=(y:Int) % (few:Int):=Int.emod_nonneg _ (by omega);have hy1:(y:Int) % (few:Int)<few:=Int.emod_lt_of_pos _ (by omega);have key:∀bb:Bool,∃fg:Int,atI [V.int ((y:Int) % (few:Int)),V.int ((b:Int)-1-(y:Int) % (few:Int))] (if bb=true then 1 else 0)=some (.int fg)/\0<=fg/\fg<b:=by
     intro bb;cases bb with
     |true=>exact⟨_,rfl,by omega,by omega⟩
     |false=>exact⟨_,rfl,by omega,by omega⟩
    obtain⟨fg,hfg,hf0,hf1⟩:=key (decide (V.int ((y:Int) / 16 % 6)=V.int 0));refine⟨l4,_,_,_,rfl,rfl,SqL.of zp,hfg,sl,_,_,rfl,rfl,hse,by rw[List.length_map,hml];exact Nat.lt_of_lt_of_le (show j<5 by omega) (by decide),?_⟩;refine⟨_,_,_,ms++[fg],rfl,Fe.putL nsl dsl hsl0 hse,by rw[zB nks];exact hke,by rw[zp];simp,by simp[hml],λf hf=>?_⟩;rcases List.mem_append.mp hf with hf | hf
    ·exact hmf f hf
    ·have e:f=fg:=by simpa using hf
     rw[e];exact⟨hf0,hf1⟩
   ·rintro Z Hc ⟨v4,v7,v8,ms,rfl,Fc,hkc,hsc,hml,hmf⟩;have gms:zai b ms:=⟨λz=>by rw[z]at hml;simp at hml;omega,by omega,hmf⟩
    refine⟨_,rfl,_,rfl,sl,_,rfl,.inl ⟨SqL.of hsc,λtp htp=>?_⟩⟩;have hk7:upd Hc tp (.tup (ms.map V.int)) kd=some (.dT kvs):=zr htp _ _ hkc;have hkl:kvs.length=ls.length:=by have:=congrArg List.length hks;rwa[List.length_map,List.length_map]at this
    refine⟨kd,_,rfl,DPut.t (k:=kI ms) hk7 (by rw[zew];exact zp) (Nat.lt_of_le_of_lt (show kvs.length<=4 by omega) (by decide)),?_⟩;have S7:=(Fc.new htp (o:=.tup (ms.map V.int))).putD (p:=kd) (o:=.dT (putK kvs (kI ms) (.bl true))) nkd ndk hkd0 hk7;by_cases hin:ms∈ls
    ·refine⟨_,_,_,_,_,putK kvs (kI ms) (.bl true),ls,rfl,S7,zp,?_,by omega,hgd⟩;unfold putK;rw[if_pos (by
      rw[List.any_eq_true];have:kI ms∈kvs.map (·.1):=by rw[hks];exact List.mem_map.mpr ⟨ms,hin,rfl⟩
      obtain⟨kv,h1,h2⟩:=List.mem_map.mp this;exact⟨kv,h1,decide_eq_true h2⟩),List.map_map,<-hks]
     refine List.map_congr_left λkv _=>?_;show (if kv.1=kI ms then (kv.1,V.bl true) else kv).1=kv.1;split<;>rfl
    ·refine⟨_,_,_,_,_,putK kvs (kI ms) (.bl true),ls++[ms],rfl,S7,zp,?_,by rw[List.length_append,List.length_singleton];omega,λl hl=>?_⟩
     ·unfold putK;rw[if_neg (by
       rw[List.any_eq_true];rintro⟨kv,h1,h2⟩;have h3:kI ms∈kvs.map (·.1):=List.mem_map.mpr ⟨kv,h1,of_decide_eq_true h2⟩;rw[hks]at h3;obtain⟨l,h4,h5⟩:=List.mem_map.mp h3;exact hin (zce h5▸h4)),List.map_append,List.map_append,hks]
      rfl
     ·rcases List.mem_append.mp hl with hl | hl
      ·exact hgd l hl
      ·have e:l=ms:=by simpa using hl
       rw[e];exact gms
  ·rintro Z H5 ⟨v4,v5,v6,v7,v8,kvs,ls,rfl,S5,hk5,hks,hll,hgd⟩;refine⟨_,rfl,_,rfl,kd,kvs,ls,rfl,hk5,hks,by omega,λl hl=>(hgd l hl).ne,λp zs hp pm pw hz=>?_⟩;have hzl:zs.length=ls.length:=by have:=pm.length_eq;rwa[List.length_map]at this
   have S6:=S5.new hp (o:=.lst (zs.map λz=>V.ref z.1));refine⟨p,rfl,⟨_,SqL.of zp⟩,xu (K:=K) (a:=p) (xs:=zs.map λz=>V.ref z.1) (λi ys H7=>Same (upd H5 p (.lst (zs.map λz=>V.ref z.1))) H7/\∃ws:ZB,ys=ws.map (λz=>V.ref z.1)/\ws.map (·.2)=(zs.take i).map (·.2)/\∀z∈ws,H z.1=none/\z.1≠sa/\H7 z.1=some (.lst (z.2.map V.int))) ⟨Same.refl _,[],rfl,by simp,by simp⟩ (λi ys H7 _ ⟨m7,_⟩=>SqL.of (m7 _ _ zp)) ?_ ?_⟩
   ·rintro j x ys H7 hx ⟨m7,ws,rfl,hw2,hws⟩;rw[List.getElem?_map]at hx;obtain⟨z,hzj,e⟩:=Option.map_eq_some_iff.mp hx;subst e;have hzm:=List.mem_of_getElem? hzj;have hj:j<zs.length:=(List.getElem?_eq_some_iff.mp hzj).1;have hwl:ws.length<=j:=by have:=congrArg List.length hw2;rw[List.length_map,List.length_map,List.length_take]at this;omega
    refine⟨by rw[List.length_map];exact Nat.lt_of_le_of_lt (show ws.length<=4 by omega) (by decide),?_⟩;unfold jJ;dsimp only;rw[if_pos rfl];refine⟨_,rfl,z.1,_,rfl,.inr (SqT.of (m7 _ _ (zr hp _ _ (hz z hzm)))),λq hq=>⟨m7.trans (zr hq),ws++[(q,z.2)],by simp,?_,λy hy=>?_⟩⟩
    ·rw[List.map_append,hw2,List.take_succ,hzj];simp
    ·rcases List.mem_append.mp hy with hy | hy
     ·exact⟨(hws y hy).1,(hws y hy).2.1,zr hq _ _ (hws y hy).2.2⟩
     ·have e:y=(q,z.2):=by simpa using hy
      subst e;exact⟨S6.free (m7.free hq),(S6.same m7).st.nes hq,zp⟩
   ·rintro ys H7 ⟨m7,ws,rfl,hw2,hws⟩ bl hbl;rw[List.length_map,List.take_length]at hw2;have hwl:ws.length=zs.length:=by have:=congrArg List.length hw2;rwa[List.length_map,List.length_map]at this
    have m8:=zr hbl (o:=.lst (ws.map λz=>V.ref z.1));have S7:=S6.same m7;have S8:=S6.same (m7.trans m8);refine⟨(by show 2<=sizeLine;decide),λr hr=>?_⟩;have m9:=zr hr (o:=.tup [.int b,.ref bl]);have nb:=S7.st.nes hbl;have nr:=S8.st.nes hr;refine kk r b bl ws _ (S8.same m9) ⟨?_,?_,λz hz'=>?_⟩ ⟨hb2,hb16,by rw[List.length_map];omega,λl hl=>?_,?_⟩
    ·rw[xf (by simpa using nr)];exact zp
    ·rw[xf (by simpa using nb)];exact m9 _ _ zp
    ·rw[xf (by simpa using (hws z hz').2.1)];exact m9 _ _ (m8 _ _ (hws z hz').2.2)
    ·rw[hw2]at hl;exact hgd _ (pm.mem_iff.mp hl)
    ·rw[hw2,List.pairwise_map];exact pw
def Yk(T0:Addr):Sp:=λvs H Q _=>Ex4 λ(s:Addr) (dr:Addr) (ds:List Int) (b:Nat)=>vs=[.ref s,.int b]/\Sto2 H s dr ds/\LT T0 H/\2<=b/\b<=16/\∀(n:Nat) (H':Hp),n<2^100->Fr T0 s dr ds H H'->Q (.int n) H'
theorem yM:zF ["store","base","x","great","turn","power","some"] ["store","base"] (zx yL):={}
set_option maxHeartbeats 0 in
theorem UW(D:Df K mg "_law_number" yL Ak f fd)(zH:Df K mg "_law_take" wB Ai f1 fd1)(T:Blt mg):FnOk P w K mg base CX0 2 f fd Ak (Yk T0):=by
 have zQ:FnOk P w K mg base CX0 1 f1 fd1 Ai (uc T0):=uW zH T;refine D.fn.ok yM (λvs H Q E h=>?_) (λcdv A outer s H vs Q E hr h=>?_)
 ·obtain⟨s,dr,ds,b,rfl,_⟩:=h;rfl
 ·obtain⟨sa,dr,ds,b,rfl,S,hT,hb2,hb16,kk⟩:=h;refine xO ?_;intro XX;let q1:Sq XX ((zq yL).drop 6):=⟨_,zu (zG (zR (yJ K) (zy wQ (pv 6) (yc (zf (zz (Jx rfl) (by rfl) T.n_max boot_max (zf zm (zf (zy xT (zy ym (pv 5) (zE zH zQ (hr.mono (by decide)) (zf (pv 0) (zf zm zg)))) zm) zg))) zg))) (zE zH zQ (hr.mono (by decide)) (zf (pv 0) (zf zm zg))) (λ_ _=>rfl)))⟩
  let q2:Sq XX ((zq yL).drop 5):=⟨_,zj (zA (i:=6) yM.nd rfl (Or.inl rfl) (yc (zf (zy yh (pv 2) zm) (zf (pv 2) (zf (zy yh (pv 3) (zy ZZ zm zm)) (zf (zy yh (pv 3) (zy ZZ zm zm)) (zf (zy yh (pv 3) (zy ZZ zm zm)) zg))))))) q1.p⟩
  let q3:Sq XX ((zq yL).drop 4):=⟨_,zj (xj PassesOwn.never rfl (yt rfl T.n_range (zf (zy yh (pv 2) zm) zg)) (zV (i:=4) yM.nd rfl (Or.inl rfl))
    (zu (zA (i:=5) yM.nd rfl (Or.inl rfl) (zy wL (pv 5) (pv 1))))) q2.p⟩
  let q4:Sq XX ((zq yL).drop 3):=⟨_,zj (zA (i:=5) yM.nd rfl (Or.inl rfl) zm) q3.p⟩
  let q5:Sq XX ((zq yL).drop 2):=⟨_,zj (xj PassesOwn.never rfl (yt rfl T.n_range (zf zm zg)) (zV (i:=4) yM.nd rfl (Or.inl rfl))
    (zu (zA (i:=3) yM.nd rfl (Or.inl rfl) (zy ym (zy wL (pv 3) zm) (zE zH zQ (hr.mono (by decide)) (zf (pv 0) (zf zm zg))))))) q4.p⟩
  let q6:Sq XX ((zq yL).drop 1):=⟨_,zj (zA (i:=3) yM.nd rfl (Or.inl rfl) zm) q5.p⟩
  refine⟨_,(zj (zA (i:=2) yM.nd rfl (Or.inl rfl) (zE zH zQ (hr.mono (by decide)) (zf (pv 0) (zf zm zg)))) q6.p),?_⟩;refine⟨_,rfl,sa,dr,ds,10007,rfl,(Fr.refl S hT:Fr T0 sa dr ds H H).st,(by decide),(Fr.refl S hT:Fr T0 sa dr ds H H).lt,λx H1 hx _ qf_ tf_=>?_⟩;have fq_:=Fr.mk qf_ tf_;have F1:=(Fr.refl S hT:Fr T0 sa dr ds H H).trans fq_;refine⟨_,rfl,by decide,by decide,yP (lo:=0) (n:=(7:Int).toNat) (λi Z H2=>∃(v4 v5 v6:Option V) (gr:Nat),Z=[some (.ref sa),some (.int b),some (.int x),some (.int gr),v4,v5,v6]/\Fr T0 sa dr ds H H2)
   ⟨none,none,none,0,rfl,F1⟩ ?_ ?_⟩
  ·rintro i Z H2 hi ⟨v4,v5,v6,gr,rfl,F2⟩;refine⟨_,rfl,_,_,rfl,rfl,.inr ⟨by decide,by decide⟩,_,rfl,sa,dr,ds,10007,rfl,F2.st,(by decide),F2.lt,λy H3 hy _ qf_ tf_=>?_⟩;have fq_:=Fr.mk qf_ tf_;have F3:=F2.trans fq_;refine⟨_,_,rfl,rfl,some (.int (0+(i:Int))),v5,v6,gr*10007+y,?_,F3⟩;simp
  ·rintro Z H2 ⟨v4,v5,v6,gr,rfl,F2⟩;refine⟨_,rfl,_,_,rfl,rfl,(by decide:(0:Int)<21),?_⟩;have h21:0<=(x:Int) % 21/\(x:Int) % 21<21:=⟨Int.emod_nonneg _ (by decide),Int.emod_lt_of_pos _ (by decide)⟩
   refine⟨_,rfl,by omega,by omega,yP (lo:=0) (n:=((x:Int) % 21).toNat) (λi Z H3=>∃(v4 v6:Option V) (pw:Nat),Z=[some (.ref sa),some (.int b),some (.int x),some (.int gr),v4,some (.int pw),v6]/\pw<=16^i/\Fr T0 sa dr ds H H3)
    ⟨_,_,1,rfl,by simp,F2⟩ ?_ ?_⟩
   ·rintro i Z H3 hi ⟨v4,v6,pw,rfl,hpw,F3⟩;refine⟨_,rfl,_,rfl,_,_,rfl,rfl,.inr ⟨by omega,by omega⟩,some (.int (0+(i:Int))),v6,pw*b,?_,by rw[Nat.pow_succ];exact Nat.mul_le_mul hpw hb16,F3⟩;simp
   ·rintro Z H3 ⟨v4,v6,pw,rfl,hpw,F3⟩;have hpw:pw<=2^80:=Nat.le_trans hpw (Nat.le_trans (Nat.pow_le_pow_right (by decide) (show ((x:Int) % 21).toNat<=20 by omega)) (by decide));refine⟨_,rfl,_,_,rfl,rfl,(by decide:(0:Int)<40),_,rfl,_,rfl,_,_,rfl,rfl,⟨by decide,by decide,by decide⟩,_,_,rfl,rfl,(by decide:(0:Int)<(10:Int)^(9:Int).toNat),_,rfl,_,_,rfl,rfl,⟨by decide,by decide,by decide⟩,_,_,rfl,rfl,(by decide:(0:Int)<(10:Int)^(26:Int).toNat),_,rfl,_,_,rfl,rfl,⟨by decide,by decide,by decide⟩,_,_,rfl,rfl,(by decide:(0:Int)<(10:Int)^(18:Int).toNat),(by show 5<=sizeLine;decide),λl hl=>?_⟩;have nl:=F3.st.nes hl;have tl:=F3.lt.none hl;have F4:=F3.new hl (o:=.lst [.int ((x:Int) % 40),.int x,.int ((gr:Int) % 10^(9:Int).toNat),.int ((gr:Int) % 10^(26:Int).toNat),.int ((gr:Int) % 10^(18:Int).toNat)]);refine⟨_,rfl,_,rfl,_,rfl,sa,dr,ds,3,rfl,F4.st,(by decide),F4.lt,λy H5 hy _ qf_ tf_=>?_⟩;have f5:=Fr.mk qf_ tf_;have F5:=F4.trans f5;refine⟨_,_,rfl,rfl,_,_,rfl,rfl,_,_,rfl,(by show 1<=sizeLine;decide),λl2 hl2=>?_⟩;have hl5:=f5.get nl tl zp;have n2:=F5.st.nes hl2;generalize hmx:(if (pw:Int)+(y:Int)-1>0 then (pw:Int)+(y:Int)-1 else 0)=mx;have hmx0:0<=mx/\mx<2^100:=by rw[<-hmx];split<;>omega
    have F6:=F5.new hl2 (o:=.lst [.int mx]);refine⟨l,l2,_,_,rfl,rfl,zr hl2 _ _ hl5,zp,(by show 5+1<=sizeLine;decide),λl3 hl3=>?_⟩;have n3:=F6.st.nes hl3;have t3:=F6.lt.none hl3;have F7:=F6.new hl3 (o:=.lst ([.int ((x:Int) % 40),.int x,.int ((gr:Int) % 10^(9:Int).toNat),.int ((gr:Int) % 10^(26:Int).toNat),.int ((gr:Int) % 10^(18:Int).toNat)]++[.int mx]));refine⟨_,rfl,sa,dr,ds,6,rfl,F7.st,(by decide),F7.lt,λz H8 hz _ qf_ tf_=>?_⟩;have f8:=Fr.mk qf_ tf_;have F8:=F7.trans f8;obtain⟨c,hc,hc0⟩:∃c:Int,atI ([V.int ((x:Int) % 40),.int x,.int ((gr:Int) % 10^(9:Int).toNat),.int ((gr:Int) % 10^(26:Int).toNat),.int ((gr:Int) % 10^(18:Int).toNat)]++[.int mx]) (z:Int)=some (.int c)/\0<=c/\c<2^100:=by
     match z,hz with
     |0,_=>exact⟨_,rfl,Int.emod_nonneg _ (by decide),Int.lt_trans (Int.emod_lt_of_pos _ (by decide)) (by decide)⟩
     |1,_=>exact⟨_,rfl,by omega,Int.lt_trans (show (x:Int)<10007 by omega) (by decide)⟩
     |2,_=>exact⟨_,rfl,Int.emod_nonneg _ (by decide),Int.lt_trans (Int.emod_lt_of_pos _ (by decide)) (by decide)⟩
     |3,_=>exact⟨_,rfl,Int.emod_nonneg _ (by decide),Int.lt_trans (Int.emod_lt_of_pos _ (by decide)) (by decide)⟩
     |4,_=>exact⟨_,rfl,Int.emod_nonneg _ (by decide),Int.lt_trans (Int.emod_lt_of_pos _ (by decide)) (by decide)⟩
     |5,_=>exact⟨_,rfl,hmx0⟩
    obtain⟨n,rfl⟩:∃n:Nat,c=(n:Int):=⟨c.toNat,by omega⟩
    exact⟨l3,_,_,_,rfl,rfl,SqL.of (f8.get n3 t3 zp),hc,kk n H8 (by omega) F8⟩
end
section
variable {P:Program} {w:World} {K:W.Frag} {mg:Str->Option Value} {base:Heap}
theorem zez{b:Nat}{ns:List Int}(h:∀f∈ns,0<=f/\f<(b:Int)):(ns.all λi=>decide (0<=i/\i<(b:Int)))=true:=by
 rw[List.all_eq_true];intro x hx;exact decide_eq_true (h x hx)
theorem zeG(x:α)(xs:List α):atI (x::xs) 0=some x:=xW (xs:=x::xs) (j:=0) rfl
def ZC:Sp:=λvs H Q _=>Ex3 λ(b:Nat) (a:Addr) (ns:List Int)=>vs=[.int b,.ref a]/\H a=some (.lst (ns.map V.int))/\Qi b ns/\∀H',Same H H'->Q (.bl true) H'
theorem Vd:zF ["base","thing"] ["base","thing"] (zx vz):={}
theorem W8(D:Df K mg "writes_number" vz Ab f fd)(vd:Df K mg "are_figures" vA Ab f1 fd1)(ul:FnOk P w K mg base CX0 3 f1 fd1 Ab jy)(T:Blt mg):
  FnOk P w K mg base CX0 4 f fd Ab ZC:=by
 refine D.fn.ok Vd (λvs H Q E h=>?_) (λcdv A outer s H vs Q E hr h=>?_)
 ·obtain⟨b,a,ns,rfl,_⟩:=h;rfl
 ·obtain⟨b,a,ns,rfl,ha,g,kk⟩:=h;refine xO ?_;intro XX;let q1:Sq XX ((zq vz).drop 1):=⟨_,zu (zG (zg7 (xr zcD (zR (yJ K) (pv 1) zm (λ_ _=>rfl)) zm (zM _)) (qd (xr Zt (zz (wy K) (by rfl) T.n_len PySem.boot_len (zf (pv 1) zg)) zm (zM _)))))⟩
  refine⟨_,(zj (yG (PW.pt (Ym (wD (xx (zE vd ul (hr.mono (by decide)) (zf (pv 0) (zf (pv 1) zg))))) (Zj (zO Zt (zz (wy K) (by rfl) T.n_len PySem.boot_len (zf (pv 1) zg)) zm (zM _)))))
    (zu (zG uN))
    zP) q1.p),?_⟩
  refine⟨_,rfl,_,rfl,b,a,ns,rfl,ha,Nat.le_trans g.len (by decide),λH1 s1=>?_⟩;rw[zez g.fig];refine⟨_,rfl,xF ?_⟩;have ha1:=s1 _ _ ha;have hl:(ns.map V.int).length≠0:=by rw[List.length_map];exact λz=>g.ne (List.eq_nil_of_length_eq_zero z)
  refine⟨_,rfl,a,_,rfl,.inl (SqL.of ha1),rfl,_,rfl,?_⟩;rw[decide_eq_false (by intro z;injection z with z;omega)];refine xF ?_;obtain⟨f0,nr,rfl⟩:∃f0 nr,ns=f0::nr:=by
   cases ns with
   |nil=>exact absurd rfl g.ne
   |cons x y=>exact⟨x,y,rfl⟩
  refine⟨_,rfl,a,_,_,V.int f0,rfl,rfl,SqL.of ha1,zeG _ _,rfl,_,rfl,?_⟩;refine Vb (λ_=>kk H1 s1) (λhz=>?_);refine⟨_,rfl,a,_,rfl,.inl (SqL.of ha1),rfl,?_⟩;have h1:nr=[]:=by
   have hz':f0=0:=by
    by_cases z:f0=0
    ·exact z
    ·exact absurd (by simp[z]) hz
   rcases g.first with q | q
   ·exact absurd (by rw[hz'];rfl) q
   ·exact List.eq_nil_of_length_eq_zero (by simpa using q)
  subst h1;exact kk H1 s1
def WM:Sp:=λvs H Q _=>Ex3 λ(b:Nat) (a:Addr) (ns:List Int)=>vs=[.int b,.ref a]/\2<=b/\b<=16/\H a=some (.lst (ns.map V.int))/\Qi b ns/\∀H',Same H H'->Q (.int (Zh b ns)) H'
theorem qU:zF ["base","figures","n","figure"] ["base","figures"] (zx wX):={}
theorem zar(D:Df K mg "number_by" wX A3 f fd)(vR:Df K mg "check_base" tQ Aa f1 fd1)(uK:FnOk P w K mg base CX0 3 f1 fd1 Aa Ze)(uY:Df K mg "writes_number" vz Ab f2 fd2)(jB:FnOk P w K mg base CX0 4 f2 fd2 Ab ZC)(T:Blt mg):FnOk P w K mg base CX0 5 f fd A3 WM:=by
 refine D.fn.ok qU (λvs H Q E h=>?_) (λcdv A outer s H vs Q E hr h=>?_)
 ·obtain⟨b,a,ns,rfl,_⟩:=h;rfl
 ·obtain⟨b,a,ns,rfl,h2,h16,ha,g,kk⟩:=h;refine xO ?_;intro XX;let q1:Sq XX ((zq wX).drop 4):=⟨_,zu (zG (pv 2))⟩
  let q2:Sq XX ((zq wX).drop 3):=⟨_,zj (xj PassesOwn.never rfl (je K (pv 1)) (zV (i:=3) qU.nd rfl (Or.inl rfl))
    (zu (zA (i:=2) qU.nd rfl (Or.inl rfl) (zy ym (zy wL (pv 2) (pv 0)) (pv 3))))) q1.p⟩
  let q3:Sq XX ((zq wX).drop 2):=⟨_,zj (zA (i:=2) qU.nd rfl (Or.inl rfl) zm) q2.p⟩
  let q4:Sq XX ((zq wX).drop 1):=⟨_,zj (yG (wD (xx (zE uY jB (hr.mono (by decide)) (zf (pv 0) (zf (pv 1) zg)))))
    (zu WK)
    zP) q3.p⟩
  refine⟨_,(zj (wI (zE vR uK (hr.mono (by decide)) (zf (pv 0) zg))) q4.p),?_⟩;refine⟨_,rfl,b,rfl,by omega,by omega,?_⟩;refine⟨_,rfl,_,rfl,b,a,ns,rfl,ha,g,λH1 s1=>⟨_,rfl,xF ?_⟩⟩;have ha1:=s1 _ _ ha;refine⟨_,rfl,a,rfl,⟨_,SqL.of ha1⟩,qH (λi Z H2=>H2=H1/\∃v:Option V,Z=[some (.int b),some (.ref a),some (.int (Zh b (ns.take i))),v]) ⟨rfl,none,rfl⟩ (λi Z H2 _ ⟨e,_⟩=>by rw[e];exact SqL.of ha1) ?_ ?_⟩
  ·rintro i x Z H2 hx ⟨rfl,v,rfl⟩;obtain⟨z,hz,rfl⟩:∃z,ns[i]?=some z/\x=V.int z:=by
    rw[List.getElem?_map]at hx;obtain⟨z,h,e⟩:=Option.map_eq_some_iff.mp hx;exact⟨z,h,e.symm⟩
   refine⟨_,rfl,_,rfl,_,_,rfl,rfl,.inr ⟨by omega,by omega⟩,_,rfl,_,_,rfl,rfl,rfl,some (.int z),?_⟩;rw[List.take_succ,hz];show _=[some (V.int b),some (V.ref a),some (V.int (Zh b (ns.take i++[z]))),_]
   rw[YT];rfl
  ·rintro Z H2 ⟨rfl,v,rfl⟩;refine⟨_,rfl,?_⟩;rw[List.length_map,List.take_length];exact kk _ s1
end
theorem zaL{K:W.Frag}:W.kitOne K (.type "str") (.type "str")=some true:=Xj (by decide +kernel) (by decide +kernel) (λ_=>rfl)
def OkF(fs:List Int):Prop:=∀f∈fs,0<=f/\f<16
theorem zgk{b:Nat}(h16:b<=16)(h:∀f∈fs,0<=f/\f<(b:Int)):OkF fs:=λf hf=>⟨(h f hf).1,by have:=(h f hf).2;omega⟩
theorem Jg(sl B:Nat):∀(l:List Str) (a:Nat),(∀x∈l,x.length<=B)->l.foldl (λn x=>n+x.length+sl) a<=a+l.length*(B+sl)
 |[],a,_=>by simp
 |x::l,a,h=>by
  rw[List.foldl_cons,List.length_cons,Nat.succ_mul];have h1:=Jg sl B l (a+x.length+sl) λy hy=>h y (List.mem_cons_of_mem _ hy);have h2:=h x List.mem_cons_self;omega
theorem zfc(B:Nat)(h:∀x∈l,x.length<=B)(hs:l.length*(B+sep.length)<=10000):JoinOk sep l=true:=by
 unfold JoinOk;rw[<-Array.foldl_toList];have:=Jg sep.length B l 0 h;have h2:10000<=sizeLine:=by decide
 simp only[Builtin.Str.tooLong,Bool.not_eq_true',decide_eq_false_iff_not];omega
theorem zcG(fs:List Int):(txt fs).length=fs.length:=by
 show (txt fs).cps.size=_;rw[<-Array.length_toList,Wg,List.length_map]
section
variable {P:Program} {w:World} {K:W.Frag} {mg:Str->Option Value} {base:Heap}
def Xb:Sp:=λvs H Q _=>∃fs:List Int,vs=[.str (txt fs)]/\OkF fs/\fs.length<=1000/\∀l H',H l=none->Same H H'->H' l=some (.lst (fs.map V.int))->Q (.ref l) H'
theorem QS:zF ["thing"] ["thing"] (zx wZ):={}
theorem QT(D:Df K mg "figures_in" wZ Aa f fd)(VP:mg "SIGNS"= some (.str SIG t1))(T:Blt mg)(U:Wu mg):FnOk P w K mg base CX0 1 f fd Aa Xb:=by
 refine D.fn.ok QS (λvs H Q E h=>?_) (λcdv A outer s H vs Q E hr h=>?_)
 ·obtain⟨fs,rfl,_⟩:=h;rfl
 ·obtain⟨fs,rfl,hf,hl,kk⟩:=h;have hsz:(txt fs).cps.size=fs.length:=zcG fs;have hat:∀i c,(txt fs).cps[i]?=some c->∃z:Int,fs[i]?=some z/\c=cd z.toNat/\0<=z/\z<16:=λi c h=>by
   rw[<-Array.getElem?_toList,Wg,List.getElem?_map]at h;obtain⟨z,hz,e⟩:=Option.map_eq_some_iff.mp h;exact⟨z,hz,e.symm,hf z (List.mem_of_getElem? hz)⟩
  refine xO ?_;intro XX;let q1:Sq XX ((zq wZ).drop 1):=⟨_,zu (zG (yV (show CScope (zx wZ) _ "sign" ["thing"] [] [] from {}) rfl (zet (pv 0)) (λ_ _ _ _=>yX) (λ_ _ _ _=>(zgZ K PySem.F.plainAttrs_str PySem.F.slot_str_index PySem.F.type_str_index zc4 (xK (v:=.str "0123456789abcdef") (by rfl) (by exact VP) (by exact⟨_,rfl⟩)) (zf (pv 0) zg)))))⟩
  refine⟨_,(zj (yG (PW.pt (Ym (wD (xx (zz (Vv K) (by rfl) T.n_isinstance boot_isinstance (zf (pv 0) (zf (ue (v:=.ty "str") rfl U.n_str boot_str rfl) zg))))) (Zj (wD (xx (zz (k_all K rfl) (by rfl) T.n_all boot_all (zf (yV (show CScope (zx wZ) _ "sign" ["thing"] [] [] from {}) rfl (zet (pv 0)) (λ_ _ _ _=>yX) (λ_ _ _ _=>(xr zgs (pv 0) (xK (v:=.str "0123456789abcdef") (by rfl) (by exact VP) (by exact⟨_,rfl⟩)) (by with_unfolding_all rfl)))) zg)))))))
    (zu (zG xM))
    zP) q1.p),?_⟩
  refine⟨_,rfl,_,_,_,_,rfl,.str _,zaL,_,rfl,xF ?_⟩;refine⟨_,rfl,txt fs,rfl,Q4 hf,zbB (λi ys H4=>H4=H/\ys=((fs.take i).map λ_=>true).map V.bl) ⟨rfl,rfl⟩ ?_ ?_⟩
  ·rintro j c ys H4 hc ⟨rfl,rfl⟩;obtain⟨z,hz,rfl,z0,z16⟩:=hat j c hc;refine⟨by rw[List.length_map,List.length_map];exact Nat.lt_of_le_of_lt (Nat.le_trans (List.length_take_le' _ _) hl) (by decide),?_⟩;unfold jJ;refine⟨_,rfl,_,_,rfl,rfl,rfl,?_⟩;rw[Jz (show z.toNat<16 by omega),List.take_succ,hz];simp
  rintro ys H4 ⟨rfl,rfl⟩ Dd hD;rw[hsz,List.take_length];refine⟨Dd,_,rfl,SqL.of zp,_,rfl,?_⟩;rw[show ((fs.map λ_=>true).all id)=true from by simp];refine xF ?_;have s1:=zr hD (o:=.lst ((fs.map λ_=>true).map V.bl));generalize upd H4 Dd (.lst ((fs.map λ_=>true).map V.bl))=H5 at s1;refine⟨_,rfl,txt fs,rfl,Q4 hf,zbB (λi ys H6=>H6=H5/\ys=(fs.take i).map V.int) ⟨rfl,rfl⟩ ?_ ?_⟩
  ·rintro j c ys H6 hc ⟨rfl,rfl⟩;obtain⟨z,hz,rfl,z0,z16⟩:=hat j c hc;refine⟨by rw[List.length_map];exact Nat.lt_of_le_of_lt (Nat.le_trans (List.length_take_le' _ _) hl) (by decide),?_⟩;unfold jJ;refine⟨rfl,_,rfl,_,_,z.toNat,[],rfl,rfl,Jz (by omega),rfl,?_⟩;rw[List.take_succ,hz,show ((z.toNat:Nat))=z by omega];simp
  rintro ys H6 ⟨rfl,rfl⟩ l hl';rw[hsz,List.take_length];exact kk l _ (s1.free hl') (s1.trans (zr hl')) zp
end
section
variable {P:Program} {w:World} {K:W.Frag} {mg:Str->Option Value} {base:Heap} {T0:Addr}
def jx:Sp:=λvs H Q _=>Ex2 λ(b:Nat) (fs:List Int)=>vs=[.int b,.str (txt fs)]/\2<=b/\b<=16/\Qi b fs/\∀H',Same H H'->Q (.int (Zh b fs)) H'
theorem Qd:zF ["base","text"] ["base","text"] (zx ur):={}
theorem Uq(D:Df K mg "read_number" ur Ap f fd)(ZS:Df K mg "number_by" wX A3 f1 fd1)(Xm:FnOk P w K mg base CX0 5 f1 fd1 A3 WM)(jV:Df K mg "figures_in" wZ Aa f2 fd2)(Yx:FnOk P w K mg base CX0 1 f2 fd2 Aa Xb):FnOk P w K mg base CX0 6 f fd Ap jx:=by
 refine D.fn.ok Qd (λvs H Q E h=>?_) (λcdv A outer s H vs Q E hr h=>?_)
 ·obtain⟨b,fs,rfl,_⟩:=h;rfl
 ·obtain⟨b,fs,rfl,b2,b16,g,kk⟩:=h;refine⟨_,(zu (zfL (λ_ _ h=>h)
    (zu (zG (zE ZS Xm (hr.mono (by decide)) (zf (pv 0) (zf (zE jV Yx (hr.mono (by decide)) (zf (pv 1) zg)) zg))))))),?_⟩
  refine⟨_,rfl,_,rfl,fs,rfl,zgk b16 g.fig,Nat.le_trans g.len (by decide),λl H1 hl s1 hv=>?_⟩;exact⟨b,l,fs,rfl,b2,b16,hv,g,λH2 s2=>kk H2 (s1.trans s2)⟩
theorem zcB{f:Nat}(h:f<16):atI SIG.cps.toList (f:Int)=some (cd f):=xW (signs_at h)
theorem txt_snoc(fs:List Int)(f:Int):txt fs++(⟨#[cd f.toNat]⟩:Str)=txt (fs++[f]):=by
 unfold txt;show (⟨_++_⟩:Str)=_;simp
def Wt(T0:Addr):Sp:=λvs H Q _=>Ex4 λ(s:Addr) (dr:Addr) (ds:List Int) (b:Nat)=>vs=[.ref s,.int b]/\Sto2 H s dr ds/\LT T0 H/\2<=b/\b<=16/\∀n H',(zT b n).length<=200->Fr T0 s dr ds H H'->Q (.int n) H'
theorem yO:zF ["store","base","signs","many","way","one","other","text","k","turn","some"] ["store","base"] (zx yI):={}
set_option maxHeartbeats 0 in
theorem J3(D:Df K mg "_law_read" yI Ak f fd)(zH:Df K mg "_law_take" wB Ai f1 fd1)(w5:Df K mg "read_number" ur Ap f2 fd2)(uf:FnOk P w K mg base CX0 6 f2 fd2 Ap jx)(T:Blt mg):FnOk P w K mg base CX0 7 f fd Ak (Wt T0):=by
 have zQ:FnOk P w K mg base CX0 1 f1 fd1 Ai (uc T0):=uW zH T;refine D.fn.ok yO (λvs H Q E h=>?_) (λcdv A outer s H vs Q E hr h=>?_)
 ·obtain⟨s,dr,ds,b,rfl,_⟩:=h;rfl
 ·obtain⟨sa,dr,ds,b,rfl,S,hT,b2,b16,kk⟩:=h;refine xO ?_;intro XX;let q1:Sq XX ((zq yI).drop 7):=⟨_,zu (zG (zE w5 uf (hr.mono (by decide)) (zf (pv 1) (zf (pv 7) zg))))⟩
  let q2:Sq XX ((sb (zq yI) 6 true).drop 2):=⟨_,zu (zA (i:=7) yO.nd rfl (Or.inl rfl) (zy zcj (pv 7) (zR zbE (pv 2) (zR (yJ K) (pv 10) (pv 4) (λ_ _=>rfl)) (λ_ _=>rfl))))⟩
  let q3:Sq XX ((sb (zq yI) 6 true).drop 1):=⟨_,zj (zA (i:=10) yO.nd rfl (Or.inl rfl) (yc (zf (zy yh (pv 9) (pv 1)) (zf (zy yh (pv 9) zm) (zf (zy wL (zy xT (pv 1) zm) (wM tZ (by rfl) T.n_int boot_int (zf (xr zbb (zy yh (pv 9) zm) zm (zM _)) zg))) (zf (wM tZ (by rfl) T.n_int boot_int (zf (xr Zt (zy yh (pv 9) zm) zm (zM _)) zg)) zg)))))) q2.p⟩
  let q4:Sq XX ((zq yI).drop 6):=⟨_,zj (xj PassesOwn.never rfl (yt rfl T.n_range (zf (zy xT (pv 3) zm) zg)) (zV (i:=8) yO.nd rfl (Or.inl rfl))
    (zj (zA (i:=9) yO.nd rfl (Or.inl rfl) (zy yh (zy ym (zy ym (zy wL (zy wL (pv 8) (pv 8)) (pv 5)) (zy wL (pv 8) (pv 6))) (zy vJ (pv 5) zm)) zm)) q3.p)) q1.p⟩
  let q5:Sq XX ((zq yI).drop 5):=⟨_,zj (zA (i:=7) yO.nd rfl (Or.inl rfl) (zR zbE (pv 2) (zy ym zm (zE zH zQ (hr.mono (by decide)) (zf (pv 0) (zf (zy xT (pv 1) zm) zg)))) (λ_ _=>rfl))) q4.p⟩
  let q6:Sq XX ((zq yI).drop 4):=⟨_,zj (zA (i:=6) yO.nd rfl (Or.inl rfl) (zE zH zQ (hr.mono (by decide)) (zf (pv 0) (zf zm zg)))) q5.p⟩
  let q7:Sq XX ((zq yI).drop 3):=⟨_,zj (zA (i:=5) yO.nd rfl (Or.inl rfl) (zE zH zQ (hr.mono (by decide)) (zf (pv 0) (zf zm zg)))) q6.p⟩
  let q8:Sq XX ((zq yI).drop 2):=⟨_,zj (zA (i:=4) yO.nd rfl (Or.inl rfl) (zE zH zQ (hr.mono (by decide)) (zf (pv 0) (zf zm zg)))) q7.p⟩
  let q9:Sq XX ((zq yI).drop 1):=⟨_,zj (zA (i:=3) yO.nd rfl (Or.inl rfl) (zR (yJ K) (yc (zf (zy ym zm (zE zH zQ (hr.mono (by decide)) (zf (pv 0) (zf zm zg)))) (zf zm (zf (zy ym zm (zE zH zQ (hr.mono (by decide)) (zf (pv 0) (zf zm zg)))) zg)))) (zE zH zQ (hr.mono (by decide)) (zf (pv 0) (zf zm zg))) (λ_ _=>rfl))) q8.p⟩
  refine⟨_,(zj (zA (i:=2) yO.nd rfl (Or.inl rfl) U8) q9.p),?_⟩;have F0:Fr T0 sa dr ds H H:=Fr.refl S hT;refine⟨_,rfl,sa,dr,ds,174,rfl,F0.st,by decide,F0.lt,λx1 H1 hx1 _ q1 t1=>⟨_,_,rfl,rfl,?_⟩⟩;have F1:=F0.trans (Fr.mk q1 t1);refine⟨_,rfl,sa,dr,ds,60,rfl,F1.st,by decide,F1.lt,λx2 H2 hx2 _ q2 t2=>⟨_,_,rfl,rfl,(by show 3<=sizeLine;decide),λl hl=>?_⟩⟩;have F2:=F1.trans (Fr.mk q2 t2);have F3:=F2.new hl (o:=.lst [.int (27+(x1:Int)),.int 200,.int (61+(x2:Int))]);have nl:=F2.st.nes hl;have tl:=F2.lt.none hl;refine⟨_,rfl,sa,dr,ds,3,rfl,F3.st,by decide,F3.lt,λx3 H4 hx3 _ q3 t3=>?_⟩;have f3:=Fr.mk q3 t3;have F4:=F3.trans f3;obtain⟨M,hM,hM1,hM2⟩:∃M:Nat,atI [V.int (27+(x1:Int)),.int 200,.int (61+(x2:Int))] (x3:Int)=some (.int M)/\2<=M/\M<=200:=by
   match x3,hx3 with
   |0,_=>exact⟨27+x1,rfl,by omega,by omega⟩
   |1,_=>exact⟨200,rfl,by omega,by omega⟩
   |2,_=>exact⟨61+x2,rfl,by omega,by omega⟩
  refine⟨l,_,_,_,rfl,rfl,SqL.of (f3.get nl tl zp),hM,?_⟩;refine⟨_,rfl,sa,dr,ds,4,rfl,F4.st,by decide,F4.lt,λway H5 hway _ q5 t5=>?_⟩;have F5:=F4.trans (Fr.mk q5 t5);refine⟨_,rfl,sa,dr,ds,10007,rfl,F5.st,by decide,F5.lt,λone H6 hone _ q6 t6=>?_⟩;have F6:=F5.trans (Fr.mk q6 t6);refine⟨_,rfl,sa,dr,ds,10007,rfl,F6.st,by decide,F6.lt,λoth H7 hoth _ q7 t7=>?_⟩;have F7:=F6.trans (Fr.mk q7 t7);refine⟨_,rfl,_,rfl,_,rfl,_,_,rfl,rfl,sa,dr,ds,b-1,by dsimp only;rw[show (b:Int)-1=((b-1:Nat):Int) by omega];rfl,F7.st,by omega,F7.lt,λd0 H8 hd0 _ q8 t8=>⟨_,_,rfl,rfl,?_⟩⟩;have F8:=F7.trans (Fr.mk q8 t8);refine⟨SIG,1+(d0:Int),cd (1+d0),rfl,rfl,by decide +kernel,by rw[show (1:Int)+(d0:Int)=((1+d0:Nat):Int) by omega];exact zcB (by omega),?_⟩;have hsig:∀f:Nat,(⟨#[cd f]⟩:Str)=txt [(f:Int)]:=λf=>rfl;refine⟨_,rfl,_,_,rfl,rfl,_,rfl,by omega,by omega,yP (lo:=0) (n:=((M:Int)-1).toNat) (λi Z Hc=>∃(fs:List Int) (v8 v9 v10:Option V),Z=[some (.ref sa),some (.int b),some (.str SIG),some (.int M),some (.int way),some (.int one),some (.int oth),some (.str (txt fs)),v8,v9,v10]/\fs.length=i+1/\(∀f∈fs,0<=f/\f<(b:Int))/\fs.head?=some ((1+d0:Nat):Int)/\Fr T0 sa dr ds H Hc) ⟨[((1+d0:Nat):Int)],none,none,none,rfl,rfl,λf hf=>by rw[List.mem_singleton.mp hf];omega,rfl,F8⟩ ?_ ?_⟩
  ·rintro i Z Hc hi ⟨fs,v8,v9,v10,rfl,hlen,hfig,hhd,Fc⟩;have hi':i<200:=by omega
   have e0:(0:Int)+(i:Int)=(i:Int):=by omega
   refine⟨_,rfl,_,rfl,_,_,rfl,rfl,.inr ⟨by omega,by omega⟩,_,rfl,_,_,rfl,rfl,.inr ⟨by omega,by omega⟩,_,rfl,_,rfl,_,_,rfl,rfl,.inr ⟨by omega,by omega⟩,_,_,rfl,rfl,_,rfl,_,_,rfl,rfl,⟨by omega,by omega⟩,_,_,rfl,rfl,_,_,rfl,rfl,(by show (0:Int)<9973;decide),?_⟩;dsimp only;generalize htu:((0+(i:Int))*(0+(i:Int))*(one:Int)+(0+(i:Int))*(oth:Int)+(one:Int) / 7) % 9973=tu;have tu0:0<=tu:=by rw[<-htu];exact Int.emod_nonneg _ (by decide)
   have tb:=Int.emod_nonneg tu (show (b:Int)≠0 by omega);have tb2:=Int.emod_lt_of_pos tu (show (0:Int)<(b:Int) by omega);have t2:=Int.emod_nonneg tu (show (2:Int)≠0 by decide);have t22:=Int.emod_lt_of_pos tu (show (0:Int)<2 by decide);refine⟨_,rfl,_,rfl,_,_,rfl,rfl,(by omega:(0:Int)<(b:Int)),_,rfl,_,_,rfl,rfl,(by show (0:Int)<2;decide),?_⟩;refine⟨_,rfl,_,_,rfl,rfl,_,rfl,_,_,rfl,rfl,(by show (0:Int)<5;decide),_,_,rfl,rfl,.inr ⟨_,rfl,?_⟩⟩;dsimp only;generalize hg1:decide (tu % 5>0)=g1;refine⟨_,_,rfl,rfl,.inr ⟨by split<;>omega,by split<;>omega⟩,?_⟩;refine⟨_,rfl,_,_,rfl,rfl,(by show (0:Int)<9;decide),rfl,.inr ⟨_,rfl,?_⟩⟩;dsimp only;generalize hg2:decide (V.int (tu % 9)=V.int 0)=g2;refine⟨(by show 4<=sizeLine;decide),λl2 hl2=>?_⟩;have F9:=Fc.new hl2 (o:=.lst [.int (tu % (b:Int)),.int (tu % 2),.int (((b:Int)-1)*(if g1=true then 1 else 0)),.int (if g2=true then 1 else 0)]);obtain⟨c,hc,hcb⟩:∃c:Nat,atI [V.int (tu % (b:Int)),.int (tu % 2),.int (((b:Int)-1)*(if g1=true then 1 else 0)),.int (if g2=true then 1 else 0)] (way:Int)=some (.int c)/\c<b:=by
    match way,hway with
    |0,_=>exact⟨(tu % (b:Int)).toNat,by show some _=_;rw[show (((tu % (b:Int)).toNat:Nat):Int)=tu % (b:Int) by omega],by omega⟩
    |1,_=>exact⟨(tu % 2).toNat,by show some _=_;rw[show (((tu % 2).toNat:Nat):Int)=tu % 2 by omega],by omega⟩
    |2,_=>
     cases g1
     ·exact⟨0,by show some _=_;simp,by omega⟩
     ·exact⟨b-1,by show some _=_;simp;omega,by omega⟩
    |3,_=>
     cases g2
     ·exact⟨0,rfl,by omega⟩
     ·exact⟨1,rfl,by omega⟩
   refine⟨_,rfl,_,rfl,_,rfl,_,rfl,l2,_,_,_,rfl,rfl,SqL.of zp,hc,?_⟩;refine⟨SIG,(c:Int),cd c,rfl,rfl,by decide +kernel,zcB (by omega),?_⟩;refine⟨_,_,rfl,rfl,?_,?_⟩
   ·rw[zcG,hlen];exact Nat.le_trans (show i+1+1<=1000 by omega) (by decide)
   refine⟨fs++[(c:Int)],some (.int (0+(i:Int))),some (.int tu),some (.ref l2),?_,by rw[List.length_append,hlen];rfl,λf hf=>?_,by rw[List.head?_append,hhd];rfl,F9⟩
   ·rw[<-txt_snoc];rfl
   ·rcases List.mem_append.mp hf with h | h
    ·exact hfig f h
    ·rw[List.mem_singleton.mp h];omega
  ·rintro Z Hc ⟨fs,v8,v9,v10,rfl,hlen,hfig,hhd,Fc⟩;have hl2:fs.length=M:=by rw[hlen];omega
   have g:Qi b fs:=⟨(λz=>by rw[z]at hhd;cases hhd),by omega,hfig,.inl (by rw[hhd];intro z;injection z with z;omega)⟩
   obtain⟨n,hn,hfn,_⟩:=zc9 b2 fs.length fs rfl g.ne g.fig g.first;refine⟨_,rfl,_,rfl,b,fs,rfl,b2,b16,g,λH9 s9=>?_⟩;rw[hn];exact kk n H9 (by rw[hfn];exact g.len) (Fc.same s9)
end
theorem zbI(h:X7 ls x):lacks ls x=true/\zL ls x=x:=by
 rcases h with rfl | ⟨st,hst,k,h1,h2,rfl,h3⟩
 ·refine⟨?_,rfl⟩;unfold lacks;rw[Bool.not_eq_true',List.any_eq_false];intro st _ h;simp[Z5]at h
 ·refine⟨h3,Ui ?_⟩;unfold uC;rw[List.any_eq_true];refine⟨st,hst,decide_eq_true ?_⟩;rw[List.length_take,Nat.min_eq_left (by omega)]
theorem zc1(x:List Int)(i:Nat):uQ (x.map V.int) (some (i:Int)) none=(x.drop i).map V.int:=by rw[jq,<-List.map_drop]
theorem zdA(x:List Int)(i:Nat):uQ (x.map V.int) none (some (i:Int))=(x.take i).map V.int:=by rw[jn,<-List.map_take]
section
variable {P:Program} {w:World} {K:W.Frag} {mg:Str->Option Value} {base:Heap}
structure Rdr (P:Program) (w:World) (H:Hp) (rd tl dd:Addr) (b:Nat) (ts:ZB):Prop where
 s:RdS H rd tl dd b ts
 d:RdD P w H dd (ts.map (·.2)) b
 g:yx b (ts.map (·.2))
theorem Rdr.same(R:Rdr P w H rd tl dd b ts)(s:Same H H'):Rdr P w H' rd tl dd b ts:=⟨R.s.same s,R.d.same s,R.g⟩
theorem Rdr.sameD(R:Rdr P w H rd tl dd b ts)(s:SameD dd H H')(d:RdD P w H' dd (ts.map (·.2)) b):Rdr P w H' rd tl dd b ts:=⟨R.s.sameD R.d s,d,R.g⟩
theorem Rdr.tup(R:Rdr P w H rd tl dd b ts)(h:H c=some (.tup xs)):c≠dd:=R.d.ne h λ_ z=>nomatch z
def Yr(P:Program)(w:World):Sp:=λvs H Q _=>Ex4 λr b bl zs=>vs=[.ref r]/\RuleAt H r b bl zs/\yx b (zs.map (·.2)) /\
 ∀rd tl dd ts H',H rd=none->H tl=none->H dd=none->(∀t∈ts,H t.1=none)->Rdr P w H' rd tl dd b ts->ts.map (·.2)=zs.map (·.2)->Same H H'->Q (.ref rd) H'
theorem U3:zF ["rule"] ["rule"] (zx ut):={}
theorem Ue(D:Df K mg "_law_reader" ut Aj f fd)(T:Blt mg):FnOk P w K mg base CX0 1 f fd Aj (Yr P w):=by
 refine D.fn.ok U3 (λvs H Q E h=>?_) (λcdv A outer s H vs Q E hr h=>?_)
 ·obtain⟨r,b,bl,zs,rfl,_⟩:=h;rfl
 ·obtain⟨r,b,bl,zs,rfl,R,g,kk⟩:=h;have h4:zs.length<=4:=by have:=g.len;rwa[List.length_map]at this
  refine⟨_,(zu (zG (yc (zf (zR (vO K) (pv 0) zm (λ_ _=>rfl)) (zf (yV (show CScope (zx ut) _ "stretch" ["rule"] [] [] from {}) rfl (je K (zR (vO K) (pv 0) zm (λ_ _=>rfl))) (λ_ _ _ _=>yX) (λ_ _ _ _=>(wM (zfU K) (by rfl) T.n_tuple boot_tuple (zf (pv 0) zg)))) (zf zfo zg)))))),?_⟩;refine⟨_,rfl,r,_,_,V.int b,rfl,rfl,SqT.of R.tu,rfl,?_⟩;refine⟨_,rfl,r,_,_,V.ref bl,rfl,rfl,SqT.of R.tu,rfl,bl,rfl,⟨_,SqL.of R.li⟩,xu (λi ys Hc=>∃ts:ZB,ys=ts.map (λt=>V.ref t.1)/\ts.map (·.2)=(zs.take i).map (·.2)/\(∀t∈ts,H t.1=none/\Hc t.1=some (.tup (t.2.map V.int)))/\Same H Hc) ⟨[],rfl,by simp,by simp,Same.refl _⟩ (λi ys Hc _ ⟨_,_,_,_,e⟩=>SqL.of (e _ _ R.li)) ?_ ?_⟩
  ·rintro i x ys Hc hx ⟨ts,rfl,e2,ht,sc⟩;rw[List.getElem?_map]at hx;obtain⟨z,hzj,e⟩:=Option.map_eq_some_iff.mp hx;subst e;have hzm:=List.mem_of_getElem? hzj;refine⟨by have:=congrArg List.length e2;rw[List.length_map,List.length_map,List.length_take]at this;rw[List.length_map];exact Nat.lt_of_le_of_lt (show ts.length<=4 by omega) (by decide),?_⟩;refine⟨_,rfl,z.1,_,rfl,.inl ⟨SqL.of (sc _ _ (R.st z hzm)),λp hp=>?_⟩⟩;have m:=zr hp (o:=.tup (z.2.map V.int));refine⟨ts++[(p,z.2)],by simp,by rw[List.map_append,e2,List.take_succ,hzj,List.map_append];rfl,λt ht'=>?_,sc.trans m⟩;rcases List.mem_append.mp ht' with h | h
   ·exact⟨(ht t h).1,m _ _ (ht t h).2⟩
   ·rw[List.mem_singleton.mp h];exact⟨sc.free hp,zp⟩
  ·rintro ys Hc ⟨ts,rfl,e2,ht,sc⟩ tl htl;have m:=zr htl (o:=.lst (ts.map λt=>V.ref t.1));rw[List.length_map,List.take_length]at e2;intro dd H2 hdd d2 c2;have ned:∀{c u},(upd Hc tl (.lst (ts.map λt=>V.ref t.1))) c=some u->c≠dd:=λe z=>by rw[z,hdd]at e;cases e
   have s2:Same (upd Hc tl (.lst (ts.map λt=>V.ref t.1))) H2:=λc u e=>by rw[c2 c (ned e)];exact e
   refine⟨(by show 3<=sizeLine;decide),λrd hrd=>?_⟩;have m3:=zr hrd (o:=.lst [.int b,.ref tl,.ref dd]);have s03:=(sc.trans m).trans (s2.trans m3);exact kk rd tl dd ts _ ((sc.trans (m.trans s2)).free hrd) (sc.free htl) ((sc.trans m).free hdd) (λt h=>(ht t h).1) ⟨⟨zp,m3 _ _ (s2 _ _ zp),λt h=>m3 _ _ (s2 _ _ (m _ _ (ht t h).2))⟩,⟨[],d2.same m3,Tab.nil⟩,by rw[e2];exact g⟩ e2 s03
def vC(P:Program)(w:World):Sp:=λvs H Q _=>Ex6 λrd tl dd b ts sa=>Ex2 λ(x:List Int) (f:Nat)=>vs=[.ref rd,.ref sa,.int f]/\Rdr P w H rd tl dd b ts/\H sa=some (.tup (x.map V.int))/\X7 (ts.map (·.2)) x/\f<b /\
 ∀v H',SameD dd H H'->RdD P w H' dd (ts.map (·.2)) b->AftV H' (aft (ts.map (·.2)) x f) v->Q v H'
theorem Za:zF ["reader","stand","figure","ends","good"] ["reader","stand","figure"] (zx zW):={}
set_option maxHeartbeats 0 in
theorem uv(D:Df K mg "_law_after" zW Af f fd)(T:Blt mg):FnOk P w K mg base CX0 1 f fd Af (vC P w):=by
 refine D.fn.ok Za (λvs H Q E h=>?_) (λcdv A outer s H vs Q E hr h=>?_)
 ·obtain⟨rd,tl,dd,b,ts,sa,x,f,rfl,_⟩:=h;rfl
 ·obtain⟨rd,tl,dd,b,ts,sa,x,f,rfl,R,hsa,hx,hf,kk⟩:=h;have HU:=zax hr;have h4:ts.length<=4:=by have:=R.g.len;rwa[List.length_map]at this
  have hst4:∀st∈ts.map (·.2),st.length<=4:=λst h=>(R.g.st st h).len;have ne:∀st∈ts.map (·.2),st≠[]:=λst h=>(R.g.st st h).ne;have hx3:=za8 hst4 hx;have hLx:lacks (ts.map (·.2)) x=true:=(zbI hx).1;have tupK:∀{H1:Hp} {q:Addr},H1 sa=some (.tup (x.map V.int))->H1 q=none->NTup (upd H1 q (.tup [.ref sa,.int f,.int 0])) (kA x f) q:=λ{H1 q} h hq=>⟨sa,zp,by rw[show (kA x f).1.map kV=x.map V.int from zew x];exact zr hq _ _ h⟩
  refine xO ?_;intro XX;let q1:Sq XX ((zq zW).drop 1):=⟨_,zu (zG (zcn (Xx hr) (zR (yJ K) (pv 0) zm (λ_ _=>rfl)) (wC (zf (pv 1) (zf (pv 2) (zf zm zg)))) (λ_ _=>rfl)))⟩
  let q2:Sq XX ((sb (zq zW) 0 true).drop 3):=⟨_,zu (yG (zO (zeH K HU) (yV (show CScope (zx zW) _ "end" ["reader","stand","figure","ends","good"] ["reader"] [0] from {}) rfl (je K (pv 3)) (λ_ _ _ _=>(WN (zO (zg9 K HU) (pv 0) (zR (yJ K) (pv 1) zm (λ_ _=>rfl)) (by with_unfolding_all rfl)))) (λ_ _ _ _=>(pv 0))) (yc zg) (zM _))
     (zu (JV (Xx hr) (zR (yJ K) (pv 0) zm (λ_ _=>rfl)) (wC (zf (pv 1) (zf (pv 2) (zf zm zg)))) xM rfl))
     zP)⟩
  let q3:Sq XX ((sb (zq zW) 0 true).drop 2):=⟨_,zj (JV (Xx hr) (zR (yJ K) (pv 0) zm (λ_ _=>rfl)) (wC (zf (pv 1) (zf (pv 2) (zf zm zg)))) (zR (yJ K) (zy wQ (pv 4) (yc (zf (wC zg) zg))) zm (λ_ _=>rfl)) rfl) q2.p⟩
  let q4:Sq XX ((sb (zq zW) 0 true).drop 1):=⟨_,zj (zaR (i:=4) (show CScopeD (zx zW) _ "end" ["reader","stand","figure","ends","good"] ["reader"] [0] from ⟨rfl,by decide +kernel,by decide +kernel,rfl,by decide +kernel,rfl,by decide +kernel,by decide +kernel,λ_ _=>rfl,λ_=>rfl⟩) rfl Za.nd rfl (Or.inl rfl) (je K (pv 3)) (λ_ _ _ _=>(WN (zO (zeH K HU) (yV (CScope.re (show CScope _ _ "one" ["end","reader"] ["end"] [0] from {})) rfl (je K (zR (yJ K) (pv 1) zm (λ_ _=>rfl))) (λ_ _ _ _=>(WN (zO (zbu K HU) (yN zcQ (pv 0) wA (yW (zz (wy K) (by rfl) T.n_len PySem.boot_len (zf (pv 1) zg)))) (pv 1) (zM _)))) (λ_ _ _ _=>(pv 0))) (yc zg) (zM _)))) (λ_ _ _ _=>(pv 0))) q3.p⟩
  refine⟨_,(zj (yG (zdX (Jr (Xx hr) (wC (zf (pv 1) (zf (pv 2) (zf zm zg)))) (zR (yJ K) (pv 0) zm (λ_ _=>rfl))) (by with_unfolding_all rfl))
    (zj (Qu (i:=3) (show CScope (zx zW) _ "at" ["reader","stand","figure","ends","good"] ["stand","figure"] [1,2] from {}) rfl Za.nd rfl (Or.inl rfl) (yt rfl T.n_range (zf (zy ym (zz (wy K) (by rfl) T.n_len PySem.boot_len (zf (pv 1) zg)) zm) zg)) (λ_ _ _ _=>yX) (λ_ _ _ _=>(yN zcQ (zy ze7 (pv 1) (wC (zf (pv 2) zg))) (yW (pv 0)) wA))) q4.p)
    zP) q1.p),?_⟩
  refine⟨_,rfl,_,rfl,(by show 3<=sizeLine;decide),λq1 hq1=>?_⟩;have m1:=zr hq1 (o:=.tup [.ref sa,.int f,.int 0]);have R1:=R.same m1;obtain⟨kvs,d1,t1⟩:=R1.d;have nt1:=tupK hsa hq1;generalize upd H q1 (.tup [.ref sa,.int f,.int 0])=H1 at m1 R1 d1 t1 nt1;refine⟨_,rfl,rd,_,_,.ref dd,rfl,rfl,SqL.of R1.s.hd,rfl,dd,kvs,kA x f,q1,rfl,d1,rfl,nt1,_,rfl,?_⟩;have m0:SameD dd H H1:=SameD.of m1;cases hv:vL kvs (kA x f) with
  |some v=>
   refine xF ?_;refine⟨_,rfl,rd,_,_,.ref dd,rfl,rfl,SqL.of R1.s.hd,rfl,_,rfl,_,rfl,(by show 3<=sizeLine;decide),λq2 hq2=>?_⟩;have m2:=zr hq2 (o:=.tup [.ref sa,.int f,.int 0]);refine⟨dd,kvs,kA x f,q2,v,rfl,d1.same m2,rfl,tupK (m1 _ _ hsa) hq2,hv,?_⟩;exact kk v _ (m0.trans (SameD.of m2)) ⟨kvs,d1.same m2,t1.same λb xs e=>m2 _ _ e⟩ ((t1.aft hv).same λb xs e=>m2 _ _ e)
  |none=>
  refine xU ?_;have hsa1:=m1 _ _ hsa;have hlen:(x.map V.int).length=x.length:=List.length_map ..;refine⟨_,rfl,sa,_,rfl,.inr (SqT.of hsa1),_,_,rfl,rfl,_,rfl,by rw[hlen];omega,by rw[hlen];omega,vQ (lo:=0) (n:=(((x.map V.int).length:Nat)+(2:Int)).toNat) (λi ys Hc=>∃es:ZB,ys=es.map (λt=>V.ref t.1)/\es.map (·.2)=(List.range i).map (x++[(f:Int)]).drop/\(∀t∈es,Hc t.1=some (.tup (t.2.map V.int)))/\Same H1 Hc) ⟨[],rfl,rfl,by simp,Same.refl _⟩ ?_ ?_⟩
  ·rintro i ys Hc hi ⟨es,rfl,e2,he,sc⟩;refine⟨by have:=congrArg List.length e2;rw[List.length_map,List.length_map,List.length_range]at this;rw[List.length_map,this];exact Nat.lt_of_le_of_lt (show i<=10 by rw[hlen]at hi;omega) (by decide),?_⟩;unfold jJ;dsimp only;rw[if_pos rfl];refine⟨_,rfl,_,rfl,(by show 1<=sizeLine;decide),λp1 hp1=>?_⟩;have mp:=zr hp1 (o:=.tup [.int f]);refine⟨sa,p1,_,_,rfl,rfl,mp _ _ (sc _ _ hsa1),zp,by rw[hlen];exact Nat.le_trans (show x.length+1<=100 by omega) (by decide),λp2 H2 s2 h2=>?_⟩;refine⟨_,rfl,_,rfl,p2,_,rfl,h2,λp3 H3 s3 h3=>?_⟩;have e3:uQ (x.map V.int++[.int f]) (some (0+(i:Int))) none=((x++[(f:Int)]).drop i).map V.int:=by
    rw[Int.zero_add,show x.map V.int++[V.int f]=(x++[(f:Int)]).map V.int by rw[List.map_append];rfl,zc1]
   rw[e3]at h3;have s13:=(mp.trans s2).trans s3;refine⟨es++[(p3,(x++[(f:Int)]).drop i)],by simp,by rw[List.map_append,e2,List.range_succ,List.map_append];rfl,λt ht=>?_,sc.trans s13⟩;rcases List.mem_append.mp ht with h | h
   ·exact s13 _ _ (he t h)
   ·rw[List.mem_singleton.mp h];exact h3
  rintro ys H2 ⟨es,rfl,e2,he,s2⟩ el hel;rw[show (((x.map V.int).length:Nat)+(2:Int)).toNat=(x++[(f:Int)]).length+1 by rw[hlen,List.length_append,List.length_singleton];omega]at e2;have e2:es.map (·.2)=ends (x++[(f:Int)]):=e2;have hel10:es.length<=10:=by
   have:=congrArg List.length e2;unfold ends at this;rw[List.length_map,List.length_map,List.length_range,List.length_append,List.length_singleton]at this;omega
  have m3:=zr hel (o:=.lst (es.map λt=>V.ref t.1));have s13:=s2.trans m3;have hE3:(upd H2 el (.lst (es.map λt=>V.ref t.1))) el=some (.lst (es.map λt=>V.ref t.1)):=zp;have he3:∀t∈es,(upd H2 el (.lst (es.map λt=>V.ref t.1))) t.1=some (.tup (t.2.map V.int)):=λt h=>m3 _ _ (he t h);generalize upd H2 el (.lst (es.map λt=>V.ref t.1))=H3 at s13 hE3 he3;have R3:=R1.same s13;refine⟨_,rfl,el,rfl,⟨_,SqL.of hE3⟩,xu (K:=K) (a:=el) (xs:=es.map λt=>V.ref t.1) (λi ys Hc=>ys=((es.take i).filter λt=>uC (ts.map (·.2)) t.2).map (λt=>V.ref t.1)/\Same H3 Hc) ⟨by simp,Same.refl _⟩ (λi ys Hc _ ⟨_,e⟩=>SqL.of (e _ _ hE3)) ?_ ?_⟩
  ·rintro i v ys Hc hi ⟨rfl,sc⟩;rw[List.getElem?_map]at hi;obtain⟨t,htj,e⟩:=Option.map_eq_some_iff.mp hi;subst e;have htm:=List.mem_of_getElem? htj;have Rc:=R3.same sc;have hil:=(List.getElem?_eq_some_iff.mp htj).1;refine⟨by rw[List.length_map];exact Nat.lt_of_le_of_lt (Nat.le_trans (List.length_filter_le _ _) (by rw[List.length_take];exact show min i es.length<=10 by omega)) (by decide),?_⟩;refine⟨_,rfl,rd,_,_,.ref tl,rfl,rfl,SqL.of Rc.s.hd,rfl,tl,rfl,⟨_,SqL.of Rc.s.li⟩,xu (K:=K) (a:=tl) (xs:=ts.map λt=>V.ref t.1) (λj us Hd=>us=((ts.take j).filter λz=>decide (z.2.take t.2.length=t.2)).map (λz=>V.ref z.1)/\Same Hc Hd) ⟨by simp,Same.refl _⟩ (λj us Hd _ ⟨_,e⟩=>SqL.of (e _ _ Rc.s.li)) ?_ ?_⟩
   ·rintro j u us Hd hj ⟨rfl,sd⟩;rw[List.getElem?_map]at hj;obtain⟨z,hzj,e⟩:=Option.map_eq_some_iff.mp hj;subst e;have hzm:=List.mem_of_getElem? hzj;have hjl:=(List.getElem?_eq_some_iff.mp hzj).1;refine⟨by rw[List.length_map];exact Nat.lt_of_le_of_lt (Nat.le_trans (List.length_filter_le _ _) (by rw[List.length_take];exact show min j ts.length<=10 by omega)) (by decide),?_⟩;have htd:=sd _ _ (sc _ _ (he3 t htm));refine⟨_,rfl,_,rfl,t.1,_,rfl,.inr (SqT.of htd),_,rfl,z.1,_,rfl,sd _ _ (Rc.s.st z hzm),λp4 H4 s4 h4'=>?_⟩;rw[List.length_map,zdA]at h4';refine⟨_,rfl,vP (z.2.take t.2.length),vP t.2,TrAt.tupI h4',TrAt.tupI (s4 _ _ htd),(by rw[Jm];decide),_,rfl,?_⟩;show if teq (vP (z.2.take t.2.length)) (vP t.2)=true then _ else _;rw[zaJ];by_cases hq:z.2.take t.2.length=t.2
    ·rw[decide_eq_true hq];refine xU ⟨_,rfl,?_,sd.trans s4⟩;rw[List.take_succ,hzj,Option.toList_some,List.filter_append,List.filter_cons,if_pos (decide_eq_true hq),List.map_append];rfl
    ·rw[decide_eq_false hq];refine xF ⟨?_,sd.trans s4⟩;rw[List.take_succ,hzj,Option.toList_some,List.filter_append,List.filter_cons,if_neg (by rw[decide_eq_false hq];exact Bool.false_ne_true),List.filter_nil,List.append_nil]
   ·rintro us Hd ⟨rfl,sd⟩ D4 hD4;rw[List.length_map,List.take_length];refine⟨(by decide:0<=sizeLine),λp0 hp0=>?_⟩;generalize hks:(ts.filter λz=>decide (z.2.take t.2.length=t.2))=ks at hD4 hp0;have m4:=zr hD4 (o:=.lst (ks.map λz=>V.ref z.1));have m5:=zr hp0 (o:=.lst []);have hkt:∀z∈ks,(upd (upd Hd D4 (.lst (ks.map λz=>V.ref z.1))) p0 (.lst [])) z.1=some (.tup (z.2.map V.int)):=λz hz=>m5 _ _ (m4 _ _ (sd _ _ (Rc.s.st z (by rw[<-hks]at hz;exact (List.mem_filter.mp hz).1))));refine⟨.lst ((ks.map (·.2)).map vP),.lst [],?_,?_,(by rw[qj];have:=Z4 (ks.map (·.2));omega),_,rfl,?_⟩
    ·rw[TrAt];exact⟨D4,_,rfl,SqL.of (m5 _ _ zp),TrsAt.tups hkt⟩
    ·rw[TrAt];exact⟨p0,_,rfl,SqL.of zp,by rw[TrsAt]⟩
    have sE:=sc.trans (sd.trans (m4.trans m5));show if (!teq (.lst ((ks.map (·.2)).map vP)) (.lst []))=true then _ else _;rw[Jj];have hb:uC (ts.map (·.2)) t.2=!((ks.map (·.2)).map vP).isEmpty:=by
     unfold uC;rw[List.any_map,<-hks,Bool.eq_iff_iff];simp[List.any_eq_true,List.isEmpty_iff]
    rw[<-hb];cases hbb:uC (ts.map (·.2)) t.2 with
    |true=>
     refine xU ⟨_,rfl,?_,sE⟩;rw[List.take_succ,htj,Option.toList_some,List.filter_append,List.filter_cons,if_pos hbb,List.map_append];rfl
    |false=>
     refine xF ⟨?_,sE⟩;rw[List.take_succ,htj,Option.toList_some,List.filter_append,List.filter_cons,if_neg (by rw[hbb];exact Bool.false_ne_true),List.filter_nil,List.append_nil]
  rintro ys H4 ⟨rfl,s4⟩ gl hgl;rw[List.length_map,List.take_length];generalize hgsd:(es.filter λt=>uC (ts.map (·.2)) t.2)=gs at hgl;have hgl10:gs.length<=10:=by rw[<-hgsd];exact Nat.le_trans (List.length_filter_le _ _) hel10
  have m5:=zr hgl (o:=.lst (gs.map λt=>V.ref t.1));have hG5:(upd H4 gl (.lst (gs.map λt=>V.ref t.1))) gl=some (.lst (gs.map λt=>V.ref t.1)):=zp;have s35:=s4.trans m5;generalize upd H4 gl (.lst (gs.map λt=>V.ref t.1))=H5 at s35 hG5;have s15:=s13.trans s35;have R5:=R3.same s35;have he5:∀t∈es,H5 t.1=some (.tup (t.2.map V.int)):=λt h=>s35 _ _ (he3 t h);have hls:∃ls,ls=ts.map (·.2):=⟨_,rfl⟩
  refine⟨_,rfl,(by decide:0<=sizeLine),λe0 he0=>?_⟩;have m6:=zr he0 (o:=.tup []);refine⟨(by show 1<=sizeLine;decide),λp5 hp5=>?_⟩;have m7:=zr hp5 (o:=.lst [.ref e0]);refine⟨gl,p5,_,_,rfl,rfl,m7 _ _ (m6 _ _ hG5),zp,by rw[List.length_map];exact Nat.le_trans (show gs.length+1<=100 by omega) (by decide),λp6 hp6=>?_⟩;have m8:=zr hp6 (o:=.lst (gs.map (λt=>V.ref t.1)++[.ref e0]));have m58:=m6.trans (m7.trans m8);have he00:(upd (upd (upd H5 e0 (.tup [])) p5 (.lst [.ref e0])) p6 (.lst (gs.map (λt=>V.ref t.1)++[.ref e0]))) e0=some (.tup (([]:List Int).map V.int)):=m8 _ _ (m7 _ _ zp);have hp66:(upd (upd (upd H5 e0 (.tup [])) p5 (.lst [.ref e0])) p6 (.lst (gs.map (λt=>V.ref t.1)++[.ref e0]))) p6=some (.lst ((gs++[((e0,[]):Addr×List Int)]).map λt=>V.ref t.1)):=by rw[zp,List.map_append];rfl
  generalize upd (upd (upd H5 e0 (.tup [])) p5 (.lst [.ref e0])) p6 (.lst (gs.map (λt=>V.ref t.1)++[.ref e0]))=H6 at m58 he00 hp66;obtain⟨c,hc0,hc2,hct⟩:∃c:Addr×List Int,(gs++[((e0,[]):Addr×List Int)])[0]?=some c/\c.2=zL (ts.map (·.2)) (x++[(f:Int)])/\H6 c.1=some (.tup (c.2.map V.int)):=by
   have hh:=zdl (ls:=ts.map (·.2)) (x++[(f:Int)]);have em:(gs++[((e0,[]):Addr×List Int)]).map (·.2)=(ends (x++[(f:Int)])).filter (uC (ts.map (·.2)))++[[]]:=by
    rw[List.map_append,<-e2,List.filter_map,<-hgsd];rfl
   rw[<-em,List.head?_map,List.head?_eq_getElem?]at hh;obtain⟨c,h1,h2⟩:=Option.map_eq_some_iff.mp hh;refine⟨c,h1,h2,?_⟩;rcases List.mem_append.mp (List.mem_of_getElem? h1) with h | h
   ·exact m58 _ _ (he5 c (by rw[<-hgsd]at h;exact (List.mem_filter.mp h).1))
   ·rw[List.mem_singleton.mp h];exact he00
  refine⟨p6,_,_,.ref c.1,rfl,rfl,SqL.of hp66,xW (j:=0) (by rw[List.getElem?_map,hc0];rfl),?_⟩;have s16:=s15.trans m58;have R6:=R5.same m58;refine⟨_,rfl,rd,_,_,.ref dd,rfl,rfl,SqL.of R6.s.hd,rfl,_,rfl,_,rfl,(by show 3<=sizeLine;decide),λq7 hq7=>?_⟩;have m9:=zr hq7 (o:=.tup [.ref sa,.int f,.int 0]);have s17:=s16.trans m9;have kl:kvs.length<sizeLine:=Nat.lt_of_le_of_lt (t1.len R.g.len hst4 R.g.b16) (by decide);refine⟨dd,kvs,kA x f,q7,rfl,d1.same s17,rfl,tupK (s16 _ _ hsa1) hq7,kl,λH8 d8 c8=>?_⟩;have R7:=R6.same m9;have hct7:=m9 _ _ hct;have he7:∀t∈es,(upd H6 q7 (.tup [.ref sa,.int f,.int 0])) t.1=some (.tup (t.2.map V.int)):=λt h=>m9 _ _ (m58 _ _ (he5 t h));have hel7:(upd H6 q7 (.tup [.ref sa,.int f,.int 0])) el=some (.lst (es.map λt=>V.ref t.1)):=m9 _ _ (m58 _ _ (s35 _ _ hE3));generalize upd H6 q7 (.tup [.ref sa,.int f,.int 0])=H7 at c8 s17 R7 hct7 he7 hel7;have nd:∀{a u},H7 a=some u->(∀φ,u≠.ext φ)->H8 a=some u:=λ{a u} h hu=>by rw[c8 a (R7.d.ne h hu)];exact h
  have s78:SameD dd H7 H8:=λa u ha h=>by rw[c8 a ha];exact h
  have tp78:∀a xs,H7 a=some (.tup xs)->H8 a=some (.tup xs):=λa xs h=>nd h (λ_ z=>nomatch z);have S8:RdS H8 rd tl dd b ts:=⟨nd R7.s.hd (λ_ z=>nomatch z),nd R7.s.li (λ_ z=>nomatch z),λt h=>tp78 _ _ (R7.s.st t h)⟩
  have t8:Tab (ts.map (·.2)) b H8 kvs:=t1.same λa xs h=>tp78 _ _ (s17 _ _ h);have hel8:H8 el=some (.lst (es.map λt=>V.ref t.1)):=nd hel7 (λ_ z=>nomatch z);have he8:∀t∈es,H8 t.1=some (.tup (t.2.map V.int)):=λt h=>tp78 _ _ (he7 t h);have hc8:=tp78 _ _ hct7;have hsa8:=tp78 _ _ (s17 _ _ hsa1);have s08:SameD dd H H8:=(m0.trans (SameD.of s17)).trans s78;refine⟨_,rfl,el,rfl,⟨_,SqL.of hel8⟩,xu (K:=K) (a:=el) (xs:=es.map λt=>V.ref t.1) (λi ys Hc=>ys=((es.take i).filter λt=>decide (t.2∈ts.map (·.2))).map (λt=>V.ref t.1)/\Same H8 Hc) ⟨by simp,Same.refl _⟩ (λi ys Hc _ ⟨_,e⟩=>SqL.of (e _ _ hel8)) ?_ ?_⟩
  ·rintro i v ys Hc hi ⟨rfl,sc⟩;rw[List.getElem?_map]at hi;obtain⟨t,htj,e⟩:=Option.map_eq_some_iff.mp hi;subst e;have htm:=List.mem_of_getElem? htj;have Sc:=S8.same sc;refine⟨by rw[List.length_map];exact Nat.lt_of_le_of_lt (Nat.le_trans (List.length_filter_le _ _) (by rw[List.length_take];exact show min i es.length<=10 by omega)) (by decide),?_⟩;refine⟨_,rfl,_,rfl,rd,_,_,.ref tl,rfl,rfl,SqL.of Sc.hd,rfl,tl,_,(ts.map (·.2)).map vP,vP t.2,rfl,SqL.of Sc.li,TrsAt.tups Sc.st,TrAt.tupI (sc _ _ (he8 t htm)),Nat.le_trans (Z4 _) (by decide),_,rfl,?_⟩;rw[if_neg (by decide),zfw];by_cases hq:t.2∈ts.map (·.2)
   ·rw[decide_eq_true hq];refine xU ⟨_,rfl,?_,sc⟩;rw[List.take_succ,htj,Option.toList_some,List.filter_append,List.filter_cons,if_pos (decide_eq_true hq),List.map_append];rfl
   ·rw[decide_eq_false hq];refine xF ⟨?_,sc⟩;rw[List.take_succ,htj,Option.toList_some,List.filter_append,List.filter_cons,if_neg (by rw[decide_eq_false hq];exact Bool.false_ne_true),List.filter_nil,List.append_nil]
  rintro ys H9 ⟨rfl,s9⟩ D9 hD9;rw[List.length_map,List.take_length];refine⟨(by decide:0<=sizeLine),λp0 hp0=>?_⟩;generalize hks:(es.filter λt=>decide (t.2∈ts.map (·.2)))=ks at hD9 hp0;have ma:=zr hD9 (o:=.lst (ks.map λz=>V.ref z.1));have mb:=zr hp0 (o:=.lst []);have s8a:=s9.trans (ma.trans mb);have hkt:∀z∈ks,(upd (upd H9 D9 (.lst (ks.map λz=>V.ref z.1))) p0 (.lst [])) z.1=some (.tup (z.2.map V.int)):=λz hz=>s8a _ _ (he8 z (by rw[<-hks]at hz;exact (List.mem_filter.mp hz).1));refine⟨.lst ((ks.map (·.2)).map vP),.lst [],?_,?_,(by rw[qj];have:=Z4 (ks.map (·.2));omega),_,rfl,?_⟩
  ·rw[TrAt];exact⟨D9,_,rfl,SqL.of (mb _ _ zp),TrsAt.tups hkt⟩
  ·rw[TrAt];exact⟨p0,_,rfl,SqL.of zp,by rw[TrsAt]⟩
  show if (!teq (.lst ((ks.map (·.2)).map vP)) (.lst []))=true then _ else _;rw[Jj];have hk:(!((ks.map (·.2)).map vP).isEmpty)=!lacks (ts.map (·.2)) (x++[(f:Int)]):=by
   have q:=ze4 ne (f:Int) hLx;cases hL:lacks (ts.map (·.2)) (x++[(f:Int)]) with
   |false=>
    obtain⟨e,h1,h2⟩:=q.mpr hL;rw[<-e2]at h1;obtain⟨t,ht,rfl⟩:=List.mem_map.mp h1;have:t∈ks:=by rw[<-hks];exact List.mem_filter.mpr ⟨ht,decide_eq_true h2⟩
    cases ks with
    |nil=>cases this
    |cons _ _=>rfl
   |true=>
    cases ks with
    |nil=>rfl
    |cons t ks'=>
     exfalso;have ht:t∈es.filter λt=>decide (t.2∈ts.map (·.2)):=by rw[hks];exact List.mem_cons_self
     have ht:=List.mem_filter.mp ht;have:=q.mp ⟨t.2,by rw[<-e2];exact List.mem_map.mpr ⟨t,ht.1,rfl⟩,of_decide_eq_true ht.2⟩;rw[hL]at this;cases this
  rw[hk];have Sa:=S8.same s8a;have da:=d8.same s8a;have hsaa:=s8a _ _ hsa8;have hca:=s8a _ _ hc8;have ta:Tab (ts.map (·.2)) b (upd (upd H9 D9 (.lst (ks.map λz=>V.ref z.1))) p0 (.lst [])) kvs:=t8.same λa xs h=>s8a _ _ h;have s0a:SameD dd H (upd (upd H9 D9 (.lst (ks.map λz=>V.ref z.1))) p0 (.lst [])):=s08.trans (SameD.of s8a);generalize upd (upd H9 D9 (.lst (ks.map λz=>V.ref z.1))) p0 (.lst [])=Ha at Sa da hsaa hca ta s0a;have kl2:(putK kvs (kA x f) (.ref c.1)).length<sizeLine:=by
   have h1:=jZ kvs (kA x f) (.ref c.1);have h2:=t1.len R.g.len hst4 R.g.b16;exact Nat.lt_of_le_of_lt (show _<=20001 by omega) (by decide)
  cases hL:lacks (ts.map (·.2)) (x++[(f:Int)])
  case' false=>
   refine xU ?_;refine⟨_,rfl,rd,_,_,.ref dd,rfl,rfl,SqL.of Sa.hd,rfl,_,rfl,_,rfl,(by show 3<=sizeLine;decide),λqb hqb=>?_⟩;have mb2:=zr hqb (o:=.tup [.ref sa,.int f,.int 0]);refine⟨dd,_,kA x f,qb,rfl,da.same mb2,rfl,tupK hsaa hqb,kl2,λHb db cb=>?_⟩;rw[zb6 hv]at db;have nz:∀{a u},(upd Ha qb (.tup [.ref sa,.int f,.int 0])) a=some u->(∀φ,u≠.ext φ)->Hb a=some u:=λ{a u} h hu=>by
    rw[cb a (λz=>by
     obtain⟨_,e,_⟩:=da.same mb2;rw[z,e]at h;cases h;exact hu _ rfl)]
    exact h
   have tz0:∀a xs,Ha a=some (.tup xs)->Hb a=some (.tup xs):=λa xs h=>nz (mb2 _ _ h) (λ_ z=>nomatch z);have Sz:RdS Hb rd tl dd b ts:=⟨nz (mb2 _ _ Sa.hd) (λ_ z=>nomatch z),nz (mb2 _ _ Sa.li) (λ_ z=>nomatch z),λt h=>tz0 _ _ (Sa.st t h)⟩
   have hsaz:=tz0 _ _ hsaa;have av:AftV Hb (aft (ts.map (·.2)) x f) V.non:=by unfold aft;rw[if_neg (by rw[hL];exact Bool.false_ne_true)];rfl
   have dz:=db;have tz:=(ta.same tz0).put hv (.inl ⟨x,f,hx,hf,rfl,av⟩);have sz:SameD dd H Hb:=(s0a.trans (SameD.of mb2)).trans λa u ha h=>by rw[cb a ha];exact h
  case' true=>
   refine xF ?_;have Sz:=Sa;have hsaz:=hsaa;have av:AftV Ha (aft (ts.map (·.2)) x f) (V.ref c.1):=by unfold aft;rw[if_pos hL];exact⟨c.1,rfl,by rw[<-hc2];exact hca⟩
   have dz:=da;have tz:=ta.put hv (.inl ⟨x,f,hx,hf,rfl,av⟩);have sz:=s0a
  all_goals
   refine⟨_,rfl,rd,_,_,.ref dd,rfl,rfl,SqL.of Sz.hd,rfl,_,rfl,_,rfl,(by show 3<=sizeLine;decide),λqz hqz=>?_⟩;have mz:=zr hqz (o:=.tup [.ref sa,.int f,.int 0]);refine⟨dd,_,kA x f,qz,_,rfl,dz.same mz,rfl,tupK hsaz hqz,by rw[zaM,if_pos rfl],?_⟩;exact kk _ _ (sz.trans (SameD.of mz)) ⟨_,dz.same mz,tz.same λb xs e=>mz _ _ e⟩ (av.same λb xs e=>mz _ _ e)
end
theorem jK{A B:Prop}(hc:c=false)(h:B):if c=true then A else B:=by rw[hc];exact xF h
theorem Xq{A B:Prop}(hc:c=true)(h:A):if c=true then A else B:=by rw[hc];exact xU h
section
variable {P:Program} {w:World} {K:W.Frag} {mg:Str->Option Value} {base:Heap}
theorem Zu(ne:∀l∈ls,l≠[])(h:aft ls x c=some y):lacks ls (x++[c])=true/\y=zL ls (x++[c])/\X7 ls y:=by
 unfold aft at h;by_cases hl:lacks ls (x++[c])=true
 ·rw[if_pos hl]at h;cases h
  exact⟨hl,rfl,jz ne hl⟩
 ·rw[if_neg hl]at h;cases h
theorem Yu(h:aft ls x c=none):lacks ls (x++[c])=false:=by
 unfold aft at h;cases hl:lacks ls (x++[c]) with
 |false=>rfl
 |true=>rw[if_pos hl]at h;cases h
def ji(P:Program)(w:World)(N:Nat):Sp:=λvs H Q _=>Ex6 λrd tl dd b ts sa=>Ex2 λ(x:List Int) (t:Nat)=>vs=[.ref rd,.ref sa,.int t]/\t<N/\Rdr P w H rd tl dd b ts/\H sa=some (.tup (x.map V.int))/\X7 (ts.map (·.2)) x /\
 ∀H',SameD dd H H'->RdD P w H' dd (ts.map (·.2)) b->Q (.int (cnt (ts.map (·.2)) b t x:Nat)) H'
theorem uh:zF ["reader","stand","left","total","figure","behind"] ["reader","stand","left"] (zx xm):={}
theorem Xa{f f1:Addr}{fd fd1:FuncData}(D:Df K mg "_law_ways" xm Al f fd)(zJ:Df K mg "_law_after" zW Af f1 fd1)(T:Blt mg):∀N,N<=1000->FnOk P w K mg base CX0 (N+2) f fd Al (ji P w N)
  |0,_=>by
    refine D.fn.ok uh (λvs H Q E h=>?_) (λcdv A outer s H vs Q E hr h=>?_)
    · obtain⟨rd,tl,dd,b,ts,sa,x,t,rfl,ht,_⟩:=h;omega
    · obtain⟨rd,tl,dd,b,ts,sa,x,t,rfl,ht,_⟩:=h;omega
  |N+1,hN=>by
    have uA:=Xa D zJ T N (by omega);have xR:FnOk P w K mg base CX0 1 f1 fd1 Af (vC P w):=uv zJ T;have vY:=D;refine D.fn.ok uh (λvs H Q E h=>?_) (λcdv A outer s H vs Q E hr h=>?_)
    · obtain⟨rd,tl,dd,b,ts,sa,x,t,rfl,_⟩:=h;rfl
    obtain⟨rd,tl,dd,b,ts,sa,x,t,rfl,ht,R,hsa,hx,kk⟩:=h;have hst4:∀st∈ts.map (·.2),st.length<=4:=λst h=>(R.g.st st h).len;have ne:∀st∈ts.map (·.2),st≠[]:=λst h=>(R.g.st st h).ne;have tupK:∀{H1:Hp} {q:Addr},H1 sa=some (.tup (x.map V.int))->H1 q=none->NTup (upd H1 q (.tup [.ref sa,.int t])) (kW x t) q:=λ{H1 q} h hq=>⟨sa,zp,by rw[show (kW x t).1.map kV=x.map V.int from zew x];exact zr hq _ _ h⟩
    refine xO ?_;intro XX;let q1:Sq XX ((zq xm).drop 2):=⟨_,zu (zG (zcn (Xx hr) (zR (yJ K) (pv 0) zm (λ_ _=>rfl)) (wC (zf (pv 1) (zf (pv 2) zg))) (λ_ _=>rfl)))⟩
    let q2:Sq XX ((sb (zq xm) 1 true).drop 2):=⟨_,zu (JV (Xx hr) (zR (yJ K) (pv 0) zm (λ_ _=>rfl)) (wC (zf (pv 1) (zf (pv 2) zg))) (pv 3) rfl)⟩
    let q3:Sq XX ((sb (sb (zq xm) 1 true) 1 true).drop 1):=⟨_,zu (yG (zO jX (pv 5) xM (zM _))
            (zu (zA (i:=3) uh.nd rfl (Or.inl rfl) (zy ym (pv 3) (zE vY uA (hr.mono (by omega)) (zf (pv 0) (zf (pv 5) (zf (zy xT (pv 2) zm) zg)))))))
            zP)⟩
    let q4:Sq XX ((sb (zq xm) 1 true).drop 1):=⟨_,zj (xj PassesOwn.never rfl (yt rfl T.n_range (zf (zR (yJ K) (pv 0) zm (λ_ _=>rfl)) zg)) (zV (i:=4) uh.nd rfl (Or.inl rfl))
          (zj (zA (i:=5) uh.nd rfl (Or.inl rfl) (zE zJ xR (hr.mono (by omega)) (zf (pv 0) (zf (pv 1) (zf (pv 4) zg))))) q3.p)) q2.p⟩
    let q5:Sq XX ((zq xm).drop 1):=⟨_,zj (yG (zdX (Jr (Xx hr) (wC (zf (pv 1) (zf (pv 2) zg))) (zR (yJ K) (pv 0) zm (λ_ _=>rfl))) (by with_unfolding_all rfl))
        (zj (zA (i:=3) uh.nd rfl (Or.inl rfl) zm) q4.p)
        zP) q1.p⟩
    refine⟨_,(zj (yG (zO Zt (pv 2) zm (zM _))
        (zu (zG zm))
        zP) q5.p),?_⟩
    cases t with
    |zero=>exact⟨_,rfl,rfl,_,rfl,Xq (decide_eq_true rfl) (kk H (SameD.of (Same.refl _)) R.d)⟩
    |succ t=>
    refine⟨_,rfl,rfl,_,rfl,jK (decide_eq_false (λz=>by injection z with z;omega)) ?_⟩;refine⟨_,rfl,_,rfl,(by show 2<=sizeLine;decide),λq1 hq1=>?_⟩;have m1:=zr hq1 (o:=.tup [.ref sa,.int (t+1:Nat)]);have R1:=R.same m1;obtain⟨kvs,d1,t1⟩:=R1.d;have nt1:=tupK hsa hq1;have hsa1:=m1 _ _ hsa;generalize upd H q1 (.tup [.ref sa,.int (t+1:Nat)])=H1 at m1 R1 d1 t1 nt1 hsa1;have m0:SameD dd H H1:=SameD.of m1;refine⟨_,rfl,rd,_,_,.ref dd,rfl,rfl,SqL.of R1.s.hd,rfl,dd,kvs,kW x (t+1),q1,rfl,d1,rfl,nt1,_,rfl,?_⟩;cases hv:vL kvs (kW x (t+1)) with
    |some v=>
      refine xF ?_;refine⟨_,rfl,rd,_,_,.ref dd,rfl,rfl,SqL.of R1.s.hd,rfl,_,rfl,_,rfl,(by show 2<=sizeLine;decide),λq2 hq2=>?_⟩;have m2:=zr hq2 (o:=.tup [.ref sa,.int (t+1:Nat)]);refine⟨dd,kvs,kW x (t+1),q2,v,rfl,d1.same m2,rfl,tupK hsa1 hq2,hv,?_⟩;rw[t1.way hv];exact kk _ (m0.trans (SameD.of m2)) ⟨kvs,d1.same m2,t1.same λb xs e=>m2 _ _ e⟩
    |none=>
    refine xU ?_;refine⟨_,rfl,rd,_,_,.int b,rfl,rfl,SqL.of R1.s.hd,rfl,(b:Int),rfl,by have:=R.g.b16;omega,by have:=R.g.b16;omega,yP (lo:=0) (n:=(b:Int).toNat) (λi Z Hc=>∃v4 v5:Option V,Z=[some (.ref rd),some (.ref sa),some (.int (t+1:Nat)),some (.int (under (ts.map (·.2)) b t (some x) i:Nat)),v4,v5]/\Rdr P w Hc rd tl dd b ts/\SameD dd H1 Hc) ⟨_,_,rfl,R1,SameD.of (Same.refl _)⟩ ?_ ?_⟩
    · rintro i Z Hc hi ⟨v4,v5,rfl,Rc,sc⟩
      have hib:i<b:=by omega
      have hsac:=sc _ _ (R1.tup hsa1) hsa1;refine⟨_,rfl,_,rfl,_,rfl,rd,tl,dd,b,ts,sa,x,i,by rw[Int.zero_add];rfl,Rc,hsac,hx,hib,λv Hd sd rdd av=>?_⟩;have Rd:=Rc.sameD sd rdd;cases ha:aft (ts.map (·.2)) x (i:Nat) with
      |none=>
        rw[ha]at av;obtain rfl:v=.non:=av;refine⟨_,rfl,rfl,_,rfl,jK (by rw[decide_eq_true rfl];rfl) ⟨some (.int (0+(i:Int))),some .non,?_,Rd,sc.trans sd⟩⟩;rw[uD,show Yc (ts.map (·.2)) b t (some x) i=0 by show (if lacks (ts.map (·.2)) (x++[(i:Int)])=true then _ else 0)=0;rw[if_neg (by rw[Yu ha];exact Bool.false_ne_true)],Nat.add_zero];rfl
      |some y=>
        rw[ha]at av;obtain⟨c,rfl,hc⟩:=av;obtain⟨hl,hy,hys⟩:=Zu ne ha;refine⟨_,rfl,rfl,_,rfl,Xq (by rw[decide_eq_false (λz=>by cases z)];rfl) ?_⟩;refine⟨_,rfl,_,rfl,_,rfl,_,rfl,_,_,rfl,rfl,rd,tl,dd,b,ts,c,y,t,by dsimp only;rw[show (((t+1:Nat):Int)-1)=(t:Int) by omega];rfl,by omega,Rd,hc,hys,λHe se re=>⟨_,_,rfl,rfl,?_⟩⟩;refine⟨some (.int (0+(i:Int))),some (.ref c),?_,Rd.sameD se re,(sc.trans sd).trans se⟩;rw[uD,show Yc (ts.map (·.2)) b t (some x) i=cnt (ts.map (·.2)) b t y by show (if lacks (ts.map (·.2)) (x++[(i:Int)])=true then _ else 0)=_;rw[if_pos hl,hy],Int.natCast_add];rfl
    · rintro Z Hc ⟨v4,v5,rfl,Rc,sc⟩
      have hsac:=sc _ _ (R1.tup hsa1) hsa1;obtain⟨ks,dc,tc⟩:=Rc.d;rw[show (b:Int).toNat=b by omega,Ji];refine⟨_,rfl,_,rfl,rd,_,_,.ref dd,rfl,rfl,SqL.of Rc.s.hd,rfl,_,rfl,_,rfl,(by show 2<=sizeLine;decide),λq3 hq3=>?_⟩;have m3:=zr hq3 (o:=.tup [.ref sa,.int (t+1:Nat)]);refine⟨dd,ks,kW x (t+1),q3,rfl,dc.same m3,rfl,tupK hsac hq3,Nat.lt_of_le_of_lt (tc.len R.g.len hst4 R.g.b16) (by decide),λH4 d4 c4=>?_⟩;have R3:=Rc.same m3;have hsa3:=m3 _ _ hsac;have t3:Tab (ts.map (·.2)) b (upd Hc q3 (.tup [.ref sa,.int (t+1:Nat)])) ks:=tc.same λb xs e=>m3 _ _ e;have s3:SameD dd H (upd Hc q3 (.tup [.ref sa,.int (t+1:Nat)])):=(m0.trans sc).trans (SameD.of m3);generalize upd Hc q3 (.tup [.ref sa,.int (t+1:Nat)])=H3 at R3 hsa3 t3 s3 c4;have s34:SameD dd H3 H4:=λa u ha h=>by rw[c4 a ha];exact h
      have tp34:∀a xs,H3 a=some (.tup xs)->H4 a=some (.tup xs):=λa xs h=>s34 _ _ (R3.tup h) h;have t4:=(t3.same tp34).put2 (k:=kW x (t+1)) (v:=.int (cnt (ts.map (·.2)) b (t+1) x:Nat)) (.inr ⟨x,t+1,hx,by omega,by omega,rfl,rfl⟩);have S4:=R3.s.sameD R3.d s34;refine⟨_,rfl,rd,_,_,.ref dd,rfl,rfl,SqL.of S4.hd,rfl,_,rfl,_,rfl,(by show 2<=sizeLine;decide),λq5 hq5=>?_⟩;have m5:=zr hq5 (o:=.tup [.ref sa,.int (t+1:Nat)]);refine⟨dd,_,kW x (t+1),q5,_,rfl,d4.same m5,rfl,tupK (tp34 _ _ hsa3) hq5,by rw[zaM,if_pos rfl],?_⟩;exact kk _ ((s3.trans s34).trans (SameD.of m5)) ⟨_,d4.same m5,t4.same λb xs e=>m5 _ _ e⟩
structure RowsAt (H:Hp) (l:Addr) (ls:ZA) (b t:Nat) (x:List Int) (cs:List Nat) (rows:List (Addr×Addr×Nat)):Prop where
 li:H l=some (.lst (rows.map λr=>V.ref r.1))
 fg:rows.map (·.2.2)=cs
 ro:∀r∈rows,H r.1=some (.tup [.int r.2.2,.ref r.2.1,.int (cnt ls b t (zL ls (x++[(r.2.2:Int)])):Nat)])/\H r.2.1=some (.tup ((zL ls (x++[(r.2.2:Int)])).map V.int))
theorem RowsAt.sameD(R:RowsAt H l ls b t x cs rows)(Rr:Rdr P w H rd tl dd b' ts)(s:SameD dd H H'):RowsAt H' l ls b t x cs rows :=
 ⟨s _ _ (Rr.d.ne R.li λ_ z=>nomatch z) R.li,R.fg,λr hr=>⟨s _ _ (Rr.tup (R.ro r hr).1) (R.ro r hr).1,s _ _ (Rr.tup (R.ro r hr).2) (R.ro r hr).2⟩⟩
theorem WW{α:Type}(f:α->Nat):∀l:List α,(l.map λr=>((f r:Nat):Int)).sum=(((l.map f).sum:Nat):Int)
 |[]=>rfl
 |a::l=>by rw[List.map_cons,List.sum_cons,List.map_cons,List.sum_cons,WW f l,Int.natCast_add]
theorem RowsAt.sum(R:RowsAt H l ls b t x (xX ls x a n) rows):(rows.map λr=>((cnt ls b t (zL ls (x++[(r.2.2:Int)])):Nat):Int)).sum=((uP ls b t x a n:Nat):Int):=by
 rw[WW (λr:Addr×Addr×Nat=>cnt ls b t (zL ls (x++[(r.2.2:Int)]))) rows];unfold uP;rw[<-R.fg,List.map_map];rfl
theorem RowsAt.len(R:RowsAt H l ls b t x (xX ls x a n) rows):rows.length<=n:=by
 have:=congrArg List.length R.fg;rw[List.length_map]at this;rw[this];exact Nat.le_trans (List.length_filter_le _ _) (by rw[List.length_map,List.length_range];exact Nat.le_refl _)
def xn(P:Program)(w:World)(N:Nat):Sp:=λvs H Q _=>Ex6 λrd tl dd b ts sa=>Ex4 λ(x:List Int) (a:Nat) (n:Nat) (t:Nat)=>vs=[.ref rd,.ref sa,.int a,.int ((a+n:Nat):Int),.int t]/\t<N/\a+n<=b/\Rdr P w H rd tl dd b ts/\H sa=some (.tup (x.map V.int))/\X7 (ts.map (·.2)) x /\
 ∀l rows H',H l=none->RowsAt H' l (ts.map (·.2)) b t x (xX (ts.map (·.2)) x a n) rows->SameD dd H H'->RdD P w H' dd (ts.map (·.2)) b->Q (.ref l) H'
theorem tD:zF ["reader","stand","first","end","left","found","figure","behind"] ["reader","stand","first","end","left"] (zx yo):={}
theorem VN(D:Df K mg "_law_firsts" yo Ag f fd)(zJ:Df K mg "_law_after" zW Af f1 fd1)(vY:Df K mg "_law_ways" xm Al f2 fd2)(uA:FnOk P w K mg base CX0 (N+2) f2 fd2 Al (ji P w N))(T:Blt mg):FnOk P w K mg base CX0 (N+3) f fd Ag (xn P w N):=by
 have xR:FnOk P w K mg base CX0 1 f1 fd1 Af (vC P w):=uv zJ T;refine D.fn.ok tD (λvs H Q E h=>?_) (λcdv A outer s H vs Q E hr h=>?_)
 ·obtain⟨rd,tl,dd,b,ts,sa,x,a,n,t,rfl,_⟩:=h;rfl
 ·obtain⟨rd,tl,dd,b,ts,sa,x,a,n,t,rfl,ht,hab,R,hsa,hx,kk⟩:=h;have ne:∀st∈ts.map (·.2),st≠[]:=λst h=>(R.g.st st h).ne;have b16:=R.g.b16;refine xO ?_;intro XX;let q1:Sq XX ((zq yo).drop 2):=⟨_,zu (zG (pv 5))⟩
  let q2:Sq XX ((sb (zq yo) 1 true).drop 1):=⟨_,zu (yG (zO jX (pv 7) xM (zM _))
     (zu (wI (Yj PySem.F.plainAttrs_list PySem.F.slot_list_append PySem.F.type_list_append vB (pv 5) (zf (wC (zf (pv 6) (zf (pv 7) (zf (zE vY uA (hr.mono (by omega)) (zf (pv 0) (zf (pv 7) (zf (pv 4) zg)))) zg)))) zg))))
     zP)⟩
  let q3:Sq XX ((zq yo).drop 1):=⟨_,zj (xj PassesOwn.never rfl (YL rfl T.n_range (zf (pv 2) (zf (pv 3) zg))) (zV (i:=6) tD.nd rfl (Or.inl rfl))
    (zj (zA (i:=7) tD.nd rfl (Or.inl rfl) (zE zJ xR (hr.mono (by omega)) (zf (pv 0) (zf (pv 1) (zf (pv 6) zg))))) q2.p)) q1.p⟩
  refine⟨_,(zj (zA (i:=5) tD.nd rfl (Or.inl rfl) (yc zg)) q3.p),?_⟩;refine⟨(by decide:0<=sizeLine),λl hl=>?_⟩;have m0:=zr hl (o:=.lst []);refine⟨_,rfl,_,rfl,(a:Int),((a+n:Nat):Int),rfl,by omega,?_⟩;rw[show (((a+n:Nat):Int)-(a:Int)).toNat=n by omega];refine yP (lo:=(a:Int)) (n:=n) (λi Z Hc=>∃(v6 v7:Option V) (rows:List (Addr×Addr×Nat)),Z=[some (.ref rd),some (.ref sa),some (.int a),some (.int ((a+n:Nat):Int)),some (.int t),some (.ref l),v6,v7]/\Rdr P w Hc rd tl dd b ts/\SameD dd H Hc/\RowsAt Hc l (ts.map (·.2)) b t x (xX (ts.map (·.2)) x a i) rows/\rows.length<=i)
   ⟨_,_,[],rfl,R.same m0,SameD.of m0,⟨zp,rfl,by simp⟩,Nat.zero_le _⟩ ?_ ?_
  ·rintro i Z Hc hi ⟨v6,v7,rows,rfl,Rc,sc,Wc,hlen⟩;have hib:a+i<b:=by omega
   have hsac:=sc _ _ (R.tup hsa) hsa;have hai:(a:Int)+(i:Int)=((a+i:Nat):Int):=by omega
   refine⟨_,rfl,_,rfl,_,rfl,rd,tl,dd,b,ts,sa,x,a+i,by rw[hai];rfl,Rc,hsac,hx,hib,λv Hd sd rdd av=>?_⟩;have Rd:=Rc.sameD sd rdd;have Wd:=Wc.sameD Rc sd;cases ha:aft (ts.map (·.2)) x (a+i:Nat) with
   |none=>
    rw[ha]at av;obtain rfl:v=.non:=av;refine⟨_,rfl,rfl,_,rfl,jK (by rw[decide_eq_true rfl];rfl) ⟨_,_,rows,rfl,Rd,sc.trans sd,?_,by omega⟩⟩;rw[jM,if_neg (by rw[Yu ha];exact Bool.false_ne_true),List.append_nil];exact Wd
   |some y=>
    rw[ha]at av;obtain⟨c,rfl,hc⟩:=av;obtain⟨hl',hy,hys⟩:=Zu ne ha;refine⟨_,rfl,rfl,_,rfl,Xq (by rw[decide_eq_false (λz=>by cases z)];rfl) ?_⟩;refine⟨_,rfl,.inl ⟨rfl,_,SqL.of Wd.li⟩,_,rfl,_,rfl,_,rfl,_,rfl,_,rfl,rd,tl,dd,b,ts,c,y,t,rfl,ht,Rd,hc,hys,λHe se re=>⟨(by show 3<=sizeLine;decide),λp hp=>?_⟩⟩;have Re:=Rd.sameD se re;have We:=Wd.sameD Rd se;have hce:=se _ _ (Rd.tup hc) hc;have m1:=zr hp (o:=.tup [.int ((a:Int)+(i:Int)),.ref c,.int (cnt (ts.map (·.2)) b t y:Nat)]);have npl:p≠l:=λz=>by rw[z,We.li]at hp;cases hp
    refine⟨l,_,_,rfl,rfl,m1 _ _ We.li,by rw[List.length_map];exact Nat.lt_of_le_of_lt (show rows.length<=16 by omega) (by decide),?_⟩;have ndl:l≠dd:=Re.d.ne We.li λ_ z=>nomatch z;have ct:∀{z o},He z=some o->z≠l->upd (upd He p (.tup [.int ((a:Int)+(i:Int)),.ref c,.int (cnt (ts.map (·.2)) b t y:Nat)])) l (.lst (rows.map (λr=>V.ref r.1)++[.ref p])) z=some o:=λ{z o} h hz=>by rw[zB hz];exact m1 _ _ h
    have tupl:∀{z xs},He z=some (.tup xs)->z≠l:=λ{z xs} h q=>by rw[q,We.li]at h;cases h
    obtain⟨kvs,dk,tb⟩:=Re.d;have R2:Rdr P w (upd (upd He p (.tup [.int ((a:Int)+(i:Int)),.ref c,.int (cnt (ts.map (·.2)) b t y:Nat)])) l (.lst (rows.map (λr=>V.ref r.1)++[.ref p]))) rd tl dd b ts:=by
     have nl:∀z,H z≠none->z≠l:=λz h q=>h (by rw[q];exact hl);refine⟨⟨ct Re.s.hd (nl _ (by rw[R.s.hd];exact λz=>nomatch z)),ct Re.s.li (nl _ (by rw[R.s.li];exact λz=>nomatch z)),λt ht=>ct (Re.s.st t ht) (tupl (Re.s.st t ht))⟩,⟨kvs,dk.stay (by rw[zB ndl.symm];exact zB (λz=>by rw[<-z]at hp;obtain⟨_,e,_⟩:=dk;rw[e]at hp;cases hp)) (λz xs h=>ct h (tupl h)),tb.same λz xs h=>ct h (tupl h)⟩,R.g⟩
    refine⟨_,_,rows++[(p,c,a+i)],rfl,R2,λz u hz h=>?_,⟨by rw[zp,List.map_append];rfl,by rw[List.map_append,We.fg,jM,if_pos hl'];rfl,λr hr=>?_⟩,by rw[List.length_append,List.length_singleton];omega⟩
    ·exact ct (((sc.trans sd).trans se) z u hz h) (λq=>by rw[q,hl]at h;cases h)
    ·rcases List.mem_append.mp hr with hr | hr
     ·exact⟨ct (We.ro r hr).1 (tupl (We.ro r hr).1),ct (We.ro r hr).2 (tupl (We.ro r hr).2)⟩
     ·rw[List.mem_singleton.mp hr];refine⟨?_,?_⟩
      ·rw[zB npl,zp,hai,hy]
      ·rw[hy]at hce;exact ct hce (tupl hce)
  ·rintro Z Hc ⟨v6,v7,rows,rfl,Rc,sc,Wc,hlen⟩;exact⟨_,rfl,kk l rows Hc hl Wc sc Rc.d⟩
def w6(P:Program)(w:World)(N:Nat):Sp:=λvs H Q _=>Ex6 λrd tl dd b ts t=>vs=[.ref rd,.int ((t+1:Nat):Int)]/\t<N/\Rdr P w H rd tl dd b ts/\∀H',SameD dd H H'->RdD P w H' dd (ts.map (·.2)) b->Q (.int (ww (ts.map (·.2)) b t:Nat)) H'
theorem J1:zF ["reader","length"] ["reader","length"] (zx xN):={}
theorem QL(D:Df K mg "_law_long" xN Ah f fd)(ye:Df K mg "_law_firsts" yo Ag f1 fd1)(yl:FnOk P w K mg base CX0 (N+3) f1 fd1 Ag (xn P w N))(T:Blt mg)(U:Wu mg):FnOk P w K mg base CX0 (N+4) f fd Ah (w6 P w N):=by
 refine D.fn.ok J1 (λvs H Q E h=>?_) (λcdv A outer s H vs Q E hr h=>?_)
 ·obtain⟨rd,tl,dd,b,ts,t,rfl,_⟩:=h;rfl
 ·obtain⟨rd,tl,dd,b,ts,t,rfl,ht,R,kk⟩:=h;have b2:=R.g.b2;have b16:=R.g.b16;refine⟨_,(zu (zG (zz (za9 K rfl) (by rfl) U.n_sum boot_sum (zf (zbr (show CScopeT (zx xN) _ ["figure","behind","many"] ["reader","length"] [] [] from {}) rfl (je K (zE ye yl (hr.mono (by omega)) (zf (pv 0) (zf (wC zg) (zf zm (zf (zR (yJ K) (pv 0) zm (λ_ _=>rfl)) (zf (zy xT (pv 1) zm) zg))))))) (λ_ _ _ _=>(zer K 3 rfl (wN (zV (i:=0) (show List.Nodup (α:=Str) ["figure","behind","many"] by decide) rfl (.inl (lookup_relabel_local rfl)) (.inr (lookup_relabel_local rfl))) (wN (zV (i:=1) (show List.Nodup (α:=Str) ["figure","behind","many"] by decide) rfl (.inl (lookup_relabel_local rfl)) (.inr (lookup_relabel_local rfl))) (wN (zV (i:=2) (show List.Nodup (α:=Str) ["figure","behind","many"] by decide) rfl (.inl (lookup_relabel_local rfl)) (.inr (lookup_relabel_local rfl))) X8))))) (λ_ _ _ _=>yX) (λ_ _ _ _=>(pv 2))) zg)))),?_⟩;refine⟨_,rfl,(by decide),λe0 he0=>?_⟩;have m0:=zr he0 (o:=.tup []);have R0:=R.same m0;refine⟨_,rfl,rd,_,_,.int b,rfl,rfl,SqL.of R0.s.hd,rfl,_,rfl,_,_,rfl,rfl,?_⟩;refine⟨rd,tl,dd,b,ts,e0,[],1,b-1,t,by dsimp only;rw[show (((t+1:Nat))-1)=(t:Int) by omega,show 1+(b-1)=b by omega];rfl,ht,by omega,R0,zp,.inl rfl,λl rows H1 hl W1 s1 r1=>?_⟩;have R1:=R0.sameD s1 r1;refine⟨l,rfl,⟨_,SqL.of W1.li⟩,Ub (λi ys Hc=>ys=((rows.take i).map λr=>((cnt (ts.map (·.2)) b t (zL (ts.map (·.2)) ([]++[(r.2.2:Int)])):Nat):Int)).map V.int/\Hc=H1) ⟨rfl,rfl⟩ (λi ys Hc _ ⟨_,e⟩=>by rw[e];exact SqL.of W1.li) ?_ ?_⟩
  ·rintro i v ys Hc hi ⟨rfl,rfl⟩;rw[List.getElem?_map]at hi;obtain⟨r,hri,e⟩:=Option.map_eq_some_iff.mp hi;subst e;have hrm:=List.mem_of_getElem? hri;refine⟨by rw[List.length_map,List.length_map,List.length_take];exact Nat.lt_of_le_of_lt (show min i rows.length<=16 by have:=W1.len;omega) (by decide),?_⟩;refine⟨r.1,_,rfl,SqT.of (W1.ro r hrm).1,rfl,_,_,rfl,_,_,rfl,_,_,rfl,rfl,⟨[some (.int r.2.2),some (.ref r.2.1),some (.int (cnt (ts.map (·.2)) b t (zL (ts.map (·.2)) ([]++[(r.2.2:Int)]))))],rfl,rfl⟩,?_⟩;refine⟨_,rfl,?_,rfl⟩;rw[List.take_succ,hri,Option.toList_some,List.map_append,List.map_append];rfl
  ·rintro ys Hc ⟨rfl,rfl⟩ Dd hD;rw[List.length_map,List.take_length];refine⟨Dd,_,rfl,SqL.of zp,?_⟩;have mD:=zr hD (o:=.lst ((rows.map λr=>((cnt (ts.map (·.2)) b t (zL (ts.map (·.2)) ([]++[(r.2.2:Int)])):Nat):Int)).map V.int));have q:=kk _ (((SameD.of m0).trans s1).trans (SameD.of mD)) (R1.d.same mD);have e:(rows.map λr=>((cnt (ts.map (·.2)) b t (zL (ts.map (·.2)) ([]++[(r.2.2:Int)])):Nat):Int)).sum=((ww (ts.map (·.2)) b t:Nat)):=by
    exact W1.sum
   rw[e];exact q
theorem zaA(D:Df K mg "_law_ways" xm Al f fd)(zJ:Df K mg "_law_after" zW Af f1 fd1)(T:Blt mg):FnOk P w K mg base CX0 207 f fd Al (ji P w 205):=by
 exact Xa D zJ T 205 (by decide)
theorem Qg(D:Df K mg "_law_firsts" yo Ag f fd)(zJ:Df K mg "_law_after" zW Af f1 fd1)(vY:Df K mg "_law_ways" xm Al f2 fd2)(uA:FnOk P w K mg base CX0 207 f2 fd2 Al (ji P w 205))(T:Blt mg):FnOk P w K mg base CX0 208 f fd Ag (xn P w 205):=by
 exact VN D zJ vY uA T
theorem JN(D:Df K mg "_law_long" xN Ah f fd)(ye:Df K mg "_law_firsts" yo Ag f1 fd1)(yl:FnOk P w K mg base CX0 208 f1 fd1 Ag (xn P w 205))(T:Blt mg)(U:Wu mg):FnOk P w K mg base CX0 209 f fd Ah (w6 P w 205):=by
 exact QL D ye yl T U
def vq:Sp:=λvs H Q _=>Ex2 λ(b:Nat) (n:Nat)=>vs=[.int b,.int n]/\2<=b/\b<=16/\n<2^900 /\
 ∀l H',H l=none->H' l=some (.lst ((zT b n).map V.int))->Same H H'->Q (.ref l) H'
theorem qO:zF ["base","n","found"] ["base","n"] (zx yw):={}
theorem uy(D:Df K mg "_law_figures" yw Ae f fd)(T:Blt mg):FnOk P w K mg base CX0 1 f fd Ae vq:=by
 refine D.fn.ok qO (λvs H Q E h=>?_) (λcdv A outer s H vs Q E hr h=>?_)
 ·obtain⟨b,n,rfl,_⟩:=h;rfl
 ·obtain⟨b,n,rfl,h2,h16,hn,k⟩:=h;refine xO ?_;intro XX;let q1:Sq XX ((zq yw).drop 2):=⟨_,zu (zG (Vy (pv 2)))⟩
  let q2:Sq XX ((sb (zq yw) 1 true).drop 1):=⟨_,zu (wI (Yj PySem.F.plainAttrs_list PySem.F.slot_list_append PySem.F.type_list_append vB (pv 2) (zf (zy yh (pv 1) (pv 0)) zg)))⟩
  let q3:Sq XX ((zq yw).drop 1):=⟨_,zj (Yz PassesOwn.never (zO zbp (pv 1) (pv 0) (zM _))
    (zj (zA (i:=1) qO.nd rfl (Or.inl rfl) (zy vJ (pv 1) (pv 0))) q2.p)) q1.p⟩
  refine⟨_,(zj (zA (i:=2) qO.nd rfl (Or.inl rfl) (yc (zf (zy yh (pv 1) (pv 0)) zg))) q3.p),?_⟩;refine⟨_,rfl,_,rfl,_,_,rfl,rfl,(by omega),(by decide:1<=sizeLine),λl hl=>?_⟩;have hlen:=vX h2 900 n hn;refine Yt (λZ H2=>∃(r:Nat) (L:List Int),Z=[some (.int b),some (.int r),some (.ref l)]/\H2 l=some (.lst (L.map V.int))/\Same H H2/\zT b n=ahead b (r / b)++L.reverse)
   (λZ _=>match Z with | [_,some (.int r),_]=>r.toNat | _=>0) ?_ ?_ ?_
  ·refine⟨n,[((n % b:Nat))],rfl,?_,zr hl,?_⟩
   ·rw[zp];simp
   ·rw[W3 h2];simp
  ·rintro Z H2 ⟨r,L,rfl,hL,sH,he⟩;refine⟨_,rfl,_,rfl,_,_,rfl,rfl,_,rfl,?_⟩;refine Vb (λh1=>?_) (λh1=>?_)
   ·have hr0:b<=r:=by have:=of_decide_eq_true h1;omega
    have hrb:=Nat.div_pos hr0 (by omega);have hLl:L.length<=901:=by
     have:=congrArg List.length he;rw[List.length_append,List.length_reverse]at this;omega
    refine⟨_,rfl,_,rfl,_,_,rfl,rfl,⟨by omega,by omega⟩,?_⟩;refine⟨_,rfl,.inl ⟨rfl,_,SqL.of hL⟩,_,rfl,_,rfl,_,_,rfl,rfl,(by omega),l,_,_,rfl,rfl,hL,by rw[List.length_map];exact Nat.lt_of_le_of_lt hLl (by decide),?_⟩;refine⟨⟨r / b,L++[((r / b % b:Nat):Int)],?_,?_,?_,?_⟩,?_⟩
    ·simp
    ·rw[zp];simp
    ·exact λb' o e=>by rw[zB (zK e hl)];exact sH b' o e
    ·rw[he,UJ h2 hrb,List.reverse_append];simp
    ·show (r / (b:Int)).toNat<(r:Int).toNat;have:r / b<r:=Nat.div_lt_self (by omega) (by omega);omega
   ·have hr0:r<b:=by
     by_cases z:r<b
     ·exact z
     ·exact absurd (decide_eq_true (by omega)) h1
    refine⟨_,rfl,l,_,rfl,SqL.of hL,λq hq=>?_⟩;refine k q _ (sH.free hq) ?_ (sH.trans (zr hq));rw[zp,he,Nat.div_eq_of_lt hr0];simp[ahead]
  ·intro Z H2 Q Q' hq;rintro⟨v,e,v2,e2,i,j,e3,e4,k,e5,q⟩;exact⟨v,e,v2,e2,i,j,e3,e4,k,e5,hq _ _ q⟩
def qu(P:Program)(w:World)(N:Nat):Sp:=λvs H Q _=>Ex6 λ(rd:Addr) (tl:Addr) (dd:Addr) (b:Nat) (ts:ZB) (n:Nat)=>vs=[.ref rd,.int n]/\n<2^900/\(zT b n).length<=N/\Rdr P w H rd tl dd b ts/\∀H',SameD dd H H'->RdD P w H' dd (ts.map (·.2)) b->Q (.int (many (gd (ts.map (·.2)) b) n:Nat)) H'
theorem yF:zF ["reader","n","figures","total","stand","at","own","left","rows"] ["reader","n"] (zx yd):={}
set_option maxHeartbeats 0 in
theorem V8(D:Df K mg "_law_below" yd Am f fd)(zN:Df K mg "_law_figures" yw Ae f1 fd1)(zJ:Df K mg "_law_after" zW Af f2 fd2)(ye:Df K mg "_law_firsts" yo Ag f3 fd3)(yl:FnOk P w K mg base CX0 (N+3) f3 fd3 Ag (xn P w N))(yz:Df K mg "_law_long" xN Ah f4 fd4)(yH:FnOk P w K mg base CX0 (N+4) f4 fd4 Ah (w6 P w N))(T:Blt mg)(U:Wu mg):FnOk P w K mg base CX0 (N+5) f fd Am (qu P w N):=by
 have xQ:FnOk P w K mg base CX0 1 f1 fd1 Ae vq:=uy zN T;have xR:FnOk P w K mg base CX0 1 f2 fd2 Af (vC P w):=uv zJ T;refine D.fn.ok yF (λvs H Q E h=>?_) (λcdv A outer s H vs Q E hr h=>?_)
 ·obtain⟨rd,tl,dd,b,ts,n,rfl,_⟩:=h;rfl
 ·obtain⟨rd,tl,dd,b,ts,n,rfl,hn,hN,R,kk⟩:=h;have b2:=R.g.b2;have b16:=R.g.b16;have ne:∀st∈ts.map (·.2),st≠[]:=λst h=>(R.g.st st h).ne;have h901:=vX b2 900 n hn;refine xO ?_;intro XX;let q1:Sq XX ((zq yd).drop 6):=⟨_,zu (zG (pv 3))⟩
  let q2:Sq XX ((sb (sb (zq yd) 5 true) 1 true).drop 2):=⟨_,zu (zA (i:=4) yF.nd rfl (Or.inl rfl) (zE zJ xR (hr.mono (by omega)) (zf (pv 0) (zf (pv 4) (zf (pv 6) zg)))))⟩
  let q3:Sq XX ((sb (sb (zq yd) 5 true) 1 true).drop 1):=⟨_,zj (zA (i:=3) yF.nd rfl (Or.inl rfl) (zy ym (pv 3) (zz (za9 K rfl) (by rfl) U.n_sum boot_sum (zf (zbr (show CScopeT (zx yd) _ ["figure","behind","many"] ["reader","n","figures","total","stand","at","own","left","rows"] [] [] from {}) rfl (je K (pv 8)) (λ_ _ _ _=>(zer K 3 rfl (wN (zV (i:=0) (show List.Nodup (α:=Str) ["figure","behind","many"] by decide) rfl (.inl (lookup_relabel_local rfl)) (.inr (lookup_relabel_local rfl))) (wN (zV (i:=1) (show List.Nodup (α:=Str) ["figure","behind","many"] by decide) rfl (.inl (lookup_relabel_local rfl)) (.inr (lookup_relabel_local rfl))) (wN (zV (i:=2) (show List.Nodup (α:=Str) ["figure","behind","many"] by decide) rfl (.inl (lookup_relabel_local rfl)) (.inr (lookup_relabel_local rfl))) X8))))) (λ_ _ _ _=>yX) (λ_ _ _ _=>(pv 2))) zg)))) q2.p⟩
  let q4:Sq XX ((sb (zq yd) 5 true).drop 1):=⟨_,zu (yG (zO jX (pv 4) xM (zM _))
     (zj (zA (i:=8) yF.nd rfl (Or.inl rfl) (zE ye yl (hr.mono (by omega)) (zf (pv 0) (zf (pv 4) (zf (wM tZ (by rfl) T.n_int boot_int (zf (xr Zt (pv 5) zm (zM _)) zg)) (zf (pv 6) (zf (pv 7) zg))))))) q3.p)
     zP)⟩
  let q5:Sq XX ((zq yd).drop 5):=⟨_,zj (xj PassesOwn.never rfl (zcL K rfl T.n_enumerate (zf (pv 2) zg)) (zab rfl (wN (zV (i:=5) yF.nd rfl (Or.inl rfl)) (wN (zV (i:=6) yF.nd rfl (Or.inl rfl)) X8)))
    (zj (zA (i:=7) yF.nd rfl (Or.inl rfl) (zy xT (zy xT (zz (wy K) (by rfl) T.n_len PySem.boot_len (zf (pv 2) zg)) zm) (pv 5))) q4.p)) q1.p⟩
  let q6:Sq XX ((zq yd).drop 4):=⟨_,zj (zA (i:=4) yF.nd rfl (Or.inl rfl) (wC zg)) q5.p⟩
  let q7:Sq XX ((zq yd).drop 3):=⟨_,zj (zA (i:=3) yF.nd rfl (Or.inl rfl) (zy ym (pv 3) (zz (za9 K rfl) (by rfl) U.n_sum boot_sum (zf (yV (show CScope (zx yd) _ "length" ["reader","n","figures","total","stand","at","own","left","rows"] ["reader"] [0] from {}) rfl (YL rfl T.n_range (zf zm (zf (zz (wy K) (by rfl) T.n_len PySem.boot_len (zf (pv 2) zg)) zg))) (λ_ _ _ _=>yX) (λ_ _ _ _=>(zE yz yH (hr.mono (by omega)) (zf (pv 1) (zf (pv 0) zg))))) zg)))) q6.p⟩
  let q8:Sq XX ((zq yd).drop 2):=⟨_,zj (zA (i:=3) yF.nd rfl (Or.inl rfl) (wM tZ (by rfl) T.n_int boot_int (zf (xr jX (zE zJ xR (hr.mono (by omega)) (zf (pv 0) (zf (wC zg) (zf zm zg)))) xM (zM _)) zg))) q7.p⟩
  let q9:Sq XX ((zq yd).drop 1):=⟨_,zj (yG (zO Zt (pv 1) zm (zM _))
    (zu (zG zm))
    zP) q8.p⟩
  refine⟨_,(zj (zA (i:=2) yF.nd rfl (Or.inl rfl) (zE zN xQ (hr.mono (by omega)) (zf (zR (yJ K) (pv 0) zm (λ_ _=>rfl)) (zf (pv 1) zg)))) q9.p),?_⟩;refine⟨_,rfl,rd,_,_,.int b,rfl,rfl,SqL.of R.s.hd,rfl,_,rfl,b,n,rfl,b2,b16,hn,λl H1 hl hL s1=>?_⟩;have R1:=R.same s1;obtain⟨L,eL⟩:∃L,(zT b n).length=L:=⟨_,rfl⟩
  by_cases hn0:n=0
  ·subst hn0;exact⟨_,rfl,rfl,_,rfl,Xq (decide_eq_true rfl) (kk H1 (SameD.of s1) R1.d)⟩
  have hL1:1<=L:=by rw[<-eL];exact List.length_pos_iff.mpr Wq
  refine⟨_,rfl,rfl,_,rfl,jK (decide_eq_false (λz=>by injection z with z;omega)) ?_⟩;refine⟨_,rfl,(by decide:0<=sizeLine),λe0 he0=>?_⟩;have m2:=zr he0 (o:=.tup []);have R2:=R1.same m2;refine⟨rd,tl,dd,b,ts,e0,[],0,rfl,R2,zp,.inl rfl,by omega,λv H3 s3 r3 av=>?_⟩;have R3:=R2.sameD s3 r3;have s13:SameD dd H1 H3:=(SameD.of m2).trans s3;have hL3:=s13 _ _ (R1.d.ne hL λ_ z=>nomatch z) hL;have s03:SameD dd H H3:=(SameD.of s1).trans s13;have ev:decide (v=V.non)=!lacks (ts.map (·.2)) [0]:=by
   cases ha:aft (ts.map (·.2)) [] (0:Nat) with
   |none=>
    rw[ha]at av;obtain rfl:v=.non:=av;rw[decide_eq_true rfl,show lacks (ts.map (·.2)) [0]=false from Yu ha];rfl
   |some y=>
    rw[ha]at av;obtain⟨c,rfl,_⟩:=av;rw[decide_eq_false (λz=>by cases z),show lacks (ts.map (·.2)) [0]=true from (Zu ne ha).1];rfl
  refine⟨rfl,.inr ⟨_,rfl,?_⟩⟩;rw[ev,Bool.not_not];refine⟨_,rfl,_,rfl,l,_,rfl,.inl (SqL.of hL3),1,_,rfl,by rw[List.length_map];omega,?_⟩;rw[List.length_map,eL,show ((L:Int)-1).toNat=L-1 by omega];refine vQ (lo:=1) (n:=L-1) (λi ys Hc=>ys=((List.range i).map λt=>((ww (ts.map (·.2)) b t:Nat):Int)).map V.int/\Rdr P w Hc rd tl dd b ts/\SameD dd H3 Hc) ⟨rfl,R3,SameD.of (Same.refl _)⟩ ?_ ?_
  ·rintro i ys Hc hi ⟨rfl,Rc,sc⟩;refine⟨by rw[List.length_map,List.length_map,List.length_range];exact Nat.lt_of_le_of_lt (show i<=1000 by omega) (by decide),?_⟩;unfold jJ;dsimp only;rw[if_pos rfl];refine⟨_,rfl,_,rfl,rd,tl,dd,b,ts,i,by rw[show (1:Int)+(i:Int)=((i+1:Nat):Int) by omega];rfl,by omega,Rc,λHd sd rdd=>⟨?_,Rc.sameD sd rdd,sc.trans sd⟩⟩;rw[List.range_succ,List.map_append,List.map_append];rfl
  rintro ys Hc ⟨rfl,Rc,sc⟩ Dd hD;have mD:=zr hD (o:=.lst (((List.range (L-1)).map λt=>((ww (ts.map (·.2)) b t:Nat):Int)).map V.int));refine⟨Dd,_,rfl,SqL.of zp,_,_,rfl,rfl,?_⟩;have R4:=Rc.same mD;have s34:=sc.trans (SameD.of mD);have hL4:=s34 _ _ (R3.d.ne hL3 λ_ z=>nomatch z) hL3;generalize upd Hc Dd (.lst (((List.range (L-1)).map λt=>((ww (ts.map (·.2)) b t:Nat):Int)).map V.int))=H4 at R4 s34 hL4;have et:(if lacks (ts.map (·.2)) [0]=true then (1:Int) else 0)+((List.range (L-1)).map λt=>((ww (ts.map (·.2)) b t:Nat):Int)).sum=((uo (ts.map (·.2)) b (L-1):Nat):Int):=by
   rw[WW,<-Xw (ts.map (·.2)) b2 (L-1),Int.natCast_add];split<;>rfl
  dsimp only;rw[et];refine⟨(by decide:0<=sizeLine),λe1 he1=>?_⟩;have m5:=zr he1 (o:=.tup []);have R5:=R4.same m5;have hL5:=m5 _ _ hL4;have s05:=(s03.trans s34).trans (SameD.of m5);have he15:(upd H4 e1 (.tup [])) e1=some (.tup (([]:List Int).map V.int)):=zp;generalize upd H4 e1 (.tup [])=H5 at R5 hL5 s05 he15;refine⟨_,rfl,l,rfl,⟨_,SqL.of hL5⟩,za2 (K:=K) (a:=l) (xs:=(zT b n).map V.int) (λk Z Hc=>∃(sv:V) (tot:Nat) (o:Option (List Int)) (v5 v6 v7 v8:Option V),Z=[some (.ref rd),some (.int n),some (.ref l),some (.int (tot:Int)),some sv,v5,v6,v7,v8]/\PartN (ts.map (·.2)) b n L k o tot/\AftV Hc o sv/\(∀x,o=some x->X7 (ts.map (·.2)) x)/\Rdr P w Hc rd tl dd b ts/\SameD dd H5 Hc)
   ⟨.ref e1,_,some [],none,none,none,none,rfl,.inl ⟨rfl,rfl,rfl⟩,⟨e1,rfl,he15⟩,λx e=>by cases e;exact .inl rfl,R5,SameD.of (Same.refl _)⟩ (λk Z Hc _ ⟨_,_,_,_,_,_,_,_,_,_,_,_,s⟩=>SqL.of (s _ _ (R5.d.ne hL5 λ_ z=>nomatch z) hL5)) ?_ ?_⟩
  ·rintro k z Z Hc tq hkz ⟨sv,tot,o,v5,v6,v7,v8,rfl,pN,av,ist,Rc,sc⟩ htq;rw[List.getElem?_map]at hkz;obtain⟨ci,hki,e⟩:=Option.map_eq_some_iff.mp hkz;subst e;have hkL:k<L:=by rw[<-eL];exact (List.getElem?_eq_some_iff.mp hki).1
   obtain⟨c,rfl⟩:∃c:Nat,ci=(c:Int):=by
    have:=WD b2 n ci (List.mem_of_getElem? hki);exact⟨ci.toNat,by omega⟩
   have m6:=zr htq (o:=.tup [.int (k:Nat),.int c]);have R6:=Rc.same m6;have s56:=sc.trans (SameD.of m6);refine⟨tq,_,rfl,SqT.of zp,rfl,_,_,rfl,_,_,rfl,rfl,?_⟩;have av6:=av.same λb xs e=>m6 _ _ e;have hL6:=s56 _ _ (R5.d.ne hL5 λ_ z=>nomatch z) hL5;generalize upd Hc tq (.tup [.int (k:Nat),.int c])=H6 at R6 s56 av6 hL6;refine⟨_,rfl,l,_,rfl,.inl (SqL.of hL6),_,_,rfl,rfl,_,rfl,_,_,rfl,rfl,?_⟩;rw[List.length_map,eL];have eleft:((L:Int)-1-(k:Int))=((L-1-k:Nat):Int):=by omega
   cases o with
   |none=>
    obtain rfl:sv=.non:=av6;refine⟨_,rfl,rfl,_,rfl,jK (by rw[decide_eq_true rfl];rfl) ⟨_,tot,none,_,_,_,_,rfl,?_,rfl,(λx e=>by cases e),R6,s56⟩⟩;rcases pN with ⟨_,z,_⟩ | ⟨_,_,z,_⟩ | ⟨h1,_,h3⟩
    ·cases z
    ·cases z
    ·exact .inr (.inr ⟨by omega,rfl,h3⟩)
   |some x=>
    obtain⟨sa,rfl,hsa⟩:=av6;have hx:=ist x rfl;obtain⟨hcb,hc1,pN'⟩:=pN.next ne b2 (by omega) eL hkL hki;refine⟨_,rfl,rfl,_,rfl,Xq (by rw[decide_eq_false (λz=>by cases z)];rfl) ?_⟩;have hint:(if decide (V.int ((k:Nat):Int)=V.int 0)=true then (1:Int) else 0)=(((if k=0 then 1 else 0:Nat)):Int):=by
     by_cases z:k=0
     ·subst z;rfl
     ·rw[if_neg z,if_neg (by rw[decide_eq_false (λq=>by injection q with q;omega)];exact Bool.false_ne_true)];rfl
    have hcc:(if k=0 then 1 else 0)+(c-if k=0 then 1 else 0)=c:=by
     by_cases z:k=0
     ·rw[if_pos z];have:=hc1 z;omega
     ·rw[if_neg z];omega
    refine⟨_,rfl,_,rfl,_,rfl,rfl,.inr ⟨_,rfl,_,rfl,_,rfl,?_⟩⟩;refine⟨rd,tl,dd,b,ts,sa,x,(if k=0 then 1 else 0),c-(if k=0 then 1 else 0),L-1-k,by dsimp only;rw[hint,hcc,eleft];rfl,by omega,by omega,R6,hsa,hx,λrl rows H7 hrl W7 s7 r7=>?_⟩;have R7:=R6.sameD s7 r7;have hsa7:=s7 _ _ (R6.tup hsa) hsa;refine⟨_,rfl,_,rfl,rl,rfl,⟨_,SqL.of W7.li⟩,Ub (K:=K) (a:=rl) (xs:=rows.map λr=>V.ref r.1) (λi ys Hc=>ys=((rows.take i).map λr=>((cnt (ts.map (·.2)) b (L-1-k) (zL (ts.map (·.2)) (x++[(r.2.2:Int)])):Nat):Int)).map V.int/\Hc=H7) ⟨rfl,rfl⟩ (λi ys Hc _ ⟨_,e⟩=>by rw[e];exact SqL.of W7.li) ?_ ?_⟩
    ·rintro i v ys Hc hi ⟨rfl,rfl⟩;rw[List.getElem?_map]at hi;obtain⟨r,hri,e⟩:=Option.map_eq_some_iff.mp hi;subst e;have hrm:=List.mem_of_getElem? hri;refine⟨by rw[List.length_map,List.length_map,List.length_take];exact Nat.lt_of_le_of_lt (show min i rows.length<=16 by have:=W7.len;omega) (by decide),?_⟩;refine⟨r.1,_,rfl,SqT.of (W7.ro r hrm).1,rfl,_,_,rfl,_,_,rfl,_,_,rfl,rfl,⟨[some (.int r.2.2),some (.ref r.2.1),some (.int (cnt (ts.map (·.2)) b (L-1-k) (zL (ts.map (·.2)) (x++[(r.2.2:Int)])):Nat))],rfl,rfl⟩,?_⟩;unfold jJ;dsimp only;rw[if_pos rfl];refine⟨_,rfl,?_,rfl⟩;rw[List.take_succ,hri,Option.toList_some,List.map_append,List.map_append];rfl
    ·rintro ys Hc ⟨rfl,rfl⟩ D8 hD8;rw[List.length_map,List.take_length];have m8:=zr hD8 (o:=.lst ((rows.map λr=>((cnt (ts.map (·.2)) b (L-1-k) (zL (ts.map (·.2)) (x++[(r.2.2:Int)])):Nat):Int)).map V.int));refine⟨D8,_,rfl,SqL.of zp,_,_,rfl,rfl,?_⟩;have R8:=R7.same m8;have hsa8:=m8 _ _ hsa7;have s58:=(s56.trans s7).trans (SameD.of m8);generalize upd Hc D8 (.lst ((rows.map λr=>((cnt (ts.map (·.2)) b (L-1-k) (zL (ts.map (·.2)) (x++[(r.2.2:Int)])):Nat):Int)).map V.int))=H8 at R8 hsa8 s58;dsimp only;rw[W7.sum,<-Int.natCast_add];refine⟨_,rfl,_,rfl,_,rfl,rd,tl,dd,b,ts,sa,x,c,rfl,R8,hsa8,hx,hcb,λv H9 s9 r9 av9=>?_⟩;exact⟨v,_,_,some (.int (k:Nat)),some (.int c),some (.int ((L:Int)-1-(k:Int))),some (.ref rl),rfl,pN',av9,λy hy=>(Zu ne hy).2.2,R8.sameD s9 r9,s58.trans s9⟩
  ·rintro Z Hc ⟨sv,tot,o,v5,v6,v7,v8,rfl,pN,av,ist,Rc,sc⟩;rw[List.length_map,eL]at pN;have q:=kk Hc (s05.trans sc) Rc.d;rw[<-pN.done hL1]at q;exact⟨_,rfl,q⟩
theorem Qz(D:Df K mg "_law_below" yd Am f fd)(zN:Df K mg "_law_figures" yw Ae f1 fd1)(zJ:Df K mg "_law_after" zW Af f2 fd2)(ye:Df K mg "_law_firsts" yo Ag f3 fd3)(yl:FnOk P w K mg base CX0 208 f3 fd3 Ag (xn P w 205))(yz:Df K mg "_law_long" xN Ah f4 fd4)(yH:FnOk P w K mg base CX0 209 f4 fd4 Ah (w6 P w 205))(T:Blt mg)(U:Wu mg):FnOk P w K mg base CX0 210 f fd Am (qu P w 205):=by
 exact V8 D zN zJ ye yl yz yH T U
def QM(ls:ZA)(b t:Nat)(x:List Int)(rows:List (Addr×Addr×Nat))(j:Nat):Nat:=((rows.take j).map λr=>cnt ls b t (zL ls (x++[(r.2.2:Int)]))).sum
theorem zdn(h:rows[j]?=some r):QM ls b t x rows (j+1)=QM ls b t x rows j+cnt ls b t (zL ls (x++[(r.2.2:Int)])):=by
 unfold QM;rw[List.take_succ,h,Option.toList_some,List.map_append,List.sum_append];simp
theorem zfy(R:RowsAt H l ls b t x (xX ls x a n) rows)(h:rows[j]?=some r):QM ls b t x rows j=uP ls b t x a (r.2.2-a):=by
 have hf:(xX ls x a n)[j]?=some r.2.2:=by rw[<-R.fg,List.getElem?_map,h];rfl
 unfold QM uP;rw[<-Vl hf,<-R.fg,<-List.map_take,List.map_map];rfl
theorem zeh(R:RowsAt H l ls b t x (xX ls x a n) rows):QM ls b t x rows rows.length=uP ls b t x a n:=by
 unfold QM uP;rw[List.take_length,<-R.fg,List.map_map];rfl
def oV:Option Nat->V
 |none=>.non
 |some g=>.int g
def jW(P:Program)(w:World)(N:Nat):Sp:=λvs H Q _=>Ex5 λrd tl dd b ts=>Ex2 λ(k:Nat) (t0:Nat)=>vs=[.ref rd,.int k]/\t0<N/\(ww (ts.map (·.2)) b t0=0\/k<uo (ts.map (·.2)) b (t0+1))/\Rdr P w H rd tl dd b ts/\∀o H',zhP (ts.map (·.2)) b k o->SameD dd H H'->RdD P w H' dd (ts.map (·.2)) b->Q (oV o) H'
theorem yg:zF ["reader","k","length","number","stand","at","chosen","left","figure","behind","many"] ["reader","k"] (zx yf):={}
set_option maxHeartbeats 0 in
theorem J2(hN:N<=900)(D:Df K mg "_law_nth" yf An f fd)(zJ:Df K mg "_law_after" zW Af f2 fd2)(ye:Df K mg "_law_firsts" yo Ag f3 fd3)(yl:FnOk P w K mg base CX0 (N+3) f3 fd3 Ag (xn P w N))(yz:Df K mg "_law_long" xN Ah f4 fd4)(yH:FnOk P w K mg base CX0 (N+4) f4 fd4 Ah (w6 P w N))(T:Blt mg)(U:Wu mg):FnOk P w K mg base CX0 (N+5) f fd An (jW P w N):=by
  have xR:FnOk P w K mg base CX0 1 f2 fd2 Af (vC P w):=uv zJ T;refine D.fn.ok yg (λvs H Q E h=>?_) (λcdv A outer s H vs Q E hr h=>?_)
  · obtain⟨rd,tl,dd,b,ts,k,t0,rfl,_⟩:=h;rfl
  · obtain⟨rd,tl,dd,b,ts,kp,t0,rfl,ht0,hend,R,kk⟩:=h
    have b2:=R.g.b2;have b16:=R.g.b16;have ne:∀st∈ts.map (·.2),st≠[]:=λst h=>(R.g.st st h).ne;refine xO ?_;intro XX;let q1:Sq XX ((zq yf).drop 7):=⟨_,zu (zG (pv 3))⟩
    let q2:Sq XX ((sb (zq yf) 6 true).drop 4):=⟨_,zu (zA (i:=4) yg.nd rfl (Or.inl rfl) (zR (vO K) (pv 6) zm (λ_ _=>rfl)))⟩
    let q3:Sq XX ((sb (zq yf) 6 true).drop 3):=⟨_,zj (zA (i:=3) yg.nd rfl (Or.inl rfl) (zy ym (zy wL (pv 3) (zR (yJ K) (pv 0) zm (λ_ _=>rfl))) (zR (vO K) (pv 6) zm (λ_ _=>rfl)))) q2.p⟩
    let q4:Sq XX ((sb (sb (zq yf) 6 true) 2 true).drop 1):=⟨_,zu (yG (zO Xv (pv 6) xM (zM _))
            (zu (zA (i:=1) yg.nd rfl (Or.inl rfl) (zy xT (pv 1) (pv 10))))
            zP)⟩
    let q5:Sq XX ((sb (zq yf) 6 true).drop 2):=⟨_,zj (xj PassesOwn.never rfl (je K (zE ye yl (hr.mono (by omega)) (zf (pv 0) (zf (pv 4) (zf (wM tZ (by rfl) T.n_int boot_int (zf (xr Zt (pv 5) zm (zM _)) zg)) (zf (zR (yJ K) (pv 0) zm (λ_ _=>rfl)) (zf (pv 7) zg))))))) (zab rfl (wN (zV (i:=8) yg.nd rfl (Or.inl rfl)) (wN (zV (i:=9) yg.nd rfl (Or.inl rfl)) (wN (zV (i:=10) yg.nd rfl (Or.inl rfl)) X8))))
          (zj (yG (PW.pt (Vh (zO Xv (pv 6) xM (zM _)) (YQ (zO Wj (pv 1) (pv 10) (zM _)))))
            (zu (zA (i:=6) yg.nd rfl (Or.inl rfl) (wC (zf (pv 8) (zf (pv 9) zg)))))
            zP) q4.p)) q3.p⟩
    let q6:Sq XX ((sb (zq yf) 6 true).drop 1):=⟨_,zj (zA (i:=7) yg.nd rfl (Or.inl rfl) (zy xT (zy xT (pv 2) zm) (pv 5))) q5.p⟩
    let q7:Sq XX ((zq yf).drop 6):=⟨_,zj (xj PassesOwn.never rfl (yt rfl T.n_range (zf (pv 2) zg)) (zV (i:=5) yg.nd rfl (Or.inl rfl))
        (zj (zA (i:=6) yg.nd rfl (Or.inl rfl) xM) q6.p)) q1.p⟩
    let q8:Sq XX ((zq yf).drop 5):=⟨_,zj (zA (i:=4) yg.nd rfl (Or.inl rfl) (wC zg)) q7.p⟩
    let q9:Sq XX ((zq yf).drop 4):=⟨_,zj (zA (i:=3) yg.nd rfl (Or.inl rfl) zm) q8.p⟩
    let q10:Sq XX ((zq yf).drop 3):=⟨_,zj (yG (zO Zt (zE yz yH (hr.mono (by omega)) (zf (pv 0) (zf (pv 2) zg))) zm (zM _))
        (zu (zG xM))
        zP) q9.p⟩
    let q11:Sq XX ((sb (zq yf) 2 true).drop 1):=⟨_,zu (zA (i:=2) yg.nd rfl (Or.inl rfl) (zy ym (pv 2) zm))⟩
    let q12:Sq XX ((zq yf).drop 2):=⟨_,zj (Yz PassesOwn.never (zdN Wj Qn zm (zE yz yH (hr.mono (by omega)) (zf (pv 0) (zf (pv 2) zg))) (pv 1))
        (zj (zA (i:=1) yg.nd rfl (Or.inl rfl) (zy xT (pv 1) (zE yz yH (hr.mono (by omega)) (zf (pv 0) (zf (pv 2) zg))))) q11.p)) q10.p⟩
    let q13:Sq XX ((zq yf).drop 1):=⟨_,zj (zA (i:=2) yg.nd rfl (Or.inl rfl) zm) q12.p⟩
    let q14:Sq XX ((sb (zq yf) 0 true).drop 1):=⟨_,zu (zA (i:=1) yg.nd rfl (Or.inl rfl) (zy xT (pv 1) zm))⟩
    refine⟨_,(zj (yG (zO jX (zE zJ xR (hr.mono (by omega)) (zf (pv 0) (zf (wC zg) (zf zm zg)))) xM (zM _))
        (zj (yG (zO Zt (pv 1) zm (zM _))
          (zu (zG zm))
          zP) q14.p)
        zP) q13.p),?_⟩
    refine⟨_,rfl,(by decide:0<=sizeLine),λe0 he0=>?_⟩;have m0:=zr he0 (o:=.tup []);have R0:=R.same m0;refine⟨rd,tl,dd,b,ts,e0,[],0,rfl,R0,zp,.inl rfl,by omega,λv H1 s1 r1 av=>?_⟩;have R1:=R0.sameD s1 r1;have s01:SameD dd H H1:=(SameD.of m0).trans s1;cases hL0:lacks (ts.map (·.2)) [0]
    case' false=>
      have ev:v=.non:=by
        cases ha:aft (ts.map (·.2)) [] (0:Nat) with
        |none=>rw[ha]at av;exact av
        |some y=>rw[show lacks (ts.map (·.2)) [0]=true from (Zu ne ha).1]at hL0;cases hL0
      subst ev;refine⟨rfl,_,rfl,jK (by rw[decide_eq_true rfl];rfl) ?_⟩;obtain⟨k1,ek,hk1⟩:∃k1:Nat,kp=k1/\k1+uo (ts.map (·.2)) b 0=kp:=⟨kp,rfl,by show kp+(if lacks (ts.map (·.2)) [0]=true then 1 else 0)=kp;rw[if_neg (by rw[hL0];exact Bool.false_ne_true)];rfl⟩
      rw[show (.int (kp:Int):V)=.int (k1:Int) by rw[ek]]
    case' true=>
      have ev:v≠.non:=by
        cases ha:aft (ts.map (·.2)) [] (0:Nat) with
        |none=>rw[show lacks (ts.map (·.2)) [0]=false from Yu ha]at hL0;cases hL0
        |some y=>rw[ha]at av;obtain⟨c,rfl,_⟩:=av;exact λz=>by cases z
      have hc0:uo (ts.map (·.2)) b 0=1:=by show (if lacks (ts.map (·.2)) [0]=true then 1 else 0)=1;rw[if_pos hL0]
      refine⟨rfl,_,rfl,Xq (by rw[decide_eq_false ev];rfl) ?_⟩;by_cases hk0:kp=0
      case' pos=>
        subst hk0;refine⟨_,rfl,rfl,_,rfl,Xq (decide_eq_true rfl) (kk (some 0) H1 (.inl ⟨0,rfl,?_,rfl⟩) s01 R1.d)⟩;unfold gd;rw[wJ (show 0<b by omega)];exact hL0
      refine⟨_,rfl,rfl,_,rfl,jK (decide_eq_false (λz=>by injection z with z;omega)) ⟨_,rfl,_,_,rfl,rfl,?_⟩⟩;obtain⟨k1,ek,hk1⟩:∃k1:Nat,(kp:Int)-1=k1/\k1+uo (ts.map (·.2)) b 0=kp:=⟨kp-1,by omega,by omega⟩
      dsimp only;rw[ek]
    all_goals
      refine Yt (λZ H2=>∃(t k:Nat),Z=[some (.ref rd),some (.int k),some (.int ((t+1:Nat):Int)),none,none,none,none,none,none,none,none]/\k+uo (ts.map (·.2)) b t=kp/\t<=t0/\Rdr P w H2 rd tl dd b ts/\SameD dd H H2)
        (λZ _=>match Z with | _::_::some (.int l)::_=>t0+2-l.toNat | _=>0) ⟨0,k1,rfl,hk1,Nat.zero_le _,R1,s01⟩ ?_ ?_
      · rintro Z H2 ⟨t,k,rfl,hk,htt,R2,s2⟩
        refine⟨_,rfl,_,rfl,rd,tl,dd,b,ts,t,rfl,by omega,R2,λH3 s3 r3=>⟨_,_,rfl,rfl,_,rfl,?_⟩⟩;have R3:=R2.sameD s3 r3;have s03:=s2.trans s3;have hcn:=Z6 (ts.map (·.2)) b2 t;by_cases hgo:0<ww (ts.map (·.2)) b t/\ww (ts.map (·.2)) b t<=k
        · rw[decide_eq_true (show (0:Int)<((ww (ts.map (·.2)) b t:Nat):Int) by omega)]
          refine xU ⟨_,rfl,_,_,rfl,rfl,_,rfl,?_⟩;rw[decide_eq_true (show ((ww (ts.map (·.2)) b t:Nat):Int)<=(k:Int) by omega)];refine xU ?_;refine⟨_,rfl,_,rfl,_,rfl,rd,tl,dd,b,ts,t,rfl,by omega,R3,λH4 s4 r4=>⟨_,_,rfl,rfl,_,rfl,_,_,rfl,rfl,⟨t+1,k-ww (ts.map (·.2)) b t,?_,by omega,?_,R3.sameD s4 r4,s03.trans s4⟩,?_⟩⟩
          · dsimp only
            rw[show (k:Int)-((ww (ts.map (·.2)) b t:Nat):Int)=((k-ww (ts.map (·.2)) b t:Nat):Int) by omega];rfl
          · by_cases z:t=t0
            · subst z
              rcases hend with q | q<;>omega
            · omega
          · show t0+2-(((t+1:Nat):Int)+1).toNat<t0+2-((t+1:Nat):Int).toNat
            omega
        · by_cases h0:ww (ts.map (·.2)) b t=0
          case' pos=>
            rw[decide_eq_false (show ¬ (0:Int)<((ww (ts.map (·.2)) b t:Nat):Int) by omega)];refine xF ⟨_,rfl,xF ?_⟩
          case' neg=>
            rw[decide_eq_true (show (0:Int)<((ww (ts.map (·.2)) b t:Nat):Int) by omega)];refine xU ⟨_,rfl,_,_,rfl,rfl,_,rfl,?_⟩;rw[decide_eq_false (show ¬ ((ww (ts.map (·.2)) b t:Nat):Int)<=(k:Int) by omega)];refine xF ?_
          all_goals
            refine⟨_,rfl,_,rfl,rd,tl,dd,b,ts,t,rfl,by omega,R3,λH4 s4 r4=>⟨rfl,_,rfl,?_⟩⟩;have R4:=R3.sameD s4 r4;have s04:=s03.trans s4
          case' pos=>
            rw[h0];refine Xq (decide_eq_true rfl) (kk none H4 (.inr ⟨rfl,λM=>?_⟩) s04 R4.d);have:=Q9 ne b2 h0 M;omega
          have hrem:k<ww (ts.map (·.2)) b t:=by
            by_cases z:k<ww (ts.map (·.2)) b t
            · exact z
            · exact absurd ⟨by omega,by omega⟩ hgo
          refine jK (decide_eq_false (λz=>by injection z with z;omega)) ?_;refine⟨(by decide:0<=sizeLine),λe1 he1=>?_⟩;have m5:=zr he1 (o:=.tup []);have R5:=R4.same m5;have s05:=s04.trans (SameD.of m5);have he15:(upd H4 e1 (.tup [])) e1=some (.tup (([]:List Int).map V.int)):=zp;generalize upd H4 e1 (.tup [])=H5 at R5 s05 he15;refine⟨_,rfl,((t+1:Nat):Int),rfl,by omega,by omega,?_⟩;rw[show ((t+1:Nat):Int).toNat=t+1 by omega];refine yP (lo:=0) (n:=t+1) (λi Z Hc=>∃(rem m:Nat) (sa:Addr) (x:List Int) (v5 v6 v7 v8 v9 v10:Option V),Z=[some (.ref rd),some (.int rem),some (.int ((t+1:Nat):Int)),some (.int m),some (.ref sa),v5,v6,v7,v8,v9,v10]/\NthN (ts.map (·.2)) b kp (t+1) i x m rem/\Hc sa=some (.tup (x.map V.int))/\X7 (ts.map (·.2)) x/\Rdr P w Hc rd tl dd b ts/\SameD dd H Hc)
            ⟨k,0,e1,[],none,none,none,none,none,none,rfl,.inl ⟨rfl,rfl,rfl,hk,hrem⟩,he15,.inl rfl,R5,s05⟩ ?_ ?_
          · rintro i Z Hc hi ⟨rem,m,sa,x,v5,v6,v7,v8,v9,v10,rfl,pN,hsa,hx,Rc,sc⟩
            have hi:i<t+1:=hi;refine⟨_,rfl,_,_,rfl,rfl,_,rfl,_,_,rfl,rfl,?_⟩;dsimp only;have eleft:(((t+1:Nat):Int)-1-(0+(i:Int)))=((t+1-1-i:Nat):Int):=by omega
            rw[eleft];have hint:(if decide (V.int (0+(i:Int))=V.int 0)=true then (1:Int) else 0)=(((if i=0 then 1 else 0:Nat)):Int):=by
              by_cases z:i=0
              · subst z;rfl
              · rw[if_neg z,if_neg (by rw[decide_eq_false (λq=>by injection q with q;omega)];exact Bool.false_ne_true)];rfl
            have hab:(if i=0 then 1 else 0)+(b-if i=0 then 1 else 0)=b:=by split<;>omega
            refine⟨_,rfl,_,rfl,_,rfl,rfl,.inr ⟨_,rfl,_,rfl,rd,_,_,.int b,rfl,rfl,SqL.of Rc.s.hd,rfl,_,rfl,?_⟩⟩;refine⟨rd,tl,dd,b,ts,sa,x,(if i=0 then 1 else 0),b-(if i=0 then 1 else 0),t+1-1-i,by rw[hint,hab];rfl,by omega,by omega,Rc,hsa,hx,λrl rows H6 hrl W6 s6 r6=>?_⟩;have R6:=Rc.sameD s6 r6;have hsa6:=s6 _ _ (Rc.tup hsa) hsa;have s06:=sc.trans s6;refine⟨rl,rfl,⟨_,SqL.of W6.li⟩,qH (K:=K) (a:=rl) (xs:=rows.map λr=>V.ref r.1) (λj Z Hd=>∃(cv:V) (rj:Nat) (w8 w9 w10:Option V),Z=[some (.ref rd),some (.int rj),some (.int ((t+1:Nat):Int)),some (.int m),some (.ref sa),some (.int (0+(i:Int))),some cv,some (.int ((t+1-1-i:Nat):Int)),w8,w9,w10]/\Same H6 Hd /\
              ((cv=.non/\rj+QM (ts.map (·.2)) b (t+1-1-i) x rows j=rem)\/∃(q:Addr) (j':Nat) (r:Addr×Addr×Nat),cv=.ref q/\rows[j']?=some r/\Hd q=some (.tup [.int r.2.2,.ref r.2.1])/\rj+QM (ts.map (·.2)) b (t+1-1-i) x rows j'=rem/\rj<cnt (ts.map (·.2)) b (t+1-1-i) (zL (ts.map (·.2)) (x++[(r.2.2:Int)]))))
              ⟨.non,rem,_,_,_,rfl,Same.refl _,.inl ⟨rfl,by simp[QM]⟩⟩ (λj Z Hd _ ⟨_,_,_,_,_,_,e,_⟩=>SqL.of (e _ _ W6.li)) ?_ ?_⟩
            · rintro j u Z Hd hj ⟨cv,rj,w8,w9,w10,rfl,sd,hor⟩
              rw[List.getElem?_map]at hj;obtain⟨r,hrj,e⟩:=Option.map_eq_some_iff.mp hj;subst e;have hrm:=List.mem_of_getElem? hrj;refine⟨r.1,_,rfl,SqT.of (sd _ _ (W6.ro r hrm).1),rfl,_,_,rfl,_,_,rfl,_,_,rfl,rfl,?_⟩;rcases hor with ⟨rfl,hrem⟩ | ⟨q,j',r',rfl,hr',hq,hs,hlt⟩
              · refine⟨_,rfl,rfl,_,rfl,Xq (decide_eq_true rfl) ⟨_,rfl,_,rfl,_,_,rfl,rfl,_,rfl,?_⟩⟩
                by_cases hlt:rj<cnt (ts.map (·.2)) b (t+1-1-i) (zL (ts.map (·.2)) (x++[(r.2.2:Int)]))
                · rw[decide_eq_true (show (rj:Int)<((cnt (ts.map (·.2)) b (t+1-1-i) (zL (ts.map (·.2)) (x++[(r.2.2:Int)])):Nat):Int) by omega)]
                  refine xU ⟨_,rfl,_,rfl,(by show 2<=sizeLine;decide),λq hq=>?_⟩;have mq:=zr hq (o:=.tup [.int r.2.2,.ref r.2.1]);exact⟨_,rfl,rfl,_,rfl,jK (decide_eq_false (λz=>by cases z)) ⟨.ref q,rj,some (.int r.2.2),some (.ref r.2.1),some (.int (cnt (ts.map (·.2)) b (t+1-1-i) (zL (ts.map (·.2)) (x++[(r.2.2:Int)])):Nat)),rfl,sd.trans mq,.inr ⟨q,j,r,rfl,hrj,zp,hrem,hlt⟩⟩⟩
                · rw[decide_eq_false (show ¬ (rj:Int)<((cnt (ts.map (·.2)) b (t+1-1-i) (zL (ts.map (·.2)) (x++[(r.2.2:Int)])):Nat):Int) by omega)]
                  refine xF ⟨_,rfl,rfl,_,rfl,Xq (decide_eq_true rfl) ⟨_,rfl,_,rfl,_,_,rfl,rfl,?_⟩⟩;refine⟨.non,rj-cnt (ts.map (·.2)) b (t+1-1-i) (zL (ts.map (·.2)) (x++[(r.2.2:Int)])),some (.int r.2.2),some (.ref r.2.1),some (.int (cnt (ts.map (·.2)) b (t+1-1-i) (zL (ts.map (·.2)) (x++[(r.2.2:Int)])):Nat)),?_,sd,.inl ⟨rfl,by rw[zdn hrj];omega⟩⟩;dsimp only;rw[show (rj:Int)-((cnt (ts.map (·.2)) b (t+1-1-i) (zL (ts.map (·.2)) (x++[(r.2.2:Int)])):Nat):Int)=((rj-cnt (ts.map (·.2)) b (t+1-1-i) (zL (ts.map (·.2)) (x++[(r.2.2:Int)])):Nat):Int) by omega];rfl
              · exact⟨_,rfl,rfl,_,rfl,jK (decide_eq_false (λz=>by cases z)) (xF ⟨_,rfl,rfl,_,rfl,jK (decide_eq_false (λz=>by cases z)) ⟨.ref q,rj,some (.int r.2.2),some (.ref r.2.1),some (.int (cnt (ts.map (·.2)) b (t+1-1-i) (zL (ts.map (·.2)) (x++[(r.2.2:Int)])):Nat)),rfl,sd,.inr ⟨q,j',r',rfl,hr',hq,hs,hlt⟩⟩⟩)⟩
            · rintro Z Hd ⟨cv,rj,w8,w9,w10,rfl,sd,hor⟩
              have htot:=pN.total b2 hi;rw[List.length_map]at hor;rcases hor with ⟨_,hrem⟩ | ⟨q,j',r,rfl,hr',hq,hs,hlt⟩
              · rw[zeh W6]at hrem
                omega
              have hrm:=List.mem_of_getElem? hr';have hcf:=zdd (by rw[<-W6.fg];exact List.mem_map.mpr ⟨r,hrm,rfl⟩:r.2.2∈xX (ts.map (·.2)) x (if i=0 then 1 else 0) (b-if i=0 then 1 else 0));rw[zfy W6 hr']at hs;have pN':=pN.next (c:=r.2.2) ne b2 hi hcf.1 (by omega) hcf.2.2 (by omega) (by rw[show rem-uP (ts.map (·.2)) b (t+1-1-i) x (if i=0 then 1 else 0) (r.2.2-if i=0 then 1 else 0)=rj by omega];exact hlt);rw[show rem-uP (ts.map (·.2)) b (t+1-1-i) x (if i=0 then 1 else 0) (r.2.2-if i=0 then 1 else 0)=rj by omega]at pN';have Rd:=R6.same sd;refine⟨_,rfl,_,rfl,rd,_,_,.int b,rfl,rfl,SqL.of Rd.s.hd,rfl,_,_,rfl,rfl,.inr ⟨by omega,by omega⟩,_,rfl,q,_,_,.int r.2.2,rfl,rfl,SqT.of hq,rfl,_,_,rfl,rfl,_,rfl,q,_,_,.ref r.2.1,rfl,rfl,SqT.of hq,rfl,?_⟩;refine⟨rj,m*b+r.2.2,r.2.1,zL (ts.map (·.2)) (x++[(r.2.2:Int)]),some (.int (0+(i:Int))),some (.ref q),some (.int ((t+1-1-i:Nat):Int)),w8,w9,w10,?_,pN',sd _ _ (W6.ro r hrm).2,jz ne hcf.2.2,Rd,s06.trans (SameD.of sd)⟩;dsimp only;rw[show (m:Int)*(b:Int)+(r.2.2:Int)=((m*b+r.2.2:Nat):Int) by rw[Int.natCast_add,Int.natCast_mul]];rfl
          · rintro Z Hc ⟨rem,m,sa,x,v5,v6,v7,v8,v9,v10,rfl,pN,hsa,hx,Rc,sc⟩
            obtain⟨hg,hm⟩:=pN.done (by omega);exact⟨_,rfl,kk (some m) Hc (.inl ⟨m,rfl,hg,hm⟩) sc Rc.d⟩
      · intro Z H2 Q1 Q2 hq
        rintro⟨v0,e0',v1,e1,rd',tl',dd',b',ts',t',g1,g2,g3,g4⟩;refine⟨v0,e0',v1,e1,rd',tl',dd',b',ts',t',g1,g2,g3,λH3 a1 a2=>?_⟩;obtain⟨i,j,e2,e3,k2,e4,q⟩:=g4 H3 a1 a2;refine⟨i,j,e2,e3,k2,e4,?_⟩;split at q
        · rename_i hh
          rw[if_pos hh];obtain⟨v3,e5,i',j',e6,e7,k3,e8,q⟩:=q;exact⟨v3,e5,i',j',e6,e7,k3,e8,hq _ _ q⟩
        · rename_i hh
          rw[if_neg hh];obtain⟨k3,e8,q⟩:=q;exact⟨k3,e8,hq _ _ q⟩
theorem zba(D:Df K mg "_law_nth" yf An f fd)(zJ:Df K mg "_law_after" zW Af f2 fd2)(ye:Df K mg "_law_firsts" yo Ag f3 fd3)(yl:FnOk P w K mg base CX0 208 f3 fd3 Ag (xn P w 205))(yz:Df K mg "_law_long" xN Ah f4 fd4)(yH:FnOk P w K mg base CX0 209 f4 fd4 Ah (w6 P w 205))(T:Blt mg)(U:Wu mg):FnOk P w K mg base CX0 210 f fd An (jW P w 205):=by
 exact J2 (by decide) D zJ ye yl yz yH T U
end
theorem LT.dk(h:LT T H)(e:H b=some (.dK kvs)):b≠T:=λz=>by
 rw[z]at e;rcases h with h | ⟨c,h,_⟩
 ·rw[h]at e;cases e
 ·rw[h]at e;cases e
def Ql:HO->Prop
 |.lst _=>True
 |.tup _=>True
 |.dK _=>True
 |_=>False
theorem LT.plain(h:LT T H)(p:Ql o)(e:H b=some o):b≠T:=by
 cases o with
 |lst xs=>exact h.lst e
 |tup xs=>exact h.tup e
 |dK xs=>exact h.dk e
 |_=>exact p.elim
mutual
theorem zcs{H H':Hp}(k:∀c o,Ql o->H c=some o->H' c=some o):∀{d:PyData} {v:V},ThAt H d v->ThAt H' d v
 |.none,v,h=>by rw[ThAt]at h ⊢;exact h
 |.bool b,v,h=>by rw[ThAt]at h ⊢;exact h
 |.int i,v,h=>by rw[ThAt]at h ⊢;exact h
 |.str x,v,h=>by rw[ThAt]at h ⊢;exact h
 |.list xs,v,h=>by
  rw[ThAt]at h ⊢;obtain⟨a,ys,h1,h2,h3⟩:=h;exact⟨a,ys,h1,k _ _ trivial h2,Qh k h3⟩
 |.tuple xs,v,h=>by
  rw[ThAt]at h ⊢;obtain⟨a,ys,h1,h2,h3⟩:=h;exact⟨a,ys,h1,k _ _ trivial h2,Qh k h3⟩
 |.dict kvs,v,h=>by
  rw[ThAt]at h ⊢;obtain⟨h0,a,h1,h2⟩:=h;exact⟨h0,a,h1,k _ _ trivial h2⟩
theorem Qh{H H':Hp}(k:∀c o,Ql o->H c=some o->H' c=some o):∀{ds:List PyData} {ys:List V},ThsAt H ds ys->ThsAt H' ds ys
 |[],ys,h=>by rw[ThsAt]at h ⊢;exact h
 |d::ds,ys,h=>by
  rw[ThsAt]at h ⊢;obtain⟨y,zs,h1,h2,h3⟩:=h;exact⟨y,zs,h1,zcs k h2,Qh k h3⟩
end
section
variable {P:Program} {w:World} {T0:Addr}
theorem LT.sameD(h:LT T H)(D:RdD P w H dd ls b)(s:SameD dd H H'):LT T H':=by
 obtain⟨kvs,d,_⟩:=D;obtain⟨n1,n2⟩:=DN.lam d h;rcases h with h | ⟨c,h1,h2⟩
 ·exact .inl (s _ _ n1 h)
 ·exact .inr ⟨c,s _ _ n1 h1,s _ _ (n2 c h2) h2⟩
theorem RdD.keep(D:RdD P w H dd ls b)(e:∀φ,H dd=some (.ext φ)->H' dd=some (.ext φ))(s:∀a xs,H a=some (.tup xs)->H' a=some (.tup xs)):RdD P w H' dd ls b:=by
 obtain⟨kvs,d,t⟩:=D;have ed:H' dd=H dd:=by obtain⟨xs,q,_⟩:=d;rw[q];exact e _ q
 exact⟨kvs,d.stay ed s,t.same s⟩
theorem RdD.sameL(D:RdD P w H dd ls b)(lt:LT T H)(s:SameL T H H'):RdD P w H' dd ls b:=by
 obtain⟨kvs,d,t⟩:=id D;exact D.keep (fun φ q=>s _ _ (DN.lam d lt).1.symm q) λa xs q=>s _ _ (lt.tup q) q
structure Now (P:Program) (w:World) (T0 s p:Addr) (ds:List Int) (r:Addr) (b:Nat) (bl:Addr) (zs:ZB) (r' bl':Addr) (zs':ZB) (rd tl dd:Addr) (ts:ZB) (H:Hp):Prop where
 st:Sto2 H s p ds
 lt:LT T0 H
 R:RuleAt (aw [s] H) r b bl zs
 R':RuleAt (aw [s] H) r' b bl' zs'
 S:RdS (aw [s] H) rd tl dd b ts
 D:RdD P w H dd (ts.map (·.2)) b
section
variable {s p:Addr} {ds:List Int} {r:Addr} {b:Nat} {bl:Addr} {zs:ZB} {r' bl':Addr} {zs':ZB} {rd tl dd:Addr} {ts:ZB} {H H':Hp}
theorem Now.go(N:Now P w T0 s p ds r b bl zs r' bl' zs' rd tl dd ts H)(st:Sto2 H' s p ds)(lt:LT T0 H')(D:RdD P w H' dd (ts.map (·.2)) b)(k:∀c o,c≠s->c≠T0->c≠dd->H c=some o->H' c=some o):Now P w T0 s p ds r b bl zs r' bl' zs' rd tl dd ts H':=by
 have gl:∀{c xs},aw [s] H c=some (.lst xs)->aw [s] H' c=some (.lst xs):=λ{c xs} e=>by
  have hi:c∉[s]:=λz=>by rw[Uc z]at e;cases e
  rw[xf hi]at e ⊢;exact k c _ (by simpa using hi) (N.lt.lst e) (N.D.ne e λ_ z=>nomatch z) e
 have gt:∀{c xs},aw [s] H c=some (.tup xs)->aw [s] H' c=some (.tup xs):=λ{c xs} e=>by
  have hi:c∉[s]:=λz=>by rw[Uc z]at e;cases e
  rw[xf hi]at e ⊢;exact k c _ (by simpa using hi) (N.lt.tup e) (N.D.ne e λ_ z=>nomatch z) e
 exact⟨st,lt,⟨gt N.R.tu,gl N.R.li,λz hz=>gl (N.R.st z hz)⟩,⟨gt N.R'.tu,gl N.R'.li,λz hz=>gl (N.R'.st z hz)⟩,⟨gl N.S.hd,gl N.S.li,λz hz=>gt (N.S.st z hz)⟩,D⟩
theorem Sto2.tupne(S:Sto2 H s p ds)(e:H a=some (.tup xs)):a≠s:=λz=>by obtain⟨i,q⟩:=S.st;rw[z,q]at e;cases e
theorem Now.fr(N:Now P w T0 s p ds r b bl zs r' bl' zs' rd tl dd ts H)(F:Fr T0 s p ds H H'):Now P w T0 s p ds r b bl zs r' bl' zs' rd tl dd ts H':=by
 obtain⟨kvs,d,t⟩:=N.D;have nds:dd≠s:=λz=>by obtain⟨xs,q,_⟩:=d;obtain⟨i,e⟩:=N.st.st;rw[z,e]at q;cases q
 exact N.go F.st F.lt (N.D.keep (fun φ q=>F.get nds (DN.lam d N.lt).1.symm q) λa xs q=>F.get (N.st.tupne q) (N.lt.tup q) q) λc o h1 h2 _ e=>F.get h1 h2 e
theorem Now.sameL(N:Now P w T0 s p ds r b bl zs r' bl' zs' rd tl dd ts H)(m:SameL T0 H H')(lt:LT T0 H'):Now P w T0 s p ds r b bl zs r' bl' zs' rd tl dd ts H':=N.fr ((Fr.refl N.st N.lt).sameL m lt)
theorem Now.same(N:Now P w T0 s p ds r b bl zs r' bl' zs' rd tl dd ts H)(m:Same H H'):Now P w T0 s p ds r b bl zs r' bl' zs' rd tl dd ts H':=N.sameL (SameL.of m) (N.lt.same m)
theorem Now.sameD(N:Now P w T0 s p ds r b bl zs r' bl' zs' rd tl dd ts H)(m:SameD dd H H')(D:RdD P w H' dd (ts.map (·.2)) b):Now P w T0 s p ds r b bl zs r' bl' zs' rd tl dd ts H':=by
 have nl:∀{c xs},H c=some (.lst xs)->H' c=some (.lst xs):=λ{c xs} e=>m _ _ (N.D.ne e λ_ z=>nomatch z) e;obtain⟨i,e⟩:=N.st.st;exact N.go ⟨⟨i,nl e⟩,nl N.st.dr,N.st.ne,N.st.len,N.st.nn⟩ (N.lt.sameD N.D m) D λc o _ _ h e=>m c o h e
theorem Now.rdr(N:Now P w T0 s p ds r b bl zs r' bl' zs' rd tl dd ts H)(g:yx b (ts.map (·.2))):Rdr P w H rd tl dd b ts:=⟨N.S.same (xq _ _),N.D,g⟩
end
end
section
variable {P:Program} {w:World} {K:W.Frag} {mg:Str->Option Value} {base:Heap} {T0:Addr}
def Yg:Sp:=λvs H Q _=>Ex5 λ(r:Addr) (b:Nat) (bl:Addr) (zs:ZB) (n:Nat)=>vs=[.ref r,.int n]/\RuleAt H r b bl zs/\yx b (zs.map (·.2))/\n<2^900/\∀H',Same H H'->Q (.bl (gd (zs.map (·.2)) b n)) H'
theorem vm:zF ["rule","n","figures","stretch","size","at"] ["rule","n"] (zx xV):={}
theorem VM(D:Df K mg "_law_is_good" xV Ac f fd)(zN:Df K mg "_law_figures" yw Ae f1 fd1)(T:Blt mg):FnOk P w K mg base CX0 2 f fd Ac Yg:=by
 have xQ:FnOk P w K mg base CX0 1 f1 fd1 Ae vq:=uy zN T;refine D.fn.ok vm (λvs H Q E h=>?_) (λcdv A outer s H vs Q E hr h=>?_)
 ·obtain⟨r,b,bl,zs,n,rfl,_⟩:=h;rfl
 ·obtain⟨r,b,bl,zs,n,rfl,R,g,hn,kk⟩:=h;have HU:=zax hr;have h901:=vX g.b2 900 n hn;refine xO ?_;intro XX;let q1:Sq XX ((zq xV).drop 2):=⟨_,zu (zG uN)⟩
  let q2:Sq XX ((sb (zq xV) 1 true).drop 1):=⟨_,zu (xj PassesOwn.never rfl (yt rfl T.n_range (zf (zy ym (zy xT (zz (wy K) (by rfl) T.n_len PySem.boot_len (zf (pv 2) zg)) (pv 4)) zm) zg)) (zV (i:=5) vm.nd rfl (Or.inl rfl))
     (zu (yG (zO (zbu K HU) (yN (qD K) (pv 2) (yW (pv 5)) (yW (zy ym (pv 5) (pv 4)))) (pv 3) (zM _))
      (zu (zG uN))
      zP)))⟩
  let q3:Sq XX ((zq xV).drop 1):=⟨_,zj (xj PassesOwn.never rfl (je K (zR (vO K) (pv 0) zm (λ_ _=>rfl))) (zV (i:=3) vm.nd rfl (Or.inl rfl))
    (zj (zA (i:=4) vm.nd rfl (Or.inl rfl) (zz (wy K) (by rfl) T.n_len PySem.boot_len (zf (pv 3) zg))) q2.p)) q1.p⟩
  refine⟨_,(zj (zA (i:=2) vm.nd rfl (Or.inl rfl) (zE zN xQ (hr.mono (by decide)) (zf (zR (vO K) (pv 0) zm (λ_ _=>rfl)) (zf (pv 1) zg)))) q3.p),?_⟩;refine⟨_,rfl,r,_,_,.int b,rfl,rfl,SqT.of R.tu,rfl,_,rfl,b,n,rfl,g.b2,g.b16,hn,λl H1 hl hL s1=>?_⟩;have R1:=R.same s1;generalize hfs:zT b n=fs at hL h901;have kk':∀H',Same H H'->Q (.bl (lacks (zs.map (·.2)) fs)) H':=λH' m=>by have q:=kk H' m;unfold gd at q;rw[hfs]at q;exact q
  refine⟨_,rfl,r,_,_,.ref bl,rfl,rfl,SqT.of R1.tu,rfl,bl,rfl,⟨_,SqL.of R1.li⟩,qH (K:=K) (a:=bl) (xs:=zs.map λz=>V.ref z.1) (λi Z H2=>∃v3 v4 v5:Option V,Z=[some (.ref r),some (.int n),some (.ref l),v3,v4,v5]/\Same H1 H2/\∀z∈zs.take i,Z5 z.2 fs=false) ⟨_,_,_,rfl,Same.refl _,by simp⟩ (λi Z H2 _ ⟨_,_,_,_,e,_⟩=>SqL.of (e _ _ R1.li)) ?_ ?_⟩
  ·rintro i x Z H2 hx ⟨v3,v4,v5,rfl,s2,hno⟩;rw[List.getElem?_map]at hx;obtain⟨z,hzj,e⟩:=Option.map_eq_some_iff.mp hx;subst e;have hzm:=List.mem_of_getElem? hzj;have hzne:=(g.st _ (List.mem_map.mpr ⟨z,hzm,rfl⟩)).ne;have hz4:=(g.st _ (List.mem_map.mpr ⟨z,hzm,rfl⟩)).len;have hzl:=R1.st z hzm;refine⟨_,rfl,z.1,_,rfl,.inl (SqL.of (s2 _ _ hzl)),?_⟩;rw[List.length_map];refine⟨_,rfl,l,_,rfl,.inl (SqL.of (s2 _ _ hL)),_,rfl,_,_,rfl,rfl,_,_,rfl,rfl,_,rfl,?_⟩;rw[List.length_map];refine⟨by omega,by omega,yP (lo:=0) (n:=((fs.length:Int)-z.2.length+1).toNat) (λj Z H3=>∃v5:Option V,Z=[some (.ref r),some (.int n),some (.ref l),some (.ref z.1),some (.int z.2.length),v5]/\Same H1 H3/\∀k,k<j->(fs.drop k).take z.2.length≠z.2) ⟨_,rfl,s2,λk hk=>by omega⟩ ?_ ?_⟩
   ·rintro j Z H3 hj ⟨v5,rfl,s3,hno2⟩;refine⟨_,rfl,_,rfl,_,rfl,_,rfl,_,rfl,_,_,rfl,rfl,_,rfl,l,_,rfl,SqL.of (s3 _ _ hL),λp hp=>?_⟩;have e1:uQ (fs.map V.int) (some (0+(j:Int))) (some (0+(j:Int)+(z.2.length:Int)))=((fs.drop j).take z.2.length).map V.int:=by
     have e:(0+(j:Int)+(z.2.length:Int))=((j+z.2.length:Nat):Int):=by omega
     rw[e,Int.zero_add,zbm,List.map_take,List.map_drop,Nat.add_sub_cancel_left]
    rw[e1];have s4:=s3.trans (zr hp (o:=.lst (((fs.drop j).take z.2.length).map V.int)));refine⟨_,rfl,wK ((fs.drop j).take z.2.length),wK z.2,TrAt.ints (a:=p) (SqL.of zp),TrAt.ints (a:=z.1) (SqL.of (s4 _ _ hzl)),(by rw[ju];decide),_,rfl,?_⟩;show if teq (wK ((fs.drop j).take z.2.length)) (wK z.2)=true then _ else _;rw[jC];by_cases hq:(fs.drop j).take z.2.length=z.2
    ·rw[decide_eq_true hq];refine xU ?_;have q:=kk' _ (s1.trans s4);rw[show lacks (zs.map (·.2)) fs=false by
      unfold lacks;rw[show ((zs.map (·.2)).any λst=>Z5 st fs)=true from List.any_eq_true.mpr ⟨z.2,List.mem_map.mpr ⟨z,hzm,rfl⟩,(vV hzne).mpr ⟨j,hq⟩⟩];rfl]at q
     exact q
    ·rw[decide_eq_false hq];refine xF ⟨_,rfl,s4,λk hk=>?_⟩;by_cases e:k<j
     ·exact hno2 k e
     ·have:k=j:=by omega
      rw[this];exact hq
   ·rintro Z H3 ⟨v5,rfl,s3,hno2⟩;refine⟨_,_,_,rfl,s3,λy hy=>?_⟩;rw[List.take_succ,hzj]at hy;rcases List.mem_append.mp hy with hy | hy
    ·exact hno y hy
    ·have e:y=z:=by simpa using hy
     rw[e,UG hzne,List.any_eq_false];intro k hk;have hk:=List.mem_range.mp hk;rw[decide_eq_false (hno2 k hk)];exact Bool.false_ne_true
  ·rintro Z H2 ⟨v3,v4,v5,rfl,s2,hno⟩;rw[List.length_map,List.take_length]at hno;have q:=kk' _ (s1.trans s2);rw[show lacks (zs.map (·.2)) fs=true by
    unfold lacks;rw[show ((zs.map (·.2)).any λst=>Z5 st fs)=false from List.any_eq_false.mpr λst hst=>by
     obtain⟨z,hz,rfl⟩:=List.mem_map.mp hst;rw[hno z hz];exact Bool.false_ne_true]
    rfl]at q
   exact q
end
section
variable {P:Program} {w:World} {K:W.Frag} {mg:Str->Option Value} {base:Heap}
def ZK:Sp:=λvs H Q _=>Ex4 λr b bl zs=>vs=[.ref r]/\RuleAt H r b bl zs/\zs.length<=100 /\
 ∀r' bl' zs' H',Same H H'->RuleAt H' r' b bl' zs'->zs'.map (·.2)=zs.map (·.2)->H bl'=none->H r'=none->(∀z∈zs',H z.1=none/\z.1≠bl')->Q (.ref r') H'
theorem JL:zF ["rule"] ["rule"] (zx uI):={}
theorem Wy(D:Df K mg "_law_copy" uI Aj f fd)(T:Blt mg):FnOk P w K mg base CX0 1 f fd Aj ZK:=by
 refine D.fn.ok JL (λvs H Q E h=>?_) (λcdv A outer s H vs Q E hr h=>?_)
 ·obtain⟨r,b,bl,zs,rfl,_⟩:=h;rfl
 ·obtain⟨r,b,bl,zs,rfl,R,hl,kk⟩:=h;refine⟨_,(zu (zG (wC (zf (zR (vO K) (pv 0) zm (λ_ _=>rfl)) (zf (yV (show CScope (zx uI) _ "stretch" ["rule"] [] [] from {}) rfl (je K (zR (vO K) (pv 0) zm (λ_ _=>rfl))) (λ_ _ _ _=>yX) (λ_ _ _ _=>(wM (zaN K) (by rfl) T.n_list boot_list (zf (pv 0) zg)))) zg))))),?_⟩;refine⟨_,rfl,r,_,_,V.int b,rfl,rfl,SqT.of R.tu,rfl,?_⟩;refine⟨_,rfl,r,_,_,V.ref bl,rfl,rfl,SqT.of R.tu,rfl,bl,rfl,⟨_,SqL.of R.li⟩,xu (λi ys H4=>Same H H4/\∃ws:ZB,ys=ws.map (λz=>V.ref z.1)/\ws.length=i/\ws.map (·.2)=(zs.take i).map (·.2)/\∀z∈ws,H z.1=none/\H4 z.1=some (.lst (z.2.map V.int))) ⟨Same.refl _,[],rfl,rfl,rfl,by simp⟩ (λi ys H4 _ ⟨e,_⟩=>SqL.of (e _ _ R.li)) ?_ ?_⟩
  ·rintro j x ys H4 hx ⟨s4,ws,rfl,hwl,hw2,hws⟩;rw[List.getElem?_map]at hx;obtain⟨z,hzj,e⟩:=Option.map_eq_some_iff.mp hx;subst e;have hzm:=List.mem_of_getElem? hzj;have hj:=(List.getElem?_eq_some_iff.mp hzj).1;refine⟨by rw[List.length_map,hwl];exact Nat.lt_of_lt_of_le (show j<101 by omega) (by decide),?_⟩;unfold jJ;refine⟨_,rfl,z.1,_,rfl,.inl (SqL.of (s4 _ _ (R.st z hzm))),λp hp=>⟨s4.trans (zr hp),ws++[(p,z.2)],by simp,by simp[hwl],?_,λy hy=>?_⟩⟩
   ·rw[List.map_append,hw2,List.take_succ,hzj];simp
   ·rcases List.mem_append.mp hy with hy | hy
    ·exact⟨(hws y hy).1,zr hp _ _ (hws y hy).2⟩
    ·have e:y=(p,z.2):=by simpa using hy
     subst e;exact⟨s4.free hp,zp⟩
  ·rintro ys H4 ⟨s4,ws,rfl,hwl,hw2,hws⟩ bl' hbl';refine⟨(by show 2<=sizeLine;decide),λr' hr'=>?_⟩;have s5:=zr hbl' (o:=.lst (ws.map λz=>V.ref z.1));have s6:=zr hr' (o:=.tup [.int b,.ref bl']);refine kk r' bl' ws _ (s4.trans (s5.trans s6)) ⟨zp,s6 _ _ zp,λz hz=>s6 _ _ (s5 _ _ (hws z hz).2)⟩ ?_ (s4.free hbl') (s4.free (s5.free hr')) λz hz=>⟨(hws z hz).1,zK (hws z hz).2 hbl'⟩
   rw[hw2,List.length_map,List.take_length]
end
theorem FnOk.calm{K:W.Frag}(F:FnOk P w K mg base (CX1 P w) k f fd ps sp):FnOk P w K mg base CX0 k f fd ps (λvs H Q _=>sp vs H Q λ_ _ _=>False):=
 ⟨λvs H Q E h=>F.len vs H Q _ h,λA outer s H args us vs Q E hr e0 hb hv hs=>codeAny_mono (F.run A outer s H args us vs Q (λ_ _ _=>False) hr e0 hb hv hs) λr s' q=>by
  cases r with
  |error e=>obtain⟨_,_,_,_,_,_,_,_,_,_,_,hE⟩:=q;exact hE.elim
  |ok fl=>cases fl<;>exact q⟩
section
variable {P:Program} {w:World} {K:W.Frag} {mg:Str->Option Value} {base:Heap} {T0:Addr}
def WR(P:Program)(w:World):Sp:=λvs H Q _=>Ex5 λrd tl dd b ts=>vs=[.ref rd]/\Rdr P w H rd tl dd b ts/\∀H',SameD dd H H'->RdD P w H' dd (ts.map (·.2)) b->Q (.int (uo (ts.map (·.2)) b 60:Nat)) H'
theorem Wa:zF ["reader","nought"] ["reader"] (zx uF):={}
theorem zaw(D:Df K mg "_law_most" uF ["reader"] f fd)(zJ:Df K mg "_law_after" zW Af f2 fd2)(yz:Df K mg "_law_long" xN Ah f4 fd4)(yH:FnOk P w K mg base CX0 209 f4 fd4 Ah (w6 P w 205))(T:Blt mg)(U:Wu mg):FnOk P w K mg base CX0 210 f fd ["reader"] (WR P w):=by
 have xR:FnOk P w K mg base CX0 1 f2 fd2 Af (vC P w):=uv zJ T;refine D.fn.ok Wa (λvs H Q E h=>?_) (λcdv A outer s H vs Q E hr h=>?_)
 ·obtain⟨rd,tl,dd,b,ts,rfl,_⟩:=h;rfl
 ·obtain⟨rd,tl,dd,b,ts,rfl,R,kk⟩:=h;have b2:=R.g.b2;have ne:∀st∈ts.map (·.2),st≠[]:=λst h=>(R.g.st st h).ne;refine xO ?_;intro XX;let q1:Sq XX ((zq uF).drop 1):=⟨_,zu (zG (zy ym (pv 1) (zz (za9 K rfl) (by rfl) U.n_sum boot_sum (zf (yV (show CScope (zx uF) _ "length" ["reader","nought"] ["reader"] [0] from {}) rfl (YL rfl T.n_range (zf zm (zf zm zg))) (λ_ _ _ _=>yX) (λ_ _ _ _=>(zE yz yH (hr.mono (by decide)) (zf (pv 1) (zf (pv 0) zg))))) zg))))⟩
  refine⟨_,(zj (zA (i:=1) Wa.nd rfl (Or.inl rfl) (wM tZ (by rfl) T.n_int boot_int (zf (xr jX (zE zJ xR (hr.mono (by decide)) (zf (pv 0) (zf (wC zg) (zf zm zg)))) xM (zM _)) zg))) q1.p),?_⟩;refine⟨_,rfl,(by decide),λe0 he0=>?_⟩;have m2:=zr he0 (o:=.tup []);have R2:=R.same m2;refine⟨rd,tl,dd,b,ts,e0,[],0,rfl,R2,zp,.inl rfl,by omega,λv H3 s3 r3 av=>?_⟩;have R3:=R2.sameD s3 r3;have s03:=(SameD.of m2).trans s3;have ev:decide (v=V.non)=!lacks (ts.map (·.2)) [0]:=by
   cases ha:aft (ts.map (·.2)) [] (0:Nat) with
   |none=>
    rw[ha]at av;obtain rfl:v=.non:=av;rw[decide_eq_true rfl,show lacks (ts.map (·.2)) [0]=false from Yu ha];rfl
   |some y=>
    rw[ha]at av;obtain⟨c,rfl,_⟩:=av;rw[decide_eq_false (λz=>by cases z),show lacks (ts.map (·.2)) [0]=true from (Zu ne ha).1];rfl
  refine⟨rfl,.inr ⟨_,rfl,?_⟩⟩;rw[ev,Bool.not_not];refine⟨_,rfl,1,61,rfl,by decide,?_⟩;rw[show ((61:Int)-1).toNat=60 from rfl];refine vQ (λi ys Hc=>ys=((List.range i).map λt=>((ww (ts.map (·.2)) b t:Nat):Int)).map V.int/\Rdr P w Hc rd tl dd b ts/\SameD dd H3 Hc) ⟨rfl,R3,SameD.of (Same.refl _)⟩ ?_ ?_
  ·rintro i ys Hc hi ⟨rfl,Rc,sc⟩;refine⟨by rw[List.length_map,List.length_map,List.length_range];exact Nat.lt_of_le_of_lt (show i<=1000 by omega) (by decide),?_⟩;refine⟨_,rfl,_,rfl,rd,tl,dd,b,ts,i,by rw[show 1+i=((i+1:Nat):Int) by omega];rfl,by omega,Rc,λHd sd rdd=>⟨?_,Rc.sameD sd rdd,sc.trans sd⟩⟩;rw[List.range_succ,List.map_append,List.map_append];rfl
  rintro ys Hc ⟨rfl,Rc,sc⟩ Dd hD;have mD:=zr hD (o:=.lst (((List.range 60).map λt=>((ww (ts.map (·.2)) b t:Nat):Int)).map V.int));refine⟨Dd,_,rfl,SqL.of zp,_,_,rfl,rfl,?_⟩;have et:(if lacks (ts.map (·.2)) [0]=true then 1 else 0)+((List.range 60).map λt=>((ww (ts.map (·.2)) b t:Nat):Int)).sum=((uo (ts.map (·.2)) b 60:Nat)):=by
   rw[WW,<-Xw (ts.map (·.2)) b2 60,Int.natCast_add];split<;>rfl
  dsimp only;rw[et];exact kk _ ((s03.trans sc).trans (SameD.of mD)) (Rc.same mD).d
end
end Lw
namespace Lw
open PySem L2 PyProof.Rows
structure zb1 (mg:Str->Option Value) (qA qB qE qS qV xA xB xC xD xE xI xS yA:Addr):Prop where
 qAb:mg "NoBase"= some (.ref qA)
 qAf:mg "NoNumber"= some (.ref qB)
 qAc:mg "NoFigures"= some (.ref qE)
 qAh:mg "NoRule"= some (.ref qS)
 qAj:mg "NoStand"= some (.ref qV)
 qAd:mg "NoGood"= some (.ref xA)
 qAa:mg "Endless"= some (.ref xB)
 qAi:mg "NoRules"= some (.ref xC)
 qBa:mg "NoStretch"= some (.ref xD)
 qBc:mg "TooMany"= some (.ref xE)
 qBb:mg "NoText"= some (.ref xI)
 qAe:mg "NoName"= some (.ref xS)
 qAg:mg "NoRow"= some (.ref yA)
structure zd2 (K:W.Frag) (C qA qB qE qS qV xA xB xC xD xE xI xS yA:Addr) (k:Nat):Prop where
 i:zag K C
 v:W.kitOne K (.ref C) (.type "ValueError")=some true
 k0:W.kitOne K (.ref C) (.ref qA)=some (decide (0=k))
 k1:W.kitOne K (.ref C) (.ref qB)=some (decide (1=k))
 k2:W.kitOne K (.ref C) (.ref qE)=some (decide (2=k))
 k3:W.kitOne K (.ref C) (.ref qS)=some (decide (3=k))
 k4:W.kitOne K (.ref C) (.ref qV)=some (decide (4=k))
 k5:W.kitOne K (.ref C) (.ref xA)=some (decide (5=k))
 k6:W.kitOne K (.ref C) (.ref xB)=some (decide (6=k))
 k7:W.kitOne K (.ref C) (.ref xC)=some (decide (7=k))
 k8:W.kitOne K (.ref C) (.ref xD)=some (decide (8=k))
 k9:W.kitOne K (.ref C) (.ref xE)=some (decide (9=k))
 k10:W.kitOne K (.ref C) (.ref xI)=some (decide (10=k))
 k11:W.kitOne K (.ref C) (.ref xS)=some (decide (11=k))
 k12:W.kitOne K (.ref C) (.ref yA)=some (decide (12=k))
theorem VH:bootBuiltins "ValueError"= some (.type "ValueError"):=by decide +kernel
theorem zas{K:W.Frag}{H:Hp}:∀{bs:List Bool},TrsAt K H (bs.map Tr.bl) (bs.map V.bl)
 |[]=>by rw[List.map_nil,List.map_nil,TrsAt]
 |b::bs=>by rw[List.map_cons,List.map_cons,TrsAt];exact⟨_,_,rfl,by rw[TrAt],zas⟩
theorem Qc:∀bs:List Bool,qQ (bs.map Tr.bl) (bs.map Tr.bl)=true
 |[]=>by rw[List.map_nil,qQ]
 |b::bs=>by rw[List.map_cons,qQ,Qc bs,teq];simp
theorem Vx:∀bs:List Bool,wj (bs.map Tr.bl)=0
 |[]=>by rw[List.map_nil,wj]
 |b::bs=>by rw[List.map_cons,wj,Vx bs];rfl
def zhQ(k j:Nat):Prop:=(k=3/\j=0)\/(k=1/\j=1)\/(k=5/\j=2)\/(k=2/\j=3)
section
variable {P:Program} {w:World} {K:W.Frag} {mg:Str->Option Value} {base:Heap}
def Zb(K:W.Frag)(qA qB qE qS qV xA xB xC xD xE xI xS yA:Addr):Sp:=λvs H Q _=>Ex4 λ(e:Addr) (C:Addr) (k:Nat) (j:Nat)=>vs=[.ref e,.int j]/\H e=some (VJ e C)/\zd2 K C qA qB qE qS qV xA xB xC xD xE xI xS yA k/\zhQ k j/\∀H',Same H H'->Q (.bl true) H'
theorem wH:zF ["caught","due","kinds"] ["caught","due"] (zx tK):={}
set_option maxHeartbeats 0 in
theorem QF(D:Df K mg "_law_kinds" tK A4 f fd)(XN:zb1 mg qA qB qE qS qV xA xB xC xD xE xI xS yA)(qBj:mg "ValueError"= none)(T:Blt mg):FnOk P w K mg base CX0 1 f fd A4 (Zb K qA qB qE qS qV xA xB xC xD xE xI xS yA):=by
 obtain⟨qAb,qAf,qAc,qAh,qAj,qAd,qAa,qAi,qBa,qBc,qBb,qAe,qAg⟩:=XN;refine D.fn.ok wH (λvs H Q E h=>?_) (λcdv A outer s H vs Q E hr h=>?_)
 ·obtain⟨e,C,k,j,rfl,_⟩:=h;rfl
 ·obtain⟨e,C,k,jj,rfl,he,Kd,hk,kk⟩:=h;have HU:=zax hr;refine⟨_,(zj (zA (i:=2) wH.nd rfl (Or.inl rfl) (yc (zf (zz (uV K) (by rfl) T.n_isinstance boot_isinstance (zf (pv 0) (zf (xK (v:=.ref qS) rfl qAh rfl) zg))) (zf (zz (uV K) (by rfl) T.n_isinstance boot_isinstance (zf (pv 0) (zf (xK (v:=.ref qB) rfl qAf rfl) zg))) (zf (zz (uV K) (by rfl) T.n_isinstance boot_isinstance (zf (pv 0) (zf (xK (v:=.ref xA) rfl qAd rfl) zg))) zg)))))
   (zj (zA (i:=2) wH.nd rfl (Or.inl rfl) (zy wQ (pv 2) (yc (zf (zz (uV K) (by rfl) T.n_isinstance boot_isinstance (zf (pv 0) (zf (xK (v:=.ref qE) rfl qAc rfl) zg))) (zf (zz (uV K) (by rfl) T.n_isinstance boot_isinstance (zf (pv 0) (zf (xK (v:=.ref xE) rfl qBc rfl) zg))) zg)))))
   (zj (zA (i:=2) wH.nd rfl (Or.inl rfl) (zy wQ (pv 2) (yc (zf (zz (uV K) (by rfl) T.n_isinstance boot_isinstance (zf (pv 0) (zf (xK (v:=.ref xB) rfl qAa rfl) zg))) (zf (zz (uV K) (by rfl) T.n_isinstance boot_isinstance (zf (pv 0) (zf (xK (v:=.ref qA) rfl qAb rfl) zg))) zg)))))
   (zj (zA (i:=2) wH.nd rfl (Or.inl rfl) (zy wQ (pv 2) (yc (zf (zz (uV K) (by rfl) T.n_isinstance boot_isinstance (zf (pv 0) (zf (xK (v:=.ref xC) rfl qAi rfl) zg))) (zf (zz (uV K) (by rfl) T.n_isinstance boot_isinstance (zf (pv 0) (zf (xK (v:=.ref qV) rfl qAj rfl) zg))) zg)))))
   (zj (zA (i:=2) wH.nd rfl (Or.inl rfl) (zy wQ (pv 2) (yc (zf (zz (uV K) (by rfl) T.n_isinstance boot_isinstance (zf (pv 0) (zf (xK (v:=.ref xD) rfl qBa rfl) zg))) (zf (zz (uV K) (by rfl) T.n_isinstance boot_isinstance (zf (pv 0) (zf (xK (v:=.ref xI) rfl qBb rfl) zg))) zg)))))
   (zj (zA (i:=2) wH.nd rfl (Or.inl rfl) (zy wQ (pv 2) (yc (zf (zz (uV K) (by rfl) T.n_isinstance boot_isinstance (zf (pv 0) (zf (xK (v:=.ref xS) rfl qAe rfl) zg))) (zf (zz (uV K) (by rfl) T.n_isinstance boot_isinstance (zf (pv 0) (zf (xK (v:=.ref yA) rfl qAg rfl) zg))) zg)))))
   (zj (yG (PW.pt (Ym (zO Xv (pv 0) xM (zM _)) (Zj (wD (xx (zz (uV K) (by rfl) T.n_isinstance boot_isinstance (zf (pv 0) (zf (ue (v:=.ty "ValueError") rfl qBj VH rfl) zg))))))))
    (zu (zG uN))
    zP)
   (zu (zG (xr (zbu K HU) (pv 2) (yV (show CScope (zx tK) _ "k" ["caught","due","kinds"] ["due"] [1] from {}) rfl (yt rfl T.n_range (zf zm zg)) (λ_ _ _ _=>yX) (λ_ _ _ _=>(xr Zt (pv 0) (pv 1) (zM _)))) (zM _))))))))))),?_⟩
  show Uy _ _ _ _ _;refine Tp.asg2 (w:=idV) (Γ:=[some (tyX e C),none,none]) (T1:=uw [V.bl (decide (3=k)),V.bl (decide (1=k)),V.bl (decide (5=k))]) (Tp.lstE (TpE.cons (Tp.isiC rfl Kd.i Kd.k3) (TpE.cons (Tp.isiC rfl Kd.i Kd.k1) (TpE.cons (Tp.isiC rfl Kd.i Kd.k5) TpE.nil)))) trivial (Fits.cons ⟨rfl,he⟩ (Fits.skip (Fits.skip Fits.nil))) λv1 H1 _ s1 t1=>?_;have m1:Same H H1:=s1;show Uy _ _ _ _ _;refine Tp.asg2 (w:=idV) (Γ:=[some (tyX e C),none,some (uw [V.bl (decide (3=k)),V.bl (decide (1=k)),V.bl (decide (5=k))])]) (T1:=uw ([V.bl (decide (3=k)),V.bl (decide (1=k)),V.bl (decide (5=k))]++[V.bl (decide (2=k)),V.bl (decide (9=k))])) (Tp.catE (Tp.var rfl) (Tp.lstE (TpE.cons (Tp.isiC rfl Kd.i Kd.k2) (TpE.cons (Tp.isiC rfl Kd.i Kd.k9) TpE.nil)))) trivial (Fits.cons ⟨rfl,m1 _ _ he⟩ (Fits.skip (Fits.cons t1 Fits.nil))) λv2 H2 _ s2 t2=>?_;have t2:(uw [V.bl (decide (3=k)),V.bl (decide (1=k)),V.bl (decide (5=k)),V.bl (decide (2=k)),V.bl (decide (9=k))]).p H2 v2:=t2;have m2:Same H H2:=m1.trans s2;show Uy _ _ _ _ _;refine Tp.asg2 (w:=idV) (Γ:=[some (tyX e C),none,some (uw [V.bl (decide (3=k)),V.bl (decide (1=k)),V.bl (decide (5=k)),V.bl (decide (2=k)),V.bl (decide (9=k))])]) (T1:=uw ([V.bl (decide (3=k)),V.bl (decide (1=k)),V.bl (decide (5=k)),V.bl (decide (2=k)),V.bl (decide (9=k))]++[V.bl (decide (6=k)),V.bl (decide (0=k))])) (Tp.catE (Tp.var rfl) (Tp.lstE (TpE.cons (Tp.isiC rfl Kd.i Kd.k6) (TpE.cons (Tp.isiC rfl Kd.i Kd.k0) TpE.nil)))) trivial (Fits.cons ⟨rfl,m2 _ _ he⟩ (Fits.skip (Fits.cons t2 Fits.nil))) λv3 H3 _ s3 t3=>?_;have t3:(uw [V.bl (decide (3=k)),V.bl (decide (1=k)),V.bl (decide (5=k)),V.bl (decide (2=k)),V.bl (decide (9=k)),V.bl (decide (6=k)),V.bl (decide (0=k))]).p H3 v3:=t3;have m3:Same H H3:=m2.trans s3;show Uy _ _ _ _ _;refine Tp.asg2 (w:=idV) (Γ:=[some (tyX e C),none,some (uw [V.bl (decide (3=k)),V.bl (decide (1=k)),V.bl (decide (5=k)),V.bl (decide (2=k)),V.bl (decide (9=k)),V.bl (decide (6=k)),V.bl (decide (0=k))])]) (T1:=uw ([V.bl (decide (3=k)),V.bl (decide (1=k)),V.bl (decide (5=k)),V.bl (decide (2=k)),V.bl (decide (9=k)),V.bl (decide (6=k)),V.bl (decide (0=k))]++[V.bl (decide (7=k)),V.bl (decide (4=k))])) (Tp.catE (Tp.var rfl) (Tp.lstE (TpE.cons (Tp.isiC rfl Kd.i Kd.k7) (TpE.cons (Tp.isiC rfl Kd.i Kd.k4) TpE.nil)))) trivial (Fits.cons ⟨rfl,m3 _ _ he⟩ (Fits.skip (Fits.cons t3 Fits.nil))) λv4 H4 _ s4 t4=>?_;have t4:(uw [V.bl (decide (3=k)),V.bl (decide (1=k)),V.bl (decide (5=k)),V.bl (decide (2=k)),V.bl (decide (9=k)),V.bl (decide (6=k)),V.bl (decide (0=k)),V.bl (decide (7=k)),V.bl (decide (4=k))]).p H4 v4:=t4;have m4:Same H H4:=m3.trans s4;show Uy _ _ _ _ _;refine Tp.asg2 (w:=idV) (Γ:=[some (tyX e C),none,some (uw [V.bl (decide (3=k)),V.bl (decide (1=k)),V.bl (decide (5=k)),V.bl (decide (2=k)),V.bl (decide (9=k)),V.bl (decide (6=k)),V.bl (decide (0=k)),V.bl (decide (7=k)),V.bl (decide (4=k))])]) (T1:=uw ([V.bl (decide (3=k)),V.bl (decide (1=k)),V.bl (decide (5=k)),V.bl (decide (2=k)),V.bl (decide (9=k)),V.bl (decide (6=k)),V.bl (decide (0=k)),V.bl (decide (7=k)),V.bl (decide (4=k))]++[V.bl (decide (8=k)),V.bl (decide (10=k))])) (Tp.catE (Tp.var rfl) (Tp.lstE (TpE.cons (Tp.isiC rfl Kd.i Kd.k8) (TpE.cons (Tp.isiC rfl Kd.i Kd.k10) TpE.nil)))) trivial (Fits.cons ⟨rfl,m4 _ _ he⟩ (Fits.skip (Fits.cons t4 Fits.nil))) λv5 H5 _ s5 t5=>?_;have t5:(uw [V.bl (decide (3=k)),V.bl (decide (1=k)),V.bl (decide (5=k)),V.bl (decide (2=k)),V.bl (decide (9=k)),V.bl (decide (6=k)),V.bl (decide (0=k)),V.bl (decide (7=k)),V.bl (decide (4=k)),V.bl (decide (8=k)),V.bl (decide (10=k))]).p H5 v5:=t5;have m5:Same H H5:=m4.trans s5;show Uy _ _ _ _ _;refine Tp.asg2 (w:=idV) (Γ:=[some (tyX e C),none,some (uw [V.bl (decide (3=k)),V.bl (decide (1=k)),V.bl (decide (5=k)),V.bl (decide (2=k)),V.bl (decide (9=k)),V.bl (decide (6=k)),V.bl (decide (0=k)),V.bl (decide (7=k)),V.bl (decide (4=k)),V.bl (decide (8=k)),V.bl (decide (10=k))])]) (T1:=uw ([V.bl (decide (3=k)),V.bl (decide (1=k)),V.bl (decide (5=k)),V.bl (decide (2=k)),V.bl (decide (9=k)),V.bl (decide (6=k)),V.bl (decide (0=k)),V.bl (decide (7=k)),V.bl (decide (4=k)),V.bl (decide (8=k)),V.bl (decide (10=k))]++[V.bl (decide (11=k)),V.bl (decide (12=k))])) (Tp.catE (Tp.var rfl) (Tp.lstE (TpE.cons (Tp.isiC rfl Kd.i Kd.k11) (TpE.cons (Tp.isiC rfl Kd.i Kd.k12) TpE.nil)))) trivial (Fits.cons ⟨rfl,m5 _ _ he⟩ (Fits.skip (Fits.cons t5 Fits.nil))) λv6 H6 _ s6 t6=>?_;have t6:(uw [V.bl (decide (3=k)),V.bl (decide (1=k)),V.bl (decide (5=k)),V.bl (decide (2=k)),V.bl (decide (9=k)),V.bl (decide (6=k)),V.bl (decide (0=k)),V.bl (decide (7=k)),V.bl (decide (4=k)),V.bl (decide (8=k)),V.bl (decide (10=k)),V.bl (decide (11=k)),V.bl (decide (12=k))]).p H6 v6:=t6;have m6:Same H H6:=m5.trans s6;obtain⟨l5,rfl,h5⟩:=t6;have e5:[V.bl (decide (3=k)),V.bl (decide (1=k)),V.bl (decide (5=k)),V.bl (decide (2=k)),V.bl (decide (9=k)),V.bl (decide (6=k)),V.bl (decide (0=k)),V.bl (decide (7=k)),V.bl (decide (4=k)),V.bl (decide (8=k)),V.bl (decide (10=k)),V.bl (decide (11=k)),V.bl (decide (12=k))]=((List.range 13).map λj=>decide (j=jj)).map V.bl:=by
   rcases hk with ⟨rfl,rfl⟩ | ⟨rfl,rfl⟩ | ⟨rfl,rfl⟩ | ⟨rfl,rfl⟩<;>rfl
  rw[e5]at h5;have h5:H6 l5=some (.lst (((List.range 13).map λj=>decide (j=jj)).map V.bl)):=h5;refine⟨_,rfl,rfl,_,rfl,jK (decide_eq_false (λz=>by cases z)) ?_⟩;refine⟨_,rfl,e,C,_,_,_,rfl,rfl,(λ_ h=>h),m6 _ _ he,Kd.i,Kd.v,_,rfl,xF ?_⟩;refine⟨_,rfl,13,rfl,by decide,by decide,vQ (lo:=0) (n:=(13:Int).toNat) (λi ys Hq=>ys=((List.range i).map λj=>decide (j=jj)).map V.bl/\Hq=H6) ⟨rfl,rfl⟩ ?_ ?_⟩
  ·rintro i ys Hq hi ⟨rfl,rfl⟩;have hi:i<13:=hi;refine⟨by rw[List.length_map,List.length_map,List.length_range];exact Nat.lt_of_lt_of_le hi (by decide),?_⟩;unfold jJ;dsimp only;rw[if_pos rfl];refine⟨_,rfl,_,rfl,rfl,?_,rfl⟩;rw[List.range_succ,List.map_append,List.map_append];have e:decide (V.int (0+(i:Int))=V.int (jj:Int))=decide (i=jj):=decide_eq_decide.mpr ⟨λz=>by injection z with z;omega,λz=>by rw[z,Int.zero_add]⟩;rw[e];rfl
  ·rintro ys Hq ⟨rfl,rfl⟩ Dd hD;have mD:=zr hD (o:=.lst (((List.range (13:Int).toNat).map λj=>decide (j=jj)).map V.bl));refine⟨.lst (((List.range 13).map λj=>decide (j=jj)).map Tr.bl),.lst (((List.range 13).map λj=>decide (j=jj)).map Tr.bl),?_,?_,?_,?_⟩
   ·rw[TrAt];exact⟨l5,_,rfl,SqL.of (mD _ _ h5),zas⟩
   ·rw[TrAt];exact⟨Dd,_,rfl,SqL.of zp,zas⟩
   ·rw[qj,Vx];decide
   ·have q:=kk _ (m6.trans mD);rw[<-show teq (.lst (((List.range 13).map λj=>decide (j=jj)).map Tr.bl)) (.lst (((List.range 13).map λj=>decide (j=jj)).map Tr.bl))=true by rw[teq];exact Qc _]at q;exact q
end
theorem zbU(h2:2<=b)(h16:b<=16)(h:(zT b n).length<=200):n<2^900:=by
 have h1:=wU h2 (rfl:(zT b n).length=_);have h3:=Nat.le_trans (Nat.pow_le_pow_left h16 _) (Nat.pow_le_pow_right (by decide) h);have h4:16^200<=2^900:=by
  rw[show 16=2^4 from rfl,<-Nat.pow_mul];exact Nat.pow_le_pow_right (by decide) (by decide)
 omega
theorem RuleAt.off(R:RuleAt H r b bl zs)(h1:r≠s)(h2:bl≠s)(h3:∀z∈zs,z.1≠s):RuleAt (aw [s] H) r b bl zs :=
 ⟨by rw[xf (by simpa using h1)];exact R.tu,by rw[xf (by simpa using h2)];exact R.li,λz hz=>by rw[xf (by simpa using h3 z hz)];exact R.st z hz⟩
theorem RdS.off(R:RdS H rd tl dd b ts)(h1:rd≠s)(h2:tl≠s)(h3:∀z∈ts,z.1≠s):RdS (aw [s] H) rd tl dd b ts :=
 ⟨by rw[xf (by simpa using h1)];exact R.hd,by rw[xf (by simpa using h2)];exact R.li,λz hz=>by rw[xf (by simpa using h3 z hz)];exact R.st z hz⟩
def zcH(b:Nat)(ls:ZA):Tr:=.tup [.int b,.lst (ls.map wK)]
theorem Ju(b:Nat)(ls:ZA):qj (zcH b ls)<=8:=by
 unfold zcH;rw[qj,wj,wj,wj,qj,qj]
 ·have:=jT ls;omega
 all_goals (intros;rename_i z;cases z)
theorem TrAt.rule{K:W.Frag}(R:RuleAt H r b bl zs):TrAt K H (zcH b (zs.map (·.2))) (.ref r):=by
 refine⟨r,_,rfl,SqT.of R.tu,?_⟩;refine⟨_,_,rfl,by rw[TrAt],?_⟩;refine⟨_,_,rfl,?_,by rw[TrsAt]⟩;exact⟨bl,_,rfl,SqL.of R.li,TrsAt.lists R.st⟩
def SameTD(T dd:Addr)(H H':Hp):Prop:=∀c o,c≠T->c≠dd->H c=some o->H' c=some o
theorem SameTD.ofL(m:SameL T H H'):SameTD T dd H H':=λc o h _ e=>m c o h e
theorem SameTD.ofD(m:SameD dd H H'):SameTD T dd H H':=λc o _ h e=>m c o h e
theorem SameTD.trans(m:SameTD T dd H H')(n:SameTD T dd H' H2):SameTD T dd H H2:=λc o h1 h2 e=>n c o h1 h2 (m c o h1 h2 e)
structure Shw (d:PyData):Prop where
 sh:d.showable=true
 sl:d.shown.length<=sizeLine
 dp:d.depth<=40
theorem Fit.shw(f:Fit k n d)(hk:k<=40)(hn:n<=100000):Shw d:=⟨f.sh,f.shown hn,Nat.le_trans f.dp hk⟩
theorem Shw.num{n:Nat}(h:n<2^900):Shw (.int n):=by
 refine⟨?_,?_,by exact Nat.zero_le _⟩
 ·rw[PyData.showable];refine decide_eq_true ?_;have:(n:Int).natAbs.log2<900:=by
   by_cases z:n=0
   ·subst z;decide
   ·exact (Nat.log2_lt z).mpr h
  omega
 ·have h3:(n:Int).natAbs<10^300:=by
   have:2^900<=10^300:=by decide +kernel
   omega
  have:=int_text_length_le10 (by decide) h3;rw[PyData.shown,PySem.ofString_length,sizeLine_eq];omega
section
variable {P:Program} {w:World} {T0:Addr} {r:Addr} {b:Nat} {bl:Addr} {zs:ZB} {rd tl dd:Addr} {ts:ZB} {H H':Hp}
structure Pair (P:Program) (w:World) (T0 r:Addr) (b:Nat) (bl:Addr) (zs:ZB) (rd tl dd:Addr) (ts:ZB) (H:Hp):Prop where
 lt:LT T0 H
 R:RuleAt H r b bl zs
 S:RdS H rd tl dd b ts
 D:RdD P w H dd (ts.map (·.2)) b
theorem Pair.td(N:Pair P w T0 r b bl zs rd tl dd ts H)(m:SameTD T0 dd H H')(lt:LT T0 H')(D:RdD P w H' dd (ts.map (·.2)) b):Pair P w T0 r b bl zs rd tl dd ts H':=by
 have nl:∀{c xs},H c=some (.lst xs)->H' c=some (.lst xs):=λ{c xs} e=>m _ _ (N.lt.lst e) (N.D.ne e λ_ z=>nomatch z) e;have nt:∀{c xs},H c=some (.tup xs)->H' c=some (.tup xs):=λ{c xs} e=>m _ _ (N.lt.tup e) (N.D.ne e λ_ z=>nomatch z) e;exact⟨lt,⟨nt N.R.tu,nl N.R.li,λz hz=>nl (N.R.st z hz)⟩,⟨nl N.S.hd,nl N.S.li,λz hz=>nt (N.S.st z hz)⟩,D⟩
theorem Pair.sameL(N:Pair P w T0 r b bl zs rd tl dd ts H)(m:SameL T0 H H')(lt:LT T0 H'):Pair P w T0 r b bl zs rd tl dd ts H':=N.td (.ofL m) lt (N.D.sameL N.lt m)
theorem Pair.same(N:Pair P w T0 r b bl zs rd tl dd ts H)(m:Same H H'):Pair P w T0 r b bl zs rd tl dd ts H':=N.sameL (SameL.of m) (N.lt.same m)
theorem Pair.sameD(N:Pair P w T0 r b bl zs rd tl dd ts H)(m:SameD dd H H')(D:RdD P w H' dd (ts.map (·.2)) b):Pair P w T0 r b bl zs rd tl dd ts H':=N.td (.ofD m) (N.lt.sameD N.D m) D
theorem Pair.rdr(N:Pair P w T0 r b bl zs rd tl dd ts H)(g:yx b (ts.map (·.2))):Rdr P w H rd tl dd b ts:=⟨N.S,N.D,g⟩
end
section
variable {P:Program} {w:World} {K:W.Frag} {mg:Str->Option Value} {base:Heap} {T0:Addr}
def Zg(P:Program)(w:World)(T0:Addr):Sp:=λvs H Q _=>Ex6 λr b bl zs rd tl=>Ex4 λdd ts v d=>vs=[.ref r,.ref rd,v]/\Pair P w T0 r b bl zs rd tl dd ts H/\zs.map (·.2)=ts.map (·.2)/\yx b (ts.map (·.2))/\ThAt H d v/\Shw d/\(∀n:Nat,d=.int n->n<2^900/\(zT b n).length<=205) /\
 ∀H',SameTD T0 dd H H'->LT T0 H'->RdD P w H' dd (ts.map (·.2)) b->Q (.bl true) H'
theorem yZ:zF ["handed","reader","thing","rule","kept","caught","found","e","whole"] ["handed","reader","thing"] (zx yq):={}
set_option maxHeartbeats 0 in
theorem Qy(D:Df K mg "_law_right" yq Aq f fd)(vW:Df K mg "_law_copy" uI Aj f1 fd1)(qp:Df K mg "place_of" uB Ac f2 fd2)(uG:FnOk P w K mg base (CX1 P w) 10 f2 fd2 Ac (Yn T0 xA))(qy:Df K mg "_law_is_good" xV Ac f3 fd3)(Zc:FnOk P w K mg base CX0 2 f3 fd3 Ac Yg)(j4:Df K mg "_law_kinds" tK A4 f4 fd4)(XN:zb1 mg qA qB qE qS qV xA xB xC xD xE xI xS yA)(qBj:mg "ValueError"= none)(vU:Df K mg "_law_below" yd Am f5 fd5)(uH:FnOk P w K mg base CX0 210 f5 fd5 Am (qu P w 205))(qBd:zb8 K mg "LackError" yB)(qBg:W.kitCls K (.ref xA) (.ref yB)=some true)(qBf:zd2 K xA qA qB qE qS qV xA xB xC xD xE xI xS yA 5)(T:Blt mg):FnOk P w K mg base CX0 211 f fd Aq (Zg P w T0):=by
 have Xu:FnOk P w K mg base CX0 1 f1 fd1 Aj ZK:=Wy vW T;have zaS:FnOk P w K mg base CX0 1 f4 fd4 A4 (Zb K qA qB qE qS qV xA xB xC xD xE xI xS yA):=QF j4 XN qBj T;refine D.fn.ok yZ (λvs H Q E h=>?_) (λcdv A outer s H vs Q E hr h=>?_)
 ·obtain⟨r,b,bl,zs,rd,tl,dd,ts,v,d,rfl,_⟩:=h;rfl
 ·obtain⟨r,b,bl,zs,rd,tl,dd,ts,v,d,rfl,N,ez,g,hd,sw,hn,kk⟩:=h;have HU:=zax hr;have gz:yx b (zs.map (·.2)):=by rw[ez];exact g
  have hz4:zs.length<=4:=by have:=gz.len;rwa[List.length_map]at this
  refine xO ?_;intro XX;let q1:Sq XX ((zq yq).drop 9):=⟨_,zu (zG (xr Zt (pv 6) (zE vU uH (hr.mono (by decide)) (zf (pv 1) (zf (pv 2) zg))) (zM _)))⟩
  let q2:Sq XX ((zq yq).drop 8):=⟨_,zj (yG (PW.pt (Ym (zO jX (pv 5) xM (zM _)) (Ym (wD (xx (zz (Vv K) (by rfl) T.n_isinstance boot_isinstance (zf (pv 6) (zf (ue (v:=.ty "int") rfl T.n_int boot_int rfl) zg))))) (Zj (xx (zz (Vv K) (by rfl) T.n_isinstance boot_isinstance (zf (pv 6) (zf (ue (v:=.ty "bool") rfl T.n_bool boot_bool rfl) zg))))))))
    (zu (zG uN))
    zP) q1.p⟩
  let q3:Sq XX ((zq yq).drop 7):=⟨_,zj (yG (PW.pt (Ym (wD (xx (pv 8))) (Zj (wD (xx (zE qy Zc (hr.mono (by decide)) (zf (pv 3) (zf (pv 2) zg))))))))
    (zu (zG (ql (xr Xv (pv 6) xM (zM _)) (qd (zE j4 zaS (hr.mono (by decide)) (zf (pv 5) (zf zm zg)))))))
    zP) q2.p⟩
  let q4:Sq XX ((zq yq).drop 6):=⟨_,zj (zA (i:=8) yZ.nd rfl (Or.inl rfl) (ql (zz (Vv K) (by rfl) T.n_isinstance boot_isinstance (zf (pv 2) (zf (ue (v:=.ty "int") rfl T.n_int boot_int rfl) zg))) (ql (zaq (zz (Vv K) (by rfl) T.n_isinstance boot_isinstance (zf (pv 2) (zf (ue (v:=.ty "bool") rfl T.n_bool boot_bool rfl) zg)))) (qd (xr zbp (pv 2) zm (zM _)))))) q3.p⟩
  let q5:Sq XX ((zq yq).drop 5):=⟨_,zj (yG (PW.pt (Ym (zO (zeH K HU) (pv 0) (pv 3) (zM _)) (Zj (zO zcD (zz (Qs hr.gd HU) (by rfl) T.n_repr PyProof.Rows.boot_repr (zf (pv 2) zg)) (pv 4) (zM _)))))
    (zu (zG uN))
    zP) q4.p⟩
  let q6:Sq XX ((zq yq).drop 4):=⟨_,zj (zeU (i:=7) qBd rfl rfl yZ.nd rfl rfl (λ_ _ _ hS=>
    (zu (zA (i:=6) yZ.nd rfl (Or.inl rfl) (zgn qp uG (hr.mono (by decide)) hS (zf (pv 0) (zf (pv 2) zg)))))) (λ_=>
    (zu (zA (i:=5) yZ.nd rfl (Or.inl rfl) (pv 7))))) q5.p⟩
  let q7:Sq XX ((zq yq).drop 3):=⟨_,zj (zA (i:=6) yZ.nd rfl (Or.inl rfl) xM) q6.p⟩
  let q8:Sq XX ((zq yq).drop 2):=⟨_,zj (zA (i:=5) yZ.nd rfl (Or.inl rfl) xM) q7.p⟩
  let q9:Sq XX ((zq yq).drop 1):=⟨_,zj (zA (i:=4) yZ.nd rfl (Or.inl rfl) (zz (Qs hr.gd HU) (by rfl) T.n_repr PyProof.Rows.boot_repr (zf (pv 2) zg))) q8.p⟩
  refine⟨_,(zj (zA (i:=3) yZ.nd rfl (Or.inl rfl) (zE vW Xu (hr.mono (by decide)) (zf (pv 0) zg))) q9.p),?_⟩;refine⟨_,rfl,r,b,bl,zs,rfl,N.R,by omega,λr' bl' zs' H1 m1 R1 e1 _ _ _=>?_⟩;have P1:=N.same m1;have hd1:=hd.same m1;refine⟨_,rfl,v,d,rfl,hd1,sw.sh,sw.sl,sw.dp,?_⟩;refine⟨_,rfl,_,rfl,r,b,bl,zs,v,d,rfl,P1.R,gz,hd1,λn e=>(hn n e).1,P1.lt,λhno H2 m2=>⟨_,rfl,qBg,λx hx=>⟨_,rfl,?_⟩⟩,λn en hg H2 s2 l2=>?_⟩
  ·have m3:=m2.trans (zr hx (o:=VJ x xA));have hx3:upd H2 x (VJ x xA) x=some (VJ x xA):=zp;generalize upd H2 x (VJ x xA)=H3 at m3 hx3;have P3:=P1.same m3;have R3:=R1.same m3;have hd3:=hd1.same m3;have t1:=TrAt.rule (K:=K) P3.R;have t2:=TrAt.rule (K:=K) R3;rw[e1]at t2;refine⟨_,rfl,_,rfl,_,_,t1,t2,Ju _ _,_,rfl,jK (by rw[Ws];rfl) ?_⟩;refine⟨_,rfl,v,d,rfl,hd3,sw.sh,sw.sl,sw.dp,_,rfl,rfl,_,rfl,jK (by rw[decide_eq_true rfl];rfl) ?_⟩;have fin:∀H4,Same H3 H4->Q (.bl true) H4:=λH4 m4=>kk H4 (.ofL (SameL.of ((m1.trans m3).trans m4))) (P3.same m4).lt (P3.same m4).D;have last:∀H4,Same H3 H4->Zb K qA qB qE qS qV xA xB xC xD xE xI xS yA [V.ref x,V.int 2] H4 Q E0:=λH4 m4=>⟨x,xA,5,2,rfl,m4 _ _ hx3,qBf,.inr (.inr (.inl ⟨rfl,rfl⟩)),λH5 m5=>fin H5 (m4.trans m5)⟩
   cases hm:zad d with
   |true=>
    obtain⟨n,rfl,rfl⟩:=zdH hd hm;refine⟨_,rfl,_,_,_,_,rfl,.int _,qL,_,rfl,xU ⟨_,rfl,_,_,_,_,rfl,.int _,tL,_,rfl,_,rfl,xU ⟨_,rfl,_,_,rfl,rfl,?_⟩⟩⟩;have e0:decide ((0:Int)<=(n:Int))=true:=decide_eq_true (by omega);refine⟨_,rfl,_,rfl,jK (show (!decide ((0:Int)<=(n:Int)))=false by rw[e0];rfl) ⟨_,rfl,_,rfl,r',b,bl',zs',n,rfl,R3,by rw[e1];exact gz,(hn n rfl).1,λH4 m4=>⟨_,rfl,?_⟩⟩⟩;rw[e1,hno n rfl];exact xU ⟨_,rfl,rfl,_,rfl,xU ⟨_,rfl,last H4 m4⟩⟩
   |false=>
    cases h1:isT "int" d with
    |false=>exact⟨_,rfl,_,_,_,_,rfl,hd3.ty,JX d,_,rfl,jK h1 ⟨_,rfl,_,rfl,Xq rfl ⟨_,rfl,rfl,_,rfl,xU ⟨_,rfl,last H3 (Same.refl _)⟩⟩⟩⟩
    |true=>
     cases h2:isT "bool" d with
     |true=>exact⟨_,rfl,_,_,_,_,rfl,hd3.ty,JX d,_,rfl,Xq h1 ⟨_,rfl,_,_,_,_,rfl,hd3.ty,zaT d,_,rfl,_,rfl,jK (by rw[h2];rfl) ⟨_,rfl,_,rfl,Xq rfl ⟨_,rfl,rfl,_,rfl,xU ⟨_,rfl,last H3 (Same.refl _)⟩⟩⟩⟩⟩
     |false=>
      obtain⟨i,rfl⟩:=V6 (by rw[Q6,h1,h2];rfl);rw[ThAt]at hd;subst hd;exact⟨_,rfl,_,_,_,_,rfl,.int _,qL,_,rfl,xU ⟨_,rfl,_,_,_,_,rfl,.int _,tL,_,rfl,_,rfl,xU ⟨_,rfl,_,_,rfl,rfl,_,rfl,_,rfl,Xq (show (!decide ((0:Int)<=i))=true by rw[show decide ((0:Int)<=i)=false from hm];rfl) ⟨_,rfl,rfl,_,rfl,xU ⟨_,rfl,last H3 (Same.refl _)⟩⟩⟩⟩⟩
  ·subst en;rw[ThAt]at hd;subst hd;have P2:=P1.sameL s2 l2;have R2:=R1.sameL P1.lt s2;have t1:=TrAt.rule (K:=K) P2.R;have t2:=TrAt.rule (K:=K) R2;rw[e1]at t2;have e0:decide ((0:Int)<=(n:Int))=true:=decide_eq_true (by omega);refine⟨_,rfl,_,rfl,_,_,t1,t2,Ju _ _,_,rfl,jK (by rw[Ws];rfl) ?_⟩;refine⟨_,rfl,.int n,.int n,rfl,by rw[ThAt],sw.sh,sw.sl,sw.dp,_,rfl,rfl,_,rfl,jK (by rw[decide_eq_true rfl];rfl) ?_⟩;refine⟨_,rfl,_,_,_,_,rfl,.int _,qL,_,rfl,xU ⟨_,rfl,_,_,_,_,rfl,.int _,tL,_,rfl,_,rfl,xU ⟨_,rfl,_,_,rfl,rfl,?_⟩⟩⟩;refine⟨_,rfl,_,rfl,jK (show (!decide ((0:Int)<=(n:Int)))=false by rw[e0];rfl) ⟨_,rfl,_,rfl,r',b,bl',zs',n,rfl,R2,by rw[e1];exact gz,(hn n rfl).1,λH4 m4=>⟨_,rfl,?_⟩⟩⟩;rw[e1,hg];have P4:=P2.same m4;refine xF ⟨_,rfl,rfl,_,rfl,xF ⟨_,rfl,_,_,_,_,rfl,.int _,qL,_,rfl,xF ⟨_,rfl,_,_,_,_,rfl,.int _,tL,_,rfl,xF ?_⟩⟩⟩;refine⟨_,rfl,_,rfl,_,rfl,rd,tl,dd,b,ts,n,rfl,(hn n rfl).1,(hn n rfl).2,P4.rdr g,λH5 s5 d5=>⟨rfl,?_⟩⟩;have P5:=P4.sameD s5 d5;rw[ez];have z:=kk H5 ((SameTD.ofL ((SameL.of m1).trans (s2.trans (SameL.of m4)))).trans (.ofD s5)) P5.lt P5.D;rw[<-show decide (V.int ((many (gd (ts.map (·.2)) b) n:Nat):Int)=V.int ((many (gd (ts.map (·.2)) b) n:Nat):Int))=true from decide_eq_true rfl]at z;exact z
end
def zfA(b k:Nat):Ty:=⟨λG v=>∃a vs,v=.ref a/\G a=some (.lst vs)/\(∀x∈vs,∃f:Int,x=.int f/\0<=f/\f<(b:Int))/\vs.length<=k,λs ⟨a,vs,e,h,r⟩=>⟨a,vs,e,s _ _ h,r⟩⟩
theorem zcx{b:Nat}:∀{vs:List V},(∀x∈vs,∃f:Int,x=.int f/\0<=f/\f<(b:Int))->∃fs:List Int,vs=fs.map V.int/\∀f∈fs,0<=f/\f<(b:Int)
 |[],_=>⟨[],rfl,by simp⟩
 |x::vs,h=>by
  obtain⟨f,rfl,h1⟩:=h x (.head _);obtain⟨fs,rfl,h2⟩:=zcx λy hy=>h y (.tail _ hy);exact⟨f::fs,rfl,λg hg=>by rcases List.mem_cons.mp hg with rfl | hg;exact h1;exact h2 g hg⟩
section
variable {w:View} {Γ:Cxt} {te ta tb tx:TE} {K:W.Frag} {vs:List V} {k b:Nat} {i j:Int}
theorem Tp.fg(h:Tp w Γ te (uw vs))(hv:∀x∈vs,∃f:Int,x=.int f/\0<=f/\f<(b:Int))(hl:vs.length<=k):Tp w Γ te (zfA b k):=h.sub λG v ⟨a,e,g⟩=>⟨a,vs,e,g,hv,hl⟩
theorem Tp.succE(ha:Tp w Γ ta (QX (.int k))):Tp w Γ (tOp (rI0 λx y=>.int (x+y)) ta (tC (.int 1))) (QX (.int ((k+1:Nat):Int))):=λZ H Q o f q=>ha Z H _ o f λv H1 o1 s1 e1=>⟨k,1,e1,rfl,q _ H1 o1 s1 rfl⟩
theorem Tp.slL(h:Tp w Γ te (uw vs))(hx:Tp w Γ tx (QX (.int k))):Tp w Γ (tSl (zeg K) te zah (zcz tx)) (uw (vs.take k)):=λZ H Q o f q=>h Z H _ o f λv H1 o1 s1 t1=>hx Z H1 _ o1 (f.same s1) λu H2 o2 s2 t2=>by
 obtain⟨a,e1,g1⟩:=(uw vs).mo s2 t1;refine⟨k,t2,a,vs,e1,SqL.of (w.out g1),λp hp=>?_⟩;rw[jn];obtain⟨o3,s3,e3⟩:=w.new (.lst (vs.take k)) o2 hp;exact q _ _ o3 (s1.trans (s2.trans s3)) ⟨p,rfl,e3⟩
theorem Tp.slR(h:Tp w Γ te (uw vs))(hx:Tp w Γ tx (QX (.int k))):Tp w Γ (tSl (zeg K) te (zcz tx) zah) (uw (vs.drop k)):=λZ H Q o f q=>h Z H _ o f λv H1 o1 s1 t1=>hx Z H1 _ o1 (f.same s1) λu H2 o2 s2 t2=>by
 obtain⟨a,e1,g1⟩:=(uw vs).mo s2 t1;refine⟨k,t2,a,vs,e1,SqL.of (w.out g1),λp hp=>?_⟩;rw[jq];obtain⟨o3,s3,e3⟩:=w.new (.lst (vs.drop k)) o2 hp;exact q _ _ o3 (s1.trans (s2.trans s3)) ⟨p,rfl,e3⟩
theorem Tp.revE(h:Tp w Γ te (uw vs)):Tp w Γ (zf4 K te) (uw vs.reverse):=λZ H Q o f q=>h Z H _ o f λv H1 o1 s1 ⟨a,e1,g1⟩=>⟨a,vs,e1,SqL.of (w.out g1),λp hp=>by
 obtain⟨o3,s3,e3⟩:=w.new (.lst vs.reverse) o1 hp;exact q _ _ o3 (s1.trans s3) ⟨p,rfl,e3⟩⟩
end
section
variable {P:Program} {w:World} {K:W.Frag} {mg:Str->Option Value} {base:Heap} {T0:Addr}
def ZR(T0:Addr):Sp:=λvs H Q _=>Ex5 λ(s:Addr) (dr:Addr) (ds:List Int) (b:Nat) (n:Nat)=>vs=[.ref s,.int b,.int n]/\Sto2 H s dr ds/\LT T0 H/\2<=b/\b<=16/\n<2^900/\∀m H',m<b^((zT b n).length+1)->Fr T0 s dr ds H H'->Q (.int m) H'
theorem xJ:zF ["store","base","n","figures","at","one","some","found","figure"] ["store","base","n"] (zx qK):={}
set_option maxHeartbeats 0 in
theorem J9(D:Df K mg "_law_near" qK Ar f fd)(zH:Df K mg "_law_take" wB Ai f1 fd1)(zN:Df K mg "_law_figures" yw Ae f2 fd2)(T:Blt mg):FnOk P w K mg base CX0 2 f fd Ar (ZR T0):=by
 have zQ:FnOk P w K mg base CX0 1 f1 fd1 Ai (uc T0):=uW zH T;have xQ:FnOk P w K mg base CX0 1 f2 fd2 Ae vq:=uy zN T;refine D.fn.ok xJ (λvs H Q E h=>?_) (λcdv A outer s H vs Q E hr h=>?_)
 ·obtain⟨s,dr,ds,b,n,rfl,_⟩:=h;rfl
 ·obtain⟨sa,dr,ds,b,n,rfl,S,hT,b2,b16,hn,kk⟩:=h;have hlen:=vX b2 900 n hn;have hF:∀x∈(zT b n).map V.int,∃f:Int,x=.int f/\0<=f/\f<(b:Int):=λx hx=>by
   obtain⟨f,hf,rfl⟩:=List.mem_map.mp hx;exact⟨f,rfl,WD b2 n f hf⟩
  have hpos:0<(zT b n).length:=List.length_pos_iff.mpr Wq;refine⟨_,(zj (zA (i:=3) xJ.nd rfl (Or.inl rfl) (zE zN xQ (hr.mono (by decide)) (zf (pv 1) (zf (pv 2) zg))))
   (zj (zA (i:=4) xJ.nd rfl (Or.inl rfl) (zE zH zQ (hr.mono (by decide)) (zf (pv 0) (zf (zz (wy K) (by rfl) T.n_len PySem.boot_len (zf (pv 3) zg)) zg))))
   (zj (zA (i:=5) xJ.nd rfl (Or.inl rfl) (zE zH zQ (hr.mono (by decide)) (zf (pv 0) (zf (pv 1) zg))))
   (zj (zA (i:=6) xJ.nd rfl (Or.inl rfl) (yc (zf (zy wQ (zy wQ (yN (qD K) (pv 3) wA (yW (pv 4))) (yc (zf (pv 5) zg))) (yN (qD K) (pv 3) (yW (zy ym (pv 4) zm)) wA)) (zf (zy wQ (zy wQ (yN (qD K) (pv 3) wA (yW (pv 4))) (yc (zf (pv 5) zg))) (yN (qD K) (pv 3) (yW (pv 4)) wA)) zg))))
   (zj (zA (i:=6) xJ.nd rfl (Or.inl rfl) (zy wQ (pv 6) (yc (zf (zy wQ (yN (qD K) (pv 3) wA (yW (pv 4))) (yN (qD K) (pv 3) (yW (zy ym (pv 4) zm)) wA)) (zf (zy wQ (yN (qD K) (pv 3) wA (yW (pv 4))) (Vy (yN (qD K) (pv 3) (yW (pv 4)) wA))) zg)))))
   (zj (zA (i:=7) xJ.nd rfl (Or.inl rfl) zm)
   (zj (xj PassesOwn.never rfl (je K (zR (yJ K) (pv 6) (zE zH zQ (hr.mono (by decide)) (zf (pv 0) (zf zm zg))) (λ_ _=>rfl))) (zV (i:=8) xJ.nd rfl (Or.inl rfl))
    (zu (zA (i:=7) xJ.nd rfl (Or.inl rfl) (zy ym (zy wL (pv 7) (pv 1)) (pv 8)))))
   (zu (zG (pv 7)))))))))),?_⟩
  refine⟨_,rfl,_,rfl,b,n,rfl,b2,b16,hn,λl H1 hl hL m1=>?_⟩;have F1:=(Fr.refl S hT).same m1;have nl:l≠sa:=S.nes hl;refine⟨_,rfl,_,rfl,l,_,rfl,.inl (SqL.of hL),sa,dr,ds,(zT b n).length,by rw[List.length_map];rfl,F1.st,hpos,F1.lt,λat' H2 ha _ q2 t2=>?_⟩;have F2:=F1.trans (Fr.mk q2 t2);have hL2:=q2.sm _ _ nl (F1.lt.lst hL) hL;refine⟨_,rfl,_,rfl,sa,dr,ds,b,rfl,F2.st,by omega,F2.lt,λone H3 ho _ q3 t3=>?_⟩;have F3:=F2.trans (Fr.mk q3 t3);have hL3:=q3.sm _ _ nl (F2.lt.lst hL2) hL2;have ew:=λ(x:V) (hx:x=V.int (one:Nat))=>(⟨_,hx,by omega,by omega⟩:∃f:Int,x=.int f/\0<=f/\f<(b:Int))
  generalize hFe:(zT b n).map V.int=F at hL3 hF;have hFl:F.length=(zT b n).length:=by rw[<-hFe,List.length_map]
  show Uy _ _ _ _ _;refine Tp.asg2 (w:=idV) (Γ:=[none,none,none,some (uw F),some (QX (.int at')),some (QX (.int one)),none,none,none]) (T1:=ZF (zfA b ((zT b n).length+1)) 2 2) (Tp.lstT (TpB.cons (Tp.fg (Tp.catE (Tp.catE (Tp.slL (Tp.var rfl) (Tp.var rfl)) (Tp.lstE (TpE.cons (Tp.var rfl) TpE.nil)) ?l1) (Tp.slR (Tp.var rfl) (Tp.succE (Tp.var rfl))) ?l2) ?m1 ?l3) (TpB.cons (Tp.fg (Tp.catE (Tp.catE (Tp.slL (Tp.var rfl) (Tp.var rfl)) (Tp.lstE (TpE.cons (Tp.var rfl) TpE.nil)) ?l4) (Tp.slR (Tp.var rfl) (Tp.var rfl)) ?l5) ?m2 ?l6) TpB.nil))) trivial (Fits.skip (Fits.skip (Fits.skip (Fits.cons ⟨l,rfl,hL3⟩ (Fits.cons rfl (Fits.cons rfl (Fits.skip (Fits.skip (Fits.skip Fits.nil))))))))) λv1 H4 _ s4 t4=>?_
  case l1=>simp only[List.length_take,List.length_singleton];omega
  case l2=>simp only[List.length_take,List.length_drop,List.length_append,List.length_singleton];omega
  case l3=>simp only[List.length_take,List.length_drop,List.length_append,List.length_singleton];omega
  case l4=>simp only[List.length_take,List.length_singleton];omega
  case l5=>simp only[List.length_take,List.length_drop,List.length_append,List.length_singleton];omega
  case l6=>simp only[List.length_take,List.length_drop,List.length_append,List.length_singleton];omega
  case m1=>
   intro x hx;simp only[List.mem_append,List.mem_singleton]at hx;rcases hx with (hx | hx) | hx
   ·exact hF x (List.mem_of_mem_take hx)
   ·exact ew x hx
   ·exact hF x (List.mem_of_mem_drop hx)
  case m2=>
   intro x hx;simp only[List.mem_append,List.mem_singleton]at hx;rcases hx with (hx | hx) | hx
   ·exact hF x (List.mem_of_mem_take hx)
   ·exact ew x hx
   ·exact hF x (List.mem_of_mem_drop hx)
  have m4:Same H3 H4:=s4;have F4:=F3.same m4;show Uy _ _ _ _ _;refine Tp.asg2 (w:=idV) (Γ:=[none,none,none,some (uw F),some (QX (.int at')),some (QX (.int one)),some (ZF (zfA b ((zT b n).length+1)) 2 2),none,none]) (T1:=ZF (zfA b ((zT b n).length+1)) 4 4) (Tp.catT (Tp.var rfl) (Tp.lstT (TpB.cons (Tp.fg (Tp.catE (Tp.slL (Tp.var rfl) (Tp.var rfl)) (Tp.slR (Tp.var rfl) (Tp.succE (Tp.var rfl))) ?l1) ?m1 ?l2) (TpB.cons (Tp.fg (Tp.catE (Tp.slL (Tp.var rfl) (Tp.var rfl)) (Tp.revE (Tp.slR (Tp.var rfl) (Tp.var rfl))) ?l3) ?m2 ?l4) TpB.nil)))) trivial (Fits.skip (Fits.skip (Fits.skip (Fits.cons ⟨l,rfl,m4 _ _ hL3⟩ (Fits.cons rfl (Fits.cons rfl (Fits.cons t4 (Fits.skip (Fits.skip Fits.nil))))))))) λv2 H5 _ s5 t5=>?_
  case l1=>simp only[List.length_take,List.length_drop];omega
  case l2=>simp only[List.length_take,List.length_drop,List.length_append];omega
  case l3=>simp only[List.length_take,List.length_drop,List.length_reverse];omega
  case l4=>simp only[List.length_take,List.length_drop,List.length_append,List.length_reverse];omega
  case m1=>
   intro x hx;rcases List.mem_append.mp hx with hx | hx
   ·exact hF x (List.mem_of_mem_take hx)
   ·exact hF x (List.mem_of_mem_drop hx)
  case m2=>
   intro x hx;rcases List.mem_append.mp hx with hx | hx
   ·exact hF x (List.mem_of_mem_take hx)
   ·exact hF x (List.mem_of_mem_drop (List.mem_reverse.mp hx))
  have m5:Same H4 H5:=s5;have F5:=F4.same m5;obtain⟨ra,vs,rfl,hra,hlo,hhi,hvs⟩:=t5;have nra:ra≠sa:=λz=>by
   obtain⟨i,q⟩:=F5.st.st;have q':=hra;rw[z]at q';rw[show (idV.v H5 sa:Option HO)=H5 sa from rfl,q]at q';injection q' with q'
   injection q' with q'
   rw[<-q']at hlo;exact absurd hlo (by simp)
  refine⟨_,rfl,_,rfl,sa,dr,ds,4,rfl,F5.st,by decide,F5.lt,λc H6 hc _ q6 t6=>?_⟩;have F6:=F5.trans (Fr.mk q6 t6);have hra6:=q6.sm _ _ nra (F5.lt.lst hra) hra;obtain⟨y,hy⟩:∃y,vs[c]?=some y:=⟨_,List.getElem?_eq_getElem (show c<vs.length by omega)⟩
  obtain⟨ya,ys,rfl,hya,hyf,hyl⟩:=hvs y (List.mem_of_getElem? hy);have nya:ya≠sa:=λz=>by
   obtain⟨i,q⟩:=F5.st.st;have q':H5 ya=some (.lst ys):=hya;rw[z,q]at q';injection q' with q'
   injection q' with q'
   obtain⟨f,z,_⟩:=hyf (.ref dr) (by rw[<-q'];simp);cases z
  have hya6:=q6.sm _ _ nya (F5.lt.lst hya) hya;obtain⟨fs,rfl,hfs⟩:=zcx hyf;rw[List.length_map]at hyl;refine⟨ra,vs,_,.ref ya,rfl,rfl,SqL.of hra6,xW hy,ya,rfl,⟨_,SqL.of hya6⟩,qH (K:=K) (a:=ya) (xs:=fs.map V.int) (λi Z H7=>H7=H6/\∃v:Option V,Z=[some (.ref sa),some (.int b),some (.int n),some (.ref l),some (.int at'),some (.int one),some (.ref ra),some (.int (Zh b (fs.take i))),v]) ⟨rfl,none,rfl⟩ (λi Z H2 _ ⟨e,_⟩=>by rw[e];exact SqL.of hya6) ?_ ?_⟩
  ·rintro i x Z H7 hx ⟨rfl,v,rfl⟩;obtain⟨z,hz,rfl⟩:∃z,fs[i]?=some z/\x=V.int z:=by
    rw[List.getElem?_map]at hx;obtain⟨z,h,e⟩:=Option.map_eq_some_iff.mp hx;exact⟨z,h,e.symm⟩
   refine⟨_,rfl,_,rfl,_,_,rfl,rfl,.inr ⟨by omega,by omega⟩,_,rfl,_,_,rfl,rfl,rfl,some (.int z),?_⟩;rw[List.take_succ,hz];show _=[some (V.ref sa),some (V.int b),some (V.int n),some (V.ref l),some (V.int at'),some (V.int one),some (V.ref ra),some (V.int (Zh b (fs.take i++[z]))),_]
   rw[YT];rfl
  ·rintro Z H7 ⟨rfl,v,rfl⟩;refine⟨_,rfl,?_⟩;rw[List.length_map,List.take_length];obtain⟨m,hm,hlt⟩:=Qa fs hfs;rw[hm];exact kk m _ (Nat.lt_of_lt_of_le hlt (Nat.pow_le_pow_right (by omega) hyl)) F6
end
def Stp(s T dd:Addr)(H H':Hp):Prop:=∀c o,c≠s->c≠T->c≠dd->H c=some o->H' c=some o
theorem zck(h2:2<=b)(hl:(zT b n).length<=200):Qi b (zT b n):=by
 refine⟨Wq,hl,WD h2 n,?_⟩;by_cases h:n=0
 ·right;rw[h,wJ (by omega)];rfl
 ·left;exact zdy h2 n (by omega)
theorem W0(h16:b<=16)(hk:k<=201):b^k<2^900:=by
 have h3:=Nat.le_trans (Nat.pow_le_pow_left h16 _) (Nat.pow_le_pow_right (by decide) hk);have h4:16^201<2^900:=by
  rw[show 16=2^4 from rfl,<-Nat.pow_mul];exact Nat.pow_lt_pow_right (by decide) (by decide)
 omega
theorem zaI(ne:∀l∈ls,l≠[])(h2:2<=b):ww ls b (zT b n).length=0\/many (gd ls b) n<uo ls b ((zT b n).length+1):=by
 have e:=Z6 ls h2 (zT b n).length;have h:=Zr (gd ls b) (Nat.le_of_lt (wU h2 (rfl:(zT b n).length=_)));rw[<-vZ ne h2]at h;omega
theorem zgz(ne:∀l∈ls,l≠[])(h2:2<=b)(hg:gd ls b g=true)(hm:many (gd ls b) g=many (gd ls b) n):g<b^((zT b n).length+1):=by
 have h1:=zct (gd ls b) (Nat.lt_succ_self g) hg;rcases zaI ne h2 (n:=n) with z | z
 ·have h3:=Q9 ne h2 z g.succ;rw[vZ ne h2]at h3;have h4:=UL (p:=gd ls b) (g:=g) (n:=b^(zT b n).length) (by omega);exact Nat.lt_of_lt_of_le h4 (Nat.pow_le_pow_right (by omega) (Nat.le_succ _))
 ·rw[vZ ne h2]at z;exact UL (p:=gd ls b) (by omega)
section
variable {P:Program} {w:World} {T0:Addr} {s p:Addr} {ds:List Int} {r:Addr} {b:Nat} {bl:Addr} {zs:ZB} {r' bl':Addr} {zs':ZB} {rd tl dd:Addr} {ts:ZB} {H H' H2:Hp}
theorem Stp.trans(m:Stp s T0 dd H H')(n:Stp s T0 dd H' H2):Stp s T0 dd H H2:=λc o h1 h2 h3 e=>n c o h1 h2 h3 (m c o h1 h2 h3 e)
theorem Stp.ofF(F:Fr T0 s p ds H H'):Stp s T0 dd H H':=λc o h1 h2 _ e=>F.get h1 h2 e
theorem Stp.ofT(m:SameTD T0 dd H H'):Stp s T0 dd H H':=λc o _ h1 h2 e=>m c o h1 h2 e
theorem Stp.of(m:Same H H'):Stp s T0 dd H H':=λc o _ _ _ e=>m c o e
theorem Now.td(N:Now P w T0 s p ds r b bl zs r' bl' zs' rd tl dd ts H)(m:SameTD T0 dd H H')(lt:LT T0 H')(D:RdD P w H' dd (ts.map (·.2)) b):Now P w T0 s p ds r b bl zs r' bl' zs' rd tl dd ts H':=by
 have nl:∀{c xs},H c=some (.lst xs)->H' c=some (.lst xs):=λ{c xs} e=>m _ _ (N.lt.lst e) (N.D.ne e λ_ z=>nomatch z) e;obtain⟨i,e⟩:=N.st.st;exact N.go ⟨⟨i,nl e⟩,nl N.st.dr,N.st.ne,N.st.len,N.st.nn⟩ lt D λc o _ h1 h2 e=>m c o h1 h2 e
theorem Now.pair(N:Now P w T0 s p ds r b bl zs r' bl' zs' rd tl dd ts H):Pair P w T0 r' b bl' zs' rd tl dd ts H:=⟨N.lt,N.R'.all,N.S.same (xq _ _),N.D⟩
theorem Qf(hn:n<2^900)(hl:(zT b n).length<=205)(k:Nat)(e:PyData.int n=.int k):k<2^900/\(zT b k).length<=205:=by
 obtain rfl:n=k:=by injection e with e;omega
 exact⟨hn,hl⟩
end
section
variable {P:Program} {w:World} {K:W.Frag} {mg:Str->Option Value} {base:Heap} {T0:Addr}
def jE(P:Program)(w:World)(T0:Addr):Sp:=λvs H Q _=>Ex6 λs p ds r b bl=>Ex6 λzs r' bl' zs' rd tl=>Ex2 λdd ts=>vs=[.ref s,.ref r',.ref rd]/\Now P w T0 s p ds r b bl zs r' bl' zs' rd tl dd ts H/\zs'.map (·.2)=ts.map (·.2)/\yx b (ts.map (·.2)) /\
 ∀H',Now P w T0 s p ds r b bl zs r' bl' zs' rd tl dd ts H'->Stp s T0 dd H H'->Q (.bl true) H'
theorem yS:zF ["store","handed","reader","base","n","good","one","text"] ["store","handed","reader"] (zx zX):={}
set_option maxHeartbeats 0 in
theorem Xi(D:Df K mg "_law_read_right" zX A5 f fd)(ZW:Df K mg "_law_read" yI Ak f1 fd1)(Xn:FnOk P w K mg base CX0 7 f1 fd1 Ak (Wt T0))(wk:Df K mg "_law_right" yq Aq f2 fd2)(wV:FnOk P w K mg base CX0 211 f2 fd2 Aq (Zg P w T0))(vU:Df K mg "_law_below" yd Am f3 fd3)(uH:FnOk P w K mg base CX0 210 f3 fd3 Am (qu P w 205))(qi:Df K mg "_law_nth" yf An f4 fd4)(jm:FnOk P w K mg base CX0 210 f4 fd4 An (jW P w 205))(zN:Df K mg "_law_figures" yw Ae f5 fd5)(vM:Df K mg "_law_near" qK Ar f6 fd6)(uE:FnOk P w K mg base CX0 2 f6 fd6 Ar (ZR T0))(w5:Df K mg "read_number" ur Ap f7 fd7)(uf:FnOk P w K mg base CX0 6 f7 fd7 Ap jx)(T:Blt mg):FnOk P w K mg base CX0 212 f fd A5 (jE P w T0):=by
 have xQ:FnOk P w K mg base CX0 1 f5 fd5 Ae vq:=uy zN T;refine D.fn.ok yS (λvs H Q E h=>?_) (λcdv A outer s H vs Q E hr h=>?_)
 ·obtain⟨s,p,ds,r,b,bl,zs,r',bl',zs',rd,tl,dd,ts,rfl,_⟩:=h;rfl
 ·obtain⟨sa,p,ds,r,b,bl,zs,r',bl',zs',rd,tl,dd,ts,rfl,N,ez,g,kk⟩:=h;have b2:=g.b2;have b16:=g.b16;have ne:∀st∈ts.map (·.2),st≠[]:=λst h=>(g.st st h).ne;refine xO ?_;intro XX;let q1:Sq XX ((zq zX).drop 6):=⟨_,zu (zG uN)⟩
  let q2:Sq XX ((sb (zq zX) 5 true).drop 1):=⟨_,zu (yG (PW.pt (Vh (zO Wj (zz zal (by rfl) T.n_len PySem.boot_len (zf (pv 7) zg)) zm (zM _)) (YQ (wD (xx (zE wk wV (hr.mono (by decide)) (zf (pv 1) (zf (pv 2) (zf (zE w5 uf (hr.mono (by decide)) (zf (pv 3) (zf (pv 7) zg))) zg)))))))))
     (zu (zG uN))
     zP)⟩
  let q3:Sq XX ((zq zX).drop 5):=⟨_,zj (xj PassesOwn.never rfl (je K (yc (zf (pv 5) (zf (zE vM uE (hr.mono (by decide)) (zf (pv 0) (zf (pv 3) (zf (pv 5) zg)))) (zf (zy ym (pv 5) zm) zg))))) (zV (i:=6) yS.nd rfl (Or.inl rfl))
    (zj (zA (i:=7) yS.nd rfl (Or.inl rfl) (zgZ K PySem.F.plainAttrs_str PySem.F.slot_str_join PySem.F.type_str_join (zgY K) U8 (zf (yV (show CScope (zx zX) _ "figure" ["store","handed","reader","base","n","good","one","text"] [] [] from {}) rfl (je K (zE zN xQ (hr.mono (by decide)) (zf (pv 3) (zf (pv 6) zg)))) (λ_ _ _ _=>yX) (λ_ _ _ _=>(zR zbE U8 (pv 0) (λ_ _=>rfl)))) zg))) q2.p)) q1.p⟩
  let q4:Sq XX ((zq zX).drop 4):=⟨_,zj (yG (PW.pt (Ym (zO Xv (pv 5) xM (zM _)) (Zj (zO zbb (zz (wy K) (by rfl) T.n_len PySem.boot_len (zf (zE zN xQ (hr.mono (by decide)) (zf (pv 3) (zf (pv 5) zg))) zg)) zm (zM _)))))
    (zu (zG uN))
    zP) q3.p⟩
  let q5:Sq XX ((zq zX).drop 3):=⟨_,zj (zA (i:=5) yS.nd rfl (Or.inl rfl) (zE qi jm (hr.mono (by decide)) (zf (pv 2) (zf (zE vU uH (hr.mono (by decide)) (zf (pv 2) (zf (pv 4) zg))) zg)))) q4.p⟩
  let q6:Sq XX ((zq zX).drop 2):=⟨_,zj (yG (wD (xx (zE wk wV (hr.mono (by decide)) (zf (pv 1) (zf (pv 2) (zf (pv 4) zg))))))
    (zu (zG uN))
    zP) q5.p⟩
  let q7:Sq XX ((zq zX).drop 1):=⟨_,zj (zA (i:=4) yS.nd rfl (Or.inl rfl) (zE ZW Xn (hr.mono (by decide)) (zf (pv 0) (zf (pv 3) zg)))) q6.p⟩
  refine⟨_,(zj (zA (i:=3) yS.nd rfl (Or.inl rfl) (zR (vO K) (pv 1) zm (λ_ _=>rfl))) q7.p),?_⟩;refine⟨_,rfl,r',_,_,.int b,rfl,rfl,SqT.of N.R'.all.tu,rfl,?_⟩;refine⟨_,rfl,_,rfl,sa,p,ds,b,rfl,N.st,N.lt,b2,b16,λn H1 hn F1=>?_⟩;have N1:=N.fr F1;have S1:Stp sa T0 dd H H1:=.ofF F1;have hn9:=zbU b2 b16 hn;refine⟨_,rfl,_,rfl,_,rfl,r',b,bl',zs',rd,tl,dd,ts,.int n,.int n,rfl,N1.pair,ez,g,by rw[ThAt],Shw.num hn9,Qf hn9 (by omega),λH2 m2 l2 D2=>⟨_,rfl,xF ?_⟩⟩;have N2:=N1.td m2 l2 D2;have S2:Stp sa T0 dd H1 H2:=.ofT m2;refine⟨_,rfl,_,rfl,_,rfl,rd,tl,dd,b,ts,n,rfl,hn9,by omega,N2.rdr g,λH3 s3 d3=>?_⟩;have N3:=N2.sameD s3 d3;refine⟨rd,tl,dd,b,ts,many (gd (ts.map (·.2)) b) n,(zT b n).length,rfl,by omega,zaI ne b2,N3.rdr g,λo H4 p4 s4 d4=>?_⟩;have N4:=N3.sameD s4 d4;have S4:Stp sa T0 dd H H4:=(S1.trans S2).trans (.ofT ((SameTD.ofD s3).trans (.ofD s4)));rcases p4 with ⟨g1,rfl,hg1,hm1⟩ | ⟨rfl,_⟩
  ·have hlt:=zgz ne b2 hg1 hm1;have hg9:g1<2^900:=Nat.lt_trans hlt (W0 b16 (by omega));refine⟨_,rfl,rfl,_,rfl,jK (decide_eq_false (λz=>by cases z)) ?_⟩;refine⟨_,rfl,_,rfl,b,g1,rfl,b2,b16,hg9,λl H5 hl hL m5=>⟨l,_,rfl,.inl (SqL.of hL),_,_,rfl,rfl,_,rfl,?_⟩⟩;have N5:=N4.same m5;have S5:=S4.trans (.of m5);rw[List.length_map];refine Vb (λhz=>kk H5 N5 S5) (λhz=>?_);have hg200:(zT b g1).length<=199:=by
    by_cases z:(zT b g1).length<=199
    ·exact z
    ·exact absurd (decide_eq_true (by omega:((199:Int)<(zT b g1).length))) hz
   refine⟨_,rfl,_,rfl,_,rfl,_,rfl,sa,p,ds,b,g1,rfl,N5.st,N5.lt,b2,b16,hg9,λm H6 hm F6=>?_⟩;have N6:=N5.fr F6;have S6:=S5.trans (.ofF F6);refine⟨_,rfl,_,_,rfl,rfl,(by show 3<=sizeLine;decide),λq hq=>?_⟩;have n1:q≠sa:=N6.st.nes hq;generalize eH:upd H6 q _=H7;obtain⟨m7,hq7⟩:=zbh hq eH;have hq7:H7 q=some (.lst [V.int (g1:Int),.int m,.int ((g1:Int)+1)]):=hq7;have N7:=N6.same m7;have S7:=S6.trans (.of m7);have hg':g1<b^199:=Nat.lt_of_lt_of_le (wU b2 (rfl:(zT b g1).length=_)) (Nat.pow_le_pow_right (by omega) hg200);have h199:=W0 b16 (show 199<=201 by decide);have hx9:∀x∈[V.int (g1:Int),.int m,.int ((g1:Int)+1)],∃k:Nat,x=.int k/\k<2^900:=λx hx=>by
    simp only[List.mem_cons,List.not_mem_nil,or_false]at hx;rcases hx with rfl | rfl | rfl
    ·exact⟨g1,rfl,hg9⟩
    ·exact⟨m,rfl,Nat.lt_trans hm (W0 b16 (by omega))⟩
    ·exact⟨g1+1,rfl,by omega⟩
   refine⟨q,rfl,⟨_,SqL.of hq7⟩,qH (K:=K) (a:=q) (xs:=[V.int (g1:Int),.int m,.int ((g1:Int)+1)]) (λi Z Hx=>∃v6 v7:Option V,Z=[some (.ref sa),some (.ref r'),some (.ref rd),some (.int b),some (.int n),some (.int g1),v6,v7]/\Now P w T0 sa p ds r b bl zs r' bl' zs' rd tl dd ts Hx/\Stp sa T0 dd H Hx/\Hx q=some (.lst [V.int (g1:Int),.int m,.int ((g1:Int)+1)])) ⟨_,_,rfl,N7,S7,hq7⟩ (λi Z Hx _ ⟨_,_,_,_,_,h⟩=>SqL.of h) ?_ ?_⟩
   ·rintro i x Z Hx hx ⟨v6,v7,rfl,Nx,Sx,hqx⟩;obtain⟨k,rfl,hk9⟩:=hx9 x (List.mem_of_getElem? hx);have hklen:=vX b2 900 k hk9;have hkf:=WD b2 k;refine⟨rfl,_,rfl,_,rfl,b,k,rfl,b2,b16,hk9,λl2 H8 hl2 hL8 m8=>⟨l2,rfl,⟨_,SqL.of hL8⟩,xu (K:=K) (a:=l2) (xs:=(zT b k).map V.int) (λi ys H4=>H4=H8/\ys=(((zT b k).take i).map λf=>(⟨#[cd f.toNat]⟩:Str)).map V.str) ⟨rfl,rfl⟩ (λi ys H4 _ ⟨e,_⟩=>by rw[e];exact SqL.of hL8) ?_ ?_⟩⟩
    ·rintro j x ys H4 hx ⟨rfl,rfl⟩;rw[List.getElem?_map]at hx;obtain⟨z,hz,e⟩:=Option.map_eq_some_iff.mp hx;subst e;have hz16:=hkf z (List.mem_of_getElem? hz);refine⟨by rw[List.length_map,List.length_map];exact Nat.lt_of_le_of_lt (Nat.le_trans (List.length_take_le' _ _) hklen) (by decide),?_⟩;unfold jJ;dsimp only;rw[if_pos rfl];refine⟨_,rfl,SIG,z,cd z.toNat,rfl,rfl,by decide +kernel,?_,rfl,?_⟩
     ·rw[show z=((z.toNat:Nat):Int) by omega];exact xW (signs_at (by omega))
     ·rw[List.take_succ,hz];simp
    ·rintro ys H4 ⟨rfl,rfl⟩ Dd hD;rw[List.length_map,List.take_length];refine⟨_,Dd,_,rfl,rfl,SqL.of zp,zfc 1 (λx hx=>?_) ?_,?_⟩
     ·obtain⟨f,_,rfl⟩:=List.mem_map.mp hx;exact Nat.le_refl 1
     ·rw[List.length_map,show (Str.length "")=0 from by decide +kernel];omega
     rw[zeY];have m9:=m8.trans (zr hD (o:=.lst (((zT b k).map λf=>(⟨#[cd f.toNat]⟩:Str)).map V.str)));generalize upd H4 Dd _=H9 at m9;have N9:=Nx.same m9;have S9:=Sx.trans (.of m9);have hq9:=m9 _ _ hqx;have hlt:(txt (zT b k)).length=(zT b k).length:=by show (((zT b k).map λf=>cd f.toNat).toArray).size=_;simp
     refine⟨_,rfl,_,rfl,by rw[hlt];exact Nat.le_trans hklen (by decide),_,_,rfl,rfl,_,rfl,?_⟩;rw[hlt];refine Vb (λhz=>?_) (λhz=>?_)
     ·have hz:(zT b k).length<=200:=by have:=of_decide_eq_true hz;omega
      refine⟨_,rfl,_,rfl,_,rfl,_,rfl,b,zT b k,rfl,b2,b16,zck b2 hz,λHA mA=>?_⟩;rw[zdz b2];have NA:=N9.same mA;refine⟨r',b,bl',zs',rd,tl,dd,ts,.int k,.int k,rfl,NA.pair,ez,g,by rw[ThAt],Shw.num hk9,Qf hk9 (by omega),λHB mB lB DB=>⟨_,rfl,xF ?_⟩⟩;have SB:=(S9.trans (.of mA)).trans (.ofT mB);refine⟨_,_,rfl,NA.td mB lB DB,SB,mB _ _ (NA.lt.lst (mA _ _ hq9)) (NA.D.ne (mA _ _ hq9) λ_ z=>nomatch z) (mA _ _ hq9)⟩
     ·exact⟨_,_,rfl,N9,S9,hq9⟩
   ·rintro Z Hx ⟨v6,v7,rfl,Nx,Sx,_⟩;exact kk Hx Nx Sx
  ·exact⟨_,rfl,rfl,_,rfl,Xq (decide_eq_true rfl) (kk H4 N4 S4)⟩
end
end Lw
namespace L2
open PySem PyProof.Rows
def tyQ(k n:Nat)(P:PyData->Bool):Ty:=⟨λG v=>∃d,ThAt G d v/\Fit k n d/\P d=true,λs ⟨d,h,f,p⟩=>⟨d,h.same s,f,p⟩⟩
def noInt:PyData->Bool
 |.int _=>false
 |_=>true
section
variable {w:View} {Γ:Cxt} {te ta tb:TE} {K:W.Frag} {k n m k' n' m' lo hi:Nat} {i j:Int} {P P':PyData->Bool}
theorem Fit.le(f:Fit k n d)(hk:k<=k')(hn:n<=n'):Fit k' n' d:=⟨f.ls,f.sh,Nat.le_trans f.dp hk,Nat.le_trans f.wt hn⟩
theorem Th.q(t:Th G k n v)(h:∀d,ThAt G d v->P d=true):(tyQ k n P).p G v:=let ⟨d,a,f⟩:=t;⟨d,a,f,h d a⟩
theorem tyQ.th(t:(tyQ k n P).p G v):Th G k n v:=let ⟨d,a,f,_⟩:=t;⟨d,a,f⟩
theorem Tp.qN(h:Tp w Γ te (tyQ k n noInt))(hP:∀d,noInt d=true->P d=true)(hk:k<=k':=by decide)(hn:n<=n':=by decide):Tp w Γ te (tyQ k' n' P):=h.sub λG v ⟨d,a,f,p⟩=>⟨d,a,f.le hk hn,hP d p⟩
theorem Tp.qI(h:Tp w Γ te (tyI i j))(hP:∀x,i<=x->x<=j->P (.int x)=true)(h1:-(10^29)<=i:=by decide)(h2:j<=10^29:=by decide)(hn:100<=n':=by decide):Tp w Γ te (tyQ k' n' P):=h.sub λG v ⟨x,e,a,b⟩=>by
 rw[e];exact (Th.int (by omega) hn).q λd t=>by
  cases d<;>rw[ThAt]at t<;>first | (obtain⟨_,_,z,_⟩:=t;cases z;done) | (obtain⟨_,_,z,_⟩:=t;cases z;done) | (cases t;done) | (injection t with t;rw[<-t];exact hP x a b)
theorem Tp.nonN:Tp w Γ (tC .non) (tyQ 0 0 noInt):=λZ H Q o f q=>q _ H o (Same.refl _) (Th.non.q λd t=>by cases d<;>rw[ThAt]at t<;>first | rfl | cases t)
theorem Tp.blN:Tp w Γ (tC (.bl b)) (tyQ 0 0 noInt):=λZ H Q o f q=>q _ H o (Same.refl _) (Th.bl.q λd t=>by cases d<;>rw[ThAt]at t<;>first | rfl | cases t)
theorem Tp.strN(h:(x.cps.toList.all λc=>decide (c<16^8))=true)(hn:x.cps.size<=100):Tp w Γ (tC (.str x)) (tyQ 0 100 noInt):=λZ H Q o f q=>q _ H o (Same.refl _) ((Th.str h hn).q λd t=>by cases d<;>rw[ThAt]at t<;>first | rfl | cases t)
theorem Va(t:ThAt G d (.ref a)):noInt d=true:=by cases d<;>first | rfl | (rw[ThAt]at t;cases t)
theorem Tp.lN(h:Tp w Γ te (tyL k n lo hi)):Tp w Γ te (tyQ (k+1) ((n+1)*hi) noInt):=h.sub λG v ⟨a,vs,e,h1,_,h2,h3⟩=>by
 rw[e];exact (Th.lst h1 h3 (Nat.mul_le_mul_left _ h2)).q λd t=>Va t
theorem Tp.tupN(h:TpA w Γ t k n m)(hm:m<=10000:=by decide):Tp w Γ (zgJ t) (tyQ (k+1) ((n+1)*m) noInt):=λZ H Q o f q=>h Z H _ o f λvs H1 o1 s1 e1 t1=>⟨tW (by rw[e1];exact hm),λp hp=>by
 obtain⟨o2,s2,e2⟩:=w.new (.tup vs) o1 hp;exact q (.ref p) _ o2 (s1.trans s2) ((Th.tup e2 (λu hu=>(t1 u hu).same s2) (by rw[e1];exact Nat.le_refl _)).q λd t=>Va t)⟩
theorem Tp.empN:Tp w Γ zej (tyQ 1 0 noInt):=λZ H Q o f q p hp=>by
 obtain⟨o2,s2,e2⟩:=w.new (.dK []) o hp;exact q (.ref p) _ o2 s2 ((Th.emp e2 (Nat.le_refl _)).q λd t=>Va t)
end
end L2
namespace Lw
open PySem L2 PyProof.Rows
def zcO:PyData->Bool:=λd=>!zad d
theorem jh:∀d,noInt d=true->zcO d=true:=λd h=>by cases d<;>first | rfl | cases h
theorem zaf(h:x<0):zcO (.int x)=true:=by
 show (!decide (0<=x))=true;rw[decide_eq_false (by omega)];rfl
theorem zfR{n m:Nat}(e:PyData.int n=.int m):n=m:=by injection e with e;omega
def stV(T0 s dr:Addr)(ds:List Int):View:=⟨aw [s,T0],λH=>Sto2 H s dr ds/\LT T0 H,λh=>xq _ _ _ _ h,λ{H p} o ok hp=>by
 refine⟨⟨ok.1.same (zr hp),ok.2.same (zr hp)⟩,(zr hp).aw _,?_⟩;rw[xf,zp];intro z;simp only[List.mem_cons,List.not_mem_nil,or_false]at z;rcases z with z | z
 ·exact ok.1.nes hp z
 ·exact ok.2.none hp z⟩
structure Odd (G:Hp) (oa:Addr) (ov:List V):Prop where
 li:G oa=some (.lst ov)
 th:∀u∈ov,∃d,ThAt G d u/\Shw d/\zad d=false
theorem Odd.keep(O:Odd G oa ov)(k:∀c o,Ql o->G c=some o->G' c=some o):Odd G' oa ov :=
 ⟨k _ _ trivial O.li,λu hu=>let ⟨d,h,r⟩:=O.th u hu;⟨d,zcs k h,r⟩⟩
theorem Odd.frm{T s dr oa:Addr}{ds:List Int}(O:Odd (aw [s,T] H) oa ov)(k:∀c o,c≠s->c≠T->Ql o->H c=some o->H' c=some o):Odd (aw [s,T] H') oa ov:=O.keep λc o po e=>by
 have hi:c∉[s,T]:=λz=>by rw[Uc z]at e;cases e
 rw[xf hi]at e ⊢;exact k c o (λz=>hi (by simp[z])) (λz=>hi (by simp[z])) po e
section
variable {P:Program} {w:World} {T0:Addr} {s p:Addr} {ds:List Int} {r:Addr} {b:Nat} {bl:Addr} {zs:ZB} {r' bl':Addr} {zs':ZB} {rd tl dd:Addr} {ts:ZB} {H H':Hp} {oa:Addr} {ov:List V}
theorem Odd.stp(O:Odd (aw [s,T0] H) oa ov)(N:Now P w T0 s p ds r b bl zs r' bl' zs' rd tl dd ts H)(m:Stp s T0 dd H H'):Odd (aw [s,T0] H') oa ov:=O.frm (ds:=ds) (dr:=p) λc o h1 h2 po e=>m c o h1 h2 (N.D.ne e fun φ z=>by rw[z]at po;exact po) e
end
section
variable {P:Program} {w:World} {K:W.Frag} {mg:Str->Option Value} {base:Heap} {T0:Addr}
def zaz(K:W.Frag)(T0:Addr):Sp:=λvs H Q _=>Ex2 λ(a:Addr) (ns:List Int)=>vs=[.ref a]/\SqL K H a (ns.map V.int)/\ns.length<=63/\LT T0 H/\∀H',Q (.bl true) H'
theorem vG:zF ["script","store","odd","turn","rule","handed","reader","most","j","far","again","k","n","near","thing"] ["script"] (zx uJ):={}
set_option maxHeartbeats 0 in
theorem zgv(D:Df K mg "law" uJ ["script"] f fd)(jO:Df K mg "_law_draws" zU A2 f1 fd1)(Z2:Df K mg "_law_rule" yK ["store"] f2 fd2)(Xz:FnOk P w K mg base CX0 2 f2 fd2 ["store"] (Wr T0))(vW:Df K mg "_law_copy" uI Aj f3 fd3)(qZ:Df K mg "_law_reader" ut Aj f4 fd4)(Z1:Df K mg "_law_most" uF ["reader"] f5 fd5)(Xk:FnOk P w K mg base CX0 210 f5 fd5 ["reader"] (WR P w))(qi:Df K mg "_law_nth" yf An f6 fd6)(jm:FnOk P w K mg base CX0 210 f6 fd6 An (jW P w 205))(qp:Df K mg "place_of" uB Ac f7 fd7)(uG:FnOk P w K mg base (CX1 P w) 10 f7 fd7 Ac (Yn T0 xA))(vM:Df K mg "_law_near" qK Ar f8 fd8)(uE:FnOk P w K mg base CX0 2 f8 fd8 Ar (ZR T0))(wk:Df K mg "_law_right" yq Aq f9 fd9)(wV:FnOk P w K mg base CX0 211 f9 fd9 Aq (Zg P w T0))(ug:Df K mg "_law_read_right" zX A5 f10 fd10)(qm:FnOk P w K mg base CX0 212 f10 fd10 A5 (jE P w T0))(jb:Df K mg "_law_number" yL Ak f11 fd11)(ZP:FnOk P w K mg base CX0 2 f11 fd11 Ak (Yk T0))(zH:Df K mg "_law_take" wB Ai f12 fd12)(T:Blt mg)(U:Wu mg):FnOk P w K mg base CX0 213 f fd ["script"] (zaz K T0):=by
  have zbn:FnOk P w K mg base CX0 1 f1 fd1 A2 (Y0 K):=Qx jO T U;have Xu:FnOk P w K mg base CX0 1 f3 fd3 Aj ZK:=Wy vW T;have JK:FnOk P w K mg base CX0 1 f4 fd4 Aj (Yr P w):=Ue qZ T;have zQ:FnOk P w K mg base CX0 1 f12 fd12 Ai (uc T0):=uW zH T;have uG:=FnOk.calm uG;refine D.fn.ok vG (λvs H Q E h=>?_) (λcdv A outer s H vs Q E hr h=>?_)
  · obtain⟨a,ns,rfl,_⟩:=h;rfl
  · obtain⟨a,ns,rfl,hS,hlen,hT,kk⟩:=h
    refine xO ?_;intro XX;let q1:Sq XX ((zq uJ).drop 3):=⟨_,zu (zG uN)⟩
    let q2:Sq XX ((sb (zq uJ) 2 true).drop 6):=⟨_,zu (xj PassesOwn.never rfl (je K (zy wQ (pv 2) (yc (zf (zE jb ZP (hr.mono (by decide)) (zf (pv 1) (zf (zR (vO K) (pv 4) zm (λ_ _=>rfl)) zg))) (zf zm (zf zm zg)))))) (zV (i:=14) vG.nd rfl (Or.inl rfl))
          (zu (yG (wD (xx (zE wk wV (hr.mono (by decide)) (zf (pv 5) (zf (pv 6) (zf (pv 14) zg))))))
            (zu (zG uN))
            zP)))⟩
    let q3:Sq XX ((sb (zq uJ) 2 true).drop 5):=⟨_,zj (zbV (yG (PW.pt (Vh (zO Zt (pv 3) zm (zM _)) (YQ (wD (xx (zE ug qm (hr.mono (by decide)) (zf (pv 1) (zf (pv 5) (zf (pv 6) zg)))))))))
          (zu (zG uN))
          zP)) q2.p⟩
    let q4:Sq XX ((sb (sb (sb (zq uJ) 2 true) 4 true) 5 true).drop 2):=⟨_,zu (xj PassesOwn.never rfl (je K (zy wQ (yc (zf (pv 12) (zf (pv 12) zg))) (yV (show CScope (zx uJ) _ "one" ["script","store","odd","turn","rule","handed","reader","most","j","far","again","k","n","near","thing"] [] [] from {}) rfl (je K (pv 13)) (λ_ _ _ _=>(WN (zO Wj (pv 0) (zy ZZ zm zm) (zM _)))) (λ_ _ _ _=>(pv 0))))) (zV (i:=14) vG.nd rfl (Or.inl rfl))
              (zu (yG (wD (xx (zE wk wV (hr.mono (by decide)) (zf (pv 5) (zf (pv 6) (zf (pv 14) zg))))))
                (zu (zG uN))
                zP)))⟩
    let q5:Sq XX ((sb (sb (sb (zq uJ) 2 true) 4 true) 5 true).drop 1):=⟨_,zj (zA (i:=13) vG.nd rfl (Or.inl rfl) (yc (zf (zE vM uE (hr.mono (by decide)) (zf (pv 1) (zf (zR (vO K) (pv 4) zm (λ_ _=>rfl)) (zf (pv 12) zg)))) (zf (zE vM uE (hr.mono (by decide)) (zf (pv 1) (zf (zR (vO K) (pv 4) zm (λ_ _=>rfl)) (zf (pv 12) zg)))) zg)))) q4.p⟩
    let q6:Sq XX ((sb (sb (zq uJ) 2 true) 4 true).drop 5):=⟨_,zu (yG (zO Wj (pv 12) (zy ZZ zm zm) (zM _))
            (zj (zbV (yG (PW.pt (Vh (zO Wj (pv 11) (pv 7) (zM _)) (YQ (zO zcD (zE qp uG (hr.mono (by decide)) (zf (pv 5) (zf (pv 12) zg))) (pv 11) (zM _)))))
              (zu (zG uN))
              zP)) q5.p)
            zP)⟩
    let q7:Sq XX ((sb (sb (zq uJ) 2 true) 4 true).drop 4):=⟨_,zj (zbV (yG (zO Wj (pv 11) (pv 7) (zM _))
            (zu (zA (i:=12) vG.nd rfl (Or.inl rfl) (zE qi jm (hr.mono (by decide)) (zf (pv 6) (zf (pv 11) zg)))))
            zP)) q6.p⟩
    let q8:Sq XX ((sb (sb (zq uJ) 2 true) 4 true).drop 3):=⟨_,zj (zA (i:=12) vG.nd rfl (Or.inl rfl) zm) q7.p⟩
    let q9:Sq XX ((sb (sb (zq uJ) 2 true) 4 true).drop 2):=⟨_,zj (zA (i:=11) vG.nd rfl (Or.inl rfl) (zy yh (zR (yJ K) (yc (zf (zy yh (pv 9) zm) (zf (zy yh (pv 9) (zy ZZ zm zm)) (zf (pv 9) zg)))) (pv 8) (λ_ _=>rfl)) (zz (Jx rfl) (by rfl) T.n_max boot_max (zf zm (zf (zz (Jc rfl) (by rfl) T.n_min boot_min (zf (pv 7) (zf (zy ZZ zm zm) zg))) zg))))) q8.p⟩
    let q10:Sq XX ((sb (sb (zq uJ) 2 true) 4 true).drop 1):=⟨_,zj (xj PassesOwn.never rfl (yt rfl T.n_range (zf zm zg)) (zV (i:=10) vG.nd rfl (Or.inl rfl))
            (zu (zA (i:=9) vG.nd rfl (Or.inl rfl) (zy ym (zy wL (pv 9) zm) (zE zH zQ (hr.mono (by decide)) (zf (pv 1) (zf zm zg))))))) q9.p⟩
    let q11:Sq XX ((sb (zq uJ) 2 true).drop 4):=⟨_,zj (xj PassesOwn.never rfl (yt rfl T.n_range (zf zm zg)) (zV (i:=8) vG.nd rfl (Or.inl rfl))
          (zj (zA (i:=9) vG.nd rfl (Or.inl rfl) zm) q10.p)) q3.p⟩
    let q12:Sq XX ((sb (zq uJ) 2 true).drop 3):=⟨_,zj (zA (i:=7) vG.nd rfl (Or.inl rfl) (zE Z1 Xk (hr.mono (by decide)) (zf (pv 6) zg))) q11.p⟩
    let q13:Sq XX ((sb (zq uJ) 2 true).drop 2):=⟨_,zj (zA (i:=6) vG.nd rfl (Or.inl rfl) (zE qZ JK (hr.mono (by decide)) (zf (pv 4) zg))) q12.p⟩
    let q14:Sq XX ((sb (zq uJ) 2 true).drop 1):=⟨_,zj (zA (i:=5) vG.nd rfl (Or.inl rfl) (zE vW Xu (hr.mono (by decide)) (zf (pv 4) zg))) q13.p⟩
    let q15:Sq XX ((zq uJ).drop 2):=⟨_,zj (xj PassesOwn.never rfl (yt rfl T.n_range (zf zm zg)) (zV (i:=3) vG.nd rfl (Or.inl rfl))
        (zj (zA (i:=4) vG.nd rfl (Or.inl rfl) (zE Z2 Xz (hr.mono (by decide)) (zf (pv 1) zg))) q14.p)) q1.p⟩
    let q16:Sq XX ((zq uJ).drop 1):=⟨_,zj (zfr (i:=2) vG.nd rfl (Or.inl rfl) (zaG (vo (pei xM) (vo (pei uN) (vo (pei uN) (vo (pei (zcp zay zm)) (vo (pei (zcp zay zm)) (zcP (zcP (vo (zaG (vo zcT V1)) (vo (zfH (vo zcT V1)) (vo (zaG V1) (vo (pei zdZ) (vo (pei (zy xT zm (zy ZZ zm zm))) V1)))))))))))))) q15.p⟩
    refine⟨_,(zj (zA (i:=1) vG.nd rfl (Or.inl rfl) (yc (zf (zE jO zbn (hr.mono (by decide)) (zf (pv 0) (zf zm zg))) (zf zm zg)))) q16.p),?_⟩;refine⟨_,rfl,a,ns,rfl,hS,hlen,λp ds H1 hp Dr dne dlen m1=>⟨(by show 2<=sizeLine;decide),λst hst=>?_⟩⟩;have m2:=zr hst (o:=.lst [.ref p,.int 0]);have S:Sto2 (upd H1 st (.lst [.ref p,.int 0])) st p ds:=⟨⟨0,zp⟩,m2 _ _ Dr.li,dne,dlen,Dr.nn⟩
    have T2:=(hT.same m1).same m2;generalize upd H1 st (.lst [.ref p,.int 0])=H2 at m2 S T2;show Uy _ _ _ _ _;refine Tp.asg2 (w:=stV T0 st p ds) (T1:=ZF (tyQ 9 10000 zcO) 12 12) (Tp.lstT (TpB.cons (Tp.qN Tp.nonN jh) (TpB.cons (Tp.qN Tp.blN jh) (TpB.cons (Tp.qN Tp.blN jh) (TpB.cons (Tp.qI (Tp.neg Tp.int) (λx h1 h2=>zaf (by omega))) (TpB.cons (Tp.qI (Tp.neg Tp.int) (λx h1 h2=>zaf (by omega))) (TpB.cons (Tp.qN (Tp.strN (by decide +kernel) (by decide +kernel)) jh) (TpB.cons (Tp.qN (Tp.strN (by decide +kernel) (by decide +kernel)) jh)
      (TpB.cons (Tp.qN (Tp.lN (Tp.lst (TpA.cons (Tp.ofI Tp.int) TpA.nil))) jh) (TpB.cons (Tp.qN (Tp.tupN (TpA.cons (Tp.ofI Tp.int) TpA.nil)) jh) (TpB.cons (Tp.qN (Tp.lN (Tp.lst TpA.nil)) jh) (TpB.cons (Tp.qN Tp.empN jh) (TpB.cons (Tp.qI (Tp.subI Tp.int (Tp.pow ⟨by decide,by decide,by decide⟩)) (λx h1 h2=>zaf (Int.lt_of_le_of_lt h2 (by decide)))) TpB.nil))))))))))))) ⟨S,T2⟩ (Fits.any _) λod H3 ok3 s3 t3=>?_
    obtain⟨oa,ov,rfl,ho,_,ho12,hov⟩:=t3;have O3:Odd (aw [st,T0] H3) oa ov:=⟨ho,λu hu=>by
      obtain⟨d,h1,h2,h3⟩:=hov u hu;exact⟨d,h1,Lw.Fit.shw h2 (by decide) (by decide),by unfold zcO at h3;simpa using h3⟩⟩
    obtain⟨S3,T3⟩:=ok3;refine⟨4,rfl,by decide,by decide,yP (lo:=0) (n:=4) (λi Z Hx=>∃(v3 v4 v5 v6 v7 v8 v9 v10 v11 v12 v13 v14:Option V),Z=[some (.ref a),some (.ref st),some (.ref oa),v3,v4,v5,v6,v7,v8,v9,v10,v11,v12,v13,v14]/\Sto2 Hx st p ds/\LT T0 Hx/\Odd (aw [st,T0] Hx) oa ov) ⟨_,_,_,_,_,_,_,_,_,_,_,_,rfl,S3,T3,O3⟩ ?_ ?_⟩
    · rintro i Z Hx hi ⟨v3,v4,v5,v6,v7,v8,v9,v10,v11,v12,v13,v14,rfl,Sx,Tx,Ox⟩
      refine⟨_,rfl,st,p,ds,rfl,Sx,Tx,λr b bl zs H4 F4 R4 g=>?_⟩;have b2:=g.b2;have b16:=g.b16;have hz4:zs.length<=4:=by have:=g.len;rwa[List.length_map]at this
      have O4:Odd (aw [st,T0] H4) oa ov:=Ox.frm (ds:=ds) (dr:=p) λc o h1 h2 _ e=>F4.get h1 h2 e;refine⟨_,rfl,r,b,bl,zs,rfl,R4.all,by omega,λr' bl' zs' H5 s5 R5 e5 n1 n2 n3=>?_⟩;have S4:=F4.st;have lt5:=F4.lt.same s5;have S5:=S4.same s5;have O5:=O4.keep λc o _ e=>s5.aw _ c o e;refine⟨_,rfl,r,b,bl,zs,rfl,R4.all.same s5,g,λrd tl dd ts H6 f1 f2 f3 f4 Rd6 e6 s6=>?_⟩;have O6:=O5.keep λc o _ e=>s6.aw _ c o e;have gt:yx b (ts.map (·.2)):=by rw[e6];exact g
      have ez:zs'.map (·.2)=ts.map (·.2):=by rw[e5,e6]
      have gz:yx b (zs'.map (·.2)):=by rw[ez];exact gt
      have ne:∀st∈ts.map (·.2),st≠[]:=λst h=>(gt.st st h).ne;have N6:Now P w T0 st p ds r b bl zs r' bl' zs' rd tl dd ts H6:=⟨S5.same s6,lt5.same s6,(R4.same (s5.aw _)).same (s6.aw _),(R5.off (S4.nes n2) (S4.nes n1) λz hz=>S4.nes (n3 z hz).1).same (s6.aw _),Rd6.s.off (S5.nes f1) (S5.nes f2) (λz hz=>S5.nes (f4 z hz)),Rd6.d⟩
      refine⟨_,rfl,rd,tl,dd,b,ts,rfl,N6.rdr gt,λH7 s7 d7=>?_⟩;have N7:=N6.sameD s7 d7;have O7:=O6.stp N6 (.ofT (.ofD s7));have e60:=vZ ne b2 60;generalize hmost:uo (ts.map (·.2)) b 60=most at e60;refine⟨3,rfl,by decide,by decide,yP (lo:=0) (n:=3) (λj Z Hy=>∃(v8 v9 v10 v11 v12 v13 v14:Option V),Z=[some (.ref a),some (.ref st),some (.ref oa),some (.int (0+(i:Int))),some (.ref r),some (.ref r'),some (.ref rd),some (.int most),v8,v9,v10,v11,v12,v13,v14]/\Now P w T0 st p ds r b bl zs r' bl' zs' rd tl dd ts Hy/\Odd (aw [st,T0] Hy) oa ov) ⟨_,_,_,_,_,_,_,rfl,N7,O7⟩ ?_ ?_⟩
      · rintro j Z Hy hj ⟨v8,v9,v10,v11,v12,v13,v14,rfl,Ny,Oy⟩
        refine⟨7,rfl,by decide,by decide,yP (lo:=0) (n:=7) (λm Z H8=>∃(v10:Option V) (far:Nat),Z=[some (.ref a),some (.ref st),some (.ref oa),some (.int (0+(i:Int))),some (.ref r),some (.ref r'),some (.ref rd),some (.int most),some (.int (0+(j:Int))),some (.int far),v10,v11,v12,v13,v14]/\Now P w T0 st p ds r b bl zs r' bl' zs' rd tl dd ts H8/\Odd (aw [st,T0] H8) oa ov) ⟨_,0,rfl,Ny,Oy⟩ ?_ ?_⟩
        · rintro m Z H8 hm ⟨v10,far,rfl,N8,O8⟩
          refine⟨_,rfl,_,_,rfl,rfl,.inr ⟨by decide,by decide⟩,_,rfl,st,p,ds,10007,rfl,N8.st,by decide,N8.lt,λy H9 hy _ q9 t9=>⟨_,_,rfl,rfl,some (.int (0+(m:Int))),far*10007+y,?_,N8.fr ⟨q9,t9⟩,O8.stp N8 (.ofF ⟨q9,t9⟩)⟩⟩;simp
        rintro Z H8 ⟨v10,far,rfl,N8,O8⟩;refine⟨_,rfl,_,_,rfl,rfl,(by decide:(0:Int)<40),_,rfl,_,_,rfl,rfl,⟨by decide,by decide,by decide⟩,_,_,rfl,rfl,(by decide:(0:Int)<(10:Int)^(6:Int).toNat),_,rfl,(by show 3<=sizeLine;decide),λl hl=>?_⟩;generalize eH:upd H8 l _=H9;obtain⟨m9,hl9⟩:=zbh hl eH;have N9:=N8.same m9;have O9:=O8.stp N8 (.of m9);obtain⟨x,hx⟩:∃x:Nat,atI [V.int ((far:Int) % 40),.int ((far:Int) % 10^(6:Int).toNat),.int (far:Int)] (0+(j:Int))=some (.int x):=by
          rw[Int.zero_add]
          match j,hj with
          |0,_=>exact⟨far % 40,xW (by simp)⟩
          |1,_=>exact⟨far % 10^6,xW (by simp)⟩
          |2,_=>exact⟨far,xW (by simp)⟩
          |n+3,h=>exact absurd h (by omega)
        refine⟨_,rfl,l,_,_,.int x,rfl,rfl,SqL.of hl9,hx,?_⟩;have hM:(0:Int)<(if (if (10:Int)^(25:Int).toNat<(most:Int) then (10:Int)^(25:Int).toNat else (most:Int))>1 then (if (10:Int)^(25:Int).toNat<(most:Int) then (10:Int)^(25:Int).toNat else (most:Int)) else 1):=by split<;>omega
        have key:∀M:Int,0<M->∃k:Nat,(x:Int) % M=k:=λM h=>⟨((x:Int) % M).toNat,by have:=Int.emod_nonneg (x:Int) (show M≠0 by omega);omega⟩
        obtain⟨k,hk⟩:=key _ hM;refine⟨_,rfl,_,_,rfl,rfl,⟨by decide,by decide,by decide⟩,_,_,rfl,_,_,rfl,_,_,rfl,rfl,hM,?_⟩;dsimp only;rw[hk];refine⟨λZ HA=>∃n:Nat,Z=[some (.ref a),some (.ref st),some (.ref oa),some (.int (0+(i:Int))),some (.ref r),some (.ref r'),some (.ref rd),some (.int most),some (.int (0+(j:Int))),some (.int far),v10,some (.int k),some (.int n),v13,v14]/\Now P w T0 st p ds r b bl zs r' bl' zs' rd tl dd ts HA/\Odd (aw [st,T0] HA) oa ov/\(k<most->gd (ts.map (·.2)) b n=true/\many (gd (ts.map (·.2)) b) n=k),?_,?_⟩
        · refine⟨_,rfl,_,rfl,_,_,rfl,rfl,_,rfl,Vb (λhz=>?_) (λhz=>?_)⟩
          · have hz:k<most:=by have:=of_decide_eq_true hz;omega
            refine⟨_,rfl,_,rfl,rd,tl,dd,b,ts,k,59,rfl,by decide,.inr (by rw[hmost];exact hz),N9.rdr gt,λo HA pA sA dA=>?_⟩;rcases pA with ⟨n,rfl,hn1,hn2⟩ | ⟨_,hno⟩
            · exact⟨n,rfl,N9.sameD sA dA,O9.stp N9 (.ofT (.ofD sA)),λ_=>⟨hn1,hn2⟩⟩
            · have:=hno (b^60);omega
          · exact⟨0,rfl,N9,O9,λh=>absurd (decide_eq_true (by omega:(k:Int)<most)) hz⟩
        · rintro Z HA ⟨n,rfl,NA,OA,hnk⟩
          refine⟨_,rfl,_,_,rfl,rfl,⟨by decide,by decide,by decide⟩,_,_,rfl,rfl,_,rfl,?_⟩;generalize hz:decide ((n:Int)<(10:Int)^(26:Int).toNat)=z;cases z with
          |false=>exact xF ⟨_,_,_,_,_,_,_,rfl,NA,OA⟩
          |true=>
            have hn26:n<2^87:=by
              have h1:=of_decide_eq_true hz;have h2:(10:Int)^(26:Int).toNat<((2^87:Nat):Int):=by decide
              omega
            have hn9:n<2^900:=Nat.lt_trans hn26 (Nat.pow_lt_pow_right (by decide) (by decide));have one9:∀m:Nat,m<2^87->m<2^900/\(zT b m).length<=205:=λm h=>⟨Nat.lt_trans h (Nat.pow_lt_pow_right (by decide) (by decide)),Nat.le_trans (vX b2 87 m h) (by decide)⟩
            refine xU ⟨λZ HB=>Z=[some (.ref a),some (.ref st),some (.ref oa),some (.int (0+(i:Int))),some (.ref r),some (.ref r'),some (.ref rd),some (.int most),some (.int (0+(j:Int))),some (.int far),v10,some (.int k),some (.int n),v13,v14]/\Now P w T0 st p ds r b bl zs r' bl' zs' rd tl dd ts HB/\Odd (aw [st,T0] HB) oa ov,?_,?_⟩
            · refine⟨_,rfl,_,rfl,_,_,rfl,rfl,_,rfl,Vb (λhz=>?_) (λhz=>⟨rfl,NA,OA⟩)⟩
              obtain⟨hg1,hm1⟩:=hnk (by have:=of_decide_eq_true hz;omega);refine⟨_,rfl,_,rfl,r',b,bl',zs',.int n,.int n,rfl,NA.R'.all,gz,by rw[ThAt],λm e=>(Qf hn9 (one9 n hn26).2 m e).1,NA.lt,λhno=>?_,λm e hg HB sB lB=>⟨_,rfl,rfl,_,rfl,jK ?_ ⟨rfl,NA.sameL sB lB,OA.stp NA (.ofT (.ofL sB))⟩⟩⟩
              · have z:=hno n rfl
                rw[ez,hg1]at z;cases z
              · obtain rfl:=zfR e
                rw[ez,hm1,decide_eq_true rfl];rfl
            · rintro Z HB ⟨rfl,NB,OB⟩
              refine⟨_,rfl,_,rfl,r,_,_,.int b,rfl,rfl,SqT.of NB.R.all.tu,rfl,_,rfl,st,p,ds,b,n,rfl,NB.st,NB.lt,b2,b16,hn9,λy1 HC _ FC=>?_⟩;have NC:=NB.fr FC;have OC:=OB.stp NB (.ofF FC);refine⟨_,rfl,_,rfl,r,_,_,.int b,rfl,rfl,SqT.of NC.R.all.tu,rfl,_,rfl,st,p,ds,b,n,rfl,NC.st,NC.lt,b2,b16,hn9,λy2 HD _ FD=>⟨(by show 2<=sizeLine;decide),λnl hnl=>?_⟩⟩;have ND:=NC.fr FD;have OD:=OC.stp NC (.ofF FD);generalize eE:upd HD nl _=HE;obtain⟨mE,hnE⟩:=zbh hnl eE;have NE:=ND.same mE;have OE:=OD.stp ND (.of mE);refine⟨_,rfl,_,rfl,(by show 2<=sizeLine;decide),λl1 hl1=>?_⟩;generalize eG:upd HE l1 _=HG;obtain⟨mG,hlG⟩:=zbh hl1 eG;have NG:=NE.same mG;have OG:=OE.stp NE (.of mG);have hnG:=mG _ _ hnE;refine⟨_,rfl,nl,rfl,⟨_,SqL.of hnG⟩,xu (K:=K) (a:=nl) (xs:=[V.int y1,V.int y2]) (λi ys Hc=>Hc=HG/\ys.length<=i/\∀y∈ys,∃m:Nat,y=V.int m/\m<2^87) ⟨rfl,Nat.le_refl _,by simp⟩ (λi ys Hc _ ⟨e,_⟩=>by rw[e];exact SqL.of hnG) ?_ ?_⟩
              · rintro q x ys Hc hx ⟨rfl,hy1,hy2⟩
                obtain⟨m,rfl⟩:∃m:Nat,x=V.int m:=by
                  have hm:=List.mem_of_getElem? hx;simp only[List.mem_cons,List.not_mem_nil,or_false]at hm;rcases hm with rfl | rfl
                  · exact⟨_,rfl⟩
                  · exact⟨_,rfl⟩
                have hq:q<2:=(List.getElem?_eq_some_iff.mp hx).1;refine⟨Nat.lt_of_le_of_lt (Nat.le_trans hy1 (show q<=2 by omega)) (by decide),?_⟩;refine⟨_,rfl,_,_,rfl,rfl,⟨by decide,by decide,by decide⟩,_,_,rfl,rfl,_,rfl,?_⟩;generalize hz:decide ((m:Int)<(10:Int)^(26:Int).toNat)=z;cases z with
                |false=>exact xF ⟨rfl,by omega,hy2⟩
                |true=>
                  refine xU ⟨_,rfl,rfl,by rw[List.length_append,List.length_singleton];omega,λy hy=>?_⟩;rcases List.mem_append.mp hy with hy | hy
                  · exact hy2 y hy
                  · refine⟨m,by simpa using hy,?_⟩
                    have h1:=of_decide_eq_true hz;have h2:(10:Int)^(26:Int).toNat<((2^87:Nat):Int):=by decide
                    omega
              rintro ys Hc ⟨rfl,hy1,hy2⟩ l2 hl2;have hy1:ys.length<=2:=hy1;generalize eI:upd Hc l2 _=HI;obtain⟨mI,hlI⟩:=zbh hl2 eI;refine⟨l1,l2,_,_,rfl,rfl,mI _ _ hlG,hlI,by show 2+ys.length<=sizeLine;exact Nat.le_trans (show 2+ys.length<=4 by omega) (by decide),λl3 hl3=>?_⟩;have hxs:∀x∈[V.int (n:Int),V.int n]++ys,∃m:Nat,x=V.int m/\m<2^87:=λx hx=>by
                rcases List.mem_append.mp hx with hx | hx
                · simp only[List.mem_cons,List.not_mem_nil,or_false,or_self]at hx
                  exact⟨n,hx,hn26⟩
                · exact hy2 x hx
              generalize eJ:upd HI l3 _=HJ;obtain⟨mJ,hlJ⟩:=zbh hl3 eJ;have NJ:=(NG.same mI).same mJ;have OJ:=OG.stp NG (.of (mI.trans mJ));generalize exs:[V.int (n:Int),V.int n]++ys=xs at hxs;have hlJ:HJ l3=some (.lst xs):=by rw[<-exs];exact hlJ
              refine⟨l3,rfl,⟨_,SqL.of hlJ⟩,qH (K:=K) (a:=l3) (xs:=xs) (λq Z Hk=>∃v14:Option V,Z=[some (.ref a),some (.ref st),some (.ref oa),some (.int (0+(i:Int))),some (.ref r),some (.ref r'),some (.ref rd),some (.int most),some (.int (0+(j:Int))),some (.int far),v10,some (.int k),some (.int n),some (.ref nl),v14]/\Now P w T0 st p ds r b bl zs r' bl' zs' rd tl dd ts Hk/\Odd (aw [st,T0] Hk) oa ov/\Hk l3=some (.lst xs)) ⟨_,rfl,NJ,OJ,hlJ⟩ (λi Z Hk _ ⟨_,_,_,_,h⟩=>SqL.of h) ?_ ?_⟩
              · rintro q x Z Hk hx ⟨v14,rfl,Nk,Ok,hlk⟩
                obtain⟨m,rfl,hm⟩:=hxs x (List.mem_of_getElem? hx);obtain⟨m9,m205⟩:=one9 m hm;exact⟨_,rfl,_,rfl,_,rfl,r',b,bl',zs',rd,tl,dd,ts,.int m,.int m,rfl,Nk.pair,ez,gt,by rw[ThAt],Shw.num m9,Qf m9 m205,λHl ml ll dl=>⟨_,rfl,xF ⟨_,rfl,Nk.td ml ll dl,Ok.stp Nk (.ofT ml),ml _ _ (Nk.lt.lst hlk) (Nk.D.ne hlk λ_ z=>nomatch z) hlk⟩⟩⟩
              · rintro Z Hk ⟨v14,rfl,Nk,Ok,_⟩
                exact⟨_,_,_,_,_,_,_,rfl,Nk,Ok⟩
      · rintro Z H8 ⟨v8,v9,v10,v11,v12,v13,v14,rfl,N8,O8⟩
        refine⟨λZ H9=>Z=[some (.ref a),some (.ref st),some (.ref oa),some (.int (0+(i:Int))),some (.ref r),some (.ref r'),some (.ref rd),some (.int most),v8,v9,v10,v11,v12,v13,v14]/\Now P w T0 st p ds r b bl zs r' bl' zs' rd tl dd ts H9/\Odd (aw [st,T0] H9) oa ov,?_,?_⟩
        · refine⟨_,rfl,rfl,_,rfl,Vb (λhz=>?_) (λhz=>⟨rfl,N8,O8⟩)⟩
          exact⟨_,rfl,_,rfl,_,rfl,st,p,ds,r,b,bl,zs,r',bl',zs',rd,tl,dd,ts,rfl,N8,ez,gt,λH9 N9 S9=>⟨_,rfl,xF ⟨rfl,N9,O8.stp N8 S9⟩⟩⟩
        · rintro Z H9 ⟨rfl,N9,O9⟩
          refine⟨_,rfl,_,rfl,_,rfl,r,_,_,.int b,rfl,rfl,SqT.of N9.R.all.tu,rfl,st,p,ds,b,rfl,N9.st,N9.lt,b2,b16,λn HA hn FA=>⟨(by show 3<=sizeLine;decide),λl1 hl1=>?_⟩⟩;have NA:=N9.fr FA;have OA:=O9.stp N9 (.ofF FA);generalize eB:upd HA l1 _=HB;obtain⟨mB,hlB⟩:=zbh hl1 eB;have NB:=NA.same mB;have OB:=OA.stp NA (.of mB);refine⟨oa,l1,ov,_,rfl,rfl,xq _ _ _ _ OB.li,hlB,Nat.le_trans (show ov.length+3<=15 by omega) (by decide),λl2 hl2=>?_⟩;generalize eC:upd HB l2 _=HC;obtain⟨mC,hlC⟩:=zbh hl2 eC;have NC:=NB.same mC;have OC:=OB.stp NB (.of mC);have one9:∀m:Nat,m<2^100->m<2^900/\(zT b m).length<=205:=λm h=>⟨Nat.lt_trans h (Nat.pow_lt_pow_right (by decide) (by decide)),Nat.le_trans (vX b2 100 m h) (by decide)⟩
          refine⟨l2,rfl,⟨_,SqL.of hlC⟩,qH (K:=K) (a:=l2) (xs:=ov++[V.int (n:Int),V.int 0,V.int 1]) (λq Z Hk=>∃v14:Option V,Z=[some (.ref a),some (.ref st),some (.ref oa),some (.int (0+(i:Int))),some (.ref r),some (.ref r'),some (.ref rd),some (.int most),v8,v9,v10,v11,v12,v13,v14]/\Now P w T0 st p ds r b bl zs r' bl' zs' rd tl dd ts Hk/\Odd (aw [st,T0] Hk) oa ov/\Hk l2=some (.lst (ov++[V.int (n:Int),V.int 0,V.int 1]))) ⟨_,rfl,NC,OC,hlC⟩ (λi Z Hk _ ⟨_,_,_,_,h⟩=>SqL.of h) ?_ ?_⟩
          · rintro q x Z Hk hx ⟨v14,rfl,Nk,Ok,hlk⟩
            obtain⟨d,hd,sw,hnum⟩:∃d,ThAt Hk d x/\Shw d/\∀m:Nat,d=.int m->m<2^900/\(zT b m).length<=205:=by
              rcases List.mem_append.mp (List.mem_of_getElem? hx) with hm | hm0
              · obtain⟨d,h1,h2,h3⟩:=Ok.th x hm
                exact⟨d,h1.same (xq _ _),h2,λm e=>by rw[e,show zad (.int m)=true from decide_eq_true (Int.natCast_nonneg m)]at h3;cases h3⟩
              · obtain⟨m,rfl,hm⟩:∃m:Nat,x=V.int m/\m<2^100:=by
                  simp only[List.mem_cons,List.not_mem_nil,or_false]at hm0;rcases hm0 with rfl | rfl | rfl
                  · exact⟨n,rfl,hn⟩
                  · exact⟨0,rfl,by decide⟩
                  · exact⟨1,rfl,by decide⟩
                obtain⟨m9,m205⟩:=one9 m hm;exact⟨.int m,by rw[ThAt],Shw.num m9,Qf m9 m205⟩
            exact⟨_,rfl,_,rfl,_,rfl,r',b,bl',zs',rd,tl,dd,ts,x,d,rfl,Nk.pair,ez,gt,hd,sw,hnum,λHl ml ll dl=>⟨_,rfl,xF ⟨_,rfl,Nk.td ml ll dl,Ok.stp Nk (.ofT ml),ml _ _ (Nk.lt.lst hlk) (Nk.D.ne hlk λ_ z=>nomatch z) hlk⟩⟩⟩
          · rintro Z Hk ⟨v14,rfl,Nk,Ok,_⟩
            exact⟨_,_,_,_,_,_,_,_,_,_,_,_,rfl,Nk.st,Nk.lt,Ok⟩
    · rintro Z Hx ⟨v3,v4,v5,v6,v7,v8,v9,v10,v11,v12,v13,v14,rfl,Sx,Tx,Ox⟩
      exact kk Hx
end
open PySem L2
theorem fb1{P:List Value->Prop}(h:∀a,P [a]):∀us:List Value,us.length=1->P us
 |[_],_=>h _
theorem fb2{P:List Value->Prop}(h:∀a b,P [a,b]):∀us:List Value,us.length=2->P us
 |[_,_],_=>h _ _
theorem fb3{P:List Value->Prop}(h:∀a b c,P [a,b,c]):∀us:List Value,us.length=3->P us
 |[_,_,_],_=>h _ _ _
theorem fb4{P:List Value->Prop}(h:∀a b c d,P [a,b,c,d]):∀us:List Value,us.length=4->P us
 |[_,_,_,_],_=>h _ _ _ _
theorem fb5{P:List Value->Prop}(h:∀a b c d e,P [a,b,c,d,e]):∀us:List Value,us.length=5->P us
 |[_,_,_,_,_],_=>h _ _ _ _ _
theorem ex_{α:Sort u}{p:α->Prop}{a:α}(h:p a):∃x,p x:=⟨a,h⟩
def FL(K:W.Frag)(n q:Str)(st:Stmt)(f:Addr)(cd:Value)(od an:Option Addr)(sl:Array (Option Value))(oc kV dc pm ct:Value):Prop:=K.lookup f=some ⟨oc,od,.func (W.fnOf n q (qW st) (zq st) (zx st) .none kV dc pm an cd ct),sl⟩/\W.codeIn K cd q=true/\W.keepIn K (.ref f)=true
def FB(n q:Str)(st:Stmt)(ps:List Str):Prop:=∀kV doc pm an cdv ct us,us.length=ps.length->bindArgs (W.fnOf n q (qW st) (zq st) (zx st) .none kV doc pm an cdv ct) ⟨us,[]⟩=pure (ps.zip us)
def FD(K:W.Frag)(cd:Value)(n:Str)(st:Stmt)(ps:List Str):Prop:=FB n n st ps/\∃f od an sl oc kV dc pm ct,W.nsIn K mainGlobals n=some (some (.ref f))/\FL K n n st f cd od an sl oc kV dc pm ct
def FM(K:W.Frag)(C:Addr)(n q:Str)(st:Stmt)(ps:List Str):Prop:=FB n q st ps/\∃f cd od an sl oc kV dc pm ct,W.findIn K (.ref C) n=some (some (.ref f))/\W.isFn K (.ref f)=true/\FL K n q st f cd od an sl oc kV dc pm ct
abbrev f3(n:Str)(s:Stmt)(ps:List Str):=(n,s,ps)
abbrev f4(n q:Str)(s:Stmt)(ps:List Str):=(n,q,s,ps)
def FDs(K:W.Frag):List (Str×Stmt×List Str)->Prop
 |[]=>True
 | (n,s,ps)::r=>(∃cd,FD K cd n s ps)/\FDs K r
def FMs(K:W.Frag)(C:Addr):List (Str×Str×Stmt×List Str)->Prop
 |[]=>True
 | (n,q,s,ps)::r=>FM K C n q s ps/\FMs K C r
def NNs(K:W.Frag):List Str->Prop
 |[]=>True
 |n::r=>W.nsIn K mainGlobals n=some none/\NNs K r
def NFs(K:W.Frag)(C:Addr):List Str->Prop
 |[]=>True
 |n::r=>W.findIn K (.ref C) n=some none/\NFs K C r
def MRs(K:W.Frag)(C:Addr):Nat->List Addr->Prop
 |_,[]=>True
 |0,D::r=>W.mroIn K C (.ref D)=some true/\MRs K C 99 r
 |n+1,D::r=>W.mroIn K C (.ref D)=some false/\MRs K C n r
def DFs(K:W.Frag)(mg:Str->Option Value):List (Str×Stmt×List Str)->Prop
 |[]=>True
 | (n,s,ps)::r=>(∃f fd,Df K mg n s ps f fd)/\DFs K mg r
def MTs(K:W.Frag)(C:Addr):List (Str×Str×Stmt×List Str)->Prop
 |[]=>True
 | (n,q,s,ps)::r=>(∃f fd,Mt K C q n s ps f fd)/\MTs K C r
def CLs(K:W.Frag)(C:Addr)(n:Str):Prop:=W.nsIn K mainGlobals n=some (some (.ref C))/\W.makesIn K C=true/\W.keepIn K (.ref C)=true/\W.plainGet K C Str.empty=true/\W.hasDictIn K C=true/\W.plainOver K C=true/\W.findIn K (.ref C) "__setattr__"= some (some (.builtin "object.__setattr__"))
section
variable {K:W.Frag} {n q:Str} {C:Addr} {h:Heap} {mg:Str->Option Value}
theorem FD.df{st:Stmt}{cd:Value}(x:FD K cd n st ps)(X:K.In h)(G:h.Ns mainGlobals mg):∃f fd,Df K mg n st ps f fd/\fd.code=cd/\∀s us,us.length=ps.length->BindsTo s fd ⟨us,[]⟩ (ps.zip us):=
 let ⟨b,_,_,_,_,_,_,_,_,_,a,l,e,k⟩:=x
 ⟨_,_,zhn X G a l e k b,rfl,λ_ us h=>.of_eq (b _ _ _ _ _ _ us h)⟩
theorem FDs.df(X:K.In h)(G:h.Ns mainGlobals mg):∀{l},FDs K l->DFs K mg l
 |[],_=>trivial
 |_::_,⟨⟨_,x⟩,y⟩=>⟨let ⟨f,fd,d,_⟩:=x.df X G;⟨f,fd,d⟩,FDs.df X G y⟩
theorem FMs.mt:∀{l},FMs K C l->MTs K C l
 |[],_=>trivial
 | (_,_,st,_)::_,⟨⟨b,_,_,_,_,_,_,_,_,_,_,a,i,l,e,k⟩,y⟩=>⟨⟨_,_,JZ (st:=st) l e k,(JZ (st:=st) l e k).binds b,a,i,k⟩,FMs.mt y⟩
end
structure CF (K:W.Frag) (n:Str) (C:Addr):Prop where
 g:W.nsIn K mainGlobals n=some (some (.ref C))
 m:W.mroIn K C (.type "object")=some true
 t:W.typeIn K (.ref C)=some (.type "type")
theorem CF.cls{K:W.Frag}(x:CF K n D)(e:W.mroIn K C (.ref D)=some b):W.kitCls K (.ref C) (.ref D)=some b:=by
 obtain⟨cd,h,_⟩:=Option.bind_eq_some_iff.mp x.m;show (if ((W.clsIn K D).isSome && W.typeIn K (.ref D) == some (.type "type"))=true then W.subIn K (.ref C) (.ref D) else none)=_;rw[if_pos (by rw[h,x.t,Option.isSome_some,Bool.true_and];exact beq_self_eq_true _)];exact e
theorem CF.no{K:W.Frag}(x:CF K n D)(s:W.mroIn K C (.ref C)=some true)(e:W.mroIn K C (.ref D)=some false):W.kitOne K (.ref C) (.ref D)=some false:=by
 unfold W.kitOne;rw[if_neg (λq=>by
  have h:=eq_of_beq q;injection h with h
  rw[<-h,s]at e;cases e)]
 exact x.cls e
theorem zd1{K:W.Frag}:W.kitOne K (.ref C) (.ref C)=some true:=by
 unfold W.kitOne;rw[if_pos (beq_self_eq_true _)]
theorem zgH{K:W.Frag}(e:W.mroIn K C (.type "ValueError")=some true):W.kitOne K (.ref C) (.type "ValueError")=some true:=by
 unfold W.kitOne;split
 ·rfl
 ·show (if W.kitMeta "ValueError"= true then W.subIn K (.ref C) (.type "ValueError") else none)=_;exact e
set_option maxHeartbeats 0 in
theorem zgS{l:W.OpenLaw}{K:W.Frag}(X:K.In h)(G:h.Ns mainGlobals mg)(hfa:mg "law"= some (.ref fa))(hcT:W.codeHdIn K c0 T0=true)(hgT:mainGlobals≠T0)(xs0:FDs K [f3 "is_whole" wG ["thing"],f3 "is_number" uO ["thing"],f3 "is_base" ZJ ["thing"],f3 "is_figure" j5 ["base","thing"],f3 "are_figures" vA ["base","thing"],f3 "writes_number" vz ["base","thing"],f3 "is_stretch" jg ["base","thing"],f3 "is_rising" qG ["stretches"],f3 "is_bad_list" vD ["base","thing"],f3 "is_rule" Zn ["thing"],f3 "check_base" tQ ["thing"],f3 "check_number" tU ["thing"],f3 "check_rule" ud ["thing"],f3 "stands_within" wg ["stretch","figures"],f3 "lacks_all" wW ["bad","figures"],f3 "figures_of" tO ["base","n"],f3 "number_by" wX ["base","figures"],f3 "is_good" Zm ["rule","n"],f3 "begins_one" tE ["bad","figures"],f3 "longest_stand" xY ["bad","figures"],f3 "place_behind" wO ["bad","stands","figures"],f3 "steps_from" tG ["rule","stands","stand"],f3 "all_steps" uM ["rule","stands"],f3 "count_below" ux ["rule","n"]])(xs1:FDs K [f3 "place_of" uB ["rule","n"],f3 "figures_in" wZ ["thing"],f3 "read_number" ur ["base","text"],f3 "_law_draws" zU ["script","many"],f3 "_law_take" wB ["store","many"],f3 "_law_rule" yK ["store"],f3 "_law_copy" uI ["rule"],f3 "_law_number" yL ["store","base"],f3 "_law_figures" yw ["base","n"],f3 "_law_is_good" xV ["rule","n"],f3 "_law_reader" ut ["rule"],f3 "_law_after" zW ["reader","stand","figure"],f3 "_law_ways" xm ["reader","stand","left"],f3 "_law_firsts" yo ["reader","stand","first","end","left"],f3 "_law_long" xN ["reader","length"],f3 "_law_below" yd ["reader","n"],f3 "_law_nth" yf ["reader","k"],f3 "_law_most" uF ["reader"],f3 "_law_kinds" tK ["caught","due"],f3 "_law_right" yq ["handed","reader","thing"],f3 "_law_read" yI ["store","base"],f3 "_law_read_right" zX ["store","handed","reader"],f3 "_law_near" qK ["store","base","n"]])(xL:∃cd,FD K cd "law" uJ ["script"])(xl:FD K (.ref c0) "stands_of" yD ["bad"])(qCd:CF K "NoBase" qA)(qCh:CF K "NoNumber" qB)(qCe:CF K "NoFigures" qE)(qCj:CF K "NoRule" qS)(qDb:CF K "NoStand" qV)(qCf:CF K "NoGood" xA)(qCb:CF K "Endless" xB)(qDa:CF K "NoRules" xC)(qDc:CF K "NoStretch" xD)(qDe:CF K "TooMany" xE)(qDd:CF K "NoText" xI)(qCg:CF K "NoName" xS)(qCi:CF K "NoRow" yA)(qCc:CF K "LackError" yB)(mLE:W.mroIn K yB (.type "BaseException")=some true)(qCa:W.excIn K xA veT "ValueError.__new__"= true)(qBh:W.mroIn K xA (.ref yB)=some true)(qBe:zag K xA)(qDf:W.mroIn K xA (.type "ValueError")=some true)(qBi:MRs K xA 5 [qA,qB,qE,qS,qV,xA,xB,xC,xD,xE,xI,xS,yA])(aC:CLs K C "Tails")(yC:FMs K C [f4 "__init__" "Tails.__init__" yR ["self","rule"],f4 "layer" "Tails.layer" wF ["self","left"],f4 "many_by" "Tails.many_by" xZ ["self","layer","place","stop"],f4 "many_under" "Tails.many_under" wY ["self","place","stop","left"],f4 "many_below" "Tails.many_below" yj ["self","figures"]])(nC:NFs K C ["base","outset","steps","layers"])(g0:W.nsIn K mainGlobals "LEAST_BASE"= some (some (.int 2 t0)))(g1:W.nsIn K mainGlobals "GREATEST_BASE"= some (some (.int 16 t1)))(g2:W.nsIn K mainGlobals "MOST_STRETCHES"= some (some (.int 4 t2)))(g3:W.nsIn K mainGlobals "LONGEST_STRETCH"= some (some (.int 4 t3)))(g4:W.nsIn K mainGlobals "SIGNS"= some (some (.str "0123456789abcdef" t4)))(zs:NNs K ["isinstance","int","bool","list","tuple","reversed","len","max","min","range","all","any","sorted","enumerate","repr","sum","abs","zip","str","ValueError"]): ∃fd:FuncData,(∀s v,BindsTo s fd ⟨[v],[]⟩ [("script",v)])/\∀base:Heap,K.In base->base.Ns mainGlobals mg->base.BuiltinsAt mg T0->FnOk l.prog w K mg base CX0 213 fa fd ["script"] (zaz K T0):=by
 have M:∀{n v},W.nsIn K mainGlobals n=some (some v)->mg n=some v:=W.mg_of X G;have N:∀{n},W.nsIn K mainGlobals n=some none->mg n=none:=W.mg_none_of X G;obtain⟨z0,z1,z2,z3,z4,z5,z6,z7,z8,z9,z10,z11,z12,z13,z14,z15,z16,z17,z18,z19,_⟩:=zs;have T:Blt mg:=⟨N z0,N z1,N z2,N z3,N z4,N z5,N z6,N z7,N z8,N z9,N z10,N z11,N z12,N z13,N z14⟩
 have U:Wu mg:=⟨N z15,N z16,N z17,N z18⟩
 have Z7:=M g0;have qR:=M g1;have tX:=M g2;have uR:=M g3;have VP:=M g4;have qBj:=N z19;obtain⟨⟨_,_,yr⟩,⟨_,_,vN⟩,⟨_,_,jt⟩,⟨_,_,ZL⟩,⟨_,_,vd⟩,⟨_,_,uY⟩,⟨_,_,j6⟩,⟨_,_,Z9⟩,⟨_,_,jc⟩,⟨_,_,WF⟩,⟨_,_,vR⟩,⟨_,_,qC⟩,⟨_,_,xP⟩,⟨_,_,u9⟩,⟨_,_,yU⟩,⟨_,_,vK⟩,⟨_,_,ZS⟩,⟨_,_,Wm⟩,⟨_,_,jY⟩,⟨_,_,tM⟩,⟨_,_,qw⟩,⟨_,_,j8⟩,⟨_,_,ZQ⟩,⟨_,_,qY⟩,_⟩:=xs0.df X G;obtain⟨⟨_,_,qp⟩,⟨_,_,jV⟩,⟨_,_,w5⟩,⟨_,_,jO⟩,⟨_,_,zH⟩,⟨_,_,Z2⟩,⟨_,_,vW⟩,⟨_,_,jb⟩,⟨_,_,zN⟩,⟨_,_,qy⟩,⟨_,_,qZ⟩,⟨_,_,zJ⟩,⟨_,_,vY⟩,⟨_,_,ye⟩,⟨_,_,yz⟩,⟨_,_,vU⟩,⟨_,_,qi⟩,⟨_,_,Z1⟩,⟨_,_,j4⟩,⟨_,_,wk⟩,⟨_,_,ZW⟩,⟨_,_,ug⟩,⟨_,_,vM⟩,_⟩:=xs1.df X G;obtain⟨_,_,Z8,hc,_⟩:=xl.df X G;obtain⟨_,xL⟩:=xL;obtain⟨_,fd,Dlaw,_,bL⟩:=xL.df X G;cases hfa.symm.trans Dlaw.g
 obtain⟨aC,mkC,kcC,pgC,hdC,poC,saC⟩:=aC;obtain⟨⟨_,_,qP⟩,⟨_,_,jd⟩,⟨_,_,xg⟩,⟨_,_,vH⟩,⟨_,_,vI⟩,_⟩:=yC.mt;have zcd:Mk K C _:=let ⟨a,i,_⟩:=qP.m;⟨mkC,a,i,kcC⟩;have zb7:=qP.b;obtain⟨n0,n1,n2,n3,_⟩:=nC;have zZ:ClT K mg C:=⟨⟨pgC,hdC,poC,saC⟩,M aC,n0,n1,n2,n3⟩
 refine⟨fd,λs v=>bL s [v] rfl,λbase _ _ hBM=>?_⟩;have R:∀{k f fd ps sp},FnOk l.prog w K mg base CX0 k f fd ps sp->FnOk l.prog w K mg base CX0 k f fd ps sp:=id;have RX:∀{k f fd ps sp},FnOk l.prog w K mg base (CX1 l.prog w) k f fd ps sp->FnOk l.prog w K mg base (CX1 l.prog w) k f fd ps sp:=id;have XN:zb1 mg _ _ _ _ _ _ _ _ _ _ _ _ _:=⟨M qCd.g,M qCh.g,M qCe.g,M qCj.g,M qDb.g,M qCf.g,M qCb.g,M qDa.g,M qDc.g,M qDe.g,M qDd.g,M qCg.g,M qCi.g⟩
 have qBd:zb8 K mg "LackError" yB:=⟨M qCc.g,mLE⟩
 have qDg:zgW K mg "NoGood" xA:=⟨M qCf.g,qCa⟩
 have qBg:=qCc.cls qBh;obtain⟨m0,m1,m2,m3,m4,m5,m6,m7,m8,m9,m10,m11,m12,_⟩:=qBi;have qBf:zd2 K xA _ _ _ _ _ _ _ _ _ _ _ _ _ 5:=⟨qBe,zgH qDf,qCd.no m5 m0,qCh.no m5 m1,qCe.no m5 m2,qCj.no m5 m3,qDb.no m5 m4,zd1,qCb.no m5 m6,qDa.no m5 m7,qDc.no m5 m8,qDe.no m5 m9,qDd.no m5 m10,qCg.no m5 m11,qCi.no m5 m12⟩
 have Zw:=R (zbR jt yr T Z7 qR);have uK:=R (QJ vR jt Zw);have Zd:=R (VB qC vN yr T);have uL:=R (Qv vK vR uK qC Zd T);have Xp:=R (zaj ZL yr T);have ul:=R (V4 vd ZL Xp T);have YC:=R (QR j6 vd ul uR T);have Z0:=R (Ua jc j6 YC Z9 tX T);have Uh:=R (zca WF jt Zw jc Z0 T);have wu:=R (QK xP WF Uh);have xG:=R (zaF yU u9 T);have Qq:=R (zbO Wm xP wu yU xG vK uL T);have jH:=R (W5 tM yU xG jY T);have X4:=R (JH Z8 hc hcT hBM hgT yU xG T);have Zi:=R (VL qw tM jH);have Yq:=R (QQ j8 qw Zi T);have XS:=R (J0 ZQ j8 Yq T);have uT:=R (Q3 vH jd xg zZ T U);have tR:=R (QC vI vH uT zZ T);have Yw:=R (zee qP Z8 X4 ZQ XS yU xG zZ T);have ZX:=R (UV qY xP wu vK uL zcd zb7 Yw vI tR zZ);have uG:=RX (zaV qp xP wu vN yr Wm Qq qY ZX qDg T);have Xz:=R (zaE (T0:=T0) Z2 zH T);have ZP:=R (UW (T0:=T0) jb zH T);have jB:=R (W8 uY vd ul T);have Xm:=R (zar ZS vR uK uY jB T);have Yx:=R (QT jV VP T U);have uf:=R (Uq w5 ZS Xm jV Yx);have Xn:=R (J3 (T0:=T0) ZW zH w5 uf T);have uA:=R (zaA vY zJ T);have yl:=R (Qg ye zJ vY uA T);have yH:=R (JN yz ye yl T U);have uH:=R (Qz vU zN zJ ye yl yz yH T U);have jm:=R (zba qi zJ ye yl yz yH T U);have Zc:=R (VM qy zN T);have Xk:=R (zaw Z1 zJ yz yH T U);have wV:=R (Qy wk vW qp uG qy Zc j4 XN qBj vU uH qBd qBg qBf T);have uE:=R (J9 (T0:=T0) vM zH zN T);have qm:=R (Xi ug ZW Xn wk wV vU uH qi jm zN vM uE w5 uf T);exact zgv Dlaw jO Z2 Xz vW qZ Z1 Xk qi jm qp uG vM uE wk wV ug qm jb ZP zH T U
theorem walk2{l:W.OpenLaw}{K:Params->W.Frag}(hn:l.most=some 63)(hdf:d.params.defaults=[])(hY:∀w h,YP w h->(K w.params).In h)(hYT:∀w h,YP w h->h.get? T0=some (W.tabObj #[]))(hKT:∀w:World,(K w.params).lookup T0=none)(hcT:∀w:World,W.codeHdIn (K w.params) c T0=true)(F:∀w mg fa h,(K w.params).In h->h.Ns mainGlobals mg->mg d.name=some (.ref fa) ->
   ∃fd:FuncData,(∀s u,BindsTo s fd ⟨[u],[]⟩ [("script",u)])/\∀base:Heap,(K w.params).In base->base.Ns mainGlobals mg->base.BuiltinsAt mg T0->FnOk l.prog w (K w.params) mg base CX0 213 fa fd ["script"] (zaz (K w.params) T0)):
  W.WalkO q loose XP YP l.row.toRowW d [] (λf vs=>PySem.call f vs):=
 L2.zhc hn (by decide) hdf ⟨rfl,by decide,by decide,rfl⟩ hY hYT hKT hcT F (λw H a ns hl hT hS=>⟨a,ns,rfl,hS,hl,.inl hT,λ_=>rfl⟩)
end Lw
open PySem PySem.W PyProof.Rows
set_option maxRecDepth 100000 in
set_option maxHeartbeats 0 in
theorem PySem.Challenge.cw_lackstretch_k14_places_of_good_ones_holds : PySem.Challenge.rw_lackstretch_k14_places_of_good_ones.Holds := by
 w_on;o_law;k_head;(case hw=>w_witness2)
 k_fill
 refine Lw.walk2 (l:=PySem.Challenge.rw_lackstretch_k14_places_of_good_ones) (c:=324) (T0:=320) rfl rfl (λw h Y=>W.km_in_of Y) (λw h Y=>W.km_tabs_of Y 320 (by decide)) (λw=>by kernel_rfl) (λw=>by kernel_rfl) ?F
 case F =>
  intro w mg fa h KX G hmg
  apply Lw.zgS (c0:=324) (T0:=320) KX G hmg (by kernel_rfl) (by decide)
  repeat' first | exact True.intro | exact λ_ _ _ _ _ _=>Lw.fb1 λ_=>rfl | exact λ_ _ _ _ _ _=>Lw.fb2 λ_ _=>rfl | exact λ_ _ _ _ _ _=>Lw.fb3 λ_ _ _=>rfl | exact λ_ _ _ _ _ _=>Lw.fb4 λ_ _ _ _=>rfl | exact λ_ _ _ _ _ _=>Lw.fb5 λ_ _ _ _ _=>rfl | refine' Lw.ex_ ?_ | refine' ⟨?_,?_⟩ | k_is | k_exc | refine' ⟨?_,?_,?_⟩ | refine' ⟨?_,?_,?_,?_,?_,?_,?_⟩ | fail
