import PyProof.Rows.All
import Wide.All
import OpenK.AllK
import Wide.FinOn
import Lean
import PyProof.EqAt
import PyProof.EqKinds
import PyProof.TupleCall
import PyProof.NeKinds
import KE.KRevSl
import KE.KRevIter
import PyProof.ConsumeWalk
import KE.KSortAsk
import KE.KSortTup
import KE.KDictSum
import PyProof.Rows.SumAny
import PyProof.EnumStmt
import PyProof.EnumMake
import PyProof.Rows.EnumRows
import PyProof.Rows.FactsN_abs
import KE.KLam
import PyProof.LongRange
import PyProof.ReprRoads
import PyProof.CallFns
import PyProof.ReprLen
import PySem.Challenge.RW_lackstretch_k13_good_ones_by_place
set_option Elab.async false
set_option linter.all false
set_option maxRecDepth 100000
abbrev ZA:=List (List Int)
abbrev ZB:=List (PySem.Addr×List Int)
namespace L2
open PySem PySem.Spec PyProof.Rows
abbrev Key:=Sum Int Str
def Qs:Key->Value->Bool
 | .inl k,v=>Value.isInt k v
 | .inr x,v=>Value.isStrOf x v
def zg1 (w:World):Key->Int
 | .inl k=>hashInt k
 | .inr x=>hashStr w x
theorem xN:∀ {k:Key} {v:Value},Qs k v=true->(∃ i t,k=Sum.inl i/\v=Value.int i t)\/(∃ x t,k=Sum.inr x/\v=Value.str x t)
 | .inl i,v,h=>by
  obtain⟨t,e⟩:=Value.isInt_shape (k:=i) (v:=v) h
  exact .inl ⟨i,t,rfl,e⟩
 | .inr x,v,h=>by
  obtain⟨t,e⟩:=Value.isStrOf_shape (x:=x) (v:=v) h
  exact .inr ⟨x,t,rfl,e⟩
theorem zcL (i:Int) (t:Tok):Qs (.inl i) (.int i t)=true:=by simp [Qs,Value.isInt]
theorem zcz (x:Str) (t:Tok):Qs (.inr x) (.str x t)=true:=by simp [Qs,Value.isStrOf]
theorem zfx (a b:Int):decide ((Sum.inl a:Key)=Sum.inl b)=(a == b):=by
 by_cases e:a=b
 ·subst e;simp
 ·have h:¬ (Sum.inl a:Key)=Sum.inl b:=fun q=>e (Sum.inl.inj q)
  rw [decide_eq_false h]
  exact (beq_eq_false_iff_ne.mpr e).symm
theorem zfy (a b:Str):decide ((Sum.inr a:Key)=Sum.inr b)=decide (a=b):=by
 by_cases e:a=b
 ·subst e;simp
 ·have h:¬ (Sum.inr a:Key)=Sum.inr b:=fun q=>e (Sum.inr.inj q)
  rw [decide_eq_false h,decide_eq_false e]
theorem zfG (a:Int) (b:Str):decide ((Sum.inl a:Key)=Sum.inr b)=false:=decide_eq_false (fun q=>nomatch q)
theorem zfi (a:Str) (b:Int):decide ((Sum.inr a:Key)=Sum.inl b)=false:=decide_eq_false (fun q=>nomatch q)
def zZ (prog:Program) (w:World):PySem.KeyKind prog w Key where
 is:=Qs
 hash:=zg1 w
 inj:=fun v a b ha hb=>by
  rcases xN ha with ⟨i,t,rfl,rfl⟩ | ⟨x,t,rfl,rfl⟩
  ·rcases xN hb with ⟨j,u,rfl,e⟩ | ⟨y,u,rfl,e⟩
   ·injection e with e1 _;rw [e1]
   ·exact nomatch e
  ·rcases xN hb with ⟨j,u,rfl,e⟩ | ⟨y,u,rfl,e⟩
   ·exact nomatch e
   ·injection e with e1 _;rw [e1]
 byValue:=fun k v h=>by
  rcases xN h with ⟨i,t,rfl,rfl⟩ | ⟨x,t,rfl,rfl⟩<;>rfl
 pyHash:=fun hv h=>by
  rcases xN hv with ⟨i,t,rfl,rfl⟩ | ⟨x,t,rfl,rfl⟩
  ·exact wpAny_pyHash_int h
  ·exact wpAny_pyHash_str h
 eqBool:=fun hu hv h=>by
  rcases xN hu with ⟨i,t,rfl,rfl⟩ | ⟨x,t,rfl,rfl⟩
  ·rcases xN hv with ⟨j,u,rfl,rfl⟩ | ⟨y,u,rfl,rfl⟩
   ·rw [zfx] at h;exact wpAny_eqBool_int h
   ·rw [zfG] at h;exact SeqAt.EqAt.int_str i t y u _ _ _ _ h
  ·rcases xN hv with ⟨j,u,rfl,rfl⟩ | ⟨y,u,rfl,rfl⟩
   ·rw [zfi] at h;exact SeqAt.EqAt.str_int x t j u _ _ _ _ h
   ·rw [zfy] at h;exact wpAny_eqBool_str h
 «strs»:=fun k x t v h=>by
  rcases xN h with ⟨i,u,rfl,e⟩ | ⟨y,u,rfl,e⟩
  ·exact nomatch e
  ·injection e with e1 _
   subst e1
   cases v<;>rfl
theorem zaq (prog:Program) (w:World) (i:Int) (t:Tok):(zZ prog w).is (.inl i) (.int i t)=true:=zcL i t
theorem zat (prog:Program) (w:World) (x:Str) (t:Tok):(zZ prog w).is (.inr x) (.str x t)=true:=zcz x t
inductive V where
 | non | bl (b:Bool) | int (i:Int) | str (x:Str) | byt (b:Array UInt8) | flt (b:UInt64) | ref (a:Addr) | ty (n:String)
 deriving DecidableEq
def RelV:V->Value->Prop
 | .non,u=>u=Value.none
 | .bl b,u=>u=Value.bool b
 | .int i,u=>∃ t,u=Value.int i t
 | .str x,u=>∃ t,u=Value.str x t
 | .byt b,u=>∃ t,u=Value.bytes b t
 | .flt b,u=>∃ t,u=Value.float b t
 | .ref a,u=>u=Value.ref a
 | .ty n,u=>u=Value.type n
abbrev Vals:List V->List Value->Prop:=Paired RelV
theorem Vals.length {xs:List V} {us:List Value} (r:Vals xs us):xs.length=us.length:=Paired.length r
theorem Vals.get:∀ {xs:List V} {us:List Value} {i:Nat} {x:V},Vals xs us->xs[i]?=some x->∃ u,us[i]?=some u/\RelV x u
 | _,_,_,_,.nil,e=>by simp at e
 | _,_,0,_,.cons r _,e=>by simp at e;subst e;exact⟨_,rfl,r⟩
 | _,_,i+1,x,.cons _ t,e=>by
  obtain⟨u,h1,h2⟩:=Vals.get (i:=i) (x:=x) t (by simpa using e)
  exact⟨u,by simpa using h1,h2⟩
theorem Vals.set {x:V} {u:Value} (r:RelV x u):∀ {xs:List V} {us:List Value} (i:Nat),Vals xs us->Vals (xs.set i x) (us.set i u)
 | _,_,_,.nil=>.nil
 | _,_,0,.cons _ t=>.cons r t
 | _,_,i+1,.cons q t=>.cons q (Vals.set r i t)
theorem Vals.append:∀ {xs ys:List V} {us ws:List Value},Vals xs us->Vals ys ws->Vals (xs++ys) (us++ws)
 | _,_,_,_,.nil,s=>s
 | _,_,_,_,.cons r t,s=>.cons r (Vals.append t s)
theorem Vals.take:∀ {xs:List V} {us:List Value} (n:Nat),Vals xs us->Vals (xs.take n) (us.take n)
 | _,_,0,_=>.nil
 | _,_,_+1,.nil=>.nil
 | _,_,n+1,.cons r t=>.cons r (Vals.take n t)
theorem Vals.drop:∀ {xs:List V} {us:List Value} (n:Nat),Vals xs us->Vals (xs.drop n) (us.drop n)
 | _,_,0,r=>r
 | _,_,_+1,.nil=>.nil
 | _,_,n+1,.cons _ t=>Vals.drop n t
theorem Vals.none_of:∀ {xs:List V} {us:List Value} {i:Nat},Vals xs us->xs[i]?=none->us[i]?=none:=fun {xs us i} r e=>by
 have h1:=r.length
 have h2:xs.length<=i:=List.getElem?_eq_none_iff.mp e
 exact List.getElem?_eq_none_iff.mpr (by omega)
def RelO:Option V->Option Value->Prop
 | some v,some u=>RelV v u
 | none,none=>True
 | _,_=>False
def KV {κ:Type}:List (κ×V)->List (κ×Value)->Prop:=Paired fun (p:κ×V) (q:κ×Value)=>p.1=q.1/\RelV p.2 q.2
def kV:Key->V
 | .inl i=>.int i
 | .inr x=>.str x
inductive HO where
 | lst (xs:List V)
 | tup (xs:List V)
 | dK (kvs:List (Key×V)) | dT (kvs:List (List Key×V))
 | set (S:Int->Bool) (n:Nat)
 | ins (C dx:Addr) (fs:List (Str×V))
 | own (x:Addr)
 | xd (fs:List (Str×V))
 | met (f x:Addr)
 | rng (lo hi:Int)
 | frz (o:Obj) (u:HO)
 | tbl (ps:Array Value)
 | ext (φ:Heap->Prop)
abbrev Hp:=Addr->Option HO
def upd (H:Hp) (a:Addr) (o:HO):Hp:=fun b=>if b=a then some o else H b
theorem zj {H:Hp} {a:Addr} {o:HO}:upd H a o a=some o:=by unfold upd;rw [if_pos rfl]
theorem zx {H:Hp} {a b:Addr} {o:HO} (h:b≠a):upd H a o b=H b:=by unfold upd;rw [if_neg h]
theorem zeu {H:Hp} {a:Addr} {o u:HO}:upd (upd H a o) a u=upd H a u:=by
 funext b;unfold upd;split<;>rfl
theorem Y7 {H:Hp} {a b:Addr} {o u:HO} (h:H a=some o) (h':H b=some u) (d:o≠u):a≠b:=by
 intro e;subst e;rw [h] at h';exact d (Option.some.inj h')
theorem zF {H:Hp} {a b:Addr} {o:HO} (h:H a=some o) (h':H b=none):a≠b:=by
 intro e;subst e;rw [h] at h';cases h'
section
variable (P:Program) (w:World)
def ObjOk (H:Hp) (h:Heap) (a:Addr):HO->Prop
 | .lst xs=>xs.length<=sizeLine/\∃ (its:List Value) (n:Nat),Vals xs its/\h.get? a=some { cls:=.type "list",data:=.seq its.toArray n }
 | .tup xs=>xs.length<=sizeLine/\∃ its:List Value,Vals xs its/\IsTup h a its.toArray
 | .dK kvs=>kvs.length<=sizeLine/\(a == sysModules)=false/\∃ vs,KV kvs vs/\h.DictOf (zZ P w) a vs
 | .dT kvs=>kvs.length<=sizeLine/\(a == sysModules)=false/\∃ xs:List (List Key×Addr×Value),
   Paired (fun (p:List Key×V) (q:List Key×Addr×Value)=>p.1=q.1/\H q.2.1=some (.tup (p.1.map kV))/\RelV p.2 q.2.2) kvs xs /\
   ∃ o es ep,h.get? a=some o/\o.ExactDict/\o.data=.dict es ep/\es.toList=xs.map (entryOfKey (tupleKind (zZ P w)))/\(xs.map (·.1)).Nodup
 | .set S n=>h.SetOf (intKind P w) a S n
 | .ins C dx fs=>H dx=some (.own a)/\fs.length<=1000/\dx≠a/\h.get? a=some (W.instObj C dx) /\
   ∃ mA,h.Ns1 dx mA/\(∀ f,RelO (fs.lookup f) (mA f))/\PySem.Within mA (fs.map (·.1))
 | .own _=>∃ o,h.get? a=some o
 | .xd fs=>∃ mA,h.Ns1 a mA/\∀ f,RelO (fs.lookup f) (mA f)
 | .rng lo hi=>∃ t u v,h.get? a=some { cls:=.type "range",data:=.fields #[.int lo t,.int hi u,.int 1 v] }
 | .frz o u=>h.get? a=some o/\ObjOk H h a u
 | .tbl ps=>h.get? a=some { cls:=.none,data:=.fields ps }
 | .met f x=>h.get? a=some (W.methodObj (.ref f) (.ref x))
 | .ext φ=>φ h/\(∃ o,h.get? a=some o)/\∀ h1 h2:Heap,φ h1->(∀ o,h1.get? a=some o->h2.get? a=some o)->φ h2
def HOk (H:Hp) (h:Heap):Prop:=∀ a o,H a=some o->ObjOk P w H h a o
end
section
variable {P:Program} {w:World} {H H':Hp} {h h':Heap} {a:Addr} {o:HO}
theorem ObjOk.lt (x:ObjOk P w H h a o):a<h.objs.size:=by
 cases o with
 | lst xs=>obtain⟨_,_,_,_,e⟩:=x;exact Heap.lt_size e
 | tup xs=>obtain⟨_,_,_,p⟩:=x;exact p.lt
 | dK kvs=>obtain⟨_,_,_,_,o,_,_,e,_⟩:=x;exact Heap.lt_size e
 | dT kvs=>obtain⟨_,_,_,_,o,_,_,e,_⟩:=x;exact Heap.lt_size e
 | set S n=>obtain⟨o,_,_,_,e,_⟩:=x;exact Heap.lt_size e
 | ins C dx fs=>obtain⟨_,_,_,e,_⟩:=x;exact Heap.lt_size e
 | own y=>obtain⟨_,e⟩:=x;exact Heap.lt_size e
 | xd fs=>obtain⟨_,⟨_,_,_,e,_⟩,_⟩:=x;exact Heap.lt_size e
 | rng lo hi=>obtain⟨_,_,_,e⟩:=x;exact Heap.lt_size e
 | frz ob u=>obtain⟨e,_⟩:=x;exact Heap.lt_size e
 | tbl ps=>exact Heap.lt_size (show h.get? a=some _ from x)
 | met f y=>exact Heap.lt_size (show h.get? a=some _ from x)
 | ext φ=>obtain⟨_,⟨_,e⟩,_⟩:=x;exact Heap.lt_size e
theorem Paired.mapP {α β:Type} {F G:α->β->Prop}:∀ {l₁:List α} {l₂:List β},Paired F l₁ l₂->(∀ a b,F a b->G a b)->Paired G l₁ l₂
 | _,_,.nil,_=>.nil
 | _,_,.cons r t,f=>.cons (f _ _ r) (Paired.mapP t f)
theorem ObjOk.stay (x:ObjOk P w H h a o) (k:∀ b u,(b=a\/H b=some (.own a))->h.get? b=some u->h'.get? b=some u)
  (ho:∀ b,H b=some (.own a)->H' b=some (.own a)) (ht:∀ b xs,H b=some (.tup xs)->H' b=some (.tup xs)):ObjOk P w H' h' a o:=by
 induction o with
 | lst xs=>obtain⟨z,its,n,r,e⟩:=x;exact⟨z,its,n,r,k _ _ (.inl rfl) e⟩
 | tup xs=>obtain⟨z,its,r,ob,e,c⟩:=x;exact⟨z,its,r,ob,k _ _ (.inl rfl) e,c⟩
 | dK kvs=>obtain⟨z,y,vs,r,ob,es,ep,e,c⟩:=x;exact⟨z,y,vs,r,ob,es,ep,k _ _ (.inl rfl) e,c⟩
 | dT kvs =>
  obtain⟨z,y,xs,r,ob,es,ep,e,c⟩:=x
  exact⟨z,y,xs,Paired.mapP r fun p q z=>⟨z.1,ht _ _ z.2.1,z.2.2⟩,ob,es,ep,k _ _ (.inl rfl) e,c⟩
 | set S n=>obtain⟨ob,es,ep,t,e,c⟩:=x;exact⟨ob,es,ep,t,k _ _ (.inl rfl) e,c⟩
 | ins C dx fs =>
  obtain⟨d,z,ne,e,mA,⟨od,es,ep,e2,c⟩,r⟩:=x
  exact⟨ho _ d,z,ne,k _ _ (.inl rfl) e,mA,⟨od,es,ep,k _ _ (.inr d) e2,c⟩,r⟩
 | own y=>obtain⟨ob,e⟩:=x;exact⟨ob,k _ _ (.inl rfl) e⟩
 | xd fs=>obtain⟨mA,⟨od,es,ep,e,c⟩,r⟩:=x;exact⟨mA,⟨od,es,ep,k _ _ (.inl rfl) e,c⟩,r⟩
 | rng lo hi=>obtain⟨t,u,v,e⟩:=x;exact⟨t,u,v,k _ _ (.inl rfl) e⟩
 | frz ob u ih=>obtain⟨e,q⟩:=x;exact⟨k _ _ (.inl rfl) e,ih q⟩
 | tbl ps =>
  have e:h.get? a=some { cls:=.none,data:=.fields ps }:=x
  show h'.get? a=some { cls:=.none,data:=.fields ps }
  exact k a _ (.inl rfl) e
 | met f y =>
  have e:h.get? a=some (W.methodObj (.ref f) (.ref y)):=x
  show h'.get? a=some (W.methodObj (.ref f) (.ref y))
  exact k a _ (.inl rfl) e
 | ext φ=>obtain⟨p,⟨o,e⟩,st⟩:=x;exact⟨st _ _ p fun o q=>k _ _ (.inl rfl) q,⟨o,k _ _ (.inl rfl) e⟩,st⟩
theorem HOk.lt (x:HOk P w H h) (e:H a=some o):a<h.objs.size:=(x a o e).lt
theorem HOk.fresh (x:HOk P w H h) (e:h.objs.size<=a):H a=none:=by
 cases q:H a with
 | none=>rfl
 | some u=>exact absurd (Nat.lt_of_lt_of_le (x.lt q) e) (Nat.lt_irrefl _)
theorem HOk.kept (x:HOk P w H h) (k:∀ b u,h.get? b=some u->h'.get? b=some u):HOk P w H h':=fun a o e =>
 (x a o e).stay (fun b u _ q=>k b u q) (fun _ q=>q) fun _ _ q=>q
theorem HOk.laid (x:HOk P w H h) (k:∀ b u,h.get? b=some u->h'.get? b=some u) (hp:h.objs.size<=a) (new:ObjOk P w (upd H a o) h' a o):HOk P w (upd H a o) h':=fun b u e=>by
 have hn:=x.fresh hp
 by_cases hb:b=a
 ·subst hb;rw [zj] at e;cases e;exact new
 ·rw [zx hb] at e
  exact (x b u e).stay (fun c v _ q=>k c v q) (fun c q=>by rw [zx (zF q hn)];exact q) fun c xs q=>by rw [zx (zF q hn)];exact q
end
def Rd (H:Hp) (a:Addr) (u:HO):Prop:=H a=some u\/∃ o,H a=some (.frz o u)
theorem Rd.of {H:Hp} {a:Addr} {u:HO} (h:H a=some u):Rd H a u:=.inl h
theorem Rd.ok {P:Program} {w:World} {H:Hp} {h:Heap} {a:Addr} {u:HO} (r:Rd H a u) (x:HOk P w H h):ObjOk P w H h a u:=by
 rcases r with r | ⟨o,r⟩
 ·exact x a u r
 ·obtain⟨_,q⟩:=x a _ r
  exact q
def Mut:Option HO->Prop
 | some (.lst _)=>True
 | some (.dK _)=>True
 | some (.dT _)=>True
 | some (.set _ _)=>True
 | some (.ins _ _ _)=>True
 | some (.ext _)=>True
 | _=>False
section
variable {P:Program} {w:World} {H:Hp} {h h':Heap} {x e:Addr} {o':HO}
theorem HOk.write (ok:HOk P w H h) (mu:Mut (H x)) (he:e=x\/H e=some (.own x)) (k:∀ b u,b≠e->h.get? b=some u->h'.get? b=some u) (heo:∃ u,h'.get? e=some u)
  (new:ObjOk P w (upd H x o') h' x o'):HOk P w (upd H x o') h':=fun b u q=>by
 have nown:∀ c y,H c=some (.own y)->c≠x:=fun c y r z=>by subst z;rw [r] at mu;exact mu
 have ntup:∀ c xs,H c=some (.tup xs)->c≠x:=fun c xs r z=>by subst z;rw [r] at mu;exact mu
 by_cases hb:b=x
 ·subst hb;rw [zj] at q;cases q;exact new
 ·rw [zx hb] at q
  by_cases hbe:b=e
  ·have q':H b=some (.own x):=by
    rcases he with z | z
    ·exact absurd (hbe.trans z) hb
    ·rw [hbe];exact z
   rw [q] at q';cases q'
   obtain⟨v,hv⟩:=heo
   exact⟨v,by rw [hbe];exact hv⟩
  ·refine (ok b u q).stay (fun c v hc r=>k c v ?_ r) (fun c r=>by rw [zx (nown c b r)];exact r) fun c xs r=>by rw [zx (ntup c xs r)];exact r
   rcases hc with rfl | hc
   ·exact hbe
   ·rintro rfl
    rcases he with z | z
    ·exact nown c b hc z
    ·rw [hc] at z;cases z;exact hb rfl
end
structure Un (fs ex:List Addr) (H H':Hp) (h h':Heap):Prop where
 keep:∀ b o,h.get? b=some o->H b=none->b∉fs->b∉ex->h'.get? b=some o
 slot:∀ b o,h.get? b=some o->H b=none->b∈fs->b∉ex->∃ sl,h'.get? b=some { o with slots:=sl }
 free:∀ b o,h.get? b=some o->H b=none->b∉ex->H' b=none
 there:∀ b o,h.get? b=some o->b∉ex->∃ o',h'.get? b=some o'
 tups:∀ b xs,H b=some (.tup xs)->H' b=some (.tup xs)
 frzs:∀ b o u,H b=some (.frz o u)->H' b=some (.frz o u)
 tbls:∀ b ps,H b=some (.tbl ps)->∃ more,H' b=some (.tbl (ps++more))
section
variable {fs fs' ex ex':List Addr} {H H1 H2:Hp} {h h1 h2 h':Heap} {a x e:Addr} {o:HO}
theorem Un.any (u:Un fs ex H H1 h h1) {b:Addr} {ob:Obj} (q:h.get? b=some ob) (n:H b=none) (hx:b∉ex):∃ sl,h1.get? b=some { ob with slots:=sl }:=by
 by_cases hb:b∈fs
 ·exact u.slot b ob q n hb hx
 ·exact⟨ob.slots,u.keep b ob q n hb hx⟩
theorem Un.trans (a:Un fs ex H H1 h h1) (b:Un fs ex H1 H2 h1 h2):Un fs ex H H2 h h2 where
 keep:=fun c ob q n hc hx=>b.keep c ob (a.keep c ob q n hc hx) (a.free c ob q n hx) hc hx
 slot:=fun c ob q n hc hx=>by
  obtain⟨sl,e1⟩:=a.slot c ob q n hc hx
  obtain⟨sl',e2⟩:=b.slot c _ e1 (a.free c ob q n hx) hc hx
  exact⟨sl',e2⟩
 free:=fun c ob q n hx=>by
  obtain⟨o',e1⟩:=a.there c ob q hx
  exact b.free c o' e1 (a.free c ob q n hx) hx
 there:=fun c ob q hx=>by
  obtain⟨o',e1⟩:=a.there c ob q hx
  exact b.there c o' e1 hx
 tups:=fun c xs q=>b.tups c xs (a.tups c xs q)
 frzs:=fun c ob xs q=>b.frzs c ob xs (a.frzs c ob xs q)
 tbls:=fun c ps q=>by
  obtain⟨m1,e1⟩:=a.tbls c ps q
  obtain⟨m2,e2⟩:=b.tbls c _ e1
  exact⟨m1++m2,by rw [e2,Array.append_assoc]⟩
theorem Un.kept (k:∀ b u,h.get? b=some u->h'.get? b=some u):Un fs ex H H h h' :=
 ⟨fun b ob q _ _ _=>k b ob q,fun b ob q _ _ _=>⟨ob.slots,k b ob q⟩,fun _ _ _ n _=>n,fun b ob q _=>⟨ob,k b ob q⟩,fun _ _ q=>q,fun _ _ _ q=>q,fun _ ps q=>⟨#[],by rw [q];simp⟩⟩
theorem Un.refl:Un fs ex H H h h:=Un.kept fun _ _ q=>q
theorem Un.laid (k:∀ b u,h.get? b=some u->h'.get? b=some u) (hp:h.objs.size<=a) (hn:H a=none):Un fs ex H (upd H a o) h h' where
 keep:=fun b u q _ _ _=>k b u q
 slot:=fun b u q _ _ _=>⟨u.slots,k b u q⟩
 free:=fun b u q n _=>by rw [zx (Nat.ne_of_lt (Nat.lt_of_lt_of_le (Heap.lt_size q) hp))];exact n
 there:=fun b u q _=>⟨u,k b u q⟩
 tups:=fun b xs q=>by rw [zx (zF q hn)];exact q
 frzs:=fun b u xs q=>by rw [zx (zF q hn)];exact q
 tbls:=fun b ps q=>⟨#[],by rw [zx (zF q hn),q];simp⟩
theorem Un.write (mu:Mut (H x)) (he:e=x\/H e=some (.own x)) (k:∀ b u,b≠e->h.get? b=some u->h'.get? b=some u) (heo:∃ u,h'.get? e=some u):Un fs ex H (upd H x o) h h':=by
 have hx:∀ b,H b=none->b≠x:=fun b n z=>by subst z;rw [n] at mu;exact mu
 have hb:∀ b,H b=none->b≠e:=fun b n z=>by
  subst z
  rcases he with r | r
  ·exact hx b n r
  ·rw [n] at r;cases r
 have hm:∀ b u,H b=some u->¬ Mut (some u)->b≠x:=fun b u q nm z=>by subst z;rw [q] at mu;exact nm mu
 refine⟨fun b u q n _ _=>k b u (hb b n) q,fun b u q n _ _=>⟨u.slots,k b u (hb b n) q⟩,fun b u q n _=>by rw [zx (hx b n)];exact n,fun b u q _=>?_,
  fun b xs q=>by rw [zx (hm b _ q fun z=>z)];exact q,fun b u xs q=>by rw [zx (hm b _ q fun z=>z)];exact q,fun b ps q=>⟨#[],by rw [zx (hm b _ q fun z=>z),q];simp⟩⟩
 by_cases hbe:b=e
 ·subst hbe;exact heo
 ·exact⟨u,k b u hbe q⟩
theorem Un.mono (u:Un fs ex H H1 h h1) (hs:∀ b∈fs,b∈fs') (hx:∀ b∈ex,b∈ex'):Un fs' ex' H H1 h h1 :=
 ⟨fun b ob q n hb he=>u.keep b ob q n (fun z=>hb (hs b z)) fun z=>he (hx b z),fun _ _ q n _ he=>u.any q n fun z=>he (hx _ z),fun b ob q n he=>u.free b ob q n fun z=>he (hx b z),fun b ob q he=>u.there b ob q fun z=>he (hx b z),u.tups,u.frzs,u.tbls⟩
end
def trk (h:Heap) (H:Hp):List Addr:=(List.range h.objs.size).filter fun a=>(H a).isSome
def Qf (h:Heap) (H:Hp):Heap:=W.hideAll h (trk h H)
theorem zcv (h:Heap) (H:Hp):(Qf h H).objs.size=h.objs.size:=W.hideAll_size _ _
theorem zd6 {h:Heap} {H:Hp} {b:Addr} {o:Obj} (e:h.get? b=some o) (n:H b=none):(Qf h H).get? b=some o :=
 W.hideAll_get _ e fun hm=>by
  have q:(H b).isSome=true:=(List.mem_filter.mp hm).2
  rw [n] at q;simp at q
theorem zeQ {h:Heap} {H:Hp} {b:Addr} {o:Obj} (e:(Qf h H).get? b=some o):h.get? b=some o/\H b=none:=by
 have e':h.get? b=some o:=W.of_hideAll (trk h H) e
 refine⟨e',?_⟩
 cases q:H b with
 | none=>rfl
 | some x =>
  have hm:b∈trk h H:=List.mem_filter.mpr ⟨List.mem_range.mpr (Heap.lt_size e'),by simp [q]⟩
  have z:(Qf h H).get? b=none:=W.hideAll_none (trk h H) hm
  rw [z] at e;cases e
def zew (g h:Heap) (L:Addr):List (Addr×Obj):=(List.range h.objs.size).filterMap fun a=>if a=L\/(g.get? a).isSome=true then none else (h.get? a).map fun o=>(a,o)
def rest (g h:Heap) (L d:Addr):List (Addr×Obj):=(zew g h L).filter fun p=>decide (p.1≠d)
structure Mod (K:W.Frag) (mg:Str->Option Value) (base:Heap):Prop where
 kin:K.In base
 glob:base.Ns mainGlobals mg
 blt:∃ mb,base.Ns builtinsNs mb/\∀ x:Str,x ≠ "__name__"->mb x=bootBuiltins x
 nolimit:base.NoLimit
structure Cx where
 prog:Program
 w:World
 K:W.Frag
 mg:Str->Option Value
 base:Heap
 A:Around
 N:List Str
 s₀:Shared
 H₀:Hp
 env:Env
 outer:List Env
 stack:List Env
 ex:List Addr
 fn:Str->Bool
 calm:Bool
 pn:List (Addr×Obj)
 xe:Value->Shared->Prop
def frs (l:List Env):List Addr:=l.filterMap (·.frame)
abbrev Cx.fs (X:Cx):List Addr:=frs X.outer
def Vis (sc:Scope) (x:Str):Prop:=sc.names.lookup x=some .local\/sc.names.lookup x=some .cell\/sc.names.lookup x=some .free
def Loc (sc:Scope) (x:Str):Prop:=sc.names.lookup x=some .local\/sc.names.lookup x=some .cell
def Look (env:Env) (h:Heap) (m:Str->Option Value) (x:Str) (u:Value):Prop :=
 (env.kindOf x=some .local/\m x=some u)\/((env.kindOf x=some .cell\/env.kindOf x=some .free)/\∃ c,env.cells.lookup x=some c/\h.IsCell c (some u))
structure Cx.Ok (X:Cx):Prop where
 mod:Mod X.K X.mg X.base
 kind:X.env.scope.kind=.function
 glob:X.env.globals=mainGlobals
 blt:X.env.builtins=builtinsNs
 above:X.s₀.heap.objs.size<=X.env.locals
 inj:∀ x y c,X.env.cells.lookup x=some c->X.env.cells.lookup y=some c->x=y
 has:∀ x,(X.env.kindOf x=some .cell\/X.env.kindOf x=some .free)->∃ c,X.env.cells.lookup x=some c
 cab:∀ x c,X.fn x=true->X.env.cells.lookup x=some c->X.s₀.heap.objs.size<=c
 hd:X.calm=true->X.A.handled=none
 frames:X.A.frames=some X.stack
 stk:X.stack=X.outer\/(X.stack=X.env :: X.outer/\X.env.frame=some X.env.locals)
 exf:∀ b∈X.ex,b≠X.env.locals/\∀ x c,X.env.cells.lookup x=some c->c≠b
 bs:∀ b o,X.base.get? b=some o->X.s₀.heap.get? b=some o/\X.H₀ b=none
 bsz:X.base.objs.size<=X.s₀.heap.objs.size
 noex:∀ b o,X.base.get? b=some o->b∉X.ex
 exfs:∀ b∈X.ex,b∉X.fs
 funs:X.s₀.heap.FunFrames X.base X.outer
 frf:∀ b∈X.fs,X.H₀ b=none
structure Inv (X:Cx) (pins:List (Addr×Obj)) (Z:List (Option V)) (H:Hp) (s:Shared):Prop where
 ok:X.Ok
 os:s.os=X.s₀.os
 bare:AllBare s.gens
 base:Un X.fs X.ex X.H₀ H X.s₀.heap s.heap
 loc:∃ m,s.heap.Ns X.env.locals m/\∀ (i:Nat) (x:Str) (v:V),X.N[i]?=some x->Z[i]?=some (some v)->Vis X.env.scope x->∃ u,RelV v u/\Look X.env s.heap m x u
 cell:∀ x c,X.env.cells.lookup x=some c->∃ v,s.heap.IsCell c v
 free:H X.env.locals=none
 freeC:∀ x c,X.env.cells.lookup x=some c->H c=none
 pin:∀ p∈X.pn++pins,s.heap.get? p.1=some p.2/\H p.1=none/\p.1≠X.env.locals/\p.1∉X.fs/\∀ v,p.2.data≠.cell v
 hok:HOk X.prog X.w H s.heap
 len:Z.length=X.N.length
section
variable {X:Cx} {pins:List (Addr×Obj)} {Z:List (Option V)} {H H':Hp} {s:Shared} {h':Heap}
theorem Cx.Ok.nofr (ok:X.Ok) {b:Addr} {o:Obj} (e:X.base.get? b=some o):b∉X.fs:=fun hb=>by
 have:=(ok.funs.mem hb).1
 rw [e] at this;cases this
theorem Inv.bs (I:Inv X pins Z H s):∀ b o,X.base.get? b=some o->s.heap.get? b=some o/\H b=none:=fun b o e =>
 ⟨I.base.keep b o (I.ok.bs b o e).1 (I.ok.bs b o e).2 (I.ok.nofr e) (I.ok.noex b o e),I.base.free b o (I.ok.bs b o e).1 (I.ok.bs b o e).2 (I.ok.noex b o e)⟩
theorem Inv.bk (I:Inv X pins Z H s):∀ b o,X.base.get? b=some o->s.heap.get? b=some o:=fun b o e=>(I.bs b o e).1
theorem Inv.mod (I:Inv X pins Z H s):Mod X.K X.mg X.base:=I.ok.mod
theorem Inv.kIn (I:Inv X pins Z H s):X.K.In s.heap:=I.ok.mod.kin.keeps I.bk
theorem Inv.nolimit (I:Inv X pins Z H s):s.heap.NoLimit:=I.ok.mod.nolimit.keeps I.bk
theorem Inv.fr (I:Inv X pins Z H s):∃ m,Fr X.base X.env.locals s.heap m :=
 let ⟨m,hn,_⟩:=I.loc
 ⟨m,hn,I.bk,Nat.le_trans I.ok.bsz I.ok.above⟩
theorem Inv.lt (I:Inv X pins Z H s):X.env.locals<s.heap.objs.size:=let ⟨_,hn,_⟩:=I.loc;hn.lt
theorem Inv.sz (I:Inv X pins Z H s):X.s₀.heap.objs.size<=s.heap.objs.size:=Nat.le_trans I.ok.above (Nat.le_of_lt I.lt)
theorem Inv.nofs (I:Inv X pins Z H s) {a:Addr} (h:s.heap.objs.size<=a):a∉X.fs:=fun hb=>by
 obtain⟨_,o,ho,_⟩:=I.ok.funs.mem hb
 exact absurd (Nat.lt_of_lt_of_le (Heap.lt_size ho) (Nat.le_trans I.sz h)) (Nat.lt_irrefl _)
theorem Inv.cne (I:Inv X pins Z H s):∀ x c,X.env.cells.lookup x=some c->c≠X.env.locals:=fun x c e z=>by
 obtain⟨v,o,ho,hd⟩:=I.cell x c e
 obtain⟨m,⟨o',es,ep,ho',hd',_⟩,_⟩:=I.loc
 rw [z,ho'] at ho;cases ho;rw [hd'] at hd;cases hd
theorem Inv.funs (I:Inv X pins Z H s):s.heap.FunFrames X.base X.outer:=by
 have all:∀ (l:List Env),(∀ b∈frs l,b∈X.fs)->X.s₀.heap.FunFrames X.base l->s.heap.FunFrames X.base l:=by
  intro l
  induction l with
  | nil=>intro _ _;trivial
  | cons env r ih =>
   intro hs hl
   obtain⟨hk,⟨L,o,hf,hn,ho,hd⟩,hr⟩:=hl
   have hL:L∈X.fs:=hs L (by unfold frs;rw [List.filterMap_cons,hf];exact List.mem_cons_self)
   obtain⟨sl,e⟩:=I.base.slot L o ho (I.ok.frf L hL) hL fun z=>I.ok.exfs L z hL
   exact⟨hk,⟨L,_,hf,hn,e,hd⟩,ih (fun b hb=>hs b (by unfold frs;rw [List.filterMap_cons,hf];exact List.mem_cons_of_mem _ hb)) hr⟩
 exact all X.outer (fun _ hb=>hb) I.ok.funs
theorem Inv.stack (I:Inv X pins Z H s):s.heap.FunFrames X.base X.stack:=by
 rcases I.ok.stk with e | ⟨e,hf⟩
 ·rw [e];exact I.funs
 ·rw [e]
  obtain⟨m,hn,_⟩:=I.loc
  refine .cons (by rw [I.ok.kind];decide) hf hn ?_ I.funs
  exact Heap.get?_none_of_le (Nat.le_trans I.ok.bsz I.ok.above)
theorem Inv.stkSub (I:Inv X pins Z H s):∀ b∈frs X.stack,b∈X.env.locals :: X.fs:=fun b hb=>by
 rcases I.ok.stk with e | ⟨e,hf⟩
 ·rw [e] at hb;exact List.mem_cons_of_mem _ hb
 ·rw [e] at hb
  unfold frs at hb
  rw [List.filterMap_cons,hf] at hb
  exact hb
theorem Inv.stkFree (I:Inv X pins Z H s):∀ b∈frs X.stack,H b=none:=fun b hb=>by
 rcases List.mem_cons.mp (I.stkSub b hb) with e | hb
 ·rw [e];exact I.free
 ·obtain⟨_,o,ho,_⟩:=I.ok.funs.mem hb
  exact I.base.free b o ho (I.ok.frf b hb) fun z=>I.ok.exfs b z hb
theorem Inv.step {g':Array GenState} {t':Nat} {d':Drawn} {ch:List Addr} (I:Inv X pins Z H s)
  (hch:∀ b∈ch,(b∈X.ex\/X.s₀.heap.objs.size<=b)/\b≠X.env.locals/\(∀ x c,X.env.cells.lookup x=some c->c≠b)/\∀ p∈X.pn++pins,p.1≠b)
  (keep:∀ b o,b≠X.env.locals->b∉X.fs->b∉ch->s.heap.get? b=some o->H b=none->h'.get? b=some o)
  (slot:∀ b o,b≠X.env.locals->b∈X.fs->b∉ch->s.heap.get? b=some o->H b=none->∃ sl,h'.get? b=some { o with slots:=sl }) (free:∀ b o,b∉ch->s.heap.get? b=some o->H b=none->H' b=none)
  (there:∀ b o,b∉ch->s.heap.get? b=some o->∃ o',h'.get? b=some o')
  (tups:∀ b xs,H b=some (.tup xs)->H' b=some (.tup xs)) (frzs:∀ b o u,H b=some (.frz o u)->H' b=some (.frz o u)) (tbls:∀ b ps,H b=some (.tbl ps)->∃ more,H' b=some (.tbl (ps++more)))
  (ns:∀ m,s.heap.Ns X.env.locals m->h'.Ns X.env.locals m) (hok:HOk X.prog X.w H' h') (hg:AllBare g') :
  Inv X pins Z H' { s with heap:=h',gens:=g',drawn:=d',toks:=t' }:=by
 have neL:∀ b o,X.s₀.heap.get? b=some o->b≠X.env.locals:=fun b o e=>Nat.ne_of_lt (Nat.lt_of_lt_of_le (Heap.lt_size e) I.ok.above)
 have neC:∀ b o,X.s₀.heap.get? b=some o->b∉X.ex->b∉ch:=fun b o e hx hb=>by
  rcases (hch b hb).1 with z | z
  ·exact hx z
  ·exact absurd (Nat.lt_of_lt_of_le (Heap.lt_size e) z) (Nat.lt_irrefl _)
 have cellK:∀ x c,X.env.cells.lookup x=some c->∀ v,s.heap.IsCell c v->h'.IsCell c v:=fun x c e v ⟨o,ho,hd⟩=>by
  have nch:c∉ch:=fun z=>(hch c z).2.2.1 x c e rfl
  by_cases hc:c∈X.fs
  ·obtain⟨sl,q⟩:=slot c o (I.cne x c e) hc nch ho (I.freeC x c e)
   exact⟨_,q,hd⟩
  ·exact⟨o,keep c o (I.cne x c e) hc nch ho (I.freeC x c e),hd⟩
 refine⟨I.ok,I.os,hg,⟨fun b o e n hb hx=>?_,fun b o e n hb hx=>?_,fun b o e n hx=>?_,fun b o e hx=>?_,fun b xs e=>tups b xs (I.base.tups b xs e),fun b o xs e=>frzs b o xs (I.base.frzs b o xs e),fun b ps e=>?_⟩,?_,fun x c e=>?_,?_,fun x c e=>?_,fun p hp=>?_,hok,I.len⟩
 ·exact keep b o (neL b o e) hb (neC b o e hx) (I.base.keep b o e n hb hx) (I.base.free b o e n hx)
 ·obtain⟨sl,e1⟩:=I.base.slot b o e n hb hx
  obtain⟨sl',e2⟩:=slot b _ (neL b o e) hb (neC b o e hx) e1 (I.base.free b o e n hx)
  exact⟨sl',e2⟩
 ·obtain⟨o',e1⟩:=I.base.there b o e hx
  exact free b o' (neC b o e hx) e1 (I.base.free b o e n hx)
 ·obtain⟨o',e1⟩:=I.base.there b o e hx
  exact there b o' (neC b o e hx) e1
 ·obtain⟨m1,e1⟩:=I.base.tbls b ps e
  obtain⟨m2,e2⟩:=tbls b _ e1
  exact⟨m1++m2,by rw [e2,Array.append_assoc]⟩
 ·obtain⟨m,hn,hl⟩:=I.loc
  refine⟨m,ns m hn,fun i x v e1 e2 e3=>?_⟩
  obtain⟨u,r,l⟩:=hl i x v e1 e2 e3
  refine⟨u,r,?_⟩
  rcases l with l | ⟨k,c,e,z⟩
  ·exact .inl l
  ·exact .inr ⟨k,c,e,cellK x c e _ z⟩
 ·obtain⟨v,z⟩:=I.cell x c e
  exact⟨v,cellK x c e v z⟩
 ·obtain⟨m,⟨o,_,_,ho,_⟩,_⟩:=I.loc
  exact free _ o (fun z=>(hch _ z).2.1 rfl) ho I.free
 ·obtain⟨v,o,ho,hd⟩:=I.cell x c e
  exact free c o (fun z=>(hch c z).2.2.1 x c e rfl) ho (I.freeC x c e)
 ·obtain⟨e,n,ne,nf,d⟩:=I.pin p hp
  have nch:p.1∉ch:=fun z=>(hch p.1 z).2.2.2 p hp rfl
  exact⟨keep p.1 p.2 ne nf nch e n,free p.1 p.2 nch e n,ne,nf,d⟩
theorem Inv.un {t':Nat} (I:Inv X pins Z H s) (u:Un X.fs [] H H' s.heap h') (hok:HOk X.prog X.w H' h'):Inv X pins Z H' { s with heap:=h',toks:=t' }:=by
 obtain⟨m,⟨o,es,ep,ho,r⟩,_⟩:=id I.loc
 obtain⟨sl,hL⟩:=u.any ho I.free (by simp)
 exact I.step (g':=s.gens) (d':=s.drawn) (ch:=[]) (fun _ z=>nomatch z) (fun b o _ hb _ e n=>u.keep b o e n hb (by simp)) (fun b o _ hb _ e n=>u.slot b o e n hb (by simp)) (fun b o _ e n=>u.free b o e n (by simp)) (fun b o _ e=>u.there b o e (by simp)) u.tups u.frzs u.tbls (fun m' hm=>by
  obtain⟨o',es',ep',ho',r'⟩:=hm
  rw [ho] at ho';cases ho'
  exact⟨_,es',ep',hL,r'⟩) hok I.bare
theorem Inv.call {g':Array GenState} {t':Nat} {d':Drawn} {ch:List Addr} (I:Inv X pins Z H s) (u:Un (frs X.stack) ch H H' s.heap h') (hok:HOk X.prog X.w H' h') (hg:AllBare g')
  (hch:∀ b∈ch,(b∈X.ex\/X.s₀.heap.objs.size<=b)/\b≠X.env.locals/\(∀ x c,X.env.cells.lookup x=some c->c≠b)/\∀ p∈X.pn++pins,p.1≠b) :
  Inv X pins Z H' { s with heap:=h',gens:=g',drawn:=d',toks:=t' }:=by
 obtain⟨m,⟨o,es,ep,ho,r⟩,_⟩:=id I.loc
 obtain⟨sl,hL⟩:=u.any ho I.free fun z=>(hch _ z).2.1 rfl
 exact I.step (ch:=ch) hch (fun b o hL hb hc e n=>u.keep b o e n (fun z=>(List.mem_cons.mp (I.stkSub b z)).elim hL hb) hc) (fun b o _ _ hc e n=>u.any e n hc) (fun b o hc e n=>u.free b o e n hc) (fun b o hc e=>u.there b o e hc) u.tups u.frzs u.tbls (fun m' hm=>by
  obtain⟨o',es',ep',ho',r'⟩:=hm
  rw [ho] at ho';cases ho'
  exact⟨_,es',ep',hL,r'⟩) hok hg
theorem Inv.turned {t':Nat} {it:Addr} (I:Inv X pins Z H s) (k:∀ b o,b≠it->s.heap.get? b=some o->h'.get? b=some o) (hn:H it=none) (hL:it≠X.env.locals)
  (h1:it∈X.ex\/X.s₀.heap.objs.size<=it) (h2:∀ x c,X.env.cells.lookup x=some c->c≠it) (h3:∀ p∈X.pn++pins,p.1≠it):Inv X pins Z H { s with heap:=h',toks:=t' }:=by
 have nit:∀ b u,H b=some u->b≠it:=fun b u e z=>by rw [z,hn] at e;cases e
 refine I.step (g':=s.gens) (d':=s.drawn) (ch:=[it]) (fun b hb=>?_) (fun b o _ _ hc e _=>k b o (fun z=>hc (by simp [z])) e) (fun b o _ _ hc e _=>⟨o.slots,k b o (fun z=>hc (by simp [z])) e⟩) (fun _ _ _ _ n=>n)
  (fun b o hc e=>⟨o,k b o (fun z=>hc (by simp [z])) e⟩) (fun _ _ e=>e) (fun _ _ _ e=>e) (fun b ps e=>⟨#[],by rw [e];simp⟩) (fun m hm=>?_) (fun b u e=>?_) I.bare
 ·have e:b=it:=by simpa using hb
  subst e
  exact⟨h1,hL,h2,h3⟩
 ·obtain⟨o,es,ep,ho,r⟩:=hm
  exact⟨o,es,ep,k _ o (Ne.symm hL) ho,r⟩
 ·refine (I.hok b u e).stay (fun c v hc q=>k c v ?_ q) (fun _ q=>q) fun _ _ q=>q
  rcases hc with z | z
  ·rw [z];exact nit b u e
  ·exact nit c _ z
theorem Inv.tok (I:Inv X pins Z H s) (t:Nat):Inv X pins Z H { s with toks:=t }:=I.un (h':=s.heap) (t':=t) Un.refl I.hok
theorem Inv.kept {t':Nat} (I:Inv X pins Z H s) (k:∀ b u,s.heap.get? b=some u->h'.get? b=some u):Inv X pins Z H { s with heap:=h',toks:=t' }:=I.un (Un.kept k) (I.hok.kept k)
theorem Inv.laid {a:Addr} {o:HO} {t':Nat} (I:Inv X pins Z H s) (k:∀ b u,s.heap.get? b=some u->h'.get? b=some u) (hp:s.heap.objs.size<=a) (new:ObjOk X.prog X.w (upd H a o) h' a o) :
  Inv X pins Z (upd H a o) { s with heap:=h',toks:=t' }:=I.un (Un.laid k hp (I.hok.fresh hp)) (I.hok.laid k hp new)
theorem Inv.write {x e:Addr} {o:HO} {t':Nat} (I:Inv X pins Z H s) (mu:Mut (H x)) (he:e=x\/H e=some (.own x)) (k:∀ b u,b≠e->s.heap.get? b=some u->h'.get? b=some u) (heo:∃ u,h'.get? e=some u)
  (new:ObjOk X.prog X.w (upd H x o) h' x o):Inv X pins Z (upd H x o) { s with heap:=h',toks:=t' }:=I.un (Un.write mu he k heo) (I.hok.write mu he k heo new)
theorem Inv.weak {σ':List (Option V)} (I:Inv X pins Z H s) (hl:σ'.length=Z.length) (w:∀ (i:Nat) v,σ'[i]?=some (some v)->Z[i]?=some (some v)):Inv X pins σ' H s :=
 ⟨I.ok,I.os,I.bare,I.base,let ⟨m,hn,hl'⟩:=I.loc;⟨m,hn,fun i x v e1 e2 e3=>hl' i x v e1 (w i v e2) e3⟩,I.cell,I.free,I.freeC,I.pin,I.hok,hl.trans I.len⟩
theorem Inv.pins_of {pins':List (Addr×Obj)} (I:Inv X pins Z H s) (h:∀ p∈pins',s.heap.get? p.1=some p.2/\H p.1=none/\p.1≠X.env.locals/\p.1∉X.fs/\∀ v,p.2.data≠.cell v):Inv X pins' Z H s :=
 ⟨I.ok,I.os,I.bare,I.base,I.loc,I.cell,I.free,I.freeC,fun p hp=>(List.mem_append.mp hp).elim (fun z=>I.pin p (List.mem_append_left _ z)) (h p),I.hok,I.len⟩
theorem Vs {N:List Str} (hN:N.Nodup) {i j:Nat} {x:Str} (a:N[i]?=some x) (b:N[j]?=some x):i=j:=by
 obtain⟨h1,e1⟩:=List.getElem?_eq_some_iff.mp a
 obtain⟨h2,e2⟩:=List.getElem?_eq_some_iff.mp b
 exact (List.getElem_inj hN).mp (e1.trans e2.symm)
theorem WM {M:Model} {A:Around} {E:Value->Shared->Prop} {i:Nat} {x:Str} {v:V} {u:Value} {Q:Unit->Shared->Prop} (I:Inv X pins Z H s) (hN:X.N.Nodup) (hi:X.N[i]?=some x) (hx:Loc X.env.scope x) (r:RelV v u)
  (h:∀ s',Inv X pins (Z.set i (some v)) H s'->(∃ a,Heap.SameBut a s.heap s'.heap/\(a=X.env.locals\/X.env.cells.lookup x=some a))->Q () s') (hf:X.fn x=true\/X.env.scope.names.lookup x=some .local:=by first | exact .inl rfl | exact .inr rfl | assumption):wpAny M A (storeName X.env x u) Q E s:=by
 obtain⟨m,hn,hl⟩:=id I.loc
 have hcls:(X.env.scope.kind == .class || (X.env.scope.kind == .module && X.env.locals != X.env.globals))=false:=by rw [I.ok.kind];rfl
 have hiσ:i<Z.length:=by rw [I.len];exact (List.getElem?_eq_some_iff.mp hi).1
 have cne:=I.cne
 have tracked:∀ {a:Addr} {h':Heap},(∃ o,s.heap.get? a=some o/\H a=none)->Heap.SameBut a s.heap h'->HOk X.prog X.w H h':=fun {a h'} ha hs b ob e=>by
  obtain⟨_,_,hfree⟩:=ha
  refine (I.hok b ob e).stay (fun c w' hc q=>(hs.2 c ?_).trans q) (fun _ q=>q) fun _ _ q=>q
  rintro rfl
  rcases hc with rfl | hc
  ·rw [hfree] at e;cases e
  ·rw [hfree] at hc;cases hc
 rcases hx with hk | hk
 ·refine wpAny_storeName_local hk hn (fun h' hn' hs=>?_) hcls
  obtain⟨oL,_,_,hoL,_⟩:=id hn
  refine h _ ⟨I.ok,I.os,I.bare,⟨fun b o e n hb hx=>?_,fun b o e n hb hx=>?_,I.base.free,fun b o e hx=>?_,I.base.tups,I.base.frzs,I.base.tbls⟩,⟨_,hn',fun j y v' e1 e2 e3=>?_⟩,fun y c e=>?_,I.free,I.freeC,fun p hp=>?_,tracked ⟨oL,hoL,I.free⟩ hs,by simpa using I.len⟩ ⟨_,hs,.inl rfl⟩
  ·exact (hs.2 b (Nat.ne_of_lt (Nat.lt_of_lt_of_le (Heap.lt_size e) I.ok.above))).trans (I.base.keep b o e n hb hx)
  ·obtain⟨sl,e1⟩:=I.base.slot b o e n hb hx
   exact⟨sl,(hs.2 b (Nat.ne_of_lt (Nat.lt_of_lt_of_le (Heap.lt_size e) I.ok.above))).trans e1⟩
  ·obtain⟨o',e1⟩:=I.base.there b o e hx
   exact⟨o',(hs.2 b (Nat.ne_of_lt (Nat.lt_of_lt_of_le (Heap.lt_size e) I.ok.above))).trans e1⟩
  ·by_cases hj:j=i
   ·subst hj
    rw [hi] at e1;cases e1
    rw [List.getElem?_set_self hiσ] at e2
    cases e2
    exact⟨u,r,.inl ⟨hk,by simp⟩⟩
   ·rw [List.getElem?_set_ne (Ne.symm hj)] at e2
    obtain⟨u',r',q⟩:=hl j y v' e1 e2 e3
    refine⟨u',r',?_⟩
    rcases q with ⟨k,e⟩ | ⟨k,c,e,z⟩
    ·refine .inl ⟨k,?_⟩
     have:y≠x:=fun e=>hj (Vs hN e1 (e▸hi))
     simp [this,e]
    ·exact .inr ⟨k,c,e,z.sameBut hs (cne y c e)⟩
  ·obtain⟨w',z⟩:=I.cell y c e
   exact⟨w',z.sameBut hs (cne y c e)⟩
  ·obtain⟨e,n,ne,nf,d⟩:=I.pin p hp
   exact⟨(hs.2 p.1 ne).trans e,n,ne,nf,d⟩
 ·have hfn:X.fn x=true:=by
   rcases hf with z | z
   ·exact z
   ·rw [z] at hk;cases hk
  obtain⟨c,hc⟩:=I.ok.has x (.inl hk)
  obtain⟨w',z⟩:=I.cell x c hc
  refine wpAny_storeName_cell I.ok.kind hk hc z (fun h' hc' hs=>?_)
  obtain⟨oc,hoc,hocd⟩:=id z
  refine h { s with heap:=h' } ⟨I.ok,I.os,I.bare,⟨fun b o e n hb hx=>?_,fun b o e n hb hx=>?_,I.base.free,fun b o e hx=>?_,I.base.tups,I.base.frzs,I.base.tbls⟩,⟨m,hn.sameBut hs (Ne.symm (cne x c hc)),fun j y v' e1 e2 e3=>?_⟩,fun y c' e=>?_,I.free,I.freeC,fun p hp=>?_,tracked ⟨oc,hoc,I.freeC x c hc⟩ hs,by simpa using I.len⟩ ⟨c,hs,.inr hc⟩
  ·exact (hs.2 b (Nat.ne_of_lt (Nat.lt_of_lt_of_le (Heap.lt_size e) (I.ok.cab x c hfn hc)))).trans (I.base.keep b o e n hb hx)
  ·obtain⟨sl,e1⟩:=I.base.slot b o e n hb hx
   exact⟨sl,(hs.2 b (Nat.ne_of_lt (Nat.lt_of_lt_of_le (Heap.lt_size e) (I.ok.cab x c hfn hc)))).trans e1⟩
  ·obtain⟨o',e1⟩:=I.base.there b o e hx
   exact⟨o',(hs.2 b (Nat.ne_of_lt (Nat.lt_of_lt_of_le (Heap.lt_size e) (I.ok.cab x c hfn hc)))).trans e1⟩
  ·by_cases hj:j=i
   ·subst hj
    rw [hi] at e1;cases e1
    rw [List.getElem?_set_self hiσ] at e2
    cases e2
    exact⟨u,r,.inr ⟨.inl hk,c,hc,hc'⟩⟩
   ·rw [List.getElem?_set_ne (Ne.symm hj)] at e2
    obtain⟨u',r',q⟩:=hl j y v' e1 e2 e3
    refine⟨u',r',?_⟩
    rcases q with q | ⟨k,c',e,z'⟩
    ·exact .inl q
    ·refine .inr ⟨k,c',e,z'.sameBut hs ?_⟩
     rintro rfl
     exact hj (Vs hN e1 (I.ok.inj _ _ _ e hc▸hi))
  ·by_cases hcc:c'=c
   ·subst hcc;exact⟨_,hc'⟩
   ·obtain⟨w2,z2⟩:=I.cell y c' e
    exact⟨w2,z2.sameBut hs hcc⟩
  ·obtain⟨e,n,ne,nf,d⟩:=I.pin p hp
   refine⟨(hs.2 p.1 ?_).trans e,n,ne,nf,d⟩
   intro q
   rw [q,hoc] at e
   have q':oc=p.2:=Option.some.inj e
   exact d w' (by rw [<- q'];exact hocd)
theorem X6 {M:Model} {A:Around} {E:Value->Shared->Prop} {i:Nat} {x:Str} {v:V} {u:Value} {Q:Unit->Shared->Prop} (I:Inv X pins Z H s) (hN:X.N.Nodup) (hi:X.N[i]?=some x) (hx:Loc X.env.scope x) (r:RelV v u)
  (h:∀ s',Inv X pins (Z.set i (some v)) H s'->Q () s') (hf:X.fn x=true\/X.env.scope.names.lookup x=some .local:=by first | exact .inl rfl | exact .inr rfl | assumption):wpAny M A (storeName X.env x u) Q E s :=
 WM I hN hi hx r (fun s' I' _=>h s' I') hf
theorem Inv.call' {s':Shared} {ch:List Addr} (I:Inv X pins Z H s) (ho:s'.os=s.os) (u:Un (frs X.stack) ch H H' s.heap s'.heap) (hok:HOk X.prog X.w H' s'.heap) (hg:AllBare s'.gens)
  (hch:∀ b∈ch,(b∈X.ex\/X.s₀.heap.objs.size<=b)/\b≠X.env.locals/\(∀ x c,X.env.cells.lookup x=some c->c≠b)/\∀ p∈X.pn++pins,p.1≠b):Inv X pins Z H' s':=by
 obtain⟨h',g',d',t',o'⟩:=s'
 have e:o'=s.os:=ho
 subst e
 exact I.call (g':=g') (t':=t') (d':=d') u hok hg hch
end
abbrev XK:=Value->Option Addr->Hp->Prop
abbrev St:=List (Option V)
abbrev VK:=V->Hp->Prop
abbrev TE:=St->Hp->VK->Prop
abbrev TT:=St->Hp->(Bool->Hp->Prop)->Prop
abbrev TA:=St->Hp->(List V->Hp->Prop)->Prop
structure Ends where
 nx:St->Hp->Prop
 rt:VK
 bk:St->Hp->Prop:=fun _ _=>False
 ct:St->Hp->Prop:=fun _ _=>False
abbrev TS:=Ends->St->Hp->Prop
def EP (X:Cx) (pins:List (Addr×Obj)) (Z:St) (Q:VK) (u:Value) (s':Shared):Prop:=∃ v H',Inv X pins Z H' s'/\RelV v u/\Q v H'
def TP (X:Cx) (pins:List (Addr×Obj)) (Z:St) (Q:Bool->Hp->Prop) (b:Bool) (s':Shared):Prop:=∃ H',Inv X pins Z H' s'/\Q b H'
def AP (X:Cx) (pins:List (Addr×Obj)) (Z:St) (Q:List V->Hp->Prop) (us:List Value) (s':Shared):Prop:=∃ vs H',Inv X pins Z H' s'/\Vals vs us/\Q vs H'
def SP (X:Cx) (pins:List (Addr×Obj)) (D:Ends) (f:Flow) (s':Shared):Prop :=
 match f with
 | .next=>∃ σ' H',Inv X pins σ' H' s'/\D.nx σ' H'
 | .brk=>∃ σ' H',Inv X pins σ' H' s'/\D.bk σ' H'
 | .cont=>∃ σ' H',Inv X pins σ' H' s'/\D.ct σ' H'
 | .ret u=>∃ v σ' H',Inv X pins σ' H' s'/\RelV v u/\D.rt v H'
def PE (X:Cx) (e:Expr) (t:TE):Prop :=
 ∀ (pins:List (Addr×Obj)) (s:Shared) (Z:St) (H:Hp) (Q:VK),Inv X pins Z H s->t Z H Q->wpAny (model X.prog X.w) X.A (eval e X.env) (EP X pins Z Q) X.xe s
def PT (X:Cx) (e:Expr) (t:TT):Prop :=
 ∀ (pins:List (Addr×Obj)) (s:Shared) (Z:St) (H:Hp) (Q:Bool->Hp->Prop),Inv X pins Z H s->t Z H Q->wpAny (model X.prog X.w) X.A (isTrue e X.env (eval e X.env)) (TP X pins Z Q) X.xe s
def PW (X:Cx) (e:Expr) (t:TT):Prop :=
 ∀ (whole:Sem Value) (pins:List (Addr×Obj)) (s:Shared) (Z:St) (H:Hp) (Q:Bool->Hp->Prop),Inv X pins Z H s->t Z H Q->wpAny (model X.prog X.w) X.A (isTrue e X.env whole) (TP X pins Z Q) X.xe s
theorem PW.pt {X:Cx} {e:Expr} {t:TT} (h:PW X e t):PT X e t:=h _
def PA (X:Cx) (es:List Expr) (t:TA):Prop :=
 ∀ (pos:Pos) (pins:List (Addr×Obj)) (s:Shared) (Z:St) (H:Hp) (Q:List V->Hp->Prop),Inv X pins Z H s->t Z H Q->wpAny (model X.prog X.w) X.A (spliced (backTo pos (starEach es X.env))) (AP X pins Z Q) X.xe s
def PS (X:Cx) (st:Stmt) (t:TS):Prop :=
 ∀ (pins:List (Addr×Obj)) (s:Shared) (Z:St) (H:Hp) (D:Ends),Inv X pins Z H s->t D Z H->wpAny (model X.prog X.w) X.A (exec st X.env) (SP X pins D) X.xe s
def PSs (X:Cx) (st:List Stmt) (t:TS):Prop :=
 ∀ (pins:List (Addr×Obj)) (s:Shared) (Z:St) (H:Hp) (D:Ends),Inv X pins Z H s->t D Z H->wpAny (model X.prog X.w) X.A (execs st X.env) (SP X pins D) X.xe s
theorem thn {α:Type} {t:Sem α} {Q Q':α->Shared->Prop} {M:Model} {A:Around} {E:Value->Shared->Prop} {s:Shared} (h:wpAny M A t Q E s) (hQ:∀ a s,Q a s->Q' a s):wpAny M A t Q' E s:=wpAny_mono h hQ fun _ _ x=>x
section
variable {X:Cx}
def ze4 (i:Nat):TE:=fun Z H Q=>∃ v,Z[i]?=some (some v)/\Q v H
def tC (v:V):TE:=fun _ H Q=>Q v H
theorem zfv {i:Nat} {x:Str} {pos:Pos} (hN:X.N[i]?=some x) (hv:Vis X.env.scope x) (hd:(x == ("__debug__" : Str))=false:=by decide) (hcd:(x == ("__classdict__" : Str))=false:=by decide):PE X (.Name x pos) (ze4 i):=by
 intro pins s Z H Q I h
 obtain⟨v,e,h⟩:=h
 obtain⟨m,hn,hl⟩:=I.loc
 obtain⟨u,r,l⟩:=hl i x v hN e hv
 have fin:EP X pins Z Q u s:=⟨v,H,I,r,h⟩
 rcases l with ⟨hk,hm⟩ | ⟨hk,c,hc,hcell⟩
 ·exact wpAny_Name (wpAny_loadName_local I.ok.kind hk hn hm fin) hd
 ·rcases hk with hk | hk
  ·exact wpAny_Name (wpAny_loadName_cell I.ok.kind hk hc hcell fin) hd
  ·exact wpAny_Name (wpAny_loadName_free I.ok.kind hk hc hcell fin hcd) hd
theorem zp {i j pos}:PE X (.Constant (.int i) j pos) (tC (.int i)):=fun _ _ _ H _ I h=>wpAny_Constant_int ⟨.int i,H,I.tok _,⟨_,rfl⟩,h⟩
theorem W2 {b j pos}:PE X (.Constant (.bool b) j pos) (tC (.bl b)):=fun _ _ _ H _ I h=>Constant_bool ⟨.bl b,H,I,rfl,h⟩
theorem xq {j pos}:PE X (.Constant .none j pos) (tC .non):=fun _ _ _ H _ I h=>Constant_none ⟨.non,H,I,rfl,h⟩
theorem zf1 {x j pos}:PE X (.Constant (.str x) j pos) (tC (.str x)):=fun _ _ _ H _ I h=>Calls.Constant_str ⟨.str x,H,I.tok _,⟨_,rfl⟩,h⟩
def Gl (X:Cx) (x:Str):Prop:=X.env.kindOf x=some .globalImplicit
theorem YL {E:Value->Shared->Prop} {pins:List (Addr×Obj)} {s:Shared} {Z:St} {H:Hp} {x:Str} {u:Value} {pos:Pos} {Q:Value->Shared->Prop} (I:Inv X pins Z H s) (hg:Gl X x) (hm:X.mg x=some u) (h:Q u s)
  (hd:(x == ("__debug__" : Str))=false:=by decide):wpAny (model X.prog X.w) X.A (eval (.Name x pos) X.env) Q E s :=
 Calls.Name_function_global I.ok.kind hg (Calls.loadGlobal_global (by rw [I.ok.glob];exact I.mod.glob.keeps I.bk) hm h) hd
theorem j9 {E:Value->Shared->Prop} {pins:List (Addr×Obj)} {s:Shared} {Z:St} {H:Hp} {x:Str} {u:Value} {pos:Pos} {Q:Value->Shared->Prop} (I:Inv X pins Z H s) (hg:Gl X x) (hm:X.mg x=none) (hv:bootBuiltins x=some u) (h:Q u s)
  (hn:x ≠ "__name__":=by decide) (hd:(x == ("__debug__" : Str))=false:=by decide):wpAny (model X.prog X.w) X.A (eval (.Name x pos) X.env) Q E s:=by
 obtain⟨mb,h1,h2⟩:=I.mod.blt
 exact Calls.Name_function_global I.ok.kind hg (Calls.loadGlobal_builtin (by rw [I.ok.glob];exact I.mod.glob.keeps I.bk) hm (by rw [I.ok.blt];exact h1.keeps I.bk) ((h2 x hn).trans hv) h) hd
theorem xF {x:Str} {v:V} {u:Value} {pos:Pos} (hg:Gl X x) (hm:X.mg x=some u) (r:RelV v u) (hd:(x == ("__debug__" : Str))=false:=by decide):PE X (.Name x pos) (tC v) :=
 fun _ _ _ H _ I h=>YL I hg hm ⟨v,H,I,r,h⟩ hd
theorem jR {x:Str} {v:V} {u:Value} {pos:Pos} (hg:Gl X x) (hm:X.mg x=none) (hv:bootBuiltins x=some u) (r:RelV v u) (hn:x ≠ "__name__":=by decide) (hd:(x == ("__debug__" : Str))=false:=by decide):PE X (.Name x pos) (tC v) :=
 fun _ _ _ H _ I h=>j9 I hg hm hv ⟨v,H,I,r,h⟩ hn hd
variable {a b:Expr} {ta tb:TE} {pos:Pos}
def PC (X:Cx) (op:CmpOp) (a b:Expr) (t:TE):Prop :=
 ∀ (pins:List (Addr×Obj)) (s:Shared) (Z:St) (H:Hp) (Q:VK),Inv X pins Z H s->t Z H Q ->
  wpAny (model X.prog X.w) X.A (eval a X.env) (fun v s₁=>wpAny (model X.prog X.w) X.A (eval b X.env) (fun u s₂=>wpAny (model X.prog X.w) X.A (compareOp op v u) (EP X pins Z Q) X.xe s₂) X.xe s₁) X.xe s
theorem zdS (b:Expr) {op:CmpOp} (h:op≠.In) (h2:op≠.NotIn):behindInMarks op b=false:=by
 have e1:(op == CmpOp.In)=false:=by cases op<;>first | rfl | exact absurd rfl h
 have e2:(op == CmpOp.NotIn)=false:=by cases op<;>first | rfl | exact absurd rfl h2
 cases b<;>simp [behindInMarks,e1,e2]
def tB (t:TE):TT:=fun Z H Q=>t Z H fun x H1=>∃ c,x=.bl c/\Q c H1
theorem zc8 {op:CmpOp} {t:TE} (h:PC X op a b t) (h1:behindInMarks op b=false:=by first | exact zdS _ (by decide) (by decide) | rfl):PT X (.Compare a [op] [b] pos) (tB t):=by
 intro pins s Z H Q I hw
 refine wpAny_isTrue_Compare1 (thn (h pins s Z H _ I hw) fun v s1 h1=>thn h1 fun u s2 h2=>thn h2 fun c s3 ⟨x,H1,I1,r1,q1⟩=>?_) h1
 obtain⟨d,rfl,q⟩:=q1
 cases r1
 exact wpAny_truthy_bool ⟨H1,I1,q⟩
theorem wY {e:Expr} {t:TE} (h:PE X e t) (he:∀ whole,isTrue e X.env whole=(do let v <- whole;standAt e.pos;holding [v] (truthy v)):=by intro _;rfl):PT X e (tB t):=by
 intro pins s Z H Q I hw
 refine isTrue_plain (thn (h pins s Z H _ I hw) fun v s1 ⟨x,H1,I1,r1,q1⟩=>?_) (he _)
 obtain⟨d,rfl,q⟩:=q1
 cases r1
 exact wpAny_truthy_bool ⟨H1,I1,q⟩
variable {tA tB':TT} {rest:List Expr}
def zhc (t u:TT):TT:=fun Z H Q=>t Z H fun c H1=>if c=true then u Z H1 Q else Q false H1
def tOr (t u:TT):TT:=fun Z H Q=>t Z H fun c H1=>if c=true then Q true H1 else u Z H1 Q
def zg3 (t:TT):TT:=fun Z H Q=>t Z H fun c H1=>Q (!c) H1
theorem Vn (ha:PT X a tA):PW X (.BoolOp .And [a] pos) tA:=by
 intro wh pins s Z H Q I h
 refine isTrue_and (thn (ha pins s Z H Q I h) fun c s1 e=>?_)
 cases c with
 | true=>exact isTrue_and_nil e
 | false=>exact e
theorem Xg (ha:PT X a tA):PW X (.BoolOp .Or [a] pos) tA:=by
 intro wh pins s Z H Q I h
 refine isTrue_or (thn (ha pins s Z H Q I h) fun c s1 e=>?_)
 cases c with
 | false=>exact isTrue_or_nil e
 | true=>exact e
theorem Jx (ha:PT X a tA) (hb:PW X (.BoolOp .And (b :: rest) pos) tB'):PW X (.BoolOp .And (a :: b :: rest) pos) (zhc tA tB'):=by
 intro wh pins s Z H Q I h
 refine isTrue_and (thn (ha pins s Z H _ I h) fun c s1 ⟨H1,I1,q1⟩=>?_)
 cases c with
 | true=>exact hb wh pins s1 Z H1 Q I1 q1
 | false=>exact⟨H1,I1,q1⟩
theorem Ut (ha:PT X a tA) (hb:PW X (.BoolOp .Or (b :: rest) pos) tB'):PW X (.BoolOp .Or (a :: b :: rest) pos) (tOr tA tB'):=by
 intro wh pins s Z H Q I h
 refine isTrue_or (thn (ha pins s Z H _ I h) fun c s1 ⟨H1,I1,q1⟩=>?_)
 cases c with
 | true=>exact⟨H1,I1,q1⟩
 | false=>exact hb wh pins s1 Z H1 Q I1 q1
theorem uX (ha:PT X a tA):PT X (.UnaryOp .Not a pos) (zg3 tA):=by
 intro pins s Z H Q I h
 exact isTrue_not (ha pins s Z H (fun c H1=>Q (!c) H1) I h)
def zgE (ta tb:TE):TE:=fun Z H Q=>ta Z H fun x H1=>∃ c,x=.bl c/\if c=true then tb Z H1 Q else Q (.bl false) H1
def zg6 (ta tb:TE):TE:=fun Z H Q=>ta Z H fun x H1=>∃ c,x=.bl c/\if c=true then Q (.bl true) H1 else tb Z H1 Q
def zgi (ta:TE):TE:=fun Z H Q=>ta Z H fun x H1=>∃ c,x=.bl c/\Q (.bl (!c)) H1
theorem qR {op} {t:TE} (h:PE X a t):PE X (.BoolOp op [a] pos) t:=fun pins s Z H Q I hw=>BoolOp_one (h pins s Z H Q I hw)
theorem qM (ha:PE X a ta) (hb:PE X (.BoolOp .And (b :: rest) pos) tb):PE X (.BoolOp .And (a :: b :: rest) pos) (zgE ta tb):=by
 intro pins s Z H Q I h
 refine BoolOp_and (thn (ha pins s Z H _ I h) fun v s1 ⟨x,H1,I1,r1,q1⟩=>?_)
 obtain⟨c,rfl,q1⟩:=q1
 cases r1
 refine wpAny_truthy_bool ?_
 cases c with
 | true=>exact hb pins s1 Z H1 Q I1 q1
 | false=>exact⟨.bl false,H1,I1,rfl,q1⟩
theorem zgS (ha:PE X a ta) (hb:PE X (.BoolOp .Or (b :: rest) pos) tb):PE X (.BoolOp .Or (a :: b :: rest) pos) (zg6 ta tb):=by
 intro pins s Z H Q I h
 refine BoolOp_or (thn (ha pins s Z H _ I h) fun v s1 ⟨x,H1,I1,r1,q1⟩=>?_)
 obtain⟨c,rfl,q1⟩:=q1
 cases r1
 refine wpAny_truthy_bool ?_
 cases c with
 | false=>exact hb pins s1 Z H1 Q I1 q1
 | true=>exact⟨.bl true,H1,I1,rfl,q1⟩
theorem zbh (ha:PE X a ta):PE X (.UnaryOp .Not a pos) (zgi ta):=by
 intro pins s Z H Q I h
 refine UnaryOp_ (thn (ha pins s Z H _ I h) fun v s1 ⟨x,H1,I1,r1,q1⟩=>?_)
 obtain⟨c,rfl,q1⟩:=q1
 cases r1
 exact not_of (wpAny_truthy_bool ⟨.bl (!c),H1,I1,rfl,q1⟩)
def tIf (t:TT) (ta tb:TE):TE:=fun Z H Q=>t Z H fun c H1=>if c=true then ta Z H1 Q else tb Z H1 Q
theorem zcX {c:Expr} (hc:PT X c tA) (ha:PE X a ta) (hb:PE X b tb):PE X (.IfExp c a b pos) (tIf tA ta tb):=by
 intro pins s Z H Q I h
 refine wpAny_IfExp (thn (hc pins s Z H _ I h) fun d s1 ⟨H1,I1,q1⟩=>?_)
 cases d with
 | true=>exact ha pins s1 Z H1 Q I1 q1
 | false=>exact hb pins s1 Z H1 Q I1 q1
end
def SqL (K:W.Frag) (H:Hp) (a:Addr) (xs:List V):Prop :=
 Rd H a (.lst xs) \/
  ∃ (o:Obj) (its:Array Value) (n:Nat),K.lookup a=some o/\o.cls=.type "list"/\o.dict=none/\o.data=.seq its n/\its.size<=sizeLine/\Vals xs its.toList
def SqT (K:W.Frag) (H:Hp) (a:Addr) (xs:List V):Prop :=
 Rd H a (.tup xs) \/
  ∃ (o:Obj) (its:Array Value) (n:Nat),K.lookup a=some o/\o.cls=.type "tuple"/\o.data=.seq its n/\its.size<=sizeLine/\Vals xs its.toList
def zgV:Value->Option V
 | .none=>some .non
 | .bool b=>some (.bl b)
 | .int i _=>some (.int i)
 | .str x _=>some (.str x)
 | .bytes b _=>some (.byt b)
 | .float b _=>some (.flt b)
 | .ref a=>some (.ref a)
 | .type n=>some (.ty n)
 | _=>none
theorem RelV.abs {x:V} {u:Value} (r:RelV x u):zgV u=some x:=by
 cases x with
 | non=>cases r;rfl
 | bl _=>cases r;rfl
 | int _=>obtain⟨t,rfl⟩:=r;rfl
 | str _=>obtain⟨t,rfl⟩:=r;rfl
 | byt _=>obtain⟨t,rfl⟩:=r;rfl
 | flt _=>obtain⟨t,rfl⟩:=r;rfl
 | ref _=>cases r;rfl
 | ty _=>cases r;rfl
theorem RelV.inj {x y:V} {u:Value} (r:RelV x u) (q:RelV y u):x=y:=Option.some.inj (r.abs.symm.trans q.abs)
theorem Vals.inj:∀ {xs ys:List V} {us:List Value},Vals xs us->Vals ys us->xs=ys
 | _,_,_,.nil,.nil=>rfl
 | _,_,_,.cons r t,.cons r' t'=>by rw [r.inj r',Vals.inj t t']
section
variable {X:Cx} {pins:List (Addr×Obj)} {Z:St} {H:Hp} {s:Shared} {a:Addr} {xs ys:List V}
theorem SqL.of {K:W.Frag} (h:H a=some (.lst xs)):SqL K H a xs:=.inl (.inl h)
theorem SqT.of {K:W.Frag} (h:H a=some (.tup xs)):SqT K H a xs:=.inl (.inl h)
theorem Inv.list (I:Inv X pins Z H s) (h:SqL X.K H a xs):∃ its:List Value,Vals xs its/\PlainL s.heap a its.toArray/\xs.length<=sizeLine:=by
 rcases h with h | ⟨o,its,n,hk,hc,hd,hs,hz,r⟩
 ·obtain⟨z,its,n,r,e⟩:=h.ok I.hok
  exact⟨its,r,⟨_,n,e,rfl,rfl,rfl⟩,z⟩
 ·refine⟨its.toList,r,⟨o,n,I.kIn a o hk,hc,hd,by simpa using hs⟩,?_⟩
  have e:=r.length
  simp only [Array.length_toList] at e
  omega
theorem Inv.tuple (I:Inv X pins Z H s) (h:SqT X.K H a xs):∃ its:List Value,Vals xs its/\IsTup s.heap a its.toArray/\xs.length<=sizeLine:=by
 rcases h with h | ⟨o,its,n,hk,hc,hs,hz,r⟩
 ·obtain⟨z,its,r,p⟩:=h.ok I.hok
  exact⟨its,r,p,z⟩
 ·refine⟨its.toList,r,⟨o,I.kIn a o hk,hc,n,by simpa using hs⟩,?_⟩
  have e:=r.length
  simp only [Array.length_toList] at e
  omega
theorem Inv.list_inj (I:Inv X pins Z H s) (h:SqL X.K H a xs) (h':SqL X.K H a ys):xs=ys:=by
 obtain⟨its,r,⟨o,n,e,_,_,d⟩,_⟩:=I.list h
 obtain⟨its',r',⟨o',n',e',_,_,d'⟩,_⟩:=I.list h'
 rw [e] at e';cases e'
 rw [d] at d'
 injection d' with d1 _
 have:its=its':=by simpa using congrArg Array.toList d1
 subst this
 exact r.inj r'
theorem Inv.tuple_inj (I:Inv X pins Z H s) (h:SqT X.K H a xs) (h':SqT X.K H a ys):xs=ys:=by
 obtain⟨its,r,⟨o,e,_,n,d⟩,_⟩:=I.tuple h
 obtain⟨its',r',⟨o',e',_,n',d'⟩,_⟩:=I.tuple h'
 rw [e] at e';cases e'
 rw [d] at d'
 injection d' with d1 _
 have:its=its':=by simpa using congrArg Array.toList d1
 subst this
 exact r.inj r'
end
abbrev Cx.wish (X:Cx) (E:Value->Shared->Prop):Cx:={ X with xe:=E }
abbrev Cx.nox (X:Cx):Cx:=X.wish fun _ _=>False
theorem Cx.Ok.wish {X:Cx} (ok:X.Ok) (E:Value->Shared->Prop):(X.wish E).Ok :=
 ⟨ok.mod,ok.kind,ok.glob,ok.blt,ok.above,ok.inj,ok.has,ok.cab,ok.hd,ok.frames,ok.stk,ok.exf,ok.bs,ok.bsz,ok.noex,ok.exfs,ok.funs,ok.frf⟩
theorem Cx.Ok.unwish {X:Cx} {E:Value->Shared->Prop} (ok:(X.wish E).Ok):X.Ok :=
 ⟨ok.mod,ok.kind,ok.glob,ok.blt,ok.above,ok.inj,ok.has,ok.cab,ok.hd,ok.frames,ok.stk,ok.exf,ok.bs,ok.bsz,ok.noex,ok.exfs,ok.funs,ok.frf⟩
section
variable {X:Cx} {pins:List (Addr×Obj)} {Z:St} {H:Hp} {s:Shared} {E:Value->Shared->Prop}
theorem Inv.wish (I:Inv X pins Z H s) (E:Value->Shared->Prop):Inv (X.wish E) pins Z H s:=⟨I.ok.wish E,I.os,I.bare,I.base,I.loc,I.cell,I.free,I.freeC,I.pin,I.hok,I.len⟩
theorem Inv.unwish (I:Inv (X.wish E) pins Z H s):Inv X pins Z H s:=⟨I.ok.unwish,I.os,I.bare,I.base,I.loc,I.cell,I.free,I.freeC,I.pin,I.hok,I.len⟩
theorem SP.unwish {D:Ends} {f:Flow} {s':Shared} (h:SP (X.wish E) pins D f s'):SP X pins D f s':=by
 cases f with
 | next=>obtain⟨σ',H',I,q⟩:=h;exact⟨σ',H',I.unwish,q⟩
 | brk=>obtain⟨σ',H',I,q⟩:=h;exact⟨σ',H',I.unwish,q⟩
 | cont=>obtain⟨σ',H',I,q⟩:=h;exact⟨σ',H',I.unwish,q⟩
 | ret u=>obtain⟨v,σ',H',I,r,q⟩:=h;exact⟨v,σ',H',I.unwish,r,q⟩
theorem PE.nox {e:Expr} {t:TE} (h:PE X.nox e t):PE X e t:=fun pins s Z H Q I hw =>
 wpAny_mono (h pins s Z H Q (I.wish _) hw) (fun _ _ ⟨v,H',I',r,q⟩=>⟨v,H',I'.unwish,r,q⟩) fun _ _ z=>False.elim z
theorem PT.nox {e:Expr} {t:TT} (h:PT X.nox e t):PT X e t:=fun pins s Z H Q I hw =>
 wpAny_mono (h pins s Z H Q (I.wish _) hw) (fun _ _ ⟨H',I',q⟩=>⟨H',I'.unwish,q⟩) fun _ _ z=>False.elim z
theorem PSs.nox {st:List Stmt} {t:TS} (h:PSs X.nox st t):PSs X st t:=fun pins s Z H D I hw =>
 wpAny_mono (h pins s Z H D (I.wish _) hw) (fun _ _ q=>q.unwish) fun _ _ z=>False.elim z
end
section
variable {X:Cx} {st:Stmt} {rest:List Stmt} {t u:TS} {e:Expr} {te:TE} {pos:Pos}
def zgg:TS:=fun D Z H=>D.nx Z H
def Ja (t u:TS):TS:=fun D Z H=>t { D with nx:=u D } Z H
theorem zO:PSs X [] zgg:=fun _ _ Z H _ I h=>wpAny_execs_nil ⟨Z,H,I,h⟩
theorem zm (h1:PS X st t) (h2:PSs X rest u):PSs X (st :: rest) (Ja t u):=by
 intro pins s Z H D I h
 refine wpAny_execs_cons (thn (h1 pins s Z H { D with nx:=u D } I h) fun f s1 q=>?_)
 cases f with
 | next =>
  obtain⟨σ',H',I',q⟩:=q
  exact h2 pins s1 σ' H' D I' q
 | ret v=>exact q
 | brk=>exact q
 | cont=>exact q
theorem zr (h1:PS X st t):PSs X [st] t:=by
 intro pins s Z H D I h
 refine wpAny_execs_cons (thn (h1 pins s Z H D I h) fun f s1 q=>?_)
 cases f with
 | next=>exact wpAny_execs_nil q
 | ret v=>exact q
 | brk=>exact q
 | cont=>exact q
theorem Inv.quiet {pins:List (Addr×Obj)} {Z:St} {H:Hp} {s:Shared} (I:Inv X pins Z H s):interactive X.env=false:=by simp [interactive,I.ok.kind]
def zgD (te:TE):TS:=fun D Z H=>te Z H fun _ H1=>D.nx Z H1
theorem xG (he:PE X e te) (hs:swapsWith e none pos.line X.env=pure false:=by rfl):PS X (.Expr e pos) (zgD te):=by
 intro pins s Z H D I h
 exact wpAny_Expr_any (thn (he pins s Z H _ I h) fun v s1 ⟨x,H1,I1,r1,q1⟩=>⟨Z,H1,I1,q1⟩) I.quiet hs
def zgy (te:TE):TS:=fun D Z H=>te Z H D.rt
theorem zH (he:PE X e te):PS X (.Return (some e) pos) (zgy te):=by
 intro pins s Z H D I h
 exact wpAny_Return_some (thn (he pins s Z H _ I h) fun v s1 ⟨x,H1,I1,r1,q1⟩=>⟨x,Z,H1,I1,r1,q1⟩)
def zhf (c:TT) (t u:TS):TS:=fun D Z H=>c Z H fun b H1=>if b=true then t D Z H1 else u D Z H1
theorem yH {c:Expr} {a b:List Stmt} {tc:TT} (hc:PT X c tc) (ha:PSs X a t) (hb:PSs X b u):PS X (.If c a b pos) (zhf tc t u):=by
 intro pins s Z H D I h
 refine wpAny_If (thn (hc pins s Z H _ I h) fun d s1 ⟨H1,I1,q1⟩=>?_)
 cases d with
 | true=>exact ha pins s1 Z H1 D I1 q1
 | false=>exact hb pins s1 Z H1 D I1 q1
def zfN:TS:=fun _ _ _=>False
theorem Yi:PS X st zfN:=fun _ _ _ _ _ _ h=>h.elim
end
abbrev TG:=V->St->Hp->(St->Hp->Prop)->Prop
abbrev TGs:=List V->St->Hp->(St->Hp->Prop)->Prop
def PG (X:Cx) (target:Expr) (t:TG):Prop :=
 ∀ (pins:List (Addr×Obj)) (s:Shared) (Z:St) (H:Hp) (v:V) (u:Value) (Q:St->Hp->Prop),Inv X pins Z H s->RelV v u->t v Z H Q ->
  wpAny (model X.prog X.w) X.A (assign target X.env u) (fun _ s'=>∃ σ' H',Inv X pins σ' H' s'/\Q σ' H') X.xe s
def PGs (X:Cx) (ts:List Expr) (t:TGs):Prop :=
 ∀ (pins:List (Addr×Obj)) (s:Shared) (Z:St) (H:Hp) (vs:List V) (us:List Value) (Q:St->Hp->Prop),Inv X pins Z H s->Vals vs us->t vs Z H Q ->
  wpAny (model X.prog X.w) X.A (assignInOrder ((assignEach ts X.env).map (·.2)) us) (fun _ s'=>∃ σ' H',Inv X pins σ' H' s'/\Q σ' H') X.xe s
abbrev zfV:=V->V->V->Hp->(Hp->Prop)->Prop
def zgv (X:Cx) (t:zfV):Prop :=
 ∀ (pins:List (Addr×Obj)) (s:Shared) (Z:St) (H:Hp) (o i v:V) (ov iv u:Value) (Q:Hp->Prop),Inv X pins Z H s->RelV o ov->RelV i iv->RelV v u->t o i v H Q ->
  wpAny (model X.prog X.w) X.A (setItem ov iv u) (fun _ s'=>∃ H',Inv X pins Z H' s'/\Q H') X.xe s
abbrev TIp:=V->V->Hp->VK->Prop
def PIp (X:Cx) (op:Operator) (t:TIp):Prop :=
 ∀ (pins:List (Addr×Obj)) (s:Shared) (Z:St) (H:Hp) (x y:V) (v u:Value) (Q:VK),Inv X pins Z H s->RelV x v->RelV y u->t x y H Q ->
  wpAny (model X.prog X.w) X.A (inplaceOp op v u) (EP X pins Z Q) X.xe s
section
variable {X:Cx} {pos:Pos}
def Uc (i:Nat):TG:=fun v Z H Q=>Q (Z.set i (some v)) H
theorem yh {i:Nat} {x:Str} (hN:X.N.Nodup) (hi:X.N[i]?=some x) (hx:Loc X.env.scope x) (hf:X.fn x=true\/X.env.scope.names.lookup x=some .local:=by first | exact .inl rfl | exact .inr rfl | assumption):PG X (.Name x pos) (Uc i):=by
 intro pins s Z H v u Q I r h
 exact wpAny_assign_Name (X6 I hN hi hx r (fun s' I'=>⟨_,H,I',h⟩) hf)
def zg2:TGs:=fun vs Z H Q=>vs=[]/\Q Z H
def zf5 (t:TG) (u:TGs):TGs:=fun vs Z H Q=>∃ v r,vs=v :: r/\t v Z H fun σ' H'=>u r σ' H' Q
theorem JQ:PGs X [] zg2:=by
 intro pins s Z H vs us Q I r h
 obtain⟨e,h⟩:=h
 subst e
 cases r
 exact assignInOrder_nil ⟨Z,H,I,h⟩
theorem qL {e:Expr} {es:List Expr} {t:TG} {u:TGs} (h1:PG X e t) (h2:PGs X es u)
  (hs:(assignEach (e :: es) X.env).map (·.2)=assign e X.env :: (assignEach es X.env).map (·.2):=by rfl):PGs X (e :: es) (zf5 t u):=by
 intro pins s Z H vs us Q I r h
 obtain⟨v,vr,e1,h⟩:=h
 subst e1
 cases r with
 | cons r rr =>
  rw [hs]
  refine assignInOrder_cons (thn (h1 pins s Z H _ _ _ I r h) fun _ s1 ⟨σ1,H1,I1,q1⟩=>?_)
  exact h2 pins s1 σ1 H1 _ _ Q I1 rr q1
def zgm (K:W.Frag) (n:Nat) (t:TGs):TG:=fun v Z H Q=>∃ a xs,v=.ref a/\SqT K H a xs/\xs.length=n/\t xs Z H Q
theorem za1 {es:List Expr} {k:Nat} {t:TGs} {n:Nat} (hc:X.calm=true) (h:PGs X es t)
  (hn:(assignEach es X.env).length=n:=by rfl) (hst:(assignEach es X.env).findIdx? (·.1)=none:=by rfl):PG X (.Tuple es k pos) (zgm X.K n t):=by
 intro pins s Z H v u Q I r hw
 obtain⟨a,xs,e1,hq,hl,hw⟩:=hw
 subst e1
 cases r
 obtain⟨its,rv,ht,hz⟩:=I.tuple hq
 refine assign_Tuple_tuple (I.ok.hd hc) ht (by simp [hn,<- hl,rv.length]) hst fun h' hx=>?_
 have I1:Inv X pins Z H { s with heap:=h' }:=I.kept (t':=s.toks) fun b o e=>hx b o (Nat.ne_of_lt (Heap.lt_size e)) e
 exact h pins _ Z H xs _ Q I1 (by simpa using rv) hw
def zgW (to ti:TE) (t:zfV):TG:=fun v Z H Q=>to Z H fun o H1=>ti Z H1 fun i H2=>t o i v H2 fun H3=>Q Z H3
theorem zfW {o i:Expr} {to ti:TE} {t:zfV} (ho:PE X o to) (hi:PE X i ti) (hs:zgv X t)
  (ha:∀ v,assign (.Subscript o i pos) X.env v=(do
   let ov <- holding [v] (eval o X.env)
   let iv <- holding [v,ov] (eval i X.env)
   standAt pos
   holding [v,ov,iv] (setItem ov iv v)
   release [v,ov,iv] []):=by intro _;rfl):PG X (.Subscript o i pos) (zgW to ti t):=by
 intro pins s Z H v u Q I r h
 rw [ha]
 refine wpAny_bind (wpAny_holding (thn (ho pins s Z H _ I h) fun ov s1 ⟨x,H1,I1,r1,q1⟩=>?_))
 refine wpAny_bind (wpAny_holding (thn (hi pins s1 Z H1 _ I1 q1) fun iv s2 ⟨y,H2,I2,r2,q2⟩=>?_))
 refine wpAny_bind (wpAny_standAt (wpAny_bind (wpAny_holding (thn (hs pins s2 Z H2 x y v ov iv u _ I2 r1 r2 r q2) fun _ s3 ⟨H3,I3,q3⟩=>?_))))
 exact wpAny_release ⟨Z,H3,I3,q3⟩
def zdt (te:TE) (g:TG):TS:=fun D Z H=>te Z H fun x H1=>g x Z H1 D.nx
theorem zfB {tg e:Expr} {te:TE} {g:TG} (he:PE X e te) (hg:PG X tg g) (hs:swapsWithSole [tg] e pos.line X.env=pure false:=by rfl) (hw:swappedStores [tg] e X.env=pure none:=by rfl)
  (h1:(assignEach [tg] X.env).map (·.2)=[assign tg X.env]:=by rfl):PS X (.Assign [tg] e pos) (zdt te g):=by
 intro pins s Z H D I h
 refine wpAny_Assign_stores (thn (he pins s Z H _ I h) fun v s1 ⟨x,H1,I1,r1,q1⟩=>?_) hs hw
 rw [h1]
 exact thn (hg pins s1 Z H1 x v _ I1 r1 q1) fun _ s2 q=>q
theorem zB {i:Nat} {x:Str} {e:Expr} {te:TE} {pos':Pos} (hN:X.N.Nodup) (hi:X.N[i]?=some x) (hx:Loc X.env.scope x) (he:PE X e te) (hs:swapsWith e (some (.Name x pos')) pos.line X.env=pure false:=by rfl) (hf:X.fn x=true\/X.env.scope.names.lookup x=some .local:=by first | exact .inl rfl | exact .inr rfl | assumption) :
  PS X (.Assign [.Name x pos'] e pos) (zdt te (Uc i)):=by
 intro pins s Z H D I h
 refine wpAny_Assign_Name (thn (he pins s Z H _ I h) fun v s1 ⟨y,H1,I1,r1,q1⟩=>?_) hs
 exact X6 I1 hN hi hx r1 (fun s2 I2=>⟨_,H1,I2,q1⟩) hf
def zg9 (i:Nat) (te:TE) (ti:TIp):TS:=fun D Z H=>∃ x,Z[i]?=some (some x)/\te Z H fun y H1=>ti x y H1 fun z H2=>D.nx (Z.set i (some z)) H2
theorem zaO {i:Nat} {x:Str} {e:Expr} {te:TE} {op:Operator} {ti:TIp} {pos':Pos} (hN:X.N.Nodup) (hi:X.N[i]?=some x) (hx:Loc X.env.scope x) (he:PE X e te) (ho:PIp X op ti) (hf:X.fn x=true\/X.env.scope.names.lookup x=some .local:=by first | exact .inl rfl | exact .inr rfl | assumption) :
  PS X (.AugAssign (.Name x pos') op e pos) (zg9 i te ti):=by
 intro pins s Z H D I h
 obtain⟨v,e1,h⟩:=h
 obtain⟨m,hn,hl⟩:=I.loc
 have vis:Vis X.env.scope x:=by rcases hx with k | k;exact .inl k;exact .inr (.inl k)
 obtain⟨u,r,l⟩:=hl i x v hi e1 vis
 refine wpAny_AugAssign_Name ?_
 have go:wpAny (model X.prog X.w) X.A (eval e X.env) (fun w s₂=>wpAny (model X.prog X.w) X.A (inplaceOp op u w) (fun r s₃=>wpAny (model X.prog X.w) X.A (storeName X.env x r) (fun _=>SP X pins D .next) X.xe s₃) X.xe s₂) X.xe s:=by
  refine thn (he pins s Z H _ I h) fun w s1 ⟨y,H1,I1,r1,q1⟩=>?_
  refine thn (ho pins s1 Z H1 v y u w _ I1 r r1 q1) fun z s2 ⟨zv,H2,I2,r2,q2⟩=>?_
  exact X6 I2 hN hi hx r2 (fun s3 I3=>⟨_,H2,I3,q2⟩) hf
 rcases l with ⟨hk,hm⟩ | ⟨hk,c,hc,hcell⟩
 ·exact wpAny_loadName_local I.ok.kind hk hn hm go
 ·rcases hk with hk | hk
  ·exact wpAny_loadName_cell I.ok.kind hk hc hcell go
  ·rcases hx with k | k
   ·have:X.env.scope.names.lookup x=some .free:=hk
    rw [k] at this;cases this
   ·have:X.env.scope.names.lookup x=some .free:=hk
    rw [k] at this;cases this
def ipI (f:Int->Int->Int):TIp:=fun x y H Q=>∃ i j,x=.int i/\y=.int j/\Q (.int (f i j)) H
theorem zdl:PIp X .Add (ipI fun i j=>i+j):=by
 intro pins s Z H x y v u Q I r1 r2 h
 obtain⟨i,j,e1,e2,q⟩:=h
 subst e1;subst e2
 obtain⟨t,rfl⟩:=r1
 obtain⟨t',rfl⟩:=r2
 exact iadd_int ⟨.int _,H,I.tok _,⟨_,rfl⟩,q⟩
theorem zfE:PIp X .Sub (ipI fun i j=>i-j):=by
 intro pins s Z H x y v u Q I r1 r2 h
 obtain⟨i,j,e1,e2,q⟩:=h
 subst e1;subst e2
 obtain⟨t,rfl⟩:=r1
 obtain⟨t',rfl⟩:=r2
 exact isub_int ⟨.int _,H,I.tok _,⟨_,rfl⟩,q⟩
def zdn (c:TT) (tb:TS):TS:=fun D Z H=>∃ W:Nat->St->Hp->Prop,(∃ m,W m Z H)/\∀ m Z H,W m Z H ->
 c Z H fun b H1=>if b=true then ∃ N:St->Hp->Prop,(∀ σ' H',N σ' H'->∃ m',m'<m/\W m' σ' H')/\tb { D with nx:=N,ct:=N,bk:=D.nx } Z H1 else D.nx Z H1
theorem Yj {c:Expr} {body:List Stmt} {tc:TT} {tb:TS} (hp:PassesOwn (model X.prog X.w) X.A X.env X.xe) (hc:PT X c tc) (hb:PSs X body tb):PS X (.While c body [] pos) (zdn tc tb):=by
 intro pins s Z H D I h
 obtain⟨W,⟨m0,w0⟩,turn⟩:=h
 refine wpAny_While (codeAny_whileLoop (fun n s'=>∃ σ' H',Inv X pins σ' H' s'/\W n σ' H') ?_ m0 ⟨Z,H,I,w0⟩)
 rintro n s1 ⟨σ1,H1,I1,w1⟩
 refine wpAny_passesOwn hp (thn (hc pins s1 σ1 H1 _ I1 (turn n σ1 H1 w1)) fun b s2 ⟨H2,I2,q2⟩=>?_)
 cases b with
 | true =>
  obtain⟨N,hN,q2⟩:=q2
  rw [if_pos rfl]
  refine wpAny_passesOwn hp (thn (hb pins s2 σ1 H2 _ I2 q2) fun f s3 q3=>?_)
  cases f with
  | next =>
   obtain⟨σ3,H3,I3,n3⟩:=q3
   obtain⟨m',hm,w3⟩:=hN σ3 H3 n3
   exact⟨m',hm,σ3,H3,I3,w3⟩
  | cont =>
   obtain⟨σ3,H3,I3,n3⟩:=q3
   obtain⟨m',hm,w3⟩:=hN σ3 H3 n3
   exact⟨m',hm,σ3,H3,I3,w3⟩
  | brk=>exact q3
  | ret v=>exact q3
 | false =>
  rw [if_neg Bool.false_ne_true]
  exact wpAny_execs_nil ⟨σ1,H2,I2,q2⟩
end
structure It where
 go:Nat->Hp->Prop
 yld:Nat->Hp->V->Hp->Prop
 stop:Nat->Hp->Prop
def Yl (X:Cx) (pins:List (Addr×Obj)) (H:Hp) (b:Addr):Prop :=
 H b=none/\b≠X.env.locals/\b∉X.fs/\(b∈X.ex\/X.s₀.heap.objs.size<=b)/\(∀ x c,X.env.cells.lookup x=some c->c≠b)/\∀ p∈X.pn++pins,p.1≠b
theorem Inv.fpOk {X:Cx} {pins:List (Addr×Obj)} {Z:St} {H H':Hp} {s:Shared} {b:Addr} (I:Inv X pins Z H s) (hb:s.heap.objs.size<=b) (hn:H' b=none):Yl X pins H' b:=by
 refine⟨hn,Nat.ne_of_gt (Nat.lt_of_lt_of_le I.lt hb),I.nofs hb,.inr (Nat.le_trans I.sz hb),fun x c e z=>?_,fun p hp z=>?_⟩
 ·obtain⟨v,q⟩:=I.cell x c e
  exact absurd (Nat.lt_of_lt_of_le q.lt (by rw [z];exact hb)) (Nat.lt_irrefl _)
 ·exact absurd (Nat.lt_of_lt_of_le (Heap.lt_size (I.pin p hp).1) (by rw [z];exact hb)) (Nat.lt_irrefl _)
structure Turn (P:Program) (w:World) (K:W.Frag) (tg:Expr) (J:It) (fp:List Addr) (it:Addr) (tn:Nat->Heap->Prop):Prop where
 mem:it∈fp
 obj:∀ i h,tn i h->∀ b∈fp,∃ o,h.get? b=some o/\∀ v,o.data≠.cell v
 keep:∀ i h h',tn i h->(∀ b∈fp,∀ o,h.get? b=some o->h'.get? b=some o)->tn i h'
 item:∀ (X:Cx),X.prog=P->X.w=w->X.K=K->X.calm=true->∀ (i:Nat) (pins:List (Addr×Obj)) (s:Shared) (Z:St) (H:Hp) (E:Value->Shared->Prop),Inv X pins Z H s->(∀ b∈fp,Yl X pins H b)->tn i s.heap->J.go i H ->
  wpAny (model P w) X.A (pyNext (.ref it)) (fun r s1=>∃ u,r=some u /\
   wpAny (model P w) X.A (letOwnedTupleGo tg (.ref it) u) (fun _ s2=>∃ x H',Inv X pins Z H' s2/\RelV x u/\J.yld i H x H'/\tn (i+1) s2.heap/\∀ b∈fp,H' b=none) E s1) E s
 done:∀ (X:Cx),X.prog=P->X.w=w->X.K=K->X.calm=true->∀ (i:Nat) (pins:List (Addr×Obj)) (s:Shared) (Z:St) (H:Hp) (E:Value->Shared->Prop),Inv X pins Z H s->(∀ b∈fp,Yl X pins H b)->tn i s.heap->J.stop i H ->
  wpAny (model P w) X.A (pyNext (.ref it)) (fun r s1=>r=none/\Inv X pins Z H s1) E s
 self:∀ (A:Around) (i:Nat) (s:Shared) (Q:Value->Shared->Prop) (E:Value->Shared->Prop),tn i s.heap->Q (.ref it) s->wpAny (model P w) A (pyIter (.ref it)) Q E s
abbrev TI:=St->Hp->(It->Hp->Prop)->Prop
def PIE (X:Cx) (pins:List (Addr×Obj)) (Z:St) (tg:Expr) (R:It->Hp->Prop) (itv:Value) (s2:Shared):Prop :=
 ∃ (it:Addr) (fp:List Addr) (tn:Nat->Heap->Prop) (J:It) (H':Hp),itv=.ref it/\Inv X pins Z H' s2/\Turn X.prog X.w X.K tg J fp it tn/\tn 0 s2.heap/\(∀ b∈fp,Yl X pins H' b)/\R J H'
def PI (X:Cx) (tg iter:Expr) (wi:TI):Prop :=
 ∀ (pins:List (Addr×Obj)) (s:Shared) (Z:St) (H:Hp) (R:It->Hp->Prop),Inv X pins Z H s->wi Z H R ->
  wpAny (model X.prog X.w) X.A (eval iter X.env) (fun v s1=>wpAny (model X.prog X.w) X.A (pyIter v) (PIE X pins Z tg R) X.xe s1) X.xe s
theorem zdR {M:Model} {A:Around} {E:Value->Shared->Prop} {s:Shared} {tg:Expr} {it:Addr} {u:Value} {o:Obj} {n:String} {vs:Array Value} {Q:Unit->Shared->Prop} (ho:s.heap.get? it=some o) (hc:o.cls=.type n) (hd:o.data=.fields vs)
    (hn:["enumerate","zip","dict_itemiterator","dict_reverseitemiterator","odict_iterator","itertools.zip_longest","itertools.pairwise"].contains n=false) (hQ:Q () s):wpAny M A (letOwnedTupleGo tg (.ref it) u) Q E s:=by
  unfold letOwnedTupleGo
  cases tg<;>first
    | exact wpAny_pure hQ
    | (cases u<;>first
        | exact wpAny_pure hQ
        | (refine wpAny_bind (wpAny_load ho ?_)
           rw [hc,hd]
           show wpAny M A (if (["enumerate","zip","dict_itemiterator","dict_reverseitemiterator","odict_iterator","itertools.zip_longest","itertools.pairwise"].contains n && vs[0]? == some (rawInt _))=true then _ else _) Q E s
           rw [if_neg (by intro h;rw [hn,Bool.false_and] at h;cases h)]
           exact wpAny_pure hQ))
def Itl (K:W.Frag) (a:Addr):It :=
 ⟨fun i H=>∃ xs x,SqL K H a xs/\xs[i]?=some x,fun i H x H'=>H'=H/\∀ xs,SqL K H a xs->xs[i]?=some x,fun i H=>∃ xs,SqL K H a xs/\xs.length<=i⟩
def Itr (lo:Int) (n:Nat):It:=⟨fun i _=>i<n,fun i H x H'=>H'=H/\x=.int (lo+i),fun i _=>n<=i⟩
theorem zce {P:Program} {w:World} {K:W.Frag} {tg:Expr} (a it:Addr):Turn P w K tg (Itl K a) [it] it (fun i h=>h.IsListIter it a i) where
 mem:=by simp
 obj:=fun i h st b hb=>by
  have e:b=it:=by simpa using hb
  subst e
  obtain⟨o,e,c,d⟩:=st
  exact⟨o,e,fun v z=>by rw [d] at z;cases z⟩
 keep:=fun i h h' st k=>st.at fun o e=>k it (by simp) o e
 item:=by
  intro X hP hw hK hc i pins s Z H E I hf st hg
  subst hP hw hK
  obtain⟨xs,x,hq,hx⟩:=hg
  obtain⟨its,rv,p,hz⟩:=I.list hq
  obtain⟨u,hu,ru⟩:=rv.get hx
  obtain⟨f0,f1,f2,f3,f4,f5⟩:=hf it (by simp)
  refine wpAny_pyNext_list_item st p.isList (x:=u) (by simpa using hu) fun h' st' sb=>?_
  have I1:Inv X pins Z H { s with heap:=h' }:=I.turned (t':=s.toks) (fun b o hb e=>(sb.2 b hb).trans e) f0 f1 f3 f4 f5
  obtain⟨o,e,c,d⟩:=id st'
  exact⟨u,rfl,zdR (s:={ s with heap:=h' }) e c d (by decide) ⟨x,H,I1,ru,⟨rfl,fun ys hy=>by rw [I.list_inj hy hq];exact hx⟩,st',fun b hb=>(hf b hb).1⟩⟩
 done:=by
  intro X hP hw hK hc i pins s Z H E I hf st hg
  subst hP hw hK
  obtain⟨xs,hq,hx⟩:=hg
  obtain⟨its,rv,p,hz⟩:=I.list hq
  obtain⟨f0,f1,f2,f3,f4,f5⟩:=hf it (by simp)
  have hl:=rv.length
  exact wpAny_pyNext_list_end (I.ok.hd hc) st p.isList (by simp;omega) fun h' eb=>⟨rfl,I.turned (t':=s.toks) (fun b o hb e=>eb b o hb e) f0 f1 f3 f4 f5⟩
 self:=fun _ _ _ _ _ st h=>wpAny_pyIter_listiter st h
theorem zbm {P:Program} {w:World} {K:W.Frag} {tg:Expr} (it:Addr) (lo:Int) (n:Nat):Turn P w K tg (Itr lo n) [it] it (fun i h=>IsRangeIter h it (lo+(i:Nat)*1) ((n:Int)-(i:Nat)) 1) where
 mem:=by simp
 obj:=fun i h st b hb=>by
  have e:b=it:=by simpa using hb
  subst e
  exact⟨_,st,fun v z=>by
   have z':Data.fields _=Data.cell v:=z
   cases z'⟩
 keep:=fun i h h' st k=>k it (by simp) _ st
 item:=by
  intro X hP hw hK hc i pins s Z H E I hf st hg
  subst hP hw hK
  obtain⟨f0,f1,f2,f3,f4,f5⟩:=hf it (by simp)
  have W:=Walks.range (prog:=X.prog) (w:=X.w) (I.ok.hd hc) it lo 1 n
  refine W.item i s _ _ hg st fun v h' tk hv st' kk=>?_
  obtain⟨t,rfl⟩:=hv
  have I1:Inv X pins Z H { s with heap:=h',toks:=tk }:=I.turned (fun b o hb e=>kk b o (by simpa using hb) e) f0 f1 f3 f4 f5
  refine⟨_,rfl,zdR (s:={ s with heap:=h',toks:=tk }) (n:="range_iterator") st' rfl rfl (by decide) ⟨.int (lo+i),H,I1,⟨t,?_⟩,⟨rfl,rfl⟩,st',fun b hb=>(hf b hb).1⟩⟩
  rw [Int.mul_one]
 done:=by
  intro X hP hw hK hc i pins s Z H E I hf st hg
  subst hP hw hK
  obtain⟨f0,f1,f2,f3,f4,f5⟩:=hf it (by simp)
  exact wpAny_pyNext_range_end (I.ok.hd hc) st (by have:n<=i:=hg;omega) fun h' eb=>⟨rfl,I.turned (t':=s.toks) (fun b o hb e=>eb b o hb e) f0 f1 f3 f4 f5⟩
 self:=fun _ _ _ _ _ st h=>wpAny_pyIter_rangeiter st h
section
variable {X:Cx} {tg:Expr}
def ze8 (K:W.Frag) (tl:TE):TI:=fun Z H R=>tl Z H fun x H1=>∃ a,x=.ref a/\(∃ xs,SqL K H1 a xs)/\R (Itl K a) H1
theorem zel {l:Expr} {tl:TE} (hl:PE X l tl):PI X tg l (ze8 X.K tl):=by
 intro pins s Z H R I h
 refine thn (hl pins s Z H _ I h) fun v s1 ⟨x,H1,I1,r1,q1⟩=>?_
 obtain⟨a,e,⟨xs,hq⟩,q⟩:=q1
 subst e
 cases r1
 obtain⟨its,rv,p,hz⟩:=I1.list hq
 refine wpAny_pyIter_list p.isList ?_
 refine⟨s1.heap.objs.size,[s1.heap.objs.size],_,_,H1,rfl,I1.kept (t':=s1.toks) fun b o e=>Heap.get?_push_of_some _ e,zce a _,⟨_,Heap.get?_push_size _ rfl,rfl,rfl⟩,fun b hb=>?_,q⟩
 have e:b=s1.heap.objs.size:=by simpa using hb
 subst e
 exact I1.fpOk (Nat.le_refl _) (I1.hok.fresh (Nat.le_refl _))
theorem zaN {pins:List (Addr×Obj)} {Z:St} {H:Hp} {s:Shared} {R:It->Hp->Prop} {E:Value->Shared->Prop} {lo hi:Int} {t u v:Tok} {tk:Nat} (I:Inv X pins Z H s) (h1:-(2^62)<=lo) (h2:lo<2^62) (h3:-(2^62)<=hi) (h4:hi<2^62)
  (q:R (Itr lo (hi-lo).toNat) H):wpAny (model X.prog X.w) X.A (pyIter (.ref s.heap.objs.size)) (PIE X pins Z tg R) E { s with heap:=s.heap.push { cls:=.type "range",data:=.fields #[.int lo t,.int hi u,.int 1 v] },toks:=tk }:=by
 refine wpAny_pyIter_range (IsRange.new ..) (small_one h1 h2 h3 h4) ?_
 have I1:Inv X pins Z H { s with heap:=s.heap.push { cls:=.type "range",data:=.fields #[.int lo t,.int hi u,.int 1 v] },toks:=tk }:=I.kept fun b o e=>Heap.get?_push_of_some _ e
 refine⟨(s.heap.push { cls:=.type "range",data:=.fields #[.int lo t,.int hi u,.int 1 v] }).objs.size,[(s.heap.push { cls:=.type "range",data:=.fields #[.int lo t,.int hi u,.int 1 v] }).objs.size],_,_,H,rfl,
  I1.kept (t':=tk) fun b o e=>Heap.get?_push_of_some _ e,zbm _ lo (hi-lo).toNat,?_,fun b hb=>?_,q⟩
 ·have e1:lo+((0:Nat):Int)*1=lo:=by simp
  have e2:(((hi-lo).toNat:Nat):Int)-((0:Nat):Int)=Builtin.Range.rangeSize lo hi 1:=by rw [rangeSize_one];split<;>omega
  show IsRangeIter _ _ (lo+((0:Nat):Int)*1) ((((hi-lo).toNat:Nat):Int)-((0:Nat):Int)) 1
  rw [e1,e2]
  exact Heap.get?_push_size _ rfl
 ·have e:b=(s.heap.push { cls:=.type "range",data:=.fields #[.int lo t,.int hi u,.int 1 v] }).objs.size:=by simpa using hb
  subst e
  exact I1.fpOk (Nat.le_refl _) (I1.hok.fresh (Nat.le_refl _))
def zgp (ta:TA):TI:=fun Z H R=>ta Z H fun vs H1=>∃ j:Int,vs=[.int j]/\-(2^62)<=j/\j<2^62/\R (Itr 0 j.toNat) H1
def zgC (ta:TA):TI:=fun Z H R=>ta Z H fun vs H1=>∃ i j:Int,vs=[.int i,.int j]/\(-(2^62)<=i/\i<2^62/\-(2^62)<=j/\j<2^62)/\R (Itr i (j-i).toNat) H1
theorem yl {a:Expr} {ta:TA} {p pos:Pos} (hg:Gl X "range") (hm:X.mg "range" = none) (ha:PA X [a] ta) (hs:starEach [a] X.env=[(false,eval a X.env)]:=by rfl):PI X tg (.Call (.Name "range" p) [a] [] pos) (zgp ta):=by
 intro pins s Z H R I h
 refine Call_ (j9 I hg hm boot_range (PyProof.Rows.callWith_type1 (thn (ha pos pins s Z H _ I h) fun us s1 ⟨vs,H1,I1,r1,q1⟩=>?_) hs rfl))
 obtain⟨j,e,q1,q2,q⟩:=q1
 subst e
 cases r1 with
 | cons r rr =>
  cases rr
  obtain⟨t,rfl⟩:=r
  exact call_range_1 (zaN I1 (by omega) (by omega) q1 q2 (by simpa using q))
theorem Ws {a b:Expr} {ta:TA} {p pos:Pos} (hg:Gl X "range") (hm:X.mg "range" = none) (ha:PA X [a,b] ta) (hs:starEach [a,b] X.env=[(false,eval a X.env),(false,eval b X.env)]:=by rfl) (hs2:starEach [b] X.env=[(false,eval b X.env)]:=by rfl) :
  PI X tg (.Call (.Name "range" p) [a,b] [] pos) (zgC ta):=by
 intro pins s Z H R I h
 refine Call_ (j9 I hg hm boot_range (PyProof.Rows.callWith_type1 (thn (ha pos pins s Z H _ I h) fun us s1 ⟨vs,H1,I1,r1,q1⟩=>?_) (by rw [hs,hs2]) (by rw [hs2];rfl)))
 obtain⟨i,j,e,⟨q1,q2,q3,q4⟩,q⟩:=q1
 subst e
 cases r1 with
 | cons r rr =>
  cases rr with
  | cons r' rr =>
   cases rr
   obtain⟨t,rfl⟩:=r
   obtain⟨t',rfl⟩:=r'
   exact call_range_2 (zaN I1 q1 q2 q3 q4 q)
def zg4 (wi:TI) (g:TG) (tb:TS):TS:=fun D Z H=>wi Z H fun J H1=>∃ W:Nat->Nat->St->Hp->Prop,(∃ m,W 0 m Z H1)/\∀ i m Z H,W i m Z H ->
 (J.stop i H/\D.nx Z H)\/(J.go i H/\∃ N:St->Hp->Prop,(∀ σ' H',N σ' H'->∃ m',m'<m/\W (i+1) m' σ' H')/\∀ x H',J.yld i H x H'->g x Z H' fun σ2 H2=>tb { D with nx:=N,ct:=N,bk:=D.nx } σ2 H2)
def Zc (fp:List Addr) (h:Heap):List (Addr×Obj):=fp.filterMap fun b=>(h.get? b).map fun o=>(b,o)
theorem jm {fp:List Addr} {h:Heap} {b:Addr} {o:Obj} (hb:b∈fp) (e:h.get? b=some o):(b,o)∈Zc fp h:=List.mem_filterMap.mpr ⟨b,hb,by rw [e];rfl⟩
theorem zcG {fp:List Addr} {h:Heap} {p:Addr×Obj} (hp:p∈Zc fp h):p.1∈fp/\h.get? p.1=some p.2:=by
 obtain⟨b,hb,e⟩:=List.mem_filterMap.mp hp
 cases q:h.get? b with
 | none=>rw [q] at e;cases e
 | some o =>
  rw [q] at e
  have e':(b,o)=p:=Option.some.inj e
  subst e'
  exact⟨hb,q⟩
theorem Inv.pinned {pins:List (Addr×Obj)} {Z:St} {H:Hp} {s:Shared} {fp:List Addr} (I:Inv X pins Z H s) (hf:∀ b∈fp,Yl X pins H b) (ho:∀ b∈fp,∃ o,s.heap.get? b=some o/\∀ v,o.data≠.cell v):Inv X (pins++Zc fp s.heap) Z H s :=
 I.pins_of fun p hp=>(List.mem_append.mp hp).elim (fun z=>I.pin p (List.mem_append_right _ z)) fun z=>by
  obtain⟨hb,e⟩:=zcG z
  obtain⟨f0,f1,f2,_⟩:=hf p.1 hb
  obtain⟨o,e',d⟩:=ho p.1 hb
  rw [e] at e';cases e'
  exact⟨e,f0,f1,f2,d⟩
theorem Inv.unpinned {pins pl:List (Addr×Obj)} {Z:St} {H:Hp} {s:Shared} (I:Inv X (pins++pl) Z H s):Inv X pins Z H s:=I.pins_of fun p hp=>I.pin p (List.mem_append_right _ (List.mem_append_left _ hp))
theorem wG {iter:Expr} {body:List Stmt} {wi:TI} {g:TG} {tb:TS} {pos:Pos} (hp:PassesOwn (model X.prog X.w) X.A X.env X.xe) (hc:X.calm=true) (hi:PI X tg iter wi) (hg:PG X tg g) (hb:PSs X body tb)
  (hs:∀ x,foldedSetIterable iter X.env x=pure x:=by intro _;rfl):PS X (.For tg iter body [] pos) (zg4 wi g tb):=by
 intro pins s Z H D I h
 refine wpAny_For (thn (hi pins s Z H _ I h) fun v s1 h1=>thn h1 fun itv s2 h2=>?_) hs
 obtain⟨it,fp,tn,J,H2,e,I2,T,st2,f2,W,⟨m0,w0⟩,turn⟩:=h2
 subst e
 have stat:∀ {H':Hp},(∀ b∈fp,H' b=none)->∀ b∈fp,Yl X pins H' b:=fun hn b hb=>⟨hn b hb,(f2 b hb).2⟩
 refine codeAny_forLoop_any (fun n s'=>∃ i σ' H',Inv X pins σ' H' s'/\tn i s'.heap/\(∀ b∈fp,H' b=none)/\W i n σ' H') ?_ m0 ⟨0,Z,H2,I2,st2,fun b hb=>(f2 b hb).1,w0⟩
 rintro n s3 ⟨i,σ3,H3,I3,st3,fr3,w3⟩
 rcases turn i n σ3 H3 w3 with ⟨stop,qn⟩ | ⟨go,N,hN,step⟩
 ·refine wpAny_passesOwn hp (thn (T.done X rfl rfl rfl hc i pins s3 σ3 H3 X.xe I3 (stat fr3) st3 stop) fun r s4 ⟨hr,I4⟩=>?_)
  subst hr
  exact wpAny_execs_nil ⟨σ3,H3,I4,qn⟩
 ·refine wpAny_passesOwn hp (thn (T.item X rfl rfl rfl hc i pins s3 σ3 H3 X.xe I3 (stat fr3) st3 go) fun r s4 ⟨u,hr,h4⟩=>?_)
  subst hr
  refine wpAny_passesOwn hp (thn h4 fun _ s5 ⟨x,H5,I5,r5,y5,st5,fr5⟩=>?_)
  have I5':=I5.pinned (stat fr5) (T.obj _ _ st5)
  refine wpAny_passesOwn hp (thn (hg _ s5 σ3 H5 x u _ I5' r5 (step x H5 y5)) fun _ s6 ⟨σ6,H6,I6,q6⟩=>?_)
  refine wpAny_passesOwn hp (thn (hb _ s6 σ6 H6 _ I6 q6) fun f s7 q7=>?_)
  have again:∀ {σ7:St} {H7:Hp},Inv X (pins++Zc fp s5.heap) σ7 H7 s7->N σ7 H7->∃ m,m<n/\∃ i σ' H',Inv X pins σ' H' s7/\tn i s7.heap/\(∀ b∈fp,H' b=none)/\W i m σ' H':=fun {σ7 H7} I7 n7=>by
   obtain⟨m',hm,w7⟩:=hN σ7 H7 n7
   refine⟨m',hm,i+1,σ7,H7,I7.unpinned,T.keep _ _ _ st5 fun b hb o e=>(I7.pin (b,o) (List.mem_append_right _ (List.mem_append_right _ (jm hb e)))).1,fun b hb=>?_,w7⟩
   obtain⟨o,e,d⟩:=T.obj _ _ st5 b hb
   exact (I7.pin (b,o) (List.mem_append_right _ (List.mem_append_right _ (jm hb e)))).2.1
  cases f with
  | next=>obtain⟨σ7,H7,I7,n7⟩:=q7;exact again I7 n7
  | cont=>obtain⟨σ7,H7,I7,n7⟩:=q7;exact again I7 n7
  | brk=>obtain⟨σ7,H7,I7,q7⟩:=q7;exact⟨σ7,H7,I7.unpinned,q7⟩
  | ret v=>obtain⟨x7,σ7,H7,I7,r7,q7⟩:=q7;exact⟨x7,σ7,H7,I7.unpinned,r7,q7⟩
end
theorem Vv {K:W.Frag} {a:Addr} {xs:List V} {g:TG} {tb:TS} {D:Ends} {Z:St} {H:Hp} (Pv:Nat->St->Hp->Prop) (h0:Pv 0 Z H) (hl:∀ i Z H,i<=xs.length->Pv i Z H->SqL K H a xs)
  (hs:∀ i x Z H,xs[i]?=some x->Pv i Z H->g x Z H fun σ2 H2=>tb { D with nx:=Pv (i+1),ct:=Pv (i+1),bk:=D.nx } σ2 H2) (hd:∀ Z H,Pv xs.length Z H->D.nx Z H) :
  ∃ W:Nat->Nat->St->Hp->Prop,(∃ m,W 0 m Z H)/\∀ i m Z H,W i m Z H ->
   ((Itl K a).stop i H/\D.nx Z H)\/((Itl K a).go i H/\∃ N:St->Hp->Prop,(∀ σ' H',N σ' H'->∃ m',m'<m/\W (i+1) m' σ' H')/\∀ x H',(Itl K a).yld i H x H'->g x Z H' fun σ2 H2=>tb { D with nx:=N,ct:=N,bk:=D.nx } σ2 H2):=by
 refine⟨fun i m Z H=>m=xs.length-i/\i<=xs.length/\Pv i Z H,⟨xs.length,by simp,Nat.zero_le _,h0⟩,?_⟩
 rintro i m Z H ⟨rfl,hi,p⟩
 have q:=hl i Z H hi p
 by_cases hlt:i<xs.length
 ·refine .inr ⟨⟨xs,xs[i],q,by simp [hlt]⟩,Pv (i+1),fun σ' H' p'=>⟨xs.length-(i+1),by omega,rfl,hlt,p'⟩,fun x H' y=>?_⟩
  obtain⟨e,y⟩:=y
  subst e
  exact hs i x Z _ (y xs q) p
 ·have e:i=xs.length:=by omega
  subst e
  exact .inl ⟨⟨xs,q,Nat.le_refl _⟩,hd Z H p⟩
theorem yS {lo:Int} {n:Nat} {g:TG} {tb:TS} {D:Ends} {Z:St} {H:Hp} (Pv:Nat->St->Hp->Prop) (h0:Pv 0 Z H)
  (hs:∀ i Z H,i<n->Pv i Z H->g (.int (lo+i)) Z H fun σ2 H2=>tb { D with nx:=Pv (i+1),ct:=Pv (i+1),bk:=D.nx } σ2 H2) (hd:∀ Z H,Pv n Z H->D.nx Z H) :
  ∃ W:Nat->Nat->St->Hp->Prop,(∃ m,W 0 m Z H)/\∀ i m Z H,W i m Z H ->
   ((Itr lo n).stop i H/\D.nx Z H)\/((Itr lo n).go i H/\∃ N:St->Hp->Prop,(∀ σ' H',N σ' H'->∃ m',m'<m/\W (i+1) m' σ' H')/\∀ x H',(Itr lo n).yld i H x H'->g x Z H' fun σ2 H2=>tb { D with nx:=N,ct:=N,bk:=D.nx } σ2 H2):=by
 refine⟨fun i m Z H=>m=n-i/\i<=n/\Pv i Z H,⟨n,by simp,Nat.zero_le _,h0⟩,?_⟩
 rintro i m Z H ⟨rfl,hi,p⟩
 by_cases hlt:i<n
 ·refine .inr ⟨hlt,Pv (i+1),fun σ' H' p'=>⟨n-(i+1),by omega,rfl,hlt,p'⟩,fun x H' y=>?_⟩
  obtain⟨e,y⟩:=y
  subst e y
  exact hs i Z _ hlt p
 ·have e:i=n:=by omega
  subst e
  exact .inl ⟨Nat.le_refl _,hd Z H p⟩
theorem Ys {c:TT} {tb:TS} {D:Ends} {Z:St} {H:Hp} (Pv:St->Hp->Prop) (μ:St->Hp->Nat) (h0:Pv Z H)
  (hs:∀ Z H,Pv Z H->c Z H fun b H1=>if b=true then tb { D with nx:=fun σ' H'=>Pv σ' H'/\μ σ' H'<μ Z H,ct:=fun σ' H'=>Pv σ' H'/\μ σ' H'<μ Z H,bk:=D.nx } Z H1 else D.nx Z H1)
  (mono:∀ Z H Q Q',(∀ b H1,Q b H1->Q' b H1)->c Z H Q->c Z H Q'):zdn c tb D Z H:=by
 refine⟨fun m Z H=>m=μ Z H/\Pv Z H,⟨_,rfl,h0⟩,?_⟩
 rintro m Z H ⟨rfl,p⟩
 refine mono Z H _ _ (fun b H1 q=>?_) (hs Z H p)
 cases b with
 | true=>exact⟨_,fun σ' H' ⟨p',l⟩=>⟨_,l,rfl,p'⟩,q⟩
 | false=>exact q
abbrev R2:=V->V->Hp->VK->Prop
def OpR (X:Cx) (f:Value->Value->Sem Value) (r:R2):Prop :=
 ∀ (pins:List (Addr×Obj)) (s:Shared) (Z:St) (H:Hp) (x y:V) (v u:Value) (Q:VK),Inv X pins Z H s->RelV x v->RelV y u->r x y H Q ->
  wpAny (model X.prog X.w) X.A (f v u) (EP X pins Z Q) X.xe s
def UnR (X:Cx) (f:Value->Sem Value) (r:V->Hp->VK->Prop):Prop :=
 ∀ (pins:List (Addr×Obj)) (s:Shared) (Z:St) (H:Hp) (x:V) (v:Value) (Q:VK),Inv X pins Z H s->RelV x v->r x H Q ->
  wpAny (model X.prog X.w) X.A (f v) (EP X pins Z Q) X.xe s
def vB (X:Cx) (f:Value) (r:List V->Hp->VK->Prop):Prop :=
 ∀ (pins:List (Addr×Obj)) (s:Shared) (Z:St) (H:Hp) (xs:List V) (us:List Value) (Q:VK),Inv X pins Z H s->Vals xs us->r xs H Q ->
  wpAny (model X.prog X.w) X.A (call f us) (EP X pins Z Q) X.xe s
def tOp (r:R2) (ta tb:TE):TE:=fun Z H Q=>ta Z H fun x H1=>tb Z H1 fun y H2=>r x y H2 Q
def tUn (r:V->Hp->VK->Prop) (ta:TE):TE:=fun Z H Q=>ta Z H fun x H1=>r x H1 Q
def rI (C:Int->Int->Prop) (g:Int->Int->V):R2:=fun x y H Q=>∃ i j,x=.int i/\y=.int j/\C i j/\Q (g i j) H
def rI0 (g:Int->Int->V):R2:=fun x y H Q=>∃ i j,x=.int i/\y=.int j/\Q (g i j) H
def rU (g:Int->V):V->Hp->VK->Prop:=fun x H Q=>∃ i,x=.int i/\Q (g i) H
section
variable {X:Cx} {a b c:Expr} {ta tb tc:TE} {pos:Pos}
theorem zfO (ha:PE X a ta) (hb:PE X b tb) {pins:List (Addr×Obj)} {s:Shared} {Z:St} {H:Hp} {R:V->V->Hp->Prop} (I:Inv X pins Z H s)
  (h:ta Z H fun x H1=>tb Z H1 fun y H2=>R x y H2) {Q:Value->Shared->Prop} {f:Value->Value->Sem Value}
  (hf:∀ v u s2 x y H2,Inv X pins Z H2 s2->RelV x v->RelV y u->R x y H2->wpAny (model X.prog X.w) X.A (f v u) Q X.xe s2) :
  wpAny (model X.prog X.w) X.A (eval a X.env) (fun v s₁=>wpAny (model X.prog X.w) X.A (eval b X.env) (fun u s₂=>wpAny (model X.prog X.w) X.A (f v u) Q X.xe s₂) X.xe s₁) X.xe s:=by
 refine thn (ha pins s Z H _ I h) fun v s1 ⟨x,H1,I1,r1,q1⟩=>?_
 refine thn (hb pins s1 Z H1 _ I1 q1) fun u s2 ⟨y,H2,I2,r2,q2⟩=>?_
 exact hf v u s2 x y H2 I2 r1 r2 q2
theorem zy {op:Operator} {r:R2} (ho:OpR X (binaryOp op) r) (ha:PE X a ta) (hb:PE X b tb):PE X (.BinOp a op b pos) (tOp r ta tb):=by
 intro pins s Z H Q I h
 exact wpAny_BinOp (zfO ha hb I h fun v u s2 x y H2 I2 rx ry q=>ho pins s2 Z H2 x y v u Q I2 rx ry q)
theorem zee {op:UnaryOp} {r:V->Hp->VK->Prop} (ho:UnR X (unaryOp op) r) (ha:PE X a ta):PE X (.UnaryOp op a pos) (tUn r ta):=by
 intro pins s Z H Q I h
 exact UnaryOp_ (thn (ha pins s Z H _ I h) fun v s1 ⟨x,H1,I1,r1,q1⟩=>ho pins s1 Z H1 x v Q I1 r1 q1)
theorem opI {f:Value->Value->Sem Value} {C:Int->Int->Prop} {g:Int->Int->Int}
  (rule:∀ (i j:Int) (t u:Tok) (s:Shared) (Q:Value->Shared->Prop) (E:Value->Shared->Prop),C i j->Q (.int (g i j) s.toks) { s with toks:=s.toks+1 }->wpAny (model X.prog X.w) X.A (f (.int i t) (.int j u)) Q E s) :
  OpR X f (rI C fun i j=>.int (g i j)):=by
 intro pins s Z H x y v u Q I rx ry h
 obtain⟨i,j,rfl,rfl,hc,q⟩:=h
 obtain⟨t,rfl⟩:=rx
 obtain⟨t',rfl⟩:=ry
 exact rule i j t t' s _ _ hc ⟨.int (g i j),H,I.tok _,⟨_,rfl⟩,q⟩
theorem zgP {f:Value->Value->Sem Value} {g:Int->Int->Int}
  (rule:∀ (i j:Int) (t u:Tok) (s:Shared) (Q:Value->Shared->Prop) (E:Value->Shared->Prop),Q (.int (g i j) s.toks) { s with toks:=s.toks+1 }->wpAny (model X.prog X.w) X.A (f (.int i t) (.int j u)) Q E s) :
  OpR X f (rI0 fun i j=>.int (g i j)):=by
 intro pins s Z H x y v u Q I rx ry h
 obtain⟨i,j,rfl,rfl,q⟩:=h
 obtain⟨t,rfl⟩:=rx
 obtain⟨t',rfl⟩:=ry
 exact rule i j t t' s _ _ ⟨.int (g i j),H,I.tok _,⟨_,rfl⟩,q⟩
theorem zeo {f:Value->Value->Sem Value} {g:Int->Int->Bool}
  (rule:∀ (i j:Int) (t u:Tok) (s:Shared) (Q:Value->Shared->Prop) (E:Value->Shared->Prop),Q (.bool (g i j)) s->wpAny (model X.prog X.w) X.A (f (.int i t) (.int j u)) Q E s) :
  OpR X f (rI0 fun i j=>.bl (g i j)):=by
 intro pins s Z H x y v u Q I rx ry h
 obtain⟨i,j,rfl,rfl,q⟩:=h
 obtain⟨t,rfl⟩:=rx
 obtain⟨t',rfl⟩:=ry
 exact rule i j t t' s _ _ ⟨.bl (g i j),H,I,rfl,q⟩
def zgX (i j:Int):Prop:=0<=j/\j<=1000000/\i.natAbs<2^64
def CMul (i j:Int):Prop:=(-(2^64)<i/\i<2^64)\/(-(2^64)<j/\j<2^64)
theorem CMul.ok {i j:Int} (h:CMul i j):IntMulOk i j:=by
 rcases h with ⟨h1,h2⟩ | ⟨h1,h2⟩
 ·exact .of_left (intBits_le_64 h1 h2)
 ·exact .of_right (intBits_le_64 h1 h2)
theorem yF:OpR X (binaryOp .Add) (rI0 fun i j=>.int (i+j)):=zgP fun _ _ _ _ _ _ _ q=>add_int q
theorem wH:OpR X (binaryOp .Sub) (rI0 fun i j=>.int (i-j)):=zgP fun _ _ _ _ _ _ _ q=>sub_int q
theorem uZ:OpR X (binaryOp .Mult) (rI CMul fun i j=>.int (i*j)):=opI fun _ _ _ _ _ _ _ hc q=>mul_int q hc.ok
theorem yt:OpR X (binaryOp .Mod) (rI (fun _ j=>0<j) fun i j=>.int (i % j)):=opI fun i j _ _ _ _ _ hc q=>by
 have h1:(0:Int)<j:=hc
 exact mod_int' (by omega) (by rw [Int.fmod_eq_emod_of_nonneg i (by omega)];exact q)
theorem QW:OpR X (binaryOp .Pow) (rI zgX fun i j=>.int (i^j.toNat)):=opI fun _ _ _ _ _ _ _ hc q=>pow_int_small hc.1 hc.2.1 hc.2.2 q
theorem unI {f:Value->Sem Value} {g:Int->Int}
  (rule:∀ (i:Int) (t:Tok) (s:Shared) (Q:Value->Shared->Prop) (E:Value->Shared->Prop),Q (.int (g i) s.toks) { s with toks:=s.toks+1 }->wpAny (model X.prog X.w) X.A (f (.int i t)) Q E s) :
  UnR X f (rU fun i=>.int (g i)):=by
 intro pins s Z H x v Q I rx h
 obtain⟨i,rfl,q⟩:=h
 obtain⟨t,rfl⟩:=rx
 exact rule i t s _ _ ⟨.int (g i),H,I.tok _,⟨_,rfl⟩,q⟩
theorem zaT:UnR X (unaryOp .USub) (rU fun i=>.int (-i)):=unI fun _ _ _ _ _ q=>neg_int q
end
def zgB:V->V->Bool
 | .non,.non=>true | .non,.int _=>true | .int _,.non=>true | .non,.bl _=>true | .bl _,.non=>true | .non,.str _=>true | .str _,.non=>true
 | .int _,.int _=>true | .bl _,.bl _=>true | .str _,.str _=>true | .byt _,.byt _=>true
 | .int _,.str _=>true | .str _,.int _=>true | .bl _,.str _=>true | .str _,.bl _=>true
 | _,_=>false
def rEq:R2:=fun x y H Q=>zgB x y=true/\Q (.bl (decide (x=y))) H
def rNe:R2:=fun x y H Q=>zgB x y=true/\Q (.bl (!decide (x=y))) H
theorem zbT {i j:Int}:decide (V.int i=V.int j)=(i == j):=by
 rw [Bool.eq_iff_iff]
 simp
theorem zcZ {i j:Bool}:decide (V.bl i=V.bl j)=(i == j):=by
 rw [Bool.eq_iff_iff]
 simp
theorem zbU {i j:Str}:decide (V.str i=V.str j)=(i == j):=by
 rw [Bool.eq_iff_iff]
 simp
theorem zbN {i j:Array UInt8}:decide (V.byt i=V.byt j)=(i.toList == j.toList):=by
 rw [Bool.eq_iff_iff]
 cases i
 cases j
 simp
section
variable {X:Cx} {a b c:Expr} {ta tb tc:TE} {pos:Pos}
theorem ym {pins:List (Addr×Obj)} {Z:St} {H:Hp} {s:Shared} {Q:VK} {k k':Bool} (I:Inv X pins Z H s) (q:Q (.bl k) H) (e:k=k'):EP X pins Z Q (.bool k') s:=by
 subst e
 exact⟨.bl k,H,I,rfl,q⟩
theorem Ze:OpR X (compareOp .Eq) rEq:=by
 intro pins s Z H x y v u Q I rx ry h
 obtain⟨hs,q⟩:=h
 cases x with
 | non =>
  cases rx
  cases y with
  | non=>cases ry;exact PySem.EqNone.eq_none_none (ym I q (by simp))
  | bl j=>cases ry;exact PySem.EqNone.eq_none_bool (ym I q (by simp))
  | int j=>obtain⟨t',rfl⟩:=ry;exact PySem.EqNone.eq_none_int (ym I q (by simp))
  | str j=>obtain⟨t',rfl⟩:=ry;exact PySem.EqNone.eq_none_str (ym I q (by simp))
  | _=>exact absurd (show false=true from hs) Bool.false_ne_true
 | bl i =>
  cases rx
  cases y with
  | non=>cases ry;exact PySem.EqNone.eq_bool_none (ym I q (by simp))
  | bl j=>cases ry;exact eq_bool (ym I q zcZ)
  | str j=>obtain⟨t',rfl⟩:=ry;exact PySem.EqMixed.eq_bool_str (ym I q (by simp))
  | _=>exact absurd (show false=true from hs) Bool.false_ne_true
 | int i =>
  obtain⟨t,rfl⟩:=rx
  cases y with
  | non=>cases ry;exact PySem.EqNone.eq_int_none (ym I q (by simp))
  | int j=>obtain⟨t',rfl⟩:=ry;exact eq_int (ym I q zbT)
  | str j=>obtain⟨t',rfl⟩:=ry;exact PySem.EqMixed.eq_int_str (ym I q (by simp))
  | _=>exact absurd (show false=true from hs) Bool.false_ne_true
 | str i =>
  obtain⟨t,rfl⟩:=rx
  cases y with
  | non=>cases ry;exact PySem.EqNone.eq_str_none (ym I q (by simp))
  | bl j=>cases ry;exact PySem.EqMixed.eq_str_bool (ym I q (by simp))
  | int j=>obtain⟨t',rfl⟩:=ry;exact PySem.EqMixed.eq_str_int (ym I q (by simp))
  | str j=>obtain⟨t',rfl⟩:=ry;exact eq_str (ym I q zbU)
  | _=>exact absurd (show false=true from hs) Bool.false_ne_true
 | byt i =>
  obtain⟨t,rfl⟩:=rx
  cases y with
  | byt j=>obtain⟨t',rfl⟩:=ry;exact W.eq_bytes (ym I q zbN)
  | _=>exact absurd (show false=true from hs) Bool.false_ne_true
 | _=>cases y<;>exact absurd (show false=true from hs) Bool.false_ne_true
theorem zdG:OpR X (compareOp .NotEq) rNe:=by
 intro pins s Z H x y v u Q I rx ry h
 obtain⟨hs,q⟩:=h
 cases x with
 | non =>
  cases rx
  cases y with
  | non=>cases ry;exact PySem.EqNone.ne_none_none (ym I q (by simp))
  | bl j=>cases ry;exact PySem.EqNone.ne_none_bool (ym I q (by simp))
  | int j=>obtain⟨t',rfl⟩:=ry;exact PySem.EqNone.ne_none_int (ym I q (by simp))
  | str j=>obtain⟨t',rfl⟩:=ry;exact PySem.EqNone.ne_none_str (ym I q (by simp))
  | _=>exact absurd (show false=true from hs) Bool.false_ne_true
 | bl i =>
  cases rx
  cases y with
  | non=>cases ry;exact PySem.EqNone.ne_bool_none (ym I q (by simp))
  | bl j=>cases ry;exact ne_bool (ym I q (congrArg not zcZ))
  | str j=>obtain⟨t',rfl⟩:=ry;exact PySem.EqMixed.ne_bool_str (ym I q (by simp))
  | _=>exact absurd (show false=true from hs) Bool.false_ne_true
 | int i =>
  obtain⟨t,rfl⟩:=rx
  cases y with
  | non=>cases ry;exact PySem.EqNone.ne_int_none (ym I q (by simp))
  | int j=>obtain⟨t',rfl⟩:=ry;exact ne_int (ym I q (congrArg not zbT))
  | str j=>obtain⟨t',rfl⟩:=ry;exact PySem.EqMixed.ne_int_str (ym I q (by simp))
  | _=>exact absurd (show false=true from hs) Bool.false_ne_true
 | str i =>
  obtain⟨t,rfl⟩:=rx
  cases y with
  | non=>cases ry;exact PySem.EqNone.ne_str_none (ym I q (by simp))
  | bl j=>cases ry;exact PySem.EqMixed.ne_str_bool (ym I q (by simp))
  | int j=>obtain⟨t',rfl⟩:=ry;exact PySem.EqMixed.ne_str_int (ym I q (by simp))
  | str j=>obtain⟨t',rfl⟩:=ry;exact ne_str (ym I q (congrArg not zbU))
  | _=>exact absurd (show false=true from hs) Bool.false_ne_true
 | byt i =>
  obtain⟨t,rfl⟩:=rx
  cases y with
  | byt j=>obtain⟨t',rfl⟩:=ry;exact W.ne_bytes (ym I q (congrArg not zbN))
  | _=>exact absurd (show false=true from hs) Bool.false_ne_true
 | _=>cases y<;>exact absurd (show false=true from hs) Bool.false_ne_true
theorem QS:OpR X (compareOp .Lt) (rI0 fun i j=>.bl (decide (i<j))):=zeo fun _ _ _ _ _ _ _ q=>lt_int q
theorem XR:OpR X (compareOp .LtE) (rI0 fun i j=>.bl (decide (i<=j))):=zeo fun _ _ _ _ _ _ _ q=>le_int q
theorem Qz:OpR X (compareOp .Gt) (rI0 fun i j=>.bl (decide (j<i))):=zeo fun _ _ _ _ _ _ _ q=>gt_int q
theorem zdp:OpR X (compareOp .GtE) (rI0 fun i j=>.bl (decide (j<=i))):=zeo fun _ _ _ _ _ _ _ q=>ge_int q
theorem Z4:OpR X (compareOp .Is) (fun x y H Q=>y=.non/\Q (.bl (decide (x=.non))) H):=by
 intro pins s Z H x y v u Q I rx ry h
 obtain⟨rfl,q⟩:=h
 cases ry
 refine is_none_gen (ym I q ?_)
 cases x<;>first
  | (cases rx;rfl)
  | (obtain⟨t,rfl⟩:=rx;rfl)
theorem X3:OpR X (compareOp .IsNot) (fun x y H Q=>y=.non/\Q (.bl (!decide (x=.non))) H):=by
 intro pins s Z H x y v u Q I rx ry h
 obtain⟨rfl,q⟩:=h
 cases ry
 refine isnot_none_gen (ym I q ?_)
 cases x<;>first
  | (cases rx;rfl)
  | (obtain⟨t,rfl⟩:=rx;rfl)
theorem zL (b:Expr) {op:CmpOp} (h:op≠.In:=by decide) (h2:op≠.NotIn:=by decide):behindInMarks op b=false:=by
 have e1:(op == CmpOp.In)=false:=by cases op<;>first | rfl | exact absurd rfl h
 have e2:(op == CmpOp.NotIn)=false:=by cases op<;>first | rfl | exact absurd rfl h2
 cases b<;>simp [behindInMarks,e1,e2]
theorem xx {op:CmpOp} {r:R2} (ho:OpR X (compareOp op) r) (ha:PE X a ta) (hb:PE X b tb) (hm:behindInMarks op b=false):PE X (.Compare a [op] [b] pos) (tOp r ta tb):=by
 intro pins s Z H Q I h
 exact wpAny_Compare1 (zfO ha hb I h fun v u s2 x y H2 I2 rx ry q=>ho pins s2 Z H2 x y v u Q I2 rx ry q) hm
def zff (t:TE):TT:=fun Z H Q=>t Z H fun x H'=>∃ k,x=.bl k/\Q k H'
theorem zN {op:CmpOp} {r:R2} (ho:OpR X (compareOp op) r) (ha:PE X a ta) (hb:PE X b tb) (hm:behindInMarks op b=false):PT X (.Compare a [op] [b] pos) (zff (tOp r ta tb)):=by
 intro pins s Z H Q I h
 refine wpAny_isTrue_Compare1 (thn (ha pins s Z H _ I h) fun v s1 ⟨x,H1,I1,r1,q1⟩=>thn (hb pins s1 Z H1 _ I1 q1) fun u s2 ⟨y,H2,I2,r2,q2⟩ =>
  thn (ho pins s2 Z H2 x y v u _ I2 r1 r2 q2) fun c s3 ⟨z,H3,I3,r3,k,e,q3⟩=>?_) hm
 subst e
 cases r3
 exact wpAny_truthy_bool ⟨H3,I3,q3⟩
def zd5 (r r':R2) (ta tb tc:TE):TE:=fun Z H Q=>ta Z H fun x H1=>tb Z H1 fun y H2=>r x y H2 fun z H3=>∃ k,z=.bl k /\
 (if k=true then tc Z H3 fun w' H4=>r' y w' H4 Q else Q (.bl false) H3)
theorem Ud {op op':CmpOp} {r r':R2} (ho:OpR X (compareOp op) r) (ho':OpR X (compareOp op') r') (ha:PE X a ta) (hb:PE X b tb) (hc:PE X c tc)
  (hm:lastMarks [op,op'] [b,c]=false:=by with_unfolding_all rfl):PE X (.Compare a [op,op'] [b,c] pos) (zd5 r r' ta tb tc):=by
 intro pins s Z H Q I h
 refine Compare_chain (thn (ha pins s Z H _ I h) fun v s1 ⟨x,H1,I1,r1,q1⟩=>chain_link (thn (hb pins s1 Z H1 _ I1 q1) fun u s2 ⟨y,H2,I2,r2,q2⟩ =>
  thn (ho pins s2 Z H2 x y v u _ I2 r1 r2 q2) fun d s3 ⟨z,H3,I3,r3,k,e,q3⟩=>?_)) hm
 subst e
 cases r3
 refine wpAny_truthy_bool ?_
 cases k with
 | false=>exact ite_ff ⟨.bl false,H3,I3,rfl,q3⟩
 | true=>exact ite_tt (chain_last (thn (hc pins s3 Z H3 _ I3 q3) fun w' s4 ⟨z',H4,I4,r4,q4⟩=>ho' pins s4 Z H4 y z' u w' Q I4 r2 r4 q4))
theorem zaJ {op op':CmpOp} {r r':R2} (ho:OpR X (compareOp op) r) (ho':OpR X (compareOp op') r') (ha:PE X a ta) (hb:PE X b tb) (hc:PE X c tc)
  (hm:lastMarks [op,op'] [b,c]=false:=by with_unfolding_all rfl):PT X (.Compare a [op,op'] [b,c] pos) (zff (zd5 r r' ta tb tc)):=by
 intro pins s Z H Q I h
 refine isTrue_chain (thn (ha pins s Z H _ I h) fun v s1 ⟨x,H1,I1,r1,q1⟩=>test_link (thn (hb pins s1 Z H1 _ I1 q1) fun u s2 ⟨y,H2,I2,r2,q2⟩ =>
  thn (ho pins s2 Z H2 x y v u _ I2 r1 r2 q2) fun d s3 ⟨z,H3,I3,r3,k,e,q3⟩=>?_)) hm
 subst e
 cases r3
 refine wpAny_truthy_bool ?_
 cases k with
 | false =>
  obtain⟨k',e',q'⟩:=q3
  cases e'
  exact ite_ff ⟨H3,I3,q'⟩
 | true =>
  refine ite_tt (test_last (thn (hc pins s3 Z H3 _ I3 q3) fun w' s4 ⟨z',H4,I4,r4,q4⟩=>thn (ho' pins s4 Z H4 y z' u w' _ I4 r2 r4 q4) fun d' s5 ⟨z2,H5,I5,r5,k2,e2,q5⟩=>?_))
  subst e2
  cases r5
  exact wpAny_truthy_bool ⟨H5,I5,q5⟩
theorem Jo:(sizeLine:Nat)<2^63:=by rw [sizeLine_eq];decide
theorem vals1 {x:V} {us:List Value} (r:Vals [x] us):∃ u,us=[u]/\RelV x u:=by
 cases r with
 | cons r1 r2=>cases r2;exact⟨_,rfl,r1⟩
theorem vals2 {x y:V} {us:List Value} (r:Vals [x,y] us):∃ u w',us=[u,w']/\RelV x u/\RelV y w':=by
 cases r with
 | cons r1 r2 =>
  cases r2 with
  | cons r3 r4=>cases r4;exact⟨_,_,rfl,r1,r3⟩
theorem zdT:vB X (.builtin "abs") (fun xs H Q=>∃ i,xs=[.int i]/\Q (.int (if i<0 then -i else i)) H):=by
 intro pins s Z H xs us Q I r h
 obtain⟨i,rfl,q⟩:=h
 obtain⟨u,rfl,t,rfl⟩:=vals1 r
 exact call_abs_int fun u tk=>⟨.int (if i<0 then -i else i),H,I.tok _,⟨_,rfl⟩,q⟩
theorem zcr (hc:X.calm=true):vB X (.builtin "max") (fun xs H Q=>∃ i j,xs=[.int i,.int j]/\Q (.int (if j>i then j else i)) H):=by
 intro pins s Z H xs us Q I r h
 obtain⟨i,j,rfl,q⟩:=h
 obtain⟨u,w',rfl,⟨t,rfl⟩,⟨t',rfl⟩⟩:=vals2 r
 refine max_two_ints (I.ok.hd hc) fun h' tk k=>⟨_,H,I.kept k,?_,q⟩
 by_cases hj:j>i
 ·rw [if_pos hj,if_pos hj];exact⟨_,rfl⟩
 ·rw [if_neg hj,if_neg hj];exact⟨_,rfl⟩
theorem Qy (hc:X.calm=true):vB X (.builtin "min") (fun xs H Q=>∃ i j,xs=[.int i,.int j]/\Q (.int (if j<i then j else i)) H):=by
 intro pins s Z H xs us Q I r h
 obtain⟨i,j,rfl,q⟩:=h
 obtain⟨u,w',rfl,⟨t,rfl⟩,⟨t',rfl⟩⟩:=vals2 r
 refine min_two_ints (I.ok.hd hc) fun h' tk k=>⟨_,H,I.kept k,?_,q⟩
 by_cases hj:j<i
 ·rw [if_pos hj,if_pos hj];exact⟨_,rfl⟩
 ·rw [if_neg hj,if_neg hj];exact⟨_,rfl⟩
theorem Wt:vB X (.type "int") (fun xs H Q=>(∃ i,xs=[.int i]/\Q (.int i) H)\/∃ k,xs=[.bl k]/\Q (.int (if k then 1 else 0)) H):=by
 intro pins s Z H xs us Q I r h
 rcases h with ⟨i,rfl,q⟩ | ⟨k,rfl,q⟩
 ·obtain⟨u,rfl,t,rfl⟩:=vals1 r
  exact call_int_int ⟨.int i,H,I,⟨_,rfl⟩,q⟩
 ·obtain⟨u,rfl,r1⟩:=vals1 r
  cases r1
  exact call_int_bool ⟨.int (if k then 1 else 0),H,I.tok _,⟨_,rfl⟩,q⟩
end
structure ObjM (h:Heap) (x dx C:Addr) (mA:Str->Option Value):Prop where
 obj:h.get? x=some (W.instObj C dx)
 ns:h.Ns1 dx mA
 ne:dx≠x
theorem zb8 {h:Heap} {dx:Addr} {mA:Str->Option Value} (n:h.Ns1 dx mA):∃ od,h.get? dx=some od/\∀ name,W.lookIn name od=some (mA name):=by
 obtain⟨o,es,ep,ho,hd,hk,_,hm⟩:=n
 refine⟨o,ho,fun name=>?_⟩
 have e:=hm name
 unfold nsFind findBy at e
 rw [<- Array.find?_toList] at e
 unfold W.lookIn
 rw [hd]
 dsimp only
 split
 ·rename_i y q
  rw [q] at e
  exact congrArg some e
 ·rename_i q
  rw [q] at e
  have a:es.toList.any (·.refKey)=false:=by
   rw [List.any_eq_false]
   intro y hy
   obtain⟨z,t,hkey⟩:=hk y (Array.mem_toList_iff.mp hy)
   simp [DictEntry.refKey,hkey]
  have a':¬ es.toList.any (·.refKey)=true:=by rw [a];exact Bool.false_ne_true
  rw [if_neg a']
  exact congrArg some e
theorem ObjM.look {h:Heap} {x dx C:Addr} {mA:Str->Option Value} (I:ObjM h x dx C mA):∃ od,W.InstAt h x (W.instObj C dx) C (some od)/\∀ name,W.lookIn name od=some (mA name) :=
 let ⟨od,ho,hl⟩:=zb8 I.ns
 ⟨od,⟨I.obj,rfl,rfl,ho⟩,hl⟩
section
variable {prog:Program} {w:World} {A:Around} {E:Value->Shared->Prop} {s:Shared} {K:W.Frag} {x dx C f:Addr} {mA:Str->Option Value} {name:Str} {v:Value}
theorem zeD {expr:Bool} {Q:Value->Shared->Prop} (X:K.In s.heap) (I:ObjM s.heap x dx C mA) (hg:W.plainGet K C name=true) (hh:W.hasDictIn K C=true)
  (ha:W.findIn K (.ref C) name=some none) (hv:mA name=some v) (hv':W.handedIn v=true) (h:Q v { s with toks:=s.toks+1 }) :
  wpAny (model prog w) A (getAttr (.ref x) name expr) Q E s:=by
 obtain⟨od,J,hl⟩:=I.look
 exact W.get_value X J (W.plainGet_of hg).1 (W.findObj_own hh ha rfl (by rw [hl,hv])) hv' h
theorem zc0 {pl:Sem Bool} {Q:Value×List Value->Shared->Prop} (X:K.In s.heap) (I:ObjM s.heap x dx C mA) (hg:W.plainGet K C name=true)
  (hf:W.findIn K (.ref C) name=some (some (.ref f))) (ht:W.isFn K (.ref f)=true) (hv:mA name=none) (h:Q (.ref f,[.ref x]) s) :
  wpAny (model prog w) A (getMethod (.ref x) name pl) Q E s:=by
 obtain⟨od,J,hl⟩:=I.look
 exact W.method_fn X J (W.plainGet_of hg).1 (W.plainGet_of hg).2 hf (beq_iff_eq.mp ht) (by show (W.lookIn name od).map (·.isSome)=some false;rw [hl,hv];rfl) h
theorem zeq {ns:List Str} {Q:Unit->Shared->Prop} (X:K.In s.heap) (I:ObjM s.heap x dx C mA)
  (hs:W.findIn K (.ref C) "__setattr__" = some (some (.builtin "object.__setattr__"))) (hp:W.plainOver K C=true) (ht:W.takerIn K C name=some none) (hh:W.hasDictIn K C=true)
  (hw:PySem.Within mA ns) (hsz:ns.length<=sizeLine)
  (h:∀ h',ObjM h' x dx C (fun y=>if y=name then some v else mA y)->Heap.SameBut dx s.heap h'->Q () { s with heap:=h',toks:=s.toks+2 }) :
  wpAny (model prog w) A (setAttr (.ref x) name v) Q E s:=by
 obtain⟨od,J,hl⟩:=I.look
 refine W.set_plain X J hs (W.osa_open (s:={ s with toks:=s.toks+1 }) (r:=none) X J hp ht fun b=>?_)
 obtain⟨cd,hc,hd'⟩:=W.any_some hh
 have hx:s.heap.get? x=some ⟨.ref C,some dx,.plain,#[]⟩:=I.obj
 refine wpAny_bind (wpAny_pure (wpAny_bind (wpAny_bind (wpAny_loadPart hx (wpAny_bind (W.Looks.here (s:={ s with toks:=s.toks+1 }) (W.looks_clsIn X hc) ?_))))))
 rw [hd']
 refine wpAny_pure (a:=some dx) (wpAny_bind (wpAny_pure (wpAny_bind ?_)))
 refine wpAny_nsSet1 (s:={ s with toks:=s.toks+1 }) I.ns fun h' hn2 hs2=>?_
 obtain⟨oD,esD,epD,hoD,hdD,hcD⟩:=hn2.count (PySem.Within.cons name v hw)
 refine wpAny_bind (wpAny_lookBehind hoD (by rw [hdD];exact pastItsLine_dict (Nat.le_trans hcD (by rw [List.length_cons];omega))) ?_)
 exact wpAny_pure (h _ ⟨(hs2.2 _ (Ne.symm I.ne)).trans I.obj,hn2,I.ne⟩ hs2)
theorem zd9 {R:Result->Shared->Prop} {vs:List Value} {kw:List (Str×Value)} (X:K.In s.heap) (hm:W.makesIn K C=true)
  (hi:W.findIn K (.ref C) "__init__" = some (some (.ref f))) (hf:W.typeIn K (.ref f)=some (.type "function"))
  (h:codeAny (model prog w) (A.under (.builtin "type.__call__" ⟨.ref C :: vs,kw⟩)) (.call (.ref f) ⟨.ref (s.heap.objs.size+1) :: vs,kw⟩) (W.InitBack (s.heap.objs.size+1) R)
   { s with heap:=(s.heap.push W.emptyDict).push (W.instObj C s.heap.objs.size) }) :
  codeAny (model prog w) A (.call (.ref C) ⟨vs,kw⟩) R s:=by
 obtain⟨hh,g,d,t,os⟩:=s
 exact W.make_core (W.makes_of X hm) (W.looks_findIn X hi) (fun self=>W.bind_fn X self hf) (.inl rfl) h
end
def wB (f:Str) (v:V):List (Str×V)->List (Str×V)
 | []=>[(f,v)]
 | (g,x) :: r=>if g=f then (g,v) :: r else (g,x) :: wB f v r
theorem zW (f g:Str) (v:V):∀ fs:List (Str×V),(wB f v fs).lookup g=if g=f then some v else fs.lookup g
 | []=>by
  show List.lookup g [(f,v)]=_
  by_cases h:g=f
  ·have hb:(g == f)=true:=beq_iff_eq.mpr h
   simp only [List.lookup,hb,if_pos h]
  ·have hb:(g == f)=false:=beq_eq_false_iff_ne.mpr h
   simp only [List.lookup,hb,if_neg h]
 | (k,x) :: r=>by
  have ih:=zW f g v r
  rw [show wB f v ((k,x) :: r)=(if k=f then (k,v) :: r else (k,x) :: wB f v r) from rfl]
  by_cases hk:k=f
  ·rw [if_pos hk]
   by_cases h:g=k
   ·have hb:(g == k)=true:=beq_iff_eq.mpr h
    simp only [List.lookup,hb,if_pos (h.trans hk)]
   ·have hb:(g == k)=false:=beq_eq_false_iff_ne.mpr h
    simp only [List.lookup,hb,if_neg (fun e:g=f=>h (e.trans hk.symm))]
  ·rw [if_neg hk]
   by_cases h:g=k
   ·have hb:(g == k)=true:=beq_iff_eq.mpr h
    simp only [List.lookup,hb,if_neg (fun e:g=f=>hk (h.symm.trans e))]
   ·have hb:(g == k)=false:=beq_eq_false_iff_ne.mpr h
    simp only [List.lookup,hb]
    exact ih
theorem Wu (f:Str) (v:V):∀ fs:List (Str×V),f∈(wB f v fs).map (·.1)/\∀ g,g∈fs.map (·.1)->g∈(wB f v fs).map (·.1)
 | []=>⟨by simp [wB],fun g h=>by simp at h⟩
 | (k,x) :: r=>by
  obtain⟨i1,i2⟩:=Wu f v r
  rw [show wB f v ((k,x) :: r)=(if k=f then (k,v) :: r else (k,x) :: wB f v r) from rfl]
  by_cases hk:k=f
  ·rw [if_pos hk]
   subst hk
   exact⟨by simp,fun g h=>by simpa using h⟩
  ·rw [if_neg hk]
   refine⟨?_,fun g h=>?_⟩
   ·rw [List.map_cons]
    exact List.mem_cons_of_mem _ i1
   ·rw [List.map_cons] at h ⊢
    rcases List.mem_cons.mp h with e | e
    ·exact List.mem_cons.mpr (.inl e)
    ·exact List.mem_cons_of_mem _ (i2 g e)
theorem qC (f:Str) (v:V):∀ fs:List (Str×V),(wB f v fs).length<=fs.length+1
 | []=>by simp [wB]
 | (k,x) :: r=>by
  have ih:=qC f v r
  rw [show wB f v ((k,x) :: r)=(if k=f then (k,v) :: r else (k,x) :: wB f v r) from rfl]
  by_cases hk:k=f
  ·rw [if_pos hk,List.length_cons,List.length_cons];omega
  ·rw [if_neg hk,List.length_cons,List.length_cons];omega
theorem RelO.some_of {v:V} {o:Option Value} (r:RelO (some v) o):∃ u,o=some u/\RelV v u:=by
 cases o with
 | none=>exact (show False from r).elim
 | some u=>exact⟨u,rfl,r⟩
theorem RelO.none_of {o:Option Value} (r:RelO none o):o=none:=by
 cases o with
 | none=>rfl
 | some u=>exact (show False from r).elim
theorem zcw {v:V} {u:Value} (r:RelV v u):W.handedIn u=true:=by
 cases v with
 | non=>cases (show u=Value.none from r);rfl
 | bl b=>cases (show u=Value.bool b from r);rfl
 | int i=>obtain⟨t,e⟩:=(show ∃ t,u=Value.int i t from r);cases e;rfl
 | str x=>obtain⟨t,e⟩:=(show ∃ t,u=Value.str x t from r);cases e;rfl
 | byt b=>obtain⟨t,e⟩:=(show ∃ t,u=Value.bytes b t from r);cases e;rfl
 | flt b=>obtain⟨t,e⟩:=(show ∃ t,u=Value.float b t from r);cases e;rfl
 | ref a=>cases (show u=Value.ref a from r);rfl
 | ty n=>cases (show u=Value.type n from r);rfl
section
variable {P:Program} {w:World} {H H':Hp} {h h':Heap} {a C dx:Addr} {fs fs':List (Str×V)}
theorem Vp (hok:HOk P w H h) (e:H a=some (.ins C dx fs)):∃ mA,ObjM h a dx C mA/\(∀ f,RelO (fs.lookup f) (mA f))/\PySem.Within mA (fs.map (·.1))/\fs.length<=1000/\H dx=some (.own a):=by
 obtain⟨d,z,ne,ob,mA,n,r,q⟩:=(show ObjOk P w H h a (.ins C dx fs) from hok a _ e)
 exact⟨mA,⟨ob,n,ne⟩,r,q,z,d⟩
end
structure Cls (K:W.Frag) (C:Addr):Prop where
 pg:W.plainGet K C Str.empty=true
 hd:W.hasDictIn K C=true
 po:W.plainOver K C=true
 sa:W.findIn K (.ref C) "__setattr__" = some (some (.builtin "object.__setattr__"))
theorem Cls.get {K:W.Frag} {C:Addr} (c:Cls K C) (f:Str):W.plainGet K C f=true:=c.pg
def NoAttr (K:W.Frag) (C:Addr) (f:Str):Prop:=W.findIn K (.ref C) f=some none
theorem NoAttr.taker {K:W.Frag} {C:Addr} {f:Str} (n:NoAttr K C f):W.takerIn K C f=some none:=by
 unfold W.takerIn
 rw [show W.findIn K (.ref C) f=some none from n]
 rfl
structure Con (K:W.Frag) (C:Addr) (f:Str) (v:V) (u:Value):Prop where
 at_:W.findIn K (.ref C) f=some (some u)
 rel:RelV v u
 get:W.specialIn K u "__get__" = some none
 cp:W.copiedNames.contains f=false
structure Meth (K:W.Frag) (C:Addr) (m:Str) (f:Addr):Prop where
 at_:W.findIn K (.ref C) m=some (some (.ref f))
 fn:W.isFn K (.ref f)=true
 kp:W.keepIn K (.ref f)=true
section
variable {X:Cx} {pins:List (Addr×Obj)} {Z:St} {H:Hp} {s:Shared} {a C dx:Addr} {fs:List (Str×V)} {f:Str} {v:V} {A:Around} {E:Value->Shared->Prop}
theorem zbu {b:Bool} {Q:Value->Shared->Prop} (I:Inv X pins Z H s) (e:H a=some (.ins C dx fs)) (c:Cls X.K C) (n:NoAttr X.K C f) (l:fs.lookup f=some v)
  (h:∀ u s',Inv X pins Z H s'->RelV v u->Q u s'):wpAny (model X.prog X.w) A (getAttr (.ref a) f b) Q E s:=by
 obtain⟨mA,O,r,_,_,_⟩:=Vp I.hok e
 obtain⟨u,hu,ru⟩:=RelO.some_of (v:=v) (o:=mA f) (by rw [<- l];exact r f)
 exact zeD I.kIn O (c.get f) c.hd n hu (zcw ru) (h u _ (I.tok _) ru)
theorem VR {m:Str} {g:Addr} {pl:Sem Bool} {Q:Value×List Value->Shared->Prop} (I:Inv X pins Z H s) (e:H a=some (.ins C dx fs)) (c:Cls X.K C) (k:Meth X.K C m g) (l:fs.lookup m=none)
  (h:Q (.ref g,[.ref a]) s):wpAny (model X.prog X.w) A (getMethod (.ref a) m pl) Q E s:=by
 obtain⟨mA,O,r,_,_,_⟩:=Vp I.hok e
 have hn:mA m=none:=RelO.none_of (by rw [<- l];exact r m)
 exact zc0 I.kIn O (c.get m) k.at_ k.fn hn h
theorem za4 {y:V} {u:Value} {Q:Unit->Shared->Prop} (I:Inv X pins Z H s) (e:H a=some (.ins C dx fs)) (c:Cls X.K C) (n:NoAttr X.K C f) (hl:fs.length<1000) (ry:RelV y u)
  (h:∀ s',Inv X pins Z (upd H a (.ins C dx (wB f y fs))) s'->Q () s'):wpAny (model X.prog X.w) A (setAttr (.ref a) f u) Q E s:=by
 obtain⟨mA,O,r,wi,_,ho⟩:=Vp I.hok e
 have hz:(fs.map (·.1)).length<=sizeLine:=by rw [List.length_map,sizeLine_eq];omega
 refine zeq I.kIn O c.sa c.po n.taker c.hd wi hz fun h' O' sb=>h _ ?_
 have hd:∃ o,h'.get? dx=some o:=let ⟨o,_,_,e',_⟩:=O'.ns;⟨o,e'⟩
 refine I.write (x:=a) (e:=dx) (by rw [e];exact True.intro) (.inr ho) (fun b q hb z=>(sb.2 b hb).trans z) hd ?_
 refine⟨by rw [zx O.ne];exact ho,?_,O.ne,O'.obj,_,O'.ns,fun g=>?_,fun g hg=>?_⟩
 ·have:=qC f y fs;omega
 ·show RelO ((wB f y fs).lookup g) (if g=f then some u else mA g)
  rw [zW]
  by_cases q:g=f
  ·rw [if_pos q,if_pos q];exact ry
  ·rw [if_neg q,if_neg q];exact r g
 ·by_cases q:g=f
  ·rw [q];exact (Wu f y fs).1
  ·refine (Wu f y fs).2 g (wi g fun z=>hg ?_)
   show (if g=f then some u else mA g)=none
   rw [if_neg q];exact z
theorem Inv.made (I:Inv X pins Z H s):Inv X pins Z (upd (upd H s.heap.objs.size (.own (s.heap.objs.size+1))) (s.heap.objs.size+1) (.ins C s.heap.objs.size []))
  { s with heap:=(s.heap.push W.emptyDict).push (W.instObj C s.heap.objs.size) }:=by
 have e1:(s.heap.push W.emptyDict).get? s.heap.objs.size=some W.emptyDict:=Heap.get?_push_size s.heap rfl
 have e2:((s.heap.push W.emptyDict).push (W.instObj C s.heap.objs.size)).get? (s.heap.objs.size+1)=some (W.instObj C s.heap.objs.size):=by
  have:=Heap.get?_push_size (s.heap.push W.emptyDict) (o:=W.instObj C s.heap.objs.size) rfl
  rwa [Heap.size_push] at this
 have e3:(s.heap.push W.emptyDict).Ns s.heap.objs.size (fun _=>none):=⟨W.emptyDict,#[],_,e1,rfl,(fun e he=>absurd he (by simp)),fun _=>rfl⟩
 have I1:=I.laid (a:=s.heap.objs.size) (o:=.own (s.heap.objs.size+1)) (h':=s.heap.push W.emptyDict) (t':=s.toks) (fun b u q=>Heap.get?_push_of_some _ q) (Nat.le_refl _) ⟨_,e1⟩
 refine I1.laid (a:=s.heap.objs.size+1) (o:=.ins C s.heap.objs.size []) (t':=s.toks) (fun b u q=>Heap.get?_push_of_some _ q) (Nat.le_of_eq (Heap.size_push _ _)) ?_
 have ne:s.heap.objs.size≠s.heap.objs.size+1:=Nat.ne_of_lt (Nat.lt_succ_self _)
 refine⟨by rw [zx ne,zj],Nat.zero_le _,ne,e2,fun _=>none,(Heap.Ns1.of_empty e3).at fun o q=>Heap.get?_push_of_some _ q,fun _=>True.intro,fun y hy=>absurd rfl hy⟩
theorem zep {prog:Program} {w:World} {env:Env} {e:Expr} {f:Str} {pos:Pos} {s:Shared} {Q:Value->Shared->Prop} (hb:attributeBase e f env (eval e env)=eval e env)
  (h:wpAny (model prog w) A (eval e env) (fun o s₁=>wpAny (model prog w) A (getAttr o f true) Q E s₁) E s):wpAny (model prog w) A (eval (.Attribute e f pos) env) Q E s :=
 Attribute_any_ h (by rw [arm_eval_Attribute,hb])
end
def zge (K:W.Frag) (ta:TE) (f:Str):TE:=fun Z H Q=>ta Z H fun x H1=>∃ a C dx fs v,x=.ref a/\H1 a=some (.ins C dx fs)/\Cls K C/\NoAttr K C f/\fs.lookup f=some v/\Q v H1
def zg5 (K:W.Frag) (ta tv:TE) (f:Str):TS:=fun D Z H=>tv Z H fun y H1=>ta Z H1 fun x H2=>∃ a C dx fs,x=.ref a/\H2 a=some (.ins C dx fs)/\Cls K C/\NoAttr K C f/\fs.length<1000 /\
 D.nx Z (upd H2 a (.ins C dx (wB f y fs)))
section
variable {X:Cx} {o e value:Expr} {f:Str} {pos pos' tpos:Pos} {ta tv:TE}
theorem zfo (he:PE X e ta) (hb:attributeBase e f X.env (eval e X.env)=eval e X.env):PE X (.Attribute e f pos) (zge X.K ta f):=by
 intro pins s Z H Q I h
 refine zep hb (thn (he pins s Z H _ I h) fun u s1 ⟨x,H1,I1,rx,a,C,dx,fs,v,ex,ea,c,n,l,q⟩=>?_)
 subst ex
 obtain rfl:u=Value.ref a:=rx
 exact zbu I1 ea c n l fun u' s2 I2 ru=>⟨v,H1,I2,ru,q⟩
theorem Jg (ha:PE X o ta) (hv:PE X value tv) (hs:swapsWith value (some (.Attribute o f pos')) pos.line X.env=pure false):PS X (.Assign [.Attribute o f pos'] value pos) (zg5 X.K ta tv f):=by
 intro pins s Z H D I h
 refine plainObj_wpAny_Assign_Attribute (thn (hv pins s Z H _ I h) fun u s1 ⟨y,H1,I1,ry,q⟩=>thn (ha pins s1 Z H1 _ I1 q) fun ov s2 ⟨x,H2,I2,rx,a,C,dx,fs,ex,ea,c,n,l,q2⟩=>?_) hs
 subst ex
 obtain rfl:ov=Value.ref a:=rx
 exact za4 I2 ea c n l ry fun s3 I3=>⟨Z,_,I3,q2⟩
end
section
variable {X:Cx} {pins:List (Addr×Obj)} {Z:St} {H:Hp} {s:Shared} {A:Around} {E:Value->Shared->Prop} {Q:Value->Shared->Prop} {c:Value} {b:Bool}
inductive XJ (K:W.Frag) (H:Hp):V->Value->Prop where
 | non:XJ K H .non (.type "NoneType")
 | bl (x:Bool):XJ K H (.bl x) (.type "bool")
 | int (i:Int):XJ K H (.int i) (.type "int")
 | str (x:Str):XJ K H (.str x) (.type "str")
 | flt (x:UInt64):XJ K H (.flt x) (.type "float")
 | lst {a:Addr} {xs:List V} (e:H a=some (.lst xs)):XJ K H (.ref a) (.type "list")
 | frz {a:Addr} {o:Obj} {xs:List V} (e:H a=some (.frz o (.lst xs))):XJ K H (.ref a) (.type "list")
 | tup {a:Addr} {xs:List V} (e:H a=some (.tup xs)):XJ K H (.ref a) (.type "tuple")
 | dK {a:Addr} {kvs:List (Key×V)} (e:H a=some (.dK kvs)):XJ K H (.ref a) (.type "dict")
 | dT {a:Addr} {kvs:List (List Key×V)} (e:H a=some (.dT kvs)):XJ K H (.ref a) (.type "dict")
 | ins {a C dx:Addr} {fs:List (Str×V)} (e:H a=some (.ins C dx fs)) (cl:Cls K C) (ha:W.findIn K (.ref C) "__class__" = some (some (.builtin "object.__class__")))
   (hn:W.specialIn K (.builtin "object.__class__") "__get__" = some (some (.builtin "getset_descriptor.__get__"))) (htk:W.takesIn K (.builtin "object.__class__")=some true)
   (hm:W.mroIn K C (.type "object")=some true):XJ K H (.ref a) (.ref C)
theorem zcO {x:V} {u t:Value} (I:Inv X pins Z H s) (rx:RelV x u) (ty:XJ X.K H x t) (e:W.kitOne X.K t c=some b) (h:∀ tk,Q (.bool b) { s with toks:=tk }) :
  wpAny (model X.prog X.w) A (call (.builtin "isinstance") [u,c]) Q E s:=by
 cases ty with
 | non=>cases (show u=Value.none from rx);exact W.kia_one W.kitx_none I.kIn True.intro e (fun z=>nomatch z) h
 | bl y=>cases (show u=Value.bool y from rx);exact W.kia_one W.kitx_bool I.kIn True.intro e (fun z=>nomatch z) h
 | int i=>obtain⟨t,q⟩:=(show ∃ t,u=Value.int i t from rx);cases q;exact W.kia_one W.kitx_int I.kIn True.intro e (fun z=>nomatch z) h
 | str y=>obtain⟨t,q⟩:=(show ∃ t,u=Value.str y t from rx);cases q;exact W.kia_one W.kitx_str I.kIn True.intro e (fun z=>nomatch z) h
 | flt y=>obtain⟨t,q⟩:=(show ∃ t,u=Value.float y t from rx);cases q;exact W.kia_one W.kitx_float I.kIn True.intro e (fun z=>nomatch z) h
 | @lst a xs ea =>
  cases (show u=Value.ref a from rx)
  obtain⟨_,_,n,_,h1⟩:=(show ObjOk X.prog X.w H s.heap a (.lst xs) from I.hok a _ ea)
  exact W.kia_one W.kitx_list I.kIn ⟨_,h1,rfl⟩ e (fun z=>nomatch z) h
 | @frz a ob xs ea =>
  cases (show u=Value.ref a from rx)
  obtain⟨_,_,_,n,_,h1⟩:=(show ObjOk X.prog X.w H s.heap a (.frz ob (.lst xs)) from I.hok a _ ea)
  exact W.kia_one W.kitx_list I.kIn ⟨_,h1,rfl⟩ e (fun z=>nomatch z) h
 | @tup a xs ea =>
  cases (show u=Value.ref a from rx)
  obtain⟨_,_,_,p⟩:=(show ObjOk X.prog X.w H s.heap a (.tup xs) from I.hok a _ ea)
  obtain⟨o,h1,h2,_⟩:=p
  exact W.kia_one W.kitx_tuple I.kIn ⟨o,h1,h2⟩ e (fun z=>nomatch z) h
 | @dK a kvs ea =>
  cases (show u=Value.ref a from rx)
  obtain⟨_,_,vs,_,p⟩:=(show ObjOk X.prog X.w H s.heap a (.dK kvs) from I.hok a _ ea)
  obtain⟨o,es,ep,h1,h2,_⟩:=p
  exact W.kia_one W.kitx_dict I.kIn ⟨o,h1,h2.1⟩ e (fun z=>nomatch z) h
 | @dT a kvs ea =>
  cases (show u=Value.ref a from rx)
  obtain⟨_,_,xs,_,o,es,ep,h1,h2,_⟩:=(show ObjOk X.prog X.w H s.heap a (.dT kvs) from I.hok a _ ea)
  exact W.kia_one W.kitx_dict I.kIn ⟨o,h1,h2.1⟩ e (fun z=>nomatch z) h
 | @ins a C dx fs ea cl ha hn htk hm =>
  cases (show u=Value.ref a from rx)
  obtain⟨mA,O,_⟩:=Vp I.hok ea
  obtain⟨od,J,_⟩:=O.look
  exact W.kia_one (W.kitx_own (cl.get _) cl.hd ha hn htk hm) I.kIn J e (fun z=>nomatch z) h
end
structure Room (k:Nat) (A:Around):Prop where
 hd:A.handled=none
 dp:A.depth+3*k+5<recursionLimit
 un:A.units+16*k+200<cLine
 gd:A.guards=some []
theorem Room.mono {j k:Nat} {A:Around} (r:Room k A) (h:j<=k):Room j A:=⟨r.hd,by have:=r.dp;omega,by have:=r.un;omega,r.gd⟩
theorem Room.deeper {k:Nat} {A:Around} (r:Room (k+1) A) (env:Env):Room k (A.deeper env) :=
 ⟨r.hd,by have:=r.dp;show A.depth+1+3*k+5<_;omega,by have:=r.un;show A.units+3+16*k+200<_;omega,r.gd⟩
theorem Room.in1 {k:Nat} {A:Around} (r:Room (k+1) A):Room k A.in1 :=
 ⟨r.hd,by have:=r.dp;show A.depth+3*k+5<_;omega,by have:=r.un;show A.units+1+16*k+200<_;omega,r.gd⟩
theorem zbB {A:Around} {C:Addr} {us:List Value} {kw:List (Str×Value)}:(A.under (.builtin "type.__call__" ⟨.ref C :: us,kw⟩)).depth=A.depth+1:=by
 first | rfl | simp [Around.under,Code.weight,Code.isCreation,Code.isGuard,Code.isCaller,Code.frames,Code.isFrame,guardIds]
theorem zbr {A:Around} {C:Addr} {us:List Value} {kw:List (Str×Value)}:(A.under (.builtin "type.__call__" ⟨.ref C :: us,kw⟩)).units=A.units+1:=by
 first | rfl | simp [Around.under,Code.cUnits,Code.frames,Code.isFrame]
theorem Room.make {k:Nat} {A:Around} (r:Room (k+1) A) (C:Addr) (us:List Value) (kw:List (Str×Value)):Room k (A.under (.builtin "type.__call__" ⟨.ref C :: us,kw⟩)) :=
 ⟨r.hd,by have:=r.dp;rw [zbB];omega,by have:=r.un;rw [zbr];omega,by first | exact r.gd | (simp [Around.under,Code.guards,Code.isGuard,guardIds];exact r.gd)⟩
theorem Room.depth {k:Nat} {A:Around} (r:Room k A):A.depth<recursionLimit:=by have:=r.dp;omega
theorem Room.units {k:Nat} {A:Around} (r:Room k A):A.units+64<cLine:=by have:=r.un;omega
def JS:TA:=fun _ H Q=>Q [] H
def W8 (ta:TE) (tr:TA):TA:=fun Z H Q=>ta Z H fun x H1=>tr Z H1 fun xs H2=>Q (x :: xs) H2
section
variable {X:Cx} {e:Expr} {es:List Expr} {te:TE} {t:TA} {pos:Pos}
theorem zg:PA X [] JS:=fun _ _ _ _ H Q I h=>Calls.spliced_nil ⟨[],H,I,.nil,h⟩
theorem zf (ha:PE X e te) (hr:PA X es t) (hs:starEach (e :: es) X.env=(false,eval e X.env) :: starEach es X.env:=by rfl):PA X (e :: es) (W8 te t):=by
 intro pos pins s Z H Q I h
 rw [hs]
 show wpAny _ _ (spliced ((false,eval e X.env) :: backTo pos (starEach es X.env))) _ _ s
 refine Calls.spliced_cons (thn (ha pins s Z H _ I h) fun u s1 ⟨x,H1,I1,r1,q1⟩=>?_)
 exact thn (hr pos pins s1 Z H1 _ I1 q1) fun us s2 ⟨xs,H2,I2,r2,q2⟩=>⟨x :: xs,H2,I2,.cons r1 r2,q2⟩
def zgd (t:TA):TE:=fun Z H Q=>t Z H fun xs H1=>xs.length<=sizeLine/\∀ p,H1 p=none->Q (.ref p) (upd H1 p (.tup xs))
def zft (t:TA):TE:=fun Z H Q=>t Z H fun xs H1=>xs.length<=sizeLine/\∀ p,H1 p=none->Q (.ref p) (upd H1 p (.lst xs))
theorem wz {x1} (h:PA X es t):PE X (.Tuple es x1 pos) (zgd t):=by
 intro pins s Z H Q I hq
 refine wpAny_Tuple_spliced (thn (h pos pins s Z H _ I hq) fun us s1 ⟨xs,H1,I1,r,z,q⟩=>⟨by rw [<- r.length];exact z,?_⟩)
 have hf:H1 s1.heap.objs.size=none:=I1.hok.fresh (Nat.le_refl _)
 refine⟨.ref s1.heap.objs.size,upd H1 s1.heap.objs.size (.tup xs),I1.laid (t':=s1.toks) (fun b u e=>Heap.get?_push_of_some _ e) (Nat.le_refl _) ?_,rfl,q _ hf⟩
 exact⟨z,us,r,⟨_,Heap.get?_push_size _ rfl,rfl,_,rfl⟩⟩
theorem zU (h:PA X es t):PE X (.List es pos) (zft t):=by
 intro pins s Z H Q I hq
 refine wpAny_List_spliced (thn (h pos pins s Z H _ I hq) fun us s1 ⟨xs,H1,I1,r,z,q⟩=>⟨by rw [<- r.length];exact z,?_⟩)
 have hf:H1 s1.heap.objs.size=none:=I1.hok.fresh (Nat.le_refl _)
 refine⟨.ref s1.heap.objs.size,upd H1 s1.heap.objs.size (.lst xs),I1.laid (t':=s1.toks) (fun b u e=>Heap.get?_push_of_some _ e) (Nat.le_refl _) ?_,rfl,q _ hf⟩
 exact⟨z,us,0,r,Heap.get?_push_size _ rfl⟩
end
abbrev Sp:=List V->Hp->VK->XK->Prop
abbrev CXT:=List Env->Hp->Shared->XK->Value->Shared->Prop
structure Env0 (P:Program) (w:World) (K:W.Frag) (mg:Str->Option Value) (base:Heap) (A:Around) (outer:List Env) (s:Shared) (H:Hp):Prop where
 frames:A.frames=some outer
 mod:Mod K mg base
 bs:∀ b o,base.get? b=some o->s.heap.get? b=some o/\H b=none
 bsz:base.objs.size<=s.heap.objs.size
 funs:s.heap.FunFrames base outer
 frf:∀ b∈frs outer,H b=none
 hok:HOk P w H s.heap
 bare:AllBare s.gens
def CE (outer:List Env) (P:Program) (w:World) (H:Hp) (s:Shared) (Q:VK) (u:Value) (s':Shared):Prop :=
 ∃ v H',s'.os=s.os/\AllBare s'.gens/\Un (frs outer) [] H H' s.heap s'.heap/\HOk P w H' s'.heap/\RelV v u/\Q v H'
def CR (CX:CXT) (outer:List Env) (P:Program) (w:World) (H:Hp) (s:Shared) (Q:VK) (E:XK) (r:Result) (s':Shared):Prop :=
 match r with
 | .ok (.ret u)=>CE outer P w H s Q u s'
 | .ok _=>False
 | .error e=>CX outer H s E e s'
structure FnOk (P:Program) (w:World) (K:W.Frag) (mg:Str->Option Value) (base:Heap) (CX:CXT) (k:Nat) (f:Addr) (fd:FuncData) (ps:List Str) (sp:Sp):Prop where
 len:∀ vs H Q E,sp vs H Q E->vs.length=ps.length
 run:∀ (A:Around) (outer:List Env) (s:Shared) (H:Hp) (args:Args) (us:List Value) (vs:List V) (Q:VK) (E:XK),Room k A->Env0 P w K mg base A outer s H->BindsTo s fd args (ps.zip us)->Vals vs us->sp vs H Q E ->
  codeAny (model P w) A (.call (.ref f) args) (CR CX outer P w H s Q E) s
theorem FnOk.mono {P:Program} {w:World} {K:W.Frag} {mg:Str->Option Value} {base:Heap} {CX:CXT} {j k:Nat} {f:Addr} {fd:FuncData} {ps:List Str} {sp:Sp} (F:FnOk P w K mg base CX j f fd ps sp) (h:j<=k) :
  FnOk P w K mg base CX k f fd ps sp:=⟨F.len,fun A outer s H args us vs Q E hr=>F.run A outer s H args us vs Q E (hr.mono h)⟩
theorem FnOk.imp {P:Program} {w:World} {K:W.Frag} {mg:Str->Option Value} {base:Heap} {CX:CXT} {k:Nat} {f:Addr} {fd:FuncData} {ps:List Str} {sp sp':Sp} (F:FnOk P w K mg base CX k f fd ps sp)
  (h:∀ vs H Q E,sp' vs H Q E->sp vs H Q E):FnOk P w K mg base CX k f fd ps sp' :=
 ⟨fun vs H Q E q=>F.len vs H Q E (h _ _ _ _ q),fun A outer s H args us vs Q E hr he hb hv hs=>F.run A outer s H args us vs Q E hr he hb hv (h _ _ _ _ hs)⟩
theorem Env0.make {P:Program} {w:World} {K:W.Frag} {mg:Str->Option Value} {base:Heap} {A:Around} {outer:List Env} {s:Shared} {H:Hp} (e:Env0 P w K mg base A outer s H) (C:Addr) (us:List Value) (kw:List (Str×Value)) :
  Env0 P w K mg base (A.under (.builtin "type.__call__" ⟨.ref C :: us,kw⟩)) outer s H:=⟨by first | exact e.frames | (simpa [Around.under,Code.envs,Code.isFrame,pushEnvs] using e.frames),e.mod,e.bs,e.bsz,e.funs,e.frf,e.hok,e.bare⟩
theorem Env0.in1 {P:Program} {w:World} {K:W.Frag} {mg:Str->Option Value} {base:Heap} {A:Around} {outer:List Env} {s:Shared} {H:Hp} (e:Env0 P w K mg base A outer s H) :
  Env0 P w K mg base A.in1 outer s H:=⟨e.frames,e.mod,e.bs,e.bsz,e.funs,e.frf,e.hok,e.bare⟩
section
variable {X:Cx} {pins:List (Addr×Obj)} {Z:St} {H:Hp} {s s':Shared}
theorem Inv.env0 (I:Inv X pins Z H s):Env0 X.prog X.w X.K X.mg X.base X.A X.stack s H :=
 ⟨I.ok.frames,I.ok.mod,I.bs,Nat.le_trans I.ok.bsz I.sz,I.stack,I.stkFree,I.hok,I.bare⟩
theorem Inv.after {Q:VK} {u:Value} (I:Inv X pins Z H s) (h:CE X.stack X.prog X.w H s Q u s'):EP X pins Z Q u s':=by
 obtain⟨v,H',os,bare,un,hok,r,q⟩:=h
 obtain⟨hh,g,d,t,os'⟩:=s'
 obtain rfl:os'=s.os:=os
 exact⟨v,H',I.call (h':=hh) (g':=g) (d':=d) (t':=t) (ch:=[]) un hok bare (fun b z=>absurd z (by simp)),r,q⟩
end
def zfc (sp:Sp) (dvs:List V) (E:XK) (t:TA):TE:=fun Z H Q=>t Z H fun vs H1=>sp (vs++dvs) H1 Q E
def zb3 (C:Addr) (m:Str) (sp:Sp) (dvs:List V) (E:XK) (ta:TE) (t:TA):TE:=fun Z H Q=>ta Z H fun x H1=>∃ a dx fs,x=.ref a/\H1 a=some (.ins C dx fs)/\fs.lookup m=none /\
 t Z H1 fun vs H2=>sp (x :: (vs++dvs)) H2 Q E
def zgO (C:Addr) (sp:Sp) (dvs:List V) (E:XK) (t:TA):TE:=fun Z H Q=>t Z H fun vs H1=>∀ x dx,H1 x=none->H1 dx=none->dx≠x ->
 sp (.ref x :: (vs++dvs)) (upd (upd H1 dx (.own x)) x (.ins C dx [])) (fun v H2=>v=.non/\Q (.ref x) H2) E
def Binds (K:W.Frag) (fd:FuncData) (ps:List Str) (ds:List Value):Prop :=
 ∀ (s:Shared) (us:List Value),K.In s.heap->(us++ds).length=ps.length->BindsTo s fd ⟨us,[]⟩ (ps.zip (us++ds))
theorem Binds.all {K:W.Frag} {fd:FuncData} {ps:List Str} (h:∀ us:List Value,us.length=ps.length->bindArgs fd ⟨us,[]⟩=pure (ps.zip us)):Binds K fd ps []:=fun s us _ hl=>by
 rw [List.append_nil] at hl ⊢
 exact .of_eq (h us hl)
def Xq (CX:CXT) (X:Cx) (E:XK):Prop:=∀ (pins:List (Addr×Obj)) (Z:St) (H:Hp) (s:Shared) (e:Value) (s':Shared),Inv X pins Z H s->CX X.stack H s E e s'->X.xe e s'
section
variable {X:Cx} {CX:CXT} {k:Nat} {f C:Addr} {fd:FuncData} {ps:List Str} {sp:Sp} {dvs:List V} {ds:List Value} {E:XK} {x m:Str} {p pos apos:Pos} {e o:Expr} {es:List Expr} {ta:TE} {t:TA}
theorem zaP {pins:List (Addr×Obj)} {Z:St} {H:Hp} {s:Shared} {Q:VK} {us:List Value} {vs:List V} (F:FnOk X.prog X.w X.K X.mg X.base CX k f fd ps sp) (hr:Room k X.A) (hb:Binds X.K fd ps ds) (hd:Vals dvs ds) (hx:Xq CX X E)
  (I:Inv X pins Z H s) (r:Vals vs us) (h:sp (vs++dvs) H Q E):wpAny (model X.prog X.w) X.A (call (.ref f) us) (EP X pins Z Q) X.xe s:=by
 have r2:Vals (vs++dvs) (us++ds):=r.append hd
 have hl:(us++ds).length=ps.length:=by rw [<- r2.length];exact F.len _ _ _ _ h
 refine wpAny_call (codeAny_mono (F.run X.A X.stack s H ⟨us,[]⟩ (us++ds) (vs++dvs) Q E hr I.env0 (hb s us I.kIn hl) r2 h) fun r s' hq=>?_)
 cases r with
 | error e=>exact hx pins Z H s e s' I hq
 | ok fl =>
  cases fl with
  | ret u=>exact I.after hq
  | next=>exact False.elim hq
  | brk=>exact False.elim hq
  | cont=>exact False.elim hq
theorem zeS (F:FnOk X.prog X.w X.K X.mg X.base CX k f fd ps sp) (hr:Room k X.A) (hg:Gl X x) (hm:X.mg x=some (.ref f)) (hk:W.keepIn X.K (.ref f)=true) (hb:Binds X.K fd ps ds) (hd:Vals dvs ds) (hx:Xq CX X E)
  (ha:PA X (e :: es) t) (hdb:(x == ("__debug__" : Str))=false:=by decide) (he:starEach (e :: es) X.env=(false,eval e X.env) :: starEach es X.env:=by rfl) (hpl:(backTo pos (starEach es X.env)).any (·.1)=false:=by rfl) :
  PE X (.Call (.Name x p) (e :: es) [] pos) (zfc sp dvs E t):=by
 intro pins s Z H Q I h
 refine wpAny_Call_Name_kw (YL I hg hm ?_ hdb)
 refine W.callWith_K (h₀:=X.base) I.ok.mod.kin hk (thn (ha pos pins s Z H _ I h) fun us s1 ⟨vs,H1,I1,r,q⟩=>⟨I1.kIn,?_⟩) he hpl
 exact zaP F hr hb hd hx I1 r q
theorem zeI {pl:Sem Bool} (he:PE X o ta) (c:Cls X.K C) (hm:Meth X.K C m f) (F:FnOk X.prog X.w X.K X.mg X.base CX k f fd ps sp) (hr:Room k X.A) (hb:Binds X.K fd ps ds) (hd:Vals dvs ds) (hx:Xq CX X E) (ha:PA X (e :: es) t)
  (hst:starEach (e :: es) X.env=(false,eval e X.env) :: starEach es X.env:=by rfl) (hpl:(backTo pos (starEach es X.env)).any (·.1)=false:=by rfl)
  (ht:eval (.Call (.Attribute o m apos) (e :: es) [] pos) X.env=(do
   let ov <- eval o X.env
   standAt apos.atName
   let (f,first) <- holding [ov] (getMethod ov m pl)
   callWith pos f first (backTo pos (starEach (e :: es) X.env)) (backToKw pos (keywordEach [] X.env))):=by rfl) :
  PE X (.Call (.Attribute o m apos) (e :: es) [] pos) (zb3 C m sp dvs E ta t):=by
 intro pins s Z H Q I h
 refine W.methodCall_KW (pl:=pl) (thn (he pins s Z H _ I h) fun u s1 ⟨x,H1,I1,rx,a,dx,fs,ex,ea,l,q⟩=>?_) ht
 subst ex
 obtain rfl:u=Value.ref a:=rx
 refine VR I1 ea c hm l ?_
 refine W.callWith_K (first:=[.ref a]) (h₀:=X.base) I.ok.mod.kin hm.kp (thn (ha pos pins s1 Z H1 _ I1 q) fun us s2 ⟨vs,H2,I2,r,q2⟩=>⟨I2.kIn,?_⟩) hst hpl
 exact zaP (us:=.ref a :: us) (vs:=.ref a :: vs) F hr hb hd hx I2 (.cons rfl r) q2
theorem zcU {pl:Sem Bool} (he:PE X o ta) (c:Cls X.K C) (hm:Meth X.K C m f) (F:FnOk X.prog X.w X.K X.mg X.base CX k f fd ps sp) (hr:Room k X.A) (hb:Binds X.K fd ps ds) (hd:Vals dvs ds) (hx:Xq CX X E)
  (ht:eval (.Call (.Attribute o m apos) [] [] pos) X.env=(do
   let ov <- eval o X.env
   standAt apos.atName
   let (f,first) <- holding [ov] (getMethod ov m pl)
   callWith pos f first (backTo pos (starEach [] X.env)) (backToKw pos (keywordEach [] X.env))):=by rfl) :
  PE X (.Call (.Attribute o m apos) [] [] pos) (zb3 C m sp dvs E ta JS):=by
 intro pins s Z H Q I h
 refine W.methodCall_KW (pl:=pl) (thn (he pins s Z H _ I h) fun u s1 ⟨x,H1,I1,rx,a,dx,fs,ex,ea,l,q⟩=>?_) ht
 subst ex
 obtain rfl:u=Value.ref a:=rx
 refine VR I1 ea c hm l ?_
 exact W.callWith_K0 (first:=[.ref a]) I1.kIn hm.kp (zaP (us:=[.ref a]) (vs:=[.ref a]) F hr hb hd hx I1 (.cons rfl .nil) q)
structure Mk (K:W.Frag) (C f:Addr):Prop where
 makes:W.makesIn K C=true
 init:W.findIn K (.ref C) "__init__" = some (some (.ref f))
 fn:W.isFn K (.ref f)=true
 kp:W.keepIn K (.ref C)=true
theorem zdm {pins:List (Addr×Obj)} {Z:St} {H:Hp} {s:Shared} {Q:VK} {us:List Value} {vs:List V} (M:Mk X.K C f) (F:FnOk X.prog X.w X.K X.mg X.base CX k f fd ps sp) (hr:Room (k+1) X.A) (hb:Binds X.K fd ps ds) (hd:Vals dvs ds)
  (hx:Xq CX X E) (I:Inv X pins Z H s) (r:Vals vs us)
  (h:∀ x dx,H x=none->H dx=none->dx≠x->sp (.ref x :: (vs++dvs)) (upd (upd H dx (.own x)) x (.ins C dx [])) (fun v H2=>v=.non/\Q (.ref x) H2) E) :
  wpAny (model X.prog X.w) X.A (call (.ref C) us) (EP X pins Z Q) X.xe s:=by
 have hq:=h (s.heap.objs.size+1) s.heap.objs.size (I.hok.fresh (Nat.le_succ _)) (I.hok.fresh (Nat.le_refl _)) (Nat.ne_of_lt (Nat.lt_succ_self _))
 have I2:=Inv.made (C:=C) I
 have r2:Vals (V.ref (s.heap.objs.size+1) :: (vs++dvs)) (Value.ref (s.heap.objs.size+1) :: (us++ds)):=.cons rfl (r.append hd)
 have hl:(Value.ref (s.heap.objs.size+1) :: us++ds).length=ps.length:=by
  have e:=r2.length
  rw [F.len _ _ _ _ hq] at e
  exact e.symm
 refine wpAny_call (zd9 (f:=f) I.kIn M.makes M.init (beq_iff_eq.mp M.fn) (codeAny_mono (F.run _ X.stack _ _ ⟨Value.ref (s.heap.objs.size+1) :: us,[]⟩ (Value.ref (s.heap.objs.size+1) :: (us++ds)) _ _ E (hr.make C us [])
  (I2.env0.make C us []) (hb _ (Value.ref (s.heap.objs.size+1) :: us) I2.kIn hl) r2 hq) fun r s' hq'=>?_))
 cases r with
 | error e=>exact hx pins Z _ _ e s' I2 hq'
 | ok fl =>
  cases fl with
  | ret u =>
   obtain⟨v,H',I3,rv,ev,q3⟩:=I2.after hq'
   subst ev
   exact⟨rv,⟨V.ref (s.heap.objs.size+1),H',I3,rfl,q3⟩⟩
  | next=>exact False.elim hq'
  | brk=>exact False.elim hq'
  | cont=>exact False.elim hq'
theorem QX (M:Mk X.K C f) (F:FnOk X.prog X.w X.K X.mg X.base CX k f fd ps sp) (hr:Room (k+1) X.A) (hg:Gl X x) (hm:X.mg x=some (.ref C)) (hb:Binds X.K fd ps ds) (hd:Vals dvs ds) (hx:Xq CX X E)
  (ha:PA X (e :: es) t) (hdb:(x == ("__debug__" : Str))=false:=by decide) (he:starEach (e :: es) X.env=(false,eval e X.env) :: starEach es X.env:=by rfl) (hpl:(backTo pos (starEach es X.env)).any (·.1)=false:=by rfl) :
  PE X (.Call (.Name x p) (e :: es) [] pos) (zgO C sp dvs E t):=by
 intro pins s Z H Q I h
 refine wpAny_Call_Name_kw (YL I hg hm ?_ hdb)
 refine W.callWith_K (h₀:=X.base) I.ok.mod.kin M.kp (thn (ha pos pins s Z H _ I h) fun us s1 ⟨vs,H1,I1,r,q⟩=>⟨I1.kIn,?_⟩) he hpl
 exact zdm M F hr hb hd hx I1 r q
end
section
variable {X:Cx} {CX:CXT} {k:Nat} {f C:Addr} {fd:FuncData} {ps ks:List Str} {sp:Sp} {E:XK} {x m:Str} {p pos apos kpos:Pos} {e o:Expr} {es:List Expr} {kws:List Keyword} {te ta:TE} {t tk:TA} {nm:Option Str}
structure zgY (K:W.Frag) (fd:FuncData) (ps ks:List Str) (g:List Value->List Value->List Value) (gV:List V->List V->List V):Prop where
 to:∀ (s:Shared) (us ws:List Value),K.In s.heap->(g us ws).length=ps.length->BindsTo s fd ⟨us,ks.zip ws⟩ (ps.zip (g us ws))
 rel:∀ {vs:List V} {us:List Value} {zs:List V} {ws:List Value},Vals vs us->Vals zs ws->Vals (gV vs zs) (g us ws)
variable {g:List Value->List Value->List Value} {gV:List V->List V->List V}
end
structure zE (N P:List Str) (sc:Scope):Prop where
 kind:sc.kind=.function
 co:sc.isCoroutine=false
 gen:sc.isGenerator=false
 nd:N.Nodup
 pre:N.take P.length=P
 par:∀ x∈P,sc.names.lookup x=some .local\/sc.names.lookup x=some .cell
 nofree:∀ y∈sc.names,y.2≠.free
theorem Qq {kindOf:Str->Option NameKind} {x:Str}:∀ {binds:List (Str×Value)} {m:Str->Option Value},(∀ v,(x,v)∉binds)->bindL kindOf binds m x=m x
 | [],_,_=>rfl
 | (n,v) :: r,m,h=>by
  unfold bindL
  rw [Qq fun w hw=>h w (List.mem_cons_of_mem _ hw)]
  split
  ·have:x≠n:=by rintro rfl;exact h v List.mem_cons_self
   simp [this]
  ·rfl
theorem Qw {kindOf:Str->Option NameKind} {x:Str}:∀ {binds:List (Str×Value)} {m:Str->Option Value},(∀ v,(x,v)∉binds)->bindC kindOf binds m x=m x
 | [],_,_=>rfl
 | (n,v) :: r,m,h=>by
  unfold bindC
  rw [Qw fun w hw=>h w (List.mem_cons_of_mem _ hw)]
  split
  ·rfl
  ·have:x≠n:=by rintro rfl;exact h v List.mem_cons_self
   simp [this]
theorem QL {kindOf:Str->Option NameKind} {x:Str} {v:Value}:∀ {P:List Str} {vs:List Value} {i:Nat} {m:Str->Option Value},P.Nodup->P[i]?=some x->vs[i]?=some v->kindOf x=some .local ->
  bindL kindOf (P.zip vs) m x=some v
 | [],_,_,_,_,h,_,_=>by simp at h
 | _ :: _,[],_,_,_,_,h,_=>by simp at h
 | p :: P,w :: vs,0,m,nd,h1,h2,hk=>by
  simp at h1 h2;subst h1;subst h2
  show bindL kindOf ((p,w) :: P.zip vs) m p=_
  unfold bindL
  rw [Qq fun v hv=>(List.nodup_cons.mp nd).1 (List.of_mem_zip hv).1,if_pos hk]
  simp
 | p :: P,w :: vs,i+1,m,nd,h1,h2,hk=>by
  show bindL kindOf ((p,w) :: P.zip vs) m x=_
  unfold bindL
  exact QL (i:=i) (List.nodup_cons.mp nd).2 (by simpa using h1) (by simpa using h2) hk
theorem Qp {kindOf:Str->Option NameKind} {x:Str} {v:Value}:∀ {P:List Str} {vs:List Value} {i:Nat} {m:Str->Option Value},P.Nodup->P[i]?=some x->vs[i]?=some v->kindOf x≠some .local ->
  bindC kindOf (P.zip vs) m x=some v
 | [],_,_,_,_,h,_,_=>by simp at h
 | _ :: _,[],_,_,_,_,h,_=>by simp at h
 | p :: P,w :: vs,0,m,nd,h1,h2,hk=>by
  simp at h1 h2;subst h1;subst h2
  show bindC kindOf ((p,w) :: P.zip vs) m p=_
  unfold bindC
  rw [Qw fun v hv=>(List.nodup_cons.mp nd).1 (List.of_mem_zip hv).1,if_neg hk]
  simp
 | p :: P,w :: vs,i+1,m,nd,h1,h2,hk=>by
  show bindC kindOf ((p,w) :: P.zip vs) m x=_
  unfold bindC
  exact Qp (i:=i) (List.nodup_cons.mp nd).2 (by simpa using h1) (by simpa using h2) hk
def start (N:List Str) (vs:List V):St:=vs.map some++List.replicate (N.length-vs.length) none
def YW (CX:CXT) (P:Program) (w:World) (K:W.Frag) (mg:Str->Option Value) (base:Heap) (N:List Str) (qual:Str) (scope:Scope) (f:Addr) (cd:Value) (A:Around) (outer:List Env) (s:Shared) (H:Hp) (E:XK):Cx where
 prog:=P
 w:=w
 K:=K
 mg:=mg
 base:=base
 A:=A.deeper (envOfC qual scope s.heap.objs.size f cd)
 N:=N
 s₀:=s
 H₀:=H
 env:=envOfC qual scope s.heap.objs.size f cd
 outer:=outer
 stack:=envOfC qual scope s.heap.objs.size f cd :: outer
 ex:=[]
 calm:=true
 fn:=fun _=>true
 pn:=[]
 xe:=fun e s'=>wpAny (model P w) (A.deeper (envOfC qual scope s.heap.objs.size f cd)) (leaving (envOfC qual scope s.heap.objs.size f cd) e) (fun _ s''=>CX outer H s E e s'') (fun e' s''=>CX outer H s E e' s'') s'
theorem zaw {sc:Scope} {n:Nat} {x:Str} (h:sc.names.lookup x=some .cell):∃ c,(cellsFrom n sc.names []).lookup x=some c:=by
 have q:=W.cellsFrom_some sc.names n [] (.inl h)
 exact Option.isSome_iff_exists.mp q
theorem Qv {CX:CXT} {P:Program} {w:World} {K:W.Frag} {mg:Str->Option Value} {base:Heap} {N ps:List Str} {qual:Str} {scope:Scope} {f:Addr} {cd:Value} {A:Around} {outer:List Env} {s s1:Shared} {H:Hp} {E:XK} {us:List Value} {vs:List V}
  (S:zE N ps scope) (hd:A.handled=none) (e0:Env0 P w K mg base A outer s H) (hl:vs.length=ps.length) (r:Vals vs us)
  (x:InCallC s s.heap.objs.size (bindL (envOfC qual scope s.heap.objs.size f cd).kindOf (ps.zip us) fun _=>none) (cellsFrom (s.heap.objs.size+1) scope.names []) (bindC (envOfC qual scope s.heap.objs.size f cd).kindOf (ps.zip us) fun _=>none) s1) :
  Inv (YW CX P w K mg base N qual scope f cd A outer s H E) [] (start N vs) H s1:=by
 have hpl:ps.length<=N.length:=by have:=congrArg List.length S.pre;rw [List.length_take] at this;omega
 obtain⟨h1,tk,rfl,hk⟩:=x.done
 have noA:∀ b:Addr,b∉(YW CX P w K mg base N qual scope f cd A outer s H E).ex:=fun b z=>absurd (show b∈([]:List Addr) from z) (by simp)
 refine⟨⟨e0.mod,S.kind,rfl,rfl,Nat.le_refl _,fun y z c h1 h2=>?_,fun y hy=>?_,fun y c _ h=>?_,fun _=>hd,Around.frames_deeper e0.frames,.inr ⟨rfl,rfl⟩,fun b z=>absurd z (noA b),e0.bs,e0.bsz,fun b _ _=>noA b,fun b z=>absurd z (noA b),e0.funs,e0.frf⟩,
  rfl,e0.bare,Un.kept hk,⟨_,x.toInCall.ns,fun i y v h1 h2 h3=>?_⟩,fun y c h=>⟨_,x.cell y c h⟩,e0.hok.fresh (Nat.le_refl _),fun y c h=>?_,fun p hp=>absurd (show p∈([]:List (Addr×Obj)) from hp) (by simp),e0.hok.kept hk,?_⟩
 ·exact name_of_addr x.apart (PySem.mem_of_lookup h1) (PySem.mem_of_lookup h2)
 ·have hy:scope.names.lookup y=some .cell\/scope.names.lookup y=some .free:=hy
  rcases hy with hy | hy
  ·exact zaw hy
  ·exact absurd rfl (S.nofree _ (PySem.mem_of_lookup hy))
 ·exact Nat.le_of_lt (x.above y c (PySem.mem_of_lookup h))
 ·have hi:i<vs.length:=by
   unfold start at h2
   by_cases hi:i<vs.length
   ·exact hi
   ·rw [List.getElem?_append_right (by simpa using hi)] at h2
    rw [List.getElem?_replicate] at h2
    split at h2<;>cases h2
  have ha:vs[i]?=some v:=by
   unfold start at h2
   rw [List.getElem?_append_left (by simpa using hi),List.getElem?_map] at h2
   cases e:vs[i]? with
   | none=>rw [e] at h2;cases h2
   | some a=>rw [e] at h2;cases h2;rfl
  obtain⟨u,hu,rv⟩:=r.get ha
  have hp:ps[i]?=some y:=by
   rw [<- S.pre,List.getElem?_take_of_lt (by omega)];exact h1
  have ndP:ps.Nodup:=by rw [<- S.pre];exact S.nd.sublist (List.take_sublist _ _)
  refine⟨u,rv,?_⟩
  rcases S.par y (List.mem_of_getElem? hp) with k | k
  ·exact .inl ⟨k,QL ndP hp hu k⟩
  ·obtain⟨c,e⟩:=zaw (n:=s.heap.objs.size+1) k
   refine .inr ⟨.inl k,c,e,?_⟩
   have q:=x.cell y c e
   rw [Qp ndP hp hu (by show scope.names.lookup y≠_;rw [k];decide)] at q
   exact q
 ·exact e0.hok.fresh (Nat.le_of_lt (x.above y c (PySem.mem_of_lookup h)))
 ·unfold start
  show _=N.length
  rw [List.length_append,List.length_map,List.length_replicate]
  omega
theorem zc6 {CX:CXT} {P:Program} {w:World} {K:W.Frag} {mg:Str->Option Value} {base:Heap} {k:Nat} {f:Addr} {name qual:Str} {params:Arguments} {body:List Stmt} {scope:Scope} {dV kV doc pm cdv ct oc:Value} {an od:Option Addr}
  {osl:Array (Option Value)} {N ps:List Str} {sp:Sp} (lk:K.lookup f=some ⟨oc,od,.func (W.fnOf name qual params body scope dV kV doc pm an cdv ct),osl⟩) (hcd:W.codeIn K cdv qual=true) (S:zE N ps scope)
  (len:∀ vs H Q E,sp vs H Q E->vs.length=ps.length)
  (hbody:∀ (A:Around) (outer:List Env) (s:Shared) (H:Hp) (vs:List V) (Q:VK) (E:XK),Room k (A.deeper (envOfC qual scope s.heap.objs.size f cdv))->sp vs H Q E ->
   ∃ t,PSs (YW CX P w K mg base N qual scope f cdv A outer s H E) body t/\t { nx:=fun _ H'=>Q .non H',rt:=Q } (start N vs) H) :
  FnOk P w K mg base CX (k+1) f (W.fnOf name qual params body scope dV kV doc pm an cdv ct) ps sp:=by
 refine⟨len,fun A outer s H args us vs Q E hr e0 hb r hsp=>?_⟩
 have hl:=len _ _ _ _ hsp
 have KX:K.In s.heap:=e0.mod.kin.keeps fun b o e=>(e0.bs b o e).1
 have lim:s.heap.NoLimit:=e0.mod.nolimit.keeps fun b o e=>(e0.bs b o e).1
 have hkind:∀ y∈ps.zip us,scope.names.lookup y.1=some .local\/(scope.names.lookup y.1=some .cell/\((cellsFrom (s.heap.objs.size+1) scope.names []).lookup y.1).isSome=true):=fun ⟨n,v⟩ hy=>by
  rcases S.par n (List.of_mem_zip hy).1 with q | q
  ·exact .inl q
  ·exact .inr ⟨q,W.cellsFrom_some _ _ _ (.inl q)⟩
 refine codeAny_call_function hr.depth (KX _ _ lk) rfl S.co S.gen rfl (W.codeRec_of KX hcd) (hb _ _ _ _ ?_)
 refine wpAny_newFunctionEnv_cells S.kind hkind fun env he s1 x=>?_
 subst he
 refine⟨lim.keeps x.toInCall.keep,codeAny_func ?_⟩
 obtain⟨t,ht,hq⟩:=hbody A outer s H vs Q E (hr.deeper _) hsp
 have I:Inv (YW CX P w K mg base N qual scope f cdv A outer s H E) [] (start N vs) H s1:=Qv S hr.hd e0 hl r x
 refine wpAny_mono (ht [] s1 (start N vs) H _ I hq) (fun fl s' hs=>?_) fun e s' hs=>hs
 have fin:∀ {σ':St} {H':Hp} {v:V} {u:Value},Inv (YW CX P w K mg base N qual scope f cdv A outer s H E) [] σ' H' s'->RelV v u->Q v H'->CE outer P w H s Q u s' :=
  fun {σ' H' v u} J rv q=>⟨v,H',J.os,J.bare,J.base,J.hok,rv,q⟩
 cases fl with
 | ret u =>
  obtain⟨v,σ',H',J,rv,q⟩:=hs
  exact fin J rv q
 | next =>
  obtain⟨σ',H',J,q⟩:=hs
  exact fin (v:=V.non) (u:=Value.none) J rfl q
 | brk =>
  obtain⟨_,_,_,q⟩:=hs
  exact False.elim q
 | cont =>
  obtain⟨_,_,_,q⟩:=hs
  exact False.elim q
section
variable {X:Cx} {x:Str} {p pos:Pos} {e:Expr} {es:List Expr} {t:TA} {id T:String} {r:List V->Hp->VK->Prop}
def tCB (r:List V->Hp->VK->Prop) (t:TA):TE:=fun Z H Q=>t Z H fun vs H1=>r vs H1 Q
theorem zz (hc:vB X (.builtin id) r) (hg:Gl X x) (hm:X.mg x=none) (hv:bootBuiltins x=some (.builtin id)) (ha:PA X (e :: es) t) (hn:x ≠ "__name__":=by decide) (hdb:(x == ("__debug__" : Str))=false:=by decide)
  (he:starEach (e :: es) X.env=(false,eval e X.env) :: starEach es X.env:=by rfl) (hpl:(backTo pos (starEach es X.env)).any (·.1)=false:=by rfl):PE X (.Call (.Name x p) (e :: es) [] pos) (tCB r t):=by
 intro pins s Z H Q I h
 refine wpAny_Call_Name_kw (j9 I hg hm hv ?_ hn hdb)
 exact PyProof.Rows.callWith_builtin1 (thn (ha pos pins s Z H _ I h) fun us s1 ⟨vs,H1,I1,r1,q1⟩=>hc pins s1 Z H1 vs us Q I1 r1 q1) he hpl
theorem tM (hc:vB X (.type T) r) (hg:Gl X x) (hm:X.mg x=none) (hv:bootBuiltins x=some (.type T)) (ha:PA X (e :: es) t) (hn:x ≠ "__name__":=by decide) (hdb:(x == ("__debug__" : Str))=false:=by decide)
  (he:starEach (e :: es) X.env=(false,eval e X.env) :: starEach es X.env:=by rfl) (hpl:(backTo pos (starEach es X.env)).any (·.1)=false:=by rfl):PE X (.Call (.Name x p) (e :: es) [] pos) (tCB r t):=by
 intro pins s Z H Q I h
 refine wpAny_Call_Name_kw (j9 I hg hm hv ?_ hn hdb)
 exact PyProof.Rows.callWith_type1 (thn (ha pos pins s Z H _ I h) fun us s1 ⟨vs,H1,I1,r1,q1⟩=>hc pins s1 Z H1 vs us Q I1 r1 q1) he hpl
end
end L2
namespace HT
open PySem PyProof.Rows
def lexLt:List Int->List Int->Bool
 | [],[]=>false
 | [],_ :: _=>true
 | _ :: _,[]=>false
 | x :: xs,y :: ys=>if x=y then lexLt xs ys else decide (x<y)
theorem tZ (x y:Int) (xs ys:List Int):lexLt (x :: xs) (y :: ys)=if x=y then lexLt xs ys else decide (x<y):=rfl
theorem Xa:lexLt [] []=false:=rfl
theorem Um (y:Int) (ys:List Int):lexLt [] (y :: ys)=true:=rfl
theorem tH (x:Int) (xs:List Int):lexLt (x :: xs) []=false:=rfl
theorem zcW (A:Around) (s:Shared) (a:Int) (t:Tok) (c:Int) (u:Tok):∃ e,SeqAt.EqAt A s (.int a t) (.int c u) e/\(e=true↔a=c) :=
 ⟨(a == c),SeqAt.EqAt.int_int a t c u,by simp⟩
theorem zay (A:Around) (s:Shared) (a:Int) (t:Tok) (c:Int) (u:Tok) (prog:Program) (w:World) (E:Value->Shared->Prop) (Q:Value->Shared->Prop) (h:Q (.bool (decide (a<c))) s) :
  wpAny (model prog w) A (richCompare .Lt (.int a t) (.int c u)) Q E s :=
 (PyProof.Rows.lt_int h:wpAny (model prog w) A (compareOp .Lt (.int a t) (.int c u)) Q E s)
section
open PySem.SeqAt
open PySem.AutoSeq1 (wpAny_loadPart')
open PySem.MeetsSeq PySem.MeetsSeq2 PySem.MeetsSeq3
end
section
variable {prog:Program} {w:World} {A:Around} {E:Value->Shared->Prop} {s:Shared}
theorem zeA {t b:Addr} {vs ws:List Value} {Q:Value->Shared->Prop} (ht:IsTup s.heap t vs.toArray) (hb:IsTup s.heap b ws.toArray) (hv:vs≠[])
  (h1:ws=[]->Q (.ref t) s) (h2:ws≠[]->Q (.ref s.heap.objs.size) { s with heap:=s.heap.push { cls:=.type "tuple",data:=.seq (vs++ws).toArray } })
  (hsz:vs.length+ws.length<=sizeLine):wpAny (model prog w) A (binaryOp .Add (.ref t) (.ref b)) Q E s:=by
 obtain⟨⟨cls,dd,data,sl⟩,ho,hc,n,hd⟩:=id ht
 obtain⟨⟨cls2,dd2,data2,sl2⟩,ho2,hc2,n2,hd2⟩:=id hb
 simp only at hc hd hc2 hd2
 subst hc hd hc2 hd2
 have e:vs.toArray++ws.toArray=(vs++ws).toArray:=by simp
 by_cases hw:ws=[]
 ·exact concat_meets ⟨_,ho,rfl⟩ ⟨_,ho2,rfl⟩ noFill_tuple_add seq_tuple_add PySem.F.slot_tuple_add PySem.F.entry_tuple_add (PySem.F.args_tuple_add_2 _ _)
   (tuple_addW1 t b vs.toArray ws.toArray n n2 dd dd2 sl sl2 (by simpa using hv) (by simp [hw])) ⟨ho,ho2,h1 hw⟩
 ·refine concat_meets ⟨_,ho,rfl⟩ ⟨_,ho2,rfl⟩ noFill_tuple_add seq_tuple_add PySem.F.slot_tuple_add PySem.F.entry_tuple_add (PySem.F.args_tuple_add_2 _ _)
   (tuple_addW2 t b vs.toArray ws.toArray n n2 dd dd2 sl sl2 (by simpa using hv) (by simpa using hw) (by rw [List.size_toArray,List.size_toArray];exact hsz)) ⟨ho,ho2,?_⟩
  rw [e]
  exact h2 hw
def sIx (n d:Nat):Option Int->Nat
 | none=>d
 | some v=>if v<0 then (v+(n:Int)).toNat else min v.toNat n
theorem zaA (n d:Nat):sIx n d none=d:=rfl
theorem Vo (n d k:Nat):sIx n d (some (k:Int))=min k n:=by
 show (if (k:Int)<0 then ((k:Int)+(n:Int)).toNat else min (k:Int).toNat n)=min k n
 rw [if_neg (by omega),Int.toNat_natCast]
theorem zfH (n d:Nat) (hd:d<=n) (o:Option Int):sIx n d o<=n:=by
 cases o with
 | none=>exact hd
 | some v =>
  show (if v<0 then (v+(n:Int)).toNat else min v.toNat n)<=n
  by_cases hv:v<0
  ·rw [if_pos hv];omega
  ·rw [if_neg hv];exact Nat.min_le_right _ _
theorem zbZ (v:Int) (n d:Nat):(if v<0 then max (v+(n:Int)) 0 else min v (n:Int))=((sIx n d (some v):Nat):Int):=by
 show (if v<0 then max (v+(n:Int)) 0 else min v (n:Int))=(((if v<0 then (v+(n:Int)).toNat else min v.toNat n):Nat):Int)
 by_cases hv:v<0
 ·simp only [if_pos hv];omega
 ·simp only [if_neg hv];omega
theorem zaW (lo hi:Option Int) (n:Nat):Builtin.Slice.sliceAdjust lo hi 1 (n:Int)=(((sIx n 0 lo:Nat):Int),((sIx n n hi:Nat):Int)):=by
 have h1:¬ ((1:Int)<0):=by omega
 unfold Builtin.Slice.sliceAdjust
 simp only [h1,if_false]
 refine Prod.ext ?_ ?_
 ·cases lo with
  | none=>rfl
  | some v=>exact zbZ v n 0
 ·cases hi with
  | none=>rfl
  | some v=>exact zbZ v n n
theorem zbb (i j:Nat):Builtin.Slice.slicePlaces (i:Int) (j:Int) 1=j-i:=by
 unfold Builtin.Slice.slicePlaces
 have h1:(1:Int)>0:=by omega
 simp only [h1,if_true,Int.ediv_one]
 split<;>omega
theorem Us {v:Value} {o:Option Int} {Q:Option Int->Shared->Prop} (p:IsPart v o) (h:Q o s):wpAny (model prog w) A (Builtin.Slice.slicePartIndex v) Q E s:=by
 cases p with
 | none=>exact slicePart_none h
 | int i t=>exact slicePart_int h
theorem Zt {sl:Addr} {vl vu:Value} {lo hi:Option Int} {n:Nat} {Q:Int×Int×Nat->Shared->Prop} (hs:s.heap.IsSliceOf sl vl vu .none) (pl:IsPart vl lo) (pu:IsPart vu hi)
  (h:Q (((sIx n 0 lo:Nat):Int),1,sIx n n hi-sIx n 0 lo) s):wpAny (model prog w) A (Builtin.Slice.sliceApplied (.ref sl) (pure (n:Int))) Q E s:=by
 obtain⟨os,hos,hcs,hds⟩:=id hs
 unfold Builtin.Slice.sliceApplied Builtin.Slice.sliceFields
 refine wpAny_bind (wpAny_bind (wpAny_field hos hds (x:=vl) rfl (wpAny_bind (wpAny_field hos hds (x:=vu) rfl (wpAny_bind (wpAny_field hos hds (x:=.none) rfl (wpAny_pure ?_)))))))
 refine wpAny_bind (slicePart_none ?_)
 show wpAny _ _ (if ((1:Int) == 0)=true then _ else _) _ _ s
 rw [if_neg (by decide)]
 refine wpAny_bind (Us pl (wpAny_bind (Us pu (wpAny_bind (wpAny_pure ?_)))))
 show wpAny _ _ (match Builtin.Slice.sliceAdjust lo hi 1 (n:Int) with | (lo,hi)=>pure (lo,(1:Int),Builtin.Slice.slicePlaces lo hi 1)) _ _ s
 rw [zaW lo hi n]
 show wpAny _ _ (pure (((sIx n 0 lo:Nat):Int),(1:Int),Builtin.Slice.slicePlaces ((sIx n 0 lo:Nat):Int) ((sIx n n hi:Nat):Int) 1)) _ _ s
 rw [zbb]
 exact wpAny_pure h
theorem zdb (xs:Array Value) (i k:Nat):((List.range k).filterMap fun (m:Nat)=>xs[((i:Int)+(m:Int)*1).toNat]?).toArray=((xs.toList.drop i).take k).toArray:=by
 have e:(fun (m:Nat)=>xs[((i:Int)+(m:Int)*1).toNat]?)=fun m=>xs[i+m]?:=by
  funext m
  have:((i:Int)+(m:Int)*1).toNat=i+m:=by omega
  rw [this]
 rw [e]
 have:=pick_run xs i k
 rw [List.filterMap_map] at this
 have e2:((fun x=>xs[x]?) ∘ fun x=>i+x)=fun m=>xs[i+m]?:=rfl
 rw [e2] at this
 rw [this]
theorem Wn {t sl:Addr} {items:Array Value} {vl vu:Value} {lo hi:Option Int} {Q:Value->Shared->Prop} (ht:IsTup s.heap t items) (hs:s.heap.IsSliceOf sl vl vu .none) (pl:IsPart vl lo) (pu:IsPart vu hi)
  (hw:¬ (sIx items.size 0 lo=0/\sIx items.size items.size hi=items.size))
  (h:Q (.ref s.heap.objs.size) { s with heap:=s.heap.push { cls:=.type "tuple",data:=.seq ((items.toList.drop (sIx items.size 0 lo)).take (sIx items.size items.size hi-sIx items.size 0 lo)).toArray } })
  (hsz:items.size<=sizeLine):wpAny (model prog w) A (getItem (.ref t) (.ref sl)) Q E s:=by
 have htake:sizeOk (.seq ((items.toList.drop (sIx items.size 0 lo)).take (sIx items.size items.size hi-sIx items.size 0 lo)).toArray):=by
  show ((items.toList.drop (sIx items.size 0 lo)).take (sIx items.size items.size hi-sIx items.size 0 lo)).toArray.size<=sizeLine
  rw [List.size_toArray,List.length_take,List.length_drop,Array.length_toList]
  omega
 have hj:sIx items.size items.size hi<=items.size:=zfH _ _ (Nat.le_refl _) hi
 obtain⟨os,hos,hcs,hds⟩:=id hs
 have hTs:s.TypeIs (.ref sl) "slice":=⟨os,hos,hcs⟩
 unfold getItem
 try with_reducible refine wpAny_holding ?_
 first | refine wpAny_bind (wpAny_pure ?_) | skip
 refine wpAny_bind (wpAny_sequenceKey ht.typeIs (by decide) ?_)
 refine wpAny_bind (wpAny_callSpecial?_slot (name:=Str.ofString "__getitem__") ht.typeIs PyProof.Rows.slot_tuple_getitem
  (wpAny_call_entry PyProof.Rows.slot_tuple_getitem ht.typeIs entry_tuple_getitem ?_ (args_tuple_getitem _ _)))
 show wpAny _ _ (Builtin.Tuple.tupleItemsOf (.ref t) >>= _) _ _ s
 refine wpAny_bind (tupleItemsOf_ ht ?_)
 refine wpAny_bind (wpAny_typeOf hTs ?_)
 rw [if_pos (by decide)]
 refine wpAny_bind (Zt hs pl pu ?_)
 have hno:¬ ((((sIx items.size 0 lo:Nat):Int) == 0 && (1:Int) == 1 && (sIx items.size items.size hi-sIx items.size 0 lo) == items.size)=true):=by
  intro q
  rw [Bool.and_eq_true,Bool.and_eq_true] at q
  have q1:((sIx items.size 0 lo:Nat):Int)=0:=eq_of_beq q.1.1
  have q2:sIx items.size items.size hi-sIx items.size 0 lo=items.size:=eq_of_beq q.2
  exact hw ⟨by omega,by omega⟩
 show wpAny _ _ (if (((sIx items.size 0 lo:Nat):Int) == 0 && (1:Int) == 1 && (sIx items.size items.size hi-sIx items.size 0 lo) == items.size)=true then _ else _) _ _ s
 rw [if_neg hno,zdb]
 first
  | exact wpAny_bind (m:=Builtin.Tuple.tupleExact _) (wpAny_newObj_type (wpAny_pure ⟨_,rfl,wpAny_pure h⟩) htake)
  | exact wpAny_bind (m:=Builtin.Tuple.tupleExact _) (wpAny_newObj_type (wpAny_bind (wpAny_pure (wpAny_pure ⟨_,rfl,wpAny_pure h⟩))) htake)
  | exact wpAny_bind (wpAny_bind (m:=Builtin.Tuple.tupleExact _) (wpAny_newObj_type (wpAny_pure (wpAny_pure ⟨_,rfl,wpAny_pure h⟩)) htake))
  | exact wpAny_bind (wpAny_bind (m:=Builtin.Tuple.tupleExact _) (wpAny_newObj_type (wpAny_pure ⟨_,rfl,wpAny_pure h⟩) htake))
end
end HT
namespace L2
open PySem PySem.Spec PyProof.Rows
abbrev TO:=St->Hp->(Option Int->Hp->Prop)->Prop
def PO (X:Cx) (e:Option Expr) (t:TO):Prop :=
 ∀ (pins:List (Addr×Obj)) (s:Shared) (Z:St) (H:Hp) (Q:Option Int->Hp->Prop),Inv X pins Z H s->t Z H Q ->
  wpAny (model X.prog X.w) X.A (evalPart e X.env) (fun u s'=>∃ o H',Inv X pins Z H' s'/\IsPart u o/\Q o H') X.xe s
def zbO:TO:=fun _ H Q=>Q none H
def zfb (t:TE):TO:=fun Z H Q=>t Z H fun x H1=>∃ i,x=.int i/\Q (some i) H1
theorem intsAre_of {ns:List Int}:∀ {us:List Value},Vals (ns.map V.int) us->IntsAre us ns:=by
 induction ns with
 | nil=>intro us r;rw [List.map_nil] at r;cases r;exact .nil
 | cons n ns ih =>
  intro us r
  rw [List.map_cons] at r
  cases r with
  | cons r1 r2 =>
   obtain⟨t,e⟩:=r1
   subst e
   exact .cons n t (ih r2)
section
variable {X:Cx} {e:Expr} {te:TE} {lo hi:Option Expr} {tl th:TO} {pos p2:Pos}
theorem jc:PO X none zbO:=by
 intro pins s Z H Q I h
 rw [evalPart_none]
 exact wpAny_pure ⟨none,H,I,.none,h⟩
theorem tE (h:PE X e te):PO X (some e) (zfb te):=by
 intro pins s Z H Q I hw
 rw [evalPart_some]
 refine thn (h pins s Z H _ I hw) fun u s1 ⟨x,H1,I1,r1,q1⟩=>?_
 obtain⟨i,rfl,q⟩:=q1
 obtain⟨t,rfl⟩:=r1
 exact⟨some i,H1,I1,.int i t,q⟩
def SlR (X:Cx) (r:V->Option Int->Option Int->Hp->VK->Prop):Prop :=
 ∀ (pins:List (Addr×Obj)) (s:Shared) (Z:St) (H:Hp) (x:V) (v vl vu:Value) (lo hi:Option Int) (sl:Addr) (Q:VK),Inv X pins Z H s->RelV x v->s.heap.IsSliceOf sl vl vu .none->IsPart vl lo->IsPart vu hi->r x lo hi H Q ->
  ∃ T id,typeLookup (.type T) "__getitem__" = pure (some (.builtin id))/\s.TypeIs v T/\wpAny (model X.prog X.w) X.A (getItem v (.ref sl)) (EP X pins Z Q) X.xe s
def tSl (r:V->Option Int->Option Int->Hp->VK->Prop) (te:TE) (tl th:TO):TE:=fun Z H Q=>te Z H fun x H1=>tl Z H1 fun l H2=>th Z H2 fun u H3=>r x l u H3 Q
theorem vU {r:V->Option Int->Option Int->Hp->VK->Prop} (hr:SlR X r) (he:PE X e te) (hl:PO X lo tl) (hu:PO X hi th):PE X (.Subscript e (.Slice lo hi none p2) pos) (tSl r te tl th):=by
 intro pins s Z H Q I h
 refine Subscript_ (thn (he pins s Z H _ I h) fun v s1 ⟨x,H1,I1,r1,q1⟩=>?_)
 refine wpAny_Slice (thn (hl pins s1 Z H1 _ I1 q1) fun vl s2 ⟨l,H2,I2,pl,q2⟩=>thn (hu pins s2 Z H2 _ I2 q2) fun vu s3 ⟨u,H3,I3,pu,q3⟩=>?_)
 rw [evalPart_none]
 refine wpAny_pure ?_
 have I4:Inv X pins Z H3 { s3 with heap:=s3.heap.push { cls:=.type "slice",data:=.fields #[vl,vu,.none] } }:=I3.kept (t':=s3.toks) fun b ob q=>Heap.get?_push_of_some _ q
 obtain⟨T,id,hT,ht,hg⟩:=hr pins { s3 with heap:=s3.heap.push { cls:=.type "slice",data:=.fields #[vl,vu,.none] } } Z H3 x v vl vu l u s3.heap.objs.size Q I4 r1 (Heap.IsSliceOf.new ..) pl pu q3
 show wpAny (model X.prog X.w) X.A (subscriptTail e (.Slice lo hi none p2) v (.ref s3.heap.objs.size)) (EP X pins Z Q) X.xe { s3 with heap:=s3.heap.push { cls:=.type "slice",data:=.fields #[vl,vu,.none] } }
 exact tail_any (ops:=[.ref s3.heap.objs.size,v]) ht hT hg (by with_unfolding_all rfl)
def uR (xs:List V) (lo hi:Option Int):List V:=(xs.drop (HT.sIx xs.length 0 lo)).take (HT.sIx xs.length xs.length hi-HT.sIx xs.length 0 lo)
theorem WQ (xs:List V) (lo hi:Option Int):(uR xs lo hi).length<=xs.length:=by
 unfold uR
 rw [List.length_take,List.length_drop]
 omega
def zha (K:W.Frag):V->Option Int->Option Int->Hp->VK->Prop:=fun x lo hi H Q=>∃ a xs,x=.ref a/\SqT K H a xs /\
 ¬ (HT.sIx xs.length 0 lo=0/\HT.sIx xs.length xs.length hi=xs.length)/\∀ p,H p=none->Q (.ref p) (upd H p (.tup (uR xs lo hi)))
theorem zfj:SlR X (zha X.K):=by
 intro pins s Z H x v vl vu lo hi sl Q I rx hs pl pu h
 obtain⟨a,xs,rfl,hx,hw,q⟩:=h
 cases rx
 obtain⟨its,r,ht,hz⟩:=I.tuple hx
 have hlen:its.toArray.size=xs.length:=by rw [List.size_toArray];exact r.length.symm
 refine⟨"tuple",_,PyProof.Rows.slot_tuple_getitem.lookup,ht.typeIs,?_⟩
 refine HT.Wn ht hs pl pu (by rw [hlen];exact hw) ?_ (by rw [hlen];exact hz)
 rw [hlen]
 refine⟨.ref s.heap.objs.size,_,I.laid (t':=s.toks) (o:=.tup (uR xs lo hi)) (fun b ob q=>Heap.get?_push_of_some _ q) (Nat.le_refl _) ?_,rfl,q _ (I.hok.fresh (Nat.le_refl _))⟩
 exact⟨Nat.le_trans (WQ xs lo hi) hz,_,(r.drop (HT.sIx xs.length 0 lo)).take (HT.sIx xs.length xs.length hi-HT.sIx xs.length 0 lo),IsTup.new _ _⟩
def zgA (K:W.Frag):R2:=fun x y H Q=>∃ a b xs ys,x=.ref a/\y=.ref b/\SqT K H a xs/\SqT K H b ys/\xs≠[]/\xs.length+ys.length<=sizeLine /\
 (ys=[]->Q (.ref a) H)/\(ys≠[]->∀ p,H p=none->Q (.ref p) (upd H p (.tup (xs++ys))))
theorem Vals.nil_iff {xs:List V} {us:List Value} (r:Vals xs us):us=[]↔xs=[]:=by
 cases r with
 | nil=>simp
 | cons _ _=>simp
theorem ze3:OpR X (binaryOp .Add) (zgA X.K):=by
 intro pins s Z H x y v u Q I rx ry h
 obtain⟨a,b,xs,ys,rfl,rfl,ha,hb,hx,hz,q1,q2⟩:=h
 cases rx
 cases ry
 obtain⟨its,r1,p1,_⟩:=I.tuple ha
 obtain⟨its2,r2,p2,_⟩:=I.tuple hb
 refine HT.zeA p1 p2 (fun z=>hx (r1.nil_iff.mp z)) (fun z=>⟨.ref a,H,I,rfl,q1 (r2.nil_iff.mp z)⟩) (fun z=>?_) (by rw [<- r1.length,<- r2.length];exact hz)
 refine⟨.ref s.heap.objs.size,_,I.laid (t':=s.toks) (o:=.tup (xs++ys)) (fun b ob q=>Heap.get?_push_of_some _ q) (Nat.le_refl _) ?_,rfl,q2 (fun w=>z (r2.nil_iff.mpr w)) _ (I.hok.fresh (Nat.le_refl _))⟩
 exact⟨by rw [List.length_append];exact hz,_,r1.append r2,IsTup.new _ _⟩
end
def ixN (n:Nat) (i:Int):Option Nat:=if 0<=i then (if i<n then some i.toNat else none) else if -(n:Int)<=i then some (i+n).toNat else none
def atI {α:Type} (xs:List α) (i:Int):Option α:=(ixN xs.length i).bind fun j=>xs[j]?
theorem zbL {n:Nat} {i:Int} {j:Nat} (h:ixN n i=some j):seqIndex? i n=some j/\j<n/\-(n:Int)<=i/\i<n:=by
 unfold ixN at h
 by_cases h0:0<=i
 ·rw [if_pos h0] at h
  by_cases h1:i<n
  ·rw [if_pos h1] at h
   have e:i.toNat=j:=Option.some.inj h
   exact⟨by rw [seqIndex_of h0 h1,e],by omega,by omega,h1⟩
  ·rw [if_neg h1] at h;cases h
 ·rw [if_neg h0] at h
  by_cases h1:-(n:Int)<=i
  ·rw [if_pos h1] at h
   have e:(i+n).toNat=j:=Option.some.inj h
   exact⟨by rw [seqIndex_neg (by omega) h1,e],by omega,h1,by omega⟩
  ·rw [if_neg h1] at h;cases h
theorem zbW {α:Type} {xs:List α} {i:Int} {v:α} (h:atI xs i=some v):∃ j,seqIndex? i xs.length=some j/\xs[j]?=some v/\j<xs.length/\-(xs.length:Int)<=i/\i<xs.length:=by
 unfold atI at h
 cases e:ixN xs.length i with
 | none=>rw [e] at h;cases h
 | some j =>
  rw [e] at h
  obtain⟨h1,h2,h3,h4⟩:=zbL e
  exact⟨j,h1,h,h2,h3,h4⟩
theorem vG {α:Type} {xs:List α} {j:Nat} {v:α} (h:xs[j]?=some v):atI xs (j:Int)=some v:=by
 have hj:j<xs.length:=(List.getElem?_eq_some_iff.mp h).1
 have e:ixN xs.length (j:Int)=some j:=by
  unfold ixN
  rw [if_pos (by omega),if_pos (by omega)];simp
 unfold atI;rw [e];exact h
theorem zea {α:Type} (xs:List α) (v:α):atI (xs++[v]) (-1)=some v:=by
 have hl:(xs++[v]).length=xs.length+1:=by simp
 have e:ixN (xs++[v]).length (-1)=some xs.length:=by
  unfold ixN
  rw [hl,if_neg (by decide),if_pos (by omega)]
  congr 1
  omega
 unfold atI
 rw [e]
 show (xs++[v])[xs.length]?=some v
 simp
def zei (b:Expr):Prop:=∀ o i,subscripted b false o i=operate [o,i] (getItem o i)
def IxR (X:Cx) (r:R2):Prop :=
 ∀ (value slice:Expr) (pins:List (Addr×Obj)) (s:Shared) (Z:St) (H:Hp) (x y:V) (v u:Value) (Q:VK),Inv X pins Z H s->RelV x v->RelV y u->r x y H Q ->
  subscripted slice false v u=operate [v,u] (getItem v u)->wpAny (model X.prog X.w) X.A (subscriptTail value slice v u) (EP X pins Z Q) X.xe s
def MtR (X:Cx) (id:String) (r:V->List V->Hp->VK->Prop):Prop :=
 ∀ (pins:List (Addr×Obj)) (s:Shared) (Z:St) (H:Hp) (x:V) (xs:List V) (v:Value) (us:List Value) (Q:VK),Inv X pins Z H s->RelV x v->Vals xs us->r x xs H Q ->
  wpAny (model X.prog X.w) X.A (call (.builtin id) (v :: us)) (EP X pins Z Q) X.xe s
section
variable {X:Cx} {a b:Expr} {ta tb:TE} {pos:Pos}
theorem zP {r:R2} (hr:IxR X r) (ha:PE X a ta) (hb:PE X b tb) (hs:zei b):PE X (.Subscript a b pos) (tOp r ta tb):=by
 intro pins s Z H Q I h
 exact Subscript_ (zfO ha hb I h fun v u s2 x y H2 I2 rx ry q=>hr a b pins s2 Z H2 x y v u Q I2 rx ry q (hs _ _))
def zgh (K:W.Frag):R2:=fun x y H Q=>∃ p xs i v,x=.ref p/\y=.int i/\SqL K H p xs/\atI xs i=some v/\Q v H
def zgM (K:W.Frag):R2:=fun x y H Q=>∃ p xs i v,x=.ref p/\y=.int i/\SqT K H p xs/\atI xs i=some v/\Q v H
theorem zeN:IxR X (zgh X.K):=by
 intro value slice pins s Z H x y v u Q I rx ry h hs
 obtain⟨p,xs,i,z,rfl,rfl,hq,he,q⟩:=h
 cases rx
 obtain⟨t,rfl⟩:=ry
 obtain⟨its,r,pl,hz⟩:=I.list hq
 obtain⟨j,h1,h2,h3,h4,h5⟩:=zbW he
 obtain⟨w,ew,rw'⟩:=r.get h2
 have hl:=r.length
 have hn:=Jo
 have fin:EP X pins Z Q w s:=⟨z,H,I,rw',q⟩
 by_cases h0:0<=i
 ·have hj:i.toNat=j:=by
   rw [seqIndex_of h0 h5] at h1
   exact Option.some.inj h1
  exact item_listR pl.isList h0 (by omega) (by rw [hj];simpa using ew) fin hs
 ·have hj:(i+(its.toArray.size:Int)).toNat=j:=by
   rw [seqIndex_neg (by omega) h4] at h1
   rw [List.size_toArray,<- hl]
   exact Option.some.inj h1
  exact subscriptTail_builtinR (x:=w) pl.isList.typeIs slot_list_getitem.lookup
   (wpAny_getItem_list_neg (Q:=fun r s'=>r=w/\EP X pins Z Q r s') pl.isList (by omega) (by rw [List.size_toArray]<;>omega) (by omega) (by rw [hj];simpa using ew) ⟨rfl,fin⟩) hs
theorem zfT:IxR X (zgM X.K):=by
 intro value slice pins s Z H x y v u Q I rx ry h hs
 obtain⟨p,xs,i,z,rfl,rfl,hq,he,q⟩:=h
 cases rx
 obtain⟨t,rfl⟩:=ry
 obtain⟨its,r,pl,hz⟩:=I.tuple hq
 obtain⟨j,h1,h2,h3,h4,h5⟩:=zbW he
 obtain⟨w,ew,rw'⟩:=r.get h2
 have hl:=r.length
 have hn:=Jo
 have fin:EP X pins Z Q w s:=⟨z,H,I,rw',q⟩
 exact subscriptTail_builtinR (x:=w) pl.typeIs slot_tuple_getitem.lookup
  (getItem_tuple (j:=j) (Q:=fun r s'=>r=w/\EP X pins Z Q r s') pl (by omega) (by omega) (by rw [List.size_toArray,<- hl];exact h1) (by simpa using ew) ⟨rfl,fin⟩) hs
theorem zaY (its:List Value) (n j:Nat) (u:Value):Obj.mapSeq (·.setIfInBounds j u) { cls:=.type "list",data:=.seq its.toArray n }={ cls:=.type "list",data:=.seq (its.set j u).toArray n }:=by
 simp [Obj.mapSeq]
theorem Inv.lst {pins:List (Addr×Obj)} {Z:St} {H:Hp} {s:Shared} {p:Addr} {xs:List V} (I:Inv X pins Z H s) (h:H p=some (.lst xs)) :
  ∃ (its:List Value) (n:Nat),Vals xs its/\s.heap.get? p=some { cls:=.type "list",data:=.seq its.toArray n }/\xs.length<=sizeLine:=by
 obtain⟨z,its,n,r,e⟩:=I.hok p _ h
 exact⟨its,n,r,e,z⟩
theorem Inv.lstUpd {pins:List (Addr×Obj)} {Z:St} {H:Hp} {s:Shared} {p:Addr} {xs ys:List V} {its its':List Value} {n n':Nat} {f:Obj->Obj} (I:Inv X pins Z H s) (h:H p=some (.lst xs))
  (ho:s.heap.get? p=some { cls:=.type "list",data:=.seq its.toArray n }) (hf:f { cls:=.type "list",data:=.seq its.toArray n }={ cls:=.type "list",data:=.seq its'.toArray n' }) (r:Vals ys its') (hz:ys.length<=sizeLine) (t:Nat) :
  Inv X pins Z (upd H p (.lst ys)) { s with heap:=s.heap.update p f,toks:=t }:=by
 have e:(s.heap.update p f).get? p=some { cls:=.type "list",data:=.seq its'.toArray n' }:=by
  rw [Heap.get?_update_self f ho (by rw [hf]<;>rfl),hf]
 refine I.write (x:=p) (e:=p) (by rw [h];trivial) (.inl rfl) (fun b u hb q=>(Heap.get?_update_other _ _ (Ne.symm hb)).trans q) ⟨_,e⟩ ?_
 exact⟨hz,its',n',r,e⟩
def zgu:V->V->V->Hp->(Hp->Prop)->Prop:=fun o i v H Q=>∃ p xs k j,o=.ref p/\i=.int k/\H p=some (.lst xs)/\ixN xs.length k=some j/\Q (upd H p (.lst (xs.set j v)))
theorem set_list:zgv X zgu:=by
 intro pins s Z H o i v ov iv u Q I ro ri rv h
 obtain⟨p,xs,k,j,rfl,rfl,hp,hj,q⟩:=h
 cases ro
 obtain⟨t,rfl⟩:=ri
 obtain⟨its,n,r,ho,hz⟩:=I.lst hp
 obtain⟨h1,h2,h3,h4⟩:=zbL hj
 have hl:=r.length
 have hn:=Jo
 have I':Inv X pins Z (upd H p (.lst (xs.set j v))) { s with heap:=s.heap.update p (Obj.mapSeq (·.setIfInBounds j u)) } :=
  I.lstUpd hp ho (zaY its n j u) (r.set rv j) (by rw [List.length_set];exact hz) s.toks
 by_cases h0:0<=k
 ·have hk:k.toNat=j:=by
   rw [seqIndex_of h0 h4] at h1
   exact Option.some.inj h1
  exact W.ki_setAt ho h0 (by omega) (by rw [List.size_toArray,<- hl];exact h4) (by rw [hk];exact⟨_,I',q⟩)
 ·have hk:(k+(its.toArray.size:Int)).toNat=j:=by
   rw [seqIndex_neg (by omega) h3] at h1
   rw [List.size_toArray,<- hl]
   exact Option.some.inj h1
  exact W.ki_setBack ho (by omega) (by rw [List.size_toArray,<- hl];exact h3) (by omega) (by rw [hk];exact⟨_,I',q⟩)
theorem JR (lo hi:Option Int) (n:Nat):(sliceBounds lo hi none n).1=((HT.sIx n 0 lo:Nat):Int)/\(sliceBounds lo hi none n).2.1=((HT.sIx n n hi:Nat):Int)/\(sliceBounds lo hi none n).2.2=1:=by
 refine⟨?_,?_,rfl⟩
 ·cases lo with
  | none=>simp [sliceBounds,HT.sIx]
  | some i =>
   simp only [sliceBounds,HT.sIx,Option.getD_none,show (1:Int)>0 by decide,if_true]
   by_cases h:i<0
   ·simp only [h,if_true]<;>omega
   ·simp only [h,if_false]<;>omega
 ·cases hi with
  | none=>simp [sliceBounds,HT.sIx]
  | some i =>
   simp only [sliceBounds,HT.sIx,Option.getD_none,show (1:Int)>0 by decide,if_true]
   by_cases h:i<0
   ·simp only [h,if_true]<;>omega
   ·simp only [h,if_false]<;>omega
theorem U4 (its:List Value) (lo hi:Option Int):slicePick its.toArray lo hi none=((its.drop (HT.sIx its.length 0 lo)).take (HT.sIx its.length its.length hi-HT.sIx its.length 0 lo)).toArray:=by
 obtain⟨h1,h2,h3⟩:=JR lo hi its.toArray.size
 unfold slicePick
 rw [h1,h2,h3]
 simp only [sliceRange_one,pick_run,List.size_toArray]<;>rfl
def zfY (K:W.Frag):V->Option Int->Option Int->Hp->VK->Prop:=fun x lo hi H Q=>∃ a xs,x=.ref a/\SqL K H a xs/\∀ p,H p=none->Q (.ref p) (upd H p (.lst (uR xs lo hi)))
theorem zem:SlR X (zfY X.K):=by
 intro pins s Z H x v vl vu lo hi sl Q I rx hs pl pu h
 obtain⟨a,xs,rfl,hx,q⟩:=h
 cases rx
 obtain⟨its,r,ht,hz⟩:=I.list hx
 have hlen:=r.length
 refine⟨"list",_,slot_list_getitem.lookup,ht.isList.typeIs,?_⟩
 refine wpAny_getItem_list_slice ht.isList hs pl pu .none (by simp) ?_ (by rw [List.size_toArray]<;>omega)
 rw [U4,<- hlen]
 refine⟨.ref s.heap.objs.size,_,I.laid (t':=s.toks) (o:=.lst (uR xs lo hi)) (fun b ob q=>Heap.get?_push_of_some _ q) (Nat.le_refl _) ?_,rfl,q _ (I.hok.fresh (Nat.le_refl _))⟩
 exact⟨Nat.le_trans (WQ xs lo hi) hz,_,0,(r.drop (HT.sIx xs.length 0 lo)).take (HT.sIx xs.length xs.length hi-HT.sIx xs.length 0 lo),Heap.get?_push_size _ rfl⟩
theorem Jt:vB X (.builtin "len") (fun xs H Q=>∃ p ys,xs=[.ref p]/\(SqL X.K H p ys\/SqT X.K H p ys)/\Q (.int ys.length) H):=by
 intro pins s Z H xs us Q I r h
 obtain⟨p,ys,rfl,hq,q⟩:=h
 obtain⟨u,rfl,rx⟩:=vals1 r
 cases rx
 have hn:=Jo
 rcases hq with hq | hq
 ·obtain⟨its,r',pl,hz⟩:=I.list hq
  have hlen:=r'.length
  exact Calls.call_len_list pl.isList (by simp only [List.size_toArray]<;>omega) ⟨.int ys.length,H,I.tok _,⟨s.toks+1,by rw [List.size_toArray,hlen]⟩,q⟩
 ·obtain⟨its,r',pl,hz⟩:=I.tuple hq
  have hlen:=r'.length
  exact len_tuple pl (by simp only [List.size_toArray]<;>omega) ⟨.int ys.length,H,I.tok _,⟨s.toks+1,by rw [List.size_toArray,hlen]⟩,q⟩
theorem Jk:vB X (.type "list") (fun xs H Q=>∃ p ys,xs=[.ref p]/\(SqL X.K H p ys\/SqT X.K H p ys)/\∀ l,H l=none->Q (.ref l) (upd H l (.lst ys))):=by
 intro pins s Z H xs us Q I r h
 obtain⟨p,ys,rfl,hq,q⟩:=h
 obtain⟨u,rfl,rx⟩:=vals1 r
 cases rx
 have fin:∀ (its:List Value),Vals ys its->ys.length<=sizeLine->∀ (h':Heap) (c':Nat),(∀ b o',s.heap.get? b=some o'->h'.get? b=some o') ->
   h'.get? s.heap.objs.size=some { cls:=.type "list",dict:=none,data:=.seq its.toArray c',slots:=#[] }->EP X pins Z Q (.ref s.heap.objs.size) { s with heap:=h' }:=fun its r' hz h' c' kp e =>
  ⟨.ref s.heap.objs.size,_,I.laid (t':=s.toks) kp (Nat.le_refl _) (show ObjOk X.prog X.w _ h' _ (.lst ys) from ⟨hz,its,c',r',e⟩),rfl,q _ (I.hok.fresh (Nat.le_refl _))⟩
 rcases hq with hq | hq
 ·obtain⟨its,r',pl,hz⟩:=I.list hq
  have hlen:=r'.length
  obtain⟨o,ho,hc,n,hd⟩:=pl.isList
  exact call_list_seq p (.inl rfl) ho hc hd (fun h' c' kp e=>fin its r' hz h' c' kp e) (by simp only [List.size_toArray]<;>omega)
 ·obtain⟨its,r',pl,hz⟩:=I.tuple hq
  have hlen:=r'.length
  obtain⟨o,ho,hc,n,hd⟩:=pl
  exact call_list_seq p (.inr rfl) ho hc hd (fun h' c' kp e=>fin its r' hz h' c' kp e) (by simp only [List.size_toArray]<;>omega)
theorem Xd:vB X (.type "tuple") (fun xs H Q=>∃ p ys,xs=[.ref p]/\((SqL X.K H p ys/\∀ l,H l=none->Q (.ref l) (upd H l (.tup ys)))\/(SqT X.K H p ys/\Q (.ref p) H))):=by
 intro pins s Z H xs us Q I r h
 obtain⟨p,ys,rfl,h⟩:=h
 obtain⟨u,rfl,rx⟩:=vals1 r
 cases rx
 rcases h with ⟨hq,q⟩ | ⟨hq,q⟩
 ·obtain⟨its,r',pl,hz⟩:=I.list hq
  have hlen:=r'.length
  refine call_tuple_list pl.isList (fun h' kp=>?_) (by simp only [List.size_toArray]<;>omega)
  have I1:Inv X pins Z H { s with heap:=h' }:=I.kept (t':=s.toks) kp
  have I2:Inv X pins Z (upd H h'.objs.size (.tup ys)) { s with heap:=h'.push { cls:=.type "tuple",data:=.seq its.toArray } } :=
   I1.laid (t':=s.toks) (fun b o e=>Heap.get?_push_of_some _ e) (Nat.le_refl _) (show ObjOk X.prog X.w _ _ _ (.tup ys) from ⟨hz,its,r',IsTup.new _ _⟩)
  exact⟨.ref h'.objs.size,_,I2,rfl,q _ (I1.hok.fresh (Nat.le_refl _))⟩
 ·obtain⟨its,r',pl,hz⟩:=I.tuple hq
  exact call_tuple_same pl ⟨.ref p,H,I,rfl,q⟩
def tyV (K:W.Frag) (T:String) (x:V) (H:Hp):Prop:=match x with
 | .str _=>T = "str"
 | .int _=>T = "int"
 | .ref p=>(T = "list"/\∃ xs,SqL K H p xs)\/(T = "tuple"/\∃ o,K.lookup p=some o/\o.cls=.type "tuple"/\o.dict=none) \/
   (T = "dict"/\((∃ kvs,H p=some (.dK kvs))\/∃ kvs,H p=some (.dT kvs)))\/(T = "set"/\∃ S n,H p=some (.set S n))
 | _=>False
theorem zfP {pins:List (Addr×Obj)} {Z:St} {H:Hp} {s:Shared} {T:String} {x:V} {v:Value} (I:Inv X pins Z H s) (r:RelV x v) (ty:tyV X.K T x H) :
  s.TypeIs v T/\∀ a,v=.ref a->∃ ob,s.heap.get? a=some ob/\ob.dict=none:=by
 cases x with
 | str z =>
  obtain⟨t,rfl⟩:=r
  cases (show T = "str" from ty)
  exact⟨typeIs_str s z t,fun _ e=>nomatch e⟩
 | int i =>
  obtain⟨t,rfl⟩:=r
  cases (show T = "int" from ty)
  exact⟨typeIs_int s i t,fun _ e=>nomatch e⟩
 | ref p =>
  cases r
  rcases ty with ⟨rfl,xs,hq⟩ | ⟨rfl,o,hk,hc,hd⟩ | ⟨rfl,hk⟩ | ⟨rfl,S,n,hk⟩
  ·obtain⟨its,_,pl,_⟩:=I.list hq
   refine⟨pl.isList.typeIs,fun a e=>?_⟩
   cases e
   obtain⟨o,n,e,c,hd,_⟩:=pl
   exact⟨o,e,hd⟩
  ·refine⟨⟨o,I.kIn p o hk,hc⟩,fun a e=>?_⟩
   cases e
   exact⟨o,I.kIn _ o hk,hd⟩
  ·have z:∃ o,s.heap.get? p=some o/\o.ExactDict:=by
    rcases hk with ⟨kvs,hk⟩ | ⟨kvs,hk⟩
    ·obtain⟨_,_,_,_,o,_,_,e,ex,_⟩:=I.hok p _ hk
     exact⟨o,e,ex⟩
    ·obtain⟨_,_,_,_,o,_,_,e,ex,_⟩:=I.hok p _ hk
     exact⟨o,e,ex⟩
   obtain⟨o,e,ex⟩:=z
   refine⟨⟨o,e,ex.1⟩,fun a e2=>?_⟩
   cases e2
   exact⟨o,e,ex.2.1⟩
  ·obtain⟨o,_,_,_,e,ex,_⟩:=I.hok p _ hk
   refine⟨⟨o,e,ex.1⟩,fun a e2=>?_⟩
   cases e2
   exact⟨o,e,ex.2.1⟩
 | _=>exact False.elim ty
def tBM (K:W.Frag) (T:String) (r:V->List V->Hp->VK->Prop) (to:TE) (t:TA):TE:=fun Z H Q=>to Z H fun x H1=>tyV K T x H1/\t Z H1 fun xs H2=>r x xs H2 Q
variable {o e:Expr} {es:List Expr} {to:TE} {t:TA} {name:Str} {apos cpos:Pos} {T id:String} {r:V->List V->Hp->VK->Prop}
theorem Y5 (pa:PlainAttrs T) (slot:Slot T name id) (hty:typeOf (.builtin id)=pure (.type "method_descriptor")) (hm:MtR X id r) (ho:PE X o to) (ha:PA X (e :: es) t)
  (hbase:attributeBase o name X.env (eval o X.env)=eval o X.env:=by rfl)
  (hfew:((backTo cpos (starEach (e :: es) X.env)).all (fun x=>!x.1) && (backToKw cpos (keywordEach [] X.env)).all (fun x=>x.1.isSome)
   && decide ((e :: es).length+([]:List Keyword).length+(if ([]:List Keyword).isEmpty then 0 else 1)<30))=true:=by rfl)
  (hline:(apos.endLine == cpos.line)=true:=by rfl) (hs:starEach (e :: es) X.env=(false,eval e X.env) :: starEach es X.env:=by rfl) (hplain:(backTo cpos (starEach es X.env)).any (·.1)=false:=by rfl) :
  PE X (.Call (.Attribute o name apos) (e :: es) [] cpos) (tBM X.K T r to t):=by
 intro pins s Z H Q I h
 refine wpAny_Call_method_late hbase hfew hline rfl (thn (ho pins s Z H _ I h) fun v s1 ⟨x,H1,I1,r1,ty,q1⟩=>?_)
 obtain⟨h1,h2⟩:=zfP I1 r1 ty
 refine⟨T,id,pa,slot,hty,h1,h2,?_⟩
 have hA:=ha cpos pins s1 Z H1 _ I1 q1
 rw [hs] at hA ⊢
 refine Calls.callWith_builtin (by show (false || (backTo cpos (starEach es X.env)).any (·.1))=false;rw [hplain]<;>rfl) (Calls.evalArgs_plain ?_)
 exact thn hA fun us s2 ⟨vs,H2,I2,r2,q2⟩=>hm pins s2 Z H2 x vs v us Q I2 r1 r2 q2
end
def MtM (X:Cx) (id:String) (r:V->List V->Hp->VK->Prop):Prop :=
 ∀ (pins:List (Addr×Obj)) (s:Shared) (Z:St) (H:Hp) (x:V) (xs:List V) (v:Value) (us:List Value) (Q:VK),Inv X pins Z H s->RelV x v->Vals xs us->r x xs H Q ->
  wpAny (model X.prog X.w) X.A (call (.builtin id) (v :: us)) (EP X pins Z Q) X.xe s
theorem Vals.one:∀ {x:V} {us:List Value},Vals [x] us->∃ u,us=[u]/\RelV x u
 | _,_,.cons r .nil=>⟨_,rfl,r⟩
theorem Vals.zero:∀ {us:List Value},Vals [] us->us=[]
 | _,.nil=>rfl
theorem Vals.dropLast {xs:List V} {us:List Value} (h:Vals xs us):Vals xs.dropLast us.dropLast:=by
 induction h with
 | nil=>exact .nil
 | cons r t ih =>
  cases t with
  | nil=>exact .nil
  | cons q t'=>exact .cons r ih
theorem Vals.reverse {xs:List V} {us:List Value} (h:Vals xs us):Vals xs.reverse us.reverse:=by
 induction h with
 | nil=>exact .nil
 | cons r t ih=>rw [List.reverse_cons,List.reverse_cons];exact Vals.append ih (.cons r .nil)
theorem Vals.rep {xs:List V} {us:List Value} (h:Vals xs us):∀ k:Nat,Vals (List.replicate k xs).flatten (List.replicate k us).flatten
 | 0=>.nil
 | k+1=>by
  rw [List.replicate_succ,List.replicate_succ,List.flatten_cons,List.flatten_cons]
  exact Vals.append h (Vals.rep h k)
theorem foldl_rep (its:List Value):∀ (k:Nat) (acc:List Value),
  List.foldl (fun x1 x2=>x1++x2) acc.toArray (List.replicate k its.toArray)=(acc++(List.replicate k its).flatten).toArray
 | 0,acc=>by simp
 | k+1,acc=>by
  have e:acc.toArray++its.toArray=(acc++its).toArray:=by simp
  have e2:(acc++its)++(List.replicate k its).flatten=acc++(List.replicate (k+1) its).flatten:=by
   rw [List.replicate_succ,List.flatten_cons,List.append_assoc]
  rw [<- e2,<- foldl_rep its k (acc++its),<- e,List.replicate_succ,List.foldl_cons]
section
variable {X:Cx} {pins:List (Addr×Obj)} {Z:St} {H:Hp} {s:Shared} {l b:Addr} {xs ys zs:List V}
theorem Inv.lset {its its':List Value} {n:Nat} {f:Array Value->Array Value} {t':Nat} (I:Inv X pins Z H s) (hH:H l=some (.lst xs))
  (e:s.heap.get? l=some { cls:=.type "list",data:=.seq its.toArray n }) (hf:f its.toArray=its'.toArray) (hv:Vals ys its') (hz:ys.length<=sizeLine) :
  Inv X pins Z (upd H l (.lst ys)) { s with heap:=s.heap.update l (Obj.mapSeq f),toks:=t' }:=by
 have q:=PySem.IsL.update e f
 rw [hf] at q
 refine I.write (x:=l) (e:=l) (by rw [hH];exact trivial) (.inl rfl) (fun b' u hb hu=>(Heap.get?_update_other s.heap (Obj.mapSeq f) (Ne.symm hb)).trans hu) ⟨_,q⟩ ?_
 exact⟨hz,its',_,hv,q⟩
theorem Inv.lnew {its:List Value} {t':Nat} (I:Inv X pins Z H s) (hv:Vals ys its) (hz:ys.length<=sizeLine) :
  Inv X pins Z (upd H s.heap.objs.size (.lst ys)) { s with heap:=s.heap.push { cls:=.type "list",data:=.seq its.toArray },toks:=t' } :=
 I.laid (fun _ _ q=>Heap.get?_push_of_some _ q) (Nat.le_refl _) ⟨hz,its,0,hv,Heap.get?_push_size _ rfl⟩
theorem Inv.fresh (I:Inv X pins Z H s):H s.heap.objs.size=none:=I.hok.fresh (Nat.le_refl _)
theorem Inv.lstM (I:Inv X pins Z H s) (hH:H l=some (.lst xs)):xs.length<=sizeLine/\∃ (its:List Value) (n:Nat),Vals xs its/\xs.length=its.length/\s.heap.get? l=some { cls:=.type "list",data:=.seq its.toArray n }:=by
 obtain⟨z,its,n,r,e⟩:=I.hok l _ hH
 exact⟨z,its,n,r,r.length,e⟩
theorem zdW {n:Nat} (h:n<=sizeLine):Builtin.List.listTooLong n=false:=by
 unfold Builtin.List.listTooLong
 exact decide_eq_false (by omega)
end
section
variable {X:Cx}
def zen:V->List V->Hp->VK->Prop:=fun x vs H Q=>∃ l xs y,x=.ref l/\vs=[y]/\H l=some (.lst xs)/\xs.length<sizeLine/\Q .non (upd H l (.lst (xs++[y])))
theorem vM:MtM X "list.append" zen:=by
 intro pins s Z H x vs v us Q I rx rv h
 obtain⟨l,xs,y,rfl,rfl,hH,hz,q⟩:=h
 cases rx
 obtain⟨u,rfl,ru⟩:=rv.one
 obtain⟨z,its,n,r,hl,e⟩:=I.lstM hH
 refine call_meets F.slot_list_append ⟨_,e,rfl⟩ F.entry_list_append (F.args_list_append_2 _ _) (PySem.list_append l its.toArray n u (by rw [List.size_toArray];omega)) ⟨e,?_⟩
 refine⟨.non,_,I.lset (its':=its++[u]) hH e (by simp) (r.append (.cons ru .nil)) ?_,rfl,q⟩
 rw [List.length_append,List.length_singleton]
 omega
def zf7:R2:=fun x y H Q=>∃ l b xs zs,x=.ref l/\y=.ref b/\H l=some (.lst xs)/\H b=some (.lst zs)/\xs.length+zs.length<=sizeLine/\∀ p,H p=none->Q (.ref p) (upd H p (.lst (xs++zs)))
theorem jn:OpR X (binaryOp .Add) zf7:=by
 intro pins s Z H x y v u Q I rx ry h
 obtain⟨l,b,xs,zs,rfl,rfl,hH,hB,hz,q⟩:=h
 cases rx
 cases ry
 obtain⟨z,its,n,r,hl,e⟩:=I.lstM hH
 obtain⟨z2,its2,n2,r2,hl2,e2⟩:=I.lstM hB
 refine PySem.P.add_list e e2 ?_ (by rw [List.size_toArray,List.size_toArray];omega)
 have ea:its.toArray++its2.toArray=(its++its2).toArray:=by simp
 rw [ea]
 exact⟨.ref _,_,I.lnew (t':=s.toks) (r.append r2) (by rw [List.length_append];omega),rfl,q _ I.fresh⟩
def zgq:R2:=fun x y H Q=>∃ l k xs,x=.ref l/\y=.int k/\H l=some (.lst xs)/\-(2^63)<=k/\k<2^63/\xs.length*k.toNat<=sizeLine /\
 ∀ p,H p=none->Q (.ref p) (upd H p (.lst (List.replicate k.toNat xs).flatten))
theorem len_rep {α:Type} (xs:List α) (k:Nat):(List.replicate k xs).flatten.length=k*xs.length:=by
 induction k with
 | zero=>simp
 | succ k ih=>rw [List.replicate_succ,List.flatten_cons,List.length_append,ih,Nat.succ_mul,Nat.add_comm]
theorem zc2:OpR X (binaryOp .Mult) zgq:=by
 intro pins s Z H x y v u Q I rx ry h
 obtain⟨l,k,xs,rfl,rfl,hH,h1,h2,hz,q⟩:=h
 cases rx
 obtain⟨t,rfl⟩:=ry
 obtain⟨z,its,n,r,hl,e⟩:=I.lstM hH
 have hlen:its.toArray.size*k.toNat<=sizeLine:=by rw [List.size_toArray,<- hl];exact hz
 have hcap:¬ its.toArray.size*k.toNat>(2^63-1) / 8:=by
  have:(sizeLine:Nat)<=(2^63-1) / 8:=by decide
  omega
 have hfit:¬ (!Builtin.List.listFitsIndex k)=true:=by
  rw [fitsIndex_both h1 h2]
  exact Bool.false_ne_true
 have hlong:¬ Builtin.List.listTooLong (its.toArray.size*k.toNat)=true:=by
  rw [zdW hlen]
  exact Bool.false_ne_true
 have hnew:List.foldl (fun x1 x2=>x1++x2) #[] (List.replicate (if its.toArray.isEmpty=true then 0 else k.toNat) its.toArray)=(List.replicate k.toNat its).flatten.toArray:=by
  have f0:∀ m:Nat,List.foldl (fun x1 x2=>x1++x2) #[] (List.replicate m its.toArray)=(List.replicate m its).flatten.toArray:=fun m=>by
   have:=foldl_rep its m []
   rw [List.nil_append] at this
   exact this
  rw [f0]
  cases its with
  | nil=>simp
  | cons a r'=>rw [if_neg (by simp)]
 refine wpAny_binaryOp_repeat_ref (T:="list") (U:="int") (by decide) ⟨_,e,rfl⟩ (fun s'=>typeIs_int s' k t) noFill_list_mul F.fills_int_mul F.slot_int_rmul repeat_list F.slot_int_index.lookup
  (call_meets F.slot_int_rmul (typeIs_int s k t) F.entry_int_rmul (F.args_int_rmul_2 _ _) (int___rmul___int_list k t l its.toArray n)
   ⟨e,rfl,⟨_,e,rfl⟩,call_meets F.slot_list_mul ⟨_,e,rfl⟩ F.entry_list_mul (F.args_list_mul_2 _ _) (AutoListH.list___mul___list_int_3 l its.toArray n k t hfit hcap hlong) ⟨e,?_⟩⟩)
 rw [hnew]
 exact⟨.ref _,_,I.lnew (t':=s.toks) (r.rep k.toNat) (by rw [len_rep,Nat.mul_comm];exact hz),rfl,q _ I.fresh⟩
end
section
variable {prog:Program} {w:World} {A:Around} {E:Value->Shared->Prop} {s:Shared}
end
section
variable {X:Cx}
end
end L2
namespace Att
open PySem PySem.W PySem.Calls PyProof.Rows
theorem Vj {P:Params} {h:Heap}:∀ (ns:List Int) (vs:List Value),WellAll P h vs (ns.map WData.int)->IntsAre vs ns:=by
 intro ns
 induction ns with
 | nil =>
  intro vs w
  rw [List.map_nil] at w
  cases w
  exact .nil
 | cons n ns ih =>
  intro vs w
  rw [List.map_cons] at w
  cases w with
  | cons a b =>
   cases a
   exact .cons _ _ (ih _ b)
theorem zcM {l:OpenLaw} {n:Nat} (hn:l.most=some n) {P:Params} {h:Heap} {args:List WData} {vals:List Value}
  (hpre:l.row.toRowW.claim.pre args=true) (hwl:WellAll P h vals args) :
  ∃ a vs ns,vals=[Value.ref a]/\args=[WData.list (ns.map WData.int)]/\h.get? a=some { cls:=.type "list",data:=.seq vs.toArray }/\IntsAre vs ns/\ns.length<=n:=by
 have hsh:WShape.hasAll [] args [.list .int]=true:=(pre_splitW hpre).1
 have hc:l.pre.holds [] { args:=args }=true:=(pre_splitW hpre).2
 obtain⟨d,r,rfl,h1,h2⟩:=hasAllW_cons hsh
 obtain rfl:=hasAllW_nil h2
 obtain⟨xs,rfl,h3⟩:=hasW_list h1
 obtain⟨ns,rfl⟩:=items_int h3
 have hlen:ns.length<=n:=by
  unfold OpenLaw.pre at hc
  have h4:(WTm.not (.lt (.lit (.int (n:Int))) (.len (.arg 0)))).holds [] { args:=[.list (ns.map .int)] }=true:=by
   have h4:=(holds_andW hc).1
   rw [hn] at h4
   exact h4
  have h5:=condW_of h4 (w_not (w_lt w_lit (w_len_list (w_arg rfl))))
  rw [List.length_map] at h5
  refine Nat.le_of_not_lt fun q=>?_
  have q':(n:Int)<((ns.length:Nat):Int):=by omega
  first
   | (rw [decide_eq_true q'] at h5;exact absurd h5 (by decide))
   | (simp at h5;omega)
 cases hwl with
 | cons w1 w2 =>
  cases w2
  cases w1 with
  | list ho hall=>exact⟨_,_,ns,rfl,rfl,ho,Vj ns _ hall,hlen⟩
theorem zco (l:OpenLaw) (args:List WData):l.row.toRowW.claim.post args (.bool true) args=true :=
 postW_of (r:=l.row.toRowW) (X:=(true == true))
  (show WShape.has [] (.bool true) .bool=true by first | rfl | decide | simp [WShape.has,WShape.arms,WShape.armsAll])
  (show (WTm.eq .res (.lit (.bool true))).value [] { args:=args,res:=some (.bool true),after:=args }=some (.bool (true == true)) from w_eq_bool (w_res rfl) w_lit) rfl
theorem zaF {l:OpenLaw} {n:Nat} {q:Program} {loose:List Str} {XP:(Str->Option Value)->Heap->Prop} {YP:World->Heap->Prop} {d:DefRec}
  (hn:l.most=some n) (hdf:d.params.defaults=[])
  (call:∀ (w:World) (s₀ s₁:Shared) (mg mb:Str->Option Value) (fa:Addr) (o:Obj) (pm cd doc:Value) (a:Addr) (vs:List Value) (ns:List Int),
   Ground q loose [] XP w s₀ mg mb s₁.heap->YP w s₁.heap ->
   s₁.heap.get? fa=some o->o.data=.func (docDef d.name d.params d.body d.scope pm cd doc)->s₁.heap.CodeRec cd d.name->mg d.name=some (.ref fa) ->
   s₁.heap.get? a=some { cls:=.type "list",data:=.seq vs.toArray }->IntsAre vs ns->ns.length<=n->s₁.gens=#[] ->
   codeAny (model l.prog w) callerA (.call (.ref fa) ⟨[.ref a],[]⟩) (fun r s'=>r=.ok (.ret (.bool true))/\OldK s₁.heap s'.heap/\s'.os=s₁.os/\AllBare s'.gens) s₁) :
  WalkO q loose XP YP l.row.toRowW d [] (fun f vs=>PySem.call f vs):=by
 intro w s₀ s₁ mg mb G Y fa o pm cd doc dV kV ho hd hcd hD hmg hg args vals as hpre hlay hrd hwl hlo
 obtain rfl:dV=.none:=Dflts.none hD hdf
 obtain rfl:kV=.none:=Dflts.noKw hD
 obtain⟨a,vs,ns,rfl,rfl,hobj,hints,hlen⟩:=zcM hn hpre hwl
 refine enter_call (codeAny_mono (call w s₀ s₁ mg mb fa o pm cd doc a vs ns G Y ho (fd_plain hd) hcd hmg hobj hints hlen hg) fun r s' hq=>?_)
 obtain⟨rfl,h2,h3,h4⟩:=hq
 exact⟨.inl ⟨.bool true,.bool true,[],rfl,fun _=>rfl,.bool true,zco l _,fun _=>⟨List.Pairwise.nil,fun _ hm=>(nomatch hm)⟩⟩,h2,h3,h4⟩
section
variable {prog:Program} {w:World} {A:Around} {E:Value->Shared->Prop} {s:Shared} {K:Frag}
end
end Att
namespace L2
open PySem PySem.Spec PyProof.Rows
theorem Qu:∀ {vs:List Value} {ns:List Int},IntsAre vs ns->Vals (ns.map V.int) vs
 | _,_,.nil=>.nil
 | _,_,.cons n t h=>.cons ⟨t,rfl⟩ (Qu h)
def inClass (s:Stmt) (j:Nat):Stmt:=match s with
 | .ClassDef _ _ _ body _ _ _ _ _ _ _=>body.getD j (.Pass ⟨0,0,0,0⟩)
 | _=>.Pass ⟨0,0,0,0⟩
def vK (s:Stmt):Arguments:=match s with
 | .FunctionDef _ a _ _ _ _ _ _ _ _=>a
 | _=>{ posonlyargs:=[],args:=[],vararg:=none,kwonlyargs:=[],kw_defaults:=[],kwarg:=none,defaults:=[] }
def xu (s:Stmt):List Stmt:=match s with
 | .FunctionDef _ _ b _ _ _ _ _ _ _=>b
 | _=>[]
def zu (s:Stmt):Scope:=match s with
 | .FunctionDef _ _ _ _ _ _ sc _ _ _=>sc
 | _=>{ kind:=.function,names:=[],isGenerator:=false,isCoroutine:=false }
abbrev CX0:CXT:=fun _ _ _ _ _ _=>False
abbrev E0:XK:=fun _ _ _=>False
theorem Qm {X:Cx}:Xq CX0 X E0:=fun _ _ _ _ _ _ _ h=>h.elim
structure Fun (K:W.Frag) (x qual:Str) (st:Stmt) (f:Addr) (fd:FuncData):Prop where
 ex:∃ (oc:Value) (od:Option Addr) (kV doc pm:Value) (an:Option Addr) (cdv ct:Value) (osl:Array (Option Value)),
  fd=W.fnOf x qual (vK st) (xu st) (zu st) .none kV doc pm an cdv ct/\K.lookup f=some ⟨oc,od,.func fd,osl⟩/\W.codeIn K cdv qual=true
 kp:W.keepIn K (.ref f)=true
section
variable {P:Program} {w:World} {K:W.Frag} {mg:Str->Option Value} {base:Heap}
theorem Fun.ok {x qual:Str} {st:Stmt} {f:Addr} {fd:FuncData} {N ps:List Str} {k:Nat} {sp:Sp} (F:Fun K x qual st f fd) (S:zE N ps (zu st)) (len:∀ vs H Q E,sp vs H Q E->vs.length=ps.length)
  (hbody:∀ (cdv:Value) (A:Around) (outer:List Env) (s:Shared) (H:Hp) (vs:List V) (Q:VK) (E:XK),Room k (A.deeper (envOfC qual (zu st) s.heap.objs.size f cdv))->sp vs H Q E ->
   ∃ t,PSs (YW CX0 P w K mg base N qual (zu st) f cdv A outer s H E).nox (xu st) t/\t { nx:=fun _ H'=>Q .non H',rt:=Q } (start N vs) H):FnOk P w K mg base CX0 (k+1) f fd ps sp:=by
 obtain⟨oc,od,kV,doc,pm,an,cdv,ct,osl,rfl,lk,hcd⟩:=F.ex
 refine zc6 lk hcd S len fun A outer s H vs Q E hr hsp=>?_
 obtain⟨t,h,q⟩:=hbody cdv A outer s H vs Q E hr hsp
 exact⟨t,h.nox,q⟩
theorem Fun.binds {x qual:Str} {st:Stmt} {f:Addr} {fd:FuncData} {ps:List Str} (F:Fun K x qual st f fd)
  (h:∀ (kV doc pm:Value) (an:Option Addr) (cdv ct:Value) (us:List Value),us.length=ps.length->bindArgs (W.fnOf x qual (vK st) (xu st) (zu st) .none kV doc pm an cdv ct) ⟨us,[]⟩=pure (ps.zip us)):Binds K fd ps []:=by
 obtain⟨oc,od,kV,doc,pm,an,cdv,ct,osl,rfl,lk,hcd⟩:=F.ex
 exact .all (h kV doc pm an cdv ct)
theorem Jl {x qual:Str} {st:Stmt} {f:Addr} {oc:Value} {od an:Option Addr} {osl:Array (Option Value)} {kV doc pm cdv ct:Value} (l:K.lookup f=some ⟨oc,od,.func (W.fnOf x qual (vK st) (xu st) (zu st) .none kV doc pm an cdv ct),osl⟩)
  (c:W.codeIn K cdv qual=true) (k:W.keepIn K (.ref f)=true):Fun K x qual st f (W.fnOf x qual (vK st) (xu st) (zu st) .none kV doc pm an cdv ct):=⟨⟨oc,od,kV,doc,pm,an,cdv,ct,osl,rfl,l,c⟩,k⟩
end
theorem zgI {A:Around} {k:Nat} (hr:Room k A):A.units+1<cLine:=Nat.lt_of_le_of_lt (Nat.add_le_add_left (by decide:1<=64) _) hr.units
section
variable {X:Cx}
theorem pv (i:Nat) {x:Str} {pos:Pos} (hN:X.N[i]?=some x:=by rfl) (hv:Vis X.env.scope x:=by first | exact Or.inl rfl | exact Or.inr (Or.inl rfl) | exact Or.inr (Or.inr rfl)) (hd:(x == ("__debug__" : Str))=false:=by decide)
  (hcd:(x == ("__classdict__" : Str))=false:=by decide):PE X (.Name x pos) (ze4 i):=zfv hN hv hd hcd
end
theorem yZ {A B:Prop} (h:B):if false=true then A else B:=by
 rw [if_neg Bool.false_ne_true]
 exact h
theorem ww {A B:Prop} (h:A):if true=true then A else B:=by
 rw [if_pos rfl]
 exact h
theorem UW {c A B:Prop} [Decidable c] (h1:c->A) (h2:¬ c->B):if c then A else B:=by
 by_cases h:c
 ·rw [if_pos h]
  exact h1 h
 ·rw [if_neg h]
  exact h2 h
def Same (H H':Hp):Prop:=∀ b o,H b=some o->H' b=some o
theorem Same.refl (H:Hp):Same H H:=fun _ _ h=>h
theorem Same.trans {H H1 H2:Hp} (a:Same H H1) (b:Same H1 H2):Same H H2:=fun c o h=>b c o (a c o h)
theorem Same.free {H H':Hp} (e:Same H H') {l:Addr} (h:H' l=Option.none):H l=Option.none:=by
 cases q:H l with
 | none=>rfl
 | some o =>
  rw [e l o q] at h
  cases h
theorem Same.seq {K:W.Frag} {H H':Hp} {a:Addr} {xs:List V} (e:Same H H') (h:SqL K H a xs):SqL K H' a xs:=by
 rcases h with (h | ⟨o,h⟩) | h
 ·exact .inl (.inl (e _ _ h))
 ·exact .inl (.inr ⟨o,e _ _ h⟩)
 ·exact .inr h
def yf (cells:List (Str×Addr)):List (Str×NameKind)->List (Str×Addr)->List (Str×Addr)
 | [],cs=>cs
 | (n,k) :: r,cs=>yf cells r (if k=.free then (match cells.lookup n with | some c=>(n,c) :: cs | none=>cs) else cs)
theorem Yg {env:Env}:∀ (names:List (Str×NameKind)) (cs:List (Str×Addr)),(∀ x∈names,x.2=.free->∃ c,env.cells.lookup x.1=some c) ->
  (forIn names cs fun (x:Str×NameKind) (r:List (Str×Addr))=>if (x.2 == .free)=true then (do let c <- cellOf env x.1;pure (ForInStep.yield ((x.1,c) :: r)):Sem _) else pure (ForInStep.yield r))=pure (yf env.cells names cs)
 | [],cs,_=>rfl
 | (n,k) :: r,cs,h=>by
  have ih:=fun cs'=>Yg (env:=env) r cs' fun x hx=>h x (List.mem_cons_of_mem _ hx)
  rw [List.forIn_cons]
  by_cases hk:k=.free
  ·subst hk
   obtain⟨c,hc⟩:=h (n,.free) List.mem_cons_self rfl
   have e:cellOf env n=pure c:=by unfold cellOf;rw [hc]
   simp only [beq_self_eq_true,if_true,e,pure_bind,yf,hc]
   exact ih _
  ·have hb:(k == NameKind.free)=false:=by simpa using hk
   simp only [hb,Bool.false_eq_true,if_false,pure_bind,yf,hk]
   exact ih _
theorem qd {scope:Scope} {env:Env} (h:∀ x∈scope.names,x.2=.free->∃ c,env.cells.lookup x.1=some c):closureFor scope env=pure (yf env.cells scope.names []):=by
  have e:=Yg scope.names [] h
  unfold closureFor
  first
    | (simp only [bind_pure];exact e)
    | (show (forIn scope.names [] _ >>= fun r=>pure r)=_
       rw [show (forIn scope.names ([]:List (Str×Addr)) _:Sem _)=_ from e]
       rfl)
theorem xV {cells:List (Str×Addr)} {y:Str} {c:Addr}:∀ {names:List (Str×NameKind)} {cs:List (Str×Addr)},(∀ y c,cs.lookup y=some c->cells.lookup y=some c)->(yf cells names cs).lookup y=some c->cells.lookup y=some c
 | [],cs,h,e=>h y c e
 | (n,k) :: r,cs,h,e=>by
  refine xV (names:=r) ?_ e
  intro y' c' e'
  by_cases hk:k=.free
  ·rw [if_pos hk] at e'
   cases q:cells.lookup n with
   | none=>rw [q] at e';exact h _ _ e'
   | some d =>
    rw [q] at e'
    simp only [List.lookup_cons] at e'
    cases hb:y' == n with
    | true =>
     rw [hb] at e'
     cases e'
     have:y'=n:=by simpa using hb
     rw [this];exact q
    | false=>rw [hb] at e';exact h _ _ e'
  ·rw [if_neg hk] at e';exact h _ _ e'
theorem ZW {cells:List (Str×Addr)} {y:Str}:∀ {names:List (Str×NameKind)} {cs:List (Str×Addr)},((∃ c,cs.lookup y=some c)\/((y,NameKind.free)∈names/\∃ c,cells.lookup y=some c))->∃ c,(yf cells names cs).lookup y=some c
 | [],cs,h=>by
  rcases h with h | ⟨h,_⟩
  ·exact h
  ·cases h
 | (n,k) :: r,cs,h=>by
  refine ZW (names:=r) ?_
  rcases h with ⟨c,h⟩ | ⟨h,c,hc⟩
  ·left
   by_cases hk:k=.free
   ·rw [if_pos hk]
    cases q:cells.lookup n with
    | none=>exact⟨c,h⟩
    | some d =>
     simp only [List.lookup_cons]
     cases hb:y == n with
     | true=>exact⟨d,rfl⟩
     | false=>exact⟨c,h⟩
   ·rw [if_neg hk];exact⟨c,h⟩
  ·rcases List.mem_cons.mp h with e | h
   ·cases e
    left
    rw [if_pos rfl,hc]
    exact⟨c,by simp⟩
   ·exact .inr ⟨h,c,hc⟩
theorem yo {env:Env}:∀ {names:List (Str×NameKind)} {x:Str} {k:NameKind},
  (names.map fun (n,k)=>if (k == NameKind.free && env.scope.kind == .function && env.kindOf n == some .cell) then (n,NameKind.cell) else (n,k)).lookup x=some k->names.lookup x=some k\/(k=.cell/\names.lookup x=some .free)
 | [],_,_,h=>by simp at h
 | (n,k0) :: r,x,k,h=>by
  have ih:=@yo env r x k
  rw [List.map_cons] at h
  by_cases hc:(k0 == NameKind.free && env.scope.kind == .function && env.kindOf n == some .cell)=true
  ·simp only [hc,if_true,List.lookup_cons] at h
   have hk0:k0=.free:=by
    simp only [Bool.and_eq_true] at hc
    simpa using hc.1.1
   cases hx:x == n with
   | true=>rw [hx] at h;cases h;right;simp [List.lookup_cons,hx,hk0]
   | false=>rw [hx] at h;simp only [List.lookup_cons,hx];exact ih h
  ·have hc':(k0 == NameKind.free && env.scope.kind == .function && env.kindOf n == some .cell)=false:=by simpa using hc
   simp only [hc',Bool.false_eq_true,if_false,List.lookup_cons] at h
   cases hx:x == n with
   | true=>rw [hx] at h;cases h;left;simp [List.lookup_cons,hx]
   | false=>rw [hx] at h;simp only [List.lookup_cons,hx];exact ih h
def cxC (X:Cx) (N:List Str) (scope:Scope) (C:Addr) (s₀:Shared) (H₀:Hp) (ex:List Addr):Cx where
 prog:=X.prog
 w:=X.w
 K:=X.K
 mg:=X.mg
 base:=X.base
 A:=X.A
 N:=N
 s₀:=s₀
 H₀:=H₀
 env:=compEnvC scope (yf X.env.cells scope.names []) C X.env
 outer:=X.stack
 stack:=X.stack
 ex:=ex
 fn:=fun _=>false
 calm:=X.calm
 pn:=[]
 xe:=fun _ _=>False
def yN (js:List Nat) (Z:St):St:=js.map fun j=>(Z[j]?).join
theorem V3 {js:List Nat} {Z:St} {i:Nat} {v:V} (h:(yN js Z)[i]?=some (some v)):∃ j,js[i]?=some j/\Z[j]?=some (some v):=by
 unfold yN at h
 rw [List.getElem?_map] at h
 cases e:js[i]? with
 | none=>rw [e] at h;cases h
 | some j =>
  rw [e] at h
  have h':(Z[j]?).join=some v:=Option.some.inj h
  refine⟨j,rfl,?_⟩
  cases q:Z[j]? with
  | none=>rw [q] at h';cases h'
  | some z=>rw [q] at h';exact congrArg some h'
structure CScope (sc:Scope) (scope:Scope) (x:Str) (M:List Str) (ys:List Str) (js:List Nat):Prop where
 kind:scope.kind=.function
 cell:∀ y∈scope.names,y.2≠.cell
 loc:∀ y∈scope.names,y.2=.local->scope.names.lookup y.1=some .local
 var:scope.names.lookup x=some .local
 free:∀ y∈scope.names,y.2=.free->sc.names.lookup y.1=some .cell\/sc.names.lookup y.1=some .free
 caps:js.map (M[·]?)=ys.map some
 fr:∀ y∈ys,scope.names.lookup y=some .free
 nd:(x :: ys).Nodup
section
variable {X:Cx} {pins:List (Addr×Obj)} {Z:St} {H:Hp} {s:Shared}
theorem zdY {scope:Scope} {x:Str} {ys:List Str} {js:List Nat} {fp:List Addr} {h₁:Heap} {tk:Nat} {C:Addr} (I:Inv X pins Z H s) (S:CScope X.env.scope scope x X.N ys js) (hf:∀ b∈fp,Yl X pins H b) (ho:∀ b∈fp,∃ o,s.heap.get? b=some o)
  (hC:s.heap.objs.size<=C) (hk:∀ b o,s.heap.get? b=some o->h₁.get? b=some o) (hn:h₁.Ns C fun _=>none) :
  Inv (cxC X (x :: ys) scope C s H fp) [] (none :: yN js Z) H { s with heap:=h₁,toks:=tk }:=by
 have sub:∀ y c,(yf X.env.cells scope.names []).lookup y=some c->X.env.cells.lookup y=some c:=fun y c e=>xV (fun _ _ z=>by simp at z) e
 have has:∀ y,scope.names.lookup y=some .free->∃ c,(yf X.env.cells scope.names []).lookup y=some c:=fun y e=>by
  have m:(y,NameKind.free)∈scope.names:=PySem.mem_of_lookup e
  exact ZW (.inr ⟨m,I.ok.has y (S.free _ m rfl)⟩)
 have lt:∀ b∈fp,b<s.heap.objs.size:=fun b hb=>by obtain⟨o,e⟩:=ho b hb;exact Heap.lt_size e
 have ok:(cxC X (x :: ys) scope C s H fp).Ok:=by
  refine⟨I.ok.mod,S.kind,I.ok.glob,I.ok.blt,hC,fun y z c e1 e2=>I.ok.inj y z c (sub _ _ e1) (sub _ _ e2),fun y hy=>?_,fun y c z=>?_,I.ok.hd,I.ok.frames,.inl rfl,fun b hb=>?_,I.bs,Nat.le_trans I.ok.bsz I.sz,fun b o e hb=>?_,fun b hb z=>?_,I.stack,I.stkFree⟩
  ·have hy':(relabel scope X.env).names.lookup y=some .cell\/(relabel scope X.env).names.lookup y=some .free:=hy
   have nocell:scope.names.lookup y≠some .cell:=fun z=>S.cell _ (PySem.mem_of_lookup z) rfl
   rcases hy' with e | e
   ·rcases yo e with z | ⟨_,z⟩
    ·exact absurd z nocell
    ·exact has y z
   ·rcases yo e with z | ⟨z,_⟩
    ·exact has y z
    ·cases z
  ·exact absurd (show false=true from z) Bool.false_ne_true
  ·refine⟨Nat.ne_of_lt (Nat.lt_of_lt_of_le (lt b hb) hC),fun y c e=>(hf b hb).2.2.2.2.1 y c (sub y c e)⟩
  ·rcases (hf b hb).2.2.2.1 with z | z
   ·exact I.ok.noex b o e z
   ·exact absurd (Nat.lt_of_lt_of_le (Heap.lt_size e) (Nat.le_trans I.ok.bsz z)) (Nat.lt_irrefl _)
  ·rcases List.mem_cons.mp (I.stkSub b z) with e | e
   ·exact (hf b hb).2.1 e
   ·exact (hf b hb).2.2.1 e
 refine⟨ok,rfl,I.bare,Un.kept hk,⟨_,hn,fun i y v e1 e2 e3=>?_⟩,fun y c e=>?_,I.hok.fresh hC,fun y c e=>I.freeC y c (sub y c e),fun p hp=>absurd (show p∈([]:List (Addr×Obj)) from hp) (by simp),I.hok.kept hk,?_⟩
 ·cases i with
  | zero=>simp at e2
  | succ i =>
   have e1':ys[i]?=some y:=by simpa [cxC] using e1
   have e2':(yN js Z)[i]?=some (some v):=by simpa using e2
   obtain⟨j,hj,hσ⟩:=V3 e2'
   have hN:X.N[j]?=some y:=by
    have z:=congrArg (fun l=>l[i]?) S.caps
    simp only [List.getElem?_map,hj,e1',Option.map_some] at z
    exact Option.some.inj z
   have hfr:=S.fr y (List.mem_of_getElem? e1')
   have m:(y,NameKind.free)∈scope.names:=PySem.mem_of_lookup hfr
   have hkind:=S.free _ m rfl
   obtain⟨m',hns,hl⟩:=I.loc
   obtain⟨u,r,lk⟩:=hl j y v hN hσ (by rcases hkind with z | z;exact .inr (.inl z);exact .inr (.inr z))
   refine⟨u,r,.inr ⟨?_,?_⟩⟩
   ·have e3':(relabel scope X.env).names.lookup y=some .local\/(relabel scope X.env).names.lookup y=some .cell\/(relabel scope X.env).names.lookup y=some .free:=e3
    rcases e3' with z | z | z
    ·rcases yo z with q | ⟨q,_⟩
     ·rw [hfr] at q;cases q
     ·cases q
    ·exact .inl z
    ·exact .inr z
   ·obtain⟨c,hc⟩:=has y hfr
    refine⟨c,hc,?_⟩
    rcases lk with ⟨z,_⟩ | ⟨_,c',hc',cell⟩
    ·rcases hkind with q | q
     ·have q':X.env.kindOf y=some .cell:=q
      rw [show X.env.kindOf y=some .local from z] at q';cases q'
     ·have q':X.env.kindOf y=some .free:=q
      rw [show X.env.kindOf y=some .local from z] at q';cases q'
    ·rw [sub y c hc] at hc'
     cases hc'
     obtain⟨o,e,d⟩:=cell
     exact⟨o,hk _ _ e,d⟩
 ·obtain⟨v,o,e',d⟩:=I.cell y c (sub y c e)
  exact⟨v,o,hk _ _ e',d⟩
 ·have z:=congrArg List.length S.caps
  simp only [List.length_map] at z
  show (none :: yN js Z).length=(x :: ys).length
  simp [yN,z]
end
theorem QF {α β:Type} {M:Model} {A:Around} {a:α} {Q:α->Shared->Prop} {E E':Value->Shared->Prop} {s:Shared} {t:Sem β} {Q':β->Shared->Prop} (h:wpAny M A (pure a) Q E s) (k:Q a s->wpAny M A t Q' E' s):wpAny M A t Q' E' s :=
 fun Γ p hΓ=>k (h Γ p hΓ) Γ p hΓ
def PTs (X:Cx) (ifs:List Expr) (t:TT):Prop :=
 ∀ (pins:List (Addr×Obj)) (s:Shared) (Z:St) (H:Hp) (Q:Bool->Hp->Prop),Inv X pins Z H s->t Z H Q ->
  wpAny (model X.prog X.w) X.A (forIn ifs true fun c r=>if r=true then do let ok <- isTrue c X.env (eval c X.env);pure (ForInStep.yield ok) else pure (ForInStep.yield r)) (TP X pins Z Q) X.xe s
def Yo:TT:=fun _ H Q=>Q true H
theorem wg {X:Cx}:PTs X [] Yo:=fun pins s Z H Q I h=>wpAny_tests_nil ⟨H,I,h⟩
theorem Vl {X:Cx} {c:Expr} {t:TT} (h:PT X c t):PTs X [c] t:=fun pins s Z H Q I hw=>wpAny_tests_one (h pins s Z H Q I hw)
def VF (J:It) (js:List Nat) (tt:TT) (te:TE) (Z:St) (Q:VK) (H:Hp):Prop:=∃ W:Nat->Nat->List V->Hp->Prop,(∃ m,W 0 m [] H)/\∀ i m ys H,W i m ys H ->
 (J.stop i H/\∀ D,H D=none->Q (.ref D) (upd H D (.lst ys))) \/
 (J.go i H/\ys.length<sizeLine/\∃ N:List V->Hp->Prop,(∀ ys' H',N ys' H'->∃ m',m'<m/\W (i+1) m' ys' H')/\∀ x H',J.yld i H x H'->tt (some x :: yN js Z) H' fun b H2=>if b=true then te (some x :: yN js Z) H2 fun v H3=>N (ys++[v]) H3 else N ys H2)
def zdj (wi:TI) (js:List Nat) (tt:TT) (te:TE):TE:=fun Z H Q=>wi Z H fun J H1=>VF J js tt te Z Q H1
theorem HOk.track {P:Program} {w:World} {H:Hp} {h:Heap} {a:Addr} {o:HO} (x:HOk P w H h) (hn:H a=none) (new:ObjOk P w (upd H a o) h a o):HOk P w (upd H a o) h:=fun b u e=>by
 by_cases hb:b=a
 ·subst hb;rw [zj] at e;cases e;exact new
 ·rw [zx hb] at e
  exact (x b u e).stay (fun _ _ _ q=>q) (fun c q=>by rw [zx (zF q hn)];exact q) fun c xs q=>by rw [zx (zF q hn)];exact q
section
variable {X:Cx} {elt iter:Expr} {ifs:List Expr} {x:Str} {px pos:Pos} {scope:Scope} {ys:List Str} {js:List Nat} {wi:TI} {tt:TT} {te:TE}
theorem Vu {pins:List (Addr×Obj)} {Z:St} {H:Hp} {s:Shared} {J:It} {fp:List Addr} {it:Addr} {tn:Nat->Heap->Prop} {Q:VK} {E:Value->Shared->Prop} {R:Value->Addr->Result->Shared->Prop}
  (S:CScope X.env.scope scope x X.N ys js) (hc:X.calm=true) (ht:∀ C s₀ H₀ ex,PTs (cxC X (x :: ys) scope C s₀ H₀ ex) ifs tt) (he:∀ C s₀ H₀ ex,PE (cxC X (x :: ys) scope C s₀ H₀ ex) elt te)
  (I:Inv X pins Z H s) (T:Turn X.prog X.w X.K (.Name x px) J fp it tn) (st:tn 0 s.heap) (hf:∀ b∈fp,Yl X pins H b)
  (hw:∃ W:Nat->Nat->List V->Hp->Prop,(∃ m,W 0 m [] H)/\∀ i m zs H,W i m zs H ->
   (J.stop i H/\∀ D,H D=none->Q (.ref D) (upd H D (.lst zs))) \/
   (J.go i H/\zs.length<sizeLine/\∃ N:List V->Hp->Prop,(∀ ys' H',N ys' H'->∃ m',m'<m/\W (i+1) m' ys' H')/\∀ x H',J.yld i H x H'->tt (some x :: yN js Z) H' fun b H2=>if b=true then te (some x :: yN js Z) H2 fun v H3=>N (zs++[v]) H3 else N zs H2))
  (hR:∀ D C s' H' m',Inv X pins Z H' s'->Q (.ref D) H'->s.heap.objs.size<=C->H' C=none->s'.heap.Ns C m'->R (.ref D) C (.ok .next) s') :
  wpAny (model X.prog X.w) X.A (newList []) (fun acc s₃=>wpAny (model X.prog X.w) X.A (newFunctionEnv scope X.env.globals (yf X.env.cells scope.names []) [] X.env.qual none .none (some X.env)) (fun cenv s₄ =>
   codeAny (model X.prog X.w) X.A (.compStart (.ListComp elt [⟨.Name x px,iter,ifs,0⟩] scope pos) 0 (.ref it) acc { cenv with scope:=relabel scope X.env }) (R acc cenv.locals) s₄) E s₃) E s:=by
 obtain⟨W,⟨m0,w0⟩,turn⟩:=hw
 refine wpAny_newObj_type (wpAny_newFunctionEnv S.cell (by intro y hy;simp at hy) (fun h₁ hns₁ hsb₁=>?_) S.kind)
 dsimp only at hns₁ hsb₁ ⊢
 generalize hH2:s.heap.push { cls:=.type "list",dict:=none,data:=.seq ([]:List Value).toArray }=G at hns₁ hsb₁ ⊢
 generalize hD:s.heap.objs.size=D at *
 generalize hCe:G.objs.size=C at *
 have hC:C=D+1:=by rw [<- hCe,<- hH2,Heap.size_push,hD]
 have hDlt:D<C:=by rw [hC];exact Nat.lt_succ_self D
 have hDC:D≠C:=Nat.ne_of_lt hDlt
 have old:∀ b o,s.heap.get? b=some o->h₁.get? b=some o:=fun b o e=>by
  have hb:b<D:=hD▸Heap.lt_size e
  exact (hsb₁.2 b (Nat.ne_of_lt (Nat.lt_trans hb hDlt))).trans (Heap.get?_push_of_some _ (hH2▸Heap.get?_push_of_some _ e))
 have hacc:h₁.get? D=some { cls:=.type "list",data:=.seq ([]:List Value).toArray 0 }:=by
  refine (hsb₁.2 D hDC).trans (Heap.get?_push_of_some _ ?_)
  rw [<- hH2,<- hD]
  exact Heap.get?_push_size _ rfl
 have obj0:=T.obj 0 _ st
 have fplt:∀ b∈fp,b<D:=fun b hb=>by obtain⟨o,e,_⟩:=obj0 b hb;exact hD▸Heap.lt_size e
 generalize hX:cxC X (x :: ys) scope C s H fp=X'
 have I1:Inv X' [] (none :: yN js Z) H { s with heap:=h₁,toks:=s.toks+([]:List (Str×Value)).length }:=by
  subst hX
  exact zdY I S hf (fun b hb=>by obtain⟨o,e,_⟩:=obj0 b hb;exact⟨o,e⟩) (by omega) old (by simpa using hns₁)
 have eP:X'.prog=X.prog:=by subst hX;rfl
 have eW:X'.w=X.w:=by subst hX;rfl
 have eK:X'.K=X.K:=by subst hX;rfl
 have eA:X'.A=X.A:=by subst hX;rfl
 have eC:X'.calm=true:=by subst hX;exact hc
 have eL:X'.env.locals=C:=by subst hX;rfl
 have eS:X'.s₀=s:=by subst hX;rfl
 have eN:X'.N=x :: ys:=by subst hX;rfl
 have eE:X'.env=compEnvC scope (yf X.env.cells scope.names []) C X.env:=by subst hX;rfl
 have eXe:X'.xe=fun _ _=>False:=by subst hX;rfl
 have eX:X'.ex=fp:=by subst hX;rfl
 have ePn:X'.pn=[]:=by subst hX;rfl
 have efs:∀ b,b∈X'.fs->b∈frs X.stack:=fun b z=>by subst hX;exact z
 have cellLt:∀ y c,X'.env.cells.lookup y=some c->c<D:=fun y c e=>by
  have e':(yf X.env.cells scope.names []).lookup y=some c:=by rw [eE] at e;exact e
  obtain⟨v,o,e2,_⟩:=I.cell y c (xV (fun _ _ z=>by simp at z) e')
  exact hD▸Heap.lt_size e2
 have frLt:∀ b,b∈X'.fs->b<D:=fun b z=>by
  rcases List.mem_cons.mp (I.stkSub b (efs b z)) with e | e
  ·rw [e];exact hD▸I.lt
  ·exact Nat.lt_of_not_le fun h=>I.nofs (hD▸h) e
 have fpOk:∀ (p:List (Addr×Obj)) (H':Hp),(∀ b∈fp,H' b=none)->(∀ q∈p,q.1=D)->∀ b∈fp,Yl X' p H' b:=fun p H' hn hp b hb=>by
  refine⟨hn b hb,?_,fun z=>?_,.inl (eX▸hb),fun y c e=>?_,fun q hq=>?_⟩
  ·rw [eL];exact Nat.ne_of_lt (Nat.lt_trans (fplt b hb) hDlt)
  ·rcases List.mem_cons.mp (I.stkSub b (efs b z)) with e | e
   ·exact (hf b hb).2.1 e
   ·exact (hf b hb).2.2.1 e
  ·have e':(yf X.env.cells scope.names []).lookup y=some c:=by rw [eE] at e;exact e
   exact (hf b hb).2.2.2.2.1 y c (xV (fun _ _ z=>by simp at z) e')
  ·rw [ePn,List.nil_append] at hq
   rw [hp q hq];exact Nat.ne_of_gt (fplt b hb)
 have noCell:∀ (its:List Value) (k:Nat) v,({ cls:=.type "list",data:=.seq its.toArray k }:Obj).data≠.cell v:=fun its k v z=>by cases z
 have done:∀ {zs:List V} {its:List Value} {k:Nat} {H':Hp} {s':Shared},Inv X' [] (none :: yN js Z) H' s'->s'.heap.get? D=some { cls:=.type "list",data:=.seq its.toArray k }->Vals zs its->H' D=none->zs.length<=sizeLine ->
   (∀ D,H' D=none->Q (.ref D) (upd H' D (.lst zs)))->R (.ref D) C (.ok .next) s':=fun {zs its k H' s'} I' hd hv hn hz q=>by
  have un:=I'.base
  obtain⟨m',hns,_⟩:=I'.loc
  rw [eL] at hns
  have hCn:H' C=none:=by have:=I'.free;rw [eL] at this;exact this
  have hH0:X'.H₀=H:=by subst hX;rfl
  rw [hH0,eS,eX] at un
  have un2:Un (frs X.stack) fp H (upd H' D (.lst zs)) s.heap s'.heap:=by
   have ne:∀ b o,s.heap.get? b=some o->b≠D:=fun b o e=>Nat.ne_of_lt (hD▸Heap.lt_size e)
   have un':Un (frs X.stack) fp H H' s.heap s'.heap:=by subst hX;exact un
   exact⟨un'.keep,un'.slot,fun b o e n hx=>by rw [zx (ne b o e)];exact un'.free b o e n hx,un'.there,fun b xs e=>by rw [zx (zF (un'.tups b xs e) hn)];exact un'.tups b xs e,
    fun b o u e=>by rw [zx (zF (un'.frzs b o u e) hn)];exact un'.frzs b o u e,fun b ps e=>by
     obtain⟨more,z⟩:=un'.tbls b ps e
     exact⟨more,by rw [zx (zF z hn)];exact z⟩⟩
  have hok:HOk X.prog X.w (upd H' D (.lst zs)) s'.heap:=by
   have h0:=I'.hok
   rw [eP,eW] at h0
   exact h0.track hn ⟨hz,its,k,hv,hd⟩
  have I2:Inv X pins Z (upd H' D (.lst zs)) s':=I.call' (by have:=I'.os;rw [eS] at this;exact this) un2 hok I'.bare fun b hb=>⟨(hf b hb).2.2.2.1,(hf b hb).2.1,(hf b hb).2.2.2.2.1,(hf b hb).2.2.2.2.2⟩
  exact hR D C s' _ m' I2 (q D hn) (by omega) (by rw [zx (Ne.symm hDC)];exact hCn) hns
 have loop:codeAny (model X.prog X.w) X.A (.compLoop (.ListComp elt [⟨.Name x px,iter,ifs,0⟩] scope pos) 0 (.ref it) (.ref D) X'.env) (R (.ref D) C) { s with heap:=h₁,toks:=s.toks+([]:List (Str×Value)).length }:=by
  refine codeAny_compLoop_tests (fun n s'=>∃ i zs its k H',Inv X' [] (none :: yN js Z) H' s'/\tn i s'.heap/\(∀ b∈fp,H' b=none)/\s'.heap.get? D=some { cls:=.type "list",data:=.seq its.toArray k }/\Vals zs its/\H' D=none/\zs.length<=sizeLine/\W i n zs H')
   ?_ m0 ⟨0,[],[],0,H,I1,T.keep _ _ _ st (fun b hb o e=>old b o e),fun b hb=>(hf b hb).1,hacc,.nil,I.hok.fresh (by omega),Nat.zero_le _,w0⟩ (fun _=>rfl)
  rintro n s3 ⟨i,zs,its,k,H3,I3,st3,fr3,d3,v3,n3,z3,w3⟩
  have pinD:Inv X' [(D,{ cls:=.type "list",data:=.seq its.toArray k })] (none :: yN js Z) H3 s3:=I3.pins_of fun p hp=>by
   have e:p=(D,{ cls:=.type "list",data:=.seq its.toArray k }):=by simpa using hp
   subst e
   exact⟨d3,n3,by rw [eL];exact hDC,fun z=>Nat.lt_irrefl _ (frLt D z),noCell its k⟩
  have hpD:∀ q∈[(D,({ cls:=.type "list",data:=.seq its.toArray k }:Obj))],q.1=D:=fun q hq=>by
   have e:q=(D,{ cls:=.type "list",data:=.seq its.toArray k }):=by simpa using hq
   rw [e]
  rcases turn i n zs H3 w3 with ⟨stop,qn⟩ | ⟨go,hzl,NN,hNN,step⟩
  ·refine thn (eA▸T.done X' eP eW eK eC i _ s3 _ H3 _ pinD (fpOk _ _ fr3 hpD) st3 stop) fun r s4 ⟨hr,I4⟩=>?_
   subst hr
   exact done (I4.pins_of fun p hp=>absurd hp (by simp)) (I4.pin (D,{ cls:=.type "list",data:=.seq its.toArray k }) (List.mem_append_right _ (by simp))).1 v3 n3 z3 qn
  ·refine thn (eA▸T.item X' eP eW eK eC i _ s3 _ H3 _ pinD (fpOk _ _ fr3 hpD) st3 go) fun r s4 ⟨u,hr,h4⟩=>?_
   subst hr
   refine QF (a:=()) h4 fun ⟨v,H5,I5,r5,y5,st5,fr5⟩=>?_
   have I5':=I5.pinned (fpOk _ _ fr5 hpD) (T.obj _ _ st5)
   have ev:∀ {α:Type} {t:Sem α} {Q':α->Shared->Prop} {E':Value->Shared->Prop} {s':Shared},wpAny (model X'.prog X'.w) X'.A t Q' X'.xe s'->wpAny (model X.prog X.w) X.A t Q' E' s':=fun {α t Q' E' s'} hh=>by
    rw [eP,eW,eA,eXe] at hh
    exact wpAny_mono hh (fun _ _ q=>q) fun _ _ z=>z.elim
   refine ev (thn (yh (X:=X') (i:=0) (by rw [eN];exact S.nd) (by rw [eN];rfl) (.inl (by rw [eE];exact lookup_relabel_local S.var)) (.inr (by rw [eE];exact lookup_relabel_local S.var)) _ s4 _ H5 v u (fun σ' H'=>σ'=some v :: yN js Z/\H'=H5) I5' r5 ⟨rfl,rfl⟩) fun _ s6 ⟨σ6,H6,I6,e6,e6'⟩=>?_)
   subst e6 e6'
   have back:∀ {σ':St} {H7:Hp} {s7:Shared},Inv X' ([(D,{ cls:=.type "list",data:=.seq its.toArray k })]++Zc fp s4.heap) (some v :: yN js Z) H7 s7->Inv X' [] (none :: yN js Z) H7 s7:=fun {_ H7 s7} I7=>by
    refine (I7.pins_of fun p hp=>absurd hp (by simp)).weak rfl fun i v' e=>?_
    cases i with
    | zero=>simp at e
    | succ i=>simpa using e
   have fps:∀ {σ':St} {H7:Hp} {s7:Shared},Inv X' ([(D,{ cls:=.type "list",data:=.seq its.toArray k })]++Zc fp s4.heap) σ' H7 s7->(∀ b∈fp,H7 b=none)/\(∀ b∈fp,∀ o,s4.heap.get? b=some o->s7.heap.get? b=some o)/\s7.heap.get? D=some { cls:=.type "list",data:=.seq its.toArray k }/\H7 D=none:=fun {σ' H7 s7} I7=>by
    have g:∀ b∈fp,∀ o,s4.heap.get? b=some o->s7.heap.get? b=some o/\H7 b=none:=fun b hb o e=>by
     have z:=I7.pin (b,o) (List.mem_append_right _ (List.mem_append_right _ (jm hb e)))
     exact⟨z.1,z.2.1⟩
    refine⟨fun b hb=>?_,fun b hb o e=>(g b hb o e).1,(I7.pin (D,{ cls:=.type "list",data:=.seq its.toArray k }) (List.mem_append_right _ (by simp))).1,(I7.pin (D,{ cls:=.type "list",data:=.seq its.toArray k }) (List.mem_append_right _ (by simp))).2.1⟩
    obtain⟨o,e,_⟩:=T.obj _ _ st5 b hb
    exact (g b hb o e).2
   have hte:PTs X' ifs tt:=hX▸ht C s H fp
   have hee:PE X' elt te:=hX▸he C s H fp
   refine ev (thn (hte _ s6 _ H6 _ I6 (step v H6 y5)) fun b s7 ⟨H7,I7,q7⟩=>?_)
   cases b with
   | false =>
    rw [if_neg Bool.false_ne_true]
    rw [if_neg Bool.false_ne_true] at q7
    obtain⟨m',hm,w7⟩:=hNN _ _ q7
    obtain⟨g1,g2,g3,g4⟩:=fps I7
    exact⟨m',hm,i+1,zs,its,k,H7,back (σ':=[]) I7,T.keep _ _ _ st5 g2,g1,g3,v3,g4,z3,w7⟩
   | true =>
    rw [if_pos rfl]
    rw [if_pos rfl] at q7
    refine ev (thn (hee _ s7 _ H7 _ I7 q7) fun u8 s8 ⟨v8,H8,I8,r8,q8⟩=>?_)
    obtain⟨m',hm,w8⟩:=hNN _ _ q8
    obtain⟨g1,g2,g3,g4⟩:=fps I8
    have hil:=v3.length
    refine call_meets F.slot_list_append ⟨_,g3,rfl⟩ F.entry_list_append (F.args_list_append_2 _ _) (PySem.list_append D its.toArray k u8 (by rw [List.size_toArray];omega)) ⟨g3,?_⟩
    have q:=PySem.IsL.update g3 (fun a=>a.push u8)
    have ea:its.toArray.push u8=(its++[u8]).toArray:=by simp
    rw [ea] at q
    have kk:∀ b o,b≠D->s8.heap.get? b=some o->(s8.heap.update D (Obj.mapSeq fun a=>a.push u8)).get? b=some o:=fun b o hb e=>(Heap.get?_update_other _ _ (Ne.symm hb)).trans e
    have I9:Inv X' [] (none :: yN js Z) H8 { s8 with heap:=s8.heap.update D (Obj.mapSeq fun a=>a.push u8),toks:=s8.toks }:=by
     refine (back (σ':=[]) I8).turned kk g4 (by rw [eL];exact hDC) (.inr (by rw [eS];omega)) (fun y c e=>Nat.ne_of_lt (cellLt y c e)) fun p hp=>?_
     rw [ePn] at hp
     exact absurd hp (by simp)
    refine⟨m',hm,i+1,zs++[v8],its++[u8],_,H8,I9,T.keep _ _ _ st5 (fun b hb o e=>kk b o (Nat.ne_of_lt (fplt b hb)) (g2 b hb o e)),g1,q,v3.append (.cons r8 .nil),g4,?_,w8⟩
    rw [List.length_append,List.length_singleton]
    omega
 rw [eE] at loop
 exact codeAny_compStart_list loop (T.self _ 0 _ _ _ (T.keep _ _ _ st (fun b hb o e=>old b o e)) loop)
theorem wj (S:CScope X.env.scope scope x X.N ys js) (hc:X.calm=true) (hi:PI X (.Name x px) iter wi) (ht:∀ C s₀ H₀ ex,PTs (cxC X (x :: ys) scope C s₀ H₀ ex) ifs tt) (he:∀ C s₀ H₀ ex,PE (cxC X (x :: ys) scope C s₀ H₀ ex) elt te)
  (hs:∀ x,foldedSetIterable iter X.env x=pure x:=by intro _;rfl):PE X (.ListComp elt [⟨.Name x px,iter,ifs,0⟩] scope pos) (zdj wi js tt te):=by
 intro pins s Z H Q I h
 rw [eval_ListComp]
 refine wpAny_comprehension_free (use:=none) rfl hs (qd fun y hy e=>I.ok.has _ (S.free y hy e)) S.kind S.loc (thn (hi pins s Z H _ I h) fun v s1 h1=>thn h1 fun itv s2 h2=>?_)
 obtain⟨it,fp,tn,J,H2,e,I2,T,st2,f2,hw⟩:=h2
 subst e
 refine Vu (Q:=Q) (R:=fun acc C=>compPost (model X.prog X.w) X.A X.xe none (EP X pins Z Q) acc C) S hc ht he I2 T st2 f2 hw ?_
 intro D C s' H' m' I' q hC hn hns
 refine⟨m',hns,fun h' hs'=>⟨.ref D,H',?_,rfl,q⟩⟩
 have e:=I2.fpOk hC hn
 exact I'.turned (t':=s'.toks) (fun b o hb e=>(hs'.2 b hb).trans e) hn e.2.1 e.2.2.2.1 e.2.2.2.2.1 e.2.2.2.2.2
theorem V5 {i:Nat} {y:Str} {py spos:Pos} (S:CScope X.env.scope scope x X.N ys js) (hc:X.calm=true) (hN:X.N.Nodup) (hy:X.N[i]?=some y) (hl:Loc X.env.scope y) (hi:PI X (.Name x px) iter wi) (ht:∀ C s₀ H₀ ex,PTs (cxC X (x :: ys) scope C s₀ H₀ ex) ifs tt) (he:∀ C s₀ H₀ ex,PE (cxC X (x :: ys) scope C s₀ H₀ ex) elt te)
  (hf:X.fn y=true\/X.env.scope.names.lookup y=some .local:=by first | exact .inl rfl | exact .inr rfl | assumption)
  (hsw:swapsWith (.ListComp elt [⟨.Name x px,iter,ifs,0⟩] scope pos) (some (.Name y py)) spos.line X.env=pure true:=by rfl)
  (hs:∀ x,foldedSetIterable iter X.env x=pure x:=by intro _;rfl):PS X (.Assign [.Name y py] (.ListComp elt [⟨.Name x px,iter,ifs,0⟩] scope pos) spos) (zdt (zdj wi js tt te) (Uc i)):=by
 intro pins s Z H D I h
 rw [exec_Assign_Name_used _ _ _ _ hsw]
 refine wpAny_bind (wpAny_standAt (wpAny_bind ?_))
 show wpAny _ X.A (do let _ <- comprehension (.ListComp elt [⟨.Name x px,iter,ifs,0⟩] scope pos) scope X.env _ (newList []) false (eval iter X.env) (some (assign (.Name y py) X.env))) _ _ s
 refine wpAny_bind (wpAny_mono (wpAny_comprehension_free (use:=some (assign (.Name y py) X.env)) (Q:=fun _ s'=>SP X pins D .next s') rfl hs (qd fun y hy e=>I.ok.has _ (S.free y hy e)) S.kind S.loc
  (thn (hi pins s Z H _ I h) fun v s1 h1=>thn h1 fun itv s2 h2=>?_)) (fun _ s' hq=>wpAny_pure (wpAny_pure hq)) fun _ _ e=>e)
 obtain⟨it,fp,tn,J,H2,e,I2,T,st2,f2,hw⟩:=h2
 subst e
 refine Vu (Q:=fun v H'=>Uc i v Z H' D.nx) (R:=fun acc C=>compPost (model X.prog X.w) X.A X.xe (some (assign (.Name y py) X.env)) (fun _ s'=>SP X pins D .next s') acc C) S hc ht he I2 T st2 f2 hw ?_
 intro Da C s' H' m' I' q hC hn hns
 have e:=I2.fpOk hC hn
 show wpAny _ X.A (assign (.Name y py) X.env (.ref Da)) _ _ _
 refine wpAny_assign_Name (WM I' hN hy hl (show RelV (.ref Da) (.ref Da) from rfl) (fun s2' I3 ⟨a,sb,ha⟩=>?_) hf)
 have hCa:C≠a:=by
  rcases ha with z | z
  ·rw [z];exact e.2.1
  ·intro w;exact e.2.2.2.2.1 _ _ z w.symm
 refine⟨m',hns.sameBut sb hCa,fun h' hs'=>⟨_,H',?_,q⟩⟩
 exact I3.turned (t':=s2'.toks) (fun b o hb e=>(hs'.2 b hb).trans e) hn e.2.1 e.2.2.2.1 e.2.2.2.2.1 e.2.2.2.2.2
end
theorem xJ {K:W.Frag} {a:Addr} {xs:List V} {js:List Nat} {tt:TT} {te:TE} {Z:St} {H:Hp} {Q:VK} (Pv:Nat->List V->Hp->Prop) (h0:Pv 0 [] H) (hl:∀ i ys H,i<=xs.length->Pv i ys H->SqL K H a xs)
  (hs:∀ i x ys H,xs[i]?=some x->Pv i ys H->ys.length<sizeLine/\tt (some x :: yN js Z) H fun b H2=>if b=true then te (some x :: yN js Z) H2 fun v H3=>Pv (i+1) (ys++[v]) H3 else Pv (i+1) ys H2)
  (hd:∀ ys H,Pv xs.length ys H->∀ D,H D=none->Q (.ref D) (upd H D (.lst ys))) :
  VF (Itl K a) js tt te Z Q H:=by
 refine⟨fun i m ys H=>m=xs.length-i/\i<=xs.length/\Pv i ys H,⟨xs.length,by simp,Nat.zero_le _,h0⟩,?_⟩
 rintro i m ys H ⟨rfl,hi,p⟩
 have q:=hl i ys H hi p
 by_cases hlt:i<xs.length
 ·have hx:xs[i]?=some xs[i]:=List.getElem?_eq_getElem hlt
  obtain⟨hz,hst⟩:=hs i xs[i] ys H hx p
  refine .inr ⟨⟨xs,xs[i],q,hx⟩,hz,Pv (i+1),fun ys' H' p'=>⟨xs.length-(i+1),by omega,rfl,hlt,p'⟩,fun x H' y=>?_⟩
  obtain⟨e,y⟩:=y
  subst e
  have e2:=y xs q
  rw [hx] at e2
  cases e2
  exact hst
 ·have e:i=xs.length:=by omega
  subst e
  exact .inl ⟨⟨xs,q,Nat.le_refl _⟩,hd ys H p⟩
theorem ul {lo:Int} {n:Nat} {js:List Nat} {tt:TT} {te:TE} {Z:St} {H:Hp} {Q:VK} (Pv:Nat->List V->Hp->Prop) (h0:Pv 0 [] H)
  (hs:∀ i ys H,i<n->Pv i ys H->ys.length<sizeLine/\tt (some (.int (lo+i)) :: yN js Z) H fun b H2=>if b=true then te (some (.int (lo+i)) :: yN js Z) H2 fun v H3=>Pv (i+1) (ys++[v]) H3 else Pv (i+1) ys H2)
  (hd:∀ ys H,Pv n ys H->∀ D,H D=none->Q (.ref D) (upd H D (.lst ys))) :
  VF (Itr lo n) js tt te Z Q H:=by
 refine⟨fun i m ys H=>m=n-i/\i<=n/\Pv i ys H,⟨n,by simp,Nat.zero_le _,h0⟩,?_⟩
 rintro i m ys H ⟨rfl,hi,p⟩
 by_cases hlt:i<n
 ·obtain⟨hz,hst⟩:=hs i ys H hlt p
  refine .inr ⟨hlt,hz,Pv (i+1),fun ys' H' p'=>⟨n-(i+1),by omega,rfl,hlt,p'⟩,fun x H' y=>?_⟩
  obtain⟨e,y⟩:=y
  subst e y
  exact hst
 ·have e:i=n:=by omega
  subst e
  exact .inl ⟨Nat.le_refl _,hd ys H p⟩
open PySem PySem.Spec PyProof.Rows PySem.SeqAt
inductive Tr where
 | non | bl (b:Bool) | int (i:Int) | str (x:Str) | lst (ts:List Tr) | tup (ts:List Tr)
mutual
def TrAt (K:W.Frag) (H:Hp):Tr->V->Prop
 | .non,v=>v=.non
 | .bl b,v=>v=.bl b
 | .int i,v=>v=.int i
 | .str x,v=>v=.str x
 | .lst ts,v=>∃ a xs,v=.ref a/\SqL K H a xs/\TrsAt K H ts xs
 | .tup ts,v=>∃ a xs,v=.ref a/\SqT K H a xs/\TrsAt K H ts xs
def TrsAt (K:W.Frag) (H:Hp):List Tr->List V->Prop
 | [],xs=>xs=[]
 | t :: ts,xs=>∃ y ys,xs=y :: ys/\TrAt K H t y/\TrsAt K H ts ys
end
mutual
def teq:Tr->Tr->Bool
 | .non,.non=>true
 | .bl a,.bl b=>a == b
 | .bl a,.int b=>(if a then 1 else 0) == b
 | .int a,.bl b=>a == (if b then 1 else 0)
 | .int a,.int b=>a == b
 | .str a,.str b=>a == b
 | .lst a,.lst b=>qO a b
 | .tup a,.tup b=>qO a b
 | _,_=>false
def qO:List Tr->List Tr->Bool
 | [],[]=>true
 | t :: ts,u :: us=>teq t u && qO ts us
 | _,_=>false
end
mutual
def tQ:Tr->Nat
 | .lst ts=>xM ts+1
 | .tup ts=>xM ts+1
 | _=>0
def xM:List Tr->Nat
 | []=>0
 | t :: ts=>max (tQ t) (xM ts)
end
theorem Yn {t:Tr}:∀ {ts:List Tr},t∈ts->tQ t<=xM ts
 | u :: ts,h=>by
  rw [xM]
  rcases List.mem_cons.mp h with e | h
  ·rw [e];exact Nat.le_max_left _ _
  ·exact Nat.le_trans (Yn h) (Nat.le_max_right _ _)
section
variable {K:W.Frag} {H:Hp}
theorem TrsAt.length:∀ {ts:List Tr} {xs:List V},TrsAt K H ts xs->ts.length=xs.length
 | [],xs,h=>by rw [TrsAt] at h;subst h;rfl
 | t :: ts,xs,h=>by
  rw [TrsAt] at h
  obtain⟨y,ys,rfl,_,h⟩:=h
  rw [List.length_cons,List.length_cons,TrsAt.length h]
theorem TrsAt.get:∀ {ts:List Tr} {xs:List V} {j:Nat} {t:Tr},TrsAt K H ts xs->ts[j]?=some t->∃ x,xs[j]?=some x/\TrAt K H t x
 | [],xs,j,t,h,e=>by simp at e
 | u :: ts,xs,0,t,h,e=>by
  rw [TrsAt] at h
  obtain⟨y,ys,rfl,hy,h⟩:=h
  simp at e
  subst e
  exact⟨y,rfl,hy⟩
 | u :: ts,xs,j+1,t,h,e=>by
  rw [TrsAt] at h
  obtain⟨y,ys,rfl,hy,h⟩:=h
  obtain⟨x,e1,e2⟩:=TrsAt.get (j:=j) h (by simpa using e)
  exact⟨x,by simpa using e1,e2⟩
theorem TrsAt.mk:∀ {ts:List Tr} {xs:List V},ts.length=xs.length->(∀ (j:Nat) (t:Tr) (x:V),ts[j]?=some t->xs[j]?=some x->TrAt K H t x)->TrsAt K H ts xs
 | [],[],_,_=>by rw [TrsAt]
 | [],_ :: _,h,_=>by simp at h
 | _ :: _,[],h,_=>by simp at h
 | t :: ts,x :: xs,h,f=>by
  rw [TrsAt]
  exact⟨x,xs,rfl,f 0 t x rfl rfl,TrsAt.mk (by simpa using h) fun j t x e1 e2=>f (j+1) t x (by simpa using e1) (by simpa using e2)⟩
theorem TrsAt.ints:∀ {ns:List Int},TrsAt K H (ns.map Tr.int) (ns.map V.int)
 | []=>by rw [List.map_nil,TrsAt];rfl
 | n :: ns=>by rw [List.map_cons,TrsAt];exact⟨_,_,rfl,by rw [TrAt],TrsAt.ints⟩
def vf (ns:List Int):Tr:=.lst (ns.map Tr.int)
theorem TrAt.ints {a:Addr} {ns:List Int} (h:SqL K H a (ns.map V.int)):TrAt K H (vf ns) (.ref a):=by
 unfold vf;rw [TrAt];exact⟨a,_,rfl,h,TrsAt.ints⟩
end
mutual
theorem VH:∀ t:Tr,teq t t=true
 | .non=>by rw [teq]
 | .bl b=>by rw [teq];simp
 | .int i=>by rw [teq];simp
 | .str x=>by rw [teq];simp
 | .lst ts=>by rw [teq];exact Zu ts
 | .tup ts=>by rw [teq];exact Zu ts
theorem Zu:∀ ts:List Tr,qO ts ts=true
 | []=>by rw [qO]
 | t :: ts=>by rw [qO,VH t,Zu ts];rfl
end
theorem VD {α:Type} [DecidableEq α] {f:α->Tr} (h:∀ a b,teq (f a) (f b)=decide (a=b)):∀ (xs ys:List α),qO (xs.map f) (ys.map f)=decide (xs=ys)
 | [],[]=>by simp [qO]
 | [],_ :: _=>by simp [qO]
 | _ :: _,[]=>by simp [qO]
 | x :: xs,y :: ys=>by
  rw [List.map_cons,List.map_cons,qO,h,VD h xs ys,Bool.eq_iff_iff]
  simp
theorem zb2 (a b:Int):teq (.int a) (.int b)=decide (a=b):=by rw [teq,Bool.eq_iff_iff];simp
theorem Zi (a b:List Int):teq (vf a) (vf b)=decide (a=b):=by unfold vf;rw [teq];exact VD zb2 a b
theorem XC:∀ ns:List Int,xM (ns.map Tr.int)=0
 | []=>by simp [xM]
 | n :: ns=>by rw [List.map_cons,xM,XC ns,tQ]<;>simp
theorem ZX (ns:List Int):tQ (vf ns)=1:=by unfold vf;rw [tQ,XC]
theorem jV:∀ {ts us:List Tr},ts.length≠us.length->qO ts us=false
 | [],[],h=>absurd rfl h
 | [],_ :: _,_=>by simp [qO]
 | _ :: _,[],_=>by simp [qO]
 | t :: ts,u :: us,h=>by rw [qO,jV (by simpa using h),Bool.and_false]
def eAt (ts us:List Tr) (j:Nat):Bool:=match ts[j]?,us[j]? with
 | some t,some u=>teq t u
 | _,_=>true
theorem JF:∀ {ts us:List Tr},ts.length=us.length->(List.range ts.length).all (eAt ts us)=qO ts us
 | [],[],_=>by simp [qO]
 | [],_ :: _,h=>by simp at h
 | _ :: _,[],h=>by simp at h
 | t :: ts,u :: us,h=>by
  rw [List.length_cons,List.range_succ_eq_map,List.all_cons,List.all_map,qO,<- JF (ts:=ts) (us:=us) (by simpa using h)]
  rfl
section
variable {X:Cx} {pins:List (Addr×Obj)} {Z:St} {H:Hp} {s:Shared}
theorem V4 (I:Inv X pins Z H s):∀ (n:Nat) {t u:Tr} {v:V},tQ t<=n->TrAt X.K H t v->TrAt X.K H u v->t=u:=by
 intro n
 induction n with
 | zero =>
  intro t u v hd ht hu
  cases t with
  | lst ts=>rw [tQ] at hd;omega
  | tup ts=>rw [tQ] at hd;omega
  | _=>(rw [TrAt] at ht;subst ht;cases u<;>(rw [TrAt] at hu)<;>first | rfl | (obtain⟨_,_,z,_⟩:=hu;cases z) | (cases hu;rfl) | cases hu)
 | succ n ih =>
  intro t u v hd ht hu
  have lists:∀ {ts us:List Tr} {xs:List V},xM ts<=n->TrsAt X.K H ts xs->TrsAt X.K H us xs->ts=us:=by
   intro ts us xs hd h1 h2
   apply List.ext_getElem?
   intro j
   have l1:=h1.length
   have l2:=h2.length
   by_cases hj:j<ts.length
   ·obtain⟨t,e⟩:∃ t,ts[j]?=some t:=⟨_,List.getElem?_eq_getElem hj⟩
    obtain⟨u,e'⟩:∃ u,us[j]?=some u:=⟨_,List.getElem?_eq_getElem (by omega)⟩
    obtain⟨x,ex,hx⟩:=h1.get e
    obtain⟨y,ey,hy⟩:=h2.get e'
    rw [ex] at ey
    cases ey
    rw [e,e',ih (Nat.le_trans (Yn (List.mem_of_getElem? e)) hd) hx hy]
   ·rw [List.getElem?_eq_none (by omega),List.getElem?_eq_none (by omega)]
  cases t with
  | lst ts =>
   rw [TrAt] at ht
   obtain⟨a,xs,rfl,q,h1⟩:=ht
   cases u with
   | lst us =>
    rw [TrAt] at hu
    obtain⟨b,ys,e,q',h2⟩:=hu
    cases e
    rw [I.list_inj q' q] at h2
    rw [lists (by rw [tQ] at hd;omega) h1 h2]
   | tup us =>
    rw [TrAt] at hu
    obtain⟨b,ys,e,q',h2⟩:=hu
    cases e
    obtain⟨_,_,pl,_⟩:=I.list q
    obtain⟨_,_,pt,_⟩:=I.tuple q'
    exact absurd rfl (ne_of_list_tuple pl.isList pt)
   | _=>rw [TrAt] at hu;cases hu
  | tup ts =>
   rw [TrAt] at ht
   obtain⟨a,xs,rfl,q,h1⟩:=ht
   cases u with
   | tup us =>
    rw [TrAt] at hu
    obtain⟨b,ys,e,q',h2⟩:=hu
    cases e
    rw [I.tuple_inj q' q] at h2
    rw [lists (by rw [tQ] at hd;omega) h1 h2]
   | lst us =>
    rw [TrAt] at hu
    obtain⟨b,ys,e,q',h2⟩:=hu
    cases e
    obtain⟨_,_,pl,_⟩:=I.list q'
    obtain⟨_,_,pt,_⟩:=I.tuple q
    exact absurd rfl (ne_of_list_tuple pl.isList pt)
   | _=>rw [TrAt] at hu;cases hu
  | _=>(rw [TrAt] at ht;subst ht;cases u<;>(rw [TrAt] at hu)<;>first | rfl | (obtain⟨_,_,z,_⟩:=hu;cases z) | (cases hu;rfl) | cases hu)
structure zhg (A:Around) (s:Shared) (a b:Value) (r:Bool):Prop where
 rc:RcAt A s a b r
 ne:RcNeAt A s a b (!r)
 eq:EqAt A s a b r
theorem units_in1 (A:Around):A.in1.units=A.units+1:=rfl
theorem Vm (I:Inv X pins Z H s):∀ (n:Nat) {t u:Tr} {v w:V} {a b:Value} {A:Around},tQ t<=n->TrAt X.K H t v->TrAt X.K H u w->RelV v a->RelV w b->A.units+n<cLine->zhg A s a b (teq t u):=by
 intro n
 induction n with
 | zero =>
  intro t u v w a b A hd ht hu ra rb hA
  have hA':A.units<cLine:=by omega
  cases t with
  | lst ts=>rw [tQ] at hd;omega
  | tup ts=>rw [tQ] at hd;omega
  | non =>
   rw [TrAt] at ht;subst ht;cases ra
   cases u with
   | non=>rw [TrAt] at hu;subst hu;cases rb;rw [teq];exact⟨.none_none,.none_none,.same _⟩
   | bl b=>rw [TrAt] at hu;subst hu;cases rb;simp only [teq];exact⟨.none_bool _,.none_bool _,.none_bool _⟩
   | int b=>rw [TrAt] at hu;subst hu;obtain⟨_,rfl⟩:=rb;simp only [teq];exact⟨.none_int _ _,.none_int _ _,.none_int _ _⟩
   | str b=>rw [TrAt] at hu;subst hu;obtain⟨_,rfl⟩:=rb;simp only [teq];exact⟨.none_str _ _,.none_str _ _,.none_str _ _⟩
   | lst us=>rw [TrAt] at hu;obtain⟨p,ys,rfl,q,_⟩:=hu;cases rb;obtain⟨_,_,pl,_⟩:=I.list q;simp only [teq];exact⟨.none_list pl.isList hA',.none_list pl.isList hA',.none_list pl.isList hA'⟩
   | tup us=>rw [TrAt] at hu;obtain⟨p,ys,rfl,q,_⟩:=hu;cases rb;obtain⟨_,_,pl,_⟩:=I.tuple q;simp only [teq];exact⟨.none_tuple pl hA',.none_tuple pl hA',.none_tuple pl hA'⟩
  | bl c =>
   rw [TrAt] at ht;subst ht;cases ra
   cases u with
   | non=>rw [TrAt] at hu;subst hu;cases rb;simp only [teq];exact⟨.bool_none _,.bool_none _,.bool_none _⟩
   | bl b=>rw [TrAt] at hu;subst hu;cases rb;rw [teq];exact⟨.bool_bool _ _,.bool_bool _ _,.bool_bool _ _⟩
   | int b=>rw [TrAt] at hu;subst hu;obtain⟨_,rfl⟩:=rb;rw [teq];exact⟨.bool_int _ _ _,.bool_int _ _ _,.bool_int _ _ _⟩
   | str b=>rw [TrAt] at hu;subst hu;obtain⟨_,rfl⟩:=rb;simp only [teq];exact⟨.bool_str _ _ _,.bool_str _ _ _,.bool_str _ _ _⟩
   | lst us=>rw [TrAt] at hu;obtain⟨p,ys,rfl,q,_⟩:=hu;cases rb;obtain⟨_,_,pl,_⟩:=I.list q;simp only [teq];exact⟨.bool_list _ pl.isList hA',.bool_list _ pl.isList hA',.bool_list _ pl.isList hA'⟩
   | tup us=>rw [TrAt] at hu;obtain⟨p,ys,rfl,q,_⟩:=hu;cases rb;obtain⟨_,_,pl,_⟩:=I.tuple q;simp only [teq];exact⟨.bool_tuple _ pl hA',.bool_tuple _ pl hA',.bool_tuple _ pl hA'⟩
  | int c =>
   rw [TrAt] at ht;subst ht;obtain⟨_,rfl⟩:=ra
   cases u with
   | non=>rw [TrAt] at hu;subst hu;cases rb;simp only [teq];exact⟨.int_none _ _,.int_none _ _,.int_none _ _⟩
   | bl b=>rw [TrAt] at hu;subst hu;cases rb;rw [teq];exact⟨.int_bool _ _ _,.int_bool _ _ _,.int_bool _ _ _⟩
   | int b=>rw [TrAt] at hu;subst hu;obtain⟨_,rfl⟩:=rb;rw [teq];exact⟨.int_int _ _ _ _,.int_int _ _ _ _,.int_int _ _ _ _⟩
   | str b=>rw [TrAt] at hu;subst hu;obtain⟨_,rfl⟩:=rb;simp only [teq];exact⟨.int_str _ _ _ _,.int_str _ _ _ _,.int_str _ _ _ _⟩
   | lst us=>rw [TrAt] at hu;obtain⟨p,ys,rfl,q,_⟩:=hu;cases rb;obtain⟨_,_,pl,_⟩:=I.list q;simp only [teq];exact⟨.int_list _ _ pl.isList hA',.int_list _ _ pl.isList hA',.int_list _ _ pl.isList hA'⟩
   | tup us=>rw [TrAt] at hu;obtain⟨p,ys,rfl,q,_⟩:=hu;cases rb;obtain⟨_,_,pl,_⟩:=I.tuple q;simp only [teq];exact⟨.int_tuple _ _ pl hA',.int_tuple _ _ pl hA',.int_tuple _ _ pl hA'⟩
  | str c =>
   rw [TrAt] at ht;subst ht;obtain⟨_,rfl⟩:=ra
   cases u with
   | non=>rw [TrAt] at hu;subst hu;cases rb;simp only [teq];exact⟨.str_none _ _,.str_none _ _,.str_none _ _⟩
   | bl b=>rw [TrAt] at hu;subst hu;cases rb;simp only [teq];exact⟨.str_bool _ _ _,.str_bool _ _ _,.str_bool _ _ _⟩
   | int b=>rw [TrAt] at hu;subst hu;obtain⟨_,rfl⟩:=rb;simp only [teq];exact⟨.str_int _ _ _ _,.str_int _ _ _ _,.str_int _ _ _ _⟩
   | str b=>rw [TrAt] at hu;subst hu;obtain⟨_,rfl⟩:=rb;rw [teq];exact⟨.str_str _ _ _ _,.str_str _ _ _ _,.str_str _ _ _ _⟩
   | lst us=>rw [TrAt] at hu;obtain⟨p,ys,rfl,q,_⟩:=hu;cases rb;obtain⟨_,_,pl,_⟩:=I.list q;simp only [teq];exact⟨.str_list _ _ pl.isList hA',.str_list _ _ pl.isList hA',.str_list _ _ pl.isList hA'⟩
   | tup us=>rw [TrAt] at hu;obtain⟨p,ys,rfl,q,_⟩:=hu;cases rb;obtain⟨_,_,pl,_⟩:=I.tuple q;simp only [teq];exact⟨.str_tuple _ _ pl hA',.str_tuple _ _ pl hA',.str_tuple _ _ pl hA'⟩
 | succ n ih =>
  intro t u v w a b A hd ht hu ra rb hA
  have hA':A.units<cLine:=by omega
  have items:∀ {ts us:List Tr} {xs ys:List V} {its its2:List Value},xM ts<=n->TrsAt X.K H ts xs->TrsAt X.K H us ys->Vals xs its->Vals ys its2 ->
    ∀ j (h1:j<its.toArray.size) (h2:j<its2.toArray.size),EqAt A.in1 s its.toArray[j] its2.toArray[j] (eAt ts us j):=by
   intro ts us xs ys its its2 hdn h1 h2 r1 r2 j hj1 hj2
   have l1:=h1.length
   have l2:=h2.length
   have m1:=r1.length
   have m2:=r2.length
   rw [List.size_toArray] at hj1 hj2
   obtain⟨t,e⟩:∃ t,ts[j]?=some t:=⟨_,List.getElem?_eq_getElem (by omega)⟩
   obtain⟨u,e'⟩:∃ u,us[j]?=some u:=⟨_,List.getElem?_eq_getElem (by omega)⟩
   obtain⟨x,ex,hx⟩:=h1.get e
   obtain⟨y,ey,hy⟩:=h2.get e'
   obtain⟨vx,fx,rx⟩:=r1.get ex
   obtain⟨vy,fy,ry⟩:=r2.get ey
   have g1:its.toArray[j]'(by simpa using hj1)=vx:=by
    have z:its[j]=vx:=Option.some.inj ((List.getElem?_eq_getElem hj1).symm.trans fx)
    simpa using z
   have g2:its2.toArray[j]'(by simpa using hj2)=vy:=by
    have z:its2[j]=vy:=Option.some.inj ((List.getElem?_eq_getElem hj2).symm.trans fy)
    simpa using z
   rw [g1,g2]
   have q:=(ih (A:=A.in1) (Nat.le_trans (Yn (List.mem_of_getElem? e)) hdn) hx hy rx ry (by rw [units_in1];omega)).eq
   unfold eAt
   rw [e,e']
   exact q
  by_cases hz:tQ t<=n
  ·exact ih hz ht hu ra rb (by omega)
  cases t with
  | lst ts =>
   rw [TrAt] at ht;obtain⟨p,xs,rfl,q,h1⟩:=ht;cases ra
   obtain⟨its,r1,pl,_⟩:=I.list q
   cases u with
   | non=>rw [TrAt] at hu;subst hu;cases rb;simp only [teq];exact⟨.list_none pl.isList hA',.list_none pl.isList hA',.list_none pl.isList hA'⟩
   | bl b=>rw [TrAt] at hu;subst hu;cases rb;simp only [teq];exact⟨.list_bool _ pl.isList hA',.list_bool _ pl.isList hA',.list_bool _ pl.isList hA'⟩
   | int b=>rw [TrAt] at hu;subst hu;obtain⟨_,rfl⟩:=rb;simp only [teq];exact⟨.list_int _ _ pl.isList hA',.list_int _ _ pl.isList hA',.list_int _ _ pl.isList hA'⟩
   | str b=>rw [TrAt] at hu;subst hu;obtain⟨_,rfl⟩:=rb;simp only [teq];exact⟨.list_str _ _ pl.isList hA',.list_str _ _ pl.isList hA',.list_str _ _ pl.isList hA'⟩
   | tup us=>rw [TrAt] at hu;obtain⟨p',ys,rfl,q',_⟩:=hu;cases rb;obtain⟨_,_,pl',_⟩:=I.tuple q';simp only [teq];exact⟨.list_tuple pl.isList pl' hA',.list_tuple pl.isList pl' hA',.list_tuple pl.isList pl' hA'⟩
   | lst us =>
    have hu0:=hu
    rw [TrAt] at hu;obtain⟨p',ys,rfl,q',h2⟩:=hu;cases rb
    obtain⟨its2,r2,pl',_⟩:=I.list q'
    have l1:=h1.length
    have l2:=h2.length
    have m1:=r1.length
    have m2:=r2.length
    have hdn:xM ts<=n:=by rw [tQ] at hd;omega
    have both:RcAt A s (.ref p) (.ref p') (qO ts us)/\RcNeAt A s (.ref p) (.ref p') (!qO ts us):=by
     by_cases hsz:ts.length=us.length
     ·have hs:its.toArray.size=its2.toArray.size:=by rw [List.size_toArray,List.size_toArray];omega
      have it:=items hdn h1 h2 r1 r2
      have e1:(List.range its.toArray.size).all (eAt ts us)=qO ts us:=by
       rw [List.size_toArray,<- m1,<- l1];exact JF hsz
      have a1:=RcAt.lists pl.isList pl'.isList hs hA' it
      have a2:=RcNeAt.lists pl.isList pl'.isList hs hA' it
      rw [e1] at a1 a2
      exact⟨a1,a2⟩
     ·have hs:(its.toArray.size != its2.toArray.size)=true:=by
       rw [List.size_toArray,List.size_toArray,bne_iff_ne];omega
      rw [jV hsz]
      exact⟨.lists_lengths pl.isList pl'.isList hs hA',.lists_lengths pl.isList pl'.isList hs hA'⟩
    rw [teq]
    refine⟨both.1,both.2,?_⟩
    by_cases hpp:p=p'
    ·subst hpp
     have e:Tr.lst ts=Tr.lst us:=V4 I (n+1) hd (show TrAt X.K H (.lst ts) (.ref p) by rw [TrAt];exact⟨p,xs,rfl,q,h1⟩) hu0
     cases e
     rw [Zu]
     exact .same _
    ·exact .of_refs hpp both.1
  | tup ts =>
   rw [TrAt] at ht;obtain⟨p,xs,rfl,q,h1⟩:=ht;cases ra
   obtain⟨its,r1,pl,_⟩:=I.tuple q
   cases u with
   | non=>rw [TrAt] at hu;subst hu;cases rb;simp only [teq];exact⟨.tuple_none pl hA',.tuple_none pl hA',.tuple_none pl hA'⟩
   | bl b=>rw [TrAt] at hu;subst hu;cases rb;simp only [teq];exact⟨.tuple_bool _ pl hA',.tuple_bool _ pl hA',.tuple_bool _ pl hA'⟩
   | int b=>rw [TrAt] at hu;subst hu;obtain⟨_,rfl⟩:=rb;simp only [teq];exact⟨.tuple_int _ _ pl hA',.tuple_int _ _ pl hA',.tuple_int _ _ pl hA'⟩
   | str b=>rw [TrAt] at hu;subst hu;obtain⟨_,rfl⟩:=rb;simp only [teq];exact⟨.tuple_str _ _ pl hA',.tuple_str _ _ pl hA',.tuple_str _ _ pl hA'⟩
   | lst us=>rw [TrAt] at hu;obtain⟨p',ys,rfl,q',_⟩:=hu;cases rb;obtain⟨_,_,pl',_⟩:=I.list q';simp only [teq];exact⟨.tuple_list pl pl'.isList hA',.tuple_list pl pl'.isList hA',.tuple_list pl pl'.isList hA'⟩
   | tup us =>
    have hu0:=hu
    rw [TrAt] at hu;obtain⟨p',ys,rfl,q',h2⟩:=hu;cases rb
    obtain⟨its2,r2,pl',_⟩:=I.tuple q'
    have l1:=h1.length
    have l2:=h2.length
    have m1:=r1.length
    have m2:=r2.length
    have hdn:xM ts<=n:=by rw [tQ] at hd;omega
    have e1:((List.range (min its.toArray.size its2.toArray.size)).all (eAt ts us) && its.toArray.size == its2.toArray.size)=qO ts us:=by
     rw [List.size_toArray,List.size_toArray,<- m1,<- l1,<- m2,<- l2]
     by_cases hsz:ts.length=us.length
     ·rw [<- hsz,Nat.min_self,beq_self_eq_true,Bool.and_true];exact JF hsz
     ·rw [jV hsz,beq_eq_false_iff_ne.mpr hsz,Bool.and_false]
    have it:=items hdn h1 h2 r1 r2
    have a1:=RcAt.tuples pl pl' hA' it
    have a2:=RcNeAt.tuples pl pl' hA' it
    rw [e1] at a1 a2
    rw [teq]
    refine⟨a1,a2,?_⟩
    by_cases hpp:p=p'
    ·subst hpp
     have e:Tr.tup ts=Tr.tup us:=V4 I (n+1) hd (show TrAt X.K H (.tup ts) (.ref p) by rw [TrAt];exact⟨p,xs,rfl,q,h1⟩) hu0
     cases e
     rw [Zu]
     exact .same _
    ·exact .of_refs hpp a1
  | non=>exact absurd (Nat.zero_le _) hz
  | bl b=>exact absurd (Nat.zero_le _) hz
  | int b=>exact absurd (Nat.zero_le _) hz
  | str b=>exact absurd (Nat.zero_le _) hz
end
section
variable {X:Cx}
def zeR (K:W.Frag) (neg:Bool):R2:=fun x y H Q=>∃ t u,TrAt K H t x/\TrAt K H u y/\tQ t<=8/\Q (.bl (if neg then !teq t u else teq t u)) H
theorem zfk (hu:X.A.units+64<cLine):OpR X (compareOp .Eq) (zeR X.K false):=by
 intro pins s Z H x y v u Q I rx ry h
 obtain⟨t,t',h1,h2,hd,q⟩:=h
 exact (Vm I 8 hd h1 h2 rx ry (by omega)).rc _ _ _ _ ⟨.bl _,H,I,rfl,q⟩
theorem zfU (hu:X.A.units+64<cLine):OpR X (compareOp .NotEq) (zeR X.K true):=by
 intro pins s Z H x y v u Q I rx ry h
 obtain⟨t,t',h1,h2,hd,q⟩:=h
 exact (Vm I 8 hd h1 h2 rx ry (by omega)).ne _ _ _ _ ⟨.bl _,H,I,rfl,q⟩
open Classical in
def zeP (K:W.Frag) (neg:Bool):R2:=fun x y H Q=>∃ p xs ts u,y=.ref p/\SqL K H p xs/\TrsAt K H ts xs/\TrAt K H u x/\xM ts<=8/\Q (.bl (if neg then !(ts.any fun t=>teq t u) else ts.any fun t=>teq t u)) H
open Classical in
theorem zaR {pins:List (Addr×Obj)} {Z:St} {H:Hp} {s:Shared} (I:Inv X pins Z H s) {u:Tr}:∀ {ts:List Tr} {xs:List V} {its:List Value},xM ts<=8->TrsAt X.K H ts xs->Vals xs its ->
  its.any (fun y=>decide (∃ t x,RelV x y/\TrAt X.K H t x/\teq t u=true))=ts.any fun t=>teq t u
 | [],xs,its,_,h,r=>by rw [TrsAt] at h;subst h;cases r;rfl
 | t :: ts,xs,its,hd,h,r=>by
  rw [TrsAt] at h
  obtain⟨y,ys,rfl,hy,h⟩:=h
  cases r with
  | cons r1 r2 =>
   rw [xM] at hd
   rw [List.any_cons,List.any_cons,zaR I (by omega) h r2]
   congr 1
   rw [Bool.eq_iff_iff,decide_eq_true_iff]
   constructor
   ·rintro⟨t',x',r',h',e⟩
    rw [r1.inj r'] at hy
    rw [V4 I 8 (by omega) hy h'];exact e
   ·intro e
    exact⟨t,y,r1,hy,e⟩
open Classical in
theorem Q4 {pins:List (Addr×Obj)} {Z:St} {H:Hp} {s:Shared} (I:Inv X pins Z H s) (hu:X.A.units+64<cLine) {u:Tr} {x:V} {v:Value} (hx:TrAt X.K H u x) (rx:RelV x v) {ts:List Tr} {xs:List V} {its:List Value} (hd:xM ts<=8) (h:TrsAt X.K H ts xs) (r:Vals xs its) :
  ∀ y,y∈its.toArray->SeqAt.EqAt X.A.in1 s y v (decide (∃ t x,RelV x y/\TrAt X.K H t x/\teq t u=true)):=by
 intro y hy
 have hy':y∈its:=by simpa using hy
 obtain⟨j,hj,e⟩:=List.getElem_of_mem hy'
 have l1:=h.length
 have m1:=r.length
 obtain⟨t,et⟩:∃ t,ts[j]?=some t:=⟨_,List.getElem?_eq_getElem (by omega)⟩
 obtain⟨z,ez,hz⟩:=h.get et
 obtain⟨w,ew,rw'⟩:=r.get ez
 have e':y=w:=by
  rw [List.getElem?_eq_getElem hj] at ew
  exact e.symm.trans (Option.some.inj ew)
 subst e'
 have hd':tQ t<=8:=Nat.le_trans (Yn (List.mem_of_getElem? et)) hd
 have q:=(Vm I 8 (A:=X.A.in1) hd' hz hx rw' rx (by rw [units_in1];omega)).eq
 have e2:decide (∃ t x,RelV x y/\TrAt X.K H t x/\teq t u=true)=teq t u:=by
  rw [Bool.eq_iff_iff,decide_eq_true_iff]
  constructor
  ·rintro⟨t',x',r',h',e3⟩
   rw [rw'.inj r'] at hz
   rw [V4 I 8 hd' hz h'];exact e3
  ·intro e3
   exact⟨t,z,rw',hz,e3⟩
 rw [e2]
 exact q
open Classical in
theorem zfp (hu:X.A.units+64<cLine):OpR X (compareOp .In) (zeP X.K false):=by
 intro pins s Z H x y v u Q I rx ry h
 obtain⟨p,xs,ts,t,rfl,hq,hts,ht,hd,q⟩:=h
 cases ry
 obtain⟨its,r,pl,hz⟩:=I.list hq
 refine SeqAt.in_listAt _ pl.isList (Q4 I hu ht rx hd hts r) ⟨.bl _,H,I,rfl,?_⟩
 simp only [List.any_toArray]
 rw [zaR I hd hts r]
 exact q
open Classical in
theorem zcd (hu:X.A.units+64<cLine):OpR X (compareOp .NotIn) (zeP X.K true):=by
 intro pins s Z H x y v u Q I rx ry h
 obtain⟨p,xs,ts,t,rfl,hq,hts,ht,hd,q⟩:=h
 cases ry
 obtain⟨its,r,pl,hz⟩:=I.list hq
 refine SeqAt.notIn_listAt _ pl.isList (Q4 I hu ht rx hd hts r) ⟨.bl _,H,I,rfl,?_⟩
 simp only [List.any_toArray]
 rw [zaR I hd hts r]
 exact q
end
end L2
namespace L2
open PySem PySem.Spec PyProof.Rows
theorem Je {K:W.Frag} {T U:String} {b:Bool} (h1:W.kitMeta U=true) (h2:(fastBuiltinMro T).map (·.contains (Value.type U))=some b) (hb:T=U->b=true):W.kitOne K (.type T) (.type U)=some b:=by
 unfold W.kitOne
 by_cases e:T=U
 ·subst e
  rw [if_pos (by simp),hb rfl]
 ·rw [if_neg (by simpa using e)]
  show (if W.kitMeta U=true then W.subIn K (.type T) (.type U) else none)=some b
  rw [if_pos h1]
  exact h2
section
variable {K:W.Frag}
theorem WT:W.kitOne K (.type "int") (.type "int")=some true:=Je (by decide +kernel) (by decide +kernel) (fun _=>rfl)
theorem Wf:W.kitOne K (.type "int") (.type "bool")=some false:=Je (by decide +kernel) (by decide +kernel) (fun e=>absurd e (by decide))
theorem Y4:W.kitOne K (.type "list") (.type "list")=some true:=Je (by decide +kernel) (by decide +kernel) (fun _=>rfl)
theorem Vi:W.kitOne K (.type "tuple") (.type "tuple")=some true:=Je (by decide +kernel) (by decide +kernel) (fun _=>rfl)
end
section
variable {X:Cx}
def zgF (K:W.Frag):List V->Hp->VK->Prop:=fun xs H Q=>∃ x T t b,xs=[x,.ty T]/\XJ K H x t/\W.kitOne K t (.type T)=some b/\Q (.bl b) H
theorem V8:vB X (.builtin "isinstance") (zgF X.K):=by
 intro pins s Z H xs us Q I r h
 obtain⟨x,T,t,b,rfl,ty,e,q⟩:=h
 obtain⟨u,v,rfl,rx,rt⟩:=vals2 r
 cases rt
 exact zcO I rx ty e fun tk=>⟨.bl b,H,I.tok tk,rfl,q⟩
def zgc (i j:Int):Prop:=0<j/\j<2^200
theorem vR:OpR X (binaryOp .FloorDiv) (rI zgc fun i j=>.int (i / j)):=opI fun i j _ _ _ _ _ hc q=>by
 have h1:(0:Int)<j:=hc.1
 have h2:j<2^200:=hc.2
 refine floordiv_int (by omega) (by rw [Int.fdiv_eq_ediv_of_nonneg i (by omega)];exact q) (.inl (PyProof.noPylong_of_log2 ?_))
 have h3:j.natAbs<2^200:=by omega
 have h4:j.natAbs.log2<200:=(Nat.log2_lt (by omega)).mpr h3
 omega
theorem WW {P:Program} {w:World} {A:Around} {its:List Value} {bs:List Bool} (r:Vals (bs.map V.bl) its):TruthOf P w A (fun i v=>its.toArray[i]?=some v) (fun i=>bs.getD i false):=by
 intro i v s Q E hP hQ
 have hl:=r.length
 rw [List.length_map] at hl
 have e:its[i]?=some v:=by simpa using hP
 have hi:i<its.length:=(List.getElem?_eq_some_iff.mp e).1
 have e2:(bs.map V.bl)[i]?=some (.bl (bs[i]'(by omega))):=by rw [List.getElem?_map,List.getElem?_eq_getElem (by omega)];rfl
 obtain⟨u,e3,r3⟩:=r.get e2
 rw [e] at e3
 cases e3
 cases r3
 have e4:bs.getD i false=bs[i]:=by rw [List.getD_eq_getElem?_getD,List.getElem?_eq_getElem (by omega)];rfl
 exact wpAny_truthy_bool (e4▸hQ)
theorem zaL:∀ bs:List Bool,(List.range bs.length).all (fun i=>bs.getD i false)=bs.all id
 | []=>rfl
 | b :: bs=>by
  rw [List.length_cons,List.range_succ_eq_map,List.all_cons,List.all_map,List.all_cons,<- zaL bs]
  rfl
theorem zaI:∀ bs:List Bool,(List.range bs.length).any (fun i=>bs.getD i false)=bs.any id
 | []=>rfl
 | b :: bs=>by
  rw [List.length_cons,List.range_succ_eq_map,List.any_cons,List.any_map,List.any_cons,<- zaI bs]
  rfl
def zgl (K:W.Frag):List V->Hp->VK->Prop:=fun xs H Q=>∃ (a:Addr) (bs:List Bool),xs=[.ref a]/\SqL K H a (bs.map V.bl)/\Q (.bl (bs.all id)) H
def zgU (K:W.Frag):List V->Hp->VK->Prop:=fun xs H Q=>∃ (a:Addr) (bs:List Bool),xs=[.ref a]/\SqL K H a (bs.map V.bl)/\Q (.bl (bs.any id)) H
theorem zds (hc:X.calm=true):vB X (.builtin "all") (zgl X.K):=by
 intro pins s Z H xs us Q I r h
 obtain⟨a,bs,rfl,hq,q⟩:=h
 obtain⟨u,rfl,rx⟩:=vals1 r
 cases rx
 obtain⟨its,rv,pl,hz⟩:=I.list hq
 have hl:=rv.length
 rw [List.length_map] at hl
 obtain⟨o,n,eo,_⟩:=id pl
 have hne:a≠s.heap.objs.size:=Nat.ne_of_lt (Heap.lt_size eo)
 refine call_all_walk (wpAny_pyIter_list pl.isList ?_)
 refine⟨_,_,_,_,_,_,_,rfl,Walks.list (A:=X.A.in1) (show X.A.in1.handled=none from I.ok.hd hc) s.heap.objs.size a hne its.toArray,⟨⟨_,Heap.get?_push_size _ rfl,rfl,rfl⟩,pl.isList.at fun o e=>Heap.get?_push_of_some _ e⟩,WW rv,fun h' tk hk=>?_⟩
 have I1:Inv X pins Z H { s with heap:=h',toks:=tk }:=I.kept fun b o e=>hk b o (by have:=Heap.lt_size e;simp;exact Nat.ne_of_lt this) (Heap.get?_push_of_some _ e)
 refine⟨.bl _,H,I1,rfl,?_⟩
 rw [List.size_toArray,<- hl,zaL]
 exact q
theorem zd0 (hc:X.calm=true):vB X (.builtin "any") (zgU X.K):=by
 intro pins s Z H xs us Q I r h
 obtain⟨a,bs,rfl,hq,q⟩:=h
 obtain⟨u,rfl,rx⟩:=vals1 r
 cases rx
 obtain⟨its,rv,pl,hz⟩:=I.list hq
 have hl:=rv.length
 rw [List.length_map] at hl
 obtain⟨o,n,eo,_⟩:=id pl
 have hne:a≠s.heap.objs.size:=Nat.ne_of_lt (Heap.lt_size eo)
 refine call_any_walk (wpAny_pyIter_list pl.isList ?_)
 refine⟨_,_,_,_,_,_,_,rfl,Walks.list (A:=X.A.in1) (show X.A.in1.handled=none from I.ok.hd hc) s.heap.objs.size a hne its.toArray,⟨⟨_,Heap.get?_push_size _ rfl,rfl,rfl⟩,pl.isList.at fun o e=>Heap.get?_push_of_some _ e⟩,WW rv,fun h' tk hk=>?_⟩
 have I1:Inv X pins Z H { s with heap:=h',toks:=tk }:=I.kept fun b o e=>hk b o (by have:=Heap.lt_size e;simp;exact Nat.ne_of_lt this) (Heap.get?_push_of_some _ e)
 refine⟨.bl _,H,I1,rfl,?_⟩
 rw [List.size_toArray,<- hl,zaI]
 exact q
theorem zdC:typeLookup (.type "list_reverseiterator") "__len__" = pure none:=by rw [typeLookup_type,builtinLookup_eq_fast];kernel_rfl
theorem zer:typeLookup (.type "list_reverseiterator") "__length_hint__" = pure (some (.builtin "list_reverseiterator.__length_hint__")):=by rw [typeLookup_type,builtinLookup_eq_fast];kernel_rfl
section
variable {prog:Program} {w:World} {A:Around} {E:Value->Shared->Prop} {s:Shared}
theorem zbe {R:Result->Shared->Prop} (hh:A.handled=none) {I l:Addr} {items:Array Value} (hit:s.heap.IsRevIter I l ((items.size:Int)-1)) (hL:s.heap.IsList l items) (S:Addr) (res:Value) (c₀:Nat) (hS:s.heap.get? S=some { cls:=.type "list",data:=.seq #[] c₀ })
  (hSl:S≠l) (hR:∀ s' acc' c',Moved [S,I] (fun a b=>b=a) s s'->s'.heap.get? S=some { cls:=.type "list",dict:=none,data:=.seq acc' c',slots:=#[] } ->
   ItemsOf (fun i v=>items[items.size-1-i]?=some v) acc' items.size->R (.ok (.ret res)) s') (hn:items.size<=sizeLine) :
  wpAny (model prog w) A.in1 (Builtin.List.listExtendWith (.ref S) (.ref I) res)
   (fun fin s'=>match fin with | .done f=>R (.ok f) s' | .again c'=>c'.quiet=true/\codeAny (model prog w) A c' R s') (fun e s'=>R (.error e) s') s:=by
 obtain⟨oi,hoi,hci,hdi⟩:=id hit
 obtain⟨ol,hol,hcl,nl,hdl⟩:=id hL
 have hSI:S≠I:=by
  rintro rfl
  rw [hS] at hoi;cases hoi;exact absurd (show Value.type "list" = Value.type "list_reverseiterator" from hci) (by decide)
 have hne:l≠I:=by
  rintro rfl
  rw [hol] at hoi;cases hoi;rw [hcl] at hci;exact absurd hci (by decide)
 have hSf:S∉[I,l]:=fun hm=>by
  rcases List.mem_cons.mp hm with e | hm
  ·exact hSI e
  ·exact hSl (List.mem_singleton.mp hm)
 unfold Builtin.List.listExtendWith
 refine wpAny_bind (wpAny_typeOf (T:="list_reverseiterator") hit.typeIs ?_)
 have h1:Builtin.List.listSameRef (.ref S) (.ref I)=false:=by simp [Builtin.List.listSameRef,hSI]
 have h2:(Value.type "list_reverseiterator" == Value.type "list")=false:=by decide
 have h3:(Value.type "list_reverseiterator" == Value.type "tuple")=false:=by decide
 simp only [h1,h2,h3,Bool.or_false,Bool.false_eq_true,if_false]
 refine wpAny_bind (wpAny_pyIter_revIter hit ?_)
 refine wpAny_bind (wpAny_holding ?_)
 unfold Builtin.List.listLengthHint
 refine wpAny_bind (wpAny_specialOf hit.typeIs zdC ?_)
 show wpAny _ A.in1 (specialOf (Value.ref I) (Str.ofString "__length_hint__") >>= _) _ _ _
 refine wpAny_bind (wpAny_specialOf hit.typeIs zer ?_)
 generalize hid:("list_reverseiterator.__length_hint__" : String)=id0
 wp_delta
 rw [show splitId id0=some ("list_reverseiterator","__length_hint__") from by subst hid;decide +kernel]
 subst hid
 refine wpAny_bind (wpAny_isInstance (b:=true) hit.typeIs (by rw [isSubtype_type];kernel_rfl) ?_)
 refine wpAny_pure ?_
 rw [if_neg (by decide)]
 have W:=Walks.listRev (prog:=prog) (w:=w) (A:=A.in1) hh I l hne items
 refine wpAny_pure ⟨plainId_quiet F.plain_extend_loop _,codeAny_extend_loopS W.toS hn _ hSf _ items.size 0 _ _ _ rfl (Nat.zero_le _) ⟨Nat.zero_le _,by simpa using hit,hL⟩ hS (ItemsOf.nil _) fun s' acc' c' hm hS' hacc=>?_⟩
 exact hR s' acc' c' hm hS' hacc
theorem zdi {R:Result->Shared->Prop} (hh:A.handled=none) {I l:Addr} {items:Array Value} (hit:s.heap.IsRevIter I l ((items.size:Int)-1)) (hL:s.heap.IsList l items) (S:Addr) (hS:s.heap.get? S=some { cls:=.type "list",data:=.seq #[] }) (hSl:S≠l) (hSI:S≠I)
  (hR:∀ s' acc' c',s'.gens=s.gens->s'.os=s.os->(∀ b o,b≠S->b≠I->s.heap.get? b=some o->s'.heap.get? b=some o)->s'.heap.get? S=some { cls:=.type "list",dict:=none,data:=.seq acc' c',slots:=#[] } ->
   ItemsOf (fun i v=>items[items.size-1-i]?=some v) acc' items.size->R (.ok (.ret .none)) s') (hn:items.size<=sizeLine) :
  wpAny (model prog w) A.in1 (Builtin.«list.__init__» ⟨[.ref S,.ref I],[]⟩)
   (fun fin s'=>match fin with | .done f=>R (.ok f) s' | .again c'=>c'.quiet=true/\codeAny (model prog w) A c' R s') (fun e s'=>R (.error e) s') s:=by
 show wpAny _ _ (do let old <- Builtin.List.listItems (.ref S);Builtin.List.listUpdate (.ref S) (fun _=>#[]);letGo old.toList.reverse;Builtin.List.listExtendWith (.ref S) (.ref I) .none) _ _ s
 refine wpAny_bind ?_
 unfold Builtin.List.listItems
 refine wpAny_bind (wpAny_seqItems hS rfl (wpAny_pure ?_))
 show wpAny _ _ (updateSeq S (fun _=>#[]) >>= fun _=>letGo (#[]:Array Value).toList.reverse >>= fun _=>Builtin.List.listExtendWith (.ref S) (.ref I) .none) _ _ s
 refine wpAny_bind (wpAny_updateSeq hS rfl ?_)
 have hS₂:=Heap.get?_update_self (Obj.mapSeq (fun _=>(#[]:Array Value))) hS rfl
 have oth:∀ b o,b≠S->s.heap.get? b=some o->(s.heap.update S (Obj.mapSeq (fun _=>(#[]:Array Value)))).get? b=some o :=
  fun b o hb e=>(Heap.get?_update_other _ _ (Ne.symm hb)).trans e
 refine wpAny_bind (wpAny_letGo ?_)
 refine zbe (hn:=hn) hh (hit.at fun o e=>oth I o (Ne.symm hSI) e) (hL.at fun o e=>oth l o (Ne.symm hSl) e) S .none _ hS₂ hSl fun s' acc' c' hm hS' hacc=>?_
 refine hR s' acc' c' hm.gens hm.os (fun b o hb hi e=>hm.heap b o (fun z=>?_) (oth b o hb e)) hS' hacc
 rcases List.mem_cons.mp z with e' | z
 ·exact hb e'
 ·exact hi (List.mem_singleton.mp z)
theorem Wb {Q:Value->Shared->Prop} (hh:A.handled=none) {I l:Addr} {items:Array Value} (hit:s.heap.IsRevIter I l ((items.size:Int)-1)) (hL:s.heap.IsList l items)
  (hQ:∀ s' acc' c',s'.gens=s.gens->s'.os=s.os->(∀ b o,b≠I->s.heap.get? b=some o->s'.heap.get? b=some o) ->
   s'.heap.get? s.heap.objs.size=some { cls:=.type "list",dict:=none,data:=.seq acc' c',slots:=#[] }->ItemsOf (fun i v=>items[items.size-1-i]?=some v) acc' items.size->Q (.ref s.heap.objs.size) s') (hn:items.size<=sizeLine) :
  wpAny (model prog w) A (call (.type "list") [.ref I]) Q E s:=by
 refine callType_codes (Q₁:=fun obj s₁=>obj=.ref s.heap.objs.size/\s₁={ s with heap:=s.heap.push { cls:=.type "list",data:=.seq #[] } }) F.called_list (F.typeCall_list_1 _) F.entry_list_init
  (code_list_new _ ⟨rfl,rfl⟩) fun obj s₁ h₁=>?_
 obtain⟨rfl,rfl⟩:=h₁
 have hS:(s.heap.push { cls:=.type "list",data:=.seq #[] }).get? s.heap.objs.size=some { cls:=.type "list",data:=.seq #[] }:=Heap.get?_push_size _ rfl
 obtain⟨oi,hoi,_⟩:=id hit
 obtain⟨ol,hol,_⟩:=id hL
 refine⟨⟨_,hS,rfl⟩,F.args_list_init_2 _ _,zdi (A:=A.in1) (hn:=hn) hh (hit.at fun o e=>Heap.get?_push_of_some _ e) (hL.at fun o e=>Heap.get?_push_of_some _ e) _ hS (Nat.ne_of_gt (Heap.lt_size hol)) (Nat.ne_of_gt (Heap.lt_size hoi)) fun s' acc' c' hg ho hk hS' hacc=>?_⟩
 exact⟨rfl,hQ s' acc' c' hg ho (fun b o hI e=>hk b o (Nat.ne_of_lt (Heap.lt_size e)) hI (Heap.get?_push_of_some _ e)) hS' hacc⟩
end
theorem zcK {items acc:Array Value} (h:ItemsOf (fun i v=>items[items.size-1-i]?=some v) acc items.size):acc=items.toList.reverse.toArray:=by
 apply Array.ext_getElem?
 intro i
 by_cases hi:i<items.size
 ·have e:acc[i]?=some (acc[i]'(by rw [h.1];exact hi)):=Array.getElem?_eq_getElem _
  have q:=h.2 i _ e
  rw [e,<- q]
  simp [List.getElem?_reverse,hi]
 ·rw [Array.getElem?_eq_none (by rw [h.1];omega),Array.getElem?_eq_none (by simp;omega)]
def zdQ (K:W.Frag) (te:TE):TE:=fun Z H Q=>te Z H fun x H1=>∃ (l:Addr) (ys:List V),x=.ref l/\SqL K H1 l ys/\∀ q,H1 q=none->Q (.ref q) (upd H1 q (.lst ys.reverse))
theorem zaQ {e:Expr} {te:TE} {p1 p2 pos1 pos2:Pos} (hc:X.calm=true) (hg1:Gl X "list") (hm1:X.mg "list" = none) (hg2:Gl X "reversed") (hm2:X.mg "reversed" = none) (he:PE X e te)
  (hs:starEach [e] X.env=[(false,eval e X.env)]:=by rfl) (hs2:starEach [.Call (.Name "reversed" p2) [e] [] pos2] X.env=[(false,eval (.Call (.Name "reversed" p2) [e] [] pos2) X.env)]:=by rfl) :
  PE X (.Call (.Name "list" p1) [.Call (.Name "reversed" p2) [e] [] pos2] [] pos1) (zdQ X.K te):=by
 intro pins s Z H Q I h
 refine wpAny_Call_Name_kw (j9 I hg1 hm1 boot_list ?_)
 refine PyProof.Rows.callWith_type1 ?_ hs2 rfl
 rw [hs2]
 show wpAny _ _ (spliced ((false,eval (.Call (.Name "reversed" p2) [e] [] pos2) X.env) :: backTo pos1 [])) _ _ s
 refine Calls.spliced_cons ?_
 refine wpAny_Call_Name_kw (j9 I hg2 hm2 boot_reversed ?_)
 refine PyProof.Rows.callWith_type1 ?_ hs rfl
 rw [hs]
 show wpAny _ _ (spliced ((false,eval e X.env) :: backTo pos2 [])) _ _ s
 refine Calls.spliced_cons (thn (he pins s Z H _ I h) fun v s1 ⟨x,H1,I1,r1,q1⟩=>Calls.spliced_nil ?_)
 obtain⟨l,ys,rfl,hq,q⟩:=q1
 cases r1
 obtain⟨its,rv,pl,hz⟩:=I1.list hq
 have hl:=rv.length
 refine call_reversed_list pl.isList (Calls.spliced_nil ?_)
 have hsz:(its.toArray.size:Int)=(ys.length:Int):=by rw [List.size_toArray,hl]
 refine Wb (s:={ s1 with heap:=s1.heap.push (revObj l ((its.toArray.size:Int)-1)) }) (I1.ok.hd hc) (I:=s1.heap.objs.size) (l:=l) (items:=its.toArray) ⟨_,Heap.get?_push_size _ rfl,rfl,rfl⟩ (pl.isList.at fun o e=>Heap.get?_push_of_some _ e) (fun s' acc c hgn ho hk hS hacc=>?_) (by rw [List.size_toArray,<- hl];exact hz)
 have e1:(s1.heap.push (revObj l ((its.toArray.size:Int)-1))).objs.size=s1.heap.objs.size+1:=Heap.size_push _ _
 rw [show ({ s1 with heap:=s1.heap.push (revObj l ((its.toArray.size:Int)-1)) }:Shared).heap.objs.size=s1.heap.objs.size+1 from e1] at hS ⊢
 have kept:∀ b o,s1.heap.get? b=some o->s'.heap.get? b=some o:=fun b o e=>hk b o (Nat.ne_of_lt (Heap.lt_size e)) (Heap.get?_push_of_some _ e)
 have hokL:=I1.laid (a:=s1.heap.objs.size+1) (o:=.lst ys.reverse) (h':=s'.heap) (t':=s'.toks) kept (Nat.le_succ _) ⟨by rw [List.length_reverse];exact hz,its.reverse,c,rv.reverse,by rw [hS,zcK hacc]⟩
 have I2:Inv X pins Z (upd H1 (s1.heap.objs.size+1) (.lst ys.reverse)) s':=by
  refine I1.call' (ch:=[]) (by rw [ho]) ?_ hokL.hok (by rw [hgn];exact I1.bare) fun b z=>absurd z (by simp)
  exact Un.laid kept (Nat.le_succ _) (I1.hok.fresh (Nat.le_succ _))
 exact⟨.ref _,_,I2,rfl,q _ (I1.hok.fresh (Nat.le_succ _))⟩
end
section
variable {X:Cx} (K:W.Frag)
theorem zai (e:X.K=K:=by rfl):vB X (.builtin "isinstance") (zgF K):=by subst e;exact V8
theorem w6 (e:X.K=K:=by rfl):vB X (.builtin "len") (fun xs H Q=>∃ p ys,xs=[.ref p]/\(SqL K H p ys\/SqT K H p ys)/\Q (.int ys.length) H):=by subst e;exact Jt
theorem yC (e:X.K=K:=by rfl):IxR X (zgh K):=by subst e;exact zeN
theorem uH (e:X.K=K:=by rfl):IxR X (zgM K):=by subst e;exact zfT
theorem WY (e:X.K=K:=by rfl):SlR X (zfY K):=by subst e;exact zem
theorem k_all (hc:X.calm=true) (e:X.K=K:=by rfl):vB X (.builtin "all") (zgl K):=by subst e;exact zds hc
theorem zdq (hc:X.calm=true) (e:X.K=K:=by rfl):vB X (.builtin "any") (zgU K):=by subst e;exact zd0 hc
theorem zaB (e:X.K=K:=by rfl):vB X (.type "list") (fun xs H Q=>∃ p ys,xs=[.ref p]/\(SqL K H p ys\/SqT K H p ys)/\∀ l,H l=none->Q (.ref l) (upd H l (.lst ys))):=by subst e;exact Jk
theorem zbV (hu:X.A.units+64<cLine) (e:X.K=K:=by rfl):OpR X (compareOp .Eq) (zeR K false):=by subst e;exact zfk hu
theorem zda (hu:X.A.units+64<cLine) (e:X.K=K:=by rfl):OpR X (compareOp .NotEq) (zeR K true):=by subst e;exact zfU hu
theorem zgk (hu:X.A.units+64<cLine) (e:X.K=K:=by rfl):OpR X (compareOp .In) (zeP K false):=by subst e;exact zfp hu
theorem zdB (hu:X.A.units+64<cLine) (e:X.K=K:=by rfl):OpR X (compareOp .NotIn) (zeP K true):=by subst e;exact zcd hu
theorem YX {tg l:Expr} {tl:TE} (hl:PE X l tl) (e:X.K=K:=by rfl):PI X tg l (ze8 K tl):=by subst e;exact zel hl
end
structure Df (K:W.Frag) (mg:Str->Option Value) (x:Str) (st:Stmt) (ps:List Str) (f:Addr) (fd:FuncData):Prop where
 fn:Fun K x x st f fd
 b:Binds K fd ps []
 g:mg x=some (.ref f)
theorem zJ {X:Cx} {x:Str} {st:Stmt} {ps:List Str} {f:Addr} {fd:FuncData} {k:Nat} {sp:Sp} {e:Expr} {es:List Expr} {t:TA} {p pos:Pos} (D:Df X.K X.mg x st ps f fd) (G:FnOk X.prog X.w X.K X.mg X.base CX0 k f fd ps sp) (hr:Room k X.A) (ha:PA X (e :: es) t) (hg:Gl X x:=by rfl)
  (hdb:(x == ("__debug__" : Str))=false:=by decide) (he:starEach (e :: es) X.env=(false,eval e X.env) :: starEach es X.env:=by rfl) (hpl:(backTo pos (starEach es X.env)).any (·.1)=false:=by rfl):PE X (.Call (.Name x p) (e :: es) [] pos) (zfc sp [] E0 t) :=
 zeS G hr hg D.g D.fn.kp D.b .nil Qm ha hdb he hpl
theorem zcT {K:W.Frag} {h:Heap} {mg:Str->Option Value} {x:Str} {st:Stmt} {ps:List Str} {f:Addr} {oc:Value} {od an:Option Addr} {osl:Array (Option Value)} {kV doc pm cdv ct:Value} (X:K.In h) (G:h.Ns mainGlobals mg)
  (a:W.nsIn K mainGlobals x=some (some (.ref f))) (l:K.lookup f=some ⟨oc,od,.func (W.fnOf x x (vK st) (xu st) (zu st) .none kV doc pm an cdv ct),osl⟩) (c:W.codeIn K cdv x=true) (k:W.keepIn K (.ref f)=true)
  (hb:∀ (kV doc pm:Value) (an:Option Addr) (cdv ct:Value) (us:List Value),us.length=ps.length->bindArgs (W.fnOf x x (vK st) (xu st) (zu st) .none kV doc pm an cdv ct) ⟨us,[]⟩=pure (ps.zip us)) :
  Df K mg x st ps f (W.fnOf x x (vK st) (xu st) (zu st) .none kV doc pm an cdv ct) :=
 ⟨Jl l c k,(Jl (st:=st) l c k).binds hb,W.mg_of X G a⟩
structure Blt (mg:Str->Option Value):Prop where
 n_isinstance:mg "isinstance" = none
 n_int:mg "int" = none
 n_bool:mg "bool" = none
 n_list:mg "list" = none
 n_tuple:mg "tuple" = none
 n_reversed:mg "reversed" = none
 n_len:mg "len" = none
 n_max:mg "max" = none
 n_min:mg "min" = none
 n_range:mg "range" = none
 n_all:mg "all" = none
 n_any:mg "any" = none
 n_sorted:mg "sorted" = none
 n_enumerate:mg "enumerate" = none
 n_repr:mg "repr" = none
theorem zaE {A:Around} {k:Nat} (hr:Room k A):A.units+64<cLine:=hr.units
def aw (fp:List Addr) (H:Hp):Hp:=fun b=>if b∈fp then none else H b
theorem Ue {fp:List Addr} {H:Hp} {b:Addr} (h:b∈fp):aw fp H b=none:=by unfold aw;rw [if_pos h]
theorem yJ {fp:List Addr} {H:Hp} {b:Addr} (h:b∉fp):aw fp H b=H b:=by unfold aw;rw [if_neg h]
theorem yG (fp:List Addr) (H:Hp):Same (aw fp H) H:=fun b o e=>by
 by_cases h:b∈fp
 ·rw [Ue h] at e;cases e
 ·rw [yJ h] at e;exact e
theorem Same.aw {H H':Hp} (h:Same H H') (fp:List Addr):Same (aw fp H) (aw fp H'):=fun b o e=>by
 by_cases hb:b∈fp
 ·rw [Ue hb] at e;cases e
 ·rw [yJ hb] at e ⊢;exact h b o e
theorem zq {H:Hp} {p:Addr} {o:HO} (h:H p=none):Same H (upd H p o):=fun b u e=>by rw [zx (zF e h)];exact e
end L2
namespace HT
open PySem PyProof.Rows
section
open PySem.SeqAt
open PySem.AutoSeq1 (wpAny_loadPart')
open PySem.MeetsSeq PySem.MeetsSeq2 PySem.MeetsSeq3 PySem.SeqRoads2
theorem zbQ {vs:List Value} {ns:List Int} (h:IntsAre vs ns) {i:Nat} (hi:i<ns.length):∃ t,vs[i]?=some (.int (ns[i]) t):=by
 induction h generalizing i with
 | nil=>simp at hi
 | cons a t h ih =>
  cases i with
  | zero=>exact⟨t,rfl⟩
  | succ i =>
   obtain⟨t',e⟩:=ih (i:=i) (by simpa using hi)
   exact⟨t',by simpa using e⟩
theorem zeB (l b:Addr) (items items2:Array Value) (n n2:Nat) (dd dd2:Option Addr) (sl sl2:Array (Option Value)) (ns ms:List Int) (hi:IntsAre items.toList ns) (hj:IntsAre items2.toList ms) (k:Nat) :
  ∀ i:Nat,ns.length-i=k->i<=ns.length->i<=ms.length->Meets (Builtin.«list.__eq__.loop» ⟨[.ref l,.ref b,rawInt i,rawInt 0],[]⟩)
   (fun _ R s=>s.heap.get? l=some { cls:=.type "list",dict:=dd,data:=.seq items n,slots:=sl }/\s.heap.get? b=some { cls:=.type "list",dict:=dd2,data:=.seq items2 n2,slots:=sl2 } /\
    R (.ok (.ret (.bool (lexLt (ns.drop i) (ms.drop i))))) s):=by
 have z1:items.size=ns.length:=by rw [<- hi.length];simp
 have z2:items2.size=ms.length:=by rw [<- hj.length];simp
 induction k with
 | zero =>
  intro i hk h1 h2 prog w A R s h
  obtain⟨hp,g,d,tk,os⟩:=s;obtain⟨hl,hb,h⟩:=h
  have hin:i=ns.length:=by omega
  wp_walk using wpAny_loadPart' hl,wpAny_loadPart' hb
  have hi1:items[((i:Nat):Int).toNat]?=none:=by simp;omega
  have hd:ns.drop i=[]:=by simp;omega
  rw [hd] at h
  rw [hi1]
  wp_walk using wpAny_loadPart' hl,wpAny_loadPart' hb
  show R (.ok (.ret (.bool (decide (items.size<items2.size))))) _
  have e:lexLt [] (ms.drop i)=decide (items.size<items2.size):=by
   cases q:ms.drop i with
   | nil =>
    rw [Xa]
    have:ms.length<=i:=by simpa using List.drop_eq_nil_iff.mp q
    exact (decide_eq_false (by omega)).symm
   | cons x y =>
    rw [Um]
    have:i<ms.length:=by
     by_cases z:i<ms.length
     ·exact z
     ·rw [List.drop_of_length_le (by omega)] at q;cases q
    exact (decide_eq_true (by omega)).symm
  rw [<- e]
  exact h
 | succ k ih =>
  intro i hk h1 h2 prog w A R s h
  obtain⟨hp,g,d,tk,os⟩:=s;obtain⟨hl,hb,h⟩:=h
  have hlt:i<ns.length:=by omega
  obtain⟨t,et⟩:=zbQ hi hlt
  have hi1:items[((i:Nat):Int).toNat]?=some (.int (ns[i]) t):=by simpa using et
  by_cases hm:i<ms.length
  ·obtain⟨u,eu⟩:=zbQ hj hm
   have hi2:items2[((i:Nat):Int).toNat]?=some (.int (ms[i]) u):=by simpa using eu
   wp_walk using wpAny_loadPart' hl,wpAny_loadPart' hb
   rw [List.drop_eq_getElem_cons hlt,List.drop_eq_getElem_cons hm,tZ] at h
   have hc:((i:Int)+1)=((i+1:Nat):Int):=by push_cast;rfl
   rw [hi1,hi2]
   obtain⟨e,he,hiff⟩:=zcW A.in1 ⟨hp,g,d,tk,os⟩ (ns[i]) t (ms[i]) u
   refine wpAny_bind (he prog w _ _ ?_)
   cases e with
   | true =>
    rw [if_pos (hiff.mp rfl)] at h
    wp_walk
    rw [hc]
    exact⟨plainId_quiet plain_eq_loop _,codeAny_builtin entry_eq_loop (by
     rw [Around.under_plainId plain_eq_loop _]
     exact ih (i+1) (by omega) (by omega) (by omega) prog w A R _ ⟨hl,hb,h⟩)⟩
   | false =>
    rw [if_neg (fun q=>absurd (hiff.mpr q) Bool.false_ne_true)] at h
    have hri:=zay A.in1 ⟨hp,g,d,tk,os⟩ (ns[i]) t (ms[i]) u prog w
    wp_walk using wpAny_loadPart' hl,wpAny_loadPart' hb
    rw [hi1,hi2]
    wp_walk using hri
    simpa using h
  ·have hi2:items2[((i:Nat):Int).toNat]?=none:=by simp;omega
   wp_walk using wpAny_loadPart' hl,wpAny_loadPart' hb
   rw [List.drop_eq_getElem_cons hlt,List.drop_of_length_le (show ms.length<=i by omega),tH] at h
   rw [hi1,hi2]
   wp_walk using wpAny_loadPart' hl,wpAny_loadPart' hb
   show R (.ok (.ret (.bool (decide (items.size<items2.size))))) _
   rw [decide_eq_false (by omega)]
   exact h
theorem JM (l b:Addr) (items items2:Array Value) (n n2:Nat) (dd dd2:Option Addr) (sl sl2:Array (Option Value)) (ns ms:List Int) (hi:IntsAre items.toList ns) (hj:IntsAre items2.toList ms) :
  Meets (Builtin.«list.__lt__» ⟨[.ref l,.ref b],[]⟩)
   (fun _ R s=>s.heap.get? l=some { cls:=.type "list",dict:=dd,data:=.seq items n,slots:=sl }/\s.heap.get? b=some { cls:=.type "list",dict:=dd2,data:=.seq items2 n2,slots:=sl2 } /\
    R (.ok (.ret (.bool (lexLt ns ms)))) s):=by
 intro prog w A R s h
 obtain⟨hp,g,d,tk,os⟩:=s;obtain⟨hl,hb,h⟩:=h
 have f3:=AutoSeq1.sub_list_list
 wp_walk using wpAny_loadPart' hl,wpAny_loadPart' hb
 exact⟨plainId_quiet plain_eq_loop _,codeAny_builtin entry_eq_loop (by
  rw [Around.under_plainId plain_eq_loop _]
  exact zeB l b items items2 n n2 dd dd2 sl sl2 ns ms hi hj _ 0 rfl (Nat.zero_le _) (Nat.zero_le _) prog w A R _ ⟨hl,hb,by simpa using h⟩)⟩
end
section
variable {prog:Program} {w:World} {A:Around} {E:Value->Shared->Prop} {s:Shared}
theorem WR {l b:Addr} {items items2:Array Value} {ns ms:List Int} {Q:Value->Shared->Prop} (hl:s.heap.IsList l items) (hb:s.heap.IsList b items2) (hi:IntsAre items.toList ns) (hj:IntsAre items2.toList ms)
  (hu:A.units<cLine) (h:Q (.bool (lexLt ns ms)) s):wpAny (model prog w) A (richCompare .Lt (.ref l) (.ref b)) Q E s:=by
 obtain⟨⟨cls,dd,data,sl⟩,ho,hc,n,hd⟩:=id hl
 obtain⟨⟨cls2,dd2,data2,sl2⟩,ho2,hc2,n2,hd2⟩:=id hb
 simp only at hc hd hc2 hd2
 subst hc hd hc2 hd2
 exact richCompare_meets_room (op:=.Lt) ⟨_,ho,rfl⟩ ⟨_,ho2,rfl⟩ PySem.F.slot_list_lt PySem.F.entry_list_lt (PySem.F.args_list_lt_2 _ _) (JM l b items items2 n n2 dd dd2 sl sl2 ns ms hi hj)
  ⟨ho,ho2,show Value.bool (lexLt ns ms)≠Value.notImplemented/\Q (.bool (lexLt ns ms)) s from ⟨(fun x=>nomatch x),h⟩⟩ hu
end
open PySem PyProof.Rows PySem.W
def kin {α:Type} (n:Nat):KasT α->Bool
 | .ret _=>true
 | .ask i j k=>decide (i<n) && decide (j<n) && kin n (k true) && kin n (k false)
def tab (b:Nat->Nat->Bool) (i j:Nat):Bool:=if i<j then b i j else if j<i then !b j i else false
theorem qY:∀ a:List Int,lexLt a a=false
 | []=>rfl
 | x :: a=>by rw [tZ,if_pos rfl,qY a]
theorem Xo:∀ a b:List Int,a≠b->lexLt b a=!lexLt a b
 | [],[],h=>absurd rfl h
 | [],_ :: _,_=>rfl
 | _ :: _,[],_=>rfl
 | x :: a,y :: b,h=>by
  rw [tZ,tZ]
  by_cases e:x=y
  ·subst e
   rw [if_pos rfl,if_pos rfl]
   exact Xo a b fun z=>h (by rw [z])
  ·rw [if_neg e,if_neg (Ne.symm e),Bool.eq_iff_iff]
   simp
   omega
theorem jT:∀ a b c:List Int,lexLt a b=true->lexLt b c=true->lexLt a c=true
 | [],[],_,h,_=>by rw [Xa] at h;cases h
 | [],_ :: _,[],_,h=>by rw [tH] at h;cases h
 | [],_ :: _,_ :: _,_,_=>rfl
 | _ :: _,[],_,h,_=>by rw [tH] at h;cases h
 | _ :: _,_ :: _,[],_,h=>by rw [tH] at h;cases h
 | x :: a,y :: b,z :: c,h1,h2=>by
  rw [tZ] at h1 h2 ⊢
  by_cases e1:x=y
  ·subst e1
   rw [if_pos rfl] at h1
   by_cases e2:x=z
   ·subst e2
    rw [if_pos rfl] at h2 ⊢
    exact jT a b c h1 h2
   ·rw [if_neg e2] at h2 ⊢;exact h2
  ·rw [if_neg e1] at h1
   have h1':=of_decide_eq_true h1
   by_cases e2:y=z
   ·subst e2
    rw [if_neg e1];exact h1
   ·rw [if_neg e2] at h2
    have h2':=of_decide_eq_true h2
    rw [if_neg (show x≠z by omega)]
    exact decide_eq_true (by omega)
end HT
namespace L2
open PySem PySem.Spec PyProof.Rows
section
variable {X:Cx}
def zhb (K:W.Frag):R2:=fun x y H Q=>∃ (a b:Addr) (ns ms:List Int),x=.ref a/\y=.ref b/\SqL K H a (ns.map V.int)/\SqL K H b (ms.map V.int)/\Q (.bl (HT.lexLt ns ms)) H
theorem zgN (K:W.Frag) (hu:X.A.units+64<cLine) (e:X.K=K:=by rfl):OpR X (compareOp .Lt) (zhb K):=by
 subst e
 intro pins s Z H x y v u Q I rx ry h
 obtain⟨a,b,ns,ms,rfl,rfl,ha,hb,q⟩:=h
 cases rx
 cases ry
 obtain⟨its,r1,p1,_⟩:=I.list ha
 obtain⟨its2,r2,p2,_⟩:=I.list hb
 exact HT.WR p1.isList p2.isList (intsAre_of r1) (intsAre_of r2) (by omega) ⟨.bl (HT.lexLt ns ms),H,I,rfl,q⟩
end
end L2
namespace HT
open PySem PyProof.Rows PySem.W
def KW {α:Type} (c:Nat->Nat->Bool) (n:Nat):KasT α->(α->Prop)->Prop
 | .ret a,Q=>Q a
 | .ask i j k,Q=>i<n/\j<n/\KW c n (k (c i j)) Q
theorem KW.bind {α β:Type} {c:Nat->Nat->Bool} {n:Nat} {f:α->KasT β} {Q:β->Prop}:∀ {t:KasT α},KW c n t (fun a=>KW c n (f a) Q)->KW c n (t.bind f) Q
 | .ret _,h=>h
 | .ask _ _ k,h=>⟨h.1,h.2.1,KW.bind (t:=k _) h.2.2⟩
theorem KW.mono {α:Type} {c:Nat->Nat->Bool} {n:Nat} {Q Q':α->Prop} (hq:∀ a,Q a->Q' a):∀ {t:KasT α},KW c n t Q->KW c n t Q'
 | .ret a,h=>hq a h
 | .ask _ _ k,h=>⟨h.1,h.2.1,KW.mono hq (t:=k _) h.2.2⟩
theorem KW.wp {α:Type} {n:Nat} {c:Nat->Nat->Bool} {cmp:Nat->Nat->(Bool->Shared->Prop)->Shared->Prop} {s:Shared} {Q:α->Prop} (hc:∀ i j C,i<n->j<n->C (c i j) s->cmp i j C s) :
  ∀ t:KasT α,KW c n t Q->t.kasWp cmp (fun a s'=>s'=s/\Q a) s
 | .ret _,h=>⟨rfl,h⟩
 | .ask i j k,h=>hc i j _ h.1 h.2.1 (KW.wp hc (k (c i j)) h.2.2)
structure Ord (c:Nat->Nat->Bool) (n:Nat):Prop where
 tr:∀ i j k,i<n->j<n->k<n->c i j=true->c j k=true->c i k=true
 tot:∀ i j,i<n->j<n->i≠j->c i j=false->c j i=true
 asy:∀ i j,i<n->j<n->c i j=true->c j i=false
structure Pm (n:Nat) (p:Array Nat):Prop where
 sz:p.size=n
 pm:p.toList.Perm (List.range n)
theorem Pm.lt {n:Nat} {p:Array Nat} (h:Pm n p) (i:Nat) (hi:i<n):p.getD i 0<n:=by
 have hs:=h.sz
 have e:p.getD i 0=p[i]:=by simp [Array.getD,hs,hi]
 rw [e]
 exact List.mem_range.mp (h.pm.mem_iff.mp (by simp))
theorem Pm.ne {n:Nat} {p:Array Nat} (h:Pm n p) {i j:Nat} (hi:i<n) (hj:j<n) (hij:i≠j):p.getD i 0≠p.getD j 0:=by
 have hs:=h.sz
 have e1:p.getD i 0=p.toList[i]'(by simp [hs,hi]):=by simp [Array.getD,hs,hi]
 have e2:p.getD j 0=p.toList[j]'(by simp [hs,hj]):=by simp [Array.getD,hs,hj]
 rw [e1,e2]
 have nd:p.toList.Nodup:=h.pm.nodup_iff.mpr List.nodup_range
 intro z
 exact hij ((List.getElem_inj nd).mp z)
theorem Pm.of {n:Nat} {p q:Array Nat} (h:Pm n p) (z:q.Perm p):Pm n q:=⟨by rw [z.size_eq];exact h.sz,(Array.perm_iff_toList_perm.mp z).trans h.pm⟩
def Up (c:Nat->Nat->Bool) (p:Array Nat) (m:Nat):Prop:=∀ i j,i<j->j<m->c (p.getD i 0) (p.getD j 0)=true
def Dn (c:Nat->Nat->Bool) (p:Array Nat) (m:Nat):Prop:=∀ i j,i<j->j<m->c (p.getD j 0) (p.getD i 0)=true
section
variable {c:Nat->Nat->Bool} {n:Nat}
theorem zbt (O:Ord c n) {p:Array Nat} (hp:Pm n p):∀ (f m:Nat),1<=m->m+f<=n->Up c p m->KW c n (kas_asc p f m) (fun r=>m<=r/\r<=m+f/\Up c p r/\(r<m+f->c (p.getD r 0) (p.getD (r-1) 0)=true))
 | 0,m,_,_,u=>⟨Nat.le_refl _,Nat.le_refl _,u,fun z=>absurd z (Nat.lt_irrefl _)⟩
 | f+1,m,h1,h2,u=>by
  refine⟨hp.lt m (by omega),hp.lt (m-1) (by omega),?_⟩
  cases e:c (p.getD m 0) (p.getD (m-1) 0) with
  | true=>exact⟨Nat.le_refl _,by omega,u,fun _=>e⟩
  | false =>
   have hs:c (p.getD (m-1) 0) (p.getD m 0)=true:=O.tot _ _ (hp.lt m (by omega)) (hp.lt (m-1) (by omega)) (hp.ne (by omega) (by omega) (by omega)) e
   have u':Up c p (m+1):=fun i j hij hj=>by
    by_cases hjm:j<m
    ·exact u i j hij hjm
    ·have ej:j=m:=by omega
     subst ej
     by_cases hi:i=j-1
     ·rw [hi];exact hs
     ·exact O.tr _ _ _ (hp.lt i (by omega)) (hp.lt (j-1) (by omega)) (hp.lt j (by omega)) (u i (j-1) (by omega) (by omega)) hs
   refine KW.mono (fun r h=>?_) (zbt O hp f (m+1) (by omega) (by omega) u')
   exact⟨by omega,by omega,h.2.2.1,fun z=>h.2.2.2 (by omega)⟩
theorem zb6 (O:Ord c n) {p:Array Nat} (hp:Pm n p):∀ (f m:Nat),1<=m->m+f<=n->Dn c p m->KW c n (kas_desc f p m 0) (fun r=>r.1=p/\r.2.2=0/\m<=r.2.1/\r.2.1<=m+f/\Dn c p r.2.1)
 | 0,m,_,_,u=>⟨rfl,rfl,Nat.le_refl _,Nat.le_refl _,u⟩
 | f+1,m,h1,h2,u=>by
  refine⟨hp.lt m (by omega),hp.lt (m-1) (by omega),?_⟩
  cases e:c (p.getD m 0) (p.getD (m-1) 0) with
  | true =>
   have u':Dn c p (m+1):=fun i j hij hj=>by
    by_cases hjm:j<m
    ·exact u i j hij hjm
    ·have ej:j=m:=by omega
     subst ej
     by_cases hi:i=j-1
     ·rw [hi];exact e
     ·exact O.tr _ _ _ (hp.lt j (by omega)) (hp.lt (j-1) (by omega)) (hp.lt i (by omega)) e (u i (j-1) (by omega) (by omega))
   refine KW.mono (fun r h=>?_) (zb6 O hp f (m+1) (by omega) (by omega) u')
   exact⟨h.1,h.2.1,by omega,by omega,h.2.2.2.2⟩
  | false =>
   have hs:c (p.getD (m-1) 0) (p.getD m 0)=true:=O.tot _ _ (hp.lt m (by omega)) (hp.lt (m-1) (by omega)) (hp.ne (by omega) (by omega) (by omega)) e
   refine⟨hp.lt (m-1) (by omega),hp.lt m (by omega),?_⟩
   rw [hs]
   exact⟨rfl,rfl,Nat.le_refl _,(show m<=m+(f+1) by omega),u⟩
theorem rev_getD {p:Array Nat} {m:Nat} (hm:m<=p.size) (k:Nat):(kas_rev p 0 m).getD k 0=if k<m then p.getD (m-1-k) 0 else p.getD k 0:=by
 have q:=getElem?_mirror_all (xs:=p) (i:=0) hm k
 have e:∀ (a:Array Nat) (j:Nat),a.getD j 0=(a[j]?).getD 0:=fun a j=>by simp [Array.getD_eq_getD_getElem?]
 unfold kas_rev
 rw [e,q]
 by_cases h:k<m
 ·rw [if_pos ⟨Nat.zero_le _,h⟩,if_pos h,e,Nat.zero_add]
 ·rw [if_neg (by omega),if_neg h,e]
theorem zdw (O:Ord c n) {p:Array Nat} (hp:Pm n p) {m:Nat} (h1:1<=m) (h2:m<=n) (u:Dn c p m):KW c n (kas_tail3 m n p) (fun r=>1<=r.1/\r.1<=n/\Pm n r.2/\Up c r.2 r.1):=by
 have hr:Pm n (kas_rev p 0 m):=hp.of (mirror_perm _ _ _ _)
 have hsz:m<=p.size:=by rw [hp.sz];exact h2
 have u':Up c (kas_rev p 0 m) m:=fun i j hij hj=>by
  rw [rev_getD hsz,rev_getD hsz,if_pos (by omega),if_pos hj]
  exact u _ _ (by omega) (by omega)
 refine KW.bind (KW.mono (fun r h=>?_) (zbt O hr (n-m) m h1 (by omega) u'))
 exact⟨by omega,by omega,hr,h.2.2.1⟩
theorem zdk (O:Ord c n) {p:Array Nat} (hp:Pm n p) (h2:2<=n):KW c n (kas_count n p) (fun r=>1<=r.1/\r.1<=n/\Pm n r.2/\Up c r.2 r.1):=by
 refine KW.bind (KW.mono (fun r h=>?_) (zbt O hp (n-1) 1 (Nat.le_refl _) (by omega) (fun i j hij hj=>by omega)))
 obtain⟨h1,h3,u,st⟩:=h
 by_cases e:r=n
 ·subst e
  rw [if_pos (by simp)]
  exact⟨h1,Nat.le_refl _,hp,u⟩
 ·rw [if_neg (by simpa using e)]
  by_cases hr:r>1
  ·rw [if_pos hr]
   refine⟨hp.lt 0 (by omega),hp.lt (r-1) (by omega),?_⟩
   rw [u 0 (r-1) (by omega) (by omega)]
   exact⟨h1,by omega,hp,u⟩
  ·rw [if_neg hr]
   have er:r=1:=by omega
   subst er
   have s1:=st (by omega)
   have d:Dn c p 2:=fun i j hij hj=>by
    have ei:i=0:=by omega
    have ej:j=1:=by omega
    subst ei;subst ej
    exact s1
   refine KW.bind (KW.mono (fun r h=>?_) (zb6 O hp (n-2) 2 (by omega) (by omega) d))
   obtain⟨a1,a2,a3,a4,a5⟩:=h
   obtain⟨q,m,z⟩:=r
   simp only at a1 a2 a3 a4 a5
   subst a1;subst a2
   show KW c n (if 0>0 then _ else _) _
   rw [if_neg (Nat.lt_irrefl 0)]
   exact zdw O hp (show 1<=m by omega) (show m<=n by omega) a5
theorem Vz (O:Ord c n) {p:Array Nat} (hp:Pm n p) {k:Nat} (hk:k<n) (u:Up c p k):∀ (f l r:Nat),l<=r->r<=k->r-l<=f->(∀ i,i<l->c (p.getD i 0) (p.getD k 0)=true)->(∀ i,r<=i->i<k->c (p.getD k 0) (p.getD i 0)=true) ->
  KW c n (kas_place p k f l r) (fun l=>l<=k/\(∀ i,i<l->c (p.getD i 0) (p.getD k 0)=true)/\(∀ i,l<=i->i<k->c (p.getD k 0) (p.getD i 0)=true))
 | 0,l,r,h1,h2,h3,lo,hi=>⟨by omega,lo,fun i a b=>hi i (by omega) b⟩
 | f+1,l,r,h1,h2,h3,lo,hi=>by
  unfold kas_place
  by_cases hlr:l>=r
  ·rw [if_pos hlr]
   exact⟨by omega,lo,fun i a b=>hi i (by omega) b⟩
  ·rw [if_neg hlr]
   have hm:(l+r) / 2<k:=by omega
   refine⟨hp.lt k hk,hp.lt _ (by omega),?_⟩
   cases e:c (p.getD k 0) (p.getD ((l+r) / 2) 0) with
   | true =>
    dsimp only
    rw [if_pos rfl]
    refine Vz O hp hk u f l ((l+r) / 2) (by omega) (by omega) (by omega) lo fun i a b=>?_
    by_cases ei:i=(l+r) / 2
    ·rw [ei];exact e
    ·exact O.tr _ _ _ (hp.lt k hk) (hp.lt _ (by omega)) (hp.lt i (by omega)) e (u _ _ (by omega) b)
   | false =>
    dsimp only
    rw [if_neg Bool.false_ne_true]
    have hs:c (p.getD ((l+r) / 2) 0) (p.getD k 0)=true:=O.tot _ _ (hp.lt k hk) (hp.lt _ (by omega)) (hp.ne hk (by omega) (by omega)) e
    refine Vz O hp hk u f ((l+r) / 2+1) r (by omega) h2 (by omega) (fun i a=>?_) hi
    by_cases ei:i=(l+r) / 2
    ·rw [ei];exact hs
    ·exact O.tr _ _ _ (hp.lt i (by omega)) (hp.lt _ (by omega)) (hp.lt k hk) (u _ _ (by omega) (by omega)) hs
theorem zao {p:Array Nat} {k l:Nat} (hk:k<p.size) (hl:l<=k) (i:Nat):(bubble p k (k-l)).getD i 0=if i=l then p.getD k 0 else if l<i/\i<=k then p.getD (i-1) 0 else p.getD i 0:=by
 have q:=getElem?_bubble hk (k-l) (by omega) i
 have e:∀ (a:Array Nat) (j:Nat),a.getD j 0=(a[j]?).getD 0:=fun a j=>by simp [Array.getD_eq_getD_getElem?]
 rw [show k-(k-l)=l by omega] at q
 rw [e,e p k,e p (i-1),e p i,q]
 split
 ·rfl
 ·split
  ·rfl
  ·rfl
theorem zdz (O:Ord c n):∀ (f:Nat) {p:Array Nat} {k:Nat},Pm n p->1<=k->k+f=n->Up c p k->KW c n (kas_bin f p k) (fun q=>Pm n q/\Up c q n)
 | 0,p,k,hp,h1,h2,u=>by
  have:k=n:=by omega
  subst this
  exact⟨hp,u⟩
 | f+1,p,k,hp,h1,h2,u=>by
  refine KW.bind (KW.mono (fun l h=>?_) (Vz O hp (show k<n by omega) u k 0 k (Nat.zero_le _) (Nat.le_refl _) (by omega) (fun i hi=>by omega) (fun i a b=>by omega)))
  obtain⟨hlk,lo,hi⟩:=h
  have hks:k<p.size:=by rw [hp.sz];omega
  refine zdz O f (hp.of (bubble_perm _ _ _)) (by omega) (by omega) fun i j hij hj=>?_
  rw [zao hks hlk,zao hks hlk]
  by_cases hi1:i=l
  ·rw [if_pos hi1,if_neg (by omega),if_pos (by omega)]
   exact hi _ (by omega) (by omega)
  ·rw [if_neg hi1]
   by_cases hi2:l<i/\i<=k
   ·rw [if_pos hi2,if_neg (by omega),if_pos (by omega)]
    exact u _ _ (by omega) (by omega)
   ·rw [if_neg hi2]
    by_cases hj1:j=l
    ·rw [if_pos hj1]
     exact lo _ (by omega)
    ·rw [if_neg hj1]
     by_cases hj2:l<j/\j<=k
     ·rw [if_pos hj2]
      exact u _ _ (by omega) (by omega)
     ·rw [if_neg hj2]
      exact u _ _ (by omega) (by omega)
theorem ze6 (O:Ord c n) (h2:2<=n):KW c n (kas_sort n) (fun p=>Pm n p/\Up c p n):=by
 have h0:Pm n (List.toArray (List.range n)):=⟨by simp,by simp⟩
 refine KW.bind (KW.mono (fun r h=>?_) (zdk O h0 h2))
 obtain⟨h1,h3,hp,u⟩:=h
 by_cases hr:r.1<n
 ·rw [if_pos hr,Nat.max_eq_left h1]
  exact zdz O _ hp h1 (by omega) u
 ·rw [if_neg hr]
  have:r.1=n:=by omega
  rw [this] at u
  exact⟨hp,u⟩
end
section
variable {prog:Program} {w:World} {A:Around} {E:Value->Shared->Prop} {s:Shared}
theorem QK {α:Type} (d:α) (zs:List α) {p:List Nat} (h:p.Perm (List.range zs.length)):(p.map fun i=>zs.getD i d).Perm zs:=by
 have e:(List.range zs.length).map (fun i=>zs.getD i d)=zs:=by
  apply List.ext_getElem?
  intro i
  rw [List.getElem?_map]
  by_cases hi:i<zs.length
  ·rw [List.getElem?_range hi,Option.map_some,List.getD_eq_getElem?_getD,List.getElem?_eq_getElem hi];rfl
  ·rw [List.getElem?_eq_none (by simpa using hi),List.getElem?_eq_none (by omega)];rfl
 have q:=h.map fun i=>zs.getD i d
 rw [e] at q
 exact q
end
end HT
namespace L2
open PySem PySem.Spec PyProof.Rows
section
variable {X:Cx}
theorem QV:∀ {zs:ZB} {its:List Value},Vals (zs.map fun z=>V.ref z.1) its->its=zs.map fun z=>Value.ref z.1
 | [],its,h=>by cases h;rfl
 | z :: zs,its,h=>by
  cases h with
  | cons r t=>rw [QV t];cases r;rfl
theorem WK:∀ (zs:ZB),Vals (zs.map fun z=>V.ref z.1) (zs.map fun z=>Value.ref z.1)
 | []=>.nil
 | z :: zs=>.cons rfl (WK zs)
end
section
variable {κ:Type} [DecidableEq κ]
def wX (kvs:List (κ×V)) (k:κ):Option V:=(kvs.find? fun kv=>decide (kv.1=k)).map (·.2)
def putK (kvs:List (κ×V)) (k:κ) (v:V):List (κ×V) :=
 if (kvs.any fun kv=>decide (kv.1=k))=true then kvs.map (fun kv=>if kv.1=k then (kv.1,v) else kv) else kvs++[(k,v)]
def zfg (kvs:List (κ×V)) (k:κ):List (κ×V):=kvs.filter fun kv=>decide (kv.1≠k)
theorem wA {p:κ×V} {r:List (κ×V)} {k:κ} (e:p.1=k):wX (p :: r) k=some p.2:=by simp [wX,List.find?_cons,e]
theorem wy {p:κ×V} {r:List (κ×V)} {k:κ} (e:¬ p.1=k):wX (p :: r) k=wX r k:=by simp [wX,List.find?_cons,e]
theorem qK (k:κ):∀ kvs:List (κ×V),(kvs.any fun kv=>decide (kv.1=k))=(wX kvs k).isSome
 | []=>rfl
 | p :: r=>by
  rw [List.any_cons]
  by_cases e:p.1=k
  ·simp only [wA e,decide_eq_true e,Bool.true_or,Option.isSome_some]
  ·rw [wy e,decide_eq_false e,Bool.false_or];exact qK k r
theorem zad (k j:κ) (y:V):∀ kvs:List (κ×V),wX (kvs.map fun kv=>if kv.1=k then (kv.1,y) else kv) j=(wX kvs j).map fun x=>if j=k then y else x
 | []=>rfl
 | p :: r=>by
  have ih:=zad k j y r
  rw [List.map_cons]
  by_cases h:p.1=k
  ·rw [if_pos h]
   by_cases e:p.1=j
   ·rw [wA (p:=(p.1,y)) e,wA e,Option.map_some,if_pos (e.symm.trans h)]
   ·rw [wy (p:=(p.1,y)) e,wy e,ih]
  ·rw [if_neg h]
   by_cases e:p.1=j
   ·rw [wA (p:=p) e,wA e,Option.map_some,if_neg (fun z=>h (e.trans z))]
   ·rw [wy (p:=p) e,wy e,ih]
theorem QT (k j:κ) (y:V):∀ kvs:List (κ×V),wX kvs k=none->wX (kvs++[(k,y)]) j=if j=k then some y else wX kvs j
 | [],_=>by
  by_cases e:k=j
  ·rw [if_pos e.symm];exact wA (p:=(k,y)) e
  ·rw [if_neg (fun z=>e z.symm)];exact wy (p:=(k,y)) e
 | p :: r,hn=>by
  rw [List.cons_append]
  have hk:¬ p.1=k:=fun z=>by rw [wA z] at hn;cases hn
  rw [wy hk] at hn
  have ih:=QT k j y r hn
  by_cases e:p.1=j
  ·rw [wA e,wA e,if_neg (fun z=>hk (e.trans z))]
  ·rw [wy e,wy e,ih]
theorem zaj (kvs:List (κ×V)) (k j:κ) (y:V):wX (putK kvs k y) j=if j=k then some y else wX kvs j:=by
 unfold putK
 by_cases a:(kvs.any fun kv=>decide (kv.1=k))=true
 ·rw [if_pos a,zad]
  rw [qK] at a
  by_cases e:j=k
  ·obtain⟨x,hx⟩:=Option.isSome_iff_exists.mp a
   rw [if_pos e,e,hx,Option.map_some,if_pos rfl]
  ·rw [if_neg e]
   cases wX kvs j with
   | none=>rfl
   | some x=>rw [Option.map_some,if_neg e]
 ·rw [if_neg a]
  refine QT k j y kvs ?_
  rw [qK] at a
  cases q:wX kvs k with
  | none=>rfl
  | some x=>rw [q] at a;exact (a rfl).elim
theorem jO (kvs:List (κ×V)) (k:κ) (v:V):(putK kvs k v).length<=kvs.length+1:=by
 unfold putK
 split
 ·rw [List.length_map];omega
 ·rw [List.length_append,List.length_cons,List.length_nil];omega
theorem Wm {kvs:List (κ×V)} {k:κ} (v:V) (h:wX kvs k=none):putK kvs k v=kvs++[(k,v)]:=by
 unfold putK
 rw [qK,h]
 exact if_neg (by decide)
theorem RelO.isSome_eq {o:Option V} {u:Option Value} (r:RelO o u):o.isSome=u.isSome:=by
 cases o with
 | none=>cases u with
  | none=>rfl
  | some _=>exact (show False from r).elim
 | some _=>cases u with
  | none=>exact (show False from r).elim
  | some _=>rfl
theorem RelO.getD {o:Option V} {u:Option Value} {d:V} {d':Value} (r:RelO o u) (rd:RelV d d'):RelV (o.getD d) (u.getD d'):=by
 cases o with
 | none=>cases u with
  | none=>exact rd
  | some _=>exact (show False from r).elim
 | some _=>cases u with
  | none=>exact (show False from r).elim
  | some _=>exact r
theorem KV.val {kvs:List (κ×V)} {vs:List (κ×Value)} (r:KV kvs vs) (k:κ):RelO (wX kvs k) (valueAt vs k):=by
 unfold KV at r
 induction r with
 | nil=>exact True.intro
 | @cons p q ps qs h t ih =>
  obtain⟨h1,h2⟩:=h
  by_cases e:p.1=k
  ·have e':q.1=k:=h1.symm.trans e
   have b:valueAt (q :: qs) k=some q.2:=by simp [valueAt,List.find?_cons,e']
   rw [wA e,b];exact h2
  ·have e':¬ q.1=k:=fun z=>e (h1.trans z)
   have b:valueAt (q :: qs) k=valueAt qs k:=by simp [valueAt,List.find?_cons,e']
   rw [wy e,b];exact ih
theorem KV.any {kvs:List (κ×V)} {vs:List (κ×Value)} (r:KV kvs vs) (k:κ):(kvs.any fun kv=>decide (kv.1=k))=vs.any fun kv=>decide (kv.1=k):=by
 unfold KV at r
 induction r with
 | nil=>rfl
 | cons h t ih=>rw [List.any_cons,List.any_cons,ih,h.1]
theorem KV.repl {kvs:List (κ×V)} {vs:List (κ×Value)} (r:KV kvs vs) (k:κ) {y:V} {u:Value} (ry:RelV y u) :
  KV (kvs.map fun kv=>if kv.1=k then (kv.1,y) else kv) (vs.map fun kv=>if kv.1=k then (kv.1,u) else kv):=by
 unfold KV at r ⊢
 induction r with
 | nil=>exact .nil
 | @cons p q ps qs h t ih =>
  rw [List.map_cons,List.map_cons]
  refine .cons ?_ ih
  obtain⟨h1,h2⟩:=h
  by_cases e:p.1=k
  ·rw [if_pos e,if_pos (h1.symm.trans e)];exact⟨h1,ry⟩
  ·rw [if_neg e,if_neg (fun z=>e (h1.trans z))];exact⟨h1,h2⟩
theorem KV.put {kvs:List (κ×V)} {vs:List (κ×Value)} (r:KV kvs vs) (k:κ) {y:V} {u:Value} (ry:RelV y u):KV (putK kvs k y) (stored vs k u):=by
 unfold putK stored
 rw [r.any k]
 by_cases e:(vs.any fun kv=>decide (kv.1=k))=true
 ·rw [if_pos e,if_pos e];exact r.repl k ry
 ·rw [if_neg e,if_neg e];exact Paired.snoc r ⟨rfl,ry⟩
theorem KV.drop {kvs:List (κ×V)} {vs:List (κ×Value)} (r:KV kvs vs) (k:κ):KV (zfg kvs k) (without vs k):=by
 unfold KV at r ⊢
 unfold zfg without
 induction r with
 | nil=>exact .nil
 | @cons p q ps qs h t ih =>
  obtain⟨h1,h2⟩:=h
  rw [List.filter_cons,List.filter_cons]
  by_cases e:p.1=k
  ·have a:¬ decide (p.1≠k)=true:=by simp [e]
   have b:¬ decide (q.1≠k)=true:=by simp [h1.symm.trans e]
   rw [if_neg a,if_neg b];exact ih
  ·have e':¬ q.1=k:=fun z=>e (h1.trans z)
   have a:decide (p.1≠k)=true:=by simp [e]
   have b:decide (q.1≠k)=true:=by simp [e']
   rw [if_pos a,if_pos b];exact .cons ⟨h1,h2⟩ ih
theorem KV.length {kvs:List (κ×V)} {vs:List (κ×Value)} (r:KV kvs vs):kvs.length=vs.length:=Paired.length r
end
theorem ze7 {P:Program} {w:World} {k:Key} {u:Value} (r:RelV (kV k) u):(zZ P w).is k u=true:=by
 cases k with
 | inl i=>obtain⟨t,e⟩:=(show ∃ t,u=Value.int i t from r);subst e;exact zaq P w i t
 | inr x=>obtain⟨t,e⟩:=(show ∃ t,u=Value.str x t from r);subst e;exact zat P w x t
theorem WF {P:Program} {w:World}:∀ {ks:List Key} {us:List Value},Vals (ks.map kV) us->ItemsAre (zZ P w) ks us
 | [],_,r=>by rw [List.map_nil] at r;cases r;exact .nil
 | k :: ks,_,r=>by
  rw [List.map_cons] at r
  cases r with
  | cons h t=>exact .cons (ze7 h) (WF t)
abbrev KT (H:Hp):List (List Key×V)->List (List Key×Addr×Value)->Prop:=Paired fun p q=>p.1=q.1/\H q.2.1=some (.tup (p.1.map kV))/\RelV p.2 q.2.2
theorem KT.val {H:Hp} {kvs:List (List Key×V)} {xs:List (List Key×Addr×Value)} (r:KT H kvs xs) (k:List Key):RelO (wX kvs k) ((atKey xs k).map (·.2)):=by
 induction r with
 | nil=>exact True.intro
 | @cons p q ps qs h t ih =>
  obtain⟨h1,_,h2⟩:=h
  by_cases e:p.1=k
  ·have e':q.1=k:=h1.symm.trans e
   have b:atKey (q :: qs) k=some q.2:=by simp [atKey,List.find?_cons,e']
   rw [wA e,b];exact h2
  ·have e':¬ q.1=k:=fun z=>e (h1.trans z)
   have b:atKey (q :: qs) k=atKey qs k:=by simp [atKey,List.find?_cons,e']
   rw [wy e,b];exact ih
theorem KT.repl {H:Hp} {kvs:List (List Key×V)} {xs:List (List Key×Addr×Value)} (r:KT H kvs xs) (k:List Key) {y:V} {u:Value} (ry:RelV y u) :
  KT H (kvs.map fun kv=>if kv.1=k then (kv.1,y) else kv) (xs.map (putAt k u)):=by
 induction r with
 | nil=>exact .nil
 | @cons p q ps qs h t ih =>
  rw [List.map_cons,List.map_cons]
  refine .cons ?_ ih
  obtain⟨h1,h2,h3⟩:=h
  unfold putAt
  by_cases e:p.1=k
  ·rw [if_pos e,if_pos (h1.symm.trans e)];exact⟨h1,h2,ry⟩
  ·rw [if_neg e,if_neg (fun z=>e (h1.trans z))];exact⟨h1,h2,h3⟩
theorem KT.put {H:Hp} {kvs:List (List Key×V)} {xs:List (List Key×Addr×Value)} (r:KT H kvs xs) (k:List Key) {b:Addr} {y:V} {u:Value} (hb:H b=some (.tup (k.map kV))) (ry:RelV y u) :
  KT H (putK kvs k y) (storedH xs k b u):=by
 have e:(kvs.any fun kv=>decide (kv.1=k))=(atKey xs k).isSome:=by
  rw [qK,(r.val k).isSome_eq,Option.isSome_map]
 unfold putK storedH
 rw [e]
 by_cases q:(atKey xs k).isSome=true
 ·rw [if_pos q,if_pos q];exact r.repl k ry
 ·rw [if_neg q,if_neg q];exact Paired.snoc r ⟨rfl,hb,ry⟩
theorem KT.keeps {H H':Hp} {kvs:List (List Key×V)} {xs:List (List Key×Addr×Value)} (r:KT H kvs xs) (ht:∀ b ys,H b=some (.tup ys)->H' b=some (.tup ys)):KT H' kvs xs :=
 Paired.mapP r fun _ _ z=>⟨z.1,ht _ _ z.2.1,z.2.2⟩
section
variable {P:Program} {w:World} {H:Hp} {h:Heap} {a:Addr}
theorem zfa {u:HO} (ok:HOk P w H h) (e:Rd H a u):ObjOk P w H h a u:=e.ok ok
theorem zga {kvs:List (Key×V)} (ok:HOk P w H h) (e:Rd H a (.dK kvs)):kvs.length<=sizeLine/\(a == sysModules)=false/\∃ vs,KV kvs vs/\h.DictOf (zZ P w) a vs :=
 show ObjOk P w H h a (.dK kvs) from zfa ok e
theorem zgT {kvs:List (Key×V)} (ok:HOk P w H h) (e:H a=some (.dK kvs)):kvs.length<=sizeLine/\(a == sysModules)=false/\∃ vs,KV kvs vs/\h.DictOf (zZ P w) a vs:=zga ok (.inl e)
theorem zaX {ks:List Key} (ok:HOk P w H h) (e:H a=some (.tup (ks.map kV))):(tupleKind (zZ P w)).is h ks a:=by
 obtain⟨_,its,r,o,h1,h2,n,h3⟩:=(show ObjOk P w H h a (.tup (ks.map kV)) from ok a _ e)
 exact⟨o,its.toArray,n,h1,h2,h3,by simpa using WF r⟩
theorem zf8 {kvs:List (List Key×V)} (ok:HOk P w H h) (e:Rd H a (.dT kvs)):kvs.length<=sizeLine/\(a == sysModules)=false /\
  ∃ xs,KT H kvs xs/\h.DictOfH (tupleKind (zZ P w)) a xs:=by
 obtain⟨z,y,xs,r,o,es,ep,h1,h2,h3,h4,h5⟩:=(show ObjOk P w H h a (.dT kvs) from zfa ok e)
 refine⟨z,y,xs,r,o,es,ep,h1,h2,h3,h4,fun x hx=>?_,h5⟩
 have all:∀ {l:List (List Key×V)} {m:List (List Key×Addr×Value)},KT H l m->∀ x∈m,(tupleKind (zZ P w)).is h x.1 x.2.1:=by
  intro l m q
  induction q with
  | nil=>intro x hx;exact nomatch hx
  | @cons p q ps qs hq t ih =>
   intro x hx
   rcases List.mem_cons.mp hx with e | hx
   ·subst e
    exact zaX ok (by rw [<- hq.1];exact hq.2.1)
   ·exact ih x hx
 exact all r x hx
theorem zfe {kvs:List (List Key×V)} (ok:HOk P w H h) (e:H a=some (.dT kvs)):kvs.length<=sizeLine/\(a == sysModules)=false /\
  ∃ xs,KT H kvs xs/\h.DictOfH (tupleKind (zZ P w)) a xs:=zf8 ok (.inl e)
end
def DGet (H:Hp) (a:Addr) (y:V) (r:Option V):Prop :=
 (∃ kvs k,Rd H a (.dK kvs)/\y=kV k/\r=wX kvs k)\/∃ kvs k b,Rd H a (.dT kvs)/\y=.ref b/\H b=some (.tup (k.map kV))/\r=wX kvs k
def DPut (H:Hp) (a:Addr) (y v:V) (H':Hp):Prop :=
 (∃ kvs k,H a=some (.dK kvs)/\y=kV k/\kvs.length<sizeLine/\H'=upd H a (.dK (putK kvs k v))) \/
 ∃ kvs k b,H a=some (.dT kvs)/\y=.ref b/\H b=some (.tup (k.map kV))/\kvs.length<sizeLine/\H'=upd H a (.dT (putK kvs k v))
theorem DGet.k {H:Hp} {a:Addr} {kvs:List (Key×V)} {k:Key} (e:H a=some (.dK kvs)):DGet H a (kV k) (wX kvs k):=.inl ⟨kvs,k,.inl e,rfl,rfl⟩
theorem DGet.t {H:Hp} {a b:Addr} {kvs:List (List Key×V)} {k:List Key} (e:H a=some (.dT kvs)) (eb:H b=some (.tup (k.map kV))):DGet H a (.ref b) (wX kvs k):=.inr ⟨kvs,k,b,.inl e,rfl,eb,rfl⟩
theorem DPut.k {H:Hp} {a:Addr} {kvs:List (Key×V)} {k:Key} {v:V} (e:H a=some (.dK kvs)) (hl:kvs.length<sizeLine):DPut H a (kV k) v (upd H a (.dK (putK kvs k v))):=.inl ⟨kvs,k,e,rfl,hl,rfl⟩
theorem DPut.t {H:Hp} {a b:Addr} {kvs:List (List Key×V)} {k:List Key} {v:V} (e:H a=some (.dT kvs)) (eb:H b=some (.tup (k.map kV))) (hl:kvs.length<sizeLine) :
  DPut H a (.ref b) v (upd H a (.dT (putK kvs k v))):=.inr ⟨kvs,k,b,e,rfl,eb,hl,rfl⟩
section
variable {X:Cx} {pins:List (Addr×Obj)} {Z:St} {H:Hp} {s:Shared} {a:Addr} {y v:V} {u r:Value} {o:Option V} {A:Around} {E:Value->Shared->Prop}
theorem Inv.big (I:Inv X pins Z H s):sysModules<s.heap.objs.size:=by
 have h:mainGlobals<s.heap.objs.size:=(I.mod.glob.keeps I.bk).lt
 exact Nat.lt_trans (by decide) h
theorem Jc {h':Heap} {t':Nat} {ob:HO} (I:Inv X pins Z H s) (mu:Mut (H a)) (hs:Heap.SameBut a s.heap h') (he:∃ q,h'.get? a=some q) (new:ObjOk X.prog X.w (upd H a ob) h' a ob) :
  Inv X pins Z (upd H a ob) { s with heap:=h',toks:=t' } :=
 I.write (x:=a) (e:=a) mu (.inl rfl) (fun b q hb z=>(hs.2 b hb).trans z) he new
theorem zfs {P:Program} {w:World} {H':Hp} {h':Heap} {kvs:List (Key×V)} {vs:List (Key×Value)} (z:kvs.length<=sizeLine) (hd:(a == sysModules)=false) (rel:KV kvs vs) (dd:h'.DictOf (zZ P w) a vs) :
  ObjOk P w H' h' a (.dK kvs):=⟨z,hd,vs,rel,dd⟩
theorem zcc {H':Hp} {Q:Unit->Shared->Prop} (hu:A.units+1<cLine) (I:Inv X pins Z H s) (g:DPut H a y v H') (ry:RelV y u) (rv:RelV v r) (h:∀ s',Inv X pins Z H' s'->Q () s') :
  wpAny (model X.prog X.w) A (setItem (.ref a) u r) Q E s:=by
 rcases g with ⟨kvs,k,e,ey,l,eH⟩ | ⟨kvs,k,b,e,ey,eb,l,eH⟩
 ·subst ey eH
  obtain⟨z,hd,vs,rel,dd⟩:=zgT I.hok e
  have hz:vs.length<=sizeLine:=by rw [<- rel.length];exact z
  have hl:(putK kvs k v).length<=sizeLine:=by have:=jO kvs k v;omega
  refine wpAny_setItem_pairs (hsz:=hz) (ze7 ry) dd fun h' dd' hs=>h _ ?_
  have he:∃ q,h'.get? a=some q:=let ⟨q,_,_,hq,_⟩:=dd';⟨q,hq⟩
  exact Jc I (by rw [e];exact True.intro) hs he (zfs hl hd (rel.put k rv) dd')
 ·subst ey eH
  cases (show u=Value.ref b from ry)
  obtain⟨z,hd,xs,rel,dd⟩:=zfe I.hok e
  have hz:xs.length<=sizeLine:=by rw [<- Paired.length rel];exact z
  have hl:(putK kvs k v).length<=sizeLine:=by have:=jO kvs k v;omega
  refine wpAny_setItem_heap (hsz:=hz) (tupleKind_room_in1 hu) (zaX I.hok eb) dd fun h' dd' hs=>h _ ?_
  obtain⟨q,es,ep,hq,h2,h3,h4,_,h5⟩:=dd'
  refine Jc I (by rw [e];exact True.intro) hs ⟨q,hq⟩ ⟨hl,hd,_,(rel.put k eb rv).keeps fun c ys ec=>?_,q,es,ep,hq,h2,h3,h4,h5⟩
  rw [zx (Y7 ec e (fun z=>nomatch z))]
  exact ec
end
section
variable {X:Cx} {pins:List (Addr×Obj)} {Z:St} {H:Hp} {s:Shared} {a:Addr} {kvs:List (Key×V)} {k:Key} {u:Value} {A:Around} {E:Value->Shared->Prop}
end
def zgj (i:Expr):Prop:=∀ ov iv,subscripted i false ov iv=operate [ov,iv] (getItem ov iv)
theorem zes {prog:Program} {w:World} {A:Around} {E:Value->Shared->Prop} {s:Shared} {env:Env} {value slice:Expr} {pos:Pos} {T id:String} {Q:Value->Shared->Prop}
  (hl:typeLookup (.type T) "__getitem__" = pure (some (.builtin id))) (hs:zgj slice)
  (h:wpAny (model prog w) A (eval value env) (fun o s₁=>wpAny (model prog w) A (eval slice env) (fun i s₂=>s₂.TypeIs o T/\wpAny (model prog w) A (getItem o i) Q E s₂) E s₁) E s) :
  wpAny (model prog w) A (eval (.Subscript value slice pos) env) Q E s:=by
 refine Subscript_ (wpAny_mono h (fun o s₁ h₁=>wpAny_mono h₁ (fun i s₂ h₂=>?_) fun _ _ x=>x) fun _ _ x=>x)
 obtain⟨hT,h₂⟩:=h₂
 unfold subscriptTail
 refine wpAny_bind ?_
 rw [getitemInPython_of_ne hT.not_modules]
 refine wpAny_bind (wpAny_specialOf hT hl ?_)
 have fin:wpAny (model prog w) A (subscripted slice false o i) (fun r s₃=>wpAny (model prog w) A (letTemporaryGo value o r >>= fun _=>pure r) Q E s₃) E s₂:=by
  rw [hs o i]
  exact wpAny_operating (wpAny_mono h₂ (fun r s₃ h₃=>wpAny_bind (wpAny_letTemporaryGo (wpAny_pure h₃))) fun _ _ x=>x)
 first
  | exact wpAny_pure (wpAny_bind fin)
  | exact wpAny_bind (wpAny_pure (wpAny_bind fin))
  | exact wpAny_bind fin
def zgt (td ty tv:TE):TS:=fun D Z H=>tv Z H fun v H1=>td Z H1 fun x H2=>ty Z H2 fun y H3=>∃ a H4,x=.ref a/\DPut H3 a y v H4/\D.nx Z H4
section
variable {X:Cx} {o i e value:Expr} {pos pos' tpos:Pos} {td ty tv:TE}
theorem zeW (hu:X.A.units+1<cLine) (ho:PE X o td) (hi:PE X i ty) (hv:PE X value tv) (hs:swapsWith value (some (.Subscript o i pos')) pos.line X.env=pure false) :
  PS X (.Assign [.Subscript o i pos'] value pos) (zgt td ty tv):=by
 intro pins s Z H D I h
 refine wpAny_Assign_Subscript (thn (hv pins s Z H _ I h) fun r s1 ⟨v,H1,I1,rv,q1⟩=>thn (ho pins s1 Z H1 _ I1 q1) fun u s2 ⟨x,H2,I2,rx,q2⟩=>thn (hi pins s2 Z H2 _ I2 q2) fun iv s3 ⟨y,H3,I3,ry,a,H4,ex,g,q3⟩=>?_) hs
 subst ex
 obtain rfl:u=Value.ref a:=rx
 exact zcc hu I3 g ry rv fun s4 I4=>⟨Z,H4,I4,q3⟩
end
theorem zc5 {P:Program} {w:World} {H:Hp} (h:Heap) (hb:sysModules<h.objs.size):ObjOk P w H (h.push { cls:=.type "dict",data:=.dict #[] }) h.objs.size (.dT []) :=
 ⟨Nat.zero_le _,beq_eq_false_iff_ne.mpr (Ne.symm (Nat.ne_of_lt hb)),[],.nil,_,#[],0,Heap.get?_push_size _ rfl,⟨rfl,rfl,rfl⟩,rfl,rfl,List.nodup_nil⟩
def zfn:TE:=fun _ H Q=>∀ p,H p=none->Q (.ref p) (upd H p (.dT []))
section
variable {X:Cx} {pos:Pos}
theorem zdD:PE X (.Dict [] [] pos) zfn:=fun pins s Z H Q I h =>
 wpAny_Dict_empty ⟨.ref s.heap.objs.size,_,I.laid (a:=s.heap.objs.size) (o:=.dT []) (t':=s.toks) (fun _ _ q=>Heap.get?_push_of_some _ q) (Nat.le_refl _) (zc5 s.heap I.big),rfl,h _ (I.hok.fresh (Nat.le_refl _))⟩
end
structure M1 (X:Cx) (o:Expr) (m:Str) (apos:Pos) (e:Expr) (cpos:Pos):Prop where
 base:attributeBase o m X.env (eval o X.env)=eval o X.env
 few:((backTo cpos (starEach [e] X.env)).all (fun x=>!x.1) && (backToKw cpos (keywordEach [] X.env)).all (fun x=>x.1.isSome)
  && decide (([e]:List Expr).length+([]:List Keyword).length+(if ([]:List Keyword).isEmpty then 0 else 1)<30))=true
 line:(apos.endLine == cpos.line)=true
 trees:backTo cpos (starEach [e] X.env)=[(false,eval e X.env)]
structure M2 (X:Cx) (o:Expr) (m:Str) (apos:Pos) (e f:Expr) (cpos:Pos):Prop where
 base:attributeBase o m X.env (eval o X.env)=eval o X.env
 few:((backTo cpos (starEach [e,f] X.env)).all (fun x=>!x.1) && (backToKw cpos (keywordEach [] X.env)).all (fun x=>x.1.isSome)
  && decide (([e,f]:List Expr).length+([]:List Keyword).length+(if ([]:List Keyword).isEmpty then 0 else 1)<30))=true
 line:(apos.endLine == cpos.line)=true
 trees:backTo cpos (starEach [e,f] X.env)=[(false,eval e X.env),(false,eval f X.env)]
section
variable {X:Cx} {pins:List (Addr×Obj)} {Z:St} {H:Hp} {s:Shared} {a:Addr} {y d:V} {u r:Value} {o:Option V} {A:Around} {E:Value->Shared->Prop}
end
section
variable {X:Cx} {o e f:Expr} {apos cpos:Pos} {td ty tx:TE}
end
section
variable {X:Cx} {pins:List (Addr×Obj)} {Z:St} {H:Hp} {s:Shared} {a:Addr} {kvs:List (Key×V)} {A:Around} {E:Value->Shared->Prop}
end
section
variable {X:Cx} {pins:List (Addr×Obj)} {Z:St} {H:Hp} {s:Shared} {a:Addr} {y:V} {u:Value} {A:Around} {E:Value->Shared->Prop}
end
section
variable {X:Cx}
end
section
variable {κ:Type} [DecidableEq κ]
theorem zaM {kvs:List (κ×V)} {k:κ} (h:wX kvs k=none):¬ k∈kvs.map (·.1):=by
 intro m
 obtain⟨p,hp,e⟩:=List.mem_map.mp m
 have q:(kvs.any fun kv=>decide (kv.1=k))=true:=List.any_eq_true.mpr ⟨p,hp,decide_eq_true e⟩
 rw [qK,h] at q
 exact absurd q (by simp)
theorem zbS:∀ {l:List κ} {k:κ},l.Nodup->¬ k∈l->(l++[k]).Nodup
 | [],k,_,_=>by simp
 | a :: r,k,h,hk=>by
  obtain⟨h1,h2⟩:=List.nodup_cons.mp h
  show (a :: (r++[k])).Nodup
  refine List.nodup_cons.mpr ⟨fun m=>?_,zbS h2 fun m=>hk (List.mem_cons.mpr (Or.inr m))⟩
  rcases List.mem_append.mp m with q | q
  ·exact h1 q
  ·exact hk (List.mem_cons.mpr (Or.inl (List.mem_singleton.mp q).symm))
theorem zez {kvs:List (κ×V)} {k:κ} (v:V) (hn:(kvs.map (·.1)).Nodup) (h:wX kvs k=none):((putK kvs k v).map (·.1)).Nodup:=by
 rw [Wm v h,List.map_append]
 exact zbS hn (zaM h)
end
end L2
namespace HT
open PySem PyProof.Rows PySem.W
section
variable {prog:Program} {w:World} {A:Around} {E:Value->Shared->Prop} {s:Shared}
theorem zbo {a:Addr} {vs:List Value} {n0:Nat} {κ:SortKind} {c:Nat->Nat->Bool} {P:PySem.Fin->Shared->Prop} (ho:s.heap.get? a=some (seqObj "list" vs.toArray n0)) (h60:vs.length<=60) (O:Ord c vs.length)
  (hkind:∀ G:Heap,(∀ b o,b≠a->s.heap.get? b=some o->G.get? b=some o)->2<=vs.length->∀ Q:SortKind->Shared->Prop,Q κ { s with heap:=G }->wpAny (model prog w) A (keyKind' vs.toArray) Q E { s with heap:=G })
  (hcmp:∀ G:Heap,(∀ b o,b≠a->s.heap.get? b=some o->G.get? b=some o)->∀ i j (C:Bool->Shared->Prop),i<vs.length->j<vs.length->C (c i j) { s with heap:=G }->kas_ask prog w A κ vs i j C { s with heap:=G })
  (h:∀ p:List Nat,p.Perm (List.range vs.length)->p.Pairwise (fun i j=>c i j=true)->P (.done (.ret .none)) { s with heap:=sortedHeap s.heap a vs (p.map fun i=>vs.getD i Value.none).toArray }) :
  wpAny (model prog w) A (Builtin.«list.sort» ⟨[.ref a],[]⟩) P E s:=by
 rw [list_sort_plain]
 have hsl:vs.length<=sizeLine:=Nat.le_trans h60 (by decide)
 have ha:a<s.heap.objs.size:=Heap.lt_size ho
 obtain⟨e1,ho1⟩:∃ e1,(s.heap.update a (Obj.mapSeq fun _=>#[])).get? a=some (seqObj "list" #[] e1):=⟨_,get?_update_seq ho (fun _=>#[])⟩
 refine wpAny_bind (listItems_at ho rfl (wpAny_bind (listUpdate_at ho rfl (wpAny_bind (seqEpoch_at ho1 rfl (wpAny_bind (wpAny_newTuple (wpAny_bind (wpAny_newList (wpAny_holding ?_) (Nat.zero_le _))) (by show vs.length<=_;exact hsl))))) (by rw [List.size_toArray];exact hsl) (Nat.zero_le _))))
 generalize hG:(((s.heap.update a (Obj.mapSeq fun _=>(#[]:Array Value))).push (seqObj "tuple" vs.toArray 0)).push (seqObj "list" #[] 0))=G
 have ho6:G.get? a=some (seqObj "list" #[] e1):=by
  rw [<- hG,Heap.get?_push_ne _ _ _ (by rw [size_push',Heap.size_update];exact Nat.ne_of_lt (Nat.lt_succ_of_lt ha)),Heap.get?_push_ne _ _ _ (by rw [Heap.size_update];exact Nat.ne_of_lt ha)];exact ho1
 have keep:∀ b o,b≠a->s.heap.get? b=some o->G.get? b=some o:=fun b o hb e=>by
  have hlt:=Heap.lt_size e
  rw [<- hG,Heap.get?_push_ne _ _ _ (by rw [size_push',Heap.size_update];exact Nat.ne_of_lt (Nat.lt_succ_of_lt hlt)),Heap.get?_push_ne _ _ _ (by rw [Heap.size_update];exact Nat.ne_of_lt hlt),Heap.get?_update_other _ _ (Ne.symm hb)];exact e
 show wpAny (model prog w) A _ P E { s with heap:=G }
 dsimp only
 have e2:∀ out:Array Value,G.update a (Obj.mapSeq fun _=>out)=sortedHeap s.heap a vs out:=fun out=>by rw [<- hG];rfl
 by_cases h2:vs.toArray.size<2
 ·rw [if_pos h2,if_pos h2]
  refine wpAny_bind (wpAny_pure ?_)
  rw [StateT.run_pure]
  refine wpAny_bind (wpAny_pure ?_)
  dsimp only
  rw [List.size_toArray] at h2
  have hout:(arrOf (SortSt.mk' general' (vs.toArray.zip vs.toArray) #[] 7 none)).map (·.2)=((List.range vs.length).map fun i=>vs.getD i Value.none).toArray:=by
   show ((vs.toArray.zip vs.toArray).map (·.2))=_
   apply Array.toList_inj.mp
   rw [Array.toList_map,Array.toList_zip,List.map_snd_zip (by simp)]
   apply List.ext_getElem?
   intro i
   rw [List.getElem?_map]
   by_cases hi:i<vs.length
   ·rw [List.getElem?_range hi,Option.map_some,List.getD_eq_getElem?_getD,List.getElem?_eq_getElem hi];rfl
   ·rw [List.getElem?_eq_none (by simpa using hi),List.getElem?_eq_none (by simpa using hi)];rfl
  rw [hout]
  refine wpAny_bind (seqEpoch_at ho6 rfl (wpAny_bind (listUpdate_at ho6 rfl ?_ (Nat.zero_le _) (by rw [List.size_toArray,List.length_map,List.length_range];exact Nat.le_succ_of_le hsl))))
  simp only [bne_self_eq_false,Bool.false_eq_true,if_false]
  rw [e2]
  refine wpAny_pure (h _ (List.Perm.refl _) ?_)
  rw [List.pairwise_iff_getElem]
  intro i j hi hj hij
  rw [List.length_range] at hj
  omega
 ·rw [if_neg h2,if_neg h2]
  rw [List.size_toArray] at h2
  refine wpAny_bind (hkind G keep (by omega) _ ?_)
  have ask:(kas_sort vs.length).kasWp (kas_ask prog w A κ vs) (fun p s'=>s'={ s with heap:=G }/\(Pm vs.length p/\Up c p vs.length)) { s with heap:=G } :=
   KW.wp (n:=vs.length) (fun i j C hi hj hC=>hcmp G keep i j C hi hj hC) _ (ze6 O (by omega))
  refine wpAny_bind (wpAny_mono (kat_run (E:=E) (ks:=vs) (vs:=vs) (Q:=fun st' s'=>∃ p:Array Nat,s'={ s with heap:=G }/\arrOf st'=p.map (kas_item (vs.toArray.zip vs.toArray))/\failedOf st'=none/\Pm vs.length p/\Up c p vs.length)
   rfl (by omega) (by omega) (fun p st' s' _ a2 a3 a4=>⟨p,a4.1,a2,a3,a4.2⟩) ask) ?_ fun _ _ e=>e)
  rintro⟨⟨⟩,st'⟩ s' ⟨p,rfl,har,hfl,hpm,hup⟩
  dsimp only
  have hpl:p.toList.length=vs.length:=by rw [hpm.pm.length_eq,List.length_range]
  have hol:(p.toList.map fun i=>vs.getD i Value.none).length=vs.length:=by rw [List.length_map,hpl]
  rw [kat_snds rfl har]
  refine wpAny_bind (seqEpoch_at ho6 rfl (wpAny_bind (listUpdate_at ho6 rfl ?_ (Nat.zero_le _) (by rw [List.size_toArray,hol];exact Nat.le_succ_of_le hsl))))
  rw [hfl]
  simp only [bne_self_eq_false,Bool.false_eq_true,if_false]
  rw [e2]
  refine wpAny_pure (h _ hpm.pm ?_)
  rw [List.pairwise_iff_getElem]
  intro i j hi hj hij
  have q1:=hup i j hij (by omega)
  have g1:p.getD i 0=p.toList[i]:=by
   have:i<p.size:=by rw [hpm.sz];omega
   simp [Array.getD,this]
  have g2:p.getD j 0=p.toList[j]:=by
   have:j<p.size:=by rw [hpm.sz];omega
   simp [Array.getD,this]
  rw [g1,g2] at q1
  exact q1
theorem zeE {r:Addr} {n:Nat} {κ:SortKind} {Pv:List Value->Prop} {Q:Value->Shared->Prop} (h60:n<=60)
  (hcol:∀ R:List Value->Shared->Prop,(∀ h' tk vs,(∀ b o,s.heap.get? b=some o->h'.get? b=some o)->vs.length=n->Pv vs->R vs { s with heap:=h',toks:=tk })->wpAny (model prog w) A.in1 (collect (.ref r)) R E s)
  (hord:∀ vs,vs.length=n->Pv vs->∃ c:Nat->Nat->Bool,Ord c n /\
   (∀ (G:Heap) (tk:Nat),(∀ b o,s.heap.get? b=some o->G.get? b=some o)->2<=n->∀ Q:SortKind->Shared->Prop,Q κ { s with heap:=G,toks:=tk }->wpAny (model prog w) A.in1.in1 (keyKind' vs.toArray) Q E { s with heap:=G,toks:=tk }) /\
   (∀ (G:Heap) (tk:Nat),(∀ b o,s.heap.get? b=some o->G.get? b=some o)->∀ i j (C:Bool->Shared->Prop),i<n->j<n->C (c i j) { s with heap:=G,toks:=tk }->kas_ask prog w A.in1.in1 κ vs i j C { s with heap:=G,toks:=tk }) /\
   ∀ (p:List Nat) (h' h'':Heap) (tk e:Nat),p.Perm (List.range n)->p.Pairwise (fun i j=>c i j=true)->(∀ b o,s.heap.get? b=some o->h'.get? b=some o)->(∀ b o,h'.get? b=some o->h''.get? b=some o)->h''.get? h'.objs.size=some (seqObj "list" (p.map fun i=>vs.getD i Value.none).toArray e)->Q (.ref h'.objs.size) { s with heap:=h'',toks:=tk }) :
  wpAny (model prog w) A (call (.builtin "sorted") [.ref r]) Q E s:=by
 refine Calls.call_function_entry kind_sorted plain_sorted entry_sorted (args_sorted1 _) ?_
 unfold Builtin.«sorted»
 refine wpAny_bind (m:=checkCount "sorted" 1 1 _) (wpAny_pure (wpAny_bind (hcol _ fun h' tk vs hk hl pv=>?_)))
 obtain⟨c,O,hkind,hcmp,fin⟩:=hord vs hl pv
 subst hl
 have hsl:vs.length<=sizeLine:=Nat.le_trans h60 (by decide)
 refine wpAny_bind (wpAny_newList ?_ hsl)
 have hoL:(h'.push (seqObj "list" vs.toArray 0)).get? h'.objs.size=some (seqObj "list" vs.toArray 0):=Heap.get?_push_size _ rfl
 have ne:∀ b o,s.heap.get? b=some o->b≠h'.objs.size:=fun b o q=>Nat.ne_of_lt (Heap.lt_size (hk b o q))
 show wpAny _ _ _ _ _ { s with heap:=h'.push (seqObj "list" vs.toArray 0),toks:=tk }
 dsimp only
 refine wpAny_bind (wpAny_holding (wpAny_call_entry slot_list_sort ⟨_,hoL,rfl⟩ entry_list_sort (zbo (A:=A.in1.in1) (s:={ s with heap:=h'.push (seqObj "list" vs.toArray 0),toks:=tk }) (κ:=κ) (c:=c) hoL h60 O (fun G kG h2 Q' hq=>hkind G tk (fun b o q=>kG b o (ne b o q) (Heap.get?_push_of_some _ (hk b o q))) h2 Q' hq)
  (fun G kG i j C hi hj hC=>hcmp G tk (fun b o q=>kG b o (ne b o q) (Heap.get?_push_of_some _ (hk b o q))) i j C hi hj hC) fun p hp hw=>⟨_,rfl,?_⟩) (args_list_sort _)))
 refine wpAny_pure ⟨_,rfl,?_⟩
 obtain⟨e,he⟩:=sortedHeap_at (out:=(p.map fun i=>vs.getD i Value.none).toArray) hoL
 refine fin p h' _ tk e hp hw hk (fun b o q=>?_) he
 have hlt:=Heap.lt_size q
 rw [sortedHeap_old (Nat.ne_of_lt hlt) (by rw [size_push'];exact Nat.lt_succ_of_lt hlt)]
 exact Heap.get?_push_of_some _ q
end
def RawD (h:Heap) (d:Addr) (ks:List Value) (ep:Nat):Prop:=∃ (o:Obj) (es:Array DictEntry),h.get? d=some o/\o.ExactDict/\o.data=.dict es ep/\es.toList.map (·.key)=ks
theorem RawD.at {h h':Heap} {d:Addr} {ks:List Value} {ep:Nat} (x:RawD h d ks ep) (e:∀ o,h.get? d=some o->h'.get? d=some o):RawD h' d ks ep:=let ⟨o,es,ho,r⟩:=x;⟨o,es,e _ ho,r⟩
theorem RawD.lt {h:Heap} {d:Addr} {ks:List Value} {ep:Nat} (x:RawD h d ks ep):d<h.objs.size:=let ⟨_,_,ho,_⟩:=x;Heap.lt_size ho
theorem RawD.ty {s:Shared} {d:Addr} {ks:List Value} {ep:Nat} (x:RawD s.heap d ks ep):s.TypeIs (.ref d) "dict":=let ⟨o,_,ho,hc,_⟩:=x;⟨o,ho,hc.1⟩
section
variable {prog:Program} {w:World} {A:Around} {E:Value->Shared->Prop} {s:Shared} {d it:Addr} {ks:List Value} {ep i:Nat}
theorem zeG {Q:Value->Shared->Prop} (hd:(d == sysModules)=false) (hm:RawD s.heap d ks ep) (hQ:Q (.ref s.heap.objs.size) { s with heap:=s.heap.push { cls:=.type "dict_keyiterator",data:=.fields #[.ref d,.int 0 0,.int ks.length 0,.int ep 0] } }) :
  wpAny (model prog w) A (pyIter (.ref d)) Q E s:=by
 obtain⟨o,es,ho,hc,hdat,hk⟩:=id hm
 refine wpAny_pyIter_slot hm.ty F.slot_dict_iter (wpAny_call_entry F.slot_dict_iter hm.ty F.entry_dict_iter ?_ (F.args_dict_iter_1 _))
 unfold Builtin.«dict.__iter__» Builtin.Dict.dictSlotNone
 refine wpAny_bind (wpAny_bind (wpAny_notOrdered_dict hm.ty ?_))
 show wpAny _ _ (pure (Value.ref d)) _ _ s
 refine wpAny_pure ?_
 show wpAny _ _ (Builtin.Dict.showsAll d >>= _) _ _ s
 unfold Builtin.Dict.showsAll
 rw [hd,if_neg Bool.false_ne_true]
 have hsz:es.size=ks.length:=by rw [<- hk];simp
 refine wpAny_bind (wpAny_pure (wpAny_bind (wpAny_dictEntries ho hdat (wpAny_bind (wpAny_dictEpoch ho hdat (wpAny_bind (wpAny_newObj_type (wpAny_pure ⟨_,rfl,"dict_keyiterator",_,⟨_,Heap.get?_push_size _ rfl,rfl⟩,F.slot_dict_keyiterator_next.lookup,?_⟩))))))))
 simpa [rawInt,hsz] using hQ
theorem ze2 {v:Value} {Q:Option Value->Shared->Prop} (hit:s.heap.IsKeyIter it d i ks.length ep) (hm:RawD s.heap d ks ep) (hx:ks[i]?=some v)
  (hQ:∀ h',h'.IsKeyIter it d (i+1) ks.length ep->Heap.SameBut it s.heap h'->Q (some v) { s with heap:=h' }):wpAny (model prog w) A (pyNext (.ref it)) Q E s:=by
 obtain⟨o,ho,hc,hd⟩:=id hit
 obtain⟨od,es,hod,hcd,hdd,hk⟩:=id hm
 have hsz:es.size=ks.length:=by rw [<- hk];simp
 have hlt:i<es.size:=by rw [hsz];exact (List.getElem?_eq_some_iff.mp hx).1
 have hkey:es[i].key=v:=by
  rw [<- hk,List.getElem?_map] at hx
  simpa [hlt] using hx
 have hown:Builtin.Dict_items.ownsTuple "dict_keyiterator" = false:=by decide
 unfold pyNext
 refine wpAny_bind (wpAny_attempt (wpAny_callSpecial?_slot (name:=Str.ofString "__next__") hit.typeIs F.slot_dict_keyiterator_next (wpAny_call_entry F.slot_dict_keyiterator_next hit.typeIs F.entry_dict_keyiterator_next ?_ (F.args_dict_keyiterator_next_1 _))))
 refine wpAny_bind (wpAny_pure (wpAny_bind (wpAny_bind ?_)))
 first | refine wpAny_bind (wpAny_typeNameOfWhole_keyiter hit.typeIs (wpAny_pure (wpAny_bind (wpAny_fieldsOf ho hd ?_)))) | refine wpAny_bind (wpAny_typeNameOf_keyiter hit.typeIs (wpAny_pure (wpAny_bind (wpAny_fieldsOf ho hd ?_))))
 simp only [hown,Bool.false_eq_true,if_false]
 show wpAny _ _ (if (Value.ref d == Value.none)=true then _ else _) _ _ s
 rw [if_neg (show ¬ ((Value.ref d == Value.none)=true) from Bool.false_ne_true)]
 refine wpAny_bind (wpAny_pure (wpAny_bind (wpAny_dictEntries hod hdd ?_)))
 rw [if_neg (by rw [hsz];simp)]
 refine wpAny_bind (wpAny_pure (wpAny_bind (wpAny_dictEpoch hod hdd ?_)))
 rw [if_neg (by simp)]
 refine wpAny_pure ?_
 simp only [show ¬ ((i:Int)<0) from by omega,if_false,Int.toNat_natCast,Array.getElem?_eq_getElem hlt]
 refine wpAny_bind ?_
 first | refine wpAny_bind (wpAny_typeNameOfWhole_keyiter hit.typeIs (wpAny_pure (wpAny_bind (wpAny_isOneOf_keyiter hit.typeIs ?_)))) | refine wpAny_bind (wpAny_typeNameOf_keyiter hit.typeIs (wpAny_pure (wpAny_bind (wpAny_isOneOf_keyiter hit.typeIs ?_))))
 show wpAny _ _ (setField (.ref it) 1 (rawInt ((i:Int)+1)) >>= _) _ _ s
 refine wpAny_bind (wpAny_setField ho hd (by simp) ?_)
 have hit':(s.heap.update it (Obj.mapFields (·.setIfInBounds 1 (rawInt ((i:Int)+1))))).IsKeyIter it d (i+1) ks.length ep :=
  ⟨_,Heap.get?_update_self _ ho (Obj.isFreed_of_fields (Obj.data_mapFields hd _)),(Obj.cls_mapFields ..).trans hc,by rw [Obj.data_mapFields hd];simp [rawInt]⟩
 refine wpAny_bind (wpAny_holding (wpAny_bind (wpAny_isOneOf_keyiter (s:={ s with heap:=s.heap.update it (Obj.mapFields (·.setIfInBounds 1 (rawInt ((i:Int)+1)))) }) hit'.typeIs ?_)))
 show wpAny _ _ (pure es[i].key) _ _ _
 rw [hkey]
 exact wpAny_pure (wpAny_pure ⟨_,rfl,wpAny_pure (hQ _ hit' (Heap.SameBut.update ..))⟩)
theorem zfC {Q:Option Value->Shared->Prop} (hh:A.handled=none) (hit:s.heap.IsKeyIter it d ks.length ks.length ep) (hm:RawD s.heap d ks ep) (hQ:∀ h',Heap.ExtBut it s.heap h'->Q none { s with heap:=h' }):wpAny (model prog w) A (pyNext (.ref it)) Q E s:=by
 obtain⟨o,ho,hc,hd⟩:=id hit
 obtain⟨od,es,hod,hcd,hdd,hk⟩:=id hm
 have hsz:es.size=ks.length:=by rw [<- hk];simp
 have hge:es.size<=ks.length:=Nat.le_of_eq hsz
 have hown:Builtin.Dict_items.ownsTuple "dict_keyiterator" = false:=by decide
 unfold pyNext
 refine wpAny_bind (wpAny_attempt (wpAny_callSpecial?_slot (name:=Str.ofString "__next__") hit.typeIs F.slot_dict_keyiterator_next (wpAny_call_entry F.slot_dict_keyiterator_next hit.typeIs F.entry_dict_keyiterator_next ?_ (F.args_dict_keyiterator_next_1 _))))
 refine wpAny_bind (wpAny_pure (wpAny_bind (wpAny_bind ?_)))
 first | refine wpAny_bind (wpAny_typeNameOfWhole_keyiter hit.typeIs (wpAny_pure (wpAny_bind (wpAny_fieldsOf ho hd ?_)))) | refine wpAny_bind (wpAny_typeNameOf_keyiter hit.typeIs (wpAny_pure (wpAny_bind (wpAny_fieldsOf ho hd ?_))))
 simp only [hown,Bool.false_eq_true,if_false]
 show wpAny _ _ (if (Value.ref d == Value.none)=true then _ else _) _ _ s
 rw [if_neg (show ¬ ((Value.ref d == Value.none)=true) from Bool.false_ne_true)]
 refine wpAny_bind (wpAny_pure (wpAny_bind (wpAny_dictEntries hod hdd ?_)))
 rw [if_neg (by rw [hsz];simp)]
 refine wpAny_bind (wpAny_pure (wpAny_bind (wpAny_dictEpoch hod hdd ?_)))
 rw [if_neg (by simp)]
 refine wpAny_pure ?_
 simp only [show ¬ ((ks.length:Int)<0) from by omega,if_false,Int.toNat_natCast,Array.getElem?_eq_none hge]
 refine wpAny_bind ?_
 first | refine wpAny_bind (wpAny_typeNameOfWhole_keyiter hit.typeIs (wpAny_pure ?_)) | refine wpAny_bind (wpAny_typeNameOf_keyiter hit.typeIs (wpAny_pure ?_))
 show wpAny _ _ (setField (.ref it) 0 .none >>= _) _ _ s
 refine wpAny_bind (wpAny_setField ho hd (by simp) ?_)
 show wpAny _ _ (newExc (.type "StopIteration") [] >>= _) _ _ _
 refine wpAny_bind ?_
 simp only [newExc,newTuple]
 refine wpAny_bind (wpAny_newObj_type (wpAny_bind (m:=firstArgMember _ _) (wpAny_of_eq (a:=Value.none) (by first | rfl | (simp only [firstArgMember];rfl)) (wpAny_newObj_type ?_ (by size_fits)))) (by size_fits))
 simp only [raiseNew]
 refine wpAny_bind (wpAny_handled ?_)
 rw [show A.in1.handled=none from hh]
 refine wpAny_bind (wpAny_pure (wpAny_throw ?_))
 refine wpAny_bind (wpAny_isInstance (T:="StopIteration") (b:=true) ⟨_,Heap.get?_push_size _ rfl,rfl⟩ isSubtype_stop ?_)
 exact wpAny_pure (hQ _ (((Heap.SameBut.update ..).extBut.push _).push _))
theorem zdy (hh:A.handled=none) (I d:Addr) (hne:d≠I) (ks:List Value) (ep:Nat):Walks prog w A I [I,d] [I] ks.length (fun i v=>ks[i]?=some v) (fun i h=>h.IsKeyIter I d i ks.length ep/\RawD h d ks ep) where
 sub:=fun b hb=>by simp at hb;simp [hb]
 frame:=fun _ _ _ st hk=>⟨st.1.at fun o e=>hk I (by simp) o e,st.2.at fun o e=>hk d (by simp) o e⟩
 item:=fun i s Q E hi st hQ=>by
  refine ze2 (v:=ks[i]) st.1 st.2 (List.getElem?_eq_getElem hi) fun h' hit' hs'=>hQ _ h' s.toks (List.getElem?_eq_getElem hi) ⟨hit',st.2.at fun o e=>hs'.extBut _ _ hne e⟩ fun b o hb e=>hs'.extBut b o (fun h=>hb (by simp [h])) e
 done:=fun s Q E st hQ=>zfC hh st.1 st.2 fun h' he'=>hQ h' s.toks fun b o hb e=>he' b o (fun h=>hb (by simp [h])) e
 self:=fun _ _ _ _ st hQ=>wpAny_pyIter_keyiter st.1 hQ
theorem zf3 (lo:(d == sysModules)=false):KdlSrc prog w "dict" d d ks.length (fun i v=>ks[i]?=some v) (fun h=>RawD h d ks ep) where
 type:=fun _ hm=>hm.ty
 there:=fun _ hm=>⟨hm.lt,hm.lt⟩
 keep:=fun _ _ hm hk=>hm.at fun o e=>hk d (.inl rfl) o e
 notList:=by decide
 notTuple:=by decide
 hint:=fun _ _ _ _ hm hq=>kdl_hint_dict hm.ty hq
 iter:=fun _ _ hh hm=>⟨_,_,(fun _ _ hq=>zeG lo hm hq),zdy hh _ d (Nat.ne_of_lt hm.lt) ks ep,⟨⟨_,Heap.get?_push_size _ rfl,rfl,rfl⟩,hm.at fun o e=>Heap.get?_push_of_some _ e⟩⟩
end
end HT
namespace L2
open PySem PySem.Spec PyProof.Rows PySem.W
def kI (ns:List Int):List Key:=ns.map Sum.inl
theorem zec (ns:List Int):(kI ns).map kV=ns.map V.int:=by unfold kI;rw [List.map_map];rfl
theorem JG {a b:List Int} (e:kI a=kI b):a=b:=by
 unfold kI at e
 exact List.map_inj_right (fun x y h=>by cases h;rfl) |>.mp e
section
variable {X:Cx} {pins:List (Addr×Obj)} {Z:St} {H:Hp} {s:Shared}
theorem Ji (I:Inv X pins Z H s) {p:Addr} {ns:List Int} (h:H p=some (.tup (ns.map V.int))):∃ (its:List Value) (o:Obj) (m:Nat),IntsAre its ns/\s.heap.get? p=some o/\o.cls=.type "tuple"/\o.data=.seq its.toArray m:=by
 obtain⟨_,its,r,o,e,hc,m,hd⟩:=I.hok p _ h
 exact⟨its,o,m,by simpa using intsAre_of r,e,hc,hd⟩
end
theorem zap {prog:Program} {w:World} {A:Around} {Q:Bool->Shared->Prop} {s:Shared} {f:Bool}:∀ {xs ys:List Value} {as bs:List Int} (i:Nat),IntsAre xs as->IntsAre ys bs->f=decide (as.length<bs.length)->Q (HT.lexLt as bs) s->KatLex prog w A true f Q (xs.zip ys) i s
 | [],_,_,_,i,.nil,.nil,hf,h=>by subst hf;exact kat_nil h
 | [],_,_,_,i,.nil,.cons m u hj,hf,h=>by subst hf;exact kat_nil h
 | _,[],_,_,i,.cons n t hi,.nil,hf,h=>by subst hf;exact kat_nil h
 | _,_,_,_,i,.cons n t (ns:=as) hi,.cons m u (ns:=bs) hj,hf,h=>by
  rw [List.zip_cons_cons]
  refine kat_cons (wpAny_eqBool_int ?_)
  rw [HT.tZ] at h
  by_cases e:n=m
  ·rw [if_pos e] at h
   rw [show (n == m)=true by simp [e]]
   exact kat_yes (zap (i+1) hi hj (by rw [hf];simp) h)
  ·rw [if_neg e] at h
   rw [show (n == m)=false by simp [e]]
   refine kat_no ?_
   by_cases hi0:i=0
   ·subst hi0
    exact oneLt_int h
   ·rw [show (true && i == 0)=false by simp [hi0]]
    exact kat_one _ _ (HT.zay A s n t m u prog w _ _ h)
section
variable {X:Cx} {pins:List (Addr×Obj)} {Z:St} {H:Hp} {s:Shared}
theorem zeZ (I:Inv X pins Z H s) {A:Around} {p q:Addr} {as bs:List Int} (hp:H p=some (.tup (as.map V.int))) (hq:H q=some (.tup (bs.map V.int))) {Q:Bool->Shared->Prop} {E:Value->Shared->Prop} (h:Q (HT.lexLt as bs) s) :
  wpAny (model X.prog X.w) A (keyLt' (tuples' true) (.ref p) (.ref q)) Q E s:=by
 obtain⟨its,o,m,hi,e,_,hd⟩:=Ji I hp
 obtain⟨its',o',m',hi',e',_,hd'⟩:=Ji I hq
 refine kat_lt e hd e' hd' ?_
 rw [List.size_toArray,List.size_toArray,hi.length,hi'.length]
 exact zap 0 (by simpa using hi) (by simpa using hi') rfl h
end
theorem Qk {X:Cx} {pins:List (Addr×Obj)} {Z:St} {H:Hp} {s:Shared} (I:Inv X pins Z H s):∀ zs:ZB,(∀ z∈zs,H z.1=some (.tup (z.2.map V.int))/\z.2≠[])->∃ fs:List Value,KatTups s.heap (zs.map fun z=>Value.ref z.1) fs/\fs.length=zs.length/\∀ v∈fs,∃ n t,v=Value.int n t
 | [],_=>⟨[],KatTups.nil,rfl,fun v hv=>by cases hv⟩
 | z :: zs,h=>by
  obtain⟨fs,h1,h2,h3⟩:=Qk I zs fun q hq=>h q (.tail _ hq)
  obtain⟨za,zl⟩:=z
  obtain⟨hz,hne⟩:=h (za,zl) (.head _)
  obtain⟨its,o,m,hi,e,hc,hd⟩:=Ji I hz
  simp only at hi hne
  cases hi with
  | nil=>exact absurd rfl hne
  | cons n t hi =>
   refine⟨.int n t :: fs,KatTups.cons e hc hd (by simp) h1,by simp [h2],fun v hv=>?_⟩
   rcases List.mem_cons.mp hv with rfl | hv
   ·exact⟨n,t,rfl⟩
   ·exact h3 v hv
theorem zfS {ls:ZA} (nd:ls.Nodup):HT.Ord (fun i j=>HT.lexLt (ls.getD i []) (ls.getD j [])) ls.length:=by
 have ge:∀ i,(h:i<ls.length)->ls.getD i []=ls[i]:=fun i h=>by rw [List.getD_eq_getElem?_getD,List.getElem?_eq_getElem h];rfl
 refine⟨fun i j k _ _ _ h1 h2=>HT.jT _ _ _ h1 h2,fun i j hi hj hij h=>?_,fun i j hi hj h=>?_⟩
 ·have ne:ls.getD i []≠ls.getD j []:=fun z=>by
   rw [ge i hi,ge j hj] at z
   exact hij ((List.getElem_inj nd).mp z)
  have:=HT.Xo _ _ ne
  rw [h] at this
  exact this
 ·cases e:HT.lexLt (ls.getD j []) (ls.getD i []) with
  | false=>rfl
  | true =>
   have:=HT.jT _ _ _ h e
   rw [HT.qY] at this
   cases this
theorem zc7 {zs:ZB} {p:List Nat} (hp:p.Perm (List.range zs.length)) (hw:p.Pairwise (fun i j=>HT.lexLt ((zs.map (·.2)).getD i []) ((zs.map (·.2)).getD j [])=true)) :
  ∃ zs':ZB,zs'.Perm zs/\zs'.Pairwise (fun x y=>HT.lexLt x.2 y.2=true)/\(p.map fun i=>(zs.map fun z=>Value.ref z.1).getD i Value.none)=zs'.map fun z=>Value.ref z.1:=by
 have g:∀ i∈p,(zs.map (·.2)).getD i []=(zs.getD i (0,[])).2/\(zs.map fun z=>Value.ref z.1).getD i Value.none=Value.ref (zs.getD i (0,[])).1:=fun i hi=>by
  have hi':=List.mem_range.mp (hp.mem_iff.mp hi)
  constructor
  ·rw [List.getD_eq_getElem?_getD,List.getD_eq_getElem?_getD,List.getElem?_map,List.getElem?_eq_getElem hi'];rfl
  ·rw [List.getD_eq_getElem?_getD,List.getD_eq_getElem?_getD,List.getElem?_map,List.getElem?_eq_getElem hi'];rfl
 refine⟨p.map fun i=>zs.getD i (0,[]),HT.QK _ zs hp,?_,?_⟩
 ·rw [List.pairwise_map]
  refine List.Pairwise.imp_of_mem ?_ hw
  intro i j hi hj h
  rw [(g i hi).1,(g j hj).1] at h
  exact h
 ·rw [List.map_map]
  exact List.map_congr_left fun i hi=>(g i hi).2
theorem zab {H:Hp}:∀ {kvs:List (List Key×V)} {xs:List (List Key×Addr×Value)} {ls:ZA},KT H kvs xs->kvs.map (·.1)=ls.map kI->∃ zs:ZB,zs.map (·.2)=ls/\(xs.map fun x=>Value.ref x.2.1)=zs.map (fun z=>Value.ref z.1)/\(∀ z∈zs,H z.1=some (.tup (z.2.map V.int)))/\xs.map (·.1)=ls.map kI
 | [],[],ls,.nil,e=>by
  cases ls with
  | nil=>exact⟨[],rfl,rfl,by simp,rfl⟩
  | cons _ _=>simp at e
 | p :: kvs,q :: xs,ls,.cons h t,e=>by
  cases ls with
  | nil=>simp at e
  | cons l ls =>
   rw [List.map_cons,List.map_cons] at e
   injection e with e1 e2
   obtain⟨zs,h1,h2,h3,h4⟩:=zab t e2
   refine⟨(q.2.1,l) :: zs,by simp [h1],by simp [h2],fun z hz=>?_,?_⟩
   ·rcases List.mem_cons.mp hz with rfl | hz
    ·have:=h.2.1
     rw [e1,zec] at this
     exact this
    ·exact h3 z hz
   ·rw [List.map_cons,List.map_cons,h4,<- h.1,e1]
section
variable {X:Cx}
def zf0:List V->Hp->VK->Prop:=fun xs H Q=>∃ (a:Addr) (kvs:List (List Key×V)) (ls:ZA),xs=[.ref a]/\H a=some (.dT kvs)/\kvs.map (·.1)=ls.map kI/\ls.length<=60/\(∀ l∈ls,l≠[]) /\
 ∀ (p:Addr) (zs':ZB),H p=none->(zs'.map (·.2)).Perm ls->zs'.Pairwise (fun x y=>HT.lexLt x.2 y.2=true)->(∀ z∈zs',H z.1=some (.tup (z.2.map V.int)))->Q (.ref p) (upd H p (.lst (zs'.map fun z=>V.ref z.1)))
theorem zeM (hcalm:X.calm=true:=by rfl):vB X (.builtin "sorted") zf0:=by
 intro pins s Z H xs us Q I r h
 obtain⟨a,kvs,ls,rfl,ha,hks,h60,hne,q⟩:=h
 obtain⟨u,rfl,rx⟩:=vals1 r
 cases rx
 obtain⟨z,hd,xs,rel,o,es,ep,h1,h2,h3,h4,h5,h6⟩:=zfe I.hok ha
 obtain⟨zs,hz2,hzr,hzt,hx1⟩:=zab rel hks
 have hzl:zs.length=ls.length:=by rw [<- hz2,List.length_map]
 have nd:(zs.map (·.2)).Nodup:=by
  rw [hz2]
  rw [hx1] at h6
  exact (List.pairwise_map.mp h6).imp fun hab e=>hab (by rw [e])
 have hraw:HT.RawD s.heap a (zs.map fun z=>Value.ref z.1) ep:=⟨o,es,h1,h2,h3,by rw [h4,List.map_map,<- hzr];rfl⟩
 have hkl:(zs.map fun z=>Value.ref z.1).length=zs.length:=List.length_map ..
 have hO:=zfS nd
 rw [List.length_map] at hO
 have hzt':∀ z∈zs,H z.1=some (.tup (z.2.map V.int))/\z.2≠[]:=fun z hz=>⟨hzt z hz,hne _ (by rw [<- hz2];exact List.mem_map.mpr ⟨z,hz,rfl⟩)⟩
 refine HT.zeE (n:=zs.length) (κ:=tuples' true) (Pv:=fun vs=>vs=zs.map fun z=>Value.ref z.1) (by omega) (fun R hR=>?_) fun vs hl hv=>?_
 ·refine kdu_collect (A:=X.A.in1) (HT.zf3 (ks:=zs.map fun z=>Value.ref z.1) (ep:=ep) hd) (I.ok.hd hcalm) hraw (by rw [hkl];exact Nat.le_trans (show zs.length<=60 by omega) (by decide)) fun h' tk acc hk hacc=>?_
  have hal:acc.toList.length=zs.length:=by rw [Array.length_toList,hacc.1,hkl]
  refine hR h' tk acc.toList hk hal ?_
  apply List.ext_getElem?
  intro i
  cases e:acc.toList[i]? with
  | some v=>exact (hacc.2 i v (by rw [<- Array.getElem?_toList];exact e)).symm
  | none=>rw [List.getElem?_eq_none (by rw [hkl,<- hal];exact List.getElem?_eq_none_iff.mp e)]
 ·subst hv
  have gr:∀ i,i<zs.length->(zs.map fun z=>Value.ref z.1).getD i Value.none=.ref (zs.getD i (0,[])).1/\(zs.map (·.2)).getD i []=(zs.getD i (0,[])).2/\zs.getD i (0,[])∈zs:=fun i hi=>by
   have e:zs.getD i (0,[])=zs[i]:=by rw [List.getD_eq_getElem?_getD,List.getElem?_eq_getElem hi];rfl
   rw [e]
   refine⟨?_,?_,List.getElem_mem _⟩
   ·rw [List.getD_eq_getElem?_getD,List.getElem?_map,List.getElem?_eq_getElem hi];rfl
   ·rw [List.getD_eq_getElem?_getD,List.getElem?_map,List.getElem?_eq_getElem hi];rfl
  refine⟨_,hO,fun G tk kG hn2 Q' hq=>?_,fun G tk kG i j C hi hj hC=>?_,fun p h' h'' tk e hp hw k1 k2 hat=>?_⟩
  ·obtain⟨fs,ht,hfl,hfi⟩:=Qk (I.kept (t':=tk) kG) zs hzt'
   refine kat_kind (T:=.type "int") ht (by omega) (fun v hv=>?_) (by decide) (by rw [show (Value.type "int" != Value.type "tuple")=true by decide];exact hq)
   obtain⟨n,t,rfl⟩:=hfi v hv
   exact Looks.of_pure rfl
  ·obtain⟨a1,a2,a3⟩:=gr i hi
   obtain⟨b1,b2,b3⟩:=gr j hj
   unfold kas_ask
   rw [a1,b1]
   refine zeZ (I.kept (t':=tk) kG) (hzt _ a3) (hzt _ b3) ?_
   rw [a2,b2] at hC
   exact hC
  ·obtain⟨zs',pm,pw,hm⟩:=zc7 hp hw
   rw [hm] at hat
   have I1:=I.kept (t':=tk) k1
   have hfree:H h'.objs.size=none:=I1.hok.fresh (Nat.le_refl _)
   have hl':zs'.length=zs.length:=pm.length_eq
   refine⟨.ref h'.objs.size,_,I1.laid (t':=tk) (o:=.lst (zs'.map fun z=>V.ref z.1)) k2 (Nat.le_refl _) ⟨by rw [List.length_map];exact Nat.le_trans (show zs'.length<=60 by omega) (by decide),_,e,WK zs',hat⟩,rfl,q _ zs' hfree (by rw [<- hz2];exact pm.map _) pw fun z hz=>hzt z (pm.mem_iff.mp hz)⟩
end
open PySem PySem.Spec PyProof.Rows
def zcC (lo c:Int) (n:Nat):It:=⟨fun i _=>i<n,fun i H x H'=>H'=H/\x=.int (lo+i*c),fun i _=>n<=i⟩
theorem zak {P:Program} {w:World} {K:W.Frag} {tg:Expr} (it:Addr) (lo c:Int) (n:Nat):Turn P w K tg (zcC lo c n) [it] it (fun i h=>IsRangeIter h it (lo+(i:Nat)*c) ((n:Int)-(i:Nat)) c) where
 mem:=by simp
 obj:=fun i h st b hb=>by
  have e:b=it:=by simpa using hb
  subst e
  exact⟨_,st,fun v z=>by
   have z':Data.fields _=Data.cell v:=z
   cases z'⟩
 keep:=fun i h h' st k=>k it (by simp) _ st
 item:=by
  intro X hP hw hK hc i pins s Z H E I hf st hg
  subst hP hw hK
  obtain⟨f0,f1,f2,f3,f4,f5⟩:=hf it (by simp)
  have W:=Walks.range (prog:=X.prog) (w:=X.w) (I.ok.hd hc) it lo c n
  refine W.item i s _ _ hg st fun v h' tk hv st' kk=>?_
  obtain⟨t,rfl⟩:=hv
  have I1:Inv X pins Z H { s with heap:=h',toks:=tk }:=I.turned (fun b o hb e=>kk b o (by simpa using hb) e) f0 f1 f3 f4 f5
  exact⟨_,rfl,zdR (s:={ s with heap:=h',toks:=tk }) (n:="range_iterator") st' rfl rfl (by decide) ⟨.int (lo+i*c),H,I1,⟨t,rfl⟩,⟨rfl,rfl⟩,st',fun b hb=>(hf b hb).1⟩⟩
 done:=by
  intro X hP hw hK hc i pins s Z H E I hf st hg
  subst hP hw hK
  obtain⟨f0,f1,f2,f3,f4,f5⟩:=hf it (by simp)
  exact wpAny_pyNext_range_end (I.ok.hd hc) st (by have:n<=i:=hg;omega) fun h' eb=>⟨rfl,I.turned (t':=s.toks) (fun b o hb e=>eb b o hb e) f0 f1 f3 f4 f5⟩
 self:=fun _ _ _ _ _ st h=>wpAny_pyIter_rangeiter st h
section
variable {X:Cx} {tg:Expr}
theorem zaZ {lo c:Int} {n:Nat} {g:TG} {tb:TS} {D:Ends} {Z:St} {H:Hp} (Pv:Nat->St->Hp->Prop) (h0:Pv 0 Z H)
  (hs:∀ i Z H,i<n->Pv i Z H->g (.int (lo+i*c)) Z H fun σ2 H2=>tb { D with nx:=Pv (i+1),ct:=Pv (i+1),bk:=D.nx } σ2 H2) (hd:∀ Z H,Pv n Z H->D.nx Z H) :
  ∃ W:Nat->Nat->St->Hp->Prop,(∃ m,W 0 m Z H)/\∀ i m Z H,W i m Z H ->
   ((zcC lo c n).stop i H/\D.nx Z H)\/((zcC lo c n).go i H/\∃ N:St->Hp->Prop,(∀ σ' H',N σ' H'->∃ m',m'<m/\W (i+1) m' σ' H')/\∀ x H',(zcC lo c n).yld i H x H'->g x Z H' fun σ2 H2=>tb { D with nx:=N,ct:=N,bk:=D.nx } σ2 H2):=by
 refine⟨fun i m Z H=>m=n-i/\i<=n/\Pv i Z H,⟨n,by simp,Nat.zero_le _,h0⟩,?_⟩
 rintro i m Z H ⟨rfl,hi,p⟩
 by_cases hlt:i<n
 ·refine .inr ⟨hlt,Pv (i+1),fun σ' H' p'=>⟨n-(i+1),by omega,rfl,hlt,p'⟩,fun x H' y=>?_⟩
  obtain⟨e,y⟩:=y
  subst e y
  exact hs i Z _ hlt p
 ·have e:i=n:=by omega
  subst e
  exact .inl ⟨Nat.le_refl _,hd Z H p⟩
end
open PySem PySem.Spec PyProof.Rows PySem.SeqAt
section
variable {X:Cx}
def zgz (K:W.Frag):List V->Hp->VK->Prop:=fun xs H Q=>∃ (a:Addr) (ns:List Int),xs=[.ref a]/\SqL K H a (ns.map V.int)/\Q (.int ns.sum) H
theorem zeg (hc:X.calm=true):vB X (.builtin "sum") (zgz X.K):=by
 intro pins s Z H xs us Q I r h
 obtain⟨a,ns,rfl,hq,q⟩:=h
 obtain⟨u,rfl,rx⟩:=vals1 r
 cases rx
 obtain⟨its,rv,pl,hz⟩:=I.list hq
 have hi:=intsAre_of rv
 obtain⟨ys,hy⟩:=hi.allInts.items
 have hn:(ys.toList.map (·.1)).sum=ns.sum:=by
  have e:=hi.numsOf
  have e2:=nums_intItems ys
  rw [<- hy] at e2
  rw [<- e,<- e2]
 refine sum_intListG (xs:=ys) (I.ok.hd hc) (by rw [<- hy];exact pl.isList) fun h' tk t' hk=>?_
 refine⟨.int ns.sum,H,I.kept fun b o e=>hk b o e,?_,q⟩
 refine⟨t',?_⟩
 rw [preSum_eq,List.take_of_length_le (by simp),hn]
theorem zdX (K:W.Frag) (hc:X.calm=true) (e:X.K=K:=by rfl):vB X (.builtin "sum") (zgz K):=by subst e;exact zeg hc
def zb1 (K:W.Frag):V->List V->Hp->VK->Prop:=fun x vs H Q=>∃ l xs y ts u j,x=.ref l/\vs=[y]/\SqL K H l xs/\TrsAt K H ts xs/\TrAt K H u y/\xM ts<=8/\j<ts.length /\
 (∀ t,ts[j]?=some t->teq t u=true)/\(∀ m t,m<j->ts[m]?=some t->teq t u=false)/\Q (.int (j:Nat)) H
open Classical in
theorem zcn (hu:X.A.units+64<cLine):MtM X "list.index" (zb1 X.K):=by
 intro pins s Z H x vs v us Q I rx rv h
 obtain⟨l,xs,y,ts,u,j,rfl,rfl,hq,hts,ht,hd,hj,hit,hno,q⟩:=h
 cases rx
 obtain⟨u0,rfl,ru⟩:=Vals.one rv
 obtain⟨its,r,pl,hz⟩:=I.list hq
 obtain⟨⟨cls,dd,data,sl⟩,ho,hc,n,hdat⟩:=id pl.isList
 simp only at hc hdat
 subst hc hdat
 have l1:=hts.length
 have m1:=r.length
 have val:∀ (m:Nat) (hm:m<its.length) (t:Tr),ts[m]?=some t->decide (∃ t x,RelV x its[m]/\TrAt X.K H t x/\teq t u=true)=teq t u:=by
  intro m hm t et
  obtain⟨z,ez,hz'⟩:=hts.get et
  obtain⟨w,ew,rw'⟩:=r.get ez
  have e':its[m]=w:=by
   rw [List.getElem?_eq_getElem hm] at ew
   exact Option.some.inj ew
  rw [e',Bool.eq_iff_iff,decide_eq_true_iff]
  constructor
  ·rintro⟨t',x',r',h',e3⟩
   rw [rw'.inj r'] at hz'
   rw [V4 I 8 (Nat.le_trans (Yn (List.mem_of_getElem? et)) hd) hz' h'];exact e3
  ·intro e3
   exact⟨t,z,rw',hz',e3⟩
 have hjs:j<its.length:=by omega
 have hsl:(sizeLine:Int)<2^63-1:=by decide
 refine call_meets PySem.F.slot_list_index ⟨_,ho,rfl⟩ PySem.F.entry_list_index (PySem.F.args_list_index_2 _ _)
  (list_indexAt l its.toArray n dd sl u0 (fun y=>decide (∃ t x,RelV x y/\TrAt X.K H t x/\teq t u=true)) j (by simpa using hjs) (by omega) ?_ ?_) ⟨ho,Q4 I hu ht ru hd hts r,?_⟩
 ·have q:=val j hjs _ (List.getElem?_eq_getElem hj)
  rw [hit _ (List.getElem?_eq_getElem hj)] at q
  simpa using q
 ·intro m hm hlt
  have hm':m<ts.length:=by omega
  have q:=val m (by omega) _ (List.getElem?_eq_getElem hm')
  rw [hno m _ hlt (List.getElem?_eq_getElem hm')] at q
  simpa using q
 ·exact⟨.int (j:Nat),H,I.kept fun b o e=>e,⟨_,rfl⟩,q⟩
theorem zef (K:W.Frag) (hu:X.A.units+64<cLine) (e:X.K=K:=by rfl):MtM X "list.index" (zb1 K):=by subst e;exact zcn hu
end
structure Vq (sc:Scope) (scope:Scope) (xs:List Str) (M:List Str) (ys:List Str) (js:List Nat):Prop where
 kind:scope.kind=.function
 cell:∀ y∈scope.names,y.2≠.cell
 loc:∀ y∈scope.names,y.2=.local->scope.names.lookup y.1=some .local
 var:∀ x∈xs,scope.names.lookup x=some .local
 free:∀ y∈scope.names,y.2=.free->sc.names.lookup y.1=some .cell\/sc.names.lookup y.1=some .free
 caps:js.map (M[·]?)=ys.map some
 fr:∀ y∈ys,scope.names.lookup y=some .free
 nd:(xs++ys).Nodup
def nones (xs:List Str):St:=xs.map fun _=>none
theorem CScope.nofree {sc scope:Scope} {x:Str} {M:List Str} (kind:scope.kind=.function) (cell:∀ y∈scope.names,y.2≠.cell) (loc:∀ y∈scope.names,y.2=.local->scope.names.lookup y.1=some .local) (var:scope.names.lookup x=some .local) (free:∀ y∈scope.names,y.2≠.free):CScope sc scope x M [] [] :=
 ⟨kind,cell,loc,var,fun y hy e=>absurd e (free y hy),rfl,by simp,by simp⟩
section
variable {X:Cx} {pins:List (Addr×Obj)} {Z:St} {H:Hp} {s:Shared}
theorem zcD {scope:Scope} {xs ys:List Str} {js:List Nat} {fp:List Addr} {h₁:Heap} {tk:Nat} {C:Addr} (I:Inv X pins Z H s) (S:Vq X.env.scope scope xs X.N ys js) (hf:∀ b∈fp,Yl X pins H b) (ho:∀ b∈fp,∃ o,s.heap.get? b=some o)
  (hC:s.heap.objs.size<=C) (hk:∀ b o,s.heap.get? b=some o->h₁.get? b=some o) (hn:h₁.Ns C fun _=>none) :
  Inv (cxC X (xs++ys) scope C s H fp) [] (nones xs++yN js Z) H { s with heap:=h₁,toks:=tk }:=by
 have sub:∀ y c,(yf X.env.cells scope.names []).lookup y=some c->X.env.cells.lookup y=some c:=fun y c e=>xV (fun _ _ z=>by simp at z) e
 have has:∀ y,scope.names.lookup y=some .free->∃ c,(yf X.env.cells scope.names []).lookup y=some c:=fun y e=>by
  have m:(y,NameKind.free)∈scope.names:=PySem.mem_of_lookup e
  exact ZW (.inr ⟨m,I.ok.has y (S.free _ m rfl)⟩)
 have lt:∀ b∈fp,b<s.heap.objs.size:=fun b hb=>by obtain⟨o,e⟩:=ho b hb;exact Heap.lt_size e
 have ok:(cxC X (xs++ys) scope C s H fp).Ok:=by
  refine⟨I.ok.mod,S.kind,I.ok.glob,I.ok.blt,hC,fun y z c e1 e2=>I.ok.inj y z c (sub _ _ e1) (sub _ _ e2),fun y hy=>?_,fun y c z=>?_,I.ok.hd,I.ok.frames,.inl rfl,fun b hb=>?_,I.bs,Nat.le_trans I.ok.bsz I.sz,fun b o e hb=>?_,fun b hb z=>?_,I.stack,I.stkFree⟩
  ·have hy':(relabel scope X.env).names.lookup y=some .cell\/(relabel scope X.env).names.lookup y=some .free:=hy
   have nocell:scope.names.lookup y≠some .cell:=fun z=>S.cell _ (PySem.mem_of_lookup z) rfl
   rcases hy' with e | e
   ·rcases yo e with z | ⟨_,z⟩
    ·exact absurd z nocell
    ·exact has y z
   ·rcases yo e with z | ⟨z,_⟩
    ·exact has y z
    ·cases z
  ·exact absurd (show false=true from z) Bool.false_ne_true
  ·refine⟨Nat.ne_of_lt (Nat.lt_of_lt_of_le (lt b hb) hC),fun y c e=>(hf b hb).2.2.2.2.1 y c (sub y c e)⟩
  ·rcases (hf b hb).2.2.2.1 with z | z
   ·exact I.ok.noex b o e z
   ·exact absurd (Nat.lt_of_lt_of_le (Heap.lt_size e) (Nat.le_trans I.ok.bsz z)) (Nat.lt_irrefl _)
  ·rcases List.mem_cons.mp (I.stkSub b z) with e | e
   ·exact (hf b hb).2.1 e
   ·exact (hf b hb).2.2.1 e
 refine⟨ok,rfl,I.bare,Un.kept hk,⟨_,hn,fun i y v e1 e2 e3=>?_⟩,fun y c e=>?_,I.hok.fresh hC,fun y c e=>I.freeC y c (sub y c e),fun p hp=>absurd (show p∈([]:List (Addr×Obj)) from hp) (by simp),I.hok.kept hk,?_⟩
 ·by_cases hix:i<xs.length
  ·have z:(nones xs++yN js Z)[i]?=some none:=by
    rw [List.getElem?_append_left (by unfold nones;rw [List.length_map];exact hix)]
    unfold nones
    rw [List.getElem?_map,List.getElem?_eq_getElem hix];rfl
   rw [z] at e2;cases e2
  ·obtain⟨k,rfl⟩:∃ k,i=xs.length+k:=⟨i-xs.length,by omega⟩
   have e1':ys[k]?=some y:=by
    have e1:(xs++ys)[xs.length+k]?=some y:=e1
    rw [List.getElem?_append_right (by omega),Nat.add_sub_cancel_left] at e1;exact e1
   have e2':(yN js Z)[k]?=some (some v):=by
    rw [List.getElem?_append_right (by unfold nones;rw [List.length_map];omega)] at e2
    unfold nones at e2
    rw [List.length_map,Nat.add_sub_cancel_left] at e2;exact e2
   obtain⟨j,hj,hσ⟩:=V3 e2'
   have hN:X.N[j]?=some y:=by
    have z:=congrArg (fun l=>l[k]?) S.caps
    simp only [List.getElem?_map,hj,e1',Option.map_some] at z
    exact Option.some.inj z
   have hfr:=S.fr y (List.mem_of_getElem? e1')
   have m:(y,NameKind.free)∈scope.names:=PySem.mem_of_lookup hfr
   have hkind:=S.free _ m rfl
   obtain⟨m',hns,hl⟩:=I.loc
   obtain⟨u,r,lk⟩:=hl j y v hN hσ (by rcases hkind with z | z;exact .inr (.inl z);exact .inr (.inr z))
   refine⟨u,r,.inr ⟨?_,?_⟩⟩
   ·have e3':(relabel scope X.env).names.lookup y=some .local\/(relabel scope X.env).names.lookup y=some .cell\/(relabel scope X.env).names.lookup y=some .free:=e3
    rcases e3' with z | z | z
    ·rcases yo z with q | ⟨q,_⟩
     ·rw [hfr] at q;cases q
     ·cases q
    ·exact .inl z
    ·exact .inr z
   ·obtain⟨c,hc⟩:=has y hfr
    refine⟨c,hc,?_⟩
    rcases lk with ⟨z,_⟩ | ⟨_,c',hc',cell⟩
    ·rcases hkind with q | q
     ·have q':X.env.kindOf y=some .cell:=q
      rw [show X.env.kindOf y=some .local from z] at q';cases q'
     ·have q':X.env.kindOf y=some .free:=q
      rw [show X.env.kindOf y=some .local from z] at q';cases q'
    ·rw [sub y c hc] at hc'
     cases hc'
     obtain⟨o,e,d⟩:=cell
     exact⟨o,hk _ _ e,d⟩
 ·obtain⟨v,o,e',d⟩:=I.cell y c (sub y c e)
  exact⟨v,o,hk _ _ e',d⟩
 ·have z:=congrArg List.length S.caps
  simp only [List.length_map] at z
  show (nones xs++yN js Z).length=(xs++ys).length
  simp [yN,nones,z]
end
section
variable {prog:Program} {w:World} {A:Around} {R:Result->Shared->Prop} {s:Shared}
theorem zcy {elt target iter:Expr} {ifs:List Expr} {scope:Scope} {pos:Pos} {it acc:Value} {env:Env} {N:Value->Shared->Prop} (hN:N=notedBy (model prog w) A env fun e s'=>R (.error e) s') (I:Nat->Shared->Prop)
  (turn:∀ n s,I n s->wpAny (model prog w) A (pyNext it) (fun r s₁=>match r with
   | none=>R (.ok .next) s₁
   | some v=>wpAny (model prog w) A (letOwnedTupleGo target it v) (fun _ s₅=>wpAny (model prog w) A (assign target env v) (fun _ s₂ =>
     wpAny (model prog w) A (forIn ifs true fun c r=>if r=true then do let ok <- isTrue c env (eval c env);pure (ForInStep.yield ok) else pure (ForInStep.yield r)) (fun ok s₃=>if ok=true then wpAny (model prog w) A (eval elt env) (fun x s₄=>wpAny (model prog w) A (call (.builtin "list.append") [acc,x]) (fun _ s₅=>∃ m,m<n/\I m s₅) N s₄) N s₃ else ∃ m,m<n/\I m s₃) N s₂) N s₅) N s₁) N s)
  (n:Nat) (h:I n s):codeAny (model prog w) A (.compLoop (.ListComp elt [⟨target,iter,ifs,0⟩] scope pos) 0 it acc env) R s:=by
 subst hN
 refine codeAny_loop rfl I (fun n s hI=>?_) n h
 show wpAny _ A ((compTurn (.ListComp elt [⟨target,iter,ifs,0⟩] scope pos) 0 it acc env).onRaise (fun x=>do noteFrame x env;theTreesLotGoes x)) _ _ s
 rw [compTurn_list]
 refine wpAny_noted (wpAny_bind (wpAny_standAt (wpAny_bind (wpAny_mono (turn n s hI) (fun r s₁ h₁=>?_) fun _ _ h'=>h'))))
 cases r with
 | none=>exact wpAny_pure h₁
 | some v =>
  refine wpAny_bind (wpAny_mono h₁ (fun _ s₅ h₅=>wpAny_bind (wpAny_mono h₅ (fun _ s₂ h₂=>wpAny_bind (wpAny_mono h₂ (fun ok s₃ h₃=>?_) fun _ _ h'=>h')) fun _ _ h'=>h')) fun _ _ h'=>h')
  cases ok with
  | false=>exact wpAny_pure ⟨rfl,h₃⟩
  | true=>exact wpAny_bind (wpAny_bind (wpAny_mono h₃ (fun x s₄ h₄=>wpAny_bind (wpAny_mono h₄ (fun _ s₆ h₆=>wpAny_pure (wpAny_pure ⟨rfl,h₆⟩)) fun _ _ h'=>h')) fun _ _ h'=>h'))
end
def Qn (J:It) (xs:List Str) (js:List Nat) (g:TG) (tt:TT) (te:TE) (Z:St) (Q:VK) (H:Hp):Prop:=∃ W:Nat->Nat->List V->Hp->Prop,(∃ m,W 0 m [] H)/\∀ i m ys H,W i m ys H ->
 (J.stop i H/\∀ D,H D=none->Q (.ref D) (upd H D (.lst ys))) \/
 (J.go i H/\ys.length<sizeLine/\∃ N:List V->Hp->Prop,(∀ ys' H',N ys' H'->∃ m',m'<m/\W (i+1) m' ys' H')/\∀ x H',J.yld i H x H'->g x (nones xs++yN js Z) H' fun σ' H1=>(∃ vs:St,vs.length=xs.length/\σ'=vs++yN js Z)/\tt σ' H1 fun b H2=>if b=true then te σ' H2 fun v H3=>N (ys++[v]) H3 else N ys H2)
def zfR (wi:TI) (xs:List Str) (js:List Nat) (g:TG) (tt:TT) (te:TE):TE:=fun Z H Q=>wi Z H fun J H1=>Qn J xs js g tt te Z Q H1
section
variable {X:Cx} {elt iter:Expr} {ifs:List Expr} {tg:Expr} {xs:List Str} {pos:Pos} {g:TG} {scope:Scope} {ys:List Str} {js:List Nat} {wi:TI} {tt:TT} {te:TE}
theorem JZ {pins:List (Addr×Obj)} {Z:St} {H:Hp} {s:Shared} {J:It} {fp:List Addr} {it:Addr} {tn:Nat->Heap->Prop} {Q:VK} {E:Value->Shared->Prop} {R:Value->Addr->Result->Shared->Prop}
  (S:Vq X.env.scope scope xs X.N ys js) (hc:X.calm=true) (hg:∀ C s₀ H₀ ex,PG (cxC X (xs++ys) scope C s₀ H₀ ex) tg g) (ht:∀ C s₀ H₀ ex,PTs (cxC X (xs++ys) scope C s₀ H₀ ex) ifs tt) (he:∀ C s₀ H₀ ex,PE (cxC X (xs++ys) scope C s₀ H₀ ex) elt te)
  (I:Inv X pins Z H s) (T:Turn X.prog X.w X.K tg J fp it tn) (st:tn 0 s.heap) (hf:∀ b∈fp,Yl X pins H b)
  (hw:∃ W:Nat->Nat->List V->Hp->Prop,(∃ m,W 0 m [] H)/\∀ i m zs H,W i m zs H ->
   (J.stop i H/\∀ D,H D=none->Q (.ref D) (upd H D (.lst zs))) \/
   (J.go i H/\zs.length<sizeLine/\∃ N:List V->Hp->Prop,(∀ ys' H',N ys' H'->∃ m',m'<m/\W (i+1) m' ys' H')/\∀ x H',J.yld i H x H'->g x (nones xs++yN js Z) H' fun σ' H1=>(∃ vs:St,vs.length=xs.length/\σ'=vs++yN js Z)/\tt σ' H1 fun b H2=>if b=true then te σ' H2 fun v H3=>N (zs++[v]) H3 else N zs H2))
  (hR:∀ D C s' H' m',Inv X pins Z H' s'->Q (.ref D) H'->s.heap.objs.size<=C->H' C=none->s'.heap.Ns C m'->R (.ref D) C (.ok .next) s') :
  wpAny (model X.prog X.w) X.A (newList []) (fun acc s₃=>wpAny (model X.prog X.w) X.A (newFunctionEnv scope X.env.globals (yf X.env.cells scope.names []) [] X.env.qual none .none (some X.env)) (fun cenv s₄ =>
   codeAny (model X.prog X.w) X.A (.compStart (.ListComp elt [⟨tg,iter,ifs,0⟩] scope pos) 0 (.ref it) acc { cenv with scope:=relabel scope X.env }) (R acc cenv.locals) s₄) E s₃) E s:=by
 obtain⟨W,⟨m0,w0⟩,turn⟩:=hw
 refine wpAny_newObj_type (wpAny_newFunctionEnv S.cell (by intro y hy;simp at hy) (fun h₁ hns₁ hsb₁=>?_) S.kind)
 dsimp only at hns₁ hsb₁ ⊢
 generalize hH2:s.heap.push { cls:=.type "list",dict:=none,data:=.seq ([]:List Value).toArray }=G at hns₁ hsb₁ ⊢
 generalize hD:s.heap.objs.size=D at *
 generalize hCe:G.objs.size=C at *
 have hC:C=D+1:=by rw [<- hCe,<- hH2,Heap.size_push,hD]
 have hDlt:D<C:=by rw [hC];exact Nat.lt_succ_self D
 have hDC:D≠C:=Nat.ne_of_lt hDlt
 have old:∀ b o,s.heap.get? b=some o->h₁.get? b=some o:=fun b o e=>by
  have hb:b<D:=hD▸Heap.lt_size e
  exact (hsb₁.2 b (Nat.ne_of_lt (Nat.lt_trans hb hDlt))).trans (Heap.get?_push_of_some _ (hH2▸Heap.get?_push_of_some _ e))
 have hacc:h₁.get? D=some { cls:=.type "list",data:=.seq ([]:List Value).toArray 0 }:=by
  refine (hsb₁.2 D hDC).trans (Heap.get?_push_of_some _ ?_)
  rw [<- hH2,<- hD]
  exact Heap.get?_push_size _ rfl
 have obj0:=T.obj 0 _ st
 have fplt:∀ b∈fp,b<D:=fun b hb=>by obtain⟨o,e,_⟩:=obj0 b hb;exact hD▸Heap.lt_size e
 generalize hX:cxC X (xs++ys) scope C s H fp=X'
 have I1:Inv X' [] (nones xs++yN js Z) H { s with heap:=h₁,toks:=s.toks+([]:List (Str×Value)).length }:=by
  subst hX
  exact zcD I S hf (fun b hb=>by obtain⟨o,e,_⟩:=obj0 b hb;exact⟨o,e⟩) (by omega) old (by simpa using hns₁)
 have eP:X'.prog=X.prog:=by subst hX;rfl
 have eW:X'.w=X.w:=by subst hX;rfl
 have eK:X'.K=X.K:=by subst hX;rfl
 have eA:X'.A=X.A:=by subst hX;rfl
 have eC:X'.calm=true:=by subst hX;exact hc
 have eL:X'.env.locals=C:=by subst hX;rfl
 have eS:X'.s₀=s:=by subst hX;rfl
 have eN:X'.N=xs++ys:=by subst hX;rfl
 have eE:X'.env=compEnvC scope (yf X.env.cells scope.names []) C X.env:=by subst hX;rfl
 have eXe:X'.xe=fun _ _=>False:=by subst hX;rfl
 have eX:X'.ex=fp:=by subst hX;rfl
 have ePn:X'.pn=[]:=by subst hX;rfl
 have efs:∀ b,b∈X'.fs->b∈frs X.stack:=fun b z=>by subst hX;exact z
 have cellLt:∀ y c,X'.env.cells.lookup y=some c->c<D:=fun y c e=>by
  have e':(yf X.env.cells scope.names []).lookup y=some c:=by rw [eE] at e;exact e
  obtain⟨v,o,e2,_⟩:=I.cell y c (xV (fun _ _ z=>by simp at z) e')
  exact hD▸Heap.lt_size e2
 have frLt:∀ b,b∈X'.fs->b<D:=fun b z=>by
  rcases List.mem_cons.mp (I.stkSub b (efs b z)) with e | e
  ·rw [e];exact hD▸I.lt
  ·exact Nat.lt_of_not_le fun h=>I.nofs (hD▸h) e
 have fpOk:∀ (p:List (Addr×Obj)) (H':Hp),(∀ b∈fp,H' b=none)->(∀ q∈p,q.1=D)->∀ b∈fp,Yl X' p H' b:=fun p H' hn hp b hb=>by
  refine⟨hn b hb,?_,fun z=>?_,.inl (eX▸hb),fun y c e=>?_,fun q hq=>?_⟩
  ·rw [eL];exact Nat.ne_of_lt (Nat.lt_trans (fplt b hb) hDlt)
  ·rcases List.mem_cons.mp (I.stkSub b (efs b z)) with e | e
   ·exact (hf b hb).2.1 e
   ·exact (hf b hb).2.2.1 e
  ·have e':(yf X.env.cells scope.names []).lookup y=some c:=by rw [eE] at e;exact e
   exact (hf b hb).2.2.2.2.1 y c (xV (fun _ _ z=>by simp at z) e')
  ·rw [ePn,List.nil_append] at hq
   rw [hp q hq];exact Nat.ne_of_gt (fplt b hb)
 have noCell:∀ (its:List Value) (k:Nat) v,({ cls:=.type "list",data:=.seq its.toArray k }:Obj).data≠.cell v:=fun its k v z=>by cases z
 have done:∀ {zs:List V} {its:List Value} {k:Nat} {H':Hp} {s':Shared},Inv X' [] (nones xs++yN js Z) H' s'->s'.heap.get? D=some { cls:=.type "list",data:=.seq its.toArray k }->Vals zs its->H' D=none->zs.length<=sizeLine ->
   (∀ D,H' D=none->Q (.ref D) (upd H' D (.lst zs)))->R (.ref D) C (.ok .next) s':=fun {zs its k H' s'} I' hd hv hn hz q=>by
  have un:=I'.base
  obtain⟨m',hns,_⟩:=I'.loc
  rw [eL] at hns
  have hCn:H' C=none:=by have:=I'.free;rw [eL] at this;exact this
  have hH0:X'.H₀=H:=by subst hX;rfl
  rw [hH0,eS,eX] at un
  have un2:Un (frs X.stack) fp H (upd H' D (.lst zs)) s.heap s'.heap:=by
   have ne:∀ b o,s.heap.get? b=some o->b≠D:=fun b o e=>Nat.ne_of_lt (hD▸Heap.lt_size e)
   have un':Un (frs X.stack) fp H H' s.heap s'.heap:=by subst hX;exact un
   exact⟨un'.keep,un'.slot,fun b o e n hx=>by rw [zx (ne b o e)];exact un'.free b o e n hx,un'.there,fun b xs e=>by rw [zx (zF (un'.tups b xs e) hn)];exact un'.tups b xs e,
    fun b o u e=>by rw [zx (zF (un'.frzs b o u e) hn)];exact un'.frzs b o u e,fun b ps e=>by
     obtain⟨more,z⟩:=un'.tbls b ps e
     exact⟨more,by rw [zx (zF z hn)];exact z⟩⟩
  have hok:HOk X.prog X.w (upd H' D (.lst zs)) s'.heap:=by
   have h0:=I'.hok
   rw [eP,eW] at h0
   exact h0.track hn ⟨hz,its,k,hv,hd⟩
  have I2:Inv X pins Z (upd H' D (.lst zs)) s':=I.call' (by have:=I'.os;rw [eS] at this;exact this) un2 hok I'.bare fun b hb=>⟨(hf b hb).2.2.2.1,(hf b hb).2.1,(hf b hb).2.2.2.2.1,(hf b hb).2.2.2.2.2⟩
  exact hR D C s' _ m' I2 (q D hn) (by omega) (by rw [zx (Ne.symm hDC)];exact hCn) hns
 have loop:codeAny (model X.prog X.w) X.A (.compLoop (.ListComp elt [⟨tg,iter,ifs,0⟩] scope pos) 0 (.ref it) (.ref D) X'.env) (R (.ref D) C) { s with heap:=h₁,toks:=s.toks+([]:List (Str×Value)).length }:=by
  refine zcy rfl (fun n s'=>∃ i zs its k H',Inv X' [] (nones xs++yN js Z) H' s'/\tn i s'.heap/\(∀ b∈fp,H' b=none)/\s'.heap.get? D=some { cls:=.type "list",data:=.seq its.toArray k }/\Vals zs its/\H' D=none/\zs.length<=sizeLine/\W i n zs H')
   ?_ m0 ⟨0,[],[],0,H,I1,T.keep _ _ _ st (fun b hb o e=>old b o e),fun b hb=>(hf b hb).1,hacc,.nil,I.hok.fresh (by omega),Nat.zero_le _,w0⟩
  rintro n s3 ⟨i,zs,its,k,H3,I3,st3,fr3,d3,v3,n3,z3,w3⟩
  have pinD:Inv X' [(D,{ cls:=.type "list",data:=.seq its.toArray k })] (nones xs++yN js Z) H3 s3:=I3.pins_of fun p hp=>by
   have e:p=(D,{ cls:=.type "list",data:=.seq its.toArray k }):=by simpa using hp
   subst e
   exact⟨d3,n3,by rw [eL];exact hDC,fun z=>Nat.lt_irrefl _ (frLt D z),noCell its k⟩
  have hpD:∀ q∈[(D,({ cls:=.type "list",data:=.seq its.toArray k }:Obj))],q.1=D:=fun q hq=>by
   have e:q=(D,{ cls:=.type "list",data:=.seq its.toArray k }):=by simpa using hq
   rw [e]
  rcases turn i n zs H3 w3 with ⟨stop,qn⟩ | ⟨go,hzl,NN,hNN,step⟩
  ·refine thn (eA▸T.done X' eP eW eK eC i _ s3 _ H3 _ pinD (fpOk _ _ fr3 hpD) st3 stop) fun r s4 ⟨hr,I4⟩=>?_
   subst hr
   exact done (I4.pins_of fun p hp=>absurd hp (by simp)) (I4.pin (D,{ cls:=.type "list",data:=.seq its.toArray k }) (List.mem_append_right _ (by simp))).1 v3 n3 z3 qn
  ·refine thn (eA▸T.item X' eP eW eK eC i _ s3 _ H3 _ pinD (fpOk _ _ fr3 hpD) st3 go) fun r s4 ⟨u,hr,h4⟩=>?_
   subst hr
   refine thn h4 fun _ s4 ⟨v,H5,I5,r5,y5,st5,fr5⟩=>?_
   have I5':=I5.pinned (fpOk _ _ fr5 hpD) (T.obj _ _ st5)
   have ev:∀ {α:Type} {t:Sem α} {Q':α->Shared->Prop} {E':Value->Shared->Prop} {s':Shared},wpAny (model X'.prog X'.w) X'.A t Q' X'.xe s'->wpAny (model X.prog X.w) X.A t Q' E' s':=fun {α t Q' E' s'} hh=>by
    rw [eP,eW,eA,eXe] at hh
    exact wpAny_mono hh (fun _ _ q=>q) fun _ _ z=>z.elim
   have hgg:PG X' tg g:=hX▸hg C s H fp
   refine ev (thn (hgg _ s4 _ H5 v u _ I5' r5 (step v H5 y5)) fun _ s6 ⟨σ6,H6,I6,⟨vs6,hvl,e6⟩,q6⟩=>?_)
   subst e6
   have back:∀ {σ':St} {H7:Hp} {s7:Shared},Inv X' ([(D,{ cls:=.type "list",data:=.seq its.toArray k })]++Zc fp s4.heap) (vs6++yN js Z) H7 s7->Inv X' [] (nones xs++yN js Z) H7 s7:=fun {_ H7 s7} I7=>by
    refine (I7.pins_of fun p hp=>absurd hp (by simp)).weak (by rw [List.length_append,List.length_append,hvl];unfold nones;rw [List.length_map]) fun i v' e=>?_
    by_cases hix:i<xs.length
    ·have z:(nones xs++yN js Z)[i]?=some none:=by
      rw [List.getElem?_append_left (by unfold nones;rw [List.length_map];exact hix)]
      unfold nones
      rw [List.getElem?_map,List.getElem?_eq_getElem hix];rfl
     rw [z] at e;cases e
    ·have hn:(nones xs).length=xs.length:=by unfold nones;rw [List.length_map]
     rw [List.getElem?_append_right (by omega),hn] at e
     rw [List.getElem?_append_right (by omega),hvl]
     exact e
   have fps:∀ {σ':St} {H7:Hp} {s7:Shared},Inv X' ([(D,{ cls:=.type "list",data:=.seq its.toArray k })]++Zc fp s4.heap) σ' H7 s7->(∀ b∈fp,H7 b=none)/\(∀ b∈fp,∀ o,s4.heap.get? b=some o->s7.heap.get? b=some o)/\s7.heap.get? D=some { cls:=.type "list",data:=.seq its.toArray k }/\H7 D=none:=fun {σ' H7 s7} I7=>by
    have g:∀ b∈fp,∀ o,s4.heap.get? b=some o->s7.heap.get? b=some o/\H7 b=none:=fun b hb o e=>by
     have z:=I7.pin (b,o) (List.mem_append_right _ (List.mem_append_right _ (jm hb e)))
     exact⟨z.1,z.2.1⟩
    refine⟨fun b hb=>?_,fun b hb o e=>(g b hb o e).1,(I7.pin (D,{ cls:=.type "list",data:=.seq its.toArray k }) (List.mem_append_right _ (by simp))).1,(I7.pin (D,{ cls:=.type "list",data:=.seq its.toArray k }) (List.mem_append_right _ (by simp))).2.1⟩
    obtain⟨o,e,_⟩:=T.obj _ _ st5 b hb
    exact (g b hb o e).2
   have hte:PTs X' ifs tt:=hX▸ht C s H fp
   have hee:PE X' elt te:=hX▸he C s H fp
   refine ev (thn (hte _ s6 _ H6 _ I6 q6) fun b s7 ⟨H7,I7,q7⟩=>?_)
   cases b with
   | false =>
    rw [if_neg Bool.false_ne_true]
    rw [if_neg Bool.false_ne_true] at q7
    obtain⟨m',hm,w7⟩:=hNN _ _ q7
    obtain⟨g1,g2,g3,g4⟩:=fps I7
    exact⟨m',hm,i+1,zs,its,k,H7,back (σ':=[]) I7,T.keep _ _ _ st5 g2,g1,g3,v3,g4,z3,w7⟩
   | true =>
    rw [if_pos rfl]
    rw [if_pos rfl] at q7
    refine ev (thn (hee _ s7 _ H7 _ I7 q7) fun u8 s8 ⟨v8,H8,I8,r8,q8⟩=>?_)
    obtain⟨m',hm,w8⟩:=hNN _ _ q8
    obtain⟨g1,g2,g3,g4⟩:=fps I8
    have hil:=v3.length
    refine call_meets F.slot_list_append ⟨_,g3,rfl⟩ F.entry_list_append (F.args_list_append_2 _ _) (PySem.list_append D its.toArray k u8 (by rw [List.size_toArray];omega)) ⟨g3,?_⟩
    have q:=PySem.IsL.update g3 (fun a=>a.push u8)
    have ea:its.toArray.push u8=(its++[u8]).toArray:=by simp
    rw [ea] at q
    have kk:∀ b o,b≠D->s8.heap.get? b=some o->(s8.heap.update D (Obj.mapSeq fun a=>a.push u8)).get? b=some o:=fun b o hb e=>(Heap.get?_update_other _ _ (Ne.symm hb)).trans e
    have I9:Inv X' [] (nones xs++yN js Z) H8 { s8 with heap:=s8.heap.update D (Obj.mapSeq fun a=>a.push u8),toks:=s8.toks }:=by
     refine (back (σ':=[]) I8).turned kk g4 (by rw [eL];exact hDC) (.inr (by rw [eS];omega)) (fun y c e=>Nat.ne_of_lt (cellLt y c e)) fun p hp=>?_
     rw [ePn] at hp
     exact absurd hp (by simp)
    refine⟨m',hm,i+1,zs++[v8],its++[u8],_,H8,I9,T.keep _ _ _ st5 (fun b hb o e=>kk b o (Nat.ne_of_lt (fplt b hb)) (g2 b hb o e)),g1,q,v3.append (.cons r8 .nil),g4,?_,w8⟩
    rw [List.length_append,List.length_singleton]
    omega
 rw [eE] at loop
 exact codeAny_compStart_list loop (T.self _ 0 _ _ _ (T.keep _ _ _ st (fun b hb o e=>old b o e)) loop)
theorem zcR (S:Vq X.env.scope scope xs X.N ys js) (hc:X.calm=true) (hi:PI X tg iter wi) (hg:∀ C s₀ H₀ ex,PG (cxC X (xs++ys) scope C s₀ H₀ ex) tg g) (ht:∀ C s₀ H₀ ex,PTs (cxC X (xs++ys) scope C s₀ H₀ ex) ifs tt) (he:∀ C s₀ H₀ ex,PE (cxC X (xs++ys) scope C s₀ H₀ ex) elt te)
  (hs:∀ x,foldedSetIterable iter X.env x=pure x:=by intro _;rfl):PE X (.ListComp elt [⟨tg,iter,ifs,0⟩] scope pos) (zfR wi xs js g tt te):=by
 intro pins s Z H Q I h
 rw [eval_ListComp]
 refine wpAny_comprehension_free (use:=none) rfl hs (qd fun y hy e=>I.ok.has _ (S.free y hy e)) S.kind S.loc (thn (hi pins s Z H _ I h) fun v s1 h1=>thn h1 fun itv s2 h2=>?_)
 obtain⟨it,fp,tn,J,H2,e,I2,T,st2,f2,hw⟩:=h2
 subst e
 refine JZ (Q:=Q) (R:=fun acc C=>compPost (model X.prog X.w) X.A X.xe none (EP X pins Z Q) acc C) S hc hg ht he I2 T st2 f2 hw ?_
 intro D C s' H' m' I' q hC hn hns
 refine⟨m',hns,fun h' hs'=>⟨.ref D,H',?_,rfl,q⟩⟩
 have e:=I2.fpOk hC hn
 exact I'.turned (t':=s'.toks) (fun b o hb e=>(hs'.2 b hb).trans e) hn e.2.1 e.2.2.2.1 e.2.2.2.2.1 e.2.2.2.2.2
end
theorem zbl {K:W.Frag} {a:Addr} {xs:List V} {ns:List Str} {js:List Nat} {g:TG} {tt:TT} {te:TE} {Z:St} {H:Hp} {Q:VK} (Pv:Nat->List V->Hp->Prop) (h0:Pv 0 [] H) (hl:∀ i ys H,i<=xs.length->Pv i ys H->SqL K H a xs)
  (hs:∀ i x ys H,xs[i]?=some x->Pv i ys H->ys.length<sizeLine/\g x (nones ns++yN js Z) H fun σ' H1=>(∃ vs:St,vs.length=ns.length/\σ'=vs++yN js Z)/\tt σ' H1 fun b H2=>if b=true then te σ' H2 fun v H3=>Pv (i+1) (ys++[v]) H3 else Pv (i+1) ys H2)
  (hd:∀ ys H,Pv xs.length ys H->∀ D,H D=none->Q (.ref D) (upd H D (.lst ys))) :
  Qn (Itl K a) ns js g tt te Z Q H:=by
 refine⟨fun i m ys H=>m=xs.length-i/\i<=xs.length/\Pv i ys H,⟨xs.length,by simp,Nat.zero_le _,h0⟩,?_⟩
 rintro i m ys H ⟨rfl,hi,p⟩
 have q:=hl i ys H hi p
 by_cases hlt:i<xs.length
 ·have hx:xs[i]?=some xs[i]:=List.getElem?_eq_getElem hlt
  obtain⟨hz,hst⟩:=hs i xs[i] ys H hx p
  refine .inr ⟨⟨xs,xs[i],q,hx⟩,hz,Pv (i+1),fun ys' H' p'=>⟨xs.length-(i+1),by omega,rfl,hlt,p'⟩,fun x H' y=>?_⟩
  obtain⟨e,y⟩:=y
  subst e
  have e2:=y xs q
  rw [hx] at e2
  cases e2
  exact hst
 ·have e:i=xs.length:=by omega
  subst e
  exact .inl ⟨⟨xs,q,Nat.le_refl _⟩,hd ys H p⟩
theorem zfF {X:Cx} (K:W.Frag) {es:List Expr} {k:Nat} {t:TGs} {pos:Pos} (n:Nat) (hc:X.calm=true) (h:PGs X es t) (e:X.K=K:=by rfl)
  (hn:(assignEach es X.env).length=n:=by rfl) (hst:(assignEach es X.env).findIdx? (·.1)=none:=by rfl):PG X (.Tuple es k pos) (zgm K n t):=by subst e;exact za1 hc h hn hst
theorem jC {X:Cx} (K:W.Frag) {e:Expr} {f:Str} {pos:Pos} {ta:TE} (he:PE X e ta) (hb:attributeBase e f X.env (eval e X.env)=eval e X.env:=by rfl) (ek:X.K=K:=by rfl):PE X (.Attribute e f pos) (zge K ta f):=by subst ek;exact zfo he hb
structure Mt (K:W.Frag) (C:Addr) (q x:Str) (st:Stmt) (ps:List Str) (f:Addr) (fd:FuncData):Prop where
 fn:Fun K x q st f fd
 b:Binds K fd ps []
 m:Meth K C x f
theorem jt {X:Cx} {C:Addr} {q x:Str} {st:Stmt} {ps:List Str} {f:Addr} {fd:FuncData} {k:Nat} {sp:Sp} {o e:Expr} {es:List Expr} {ta:TE} {t:TA} {apos pos:Pos} {pl:Sem Bool} (D:Mt X.K C q x st ps f fd) (c:Cls X.K C) (G:FnOk X.prog X.w X.K X.mg X.base CX0 k f fd ps sp) (hr:Room k X.A) (he:PE X o ta) (ha:PA X (e :: es) t)
  (hst:starEach (e :: es) X.env=(false,eval e X.env) :: starEach es X.env:=by rfl) (hpl:(backTo pos (starEach es X.env)).any (·.1)=false:=by rfl)
  (ht:eval (.Call (.Attribute o x apos) (e :: es) [] pos) X.env=(do
   let ov <- eval o X.env
   standAt apos.atName
   let (f,first) <- holding [ov] (getMethod ov x pl)
   callWith pos f first (backTo pos (starEach (e :: es) X.env)) (backToKw pos (keywordEach [] X.env))):=by rfl):PE X (.Call (.Attribute o x apos) (e :: es) [] pos) (zb3 C x sp [] E0 ta t) :=
 zeI he c D.m G hr D.b .nil Qm ha hst hpl ht
theorem zfq {X:Cx} {C:Addr} {q x:Str} {st:Stmt} {ps:List Str} {f:Addr} {fd:FuncData} {k:Nat} {sp:Sp} {o:Expr} {ta:TE} {apos pos:Pos} {pl:Sem Bool} (D:Mt X.K C q x st ps f fd) (c:Cls X.K C) (G:FnOk X.prog X.w X.K X.mg X.base CX0 k f fd ps sp) (hr:Room k X.A) (he:PE X o ta)
  (ht:eval (.Call (.Attribute o x apos) [] [] pos) X.env=(do
   let ov <- eval o X.env
   standAt apos.atName
   let (f,first) <- holding [ov] (getMethod ov x pl)
   callWith pos f first (backTo pos (starEach [] X.env)) (backToKw pos (keywordEach [] X.env))):=by rfl):PE X (.Call (.Attribute o x apos) [] [] pos) (zb3 C x sp [] E0 ta JS) :=
 zcU he c D.m G hr D.b .nil Qm ht
structure Vf (mg:Str->Option Value):Prop where
 n_sum:mg "sum" = none
 n_abs:mg "abs" = none
 n_zip:mg "zip" = none
 n_str:mg "str" = none
theorem zdU {a:Int} (h:-1<=a):Builtin.Range.rangeSize a (-1) (-1)=a+1:=by
 unfold Builtin.Range.rangeSize
 rw [if_neg (by omega)]
 by_cases h1:-1<a
 ·rw [if_pos h1,show (a - -1-1)=a by omega,show (- -1:Int)=1 from rfl,Int.ediv_one]
 ·rw [if_neg h1]
  omega
theorem zeJ {a:Int} (h:-1<=a) (h2:a<=1000):Builtin.Range.small a (-1) (-1)=true:=by
 unfold Builtin.Range.small
 rw [zdU h]
 simp only [Builtin.Range.rangeFitsLong,Bool.and_eq_true,Bool.or_eq_true,decide_eq_true_eq,beq_iff_eq]
 first
  | omega
  | (simp;omega)
def zgw (ta:TA):TI:=fun Z H R=>ta Z H fun vs H1=>∃ i:Int,vs=[.int i,.int (-1),.int (-1)]/\-1<=i/\i<=1000/\R (zcC i (-1) (i+1).toNat) H1
section
variable {X:Cx} {tg:Expr}
theorem zcj {pins:List (Addr×Obj)} {Z:St} {H:Hp} {s:Shared} {R:It->Hp->Prop} {E:Value->Shared->Prop} {lo:Int} {t u v:Tok} {tk:Nat} (I:Inv X pins Z H s) (h1:-1<=lo) (h2:lo<=1000)
  (q:R (zcC lo (-1) (lo+1).toNat) H):wpAny (model X.prog X.w) X.A (pyIter (.ref s.heap.objs.size)) (PIE X pins Z tg R) E { s with heap:=s.heap.push { cls:=.type "range",data:=.fields #[.int lo t,.int (-1) u,.int (-1) v] },toks:=tk }:=by
 refine wpAny_pyIter_range (IsRange.new ..) (zeJ h1 h2) ?_
 have I1:Inv X pins Z H { s with heap:=s.heap.push { cls:=.type "range",data:=.fields #[.int lo t,.int (-1) u,.int (-1) v] },toks:=tk }:=I.kept fun b o e=>Heap.get?_push_of_some _ e
 refine⟨_,[(s.heap.push { cls:=.type "range",data:=.fields #[.int lo t,.int (-1) u,.int (-1) v] }).objs.size],_,_,H,rfl,
  I1.kept (t':=tk) fun b o e=>Heap.get?_push_of_some _ e,zak _ lo (-1) (lo+1).toNat,?_,fun b hb=>?_,q⟩
 ·have e1:lo+((0:Nat):Int)*(-1)=lo:=by simp
  have e2:(((lo+1).toNat:Nat):Int)-((0:Nat):Int)=Builtin.Range.rangeSize lo (-1) (-1):=by rw [zdU h1];omega
  show IsRangeIter _ _ (lo+((0:Nat):Int)*(-1)) ((((lo+1).toNat:Nat):Int)-((0:Nat):Int)) (-1)
  rw [e1,e2]
  exact Heap.get?_push_size _ rfl
 ·have e:b=(s.heap.push { cls:=.type "range",data:=.fields #[.int lo t,.int (-1) u,.int (-1) v] }).objs.size:=by simpa using hb
  subst e
  exact I1.fpOk (Nat.le_refl _) (I1.hok.fresh (Nat.le_refl _))
theorem zcp {a b d:Expr} {ta:TA} {p pos:Pos} (hg:Gl X "range") (hm:X.mg "range" = none) (ha:PA X [a,b,d] ta) (hs:starEach [a,b,d] X.env=[(false,eval a X.env),(false,eval b X.env),(false,eval d X.env)]:=by rfl) (hs2:starEach [b,d] X.env=[(false,eval b X.env),(false,eval d X.env)]:=by rfl) :
  PI X tg (.Call (.Name "range" p) [a,b,d] [] pos) (zgw ta):=by
 intro pins s Z H R I h
 refine Call_ (j9 I hg hm boot_range (PyProof.Rows.callWith_type1 (thn (ha pos pins s Z H _ I h) fun us s1 ⟨vs,H1,I1,r1,q1⟩=>?_) (by rw [hs,hs2]) (by rw [hs2];rfl)))
 obtain⟨i,e,q1,q2,q⟩:=q1
 subst e
 cases r1 with
 | cons r rr =>
  cases rr with
  | cons r' rr =>
   cases rr with
   | cons r'' rr =>
    cases rr
    obtain⟨t,rfl⟩:=r
    obtain⟨t',rfl⟩:=r'
    obtain⟨t'',rfl⟩:=r''
    exact call_range_3 (by omega) (zcj I1 q1 q2 q) (Or.inl (PyProof.noPylong_small (by omega)))
end
theorem Inv.turned2 {X:Cx} {pins:List (Addr×Obj)} {Z:St} {H:Hp} {s:Shared} {h':Heap} {e it T:Addr} {o:HO} {t':Nat} (I:Inv X pins Z H s) (k:∀ b o,b≠e->b≠it->s.heap.get? b=some o->h'.get? b=some o) (fe:Yl X pins H e) (fi:Yl X pins H it) (hT:s.heap.objs.size<=T)
  (new:ObjOk X.prog X.w (upd H T o) h' T o):Inv X pins Z (upd H T o) { s with heap:=h',toks:=t' }:=by
 have hn:H T=none:=I.hok.fresh hT
 have na:∀ b u,H b=some u->b≠T:=fun b u e z=>by rw [z,hn] at e;cases e
 have ne:∀ b u,H b=some u->b≠e:=fun b u q z=>by rw [z,fe.1] at q;cases q
 have ni:∀ b u,H b=some u->b≠it:=fun b u q z=>by rw [z,fi.1] at q;cases q
 have k':∀ b o,b∉[e,it]->s.heap.get? b=some o->h'.get? b=some o:=fun b o hb q=>k b o (fun z=>hb (by simp [z])) (fun z=>hb (by simp [z])) q
 refine I.step (g':=s.gens) (d':=s.drawn) (ch:=[e,it]) (fun b hb=>?_) (fun b o _ _ hc q _=>k' b o hc q) (fun b o _ _ hc q _=>⟨o.slots,k' b o hc q⟩) (fun b o hc q n=>by rw [zx (Nat.ne_of_lt (Nat.lt_of_lt_of_le (Heap.lt_size q) hT))];exact n)
  (fun b o hc q=>⟨o,k' b o hc q⟩) (fun b xs q=>by rw [zx (na b _ q)];exact q) (fun b o u q=>by rw [zx (na b _ q)];exact q) (fun b ps q=>⟨#[],by rw [zx (na b _ q),q];simp⟩) (fun m hm=>?_) (fun b u q=>?_) I.bare
 ·rcases List.mem_cons.mp hb with z | hb
  ·subst z;exact⟨fe.2.2.2.1,fe.2.1,fe.2.2.2.2.1,fe.2.2.2.2.2⟩
  ·have z:b=it:=by simpa using hb
   subst z;exact⟨fi.2.2.2.1,fi.2.1,fi.2.2.2.2.1,fi.2.2.2.2.2⟩
 ·obtain⟨o,es,ep,ho,r⟩:=hm
  exact⟨o,es,ep,k _ o (Ne.symm fe.2.1) (Ne.symm fi.2.1) ho,r⟩
 ·by_cases hb:b=T
  ·subst hb
   rw [zj] at q
   cases q
   exact new
  ·rw [zx hb] at q
   refine (I.hok b u q).stay (fun c v hc z=>k c v ?_ ?_ z) (fun c z=>by rw [zx (na c _ z)];exact z) fun c xs z=>by rw [zx (na c _ z)];exact z
   ·rcases hc with rfl | hc
    ·exact ne _ _ q
    ·exact ne _ _ hc
   ·rcases hc with rfl | hc
    ·exact ni _ _ q
    ·exact ni _ _ hc
def Ite (K:W.Frag) (a:Addr):It :=
 ⟨fun i H=>∃ xs x,SqL K H a xs/\xs[i]?=some x,fun i H v H'=>∃ T x,v=.ref T/\H T=none/\H'=upd H T (.tup [.int (i:Nat),x])/\∀ xs,SqL K H a xs->xs[i]?=some x,fun i H=>∃ xs,SqL K H a xs/\xs.length<=i⟩
theorem zb9 {P:Program} {w:World} {K:W.Frag} {elts:List Expr} {k:Nat} {tp:Pos} (a e it:Addr) (hei:e≠it):Turn P w K (.Tuple elts k tp) (Ite K a) [e,it] e (fun i h=>(∃ old,IsEnum h e it i old)/\h.IsListIter it a i) where
 mem:=by simp
 obj:=fun i h st b hb=>by
  obtain⟨⟨old,he⟩,o,hi,c,d⟩:=st
  rcases List.mem_cons.mp hb with z | hb
  ·subst z
   exact⟨_,he,fun v z=>by
    have z':Data.fields _=Data.cell v:=z
    cases z'⟩
  ·have z:b=it:=by simpa using hb
   subst z
   exact⟨o,hi,fun v z=>by rw [d] at z;cases z⟩
 keep:=fun i h h' st k=>by
  obtain⟨⟨old,he⟩,hi⟩:=st
  exact⟨⟨old,k e (by simp) _ he⟩,hi.at fun o q=>k it (by simp) o q⟩
 item:=by
  intro X hP hw hK hc i pins s Z H E I hf st hg
  subst hP hw hK
  obtain⟨xs,x,hq,hx⟩:=hg
  obtain⟨its,rv,p,hz⟩:=I.list hq
  obtain⟨u,hu,ru⟩:=rv.get hx
  obtain⟨⟨old,he⟩,hi⟩:=st
  refine wpAny_pyNext_enum_item he hi p.isList (x:=u) (by simpa using hu) hei fun h' ho hi' hT hsz hk=>?_
  refine⟨_,rfl,?_⟩
  refine wpAny_letOwnedTupleGo_enum (s:={ s with heap:=h',toks:=s.toks+1 }) ho fun h'' he' hs'=>?_
  have helt:e<s.heap.objs.size:=Heap.lt_size he
  have hT2:h''.get? s.heap.objs.size=some { cls:=.type "tuple",data:=.seq #[.int i s.toks,u] }:=(hs'.2 _ (Nat.ne_of_gt helt)).trans hT
  have fe:=hf e (by simp)
  have fi:=hf it (by simp)
  have I1:Inv X pins Z (upd H s.heap.objs.size (.tup [.int (i:Nat),x])) { s with heap:=h'',toks:=s.toks+1 }:=by
   refine I.turned2 (fun b o hb1 hb2 q=>(hs'.2 b hb1).trans (hk b o hb1 hb2 q)) fe fi (Nat.le_refl _) ⟨by show 2<=sizeLine;decide,[.int i s.toks,u],.cons ⟨_,rfl⟩ (.cons ru .nil),_,hT2,rfl,0,rfl⟩
  refine⟨.ref s.heap.objs.size,_,I1,rfl,⟨s.heap.objs.size,x,rfl,I.hok.fresh (Nat.le_refl _),rfl,fun ys hy=>by rw [I.list_inj hy hq];exact hx⟩,⟨⟨_,by simpa using he'⟩,hi'.at fun o q=>(hs'.2 it (Ne.symm hei)).trans q⟩,fun b hb=>?_⟩
  have hbl:b<s.heap.objs.size:=by
   rcases List.mem_cons.mp hb with z | hb
   ·rw [z];exact helt
   ·have z:b=it:=by simpa using hb
    obtain⟨o,q,_⟩:=hi
    rw [z];exact Heap.lt_size q
  rw [zx (Nat.ne_of_lt hbl)]
  exact (hf b hb).1
 done:=by
  intro X hP hw hK hc i pins s Z H E I hf st hg
  subst hP hw hK
  obtain⟨xs,hq,hx⟩:=hg
  obtain⟨its,rv,p,hz⟩:=I.list hq
  obtain⟨⟨old,he⟩,hi⟩:=st
  obtain⟨f0,f1,f2,f3,f4,f5⟩:=hf it (by simp)
  have hl:=rv.length
  exact wpAny_pyNext_enum_end (I.ok.hd hc) he hi p.isList (by simp;omega) fun h' eb=>⟨rfl,I.turned (t':=s.toks) (fun b o hb q=>eb b o hb q) f0 f1 f3 f4 f5⟩
 self:=fun _ _ _ _ _ st h=>by
  obtain⟨⟨old,he⟩,_⟩:=st
  exact wpAny_pyIter_enum he h
section
variable {X:Cx}
def zgo (K:W.Frag) (tl:TA):TI:=fun Z H R=>tl Z H fun vs H1=>∃ a,vs=[.ref a]/\(∃ xs,SqL K H1 a xs)/\R (Ite K a) H1
theorem zeT (K:W.Frag) {elts:List Expr} {k:Nat} {tp:Pos} {a:Expr} {ta:TA} {p pos:Pos} (hg:Gl X "enumerate") (hm:X.mg "enumerate" = none) (ha:PA X [a] ta) (hs:starEach [a] X.env=[(false,eval a X.env)]:=by rfl) (ek:X.K=K:=by rfl) :
  PI X (.Tuple elts k tp) (.Call (.Name "enumerate" p) [a] [] pos) (zgo K ta):=by
 subst ek
 intro pins s Z H R I h
 refine Call_ (j9 I hg hm boot_enumerate (PyProof.Rows.callWith_type1 (thn (ha pos pins s Z H _ I h) fun us s1 ⟨vs,H1,I1,r1,q1⟩=>?_) (by rw [hs];rfl) (by rfl)))
 obtain⟨l,e,⟨xs,hq⟩,q⟩:=q1
 subst e
 cases r1 with
 | cons r rr =>
  cases rr
  cases r
  obtain⟨its,rv,pl,hz⟩:=I1.list hq
  refine call_enumerate_list pl.isList fun h' he hi hsz hk=>?_
  refine wpAny_pyIter_enum (s:={ s1 with heap:=h' }) he ?_
  have I2:Inv X pins Z H1 { s1 with heap:=h' }:=I1.kept (t':=s1.toks) fun b o q=>hk b o q
  refine⟨s1.heap.objs.size+1,[s1.heap.objs.size+1,s1.heap.objs.size],_,_,H1,rfl,I2,zb9 l _ _ (Nat.succ_ne_self _),⟨⟨_,he⟩,hi⟩,fun b hb=>?_,q⟩
  have hb2:s1.heap.objs.size<=b:=by
   rcases List.mem_cons.mp hb with z | hb
   ·rw [z];exact Nat.le_succ _
   ·have z:b=s1.heap.objs.size:=by simpa using hb
    rw [z];exact Nat.le_refl _
  exact I1.fpOk hb2 (I1.hok.fresh hb2)
theorem zdZ {K:W.Frag} {a:Addr} {xs:List V} {g:TG} {tb:TS} {D:Ends} {Z:St} {H:Hp} (Pv:Nat->St->Hp->Prop) (h0:Pv 0 Z H) (hl:∀ i Z H,i<=xs.length->Pv i Z H->SqL K H a xs)
  (hs:∀ i x Z H T,xs[i]?=some x->Pv i Z H->H T=none->g (.ref T) Z (upd H T (.tup [.int (i:Nat),x])) fun σ2 H2=>tb { D with nx:=Pv (i+1),ct:=Pv (i+1),bk:=D.nx } σ2 H2) (hd:∀ Z H,Pv xs.length Z H->D.nx Z H) :
  ∃ W:Nat->Nat->St->Hp->Prop,(∃ m,W 0 m Z H)/\∀ i m Z H,W i m Z H ->
   ((Ite K a).stop i H/\D.nx Z H)\/((Ite K a).go i H/\∃ N:St->Hp->Prop,(∀ σ' H',N σ' H'->∃ m',m'<m/\W (i+1) m' σ' H')/\∀ x H',(Ite K a).yld i H x H'->g x Z H' fun σ2 H2=>tb { D with nx:=N,ct:=N,bk:=D.nx } σ2 H2):=by
 refine⟨fun i m Z H=>m=xs.length-i/\i<=xs.length/\Pv i Z H,⟨xs.length,by simp,Nat.zero_le _,h0⟩,?_⟩
 rintro i m Z H ⟨rfl,hi,p⟩
 have q:=hl i Z H hi p
 by_cases hlt:i<xs.length
 ·have hx:xs[i]?=some xs[i]:=List.getElem?_eq_getElem hlt
  refine .inr ⟨⟨xs,xs[i],q,hx⟩,Pv (i+1),fun σ' H' p'=>⟨xs.length-(i+1),by omega,rfl,hlt,p'⟩,fun v H' y=>?_⟩
  obtain⟨T,x,rfl,hT,rfl,hy⟩:=y
  have e2:=hy xs q
  rw [hx] at e2
  cases e2
  exact hs i xs[i] Z H T hx p hT
 ·have e:i=xs.length:=by omega
  subst e
  exact .inl ⟨⟨xs,q,Nat.le_refl _⟩,hd Z H p⟩
end
def Vy (c:Addr) (q:Str):HO:=.ext fun h=>h.CodeRec (.ref c) q
def zbJ (P:Addr) (pos:Pos) (q:Str) (H:Hp) (c:Addr):Prop:=H P=some (.tbl #[rawInt pos.line,rawInt pos.col,.ref c])/\H c=some (Vy c q)
def Xr (P:Addr) (pos:Pos) (q:Str) (H:Hp):Prop:=H P=some (.tbl #[])\/∃ c,zbJ P pos q H c
section
variable {P:Program} {w:World} {K:Frag} {mg:Str->Option Value} {base:Heap} {N ps:List Str} {k:Nat} {A:Around} {outer:List Env} {s:Shared} {H:Hp} {us:List Value} {vs:List V} {Q:VK} {E:XK} {f:Addr} {o:Obj}
 {name qual:Str} {params:Arguments} {body:Expr} {scope:Scope} {pm cdv ct:Value} {args:Args}
theorem zeC (ho:s.heap.get? f=some o) (hd:o.data=.func (kla_fn name qual params body scope [] pm cdv ct)) (hcd:s.heap.CodeRec cdv qual) (S:zE N ps scope) (hr:Room (k+1) A) (e0:Env0 P w K mg base A outer s H)
  (hb:BindsTo s (kla_fn name qual params body scope [] pm cdv ct) args (ps.zip us)) (hl:vs.length=ps.length) (r:Vals vs us)
  (hbody:∃ t,PE (YW CX0 P w K mg base N qual scope f cdv A outer s H E) body t/\t (start N vs) H Q):codeAny (model P w) A (.call (.ref f) args) (CR CX0 outer P w H s Q E) s:=by
 have lim:s.heap.NoLimit:=e0.mod.nolimit.keeps fun b o e=>(e0.bs b o e).1
 have hkind:∀ y∈ps.zip us,scope.names.lookup y.1=some .local\/(scope.names.lookup y.1=some .cell/\((cellsFrom (s.heap.objs.size+1) scope.names []).lookup y.1).isSome=true):=fun ⟨n,v⟩ hy=>by
  rcases S.par n (List.of_mem_zip hy).1 with q | q
  ·exact .inl q
  ·exact .inr ⟨q,W.cellsFrom_some _ _ _ (.inl q)⟩
 refine kla_callFunE hr.depth ho hd S.co S.gen rfl hcd (hb _ _ _ _ ?_)
 refine wpAny_newFunctionEnv_cells S.kind hkind fun env he s1 x=>?_
 subst he
 refine⟨lim.keeps x.toInCall.keep,kla_codeExpr ?_⟩
 obtain⟨t,ht,hq⟩:=hbody
 have I:Inv (YW CX0 P w K mg base N qual scope f cdv A outer s H E) [] (start N vs) H s1:=Qv S hr.hd e0 hl r x
 refine wpAny_mono (ht [] s1 (start N vs) H _ I hq) (fun u s' hs=>?_) fun e s' hs=>hs
 obtain⟨v,H',J,rv,q⟩:=hs
 exact⟨v,H',J.os,J.bare,J.base,J.hok,rv,q⟩
end
section
variable {X:Cx} {pins:List (Addr×Obj)} {Z:St} {H:Hp} {s:Shared} {params:Arguments} {body:Expr} {scope:Scope} {pos:Pos} {c P:Addr} {Q:Value->Shared->Prop}
theorem zdf (I:Inv X pins Z H s) (hdef:defaultsOf params X.env=([],[])) (hcl:closureFor scope X.env=pure []) (hcode:X.env.code=.ref c) (hK:codeHdIn X.K c P=true) (hB:X.base.BuiltinsAt X.mg P) (hgP:mainGlobals≠P)
  (hT:Xr P pos (X.env.qual ++ "<lambda>") H)
  (h:∀ (f c':Addr) (H':Hp) (s':Shared) (pm ct:Value),Inv X pins Z H' s'->zbJ P pos (X.env.qual ++ "<lambda>") H' c'->s'.heap.get? f=some (kla_obj "<lambda>" (X.env.qual ++ "<lambda>") params body scope [] pm c' ct)->H' f=none->s.heap.objs.size<=f ->
   (∀ b u,b≠P->H b=some u->H' b=some u)->Q (.ref f) s') :
  wpAny (model X.prog X.w) X.A (eval (.Lambda params body scope pos) X.env) Q X.xe s:=by
 have C:CodeHd s.heap c P:=codeHd_of_K I.kIn hK
 have hg:s.heap.Ns mainGlobals X.mg:=I.mod.glob.keeps I.bk
 have hb:s.heap.BuiltinsAt X.mg P:=by
  obtain⟨bm,o,b1,b2,b3,b4,b5,b6,b7,b8⟩:=hB
  exact⟨bm,o,b1,b2,b3,b4,I.bk _ _ b5,b6,b7,b8⟩
 refine kla_eval hdef ?_
 rcases hT with hP | ⟨c',hP,hc'⟩
 ·have hPo:s.heap.get? P=some (tabObj #[]):=I.hok P _ hP
  refine kla_makeFunction hcl I.ok.glob hg hcode C hPo (show TriplesOk [] from trivial) rfl hgP hb fun c' ct h' tk hx hge hlt hrec htb=>?_
  have htb':h'.get? P=some (tabObj #[rawInt pos.line,rawInt pos.col,.ref c']):=htb
  have hPc:P≠c':=fun z=>by
   have:=Heap.lt_size hPo
   rw [z] at this
   exact absurd (Nat.lt_of_lt_of_le this hge) (Nat.lt_irrefl _)
  have hHc:H c'=none:=I.hok.fresh hge
  have old:∀ b o,b≠P->s.heap.get? b=some o->(h'.push (kla_obj "<lambda>" (X.env.qual ++ "<lambda>") params body scope [] ((X.mg "__name__").getD .none) c' ct)).get? b=some o:=fun b o hb e=>Heap.get?_push_of_some _ (hx b o hb e)
  have nP:∀ b,H b=none->b≠P:=fun b n z=>by rw [z,hP] at n;cases n
  have up:∀ b u,b≠P->H b=some u->upd (upd H P (.tbl #[rawInt pos.line,rawInt pos.col,.ref c'])) c' (Vy c' (X.env.qual ++ "<lambda>")) b=some u:=fun b u hb e=>by
   rw [zx (fun z=>by rw [z,hHc] at e;cases e),zx hb];exact e
  have upn:∀ b,b≠P->b≠c'->H b=none->upd (upd H P (.tbl #[rawInt pos.line,rawInt pos.col,.ref c'])) c' (Vy c' (X.env.qual ++ "<lambda>")) b=none:=fun b h1 h2 e=>by
   rw [zx h2,zx h1];exact e
  have J:Inv X pins Z (upd (upd H P (.tbl #[rawInt pos.line,rawInt pos.col,.ref c'])) c' (Vy c' (X.env.qual ++ "<lambda>"))) { s with heap:=h'.push (kla_obj "<lambda>" (X.env.qual ++ "<lambda>") params body scope [] ((X.mg "__name__").getD .none) c' ct),toks:=tk }:=by
   refine I.un ⟨fun b o e n _ _=>old b o (nP b n) e,fun b o e n _ _=>⟨o.slots,old b o (nP b n) e⟩,fun b o e n _=>upn b (nP b n) (Nat.ne_of_lt (Nat.lt_of_lt_of_le (Heap.lt_size e) hge)) n,fun b o e _=>?_,fun b xs e=>up b _ (fun z=>by rw [z,hP] at e;cases e) e,fun b o u e=>up b _ (fun z=>by rw [z,hP] at e;cases e) e,fun b ps e=>?_⟩ ?_
   ·by_cases hb:b=P
    ·rw [hb];exact⟨_,Heap.get?_push_of_some _ htb'⟩
    ·exact⟨o,old b o hb e⟩
   ·by_cases hb:b=P
    ·rw [hb] at e ⊢
     rw [hP] at e
     cases e
     exact⟨#[rawInt pos.line,rawInt pos.col,.ref c'],by rw [zx hPc,zj];rfl⟩
    ·exact⟨#[],by rw [up b _ hb e];simp⟩
   ·intro b u e
    by_cases hbc:b=c'
    ·subst hbc
     rw [zj] at e
     cases e
     obtain⟨c2,oc,vs,t,e1,e2,e3,e4⟩:=id hrec
     cases e1
     have q:=Heap.get?_push_of_some (kla_obj "<lambda>" (X.env.qual ++ "<lambda>") params body scope [] ((X.mg "__name__").getD .none) b ct) e2
     refine⟨⟨b,oc,vs,t,rfl,q,e3,e4⟩,⟨oc,q⟩,fun h1 h2 ⟨c3,o3,v3,t3,a1,a2,a3,a4⟩ k=>?_⟩
     cases a1
     exact⟨b,o3,v3,t3,rfl,k _ a2,a3,a4⟩
    ·rw [zx hbc] at e
     by_cases hbP:b=P
     ·rw [hbP] at e ⊢
      rw [zj] at e
      cases e
      exact Heap.get?_push_of_some _ htb'
     ·rw [zx hbP] at e
      refine (I.hok b u e).stay (fun d v hd q=>old d v ?_ q) (fun d q=>?_) fun d xs q=>?_
      ·rcases hd with rfl | hd
       ·exact hbP
       ·intro z;rw [z,hP] at hd;cases hd
      ·exact up d _ (fun z=>by rw [z,hP] at q;cases q) q
      ·exact up d _ (fun z=>by rw [z,hP] at q;cases q) q
  have hsz:s.heap.objs.size<=h'.objs.size:=Nat.le_of_lt (Nat.lt_of_le_of_lt hge hlt)
  refine h _ c' _ _ _ ct J ⟨by rw [zx hPc,zj],zj⟩ (Heap.get?_push_size _ rfl) ?_ hsz up
  exact upn _ (Nat.ne_of_gt (Nat.lt_of_lt_of_le (Heap.lt_size hPo) hsz)) (Nat.ne_of_gt hlt) (I.hok.fresh hsz)
 ·have hPo:s.heap.get? P=some (tabObj #[rawInt pos.line,rawInt pos.col,.ref c']):=I.hok P _ hP
  refine kla_makeFunctionHit hcl I.ok.glob hg hcode C hPo (show TriplesOk [rawInt pos.line,rawInt pos.col,.ref c'] from trivial) (cv:=.ref c') ?_ hb fun ct h' tk hk hsz=>?_
  ·have:=codeAmong_snoc (pos:=pos) (c:=.ref c') [] trivial rfl
   exact this
  ·exact h _ c' H _ _ ct (I.kept (t':=tk) fun b u e=>Heap.get?_push_of_some _ (hk b u e)) ⟨hP,hc'⟩ (Heap.get?_push_size _ rfl) (I.hok.fresh hsz) hsz (fun b u _ e=>e)
end
end L2
namespace HT
def vP (a b:List Int):Bool:=if a.length=b.length then lexLt a b else decide (a.length<b.length)
theorem Q9 (a:List Int):vP a a=false:=by unfold vP;rw [if_pos rfl,qY]
theorem WP (a b c:List Int) (h1:vP a b=true) (h2:vP b c=true):vP a c=true:=by
 unfold vP at *
 by_cases e1:a.length=b.length
 ·rw [if_pos e1] at h1
  by_cases e2:b.length=c.length
  ·rw [if_pos e2] at h2
   rw [if_pos (e1.trans e2)]
   exact jT a b c h1 h2
  ·rw [if_neg e2] at h2
   rw [if_neg (by omega)]
   have:=of_decide_eq_true h2
   exact decide_eq_true (by omega)
 ·rw [if_neg e1] at h1
  have h1':=of_decide_eq_true h1
  by_cases e2:b.length=c.length
  ·rw [if_neg (by omega)]
   exact decide_eq_true (by omega)
  ·rw [if_neg e2] at h2
   have:=of_decide_eq_true h2
   rw [if_neg (by omega)]
   exact decide_eq_true (by omega)
theorem za3 (a b:List Int) (h:a≠b):vP b a=!vP a b:=by
 unfold vP
 by_cases e:a.length=b.length
 ·rw [if_pos e,if_pos e.symm,Xo a b h]
 ·rw [if_neg e,if_neg (Ne.symm e),Bool.eq_iff_iff]
  simp
  omega
theorem zg7 {ls:ZA} (nd:ls.Nodup):Ord (fun i j=>vP (ls.getD i []) (ls.getD j [])) ls.length:=by
 have ge:∀ i,(h:i<ls.length)->ls.getD i []=ls[i]:=fun i h=>by rw [List.getD_eq_getElem?_getD,List.getElem?_eq_getElem h];rfl
 refine⟨fun i j k _ _ _ h1 h2=>WP _ _ _ h1 h2,fun i j hi hj hij h=>?_,fun i j hi hj h=>?_⟩
 ·have ne:ls.getD i []≠ls.getD j []:=fun z=>by
   rw [ge i hi,ge j hj] at z
   exact hij ((List.getElem_inj nd).mp z)
  have:=za3 _ _ ne
  rw [h] at this
  exact this
 ·cases e:vP (ls.getD j []) (ls.getD i []) with
  | false=>rfl
  | true =>
   have:=WP _ _ _ h e
   rw [Q9] at this
   cases this
end HT
namespace L2
open PySem PySem.Spec PyProof.Rows PySem.W
section
variable {X:Cx} {pins:List (Addr×Obj)} {Z:St} {H:Hp} {s:Shared}
theorem zbw (I:Inv X pins Z H s) {p z:Addr} {n:Int} (h:H p=some (.tup [.int n,.ref z])):∃ (t:Tok) (o:Obj) (m:Nat),s.heap.get? p=some o/\o.cls=.type "tuple"/\o.data=.seq #[.int n t,.ref z] m:=by
 obtain⟨_,its,r,o,e,hc,m,hd⟩:=I.hok p _ h
 cases r with
 | cons r1 r2 =>
  cases r2 with
  | cons r3 r4 =>
   cases r4
   obtain⟨t,rfl⟩:=r1
   cases r3
   exact⟨t,o,m,e,hc,hd⟩
theorem zfK (I:Inv X pins Z H s) {A:Around} {p q za zb:Addr} {as bs:List Int} (hp:H p=some (.tup [.int as.length,.ref za])) (hq:H q=some (.tup [.int bs.length,.ref zb])) (ha:H za=some (.lst (as.map V.int))) (hb:H zb=some (.lst (bs.map V.int)))
  (hu:A.units+2<cLine) {Q:Bool->Shared->Prop} {E:Value->Shared->Prop} (h:Q (HT.vP as bs) s):wpAny (model X.prog X.w) A (keyLt' (tuples' true) (.ref p) (.ref q)) Q E s:=by
 obtain⟨t,o,m,e,_,hd⟩:=zbw I hp
 obtain⟨t',o',m',e',_,hd'⟩:=zbw I hq
 refine kat_lt e hd e' hd' ?_
 refine kat_cons (wpAny_eqBool_int ?_)
 unfold HT.vP at h
 by_cases hl:as.length=bs.length
 ·rw [if_pos hl] at h
  have e1:((as.length:Int) == (bs.length:Int))=true:=by rw [hl];simp
  rw [e1]
  refine kat_yes (kat_cons ?_)
  refine (Vm I (A:=A) 1 (t:=vf as) (u:=vf bs) (v:=.ref za) (w:=.ref zb) (by rw [ZX];exact Nat.le_refl _) (TrAt.ints (SqL.of ha)) (TrAt.ints (SqL.of hb)) rfl rfl (by omega)).eq _ _ _ _ ?_
  rw [Zi]
  by_cases hab:as=bs
  ·rw [decide_eq_true hab]
   refine kat_yes (kat_nil ?_)
   rw [hab,HT.qY] at h
   exact h
  ·rw [decide_eq_false hab]
   refine kat_no (kat_one _ _ ?_)
   obtain⟨its,r1,p1,_⟩:=I.list (SqL.of ha)
   obtain⟨its2,r2,p2,_⟩:=I.list (SqL.of hb)
   exact HT.WR p1.isList p2.isList (by simpa using intsAre_of r1) (by simpa using intsAre_of r2) (by omega) h
 ·rw [if_neg hl] at h
  have e1:((as.length:Int) == (bs.length:Int))=false:=by simp;omega
  rw [e1]
  refine kat_no ?_
  refine oneLt_int ?_
  have:decide ((as.length:Int)<(bs.length:Int))=decide (as.length<bs.length):=by
   rw [Bool.eq_iff_iff];simp
  rw [this]
  exact h
end
end L2
set_option maxHeartbeats 4000000
namespace L2
open PySem PySem.Spec PyProof.Rows PySem.W
section
variable {X:Cx} {pins:List (Addr×Obj)} {Z:St} {H:Hp} {s:Shared}
structure zcl (X:Cx) (pins:List (Addr×Obj)) (n:Nat) (a:Addr):Prop where
 s0:X.s₀.heap.objs.size<=a
 lo:a≠X.env.locals
 ce:∀ x c,X.env.cells.lookup x=some c->c≠a
 fs:a∉X.fs
 pn:∀ p∈X.pn++pins,p.1≠a
 ge:n<=a
theorem Inv.late (I:Inv X pins Z H s) {a:Addr} (h:s.heap.objs.size<=a):zcl X pins s.heap.objs.size a :=
 ⟨Nat.le_trans I.sz h,Nat.ne_of_gt (Nat.lt_of_lt_of_le I.lt h),fun x c e z=>by
  obtain⟨v,o,ho,_⟩:=I.cell x c e
  rw [z] at ho
  exact absurd (Nat.lt_of_lt_of_le (Heap.lt_size ho) h) (Nat.lt_irrefl _),I.nofs h,fun p hp z=>by
  obtain⟨e,_⟩:=I.pin p hp
  rw [z] at e
  exact absurd (Nat.lt_of_lt_of_le (Heap.lt_size e) h) (Nat.lt_irrefl _),h⟩
theorem Inv.tell {a:Addr} {xs:List V} {its:List Value} {n:Nat} {h':Heap} {t':Nat} (I:Inv X pins Z H s) {m:Nat} (L:zcl X pins m a) (hn:H a=none) (k:∀ b o,b≠a->s.heap.get? b=some o->h'.get? b=some o)
  (hv:Vals xs its) (hz:xs.length<=sizeLine) (ha:h'.get? a=some (seqObj "list" its.toArray n)):Inv X pins Z (upd H a (.lst xs)) { s with heap:=h',toks:=t' }:=by
 have na:∀ b u,H b=some u->b≠a:=fun b u e z=>by rw [z,hn] at e;cases e
 refine I.step (g':=s.gens) (d':=s.drawn) (ch:=[a]) (fun b hb=>?_) (fun b o _ _ hc e _=>k b o (fun z=>hc (by simp [z])) e) (fun b o _ _ hc e _=>⟨o.slots,k b o (fun z=>hc (by simp [z])) e⟩) (fun b o hc e n=>by rw [zx (fun z=>hc (by simp [z]))];exact n)
  (fun b o hc e=>⟨o,k b o (fun z=>hc (by simp [z])) e⟩) (fun b xs e=>by rw [zx (na b _ e)];exact e) (fun b o u e=>by rw [zx (na b _ e)];exact e) (fun b ps e=>⟨#[],by rw [zx (na b _ e),e];simp⟩) (fun m hm=>?_) (fun b u e=>?_) I.bare
 ·have e:b=a:=by simpa using hb
  subst e
  exact⟨.inr L.s0,L.lo,L.ce,L.pn⟩
 ·obtain⟨o,es,ep,ho,r⟩:=hm
  exact⟨o,es,ep,k _ o (Ne.symm L.lo) ho,r⟩
 ·by_cases hb:b=a
  ·subst hb
   rw [zj] at e
   cases e
   exact⟨hz,its,n,hv,ha⟩
  ·rw [zx hb] at e
   refine (I.hok b u e).stay (fun c v hc q=>k c v ?_ q) (fun c q=>by rw [zx (na c _ q)];exact q) fun c xs q=>by rw [zx (na c _ q)];exact q
   rcases hc with rfl | hc
   ·exact hb
   ·exact na c _ hc
def zfZ (H:Hp) (zs:ZB) (pl:List Addr):Prop:=∀ j z,zs[j]?=some z->j<pl.length->∃ p,pl[j]?=some p/\H p=some (.tup [.int z.2.length,.ref z.1])
theorem kat_tups (I:Inv X pins Z H s):∀ pl:List Addr,(∀ p∈pl,∃ (n:Int) (z:Addr),H p=some (.tup [.int n,.ref z]))->∃ fs:List Value,KatTups s.heap (pl.map Value.ref) fs/\fs.length=pl.length/\∀ v∈fs,∃ n t,v=Value.int n t
 | [],_=>⟨[],KatTups.nil,rfl,fun v hv=>by cases hv⟩
 | p :: pl,h=>by
  obtain⟨fs,h1,h2,h3⟩:=kat_tups I pl fun q hq=>h q (.tail _ hq)
  obtain⟨n,z,e⟩:=h p (.head _)
  obtain⟨t,o,m,e1,e2,e3⟩:=zbw I e
  refine⟨.int n t :: fs,KatTups.cons e1 e2 e3 rfl h1,by simp [h2],fun v hv=>?_⟩
  rcases List.mem_cons.mp hv with rfl | hv
  ·exact⟨n,t,rfl⟩
  ·exact h3 v hv
theorem zd2 {zs:ZB} {f kS a:Addr} {fo:Obj} {e1:Nat} {A:Around} {P:PySem.Fin->Shared->Prop} {E:Value->Shared->Prop} {n:Nat}
  (I:Inv X ((f,fo) :: (a,seqObj "list" #[] e1) :: pins) Z H s) (La:zcl X pins n a) (Lk:zcl X ((f,fo) :: (a,seqObj "list" #[] e1) :: pins) n kS) (hkS:s.heap.get? kS=some (seqObj "list" #[] 0)) (hkn:H kS=none)
  (hz:∀ z∈zs,H z.1=some (.lst (z.2.map V.int))) (nd:(zs.map (·.2)).Nodup) (h60:zs.length<=60) (hu:A.units+2<cLine)
  (turn:∀ (H':Hp) (s':Shared) (pins':List (Addr×Obj)) (z:Addr×List Int),Inv X pins' Z H' s'->(f,fo)∈pins'->Same H H'->z∈zs ->
   wpAny (model X.prog X.w) A (call (.ref f) [.ref z.1]) (EP X pins' Z fun v H2=>∃ p,v=.ref p/\H' p=none/\H2=upd H' p (.tup [.int z.2.length,.ref z.1])) (fun _ _=>False) s')
  (done:∀ (H':Hp) (s':Shared) (zs':ZB),Inv X pins Z (upd H' a (.lst (zs'.map fun z=>V.ref z.1))) s'->Same H H'->H' a=none->zs'.Perm zs->zs'.Pairwise (fun x y=>HT.vP x.2 y.2=true)->P (.done (.ret .none)) s') :
  wpAny (model X.prog X.w) A (ksk_rest a (.ref f) false (zs.map fun z=>Value.ref z.1).toArray e1 (.ref kS)) P E s:=by
 unfold ksk_rest
 refine wpAny_bind (wpAny_rule ?_)
 first
  | rw [List.forIn_toArray]
  | (rw [<- Array.forIn_toList];simp only [List.toList_toArray])
  | rw [<- Array.forIn_toList]
 refine wpAny_bind (ksk_fold (fun i s'=>∃ (H':Hp) (pl:List Addr) (e:Nat),Inv X ((f,fo) :: (a,seqObj "list" #[] e1) :: pins) Z H' s'/\s'.heap.get? kS=some (seqObj "list" (pl.map Value.ref).toArray e)/\H' kS=none/\pl.length=i/\zfZ H' zs pl/\Same H H') (zs.map fun z=>Value.ref z.1) 0 s
  ⟨H,[],0,I,hkS,hkn,rfl,fun j z _ h=>by simp at h,Same.refl _⟩ ?step ?fin)
 case step =>
  rintro j x s' hx ⟨H',pl,e,I',hk',hkn',hpl,hkeys,sm⟩
  rw [Nat.zero_add] at hpl ⊢
  rw [List.getElem?_map] at hx
  obtain⟨z,hzj,ez⟩:=Option.map_eq_some_iff.mp hx
  subst ez
  have hzm:=List.mem_of_getElem? hzj
  have hj:j<zs.length:=(List.getElem?_eq_some_iff.mp hzj).1
  have I2:Inv X ((kS,seqObj "list" (pl.map Value.ref).toArray e) :: (f,fo) :: (a,seqObj "list" #[] e1) :: pins) Z H' s':=I'.pins_of fun p hp=>by
   rcases List.mem_cons.mp hp with rfl | hp
   ·exact⟨hk',hkn',Lk.lo,Lk.fs,fun v z=>by cases z⟩
   ·exact I'.pin p (List.mem_append_right _ hp)
  refine wpAny_bind (wpAny_attempt (wpAny_mono (turn H' s' _ z I2 (by simp) sm hzm) (fun v s'' he=>?_) fun _ _ hF=>hF.elim))
  obtain⟨v',H2,I3,rv,p,rfl,hpf,rfl⟩:=he
  cases rv
  have pk:=I3.pin (kS,seqObj "list" (pl.map Value.ref).toArray e) (List.mem_append_right _ (.head _))
  have I4:Inv X ((f,fo) :: (a,seqObj "list" #[] e1) :: pins) Z (upd H' p (.tup [.int z.2.length,.ref z.1])) s'':=I3.pins_of fun q hq=>I3.pin q (List.mem_append_right _ (.tail _ hq))
  obtain⟨c2,hc2⟩:∃ c2,(s''.heap.update kS (Obj.mapSeq (·.push (.ref p)))).get? kS=some (seqObj "list" ((pl.map Value.ref).toArray.push (.ref p)) c2):=⟨_,get?_update_seq pk.1 (·.push (.ref p))⟩
  have hsl:(pl.map Value.ref).toArray.size<=60:=by rw [List.size_toArray,List.length_map];omega
  dsimp only
  refine wpAny_bind (listUpdate_at pk.1 rfl ?_ (Nat.le_trans hsl (by decide)) (by rw [Array.size_push];exact Nat.le_trans (Nat.succ_le_succ hsl) (by decide)))
  refine wpAny_pure ⟨rfl,_,pl++[p],c2,I4.turned (t':=s''.toks) (fun b o hb q=>?_) pk.2.1 Lk.lo (.inr Lk.s0) Lk.ce Lk.pn,?_,pk.2.1,by rw [List.length_append,List.length_singleton,hpl],fun i y hy hi=>?_,sm.trans (zq hpf)⟩
  ·rw [Heap.get?_update_other _ _ (Ne.symm hb)];exact q
  ·rw [hc2];simp
  ·by_cases hlt:i<pl.length
   ·obtain⟨p',e1',e2'⟩:=hkeys i y hy hlt
    exact⟨p',by rw [List.getElem?_append_left hlt];exact e1',by rw [zx (zF e2' hpf)];exact e2'⟩
   ·have ei:i=pl.length:=by rw [List.length_append,List.length_singleton] at hi;omega
    have ej:i=j:=by omega
    rw [ej,hzj] at hy
    cases hy
    exact⟨p,by rw [ei];simp,zj⟩
 case fin =>
  rintro s' ⟨H',pl,e,I',hk',hkn',hpl,hkeys,sm⟩
  rw [Nat.zero_add,List.length_map] at hpl
  try dsimp only
  refine wpAny_bind (listItems_at hk' rfl ?_)
  have ga:=I'.pin (a,seqObj "list" #[] e1) (List.mem_append_right _ (.tail _ (.head _)))
  have Ip:Inv X pins Z H' s':=I'.pins_of fun q hq=>I'.pin q (by
   rcases List.mem_append.mp (List.mem_append_right X.pn hq) with h | h
   ·exact List.mem_append_left _ h
   ·exact List.mem_append_right _ (.tail _ (.tail _ h)))
  have nka:kS≠a:=fun z=>Lk.pn (a,seqObj "list" #[] e1) (List.mem_append_right _ (.tail _ (.head _))) z.symm
  have tail:∀ (st:SortSt) (zs':ZB),(arrOf st).map (·.2)=(zs'.map fun z=>Value.ref z.1).toArray->failedOf st=none->zs'.Perm zs->zs'.Pairwise (fun x y=>HT.vP x.2 y.2=true) ->
    wpAny (model X.prog X.w) A (ksk_tail a false e1 (.ref kS) st) P E s':=by
   intro st zs' hout hfl pm pw
   have hlen:zs'.length<=60:=by rw [pm.length_eq];exact h60
   have s1:=Heap.SameBut.update s'.heap kS (Obj.mapSeq fun _=>(#[]:Array Value))
   have na1:(s'.heap.update kS (Obj.mapSeq fun _=>(#[]:Array Value))).get? a=some (seqObj "list" #[] e1):=(s1.2 a nka.symm).trans ga.1
   obtain⟨c2,hc2⟩:∃ c2,((s'.heap.update kS (Obj.mapSeq fun _=>(#[]:Array Value))).update a (Obj.mapSeq fun _=>(zs'.map fun z=>Value.ref z.1).toArray)).get? a=some (seqObj "list" (zs'.map fun z=>Value.ref z.1).toArray c2) :=
    ⟨_,get?_update_seq na1 fun _=>(zs'.map fun z=>Value.ref z.1).toArray⟩
   have I5:Inv X pins Z H' { s' with heap:=s'.heap.update kS (Obj.mapSeq fun _=>(#[]:Array Value)),toks:=s'.toks }:=Ip.turned (fun b o hb q=>by rw [Heap.get?_update_other _ _ (Ne.symm hb)];exact q) hkn' Lk.lo (.inr Lk.s0) Lk.ce (fun q hq=>Lk.pn q (by
    rcases List.mem_append.mp hq with h | h
    ·exact List.mem_append_left _ h
    ·exact List.mem_append_right _ (.tail _ (.tail _ h))))
   have I6:=I5.tell (t':=s'.toks) (h':=(s'.heap.update kS (Obj.mapSeq fun _=>(#[]:Array Value))).update a (Obj.mapSeq fun _=>(zs'.map fun z=>Value.ref z.1).toArray)) La ga.2.1 (fun b o hb q=>by rw [Heap.get?_update_other _ _ (Ne.symm hb)];exact q) (WK zs') (by rw [List.length_map];exact Nat.le_trans hlen (by decide)) hc2
   unfold ksk_tail
   try dsimp only
   refine wpAny_bind (listUpdate_at hk' rfl ?_ (by rw [List.size_toArray,List.length_map,hpl];exact Nat.le_trans h60 (by decide)) (Nat.zero_le _))
   refine wpAny_bind (wpAny_letGo ?_)
   refine wpAny_bind (seqEpoch_at na1 rfl ?_)
   simp only [Bool.false_eq_true,if_false]
   rw [hout]
   refine wpAny_bind (listUpdate_at na1 rfl ?_ (Nat.zero_le _) (by rw [List.size_toArray,List.length_map];exact Nat.le_trans hlen (by decide)))
   rw [hfl]
   simp only [bne_self_eq_false,Bool.false_eq_true,if_false]
   exact wpAny_pure (done H' _ zs' I6 sm ga.2.1 pm pw)
  unfold ksk_end
  try dsimp only
  simp only [Bool.false_eq_true,if_false]
  have hvl:(zs.map fun z=>Value.ref z.1).toArray.size=zs.length:=by rw [List.size_toArray,List.length_map]
  by_cases h2:(zs.map fun z=>Value.ref z.1).toArray.size<2
  ·rw [if_pos h2,if_pos h2]
   refine wpAny_bind (wpAny_pure ?_)
   rw [StateT.run_pure]
   refine wpAny_bind (wpAny_pure ?_)
   try dsimp only
   refine tail _ zs ?_ rfl (List.Perm.refl _) ?_
   ·show (((pl.map Value.ref).toArray.zip (zs.map fun z=>Value.ref z.1).toArray).map (·.2))=_
    apply Array.toList_inj.mp
    rw [Array.toList_map,Array.toList_zip,List.map_snd_zip (by simp [hpl])]
   ·rw [hvl] at h2
    match zs,h2 with
    | [],_=>exact .nil
    | [_],_=>exact List.pairwise_singleton _ _
  ·rw [if_neg h2,if_neg h2]
   rw [hvl] at h2
   have hkl:(pl.map Value.ref).length=(zs.map fun z=>Value.ref z.1).length:=by rw [List.length_map,List.length_map,hpl]
   have hk2:∀ j,j<zs.length->∃ p,pl[j]?=some p/\H' p=some (.tup [.int (zs.getD j (0,[])).2.length,.ref (zs.getD j (0,[])).1])/\zs.getD j (0,[])∈zs:=fun j hj=>by
    have e:zs.getD j (0,[])=zs[j]:=by rw [List.getD_eq_getElem?_getD,List.getElem?_eq_getElem hj];rfl
    rw [e]
    obtain⟨p,e1,e2⟩:=hkeys j zs[j] (List.getElem?_eq_getElem hj) (by omega)
    exact⟨p,e1,e2,List.getElem_mem hj⟩
   obtain⟨fs,ht,hfl,hfi⟩:=kat_tups I' pl fun p hp=>by
    obtain⟨j,hj,rfl⟩:=List.getElem_of_mem hp
    obtain⟨p',e1,e2,_⟩:=hk2 j (by omega)
    rw [List.getElem?_eq_getElem hj] at e1
    cases e1
    exact⟨_,_,e2⟩
   refine wpAny_bind (kat_kind (T:=.type "int") ht (by omega) (fun v hv=>?_) (by decide) ?_)
   ·obtain⟨n,t,rfl⟩:=hfi v hv
    exact Looks.of_pure rfl
   have ls2:(zs.map (·.2)).length=zs.length:=List.length_map ..
   have ask:(kas_sort (zs.map fun z=>Value.ref z.1).length).kasWp (kas_ask X.prog X.w A (tuples' true) (pl.map Value.ref)) (fun p s''=>s''=s'/\(HT.Pm zs.length p/\HT.Up (fun i j=>HT.vP ((zs.map (·.2)).getD i []) ((zs.map (·.2)).getD j [])) p zs.length)) s':=by
    rw [List.length_map]
    have O:=HT.zg7 nd
    rw [ls2] at O
    refine HT.KW.wp (n:=zs.length) (fun i j C hi hj hC=>?_) _ (HT.ze6 O (by omega))
    obtain⟨p,e1,e2,e3⟩:=hk2 i hi
    obtain⟨q,d1,d2,d3⟩:=hk2 j hj
    have ei:(zs.map (·.2)).getD i []=(zs.getD i (0,[])).2:=by rw [List.getD_eq_getElem?_getD,List.getD_eq_getElem?_getD,List.getElem?_map,List.getElem?_eq_getElem hi];rfl
    have ej:(zs.map (·.2)).getD j []=(zs.getD j (0,[])).2:=by rw [List.getD_eq_getElem?_getD,List.getD_eq_getElem?_getD,List.getElem?_map,List.getElem?_eq_getElem hj];rfl
    have gi:(pl.map Value.ref).getD i Value.none=.ref p:=by rw [List.getD_eq_getElem?_getD,List.getElem?_map,e1];rfl
    have gj:(pl.map Value.ref).getD j Value.none=.ref q:=by rw [List.getD_eq_getElem?_getD,List.getElem?_map,d1];rfl
    unfold kas_ask
    rw [gi,gj]
    refine zfK I' e2 d2 (sm _ _ (hz _ e3)) (sm _ _ (hz _ d3)) hu ?_
    try dsimp only at hC
    rw [ei,ej] at hC
    exact hC
   have eT:(Value.type "int" != Value.type "tuple")=true:=by decide
   rw [eT]
   refine wpAny_bind (wpAny_mono (kat_run (ks:=pl.map Value.ref) (vs:=zs.map fun z=>Value.ref z.1) (Q:=fun st' s''=>∃ p:Array Nat,s''=s'/\arrOf st'=p.map (kas_item ((pl.map Value.ref).toArray.zip (zs.map fun z=>Value.ref z.1).toArray))/\failedOf st'=none/\HT.Pm zs.length p/\HT.Up (fun i j=>HT.vP ((zs.map (·.2)).getD i []) ((zs.map (·.2)).getD j [])) p zs.length)
    hkl (by rw [List.length_map];omega) (by rw [List.length_map];omega) (fun p st' s'' _ a2 a3 a4=>⟨p,a4.1,a2,a3,a4.2⟩) ask) ?_ fun _ _ e=>e)
   rintro⟨⟨⟩,st'⟩ s'' ⟨p,rfl,har,hfl2,hpm,hup⟩
   try dsimp only
   have hout:=kat_snds hkl har
   have hpl2:p.toList.length=zs.length:=by rw [hpm.pm.length_eq,List.length_range]
   refine tail st' (p.toList.map fun i=>zs.getD i (0,[])) ?_ hfl2 (HT.QK _ zs hpm.pm) ?_
   ·rw [hout,List.map_map]
    congr 1
    refine List.map_congr_left fun i hi=>?_
    have hi':=List.mem_range.mp (hpm.pm.mem_iff.mp hi)
    show _=Value.ref (zs.getD i (0,[])).1
    rw [List.getD_eq_getElem?_getD,List.getD_eq_getElem?_getD,List.getElem?_map,List.getElem?_eq_getElem hi'];rfl
   ·rw [List.pairwise_map,List.pairwise_iff_getElem]
    intro i j hi hj hij
    have q1:=hup i j hij (by omega)
    have e1:p.getD i 0=p.toList[i]:=by
     have:i<p.size:=by rw [hpm.sz];omega
     simp [Array.getD,this]
    have e2:p.getD j 0=p.toList[j]:=by
     have:j<p.size:=by rw [hpm.sz];omega
     simp [Array.getD,this]
    rw [e1,e2] at q1
    have m1:=List.mem_range.mp (hpm.pm.mem_iff.mp (List.getElem_mem hi))
    have m2:=List.mem_range.mp (hpm.pm.mem_iff.mp (List.getElem_mem hj))
    have ei:(zs.map (·.2)).getD p.toList[i] []=(zs.getD p.toList[i] (0,[])).2:=by rw [List.getD_eq_getElem?_getD,List.getD_eq_getElem?_getD,List.getElem?_map,List.getElem?_eq_getElem m1];rfl
    have ej:(zs.map (·.2)).getD p.toList[j] []=(zs.getD p.toList[j] (0,[])).2:=by rw [List.getD_eq_getElem?_getD,List.getD_eq_getElem?_getD,List.getElem?_map,List.getElem?_eq_getElem m2];rfl
    try dsimp only at q1
    rw [ei,ej] at q1
    exact q1
theorem zau {zs:ZB} {f l:Addr} {fo:Obj} {Q:VK} (I:Inv X ((f,fo) :: pins) Z H s) (hl:H l=some (.lst (zs.map fun z=>V.ref z.1))) (hz:∀ z∈zs,H z.1=some (.lst (z.2.map V.int))) (nd:(zs.map (·.2)).Nodup) (h60:zs.length<=60)
  (hu:X.A.in1.in1.units+2<cLine)
  (turn:∀ (H':Hp) (s':Shared) (pins':List (Addr×Obj)) (z:Addr×List Int),Inv X pins' Z H' s'->(f,fo)∈pins'->Same H H'->z∈zs ->
   wpAny (model X.prog X.w) X.A.in1.in1 (call (.ref f) [.ref z.1]) (EP X pins' Z fun v H2=>∃ p,v=.ref p/\H' p=none/\H2=upd H' p (.tup [.int z.2.length,.ref z.1])) (fun _ _=>False) s')
  (q:∀ (D:Addr) (H':Hp) (zs':ZB),H D=none->Same H H'->H' D=none->zs'.Perm zs->zs'.Pairwise (fun x y=>HT.vP x.2 y.2=true)->Q (.ref D) (upd H' D (.lst (zs'.map fun z=>V.ref z.1)))) :
  wpAny (model X.prog X.w) X.A (call (.builtin "sorted") [.ref l] [(Str.ofString "key",.ref f)]) (EP X pins Z Q) X.xe s:=by
 obtain⟨its,r1,p1,_⟩:=I.list (SqL.of hl)
 have e1:=QV r1
 subst e1
 have hvl:(zs.map fun z=>Value.ref z.1).length=zs.length:=List.length_map ..
 have hsl:(zs.map fun z=>Value.ref z.1).length<=sizeLine:=by rw [hvl,sizeLine_eq];omega
 refine call_function_entry_kw kind_sorted plain_sorted entry_sorted (ksk_s1 _ _) ?_
 unfold Builtin.«sorted»
 refine wpAny_bind (m:=checkCount "sorted" 1 1 _) (wpAny_pure (wpAny_bind (collect_list p1.isList (wpAny_bind (wpAny_newList ?_ hsl)) hsl)))
 generalize hB:(s.heap.push (seqObj "list" #[] 0)).update s.heap.objs.size (Obj.mapSeq (·++(zs.map fun z=>Value.ref z.1).toArray))=B
 have hsz:B.objs.size=s.heap.objs.size+1:=by rw [<- hB,Heap.size_update,size_push']
 have keep:∀ b o,s.heap.get? b=some o->(B.push (seqObj "list" (zs.map fun z=>Value.ref z.1).toArray 0)).get? b=some o:=fun b o q=>by
  have hlt:b<s.heap.objs.size:=Heap.lt_size q
  rw [Heap.get?_push_ne _ _ _ (by rw [hsz];exact Nat.ne_of_lt (Nat.lt_succ_of_lt hlt)),<- hB,Heap.get?_update_ne _ _ _ _ (Nat.ne_of_lt hlt),Heap.get?_push_ne _ _ _ (Nat.ne_of_lt hlt)];exact q
 have hoL:(B.push (seqObj "list" (zs.map fun z=>Value.ref z.1).toArray 0)).get? (s.heap.objs.size+1)=some (seqObj "list" (zs.map fun z=>Value.ref z.1).toArray 0):=by
  rw [<- hsz];exact Heap.get?_push_size _ rfl
 have hszB:(B.push (seqObj "list" (zs.map fun z=>Value.ref z.1).toArray 0)).objs.size=s.heap.objs.size+2:=by rw [size_push',hsz]
 show wpAny _ _ _ _ _ { s with heap:=B.push (seqObj "list" (zs.map fun z=>Value.ref z.1).toArray 0) }
 dsimp only
 rw [hsz]
 refine wpAny_bind (wpAny_holding (wpAny_call_entry_kw slot_list_sort ⟨_,hoL,rfl⟩ entry_list_sort ?body (ksk_l1 _ _)))
 case body =>
  show wpAny (model X.prog X.w) X.A.in1.in1 (Builtin.«list.sort» ⟨[.ref (s.heap.objs.size+1)],[(Str.ofString "key",.ref f)]⟩) _ _ _
  rw [ksk_t1]
  unfold ksk_tree
  generalize hG:B.push (seqObj "list" (zs.map fun z=>Value.ref z.1).toArray 0)=G at keep hoL hszB
  generalize hLd:s.heap.objs.size+1=L at hoL
  have hLG:L<G.objs.size:=Heap.lt_size hoL
  obtain⟨e1,ho1⟩:∃ e1,(G.update L (Obj.mapSeq fun _=>(#[]:Array Value))).get? L=some (seqObj "list" #[] e1):=⟨_,get?_update_seq hoL fun _=>#[]⟩
  refine wpAny_bind (listItems_at (s:={ s with heap:=G }) hoL rfl ?_)
  refine wpAny_bind (listUpdate_at (s:={ s with heap:=G }) hoL rfl ?_ (by rw [List.size_toArray];exact hsl) (Nat.zero_le _))
  refine wpAny_bind (seqEpoch_at ho1 rfl ?_)
  refine wpAny_bind (wpAny_newTuple ?_ (by show (zs.map fun z=>Value.ref z.1).length<=_;exact hsl))
  refine wpAny_bind (wpAny_newList ?_ (Nat.zero_le _))
  refine wpAny_holding ?_
  generalize hM:(G.update L (Obj.mapSeq fun _=>(#[]:Array Value))).push (seqObj "tuple" (zs.map fun z=>Value.ref z.1).toArray 0)=M
  have hMs:M.objs.size=s.heap.objs.size+3:=by rw [<- hM,size_push',Heap.size_update,hszB]
  have hkS:(M.push (seqObj "list" #[] 0)).get? (s.heap.objs.size+3)=some (seqObj "list" #[] 0):=by rw [<- hMs];exact Heap.get?_push_size _ rfl
  have hL2:(M.push (seqObj "list" #[] 0)).get? L=some (seqObj "list" #[] e1):=Heap.get?_push_of_some _ (by rw [<- hM];exact Heap.get?_push_of_some _ ho1)
  have keep2:∀ b o,s.heap.get? b=some o->(M.push (seqObj "list" #[] 0)).get? b=some o:=fun b o q=>by
   have hlt:b<s.heap.objs.size:=Heap.lt_size q
   refine Heap.get?_push_of_some _ ?_
   rw [<- hM]
   refine Heap.get?_push_of_some _ ?_
   rw [Heap.get?_update_ne _ _ _ _ (by rw [<- hLd];exact Nat.ne_of_lt (Nat.lt_succ_of_lt hlt))]
   exact keep b o q
  have La0:=I.late (a:=L) (by rw [<- hLd];exact Nat.le_succ _)
  have Lk0:=I.late (a:=s.heap.objs.size+3) (by omega)
  have I1:Inv X ((f,fo) :: pins) Z H { s with heap:=M.push (seqObj "list" #[] 0),toks:=s.toks }:=I.kept keep2
  have hLn:H L=none:=I.hok.fresh (by rw [<- hLd];exact Nat.le_succ _)
  have I2:Inv X ((f,fo) :: (L,seqObj "list" #[] e1) :: pins) Z H { s with heap:=M.push (seqObj "list" #[] 0),toks:=s.toks }:=I1.pins_of fun p hp=>by
   rcases List.mem_cons.mp hp with rfl | hp
   ·exact I1.pin _ (List.mem_append_right _ (.head _))
   ·rcases List.mem_cons.mp hp with rfl | hp
    ·exact⟨hL2,hLn,La0.lo,La0.fs,fun v z=>by cases z⟩
    ·exact I1.pin p (List.mem_append_right _ (.tail _ hp))
  have La:zcl X pins s.heap.objs.size L:=⟨La0.s0,La0.lo,La0.ce,La0.fs,fun p hp=>La0.pn p (by
   rcases List.mem_append.mp hp with h | h
   ·exact List.mem_append_left _ h
   ·exact List.mem_append_right _ (.tail _ h)),La0.ge⟩
  have Lk:zcl X ((f,fo) :: (L,seqObj "list" #[] e1) :: pins) s.heap.objs.size (s.heap.objs.size+3):=⟨Lk0.s0,Lk0.lo,Lk0.ce,Lk0.fs,fun p hp=>by
   rcases List.mem_append.mp hp with h | h
   ·exact Lk0.pn p (List.mem_append_left _ h)
   ·rcases List.mem_cons.mp h with rfl | h
    ·exact Lk0.pn _ (List.mem_append_right _ (.head _))
    ·rcases List.mem_cons.mp h with rfl | h
     ·show L≠_
      rw [<- hLd];omega
     ·exact Lk0.pn p (List.mem_append_right _ (.tail _ h)),Lk0.ge⟩
  rw [hMs]
  refine zd2 (s:={ s with heap:=M.push (seqObj "list" #[] 0) }) I2 La Lk hkS (I.hok.fresh (by omega)) hz nd h60 hu turn fun H' s' zs' I' sm hn pm pw=>⟨_,rfl,?_⟩
  exact wpAny_pure ⟨_,rfl,.ref L,_,I',rfl,q L H' zs' hLn sm hn pm pw⟩
end
section
variable {X:Cx} {Z:St} {H:Hp} {s:Shared} {params:Arguments} {body:Expr} {scope:Scope} {pos lpos kpos p:Pos} {c P:Addr} {y:Str} {e:Expr} {te:TE}
theorem zdH {pins:List (Addr×Obj)} {f c':Addr} {q:Str} {pm ct:Value} {k:Nat} {v:V} {u:Value} {Q:VK} (I:Inv X pins Z H s) (hf:(f,kla_obj "<lambda>" q params body scope [] pm c' ct)∈pins) (hL:zbJ P lpos q H c') (S:zE [y] [y] scope) (hr:Room (k+1) X.A.in1.in1)
  (hb:∀ (pm ct:Value) (u:Value),bindArgs (kla_fn "<lambda>" q params body scope [] pm (.ref c') ct) ⟨[u],[]⟩=pure [(y,u)]) (rv:RelV v u)
  (hbody:∃ t,PE (YW CX0 X.prog X.w X.K X.mg X.base [y] q scope f (.ref c') X.A.in1.in1 X.stack s H E0) body t/\t (start [y] [v]) H Q) :
  wpAny (model X.prog X.w) X.A.in1.in1 (call (.ref f) [u]) (EP X pins Z Q) (fun _ _=>False) s:=by
 have pf:=I.pin _ (List.mem_append_right X.pn hf)
 have hcd:s.heap.CodeRec (.ref c') q:=(I.hok c' _ hL.2).1
 refine wpAny_call (codeAny_mono (zeC (k:=k) (N:=[y]) (ps:=[y]) (us:=[u]) (vs:=[v]) (E:=E0) pf.1 rfl hcd S hr I.env0.in1.in1 (BindsTo.of_eq (hb pm ct u)) rfl (.cons rv .nil) hbody) fun r s' hq=>?_)
 cases r with
 | error e=>exact hq
 | ok fl =>
  cases fl with
  | ret u=>exact I.after hq
  | next=>exact False.elim hq
  | brk=>exact False.elim hq
  | cont=>exact False.elim hq
def zdc (P:Addr) (lpos:Pos) (q:Str) (te:TE):TE:=fun Z H Q=>te Z H fun x H1=>∃ (l:Addr) (zs:ZB),x=.ref l/\H1 l=some (.lst (zs.map fun z=>V.ref z.1))/\(∀ z∈zs,H1 z.1=some (.lst (z.2.map V.int)))/\(zs.map (·.2)).Nodup/\zs.length<=60/\Xr P lpos q H1 /\
 ∀ (D:Addr) (zs':ZB) (H2:Hp),H1 D=none->H2 D=none->(∀ b u,b≠P->H1 b=some u->H2 b=some u)->Xr P lpos q H2->zs'.Perm zs->zs'.Pairwise (fun x y=>HT.vP x.2 y.2=true)->Q (.ref D) (upd H2 D (.lst (zs'.map fun z=>V.ref z.1)))
theorem zbd {k:Nat} (he:PE X e te) (hg:Gl X "sorted") (hm:X.mg "sorted" = none) (hr:Room (k+3) X.A) (hdef:defaultsOf params X.env=([],[])) (hcl:closureFor scope X.env=pure []) (hcode:X.env.code=.ref c) (hK:codeHdIn X.K c P=true) (hB:X.base.BuiltinsAt X.mg P) (hgP:mainGlobals≠P)
  (S:zE [y] [y] scope) (hb:∀ (pm cd ct:Value) (u:Value),bindArgs (kla_fn "<lambda>" (X.env.qual ++ "<lambda>") params body scope [] pm cd ct) ⟨[u],[]⟩=pure [(y,u)])
  (hbody:∀ (f c':Addr) (s:Shared) (H:Hp) (z:Addr×List Int),H z.1=some (.lst (z.2.map V.int))->∃ t,PE (YW CX0 X.prog X.w X.K X.mg X.base [y] (X.env.qual ++ "<lambda>") scope f (.ref c') X.A.in1.in1 X.stack s H E0) body t /\
   t (start [y] [.ref z.1]) H fun v H2=>∃ p,v=.ref p/\H p=none/\H2=upd H p (.tup [.int z.2.length,.ref z.1]))
  (hs1:starEach [e] X.env=[(false,eval e X.env)]:=by rfl) :
  PE X (.Call (.Name "sorted" p) [e] [⟨some "key",.Lambda params body scope lpos,kpos⟩] pos) (zdc P lpos (X.env.qual ++ "<lambda>") te):=by
 intro pins s Z H Q I h
 refine wpAny_Call_Name_kw (j9 I hg hm boot_sorted ?_ (by decide) (by decide))
 have ha:PA X [e] (W8 te JS):=zf he zg hs1
 refine callWith_kw (thn (ha pos pins s Z H (fun vs H1=>match vs with
  | [x]=>∃ (l:Addr) (zs:ZB),x=.ref l/\H1 l=some (.lst (zs.map fun z=>V.ref z.1))/\(∀ z∈zs,H1 z.1=some (.lst (z.2.map V.int)))/\(zs.map (·.2)).Nodup/\zs.length<=60/\Xr P lpos (X.env.qual ++ "<lambda>") H1 /\
   ∀ (D:Addr) (zs':ZB) (H2:Hp),H1 D=none->H2 D=none->(∀ b u,b≠P->H1 b=some u->H2 b=some u)->Xr P lpos (X.env.qual ++ "<lambda>") H2->zs'.Perm zs->zs'.Pairwise (fun x y=>HT.vP x.2 y.2=true)->Q (.ref D) (upd H2 D (.lst (zs'.map fun z=>V.ref z.1)))
  | _=>False) I h) fun us s1 ⟨vs,H1,I1,r1,q1⟩=>?_) (by rw [hs1];rfl) (by rw [hs1];rfl)
 match vs,q1 with
 | [x],q1 =>
  obtain⟨l,zs,rfl,hl,hz,nd,h60,hT,q⟩:=q1
  obtain⟨u,rfl,rx⟩:=vals1 r1
  cases rx
  show wpAny _ _ (evalAll ((do let v <- eval (.Lambda params body scope lpos) X.env;standAt pos;pure v) :: [])) _ _ s1
  refine wpAny_evalAll_cons (wpAny_bind (zdf I1 hdef hcl hcode hK hB hgP hT fun f c' H2 s2 pm ct I2 hL hfo hfn hsz up=>wpAny_bind (wpAny_standAt (wpAny_pure ?_))))
  refine wpAny_evalAll_nil ?_
  have Lf:=I1.late hsz
  have I3:Inv X ((f,kla_obj "<lambda>" (X.env.qual ++ "<lambda>") params body scope [] pm c' ct) :: pins) Z H2 s2:=I2.pins_of fun p hp=>by
   rcases List.mem_cons.mp hp with rfl | hp
   ·exact⟨hfo,hfn,Lf.lo,Lf.fs,fun v z=>by cases z⟩
   ·exact I2.pin p (List.mem_append_right _ hp)
  have hPl:∀ b xs,H1 b=some (.lst xs)->b≠P:=fun b xs e z=>by
   rw [z] at e
   rcases hT with t | ⟨c2,t,_⟩
   ·rw [t] at e;cases e
   ·rw [t] at e;cases e
  have hr2:Room (k+1) X.A.in1.in1:=(hr.in1).in1
  show wpAny _ _ (call (.builtin "sorted") [.ref l] [(Str.ofString "key",.ref f)]) _ _ s2
  refine zau I3 (up _ _ (hPl _ _ hl) hl) (fun z hzm=>up _ _ (hPl _ _ (hz z hzm)) (hz z hzm)) nd h60 (by have:=hr2.units;omega) (fun H' s' pins' z I' hf sm hzm=>?_) fun D H' zs' hD sm hn pm pw=>?_
  ·have hL':zbJ P lpos (X.env.qual ++ "<lambda>") H' c':=⟨sm _ _ hL.1,sm _ _ hL.2⟩
   exact zdH (v:=.ref z.1) I' hf hL' S hr2 (fun pm ct u=>hb pm (.ref c') ct u) rfl (hbody f c' s' H' z (sm _ _ (up _ _ (hPl _ _ (hz z hzm)) (hz z hzm))))
  ·refine q D zs' H' ?_ hn (fun b u hb e=>sm _ _ (up b u hb e)) (.inr ⟨c',sm _ _ hL.1,sm _ _ hL.2⟩) pm pw
   cases e:H1 D with
   | none=>rfl
   | some u =>
    by_cases hDP:D=P
    ·rw [hDP,hL.1] at hD;cases hD
    ·rw [up D u hDP e] at hD;cases hD
end
theorem zca {P:Program} {w:World} {K:Frag} {mg mb:Str->Option Value} {CX:CXT} {k:Nat} {fa a c T:Addr} {fd:FuncData} {x:Str} {sp:Sp} {s₁:Shared} {vs:List Value} {ns:List Int}
  (KX:K.In s₁.heap) (hns:s₁.heap.Ns mainGlobals mg) (hb:s₁.heap.Ns builtinsNs mb) (hbb:∀ x:Str,x ≠ "__name__"->mb x=bootBuiltins x) (hlim:s₁.heap.NoLimit) (hg:s₁.gens=#[])
  (hBM:∃ bm ob,mg "__builtins__" = some (.ref bm)/\bm≠builtinsNs/\s₁.heap.get? bm=some ob/\ob.cls=.type "module"/\ob.dict=some builtinsNs/\ob.data=.plain)
  (hT:s₁.heap.get? T=some (tabObj #[])) (hKT:K.lookup T=none) (hcT:codeHdIn K c T=true)
  (ha:s₁.heap.get? a=some { cls:=.type "list",data:=.seq vs.toArray }) (hi:IntsAre vs ns) (hl:ns.length<=sizeLine) (hr:Room k callerA)
  (F:∀ base:Heap,K.In base->base.Ns mainGlobals mg->base.BuiltinsAt mg T->FnOk P w K mg base CX k fa fd [x] sp) (hbind:∀ (s:Shared) (u:Value),BindsTo s fd ⟨[u],[]⟩ [(x,u)])
  (hsp:∀ H:Hp,H T=some (.tbl #[])->SqL K H a (ns.map V.int)->sp [.ref a] H (fun v _=>v=.bl true) fun _ _ _=>False)
  (hCX:∀ H e s',CX [] H s₁ (fun _ _ _=>False) e s'->False) :
  codeAny (model P w) callerA (.call (.ref fa) ⟨[.ref a],[]⟩) (fun r s'=>r=.ok (.ret (.bool true))/\OldK s₁.heap s'.heap/\s'.os=s₁.os/\AllBare s'.gens) s₁:=by
 have rv:=Qu hi
 have lenV:=hi.length
 have tabT:s₁.heap.TableAt c T #[]:=(codeHd_of_K KX hcT).tab hT
 have core:∀ H:Hp,H T=some (.tbl #[])->SqL K H a (ns.map V.int)->HOk P w H s₁.heap->(∀ b,H b≠none->b=a\/b=T)->(∀ b,b≠T->H b=none\/∃ o xs,H b=some (.frz o (.lst xs)))->(∀ b,H b≠none->K.lookup b=none) ->
   codeAny (model P w) callerA (.call (.ref fa) ⟨[.ref a],[]⟩) (fun r s'=>r=.ok (.ret (.bool true))/\OldK s₁.heap s'.heap/\s'.os=s₁.os/\AllBare s'.gens) s₁:=by
  intro H hHT hS hok hA hO hK
  have base_of:∀ {b:Addr} {o:Obj},s₁.heap.get? b=some o->H b=none->(Qf s₁.heap H).get? b=some o:=fun e n=>zd6 e n
  have noA:∀ {b:Addr} {o:Obj},s₁.heap.get? b=some o->(∀ xs n,o.data≠.seq xs n)->(∀ ps,o.data≠.fields ps)->H b=none:=fun {b o} e d1 d2=>by
   cases q:H b with
   | none=>rfl
   | some u =>
    rcases hA b (by rw [q];simp) with e' | e'
    ·subst e'
     rw [ha] at e;cases e
     exact absurd rfl (d1 _ _)
    ·subst e'
     rw [hT] at e;cases e
     exact absurd rfl (d2 _)
  have nsK:∀ {b:Addr} {m:Str->Option Value},s₁.heap.Ns b m->(Qf s₁.heap H).Ns b m:=fun {b m} ⟨o,es,ep,e,d,r⟩=>⟨o,es,ep,base_of e (noA e (fun xs n z=>by rw [d] at z;cases z) (fun ps z=>by rw [d] at z;cases z)),d,r⟩
  have hKb:K.In (Qf s₁.heap H):=fun b o e=>base_of (KX b o e) (by
   cases q:H b with
   | none=>rfl
   | some u=>rw [hK b (by rw [q];simp)] at e;cases e)
  have hM:Mod K mg (Qf s₁.heap H):=⟨hKb,nsK hns,⟨mb,nsK hb,hbb⟩,let ⟨mc,h1,h2⟩:=hlim;⟨mc,nsK h1,h2⟩⟩
  have hBA:(Qf s₁.heap H).BuiltinsAt mg T:=by
   obtain⟨bm,ob,b1,b2,b3,b4,b5,b6⟩:=hBM
   refine⟨bm,ob,b1,b2,fun z=>?_,fun z=>?_,base_of b3 (noA b3 (fun xs n z=>by rw [b6] at z;cases z) (fun ps z=>by rw [b6] at z;cases z)),b4,b5,b6⟩
   ·obtain⟨o,es,ep,e,hd,_⟩:=hns
    rw [z,e] at b3;cases b3
    rw [hd] at b6;cases b6
   ·rw [z,hT] at b3;cases b3;cases b4
  have e0:Env0 P w K mg (Qf s₁.heap H) callerA [] s₁ H:=⟨rfl,hM,fun b o e=>zeQ e,Nat.le_of_eq (zcv _ _),trivial,fun b hb=>absurd (show b∈([]:List Addr) from hb) (by simp),hok,.of_eq hg⟩
  refine codeAny_mono ((F _ hKb (nsK hns) hBA).run callerA [] s₁ H ⟨[.ref a],[]⟩ [.ref a] [.ref a] _ _ hr e0 (hbind s₁ (.ref a)) (.cons rfl .nil) (hsp H hHT hS)) fun r s' h=>?_
  cases r with
  | error e=>exact (hCX H e s' h).elim
  | ok fl =>
   cases fl with
   | next=>exact False.elim h
   | brk=>exact False.elim h
   | cont=>exact False.elim h
   | ret u =>
    obtain⟨v,H',os,bare,un,hok',r',q⟩:=h
    have q':v=.bl true:=q
    subst q'
    obtain rfl:u=Value.bool true:=r'
    have oth:∀ b o,b≠T->s₁.heap.get? b=some o->s'.heap.get? b=some o:=fun b o hbT e=>by
     cases q:H b with
     | none=>exact un.keep b o e q (by intro z;exact absurd (show b∈([]:List Addr) from z) (by simp)) (by simp)
     | some u =>
      rcases hO b hbT with z | ⟨ob,xs,z⟩
      ·rw [q] at z;cases z
      ·have z2:=un.frzs b ob _ z
       obtain⟨e1,_⟩:=hok b _ z
       obtain⟨e2,_⟩:=hok' b _ z2
       rw [e] at e1;cases e1
       exact e2
    obtain⟨more,hm⟩:=un.tbls T _ hHT
    have hTm:s'.heap.get? T=some { cls:=.none,data:=.fields (#[]++more) }:=hok' T _ hm
    refine⟨rfl,⟨fun b o e=>?_,fun b o e=>?_⟩,os,bare⟩
    ·by_cases hbT:b=T
     ·subst hbT
      rw [hT] at e;cases e
      exact .inr (.inl ⟨tabT.isCodeTable,rfl,#[],more,rfl,hTm⟩)
     ·exact .inl (oth b o hbT e)
    ·by_cases hbT:b=T
     ·subst hbT;exact⟨_,hTm⟩
     ·exact⟨o,oth b o hbT e⟩
 have hTa:T≠a:=fun z=>by rw [z,ha] at hT;cases hT
 cases hk:K.lookup a with
 | some o =>
  have e:=KX a o hk
  rw [ha] at e
  cases e
  refine core (fun b=>if b=T then some (.tbl #[]) else none) (if_pos rfl) (.inr ⟨_,vs.toArray,_,hk,rfl,rfl,rfl,by rw [List.size_toArray,lenV];exact hl,by simpa using rv⟩) (fun b u z=>?_) (fun b z=>?_) (fun b hb=>.inl (if_neg hb)) fun b z=>?_
  ·by_cases hb:b=T
   ·have z':=(if_pos hb).symm.trans z
    cases z'
    subst hb
    exact hT
   ·have z':=(if_neg hb).symm.trans z
    cases z'
  ·by_cases hb:b=T
   ·exact .inr hb
   ·exact absurd (if_neg hb) z
  ·by_cases hb:b=T
   ·rw [hb];exact hKT
   ·exact absurd (if_neg hb) z
 | none =>
  refine core (fun b=>if b=a then some (.frz { cls:=.type "list",data:=.seq vs.toArray } (.lst (ns.map V.int))) else if b=T then some (.tbl #[]) else none) (by rw [if_neg hTa,if_pos rfl]) (.inl (.inr ⟨{ cls:=.type "list",data:=.seq vs.toArray },if_pos rfl⟩)) (fun b u z=>?_) (fun b z=>?_) (fun b hb=>?_) fun b z=>?_
  ·by_cases hb:b=a
   ·have z':=(if_pos hb).symm.trans z
    cases z'
    subst hb
    exact⟨ha,by rw [List.length_map];exact hl,vs,_,rv,ha⟩
   ·have z':=(if_neg hb).symm.trans z
    by_cases hb2:b=T
    ·have z2:=(if_pos hb2).symm.trans z'
     cases z2
     subst hb2
     exact hT
    ·have z2:=(if_neg hb2).symm.trans z'
     cases z2
  ·by_cases hb:b=a
   ·exact .inl hb
   ·by_cases hb2:b=T
    ·exact .inr hb2
    ·exact absurd (by rw [if_neg hb,if_neg hb2]) z
  ·by_cases hba:b=a
   ·exact .inr ⟨_,_,if_pos hba⟩
   ·exact .inl (by rw [if_neg hba,if_neg hb])
  ·by_cases hb:b=a
   ·rw [hb];exact hk
   ·by_cases hb2:b=T
    ·rw [hb2];exact hKT
    ·exact absurd (by rw [if_neg hb,if_neg hb2]) z
theorem zgx {l:W.OpenLaw} {n k:Nat} {q:Program} {loose:List Str} {XP:(Str->Option Value)->Heap->Prop} {YP:World->Heap->Prop} {d:DefRec} {K:Params->W.Frag} {sp:World->Sp} {x:Str} {c T:Addr}
  (hn:l.most=some n) (hn2:n<=sizeLine) (hdf:d.params.defaults=[]) (hr:Room k callerA)
  (hY:∀ (w:World) (h:Heap),YP w h->(K w.params).In h) (hYT:∀ (w:World) (h:Heap),YP w h->h.get? T=some (tabObj #[])) (hKT:∀ w:World,(K w.params).lookup T=none) (hcT:∀ w:World,codeHdIn (K w.params) c T=true)
  (F:∀ (w:World) (mg:Str->Option Value) (fa:Addr) (h:Heap),(K w.params).In h->h.Ns mainGlobals mg->mg d.name=some (.ref fa) ->
   ∃ fd:FuncData,(∀ (s:Shared) (u:Value),BindsTo s fd ⟨[u],[]⟩ [(x,u)]) /\
    ∀ base:Heap,(K w.params).In base->base.Ns mainGlobals mg->base.BuiltinsAt mg T->FnOk l.prog w (K w.params) mg base CX0 k fa fd [x] (sp w))
  (hsp:∀ (w:World) (H:Hp) (a:Addr) (ns:List Int),ns.length<=n->H T=some (.tbl #[])->SqL (K w.params) H a (ns.map V.int)->sp w [.ref a] H (fun v _=>v=.bl true) fun _ _ _=>False) :
  W.WalkO q loose XP YP l.row.toRowW d [] (fun f vs=>PySem.call f vs):=by
 refine Att.zaF hn hdf fun w s₀ s₁ mg mb fa o pm cd doc a vs ns G Y ho hd hcd hmg hobj hints hlen hg=>?_
 have KX:=hY w _ Y
 obtain⟨fd,hb,hF⟩:=F w mg fa _ KX G.T.g hmg
 exact zca KX G.T.g G.T.b G.T.builtins G.T.nolimit hg G.T.bmain (hYT w _ Y) (hKT w) (hcT w) hobj hints (Nat.le_trans hlen hn2) hr hF hb (fun H hO hS=>hsp w H a ns hlen hO hS) fun H e s' h=>h
open PySem PySem.Spec PyProof.Rows
abbrev NK:=List Key×List Key
section
variable {P:Program} {w:World}
def IsNK (P:Program) (w:World) (h:Heap) (k:NK) (a:Addr):Prop :=
 ∃ ob its n c us,h.get? a=some ob/\ob.cls=.type "tuple"/\ob.data=.seq its n/\its.toList=.ref c :: us/\IsTupleKey (zZ P w) h k.1 c/\ItemsAre (zZ P w) k.2 us
def Yp (P:Program) (w:World) (k:NK):List Int:=tupleKeyHash (zZ P w) k.1 :: k.2.map (zZ P w).hash
theorem IsNK.ty {s:Shared} {k:NK} {a:Addr} (x:IsNK P w s.heap k a):s.TypeIs (.ref a) "tuple":=let ⟨ob,_,_,_,_,e,c,_⟩:=x;⟨ob,e,c⟩
theorem IsNK.one {h:Heap} {a:Addr} {x y:NK} (p:IsNK P w h x a) (q:IsNK P w h y a):x=y:=by
 obtain⟨ob,its,n,c,us,e1,_,e2,e3,e4,e5⟩:=p
 obtain⟨ob',its',n',c',us',f1,_,f2,f3,f4,f5⟩:=q
 rw [e1] at f1;cases f1
 rw [e2] at f2;cases f2
 rw [e3] at f3;cases f3
 exact Prod.ext (e4.inj f4) (e5.inj f5)
theorem IsNK.kept {h h':Heap} {k:NK} {a d:Addr} {o:Obj} {es ep} (x:IsNK P w h k a) (ho:h.get? d=some o) (hd:o.data=.dict es ep) (hs:Heap.SameBut d h h'):IsNK P w h' k a:=by
 obtain⟨ob,its,n,c,us,e1,ec,e2,e3,e4,e5⟩:=x
 have ne:a≠d:=fun z=>by
  subst z
  rw [e1] at ho;cases ho
  rw [hd] at e2;cases e2
 exact⟨ob,its,n,c,us,(hs.2 a ne).trans e1,ec,e2,e3,e4.keeps ho hd hs,e5⟩
variable {A:Around} {E:Value->Shared->Prop} {s:Shared}
theorem zeL {k:NK} {a:Addr} {Q:Int->Shared->Prop} (hu:A.units+1<cLine) (hk:IsNK P w s.heap k a) (h:Q (reduceHash (Builtin.Tuple.tupleHashOf (Yp P w k))) { s with toks:=s.toks+(k.1.length+1+k.2.length+1) }) :
  wpAny (model P w) A (pyHash (.ref a)) Q E s:=by
 have tY:=hk.ty
 obtain⟨ob,its,n,c,us,e1,ec,e2,e3,e4,e5⟩:=hk
 unfold pyHash
 first | unfold pyHashByItsType | skip
 first | refine wpAny_bind (wpAny_cRoomFor_or (.inr (Nat.lt_of_succ_lt hu)) ?_) | skip
 refine wpAny_bind (wpAny_specialOf tY F.slot_tuple_hash.lookup ?_)
 show wpAny _ _ (if (some (Value.builtin "tuple.__hash__") == some Value.none)=true then _ else _) Q E s;rw [if_neg (by rw [beq_builtin_none];exact Bool.false_ne_true)]
 refine wpAny_bind (wpAny_specialOf tY F.slot_tuple_hash.lookup ?_)
 show wpAny _ _ (callSpecialIfBoundUnlessNone? (.ref a) "__hash__" _ >>= _) Q E s
 refine wpAny_bind (wpAny_callSpecialIfBoundUnlessNone?_slot tY F.slot_tuple_hash (wpAny_call_entry F.slot_tuple_hash tY F.entry_tuple_hash ?_ (F.args_tuple_hash_1 _)))
 show wpAny _ _ (Builtin.Tuple.tupleItemsOf (.ref a) >>= _) _ _ s
 refine wpAny_bind (wpAny_tupleItemsOf e1 e2 ?_)
 refine wpAny_bind ?_
 rw [<- Array.forIn_toList,e3]
 refine wpAny_forIn_list _
  (fun rest (b:Array Int) s'=>(rest=.ref c :: us/\b=#[]/\s'=s)\/∃ done left,k.2=done++left/\ItemsAre (zZ P w) left rest/\b.toList=tupleKeyHash (zZ P w) k.1 :: done.map (zZ P w).hash/\s'={ s with toks:=s.toks+(k.1.length+1)+done.length })
  _ ?_ ?_ _ _ (.inl ⟨rfl,rfl,rfl⟩)
 ·rintro x rest b s' (⟨z1,rfl,rfl⟩ | ⟨done,left,z1,hl,hb,rfl⟩)
  ·cases z1
   refine wpAny_bind (wpAny_pyHash_tuple (A:=A.in1) hu e4 ?_)
   first
    | exact wpAny_pure (.inr ⟨[],k.2,rfl,e5,rfl,rfl⟩)
    | exact wpAny_bind (wpAny_pure (wpAny_pure (.inr ⟨[],k.2,rfl,e5,rfl,rfl⟩)))
  ·cases hl with
   | @cons i _ is _ h1 hl' =>
    refine wpAny_bind ((zZ P w).pyHash h1 ?_)
    first
     | exact wpAny_pure (.inr ⟨done++[i],is,by rw [z1];simp,hl',by simp [hb],by simp [Nat.add_assoc]⟩)
     | exact wpAny_bind (wpAny_pure (wpAny_pure (.inr ⟨done++[i],is,by rw [z1];simp,hl',by simp [hb],by simp [Nat.add_assoc]⟩)))
 ·rintro b s' (⟨z1,_,_⟩ | ⟨done,left,z1,hl,hb,rfl⟩)
  ·cases z1
  ·cases hl
   rw [List.append_nil] at z1
   show wpAny _ _ (retInt (Builtin.Tuple.tupleHashOf b.toList)) _ _ _
   have eH:b.toList=Yp P w k:=by rw [hb];unfold Yp;rw [z1]
   rw [eH]
   refine wpAny_ret_mkInt ?_
   generalize Builtin.Tuple.tupleHashOf (Yp P w k)=m at h
   show wpAny _ _ (if (decide (-(2:Int)^63<=m) && decide (m<2^63))=true then _ else _) Q E _
   unfold reduceHash at h
   have et:∀ t:Nat,t+(k.1.length+1)+done.length+1=t+(k.1.length+1+k.2.length+1):=fun t=>by rw [z1];omega
   by_cases hr:(decide (-(2:Int)^63<=m) && decide (m<2^63))=true
   ·rw [if_pos hr] at h ⊢
    refine wpAny_pure ?_
    first | (rw [<- et] at h;exact h) | (simp only [Nat.add_assoc] at et ⊢;rw [<- et] at h;exact h)
   ·rw [if_neg hr] at h ⊢
    refine wpAny_bind (wpAny_rule (wpAny_pure ?_))
    first | (rw [<- et] at h;exact h) | (simp only [Nat.add_assoc] at et ⊢;rw [<- et] at h;exact h)
theorem zbi {x y:NK} {a b:Addr} {R:Fin->Shared->Prop} (hu:A.units<cLine) (hx:IsNK P w s.heap x a) (hy:IsNK P w s.heap y b) (h:R (.done (.ret (.bool (decide (x=y))))) s) :
  wpAny (model P w) A (Builtin.«tuple.__eq__» ⟨[.ref a,.ref b],[]⟩) R E s:=by
 have tY:=hy.ty
 obtain⟨oa,ia,na,ca,ua,a1,ac,a2,a3,a4,a5⟩:=hx
 obtain⟨ob,ib,nb,cb,ub,b1,bc,b2,b3,b4,b5⟩:=hy
 have eD:decide (x=y)=(decide (x.1=y.1) && decide (x.2=y.2)):=by
  rw [<- Bool.decide_and];exact decide_eq_decide.mpr Prod.ext_iff
 have eS:(ia.size == ib.size)=(ua.length == ub.length):=by
  rw [<- Array.length_toList,<- Array.length_toList,a3,b3,List.length_cons,List.length_cons];simp
 show wpAny _ _ (isInstance (.ref b) (.type "tuple") >>= _) _ _ s
 refine wpAny_bind (wpAny_isInstance tY isSubtype_tuple_tuple ?_)
 simp only [Bool.not_true,Bool.false_eq_true,if_false]
 refine wpAny_bind (wpAny_tupleItemsOf a1 a2 ?_)
 refine wpAny_bind (wpAny_tupleItemsOf b1 b2 ?_)
 refine wpAny_bind ?_
 refine wpAny_forIn_list _
  (fun rest r s'=>r.1=none/\s'=s/\(rest=List.zip (.ref ca :: ua) (.ref cb :: ub)\/(x.1=y.1/\∃ x' y' xs' ys',rest=List.zip xs' ys'/\ItemsAre (zZ P w) x' xs'/\ItemsAre (zZ P w) y' ys'/\decide (x'=y')=decide (x.2=y.2)/\(xs'.length == ys'.length)=(ua.length == ub.length))))
  _ ?_ ?_ _ _ ⟨rfl,rfl,.inl (by rw [<- a3,<- b3])⟩
 ·rintro⟨u,v⟩ rest r s' ⟨hr,rfl,hz | ⟨hE,x',y',xs',ys',hz,hx',hy',hdec,hlen⟩⟩
  ·simp only [List.zip_cons_cons,List.cons.injEq,Prod.mk.injEq] at hz
   obtain⟨⟨rfl,rfl⟩,rfl⟩:=hz
   refine wpAny_bind (wpAny_eqBool_tuple hu a4 b4 ?_)
   by_cases hk:x.1=y.1
   ·rw [decide_eq_true hk]
    simp only [Bool.not_true,Bool.false_eq_true,if_false]
    exact wpAny_pure ⟨rfl,rfl,.inr ⟨hk,x.2,y.2,ua,ub,rfl,a5,b5,rfl,rfl⟩⟩
   ·rw [decide_eq_false hk]
    simp only [Bool.not_false,if_true]
    rw [eD,decide_eq_false hk,Bool.false_and] at h
    exact wpAny_bind (wpAny_pure (wpAny_pure (wpAny_pure h)))
  ·cases hx' with
   | nil=>simp at hz
   | @cons k1 u' x'' xs'' h1 hx'' =>
    cases hy' with
    | nil=>simp at hz
    | @cons k2 v' y'' ys'' h2 hy'' =>
     simp only [List.zip_cons_cons,List.cons.injEq,Prod.mk.injEq] at hz
     obtain⟨⟨rfl,rfl⟩,rfl⟩:=hz
     refine wpAny_bind ((zZ P w).eqBool (a:=k1) (b:=k2) h1 h2 ?_)
     by_cases hk:k1=k2
     ·subst hk
      rw [decide_eq_true rfl]
      simp only [Bool.not_true,Bool.false_eq_true,if_false]
      exact wpAny_pure ⟨rfl,rfl,.inr ⟨hE,x'',y'',xs'',ys'',rfl,hx'',hy'',by rw [<- hdec];by_cases q:x''=y''<;>simp [q],by simpa using hlen⟩⟩
     ·rw [decide_eq_false hk]
      simp only [Bool.not_false,if_true]
      have hf:decide (x.2=y.2)=false:=by rw [<- hdec];simp [hk]
      rw [eD,hf,Bool.and_false] at h
      exact wpAny_bind (wpAny_pure (wpAny_pure (wpAny_pure h)))
 ·rintro⟨r1,r2⟩ s' ⟨hr,rfl,hz | ⟨hE,x',y',xs',ys',hz,hx',hy',hdec,hlen⟩⟩
  ·simp at hz
  simp only at hr
  subst hr
  refine wpAny_pure ?_
  have fin:(ia.size == ib.size)=decide (x=y):=by
   rw [eS,eD,decide_eq_true hE,Bool.true_and,<- hdec,<- hlen]
   cases hx' with
   | nil =>
    cases hy' with
    | nil=>simp
    | cons _ _=>simp
   | cons _ _ =>
    cases hy' with
    | nil=>simp
    | cons _ _=>simp at hz
  show R (.done (.ret (.bool (ia.size == ib.size)))) s'
  rw [fin];exact h
theorem zgb {x y:NK} {a b:Addr} {Q:Bool->Shared->Prop} (hu:A.units+1<cLine) (hx:IsNK P w s.heap x a) (hy:IsNK P w s.heap y b) (h:Q (decide (x=y)) s):wpAny (model P w) A (eqBool (.ref a) (.ref b)) Q E s:=by
 unfold eqBool
 try with_reducible refine wpAny_holding ?_
 show wpAny _ _ (if (Value.ref a == Value.ref b)=true then _ else _) Q E s
 by_cases hab:(Value.ref a == Value.ref b)=true
 ·rw [if_pos hab]
  have e:a=b:=by have:=eq_of_beq hab;injection this
  subst e
  obtain rfl:=hx.one hy
  exact wpAny_bind (wpAny_rule (wpAny_pure (by simpa using h)))
 ·rw [if_neg hab]
  exact wpAny_bind (wpAny_richCompare_same_room (op:=.Eq) hx.ty hy.ty F.slot_tuple_eq (wpAny_call_entry F.slot_tuple_eq hx.ty F.entry_tuple_eq (zbi (A:=A.in1) hu hx hy ⟨_,rfl,(fun e=>nomatch e),wpAny_truthy_bool h⟩) (F.args_tuple_eq_2 _ _)) (Nat.lt_of_succ_lt hu))
theorem WX {n:Nat} {a:Addr} {ob:Obj} {its m} {Q:Bool->Shared->Prop} (e1:s.heap.get? a=some ob) (ec:ob.cls=.type "tuple") (e2:ob.data=.seq its m) (hq:∀ v∈its.toList,∀ {Q:Bool->Shared->Prop},Q true s->wpAny (model P w) A (eqIsQuiet n v) Q E s) (h:Q true s):wpAny (model P w) A (eqIsQuiet (n+1) (.ref a)) Q E s:=by
 have tY:s.TypeIs (.ref a) "tuple":=⟨ob,e1,ec⟩
 unfold eqIsQuiet
 refine wpAny_bind (wpAny_specialOf tY F.slot_tuple_eq.lookup ?_)
 show wpAny _ _ (isInstance (.ref a) (.type "tuple") >>= _) _ _ s
 refine wpAny_bind (wpAny_isInstance tY isSubtype_tuple_tuple ?_)
 simp only [Bool.not_true,Bool.false_eq_true,if_false]
 refine wpAny_bind (wpAny_seqItems e1 e2 ?_)
 refine wpAny_bind ?_
 show wpAny _ _ (forIn its _ _) _ _ s
 rw [<- Array.forIn_toList]
 refine wpAny_forIn_list _ (fun rest r s'=>r.1=none/\s'=s/\∀ v∈rest,v∈its.toList) _ ?_ ?_ _ _ ⟨rfl,rfl,fun _ z=>z⟩
 ·rintro v rest r s' ⟨hr,rfl,hall⟩
  refine wpAny_bind (hq v (hall v List.mem_cons_self) ?_)
  simp only [Bool.not_true,Bool.false_eq_true,if_false]
  exact wpAny_pure ⟨rfl,rfl,fun u hu'=>hall u (List.mem_cons_of_mem _ hu')⟩
 ·rintro⟨r1,r2⟩ s' ⟨hr,rfl,_⟩
  simp only at hr
  subst hr
  exact wpAny_pure h
theorem V0 {n:Nat} {ks:List Key} {us:List Value} (hi:ItemsAre (zZ P w) ks us):∀ v∈us,∀ {Q:Bool->Shared->Prop},Q true s->wpAny (model P w) A (eqIsQuiet n v) Q E s:=fun v hv Q q=>by
 rw [eqIsQuiet_byValue _ (hi.byValue v hv)];exact wpAny_pure q
theorem zd8 {k:NK} {a:Addr} {Q:Bool->Shared->Prop} (hk:IsNK P w s.heap k a) (h:Q true s):wpAny (model P w) A (eqIsQuiet 8 (.ref a)) Q E s:=by
 obtain⟨ob,its,n,c,us,e1,ec,e2,e3,⟨oc,jts,m,c1,cc,c2,c3⟩,e5⟩:=hk
 refine WX e1 ec e2 (fun v hv=>?_) h
 rw [e3] at hv
 rcases List.mem_cons.mp hv with rfl | hv
 ·exact fun q=>WX c1 cc c2 (V0 c3) q
 ·exact V0 e5 v hv
end
def Zn (P:Program) (w:World):HeapKind P w NK where
 is:=IsNK P w
 hash:=fun k=>reduceHash (Builtin.Tuple.tupleHashOf (Yp P w k))
 draws:=fun k=>k.1.length+1+k.2.length+1
 room:=fun A=>A.units+1<cLine
 inj:=fun p q=>p.one q
 keeps:=fun x ho hd hs=>x.kept ho hd hs
 pyHash:=fun hu hk h=>zeL hu hk h
 eqBool:=fun hu hx hy h=>zgb hu hx hy h
 quiet:=fun hk h=>zd8 hk h
end L2
namespace HT
open PySem PySem.Spec PyProof.Rows
section
variable {prog:Program} {w:World} {A:Around} {E:Value->Shared->Prop} {s:Shared}
theorem zeV {t b:Addr} {ws:List Value} {Q:Value->Shared->Prop} (ht:IsTup s.heap t ([]:List Value).toArray) (hb:IsTup s.heap b ws.toArray) (h:Q (.ref b) s):wpAny (model prog w) A (binaryOp .Add (.ref t) (.ref b)) Q E s:=by
 obtain⟨⟨c1,d1,x1,l1⟩,p1,q1,n1,r1⟩:=id ht
 obtain⟨⟨c2,d2,x2,l2⟩,p2,q2,n2,r2⟩:=id hb
 simp only at q1 r1 q2 r2
 subst q1 r1 q2 r2
 exact concat_meets ⟨_,p1,rfl⟩ ⟨_,p2,rfl⟩ noFill_tuple_add seq_tuple_add PySem.F.slot_tuple_add PySem.F.entry_tuple_add (PySem.F.args_tuple_add_2 _ _) (tuple_addW0 t b #[] ws.toArray n1 n2 d1 d2 l1 l2 rfl) ⟨p1,p2,h⟩
theorem zci {t sl:Addr} {items:Array Value} {vl vu:Value} {lo hi:Option Int} {Q:Value->Shared->Prop} (ht:IsTup s.heap t items) (hs:s.heap.IsSliceOf sl vl vu .none) (pl:IsPart vl lo) (pu:IsPart vu hi)
  (hw:sIx items.size 0 lo=0/\sIx items.size items.size hi=items.size) (h:Q (.ref t) s):wpAny (model prog w) A (getItem (.ref t) (.ref sl)) Q E s:=by
 obtain⟨os,hos,hcs,hds⟩:=id hs
 have tS:s.TypeIs (.ref sl) "slice":=⟨os,hos,hcs⟩
 unfold getItem
 try with_reducible refine wpAny_holding ?_
 first | refine wpAny_bind (wpAny_pure ?_) | skip
 refine wpAny_bind (wpAny_sequenceKey ht.typeIs (by decide) ?_)
 refine wpAny_bind (wpAny_callSpecial?_slot (name:=Str.ofString "__getitem__") ht.typeIs PyProof.Rows.slot_tuple_getitem
  (wpAny_call_entry PyProof.Rows.slot_tuple_getitem ht.typeIs entry_tuple_getitem ?_ (args_tuple_getitem _ _)))
 show wpAny _ _ (Builtin.Tuple.tupleItemsOf (.ref t) >>= _) _ _ s
 refine wpAny_bind (tupleItemsOf_ ht ?_)
 refine wpAny_bind (wpAny_typeOf tS ?_)
 rw [if_pos (by decide)]
 refine wpAny_bind (Zt hs pl pu ?_)
 have yes:(((sIx items.size 0 lo:Nat):Int) == 0 && (1:Int) == 1 && (sIx items.size items.size hi-sIx items.size 0 lo) == items.size)=true:=by
  rw [hw.1,hw.2];simp
 show wpAny _ _ (if (((sIx items.size 0 lo:Nat):Int) == 0 && (1:Int) == 1 && (sIx items.size items.size hi-sIx items.size 0 lo) == items.size)=true then _ else _) _ _ s
 rw [if_pos yes]
 have ex:∀ {R:Bool->Shared->Prop} {E':Value->Shared->Prop},R true s->wpAny (model prog w) A.in1 (Builtin.Tuple.tupleIsExact (.ref t)) R E' s:=fun {R E'} q=>by
  unfold Builtin.Tuple.tupleIsExact
  exact wpAny_bind (wpAny_typeOf ht.typeIs (wpAny_pure (by rw [show (Value.type "tuple" == Value.type "tuple")=true by decide];exact q)))
 first
  | exact wpAny_bind (ex (by simp only [if_true];exact wpAny_bind (wpAny_rule (wpAny_pure ⟨_,rfl,wpAny_pure h⟩))))
  | exact wpAny_bind (wpAny_bind (ex (by simp only [if_true];exact wpAny_bind (wpAny_rule (wpAny_bind (wpAny_pure (wpAny_pure ⟨_,rfl,wpAny_pure h⟩)))))))
  | exact wpAny_bind (ex (by simp only [if_true];exact wpAny_bind (wpAny_rule (wpAny_bind (wpAny_pure (wpAny_pure ⟨_,rfl,wpAny_pure h⟩))))))
end
end HT
namespace L2
open PySem PySem.Spec PyProof.Rows
section
variable {X:Cx}
def zgH:R2:=fun x y H Q=>∃ a b xs ys,x=.ref a/\y=.ref b/\H a=some (.tup xs)/\H b=some (.tup ys)/\xs.length+ys.length<=sizeLine/\∀ p H',Same H H'->H' p=some (.tup (xs++ys))->Q (.ref p) H'
theorem zeU:OpR X (binaryOp .Add) zgH:=by
 intro pins s Z H x y v u Q I rx ry h
 obtain⟨a,b,xs,ys,rfl,rfl,ha,hb,hz,q⟩:=h
 cases rx
 cases ry
 by_cases hx:xs=[]
 ·subst hx
  obtain⟨its,r1,p1,_⟩:=I.tuple (SqT.of ha)
  obtain⟨its2,r2,p2,_⟩:=I.tuple (SqT.of hb)
  obtain rfl:its=[]:=r1.nil_iff.mpr rfl
  exact HT.zeV p1 p2 ⟨.ref b,H,I,rfl,q b H (Same.refl _) hb⟩
 ·refine ze3 pins s Z H (.ref a) (.ref b) (.ref a) (.ref b) Q I rfl rfl ⟨a,b,xs,ys,rfl,rfl,SqT.of ha,SqT.of hb,hx,hz,fun e=>q a H (Same.refl _) (by rw [e,List.append_nil];exact ha),fun _ p hp=>q p _ (zq hp) zj⟩
theorem zeH (K:W.Frag) (e:X.K=K:=by rfl):vB X (.type "tuple") (fun xs H Q=>∃ p ys,xs=[.ref p]/\((SqL K H p ys/\∀ l,H l=none->Q (.ref l) (upd H l (.tup ys)))\/(SqT K H p ys/\Q (.ref p) H))):=by subst e;exact Xd
def zgZ:V->Option Int->Option Int->Hp->VK->Prop:=fun x lo hi H Q=>∃ a xs,x=.ref a/\H a=some (.tup xs)/\∀ p H',Same H H'->H' p=some (.tup (uR xs lo hi))->Q (.ref p) H'
theorem zbY:SlR X zgZ:=by
 intro pins s Z H x v vl vu lo hi sl Q I rx hs pl pu h
 obtain⟨a,xs,rfl,hx,q⟩:=h
 by_cases hw:HT.sIx xs.length 0 lo=0/\HT.sIx xs.length xs.length hi=xs.length
 ·cases rx
  obtain⟨its,r,ht,hz⟩:=I.tuple (SqT.of hx)
  have hlen:its.toArray.size=xs.length:=by rw [List.size_toArray];exact r.length.symm
  refine⟨"tuple",_,PyProof.Rows.slot_tuple_getitem.lookup,ht.typeIs,?_⟩
  refine HT.zci ht hs pl pu (by rw [hlen];exact hw) ⟨.ref a,H,I,rfl,q a H (Same.refl _) ?_⟩
  unfold uR
  rw [hw.1,hw.2,List.drop_zero,Nat.sub_zero,List.take_length]
  exact hx
 ·exact zfj pins s Z H (.ref a) v vl vu lo hi sl Q I rx hs pl pu ⟨a,xs,rfl,SqT.of hx,hw,fun p hp=>q p _ (zq hp) zj⟩
end
def Q5 (P:Program) (w:World) (a:Addr) (xs:List (NK×Addr×Value)):Heap->Prop:=fun h=>∃ o es ep,h.get? a=some o/\o.ExactDict/\o.data=.dict es ep/\es.toList=xs.map (entryOfKey (Zn P w))/\(xs.map (·.1)).Nodup
def NTup (H:Hp) (k:NK) (b:Addr):Prop:=∃ c,H b=some (.tup (.ref c :: k.2.map kV))/\H c=some (.tup (k.1.map kV))
theorem NTup.same {H H':Hp} {k:NK} {b:Addr} (h:NTup H k b) (s:∀ b xs,H b=some (.tup xs)->H' b=some (.tup xs)):NTup H' k b:=let ⟨c,h1,h2⟩:=h;⟨c,s _ _ h1,s _ _ h2⟩
abbrev KN (H:Hp):List (NK×V)->List (NK×Addr×Value)->Prop:=Paired fun p q=>p.1=q.1/\NTup H p.1 q.2.1/\RelV p.2 q.2.2
theorem KN.val {H:Hp} {kvs:List (NK×V)} {xs:List (NK×Addr×Value)} (r:KN H kvs xs) (k:NK):RelO (wX kvs k) ((atKey xs k).map (·.2)):=by
 induction r with
 | nil=>exact True.intro
 | @cons p q ps qs h t ih =>
  obtain⟨h1,_,h2⟩:=h
  by_cases e:p.1=k
  ·have e':q.1=k:=h1.symm.trans e
   rw [wA e,show atKey (q :: qs) k=some q.2 by simp [atKey,List.find?_cons,e']];exact h2
  ·have e':¬ q.1=k:=fun z=>e (h1.trans z)
   rw [wy e,show atKey (q :: qs) k=atKey qs k by simp [atKey,List.find?_cons,e']];exact ih
theorem KN.put {H:Hp} {kvs:List (NK×V)} {xs:List (NK×Addr×Value)} (r:KN H kvs xs) (k:NK) {b:Addr} {y:V} {u:Value} (hb:NTup H k b) (ry:RelV y u):KN H (putK kvs k y) (storedH xs k b u):=by
 have e:(kvs.any fun kv=>decide (kv.1=k))=(atKey xs k).isSome:=by
  rw [qK,(r.val k).isSome_eq,Option.isSome_map]
 have rep:∀ {kvs:List (NK×V)} {xs:List (NK×Addr×Value)},KN H kvs xs->KN H (kvs.map fun kv=>if kv.1=k then (kv.1,y) else kv) (xs.map (putAt k u)):=fun {kvs xs} r=>by
  induction r with
  | nil=>exact .nil
  | @cons p q ps qs h t ih =>
   rw [List.map_cons,List.map_cons]
   refine .cons ?_ ih
   obtain⟨h1,h2,h3⟩:=h
   unfold putAt
   by_cases e:p.1=k
   ·rw [if_pos e,if_pos (h1.symm.trans e)];exact⟨h1,h2,ry⟩
   ·rw [if_neg e,if_neg (fun z=>e (h1.trans z))];exact⟨h1,h2,h3⟩
 unfold putK storedH
 rw [e]
 by_cases q:(atKey xs k).isSome=true
 ·rw [if_pos q,if_pos q];exact rep r
 ·rw [if_neg q,if_neg q];exact Paired.snoc r ⟨rfl,hb,ry⟩
theorem KN.keeps {H H':Hp} {kvs:List (NK×V)} {xs:List (NK×Addr×Value)} (r:KN H kvs xs) (s:∀ b xs,H b=some (.tup xs)->H' b=some (.tup xs)):KN H' kvs xs:=Paired.mapP r fun _ _ z=>⟨z.1,z.2.1.same s,z.2.2⟩
def DN (P:Program) (w:World) (H:Hp) (a:Addr) (kvs:List (NK×V)):Prop:=∃ xs,H a=some (.ext (Q5 P w a xs))/\KN H kvs xs/\kvs.length<=sizeLine/\(a == sysModules)=false
theorem DN.same {P:Program} {w:World} {H H':Hp} {a:Addr} {kvs:List (NK×V)} (h:DN P w H a kvs) (s:Same H H'):DN P w H' a kvs:=let ⟨xs,h1,h2,h3⟩:=h;⟨xs,s _ _ h1,h2.keeps fun b xs e=>s _ _ e,h3⟩
theorem DN.stay {P:Program} {w:World} {H H':Hp} {a:Addr} {kvs:List (NK×V)} (h:DN P w H a kvs) (e:H' a=H a) (s:∀ b xs,H b=some (.tup xs)->H' b=some (.tup xs)):DN P w H' a kvs:=let ⟨xs,h1,h2,h3⟩:=h;⟨xs,by rw [e];exact h1,h2.keeps s,h3⟩
theorem DN.ne {P:Program} {w:World} {H:Hp} {a b:Addr} {kvs:List (NK×V)} {xs:List V} (h:DN P w H a kvs) (e:H b=some (.tup xs)):b≠a:=let ⟨_,h1,_⟩:=h;Y7 e h1 (fun z=>nomatch z)
section
variable {P:Program} {w:World} {H:Hp} {h:Heap} {a b:Addr} {k:NK}
theorem zbK (ok:HOk P w H h) (e:NTup H k b):IsNK P w h k b:=by
 obtain⟨c,e1,e2⟩:=e
 obtain⟨_,its,r,o,h1,h2,n,h3⟩:=(show ObjOk P w H h b (.tup (.ref c :: k.2.map kV)) from ok b _ e1)
 cases r with
 | @cons _ v _ vs hv hr =>
  obtain rfl:v=.ref c:=hv
  exact⟨o,_,n,c,vs,h1,h2,h3,by simp,zaX ok e2,WF hr⟩
theorem zb4 {kvs:List (NK×V)} (ok:HOk P w H h) (d:DN P w H a kvs):∃ xs,KN H kvs xs/\h.DictOfH (Zn P w) a xs:=by
 obtain⟨xs,e,r,_,_⟩:=d
 obtain⟨⟨o,es,ep,h1,h2,h3,h4,h5⟩,_⟩:=(show ObjOk P w H h a (.ext (Q5 P w a xs)) from ok a _ e)
 refine⟨xs,r,o,es,ep,h1,h2,h3,h4,?_,h5⟩
 have all:∀ {l:List (NK×V)} {m:List (NK×Addr×Value)},KN H l m->∀ x∈m,(Zn P w).is h x.1 x.2.1:=fun {l m} q=>by
  induction q with
  | nil=>intro x hx;exact nomatch hx
  | @cons p q ps qs hq t ih =>
   intro x hx
   rcases List.mem_cons.mp hx with e | hx
   ·subst e
    exact zbK ok (by rw [<- hq.1];exact hq.2.1)
   ·exact ih x hx
 exact all r
theorem zbE {xs:List (NK×Addr×Value)} {h':Heap} {H':Hp} (p:Q5 P w a xs h'):ObjOk P w H' h' a (.ext (Q5 P w a xs)) :=
 ⟨p,let ⟨o,_,_,e,_⟩:=p;⟨o,e⟩,fun h1 h2 ⟨o,es,ep,e,c⟩ k=>⟨o,es,ep,k _ e,c⟩⟩
end
section
variable {X:Cx} {pins:List (Addr×Obj)} {Z:St} {H:Hp} {s:Shared} {a b:Addr} {v:V} {u r:Value} {A:Around} {E:Value->Shared->Prop} {kvs:List (NK×V)} {k:NK}
theorem zcf {Q:Value->Shared->Prop} (hu:A.units+2<cLine) (I:Inv X pins Z H s) (d:DN X.prog X.w H a kvs) (t:NTup H k b) (l:wX kvs k=some v) (h:∀ w' s',Inv X pins Z H s'->RelV v w'->Q w' s'):wpAny (model X.prog X.w) A (getItem (.ref a) (.ref b)) Q E s:=by
 obtain⟨xs,rel,dd⟩:=zb4 I.hok d
 obtain⟨w',hw,rw'⟩:=RelO.some_of (v:=v) (o:=(atKey xs k).map (·.2)) (by rw [<- l];exact rel.val k)
 obtain⟨p,hp,hp2⟩:=Option.map_eq_some_iff.mp hw
 refine wpAny_getItem_heap (knd:=Zn X.prog X.w) (A:=A) hu (zbK I.hok t) dd hp ?_
 rw [hp2]
 exact h w' _ (I.tok _) rw'
theorem zeK {Q:Value->Shared->Prop} (hu:A.units+2<cLine) (I:Inv X pins Z H s) (d:DN X.prog X.w H a kvs) (t:NTup H k b) (h:∀ s',Inv X pins Z H s'->Q (.bool (!(wX kvs k).isSome)) s'):wpAny (model X.prog X.w) A (compareOp .NotIn (.ref b) (.ref a)) Q E s:=by
 obtain⟨xs,rel,dd⟩:=zb4 I.hok d
 obtain⟨_,_,_,_,hd⟩:=d
 refine wpAny_notIn_heap (knd:=Zn X.prog X.w) (A:=A) hu (zbK I.hok t) hd dd ?_
 have q:=(rel.val k).isSome_eq
 rw [Option.isSome_map] at q
 rw [<- q]
 exact h _ (I.tok _)
theorem zcJ {Q:Unit->Shared->Prop} (hu:A.units+2<cLine) (I:Inv X pins Z H s) (d:DN X.prog X.w H a kvs) (t:NTup H k b) (hl:kvs.length<sizeLine) (rv:RelV v r)
  (h:∀ s' H',DN X.prog X.w H' a (putK kvs k v)->(∀ b,b≠a->H' b=H b)->Inv X pins Z H' s'->Q () s'):wpAny (model X.prog X.w) A (setItem (.ref a) (.ref b) r) Q E s:=by
 obtain⟨xs,rel,dd⟩:=zb4 I.hok d
 have nt:=fun b ys=>d.ne (b:=b) (xs:=ys)
 obtain⟨ys,e,_,z,hd⟩:=d
 have hz:xs.length<=sizeLine:=by rw [<- Paired.length rel];exact z
 refine wpAny_setItem_heap (knd:=Zn X.prog X.w) (A:=A) (hsz:=hz) hu (zbK I.hok t) dd fun h' dd' hs=>?_
 obtain⟨q,es,ep,hq,h2,h3,h4,_,h5⟩:=dd'
 have sm:∀ c,c≠a->upd H a (.ext (Q5 X.prog X.w a (storedH xs k b r))) c=H c:=fun c hc=>zx hc
 refine h _ _ ⟨storedH xs k b r,zj,(rel.put k t rv).keeps fun c zs ec=>by rw [zx (nt c zs ec)];exact ec,by have:=jO kvs k v;omega,hd⟩ sm (Jc I (by rw [e];exact True.intro) hs ⟨q,hq⟩ (zbE ⟨q,es,ep,hq,h2,h3,h4,h5⟩))
theorem zc3 (I:Inv X pins Z H s) (d:DN X.prog X.w H a kvs):s.TypeIs (.ref a) "dict":=let ⟨_,_,dd⟩:=zb4 I.hok d;dd.typeIs
end
theorem Xx {A:Around} {k:Nat} (hr:Room k A):A.units+2<cLine:=by have:=hr.units;omega
def zgQ (P:Program) (w:World) (td ty:TE):TE:=fun Z H Q=>td Z H fun x H1=>ty Z H1 fun y H2=>∃ a kvs k b v,x=.ref a/\DN P w H2 a kvs/\y=.ref b/\NTup H2 k b/\wX kvs k=some v/\Q v H2
def zeX (P:Program) (w:World) (ty td:TE):TE:=fun Z H Q=>ty Z H fun y H1=>td Z H1 fun x H2=>∃ a kvs k b,x=.ref a/\DN P w H2 a kvs/\y=.ref b/\NTup H2 k b/\Q (.bl (!(wX kvs k).isSome)) H2
def zgJ (P:Program) (w:World) (td ty tv:TE):TS:=fun D Z H=>tv Z H fun v H1=>td Z H1 fun x H2=>ty Z H2 fun y H3=>∃ a kvs k b,x=.ref a/\DN P w H3 a kvs/\y=.ref b/\NTup H3 k b/\kvs.length<sizeLine/\∀ H4,DN P w H4 a (putK kvs k v)->(∀ c,c≠a->H4 c=H3 c)->D.nx Z H4
def zf6 (P:Program) (w:World):TE:=fun _ H Q=>∀ p H',H p=none->DN P w H' p []->(∀ c,c≠p->H' c=H c)->Q (.ref p) H'
section
variable {X:Cx} {o i value:Expr} {pos pos':Pos} {td ty tv:TE}
theorem zbI (hu:X.A.units+2<cLine) (ho:PE X o td) (hi:PE X i ty) (hs:zgj i):PE X (.Subscript o i pos) (zgQ X.prog X.w td ty):=by
 intro pins s Z H Q I h
 refine zes PySem.F.slot_dict_getitem.lookup hs (thn (ho pins s Z H _ I h) fun u s1 ⟨x,H1,I1,rx,q1⟩=>thn (hi pins s1 Z H1 _ I1 q1) fun iv s2 ⟨y,H2,I2,ry,a,kvs,k,b,v,ex,d,ey,t,l,q2⟩=>?_)
 subst ex ey
 obtain rfl:u=Value.ref a:=rx
 obtain rfl:iv=Value.ref b:=ry
 exact⟨zc3 I2 d,zcf hu I2 d t l fun w' s3 I3 rw'=>⟨v,H2,I3,rw',q2⟩⟩
theorem Ql (hu:X.A.units+2<cLine) (hi:PE X i ty) (ho:PE X o td):PC X .NotIn i o (zeX X.prog X.w ty td):=by
 intro pins s Z H Q I h
 refine thn (hi pins s Z H _ I h) fun iv s1 ⟨y,H1,I1,ry,q1⟩=>thn (ho pins s1 Z H1 _ I1 q1) fun u s2 ⟨x,H2,I2,rx,a,kvs,k,b,ex,d,ey,t,q2⟩=>?_
 subst ex ey
 obtain rfl:u=Value.ref a:=rx
 obtain rfl:iv=Value.ref b:=ry
 exact zeK hu I2 d t fun s3 I3=>⟨.bl _,H2,I3,rfl,q2⟩
theorem Jw (hu:X.A.units+2<cLine) (ho:PE X o td) (hi:PE X i ty) (hv:PE X value tv) (hs:swapsWith value (some (.Subscript o i pos')) pos.line X.env=pure false) :
  PS X (.Assign [.Subscript o i pos'] value pos) (zgJ X.prog X.w td ty tv):=by
 intro pins s Z H D I h
 refine wpAny_Assign_Subscript (thn (hv pins s Z H _ I h) fun r s1 ⟨v,H1,I1,rv,q1⟩=>thn (ho pins s1 Z H1 _ I1 q1) fun u s2 ⟨x,H2,I2,rx,q2⟩=>thn (hi pins s2 Z H2 _ I2 q2) fun iv s3 ⟨y,H3,I3,ry,a,kvs,k,b,ex,d,ey,t,hl,q3⟩=>?_) hs
 subst ex ey
 obtain rfl:u=Value.ref a:=rx
 obtain rfl:iv=Value.ref b:=ry
 exact zcJ hu I3 d t hl rv fun s4 H4 d4 c4 I4=>⟨Z,H4,I4,q3 H4 d4 c4⟩
theorem ze5:PE X (.Dict [] [] pos) (zf6 X.prog X.w):=fun pins s Z H Q I h=>by
 have p0:Q5 X.prog X.w s.heap.objs.size [] (s.heap.push { cls:=.type "dict",data:=.dict #[] }):=⟨_,#[],0,Heap.get?_push_size _ rfl,⟨rfl,rfl,rfl⟩,rfl,rfl,List.nodup_nil⟩
 have fr:=I.hok.fresh (Nat.le_refl s.heap.objs.size)
 exact wpAny_Dict_empty ⟨.ref s.heap.objs.size,_,I.laid (a:=s.heap.objs.size) (o:=.ext (Q5 X.prog X.w s.heap.objs.size [])) (t':=s.toks) (fun _ _ q=>Heap.get?_push_of_some _ q) (Nat.le_refl _) (zbE p0),rfl,h _ _ fr ⟨[],zj,.nil,Nat.zero_le _,beq_eq_false_iff_ne.mpr (Ne.symm (Nat.ne_of_lt I.big))⟩ fun c hc=>zx hc⟩
end
end L2
namespace Lw
def yu (b n:Nat):List Int:=if h:2<=b/\b<=n then yu b (n / b)++[((n % b:Nat):Int)] else [(n:Int)]
termination_by n
decreasing_by exact Nat.div_lt_self (by omega) (by omega)
theorem wI {b n:Nat} (h:n<b):yu b n=[(n:Int)]:=by
 rw [yu,dif_neg (by omega)]
theorem ZJ {b n:Nat} (h2:2<=b) (h:b<=n):yu b n=yu b (n / b)++[((n % b:Nat):Int)]:=by
 rw [yu,dif_pos ⟨h2,h⟩]
def ahead (b r:Nat):List Int:=if r=0 then [] else yu b r
theorem Qj {b n:Nat} (h2:2<=b):yu b n=ahead b (n / b)++[((n % b:Nat):Int)]:=by
 unfold ahead
 by_cases h:n<b
 ·rw [wI h,if_pos (Nat.div_eq_of_lt h),Nat.mod_eq_of_lt h];rfl
 ·rw [ZJ h2 (by omega),if_neg]
  have:=Nat.div_pos (a:=n) (b:=b) (by omega) (by omega)
  omega
theorem zaS {b r:Nat} (h2:2<=b) (hr:0<r):ahead b r=ahead b (r / b)++[((r % b:Nat):Int)]:=by
 rw [<- Qj h2]
 unfold ahead
 rw [if_neg (by omega)]
theorem YB {b:Nat} (h2:2<=b):∀ (m n:Nat),n<2^m->(yu b n).length<=m+1
 | 0,n,h=>by rw [wI (by simp at h;omega)];simp
 | m+1,n,h=>by
  by_cases hn:n<b
  ·rw [wI hn];simp
  ·rw [ZJ h2 (by omega),List.length_append,List.length_singleton]
   have h3:n / b<=n / 2:=Nat.div_le_div_left h2 (by omega)
   have h4:n / 2<2^m:=by rw [Nat.pow_succ] at h;omega
   have:=YB h2 m (n / b) (by omega)
   omega
theorem zcY {b:Nat} (h2:2<=b):∀ (n:Nat),∀ f∈yu b n,0<=f/\f<b:=by
 intro n
 induction n using Nat.strongRecOn with
 | _ n ih =>
  intro f hf
  by_cases hn:n<b
  ·rw [wI hn] at hf
   have:f=(n:Int):=by simpa using hf
   omega
  ·rw [ZJ h2 (by omega)] at hf
   rcases List.mem_append.mp hf with hf | hf
   ·exact ih (n / b) (Nat.div_lt_self (by omega) (by omega)) f hf
   ·have e:f=((n % b:Nat):Int):=by simpa using hf
    have:=Nat.mod_lt n (show 0<b by omega)
    omega
theorem zbX {b n:Nat}:yu b n≠[]:=by
 rw [yu]
 split
 ·simp
 ·simp
def tops (b:Nat):Nat->Nat->List Int
 | 0,n=>[((n / b^0:Nat):Int)]
 | k+1,n=>((n / b^(k+1):Nat):Int) :: tops b k (n % b^(k+1))
theorem Qo {b:Nat}:∀ (k n:Nat),tops b (k+1) n=tops b k (n / b)++[((n % b:Nat):Int)]
 | 0,n=>by simp [tops]
 | k+1,n=>by
  rw [tops,Qo k (n % b^(k+2)),tops,List.cons_append]
  have e:b^(k+1+1)=b*b^(k+1):=by rw [Nat.pow_succ,Nat.mul_comm]
  have e1:n % b^(k+1+1) / b=n / b % b^(k+1):=by rw [e,Nat.mod_mul_right_div_self]
  have e2:n % b^(k+1+1) % b=n % b:=by rw [e,Nat.mod_mul_right_mod]
  have e3:n / b^(k+1+1)=n / b / b^(k+1):=by rw [e,Nat.div_div_eq_div_mul]
  rw [e1,e2,e3]
theorem YH {b:Nat} (h2:2<=b):∀ (k n:Nat),n<b^(k+1)->(k=0\/b^k<=n)->tops b k n=yu b n
 | 0,n,h,_=>by
  rw [wI (by simpa using h)];simp [tops]
 | k+1,n,h,hk=>by
  have hge:b^(k+1)<=n:=by
   rcases hk with z | z
   ·omega
   ·exact z
  have hb:b<=n:=Nat.le_trans (by rw [Nat.pow_succ];exact Nat.le_mul_of_pos_left b (Nat.pow_pos (by omega))) hge
  rw [Qo,ZJ h2 hb]
  have h3:n / b<b^(k+1):=by
   rw [Nat.div_lt_iff_lt_mul (by omega),<- Nat.pow_succ];exact h
  have h4:b^k<=n / b:=by
   rw [Nat.le_div_iff_mul_le (by omega),<- Nat.pow_succ];exact hge
  rw [YH h2 k (n / b) h3 (.inr h4)]
theorem zah {b:Nat}:∀ (k n:Nat),(tops b k n).length=k+1
 | 0,n=>rfl
 | k+1,n=>by rw [tops,List.length_cons,zah k]
def Yx (b:Int) (ns:List Int):Int:=ns.foldl (fun n f=>n*b+f) 0
theorem YF (b:Int):∀ (ns:List Int) (n0:Int),ns.foldl (fun n f=>n*b+f) n0=n0*b^ns.length+Yx b ns
 | [],n0=>by simp [Yx]
 | f :: ns,n0=>by
  unfold Yx
  rw [List.foldl_cons,List.foldl_cons,YF b ns,YF b ns (0*b+f),List.length_cons,Int.pow_succ]
  rw [Int.zero_mul,Int.zero_add,Int.add_mul,Int.mul_assoc,Int.mul_comm b,Int.add_assoc]
theorem Qt (b f:Int) (ns:List Int):Yx b (f :: ns)=f*b^ns.length+Yx b ns:=by
 have:=YF b (f :: ns) 0
 unfold Yx at *
 rw [List.foldl_cons] at *
 rw [YF b ns (0*b+f)]
 unfold Yx
 rw [Int.zero_mul,Int.zero_add]
theorem QJ (b f:Int) (ns:List Int):Yx b (ns++[f])=Yx b ns*b+f:=by
 unfold Yx;rw [List.foldl_append];rfl
structure za5 (b:Nat) (ns:List Int):Prop where
 ne:ns≠[]
 len:ns.length<=200
 fig:∀ f∈ns,0<=f/\f<b
 first:ns.head?≠some 0\/ns.length=1
def Y0 (st fs:List Int):Bool:=(List.range fs.length).any fun k=>decide ((fs.drop k).take st.length=st)
theorem uc {st fs:List Int} (h:st≠[]):Y0 st fs=true↔∃ k,(fs.drop k).take st.length=st:=by
 unfold Y0
 simp only [List.any_eq_true,List.mem_range,decide_eq_true_eq]
 constructor
 ·rintro⟨k,_,e⟩;exact⟨k,e⟩
 ·rintro⟨k,e⟩
  refine⟨k,?_,e⟩
  have hl:=congrArg List.length e
  rw [List.length_take,List.length_drop] at hl
  have:0<st.length:=List.length_pos_iff.mpr h
  omega
theorem zbp {st fs:List Int} (h:st≠[]):Y0 st fs=(List.range ((fs.length:Int)-st.length+1).toNat).any fun k=>decide ((fs.drop k).take st.length=st):=by
 rw [Bool.eq_iff_iff,uc h]
 simp only [List.any_eq_true,List.mem_range,decide_eq_true_eq]
 constructor
 ·rintro⟨k,e⟩
  refine⟨k,?_,e⟩
  have hl:=congrArg List.length e
  rw [List.length_take,List.length_drop] at hl
  have:0<st.length:=List.length_pos_iff.mpr h
  omega
 ·rintro⟨k,_,e⟩;exact⟨k,e⟩
def lacks (ls:ZA) (fs:List Int):Bool:=!ls.any fun st=>Y0 st fs
theorem zcb {b:Nat} (h2:2<=b):∀ n:Nat,0<n->(yu b n).head?≠some 0:=by
 intro n
 induction n using Nat.strongRecOn with
 | _ n ih =>
  intro hn
  by_cases h:n<b
  ·rw [wI h];simp;omega
  ·rw [ZJ h2 (by omega)]
   have q:=ih (n / b) (Nat.div_lt_self hn (by omega)) (Nat.div_pos (by omega) (by omega))
   cases e:yu b (n / b) with
   | nil=>exact absurd e zbX
   | cons x y=>rw [e] at q;simpa using q
theorem zcE {b n f:Nat} (h2:2<=b) (hn:0<n) (hf:f<b):yu b (n*b+f)=yu b n++[(f:Int)]:=by
 have hge:b<=n*b+f:=Nat.le_trans (Nat.le_mul_of_pos_left b hn) (Nat.le_add_right _ _)
 have e1:(n*b+f) / b=n:=by rw [Nat.mul_comm,Nat.mul_add_div (by omega),Nat.div_eq_of_lt hf];rfl
 have e2:(n*b+f) % b=f:=by rw [Nat.mul_comm,Nat.mul_add_mod,Nat.mod_eq_of_lt hf]
 rw [ZJ h2 hge,e1,e2]
theorem zcm {b:Nat} (h2:2<=b):∀ (k:Nat) (st:List Int),st.length=k->st≠[]->(∀ f∈st,0<=f/\f<(b:Int))->(st.head?≠some 0\/st.length=1)->∃ n:Nat,Yx b st=n/\yu b n=st/\(st.head?≠some 0->0<n):=by
 intro k
 induction k with
 | zero=>intro st hk ne;exact absurd (List.eq_nil_of_length_eq_zero hk) ne
 | succ k ih =>
  intro st hk ne hf h0
  obtain⟨ini,x,rfl⟩:∃ ini x,st=ini++[x]:=⟨st.dropLast,st.getLast ne,(List.dropLast_concat_getLast ne).symm⟩
  have hx:=hf x (by simp)
  obtain⟨g,rfl⟩:=Int.eq_ofNat_of_zero_le hx.1
  cases hi:ini with
  | nil =>
   subst hi
   refine⟨g,by simp [Yx],by rw [wI (by omega)];rfl,fun h=>?_⟩
   have:(g:Int)≠0:=by simpa using h
   omega
  | cons y ys =>
   have hne:ini≠[]:=by rw [hi];simp
   have hhead:ini.head?≠some 0:=by
    rcases h0 with h | h
    ·rw [hi] at h ⊢;simpa using h
    ·rw [hi] at h;simp at h
   obtain⟨m,e1,e2,e3⟩:=ih ini (by simpa using hk) hne (fun f hm=>hf f (by simp [hm])) (.inl hhead)
   have hm:=e3 hhead
   rw [<- hi]
   refine⟨m*b+g,?_,?_,fun _=>?_⟩
   ·rw [QJ,e1];push_cast;rfl
   ·rw [zcE h2 hm (by omega),e2]
   ·have:=Nat.le_mul_of_pos_right m (show 0<b by omega);omega
theorem zdN {st fs gs:List Int} (h:st≠[]) (q:Y0 st fs=true):Y0 st (fs++gs)=true:=by
 rw [uc h] at q ⊢
 obtain⟨k,e⟩:=q
 refine⟨k,?_⟩
 have hl:=congrArg List.length e
 rw [List.length_take,List.length_drop] at hl
 have hp:0<st.length:=List.length_pos_iff.mpr h
 rw [List.drop_append_of_le_length (by omega),List.take_append_of_le_length (by rw [List.length_drop];omega)]
 exact e
theorem jh {ls:ZA} {fs gs:List Int} (ne:∀ l∈ls,l≠[]) (h:lacks ls (fs++gs)=true):lacks ls fs=true:=by
 unfold lacks at *
 rw [Bool.not_eq_true',List.any_eq_false] at h ⊢
 intro l hl q
 exact h l hl (zdN (ne l hl) q)
theorem zbx {ls:ZA} {st:List Int} (h:st∈ls) (ne:st≠[]) (pre:List Int):lacks ls (pre++st)=false:=by
 unfold lacks
 rw [Bool.not_eq_false',List.any_eq_true]
 refine⟨st,h,(uc ne).mpr ⟨pre.length,?_⟩⟩
 rw [List.drop_left,List.take_of_length_le (Nat.le_refl _)]
def uv (ls:ZA) (fs:List Int):Bool:=ls.any fun st=>decide (st.take fs.length=fs)
def zG (ls:ZA):List Int->List Int
 | []=>[]
 | x :: fs=>if uv ls (x :: fs) then x :: fs else zG ls fs
theorem Z2 {ls:ZA}:∀ (i:Nat) (fs:List Int),i<=fs.length->(∀ k,k<i->uv ls (fs.drop k)=false)->zG ls fs=zG ls (fs.drop i)
 | 0,_,_,_=>rfl
 | i+1,[],h,_=>by simp at h
 | i+1,x :: fs,h,q=>by
  have h0:=q 0 (by omega)
  rw [List.drop_zero] at h0
  rw [zG,if_neg (by rw [h0];decide),List.drop_succ_cons]
  exact Z2 i fs (by simpa using h) fun k hk=>by have:=q (k+1) (by omega);rwa [List.drop_succ_cons] at this
theorem VL {ls:ZA} {fs:List Int} (h:uv ls fs=true):zG ls fs=fs:=by
 cases fs with
 | nil=>rfl
 | cons x fs=>rw [zG,if_pos h]
theorem zdF {ls:ZA} {fs:List Int} {i:Nat} (hi:i<=fs.length) (h:∀ k,k<i->uv ls (fs.drop k)=false) (q:uv ls (fs.drop i)=true):zG ls fs=fs.drop i:=by
 rw [Z2 i fs hi h,VL q]
theorem zbA {ls:ZA} {fs:List Int} (h:∀ k,k<fs.length->uv ls (fs.drop k)=false):zG ls fs=[]:=by
 rw [Z2 fs.length fs (Nat.le_refl _) h,List.drop_length];rfl
def Wr (ls:ZA) (x:List Int):Prop:=x=[]\/∃ st∈ls,∃ k,1<=k/\k<st.length/\x=st.take k/\lacks ls x=true
structure StandsL (ls:ZA) (xs:ZA):Prop where
 mem:∀ x,x∈xs↔Wr ls x
 up:xs.Pairwise fun x y=>HT.vP x y=true
theorem zav {ls:ZA} (h:∀ st∈ls,st.length<=4) {x:List Int} (q:Wr ls x):x.length<=3:=by
 rcases q with rfl | ⟨st,hst,k,h1,h2,rfl,_⟩
 ·decide
 ·have:=h st hst
  rw [List.length_take];omega
theorem zcg {ls:ZA} {y:List Int} {x:Int} (h:uv ls (y++[x])=true):uv ls y=true:=by
 unfold uv at *
 rw [List.any_eq_true] at h ⊢
 obtain⟨st,hst,q⟩:=h
 refine⟨st,hst,decide_eq_true ?_⟩
 have q:=of_decide_eq_true q
 have e:=congrArg (List.take y.length) q
 rw [List.take_left,List.take_take,List.length_append] at e
 rw [Nat.min_eq_left (by omega)] at e
 exact e
theorem jy {ls:ZA}:∀ fs:List Int,∃ j,j<=fs.length/\zG ls fs=fs.drop j/\(∀ k,k<j->uv ls (fs.drop k)=false)/\(j<fs.length->uv ls (fs.drop j)=true)
 | []=>⟨0,Nat.le_refl _,rfl,fun k hk=>by omega,fun h=>by simp at h⟩
 | x :: fs=>by
  by_cases h:uv ls (x :: fs)=true
  ·exact⟨0,Nat.zero_le _,by rw [zG,if_pos h];rfl,fun k hk=>by omega,fun _=>h⟩
  ·obtain⟨j,h1,h2,h3,h4⟩:=jy (ls:=ls) fs
   refine⟨j+1,by rw [List.length_cons];omega,by rw [zG,if_neg h,h2,List.drop_succ_cons],fun k hk=>?_,fun hj=>by rw [List.drop_succ_cons];exact h4 (by rw [List.length_cons] at hj;omega)⟩
   cases k with
   | zero=>rw [List.drop_zero];simpa using h
   | succ k=>rw [List.drop_succ_cons];exact h3 k (by omega)
theorem uo {ls:ZA} (fs:List Int) (x:Int):zG ls (zG ls fs++[x])=zG ls (fs++[x]):=by
 obtain⟨j,h1,h2,h3,_⟩:=jy (ls:=ls) fs
 rw [h2,Z2 j (fs++[x]) (by rw [List.length_append];omega) (fun k hk=>?_),List.drop_append_of_le_length h1]
 rw [List.drop_append_of_le_length (by omega)]
 cases e:uv ls (fs.drop k++[x]) with
 | false=>rfl
 | true=>rw [<- h3 k hk,zcg e]
theorem zcA {st fs:List Int} (ne:st≠[]) {j:Nat} (h:Y0 st (fs.drop j)=true):Y0 st fs=true:=by
 rw [uc ne] at h ⊢
 obtain⟨k,e⟩:=h
 exact⟨j+k,by rw [<- List.drop_drop];exact e⟩
theorem Uh {ls:ZA} (ne:∀ l∈ls,l≠[]) {fs:List Int} (j:Nat) (h:lacks ls fs=true):lacks ls (fs.drop j)=true:=by
 unfold lacks at *
 rw [Bool.not_eq_true',List.any_eq_false] at h ⊢
 intro st hst q
 exact h st hst (zcA (ne st hst) q)
theorem uz {ls:ZA} (ne:∀ l∈ls,l≠[]) {fs:List Int} (x:Int) (h:lacks ls fs=true):lacks ls (zG ls fs++[x])=lacks ls (fs++[x]):=by
 obtain⟨j,h1,h2,h3,_⟩:=jy (ls:=ls) fs
 rw [h2,<- List.drop_append_of_le_length h1]
 rw [Bool.eq_iff_iff]
 constructor
 ·intro q
  unfold lacks at *
  rw [Bool.not_eq_true',List.any_eq_false] at h q ⊢
  intro st hst hs
  rw [uc (ne st hst)] at hs
  obtain⟨k,e⟩:=hs
  have hp:0<st.length:=List.length_pos_iff.mpr (ne st hst)
  have hl:=congrArg List.length e
  rw [List.length_take,List.length_drop,List.length_append,List.length_singleton] at hl
  by_cases hin:k+st.length<=fs.length
  ·refine h st hst ((uc (ne st hst)).mpr ⟨k,?_⟩)
   rw [List.drop_append_of_le_length (by omega),List.take_append_of_le_length (by rw [List.length_drop];omega)] at e
   exact e
  ·have hk:k+st.length=fs.length+1:=by omega
   rw [List.take_of_length_le (by rw [List.length_drop,List.length_append,List.length_singleton];omega)] at e
   by_cases hkj:j<=k
   ·refine q st hst ((uc (ne st hst)).mpr ⟨k-j,?_⟩)
    rw [List.drop_drop,show j+(k-j)=k by omega,e,List.take_of_length_le (Nat.le_refl _)]
   ·have h3k:=h3 k (by omega)
    rw [List.drop_append_of_le_length (by omega)] at e
    unfold uv at h3k
    rw [List.any_eq_false] at h3k
    refine h3k st hst (decide_eq_true ?_)
    rw [<- e,List.take_left]
 ·intro q
  exact Uh ne j q
theorem t7 {ls:ZA} (ne:∀ l∈ls,l≠[]) {fs:List Int} (h:lacks ls fs=true):Wr ls (zG ls fs):=by
 obtain⟨j,h1,h2,_,h4⟩:=jy (ls:=ls) fs
 rw [h2]
 by_cases hj:j<fs.length
 ·have q:=h4 hj
  unfold uv at q
  rw [List.any_eq_true] at q
  obtain⟨st,hst,q⟩:=q
  have q:=of_decide_eq_true q
  have hl:=congrArg List.length q
  rw [List.length_take] at hl
  have hlen:(fs.drop j).length=fs.length-j:=List.length_drop ..
  have hlk:=Uh ne j h
  refine .inr ⟨st,hst,(fs.drop j).length,by omega,?_,q.symm,hlk⟩
  by_cases hlt:(fs.drop j).length<st.length
  ·exact hlt
  ·exfalso
   have hle:st.length<=(fs.drop j).length:=by omega
   rw [List.take_of_length_le hle] at q
   unfold lacks at hlk
   rw [Bool.not_eq_true',List.any_eq_false] at hlk
   refine hlk st hst ((uc (ne st hst)).mpr ⟨0,?_⟩)
   rw [List.drop_zero,<- q,List.take_of_length_le (Nat.le_refl _)]
 ·left
  exact List.drop_of_length_le (by omega)
theorem StandsL.first {ls xs:ZA} (a:StandsL ls xs):∃ r,xs=[] :: r:=by
 have h0:([]:List Int)∈xs:=(a.mem []).mpr (.inl rfl)
 cases xs with
 | nil=>cases h0
 | cons x r =>
  rcases List.mem_cons.mp h0 with e | e
  ·exact⟨r,by rw [e]⟩
  ·have:=(List.pairwise_cons.mp a.up).1 [] e
   unfold HT.vP at this
   by_cases hl:x.length=([]:List Int).length
   ·have:x=[]:=List.eq_nil_of_length_eq_zero hl
    exact⟨r,by rw [this]⟩
   ·rw [if_neg hl] at this
    have:=of_decide_eq_true this
    simp at this
def cnt (ls:ZA) (b:Nat):Nat->List Int->Nat
 | 0,_=>1
 | t+1,x=>((List.range b).map fun (c:Nat)=>if lacks ls (x++[(c:Int)])=true then cnt ls b t (zG ls (x++[(c:Int)])) else 0).sum
def j7 (b:Nat):Nat->Nat->List Int
 | 0,_=>[]
 | t+1,r=>((r / b^t:Nat):Int) :: j7 b t (r % b^t)
def many (p:Nat->Bool):Nat->Nat
 | 0=>0
 | n+1=>many p n+(if p n=true then 1 else 0)
theorem uh {p q:Nat->Bool}:∀ {N:Nat},(∀ n,n<N->p n=q n)->many p N=many q N
 | 0,_=>rfl
 | N+1,h=>by rw [many,many,uh (N:=N) fun n hn=>h n (by omega),h N (by omega)]
theorem YT {p:Nat->Bool}:∀ {N:Nat},(∀ n,n<N->p n=false)->many p N=0
 | 0,_=>rfl
 | N+1,h=>by rw [many,YT (N:=N) fun n hn=>h n (by omega),h N (by omega)];rfl
theorem qw (p:Nat->Bool) (A:Nat):∀ B:Nat,many p (A+B)=many p A+many (fun n=>p (A+n)) B
 | 0=>rfl
 | B+1=>by rw [<- Nat.add_assoc,many,many,qw p A B,Nat.add_assoc]
theorem V6 (p:Nat->Bool) (B:Nat):∀ A:Nat,many p (A*B)=((List.range A).map fun c=>many (fun r=>p (c*B+r)) B).sum
 | 0=>by simp [many]
 | A+1=>by
  rw [Nat.succ_mul,qw,V6 p B A,List.range_succ,List.map_append,List.sum_append]
  simp
theorem wu (p:Nat->Bool) {A B:Nat} (h:A<=B):many p A<=many p B:=by
 obtain⟨k,rfl⟩:=Nat.exists_eq_add_of_le h
 rw [qw];omega
theorem YQ (p:Nat->Bool) {A B:Nat} (h:A<B) (q:p A=true):many p A<many p B:=by
 have e:many p (A+1)=many p A+1:=by rw [many,if_pos q]
 have:=wu p (A:=A+1) (B:=B) h
 omega
theorem zaC (p:Nat->Bool) {A B:Nat} (ha:p A=true) (hb:p B=true) (e:many p A=many p B):A=B:=by
 rcases Nat.lt_trichotomy A B with h | h | h
 ·have:=YQ p h ha;omega
 ·exact h
 ·have:=YQ p h hb;omega
theorem zac {p:Nat->Bool}:∀ {N:Nat},0<many p N->∃ n,n<N/\p n=true
 | 0,h=>by simp [many] at h
 | N+1,h=>by
  by_cases e:p N=true
  ·exact⟨N,by omega,e⟩
  ·rw [many,if_neg e] at h
   obtain⟨n,hn,q⟩:=zac (N:=N) (by omega)
   exact⟨n,by omega,q⟩
theorem Wl {b t c r:Nat} (hr:r<b^t):j7 b (t+1) (c*b^t+r)=(c:Int) :: j7 b t r:=by
 have h0:0<b^t:=by omega
 rw [j7,Nat.add_comm,Nat.add_mul_div_right _ _ h0,Nat.div_eq_of_lt hr,Nat.zero_add,Nat.add_mul_mod_self_right,Nat.mod_eq_of_lt hr]
theorem Y9 {f g:Nat->Nat}:∀ {N:Nat},(∀ c,c<N->f c=g c)->((List.range N).map f).sum=((List.range N).map g).sum:=by
 intro N h
 congr 1
 apply List.map_congr_left
 intro c hc
 exact h c (List.mem_range.mp hc)
theorem Vw {ls:ZA} (ne:∀ l∈ls,l≠[]) {b t:Nat} (ih:∀ x,lacks ls x=true->many (fun r=>lacks ls (x++j7 b t r)) (b^t)=cnt ls b t (zG ls x)) {x:List Int} (c:Nat) :
  many (fun r=>lacks ls (x++j7 b (t+1) (c*b^t+r))) (b^t)=if lacks ls (x++[(c:Int)])=true then cnt ls b t (zG ls (x++[(c:Int)])) else 0:=by
 have e1:many (fun r=>lacks ls (x++j7 b (t+1) (c*b^t+r))) (b^t)=many (fun r=>lacks ls (x++[(c:Int)]++j7 b t r)) (b^t):=by
  apply uh
  intro r hr
  show lacks ls _=lacks ls _
  rw [Wl hr,List.append_assoc]
  rfl
 rw [e1]
 by_cases h:lacks ls (x++[(c:Int)])=true
 ·rw [if_pos h,ih _ h]
 ·rw [if_neg h]
  apply YT
  intro r _
  cases hc:lacks ls (x++[(c:Int)]++j7 b t r) with
  | false=>rfl
  | true=>exact absurd (jh ne hc) h
theorem QZ {ls:ZA} (ne:∀ l∈ls,l≠[]) {b:Nat}:∀ (t:Nat) (x:List Int),lacks ls x=true->many (fun r=>lacks ls (x++j7 b t r)) (b^t)=cnt ls b t (zG ls x)
 | 0,x,h=>by
  rw [Nat.pow_zero,many,many,cnt,j7,List.append_nil,if_pos h]
 | t+1,x,h=>by
  rw [Nat.pow_succ',V6,cnt]
  apply Y9
  intro c _
  rw [Vw ne (QZ ne t),uz ne _ h,uo]
def gd (ls:ZA) (b n:Nat):Bool:=lacks ls (yu b n)
theorem Ui {b:Nat}:∀ (t n:Nat),j7 b (t+1) n=tops b t n
 | 0,n=>by simp [j7,tops]
 | t+1,n=>by rw [j7,Ui t,tops]
theorem zcV {b t c r:Nat} (h2:2<=b) (h1:1<=c) (hc:c<b) (hr:r<b^t):yu b (c*b^t+r)=(c:Int) :: j7 b t r:=by
 rw [<- Wl hr,Ui]
 refine (YH h2 t _ ?_ (.inr ?_)).symm
 ·rw [Nat.pow_succ']
  have:(c+1)*b^t<=b*b^t:=Nat.mul_le_mul_right _ hc
  rw [Nat.succ_mul] at this
  omega
 ·have:1*b^t<=c*b^t:=Nat.mul_le_mul_right _ h1
  omega
def yI (ls:ZA) (b:Nat):Nat->Nat
 | 0=>if lacks ls [0]=true then 1 else 0
 | t+1=>((List.range b).map fun (c:Nat)=>if c=0 then yI ls b t else if lacks ls [(c:Int)]=true then cnt ls b t (zG ls [(c:Int)]) else 0).sum
theorem QG {ls:ZA} (ne:∀ l∈ls,l≠[]) {b t c:Nat} (h2:2<=b) (h1:1<=c) (hc:c<b):many (fun r=>gd ls b (c*b^t+r)) (b^t)=if lacks ls [(c:Int)]=true then cnt ls b t (zG ls [(c:Int)]) else 0:=by
 have e:=Vw (x:=[]) ne (b:=b) (t:=t) (QZ ne t) c
 rw [List.nil_append] at e
 rw [<- e]
 apply uh
 intro r hr
 show gd ls b _=lacks ls _
 rw [gd,zcV h2 h1 hc hr,List.nil_append,Wl hr]
theorem yr {ls:ZA} (ne:∀ l∈ls,l≠[]) {b:Nat} (h2:2<=b):∀ t:Nat,yI ls b t=many (gd ls b) (b^t)
 | 0=>by
  rw [Nat.pow_zero,many,many,yI,Nat.zero_add]
  unfold gd
  rw [wI (show 0<b by omega)]
  rfl
 | t+1=>by
  rw [Nat.pow_succ',V6,yI]
  apply Y9
  intro c hc
  by_cases h0:c=0
  ·subst h0
   rw [if_pos rfl,yr ne h2 t]
   apply uh
   intro r _
   rw [Nat.zero_mul,Nat.zero_add]
  ·rw [if_neg h0,QG ne h2 (by omega) hc]
theorem zbP {ls:ZA} (ne:∀ l∈ls,l≠[]):∀ (g:List Int) {x y:List Int},lacks ls x=true->lacks ls y=true->zG ls x=zG ls y->lacks ls (x++g)=lacks ls (y++g)/\(lacks ls (x++g)=true->zG ls (x++g)=zG ls (y++g))
 | [],x,y,hx,hy,e=>by
  rw [List.append_nil,List.append_nil,hx,hy]
  exact⟨rfl,fun _=>e⟩
 | c :: g,x,y,hx,hy,e=>by
  have e1:lacks ls (x++[c])=lacks ls (y++[c]):=by rw [<- uz ne c hx,<- uz ne c hy,e]
  have e2:zG ls (x++[c])=zG ls (y++[c]):=by rw [<- uo x c,<- uo y c,e]
  have a1:x++c :: g=x++[c]++g:=by rw [List.append_assoc];rfl
  have a2:y++c :: g=y++[c]++g:=by rw [List.append_assoc];rfl
  rw [a1,a2]
  by_cases h:lacks ls (x++[c])=true
  ·exact zbP ne g h (e1▸h) e2
  ·have f1:lacks ls (x++[c]++g)=false:=by
    cases hc:lacks ls (x++[c]++g) with
    | false=>rfl
    | true=>exact absurd (jh ne hc) h
   have f2:lacks ls (y++[c]++g)=false:=by
    cases hc:lacks ls (y++[c]++g) with
    | false=>rfl
    | true=>exact absurd (e1▸jh ne hc) h
   rw [f1,f2]
   exact⟨rfl,fun z=>by cases z⟩
theorem zbq {α:Type} [DecidableEq α]:∀ (xs ws:List α),(∀ x∈xs,x∈ws)->ws.length<xs.length->∃ (i j:Nat) (x:α),i<j/\xs[i]?=some x/\xs[j]?=some x
 | [],ws,_,h=>by simp at h
 | x :: xs,ws,hm,h=>by
  by_cases hx:x∈xs
  ·obtain⟨j,hj⟩:=List.getElem?_of_mem hx
   exact⟨0,j+1,x,by omega,rfl,by simpa using hj⟩
  ·have hxw:=hm x List.mem_cons_self
   obtain⟨i,j,z,hij,h1,h2⟩:=zbq xs (ws.erase x) (fun y hy=>(List.mem_erase_of_ne (fun e:y=x=>hx (by rw [<- e];exact hy))).mpr (hm y (List.mem_cons_of_mem _ hy))) (by
    rw [List.length_erase_of_mem hxw]
    rw [List.length_cons] at h
    have:0<ws.length:=List.length_pos_of_mem hxw
    omega)
   exact⟨i+1,j+1,z,by omega,by simpa using h1,by simpa using h2⟩
theorem jz {ls:ZA} (ne:∀ l∈ls,l≠[]) {fs:List Int} (k:Nat) (h:lacks ls fs=true):lacks ls (fs.take k)=true:=by
 apply jh (gs:=fs.drop k) ne
 rw [List.take_append_drop];exact h
theorem zg0 {ls ws:ZA} (ne:∀ l∈ls,l≠[]) (SL:StandsL ls ws) {fs:List Int} (hL:lacks ls fs=true) (hlen:ws.length<fs.length) (L:Nat) :
  ∃ gs:List Int,gs.length=L+1/\lacks ls gs=true/\gs.head?=fs.head?/\∀ f∈gs,f∈fs:=by
 have hx:∀ x∈(List.range fs.length).map (fun i=>zG ls (fs.take (i+1))),x∈ws:=by
  intro x hx
  obtain⟨i,_,rfl⟩:=List.mem_map.mp hx
  exact (SL.mem _).mpr (t7 ne (jz ne _ hL))
 obtain⟨i,j,z,hij,h1,h2⟩:=zbq _ ws hx (by rw [List.length_map,List.length_range];exact hlen)
 rw [List.getElem?_map] at h1 h2
 obtain⟨i',hi,e1⟩:=Option.map_eq_some_iff.mp h1
 obtain⟨j',hj,e2⟩:=Option.map_eq_some_iff.mp h2
 obtain⟨hi1,hi2⟩:=List.getElem?_eq_some_iff.mp hi
 obtain⟨hj1,hj2⟩:=List.getElem?_eq_some_iff.mp hj
 rw [List.getElem_range] at hi2 hj2
 subst hi2 hj2
 rw [List.length_range] at hi1 hj1
 let seg:=(fs.drop (i+1)).take (j-i)
 have hseg:fs.take (i+1)++seg=fs.take (j+1):=by
  show fs.take (i+1)++(fs.drop (i+1)).take (j-i)=_
  have e:j+1=(i+1)+(j-i):=by omega
  rw [e]
  exact (List.take_add (l:=fs) (i:=i+1) (j:=j-i)).symm
 have hsl:seg.length=j-i:=by
  show ((fs.drop (i+1)).take (j-i)).length=_
  rw [List.length_take,List.length_drop];omega
 have round:∀ k:Nat,∃ gs:List Int,lacks ls gs=true/\zG ls gs=zG ls (fs.take (i+1))/\gs.length=i+1+k*(j-i)/\gs.head?=fs.head?/\∀ f∈gs,f∈fs:=by
  intro k
  induction k with
  | zero =>
   refine⟨fs.take (i+1),jz ne _ hL,rfl,by rw [List.length_take];omega,?_,fun f hf=>List.mem_of_mem_take hf⟩
   cases fs with
   | nil=>simp at hi1
   | cons f r=>rfl
  | succ k ih =>
   obtain⟨gs,g1,g2,g3,g4,g5⟩:=ih
   have q:=zbP ne seg g1 (jz ne (i+1) hL) g2
   rw [hseg] at q
   have l1:lacks ls (gs++seg)=true:=by rw [q.1];exact jz ne _ hL
   refine⟨gs++seg,l1,?_,?_,?_,?_⟩
   ·rw [q.2 l1,e2,<- e1]
   ·rw [List.length_append,g3,hsl,Nat.succ_mul];omega
   ·cases gs with
    | nil=>simp at g3;omega
    | cons g r=>exact g4
   ·intro f hf
    rcases List.mem_append.mp hf with h | h
    ·exact g5 f h
    ·exact List.mem_of_mem_drop (List.mem_of_mem_take h)
 obtain⟨gs,g1,g2,g3,g4,g5⟩:=round L
 have hbig:L+1<=gs.length:=by
  rw [g3]
  have:L*1<=L*(j-i):=Nat.mul_le_mul_left _ (by omega)
  omega
 refine⟨gs.take (L+1),by rw [List.length_take];omega,jz ne _ g1,?_,fun f hf=>g5 f (List.mem_of_mem_take hf)⟩
 rw [<- g4]
 cases gs with
 | nil=>rfl
 | cons g r=>rfl
theorem Wy {b n k:Nat} (h2:2<=b) (hn:n<b^(k+1)) (h:k=0\/b^k<=n):(yu b n).length=k+1:=by
 rw [<- YH h2 k n hn h,zah]
theorem JB {b:Nat} (h2:2<=b) (n:Nat):∃ k,n<b^(k+1)/\(k=0\/b^k<=n):=by
 have key:∀ K:Nat,n<b^(K+1)->∃ k,n<b^(k+1)/\(k=0\/b^k<=n):=by
  intro K
  induction K with
  | zero=>intro h;exact⟨0,h,.inl rfl⟩
  | succ K ih =>
   intro h
   by_cases q:n<b^(K+1)
   ·exact ih q
   ·exact⟨K+1,h,.inr (by omega)⟩
 refine key n ?_
 have:n<2^n:=Nat.lt_two_pow_self
 have h3:2^n<=b^n:=Nat.pow_le_pow_left h2 n
 have h4:b^n<=b^(n+1):=Nat.pow_le_pow_right (by omega) (Nat.le_succ n)
 omega
theorem Yu {b n k:Nat} (h2:2<=b):(yu b n).length=k+1↔n<b^(k+1)/\(k=0\/b^k<=n):=by
 refine⟨fun h=>?_,fun h=>Wy h2 h.1 h.2⟩
 obtain⟨m,h1,h3⟩:=JB h2 n
 have e:=Wy h2 h1 h3
 rw [h] at e
 obtain rfl:k=m:=by omega
 exact⟨h1,h3⟩
def Yh (ls:ZA) (b t:Nat):Option (List Int)->Nat->Nat
 | some x,c=>if lacks ls (x++[(c:Int)])=true then cnt ls b t (zG ls (x++[(c:Int)])) else 0
 | none,c=>if c=0 then yI ls b t else if lacks ls [(c:Int)]=true then cnt ls b t (zG ls [(c:Int)]) else 0
def under (ls:ZA) (b t:Nat) (o:Option (List Int)) (s:Nat):Nat:=((List.range s).map (Yh ls b t o)).sum
theorem QR (ls:ZA) (b t:Nat) (x:List Int):under ls b t (some x) b=cnt ls b (t+1) x:=rfl
theorem za8 (ls:ZA) (b t:Nat):under ls b t none b=yI ls b (t+1):=rfl
theorem Xu (ls:ZA) (b t:Nat) (o:Option (List Int)):under ls b t o 0=0:=rfl
theorem ux (ls:ZA) (b t:Nat) (o:Option (List Int)) (s:Nat):under ls b t o (s+1)=under ls b t o s+Yh ls b t o s:=by
 unfold under
 rw [List.range_succ,List.map_append,List.sum_append]
 simp
def Rep (ls:ZA) (b m:Nat) (o:Option (List Int)):Prop:=(m=0/\o=none)\/(1<=m/\gd ls b m=true/\o=some (zG ls (yu b m)))
theorem vo {b m c:Nat} (h2:2<=b) (h1:1<=m) (hc:c<b):yu b (m*b+c)=yu b m++[(c:Int)]:=by
 have hge:b<=m*b+c:=by
  have:1*b<=m*b:=Nat.mul_le_mul_right b h1
  omega
 rw [ZJ h2 hge]
 have e1:(m*b+c) / b=m:=by rw [Nat.add_comm,Nat.add_mul_div_right _ _ (by omega),Nat.div_eq_of_lt hc,Nat.zero_add]
 have e2:(m*b+c) % b=c:=by rw [Nat.add_comm,Nat.add_mul_mod_self_right,Nat.mod_eq_of_lt hc]
 rw [e1,e2]
theorem zaf {b m c:Nat} (h2:2<=b) (h1:1<=m):1<=m*b+c:=by
 have:1*b<=m*b:=Nat.mul_le_mul_right b h1
 omega
theorem YJ {b m:Nat} (h2:2<=b) (h1:1<=m):∀ (t r:Nat),r<b^t->yu b (m*b^t+r)=yu b m++j7 b t r
 | 0,r,hr=>by
  have:r=0:=by rw [Nat.pow_zero] at hr;omega
  subst this
  rw [Nat.pow_zero,Nat.mul_one,Nat.add_zero,j7,List.append_nil]
 | t+1,r,hr=>by
  have hp:0<b^t:=Nat.pow_pos (by omega)
  have hc:r / b^t<b:=by
   rw [Nat.div_lt_iff_lt_mul hp]
   rw [Nat.pow_succ',] at hr
   exact hr
  have hm:r % b^t<b^t:=Nat.mod_lt _ hp
  have e:m*b^(t+1)+r=(m*b+r / b^t)*b^t+r % b^t:=by
   have h:=Nat.div_add_mod r (b^t)
   rw [Nat.pow_succ',Nat.add_mul,Nat.mul_assoc,Nat.add_assoc,Nat.mul_comm (r / b^t),h]
  have h1':1<=m*b+r / b^t:=zaf h2 h1
  rw [e,YJ h2 h1' t _ hm,vo h2 h1 hc,j7,List.append_assoc]
  rfl
theorem zby {ls:ZA} (ne:∀ l∈ls,l≠[]) {b m:Nat} {o:Option (List Int)} (h2:2<=b) (R:Rep ls b m o) (t:Nat) {c:Nat} (hc:c<b):Yh ls b t o c=many (fun r=>gd ls b ((m*b+c)*b^t+r)) (b^t):=by
 rcases R with ⟨rfl,rfl⟩ | ⟨h1,hg,rfl⟩
 ·rw [Nat.zero_mul,Nat.zero_add]
  show (if c=0 then _ else _)=_
  by_cases h0:c=0
  ·subst h0
   rw [if_pos rfl,yr ne h2]
   apply uh
   intro r _
   rw [Nat.zero_mul,Nat.zero_add]
  ·rw [if_neg h0,QG ne h2 (by omega) hc]
 ·have e:=Vw (x:=yu b m) ne (b:=b) (t:=t) (QZ ne t) c
  show (if lacks ls (zG ls (yu b m)++[(c:Int)])=true then cnt ls b t (zG ls (zG ls (yu b m)++[(c:Int)])) else 0)=_
  rw [uz ne _ hg,uo,<- e]
  apply uh
  intro r hr
  show lacks ls _=gd ls b _
  rw [gd,YJ h2 (zaf h2 h1) t r hr,vo h2 h1 hc,Wl hr,List.append_assoc]
  rfl
theorem vC {ls:ZA} (ne:∀ l∈ls,l≠[]) {b m:Nat} {o:Option (List Int)} (h2:2<=b) (R:Rep ls b m o) (t:Nat):∀ {s:Nat},s<=b->many (gd ls b) (m*b^(t+1))+under ls b t o s=many (gd ls b) ((m*b+s)*b^t)
 | 0,_=>by rw [Xu,Nat.add_zero,Nat.pow_succ',show (m*b+0)*b^t=m*(b*b^t) by rw [Nat.add_zero,Nat.mul_assoc]]
 | s+1,hs=>by
  rw [ux,<- Nat.add_assoc,vC ne h2 R t (s:=s) (by omega),zby ne h2 R t (show s<b by omega),<- Nat.add_assoc,Nat.succ_mul (m*b+s),qw]
theorem Rep.step {ls:ZA} (ne:∀ l∈ls,l≠[]) {b m:Nat} {o:Option (List Int)} (h2:2<=b) (R:Rep ls b m o) {c:Nat} (hc:c<b) :
  (o=none/\c=0/\Rep ls b (m*b+c) none)\/(¬ (o=none/\c=0)/\((lacks ls (o.getD []++[(c:Int)])=true/\Rep ls b (m*b+c) (some (zG ls (o.getD []++[(c:Int)]))))\/(lacks ls (o.getD []++[(c:Int)])=false/\1<=m*b+c/\gd ls b (m*b+c)=false))):=by
 rcases R with ⟨rfl,rfl⟩ | ⟨h1,hg,rfl⟩
 ·by_cases h0:c=0
  ·left;exact⟨rfl,h0,.inl ⟨by rw [h0];omega,rfl⟩⟩
  ·right
   refine⟨fun z=>h0 z.2,?_⟩
   rw [Nat.zero_mul,Nat.zero_add]
   show (lacks ls [(c:Int)]=true/\_)\/(lacks ls [(c:Int)]=false/\_)
   have eg:gd ls b c=lacks ls [(c:Int)]:=by unfold gd;rw [wI hc]
   cases hl:lacks ls [(c:Int)] with
   | true=>left;exact⟨rfl,.inr ⟨by omega,by rw [eg];exact hl,by rw [wI hc];rfl⟩⟩
   | false=>right;exact⟨rfl,by omega,by rw [eg];exact hl⟩
 ·right
  refine⟨fun z=>(nomatch z.1),?_⟩
  have hm:1<=m*b+c:=zaf h2 h1
  show (lacks ls (zG ls (yu b m)++[(c:Int)])=true/\Rep ls b (m*b+c) (some (zG ls (zG ls (yu b m)++[(c:Int)]))))\/(lacks ls (zG ls (yu b m)++[(c:Int)])=false/\_)
  rw [uz ne _ hg,uo]
  have eg:gd ls b (m*b+c)=lacks ls (yu b m++[(c:Int)]):=by unfold gd;rw [vo h2 h1 hc]
  cases hl:lacks ls (yu b m++[(c:Int)]) with
  | true=>left;exact⟨rfl,.inr ⟨hm,by rw [eg];exact hl,by rw [vo h2 h1 hc]⟩⟩
  | false=>right;exact⟨rfl,hm,by rw [eg];exact hl⟩
theorem zbC {ls:ZA} (ne:∀ l∈ls,l≠[]) {b m:Nat} (h2:2<=b) (h1:1<=m) (hg:gd ls b m=false) (t:Nat) {r:Nat} (hr:r<=b^t):many (gd ls b) (m*b^t+r)=many (gd ls b) (m*b^t):=by
 rw [qw,YT (N:=r)]
 ·omega
 intro k hk
 show gd ls b _=false
 cases hc:gd ls b (m*b^t+k) with
 | false=>rfl
 | true =>
  unfold gd at hc hg
  rw [YJ h2 h1 t k (by omega)] at hc
  rw [jh ne hc] at hg
  cases hg
theorem zas {b:Nat}:∀ {t n k:Nat},k<t->n<b^t->(j7 b t n)[k]?=some (((n / b^(t-1-k)) % b:Nat):Int)
 | 0,_,_,hk,_=>by omega
 | t+1,n,0,_,hn=>by
  have:n / b^t<b:=by
   rw [Nat.pow_succ'] at hn
   rcases Nat.eq_zero_or_pos (b^t) with h | h
   ·rw [h] at hn;omega
   ·rw [Nat.div_lt_iff_lt_mul h];exact hn
  rw [j7,List.getElem?_cons_zero,show t+1-1-0=t by omega,Nat.mod_eq_of_lt this]
 | t+1,n,k+1,hk,hn=>by
  have hb:0<b:=by
   rcases Nat.eq_zero_or_pos b with h | h
   ·subst h;rw [Nat.zero_pow (by omega)] at hn;omega
   ·exact h
  rw [j7,List.getElem?_cons_succ,zas (by omega) (Nat.mod_lt _ (Nat.pow_pos hb))]
  have e:t+1-1-(k+1)=t-1-k:=by omega
  rw [e]
  generalize hj:t-1-k=j
  obtain⟨q,hq⟩:∃ q,t=j+(q+1):=⟨t-j-1,by omega⟩
  rw [hq,Nat.pow_add,Nat.mod_mul_right_div_self,Nat.pow_succ',Nat.mod_mul_right_mod]
theorem J0 {b n N k:Nat} (h2:2<=b) (hN:(yu b n).length=N) (hk:k<N):(yu b n)[k]?=some (((n / b^(N-1-k)) % b:Nat):Int):=by
 obtain⟨K,rfl⟩:∃ K,N=K+1:=⟨N-1,by omega⟩
 obtain⟨h1,h3⟩:=(Yu h2).mp hN
 rw [<- YH h2 K n h1 h3,<- Ui]
 exact zas hk h1
theorem uC {b n N:Nat} (h2:2<=b) (hN:(yu b n).length=N):n<b^N:=by
 cases N with
 | zero=>exact absurd (List.length_eq_zero_iff.mp hN) zbX
 | succ K=>exact ((Yu h2).mp hN).1
theorem J9 {b n t:Nat} (hb:0<b):n / b^t=n / b^(t+1)*b+(n / b^t) % b:=by
 have h:=Nat.div_add_mod (n / b^t) b
 rw [Nat.div_div_eq_div_mul,<- Nat.pow_succ,Nat.mul_comm] at h
 exact h.symm
theorem zfM {ls:ZA} (ne:∀ l∈ls,l≠[]) {b h t r:Nat} (h2:2<=b) (h1:1<=h) (hr:r<b^t) (hg:gd ls b (h*b^t+r)=true):gd ls b h=true:=by
 unfold gd at *
 rw [YJ h2 h1 t r hr] at hg
 exact jh ne hg
theorem zaV {p:Nat->Bool} {g n:Nat} (h:many p g<many p n):g<n:=by
 by_cases z:g<n
 ·exact z
 ·have:=wu p (show n<=g by omega)
  omega
theorem zdo {ls ws:ZA} (ne:∀ l∈ls,l≠[]) (SL:StandsL ls ws) {b n:Nat} (h2:2<=b) (hg:gd ls b n=true) (hn:0<n) (hlen:ws.length<(yu b n).length) (L:Nat):∃ g,gd ls b g=true/\b^L<=g/\g<b^(L+1):=by
 obtain⟨gs,g1,g2,g3,g4⟩:=zg0 ne SL (fs:=yu b n) hg hlen L
 have hh:=zcb h2 n hn
 have hgs:gs≠[]:=fun z=>by rw [z] at g1;simp at g1
 have hhead:gs.head?≠some 0:=by rw [g3];exact hh
 obtain⟨m,_,e2,e3⟩:=zcm h2 (L+1) gs g1 hgs (fun f hf=>zcY h2 n f (g4 f hf)) (.inl hhead)
 have hs:(yu b m).length=L+1:=by rw [e2];exact g1
 obtain⟨a1,a2⟩:=(Yu h2).mp hs
 refine⟨m,by unfold gd;rw [e2];exact g2,?_,a1⟩
 rcases a2 with z | z
 ·subst z
  rw [Nat.pow_zero]
  exact e3 hhead
 ·exact z
def aft (ls:ZA) (x:List Int) (f:Int):Option (List Int):=if lacks ls (x++[f])=true then some (zG ls (x++[f])) else none
def ends (fs:List Int):ZA:=(List.range (fs.length+1)).map fs.drop
theorem zck {ls:ZA} (fs:List Int):((ends fs).filter (uv ls)++[[]]).head?=some (zG ls fs):=by
 obtain⟨j,h1,h2,h3,h4⟩:=jy (ls:=ls) fs
 rw [List.head?_append,List.head?_filter]
 unfold ends
 rw [List.find?_map]
 by_cases hj:j<fs.length
 ·have:(List.range (fs.length+1)).find? (uv ls ∘ fs.drop)=some j:=by
   rw [List.find?_range_eq_some]
   refine⟨h4 hj,List.mem_range.mpr (by omega),fun k hk=>?_⟩
   show (!uv ls (fs.drop k))=true
   rw [h3 k hk];rfl
  rw [this,h2];rfl
 ·have ej:j=fs.length:=by omega
  subst ej
  rw [List.drop_length] at h2
  rw [h2]
  cases e:(List.range (fs.length+1)).find? (uv ls ∘ fs.drop) with
  | none=>rfl
  | some i =>
   rw [List.find?_range_eq_some] at e
   obtain⟨e1,e2,_⟩:=e
   have e2:=List.mem_range.mp e2
   by_cases hi:i<fs.length
   ·have:=h3 i hi
    rw [show uv ls (fs.drop i)=true from e1] at this;cases this
   ·have:i=fs.length:=by omega
    rw [this]
    simp
theorem zek {ls:ZA} (ne:∀ l∈ls,l≠[]) {x:List Int} (f:Int) (h:lacks ls x=true):(∃ e∈ends (x++[f]),e∈ls)↔lacks ls (x++[f])=false:=by
 constructor
 ·rintro⟨e,he,hl⟩
  obtain⟨i,_,rfl⟩:=List.mem_map.mp he
  have:=zbx hl (ne _ hl) ((x++[f]).take i)
  rwa [List.take_append_drop] at this
 ·intro hf
  obtain⟨st,hst,hs⟩:∃ st∈ls,Y0 st (x++[f])=true:=by
   unfold lacks at hf
   have hf:(ls.any fun st=>Y0 st (x++[f]))=true:=by simpa using hf
   exact List.any_eq_true.mp hf
  obtain⟨k,hk⟩:=(uc (ne st hst)).mp hs
  have hlen:=congrArg List.length hk
  rw [List.length_take,List.length_drop,List.length_append,List.length_singleton] at hlen
  have hpos:0<st.length:=List.length_pos_iff.mpr (ne st hst)
  by_cases hx:k+st.length<=x.length
  ·exfalso
   have:Y0 st x=true:=by
    rw [uc (ne st hst)]
    refine⟨k,?_⟩
    rw [List.drop_append_of_le_length (by omega),List.take_append_of_le_length (by rw [List.length_drop];omega)] at hk
    exact hk
   unfold lacks at h
   have h:(ls.any fun st=>Y0 st x)=false:=by simpa using h
   rw [List.any_eq_false] at h
   exact h st hst this
  ·refine⟨(x++[f]).drop k,List.mem_map.mpr ⟨k,List.mem_range.mpr (by rw [List.length_append,List.length_singleton];omega),rfl⟩,?_⟩
   rw [List.take_of_length_le (by rw [List.length_drop,List.length_append,List.length_singleton];omega)] at hk
   rw [hk];exact hst
open PySem L2 PyProof.Rows
def zdh (ls F:ZA) (x:List Int):ZA:=if x∈F then F else if lacks ls x=true then F++[x] else F
def Y6 (ls:ZA) (st:List Int):Nat->ZA->ZA
 | 0,F=>F
 | j+1,F=>zdh ls (Y6 ls st j F) (st.take (j+1))
def zaH (ls xs:ZA):ZA:=xs.foldl (fun F st=>Y6 ls st (st.length-1) F) [[]]
theorem zdx {ls F:ZA} {x y:List Int}:y∈zdh ls F x↔y∈F\/(y=x/\lacks ls y=true):=by
 unfold zdh
 by_cases h:x∈F
 ·rw [if_pos h]
  exact⟨.inl,fun z=>z.elim id fun z=>by rw [z.1];exact h⟩
 ·rw [if_neg h]
  by_cases h2:lacks ls x=true
  ·rw [if_pos h2,List.mem_append,List.mem_singleton]
   exact⟨fun z=>z.imp id fun z=>⟨z,by rw [z];exact h2⟩,fun z=>z.imp id fun z=>z.1⟩
  ·rw [if_neg h2]
   exact⟨.inl,fun z=>z.elim id fun z=>absurd (by rw [<- z.1];exact z.2) h2⟩
theorem QD {ls F:ZA} {st y:List Int}:∀ {j:Nat},y∈Y6 ls st j F↔y∈F\/∃ k,1<=k/\k<=j/\y=st.take k/\lacks ls y=true
 | 0=>⟨.inl,fun z=>z.elim id fun ⟨k,h1,h2,_⟩=>by omega⟩
 | j+1=>by
  rw [Y6,zdx,QD]
  constructor
  ·rintro ((h | ⟨k,h1,h2,h3⟩) | ⟨h1,h2⟩)
   ·exact .inl h
   ·exact .inr ⟨k,h1,by omega,h3⟩
   ·exact .inr ⟨j+1,by omega,by omega,h1,h2⟩
  ·rintro (h | ⟨k,h1,h2,h3,h4⟩)
   ·exact .inl (.inl h)
   ·by_cases hk:k<=j
    ·exact .inl (.inr ⟨k,h1,hk,h3,h4⟩)
    ·exact .inr ⟨by rw [h3];congr 1;omega,h4⟩
theorem QB {ls:ZA} {y:List Int}:∀ {xs F:ZA},y∈xs.foldl (fun F st=>Y6 ls st (st.length-1) F) F↔y∈F\/∃ st∈xs,∃ k,1<=k/\k<st.length/\y=st.take k/\lacks ls y=true
 | [],F=>by simp
 | st :: xs,F=>by
  rw [List.foldl_cons,QB,QD]
  constructor
  ·rintro ((h | ⟨k,h1,h2,h3⟩) | ⟨s,hs,h⟩)
   ·exact .inl h
   ·exact .inr ⟨st,by simp,k,h1,by omega,h3⟩
   ·exact .inr ⟨s,by simp [hs],h⟩
  ·rintro (h | ⟨s,hs,k,h1,h2,h3⟩)
   ·exact .inl (.inl h)
   ·rcases List.mem_cons.mp hs with rfl | hs
    ·exact .inl (.inr ⟨k,h1,by omega,h3⟩)
    ·exact .inr ⟨s,hs,k,h1,h2,h3⟩
theorem zaK {ls:ZA} {y:List Int}:y∈zaH ls ls↔Wr ls y:=by
 unfold zaH Wr
 rw [QB,List.mem_singleton]
theorem zdV (ls F:ZA) (x:List Int):(zdh ls F x).length<=F.length+1:=by
 unfold zdh
 split
 ·omega
 ·split
  ·rw [List.length_append,List.length_singleton];omega
  ·omega
theorem Qi (ls:ZA) (st:List Int) (F:ZA):∀ j,(Y6 ls st j F).length<=F.length+j
 | 0=>Nat.le_refl _
 | j+1=>by rw [Y6];have:=zdV ls (Y6 ls st j F) (st.take (j+1));have:=Qi ls st F j;omega
theorem Qx {ls:ZA}:∀ {xs F:ZA},(∀ st∈xs,st.length<=4)->(xs.foldl (fun F st=>Y6 ls st (st.length-1) F) F).length<=F.length+3*xs.length
 | [],F,_=>by simp
 | st :: xs,F,h=>by
  rw [List.foldl_cons,List.length_cons]
  have:=Qx (ls:=ls) (xs:=xs) (F:=Y6 ls st (st.length-1) F) fun s hs=>h s (List.mem_cons_of_mem _ hs)
  have:=Qi ls st F (st.length-1)
  have:=h st List.mem_cons_self
  omega
theorem zed {ls:ZA} (h4:ls.length<=4) (h:∀ st∈ls,st.length<=4):(zaH ls ls).length<=13:=by
 have:=Qx (ls:=ls) (xs:=ls) (F:=[[]]) h
 unfold zaH
 rw [List.length_singleton] at this
 omega
def kI (x:List Int):List Key:=x.map Sum.inl
theorem zec (x:List Int):(kI x).map kV=x.map V.int:=by unfold kI;rw [List.map_map];rfl
theorem JG {x y:List Int} (h:kI x=kI y):x=y:=by
 unfold kI at h
 exact (List.map_inj_right (fun a b e=>by injection e)).mp h
def AftV (H:Hp):Option (List Int)->V->Prop
 | none,v=>v=.non
 | some y,v=>∃ c,v=.ref c/\H c=some (.tup (y.map V.int))
theorem AftV.same {H H':Hp} {o:Option (List Int)} {v:V} (h:AftV H o v) (s:∀ b xs,H b=some (.tup xs)->H' b=some (.tup xs)):AftV H' o v:=by
 cases o with
 | none=>exact h
 | some y=>obtain⟨c,e,q⟩:=h;exact⟨c,e,s _ _ q⟩
def kA (x:List Int) (f:Nat):NK:=(kI x,[.inl (f:Int),.inl 0])
def kW (x:List Int) (t:Nat):NK:=(kI x,[.inl (t:Int)])
def Ent (ls:ZA) (b:Nat) (H:Hp) (k:NK) (v:V):Prop :=
 (∃ (x:List Int) (f:Nat),Wr ls x/\f<b/\k=kA x f/\AftV H (aft ls x f) v)\/∃ (x:List Int) (t:Nat),Wr ls x/\1<=t/\t<=1000/\k=kW x t/\v=.int (cnt ls b t x:Nat)
structure Tab (ls:ZA) (b:Nat) (H:Hp) (kvs:List (NK×V)):Prop where
 nd:(kvs.map (·.1)).Nodup
 ok:∀ p∈kvs,Ent ls b H p.1 p.2
section
variable {ls:ZA} {b:Nat} {H H':Hp} {kvs:List (NK×V)}
theorem Tab.nil:Tab ls b H []:=⟨List.nodup_nil,fun p hp=>nomatch hp⟩
theorem Tab.same (t:Tab ls b H kvs) (s:∀ b xs,H b=some (.tup xs)->H' b=some (.tup xs)):Tab ls b H' kvs:=⟨t.nd,fun p hp=>by
 rcases t.ok p hp with ⟨x,f,h1,h2,h3,h4⟩ | h
 ·exact .inl ⟨x,f,h1,h2,h3,h4.same s⟩
 ·exact .inr h⟩
theorem Xi {k:NK} {v:V}:∀ {kvs:List (NK×V)},wX kvs k=some v->(k,v)∈kvs
 | [],h=>by cases h
 | p :: kvs,h=>by
  by_cases e:p.1=k
  ·rw [wA e] at h
   cases h
   exact List.mem_cons.mpr (.inl (by rw [<- e]))
  ·rw [wy e] at h
   exact List.mem_cons_of_mem _ (Xi h)
theorem Tab.aft (t:Tab ls b H kvs) {x:List Int} {f:Nat} {v:V} (h:wX kvs (kA x f)=some v):AftV H (aft ls x f) v:=by
 rcases t.ok _ (Xi h) with ⟨y,g,_,_,e,q⟩ | ⟨y,n,_,_,_,e,_⟩
 ·unfold kA at e
  injection e with e1 e2
  injection e2 with e2 e3
  injection e2 with e2
  have e1:=JG e1
  have e2:f=g:=by omega
  subst e1 e2
  exact q
 ·exfalso
  have e:=congrArg (fun z:NK=>z.2.length) e
  simp [kA,kW] at e
theorem Tab.way (t:Tab ls b H kvs) {x:List Int} {n:Nat} {v:V} (h:wX kvs (kW x n)=some v):v=.int (cnt ls b n x:Nat):=by
 rcases t.ok _ (Xi h) with ⟨y,g,_,_,e,q⟩ | ⟨y,m,_,_,_,e,q⟩
 ·exfalso
  have e:=congrArg (fun z:NK=>z.2.length) e
  simp [kA,kW] at e
 ·unfold kW at e
  injection e with e1 e2
  injection e2 with e2 e3
  injection e2 with e2
  have e1:=JG e1
  have e2:n=m:=by omega
  subst e1 e2
  exact q
theorem Tab.put (t:Tab ls b H kvs) {k:NK} {v:V} (h:wX kvs k=none) (e:Ent ls b H k v):Tab ls b H (putK kvs k v):=by
 refine⟨zez v t.nd h,fun p hp=>?_⟩
 rw [Wm v h] at hp
 rcases List.mem_append.mp hp with hp | hp
 ·exact t.ok p hp
 ·rw [List.mem_singleton.mp hp];exact e
theorem Tab.put2 (t:Tab ls b H kvs) {k:NK} {v:V} (e:Ent ls b H k v):Tab ls b H (putK kvs k v):=by
 cases h:wX kvs k with
 | none=>exact t.put h e
 | some u =>
  have ha:(kvs.any fun kv=>decide (kv.1=k))=true:=by rw [qK,h];rfl
  unfold putK
  rw [if_pos ha]
  refine⟨?_,fun p hp=>?_⟩
  ·rw [List.map_map,show ((fun x:NK×V=>x.1) ∘ fun kv:NK×V=>if kv.1=k then (kv.1,v) else kv)=(fun x:NK×V=>x.1) from funext fun kv=>by
    show (if kv.1=k then (kv.1,v) else kv).1=kv.1
    split<;>rfl]
   exact t.nd
  ·obtain⟨q,hq,rfl⟩:=List.mem_map.mp hp
   by_cases z:q.1=k
   ·rw [if_pos z];rw [z];exact e
   ·rw [if_neg z];exact t.ok q hq
theorem zbD {k:NK} {u v:V} (h:wX kvs k=none):putK (putK kvs k u) k v=putK kvs k v:=by
 rw [Wm u h,Wm v h]
 unfold putK
 have a1:((kvs++[(k,u)]).any fun kv=>decide (kv.1=k))=true:=by rw [List.any_append];simp
 rw [if_pos a1,List.map_append]
 have hn:=zaM h
 have e:(kvs.map fun kv=>if kv.1=k then (kv.1,v) else kv)=kvs:=by
  conv=>rhs;rw [<- List.map_id kvs]
  refine List.map_congr_left fun p hp=>?_
  rw [if_neg (fun z=>hn (List.mem_map.mpr ⟨p,hp,z⟩))];rfl
 rw [e]
 simp
def J1 (ls:ZA) (b:Nat):List NK:=((zaH ls ls).map fun x=>(List.range b).map fun f=>kA x f).flatten++((zaH ls ls).map fun x=>(List.range 1001).map fun t=>kW x t).flatten
theorem VN {α β:Type} {f:α->List β} {n:Nat} (h:∀ a,(f a).length<=n):∀ l:List α,((l.map f).flatten).length<=n*l.length
 | []=>by simp
 | a :: l=>by
  rw [List.map_cons,List.flatten_cons,List.length_append,List.length_cons,Nat.mul_succ]
  have:=VN h l
  have:=h a
  omega
theorem Tab.len (t:Tab ls b H kvs) (h4:ls.length<=4) (h:∀ st∈ls,st.length<=4) (hb:b<=16):kvs.length<=20000:=by
 have hk:(J1 ls b).length<=20000:=by
  have h1:=VN (f:=fun x=>(List.range b).map fun f=>kA x f) (n:=16) (fun x=>by rw [List.length_map,List.length_range];exact hb) (zaH ls ls)
  have h2:=VN (f:=fun x=>(List.range 1001).map fun t=>kW x t) (n:=1001) (fun x=>by rw [List.length_map,List.length_range];exact Nat.le_refl _) (zaH ls ls)
  have h3:=zed h4 h
  unfold J1
  rw [List.length_append]
  omega
 by_cases hc:kvs.length<=(J1 ls b).length
 ·omega
 ·exfalso
  obtain⟨i,j,x,hij,h1,h2⟩:=zbq (kvs.map (·.1)) (J1 ls b) (fun k hk=>by
   obtain⟨p,hp,rfl⟩:=List.mem_map.mp hk
   unfold J1
   rw [List.mem_append]
   rcases t.ok p hp with ⟨x,f,q1,q2,q3,_⟩ | ⟨x,n,q1,q2,q3,q4,_⟩
   ·exact .inl (List.mem_flatten.mpr ⟨_,List.mem_map.mpr ⟨x,zaK.mpr q1,rfl⟩,List.mem_map.mpr ⟨f,List.mem_range.mpr q2,q3.symm⟩⟩)
   ·exact .inr (List.mem_flatten.mpr ⟨_,List.mem_map.mpr ⟨x,zaK.mpr q1,rfl⟩,List.mem_map.mpr ⟨n,List.mem_range.mpr (by omega),q4.symm⟩⟩)) (by rw [List.length_map];omega)
  have hj:=(List.getElem?_eq_some_iff.mp h2).1
  have:=(List.getElem?_inj (by omega) t.nd).mp (h1.trans h2.symm)
  omega
end
structure RdS (G:Hp) (rd tl dd:Addr) (b:Nat) (ts:ZB):Prop where
 hd:G rd=some (.lst [.int b,.ref tl,.ref dd])
 li:G tl=some (.lst (ts.map fun t=>V.ref t.1))
 st:∀ t∈ts,G t.1=some (.tup (t.2.map V.int))
def RdD (P:Program) (w:World) (H:Hp) (dd:Addr) (ls:ZA) (b:Nat):Prop:=∃ kvs,DN P w H dd kvs/\Tab ls b H kvs
theorem RdS.same {G G':Hp} {rd tl dd:Addr} {b:Nat} {ts:ZB} (R:RdS G rd tl dd b ts) (s:Same G G'):RdS G' rd tl dd b ts:=⟨s _ _ R.hd,s _ _ R.li,fun t ht=>s _ _ (R.st t ht)⟩
theorem RdD.same {P:Program} {w:World} {H H':Hp} {dd:Addr} {ls:ZA} {b:Nat} (R:RdD P w H dd ls b) (s:Same H H'):RdD P w H' dd ls b:=let ⟨kvs,h1,h2⟩:=R;⟨kvs,h1.same s,h2.same fun b xs e=>s _ _ e⟩
theorem zej {P:Program} {w:World} {c:Addr} {q:Str} {xs:List (NK×Addr×Value)}:Vy c q≠.ext (Q5 P w c xs):=fun e=>by
 have e':(fun h:Heap=>h.CodeRec (.ref c) q)=Q5 P w c xs:=by unfold Vy at e;injection e
 have g0:(⟨Array.replicate (c+1) { cls:=.none,data:=.fields #[.none,.str q default] },{}⟩:Heap).get? c=some { cls:=.none,data:=.fields #[.none,.str q default] }:=by
  unfold Heap.get?
  simp
 have h1:(fun h:Heap=>h.CodeRec (.ref c) q) ⟨Array.replicate (c+1) { cls:=.none,data:=.fields #[.none,.str q default] },{}⟩:=⟨c,_,_,default,rfl,g0,rfl,rfl⟩
 rw [e'] at h1
 obtain⟨o,es,ep,g,_,d,_⟩:=h1
 rw [g0] at g
 cases g
 cases d
theorem DN.lam {P:Program} {w:World} {H:Hp} {a T:Addr} {kvs:List (NK×V)} {pos:Pos} {q:Str} (h:DN P w H a kvs) (lt:Xr T pos q H):T≠a/\∀ c,H c=some (Vy c q)->c≠a:=by
 obtain⟨xs,e,_⟩:=h
 refine⟨fun z=>?_,fun c hc z=>?_⟩
 ·rw [<- z] at e
  rcases lt with l | ⟨c,l,_⟩
  ·rw [l] at e;cases e
  ·rw [l] at e;cases e
 ·subst z
  rw [hc] at e
  injection e with e
  exact zej e
def SameD (d:Addr) (H H':Hp):Prop:=∀ b u,b≠d->H b=some u->H' b=some u
theorem SameD.of {d:Addr} {H H':Hp} (s:Same H H'):SameD d H H':=fun b u _ e=>s b u e
theorem SameD.trans {d:Addr} {H H1 H2:Hp} (a:SameD d H H1) (b:SameD d H1 H2):SameD d H H2:=fun c u h e=>b c u h (a c u h e)
theorem RdD.ne {P:Program} {w:World} {H:Hp} {dd:Addr} {ls:ZA} {b:Nat} (R:RdD P w H dd ls b) {c:Addr} {u:HO} (h:H c=some u) (hu:∀ φ,u≠.ext φ):c≠dd:=let ⟨_,⟨_,e,_⟩,_⟩:=R;fun z=>by
 rw [z,e] at h;cases h;exact hu _ rfl
theorem RdS.sameD {P:Program} {w:World} {H H':Hp} {rd tl dd:Addr} {ls:ZA} {b b':Nat} {ts:ZB} (R:RdS H rd tl dd b ts) (D:RdD P w H dd ls b') (s:SameD dd H H'):RdS H' rd tl dd b ts :=
 ⟨s _ _ (D.ne R.hd fun _ z=>nomatch z) R.hd,s _ _ (D.ne R.li fun _ z=>nomatch z) R.li,fun t ht=>s _ _ (D.ne (R.st t ht) fun _ z=>nomatch z) (R.st t ht)⟩
def vA (x:List Int):Tr:=.tup (x.map Tr.int)
theorem TrAt.tupI {K:W.Frag} {H:Hp} {a:Addr} {x:List Int} (h:H a=some (.tup (x.map V.int))):TrAt K H (vA x) (.ref a):=by
 unfold vA;rw [TrAt];exact⟨a,_,rfl,SqT.of h,TrsAt.ints⟩
theorem zaD (a b:List Int):teq (vA a) (vA b)=decide (a=b):=by unfold vA;rw [teq];exact VD zb2 a b
theorem QH (x:List Int):tQ (vA x)=1:=by unfold vA;rw [tQ,XC]
theorem ZD:∀ ls:ZA,xM (ls.map vA)<=1
 | []=>by rw [List.map_nil,xM];omega
 | x :: ls=>by rw [List.map_cons,xM,QH];have:=ZD ls;omega
theorem TrsAt.tups {K:W.Frag} {H:Hp}:∀ {zs:ZB},(∀ z∈zs,H z.1=some (.tup (z.2.map V.int)))->TrsAt K H ((zs.map (·.2)).map vA) (zs.map fun z=>V.ref z.1)
 | [],_=>by rw [List.map_nil,List.map_nil,List.map_nil,TrsAt]
 | z :: zs,h=>by
  rw [List.map_cons,List.map_cons,List.map_cons,TrsAt]
  exact⟨_,_,rfl,TrAt.tupI (h z List.mem_cons_self),TrsAt.tups fun y hy=>h y (List.mem_cons_of_mem _ hy)⟩
theorem zeF {ls:ZA} {x:List Int}:((ls.map vA).any fun t=>teq t (vA x))=decide (x∈ls):=by
 induction ls with
 | nil=>simp
 | cons y ls ih =>
  rw [List.map_cons,List.any_cons,ih,zaD,<- Bool.decide_or]
  refine decide_eq_decide.mpr ?_
  rw [List.mem_cons]
  exact⟨fun z=>z.imp Eq.symm id,fun z=>z.imp Eq.symm id⟩
theorem QM (ts:List Tr):teq (.lst ts) (.lst [])=ts.isEmpty:=by
 cases ts with
 | nil=>rfl
 | cons t ts=>rw [teq,jV (by simp)];rfl
def tot (p:Nat->Bool) (f:Nat->Nat):Nat->Nat
 | 0=>0
 | n+1=>tot p f n+(if p n=true then f n else 0)
def tt (ls:ZA) (b:Nat) (w:Nat->Nat) (sc:Nat):Nat->List Int->Nat
 | 0,_=>0
 | t+1,x=>((List.range b).map fun (c:Nat)=>if lacks ls (x++[(c:Int)])=true then sc^t*w c*cnt ls b t (zG ls (x++[(c:Int)]))+tt ls b w sc t (zG ls (x++[(c:Int)])) else 0).sum
theorem ze0 {p:Nat->Bool} {A B:Nat} (h:many p A<many p B):∃ g,p g=true/\A<=g/\g<B:=by
 have hAB:A<=B:=by
  by_cases z:A<=B
  ·exact z
  ·have:=wu p (show B<=A by omega);omega
 obtain⟨k,rfl⟩:=Nat.exists_eq_add_of_le hAB
 rw [qw] at h
 obtain⟨n,hn,hp⟩:=zac (N:=k) (p:=fun n=>p (A+n)) (by omega)
 exact⟨A+n,hp,by omega,by omega⟩
def End (ls:ZA) (b:Nat):Prop:=∀ L:Nat,∃ g,gd ls b g=true/\b^L<=g/\g<b^(L+1)
theorem zcI {b g k:Nat} (h2:2<=b) (h:b^k<=g):k<(yu b g).length:=by
 obtain⟨j,h1,h3⟩:=JB h2 g
 rw [Wy h2 h1 h3]
 have:b^k<b^(j+1):=Nat.lt_of_le_of_lt h h1
 exact (Nat.pow_lt_pow_iff_right (show 1<b by omega)).mp this
theorem zfJ {ls ws:ZA} (ne:∀ l∈ls,l≠[]) (SL:StandsL ls ws) {b g k:Nat} (h2:2<=b) (hg:gd ls b g=true) (h:b^k<=g) (hk:ws.length<=k):End ls b:=fun L =>
 zdo ne SL h2 hg (Nat.lt_of_lt_of_le (Nat.pow_pos (by omega)) h) (Nat.lt_of_le_of_lt hk (zcI h2 h)) L
theorem zfX {ls:ZA} {b:Nat} (h:End ls b) (k:Nat):many (gd ls b) (b^k)<many (gd ls b) (b^(k+1)):=by
 obtain⟨g,h1,h2,h3⟩:=h k
 exact Nat.lt_of_le_of_lt (wu _ h2) (YQ _ h3 h1)
theorem zdE {ls ws:ZA} (ne:∀ l∈ls,l≠[]) (SL:StandsL ls ws) {b:Nat} (h2:2<=b) (h:yI ls b ws.length<yI ls b (ws.length+1)):End ls b:=by
 rw [yr ne h2,yr ne h2] at h
 obtain⟨g,h1,h3,_⟩:=ze0 h
 exact zfJ ne SL h2 h1 h3 (Nat.le_refl _)
def xH (ls:ZA) (x:List Int) (a n:Nat):List Nat:=((List.range n).map (a+·)).filter fun (c:Nat)=>lacks ls (x++[(c:Int)])
def uA (ls:ZA) (b t:Nat) (x:List Int) (a n:Nat):Nat:=((xH ls x a n).map fun (c:Nat)=>cnt ls b t (zG ls (x++[(c:Int)]))).sum
theorem jX (ls:ZA) (x:List Int) (a n:Nat):xH ls x a (n+1)=xH ls x a n++(if lacks ls (x++[((a+n:Nat):Int)])=true then [a+n] else []):=by
 unfold xH
 rw [List.range_succ,List.map_append,List.filter_append]
 congr 1
 rw [List.map_cons,List.map_nil,List.filter_cons]
 split<;>rfl
theorem VM (ls:ZA) (b t:Nat) (x:List Int) (a n:Nat):uA ls b t x a (n+1)=uA ls b t x a n+Yh ls b t (some x) (a+n):=by
 unfold uA
 rw [jX,List.map_append,List.sum_append]
 congr 1
 show _=if lacks ls (x++[((a+n:Nat):Int)])=true then _ else 0
 split<;>simp
theorem jJ (ls:ZA) (b t:Nat) (x:List Int):∀ n,uA ls b t x 0 n=under ls b t (some x) n
 | 0=>rfl
 | n+1=>by rw [VM,jJ,ux,Nat.zero_add]
theorem jd (ls:ZA) (b t:Nat):∀ n,yI ls b t+uA ls b t [] 1 n=under ls b t none (n+1)
 | 0=>by
  rw [ux,Xu]
  show yI ls b t+0=0+(if (0:Nat)=0 then yI ls b t else if lacks ls [((0:Nat):Int)]=true then cnt ls b t (zG ls [((0:Nat):Int)]) else 0)
  rw [if_pos rfl]
  omega
 | n+1=>by
  rw [VM,<- Nat.add_assoc,jd,ux ls b t none (n+1)]
  congr 1
  show (if lacks ls ([]++[((1+n:Nat):Int)])=true then cnt ls b t (zG ls ([]++[((1+n:Nat):Int)])) else 0)=if n+1=0 then yI ls b t else if lacks ls [((n+1:Nat):Int)]=true then cnt ls b t (zG ls [((n+1:Nat):Int)]) else 0
  rw [if_neg (by omega:¬ n+1=0),Nat.add_comm 1 n]
  rfl
theorem zcH {ls:ZA} {x:List Int} {a n c:Nat} (h:c∈xH ls x a n):a<=c/\c<a+n/\lacks ls (x++[(c:Int)])=true:=by
 unfold xH at h
 obtain⟨h1,h2⟩:=List.mem_filter.mp h
 obtain⟨i,hi,rfl⟩:=List.mem_map.mp h1
 have:=List.mem_range.mp hi
 exact⟨by omega,by omega,h2⟩
def yQ (ls:ZA) (b t:Nat):Nat:=uA ls b t [] 1 (b-1)
theorem vd (ls:ZA) {b:Nat} (h2:2<=b) (t:Nat):yI ls b t+yQ ls b t=yI ls b (t+1):=by
 unfold yQ
 rw [jd,show b-1+1=b by omega,za8]
theorem Uy (ls:ZA) {b:Nat} (h2:2<=b):∀ m,(if lacks ls [0]=true then 1 else 0)+((List.range m).map fun t=>yQ ls b t).sum=yI ls b m
 | 0=>rfl
 | m+1=>by
  rw [List.range_succ,List.map_append,List.sum_append,<- Nat.add_assoc,Uy ls h2 m,<- vd ls h2 m]
  simp
def PartN (ls:ZA) (b n L k:Nat) (o:Option (List Int)) (tot:Nat):Prop :=
 (k=0/\o=some []/\tot=yI ls b (L-1))\/(1<=k/\gd ls b (n / b^(L-k))=true/\o=some (zG ls (yu b (n / b^(L-k))))/\tot=many (gd ls b) (n / b^(L-k)*b^(L-k)))\/(1<=k/\o=none/\tot=many (gd ls b) n)
theorem PartN.rep {ls:ZA} {b n L k:Nat} {x:List Int} {tot:Nat} (h2:2<=b) (hn:0<n) (hL:(yu b n).length=L) (hk:k<L) (p:PartN ls b n L k (some x) tot) :
  ∃ o,Rep ls b (n / b^(L-k)) o/\((k=0/\x=[]/\o=none/\tot=yI ls b (L-1))\/(1<=k/\o=some x/\tot=many (gd ls b) (n / b^(L-k)*b^(L-k)))):=by
 rcases p with ⟨rfl,e,t⟩ | ⟨h1,g,e,t⟩ | ⟨h1,e,_⟩
 ·cases e
  have:n / b^(L-0)=0:=Nat.div_eq_of_lt (uC h2 hL)
  exact⟨none,.inl ⟨this,rfl⟩,.inl ⟨rfl,rfl,rfl,t⟩⟩
 ·cases e
  refine⟨_,.inr ⟨?_,g,rfl⟩,.inr ⟨h1,rfl,t⟩⟩
  have hs:=(Yu (k:=L-1) h2).mp (by rw [hL];omega)
  have hp:0<b^(L-k):=Nat.pow_pos (by omega)
  have:b^(L-k)<=n:=by
   rcases hs.2 with z | z
   ·omega
   ·exact Nat.le_trans (Nat.pow_le_pow_right (by omega) (by omega)) z
  exact Nat.div_pos this hp
 ·cases e
theorem PartN.next {ls:ZA} (ne:∀ l∈ls,l≠[]) {b n L k:Nat} {x:List Int} {tot:Nat} (h2:2<=b) (hn:0<n) (hL:(yu b n).length=L) (hk:k<L) (p:PartN ls b n L k (some x) tot) {c:Nat} (hc:(yu b n)[k]?=some (c:Int)) :
  c<b/\(k=0->1<=c)/\PartN ls b n L (k+1) (aft ls x c) (tot+uA ls b (L-1-k) x (if k=0 then 1 else 0) (c-(if k=0 then 1 else 0))):=by
 have ec:c=(n / b^(L-1-k)) % b:=by
  rw [J0 h2 hL hk] at hc
  have hc:((n / b^(L-1-k) % b:Nat):Int)=(c:Int):=by simpa using hc
  omega
 have hcb:c<b:=by rw [ec];exact Nat.mod_lt _ (by omega)
 have et:L-k=L-1-k+1:=by omega
 have htop:n / b^(L-1-k)=n / b^(L-k)*b+c:=by rw [et,ec];exact J9 (by omega)
 obtain⟨o,R,hor⟩:=p.rep h2 hn hL hk
 have hu:=vC ne h2 R (L-1-k) (s:=c) (by omega)
 have hs:=R.step ne h2 hcb
 rw [<- et,<- htop] at hu
 have hstep:c≠0\/k≠0:=by
  by_cases hk0:k=0
  ·left
   intro hc0
   have hs:=(Yu (k:=L-1) h2).mp (by rw [hL];omega)
   have z:n / b^(L-k)=0:=by rw [hk0];exact Nat.div_eq_of_lt (uC h2 hL)
   rw [z,hc0,hk0] at htop
   have hlt:n<b^(L-1):=by
    have hp:0<b^(L-1):=Nat.pow_pos (by omega)
    have:n / b^(L-1)=0:=by simpa using htop
    rcases Nat.div_eq_zero_iff.mp this with q | q
    ·omega
    ·exact q
   rcases hs.2 with q | q
   ·rw [q,Nat.pow_zero] at hlt;omega
   ·omega
  ·exact .inr hk0
 have hm1:1<=n / b^(L-1-k):=by
  rcases hor with ⟨rfl,_,_,_⟩ | ⟨h1,rfl,_⟩
  ·rw [htop];rcases hstep with q | q
   ·omega
   ·exact absurd rfl q
  ·rcases R with ⟨_,z⟩ | ⟨z,_⟩
   ·cases z
   ·rw [htop];exact zaf h2 z
 refine⟨hcb,fun z=>by rcases hstep with q | q;omega;exact absurd z q,?_⟩
 have etot:tot+uA ls b (L-1-k) x (if k=0 then 1 else 0) (c-(if k=0 then 1 else 0))=many (gd ls b) (n / b^(L-1-k)*b^(L-1-k)):=by
  rcases hor with ⟨rfl,rfl,rfl,rfl⟩ | ⟨h1,rfl,rfl⟩
  ·rw [if_pos rfl]
   have q:=jd ls b (L-1) (c-1)
   have hc1:1<=c:=by rcases hstep with q | q;omega;exact absurd rfl q
   rw [show c-1+1=c by omega] at q
   have e0:L-1-0=L-1:=Nat.sub_zero _
   rw [e0] at hu ⊢
   rw [q,<- hu]
   have z:n / b^(L-0)=0:=Nat.div_eq_of_lt (uC h2 hL)
   rw [z,Nat.zero_mul]
   simp [many]
  ·rw [if_neg (by omega),Nat.sub_zero,jJ,hu]
 rw [etot]
 have eL:L-(k+1)=L-1-k:=by omega
 have key:(lacks ls (x++[(c:Int)])=true->gd ls b (n / b^(L-1-k))=true/\zG ls (x++[(c:Int)])=zG ls (yu b (n / b^(L-1-k))))/\(lacks ls (x++[(c:Int)])=false->gd ls b (n / b^(L-1-k))=false):=by
  rcases hor with ⟨rfl,rfl,rfl,_⟩ | ⟨h1,rfl,_⟩
  ·have z:n / b^(L-0)=0:=Nat.div_eq_of_lt (uC h2 hL)
   rw [z,Nat.zero_mul,Nat.zero_add] at htop
   rw [htop]
   unfold gd
   rw [wI hcb]
   exact⟨fun h=>⟨h,rfl⟩,fun h=>h⟩
  ·rcases R with ⟨_,z⟩ | ⟨z1,z2,z3⟩
   ·cases z
   ·cases z3
    rw [htop]
    unfold gd at z2 ⊢
    rw [vo h2 z1 hcb,<- uz ne (c:Int) z2,uo]
    exact⟨fun h=>⟨h,rfl⟩,fun h=>h⟩
 unfold aft
 cases hl:lacks ls (x++[(c:Int)]) with
 | true =>
  obtain⟨g,e⟩:=key.1 hl
  rw [if_pos rfl]
  exact .inr (.inl ⟨by omega,by rw [eL];exact g,by rw [eL,e],by rw [eL]⟩)
 | false =>
  have g:=key.2 hl
  rw [if_neg Bool.false_ne_true]
  refine .inr (.inr ⟨by omega,rfl,?_⟩)
  have hb:=zbC ne h2 hm1 g (L-1-k) (r:=n % b^(L-1-k)) (Nat.le_of_lt (Nat.mod_lt _ (Nat.pow_pos (by omega))))
  have en:n / b^(L-1-k)*b^(L-1-k)+n % b^(L-1-k)=n:=by rw [Nat.mul_comm];exact Nat.div_add_mod n _
  rw [en] at hb
  exact hb.symm
theorem PartN.done {ls:ZA} {b n L:Nat} {o:Option (List Int)} {tot:Nat} (hL:1<=L) (p:PartN ls b n L L o tot):tot=many (gd ls b) n:=by
 rcases p with ⟨z,_⟩ | ⟨_,_,_,t⟩ | ⟨_,_,t⟩
 ·omega
 ·rw [t,Nat.sub_self,Nat.pow_zero,Nat.div_one,Nat.mul_one]
 ·exact t
theorem W0 {ls:ZA} {x:List Int} {a:Nat}:∀ {n j c:Nat},(xH ls x a n)[j]?=some c->(xH ls x a n).take j=xH ls x a (c-a)
 | 0,j,c,h=>by simp [xH] at h
 | n+1,j,c,h=>by
  rw [jX] at h ⊢
  by_cases hj:j<(xH ls x a n).length
  ·rw [List.getElem?_append_left hj] at h
   rw [List.take_append_of_le_length (by omega)]
   exact W0 h
  ·rw [List.getElem?_append_right (by omega)] at h
   by_cases hl:lacks ls (x++[((a+n:Nat):Int)])=true
   ·rw [if_pos hl] at h ⊢
    have hj0:j-(xH ls x a n).length=0:=by
     have:=(List.getElem?_eq_some_iff.mp h).1
     rw [List.length_singleton] at this
     omega
    rw [hj0] at h
    have hc:c=a+n:=by simpa using h.symm
    have hj1:j=(xH ls x a n).length:=by omega
    rw [hj1,List.take_left,hc,Nat.add_sub_cancel_left]
   ·rw [if_neg hl] at h;simp at h
def NthN (ls:ZA) (b K L k:Nat) (x:List Int) (m rem:Nat):Prop :=
 (k=0/\x=[]/\m=0/\rem+yI ls b (L-1)=K/\rem<yQ ls b (L-1)) \/
 (1<=k/\1<=m/\gd ls b m=true/\x=zG ls (yu b m)/\rem+many (gd ls b) (m*b^(L-k))=K/\rem<cnt ls b (L-k) x)
theorem NthN.total {ls:ZA} {b K L k:Nat} {x:List Int} {m rem:Nat} (h2:2<=b) (hk:k<L) (p:NthN ls b K L k x m rem):rem<uA ls b (L-1-k) x (if k=0 then 1 else 0) (b-(if k=0 then 1 else 0)):=by
 rcases p with ⟨rfl,rfl,_,_,h⟩ | ⟨h1,_,_,_,_,h⟩
 ·rw [if_pos rfl];exact h
 ·rw [if_neg (by omega),Nat.sub_zero,jJ,QR,show L-1-k+1=L-k by omega];exact h
theorem NthN.next {ls:ZA} (ne:∀ l∈ls,l≠[]) {b K L k:Nat} {x:List Int} {m rem c:Nat} (h2:2<=b) (hk:k<L) (p:NthN ls b K L k x m rem) (hc1:(if k=0 then 1 else 0)<=c) (hcb:c<b) (hl:lacks ls (x++[(c:Int)])=true)
  (hlo:uA ls b (L-1-k) x (if k=0 then 1 else 0) (c-(if k=0 then 1 else 0))<=rem) (hhi:rem-uA ls b (L-1-k) x (if k=0 then 1 else 0) (c-(if k=0 then 1 else 0))<cnt ls b (L-1-k) (zG ls (x++[(c:Int)]))) :
  NthN ls b K L (k+1) (zG ls (x++[(c:Int)])) (m*b+c) (rem-uA ls b (L-1-k) x (if k=0 then 1 else 0) (c-(if k=0 then 1 else 0))):=by
 have eL:L-(k+1)=L-1-k:=by omega
 rcases p with ⟨rfl,rfl,rfl,hK,_⟩ | ⟨h1,hm,g,rfl,hK,_⟩
 ·rw [if_pos rfl] at *
  have q:=jd ls b (L-1) (c-1)
  rw [show c-1+1=c by omega] at q
  have hu:=vC ne h2 (.inl ⟨rfl,rfl⟩:Rep ls b 0 none) (L-1) (s:=c) (by omega)
  rw [Nat.zero_mul,Nat.zero_mul,Nat.zero_add] at hu
  simp only [Nat.sub_zero] at hlo hhi ⊢
  have eL':L-(0+1)=L-1:=by omega
  have hz:many (gd ls b) 0=0:=rfl
  refine .inr ⟨by omega,by omega,?_,?_,?_,?_⟩
  ·unfold gd;rw [Nat.zero_mul,Nat.zero_add,wI hcb];exact hl
  ·rw [Nat.zero_mul,Nat.zero_add,wI hcb];rfl
  ·rw [eL',Nat.zero_mul,Nat.zero_add];omega
  ·rw [eL'];exact hhi
 ·rw [if_neg (by omega:¬ k=0)] at *
  rw [Nat.sub_zero] at *
  rw [jJ] at *
  have hu:=vC ne h2 (.inr ⟨hm,g,rfl⟩:Rep ls b m (some (zG ls (yu b m)))) (L-1-k) (s:=c) (by omega)
  rw [show L-1-k+1=L-k by omega] at hu
  have hl2:lacks ls (yu b m++[(c:Int)])=true:=by rw [<- uz ne (c:Int) g];exact hl
  refine .inr ⟨by omega,zaf h2 hm,?_,?_,?_,?_⟩
  ·unfold gd;rw [vo h2 hm hcb];exact hl2
  ·rw [vo h2 hm hcb,uo]
  ·rw [eL];omega
  ·rw [eL];exact hhi
theorem NthN.done {ls:ZA} {b K L:Nat} {x:List Int} {m rem:Nat} (hL:1<=L) (p:NthN ls b K L L x m rem):gd ls b m=true/\many (gd ls b) m=K:=by
 rcases p with ⟨z,_⟩ | ⟨_,_,g,_,hK,hr⟩
 ·omega
 ·rw [Nat.sub_self,Nat.pow_zero,Nat.mul_one] at hK
  rw [Nat.sub_self] at hr
  have:rem<1:=hr
  exact⟨g,by omega⟩
theorem WD {ls:ZA} (ne:∀ l∈ls,l≠[]) {b t:Nat} (h2:2<=b) (h:yQ ls b t=0):∀ M,many (gd ls b) M<=yI ls b t:=by
 have e1:=vd ls h2 t
 rw [h,Nat.add_zero,yr ne h2,yr ne h2] at e1
 rw [yr ne h2]
 have no:∀ g,b^t<=g->1<=g->gd ls b g=false:=fun g hg hg1=>by
  cases q:gd ls b g with
  | false=>rfl
  | true =>
   exfalso
   obtain⟨k,k1,k2⟩:=JB h2 g
   have hkt:t<=k:=by
    by_cases z:t<=k
    ·exact z
    ·have:b^(k+1)<=b^t:=Nat.pow_le_pow_right (by omega) (by omega)
     omega
   have hp:0<b^(k-t):=Nat.pow_pos (by omega)
   have hdm:=Nat.div_add_mod g (b^(k-t))
   have hpre:gd ls b (g / b^(k-t))=true:=zfM (r:=g % b^(k-t)) (t:=k-t) ne h2 (by
    have:b^(k-t)<=g:=by
     rcases k2 with z | z
     ·subst z
      have:t=0:=by omega
      subst this
      simpa using hg1
     ·exact Nat.le_trans (Nat.pow_le_pow_right (by omega) (by omega)) z
    exact Nat.div_pos this hp) (Nat.mod_lt _ hp) (by rw [Nat.mul_comm,hdm];exact q)
   have hlo:b^t<=g / b^(k-t):=by
    rw [Nat.le_div_iff_mul_le hp,<- Nat.pow_add,show t+(k-t)=k by omega]
    rcases k2 with z | z
    ·subst z
     have:t=0:=by omega
     subst this
     simpa using hg1
    ·exact z
   have hhi:g / b^(k-t)<b^(t+1):=by
    rw [Nat.div_lt_iff_lt_mul hp,<- Nat.pow_add,show t+1+(k-t)=k+1 by omega];exact k1
   have h1:=wu (gd ls b) hlo
   have h3:=YQ (gd ls b) hhi hpre
   omega
 intro M
 by_cases hM:M<=b^t
 ·exact wu _ hM
 ·have hpos:1<=b^t:=Nat.pow_pos (by omega)
  have:=qw (gd ls b) (b^t) (M-b^t)
  rw [show b^t+(M-b^t)=M by omega,YT (p:=fun n=>gd ls b (b^t+n)) fun n _=>no _ (by omega) (by omega)] at this
  omega
def zhe (ls:ZA) (b K:Nat) (o:Option Nat):Prop:=(∃ g,o=some g/\gd ls b g=true/\many (gd ls b) g=K)\/(o=none/\∀ M,many (gd ls b) M<=K)
end Lw
namespace L2
open PySem PySem.Spec PyProof.Rows
def cxD (X:Cx) (x:Str) (N:List Str) (scope:Scope) (C:Addr) (s₀:Shared) (H₀:Hp) (ex:List Addr):Cx where
 prog:=X.prog
 w:=X.w
 K:=X.K
 mg:=X.mg
 base:=X.base
 A:=X.A
 N:=N
 s₀:=s₀
 H₀:=H₀
 env:=compEnvC scope ((x,C+1) :: yf X.env.cells scope.names []) C X.env
 outer:=X.stack
 stack:=X.stack
 ex:=ex
 fn:=fun y=>y == x
 calm:=X.calm
 pn:=[]
 xe:=fun _ _=>False
structure Vk (sc:Scope) (scope:Scope) (x:Str) (M:List Str) (ys:List Str) (js:List Nat):Prop where
 kind:scope.kind=.function
 cell:∀ y∈scope.names,y.2=.cell->y.1=x
 loc:∀ y∈scope.names,y.2=.local->scope.names.lookup y.1=some .local
 var:scope.names.lookup x=some .cell
 free:∀ y∈scope.names,y.2=.free->sc.names.lookup y.1=some .cell\/sc.names.lookup y.1=some .free
 caps:js.map (M[·]?)=ys.map some
 fr:∀ y∈ys,scope.names.lookup y=some .free
 nd:(x :: ys).Nodup
 own:∀ n acc,cellsFrom n scope.names acc=(x,n) :: acc
 psh:∀ h:Heap,pushCells h scope.names=h.push { cls:=.type "cell",data:=.cell none }
theorem vQ {env:Env}:∀ {names:List (Str×NameKind)} {x:Str},names.lookup x=some .cell ->
  (names.map fun (n,k)=>if (k == NameKind.free && env.scope.kind == .function && env.kindOf n == some .cell) then (n,NameKind.cell) else (n,k)).lookup x=some .cell
 | [],_,h=>by simp at h
 | (n,k) :: r,x,h=>by
  have ih:=@vQ env r x
  rw [List.map_cons]
  have e:∀ b:Bool,(if b=true then (n,NameKind.cell) else (n,k)).1=n:=fun b=>by cases b<;>rfl
  generalize hb:(k == NameKind.free && env.scope.kind == .function && env.kindOf n == some .cell)=b
  simp only [hb]
  rw [List.lookup_cons] at h
  cases hx:x == n with
  | true =>
   rw [hx] at h
   have hk:k=.cell:=Option.some.inj h
   cases b<;>simp [List.lookup_cons,hx,hk]
  | false =>
   rw [hx] at h
   cases b<;>(simp only [if_true,Bool.false_eq_true,if_false,List.lookup_cons,hx];exact ih h)
theorem zbn {M:Model} {A:Around} {E:Value->Shared->Prop} {s:Shared} {scope:Scope} {globals:Addr} {cl:List (Str×Addr)} {qual:Str} {outer:Env} {x:Str} {Q:Env->Shared->Prop}
  (own:∀ n acc,cellsFrom n scope.names acc=(x,n) :: acc) (psh:∀ h:Heap,pushCells h scope.names=h.push { cls:=.type "cell",data:=.cell none })
  (hQ:∀ h',h'.Ns s.heap.objs.size (fun _=>none)->h'.get? (s.heap.objs.size+1)=some { cls:=.type "cell",data:=.cell none }->(∀ b o,s.heap.get? b=some o->h'.get? b=some o) ->
   Q { scope,locals:=s.heap.objs.size,globals,cells:=(x,s.heap.objs.size+1) :: cl,qual,func:=none,code:=outer.code,frame:=outer.frame,builtins:=outer.builtins } { s with heap:=h' }) :
  wpAny M A (newFunctionEnv scope globals cl [] qual none .none (some outer)) Q E s:=by
 simp only [newFunctionEnv,Option.isSome_some,if_true]
 refine wpAny_bind (wpAny_alloc ?_)
 refine wpAny_bind (wpAny_layCells _ (fun name kind cells=>by cases hkc:kind == NameKind.cell<;>simp [hkc]) _ _ _ _ ?_)
 rw [own,psh]
 simp only [List.forIn_nil]
 refine wpAny_bind (wpAny_pure (wpAny_pure ?_))
 have hsz:(s.heap.push { cls:=.type "dict",data:=.dict #[] }).objs.size=s.heap.objs.size+1:=Heap.size_push ..
 have q:=hQ ((s.heap.push { cls:=.type "dict",data:=.dict #[] }).push { cls:=.type "cell",data:=.cell none })
  ((Heap.Ns.new s.heap (.type "dict")).keeps fun b o e=>Heap.get?_push_of_some _ e) (by rw [<- hsz];exact Heap.get?_push_size _ rfl) fun b o e=>Heap.get?_push_of_some _ (Heap.get?_push_of_some _ e)
 rw [<- hsz] at q
 exact q
section
variable {X:Cx} {pins:List (Addr×Obj)} {Z:St} {H:Hp} {s:Shared}
theorem zcs {scope:Scope} {x:Str} {ys:List Str} {js:List Nat} {fp:List Addr} {h₁:Heap} {tk:Nat} {C:Addr} (I:Inv X pins Z H s) (S:Vk X.env.scope scope x X.N ys js) (hf:∀ b∈fp,Yl X pins H b) (ho:∀ b∈fp,∃ o,s.heap.get? b=some o)
  (hC:s.heap.objs.size<=C) (hk:∀ b o,s.heap.get? b=some o->h₁.get? b=some o) (hn:h₁.Ns C fun _=>none) (hcell:h₁.get? (C+1)=some { cls:=.type "cell",data:=.cell none }) :
  Inv (cxD X x (x :: ys) scope C s H fp) [] (none :: yN js Z) H { s with heap:=h₁,toks:=tk }:=by
 have sub:∀ y c,(yf X.env.cells scope.names []).lookup y=some c->X.env.cells.lookup y=some c:=fun y c e=>xV (fun _ _ z=>by simp at z) e
 have has:∀ y,scope.names.lookup y=some .free->∃ c,(yf X.env.cells scope.names []).lookup y=some c:=fun y e=>by
  have m:(y,NameKind.free)∈scope.names:=PySem.mem_of_lookup e
  exact ZW (.inr ⟨m,I.ok.has y (S.free _ m rfl)⟩)
 have look:∀ y c,((x,C+1) :: yf X.env.cells scope.names []).lookup y=some c->(y=x/\c=C+1)\/(y≠x/\(yf X.env.cells scope.names []).lookup y=some c):=fun y c e=>by
  rw [List.lookup_cons] at e
  cases hb:y == x with
  | true=>rw [hb] at e;exact .inl ⟨eq_of_beq hb,(Option.some.inj e).symm⟩
  | false=>rw [hb] at e;exact .inr ⟨fun z=>by rw [z] at hb;simp at hb,e⟩
 have lookN:∀ y,y≠x->((x,C+1) :: yf X.env.cells scope.names []).lookup y=(yf X.env.cells scope.names []).lookup y:=fun y hy=>by
  rw [List.lookup_cons,show (y == x)=false from beq_eq_false_iff_ne.mpr hy]
 have old:∀ y c,(yf X.env.cells scope.names []).lookup y=some c->c<s.heap.objs.size:=fun y c e=>by
  obtain⟨v,o,e2,_⟩:=I.cell y c (sub y c e)
  exact Heap.lt_size e2
 have lt:∀ b∈fp,b<s.heap.objs.size:=fun b hb=>by obtain⟨o,e⟩:=ho b hb;exact Heap.lt_size e
 have ok:(cxD X x (x :: ys) scope C s H fp).Ok:=by
  refine⟨I.ok.mod,S.kind,I.ok.glob,I.ok.blt,hC,fun y z c e1 e2=>?inj,fun y hy=>?_,fun y c z=>?_,I.ok.hd,I.ok.frames,.inl rfl,fun b hb=>?_,I.bs,Nat.le_trans I.ok.bsz I.sz,fun b o e hb=>?_,fun b hb z=>?_,I.stack,I.stkFree⟩
  case inj =>
   rcases look y c e1 with ⟨h1,h2⟩ | ⟨_,h1⟩<;>rcases look z c e2 with ⟨h3,h4⟩ | ⟨_,h3⟩
   ·rw [h1,h3]
   ·exact absurd (old z c h3) (by rw [h2];exact Nat.not_lt.mpr (Nat.le_succ_of_le hC))
   ·exact absurd (old y c h1) (by rw [h4];exact Nat.not_lt.mpr (Nat.le_succ_of_le hC))
   ·exact I.ok.inj y z c (sub _ _ h1) (sub _ _ h3)
  ·have hy':(relabel scope X.env).names.lookup y=some .cell\/(relabel scope X.env).names.lookup y=some .free:=hy
   by_cases hyx:y=x
   ·exact⟨C+1,by show ((x,C+1) :: yf X.env.cells scope.names []).lookup y=_;rw [hyx];simp⟩
   have nocell:scope.names.lookup y≠some .cell:=fun z=>hyx (S.cell _ (PySem.mem_of_lookup z) rfl)
   have has':scope.names.lookup y=some .free->∃ c,((x,C+1) :: yf X.env.cells scope.names []).lookup y=some c:=fun z=>by rw [lookN y hyx];exact has y z
   rcases hy' with e | e
   ·rcases yo e with z | ⟨_,z⟩
    ·exact absurd z nocell
    ·exact has' z
   ·rcases yo e with z | ⟨z,_⟩
    ·exact has' z
    ·cases z
  ·intro e
   have z':y=x:=eq_of_beq z
   rcases look y c e with ⟨_,h⟩ | ⟨h,_⟩
   ·rw [h];exact Nat.le_succ_of_le hC
   ·exact absurd z' h
  ·refine⟨Nat.ne_of_lt (Nat.lt_of_lt_of_le (lt b hb) hC),fun y c e=>?_⟩
   rcases look y c e with ⟨_,h⟩ | ⟨_,h⟩
   ·rw [h];exact Nat.ne_of_gt (Nat.lt_of_lt_of_le (lt b hb) (Nat.le_succ_of_le hC))
   ·exact (hf b hb).2.2.2.2.1 y c (sub y c h)
  ·rcases (hf b hb).2.2.2.1 with z | z
   ·exact I.ok.noex b o e z
   ·exact absurd (Nat.lt_of_lt_of_le (Heap.lt_size e) (Nat.le_trans I.ok.bsz z)) (Nat.lt_irrefl _)
  ·rcases List.mem_cons.mp (I.stkSub b z) with e | e
   ·exact (hf b hb).2.1 e
   ·exact (hf b hb).2.2.1 e
 refine⟨ok,rfl,I.bare,Un.kept hk,⟨_,hn,fun i y v e1 e2 e3=>?_⟩,fun y c e=>?_,I.hok.fresh hC,fun y c e=>(look y c e).elim (fun h=>by rw [h.2];exact I.hok.fresh (Nat.le_succ_of_le hC)) (fun h=>I.freeC y c (sub y c h.2)),fun p hp=>absurd (show p∈([]:List (Addr×Obj)) from hp) (by simp),I.hok.kept hk,?_⟩
 ·cases i with
  | zero=>simp at e2
  | succ i =>
   have e1':ys[i]?=some y:=by simpa [cxD] using e1
   have e2':(yN js Z)[i]?=some (some v):=by simpa using e2
   obtain⟨j,hj,hσ⟩:=V3 e2'
   have hN:X.N[j]?=some y:=by
    have z:=congrArg (fun l=>l[i]?) S.caps
    simp only [List.getElem?_map,hj,e1',Option.map_some] at z
    exact Option.some.inj z
   have hfr:=S.fr y (List.mem_of_getElem? e1')
   have hyx:y≠x:=fun z=>(List.nodup_cons.mp S.nd).1 (z▸List.mem_of_getElem? e1')
   have m:(y,NameKind.free)∈scope.names:=PySem.mem_of_lookup hfr
   have hkind:=S.free _ m rfl
   obtain⟨m',hns,hl⟩:=I.loc
   obtain⟨u,r,lk⟩:=hl j y v hN hσ (by rcases hkind with z | z;exact .inr (.inl z);exact .inr (.inr z))
   refine⟨u,r,.inr ⟨?_,?_⟩⟩
   ·have e3':(relabel scope X.env).names.lookup y=some .local\/(relabel scope X.env).names.lookup y=some .cell\/(relabel scope X.env).names.lookup y=some .free:=e3
    rcases e3' with z | z | z
    ·rcases yo z with q | ⟨q,_⟩
     ·rw [hfr] at q;cases q
     ·cases q
    ·exact .inl z
    ·exact .inr z
   ·obtain⟨c,hc⟩:=has y hfr
    refine⟨c,(lookN y hyx).trans hc,?_⟩
    rcases lk with ⟨z,_⟩ | ⟨_,c',hc',cell⟩
    ·rcases hkind with q | q
     ·have q':X.env.kindOf y=some .cell:=q
      rw [show X.env.kindOf y=some .local from z] at q';cases q'
     ·have q':X.env.kindOf y=some .free:=q
      rw [show X.env.kindOf y=some .local from z] at q';cases q'
    ·rw [sub y c hc] at hc'
     cases hc'
     obtain⟨o,e,d⟩:=cell
     exact⟨o,hk _ _ e,d⟩
 ·rcases look y c e with ⟨_,h⟩ | ⟨_,h⟩
  ·rw [h];exact⟨none,_,hcell,rfl⟩
  ·obtain⟨v,o,e',d⟩:=I.cell y c (sub y c h)
   exact⟨v,o,hk _ _ e',d⟩
 ·have z:=congrArg List.length S.caps
  simp only [List.length_map] at z
  show (none :: yN js Z).length=(x :: ys).length
  simp [yN,z]
end
section
variable {X:Cx} {elt iter:Expr} {ifs:List Expr} {x:Str} {px pos:Pos} {scope:Scope} {ys:List Str} {js:List Nat} {wi:TI} {tt:TT} {te:TE}
theorem zag {pins:List (Addr×Obj)} {Z:St} {H:Hp} {s:Shared} {J:It} {fp:List Addr} {it:Addr} {tn:Nat->Heap->Prop} {Q:VK} {E:Value->Shared->Prop} {R:Value->Addr->Result->Shared->Prop}
  (S:Vk X.env.scope scope x X.N ys js) (hc:X.calm=true) (ht:∀ C s₀ H₀ ex,PTs (cxD X x (x :: ys) scope C s₀ H₀ ex) ifs tt) (he:∀ C s₀ H₀ ex,PE (cxD X x (x :: ys) scope C s₀ H₀ ex) elt te)
  (I:Inv X pins Z H s) (T:Turn X.prog X.w X.K (.Name x px) J fp it tn) (st:tn 0 s.heap) (hf:∀ b∈fp,Yl X pins H b)
  (hw:∃ W:Nat->Nat->List V->Hp->Prop,(∃ m,W 0 m [] H)/\∀ i m zs H,W i m zs H ->
   (J.stop i H/\∀ D,H D=none->Q (.ref D) (upd H D (.lst zs))) \/
   (J.go i H/\zs.length<sizeLine/\∃ N:List V->Hp->Prop,(∀ ys' H',N ys' H'->∃ m',m'<m/\W (i+1) m' ys' H')/\∀ x H',J.yld i H x H'->tt (some x :: yN js Z) H' fun b H2=>if b=true then te (some x :: yN js Z) H2 fun v H3=>N (zs++[v]) H3 else N zs H2))
  (hR:∀ D C s' H' m',Inv X pins Z H' s'->Q (.ref D) H'->s.heap.objs.size<=C->H' C=none->s'.heap.Ns C m'->R (.ref D) C (.ok .next) s') :
  wpAny (model X.prog X.w) X.A (newList []) (fun acc s₃=>wpAny (model X.prog X.w) X.A (newFunctionEnv scope X.env.globals (yf X.env.cells scope.names []) [] X.env.qual none .none (some X.env)) (fun cenv s₄ =>
   codeAny (model X.prog X.w) X.A (.compStart (.ListComp elt [⟨.Name x px,iter,ifs,0⟩] scope pos) 0 (.ref it) acc { cenv with scope:=relabel scope X.env }) (R acc cenv.locals) s₄) E s₃) E s:=by
 obtain⟨W,⟨m0,w0⟩,turn⟩:=hw
 refine wpAny_newObj_type (zbn S.own S.psh fun h₁ hns₁ hce₁ hsb₁=>?_)
 dsimp only at hns₁ hce₁ hsb₁ ⊢
 generalize hH2:s.heap.push { cls:=.type "list",dict:=none,data:=.seq ([]:List Value).toArray }=G at hns₁ hce₁ hsb₁ ⊢
 generalize hD:s.heap.objs.size=D at *
 generalize hCe:G.objs.size=C at *
 have hC:C=D+1:=by rw [<- hCe,<- hH2,Heap.size_push,hD]
 have hDlt:D<C:=by rw [hC];exact Nat.lt_succ_self D
 have hDC:D≠C:=Nat.ne_of_lt hDlt
 have old:∀ b o,s.heap.get? b=some o->h₁.get? b=some o:=fun b o e=>by
  exact hsb₁ b o (hH2▸Heap.get?_push_of_some _ e)
 have hacc:h₁.get? D=some { cls:=.type "list",data:=.seq ([]:List Value).toArray 0 }:=by
  refine hsb₁ D _ ?_
  rw [<- hH2,<- hD]
  exact Heap.get?_push_size _ rfl
 have obj0:=T.obj 0 _ st
 have fplt:∀ b∈fp,b<D:=fun b hb=>by obtain⟨o,e,_⟩:=obj0 b hb;exact hD▸Heap.lt_size e
 generalize hX:cxD X x (x :: ys) scope C s H fp=X'
 have I1:Inv X' [] (none :: yN js Z) H { s with heap:=h₁,toks:=s.toks }:=by
  subst hX
  exact zcs I S hf (fun b hb=>by obtain⟨o,e,_⟩:=obj0 b hb;exact⟨o,e⟩) (by omega) old hns₁ hce₁
 have eP:X'.prog=X.prog:=by subst hX;rfl
 have eW:X'.w=X.w:=by subst hX;rfl
 have eK:X'.K=X.K:=by subst hX;rfl
 have eA:X'.A=X.A:=by subst hX;rfl
 have eC:X'.calm=true:=by subst hX;exact hc
 have eL:X'.env.locals=C:=by subst hX;rfl
 have eS:X'.s₀=s:=by subst hX;rfl
 have eN:X'.N=x :: ys:=by subst hX;rfl
 have eE:X'.env=compEnvC scope ((x,C+1) :: yf X.env.cells scope.names []) C X.env:=by subst hX;rfl
 have eXe:X'.xe=fun _ _=>False:=by subst hX;rfl
 have eFn:X'.fn x=true:=by subst hX;exact beq_self_eq_true x
 have eX:X'.ex=fp:=by subst hX;rfl
 have ePn:X'.pn=[]:=by subst hX;rfl
 have efs:∀ b,b∈X'.fs->b∈frs X.stack:=fun b z=>by subst hX;exact z
 have look:∀ y c,X'.env.cells.lookup y=some c->c=C+1\/(yf X.env.cells scope.names []).lookup y=some c:=fun y c e=>by
  have e':((x,C+1) :: yf X.env.cells scope.names []).lookup y=some c:=by rw [eE] at e;exact e
  rw [List.lookup_cons] at e'
  cases hb:y == x with
  | true=>rw [hb] at e';exact .inl (Option.some.inj e').symm
  | false=>rw [hb] at e';exact .inr e'
 have cellNe:∀ y c,X'.env.cells.lookup y=some c->c≠D:=fun y c e=>by
  rcases look y c e with z | z
  ·rw [z];exact Nat.ne_of_gt (Nat.lt_succ_of_lt hDlt)
  ·obtain⟨v,o,e2,_⟩:=I.cell y c (xV (fun _ _ z=>by simp at z) z)
   exact Nat.ne_of_lt (hD▸Heap.lt_size e2)
 have frLt:∀ b,b∈X'.fs->b<D:=fun b z=>by
  rcases List.mem_cons.mp (I.stkSub b (efs b z)) with e | e
  ·rw [e];exact hD▸I.lt
  ·exact Nat.lt_of_not_le fun h=>I.nofs (hD▸h) e
 have fpOk:∀ (p:List (Addr×Obj)) (H':Hp),(∀ b∈fp,H' b=none)->(∀ q∈p,q.1=D)->∀ b∈fp,Yl X' p H' b:=fun p H' hn hp b hb=>by
  refine⟨hn b hb,?_,fun z=>?_,.inl (eX▸hb),fun y c e=>?_,fun q hq=>?_⟩
  ·rw [eL];exact Nat.ne_of_lt (Nat.lt_trans (fplt b hb) hDlt)
  ·rcases List.mem_cons.mp (I.stkSub b (efs b z)) with e | e
   ·exact (hf b hb).2.1 e
   ·exact (hf b hb).2.2.1 e
  ·rcases look y c e with z | z
   ·rw [z];exact Nat.ne_of_gt (Nat.lt_trans (fplt b hb) (Nat.lt_succ_of_lt hDlt))
   ·exact (hf b hb).2.2.2.2.1 y c (xV (fun _ _ z=>by simp at z) z)
  ·rw [ePn,List.nil_append] at hq
   rw [hp q hq];exact Nat.ne_of_gt (fplt b hb)
 have noCell:∀ (its:List Value) (k:Nat) v,({ cls:=.type "list",data:=.seq its.toArray k }:Obj).data≠.cell v:=fun its k v z=>by cases z
 have done:∀ {zs:List V} {its:List Value} {k:Nat} {H':Hp} {s':Shared},Inv X' [] (none :: yN js Z) H' s'->s'.heap.get? D=some { cls:=.type "list",data:=.seq its.toArray k }->Vals zs its->H' D=none->zs.length<=sizeLine ->
   (∀ D,H' D=none->Q (.ref D) (upd H' D (.lst zs)))->R (.ref D) C (.ok .next) s':=fun {zs its k H' s'} I' hd hv hn hz q=>by
  have un:=I'.base
  obtain⟨m',hns,_⟩:=I'.loc
  rw [eL] at hns
  have hCn:H' C=none:=by have:=I'.free;rw [eL] at this;exact this
  have hH0:X'.H₀=H:=by subst hX;rfl
  rw [hH0,eS,eX] at un
  have un2:Un (frs X.stack) fp H (upd H' D (.lst zs)) s.heap s'.heap:=by
   have ne:∀ b o,s.heap.get? b=some o->b≠D:=fun b o e=>Nat.ne_of_lt (hD▸Heap.lt_size e)
   have un':Un (frs X.stack) fp H H' s.heap s'.heap:=by subst hX;exact un
   exact⟨un'.keep,un'.slot,fun b o e n hx=>by rw [zx (ne b o e)];exact un'.free b o e n hx,un'.there,fun b xs e=>by rw [zx (zF (un'.tups b xs e) hn)];exact un'.tups b xs e,
    fun b o u e=>by rw [zx (zF (un'.frzs b o u e) hn)];exact un'.frzs b o u e,fun b ps e=>by
     obtain⟨more,z⟩:=un'.tbls b ps e
     exact⟨more,by rw [zx (zF z hn)];exact z⟩⟩
  have hok:HOk X.prog X.w (upd H' D (.lst zs)) s'.heap:=by
   have h0:=I'.hok
   rw [eP,eW] at h0
   exact h0.track hn ⟨hz,its,k,hv,hd⟩
  have I2:Inv X pins Z (upd H' D (.lst zs)) s':=I.call' (by have:=I'.os;rw [eS] at this;exact this) un2 hok I'.bare fun b hb=>⟨(hf b hb).2.2.2.1,(hf b hb).2.1,(hf b hb).2.2.2.2.1,(hf b hb).2.2.2.2.2⟩
  exact hR D C s' _ m' I2 (q D hn) (by omega) (by rw [zx (Ne.symm hDC)];exact hCn) hns
 have loop:codeAny (model X.prog X.w) X.A (.compLoop (.ListComp elt [⟨.Name x px,iter,ifs,0⟩] scope pos) 0 (.ref it) (.ref D) X'.env) (R (.ref D) C) { s with heap:=h₁,toks:=s.toks }:=by
  refine codeAny_compLoop_tests (fun n s'=>∃ i zs its k H',Inv X' [] (none :: yN js Z) H' s'/\tn i s'.heap/\(∀ b∈fp,H' b=none)/\s'.heap.get? D=some { cls:=.type "list",data:=.seq its.toArray k }/\Vals zs its/\H' D=none/\zs.length<=sizeLine/\W i n zs H')
   ?_ m0 ⟨0,[],[],0,H,I1,T.keep _ _ _ st (fun b hb o e=>old b o e),fun b hb=>(hf b hb).1,hacc,.nil,I.hok.fresh (by omega),Nat.zero_le _,w0⟩ (fun _=>rfl)
  rintro n s3 ⟨i,zs,its,k,H3,I3,st3,fr3,d3,v3,n3,z3,w3⟩
  have pinD:Inv X' [(D,{ cls:=.type "list",data:=.seq its.toArray k })] (none :: yN js Z) H3 s3:=I3.pins_of fun p hp=>by
   have e:p=(D,{ cls:=.type "list",data:=.seq its.toArray k }):=by simpa using hp
   subst e
   exact⟨d3,n3,by rw [eL];exact hDC,fun z=>Nat.lt_irrefl _ (frLt D z),noCell its k⟩
  have hpD:∀ q∈[(D,({ cls:=.type "list",data:=.seq its.toArray k }:Obj))],q.1=D:=fun q hq=>by
   have e:q=(D,{ cls:=.type "list",data:=.seq its.toArray k }):=by simpa using hq
   rw [e]
  rcases turn i n zs H3 w3 with ⟨stop,qn⟩ | ⟨go,hzl,NN,hNN,step⟩
  ·refine thn (eA▸T.done X' eP eW eK eC i _ s3 _ H3 _ pinD (fpOk _ _ fr3 hpD) st3 stop) fun r s4 ⟨hr,I4⟩=>?_
   subst hr
   exact done (I4.pins_of fun p hp=>absurd hp (by simp)) (I4.pin (D,{ cls:=.type "list",data:=.seq its.toArray k }) (List.mem_append_right _ (by simp))).1 v3 n3 z3 qn
  ·refine thn (eA▸T.item X' eP eW eK eC i _ s3 _ H3 _ pinD (fpOk _ _ fr3 hpD) st3 go) fun r s4 ⟨u,hr,h4⟩=>?_
   subst hr
   refine QF (a:=()) h4 fun ⟨v,H5,I5,r5,y5,st5,fr5⟩=>?_
   have I5':=I5.pinned (fpOk _ _ fr5 hpD) (T.obj _ _ st5)
   have ev:∀ {α:Type} {t:Sem α} {Q':α->Shared->Prop} {E':Value->Shared->Prop} {s':Shared},wpAny (model X'.prog X'.w) X'.A t Q' X'.xe s'->wpAny (model X.prog X.w) X.A t Q' E' s':=fun {α t Q' E' s'} hh=>by
    rw [eP,eW,eA,eXe] at hh
    exact wpAny_mono hh (fun _ _ q=>q) fun _ _ z=>z.elim
   refine ev (thn (yh (X:=X') (i:=0) (by rw [eN];exact S.nd) (by rw [eN];rfl) (.inr (by rw [eE];exact vQ S.var)) (.inl eFn) _ s4 _ H5 v u (fun σ' H'=>σ'=some v :: yN js Z/\H'=H5) I5' r5 ⟨rfl,rfl⟩) fun _ s6 ⟨σ6,H6,I6,e6,e6'⟩=>?_)
   subst e6 e6'
   have back:∀ {σ':St} {H7:Hp} {s7:Shared},Inv X' ([(D,{ cls:=.type "list",data:=.seq its.toArray k })]++Zc fp s4.heap) (some v :: yN js Z) H7 s7->Inv X' [] (none :: yN js Z) H7 s7:=fun {_ H7 s7} I7=>by
    refine (I7.pins_of fun p hp=>absurd hp (by simp)).weak rfl fun i v' e=>?_
    cases i with
    | zero=>simp at e
    | succ i=>simpa using e
   have fps:∀ {σ':St} {H7:Hp} {s7:Shared},Inv X' ([(D,{ cls:=.type "list",data:=.seq its.toArray k })]++Zc fp s4.heap) σ' H7 s7->(∀ b∈fp,H7 b=none)/\(∀ b∈fp,∀ o,s4.heap.get? b=some o->s7.heap.get? b=some o)/\s7.heap.get? D=some { cls:=.type "list",data:=.seq its.toArray k }/\H7 D=none:=fun {σ' H7 s7} I7=>by
    have g:∀ b∈fp,∀ o,s4.heap.get? b=some o->s7.heap.get? b=some o/\H7 b=none:=fun b hb o e=>by
     have z:=I7.pin (b,o) (List.mem_append_right _ (List.mem_append_right _ (jm hb e)))
     exact⟨z.1,z.2.1⟩
    refine⟨fun b hb=>?_,fun b hb o e=>(g b hb o e).1,(I7.pin (D,{ cls:=.type "list",data:=.seq its.toArray k }) (List.mem_append_right _ (by simp))).1,(I7.pin (D,{ cls:=.type "list",data:=.seq its.toArray k }) (List.mem_append_right _ (by simp))).2.1⟩
    obtain⟨o,e,_⟩:=T.obj _ _ st5 b hb
    exact (g b hb o e).2
   have hte:PTs X' ifs tt:=hX▸ht C s H fp
   have hee:PE X' elt te:=hX▸he C s H fp
   refine ev (thn (hte _ s6 _ H6 _ I6 (step v H6 y5)) fun b s7 ⟨H7,I7,q7⟩=>?_)
   cases b with
   | false =>
    rw [if_neg Bool.false_ne_true]
    rw [if_neg Bool.false_ne_true] at q7
    obtain⟨m',hm,w7⟩:=hNN _ _ q7
    obtain⟨g1,g2,g3,g4⟩:=fps I7
    exact⟨m',hm,i+1,zs,its,k,H7,back (σ':=[]) I7,T.keep _ _ _ st5 g2,g1,g3,v3,g4,z3,w7⟩
   | true =>
    rw [if_pos rfl]
    rw [if_pos rfl] at q7
    refine ev (thn (hee _ s7 _ H7 _ I7 q7) fun u8 s8 ⟨v8,H8,I8,r8,q8⟩=>?_)
    obtain⟨m',hm,w8⟩:=hNN _ _ q8
    obtain⟨g1,g2,g3,g4⟩:=fps I8
    have hil:=v3.length
    refine call_meets F.slot_list_append ⟨_,g3,rfl⟩ F.entry_list_append (F.args_list_append_2 _ _) (PySem.list_append D its.toArray k u8 (by rw [List.size_toArray];omega)) ⟨g3,?_⟩
    have q:=PySem.IsL.update g3 (fun a=>a.push u8)
    have ea:its.toArray.push u8=(its++[u8]).toArray:=by simp
    rw [ea] at q
    have kk:∀ b o,b≠D->s8.heap.get? b=some o->(s8.heap.update D (Obj.mapSeq fun a=>a.push u8)).get? b=some o:=fun b o hb e=>(Heap.get?_update_other _ _ (Ne.symm hb)).trans e
    have I9:Inv X' [] (none :: yN js Z) H8 { s8 with heap:=s8.heap.update D (Obj.mapSeq fun a=>a.push u8),toks:=s8.toks }:=by
     refine (back (σ':=[]) I8).turned kk g4 (by rw [eL];exact hDC) (.inr (by rw [eS];omega)) (fun y c e=>cellNe y c e) fun p hp=>?_
     rw [ePn] at hp
     exact absurd hp (by simp)
    refine⟨m',hm,i+1,zs++[v8],its++[u8],_,H8,I9,T.keep _ _ _ st5 (fun b hb o e=>kk b o (Nat.ne_of_lt (fplt b hb)) (g2 b hb o e)),g1,q,v3.append (.cons r8 .nil),g4,?_,w8⟩
    rw [List.length_append,List.length_singleton]
    omega
 rw [eE] at loop
 exact codeAny_compStart_list loop (T.self _ 0 _ _ _ (T.keep _ _ _ st (fun b hb o e=>old b o e)) loop)
theorem zaa {i:Nat} {y:Str} {py spos:Pos} (S:Vk X.env.scope scope x X.N ys js) (hc:X.calm=true) (hN:X.N.Nodup) (hy:X.N[i]?=some y) (hl:Loc X.env.scope y) (hi:PI X (.Name x px) iter wi) (ht:∀ C s₀ H₀ ex,PTs (cxD X x (x :: ys) scope C s₀ H₀ ex) ifs tt) (he:∀ C s₀ H₀ ex,PE (cxD X x (x :: ys) scope C s₀ H₀ ex) elt te)
  (hf:X.fn y=true\/X.env.scope.names.lookup y=some .local:=by first | exact .inl rfl | exact .inr rfl | assumption)
  (hsw:swapsWith (.ListComp elt [⟨.Name x px,iter,ifs,0⟩] scope pos) (some (.Name y py)) spos.line X.env=pure true:=by rfl)
  (hs:∀ x,foldedSetIterable iter X.env x=pure x:=by intro _;rfl):PS X (.Assign [.Name y py] (.ListComp elt [⟨.Name x px,iter,ifs,0⟩] scope pos) spos) (zdt (zdj wi js tt te) (Uc i)):=by
 intro pins s Z H D I h
 rw [exec_Assign_Name_used _ _ _ _ hsw]
 refine wpAny_bind (wpAny_standAt (wpAny_bind ?_))
 show wpAny _ X.A (do let _ <- comprehension (.ListComp elt [⟨.Name x px,iter,ifs,0⟩] scope pos) scope X.env _ (newList []) false (eval iter X.env) (some (assign (.Name y py) X.env))) _ _ s
 refine wpAny_bind (wpAny_mono (wpAny_comprehension_free (use:=some (assign (.Name y py) X.env)) (Q:=fun _ s'=>SP X pins D .next s') rfl hs (qd fun y hy e=>I.ok.has _ (S.free y hy e)) S.kind S.loc
  (thn (hi pins s Z H _ I h) fun v s1 h1=>thn h1 fun itv s2 h2=>?_)) (fun _ s' hq=>wpAny_pure (wpAny_pure hq)) fun _ _ e=>e)
 obtain⟨it,fp,tn,J,H2,e,I2,T,st2,f2,hw⟩:=h2
 subst e
 refine zag (Q:=fun v H'=>Uc i v Z H' D.nx) (R:=fun acc C=>compPost (model X.prog X.w) X.A X.xe (some (assign (.Name y py) X.env)) (fun _ s'=>SP X pins D .next s') acc C) S hc ht he I2 T st2 f2 hw ?_
 intro Da C s' H' m' I' q hC hn hns
 have e:=I2.fpOk hC hn
 show wpAny _ X.A (assign (.Name y py) X.env (.ref Da)) _ _ _
 refine wpAny_assign_Name (WM I' hN hy hl (show RelV (.ref Da) (.ref Da) from rfl) (fun s2' I3 ⟨a,sb,ha⟩=>?_) hf)
 have hCa:C≠a:=by
  rcases ha with z | z
  ·rw [z];exact e.2.1
  ·intro w;exact e.2.2.2.2.1 _ _ z w.symm
 refine⟨m',hns.sameBut sb hCa,fun h' hs'=>⟨_,H',?_,q⟩⟩
 exact I3.turned (t':=s2'.toks) (fun b o hb e=>(hs'.2 b hb).trans e) hn e.2.1 e.2.2.2.1 e.2.2.2.2.1 e.2.2.2.2.2
end
theorem qT {env:Env}:∀ {names:List (Str×NameKind)} {x:Str},names.lookup x=some .free ->
  (names.map fun (n,k)=>if (k == NameKind.free && env.scope.kind == .function && env.kindOf n == some .cell) then (n,NameKind.cell) else (n,k)).lookup x=some .cell\/(names.map fun (n,k)=>if (k == NameKind.free && env.scope.kind == .function && env.kindOf n == some .cell) then (n,NameKind.cell) else (n,k)).lookup x=some .free
 | [],_,h=>by simp at h
 | (n,k) :: r,x,h=>by
  have ih:=@qT env r x
  rw [List.map_cons]
  generalize hb:(k == NameKind.free && env.scope.kind == .function && env.kindOf n == some .cell)=b
  simp only [hb]
  rw [List.lookup_cons] at h
  cases hx:x == n with
  | true =>
   rw [hx] at h
   have hk:k=.free:=Option.some.inj h
   cases b<;>simp [List.lookup_cons,hx,hk]
  | false =>
   rw [hx] at h
   cases b<;>(simp only [if_true,Bool.false_eq_true,if_false,List.lookup_cons,hx];exact ih h)
theorem CScope.re {sc scope:Scope} {env:Env} {x:Str} {M ys:List Str} {js:List Nat} (S:CScope sc scope x M ys js):CScope (relabel sc env) scope x M ys js :=
 ⟨S.kind,S.cell,S.loc,S.var,fun y hy e=>(S.free y hy e).elim (fun z=>.inl (vQ z)) fun z=>qT z,S.caps,S.fr,S.nd⟩
section
variable {X:Cx} {tg:Expr}
end
def zdK (n:Addr->Prop) (h:Heap) (e:Addr) (c:Value):Prop :=
 ∃ (oe oT:Obj) (vs ts:Array Value) (a0:Value) (T:Addr),h.get? e=some oe/\oe.cls=c/\oe.data=.fields vs/\vs[0]?=some a0/\vs[1]?=some (.ref T)/\n T/\T≠e/\h.get? T=some oT/\oT.data=.fields ts/\ts[3]?=some .none
def CX1 (P:Program) (w:World):CXT:=fun outer H s E e s' =>
 ∃ (ea:Addr) (c:Value) (H':Hp),e=.ref ea/\s'.os=s.os/\AllBare s'.gens/\Un (frs outer) [] H H' s.heap s'.heap/\HOk P w H' s'.heap/\s.heap.get? ea=none/\H' ea=none /\
  zdK (fun T=>s.heap.get? T=none/\H' T=none) s'.heap ea c/\E c none H'
def ze9 (X:Cx) (Ex:St->XK):Prop:=∀ (pins:List (Addr×Obj)) (Z:St) (H:Hp) (s:Shared) (h':Heap) (ea:Addr) (c:Value) (vs:List Value),Inv X pins Z H s->Heap.MadeExcOf s.heap h' ea c vs->Ex Z c none H->X.xe (.ref ea) { s with heap:=h' }
def zbG (X:Cx) (Ex:St->XK):Prop:=∀ (pins:List (Addr×Obj)) (Z:St) (H:Hp) (s:Shared) (e:Value) (s':Shared),Inv X pins Z H s->CX1 X.prog X.w X.stack H s (Ex Z) e s'->X.xe e s'
theorem FnOk.up {P:Program} {w:World} {K:W.Frag} {mg:Str->Option Value} {base:Heap} {CX:CXT} {k:Nat} {f:Addr} {fd:FuncData} {ps:List Str} {sp:Sp} (F:FnOk P w K mg base CX0 k f fd ps sp):FnOk P w K mg base CX k f fd ps sp :=
 ⟨F.len,fun A outer s H args us vs Q E hr e0 hb hv hs=>codeAny_mono (F.run A outer s H args us vs Q E hr e0 hb hv hs) fun r s' q=>by
  cases r with
  | error e=>exact False.elim q
  | ok fl=>cases fl<;>exact q⟩
theorem ObjOk.thereO {P:Program} {w:World} {H:Hp} {h:Heap} {a:Addr} {o:HO} (x:ObjOk P w H h a o):∃ u,h.get? a=some u:=by
 cases o with
 | lst xs=>obtain⟨_,_,_,_,e⟩:=x;exact⟨_,e⟩
 | tup xs=>obtain⟨_,_,_,o,e,_⟩:=x;exact⟨_,e⟩
 | dK kvs=>obtain⟨_,_,_,_,o,_,_,e,_⟩:=x;exact⟨_,e⟩
 | dT kvs=>obtain⟨_,_,_,_,o,_,_,e,_⟩:=x;exact⟨_,e⟩
 | set S n=>obtain⟨o,_,_,_,e,_⟩:=x;exact⟨_,e⟩
 | ins C dx fs=>obtain⟨_,_,_,e,_⟩:=x;exact⟨_,e⟩
 | own y=>exact x
 | xd fs=>obtain⟨_,⟨_,_,_,e,_⟩,_⟩:=x;exact⟨_,e⟩
 | rng lo hi=>obtain⟨_,_,_,e⟩:=x;exact⟨_,e⟩
 | frz ob u=>obtain⟨e,_⟩:=x;exact⟨_,e⟩
 | tbl ps=>exact⟨_,(show h.get? a=some _ from x)⟩
 | met f y=>exact⟨_,(show h.get? a=some _ from x)⟩
 | ext φ=>obtain⟨_,e,_⟩:=x;exact e
theorem HOk.off {P:Program} {w:World} {H:Hp} {h:Heap} {a:Addr} (x:HOk P w H h) (e:h.get? a=none):H a=none:=by
 cases q:H a with
 | none=>rfl
 | some o=>obtain⟨u,z⟩:=(x a o q).thereO;rw [e] at z;cases z
section
variable {X:Cx} {pins:List (Addr×Obj)} {Z:St} {H H':Hp} {s s':Shared} {h' B:Heap} {ea:Addr} {c a0:Value}
def Uk (X:Cx) (H':Hp) (s s':Shared) (B:Heap):Prop:=∀ b o,s'.heap.get? b=some o->((∃ u,s.heap.get? b=some u)\/H' b≠none)->b∉frs X.stack->B.get? b=some o
theorem J3 (I:Inv X pins Z H s) (un:Un (frs X.stack) [] H H' s.heap s'.heap):∀ b∈frs X.stack,H' b=none:=fun b hb=>by
 obtain⟨_,o,ho,_⟩:=I.stack.mem hb
 exact un.free b o ho (I.stkFree b hb) (by simp)
theorem zbg (I:Inv X pins Z H s) (un:Un (frs X.stack) [] H H' s.heap s'.heap) (hok:HOk X.prog X.w H' s'.heap) (hB:Uk X H' s s' B) (st:B.StaysIn h') (up:s'.heap.UpToSlots h') :
  Un (frs X.stack) [] H H' s.heap h'/\HOk X.prog X.w H' h':=by
 have fr:=J3 I un
 have sl:∀ b o,s.heap.get? b=some o->b∈frs X.stack->∃ q,h'.get? b=some { o with slots:=q }:=fun b o e hb=>by
  obtain⟨_,o2,ho,hd⟩:=I.stack.mem hb
  rw [e] at ho;cases ho
  obtain⟨q,e1⟩:=un.slot b o e (I.stkFree b hb) hb (by simp)
  obtain⟨q2,e2⟩:=up b _ e1 hd
  exact⟨q2,e2⟩
 refine⟨⟨fun b o e n hb _=>?_,fun b o e _ hb _=>sl b o e hb,fun b o e n _=>un.free b o e n (by simp),fun b o e _=>?_,un.tups,un.frzs,un.tbls⟩,fun a o e=>?_⟩
 ·exact st b o (hB b o (un.keep b o e n hb (by simp)) (.inl ⟨o,e⟩) hb)
 ·by_cases hb:b∈frs X.stack
  ·obtain⟨q,e1⟩:=sl b o e hb
   exact⟨_,e1⟩
  ·obtain⟨o1,e1⟩:=un.there b o e (by simp)
   exact⟨o1,st b o1 (hB b o1 e1 (.inl ⟨o,e⟩) hb)⟩
 ·refine (hok a o e).stay (fun b u hc q=>?_) (fun _ q=>q) fun _ _ q=>q
  have nb:H' b≠none:=by
   rcases hc with z | z
   ·rw [z,e];intro z2;cases z2
   ·rw [z];intro z2;cases z2
  exact st b u (hB b u q (.inr nb) fun hb=>nb (fr b hb))
theorem zgR (I:Inv X pins Z H s) (un:Un (frs X.stack) [] H H' s.heap s'.heap) (hok:HOk X.prog X.w H' s'.heap) (hB:Uk X H' s s' B) (st:B.StaysIn h') (up:s'.heap.UpToSlots h') (t:h'.TracedW B ea c a0) :
  zdK (fun T=>s.heap.get? T=none/\H' T=none) h' ea c:=by
 have fr:=J3 I un
 obtain⟨oe,vs,T,oT,ts,he,⟨hc,h0⟩,hd,h1,hnT,hTe,hT,hdT,h3⟩:=t
 have nF:T∉frs X.stack:=fun hb=>by
  obtain⟨_,o,ho,hd⟩:=I.stack.mem hb
  obtain⟨q,e1⟩:=un.slot T o ho (I.stkFree T hb) hb (by simp)
  obtain⟨q2,e2⟩:=up T _ e1 hd
  rw [hT] at e2;cases e2
  exact hd _ hdT
 refine⟨oe,oT,vs,ts,a0,T,he,hc,hd,h0,h1,⟨?_,?_⟩,hTe,hT,hdT,h3⟩
 ·cases q:s.heap.get? T with
  | none=>rfl
  | some o =>
   obtain⟨o1,e1⟩:=un.there T o q (by simp)
   have:=hB T o1 e1 (.inl ⟨o,q⟩) nF
   rw [hnT] at this;cases this
 ·cases q:H' T with
  | none=>rfl
  | some o =>
   obtain⟨o1,e1⟩:=(hok T o q).thereO
   have:=hB T o1 e1 (.inr (by rw [q];intro z;cases z)) nF
   rw [hnT] at this;cases this
theorem zbF {E:XK} (I:Inv X pins Z H s) (hx:X.ex=[]) (os:s'.os=s.os) (bare:AllBare s'.gens) (un:Un (frs X.stack) [] H H' s.heap s'.heap) (hok:HOk X.prog X.w H' s'.heap) (n0:s.heap.get? ea=none) (n1:H' ea=none)
  (hB:Uk X H' s s' B) (st:B.StaysIn h') (t:h'.TracedW B ea c a0) (up:s'.heap.UpToSlots h') (hE:E c none H'):CX1 X.prog X.w X.outer X.H₀ X.s₀ E (.ref ea) { s' with heap:=h' }:=by
 obtain⟨u1,k1⟩:=zbg I un hok hB st up
 have J:Inv X pins Z H' { s' with heap:=h' }:=I.call' (ch:=[]) os u1 k1 bare fun b z=>absurd z (by simp)
 have off:∀ b,s.heap.get? b=none->X.s₀.heap.get? b=none:=fun b e=>by
  cases q:X.s₀.heap.get? b with
  | none=>rfl
  | some o =>
   obtain⟨o1,e1⟩:=I.base.there b o q (by rw [hx];simp)
   rw [e] at e1;cases e1
 have ub:=J.base
 rw [hx] at ub
 obtain⟨oe,oT,vs,ts,a1,T,he,hc,hd,h0,h1,⟨hn,hm⟩,r⟩:=zgR I un hok hB st up t
 exact⟨ea,c,H',rfl,J.os,J.bare,ub,k1,off ea n0,n1,⟨oe,oT,vs,ts,a1,T,he,hc,hd,h0,h1,⟨off T hn,hm⟩,r⟩,hE⟩
theorem zbf {Ts:List Addr} (n0:s.heap.get? ea=none) (n1:H' ea=none) (nT:∀ T∈Ts,s.heap.get? T=none/\H' T=none):Uk X H' s s' (W.hideAll s'.heap (ea :: (Ts++frs X.stack))):=fun b o e hb hf=>by
 refine W.hideAll_get _ e fun hm=>?_
 have bad:∀ a,s.heap.get? a=none->H' a=none->b≠a:=fun a h1 h2 z=>by
  subst z
  rcases hb with ⟨u,q⟩ | q
  ·rw [h1] at q;cases q
  ·exact q h2
 rcases List.mem_cons.mp hm with z | hm
 ·exact bad ea n0 n1 z
 ·rcases List.mem_append.mp hm with z | z
  ·exact bad b (nT b z).1 (nT b z).2 rfl
  ·exact hf z
theorem Vt (I:Inv X pins Z H s) (os:s'.os=s.os) (bare:AllBare s'.gens) (un:Un (frs X.stack) [] H H' s.heap s'.heap) (hok:HOk X.prog X.w H' s'.heap) {as:List Addr} (ha:∀ b∈frs X.stack,b∈as):s'.heap.FunFrames (W.hideAll s'.heap as) X.stack:=by
 have J:Inv X pins Z H' s':=I.call' (ch:=[]) os un hok bare fun b z=>absurd z (by simp)
 exact W.funFrames_hide J.stack fun env he b hb=>ha b (List.mem_filterMap.mpr ⟨env,he,hb⟩)
theorem zbR (I:Inv X pins Z H s) (os:s'.os=s.os) (bare:AllBare s'.gens) (un:Un (frs X.stack) [] H H' s.heap s'.heap) (hok:HOk X.prog X.w H' s'.heap) (n0:s.heap.get? ea=none) (n1:H' ea=none)
  (t:zdK (fun T=>s.heap.get? T=none/\H' T=none) s'.heap ea c):∃ B a0,Uk X H' s s' B/\Heap.FlyingW B X.stack ea c a0 s'.heap:=by
 obtain⟨oe,oT,vs,ts,a0,T,he,hc,hd,h0,h1,⟨hn,hm⟩,hTe,hT,hdT,h3⟩:=t
 refine⟨W.hideAll s'.heap (ea :: ([T]++frs X.stack)),a0,zbf n0 n1 (fun b hb=>by rw [List.mem_singleton.mp hb];exact⟨hn,hm⟩),fun b o q=>W.of_hideAll _ q,W.hideAll_none _ (by simp),Vt I os bare un hok (by intro b hb;simp [hb]),?_⟩
 exact⟨oe,vs,T,oT,ts,he,⟨hc,h0⟩,hd,h1,W.hideAll_none _ (by simp),hTe,hT,hdT,h3⟩
end
theorem zcu {P:Program} {w:World} {K:W.Frag} {mg:Str->Option Value} {base:Heap} {N:List Str} {qual:Str} {scope:Scope} {f:Addr} {cd:Value} {A:Around} {outer:List Env} {s₀:Shared} {H₀:Hp} {E:XK} :
  zbG (YW (CX1 P w) P w K mg base N qual scope f cd A outer s₀ H₀ E) fun _=>E:=by
 intro pins Z H s e s' I hcx
 obtain⟨ea,c,H',rfl,os,bare,un,hok,n0,n1,t,hE⟩:=hcx
 obtain⟨B,a0,hB,fl⟩:=zbR I os bare un hok n0 n1 t
 show wpAny _ _ (leaving (envOfC qual scope s₀.heap.objs.size f cd) (.ref ea)) _ _ s'
 refine wpAny_leaves_onW I.ok.frames rfl fl fun h2 fl2 up=>?_
 exact zbF I rfl os bare un hok n0 n1 hB fl2.1 fl2.2.2.2 up hE
theorem zdJ {P:Program} {w:World} {K:W.Frag} {mg:Str->Option Value} {base:Heap} {N:List Str} {qual:Str} {scope:Scope} {f:Addr} {cd:Value} {A:Around} {outer:List Env} {s₀:Shared} {H₀:Hp} {E:XK} :
  ze9 (YW (CX1 P w) P w K mg base N qual scope f cd A outer s₀ H₀ E) fun _=>E:=by
 intro pins Z H s h' ea c vs I hm hE
 show wpAny _ _ (leaving (envOfC qual scope s₀.heap.objs.size f cd) (.ref ea)) _ _ _
 refine wpAny_leaves_madeW (s:={ s with heap:=h' }) (base:=W.hideAll s.heap (frs (YW (CX1 P w) P w K mg base N qual scope f cd A outer s₀ H₀ E).stack)) I.ok.frames rfl (fun b o q=>W.of_hideAll _ q)
  (Vt I rfl I.bare Un.refl I.hok fun b hb=>hb) hm fun h2 t fl _ _ up=>?_
 refine zbF (s':={ s with heap:=h' }) I rfl rfl I.bare (Un.kept hm.keeps) (I.hok.kept hm.keeps) hm.new (I.hok.off hm.new) (fun b o e hb hf=>?_) fl.1 fl.2.2.2 up hE
 refine W.hideAll_get _ ?_ hf
 rcases hb with ⟨u,q⟩ | q
 ·have z:=hm.keeps b u q
  rw [show h'.get? b=some o from e] at z;cases z;exact q
 ·cases r:H b with
  | none=>exact absurd r q
  | some x =>
   obtain⟨u,q⟩:=(I.hok b x r).thereO
   have z:=hm.keeps b u q
   rw [show h'.get? b=some o from e] at z;cases z;exact q
abbrev veT:List Value:=[.type "ValueError",.type "Exception",.type "BaseException",.type "object"]
structure zfA (K:W.Frag) (mg:Str->Option Value) (x:Str) (C:Addr):Prop where
 g:mg x=some (.ref C)
 ok:W.excIn K C veT "ValueError.__new__" = true
theorem ze1 {K:W.Frag} {h:Heap} {C:Addr} {bmB:List Value} {newId:String} (X:K.In h) (q:W.excIn K C bmB newId=true) :
  ∃ (bm bs:List Value) (N:Addr) (nm qn:Str) (hd ab:Bool) (sn:List Str) (sub:List Value) (col:Option Bool) (dd:Option Addr) (k0 k1 k2 k3 k5:Option Value) (mN:Str->Option Value),
   h.get? C=some (excClassObj nm qn C N bs bm hd sn sub ab col dd k0 k1 k2 k3 k5 newId)/\h.Ns N mN/\mN "__init__" = none/\OwnTail h bmB bm:=by
 unfold W.excIn at q
 split at q
 ·rename_i dd cd sl e
  split at q
  ·rename_i C2 bm k0 k1 k2 k3 n k5 hm hs
   rw [Bool.and_eq_true,Bool.and_eq_true,Bool.and_eq_true,Bool.and_eq_true,Bool.and_eq_true] at q
   have z1:=eq_of_beq q.1.1.1.1.1
   have z2:=eq_of_beq q.1.1.1.1.2
   have z3:cd.hasDel=false:=by simpa using q.1.1.1.2
   cases cd with
   | mk nm bs mro ns qn hd sn sub ab col del =>
    cases sl with
    | mk l =>
     have hs':l=_:=hs
     have hm':mro=_:=hm
     have z3':del=false:=z3
     subst hs' hm' z3' z1 z2
     exact⟨bm,bs,ns,nm,qn,hd,ab,sn,sub,col,dd,k0,k1,k2,k3,k5,_,X _ _ e,Heap.Ns.of_isNs (W.isNs_of_in X q.1.2),W.nsMap_none_of_in X q.1.2 (eq_of_beq q.2),W.tail_of_in X q.1.1.2⟩
  ·cases q
 ·cases q
def zfu (c:Value) (Ex:St->XK) (t:TA):TS:=fun _ Z H=>t Z H fun vs H1=>vs.length<=sizeLine/\Ex Z c none H1
theorem zdg {X:Cx} {x:Str} {C:Addr} {Ex:St->XK} {e:Expr} {es:List Expr} {t:TA} {np cpos pos:Pos} (O:zfA X.K X.mg x C) (hx:ze9 X Ex) (hc:X.calm=true) (ha:PA X (e :: es) t) (hg:Gl X x:=by rfl) (hdb:(x == ("__debug__" : Str))=false:=by decide)
  (he:starEach (e :: es) X.env=(false,eval e X.env) :: starEach es X.env:=by rfl) (hpl:(backTo cpos (starEach (e :: es) X.env)).any (·.1)=false:=by rfl):PS X (.Raise (some (.Call (.Name x np) (e :: es) [] cpos)) none pos) (zfu (.ref C) Ex t):=by
 intro pins s Z H D I h
 obtain⟨bm,bs,N,nm,qn,hd,ab,sn,sub,col,dd,k0,k1,k2,k3,k5,mN,hC,hN,hni,T⟩:=ze1 (h:=X.base) I.ok.mod.kin O.ok
 refine wpAny_Raise_call_subT (C:=C) (nm:=nm) (q:=qn) (N:=N) (bs:=bs) (bm:=bm) (hdct:=hd) (sn:=sn) (sub:=sub) (ab:=ab) (col:=col) (dd:=dd) (k0:=k0) (k1:=k1) (k2:=k2) (k3:=k3) (k5:=k5)
  PySem.F.excBase_ValueError (mN:=mN) (T.hasType PySem.F.excBase_ValueError.hasBase) (I.ok.hd hc) hpl hni (YL I hg O.g ⟨rfl,?_⟩ hdb)
 have ha':=ha cpos pins s Z H _ I h
 rw [he] at ha' ⊢
 refine Calls.evalArgs_plain (thn ha' fun us s1 ⟨vs,H1,I1,r,hz,q⟩=>?_)
 exact⟨rfl,by rw [<- r.length];exact hz,I1.bk _ _ hC,hN.keeps I1.bk,T.keeps I1.bk,fun h' ea hm=>hx pins Z H1 s1 h' ea (.ref C) us I1 hm q⟩
def zfm (sp:Sp) (Ex:St->XK) (t:TA):TE:=fun Z H Q=>t Z H fun vs H1=>sp vs H1 Q (Ex Z)
theorem zeY {X:Cx} {k:Nat} {f:Addr} {fd:FuncData} {ps:List Str} {sp:Sp} {Ex:St->XK} {pins:List (Addr×Obj)} {Z:St} {H:Hp} {s:Shared} {Q:VK} {us:List Value} {vs:List V} (F:FnOk X.prog X.w X.K X.mg X.base (CX1 X.prog X.w) k f fd ps sp) (hr:Room k X.A) (hb:Binds X.K fd ps []) (hx:zbG X Ex)
  (I:Inv X pins Z H s) (r:Vals vs us) (h:sp vs H Q (Ex Z)):wpAny (model X.prog X.w) X.A (call (.ref f) us) (EP X pins Z Q) X.xe s:=by
 have hl:us.length=ps.length:=by rw [<- r.length];exact F.len _ _ _ _ h
 have hb':=hb s us I.kIn (by rw [List.append_nil];exact hl)
 rw [List.append_nil] at hb'
 refine wpAny_call (codeAny_mono (F.run X.A X.stack s H ⟨us,[]⟩ us vs Q (Ex Z) hr I.env0 hb' r h) fun r s' hq=>?_)
 cases r with
 | error e=>exact hx pins Z H s e s' I hq
 | ok fl =>
  cases fl with
  | ret u=>exact I.after hq
  | next=>exact False.elim hq
  | brk=>exact False.elim hq
  | cont=>exact False.elim hq
theorem zc4 {X:Cx} {x:Str} {st:Stmt} {ps:List Str} {f:Addr} {fd:FuncData} {k:Nat} {sp:Sp} {Ex:St->XK} {e:Expr} {es:List Expr} {t:TA} {p pos:Pos} (D:Df X.K X.mg x st ps f fd) (G:FnOk X.prog X.w X.K X.mg X.base (CX1 X.prog X.w) k f fd ps sp) (hr:Room k X.A) (hx:zbG X Ex) (ha:PA X (e :: es) t) (hg:Gl X x:=by rfl)
  (hdb:(x == ("__debug__" : Str))=false:=by decide) (he:starEach (e :: es) X.env=(false,eval e X.env) :: starEach es X.env:=by rfl) (hpl:(backTo pos (starEach es X.env)).any (·.1)=false:=by rfl):PE X (.Call (.Name x p) (e :: es) [] pos) (zfm sp Ex t):=by
 intro pins s Z H Q I h
 refine wpAny_Call_Name_kw (YL I hg D.g ?_ hdb)
 refine W.callWith_K (h₀:=X.base) I.ok.mod.kin D.fn.kp (thn (ha pos pins s Z H _ I h) fun us s1 ⟨vs,H1,I1,r,q⟩=>⟨I1.kIn,?_⟩) he hpl
 exact zeY G hr D.b hx I1 r q
theorem Fun.ok1 {P:Program} {w:World} {K:W.Frag} {mg:Str->Option Value} {base:Heap} {x qual:Str} {st:Stmt} {f:Addr} {fd:FuncData} {N ps:List Str} {k:Nat} {sp:Sp} (F:Fun K x qual st f fd) (S:zE N ps (zu st)) (len:∀ vs H Q E,sp vs H Q E->vs.length=ps.length)
  (hbody:∀ (cdv:Value) (A:Around) (outer:List Env) (s:Shared) (H:Hp) (vs:List V) (Q:VK) (E:XK),Room k (A.deeper (envOfC qual (zu st) s.heap.objs.size f cdv))->sp vs H Q E ->
   ∃ t,PSs (YW (CX1 P w) P w K mg base N qual (zu st) f cdv A outer s H E) (xu st) t/\t { nx:=fun _ H'=>Q .non H',rt:=Q } (start N vs) H):FnOk P w K mg base (CX1 P w) (k+1) f fd ps sp:=by
 obtain⟨oc,od,kV,doc,pm,an,cdv,ct,osl,rfl,lk,hcd⟩:=F.ex
 exact zc6 lk hcd S len fun A outer s H vs Q E hr hsp=>hbody cdv A outer s H vs Q E hr hsp
open PySem PySem.Spec PyProof.Rows Builtin Builtin.ObjectAttr Builtin.Getset_descriptor
structure Jv (K:W.Frag) (C:Addr):Prop where
 ga:W.findIn K (.ref C) "__getattribute__" = some (some (.builtin "BaseException.__getattribute__"))
 hk:W.findIn K (.ref C) "__getattr__" = some none
 at_:W.findIn K (.ref C) "__class__" = some (some (.builtin "object.__class__"))
 sp:W.specialIn K (.builtin "object.__class__") "__get__" = some (some (.builtin "getset_descriptor.__get__"))
 tk:W.takesIn K (.builtin "object.__class__")=some true
 mo:W.mroIn K C (.type "object")=some true
 mb:W.mroIn K C (.type "BaseException")=some true
def ExcAt (e C:Addr) (h:Heap):Prop:=∃ o,h.get? e=some o/\o.cls=.ref C
section
variable {prog:Program} {w:World} {A:Around} {K:W.Frag} {e C:Addr} {h:Heap}
theorem ExcAt.ty {M:Model} (x:ExcAt e C h):W.Looks M h (typeOf (.ref e)) (.ref C):=by
 obtain⟨o,h1,h2⟩:=x
 have L:W.Looks M h (typeOf (.ref e)) o.cls:=(W.Looks.ld h1).andThen .now
 rw [h2] at L
 exact L
theorem zar {M:Model} (X:K.In h) (F:Jv K C):W.Looks M h (find (.ref e) (.ref C) "__class__") (.bind (.builtin "getset_descriptor.__get__") (.builtin "object.__class__")):=by
 have q3:W.Looks M h (dataDescriptor? (some (.builtin "object.__class__")) (some (.builtin "getset_descriptor.__get__"))) (some (.builtin "getset_descriptor.__get__",.builtin "object.__class__")):=(W.looks_takesIn X F.tk).andThen .now
 have q2:W.Looks M h (getOf (some (.builtin "object.__class__"))) (some (.builtin "getset_descriptor.__get__")):=W.looks_specialIn X F.sp
 exact (W.looks_findIn X F.at_).andThen (q2.andThen (q3.andThen (W.Looks.tag .now)))
theorem Jz {R:Result->Shared->Prop} {s:Shared} {tp:Value} (X:K.In s.heap) (x:ExcAt e C s.heap) (F:Jv K C) (q:R (.ok (.ret (.ref C))) s):codeAny (model prog w) A (.call (.builtin "getset_descriptor.__get__") ⟨[.builtin "object.__class__",.ref e,tp],[]⟩) R s:=by
 cases s with
 | mk hp gn dr tk os =>
  have y0:=x.ty (M:=model prog w)
  have y1:=W.looks_mroIn (M:=model prog w) X F.mo
  refine codeAny_call_builtin W.KF.slot_gs.plain W.KF.entry_gs (W.KF.slot_gs.check _ _ _ _ _ _ _ _ W.KF.type_class (W.KF.args_gs _ _ _) ?_)
  unfold «getset_descriptor.__get__» descrGet
  rw [W.dga_obj]
  refine wpAny_bind (wpAny_pure ?_)
  unfold descrGetter descrCheckInstance descrNameAndClass isInstance
  simp only [W.KF.owner_class]
  repeat lk
  refine⟨Code.quiet_builtin _ (by decide +kernel),codeAny_builtin W.KF.entry_class ?_⟩
  unfold «object.__class__» shownTypeOf
  repeat lk
  exact q
theorem zfz {R:Result->Shared->Prop} {s:Shared} {t:Tok} (X:K.In s.heap) (x:ExcAt e C s.heap) (F:Jv K C) (q:R (.ok (.ret (.ref C))) s):codeAny (model prog w) A (.call (.builtin "BaseException.__getattribute__") ⟨[.ref e,.str "__class__" t],[]⟩) R s:=by
 cases s with
 | mk hp gn dr tk os =>
  have y0:=x.ty (M:=model prog w)
  have y3:=zar (M:=model prog w) (e:=e) X F
  have y4:=W.looks_mroIn (M:=model prog w) X F.mb
  refine codeAny_call_builtin PySem.F.attr_ValueError.ga.plain PySem.F.entry_bexc_ga ?_
  have z1:builtinKind "BaseException.__getattribute__" = some .slot:=by decide +kernel
  have z2:splitId "BaseException.__getattribute__" = some ("BaseException","__getattribute__"):=by decide +kernel
  have z3:=PySem.F.args_bexc_ga (.ref e) (.str "__class__" t)
  simp only [checkBuiltinCall,z1,z2]
  refine wpAny_bind ?_
  unfold isInstance
  refine wpAny_bind (y0.at (y4.at ?_))
  repeat (any_goals (first | assumption | wp_step))
  obtain⟨o,h1,h2⟩:=id x
  refine wpAny_loadPart h1 (wpAny_pure ?_)
  rw [h2]
  refine wpAny_bind (y3.at ?_)
  dsimp only
  repeat (any_goals (first | assumption | with_reducible refine wpAny_holding ?_ | wp_step))
  exact Jz (s:=⟨hp,gn,dr,tk,os⟩) X x F (wpAny_pure q)
theorem zcx {E:Value->Shared->Prop} {Q:Option Value->Shared->Prop} {s:Shared} (X:K.In s.heap) (x:ExcAt e C s.heap) (F:Jv K C) (q:Q (some (.ref C)) { s with toks:=s.toks+1 }):wpAny (model prog w) A (getAttr? (.ref e) "__class__") Q E s:=by
 cases s with
 | mk hp gn dr tk os =>
  have y0:=x.ty (M:=model prog w)
  have y1:=W.looks_findIn (M:=model prog w) X F.ga
  have y2:=W.looks_findIn (M:=model prog w) X F.hk
  have y3:=zar (M:=model prog w) (e:=e) X F
  have y4:=W.looks_mroIn (M:=model prog w) X F.mb
  unfold getAttr? getAttrBy? getAttrBy
  refine wpAny_bind (wpAny_mkText (wpAny_bind (wpAny_attempt (wpAny_holding (wpAny_bind (y0.at (wpAny_bind (y1.at ?_))))))))
  show wpAny _ _ (if (onTheHeap (.ref C) && (Value.builtin "BaseException.__getattribute__" == Value.builtin "object.__getattribute__"))=true then _ else _) _ _ _
  rw [show (Value.builtin "BaseException.__getattribute__" == Value.builtin "object.__getattribute__")=false from by decide +kernel,Bool.and_false,if_neg (by decide)]
  unfold getAttrByItsOwn hookBefore
  refine wpAny_bind ?_
  rw [if_pos (show onTheHeap (.ref C)=true from rfl)]
  refine y2.at (wpAny_bind (wpAny_attempt (wpAny_holding ?_)))
  unfold callGetattribute boundAndCalled
  rw [if_neg (by intro z;cases z)]
  refine wpAny_bind (wpAny_of_eq (PySem.F.attr_ValueError.ga.bind (.ref e)) ?_)
  exact wpAny_call (zfz (s:=⟨hp,gn,dr,tk+1,os⟩) X x F (wpAny_pure (wpAny_pure q)))
theorem zdI (F:Jv K C):W.KitX K (.ref e) (.ref C) (ExcAt e C) where
 ty:=fun _ _ _ x=>x.ty
 it:=fun _ _ X _=>by
  have z:=F.mo
  unfold W.mroIn W.clsIn at z
  split at z
  ·rename_i ho
   intro A1 Q1 E1 s1 k q
   unfold isType loadHead
   exact wpAny_bind (wpAny_loadPart (k _ _ (X _ _ ho)) (wpAny_pure q))
  ·cases z
 ne:=fun h tp dd its n sl X htp=>by
  have z:=F.mo
  refine Bool.eq_false_iff.mpr fun q=>?_
  have ec:C=tp:=Value.ref.inj (beq_iff_eq.mp q)
  subst ec
  unfold W.mroIn W.clsIn at z
  split at z
  ·rename_i ho
   have z2:=X _ _ ho
   rw [htp] at z2
   cases z2
  ·cases z
 ca:=fun X x q=>zcx X x F q
def Vg (e C:Addr):HO:=.ext fun h=>ExcAt e C h
def zcS (K:W.Frag):List V->Hp->VK->Prop:=fun xs H Q=>∃ e C c cu b,xs=[.ref e,c]/\RelV c cu/\(∀ u,RelV c u->u=cu)/\H e=some (Vg e C)/\Jv K C/\W.kitOne K (.ref C) cu=some b/\Q (.bl b) H
theorem zcF {X:Cx}:vB X (.builtin "isinstance") (zcS X.K):=by
 intro pins s Z H xs us Q I r h
 obtain⟨e,C,c,cu,b,rfl,_,un,he,F,k,q⟩:=h
 obtain⟨u,v,rfl,rx,rt⟩:=vals2 r
 cases (show u=Value.ref e from rx)
 cases un v rt
 have o:ObjOk X.prog X.w H s.heap e (Vg e C):=I.hok e _ he
 exact W.kia_one (zdI F) I.kIn o.1 k (fun z=>nomatch z) fun tk=>⟨.bl b,H,I.tok tk,rfl,q⟩
theorem uU {X:Cx} (K:W.Frag) (e:X.K=K:=by rfl):vB X (.builtin "isinstance") (zcS K):=by subst e;exact zcF
end
structure zbs (K:W.Frag) (mg:Str->Option Value) (y:Str) (Ch:Addr):Prop where
 g:mg y=some (.ref Ch)
 mb:W.mroIn K Ch (.type "BaseException")=some true
theorem zcB {prog:Program} {w:World} {A:Around} {E:Value->Shared->Prop} {K:W.Frag} {e C Ch:Addr} {s:Shared} {b:Bool} {Q:Bool->Shared->Prop} (X:K.In s.heap) (x:ExcAt e C s.heap) (m:W.kitCls K (.ref C) (.ref Ch)=some b)
  (hb:W.mroIn K Ch (.type "BaseException")=some true) (q:Q b s):wpAny (model prog w) A (excMatches (.ref e) (.ref Ch)) Q E s:=by
 cases s with
 | mk hp gn dr tk os =>
  obtain⟨y1,y2,y3⟩:=W.kit_cls (M:=model prog w) X m
  have y0:=x.ty (M:=model prog w)
  have y4:=W.looks_mroIn (M:=model prog w) X hb
  have y5:=tc_notTuple
  unfold excMatches isInstance isExcClass
  repeat (first | with_reducible refine W.Looks.at (by assumption) ?_ | (with_reducible refine wpAny_of_eq y5 ?_) | with_reducible refine wpAny_bind ?_ | wp_step)
  cases b
  ·exact wpAny_pure (wpAny_pure (wpAny_pure q))
  ·exact wpAny_pure (wpAny_pure (wpAny_pure q))
section
variable {X:Cx} {pins:List (Addr×Obj)} {Z:St} {H H':Hp} {s s':Shared}
abbrev Cx.sui (X:Cx) (e:Addr):Cx:={ X with A:=X.A.mark (some (.ref e)),calm:=false,xe:=fun _ _=>False }
theorem Inv.toSui (I:Inv X pins Z H s) (e:Addr):Inv (X.sui e) pins Z H s :=
 ⟨⟨I.ok.mod,I.ok.kind,I.ok.glob,I.ok.blt,I.ok.above,I.ok.inj,I.ok.has,I.ok.cab,(fun z=>nomatch z),I.ok.frames,I.ok.stk,I.ok.exf,I.ok.bs,I.ok.bsz,I.ok.noex,I.ok.exfs,I.ok.funs,I.ok.frf⟩,I.os,I.bare,I.base,I.loc,I.cell,I.free,I.freeC,I.pin,I.hok,I.len⟩
theorem Inv.ofSui {e:Addr} (ok:X.Ok) (I:Inv (X.sui e) pins Z H s):Inv X pins Z H s:=⟨ok,I.os,I.bare,I.base,I.loc,I.cell,I.free,I.freeC,I.pin,I.hok,I.len⟩
abbrev Cx.body (X:Cx) (E:Value->Shared->Prop) (pn:List (Addr×Obj)):Cx:={ X with xe:=E,pn:=pn }
theorem Inv.toBody (I:Inv X pins Z H s) (E:Value->Shared->Prop):Inv (X.body E (X.pn++pins)) [] Z H s :=
 ⟨⟨I.ok.mod,I.ok.kind,I.ok.glob,I.ok.blt,I.ok.above,I.ok.inj,I.ok.has,I.ok.cab,I.ok.hd,I.ok.frames,I.ok.stk,I.ok.exf,I.ok.bs,I.ok.bsz,I.ok.noex,I.ok.exfs,I.ok.funs,I.ok.frf⟩,I.os,I.bare,I.base,I.loc,I.cell,I.free,I.freeC,fun p hp=>I.pin p (by rw [List.append_nil] at hp;exact hp),I.hok,I.len⟩
theorem Inv.ofBody {E:Value->Shared->Prop} {pins':List (Addr×Obj)} (ok:X.Ok) (I:Inv (X.body E (X.pn++pins)) pins' Z H s):Inv X pins Z H s:=⟨ok,I.os,I.bare,I.base,I.loc,I.cell,I.free,I.freeC,fun p hp=>I.pin p (List.mem_append_left _ hp),I.hok,I.len⟩
theorem SP.ofBody {E:Value->Shared->Prop} {D:Ends} {f:Flow} (ok:X.Ok) (h:SP (X.body E (X.pn++pins)) [] D f s'):SP X pins D f s':=by
 cases f with
 | next=>obtain⟨σ',H',I,q⟩:=h;exact⟨σ',H',I.ofBody ok,q⟩
 | brk=>obtain⟨σ',H',I,q⟩:=h;exact⟨σ',H',I.ofBody ok,q⟩
 | cont=>obtain⟨σ',H',I,q⟩:=h;exact⟨σ',H',I.ofBody ok,q⟩
 | ret u=>obtain⟨v,σ',H',I,r,q⟩:=h;exact⟨v,σ',H',I.ofBody ok,r,q⟩
theorem zcN {e C:Addr} {h':Heap} (un:Un (frs X.stack) [] H H' s.heap h') (hok:HOk X.prog X.w H' h') (n0:s.heap.get? e=none) (n1:H' e=none) (x:ExcAt e C h') :
  Un (frs X.stack) [] H (upd H' e (Vg e C)) s.heap h'/\HOk X.prog X.w (upd H' e (Vg e C)) h':=by
 have ne:∀ b o,s.heap.get? b=some o->b≠e:=fun b o q z=>by rw [z,n0] at q;cases q
 refine⟨⟨un.keep,un.slot,fun b o q n hx=>by rw [zx (ne b o q)];exact un.free b o q n hx,un.there,fun b xs q=>?_,fun b o u q=>?_,fun b ps q=>?_⟩,fun b o q=>?_⟩
 ·have z:=un.tups b xs q
  rw [zx (zF z n1)];exact z
 ·have z:=un.frzs b o u q
  rw [zx (zF z n1)];exact z
 ·obtain⟨more,z⟩:=un.tbls b ps q
  exact⟨more,by rw [zx (zF z n1)];exact z⟩
 ·by_cases hb:b=e
  ·subst hb
   rw [zj] at q
   cases q
   obtain⟨o,h1,h2⟩:=id x
   exact⟨x,⟨o,h1⟩,fun ha hb' xa ka=>let ⟨o,h1,h2⟩:=xa;⟨o,ka o h1,h2⟩⟩
  ·rw [zx hb] at q
   exact (hok b o q).stay (fun c u _ z=>z) (fun c z=>by rw [zx (zF z n1)];exact z) fun c xs z=>by rw [zx (zF z n1)];exact z
theorem Inv.gone {i t:Nat} {n:Str} {h':Heap} (I:Inv X pins Z H s) (hN:X.N.Nodup) (hi:X.N[i]?=some n) (hs:Heap.SameBut X.env.locals s.heap h') (hn:∀ m,s.heap.Ns X.env.locals m->∃ v,h'.Ns X.env.locals fun x=>if x=n then v else m x) :
  Inv X pins (Z.set i none) H { s with heap:=h',toks:=t }:=by
 have nl:∀ b o,X.s₀.heap.get? b=some o->b≠X.env.locals:=fun b o e=>Nat.ne_of_lt (Nat.lt_of_lt_of_le (Heap.lt_size e) I.ok.above)
 have tr:∀ b u,H b=some u->b≠X.env.locals:=fun b u e z=>by rw [z,I.free] at e;cases e
 obtain⟨m,hm,hl⟩:=id I.loc
 obtain⟨v,hv⟩:=hn m hm
 refine⟨I.ok,I.os,I.bare,⟨fun b o e n hb hx=>(hs.2 b (nl b o e)).trans (I.base.keep b o e n hb hx),fun b o e n hb hx=>?_,I.base.free,fun b o e hx=>?_,I.base.tups,I.base.frzs,I.base.tbls⟩,⟨_,hv,fun j y w e1 e2 e3=>?_⟩,fun y c e=>?_,I.free,I.freeC,fun p hp=>?_,fun b u e=>?_,by rw [List.length_set];exact I.len⟩
 ·obtain⟨sl,q⟩:=I.base.slot b o e n hb hx
  exact⟨sl,(hs.2 b (nl b o e)).trans q⟩
 ·obtain⟨o1,q⟩:=I.base.there b o e hx
  exact⟨o1,(hs.2 b (nl b o e)).trans q⟩
 ·have hj:j≠i:=fun z=>by
   subst z
   rw [List.getElem?_set] at e2
   split at e2
   ·split at e2<;>cases e2
   ·exact absurd rfl (by assumption)
  rw [List.getElem?_set_ne (Ne.symm hj)] at e2
  obtain⟨u,r,q⟩:=hl j y w e1 e2 e3
  refine⟨u,r,?_⟩
  rcases q with ⟨k,z⟩ | ⟨k,c,z,zc⟩
  ·refine .inl ⟨k,?_⟩
   have ny:y≠n:=fun z=>hj (Vs hN e1 (z▸hi))
   show (if y=n then v else m y)=some u
   rw [if_neg ny];exact z
  ·exact .inr ⟨k,c,z,zc.sameBut hs (I.cne y c z)⟩
 ·obtain⟨w,z⟩:=I.cell y c e
  exact⟨w,z.sameBut hs (I.cne y c e)⟩
 ·obtain⟨e,n,ne,nf,d⟩:=I.pin p hp
  exact⟨(hs.2 p.1 ne).trans e,n,ne,nf,d⟩
 ·refine (I.hok b u e).stay (fun c z hc q=>(hs.2 c ?_).trans q) (fun _ q=>q) fun _ _ q=>q
  rcases hc with z | z
  ·rw [z];exact tr b u e
  ·exact tr c _ z
end
def zfd (i:Nat) (D:Ends):Ends:={ nx:=fun Z H=>D.nx (Z.set i none) H,rt:=D.rt,bk:=fun Z H=>D.bk (Z.set i none) H,ct:=fun Z H=>D.ct (Z.set i none) H }
def xAs (K:W.Frag) (Ch:Addr) (i:Nat) (ts:TS) (D:Ends):St->XK:=fun Z c _ H=>∃ C,c=.ref C/\W.kitCls K (.ref C) (.ref Ch)=some true/\∀ e,H e=none->ts (zfd i D) (Z.set i (some (.ref e))) (upd H e (Vg e C))
def zfl (K:W.Frag) (Ch:Addr) (i:Nat) (tb:(St->XK)->TS) (ts:TS):TS:=fun D Z H=>tb (xAs K Ch i ts D) D Z H
section
variable {X:Cx} {y n:Str} {Ch:Addr} {i:Nat} {body suite:List Stmt} {b₀:Stmt} {tb:(St->XK)->TS} {ts:TS} {np hpos pos:Pos}
theorem zc9 (O:zbs X.K X.mg y Ch) (hstk:X.stack=X.env :: X.outer) (hfr:X.env.frame=some X.env.locals) (nd:X.N.Nodup) (hi:X.N[i]?=some n) (hloc:X.env.scope.names.lookup n=some .local)
  (hb:∀ (E:Value->Shared->Prop) (pn:List (Addr×Obj)) (Ex:St->XK),zbG (X.body E pn) Ex->PSs (X.body E pn) body (tb Ex)) (hs:∀ e,PSs (X.sui e) (b₀ :: suite) ts) (hg:Gl X y:=by rfl) (hdb:(y == ("__debug__" : Str))=false:=by decide) :
  PS X (.Try body [.ExceptHandler (some (.Name y np)) (some n) (b₀ :: suite) hpos] [] [] pos) (zfl X.K Ch i tb ts):=by
 intro pins s Z H D I h
 have ok:=I.ok
 refine wpAny_Try_except (wpAny_mono (hb (fun e s₁=>wpAny (model X.prog X.w) X.A (noteFrame e X.env) (fun _ s₂=>wpAny (model X.prog X.w) X.A (setFlight e none) (fun _ s₃=>wpAny (model X.prog X.w) X.A (handleBy e X.env [.ExceptHandler (some (.Name y np)) (some n) (b₀ :: suite) hpos]) (SP X pins D) X.xe s₃) X.xe s₂) X.xe s₁)
  (X.pn++pins) (xAs X.K Ch i ts D) ?_ [] s Z H D (I.toBody _) h) (fun f s1 q=>?_) fun _ _ z=>z)
 ·intro pins2 σ2 H2 s2 e s3 I2 hcx
  have I2:=I2.ofBody ok
  obtain⟨ea,c,H3,rfl,os,bare,un,hok,n0,n1,t,C,rfl,hk,hq⟩:=hcx
  obtain⟨B,a0,hB,fl⟩:=zbR I2 os bare un hok n0 n1 t
  have fl':Heap.FlyingW B (X.env :: X.outer) ea (.ref C) a0 s3.heap:=by rw [<- hstk];exact fl
  refine wpAny_looks_onW (by rw [ok.frames,hstk]) hfr fl' fun h4 held up4=>wpAny_landsW held fun h5 fl5 up5=>?_
  obtain⟨u5,k5⟩:=zbg I2 un hok hB fl5.1 (up4.trans up5)
  have J5:Inv X pins σ2 H3 { s3 with heap:=h5 }:=I2.call' (ch:=[]) os u5 k5 bare fun b z=>absurd z (by simp)
  have x5:ExcAt ea C h5:=fl5.there
  refine wpAny_handleBy_cons (codeAny_handlers_test (YL (X:=X.sui ea) (J5.toSui ea) hg O.g ?_ hdb)) (by intro z;cases z)
  refine zcB J5.kIn x5 hk O.mb (codeAny_handlers_suite_as (lands_againW fl5 fun h6 fl6 up6=>?_))
  obtain⟨u6,k6⟩:=zbg I2 un hok hB fl6.1 ((up4.trans up5).trans up6)
  obtain⟨u7,k7⟩:=zcN u6 k6 n0 n1 fl6.there
  have J7:Inv X pins σ2 (upd H3 ea (Vg ea C)) { s3 with heap:=h6 }:=I2.call' (ch:=[]) os u7 k7 bare fun b z=>absurd z (by simp)
  refine X6 (X:=X.sui ea) (v:=.ref ea) (J7.toSui ea) nd hi (.inl hloc) rfl (fun s8 J8=>?_) (.inr hloc)
  refine wpAny_mono (hs ea pins s8 _ _ (zfd i D) J8 (hq ea n1)) (fun f s9 q=>?_) fun _ _ z=>False.elim z
  have fin:∀ {σ9:St} {H9:Hp},Inv (X.sui ea) pins σ9 H9 s9->(∀ s10,Inv X pins (σ9.set i none) H9 s10->SP X pins D f s10)->wpAny (model X.prog X.w) X.A (do bindName X.env n .none;unbindBehindTheSuite X.env n hpos) (fun _ s10=>SP X pins D f s10) X.xe s9:=fun {σ9 H9} J k=>by
   have J':=J.ofSui ok
   obtain⟨m,hm,_⟩:=id J'.loc
   refine wpAny_nameGoes_keeps hloc hm (by rw [ok.kind];rfl) fun h10 v hn hsb=>k _ (J'.gone nd hi hsb fun m2 hm2=>?_)
   refine⟨v,?_⟩
   have e:m2=m:=by
    obtain⟨o1,es1,ep1,a1,b1,c1,d1⟩:=hm
    obtain⟨o2,es2,ep2,a2,b2,c2,d2⟩:=hm2
    rw [a1] at a2;cases a2
    rw [b1] at b2;cases b2
    funext z
    rw [<- d1,<- d2]
   rw [e];exact hn
  cases f with
  | next=>obtain⟨σ9,H9,J,q⟩:=q;exact fin J fun s10 K10=>⟨_,_,K10,q⟩
  | brk=>obtain⟨σ9,H9,J,q⟩:=q;exact fin J fun s10 K10=>⟨_,_,K10,q⟩
  | cont=>obtain⟨σ9,H9,J,q⟩:=q;exact fin J fun s10 K10=>⟨_,_,K10,q⟩
  | ret u=>obtain⟨v,σ9,H9,J,r,q⟩:=q;exact fin J fun s10 K10=>⟨v,_,_,K10,r,q⟩
 ·cases f with
  | next=>exact wpAny_execs_nil (SP.ofBody ok q)
  | ret u=>exact SP.ofBody ok q
  | brk=>exact SP.ofBody ok q
  | cont=>exact SP.ofBody ok q
end
open PySem PyProof.Rows
def unD:List (PyData×PyData)->List (Int×Int)
 | (.int k,.int v) :: r=>(k,v) :: unD r
 | _=>[]
def dD (ps:List (Int×Int)):List (PyData×PyData):=ps.map fun p=>(.int p.1,.int p.2)
def dV (ps:List (Int×Int)):List (Key×V):=ps.map fun p=>(.inl p.1,.int p.2)
mutual
def ThAt (H:Hp):PyData->V->Prop
 | .none,v=>v=.non
 | .bool b,v=>v=.bl b
 | .int i,v=>v=.int i
 | .str x,v=>v=.str x
 | .list xs,v=>∃ a ys,v=.ref a/\H a=some (.lst ys)/\ThsAt H xs ys
 | .tuple xs,v=>∃ a ys,v=.ref a/\H a=some (.tup ys)/\ThsAt H xs ys
 | .dict kvs,v=>kvs=dD (unD kvs)/\∃ a,v=.ref a/\H a=some (.dK (dV (unD kvs)))
def ThsAt (H:Hp):List PyData->List V->Prop
 | [],ys=>ys=[]
 | d :: ds,ys=>∃ y zs,ys=y :: zs/\ThAt H d y/\ThsAt H ds zs
end
mutual
theorem ThAt.same {H H':Hp} (m:Same H H'):∀ {d:PyData} {v:V},ThAt H d v->ThAt H' d v
 | .none,v,h=>by rw [ThAt] at h ⊢;exact h
 | .bool b,v,h=>by rw [ThAt] at h ⊢;exact h
 | .int i,v,h=>by rw [ThAt] at h ⊢;exact h
 | .str x,v,h=>by rw [ThAt] at h ⊢;exact h
 | .list xs,v,h=>by
  rw [ThAt] at h ⊢
  obtain⟨a,ys,h1,h2,h3⟩:=h
  exact⟨a,ys,h1,m _ _ h2,ThsAt.same m h3⟩
 | .tuple xs,v,h=>by
  rw [ThAt] at h ⊢
  obtain⟨a,ys,h1,h2,h3⟩:=h
  exact⟨a,ys,h1,m _ _ h2,ThsAt.same m h3⟩
 | .dict kvs,v,h=>by
  rw [ThAt] at h ⊢
  obtain⟨h0,a,h1,h2⟩:=h
  exact⟨h0,a,h1,m _ _ h2⟩
theorem ThsAt.same {H H':Hp} (m:Same H H'):∀ {ds:List PyData} {ys:List V},ThsAt H ds ys->ThsAt H' ds ys
 | [],ys,h=>by rw [ThsAt] at h ⊢;exact h
 | d :: ds,ys,h=>by
  rw [ThsAt] at h ⊢
  obtain⟨y,zs,h1,h2,h3⟩:=h
  exact⟨y,zs,h1,ThAt.same m h2,ThsAt.same m h3⟩
end
theorem ThsAt.len {H:Hp}:∀ {ds:List PyData} {ys:List V},ThsAt H ds ys->ys.length=ds.length
 | [],ys,h=>by rw [ThsAt] at h;rw [h];rfl
 | d :: ds,ys,h=>by
  rw [ThsAt] at h
  obtain⟨y,zs,h1,h2,h3⟩:=h
  rw [h1,List.length_cons,List.length_cons,ThsAt.len h3]
theorem ThsAt.get {H:Hp}:∀ {ds:List PyData} {ys:List V} {k:Nat} {v:V},ThsAt H ds ys->ys[k]?=some v->∃ d,ds[k]?=some d/\ThAt H d v
 | [],ys,k,v,h,e=>by rw [ThsAt] at h;rw [h] at e;simp at e
 | d :: ds,ys,k,v,h,e=>by
  rw [ThsAt] at h
  obtain⟨y,zs,h1,h2,h3⟩:=h
  rw [h1] at e
  cases k with
  | zero =>
   have e':y=v:=by simpa using e
   exact⟨d,rfl,by rw [<- e'];exact h2⟩
  | succ k=>exact ThsAt.get (ds:=ds) (k:=k) h3 (by simpa using e)
def tyT:PyData->String
 | .none=>"NoneType" | .bool _=>"bool" | .int _=>"int" | .str _=>"str" | .list _=>"list" | .tuple _=>"tuple" | .dict _=>"dict"
theorem ThAt.ty {K:W.Frag} {H:Hp} {d:PyData} {v:V} (h:ThAt H d v):XJ K H v (.type (tyT d)):=by
 cases d with
 | none=>rw [ThAt] at h;rw [h];exact .non
 | bool b=>rw [ThAt] at h;rw [h];exact .bl b
 | int i=>rw [ThAt] at h;rw [h];exact .int i
 | str x=>rw [ThAt] at h;rw [h];exact .str x
 | list xs=>rw [ThAt] at h;obtain⟨a,ys,rfl,h2,_⟩:=h;exact .lst h2
 | tuple xs=>rw [ThAt] at h;obtain⟨a,ys,rfl,h2,_⟩:=h;exact .tup h2
 | dict kvs=>rw [ThAt] at h;obtain⟨_,a,rfl,h2⟩:=h;exact .dK h2
section
variable {K:W.Frag}
end
end L2
namespace L2
open PySem PyProof.Rows
section
variable {P:Program} {w:World} {H:Hp} {h:Heap}
theorem zb0 {a:Addr} {ys:List V} (ok:HOk P w H h) (e:H a=some (.lst ys)):∃ (its:List Value) (n:Nat),Vals ys its/\h.get? a=some { cls:=.type "list",data:=.seq its.toArray n }:=(ok a _ e).2
theorem zbH {a:Addr} {ys:List V} (ok:HOk P w H h) (e:H a=some (.tup ys)):∃ (its:List Value) (o:Obj) (n:Nat),Vals ys its/\h.get? a=some o/\o.cls=.type "tuple"/\o.data=.seq its.toArray n:=by
 obtain⟨_,its,r,o,h1,h2,n,h3⟩:=ok a _ e
 exact⟨its,o,n,r,h1,h2,h3⟩
theorem Ur:∀ {l:List DictEntry} {vs:List (Key×Value)} {ps:List (Int×Int)},Pairs (zZ P w) l vs->KV (dV ps) vs ->
  ReadsAll h (l.map (·.key)) ((dD ps).map (·.1)) []/\ReadsAll h (l.map (·.val)) ((dD ps).map (·.2)) []
 | _,_,[],pr,r=>by
  cases r;cases pr
  exact⟨.nil,.nil⟩
 | _,_,(k,v) :: ps,pr,r=>by
  have r':KV ((Sum.inl k,V.int v) :: dV ps) _:=r
  cases r' with
  | cons r1 r2 =>
   cases pr with
   | cons p1 p2 p3 =>
    obtain⟨q1,q2⟩:=Ur p3 r2
    obtain⟨e1,t1,e2⟩:=r1
    rw [<- e1] at p1
    obtain⟨t,e3⟩:=Value.isInt_shape (show Value.isInt k _=true from p1)
    refine⟨?_,?_⟩
    ·refine ReadsAll.cons (as:=[]) (bs:=[]) (d:=.int k) ?_ q1
     show Reads h (DictEntry.key _) (.int k) []
     rw [e3];exact .int _ _
    ·refine ReadsAll.cons (as:=[]) (bs:=[]) (d:=.int v) ?_ q2
     show Reads h (DictEntry.val _) (.int v) []
     rw [p2,e2];exact .int _ _
theorem V7 {as:List Addr} {d:Nat}:∀ {l:List DictEntry} {vs:List (Key×Value)} {ps:List (Int×Int)},Pairs (zZ P w) l vs->KV (dV ps) vs->PyData.showableKv (dD ps)=true ->
  ReprEntriesK P w as h d l (PyData.shownKv (dD ps))
 | _,_,[],pr,r,_=>by
  cases r;cases pr
  show ReprEntriesK P w as h d [] (PyData.shownKv [])
  rw [PyData.shownKv];exact .nil
 | _,_,(k,v) :: ps,pr,r,hs=>by
  have r':KV ((Sum.inl k,V.int v) :: dV ps) _:=r
  have hs':PyData.showableKv ((.int k,.int v) :: dD ps)=true:=hs
  rw [PyData.showableKv,PyData.showable,PyData.showable,Bool.and_eq_true,Bool.and_eq_true] at hs'
  cases r' with
  | cons r1 r2 =>
   cases pr with
   | cons p1 p2 p3 =>
    obtain⟨e1,t1,e2⟩:=r1
    rw [<- e1] at p1
    obtain⟨t,e3⟩:=Value.isInt_shape (show Value.isInt k _=true from p1)
    show ReprEntriesK P w as h d _ (PyData.shownKv ((.int k,.int v) :: dD ps))
    rw [PyData.shownKv,PyData.shown,PyData.shown]
    refine .cons ?_ ?_ (V7 p3 r2 hs'.2)
    ·rw [e3];exact .of_is (ReprIs.int t (of_decide_eq_true hs'.1.1)) _ _ _
    ·rw [p2,e2];exact .of_is (ReprIs.int t1 (of_decide_eq_true hs'.1.2)) _ _ _
theorem zax:∀ ps:List (Int×Int),PyData.depthKv (dD ps)=0
 | []=>by show PyData.depthKv []=0;rw [PyData.depthKv]
 | (k,v) :: ps=>by
  show PyData.depthKv ((.int k,.int v) :: dD ps)=0
  rw [PyData.depthKv,PyData.depth,PyData.depth,zax ps];rfl
theorem zbM {a:Addr} {ps:List (Int×Int)} (ok:HOk P w H h) (e:H a=some (.dK (dV ps))):(a == sysModules)=false/\∃ (o:Obj) (es:Array DictEntry) (n:Nat) (vs:List (Key×Value)),h.get? a=some o/\o.cls=.type "dict"/\o.data=.dict es n/\Pairs (zZ P w) es.toList vs/\KV (dV ps) vs:=by
 obtain⟨_,hs,vs,r,o,es,ep,e1,ex,ed,_,pr,_⟩:=ok a _ e
 exact⟨hs,o,es,ep,vs,e1,ex.1,ed,pr,r⟩
mutual
theorem XM (ok:HOk P w H h):∀ {d:PyData} {v:V} {u:Value},ThAt H d v->RelV v u->∃ as,Reads h u d as
 | .none,v,u,t,r=>by
  rw [ThAt] at t;subst t
  have e:u=Value.none:=r
  subst e;exact⟨_,.none⟩
 | .bool b,v,u,t,r=>by
  rw [ThAt] at t;subst t
  have e:u=Value.bool b:=r
  subst e;exact⟨_,.bool b⟩
 | .int i,v,u,t,r=>by
  rw [ThAt] at t;subst t
  obtain⟨k,rfl⟩:∃ k,u=Value.int i k:=r
  exact⟨_,.int i k⟩
 | .str x,v,u,t,r=>by
  rw [ThAt] at t;subst t
  obtain⟨k,rfl⟩:∃ k,u=Value.str x k:=r
  exact⟨_,.str x k⟩
 | .list xs,v,u,t,r=>by
  rw [ThAt] at t
  obtain⟨a,ys,rfl,ha,hx⟩:=t
  have e:u=Value.ref a:=r
  subst e
  obtain⟨its,n,rv,ho⟩:=zb0 ok ha
  obtain⟨as,q⟩:=Wq ok hx rv
  exact⟨_,.list ho rfl rfl q⟩
 | .tuple xs,v,u,t,r=>by
  rw [ThAt] at t
  obtain⟨a,ys,rfl,ha,hx⟩:=t
  have e:u=Value.ref a:=r
  subst e
  obtain⟨its,o,n,rv,h1,h2,h3⟩:=zbH ok ha
  obtain⟨as,q⟩:=Wq ok hx rv
  exact⟨_,.tuple h1 h2 h3 q⟩
 | .dict kvs,v,u,t,r=>by
  rw [ThAt] at t
  obtain⟨hk,a,rfl,ha⟩:=t
  generalize unD kvs=ps at hk ha
  subst hk
  have e:u=Value.ref a:=r
  subst e
  obtain⟨_,o,es,n,vs,h1,h2,h3,h4,h5⟩:=zbM ok ha
  obtain⟨q1,q2⟩:=Ur (h:=h) h4 h5
  exact⟨_,.dict h1 h2 h3 q1 q2⟩
theorem Wq (ok:HOk P w H h):∀ {ds:List PyData} {ys:List V} {us:List Value},ThsAt H ds ys->Vals ys us->∃ as,ReadsAll h us ds as
 | [],ys,us,t,r=>by
  rw [ThsAt] at t;subst t
  cases r
  exact⟨_,.nil⟩
 | d :: ds,ys,us,t,r=>by
  rw [ThsAt] at t
  obtain⟨y,zs,rfl,h1,h2⟩:=t
  cases r with
  | cons r1 r2 =>
   obtain⟨as,q⟩:=XM ok h1 r1
   obtain⟨bs,q2⟩:=Wq ok h2 r2
   exact⟨_,.cons q q2⟩
end
mutual
theorem zeb (ok:HOk P w H h):∀ {d:PyData} {v:V} {u:Value},ThAt H d v->RelV v u->d.showable=true->d.shown.length<=sizeLine->∃ bs,ReadAtMost h d.depth bs/\ReprK P w bs h d.depth u d.shown
 | .none,v,u,t,r,_,_=>by
  rw [ThAt] at t;subst t
  have e:u=Value.none:=r
  subst e
  exact⟨[],by simp [ReadAtMost],by rw [PyData.shown];exact .of_is ReprIs.none _ _ _⟩
 | .bool b,v,u,t,r,_,_=>by
  rw [ThAt] at t;subst t
  have e:u=Value.bool b:=r
  subst e
  exact⟨[],by simp [ReadAtMost],by rw [PyData.shown];exact .of_is (ReprIs.bool b) _ _ _⟩
 | .int i,v,u,t,r,hs,_=>by
  rw [ThAt] at t;subst t
  obtain⟨k,rfl⟩:∃ k,u=Value.int i k:=r
  rw [PyData.showable] at hs
  exact⟨[],by simp [ReadAtMost],by rw [PyData.shown];exact .of_is (ReprIs.int k (of_decide_eq_true hs)) _ _ _⟩
 | .str x,v,u,t,r,_,hz=>by
  rw [ThAt] at t;subst t
  obtain⟨k,rfl⟩:∃ k,u=Value.str x k:=r
  rw [PyData.shown] at hz
  exact⟨[],by simp [ReadAtMost],by rw [PyData.shown];exact .of_is (ReprIs.str x k hz) _ _ _⟩
 | .list xs,v,u,t,r,hs,hz=>by
  obtain⟨as,rd⟩:=XM ok t r
  rw [ThAt] at t
  obtain⟨a,ys,rfl,ha,hx⟩:=t
  have e:u=Value.ref a:=r
  subst e
  obtain⟨its,n,rv,ho⟩:=zb0 ok ha
  rw [PyData.showable] at hs
  rw [PyData.shown] at hz
  obtain⟨bs,hb,hk⟩:=Ww ok hx rv hs fun s hsm=>Nat.le_trans (listText_mem_le hsm) hz
  have dd:(PyData.list xs).depth=PyData.depthAll xs+1:=by rw [PyData.depth]
  refine⟨a :: bs,ReadAtMost.cons rd (by omega) hb,?_⟩
  rw [dd,PyData.shown]
  cases its with
  | nil =>
   cases rv
   cases xs with
   | nil=>rw [PyData.shownAll,listText_nil];exact ReprK.listEmpty ho rfl rfl
   | cons _ _=>rw [ThsAt] at hx;obtain⟨_,_,z,_⟩:=hx;cases z
  | cons x l=>exact ReprK.list ho rfl rfl (not_mem_of_deeper rd (by omega) hb) (by rw [hk.length_eq];simp) fun i y q=>hk.item i y (by simpa using q)
 | .tuple xs,v,u,t,r,hs,hz=>by
  obtain⟨as,rd⟩:=XM ok t r
  rw [ThAt] at t
  obtain⟨a,ys,rfl,ha,hx⟩:=t
  have e:u=Value.ref a:=r
  subst e
  obtain⟨its,o,n,rv,h1,h2,h3⟩:=zbH ok ha
  rw [PyData.showable] at hs
  rw [PyData.shown] at hz
  obtain⟨bs,hb,hk⟩:=Ww ok hx rv hs fun s hsm=>Nat.le_trans (tupleText_mem_le hsm) hz
  have dd:(PyData.tuple xs).depth=PyData.depthAll xs+1:=by rw [PyData.depth]
  refine⟨a :: bs,ReadAtMost.cons rd (by omega) hb,?_⟩
  rw [dd,PyData.shown]
  exact ReprK.tuple h1 h2 h3 (not_mem_of_deeper rd (by omega) hb) hk
 | .dict kvs,v,u,t,r,hs,hz=>by
  obtain⟨as,rd⟩:=XM ok t r
  rw [ThAt] at t
  obtain⟨hk,a,rfl,ha⟩:=t
  generalize unD kvs=ps at hk ha
  subst hk
  have e:u=Value.ref a:=r
  subst e
  obtain⟨sy,o,es,n,vs,h1,h2,h3,h4,h5⟩:=zbM ok ha
  have dd:(PyData.dict (dD ps)).depth=0+1:=by rw [PyData.depth,zax]
  rw [PyData.showable] at hs
  refine⟨[a],ReadAtMost.cons (d:=.dict (dD ps)) (n:=0) rd (Nat.zero_le _) (by simp [ReadAtMost]),?_⟩
  rw [dd,PyData.shown]
  exact ReprK.dict h1 h2 h3 sy (by simp) (V7 h4 h5 hs)
theorem Ww (ok:HOk P w H h):∀ {ds:List PyData} {ys:List V} {us:List Value},ThsAt H ds ys->Vals ys us->PyData.showableAll ds=true->(∀ s∈PyData.shownAll ds,s.length<=sizeLine)->∃ bs,ReadAtMost h (PyData.depthAll ds) bs/\ReprAllK P w bs h (PyData.depthAll ds) us (PyData.shownAll ds)
 | [],ys,us,t,r,_,_=>by
  rw [ThsAt] at t;subst t
  cases r
  exact⟨[],by simp [ReadAtMost],by rw [PyData.shownAll];exact .nil⟩
 | d :: ds,ys,us,t,r,hs,hz=>by
  rw [ThsAt] at t
  obtain⟨y,zs,rfl,h1,h2⟩:=t
  rw [PyData.showableAll,Bool.and_eq_true] at hs
  rw [PyData.shownAll] at hz
  cases r with
  | cons r1 r2 =>
   obtain⟨b1,q1,k1⟩:=zeb ok h1 r1 hs.1 (hz _ (.head _))
   obtain⟨b2,q2,k2⟩:=Ww ok h2 r2 hs.2 fun s hsm=>hz s (.tail _ hsm)
   have dd:PyData.depthAll (d :: ds)=max d.depth (PyData.depthAll ds):=by rw [PyData.depthAll]
   refine⟨b1++b2,(q1.mono (by omega)).append (q2.mono (by omega)),?_⟩
   rw [PyData.shownAll]
   exact .cons ((k1.more fun b hb=>List.mem_append_left _ hb).level_le (by omega)) (k2.more_le (fun b hb=>List.mem_append_right _ hb) (by omega))
end
end
end L2
namespace L2
open PySem PyProof.Rows
structure Fit (k n:Nat) (d:PyData):Prop where
 ls:d.leavesShort 40=true
 sh:d.showable=true
 dp:d.depth<=k
 wt:d.weight<=n
theorem Fit.shown {k n:Nat} {d:PyData} (f:Fit k n d) (hn:n<=100000):d.shown.length<=sizeLine:=by
 have h:=PyData.shown_le 40 (by decide) d f.ls
 have:=f.wt
 rw [sizeLine_eq]
 omega
def Th (H:Hp) (k n:Nat) (v:V):Prop:=∃ d,ThAt H d v/\Fit k n d
theorem Th.same {H H':Hp} {k n:Nat} {v:V} (t:Th H k n v) (m:Same H H'):Th H' k n v:=let ⟨d,h,f⟩:=t;⟨d,h.same m,f⟩
theorem Th.le {H:Hp} {k n k' n':Nat} {v:V} (t:Th H k n v) (hk:k<=k') (hn:n<=n'):Th H k' n' v:=let ⟨d,h,f⟩:=t;⟨d,h,f.ls,f.sh,Nat.le_trans f.dp hk,Nat.le_trans f.wt hn⟩
section
variable {H:Hp} {k n:Nat}
theorem Th.non:Th H k n .non:=⟨.none,by rw [ThAt],by rw [PyData.leavesShort],by rw [PyData.showable],by rw [PyData.depth];exact Nat.zero_le _,by rw [PyData.weight];exact Nat.zero_le _⟩
theorem Th.bl {b:Bool}:Th H k n (.bl b):=⟨.bool b,by rw [ThAt],by rw [PyData.leavesShort],by rw [PyData.showable],by rw [PyData.depth];exact Nat.zero_le _,by rw [PyData.weight];exact Nat.zero_le _⟩
theorem log2_small {m:Nat} (h:m<10^30):m.log2<100:=by
 by_cases z:m=0
 ·subst z;decide
 ·exact (Nat.log2_lt z).mpr (Nat.lt_trans h (by decide))
theorem Th.int {i:Int} (h:i.natAbs<10^30) (hn:100<=n):Th H k n (.int i):=by
 refine⟨.int i,by rw [ThAt],?_,?_,by rw [PyData.depth];exact Nat.zero_le _,?_⟩
 ·rw [PyData.leavesShort,PyData.shown]
  refine decide_eq_true ?_
  have:=int_text_length_le10 (a:=i) (k:=30) (by decide) h
  rw [PySem.ofString_length]
  omega
 ·rw [PyData.showable]
  exact decide_eq_true (Nat.lt_trans (log2_small h) (by decide))
 ·rw [PyData.weight]
  have:=log2_small h
  split<;>omega
theorem Th.str {x:Str} (h:(x.cps.toList.all fun c=>decide (c<16^8))=true) (hn:x.cps.size<=n):Th H k n (.str x):=⟨.str x,by rw [ThAt],by rw [PyData.leavesShort];exact h,by rw [PyData.showable],by rw [PyData.depth];exact Nat.zero_le _,by rw [PyData.weight];exact hn⟩
theorem Ths.of:∀ {vs:List V},(∀ v∈vs,Th H k n v)->∃ ds,ThsAt H ds vs/\PyData.leavesShortAll 40 ds=true/\PyData.showableAll ds=true/\PyData.depthAll ds<=k/\PyData.weightAll ds<=(n+1)*vs.length
 | [],_=>⟨[],by rw [ThsAt],by rw [PyData.leavesShortAll],by rw [PyData.showableAll],by rw [PyData.depthAll];exact Nat.zero_le _,by rw [PyData.weightAll];exact Nat.zero_le _⟩
 | v :: vs,h=>by
  obtain⟨d,h1,f⟩:=h v (.head _)
  obtain⟨ds,g1,g2,g3,g4,g5⟩:=Ths.of fun v hv=>h v (.tail _ hv)
  refine⟨d :: ds,by rw [ThsAt];exact⟨_,_,rfl,h1,g1⟩,by rw [PyData.leavesShortAll,f.ls,g2];rfl,by rw [PyData.showableAll,f.sh,g3];rfl,?_,?_⟩
  ·rw [PyData.depthAll];have:=f.dp;omega
  ·rw [PyData.weightAll,List.length_cons,Nat.mul_succ];have:=f.wt;omega
theorem Th.lst {a:Addr} {vs:List V} {n':Nat} (h:H a=some (.lst vs)) (t:∀ v∈vs,Th H k n v) (hn:(n+1)*vs.length<=n'):Th H (k+1) n' (.ref a):=by
 obtain⟨ds,g1,g2,g3,g4,g5⟩:=Ths.of t
 exact⟨.list ds,by rw [ThAt];exact⟨a,vs,rfl,h,g1⟩,by rw [PyData.leavesShort];exact g2,by rw [PyData.showable];exact g3,by rw [PyData.depth];omega,by rw [PyData.weight];omega⟩
theorem Th.tup {a:Addr} {vs:List V} {n':Nat} (h:H a=some (.tup vs)) (t:∀ v∈vs,Th H k n v) (hn:(n+1)*vs.length<=n'):Th H (k+1) n' (.ref a):=by
 obtain⟨ds,g1,g2,g3,g4,g5⟩:=Ths.of t
 exact⟨.tuple ds,by rw [ThAt];exact⟨a,vs,rfl,h,g1⟩,by rw [PyData.leavesShort];exact g2,by rw [PyData.showable];exact g3,by rw [PyData.depth];omega,by rw [PyData.weight];omega⟩
theorem Th.ints {a:Addr} {ns:List Int} {n':Nat} (h:H a=some (.lst (ns.map V.int))) (t:∀ i∈ns,i.natAbs<10^30) (hn:101*ns.length<=n'):Th H (k+1) n' (.ref a) :=
 Th.lst (n:=100) h (fun v hv=>by
  obtain⟨i,hi,rfl⟩:=List.mem_map.mp hv
  exact Th.int (t i hi) (Nat.le_refl _)) (by rw [List.length_map];exact hn)
end
open PySem PySem.Spec PyProof.Rows
@[irreducible] def PEI (X:Cx) (e:Expr) (t:TE):Prop:=PE X e t
@[irreducible] def PAI (X:Cx) (es:List Expr) (t:TA):Prop:=PA X es t
@[irreducible] def PSsI (X:Cx) (st:List Stmt) (t:TS):Prop:=PSs X st t
theorem PEI.o {X:Cx} {e:Expr} {t:TE} (h:PEI X e t):PE X e t:=by unfold PEI at h;exact h
theorem PAI.o {X:Cx} {es:List Expr} {t:TA} (h:PAI X es t):PA X es t:=by unfold PAI at h;exact h
theorem PSsI.o {X:Cx} {l:List Stmt} {t:TS} (h:PSsI X l t):PSs X l t:=by unfold PSsI at h;exact h
structure Ty where
 p:Hp->V->Prop
 mo:∀ {G G':Hp} {v:V},Same G G'->p G v->p G' v
structure View where
 v:Hp->Hp
 ok:Hp->Prop
 out:∀ {H:Hp} {a:Addr} {o:HO},v H a=some o->H a=some o
 new:∀ {H:Hp} {p:Addr} (o:HO),ok H->H p=none->ok (upd H p o)/\Same (v H) (v (upd H p o))/\v (upd H p o) p=some o
abbrev Cxt:=List (Option Ty)
def Fits (Γ:Cxt) (G:Hp) (Z:St):Prop:=Z.length=Γ.length/\∀ (i:Nat) (T:Ty),Γ[i]?=some (some T)->∃ v:V,Z[i]?=some (some v)/\T.p G v
theorem Fits.same {Γ:Cxt} {G G':Hp} {Z:St} (f:Fits Γ G Z) (s:Same G G'):Fits Γ G' Z:=⟨f.1,fun i T h=>let ⟨v,e,q⟩:=f.2 i T h;⟨v,e,T.mo s q⟩⟩
theorem Fits.set {Γ:Cxt} {G:Hp} {Z:St} {i:Nat} {T:Ty} {v:V} (f:Fits Γ G Z) (q:T.p G v):Fits (Γ.set i (some T)) G (Z.set i (some v)):=by
 refine⟨by rw [List.length_set,List.length_set,f.1],fun j T' h=>?_⟩
 rw [List.getElem?_set] at h ⊢
 by_cases e:i=j
 ·rw [if_pos e] at h ⊢
  by_cases l:i<Γ.length
  ·rw [if_pos l] at h
   rw [if_pos (by rw [f.1];exact l)]
   cases h
   exact⟨v,rfl,q⟩
  ·rw [if_neg l] at h;cases h
 ·rw [if_neg e] at h ⊢
  exact f.2 j T' h
theorem Fits.nil {G:Hp}:Fits [] G []:=⟨rfl,fun i T h=>by simp at h⟩
theorem Fits.cons {Γ:Cxt} {G:Hp} {Z:St} {T:Ty} {v:V} (q:T.p G v) (f:Fits Γ G Z):Fits (some T :: Γ) G (some v :: Z):=by
 refine⟨by rw [List.length_cons,List.length_cons,f.1],fun i T' h=>?_⟩
 cases i with
 | zero=>cases h;exact⟨v,rfl,q⟩
 | succ i=>exact f.2 i T' h
theorem Fits.skip {Γ:Cxt} {G:Hp} {Z:St} {v:Option V} (f:Fits Γ G Z):Fits (none :: Γ) G (v :: Z):=by
 refine⟨by rw [List.length_cons,List.length_cons,f.1],fun i T' h=>?_⟩
 cases i with
 | zero=>cases h
 | succ i=>exact f.2 i T' h
def Tp (w:View) (Γ:Cxt) (te:TE) (T:Ty):Prop:=∀ (Z:St) (H:Hp) (Q:VK),w.ok H->Fits Γ (w.v H) Z->(∀ v H',w.ok H'->Same (w.v H) (w.v H')->T.p (w.v H') v->Q v H')->te Z H Q
def Jp (k n:Nat):Ty:=⟨fun G v=>Th G k n v,fun s h=>h.same s⟩
def tyI (lo hi:Int):Ty:=⟨fun _ v=>∃ i,v=.int i/\lo<=i/\i<=hi,fun _ h=>h⟩
def zan (T:Ty) (lo hi:Nat):Ty:=⟨fun G v=>∃ a vs,v=.ref a/\G a=some (.lst vs)/\lo<=vs.length/\vs.length<=hi/\∀ u∈vs,T.p G u,fun s ⟨a,vs,h1,h2,h3,h4,h5⟩=>⟨a,vs,h1,s _ _ h2,h3,h4,fun u hu=>T.mo s (h5 u hu)⟩⟩
abbrev tyL (k n lo hi:Nat):Ty:=zan (Jp k n) lo hi
def zgL (v:V):Ty:=⟨fun _ u=>u=v,fun _ h=>h⟩
def TpA (w:View) (Γ:Cxt) (ta:TA) (k n m:Nat):Prop:=∀ (Z:St) (H:Hp) (Q:List V->Hp->Prop),w.ok H->Fits Γ (w.v H) Z->(∀ vs H',w.ok H'->Same (w.v H) (w.v H')->vs.length=m->(∀ u∈vs,Th (w.v H') k n u)->Q vs H')->ta Z H Q
def TpB (w:View) (Γ:Cxt) (ta:TA) (T:Ty) (m:Nat):Prop:=∀ (Z:St) (H:Hp) (Q:List V->Hp->Prop),w.ok H->Fits Γ (w.v H) Z->(∀ vs H',w.ok H'->Same (w.v H) (w.v H')->vs.length=m->(∀ u∈vs,T.p (w.v H') u)->Q vs H')->ta Z H Q
def TpO (w:View) (Γ:Cxt) (to:TO):Prop:=∀ (Z:St) (H:Hp) (Q:Option Int->Hp->Prop),w.ok H->Fits Γ (w.v H) Z->(∀ o H',w.ok H'->Same (w.v H) (w.v H')->Q o H')->to Z H Q
section
variable {w:View} {Γ:Cxt} {te ta tb:TE} {K:W.Frag} {k n m k' n' m' lo hi lo' hi':Nat} {i j i' j':Int}
theorem Tp.sub {T T':Ty} (h:Tp w Γ te T) (s:∀ G v,T.p G v->T'.p G v):Tp w Γ te T':=fun Z H Q o f q=>h Z H Q o f fun v H' o' s' t=>q v H' o' s' (s _ _ t)
theorem Tp.var {x:Nat} {T:Ty} (h:Γ[x]?=some (some T)):Tp w Γ (ze4 x) T:=fun Z H Q o f q=>let ⟨v,e,t⟩:=f.2 x T h;⟨v,e,q v H o (Same.refl _) t⟩
theorem Tp.non:Tp w Γ (tC .non) (Jp 0 0):=fun Z H Q o f q=>q _ H o (Same.refl _) Th.non
theorem Tp.bl {b:Bool}:Tp w Γ (tC (.bl b)) (Jp 0 0):=fun Z H Q o f q=>q _ H o (Same.refl _) Th.bl
theorem Tp.str {x:Str} (h:(x.cps.toList.all fun c=>decide (c<16^8))=true) (hn:x.cps.size<=100):Tp w Γ (tC (.str x)) (Jp 0 100):=fun Z H Q o f q=>q _ H o (Same.refl _) (Th.str h hn)
theorem Tp.int:Tp w Γ (tC (.int i)) (tyI i i):=fun Z H Q o f q=>q _ H o (Same.refl _) ⟨i,rfl,Int.le_refl _,Int.le_refl _⟩
theorem Tp.add (ha:Tp w Γ ta (tyI i j)) (hb:Tp w Γ tb (tyI i' j')):Tp w Γ (tOp (rI0 fun x y=>.int (x+y)) ta tb) (tyI (i+i') (j+j')):=fun Z H Q o f q=>ha Z H _ o f fun v H1 o1 s1 ⟨x,e1,a1,b1⟩=>hb Z H1 _ o1 (f.same s1) fun u H2 o2 s2 ⟨y,e2,a2,b2⟩=>⟨x,y,e1,e2,q _ H2 o2 (s1.trans s2) ⟨_,rfl,by omega,by omega⟩⟩
theorem Tp.neg (ha:Tp w Γ ta (tyI i j)):Tp w Γ (tUn (rU fun x=>.int (-x)) ta) (tyI (-j) (-i)):=fun Z H Q o f q=>ha Z H _ o f fun v H1 o1 s1 ⟨x,e1,a1,b1⟩=>⟨x,e1,q _ H1 o1 s1 ⟨_,rfl,by omega,by omega⟩⟩
theorem Tp.ofL (h:Tp w Γ te (tyL k n lo hi)):Tp w Γ te (Jp (k+1) ((n+1)*hi)):=h.sub fun G v ⟨a,vs,e,h1,_,h2,h3⟩=>by
 rw [e];exact Th.lst h1 h3 (Nat.mul_le_mul_left _ h2)
theorem Tp.le (h:Tp w Γ te (Jp k n)) (hk:k<=k') (hn:n<=n'):Tp w Γ te (Jp k' n'):=h.sub fun G v t=>t.le hk hn
theorem TpA.nil:TpA w Γ JS 0 0 0:=fun Z H Q o f q=>q [] H o (Same.refl _) rfl (by simp)
theorem TpA.cons {t:TA} (h:Tp w Γ te (Jp k n)) (ht:TpA w Γ t k' n' m):TpA w Γ (W8 te t) (max k k') (max n n') (m+1):=fun Z H Q o f q=>h Z H _ o f fun v H1 o1 s1 t1=>ht Z H1 _ o1 (f.same s1) fun vs H2 o2 s2 e2 t2=>q (v :: vs) H2 o2 (s1.trans s2) (by rw [List.length_cons,e2]) fun u hu=>by
 rcases List.mem_cons.mp hu with rfl | hu
 ·exact (t1.same s2).le (Nat.le_max_left _ _) (Nat.le_max_left _ _)
 ·exact (t2 u hu).le (Nat.le_max_right _ _) (Nat.le_max_right _ _)
theorem jB {x:Nat} (h:x<=10000):x<=sizeLine:=Nat.le_trans h (by decide)
theorem Tp.lst {t:TA} (h:TpA w Γ t k n m) (hm:m<=10000:=by decide):Tp w Γ (zft t) (tyL k n m m):=fun Z H Q o f q=>h Z H _ o f fun vs H1 o1 s1 e1 t1=>⟨jB (by rw [e1];exact hm),fun p hp=>by
 obtain⟨o2,s2,e2⟩:=w.new (.lst vs) o1 hp
 exact q (.ref p) _ o2 (s1.trans s2) ⟨p,vs,rfl,e2,Nat.le_of_eq e1.symm,Nat.le_of_eq e1,fun u hu=>(t1 u hu).same s2⟩⟩
theorem Tp.tup {t:TA} (h:TpA w Γ t k n m) (hm:m<=10000:=by decide):Tp w Γ (zgd t) (Jp (k+1) ((n+1)*m)):=fun Z H Q o f q=>h Z H _ o f fun vs H1 o1 s1 e1 t1=>⟨jB (by rw [e1];exact hm),fun p hp=>by
 obtain⟨o2,s2,e2⟩:=w.new (.tup vs) o1 hp
 exact q (.ref p) _ o2 (s1.trans s2) (Th.tup e2 (fun u hu=>(t1 u hu).same s2) (by rw [e1];exact Nat.le_refl _))⟩
theorem zey {xs:List V} {c:Nat} {x:V} (h:x∈(List.replicate c xs).flatten):x∈xs:=by
 obtain⟨l,hl,hx⟩:=List.mem_flatten.mp h
 rw [(List.mem_replicate.mp hl).2] at hx;exact hx
theorem Tp.rep {c c':Nat} (ha:Tp w Γ ta (tyL k n lo hi)) (hb:Tp w Γ tb (tyI c c')) (hm:hi*c'<=10000:=by decide) (hc:c'<=10000:=by decide):Tp w Γ (tOp zgq ta tb) (tyL k n (lo*c) (hi*c')):=fun Z H Q o f q=>ha Z H _ o f fun v H1 o1 s1 t1=>hb Z H1 _ o1 (f.same s1) fun u H2 o2 s2 ⟨y,e2,a2,b2⟩=>by
 obtain⟨a,vs,e1,g1,l1,m1,r1⟩:=(tyL k n lo hi).mo s2 t1
 have hy:y.toNat<=c':=by omega
 have hz:c<=y.toNat:=by omega
 refine⟨a,y,vs,e1,e2,w.out g1,by omega,by omega,jB (Nat.le_trans (Nat.mul_le_mul m1 hy) hm),fun p hp=>?_⟩
 obtain⟨o3,s3,e3⟩:=w.new (.lst (List.replicate y.toNat vs).flatten) o2 hp
 refine q (.ref p) _ o3 (s1.trans (s2.trans s3)) ⟨p,_,rfl,e3,by rw [len_rep,Nat.mul_comm lo];exact Nat.mul_le_mul hz l1,by rw [len_rep,Nat.mul_comm hi];exact Nat.mul_le_mul hy m1,fun x hx=>(r1 x (zey hx)).same s3⟩
theorem TpO.none:TpO w Γ zbO:=fun Z H Q o f q=>q _ H o (Same.refl _)
theorem TpO.some (h:Tp w Γ te (tyI i j)):TpO w Γ (zfb te):=fun Z H Q o f q=>h Z H _ o f fun v H1 o1 s1 ⟨x,e,_⟩=>⟨x,e,q _ H1 o1 s1⟩
theorem zal (vs:List V) (lo hi:Option Int):(∀ v∈uR vs lo hi,v∈vs)/\(uR vs lo hi).length<=vs.length:=by
 unfold uR
 refine⟨fun v hv=>List.mem_of_mem_drop (List.mem_of_mem_take hv),?_⟩
 rw [List.length_take,List.length_drop]
 omega
theorem Tp.sl {tl tu:TO} {T:Ty} (h:Tp w Γ te (zan T lo hi)) (hl:TpO w Γ tl) (hu:TpO w Γ tu):Tp w Γ (tSl (zfY K) te tl tu) (zan T 0 hi):=fun Z H Q o f q=>h Z H _ o f fun v H1 o1 s1 t1=>hl Z H1 _ o1 (f.same s1) fun x H2 o2 s2=>hu Z H2 _ o2 ((f.same s1).same s2) fun y H3 o3 s3=>by
 obtain⟨a,vs,e1,g1,l1,m1,r1⟩:=(zan T lo hi).mo (s2.trans s3) t1
 refine⟨a,vs,e1,SqL.of (w.out g1),fun p hp=>?_⟩
 obtain⟨o4,s4,e4⟩:=w.new (.lst (uR vs x y)) o3 hp
 exact q (.ref p) _ o4 (s1.trans (s2.trans (s3.trans s4))) ⟨p,_,rfl,e4,Nat.zero_le _,Nat.le_trans (zal vs x y).2 m1,fun u hu=>T.mo s4 (r1 u ((zal vs x y).1 u hu))⟩
theorem Tp.len {T:Ty} (h:Tp w Γ te (zan T lo hi)):Tp w Γ (tCB (fun xs H Q=>∃ p ys,xs=[.ref p]/\(SqL K H p ys\/SqT K H p ys)/\Q (.int ys.length) H) (W8 te JS)) (tyI lo hi):=fun Z H Q o f q=>h Z H _ o f fun v H1 o1 s1 ⟨a,vs,e1,g1,l1,m1,r1⟩=>⟨a,vs,by rw [e1],.inl (SqL.of (w.out g1)),q _ H1 o1 s1 ⟨_,rfl,by omega,by omega⟩⟩
theorem TpB.nil {T:Ty}:TpB w Γ JS T 0:=fun Z H Q o f q=>q [] H o (Same.refl _) rfl (by simp)
theorem TpB.cons {T:Ty} {t:TA} (h:Tp w Γ te T) (ht:TpB w Γ t T m):TpB w Γ (W8 te t) T (m+1):=fun Z H Q o f q=>h Z H _ o f fun v H1 o1 s1 t1=>ht Z H1 _ o1 (f.same s1) fun vs H2 o2 s2 e2 t2=>q (v :: vs) H2 o2 (s1.trans s2) (by rw [List.length_cons,e2]) fun u hu=>by
 rcases List.mem_cons.mp hu with rfl | hu
 ·exact T.mo s2 t1
 ·exact t2 u hu
end
def TpS (w:View) (Γ:Cxt) (ts:TS) (Γ':Cxt) (T:Ty):Prop:=∀ (D:Ends) (Z:St) (H:Hp),w.ok H->Fits Γ (w.v H) Z->(∀ σ' H',w.ok H'->Same (w.v H) (w.v H')->Fits Γ' (w.v H') σ'->D.nx σ' H')->(∀ v H',w.ok H'->Same (w.v H) (w.v H')->T.p (w.v H') v->D.rt v H')->ts D Z H
section
variable {w:View} {Γ Γ1 Γ2:Cxt} {te:TE} {t u:TS} {T T1:Ty}
theorem TpS.seq (h1:TpS w Γ t Γ1 T) (h2:TpS w Γ1 u Γ2 T):TpS w Γ (Ja t u) Γ2 T:=fun D Z H o f qn qr=>h1 _ Z H o f (fun σ1 H1 o1 s1 f1=>h2 D σ1 H1 o1 f1 (fun σ2 H2 o2 s2 f2=>qn σ2 H2 o2 (s1.trans s2) f2) (fun v H2 o2 s2 r2=>qr v H2 o2 (s1.trans s2) r2)) qr
theorem TpS.weak {Γ':Cxt} (f:∀ G Z,Fits Γ G Z->Fits Γ' G Z) (h:TpS w Γ' t Γ2 T):TpS w Γ t Γ2 T:=fun D Z H o g qn qr=>h D Z H o (f _ _ g) qn qr
theorem TpS.sub {T':Ty} (h:TpS w Γ t Γ2 T) (s:∀ G v,T.p G v->T'.p G v):TpS w Γ t Γ2 T':=fun D Z H o g qn qr=>h D Z H o g qn fun v H1 o1 s1 t1=>qr v H1 o1 s1 (s _ _ t1)
theorem TpS.ret (h:Tp w Γ te T):TpS w Γ (zgy te) Γ2 T:=fun D Z H o f qn qr=>h Z H _ o f qr
end
theorem TpS.go {w:View} {Γ Γ':Cxt} {ts:TS} {T:Ty} {D:Ends} {Z:St} {H:Hp} (h:TpS w Γ ts Γ' T) (o:w.ok H) (f:Fits Γ (w.v H) Z) (qn:∀ σ' H',w.ok H'->Same (w.v H) (w.v H')->Fits Γ' (w.v H') σ'->D.nx σ' H') (qr:∀ v H',w.ok H'->Same (w.v H) (w.v H')->T.p (w.v H') v->D.rt v H'):ts D Z H:=h D Z H o f qn qr
theorem Tp.asg2 {w:View} {Γ:Cxt} {te:TE} {T1:Ty} {u:TS} {i:Nat} {D:Ends} {Z:St} {H:Hp} (h:Tp w Γ te T1) (o:w.ok H) (f:Fits Γ (w.v H) Z) (q:∀ v H',w.ok H'->Same (w.v H) (w.v H')->T1.p (w.v H') v->u D (Z.set i (some v)) H'):Ja (zdt te (Uc i)) u D Z H:=h Z H _ o f q
theorem Fits.any:∀ {G:Hp} (Z:St),Fits (Z.map fun _=>none) G Z:=fun {G} Z=>⟨by rw [List.length_map],fun i T h=>by rw [List.getElem?_map] at h;cases e:Z[i]? with | none=>rw [e] at h;cases h | some x=>rw [e] at h;cases h⟩
def zgK:Ty:=⟨fun _ _=>False,fun _ h=>h⟩
theorem Fits.no {G:Hp} {Z:St} (f:Fits [some zgK] G Z):False:=let ⟨_,_,h⟩:=f.2 0 zgK rfl;h
def Za (vs:List V):Ty:=⟨fun G v=>∃ a,v=.ref a/\G a=some (.lst vs),fun s ⟨a,e,h⟩=>⟨a,e,s _ _ h⟩⟩
def tyX (e C:Addr):Ty:=⟨fun G v=>v=.ref e/\G e=some (Vg e C),fun s h=>⟨h.1,s _ _ h.2⟩⟩
def idV:View:=⟨id,fun _=>True,fun h=>h,fun o _ h=>⟨trivial,zq h,zj⟩⟩
def TpE (w:View) (Γ:Cxt) (ta:TA) (vs:List V):Prop:=∀ (Z:St) (H:Hp) (Q:List V->Hp->Prop),w.ok H->Fits Γ (w.v H) Z->(∀ H',w.ok H'->Same (w.v H) (w.v H')->Q vs H')->ta Z H Q
section
variable {w:View} {Γ:Cxt} {te ta tb:TE} {K:W.Frag} {vs us:List V}
theorem TpE.nil:TpE w Γ JS []:=fun Z H Q o f q=>q H o (Same.refl _)
theorem TpE.cons {t:TA} {v:V} (h:Tp w Γ te (zgL v)) (ht:TpE w Γ t vs):TpE w Γ (W8 te t) (v :: vs):=fun Z H Q o f q=>h Z H _ o f fun u H1 o1 s1 e1=>ht Z H1 _ o1 (f.same s1) fun H2 o2 s2=>by
 rw [show u=v from e1];exact q H2 o2 (s1.trans s2)
theorem Tp.lstE {t:TA} (h:TpE w Γ t vs) (hm:vs.length<=10000:=by first | decide | simp):Tp w Γ (zft t) (Za vs):=fun Z H Q o f q=>h Z H _ o f fun H1 o1 s1=>⟨jB hm,fun p hp=>by
 obtain⟨o2,s2,e2⟩:=w.new (.lst vs) o1 hp
 exact q (.ref p) _ o2 (s1.trans s2) ⟨p,rfl,e2⟩⟩
theorem Tp.catE (ha:Tp w Γ ta (Za vs)) (hb:Tp w Γ tb (Za us)) (hm:vs.length+us.length<=10000:=by first | decide | simp):Tp w Γ (tOp zf7 ta tb) (Za (vs++us)):=fun Z H Q o f q=>ha Z H _ o f fun v H1 o1 s1 t1=>hb Z H1 _ o1 (f.same s1) fun u H2 o2 s2 t2=>by
 obtain⟨a,e1,g1⟩:=(Za vs).mo s2 t1
 obtain⟨b,e2,g2⟩:=t2
 refine⟨a,b,vs,us,e1,e2,w.out g1,w.out g2,jB hm,fun p hp=>?_⟩
 obtain⟨o3,s3,e3⟩:=w.new (.lst (vs++us)) o2 hp
 exact q (.ref p) _ o3 (s1.trans (s2.trans s3)) ⟨p,rfl,e3⟩
theorem Tp.isiC {x:Nat} {e C N:Addr} {b:Bool} (hx:Γ[x]?=some (some (tyX e C))) (i:Jv K C) (k:W.kitOne K (.ref C) (.ref N)=some b):Tp w Γ (tCB (zcS K) (W8 (ze4 x) (W8 (tC (.ref N)) JS))) (zgL (.bl b)):=fun Z H Q o f q=>by
 obtain⟨v,ev,rfl,he⟩:=f.2 x _ hx
 exact⟨_,ev,e,C,_,_,_,rfl,rfl,(fun _ h=>h),w.out he,i,k,q _ H o (Same.refl _) rfl⟩
end
end L2
namespace PySem.W.Fast
def tw15476378160877116908:=0
def tw5131784321823999894:=0
def tw514072419400666109:=0
def tw9045898593554747775:=0
def tw6284847085230928435:=0
def tw9471104685258239721:=0
def tw7475194008694170828:=0
def tw8053585807911575747:=0
def tw3242406489293484323:=0
def tw16201930163531301786:=0
def tw12575221868228189650:=0
def tw8043224085554694287:=0
def tw1786381634215213912:=0
def tw14288781474095075543:=0
def tw13301813622275839419:=0
def tw9774637238478741962:=0
def tw5126363527918112709:=0
def tw2668160774489477325:=0
def tw18169237363634713079:=0
def tw15116678866601658258:=0
def tw7839564926324544921:=0
def tw7216589618486897523:=0
def tw1895633618933757251:=0
def tw8463241767166815716:=0
def tw5547935388578007968:=0
def tw9818174533457463402:=0
def tw4755884874986215649:=0
def tw14483823368006937023:=0
def tw6928041085000149444:=0
def tw17748197040460074687:=0
def tw10100425350670185372:=0
def tw326157829901233361:=0
def tw6782809871916204793:=0
def tw7184807846684140269:=0
def tw13089505098078596652:=0
def tw10181125526193854006:=0
def tw4580602475214232289:=0
def tw10086453177333568788:=0
def tw6766713147747633271:=0
def tw14978017859059233420:=0
def tw1757875404666165172:=0
def tw4431791591392284250:=0
def tw16559312541643017545:=0
def tw8945434764390295188:=0
def tw50443097120706658:=0
def tw5292857766002107839:=0
def tw6671025092056848552:=0
def tw3388642479597435994:=0
def tw10217140806168006514:=0
def tw10786909267961635722:=0
def tw11752824041793488138:=0
def tw1404581584538797181:=0
def tw5289983013703058576:=0
def tw13927552072449169786:=0
def tw9935506786293878804:=0
def tw15983308193914740561:=0
def tw17129415076924436100:=0
def tw10019652765607150513:=0
def tw5152586833104085641:=0
def tw5061348939711218266:=0
def tw11454284961665341005:=0
def tw4918864824634372222:=0
def tw1822403869451567755:=0
def tw5637007470665461457:=0
def tw12107702610168133307:=0
def tw16385458501381937174:=0
def tw641997003518495706:=0
def tw5657380937194677340:=0
def tw18277534796444325466:=0
def tw13060483511372069570:=0
def tw18081743062470127683:=0
def tw5963513544239166964:=0
def tw14641622809427390708:=0
def tw7541347485965840428:=0
def tw18187235586483836852:=0
def tw9530131660488515678:=0
def tw11088035796572352921:=0
def tw15546885450234245940:=0
def tw2070308029272719653:=0
def tw9716033248203714469:=0
def tw6407447124674537516:=0
def tw1875444283355306495:=0
def tw10864908453390316615:=0
def tw12193050865295516876:=0
def tw7289439614303414495:=0
def tw4059727915621608666:=0
def tw12192457078556126480:=0
def tw7629538022951598723:=0
def tw6204169487748381232:=0
def tw9126940898013502951:=0
def tw1202672616310944456:=0
def tw3936079033141376160:=0
def tw3368564441568978877:=0
def tw5797877605497738105:=0
def tw1686414299100726978:=0
def tw10621485989385405409:=0
def tw770163303042210917:=0
def tw5244755835758711285:=0
def tw5250388195511064612:=0
def tw13380862865134571265:=0
def tw5493912610741227119:=0
def tw13029243782362636504:=0
def tw1595441152440979265:=0
def tw11753157393174800797:=0
def tw11997738722567094838:=0
def tw17328068936811820515:=0
def tw4118531797976253657:=0
def tw10446841253725795356:=0
def tw10959398183468562540:=0
def tw2878004983894372946:=0
def tw6520554214927814872:=0
def tw11444888508934579279:=0
def tw2697943454112323093:=0
def tw13832409144922699009:=0
def tw2730762566929266205:=0
def tw17737163379811290648:=0
def tw1006078569997426025:=0
def tw4003411373429120587:=0
def tw4568512446118373246:=0
def tw4019987400919644737:=0
def tw12896210436116976441:=0
def tw8687445131890453065:=0
def tw13780533511765761705:=0
def tw15411440352044173442:=0
def tw5668490611367420231:=0
def tw4256424521415490325:=0
def tw18278779477688589540:=0
def tw423979458955091583:=0
def tw9172354529208451195:=0
def tw10947374320473577866:=0
def tw16119481280043435589:=0
def tw11720161416214746869:=0
def tw12213813375523544275:=0
def tw16219553519677821716:=0
def tw6634645528251878998:=0
def tw15498969065975939254:=0
def tw8381788884009980686:=0
def tw17461039486638273538:=0
def tw3635023162269476087:=0
def tw11923442863228738997:=0
def tw9575285934490939580:=0
def tw18278416275660727049:=0
def tw17339102287765401257:=0
def tw7377176839718512428:=0
def tw10838926178513758515:=0
def tw6513139347662444738:=0
def tw15875088582335359069:=0
def tw972950574207601703:=0
def tw4193875583552931718:=0
def tw7028277922022188676:=0
def tw12822987397415995597:=0
def tw8958843530575415883:=0
def tw14270773232802214009:=0
def tw3288472325622037126:=0
def tw9887059578146623177:=0
def tw12171216257644611400:=0
def tw16163618029757645949:=0
def tw6519271158090580357:=0
def tw6519673452077389396:=0
def tw10531519838034672453:=0
def tw14212535448966612811:=0
def tw4395571412680440483:=0
def tw8196845516916801934:=0
def tw15885099103392622835:=0
def tw15181037401649719136:=0
def tw6210085729184611808:=0
def tw719399153471001248:=0
def tw10530241011612967034:=0
def tw3588886924379757007:=0
def tw1740078282448649894:=0
def tw922849027481923412:=0
def tw7595019837880846276:=0
def tw6667560905311856788:=0
def tw13055724744697706643:=0
def tw5389020549634396603:=0
def tw18246583113026113145:=0
def tw14474443590069144614:=0
def tw7189610103298338045:=0
def tw8293161801206516827:=0
def tw9804609661646047861:=0
def tw4074186348249633868:=0
def tw2537838965295084199:=0
def tw13963898698664648368:=0
def tw15255686827166797027:=0
def tw13859948947916196949:=0
def tw12629057365823394842:=0
def tw15558343411573786452:=0
def tw9269805505390603631:=0
def tw12790934597129710622:=0
def tw17054920416667292666:=0
def tw11604432856781201560:=0
def tw3910394834267116101:=0
def tw14585296129606247542:=0
def tw4913468416102758138:=0
def tw9700980125043246061:=0
def tw9123399650250637635:=0
def tw10002919567245761806:=0
def tw2557357889800267915:=0
def tw4161097118161310178:=0
def tw17091960028348681907:=0
def tw4250393709214436779:=0
def tw51211841364530122:=0
def tw6142229136776650031:=0
def tw1610093899010195680:=0
def tw2132365104977556892:=0
def tw17902884275450777297:=0
def tw3245446915522708372:=0
def tw17011417397158660667:=0
def tw16390697357318149806:=0
def tw11750626955373586752:=0
def tw3779475679301287326:=0
def tw9096647629936452122:=0
def tw199313758114210674:=0
def tw377918225389242516:=0
def tw10466479882795642939:=0
def tw7719389997587983755:=0
def tw11246732932595927450:=0
def tw8025566326026203577:=0
def tw10755048589412537751:=0
def tw7870710934821461350:=0
def tw7589481915988668886:=0
def tw5162218673929634772:=0
def tw1338441776044746055:=0
def tw6969373226544958918:=0
def tw10263891030417237146:=0
def tw16572260435405407053:=0
def tw16328410539931318237:=0
def tw1410745673745106772:=0
def tw9828490407081733619:=0
def tw7157441817271945623:=0
def tw1476899310170061267:=0
def tw10181992156666034650:=0
def tw16137875811568914688:=0
def tw2548549006590838577:=0
def tw577006142307031412:=0
def tw1051672175079534581:=0
def tw15347855527162909398:=0
def tw10561682233740237216:=0
def tw12197240186955805371:=0
def tw12218054194675840394:=0
def tw12289234328850224170:=0
def tw18101620407184994623:=0
def tw5047899481513030054:=0
def tw11587065155287797500:=0
def tw1421989322684428418:=0
def tw4248046364243370313:=0
def tw6402100950202866520:=0
def tw4762530987157410479:=0
def tw12785252660133883750:=0
def tw407001754570163855:=0
def tw16785699734253550325:=0
def tw1293776601844098476:=0
def tw7032465702482115888:=0
def tw11994897284709157979:=0
def tw5214026623959953215:=0
def tw17175436517297575772:=0
def tw3150522593765974057:=0
def tw6530098948676573810:=0
def tw3644685892476339872:=0
def tw7595292859601054915:=0
def tw18103601891979448962:=0
def tw2705435738444608794:=0
def tw5629331878105429580:=0
def tw7605157926912579706:=0
def tw17801023180741606601:=0
def tw10975909825889262879:=0
def tw9800888279637813014:=0
def tw18030453315891728617:=0
def tw3572129126735744773:=0
def tw17797030247179862782:=0
def tw6879383211508779083:=0
def tw16912423947067762197:=0
def tw2248733101070520572:=0
def tw8642584588236350341:=0
def tw17571445872151080762:=0
def tw3483481809873836958:=0
def tw1793548649615918063:=0
def tw15955176464673541560:=0
def tw7966980568760855424:=0
def tw8443354739364248515:=0
def tw9064595232794030368:=0
def tw6485551387747259193:=0
def tw15024323739299489930:=0
def tw8601607798989141800:=0
def tw13430159421817516279:=0
def tw8489634598945007287:=0
def tw17803018152706962081:=0
def tw8685713592342521857:=0
def tw5922527241630799915:=0
def tw11368537444461355089:=0
def tw15701291386042925050:=0
def tw2185904930236176195:=0
def tw12278048864584941211:=0
def tw18091505183866894198:=0
def tw16686321381741134850:=0
def tw18021890674925218708:=0
def tw16477072728050748753:=0
def tw16463628542486414362:=0
def tw3835468314652280167:=0
def tw12818982822078611033:=0
def tw6412324156804939610:=0
def tw17083836681012400315:=0
def tw643774534476337698:=0
def tw11619417485394092260:=0
def tw3318622910867346592:=0
def tw15077724419702507205:=0
def tw5621564662632382873:=0
def tw11999154683043775776:=0
def tw2597571394418388462:=0
def tw1210965114105926239:=0
def tw5852877402794688259:=0
def tw2057860421863000958:=0
def tw17710576386145948681:=0
def tw10163579664311037748:=0
def tw2284736830358858758:=0
def tw6205632521068455402:=0
def tw355081842133864371:=0
def tw1691639492255178567:=0
def tw10928705121573302206:=0
def tw10491662435636347126:=0
def tw5105907413260518772:=0
def tw9813987781748442620:=0
def tw1254142319078940951:=0
def tw1980703169059985394:=0
def tw16060148559747756886:=0
def tw14438996762798026897:=0
def tw8928420393315154602:=0
def tw14434756498384735187:=0
def tw14323150194315931603:=0
def tw5106210236702125767:=0
def tw16409443562159840484:=0
def tw483270934653375024:=0
def tw10686667268733981544:=0
def tw18113823442043026972:=0
def tw17673238481867049352:=0
def tw7892293513718199277:=0
def tw10311784458848517768:=0
def tw15573124921029203086:=0
def tw4899279946869826540:=0
def tw6662820876248517221:=0
def tw17113912114202891560:=0
def tw3835563003621752322:=0
def tw8769341017949129096:=0
def tw13967355007569564133:=0
def tw18354627561921170841:=0
def tw9732139677539461126:=0
def tw6290006560337036698:=0
def tw17048647426447223174:=0
def tw5142774800625382231:=0
def tw17210014108303029947:=0
def tw16456705159420174002:=0
def tw16560302114266349515:=0
def tw831259909796865170:=0
def tw11858272786722589559:=0
def tw2686728144634744321:=0
def tw12485233611619422948:=0
def tw17867372828569412669:=0
def tw220667248888309676:=0
def tw3040490957097813957:=0
def tw10831658251075567181:=0
def tw4472569824119745635:=0
def tw10872929977674095244:=0
def tw1516012997082294447:=0
def tw17830007756757655979:=0
def tw15102232056897401755:=0
def tw11532644851319164108:=0
def tw3795190738096686486:=0
def tw7340230078402735892:=0
def tw10306216651576838455:=0
def tw13405094236574202051:=0
def tw16632616245184777936:=0
def tw10691125743048002722:=0
def tw8752309537444317052:=0
def tw6587040745278015679:=0
def tw16307775904910038009:=0
def tw1999625359064816444:=0
def tw15956503385966173667:=0
def tw7592651337387985156:=0
def tw6190063142849680725:=0
def tw8561882407055759146:=0
def tw17875289848900067145:=0
def tw4604275673833759940:=0
def tw3286467158308974269:=0
def tw929088966491864312:=0
def tw314909217856770778:=0
def tw12570376109277998683:=0
def tw7253682318003898166:=0
def tw7819742154052122715:=0
def tw4011607698230948411:=0
def tw5917776242527672895:=0
def tw15575312906641016350:=0
def tw11487503797666912441:=0
def tw14821467428537105115:=0
def tw3898807177130704301:=0
def tw10248462298430522358:=0
def tw2890317649967132953:=0
def tw14027701196573126229:=0
def tw16978872838555902301:=0
def tw17889347613282417378:=0
def tw10152470494447435544:=0
def tw989541407543543118:=0
def tw14520004535407529889:=0
def tw1938771760579306573:=0
def tw1172071496242441386:=0
def tw15646867865108252805:=0
def tw7248382742358069449:=0
def tw6721649724229565082:=0
def tw12816616723142569425:=0
def tw6032643725769551639:=0
def tw3410251608091633460:=0
def tw16596198005052209696:=0
def tw17256016533386238668:=0
def tw17962793980433451155:=0
def tw14414718858206082268:=0
def tw25284774324335602:=0
def tw3327309129935738545:=0
def tw18375583841151028576:=0
def tw8147732026571563583:=0
def tw2831445983383709134:=0
def tw13491429912837753198:=0
def tw1924686823682011996:=0
def tw14276061852838828324:=0
def tw8368134458160835508:=0
def tw15578890807250385932:=0
def tw2518400912266149891:=0
def tw15672827539242137921:=0
def tw4123309388239440948:=0
def tw16135282712508593574:=0
def tw852890239094007881:=0
def tw6294967703102163948:=0
def tw7898656272575222168:=0
def tw4490267345053009217:=0
def tw147417190066216011:=0
def tw9911046334451114551:=0
def tw4087244699682794010:=0
def tw14155918415553053699:=0
def tw3951640340372536271:=0
def tw12802127385472781143:=0
def tw13900634861049375821:=0
def tw5152209003422788951:=0
def tw12600771703043596062:=0
def tw17927933232702874031:=0
def tw17816570138554770581:=0
def tw6951419893992365915:=0
def tw2317259423426115518:=0
def tw1702380488777469240:=0
def tw17617586854942049988:=0
def tw11820124574658030418:=0
def tw4122602340740278191:=0
def tw8962608781825551466:=0
def tw804706847369104889:=0
def tw14808026464037743755:=0
def tw4226152106175995886:=0
def tw3749099552763135443:=0
def tw6068941224719521290:=0
def tw16491091483351073470:=0
def tw8958934086249279369:=0
def tw15902163941393938917:=0
def tw6280128678738902510:=0
def tw7700612396911567065:=0
def tw2490671445979550431:=0
def tw4349774405680264832:=0
def tw6743233667449182293:=0
def tw14083347664562020028:=0
def tw10981116552028321108:=0
def tw614290869259986245:=0
def tw7312924147293929801:=0
def tw12439376359369366848:=0
def tw11679853180999497075:=0
def tw17029880279600452043:=0
def tw15408550947504974113:=0
def tw3301725756898355126:=0
def tw16047208326343354961:=0
def tw11940984622762704778:=0
def tw10993873355677123459:=0
def tw17396973087039320204:=0
def tw7702406975124514704:=0
def tw7274472465310071639:=0
def tw18065089636492678455:=0
def tw5387459311811507336:=0
def tw11046989256972433551:=0
def tw3531332808072785369:=0
def tw10768170367793732786:=0
def tw16639809835545347042:=0
def tw15554887082619697429:=0
def tw1948652610600054653:=0
def tw8343704916519954181:=0
def tw16924681153498625821:=0
def tw11952428817498490647:=0
def tw9955287920662062073:=0
def tw11413990561887458601:=0
def tw18365263703390879401:=0
def tw43732211331691311:=0
def tw16112567683750898950:=0
def tw3489524590458992096:=0
def tw11676071283896815437:=0
def tw14827167002598109586:=0
def tw14943647556764492909:=0
def tw12076403066932218059:=0
def tw2551790519440612430:=0
def tw6641787371942862508:=0
def tw8006388962542416704:=0
def tw15289191224611571068:=0
def tw8694152996968486397:=0
def tw12477751278434173039:=0
def tw7583242058320321301:=0
def tw15234124464214701707:=0
def tw17275346411290843871:=0
def tw1460417554793276475:=0
def tw3199665608447366287:=0
def tw9586803019346042517:=0
def tw10235541216141375788:=0
def tw1166905687584747882:=0
def tw1296970941383672328:=0
def tw2416769549557800200:=0
def tw14251568734156865457:=0
def tw172636247153268841:=0
def tw9724585444456224316:=0
def tw10029497039485807013:=0
def tw3483477157854604812:=0
def tw1559840038997925106:=0
def tw14419145970762981024:=0
def tw10388716849044156319:=0
def tw13111461407802525191:=0
def tw17634182751032951836:=0
def tw6104234205501498946:=0
def tw17534158966353833974:=0
def tw14962348574763500872:=0
def tw5042447188383759596:=0
def tw5348807288794575375:=0
def tw988853695816724061:=0
def tw14584155815795244717:=0
def tw83561568981788810:=0
def tw14254222896060513393:=0
def tw7255502579705371032:=0
def tw16229286700748766526:=0
def tw5354069800772087497:=0
def tw7905126125807342844:=0
def tw9294133753022804370:=0
def tw1292229836198589597:=0
def tw5013287207344310294:=0
def tw269744073698634923:=0
def tw10986260498958856030:=0
def tw2301416070227301781:=0
def tw5786641628474252294:=0
def tw7941309780806987003:=0
def tw17618167265657181703:=0
def tw7139168171904269033:=0
def tw5974583564297492135:=0
def tw8563392957783929217:=0
def tw14457299353542839695:=0
end PySem.W.Fast
namespace Lw
open PySem L2 PyProof.Rows
def top (i:Nat):Stmt:=PySem.Challenge.pw_lackstretch_k13_good_ones_by_place.main.body.getD i (.Pass ⟨0,0,0,0⟩)
abbrev ur:Stmt:=top 20
abbrev qt:Stmt:=top 21
abbrev Zq:Stmt:=top 22
abbrev jG:Stmt:=top 23
abbrev wV:Stmt:=top 24
abbrev uf:Stmt:=top 25
abbrev qU:Stmt:=top 26
abbrev qm:Stmt:=top 27
abbrev vY:Stmt:=top 28
abbrev YM:Stmt:=top 29
abbrev uN:Stmt:=top 30
abbrev vh:Stmt:=top 31
abbrev xP:Stmt:=top 32
abbrev wO:Stmt:=top 33
abbrev wC:Stmt:=top 34
abbrev vL:Stmt:=top 35
abbrev jP:Stmt:=top 36
abbrev YK:Stmt:=top 37
abbrev uO:Stmt:=top 39
abbrev ug:Stmt:=top 40
abbrev yj:Stmt:=top 41
abbrev uV:Stmt:=top 44
abbrev uF:Stmt:=top 45
abbrev qG:Stmt:=top 46
abbrev tR:Stmt:=inClass (top 47) 0
abbrev wU:Stmt:=inClass (top 47) 1
abbrev yV:Stmt:=inClass (top 47) 2
abbrev yK:Stmt:=inClass (top 47) 3
abbrev xn:Stmt:=inClass (top 47) 4
abbrev yW:Stmt:=inClass (top 47) 5
abbrev w5:Stmt:=inClass (top 47) 6
abbrev xO:Stmt:=inClass (top 47) 7
abbrev xZ:Stmt:=inClass (top 47) 8
abbrev ud:Stmt:=top 49
abbrev YG:Stmt:=top 50
abbrev Zm:Stmt:=top 51
abbrev Z0:Stmt:=top 52
abbrev jW:Stmt:=top 53
abbrev jb:Stmt:=top 55
abbrev qx:Stmt:=top 56
abbrev qF:Stmt:=top 57
abbrev qI:Stmt:=top 58
abbrev vX:Stmt:=top 62
abbrev yg:Stmt:=top 63
abbrev uE:Stmt:=top 64
abbrev xj:Stmt:=top 65
abbrev xQ:Stmt:=top 66
abbrev jD:Stmt:=top 67
abbrev qH:Stmt:=top 68
abbrev tG:Stmt:=top 69
abbrev uI:Stmt:=top 70
abbrev wZ:Stmt:=top 71
abbrev VP:Stmt:=top 72
section
variable {P:Program} {w:World} {K:W.Frag} {mg:Str->Option Value} {base:Heap}
def qp:Sp:=fun vs H Q _=>∃ i:Int,vs=[.int i]/\Q (.bl true) H
theorem zaz:zE ["thing"] ["thing"] (zu ur):=⟨rfl,rfl,rfl,by decide +kernel,rfl,by decide +kernel,by decide +kernel⟩
theorem jL {f:Addr} {fd:FuncData} (D:Df K mg "is_whole" ur ["thing"] f fd) (T:Blt mg):FnOk P w K mg base CX0 1 f fd ["thing"] qp:=by
 refine D.fn.ok zaz (fun vs H Q E h=>?_) (fun cdv A outer s H vs Q E hr h=>?_)
 ·obtain⟨i,rfl,_⟩:=h;rfl
 ·obtain⟨i,rfl,q⟩:=h
  refine⟨_,(zr (zH (qM (zz V8 (by rfl) T.n_isinstance boot_isinstance (zf (pv 0) (zf (jR (v:=.ty "int") rfl T.n_int boot_int rfl) zg))) (qR (zbh (zz V8 (by rfl) T.n_isinstance boot_isinstance (zf (pv 0) (zf (jR (v:=.ty "bool") rfl T.n_bool boot_bool rfl) zg)))))))),?_⟩
  refine⟨_,rfl,_,_,_,_,rfl,.int i,WT,_,rfl,ww ?_⟩
  refine⟨_,rfl,_,_,_,_,rfl,.int i,Wf,_,rfl,?_⟩
  exact q
def ZL:Sp:=fun vs H Q _=>∃ i:Int,vs=[.int i]/\Q (.bl (decide (2<=i/\i<=16))) H
theorem zaU:zE ["thing"] ["thing"] (zu Zq):=⟨rfl,rfl,rfl,by decide +kernel,rfl,by decide +kernel,by decide +kernel⟩
theorem zbc {f f1:Addr} {fd fd1:FuncData} {t1 t2:Tok} (D:Df K mg "is_base" Zq ["thing"] f fd) (yD:Df K mg "is_whole" ur ["thing"] f1 fd1) (T:Blt mg) (Yb:mg "LEAST_BASE" = some (.int 2 t1)) (qQ:mg "GREATEST_BASE" = some (.int 16 t2)) :
  FnOk P w K mg base CX0 2 f fd ["thing"] ZL:=by
 have ji:FnOk P w K mg base CX0 1 f1 fd1 ["thing"] qp:=jL yD T
 refine D.fn.ok zaU (fun vs H Q E h=>?_) (fun cdv A outer s H vs Q E hr h=>?_)
 ·obtain⟨i,rfl,_⟩:=h;rfl
 ·obtain⟨i,rfl,q⟩:=h
  refine⟨_,(zr (zH (qM (zJ yD ji (hr.mono (by decide)) (zf (pv 0) zg)) (qR (Ud XR XR (xF (v:=.int 2) rfl Yb ⟨_,rfl⟩) (pv 0) (xF (v:=.int 16) rfl qQ ⟨_,rfl⟩)))))),?_⟩
  refine⟨_,rfl,i,rfl,_,rfl,ww ?_⟩
  refine⟨_,rfl,_,_,rfl,rfl,_,rfl,?_⟩
  refine UW (fun h1=>?_) (fun h1=>?_)
  ·have h1':(2:Int)<=i:=of_decide_eq_true h1
   refine⟨_,_,rfl,rfl,?_⟩
   rw [show decide (2<=i/\i<=16)=decide (i<=16) by simp [h1']] at q
   exact q
  ·have h1':¬ (2:Int)<=i:=fun z=>h1 (decide_eq_true z)
   rw [show decide (2<=i/\i<=16)=false by simp [h1']] at q
   exact q
def qg:Sp:=fun vs H Q _=>∃ i:Int,vs=[.int i]/\2<=i/\i<=16/\Q .non H
theorem Qg:zE ["thing"] ["thing"] (zu uN):=⟨rfl,rfl,rfl,by decide +kernel,rfl,by decide +kernel,by decide +kernel⟩
theorem U6 {f f1:Addr} {fd fd1:FuncData} (D:Df K mg "check_base" uN ["thing"] f fd) (jr:Df K mg "is_base" Zq ["thing"] f1 fd1) (Zk:FnOk P w K mg base CX0 2 f1 fd1 ["thing"] ZL) :
  FnOk P w K mg base CX0 3 f fd ["thing"] qg:=by
 refine D.fn.ok Qg (fun vs H Q E h=>?_) (fun cdv A outer s H vs Q E hr h=>?_)
 ·obtain⟨i,rfl,_⟩:=h;rfl
 ·obtain⟨i,rfl,h1,h2,q⟩:=h
  refine⟨_,(zr (yH (uX (wY (zJ jr Zk (hr.mono (by decide)) (zf (pv 0) zg))))
    (zr Yi)
    zO)),?_⟩
  refine⟨_,rfl,i,rfl,_,rfl,?_⟩
  rw [decide_eq_true (show 2<=i/\i<=16 from ⟨h1,h2⟩)]
  exact yZ q
def qZ:Sp:=fun vs H Q _=>∃ i:Int,vs=[.int i]/\Q (.bl (decide (0<=i))) H
theorem JP:zE ["thing"] ["thing"] (zu qt):=⟨rfl,rfl,rfl,by decide +kernel,rfl,by decide +kernel,by decide +kernel⟩
theorem XQ {f f1:Addr} {fd fd1:FuncData} (D:Df K mg "is_number" qt ["thing"] f fd) (yD:Df K mg "is_whole" ur ["thing"] f1 fd1) (T:Blt mg) :
  FnOk P w K mg base CX0 2 f fd ["thing"] qZ:=by
 have ji:FnOk P w K mg base CX0 1 f1 fd1 ["thing"] qp:=jL yD T
 refine D.fn.ok JP (fun vs H Q E h=>?_) (fun cdv A outer s H vs Q E hr h=>?_)
 ·obtain⟨i,rfl,_⟩:=h;rfl
 ·obtain⟨i,rfl,q⟩:=h
  refine⟨_,(zr (zH (qM (zJ yD ji (hr.mono (by decide)) (zf (pv 0) zg)) (qR (xx zdp (pv 0) zp (zL _)))))),?_⟩
  refine⟨_,rfl,i,rfl,_,rfl,ww ?_⟩
  exact⟨_,rfl,_,_,rfl,rfl,q⟩
def ue:Sp:=fun vs H Q _=>∃ i:Int,vs=[.int i]/\0<=i/\Q .non H
theorem Vc:zE ["thing"] ["thing"] (zu vh):=⟨rfl,rfl,rfl,by decide +kernel,rfl,by decide +kernel,by decide +kernel⟩
theorem Va {f f1 f2:Addr} {fd fd1 fd2:FuncData} (D:Df K mg "check_number" vh ["thing"] f fd) (vg:Df K mg "is_number" qt ["thing"] f2 fd2) (yD:Df K mg "is_whole" ur ["thing"] f1 fd1) (T:Blt mg) :
  FnOk P w K mg base CX0 3 f fd ["thing"] ue:=by
 have jE:FnOk P w K mg base CX0 2 f2 fd2 ["thing"] qZ:=XQ vg yD T
 refine D.fn.ok Vc (fun vs H Q E h=>?_) (fun cdv A outer s H vs Q E hr h=>?_)
 ·obtain⟨i,rfl,_⟩:=h;rfl
 ·obtain⟨i,rfl,h1,q⟩:=h
  refine⟨_,(zr (yH (uX (wY (zJ vg jE (hr.mono (by decide)) (zf (pv 0) zg))))
    (zr Yi)
    zO)),?_⟩
  refine⟨_,rfl,i,rfl,_,rfl,?_⟩
  rw [decide_eq_true h1]
  exact yZ q
def vZ:Sp:=fun vs H Q _=>∃ b n:Nat,vs=[.int b,.int n]/\2<=b/\b<=16/\n<2^900 /\
 ∀ l H',H l=none->H' l=some (.lst ((yu b n).map V.int))->Same H H'->Q (.ref l) H'
theorem qi:zE ["base","n","backwards","rest"] ["base","n"] (zu vL):=⟨rfl,rfl,rfl,by decide +kernel,rfl,by decide +kernel,by decide +kernel⟩
theorem Qa {f f1 f2:Addr} {fd fd1 fd2:FuncData} (D:Df K mg "figures_of" vL ["base","n"] f fd) (vm:Df K mg "check_base" uN ["thing"] f1 fd1) (uD:FnOk P w K mg base CX0 3 f1 fd1 ["thing"] qg)
  (xU:Df K mg "check_number" vh ["thing"] f2 fd2) (wQ:FnOk P w K mg base CX0 3 f2 fd2 ["thing"] ue) (T:Blt mg):FnOk P w K mg base CX0 4 f fd ["base","n"] vZ:=by
 refine D.fn.ok qi (fun vs H Q E h=>?_) (fun cdv A outer s H vs Q E hr h=>?_)
 ·obtain⟨b,n,rfl,_⟩:=h;rfl
 ·obtain⟨b,n,rfl,h2,h16,hn,k⟩:=h
  refine⟨_,(zm (xG (zJ vm uD (hr.mono (by decide)) (zf (pv 0) zg)))
   (zm (xG (zJ xU wQ (hr.mono (by decide)) (zf (pv 1) zg)))
   (zm (zB (i:=2) qi.nd rfl (Or.inl rfl) (zU (zf (zy yt (pv 1) (pv 0)) zg)))
   (zm (zB (i:=3) qi.nd rfl (Or.inl rfl) (zy vR (pv 1) (pv 0)))
   (zm (Yj PassesOwn.never (zN Qz (pv 3) zp (zL _))
    (zm (xG (Y5 PySem.F.plainAttrs_list PySem.F.slot_list_append PySem.F.type_list_append vM (pv 2) (zf (zy yt (pv 3) (pv 0)) zg)))
    (zr (zB (i:=3) qi.nd rfl (Or.inl rfl) (zy vR (pv 3) (pv 0))))))
   (zr (zH (zaQ rfl rfl T.n_list rfl T.n_reversed (pv 2))))))))),?_⟩
  refine⟨_,rfl,(b:Int),rfl,by omega,by omega,?_⟩
  refine⟨_,rfl,(n:Int),rfl,by omega,?_⟩
  refine⟨_,rfl,_,rfl,_,_,rfl,rfl,(by omega:(0:Int)<b),(by decide:1<=sizeLine),fun l hl=>?_⟩
  refine⟨_,rfl,_,rfl,_,_,rfl,rfl,⟨by omega,by omega⟩,?_⟩
  have hlen:=YB h2 900 n hn
  refine Ys (fun Z H2=>∃ (r:Nat) (L:List Int),Z=[some (.int b),some (.int n),some (.ref l),some (.int r)]/\H2 l=some (.lst (L.map V.int))/\Same H H2/\yu b n=ahead b r++L.reverse)
   (fun Z _=>match Z with | [_,_,_,some (.int r)]=>r.toNat | _=>0) ?_ ?_ ?_
  ·refine⟨n / b,[((n % b:Nat):Int)],?_,?_,zq hl,?_⟩
   ·rfl
   ·rw [zj];simp
   ·rw [Qj h2];simp
  ·rintro Z H2 ⟨r,L,rfl,hL,sH,he⟩
   refine⟨_,rfl,_,_,rfl,rfl,_,rfl,?_⟩
   refine UW (fun h1=>?_) (fun h1=>?_)
   ·have hr0:0<r:=by have:=of_decide_eq_true h1;omega
    have hLl:L.length<=901:=by
     have:=congrArg List.length he
     rw [List.length_append,List.length_reverse] at this
     omega
    refine⟨_,rfl,.inl ⟨rfl,_,SqL.of hL⟩,_,rfl,_,rfl,_,_,rfl,rfl,(by omega:(0:Int)<b),l,_,_,rfl,rfl,hL,by rw [List.length_map];exact Nat.lt_of_le_of_lt hLl (by decide),?_⟩
    refine⟨_,rfl,_,rfl,_,_,rfl,rfl,⟨by omega,by omega⟩,?_⟩
    refine⟨⟨r / b,L++[((r % b:Nat):Int)],?_,?_,?_,?_⟩,?_⟩
    ·simp
    ·rw [zj];simp
    ·exact fun b' o e=>by rw [zx (zF e hl)];exact sH b' o e
    ·rw [he,zaS h2 hr0,List.reverse_append];simp
    ·show ((r:Int) / (b:Int)).toNat<(r:Int).toNat
     have:r / b<r:=Nat.div_lt_self hr0 (by omega)
     omega
   ·have hr0:r=0:=by
     by_cases z:r=0
     ·exact z
     ·exact absurd (decide_eq_true (by omega:(0:Int)<r)) h1
    subst hr0
    refine⟨_,rfl,l,_,rfl,SqL.of hL,fun q hq=>?_⟩
    have hlq:q≠l:=fun z=>by rw [z,hL] at hq;cases hq
    refine k q _ (sH.free hq) ?_ (sH.trans (zq hq))
    rw [zj,he]
    simp [ahead]
  ·intro Z H2 Q Q' hq
   rintro⟨v,e,i,j,e1,e2,k,e3,q⟩
   exact⟨v,e,i,j,e1,e2,k,e3,hq _ _ q⟩
def ZS:Sp:=fun vs H Q _=>∃ b i:Int,vs=[.int b,.int i]/\Q (.bl (decide (0<=i/\i<b))) H
theorem Jd:zE ["base","thing"] ["base","thing"] (zu jG):=⟨rfl,rfl,rfl,by decide +kernel,rfl,by decide +kernel,by decide +kernel⟩
theorem JH {f f1:Addr} {fd fd1:FuncData} (D:Df K mg "is_figure" jG ["base","thing"] f fd) (yD:Df K mg "is_whole" ur ["thing"] f1 fd1) (T:Blt mg):FnOk P w K mg base CX0 2 f fd ["base","thing"] ZS:=by
 have ji:FnOk P w K mg base CX0 1 f1 fd1 ["thing"] qp:=jL yD T
 refine D.fn.ok Jd (fun vs H Q E h=>?_) (fun cdv A outer s H vs Q E hr h=>?_)
 ·obtain⟨b,i,rfl,_⟩:=h;rfl
 ·obtain⟨b,i,rfl,q⟩:=h
  refine⟨_,(zr (zH (qM (zJ yD ji (hr.mono (by decide)) (zf (pv 1) zg)) (qR (Ud XR QS zp (pv 1) (pv 0)))))),?_⟩
  refine⟨_,rfl,i,rfl,_,rfl,ww ?_⟩
  refine⟨_,rfl,_,_,rfl,rfl,_,rfl,?_⟩
  refine UW (fun h1=>?_) (fun h1=>?_)
  ·have h1':(0:Int)<=i:=of_decide_eq_true h1
   refine⟨_,rfl,_,_,rfl,rfl,?_⟩
   rw [show decide (0<=i/\i<b)=decide (i<b) by simp [h1']] at q
   exact q
  ·have h1':¬ (0:Int)<=i:=fun z=>h1 (decide_eq_true z)
   rw [show decide (0<=i/\i<b)=false by simp [h1']] at q
   exact q
def uY:Sp:=fun vs H Q _=>∃ (b:Int) (a:Addr) (ns:List Int),vs=[.int b,.ref a]/\H a=some (.lst (ns.map V.int))/\ns.length<=1000/\∀ H',Same H H'->Q (.bl (ns.all fun i=>decide (0<=i/\i<b))) H'
theorem Uw:zE ["base","thing"] ["base","thing"] (zu wV):=⟨rfl,rfl,rfl,by decide +kernel,rfl,by decide +kernel,by decide +kernel⟩
theorem Vr {f f1:Addr} {fd fd1:FuncData} (D:Df K mg "are_figures" wV ["base","thing"] f fd) (Yc:Df K mg "is_figure" jG ["base","thing"] f1 fd1) (Xw:FnOk P w K mg base CX0 2 f1 fd1 ["base","thing"] ZS) (T:Blt mg) :
  FnOk P w K mg base CX0 3 f fd ["base","thing"] uY:=by
 refine D.fn.ok Uw (fun vs H Q E h=>?_) (fun cdv A outer s H vs Q E hr h=>?_)
 ·obtain⟨b,a,ns,rfl,_⟩:=h;rfl
 ·obtain⟨b,a,ns,rfl,ha,hlen,kk⟩:=h
  refine⟨_,(zr (zH (qM (zz (zai K) (by rfl) T.n_isinstance boot_isinstance (zf (pv 1) (zf (jR (v:=.ty "list") rfl T.n_list boot_list rfl) zg))) (qR (zz (k_all K rfl) (by rfl) T.n_all boot_all (zf (wj (show CScope (zu wV) _ "each" ["base","thing"] ["base"] [0] from ⟨rfl,by decide +kernel,by decide +kernel,rfl,by decide +kernel,rfl,by decide +kernel,by decide +kernel⟩) rfl (YX K (pv 1)) (fun _ _ _ _=>wg) (fun _ _ _ _=>(zJ Yc Xw (hr.mono (by decide)) (zf (pv 1) (zf (pv 0) zg))))) zg)))))),?_⟩
  refine⟨_,rfl,_,_,_,_,rfl,.lst ha,Y4,_,rfl,ww ?_⟩
  refine⟨_,rfl,a,rfl,⟨_,SqL.of ha⟩,xJ (K:=K) (a:=a) (xs:=ns.map V.int) (fun i ys H4=>ys=((ns.take i).map fun i=>decide (0<=i/\i<b)).map V.bl/\H4=H) ⟨by simp,rfl⟩ (fun i ys H4 _ ⟨_,e⟩=>by rw [e];exact SqL.of ha) ?_ ?_⟩
  ·rintro j x ys H4 hx ⟨rfl,rfl⟩
   refine⟨?_,?_⟩
   ·rw [List.length_map,List.length_map,List.length_take]
    exact Nat.lt_of_le_of_lt (Nat.le_trans (Nat.min_le_right _ _) hlen) (by decide)
   obtain⟨z,hz,rfl⟩:∃ z,ns[j]?=some z/\x=V.int z:=by
    rw [List.getElem?_map] at hx
    obtain⟨z,h,e⟩:=Option.map_eq_some_iff.mp hx
    exact⟨z,h,e.symm⟩
   unfold Yo
   dsimp only
   rw [if_pos rfl]
   refine⟨_,rfl,_,rfl,b,z,rfl,?_,rfl⟩
   rw [List.take_succ,hz]
   simp
  ·rintro ys H4 ⟨rfl,rfl⟩ Dd hD
   refine⟨Dd,_,rfl,SqL.of zj,?_⟩
   have q:=kk _ (zq hD (o:=.lst (((ns.take (ns.map V.int).length).map fun i=>decide (0<=i/\i<b)).map V.bl)))
   rw [List.length_map,List.take_length] at q ⊢
   rw [List.all_map]
   exact q
structure RuleAt (H:Hp) (r:Addr) (b:Nat) (bl:Addr) (zs:ZB):Prop where
 tu:H r=some (.tup [.int b,.ref bl])
 li:H bl=some (.lst (zs.map fun z=>V.ref z.1))
 st:∀ z∈zs,H z.1=some (.lst (z.2.map V.int))
theorem RuleAt.same {H H':Hp} {r bl:Addr} {b:Nat} {zs:ZB} (R:RuleAt H r b bl zs) (s:Same H H'):RuleAt H' r b bl zs:=⟨s _ _ R.tu,s _ _ R.li,fun z hz=>s _ _ (R.st z hz)⟩
structure Js (b:Nat) (l:List Int):Prop where
 ne:l≠[]
 len:l.length<=4
 fig:∀ f∈l,0<=f/\f<b
structure zX (b:Nat) (ls:ZA):Prop where
 b2:2<=b
 b16:b<=16
 len:ls.length<=4
 st:∀ l∈ls,Js b l
 up:ls.Pairwise fun x y=>HT.lexLt x y=true
theorem zcP {b:Nat} {ns:List Int} (h:∀ f∈ns,0<=f/\f<(b:Int)):(ns.all fun i=>decide (0<=i/\i<(b:Int)))=true:=by
 rw [List.all_eq_true];intro x hx;exact decide_eq_true (h x hx)
def jZ:Sp:=fun vs H Q _=>∃ (b:Nat) (a:Addr) (ns:List Int),vs=[.int b,.ref a]/\H a=some (.lst (ns.map V.int))/\Js b ns/\∀ H',Same H H'->Q (.bl true) H'
theorem Qe:zE ["base","thing"] ["base","thing"] (zu qU):=⟨rfl,rfl,rfl,by decide +kernel,rfl,by decide +kernel,by decide +kernel⟩
theorem Qc {f f1:Addr} {fd fd1:FuncData} {t1:Tok} (D:Df K mg "is_stretch" qU ["base","thing"] f fd) (wN:Df K mg "are_figures" wV ["base","thing"] f1 fd1) (vI:FnOk P w K mg base CX0 3 f1 fd1 ["base","thing"] uY) (uP:mg "LONGEST_STRETCH" = some (.int 4 t1)) (T:Blt mg) :
  FnOk P w K mg base CX0 4 f fd ["base","thing"] jZ:=by
 refine D.fn.ok Qe (fun vs H Q E h=>?_) (fun cdv A outer s H vs Q E hr h=>?_)
 ·obtain⟨b,a,ns,rfl,_⟩:=h;rfl
 ·obtain⟨b,a,ns,rfl,ha,g,kk⟩:=h
  refine⟨_,(zr (zH (qM (zJ wN vI (hr.mono (by decide)) (zf (pv 0) (zf (pv 1) zg))) (qR (Ud XR XR zp (zz (w6 K) (by rfl) T.n_len PySem.boot_len (zf (pv 1) zg)) (xF (v:=.int 4) rfl uP ⟨_,rfl⟩)))))),?_⟩
  have hlen:=g.len
  refine⟨_,rfl,_,rfl,b,a,ns,rfl,ha,Nat.le_trans hlen (by decide),fun H1 s1=>?_⟩
  rw [zcP g.fig]
  refine⟨_,rfl,ww ?_⟩
  have hpos:0<ns.length:=List.length_pos_iff.mpr g.ne
  refine⟨_,rfl,a,_,rfl,.inl (SqL.of (s1 _ _ ha)),_,_,rfl,rfl,_,rfl,?_⟩
  rw [List.length_map,decide_eq_true (show (1:Int)<=(ns.length:Int) by omega)]
  refine ww ?_
  refine⟨_,_,rfl,rfl,?_⟩
  dsimp only
  rw [decide_eq_true (show (ns.length:Int)<=4 by omega)]
  exact kk H1 s1
def ZR:Sp:=fun vs H Q _=>∃ (bl:Addr) (zs:ZB),vs=[.ref bl]/\H bl=some (.lst (zs.map fun z=>V.ref z.1))/\(∀ z∈zs,H z.1=some (.lst (z.2.map V.int)))/\zs.length<=4/\(zs.map (·.2)).Pairwise (fun x y=>HT.lexLt x y=true)/\∀ H',Same H H'->Q (.bl true) H'
theorem Q6:zE ["stretches"] ["stretches"] (zu qm):=⟨rfl,rfl,rfl,by decide +kernel,rfl,by decide +kernel,by decide +kernel⟩
theorem zb5 {n:Nat}:(List.replicate n true).all id=true:=by
 rw [List.all_eq_true];intro x hx;exact (List.mem_replicate.mp hx).2
theorem Wi {f:Addr} {fd:FuncData} (D:Df K mg "is_rising" qm ["stretches"] f fd) (T:Blt mg):FnOk P w K mg base CX0 1 f fd ["stretches"] ZR:=by
 refine D.fn.ok Q6 (fun vs H Q E h=>?_) (fun cdv A outer s H vs Q E hr h=>?_)
 ·obtain⟨bl,zs,rfl,_⟩:=h;rfl
 ·obtain⟨bl,zs,rfl,hb,hz,h4,up,kk⟩:=h
  have HU:=zaE hr
  refine⟨_,(zr (zH (zz (k_all K rfl) (by rfl) T.n_all boot_all (zf (wj (show CScope (zu qm) _ "k" ["stretches"] ["stretches"] [0] from ⟨rfl,by decide +kernel,by decide +kernel,rfl,by decide +kernel,rfl,by decide +kernel,by decide +kernel⟩) rfl (yl rfl T.n_range (zf (zy wH (zz (w6 K) (by rfl) T.n_len PySem.boot_len (zf (pv 0) zg)) zp) zg)) (fun _ _ _ _=>wg) (fun _ _ _ _=>(xx (zgN K HU) (zP (yC K) (pv 1) (pv 0) (fun _ _=>rfl)) (zP (yC K) (pv 1) (zy yF (pv 0) zp) (fun _ _=>rfl)) (zL _)))) zg)))),?_⟩
  refine⟨_,rfl,bl,_,rfl,.inl (SqL.of hb),_,_,rfl,rfl,_,rfl,?_⟩
  rw [List.length_map]
  refine⟨by omega,by omega,ul (lo:=0) (n:=((zs.length:Int)-1).toNat) (fun i ys H4=>ys=(List.replicate i true).map V.bl/\H4=H) ⟨by simp,rfl⟩ ?_ ?_⟩
  ·rintro i ys H4 hi ⟨rfl,rfl⟩
   refine⟨by rw [List.length_map,List.length_replicate];exact Nat.lt_of_lt_of_le (show i<5 by omega) (by decide),?_⟩
   unfold Yo
   dsimp only
   rw [if_pos rfl]
   have hi0:i<zs.length:=by omega
   have hi1:i+1<zs.length:=by omega
   have g0:atI (zs.map fun z=>V.ref z.1) (0+(i:Int))=some (.ref (zs[i]).1):=by rw [Int.zero_add];exact vG (by rw [List.getElem?_map,List.getElem?_eq_getElem hi0];rfl)
   have g1:atI (zs.map fun z=>V.ref z.1) (0+(i:Int)+1)=some (.ref (zs[i+1]).1):=by rw [Int.zero_add];exact vG (j:=i+1) (by rw [List.getElem?_map,List.getElem?_eq_getElem hi1];rfl)
   refine⟨_,rfl,_,rfl,bl,_,_,_,rfl,rfl,SqL.of hb,g0,?_⟩
   refine⟨_,rfl,_,rfl,_,_,rfl,rfl,bl,_,_,_,rfl,rfl,SqL.of hb,g1,?_⟩
   refine⟨_,_,_,_,rfl,rfl,SqL.of (hz _ (List.getElem_mem hi0)),SqL.of (hz _ (List.getElem_mem hi1)),?_,rfl⟩
   rw [List.pairwise_map,List.pairwise_iff_getElem] at up
   rw [up i (i+1) hi0 hi1 (by omega),List.replicate_succ']
   simp
  ·rintro ys H4 ⟨rfl,rfl⟩ Dd hD
   refine⟨Dd,_,rfl,SqL.of zj,?_⟩
   rw [zb5]
   exact kk _ (zq hD)
def jo:Sp:=fun vs H Q _=>∃ (b:Nat) (bl:Addr) (zs:ZB),vs=[.int b,.ref bl]/\H bl=some (.lst (zs.map fun z=>V.ref z.1))/\(∀ z∈zs,H z.1=some (.lst (z.2.map V.int)))/\zX b (zs.map (·.2))/\∀ H',Same H H'->Q (.bl true) H'
theorem Ul:zE ["base","thing"] ["base","thing"] (zu vY):=⟨rfl,rfl,rfl,by decide +kernel,rfl,by decide +kernel,by decide +kernel⟩
theorem Ug {f f1 f2:Addr} {fd fd1 fd2:FuncData} {t1:Tok} (D:Df K mg "is_bad_list" vY ["base","thing"] f fd) (jH:Df K mg "is_stretch" qU ["base","thing"] f1 fd1) (Yv:FnOk P w K mg base CX0 4 f1 fd1 ["base","thing"] jZ) (jA:Df K mg "is_rising" qm ["stretches"] f2 fd2) (tK:mg "MOST_STRETCHES" = some (.int 4 t1)) (T:Blt mg) :
  FnOk P w K mg base CX0 5 f fd ["base","thing"] jo:=by
 have V1:FnOk P w K mg base CX0 1 f2 fd2 ["stretches"] ZR:=Wi jA T
 refine D.fn.ok Ul (fun vs H Q E h=>?_) (fun cdv A outer s H vs Q E hr h=>?_)
 ·obtain⟨b,bl,zs,rfl,_⟩:=h;rfl
 ·obtain⟨b,bl,zs,rfl,hb,hz,g,kk⟩:=h
  have h4:zs.length<=4:=by have:=g.len;rwa [List.length_map] at this
  refine⟨_,(zm (yH (PW.pt (Ut (uX (wY (zz (zai K) (by rfl) T.n_isinstance boot_isinstance (zf (pv 1) (zf (jR (v:=.ty "list") rfl T.n_list boot_list rfl) zg))))) (Xg (zN Qz (zz (w6 K) (by rfl) T.n_len PySem.boot_len (zf (pv 1) zg)) (xF (v:=.int 4) rfl tK ⟨_,rfl⟩) (zL _)))))
    (zr (zH W2))
    zO)
   (zr (zH (qM (zz (k_all K rfl) (by rfl) T.n_all boot_all (zf (wj (show CScope (zu vY) _ "each" ["base","thing"] ["base"] [0] from ⟨rfl,by decide +kernel,by decide +kernel,rfl,by decide +kernel,rfl,by decide +kernel,by decide +kernel⟩) rfl (YX K (pv 1)) (fun _ _ _ _=>wg) (fun _ _ _ _=>(zJ jH Yv (hr.mono (by decide)) (zf (pv 1) (zf (pv 0) zg))))) zg)) (qR (zJ jA V1 (hr.mono (by decide)) (zf (pv 1) zg))))))),?_⟩
  refine⟨_,rfl,_,_,_,_,rfl,.lst hb,Y4,_,rfl,yZ ?_⟩
  refine⟨_,rfl,bl,_,rfl,.inl (SqL.of hb),_,_,rfl,rfl,_,rfl,?_⟩
  rw [List.length_map,decide_eq_false (show ¬ (4:Int)<(zs.length:Int) by omega)]
  refine yZ ?_
  refine⟨_,rfl,bl,rfl,⟨_,SqL.of hb⟩,xJ (K:=K) (a:=bl) (xs:=zs.map fun z=>V.ref z.1) (fun i ys H4=>ys=(List.replicate i true).map V.bl/\Same H H4) ⟨by simp,Same.refl _⟩ (fun i ys H4 _ ⟨_,e⟩=>SqL.of (e _ _ hb)) ?_ ?_⟩
  ·rintro j x ys H4 hx ⟨rfl,s4⟩
   rw [List.getElem?_map] at hx
   obtain⟨z,hzj,e⟩:=Option.map_eq_some_iff.mp hx
   subst e
   have hzm:=List.mem_of_getElem? hzj
   have hj:j<zs.length:=(List.getElem?_eq_some_iff.mp hzj).1
   refine⟨by rw [List.length_map,List.length_replicate];exact Nat.lt_of_lt_of_le (show j<5 by omega) (by decide),?_⟩
   unfold Yo
   dsimp only
   rw [if_pos rfl]
   refine⟨_,rfl,_,rfl,b,z.1,z.2,rfl,s4 _ _ (hz z hzm),g.st _ (List.mem_map.mpr ⟨z,hzm,rfl⟩),fun H5 s5=>⟨?_,s4.trans s5⟩⟩
   rw [List.replicate_succ'];simp
  ·rintro ys H4 ⟨rfl,s4⟩ Dd hD
   refine⟨Dd,_,rfl,SqL.of zj,?_⟩
   rw [zb5]
   have s5:=s4.trans (zq hD (o:=.lst ((List.replicate (zs.map fun z=>V.ref z.1).length true).map V.bl)))
   refine⟨_,rfl,ww ?_⟩
   exact⟨_,rfl,bl,zs,rfl,s5 _ _ hb,fun z hzm=>s5 _ _ (hz z hzm),h4,g.up,fun H6 s6=>kk H6 (s5.trans s6)⟩
def Xp:Sp:=fun vs H Q _=>∃ (r:Addr) (b:Nat) (bl:Addr) (zs:ZB),vs=[.ref r]/\RuleAt H r b bl zs/\zX b (zs.map (·.2))/\∀ H',Same H H'->Q (.bl true) H'
theorem za9:zE ["thing"] ["thing"] (zu YM):=⟨rfl,rfl,rfl,by decide +kernel,rfl,by decide +kernel,by decide +kernel⟩
theorem zbz {f f1 f2:Addr} {fd fd1 fd2:FuncData} (D:Df K mg "is_rule" YM ["thing"] f fd) (jr:Df K mg "is_base" Zq ["thing"] f1 fd1) (Zk:FnOk P w K mg base CX0 2 f1 fd1 ["thing"] ZL) (qX:Df K mg "is_bad_list" vY ["base","thing"] f2 fd2) (ZK:FnOk P w K mg base CX0 5 f2 fd2 ["base","thing"] jo) (T:Blt mg) :
  FnOk P w K mg base CX0 6 f fd ["thing"] Xp:=by
 refine D.fn.ok za9 (fun vs H Q E h=>?_) (fun cdv A outer s H vs Q E hr h=>?_)
 ·obtain⟨r,b,bl,zs,rfl,_⟩:=h;rfl
 ·obtain⟨r,b,bl,zs,rfl,R,g,kk⟩:=h
  have b2:=g.b2
  have b16:=g.b16
  refine⟨_,(zm (yH (PW.pt (Ut (uX (wY (zz (zai K) (by rfl) T.n_isinstance boot_isinstance (zf (pv 0) (zf (jR (v:=.ty "tuple") rfl T.n_tuple boot_tuple rfl) zg))))) (Xg (zN zdG (zz (w6 K) (by rfl) T.n_len PySem.boot_len (zf (pv 0) zg)) zp (zL _)))))
    (zr (zH W2))
    zO)
   (zr (zH (qM (zJ jr Zk (hr.mono (by decide)) (zf (zP (uH K) (pv 0) zp (fun _ _=>rfl)) zg)) (qR (zJ qX ZK (hr.mono (by decide)) (zf (zP (uH K) (pv 0) zp (fun _ _=>rfl)) (zf (zP (uH K) (pv 0) zp (fun _ _=>rfl)) zg)))))))),?_⟩
  refine⟨_,rfl,_,_,_,_,rfl,.tup R.tu,Vi,_,rfl,yZ ?_⟩
  refine⟨_,rfl,r,_,rfl,.inr (SqT.of R.tu),rfl,_,rfl,?_⟩
  refine yZ ?_
  refine⟨_,rfl,r,_,_,V.int b,rfl,rfl,SqT.of R.tu,rfl,(b:Int),rfl,?_⟩
  rw [decide_eq_true (show (2:Int)<=b/\(b:Int)<=16 from ⟨by omega,by omega⟩)]
  refine⟨_,rfl,ww ?_⟩
  refine⟨_,rfl,r,_,_,V.int b,rfl,rfl,SqT.of R.tu,rfl,_,rfl,r,_,_,V.ref bl,rfl,rfl,SqT.of R.tu,rfl,b,bl,zs,rfl,R.li,R.st,g,kk⟩
def xX:Sp:=fun vs H Q _=>∃ (r:Addr) (b:Nat) (bl:Addr) (zs:ZB),vs=[.ref r]/\RuleAt H r b bl zs/\zX b (zs.map (·.2))/\∀ H',Same H H'->Q .non H'
theorem U3:zE ["thing"] ["thing"] (zu xP):=⟨rfl,rfl,rfl,by decide +kernel,rfl,by decide +kernel,by decide +kernel⟩
theorem U9 {f f1:Addr} {fd fd1:FuncData} (D:Df K mg "check_rule" xP ["thing"] f fd) (Wg:Df K mg "is_rule" YM ["thing"] f1 fd1) (VG:FnOk P w K mg base CX0 6 f1 fd1 ["thing"] Xp):FnOk P w K mg base CX0 7 f fd ["thing"] xX:=by
 refine D.fn.ok U3 (fun vs H Q E h=>?_) (fun cdv A outer s H vs Q E hr h=>?_)
 ·obtain⟨r,b,bl,zs,rfl,_⟩:=h;rfl
 ·obtain⟨r,b,bl,zs,rfl,R,g,kk⟩:=h
  refine⟨_,(zr (yH (uX (wY (zJ Wg VG (hr.mono (by decide)) (zf (pv 0) zg))))
    (zr Yi)
    zO)),?_⟩
  exact⟨_,rfl,r,b,bl,zs,rfl,R,g,fun H1 s1=>⟨_,rfl,yZ (kk H1 s1)⟩⟩
theorem zd7 (xs:List V) (k m:Nat):uR xs (some (k:Int)) (some (m:Int))=(xs.drop k).take (m-k):=by
 unfold uR
 rw [HT.Vo,HT.Vo]
 by_cases hk:k<=xs.length
 ·rw [Nat.min_eq_left hk]
  by_cases hm:m<=xs.length
  ·rw [Nat.min_eq_left hm]
  ·rw [Nat.min_eq_right (by omega),List.take_of_length_le (by rw [List.length_drop];omega),List.take_of_length_le (by rw [List.length_drop];omega)]
 ·rw [List.drop_of_length_le (show xs.length<=k by omega),Nat.min_eq_right (show xs.length<=k by omega),List.drop_of_length_le (Nat.le_refl _)]
  simp
def tU:Sp:=fun vs H Q _=>∃ (sa fa:Addr) (st fs:List Int),vs=[.ref sa,.ref fa]/\H sa=some (.lst (st.map V.int))/\H fa=some (.lst (fs.map V.int))/\st≠[]/\st.length<=1000/\fs.length<=1000/\∀ H',Same H H'->Q (.bl (Y0 st fs)) H'
theorem Zh:zE ["stretch","figures","size"] ["stretch","figures"] (zu wO):=⟨rfl,rfl,rfl,by decide +kernel,rfl,by decide +kernel,by decide +kernel⟩
theorem Zr {f:Addr} {fd:FuncData} (D:Df K mg "stands_within" wO ["stretch","figures"] f fd) (T:Blt mg):FnOk P w K mg base CX0 1 f fd ["stretch","figures"] tU:=by
 refine D.fn.ok Zh (fun vs H Q E h=>?_) (fun cdv A outer s H vs Q E hr h=>?_)
 ·obtain⟨sa,fa,st,fs,rfl,_⟩:=h;rfl
 ·obtain⟨sa,fa,st,fs,rfl,hs,hf,ne,hl1,hl2,kk⟩:=h
  have HU:=zaE hr
  refine⟨_,(zm (zB (i:=2) Zh.nd rfl (Or.inr rfl) (zz (w6 K) (by rfl) T.n_len PySem.boot_len (zf (pv 0) zg)))
   (zr (zH (zz (zdq K rfl) (by rfl) T.n_any boot_any (zf (wj (show CScope (zu wO) _ "k" ["stretch","figures","size"] ["stretch","figures","size"] [0,1,2] from ⟨rfl,by decide +kernel,by decide +kernel,rfl,by decide +kernel,rfl,by decide +kernel,by decide +kernel⟩) rfl (yl rfl T.n_range (zf (zy yF (zy wH (zz (w6 K) (by rfl) T.n_len PySem.boot_len (zf (pv 1) zg)) (pv 2)) zp) zg)) (fun _ _ _ _=>wg) (fun _ _ _ _=>(xx (zbV K HU) (vU (WY K) (pv 2) (tE (pv 0)) (tE (zy yF (pv 0) (pv 3)))) (pv 1) (zL _)))) zg))))),?_⟩
  refine⟨_,rfl,sa,_,rfl,.inl (SqL.of hs),?_⟩
  rw [List.length_map]
  refine⟨_,rfl,fa,_,rfl,.inl (SqL.of hf),_,rfl,_,_,rfl,rfl,_,_,rfl,rfl,_,rfl,?_⟩
  rw [List.length_map]
  refine⟨by omega,by omega,ul (lo:=0) (n:=((fs.length:Int)-st.length+1).toNat) (fun i ys H4=>ys=((List.range i).map fun k=>decide ((fs.drop k).take st.length=st)).map V.bl/\Same H H4) ⟨by simp,Same.refl _⟩ ?_ ?_⟩
  ·rintro i ys H4 hi ⟨rfl,s4⟩
   refine⟨by rw [List.length_map,List.length_map,List.length_range];exact Nat.lt_of_lt_of_le (show i<2000 by omega) (by decide),?_⟩
   unfold Yo
   dsimp only
   rw [if_pos rfl]
   refine⟨_,rfl,_,rfl,_,rfl,_,rfl,_,rfl,_,_,rfl,rfl,_,rfl,fa,_,rfl,SqL.of (s4 _ _ hf),fun p hp=>?_⟩
   have e1:uR (fs.map V.int) (some (0+(i:Int))) (some (0+(i:Int)+(st.length:Int)))=((fs.drop i).take st.length).map V.int:=by
    have e:(0+(i:Int)+(st.length:Int))=((i+st.length:Nat):Int):=by omega
    rw [e,Int.zero_add,zd7,List.map_take,List.map_drop,Nat.add_sub_cancel_left]
   rw [e1]
   refine⟨_,rfl,vf ((fs.drop i).take st.length),vf st,TrAt.ints (a:=p) (SqL.of zj),TrAt.ints (a:=sa) (SqL.of (zq hp _ _ (s4 _ _ hs))),(by rw [ZX];decide),?_,s4.trans (zq hp)⟩
   rw [List.range_succ,List.map_append,List.map_append]
   have e2:=Zi ((fs.drop i).take st.length) st
   show _=_++[V.bl (decide ((fs.drop i).take st.length=st))]
   rw [<- e2];rfl
  ·rintro ys H4 ⟨rfl,s4⟩ Dd hD
   refine⟨Dd,_,rfl,SqL.of zj,?_⟩
   have q:=kk _ (s4.trans (zq hD (o:=.lst (((List.range ((fs.length:Int)-st.length+1).toNat).map fun k=>decide ((fs.drop k).take st.length=st)).map V.bl))))
   rw [zbp ne] at q
   rw [List.any_map]
   exact q
def vN:Sp:=fun vs H Q _=>∃ (bl fa:Addr) (zs:ZB) (fs:List Int),vs=[.ref bl,.ref fa]/\H bl=some (.lst (zs.map fun z=>V.ref z.1))/\(∀ z∈zs,H z.1=some (.lst (z.2.map V.int)))/\H fa=some (.lst (fs.map V.int))/\zs.length<=100/\fs.length<=1000/\(∀ z∈zs,z.2≠[]/\z.2.length<=1000)/\∀ H',Same H H'->Q (.bl (lacks (zs.map (·.2)) fs)) H'
theorem Q8:zE ["bad","figures"] ["bad","figures"] (zu wC):=⟨rfl,rfl,rfl,by decide +kernel,rfl,by decide +kernel,by decide +kernel⟩
theorem JN {f f1:Addr} {fd fd1:FuncData} (D:Df K mg "lacks_all" wC ["bad","figures"] f fd) (vq:Df K mg "stands_within" wO ["stretch","figures"] f1 fd1) (T:Blt mg):FnOk P w K mg base CX0 2 f fd ["bad","figures"] vN:=by
 have Yk:FnOk P w K mg base CX0 1 f1 fd1 ["stretch","figures"] tU:=Zr vq T
 refine D.fn.ok Q8 (fun vs H Q E h=>?_) (fun cdv A outer s H vs Q E hr h=>?_)
 ·obtain⟨bl,fa,zs,fs,rfl,_⟩:=h;rfl
 ·obtain⟨bl,fa,zs,fs,rfl,hb,hz,hf,hl1,hl2,ne,kk⟩:=h
  refine⟨_,(zr (zH (zbh (zz (zdq K rfl) (by rfl) T.n_any boot_any (zf (wj (show CScope (zu wC) _ "stretch" ["bad","figures"] ["figures"] [1] from ⟨rfl,by decide +kernel,by decide +kernel,rfl,by decide +kernel,rfl,by decide +kernel,by decide +kernel⟩) rfl (YX K (pv 0)) (fun _ _ _ _=>wg) (fun _ _ _ _=>(zJ vq Yk (hr.mono (by decide)) (zf (pv 0) (zf (pv 1) zg))))) zg))))),?_⟩
  refine⟨_,rfl,bl,rfl,⟨_,SqL.of hb⟩,xJ (K:=K) (a:=bl) (xs:=zs.map fun z=>V.ref z.1) (fun i ys H4=>ys=((zs.take i).map fun z=>Y0 z.2 fs).map V.bl/\Same H H4) ⟨by simp,Same.refl _⟩ (fun i ys H4 _ ⟨_,e⟩=>SqL.of (e _ _ hb)) ?_ ?_⟩
  ·rintro j x ys H4 hx ⟨rfl,s4⟩
   rw [List.getElem?_map] at hx
   obtain⟨z,hzj,e⟩:=Option.map_eq_some_iff.mp hx
   subst e
   have hzm:=List.mem_of_getElem? hzj
   refine⟨?_,?_⟩
   ·rw [List.length_map,List.length_map,List.length_take]
    exact Nat.lt_of_le_of_lt (Nat.le_trans (Nat.min_le_right _ _) hl1) (by decide)
   unfold Yo
   dsimp only
   rw [if_pos rfl]
   refine⟨_,rfl,_,rfl,z.1,fa,z.2,fs,rfl,s4 _ _ (hz z hzm),s4 _ _ hf,(ne z hzm).1,(ne z hzm).2,hl2,fun H5 s5=>⟨?_,s4.trans s5⟩⟩
   rw [List.take_succ,hzj]
   simp
  ·rintro ys H4 ⟨rfl,s4⟩ Dd hD
   refine⟨Dd,_,rfl,SqL.of zj,_,rfl,?_⟩
   have q:=kk _ (s4.trans (zq hD (o:=.lst (((zs.take (zs.map fun z=>V.ref z.1).length).map fun z=>Y0 z.2 fs).map V.bl))))
   rw [List.length_map,List.take_length] at q ⊢
   unfold lacks at q
   rw [List.any_map] at q ⊢
   exact q
def Xj:Sp:=fun vs H Q _=>∃ (r:Addr) (b:Nat) (bl:Addr) (zs:ZB) (n:Nat),vs=[.ref r,.int n]/\RuleAt H r b bl zs/\zX b (zs.map (·.2))/\n<2^900/\∀ H',Same H H'->Q (.bl (lacks (zs.map (·.2)) (yu b n))) H'
theorem zbj:zE ["rule","n"] ["rule","n"] (zu YK):=⟨rfl,rfl,rfl,by decide +kernel,rfl,by decide +kernel,by decide +kernel⟩
theorem zba {f f1 f2 f3:Addr} {fd fd1 fd2 fd3:FuncData} (D:Df K mg "is_good" YK ["rule","n"] f fd) (zV:Df K mg "check_rule" xP ["thing"] f1 fd1) (ye:FnOk P w K mg base CX0 7 f1 fd1 ["thing"] xX)
  (yO:Df K mg "lacks_all" wC ["bad","figures"] f2 fd2) (yU:FnOk P w K mg base CX0 2 f2 fd2 ["bad","figures"] vN) (xg:Df K mg "figures_of" vL ["base","n"] f3 fd3) (xR:FnOk P w K mg base CX0 4 f3 fd3 ["base","n"] vZ) (T:Blt mg) :
  FnOk P w K mg base CX0 8 f fd ["rule","n"] Xj:=by
 refine D.fn.ok zbj (fun vs H Q E h=>?_) (fun cdv A outer s H vs Q E hr h=>?_)
 ·obtain⟨r,b,bl,zs,n,rfl,_⟩:=h;rfl
 ·obtain⟨r,b,bl,zs,n,rfl,R,g,hn,kk⟩:=h
  refine⟨_,(zm (xG (zJ zV ye (hr.mono (by decide)) (zf (pv 0) zg)))
   (zr (zH (zJ yO yU (hr.mono (by decide)) (zf (zP (uH K) (pv 0) zp (fun _ _=>rfl)) (zf (zJ xg xR (hr.mono (by decide)) (zf (zP (uH K) (pv 0) zp (fun _ _=>rfl)) (zf (pv 1) zg))) zg)))))),?_⟩
  refine⟨_,rfl,r,b,bl,zs,rfl,R,g,fun H1 s1=>?_⟩
  have R1:=R.same s1
  refine⟨_,rfl,r,_,_,V.ref bl,rfl,rfl,SqT.of R1.tu,rfl,?_⟩
  refine⟨_,rfl,r,_,_,V.int b,rfl,rfl,SqT.of R1.tu,rfl,_,rfl,b,n,rfl,g.b2,g.b16,hn,fun l H2 hl hv s2=>?_⟩
  have R2:=R1.same s2
  have hfl:=YB g.b2 900 n hn
  have h4:zs.length<=4:=by have:=g.len;rwa [List.length_map] at this
  exact⟨bl,l,zs,yu b n,rfl,R2.li,R2.st,hv,by omega,by omega,fun z hz=>⟨(g.st _ (List.mem_map.mpr ⟨z,hz,rfl⟩)).ne,Nat.le_trans (g.st _ (List.mem_map.mpr ⟨z,hz,rfl⟩)).len (by decide)⟩,fun H3 s3=>kk H3 ((s1.trans s2).trans s3)⟩
end
theorem Zo (xs:List V) (m:Nat):uR xs none (some (m:Int))=xs.take m:=by
 unfold uR
 rw [HT.Vo,HT.zaA,List.drop_zero,Nat.sub_zero]
 by_cases h:m<=xs.length
 ·rw [Nat.min_eq_left h]
 ·rw [Nat.min_eq_right (by omega),List.take_of_length_le (Nat.le_refl _),List.take_of_length_le (by omega)]
theorem Zj (xs:List V) (m:Nat):uR xs (some (m:Int)) none=xs.drop m:=by
 unfold uR
 rw [HT.Vo,HT.zaA]
 by_cases h:m<=xs.length
 ·rw [Nat.min_eq_left h,List.take_of_length_le (by rw [List.length_drop];omega)]
 ·rw [Nat.min_eq_right (by omega),List.drop_of_length_le (Nat.le_refl _),List.drop_of_length_le (by omega)];simp
theorem RuleAt.all {fp:List Addr} {r bl:Addr} {H:Hp} {b:Nat} {zs:ZB} (R:RuleAt (aw fp H) r b bl zs):RuleAt H r b bl zs:=R.same (yG fp H)
theorem zcq {ls:ZA} {x:List Int}:((ls.map vf).any fun t=>teq t (vf x))=decide (x∈ls):=by
 rw [Bool.eq_iff_iff]
 simp only [List.any_eq_true,List.mem_map,decide_eq_true_eq]
 constructor
 ·rintro⟨t,⟨l,hl,rfl⟩,e⟩
  rw [Zi] at e
  rw [<- of_decide_eq_true e];exact hl
 ·intro h
  exact⟨vf x,⟨x,h,rfl⟩,VH _⟩
theorem jQ:∀ ls:ZA,xM (ls.map vf)<=1
 | []=>by simp [xM]
 | l :: ls=>by rw [List.map_cons,xM,ZX];have:=jQ ls;omega
theorem TrsAt.lists {K:W.Frag} {H:Hp}:∀ {zs:ZB},(∀ z∈zs,H z.1=some (.lst (z.2.map V.int)))->TrsAt K H ((zs.map (·.2)).map vf) (zs.map fun z=>V.ref z.1)
 | [],_=>by rw [List.map_nil,List.map_nil,TrsAt];rfl
 | z :: zs,h=>by
  rw [List.map_cons,List.map_cons,TrsAt]
  exact⟨_,_,rfl,TrAt.ints (SqL.of (h z List.mem_cons_self)),TrsAt.lists fun z hz=>h z (List.mem_cons_of_mem _ hz)⟩
section
variable {P:Program} {w:World} {K:W.Frag} {mg:Str->Option Value} {base:Heap}
def j6:Sp:=fun vs H Q _=>∃ (bl fa:Addr) (zs:ZB) (fs:List Int),vs=[.ref bl,.ref fa]/\H bl=some (.lst (zs.map fun z=>V.ref z.1))/\(∀ z∈zs,H z.1=some (.lst (z.2.map V.int)))/\H fa=some (.lst (fs.map V.int))/\zs.length<=100/\∀ H',Same H H'->Q (.bl (uv (zs.map (·.2)) fs)) H'
theorem Qh:zE ["bad","figures"] ["bad","figures"] (zu uO):=⟨rfl,rfl,rfl,by decide +kernel,rfl,by decide +kernel,by decide +kernel⟩
theorem Xe {f:Addr} {fd:FuncData} (D:Df K mg "begins_one" uO ["bad","figures"] f fd) (T:Blt mg):FnOk P w K mg base CX0 1 f fd ["bad","figures"] j6:=by
 refine D.fn.ok Qh (fun vs H Q E h=>?_) (fun cdv A outer s H vs Q E hr h=>?_)
 ·obtain⟨bl,fa,zs,fs,rfl,_⟩:=h;rfl
 ·obtain⟨bl,fa,zs,fs,rfl,hb,hz,hf,hl1,kk⟩:=h
  have HU:=zaE hr
  refine⟨_,(zr (zH (zz (zdq K rfl) (by rfl) T.n_any boot_any (zf (wj (show CScope (zu uO) _ "stretch" ["bad","figures"] ["figures"] [1] from ⟨rfl,by decide +kernel,by decide +kernel,rfl,by decide +kernel,rfl,by decide +kernel,by decide +kernel⟩) rfl (YX K (pv 0)) (fun _ _ _ _=>wg) (fun _ _ _ _=>(xx (zbV K HU) (vU (WY K) (pv 0) jc (tE (zz (w6 K) (by rfl) T.n_len PySem.boot_len (zf (pv 1) zg)))) (pv 1) (zL _)))) zg)))),?_⟩
  refine⟨_,rfl,bl,rfl,⟨_,SqL.of hb⟩,xJ (K:=K) (a:=bl) (xs:=zs.map fun z=>V.ref z.1) (fun i ys H4=>ys=((zs.take i).map fun z=>decide (z.2.take fs.length=fs)).map V.bl/\Same H H4) ⟨by simp,Same.refl _⟩ (fun i ys H4 _ ⟨_,e⟩=>SqL.of (e _ _ hb)) ?_ ?_⟩
  ·rintro j x ys H4 hx ⟨rfl,s4⟩
   rw [List.getElem?_map] at hx
   obtain⟨z,hzj,e⟩:=Option.map_eq_some_iff.mp hx
   subst e
   have hzm:=List.mem_of_getElem? hzj
   refine⟨?_,?_⟩
   ·rw [List.length_map,List.length_map,List.length_take]
    exact Nat.lt_of_le_of_lt (Nat.le_trans (Nat.min_le_right _ _) hl1) (by decide)
   unfold Yo
   dsimp only
   rw [if_pos rfl]
   refine⟨_,rfl,_,rfl,fa,_,rfl,.inl (SqL.of (s4 _ _ hf)),_,rfl,z.1,_,rfl,SqL.of (s4 _ _ (hz z hzm)),fun p hp=>?_⟩
   rw [List.length_map,Zo,<- List.map_take]
   refine⟨_,rfl,vf (z.2.take fs.length),vf fs,TrAt.ints (a:=p) (SqL.of zj),TrAt.ints (a:=fa) (SqL.of (zq hp _ _ (s4 _ _ hf))),(by rw [ZX];decide),?_,s4.trans (zq hp)⟩
   rw [List.take_succ,hzj]
   have e2:=Zi (z.2.take fs.length) fs
   show _++[V.bl (teq _ _)]=_
   rw [e2]
   simp
  ·rintro ys H4 ⟨rfl,s4⟩ Dd hD
   refine⟨Dd,_,rfl,SqL.of zj,?_⟩
   have q:=kk _ (s4.trans (zq hD (o:=.lst (((zs.take (zs.map fun z=>V.ref z.1).length).map fun z=>decide (z.2.take fs.length=fs)).map V.bl))))
   rw [List.length_map,List.take_length] at q ⊢
   unfold uv at q
   rw [List.any_map] at q ⊢
   exact q
def zfD (ls:ZA) (fs:List Int) (H H':Hp) (v:V):Prop:=(lacks ls fs=false/\v=.non)\/(lacks ls fs=true/\∃ l,v=.ref l/\H l=none/\H' l=some (.lst ((zG ls fs).map V.int)))
def tX:Sp:=fun vs H Q _=>∃ (bl fa:Addr) (zs:ZB) (fs:List Int),vs=[.ref bl,.ref fa]/\H bl=some (.lst (zs.map fun z=>V.ref z.1))/\(∀ z∈zs,H z.1=some (.lst (z.2.map V.int)))/\H fa=some (.lst (fs.map V.int))/\zs.length<=100/\fs.length<=1000/\(∀ z∈zs,z.2≠[]/\z.2.length<=1000) /\
 ∀ v H',zfD (zs.map (·.2)) fs H H' v->Same H H'->Q v H'
theorem Zg:zE ["bad","figures","start"] ["bad","figures"] (zu ug):=⟨rfl,rfl,rfl,by decide +kernel,rfl,by decide +kernel,by decide +kernel⟩
theorem Wv {f f1 f2:Addr} {fd fd1 fd2:FuncData} (D:Df K mg "longest_stand" ug ["bad","figures"] f fd) (yO:Df K mg "lacks_all" wC ["bad","figures"] f1 fd1) (yU:FnOk P w K mg base CX0 2 f1 fd1 ["bad","figures"] vN)
  (qy:Df K mg "begins_one" uO ["bad","figures"] f2 fd2) (T:Blt mg):FnOk P w K mg base CX0 3 f fd ["bad","figures"] tX:=by
 have W3:FnOk P w K mg base CX0 1 f2 fd2 ["bad","figures"] j6:=Xe qy T
 refine D.fn.ok Zg (fun vs H Q E h=>?_) (fun cdv A outer s H vs Q E hr h=>?_)
 ·obtain⟨bl,fa,zs,fs,rfl,_⟩:=h;rfl
 ·obtain⟨bl,fa,zs,fs,rfl,hb,hz,hf,hl1,hl2,ne,kk⟩:=h
  refine⟨_,(zm (yH (uX (wY (zJ yO yU (hr.mono (by decide)) (zf (pv 0) (zf (pv 1) zg)))))
    (zr (zH xq))
    zO)
   (zm (wG PassesOwn.never rfl (yl rfl T.n_range (zf (zz (w6 K) (by rfl) T.n_len PySem.boot_len (zf (pv 1) zg)) zg)) (yh (i:=2) Zg.nd rfl (Or.inl rfl))
    (zr (yH (wY (zJ qy W3 (hr.mono (by decide)) (zf (pv 0) (zf (vU (WY K) (pv 1) (tE (pv 2)) jc) zg))))
     (zr (zH (vU (WY K) (pv 1) (tE (pv 2)) jc)))
     zO)))
   (zr (zH (zU zg))))),?_⟩
  refine⟨_,rfl,_,rfl,bl,fa,zs,fs,rfl,hb,hz,hf,hl1,hl2,ne,fun H1 s1=>⟨_,rfl,?_⟩⟩
  cases hL:lacks (zs.map (·.2)) fs with
  | false=>exact ww (kk _ _ (.inl ⟨hL,rfl⟩) s1)
  | true =>
   refine yZ ?_
   refine⟨_,rfl,fa,_,rfl,.inl (SqL.of (s1 _ _ hf)),(((fs.map V.int).length:Nat):Int),rfl,by rw [List.length_map];omega,by rw [List.length_map];omega,yS (lo:=0) (n:=(((fs.map V.int).length:Nat):Int).toNat) (fun i Z H2=>∃ v1:Option V,Z=[some (.ref bl),some (.ref fa),v1]/\Same H H2/\∀ k,k<i->uv (zs.map (·.2)) (fs.drop k)=false) ⟨none,rfl,s1,fun k hk=>by omega⟩ ?_ ?_⟩
   ·rintro i Z H2 hi ⟨v1,rfl,s2,hno⟩
    have hi':i<fs.length:=by rw [List.length_map] at hi;omega
    refine⟨_,rfl,_,rfl,_,rfl,_,rfl,fa,_,rfl,SqL.of (s2 _ _ hf),fun p hp=>?_⟩
    rw [Int.zero_add,Zj,<- List.map_drop]
    have t:=s2.trans (zq hp (o:=.lst ((fs.drop i).map V.int)))
    refine⟨bl,p,zs,fs.drop i,rfl,t _ _ hb,fun z hzm=>t _ _ (hz z hzm),zj,hl1,fun H3 s3=>⟨_,rfl,?_⟩⟩
    have t3:=t.trans s3
    cases hB:uv (zs.map (·.2)) (fs.drop i) with
    | true =>
     refine ww ⟨_,rfl,_,rfl,_,rfl,fa,_,rfl,SqL.of (t3 _ _ hf),fun q hq=>?_⟩
     rw [Zj,<- List.map_drop]
     refine kk _ _ (.inr ⟨hL,q,rfl,t3.free hq,?_⟩) (t3.trans (zq hq))
     rw [zj,zdF (by omega) hno hB]
    | false =>
     refine yZ ⟨_,rfl,t3,fun k hk=>?_⟩
     by_cases e:k<i
     ·exact hno k e
     ·have:k=i:=by omega
      rw [this];exact hB
   ·rintro Z H2 ⟨v1,rfl,s2,hno⟩
    refine⟨(by decide:0<=sizeLine),fun q hq=>kk _ _ (.inr ⟨hL,q,rfl,s2.free hq,?_⟩) (s2.trans (zq hq))⟩
    rw [zj,zbA (fun k hk=>hno k (by rw [List.length_map];omega))]
    rfl
end
section
variable {P:Program} {w:World} {K:W.Frag} {mg:Str->Option Value} {base:Heap} {T0:Addr}
def lamP:Pos:=⟨112,29,112,59⟩
def zfh:Scope:=match (xu yj).getLast? with
 | some (.Return (some (.Call _ _ [⟨_,.Lambda _ _ sc _,_⟩] _)) _)=>sc
 | _=>zu yj
theorem zf2:zE ["each"] ["each"] zfh:=⟨rfl,rfl,rfl,by decide +kernel,rfl,by decide +kernel,by decide +kernel⟩
theorem zdL {H H':Hp} {p:Addr} {o:HO} (s:Same H H') (h:H p=none):Same H (upd H' p o):=fun b u e=>by rw [zx (zF e h)];exact s b u e
def SameL (T:Addr) (H H':Hp):Prop:=∀ b u,b≠T->H b=some u->H' b=some u
abbrev LT (T:Addr) (H:Hp):Prop:=Xr T lamP ((("stands_of" : Str)++(".<locals>." : Str))++("<lambda>" : Str)) H
theorem SameL.of {T:Addr} {H H':Hp} (s:Same H H'):SameL T H H':=fun b u _ e=>s b u e
theorem SameL.trans {T:Addr} {H H1 H2:Hp} (a:SameL T H H1) (b:SameL T H1 H2):SameL T H H2:=fun c u h e=>b c u h (a c u h e)
theorem LT.same {T:Addr} {H H':Hp} (h:LT T H) (s:Same H H'):LT T H':=by
 rcases h with h | ⟨c,h1,h2⟩
 ·exact .inl (s _ _ h)
 ·exact .inr ⟨c,s _ _ h1,s _ _ h2⟩
theorem LT.lst {T:Addr} {H:Hp} (h:LT T H) {b:Addr} {xs:List V} (e:H b=some (.lst xs)):b≠T:=fun z=>by
 rw [z] at e
 rcases h with h | ⟨c,h,_⟩
 ·rw [h] at e;cases e
 ·rw [h] at e;cases e
theorem LT.tup {T:Addr} {H:Hp} (h:LT T H) {b:Addr} {xs:List V} (e:H b=some (.tup xs)):b≠T:=fun z=>by
 rw [z] at e
 rcases h with h | ⟨c,h,_⟩
 ·rw [h] at e;cases e
 ·rw [h] at e;cases e
theorem LT.none {T:Addr} {H:Hp} (h:LT T H) {b:Addr} (e:H b=none):b≠T:=fun z=>by
 rw [z] at e
 rcases h with h | ⟨c,h,_⟩
 ·rw [h] at e;cases e
 ·rw [h] at e;cases e
def Z6 (T:Addr):Sp:=fun vs H Q _=>∃ (bl:Addr) (zs:ZB),vs=[.ref bl]/\H bl=some (.lst (zs.map fun z=>V.ref z.1))/\(∀ z∈zs,H z.1=some (.lst (z.2.map V.int)))/\zs.length<=4/\(∀ z∈zs,z.2≠[]/\z.2.length<=4)/\LT T H /\
 ∀ (D:Addr) (ws:ZB) (H':Hp),H D=none->H' D=some (.lst (ws.map fun z=>V.ref z.1))->(∀ z∈ws,H z.1=none/\H' z.1=some (.lst (z.2.map V.int))/\z.1≠D)->StandsL (zs.map (·.2)) (ws.map (·.2))->ws.length<=13->SameL T H H'->LT T H'->Q (.ref D) H'
theorem u9:zE ["bad","found","stretch","size","stand"] ["bad"] (zu yj):=⟨rfl,rfl,rfl,by decide +kernel,rfl,by decide +kernel,by decide +kernel⟩
theorem JD {f f1 c:Addr} {fd fd1:FuncData} (D:Df K mg "stands_of" yj ["bad"] f fd) (hc:fd.code=.ref c) (hcT:W.codeHdIn K c T0=true) (hBM:base.BuiltinsAt mg T0) (hgT:mainGlobals≠T0) (yO:Df K mg "lacks_all" wC ["bad","figures"] f1 fd1) (yU:FnOk P w K mg base CX0 2 f1 fd1 ["bad","figures"] vN) (T:Blt mg) :
  FnOk P w K mg base CX0 6 f fd ["bad"] (Z6 T0):=by
 obtain⟨oc,od,kV,doc,pm,an,cdv,ct,osl,rfl,lk,hcd⟩:=D.fn.ex
 obtain rfl:cdv=.ref c:=hc
 refine zc6 lk hcd u9 (fun vs H Q E h=>?_) (fun A outer s H vs Q E hr h=>?_)
 ·obtain⟨bl,zs,rfl,_⟩:=h;rfl
 ·obtain⟨bl,zs,rfl,hb,hz,h4,hst,hLT,kk⟩:=h
  have HU:=zaE hr
  have lam_body:∀ (f' c':Addr) (s':Shared) (H':Hp) (z:Addr×List Int),H' z.1=some (.lst (z.2.map V.int))->∃ t,PE (YW CX0 P w K mg base ["each"] ((("stands_of" : Str)++(".<locals>." : Str))++("<lambda>" : Str)) zfh f' (.ref c') (A.deeper (envOfC "stands_of" (zu yj) s.heap.objs.size f (.ref c))).in1.in1 (envOfC "stands_of" (zu yj) s.heap.objs.size f (.ref c) :: outer) s' H' E0)
    (match (xu yj).getLast? with
     | some (.Return (some (.Call _ _ [⟨_,.Lambda _ b _ _,_⟩] _)) _)=>b
     | _=>.Constant .none 0 ⟨0,0,0,0⟩) t /\
    t (start ["each"] [.ref z.1]) H' fun v H2=>∃ p,v=.ref p/\H' p=none/\H2=upd H' p (.tup [.int z.2.length,.ref z.1]):=by
   intro f' c' s' H' z hz'
   refine⟨_,(wz (zf (zz (w6 K) (by rfl) T.n_len PySem.boot_len (zf (pv 0) zg)) (zf (pv 0) zg))),?_⟩
   refine⟨_,rfl,z.1,_,rfl,.inl (SqL.of hz'),_,rfl,(by show 2<=sizeLine;decide),fun p hp=>⟨p,rfl,hp,?_⟩⟩
   rw [List.length_map]
  refine Exists.elim (?key:∃ t,PSs (YW CX0 P w K mg base ["bad","found","stretch","size","stand"] "stands_of" (zu yj) f (.ref c) A outer s H E).nox (xu yj) t/\t { nx:=fun _ H'=>Q .non H',rt:=Q } (start ["bad","found","stretch","size","stand"] [.ref bl]) H) fun t h=>⟨t,h.1.nox,h.2⟩
  refine⟨_,(zm (zB (i:=1) u9.nd rfl (Or.inl rfl) (zU (zf (zU zg) zg)))
   (zm (wG PassesOwn.never rfl (YX K (pv 0)) (yh (i:=2) u9.nd rfl (Or.inl rfl))
    (zr (wG PassesOwn.never rfl (Ws rfl T.n_range (zf zp (zf (zz (w6 K) (by rfl) T.n_len PySem.boot_len (zf (pv 2) zg)) zg))) (yh (i:=3) u9.nd rfl (Or.inl rfl))
     (zm (zB (i:=4) u9.nd rfl (Or.inl rfl) (vU (WY K) (pv 2) jc (tE (pv 3))))
     (zr (yH (PW.pt (Jx (zN (zdB K HU) (pv 4) (pv 1) (by with_unfolding_all rfl)) (Vn (wY (zJ yO yU (hr.mono (by decide)) (zf (pv 0) (zf (pv 4) zg)))))))
      (zr (xG (Y5 PySem.F.plainAttrs_list PySem.F.slot_list_append PySem.F.type_list_append vM (pv 1) (zf (pv 4) zg))))
      zO))))))
   (zr (zH (zbd (k:=1) (pv 1) rfl T.n_sorted (hr.mono (by decide)) rfl rfl rfl hcT hBM hgT zf2 (fun _ _ _ _=>rfl) lam_body))))),?_⟩
  have hls:∀ st∈zs.map (·.2),st≠[]/\st.length<=4:=fun st h=>by obtain⟨z,hz,rfl⟩:=List.mem_map.mp h;exact hst z hz
  refine⟨(by decide:0<=sizeLine),fun e0 he0=>⟨(by show 1<=sizeLine;decide),fun fo hfo=>?_⟩⟩
  have hfoH:H fo=none:=(zq he0).free hfo
  have nef:e0≠fo:=fun z=>by rw [<- z,zj] at hfo;cases hfo
  let Inv1:ZB->(List Int->Prop)->Hp->Prop:=fun ws M H2=>H2 fo=some (.lst (ws.map fun z=>V.ref z.1))/\(∀ z∈ws,H z.1=none/\H2 z.1=some (.lst (z.2.map V.int))/\z.1≠fo)/\(ws.map (·.2)).Nodup/\(∀ x,x∈ws.map (·.2)↔M x)/\Same H H2
  let M1:Nat->List Int->Prop:=fun i x=>x=[]\/∃ z∈zs.take i,∃ k,1<=k/\k<z.2.length/\x=z.2.take k/\lacks (zs.map (·.2)) x=true
  refine⟨_,rfl,bl,rfl,⟨_,SqL.of ((zq he0).trans (zq hfo) _ _ hb)⟩,Vv (K:=K) (a:=bl) (xs:=zs.map fun z=>V.ref z.1) (fun i Z H2=>∃ (v2 v3 v4:Option V) (ws:ZB),Z=[some (.ref bl),some (.ref fo),v2,v3,v4]/\Inv1 ws (M1 i) H2/\ws.length<=1+3*i)
   ⟨none,none,none,[(e0,[])],rfl,⟨zj,fun z hz'=>?_,by simp,fun x=>?_,(zq he0).trans (zq hfo)⟩,by simp⟩ (fun i Z H2 _ ⟨_,_,_,_,_,⟨_,_,_,_,e⟩,_⟩=>SqL.of (e _ _ hb)) ?_ ?_⟩
  ·have e:z=(e0,[]):=by simpa using hz'
   subst e
   exact⟨he0,by rw [zx nef,zj];rfl,nef⟩
  ·constructor
   ·intro hx
    exact .inl (by simpa using hx)
   ·rintro (rfl | ⟨z,hz',_⟩)
    ·simp
    ·simp at hz'
  ·rintro i x Z H2 hx ⟨v2,v3,v4,ws,rfl,⟨hF,hW,ndW,hM,sm⟩,hlen⟩
   rw [List.getElem?_map] at hx
   obtain⟨z,hzj,e⟩:=Option.map_eq_some_iff.mp hx
   subst e
   have hzm:=List.mem_of_getElem? hzj
   have hi4:i<zs.length:=(List.getElem?_eq_some_iff.mp hzj).1
   obtain⟨hne,hz4⟩:=hst z hzm
   have hpos:0<z.2.length:=List.length_pos_iff.mpr hne
   refine⟨_,rfl,z.1,_,rfl,.inl (SqL.of (sm _ _ (hz z hzm))),1,_,rfl,?_,?_⟩
   ·rw [List.length_map];omega
   rw [List.length_map]
   refine yS (lo:=1) (n:=((z.2.length:Int)-1).toNat) (fun j Z H3=>∃ (v3 v4:Option V) (ws:ZB),Z=[some (.ref bl),some (.ref fo),some (.ref z.1),v3,v4]/\Inv1 ws (fun x=>M1 i x\/∃ k,1<=k/\k<=j/\x=z.2.take k/\lacks (zs.map (·.2)) x=true) H3/\ws.length<=1+3*i+j)
    ⟨_,_,ws,rfl,⟨hF,hW,ndW,fun x=>?_,sm⟩,hlen⟩ ?_ ?_
   ·rw [hM]
    constructor
    ·exact .inl
    ·rintro (h | ⟨k,h1,h2,_⟩)
     ·exact h
     ·omega
   ·rintro j Z H3 hj ⟨v3,v4,ws,rfl,⟨hF,hW,ndW,hM,sm⟩,hlen⟩
    have hj':j+1<z.2.length:=by omega
    refine⟨_,rfl,_,rfl,_,rfl,z.1,_,rfl,SqL.of (sm _ _ (hz z hzm)),fun p hp=>?_⟩
    rw [show (1:Int)+(j:Int)=((j+1:Nat):Int) by omega,Zo,<- List.map_take]
    have sm2:=sm.trans (zq hp (o:=.lst ((z.2.take (j+1)).map V.int)))
    have hF2:(upd H3 p (.lst ((z.2.take (j+1)).map V.int))) fo=some (.lst (ws.map fun z=>V.ref z.1)):=zq hp _ _ hF
    have hW2:∀ y∈ws,H y.1=none/\(upd H3 p (.lst ((z.2.take (j+1)).map V.int))) y.1=some (.lst (y.2.map V.int))/\y.1≠fo:=fun y hy=>⟨(hW y hy).1,zq hp _ _ (hW y hy).2.1,(hW y hy).2.2⟩
    have npf:p≠fo:=fun y=>by rw [y,hF] at hp;cases hp
    have hpH:H p=none:=sm.free hp
    generalize hx:z.2.take (j+1)=x at *
    have hxl:x.length<=4:=by rw [<- hx,List.length_take];omega
    have stay:(x∈ws.map (·.2)\/lacks (zs.map (·.2)) x=false)->∀ y,y∈ws.map (·.2)↔(M1 i y\/∃ k,1<=k/\k<=j+1/\y=z.2.take k/\lacks (zs.map (·.2)) y=true):=fun hor y=>by
     constructor
     ·intro hy
      rcases (hM y).mp hy with h | ⟨k,h1,h2,h3⟩
      ·exact .inl h
      ·exact .inr ⟨k,h1,by omega,h3⟩
     ·rintro (h | ⟨k,h1,h2,h3,h4⟩)
      ·exact (hM y).mpr (.inl h)
      ·by_cases hk:k<=j
       ·exact (hM y).mpr (.inr ⟨k,h1,hk,h3,h4⟩)
       ·have:k=j+1:=by omega
        rw [this,hx] at h3
        rw [h3] at h4 ⊢
        rcases hor with h | h
        ·exact h
        ·rw [h] at h4;cases h4
    refine⟨_,rfl,_,rfl,fo,_,(ws.map (·.2)).map vf,vf x,rfl,SqL.of hF2,TrsAt.lists (fun y hy=>(hW2 y hy).2.1),TrAt.ints (a:=p) (SqL.of zj),Nat.le_trans (jQ _) (by decide),_,rfl,?_⟩
    rw [if_pos rfl,zcq]
    by_cases hin:x∈ws.map (·.2)
    ·rw [decide_eq_true hin]
     refine yZ ?_
     exact yZ ⟨_,_,ws,rfl,⟨hF2,hW2,ndW,stay (.inl hin),sm2⟩,by omega⟩
    ·rw [decide_eq_false hin]
     refine ww ?_
     refine⟨_,rfl,_,rfl,bl,p,zs,x,rfl,sm2 _ _ hb,fun y hy=>sm2 _ _ (hz y hy),zj,by omega,by omega,fun y hy=>⟨(hst y hy).1,Nat.le_trans (hst y hy).2 (by decide)⟩,fun H4 s4=>⟨_,rfl,?_⟩⟩
     have sm4:=sm2.trans s4
     have hF4:=s4 _ _ hF2
     have hW4:∀ y∈ws,H y.1=none/\H4 y.1=some (.lst (y.2.map V.int))/\y.1≠fo:=fun y hy=>⟨(hW2 y hy).1,s4 _ _ (hW2 y hy).2.1,(hW2 y hy).2.2⟩
     have hp4:=s4 _ _ (zj (H:=H3) (a:=p) (o:=.lst (x.map V.int)))
     cases hLk:lacks (zs.map (·.2)) x with
     | false=>exact yZ ⟨_,_,ws,rfl,⟨hF4,hW4,ndW,stay (.inr hLk),sm4⟩,by omega⟩
     | true =>
      refine ww ⟨_,rfl,.inl ⟨rfl,_,SqL.of hF4⟩,_,rfl,fo,_,_,rfl,rfl,hF4,by rw [List.length_map];exact Nat.lt_of_le_of_lt (show ws.length<=100 by omega) (by decide),?_⟩
      refine⟨_,_,ws++[(p,x)],rfl,⟨by rw [zj,List.map_append];rfl,fun y hy=>?_,?_,fun y=>?_,zdL sm4 hfoH⟩,by rw [List.length_append,List.length_singleton];omega⟩
      ·rcases List.mem_append.mp hy with hy | hy
       ·obtain⟨a1,a2,a3⟩:=hW4 y hy
        exact⟨a1,by rw [zx a3];exact a2,a3⟩
       ·rw [List.mem_singleton.mp hy]
        exact⟨hpH,by rw [zx npf];exact hp4,npf⟩
      ·rw [List.map_append]
       refine List.nodup_append.mpr ⟨ndW,by simp,fun a ha b hb'=>?_⟩
       have e:b=x:=by simpa using hb'
       rw [e]
       exact fun q=>hin (q▸ha)
      ·rw [List.map_append,List.mem_append]
       constructor
       ·rintro (h | h)
        ·rcases (hM y).mp h with h | ⟨k,h1,h2,h3⟩
         ·exact .inl h
         ·exact .inr ⟨k,h1,by omega,h3⟩
        ·have e:y=x:=by simpa using h
         rw [e]
         exact .inr ⟨j+1,by omega,Nat.le_refl _,hx.symm,hLk⟩
       ·rintro (h | ⟨k,h1,h2,h3,h4⟩)
        ·exact .inl ((hM y).mpr (.inl h))
        ·by_cases hk:k<=j
         ·exact .inl ((hM y).mpr (.inr ⟨k,h1,hk,h3,h4⟩))
         ·have:k=j+1:=by omega
          rw [this,hx] at h3
          exact .inr (by simp [h3])
   ·rintro Z H3 ⟨v3,v4,ws,rfl,⟨hF,hW,ndW,hM,sm⟩,hlen⟩
    refine⟨_,_,_,ws,rfl,⟨hF,hW,ndW,fun x=>?_,sm⟩,by omega⟩
    rw [hM]
    constructor
    ·rintro ((h | ⟨y,hy,h⟩) | ⟨k,h1,h2,h3⟩)
     ·exact .inl h
     ·exact .inr ⟨y,by rw [List.take_succ];exact List.mem_append_left _ hy,h⟩
     ·exact .inr ⟨z,by rw [List.take_succ,hzj];simp,k,h1,by omega,h3⟩
    ·rintro (h | ⟨y,hy,k,h1,h2,h3⟩)
     ·exact .inl (.inl h)
     ·rw [List.take_succ,hzj] at hy
      rcases List.mem_append.mp hy with hy | hy
      ·exact .inl (.inr ⟨y,hy,k,h1,h2,h3⟩)
      ·have e:y=z:=by simpa using hy
       rw [e] at h2 h3
       exact .inr ⟨k,h1,by omega,h3⟩
  ·rintro Z H2 ⟨v2,v3,v4,ws,rfl,⟨hF,hW,ndW,hM,sm⟩,hlen⟩
   rw [List.length_map] at hM hlen
   refine⟨_,rfl,fo,ws,rfl,hF,fun z hz'=>(hW z hz').2.1,ndW,by omega,hLT.same sm,fun D ws' H3 hD hD3 up lt pm pw=>?_⟩
   have lt2:=hLT.same sm
   have inw:∀ z∈ws',z∈ws:=fun z hz'=>pm.mem_iff.mp hz'
   refine kk D ws' _ (sm.free hD) zj (fun z hz'=>?_) ⟨fun x=>?_,by rw [List.pairwise_map];exact pw⟩ (by rw [pm.length_eq];omega) (fun b u hb' e=>?_) ?_
   ·obtain⟨a1,a2,a3⟩:=hW z (inw z hz')
    have n1:z.1≠D:=zF a2 hD
    exact⟨a1,by rw [zx n1];exact up _ _ (lt2.lst a2) a2,n1⟩
   ·have e:x∈ws'.map (·.2)↔x∈ws.map (·.2):=(pm.map (·.2)).mem_iff
    rw [e,hM]
    show (x=[]\/_)↔(x=[]\/_)
    constructor
    ·rintro (h | ⟨z,hz',k,h1,h2,h3,h4⟩)
     ·exact .inl h
     ·rw [List.take_length] at hz'
      exact .inr ⟨z.2,List.mem_map.mpr ⟨z,hz',rfl⟩,k,h1,h2,h3,h4⟩
    ·rintro (h | ⟨st,hst',k,h1,h2,h3,h4⟩)
     ·exact .inl h
     ·obtain⟨z,hz',rfl⟩:=List.mem_map.mp hst'
      exact .inr ⟨z,by rw [List.take_length];exact hz',k,h1,h2,h3,h4⟩
   ·have q:=up b u hb' (sm _ _ e)
    rw [zx (zF q hD3)];exact q
   ·exact LT.same (show LT T0 H3 from lt) (zq hD3)
def plc (ls ws:ZA) (fs:List Int):V:=if lacks ls fs=true then .int ((ws.idxOf (zG ls fs):Nat):Int) else .non
theorem Yd {x:List Int}:∀ {xs:ZA} {m:Nat},m<xs.idxOf x->∀ h:m<xs.length,xs[m]≠x
 | [],m,h,h'=>by simp at h'
 | y :: ys,m,h,h'=>by
  rw [List.idxOf_cons] at h
  by_cases e:y=x
  ·subst e;simp at h
  ·have e':(y == x)=false:=by simpa using e
   rw [e'] at h
   cases m with
   | zero=>simpa using e
   | succ m=>simpa using Yd (x:=x) (xs:=ys) (m:=m) (by simpa using h) (by simpa using h')
def qP:Sp:=fun vs H Q _=>∃ (bl Dd fa:Addr) (zs ws:ZB) (fs:List Int),vs=[.ref bl,.ref Dd,.ref fa]/\H bl=some (.lst (zs.map fun z=>V.ref z.1))/\(∀ z∈zs,H z.1=some (.lst (z.2.map V.int)))/\H Dd=some (.lst (ws.map fun z=>V.ref z.1))/\(∀ z∈ws,H z.1=some (.lst (z.2.map V.int)))/\H fa=some (.lst (fs.map V.int))/\zs.length<=4/\ws.length<=13/\fs.length<=1000/\(∀ z∈zs,z.2≠[]/\z.2.length<=4) /\
 (lacks (zs.map (·.2)) fs=true->zG (zs.map (·.2)) fs∈ws.map (·.2))/\∀ H',Same H H'->Q (plc (zs.map (·.2)) (ws.map (·.2)) fs) H'
theorem Ye:zE ["bad","stands","figures","stand"] ["bad","stands","figures"] (zu uV):=⟨rfl,rfl,rfl,by decide +kernel,rfl,by decide +kernel,by decide +kernel⟩
theorem Vb {f f1:Addr} {fd fd1:FuncData} (D:Df K mg "place_behind" uV ["bad","stands","figures"] f fd) (uT:Df K mg "longest_stand" ug ["bad","figures"] f1 fd1) (jw:FnOk P w K mg base CX0 3 f1 fd1 ["bad","figures"] tX):FnOk P w K mg base CX0 4 f fd ["bad","stands","figures"] qP:=by
 refine D.fn.ok Ye (fun vs H Q E h=>?_) (fun cdv A outer s H vs Q E hr h=>?_)
 ·obtain⟨bl,Dd,fa,zs,ws,fs,rfl,_⟩:=h;rfl
 ·obtain⟨bl,Dd,fa,zs,ws,fs,rfl,hb,hz,hD,hw,hf,h4,h13,hl,hst,hin,kk⟩:=h
  have HU:=zaE hr
  refine⟨_,(zm (zB (i:=3) Ye.nd rfl (Or.inl rfl) (zJ uT jw (hr.mono (by decide)) (zf (pv 0) (zf (pv 2) zg))))
   (zm (yH (zN Z4 (pv 3) xq (zL _))
    (zr (zH xq))
    zO)
   (zr (zH (Y5 PySem.F.plainAttrs_list PySem.F.slot_list_index PySem.F.type_list_index (zef K HU) (pv 1) (zf (pv 3) zg)))))),?_⟩
  refine⟨_,rfl,_,rfl,bl,fa,zs,fs,rfl,hb,hz,hf,by omega,hl,fun z hz=>⟨(hst z hz).1,Nat.le_trans (hst z hz).2 (by decide)⟩,fun v H1 sv s1=>?_⟩
  have q:=kk H1 s1
  unfold plc at q
  rcases sv with ⟨hL,rfl⟩ | ⟨hL,l,rfl,hn,hv⟩
  ·rw [hL,if_neg (by decide)] at q
   exact⟨_,rfl,rfl,_,rfl,ww q⟩
  ·rw [if_pos hL] at q
   have hm:=hin hL
   have hlt:=List.idxOf_lt_length_iff.mpr hm
   refine⟨_,rfl,rfl,_,rfl,yZ ?_⟩
   refine⟨_,rfl,.inl ⟨rfl,_,SqL.of (s1 _ _ hD)⟩,_,rfl,Dd,_,_,(ws.map (·.2)).map vf,vf (zG (zs.map (·.2)) fs),(ws.map (·.2)).idxOf (zG (zs.map (·.2)) fs),rfl,rfl,SqL.of (s1 _ _ hD),TrsAt.lists (fun z hz=>s1 _ _ (hw z hz)),TrAt.ints (a:=l) (SqL.of hv),Nat.le_trans (jQ _) (by decide),by rw [List.length_map];exact hlt,?_,?_,q⟩
   ·intro t ht
    rw [List.getElem?_map,List.getElem?_eq_getElem hlt,Option.map_some] at ht
    rw [<- Option.some.inj ht,List.getElem_idxOf hlt,Zi,decide_eq_true rfl]
   ·intro m t hm' ht
    rw [List.getElem?_map,List.getElem?_eq_getElem (Nat.lt_trans hm' hlt),Option.map_some] at ht
    rw [<- Option.some.inj ht,Zi,decide_eq_false]
    intro e
    have q3:=Yd hm' (Nat.lt_trans hm' hlt)
    exact q3 e
def Vd (ls ws:ZA) (b:Nat) (x:List Int):List V:=(List.range b).map fun (c:Nat)=>plc ls ws (x++[(c:Int)])
def j8:Sp:=fun vs H Q _=>∃ (r:Addr) (b:Nat) (bl:Addr) (zs:ZB) (Dd:Addr) (ws:ZB) (sa:Addr) (xs:List Int),vs=[.ref r,.ref Dd,.ref sa]/\RuleAt H r b bl zs/\zX b (zs.map (·.2))/\H Dd=some (.lst (ws.map fun z=>V.ref z.1))/\(∀ z∈ws,H z.1=some (.lst (z.2.map V.int)))/\StandsL (zs.map (·.2)) (ws.map (·.2))/\ws.length<=13/\H sa=some (.lst (xs.map V.int))/\xs.length<=100 /\
 ∀ p H',H p=none->Same H H'->H' p=some (.lst (Vd (zs.map (·.2)) (ws.map (·.2)) b xs))->Q (.ref p) H'
theorem UV:zE ["rule","stands","stand"] ["rule","stands","stand"] (zu uF):=⟨rfl,rfl,rfl,by decide +kernel,rfl,by decide +kernel,by decide +kernel⟩
theorem U7 {f f1:Addr} {fd fd1:FuncData} (D:Df K mg "steps_from" uF ["rule","stands","stand"] f fd) (ql:Df K mg "place_behind" uV ["bad","stands","figures"] f1 fd1) (Zb:FnOk P w K mg base CX0 4 f1 fd1 ["bad","stands","figures"] qP) (T:Blt mg):FnOk P w K mg base CX0 5 f fd ["rule","stands","stand"] j8:=by
 refine D.fn.ok UV (fun vs H Q E h=>?_) (fun cdv A outer s H vs Q E hr h=>?_)
 ·obtain⟨r,b,bl,zs,Dd,ws,sa,xs,rfl,_⟩:=h;rfl
 ·obtain⟨r,b,bl,zs,Dd,ws,sa,xs,rfl,R,g,hD,hw,SL,h13,hs,hl,kk⟩:=h
  have h4:zs.length<=4:=by have:=g.len;rwa [List.length_map] at this
  have ne:∀ l∈zs.map (·.2),l≠[]:=fun l hl=>(g.st l hl).ne
  refine⟨_,(zr (zH (wj (show CScope (zu uF) _ "figure" ["rule","stands","stand"] ["stands","rule","stand"] [1,0,2] from ⟨rfl,by decide +kernel,by decide +kernel,rfl,by decide +kernel,rfl,by decide +kernel,by decide +kernel⟩) rfl (yl rfl T.n_range (zf (zP (uH K) (pv 0) zp (fun _ _=>rfl)) zg)) (fun _ _ _ _=>wg) (fun _ _ _ _=>(zJ ql Zb (hr.mono (by decide)) (zf (zP (uH K) (pv 2) zp (fun _ _=>rfl)) (zf (pv 1) (zf (zy jn (pv 3) (zU (zf (pv 0) zg))) zg)))))))),?_⟩
  have b16:=g.b16
  refine⟨_,rfl,r,_,_,V.int b,rfl,rfl,SqT.of R.tu,rfl,(b:Int),rfl,by omega,by omega,ul (lo:=0) (n:=(b:Int).toNat) (fun i ys H4=>ys=Vd (zs.map (·.2)) (ws.map (·.2)) i xs/\Same H H4) ⟨rfl,Same.refl _⟩ ?_ ?_⟩
  ·rintro i ys H4 hi ⟨rfl,s4⟩
   have hi':i<b:=by omega
   refine⟨?_,?_⟩
   ·unfold Vd
    rw [List.length_map,List.length_range]
    exact Nat.lt_of_lt_of_le (show i<16 by omega) (by decide)
   unfold Yo
   dsimp only
   rw [if_pos rfl]
   have R4:=R.same s4
   have hs4:=s4 _ _ hs
   refine⟨_,rfl,r,_,_,V.ref bl,rfl,rfl,SqT.of R4.tu,rfl,_,rfl,_,rfl,_,rfl,(by show 1<=sizeLine;decide),fun p1 q1=>?_⟩
   have n1:sa≠p1:=zF hs4 q1
   refine⟨sa,p1,_,_,rfl,rfl,by rw [zx n1];exact hs4,zj,by rw [List.length_map];exact Nat.le_trans (show xs.length+1<=101 by omega) (by decide),fun p2 q2=>?_⟩
   have t2:=s4.trans ((zq q1 (o:=.lst [V.int (0+(i:Int))])).trans (zq q2 (o:=.lst (xs.map V.int++[V.int (0+(i:Int))]))))
   have R5:=R.same t2
   refine⟨bl,Dd,p2,zs,ws,xs++[0+(i:Int)],rfl,R5.li,R5.st,t2 _ _ hD,fun z hz=>t2 _ _ (hw z hz),by rw [zj,List.map_append];rfl,h4,h13,by rw [List.length_append,List.length_singleton];omega,fun z hz=>⟨(g.st _ (List.mem_map.mpr ⟨z,hz,rfl⟩)).ne,(g.st _ (List.mem_map.mpr ⟨z,hz,rfl⟩)).len⟩,fun h=>(SL.mem _).mpr (t7 ne h),fun H5 s5=>⟨?_,t2.trans s5⟩⟩
   unfold Vd
   rw [List.range_succ,List.map_append,Int.zero_add]
   rfl
  ·rintro ys H4 ⟨rfl,s4⟩ p hp
   refine kk p _ (s4.free hp) (s4.trans (zq hp)) ?_
   rw [zj,Int.toNat_natCast]
def Ux (ls ws:ZA) (b:Nat):List (List V):=ws.map (Vd ls ws b)++[V.int (ws.length:Nat) :: (Vd ls ws b []).drop 1]
def Zz:Sp:=fun vs H Q _=>∃ (r:Addr) (b:Nat) (bl:Addr) (zs:ZB) (Dd:Addr) (ws:ZB),vs=[.ref r,.ref Dd]/\RuleAt H r b bl zs/\zX b (zs.map (·.2))/\H Dd=some (.lst (ws.map fun z=>V.ref z.1))/\(∀ z∈ws,H z.1=some (.lst (z.2.map V.int)))/\StandsL (zs.map (·.2)) (ws.map (·.2))/\ws.length<=13 /\
 ∀ (p:Addr) (rs:List (Addr×List V)) (H':Hp),H p=none->Same H H'->H' p=some (.lst (rs.map fun z=>V.ref z.1))->(∀ z∈rs,H z.1=none/\H' z.1=some (.lst z.2))->rs.map (·.2)=Ux (zs.map (·.2)) (ws.map (·.2)) b->Q (.ref p) H'
theorem Wa:zE ["rule","stands","steps"] ["rule","stands"] (zu qG):=⟨rfl,rfl,rfl,by decide +kernel,rfl,by decide +kernel,by decide +kernel⟩
theorem Jj {f f1:Addr} {fd fd1:FuncData} (D:Df K mg "all_steps" qG ["rule","stands"] f fd) (jU:Df K mg "steps_from" uF ["rule","stands","stand"] f1 fd1) (Yw:FnOk P w K mg base CX0 5 f1 fd1 ["rule","stands","stand"] j8) (T:Blt mg):FnOk P w K mg base CX0 6 f fd ["rule","stands"] Zz:=by
 refine D.fn.ok Wa (fun vs H Q E h=>?_) (fun cdv A outer s H vs Q E hr h=>?_)
 ·obtain⟨r,b,bl,zs,Dd,ws,rfl,_⟩:=h;rfl
 ·obtain⟨r,b,bl,zs,Dd,ws,rfl,R,g,hD,hw,SL,h13,kk⟩:=h
  have l3:∀ z∈ws,z.2.length<=3:=fun z hz=>zav (fun st h=>(g.st st h).len) ((SL.mem _).mp (List.mem_map.mpr ⟨z,hz,rfl⟩))
  obtain⟨w1,hw1⟩:=SL.first
  refine⟨_,(zm (V5 (i:=2) (show CScope (zu qG) _ "stand" ["rule","stands","steps"] ["rule","stands"] [0,1] from ⟨rfl,by decide +kernel,by decide +kernel,rfl,by decide +kernel,rfl,by decide +kernel,by decide +kernel⟩) rfl Wa.nd rfl (Or.inl rfl) (YX K (pv 1)) (fun _ _ _ _=>wg) (fun _ _ _ _=>(zJ jU Yw (hr.mono (by decide)) (zf (pv 1) (zf (pv 2) (zf (pv 0) zg))))))
   (zr (zH (zy jn (pv 2) (zU (zf (zy jn (zU (zf (zz (w6 K) (by rfl) T.n_len PySem.boot_len (zf (pv 1) zg)) zg)) (vU (WY K) (zP (yC K) (pv 2) zp (fun _ _=>rfl)) (tE zp) jc)) zg)))))),?_⟩
  refine⟨_,rfl,Dd,rfl,⟨_,SqL.of hD⟩,xJ (K:=K) (a:=Dd) (xs:=ws.map fun z=>V.ref z.1) (fun i ys H4=>∃ rs:List (Addr×List V),ys=(rs.map fun z=>V.ref z.1)/\(∀ z∈rs,H z.1=none/\H4 z.1=some (.lst z.2))/\rs.map (·.2)=(ws.take i).map (fun z=>Vd (zs.map (·.2)) (ws.map (·.2)) b z.2)/\Same H H4) ⟨[],rfl,fun z hz=>(by cases hz),rfl,Same.refl _⟩ (fun i ys H4 _ ⟨_,_,_,_,e⟩=>SqL.of (e _ _ hD)) ?_ ?_⟩
  ·rintro j x ys H4 hx ⟨rs,rfl,hrs,hr2,s4⟩
   rw [List.getElem?_map] at hx
   obtain⟨z,hzj,e⟩:=Option.map_eq_some_iff.mp hx
   subst e
   have hzm:=List.mem_of_getElem? hzj
   refine⟨?_,?_⟩
   ·have e1:=congrArg List.length hr2
    rw [List.length_map,List.length_map,List.length_take] at e1
    rw [List.length_map,e1]
    exact Nat.lt_of_le_of_lt (Nat.le_trans (Nat.min_le_right _ _) h13) (by decide)
   unfold Yo
   dsimp only
   rw [if_pos rfl]
   refine⟨_,rfl,_,rfl,_,rfl,r,b,bl,zs,Dd,ws,z.1,z.2,rfl,R.same s4,g,s4 _ _ hD,fun z hz=>s4 _ _ (hw z hz),SL,h13,s4 _ _ (hw z hzm),Nat.le_trans (l3 z hzm) (by decide),fun p H5 hp s5 hv=>?_⟩
   refine⟨rs++[(p,Vd (zs.map (·.2)) (ws.map (·.2)) b z.2)],by simp,fun y hy=>?_,?_,s4.trans s5⟩
   ·rcases List.mem_append.mp hy with h | h
    ·exact⟨(hrs y h).1,s5 _ _ (hrs y h).2⟩
    ·rw [List.mem_singleton] at h
     subst h
     exact⟨s4.free hp,hv⟩
   ·rw [List.map_append,hr2,List.take_succ,hzj]
    simp
  ·rintro ys H4 ⟨rs,rfl,hrs,hr2,s4⟩ p hp
   have hl2:=congrArg List.length hr2
   rw [List.length_map,List.take_length] at hr2
   rw [List.length_map,List.length_map,List.length_take,List.length_map,Nat.min_self] at hl2
   obtain⟨w0,ws',rfl⟩:∃ w0 ws',ws=w0 :: ws':=by
    cases ws with
    | nil=>simp at hw1
    | cons a b=>exact⟨a,b,rfl⟩
   have hw0:w0.2=[]:=by
    rw [List.map_cons] at hw1
    exact (List.cons.inj hw1).1
   obtain⟨r0,rs',rfl⟩:∃ r0 rs',rs=r0 :: rs':=by
    cases rs with
    | nil=>simp at hl2
    | cons a b=>exact⟨a,b,rfl⟩
   have hr0:r0.2=Vd (zs.map (·.2)) ((w0 :: ws').map (·.2)) b []:=by
    have e:=(List.cons.inj hr2).1
    rw [<- hw0]
    exact e
   have t4:=s4.trans (zq hp (o:=.lst ((r0 :: rs').map fun z=>V.ref z.1)))
   have hr04:∀ z∈r0 :: rs',upd H4 p (.lst ((r0 :: rs').map fun z=>V.ref z.1)) z.1=some (.lst z.2):=fun z hz=>zq hp _ _ (hrs z hz).2
   refine⟨_,rfl,_,rfl,Dd,_,rfl,.inl (SqL.of (t4 _ _ hD)),(by show 1<=sizeLine;decide),fun p1 q1=>?_⟩
   have u1:=zq q1 (o:=.lst [V.int (((w0 :: ws').map fun z=>V.ref z.1).length:Nat)])
   refine⟨_,rfl,p,_,_,V.ref r0.1,rfl,rfl,SqL.of (u1 _ _ zj),vG (j:=0) rfl,_,rfl,r0.1,_,rfl,SqL.of (u1 _ _ (hr04 r0 List.mem_cons_self)),fun p2 q2=>?_⟩
   have hb1:r0.2.length<=16:=by
    rw [hr0]
    unfold Vd
    rw [List.length_map,List.length_range]
    exact g.b16
   have u2:=u1.trans (zq q2 (o:=.lst (uR r0.2 (some 1) none)))
   refine⟨p1,p2,_,_,rfl,rfl,zq q2 _ _ zj,zj,?_,fun p3 q3=>?_⟩
   ·rw [show (1:Int)=((1:Nat):Int) from rfl,Zj,List.length_drop,List.length_singleton]
    exact Nat.le_trans (show 1+(r0.2.length-1)<=100 by omega) (by decide)
   have ev:([V.int (((w0 :: ws').map fun z=>V.ref z.1).length:Nat)]++uR r0.2 (some 1) none)=V.int (((w0 :: ws').map (·.2)).length:Nat) :: (Vd (zs.map (·.2)) ((w0 :: ws').map (·.2)) b []).drop 1:=by
    rw [show (1:Int)=((1:Nat):Int) from rfl,Zj,hr0,List.length_map,List.length_map]
    rfl
   have u3:=u2.trans (zq q3 (o:=.lst ([V.int (((w0 :: ws').map fun z=>V.ref z.1).length:Nat)]++uR r0.2 (some 1) none)))
   refine⟨(by show 1<=sizeLine;decide),fun p4 q4=>?_⟩
   have u4:=u3.trans (zq q4 (o:=.lst [V.ref p3]))
   refine⟨p,p4,_,_,rfl,rfl,u4 _ _ zj,zj,?_,fun p5 q5=>?_⟩
   ·rw [List.length_map,List.length_singleton]
    exact Nat.le_trans (show (r0 :: rs').length+1<=100 by omega) (by decide)
   have u5:=u4.trans (zq q5 (o:=.lst ((r0 :: rs').map (fun z=>V.ref z.1)++[V.ref p3])))
   refine kk p5 (r0 :: rs'++[(p3,[V.int (((w0 :: ws').map fun z=>V.ref z.1).length:Nat)]++uR r0.2 (some 1) none)]) _ (t4.free (u4.free q5)) (t4.trans u5) ?_ ?_ ?_
   ·rw [zj,List.map_append]
    rfl
   ·intro z hz
    rcases List.mem_append.mp hz with h | h
    ·exact⟨(hrs z h).1,u5 _ _ (hr04 z h)⟩
    ·rw [List.mem_singleton] at h
     subst h
     exact⟨t4.free (u2.free q3),zq q5 _ _ (zq q4 _ _ zj)⟩
   ·rw [List.map_append,hr2,ev]
    unfold Ux
    rw [List.map_map]
    rfl
end
structure ClT (K:W.Frag) (mg:Str->Option Value) (C:Addr):Prop where
 cl:Cls K C
 nm:mg "Tails" = some (.ref C)
 n_base:NoAttr K C "base"
 n_outset:NoAttr K C "outset"
 n_steps:NoAttr K C "steps"
 n_layers:NoAttr K C "layers"
def XS (b n:Nat) (sa la:Addr):List (Str×V):=wB "layers" (.ref la) (wB "steps" (.ref sa) (wB "outset" (.int n) (wB "base" (.int b) [])))
theorem QQ (b n:Nat) (sa la:Addr):(XS b n sa la).lookup ("base" : Str)=some (.int b):=by
 unfold XS
 rw [zW,if_neg (by decide +kernel),zW,if_neg (by decide +kernel),zW,if_neg (by decide +kernel),zW,if_pos rfl]
theorem uB (b n:Nat) (sa la:Addr):(XS b n sa la).lookup ("outset" : Str)=some (.int n):=by
 unfold XS
 rw [zW,if_neg (by decide +kernel),zW,if_neg (by decide +kernel),zW,if_pos rfl]
theorem Xf (b n:Nat) (sa la:Addr):(XS b n sa la).lookup ("steps" : Str)=some (.ref sa):=by
 unfold XS
 rw [zW,if_neg (by decide +kernel),zW,if_pos rfl]
theorem jN (b n:Nat) (sa la:Addr):(XS b n sa la).lookup ("layers" : Str)=some (.ref la):=by
 unfold XS
 rw [zW,if_pos rfl]
theorem xY (b n:Nat) (sa la:Addr) {m:Str} (h1:¬ m = "layers":=by decide +kernel) (h2:¬ m = "steps":=by decide +kernel) (h3:¬ m = "outset":=by decide +kernel) (h4:¬ m = "base":=by decide +kernel):(XS b n sa la).lookup m=none:=by
 unfold XS
 rw [zW,if_neg h1,zW,if_neg h2,zW,if_neg h3,zW,if_neg h4]
 rfl
def wk (ls ws:ZA) (b t:Nat):List Int:=(ws.map fun x=>((cnt ls b t x:Nat):Int))++[((yI ls b t:Nat):Int)]
def stepV (ls ws:ZA):Option (List Int)->Nat->V
 | some x,c=>plc ls ws (x++[(c:Int)])
 | none,c=>if c=0 then .int (ws.length:Nat) else plc ls ws [(c:Int)]
theorem jF (ls ws:ZA) (c:Nat):stepV ls ws none c=if c=0 then .int (ws.length:Nat) else plc ls ws [(c:Int)]:=rfl
theorem za6 (ls:ZA) (b t:Nat) (x:List Int) (c:Nat):Yh ls b t (some x) c=if lacks ls (x++[(c:Int)])=true then cnt ls b t (zG ls (x++[(c:Int)])) else 0:=rfl
theorem Xy (ls:ZA) (b t:Nat) (c:Nat):Yh ls b t none c=if c=0 then yI ls b t else if lacks ls [(c:Int)]=true then cnt ls b t (zG ls [(c:Int)]) else 0:=rfl
theorem Ua {ls ws:ZA} {b i:Nat} (hb:1<=b) (hi:i<=ws.length):(Ux ls ws b)[i]?=some ((List.range b).map (stepV ls ws ws[i]?)):=by
 unfold Ux
 by_cases h:i<ws.length
 ·rw [List.getElem?_append_left (by rw [List.length_map];exact h),List.getElem?_map,List.getElem?_eq_getElem h]
  rfl
 ·have e:i=ws.length:=by omega
  subst e
  rw [List.getElem?_append_right (by rw [List.length_map];exact Nat.le_refl _),List.length_map,Nat.sub_self,List.getElem?_eq_none (Nat.le_refl _)]
  show some _=some _
  congr 1
  obtain⟨k,rfl⟩:∃ k,b=k+1:=⟨b-1,by omega⟩
  unfold Vd
  rw [List.range_succ_eq_map,List.map_cons,List.map_cons,List.drop_succ_cons,List.drop_zero]
  rw [List.map_map,List.map_map]
  rfl
structure TailsAt (C:Addr) (H:Hp) (p la:Addr) (b:Nat) (ls ws:ZA) (L:Nat):Prop where
 ob:∃ (dx sa:Addr) (srs:List (Addr×List V)),aw [la] H p=some (.ins C dx (XS b ws.length sa la))/\aw [la] H sa=some (.lst (srs.map fun z=>V.ref z.1))/\(∀ z∈srs,aw [la] H z.1=some (.lst z.2))/\srs.map (·.2)=Ux ls ws b
 ly:∃ lrs:ZB,H la=some (.lst (lrs.map fun z=>V.ref z.1))/\(∀ z∈lrs,aw [la] H z.1=some (.lst (z.2.map V.int)))/\lrs.map (·.2)=(List.range L).map (wk ls ws b)
 l1:1<=L
structure GoodT (b:Nat) (ls ws:ZA):Prop where
 g:zX b ls
 s:StandsL ls ws
 h13:ws.length<=13
theorem GoodT.ne {b:Nat} {ls ws:ZA} (G:GoodT b ls ws):∀ l∈ls,l≠[]:=fun l hl=>(G.g.st l hl).ne
theorem TailsAt.same {C p la b:Nat} {H H':Hp} {ls ws:ZA} {L:Nat} (A:TailsAt C H p la b ls ws L) (m:Same H H'):TailsAt C H' p la b ls ws L:=by
 obtain⟨dx,sa,srs,h1,h2,h3,h4⟩:=A.ob
 obtain⟨lrs,g1,g2,g3⟩:=A.ly
 have m':=m.aw [la]
 exact⟨⟨dx,sa,srs,m' _ _ h1,m' _ _ h2,fun z hz=>m' _ _ (h3 z hz),h4⟩,⟨lrs,m _ _ g1,fun z hz=>m' _ _ (g2 z hz),g3⟩,A.l1⟩
theorem J4 {ls ws:ZA} {b t:Nat} (G:GoodT b ls ws) {i c:Nat} (hi:i<=ws.length) :
  (stepV ls ws ws[i]? c=.non/\Yh ls b t ws[i]? c=0)\/∃ j:Nat,stepV ls ws ws[i]? c=.int j/\j<=ws.length/\(wk ls ws b t)[j]?=some ((Yh ls b t ws[i]? c:Nat):Int):=by
 have at_:∀ fs:List Int,lacks ls fs=true->∃ j:Nat,plc ls ws fs=.int j/\j<=ws.length/\(wk ls ws b t)[j]?=some ((cnt ls b t (zG ls fs):Nat):Int):=by
  intro fs h
  have hm:zG ls fs∈ws:=(G.s.mem _).mpr (t7 G.ne h)
  have hlt:=List.idxOf_lt_length_iff.mpr hm
  refine⟨ws.idxOf (zG ls fs),by unfold plc;rw [if_pos h],Nat.le_of_lt hlt,?_⟩
  unfold wk
  rw [List.getElem?_append_left (by rw [List.length_map];exact hlt),List.getElem?_map,List.getElem?_eq_getElem hlt,List.getElem_idxOf hlt]
  rfl
 cases hw:ws[i]? with
 | some x =>
  show (plc ls ws (x++[(c:Int)])=.non/\(if lacks ls (x++[(c:Int)])=true then _ else 0)=0)\/_
  by_cases h:lacks ls (x++[(c:Int)])=true
  ·right
   obtain⟨j,h1,h2,h3⟩:=at_ _ h
   refine⟨j,h1,h2,?_⟩
   rw [h3,za6,if_pos h]
  ·left
   exact⟨by unfold plc;rw [if_neg h],by rw [if_neg h]⟩
 | none =>
  by_cases h0:c=0
  ·right
   refine⟨ws.length,by rw [jF,if_pos h0],Nat.le_refl _,?_⟩
   unfold wk
   rw [Xy,if_pos h0,List.getElem?_append_right (by rw [List.length_map];exact Nat.le_refl _),List.length_map,Nat.sub_self]
   rfl
  ·by_cases h:lacks ls [(c:Int)]=true
   ·right
    obtain⟨j,h1,h2,h3⟩:=at_ _ h
    refine⟨j,by rw [jF,if_neg h0];exact h1,h2,?_⟩
    rw [h3,Xy,if_neg h0,if_pos h]
   ·left
    refine⟨?_,?_⟩
    ·rw [jF,if_neg h0];unfold plc;rw [if_neg h]
    ·rw [Xy,if_neg h0,if_neg h]
theorem UJ {fp:List Addr} {H:Hp} {b:Addr} {o:HO} (h:b∈fp):aw fp (upd H b o)=aw fp H:=by
 funext c
 by_cases hc:c∈fp
 ·rw [Ue hc,Ue hc]
 ·rw [yJ hc,yJ hc,zx (fun z:c=b=>hc (by rw [z];exact h))]
section
variable {P:Program} {w:World} {K:W.Frag} {mg:Str->Option Value} {base:Heap} {T0 C:Addr}
def Zy (C:Addr):Sp:=fun vs H Q _=>∃ (p la:Addr) (b:Nat) (ls ws:ZA) (L t:Nat) (lay:Addr) (i s:Nat),vs=[.ref p,.ref lay,.int i,.int s]/\TailsAt C H p la b ls ws L/\GoodT b ls ws/\H lay=some (.lst ((wk ls ws b t).map V.int))/\i<=ws.length/\s<=b /\
 ∀ H',Same H H'->Q (.int (under ls b t ws[i]? s:Nat)) H'
theorem Wx:zE ["self","layer","place","stop"] ["self","layer","place","stop"] (zu yV):=⟨rfl,rfl,rfl,by decide +kernel,rfl,by decide +kernel,by decide +kernel⟩
theorem Xv {f:Addr} {fd:FuncData} (D:Mt K C "Tails.many_by" "many_by" yV ["self","layer","place","stop"] f fd) (zA:ClT K mg C) (T:Blt mg) (U:Vf mg):FnOk P w K mg base CX0 1 f fd ["self","layer","place","stop"] (Zy C):=by
 refine D.fn.ok Wx (fun vs H Q E h=>?_) (fun cdv A outer s H vs Q E hr h=>?_)
 ·obtain⟨p,la,b,ls,ws,L,t,lay,i,s,rfl,_⟩:=h;rfl
 ·obtain⟨p,la,b,ls,ws,L,t,lay,i,s,rfl,TA,G,hlay,hi,hs,kk⟩:=h
  obtain⟨dx,sa,srs,h1,h2,h3,h4⟩:=TA.ob
  have b16:=G.g.b16
  have b2:=G.g.b2
  refine⟨_,(zr (zH (zz (zdX K rfl) (by rfl) U.n_sum boot_sum (zf (wj (show CScope (zu yV) _ "behind" ["self","layer","place","stop"] ["layer"] [1] from ⟨rfl,by decide +kernel,by decide +kernel,rfl,by decide +kernel,rfl,by decide +kernel,by decide +kernel⟩) rfl (YX K (vU (WY K) (zP (yC K) (jC K (pv 0)) (pv 2) (fun _ _=>rfl)) jc (tE (pv 3)))) (fun _ _ _ _=>(Vl (zN X3 (pv 0) xq (zL _)))) (fun _ _ _ _=>(zP (yC K) (pv 1) (pv 0) (fun _ _=>rfl)))) zg)))),?_⟩
  have hrow:=Ua (ls:=ls) (b:=b) (by omega) hi
  rw [<- h4,List.getElem?_map] at hrow
  obtain⟨z,hz,ez⟩:=Option.map_eq_some_iff.mp hrow
  have hzm:=List.mem_of_getElem? hz
  have hz3:=yG _ _ _ _ (h3 z hzm)
  refine⟨_,rfl,p,C,dx,_,_,rfl,yG _ _ _ _ h1,zA.cl,zA.n_steps,Xf _ _ _ _,_,rfl,sa,_,_,V.ref z.1,rfl,rfl,SqL.of (yG _ _ _ _ h2),vG (by rw [List.getElem?_map,hz];rfl),?_⟩
  refine⟨_,rfl,_,rfl,z.1,_,rfl,SqL.of hz3,fun q hq=>?_⟩
  have m1:=zq hq (o:=.lst (uR z.2 none (some (s:Int))))
  have ecut:uR z.2 none (some (s:Int))=(List.range s).map (stepV ls ws ws[i]?):=by
   rw [Zo,ez,<- List.map_take,List.take_range,Nat.min_eq_left hs]
  rw [ecut] at m1 ⊢
  refine⟨q,rfl,⟨_,SqL.of zj⟩,xJ (K:=K) (a:=q) (xs:=(List.range s).map (stepV ls ws ws[i]?)) (fun k ys H4=>H4=upd H q (.lst ((List.range s).map (stepV ls ws ws[i]?)))/\∃ ms:List Int,ys=ms.map V.int/\ms.length<=k/\ms.sum=((under ls b t ws[i]? k:Nat):Int)) ⟨rfl,[],rfl,Nat.le_refl _,by simp [under]⟩ (fun k ys H4 _ ⟨e,_⟩=>by rw [e];exact SqL.of zj) ?_ ?_⟩
  ·rintro k x ys H4 hx ⟨rfl,ms,rfl,hml,hms⟩
   rw [List.getElem?_map] at hx
   obtain⟨c,hc,e⟩:=Option.map_eq_some_iff.mp hx
   have hk:k<s:=by have:=(List.getElem?_eq_some_iff.mp hc).1;rwa [List.length_range] at this
   have ec:c=k:=by
    rw [List.getElem?_range hk] at hc
    exact (Option.some.inj hc).symm
   subst ec
   subst e
   refine⟨by rw [List.length_map];exact Nat.lt_of_le_of_lt (show ms.length<=16 by omega) (by decide),?_⟩
   have hus:=ux ls b t ws[i]? c
   rcases J4 (t:=t) G (c:=c) hi with ⟨e1,e2⟩ | ⟨j,e1,e2,e3⟩
   ·rw [e1]
    refine⟨_,rfl,rfl,_,rfl,yZ ⟨rfl,ms,rfl,by omega,?_⟩⟩
    rw [hus,e2,hms]
    omega
   ·rw [e1]
    refine⟨_,rfl,rfl,_,rfl,ww ?_⟩
    refine⟨_,rfl,_,rfl,lay,_,_,V.int ((Yh ls b t ws[i]? c:Nat):Int),rfl,rfl,SqL.of (m1 _ _ hlay),vG (by rw [List.getElem?_map,e3];rfl),rfl,ms++[((Yh ls b t ws[i]? c:Nat):Int)],by simp,by rw [List.length_append,List.length_singleton];omega,?_⟩
    rw [List.sum_append,hms,hus]
    simp
  ·rintro ys H4 ⟨rfl,ms,rfl,hml,hms⟩ Dd hD
   refine⟨Dd,ms,rfl,SqL.of zj,?_⟩
   rw [hms,List.length_map,List.length_range]
   exact kk _ (m1.trans (zq hD))
def TQ (C:Addr) (H:Hp) (p la:Addr) (b:Nat) (ls ws:ZA) (L:Nat) (R:Nat->Hp->Prop):Prop:=∀ (L':Nat) (H':Hp),L<=L'->TailsAt C H' p la b ls ws L'->Same (aw [la] H) (aw [la] H')->R L' H'
def Wj (C:Addr):Sp:=fun vs H Q _=>∃ (p la:Addr) (b:Nat) (ls ws:ZA) (L t:Nat),vs=[.ref p,.int t]/\TailsAt C H p la b ls ws L/\GoodT b ls ws/\L<=1000/\t<1000 /\
 ∀ lay:Addr,TQ C H p la b ls ws L fun L' H'=>L'<=max L (t+1)->aw [la] H' lay=some (.lst ((wk ls ws b t).map V.int))->Q (.ref lay) H'
theorem Yz:zE ["self","left","shorter"] ["self","left"] (zu wU):=⟨rfl,rfl,rfl,by decide +kernel,rfl,by decide +kernel,by decide +kernel⟩
theorem J6 {ls ws:ZA} {b t:Nat}:((List.range (ws.length+1)).map fun i=>((under ls b t ws[i]? b:Nat):Int))=wk ls ws b (t+1):=by
 unfold wk
 apply List.ext_getElem?
 intro i
 rw [List.getElem?_map]
 by_cases h:i<ws.length
 ·rw [List.getElem?_range (by omega),List.getElem?_append_left (by rw [List.length_map];exact h),List.getElem?_map,Option.map_some,List.getElem?_eq_getElem h]
  rfl
 ·by_cases h2:i=ws.length
  ·subst h2
   rw [List.getElem?_range (by omega),List.getElem?_append_right (by rw [List.length_map];exact Nat.le_refl _),List.length_map,Nat.sub_self,Option.map_some,List.getElem?_eq_none (Nat.le_refl _)]
   rfl
  ·rw [List.getElem?_eq_none (by rw [List.length_range];omega),List.getElem?_eq_none (by rw [List.length_append,List.length_map,List.length_singleton];omega)]
   rfl
theorem Uv {f f1:Addr} {fd fd1:FuncData} (D:Mt K C "Tails.layer" "layer" wU ["self","left"] f fd) (zQ:Mt K C "Tails.many_by" "many_by" yV ["self","layer","place","stop"] f1 fd1) (zA:ClT K mg C) (T:Blt mg) (U:Vf mg):FnOk P w K mg base CX0 2 f fd ["self","left"] (Wj C):=by
 have uG:FnOk P w K mg base CX0 1 f1 fd1 ["self","layer","place","stop"] (Zy C):=Xv zQ zA T U
 refine D.fn.ok Yz (fun vs H Q E h=>?_) (fun cdv A outer s H vs Q E hr h=>?_)
 ·obtain⟨p,la,b,ls,ws,L,t,rfl,_⟩:=h;rfl
 ·obtain⟨p,la,b,ls,ws,L,t,rfl,TA,G,hL,ht,kk⟩:=h
  have h13:=G.h13
  refine⟨_,(zm (Yj PassesOwn.never (zN XR (zz (w6 K) (by rfl) T.n_len PySem.boot_len (zf (jC K (pv 0)) zg)) (pv 1) (zL _))
    (zm (zB (i:=2) Yz.nd rfl (Or.inr rfl) (zP (yC K) (jC K (pv 0)) (zee zaT zp) (fun _ _=>rfl)))
    (zr (xG (Y5 PySem.F.plainAttrs_list PySem.F.slot_list_append PySem.F.type_list_append vM (jC K (pv 0)) (zf (wj (show CScope (zu wU) _ "place" ["self","left","shorter"] ["shorter","self"] [2,0] from ⟨rfl,by decide +kernel,by decide +kernel,rfl,by decide +kernel,rfl,by decide +kernel,by decide +kernel⟩) rfl (yl rfl T.n_range (zf (zy yF (jC K (pv 0)) zp) zg)) (fun _ _ _ _=>wg) (fun _ _ _ _=>(jt zQ zA.cl uG (hr.mono (by decide)) (pv 2) (zf (pv 1) (zf (pv 0) (zf (jC K (pv 2)) zg)))))) zg))))))
   (zr (zH (zP (yC K) (jC K (pv 0)) (pv 1) (fun _ _=>rfl))))),?_⟩
  refine Ys (fun Z H2=>∃ (v:Option V) (L':Nat),Z=[some (.ref p),some (.int t),v]/\L<=L'/\L'<=max L (t+1)/\TailsAt C H2 p la b ls ws L'/\Same (aw [la] H) (aw [la] H2))
   (fun Z H2=>match H2 la with | some (.lst xs)=>t+1-xs.length | _=>0) ⟨none,L,rfl,Nat.le_refl _,Nat.le_max_left _ _,TA,Same.refl _⟩ ?_ ?_
  ·rintro Z H2 ⟨v,L',rfl,hLL,hLm,TA2,m2⟩
   obtain⟨dx,sa,srs,h1,h2,h3,h4⟩:=TA2.ob
   obtain⟨lrs,g1,g2,g3⟩:=TA2.ly
   have hl:lrs.length=L':=by have:=congrArg List.length g3;rwa [List.length_map,List.length_map,List.length_range] at this
   have hp:=yG _ _ _ _ h1
   have l1:=TA2.l1
   refine⟨_,rfl,p,C,dx,_,_,rfl,hp,zA.cl,zA.n_layers,jN _ _ _ _,la,_,rfl,.inl (SqL.of g1),_,rfl,_,_,rfl,rfl,_,rfl,?_⟩
   rw [List.length_map,hl]
   refine UW (fun hc=>?_) (fun hc=>?_)
   ·have hc':L'<=t:=by have:=of_decide_eq_true hc;omega
    have hlast:lrs[L'-1]?=some lrs[L'-1]:=List.getElem?_eq_getElem (by omega)
    generalize hz:lrs[L'-1]=z at hlast
    have hzm:z∈lrs:=List.mem_of_getElem? hlast
    have hz2:z.2=wk ls ws b (L'-1):=by
     have e:=congrArg (fun l=>l[L'-1]?) g3
     simp only [List.getElem?_map,hlast,List.getElem?_range (show L'-1<L' by omega),Option.map_some] at e
     exact Option.some.inj e
    have elr:lrs=lrs.take (L'-1)++[z]:=by
     have e:=(List.take_append_drop (L'-1) lrs).symm
     rw [List.drop_eq_getElem_cons (show L'-1<lrs.length by omega),hz,List.drop_of_length_le (by omega)] at e
     exact e
    have eat:atI (lrs.map fun z=>V.ref z.1) (-1)=some (V.ref z.1):=by
     rw [elr,List.map_append]
     exact zea _ _
    refine⟨_,rfl,p,C,dx,_,_,rfl,hp,zA.cl,zA.n_layers,jN _ _ _ _,_,rfl,la,_,_,V.ref z.1,rfl,rfl,SqL.of g1,eat,?_⟩
    refine⟨_,rfl,p,C,dx,_,_,rfl,hp,zA.cl,zA.n_layers,jN _ _ _ _,.inl ⟨rfl,_,SqL.of g1⟩,?_⟩
    refine⟨_,rfl,p,C,dx,_,_,rfl,hp,zA.cl,zA.n_outset,uB _ _ _ _,_,_,rfl,rfl,((ws.length:Int)+1),rfl,by omega,by omega,ul (lo:=0) (n:=((ws.length:Int)+1).toNat) (fun i ys H4=>ys=(((List.range i).map fun i=>((under ls b (L'-1) ws[i]? b:Nat):Int))).map V.int/\Same H2 H4) ⟨rfl,Same.refl _⟩ ?_ ?_⟩
    ·rintro i ys H4 hi ⟨rfl,m4⟩
     refine⟨by rw [List.length_map,List.length_map,List.length_range];exact Nat.lt_of_lt_of_le (show i<20 by omega) (by decide),?_⟩
     unfold Yo
     dsimp only
     rw [if_pos rfl]
     have TA4:=TA2.same m4
     have hp4:=m4 _ _ hp
     refine⟨_,rfl,p,dx,_,rfl,hp4,xY _ _ _ _,_,rfl,_,rfl,_,rfl,p,C,dx,_,_,rfl,hp4,zA.cl,zA.n_base,QQ _ _ _ _,?_⟩
     refine⟨p,la,b,ls,ws,L',L'-1,z.1,i,b,by rw [Int.zero_add];rfl,TA4,G,?_,by omega,Nat.le_refl _,fun H5 m5=>⟨?_,m4.trans m5⟩⟩
     ·rw [<- hz2];exact m4 _ _ (yG _ _ _ _ (g2 z hzm))
     ·rw [List.range_succ,List.map_append,List.map_append]
      rfl
    rintro ys H4 ⟨rfl,m4⟩ q hq
    rw [show ((ws.length:Int)+1).toNat=ws.length+1 by omega,J6,show L'-1+1=L' by omega]
    have m5:=zq hq (o:=.lst ((wk ls ws b L').map V.int))
    have gla:=m5 _ _ (m4 _ _ g1)
    have nq:q≠la:=fun e=>by rw [e,m4 _ _ g1] at hq;cases hq
    refine⟨la,_,_,rfl,rfl,gla,by rw [List.length_map,hl];exact Nat.lt_of_le_of_lt (show L'<=1000 by omega) (by decide),?_⟩
    have m25:Same (aw [la] H2) (aw [la] (upd (upd H4 q (.lst ((wk ls ws b L').map V.int))) la (.lst (lrs.map (fun z=>V.ref z.1)++[.ref q])))):=by
     rw [UJ (by simp)]
     exact (m4.trans m5).aw [la]
    refine⟨⟨_,L'+1,rfl,by omega,by omega,⟨⟨dx,sa,srs,m25 _ _ h1,m25 _ _ h2,fun y hy=>m25 _ _ (h3 y hy),h4⟩,⟨lrs++[(q,wk ls ws b L')],by rw [zj];simp,fun y hy=>?_,?_⟩,by omega⟩,m2.trans m25⟩,?_⟩
    ·rcases List.mem_append.mp hy with hy | hy
     ·exact m25 _ _ (g2 y hy)
     ·have e:y=(q,wk ls ws b L'):=by simpa using hy
      subst e
      rw [UJ (by simp),yJ (by simp [nq]),zj]
    ·rw [List.map_append,g3,List.range_succ,List.map_append]
     rfl
    ·show (match (upd (upd H4 q (.lst ((wk ls ws b L').map V.int))) la (.lst (lrs.map (fun z=>V.ref z.1)++[.ref q]))) la with | some (.lst xs)=>t+1-xs.length | _=>0)<(match H2 la with | some (.lst xs)=>t+1-xs.length | _=>0)
     rw [zj,g1]
     show t+1-(lrs.map (fun z=>V.ref z.1)++[V.ref q]).length<t+1-(lrs.map fun z=>V.ref z.1).length
     rw [List.length_append,List.length_map,List.length_singleton]
     omega
   ·have hc':t<L':=by
     by_cases z:t<L'
     ·exact z
     ·exact absurd (decide_eq_true (by omega:(L':Int)<=t)) hc
    have hlast:lrs[t]?=some lrs[t]:=List.getElem?_eq_getElem (by omega)
    generalize hz:lrs[t]=z at hlast
    have hzm:z∈lrs:=List.mem_of_getElem? hlast
    have hz2:z.2=wk ls ws b t:=by
     have e:=congrArg (fun l=>l[t]?) g3
     simp only [List.getElem?_map,hlast,List.getElem?_range hc',Option.map_some] at e
     exact Option.some.inj e
    refine⟨_,rfl,p,C,dx,_,_,rfl,hp,zA.cl,zA.n_layers,jN _ _ _ _,_,rfl,la,_,_,V.ref z.1,rfl,rfl,SqL.of g1,vG (by rw [List.getElem?_map,hlast];rfl),?_⟩
    exact kk z.1 L' H2 hLL TA2 m2 hLm (by rw [<- hz2];exact g2 z hzm)
  ·intro Z H2 Q Q' hq
   rintro⟨v0,e0,a,C',dx,fs,v,h1,h2,h3,h4,h5,p',ys,h6,h7,v1,e1,i,j,e3,e4,k,e5,q⟩
   exact⟨v0,e0,a,C',dx,fs,v,h1,h2,h3,h4,h5,p',ys,h6,h7,v1,e1,i,j,e3,e4,k,e5,hq _ _ q⟩
def vW (C:Addr):Sp:=fun vs H Q _=>∃ (p la:Addr) (b:Nat) (ls ws:ZA) (L i s t:Nat),vs=[.ref p,.int i,.int s,.int t]/\TailsAt C H p la b ls ws L/\GoodT b ls ws/\L<=1000/\t<1000/\i<=ws.length/\s<=b/\TQ C H p la b ls ws L fun L' H'=>L'<=max L (t+1)->Q (.int (under ls b t ws[i]? s:Nat)) H'
theorem YZ:zE ["self","place","stop","left"] ["self","place","stop","left"] (zu yK):=⟨rfl,rfl,rfl,by decide +kernel,rfl,by decide +kernel,by decide +kernel⟩
theorem Qd {f f1 f2:Addr} {fd fd1 fd2:FuncData} (D:Mt K C "Tails.many_under" "many_under" yK ["self","place","stop","left"] f fd) (xf:Mt K C "Tails.layer" "layer" wU ["self","left"] f1 fd1) (zQ:Mt K C "Tails.many_by" "many_by" yV ["self","layer","place","stop"] f2 fd2) (zA:ClT K mg C) (T:Blt mg) (U:Vf mg):FnOk P w K mg base CX0 3 f fd ["self","place","stop","left"] (vW C):=by
 have uG:FnOk P w K mg base CX0 1 f2 fd2 ["self","layer","place","stop"] (Zy C):=Xv zQ zA T U
 have jf:FnOk P w K mg base CX0 2 f1 fd1 ["self","left"] (Wj C):=Uv xf zQ zA T U
 refine D.fn.ok YZ (fun vs H Q E h=>?_) (fun cdv A outer s H vs Q E hr h=>?_)
 ·obtain⟨p,la,b,ls,ws,L,i,s,t,rfl,_⟩:=h;rfl
 ·obtain⟨p,la,b,ls,ws,L,i,s,t,rfl,TA,G,hL,ht,hi,hs,kk⟩:=h
  obtain⟨dx,sa,srs,h1,h2,h3,h4⟩:=TA.ob
  have hp:=yG _ _ _ _ h1
  refine⟨_,(zr (zH (jt zQ zA.cl uG (hr.mono (by decide)) (pv 0) (zf (jt xf zA.cl jf (hr.mono (by decide)) (pv 0) (zf (pv 3) zg)) (zf (pv 1) (zf (pv 2) zg)))))),?_⟩
  refine⟨_,rfl,p,dx,_,rfl,hp,xY _ _ _ _,?_⟩
  refine⟨_,rfl,p,dx,_,rfl,hp,xY _ _ _ _,_,rfl,p,la,b,ls,ws,L,t,rfl,TA,G,hL,ht,fun lay L' H' hLL TA' m' hm hlay=>?_⟩
  exact⟨_,rfl,_,rfl,p,la,b,ls,ws,L',t,lay,i,s,rfl,TA',G,yG _ _ _ _ hlay,hi,hs,fun H2 m2=>kk L' H2 hLL (TA'.same m2) (m'.trans (m2.aw [la])) hm⟩
def uJ (C:Addr):Sp:=fun vs H Q _=>∃ (p la:Addr) (b:Nat) (ls ws:ZA) (L t:Nat),vs=[.ref p,.int t]/\TailsAt C H p la b ls ws L/\GoodT b ls ws/\L<=1000/\t<1000/\TQ C H p la b ls ws L fun L' H'=>L'<=max L (t+1)->Q (.int (yI ls b t:Nat)) H'
theorem Yq:zE ["self","size"] ["self","size"] (zu yW):=⟨rfl,rfl,rfl,by decide +kernel,rfl,by decide +kernel,by decide +kernel⟩
theorem V2 {f f1 f2:Addr} {fd fd1 fd2:FuncData} (D:Mt K C "Tails.many_within" "many_within" yW ["self","size"] f fd) (xf:Mt K C "Tails.layer" "layer" wU ["self","left"] f1 fd1) (zQ:Mt K C "Tails.many_by" "many_by" yV ["self","layer","place","stop"] f2 fd2) (zA:ClT K mg C) (T:Blt mg) (U:Vf mg):FnOk P w K mg base CX0 3 f fd ["self","size"] (uJ C):=by
 have jf:FnOk P w K mg base CX0 2 f1 fd1 ["self","left"] (Wj C):=Uv xf zQ zA T U
 refine D.fn.ok Yq (fun vs H Q E h=>?_) (fun cdv A outer s H vs Q E hr h=>?_)
 ·obtain⟨p,la,b,ls,ws,L,t,rfl,_⟩:=h;rfl
 ·obtain⟨p,la,b,ls,ws,L,t,rfl,TA,G,hL,ht,kk⟩:=h
  obtain⟨dx,sa,srs,h1,h2,h3,h4⟩:=TA.ob
  have hp:=yG _ _ _ _ h1
  refine⟨_,(zr (zH (zP (yC K) (jt xf zA.cl jf (hr.mono (by decide)) (pv 0) (zf (pv 1) zg)) (jC K (pv 0)) (fun _ _=>rfl)))),?_⟩
  refine⟨_,rfl,p,dx,_,rfl,hp,xY _ _ _ _,_,rfl,p,la,b,ls,ws,L,t,rfl,TA,G,hL,ht,fun lay L' H' hLL TA' m' hm hlay=>?_⟩
  obtain⟨dx',sa',srs',h1',h2',h3',h4'⟩:=TA'.ob
  refine⟨_,rfl,p,C,dx',_,_,rfl,yG _ _ _ _ h1',zA.cl,zA.n_outset,uB _ _ _ _,lay,_,_,V.int ((yI ls b t:Nat):Int),rfl,rfl,SqL.of (yG _ _ _ _ hlay),vG ?_,kk L' H' hLL TA' m' hm⟩
  unfold wk
  rw [List.map_append,List.getElem?_append_right (by rw [List.length_map,List.length_map];exact Nat.le_refl _),List.length_map,List.length_map,Nat.sub_self]
  rfl
end
theorem QC {ls ws:ZA} {b m:Nat} (G:GoodT b ls ws) {i c:Nat} (hi:i<=ws.length) (R:Rep ls b m ws[i]?) (hc:c<b) :
  (∃ j:Nat,stepV ls ws ws[i]? c=.int j/\j<=ws.length/\Rep ls b (m*b+c) ws[j]?)\/(stepV ls ws ws[i]? c=.non/\1<=m*b+c/\gd ls b (m*b+c)=false):=by
 have b2:=G.g.b2
 have ep:∀ h:¬ (ws[i]?=none/\c=0),stepV ls ws ws[i]? c=plc ls ws (ws[i]?.getD []++[(c:Int)]):=by
  intro h
  cases hw:ws[i]? with
  | some x=>rfl
  | none =>
   rw [jF,if_neg (fun z=>h ⟨hw,z⟩)]
   rfl
 rcases R.step G.ne b2 hc with ⟨h1,h2,h3⟩ | ⟨h0,⟨h1,h2⟩ | ⟨h1,h2,h3⟩⟩
 ·left
  refine⟨ws.length,by rw [h1,jF,if_pos h2],Nat.le_refl _,by rw [List.getElem?_eq_none (Nat.le_refl _)];exact h3⟩
 ·left
  have hm:zG ls (ws[i]?.getD []++[(c:Int)])∈ws:=(G.s.mem _).mpr (t7 G.ne h1)
  have hlt:=List.idxOf_lt_length_iff.mpr hm
  refine⟨ws.idxOf (zG ls (ws[i]?.getD []++[(c:Int)])),by rw [ep h0];unfold plc;rw [if_pos h1],Nat.le_of_lt hlt,?_⟩
  rw [List.getElem?_eq_getElem hlt,List.getElem_idxOf hlt]
  exact h2
 ·right
  exact⟨by rw [ep h0];unfold plc;rw [if_neg (by rw [h1];exact Bool.false_ne_true)],h2,h3⟩
section
variable {P:Program} {w:World} {K:W.Frag} {mg:Str->Option Value} {base:Heap} {T0 C:Addr}
theorem J2 {H:Hp} {p la b:Nat} {ls ws:ZA} {L i c:Nat} (TA:TailsAt C H p la b ls ws L) (G:GoodT b ls ws) (hi:i<=ws.length) (hc:c<b) :
  ∃ (dx sa:Addr) (srs:List (Addr×List V)) (z:Addr×List V),H p=some (.ins C dx (XS b ws.length sa la))/\H sa=some (.lst (srs.map fun z=>V.ref z.1))/\atI (srs.map fun z=>V.ref z.1) (i:Int)=some (V.ref z.1)/\H z.1=some (.lst z.2)/\atI z.2 (c:Int)=some (stepV ls ws ws[i]? c):=by
 obtain⟨dx,sa,srs,h1,h2,h3,h4⟩:=TA.ob
 have hrow:=Ua (ls:=ls) (b:=b) (by have:=G.g.b2;omega) hi
 rw [<- h4,List.getElem?_map] at hrow
 obtain⟨z,hz,ez⟩:=Option.map_eq_some_iff.mp hrow
 refine⟨dx,sa,srs,z,yG _ _ _ _ h1,yG _ _ _ _ h2,vG (by rw [List.getElem?_map,hz];rfl),yG _ _ _ _ (h3 z (List.mem_of_getElem? hz)),vG ?_⟩
 rw [ez,List.getElem?_map,List.getElem?_range hc]
 rfl
theorem TailsAt.obj {H:Hp} {p la b:Nat} {ls ws:ZA} {L:Nat} (TA:TailsAt C H p la b ls ws L):∃ dx sa,H p=some (.ins C dx (XS b ws.length sa la)):=by
 obtain⟨dx,sa,srs,h1,_⟩:=TA.ob
 exact⟨dx,sa,yG _ _ _ _ h1⟩
def qj (C:Addr):Sp:=fun vs H Q _=>∃ (p la:Addr) (b:Nat) (ls ws:ZA) (L:Nat) (fa:Addr) (n:Nat),vs=[.ref p,.ref fa]/\TailsAt C H p la b ls ws L/\GoodT b ls ws/\L<=1000/\aw [la] H fa=some (.lst ((yu b n).map V.int))/\n<2^900/\TQ C H p la b ls ws L fun L' H'=>L'<=1000->Q (.int (many (gd ls b) n:Nat)) H'
theorem yE:zE ["self","figures","place","many","k"] ["self","figures"] (zu xn):=⟨rfl,rfl,rfl,by decide +kernel,rfl,by decide +kernel,by decide +kernel⟩
theorem U5 {f f1:Addr} {fd fd1:FuncData} (D:Mt K C "Tails.many_below" "many_below" xn ["self","figures"] f fd) (zR:Mt K C "Tails.many_under" "many_under" yK ["self","place","stop","left"] f1 fd1) (zY:FnOk P w K mg base CX0 3 f1 fd1 ["self","place","stop","left"] (vW C)) (zA:ClT K mg C) (T:Blt mg):FnOk P w K mg base CX0 4 f fd ["self","figures"] (qj C):=by
 refine D.fn.ok yE (fun vs H Q E h=>?_) (fun cdv A outer s H vs Q E hr h=>?_)
 ·obtain⟨p,la,b,ls,ws,L,fa,n,rfl,_⟩:=h;rfl
 ·obtain⟨p,la,b,ls,ws,L,fa,n,rfl,TA,G,hL,hf,hn,kk⟩:=h
  have b2:=G.g.b2
  have hlen:=YB b2 900 n hn
  obtain⟨dx0,sa0,hp0⟩:=TA.obj
  generalize hN:(yu b n).length=N at hlen
  have hnN:=uC b2 hN
  refine⟨_,(zm (zB (i:=2) yE.nd rfl (Or.inl rfl) (jC K (pv 0)))
   (zm (zB (i:=3) yE.nd rfl (Or.inl rfl) zp)
   (zm (wG PassesOwn.never rfl (yl rfl T.n_range (zf (zz (w6 K) (by rfl) T.n_len PySem.boot_len (zf (pv 1) zg)) zg)) (yh (i:=4) yE.nd rfl (Or.inl rfl))
    (zm (zaO (i:=3) yE.nd rfl (Or.inl rfl) (jt zR zA.cl zY (hr.mono (by decide)) (pv 0) (zf (pv 2) (zf (zP (yC K) (pv 1) (pv 4) (fun _ _=>rfl)) (zf (zy wH (zy wH (zz (w6 K) (by rfl) T.n_len PySem.boot_len (zf (pv 1) zg)) (pv 4)) zp) zg)))) zdl)
    (zm (zB (i:=2) yE.nd rfl (Or.inl rfl) (zP (yC K) (zP (yC K) (jC K (pv 0)) (pv 2) (fun _ _=>rfl)) (zP (yC K) (pv 1) (pv 4) (fun _ _=>rfl)) (fun _ _=>rfl)))
    (zr (yH (zN Z4 (pv 2) xq (zL _))
     (zr (zH (pv 3)))
     zO)))))
   (zr (zH (pv 3)))))),?_⟩
  refine⟨_,rfl,p,C,dx0,_,_,rfl,hp0,zA.cl,zA.n_outset,uB _ _ _ _,?_⟩
  refine⟨_,rfl,fa,_,rfl,.inl (SqL.of (yG _ _ _ _ hf)),?_⟩
  rw [List.length_map,hN]
  refine⟨_,rfl,by omega,by omega,yS (lo:=0) (n:=(N:Int).toNat) (fun k Z H2=>∃ (v4:Option V) (i L':Nat),Z=[some (.ref p),some (.ref fa),some (.int i),some (.int (many (gd ls b) (n / b^(N-k)*b^(N-k)):Nat)),v4]/\i<=ws.length/\Rep ls b (n / b^(N-k)) ws[i]?/\L<=L'/\L'<=1000/\TailsAt C H2 p la b ls ws L'/\Same (aw [la] H) (aw [la] H2)) ⟨none,ws.length,L,?_,Nat.le_refl _,?_,Nat.le_refl _,hL,TA,Same.refl _⟩ ?_ ?_⟩
  ·rw [Nat.sub_zero,Nat.div_eq_of_lt hnN,Nat.zero_mul]
   rfl
  ·rw [Nat.sub_zero,Nat.div_eq_of_lt hnN,List.getElem?_eq_none (Nat.le_refl _)]
   exact .inl ⟨rfl,rfl⟩
  ·rintro k Z H2 hk ⟨v4,i,L',rfl,hi,R,hLL,hL',TA2,m2⟩
   have hkN:k<N:=by omega
   obtain⟨t,ht⟩:∃ t,N-k=t+1:=⟨N-k-1,by omega⟩
   have et:N-1-k=t:=by omega
   have hfk:=J0 b2 hN hkN
   rw [et] at hfk
   rw [ht] at R ⊢
   have hnx:=J9 (b:=b) (n:=n) (t:=t) (by omega)
   have hcb:n / b^t % b<b:=Nat.mod_lt _ (by omega)
   generalize hc:n / b^t % b=c at hfk hnx hcb
   have hf2:=m2 _ _ hf
   have hfH2:=yG _ _ _ _ hf2
   obtain⟨dx2,sa2,hp2⟩:=TA2.obj
   have hat:atI ((yu b n).map V.int) (0+(k:Int))=some (V.int (c:Nat)):=by rw [Int.zero_add];exact vG (by rw [List.getElem?_map,hfk];rfl)
   refine⟨_,rfl,_,rfl,p,dx2,_,rfl,hp2,xY _ _ _ _,_,rfl,_,rfl,_,rfl,fa,_,_,_,rfl,rfl,SqL.of hfH2,hat,_,rfl,fa,_,rfl,.inl (SqL.of hfH2),_,rfl,_,_,rfl,rfl,_,_,rfl,rfl,?_⟩
   refine⟨p,la,b,ls,ws,L',i,c,t,?_,TA2,G,hL',by omega,hi,by omega,fun L3 H3 hL3 TA3 m3 hmx=>?_⟩
   ·rw [List.length_map,hN]
    show [V.ref p,V.int i,V.int c,V.int ((N:Int)-(0+(k:Int))-1)]=_
    rw [show ((N:Int)-(0+(k:Int))-1)=(t:Int) by omega]
   have hL3':L3<=1000:=by omega
   have m23:=m2.trans m3
   have hf3:=yG _ _ _ _ (m23 _ _ hf)
   refine⟨_,_,rfl,rfl,?_⟩
   have eum:=vC G.ne b2 R t (s:=c) (by omega)
   rw [<- hnx] at eum
   obtain⟨dx3,sa3,srs3,z3,q1,q2,q3,q4,q5⟩:=J2 TA3 G hi hcb
   refine⟨_,rfl,p,C,dx3,_,_,rfl,q1,zA.cl,zA.n_steps,Xf _ _ _ _,_,rfl,sa3,_,_,_,rfl,rfl,SqL.of q2,q3,_,rfl,_,rfl,fa,_,_,_,rfl,rfl,SqL.of hf3,hat,z3.1,_,_,_,rfl,rfl,SqL.of q4,q5,?_⟩
   rcases QC G hi R hcb with ⟨j,e1,e2,e3⟩ | ⟨e1,e2,e3⟩
   ·rw [e1]
    refine⟨_,rfl,rfl,_,rfl,yZ ⟨some (.int (0+(k:Int))),j,L3,?_,e2,?_,by omega,hL3',TA3,m23⟩⟩
    ·rw [show N-(k+1)=t by omega,<- eum]
     show [_,_,_,some (V.int ((many (gd ls b) (n / b^(t+1)*b^(t+1)):Nat)+(under ls b t ws[i]? c:Nat):Int)),_]=[_,_,_,some (V.int ((many (gd ls b) (n / b^(t+1)*b^(t+1))+under ls b t ws[i]? c:Nat):Int)),_]
     rw [Int.natCast_add]
    ·rw [show N-(k+1)=t by omega,hnx];exact e3
   ·rw [e1]
    refine⟨_,rfl,rfl,_,rfl,ww ⟨_,rfl,?_⟩⟩
    have q:=kk L3 H3 (by omega) TA3 m23 hL3'
    rw [<- hnx] at e2 e3
    have ebad:=zbC G.ne b2 e2 e3 t (r:=n % b^t) (Nat.le_of_lt (Nat.mod_lt _ (Nat.pow_pos (by omega))))
    rw [Nat.mul_comm,Nat.div_add_mod,Nat.mul_comm] at ebad
    rw [ebad,<- eum,Int.natCast_add] at q
    exact q
  ·rintro Z H2 ⟨v4,i,L',rfl,hi,R,hLL,hL',TA2,m2⟩
   refine⟨_,rfl,?_⟩
   have q:=kk L' H2 hLL TA2 m2 hL'
   rw [Int.toNat_natCast,Nat.sub_self,Nat.pow_zero,Nat.div_one,Nat.mul_one]
   exact q
def ZG (C:Addr):Sp:=fun vs H Q _=>∃ (p la:Addr) (b:Nat) (ls ws:ZA) (L i k t:Nat),vs=[.ref p,.int i,.int k,.int t]/\TailsAt C H p la b ls ws L/\GoodT b ls ws/\L<=1000/\t<1000/\i<=ws.length/\k<under ls b t ws[i]? b /\
 ∀ c:Nat,c<b->under ls b t ws[i]? c<=k->k<under ls b t ws[i]? (c+1)->TQ C H p la b ls ws L fun L' H'=>L'<=1000->Q (.int c) H'
theorem uw:zE ["self","place","k","left","figure"] ["self","place","k","left"] (zu w5):=⟨rfl,rfl,rfl,by decide +kernel,rfl,by decide +kernel,by decide +kernel⟩
theorem JX {f f1:Addr} {fd fd1:FuncData} (D:Mt K C "Tails.figure_at" "figure_at" w5 ["self","place","k","left"] f fd) (zR:Mt K C "Tails.many_under" "many_under" yK ["self","place","stop","left"] f1 fd1) (zY:FnOk P w K mg base CX0 3 f1 fd1 ["self","place","stop","left"] (vW C)) (zA:ClT K mg C) (T:Blt mg):FnOk P w K mg base CX0 4 f fd ["self","place","k","left"] (ZG C):=by
 refine D.fn.ok uw (fun vs H Q E h=>?_) (fun cdv A outer s H vs Q E hr h=>?_)
 ·obtain⟨p,la,b,ls,ws,L,i,k,t,rfl,_⟩:=h;rfl
 ·obtain⟨p,la,b,ls,ws,L,i,k,t,rfl,TA,G,hL,ht,hi,hk,kk⟩:=h
  refine⟨_,(zm (zB (i:=4) uw.nd rfl (Or.inl rfl) zp)
   (zm (Yj PassesOwn.never (zN XR (jt zR zA.cl zY (hr.mono (by decide)) (pv 0) (zf (pv 1) (zf (zy yF (pv 4) zp) (zf (pv 3) zg)))) (pv 2) (zL _))
    (zr (zaO (i:=4) uw.nd rfl (Or.inl rfl) zp zdl)))
   (zr (zH (pv 4))))),?_⟩
  refine Ys (fun Z H2=>∃ (c L':Nat),Z=[some (.ref p),some (.int i),some (.int k),some (.int t),some (.int c)]/\c<b/\under ls b t ws[i]? c<=k/\L<=L'/\L'<=1000/\TailsAt C H2 p la b ls ws L'/\Same (aw [la] H) (aw [la] H2))
   (fun Z _=>match Z with | [_,_,_,_,some (.int c)]=>b-c.toNat | _=>0) ⟨0,L,rfl,by have:=G.g.b2;omega,by rw [Xu];exact Nat.zero_le _,Nat.le_refl _,hL,TA,Same.refl _⟩ ?_ ?_
  ·rintro Z H2 ⟨c,L',rfl,hc,hu,hLL,hL',TA2,m2⟩
   obtain⟨dx2,sa2,hp2⟩:=TA2.obj
   refine⟨_,rfl,p,dx2,_,rfl,hp2,xY _ _ _ _,_,rfl,_,rfl,_,_,rfl,rfl,_,rfl,p,la,b,ls,ws,L',i,c+1,t,rfl,TA2,G,hL',ht,hi,by omega,fun L3 H3 hL3 TA3 m3 hmx=>?_⟩
   refine⟨_,rfl,_,_,rfl,rfl,_,rfl,?_⟩
   refine UW (fun h1=>?_) (fun h1=>?_)
   ·have h1':under ls b t ws[i]? (c+1)<=k:=by have:=of_decide_eq_true h1;omega
    have hcb:c+1<b:=by
     by_cases z:c+1<b
     ·exact z
     ·rw [show c+1=b by omega] at h1';omega
    refine⟨_,rfl,_,_,rfl,rfl,⟨c+1,L3,rfl,hcb,h1',by omega,by omega,TA3,m2.trans m3⟩,?_⟩
    show b-((c:Int)+1).toNat<b-(c:Int).toNat
    omega
   ·have h1':k<under ls b t ws[i]? (c+1):=by
     by_cases z:k<under ls b t ws[i]? (c+1)
     ·exact z
     ·exact absurd (decide_eq_true (by omega:((under ls b t ws[i]? (c+1):Nat):Int)<=k)) h1
    exact⟨_,rfl,kk c hc hu h1' L3 H3 (by omega) TA3 (m2.trans m3) (by omega)⟩
  ·intro Z H2 Q Q' hq
   rintro⟨v0,e0,a,dx,fs,h1,h2,h3,v1,e1,v4,e4,i4,j4,e5,e6,v3,e3,p',la',b',ls',ws',L',i',s',t',g1,g2,g3,g4,g5,g6,g7,g8⟩
   exact⟨v0,e0,a,dx,fs,h1,h2,h3,v1,e1,v4,e4,i4,j4,e5,e6,v3,e3,p',la',b',ls',ws',L',i',s',t',g1,g2,g3,g4,g5,g6,g7,fun L2 H3 a1 a2 a3 a4=>by
    obtain⟨v2,e2,i2,j2,e7,e8,k2,e9,q⟩:=g8 L2 H3 a1 a2 a3 a4
    exact⟨v2,e2,i2,j2,e7,e8,k2,e9,hq _ _ q⟩⟩
def je (C:Addr):Sp:=fun vs H Q _=>∃ (p la:Addr) (b:Nat) (ls ws:ZA) (L sz k:Nat),vs=[.ref p,.int sz,.int k]/\TailsAt C H p la b ls ws L/\GoodT b ls ws/\L<=1000/\sz<1000/\k<many (gd ls b) (b^sz) /\
 ∀ n:Nat,gd ls b n=true->many (gd ls b) n=k->n<b^sz->TQ C H p la b ls ws L fun L' H'=>L'<=1000->Q (.int n) H'
theorem yc:zE ["self","size","k","place","n","left","figure"] ["self","size","k"] (zu xO):=⟨rfl,rfl,rfl,by decide +kernel,rfl,by decide +kernel,by decide +kernel⟩
theorem Jm {f f1 f2:Addr} {fd fd1 fd2:FuncData} (D:Mt K C "Tails.number_at" "number_at" xO ["self","size","k"] f fd) (zR:Mt K C "Tails.many_under" "many_under" yK ["self","place","stop","left"] f1 fd1) (zY:FnOk P w K mg base CX0 3 f1 fd1 ["self","place","stop","left"] (vW C))
  (vH:Mt K C "Tails.figure_at" "figure_at" w5 ["self","place","k","left"] f2 fd2) (tV:FnOk P w K mg base CX0 4 f2 fd2 ["self","place","k","left"] (ZG C)) (zA:ClT K mg C) (T:Blt mg):FnOk P w K mg base CX0 5 f fd ["self","size","k"] (je C):=by
 refine D.fn.ok yc (fun vs H Q E h=>?_) (fun cdv A outer s H vs Q E hr h=>?_)
 ·obtain⟨p,la,b,ls,ws,L,sz,k,rfl,_⟩:=h;rfl
 ·obtain⟨p,la,b,ls,ws,L,sz,k,rfl,TA,G,hL,hsz,hk,kk⟩:=h
  have b2:=G.g.b2
  have b16:=G.g.b16
  obtain⟨dx0,sa0,hp0⟩:=TA.obj
  refine⟨_,(zm (zB (i:=3) yc.nd rfl (Or.inl rfl) (jC K (pv 0)))
   (zm (zB (i:=4) yc.nd rfl (Or.inl rfl) zp)
   (zm (wG PassesOwn.never rfl (zcp rfl T.n_range (zf (zy wH (pv 1) zp) (zf (zee zaT zp) (zf (zee zaT zp) zg)))) (yh (i:=5) yc.nd rfl (Or.inl rfl))
    (zm (zB (i:=6) yc.nd rfl (Or.inl rfl) (jt vH zA.cl tV (hr.mono (by decide)) (pv 0) (zf (pv 3) (zf (pv 2) (zf (pv 5) zg)))))
    (zm (zaO (i:=2) yc.nd rfl (Or.inl rfl) (jt zR zA.cl zY (hr.mono (by decide)) (pv 0) (zf (pv 3) (zf (pv 6) (zf (pv 5) zg)))) zfE)
    (zm (zB (i:=3) yc.nd rfl (Or.inl rfl) (zP (yC K) (zP (yC K) (jC K (pv 0)) (pv 3) (fun _ _=>rfl)) (pv 6) (fun _ _=>rfl)))
    (zr (zB (i:=4) yc.nd rfl (Or.inl rfl) (zy yF (zy uZ (pv 4) (jC K (pv 0))) (pv 6))))))))
   (zr (zH (pv 4)))))),?_⟩
  refine⟨_,rfl,p,C,dx0,_,_,rfl,hp0,zA.cl,zA.n_outset,uB _ _ _ _,?_⟩
  refine⟨_,rfl,_,_,rfl,rfl,_,rfl,_,rfl,((sz:Int)-1),rfl,by omega,by omega,?_⟩
  rw [show ((sz:Int)-1+1).toNat=sz by omega]
  refine zaZ (lo:=(sz:Int)-1) (c:=-1) (n:=sz) (fun j Z H2=>∃ (v5 v6:Option V) (i m L':Nat),Z=[some (.ref p),some (.int sz),some (.int ((k:Int)-(many (gd ls b) (m*b^(sz-j)):Nat))),some (.int i),some (.int m),v5,v6]/\i<=ws.length/\Rep ls b m ws[i]?/\many (gd ls b) (m*b^(sz-j))<=k/\k<many (gd ls b) ((m+1)*b^(sz-j))/\L<=L'/\L'<=1000/\TailsAt C H2 p la b ls ws L'/\Same (aw [la] H) (aw [la] H2)) ⟨none,none,ws.length,0,L,?_,Nat.le_refl _,?_,?_,?_,Nat.le_refl _,hL,TA,Same.refl _⟩ ?_ ?_
  ·rw [Nat.zero_mul]
   show [_,_,some (V.int k),_,_,_,_]=[_,_,some (V.int ((k:Int)-((0:Nat):Int))),_,_,_,_]
   rw [Int.natCast_zero,Int.sub_zero]
  ·rw [List.getElem?_eq_none (Nat.le_refl _)];exact .inl ⟨rfl,rfl⟩
  ·rw [Nat.zero_mul];exact Nat.zero_le _
  ·rw [Nat.sub_zero,Nat.zero_add,Nat.one_mul];exact hk
  ·rintro j Z H2 hj ⟨v5,v6,i,m,L',rfl,hi,R,hlo,hhi,hLL,hL',TA2,m2⟩
   obtain⟨t,ht⟩:∃ t,sz-j=t+1:=⟨sz-j-1,by omega⟩
   rw [ht] at hlo hhi ⊢
   have elft:((sz:Int)-1+(j:Int)*(-1))=(t:Int):=by omega
   rw [elft]
   have eb:=vC G.ne b2 R t (s:=b) (Nat.le_refl _)
   have eb2:(m*b+b)*b^t=(m+1)*b^(t+1):=by rw [Nat.pow_succ',<- Nat.mul_assoc,Nat.succ_mul]
   rw [eb2] at eb
   obtain⟨k',hk'⟩:∃ k',k=many (gd ls b) (m*b^(t+1))+k':=⟨k-many (gd ls b) (m*b^(t+1)),by omega⟩
   have ek:((k:Int)-(many (gd ls b) (m*b^(t+1)):Nat))=(k':Int):=by omega
   rw [ek]
   obtain⟨dx2,sa2,hp2⟩:=TA2.obj
   refine⟨_,rfl,p,dx2,_,rfl,hp2,xY _ _ _ _,_,rfl,_,rfl,_,rfl,p,la,b,ls,ws,L',i,k',t,rfl,TA2,G,hL',by omega,hi,by omega,fun c hc hu1 hu2 L3 H3 hL3 TA3 m3 hL3'=>?_⟩
   obtain⟨dx3,sa3,hp3⟩:=TA3.obj
   refine⟨_,rfl,_,rfl,p,dx3,_,rfl,hp3,xY _ _ _ _,_,rfl,_,rfl,_,rfl,p,la,b,ls,ws,L3,i,c,t,rfl,TA3,G,hL3',by omega,hi,by omega,fun L4 H4 hL4 TA4 m4 hmx=>⟨_,_,rfl,rfl,?_⟩⟩
   have m24:=m2.trans (m3.trans m4)
   obtain⟨dx4,sa4,srs4,z4,q1,q2,q3,q4,q5⟩:=J2 TA4 G hi hc
   refine⟨_,rfl,p,C,dx4,_,_,rfl,q1,zA.cl,zA.n_steps,Xf _ _ _ _,_,rfl,sa4,_,_,_,rfl,rfl,SqL.of q2,q3,_,rfl,z4.1,_,_,_,rfl,rfl,SqL.of q4,q5,?_⟩
   refine⟨_,rfl,_,rfl,p,C,dx4,_,_,rfl,q1,zA.cl,zA.n_base,QQ _ _ _ _,_,_,rfl,rfl,.inr ⟨by omega,by omega⟩,_,rfl,_,_,rfl,rfl,?_⟩
   have e1:=vC G.ne b2 R t (s:=c) (by omega)
   have e2:=vC G.ne b2 R t (s:=c+1) (by omega)
   have hlo':many (gd ls b) ((m*b+c)*b^t)<=k:=by omega
   have hhi':k<many (gd ls b) ((m*b+c+1)*b^t):=by
    rw [show m*b+c+1=m*b+(c+1) by omega];omega
   rcases QC G hi R hc with ⟨j',f1,f2,f3⟩ | ⟨f1,f2,f3⟩
   ·rw [f1]
    refine⟨some (.int t),some (.int c),j',m*b+c,L4,?_,f2,f3,?_,?_,by omega,by omega,TA4,m24⟩
    ·rw [show sz-(j+1)=t by omega]
     show [_,_,some (V.int ((k':Int)-(under ls b t ws[i]? c:Nat))),some (V.int (j':Nat)),some (V.int ((m:Int)*b+c)),_,_]=[_,_,some (V.int ((k:Int)-(many (gd ls b) ((m*b+c)*b^t):Nat))),some (V.int (j':Nat)),some (V.int ((m*b+c:Nat):Int)),_,_]
     rw [show ((k':Int)-(under ls b t ws[i]? c:Nat))=((k:Int)-(many (gd ls b) ((m*b+c)*b^t):Nat)) by omega,Int.natCast_add,Int.natCast_mul]
    ·rw [show sz-(j+1)=t by omega];exact hlo'
    ·rw [show sz-(j+1)=t by omega];exact hhi'
   ·exfalso
    have eb3:=zbC G.ne b2 f2 f3 t (r:=b^t) (Nat.le_refl _)
    rw [<- Nat.succ_mul] at eb3
    have:(m*b+c).succ=m*b+c+1:=rfl
    rw [this] at eb3
    omega
  ·rintro Z H2 ⟨v5,v6,i,m,L',rfl,hi,R,hlo,hhi,hLL,hL',TA2,m2⟩
   rw [Nat.sub_self,Nat.pow_zero,Nat.mul_one] at hlo hhi
   have hg:gd ls b m=true:=by
    cases e:gd ls b m with
    | true=>rfl
    | false =>
     have:many (gd ls b) (m+1)=many (gd ls b) m:=by rw [many,e];rfl
     omega
   have em:many (gd ls b) m=k:=by
    have:many (gd ls b) (m+1)=many (gd ls b) m+1:=by rw [many,if_pos hg]
    omega
   refine⟨_,rfl,kk m hg em ?_ L' H2 hLL TA2 m2 hL'⟩
   by_cases z:m<b^sz
   ·exact z
   ·have:=wu (gd ls b) (show b^sz<=m by omega)
    omega
end
theorem LT.off {T la:Addr} {H H':Hp} {xs:List V} (h:LT T H) (hla:H la=some (.lst xs)) (m:Same (aw [la] H) (aw [la] H')):LT T H':=by
 have go:∀ c o,c≠la->H c=some o->H' c=some o:=fun c o hc e=>by
  have hc':c∉[la]:=by simpa using hc
  have:=m c o (by rw [yJ hc'];exact e)
  rwa [yJ hc'] at this
 have n0:T≠la:=Ne.symm (h.lst hla)
 rcases h with h | ⟨c,h1,h2⟩
 ·exact .inl (go _ _ n0 h)
 ·refine .inr ⟨c,go _ _ n0 h1,go _ _ (fun z=>?_) h2⟩
  rw [z,hla] at h2
  cases h2
theorem JW {α:Type} {f:α->V} (h:∀ a,f a=V.int 1):∀ l:List α,(List.replicate l.length [V.int 1]).flatten=l.map f
 | []=>rfl
 | a :: l=>by rw [List.length_cons,List.replicate_succ,List.flatten_cons,JW h l,List.map_cons,h a];rfl
section
variable {P:Program} {w:World} {K:W.Frag} {mg:Str->Option Value} {base:Heap} {T0 C:Addr}
def Zf (T0 C:Addr):Sp:=fun vs H Q _=>∃ (p dx r:Addr) (b:Nat) (bl:Addr) (zs:ZB),vs=[.ref p,.ref r]/\H p=some (.ins C dx [])/\RuleAt H r b bl zs/\zX b (zs.map (·.2))/\LT T0 H /\
 ∀ (la:Addr) (ws:ZA) (H':Hp),TailsAt C H' p la b (zs.map (·.2)) ws 1->GoodT b (zs.map (·.2)) ws->(∀ c o,c≠p->c≠T0->H c=some o->H' c=some o)->LT T0 H'->H la=none->Q .non H'
theorem jM:zE ["self","rule","stands"] ["self","rule"] (zu tR):=⟨rfl,rfl,rfl,by decide +kernel,rfl,by decide +kernel,by decide +kernel⟩
theorem zdr {f f1 f2 f3:Addr} {fd fd1 fd2 fd3:FuncData} (D:Mt K C "Tails.__init__" "__init__" tR ["self","rule"] f fd) (Z3:Df K mg "stands_of" yj ["bad"] f1 fd1) (XF:FnOk P w K mg base CX0 6 f1 fd1 ["bad"] (Z6 T0)) (ZV:Df K mg "all_steps" qG ["rule","stands"] f2 fd2) (Xl:FnOk P w K mg base CX0 6 f2 fd2 ["rule","stands"] Zz)
  (yO:Df K mg "lacks_all" wC ["bad","figures"] f3 fd3) (yU:FnOk P w K mg base CX0 2 f3 fd3 ["bad","figures"] vN) (zA:ClT K mg C) (T:Blt mg):FnOk P w K mg base CX0 7 f fd ["self","rule"] (Zf T0 C):=by
 refine D.fn.ok jM (fun vs H Q E h=>?_) (fun cdv A outer s H vs Q E hr h=>?_)
 ·obtain⟨p,dx,r,b,bl,zs,rfl,_⟩:=h;rfl
 ·obtain⟨p,dx,r,b,bl,zs,rfl,hp,R,g,hT,kk⟩:=h
  have h4:zs.length<=4:=by have:=g.len;rwa [List.length_map] at this
  have gz:∀ z∈zs,z.2≠[]/\z.2.length<=4:=fun z hz=>⟨(g.st _ (List.mem_map.mpr ⟨z,hz,rfl⟩)).ne,(g.st _ (List.mem_map.mpr ⟨z,hz,rfl⟩)).len⟩
  have npT:p≠T0:=fun z=>by
   rw [z] at hp
   rcases hT with h | ⟨c,h,_⟩
   ·rw [h] at hp;cases hp
   ·rw [h] at hp;cases hp
  refine⟨_,(zm (zB (i:=2) jM.nd rfl (Or.inl rfl) (zJ Z3 XF (hr.mono (by decide)) (zf (zP (uH K) (pv 1) zp (fun _ _=>rfl)) zg)))
   (zm (Jg (pv 0) (zP (uH K) (pv 1) zp (fun _ _=>rfl)) rfl)
   (zm (Jg (pv 0) (zz (w6 K) (by rfl) T.n_len PySem.boot_len (zf (pv 2) zg)) rfl)
   (zm (Jg (pv 0) (zJ ZV Xl (hr.mono (by decide)) (zf (pv 1) (zf (pv 2) zg))) rfl)
   (zr (Jg (pv 0) (zU (zf (zy jn (zy zc2 (zU (zf zp zg)) (zz (w6 K) (by rfl) T.n_len PySem.boot_len (zf (pv 2) zg))) (zU (zf (zcX (wY (zJ yO yU (hr.mono (by decide)) (zf (zP (uH K) (pv 1) zp (fun _ _=>rfl)) (zf (zU (zf zp zg)) zg)))) zp zp) zg))) zg)) rfl)))))),?_⟩
  refine⟨_,rfl,r,_,_,V.ref bl,rfl,rfl,SqT.of R.tu,rfl,bl,zs,rfl,R.li,R.st,h4,gz,hT,fun Dd ws H1 hDn hD hws SL h13 mL hT1=>?_⟩
  have R1:RuleAt H1 r b bl zs:=⟨mL _ _ (hT.tup R.tu) R.tu,mL _ _ (hT.lst R.li) R.li,fun z hz=>mL _ _ (hT.lst (R.st z hz)) (R.st z hz)⟩
  have hp1:=mL _ _ npT hp
  have rp:r≠p:=Y7 R1.tu hp1 (fun z=>nomatch z)
  have lp:∀ {c:Addr} {xs:List V},H1 c=some (.lst xs)->c≠p:=fun h=>Y7 h hp1 (fun z=>nomatch z)
  refine⟨_,rfl,r,_,_,V.int b,rfl,rfl,SqT.of R1.tu,rfl,_,rfl,p,C,dx,_,rfl,hp1,zA.cl,zA.n_base,(by show 0<1000;decide),?_⟩
  refine⟨_,rfl,Dd,_,rfl,.inl (SqL.of (by rw [zx (lp hD)];exact hD)),_,rfl,p,C,dx,_,rfl,zj,zA.cl,zA.n_outset,(by show 1<1000;decide),?_⟩
  rw [zeu,List.length_map]
  generalize hH3:upd H1 p (.ins C dx (wB "outset" (.int (ws.length:Nat)) (wB "base" (.int b) [])))=H3
  have m3:∀ c o,c≠p->H1 c=some o->H3 c=some o:=fun c o hc e=>by rw [<- hH3,zx hc];exact e
  have hp3:H3 p=some (.ins C dx (wB "outset" (.int (ws.length:Nat)) (wB "base" (.int b) []))):=by rw [<- hH3,zj]
  have R3:RuleAt H3 r b bl zs:=⟨m3 _ _ rp R1.tu,m3 _ _ (lp R1.li) R1.li,fun z hz=>m3 _ _ (lp (R1.st z hz)) (R1.st z hz)⟩
  refine⟨_,rfl,_,rfl,r,b,bl,zs,Dd,ws,rfl,R3,g,m3 _ _ (lp hD) hD,fun z hz=>m3 _ _ (lp (hws z hz).2.1) (hws z hz).2.1,SL,h13,fun sa srs H4 hsa m4 hsal hsrs hsr2=>?_⟩
  have hp4:=m4 _ _ hp3
  have len2:(wB "outset" (.int (ws.length:Nat)) (wB "base" (.int b) [])).length<=2:=Nat.le_trans (qC _ _ _) (Nat.succ_le_succ (qC _ _ _))
  refine⟨_,rfl,p,C,dx,_,rfl,hp4,zA.cl,zA.n_steps,by omega,?_⟩
  generalize hH5:upd H4 p (.ins C dx (wB "steps" (.ref sa) (wB "outset" (.int (ws.length:Nat)) (wB "base" (.int b) []))))=H5
  have m5:∀ c o,c≠p->H4 c=some o->H5 c=some o:=fun c o hc e=>by rw [<- hH5,zx hc];exact e
  have hp5:H5 p=some (.ins C dx (wB "steps" (.ref sa) (wB "outset" (.int (ws.length:Nat)) (wB "base" (.int b) [])))):=by rw [<- hH5,zj]
  have lp4:∀ {c:Addr} {xs:List V},H4 c=some (.lst xs)->c≠p:=fun h=>Y7 h hp4 (fun z=>nomatch z)
  have R4:=R3.same m4
  have R5:RuleAt H5 r b bl zs:=⟨m5 _ _ (Y7 R4.tu hp4 (fun z=>nomatch z)) R4.tu,m5 _ _ (lp4 R4.li) R4.li,fun z hz=>m5 _ _ (lp4 (R4.st z hz)) (R4.st z hz)⟩
  have hD5:H5 Dd=some (.lst (ws.map fun z=>V.ref z.1)):=m5 _ _ (lp4 (m4 _ _ (m3 _ _ (lp hD) hD))) (m4 _ _ (m3 _ _ (lp hD) hD))
  refine⟨(by show 1<=sizeLine;decide),fun q1 n1=>?_⟩
  refine⟨_,rfl,Dd,_,rfl,.inl (SqL.of (zq n1 _ _ hD5)),?_⟩
  rw [List.length_map]
  refine⟨q1,_,_,rfl,rfl,zj,by omega,by omega,?_,fun q2 n2=>?_⟩
  ·show 1*(ws.length:Int).toNat<=sizeLine
   exact Nat.le_trans (show 1*(ws.length:Int).toNat<=13 by omega) (by decide)
  have s1:=zq n1 (o:=.lst [V.int 1])
  have s2:=s1.trans (zq n2 (o:=.lst (List.replicate (ws.length:Int).toNat [V.int 1]).flatten))
  have R6:=R5.same s2
  refine⟨_,rfl,r,_,_,V.ref bl,rfl,rfl,SqT.of R6.tu,rfl,(by show 1<=sizeLine;decide),fun q3 n3=>?_⟩
  have s3:=s2.trans (zq n3 (o:=.lst [V.int 0]))
  have R7:=R5.same s3
  refine⟨bl,q3,zs,[0],rfl,R7.li,R7.st,zj,by omega,by decide,fun z hz=>⟨(gz z hz).1,Nat.le_trans (gz z hz).2 (by decide)⟩,fun H8 s8=>⟨_,rfl,?_⟩⟩
  have s38:=s3.trans s8
  have fin:∀ x:Int,x=((yI (zs.map (·.2)) b 0:Nat):Int)->∀ q4,H8 q4=none->q2≠q4->∀ q5,upd H8 q4 (.lst [V.int x]) q5=none->∀ q6,upd (upd H8 q4 (.lst [V.int x])) q5 (.lst ((List.replicate (ws.length:Int).toNat [V.int 1]).flatten++[V.int x])) q6=none ->
    Q .non (upd (upd (upd (upd H8 q4 (.lst [V.int x])) q5 (.lst ((List.replicate (ws.length:Int).toNat [V.int 1]).flatten++[V.int x]))) q6 (.lst [V.ref q5])) p (.ins C dx (wB "layers" (.ref q6) (wB "steps" (.ref sa) (wB "outset" (.int (ws.length:Nat)) (wB "base" (.int b) [])))))):=by
   intro x hx q4 n4 _ q5 n5 q6 n6
   have t4:=zq n4 (o:=.lst [V.int x])
   have t5:=zq n5 (o:=.lst ((List.replicate (ws.length:Int).toNat [V.int 1]).flatten++[V.int x]))
   have t6:=zq n6 (o:=.lst [V.ref q5])
   have t46:=t4.trans (t5.trans t6)
   have s56:=s38.trans t46
   have hp9:=s56 _ _ hp5
   have f5:∀ c,H5 c=none->H c=none:=fun c hc=>by
    have h5:H4 c=none:=by
     rw [<- hH5] at hc
     by_cases z:c=p
     ·subst z;rw [zj] at hc;cases hc
     ·rwa [zx z] at hc
    have h3':H3 c=none:=m4.free h5
    have h1':H1 c=none:=by
     rw [<- hH3] at h3'
     by_cases z:c=p
     ·subst z;rw [zj] at h3';cases h3'
     ·rwa [zx z] at h3'
    cases e:H c with
    | none=>rfl
    | some o =>
     by_cases z:c=T0
     ·subst z
      exact absurd h1' (by
       rcases hT1 with h | ⟨d,h,_⟩
       ·rw [h];simp
       ·rw [h];simp)
     ·rw [mL c o z e] at h1';cases h1'
   have q6H5:H5 q6=none:=(s38.trans (t4.trans t5)).free n6
   have q6p:q6≠p:=fun z=>by rw [z,hp5] at q6H5;cases q6H5
   have np5:q5≠q6:=fun z=>by rw [<- z,zj] at n6;cases n6
   generalize hH9:upd (upd (upd H8 q4 (.lst [V.int x])) q5 (.lst ((List.replicate (ws.length:Int).toNat [V.int 1]).flatten++[V.int x]))) q6 (.lst [V.ref q5])=H9 at t6 t46 s56 hp9
   have hq6:H9 q6=some (.lst [V.ref q5]):=by rw [<- hH9,zj]
   have hq5:H9 q5=some (.lst ((List.replicate (ws.length:Int).toNat [V.int 1]).flatten++[V.int x])):=by rw [<- hH9,zx np5,zj]
   have q5p:q5≠p:=Y7 hq5 hp9 (fun z=>nomatch z)
   have off:∀ c o,c≠p->H5 c=some o->aw [q6] (upd H9 p (.ins C dx (XS b ws.length sa q6))) c=some o:=fun c o hc e=>by
    have hcq:c≠q6:=zF e q6H5
    rw [yJ (by simpa using hcq),zx hc]
    exact s56 c o e
   have sa4:H4 sa=some (.lst (srs.map fun z=>V.ref z.1)):=hsal
   have l1:∀ {c:Addr} {xs:List V},H4 c=some (.lst xs)->H5 c=some (.lst xs)/\c≠p:=fun h=>⟨m5 _ _ (lp4 h) h,lp4 h⟩
   refine kk q6 (ws.map (·.2)) _ ⟨⟨dx,sa,srs,?_,off _ _ (l1 hsal).2 (l1 hsal).1,fun z hz=>off _ _ (l1 (hsrs z hz).2).2 (l1 (hsrs z hz).2).1,hsr2⟩,⟨[(q5,wk (zs.map (·.2)) (ws.map (·.2)) b 0)],by rw [zx q6p];exact hq6,fun z hz=>?_,rfl⟩,Nat.le_refl _⟩ ⟨g,SL,by rw [List.length_map];exact h13⟩ (fun c o hc hcT e=>?_) ?_ (f5 _ q6H5)
   ·rw [yJ (by simpa using Ne.symm q6p),List.length_map]
    exact zj
   ·have e:z=(q5,wk (zs.map (·.2)) (ws.map (·.2)) b 0):=by simpa using hz
    subst e
    rw [yJ (by simpa using np5),zx q5p,hq5]
    congr 2
    unfold wk
    rw [List.map_append,hx,Int.toNat_natCast,List.map_map,List.map_map]
    rw [JW (fun _=>rfl) ws]
    rfl
   ·rw [zx hc]
    have h1:=mL c o hcT e
    exact s56 c o (m5 c o hc (m4 c o (m3 c o hc h1)))
   ·have a1:LT T0 H3:=by
     rcases hT1 with h | ⟨d,h1,h2⟩
     ·exact .inl (m3 _ _ (Ne.symm npT) h)
     ·exact .inr ⟨d,m3 _ _ (Ne.symm npT) h1,m3 _ _ (Y7 h2 hp1 (fun z=>nomatch z)) h2⟩
    have a2:=a1.same m4
    have a3:LT T0 H5:=by
     rcases a2 with h | ⟨d,h1,h2⟩
     ·exact .inl (m5 _ _ (Ne.symm npT) h)
     ·exact .inr ⟨d,m5 _ _ (Ne.symm npT) h1,m5 _ _ (Y7 h2 hp4 (fun z=>nomatch z)) h2⟩
    have a4:=a3.same s56
    rcases a4 with h | ⟨d,h1,h2⟩
    ·exact .inl (by rw [zx (Ne.symm npT)];exact h)
    ·exact .inr ⟨d,by rw [zx (Ne.symm npT)];exact h1,by rw [zx (Y7 h2 hp9 (fun z=>nomatch z))];exact h2⟩
  have hq2:H8 q2=some (.lst (List.replicate (ws.length:Int).toNat [V.int 1]).flatten):=s8 _ _ (zq n3 _ _ zj)
  have lenr:(List.replicate (ws.length:Int).toNat [V.int 1]).flatten.length<=13:=by rw [Int.toNat_natCast,JW (f:=fun _=>V.int 1) (fun _=>rfl) ws,List.length_map];exact h13
  have len3:(wB "steps" (.ref sa) (wB "outset" (.int (ws.length:Nat)) (wB "base" (.int b) []))).length<=3:=Nat.le_trans (qC _ _ _) (Nat.succ_le_succ len2)
  have tail:∀ x:Int,x=((yI (zs.map (·.2)) b 0:Nat):Int)->∀ q4,H8 q4=none->∃ l b' xs zs',V.ref q2=V.ref l/\V.ref q4=V.ref b'/\upd H8 q4 (.lst [V.int x]) l=some (.lst xs)/\upd H8 q4 (.lst [V.int x]) b'=some (.lst zs')/\xs.length+zs'.length<=sizeLine/\∀ q5,upd H8 q4 (.lst [V.int x]) q5=none ->
    1<=sizeLine/\∀ q6,upd (upd H8 q4 (.lst [V.int x])) q5 (.lst (xs++zs')) q6=none->∃ v,some (some (V.ref p))=some (some v)/\∃ a C' dx' fs,v=.ref a/\upd (upd (upd H8 q4 (.lst [V.int x])) q5 (.lst (xs++zs'))) q6 (.lst [V.ref q5]) a=some (.ins C' dx' fs)/\Cls K C'/\NoAttr K C' "layers"/\fs.length<1000/\Q .non (upd (upd (upd (upd H8 q4 (.lst [V.int x])) q5 (.lst (xs++zs'))) q6 (.lst [V.ref q5])) a (.ins C' dx' (wB "layers" (.ref q6) fs))):=by
   intro x hx q4 n4
   have nq:q2≠q4:=zF hq2 n4
   refine⟨q2,q4,_,_,rfl,rfl,by rw [zx nq];exact hq2,zj,Nat.le_trans (Nat.add_le_add lenr (Nat.le_refl 1)) (by decide),fun q5 n5=>⟨(by decide),fun q6 n6=>?_⟩⟩
   have hp8:=s38 _ _ hp5
   exact⟨_,rfl,p,C,dx,_,rfl,(zq n4).trans ((zq n5).trans (zq n6)) _ _ hp8,zA.cl,zA.n_layers,by omega,fin x hx q4 n4 nq q5 n5 q6 n6⟩
  cases hlk:lacks (zs.map (·.2)) [0] with
  | true =>
   refine ww ?_
   refine⟨(by show 1<=sizeLine;decide),fun q4 n4=>?_⟩
   exact tail 1 (by unfold yI;rw [hlk];rfl) q4 n4
  | false =>
   refine yZ ?_
   refine⟨(by show 1<=sizeLine;decide),fun q4 n4=>?_⟩
   exact tail 0 (by unfold yI;rw [hlk];rfl) q4 n4
def jx (C:Addr):Sp:=fun vs H Q _=>∃ (p la:Addr) (b:Nat) (ls ws:ZA) (L:Nat),vs=[.ref p]/\TailsAt C H p la b ls ws L/\GoodT b ls ws/\L<=1000/\TQ C H p la b ls ws L fun L' H'=>L'<=1000->Q (.bl (decide (yI ls b ws.length<yI ls b (ws.length+1)))) H'
end
theorem zeO {H:Hp} {x dx:Addr} {C:Addr} (nx:H x=none) (ndx:H dx=none):Same H (upd (upd H dx (.own x)) x (.ins C dx [])):=fun b o e=>by
 rw [zx (zF e nx),zx (zF e ndx)]
 exact e
theorem RuleAt.sameL {T0 r bl:Addr} {H H':Hp} {b:Nat} {zs:ZB} (R:RuleAt H r b bl zs) (hT:LT T0 H) (m:SameL T0 H H'):RuleAt H' r b bl zs :=
 ⟨m _ _ (hT.tup R.tu) R.tu,m _ _ (hT.lst R.li) R.li,fun z hz=>m _ _ (hT.lst (R.st z hz)) (R.st z hz)⟩
theorem YS {T0 la:Addr} {H H1 H2:Hp} (m:SameL T0 H H1) (hla:H la=none) (a:Same (aw [la] H1) (aw [la] H2)):SameL T0 H H2:=fun c o hc e=>by
 have hcl:c∉[la]:=by simpa using zF e hla
 have:=a c o (by rw [yJ hcl];exact m c o hc e)
 rwa [yJ hcl] at this
theorem TailsAt.la {C p la b:Nat} {H:Hp} {ls ws:ZA} {L:Nat} (TA:TailsAt C H p la b ls ws L):∃ xs,H la=some (.lst xs):=let ⟨_,h,_⟩:=TA.ly;⟨_,h⟩
section
variable {P:Program} {w:World} {K:W.Frag} {mg:Str->Option Value} {base:Heap} {T0 C:Addr}
def zgG (T0 C:Addr) (b:Nat) (ls:ZA) (H:Hp) (x:Addr) (H':Hp):Prop:=∃ (la:Addr) (ws:ZA),TailsAt C H' x la b ls ws 1/\GoodT b ls ws/\SameL T0 H H'/\LT T0 H'/\H la=none
theorem Q3 {r:Addr} {b:Nat} {bl:Addr} {zs:ZB} {H:Hp} (R:RuleAt H r b bl zs) (g:zX b (zs.map (·.2))) (hT:LT T0 H) {R':Addr->Hp->Prop} (k:∀ x H',zgG T0 C b (zs.map (·.2)) H x H'->R' x H') :
  ∀ x dx,H x=none->H dx=none->dx≠x->Zf T0 C (.ref x :: ([.ref r]++[])) (upd (upd H dx (.own x)) x (.ins C dx [])) (fun v H2=>v=.non/\R' x H2) E0:=by
 intro x dx nx ndx nex
 have s0:=zeO (C:=C) nx ndx
 refine⟨x,dx,r,b,bl,zs,rfl,zj,R.same s0,g,hT.same s0,fun la ws H' TA G fr hT' hla=>⟨rfl,k x H' ⟨la,ws,TA,G,fun c o hc e=>fr c o (zF e nx) hc (s0 c o e),hT',s0.free hla⟩⟩⟩
theorem Ym:zE ["self"] ["self"] (zu xZ):=⟨rfl,rfl,rfl,by decide +kernel,rfl,by decide +kernel,by decide +kernel⟩
theorem VB {f f1:Addr} {fd fd1:FuncData} (D:Mt K C "Tails.are_endless" "are_endless" xZ ["self"] f fd) (yd:Mt K C "Tails.many_within" "many_within" yW ["self","size"] f1 fd1) (yp:FnOk P w K mg base CX0 3 f1 fd1 ["self","size"] (uJ C)) (zA:ClT K mg C):FnOk P w K mg base CX0 4 f fd ["self"] (jx C):=by
 refine D.fn.ok Ym (fun vs H Q E h=>?_) (fun cdv A outer s H vs Q E hr h=>?_)
 ·obtain⟨p,la,b,ls,ws,L,rfl,_⟩:=h;rfl
 ·obtain⟨p,la,b,ls,ws,L,rfl,TA,G,hL,kk⟩:=h
  have h13:=G.h13
  obtain⟨dx,sa,hp⟩:=TA.obj
  refine⟨_,(zr (zH (xx Qz (jt yd zA.cl yp (hr.mono (by decide)) (pv 0) (zf (zy yF (jC K (pv 0)) zp) zg)) (jt yd zA.cl yp (hr.mono (by decide)) (pv 0) (zf (jC K (pv 0)) zg)) (zL _)))),?_⟩
  refine⟨_,rfl,p,dx,_,rfl,hp,xY _ _ _ _,_,rfl,p,C,dx,_,_,rfl,hp,zA.cl,zA.n_outset,uB _ _ _ _,_,_,rfl,rfl,p,la,b,ls,ws,L,ws.length+1,by rw [Int.natCast_add];rfl,TA,G,hL,by omega,fun L2 H2 hL2 TA2 m2 hmx=>?_⟩
  obtain⟨dx2,sa2,hp2⟩:=TA2.obj
  refine⟨_,rfl,p,dx2,_,rfl,hp2,xY _ _ _ _,_,rfl,p,C,dx2,_,_,rfl,hp2,zA.cl,zA.n_outset,uB _ _ _ _,p,la,b,ls,ws,L2,ws.length,rfl,TA2,G,by omega,by omega,fun L3 H3 hL3 TA3 m3 hmx3=>⟨_,_,rfl,rfl,?_⟩⟩
  have q:=kk L3 H3 (by omega) TA3 (m2.trans m3) (by omega)
  rw [show decide (yI ls b ws.length<yI ls b (ws.length+1))=decide (((yI ls b ws.length:Nat):Int)<((yI ls b (ws.length+1):Nat):Int)) by rw [Bool.eq_iff_iff];simp] at q
  exact q
def Jf (ls:ZA) (b k:Nat) (v:V):Prop:=(k<many (gd ls b) (b^60)/\∃ g:Nat,v=.int g/\gd ls b g=true/\many (gd ls b) g=k/\g<b^60)\/(many (gd ls b) (b^60)<=k/\v=.non)
theorem zdv {b:Nat} {ls ws:ZA} (G:GoodT b ls ws) (h:yI ls b ws.length<yI ls b (ws.length+1)):0<yQ ls b 60:=by
 have e:=zfX (zdE G.ne G.s G.g.b2 h) 60
 have q:=vd ls G.g.b2 60
 rw [yr G.ne G.g.b2,yr G.ne G.g.b2] at q
 omega
theorem zet {b:Nat} {ls ws:ZA} (G:GoodT b ls ws) (h:¬ yI ls b ws.length<yI ls b (ws.length+1)):yQ ls b 60=0:=by
 have b2:=G.g.b2
 have h13:=G.h13
 have e:=vd ls b2 ws.length
 have n:=WD G.ne b2 (t:=ws.length) (by omega) (b^(60+1))
 have q:=vd ls b2 60
 have m:=wu (gd ls b) (show b^ws.length<=b^60 from Nat.pow_le_pow_right (by omega) (by omega))
 rw [<- yr G.ne b2,<- yr G.ne b2] at m
 rw [<- yr G.ne b2] at n
 omega
def XH (C xE:Addr):Sp:=fun vs H Q E=>∃ (p la:Addr) (b:Nat) (ls ws:ZA) (L k:Nat),vs=[.ref p,.int k]/\TailsAt C H p la b ls ws L/\GoodT b ls ws/\L<=1000/\(∀ v,Jf ls b k v->(k<many (gd ls b) (b^60)\/yQ ls b 60=0)->TQ C H p la b ls ws L fun L' H'=>L'<=1000->Q v H') /\
 (many (gd ls b) (b^60)<=k->0<yQ ls b 60->TQ C H p la b ls ws L fun L' H'=>L'<=1000->E (.ref xE) none H')
theorem UG:zE ["tails","k","size"] ["tails","k"] (zu YG):=⟨rfl,rfl,rfl,by decide +kernel,rfl,by decide +kernel,by decide +kernel⟩
theorem zbv {xE:Addr} {f f1 f2 f3 f4:Addr} {fd fd1 fd2 fd3 fd4:FuncData} {t1:Tok} (D:Df K mg "good_at" YG ["tails","k"] f fd) (xU:Df K mg "check_number" vh ["thing"] f1 fd1) (wQ:FnOk P w K mg base CX0 3 f1 fd1 ["thing"] ue) (yd:Mt K C "Tails.many_within" "many_within" yW ["self","size"] f2 fd2) (yp:FnOk P w K mg base CX0 3 f2 fd2 ["self","size"] (uJ C))
  (yL:Mt K C "Tails.number_at" "number_at" xO ["self","size","k"] f3 fd3) (xm:FnOk P w K mg base CX0 5 f3 fd3 ["self","size","k"] (je C)) (wK:Mt K C "Tails.are_endless" "are_endless" xZ ["self"] f4 fd4) (uq:FnOk P w K mg base CX0 4 f4 fd4 ["self"] (jx C)) (zA:ClT K mg C) (jl:mg "MOST_FIGURES" = some (.int 60 t1)) (qEi:zfA K mg "TooMany" xE) (T:Blt mg):FnOk P w K mg base (CX1 P w) 6 f fd ["tails","k"] (XH C xE):=by
 refine D.fn.ok1 UG (fun vs H Q E h=>?_) (fun cdv A outer s H vs Q E hr h=>?_)
 ·obtain⟨p,la,b,ls,ws,L,k,rfl,_⟩:=h;rfl
 ·obtain⟨p,la,b,ls,ws,L,k,rfl,TA,G,hL,kk,kE⟩:=h
  have b2:=G.g.b2
  refine⟨_,(zm (xG (zJ xU wQ (hr.mono (by decide)) (zf (pv 1) zg)))
   (zm (wG PassesOwn.leaving rfl (yl rfl T.n_range (zf (zy yF (xF (v:=.int 60) rfl jl ⟨_,rfl⟩) zp) zg)) (yh (i:=2) UG.nd rfl (Or.inl rfl))
    (zr (yH (zN Qz (jt yd zA.cl yp (hr.mono (by decide)) (pv 0) (zf (pv 2) zg)) (pv 1) (zL _))
     (zr (zH (jt yL zA.cl xm (hr.mono (by decide)) (pv 0) (zf (pv 2) (zf (pv 1) zg)))))
     zO)))
   (zm (yH (wY (zfq wK zA.cl uq (hr.mono (by decide)) (pv 0)))
    (zr (zdg qEi zdJ rfl (zf zf1 zg)))
    zO)
   (zr (zH xq))))),?_⟩
  refine⟨_,rfl,(k:Int),rfl,by omega,?_⟩
  refine⟨_,_,rfl,rfl,61,rfl,by decide,by decide,yS (lo:=0) (n:=61) (fun i Z H2=>∃ (v2:Option V) (L':Nat),Z=[some (.ref p),some (.int k),v2]/\(∀ j,j<i->many (gd ls b) (b^j)<=k)/\L<=L'/\L'<=1000/\TailsAt C H2 p la b ls ws L'/\Same (aw [la] H) (aw [la] H2)) ⟨none,L,rfl,fun j hj=>by omega,Nat.le_refl _,hL,TA,Same.refl _⟩ ?_ ?_⟩
  ·rintro i Z H2 hi ⟨v2,L',rfl,hno,hLL,hL',TA2,m2⟩
   obtain⟨dx2,sa2,hp2⟩:=TA2.obj
   refine⟨_,rfl,p,dx2,_,rfl,hp2,xY _ _ _ _,_,rfl,p,la,b,ls,ws,L',i,by rw [Int.zero_add];rfl,TA2,G,hL',by omega,fun L3 H3 hL3 TA3 m3 hmx=>?_⟩
   rw [yr G.ne b2]
   refine⟨_,rfl,_,_,rfl,rfl,_,rfl,?_⟩
   refine UW (fun h1=>?_) (fun h1=>?_)
   ·have h1':k<many (gd ls b) (b^i):=by have:=of_decide_eq_true h1;omega
    obtain⟨dx3,sa3,hp3⟩:=TA3.obj
    refine⟨_,rfl,p,dx3,_,rfl,hp3,xY _ _ _ _,_,rfl,_,rfl,p,la,b,ls,ws,L3,i,k,by rw [Int.zero_add];rfl,TA3,G,by omega,by omega,h1',fun n hg hm hnb L4 H4 hL4 TA4 m4 hL4'=>?_⟩
    have hpow:b^i<=b^60:=Nat.pow_le_pow_right (by omega) (by omega)
    exact kk (.int n) (.inl ⟨Nat.lt_of_lt_of_le h1' (wu _ hpow),n,rfl,hg,hm,Nat.lt_of_lt_of_le hnb hpow⟩) (.inl (Nat.lt_of_lt_of_le h1' (wu _ hpow))) L4 H4 (by omega) TA4 (m2.trans (m3.trans m4)) hL4'
   ·have h1':many (gd ls b) (b^i)<=k:=by
     by_cases z:many (gd ls b) (b^i)<=k
     ·exact z
     ·exact absurd (decide_eq_true (by omega:((k:Nat):Int)<(many (gd ls b) (b^i):Nat))) h1
    refine⟨_,L3,rfl,fun j hj=>?_,by omega,by omega,TA3,m2.trans m3⟩
    by_cases hji:j<i
    ·exact hno j hji
    ·rw [show j=i by omega];exact h1'
  ·rintro Z H2 ⟨v2,L',rfl,hno,hLL,hL',TA2,m2⟩
   have h60:=hno 60 (by decide)
   obtain⟨dx2,sa2,hp2⟩:=TA2.obj
   refine⟨_,rfl,p,dx2,_,rfl,hp2,xY _ _ _ _,p,la,b,ls,ws,L',rfl,TA2,G,hL',fun L3 H3 hL3 TA3 m3 hL3'=>⟨_,rfl,?_⟩⟩
   cases he:decide (yI ls b ws.length<yI ls b (ws.length+1)) with
   | true =>
    refine ww ⟨by show 1<=sizeLine;decide,kE h60 (zdv G (of_decide_eq_true he)) L3 H3 (by omega) TA3 (m2.trans m3) hL3'⟩
   | false=>exact yZ (kk .non (.inr ⟨h60,rfl⟩) (.inr (zet G (of_decide_eq_false he))) L3 H3 (by omega) TA3 (m2.trans m3) hL3')
def ZM (T0 xE:Addr):Sp:=fun vs H Q E=>∃ (r:Addr) (b:Nat) (bl:Addr) (zs:ZB) (k:Nat),vs=[.ref r,.int k]/\RuleAt H r b bl zs/\zX b (zs.map (·.2))/\LT T0 H/\(∀ v,Jf (zs.map (·.2)) b k v->(k<many (gd (zs.map (·.2)) b) (b^60)\/yQ (zs.map (·.2)) b 60=0)->∀ H',SameL T0 H H'->LT T0 H'->Q v H') /\
 (many (gd (zs.map (·.2)) b) (b^60)<=k->0<yQ (zs.map (·.2)) b 60->∀ H',SameL T0 H H'->LT T0 H'->E (.ref xE) none H')
theorem za7:zE ["rule","k"] ["rule","k"] (zu Zm):=⟨rfl,rfl,rfl,by decide +kernel,rfl,by decide +kernel,by decide +kernel⟩
theorem za0 {xE:Addr} {f f1 f2 f3:Addr} {fd fd1 fd2 fd3:FuncData} (D:Df K mg "good_by" Zm ["rule","k"] f fd) (zV:Df K mg "check_rule" xP ["thing"] f1 fd1) (ye:FnOk P w K mg base CX0 7 f1 fd1 ["thing"] xX) (Wk:Df K mg "good_at" YG ["tails","k"] f2 fd2) (Ub:FnOk P w K mg base (CX1 P w) 6 f2 fd2 ["tails","k"] (XH C xE))
  (ZP:Mk K C f3) (ZF:Binds K fd3 ["self","rule"] []) (xK:FnOk P w K mg base CX0 7 f3 fd3 ["self","rule"] (Zf T0 C)) (zA:ClT K mg C):FnOk P w K mg base (CX1 P w) 9 f fd ["rule","k"] (ZM T0 xE):=by
 refine D.fn.ok1 za7 (fun vs H Q E h=>?_) (fun cdv A outer s H vs Q E hr h=>?_)
 ·obtain⟨r,b,bl,zs,n,rfl,_⟩:=h;rfl
 ·obtain⟨r,b,bl,zs,k,rfl,R,g,hT,kk,kE⟩:=h
  refine⟨_,(zm (xG (zJ zV ye (hr.mono (by decide)) (zf (pv 0) zg)))
   (zr (zH (zc4 Wk Ub (hr.mono (by decide)) zcu (zf (QX ZP xK (hr.mono (by decide)) rfl zA.nm ZF .nil Qm (zf (pv 0) zg)) (zf (pv 1) zg)))))),?_⟩
  refine⟨_,rfl,r,b,bl,zs,rfl,R,g,fun H1 m1=>?_⟩
  refine⟨_,rfl,?_⟩
  refine Q3 (R.same m1) g (hT.same m1) ?_
  rintro x H3 ⟨la,ws,TA,G,mL,hT3,hla⟩
  obtain⟨xs,hla3⟩:=TA.la
  exact⟨_,rfl,x,la,b,_,ws,1,k,rfl,TA,G,by decide,fun v hv hp L4 H4 hL4 TA4 m4 hL4'=>kk v hv hp H4 (YS ((SameL.of m1).trans mL) (m1.free hla) m4) (hT3.off hla3 m4),fun h1 h2 L4 H4 hL4 TA4 m4 hL4'=>kE h1 h2 H4 (YS ((SameL.of m1).trans mL) (m1.free hla) m4) (hT3.off hla3 m4)⟩
def uW (T0:Addr):Sp:=fun vs H Q _=>∃ (r:Addr) (b:Nat) (bl:Addr) (zs:ZB) (n:Nat),vs=[.ref r,.int n]/\RuleAt H r b bl zs/\zX b (zs.map (·.2))/\n<2^900/\LT T0 H/\∀ H',SameL T0 H H'->LT T0 H'->Q (.int (many (gd (zs.map (·.2)) b) n:Nat)) H'
theorem Uz:zE ["rule","n"] ["rule","n"] (zu ud):=⟨rfl,rfl,rfl,by decide +kernel,rfl,by decide +kernel,by decide +kernel⟩
theorem VJ {f f1 f2 f3 f4:Addr} {fd fd1 fd2 fd3 fd4:FuncData} (D:Df K mg "count_below" ud ["rule","n"] f fd) (zV:Df K mg "check_rule" xP ["thing"] f1 fd1) (ye:FnOk P w K mg base CX0 7 f1 fd1 ["thing"] xX) (xg:Df K mg "figures_of" vL ["base","n"] f2 fd2) (xR:FnOk P w K mg base CX0 4 f2 fd2 ["base","n"] vZ)
  (ZP:Mk K C f3) (ZF:Binds K fd3 ["self","rule"] []) (xK:FnOk P w K mg base CX0 7 f3 fd3 ["self","rule"] (Zf T0 C)) (yx:Mt K C "Tails.many_below" "many_below" xn ["self","figures"] f4 fd4) (yR:FnOk P w K mg base CX0 4 f4 fd4 ["self","figures"] (qj C)) (zA:ClT K mg C):FnOk P w K mg base CX0 9 f fd ["rule","n"] (uW T0):=by
 refine D.fn.ok Uz (fun vs H Q E h=>?_) (fun cdv A outer s H vs Q E hr h=>?_)
 ·obtain⟨r,b,bl,zs,n,rfl,_⟩:=h;rfl
 ·obtain⟨r,b,bl,zs,n,rfl,R,g,hn,hT,kk⟩:=h
  refine⟨_,(zm (xG (zJ zV ye (hr.mono (by decide)) (zf (pv 0) zg)))
   (zr (zH (jt yx zA.cl yR (hr.mono (by decide)) (QX ZP xK (hr.mono (by decide)) rfl zA.nm ZF .nil Qm (zf (pv 0) zg)) (zf (zJ xg xR (hr.mono (by decide)) (zf (zP (uH K) (pv 0) zp (fun _ _=>rfl)) (zf (pv 1) zg))) zg))))),?_⟩
  refine⟨_,rfl,r,b,bl,zs,rfl,R,g,fun H1 m1=>?_⟩
  refine⟨_,rfl,?_⟩
  refine Q3 (R.same m1) g (hT.same m1) ?_
  rintro x H2 ⟨la,ws,TA,G,mL,hT2,hla⟩
  obtain⟨dx2,sa2,hp2⟩:=TA.obj
  have R2:=(R.same m1).sameL (hT.same m1) mL
  refine⟨x,dx2,_,rfl,hp2,xY _ _ _ _,?_⟩
  refine⟨_,rfl,r,_,_,V.int b,rfl,rfl,SqT.of R2.tu,rfl,_,rfl,b,n,rfl,g.b2,g.b16,hn,fun l H3 hl hv m3=>?_⟩
  obtain⟨xs,hla2⟩:=TA.la
  have nl:l≠la:=fun z=>by rw [z,hla2] at hl;cases hl
  refine⟨x,la,b,_,ws,1,l,n,rfl,TA.same m3,G,by decide,by rw [yJ (by simpa using nl)];exact hv,hn,fun L4 H4 hL4 TA4 m4 hL4'=>?_⟩
  have mL3:SameL T0 H1 H3:=mL.trans (.of m3)
  have mL4:=YS mL3 hla m4
  exact kk H4 ((SameL.of m1).trans mL4) ((hT2.same m3).off (m3 _ _ hla2) m4)
def zgr (ls:ZA) (b n:Nat) (v:V):Prop:=(v=.non/\many (gd ls b) n=0)\/∃ g:Nat,v=.int g/\g<n/\gd ls b g=true/\many (gd ls b) g+1=many (gd ls b) n
def zdP (T0:Addr) (pre:ZA->Nat->Nat->Prop) (R:ZA->Nat->Nat->V->Prop):Sp:=fun vs H Q _=>∃ (r:Addr) (b:Nat) (bl:Addr) (zs:ZB) (n:Nat),vs=[.ref r,.int n]/\RuleAt H r b bl zs/\zX b (zs.map (·.2))/\pre (zs.map (·.2)) b n/\LT T0 H/\∀ v H',R (zs.map (·.2)) b n v->SameL T0 H H'->LT T0 H'->Q v H'
abbrev Zw (T0:Addr):Sp:=zdP T0 (fun _ _ n=>n<2^850) zgr
theorem q9:zE ["rule","n","figures","tails","k"] ["rule","n"] (zu jW):=⟨rfl,rfl,rfl,by decide +kernel,rfl,by decide +kernel,by decide +kernel⟩
theorem JV {f f1 f2 f3 f4 f6:Addr} {fd fd1 fd2 fd3 fd4 fd6:FuncData} (D:Df K mg "last_good" jW ["rule","n"] f fd) (zV:Df K mg "check_rule" xP ["thing"] f1 fd1) (ye:FnOk P w K mg base CX0 7 f1 fd1 ["thing"] xX) (xg:Df K mg "figures_of" vL ["base","n"] f2 fd2) (xR:FnOk P w K mg base CX0 4 f2 fd2 ["base","n"] vZ)
  (ZP:Mk K C f3) (ZF:Binds K fd3 ["self","rule"] []) (xK:FnOk P w K mg base CX0 7 f3 fd3 ["self","rule"] (Zf T0 C)) (yx:Mt K C "Tails.many_below" "many_below" xn ["self","figures"] f4 fd4) (yR:FnOk P w K mg base CX0 4 f4 fd4 ["self","figures"] (qj C))
  (yL:Mt K C "Tails.number_at" "number_at" xO ["self","size","k"] f6 fd6) (xm:FnOk P w K mg base CX0 5 f6 fd6 ["self","size","k"] (je C)) (zA:ClT K mg C) (T:Blt mg):FnOk P w K mg base CX0 9 f fd ["rule","n"] (Zw T0):=by
 refine D.fn.ok q9 (fun vs H Q E h=>?_) (fun cdv A outer s H vs Q E hr h=>?_)
 ·obtain⟨r,b,bl,zs,n,rfl,_⟩:=h;rfl
 ·obtain⟨r,b,bl,zs,n,rfl,R,g,hn,hT,kk⟩:=h
  have hn9:n<2^900:=by omega
  have hlen:=YB g.b2 850 n hn
  refine⟨_,(zm (xG (zJ zV ye (hr.mono (by decide)) (zf (pv 0) zg)))
   (zm (zB (i:=2) q9.nd rfl (Or.inl rfl) (zJ xg xR (hr.mono (by decide)) (zf (zP (uH K) (pv 0) zp (fun _ _=>rfl)) (zf (pv 1) zg))))
   (zm (zB (i:=3) q9.nd rfl (Or.inl rfl) (QX ZP xK (hr.mono (by decide)) rfl zA.nm ZF .nil Qm (zf (pv 0) zg)))
   (zm (zB (i:=4) q9.nd rfl (Or.inl rfl) (jt yx zA.cl yR (hr.mono (by decide)) (pv 3) (zf (pv 2) zg)))
   (zm (yH (zN Ze (pv 4) zp (zL _))
    (zr (zH xq))
    zO)
   (zr (zH (jt yL zA.cl xm (hr.mono (by decide)) (pv 3) (zf (zz (w6 K) (by rfl) T.n_len PySem.boot_len (zf (pv 2) zg)) (zf (zy wH (pv 4) zp) zg)))))))))),?_⟩
  refine⟨_,rfl,r,b,bl,zs,rfl,R,g,fun H1 m1=>?_⟩
  have R1:=R.same m1
  refine⟨_,rfl,r,_,_,V.int b,rfl,rfl,SqT.of R1.tu,rfl,_,rfl,b,n,rfl,g.b2,g.b16,hn9,fun l H2 hl hv m2=>?_⟩
  have m12:=m1.trans m2
  refine⟨_,rfl,?_⟩
  refine Q3 (R.same m12) g (hT.same m12) ?_
  rintro x H3 ⟨la,ws,TA,G,mL,hT3,hla⟩
  have hl3:=mL _ _ ((hT.same m12).lst hv) hv
  have nl:l≠la:=fun z=>by rw [z,hla] at hv;cases hv
  obtain⟨xs,hla3⟩:=TA.la
  obtain⟨dx3,sa3,hp3⟩:=TA.obj
  refine⟨_,rfl,x,dx3,_,rfl,hp3,xY _ _ _ _,_,rfl,x,la,b,_,ws,1,l,n,rfl,TA,G,by decide,by rw [yJ (by simpa using nl)];exact hl3,hn9,fun L4 H4 hL4 TA4 m4 hL4'=>?_⟩
  have hl4:aw [la] H4 l=some (.lst ((yu b n).map V.int)):=m4 _ _ (by rw [yJ (by simpa using nl)];exact hl3)
  have fin:∀ H',Same (aw [la] H4) (aw [la] H')->SameL T0 H H'/\LT T0 H':=fun H' m'=>⟨YS ((SameL.of m12).trans mL) (m12.free hla) (m4.trans m'),hT3.off hla3 (m4.trans m')⟩
  refine⟨_,rfl,rfl,_,rfl,?_⟩
  refine UW (fun hz=>?_) (fun hz=>?_)
  ·have h0:many (gd (zs.map (·.2)) b) n=0:=by
    have z:=of_decide_eq_true hz
    injection z with z
    omega
   obtain⟨a1,a2⟩:=fin H4 (Same.refl _)
   exact kk _ H4 (.inl ⟨rfl,h0⟩) a1 a2
  ·have h0:¬ many (gd (zs.map (·.2)) b) n=0:=fun z=>hz (decide_eq_true (by rw [z];rfl))
   obtain⟨dx4,sa4,hp4⟩:=TA4.obj
   have hle:=wu (gd (zs.map (·.2)) b) (Nat.le_of_lt (uC g.b2 (b:=b) (n:=n) rfl))
   refine⟨_,rfl,x,dx4,_,rfl,hp4,xY _ _ _ _,_,rfl,l,_,rfl,.inl (SqL.of (yG _ _ _ _ hl4)),_,rfl,_,_,rfl,rfl,x,la,b,_,ws,L4,(yu b n).length,many (gd (zs.map (·.2)) b) n-1,?_,TA4,G,hL4',by omega,by omega,fun q hg hm hq L6 H6 hL6 TA6 m6 hL6'=>?_⟩
   ·rw [List.length_map]
    show [V.ref x,V.int _,V.int ((many (gd (zs.map (·.2)) b) n:Nat)-1:Int)]=_
    rw [show (((many (gd (zs.map (·.2)) b) n:Nat):Int)-1)=((many (gd (zs.map (·.2)) b) n-1:Nat):Int) by omega]
   ·obtain⟨a1,a2⟩:=fin H6 m6
    exact kk _ H6 (.inr ⟨q,rfl,zaV (p:=gd (zs.map (·.2)) b) (by omega),hg,by omega⟩) a1 a2
abbrev Yt (T0:Addr):Sp:=zdP T0 (fun ls b n=>n<2^900/\gd ls b n=true) (fun ls b n v=>v=.int (many (gd ls b) n:Nat))
theorem zam:zE ["rule","n"] ["rule","n"] (zu Z0):=⟨rfl,rfl,rfl,by decide +kernel,rfl,by decide +kernel,by decide +kernel⟩
theorem zaG {f f1 f2 f3 f4:Addr} {fd fd1 fd2 fd3 fd4:FuncData} (D:Df K mg "place_of" Z0 ["rule","n"] f fd) (zV:Df K mg "check_rule" xP ["thing"] f1 fd1) (ye:FnOk P w K mg base CX0 7 f1 fd1 ["thing"] xX) (vg:Df K mg "is_number" qt ["thing"] f2 fd2) (jE:FnOk P w K mg base CX0 2 f2 fd2 ["thing"] qZ)
  (X4:Df K mg "is_good" YK ["rule","n"] f3 fd3) (Uu:FnOk P w K mg base CX0 8 f3 fd3 ["rule","n"] Xj) (wL:Df K mg "count_below" ud ["rule","n"] f4 fd4) (vJ:FnOk P w K mg base CX0 9 f4 fd4 ["rule","n"] (uW T0)):FnOk P w K mg base CX0 10 f fd ["rule","n"] (Yt T0):=by
 refine D.fn.ok zam (fun vs H Q E h=>?_) (fun cdv A outer s H vs Q E hr h=>?_)
 ·obtain⟨r,b,bl,zs,n,rfl,_⟩:=h;rfl
 ·obtain⟨r,b,bl,zs,n,rfl,R,g,⟨hn,hg⟩,hT,kk⟩:=h
  refine⟨_,(zm (xG (zJ zV ye (hr.mono (by decide)) (zf (pv 0) zg)))
   (zm (yH (PW.pt (Ut (uX (wY (zJ vg jE (hr.mono (by decide)) (zf (pv 1) zg)))) (Xg (uX (wY (zJ X4 Uu (hr.mono (by decide)) (zf (pv 0) (zf (pv 1) zg))))))))
    (zr Yi)
    zO)
   (zr (zH (zJ wL vJ (hr.mono (by decide)) (zf (pv 0) (zf (pv 1) zg))))))),?_⟩
  refine⟨_,rfl,r,b,bl,zs,rfl,R,g,fun H1 m1=>?_⟩
  refine⟨_,rfl,(n:Int),rfl,_,rfl,?_⟩
  rw [decide_eq_true (show (0:Int)<=n by omega)]
  refine yZ ?_
  refine⟨_,rfl,_,rfl,r,b,bl,zs,n,rfl,R.same m1,g,hn,fun H2 m2=>⟨_,rfl,?_⟩⟩
  have hg':lacks (zs.map (·.2)) (yu b n)=true:=hg
  rw [hg']
  refine yZ ?_
  have m12:=m1.trans m2
  exact⟨_,rfl,_,rfl,r,b,bl,zs,n,rfl,R.same m12,g,hn,hT.same m12,fun H3 mL hT3=>kk _ H3 rfl ((SameL.of m12).trans mL) hT3⟩
end
structure Sto2 (H:Hp) (s dr:Addr) (ds:List Int):Prop where
 st:∃ i:Int,H s=some (.lst [.ref dr,.int i])
 dr:H dr=some (.lst (ds.map V.int))
 ne:ds≠[]
 len:ds.length<=1000
 nn:∀ d∈ds,0<=d/\d<10007
theorem Sto2.nes {H:Hp} {s dr p:Addr} {ds:List Int} (S:Sto2 H s dr ds) (h:H p=none):p≠s:=fun z=>by
 obtain⟨i,e⟩:=S.st
 rw [z,e] at h;cases h
theorem Sto2.ned {H:Hp} {s dr:Addr} {ds:List Int} (S:Sto2 H s dr ds):dr≠s:=fun z=>by
 obtain⟨i,e⟩:=S.st
 have h:=S.dr
 rw [z,e] at h
 injection h with h
 injection h with h
 cases hd:ds with
 | nil=>exact S.ne hd
 | cons a l=>rw [hd,List.map_cons] at h;injection h with h1 _;cases h1
structure Stq2 (T s dr:Addr) (ds:List Int) (H H':Hp):Prop where
 st:Sto2 H' s dr ds
 sm:∀ b o,b≠s->b≠T->H b=some o->H' b=some o
section
variable {T s dr p:Addr} {ds:List Int} {H H1 H2 H':Hp} {o:HO}
theorem Stq2.refl (S:Sto2 H s dr ds):Stq2 T s dr ds H H:=⟨S,fun _ _ _ _ e=>e⟩
theorem Stq2.trans (a:Stq2 T s dr ds H H1) (b:Stq2 T s dr ds H1 H2):Stq2 T s dr ds H H2:=⟨b.st,fun c o h t e=>b.sm c o h t (a.sm c o h t e)⟩
theorem Sto2.sameL (S:Sto2 H s dr ds) (hT:LT T H) (m:SameL T H H'):Sto2 H' s dr ds:=by
 obtain⟨i,e⟩:=S.st
 exact⟨⟨i,m _ _ (hT.lst e) e⟩,m _ _ (hT.lst S.dr) S.dr,S.ne,S.len,S.nn⟩
theorem Sto2.same (S:Sto2 H s dr ds) (m:Same H H'):Sto2 H' s dr ds:=by
 obtain⟨i,e⟩:=S.st
 exact⟨⟨i,m _ _ e⟩,m _ _ S.dr,S.ne,S.len,S.nn⟩
theorem Stq2.same (a:Stq2 T s dr ds H H1) (m:Same H1 H2):Stq2 T s dr ds H H2:=⟨a.st.same m,fun c o h t e=>m c o (a.sm c o h t e)⟩
theorem Stq2.sameL (a:Stq2 T s dr ds H H1) (hT:LT T H1) (m:SameL T H1 H2):Stq2 T s dr ds H H2:=⟨a.st.sameL hT m,fun c o h t e=>m c o t (a.sm c o h t e)⟩
theorem Stq2.new (a:Stq2 T s dr ds H H1) (h:H1 p=none):Stq2 T s dr ds H (upd H1 p o):=a.same (zq h)
theorem Stq2.put (a:Stq2 T s dr ds H H1) (hs:p≠s) (hd:p≠dr) (h:H p=none):Stq2 T s dr ds H (upd H1 p o):=⟨by
 obtain⟨i,e⟩:=a.st.st
 exact⟨⟨i,by rw [zx (Ne.symm hs)];exact e⟩,by rw [zx (Ne.symm hd)];exact a.st.dr,a.st.ne,a.st.len,a.st.nn⟩,fun c u hc ht e=>by
  rw [zx (zF e h)];exact a.sm c u hc ht e⟩
end
theorem RuleAt.q {T s dr r bl:Addr} {ds:List Int} {H H':Hp} {b:Nat} {zs:ZB} (R:RuleAt (aw [s] H) r b bl zs) (hT:LT T H) (S:Stq2 T s dr ds H H'):RuleAt (aw [s] H') r b bl zs:=by
 have go:∀ c o,c≠T->aw [s] H c=some o->aw [s] H' c=some o:=fun c o ht e=>by
  have hc:c∉[s]:=fun hc=>by rw [Ue hc] at e;cases e
  rw [yJ hc] at e ⊢
  exact S.sm c o (fun z=>hc (by simp [z])) ht e
 have f:∀ {c:Addr} {o:HO},aw [s] H c=some o->H c=some o:=fun e=>yG _ _ _ _ e
 exact⟨go _ _ (hT.tup (f R.tu)) R.tu,go _ _ (hT.lst (f R.li)) R.li,fun z hz=>go _ _ (hT.lst (f (R.st z hz))) (R.st z hz)⟩
section
variable {P:Program} {w:World} {K:W.Frag} {mg:Str->Option Value} {base:Heap} {T0:Addr}
def qW (T0:Addr):Sp:=fun vs H Q _=>∃ (s dr:Addr) (ds:List Int) (m:Nat),vs=[.ref s,.int m]/\Sto2 H s dr ds/\0<m/\LT T0 H/\∀ (r:Nat) (H':Hp),r<m->r<10007->Stq2 T0 s dr ds H H'->LT T0 H'->Q (.int r) H'
theorem JT:zE ["store","many"] ["store","many"] (zu qx):=⟨rfl,rfl,rfl,by decide +kernel,rfl,by decide +kernel,by decide +kernel⟩
theorem Z5 {f:Addr} {fd:FuncData} (D:Df K mg "_law_take" qx ["store","many"] f fd) (T:Blt mg):FnOk P w K mg base CX0 1 f fd ["store","many"] (qW T0):=by
 refine D.fn.ok JT (fun vs H Q E h=>?_) (fun cdv A outer s H vs Q E hr h=>?_)
 ·obtain⟨s,dr,ds,m,rfl,_⟩:=h;rfl
 ·obtain⟨sa,dr,ds,m,rfl,S,hm0,hT,kk⟩:=h
  obtain⟨i,hs⟩:=S.st
  have nd:=S.ned
  refine⟨_,(zm (zfB (zy yF (zP (yC K) (pv 0) zp (fun _ _=>rfl)) zp) (zfW (pv 0) zp set_list))
   (zr (zH (zy yt (zP (yC K) (zP (yC K) (pv 0) zp (fun _ _=>rfl)) (zy yt (zy wH (zP (yC K) (pv 0) zp (fun _ _=>rfl)) zp) (zz (w6 K) (by rfl) T.n_len PySem.boot_len (zf (zP (yC K) (pv 0) zp (fun _ _=>rfl)) zg))) (fun _ _=>rfl)) (pv 1))))),?_⟩
  refine⟨_,rfl,sa,_,_,V.int i,rfl,rfl,SqL.of hs,rfl,_,_,rfl,rfl,_,rfl,sa,_,_,1,rfl,rfl,hs,rfl,?_⟩
  have hs1:upd H sa (.lst [V.ref dr,V.int (i+1)]) sa=some (.lst [V.ref dr,V.int (i+1)]):=zj
  have hd1:upd H sa (.lst [V.ref dr,V.int (i+1)]) dr=some (.lst (ds.map V.int)):=by rw [zx nd];exact S.dr
  have hdl:0<ds.length:=List.length_pos_iff.mpr S.ne
  refine⟨_,rfl,sa,_,_,V.ref dr,rfl,rfl,SqL.of hs1,rfl,?_⟩
  refine⟨_,rfl,sa,_,_,V.int (i+1),rfl,rfl,SqL.of hs1,rfl,_,_,rfl,rfl,?_⟩
  refine⟨_,rfl,sa,_,_,V.ref dr,rfl,rfl,SqL.of hs1,rfl,dr,_,rfl,.inl (SqL.of hd1),_,_,rfl,rfl,(by rw [List.length_map];omega),?_⟩
  rw [List.length_map]
  have hj0:0<=(i+1-1) % (ds.length:Int):=Int.emod_nonneg _ (by omega)
  have hj1:(i+1-1) % (ds.length:Int)<ds.length:=Int.emod_lt_of_pos _ (by omega)
  obtain⟨j,hj⟩:∃ j:Nat,(i+1-1) % (ds.length:Int)=(j:Int):=⟨((i+1-1) % (ds.length:Int)).toNat,by omega⟩
  have hjl:j<ds.length:=by omega
  refine⟨dr,_,_,V.int ds[j],rfl,rfl,SqL.of hd1,?_,_,rfl,_,_,rfl,rfl,(by omega:(0:Int)<m),?_⟩
  ·show atI (ds.map V.int) ((i+1-1) % (ds.length:Int))=_
   rw [hj]
   exact vG (by rw [List.getElem?_map,List.getElem?_eq_getElem hjl];rfl)
  have hn:=S.nn ds[j] (List.getElem_mem hjl)
  have h0:0<=ds[j] % (m:Int):=Int.emod_nonneg _ (by omega)
  have h1:ds[j] % (m:Int)<m:=Int.emod_lt_of_pos _ (by omega)
  have h2:ds[j] % (m:Int)<=ds[j]:=by
   have:=Int.mul_ediv_add_emod ds[j] (m:Int)
   have h3:=Int.mul_nonneg (show (0:Int)<=m by omega) (Int.ediv_nonneg hn.1 (show (0:Int)<=m by omega))
   omega
  obtain⟨r,hr'⟩:∃ r:Nat,ds[j] % (m:Int)=(r:Int):=⟨(ds[j] % (m:Int)).toNat,by omega⟩
  show Q (V.int (ds[j] % (m:Int))) _
  rw [hr']
  refine kk r _ (by omega) (by omega) ⟨⟨⟨_,hs1⟩,hd1,S.ne,S.len,S.nn⟩,fun b o hb _ e=>by rw [zx hb];exact e⟩ ?_
  have nT:=hT.lst hs
  rcases hT with h | ⟨c,h1,h2⟩
  ·exact .inl (by rw [zx (Ne.symm nT)];exact h)
  ·exact .inr ⟨c,by rw [zx (Ne.symm nT)];exact h1,by rw [zx (fun z=>by rw [z,hs] at h2;cases h2)];exact h2⟩
structure Drw (H:Hp) (p:Addr) (ds:List Int):Prop where
 li:H p=some (.lst (ds.map V.int))
 nn:∀ d∈ds,0<=d/\d<10007
def Zd (K:W.Frag):Sp:=fun vs H Q _=>∃ (a:Addr) (ns:List Int),vs=[.ref a,.int 300]/\SqL K H a (ns.map V.int)/\ns.length<=63/\∀ (p:Addr) (ds:List Int) (H':Hp),H p=none->Drw H' p ds->ds≠[]->ds.length<=1000->Same H H'->Q (.ref p) H'
theorem zM:zE ["script","many","drawn","base","k","cell","number","one"] ["script","many"] (zu jb):=⟨rfl,rfl,rfl,by decide +kernel,rfl,by decide +kernel,by decide +kernel⟩
theorem Xb {f:Addr} {fd:FuncData} (D:Df K mg "_law_draws" jb ["script","many"] f fd) (T:Blt mg) (U:Vf mg):FnOk P w K mg base CX0 1 f fd ["script","many"] (Zd K):=by
 refine D.fn.ok zM (fun vs H Q E h=>?_) (fun cdv A outer s H vs Q E hr h=>?_)
 ·obtain⟨a,ns,rfl,_⟩:=h;rfl
 ·obtain⟨a,ns,rfl,hS,hlen,kk⟩:=h
  refine⟨_,(zm (zB (i:=2) zM.nd rfl (Or.inl rfl) (zU zg))
   (zm (zB (i:=3) zM.nd rfl (Or.inl rfl) zp)
   (zm (wG PassesOwn.never rfl (zeT K rfl T.n_enumerate (zf (vU (WY K) (pv 0) jc (tE zp)) zg)) (za1 rfl (qL (yh (i:=4) zM.nd rfl (Or.inl rfl)) (qL (yh (i:=5) zM.nd rfl (Or.inl rfl)) JQ)))
    (zm (zB (i:=6) zM.nd rfl (Or.inl rfl) (zz zdT (by rfl) U.n_abs boot_abs (zf (pv 5) zg)))
    (zm (zB (i:=3) zM.nd rfl (Or.inl rfl) (zy yt (zy yF (zy uZ (pv 3) zp) (pv 6)) zp))
    (zr (yH (zN zdp (pv 6) (zy QW zp zp) (zL _))
     (zr (Yj PassesOwn.never (PW.pt (Jx (zN Qz (pv 6) zp (zL _)) (Vn (zN QS (zz (w6 K) (by rfl) T.n_len PySem.boot_len (zf (pv 2) zg)) (pv 1) (zL _)))))
      (zm (xG (Y5 PySem.F.plainAttrs_list PySem.F.slot_list_append PySem.F.type_list_append vM (pv 2) (zf (zy yt (pv 6) zp) zg)))
      (zr (zB (i:=6) zM.nd rfl (Or.inl rfl) (zy vR (pv 6) zp))))))
     (zm (zB (i:=7) zM.nd rfl (Or.inl rfl) (zy yt (zy uZ (zy yF (zy yF (zy yt (pv 6) zp) (pv 4)) zp) zp) zp))
     (zm (zB (i:=7) zM.nd rfl (Or.inl rfl) (zy yt (zy uZ (pv 7) (pv 7)) zp))
     (zm (xG (Y5 PySem.F.plainAttrs_list PySem.F.slot_list_append PySem.F.type_list_append vM (pv 2) (zf (zy yt (zy vR (pv 7) zp) zp) zg)))
     (zm (zB (i:=7) zM.nd rfl (Or.inl rfl) (zy yt (zy yF (zy yF (zy uZ (pv 7) zp) (zy uZ zp (pv 4))) zp) zp))
     (zm (zB (i:=7) zM.nd rfl (Or.inl rfl) (zy yt (zy uZ (pv 7) (pv 7)) zp))
     (zr (xG (Y5 PySem.F.plainAttrs_list PySem.F.slot_list_append PySem.F.type_list_append vM (pv 2) (zf (zy yt (zy vR (pv 7) zp) zp) zg))))))))))))))
   (zm (wG PassesOwn.never rfl (yl rfl T.n_range (zf (zy wH (pv 1) (zz (w6 K) (by rfl) T.n_len PySem.boot_len (zf (pv 2) zg))) zg)) (yh (i:=4) zM.nd rfl (Or.inl rfl))
    (zm (zB (i:=7) zM.nd rfl (Or.inl rfl) (zy yt (zy yF (zy yF (pv 3) (zy uZ zp (pv 4))) zp) zp))
    (zm (zB (i:=7) zM.nd rfl (Or.inl rfl) (zy yt (zy uZ (pv 7) (pv 7)) zp))
    (zm (zB (i:=7) zM.nd rfl (Or.inl rfl) (zy yt (zy yF (zy uZ (pv 7) zp) (pv 4)) zp))
    (zr (xG (Y5 PySem.F.plainAttrs_list PySem.F.slot_list_append PySem.F.type_list_append vM (pv 2) (zf (zy yt (zy vR (zy yt (zy uZ (pv 7) (pv 7)) zp) zp) zp) zg))))))))
   (zr (zH (pv 2))))))),?_⟩
  refine⟨(by decide:0<=sizeLine),fun dr hdr=>?_⟩
  have m1:Same H (upd H dr (.lst [])):=zq hdr
  have add:∀ {H2:Hp} {ds:List Int} (y:Int),Drw H2 dr ds->Drw (upd H2 dr (.lst (ds.map V.int++[.int (y % 10007)]))) dr (ds++[y % 10007]):=fun {H2 ds} y Dr=>⟨by rw [zj];simp,fun d hd=>by
   rcases List.mem_append.mp hd with hd | hd
   ·exact Dr.nn d hd
   ·have e:d=y % 10007:=by simpa using hd
    rw [e]
    exact⟨Int.emod_nonneg _ (by decide),Int.emod_lt_of_pos _ (by decide)⟩⟩
  have smp:∀ {H2:Hp} {o:HO},Same H H2->Same H (upd H2 dr o):=fun m b o e=>by rw [zx (zF e hdr)];exact m b o e
  refine⟨_,rfl,_,rfl,a,_,rfl,m1.seq hS,fun q hq=>?_⟩
  have ecut:uR (ns.map V.int) none (some 63)=ns.map V.int:=by
   rw [show (63:Int)=((63:Nat):Int) from rfl,Zo,List.take_of_length_le (by rw [List.length_map];exact hlen)]
  rw [ecut]
  have m2:=m1.trans (zq hq (o:=.lst (ns.map V.int)))
  have ndq:dr≠q:=fun z=>by rw [<- z,zj] at hq;cases hq
  refine⟨q,rfl,⟨_,SqL.of zj⟩,zdZ (K:=K) (a:=q) (xs:=ns.map V.int) (fun i Z H2=>∃ (v4 v5 v6 v7:Option V) (bs:Int) (ds:List Int),Z=[some (.ref a),some (.int 300),some (.ref dr),some (.int bs),v4,v5,v6,v7]/\0<=bs/\bs<2147483629/\Drw H2 dr ds/\ds.length<=300+2*i/\Same H H2/\H2 q=some (.lst (ns.map V.int)))
   ⟨none,none,none,none,7,[],rfl,by decide,by decide,⟨by rw [zx ndq,zj];rfl,by simp⟩,by simp,m2,zj⟩ (fun i Z H2 _ ⟨_,_,_,_,_,_,_,_,_,_,_,_,h⟩=>SqL.of h) ?_ ?_⟩
  ·rintro i x Z H2 T1 hx ⟨v4,v5,v6,v7,bs,ds,rfl,hb0,hb1,Dr,hdl,m,hq2⟩ hT1
   rw [List.getElem?_map] at hx
   obtain⟨cell,hc,e⟩:=Option.map_eq_some_iff.mp hx
   subst e
   have hi:i<ns.length:=(List.getElem?_eq_some_iff.mp hc).1
   have t1:=zq hT1 (o:=.tup [.int (i:Nat),.int cell])
   refine⟨T1,_,rfl,SqT.of zj,rfl,_,_,rfl,_,_,rfl,rfl,?_⟩
   have m3:=m.trans t1
   have Dr3:Drw (upd H2 T1 (.tup [.int (i:Nat),.int cell])) dr ds:=⟨t1 _ _ Dr.li,Dr.nn⟩
   have hq3:=t1 _ _ hq2
   generalize upd H2 T1 (.tup [.int (i:Nat),.int cell])=H3 at m3 Dr3 hq3
   have ndq3:dr≠q:=ndq
   refine⟨_,rfl,cell,rfl,?_⟩
   try dsimp only
   generalize hnum:(if cell<0 then -cell else cell)=num
   have hn0:0<=num:=by rw [<- hnum];split<;>omega
   refine⟨_,rfl,_,_,rfl,rfl,.inr ⟨by decide,by decide⟩,_,rfl,_,_,rfl,rfl,_,_,rfl,rfl,(by decide:(0:Int)<2147483629),?_⟩
   try dsimp only
   generalize hbs:(bs*31+num) % 2147483629=bs'
   have hb0':0<=bs':=by rw [<- hbs];exact Int.emod_nonneg _ (by decide)
   have hb1':bs'<2147483629:=by rw [<- hbs];exact Int.emod_lt_of_pos _ (by decide)
   refine⟨_,rfl,_,_,rfl,rfl,⟨by decide,by decide,by decide⟩,_,_,rfl,rfl,_,rfl,?_⟩
   generalize decide ((10:Int)^(18:Int).toNat<=num)=bb
   cases bb with
   | true =>
    refine ww ?_
    refine Ys (fun Z H4=>∃ (ds':List Int) (nu:Int),Z=[some (.ref a),some (.int 300),some (.ref dr),some (.int bs'),some (.int (i:Nat)),some (.int cell),some (.int nu),v7]/\0<=nu/\Drw H4 dr ds'/\(ds'.length<=300\/ds'.length<=300+2*i)/\Same H H4/\H4 q=some (.lst (ns.map V.int)))
     (fun Z _=>match Z with | [_,_,_,_,_,_,some (.int nu),_]=>nu.toNat | _=>0) ⟨ds,num,rfl,hn0,Dr3,.inr hdl,m3,hq3⟩ ?_ ?_
    ·rintro Z H4 ⟨ds',nu,rfl,hnu,Dr4,hl4,m4,hq4⟩
     refine⟨_,rfl,_,_,rfl,rfl,_,rfl,?_⟩
     refine UW (fun hp=>?_) (fun hp=>?_)
     ·have hp':0<nu:=of_decide_eq_true hp
      refine⟨_,rfl,dr,_,rfl,.inl (SqL.of Dr4.li),_,rfl,_,_,rfl,rfl,_,rfl,?_⟩
      rw [List.length_map]
      refine UW (fun hlt=>?_) (fun hlt=>?_)
      ·have hlt':ds'.length<300:=by have:=of_decide_eq_true hlt;omega
       refine⟨_,rfl,.inl ⟨rfl,_,SqL.of Dr4.li⟩,_,rfl,_,_,rfl,rfl,(by decide:(0:Int)<10007),dr,_,_,rfl,rfl,Dr4.li,by rw [List.length_map];exact Nat.lt_of_lt_of_le hlt' (by decide),?_⟩
       refine⟨_,rfl,_,_,rfl,rfl,⟨by decide,by decide⟩,⟨ds'++[nu % 10007],nu / 10007,rfl,Int.ediv_nonneg hnu (by decide),add nu Dr4,.inl (by rw [List.length_append,List.length_singleton];omega),smp m4,by rw [zx (Ne.symm ndq)];exact hq4⟩,?_⟩
       show (nu / 10007).toNat<nu.toNat
       have:nu / 10007<nu:=Int.ediv_lt_of_lt_mul (by decide) (by omega)
       omega
      ·exact⟨_,_,_,_,bs',ds',rfl,hb0',hb1',Dr4,by omega,m4,hq4⟩
     ·exact⟨_,_,_,_,bs',ds',rfl,hb0',hb1',Dr4,by omega,m4,hq4⟩
    ·intro Z H4 Q Q' hq'
     rintro⟨v0,e0,i0,j0,e1,e2,k0,e3,q0⟩
     refine⟨v0,e0,i0,j0,e1,e2,k0,e3,?_⟩
     by_cases hk:k0=true
     ·rw [if_pos hk] at q0 ⊢
      obtain⟨v1,e4,a1,ys1,e5,s1,v2,e6,i2,j2,e7,e8,k2,e9,q2⟩:=q0
      exact⟨v1,e4,a1,ys1,e5,s1,v2,e6,i2,j2,e7,e8,k2,e9,hq' _ _ q2⟩
     ·rw [if_neg hk] at q0 ⊢
      exact hq' _ _ q0
   | false =>
    refine yZ ?_
    refine⟨_,rfl,_,_,rfl,rfl,(by decide:(0:Int)<2147483647),_,rfl,_,_,rfl,rfl,_,_,rfl,rfl,_,_,rfl,rfl,.inr ⟨by decide,by decide⟩,_,_,rfl,rfl,(by decide:(0:Int)<2147483647),?_⟩
    try dsimp only
    generalize ho1:(num % 2147483647+(i:Int)+1)*48271 % 2147483647=o1
    have o1b:0<=o1/\o1<2147483647:=by rw [<- ho1];exact⟨Int.emod_nonneg _ (by decide),Int.emod_lt_of_pos _ (by decide)⟩
    refine⟨_,rfl,_,rfl,_,_,rfl,rfl,.inl ⟨by omega,by omega⟩,_,_,rfl,rfl,(by decide:(0:Int)<2147483629),?_⟩
    try dsimp only
    generalize ho2:o1*o1 % 2147483629=o2
    have o2b:0<=o2/\o2<2147483629:=by rw [<- ho2];exact⟨Int.emod_nonneg _ (by decide),Int.emod_lt_of_pos _ (by decide)⟩
    refine⟨_,rfl,.inl ⟨rfl,_,SqL.of Dr3.li⟩,_,rfl,_,_,rfl,rfl,⟨by decide,by decide⟩,_,_,rfl,rfl,(by decide:(0:Int)<10007),dr,_,_,rfl,rfl,Dr3.li,by rw [List.length_map];exact Nat.lt_of_le_of_lt (show ds.length<=500 by omega) (by decide),?_⟩
    have Dr4:=add (o2 / 8) Dr3
    refine⟨_,rfl,_,_,rfl,rfl,.inl ⟨by omega,by omega⟩,_,rfl,_,_,rfl,rfl,.inl ⟨by decide,by decide⟩,_,_,rfl,rfl,_,_,rfl,rfl,_,_,rfl,rfl,(by decide:(0:Int)<2147483563),?_⟩
    try dsimp only
    generalize ho3:(o2*40692+2*(i:Int)+1) % 2147483563=o3
    have o3b:0<=o3/\o3<2147483563:=by rw [<- ho3];exact⟨Int.emod_nonneg _ (by decide),Int.emod_lt_of_pos _ (by decide)⟩
    refine⟨_,rfl,_,rfl,_,_,rfl,rfl,.inl ⟨by omega,by omega⟩,_,_,rfl,rfl,(by decide:(0:Int)<2147483647),?_⟩
    try dsimp only
    generalize ho4:o3*o3 % 2147483647=o4
    refine⟨_,rfl,.inl ⟨rfl,_,SqL.of Dr4.li⟩,_,rfl,_,_,rfl,rfl,⟨by decide,by decide⟩,_,_,rfl,rfl,(by decide:(0:Int)<10007),dr,_,_,rfl,rfl,Dr4.li,by rw [List.length_map,List.length_append,List.length_singleton];exact Nat.lt_of_le_of_lt (show ds.length+1<=500 by omega) (by decide),?_⟩
    exact⟨_,_,_,_,bs',ds++[o2 / 8 % 10007]++[o4 / 8 % 10007],rfl,hb0',hb1',add (o4 / 8) Dr4,by rw [List.length_append,List.length_append,List.length_singleton,List.length_singleton];omega,smp (smp m3),by rw [zx (Ne.symm ndq),zx (Ne.symm ndq)];exact hq3⟩
  ·rintro Z H2 ⟨v4,v5,v6,v7,bs,ds,rfl,hb0,hb1,Dr,hdl,m,hq2⟩
   rw [List.length_map] at hdl
   refine⟨_,rfl,_,rfl,dr,_,rfl,.inl (SqL.of Dr.li),_,_,rfl,rfl,_,rfl,?_⟩
   rw [List.length_map]
   refine⟨by omega,by omega,yS (lo:=0) (n:=(300-(ds.length:Int)).toNat) (fun i Z H3=>∃ (v4 v5 v6 v7:Option V) (ds':List Int),Z=[some (.ref a),some (.int 300),some (.ref dr),some (.int bs),v4,v5,v6,v7]/\Drw H3 dr ds'/\ds'.length=ds.length+i/\Same H H3) ⟨_,_,_,_,ds,rfl,Dr,rfl,m⟩ ?_ ?_⟩
   ·rintro i Z H3 hi ⟨v4,v5,v6,v7,ds',rfl,Dr3,hl3,m3⟩
    refine⟨_,rfl,_,rfl,_,_,rfl,rfl,.inl ⟨by decide,by decide⟩,_,_,rfl,rfl,_,_,rfl,rfl,_,_,rfl,rfl,(by decide:(0:Int)<2147483629),?_⟩
    try dsimp only
    generalize ho1:(bs+7919*(0+(i:Int))+13) % 2147483629=o1
    have o1b:0<=o1/\o1<2147483629:=by rw [<- ho1];exact⟨Int.emod_nonneg _ (by decide),Int.emod_lt_of_pos _ (by decide)⟩
    refine⟨_,rfl,_,rfl,_,_,rfl,rfl,.inl ⟨by omega,by omega⟩,_,_,rfl,rfl,(by decide:(0:Int)<2147483647),?_⟩
    try dsimp only
    generalize ho2:o1*o1 % 2147483647=o2
    have o2b:0<=o2/\o2<2147483647:=by rw [<- ho2];exact⟨Int.emod_nonneg _ (by decide),Int.emod_lt_of_pos _ (by decide)⟩
    refine⟨_,rfl,_,_,rfl,rfl,.inl ⟨by omega,by omega⟩,_,rfl,_,_,rfl,rfl,_,_,rfl,rfl,(by decide:(0:Int)<2147483563),?_⟩
    try dsimp only
    generalize ho3:(o2*69621+(0+(i:Int))) % 2147483563=o3
    have o3b:0<=o3/\o3<2147483563:=by rw [<- ho3];exact⟨Int.emod_nonneg _ (by decide),Int.emod_lt_of_pos _ (by decide)⟩
    refine⟨_,rfl,.inl ⟨rfl,_,SqL.of Dr3.li⟩,_,rfl,_,rfl,_,_,rfl,rfl,.inl ⟨by omega,by omega⟩,_,_,rfl,rfl,(by decide:(0:Int)<2147483629),_,_,rfl,rfl,⟨by decide,by decide⟩,_,_,rfl,rfl,(by decide:(0:Int)<10007),dr,_,_,rfl,rfl,Dr3.li,by rw [List.length_map,hl3];exact Nat.lt_of_le_of_lt (show ds.length+i<=500 by omega) (by decide),?_⟩
    exact⟨_,_,_,_,ds'++[o3*o3 % 2147483629 / 8 % 10007],rfl,add _ Dr3,by rw [List.length_append,List.length_singleton];omega,smp m3⟩
   ·rintro Z H3 ⟨v4,v5,v6,v7,ds',rfl,Dr3,hl3,m3⟩
    refine⟨_,rfl,kk dr ds' H3 hdr Dr3 (fun z=>?_) (by omega) m3⟩
    rw [z] at hl3
    simp at hl3
    omega
end
theorem LT.putL {T p:Addr} {H:Hp} {o:HO} {xs:List V} (h:LT T H) (e:H p=some (.lst xs)):LT T (upd H p o):=by
 have nT:=h.lst e
 rcases h with h | ⟨c,h1,h2⟩
 ·exact .inl (by rw [zx (Ne.symm nT)];exact h)
 ·exact .inr ⟨c,by rw [zx (Ne.symm nT)];exact h1,by rw [zx (fun z=>by rw [z,e] at h2;cases h2)];exact h2⟩
theorem LT.putD {T p:Addr} {H:Hp} {o:HO} {xs:List (List Key×V)} (h:LT T H) (e:H p=some (.dT xs)):LT T (upd H p o):=by
 have nT:p≠T:=fun z=>by
  rw [z] at e
  rcases h with h | ⟨c,h,_⟩
  ·rw [h] at e;cases e
  ·rw [h] at e;cases e
 rcases h with h | ⟨c,h1,h2⟩
 ·exact .inl (by rw [zx (Ne.symm nT)];exact h)
 ·exact .inr ⟨c,by rw [zx (Ne.symm nT)];exact h1,by rw [zx (fun z=>by rw [z,e] at h2;cases h2)];exact h2⟩
structure Fr (T s dr:Addr) (ds:List Int) (H H':Hp):Prop where
 q:Stq2 T s dr ds H H'
 lt:LT T H'
section
variable {T s dr p:Addr} {ds:List Int} {H H1 H2 H':Hp} {o:HO}
theorem Fr.st (a:Fr T s dr ds H H1):Sto2 H1 s dr ds:=a.q.st
theorem Fr.refl (S:Sto2 H s dr ds) (h:LT T H):Fr T s dr ds H H:=⟨.refl S,h⟩
theorem Fr.trans (a:Fr T s dr ds H H1) (b:Fr T s dr ds H1 H2):Fr T s dr ds H H2:=⟨a.q.trans b.q,b.lt⟩
theorem Fr.same (a:Fr T s dr ds H H1) (m:Same H1 H2):Fr T s dr ds H H2:=⟨a.q.same m,a.lt.same m⟩
theorem Fr.sameL (a:Fr T s dr ds H H1) (m:SameL T H1 H2) (h:LT T H2):Fr T s dr ds H H2:=⟨a.q.sameL a.lt m,h⟩
theorem Fr.new (a:Fr T s dr ds H H1) (h:H1 p=none):Fr T s dr ds H (upd H1 p o):=a.same (zq h)
theorem Fr.free (a:Fr T s dr ds H H1) (h:H1 p=none):H p=none:=by
 cases e:H p with
 | none=>rfl
 | some u =>
  have:=a.q.sm p u (a.st.nes h) (a.lt.none h) e
  rw [h] at this;cases this
theorem Fr.get (a:Fr T s dr ds H H1) (hs:p≠s) (ht:p≠T) (e:H p=some o):H1 p=some o:=a.q.sm p o hs ht e
theorem Sto2.nedn (S:Sto2 H s dr ds) (h:H p=none):p≠dr:=fun z=>by rw [z,S.dr] at h;cases h
theorem Fr.putL {xs:List V} (a:Fr T s dr ds H H1) (hs:p≠s) (hd:p≠dr) (h:H p=none) (e:H1 p=some (.lst xs)):Fr T s dr ds H (upd H1 p o):=⟨a.q.put hs hd h,a.lt.putL e⟩
theorem Fr.putD {xs:List (List Key×V)} (a:Fr T s dr ds H H1) (hs:p≠s) (hd:p≠dr) (h:H p=none) (e:H1 p=some (.dT xs)):Fr T s dr ds H (upd H1 p o):=⟨a.q.put hs hd h,a.lt.putD e⟩
end
section
variable {P:Program} {w:World} {K:W.Frag} {mg:Str->Option Value} {base:Heap} {T0:Addr}
def ZC (T0:Addr):Sp:=fun vs H Q _=>∃ (s dr:Addr) (ds:List Int),vs=[.ref s]/\Sto2 H s dr ds/\LT T0 H/\∀ (r:Addr) (b:Nat) (bl:Addr) (zs:ZB) (H':Hp),Fr T0 s dr ds H H'->RuleAt (aw [s] H') r b bl zs->zX b (zs.map (·.2))->Q (.ref r) H'
theorem yX:zE ["store","x","base","found","k","few","stretch","at","y"] ["store"] (zu qF):=⟨rfl,rfl,rfl,by decide +kernel,rfl,by decide +kernel,by decide +kernel⟩
set_option maxHeartbeats 0 in
theorem JK {f f1:Addr} {fd fd1:FuncData} (D:Df K mg "_law_rule" qF ["store"] f fd) (yq:Df K mg "_law_take" qx ["store","many"] f1 fd1) (T:Blt mg):FnOk P w K mg base CX0 2 f fd ["store"] (ZC T0):=by
 have xT:FnOk P w K mg base CX0 1 f1 fd1 ["store","many"] (qW T0):=Z5 yq T
 refine D.fn.ok yX (fun vs H Q E h=>?_) (fun cdv A outer s H vs Q E hr h=>?_)
 ·obtain⟨s,dr,ds,rfl,_⟩:=h;rfl
 ·obtain⟨sa,dr,ds,rfl,S,hT,kk⟩:=h
  refine⟨_,(zm (zB (i:=1) yX.nd rfl (Or.inl rfl) (zJ yq xT (hr.mono (by decide)) (zf (pv 0) (zf zp zg))))
   (zm (zB (i:=2) yX.nd rfl (Or.inl rfl) (zP (yC K) (zU (zf zp (zf zp (zf zp (zf zp (zf (zy yF zp (zy yt (pv 1) zp)) zg)))))) (zJ yq xT (hr.mono (by decide)) (zf (pv 0) (zf zp zg))) (fun _ _=>rfl)))
   (zm (zB (i:=3) yX.nd rfl (Or.inl rfl) zdD)
   (zm (wG PassesOwn.never rfl (yl rfl T.n_range (zf (zP (yC K) (zU (zf (zy yt (zy vR (pv 1) zp) zp) (zf (zy yF zp (zy yt (zy vR (pv 1) zp) zp)) (zf zp zg)))) (zJ yq xT (hr.mono (by decide)) (zf (pv 0) (zf zp zg))) (fun _ _=>rfl)) zg)) (yh (i:=4) yX.nd rfl (Or.inl rfl))
    (zm (zB (i:=5) yX.nd rfl (Or.inl rfl) (zP (yC K) (zU (zf (pv 2) (zf (zz (Qy rfl) (by rfl) T.n_min boot_min (zf (pv 2) (zf zp zg))) (zf zp zg)))) (zJ yq xT (hr.mono (by decide)) (zf (pv 0) (zf zp zg))) (fun _ _=>rfl)))
    (zm (zB (i:=6) yX.nd rfl (Or.inl rfl) (zU zg))
    (zm (wG PassesOwn.never rfl (yl rfl T.n_range (zf (zy yF zp (zJ yq xT (hr.mono (by decide)) (zf (pv 0) (zf zp zg)))) zg)) (yh (i:=7) yX.nd rfl (Or.inl rfl))
     (zm (zB (i:=8) yX.nd rfl (Or.inl rfl) (zJ yq xT (hr.mono (by decide)) (zf (pv 0) (zf zp zg))))
     (zr (xG (Y5 PySem.F.plainAttrs_list PySem.F.slot_list_append PySem.F.type_list_append vM (pv 6) (zf (zP (yC K) (zU (zf (zy yt (pv 8) (pv 5)) (zf (zy wH (zy wH (pv 2) zp) (zy yt (pv 8) (pv 5))) zg))) (tM Wt (by rfl) T.n_int boot_int (zf (xx Ze (zy yt (zy vR (pv 8) zp) zp) zp (zL _)) zg)) (fun _ _=>rfl)) zg))))))
    (zr (zeW (zgI hr) (pv 3) (tM Xd (by rfl) T.n_tuple boot_tuple (zf (pv 6) zg)) W2 rfl))))))
   (zr (zH (wz (zf (pv 2) (zf (wj (show CScope (zu qF) _ "stretch" ["store","x","base","found","k","few","stretch","at","y"] [] [] from ⟨rfl,by decide +kernel,by decide +kernel,rfl,by decide +kernel,rfl,by decide +kernel,by decide +kernel⟩) rfl (YX K (zz zeM (by rfl) T.n_sorted boot_sorted (zf (pv 3) zg))) (fun _ _ _ _=>wg) (fun _ _ _ _=>(tM (zaB K) (by rfl) T.n_list boot_list (zf (pv 0) zg)))) zg))))))))),?_⟩
  refine⟨_,rfl,sa,dr,ds,10007,rfl,(Fr.refl S hT:Fr T0 sa dr ds H H).st,(by decide),(Fr.refl S hT:Fr T0 sa dr ds H H).lt,fun x H1 hx _ qf_ tf_=>?_⟩
  have fq_:=Fr.mk qf_ tf_
  have F1:=(Fr.refl S hT:Fr T0 sa dr ds H H).trans fq_
  refine⟨_,rfl,_,_,rfl,rfl,(by decide:(0:Int)<15),_,_,rfl,rfl,(by show 5<=sizeLine;decide),fun l1 hl1=>?_⟩
  have n1:=F1.st.nes hl1
  have t1:=F1.lt.none hl1
  have F2:=F1.new hl1 (o:=.lst [.int 2,.int 3,.int 10,.int 16,.int (2+(x:Int) % 15)])
  refine⟨_,rfl,sa,dr,ds,5,rfl,F2.st,(by decide),F2.lt,fun x2 H3 hx2 _ qf_ tf_=>?_⟩
  have f3:=Fr.mk qf_ tf_
  have F3:=F2.trans f3
  obtain⟨b,hb,hb2,hb16⟩:∃ b:Nat,atI [V.int 2,V.int 3,V.int 10,V.int 16,V.int (2+(x:Int) % 15)] (x2:Int)=some (.int b)/\2<=b/\b<=16:=by
   match x2,hx2 with
   | 0,_=>exact⟨2,rfl,by omega,by omega⟩
   | 1,_=>exact⟨3,rfl,by omega,by omega⟩
   | 2,_=>exact⟨10,rfl,by omega,by omega⟩
   | 3,_=>exact⟨16,rfl,by omega,by omega⟩
   | 4,_=>exact⟨2+x % 15,rfl,by omega,by omega⟩
  refine⟨l1,_,_,_,rfl,rfl,SqL.of (f3.get n1 t1 zj),hb,?_⟩
  intro kd hkd
  have nkd:=F3.st.nes hkd
  have ndk:=F3.st.nedn hkd
  have tkd:=F3.lt.none hkd
  have hkd0:=F3.free hkd
  have F4:=F3.new hkd (o:=.dT [])
  refine⟨_,rfl,_,_,rfl,rfl,⟨by decide,by decide⟩,_,_,rfl,rfl,(by decide:(0:Int)<5),_,rfl,_,_,rfl,rfl,⟨by decide,by decide⟩,_,_,rfl,rfl,(by decide:(0:Int)<2),_,_,rfl,rfl,(by show 3<=sizeLine;decide),fun l2 hl2=>?_⟩
  have n2:=F4.st.nes hl2
  have t2:=F4.lt.none hl2
  have hk5:=zq hl2 (o:=.lst [.int ((x:Int) / 15 % 5),.int (1+(x:Int) / 15 % 2),.int 4]) kd _ zj
  have F5:=F4.new hl2 (o:=.lst [.int ((x:Int) / 15 % 5),.int (1+(x:Int) / 15 % 2),.int 4])
  refine⟨_,rfl,sa,dr,ds,3,rfl,F5.st,(by decide),F5.lt,fun x3 H6 hx3 _ qf_ tf_=>?_⟩
  have f6:=Fr.mk qf_ tf_
  have F6:=F5.trans f6
  obtain⟨mm,hmm,hm4⟩:∃ m:Nat,atI [V.int ((x:Int) / 15 % 5),V.int (1+(x:Int) / 15 % 2),V.int 4] (x3:Int)=some (.int m)/\m<=4:=by
   match x3,hx3 with
   | 0,_=>exact⟨x / 15 % 5,rfl,by omega⟩
   | 1,_=>exact⟨1+x / 15 % 2,rfl,by omega⟩
   | 2,_=>exact⟨4,rfl,by omega⟩
  refine⟨l2,_,_,_,rfl,rfl,SqL.of (f6.get n2 t2 zj),hmm,?_⟩
  refine⟨_,rfl,by omega,by omega,yS (lo:=0) (n:=(mm:Int).toNat) (fun i Z H5=>∃ (v4 v5 v6 v7 v8:Option V) (kvs:List (List Key×V)) (ls:ZA),Z=[some (.ref sa),some (.int x),some (.int b),some (.ref kd),v4,v5,v6,v7,v8]/\Fr T0 sa dr ds H H5/\H5 kd=some (.dT kvs)/\kvs.map (·.1)=ls.map kI/\ls.length<=i/\∀ l∈ls,Js b l)
   ⟨none,none,none,none,none,[],[],rfl,F6,f6.get nkd tkd hk5,rfl,Nat.le_refl _,by simp⟩ ?_ ?_⟩
  ·rintro i Z H7 hi ⟨v4,v5,v6,v7,v8,kvs,ls,rfl,F7,hk7,hks,hll,hgd⟩
   refine⟨_,rfl,_,rfl,_,_,rfl,(by show 3<=sizeLine;decide),fun l3 hl3=>?_⟩
   have n3:=F7.st.nes hl3
   have t3:=F7.lt.none hl3
   have hk8:=zq hl3 (o:=.lst [.int b,.int (if (3:Int)<(b:Int) then 3 else (b:Int)),.int 2]) kd _ hk7
   have F8:=F7.new hl3 (o:=.lst [.int b,.int (if (3:Int)<(b:Int) then 3 else (b:Int)),.int 2])
   refine⟨_,rfl,sa,dr,ds,3,rfl,F8.st,(by decide),F8.lt,fun x4 H9 hx4 _ qf_ tf_=>?_⟩
   have f9:=Fr.mk qf_ tf_
   have F9:=F8.trans f9
   obtain⟨few,hfew,hfew1,hfew2⟩:∃ m:Nat,atI [V.int b,V.int (if (3:Int)<(b:Int) then 3 else (b:Int)),V.int 2] (x4:Int)=some (.int m)/\2<=m/\m<=b:=by
    match x4,hx4 with
    | 0,_=>exact⟨b,rfl,by omega,by omega⟩
    | 1,_ =>
     by_cases z:3<b
     ·exact⟨3,by rw [if_pos (by omega)];rfl,by omega,by omega⟩
     ·exact⟨b,by rw [if_neg (by omega)];rfl,by omega,by omega⟩
    | 2,_=>exact⟨2,rfl,by omega,by omega⟩
   refine⟨l3,_,_,_,rfl,rfl,SqL.of (f9.get n3 t3 zj),hfew,?_⟩
   have hk9:=f9.get nkd tkd hk8
   refine⟨(by decide:0<=sizeLine),fun sl hsl=>?_⟩
   have nsl:=F9.st.nes hsl
   have dsl:=F9.st.nedn hsl
   have tsl:=F9.lt.none hsl
   have hsl0:=F9.free hsl
   have nks:kd≠sl:=fun z=>by rw [z,hsl] at hk9;cases hk9
   have hk10:=zq hsl (o:=.lst []) kd _ hk9
   have F10:=F9.new hsl (o:=.lst [])
   refine⟨_,rfl,sa,dr,ds,4,rfl,F10.st,(by decide),F10.lt,fun x5 H11 hx5 _ qf_ tf_=>?_⟩
   have f11:=Fr.mk qf_ tf_
   have F11:=F10.trans f11
   refine⟨_,_,rfl,rfl,?_⟩
   refine⟨_,rfl,by omega,by omega,yS (lo:=0) (n:=(1+(x5:Int)).toNat) (fun j Z Hc=>∃ (v4 v7 v8:Option V) (ms:List Int),Z=[some (.ref sa),some (.int x),some (.int b),some (.ref kd),v4,some (.int few),some (.ref sl),v7,v8]/\Fr T0 sa dr ds H Hc/\Hc kd=some (.dT kvs)/\Hc sl=some (.lst (ms.map V.int))/\ms.length=j/\∀ f∈ms,0<=f/\f<(b:Int))
    ⟨_,_,_,[],rfl,F11,f11.get nkd tkd hk10,f11.get nsl tsl zj,rfl,by simp⟩ ?_ ?_⟩
   ·rintro j Z Hc hj ⟨v4,v7,v8,ms,rfl,Fc,hkc,hsc,hml,hmf⟩
    refine⟨_,rfl,sa,dr,ds,10007,rfl,Fc.st,(by decide),Fc.lt,fun y Hd hy _ qf_ tf_=>?_⟩
    have fd:=Fr.mk qf_ tf_
    have Fd:=Fc.trans fd
    have hkd':=fd.get nkd tkd hkc
    have hsd:=fd.get nsl tsl hsc
    refine⟨_,rfl,.inl ⟨rfl,_,SqL.of hsd⟩,_,rfl,_,rfl,_,_,rfl,rfl,(by omega:(0:Int)<few),_,rfl,_,_,rfl,rfl,_,rfl,_,rfl,_,_,rfl,rfl,(by omega:(0:Int)<few),_,_,rfl,rfl,(by show 2<=sizeLine;decide),fun l4 hl4=>?_⟩
    have nl4:sl≠l4:=fun z=>by rw [<- z,hsd] at hl4;cases hl4
    have s4:=zq hl4 (o:=.lst [.int ((y:Int) % (few:Int)),.int ((b:Int)-1-(y:Int) % (few:Int))])
    have Fe:=Fd.new hl4 (o:=.lst [.int ((y:Int) % (few:Int)),.int ((b:Int)-1-(y:Int) % (few:Int))])
    have hke:=s4 _ _ hkd'
    have hse:=s4 _ _ hsd
    refine⟨_,rfl,_,_,rfl,rfl,⟨by decide,by decide⟩,_,_,rfl,rfl,(by decide:(0:Int)<6),rfl,.inr ⟨_,rfl,?_⟩⟩
    have hy0:0<=(y:Int) % (few:Int):=Int.emod_nonneg _ (by omega)
    have hy1:(y:Int) % (few:Int)<few:=Int.emod_lt_of_pos _ (by omega)
    have key:∀ bb:Bool,∃ fg:Int,atI [V.int ((y:Int) % (few:Int)),V.int ((b:Int)-1-(y:Int) % (few:Int))] (if bb=true then 1 else 0)=some (.int fg)/\0<=fg/\fg<b:=by
     intro bb
     cases bb with
     | true=>exact⟨_,rfl,by omega,by omega⟩
     | false=>exact⟨_,rfl,by omega,by omega⟩
    obtain⟨fg,hfg,hf0,hf1⟩:=key (decide (V.int ((y:Int) / 16 % 6)=V.int 0))
    refine⟨l4,_,_,_,rfl,rfl,SqL.of zj,hfg,sl,_,_,rfl,rfl,hse,by rw [List.length_map,hml];exact Nat.lt_of_lt_of_le (show j<5 by omega) (by decide),?_⟩
    refine⟨_,_,_,ms++[fg],rfl,Fe.putL nsl dsl hsl0 hse,by rw [zx nks];exact hke,by rw [zj];simp,by simp [hml],fun f hf=>?_⟩
    rcases List.mem_append.mp hf with hf | hf
    ·exact hmf f hf
    ·have e:f=fg:=by simpa using hf
     rw [e];exact⟨hf0,hf1⟩
   ·rintro Z Hc ⟨v4,v7,v8,ms,rfl,Fc,hkc,hsc,hml,hmf⟩
    have gms:Js b ms:=⟨fun z=>by rw [z] at hml;simp at hml;omega,by omega,hmf⟩
    refine⟨_,rfl,_,rfl,sl,_,rfl,.inl ⟨SqL.of hsc,fun tp htp=>?_⟩⟩
    have hk7:upd Hc tp (.tup (ms.map V.int)) kd=some (.dT kvs):=zq htp _ _ hkc
    have hkl:kvs.length=ls.length:=by have:=congrArg List.length hks;rwa [List.length_map,List.length_map] at this
    refine⟨kd,_,rfl,DPut.t (k:=kI ms) hk7 (by rw [zec];exact zj) (Nat.lt_of_le_of_lt (show kvs.length<=4 by omega) (by decide)),?_⟩
    have S7:=(Fc.new htp (o:=.tup (ms.map V.int))).putD (p:=kd) (o:=.dT (putK kvs (kI ms) (.bl true))) nkd ndk hkd0 hk7
    by_cases hin:ms∈ls
    ·refine⟨_,_,_,_,_,putK kvs (kI ms) (.bl true),ls,rfl,S7,zj,?_,by omega,hgd⟩
     unfold putK
     rw [if_pos (by
      rw [List.any_eq_true]
      have:kI ms∈kvs.map (·.1):=by rw [hks];exact List.mem_map.mpr ⟨ms,hin,rfl⟩
      obtain⟨kv,h1,h2⟩:=List.mem_map.mp this
      exact⟨kv,h1,decide_eq_true h2⟩),List.map_map,<- hks]
     refine List.map_congr_left fun kv _=>?_
     show (if kv.1=kI ms then (kv.1,V.bl true) else kv).1=kv.1
     split<;>rfl
    ·refine⟨_,_,_,_,_,putK kvs (kI ms) (.bl true),ls++[ms],rfl,S7,zj,?_,by rw [List.length_append,List.length_singleton];omega,fun l hl=>?_⟩
     ·unfold putK
      rw [if_neg (by
       rw [List.any_eq_true]
       rintro⟨kv,h1,h2⟩
       have h3:kI ms∈kvs.map (·.1):=List.mem_map.mpr ⟨kv,h1,of_decide_eq_true h2⟩
       rw [hks] at h3
       obtain⟨l,h4,h5⟩:=List.mem_map.mp h3
       exact hin (JG h5▸h4)),List.map_append,List.map_append,hks]
      rfl
     ·rcases List.mem_append.mp hl with hl | hl
      ·exact hgd l hl
      ·have e:l=ms:=by simpa using hl
       rw [e];exact gms
  ·rintro Z H5 ⟨v4,v5,v6,v7,v8,kvs,ls,rfl,S5,hk5,hks,hll,hgd⟩
   refine⟨_,rfl,_,rfl,kd,kvs,ls,rfl,hk5,hks,by omega,fun l hl=>(hgd l hl).ne,fun p zs hp pm pw hz=>?_⟩
   have hzl:zs.length=ls.length:=by have:=pm.length_eq;rwa [List.length_map] at this
   have S6:=S5.new hp (o:=.lst (zs.map fun z=>V.ref z.1))
   refine⟨p,rfl,⟨_,SqL.of zj⟩,xJ (K:=K) (a:=p) (xs:=zs.map fun z=>V.ref z.1) (fun i ys H7=>Same (upd H5 p (.lst (zs.map fun z=>V.ref z.1))) H7/\∃ ws:ZB,ys=ws.map (fun z=>V.ref z.1)/\ws.map (·.2)=(zs.take i).map (·.2)/\∀ z∈ws,H z.1=none/\z.1≠sa/\H7 z.1=some (.lst (z.2.map V.int))) ⟨Same.refl _,[],rfl,by simp,by simp⟩ (fun i ys H7 _ ⟨m7,_⟩=>SqL.of (m7 _ _ zj)) ?_ ?_⟩
   ·rintro j x ys H7 hx ⟨m7,ws,rfl,hw2,hws⟩
    rw [List.getElem?_map] at hx
    obtain⟨z,hzj,e⟩:=Option.map_eq_some_iff.mp hx
    subst e
    have hzm:=List.mem_of_getElem? hzj
    have hj:j<zs.length:=(List.getElem?_eq_some_iff.mp hzj).1
    have hwl:ws.length<=j:=by have:=congrArg List.length hw2;rw [List.length_map,List.length_map,List.length_take] at this;omega
    refine⟨by rw [List.length_map];exact Nat.lt_of_le_of_lt (show ws.length<=4 by omega) (by decide),?_⟩
    unfold Yo
    dsimp only
    rw [if_pos rfl]
    refine⟨_,rfl,z.1,_,rfl,.inr (SqT.of (m7 _ _ (zq hp _ _ (hz z hzm)))),fun q hq=>⟨m7.trans (zq hq),ws++[(q,z.2)],by simp,?_,fun y hy=>?_⟩⟩
    ·rw [List.map_append,hw2,List.take_succ,hzj];simp
    ·rcases List.mem_append.mp hy with hy | hy
     ·exact⟨(hws y hy).1,(hws y hy).2.1,zq hq _ _ (hws y hy).2.2⟩
     ·have e:y=(q,z.2):=by simpa using hy
      subst e
      exact⟨S6.free (m7.free hq),(S6.same m7).st.nes hq,zj⟩
   ·rintro ys H7 ⟨m7,ws,rfl,hw2,hws⟩ bl hbl
    rw [List.length_map,List.take_length] at hw2
    have hwl:ws.length=zs.length:=by have:=congrArg List.length hw2;rwa [List.length_map,List.length_map] at this
    have m8:=zq hbl (o:=.lst (ws.map fun z=>V.ref z.1))
    have S7:=S6.same m7
    have S8:=S6.same (m7.trans m8)
    refine⟨(by show 2<=sizeLine;decide),fun r hr=>?_⟩
    have m9:=zq hr (o:=.tup [.int b,.ref bl])
    have nb:=S7.st.nes hbl
    have nr:=S8.st.nes hr
    refine kk r b bl ws _ (S8.same m9) ⟨?_,?_,fun z hz'=>?_⟩ ⟨hb2,hb16,by rw [List.length_map];omega,fun l hl=>?_,?_⟩
    ·rw [yJ (by simpa using nr)];exact zj
    ·rw [yJ (by simpa using nb)];exact m9 _ _ zj
    ·rw [yJ (by simpa using (hws z hz').2.1)];exact m9 _ _ (m8 _ _ (hws z hz').2.2)
    ·rw [hw2] at hl
     exact hgd _ (pm.mem_iff.mp hl)
    ·rw [hw2,List.pairwise_map];exact pw
end
section
variable {P:Program} {w:World} {K:W.Frag} {mg:Str->Option Value} {base:Heap}
theorem zde {b:Nat} {ns:List Int} (h:∀ f∈ns,0<=f/\f<(b:Int)):(ns.all fun i=>decide (0<=i/\i<(b:Int)))=true:=by
 rw [List.all_eq_true];intro x hx;exact decide_eq_true (h x hx)
theorem zdO {α:Type} (x:α) (xs:List α):atI (x :: xs) 0=some x:=vG (xs:=x :: xs) (j:=0) rfl
def tL:Sp:=fun vs H Q _=>∃ (b:Nat) (a:Addr) (ns:List Int),vs=[.int b,.ref a]/\H a=some (.lst (ns.map V.int))/\za5 b ns/\∀ H',Same H H'->Q (.bl true) H'
theorem WN:zE ["base","thing"] ["base","thing"] (zu uf):=⟨rfl,rfl,rfl,by decide +kernel,rfl,by decide +kernel,by decide +kernel⟩
theorem Wz {f f1:Addr} {fd fd1:FuncData} (D:Df K mg "writes_number" uf ["base","thing"] f fd) (wN:Df K mg "are_figures" wV ["base","thing"] f1 fd1) (vI:FnOk P w K mg base CX0 3 f1 fd1 ["base","thing"] uY) (T:Blt mg) :
  FnOk P w K mg base CX0 4 f fd ["base","thing"] tL:=by
 refine D.fn.ok WN (fun vs H Q E h=>?_) (fun cdv A outer s H vs Q E hr h=>?_)
 ·obtain⟨b,a,ns,rfl,_⟩:=h;rfl
 ·obtain⟨b,a,ns,rfl,ha,g,kk⟩:=h
  refine⟨_,(zm (yH (PW.pt (Ut (uX (wY (zJ wN vI (hr.mono (by decide)) (zf (pv 0) (zf (pv 1) zg))))) (Xg (zN Ze (zz (w6 K) (by rfl) T.n_len PySem.boot_len (zf (pv 1) zg)) zp (zL _)))))
    (zr (zH W2))
    zO)
   (zr (zH (zgS (xx zdG (zP (yC K) (pv 1) zp (fun _ _=>rfl)) zp (zL _)) (qR (xx Ze (zz (w6 K) (by rfl) T.n_len PySem.boot_len (zf (pv 1) zg)) zp (zL _))))))),?_⟩
  refine⟨_,rfl,_,rfl,b,a,ns,rfl,ha,Nat.le_trans g.len (by decide),fun H1 s1=>?_⟩
  rw [zde g.fig]
  refine⟨_,rfl,yZ ?_⟩
  have ha1:=s1 _ _ ha
  have hl:(ns.map V.int).length≠0:=by rw [List.length_map];exact fun z=>g.ne (List.eq_nil_of_length_eq_zero z)
  refine⟨_,rfl,a,_,rfl,.inl (SqL.of ha1),rfl,_,rfl,?_⟩
  rw [decide_eq_false (by intro z;injection z with z;omega)]
  refine yZ ?_
  obtain⟨f0,nr,rfl⟩:∃ f0 nr,ns=f0 :: nr:=by
   cases ns with
   | nil=>exact absurd rfl g.ne
   | cons x y=>exact⟨x,y,rfl⟩
  refine⟨_,rfl,a,_,_,V.int f0,rfl,rfl,SqL.of ha1,zdO _ _,rfl,_,rfl,?_⟩
  refine UW (fun _=>kk H1 s1) (fun hz=>?_)
  refine⟨_,rfl,a,_,rfl,.inl (SqL.of ha1),rfl,?_⟩
  have h1:nr=[]:=by
   have hz':f0=0:=by
    by_cases z:f0=0
    ·exact z
    ·exact absurd (by simp [z]) hz
   rcases g.first with q | q
   ·exact absurd (by rw [hz'];rfl) q
   ·exact List.eq_nil_of_length_eq_zero (by simpa using q)
  subst h1
  exact kk H1 s1
def ZQ:Sp:=fun vs H Q _=>∃ (b:Nat) (a:Addr) (ns:List Int),vs=[.int b,.ref a]/\2<=b/\b<=16/\H a=some (.lst (ns.map V.int))/\za5 b ns/\∀ H',Same H H'->Q (.int (Yx b ns)) H'
theorem jg:zE ["base","figures","n","figure"] ["base","figures"] (zu jP):=⟨rfl,rfl,rfl,by decide +kernel,rfl,by decide +kernel,by decide +kernel⟩
theorem Q0 {f f1 f2:Addr} {fd fd1 fd2:FuncData} (D:Df K mg "number_by" jP ["base","figures"] f fd) (vm:Df K mg "check_base" uN ["thing"] f1 fd1) (uD:FnOk P w K mg base CX0 3 f1 fd1 ["thing"] qg)
  (uK:Df K mg "writes_number" uf ["base","thing"] f2 fd2) (ju:FnOk P w K mg base CX0 4 f2 fd2 ["base","thing"] tL) (T:Blt mg):FnOk P w K mg base CX0 5 f fd ["base","figures"] ZQ:=by
 refine D.fn.ok jg (fun vs H Q E h=>?_) (fun cdv A outer s H vs Q E hr h=>?_)
 ·obtain⟨b,a,ns,rfl,_⟩:=h;rfl
 ·obtain⟨b,a,ns,rfl,h2,h16,ha,g,kk⟩:=h
  refine⟨_,(zm (xG (zJ vm uD (hr.mono (by decide)) (zf (pv 0) zg)))
   (zm (yH (uX (wY (zJ uK ju (hr.mono (by decide)) (zf (pv 0) (zf (pv 1) zg)))))
    (zr Yi)
    zO)
   (zm (zB (i:=2) jg.nd rfl (Or.inl rfl) zp)
   (zm (wG PassesOwn.never rfl (YX K (pv 1)) (yh (i:=3) jg.nd rfl (Or.inl rfl))
    (zr (zB (i:=2) jg.nd rfl (Or.inl rfl) (zy yF (zy uZ (pv 2) (pv 0)) (pv 3)))))
   (zr (zH (pv 2))))))),?_⟩
  refine⟨_,rfl,(b:Int),rfl,by omega,by omega,?_⟩
  refine⟨_,rfl,_,rfl,b,a,ns,rfl,ha,g,fun H1 s1=>⟨_,rfl,yZ ?_⟩⟩
  have ha1:=s1 _ _ ha
  refine⟨_,rfl,a,rfl,⟨_,SqL.of ha1⟩,Vv (K:=K) (a:=a) (xs:=ns.map V.int) (fun i Z H2=>H2=H1/\∃ v:Option V,Z=[some (.int b),some (.ref a),some (.int (Yx b (ns.take i))),v]) ⟨rfl,none,rfl⟩ (fun i Z H2 _ ⟨e,_⟩=>by rw [e];exact SqL.of ha1) ?_ ?_⟩
  ·rintro i x Z H2 hx ⟨rfl,v,rfl⟩
   obtain⟨z,hz,rfl⟩:∃ z,ns[i]?=some z/\x=V.int z:=by
    rw [List.getElem?_map] at hx
    obtain⟨z,h,e⟩:=Option.map_eq_some_iff.mp hx
    exact⟨z,h,e.symm⟩
   refine⟨_,rfl,_,rfl,_,_,rfl,rfl,.inr ⟨by omega,by omega⟩,_,rfl,_,_,rfl,rfl,rfl,some (.int z),?_⟩
   rw [List.take_succ,hz]
   show _=[some (V.int b),some (V.ref a),some (V.int (Yx b (ns.take i++[z]))),_]
   rw [QJ]
   rfl
  ·rintro Z H2 ⟨rfl,v,rfl⟩
   refine⟨_,rfl,?_⟩
   rw [List.length_map,List.take_length]
   exact kk _ s1
end
theorem za2 {ls:ZA} {x:List Int} (h:Wr ls x):lacks ls x=true/\zG ls x=x:=by
 rcases h with rfl | ⟨st,hst,k,h1,h2,rfl,h3⟩
 ·refine⟨?_,rfl⟩
  unfold lacks
  rw [Bool.not_eq_true',List.any_eq_false]
  intro st _ h
  simp [Y0] at h
 ·refine⟨h3,VL ?_⟩
  unfold uv
  rw [List.any_eq_true]
  refine⟨st,hst,decide_eq_true ?_⟩
  rw [List.length_take,Nat.min_eq_left (by omega)]
theorem zct (x:List Int) (i:Nat):uR (x.map V.int) (some (i:Int)) none=(x.drop i).map V.int:=by rw [Zj,<- List.map_drop]
theorem zch (x:List Int) (i:Nat):uR (x.map V.int) none (some (i:Int))=(x.take i).map V.int:=by rw [Zo,<- List.map_take]
section
variable {P:Program} {w:World} {K:W.Frag} {mg:Str->Option Value} {base:Heap}
structure Rdr (P:Program) (w:World) (H:Hp) (rd tl dd:Addr) (b:Nat) (ts:ZB):Prop where
 s:RdS H rd tl dd b ts
 d:RdD P w H dd (ts.map (·.2)) b
 g:zX b (ts.map (·.2))
theorem Rdr.same {H H':Hp} {rd tl dd:Addr} {b:Nat} {ts:ZB} (R:Rdr P w H rd tl dd b ts) (s:Same H H'):Rdr P w H' rd tl dd b ts:=⟨R.s.same s,R.d.same s,R.g⟩
theorem Rdr.sameD {H H':Hp} {rd tl dd:Addr} {b:Nat} {ts:ZB} (R:Rdr P w H rd tl dd b ts) (s:SameD dd H H') (d:RdD P w H' dd (ts.map (·.2)) b):Rdr P w H' rd tl dd b ts:=⟨R.s.sameD R.d s,d,R.g⟩
theorem Rdr.tup {H:Hp} {rd tl dd:Addr} {b:Nat} {ts:ZB} (R:Rdr P w H rd tl dd b ts) {c:Addr} {xs:List V} (h:H c=some (.tup xs)):c≠dd:=R.d.ne h fun _ z=>nomatch z
def jk (P:Program) (w:World):Sp:=fun vs H Q _=>∃ (r:Addr) (b:Nat) (bl:Addr) (zs:ZB),vs=[.ref r]/\RuleAt H r b bl zs/\zX b (zs.map (·.2)) /\
 ∀ (rd tl dd:Addr) (ts:ZB) (H':Hp),H rd=none->H tl=none->H dd=none->(∀ t∈ts,H t.1=none)->Rdr P w H' rd tl dd b ts->ts.map (·.2)=zs.map (·.2)->Same H H'->Q (.ref rd) H'
theorem Vx:zE ["rule"] ["rule"] (zu vX):=⟨rfl,rfl,rfl,by decide +kernel,rfl,by decide +kernel,by decide +kernel⟩
theorem Yr {f:Addr} {fd:FuncData} (D:Df K mg "_law_reader" vX ["rule"] f fd) (T:Blt mg):FnOk P w K mg base CX0 1 f fd ["rule"] (jk P w):=by
 refine D.fn.ok Vx (fun vs H Q E h=>?_) (fun cdv A outer s H vs Q E hr h=>?_)
 ·obtain⟨r,b,bl,zs,rfl,_⟩:=h;rfl
 ·obtain⟨r,b,bl,zs,rfl,R,g,kk⟩:=h
  have h4:zs.length<=4:=by have:=g.len;rwa [List.length_map] at this
  refine⟨_,(zr (zH (zU (zf (zP (uH K) (pv 0) zp (fun _ _=>rfl)) (zf (wj (show CScope (zu vX) _ "stretch" ["rule"] [] [] from ⟨rfl,by decide +kernel,by decide +kernel,rfl,by decide +kernel,rfl,by decide +kernel,by decide +kernel⟩) rfl (YX K (zP (uH K) (pv 0) zp (fun _ _=>rfl))) (fun _ _ _ _=>wg) (fun _ _ _ _=>(tM (zeH K) (by rfl) T.n_tuple boot_tuple (zf (pv 0) zg)))) (zf ze5 zg)))))),?_⟩
  refine⟨_,rfl,r,_,_,V.int b,rfl,rfl,SqT.of R.tu,rfl,?_⟩
  refine⟨_,rfl,r,_,_,V.ref bl,rfl,rfl,SqT.of R.tu,rfl,bl,rfl,⟨_,SqL.of R.li⟩,xJ (K:=K) (a:=bl) (xs:=zs.map fun z=>V.ref z.1) (fun i ys Hc=>∃ ts:ZB,ys=ts.map (fun t=>V.ref t.1)/\ts.map (·.2)=(zs.take i).map (·.2)/\(∀ t∈ts,H t.1=none/\Hc t.1=some (.tup (t.2.map V.int)))/\Same H Hc) ⟨[],rfl,by simp,by simp,Same.refl _⟩ (fun i ys Hc _ ⟨_,_,_,_,e⟩=>SqL.of (e _ _ R.li)) ?_ ?_⟩
  ·rintro i x ys Hc hx ⟨ts,rfl,e2,ht,sc⟩
   rw [List.getElem?_map] at hx
   obtain⟨z,hzj,e⟩:=Option.map_eq_some_iff.mp hx
   subst e
   have hzm:=List.mem_of_getElem? hzj
   have hi:=(List.getElem?_eq_some_iff.mp hzj).1
   refine⟨by have:=congrArg List.length e2;rw [List.length_map,List.length_map,List.length_take] at this;rw [List.length_map];exact Nat.lt_of_le_of_lt (show ts.length<=4 by omega) (by decide),?_⟩
   unfold Yo
   dsimp only
   rw [if_pos rfl]
   refine⟨_,rfl,z.1,_,rfl,.inl ⟨SqL.of (sc _ _ (R.st z hzm)),fun p hp=>?_⟩⟩
   have m:=zq hp (o:=.tup (z.2.map V.int))
   refine⟨ts++[(p,z.2)],by simp,by rw [List.map_append,e2,List.take_succ,hzj,List.map_append];rfl,fun t ht'=>?_,sc.trans m⟩
   rcases List.mem_append.mp ht' with h | h
   ·exact⟨(ht t h).1,m _ _ (ht t h).2⟩
   ·rw [List.mem_singleton.mp h];exact⟨sc.free hp,zj⟩
  ·rintro ys Hc ⟨ts,rfl,e2,ht,sc⟩ tl htl
   have m:=zq htl (o:=.lst (ts.map fun t=>V.ref t.1))
   rw [List.length_map,List.take_length] at e2
   intro dd H2 hdd d2 c2
   have ned:∀ {c u},(upd Hc tl (.lst (ts.map fun t=>V.ref t.1))) c=some u->c≠dd:=fun e z=>by rw [z,hdd] at e;cases e
   have s2:Same (upd Hc tl (.lst (ts.map fun t=>V.ref t.1))) H2:=fun c u e=>by rw [c2 c (ned e)];exact e
   refine⟨(by show 3<=sizeLine;decide),fun rd hrd=>?_⟩
   have m3:=zq hrd (o:=.lst [.int b,.ref tl,.ref dd])
   have s03:=(sc.trans m).trans (s2.trans m3)
   exact kk rd tl dd ts _ ((sc.trans (m.trans s2)).free hrd) (sc.free htl) ((sc.trans m).free hdd) (fun t h=>(ht t h).1) ⟨⟨zj,m3 _ _ (s2 _ _ zj),fun t h=>m3 _ _ (s2 _ _ (m _ _ (ht t h).2))⟩,⟨[],d2.same m3,Tab.nil⟩,by rw [e2];exact g⟩ e2 s03
def wR (P:Program) (w:World):Sp:=fun vs H Q _=>∃ (rd tl dd:Addr) (b:Nat) (ts:ZB) (sa:Addr) (x:List Int) (f:Nat),vs=[.ref rd,.ref sa,.int f]/\Rdr P w H rd tl dd b ts/\H sa=some (.tup (x.map V.int))/\Wr (ts.map (·.2)) x/\f<b /\
 ∀ v H',SameD dd H H'->RdD P w H' dd (ts.map (·.2)) b->AftV H' (aft (ts.map (·.2)) x f) v->Q v H'
theorem j5:zE ["reader","stand","figure","ends","good"] ["reader","stand","figure"] (zu yg):=⟨rfl,rfl,rfl,by decide +kernel,rfl,by decide +kernel,by decide +kernel⟩
set_option maxHeartbeats 0 in
theorem vV {f:Addr} {fd:FuncData} (D:Df K mg "_law_after" yg ["reader","stand","figure"] f fd) (T:Blt mg):FnOk P w K mg base CX0 1 f fd ["reader","stand","figure"] (wR P w):=by
 refine D.fn.ok j5 (fun vs H Q E h=>?_) (fun cdv A outer s H vs Q E hr h=>?_)
 ·obtain⟨rd,tl,dd,b,ts,sa,x,f,rfl,_⟩:=h;rfl
 ·obtain⟨rd,tl,dd,b,ts,sa,x,f,rfl,R,hsa,hx,hf,kk⟩:=h
  have HU:=zaE hr
  have h4:ts.length<=4:=by have:=R.g.len;rwa [List.length_map] at this
  have hst4:∀ st∈ts.map (·.2),st.length<=4:=fun st h=>(R.g.st st h).len
  have ne:∀ st∈ts.map (·.2),st≠[]:=fun st h=>(R.g.st st h).ne
  have hx3:=zav hst4 hx
  have hLx:lacks (ts.map (·.2)) x=true:=(za2 hx).1
  have tupK:∀ {H1:Hp} {q:Addr},H1 sa=some (.tup (x.map V.int))->H1 q=none->NTup (upd H1 q (.tup [.ref sa,.int f,.int 0])) (kA x f) q:=fun {H1 q} h hq=>⟨sa,zj,by rw [show (kA x f).1.map kV=x.map V.int from zec x];exact zq hq _ _ h⟩
  refine⟨_,(zm (yH (zc8 (Ql (Xx hr) (wz (zf (pv 1) (zf (pv 2) (zf zp zg)))) (zP (yC K) (pv 0) zp (fun _ _=>rfl))) (by with_unfolding_all rfl))
    (zm (V5 (i:=3) (show CScope (zu yg) _ "at" ["reader","stand","figure","ends","good"] ["stand","figure"] [1,2] from ⟨rfl,by decide +kernel,by decide +kernel,rfl,by decide +kernel,rfl,by decide +kernel,by decide +kernel⟩) rfl j5.nd rfl (Or.inl rfl) (yl rfl T.n_range (zf (zy yF (zz (w6 K) (by rfl) T.n_len PySem.boot_len (zf (pv 1) zg)) zp) zg)) (fun _ _ _ _=>wg) (fun _ _ _ _=>(vU zbY (zy zeU (pv 1) (wz (zf (pv 2) zg))) (tE (pv 0)) jc)))
    (zm (zaa (i:=4) (show Vk (zu yg) _ "end" ["reader","stand","figure","ends","good"] ["reader"] [0] from ⟨rfl,by decide +kernel,by decide +kernel,rfl,by decide +kernel,rfl,by decide +kernel,by decide +kernel,fun _ _=>rfl,fun _=>rfl⟩) rfl j5.nd rfl (Or.inl rfl) (YX K (pv 3)) (fun _ _ _ _=>(Vl (zN (zda K HU) (wj (CScope.re (show CScope _ _ "one" ["end","reader"] ["end"] [0] from ⟨rfl,by decide +kernel,by decide +kernel,rfl,by decide +kernel,rfl,by decide +kernel,by decide +kernel⟩)) rfl (YX K (zP (yC K) (pv 1) zp (fun _ _=>rfl))) (fun _ _ _ _=>(Vl (zN (zbV K HU) (vU zbY (pv 0) jc (tE (zz (w6 K) (by rfl) T.n_len PySem.boot_len (zf (pv 1) zg)))) (pv 1) (zL _)))) (fun _ _ _ _=>(pv 0))) (zU zg) (zL _)))) (fun _ _ _ _=>(pv 0)))
    (zm (Jw (Xx hr) (zP (yC K) (pv 0) zp (fun _ _=>rfl)) (wz (zf (pv 1) (zf (pv 2) (zf zp zg)))) (zP (yC K) (zy jn (pv 4) (zU (zf (wz zg) zg))) zp (fun _ _=>rfl)) rfl)
    (zr (yH (zN (zda K HU) (wj (show CScope (zu yg) _ "end" ["reader","stand","figure","ends","good"] ["reader"] [0] from ⟨rfl,by decide +kernel,by decide +kernel,rfl,by decide +kernel,rfl,by decide +kernel,by decide +kernel⟩) rfl (YX K (pv 3)) (fun _ _ _ _=>(Vl (zN (zgk K HU) (pv 0) (zP (yC K) (pv 1) zp (fun _ _=>rfl)) (by with_unfolding_all rfl)))) (fun _ _ _ _=>(pv 0))) (zU zg) (zL _))
     (zr (Jw (Xx hr) (zP (yC K) (pv 0) zp (fun _ _=>rfl)) (wz (zf (pv 1) (zf (pv 2) (zf zp zg)))) xq rfl))
     zO)))))
    zO)
   (zr (zH (zbI (Xx hr) (zP (yC K) (pv 0) zp (fun _ _=>rfl)) (wz (zf (pv 1) (zf (pv 2) (zf zp zg)))) (fun _ _=>rfl))))),?_⟩
  refine⟨_,rfl,_,rfl,(by show 3<=sizeLine;decide),fun q1 hq1=>?_⟩
  have m1:=zq hq1 (o:=.tup [.ref sa,.int f,.int 0])
  have R1:=R.same m1
  obtain⟨kvs,d1,t1⟩:=R1.d
  have nt1:=tupK hsa hq1
  generalize upd H q1 (.tup [.ref sa,.int f,.int 0])=H1 at m1 R1 d1 t1 nt1
  refine⟨_,rfl,rd,_,_,.ref dd,rfl,rfl,SqL.of R1.s.hd,rfl,dd,kvs,kA x f,q1,rfl,d1,rfl,nt1,_,rfl,?_⟩
  have m0:SameD dd H H1:=SameD.of m1
  cases hv:wX kvs (kA x f) with
  | some v =>
   refine yZ ?_
   refine⟨_,rfl,rd,_,_,.ref dd,rfl,rfl,SqL.of R1.s.hd,rfl,_,rfl,_,rfl,(by show 3<=sizeLine;decide),fun q2 hq2=>?_⟩
   have m2:=zq hq2 (o:=.tup [.ref sa,.int f,.int 0])
   refine⟨dd,kvs,kA x f,q2,v,rfl,d1.same m2,rfl,tupK (m1 _ _ hsa) hq2,hv,?_⟩
   exact kk v _ (m0.trans (SameD.of m2)) ⟨kvs,d1.same m2,t1.same fun b xs e=>m2 _ _ e⟩ ((t1.aft hv).same fun b xs e=>m2 _ _ e)
  | none =>
  refine ww ?_
  have hsa1:=m1 _ _ hsa
  have hlen:(x.map V.int).length=x.length:=List.length_map ..
  refine⟨_,rfl,sa,_,rfl,.inr (SqT.of hsa1),_,_,rfl,rfl,_,rfl,by rw [hlen];omega,by rw [hlen];omega,ul (lo:=0) (n:=(((x.map V.int).length:Nat)+(2:Int)).toNat) (fun i ys Hc=>∃ es:ZB,ys=es.map (fun t=>V.ref t.1)/\es.map (·.2)=(List.range i).map (x++[(f:Int)]).drop/\(∀ t∈es,Hc t.1=some (.tup (t.2.map V.int)))/\Same H1 Hc) ⟨[],rfl,rfl,by simp,Same.refl _⟩ ?_ ?_⟩
  ·rintro i ys Hc hi ⟨es,rfl,e2,he,sc⟩
   refine⟨by have:=congrArg List.length e2;rw [List.length_map,List.length_map,List.length_range] at this;rw [List.length_map,this];exact Nat.lt_of_le_of_lt (show i<=10 by rw [hlen] at hi;omega) (by decide),?_⟩
   unfold Yo
   dsimp only
   rw [if_pos rfl]
   refine⟨_,rfl,_,rfl,(by show 1<=sizeLine;decide),fun p1 hp1=>?_⟩
   have mp:=zq hp1 (o:=.tup [.int f])
   refine⟨sa,p1,_,_,rfl,rfl,mp _ _ (sc _ _ hsa1),zj,by rw [hlen];exact Nat.le_trans (show x.length+1<=100 by omega) (by decide),fun p2 H2 s2 h2=>?_⟩
   refine⟨_,rfl,_,rfl,p2,_,rfl,h2,fun p3 H3 s3 h3=>?_⟩
   have e3:uR (x.map V.int++[.int f]) (some (0+(i:Int))) none=((x++[(f:Int)]).drop i).map V.int:=by
    rw [Int.zero_add,show x.map V.int++[V.int f]=(x++[(f:Int)]).map V.int by rw [List.map_append];rfl,zct]
   rw [e3] at h3
   have s13:=(mp.trans s2).trans s3
   refine⟨es++[(p3,(x++[(f:Int)]).drop i)],by simp,by rw [List.map_append,e2,List.range_succ,List.map_append];rfl,fun t ht=>?_,sc.trans s13⟩
   rcases List.mem_append.mp ht with h | h
   ·exact s13 _ _ (he t h)
   ·rw [List.mem_singleton.mp h];exact h3
  rintro ys H2 ⟨es,rfl,e2,he,s2⟩ el hel
  rw [show (((x.map V.int).length:Nat)+(2:Int)).toNat=(x++[(f:Int)]).length+1 by rw [hlen,List.length_append,List.length_singleton];omega] at e2
  have e2:es.map (·.2)=ends (x++[(f:Int)]):=e2
  have hel10:es.length<=10:=by
   have:=congrArg List.length e2
   unfold ends at this
   rw [List.length_map,List.length_map,List.length_range,List.length_append,List.length_singleton] at this
   omega
  have m3:=zq hel (o:=.lst (es.map fun t=>V.ref t.1))
  have s13:=s2.trans m3
  have hE3:(upd H2 el (.lst (es.map fun t=>V.ref t.1))) el=some (.lst (es.map fun t=>V.ref t.1)):=zj
  have he3:∀ t∈es,(upd H2 el (.lst (es.map fun t=>V.ref t.1))) t.1=some (.tup (t.2.map V.int)):=fun t h=>m3 _ _ (he t h)
  generalize upd H2 el (.lst (es.map fun t=>V.ref t.1))=H3 at s13 hE3 he3
  have R3:=R1.same s13
  refine⟨_,rfl,el,rfl,⟨_,SqL.of hE3⟩,xJ (K:=K) (a:=el) (xs:=es.map fun t=>V.ref t.1) (fun i ys Hc=>ys=((es.take i).filter fun t=>uv (ts.map (·.2)) t.2).map (fun t=>V.ref t.1)/\Same H3 Hc) ⟨by simp,Same.refl _⟩ (fun i ys Hc _ ⟨_,e⟩=>SqL.of (e _ _ hE3)) ?_ ?_⟩
  ·rintro i v ys Hc hi ⟨rfl,sc⟩
   rw [List.getElem?_map] at hi
   obtain⟨t,htj,e⟩:=Option.map_eq_some_iff.mp hi
   subst e
   have htm:=List.mem_of_getElem? htj
   have Rc:=R3.same sc
   have hil:=(List.getElem?_eq_some_iff.mp htj).1
   refine⟨by rw [List.length_map];exact Nat.lt_of_le_of_lt (Nat.le_trans (List.length_filter_le _ _) (by rw [List.length_take];exact show min i es.length<=10 by omega)) (by decide),?_⟩
   refine⟨_,rfl,rd,_,_,.ref tl,rfl,rfl,SqL.of Rc.s.hd,rfl,tl,rfl,⟨_,SqL.of Rc.s.li⟩,xJ (K:=K) (a:=tl) (xs:=ts.map fun t=>V.ref t.1) (fun j us Hd=>us=((ts.take j).filter fun z=>decide (z.2.take t.2.length=t.2)).map (fun z=>V.ref z.1)/\Same Hc Hd) ⟨by simp,Same.refl _⟩ (fun j us Hd _ ⟨_,e⟩=>SqL.of (e _ _ Rc.s.li)) ?_ ?_⟩
   ·rintro j u us Hd hj ⟨rfl,sd⟩
    rw [List.getElem?_map] at hj
    obtain⟨z,hzj,e⟩:=Option.map_eq_some_iff.mp hj
    subst e
    have hzm:=List.mem_of_getElem? hzj
    have hjl:=(List.getElem?_eq_some_iff.mp hzj).1
    refine⟨by rw [List.length_map];exact Nat.lt_of_le_of_lt (Nat.le_trans (List.length_filter_le _ _) (by rw [List.length_take];exact show min j ts.length<=10 by omega)) (by decide),?_⟩
    have htd:=sd _ _ (sc _ _ (he3 t htm))
    refine⟨_,rfl,_,rfl,t.1,_,rfl,.inr (SqT.of htd),_,rfl,z.1,_,rfl,sd _ _ (Rc.s.st z hzm),fun p4 H4 s4 h4'=>?_⟩
    rw [List.length_map,zch] at h4'
    refine⟨_,rfl,vA (z.2.take t.2.length),vA t.2,TrAt.tupI h4',TrAt.tupI (s4 _ _ htd),(by rw [QH];decide),_,rfl,?_⟩
    show if teq (vA (z.2.take t.2.length)) (vA t.2)=true then _ else _
    rw [zaD]
    by_cases hq:z.2.take t.2.length=t.2
    ·rw [decide_eq_true hq]
     refine ww ⟨_,rfl,?_,sd.trans s4⟩
     rw [List.take_succ,hzj,Option.toList_some,List.filter_append,List.filter_cons,if_pos (decide_eq_true hq),List.map_append];rfl
    ·rw [decide_eq_false hq]
     refine yZ ⟨?_,sd.trans s4⟩
     rw [List.take_succ,hzj,Option.toList_some,List.filter_append,List.filter_cons,if_neg (by rw [decide_eq_false hq];exact Bool.false_ne_true),List.filter_nil,List.append_nil]
   ·rintro us Hd ⟨rfl,sd⟩ D4 hD4
    rw [List.length_map,List.take_length]
    refine⟨(by decide:0<=sizeLine),fun p0 hp0=>?_⟩
    generalize hks:(ts.filter fun z=>decide (z.2.take t.2.length=t.2))=ks at hD4 hp0
    have m4:=zq hD4 (o:=.lst (ks.map fun z=>V.ref z.1))
    have m5:=zq hp0 (o:=.lst [])
    have hkt:∀ z∈ks,(upd (upd Hd D4 (.lst (ks.map fun z=>V.ref z.1))) p0 (.lst [])) z.1=some (.tup (z.2.map V.int)):=fun z hz=>m5 _ _ (m4 _ _ (sd _ _ (Rc.s.st z (by rw [<- hks] at hz;exact (List.mem_filter.mp hz).1))))
    refine⟨.lst ((ks.map (·.2)).map vA),.lst [],?_,?_,(by rw [tQ];have:=ZD (ks.map (·.2));omega),_,rfl,?_⟩
    ·rw [TrAt];exact⟨D4,_,rfl,SqL.of (m5 _ _ zj),TrsAt.tups hkt⟩
    ·rw [TrAt];exact⟨p0,_,rfl,SqL.of zj,by rw [TrsAt]⟩
    have sE:=sc.trans (sd.trans (m4.trans m5))
    show if (!teq (.lst ((ks.map (·.2)).map vA)) (.lst []))=true then _ else _
    rw [QM]
    have hb:uv (ts.map (·.2)) t.2=!((ks.map (·.2)).map vA).isEmpty:=by
     unfold uv
     rw [List.any_map,<- hks,Bool.eq_iff_iff]
     simp [List.any_eq_true,List.isEmpty_iff]
    rw [<- hb]
    cases hbb:uv (ts.map (·.2)) t.2 with
    | true =>
     refine ww ⟨_,rfl,?_,sE⟩
     rw [List.take_succ,htj,Option.toList_some,List.filter_append,List.filter_cons,if_pos hbb,List.map_append];rfl
    | false =>
     refine yZ ⟨?_,sE⟩
     rw [List.take_succ,htj,Option.toList_some,List.filter_append,List.filter_cons,if_neg (by rw [hbb];exact Bool.false_ne_true),List.filter_nil,List.append_nil]
  rintro ys H4 ⟨rfl,s4⟩ gl hgl
  rw [List.length_map,List.take_length]
  generalize hgsd:(es.filter fun t=>uv (ts.map (·.2)) t.2)=gs at hgl
  have hgl10:gs.length<=10:=by rw [<- hgsd];exact Nat.le_trans (List.length_filter_le _ _) hel10
  have m5:=zq hgl (o:=.lst (gs.map fun t=>V.ref t.1))
  have hG5:(upd H4 gl (.lst (gs.map fun t=>V.ref t.1))) gl=some (.lst (gs.map fun t=>V.ref t.1)):=zj
  have s35:=s4.trans m5
  generalize upd H4 gl (.lst (gs.map fun t=>V.ref t.1))=H5 at s35 hG5
  have s15:=s13.trans s35
  have R5:=R3.same s35
  have he5:∀ t∈es,H5 t.1=some (.tup (t.2.map V.int)):=fun t h=>s35 _ _ (he3 t h)
  have hls:∃ ls,ls=ts.map (·.2):=⟨_,rfl⟩
  refine⟨_,rfl,(by decide:0<=sizeLine),fun e0 he0=>?_⟩
  have m6:=zq he0 (o:=.tup [])
  refine⟨(by show 1<=sizeLine;decide),fun p5 hp5=>?_⟩
  have m7:=zq hp5 (o:=.lst [.ref e0])
  refine⟨gl,p5,_,_,rfl,rfl,m7 _ _ (m6 _ _ hG5),zj,by rw [List.length_map];exact Nat.le_trans (show gs.length+1<=100 by omega) (by decide),fun p6 hp6=>?_⟩
  have m8:=zq hp6 (o:=.lst (gs.map (fun t=>V.ref t.1)++[.ref e0]))
  have m58:=m6.trans (m7.trans m8)
  have he00:(upd (upd (upd H5 e0 (.tup [])) p5 (.lst [.ref e0])) p6 (.lst (gs.map (fun t=>V.ref t.1)++[.ref e0]))) e0=some (.tup (([]:List Int).map V.int)):=m8 _ _ (m7 _ _ zj)
  have hp66:(upd (upd (upd H5 e0 (.tup [])) p5 (.lst [.ref e0])) p6 (.lst (gs.map (fun t=>V.ref t.1)++[.ref e0]))) p6=some (.lst ((gs++[((e0,[]):Addr×List Int)]).map fun t=>V.ref t.1)):=by rw [zj,List.map_append];rfl
  generalize upd (upd (upd H5 e0 (.tup [])) p5 (.lst [.ref e0])) p6 (.lst (gs.map (fun t=>V.ref t.1)++[.ref e0]))=H6 at m58 he00 hp66
  obtain⟨c,hc0,hc2,hct⟩:∃ c:Addr×List Int,(gs++[((e0,[]):Addr×List Int)])[0]?=some c/\c.2=zG (ts.map (·.2)) (x++[(f:Int)])/\H6 c.1=some (.tup (c.2.map V.int)):=by
   have hh:=zck (ls:=ts.map (·.2)) (x++[(f:Int)])
   have em:(gs++[((e0,[]):Addr×List Int)]).map (·.2)=(ends (x++[(f:Int)])).filter (uv (ts.map (·.2)))++[[]]:=by
    rw [List.map_append,<- e2,List.filter_map,<- hgsd];rfl
   rw [<- em,List.head?_map,List.head?_eq_getElem?] at hh
   obtain⟨c,h1,h2⟩:=Option.map_eq_some_iff.mp hh
   refine⟨c,h1,h2,?_⟩
   rcases List.mem_append.mp (List.mem_of_getElem? h1) with h | h
   ·exact m58 _ _ (he5 c (by rw [<- hgsd] at h;exact (List.mem_filter.mp h).1))
   ·rw [List.mem_singleton.mp h];exact he00
  refine⟨p6,_,_,.ref c.1,rfl,rfl,SqL.of hp66,vG (j:=0) (by rw [List.getElem?_map,hc0];rfl),?_⟩
  have s16:=s15.trans m58
  have R6:=R5.same m58
  refine⟨_,rfl,rd,_,_,.ref dd,rfl,rfl,SqL.of R6.s.hd,rfl,_,rfl,_,rfl,(by show 3<=sizeLine;decide),fun q7 hq7=>?_⟩
  have m9:=zq hq7 (o:=.tup [.ref sa,.int f,.int 0])
  have s17:=s16.trans m9
  have kl:kvs.length<sizeLine:=Nat.lt_of_le_of_lt (t1.len R.g.len hst4 R.g.b16) (by decide)
  refine⟨dd,kvs,kA x f,q7,rfl,d1.same s17,rfl,tupK (s16 _ _ hsa1) hq7,kl,fun H8 d8 c8=>?_⟩
  have R7:=R6.same m9
  have hct7:=m9 _ _ hct
  have he7:∀ t∈es,(upd H6 q7 (.tup [.ref sa,.int f,.int 0])) t.1=some (.tup (t.2.map V.int)):=fun t h=>m9 _ _ (m58 _ _ (he5 t h))
  have hel7:(upd H6 q7 (.tup [.ref sa,.int f,.int 0])) el=some (.lst (es.map fun t=>V.ref t.1)):=m9 _ _ (m58 _ _ (s35 _ _ hE3))
  generalize upd H6 q7 (.tup [.ref sa,.int f,.int 0])=H7 at c8 s17 R7 hct7 he7 hel7
  have nd:∀ {a u},H7 a=some u->(∀ φ,u≠.ext φ)->H8 a=some u:=fun {a u} h hu=>by rw [c8 a (R7.d.ne h hu)];exact h
  have s78:SameD dd H7 H8:=fun a u ha h=>by rw [c8 a ha];exact h
  have tp78:∀ a xs,H7 a=some (.tup xs)->H8 a=some (.tup xs):=fun a xs h=>nd h (fun _ z=>nomatch z)
  have S8:RdS H8 rd tl dd b ts:=⟨nd R7.s.hd (fun _ z=>nomatch z),nd R7.s.li (fun _ z=>nomatch z),fun t h=>tp78 _ _ (R7.s.st t h)⟩
  have t8:Tab (ts.map (·.2)) b H8 kvs:=t1.same fun a xs h=>tp78 _ _ (s17 _ _ h)
  have hel8:H8 el=some (.lst (es.map fun t=>V.ref t.1)):=nd hel7 (fun _ z=>nomatch z)
  have he8:∀ t∈es,H8 t.1=some (.tup (t.2.map V.int)):=fun t h=>tp78 _ _ (he7 t h)
  have hc8:=tp78 _ _ hct7
  have hsa8:=tp78 _ _ (s17 _ _ hsa1)
  have s08:SameD dd H H8:=(m0.trans (SameD.of s17)).trans s78
  refine⟨_,rfl,el,rfl,⟨_,SqL.of hel8⟩,xJ (K:=K) (a:=el) (xs:=es.map fun t=>V.ref t.1) (fun i ys Hc=>ys=((es.take i).filter fun t=>decide (t.2∈ts.map (·.2))).map (fun t=>V.ref t.1)/\Same H8 Hc) ⟨by simp,Same.refl _⟩ (fun i ys Hc _ ⟨_,e⟩=>SqL.of (e _ _ hel8)) ?_ ?_⟩
  ·rintro i v ys Hc hi ⟨rfl,sc⟩
   rw [List.getElem?_map] at hi
   obtain⟨t,htj,e⟩:=Option.map_eq_some_iff.mp hi
   subst e
   have htm:=List.mem_of_getElem? htj
   have Sc:=S8.same sc
   refine⟨by rw [List.length_map];exact Nat.lt_of_le_of_lt (Nat.le_trans (List.length_filter_le _ _) (by rw [List.length_take];exact show min i es.length<=10 by omega)) (by decide),?_⟩
   refine⟨_,rfl,_,rfl,rd,_,_,.ref tl,rfl,rfl,SqL.of Sc.hd,rfl,tl,_,(ts.map (·.2)).map vA,vA t.2,rfl,SqL.of Sc.li,TrsAt.tups Sc.st,TrAt.tupI (sc _ _ (he8 t htm)),Nat.le_trans (ZD _) (by decide),_,rfl,?_⟩
   rw [if_neg (by decide),zeF]
   by_cases hq:t.2∈ts.map (·.2)
   ·rw [decide_eq_true hq]
    refine ww ⟨_,rfl,?_,sc⟩
    rw [List.take_succ,htj,Option.toList_some,List.filter_append,List.filter_cons,if_pos (decide_eq_true hq),List.map_append];rfl
   ·rw [decide_eq_false hq]
    refine yZ ⟨?_,sc⟩
    rw [List.take_succ,htj,Option.toList_some,List.filter_append,List.filter_cons,if_neg (by rw [decide_eq_false hq];exact Bool.false_ne_true),List.filter_nil,List.append_nil]
  rintro ys H9 ⟨rfl,s9⟩ D9 hD9
  rw [List.length_map,List.take_length]
  refine⟨(by decide:0<=sizeLine),fun p0 hp0=>?_⟩
  generalize hks:(es.filter fun t=>decide (t.2∈ts.map (·.2)))=ks at hD9 hp0
  have ma:=zq hD9 (o:=.lst (ks.map fun z=>V.ref z.1))
  have mb:=zq hp0 (o:=.lst [])
  have s8a:=s9.trans (ma.trans mb)
  have hkt:∀ z∈ks,(upd (upd H9 D9 (.lst (ks.map fun z=>V.ref z.1))) p0 (.lst [])) z.1=some (.tup (z.2.map V.int)):=fun z hz=>s8a _ _ (he8 z (by rw [<- hks] at hz;exact (List.mem_filter.mp hz).1))
  refine⟨.lst ((ks.map (·.2)).map vA),.lst [],?_,?_,(by rw [tQ];have:=ZD (ks.map (·.2));omega),_,rfl,?_⟩
  ·rw [TrAt];exact⟨D9,_,rfl,SqL.of (mb _ _ zj),TrsAt.tups hkt⟩
  ·rw [TrAt];exact⟨p0,_,rfl,SqL.of zj,by rw [TrsAt]⟩
  show if (!teq (.lst ((ks.map (·.2)).map vA)) (.lst []))=true then _ else _
  rw [QM]
  have hk:(!((ks.map (·.2)).map vA).isEmpty)=!lacks (ts.map (·.2)) (x++[(f:Int)]):=by
   have q:=zek ne (f:Int) hLx
   cases hL:lacks (ts.map (·.2)) (x++[(f:Int)]) with
   | false =>
    obtain⟨e,h1,h2⟩:=q.mpr hL
    rw [<- e2] at h1
    obtain⟨t,ht,rfl⟩:=List.mem_map.mp h1
    have:t∈ks:=by rw [<- hks];exact List.mem_filter.mpr ⟨ht,decide_eq_true h2⟩
    cases ks with
    | nil=>cases this
    | cons _ _=>rfl
   | true =>
    cases ks with
    | nil=>rfl
    | cons t ks' =>
     exfalso
     have ht:t∈es.filter fun t=>decide (t.2∈ts.map (·.2)):=by rw [hks];exact List.mem_cons_self
     have ht:=List.mem_filter.mp ht
     have:=q.mp ⟨t.2,by rw [<- e2];exact List.mem_map.mpr ⟨t,ht.1,rfl⟩,of_decide_eq_true ht.2⟩
     rw [hL] at this;cases this
  rw [hk]
  have Sa:=S8.same s8a
  have da:=d8.same s8a
  have hsaa:=s8a _ _ hsa8
  have hca:=s8a _ _ hc8
  have ta:Tab (ts.map (·.2)) b (upd (upd H9 D9 (.lst (ks.map fun z=>V.ref z.1))) p0 (.lst [])) kvs:=t8.same fun a xs h=>s8a _ _ h
  have s0a:SameD dd H (upd (upd H9 D9 (.lst (ks.map fun z=>V.ref z.1))) p0 (.lst [])):=s08.trans (SameD.of s8a)
  generalize upd (upd H9 D9 (.lst (ks.map fun z=>V.ref z.1))) p0 (.lst [])=Ha at Sa da hsaa hca ta s0a
  have kl2:(putK kvs (kA x f) (.ref c.1)).length<sizeLine:=by
   have h1:=jO kvs (kA x f) (.ref c.1)
   have h2:=t1.len R.g.len hst4 R.g.b16
   exact Nat.lt_of_le_of_lt (show _<=20001 by omega) (by decide)
  cases hL:lacks (ts.map (·.2)) (x++[(f:Int)])
  case' false =>
   refine ww ?_
   refine⟨_,rfl,rd,_,_,.ref dd,rfl,rfl,SqL.of Sa.hd,rfl,_,rfl,_,rfl,(by show 3<=sizeLine;decide),fun qb hqb=>?_⟩
   have mb2:=zq hqb (o:=.tup [.ref sa,.int f,.int 0])
   refine⟨dd,_,kA x f,qb,rfl,da.same mb2,rfl,tupK hsaa hqb,kl2,fun Hb db cb=>?_⟩
   rw [zbD hv] at db
   have nz:∀ {a u},(upd Ha qb (.tup [.ref sa,.int f,.int 0])) a=some u->(∀ φ,u≠.ext φ)->Hb a=some u:=fun {a u} h hu=>by
    rw [cb a (fun z=>by
     obtain⟨_,e,_⟩:=da.same mb2
     rw [z,e] at h;cases h;exact hu _ rfl)]
    exact h
   have tz0:∀ a xs,Ha a=some (.tup xs)->Hb a=some (.tup xs):=fun a xs h=>nz (mb2 _ _ h) (fun _ z=>nomatch z)
   have Sz:RdS Hb rd tl dd b ts:=⟨nz (mb2 _ _ Sa.hd) (fun _ z=>nomatch z),nz (mb2 _ _ Sa.li) (fun _ z=>nomatch z),fun t h=>tz0 _ _ (Sa.st t h)⟩
   have hsaz:=tz0 _ _ hsaa
   have av:AftV Hb (aft (ts.map (·.2)) x f) V.non:=by unfold aft;rw [if_neg (by rw [hL];exact Bool.false_ne_true)];rfl
   have dz:=db
   have tz:=(ta.same tz0).put hv (.inl ⟨x,f,hx,hf,rfl,av⟩)
   have sz:SameD dd H Hb:=(s0a.trans (SameD.of mb2)).trans fun a u ha h=>by rw [cb a ha];exact h
  case' true =>
   refine yZ ?_
   have Sz:=Sa
   have hsaz:=hsaa
   have av:AftV Ha (aft (ts.map (·.2)) x f) (V.ref c.1):=by unfold aft;rw [if_pos hL];exact⟨c.1,rfl,by rw [<- hc2];exact hca⟩
   have dz:=da
   have tz:=ta.put hv (.inl ⟨x,f,hx,hf,rfl,av⟩)
   have sz:=s0a
  all_goals
   refine⟨_,rfl,rd,_,_,.ref dd,rfl,rfl,SqL.of Sz.hd,rfl,_,rfl,_,rfl,(by show 3<=sizeLine;decide),fun qz hqz=>?_⟩
   have mz:=zq hqz (o:=.tup [.ref sa,.int f,.int 0])
   refine⟨dd,_,kA x f,qz,_,rfl,dz.same mz,rfl,tupK hsaz hqz,by rw [zaj,if_pos rfl],?_⟩
   exact kk _ _ (sz.trans (SameD.of mz)) ⟨_,dz.same mz,tz.same fun b xs e=>mz _ _ e⟩ (av.same fun b xs e=>mz _ _ e)
end
theorem V9 {c:Bool} {A B:Prop} (hc:c=false) (h:B):if c=true then A else B:=by rw [hc];exact yZ h
theorem Jq {c:Bool} {A B:Prop} (hc:c=true) (h:A):if c=true then A else B:=by rw [hc];exact ww h
section
variable {P:Program} {w:World} {K:W.Frag} {mg:Str->Option Value} {base:Heap}
theorem XX {ls:ZA} (ne:∀ l∈ls,l≠[]) {x y:List Int} {c:Int} (h:aft ls x c=some y):lacks ls (x++[c])=true/\y=zG ls (x++[c])/\Wr ls y:=by
 unfold aft at h
 by_cases hl:lacks ls (x++[c])=true
 ·rw [if_pos hl] at h
  cases h
  exact⟨hl,rfl,t7 ne hl⟩
 ·rw [if_neg hl] at h;cases h
theorem X8 {ls:ZA} {x:List Int} {c:Int} (h:aft ls x c=none):lacks ls (x++[c])=false:=by
 unfold aft at h
 cases hl:lacks ls (x++[c]) with
 | false=>rfl
 | true=>rw [if_pos hl] at h;cases h
def uQ (P:Program) (w:World) (N:Nat):Sp:=fun vs H Q _=>∃ (rd tl dd:Addr) (b:Nat) (ts:ZB) (sa:Addr) (x:List Int) (t:Nat),vs=[.ref rd,.ref sa,.int t]/\t<N/\Rdr P w H rd tl dd b ts/\H sa=some (.tup (x.map V.int))/\Wr (ts.map (·.2)) x /\
 ∀ H',SameD dd H H'->RdD P w H' dd (ts.map (·.2)) b->Q (.int (cnt (ts.map (·.2)) b t x:Nat)) H'
theorem vO:zE ["reader","stand","left","total","figure","behind"] ["reader","stand","left"] (zu uE):=⟨rfl,rfl,rfl,by decide +kernel,rfl,by decide +kernel,by decide +kernel⟩
theorem Xc {f f1:Addr} {fd fd1:FuncData} (D:Df K mg "_law_ways" uE ["reader","stand","left"] f fd) (zK:Df K mg "_law_after" yg ["reader","stand","figure"] f1 fd1) (T:Blt mg):∀ N,N<=1000->FnOk P w K mg base CX0 (N+2) f fd ["reader","stand","left"] (uQ P w N)
 | 0,_=>by
  refine D.fn.ok vO (fun vs H Q E h=>?_) (fun cdv A outer s H vs Q E hr h=>?_)
  ·obtain⟨rd,tl,dd,b,ts,sa,x,t,rfl,ht,_⟩:=h;omega
  ·obtain⟨rd,tl,dd,b,ts,sa,x,t,rfl,ht,_⟩:=h;omega
 | N+1,hN=>by
  have um:=Xc D zK T N (by omega)
  have wF:FnOk P w K mg base CX0 1 f1 fd1 ["reader","stand","figure"] (wR P w):=vV zK T
  have vz:=D
  refine D.fn.ok vO (fun vs H Q E h=>?_) (fun cdv A outer s H vs Q E hr h=>?_)
  ·obtain⟨rd,tl,dd,b,ts,sa,x,t,rfl,_⟩:=h;rfl
  obtain⟨rd,tl,dd,b,ts,sa,x,t,rfl,ht,R,hsa,hx,kk⟩:=h
  have hst4:∀ st∈ts.map (·.2),st.length<=4:=fun st h=>(R.g.st st h).len
  have ne:∀ st∈ts.map (·.2),st≠[]:=fun st h=>(R.g.st st h).ne
  have tupK:∀ {H1:Hp} {q:Addr},H1 sa=some (.tup (x.map V.int))->H1 q=none->NTup (upd H1 q (.tup [.ref sa,.int t])) (kW x t) q:=fun {H1 q} h hq=>⟨sa,zj,by rw [show (kW x t).1.map kV=x.map V.int from zec x];exact zq hq _ _ h⟩
  refine⟨_,(zm (yH (zN Ze (pv 2) zp (zL _))
    (zr (zH zp))
    zO)
   (zm (yH (zc8 (Ql (Xx hr) (wz (zf (pv 1) (zf (pv 2) zg))) (zP (yC K) (pv 0) zp (fun _ _=>rfl))) (by with_unfolding_all rfl))
    (zm (zB (i:=3) vO.nd rfl (Or.inl rfl) zp)
    (zm (wG PassesOwn.never rfl (yl rfl T.n_range (zf (zP (yC K) (pv 0) zp (fun _ _=>rfl)) zg)) (yh (i:=4) vO.nd rfl (Or.inl rfl))
     (zm (zB (i:=5) vO.nd rfl (Or.inl rfl) (zJ zK wF (hr.mono (by omega)) (zf (pv 0) (zf (pv 1) (zf (pv 4) zg)))))
     (zr (yH (zN X3 (pv 5) xq (zL _))
      (zr (zB (i:=3) vO.nd rfl (Or.inl rfl) (zy yF (pv 3) (zJ vz um (hr.mono (by omega)) (zf (pv 0) (zf (pv 5) (zf (zy wH (pv 2) zp) zg)))))))
      zO))))
    (zr (Jw (Xx hr) (zP (yC K) (pv 0) zp (fun _ _=>rfl)) (wz (zf (pv 1) (zf (pv 2) zg))) (pv 3) rfl))))
    zO)
   (zr (zH (zbI (Xx hr) (zP (yC K) (pv 0) zp (fun _ _=>rfl)) (wz (zf (pv 1) (zf (pv 2) zg))) (fun _ _=>rfl)))))),?_⟩
  cases t with
  | zero=>exact⟨_,rfl,rfl,_,rfl,Jq (decide_eq_true rfl) (kk H (SameD.of (Same.refl _)) R.d)⟩
  | succ t =>
  refine⟨_,rfl,rfl,_,rfl,V9 (decide_eq_false (fun z=>by injection z with z;omega)) ?_⟩
  refine⟨_,rfl,_,rfl,(by show 2<=sizeLine;decide),fun q1 hq1=>?_⟩
  have m1:=zq hq1 (o:=.tup [.ref sa,.int (t+1:Nat)])
  have R1:=R.same m1
  obtain⟨kvs,d1,t1⟩:=R1.d
  have nt1:=tupK hsa hq1
  have hsa1:=m1 _ _ hsa
  generalize upd H q1 (.tup [.ref sa,.int (t+1:Nat)])=H1 at m1 R1 d1 t1 nt1 hsa1
  have m0:SameD dd H H1:=SameD.of m1
  refine⟨_,rfl,rd,_,_,.ref dd,rfl,rfl,SqL.of R1.s.hd,rfl,dd,kvs,kW x (t+1),q1,rfl,d1,rfl,nt1,_,rfl,?_⟩
  cases hv:wX kvs (kW x (t+1)) with
  | some v =>
   refine yZ ?_
   refine⟨_,rfl,rd,_,_,.ref dd,rfl,rfl,SqL.of R1.s.hd,rfl,_,rfl,_,rfl,(by show 2<=sizeLine;decide),fun q2 hq2=>?_⟩
   have m2:=zq hq2 (o:=.tup [.ref sa,.int (t+1:Nat)])
   refine⟨dd,kvs,kW x (t+1),q2,v,rfl,d1.same m2,rfl,tupK hsa1 hq2,hv,?_⟩
   rw [t1.way hv]
   exact kk _ (m0.trans (SameD.of m2)) ⟨kvs,d1.same m2,t1.same fun b xs e=>m2 _ _ e⟩
  | none =>
  refine ww ?_
  refine⟨_,rfl,rd,_,_,.int b,rfl,rfl,SqL.of R1.s.hd,rfl,(b:Int),rfl,by have:=R.g.b16;omega,by have:=R.g.b16;omega,yS (lo:=0) (n:=(b:Int).toNat) (fun i Z Hc=>∃ v4 v5:Option V,Z=[some (.ref rd),some (.ref sa),some (.int (t+1:Nat)),some (.int (under (ts.map (·.2)) b t (some x) i:Nat)),v4,v5]/\Rdr P w Hc rd tl dd b ts/\SameD dd H1 Hc) ⟨_,_,rfl,R1,SameD.of (Same.refl _)⟩ ?_ ?_⟩
  ·rintro i Z Hc hi ⟨v4,v5,rfl,Rc,sc⟩
   have hib:i<b:=by omega
   have hsac:=sc _ _ (R1.tup hsa1) hsa1
   refine⟨_,rfl,_,rfl,_,rfl,rd,tl,dd,b,ts,sa,x,i,by rw [Int.zero_add];rfl,Rc,hsac,hx,hib,fun v Hd sd rdd av=>?_⟩
   have Rd:=Rc.sameD sd rdd
   cases ha:aft (ts.map (·.2)) x (i:Nat) with
   | none =>
    rw [ha] at av
    obtain rfl:v=.non:=av
    refine⟨_,rfl,rfl,_,rfl,V9 (by rw [decide_eq_true rfl];rfl) ⟨some (.int (0+(i:Int))),some .non,?_,Rd,sc.trans sd⟩⟩
    rw [ux,show Yh (ts.map (·.2)) b t (some x) i=0 by show (if lacks (ts.map (·.2)) (x++[(i:Int)])=true then _ else 0)=0;rw [if_neg (by rw [X8 ha];exact Bool.false_ne_true)],Nat.add_zero]
    rfl
   | some y =>
    rw [ha] at av
    obtain⟨c,rfl,hc⟩:=av
    obtain⟨hl,hy,hys⟩:=XX ne ha
    refine⟨_,rfl,rfl,_,rfl,Jq (by rw [decide_eq_false (fun z=>by cases z)];rfl) ?_⟩
    refine⟨_,rfl,_,rfl,_,rfl,_,rfl,_,_,rfl,rfl,rd,tl,dd,b,ts,c,y,t,by dsimp only;rw [show (((t+1:Nat):Int)-1)=(t:Int) by omega];rfl,by omega,Rd,hc,hys,fun He se re=>⟨_,_,rfl,rfl,?_⟩⟩
    refine⟨some (.int (0+(i:Int))),some (.ref c),?_,Rd.sameD se re,(sc.trans sd).trans se⟩
    rw [ux,show Yh (ts.map (·.2)) b t (some x) i=cnt (ts.map (·.2)) b t y by show (if lacks (ts.map (·.2)) (x++[(i:Int)])=true then _ else 0)=_;rw [if_pos hl,hy],Int.natCast_add]
    rfl
  ·rintro Z Hc ⟨v4,v5,rfl,Rc,sc⟩
   have hsac:=sc _ _ (R1.tup hsa1) hsa1
   obtain⟨ks,dc,tc⟩:=Rc.d
   rw [show (b:Int).toNat=b by omega,QR]
   refine⟨_,rfl,_,rfl,rd,_,_,.ref dd,rfl,rfl,SqL.of Rc.s.hd,rfl,_,rfl,_,rfl,(by show 2<=sizeLine;decide),fun q3 hq3=>?_⟩
   have m3:=zq hq3 (o:=.tup [.ref sa,.int (t+1:Nat)])
   refine⟨dd,ks,kW x (t+1),q3,rfl,dc.same m3,rfl,tupK hsac hq3,Nat.lt_of_le_of_lt (tc.len R.g.len hst4 R.g.b16) (by decide),fun H4 d4 c4=>?_⟩
   have R3:=Rc.same m3
   have hsa3:=m3 _ _ hsac
   have t3:Tab (ts.map (·.2)) b (upd Hc q3 (.tup [.ref sa,.int (t+1:Nat)])) ks:=tc.same fun b xs e=>m3 _ _ e
   have s3:SameD dd H (upd Hc q3 (.tup [.ref sa,.int (t+1:Nat)])):=(m0.trans sc).trans (SameD.of m3)
   generalize upd Hc q3 (.tup [.ref sa,.int (t+1:Nat)])=H3 at R3 hsa3 t3 s3 c4
   have s34:SameD dd H3 H4:=fun a u ha h=>by rw [c4 a ha];exact h
   have tp34:∀ a xs,H3 a=some (.tup xs)->H4 a=some (.tup xs):=fun a xs h=>s34 _ _ (R3.tup h) h
   have t4:=(t3.same tp34).put2 (k:=kW x (t+1)) (v:=.int (cnt (ts.map (·.2)) b (t+1) x:Nat)) (.inr ⟨x,t+1,hx,by omega,by omega,rfl,rfl⟩)
   have S4:=R3.s.sameD R3.d s34
   refine⟨_,rfl,rd,_,_,.ref dd,rfl,rfl,SqL.of S4.hd,rfl,_,rfl,_,rfl,(by show 2<=sizeLine;decide),fun q5 hq5=>?_⟩
   have m5:=zq hq5 (o:=.tup [.ref sa,.int (t+1:Nat)])
   refine⟨dd,_,kW x (t+1),q5,_,rfl,d4.same m5,rfl,tupK (tp34 _ _ hsa3) hq5,by rw [zaj,if_pos rfl],?_⟩
   exact kk _ ((s3.trans s34).trans (SameD.of m5)) ⟨_,d4.same m5,t4.same fun b xs e=>m5 _ _ e⟩
structure RowsAt (H:Hp) (l:Addr) (ls:ZA) (b t:Nat) (x:List Int) (cs:List Nat) (rows:List (Addr×Addr×Nat)):Prop where
 li:H l=some (.lst (rows.map fun r=>V.ref r.1))
 fg:rows.map (·.2.2)=cs
 ro:∀ r∈rows,H r.1=some (.tup [.int r.2.2,.ref r.2.1,.int (cnt ls b t (zG ls (x++[(r.2.2:Int)])):Nat)])/\H r.2.1=some (.tup ((zG ls (x++[(r.2.2:Int)])).map V.int))
theorem RowsAt.sameD {H H':Hp} {l:Addr} {ls:ZA} {b t:Nat} {x:List Int} {cs:List Nat} {rows:List (Addr×Addr×Nat)} (R:RowsAt H l ls b t x cs rows) {rd tl dd:Addr} {b':Nat} {ts:ZB} (Rr:Rdr P w H rd tl dd b' ts) (s:SameD dd H H'):RowsAt H' l ls b t x cs rows :=
 ⟨s _ _ (Rr.d.ne R.li fun _ z=>nomatch z) R.li,R.fg,fun r hr=>⟨s _ _ (Rr.tup (R.ro r hr).1) (R.ro r hr).1,s _ _ (Rr.tup (R.ro r hr).2) (R.ro r hr).2⟩⟩
theorem Uj {α:Type} (f:α->Nat):∀ l:List α,(l.map fun r=>((f r:Nat):Int)).sum=(((l.map f).sum:Nat):Int)
 | []=>rfl
 | a :: l=>by rw [List.map_cons,List.sum_cons,List.map_cons,List.sum_cons,Uj f l,Int.natCast_add]
theorem RowsAt.sum {H:Hp} {l:Addr} {ls:ZA} {b t:Nat} {x:List Int} {a n:Nat} {rows:List (Addr×Addr×Nat)} (R:RowsAt H l ls b t x (xH ls x a n) rows):(rows.map fun r=>((cnt ls b t (zG ls (x++[(r.2.2:Int)])):Nat):Int)).sum=((uA ls b t x a n:Nat):Int):=by
 rw [Uj (fun r:Addr×Addr×Nat=>cnt ls b t (zG ls (x++[(r.2.2:Int)]))) rows]
 unfold uA
 rw [<- R.fg,List.map_map]
 rfl
theorem RowsAt.len {H:Hp} {l:Addr} {ls:ZA} {b t:Nat} {x:List Int} {a n:Nat} {rows:List (Addr×Addr×Nat)} (R:RowsAt H l ls b t x (xH ls x a n) rows):rows.length<=n:=by
 have:=congrArg List.length R.fg
 rw [List.length_map] at this
 rw [this]
 unfold xH
 exact Nat.le_trans (List.length_filter_le _ _) (by rw [List.length_map,List.length_range];exact Nat.le_refl _)
def xr (P:Program) (w:World) (N:Nat):Sp:=fun vs H Q _=>∃ (rd tl dd:Addr) (b:Nat) (ts:ZB) (sa:Addr) (x:List Int) (a n t:Nat),vs=[.ref rd,.ref sa,.int a,.int ((a+n:Nat):Int),.int t]/\t<N/\a+n<=b/\Rdr P w H rd tl dd b ts/\H sa=some (.tup (x.map V.int))/\Wr (ts.map (·.2)) x /\
 ∀ (l:Addr) (rows:List (Addr×Addr×Nat)) (H':Hp),H l=none->RowsAt H' l (ts.map (·.2)) b t x (xH (ts.map (·.2)) x a n) rows->SameD dd H H'->RdD P w H' dd (ts.map (·.2)) b->Q (.ref l) H'
theorem tD:zE ["reader","stand","first","end","left","found","figure","behind"] ["reader","stand","first","end","left"] (zu xj):=⟨rfl,rfl,rfl,by decide +kernel,rfl,by decide +kernel,by decide +kernel⟩
theorem Ve {N:Nat} {f f1 f2:Addr} {fd fd1 fd2:FuncData} (D:Df K mg "_law_firsts" xj ["reader","stand","first","end","left"] f fd) (zK:Df K mg "_law_after" yg ["reader","stand","figure"] f1 fd1) (vz:Df K mg "_law_ways" uE ["reader","stand","left"] f2 fd2) (um:FnOk P w K mg base CX0 (N+2) f2 fd2 ["reader","stand","left"] (uQ P w N)) (T:Blt mg):FnOk P w K mg base CX0 (N+3) f fd ["reader","stand","first","end","left"] (xr P w N):=by
 have wF:FnOk P w K mg base CX0 1 f1 fd1 ["reader","stand","figure"] (wR P w):=vV zK T
 refine D.fn.ok tD (fun vs H Q E h=>?_) (fun cdv A outer s H vs Q E hr h=>?_)
 ·obtain⟨rd,tl,dd,b,ts,sa,x,a,n,t,rfl,_⟩:=h;rfl
 ·obtain⟨rd,tl,dd,b,ts,sa,x,a,n,t,rfl,ht,hab,R,hsa,hx,kk⟩:=h
  have ne:∀ st∈ts.map (·.2),st≠[]:=fun st h=>(R.g.st st h).ne
  have b16:=R.g.b16
  refine⟨_,(zm (zB (i:=5) tD.nd rfl (Or.inl rfl) (zU zg))
   (zm (wG PassesOwn.never rfl (Ws rfl T.n_range (zf (pv 2) (zf (pv 3) zg))) (yh (i:=6) tD.nd rfl (Or.inl rfl))
    (zm (zB (i:=7) tD.nd rfl (Or.inl rfl) (zJ zK wF (hr.mono (by omega)) (zf (pv 0) (zf (pv 1) (zf (pv 6) zg)))))
    (zr (yH (zN X3 (pv 7) xq (zL _))
     (zr (xG (Y5 PySem.F.plainAttrs_list PySem.F.slot_list_append PySem.F.type_list_append vM (pv 5) (zf (wz (zf (pv 6) (zf (pv 7) (zf (zJ vz um (hr.mono (by omega)) (zf (pv 0) (zf (pv 7) (zf (pv 4) zg)))) zg)))) zg))))
     zO))))
   (zr (zH (pv 5))))),?_⟩
  refine⟨(by decide:0<=sizeLine),fun l hl=>?_⟩
  have m0:=zq hl (o:=.lst [])
  refine⟨_,rfl,_,rfl,(a:Int),((a+n:Nat):Int),rfl,by omega,?_⟩
  rw [show (((a+n:Nat):Int)-(a:Int)).toNat=n by omega]
  refine yS (lo:=(a:Int)) (n:=n) (fun i Z Hc=>∃ (v6 v7:Option V) (rows:List (Addr×Addr×Nat)),Z=[some (.ref rd),some (.ref sa),some (.int a),some (.int ((a+n:Nat):Int)),some (.int t),some (.ref l),v6,v7]/\Rdr P w Hc rd tl dd b ts/\SameD dd H Hc/\RowsAt Hc l (ts.map (·.2)) b t x (xH (ts.map (·.2)) x a i) rows/\rows.length<=i)
   ⟨_,_,[],rfl,R.same m0,SameD.of m0,⟨zj,rfl,by simp⟩,Nat.zero_le _⟩ ?_ ?_
  ·rintro i Z Hc hi ⟨v6,v7,rows,rfl,Rc,sc,Wc,hlen⟩
   have hib:a+i<b:=by omega
   have hsac:=sc _ _ (R.tup hsa) hsa
   have hai:(a:Int)+(i:Int)=((a+i:Nat):Int):=by omega
   refine⟨_,rfl,_,rfl,_,rfl,rd,tl,dd,b,ts,sa,x,a+i,by rw [hai];rfl,Rc,hsac,hx,hib,fun v Hd sd rdd av=>?_⟩
   have Rd:=Rc.sameD sd rdd
   have Wd:=Wc.sameD Rc sd
   cases ha:aft (ts.map (·.2)) x (a+i:Nat) with
   | none =>
    rw [ha] at av
    obtain rfl:v=.non:=av
    refine⟨_,rfl,rfl,_,rfl,V9 (by rw [decide_eq_true rfl];rfl) ⟨_,_,rows,rfl,Rd,sc.trans sd,?_,by omega⟩⟩
    rw [jX,if_neg (by rw [X8 ha];exact Bool.false_ne_true),List.append_nil]
    exact Wd
   | some y =>
    rw [ha] at av
    obtain⟨c,rfl,hc⟩:=av
    obtain⟨hl',hy,hys⟩:=XX ne ha
    refine⟨_,rfl,rfl,_,rfl,Jq (by rw [decide_eq_false (fun z=>by cases z)];rfl) ?_⟩
    refine⟨_,rfl,.inl ⟨rfl,_,SqL.of Wd.li⟩,_,rfl,_,rfl,_,rfl,_,rfl,_,rfl,rd,tl,dd,b,ts,c,y,t,rfl,ht,Rd,hc,hys,fun He se re=>⟨(by show 3<=sizeLine;decide),fun p hp=>?_⟩⟩
    have Re:=Rd.sameD se re
    have We:=Wd.sameD Rd se
    have hce:=se _ _ (Rd.tup hc) hc
    have m1:=zq hp (o:=.tup [.int ((a:Int)+(i:Int)),.ref c,.int (cnt (ts.map (·.2)) b t y:Nat)])
    have npl:p≠l:=fun z=>by rw [z,We.li] at hp;cases hp
    refine⟨l,_,_,rfl,rfl,m1 _ _ We.li,by rw [List.length_map];exact Nat.lt_of_le_of_lt (show rows.length<=16 by omega) (by decide),?_⟩
    have ndl:l≠dd:=Re.d.ne We.li fun _ z=>nomatch z
    have ct:∀ {z o},He z=some o->z≠l->upd (upd He p (.tup [.int ((a:Int)+(i:Int)),.ref c,.int (cnt (ts.map (·.2)) b t y:Nat)])) l (.lst (rows.map (fun r=>V.ref r.1)++[.ref p])) z=some o:=fun {z o} h hz=>by rw [zx hz];exact m1 _ _ h
    have tupl:∀ {z xs},He z=some (.tup xs)->z≠l:=fun {z xs} h q=>by rw [q,We.li] at h;cases h
    obtain⟨kvs,dk,tb⟩:=Re.d
    have R2:Rdr P w (upd (upd He p (.tup [.int ((a:Int)+(i:Int)),.ref c,.int (cnt (ts.map (·.2)) b t y:Nat)])) l (.lst (rows.map (fun r=>V.ref r.1)++[.ref p]))) rd tl dd b ts:=by
     have nl:∀ z,H z≠none->z≠l:=fun z h q=>h (by rw [q];exact hl)
     refine⟨⟨ct Re.s.hd (nl _ (by rw [R.s.hd];exact fun z=>nomatch z)),ct Re.s.li (nl _ (by rw [R.s.li];exact fun z=>nomatch z)),fun t ht=>ct (Re.s.st t ht) (tupl (Re.s.st t ht))⟩,⟨kvs,dk.stay (by rw [zx ndl.symm];exact zx (fun z=>by rw [<- z] at hp;obtain⟨_,e,_⟩:=dk;rw [e] at hp;cases hp)) (fun z xs h=>ct h (tupl h)),tb.same fun z xs h=>ct h (tupl h)⟩,R.g⟩
    refine⟨_,_,rows++[(p,c,a+i)],rfl,R2,fun z u hz h=>?_,⟨by rw [zj,List.map_append];rfl,by rw [List.map_append,We.fg,jX,if_pos hl'];rfl,fun r hr=>?_⟩,by rw [List.length_append,List.length_singleton];omega⟩
    ·exact ct (((sc.trans sd).trans se) z u hz h) (fun q=>by rw [q,hl] at h;cases h)
    ·rcases List.mem_append.mp hr with hr | hr
     ·exact⟨ct (We.ro r hr).1 (tupl (We.ro r hr).1),ct (We.ro r hr).2 (tupl (We.ro r hr).2)⟩
     ·rw [List.mem_singleton.mp hr]
      refine⟨?_,?_⟩
      ·rw [zx npl,zj,hai,hy]
      ·rw [hy] at hce;exact ct hce (tupl hce)
  ·rintro Z Hc ⟨v6,v7,rows,rfl,Rc,sc,Wc,hlen⟩
   exact⟨_,rfl,kk l rows Hc hl Wc sc Rc.d⟩
def wM (P:Program) (w:World) (N:Nat):Sp:=fun vs H Q _=>∃ (rd tl dd:Addr) (b:Nat) (ts:ZB) (t:Nat),vs=[.ref rd,.int ((t+1:Nat):Int)]/\t<N/\Rdr P w H rd tl dd b ts/\∀ H',SameD dd H H'->RdD P w H' dd (ts.map (·.2)) b->Q (.int (yQ (ts.map (·.2)) b t:Nat)) H'
theorem Jh:zE ["reader","length"] ["reader","length"] (zu xQ):=⟨rfl,rfl,rfl,by decide +kernel,rfl,by decide +kernel,by decide +kernel⟩
theorem U0 {N:Nat} {f f1:Addr} {fd fd1:FuncData} (D:Df K mg "_law_long" xQ ["reader","length"] f fd) (yz:Df K mg "_law_firsts" xj ["reader","stand","first","end","left"] f1 fd1) (yP:FnOk P w K mg base CX0 (N+3) f1 fd1 ["reader","stand","first","end","left"] (xr P w N)) (T:Blt mg) (U:Vf mg):FnOk P w K mg base CX0 (N+4) f fd ["reader","length"] (wM P w N):=by
 refine D.fn.ok Jh (fun vs H Q E h=>?_) (fun cdv A outer s H vs Q E hr h=>?_)
 ·obtain⟨rd,tl,dd,b,ts,t,rfl,_⟩:=h;rfl
 ·obtain⟨rd,tl,dd,b,ts,t,rfl,ht,R,kk⟩:=h
  have b2:=R.g.b2
  have b16:=R.g.b16
  refine⟨_,(zr (zH (zz (zdX K rfl) (by rfl) U.n_sum boot_sum (zf (zcR (show Vq (zu xQ) _ ["figure","behind","many"] ["reader","length"] [] [] from ⟨rfl,by decide +kernel,by decide +kernel,by decide +kernel,by decide +kernel,rfl,by decide +kernel,by decide +kernel⟩) rfl (YX K (zJ yz yP (hr.mono (by omega)) (zf (pv 0) (zf (wz zg) (zf zp (zf (zP (yC K) (pv 0) zp (fun _ _=>rfl)) (zf (zy wH (pv 1) zp) zg))))))) (fun _ _ _ _=>(zfF K 3 rfl (qL (yh (i:=0) (show List.Nodup (α:=Str) ["figure","behind","many"] by decide) rfl (.inl (lookup_relabel_local rfl)) (.inr (lookup_relabel_local rfl))) (qL (yh (i:=1) (show List.Nodup (α:=Str) ["figure","behind","many"] by decide) rfl (.inl (lookup_relabel_local rfl)) (.inr (lookup_relabel_local rfl))) (qL (yh (i:=2) (show List.Nodup (α:=Str) ["figure","behind","many"] by decide) rfl (.inl (lookup_relabel_local rfl)) (.inr (lookup_relabel_local rfl))) JQ))))) (fun _ _ _ _=>wg) (fun _ _ _ _=>(pv 2))) zg)))),?_⟩
  refine⟨_,rfl,(by decide:0<=sizeLine),fun e0 he0=>?_⟩
  have m0:=zq he0 (o:=.tup [])
  have R0:=R.same m0
  refine⟨_,rfl,rd,_,_,.int b,rfl,rfl,SqL.of R0.s.hd,rfl,_,rfl,_,_,rfl,rfl,?_⟩
  refine⟨rd,tl,dd,b,ts,e0,[],1,b-1,t,by dsimp only;rw [show (((t+1:Nat):Int)-1)=(t:Int) by omega,show 1+(b-1)=b by omega];rfl,ht,by omega,R0,zj,.inl rfl,fun l rows H1 hl W1 s1 r1=>?_⟩
  have R1:=R0.sameD s1 r1
  refine⟨l,rfl,⟨_,SqL.of W1.li⟩,zbl (K:=K) (a:=l) (xs:=rows.map fun r=>V.ref r.1) (fun i ys Hc=>ys=((rows.take i).map fun r=>((cnt (ts.map (·.2)) b t (zG (ts.map (·.2)) ([]++[(r.2.2:Int)])):Nat):Int)).map V.int/\Hc=H1) ⟨rfl,rfl⟩ (fun i ys Hc _ ⟨_,e⟩=>by rw [e];exact SqL.of W1.li) ?_ ?_⟩
  ·rintro i v ys Hc hi ⟨rfl,rfl⟩
   rw [List.getElem?_map] at hi
   obtain⟨r,hri,e⟩:=Option.map_eq_some_iff.mp hi
   subst e
   have hrm:=List.mem_of_getElem? hri
   refine⟨by rw [List.length_map,List.length_map,List.length_take];exact Nat.lt_of_le_of_lt (show min i rows.length<=16 by have:=W1.len;omega) (by decide),?_⟩
   refine⟨r.1,_,rfl,SqT.of (W1.ro r hrm).1,rfl,_,_,rfl,_,_,rfl,_,_,rfl,rfl,⟨[some (.int r.2.2),some (.ref r.2.1),some (.int (cnt (ts.map (·.2)) b t (zG (ts.map (·.2)) ([]++[(r.2.2:Int)])):Nat))],rfl,rfl⟩,?_⟩
   unfold Yo
   dsimp only
   rw [if_pos rfl]
   refine⟨_,rfl,?_,rfl⟩
   rw [List.take_succ,hri,Option.toList_some,List.map_append,List.map_append];rfl
  ·rintro ys Hc ⟨rfl,rfl⟩ Dd hD
   rw [List.length_map,List.take_length]
   refine⟨Dd,_,rfl,SqL.of zj,?_⟩
   have mD:=zq hD (o:=.lst ((rows.map fun r=>((cnt (ts.map (·.2)) b t (zG (ts.map (·.2)) ([]++[(r.2.2:Int)])):Nat):Int)).map V.int))
   have q:=kk _ (((SameD.of m0).trans s1).trans (SameD.of mD)) (R1.d.same mD)
   have e:(rows.map fun r=>((cnt (ts.map (·.2)) b t (zG (ts.map (·.2)) ([]++[(r.2.2:Int)])):Nat):Int)).sum=((yQ (ts.map (·.2)) b t:Nat):Int):=by
    exact W1.sum
   rw [e]
   exact q
theorem Jb {f f1:Addr} {fd fd1:FuncData} (D:Df K mg "_law_ways" uE ["reader","stand","left"] f fd) (zK:Df K mg "_law_after" yg ["reader","stand","figure"] f1 fd1) (T:Blt mg):FnOk P w K mg base CX0 207 f fd ["reader","stand","left"] (uQ P w 205):=by
 exact Xc D zK T 205 (by decide)
theorem Uq {f f1 f2:Addr} {fd fd1 fd2:FuncData} (D:Df K mg "_law_firsts" xj ["reader","stand","first","end","left"] f fd) (zK:Df K mg "_law_after" yg ["reader","stand","figure"] f1 fd1) (vz:Df K mg "_law_ways" uE ["reader","stand","left"] f2 fd2) (um:FnOk P w K mg base CX0 207 f2 fd2 ["reader","stand","left"] (uQ P w 205)) (T:Blt mg):FnOk P w K mg base CX0 208 f fd ["reader","stand","first","end","left"] (xr P w 205):=by
 exact Ve D zK vz um T
theorem JC {f f1:Addr} {fd fd1:FuncData} (D:Df K mg "_law_long" xQ ["reader","length"] f fd) (yz:Df K mg "_law_firsts" xj ["reader","stand","first","end","left"] f1 fd1) (yP:FnOk P w K mg base CX0 208 f1 fd1 ["reader","stand","first","end","left"] (xr P w 205)) (T:Blt mg) (U:Vf mg):FnOk P w K mg base CX0 209 f fd ["reader","length"] (wM P w 205):=by
 exact U0 D yz yP T U
def UT (ls:ZA) (b t:Nat) (x:List Int) (rows:List (Addr×Addr×Nat)) (j:Nat):Nat:=((rows.take j).map fun r=>cnt ls b t (zG ls (x++[(r.2.2:Int)]))).sum
theorem zb7 {ls:ZA} {b t:Nat} {x:List Int} {rows:List (Addr×Addr×Nat)} {j:Nat} {r:Addr×Addr×Nat} (h:rows[j]?=some r):UT ls b t x rows (j+1)=UT ls b t x rows j+cnt ls b t (zG ls (x++[(r.2.2:Int)])):=by
 unfold UT
 rw [List.take_succ,h,Option.toList_some,List.map_append,List.sum_append]
 simp
theorem zeh {H:Hp} {l:Addr} {ls:ZA} {b t:Nat} {x:List Int} {a n j:Nat} {rows:List (Addr×Addr×Nat)} {r:Addr×Addr×Nat} (R:RowsAt H l ls b t x (xH ls x a n) rows) (h:rows[j]?=some r):UT ls b t x rows j=uA ls b t x a (r.2.2-a):=by
 have hf:(xH ls x a n)[j]?=some r.2.2:=by rw [<- R.fg,List.getElem?_map,h];rfl
 unfold UT uA
 rw [<- W0 hf,<- R.fg,<- List.map_take,List.map_map]
 rfl
theorem zd3 {H:Hp} {l:Addr} {ls:ZA} {b t:Nat} {x:List Int} {a n:Nat} {rows:List (Addr×Addr×Nat)} (R:RowsAt H l ls b t x (xH ls x a n) rows):UT ls b t x rows rows.length=uA ls b t x a n:=by
 unfold UT uA
 rw [List.take_length,<- R.fg,List.map_map]
 rfl
def oV:Option Nat->V
 | none=>.non
 | some g=>.int g
def jK (P:Program) (w:World) (N:Nat):Sp:=fun vs H Q _=>∃ (rd tl dd:Addr) (b:Nat) (ts:ZB) (k t0:Nat),vs=[.ref rd,.int k]/\t0<N/\(yQ (ts.map (·.2)) b t0=0\/k<yI (ts.map (·.2)) b (t0+1))/\Rdr P w H rd tl dd b ts/\∀ o H',zhe (ts.map (·.2)) b k o->SameD dd H H'->RdD P w H' dd (ts.map (·.2)) b->Q (oV o) H'
theorem zT:zE ["reader","k","length","number","stand","at","chosen","left","figure","behind","many"] ["reader","k"] (zu jD):=⟨rfl,rfl,rfl,by decide +kernel,rfl,by decide +kernel,by decide +kernel⟩
set_option maxHeartbeats 0 in
theorem Jy {N:Nat} {f f2 f3 f4:Addr} {fd fd2 fd3 fd4:FuncData} (hN:N<=900) (D:Df K mg "_law_nth" jD ["reader","k"] f fd) (zK:Df K mg "_law_after" yg ["reader","stand","figure"] f2 fd2) (yz:Df K mg "_law_firsts" xj ["reader","stand","first","end","left"] f3 fd3) (yP:FnOk P w K mg base CX0 (N+3) f3 fd3 ["reader","stand","first","end","left"] (xr P w N))
  (yw:Df K mg "_law_long" xQ ["reader","length"] f4 fd4) (yM:FnOk P w K mg base CX0 (N+4) f4 fd4 ["reader","length"] (wM P w N)) (T:Blt mg) (U:Vf mg):FnOk P w K mg base CX0 (N+5) f fd ["reader","k"] (jK P w N):=by
 have wF:FnOk P w K mg base CX0 1 f2 fd2 ["reader","stand","figure"] (wR P w):=vV zK T
 refine D.fn.ok zT (fun vs H Q E h=>?_) (fun cdv A outer s H vs Q E hr h=>?_)
 ·obtain⟨rd,tl,dd,b,ts,k,t0,rfl,_⟩:=h;rfl
 ·obtain⟨rd,tl,dd,b,ts,kp,t0,rfl,ht0,hend,R,kk⟩:=h
  have b2:=R.g.b2
  have b16:=R.g.b16
  have ne:∀ st∈ts.map (·.2),st≠[]:=fun st h=>(R.g.st st h).ne
  refine⟨_,(zm (yH (zN X3 (zJ zK wF (hr.mono (by omega)) (zf (pv 0) (zf (wz zg) (zf zp zg)))) xq (zL _))
    (zm (yH (zN Ze (pv 1) zp (zL _))
     (zr (zH zp))
     zO)
    (zr (zB (i:=1) zT.nd rfl (Or.inl rfl) (zy wH (pv 1) zp))))
    zO)
   (zm (zB (i:=2) zT.nd rfl (Or.inl rfl) zp)
   (zm (Yj PassesOwn.never (zaJ QS XR zp (zJ yw yM (hr.mono (by omega)) (zf (pv 0) (zf (pv 2) zg))) (pv 1))
    (zm (zB (i:=1) zT.nd rfl (Or.inl rfl) (zy wH (pv 1) (zJ yw yM (hr.mono (by omega)) (zf (pv 0) (zf (pv 2) zg)))))
    (zr (zB (i:=2) zT.nd rfl (Or.inl rfl) (zy yF (pv 2) zp)))))
   (zm (yH (zN Ze (zJ yw yM (hr.mono (by omega)) (zf (pv 0) (zf (pv 2) zg))) zp (zL _))
    (zr (zH xq))
    zO)
   (zm (zB (i:=3) zT.nd rfl (Or.inl rfl) zp)
   (zm (zB (i:=4) zT.nd rfl (Or.inl rfl) (wz zg))
   (zm (wG PassesOwn.never rfl (yl rfl T.n_range (zf (pv 2) zg)) (yh (i:=5) zT.nd rfl (Or.inl rfl))
    (zm (zB (i:=6) zT.nd rfl (Or.inl rfl) xq)
    (zm (zB (i:=7) zT.nd rfl (Or.inl rfl) (zy wH (zy wH (pv 2) zp) (pv 5)))
    (zm (wG PassesOwn.never rfl (YX K (zJ yz yP (hr.mono (by omega)) (zf (pv 0) (zf (pv 4) (zf (tM Wt (by rfl) T.n_int boot_int (zf (xx Ze (pv 5) zp (zL _)) zg)) (zf (zP (yC K) (pv 0) zp (fun _ _=>rfl)) (zf (pv 7) zg))))))) (za1 rfl (qL (yh (i:=8) zT.nd rfl (Or.inl rfl)) (qL (yh (i:=9) zT.nd rfl (Or.inl rfl)) (qL (yh (i:=10) zT.nd rfl (Or.inl rfl)) JQ))))
     (zm (yH (PW.pt (Jx (zN Z4 (pv 6) xq (zL _)) (Vn (zN QS (pv 1) (pv 10) (zL _)))))
      (zr (zB (i:=6) zT.nd rfl (Or.inl rfl) (wz (zf (pv 8) (zf (pv 9) zg)))))
      zO)
     (zr (yH (zN Z4 (pv 6) xq (zL _))
      (zr (zB (i:=1) zT.nd rfl (Or.inl rfl) (zy wH (pv 1) (pv 10))))
      zO))))
    (zm (zB (i:=3) zT.nd rfl (Or.inl rfl) (zy yF (zy uZ (pv 3) (zP (yC K) (pv 0) zp (fun _ _=>rfl))) (zP (uH K) (pv 6) zp (fun _ _=>rfl))))
    (zr (zB (i:=4) zT.nd rfl (Or.inl rfl) (zP (uH K) (pv 6) zp (fun _ _=>rfl)))))))))
   (zr (zH (pv 3)))))))))),?_⟩
  refine⟨_,rfl,(by decide:0<=sizeLine),fun e0 he0=>?_⟩
  have m0:=zq he0 (o:=.tup [])
  have R0:=R.same m0
  refine⟨rd,tl,dd,b,ts,e0,[],0,rfl,R0,zj,.inl rfl,by omega,fun v H1 s1 r1 av=>?_⟩
  have R1:=R0.sameD s1 r1
  have s01:SameD dd H H1:=(SameD.of m0).trans s1
  cases hL0:lacks (ts.map (·.2)) [0]
  case' false =>
   have ev:v=.non:=by
    cases ha:aft (ts.map (·.2)) [] (0:Nat) with
    | none=>rw [ha] at av;exact av
    | some y=>rw [show lacks (ts.map (·.2)) [0]=true from (XX ne ha).1] at hL0;cases hL0
   subst ev
   refine⟨rfl,_,rfl,V9 (by rw [decide_eq_true rfl];rfl) ?_⟩
   obtain⟨k1,ek,hk1⟩:∃ k1:Nat,kp=k1/\k1+yI (ts.map (·.2)) b 0=kp:=⟨kp,rfl,by show kp+(if lacks (ts.map (·.2)) [0]=true then 1 else 0)=kp;rw [if_neg (by rw [hL0];exact Bool.false_ne_true)];rfl⟩
   rw [show (.int (kp:Int):V)=.int (k1:Int) by rw [ek]]
  case' true =>
   have ev:v≠.non:=by
    cases ha:aft (ts.map (·.2)) [] (0:Nat) with
    | none=>rw [show lacks (ts.map (·.2)) [0]=false from X8 ha] at hL0;cases hL0
    | some y=>rw [ha] at av;obtain⟨c,rfl,_⟩:=av;exact fun z=>by cases z
   have hc0:yI (ts.map (·.2)) b 0=1:=by show (if lacks (ts.map (·.2)) [0]=true then 1 else 0)=1;rw [if_pos hL0]
   refine⟨rfl,_,rfl,Jq (by rw [decide_eq_false ev];rfl) ?_⟩
   by_cases hk0:kp=0
   case' pos =>
    subst hk0
    refine⟨_,rfl,rfl,_,rfl,Jq (decide_eq_true rfl) (kk (some 0) H1 (.inl ⟨0,rfl,?_,rfl⟩) s01 R1.d)⟩
    unfold gd;rw [wI (show 0<b by omega)];exact hL0
   refine⟨_,rfl,rfl,_,rfl,V9 (decide_eq_false (fun z=>by injection z with z;omega)) ⟨_,rfl,_,_,rfl,rfl,?_⟩⟩
   obtain⟨k1,ek,hk1⟩:∃ k1:Nat,(kp:Int)-1=k1/\k1+yI (ts.map (·.2)) b 0=kp:=⟨kp-1,by omega,by omega⟩
   dsimp only
   rw [ek]
  all_goals
   refine Ys (fun Z H2=>∃ (t k:Nat),Z=[some (.ref rd),some (.int k),some (.int ((t+1:Nat):Int)),none,none,none,none,none,none,none,none]/\k+yI (ts.map (·.2)) b t=kp/\t<=t0/\Rdr P w H2 rd tl dd b ts/\SameD dd H H2)
    (fun Z _=>match Z with | _ :: _ :: some (.int l) :: _=>t0+2-l.toNat | _=>0) ⟨0,k1,rfl,hk1,Nat.zero_le _,R1,s01⟩ ?_ ?_
   ·rintro Z H2 ⟨t,k,rfl,hk,htt,R2,s2⟩
    refine⟨_,rfl,_,rfl,rd,tl,dd,b,ts,t,rfl,by omega,R2,fun H3 s3 r3=>⟨_,_,rfl,rfl,_,rfl,?_⟩⟩
    have R3:=R2.sameD s3 r3
    have s03:=s2.trans s3
    have hcn:=vd (ts.map (·.2)) b2 t
    by_cases hgo:0<yQ (ts.map (·.2)) b t/\yQ (ts.map (·.2)) b t<=k
    ·rw [decide_eq_true (show (0:Int)<((yQ (ts.map (·.2)) b t:Nat):Int) by omega)]
     refine ww ⟨_,rfl,_,_,rfl,rfl,_,rfl,?_⟩
     rw [decide_eq_true (show ((yQ (ts.map (·.2)) b t:Nat):Int)<=(k:Int) by omega)]
     refine ww ?_
     refine⟨_,rfl,_,rfl,_,rfl,rd,tl,dd,b,ts,t,rfl,by omega,R3,fun H4 s4 r4=>⟨_,_,rfl,rfl,_,rfl,_,_,rfl,rfl,⟨t+1,k-yQ (ts.map (·.2)) b t,?_,by omega,?_,R3.sameD s4 r4,s03.trans s4⟩,?_⟩⟩
     ·dsimp only
      rw [show (k:Int)-((yQ (ts.map (·.2)) b t:Nat):Int)=((k-yQ (ts.map (·.2)) b t:Nat):Int) by omega];rfl
     ·by_cases z:t=t0
      ·subst z
       rcases hend with q | q<;>omega
      ·omega
     ·show t0+2-(((t+1:Nat):Int)+1).toNat<t0+2-((t+1:Nat):Int).toNat
      omega
    ·by_cases h0:yQ (ts.map (·.2)) b t=0
     case' pos =>
      rw [decide_eq_false (show ¬ (0:Int)<((yQ (ts.map (·.2)) b t:Nat):Int) by omega)]
      refine yZ ⟨_,rfl,yZ ?_⟩
     case' neg =>
      rw [decide_eq_true (show (0:Int)<((yQ (ts.map (·.2)) b t:Nat):Int) by omega)]
      refine ww ⟨_,rfl,_,_,rfl,rfl,_,rfl,?_⟩
      rw [decide_eq_false (show ¬ ((yQ (ts.map (·.2)) b t:Nat):Int)<=(k:Int) by omega)]
      refine yZ ?_
     all_goals
      refine⟨_,rfl,_,rfl,rd,tl,dd,b,ts,t,rfl,by omega,R3,fun H4 s4 r4=>⟨rfl,_,rfl,?_⟩⟩
      have R4:=R3.sameD s4 r4
      have s04:=s03.trans s4
     case' pos =>
      rw [h0]
      refine Jq (decide_eq_true rfl) (kk none H4 (.inr ⟨rfl,fun M=>?_⟩) s04 R4.d)
      have:=WD ne b2 h0 M
      omega
     have hrem:k<yQ (ts.map (·.2)) b t:=by
      by_cases z:k<yQ (ts.map (·.2)) b t
      ·exact z
      ·exact absurd ⟨by omega,by omega⟩ hgo
     refine V9 (decide_eq_false (fun z=>by injection z with z;omega)) ?_
     refine⟨(by decide:0<=sizeLine),fun e1 he1=>?_⟩
     have m5:=zq he1 (o:=.tup [])
     have R5:=R4.same m5
     have s05:=s04.trans (SameD.of m5)
     have he15:(upd H4 e1 (.tup [])) e1=some (.tup (([]:List Int).map V.int)):=zj
     generalize upd H4 e1 (.tup [])=H5 at R5 s05 he15
     refine⟨_,rfl,((t+1:Nat):Int),rfl,by omega,by omega,?_⟩
     rw [show ((t+1:Nat):Int).toNat=t+1 by omega]
     refine yS (lo:=0) (n:=t+1) (fun i Z Hc=>∃ (rem m:Nat) (sa:Addr) (x:List Int) (v5 v6 v7 v8 v9 v10:Option V),Z=[some (.ref rd),some (.int rem),some (.int ((t+1:Nat):Int)),some (.int m),some (.ref sa),v5,v6,v7,v8,v9,v10]/\NthN (ts.map (·.2)) b kp (t+1) i x m rem/\Hc sa=some (.tup (x.map V.int))/\Wr (ts.map (·.2)) x/\Rdr P w Hc rd tl dd b ts/\SameD dd H Hc)
      ⟨k,0,e1,[],none,none,none,none,none,none,rfl,.inl ⟨rfl,rfl,rfl,hk,hrem⟩,he15,.inl rfl,R5,s05⟩ ?_ ?_
     ·rintro i Z Hc hi ⟨rem,m,sa,x,v5,v6,v7,v8,v9,v10,rfl,pN,hsa,hx,Rc,sc⟩
      have hi:i<t+1:=hi
      refine⟨_,rfl,_,_,rfl,rfl,_,rfl,_,_,rfl,rfl,?_⟩
      dsimp only
      have eleft:(((t+1:Nat):Int)-1-(0+(i:Int)))=((t+1-1-i:Nat):Int):=by omega
      rw [eleft]
      have hint:(if decide (V.int (0+(i:Int))=V.int 0)=true then (1:Int) else 0)=(((if i=0 then 1 else 0:Nat)):Int):=by
       by_cases z:i=0
       ·subst z;rfl
       ·rw [if_neg z,if_neg (by rw [decide_eq_false (fun q=>by injection q with q;omega)];exact Bool.false_ne_true)];rfl
      have hab:(if i=0 then 1 else 0)+(b-if i=0 then 1 else 0)=b:=by split<;>omega
      refine⟨_,rfl,_,rfl,_,rfl,rfl,.inr ⟨_,rfl,_,rfl,rd,_,_,.int b,rfl,rfl,SqL.of Rc.s.hd,rfl,_,rfl,?_⟩⟩
      refine⟨rd,tl,dd,b,ts,sa,x,(if i=0 then 1 else 0),b-(if i=0 then 1 else 0),t+1-1-i,by rw [hint,hab];rfl,by omega,by omega,Rc,hsa,hx,fun rl rows H6 hrl W6 s6 r6=>?_⟩
      have R6:=Rc.sameD s6 r6
      have hsa6:=s6 _ _ (Rc.tup hsa) hsa
      have s06:=sc.trans s6
      refine⟨rl,rfl,⟨_,SqL.of W6.li⟩,Vv (K:=K) (a:=rl) (xs:=rows.map fun r=>V.ref r.1) (fun j Z Hd=>∃ (cv:V) (rj:Nat) (w8 w9 w10:Option V),Z=[some (.ref rd),some (.int rj),some (.int ((t+1:Nat):Int)),some (.int m),some (.ref sa),some (.int (0+(i:Int))),some cv,some (.int ((t+1-1-i:Nat):Int)),w8,w9,w10]/\Same H6 Hd /\
       ((cv=.non/\rj+UT (ts.map (·.2)) b (t+1-1-i) x rows j=rem)\/∃ (q:Addr) (j':Nat) (r:Addr×Addr×Nat),cv=.ref q/\rows[j']?=some r/\Hd q=some (.tup [.int r.2.2,.ref r.2.1])/\rj+UT (ts.map (·.2)) b (t+1-1-i) x rows j'=rem/\rj<cnt (ts.map (·.2)) b (t+1-1-i) (zG (ts.map (·.2)) (x++[(r.2.2:Int)]))))
       ⟨.non,rem,_,_,_,rfl,Same.refl _,.inl ⟨rfl,by simp [UT]⟩⟩ (fun j Z Hd _ ⟨_,_,_,_,_,_,e,_⟩=>SqL.of (e _ _ W6.li)) ?_ ?_⟩
      ·rintro j u Z Hd hj ⟨cv,rj,w8,w9,w10,rfl,sd,hor⟩
       rw [List.getElem?_map] at hj
       obtain⟨r,hrj,e⟩:=Option.map_eq_some_iff.mp hj
       subst e
       have hrm:=List.mem_of_getElem? hrj
       refine⟨r.1,_,rfl,SqT.of (sd _ _ (W6.ro r hrm).1),rfl,_,_,rfl,_,_,rfl,_,_,rfl,rfl,?_⟩
       rcases hor with ⟨rfl,hrem⟩ | ⟨q,j',r',rfl,hr',hq,hs,hlt⟩
       ·refine⟨_,rfl,rfl,_,rfl,Jq (decide_eq_true rfl) ⟨_,rfl,_,rfl,_,_,rfl,rfl,_,rfl,?_⟩⟩
        by_cases hlt:rj<cnt (ts.map (·.2)) b (t+1-1-i) (zG (ts.map (·.2)) (x++[(r.2.2:Int)]))
        ·rw [decide_eq_true (show (rj:Int)<((cnt (ts.map (·.2)) b (t+1-1-i) (zG (ts.map (·.2)) (x++[(r.2.2:Int)])):Nat):Int) by omega)]
         refine ww ⟨_,rfl,_,rfl,(by show 2<=sizeLine;decide),fun q hq=>?_⟩
         have mq:=zq hq (o:=.tup [.int r.2.2,.ref r.2.1])
         exact⟨_,rfl,rfl,_,rfl,V9 (decide_eq_false (fun z=>by cases z)) ⟨.ref q,rj,some (.int r.2.2),some (.ref r.2.1),some (.int (cnt (ts.map (·.2)) b (t+1-1-i) (zG (ts.map (·.2)) (x++[(r.2.2:Int)])):Nat)),rfl,sd.trans mq,.inr ⟨q,j,r,rfl,hrj,zj,hrem,hlt⟩⟩⟩
        ·rw [decide_eq_false (show ¬ (rj:Int)<((cnt (ts.map (·.2)) b (t+1-1-i) (zG (ts.map (·.2)) (x++[(r.2.2:Int)])):Nat):Int) by omega)]
         refine yZ ⟨_,rfl,rfl,_,rfl,Jq (decide_eq_true rfl) ⟨_,rfl,_,rfl,_,_,rfl,rfl,?_⟩⟩
         refine⟨.non,rj-cnt (ts.map (·.2)) b (t+1-1-i) (zG (ts.map (·.2)) (x++[(r.2.2:Int)])),some (.int r.2.2),some (.ref r.2.1),some (.int (cnt (ts.map (·.2)) b (t+1-1-i) (zG (ts.map (·.2)) (x++[(r.2.2:Int)])):Nat)),?_,sd,.inl ⟨rfl,by rw [zb7 hrj];omega⟩⟩
         dsimp only
         rw [show (rj:Int)-((cnt (ts.map (·.2)) b (t+1-1-i) (zG (ts.map (·.2)) (x++[(r.2.2:Int)])):Nat):Int)=((rj-cnt (ts.map (·.2)) b (t+1-1-i) (zG (ts.map (·.2)) (x++[(r.2.2:Int)])):Nat):Int) by omega]
         rfl
       ·exact⟨_,rfl,rfl,_,rfl,V9 (decide_eq_false (fun z=>by cases z)) (yZ ⟨_,rfl,rfl,_,rfl,V9 (decide_eq_false (fun z=>by cases z)) ⟨.ref q,rj,some (.int r.2.2),some (.ref r.2.1),some (.int (cnt (ts.map (·.2)) b (t+1-1-i) (zG (ts.map (·.2)) (x++[(r.2.2:Int)])):Nat)),rfl,sd,.inr ⟨q,j',r',rfl,hr',hq,hs,hlt⟩⟩⟩)⟩
      ·rintro Z Hd ⟨cv,rj,w8,w9,w10,rfl,sd,hor⟩
       have htot:=pN.total b2 hi
       rw [List.length_map] at hor
       rcases hor with ⟨_,hrem⟩ | ⟨q,j',r,rfl,hr',hq,hs,hlt⟩
       ·rw [zd3 W6] at hrem
        omega
       have hrm:=List.mem_of_getElem? hr'
       have hcf:=zcH (by rw [<- W6.fg];exact List.mem_map.mpr ⟨r,hrm,rfl⟩:r.2.2∈xH (ts.map (·.2)) x (if i=0 then 1 else 0) (b-if i=0 then 1 else 0))
       rw [zeh W6 hr'] at hs
       have pN':=pN.next (c:=r.2.2) ne b2 hi hcf.1 (by omega) hcf.2.2 (by omega) (by rw [show rem-uA (ts.map (·.2)) b (t+1-1-i) x (if i=0 then 1 else 0) (r.2.2-if i=0 then 1 else 0)=rj by omega];exact hlt)
       rw [show rem-uA (ts.map (·.2)) b (t+1-1-i) x (if i=0 then 1 else 0) (r.2.2-if i=0 then 1 else 0)=rj by omega] at pN'
       have Rd:=R6.same sd
       refine⟨_,rfl,_,rfl,rd,_,_,.int b,rfl,rfl,SqL.of Rd.s.hd,rfl,_,_,rfl,rfl,.inr ⟨by omega,by omega⟩,_,rfl,q,_,_,.int r.2.2,rfl,rfl,SqT.of hq,rfl,_,_,rfl,rfl,_,rfl,q,_,_,.ref r.2.1,rfl,rfl,SqT.of hq,rfl,?_⟩
       refine⟨rj,m*b+r.2.2,r.2.1,zG (ts.map (·.2)) (x++[(r.2.2:Int)]),some (.int (0+(i:Int))),some (.ref q),some (.int ((t+1-1-i:Nat):Int)),w8,w9,w10,?_,pN',sd _ _ (W6.ro r hrm).2,t7 ne hcf.2.2,Rd,s06.trans (SameD.of sd)⟩
       dsimp only
       rw [show (m:Int)*(b:Int)+(r.2.2:Int)=((m*b+r.2.2:Nat):Int) by rw [Int.natCast_add,Int.natCast_mul]]
       rfl
     ·rintro Z Hc ⟨rem,m,sa,x,v5,v6,v7,v8,v9,v10,rfl,pN,hsa,hx,Rc,sc⟩
      obtain⟨hg,hm⟩:=pN.done (by omega)
      exact⟨_,rfl,kk (some m) Hc (.inl ⟨m,rfl,hg,hm⟩) sc Rc.d⟩
   ·intro Z H2 Q1 Q2 hq
    rintro⟨v0,e0',v1,e1,rd',tl',dd',b',ts',t',g1,g2,g3,g4⟩
    refine⟨v0,e0',v1,e1,rd',tl',dd',b',ts',t',g1,g2,g3,fun H3 a1 a2=>?_⟩
    obtain⟨i,j,e2,e3,k2,e4,q⟩:=g4 H3 a1 a2
    refine⟨i,j,e2,e3,k2,e4,?_⟩
    split at q
    ·rename_i hh
     rw [if_pos hh]
     obtain⟨v3,e5,i',j',e6,e7,k3,e8,q⟩:=q
     exact⟨v3,e5,i',j',e6,e7,k3,e8,hq _ _ q⟩
    ·rename_i hh
     rw [if_neg hh]
     obtain⟨k3,e8,q⟩:=q
     exact⟨k3,e8,hq _ _ q⟩
theorem zae {f f2 f3 f4:Addr} {fd fd2 fd3 fd4:FuncData} (D:Df K mg "_law_nth" jD ["reader","k"] f fd) (zK:Df K mg "_law_after" yg ["reader","stand","figure"] f2 fd2) (yz:Df K mg "_law_firsts" xj ["reader","stand","first","end","left"] f3 fd3) (yP:FnOk P w K mg base CX0 208 f3 fd3 ["reader","stand","first","end","left"] (xr P w 205))
  (yw:Df K mg "_law_long" xQ ["reader","length"] f4 fd4) (yM:FnOk P w K mg base CX0 209 f4 fd4 ["reader","length"] (wM P w 205)) (T:Blt mg) (U:Vf mg):FnOk P w K mg base CX0 210 f fd ["reader","k"] (jK P w 205):=by
 exact Jy (by decide) D zK yz yP yw yM T U
end
section
variable {P:Program} {w:World} {T0:Addr}
theorem LT.sameD {T dd:Addr} {H H':Hp} {ls:ZA} {b:Nat} (h:LT T H) (D:RdD P w H dd ls b) (s:SameD dd H H'):LT T H':=by
 obtain⟨kvs,d,_⟩:=D
 obtain⟨n1,n2⟩:=DN.lam d h
 rcases h with h | ⟨c,h1,h2⟩
 ·exact .inl (s _ _ n1 h)
 ·exact .inr ⟨c,s _ _ n1 h1,s _ _ (n2 c h2) h2⟩
theorem RdD.keep {dd:Addr} {H H':Hp} {ls:ZA} {b:Nat} (D:RdD P w H dd ls b) (e:∀ φ,H dd=some (.ext φ)->H' dd=some (.ext φ)) (s:∀ a xs,H a=some (.tup xs)->H' a=some (.tup xs)):RdD P w H' dd ls b:=by
 obtain⟨kvs,d,t⟩:=D
 have ed:H' dd=H dd:=by obtain⟨xs,q,_⟩:=d;rw [q];exact e _ q
 exact⟨kvs,d.stay ed s,t.same s⟩
theorem RdD.sameL {T dd:Addr} {H H':Hp} {ls:ZA} {b:Nat} (D:RdD P w H dd ls b) (lt:LT T H) (s:SameL T H H'):RdD P w H' dd ls b:=by
 obtain⟨kvs,d,t⟩:=id D
 exact D.keep (fun φ q=>s _ _ (DN.lam d lt).1.symm q) fun a xs q=>s _ _ (lt.tup q) q
structure Now (P:Program) (w:World) (T0 s p:Addr) (ds:List Int) (r:Addr) (b:Nat) (bl:Addr) (zs:ZB) (r' bl':Addr) (zs':ZB) (rd tl dd:Addr) (ts:ZB) (H:Hp):Prop where
 st:Sto2 H s p ds
 lt:LT T0 H
 R:RuleAt (aw [s] H) r b bl zs
 R':RuleAt (aw [s] H) r' b bl' zs'
 S:RdS (aw [s] H) rd tl dd b ts
 D:RdD P w H dd (ts.map (·.2)) b
section
variable {s p:Addr} {ds:List Int} {r:Addr} {b:Nat} {bl:Addr} {zs:ZB} {r' bl':Addr} {zs':ZB} {rd tl dd:Addr} {ts:ZB} {H H':Hp}
theorem Now.go (N:Now P w T0 s p ds r b bl zs r' bl' zs' rd tl dd ts H) (st:Sto2 H' s p ds) (lt:LT T0 H') (D:RdD P w H' dd (ts.map (·.2)) b) (k:∀ c o,c≠s->c≠T0->c≠dd->H c=some o->H' c=some o):Now P w T0 s p ds r b bl zs r' bl' zs' rd tl dd ts H':=by
 have gl:∀ {c xs},aw [s] H c=some (.lst xs)->aw [s] H' c=some (.lst xs):=fun {c xs} e=>by
  have hi:c∉[s]:=fun z=>by rw [Ue z] at e;cases e
  rw [yJ hi] at e ⊢
  exact k c _ (by simpa using hi) (N.lt.lst e) (N.D.ne e fun _ z=>nomatch z) e
 have gt:∀ {c xs},aw [s] H c=some (.tup xs)->aw [s] H' c=some (.tup xs):=fun {c xs} e=>by
  have hi:c∉[s]:=fun z=>by rw [Ue z] at e;cases e
  rw [yJ hi] at e ⊢
  exact k c _ (by simpa using hi) (N.lt.tup e) (N.D.ne e fun _ z=>nomatch z) e
 exact⟨st,lt,⟨gt N.R.tu,gl N.R.li,fun z hz=>gl (N.R.st z hz)⟩,⟨gt N.R'.tu,gl N.R'.li,fun z hz=>gl (N.R'.st z hz)⟩,⟨gl N.S.hd,gl N.S.li,fun z hz=>gt (N.S.st z hz)⟩,D⟩
theorem Sto2.tupne {a:Addr} {xs:List V} (S:Sto2 H s p ds) (e:H a=some (.tup xs)):a≠s:=fun z=>by obtain⟨i,q⟩:=S.st;rw [z,q] at e;cases e
theorem Now.fr (N:Now P w T0 s p ds r b bl zs r' bl' zs' rd tl dd ts H) (F:Fr T0 s p ds H H'):Now P w T0 s p ds r b bl zs r' bl' zs' rd tl dd ts H':=by
 obtain⟨kvs,d,t⟩:=N.D
 have nds:dd≠s:=fun z=>by obtain⟨xs,q,_⟩:=d;obtain⟨i,e⟩:=N.st.st;rw [z,e] at q;cases q
 exact N.go F.st F.lt (N.D.keep (fun φ q=>F.get nds (DN.lam d N.lt).1.symm q) fun a xs q=>F.get (N.st.tupne q) (N.lt.tup q) q) fun c o h1 h2 _ e=>F.get h1 h2 e
theorem Now.sameL (N:Now P w T0 s p ds r b bl zs r' bl' zs' rd tl dd ts H) (m:SameL T0 H H') (lt:LT T0 H'):Now P w T0 s p ds r b bl zs r' bl' zs' rd tl dd ts H':=N.fr ((Fr.refl N.st N.lt).sameL m lt)
theorem Now.same (N:Now P w T0 s p ds r b bl zs r' bl' zs' rd tl dd ts H) (m:Same H H'):Now P w T0 s p ds r b bl zs r' bl' zs' rd tl dd ts H':=N.sameL (SameL.of m) (N.lt.same m)
theorem Now.sameD (N:Now P w T0 s p ds r b bl zs r' bl' zs' rd tl dd ts H) (m:SameD dd H H') (D:RdD P w H' dd (ts.map (·.2)) b):Now P w T0 s p ds r b bl zs r' bl' zs' rd tl dd ts H':=by
 have nl:∀ {c xs},H c=some (.lst xs)->H' c=some (.lst xs):=fun {c xs} e=>m _ _ (N.D.ne e fun _ z=>nomatch z) e
 obtain⟨i,e⟩:=N.st.st
 exact N.go ⟨⟨i,nl e⟩,nl N.st.dr,N.st.ne,N.st.len,N.st.nn⟩ (N.lt.sameD N.D m) D fun c o _ _ h e=>m c o h e
theorem Now.rdr (N:Now P w T0 s p ds r b bl zs r' bl' zs' rd tl dd ts H) (g:zX b (ts.map (·.2))):Rdr P w H rd tl dd b ts:=⟨N.S.same (yG _ _),N.D,g⟩
end
end
section
variable {P:Program} {w:World} {K:W.Frag} {mg:Str->Option Value} {base:Heap}
def Zx:Sp:=fun vs H Q _=>∃ (r:Addr) (b:Nat) (bl:Addr) (zs:ZB),vs=[.ref r]/\RuleAt H r b bl zs/\zs.length<=100 /\
 ∀ (r' bl':Addr) (zs':ZB) (H':Hp),Same H H'->RuleAt H' r' b bl' zs'->zs'.map (·.2)=zs.map (·.2)->H bl'=none->H r'=none->(∀ z∈zs',H z.1=none/\z.1≠bl')->Q (.ref r') H'
theorem Jr:zE ["rule"] ["rule"] (zu qI):=⟨rfl,rfl,rfl,by decide +kernel,rfl,by decide +kernel,by decide +kernel⟩
theorem Wh {f:Addr} {fd:FuncData} (D:Df K mg "_law_copy" qI ["rule"] f fd) (T:Blt mg):FnOk P w K mg base CX0 1 f fd ["rule"] Zx:=by
 refine D.fn.ok Jr (fun vs H Q E h=>?_) (fun cdv A outer s H vs Q E hr h=>?_)
 ·obtain⟨r,b,bl,zs,rfl,_⟩:=h;rfl
 ·obtain⟨r,b,bl,zs,rfl,R,hl,kk⟩:=h
  refine⟨_,(zr (zH (wz (zf (zP (uH K) (pv 0) zp (fun _ _=>rfl)) (zf (wj (show CScope (zu qI) _ "stretch" ["rule"] [] [] from ⟨rfl,by decide +kernel,by decide +kernel,rfl,by decide +kernel,rfl,by decide +kernel,by decide +kernel⟩) rfl (YX K (zP (uH K) (pv 0) zp (fun _ _=>rfl))) (fun _ _ _ _=>wg) (fun _ _ _ _=>(tM (zaB K) (by rfl) T.n_list boot_list (zf (pv 0) zg)))) zg))))),?_⟩
  refine⟨_,rfl,r,_,_,V.int b,rfl,rfl,SqT.of R.tu,rfl,?_⟩
  refine⟨_,rfl,r,_,_,V.ref bl,rfl,rfl,SqT.of R.tu,rfl,bl,rfl,⟨_,SqL.of R.li⟩,xJ (K:=K) (a:=bl) (xs:=zs.map fun z=>V.ref z.1) (fun i ys H4=>Same H H4/\∃ ws:ZB,ys=ws.map (fun z=>V.ref z.1)/\ws.length=i/\ws.map (·.2)=(zs.take i).map (·.2)/\∀ z∈ws,H z.1=none/\H4 z.1=some (.lst (z.2.map V.int))) ⟨Same.refl _,[],rfl,rfl,rfl,by simp⟩ (fun i ys H4 _ ⟨e,_⟩=>SqL.of (e _ _ R.li)) ?_ ?_⟩
  ·rintro j x ys H4 hx ⟨s4,ws,rfl,hwl,hw2,hws⟩
   rw [List.getElem?_map] at hx
   obtain⟨z,hzj,e⟩:=Option.map_eq_some_iff.mp hx
   subst e
   have hzm:=List.mem_of_getElem? hzj
   have hj:j<zs.length:=(List.getElem?_eq_some_iff.mp hzj).1
   refine⟨by rw [List.length_map,hwl];exact Nat.lt_of_lt_of_le (show j<101 by omega) (by decide),?_⟩
   unfold Yo
   dsimp only
   rw [if_pos rfl]
   refine⟨_,rfl,z.1,_,rfl,.inl (SqL.of (s4 _ _ (R.st z hzm))),fun p hp=>⟨s4.trans (zq hp),ws++[(p,z.2)],by simp,by simp [hwl],?_,fun y hy=>?_⟩⟩
   ·rw [List.map_append,hw2,List.take_succ,hzj];simp
   ·rcases List.mem_append.mp hy with hy | hy
    ·exact⟨(hws y hy).1,zq hp _ _ (hws y hy).2⟩
    ·have e:y=(p,z.2):=by simpa using hy
     subst e
     exact⟨s4.free hp,zj⟩
  ·rintro ys H4 ⟨s4,ws,rfl,hwl,hw2,hws⟩ bl' hbl'
   refine⟨(by show 2<=sizeLine;decide),fun r' hr'=>?_⟩
   have s5:=zq hbl' (o:=.lst (ws.map fun z=>V.ref z.1))
   have s6:=zq hr' (o:=.tup [.int b,.ref bl'])
   refine kk r' bl' ws _ (s4.trans (s5.trans s6)) ⟨zj,s6 _ _ zj,fun z hz=>s6 _ _ (s5 _ _ (hws z hz).2)⟩ ?_ (s4.free hbl') (s4.free (s5.free hr')) fun z hz=>⟨(hws z hz).1,zF (hws z hz).2 hbl'⟩
   rw [hw2,List.length_map,List.take_length]
end
theorem FnOk.calm {P:Program} {w:World} {K:W.Frag} {mg:Str->Option Value} {base:Heap} {k:Nat} {f:Addr} {fd:FuncData} {ps:List Str} {sp:Sp} (F:FnOk P w K mg base (CX1 P w) k f fd ps sp):FnOk P w K mg base CX0 k f fd ps (fun vs H Q _=>sp vs H Q fun _ _ _=>False) :=
 ⟨fun vs H Q E h=>F.len vs H Q _ h,fun A outer s H args us vs Q E hr e0 hb hv hs=>codeAny_mono (F.run A outer s H args us vs Q (fun _ _ _=>False) hr e0 hb hv hs) fun r s' q=>by
  cases r with
  | error e=>obtain⟨_,_,_,_,_,_,_,_,_,_,_,hE⟩:=q;exact hE.elim
  | ok fl=>cases fl<;>exact q⟩
section
variable {P:Program} {w:World} {K:W.Frag} {mg:Str->Option Value} {base:Heap} {T0:Addr}
def Z1 (P:Program) (w:World):Sp:=fun vs H Q _=>∃ (rd tl dd:Addr) (b:Nat) (ts:ZB),vs=[.ref rd]/\Rdr P w H rd tl dd b ts/\∀ H',SameD dd H H'->RdD P w H' dd (ts.map (·.2)) b->Q (.int (yI (ts.map (·.2)) b 60:Nat)) H'
theorem X7:zE ["reader","nought"] ["reader"] (zu qH):=⟨rfl,rfl,rfl,by decide +kernel,rfl,by decide +kernel,by decide +kernel⟩
theorem Ju {f f2 f4:Addr} {fd fd2 fd4:FuncData} (D:Df K mg "_law_most" qH ["reader"] f fd) (zK:Df K mg "_law_after" yg ["reader","stand","figure"] f2 fd2) (yw:Df K mg "_law_long" xQ ["reader","length"] f4 fd4) (yM:FnOk P w K mg base CX0 209 f4 fd4 ["reader","length"] (wM P w 205)) (T:Blt mg) (U:Vf mg):FnOk P w K mg base CX0 210 f fd ["reader"] (Z1 P w):=by
 have wF:FnOk P w K mg base CX0 1 f2 fd2 ["reader","stand","figure"] (wR P w):=vV zK T
 refine D.fn.ok X7 (fun vs H Q E h=>?_) (fun cdv A outer s H vs Q E hr h=>?_)
 ·obtain⟨rd,tl,dd,b,ts,rfl,_⟩:=h;rfl
 ·obtain⟨rd,tl,dd,b,ts,rfl,R,kk⟩:=h
  have b2:=R.g.b2
  have ne:∀ st∈ts.map (·.2),st≠[]:=fun st h=>(R.g.st st h).ne
  refine⟨_,(zm (zB (i:=1) X7.nd rfl (Or.inl rfl) (tM Wt (by rfl) T.n_int boot_int (zf (xx X3 (zJ zK wF (hr.mono (by decide)) (zf (pv 0) (zf (wz zg) (zf zp zg)))) xq (zL _)) zg)))
   (zr (zH (zy yF (pv 1) (zz (zdX K rfl) (by rfl) U.n_sum boot_sum (zf (wj (show CScope (zu qH) _ "length" ["reader","nought"] ["reader"] [0] from ⟨rfl,by decide +kernel,by decide +kernel,rfl,by decide +kernel,rfl,by decide +kernel,by decide +kernel⟩) rfl (Ws rfl T.n_range (zf zp (zf zp zg))) (fun _ _ _ _=>wg) (fun _ _ _ _=>(zJ yw yM (hr.mono (by decide)) (zf (pv 1) (zf (pv 0) zg))))) zg)))))),?_⟩
  refine⟨_,rfl,(by decide:0<=sizeLine),fun e0 he0=>?_⟩
  have m2:=zq he0 (o:=.tup [])
  have R2:=R.same m2
  refine⟨rd,tl,dd,b,ts,e0,[],0,rfl,R2,zj,.inl rfl,by omega,fun v H3 s3 r3 av=>?_⟩
  have R3:=R2.sameD s3 r3
  have s03:SameD dd H H3:=(SameD.of m2).trans s3
  have ev:decide (v=V.non)=!lacks (ts.map (·.2)) [0]:=by
   cases ha:aft (ts.map (·.2)) [] (0:Nat) with
   | none =>
    rw [ha] at av
    obtain rfl:v=.non:=av
    rw [decide_eq_true rfl,show lacks (ts.map (·.2)) [0]=false from X8 ha];rfl
   | some y =>
    rw [ha] at av
    obtain⟨c,rfl,_⟩:=av
    rw [decide_eq_false (fun z=>by cases z),show lacks (ts.map (·.2)) [0]=true from (XX ne ha).1];rfl
  refine⟨rfl,.inr ⟨_,rfl,?_⟩⟩
  rw [ev,Bool.not_not]
  refine⟨_,rfl,1,61,rfl,by decide,?_⟩
  rw [show ((61:Int)-1).toNat=60 from rfl]
  refine ul (lo:=1) (n:=60) (fun i ys Hc=>ys=((List.range i).map fun t=>((yQ (ts.map (·.2)) b t:Nat):Int)).map V.int/\Rdr P w Hc rd tl dd b ts/\SameD dd H3 Hc) ⟨rfl,R3,SameD.of (Same.refl _)⟩ ?_ ?_
  ·rintro i ys Hc hi ⟨rfl,Rc,sc⟩
   refine⟨by rw [List.length_map,List.length_map,List.length_range];exact Nat.lt_of_le_of_lt (show i<=1000 by omega) (by decide),?_⟩
   unfold Yo
   dsimp only
   rw [if_pos rfl]
   refine⟨_,rfl,_,rfl,rd,tl,dd,b,ts,i,by rw [show (1:Int)+(i:Int)=((i+1:Nat):Int) by omega];rfl,by omega,Rc,fun Hd sd rdd=>⟨?_,Rc.sameD sd rdd,sc.trans sd⟩⟩
   rw [List.range_succ,List.map_append,List.map_append];rfl
  rintro ys Hc ⟨rfl,Rc,sc⟩ Dd hD
  have mD:=zq hD (o:=.lst (((List.range 60).map fun t=>((yQ (ts.map (·.2)) b t:Nat):Int)).map V.int))
  refine⟨Dd,_,rfl,SqL.of zj,_,_,rfl,rfl,?_⟩
  have et:(if lacks (ts.map (·.2)) [0]=true then (1:Int) else 0)+((List.range 60).map fun t=>((yQ (ts.map (·.2)) b t:Nat):Int)).sum=((yI (ts.map (·.2)) b 60:Nat):Int):=by
   rw [Uj,<- Uy (ts.map (·.2)) b2 60,Int.natCast_add]
   split<;>rfl
  dsimp only
  rw [et]
  exact kk _ ((s03.trans sc).trans (SameD.of mD)) (Rc.same mD).d
end
structure zbk (mg:Str->Option Value) (qA qB qE qS qV xA xB xC xD xE xI xL xS:Addr):Prop where
 qAb:mg "NoBase" = some (.ref qA)
 qAf:mg "NoNumber" = some (.ref qB)
 qAc:mg "NoFigures" = some (.ref qE)
 qAh:mg "NoRule" = some (.ref qS)
 qAj:mg "NoStand" = some (.ref qV)
 qAd:mg "NoGood" = some (.ref xA)
 qAa:mg "Endless" = some (.ref xB)
 qAi:mg "NoRules" = some (.ref xC)
 qBa:mg "NoStretch" = some (.ref xD)
 qBc:mg "TooMany" = some (.ref xE)
 qBb:mg "NoText" = some (.ref xI)
 qAe:mg "NoName" = some (.ref xL)
 qAg:mg "NoRow" = some (.ref xS)
structure zdM (K:W.Frag) (C qA qB qE qS qV xA xB xC xD xE xI xL xS:Addr) (k:Nat):Prop where
 i:Jv K C
 v:W.kitOne K (.ref C) (.type "ValueError")=some true
 k0:W.kitOne K (.ref C) (.ref qA)=some (decide (0=k))
 k1:W.kitOne K (.ref C) (.ref qB)=some (decide (1=k))
 k2:W.kitOne K (.ref C) (.ref qE)=some (decide (2=k))
 k3:W.kitOne K (.ref C) (.ref qS)=some (decide (3=k))
 k4:W.kitOne K (.ref C) (.ref qV)=some (decide (4=k))
 k5:W.kitOne K (.ref C) (.ref xA)=some (decide (5=k))
 k6:W.kitOne K (.ref C) (.ref xB)=some (decide (6=k))
 k7:W.kitOne K (.ref C) (.ref xC)=some (decide (7=k))
 k8:W.kitOne K (.ref C) (.ref xD)=some (decide (8=k))
 k9:W.kitOne K (.ref C) (.ref xE)=some (decide (9=k))
 k10:W.kitOne K (.ref C) (.ref xI)=some (decide (10=k))
 k11:W.kitOne K (.ref C) (.ref xL)=some (decide (11=k))
 k12:W.kitOne K (.ref C) (.ref xS)=some (decide (12=k))
theorem Vh:bootBuiltins "ValueError" = some (.type "ValueError"):=by decide +kernel
theorem Q7 {K:W.Frag} {H:Hp}:∀ {bs:List Bool},TrsAt K H (bs.map Tr.bl) (bs.map V.bl)
 | []=>by rw [List.map_nil,List.map_nil,TrsAt]
 | b :: bs=>by rw [List.map_cons,List.map_cons,TrsAt];exact⟨_,_,rfl,by rw [TrAt],Q7⟩
theorem VV:∀ bs:List Bool,qO (bs.map Tr.bl) (bs.map Tr.bl)=true
 | []=>by rw [List.map_nil,qO]
 | b :: bs=>by rw [List.map_cons,qO,VV bs,teq];simp
theorem W5:∀ bs:List Bool,xM (bs.map Tr.bl)=0
 | []=>by rw [List.map_nil,xM]
 | b :: bs=>by rw [List.map_cons,xM,W5 bs];rfl
def zhh (k j:Nat):Prop:=(k=3/\j=0)\/(k=1/\j=1)\/(k=5/\j=2)\/(k=2/\j=3)\/(k=9/\j=4)
section
variable {P:Program} {w:World} {K:W.Frag} {mg:Str->Option Value} {base:Heap}
def jY (K:W.Frag) (qA qB qE qS qV xA xB xC xD xE xI xL xS:Addr):Sp:=fun vs H Q _=>∃ (e C:Addr) (k j:Nat),vs=[.ref e,.int j]/\H e=some (Vg e C)/\zdM K C qA qB qE qS qV xA xB xC xD xE xI xL xS k/\zhh k j/\∀ H',Same H H'->Q (.bl true) H'
theorem xW:zE ["caught","due","kinds"] ["caught","due"] (zu tG):=⟨rfl,rfl,rfl,by decide +kernel,rfl,by decide +kernel,by decide +kernel⟩
set_option maxHeartbeats 0 in
theorem Y8 {qA qB qE qS qV xA xB xC xD xE xI xL xS:Addr} {f:Addr} {fd:FuncData} (D:Df K mg "_law_kinds" tG ["caught","due"] f fd) (XN:zbk mg qA qB qE qS qV xA xB xC xD xE xI xL xS) (qDb:mg "ValueError" = none) (T:Blt mg):FnOk P w K mg base CX0 1 f fd ["caught","due"] (jY K qA qB qE qS qV xA xB xC xD xE xI xL xS):=by
 obtain⟨qAb,qAf,qAc,qAh,qAj,qAd,qAa,qAi,qBa,qBc,qBb,qAe,qAg⟩:=XN
 refine D.fn.ok xW (fun vs H Q E h=>?_) (fun cdv A outer s H vs Q E hr h=>?_)
 ·obtain⟨e,C,k,j,rfl,_⟩:=h;rfl
 ·obtain⟨e,C,k,jj,rfl,he,Kd,hk,kk⟩:=h
  have HU:=zaE hr
  refine⟨_,(zm (zB (i:=2) xW.nd rfl (Or.inl rfl) (zU (zf (zz (uU K) (by rfl) T.n_isinstance boot_isinstance (zf (pv 0) (zf (xF (v:=.ref qS) rfl qAh rfl) zg))) (zf (zz (uU K) (by rfl) T.n_isinstance boot_isinstance (zf (pv 0) (zf (xF (v:=.ref qB) rfl qAf rfl) zg))) (zf (zz (uU K) (by rfl) T.n_isinstance boot_isinstance (zf (pv 0) (zf (xF (v:=.ref xA) rfl qAd rfl) zg))) zg)))))
   (zm (zB (i:=2) xW.nd rfl (Or.inl rfl) (zy jn (pv 2) (zU (zf (zz (uU K) (by rfl) T.n_isinstance boot_isinstance (zf (pv 0) (zf (xF (v:=.ref qE) rfl qAc rfl) zg))) (zf (zz (uU K) (by rfl) T.n_isinstance boot_isinstance (zf (pv 0) (zf (xF (v:=.ref xE) rfl qBc rfl) zg))) zg)))))
   (zm (zB (i:=2) xW.nd rfl (Or.inl rfl) (zy jn (pv 2) (zU (zf (zz (uU K) (by rfl) T.n_isinstance boot_isinstance (zf (pv 0) (zf (xF (v:=.ref xB) rfl qAa rfl) zg))) (zf (zz (uU K) (by rfl) T.n_isinstance boot_isinstance (zf (pv 0) (zf (xF (v:=.ref qA) rfl qAb rfl) zg))) zg)))))
   (zm (zB (i:=2) xW.nd rfl (Or.inl rfl) (zy jn (pv 2) (zU (zf (zz (uU K) (by rfl) T.n_isinstance boot_isinstance (zf (pv 0) (zf (xF (v:=.ref xC) rfl qAi rfl) zg))) (zf (zz (uU K) (by rfl) T.n_isinstance boot_isinstance (zf (pv 0) (zf (xF (v:=.ref qV) rfl qAj rfl) zg))) zg)))))
   (zm (zB (i:=2) xW.nd rfl (Or.inl rfl) (zy jn (pv 2) (zU (zf (zz (uU K) (by rfl) T.n_isinstance boot_isinstance (zf (pv 0) (zf (xF (v:=.ref xD) rfl qBa rfl) zg))) (zf (zz (uU K) (by rfl) T.n_isinstance boot_isinstance (zf (pv 0) (zf (xF (v:=.ref xI) rfl qBb rfl) zg))) zg)))))
   (zm (zB (i:=2) xW.nd rfl (Or.inl rfl) (zy jn (pv 2) (zU (zf (zz (uU K) (by rfl) T.n_isinstance boot_isinstance (zf (pv 0) (zf (xF (v:=.ref xL) rfl qAe rfl) zg))) (zf (zz (uU K) (by rfl) T.n_isinstance boot_isinstance (zf (pv 0) (zf (xF (v:=.ref xS) rfl qAg rfl) zg))) zg)))))
   (zm (yH (PW.pt (Ut (zN Z4 (pv 0) xq (zL _)) (Xg (uX (wY (zz (uU K) (by rfl) T.n_isinstance boot_isinstance (zf (pv 0) (zf (jR (v:=.ty "ValueError") rfl qDb Vh rfl) zg))))))))
    (zr (zH W2))
    zO)
   (zr (zH (xx (zbV K HU) (pv 2) (wj (show CScope (zu tG) _ "k" ["caught","due","kinds"] ["due"] [1] from ⟨rfl,by decide +kernel,by decide +kernel,rfl,by decide +kernel,rfl,by decide +kernel,by decide +kernel⟩) rfl (yl rfl T.n_range (zf zp zg)) (fun _ _ _ _=>wg) (fun _ _ _ _=>(xx Ze (pv 0) (pv 1) (zL _)))) (zL _))))))))))),?_⟩
  show Ja _ _ _ _ _
  refine Tp.asg2 (w:=idV) (Γ:=[some (tyX e C),none,none]) (T1:=Za [V.bl (decide (3=k)),V.bl (decide (1=k)),V.bl (decide (5=k))]) (Tp.lstE (TpE.cons (Tp.isiC rfl Kd.i Kd.k3) (TpE.cons (Tp.isiC rfl Kd.i Kd.k1) (TpE.cons (Tp.isiC rfl Kd.i Kd.k5) TpE.nil)))) trivial (Fits.cons ⟨rfl,he⟩ (Fits.skip (Fits.skip Fits.nil))) fun v1 H1 _ s1 t1=>?_
  have m1:Same H H1:=s1
  show Ja _ _ _ _ _
  refine Tp.asg2 (w:=idV) (Γ:=[some (tyX e C),none,some (Za [V.bl (decide (3=k)),V.bl (decide (1=k)),V.bl (decide (5=k))])]) (T1:=Za ([V.bl (decide (3=k)),V.bl (decide (1=k)),V.bl (decide (5=k))]++[V.bl (decide (2=k)),V.bl (decide (9=k))])) (Tp.catE (Tp.var rfl) (Tp.lstE (TpE.cons (Tp.isiC rfl Kd.i Kd.k2) (TpE.cons (Tp.isiC rfl Kd.i Kd.k9) TpE.nil)))) trivial (Fits.cons ⟨rfl,m1 _ _ he⟩ (Fits.skip (Fits.cons t1 Fits.nil))) fun v2 H2 _ s2 t2=>?_
  have t2:(Za [V.bl (decide (3=k)),V.bl (decide (1=k)),V.bl (decide (5=k)),V.bl (decide (2=k)),V.bl (decide (9=k))]).p H2 v2:=t2
  have m2:Same H H2:=m1.trans s2
  show Ja _ _ _ _ _
  refine Tp.asg2 (w:=idV) (Γ:=[some (tyX e C),none,some (Za [V.bl (decide (3=k)),V.bl (decide (1=k)),V.bl (decide (5=k)),V.bl (decide (2=k)),V.bl (decide (9=k))])]) (T1:=Za ([V.bl (decide (3=k)),V.bl (decide (1=k)),V.bl (decide (5=k)),V.bl (decide (2=k)),V.bl (decide (9=k))]++[V.bl (decide (6=k)),V.bl (decide (0=k))])) (Tp.catE (Tp.var rfl) (Tp.lstE (TpE.cons (Tp.isiC rfl Kd.i Kd.k6) (TpE.cons (Tp.isiC rfl Kd.i Kd.k0) TpE.nil)))) trivial (Fits.cons ⟨rfl,m2 _ _ he⟩ (Fits.skip (Fits.cons t2 Fits.nil))) fun v3 H3 _ s3 t3=>?_
  have t3:(Za [V.bl (decide (3=k)),V.bl (decide (1=k)),V.bl (decide (5=k)),V.bl (decide (2=k)),V.bl (decide (9=k)),V.bl (decide (6=k)),V.bl (decide (0=k))]).p H3 v3:=t3
  have m3:Same H H3:=m2.trans s3
  show Ja _ _ _ _ _
  refine Tp.asg2 (w:=idV) (Γ:=[some (tyX e C),none,some (Za [V.bl (decide (3=k)),V.bl (decide (1=k)),V.bl (decide (5=k)),V.bl (decide (2=k)),V.bl (decide (9=k)),V.bl (decide (6=k)),V.bl (decide (0=k))])]) (T1:=Za ([V.bl (decide (3=k)),V.bl (decide (1=k)),V.bl (decide (5=k)),V.bl (decide (2=k)),V.bl (decide (9=k)),V.bl (decide (6=k)),V.bl (decide (0=k))]++[V.bl (decide (7=k)),V.bl (decide (4=k))])) (Tp.catE (Tp.var rfl) (Tp.lstE (TpE.cons (Tp.isiC rfl Kd.i Kd.k7) (TpE.cons (Tp.isiC rfl Kd.i Kd.k4) TpE.nil)))) trivial (Fits.cons ⟨rfl,m3 _ _ he⟩ (Fits.skip (Fits.cons t3 Fits.nil))) fun v4 H4 _ s4 t4=>?_
  have t4:(Za [V.bl (decide (3=k)),V.bl (decide (1=k)),V.bl (decide (5=k)),V.bl (decide (2=k)),V.bl (decide (9=k)),V.bl (decide (6=k)),V.bl (decide (0=k)),V.bl (decide (7=k)),V.bl (decide (4=k))]).p H4 v4:=t4
  have m4:Same H H4:=m3.trans s4
  show Ja _ _ _ _ _
  refine Tp.asg2 (w:=idV) (Γ:=[some (tyX e C),none,some (Za [V.bl (decide (3=k)),V.bl (decide (1=k)),V.bl (decide (5=k)),V.bl (decide (2=k)),V.bl (decide (9=k)),V.bl (decide (6=k)),V.bl (decide (0=k)),V.bl (decide (7=k)),V.bl (decide (4=k))])]) (T1:=Za ([V.bl (decide (3=k)),V.bl (decide (1=k)),V.bl (decide (5=k)),V.bl (decide (2=k)),V.bl (decide (9=k)),V.bl (decide (6=k)),V.bl (decide (0=k)),V.bl (decide (7=k)),V.bl (decide (4=k))]++[V.bl (decide (8=k)),V.bl (decide (10=k))])) (Tp.catE (Tp.var rfl) (Tp.lstE (TpE.cons (Tp.isiC rfl Kd.i Kd.k8) (TpE.cons (Tp.isiC rfl Kd.i Kd.k10) TpE.nil)))) trivial (Fits.cons ⟨rfl,m4 _ _ he⟩ (Fits.skip (Fits.cons t4 Fits.nil))) fun v5 H5 _ s5 t5=>?_
  have t5:(Za [V.bl (decide (3=k)),V.bl (decide (1=k)),V.bl (decide (5=k)),V.bl (decide (2=k)),V.bl (decide (9=k)),V.bl (decide (6=k)),V.bl (decide (0=k)),V.bl (decide (7=k)),V.bl (decide (4=k)),V.bl (decide (8=k)),V.bl (decide (10=k))]).p H5 v5:=t5
  have m5:Same H H5:=m4.trans s5
  show Ja _ _ _ _ _
  refine Tp.asg2 (w:=idV) (Γ:=[some (tyX e C),none,some (Za [V.bl (decide (3=k)),V.bl (decide (1=k)),V.bl (decide (5=k)),V.bl (decide (2=k)),V.bl (decide (9=k)),V.bl (decide (6=k)),V.bl (decide (0=k)),V.bl (decide (7=k)),V.bl (decide (4=k)),V.bl (decide (8=k)),V.bl (decide (10=k))])]) (T1:=Za ([V.bl (decide (3=k)),V.bl (decide (1=k)),V.bl (decide (5=k)),V.bl (decide (2=k)),V.bl (decide (9=k)),V.bl (decide (6=k)),V.bl (decide (0=k)),V.bl (decide (7=k)),V.bl (decide (4=k)),V.bl (decide (8=k)),V.bl (decide (10=k))]++[V.bl (decide (11=k)),V.bl (decide (12=k))])) (Tp.catE (Tp.var rfl) (Tp.lstE (TpE.cons (Tp.isiC rfl Kd.i Kd.k11) (TpE.cons (Tp.isiC rfl Kd.i Kd.k12) TpE.nil)))) trivial (Fits.cons ⟨rfl,m5 _ _ he⟩ (Fits.skip (Fits.cons t5 Fits.nil))) fun v6 H6 _ s6 t6=>?_
  have t6:(Za [V.bl (decide (3=k)),V.bl (decide (1=k)),V.bl (decide (5=k)),V.bl (decide (2=k)),V.bl (decide (9=k)),V.bl (decide (6=k)),V.bl (decide (0=k)),V.bl (decide (7=k)),V.bl (decide (4=k)),V.bl (decide (8=k)),V.bl (decide (10=k)),V.bl (decide (11=k)),V.bl (decide (12=k))]).p H6 v6:=t6
  have m6:Same H H6:=m5.trans s6
  obtain⟨l5,rfl,h5⟩:=t6
  have e5:[V.bl (decide (3=k)),V.bl (decide (1=k)),V.bl (decide (5=k)),V.bl (decide (2=k)),V.bl (decide (9=k)),V.bl (decide (6=k)),V.bl (decide (0=k)),V.bl (decide (7=k)),V.bl (decide (4=k)),V.bl (decide (8=k)),V.bl (decide (10=k)),V.bl (decide (11=k)),V.bl (decide (12=k))]=((List.range 13).map fun j=>decide (j=jj)).map V.bl:=by
   rcases hk with ⟨rfl,rfl⟩ | ⟨rfl,rfl⟩ | ⟨rfl,rfl⟩ | ⟨rfl,rfl⟩ | ⟨rfl,rfl⟩<;>rfl
  rw [e5] at h5
  have h5:H6 l5=some (.lst (((List.range 13).map fun j=>decide (j=jj)).map V.bl)):=h5
  refine⟨_,rfl,rfl,_,rfl,V9 (decide_eq_false (fun z=>by cases z)) ?_⟩
  refine⟨_,rfl,e,C,_,_,_,rfl,rfl,(fun _ h=>h),m6 _ _ he,Kd.i,Kd.v,_,rfl,yZ ?_⟩
  refine⟨_,rfl,13,rfl,by decide,by decide,ul (lo:=0) (n:=(13:Int).toNat) (fun i ys Hq=>ys=((List.range i).map fun j=>decide (j=jj)).map V.bl/\Hq=H6) ⟨rfl,rfl⟩ ?_ ?_⟩
  ·rintro i ys Hq hi ⟨rfl,rfl⟩
   have hi:i<13:=hi
   refine⟨by rw [List.length_map,List.length_map,List.length_range];exact Nat.lt_of_lt_of_le hi (by decide),?_⟩
   unfold Yo
   dsimp only
   rw [if_pos rfl]
   refine⟨_,rfl,_,rfl,rfl,?_,rfl⟩
   rw [List.range_succ,List.map_append,List.map_append]
   have e:decide (V.int (0+(i:Int))=V.int (jj:Int))=decide (i=jj):=decide_eq_decide.mpr ⟨fun z=>by injection z with z;omega,fun z=>by rw [z,Int.zero_add]⟩
   rw [e];rfl
  ·rintro ys Hq ⟨rfl,rfl⟩ Dd hD
   have mD:=zq hD (o:=.lst (((List.range (13:Int).toNat).map fun j=>decide (j=jj)).map V.bl))
   refine⟨.lst (((List.range 13).map fun j=>decide (j=jj)).map Tr.bl),.lst (((List.range 13).map fun j=>decide (j=jj)).map Tr.bl),?_,?_,?_,?_⟩
   ·rw [TrAt];exact⟨l5,_,rfl,SqL.of (mD _ _ h5),Q7⟩
   ·rw [TrAt];exact⟨Dd,_,rfl,SqL.of zj,Q7⟩
   ·rw [tQ,W5];decide
   ·have q:=kk _ (m6.trans mD)
    rw [<- show teq (.lst (((List.range 13).map fun j=>decide (j=jj)).map Tr.bl)) (.lst (((List.range 13).map fun j=>decide (j=jj)).map Tr.bl))=true by rw [teq];exact VV _] at q
    exact q
end
def SameTD (T dd:Addr) (H H':Hp):Prop:=∀ c o,c≠T->c≠dd->H c=some o->H' c=some o
theorem SameTD.ofL {T dd:Addr} {H H':Hp} (m:SameL T H H'):SameTD T dd H H':=fun c o h _ e=>m c o h e
theorem SameTD.ofD {T dd:Addr} {H H':Hp} (m:SameD dd H H'):SameTD T dd H H':=fun c o _ h e=>m c o h e
theorem SameTD.trans {T dd:Addr} {H H' H2:Hp} (m:SameTD T dd H H') (n:SameTD T dd H' H2):SameTD T dd H H2:=fun c o h1 h2 e=>n c o h1 h2 (m c o h1 h2 e)
section
variable {P:Program} {w:World} {T0:Addr} {s p:Addr} {ds:List Int} {r:Addr} {b:Nat} {bl:Addr} {zs:ZB} {r' bl':Addr} {zs':ZB} {rd tl dd:Addr} {ts:ZB} {H H':Hp}
theorem Now.td (N:Now P w T0 s p ds r b bl zs r' bl' zs' rd tl dd ts H) (m:SameTD T0 dd H H') (lt:LT T0 H') (D:RdD P w H' dd (ts.map (·.2)) b):Now P w T0 s p ds r b bl zs r' bl' zs' rd tl dd ts H':=by
 have nl:∀ {c xs},H c=some (.lst xs)->H' c=some (.lst xs):=fun {c xs} e=>m _ _ (N.lt.lst e) (N.D.ne e fun _ z=>nomatch z) e
 obtain⟨i,e⟩:=N.st.st
 exact N.go ⟨⟨i,nl e⟩,nl N.st.dr,N.st.ne,N.st.len,N.st.nn⟩ lt D fun c o _ h1 h2 e=>m c o h1 h2 e
structure Pair (P:Program) (w:World) (T0 r:Addr) (b:Nat) (bl:Addr) (zs:ZB) (rd tl dd:Addr) (ts:ZB) (H:Hp):Prop where
 lt:LT T0 H
 R:RuleAt H r b bl zs
 S:RdS H rd tl dd b ts
 D:RdD P w H dd (ts.map (·.2)) b
theorem Pair.td (N:Pair P w T0 r b bl zs rd tl dd ts H) (m:SameTD T0 dd H H') (lt:LT T0 H') (D:RdD P w H' dd (ts.map (·.2)) b):Pair P w T0 r b bl zs rd tl dd ts H':=by
 have nl:∀ {c xs},H c=some (.lst xs)->H' c=some (.lst xs):=fun {c xs} e=>m _ _ (N.lt.lst e) (N.D.ne e fun _ z=>nomatch z) e
 have nt:∀ {c xs},H c=some (.tup xs)->H' c=some (.tup xs):=fun {c xs} e=>m _ _ (N.lt.tup e) (N.D.ne e fun _ z=>nomatch z) e
 exact⟨lt,⟨nt N.R.tu,nl N.R.li,fun z hz=>nl (N.R.st z hz)⟩,⟨nl N.S.hd,nl N.S.li,fun z hz=>nt (N.S.st z hz)⟩,D⟩
theorem Pair.sameL (N:Pair P w T0 r b bl zs rd tl dd ts H) (m:SameL T0 H H') (lt:LT T0 H'):Pair P w T0 r b bl zs rd tl dd ts H':=N.td (.ofL m) lt (N.D.sameL N.lt m)
theorem Pair.same (N:Pair P w T0 r b bl zs rd tl dd ts H) (m:Same H H'):Pair P w T0 r b bl zs rd tl dd ts H':=N.sameL (SameL.of m) (N.lt.same m)
theorem Pair.sameD (N:Pair P w T0 r b bl zs rd tl dd ts H) (m:SameD dd H H') (D:RdD P w H' dd (ts.map (·.2)) b):Pair P w T0 r b bl zs rd tl dd ts H':=N.td (.ofD m) (N.lt.sameD N.D m) D
theorem Pair.rdr (N:Pair P w T0 r b bl zs rd tl dd ts H) (g:zX b (ts.map (·.2))):Rdr P w H rd tl dd b ts:=⟨N.S,N.D,g⟩
end
section
variable {P:Program} {w:World} {K:W.Frag} {mg:Str->Option Value} {base:Heap} {T0:Addr}
def qe (P:Program) (w:World) (T0:Addr):Sp:=fun vs H Q _=>∃ (r:Addr) (b:Nat) (bl:Addr) (zs:ZB) (rd tl dd:Addr) (ts:ZB) (k:Nat),vs=[.ref r,.ref rd,.int (yI (ts.map (·.2)) b 60:Nat),.int k]/\Pair P w T0 r b bl zs rd tl dd ts H/\zs.map (·.2)=ts.map (·.2)/\zX b (ts.map (·.2)) /\
 ∀ H',SameTD T0 dd H H'->LT T0 H'->RdD P w H' dd (ts.map (·.2)) b->Q (.bl true) H'
theorem wW:zE ["handed","reader","most","k","found","caught","e"] ["handed","reader","most","k"] (zu uI):=⟨rfl,rfl,rfl,by decide +kernel,rfl,by decide +kernel,by decide +kernel⟩
set_option maxHeartbeats 0 in
theorem U8 {qA qB qE qS qV xA xB xC xD xE xI xL xS yA:Addr} {f f1 f2 f3 f4:Addr} {fd fd1 fd2 fd3 fd4:FuncData} (D:Df K mg "_law_right" uI ["handed","reader","most","k"] f fd) (qJ:Df K mg "good_by" Zm ["rule","k"] f1 fd1) (uM:FnOk P w K mg base (CX1 P w) 9 f1 fd1 ["rule","k"] (ZM T0 xE)) (yw:Df K mg "_law_long" xQ ["reader","length"] f2 fd2) (yM:FnOk P w K mg base CX0 209 f2 fd2 ["reader","length"] (wM P w 205))
  (YD:Df K mg "_law_nth" jD ["reader","k"] f3 fd3) (WL:FnOk P w K mg base CX0 210 f3 fd3 ["reader","k"] (jK P w 205)) (qu:Df K mg "_law_kinds" tG ["caught","due"] f4 fd4) (XN:zbk mg qA qB qE qS qV xA xB xC xD xE xI xL xS) (qDb:mg "ValueError" = none)
  (qBd:zbs K mg "LackError" yA) (qBg:W.kitCls K (.ref xE) (.ref yA)=some true) (qBf:zdM K xE qA qB qE qS qV xA xB xC xD xE xI xL xS 9) (T:Blt mg):FnOk P w K mg base CX0 211 f fd ["handed","reader","most","k"] (qe P w T0):=by
 have W9:FnOk P w K mg base CX0 1 f4 fd4 ["caught","due"] (jY K qA qB qE qS qV xA xB xC xD xE xI xL xS):=Y8 qu XN qDb T
 refine D.fn.ok wW (fun vs H Q E h=>?_) (fun cdv A outer s H vs Q E hr h=>?_)
 ·obtain⟨r,b,bl,zs,rd,tl,dd,ts,k,rfl,_⟩:=h;rfl
 ·obtain⟨r,b,bl,zs,rd,tl,dd,ts,k,rfl,N,ez,g,kk⟩:=h
  have b2:=g.b2
  have ne:∀ st∈ts.map (·.2),st≠[]:=fun st h=>(g.st st h).ne
  have e60:=yr ne b2 60
  have e61:=vd (ts.map (·.2)) b2 60
  refine⟨_,(zm (zB (i:=4) wW.nd rfl (Or.inl rfl) xq)
   (zm (zB (i:=5) wW.nd rfl (Or.inl rfl) xq)
   (zm (zc9 (i:=6) qBd rfl rfl wW.nd rfl rfl (fun _ _ _ hS =>
    (zr (zB (i:=4) wW.nd rfl (Or.inl rfl) (zc4 qJ uM (hr.mono (by decide)) hS (zf (pv 0) (zf (pv 3) zg)))))) (fun _ =>
    (zr (zB (i:=5) wW.nd rfl (Or.inl rfl) (pv 6)))))
   (zm (yH (zN zdp (pv 3) (pv 2) (zL _))
    (zm (yH (zN Qz (zJ yw yM (hr.mono (by decide)) (zf (pv 1) (zf zp zg))) zp (zL _))
     (zr (zH (zJ qu W9 (hr.mono (by decide)) (zf (pv 5) (zf zp zg)))))
     zO)
    (zr (zH (qM (xx Z4 (pv 4) xq (zL _)) (qR (xx Z4 (pv 5) xq (zL _)))))))
    zO)
   (zr (zH (qM (zz (zai K) (by rfl) T.n_isinstance boot_isinstance (zf (pv 4) (zf (jR (v:=.ty "int") rfl T.n_int boot_int rfl) zg))) (qM (zbh (zz (zai K) (by rfl) T.n_isinstance boot_isinstance (zf (pv 4) (zf (jR (v:=.ty "bool") rfl T.n_bool boot_bool rfl) zg)))) (qR (xx Ze (pv 4) (zJ YD WL (hr.mono (by decide)) (zf (pv 1) (zf (pv 3) zg))) (zL _))))))))))),?_⟩
  refine⟨_,rfl,_,rfl,r,b,bl,zs,k,rfl,N.R,by rw [ez];exact g,N.lt,fun v hv hp H1 s1 l1=>?_,fun h1 h2 H1 s1 l1=>?_⟩
  ·rw [ez] at hv hp
   have N1:=N.sameL s1 l1
   rcases hv with ⟨hk,n,rfl,hn,hm,_⟩ | ⟨hk,rfl⟩
   ·refine⟨_,rfl,_,rfl,_,_,rfl,rfl,_,rfl,?_⟩
    rw [decide_eq_false (show ¬ ((k:Int)>=((yI (ts.map (·.2)) b 60:Nat):Int)) by omega)]
    refine yZ ?_
    refine⟨_,rfl,_,_,_,_,rfl,.int _,WT,_,rfl,ww ⟨_,rfl,_,_,_,_,rfl,.int _,Wf,_,rfl,_,rfl,ww ?_⟩⟩
    refine⟨_,rfl,_,rfl,_,rfl,rd,tl,dd,b,ts,k,60,rfl,by decide,.inr (by omega),N1.rdr g,fun o H2 p s2 r2=>?_⟩
    have ho:o=some n:=by
     rcases p with ⟨q,rfl,q1,q2⟩ | ⟨_,q⟩
     ·rw [zaC _ hn q1 (by omega)]
     ·have z1:=YQ (gd (ts.map (·.2)) b) (Nat.lt_succ_self n) hn
      have z2:=q n.succ
      omega
    subst ho
    have N2:=N1.sameD s2 r2
    refine⟨rfl,?_⟩
    have q:=kk H2 ((SameTD.ofL s1).trans (SameTD.ofD s2)) N2.lt N2.D
    rw [<- show decide (V.int (n:Int)=oV (some n))=true from decide_eq_true rfl] at q
    exact q
   ·have hl:yQ (ts.map (·.2)) b 60=0:=by rcases hp with z | z<;>omega
    refine⟨_,rfl,_,rfl,_,_,rfl,rfl,_,rfl,?_⟩
    rw [decide_eq_true (show ((k:Int)>=((yI (ts.map (·.2)) b 60:Nat):Int)) by omega)]
    refine ww ?_
    refine⟨_,rfl,rd,tl,dd,b,ts,60,rfl,by decide,N1.rdr g,fun H2 s2 r2=>⟨_,_,rfl,rfl,_,rfl,?_⟩⟩
    have N2:=N1.sameD s2 r2
    rw [hl]
    refine yZ ⟨_,rfl,rfl,_,rfl,ww ⟨_,rfl,rfl,?_⟩⟩
    exact kk H2 ((SameTD.ofL s1).trans (SameTD.ofD s2)) N2.lt N2.D
  ·rw [ez] at h1 h2
   have N1:=N.sameL s1 l1
   refine⟨_,rfl,qBg,fun x hx=>⟨_,rfl,?_⟩⟩
   have nxd:x≠dd:=fun z=>by
    obtain⟨_,⟨_,e,_⟩,_⟩:=N1.D
    rw [<- z,hx] at e;cases e
   have mx:=zq hx (o:=Vg x xE)
   have Nx:=N1.same mx
   have hxx:upd H1 x (Vg x xE) x=some (Vg x xE):=zj
   generalize upd H1 x (Vg x xE)=Hx at mx Nx hxx
   refine⟨_,rfl,_,rfl,_,_,rfl,rfl,_,rfl,?_⟩
   rw [decide_eq_true (show ((k:Int)>=((yI (ts.map (·.2)) b 60:Nat):Int)) by omega)]
   refine ww ?_
   refine⟨_,rfl,rd,tl,dd,b,ts,60,rfl,by decide,Nx.rdr g,fun H2 s2 r2=>⟨_,_,rfl,rfl,_,rfl,?_⟩⟩
   have N2:=Nx.sameD s2 r2
   rw [decide_eq_true (show ((yQ (ts.map (·.2)) b 60:Nat):Int)>0 by omega)]
   have hx2:=s2 _ _ nxd hxx
   refine ww ⟨_,rfl,x,xE,9,4,rfl,hx2,qBf,.inr (.inr (.inr (.inr ⟨rfl,rfl⟩))),fun H3 s3=>?_⟩
   have N3:=N2.same s3
   exact kk H3 (((SameTD.ofL (s1.trans (SameL.of mx))).trans (SameTD.ofD s2)).trans (SameTD.ofL (SameL.of s3))) N3.lt N3.D
end
theorem Uo (b:Int):∀ n:Nat,Yx b (List.replicate n 0)=0
 | 0=>rfl
 | n+1=>by rw [List.replicate_succ,Qt,Uo b n];simp
theorem zdA (b:Nat):Yx b (1 :: List.replicate 60 0)=((b^60:Nat):Int):=by
 rw [Qt,Uo,List.length_replicate,Int.natCast_pow];omega
theorem zdd {b:Nat} (h2:2<=b):za5 b (1 :: List.replicate 60 0) :=
 ⟨by simp,by rw [List.length_cons,List.length_replicate];decide,fun f hf=>by
  rcases List.mem_cons.mp hf with rfl | hf
  ·omega
  ·rw [List.eq_of_mem_replicate hf];omega,.inl (by simp)⟩
theorem zf9 {b:Nat} (h16:b<=16):b^60<2^850:=by
 have h3:b^60<=16^60:=Nat.pow_le_pow_left h16 _
 rw [show (16:Nat)=2^4 from rfl,<- Nat.pow_mul] at h3
 exact Nat.lt_of_le_of_lt h3 (Nat.pow_lt_pow_right (by decide) (by decide))
section
variable {P:Program} {w:World} {K:W.Frag} {mg:Str->Option Value} {base:Heap} {T0:Addr}
def ut (P:Program) (w:World) (T0:Addr):Sp:=fun vs H Q _=>∃ (r:Addr) (b:Nat) (bl:Addr) (zs:ZB) (rd tl dd:Addr) (ts:ZB),vs=[.ref r,.ref rd,.int (yI (ts.map (·.2)) b 60:Nat)]/\Pair P w T0 r b bl zs rd tl dd ts H/\zs.map (·.2)=ts.map (·.2)/\zX b (ts.map (·.2)) /\
 ∀ H',SameTD T0 dd H H'->LT T0 H'->RdD P w H' dd (ts.map (·.2)) b->Q (.bl true) H'
theorem wJ:zE ["handed","reader","most","beyond","told","last"] ["handed","reader","most"] (zu wZ):=⟨rfl,rfl,rfl,by decide +kernel,rfl,by decide +kernel,by decide +kernel⟩
theorem Xh {f f1 f2 f3 f4 f5:Addr} {fd fd1 fd2 fd3 fd4 fd5:FuncData} (D:Df K mg "_law_told_right" wZ ["handed","reader","most"] f fd) (ZZ:Df K mg "number_by" jP ["base","figures"] f1 fd1) (Xm:FnOk P w K mg base CX0 5 f1 fd1 ["base","figures"] ZQ) (wL:Df K mg "count_below" ud ["rule","n"] f2 fd2) (vJ:FnOk P w K mg base CX0 9 f2 fd2 ["rule","n"] (uW T0))
  (Z7:Df K mg "last_good" jW ["rule","n"] f3 fd3) (XD:FnOk P w K mg base CX0 9 f3 fd3 ["rule","n"] (Zw T0)) (YC:Df K mg "place_of" Z0 ["rule","n"] f4 fd4) (Wo:FnOk P w K mg base CX0 10 f4 fd4 ["rule","n"] (Yt T0)) (wD:Df K mg "_law_right" uI ["handed","reader","most","k"] f5 fd5) (vp:FnOk P w K mg base CX0 211 f5 fd5 ["handed","reader","most","k"] (qe P w T0)) (T:Blt mg):FnOk P w K mg base CX0 212 f fd ["handed","reader","most"] (ut P w T0):=by
 refine D.fn.ok wJ (fun vs H Q E h=>?_) (fun cdv A outer s H vs Q E hr h=>?_)
 ·obtain⟨r,b,bl,zs,rd,tl,dd,ts,rfl,_⟩:=h;rfl
 ·obtain⟨r,b,bl,zs,rd,tl,dd,ts,rfl,N,ez,g,kk⟩:=h
  have b2:=g.b2
  have b16:=g.b16
  have ne:∀ st∈ts.map (·.2),st≠[]:=fun st h=>(g.st st h).ne
  have gz:zX b (zs.map (·.2)):=by rw [ez];exact g
  have e60:=yr ne b2 60
  have p8:=zf9 b16
  have p9:b^60<2^900:=Nat.lt_trans p8 (Nat.pow_lt_pow_right (by decide) (by decide))
  refine⟨_,(zm (zB (i:=3) wJ.nd rfl (Or.inl rfl) (zJ ZZ Xm (hr.mono (by decide)) (zf (zP (uH K) (pv 0) zp (fun _ _=>rfl)) (zf (zy jn (zU (zf zp zg)) (zy zc2 (zU (zf zp zg)) zp)) zg))))
   (zm (zB (i:=4) wJ.nd rfl (Or.inl rfl) (zJ wL vJ (hr.mono (by decide)) (zf (pv 0) (zf (pv 3) zg))))
   (zm (yH (PW.pt (Ut (zN zdG (pv 4) (pv 2) (zL _)) (Xg (uX (wY (zJ wD vp (hr.mono (by decide)) (zf (pv 0) (zf (pv 1) (zf (pv 2) (zf (pv 4) zg))))))))))
    (zr (zH W2))
    zO)
   (zm (zB (i:=5) wJ.nd rfl (Or.inl rfl) (zJ Z7 XD (hr.mono (by decide)) (zf (pv 0) (zf (pv 3) zg))))
   (zm (yH (zN Z4 (pv 5) xq (zL _))
    (zr (zH (xx Ze (pv 2) zp (zL _))))
    zO)
   (zr (zH (zJ wD vp (hr.mono (by decide)) (zf (pv 0) (zf (pv 1) (zf (pv 2) (zf (zJ YC Wo (hr.mono (by decide)) (zf (pv 0) (zf (pv 5) zg))) zg)))))))))))),?_⟩
  refine⟨_,rfl,r,_,_,.int b,rfl,rfl,SqT.of N.R.tu,rfl,(by show 1<=sizeLine;decide),fun l1 h1=>⟨(by show 1<=sizeLine;decide),fun l2 h2=>?_⟩⟩
  have m1:=zq h1 (o:=.lst [.int 1])
  have m2:=zq h2 (o:=.lst [.int 0])
  refine⟨l2,60,_,rfl,rfl,zj,by decide,by decide,by decide,fun l3 h3=>?_⟩
  have m3:=zq h3 (o:=.lst (List.replicate (60:Int).toNat [V.int 0]).flatten)
  refine⟨l1,l3,_,_,rfl,rfl,m3 _ _ (m2 _ _ zj),zj,by decide,fun l4 h4=>?_⟩
  have m4:=zq h4 (o:=.lst ([V.int 1]++(List.replicate (60:Int).toNat [V.int 0]).flatten))
  have N4:=(((N.same m1).same m2).same m3).same m4
  refine⟨b,l4,1 :: List.replicate 60 0,rfl,b2,b16,zj,zdd b2,fun H5 m5=>?_⟩
  have s05:SameTD T0 dd H H5:=.ofL (SameL.of ((((m1.trans m2).trans m3).trans m4).trans m5))
  have N5:=N4.same m5
  rw [zdA]
  refine⟨_,rfl,_,rfl,r,b,bl,zs,b^60,rfl,N5.R,gz,p9,N5.lt,fun H6 s6 l6=>?_⟩
  have N6:=N5.sameL s6 l6
  have s06:=s05.trans (.ofL s6)
  rw [ez,<- e60]
  refine⟨_,rfl,_,rfl,rfl,_,rfl,?_⟩
  rw [decide_eq_true rfl]
  refine yZ ?_
  refine⟨_,rfl,_,rfl,_,rfl,_,rfl,r,b,bl,zs,rd,tl,dd,ts,_,rfl,N6,ez,g,fun H7 s7 l7 d7=>⟨_,rfl,yZ ?_⟩⟩
  have N7:=N6.td s7 l7 d7
  have s07:=s06.trans s7
  refine⟨_,rfl,_,rfl,r,b,bl,zs,b^60,rfl,N7.R,gz,p8,N7.lt,fun v H8 hv s8 l8=>?_⟩
  have N8:=N7.sameL s8 l8
  have s08:=s07.trans (.ofL s8)
  rw [ez] at hv
  rcases hv with ⟨rfl,h0⟩ | ⟨q,rfl,q1,q2,q3⟩
  ·refine⟨_,rfl,rfl,_,rfl,Jq (decide_eq_true rfl) ⟨_,rfl,rfl,?_⟩⟩
   have z:=kk H8 s08 N8.lt N8.D
   rw [<- show decide (V.int ((yI (ts.map (·.2)) b 60:Nat):Int)=V.int 0)=true from decide_eq_true (by rw [e60,h0];rfl)] at z
   exact z
  ·refine⟨_,rfl,rfl,_,rfl,V9 (decide_eq_false (fun z=>by cases z)) ?_⟩
   refine⟨_,rfl,_,rfl,_,rfl,_,rfl,_,rfl,r,b,bl,zs,q,rfl,N8.R,gz,⟨Nat.lt_trans q1 p9,by rw [ez];exact q2⟩,N8.lt,fun v H9 hv s9 l9=>?_⟩
   subst hv
   have N9:=N8.sameL s9 l9
   exact⟨r,b,bl,zs,rd,tl,dd,ts,_,rfl,N9,ez,g,fun Ha sa la da=>kk Ha ((s08.trans (.ofL s9)).trans sa) la da⟩
end
theorem RuleAt.off {s r bl:Addr} {H:Hp} {b:Nat} {zs:ZB} (R:RuleAt H r b bl zs) (h1:r≠s) (h2:bl≠s) (h3:∀ z∈zs,z.1≠s):RuleAt (aw [s] H) r b bl zs :=
 ⟨by rw [yJ (by simpa using h1)];exact R.tu,by rw [yJ (by simpa using h2)];exact R.li,fun z hz=>by rw [yJ (by simpa using h3 z hz)];exact R.st z hz⟩
theorem RdS.off {s rd tl dd:Addr} {H:Hp} {b:Nat} {ts:ZB} (R:RdS H rd tl dd b ts) (h1:rd≠s) (h2:tl≠s) (h3:∀ z∈ts,z.1≠s):RdS (aw [s] H) rd tl dd b ts :=
 ⟨by rw [yJ (by simpa using h1)];exact R.hd,by rw [yJ (by simpa using h2)];exact R.li,fun z hz=>by rw [yJ (by simpa using h3 z hz)];exact R.st z hz⟩
def W7 (b:Nat) (ls:ZA):Tr:=.tup [.int b,.lst (ls.map vf)]
theorem zcQ (b:Nat) (ls:ZA):tQ (W7 b ls)<=8:=by
 unfold W7
 rw [tQ,xM,xM,xM,tQ,tQ]
 ·have:=jQ ls;omega
 all_goals (intros;rename_i z;cases z)
theorem TrAt.rule {K:W.Frag} {H:Hp} {r bl:Addr} {b:Nat} {zs:ZB} (R:RuleAt H r b bl zs):TrAt K H (W7 b (zs.map (·.2))) (.ref r):=by
 unfold W7
 rw [TrAt]
 refine⟨r,_,rfl,SqT.of R.tu,?_⟩
 rw [TrsAt]
 refine⟨_,_,rfl,by rw [TrAt],?_⟩
 rw [TrsAt]
 refine⟨_,_,rfl,?_,by rw [TrsAt]⟩
 rw [TrAt]
 exact⟨bl,_,rfl,SqL.of R.li,TrsAt.lists R.st⟩
theorem zfI:zX 10 [[1,3],[7]]:=⟨by decide,by decide,by decide,fun l hl=>by
 rcases List.mem_cons.mp hl with rfl | hl
 ·exact⟨by simp,by decide,by decide⟩
 ·rw [List.mem_singleton.mp hl];exact⟨by simp,by decide,by decide⟩,by decide⟩
theorem zfw:zX 2 [[0],[1]]:=⟨by decide,by decide,by decide,fun l hl=>by
 rcases List.mem_cons.mp hl with rfl | hl
 ·exact⟨by simp,by decide,by decide⟩
 ·rw [List.mem_singleton.mp hl];exact⟨by simp,by decide,by decide⟩,by decide⟩
theorem zhd:∀ l∈([[1,3],[7]]:ZA),l≠[]:=by decide
theorem zgf:∀ l∈([[0],[1]]:ZA),l≠[]:=by decide
theorem zgn {c:Nat} (hc:c<10):gd [[1,3],[7]] 10 (10+c)=lacks [[1,3],[7]] [1,(c:Int)]:=by
 unfold gd
 rw [show 10+c=1*10+c by omega,vo (by decide) (by decide) hc,wI (by decide)]
 rfl
theorem zd4:many (gd [[1,3],[7]] 10) 14=12:=by
 have h:=qw (gd [[1,3],[7]] 10) 10 4
 have h9:many (gd [[1,3],[7]] 10) 10=9:=by
  rw [show (10:Nat)=10^1 from rfl,<- yr zhd (by decide)]
  decide +kernel
 have h3:many (fun n=>gd [[1,3],[7]] 10 (10+n)) 4=3:=by
  rw [uh (q:=fun n=>lacks [[1,3],[7]] [1,(n:Int)]) fun n hn=>zgn (by omega)]
  decide +kernel
 rw [h9,h3] at h
 exact h
theorem zgs:gd [[1,3],[7]] 10 14=true:=by
 rw [show (14:Nat)=10+4 from rfl,zgn (by decide)];decide +kernel
theorem zc1:12<many (gd [[1,3],[7]] 10) (10^60):=by
 have h:=YQ (gd [[1,3],[7]] 10) (show 14<10^60 by decide) zgs
 rw [zd4] at h;exact h
theorem zg8 {v:V} (h:Jf [[1,3],[7]] 10 12 v):v=.int 14:=by
 rcases h with ⟨_,g,rfl,h1,h2,_⟩ | ⟨h,_⟩
 ·rw [zaC _ h1 zgs (by rw [h2,zd4])];rfl
 ·have:=zc1;omega
theorem zdu:∀ M,many (gd [[0],[1]] 2) M<=0:=fun M=>by
 have h:=WD zgf (show 2<=2 by decide) (show yQ [[0],[1]] 2 0=0 by decide +kernel) M
 rw [show yI [[0],[1]] 2 0=0 by decide +kernel] at h
 exact h
theorem zfL:yQ [[0],[1]] 2 60=0:=by
 have h:=vd [[0],[1]] (show 2<=2 by decide) 60
 have h1:=zdu (2^(60+1))
 rw [<- yr zgf (by decide)] at h1
 omega
theorem by0 {v:V} (h:Jf [[0],[1]] 2 0 v):v=.non:=by
 rcases h with ⟨h,_⟩ | ⟨_,h⟩
 ·have:=zdu (2^60);omega
 ·exact h
theorem zex {m:Int}:0<(if m>1 then m else 1):=by split<;>omega
section
variable {P:Program} {w:World} {K:W.Frag} {mg:Str->Option Value} {base:Heap} {T0:Addr}
def JL (K:W.Frag) (T0:Addr):Sp:=fun vs H Q _=>∃ (a:Addr) (ns:List Int),vs=[.ref a]/\SqL K H a (ns.map V.int)/\ns.length<=63/\LT T0 H/\∀ H',Q (.bl true) H'
theorem uy:zE ["script","store","turn","rule","handed","reader","most","j","x","far","again","k"] ["script"] (zu VP):=⟨rfl,rfl,rfl,by decide +kernel,rfl,by decide +kernel,by decide +kernel⟩
set_option maxHeartbeats 0 in
theorem zfr {xE:Addr} {f f1 f2 f3 f4 f5 f6 f7 f8 f9:Addr} {fd fd1 fd2 fd3 fd4 fd5 fd6 fd7 fd8 fd9:FuncData} (D:Df K mg "law" VP ["script"] f fd) (qD:Df K mg "_law_draws" jb ["script","many"] f1 fd1) (Zv:Df K mg "_law_rule" qF ["store"] f2 fd2) (Xz:FnOk P w K mg base CX0 2 f2 fd2 ["store"] (ZC T0)) (jq:Df K mg "_law_copy" qI ["rule"] f3 fd3) (uL:Df K mg "_law_reader" vX ["rule"] f4 fd4)
  (yq:Df K mg "_law_take" qx ["store","many"] f5 fd5) (Z9:Df K mg "_law_most" qH ["reader"] f6 fd6) (Xn:FnOk P w K mg base CX0 210 f6 fd6 ["reader"] (Z1 P w)) (vD:Df K mg "_law_told_right" wZ ["handed","reader","most"] f7 fd7) (tO:FnOk P w K mg base CX0 212 f7 fd7 ["handed","reader","most"] (ut P w T0))
  (wD:Df K mg "_law_right" uI ["handed","reader","most","k"] f8 fd8) (vp:FnOk P w K mg base CX0 211 f8 fd8 ["handed","reader","most","k"] (qe P w T0)) (qJ:Df K mg "good_by" Zm ["rule","k"] f9 fd9) (uM:FnOk P w K mg base (CX1 P w) 9 f9 fd9 ["rule","k"] (ZM T0 xE)) (T:Blt mg) (U:Vf mg):FnOk P w K mg base CX0 213 f fd ["script"] (JL K T0):=by
 have W4:FnOk P w K mg base CX0 1 f1 fd1 ["script","many"] (Zd K):=Xb qD T U
 have xT:FnOk P w K mg base CX0 1 f5 fd5 ["store","many"] (qW T0):=Z5 yq T
 have UL:FnOk P w K mg base CX0 1 f3 fd3 ["rule"] Zx:=Wh jq T
 have X5:FnOk P w K mg base CX0 1 f4 fd4 ["rule"] (jk P w):=Yr uL T
 replace uM:=Lw.FnOk.calm uM
 refine D.fn.ok uy (fun vs H Q E h=>?_) (fun cdv A outer s H vs Q E hr h=>?_)
 ·obtain⟨a,ns,rfl,_⟩:=h;rfl
 ·obtain⟨a,ns,rfl,hS,hlen,hT,kk⟩:=h
  have HU:=zaE hr
  refine⟨_,(zm (zB (i:=1) uy.nd rfl (Or.inl rfl) (zU (zf (zJ qD W4 (hr.mono (by decide)) (zf (pv 0) (zf zp zg))) (zf zp zg))))
   (zm (wG PassesOwn.never rfl (yl rfl T.n_range (zf zp zg)) (yh (i:=2) uy.nd rfl (Or.inl rfl))
    (zm (zB (i:=3) uy.nd rfl (Or.inl rfl) (zJ Zv Xz (hr.mono (by decide)) (zf (pv 1) zg)))
    (zm (zB (i:=4) uy.nd rfl (Or.inl rfl) (zJ jq UL (hr.mono (by decide)) (zf (pv 3) zg)))
    (zm (zB (i:=5) uy.nd rfl (Or.inl rfl) (zJ uL X5 (hr.mono (by decide)) (zf (pv 3) zg)))
    (zm (zB (i:=6) uy.nd rfl (Or.inl rfl) (zJ Z9 Xn (hr.mono (by decide)) (zf (pv 5) zg)))
    (zm (yH (PW.pt (Jx (zN QS (pv 2) zp (zL _)) (Vn (uX (wY (zJ vD tO (hr.mono (by decide)) (zf (pv 4) (zf (pv 5) (zf (pv 6) zg)))))))))
     (zr (zH W2))
     zO)
    (zr (wG PassesOwn.never rfl (yl rfl T.n_range (zf zp zg)) (yh (i:=7) uy.nd rfl (Or.inl rfl))
     (zm (zB (i:=8) uy.nd rfl (Or.inl rfl) (zJ yq xT (hr.mono (by decide)) (zf (pv 1) (zf zp zg))))
     (zm (zB (i:=9) uy.nd rfl (Or.inl rfl) zp)
     (zm (wG PassesOwn.never rfl (yl rfl T.n_range (zf zp zg)) (yh (i:=10) uy.nd rfl (Or.inl rfl))
      (zr (zB (i:=9) uy.nd rfl (Or.inl rfl) (zy yF (zy uZ (pv 9) zp) (zJ yq xT (hr.mono (by decide)) (zf (pv 1) (zf zp zg)))))))
     (zm (zB (i:=11) uy.nd rfl (Or.inl rfl) (zP (yC K) (zU (zf (zy yt (pv 8) zp) (zf (pv 8) (zf (zy yt (pv 9) (zz (zcr rfl) (by rfl) T.n_max boot_max (zf zp (zf (zz (Qy rfl) (by rfl) T.n_min boot_min (zf (pv 6) (zf (zy QW zp zp) zg))) zg)))) (zf (zy wH (zy wH (pv 6) zp) (zy yt (pv 8) zp)) (zf (zy yF (pv 6) (zy yt (pv 8) zp)) zg)))))) (pv 7) (fun _ _=>rfl)))
     (zm (yH (zN Ze (zy yt (zy vR (pv 8) zp) zp) zp (zL _))
      (zr (zB (i:=11) uy.nd rfl (Or.inl rfl) (zy yt (pv 9) (zy QW zp zp))))
      zO)
     (zr (yH (zaJ XR QS zp (pv 11) (zy QW zp zp))
      (zr (wG PassesOwn.never rfl (yl rfl T.n_range (zf zp zg)) (yh (i:=10) uy.nd rfl (Or.inl rfl))
       (zr (yH (PW.pt (Ut (uX (wY (zJ wD vp (hr.mono (by decide)) (zf (pv 4) (zf (pv 5) (zf (pv 6) (zf (pv 11) zg))))))) (Xg (zN (zda K HU) (pv 4) (pv 3) (zL _)))))
        (zr (zH W2))
        zO))))
      zO)))))))))))))))
   (zr (zH (qM (xx Ze (zJ qJ uM (hr.mono (by decide)) (zf (wz (zf zp (zf (zU (zf (zU (zf zp (zf zp zg))) (zf (zU (zf zp zg)) zg))) zg))) (zf zp zg))) zp (zL _)) (qR (xx Z4 (zJ qJ uM (hr.mono (by decide)) (zf (wz (zf zp (zf (zU (zf (zU (zf zp zg)) (zf (zU (zf zp zg)) zg))) zg))) (zf zp zg))) xq (zL _)))))))),?_⟩
  refine⟨_,rfl,a,ns,rfl,hS,hlen,fun p ds H1 hp Dr dne dlen m1=>⟨(by show 2<=sizeLine;decide),fun st hst=>?_⟩⟩
  have m2:=zq hst (o:=.lst [.ref p,.int 0])
  have S:Sto2 (upd H1 st (.lst [.ref p,.int 0])) st p ds:=⟨⟨0,zj⟩,m2 _ _ Dr.li,dne,dlen,Dr.nn⟩
  have T2:=(hT.same m1).same m2
  generalize upd H1 st (.lst [.ref p,.int 0])=H2 at m2 S T2
  refine⟨4,rfl,by decide,by decide,yS (lo:=0) (n:=4) (fun i Z H3=>∃ (v2 v3 v4 v5 v6 v7 v8 v9 v10 v11:Option V),Z=[some (.ref a),some (.ref st),v2,v3,v4,v5,v6,v7,v8,v9,v10,v11]/\Sto2 H3 st p ds/\LT T0 H3) ⟨_,_,_,_,_,_,_,_,_,_,rfl,S,T2⟩ ?_ ?_⟩
  ·rintro i Z H3 hi ⟨v2,v3,v4,v5,v6,v7,v8,v9,v10,v11,rfl,S3,lt3⟩
   refine⟨_,rfl,st,p,ds,rfl,S3,lt3,fun r b bl zs H4 F4 R4 g=>?_⟩
   have b2:=g.b2
   have b16:=g.b16
   have hz4:zs.length<=4:=by have:=g.len;rwa [List.length_map] at this
   refine⟨_,rfl,r,b,bl,zs,rfl,R4.all,by omega,fun r' bl' zs' H5 s5 R5 e5 n1 n2 n3=>?_⟩
   have S4:=F4.st
   have lt5:=F4.lt.same s5
   have S5:=S4.same s5
   have g':zX b (zs'.map (·.2)):=by rw [e5];exact g
   refine⟨_,rfl,r,b,bl,zs,rfl,R4.all.same s5,g,fun rd tl dd ts H6 f1 f2 f3 f4 Rd6 e6 s6=>?_⟩
   have gt:zX b (ts.map (·.2)):=by rw [e6];exact g
   have N6:Now P w T0 st p ds r b bl zs r' bl' zs' rd tl dd ts H6:=⟨S5.same s6,lt5.same s6,(R4.same (s5.aw _)).same (s6.aw _),(R5.off (S4.nes n2) (S4.nes n1) fun z hz=>S4.nes (n3 z hz).1).same (s6.aw _),Rd6.s.off (S5.nes f1) (S5.nes f2) (fun z hz=>S5.nes (f4 z hz)),Rd6.d⟩
   have ez:zs'.map (·.2)=ts.map (·.2):=by rw [e5,e6]
   have pr:∀ {H:Hp},Now P w T0 st p ds r b bl zs r' bl' zs' rd tl dd ts H->Pair P w T0 r' b bl' zs' rd tl dd ts H:=fun N=>⟨N.lt,N.R'.all,N.S.same (yG _ _),N.D⟩
   refine⟨_,rfl,rd,tl,dd,b,ts,rfl,N6.rdr gt,fun H7 s7 d7=>?_⟩
   have N7:=N6.sameD s7 d7
   refine⟨_,rfl,_,_,rfl,rfl,_,rfl,?_⟩
   by_cases hi2:(0+(i:Int))<2
   case' pos =>
    rw [decide_eq_true hi2]
    refine ww ⟨_,rfl,_,rfl,_,rfl,r',b,bl',zs',rd,tl,dd,ts,rfl,pr N7,ez,gt,fun H8 s8 l8 d8=>⟨_,rfl,yZ ?_⟩⟩
    have N8:=N7.td s8 l8 d8
   case' neg =>
    rw [decide_eq_false hi2]
    refine yZ (yZ ?_)
    have N8:=N7
   all_goals
    refine⟨5,rfl,by decide,by decide,yS (lo:=0) (n:=5) (fun j Z Ha=>∃ (v7 v8 v9 v10 v11:Option V),Z=[some (.ref a),some (.ref st),some (.int (0+(i:Int))),some (.ref r),some (.ref r'),some (.ref rd),some (.int (yI (ts.map (·.2)) b 60:Nat)),v7,v8,v9,v10,v11]/\Now P w T0 st p ds r b bl zs r' bl' zs' rd tl dd ts Ha) ⟨_,_,_,_,_,rfl,N8⟩ ?_ ?_⟩
    ·rintro j Z Ha hj ⟨v7,v8,v9,v10,v11,rfl,Na⟩
     have hj:j<5:=hj
     refine⟨_,rfl,st,p,ds,10007,rfl,Na.st,(by decide),Na.lt,fun x Hb hx _ qf_ tf_=>?_⟩
     have Nb:=Na.fr (Fr.mk qf_ tf_)
     refine⟨7,rfl,by decide,by decide,yS (lo:=0) (n:=7) (fun l Z Hc=>∃ (far:Nat) (v10 v11:Option V),Z=[some (.ref a),some (.ref st),some (.int (0+(i:Int))),some (.ref r),some (.ref r'),some (.ref rd),some (.int (yI (ts.map (·.2)) b 60:Nat)),some (.int (0+(j:Int))),some (.int x),some (.int far),v10,v11]/\Now P w T0 st p ds r b bl zs r' bl' zs' rd tl dd ts Hc) ⟨0,_,_,rfl,Nb⟩ ?_ ?_⟩
     ·rintro l Z Hc hl ⟨far,v10,v11,rfl,Nc⟩
      refine⟨_,rfl,_,_,rfl,rfl,.inr ⟨by decide,by decide⟩,_,rfl,st,p,ds,10007,rfl,Nc.st,(by decide),Nc.lt,fun y Hd hy _ qf_ tf_=>?_⟩
      refine⟨_,_,rfl,rfl,far*10007+y,some (.int (0+(l:Int))),v11,?_,Nc.fr (Fr.mk qf_ tf_)⟩
      simp
     ·rintro Z Hc ⟨far,v10,v11,rfl,Nc⟩
      refine⟨_,rfl,_,_,rfl,rfl,(by decide:(0:Int)<40),_,rfl,_,rfl,_,rfl,_,_,rfl,rfl,⟨by decide,by decide,by decide⟩,_,_,rfl,_,_,rfl,?_⟩
      refine⟨_,_,rfl,rfl,?pos,_,rfl,_,_,rfl,rfl,_,rfl,_,_,rfl,rfl,(by decide:(0:Int)<3),_,_,rfl,rfl,_,rfl,_,rfl,_,_,rfl,rfl,(by decide:(0:Int)<3),_,_,rfl,rfl,(by show 5<=sizeLine;decide),fun l hl=>?rest⟩
      case pos=>exact zex
      case rest =>
       have key:∀ c0 c1 c2 c3 c4:Int,∃ kv:Int,atI [V.int c0,V.int c1,V.int c2,V.int c3,V.int c4] (0+(j:Int))=some (.int kv):=fun c0 c1 c2 c3 c4=>by
        match j,hj with
        | 0,_=>exact⟨_,rfl⟩
        | 1,_=>exact⟨_,rfl⟩
        | 2,_=>exact⟨_,rfl⟩
        | 3,_=>exact⟨_,rfl⟩
        | 4,_=>exact⟨_,rfl⟩
       refine⟨_,rfl,l,_,_,.int (key _ _ _ _ _).choose,rfl,rfl,SqL.of zj,(key _ _ _ _ _).choose_spec,?_⟩
       generalize (key _ _ _ _ _).choose=kv
       generalize hH:upd Hc l _=Hd
       have Nd:Now P w T0 st p ds r b bl zs r' bl' zs' rd tl dd ts Hd:=by rw [<- hH];exact Nc.same (zq hl)
       refine⟨_,rfl,_,_,rfl,rfl,⟨by decide,by decide⟩,_,_,rfl,rfl,(by decide:(0:Int)<9),rfl,_,rfl,?_⟩
       generalize decide (V.int _=V.int 0)=bb
       cases bb
       case' true =>
        refine ww ⟨_,rfl,_,_,rfl,rfl,⟨by decide,by decide,by decide⟩,_,_,rfl,rfl,(by decide:(0:Int)<10^(26:Int).toNat),?_⟩
        dsimp only
        generalize (far:Int) % 10^(26:Int).toNat=kv
       case' false =>
        refine yZ ?_
       all_goals
        refine⟨_,rfl,_,_,rfl,rfl,_,rfl,?_⟩
        by_cases h0:0<=kv
        case neg =>
         rw [decide_eq_false h0]
         exact yZ ⟨_,rfl,yZ ⟨_,_,_,_,_,rfl,Nd⟩⟩
        rw [decide_eq_true h0]
        refine ww ⟨_,_,rfl,rfl,⟨by decide,by decide,by decide⟩,_,_,rfl,rfl,_,rfl,?_⟩
        generalize decide (kv<_)=bb
        cases bb
        case false=>exact yZ ⟨_,_,_,_,_,rfl,Nd⟩
        obtain⟨k,rfl⟩:∃ k:Nat,kv=k:=⟨kv.toNat,by omega⟩
        refine ww ⟨2,rfl,by decide,by decide,yS (lo:=0) (n:=2) (fun l Z He=>∃ v10:Option V,Z=[some (.ref a),some (.ref st),some (.int (0+(i:Int))),some (.ref r),some (.ref r'),some (.ref rd),some (.int (yI (ts.map (·.2)) b 60:Nat)),some (.int (0+(j:Int))),some (.int x),some (.int far),v10,some (.int k)]/\Now P w T0 st p ds r b bl zs r' bl' zs' rd tl dd ts He) ⟨_,rfl,Nd⟩ ?_ ?_⟩
        ·rintro l Z Hx hl ⟨v10,rfl,Nx⟩
         refine⟨_,rfl,_,rfl,_,rfl,_,rfl,r',b,bl',zs',rd,tl,dd,ts,k,rfl,pr Nx,ez,gt,fun Hf tf lf df=>⟨_,rfl,?_⟩⟩
         have Nf:=Nx.td tf lf df
         refine yZ ⟨_,rfl,_,rfl,W7 b (zs'.map (·.2)),W7 b (zs.map (·.2)),TrAt.rule Nf.R'.all,TrAt.rule Nf.R.all,zcQ _ _,_,rfl,?_⟩
         show if (!teq (W7 b (zs'.map (·.2))) (W7 b (zs.map (·.2))))=true then _ else _
         rw [e5,VH]
         exact yZ ⟨_,rfl,Nf⟩
        ·rintro Z Hx ⟨v10,rfl,Nx⟩
         exact⟨_,_,_,_,_,rfl,Nx⟩
    ·rintro Z Ha ⟨v7,v8,v9,v10,v11,rfl,Na⟩
     exact⟨_,_,_,_,_,_,_,_,_,_,rfl,Na.st,Na.lt⟩
  ·rintro Z H3 ⟨v2,v3,v4,v5,v6,v7,v8,v9,v10,v11,rfl,S3,lt3⟩
   refine⟨(by show 2<=sizeLine;decide),fun a1 h1=>⟨(by show 1<=sizeLine;decide),fun a2 h2=>⟨(by show 2<=sizeLine;decide),fun a3 h3=>⟨(by show 2<=sizeLine;decide),fun a4 h4=>?_⟩⟩⟩⟩
   have q1:=zq h1 (o:=.lst [.int 1,.int 3])
   have q2:=zq h2 (o:=.lst [.int 7])
   have q3:=zq h3 (o:=.lst [.ref a1,.ref a2])
   have q4:=zq h4 (o:=.tup [.int 10,.ref a3])
   have ltq:=(((lt3.same q1).same q2).same q3).same q4
   refine⟨a4,10,a3,[(a1,[1,3]),(a2,[7])],12,rfl,⟨zj,q4 _ _ zj,fun z hz=>?_⟩,zfI,ltq,fun v hv _ H4 s4 lt4=>?_,fun h1 _=>?_⟩
   ·rcases List.mem_cons.mp hz with rfl | hz
    ·exact q4 _ _ (q3 _ _ (q2 _ _ zj))
    ·rw [List.mem_singleton.mp hz];exact q4 _ _ (q3 _ _ zj)
   case refine_3 =>
    have h2:=zc1
    have h1:many (gd [[1,3],[7]] 10) (10^60)<=12:=h1
    omega
   rw [zg8 hv]
   refine⟨rfl,_,rfl,ww ?_⟩
   refine⟨(by show 1<=sizeLine;decide),fun a5 h5=>⟨(by show 1<=sizeLine;decide),fun a6 h6=>⟨(by show 2<=sizeLine;decide),fun a7 h7=>⟨(by show 2<=sizeLine;decide),fun a8 h8=>?_⟩⟩⟩⟩
   have q5:=zq h5 (o:=.lst [.int 0])
   have q6:=zq h6 (o:=.lst [.int 1])
   have q7:=zq h7 (o:=.lst [.ref a5,.ref a6])
   have q8:=zq h8 (o:=.tup [.int 2,.ref a7])
   have ltr:=(((lt4.same q5).same q6).same q7).same q8
   refine⟨a8,2,a7,[(a5,[0]),(a6,[1])],0,rfl,⟨zj,q8 _ _ zj,fun z hz=>?_⟩,zfw,ltr,fun v hv _ H5 s5 lt5=>?_,fun _ h2=>?_⟩
   ·rcases List.mem_cons.mp hz with rfl | hz
    ·exact q8 _ _ (q7 _ _ (q6 _ _ zj))
    ·rw [List.mem_singleton.mp hz];exact q8 _ _ (q7 _ _ zj)
   ·rw [by0 hv]
    exact⟨rfl,kk H5⟩
   ·have h2:0<yQ [[0],[1]] 2 60:=h2
    rw [zfL] at h2
    omega
end
open PySem L2
theorem fb1 {P:List Value->Prop} (h:∀ a,P [a]):∀ us:List Value,us.length=1->P us
 | [a],_=>h a
theorem fb2 {P:List Value->Prop} (h:∀ a b,P [a,b]):∀ us:List Value,us.length=2->P us
 | [a,b],_=>h a b
theorem fb3 {P:List Value->Prop} (h:∀ a b c,P [a,b,c]):∀ us:List Value,us.length=3->P us
 | [a,b,c],_=>h a b c
def FF (K:W.Frag) (n q:Str) (st:Stmt) (f:Addr) (cd:Value):Prop:=∃ (od an:Option Addr) (sl:Array (Option Value)) (oc kV dc pm ct:Value),K.lookup f=some ⟨oc,od,.func (W.fnOf n q (vK st) (xu st) (zu st) .none kV dc pm an cd ct),sl⟩/\W.codeIn K cd q=true/\W.keepIn K (.ref f)=true
def FD (K:W.Frag) (n:Str) (st:Stmt):Prop:=∃ (f:Addr) (cd:Value),W.nsIn K mainGlobals n=some (some (.ref f))/\FF K n n st f cd
def FM (K:W.Frag) (C:Addr) (n q:Str) (st:Stmt):Prop:=∃ (f:Addr) (cd:Value),W.findIn K (.ref C) n=some (some (.ref f))/\W.isFn K (.ref f)=true/\FF K n q st f cd
section
variable {K:W.Frag} {n q:Str} {st:Stmt} {f C:Addr} {cd:Value} {od an:Option Addr} {sl:Array (Option Value)} {oc kV dc pm ct:Value}
theorem fdm (a:W.nsIn K mainGlobals n=some (some (.ref f))) (l:K.lookup f=some ⟨oc,od,.func (W.fnOf n n (vK st) (xu st) (zu st) .none kV dc pm an cd ct),sl⟩) (e:W.codeIn K cd n=true) (k:W.keepIn K (.ref f)=true):FD K n st:=⟨f,cd,a,od,an,sl,oc,kV,dc,pm,ct,l,e,k⟩
theorem fmm (a:W.findIn K (.ref C) n=some (some (.ref f))) (i:W.isFn K (.ref f)=true) (l:K.lookup f=some ⟨oc,od,.func (W.fnOf n q (vK st) (xu st) (zu st) .none kV dc pm an cd ct),sl⟩) (e:W.codeIn K cd q=true) (k:W.keepIn K (.ref f)=true):FM K C n q st:=⟨f,cd,a,i,od,an,sl,oc,kV,dc,pm,ct,l,e,k⟩
def FB (n q:Str) (st:Stmt) (ps:List Str):Prop:=∀ (kV doc pm:Value) (an:Option Addr) (cdv ct:Value) (us:List Value),us.length=ps.length->bindArgs (W.fnOf n q (vK st) (xu st) (zu st) .none kV doc pm an cdv ct) ⟨us,[]⟩=pure (ps.zip us)
theorem FD.df {h:Heap} {mg:Str->Option Value} {ps:List Str} (x:FD K n st) (X:K.In h) (G:h.Ns mainGlobals mg) (b:FB n n st ps):∃ f fd,Df K mg n st ps f fd:=by
 obtain⟨f,cd,a,od,an,sl,oc,kV,dc,pm,ct,l,e,k⟩:=x
 exact⟨_,_,zcT X G a l e k b⟩
theorem FM.mt {ps:List Str} (x:FM K C n q st) (b:FB n q st ps):∃ f fd,Mt K C q n st ps f fd:=by
 obtain⟨f,cd,a,i,od,an,sl,oc,kV,dc,pm,ct,l,e,k⟩:=x
 exact⟨_,_,⟨Jl (st:=st) l e k,(Jl (st:=st) l e k).binds b,⟨a,i,k⟩⟩⟩
end
structure CF (K:W.Frag) (n:Str) (C:Addr):Prop where
 g:W.nsIn K mainGlobals n=some (some (.ref C))
 m:W.mroIn K C (.type "object")=some true
 t:W.typeIn K (.ref C)=some (.type "type")
theorem CF.cls {K:W.Frag} {n:Str} {C D:Addr} {b:Bool} (x:CF K n D) (e:W.mroIn K C (.ref D)=some b):W.kitCls K (.ref C) (.ref D)=some b:=by
 obtain⟨cd,h,_⟩:=Option.bind_eq_some_iff.mp x.m
 show (if ((W.clsIn K D).isSome && W.typeIn K (.ref D) == some (.type "type"))=true then W.subIn K (.ref C) (.ref D) else none)=_
 rw [if_pos (by rw [h,x.t,Option.isSome_some,Bool.true_and];exact beq_self_eq_true _)]
 exact e
theorem CF.no {K:W.Frag} {n:Str} {C D:Addr} (x:CF K n D) (s:W.mroIn K C (.ref C)=some true) (e:W.mroIn K C (.ref D)=some false):W.kitOne K (.ref C) (.ref D)=some false:=by
 unfold W.kitOne
 rw [if_neg (fun q=>by
  have h:Value.ref C=Value.ref D:=eq_of_beq q
  injection h with h
  rw [<- h,s] at e
  cases e)]
 exact x.cls e
theorem zd1 {K:W.Frag} {C:Addr}:W.kitOne K (.ref C) (.ref C)=some true:=by
 unfold W.kitOne
 rw [if_pos (beq_self_eq_true _)]
theorem zfQ {K:W.Frag} {C:Addr} (e:W.mroIn K C (.type "ValueError")=some true):W.kitOne K (.ref C) (.type "ValueError")=some true:=by
 unfold W.kitOne
 split
 ·rfl
 ·show (if W.kitMeta "ValueError" = true then W.subIn K (.ref C) (.type "ValueError") else none)=_
  rw [if_pos (by decide +kernel)]
  exact e
set_option maxHeartbeats 0 in
theorem zf4 {l:W.OpenLaw} {w:World} {K:W.Frag} {h:Heap} {mg:Str->Option Value} {fa T0 c0:Addr} (X:K.In h) (G:h.Ns mainGlobals mg) (hfa:mg "law" = some (.ref fa)) (hcT:W.codeHdIn K c0 T0=true) (hgT:mainGlobals≠T0)
  (x0:FD K "is_whole" ur)
  (x1:FD K "is_number" qt)
  (x2:FD K "is_base" Zq)
  (x3:FD K "is_figure" jG)
  (x4:FD K "are_figures" wV)
  (x5:FD K "writes_number" uf)
  (x6:FD K "is_stretch" qU)
  (x7:FD K "is_rising" qm)
  (x8:FD K "is_bad_list" vY)
  (x9:FD K "is_rule" YM)
  (x10:FD K "check_base" uN)
  (x11:FD K "check_number" vh)
  (x12:FD K "check_rule" xP)
  (x13:FD K "stands_within" wO)
  (x14:FD K "lacks_all" wC)
  (x15:FD K "figures_of" vL)
  (x16:FD K "number_by" jP)
  (x17:FD K "is_good" YK)
  (x18:FD K "begins_one" uO)
  (x19:FD K "longest_stand" ug)
  {f20:Addr} {od20 an20:Option Addr} {sl20:Array (Option Value)} {oc20 kV20 dc20 pm20 ct20:Value} (a20:W.nsIn K mainGlobals "stands_of" = some (some (.ref f20)))
  (l20:K.lookup f20=some ⟨oc20,od20,.func (W.fnOf "stands_of" "stands_of" (vK yj) (xu yj) (zu yj) .none kV20 dc20 pm20 an20 (.ref c0) ct20),sl20⟩) (e20:W.codeIn K (.ref c0) "stands_of" = true) (k20:W.keepIn K (.ref f20)=true)
  (x21:FD K "place_behind" uV)
  (x22:FD K "steps_from" uF)
  (x23:FD K "all_steps" qG)
  (x24:FD K "count_below" ud)
  (x25:FD K "good_at" YG)
  (x26:FD K "good_by" Zm)
  (x27:FD K "place_of" Z0)
  (x28:FD K "last_good" jW)
  (x29:FD K "_law_draws" jb)
  (x30:FD K "_law_take" qx)
  (x31:FD K "_law_rule" qF)
  (x32:FD K "_law_copy" qI)
  (x33:FD K "_law_reader" vX)
  (x34:FD K "_law_after" yg)
  (x35:FD K "_law_ways" uE)
  (x36:FD K "_law_firsts" xj)
  (x37:FD K "_law_long" xQ)
  (x38:FD K "_law_nth" jD)
  (x39:FD K "_law_most" qH)
  (x40:FD K "_law_kinds" tG)
  (x41:FD K "_law_right" uI)
  (x42:FD K "_law_told_right" wZ)
  (x43:FD K "law" VP)
  {qA:Addr} (qDf:CF K "NoBase" qA)
  {qB:Addr} (qDj:CF K "NoNumber" qB)
  {qE:Addr} (qDg:CF K "NoFigures" qE)
  {qS:Addr} (qEb:CF K "NoRule" qS)
  {qV:Addr} (qEd:CF K "NoStand" qV)
  {xA:Addr} (qDh:CF K "NoGood" xA)
  {xB:Addr} (qDd:CF K "Endless" xB)
  {xC:Addr} (qEc:CF K "NoRules" xC)
  {xD:Addr} (qEe:CF K "NoStretch" xD)
  {xE:Addr} (qEg:CF K "TooMany" xE)
  {xI:Addr} (qEf:CF K "NoText" xI)
  {xL:Addr} (qDi:CF K "NoName" xL)
  {xS:Addr} (qEa:CF K "NoRow" xS)
  {yA:Addr} (qDe:CF K "LackError" yA)
  (mLE:W.mroIn K yA (.type "BaseException")=some true)
  (nVE:W.nsIn K mainGlobals "ValueError" = some none)
  (qDc:W.excIn K xE veT "ValueError.__new__" = true) (qBh:W.mroIn K xE (.ref yA)=some true)
  (qBe:Jv K xE) (qEh:W.mroIn K xE (.type "ValueError")=some true)
  (qBj:W.mroIn K xE (.ref qA)=some false)
  (qCd:W.mroIn K xE (.ref qB)=some false)
  (qCa:W.mroIn K xE (.ref qE)=some false)
  (qCf:W.mroIn K xE (.ref qS)=some false)
  (qCh:W.mroIn K xE (.ref qV)=some false)
  (qCb:W.mroIn K xE (.ref xA)=some false)
  (qBi:W.mroIn K xE (.ref xB)=some false)
  (qCg:W.mroIn K xE (.ref xC)=some false)
  (qCi:W.mroIn K xE (.ref xD)=some false)
  (qDa:W.mroIn K xE (.ref xE)=some true)
  (qCj:W.mroIn K xE (.ref xI)=some false)
  (qCc:W.mroIn K xE (.ref xL)=some false)
  (qCe:W.mroIn K xE (.ref xS)=some false)
  {C:Addr} (aC:W.nsIn K mainGlobals "Tails" = some (some (.ref C)))
  (yC0:FM K C "__init__" "Tails.__init__" tR)
  (yC1:FM K C "layer" "Tails.layer" wU)
  (yC2:FM K C "many_by" "Tails.many_by" yV)
  (yC3:FM K C "many_under" "Tails.many_under" yK)
  (yC4:FM K C "many_below" "Tails.many_below" xn)
  (yC5:FM K C "many_within" "Tails.many_within" yW)
  (yC6:FM K C "figure_at" "Tails.figure_at" w5)
  (yC7:FM K C "number_at" "Tails.number_at" xO)
  (yC8:FM K C "are_endless" "Tails.are_endless" xZ)
  (pgC:W.plainGet K C Str.empty=true) (hdC:W.hasDictIn K C=true) (poC:W.plainOver K C=true) (saC:W.findIn K (.ref C) "__setattr__" = some (some (.builtin "object.__setattr__"))) (mkC:W.makesIn K C=true) (kcC:W.keepIn K (.ref C)=true)
  (nC_base:W.findIn K (.ref C) "base" = some none)
  (nC_outset:W.findIn K (.ref C) "outset" = some none)
  (nC_steps:W.findIn K (.ref C) "steps" = some none)
  (nC_layers:W.findIn K (.ref C) "layers" = some none)
  {t0:Tok} (g0:W.nsIn K mainGlobals "LEAST_BASE" = some (some (.int 2 t0)))
  {t1:Tok} (g1:W.nsIn K mainGlobals "GREATEST_BASE" = some (some (.int 16 t1)))
  {t2:Tok} (g2:W.nsIn K mainGlobals "MOST_STRETCHES" = some (some (.int 4 t2)))
  {t3:Tok} (g3:W.nsIn K mainGlobals "LONGEST_STRETCH" = some (some (.int 4 t3)))
  {t4:Tok} (g4:W.nsIn K mainGlobals "MOST_FIGURES" = some (some (.int 60 t4)))
  (z0:W.nsIn K mainGlobals "isinstance" = some none)
  (z1:W.nsIn K mainGlobals "int" = some none)
  (z2:W.nsIn K mainGlobals "bool" = some none)
  (z3:W.nsIn K mainGlobals "list" = some none)
  (z4:W.nsIn K mainGlobals "tuple" = some none)
  (z5:W.nsIn K mainGlobals "reversed" = some none)
  (z6:W.nsIn K mainGlobals "len" = some none)
  (z7:W.nsIn K mainGlobals "max" = some none)
  (z8:W.nsIn K mainGlobals "min" = some none)
  (z9:W.nsIn K mainGlobals "range" = some none)
  (z10:W.nsIn K mainGlobals "all" = some none)
  (z11:W.nsIn K mainGlobals "any" = some none)
  (z12:W.nsIn K mainGlobals "sorted" = some none)
  (z13:W.nsIn K mainGlobals "enumerate" = some none)
  (z14:W.nsIn K mainGlobals "repr" = some none)
  (z15:W.nsIn K mainGlobals "sum" = some none)
  (z16:W.nsIn K mainGlobals "abs" = some none)
  (z17:W.nsIn K mainGlobals "zip" = some none)
  (z18:W.nsIn K mainGlobals "str" = some none)
  : ∃ fd:FuncData,(∀ (s:Shared) (v:Value),BindsTo s fd ⟨[v],[]⟩ [("script",v)])/\∀ base:Heap,K.In base->base.Ns mainGlobals mg->base.BuiltinsAt mg T0->FnOk l.prog w K mg base CX0 213 fa fd ["script"] (JL K T0):=by
 obtain⟨fL,cd43,aL,od43,an43,sl43,oc43,kV43,dc43,pm43,ct43,lL,eL,kL⟩:=x43
 have e:=hfa.symm.trans (W.mg_of X G aL)
 cases e
 have T:Blt mg:=⟨W.mg_none_of X G z0,W.mg_none_of X G z1,W.mg_none_of X G z2,W.mg_none_of X G z3,W.mg_none_of X G z4,W.mg_none_of X G z5,W.mg_none_of X G z6,W.mg_none_of X G z7,W.mg_none_of X G z8,W.mg_none_of X G z9,W.mg_none_of X G z10,W.mg_none_of X G z11,W.mg_none_of X G z12,W.mg_none_of X G z13,W.mg_none_of X G z14⟩
 have U:Vf mg:=⟨W.mg_none_of X G z15,W.mg_none_of X G z16,W.mg_none_of X G z17,W.mg_none_of X G z18⟩
 have Yb:=W.mg_of X G g0
 have qQ:=W.mg_of X G g1
 have tK:=W.mg_of X G g2
 have uP:=W.mg_of X G g3
 have jl:=W.mg_of X G g4
 obtain⟨_,_,yD⟩:=x0.df (ps:=["thing"]) X G fun _ _ _ _ _ _=>fb1 fun _=>rfl
 obtain⟨_,_,vg⟩:=x1.df (ps:=["thing"]) X G fun _ _ _ _ _ _=>fb1 fun _=>rfl
 obtain⟨_,_,jr⟩:=x2.df (ps:=["thing"]) X G fun _ _ _ _ _ _=>fb1 fun _=>rfl
 obtain⟨_,_,Yc⟩:=x3.df (ps:=["base","thing"]) X G fun _ _ _ _ _ _=>fb2 fun _ _=>rfl
 obtain⟨_,_,wN⟩:=x4.df (ps:=["base","thing"]) X G fun _ _ _ _ _ _=>fb2 fun _ _=>rfl
 obtain⟨_,_,uK⟩:=x5.df (ps:=["base","thing"]) X G fun _ _ _ _ _ _=>fb2 fun _ _=>rfl
 obtain⟨_,_,jH⟩:=x6.df (ps:=["base","thing"]) X G fun _ _ _ _ _ _=>fb2 fun _ _=>rfl
 obtain⟨_,_,jA⟩:=x7.df (ps:=["stretches"]) X G fun _ _ _ _ _ _=>fb1 fun _=>rfl
 obtain⟨_,_,qX⟩:=x8.df (ps:=["base","thing"]) X G fun _ _ _ _ _ _=>fb2 fun _ _=>rfl
 obtain⟨_,_,Wg⟩:=x9.df (ps:=["thing"]) X G fun _ _ _ _ _ _=>fb1 fun _=>rfl
 obtain⟨_,_,vm⟩:=x10.df (ps:=["thing"]) X G fun _ _ _ _ _ _=>fb1 fun _=>rfl
 obtain⟨_,_,xU⟩:=x11.df (ps:=["thing"]) X G fun _ _ _ _ _ _=>fb1 fun _=>rfl
 obtain⟨_,_,zV⟩:=x12.df (ps:=["thing"]) X G fun _ _ _ _ _ _=>fb1 fun _=>rfl
 obtain⟨_,_,vq⟩:=x13.df (ps:=["stretch","figures"]) X G fun _ _ _ _ _ _=>fb2 fun _ _=>rfl
 obtain⟨_,_,yO⟩:=x14.df (ps:=["bad","figures"]) X G fun _ _ _ _ _ _=>fb2 fun _ _=>rfl
 obtain⟨_,_,xg⟩:=x15.df (ps:=["base","n"]) X G fun _ _ _ _ _ _=>fb2 fun _ _=>rfl
 obtain⟨_,_,ZZ⟩:=x16.df (ps:=["base","figures"]) X G fun _ _ _ _ _ _=>fb2 fun _ _=>rfl
 obtain⟨_,_,X4⟩:=x17.df (ps:=["rule","n"]) X G fun _ _ _ _ _ _=>fb2 fun _ _=>rfl
 obtain⟨_,_,qy⟩:=x18.df (ps:=["bad","figures"]) X G fun _ _ _ _ _ _=>fb2 fun _ _=>rfl
 obtain⟨_,_,uT⟩:=x19.df (ps:=["bad","figures"]) X G fun _ _ _ _ _ _=>fb2 fun _ _=>rfl
 have Z3:Df K mg "stands_of" yj ["bad"] _ _:=zcT X G a20 l20 e20 k20 fun _ _ _ _ _ _=>fb1 fun _=>rfl
 obtain⟨_,_,ql⟩:=x21.df (ps:=["bad","stands","figures"]) X G fun _ _ _ _ _ _=>fb3 fun _ _ _=>rfl
 obtain⟨_,_,jU⟩:=x22.df (ps:=["rule","stands","stand"]) X G fun _ _ _ _ _ _=>fb3 fun _ _ _=>rfl
 obtain⟨_,_,ZV⟩:=x23.df (ps:=["rule","stands"]) X G fun _ _ _ _ _ _=>fb2 fun _ _=>rfl
 obtain⟨_,_,wL⟩:=x24.df (ps:=["rule","n"]) X G fun _ _ _ _ _ _=>fb2 fun _ _=>rfl
 obtain⟨_,_,Wk⟩:=x25.df (ps:=["tails","k"]) X G fun _ _ _ _ _ _=>fb2 fun _ _=>rfl
 obtain⟨_,_,qJ⟩:=x26.df (ps:=["rule","k"]) X G fun _ _ _ _ _ _=>fb2 fun _ _=>rfl
 obtain⟨_,_,YC⟩:=x27.df (ps:=["rule","n"]) X G fun _ _ _ _ _ _=>fb2 fun _ _=>rfl
 obtain⟨_,_,Z7⟩:=x28.df (ps:=["rule","n"]) X G fun _ _ _ _ _ _=>fb2 fun _ _=>rfl
 obtain⟨_,_,qD⟩:=x29.df (ps:=["script","many"]) X G fun _ _ _ _ _ _=>fb2 fun _ _=>rfl
 obtain⟨_,_,yq⟩:=x30.df (ps:=["store","many"]) X G fun _ _ _ _ _ _=>fb2 fun _ _=>rfl
 obtain⟨_,_,Zv⟩:=x31.df (ps:=["store"]) X G fun _ _ _ _ _ _=>fb1 fun _=>rfl
 obtain⟨_,_,jq⟩:=x32.df (ps:=["rule"]) X G fun _ _ _ _ _ _=>fb1 fun _=>rfl
 obtain⟨_,_,uL⟩:=x33.df (ps:=["rule"]) X G fun _ _ _ _ _ _=>fb1 fun _=>rfl
 obtain⟨_,_,zK⟩:=x34.df (ps:=["reader","stand","figure"]) X G fun _ _ _ _ _ _=>fb3 fun _ _ _=>rfl
 obtain⟨_,_,vz⟩:=x35.df (ps:=["reader","stand","left"]) X G fun _ _ _ _ _ _=>fb3 fun _ _ _=>rfl
 obtain⟨_,_,yz⟩:=x36.df (ps:=["reader","stand","first","end","left"]) X G fun _ _ _ _ _ _ us hl=>match us,hl with | [_,_,_,_,_],_=>rfl
 obtain⟨_,_,yw⟩:=x37.df (ps:=["reader","length"]) X G fun _ _ _ _ _ _=>fb2 fun _ _=>rfl
 obtain⟨_,_,YD⟩:=x38.df (ps:=["reader","k"]) X G fun _ _ _ _ _ _=>fb2 fun _ _=>rfl
 obtain⟨_,_,Z9⟩:=x39.df (ps:=["reader"]) X G fun _ _ _ _ _ _=>fb1 fun _=>rfl
 obtain⟨_,_,qu⟩:=x40.df (ps:=["caught","due"]) X G fun _ _ _ _ _ _=>fb2 fun _ _=>rfl
 obtain⟨_,_,wD⟩:=x41.df (ps:=["handed","reader","most","k"]) X G fun _ _ _ _ _ _ us hl=>match us,hl with | [_,_,_,_],_=>rfl
 obtain⟨_,_,vD⟩:=x42.df (ps:=["handed","reader","most"]) X G fun _ _ _ _ _ _=>fb3 fun _ _ _=>rfl
 have Dlaw:Df K mg "law" VP ["script"] _ _:=zcT X G aL lL eL kL fun _ _ _ _ _ _=>fb1 fun _=>rfl
 obtain⟨_,_,qN⟩:=yC0.mt (ps:=["self","rule"]) fun _ _ _ _ _ _=>fb2 fun _ _=>rfl
 have ZP:Mk K C _:=let ⟨a,i,_⟩:=qN.m;⟨mkC,a,i,kcC⟩
 have ZF:=qN.b
 obtain⟨_,_,xf⟩:=yC1.mt (ps:=["self","left"]) fun _ _ _ _ _ _=>fb2 fun _ _=>rfl
 obtain⟨_,_,zQ⟩:=yC2.mt (ps:=["self","layer","place","stop"]) fun _ _ _ _ _ _ us hl=>match us,hl with | [_,_,_,_],_=>rfl
 obtain⟨_,_,zR⟩:=yC3.mt (ps:=["self","place","stop","left"]) fun _ _ _ _ _ _ us hl=>match us,hl with | [_,_,_,_],_=>rfl
 obtain⟨_,_,yx⟩:=yC4.mt (ps:=["self","figures"]) fun _ _ _ _ _ _=>fb2 fun _ _=>rfl
 obtain⟨_,_,yd⟩:=yC5.mt (ps:=["self","size"]) fun _ _ _ _ _ _=>fb2 fun _ _=>rfl
 obtain⟨_,_,vH⟩:=yC6.mt (ps:=["self","place","k","left"]) fun _ _ _ _ _ _ us hl=>match us,hl with | [_,_,_,_],_=>rfl
 obtain⟨_,_,yL⟩:=yC7.mt (ps:=["self","size","k"]) fun _ _ _ _ _ _=>fb3 fun _ _ _=>rfl
 obtain⟨_,_,wK⟩:=yC8.mt (ps:=["self"]) fun _ _ _ _ _ _=>fb1 fun _=>rfl
 have zA:ClT K mg C:=⟨⟨pgC,hdC,poC,saC⟩,W.mg_of X G aC,nC_base,nC_outset,nC_steps,nC_layers⟩
 refine⟨W.fnOf "law" "law" (vK VP) (xu VP) (zu VP) .none kV43 dc43 pm43 an43 cd43 ct43,fun s v=>.of_eq rfl,fun base _ _ hBM=>?_⟩
 have XN:zbk mg qA qB qE qS qV xA xB xC xD xE xI xL xS:=⟨W.mg_of X G qDf.g,W.mg_of X G qDj.g,W.mg_of X G qDg.g,W.mg_of X G qEb.g,W.mg_of X G qEd.g,W.mg_of X G qDh.g,W.mg_of X G qDd.g,W.mg_of X G qEc.g,W.mg_of X G qEe.g,W.mg_of X G qEg.g,W.mg_of X G qEf.g,W.mg_of X G qDi.g,W.mg_of X G qEa.g⟩
 have qDb:mg "ValueError" = none:=W.mg_none_of X G nVE
 have qBd:zbs K mg "LackError" yA:=⟨W.mg_of X G qDe.g,mLE⟩
 have qEi:zfA K mg "TooMany" xE:=⟨W.mg_of X G qEg.g,qDc⟩
 have qBg:W.kitCls K (.ref xE) (.ref yA)=some true:=qDe.cls qBh
 have qBf:zdM K xE qA qB qE qS qV xA xB xC xD xE xI xL xS 9:=⟨qBe,zfQ qEh,qDf.no qDa qBj,qDj.no qDa qCd,qDg.no qDa qCa,qEb.no qDa qCf,qEd.no qDa qCh,qDh.no qDa qCb,qDd.no qDa qBi,qEc.no qDa qCg,qEe.no qDa qCi,zd1,qEf.no qDa qCj,qDi.no qDa qCc,qEa.no qDa qCe⟩
 have ji:FnOk l.prog w K mg base CX0 1 _ _ ["thing"] qp:=jL yD T
 have Zk:FnOk l.prog w K mg base CX0 2 _ _ ["thing"] ZL:=zbc jr yD T Yb qQ
 have uD:FnOk l.prog w K mg base CX0 3 _ _ ["thing"] qg:=U6 vm jr Zk
 have jE:FnOk l.prog w K mg base CX0 2 _ _ ["thing"] qZ:=XQ vg yD T
 have wQ:FnOk l.prog w K mg base CX0 3 _ _ ["thing"] ue:=Va xU vg yD T
 have xR:FnOk l.prog w K mg base CX0 4 _ _ ["base","n"] vZ:=Qa xg vm uD xU wQ T
 have Xw:FnOk l.prog w K mg base CX0 2 _ _ ["base","thing"] ZS:=JH Yc yD T
 have vI:FnOk l.prog w K mg base CX0 3 _ _ ["base","thing"] uY:=Vr wN Yc Xw T
 have Yv:FnOk l.prog w K mg base CX0 4 _ _ ["base","thing"] jZ:=Qc jH wN vI uP T
 have V1:FnOk l.prog w K mg base CX0 1 _ _ ["stretches"] ZR:=Wi jA T
 have ZK:FnOk l.prog w K mg base CX0 5 _ _ ["base","thing"] jo:=Ug qX jH Yv jA tK T
 have VG:FnOk l.prog w K mg base CX0 6 _ _ ["thing"] Xp:=zbz Wg jr Zk qX ZK T
 have ye:FnOk l.prog w K mg base CX0 7 _ _ ["thing"] xX:=U9 zV Wg VG
 have Yk:FnOk l.prog w K mg base CX0 1 _ _ ["stretch","figures"] tU:=Zr vq T
 have yU:FnOk l.prog w K mg base CX0 2 _ _ ["bad","figures"] vN:=JN yO vq T
 have Uu:FnOk l.prog w K mg base CX0 8 _ _ ["rule","n"] Xj:=zba X4 zV ye yO yU xg xR T
 have W3:FnOk l.prog w K mg base CX0 1 _ _ ["bad","figures"] j6:=Xe qy T
 have jw:FnOk l.prog w K mg base CX0 3 _ _ ["bad","figures"] tX:=Wv uT yO yU qy T
 have XF:FnOk l.prog w K mg base CX0 6 _ _ ["bad"] (Z6 T0):=JD Z3 rfl hcT hBM hgT yO yU T
 have Zb:FnOk l.prog w K mg base CX0 4 _ _ ["bad","stands","figures"] qP:=Vb ql uT jw
 have Yw:FnOk l.prog w K mg base CX0 5 _ _ ["rule","stands","stand"] j8:=U7 jU ql Zb T
 have Xl:FnOk l.prog w K mg base CX0 6 _ _ ["rule","stands"] Zz:=Jj ZV jU Yw T
 have uG:FnOk l.prog w K mg base CX0 1 _ _ ["self","layer","place","stop"] (Zy C):=Xv zQ zA T U
 have jf:FnOk l.prog w K mg base CX0 2 _ _ ["self","left"] (Wj C):=Uv xf zQ zA T U
 have zY:FnOk l.prog w K mg base CX0 3 _ _ ["self","place","stop","left"] (vW C):=Qd zR xf zQ zA T U
 have yp:FnOk l.prog w K mg base CX0 3 _ _ ["self","size"] (uJ C):=V2 yd xf zQ zA T U
 have yR:FnOk l.prog w K mg base CX0 4 _ _ ["self","figures"] (qj C):=U5 yx zR zY zA T
 have tV:FnOk l.prog w K mg base CX0 4 _ _ ["self","place","k","left"] (ZG C):=JX vH zR zY zA T
 have xm:FnOk l.prog w K mg base CX0 5 _ _ ["self","size","k"] (je C):=Jm yL zR zY vH tV zA T
 have xK:FnOk l.prog w K mg base CX0 7 _ _ ["self","rule"] (Zf T0 C):=zdr qN Z3 XF ZV Xl yO yU zA T
 have uq:FnOk l.prog w K mg base CX0 4 _ _ ["self"] (jx C):=VB wK yd yp zA
 have Ub:FnOk l.prog w K mg base (CX1 l.prog w) 6 _ _ ["tails","k"] (XH C xE):=zbv Wk xU wQ yd yp yL xm wK uq zA jl qEi T
 have uM:FnOk l.prog w K mg base (CX1 l.prog w) 9 _ _ ["rule","k"] (ZM T0 xE):=za0 qJ zV ye Wk Ub ZP ZF xK zA
 have vJ:FnOk l.prog w K mg base CX0 9 _ _ ["rule","n"] (uW T0):=VJ wL zV ye xg xR ZP ZF xK yx yR zA
 have XD:FnOk l.prog w K mg base CX0 9 _ _ ["rule","n"] (Zw T0):=JV Z7 zV ye xg xR ZP ZF xK yx yR yL xm zA T
 have Wo:FnOk l.prog w K mg base CX0 10 _ _ ["rule","n"] (Yt T0):=zaG YC zV ye vg jE X4 Uu wL vJ
 have xT:FnOk l.prog w K mg base CX0 1 _ _ ["store","many"] (qW T0):=Z5 yq T
 have W4:FnOk l.prog w K mg base CX0 1 _ _ ["script","many"] (Zd K):=Xb qD T U
 have Xz:FnOk l.prog w K mg base CX0 2 _ _ ["store"] (ZC T0):=JK Zv yq T
 have ju:FnOk l.prog w K mg base CX0 4 _ _ ["base","thing"] tL:=Wz uK wN vI T
 have Xm:FnOk l.prog w K mg base CX0 5 _ _ ["base","figures"] ZQ:=Q0 ZZ vm uD uK ju T
 have X5:FnOk l.prog w K mg base CX0 1 _ _ ["rule"] (jk l.prog w):=Yr uL T
 have wF:FnOk l.prog w K mg base CX0 1 _ _ ["reader","stand","figure"] (wR l.prog w):=vV zK T
 have um:FnOk l.prog w K mg base CX0 207 _ _ ["reader","stand","left"] (uQ l.prog w 205):=Jb vz zK T
 have yP:FnOk l.prog w K mg base CX0 208 _ _ ["reader","stand","first","end","left"] (xr l.prog w 205):=Uq yz zK vz um T
 have yM:FnOk l.prog w K mg base CX0 209 _ _ ["reader","length"] (wM l.prog w 205):=JC yw yz yP T U
 have WL:FnOk l.prog w K mg base CX0 210 _ _ ["reader","k"] (jK l.prog w 205):=zae YD zK yz yP yw yM T U
 have UL:FnOk l.prog w K mg base CX0 1 _ _ ["rule"] Zx:=Wh jq T
 have Xn:FnOk l.prog w K mg base CX0 210 _ _ ["reader"] (Z1 l.prog w):=Ju Z9 zK yw yM T U
 have W9:FnOk l.prog w K mg base CX0 1 _ _ ["caught","due"] (jY K qA qB qE qS qV xA xB xC xD xE xI xL xS):=Y8 qu XN qDb T
 have vp:FnOk l.prog w K mg base CX0 211 _ _ ["handed","reader","most","k"] (qe l.prog w T0):=U8 wD qJ uM yw yM YD WL qu XN qDb qBd qBg qBf T
 have tO:FnOk l.prog w K mg base CX0 212 _ _ ["handed","reader","most"] (ut l.prog w T0):=Xh vD ZZ Xm wL vJ Z7 XD YC Wo wD vp T
 exact zfr Dlaw qD Zv Xz jq uL yq Z9 Xn vD tO wD vp qJ uM T U
theorem walk2 {l:W.OpenLaw} {q:Program} {loose:List Str} {XP:(Str->Option Value)->Heap->Prop} {YP:World->Heap->Prop} {d:DefRec} {K:Params->W.Frag} {c T0:Addr} (hn:l.most=some 63) (hdf:d.params.defaults=[])
  (hY:∀ (w:World) (h:Heap),YP w h->(K w.params).In h) (hYT:∀ (w:World) (h:Heap),YP w h->h.get? T0=some (W.tabObj #[])) (hKT:∀ w:World,(K w.params).lookup T0=none) (hcT:∀ w:World,W.codeHdIn (K w.params) c T0=true)
  (F:∀ (w:World) (mg:Str->Option Value) (fa:Addr) (h:Heap),(K w.params).In h->h.Ns mainGlobals mg->mg d.name=some (.ref fa) ->
   ∃ fd:FuncData,(∀ (s:Shared) (u:Value),BindsTo s fd ⟨[u],[]⟩ [("script",u)])/\∀ base:Heap,(K w.params).In base->base.Ns mainGlobals mg->base.BuiltinsAt mg T0->FnOk l.prog w (K w.params) mg base CX0 213 fa fd ["script"] (JL (K w.params) T0)) :
  W.WalkO q loose XP YP l.row.toRowW d [] (fun f vs=>PySem.call f vs) :=
 L2.zgx (n:=63) (k:=213) (x:="script") (sp:=fun w=>JL (K w.params) T0) hn (by decide) hdf ⟨rfl,by decide,by decide,rfl⟩ hY hYT hKT hcT F (fun w H a ns hl hT hS=>⟨a,ns,rfl,hS,hl,.inl hT,fun _=>rfl⟩)
end Lw
open PySem PySem.W PyProof.Rows
set_option maxRecDepth 100000 in
set_option maxHeartbeats 0 in
theorem PySem.Challenge.cw_lackstretch_k13_good_ones_by_place_holds : PySem.Challenge.rw_lackstretch_k13_good_ones_by_place.Holds := by
 w_on;o_law;k_head;(case hw=>w_witness2)
 k_fill
 refine Lw.walk2 (l:=PySem.Challenge.rw_lackstretch_k13_good_ones_by_place) (c:=317) (T0:=313) rfl rfl (fun w h Y=>W.km_in_of Y) (fun w h Y=>W.km_tabs_of Y 313 (by decide)) (fun w=>by kernel_rfl) (fun w=>by kernel_rfl) ?F
 case F =>
  intro w mg fa h KX G hmg
  refine' Lw.zf4 (c0:=317) (T0:=313) KX G hmg (by kernel_rfl) (by decide) ?yyx0 ?yyx1 ?yyx2 ?yyx3 ?yyx4 ?yyx5 ?yyx6 ?yyx7 ?yyx8 ?yyx9 ?yyx10 ?yyx11 ?yyx12 ?yyx13 ?yyx14 ?yyx15 ?yyx16 ?yyx17 ?yyx18 ?yyx19 ?yya20 ?yyl20 ?yye20 ?yyk20 ?yyx21 ?yyx22 ?yyx23 ?yyx24 ?yyx25 ?yyx26 ?yyx27 ?yyx28 ?yyx29 ?yyx30 ?yyx31 ?yyx32 ?yyx33 ?yyx34 ?yyx35 ?yyx36 ?yyx37 ?yyx38 ?yyx39 ?yyx40 ?yyx41 ?yyx42 ?yyx43 ?yyqDf ?yyqDj ?yyqDg ?yyqEb ?yyqEd ?yyqDh ?yyqDd ?yyqEc ?yyqEe ?yyqEg ?yyqEf ?yyqDi ?yyqEa ?yyqDe ?yymLE ?yynVE ?yyqDc ?yyqBh ?yyqBe ?yyqEh ?yyqBj ?yyqCd ?yyqCa ?yyqCf ?yyqCh ?yyqCb ?yyqBi ?yyqCg ?yyqCi ?yyqDa ?yyqCj ?yyqCc ?yyqCe ?yyaC ?yyyC0 ?yyyC1 ?yyyC2 ?yyyC3 ?yyyC4 ?yyyC5 ?yyyC6 ?yyyC7 ?yyyC8 ?yypgC ?yyhdC ?yypoC ?yysaC ?yymkC ?yykcC ?yynC_base ?yynC_outset ?yynC_steps ?yynC_layers ?yyg0 ?yyg1 ?yyg2 ?yyg3 ?yyg4 ?yyz0 ?yyz1 ?yyz2 ?yyz3 ?yyz4 ?yyz5 ?yyz6 ?yyz7 ?yyz8 ?yyz9 ?yyz10 ?yyz11 ?yyz12 ?yyz13 ?yyz14 ?yyz15 ?yyz16 ?yyz17 ?yyz18
  (case yyx0=>refine' Lw.fdm ?_ ?_ ?_ ?_<;>try k_is)
  (case yyx1=>refine' Lw.fdm ?_ ?_ ?_ ?_<;>try k_is)
  (case yyx2=>refine' Lw.fdm ?_ ?_ ?_ ?_<;>try k_is)
  (case yyx3=>refine' Lw.fdm ?_ ?_ ?_ ?_<;>try k_is)
  (case yyx4=>refine' Lw.fdm ?_ ?_ ?_ ?_<;>try k_is)
  (case yyx5=>refine' Lw.fdm ?_ ?_ ?_ ?_<;>try k_is)
  (case yyx6=>refine' Lw.fdm ?_ ?_ ?_ ?_<;>try k_is)
  (case yyx7=>refine' Lw.fdm ?_ ?_ ?_ ?_<;>try k_is)
  (case yyx8=>refine' Lw.fdm ?_ ?_ ?_ ?_<;>try k_is)
  (case yyx9=>refine' Lw.fdm ?_ ?_ ?_ ?_<;>try k_is)
  (case yyx10=>refine' Lw.fdm ?_ ?_ ?_ ?_<;>try k_is)
  (case yyx11=>refine' Lw.fdm ?_ ?_ ?_ ?_<;>try k_is)
  (case yyx12=>refine' Lw.fdm ?_ ?_ ?_ ?_<;>try k_is)
  (case yyx13=>refine' Lw.fdm ?_ ?_ ?_ ?_<;>try k_is)
  (case yyx14=>refine' Lw.fdm ?_ ?_ ?_ ?_<;>try k_is)
  (case yyx15=>refine' Lw.fdm ?_ ?_ ?_ ?_<;>try k_is)
  (case yyx16=>refine' Lw.fdm ?_ ?_ ?_ ?_<;>try k_is)
  (case yyx17=>refine' Lw.fdm ?_ ?_ ?_ ?_<;>try k_is)
  (case yyx18=>refine' Lw.fdm ?_ ?_ ?_ ?_<;>try k_is)
  (case yyx19=>refine' Lw.fdm ?_ ?_ ?_ ?_<;>try k_is)
  (case yya20=>k_is)
  (case yyl20=>k_is)
  (case yye20=>k_is)
  (case yyk20=>k_is)
  (case yyx21=>refine' Lw.fdm ?_ ?_ ?_ ?_<;>try k_is)
  (case yyx22=>refine' Lw.fdm ?_ ?_ ?_ ?_<;>try k_is)
  (case yyx23=>refine' Lw.fdm ?_ ?_ ?_ ?_<;>try k_is)
  (case yyx24=>refine' Lw.fdm ?_ ?_ ?_ ?_<;>try k_is)
  (case yyx25=>refine' Lw.fdm ?_ ?_ ?_ ?_<;>try k_is)
  (case yyx26=>refine' Lw.fdm ?_ ?_ ?_ ?_<;>try k_is)
  (case yyx27=>refine' Lw.fdm ?_ ?_ ?_ ?_<;>try k_is)
  (case yyx28=>refine' Lw.fdm ?_ ?_ ?_ ?_<;>try k_is)
  (case yyx29=>refine' Lw.fdm ?_ ?_ ?_ ?_<;>try k_is)
  (case yyx30=>refine' Lw.fdm ?_ ?_ ?_ ?_<;>try k_is)
  (case yyx31=>refine' Lw.fdm ?_ ?_ ?_ ?_<;>try k_is)
  (case yyx32=>refine' Lw.fdm ?_ ?_ ?_ ?_<;>try k_is)
  (case yyx33=>refine' Lw.fdm ?_ ?_ ?_ ?_<;>try k_is)
  (case yyx34=>refine' Lw.fdm ?_ ?_ ?_ ?_<;>try k_is)
  (case yyx35=>refine' Lw.fdm ?_ ?_ ?_ ?_<;>try k_is)
  (case yyx36=>refine' Lw.fdm ?_ ?_ ?_ ?_<;>try k_is)
  (case yyx37=>refine' Lw.fdm ?_ ?_ ?_ ?_<;>try k_is)
  (case yyx38=>refine' Lw.fdm ?_ ?_ ?_ ?_<;>try k_is)
  (case yyx39=>refine' Lw.fdm ?_ ?_ ?_ ?_<;>try k_is)
  (case yyx40=>refine' Lw.fdm ?_ ?_ ?_ ?_<;>try k_is)
  (case yyx41=>refine' Lw.fdm ?_ ?_ ?_ ?_<;>try k_is)
  (case yyx42=>refine' Lw.fdm ?_ ?_ ?_ ?_<;>try k_is)
  (case yyx43=>refine' Lw.fdm ?_ ?_ ?_ ?_<;>try k_is)
  (case yyqDf=>refine' ⟨?_,?_,?_⟩<;>try k_is)
  (case yyqDj=>refine' ⟨?_,?_,?_⟩<;>try k_is)
  (case yyqDg=>refine' ⟨?_,?_,?_⟩<;>try k_is)
  (case yyqEb=>refine' ⟨?_,?_,?_⟩<;>try k_is)
  (case yyqEd=>refine' ⟨?_,?_,?_⟩<;>try k_is)
  (case yyqDh=>refine' ⟨?_,?_,?_⟩<;>try k_is)
  (case yyqDd=>refine' ⟨?_,?_,?_⟩<;>try k_is)
  (case yyqEc=>refine' ⟨?_,?_,?_⟩<;>try k_is)
  (case yyqEe=>refine' ⟨?_,?_,?_⟩<;>try k_is)
  (case yyqEg=>refine' ⟨?_,?_,?_⟩<;>try k_is)
  (case yyqEf=>refine' ⟨?_,?_,?_⟩<;>try k_is)
  (case yyqDi=>refine' ⟨?_,?_,?_⟩<;>try k_is)
  (case yyqEa=>refine' ⟨?_,?_,?_⟩<;>try k_is)
  (case yyqDe=>refine' ⟨?_,?_,?_⟩<;>try k_is)
  (case yymLE=>k_is)
  (case yynVE=>k_is)
  (case yyqDc=>k_exc)
  (case yyqBh=>k_is)
  (case yyqBe=>refine' ⟨?_,?_,?_,?_,?_,?_,?_⟩<;>k_is)
  (case yyqEh=>k_is)
  (case yyqBj=>k_is)
  (case yyqCd=>k_is)
  (case yyqCa=>k_is)
  (case yyqCf=>k_is)
  (case yyqCh=>k_is)
  (case yyqCb=>k_is)
  (case yyqBi=>k_is)
  (case yyqCg=>k_is)
  (case yyqCi=>k_is)
  (case yyqDa=>k_is)
  (case yyqCj=>k_is)
  (case yyqCc=>k_is)
  (case yyqCe=>k_is)
  (case yyaC=>k_is)
  (case yyyC0=>refine' Lw.fmm ?_ ?_ ?_ ?_ ?_<;>try k_is)
  (case yyyC1=>refine' Lw.fmm ?_ ?_ ?_ ?_ ?_<;>try k_is)
  (case yyyC2=>refine' Lw.fmm ?_ ?_ ?_ ?_ ?_<;>try k_is)
  (case yyyC3=>refine' Lw.fmm ?_ ?_ ?_ ?_ ?_<;>try k_is)
  (case yyyC4=>refine' Lw.fmm ?_ ?_ ?_ ?_ ?_<;>try k_is)
  (case yyyC5=>refine' Lw.fmm ?_ ?_ ?_ ?_ ?_<;>try k_is)
  (case yyyC6=>refine' Lw.fmm ?_ ?_ ?_ ?_ ?_<;>try k_is)
  (case yyyC7=>refine' Lw.fmm ?_ ?_ ?_ ?_ ?_<;>try k_is)
  (case yyyC8=>refine' Lw.fmm ?_ ?_ ?_ ?_ ?_<;>try k_is)
  (case yypgC=>k_is)
  (case yyhdC=>k_is)
  (case yypoC=>k_is)
  (case yysaC=>k_is)
  (case yymkC=>k_is)
  (case yykcC=>k_is)
  (case yynC_base=>k_is)
  (case yynC_outset=>k_is)
  (case yynC_steps=>k_is)
  (case yynC_layers=>k_is)
  (case yyg0=>k_is)
  (case yyg1=>k_is)
  (case yyg2=>k_is)
  (case yyg3=>k_is)
  (case yyg4=>k_is)
  (case yyz0=>k_is)
  (case yyz1=>k_is)
  (case yyz2=>k_is)
  (case yyz3=>k_is)
  (case yyz4=>k_is)
  (case yyz5=>k_is)
  (case yyz6=>k_is)
  (case yyz7=>k_is)
  (case yyz8=>k_is)
  (case yyz9=>k_is)
  (case yyz10=>k_is)
  (case yyz11=>k_is)
  (case yyz12=>k_is)
  (case yyz13=>k_is)
  (case yyz14=>k_is)
  (case yyz15=>k_is)
  (case yyz16=>k_is)
  (case yyz17=>k_is)
  (case yyz18=>k_is)
