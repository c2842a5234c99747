import PyProof.Rows.All
import Wide.All
import OpenK.AllK
import Wide.FinOn
import Lean
import PyProof.EqAt
import PyProof.EqKinds
import PyProof.TupleCall
import KE.KSortTup
import PyProof.EnumMake
import PyProof.EnumStmt
import PyProof.EnumFor
import PyProof.TupleKey
import PyProof.Rows.SetFrom
import PyProof.IsRules
import PyProof.DictWalks
import PyProof.FactsAll.set
import PyProof.CollectIter
import PyProof.ConsumeS
import PySem.SetOps
import KE.KDictList
import PyProof.DictRoadsH
import PyProof.DictFindH
import PyProof.Rows.SortRuns
import PyProof.Draws
import PyProof.Rows.TupIter
import PyProof.Rows.FStr
import PyProof.StrCalls2
import PyProof.SliceStr2
import PyProof.StrBlockI
import PyProof.StrLawsNeg
import PyProof.StrLawsJoin
import KE.KIntText
import PyProof.RaisesStr
import PyProof.ConsumeWalk
import PyProof.WalkInts
import PyProof.DictUpdate
import KE.KDictOf
import PySem.Challenge.RW_scenemend_k46_there_and_back
set_option Elab.async false
set_option linter.all false
set_option maxRecDepth 100000
theorem oB{α β:Type}{x:Option α}{f:α->Option β}{b:β}(h:x.bind f=some b):∃a,x=some a/\f a=some b:=Option.bind_eq_some_iff.mp h
theorem oM{α β:Type}{x:Option α}{f:α->β}{b:β}(h:x.map f=some b):∃a,x=some a/\f a=b:=Option.map_eq_some_iff.mp h
section
namespace L2
open PySem PySem.Spec PyProof.Rows
abbrev Key:=Sum Int Str
def fJ:Key->Value->Bool
 |.inl k,v=>Value.isInt k v
 |.inr x,v=>Value.isStrOf x v
def ph(w:World):Key->Int
 |.inl k=>hashInt k
 |.inr x=>hashStr w x
theorem Ex:∀{k:Key} {v:Value},fJ k v=true->(∃i t,k=Sum.inl i/\v=Value.int i t)\/(∃x t,k=Sum.inr x/\v=Value.str x t)
 |.inl i,v,h=>by
  obtain⟨t,e⟩:=Value.isInt_shape (k:=i) (v:=v) h
  exact .inl ⟨i,t,rfl,e⟩
 |.inr x,v,h=>by
  obtain⟨t,e⟩:=Value.isStrOf_shape (x:=x) (v:=v) h
  exact .inr ⟨x,t,rfl,e⟩
theorem gi(x:Str)(t:Tok):fJ (.inr x) (.str x t)=true:=by simp[fJ,Value.isStrOf]
theorem nE(a b:Int):decide ((Sum.inl a:Key)=Sum.inl b)=(a==b):=by
 by_cases e:a=b
 ·subst e;simp
 ·have h:¬(Sum.inl a:Key)=Sum.inl b:=fun q=>e (Sum.inl.inj q)
  rw[decide_eq_false h]
  exact(beq_eq_false_iff_ne.mpr e).symm
theorem nB(a b:Str):decide ((Sum.inr a:Key)=Sum.inr b)=decide (a=b):=by
 by_cases e:a=b
 ·subst e;simp
 ·have h:¬(Sum.inr a:Key)=Sum.inr b:=fun q=>e (Sum.inr.inj q)
  rw[decide_eq_false h,decide_eq_false e]
theorem nD(a:Int)(b:Str):decide ((Sum.inl a:Key)=Sum.inr b)=false:=decide_eq_false (fun q=>nomatch q)
theorem nC(a:Str)(b:Int):decide ((Sum.inr a:Key)=Sum.inl b)=false:=decide_eq_false (fun q=>nomatch q)
def Q8(prog:Program)(w:World):PySem.KeyKind prog w Key where
 is:=fJ
 hash:=ph w
 inj:=fun v a b ha hb=>by
  rcases Ex ha with ⟨i,t,rfl,rfl⟩|⟨x,t,rfl,rfl⟩
  ·rcases Ex hb with ⟨j,u,rfl,e⟩|⟨y,u,rfl,e⟩
   ·injection e with e1 _;rw[e1]
   ·exact nomatch e
  ·rcases Ex hb with ⟨j,u,rfl,e⟩|⟨y,u,rfl,e⟩
   ·exact nomatch e
   ·injection e with e1 _;rw[e1]
 byValue:=fun k v h=>by
  rcases Ex h with ⟨i,t,rfl,rfl⟩|⟨x,t,rfl,rfl⟩<;>rfl
 pyHash:=fun hv h=>by
  rcases Ex hv with ⟨i,t,rfl,rfl⟩|⟨x,t,rfl,rfl⟩
  ·exact wpAny_pyHash_int h
  ·exact wpAny_pyHash_str h
 eqBool:=fun hu hv h=>by
  rcases Ex hu with ⟨i,t,rfl,rfl⟩|⟨x,t,rfl,rfl⟩
  ·rcases Ex hv with ⟨j,u,rfl,rfl⟩|⟨y,u,rfl,rfl⟩
   ·rw[nE]at h;exact wpAny_eqBool_int h
   ·rw[nD]at h;exact SeqAt.EqAt.int_str i t y u _ _ _ _ h
  ·rcases Ex hv with ⟨j,u,rfl,rfl⟩|⟨y,u,rfl,rfl⟩
   ·rw[nC]at h;exact SeqAt.EqAt.str_int x t j u _ _ _ _ h
   ·rw[nB]at h;exact wpAny_eqBool_str h
 «strs»:=fun k x t v h=>by
  rcases Ex h with ⟨i,u,rfl,e⟩|⟨y,u,rfl,e⟩
  ·exact nomatch e
  ·injection e with e1 _
   subst e1
   cases v<;>rfl
theorem bQ(prog:Program)(w:World)(x:Str)(t:Tok):(Q8 prog w).is (.inr x) (.str x t)=true:=gi x t
end L2
namespace L2
open PySem PySem.Spec PyProof.Rows
inductive V where
 |non|bl (b:Bool)|int (i:Int)|str (x:Str)|byt (b:Array UInt8)|flt (b:UInt64)|ref (a:Addr)|ty (n:String)
 deriving DecidableEq
def RelV:V->Value->Prop
 |.non,u=>u=Value.none
 |.bl b,u=>u=Value.bool b
 |.int i,u=>∃t,u=Value.int i t
 |.str x,u=>∃t,u=Value.str x t
 |.byt b,u=>∃t,u=Value.bytes b t
 |.flt b,u=>∃t,u=Value.float b t
 |.ref a,u=>u=Value.ref a
 |.ty n,u=>u=Value.type n
abbrev Vals:List V->List Value->Prop:=Paired RelV
theorem Vals.length{xs:List V}{us:List Value}(r:Vals xs us):xs.length=us.length:=Paired.length r
theorem Vals.get:∀{xs:List V} {us:List Value} {i:Nat} {x:V},Vals xs us->xs[i]?=some x->∃u,us[i]?=some u/\RelV x u
 |_,_,_,_,.nil,e=>by simp at e
 |_,_,0,_,.cons r _,e=>by simp at e;subst e;exact⟨_,rfl,r⟩
 |_,_,i+1,x,.cons _ t,e=>by
  obtain⟨u,h1,h2⟩:=Vals.get (i:=i) (x:=x) t (by simpa using e)
  exact⟨u,by simpa using h1,h2⟩
theorem Vals.append:∀{xs ys:List V} {us ws:List Value},Vals xs us->Vals ys ws->Vals (xs++ys) (us++ws)
 |_,_,_,_,.nil,s=>s
 |_,_,_,_,.cons r t,s=>.cons r (Vals.append t s)
theorem Vals.take:∀{xs:List V} {us:List Value} (n:Nat),Vals xs us->Vals (xs.take n) (us.take n)
 |_,_,0,_=>.nil
 |_,_,_+1,.nil=>.nil
 |_,_,n+1,.cons r t=>.cons r (Vals.take n t)
theorem Vals.drop:∀{xs:List V} {us:List Value} (n:Nat),Vals xs us->Vals (xs.drop n) (us.drop n)
 |_,_,0,r=>r
 |_,_,_+1,.nil=>.nil
 |_,_,n+1,.cons _ t=>Vals.drop n t
def nY:Option V->Option Value->Prop
 |some v,some u=>RelV v u
 |none,none=>True
 |_,_=>False
def KV{κ:Type}:List (κ×V)->List (κ×Value)->Prop:=Paired fun(p:κ×V) (q:κ×Value)=>p.1=q.1/\RelV p.2 q.2
def kV:Key->V
 |.inl i=>.int i
 |.inr x=>.str x
inductive HO where
 |lst (xs:List V)
 |tup (xs:List V)
 |dK (kvs:List (Key×V))|dT (kvs:List (List Key×V))
 |set (S:Int->Bool) (n:Nat)
 |ins (C dx:Addr) (fs:List (Str×V))
 |own (x:Addr)
 |xd (fs:List (Str×V))
 |met (f x:Addr)
 |rng (lo hi:Int)
 |frz (o:Obj) (u:HO)
 |tbl (ps:Array Value)
 |ext (φ:Heap->Prop)
abbrev Hp:=Addr->Option HO
def upd(H:Hp)(a:Addr)(o:HO):Hp:=fun b=>if b=a then some o else H b
theorem DC{H:Hp}{a:Addr}{o:HO}:upd H a o a=some o:=by unfold upd;rw[if_pos rfl]
theorem Dr{H:Hp}{a b:Addr}{o:HO}(h:b≠a):upd H a o b=H b:=by unfold upd;rw[if_neg h]
theorem Cw{H:Hp}{a b:Addr}{o:HO}(h:H a=some o)(h':H b=none):a≠b:=by
 intro e;subst e;rw[h]at h';cases h'
section
variable (P:Program) (w:World)
def ObjOk(H:Hp)(h:Heap)(a:Addr):HO->Prop
 |.lst xs=>xs.length<=sizeLine/\∃(its:List Value) (n:Nat),Vals xs its/\h.get? a=some { cls:=.type "list",data:=.seq its.toArray n }
 |.tup xs=>xs.length<=sizeLine/\∃its:List Value,Vals xs its/\IsTup h a its.toArray
 |.dK kvs=>kvs.length<=sizeLine/\(a==sysModules)=false/\∃vs,KV kvs vs/\h.DictOf (Q8 P w) a vs
 |.dT kvs=>kvs.length<=sizeLine/\(a==sysModules)=false/\∃xs:List (List Key×Addr×Value),
   Paired (fun(p:List Key×V) (q:List Key×Addr×Value)=>p.1=q.1/\H q.2.1=some (.tup (p.1.map kV))/\RelV p.2 q.2.2) kvs xs /\
   ∃o es ep,h.get? a=some o/\o.ExactDict/\o.data = .dict es ep/\es.toList=xs.map (entryOfKey (tupleKind (Q8 P w)))/\(xs.map (·.1)).Nodup
 |.set S n=>h.SetOf (intKind P w) a S n
 |.ins C dx fs=>H dx=some (.own a)/\fs.length<=1000/\dx≠a/\h.get? a=some (PySem.W.instObj C dx) /\
   ∃mA,h.Ns1 dx mA/\(∀f,nY (fs.lookup f) (mA f))/\PySem.Within mA (fs.map (·.1))
 |.own _=>∃o,h.get? a=some o
 |.xd fs=>∃mA,h.Ns1 a mA/\∀f,nY (fs.lookup f) (mA f)
 |.rng lo hi=>∃t u v,h.get? a=some { cls:=.type "range",data:=.fields #[.int lo t,.int hi u,.int 1 v] }
 |.frz o u=>h.get? a=some o/\ObjOk H h a u
 |.tbl ps=>h.get? a=some { cls:=.none,data:=.fields ps }
 |.met f x=>h.get? a=some (PySem.W.methodObj (.ref f) (.ref x))
 |.ext φ=>φ h/\(∃o,h.get? a=some o)/\∀h1 h2:Heap,φ h1->(∀o,h1.get? a=some o->h2.get? a=some o)->φ h2
def HOk(H:Hp)(h:Heap):Prop:=∀a o,H a=some o->ObjOk P w H h a o
end
section
variable {P:Program} {w:World} {H H':Hp} {h h':Heap} {a:Addr} {o:HO}
theorem ObjOk.lt(x:ObjOk P w H h a o):a<h.objs.size:=by
 cases o with
 |lst xs=>obtain⟨_,_,_,_,e⟩:=x;exact Heap.lt_size e
 |tup xs=>obtain⟨_,_,_,p⟩:=x;exact p.lt
 |dK kvs=>obtain⟨_,_,_,_,o,_,_,e,_⟩:=x;exact Heap.lt_size e
 |dT kvs=>obtain⟨_,_,_,_,o,_,_,e,_⟩:=x;exact Heap.lt_size e
 |set S n=>obtain⟨o,_,_,_,e,_⟩:=x;exact Heap.lt_size e
 |ins C dx fs=>obtain⟨_,_,_,e,_⟩:=x;exact Heap.lt_size e
 |own y=>obtain⟨_,e⟩:=x;exact Heap.lt_size e
 |xd fs=>obtain⟨_,⟨_,_,_,e,_⟩,_⟩:=x;exact Heap.lt_size e
 |rng lo hi=>obtain⟨_,_,_,e⟩:=x;exact Heap.lt_size e
 |frz ob u=>obtain⟨e,_⟩:=x;exact Heap.lt_size e
 |tbl ps=>exact Heap.lt_size (show h.get? a=some _ from x)
 |met f y=>exact Heap.lt_size (show h.get? a=some _ from x)
 |ext φ=>obtain⟨_,⟨_,e⟩,_⟩:=x;exact Heap.lt_size e
theorem Paired.mapP{α β:Type}{F G:α->β->Prop}:∀{l₁:List α} {l₂:List β},Paired F l₁ l₂->(∀a b,F a b->G a b)->Paired G l₁ l₂
 |_,_,.nil,_=>.nil
 |_,_,.cons r t,f=>.cons (f _ _ r) (Paired.mapP t f)
theorem ObjOk.stay(x:ObjOk P w H h a o)(k:∀b u,(b=a\/H b=some (.own a))->h.get? b=some u->h'.get? b=some u)
  (ho:∀b,H b=some (.own a)->H' b=some (.own a)) (ht:∀b xs,H b=some (.tup xs)->H' b=some (.tup xs)):ObjOk P w H' h' a o:=by
 induction o with
 |lst xs=>obtain⟨z,its,n,r,e⟩:=x;exact⟨z,its,n,r,k _ _ (.inl rfl) e⟩
 |tup xs=>obtain⟨z,its,r,ob,e,c⟩:=x;exact⟨z,its,r,ob,k _ _ (.inl rfl) e,c⟩
 |dK kvs=>obtain⟨z,y,vs,r,ob,es,ep,e,c⟩:=x;exact⟨z,y,vs,r,ob,es,ep,k _ _ (.inl rfl) e,c⟩
 |dT kvs =>
  obtain⟨z,y,xs,r,ob,es,ep,e,c⟩:=x
  exact⟨z,y,xs,Paired.mapP r fun p q z=>⟨z.1,ht _ _ z.2.1,z.2.2⟩,ob,es,ep,k _ _ (.inl rfl) e,c⟩
 |set S n=>obtain⟨ob,es,ep,t,e,c⟩:=x;exact⟨ob,es,ep,t,k _ _ (.inl rfl) e,c⟩
 |ins C dx fs =>
  obtain⟨d,z,ne,e,mA,⟨od,es,ep,e2,c⟩,r⟩:=x
  exact⟨ho _ d,z,ne,k _ _ (.inl rfl) e,mA,⟨od,es,ep,k _ _ (.inr d) e2,c⟩,r⟩
 |own y=>obtain⟨ob,e⟩:=x;exact⟨ob,k _ _ (.inl rfl) e⟩
 |xd fs=>obtain⟨mA,⟨od,es,ep,e,c⟩,r⟩:=x;exact⟨mA,⟨od,es,ep,k _ _ (.inl rfl) e,c⟩,r⟩
 |rng lo hi=>obtain⟨t,u,v,e⟩:=x;exact⟨t,u,v,k _ _ (.inl rfl) e⟩
 |frz ob u ih=>obtain⟨e,q⟩:=x;exact⟨k _ _ (.inl rfl) e,ih q⟩
 |tbl ps =>
  have e:h.get? a=some { cls:=.none,data:=.fields ps }:=x
  show h'.get? a=some { cls:=.none,data:=.fields ps }
  exact k a _ (.inl rfl) e
 |met f y =>
  have e:h.get? a=some (PySem.W.methodObj (.ref f) (.ref y)):=x
  show h'.get? a=some (PySem.W.methodObj (.ref f) (.ref y))
  exact k a _ (.inl rfl) e
 |ext φ=>obtain⟨p,⟨o,e⟩,st⟩:=x;exact⟨st _ _ p fun o q=>k _ _ (.inl rfl) q,⟨o,k _ _ (.inl rfl) e⟩,st⟩
theorem HOk.lt(x:HOk P w H h)(e:H a=some o):a<h.objs.size:=(x a o e).lt
theorem HOk.fresh(x:HOk P w H h)(e:h.objs.size<=a):H a=none:=by
 cases q:H a with
 |none=>rfl
 |some u=>exact absurd (Nat.lt_of_lt_of_le (x.lt q) e) (Nat.lt_irrefl _)
theorem HOk.kept(x:HOk P w H h)(k:∀b u,h.get? b=some u->h'.get? b=some u):HOk P w H h':=fun a o e =>
 (x a o e).stay (fun b u _ q=>k b u q) (fun _ q=>q) fun _ _ q=>q
theorem HOk.laid(x:HOk P w H h)(k:∀b u,h.get? b=some u->h'.get? b=some u)(hp:h.objs.size<=a)(new:ObjOk P w (upd H a o) h' a o):HOk P w (upd H a o) h':=fun b u e=>by
 have hn:=x.fresh hp
 by_cases hb:b=a
 ·subst hb;rw[DC]at e;cases e;exact new
 ·rw[Dr hb]at e
  exact(x b u e).stay (fun c v _ q=>k c v q) (fun c q=>by rw[Dr (Cw q hn)];exact q) fun c xs q=>by rw[Dr (Cw q hn)];exact q
end
def Rd(H:Hp)(a:Addr)(u:HO):Prop:=H a=some u\/∃o,H a=some (.frz o u)
theorem Rd.ok{P:Program}{w:World}{H:Hp}{h:Heap}{a:Addr}{u:HO}(r:Rd H a u)(x:HOk P w H h):ObjOk P w H h a u:=by
 rcases r with r|⟨o,r⟩
 ·exact x a u r
 ·obtain⟨_,q⟩:=x a _ r
  exact q
def Mut:Option HO->Prop
 |some (.lst _)=>True
 |some (.dK _)=>True
 |some (.dT _)=>True
 |some (.set _ _)=>True
 |some (.ins _ _ _)=>True
 |some (.ext _)=>True
 |_=>False
section
variable {P:Program} {w:World} {H:Hp} {h h':Heap} {x e:Addr} {o':HO}
theorem HOk.write(ok:HOk P w H h)(mu:Mut (H x))(he:e=x\/H e=some (.own x))(k:∀b u,b≠e->h.get? b=some u->h'.get? b=some u)(heo:∃u,h'.get? e=some u)
  (new:ObjOk P w (upd H x o') h' x o'):HOk P w (upd H x o') h':=fun b u q=>by
 have nown:∀c y,H c=some (.own y)->c≠x:=fun c y r z=>by subst z;rw[r]at mu;exact mu
 have ntup:∀c xs,H c=some (.tup xs)->c≠x:=fun c xs r z=>by subst z;rw[r]at mu;exact mu
 by_cases hb:b=x
 ·subst hb;rw[DC]at q;cases q;exact new
 ·rw[Dr hb]at q
  by_cases hbe:b=e
  ·have q':H b=some (.own x):=by
    rcases he with z|z
    ·exact absurd (hbe.trans z) hb
    ·rw[hbe];exact z
   rw[q]at q';cases q'
   obtain⟨v,hv⟩:=heo
   exact⟨v,by rw[hbe];exact hv⟩
  ·refine(ok b u q).stay (fun c v hc r=>k c v ?_ r) (fun c r=>by rw[Dr (nown c b r)];exact r) fun c xs r=>by rw[Dr (ntup c xs r)];exact r
   rcases hc with rfl|hc
   ·exact hbe
   ·rintro rfl
    rcases he with z|z
    ·exact nown c b hc z
    ·rw[hc]at z;cases z;exact hb rfl
end
structure Un(fs ex:List Addr)(H H':Hp)(h h':Heap):Prop where
 keep:∀b o,h.get? b=some o->H b=none->b∉fs->b∉ex->h'.get? b=some o
 slot:∀b o,h.get? b=some o->H b=none->b∈fs->b∉ex->∃sl,h'.get? b=some { o with slots:=sl }
 free:∀b o,h.get? b=some o->H b=none->b∉ex->H' b=none
 there:∀b o,h.get? b=some o->b∉ex->∃o',h'.get? b=some o'
 tups:∀b xs,H b=some (.tup xs)->H' b=some (.tup xs)
 frzs:∀b o u,H b=some (.frz o u)->H' b=some (.frz o u)
 tbls:∀b ps,H b=some (.tbl ps)->∃more,H' b=some (.tbl (ps++more))
section
variable {fs fs' ex ex':List Addr} {H H1 H2:Hp} {h h1 h2 h':Heap} {a x e:Addr} {o:HO}
theorem Un.any(u:Un fs ex H H1 h h1){b:Addr}{ob:Obj}(q:h.get? b=some ob)(n:H b=none)(hx:b∉ex):∃sl,h1.get? b=some { ob with slots:=sl }:=by
 by_cases hb:b∈fs
 ·exact u.slot b ob q n hb hx
 ·exact⟨ob.slots,u.keep b ob q n hb hx⟩
theorem Un.kept(k:∀b u,h.get? b=some u->h'.get? b=some u):Un fs ex H H h h' :=
 ⟨fun b ob q _ _ _=>k b ob q,fun b ob q _ _ _=>⟨ob.slots,k b ob q⟩,fun _ _ _ n _=>n,fun b ob q _=>⟨ob,k b ob q⟩,fun _ _ q=>q,fun _ _ _ q=>q,fun _ ps q=>⟨#[],by rw[q];simp⟩⟩
theorem Un.refl:Un fs ex H H h h:=Un.kept fun _ _ q=>q
theorem Un.laid(k:∀b u,h.get? b=some u->h'.get? b=some u)(hp:h.objs.size<=a)(hn:H a=none):Un fs ex H (upd H a o) h h' where
 keep:=fun b u q _ _ _=>k b u q
 slot:=fun b u q _ _ _=>⟨u.slots,k b u q⟩
 free:=fun b u q n _=>by rw[Dr (Nat.ne_of_lt (Nat.lt_of_lt_of_le (Heap.lt_size q) hp))];exact n
 there:=fun b u q _=>⟨u,k b u q⟩
 tups:=fun b xs q=>by rw[Dr (Cw q hn)];exact q
 frzs:=fun b u xs q=>by rw[Dr (Cw q hn)];exact q
 tbls:=fun b ps q=>⟨#[],by rw[Dr (Cw q hn),q];simp⟩
theorem Un.write(mu:Mut (H x))(he:e=x\/H e=some (.own x))(k:∀b u,b≠e->h.get? b=some u->h'.get? b=some u)(heo:∃u,h'.get? e=some u):Un fs ex H (upd H x o) h h':=by
 have hx:∀b,H b=none->b≠x:=fun b n z=>by subst z;rw[n]at mu;exact mu
 have hb:∀b,H b=none->b≠e:=fun b n z=>by
  subst z
  rcases he with r|r
  ·exact hx b n r
  ·rw[n]at r;cases r
 have hm:∀b u,H b=some u->¬Mut (some u)->b≠x:=fun b u q nm z=>by subst z;rw[q]at mu;exact nm mu
 refine ⟨fun b u q n _ _ => k b u (hb b n) q, fun b u q n _ _ => ⟨u.slots, k b u (hb b n) q⟩, fun b u q n _ => by rw [Dr (hx b n)]; exact n, fun b u q _ => ?_,
  fun b xs q=>by rw[Dr (hm b _ q fun z=>z)];exact q,fun b u xs q=>by rw[Dr (hm b _ q fun z=>z)];exact q,fun b ps q=>⟨#[],by rw[Dr (hm b _ q fun z=>z),q];simp⟩⟩
 by_cases hbe:b=e
 ·subst hbe;exact heo
 ·exact⟨u,k b u hbe q⟩
end
def trk(h:Heap)(H:Hp):List Addr:=(List.range h.objs.size).filter fun a=>(H a).isSome
def Zj(h:Heap)(H:Hp):Heap:=PySem.W.hideAll h (trk h H)
theorem gk(h:Heap)(H:Hp):(Zj h H).objs.size=h.objs.size:=PySem.W.hideAll_size _ _
theorem jZ{h:Heap}{H:Hp}{b:Addr}{o:Obj}(e:h.get? b=some o)(n:H b=none):(Zj h H).get? b=some o :=
 PySem.W.hideAll_get _ e fun hm=>by
  have q:(H b).isSome=true:=(List.mem_filter.mp hm).2
  rw[n]at q;simp at q
theorem kL{h:Heap}{H:Hp}{b:Addr}{o:Obj}(e:(Zj h H).get? b=some o):h.get? b=some o/\H b=none:=by
 have e':h.get? b=some o:=PySem.W.of_hideAll (trk h H) e
 refine⟨e',?_⟩
 cases q:H b with
 |none=>rfl
 |some x =>
  have hm:b∈trk h H:=List.mem_filter.mpr ⟨List.mem_range.mpr (Heap.lt_size e'),by simp[q]⟩
  have z:(Zj h H).get? b=none:=PySem.W.hideAll_none (trk h H) hm
  rw[z]at e;cases e
def lM(g h:Heap)(L:Addr):List (Addr×Obj):=(List.range h.objs.size).filterMap fun a=>if a=L\/(g.get? a).isSome=true then none else (h.get? a).map fun o=>(a,o)
def GH(g h:Heap)(L d:Addr):List (Addr×Obj):=(lM g h L).filter fun p=>decide (p.1≠d)
end L2
namespace L2
open PySem PySem.Spec PyProof.Rows
structure Mod(K:PySem.W.Frag)(mg:Str->Option Value)(base:Heap):Prop where
 kin:K.In base
 glob:base.Ns mainGlobals mg
 blt:∃mb,base.Ns builtinsNs mb/\∀x:Str,x≠"__name__"->mb x=bootBuiltins x
 nolimit:base.NoLimit
structure Cx where
 prog:Program
 w:World
 K:PySem.W.Frag
 mg:Str->Option Value
 base:Heap
 A:Around
 N:List Str
 s₀:Shared
 H₀:Hp
 env:Env
 outer:List Env
 stack:List Env
 ex:List Addr
 fn:Str->Bool
 calm:Bool
 pn:List (Addr×Obj)
 xe:Value->Shared->Prop
def frs(l:List Env):List Addr:=l.filterMap (·.frame)
abbrev Cx.fs(X:Cx):List Addr:=frs X.outer
def Vis(sc:Scope)(x:Str):Prop:=sc.names.lookup x=some .local\/sc.names.lookup x=some .cell\/sc.names.lookup x=some .free
def Loc(sc:Scope)(x:Str):Prop:=sc.names.lookup x=some .local\/sc.names.lookup x=some .cell
def p6(env:Env)(h:Heap)(m:Str->Option Value)(x:Str)(u:Value):Prop :=
 (env.kindOf x=some .local/\m x=some u)\/((env.kindOf x=some .cell\/env.kindOf x=some .free)/\∃c,env.cells.lookup x=some c/\h.IsCell c (some u))
structure Cx.Ok(X:Cx):Prop where
 mod:Mod X.K X.mg X.base
 kind:X.env.scope.kind = .function
 glob:X.env.globals=mainGlobals
 blt:X.env.builtins=builtinsNs
 above:X.s₀.heap.objs.size<=X.env.locals
 inj:∀x y c,X.env.cells.lookup x=some c->X.env.cells.lookup y=some c->x=y
 has:∀x,(X.env.kindOf x=some .cell\/X.env.kindOf x=some .free)->∃c,X.env.cells.lookup x=some c
 cab:∀x c,X.fn x=true->X.env.cells.lookup x=some c->X.s₀.heap.objs.size<=c
 hd:X.calm=true->X.A.handled=none
 frames:X.A.frames=some X.stack
 stk:X.stack=X.outer\/(X.stack=X.env::X.outer/\X.env.frame=some X.env.locals)
 exf:∀b∈X.ex,b≠X.env.locals/\∀x c,X.env.cells.lookup x=some c->c≠b
 bs:∀b o,X.base.get? b=some o->X.s₀.heap.get? b=some o/\X.H₀ b=none
 bsz:X.base.objs.size<=X.s₀.heap.objs.size
 noex:∀b o,X.base.get? b=some o->b∉X.ex
 exfs:∀b∈X.ex,b∉X.fs
 funs:X.s₀.heap.FunFrames X.base X.outer
 frf:∀b∈X.fs,X.H₀ b=none
structure Inv(X:Cx)(pins:List (Addr×Obj))(σ:List (Option V))(H:Hp)(s:Shared):Prop where
 ok:X.Ok
 os:s.os=X.s₀.os
 bare:AllBare s.gens
 base:Un X.fs X.ex X.H₀ H X.s₀.heap s.heap
 loc:∃m,s.heap.Ns X.env.locals m/\∀(i:Nat) (x:Str) (v:V),X.N[i]?=some x->σ[i]?=some (some v)->Vis X.env.scope x->∃u,RelV v u/\p6 X.env s.heap m x u
 cell:∀x c,X.env.cells.lookup x=some c->∃v,s.heap.IsCell c v
 free:H X.env.locals=none
 freeC:∀x c,X.env.cells.lookup x=some c->H c=none
 pin:∀p∈X.pn++pins,s.heap.get? p.1=some p.2/\H p.1=none/\p.1≠X.env.locals/\p.1∉X.fs/\∀v,p.2.data≠.cell v
 hok:HOk X.prog X.w H s.heap
 len:σ.length=X.N.length
section
variable {X:Cx} {pins:List (Addr×Obj)} {σ:List (Option V)} {H H':Hp} {s:Shared} {h':Heap}
theorem Cx.Ok.nofr(ok:X.Ok){b:Addr}{o:Obj}(e:X.base.get? b=some o):b∉X.fs:=fun hb=>by
 have:=(ok.funs.mem hb).1
 rw[e]at this;cases this
theorem Inv.bs(I:Inv X pins σ H s):∀b o,X.base.get? b=some o->s.heap.get? b=some o/\H b=none:=fun b o e =>
 ⟨I.base.keep b o (I.ok.bs b o e).1 (I.ok.bs b o e).2 (I.ok.nofr e) (I.ok.noex b o e),I.base.free b o (I.ok.bs b o e).1 (I.ok.bs b o e).2 (I.ok.noex b o e)⟩
theorem Inv.bk(I:Inv X pins σ H s):∀b o,X.base.get? b=some o->s.heap.get? b=some o:=fun b o e=>(I.bs b o e).1
theorem Inv.mod(I:Inv X pins σ H s):Mod X.K X.mg X.base:=I.ok.mod
theorem Inv.kIn(I:Inv X pins σ H s):X.K.In s.heap:=I.ok.mod.kin.keeps I.bk
theorem Inv.lt(I:Inv X pins σ H s):X.env.locals<s.heap.objs.size:=let ⟨_,hn,_⟩:=I.loc;hn.lt
theorem Inv.sz(I:Inv X pins σ H s):X.s₀.heap.objs.size<=s.heap.objs.size:=Nat.le_trans I.ok.above (Nat.le_of_lt I.lt)
theorem Inv.nofs(I:Inv X pins σ H s){a:Addr}(h:s.heap.objs.size<=a):a∉X.fs:=fun hb=>by
 obtain⟨_,o,ho,_⟩:=I.ok.funs.mem hb
 exact absurd (Nat.lt_of_lt_of_le (Heap.lt_size ho) (Nat.le_trans I.sz h)) (Nat.lt_irrefl _)
theorem Inv.cne(I:Inv X pins σ H s):∀x c,X.env.cells.lookup x=some c->c≠X.env.locals:=fun x c e z=>by
 obtain⟨v,o,ho,hd⟩:=I.cell x c e
 obtain⟨m,⟨o',es,ep,ho',hd',_⟩,_⟩:=I.loc
 rw[z,ho']at ho;cases ho;rw[hd']at hd;cases hd
theorem Inv.funs(I:Inv X pins σ H s):s.heap.FunFrames X.base X.outer:=by
 have all:∀(l:List Env),(∀b∈frs l,b∈X.fs)->X.s₀.heap.FunFrames X.base l->s.heap.FunFrames X.base l:=by
  intro l
  induction l with
  |nil=>intro _ _;trivial
  |cons env r ih =>
   intro hs hl
   obtain⟨hk,⟨L,o,hf,hn,ho,hd⟩,hr⟩:=hl
   have hL:L∈X.fs:=hs L (by unfold frs;rw[List.filterMap_cons,hf];exact List.mem_cons_self)
   obtain⟨sl,e⟩:=I.base.slot L o ho (I.ok.frf L hL) hL fun z=>I.ok.exfs L z hL
   exact⟨hk,⟨L,_,hf,hn,e,hd⟩,ih (fun b hb=>hs b (by unfold frs;rw[List.filterMap_cons,hf];exact List.mem_cons_of_mem _ hb)) hr⟩
 exact all X.outer (fun _ hb=>hb) I.ok.funs
theorem Inv.stack(I:Inv X pins σ H s):s.heap.FunFrames X.base X.stack:=by
 rcases I.ok.stk with e|⟨e,hf⟩
 ·rw[e];exact I.funs
 ·rw[e]
  obtain⟨m,hn,_⟩:=I.loc
  refine .cons (by rw[I.ok.kind];decide) hf hn ?_ I.funs
  exact Heap.get?_none_of_le (Nat.le_trans I.ok.bsz I.ok.above)
theorem Inv.stkSub(I:Inv X pins σ H s):∀b∈frs X.stack,b∈X.env.locals::X.fs:=fun b hb=>by
 rcases I.ok.stk with e|⟨e,hf⟩
 ·rw[e]at hb;exact List.mem_cons_of_mem _ hb
 ·rw[e]at hb
  unfold frs at hb
  rw[List.filterMap_cons,hf]at hb
  exact hb
theorem Inv.stkFree(I:Inv X pins σ H s):∀b∈frs X.stack,H b=none:=fun b hb=>by
 rcases List.mem_cons.mp (I.stkSub b hb)with e|hb
 ·rw[e];exact I.free
 ·obtain⟨_,o,ho,_⟩:=I.ok.funs.mem hb
  exact I.base.free b o ho (I.ok.frf b hb) fun z=>I.ok.exfs b z hb
theorem Inv.step{g':Array GenState}{t':Nat}{d':Drawn}{ch:List Addr}(I:Inv X pins σ H s)
  (hch:∀b∈ch,(b∈X.ex\/X.s₀.heap.objs.size<=b)/\b≠X.env.locals/\(∀x c,X.env.cells.lookup x=some c->c≠b)/\∀p∈X.pn++pins,p.1≠b)
  (keep:∀b o,b≠X.env.locals->b∉X.fs->b∉ch->s.heap.get? b=some o->H b=none->h'.get? b=some o)
  (slot:∀b o,b≠X.env.locals->b∈X.fs->b∉ch->s.heap.get? b=some o->H b=none->∃sl,h'.get? b=some { o with slots:=sl }) (free:∀b o,b∉ch->s.heap.get? b=some o->H b=none->H' b=none)
  (there:∀b o,b∉ch->s.heap.get? b=some o->∃o',h'.get? b=some o')
  (tups:∀b xs,H b=some (.tup xs)->H' b=some (.tup xs)) (frzs:∀b o u,H b=some (.frz o u)->H' b=some (.frz o u)) (tbls:∀b ps,H b=some (.tbl ps)->∃more,H' b=some (.tbl (ps++more)))
  (ns:∀m,s.heap.Ns X.env.locals m->h'.Ns X.env.locals m) (hok:HOk X.prog X.w H' h') (hg:AllBare g') :
  Inv X pins σ H' { s with heap:=h',gens:=g',drawn:=d',toks:=t' }:=by
 have neL:∀b o,X.s₀.heap.get? b=some o->b≠X.env.locals:=fun b o e=>Nat.ne_of_lt (Nat.lt_of_lt_of_le (Heap.lt_size e) I.ok.above)
 have neC:∀b o,X.s₀.heap.get? b=some o->b∉X.ex->b∉ch:=fun b o e hx hb=>by
  rcases(hch b hb).1 with z|z
  ·exact hx z
  ·exact absurd (Nat.lt_of_lt_of_le (Heap.lt_size e) z) (Nat.lt_irrefl _)
 have cellK:∀x c,X.env.cells.lookup x=some c->∀v,s.heap.IsCell c v->h'.IsCell c v:=fun x c e v ⟨o,ho,hd⟩=>by
  have nch:c∉ch:=fun z=>(hch c z).2.2.1 x c e rfl
  by_cases hc:c∈X.fs
  ·obtain⟨sl,q⟩:=slot c o (I.cne x c e) hc nch ho (I.freeC x c e)
   exact⟨_,q,hd⟩
  ·exact⟨o,keep c o (I.cne x c e) hc nch ho (I.freeC x c e),hd⟩
 refine⟨I.ok,I.os,hg,⟨fun b o e n hb hx=>?_,fun b o e n hb hx=>?_,fun b o e n hx=>?_,fun b o e hx=>?_,fun b xs e=>tups b xs (I.base.tups b xs e),fun b o xs e=>frzs b o xs (I.base.frzs b o xs e),fun b ps e=>?_⟩,?_,fun x c e=>?_,?_,fun x c e=>?_,fun p hp=>?_,hok,I.len⟩
 ·exact keep b o (neL b o e) hb (neC b o e hx) (I.base.keep b o e n hb hx) (I.base.free b o e n hx)
 ·obtain⟨sl,e1⟩:=I.base.slot b o e n hb hx
  obtain⟨sl',e2⟩:=slot b _ (neL b o e) hb (neC b o e hx) e1 (I.base.free b o e n hx)
  exact⟨sl',e2⟩
 ·obtain⟨o',e1⟩:=I.base.there b o e hx
  exact free b o' (neC b o e hx) e1 (I.base.free b o e n hx)
 ·obtain⟨o',e1⟩:=I.base.there b o e hx
  exact there b o' (neC b o e hx) e1
 ·obtain⟨m1,e1⟩:=I.base.tbls b ps e
  obtain⟨m2,e2⟩:=tbls b _ e1
  exact⟨m1++m2,by rw[e2,Array.append_assoc]⟩
 ·obtain⟨m,hn,hl⟩:=I.loc
  refine⟨m,ns m hn,fun i x v e1 e2 e3=>?_⟩
  obtain⟨u,r,l⟩:=hl i x v e1 e2 e3
  refine⟨u,r,?_⟩
  rcases l with l|⟨k,c,e,z⟩
  ·exact .inl l
  ·exact .inr ⟨k,c,e,cellK x c e _ z⟩
 ·obtain⟨v,z⟩:=I.cell x c e
  exact⟨v,cellK x c e v z⟩
 ·obtain⟨m,⟨o,_,_,ho,_⟩,_⟩:=I.loc
  exact free _ o (fun z=>(hch _ z).2.1 rfl) ho I.free
 ·obtain⟨v,o,ho,hd⟩:=I.cell x c e
  exact free c o (fun z=>(hch c z).2.2.1 x c e rfl) ho (I.freeC x c e)
 ·obtain⟨e,n,ne,nf,d⟩:=I.pin p hp
  have nch:p.1∉ch:=fun z=>(hch p.1 z).2.2.2 p hp rfl
  exact⟨keep p.1 p.2 ne nf nch e n,free p.1 p.2 nch e n,ne,nf,d⟩
theorem Inv.un{t':Nat}(I:Inv X pins σ H s)(u:Un X.fs [] H H' s.heap h')(hok:HOk X.prog X.w H' h'):Inv X pins σ H' { s with heap:=h',toks:=t' }:=by
 obtain⟨m,⟨o,es,ep,ho,r⟩,_⟩:=id I.loc
 obtain⟨sl,hL⟩:=u.any ho I.free (by simp)
 exact I.step (g' := s.gens) (d' := s.drawn) (ch := []) (fun _ z => nomatch z) (fun b o _ hb _ e n => u.keep b o e n hb (by simp)) (fun b o _ hb _ e n => u.slot b o e n hb (by simp)) (fun b o _ e n => u.free b o e n (by simp)) (fun b o _ e => u.there b o e (by simp)) u.tups u.frzs u.tbls (fun m' hm => by
  obtain⟨o',es',ep',ho',r'⟩:=hm
  rw[ho]at ho';cases ho'
  exact⟨_,es',ep',hL,r'⟩) hok I.bare
theorem Inv.call{g':Array GenState}{t':Nat}{d':Drawn}{ch:List Addr}(I:Inv X pins σ H s)(u:Un (frs X.stack) ch H H' s.heap h')(hok:HOk X.prog X.w H' h')(hg:AllBare g')
  (hch:∀b∈ch,(b∈X.ex\/X.s₀.heap.objs.size<=b)/\b≠X.env.locals/\(∀x c,X.env.cells.lookup x=some c->c≠b)/\∀p∈X.pn++pins,p.1≠b) :
  Inv X pins σ H' { s with heap:=h',gens:=g',drawn:=d',toks:=t' }:=by
 obtain⟨m,⟨o,es,ep,ho,r⟩,_⟩:=id I.loc
 obtain⟨sl,hL⟩:=u.any ho I.free fun z=>(hch _ z).2.1 rfl
 exact I.step (ch := ch) hch (fun b o hL hb hc e n => u.keep b o e n (fun z => (List.mem_cons.mp (I.stkSub b z)).elim hL hb) hc) (fun b o _ _ hc e n => u.any e n hc) (fun b o hc e n => u.free b o e n hc) (fun b o hc e => u.there b o e hc) u.tups u.frzs u.tbls (fun m' hm => by
  obtain⟨o',es',ep',ho',r'⟩:=hm
  rw[ho]at ho';cases ho'
  exact⟨_,es',ep',hL,r'⟩) hok hg
theorem Inv.turned{t':Nat}{it:Addr}(I:Inv X pins σ H s)(k:∀b o,b≠it->s.heap.get? b=some o->h'.get? b=some o)(hn:H it=none)(hL:it≠X.env.locals)
  (h1:it∈X.ex\/X.s₀.heap.objs.size<=it) (h2:∀x c,X.env.cells.lookup x=some c->c≠it) (h3:∀p∈X.pn++pins,p.1≠it):Inv X pins σ H { s with heap:=h',toks:=t' }:=by
 have nit:∀b u,H b=some u->b≠it:=fun b u e z=>by rw[z,hn]at e;cases e
 refine I.step (g':=s.gens) (d':=s.drawn) (ch:=[it]) (fun b hb=>?_) (fun b o _ _ hc e _=>k b o (fun z=>hc (by simp[z])) e) (fun b o _ _ hc e _=>⟨o.slots,k b o (fun z=>hc (by simp[z])) e⟩) (fun _ _ _ _ n=>n)
  (fun b o hc e=>⟨o,k b o (fun z=>hc (by simp[z])) e⟩) (fun _ _ e=>e) (fun _ _ _ e=>e) (fun b ps e=>⟨#[],by rw[e];simp⟩) (fun m hm=>?_) (fun b u e=>?_) I.bare
 ·have e:b=it:=by simpa using hb
  subst e
  exact⟨h1,hL,h2,h3⟩
 ·obtain⟨o,es,ep,ho,r⟩:=hm
  exact⟨o,es,ep,k _ o (Ne.symm hL) ho,r⟩
 ·refine(I.hok b u e).stay (fun c v hc q=>k c v ?_ q) (fun _ q=>q) fun _ _ q=>q
  rcases hc with z|z
  ·rw[z];exact nit b u e
  ·exact nit c _ z
theorem Inv.tok(I:Inv X pins σ H s)(t:Nat):Inv X pins σ H { s with toks:=t }:=I.un (h':=s.heap) (t':=t) Un.refl I.hok
theorem Inv.kept{t':Nat}(I:Inv X pins σ H s)(k:∀b u,s.heap.get? b=some u->h'.get? b=some u):Inv X pins σ H { s with heap:=h',toks:=t' }:=I.un (Un.kept k) (I.hok.kept k)
theorem Inv.laid{a:Addr}{o:HO}{t':Nat}(I:Inv X pins σ H s)(k:∀b u,s.heap.get? b=some u->h'.get? b=some u)(hp:s.heap.objs.size<=a)(new:ObjOk X.prog X.w (upd H a o) h' a o) :
  Inv X pins σ (upd H a o) { s with heap:=h',toks:=t' }:=I.un (Un.laid k hp (I.hok.fresh hp)) (I.hok.laid k hp new)
theorem Inv.write{x e:Addr}{o:HO}{t':Nat}(I:Inv X pins σ H s)(mu:Mut (H x))(he:e=x\/H e=some (.own x))(k:∀b u,b≠e->s.heap.get? b=some u->h'.get? b=some u)(heo:∃u,h'.get? e=some u)
  (new:ObjOk X.prog X.w (upd H x o) h' x o):Inv X pins σ (upd H x o) { s with heap:=h',toks:=t' }:=I.un (Un.write mu he k heo) (I.hok.write mu he k heo new)
theorem Inv.pins_of{pins':List (Addr×Obj)}(I:Inv X pins σ H s)(h:∀p∈pins',s.heap.get? p.1=some p.2/\H p.1=none/\p.1≠X.env.locals/\p.1∉X.fs/\∀v,p.2.data≠.cell v):Inv X pins' σ H s :=
 ⟨I.ok,I.os,I.bare,I.base,I.loc,I.cell,I.free,I.freeC,fun p hp=>(List.mem_append.mp hp).elim (fun z=>I.pin p (List.mem_append_left _ z)) (h p),I.hok,I.len⟩
theorem au{N:List Str}(hN:N.Nodup){i j:Nat}{x:Str}(a:N[i]?=some x)(b:N[j]?=some x):i=j:=by
 obtain⟨h1,e1⟩:=List.getElem?_eq_some_iff.mp a
 obtain⟨h2,e2⟩:=List.getElem?_eq_some_iff.mp b
 exact(List.getElem_inj hN).mp (e1.trans e2.symm)
theorem Xv{M:Model}{A:Around}{E:Value->Shared->Prop}{i:Nat}{x:Str}{v:V}{u:Value}{Q:Unit->Shared->Prop}(I:Inv X pins σ H s)(hN:X.N.Nodup)(hi:X.N[i]?=some x)(hx:Loc X.env.scope x)(r:RelV v u)
  (h:∀s',Inv X pins (σ.set i (some v)) H s'->(∃a,Heap.SameBut a s.heap s'.heap/\(a=X.env.locals\/X.env.cells.lookup x=some a))->Q () s') (hf:X.fn x=true\/X.env.scope.names.lookup x=some .local:=by first|exact .inl rfl|exact .inr rfl|assumption):wpAny M A (storeName X.env x u) Q E s:=by
 obtain⟨m,hn,hl⟩:=id I.loc
 have hcls:(X.env.scope.kind==.class||(X.env.scope.kind==.module&&X.env.locals != X.env.globals))=false:=by rw[I.ok.kind];rfl
 have hiσ:i<σ.length:=by rw[I.len];exact(List.getElem?_eq_some_iff.mp hi).1
 have cne:=I.cne
 have tracked:∀{a:Addr} {h':Heap},(∃o,s.heap.get? a=some o/\H a=none)->Heap.SameBut a s.heap h'->HOk X.prog X.w H h':=fun {a h'} ha hs b ob e=>by
  obtain⟨_,_,hfree⟩:=ha
  refine(I.hok b ob e).stay (fun c w' hc q=>(hs.2 c ?_).trans q) (fun _ q=>q) fun _ _ q=>q
  rintro rfl
  rcases hc with rfl|hc
  ·rw[hfree]at e;cases e
  ·rw[hfree]at hc;cases hc
 rcases hx with hk|hk
 ·refine wpAny_storeName_local hk hn (fun h' hn' hs=>?_) hcls
  obtain⟨oL,_,_,hoL,_⟩:=id hn
  refine h _ ⟨I.ok,I.os,I.bare,⟨fun b o e n hb hx=>?_,fun b o e n hb hx=>?_,I.base.free,fun b o e hx=>?_,I.base.tups,I.base.frzs,I.base.tbls⟩,⟨_,hn',fun j y v' e1 e2 e3=>?_⟩,fun y c e=>?_,I.free,I.freeC,fun p hp=>?_,tracked ⟨oL,hoL,I.free⟩ hs,by simpa using I.len⟩ ⟨_,hs,.inl rfl⟩
  ·exact(hs.2 b (Nat.ne_of_lt (Nat.lt_of_lt_of_le (Heap.lt_size e) I.ok.above))).trans (I.base.keep b o e n hb hx)
  ·obtain⟨sl,e1⟩:=I.base.slot b o e n hb hx
   exact⟨sl,(hs.2 b (Nat.ne_of_lt (Nat.lt_of_lt_of_le (Heap.lt_size e) I.ok.above))).trans e1⟩
  ·obtain⟨o',e1⟩:=I.base.there b o e hx
   exact⟨o',(hs.2 b (Nat.ne_of_lt (Nat.lt_of_lt_of_le (Heap.lt_size e) I.ok.above))).trans e1⟩
  ·by_cases hj:j=i
   ·subst hj
    rw[hi]at e1;cases e1
    rw[List.getElem?_set_self hiσ]at e2
    cases e2
    exact⟨u,r,.inl ⟨hk,by simp⟩⟩
   ·rw[List.getElem?_set_ne (Ne.symm hj)]at e2
    obtain⟨u',r',q⟩:=hl j y v' e1 e2 e3
    refine⟨u',r',?_⟩
    rcases q with ⟨k,e⟩|⟨k,c,e,z⟩
    ·refine .inl ⟨k,?_⟩
     have:y≠x:=fun e=>hj (au hN e1 (e▸hi))
     simp[this,e]
    ·exact .inr ⟨k,c,e,z.sameBut hs (cne y c e)⟩
  ·obtain⟨w',z⟩:=I.cell y c e
   exact⟨w',z.sameBut hs (cne y c e)⟩
  ·obtain⟨e,n,ne,nf,d⟩:=I.pin p hp
   exact⟨(hs.2 p.1 ne).trans e,n,ne,nf,d⟩
 ·have hfn:X.fn x=true:=by
   rcases hf with z|z
   ·exact z
   ·rw[z]at hk;cases hk
  obtain⟨c,hc⟩:=I.ok.has x (.inl hk)
  obtain⟨w',z⟩:=I.cell x c hc
  refine wpAny_storeName_cell I.ok.kind hk hc z (fun h' hc' hs=>?_)
  obtain⟨oc,hoc,hocd⟩:=id z
  refine h { s with heap:=h' } ⟨I.ok,I.os,I.bare,⟨fun b o e n hb hx=>?_,fun b o e n hb hx=>?_,I.base.free,fun b o e hx=>?_,I.base.tups,I.base.frzs,I.base.tbls⟩,⟨m,hn.sameBut hs (Ne.symm (cne x c hc)),fun j y v' e1 e2 e3=>?_⟩,fun y c' e=>?_,I.free,I.freeC,fun p hp=>?_,tracked ⟨oc,hoc,I.freeC x c hc⟩ hs,by simpa using I.len⟩ ⟨c,hs,.inr hc⟩
  ·exact(hs.2 b (Nat.ne_of_lt (Nat.lt_of_lt_of_le (Heap.lt_size e) (I.ok.cab x c hfn hc)))).trans (I.base.keep b o e n hb hx)
  ·obtain⟨sl,e1⟩:=I.base.slot b o e n hb hx
   exact⟨sl,(hs.2 b (Nat.ne_of_lt (Nat.lt_of_lt_of_le (Heap.lt_size e) (I.ok.cab x c hfn hc)))).trans e1⟩
  ·obtain⟨o',e1⟩:=I.base.there b o e hx
   exact⟨o',(hs.2 b (Nat.ne_of_lt (Nat.lt_of_lt_of_le (Heap.lt_size e) (I.ok.cab x c hfn hc)))).trans e1⟩
  ·by_cases hj:j=i
   ·subst hj
    rw[hi]at e1;cases e1
    rw[List.getElem?_set_self hiσ]at e2
    cases e2
    exact⟨u,r,.inr ⟨.inl hk,c,hc,hc'⟩⟩
   ·rw[List.getElem?_set_ne (Ne.symm hj)]at e2
    obtain⟨u',r',q⟩:=hl j y v' e1 e2 e3
    refine⟨u',r',?_⟩
    rcases q with q|⟨k,c',e,z'⟩
    ·exact .inl q
    ·refine .inr ⟨k,c',e,z'.sameBut hs ?_⟩
     rintro rfl
     exact hj (au hN e1 (I.ok.inj _ _ _ e hc▸hi))
  ·by_cases hcc:c'=c
   ·subst hcc;exact⟨_,hc'⟩
   ·obtain⟨w2,z2⟩:=I.cell y c' e
    exact⟨w2,z2.sameBut hs hcc⟩
  ·obtain⟨e,n,ne,nf,d⟩:=I.pin p hp
   refine⟨(hs.2 p.1 ?_).trans e,n,ne,nf,d⟩
   intro q
   rw[q,hoc]at e
   have q':oc=p.2:=Option.some.inj e
   exact d w' (by rw[<- q'];exact hocd)
theorem Qm{M:Model}{A:Around}{E:Value->Shared->Prop}{i:Nat}{x:Str}{v:V}{u:Value}{Q:Unit->Shared->Prop}(I:Inv X pins σ H s)(hN:X.N.Nodup)(hi:X.N[i]?=some x)(hx:Loc X.env.scope x)(r:RelV v u)
  (h:∀s',Inv X pins (σ.set i (some v)) H s'->Q () s') (hf:X.fn x=true\/X.env.scope.names.lookup x=some .local:=by first|exact .inl rfl|exact .inr rfl|assumption):wpAny M A (storeName X.env x u) Q E s :=
 Xv I hN hi hx r (fun s' I' _=>h s' I') hf
theorem Inv.call'{s':Shared}{ch:List Addr}(I:Inv X pins σ H s)(ho:s'.os=s.os)(u:Un (frs X.stack) ch H H' s.heap s'.heap)(hok:HOk X.prog X.w H' s'.heap)(hg:AllBare s'.gens)
  (hch:∀b∈ch,(b∈X.ex\/X.s₀.heap.objs.size<=b)/\b≠X.env.locals/\(∀x c,X.env.cells.lookup x=some c->c≠b)/\∀p∈X.pn++pins,p.1≠b):Inv X pins σ H' s':=by
 obtain⟨h',g',d',t',o'⟩:=s'
 have e:o'=s.os:=ho
 subst e
 exact I.call (g':=g') (t':=t') (d':=d') u hok hg hch
end
abbrev XK:=Value->Option Addr->Hp->Prop
abbrev St:=List (Option V)
abbrev VK:=V->Hp->Prop
abbrev TE:=St->Hp->VK->Prop
abbrev TT:=St->Hp->(Bool->Hp->Prop)->Prop
abbrev TA:=St->Hp->(List V->Hp->Prop)->Prop
structure cL where
 nx:St->Hp->Prop
 rt:VK
 bk:St->Hp->Prop:=fun _ _=>False
 ct:St->Hp->Prop:=fun _ _=>False
abbrev TS:=cL->St->Hp->Prop
def EP(X:Cx)(pins:List (Addr×Obj))(σ:St)(Q:VK)(u:Value)(s':Shared):Prop:=∃v H',Inv X pins σ H' s'/\RelV v u/\Q v H'
def TP(X:Cx)(pins:List (Addr×Obj))(σ:St)(Q:Bool->Hp->Prop)(b:Bool)(s':Shared):Prop:=∃H',Inv X pins σ H' s'/\Q b H'
def AP(X:Cx)(pins:List (Addr×Obj))(σ:St)(Q:List V->Hp->Prop)(us:List Value)(s':Shared):Prop:=∃vs H',Inv X pins σ H' s'/\Vals vs us/\Q vs H'
def SP(X:Cx)(pins:List (Addr×Obj))(D:cL)(f:Flow)(s':Shared):Prop :=
 match f with
 |.next=>∃σ' H',Inv X pins σ' H' s'/\D.nx σ' H'
 |.brk=>∃σ' H',Inv X pins σ' H' s'/\D.bk σ' H'
 |.cont=>∃σ' H',Inv X pins σ' H' s'/\D.ct σ' H'
 |.ret u=>∃v σ' H',Inv X pins σ' H' s'/\RelV v u/\D.rt v H'
def PE(X:Cx)(e:Expr)(t:TE):Prop :=
 ∀(pins:List (Addr×Obj)) (s:Shared) (σ:St) (H:Hp) (Q:VK),Inv X pins σ H s->t σ H Q->wpAny (model X.prog X.w) X.A (eval e X.env) (EP X pins σ Q) X.xe s
def PT(X:Cx)(e:Expr)(t:TT):Prop :=
 ∀(pins:List (Addr×Obj)) (s:Shared) (σ:St) (H:Hp) (Q:Bool->Hp->Prop),Inv X pins σ H s->t σ H Q->wpAny (model X.prog X.w) X.A (isTrue e X.env (eval e X.env)) (TP X pins σ Q) X.xe s
def PW(X:Cx)(e:Expr)(t:TT):Prop :=
 ∀(whole:Sem Value) (pins:List (Addr×Obj)) (s:Shared) (σ:St) (H:Hp) (Q:Bool->Hp->Prop),Inv X pins σ H s->t σ H Q->wpAny (model X.prog X.w) X.A (isTrue e X.env whole) (TP X pins σ Q) X.xe s
theorem PW.pt{X:Cx}{e:Expr}{t:TT}(h:PW X e t):PT X e t:=h _
def PA(X:Cx)(es:List Expr)(t:TA):Prop :=
 ∀(pos:Pos) (pins:List (Addr×Obj)) (s:Shared) (σ:St) (H:Hp) (Q:List V->Hp->Prop),Inv X pins σ H s->t σ H Q->wpAny (model X.prog X.w) X.A (spliced (backTo pos (starEach es X.env))) (AP X pins σ Q) X.xe s
def PS(X:Cx)(st:Stmt)(t:TS):Prop :=
 ∀(pins:List (Addr×Obj)) (s:Shared) (σ:St) (H:Hp) (D:cL),Inv X pins σ H s->t D σ H->wpAny (model X.prog X.w) X.A (exec st X.env) (SP X pins D) X.xe s
def PSs(X:Cx)(st:List Stmt)(t:TS):Prop :=
 ∀(pins:List (Addr×Obj)) (s:Shared) (σ:St) (H:Hp) (D:cL),Inv X pins σ H s->t D σ H->wpAny (model X.prog X.w) X.A (execs st X.env) (SP X pins D) X.xe s
theorem thn{α:Type}{t:Sem α}{Q Q':α->Shared->Prop}{M:Model}{A:Around}{E:Value->Shared->Prop}{s:Shared}(h:wpAny M A t Q E s)(hQ:∀a s,Q a s->Q' a s):wpAny M A t Q' E s:=wpAny_mono h hQ fun _ _ x=>x
end L2
namespace L2
open PySem PySem.Spec PyProof.Rows
section
variable {X:Cx}
def Ub(i:Nat):TE:=fun σ H Q=>∃v,σ[i]?=some (some v)/\Q v H
def tC(v:V):TE:=fun _ H Q=>Q v H
theorem mz{i:Nat}{x:Str}{pos:Pos}(hN:X.N[i]?=some x)(hv:Vis X.env.scope x)(hd:(x==("__debug__":Str))=false:=by decide)(hcd:(x==("__classdict__":Str))=false:=by decide):PE X (.Name x pos) (Ub i):=by
 intro pins s σ H Q I h
 obtain⟨v,e,h⟩:=h
 obtain⟨m,hn,hl⟩:=I.loc
 obtain⟨u,r,l⟩:=hl i x v hN e hv
 have fin:EP X pins σ Q u s:=⟨v,H,I,r,h⟩
 rcases l with ⟨hk,hm⟩|⟨hk,c,hc,hcell⟩
 ·exact wpAny_Name (wpAny_loadName_local I.ok.kind hk hn hm fin) hd
 ·rcases hk with hk|hk
  ·exact wpAny_Name (wpAny_loadName_cell I.ok.kind hk hc hcell fin) hd
  ·exact wpAny_Name (wpAny_loadName_free I.ok.kind hk hc hcell fin hcd) hd
theorem AM{i j pos}:PE X (.Constant (.int i) j pos) (tC (.int i)):=fun _ _ _ H _ I h=>wpAny_Constant_int ⟨.int i,H,I.tok _,⟨_,rfl⟩,h⟩
theorem HI{b j pos}:PE X (.Constant (.bool b) j pos) (tC (.bl b)):=fun _ _ _ H _ I h=>Constant_bool ⟨.bl b,H,I,rfl,h⟩
theorem Uh{j pos}:PE X (.Constant .none j pos) (tC .non):=fun _ _ _ H _ I h=>Constant_none ⟨.non,H,I,rfl,h⟩
theorem BD{x j pos}:PE X (.Constant (.str x) j pos) (tC (.str x)):=fun _ _ _ H _ I h=>Calls.Constant_str ⟨.str x,H,I.tok _,⟨_,rfl⟩,h⟩
def Gl(X:Cx)(x:Str):Prop:=X.env.kindOf x=some .globalImplicit
theorem Za{E:Value->Shared->Prop}{pins:List (Addr×Obj)}{s:Shared}{σ:St}{H:Hp}{x:Str}{u:Value}{pos:Pos}{Q:Value->Shared->Prop}(I:Inv X pins σ H s)(hg:Gl X x)(hm:X.mg x=some u)(h:Q u s)
  (hd:(x==("__debug__":Str))=false:=by decide):wpAny (model X.prog X.w) X.A (eval (.Name x pos) X.env) Q E s :=
 Calls.Name_function_global I.ok.kind hg (Calls.loadGlobal_global (by rw[I.ok.glob];exact I.mod.glob.keeps I.bk) hm h) hd
theorem VC{E:Value->Shared->Prop}{pins:List (Addr×Obj)}{s:Shared}{σ:St}{H:Hp}{x:Str}{u:Value}{pos:Pos}{Q:Value->Shared->Prop}(I:Inv X pins σ H s)(hg:Gl X x)(hm:X.mg x=none)(hv:bootBuiltins x=some u)(h:Q u s)
  (hn:x≠"__name__":=by decide) (hd:(x==("__debug__":Str))=false:=by decide):wpAny (model X.prog X.w) X.A (eval (.Name x pos) X.env) Q E s:=by
 obtain⟨mb,h1,h2⟩:=I.mod.blt
 exact Calls.Name_function_global I.ok.kind hg (Calls.loadGlobal_builtin (by rw[I.ok.glob];exact I.mod.glob.keeps I.bk) hm (by rw[I.ok.blt];exact h1.keeps I.bk) ((h2 x hn).trans hv) h) hd
theorem MU{x:Str}{v:V}{u:Value}{pos:Pos}(hg:Gl X x)(hm:X.mg x=some u)(r:RelV v u)(hd:(x==("__debug__":Str))=false:=by decide):PE X (.Name x pos) (tC v) :=
 fun _ _ _ H _ I h=>Za I hg hm ⟨v,H,I,r,h⟩ hd
theorem kE{x:Str}{v:V}{u:Value}{pos:Pos}(hg:Gl X x)(hm:X.mg x=none)(hv:bootBuiltins x=some u)(r:RelV v u)(hn:x≠"__name__":=by decide)(hd:(x==("__debug__":Str))=false:=by decide):PE X (.Name x pos) (tC v) :=
 fun _ _ _ H _ I h=>VC I hg hm hv ⟨v,H,I,r,h⟩ hn hd
variable {a b:Expr} {ta tb:TE} {pos:Pos}
def tB(t:TE):TT:=fun σ H Q=>t σ H fun x H1=>∃c,x = .bl c/\Q c H1
theorem EE{e:Expr}{t:TE}(h:PE X e t)(he:∀whole,isTrue e X.env whole=(do let v <- whole;standAt e.pos;holding [v] (truthy v)):=by intro _;rfl):PT X e (tB t):=by
 intro pins s σ H Q I hw
 refine isTrue_plain (thn (h pins s σ H _ I hw) fun v s1 ⟨x,H1,I1,r1,q1⟩=>?_) (he _)
 obtain⟨d,rfl,q⟩:=q1
 cases r1
 exact wpAny_truthy_bool ⟨H1,I1,q⟩
variable {tA tB':TT} {GH:List Expr}
def n9(t u:TT):TT:=fun σ H Q=>t σ H fun c H1=>if c=true then u σ H1 Q else Q false H1
def tOr(t u:TT):TT:=fun σ H Q=>t σ H fun c H1=>if c=true then Q true H1 else u σ H1 Q
def ny(t:TT):TT:=fun σ H Q=>t σ H fun c H1=>Q (!c) H1
theorem MS(ha:PT X a tA):PW X (.BoolOp .And [a] pos) tA:=by
 intro wh pins s σ H Q I h
 refine isTrue_and (thn (ha pins s σ H Q I h) fun c s1 e=>?_)
 cases c with
 |true=>exact isTrue_and_nil e
 |false=>exact e
theorem Hl(ha:PT X a tA):PW X (.BoolOp .Or [a] pos) tA:=by
 intro wh pins s σ H Q I h
 refine isTrue_or (thn (ha pins s σ H Q I h) fun c s1 e=>?_)
 cases c with
 |false=>exact isTrue_or_nil e
 |true=>exact e
theorem P1(ha:PT X a tA)(hb:PW X (.BoolOp .And (b::GH) pos) tB'):PW X (.BoolOp .And (a::b::GH) pos) (n9 tA tB'):=by
 intro wh pins s σ H Q I h
 refine isTrue_and (thn (ha pins s σ H _ I h) fun c s1 ⟨H1,I1,q1⟩=>?_)
 cases c with
 |true=>exact hb wh pins s1 σ H1 Q I1 q1
 |false=>exact⟨H1,I1,q1⟩
theorem JO(ha:PT X a tA)(hb:PW X (.BoolOp .Or (b::GH) pos) tB'):PW X (.BoolOp .Or (a::b::GH) pos) (tOr tA tB'):=by
 intro wh pins s σ H Q I h
 refine isTrue_or (thn (ha pins s σ H _ I h) fun c s1 ⟨H1,I1,q1⟩=>?_)
 cases c with
 |true=>exact⟨H1,I1,q1⟩
 |false=>exact hb wh pins s1 σ H1 Q I1 q1
theorem Du(ha:PT X a tA):PT X (.UnaryOp .Not a pos) (ny tA):=by
 intro pins s σ H Q I h
 exact isTrue_not (ha pins s σ H (fun c H1=>Q (!c) H1) I h)
def lZ(ta tb:TE):TE:=fun σ H Q=>ta σ H fun x H1=>∃c,x = .bl c/\if c=true then tb σ H1 Q else Q (.bl false) H1
def lV(ta:TE):TE:=fun σ H Q=>ta σ H fun x H1=>∃c,x = .bl c/\Q (.bl (!c)) H1
theorem Hm{op}{t:TE}(h:PE X a t):PE X (.BoolOp op [a] pos) t:=fun pins s σ H Q I hw=>BoolOp_one (h pins s σ H Q I hw)
theorem E8(ha:PE X a ta)(hb:PE X (.BoolOp .And (b::GH) pos) tb):PE X (.BoolOp .And (a::b::GH) pos) (lZ ta tb):=by
 intro pins s σ H Q I h
 refine BoolOp_and (thn (ha pins s σ H _ I h) fun v s1 ⟨x,H1,I1,r1,q1⟩=>?_)
 obtain⟨c,rfl,q1⟩:=q1
 cases r1
 refine wpAny_truthy_bool ?_
 cases c with
 |true=>exact hb pins s1 σ H1 Q I1 q1
 |false=>exact⟨.bl false,H1,I1,rfl,q1⟩
theorem ij(ha:PE X a ta):PE X (.UnaryOp .Not a pos) (lV ta):=by
 intro pins s σ H Q I h
 refine UnaryOp_ (thn (ha pins s σ H _ I h) fun v s1 ⟨x,H1,I1,r1,q1⟩=>?_)
 obtain⟨c,rfl,q1⟩:=q1
 cases r1
 exact not_of (wpAny_truthy_bool ⟨.bl (!c),H1,I1,rfl,q1⟩)
def tIf(t:TT)(ta tb:TE):TE:=fun σ H Q=>t σ H fun c H1=>if c=true then ta σ H1 Q else tb σ H1 Q
theorem aQ{c:Expr}(hc:PT X c tA)(ha:PE X a ta)(hb:PE X b tb):PE X (.IfExp c a b pos) (tIf tA ta tb):=by
 intro pins s σ H Q I h
 refine wpAny_IfExp (thn (hc pins s σ H _ I h) fun d s1 ⟨H1,I1,q1⟩=>?_)
 cases d with
 |true=>exact ha pins s1 σ H1 Q I1 q1
 |false=>exact hb pins s1 σ H1 Q I1 q1
end
end L2
namespace L2
open PySem PySem.Spec PyProof.Rows
def SqL(K:PySem.W.Frag)(H:Hp)(a:Addr)(xs:List V):Prop :=
 Rd H a (.lst xs) \/
  ∃(o:Obj) (its:Array Value) (n:Nat),K.lookup a=some o/\o.cls = .type "list"/\o.dict=none/\o.data = .seq its n/\its.size<=sizeLine/\Vals xs its.toList
def SqT(K:PySem.W.Frag)(H:Hp)(a:Addr)(xs:List V):Prop :=
 Rd H a (.tup xs) \/
  ∃(o:Obj) (its:Array Value) (n:Nat),K.lookup a=some o/\o.cls = .type "tuple"/\o.data = .seq its n/\its.size<=sizeLine/\Vals xs its.toList
def p0:Value->Option V
 |.none=>some .non
 |.bool b=>some (.bl b)
 |.int i _=>some (.int i)
 |.str x _=>some (.str x)
 |.bytes b _=>some (.byt b)
 |.float b _=>some (.flt b)
 |.ref a=>some (.ref a)
 |.type n=>some (.ty n)
 |_=>none
theorem RelV.abs{x:V}{u:Value}(r:RelV x u):p0 u=some x:=by
 cases x with
 |non=>cases r;rfl
 |bl _=>cases r;rfl
 |int _=>obtain⟨t,rfl⟩:=r;rfl
 |str _=>obtain⟨t,rfl⟩:=r;rfl
 |byt _=>obtain⟨t,rfl⟩:=r;rfl
 |flt _=>obtain⟨t,rfl⟩:=r;rfl
 |ref _=>cases r;rfl
 |ty _=>cases r;rfl
theorem RelV.inj{x y:V}{u:Value}(r:RelV x u)(q:RelV y u):x=y:=Option.some.inj (r.abs.symm.trans q.abs)
theorem Vals.inj:∀{xs ys:List V} {us:List Value},Vals xs us->Vals ys us->xs=ys
 |_,_,_,.nil,.nil=>rfl
 |_,_,_,.cons r t,.cons r' t'=>by rw[r.inj r',Vals.inj t t']
section
variable {X:Cx} {pins:List (Addr×Obj)} {σ:St} {H:Hp} {s:Shared} {a:Addr} {xs ys:List V}
theorem SqL.of{K:PySem.W.Frag}(h:H a=some (.lst xs)):SqL K H a xs:=.inl (.inl h)
theorem SqT.of{K:PySem.W.Frag}(h:H a=some (.tup xs)):SqT K H a xs:=.inl (.inl h)
theorem Inv.list(I:Inv X pins σ H s)(h:SqL X.K H a xs):∃its:List Value,Vals xs its/\PlainL s.heap a its.toArray/\xs.length<=sizeLine:=by
 rcases h with h|⟨o,its,n,hk,hc,hd,hs,hz,r⟩
 ·obtain⟨z,its,n,r,e⟩:=h.ok I.hok
  exact⟨its,r,⟨_,n,e,rfl,rfl,rfl⟩,z⟩
 ·refine⟨its.toList,r,⟨o,n,I.kIn a o hk,hc,hd,by simpa using hs⟩,?_⟩
  have e:=r.length
  simp only[Array.length_toList]at e
  omega
theorem Inv.tuple(I:Inv X pins σ H s)(h:SqT X.K H a xs):∃its:List Value,Vals xs its/\IsTup s.heap a its.toArray/\xs.length<=sizeLine:=by
 rcases h with h|⟨o,its,n,hk,hc,hs,hz,r⟩
 ·obtain⟨z,its,r,p⟩:=h.ok I.hok
  exact⟨its,r,p,z⟩
 ·refine⟨its.toList,r,⟨o,I.kIn a o hk,hc,n,by simpa using hs⟩,?_⟩
  have e:=r.length
  simp only[Array.length_toList]at e
  omega
theorem Inv.list_inj(I:Inv X pins σ H s)(h:SqL X.K H a xs)(h':SqL X.K H a ys):xs=ys:=by
 obtain⟨its,r,⟨o,n,e,_,_,d⟩,_⟩:=I.list h
 obtain⟨its',r',⟨o',n',e',_,_,d'⟩,_⟩:=I.list h'
 rw[e]at e';cases e'
 rw[d]at d'
 injection d' with d1 _
 have:its=its':=by simpa using congrArg Array.toList d1
 subst this
 exact r.inj r'
theorem Inv.tuple_inj(I:Inv X pins σ H s)(h:SqT X.K H a xs)(h':SqT X.K H a ys):xs=ys:=by
 obtain⟨its,r,⟨o,e,_,n,d⟩,_⟩:=I.tuple h
 obtain⟨its',r',⟨o',e',_,n',d'⟩,_⟩:=I.tuple h'
 rw[e]at e';cases e'
 rw[d]at d'
 injection d' with d1 _
 have:its=its':=by simpa using congrArg Array.toList d1
 subst this
 exact r.inj r'
end
abbrev Cx.wish(X:Cx)(E:Value->Shared->Prop):Cx:={ X with xe:=E }
abbrev Cx.nox(X:Cx):Cx:=X.wish fun _ _=>False
theorem Cx.Ok.wish{X:Cx}(ok:X.Ok)(E:Value->Shared->Prop):(X.wish E).Ok :=
 ⟨ok.mod,ok.kind,ok.glob,ok.blt,ok.above,ok.inj,ok.has,ok.cab,ok.hd,ok.frames,ok.stk,ok.exf,ok.bs,ok.bsz,ok.noex,ok.exfs,ok.funs,ok.frf⟩
theorem Cx.Ok.unwish{X:Cx}{E:Value->Shared->Prop}(ok:(X.wish E).Ok):X.Ok :=
 ⟨ok.mod,ok.kind,ok.glob,ok.blt,ok.above,ok.inj,ok.has,ok.cab,ok.hd,ok.frames,ok.stk,ok.exf,ok.bs,ok.bsz,ok.noex,ok.exfs,ok.funs,ok.frf⟩
section
variable {X:Cx} {pins:List (Addr×Obj)} {σ:St} {H:Hp} {s:Shared} {E:Value->Shared->Prop}
theorem Inv.wish(I:Inv X pins σ H s)(E:Value->Shared->Prop):Inv (X.wish E) pins σ H s:=⟨I.ok.wish E,I.os,I.bare,I.base,I.loc,I.cell,I.free,I.freeC,I.pin,I.hok,I.len⟩
theorem Inv.unwish(I:Inv (X.wish E) pins σ H s):Inv X pins σ H s:=⟨I.ok.unwish,I.os,I.bare,I.base,I.loc,I.cell,I.free,I.freeC,I.pin,I.hok,I.len⟩
theorem SP.unwish{D:cL}{f:Flow}{s':Shared}(h:SP (X.wish E) pins D f s'):SP X pins D f s':=by
 cases f with
 |next=>obtain⟨σ',H',I,q⟩:=h;exact⟨σ',H',I.unwish,q⟩
 |brk=>obtain⟨σ',H',I,q⟩:=h;exact⟨σ',H',I.unwish,q⟩
 |cont=>obtain⟨σ',H',I,q⟩:=h;exact⟨σ',H',I.unwish,q⟩
 |ret u=>obtain⟨v,σ',H',I,r,q⟩:=h;exact⟨v,σ',H',I.unwish,r,q⟩
theorem PSs.nox{st:List Stmt}{t:TS}(h:PSs X.nox st t):PSs X st t:=fun pins s σ H D I hw =>
 wpAny_mono (h pins s σ H D (I.wish _) hw) (fun _ _ q=>q.unwish) fun _ _ z=>False.elim z
end
section
variable {X:Cx} {st:Stmt} {GH:List Stmt} {t u:TS} {e:Expr} {te:TE} {pos:Pos}
def lW:TS:=fun D σ H=>D.nx σ H
def nu(t u:TS):TS:=fun D σ H=>t { D with nx:=u D } σ H
theorem Ay:PSs X [] lW:=fun _ _ σ H _ I h=>wpAny_execs_nil ⟨σ,H,I,h⟩
theorem AN(h1:PS X st t)(h2:PSs X GH u):PSs X (st::GH) (nu t u):=by
 intro pins s σ H D I h
 refine wpAny_execs_cons (thn (h1 pins s σ H { D with nx:=u D } I h) fun f s1 q=>?_)
 cases f with
 |next =>
  obtain⟨σ',H',I',q⟩:=q
  exact h2 pins s1 σ' H' D I' q
 |ret v=>exact q
 |brk=>exact q
 |cont=>exact q
theorem AV(h1:PS X st t):PSs X [st] t:=by
 intro pins s σ H D I h
 refine wpAny_execs_cons (thn (h1 pins s σ H D I h) fun f s1 q=>?_)
 cases f with
 |next=>exact wpAny_execs_nil q
 |ret v=>exact q
 |brk=>exact q
 |cont=>exact q
theorem Inv.quiet{pins:List (Addr×Obj)}{σ:St}{H:Hp}{s:Shared}(I:Inv X pins σ H s):interactive X.env=false:=by simp[interactive,I.ok.kind]
def lY(te:TE):TS:=fun D σ H=>te σ H fun _ H1=>D.nx σ H1
theorem Gv(he:PE X e te)(hs:swapsWith e none pos.line X.env=pure false:=by rfl):PS X (.Expr e pos) (lY te):=by
 intro pins s σ H D I h
 exact wpAny_Expr_any (thn (he pins s σ H _ I h) fun v s1 ⟨x,H1,I1,r1,q1⟩=>⟨σ,H1,I1,q1⟩) I.quiet hs
def mj(te:TE):TS:=fun D σ H=>te σ H D.rt
theorem Ac(he:PE X e te):PS X (.Return (some e) pos) (mj te):=by
 intro pins s σ H D I h
 exact wpAny_Return_some (thn (he pins s σ H _ I h) fun v s1 ⟨x,H1,I1,r1,q1⟩=>⟨x,σ,H1,I1,r1,q1⟩)
def lT:TS:=fun D _ H=>D.rt .non H
theorem kA:PS X (.Return none pos) lT:=fun _ _ σ H _ I h=>wpAny_Return_none ⟨.non,σ,H,I,rfl,h⟩
def nz(c:TT)(t u:TS):TS:=fun D σ H=>c σ H fun b H1=>if b=true then t D σ H1 else u D σ H1
theorem Bt{c:Expr}{a b:List Stmt}{tc:TT}(hc:PT X c tc)(ha:PSs X a t)(hb:PSs X b u):PS X (.If c a b pos) (nz tc t u):=by
 intro pins s σ H D I h
 refine wpAny_If (thn (hc pins s σ H _ I h) fun d s1 ⟨H1,I1,q1⟩=>?_)
 cases d with
 |true=>exact ha pins s1 σ H1 D I1 q1
 |false=>exact hb pins s1 σ H1 D I1 q1
def iN:TS:=fun _ _ _=>False
theorem HW:PS X st iN:=fun _ _ _ _ _ _ h=>h.elim
end
abbrev TG:=V->St->Hp->(St->Hp->Prop)->Prop
abbrev TGs:=List V->St->Hp->(St->Hp->Prop)->Prop
def PG(X:Cx)(target:Expr)(t:TG):Prop :=
 ∀(pins:List (Addr×Obj)) (s:Shared) (σ:St) (H:Hp) (v:V) (u:Value) (Q:St->Hp->Prop),Inv X pins σ H s->RelV v u->t v σ H Q ->
  wpAny (model X.prog X.w) X.A (assign target X.env u) (fun _ s'=>∃σ' H',Inv X pins σ' H' s'/\Q σ' H') X.xe s
def PGs(X:Cx)(ts:List Expr)(t:TGs):Prop :=
 ∀(pins:List (Addr×Obj)) (s:Shared) (σ:St) (H:Hp) (vs:List V) (us:List Value) (Q:St->Hp->Prop),Inv X pins σ H s->Vals vs us->t vs σ H Q ->
  wpAny (model X.prog X.w) X.A (assignInOrder ((assignEach ts X.env).map (·.2)) us) (fun _ s'=>∃σ' H',Inv X pins σ' H' s'/\Q σ' H') X.xe s
abbrev nX:=V->V->V->Hp->(Hp->Prop)->Prop
def pW(X:Cx)(t:nX):Prop :=
 ∀(pins:List (Addr×Obj)) (s:Shared) (σ:St) (H:Hp) (o i v:V) (ov iv u:Value) (Q:Hp->Prop),Inv X pins σ H s->RelV o ov->RelV i iv->RelV v u->t o i v H Q ->
  wpAny (model X.prog X.w) X.A (setItem ov iv u) (fun _ s'=>∃H',Inv X pins σ H' s'/\Q H') X.xe s
section
variable {X:Cx} {pos:Pos}
def VS(i:Nat):TG:=fun v σ H Q=>Q (σ.set i (some v)) H
theorem Aq{i:Nat}{x:Str}(hN:X.N.Nodup)(hi:X.N[i]?=some x)(hx:Loc X.env.scope x)(hf:X.fn x=true\/X.env.scope.names.lookup x=some .local:=by first|exact .inl rfl|exact .inr rfl|assumption):PG X (.Name x pos) (VS i):=by
 intro pins s σ H v u Q I r h
 exact wpAny_assign_Name (Qm I hN hi hx r (fun s' I'=>⟨_,H,I',h⟩) hf)
def oz:TGs:=fun vs σ H Q=>vs=[]/\Q σ H
def mM(t:TG)(u:TGs):TGs:=fun vs σ H Q=>∃v r,vs=v::r/\t v σ H fun σ' H'=>u r σ' H' Q
theorem Dd:PGs X [] oz:=by
 intro pins s σ H vs us Q I r h
 obtain⟨e,h⟩:=h
 subst e
 cases r
 exact assignInOrder_nil ⟨σ,H,I,h⟩
theorem BL{e:Expr}{es:List Expr}{t:TG}{u:TGs}(h1:PG X e t)(h2:PGs X es u)
  (hs:(assignEach (e::es) X.env).map (·.2)=assign e X.env::(assignEach es X.env).map (·.2):=by rfl):PGs X (e::es) (mM t u):=by
 intro pins s σ H vs us Q I r h
 obtain⟨v,vr,e1,h⟩:=h
 subst e1
 cases r with
 |cons r rr =>
  rw[hs]
  refine assignInOrder_cons (thn (h1 pins s σ H _ _ _ I r h) fun _ s1 ⟨σ1,H1,I1,q1⟩=>?_)
  exact h2 pins s1 σ1 H1 _ _ Q I1 rr q1
def ou(K:PySem.W.Frag)(n:Nat)(t:TGs):TG:=fun v σ H Q=>∃a xs,v = .ref a/\SqT K H a xs/\xs.length=n/\t xs σ H Q
theorem E7{es:List Expr}{k:Nat}{t:TGs}{n:Nat}(hc:X.calm=true)(h:PGs X es t)
  (hn:(assignEach es X.env).length=n:=by rfl) (hst:(assignEach es X.env).findIdx? (·.1)=none:=by rfl):PG X (.Tuple es k pos) (ou X.K n t):=by
 intro pins s σ H v u Q I r hw
 obtain⟨a,xs,e1,hq,hl,hw⟩:=hw
 subst e1
 cases r
 obtain⟨its,rv,ht,hz⟩:=I.tuple hq
 refine assign_Tuple_tuple (I.ok.hd hc) ht (by simp[hn,<- hl,rv.length]) hst fun h' hx=>?_
 have I1:Inv X pins σ H { s with heap:=h' }:=I.kept (t':=s.toks) fun b o e=>hx b o (Nat.ne_of_lt (Heap.lt_size e)) e
 exact h pins _ σ H xs _ Q I1 (by simpa using rv) hw
def oy(to ti:TE)(t:nX):TG:=fun v σ H Q=>to σ H fun o H1=>ti σ H1 fun i H2=>t o i v H2 fun H3=>Q σ H3
theorem ig{o i:Expr}{to ti:TE}{t:nX}(ho:PE X o to)(hi:PE X i ti)(hs:pW X t)
  (ha : ∀ v, assign (.Subscript o i pos) X.env v = (do
   let ov <- holding [v] (eval o X.env)
   let iv <- holding [v,ov] (eval i X.env)
   standAt pos
   holding [v,ov,iv] (setItem ov iv v)
   release [v,ov,iv] []):=by intro _;rfl):PG X (.Subscript o i pos) (oy to ti t):=by
 intro pins s σ H v u Q I r h
 rw[ha]
 refine wpAny_bind (wpAny_holding (thn (ho pins s σ H _ I h) fun ov s1 ⟨x,H1,I1,r1,q1⟩=>?_))
 refine wpAny_bind (wpAny_holding (thn (hi pins s1 σ H1 _ I1 q1) fun iv s2 ⟨y,H2,I2,r2,q2⟩=>?_))
 refine wpAny_bind (wpAny_standAt (wpAny_bind (wpAny_holding (thn (hs pins s2 σ H2 x y v ov iv u _ I2 r1 r2 r q2) fun _ s3 ⟨H3,I3,q3⟩=>?_))))
 exact wpAny_release ⟨σ,H3,I3,q3⟩
def cq(te:TE)(g:TG):TS:=fun D σ H=>te σ H fun x H1=>g x σ H1 D.nx
theorem E6{tg e:Expr}{te:TE}{g:TG}(he:PE X e te)(hg:PG X tg g)(hs:swapsWithSole [tg] e pos.line X.env=pure false:=by rfl)(hw:swappedStores [tg] e X.env=pure none:=by rfl)
  (h1:(assignEach [tg] X.env).map (·.2)=[assign tg X.env]:=by rfl):PS X (.Assign [tg] e pos) (cq te g):=by
 intro pins s σ H D I h
 refine wpAny_Assign_stores (thn (he pins s σ H _ I h) fun v s1 ⟨x,H1,I1,r1,q1⟩=>?_) hs hw
 rw[h1]
 exact thn (hg pins s1 σ H1 x v _ I1 r1 q1) fun _ s2 q=>q
theorem Az{i:Nat}{x:Str}{e:Expr}{te:TE}{pos':Pos}(hN:X.N.Nodup)(hi:X.N[i]?=some x)(hx:Loc X.env.scope x)(he:PE X e te)(hs:swapsWith e (some (.Name x pos')) pos.line X.env=pure false:=by rfl)(hf:X.fn x=true\/X.env.scope.names.lookup x=some .local:=by first|exact .inl rfl|exact .inr rfl|assumption) :
  PS X (.Assign [.Name x pos'] e pos) (cq te (VS i)):=by
 intro pins s σ H D I h
 refine wpAny_Assign_Name (thn (he pins s σ H _ I h) fun v s1 ⟨y,H1,I1,r1,q1⟩=>?_) hs
 exact Qm I1 hN hi hx r1 (fun s2 I2=>⟨_,H1,I2,q1⟩) hf
def nv(i j:Nat)(ta:TA):TS:=fun D σ H=>ta σ H fun vs H1=>∃v w,vs=[v,w]/\D.nx ((σ.set i (some v)).set j (some w)) H1
theorem cx{i j:Nat}{x y:Str}{a b:Expr}{ta:TA}{px py pt:Pos}{kt k2 pt2}(hc:X.calm=true)(hN:X.N.Nodup)(hi:X.N[i]?=some x)(hj:X.N[j]?=some y)(hij:i≠j)
  (hx:X.env.scope.names.lookup x=some .local) (hy:X.env.scope.names.lookup y=some .local) (ha:PA X [a,b] ta)
  (hw:swappedStores [.Tuple [.Name x px,.Name y py] kt pt] (.Tuple [a,b] k2 pt2) X.env=pure (some [x,y]))
  (hs:swapsWithSole [.Tuple [.Name x px,.Name y py] kt pt] (.Tuple [a,b] k2 pt2) pos.line X.env=pure false:=by rfl) :
  PS X (.Assign [.Tuple [.Name x px,.Name y py] kt pt] (.Tuple [a,b] k2 pt2) pos) (nv i j ta):=by
 intro pins s σ H D I h
 rw[exec_Assign_arm]
 refine wpAny_bind (wpAny_standAt ?_)
 rw[hs]
 refine wpAny_bind (wpAny_pure ?_)
 rw[if_neg (by decide)]
 refine wpAny_bind (Tuple_ (thn (ha _ pins s σ H _ I h) fun us s1 ⟨vs,H1,I1,r1,q1⟩=>?_))
 obtain⟨v,w,e1,q1⟩:=q1
 subst e1
 obtain⟨u1,u2,rfl,rv,rw'⟩:∃u1 u2,us=[u1,u2]/\RelV v u1/\RelV w u2:=by
  cases r1 with
  |cons p q =>
   cases q with
   |cons p' q' =>
    cases q'
    exact⟨_,_,rfl,p,p'⟩
 refine wpAny_newObj_type ?_ (by show 2<=sizeLine;decide)
 have I2:Inv X pins σ H1 { s1 with heap:=s1.heap.push { cls:=.type "tuple",data:=.seq [u1,u2].toArray } }:=I1.kept (t':=s1.toks) fun b o e=>Heap.get?_push_of_some _ e
 rw[hw]
 refine wpAny_bind (wpAny_pure ?_)
 show wpAny (model X.prog X.w) X.A (do rule "assign.swapped-stores";let items <- unpackItems (.ref s1.heap.objs.size) 2 none;assignInOrder [fun v=>bindName X.env y v,fun v=>bindName X.env x v] items.reverse;pure Flow.next) _ _ _
 refine wpAny_bind (wpAny_rule (wpAny_bind (unpackItems_tuple (items:=#[u1,u2]) (I.ok.hd hc) (IsTup.new s1.heap _) fun h' hx'=>?_)))
 have I3:=I2.kept (h':=h') (t':=s1.toks) fun b o e=>hx' b o (Nat.ne_of_lt (Heap.lt_size e)) e
 show wpAny _ _ (assignInOrder [fun v=>bindName X.env y v,fun v=>bindName X.env x v] [u2,u1] >>= fun _=>pure Flow.next) _ _ _
 refine wpAny_bind (assignInOrder_cons (wpAny_bindName (Qm I3 hN hj (.inl hy) rw' (fun s2 I4=>?_) (.inr hy))))
 refine assignInOrder_cons (wpAny_bindName (Qm I4 hN hi (.inl hx) rv (fun s3 I5=>assignInOrder_nil (wpAny_pure ?_)) (.inr hx)))
 rw[List.set_comm _ _ (Ne.symm hij)]at I5
 exact⟨_,H1,I5,q1⟩
end
section
variable {X:Cx} {pos:Pos}
def iL(c:TT)(tb:TS):TS:=fun D σ H=>∃W:Nat->St->Hp->Prop,(∃m,W m σ H)/\∀m σ H,W m σ H ->
 c σ H fun b H1=>if b=true then ∃N:St->Hp->Prop,(∀σ' H',N σ' H'->∃m',m'<m/\W m' σ' H')/\tb { D with nx:=N,ct:=N,bk:=D.nx } σ H1 else D.nx σ H1
theorem Np{c:Expr}{body:List Stmt}{tc:TT}{tb:TS}(hp:PassesOwn (model X.prog X.w) X.A X.env X.xe)(hc:PT X c tc)(hb:PSs X body tb):PS X (.While c body [] pos) (iL tc tb):=by
 intro pins s σ H D I h
 obtain⟨W,⟨m0,w0⟩,turn⟩:=h
 refine wpAny_While (codeAny_whileLoop (fun n s'=>∃σ' H',Inv X pins σ' H' s'/\W n σ' H') ?_ m0 ⟨σ,H,I,w0⟩)
 rintro n s1 ⟨σ1,H1,I1,w1⟩
 refine wpAny_passesOwn hp (thn (hc pins s1 σ1 H1 _ I1 (turn n σ1 H1 w1)) fun b s2 ⟨H2,I2,q2⟩=>?_)
 cases b with
 |true =>
  obtain⟨N,hN,q2⟩:=q2
  rw[if_pos rfl]
  refine wpAny_passesOwn hp (thn (hb pins s2 σ1 H2 _ I2 q2) fun f s3 q3=>?_)
  cases f with
  |next =>
   obtain⟨σ3,H3,I3,n3⟩:=q3
   obtain⟨m',hm,w3⟩:=hN σ3 H3 n3
   exact⟨m',hm,σ3,H3,I3,w3⟩
  |cont =>
   obtain⟨σ3,H3,I3,n3⟩:=q3
   obtain⟨m',hm,w3⟩:=hN σ3 H3 n3
   exact⟨m',hm,σ3,H3,I3,w3⟩
  |brk=>exact q3
  |ret v=>exact q3
 |false =>
  rw[if_neg Bool.false_ne_true]
  exact wpAny_execs_nil ⟨σ1,H2,I2,q2⟩
end
structure It where
 go:Nat->Hp->Prop
 yld:Nat->Hp->V->Hp->Prop
 stop:Nat->Hp->Prop
def Sf(X:Cx)(pins:List (Addr×Obj))(H:Hp)(b:Addr):Prop :=
 H b=none/\b≠X.env.locals/\b∉X.fs/\(b∈X.ex\/X.s₀.heap.objs.size<=b)/\(∀x c,X.env.cells.lookup x=some c->c≠b)/\∀p∈X.pn++pins,p.1≠b
theorem Inv.fpOk{X:Cx}{pins:List (Addr×Obj)}{σ:St}{H H':Hp}{s:Shared}{b:Addr}(I:Inv X pins σ H s)(hb:s.heap.objs.size<=b)(hn:H' b=none):Sf X pins H' b:=by
 refine⟨hn,Nat.ne_of_gt (Nat.lt_of_lt_of_le I.lt hb),I.nofs hb,.inr (Nat.le_trans I.sz hb),fun x c e z=>?_,fun p hp z=>?_⟩
 ·obtain⟨v,q⟩:=I.cell x c e
  exact absurd (Nat.lt_of_lt_of_le q.lt (by rw[z];exact hb)) (Nat.lt_irrefl _)
 ·exact absurd (Nat.lt_of_lt_of_le (Heap.lt_size (I.pin p hp).1) (by rw[z];exact hb)) (Nat.lt_irrefl _)
structure cK(P:Program)(w:World)(K:PySem.W.Frag)(tg:Expr)(J:It)(fp:List Addr)(it:Addr)(tn:Nat->Heap->Prop):Prop where
 mem:it∈fp
 obj:∀i h,tn i h->∀b∈fp,∃o,h.get? b=some o/\∀v,o.data≠.cell v
 keep:∀i h h',tn i h->(∀b∈fp,∀o,h.get? b=some o->h'.get? b=some o)->tn i h'
 item:∀(X:Cx),X.prog=P->X.w=w->X.K=K->X.calm=true->∀(i:Nat) (pins:List (Addr×Obj)) (s:Shared) (σ:St) (H:Hp) (E:Value->Shared->Prop),Inv X pins σ H s->(∀b∈fp,Sf X pins H b)->tn i s.heap->J.go i H ->
  wpAny (model P w) X.A (pyNext (.ref it)) (fun r s1 => ∃ u, r = some u /\
   wpAny (model P w) X.A (letOwnedTupleGo tg (.ref it) u) (fun _ s2=>∃x H',Inv X pins σ H' s2/\RelV x u/\J.yld i H x H'/\tn (i+1) s2.heap/\∀b∈fp,H' b=none) E s1) E s
 done:∀(X:Cx),X.prog=P->X.w=w->X.K=K->X.calm=true->∀(i:Nat) (pins:List (Addr×Obj)) (s:Shared) (σ:St) (H:Hp) (E:Value->Shared->Prop),Inv X pins σ H s->(∀b∈fp,Sf X pins H b)->tn i s.heap->J.stop i H ->
  wpAny (model P w) X.A (pyNext (.ref it)) (fun r s1=>r=none/\Inv X pins σ H s1) E s
 self:∀(A:Around) (i:Nat) (s:Shared) (Q:Value->Shared->Prop) (E:Value->Shared->Prop),tn i s.heap->Q (.ref it) s->wpAny (model P w) A (pyIter (.ref it)) Q E s
abbrev TI:=St->Hp->(It->Hp->Prop)->Prop
def PIE(X:Cx)(pins:List (Addr×Obj))(σ:St)(tg:Expr)(R:It->Hp->Prop)(itv:Value)(s2:Shared):Prop :=
 ∃(it:Addr) (fp:List Addr) (tn:Nat->Heap->Prop) (J:It) (H':Hp),itv = .ref it/\Inv X pins σ H' s2/\cK X.prog X.w X.K tg J fp it tn/\tn 0 s2.heap/\(∀b∈fp,Sf X pins H' b)/\R J H'
def PI(X:Cx)(tg iter:Expr)(wi:TI):Prop :=
 ∀(pins:List (Addr×Obj)) (s:Shared) (σ:St) (H:Hp) (R:It->Hp->Prop),Inv X pins σ H s->wi σ H R ->
  wpAny (model X.prog X.w) X.A (eval iter X.env) (fun v s1=>wpAny (model X.prog X.w) X.A (pyIter v) (PIE X pins σ tg R) X.xe s1) X.xe s
theorem fP{M:Model}{A:Around}{E:Value->Shared->Prop}{s:Shared}{tg:Expr}{it:Addr}{u:Value}{o:Obj}{n:String}{vs:Array Value}{Q:Unit->Shared->Prop}(ho:s.heap.get? it=some o)(hc:o.cls = .type n)(hd:o.data = .fields vs)
    (hn:["enumerate","zip","dict_itemiterator","dict_reverseitemiterator","odict_iterator","itertools.zip_longest","itertools.pairwise"].contains n=false) (hQ:Q () s):wpAny M A (letOwnedTupleGo tg (.ref it) u) Q E s:=by
  unfold letOwnedTupleGo
  cases tg<;>first
    |exact wpAny_pure hQ
    | (cases u <;> first
        |exact wpAny_pure hQ
        | (refine wpAny_bind (wpAny_load ho ?_)
           rw[hc,hd]
           show wpAny M A (if (["enumerate","zip","dict_itemiterator","dict_reverseitemiterator","odict_iterator","itertools.zip_longest","itertools.pairwise"].contains n&&vs[0]?==some (rawInt _))=true then _ else _) Q E s
           rw[if_neg (by intro h;rw[hn,Bool.false_and]at h;cases h)]
           exact wpAny_pure hQ))
def Itl(K:PySem.W.Frag)(a:Addr):It :=
 ⟨fun i H=>∃xs x,SqL K H a xs/\xs[i]?=some x,fun i H x H'=>H'=H/\∀xs,SqL K H a xs->xs[i]?=some x,fun i H=>∃xs,SqL K H a xs/\xs.length<=i⟩
def Itt(K:PySem.W.Frag)(a:Addr):It :=
 ⟨fun i H=>∃xs x,SqT K H a xs/\xs[i]?=some x,fun i H x H'=>H'=H/\∀xs,SqT K H a xs->xs[i]?=some x,fun i H=>∃xs,SqT K H a xs/\xs.length<=i⟩
def Itr(lo:Int)(n:Nat):It:=⟨fun i _=>i<n,fun i H x H'=>H'=H/\x = .int (lo+i),fun i _=>n<=i⟩
theorem gA{P:Program}{w:World}{K:PySem.W.Frag}{tg:Expr}(a it:Addr):cK P w K tg (Itl K a) [it] it (fun i h=>h.IsListIter it a i) where
 mem:=by simp
 obj:=fun i h st b hb=>by
  have e:b=it:=by simpa using hb
  subst e
  obtain⟨o,e,c,d⟩:=st
  exact⟨o,e,fun v z=>by rw[d]at z;cases z⟩
 keep:=fun i h h' st k=>st.at fun o e=>k it (by simp) o e
 item:=by
  intro X hP hw hK hc i pins s σ H E I hf st hg
  subst hP hw hK
  obtain⟨xs,x,hq,hx⟩:=hg
  obtain⟨its,rv,p,hz⟩:=I.list hq
  obtain⟨u,hu,ru⟩:=rv.get hx
  obtain⟨f0,f1,f2,f3,f4,f5⟩:=hf it (by simp)
  refine wpAny_pyNext_list_item st p.isList (x:=u) (by simpa using hu) fun h' st' sb=>?_
  have I1:Inv X pins σ H { s with heap:=h' }:=I.turned (t':=s.toks) (fun b o hb e=>(sb.2 b hb).trans e) f0 f1 f3 f4 f5
  obtain⟨o,e,c,d⟩:=id st'
  exact⟨u,rfl,fP (s:={ s with heap:=h' }) e c d (by decide) ⟨x,H,I1,ru,⟨rfl,fun ys hy=>by rw[I.list_inj hy hq];exact hx⟩,st',fun b hb=>(hf b hb).1⟩⟩
 done:=by
  intro X hP hw hK hc i pins s σ H E I hf st hg
  subst hP hw hK
  obtain⟨xs,hq,hx⟩:=hg
  obtain⟨its,rv,p,hz⟩:=I.list hq
  obtain⟨f0,f1,f2,f3,f4,f5⟩:=hf it (by simp)
  have hl:=rv.length
  exact wpAny_pyNext_list_end (I.ok.hd hc) st p.isList (by simp;omega) fun h' eb=>⟨rfl,I.turned (t':=s.toks) (fun b o hb e=>eb b o hb e) f0 f1 f3 f4 f5⟩
 self:=fun _ _ _ _ _ st h=>wpAny_pyIter_listiter st h
theorem cg{P:Program}{w:World}{K:PySem.W.Frag}{tg:Expr}(a it:Addr):cK P w K tg (Itt K a) [it] it (fun i h=>h.IsTupleIter it a i) where
 mem:=by simp
 obj:=fun i h st b hb=>by
  have e:b=it:=by simpa using hb
  subst e
  obtain⟨o,e,c,d⟩:=st
  exact⟨o,e,fun v z=>by rw[d]at z;cases z⟩
 keep:=fun i h h' st k=>st.at fun o e=>k it (by simp) o e
 item:=by
  intro X hP hw hK hc i pins s σ H E I hf st hg
  subst hP hw hK
  obtain⟨xs,x,hq,hx⟩:=hg
  obtain⟨its,rv,p,hz⟩:=I.tuple hq
  obtain⟨u,hu,ru⟩:=rv.get hx
  obtain⟨f0,f1,f2,f3,f4,f5⟩:=hf it (by simp)
  refine wpAny_pyNext_tuple_item st (show s.heap.IsTuple a its.toArray from p) (x:=u) (by simpa using hu) fun h' st' sb=>?_
  have I1:Inv X pins σ H { s with heap:=h' }:=I.turned (t':=s.toks) (fun b o hb e=>(sb.2 b hb).trans e) f0 f1 f3 f4 f5
  obtain⟨o,e,c,d⟩:=id st'
  exact⟨u,rfl,fP (s:={ s with heap:=h' }) e c d (by decide) ⟨x,H,I1,ru,⟨rfl,fun ys hy=>by rw[I.tuple_inj hy hq];exact hx⟩,st',fun b hb=>(hf b hb).1⟩⟩
 done:=by
  intro X hP hw hK hc i pins s σ H E I hf st hg
  subst hP hw hK
  obtain⟨xs,hq,hx⟩:=hg
  obtain⟨its,rv,p,hz⟩:=I.tuple hq
  obtain⟨f0,f1,f2,f3,f4,f5⟩:=hf it (by simp)
  have hl:=rv.length
  exact wpAny_pyNext_tuple_end (I.ok.hd hc) st (show s.heap.IsTuple a its.toArray from p) (by simp;omega) fun h' eb=>⟨rfl,I.turned (t':=s.toks) (fun b o hb e=>eb b o hb e) f0 f1 f3 f4 f5⟩
 self:=fun _ _ _ _ _ st h=>wpAny_pyIter_tupleiter st h
theorem cj{P:Program}{w:World}{K:PySem.W.Frag}{tg:Expr}(it:Addr)(lo:Int)(n:Nat):cK P w K tg (Itr lo n) [it] it (fun i h=>IsRangeIter h it (lo+(i:Nat)*1) ((n:Int)-(i:Nat)) 1) where
 mem:=by simp
 obj:=fun i h st b hb=>by
  have e:b=it:=by simpa using hb
  subst e
  exact ⟨_, st, fun v z => by
   have z':Data.fields _=Data.cell v:=z
   cases z'⟩
 keep:=fun i h h' st k=>k it (by simp) _ st
 item:=by
  intro X hP hw hK hc i pins s σ H E I hf st hg
  subst hP hw hK
  obtain⟨f0,f1,f2,f3,f4,f5⟩:=hf it (by simp)
  have W:=Walks.range (prog:=X.prog) (w:=X.w) (I.ok.hd hc) it lo 1 n
  refine W.item i s _ _ hg st fun v h' tk hv st' kk=>?_
  obtain⟨t,rfl⟩:=hv
  have I1:Inv X pins σ H { s with heap:=h',toks:=tk }:=I.turned (fun b o hb e=>kk b o (by simpa using hb) e) f0 f1 f3 f4 f5
  refine⟨_,rfl,fP (s:={ s with heap:=h',toks:=tk }) (n:="range_iterator") st' rfl rfl (by decide) ⟨.int (lo+i),H,I1,⟨t,?_⟩,⟨rfl,rfl⟩,st',fun b hb=>(hf b hb).1⟩⟩
  rw[Int.mul_one]
 done:=by
  intro X hP hw hK hc i pins s σ H E I hf st hg
  subst hP hw hK
  obtain⟨f0,f1,f2,f3,f4,f5⟩:=hf it (by simp)
  exact wpAny_pyNext_range_end (I.ok.hd hc) st (by have:n<=i:=hg;omega) fun h' eb=>⟨rfl,I.turned (t':=s.toks) (fun b o hb e=>eb b o hb e) f0 f1 f3 f4 f5⟩
 self:=fun _ _ _ _ _ st h=>wpAny_pyIter_rangeiter st h
end L2
namespace L2
open PySem PySem.Spec PyProof.Rows
section
variable {X:Cx} {tg:Expr}
def mK(K:PySem.W.Frag)(tl:TE):TI:=fun σ H R=>tl σ H fun x H1=>∃a,x = .ref a/\(∃xs,SqL K H1 a xs)/\R (Itl K a) H1
def oo(K:PySem.W.Frag)(tl:TE):TI:=fun σ H R=>tl σ H fun x H1=>∃a,x = .ref a/\(∃xs,SqT K H1 a xs)/\R (Itt K a) H1
theorem FF{l:Expr}{tl:TE}(hl:PE X l tl):PI X tg l (mK X.K tl):=by
 intro pins s σ H R I h
 refine thn (hl pins s σ H _ I h) fun v s1 ⟨x,H1,I1,r1,q1⟩=>?_
 obtain⟨a,e,⟨xs,hq⟩,q⟩:=q1
 subst e
 cases r1
 obtain⟨its,rv,p,hz⟩:=I1.list hq
 refine wpAny_pyIter_list p.isList ?_
 refine⟨s1.heap.objs.size,[s1.heap.objs.size],_,_,H1,rfl,I1.kept (t':=s1.toks) fun b o e=>Heap.get?_push_of_some _ e,gA a _,⟨_,Heap.get?_push_size _ rfl,rfl,rfl⟩,fun b hb=>?_,q⟩
 have e:b=s1.heap.objs.size:=by simpa using hb
 subst e
 exact I1.fpOk (Nat.le_refl _) (I1.hok.fresh (Nat.le_refl _))
theorem ic{l:Expr}{tl:TE}(hl:PE X l tl):PI X tg l (oo X.K tl):=by
 intro pins s σ H R I h
 refine thn (hl pins s σ H _ I h) fun v s1 ⟨x,H1,I1,r1,q1⟩=>?_
 obtain⟨a,e,⟨xs,hq⟩,q⟩:=q1
 subst e
 cases r1
 obtain⟨its,rv,p,hz⟩:=I1.tuple hq
 refine wpAny_pyIter_tuple (show s1.heap.IsTuple a its.toArray from p) ?_
 refine⟨s1.heap.objs.size,[s1.heap.objs.size],_,_,H1,rfl,I1.kept (t':=s1.toks) fun b o e=>Heap.get?_push_of_some _ e,cg a _,⟨_,Heap.get?_push_size _ rfl,rfl,rfl⟩,fun b hb=>?_,q⟩
 have e:b=s1.heap.objs.size:=by simpa using hb
 subst e
 exact I1.fpOk (Nat.le_refl _) (I1.hok.fresh (Nat.le_refl _))
theorem iR{pins:List (Addr×Obj)}{σ:St}{H:Hp}{s:Shared}{R:It->Hp->Prop}{E:Value->Shared->Prop}{lo hi:Int}{t u v:Tok}{tk:Nat}(I:Inv X pins σ H s)(h1:-(2 ^ 62)<=lo)(h2:lo<2 ^ 62)(h3:-(2 ^ 62)<=hi)(h4:hi<2 ^ 62)
  (q:R (Itr lo (hi-lo).toNat) H):wpAny (model X.prog X.w) X.A (pyIter (.ref s.heap.objs.size)) (PIE X pins σ tg R) E { s with heap:=s.heap.push { cls:=.type "range",data:=.fields #[.int lo t,.int hi u,.int 1 v] },toks:=tk }:=by
 refine wpAny_pyIter_range (IsRange.new ..) (small_one h1 h2 h3 h4) ?_
 have I1:Inv X pins σ H { s with heap:=s.heap.push { cls:=.type "range",data:=.fields #[.int lo t,.int hi u,.int 1 v] },toks:=tk }:=I.kept fun b o e=>Heap.get?_push_of_some _ e
 refine ⟨(s.heap.push { cls := .type "range", data := .fields #[.int lo t, .int hi u, .int 1 v] }).objs.size, [(s.heap.push { cls := .type "range", data := .fields #[.int lo t, .int hi u, .int 1 v] }).objs.size], _, _, H, rfl,
  I1.kept (t':=tk) fun b o e=>Heap.get?_push_of_some _ e,cj _ lo (hi-lo).toNat,?_,fun b hb=>?_,q⟩
 ·have e1:lo+((0:Nat):Int)*1=lo:=by simp
  have e2:(((hi-lo).toNat:Nat):Int)-((0:Nat):Int)=Builtin.Range.rangeSize lo hi 1:=by rw[rangeSize_one];split<;>omega
  show IsRangeIter _ _ (lo+((0:Nat):Int)*1) ((((hi-lo).toNat:Nat):Int)-((0:Nat):Int)) 1
  rw[e1,e2]
  exact Heap.get?_push_size _ rfl
 ·have e:b=(s.heap.push { cls:=.type "range",data:=.fields #[.int lo t,.int hi u,.int 1 v] }).objs.size:=by simpa using hb
  subst e
  exact I1.fpOk (Nat.le_refl _) (I1.hok.fresh (Nat.le_refl _))
def mJ(ta:TA):TI:=fun σ H R=>ta σ H fun vs H1=>∃j:Int,vs=[.int j]/\-(2 ^ 62)<=j/\j<2 ^ 62/\R (Itr 0 j.toNat) H1
theorem Gy{a:Expr}{ta:TA}{p pos:Pos}(hg:Gl X "range")(hm:X.mg "range"=none)(ha:PA X [a] ta)(hs:starEach [a] X.env=[(false,eval a X.env)]:=by rfl):PI X tg (.Call (.Name "range" p) [a] [] pos) (mJ ta):=by
 intro pins s σ H R I h
 refine Call_ (VC I hg hm boot_range (PyProof.Rows.callWith_type1 (thn (ha pos pins s σ H _ I h) fun us s1 ⟨vs,H1,I1,r1,q1⟩=>?_) hs rfl))
 obtain⟨j,e,q1,q2,q⟩:=q1
 subst e
 cases r1 with
 |cons r rr =>
  cases rr
  obtain⟨t,rfl⟩:=r
  exact call_range_1 (iR I1 (by omega) (by omega) q1 q2 (by simpa using q))
def mr(wi:TI)(g:TG)(tb:TS):TS:=fun D σ H=>wi σ H fun J H1=>∃W:Nat->Nat->St->Hp->Prop,(∃m,W 0 m σ H1)/\∀i m σ H,W i m σ H ->
 (J.stop i H/\D.nx σ H)\/(J.go i H/\∃N:St->Hp->Prop,(∀σ' H',N σ' H'->∃m',m'<m/\W (i+1) m' σ' H')/\∀x H',J.yld i H x H'->g x σ H' fun σ2 H2=>tb { D with nx:=N,ct:=N,bk:=D.nx } σ2 H2)
def Ug(fp:List Addr)(h:Heap):List (Addr×Obj):=fp.filterMap fun b=>(h.get? b).map fun o=>(b,o)
theorem MZ{fp:List Addr}{h:Heap}{b:Addr}{o:Obj}(hb:b∈fp)(e:h.get? b=some o):(b,o)∈Ug fp h:=List.mem_filterMap.mpr ⟨b,hb,by rw[e];rfl⟩
theorem gQ{fp:List Addr}{h:Heap}{p:Addr×Obj}(hp:p∈Ug fp h):p.1∈fp/\h.get? p.1=some p.2:=by
 obtain⟨b,hb,e⟩:=List.mem_filterMap.mp hp
 cases q:h.get? b with
 |none=>rw[q]at e;cases e
 |some o =>
  rw[q]at e
  have e':(b,o)=p:=Option.some.inj e
  subst e'
  exact⟨hb,q⟩
theorem Inv.pinned{pins:List (Addr×Obj)}{σ:St}{H:Hp}{s:Shared}{fp:List Addr}(I:Inv X pins σ H s)(hf:∀b∈fp,Sf X pins H b)(ho:∀b∈fp,∃o,s.heap.get? b=some o/\∀v,o.data≠.cell v):Inv X (pins++Ug fp s.heap) σ H s :=
 I.pins_of fun p hp=>(List.mem_append.mp hp).elim (fun z=>I.pin p (List.mem_append_right _ z)) fun z=>by
  obtain⟨hb,e⟩:=gQ z
  obtain⟨f0,f1,f2,_⟩:=hf p.1 hb
  obtain⟨o,e',d⟩:=ho p.1 hb
  rw[e]at e';cases e'
  exact⟨e,f0,f1,f2,d⟩
theorem Inv.unpinned{pins pl:List (Addr×Obj)}{σ:St}{H:Hp}{s:Shared}(I:Inv X (pins++pl) σ H s):Inv X pins σ H s:=I.pins_of fun p hp=>I.pin p (List.mem_append_right _ (List.mem_append_left _ hp))
theorem IL{iter:Expr}{body:List Stmt}{wi:TI}{g:TG}{tb:TS}{pos:Pos}(hp:PassesOwn (model X.prog X.w) X.A X.env X.xe)(hc:X.calm=true)(hi:PI X tg iter wi)(hg:PG X tg g)(hb:PSs X body tb)
  (hs:∀x,foldedSetIterable iter X.env x=pure x:=by intro _;rfl):PS X (.For tg iter body [] pos) (mr wi g tb):=by
 intro pins s σ H D I h
 refine wpAny_For (thn (hi pins s σ H _ I h) fun v s1 h1=>thn h1 fun itv s2 h2=>?_) hs
 obtain⟨it,fp,tn,J,H2,e,I2,T,st2,f2,W,⟨m0,w0⟩,turn⟩:=h2
 subst e
 -- what stays true of the iterator's objects through the loop
 have stat:∀{H':Hp},(∀b∈fp,H' b=none)->∀b∈fp,Sf X pins H' b:=fun hn b hb=>⟨hn b hb,(f2 b hb).2⟩
 refine codeAny_forLoop_any (fun n s'=>∃i σ' H',Inv X pins σ' H' s'/\tn i s'.heap/\(∀b∈fp,H' b=none)/\W i n σ' H') ?_ m0 ⟨0,σ,H2,I2,st2,fun b hb=>(f2 b hb).1,w0⟩
 rintro n s3 ⟨i,σ3,H3,I3,st3,fr3,w3⟩
 rcases turn i n σ3 H3 w3 with ⟨stop,qn⟩|⟨go,N,hN,step⟩
 ·refine wpAny_passesOwn hp (thn (T.done X rfl rfl rfl hc i pins s3 σ3 H3 X.xe I3 (stat fr3) st3 stop) fun r s4 ⟨hr,I4⟩=>?_)
  subst hr
  exact wpAny_execs_nil ⟨σ3,H3,I4,qn⟩
 ·refine wpAny_passesOwn hp (thn (T.item X rfl rfl rfl hc i pins s3 σ3 H3 X.xe I3 (stat fr3) st3 go) fun r s4 ⟨u,hr,h4⟩=>?_)
  subst hr
  refine wpAny_passesOwn hp (thn h4 fun _ s5 ⟨x,H5,I5,r5,y5,st5,fr5⟩=>?_)
  have I5':=I5.pinned (stat fr5) (T.obj _ _ st5)
  refine wpAny_passesOwn hp (thn (hg _ s5 σ3 H5 x u _ I5' r5 (step x H5 y5)) fun _ s6 ⟨σ6,H6,I6,q6⟩=>?_)
  refine wpAny_passesOwn hp (thn (hb _ s6 σ6 H6 _ I6 q6) fun f s7 q7=>?_)
  have again:∀{σ7:St} {H7:Hp},Inv X (pins++Ug fp s5.heap) σ7 H7 s7->N σ7 H7->∃m,m<n/\∃i σ' H',Inv X pins σ' H' s7/\tn i s7.heap/\(∀b∈fp,H' b=none)/\W i m σ' H':=fun {σ7 H7} I7 n7=>by
   obtain⟨m',hm,w7⟩:=hN σ7 H7 n7
   refine⟨m',hm,i+1,σ7,H7,I7.unpinned,T.keep _ _ _ st5 fun b hb o e=>(I7.pin (b,o) (List.mem_append_right _ (List.mem_append_right _ (MZ hb e)))).1,fun b hb=>?_,w7⟩
   obtain⟨o,e,d⟩:=T.obj _ _ st5 b hb
   exact(I7.pin (b,o) (List.mem_append_right _ (List.mem_append_right _ (MZ hb e)))).2.1
  cases f with
  |next=>obtain⟨σ7,H7,I7,n7⟩:=q7;exact again I7 n7
  |cont=>obtain⟨σ7,H7,I7,n7⟩:=q7;exact again I7 n7
  |brk=>obtain⟨σ7,H7,I7,q7⟩:=q7;exact⟨σ7,H7,I7.unpinned,q7⟩
  |ret v=>obtain⟨x7,σ7,H7,I7,r7,q7⟩:=q7;exact⟨x7,σ7,H7,I7.unpinned,r7,q7⟩
end
end L2
namespace L2
open PySem PySem.Spec PyProof.Rows
abbrev R2:=V->V->Hp->VK->Prop
def OpR(X:Cx)(f:Value->Value->Sem Value)(r:R2):Prop :=
 ∀(pins:List (Addr×Obj)) (s:Shared) (σ:St) (H:Hp) (x y:V) (v u:Value) (Q:VK),Inv X pins σ H s->RelV x v->RelV y u->r x y H Q ->
  wpAny (model X.prog X.w) X.A (f v u) (EP X pins σ Q) X.xe s
def UnR(X:Cx)(f:Value->Sem Value)(r:V->Hp->VK->Prop):Prop :=
 ∀(pins:List (Addr×Obj)) (s:Shared) (σ:St) (H:Hp) (x:V) (v:Value) (Q:VK),Inv X pins σ H s->RelV x v->r x H Q ->
  wpAny (model X.prog X.w) X.A (f v) (EP X pins σ Q) X.xe s
def Oc(X:Cx)(f:Value)(r:List V->Hp->VK->Prop):Prop :=
 ∀(pins:List (Addr×Obj)) (s:Shared) (σ:St) (H:Hp) (xs:List V) (us:List Value) (Q:VK),Inv X pins σ H s->Vals xs us->r xs H Q ->
  wpAny (model X.prog X.w) X.A (call f us) (EP X pins σ Q) X.xe s
def tOp(r:R2)(ta tb:TE):TE:=fun σ H Q=>ta σ H fun x H1=>tb σ H1 fun y H2=>r x y H2 Q
def tUn(r:V->Hp->VK->Prop)(ta:TE):TE:=fun σ H Q=>ta σ H fun x H1=>r x H1 Q
def rI(C:Int->Int->Prop)(g:Int->Int->V):R2:=fun x y H Q=>∃i j,x = .int i/\y = .int j/\C i j/\Q (g i j) H
def rI0(g:Int->Int->V):R2:=fun x y H Q=>∃i j,x = .int i/\y = .int j/\Q (g i j) H
def rU(g:Int->V):V->Hp->VK->Prop:=fun x H Q=>∃i,x = .int i/\Q (g i) H
section
variable {X:Cx} {a b c:Expr} {ta tb tc:TE} {pos:Pos}
theorem nU(ha:PE X a ta)(hb:PE X b tb){pins:List (Addr×Obj)}{s:Shared}{σ:St}{H:Hp}{R:V->V->Hp->Prop}(I:Inv X pins σ H s)
  (h:ta σ H fun x H1=>tb σ H1 fun y H2=>R x y H2) {Q:Value->Shared->Prop} {f:Value->Value->Sem Value}
  (hf:∀v u s2 x y H2,Inv X pins σ H2 s2->RelV x v->RelV y u->R x y H2->wpAny (model X.prog X.w) X.A (f v u) Q X.xe s2) :
  wpAny (model X.prog X.w) X.A (eval a X.env) (fun v s₁=>wpAny (model X.prog X.w) X.A (eval b X.env) (fun u s₂=>wpAny (model X.prog X.w) X.A (f v u) Q X.xe s₂) X.xe s₁) X.xe s:=by
 refine thn (ha pins s σ H _ I h) fun v s1 ⟨x,H1,I1,r1,q1⟩=>?_
 refine thn (hb pins s1 σ H1 _ I1 q1) fun u s2 ⟨y,H2,I2,r2,q2⟩=>?_
 exact hf v u s2 x y H2 I2 r1 r2 q2
theorem Ae{op:Operator}{r:R2}(ho:OpR X (binaryOp op) r)(ha:PE X a ta)(hb:PE X b tb):PE X (.BinOp a op b pos) (tOp r ta tb):=by
 intro pins s σ H Q I h
 exact wpAny_BinOp (nU ha hb I h fun v u s2 x y H2 I2 rx ry q=>ho pins s2 σ H2 x y v u Q I2 rx ry q)
theorem Xy{op:UnaryOp}{r:V->Hp->VK->Prop}(ho:UnR X (unaryOp op) r)(ha:PE X a ta):PE X (.UnaryOp op a pos) (tUn r ta):=by
 intro pins s σ H Q I h
 exact UnaryOp_ (thn (ha pins s σ H _ I h) fun v s1 ⟨x,H1,I1,r1,q1⟩=>ho pins s1 σ H1 x v Q I1 r1 q1)
theorem opI{f:Value->Value->Sem Value}{C:Int->Int->Prop}{g:Int->Int->Int}
  (rule:∀(i j:Int) (t u:Tok) (s:Shared) (Q:Value->Shared->Prop) (E:Value->Shared->Prop),C i j->Q (.int (g i j) s.toks) { s with toks:=s.toks+1 }->wpAny (model X.prog X.w) X.A (f (.int i t) (.int j u)) Q E s) :
  OpR X f (rI C fun i j=>.int (g i j)):=by
 intro pins s σ H x y v u Q I rx ry h
 obtain⟨i,j,rfl,rfl,hc,q⟩:=h
 obtain⟨t,rfl⟩:=rx
 obtain⟨t',rfl⟩:=ry
 exact rule i j t t' s _ _ hc ⟨.int (g i j),H,I.tok _,⟨_,rfl⟩,q⟩
theorem oP{f:Value->Value->Sem Value}{g:Int->Int->Int}
  (rule:∀(i j:Int) (t u:Tok) (s:Shared) (Q:Value->Shared->Prop) (E:Value->Shared->Prop),Q (.int (g i j) s.toks) { s with toks:=s.toks+1 }->wpAny (model X.prog X.w) X.A (f (.int i t) (.int j u)) Q E s) :
  OpR X f (rI0 fun i j=>.int (g i j)):=by
 intro pins s σ H x y v u Q I rx ry h
 obtain⟨i,j,rfl,rfl,q⟩:=h
 obtain⟨t,rfl⟩:=rx
 obtain⟨t',rfl⟩:=ry
 exact rule i j t t' s _ _ ⟨.int (g i j),H,I.tok _,⟨_,rfl⟩,q⟩
theorem kI{f:Value->Value->Sem Value}{g:Int->Int->Bool}
  (rule:∀(i j:Int) (t u:Tok) (s:Shared) (Q:Value->Shared->Prop) (E:Value->Shared->Prop),Q (.bool (g i j)) s->wpAny (model X.prog X.w) X.A (f (.int i t) (.int j u)) Q E s) :
  OpR X f (rI0 fun i j=>.bl (g i j)):=by
 intro pins s σ H x y v u Q I rx ry h
 obtain⟨i,j,rfl,rfl,q⟩:=h
 obtain⟨t,rfl⟩:=rx
 obtain⟨t',rfl⟩:=ry
 exact rule i j t t' s _ _ ⟨.bl (g i j),H,I,rfl,q⟩
def jy(i j:Int):Prop:=0<=j/\j<=1000000/\i.natAbs<2 ^ 64
def CMul(i j:Int):Prop:=(-(2 ^ 64)<i/\i<2 ^ 64)\/(-(2 ^ 64)<j/\j<2 ^ 64)
theorem CMul.ok{i j:Int}(h:CMul i j):IntMulOk i j:=by
 rcases h with ⟨h1,h2⟩|⟨h1,h2⟩
 ·exact .of_left (intBits_le_64 h1 h2)
 ·exact .of_right (intBits_le_64 h1 h2)
theorem E9:OpR X (binaryOp .Add) (rI0 fun i j=>.int (i+j)):=oP fun _ _ _ _ _ _ _ q=>add_int q
theorem Nr:OpR X (binaryOp .Sub) (rI0 fun i j=>.int (i-j)):=oP fun _ _ _ _ _ _ _ q=>sub_int q
theorem Bp:OpR X (binaryOp .Mod) (rI (fun _ j=>0<j) fun i j=>.int (i % j)):=opI fun i j _ _ _ _ _ hc q=>by
 have h1:(0:Int)<j:=hc
 exact mod_int' (by omega) (by rw[Int.fmod_eq_emod_of_nonneg i (by omega)];exact q)
theorem iz:OpR X (binaryOp .Pow) (rI jy fun i j=>.int (i ^ j.toNat)):=opI fun _ _ _ _ _ _ _ hc q=>pow_int_small hc.1 hc.2.1 hc.2.2 q
theorem unI{f:Value->Sem Value}{g:Int->Int}
  (rule:∀(i:Int) (t:Tok) (s:Shared) (Q:Value->Shared->Prop) (E:Value->Shared->Prop),Q (.int (g i) s.toks) { s with toks:=s.toks+1 }->wpAny (model X.prog X.w) X.A (f (.int i t)) Q E s) :
  UnR X f (rU fun i=>.int (g i)):=by
 intro pins s σ H x v Q I rx h
 obtain⟨i,rfl,q⟩:=h
 obtain⟨t,rfl⟩:=rx
 exact rule i t s _ _ ⟨.int (g i),H,I.tok _,⟨_,rfl⟩,q⟩
theorem Ri:UnR X (unaryOp .USub) (rU fun i=>.int (-i)):=unI fun _ _ _ _ _ q=>neg_int q
end
section
variable {X:Cx} {a b c:Expr} {ta tb tc:TE} {pos:Pos}
theorem dj{pins:List (Addr×Obj)}{σ:St}{H:Hp}{s:Shared}{Q:VK}{k k':Bool}(I:Inv X pins σ H s)(q:Q (.bl k) H)(e:k=k'):EP X pins σ Q (.bool k') s:=by
 subst e
 exact⟨.bl k,H,I,rfl,q⟩
theorem mE:OpR X (compareOp .Lt) (rI0 fun i j=>.bl (decide (i<j))):=kI fun _ _ _ _ _ _ _ q=>lt_int q
theorem Qs:OpR X (compareOp .LtE) (rI0 fun i j=>.bl (decide (i<=j))):=kI fun _ _ _ _ _ _ _ q=>le_int q
theorem X1:OpR X (compareOp .Gt) (rI0 fun i j=>.bl (decide (j<i))):=kI fun _ _ _ _ _ _ _ q=>gt_int q
theorem mF:OpR X (compareOp .GtE) (rI0 fun i j=>.bl (decide (j<=i))):=kI fun _ _ _ _ _ _ _ q=>ge_int q
theorem gL:OpR X (compareOp .In) (fun x y H Q=>∃i j,x = .str i/\y = .str j/\Q (.bl (!(Builtin.Str.occurrences j i 0 j.length 1).isEmpty)) H):=by
 intro pins s σ H x y v u Q I rx ry h
 obtain⟨i,j,rfl,rfl,q⟩:=h
 obtain⟨t,rfl⟩:=rx
 obtain⟨t',rfl⟩:=ry
 exact in_str (dj I q rfl)
theorem i0:OpR X (compareOp .Is) (fun x y H Q=>y = .non/\Q (.bl (decide (x = .non))) H):=by
 intro pins s σ H x y v u Q I rx ry h
 obtain⟨rfl,q⟩:=h
 cases ry
 refine is_none_gen (dj I q ?_)
 cases x<;>first
  |(cases rx;rfl)
  |(obtain⟨t,rfl⟩:=rx;rfl)
theorem eW:OpR X (compareOp .IsNot) (fun x y H Q=>y = .non/\Q (.bl (!decide (x = .non))) H):=by
 intro pins s σ H x y v u Q I rx ry h
 obtain⟨rfl,q⟩:=h
 cases ry
 refine isnot_none_gen (dj I q ?_)
 cases x<;>first
  |(cases rx;rfl)
  |(obtain⟨t,rfl⟩:=rx;rfl)
theorem A7(b:Expr){op:CmpOp}(h:op≠.In:=by decide)(h2:op≠.NotIn:=by decide):behindInMarks op b=false:=by
 have e1:(op==CmpOp.In)=false:=by cases op<;>first|rfl|exact absurd rfl h
 have e2:(op==CmpOp.NotIn)=false:=by cases op<;>first|rfl|exact absurd rfl h2
 cases b<;>simp[behindInMarks,e1,e2]
theorem Ej{op:CmpOp}{r:R2}(ho:OpR X (compareOp op) r)(ha:PE X a ta)(hb:PE X b tb)(hm:behindInMarks op b=false):PE X (.Compare a [op] [b] pos) (tOp r ta tb):=by
 intro pins s σ H Q I h
 exact wpAny_Compare1 (nU ha hb I h fun v u s2 x y H2 I2 rx ry q=>ho pins s2 σ H2 x y v u Q I2 rx ry q) hm
def iM(t:TE):TT:=fun σ H Q=>t σ H fun x H'=>∃k,x = .bl k/\Q k H'
theorem An{op:CmpOp}{r:R2}(ho:OpR X (compareOp op) r)(ha:PE X a ta)(hb:PE X b tb)(hm:behindInMarks op b=false):PT X (.Compare a [op] [b] pos) (iM (tOp r ta tb)):=by
 intro pins s σ H Q I h
 refine wpAny_isTrue_Compare1 (thn (ha pins s σ H _ I h) fun v s1 ⟨x, H1, I1, r1, q1⟩ => thn (hb pins s1 σ H1 _ I1 q1) fun u s2 ⟨y, H2, I2, r2, q2⟩ =>
  thn (ho pins s2 σ H2 x y v u _ I2 r1 r2 q2) fun c s3 ⟨z,H3,I3,r3,k,e,q3⟩=>?_) hm
 subst e
 cases r3
 exact wpAny_truthy_bool ⟨H3,I3,q3⟩
def cm(r r':R2)(ta tb tc:TE):TE:=fun σ H Q=>ta σ H fun x H1=>tb σ H1 fun y H2=>r x y H2 fun z H3=>∃k,z = .bl k /\
 (if k=true then tc σ H3 fun w' H4=>r' y w' H4 Q else Q (.bl false) H3)
theorem aR{op op':CmpOp}{r r':R2}(ho:OpR X (compareOp op) r)(ho':OpR X (compareOp op') r')(ha:PE X a ta)(hb:PE X b tb)(hc:PE X c tc)
  (hm:lastMarks [op,op'] [b,c]=false:=by with_unfolding_all rfl):PE X (.Compare a [op,op'] [b,c] pos) (cm r r' ta tb tc):=by
 intro pins s σ H Q I h
 refine Compare_chain (thn (ha pins s σ H _ I h) fun v s1 ⟨x, H1, I1, r1, q1⟩ => chain_link (thn (hb pins s1 σ H1 _ I1 q1) fun u s2 ⟨y, H2, I2, r2, q2⟩ =>
  thn (ho pins s2 σ H2 x y v u _ I2 r1 r2 q2) fun d s3 ⟨z,H3,I3,r3,k,e,q3⟩=>?_)) hm
 subst e
 cases r3
 refine wpAny_truthy_bool ?_
 cases k with
 |false=>exact ite_ff ⟨.bl false,H3,I3,rfl,q3⟩
 |true=>exact ite_tt (chain_last (thn (hc pins s3 σ H3 _ I3 q3) fun w' s4 ⟨z',H4,I4,r4,q4⟩=>ho' pins s4 σ H4 y z' u w' Q I4 r2 r4 q4))
theorem aP{op op':CmpOp}{r r':R2}(ho:OpR X (compareOp op) r)(ho':OpR X (compareOp op') r')(ha:PE X a ta)(hb:PE X b tb)(hc:PE X c tc)
  (hm:lastMarks [op,op'] [b,c]=false:=by with_unfolding_all rfl):PT X (.Compare a [op,op'] [b,c] pos) (iM (cm r r' ta tb tc)):=by
 intro pins s σ H Q I h
 refine isTrue_chain (thn (ha pins s σ H _ I h) fun v s1 ⟨x, H1, I1, r1, q1⟩ => test_link (thn (hb pins s1 σ H1 _ I1 q1) fun u s2 ⟨y, H2, I2, r2, q2⟩ =>
  thn (ho pins s2 σ H2 x y v u _ I2 r1 r2 q2) fun d s3 ⟨z,H3,I3,r3,k,e,q3⟩=>?_)) hm
 subst e
 cases r3
 refine wpAny_truthy_bool ?_
 cases k with
 |false =>
  obtain⟨k',e',q'⟩:=q3
  cases e'
  exact ite_ff ⟨H3,I3,q'⟩
 |true =>
  refine ite_tt (test_last (thn (hc pins s3 σ H3 _ I3 q3) fun w' s4 ⟨z',H4,I4,r4,q4⟩=>thn (ho' pins s4 σ H4 y z' u w' _ I4 r2 r4 q4) fun d' s5 ⟨z2,H5,I5,r5,k2,e2,q5⟩=>?_))
  subst e2
  cases r5
  exact wpAny_truthy_bool ⟨H5,I5,q5⟩
theorem ZY:(sizeLine:Nat)<2 ^ 63:=by rw[sizeLine_eq];decide
theorem MV:OpR X (binaryOp .Add) (fun x y H Q=>∃i j,x = .str i/\y = .str j/\i.length+j.length<=sizeLine/\Q (.str (i++j)) H):=by
 intro pins s σ H x y v u Q I rx ry h
 obtain⟨i,j,rfl,rfl,hz,q⟩:=h
 obtain⟨t,rfl⟩:=rx
 obtain⟨t',rfl⟩:=ry
 exact add_str (fun t' tk=>⟨.str (i++j),H,I.tok _,⟨_,rfl⟩,q⟩) hz
theorem NW{x:V}{us:List Value}(r:Vals [x] us):∃u,us=[u]/\RelV x u:=by
 cases r with
 |cons r1 r2=>cases r2;exact⟨_,rfl,r1⟩
theorem nk{x y:V}{us:List Value}(r:Vals [x,y] us):∃u w',us=[u,w']/\RelV x u/\RelV y w':=by
 cases r with
 |cons r1 r2 =>
  cases r2 with
  |cons r3 r4=>cases r4;exact⟨_,_,rfl,r1,r3⟩
theorem WA:Oc X (.builtin "abs") (fun xs H Q=>∃i,xs=[.int i]/\Q (.int (if i<0 then -i else i)) H):=by
 intro pins s σ H xs us Q I r h
 obtain⟨i,rfl,q⟩:=h
 obtain⟨u,rfl,t,rfl⟩:=NW r
 exact call_abs_int fun u tk=>⟨.int (if i<0 then -i else i),H,I.tok _,⟨_,rfl⟩,q⟩
theorem YM:Oc X (.type "int") (fun xs H Q=>(∃i,xs=[.int i]/\Q (.int i) H)\/∃k,xs=[.bl k]/\Q (.int (if k then 1 else 0)) H):=by
 intro pins s σ H xs us Q I r h
 rcases h with ⟨i,rfl,q⟩|⟨k,rfl,q⟩
 ·obtain⟨u,rfl,t,rfl⟩:=NW r
  exact call_int_int ⟨.int i,H,I,⟨_,rfl⟩,q⟩
 ·obtain⟨u,rfl,r1⟩:=NW r
  cases r1
  exact call_int_bool ⟨.int (if k then 1 else 0),H,I.tok _,⟨_,rfl⟩,q⟩
theorem Z4:Oc X (.type "str") (fun xs H Q=>∃i,xs=[.int i]/\i.natAbs.log2<1920/\Q (.str (toString i)) H):=by
 intro pins s σ H xs us Q I r h
 obtain⟨i,rfl,hz,q⟩:=h
 obtain⟨u,rfl,t,rfl⟩:=NW r
 exact PySem.P.str_of_int hz ⟨.str _,H,I.tok _,⟨_,rfl⟩,q⟩
def ng(K:PySem.W.Frag)(x:V)(H:Hp)(n:Nat):Prop :=
 match x with
 |.str y=>y.length<=sizeLine/\n=y.length
 |.byt y=>y.size<=sizeLine/\n=y.size
 |.ref p=>(∃xs,SqL K H p xs/\n=xs.length)\/∃xs,SqT K H p xs/\n=xs.length
 |_=>False
theorem CQ:Oc X (.builtin "len") (fun xs H Q=>∃x n,xs=[x]/\ng X.K x H n/\Q (.int n) H):=by
 intro pins s σ H xs us Q I r h
 obtain⟨x,n,rfl,e,q⟩:=h
 obtain⟨u,rfl,rx⟩:=NW r
 have hl:=ZY
 have hs:sizeLine=16777216:=sizeLine_eq
 cases x with
 |str y =>
  obtain⟨t,rfl⟩:=rx
  obtain⟨hy,e'⟩:y.length<=sizeLine/\n=y.length:=e
  subst e'
  exact len_str (by omega) ⟨.int _,H,I.tok _,⟨_,rfl⟩,q⟩
 |byt y =>
  obtain⟨t,rfl⟩:=rx
  obtain⟨hy,e'⟩:y.size<=sizeLine/\n=y.size:=e
  subst e'
  exact PySem.W.len_bytes (by omega) ⟨.int _,H,I.tok _,⟨_,rfl⟩,q⟩
 |ref p =>
  cases rx
  have e':(∃xs,SqL X.K H p xs/\n=xs.length)\/∃xs,SqT X.K H p xs/\n=xs.length:=e
  rcases e' with ⟨xs,hx,e'⟩|⟨xs,hx,e'⟩
  ·subst e'
   obtain⟨its,r',pl,hz⟩:=I.list hx
   have hlen:=r'.length
   exact Calls.call_len_list pl.isList (by simp only[List.size_toArray];omega) ⟨.int xs.length,H,I.tok _,⟨_,by simp only[List.size_toArray];rw[hlen]⟩,q⟩
  ·subst e'
   obtain⟨its,r',pl,hz⟩:=I.tuple hx
   have hlen:=r'.length
   exact len_tuple pl (by simp only[List.size_toArray];omega) ⟨.int xs.length,H,I.tok _,⟨_,by simp only[List.size_toArray];rw[hlen]⟩,q⟩
 |_=>exact(show False from e).elim
end
end L2
namespace L2
open PySem PySem.Spec PyProof.Rows
structure ObjM(h:Heap)(x dx C:Addr)(mA:Str->Option Value):Prop where
 obj:h.get? x=some (PySem.W.instObj C dx)
 ns:h.Ns1 dx mA
 ne:dx≠x
theorem gd{h:Heap}{dx:Addr}{mA:Str->Option Value}(n:h.Ns1 dx mA):∃od,h.get? dx=some od/\∀name,PySem.W.lookIn name od=some (mA name):=by
 obtain⟨o,es,ep,ho,hd,hk,_,hm⟩:=n
 refine⟨o,ho,fun name=>?_⟩
 have e:=hm name
 unfold nsFind findBy at e
 rw[<- Array.find?_toList]at e
 unfold PySem.W.lookIn
 rw[hd]
 dsimp only
 split
 ·rename_i y q
  rw[q]at e
  exact congrArg some e
 ·rename_i q
  rw[q]at e
  have a:es.toList.any (·.refKey)=false:=by
   rw[List.any_eq_false]
   intro y hy
   obtain⟨z,t,hkey⟩:=hk y (Array.mem_toList_iff.mp hy)
   simp[DictEntry.refKey,hkey]
  have a':¬es.toList.any (·.refKey)=true:=by rw[a];exact Bool.false_ne_true
  rw[if_neg a']
  exact congrArg some e
theorem ObjM.look{h:Heap}{x dx C:Addr}{mA:Str->Option Value}(I:ObjM h x dx C mA):∃od,PySem.W.InstAt h x (PySem.W.instObj C dx) C (some od)/\∀name,PySem.W.lookIn name od=some (mA name) :=
 let ⟨od,ho,hl⟩:=gd I.ns
 ⟨od,⟨I.obj,rfl,rfl,ho⟩,hl⟩
section
variable {prog:Program} {w:World} {A:Around} {E:Value->Shared->Prop} {s:Shared} {K:PySem.W.Frag} {x dx C f:Addr} {mA:Str->Option Value} {name:Str} {v:Value}
end
section
variable {P:Program} {w:World} {H H':Hp} {h h':Heap} {a C dx:Addr} {fs fs':List (Str×V)}
theorem kj(hok:HOk P w H h)(e:H a=some (.ins C dx fs)):∃mA,ObjM h a dx C mA/\(∀f,nY (fs.lookup f) (mA f))/\PySem.Within mA (fs.map (·.1))/\fs.length<=1000/\H dx=some (.own a):=by
 obtain⟨d,z,ne,ob,mA,n,r,q⟩:=(show ObjOk P w H h a (.ins C dx fs) from hok a _ e)
 exact⟨mA,⟨ob,n,ne⟩,r,q,z,d⟩
end
structure Cls(K:PySem.W.Frag)(C:Addr):Prop where
 pg:PySem.W.plainGet K C Str.empty=true
 hd:PySem.W.hasDictIn K C=true
 po:PySem.W.plainOver K C=true
 sa:PySem.W.findIn K (.ref C) "__setattr__"=some (some (.builtin "object.__setattr__"))
theorem Cls.get{K:PySem.W.Frag}{C:Addr}(c:Cls K C)(f:Str):PySem.W.plainGet K C f=true:=c.pg
section
variable {X:Cx} {pins:List (Addr×Obj)} {σ:St} {H:Hp} {s:Shared} {a C dx:Addr} {fs:List (Str×V)} {f:Str} {v:V} {A:Around} {E:Value->Shared->Prop}
end
section
variable {X:Cx} {o e value:Expr} {f:Str} {pos pos' tpos:Pos} {ta tv:TE}
end
section
variable {X:Cx} {pins:List (Addr×Obj)} {σ:St} {H:Hp} {s:Shared} {A:Around} {E:Value->Shared->Prop} {Q:Value->Shared->Prop} {c:Value} {b:Bool}
inductive T7 (K:PySem.W.Frag) (H:Hp):V->Value->Prop where
 |non:T7 K H .non (.type "NoneType")
 |bl (x:Bool):T7 K H (.bl x) (.type "bool")
 |int (i:Int):T7 K H (.int i) (.type "int")
 |str (x:Str):T7 K H (.str x) (.type "str")
 |flt (x:UInt64):T7 K H (.flt x) (.type "float")
 |lst {a:Addr} {xs:List V} (e:H a=some (.lst xs)):T7 K H (.ref a) (.type "list")
 |frz {a:Addr} {o:Obj} {xs:List V} (e:H a=some (.frz o (.lst xs))):T7 K H (.ref a) (.type "list")
 |tup {a:Addr} {xs:List V} (e:H a=some (.tup xs)):T7 K H (.ref a) (.type "tuple")
 |dK {a:Addr} {kvs:List (Key×V)} (e:H a=some (.dK kvs)):T7 K H (.ref a) (.type "dict")
 |dT {a:Addr} {kvs:List (List Key×V)} (e:H a=some (.dT kvs)):T7 K H (.ref a) (.type "dict")
 |ins {a C dx:Addr} {fs:List (Str×V)} (e:H a=some (.ins C dx fs)) (cl:Cls K C) (ha:PySem.W.findIn K (.ref C) "__class__"=some (some (.builtin "object.__class__")))
   (hn:PySem.W.specialIn K (.builtin "object.__class__") "__get__"=some (some (.builtin "getset_descriptor.__get__"))) (htk:PySem.W.takesIn K (.builtin "object.__class__")=some true)
   (hm:PySem.W.mroIn K C (.type "object")=some true):T7 K H (.ref a) (.ref C)
theorem L1{x:V}{u t:Value}(I:Inv X pins σ H s)(rx:RelV x u)(ty:T7 X.K H x t)(e:PySem.W.kitOne X.K t c=some b)(h:∀tk,Q (.bool b) { s with toks:=tk }) :
  wpAny (model X.prog X.w) A (call (.builtin "isinstance") [u,c]) Q E s:=by
 cases ty with
 |non=>cases (show u=Value.none from rx);exact PySem.W.kia_one PySem.W.kitx_none I.kIn True.intro e (fun z=>nomatch z) h
 |bl y=>cases (show u=Value.bool y from rx);exact PySem.W.kia_one PySem.W.kitx_bool I.kIn True.intro e (fun z=>nomatch z) h
 |int i=>obtain⟨t,q⟩:=(show ∃t,u=Value.int i t from rx);cases q;exact PySem.W.kia_one PySem.W.kitx_int I.kIn True.intro e (fun z=>nomatch z) h
 |str y=>obtain⟨t,q⟩:=(show ∃t,u=Value.str y t from rx);cases q;exact PySem.W.kia_one PySem.W.kitx_str I.kIn True.intro e (fun z=>nomatch z) h
 |flt y=>obtain⟨t,q⟩:=(show ∃t,u=Value.float y t from rx);cases q;exact PySem.W.kia_one PySem.W.kitx_float I.kIn True.intro e (fun z=>nomatch z) h
 |@lst a xs ea =>
  cases (show u=Value.ref a from rx)
  obtain⟨_,_,n,_,h1⟩:=(show ObjOk X.prog X.w H s.heap a (.lst xs) from I.hok a _ ea)
  exact PySem.W.kia_one PySem.W.kitx_list I.kIn ⟨_,h1,rfl⟩ e (fun z=>nomatch z) h
 |@frz a ob xs ea =>
  cases (show u=Value.ref a from rx)
  obtain⟨_,_,_,n,_,h1⟩:=(show ObjOk X.prog X.w H s.heap a (.frz ob (.lst xs)) from I.hok a _ ea)
  exact PySem.W.kia_one PySem.W.kitx_list I.kIn ⟨_,h1,rfl⟩ e (fun z=>nomatch z) h
 |@tup a xs ea =>
  cases (show u=Value.ref a from rx)
  obtain⟨_,_,_,p⟩:=(show ObjOk X.prog X.w H s.heap a (.tup xs) from I.hok a _ ea)
  obtain⟨o,h1,h2,_⟩:=p
  exact PySem.W.kia_one PySem.W.kitx_tuple I.kIn ⟨o,h1,h2⟩ e (fun z=>nomatch z) h
 |@dK a kvs ea =>
  cases (show u=Value.ref a from rx)
  obtain⟨_,_,vs,_,p⟩:=(show ObjOk X.prog X.w H s.heap a (.dK kvs) from I.hok a _ ea)
  obtain⟨o,es,ep,h1,h2,_⟩:=p
  exact PySem.W.kia_one PySem.W.kitx_dict I.kIn ⟨o,h1,h2.1⟩ e (fun z=>nomatch z) h
 |@dT a kvs ea =>
  cases (show u=Value.ref a from rx)
  obtain⟨_,_,xs,_,o,es,ep,h1,h2,_⟩:=(show ObjOk X.prog X.w H s.heap a (.dT kvs) from I.hok a _ ea)
  exact PySem.W.kia_one PySem.W.kitx_dict I.kIn ⟨o,h1,h2.1⟩ e (fun z=>nomatch z) h
 |@ins a C dx fs ea cl ha hn htk hm =>
  cases (show u=Value.ref a from rx)
  obtain⟨mA,O,_⟩:=kj I.hok ea
  obtain⟨od,J,_⟩:=O.look
  exact PySem.W.kia_one (PySem.W.kitx_own (cl.get _) cl.hd ha hn htk hm) I.kIn J e (fun z=>nomatch z) h
end
end L2
namespace L2
open PySem PySem.Spec PyProof.Rows
structure Room(k:Nat)(A:Around):Prop where
 hd:A.handled=none
 dp:A.depth+3*k+5<recursionLimit
 un:A.units+16*k+200<cLine
theorem Room.mono{j k:Nat}{A:Around}(r:Room k A)(h:j<=k):Room j A:=⟨r.hd,by have:=r.dp;omega,by have:=r.un;omega⟩
theorem Room.deeper{k:Nat}{A:Around}(r:Room (k+1) A)(env:Env):Room k (A.deeper env) :=
 ⟨r.hd,by have:=r.dp;show A.depth+1+3*k+5<_;omega,by have:=r.un;show A.units+3+16*k+200<_;omega⟩
theorem Room.depth{k:Nat}{A:Around}(r:Room k A):A.depth<recursionLimit:=by have:=r.dp;omega
theorem Room.units{k:Nat}{A:Around}(r:Room k A):A.units+64<cLine:=by have:=r.un;omega
def Yl:TA:=fun _ H Q=>Q [] H
def Sq(ta:TE)(tr:TA):TA:=fun σ H Q=>ta σ H fun x H1=>tr σ H1 fun xs H2=>Q (x::xs) H2
section
variable {X:Cx} {e:Expr} {es:List Expr} {te:TE} {t:TA} {pos:Pos}
theorem AL:PA X [] Yl:=fun _ _ _ _ H Q I h=>Calls.spliced_nil ⟨[],H,I,.nil,h⟩
theorem AD(ha:PE X e te)(hr:PA X es t)(hs:starEach (e::es) X.env=(false,eval e X.env)::starEach es X.env:=by rfl):PA X (e::es) (Sq te t):=by
 intro pos pins s σ H Q I h
 rw[hs]
 show wpAny _ _ (spliced ((false,eval e X.env)::backTo pos (starEach es X.env))) _ _ s
 refine Calls.spliced_cons (thn (ha pins s σ H _ I h) fun u s1 ⟨x,H1,I1,r1,q1⟩=>?_)
 exact thn (hr pos pins s1 σ H1 _ I1 q1) fun us s2 ⟨xs,H2,I2,r2,q2⟩=>⟨x::xs,H2,I2,.cons r1 r2,q2⟩
def nt(t:TA):TE:=fun σ H Q=>t σ H fun xs H1=>xs.length<=sizeLine/\∀p,H1 p=none->Q (.ref p) (upd H1 p (.tup xs))
def mq(t:TA):TE:=fun σ H Q=>t σ H fun xs H1=>xs.length<=sizeLine/\∀p,H1 p=none->Q (.ref p) (upd H1 p (.lst xs))
theorem BH{x1}(h:PA X es t):PE X (.Tuple es x1 pos) (nt t):=by
 intro pins s σ H Q I hq
 refine wpAny_Tuple_spliced (thn (h pos pins s σ H _ I hq) fun us s1 ⟨xs,H1,I1,r,z,q⟩=>⟨by rw[<- r.length];exact z,?_⟩)
 have hf:H1 s1.heap.objs.size=none:=I1.hok.fresh (Nat.le_refl _)
 refine⟨.ref s1.heap.objs.size,upd H1 s1.heap.objs.size (.tup xs),I1.laid (t':=s1.toks) (fun b u e=>Heap.get?_push_of_some _ e) (Nat.le_refl _) ?_,rfl,q _ hf⟩
 exact⟨z,us,r,⟨_,Heap.get?_push_size _ rfl,rfl,_,rfl⟩⟩
theorem Jf(h:PA X es t):PE X (.List es pos) (mq t):=by
 intro pins s σ H Q I hq
 refine wpAny_List_spliced (thn (h pos pins s σ H _ I hq) fun us s1 ⟨xs,H1,I1,r,z,q⟩=>⟨by rw[<- r.length];exact z,?_⟩)
 have hf:H1 s1.heap.objs.size=none:=I1.hok.fresh (Nat.le_refl _)
 refine⟨.ref s1.heap.objs.size,upd H1 s1.heap.objs.size (.lst xs),I1.laid (t':=s1.toks) (fun b u e=>Heap.get?_push_of_some _ e) (Nat.le_refl _) ?_,rfl,q _ hf⟩
 exact⟨z,us,0,r,Heap.get?_push_size _ rfl⟩
end
abbrev Sp:=List V->Hp->VK->XK->Prop
abbrev CXT:=List Env->Hp->Shared->XK->Value->Shared->Prop
structure lO(P:Program)(w:World)(K:PySem.W.Frag)(mg:Str->Option Value)(base:Heap)(A:Around)(outer:List Env)(s:Shared)(H:Hp):Prop where
 frames:A.frames=some outer
 mod:Mod K mg base
 bs:∀b o,base.get? b=some o->s.heap.get? b=some o/\H b=none
 bsz:base.objs.size<=s.heap.objs.size
 funs:s.heap.FunFrames base outer
 frf:∀b∈frs outer,H b=none
 hok:HOk P w H s.heap
 bare:AllBare s.gens
def CE(outer:List Env)(P:Program)(w:World)(H:Hp)(s:Shared)(Q:VK)(u:Value)(s':Shared):Prop :=
 ∃v H',s'.os=s.os/\AllBare s'.gens/\Un (frs outer) [] H H' s.heap s'.heap/\HOk P w H' s'.heap/\RelV v u/\Q v H'
def CR(CX:CXT)(outer:List Env)(P:Program)(w:World)(H:Hp)(s:Shared)(Q:VK)(E:XK)(r:Result)(s':Shared):Prop :=
 match r with
 |.ok (.ret u)=>CE outer P w H s Q u s'
 |.ok _=>False
 |.error e=>CX outer H s E e s'
structure FnOk(P:Program)(w:World)(K:PySem.W.Frag)(mg:Str->Option Value)(base:Heap)(CX:CXT)(k:Nat)(f:Addr)(fd:FuncData)(ps:List Str)(sp:Sp):Prop where
 len:∀vs H Q E,sp vs H Q E->vs.length=ps.length
 run:∀(A:Around) (outer:List Env) (s:Shared) (H:Hp) (args:Args) (us:List Value) (vs:List V) (Q:VK) (E:XK),Room k A->lO P w K mg base A outer s H->BindsTo s fd args (ps.zip us)->Vals vs us->sp vs H Q E ->
  codeAny (model P w) A (.call (.ref f) args) (CR CX outer P w H s Q E) s
theorem FnOk.mono{P:Program}{w:World}{K:PySem.W.Frag}{mg:Str->Option Value}{base:Heap}{CX:CXT}{j k:Nat}{f:Addr}{fd:FuncData}{ps:List Str}{sp:Sp}(F:FnOk P w K mg base CX j f fd ps sp)(h:j<=k) :
  FnOk P w K mg base CX k f fd ps sp:=⟨F.len,fun A outer s H args us vs Q E hr=>F.run A outer s H args us vs Q E (hr.mono h)⟩
section
variable {X:Cx} {pins:List (Addr×Obj)} {σ:St} {H:Hp} {s s':Shared}
theorem Inv.env0(I:Inv X pins σ H s):lO X.prog X.w X.K X.mg X.base X.A X.stack s H :=
 ⟨I.ok.frames,I.ok.mod,I.bs,Nat.le_trans I.ok.bsz I.sz,I.stack,I.stkFree,I.hok,I.bare⟩
theorem Inv.after{Q:VK}{u:Value}(I:Inv X pins σ H s)(h:CE X.stack X.prog X.w H s Q u s'):EP X pins σ Q u s':=by
 obtain⟨v,H',os,bare,un,hok,r,q⟩:=h
 obtain⟨hh,g,d,t,os'⟩:=s'
 obtain rfl:os'=s.os:=os
 exact⟨v,H',I.call (h':=hh) (g':=g) (d':=d) (t':=t) (ch:=[]) un hok bare (fun b z=>absurd z (by simp)),r,q⟩
end
def Uc(sp:Sp)(dvs:List V)(E:XK)(t:TA):TE:=fun σ H Q=>t σ H fun vs H1=>sp (vs++dvs) H1 Q E
def Binds(K:PySem.W.Frag)(fd:FuncData)(ps:List Str)(ds:List Value):Prop :=
 ∀(s:Shared) (us:List Value),K.In s.heap->(us++ds).length=ps.length->BindsTo s fd ⟨us,[]⟩ (ps.zip (us++ds))
theorem Binds.all{K:PySem.W.Frag}{fd:FuncData}{ps:List Str}(h:∀us:List Value,us.length=ps.length->bindArgs fd ⟨us,[]⟩=pure (ps.zip us)):Binds K fd ps []:=fun s us _ hl=>by
 rw[List.append_nil]at hl ⊢
 exact .of_eq (h us hl)
def aA(CX:CXT)(X:Cx)(E:XK):Prop:=∀(pins:List (Addr×Obj)) (σ:St) (H:Hp) (s:Shared) (e:Value) (s':Shared),Inv X pins σ H s->CX X.stack H s E e s'->X.xe e s'
section
variable {X:Cx} {CX:CXT} {k:Nat} {f C:Addr} {fd:FuncData} {ps:List Str} {sp:Sp} {dvs:List V} {ds:List Value} {E:XK} {x m:Str} {p pos apos:Pos} {e o:Expr} {es:List Expr} {ta:TE} {t:TA}
theorem cu{pins:List (Addr×Obj)}{σ:St}{H:Hp}{s:Shared}{Q:VK}{us:List Value}{vs:List V}(F:FnOk X.prog X.w X.K X.mg X.base CX k f fd ps sp)(hr:Room k X.A)(hb:Binds X.K fd ps ds)(hd:Vals dvs ds)(hx:aA CX X E)
  (I:Inv X pins σ H s) (r:Vals vs us) (h:sp (vs++dvs) H Q E):wpAny (model X.prog X.w) X.A (call (.ref f) us) (EP X pins σ Q) X.xe s:=by
 have r2:Vals (vs++dvs) (us++ds):=r.append hd
 have hl:(us++ds).length=ps.length:=by rw[<- r2.length];exact F.len _ _ _ _ h
 refine wpAny_call (codeAny_mono (F.run X.A X.stack s H ⟨us,[]⟩ (us++ds) (vs++dvs) Q E hr I.env0 (hb s us I.kIn hl) r2 h) fun r s' hq=>?_)
 cases r with
 |error e=>exact hx pins σ H s e s' I hq
 |ok fl =>
  cases fl with
  |ret u=>exact I.after hq
  |next=>exact False.elim hq
  |brk=>exact False.elim hq
  |cont=>exact False.elim hq
theorem kD(F:FnOk X.prog X.w X.K X.mg X.base CX k f fd ps sp)(hr:Room k X.A)(hg:Gl X x)(hm:X.mg x=some (.ref f))(hk:PySem.W.keepIn X.K (.ref f)=true)(hb:Binds X.K fd ps ds)(hd:Vals dvs ds)(hx:aA CX X E)
  (ha:PA X (e::es) t) (hdb:(x==("__debug__":Str))=false:=by decide) (he:starEach (e::es) X.env=(false,eval e X.env)::starEach es X.env:=by rfl) (hpl:(backTo pos (starEach es X.env)).any (·.1)=false:=by rfl) :
  PE X (.Call (.Name x p) (e::es) [] pos) (Uc sp dvs E t):=by
 intro pins s σ H Q I h
 refine wpAny_Call_Name_kw (Za I hg hm ?_ hdb)
 refine PySem.W.callWith_K (h₀:=X.base) I.ok.mod.kin hk (thn (ha pos pins s σ H _ I h) fun us s1 ⟨vs,H1,I1,r,q⟩=>⟨I1.kIn,?_⟩) he hpl
 exact cu F hr hb hd hx I1 r q
theorem ip(F:FnOk X.prog X.w X.K X.mg X.base CX k f fd ps sp)(hr:Room k X.A)(hg:Gl X x)(hm:X.mg x=some (.ref f))(hk:PySem.W.keepIn X.K (.ref f)=true)(hb:Binds X.K fd ps ds)(hd:Vals dvs ds)(hx:aA CX X E)
  (hdb:(x==("__debug__":Str))=false:=by decide):PE X (.Call (.Name x p) [] [] pos) (Uc sp dvs E Yl):=by
 intro pins s σ H Q I h
 refine wpAny_Call_Name_kw (Za I hg hm ?_ hdb)
 exact PySem.W.callWith_K0 I.kIn hk (cu (us:=[]) F hr hb hd hx I .nil h)
end
section
variable {X:Cx} {CX:CXT} {k:Nat} {f C:Addr} {fd:FuncData} {ps ks:List Str} {sp:Sp} {E:XK} {x m:Str} {p pos apos kpos:Pos} {e o:Expr} {es:List Expr} {kws:List Keyword} {te ta:TE} {t tk:TA} {nm:Option Str}
variable {g:List Value->List Value->List Value} {gV:List V->List V->List V}
end
structure Aj(N P:List Str)(sc:Scope):Prop where
 kind:sc.kind = .function
 co:sc.isCoroutine=false
 gen:sc.isGenerator=false
 nd:N.Nodup
 pre:N.take P.length=P
 par:∀x∈P,sc.names.lookup x=some .local\/sc.names.lookup x=some .cell
 nofree:∀y∈sc.names,y.2≠.free
theorem YN{kindOf:Str->Option NameKind}{x:Str}:∀{binds:List (Str×Value)} {m:Str->Option Value},(∀v,(x,v)∉binds)->bindL kindOf binds m x=m x
 |[],_,_=>rfl
 |(n,v)::r,m,h=>by
  unfold bindL
  rw[YN fun w hw=>h w (List.mem_cons_of_mem _ hw)]
  split
  ·have:x≠n:=by rintro rfl;exact h v List.mem_cons_self
   simp[this]
  ·rfl
theorem YQ{kindOf:Str->Option NameKind}{x:Str}:∀{binds:List (Str×Value)} {m:Str->Option Value},(∀v,(x,v)∉binds)->bindC kindOf binds m x=m x
 |[],_,_=>rfl
 |(n,v)::r,m,h=>by
  unfold bindC
  rw[YQ fun w hw=>h w (List.mem_cons_of_mem _ hw)]
  split
  ·rfl
  ·have:x≠n:=by rintro rfl;exact h v List.mem_cons_self
   simp[this]
theorem YO{kindOf:Str->Option NameKind}{x:Str}{v:Value}:∀{P:List Str} {vs:List Value} {i:Nat} {m:Str->Option Value},P.Nodup->P[i]?=some x->vs[i]?=some v->kindOf x=some .local ->
  bindL kindOf (P.zip vs) m x=some v
 |[],_,_,_,_,h,_,_=>by simp at h
 |_::_,[],_,_,_,_,h,_=>by simp at h
 |p::P,w::vs,0,m,nd,h1,h2,hk=>by
  simp at h1 h2;subst h1;subst h2
  show bindL kindOf ((p,w)::P.zip vs) m p=_
  unfold bindL
  rw[YN fun v hv=>(List.nodup_cons.mp nd).1 (List.of_mem_zip hv).1,if_pos hk]
  simp
 |p::P,w::vs,i+1,m,nd,h1,h2,hk=>by
  show bindL kindOf ((p,w)::P.zip vs) m x=_
  unfold bindL
  exact YO (i:=i) (List.nodup_cons.mp nd).2 (by simpa using h1) (by simpa using h2) hk
theorem YR{kindOf:Str->Option NameKind}{x:Str}{v:Value}:∀{P:List Str} {vs:List Value} {i:Nat} {m:Str->Option Value},P.Nodup->P[i]?=some x->vs[i]?=some v->kindOf x≠some .local ->
  bindC kindOf (P.zip vs) m x=some v
 |[],_,_,_,_,h,_,_=>by simp at h
 |_::_,[],_,_,_,_,h,_=>by simp at h
 |p::P,w::vs,0,m,nd,h1,h2,hk=>by
  simp at h1 h2;subst h1;subst h2
  show bindC kindOf ((p,w)::P.zip vs) m p=_
  unfold bindC
  rw[YQ fun v hv=>(List.nodup_cons.mp nd).1 (List.of_mem_zip hv).1,if_neg hk]
  simp
 |p::P,w::vs,i+1,m,nd,h1,h2,hk=>by
  show bindC kindOf ((p,w)::P.zip vs) m x=_
  unfold bindC
  exact YR (i:=i) (List.nodup_cons.mp nd).2 (by simpa using h1) (by simpa using h2) hk
def start(N:List Str)(vs:List V):St:=vs.map some++List.replicate (N.length-vs.length) none
def hC(CX:CXT)(P:Program)(w:World)(K:PySem.W.Frag)(mg:Str->Option Value)(base:Heap)(N:List Str)(qual:Str)(scope:Scope)(f:Addr)(cd:Value)(A:Around)(outer:List Env)(s:Shared)(H:Hp)(E:XK):Cx where
 prog:=P
 w:=w
 K:=K
 mg:=mg
 base:=base
 A:=A.deeper (envOfC qual scope s.heap.objs.size f cd)
 N:=N
 s₀:=s
 H₀:=H
 env:=envOfC qual scope s.heap.objs.size f cd
 outer:=outer
 stack:=envOfC qual scope s.heap.objs.size f cd::outer
 ex:=[]
 calm:=true
 fn:=fun _=>true
 pn:=[]
 xe:=fun e s'=>wpAny (model P w) (A.deeper (envOfC qual scope s.heap.objs.size f cd)) (leaving (envOfC qual scope s.heap.objs.size f cd) e) (fun _ s''=>CX outer H s E e s'') (fun e' s''=>CX outer H s E e' s'') s'
theorem cI{sc:Scope}{n:Nat}{x:Str}(h:sc.names.lookup x=some .cell):∃c,(cellsFrom n sc.names []).lookup x=some c:=by
 have q:=PySem.W.cellsFrom_some sc.names n [] (.inl h)
 exact Option.isSome_iff_exists.mp q
theorem gj{CX:CXT}{P:Program}{w:World}{K:PySem.W.Frag}{mg:Str->Option Value}{base:Heap}{N ps:List Str}{qual:Str}{scope:Scope}{f:Addr}{cd:Value}{A:Around}{outer:List Env}{s s1:Shared}{H:Hp}{E:XK}{us:List Value}{vs:List V}
  (S:Aj N ps scope) (hd:A.handled=none) (e0:lO P w K mg base A outer s H) (hl:vs.length=ps.length) (r:Vals vs us)
  (x:InCallC s s.heap.objs.size (bindL (envOfC qual scope s.heap.objs.size f cd).kindOf (ps.zip us) fun _=>none) (cellsFrom (s.heap.objs.size+1) scope.names []) (bindC (envOfC qual scope s.heap.objs.size f cd).kindOf (ps.zip us) fun _=>none) s1) :
  Inv (hC CX P w K mg base N qual scope f cd A outer s H E) [] (start N vs) H s1:=by
 have hpl:ps.length<=N.length:=by have:=congrArg List.length S.pre;rw[List.length_take]at this;omega
 obtain⟨h1,tk,rfl,hk⟩:=x.done
 have noA:∀b:Addr,b∉(hC CX P w K mg base N qual scope f cd A outer s H E).ex:=fun b z=>absurd (show b∈([]:List Addr) from z) (by simp)
 refine ⟨⟨e0.mod, S.kind, rfl, rfl, Nat.le_refl _, fun y z c h1 h2 => ?_, fun y hy => ?_, fun y c _ h => ?_, fun _ => hd, Around.frames_deeper e0.frames, .inr ⟨rfl, rfl⟩, fun b z => absurd z (noA b), e0.bs, e0.bsz, fun b _ _ => noA b, fun b z => absurd z (noA b), e0.funs, e0.frf⟩,
  rfl,e0.bare,Un.kept hk,⟨_,x.toInCall.ns,fun i y v h1 h2 h3=>?_⟩,fun y c h=>⟨_,x.cell y c h⟩,e0.hok.fresh (Nat.le_refl _),fun y c h=>?_,fun p hp=>absurd (show p∈([]:List (Addr×Obj)) from hp) (by simp),e0.hok.kept hk,?_⟩
 ·exact name_of_addr x.apart (PySem.mem_of_lookup h1) (PySem.mem_of_lookup h2)
 ·have hy:scope.names.lookup y=some .cell\/scope.names.lookup y=some .free:=hy
  rcases hy with hy|hy
  ·exact cI hy
  ·exact absurd rfl (S.nofree _ (PySem.mem_of_lookup hy))
 ·exact Nat.le_of_lt (x.above y c (PySem.mem_of_lookup h))
 ·have hi:i<vs.length:=by
   unfold start at h2
   by_cases hi:i<vs.length
   ·exact hi
   ·rw[List.getElem?_append_right (by simpa using hi)]at h2
    rw[List.getElem?_replicate]at h2
    split at h2<;>cases h2
  have ha:vs[i]?=some v:=by
   unfold start at h2
   rw[List.getElem?_append_left (by simpa using hi),List.getElem?_map]at h2
   cases e:vs[i]? with
   |none=>rw[e]at h2;cases h2
   |some a=>rw[e]at h2;cases h2;rfl
  obtain⟨u,hu,rv⟩:=r.get ha
  have hp:ps[i]?=some y:=by
   rw[<- S.pre,List.getElem?_take_of_lt (by omega)];exact h1
  have ndP:ps.Nodup:=by rw[<- S.pre];exact S.nd.sublist (List.take_sublist _ _)
  refine⟨u,rv,?_⟩
  rcases S.par y (List.mem_of_getElem? hp)with k|k
  ·exact .inl ⟨k,YO ndP hp hu k⟩
  ·obtain⟨c,e⟩:=cI (n:=s.heap.objs.size+1) k
   refine .inr ⟨.inl k,c,e,?_⟩
   have q:=x.cell y c e
   rw[YR ndP hp hu (by show scope.names.lookup y≠_;rw[k];decide)]at q
   exact q
 ·exact e0.hok.fresh (Nat.le_of_lt (x.above y c (PySem.mem_of_lookup h)))
 ·unfold start
  show _=N.length
  rw[List.length_append,List.length_map,List.length_replicate]
  omega
theorem pB{CX:CXT}{P:Program}{w:World}{K:PySem.W.Frag}{mg:Str->Option Value}{base:Heap}{k:Nat}{f:Addr}{name qual:Str}{params:Arguments}{body:List Stmt}{scope:Scope}{dV kV doc pm cdv ct oc:Value}{an od:Option Addr}
  {osl:Array (Option Value)} {N ps:List Str} {sp:Sp} (lk:K.lookup f=some ⟨oc,od,.func (PySem.W.fnOf name qual params body scope dV kV doc pm an cdv ct),osl⟩) (hcd:PySem.W.codeIn K cdv qual=true) (S:Aj N ps scope)
  (len:∀vs H Q E,sp vs H Q E->vs.length=ps.length)
  (hbody : ∀ (A : Around) (outer : List Env) (s : Shared) (H : Hp) (vs : List V) (Q : VK) (E : XK), Room k (A.deeper (envOfC qual scope s.heap.objs.size f cdv)) -> sp vs H Q E ->
   ∃t,PSs (hC CX P w K mg base N qual scope f cdv A outer s H E) body t/\t { nx:=fun _ H'=>Q .non H',rt:=Q } (start N vs) H) :
  FnOk P w K mg base CX (k+1) f (PySem.W.fnOf name qual params body scope dV kV doc pm an cdv ct) ps sp:=by
 refine⟨len,fun A outer s H args us vs Q E hr e0 hb r hsp=>?_⟩
 have hl:=len _ _ _ _ hsp
 have KX:K.In s.heap:=e0.mod.kin.keeps fun b o e=>(e0.bs b o e).1
 have lim:s.heap.NoLimit:=e0.mod.nolimit.keeps fun b o e=>(e0.bs b o e).1
 have hkind:∀y∈ps.zip us,scope.names.lookup y.1=some .local\/(scope.names.lookup y.1=some .cell/\((cellsFrom (s.heap.objs.size+1) scope.names []).lookup y.1).isSome=true):=fun⟨n,v⟩ hy=>by
  rcases S.par n (List.of_mem_zip hy).1 with q|q
  ·exact .inl q
  ·exact .inr ⟨q,PySem.W.cellsFrom_some _ _ _ (.inl q)⟩
 refine codeAny_call_function hr.depth (KX _ _ lk) rfl S.co S.gen rfl (PySem.W.codeRec_of KX hcd) (hb _ _ _ _ ?_)
 refine wpAny_newFunctionEnv_cells S.kind hkind fun env he s1 x=>?_
 subst he
 refine⟨lim.keeps x.toInCall.keep,codeAny_func ?_⟩
 obtain⟨t,ht,hq⟩:=hbody A outer s H vs Q E (hr.deeper _) hsp
 have I:Inv (hC CX P w K mg base N qual scope f cdv A outer s H E) [] (start N vs) H s1:=gj S hr.hd e0 hl r x
 refine wpAny_mono (ht [] s1 (start N vs) H _ I hq) (fun fl s' hs=>?_) fun e s' hs=>hs
 have fin:∀{σ':St} {H':Hp} {v:V} {u:Value},Inv (hC CX P w K mg base N qual scope f cdv A outer s H E) [] σ' H' s'->RelV v u->Q v H'->CE outer P w H s Q u s' :=
  fun {σ' H' v u} J rv q=>⟨v,H',J.os,J.bare,J.base,J.hok,rv,q⟩
 cases fl with
 |ret u =>
  obtain⟨v,σ',H',J,rv,q⟩:=hs
  exact fin J rv q
 |next =>
  obtain⟨σ',H',J,q⟩:=hs
  exact fin (v:=V.non) (u:=Value.none) J rfl q
 |brk =>
  obtain⟨_,_,_,q⟩:=hs
  exact False.elim q
 |cont =>
  obtain⟨_,_,_,q⟩:=hs
  exact False.elim q
end L2
namespace L2
open PySem PySem.Spec PyProof.Rows
section
variable {X:Cx} {x:Str} {p pos:Pos} {e:Expr} {es:List Expr} {t:TA} {id T:String} {r:List V->Hp->VK->Prop}
def tCB(r:List V->Hp->VK->Prop)(t:TA):TE:=fun σ H Q=>t σ H fun vs H1=>r vs H1 Q
theorem BE(hc:Oc X (.builtin id) r)(hg:Gl X x)(hm:X.mg x=none)(hv:bootBuiltins x=some (.builtin id))(ha:PA X (e::es) t)(hn:x≠"__name__":=by decide)(hdb:(x==("__debug__":Str))=false:=by decide)
  (he:starEach (e::es) X.env=(false,eval e X.env)::starEach es X.env:=by rfl) (hpl:(backTo pos (starEach es X.env)).any (·.1)=false:=by rfl):PE X (.Call (.Name x p) (e::es) [] pos) (tCB r t):=by
 intro pins s σ H Q I h
 refine wpAny_Call_Name_kw (VC I hg hm hv ?_ hn hdb)
 exact PyProof.Rows.callWith_builtin1 (thn (ha pos pins s σ H _ I h) fun us s1 ⟨vs,H1,I1,r1,q1⟩=>hc pins s1 σ H1 vs us Q I1 r1 q1) he hpl
theorem Hy(hc:Oc X (.type T) r)(hg:Gl X x)(hm:X.mg x=none)(hv:bootBuiltins x=some (.type T))(ha:PA X (e::es) t)(hn:x≠"__name__":=by decide)(hdb:(x==("__debug__":Str))=false:=by decide)
  (he:starEach (e::es) X.env=(false,eval e X.env)::starEach es X.env:=by rfl) (hpl:(backTo pos (starEach es X.env)).any (·.1)=false:=by rfl):PE X (.Call (.Name x p) (e::es) [] pos) (tCB r t):=by
 intro pins s σ H Q I h
 refine wpAny_Call_Name_kw (VC I hg hm hv ?_ hn hdb)
 exact PyProof.Rows.callWith_type1 (thn (ha pos pins s σ H _ I h) fun us s1 ⟨vs,H1,I1,r1,q1⟩=>hc pins s1 σ H1 vs us Q I1 r1 q1) he hpl
end
end L2
namespace HT
open PySem PyProof.Rows
section
open PySem.SeqAt
open PySem.AutoSeq1 (wpAny_loadPart')
open PySem.MeetsSeq PySem.MeetsSeq2 PySem.MeetsSeq3
end
section
variable {prog:Program} {w:World} {A:Around} {E:Value->Shared->Prop} {s:Shared}
theorem cat_tup{t b:Addr}{vs ws:List Value}{Q:Value->Shared->Prop}(ht:IsTup s.heap t vs.toArray)(hb:IsTup s.heap b ws.toArray)(hv:vs≠[])
  (h1:ws=[]->Q (.ref t) s) (h2:ws≠[]->Q (.ref s.heap.objs.size) { s with heap:=s.heap.push { cls:=.type "tuple",data:=.seq (vs++ws).toArray } })
  (hsz:vs.length+ws.length<=sizeLine):wpAny (model prog w) A (binaryOp .Add (.ref t) (.ref b)) Q E s:=by
 obtain⟨⟨cls,dd,data,sl⟩,ho,hc,n,hd⟩:=id ht
 obtain⟨⟨cls2,dd2,data2,sl2⟩,ho2,hc2,n2,hd2⟩:=id hb
 simp only at hc hd hc2 hd2
 subst hc hd hc2 hd2
 have e:vs.toArray++ws.toArray=(vs++ws).toArray:=by simp
 by_cases hw:ws=[]
 ·exact concat_meets ⟨_,ho,rfl⟩ ⟨_,ho2,rfl⟩ noFill_tuple_add seq_tuple_add PySem.F.slot_tuple_add PySem.F.entry_tuple_add (PySem.F.args_tuple_add_2 _ _)
   (tuple_addW1 t b vs.toArray ws.toArray n n2 dd dd2 sl sl2 (by simpa using hv) (by simp[hw])) ⟨ho,ho2,h1 hw⟩
 ·refine concat_meets ⟨_,ho,rfl⟩ ⟨_,ho2,rfl⟩ noFill_tuple_add seq_tuple_add PySem.F.slot_tuple_add PySem.F.entry_tuple_add (PySem.F.args_tuple_add_2 _ _)
   (tuple_addW2 t b vs.toArray ws.toArray n n2 dd dd2 sl sl2 (by simpa using hv) (by simpa using hw) (by rw[List.size_toArray,List.size_toArray];exact hsz)) ⟨ho,ho2,?_⟩
  rw[e]
  exact h2 hw
def sIx(n d:Nat):Option Int->Nat
 |none=>d
 |some v=>if v<0 then (v+(n:Int)).toNat else min v.toNat n
theorem mv(n d:Nat)(hd:d<=n)(o:Option Int):sIx n d o<=n:=by
 cases o with
 |none=>exact hd
 |some v =>
  show(if v<0 then (v+(n:Int)).toNat else min v.toNat n)<=n
  by_cases hv:v<0
  ·rw[if_pos hv];omega
  ·rw[if_neg hv];exact Nat.min_le_right _ _
theorem ff(v:Int)(n d:Nat):(if v<0 then max (v+(n:Int)) 0 else min v (n:Int))=((sIx n d (some v):Nat):Int):=by
 show(if v<0 then max (v+(n:Int)) 0 else min v (n:Int))=(((if v<0 then (v+(n:Int)).toNat else min v.toNat n):Nat):Int)
 by_cases hv:v<0
 ·simp only[if_pos hv];omega
 ·simp only[if_neg hv];omega
theorem eE(lo hi:Option Int)(n:Nat):Builtin.Slice.sliceAdjust lo hi 1 (n:Int)=(((sIx n 0 lo:Nat):Int),((sIx n n hi:Nat):Int)):=by
 have h1:¬((1:Int)<0):=by omega
 unfold Builtin.Slice.sliceAdjust
 simp only[h1,if_false]
 refine Prod.ext ?_ ?_
 ·cases lo with
  |none=>rfl
  |some v=>exact ff v n 0
 ·cases hi with
  |none=>rfl
  |some v=>exact ff v n n
theorem cy(i j:Nat):Builtin.Slice.slicePlaces (i:Int) (j:Int) 1=j-i:=by
 unfold Builtin.Slice.slicePlaces
 have h1:(1:Int)>0:=by omega
 simp only[h1,if_true,Int.ediv_one]
 split<;>omega
theorem Ud{v:Value}{o:Option Int}{Q:Option Int->Shared->Prop}(p:IsPart v o)(h:Q o s):wpAny (model prog w) A (Builtin.Slice.slicePartIndex v) Q E s:=by
 cases p with
 |none=>exact slicePart_none h
 |int i t=>exact slicePart_int h
theorem Rj{sl:Addr}{vl vu:Value}{lo hi:Option Int}{n:Nat}{Q:Int×Int×Nat->Shared->Prop}(hs:s.heap.IsSliceOf sl vl vu .none)(pl:IsPart vl lo)(pu:IsPart vu hi)
  (h:Q (((sIx n 0 lo:Nat):Int),1,sIx n n hi-sIx n 0 lo) s):wpAny (model prog w) A (Builtin.Slice.sliceApplied (.ref sl) (pure (n:Int))) Q E s:=by
 obtain⟨os,hos,hcs,hds⟩:=id hs
 unfold Builtin.Slice.sliceApplied Builtin.Slice.sliceFields
 refine wpAny_bind (wpAny_bind (wpAny_field hos hds (x:=vl) rfl (wpAny_bind (wpAny_field hos hds (x:=vu) rfl (wpAny_bind (wpAny_field hos hds (x:=.none) rfl (wpAny_pure ?_)))))))
 refine wpAny_bind (slicePart_none ?_)
 show wpAny _ _ (if ((1:Int)==0)=true then _ else _) _ _ s
 rw[if_neg (by decide)]
 refine wpAny_bind (Ud pl (wpAny_bind (Ud pu (wpAny_bind (wpAny_pure ?_)))))
 show wpAny _ _ (match Builtin.Slice.sliceAdjust lo hi 1 (n:Int) with|(lo,hi)=>pure (lo,(1:Int),Builtin.Slice.slicePlaces lo hi 1)) _ _ s
 rw[eE lo hi n]
 show wpAny _ _ (pure (((sIx n 0 lo:Nat):Int),(1:Int),Builtin.Slice.slicePlaces ((sIx n 0 lo:Nat):Int) ((sIx n n hi:Nat):Int) 1)) _ _ s
 rw[cy]
 exact wpAny_pure h
theorem ib(xs:Array Value)(i k:Nat):((List.range k).filterMap fun(m:Nat)=>xs[((i:Int)+(m:Int)*1).toNat]?).toArray=((xs.toList.drop i).take k).toArray:=by
 have e:(fun(m:Nat)=>xs[((i:Int)+(m:Int)*1).toNat]?)=fun m=>xs[i+m]?:=by
  funext m
  have:((i:Int)+(m:Int)*1).toNat=i+m:=by omega
  rw[this]
 rw[e]
 have:=pick_run xs i k
 rw[List.filterMap_map]at this
 have e2:((fun x=>xs[x]?)∘fun x=>i+x)=fun m=>xs[i+m]?:=rfl
 rw[e2]at this
 rw[this]
theorem getItem_tuple_cut{t sl:Addr}{items:Array Value}{vl vu:Value}{lo hi:Option Int}{Q:Value->Shared->Prop}(ht:IsTup s.heap t items)(hs:s.heap.IsSliceOf sl vl vu .none)(pl:IsPart vl lo)(pu:IsPart vu hi)
  (hw:¬(sIx items.size 0 lo=0/\sIx items.size items.size hi=items.size))
  (h:Q (.ref s.heap.objs.size) { s with heap:=s.heap.push { cls:=.type "tuple",data:=.seq ((items.toList.drop (sIx items.size 0 lo)).take (sIx items.size items.size hi-sIx items.size 0 lo)).toArray } })
  (hsz:items.size<=sizeLine):wpAny (model prog w) A (getItem (.ref t) (.ref sl)) Q E s:=by
 have htake:sizeOk (.seq ((items.toList.drop (sIx items.size 0 lo)).take (sIx items.size items.size hi-sIx items.size 0 lo)).toArray):=by
  show((items.toList.drop (sIx items.size 0 lo)).take (sIx items.size items.size hi-sIx items.size 0 lo)).toArray.size<=sizeLine
  rw[List.size_toArray,List.length_take,List.length_drop,Array.length_toList]
  omega
 have hj:sIx items.size items.size hi<=items.size:=mv _ _ (Nat.le_refl _) hi
 obtain⟨os,hos,hcs,hds⟩:=id hs
 have hTs:s.TypeIs (.ref sl) "slice":=⟨os,hos,hcs⟩
 unfold getItem
 try with_reducible refine wpAny_holding ?_
 first|refine wpAny_bind (wpAny_pure ?_)|skip
 refine wpAny_bind (wpAny_sequenceKey ht.typeIs (by decide) ?_)
 refine wpAny_bind (wpAny_callSpecial?_slot (name := Str.ofString "__getitem__") ht.typeIs PyProof.Rows.slot_tuple_getitem
  (wpAny_call_entry PyProof.Rows.slot_tuple_getitem ht.typeIs entry_tuple_getitem ?_ (args_tuple_getitem _ _)))
 show wpAny _ _ (Builtin.Tuple.tupleItemsOf (.ref t) >>= _) _ _ s
 refine wpAny_bind (tupleItemsOf_ ht ?_)
 refine wpAny_bind (wpAny_typeOf hTs ?_)
 rw[if_pos (by decide)]
 refine wpAny_bind (Rj hs pl pu ?_)
 have hno:¬((((sIx items.size 0 lo:Nat):Int)==0&&(1:Int)==1&&(sIx items.size items.size hi-sIx items.size 0 lo)==items.size)=true):=by
  intro q
  rw[Bool.and_eq_true,Bool.and_eq_true]at q
  have q1:((sIx items.size 0 lo:Nat):Int)=0:=eq_of_beq q.1.1
  have q2:sIx items.size items.size hi-sIx items.size 0 lo=items.size:=eq_of_beq q.2
  exact hw ⟨by omega,by omega⟩
 show wpAny _ _ (if (((sIx items.size 0 lo:Nat):Int)==0&&(1:Int)==1&&(sIx items.size items.size hi-sIx items.size 0 lo)==items.size)=true then _ else _) _ _ s
 rw[if_neg hno,ib]
 first
  |exact wpAny_bind (m:=Builtin.Tuple.tupleExact _) (wpAny_newObj_type (wpAny_pure ⟨_,rfl,wpAny_pure h⟩) htake)
  |exact wpAny_bind (m:=Builtin.Tuple.tupleExact _) (wpAny_newObj_type (wpAny_bind (wpAny_pure (wpAny_pure ⟨_,rfl,wpAny_pure h⟩))) htake)
  |exact wpAny_bind (wpAny_bind (m:=Builtin.Tuple.tupleExact _) (wpAny_newObj_type (wpAny_pure (wpAny_pure ⟨_,rfl,wpAny_pure h⟩)) htake))
  |exact wpAny_bind (wpAny_bind (m:=Builtin.Tuple.tupleExact _) (wpAny_newObj_type (wpAny_pure ⟨_,rfl,wpAny_pure h⟩) htake))
end
end HT
namespace L2
open PySem PySem.Spec PyProof.Rows
abbrev TO:=St->Hp->(Option Int->Hp->Prop)->Prop
def PO(X:Cx)(e:Option Expr)(t:TO):Prop :=
 ∀(pins:List (Addr×Obj)) (s:Shared) (σ:St) (H:Hp) (Q:Option Int->Hp->Prop),Inv X pins σ H s->t σ H Q ->
  wpAny (model X.prog X.w) X.A (evalPart e X.env) (fun u s'=>∃o H',Inv X pins σ H' s'/\IsPart u o/\Q o H') X.xe s
def eN:TO:=fun _ H Q=>Q none H
def lU(t:TE):TO:=fun σ H Q=>t σ H fun x H1=>∃i,x = .int i/\Q (some i) H1
section
variable {X:Cx} {e:Expr} {te:TE} {lo hi:Option Expr} {tl th:TO} {pos p2:Pos}
theorem Gx:PO X none eN:=by
 intro pins s σ H Q I h
 rw[evalPart_none]
 exact wpAny_pure ⟨none,H,I,.none,h⟩
theorem Gw(h:PE X e te):PO X (some e) (lU te):=by
 intro pins s σ H Q I hw
 rw[evalPart_some]
 refine thn (h pins s σ H _ I hw) fun u s1 ⟨x,H1,I1,r1,q1⟩=>?_
 obtain⟨i,rfl,q⟩:=q1
 obtain⟨t,rfl⟩:=r1
 exact⟨some i,H1,I1,.int i t,q⟩
def SlR(X:Cx)(r:V->Option Int->Option Int->Hp->VK->Prop):Prop :=
 ∀(pins:List (Addr×Obj)) (s:Shared) (σ:St) (H:Hp) (x:V) (v vl vu:Value) (lo hi:Option Int) (sl:Addr) (Q:VK),Inv X pins σ H s->RelV x v->s.heap.IsSliceOf sl vl vu .none->IsPart vl lo->IsPart vu hi->r x lo hi H Q ->
  ∃T id,typeLookup (.type T) "__getitem__"=pure (some (.builtin id))/\s.TypeIs v T/\wpAny (model X.prog X.w) X.A (getItem v (.ref sl)) (EP X pins σ Q) X.xe s
def tSl(r:V->Option Int->Option Int->Hp->VK->Prop)(te:TE)(tl th:TO):TE:=fun σ H Q=>te σ H fun x H1=>tl σ H1 fun l H2=>th σ H2 fun u H3=>r x l u H3 Q
theorem FP{r:V->Option Int->Option Int->Hp->VK->Prop}(hr:SlR X r)(he:PE X e te)(hl:PO X lo tl)(hu:PO X hi th):PE X (.Subscript e (.Slice lo hi none p2) pos) (tSl r te tl th):=by
 intro pins s σ H Q I h
 refine Subscript_ (thn (he pins s σ H _ I h) fun v s1 ⟨x,H1,I1,r1,q1⟩=>?_)
 refine wpAny_Slice (thn (hl pins s1 σ H1 _ I1 q1) fun vl s2 ⟨l,H2,I2,pl,q2⟩=>thn (hu pins s2 σ H2 _ I2 q2) fun vu s3 ⟨u,H3,I3,pu,q3⟩=>?_)
 rw[evalPart_none]
 refine wpAny_pure ?_
 have I4:Inv X pins σ H3 { s3 with heap:=s3.heap.push { cls:=.type "slice",data:=.fields #[vl,vu,.none] } }:=I3.kept (t':=s3.toks) fun b ob q=>Heap.get?_push_of_some _ q
 obtain⟨T,id,hT,ht,hg⟩:=hr pins { s3 with heap:=s3.heap.push { cls:=.type "slice",data:=.fields #[vl,vu,.none] } } σ H3 x v vl vu l u s3.heap.objs.size Q I4 r1 (Heap.IsSliceOf.new ..) pl pu q3
 show wpAny (model X.prog X.w) X.A (subscriptTail e (.Slice lo hi none p2) v (.ref s3.heap.objs.size)) (EP X pins σ Q) X.xe { s3 with heap:=s3.heap.push { cls:=.type "slice",data:=.fields #[vl,vu,.none] } }
 exact tail_any (ops:=[.ref s3.heap.objs.size,v]) ht hT hg (by with_unfolding_all rfl)
def Xg(xs:List V)(lo hi:Option Int):List V:=(xs.drop (HT.sIx xs.length 0 lo)).take (HT.sIx xs.length xs.length hi-HT.sIx xs.length 0 lo)
theorem TU(xs:List V)(lo hi:Option Int):(Xg xs lo hi).length<=xs.length:=by
 unfold Xg
 rw[List.length_take,List.length_drop]
 omega
def oD(K:PySem.W.Frag):V->Option Int->Option Int->Hp->VK->Prop:=fun x lo hi H Q=>∃a xs,x = .ref a/\SqT K H a xs /\
 ¬(HT.sIx xs.length 0 lo=0/\HT.sIx xs.length xs.length hi=xs.length)/\∀p,H p=none->Q (.ref p) (upd H p (.tup (Xg xs lo hi)))
theorem MN:SlR X (oD X.K):=by
 intro pins s σ H x v vl vu lo hi sl Q I rx hs pl pu h
 obtain⟨a,xs,rfl,hx,hw,q⟩:=h
 cases rx
 obtain⟨its,r,ht,hz⟩:=I.tuple hx
 have hlen:its.toArray.size=xs.length:=by rw[List.size_toArray];exact r.length.symm
 refine⟨"tuple",_,PyProof.Rows.slot_tuple_getitem.lookup,ht.typeIs,?_⟩
 refine HT.getItem_tuple_cut ht hs pl pu (by rw[hlen];exact hw) ?_ (by rw[hlen];exact hz)
 rw[hlen]
 refine⟨.ref s.heap.objs.size,_,I.laid (t':=s.toks) (o:=.tup (Xg xs lo hi)) (fun b ob q=>Heap.get?_push_of_some _ q) (Nat.le_refl _) ?_,rfl,q _ (I.hok.fresh (Nat.le_refl _))⟩
 exact⟨Nat.le_trans (TU xs lo hi) hz,_,(r.drop (HT.sIx xs.length 0 lo)).take (HT.sIx xs.length xs.length hi-HT.sIx xs.length 0 lo),IsTup.new _ _⟩
def lz(K:PySem.W.Frag):R2:=fun x y H Q=>∃a b xs ys,x = .ref a/\y = .ref b/\SqT K H a xs/\SqT K H b ys/\xs≠[]/\xs.length+ys.length<=sizeLine /\
 (ys=[]->Q (.ref a) H)/\(ys≠[]->∀p,H p=none->Q (.ref p) (upd H p (.tup (xs++ys))))
theorem Vals.nil_iff{xs:List V}{us:List Value}(r:Vals xs us):us=[]↔xs=[]:=by
 cases r with
 |nil=>simp
 |cons _ _=>simp
theorem Jv:OpR X (binaryOp .Add) (lz X.K):=by
 intro pins s σ H x y v u Q I rx ry h
 obtain⟨a,b,xs,ys,rfl,rfl,ha,hb,hx,hz,q1,q2⟩:=h
 cases rx
 cases ry
 obtain⟨its,r1,p1,_⟩:=I.tuple ha
 obtain⟨its2,r2,p2,_⟩:=I.tuple hb
 refine HT.cat_tup p1 p2 (fun z=>hx (r1.nil_iff.mp z)) (fun z=>⟨.ref a,H,I,rfl,q1 (r2.nil_iff.mp z)⟩) (fun z=>?_) (by rw[<- r1.length,<- r2.length];exact hz)
 refine⟨.ref s.heap.objs.size,_,I.laid (t':=s.toks) (o:=.tup (xs++ys)) (fun b ob q=>Heap.get?_push_of_some _ q) (Nat.le_refl _) ?_,rfl,q2 (fun w=>z (r2.nil_iff.mpr w)) _ (I.hok.fresh (Nat.le_refl _))⟩
 exact⟨by rw[List.length_append];exact hz,_,r1.append r2,IsTup.new _ _⟩
end
end L2
namespace L2
open PySem PySem.Spec PyProof.Rows
def ixN(n:Nat)(i:Int):Option Nat:=if 0<=i then (if i<n then some i.toNat else none) else if -(n:Int)<=i then some (i+n).toNat else none
def atI{α:Type}(xs:List α)(i:Int):Option α:=(ixN xs.length i).bind fun j=>xs[j]?
theorem kc{n:Nat}{i:Int}{j:Nat}(h:ixN n i=some j):seqIndex? i n=some j/\j<n/\-(n:Int)<=i/\i<n:=by
 unfold ixN at h
 by_cases h0:0<=i
 ·rw[if_pos h0]at h
  by_cases h1:i<n
  ·rw[if_pos h1]at h
   have e:i.toNat=j:=Option.some.inj h
   exact⟨by rw[seqIndex_of h0 h1,e],by omega,by omega,h1⟩
  ·rw[if_neg h1]at h;cases h
 ·rw[if_neg h0]at h
  by_cases h1:-(n:Int)<=i
  ·rw[if_pos h1]at h
   have e:(i+n).toNat=j:=Option.some.inj h
   exact⟨by rw[seqIndex_neg (by omega) h1,e],by omega,h1,by omega⟩
  ·rw[if_neg h1]at h;cases h
theorem Z9{α:Type}{xs:List α}{i:Int}{v:α}(h:atI xs i=some v):∃j,seqIndex? i xs.length=some j/\xs[j]?=some v/\j<xs.length/\-(xs.length:Int)<=i/\i<xs.length:=by
 unfold atI at h
 cases e:ixN xs.length i with
 |none=>rw[e]at h;cases h
 |some j =>
  rw[e]at h
  obtain⟨h1,h2,h3,h4⟩:=kc e
  exact⟨j,h1,h,h2,h3,h4⟩
def lN(b:Expr):Prop:=∀o i,subscripted b false o i=operate [o,i] (getItem o i)
def IxR(X:Cx)(r:R2):Prop :=
 ∀(value slice:Expr) (pins:List (Addr×Obj)) (s:Shared) (σ:St) (H:Hp) (x y:V) (v u:Value) (Q:VK),Inv X pins σ H s->RelV x v->RelV y u->r x y H Q ->
  subscripted slice false v u=operate [v,u] (getItem v u)->wpAny (model X.prog X.w) X.A (subscriptTail value slice v u) (EP X pins σ Q) X.xe s
def MtR(X:Cx)(id:String)(r:V->List V->Hp->VK->Prop):Prop :=
 ∀(pins:List (Addr×Obj)) (s:Shared) (σ:St) (H:Hp) (x:V) (xs:List V) (v:Value) (us:List Value) (Q:VK),Inv X pins σ H s->RelV x v->Vals xs us->r x xs H Q ->
  wpAny (model X.prog X.w) X.A (call (.builtin id) (v::us)) (EP X pins σ Q) X.xe s
section
variable {X:Cx} {a b:Expr} {ta tb:TE} {pos:Pos}
theorem Aw{r:R2}(hr:IxR X r)(ha:PE X a ta)(hb:PE X b tb)(hs:lN b):PE X (.Subscript a b pos) (tOp r ta tb):=by
 intro pins s σ H Q I h
 exact Subscript_ (nU ha hb I h fun v u s2 x y H2 I2 rx ry q=>hr a b pins s2 σ H2 x y v u Q I2 rx ry q (hs _ _))
def mx(K:PySem.W.Frag):R2:=fun x y H Q=>∃p xs i v,x = .ref p/\y = .int i/\SqL K H p xs/\atI xs i=some v/\Q v H
def oH(K:PySem.W.Frag):R2:=fun x y H Q=>∃p xs i v,x = .ref p/\y = .int i/\SqT K H p xs/\atI xs i=some v/\Q v H
def oI:R2:=fun x y H Q=>∃z i c,x = .str z/\y = .int i/\z.length<=sizeLine/\atI z.cps.toList i=some c/\Q (.str ⟨#[c]⟩) H
theorem K9:IxR X (mx X.K):=by
 intro value slice pins s σ H x y v u Q I rx ry h hs
 obtain⟨p,xs,i,z,rfl,rfl,hq,he,q⟩:=h
 cases rx
 obtain⟨t,rfl⟩:=ry
 obtain⟨its,r,pl,hz⟩:=I.list hq
 obtain⟨j,h1,h2,h3,h4,h5⟩:=Z9 he
 obtain⟨w,ew,rw'⟩:=r.get h2
 have hl:=r.length
 have hn:=ZY
 have fin:EP X pins σ Q w s:=⟨z,H,I,rw',q⟩
 by_cases h0:0<=i
 ·have hj:i.toNat=j:=by
   rw[seqIndex_of h0 h5]at h1
   exact Option.some.inj h1
  exact item_listR pl.isList h0 (by omega) (by rw[hj];simpa using ew) fin hs
 ·have hj:(i+(its.toArray.size:Int)).toNat=j:=by
   rw[seqIndex_neg (by omega) h4]at h1
   rw[List.size_toArray,<- hl]
   exact Option.some.inj h1
  exact subscriptTail_builtinR (x:=w) pl.isList.typeIs slot_list_getitem.lookup
   (wpAny_getItem_list_neg (Q:=fun r s'=>r=w/\EP X pins σ Q r s') pl.isList (by omega) (by rw[List.size_toArray]<;>omega) (by omega) (by rw[hj];simpa using ew) ⟨rfl,fin⟩) hs
theorem Am:IxR X (oH X.K):=by
 intro value slice pins s σ H x y v u Q I rx ry h hs
 obtain⟨p,xs,i,z,rfl,rfl,hq,he,q⟩:=h
 cases rx
 obtain⟨t,rfl⟩:=ry
 obtain⟨its,r,pl,hz⟩:=I.tuple hq
 obtain⟨j,h1,h2,h3,h4,h5⟩:=Z9 he
 obtain⟨w,ew,rw'⟩:=r.get h2
 have hl:=r.length
 have hn:=ZY
 have fin:EP X pins σ Q w s:=⟨z,H,I,rw',q⟩
 exact subscriptTail_builtinR (x:=w) pl.typeIs slot_tuple_getitem.lookup
  (getItem_tuple (j:=j) (Q:=fun r s'=>r=w/\EP X pins σ Q r s') pl (by omega) (by omega) (by rw[List.size_toArray,<- hl];exact h1) (by simpa using ew) ⟨rfl,fin⟩) hs
theorem df:IxR X oI:=by
 intro value slice pins s σ H x y v u Q I rx ry h hs
 obtain⟨z,i,c,rfl,rfl,hz,he,q⟩:=h
 obtain⟨t,rfl⟩:=rx
 obtain⟨t',rfl⟩:=ry
 obtain⟨j,h1,h2,h3,h4,h5⟩:=Z9 he
 have hl:z.cps.toList.length=z.length:=by simp[Str.length]
 rw[hl]at h1 h4 h5
 have hn:=ZY
 exact tail_any (typeIs_str s z t) slot_str_getitem.lookup (getItem_str (c := c) (by
  have e1:decide (i < -(2 ^ 63:Int))=false:=decide_eq_false (by omega)
  have e2:decide (i≥2 ^ 63)=false:=decide_eq_false (by omega)
  rw[e1,e2,Bool.or_false]) (by rw[h1];simpa using h2) ⟨.str ⟨#[c]⟩,H,I.tok _,⟨_,rfl⟩,q⟩) hs
theorem Ym(lo hi:Option Int)(n:Nat):(sliceBounds lo hi none n).1=((HT.sIx n 0 lo:Nat):Int)/\(sliceBounds lo hi none n).2.1=((HT.sIx n n hi:Nat):Int)/\(sliceBounds lo hi none n).2.2=1:=by
 refine⟨?_,?_,rfl⟩
 ·cases lo with
  |none=>simp[sliceBounds,HT.sIx]
  |some i =>
   simp only[sliceBounds,HT.sIx,Option.getD_none,show(1:Int)>0 by decide,if_true]
   by_cases h:i<0
   ·simp only[h,if_true]<;>omega
   ·simp only[h,if_false]<;>omega
 ·cases hi with
  |none=>simp[sliceBounds,HT.sIx]
  |some i =>
   simp only[sliceBounds,HT.sIx,Option.getD_none,show(1:Int)>0 by decide,if_true]
   by_cases h:i<0
   ·simp only[h,if_true]<;>omega
   ·simp only[h,if_false]<;>omega
theorem WY(its:List Value)(lo hi:Option Int):slicePick its.toArray lo hi none=((its.drop (HT.sIx its.length 0 lo)).take (HT.sIx its.length its.length hi-HT.sIx its.length 0 lo)).toArray:=by
 obtain⟨h1,h2,h3⟩:=Ym lo hi its.toArray.size
 unfold slicePick
 rw[h1,h2,h3]
 simp only[sliceRange_one,pick_run,List.size_toArray]<;>rfl
def oE(K:PySem.W.Frag):V->Option Int->Option Int->Hp->VK->Prop:=fun x lo hi H Q=>∃a xs,x = .ref a/\SqL K H a xs/\∀p,H p=none->Q (.ref p) (upd H p (.lst (Xg xs lo hi)))
theorem T8:SlR X (oE X.K):=by
 intro pins s σ H x v vl vu lo hi sl Q I rx hs pl pu h
 obtain⟨a,xs,rfl,hx,q⟩:=h
 cases rx
 obtain⟨its,r,ht,hz⟩:=I.list hx
 have hlen:=r.length
 refine⟨"list",_,slot_list_getitem.lookup,ht.isList.typeIs,?_⟩
 refine wpAny_getItem_list_slice ht.isList hs pl pu .none (by simp) ?_ (by rw[List.size_toArray]<;>omega)
 rw[WY,<- hlen]
 refine⟨.ref s.heap.objs.size,_,I.laid (t':=s.toks) (o:=.lst (Xg xs lo hi)) (fun b ob q=>Heap.get?_push_of_some _ q) (Nat.le_refl _) ?_,rfl,q _ (I.hok.fresh (Nat.le_refl _))⟩
 exact⟨Nat.le_trans (TU xs lo hi) hz,_,0,(r.drop (HT.sIx xs.length 0 lo)).take (HT.sIx xs.length xs.length hi-HT.sIx xs.length 0 lo),Heap.get?_push_size _ rfl⟩
theorem J8:Oc X (.type "list") (fun xs H Q=>∃p ys,xs=[.ref p]/\(SqL X.K H p ys\/SqT X.K H p ys)/\∀l,H l=none->Q (.ref l) (upd H l (.lst ys))):=by
 intro pins s σ H xs us Q I r h
 obtain⟨p,ys,rfl,hq,q⟩:=h
 obtain⟨u,rfl,rx⟩:=NW r
 cases rx
 have fin:∀(its:List Value),Vals ys its->ys.length<=sizeLine->∀(h':Heap) (c':Nat),(∀b o',s.heap.get? b=some o'->h'.get? b=some o') ->
   h'.get? s.heap.objs.size=some { cls:=.type "list",dict:=none,data:=.seq its.toArray c',slots:=#[] }->EP X pins σ Q (.ref s.heap.objs.size) { s with heap:=h' }:=fun its r' hz h' c' kp e =>
  ⟨.ref s.heap.objs.size,_,I.laid (t':=s.toks) kp (Nat.le_refl _) (show ObjOk X.prog X.w _ h' _ (.lst ys) from⟨hz,its,c',r',e⟩),rfl,q _ (I.hok.fresh (Nat.le_refl _))⟩
 rcases hq with hq|hq
 ·obtain⟨its,r',pl,hz⟩:=I.list hq
  have hlen:=r'.length
  obtain⟨o,ho,hc,n,hd⟩:=pl.isList
  exact call_list_seq p (.inl rfl) ho hc hd (fun h' c' kp e=>fin its r' hz h' c' kp e) (by simp only[List.size_toArray]<;>omega)
 ·obtain⟨its,r',pl,hz⟩:=I.tuple hq
  have hlen:=r'.length
  obtain⟨o,ho,hc,n,hd⟩:=pl
  exact call_list_seq p (.inr rfl) ho hc hd (fun h' c' kp e=>fin its r' hz h' c' kp e) (by simp only[List.size_toArray]<;>omega)
theorem Xl:Oc X (.type "tuple") (fun xs H Q=>∃p ys,xs=[.ref p]/\((SqL X.K H p ys/\∀l,H l=none->Q (.ref l) (upd H l (.tup ys)))\/(SqT X.K H p ys/\Q (.ref p) H))):=by
 intro pins s σ H xs us Q I r h
 obtain⟨p,ys,rfl,h⟩:=h
 obtain⟨u,rfl,rx⟩:=NW r
 cases rx
 rcases h with ⟨hq,q⟩|⟨hq,q⟩
 ·obtain⟨its,r',pl,hz⟩:=I.list hq
  have hlen:=r'.length
  refine call_tuple_list pl.isList (fun h' kp=>?_) (by simp only[List.size_toArray]<;>omega)
  have I1:Inv X pins σ H { s with heap:=h' }:=I.kept (t':=s.toks) kp
  have I2:Inv X pins σ (upd H h'.objs.size (.tup ys)) { s with heap:=h'.push { cls:=.type "tuple",data:=.seq its.toArray } } :=
   I1.laid (t':=s.toks) (fun b o e=>Heap.get?_push_of_some _ e) (Nat.le_refl _) (show ObjOk X.prog X.w _ _ _ (.tup ys) from⟨hz,its,r',IsTup.new _ _⟩)
  exact⟨.ref h'.objs.size,_,I2,rfl,q _ (I1.hok.fresh (Nat.le_refl _))⟩
 ·obtain⟨its,r',pl,hz⟩:=I.tuple hq
  exact call_tuple_same pl ⟨.ref p,H,I,rfl,q⟩
def tyV(K:PySem.W.Frag)(T:String)(x:V)(H:Hp):Prop:=match x with
 |.str _=>T="str"
 |.int _=>T="int"
 |.ref p=>(T="list"/\∃xs,SqL K H p xs)\/(T="tuple"/\∃o,K.lookup p=some o/\o.cls = .type "tuple"/\o.dict=none) \/
   (T="dict"/\((∃kvs,H p=some (.dK kvs))\/∃kvs,H p=some (.dT kvs)))\/(T="set"/\∃S n,H p=some (.set S n))
 |_=>False
theorem me{pins:List (Addr×Obj)}{σ:St}{H:Hp}{s:Shared}{T:String}{x:V}{v:Value}(I:Inv X pins σ H s)(r:RelV x v)(ty:tyV X.K T x H) :
  s.TypeIs v T/\∀a,v = .ref a->∃ob,s.heap.get? a=some ob/\ob.dict=none:=by
 cases x with
 |str z =>
  obtain⟨t,rfl⟩:=r
  cases (show T="str" from ty)
  exact⟨typeIs_str s z t,fun _ e=>nomatch e⟩
 |int i =>
  obtain⟨t,rfl⟩:=r
  cases (show T="int" from ty)
  exact⟨typeIs_int s i t,fun _ e=>nomatch e⟩
 |ref p =>
  cases r
  rcases ty with ⟨rfl,xs,hq⟩|⟨rfl,o,hk,hc,hd⟩|⟨rfl,hk⟩|⟨rfl,S,n,hk⟩
  ·obtain⟨its,_,pl,_⟩:=I.list hq
   refine⟨pl.isList.typeIs,fun a e=>?_⟩
   cases e
   obtain⟨o,n,e,c,hd,_⟩:=pl
   exact⟨o,e,hd⟩
  ·refine⟨⟨o,I.kIn p o hk,hc⟩,fun a e=>?_⟩
   cases e
   exact⟨o,I.kIn _ o hk,hd⟩
  ·have z:∃o,s.heap.get? p=some o/\o.ExactDict:=by
    rcases hk with ⟨kvs,hk⟩|⟨kvs,hk⟩
    ·obtain⟨_,_,_,_,o,_,_,e,ex,_⟩:=I.hok p _ hk
     exact⟨o,e,ex⟩
    ·obtain⟨_,_,_,_,o,_,_,e,ex,_⟩:=I.hok p _ hk
     exact⟨o,e,ex⟩
   obtain⟨o,e,ex⟩:=z
   refine⟨⟨o,e,ex.1⟩,fun a e2=>?_⟩
   cases e2
   exact⟨o,e,ex.2.1⟩
  ·obtain⟨o,_,_,_,e,ex,_⟩:=I.hok p _ hk
   refine⟨⟨o,e,ex.1⟩,fun a e2=>?_⟩
   cases e2
   exact⟨o,e,ex.2.1⟩
 |_=>exact False.elim ty
def tBM(K:PySem.W.Frag)(T:String)(r:V->List V->Hp->VK->Prop)(to:TE)(t:TA):TE:=fun σ H Q=>to σ H fun x H1=>tyV K T x H1/\t σ H1 fun xs H2=>r x xs H2 Q
variable {o e:Expr} {es:List Expr} {to:TE} {t:TA} {name:Str} {apos cpos:Pos} {T id:String} {r:V->List V->Hp->VK->Prop}
theorem Nq(pa:PlainAttrs T)(slot:Slot T name id)(hty:typeOf (.builtin id)=pure (.type "method_descriptor"))(hm:MtR X id r)(ho:PE X o to)(ha:PA X (e::es) t)
  (hbase:attributeBase o name X.env (eval o X.env)=eval o X.env:=by rfl)
  (hfew : ((backTo cpos (starEach (e :: es) X.env)).all (fun x => !x.1) && (backToKw cpos (keywordEach [] X.env)).all (fun x => x.1.isSome)
   && decide ((e::es).length+([]:List Keyword).length+(if ([]:List Keyword).isEmpty then 0 else 1)<30))=true:=by rfl)
  (hline:(apos.endLine==cpos.line)=true:=by rfl) (hs:starEach (e::es) X.env=(false,eval e X.env)::starEach es X.env:=by rfl) (hplain:(backTo cpos (starEach es X.env)).any (·.1)=false:=by rfl) :
  PE X (.Call (.Attribute o name apos) (e::es) [] cpos) (tBM X.K T r to t):=by
 intro pins s σ H Q I h
 refine wpAny_Call_method_late hbase hfew hline rfl (thn (ho pins s σ H _ I h) fun v s1 ⟨x,H1,I1,r1,ty,q1⟩=>?_)
 obtain⟨h1,h2⟩:=me I1 r1 ty
 refine⟨T,id,pa,slot,hty,h1,h2,?_⟩
 have hA:=ha cpos pins s1 σ H1 _ I1 q1
 rw[hs]at hA ⊢
 refine Calls.callWith_builtin (by show(false||(backTo cpos (starEach es X.env)).any (·.1))=false;rw[hplain]<;>rfl) (Calls.evalArgs_plain ?_)
 exact thn hA fun us s2 ⟨vs,H2,I2,r2,q2⟩=>hm pins s2 σ H2 x vs v us Q I2 r1 r2 q2
end
end L2
namespace L2
open PySem PySem.Spec PyProof.Rows
def MtM(X:Cx)(id:String)(r:V->List V->Hp->VK->Prop):Prop :=
 ∀(pins:List (Addr×Obj)) (s:Shared) (σ:St) (H:Hp) (x:V) (xs:List V) (v:Value) (us:List Value) (Q:VK),Inv X pins σ H s->RelV x v->Vals xs us->r x xs H Q ->
  wpAny (model X.prog X.w) X.A (call (.builtin id) (v::us)) (EP X pins σ Q) X.xe s
theorem Vals.one:∀{x:V} {us:List Value},Vals [x] us->∃u,us=[u]/\RelV x u
 |_,_,.cons r .nil=>⟨_,rfl,r⟩
section
variable {X:Cx} {pins:List (Addr×Obj)} {σ:St} {H:Hp} {s:Shared} {l b:Addr} {xs ys zs:List V}
theorem Inv.lset{its its':List Value}{n:Nat}{f:Array Value->Array Value}{t':Nat}(I:Inv X pins σ H s)(hH:H l=some (.lst xs))
  (e:s.heap.get? l=some { cls:=.type "list",data:=.seq its.toArray n }) (hf:f its.toArray=its'.toArray) (hv:Vals ys its') (hz:ys.length<=sizeLine) :
  Inv X pins σ (upd H l (.lst ys)) { s with heap:=s.heap.update l (Obj.mapSeq f),toks:=t' }:=by
 have q:=PySem.IsL.update e f
 rw[hf]at q
 refine I.write (x:=l) (e:=l) (by rw[hH];exact trivial) (.inl rfl) (fun b' u hb hu=>(Heap.get?_update_other s.heap (Obj.mapSeq f) (Ne.symm hb)).trans hu) ⟨_,q⟩ ?_
 exact⟨hz,its',_,hv,q⟩
theorem Inv.lnew{its:List Value}{t':Nat}(I:Inv X pins σ H s)(hv:Vals ys its)(hz:ys.length<=sizeLine) :
  Inv X pins σ (upd H s.heap.objs.size (.lst ys)) { s with heap:=s.heap.push { cls:=.type "list",data:=.seq its.toArray },toks:=t' } :=
 I.laid (fun _ _ q=>Heap.get?_push_of_some _ q) (Nat.le_refl _) ⟨hz,its,0,hv,Heap.get?_push_size _ rfl⟩
theorem Inv.fresh(I:Inv X pins σ H s):H s.heap.objs.size=none:=I.hok.fresh (Nat.le_refl _)
theorem Inv.lstM(I:Inv X pins σ H s)(hH:H l=some (.lst xs)):xs.length<=sizeLine/\∃(its:List Value) (n:Nat),Vals xs its/\xs.length=its.length/\s.heap.get? l=some { cls:=.type "list",data:=.seq its.toArray n }:=by
 obtain⟨z,its,n,r,e⟩:=I.hok l _ hH
 exact⟨z,its,n,r,r.length,e⟩
end
section
variable {X:Cx}
def eS:V->List V->Hp->VK->Prop:=fun x vs H Q=>∃l xs y,x = .ref l/\vs=[y]/\H l=some (.lst xs)/\xs.length<sizeLine/\Q .non (upd H l (.lst (xs++[y])))
theorem FR:MtM X "list.append" eS:=by
 intro pins s σ H x vs v us Q I rx rv h
 obtain⟨l,xs,y,rfl,rfl,hH,hz,q⟩:=h
 cases rx
 obtain⟨u,rfl,ru⟩:=rv.one
 obtain⟨z,its,n,r,hl,e⟩:=I.lstM hH
 refine call_meets F.slot_list_append ⟨_,e,rfl⟩ F.entry_list_append (F.args_list_append_2 _ _) (PySem.list_append l its.toArray n u (by rw[List.size_toArray];omega)) ⟨e,?_⟩
 refine⟨.non,_,I.lset (its':=its++[u]) hH e (by simp) (r.append (.cons ru .nil)) ?_,rfl,q⟩
 rw[List.length_append,List.length_singleton]
 omega
def oO:R2:=fun x y H Q=>∃l b xs zs,x = .ref l/\y = .ref b/\H l=some (.lst xs)/\H b=some (.lst zs)/\xs.length+zs.length<=sizeLine/\∀p,H p=none->Q (.ref p) (upd H p (.lst (xs++zs)))
theorem P2:OpR X (binaryOp .Add) oO:=by
 intro pins s σ H x y v u Q I rx ry h
 obtain⟨l,b,xs,zs,rfl,rfl,hH,hB,hz,q⟩:=h
 cases rx
 cases ry
 obtain⟨z,its,n,r,hl,e⟩:=I.lstM hH
 obtain⟨z2,its2,n2,r2,hl2,e2⟩:=I.lstM hB
 refine PySem.P.add_list e e2 ?_ (by rw[List.size_toArray,List.size_toArray];omega)
 have ea:its.toArray++its2.toArray=(its++its2).toArray:=by simp
 rw[ea]
 exact⟨.ref _,_,I.lnew (t':=s.toks) (r.append r2) (by rw[List.length_append];omega),rfl,q _ I.fresh⟩
end
section
variable {prog:Program} {w:World} {A:Around} {E:Value->Shared->Prop} {s:Shared}
end
section
variable {X:Cx}
end
end L2
namespace Att
open PySem PySem.W PySem.Calls PyProof.Rows
theorem To{P:Params}{h:Heap}:∀(ns:List Int) (vs:List Value),WellAll P h vs (ns.map WData.int)->IntsAre vs ns:=by
 intro ns
 induction ns with
 |nil =>
  intro vs w
  rw[List.map_nil]at w
  cases w
  exact .nil
 |cons n ns ih =>
  intro vs w
  rw[List.map_cons]at w
  cases w with
  |cons a b =>
   cases a
   exact .cons _ _ (ih _ b)
theorem gD{l:OpenLaw}{n:Nat}(hn:l.most=some n){P:Params}{h:Heap}{args:List WData}{vals:List Value}
  (hpre:l.row.toRowW.claim.pre args=true) (hwl:WellAll P h vals args) :
  ∃a vs ns,vals=[Value.ref a]/\args=[WData.list (ns.map WData.int)]/\h.get? a=some { cls:=.type "list",data:=.seq vs.toArray }/\IntsAre vs ns/\ns.length<=n:=by
 have hsh:WShape.hasAll [] args [.list .int]=true:=(pre_splitW hpre).1
 have hc:l.pre.holds [] { args:=args }=true:=(pre_splitW hpre).2
 obtain⟨d,r,rfl,h1,h2⟩:=hasAllW_cons hsh
 obtain rfl:=hasAllW_nil h2
 obtain⟨xs,rfl,h3⟩:=hasW_list h1
 obtain⟨ns,rfl⟩:=items_int h3
 have hlen:ns.length<=n:=by
  unfold OpenLaw.pre at hc
  have h4:(WTm.not (.lt (.lit (.int (n:Int))) (.len (.arg 0)))).holds [] { args:=[.list (ns.map .int)] }=true:=by
   have h4:=(holds_andW hc).1
   rw[hn]at h4
   exact h4
  have h5:=condW_of h4 (w_not (w_lt w_lit (w_len_list (w_arg rfl))))
  rw[List.length_map]at h5
  refine Nat.le_of_not_lt fun q=>?_
  have q':(n:Int)<((ns.length:Nat):Int):=by omega
  first
   |(rw[decide_eq_true q']at h5;exact absurd h5 (by decide))
   |(simp at h5;omega)
 cases hwl with
 |cons w1 w2 =>
  cases w2
  cases w1 with
  |list ho hall=>exact⟨_,_,ns,rfl,rfl,ho,To ns _ hall,hlen⟩
theorem gJ(l:OpenLaw)(args:List WData):l.row.toRowW.claim.post args (.bool true) args=true :=
 postW_of (r:=l.row.toRowW) (X:=(true==true))
  (show WShape.has [] (.bool true) .bool=true by first|rfl|decide|simp[WShape.has,WShape.arms,WShape.armsAll])
  (show(WTm.eq .res (.lit (.bool true))).value [] { args:=args,res:=some (.bool true),after:=args }=some (.bool (true==true)) from w_eq_bool (w_res rfl) w_lit) rfl
theorem attach_call{l:OpenLaw}{n:Nat}{q:Program}{loose:List Str}{XP:(Str->Option Value)->Heap->Prop}{YP:World->Heap->Prop}{d:DefRec}
  (hn:l.most=some n) (hdf:d.params.defaults=[])
  (call : ∀ (w : World) (s₀ s₁ : Shared) (mg mb : Str -> Option Value) (fa : Addr) (o : Obj) (pm cd doc : Value) (a : Addr) (vs : List Value) (ns : List Int),
   Ground q loose [] XP w s₀ mg mb s₁.heap->YP w s₁.heap ->
   s₁.heap.get? fa=some o->o.data = .func (docDef d.name d.params d.body d.scope pm cd doc)->s₁.heap.CodeRec cd d.name->mg d.name=some (.ref fa) ->
   s₁.heap.get? a=some { cls:=.type "list",data:=.seq vs.toArray }->IntsAre vs ns->ns.length<=n->s₁.gens=#[] ->
   codeAny (model l.prog w) callerA (.call (.ref fa) ⟨[.ref a],[]⟩) (fun r s'=>r = .ok (.ret (.bool true))/\OldK s₁.heap s'.heap/\s'.os=s₁.os/\AllBare s'.gens) s₁) :
  WalkO q loose XP YP l.row.toRowW d [] (fun f vs=>PySem.call f vs):=by
 intro w s₀ s₁ mg mb G Y fa o pm cd doc dV kV ho hd hcd hD hmg hg args vals as hpre hlay hrd hwl hlo
 obtain rfl:dV = .none:=Dflts.none hD hdf
 obtain rfl:kV = .none:=Dflts.noKw hD
 obtain⟨a,vs,ns,rfl,rfl,hobj,hints,hlen⟩:=gD hn hpre hwl
 refine enter_call (codeAny_mono (call w s₀ s₁ mg mb fa o pm cd doc a vs ns G Y ho (fd_plain hd) hcd hmg hobj hints hlen hg) fun r s' hq=>?_)
 obtain⟨rfl,h2,h3,h4⟩:=hq
 exact⟨.inl ⟨.bool true,.bool true,[],rfl,fun _=>rfl,.bool true,gJ l _,fun _=>⟨List.Pairwise.nil,fun _ hm=>(nomatch hm)⟩⟩,h2,h3,h4⟩
section
variable {prog:Program} {w:World} {A:Around} {E:Value->Shared->Prop} {s:Shared} {K:Frag}
end
end Att
namespace L2
open PySem PySem.Spec PyProof.Rows
theorem Xm:∀{vs:List Value} {ns:List Int},IntsAre vs ns->Vals (ns.map V.int) vs
 |_,_,.nil=>.nil
 |_,_,.cons n t h=>.cons ⟨t,rfl⟩ (Xm h)
def nZ(H:Hp):Prop:=∀b,H b=none\/∃o xs,H b=some (.frz o (.lst xs))
theorem jL{P:Program}{w:World}{K:PySem.W.Frag}{mg mb:Str->Option Value}{CX:CXT}{k:Nat}{fa a:Addr}{fd:FuncData}{x:Str}{sp:Sp}{s₁:Shared}{vs:List Value}{ns:List Int}
  (KX:K.In s₁.heap) (hns:s₁.heap.Ns mainGlobals mg) (hb:s₁.heap.Ns builtinsNs mb) (hbb:∀x:Str,x≠"__name__"->mb x=bootBuiltins x) (hlim:s₁.heap.NoLimit) (hg:s₁.gens=#[])
  (ha:s₁.heap.get? a=some { cls:=.type "list",data:=.seq vs.toArray }) (hi:IntsAre vs ns) (hl:ns.length<=sizeLine) (hr:Room k callerA)
  (F:∀base:Heap,K.In base->base.Ns mainGlobals mg->FnOk P w K mg base CX k fa fd [x] sp) (hbind:∀(s:Shared) (u:Value),BindsTo s fd ⟨[u],[]⟩ [(x,u)])
  (hsp:∀H:Hp,nZ H->SqL K H a (ns.map V.int)->sp [.ref a] H (fun v _=>v = .bl true) fun _ _ _=>False)
  (hCX:∀H e s',CX [] H s₁ (fun _ _ _=>False) e s'->False) :
  codeAny (model P w) callerA (.call (.ref fa) ⟨[.ref a],[]⟩) (fun r s'=>r = .ok (.ret (.bool true))/\OldK s₁.heap s'.heap/\s'.os=s₁.os/\AllBare s'.gens) s₁:=by
 have rv:=Xm hi
 have lenV:=hi.length
 -- from an abstract heap in which nothing but the script may be tracked
 have core:∀H:Hp,nZ H->SqL K H a (ns.map V.int)->HOk P w H s₁.heap->(∀b,H b≠none->b=a)->(H a≠none->K.lookup a=none) ->
   codeAny (model P w) callerA (.call (.ref fa) ⟨[.ref a],[]⟩) (fun r s'=>r = .ok (.ret (.bool true))/\OldK s₁.heap s'.heap/\s'.os=s₁.os/\AllBare s'.gens) s₁:=by
  intro H hO hS hok hA hK
  have base_of:∀{b:Addr} {o:Obj},s₁.heap.get? b=some o->H b=none->(Zj s₁.heap H).get? b=some o:=fun e n=>jZ e n
  have noA:∀{b:Addr} {o:Obj} {es:Array DictEntry} {ep:Nat},s₁.heap.get? b=some o->o.data = .dict es ep->H b=none:=fun {b o es ep} e d=>by
   cases q:H b with
   |none=>rfl
   |some u =>
    have e':b=a:=hA b (by rw[q];simp)
    subst e'
    rw[ha]at e;cases e
    have d':Data.seq vs.toArray _=Data.dict es ep:=d
    cases d'
  have nsK:∀{b:Addr} {m:Str->Option Value},s₁.heap.Ns b m->(Zj s₁.heap H).Ns b m:=fun {b m} ⟨o,es,ep,e,d,r⟩=>⟨o,es,ep,base_of e (noA e d),d,r⟩
  have hKb : K.In (Zj s₁.heap H) := fun b o e => base_of (KX b o e) (by
   cases q:H b with
   |none=>rfl
   |some u =>
    have e':b=a:=hA b (by rw[q];simp)
    subst e'
    rw[hK (by rw[q];simp)]at e;cases e)
  have hM:Mod K mg (Zj s₁.heap H):=⟨hKb,nsK hns,⟨mb,nsK hb,hbb⟩,let ⟨mc,h1,h2⟩:=hlim;⟨mc,nsK h1,h2⟩⟩
  have e0:lO P w K mg (Zj s₁.heap H) callerA [] s₁ H:=⟨rfl,hM,fun b o e=>kL e,Nat.le_of_eq (gk _ _),trivial,fun b hb=>absurd (show b∈([]:List Addr) from hb) (by simp),hok,.of_eq hg⟩
  refine codeAny_mono ((F _ hKb (nsK hns)).run callerA [] s₁ H ⟨[.ref a],[]⟩ [.ref a] [.ref a] _ _ hr e0 (hbind s₁ (.ref a)) (.cons rfl .nil) (hsp H hO hS)) fun r s' h=>?_
  cases r with
  |error e=>exact(hCX H e s' h).elim
  |ok fl =>
   cases fl with
   |next=>exact False.elim h
   |brk=>exact False.elim h
   |cont=>exact False.elim h
   |ret u =>
    obtain⟨v,H',os,bare,un,hok',r',q⟩:=h
    have q':v = .bl true:=q
    subst q'
    obtain rfl:u=Value.bool true:=r'
    refine⟨rfl,OldK.of_keep fun b o e=>?_,os,bare⟩
    cases q:H b with
    |none=>exact un.keep b o e q (by intro z;exact absurd (show b∈([]:List Addr) from z) (by simp)) (by simp)
    |some u =>
     rcases hO b with z|⟨ob,xs,z⟩
     ·rw[q]at z;cases z
     ·have z2:=un.frzs b ob _ z
      obtain⟨e1,_⟩:=hok b _ z
      obtain⟨e2,_⟩:=hok' b _ z2
      rw[e]at e1;cases e1
      exact e2
 cases hk:K.lookup a with
 |some o =>
  -- the script is one of the module's own objects
  have e:=KX a o hk
  rw[ha]at e
  cases e
  refine core (fun _=>none) (fun _=>.inl rfl) (.inr ⟨_,vs.toArray,_,hk,rfl,rfl,rfl,by rw[List.size_toArray,lenV];exact hl,by simpa using rv⟩) (fun b u z=>by have z':(none:Option HO)=some u:=z;cases z') (fun b z=>absurd rfl z) fun z=>absurd rfl z
 |none =>
  refine core (fun b=>if b=a then some (.frz { cls:=.type "list",data:=.seq vs.toArray } (.lst (ns.map V.int))) else none) (fun b=>?_) (.inl (.inr ⟨{ cls:=.type "list",data:=.seq vs.toArray },if_pos rfl⟩)) (fun b u z=>?_) (fun b z=>?_) fun _=>hk
  ·by_cases hb:b=a
   ·exact .inr ⟨_,_,if_pos hb⟩
   ·exact .inl (if_neg hb)
  ·by_cases hb:b=a
   ·have z':=(if_pos hb).symm.trans z
    cases z'
    subst hb
    exact⟨ha,by rw[List.length_map];exact hl,vs,_,rv,ha⟩
   ·have z':=(if_neg hb).symm.trans z
    cases z'
  ·by_cases hb:b=a
   ·exact hb
   ·exact absurd (if_neg hb) z
end L2
namespace L2
open PySem PySem.Spec PyProof.Rows
theorem walk_of{l:PySem.W.OpenLaw}{n k:Nat}{q:Program}{loose:List Str}{XP:(Str->Option Value)->Heap->Prop}{YP:World->Heap->Prop}{d:DefRec}{K:Params->PySem.W.Frag}{CX:World->CXT}{sp:World->Sp}{x:Str}
  (hn:l.most=some n) (hn2:n<=sizeLine) (hdf:d.params.defaults=[]) (hr:Room k callerA)
  (hY:∀(w:World) (h:Heap),YP w h->(K w.params).In h)
  (F : ∀ (w : World) (mg : Str -> Option Value) (fa : Addr) (h : Heap), (K w.params).In h -> h.Ns mainGlobals mg -> mg d.name = some (.ref fa) ->
   ∃fd:FuncData,(∀(s:Shared) (u:Value),BindsTo s fd ⟨[u],[]⟩ [(x,u)]) /\
    ∀base:Heap,(K w.params).In base->base.Ns mainGlobals mg->FnOk l.prog w (K w.params) mg base (CX w) k fa fd [x] (sp w))
  (hsp:∀(w:World) (H:Hp) (a:Addr) (ns:List Int),ns.length<=n->nZ H->SqL (K w.params) H a (ns.map V.int)->sp w [.ref a] H (fun v _=>v = .bl true) fun _ _ _=>False)
  (hCX:∀(w:World) (H:Hp) (s:Shared) (e:Value) (s':Shared),CX w [] H s (fun _ _ _=>False) e s'->False) :
  PySem.W.WalkO q loose XP YP l.row.toRowW d [] (fun f vs=>PySem.call f vs):=by
 refine Att.attach_call hn hdf fun w s₀ s₁ mg mb fa o pm cd doc a vs ns G Y ho hd hcd hmg hobj hints hlen hg=>?_
 have KX:=hY w _ Y
 obtain⟨fd,hb,hF⟩:=F w mg fa _ KX G.T.g hmg
 exact jL KX G.T.g G.T.b G.T.builtins G.T.nolimit hg hobj hints (Nat.le_trans hlen hn2) hr hF hb (fun H hO hS=>hsp w H a ns hlen hO hS) fun H e s'=>hCX w H s₁ e s'
end L2
namespace L2
open PySem PySem.Spec PyProof.Rows
def Ai(s:Stmt):Arguments:=match s with
 |.FunctionDef _ a _ _ _ _ _ _ _ _=>a
 |_=>{ posonlyargs:=[],args:=[],vararg:=none,kwonlyargs:=[],kw_defaults:=[],kwarg:=none,defaults:=[] }
def Ah(s:Stmt):List Stmt:=match s with
 |.FunctionDef _ _ b _ _ _ _ _ _ _=>b
 |_=>[]
def AA(s:Stmt):Scope:=match s with
 |.FunctionDef _ _ _ _ _ _ sc _ _ _=>sc
 |_=>{ kind:=.function,names:=[],isGenerator:=false,isCoroutine:=false }
abbrev CX0:CXT:=fun _ _ _ _ _ _=>False
abbrev E0:XK:=fun _ _ _=>False
theorem iq{X:Cx}:aA CX0 X E0:=fun _ _ _ _ _ _ _ h=>h.elim
structure Fun(K:PySem.W.Frag)(x qual:Str)(st:Stmt)(f:Addr)(fd:FuncData):Prop where
 ex:∃(oc:Value) (od:Option Addr) (kV doc pm:Value) (an:Option Addr) (cdv ct:Value) (osl:Array (Option Value)),
  fd=PySem.W.fnOf x qual (Ai st) (Ah st) (AA st) .none kV doc pm an cdv ct/\K.lookup f=some ⟨oc,od,.func fd,osl⟩/\PySem.W.codeIn K cdv qual=true
 kp:PySem.W.keepIn K (.ref f)=true
section
variable {P:Program} {w:World} {K:PySem.W.Frag} {mg:Str->Option Value} {base:Heap}
theorem Fun.ok{x qual:Str}{st:Stmt}{f:Addr}{fd:FuncData}{N ps:List Str}{k:Nat}{sp:Sp}(F:Fun K x qual st f fd)(S:Aj N ps (AA st))(len:∀vs H Q E,sp vs H Q E->vs.length=ps.length)
  (hbody : ∀ (cdv : Value) (A : Around) (outer : List Env) (s : Shared) (H : Hp) (vs : List V) (Q : VK) (E : XK), Room k (A.deeper (envOfC qual (AA st) s.heap.objs.size f cdv)) -> sp vs H Q E ->
   ∃t,PSs (hC CX0 P w K mg base N qual (AA st) f cdv A outer s H E).nox (Ah st) t/\t { nx:=fun _ H'=>Q .non H',rt:=Q } (start N vs) H):FnOk P w K mg base CX0 (k+1) f fd ps sp:=by
 obtain⟨oc,od,kV,doc,pm,an,cdv,ct,osl,rfl,lk,hcd⟩:=F.ex
 refine pB lk hcd S len fun A outer s H vs Q E hr hsp=>?_
 obtain⟨t,h,q⟩:=hbody cdv A outer s H vs Q E hr hsp
 exact⟨t,h.nox,q⟩
theorem Fun.binds{x qual:Str}{st:Stmt}{f:Addr}{fd:FuncData}{ps:List Str}(F:Fun K x qual st f fd)
  (h:∀(kV doc pm:Value) (an:Option Addr) (cdv ct:Value) (us:List Value),us.length=ps.length->bindArgs (PySem.W.fnOf x qual (Ai st) (Ah st) (AA st) .none kV doc pm an cdv ct) ⟨us,[]⟩=pure (ps.zip us)):Binds K fd ps []:=by
 obtain⟨oc,od,kV,doc,pm,an,cdv,ct,osl,rfl,lk,hcd⟩:=F.ex
 exact .all (h kV doc pm an cdv ct)
theorem A1{x qual:Str}{st:Stmt}{f:Addr}{oc:Value}{od an:Option Addr}{osl:Array (Option Value)}{kV doc pm cdv ct:Value}(l:K.lookup f=some ⟨oc,od,.func (PySem.W.fnOf x qual (Ai st) (Ah st) (AA st) .none kV doc pm an cdv ct),osl⟩)
  (c:PySem.W.codeIn K cdv qual=true) (k:PySem.W.keepIn K (.ref f)=true):Fun K x qual st f (PySem.W.fnOf x qual (Ai st) (Ah st) (AA st) .none kV doc pm an cdv ct):=⟨⟨oc,od,kV,doc,pm,an,cdv,ct,osl,rfl,l,c⟩,k⟩
end
section
variable {X:Cx}
theorem pv(i:Nat){x:Str}{pos:Pos}(hN:X.N[i]?=some x:=by rfl)(hv:Vis X.env.scope x:=by first|exact Or.inl rfl|exact Or.inr (Or.inl rfl)|exact Or.inr (Or.inr rfl))(hd:(x==("__debug__":Str))=false:=by decide)
  (hcd:(x==("__classdict__":Str))=false:=by decide):PE X (.Name x pos) (Ub i):=mz hN hv hd hcd
end
def Same(H H':Hp):Prop:=∀b o,H b=some o->H' b=some o
theorem Same.trans{H H1 H2:Hp}(a:Same H H1)(b:Same H1 H2):Same H H2:=fun c o h=>b c o (a c o h)
theorem Same.seq{K:PySem.W.Frag}{H H':Hp}{a:Addr}{xs:List V}(e:Same H H')(h:SqL K H a xs):SqL K H' a xs:=by
 rcases h with (h|⟨o,h⟩)|h
 ·exact .inl (.inl (e _ _ h))
 ·exact .inl (.inr ⟨o,e _ _ h⟩)
 ·exact .inr h
end L2
end
section
namespace L2
open PySem PySem.Spec PyProof.Rows
def Bd(n:Nat)(x:Int):Prop:=x.natAbs<2 ^ n
theorem Bd.mono{m n:Nat}{x:Int}(h:Bd m x)(k:m<=n):Bd n x:=Nat.lt_of_lt_of_le h (Nat.pow_le_pow_right (by decide) k)
theorem Bd.bits{n:Nat}{x:Int}(h:Bd n x):Builtin.Int.intBits x<=n+1:=by
 unfold Builtin.Int.intBits
 split
 ·exact Nat.zero_le _
 ·have:x.natAbs.log2<=n:=by
   rcases Nat.eq_zero_or_pos x.natAbs with h0|hp
   ·rw[h0];simp
   ·exact Nat.le_of_lt ((Nat.log2_lt (Nat.ne_of_gt hp)).mpr h)
  omega
theorem Bd.log{n:Nat}{x:Int}(h:Bd n x):x.natAbs.log2<=n:=by
 rcases Nat.eq_zero_or_pos x.natAbs with h0|hp
 ·rw[h0];simp
 ·exact Nat.le_of_lt ((Nat.log2_lt (Nat.ne_of_gt hp)).mpr h)
theorem Bd.of{n:Nat}{x m:Int}(h1:-m<=x)(h2:x<=m)(hm:m.natAbs<2 ^ n):Bd n x:=by
 unfold Bd
 omega
section
variable {X:Cx}
def CMulB(i j:Int):Prop:=CMul i j\/(Bd 8000 i/\Bd 8000 j)
theorem CMulB.ok{i j:Int}(h:CMulB i j):IntMulOk i j:=by
 rcases h with h|⟨h,k⟩
 ·exact h.ok
 ·have a:=h.bits
  have b:=k.bits
  have e:(2:Nat) ^ 20=1048576:=by decide
  exact IntMulOk.of_bits (by omega) (by omega)
theorem Yp:OpR X (binaryOp .Mult) (rI CMulB fun i j=>.int (i*j)):=opI fun _ _ _ _ _ _ _ hc q=>mul_int q hc.ok
def cM(i j:Int):Prop:=0<j/\Bd 8000 j
theorem BM:OpR X (binaryOp .FloorDiv) (rI cM fun i j=>.int (i / j)):=opI fun i j _ _ _ _ _ hc q=>by
 have:=hc.2.log
 rw[<- Int.fdiv_eq_ediv_of_nonneg _ (Int.le_of_lt hc.1)]at q
 exact floordiv_int (by have:=hc.1;omega) q (.inl (PyProof.noPylong_of_log2 (by omega)))
def mU(i j:Int):Prop:=j≠0/\Bd 8000 j
end
mutual
def Is(H:Hp):PyData->V->Prop
 |.none,v=>v = .non
 |.bool b,v=>v = .bl b
 |.int i,v=>v = .int i
 |.str x,v=>v = .str x
 |.tuple ds,v=>∃a vs,v = .ref a/\H a=some (.tup vs)/\IsL H ds vs
 |.list ds,v=>∃a vs,v = .ref a/\H a=some (.lst vs)/\IsL H ds vs
 |.dict _,_=>False
def IsL(H:Hp):List PyData->List V->Prop
 |[],vs=>vs=[]
 |d::ds,vs=>∃x xs,vs=x::xs/\Is H d x/\IsL H ds xs
end
mutual
def Ib:PyData->Bool
 |.none=>true
 |.bool _=>true
 |.int _=>true
 |.str _=>true
 |.tuple ds=>fixDs ds
 |.list _=>false
 |.dict _=>false
def fixDs:List PyData->Bool
 |[]=>true
 |d::ds=>Ib d&&fixDs ds
end
section
variable {X:Cx} {pins:List (Addr×Obj)} {σ:St} {H:Hp} {s:Shared}
end
def okD(d:PyData):Bool:=SeqAt.shaped d
section
variable {X:Cx}
theorem Nm{es:List PyData}(h:okD (.list es)=true):PyData.canLayAll0 es=true/\PyData.depthAll es<=63:=by
 unfold okD SeqAt.shaped at h
 rw[Bool.and_eq_true]at h
 obtain⟨h1,h2⟩:=h
 have h3:=of_decide_eq_true h2
 simp only[PyData.depth]at h3
 exact⟨by simpa only[PyData.canLay0] using h1,by omega⟩
theorem KP{d:PyData}(h:okD d=true):d.canLay0=true:=by
 unfold okD SeqAt.shaped at h
 rw[Bool.and_eq_true]at h
 exact h.1
end
structure Cal(P:Program)(w:World)(K:PySem.W.Frag)(mg:Str->Option Value)(base:Heap)(k:Nat)(x:Str)(ps:List Str)(sp:Sp):Prop where
 ex:∃f fd,FnOk P w K mg base CX0 k f fd ps sp/\Binds K fd ps []/\PySem.W.keepIn K (.ref f)=true/\mg x=some (.ref f)
theorem Cal.mono{P:Program}{w:World}{K:PySem.W.Frag}{mg:Str->Option Value}{base:Heap}{j k:Nat}{x:Str}{ps:List Str}{sp:Sp}(C:Cal P w K mg base j x ps sp)(h:j<=k):Cal P w K mg base k x ps sp:=by
 obtain⟨f,fd,F,b,kp,m⟩:=C.ex
 exact⟨f,fd,F.mono h,b,kp,m⟩
theorem Cal.of{P:Program}{w:World}{K:PySem.W.Frag}{mg:Str->Option Value}{base:Heap}{k:Nat}{x:Str}{ps:List Str}{sp:Sp}{f:Addr}{fd:FuncData}{st:Stmt}(F:Fun K x x st f fd)(ok:FnOk P w K mg base CX0 k f fd ps sp)(b:Binds K fd ps [])(m:mg x=some (.ref f)):Cal P w K mg base k x ps sp:=⟨f,fd,ok,b,F.kp,m⟩
section
variable {X:Cx} {k:Nat} {ps:List Str} {sp:Sp} {x:Str} {p pos:Pos} {e:Expr} {es:List Expr} {t:TA}
theorem AO(C:Cal X.prog X.w X.K X.mg X.base k x ps sp)(hr:Room k X.A)(hg:Gl X x)(ha:PA X (e::es) t)(hdb:(x==("__debug__":Str))=false:=by decide)
  (he:starEach (e::es) X.env=(false,eval e X.env)::starEach es X.env:=by rfl) (hpl:(backTo pos (starEach es X.env)).any (·.1)=false:=by rfl) :
  PE X (.Call (.Name x p) (e::es) [] pos) (Uc sp [] E0 t):=by
 obtain⟨f,fd,F,b,kp,m⟩:=C.ex
 exact kD F hr hg m kp b .nil iq ha hdb he hpl
end
theorem Ls{X:Cx}{x:Str}{T:String}{pos:Pos}(hg:Gl X x)(hm:X.mg x=none)(hv:bootBuiltins x=some (.type T))(hn:x≠"__name__")(hd:(x==("__debug__":Str))=false):PE X (.Name x pos) (tC (.ty T)):=kE hg hm hv rfl hn hd
theorem FI{H:Hp}{p:Addr}(h:H p=none)(o:HO):Same H (upd H p o):=fun b u q=>by rw[Dr (Cw q h)];exact q
theorem jO{K:PySem.W.Frag}(T:String):PySem.W.kitOne K (.type T) (.type T)=some true:=by
 unfold PySem.W.kitOne
 rw[if_pos (beq_self_eq_true _)]
theorem nA{K:PySem.W.Frag}{t T:String}{b:Bool}(h1:(Value.type t==Value.type T)=false)(h2:PySem.W.kitMeta T=true)(h3:(PySem.fastBuiltinMro t).map (·.contains (Value.type T))=some b):PySem.W.kitOne K (.type t) (.type T)=some b:=by
 unfold PySem.W.kitOne PySem.W.kitCls
 rw[h1,if_neg Bool.false_ne_true]
 simp only[h2,if_true]
 exact h3
end L2
end
section
namespace L2
open PySem PySem.Spec PyProof.Rows
theorem Z3{env:Env}:∀(names:List (Str×NameKind)) (cs:List (Str×Addr)),(∀x,(x,NameKind.free)∈names->∃c,env.cells.lookup x=some c) ->
  (∀x c,cs.lookup x=some c->env.cells.lookup x=some c) ->
  ∃ cl, (forIn names cs fun (x : Str × NameKind) (r : List (Str × Addr)) => match x with
   |(name,kind)=>if (kind==NameKind.free)=true then do let c <- cellOf env name;pure (ForInStep.yield ((name,c)::r)) else pure (ForInStep.yield r):Sem (List (Str×Addr)))=pure cl /\
   (∀x c,cl.lookup x=some c->env.cells.lookup x=some c)/\(∀x,(x,NameKind.free)∈names->∃c,cl.lookup x=some c)/\(∀x c,cs.lookup x=some c->∃c',cl.lookup x=some c')
 |[],cs,_,h2=>⟨cs,rfl,h2,fun x hx=>by simp at hx,fun x c e=>⟨c,e⟩⟩
 |(n,k)::r,cs,h1,h2=>by
  by_cases hk:k = .free
  ·subst hk
   obtain⟨c,hc⟩:=h1 n List.mem_cons_self
   have hh:∀x c',((n,c)::cs).lookup x=some c'->env.cells.lookup x=some c':=by
    intro x c' e
    rw[List.lookup_cons]at e
    cases q:x==n with
    |true=>rw[q]at e;cases e;rw[eq_of_beq q];exact hc
    |false=>rw[q]at e;exact h2 x c' e
   obtain⟨cl,e,a,b,d⟩:=Z3 (env:=env) r ((n,c)::cs) (fun x hx=>h1 x (List.mem_cons_of_mem _ hx)) hh
   refine⟨cl,?_,a,fun x hx=>?_,fun x c' e'=>?_⟩
   ·rw[List.forIn_cons]
    have ec:cellOf env n=pure c:=by
     unfold cellOf
     rw[hc]
    simp only[beq_self_eq_true,if_true]
    rw[ec]
    exact e
   ·rcases List.mem_cons.mp hx with z|z
    ·cases z
     exact d n c (by rw[List.lookup_cons,beq_self_eq_true])
    ·exact b x z
   ·cases q:x==n with
    |true=>exact d x c (by rw[List.lookup_cons,q])
    |false=>exact d x c' (by rw[List.lookup_cons,q];exact e')
  ·obtain⟨cl,e,a,b,d⟩:=Z3 (env:=env) r cs (fun x hx=>h1 x (List.mem_cons_of_mem _ hx)) h2
   refine⟨cl,?_,a,fun x hx=>?_,d⟩
   ·rw[List.forIn_cons]
    have hb:(k==NameKind.free)=false:=by simpa using hk
    simp only[hb,Bool.false_eq_true,if_false]
    exact e
   ·rcases List.mem_cons.mp hx with z|z
    ·cases z;exact absurd rfl hk
    ·exact b x z
theorem fZ{env:Env}{scope:Scope}(h:∀x,(x,NameKind.free)∈scope.names->∃c,env.cells.lookup x=some c) :
  ∃cl,closureFor scope env=pure cl/\(∀x c,cl.lookup x=some c->env.cells.lookup x=some c)/\(∀x,(x,NameKind.free)∈scope.names->∃c,cl.lookup x=some c):=by
 obtain⟨cl,e,a,b,_⟩:=Z3 (env:=env) scope.names [] h (fun x c e=>by simp at e)
 refine⟨cl,?_,a,b⟩
 exact(congrArg (fun m:Sem (List (Str×Addr))=>m >>= fun r=>(pure r:Sem (List (Str×Addr)))) e).trans rfl
theorem hE{prog:Program}{w:World}{A:Around}{R:Result->Shared->Prop}{s:Shared}{elt target iter:Expr}{ifs:List Expr}{scope:Scope}{pos:Pos}{it acc:Value}{env:Env}(I:Nat->Shared->Prop)
  (turn : ∀ n s, I n s -> wpAny (model prog w) A (pyNext it) (fun r s₁ => match r with
   |none=>R (.ok .next) s₁
   | some v => wpAny (model prog w) A (letOwnedTupleGo target it v) (fun _ s₁ => wpAny (model prog w) A (assign target env v) (fun _ s₂ =>
     wpAny (model prog w) A (forIn ifs true fun c r => if r = true then do let ok <- isTrue c env (eval c env); pure (ForInStep.yield ok) else pure (ForInStep.yield r)) (fun ok s₃ =>
      if ok = true then wpAny (model prog w) A (eval elt env) (fun x s₄ =>
       wpAny (model prog w) A (call (.builtin "list.append") [acc,x]) (fun _ s₅=>∃m,m<n/\I m s₅) (fun _ _=>False) s₄) (fun _ _=>False) s₃
      else ∃m,m<n/\I m s₃) (fun _ _=>False) s₂) (fun _ _=>False) s₁) (fun _ _=>False) s₁) (fun _ _=>False) s)
  (n:Nat) (h:I n s) :
  codeAny (model prog w) A (.compLoop (.ListComp elt [⟨target,iter,ifs,0⟩] scope pos) 0 it acc env) R s:=by
 refine codeAny_loop rfl I (fun n s hI=>?_) n h
 show wpAny _ A ((compTurn (.ListComp elt [⟨target,iter,ifs,0⟩] scope pos) 0 it acc env).onRaise (fun x=>do noteFrame x env;theTreesLotGoes x)) _ _ s
 refine wpAny_noted ?_
 rw[compTurn_list]
 refine wpAny_bind (wpAny_standAt (wpAny_bind (wpAny_mono (turn n s hI) (fun r s₁ h₁=>?_) fun _ _ h'=>h'.elim)))
 cases r with
 |none=>exact wpAny_pure h₁
 |some v =>
  refine wpAny_bind (wpAny_mono h₁ (fun _ s₁ h₁=>?_) fun _ _ h'=>h'.elim)
  refine wpAny_bind (wpAny_mono h₁ (fun _ s₂ h₂=>wpAny_bind (wpAny_mono h₂ (fun ok s₃ h₃=>?_) fun _ _ h'=>h'.elim)) fun _ _ h'=>h'.elim)
  cases ok with
  |false=>exact wpAny_pure ⟨rfl,h₃⟩
  |true =>
   exact wpAny_bind (wpAny_bind (wpAny_mono h₃ (fun x s₄ h₄=>wpAny_bind (wpAny_mono h₄ (fun _ s₅ h₅=>wpAny_pure (wpAny_pure ⟨rfl,h₅⟩)) fun _ _ h'=>h'.elim)) fun _ _ h'=>h'.elim))
theorem P0{env:Env}:∀{names:List (Str×NameKind)} {x:Str} {k:NameKind},names.lookup x=some k ->
  (names.map fun(n,k)=>if (k==NameKind.free&&env.scope.kind==.function&&env.kindOf n==some .cell) then (n,NameKind.cell) else (n,k)).lookup x=some k \/
  (k = .free/\(names.map fun(n,k)=>if (k==NameKind.free&&env.scope.kind==.function&&env.kindOf n==some .cell) then (n,NameKind.cell) else (n,k)).lookup x=some .cell)
 |[],_,_,h=>by simp at h
 |(n,k')::r,x,k,h=>by
  rw[List.map_cons]
  dsimp only
  cases hx:x==n with
  |true =>
   simp only[List.lookup_cons,hx]at h
   have e:k=k':=(Option.some.inj h).symm
   subst e
   by_cases hc:(k==NameKind.free&&env.scope.kind==.function&&env.kindOf n==some .cell)=true
   ·rw[if_pos hc]
    refine .inr ⟨?_,by simp only[List.lookup_cons,hx]⟩
    simp only[Bool.and_eq_true]at hc
    exact eq_of_beq hc.1.1
   ·rw[if_neg hc]
    exact .inl (by simp only[List.lookup_cons,hx])
  |false =>
   simp only[List.lookup_cons,hx]at h
   have ih:=@P0 env r x k h
   by_cases hc:(k'==NameKind.free&&env.scope.kind==.function&&env.kindOf n==some .cell)=true
   ·rw[if_pos hc];simp only[List.lookup_cons,hx];exact ih
   ·rw[if_neg hc];simp only[List.lookup_cons,hx];exact ih
theorem MQ{env:Env}:∀{names:List (Str×NameKind)} {x:Str} {k:NameKind},(∀y∈names,y.2≠.cell) ->
  (names.map fun(n,k)=>if (k==NameKind.free&&env.scope.kind==.function&&env.kindOf n==some .cell) then (n,NameKind.cell) else (n,k)).lookup x=some k->(k = .cell\/k = .free)->(x,NameKind.free)∈names
 |[],_,_,_,h,_=>by simp at h
 |(n,k')::r,x,k,nc,h,hk=>by
  rw[List.map_cons]at h
  dsimp only at h
  cases hx:x==n with
  |true =>
   have e:=eq_of_beq hx
   subst e
   by_cases hc:(k'==NameKind.free&&env.scope.kind==.function&&env.kindOf x==some .cell)=true
   ·simp only[Bool.and_eq_true]at hc
    rw[eq_of_beq hc.1.1]
    exact List.mem_cons_self
   ·rw[if_neg hc,List.lookup_cons,hx]at h
    cases h
    rcases hk with rfl|rfl
    ·exact absurd rfl (nc _ List.mem_cons_self)
    ·exact List.mem_cons_self
  |false =>
   refine List.mem_cons_of_mem _ (MQ (env:=env) (fun y hy=>nc y (List.mem_cons_of_mem _ hy)) ?_ hk)
   by_cases hc:(k'==NameKind.free&&env.scope.kind==.function&&env.kindOf n==some .cell)=true
   ·rw[if_pos hc,List.lookup_cons,hx]at h;exact h
   ·rw[if_neg hc,List.lookup_cons,hx]at h;exact h
theorem DV{scope:Scope}{env:Env}{x:Str}(h:scope.names.lookup x=some .local):(relabel scope env).names.lookup x=some .local:=lookup_relabel_local h
theorem Gu{scope:Scope}{env:Env}{x:Str}(h:scope.names.lookup x=some .globalImplicit):(relabel scope env).names.lookup x=some .globalImplicit:=by
 rcases P0 (env:=env) h with z|⟨z,_⟩
 ·exact z
 ·cases z
theorem Yo{scope:Scope}{env:Env}{x:Str}(h:scope.names.lookup x=some .free):(relabel scope env).names.lookup x=some .cell\/(relabel scope env).names.lookup x=some .free:=by
 rcases P0 (env:=env) h with z|⟨_,z⟩
 ·exact .inr z
 ·exact .inl z
theorem Bz{scope:Scope}{env:Env}{x:Str}(h:scope.names.lookup x=some .local):Vis (relabel scope env) x:=.inl (DV h)
theorem Eo{scope:Scope}{env:Env}{x:Str}(h:scope.names.lookup x=some .free):Vis (relabel scope env) x:=(Yo h).elim (fun z=>.inr (.inl z)) fun z=>.inr (.inr z)
theorem DR{scope:Scope}{env:Env}{x:Str}(h:scope.names.lookup x=some .local):Loc (relabel scope env) x:=.inl (DV h)
def blk(own:Nat)(fr:List Nat)(σ:St):St:=List.replicate own none++fr.map fun j=>(σ[j]?).join
def cxC(X:Cx)(N':List Str)(scope:Scope)(cl:List (Str×Addr))(fp:List Addr)(s3:Shared)(H3:Hp):Cx:={ X with
 N:=N',s₀:=s3,H₀:=H3,env:=compEnvC scope cl s3.heap.objs.size X.env,outer:=X.stack,stack:=X.stack,ex:=fp,fn:=fun _=>false,pn:=[],xe:=fun _ _=>False }
structure iB(X:Cx)(N':List Str)(own:Nat)(fr:List Nat)(scope:Scope):Prop where
 kind:scope.kind = .function
 len:N'.length=own+fr.length
 cell:∀y∈scope.names,y.2≠.cell
 names:∀y∈scope.names,y.2 = .local->scope.names.lookup y.1=some .local
 free:∀x,(x,NameKind.free)∈scope.names->X.env.scope.names.lookup x=some .cell\/X.env.scope.names.lookup x=some .free
 slot:∀k j,fr[k]?=some j->∃x,N'[own+k]?=some x/\X.N[j]?=some x/\scope.names.lookup x=some .free
theorem lK{own:Nat}{fr:List Nat}{σ:St}{i:Nat}{v:V}(h:(blk own fr σ)[i]?=some (some v)):∃k j,i=own+k/\fr[k]?=some j/\σ[j]?=some (some v):=by
 unfold blk at h
 by_cases hi:i<own
 ·rw[List.getElem?_append_left (by simpa using hi),List.getElem?_replicate,if_pos hi]at h
  cases h
 ·rw[List.getElem?_append_right (by simpa using hi),List.length_replicate,List.getElem?_map]at h
  cases e:fr[i-own]? with
  |none=>rw[e]at h;cases h
  |some j =>
   rw[e]at h
   simp only[Option.map_some,Option.some.injEq]at h
   refine⟨i-own,j,by omega,e,?_⟩
   cases q:σ[j]? with
   |none=>rw[q]at h;cases h
   |some o=>rw[q]at h;cases o with
    |none=>cases h
    |some u=>cases h;rfl
section
variable {X:Cx} {N':List Str} {own:Nat} {fr:List Nat} {scope:Scope}
theorem ki{pins:List (Addr×Obj)}{σ:St}{H3:Hp}{s3:Shared}{cl:List (Str×Addr)}{fp:List Addr}{h4:Heap}{tk:Nat}(ok:iB X N' own fr scope)(I:Inv X pins σ H3 s3)(f2:∀b∈fp,Sf X pins H3 b)(flt:∀b∈fp,b<s3.heap.objs.size)
  (cl1:∀x c,cl.lookup x=some c->X.env.cells.lookup x=some c) (cl2:∀x,(x,NameKind.free)∈scope.names->∃c,cl.lookup x=some c)
  (m4:Str->Option Value) (n4:h4.Ns s3.heap.objs.size m4) (k4:∀b o,s3.heap.get? b=some o->h4.get? b=some o) :
  Inv (cxC X N' scope cl fp s3 H3) [] (blk own fr σ) H3 { s3 with heap:=h4,toks:=tk }:=by
 have stk:∀b,b∈frs X.stack->b∈X.env.locals::X.fs:=I.stkSub
 have exfs:∀b∈fp,b∉frs X.stack:=fun b hb z=>by
  rcases List.mem_cons.mp (stk b z)with e|e
  ·exact(f2 b hb).2.1 e
  ·exact(f2 b hb).2.2.1 e
 have okk:(cxC X N' scope cl fp s3 H3).Ok:=by
  refine ⟨I.ok.mod, ok.kind, I.ok.glob, I.ok.blt, Nat.le_refl _, fun x y c e1 e2 => I.ok.inj x y c (cl1 x c e1) (cl1 y c e2), fun x hx => ?_, fun x c hf => ?_, I.ok.hd, I.ok.frames, .inl rfl, fun b hb => ⟨Nat.ne_of_lt (flt b hb), fun x c e => (f2 b hb).2.2.2.2.1 x c (cl1 x c e)⟩,
   I.bs,Nat.le_trans I.ok.bsz I.sz,fun b o e hb=>?_,exfs,I.stack,I.stkFree⟩
  ·refine cl2 x ?_
   have hx:(relabel scope X.env).names.lookup x=some .cell\/(relabel scope X.env).names.lookup x=some .free:=hx
   rcases hx with hx|hx
   ·exact MQ (env:=X.env) ok.cell hx (.inl rfl)
   ·exact MQ (env:=X.env) ok.cell hx (.inr rfl)
  ·exact absurd (show false=true from hf) Bool.false_ne_true
  ·rcases(f2 b hb).2.2.2.1 with z|z
   ·exact I.ok.noex b o e z
   ·exact absurd (Nat.lt_of_lt_of_le (Heap.lt_size e) (Nat.le_trans I.ok.bsz z)) (Nat.lt_irrefl _)
 refine⟨okk,rfl,I.bare,Un.kept k4,⟨m4,n4,fun i x v e1 e2 e3=>?_⟩,fun x c e=>?_,I.hok.fresh (Nat.le_refl _),fun x c e=>I.freeC x c (cl1 x c e),fun p hp=>absurd (show p∈([]:List (Addr×Obj)) from hp) (by simp),I.hok.kept k4,?_⟩
 ·obtain⟨k,j,rfl,ej,es⟩:=lK e2
  obtain⟨y,y1,y2,y0⟩:=ok.slot k j ej
  have y3:=PySem.mem_of_lookup y0
  rw[show(cxC X N' scope cl fp s3 H3).N=N' from rfl,y1]at e1
  cases e1
  obtain⟨m,hn,hl⟩:=I.loc
  have vis:Vis X.env.scope x:=(ok.free x y3).elim (fun z=>.inr (.inl z)) fun z=>.inr (.inr z)
  obtain⟨u,r,l⟩:=hl j x v y2 es vis
  refine⟨u,r,?_⟩
  rcases l with ⟨l,_⟩|⟨_,c,ec,z⟩
  ·exfalso
   have l':X.env.scope.names.lookup x=some .local:=l
   rcases ok.free x y3 with q|q
   ·rw[q]at l';cases l'
   ·rw[q]at l';cases l'
  ·obtain⟨c',ec'⟩:=cl2 x y3
   have:=cl1 x c' ec'
   rw[ec]at this
   cases this
   obtain⟨o,ho,hd⟩:=z
   refine .inr ⟨?_,c,ec',⟨o,k4 c o ho,hd⟩⟩
   rcases e3 with z|z|z
   ·exfalso
    have z':(relabel scope X.env).names.lookup x=some .local:=z
    rcases Yo (env:=X.env) y0 with q|q
    ·rw[z']at q;cases q
    ·rw[z']at q;cases q
   ·exact .inl z
   ·exact .inr z
 ·obtain⟨v,o,ho,hd⟩:=I.cell x c (cl1 x c e)
  exact⟨v,o,k4 c o ho,hd⟩
 ·show(blk own fr σ).length=N'.length
  unfold blk
  rw[List.length_append,List.length_replicate,List.length_map,ok.len]
end
end L2
end
section
namespace L2
open PySem PySem.Spec PyProof.Rows
def PTs(X:Cx)(ifs:List Expr)(tc:TT):Prop :=
 ∀(pins:List (Addr×Obj)) (s:Shared) (σ:St) (H:Hp) (Q:Bool->Hp->Prop),Inv X pins σ H s->tc σ H Q->wpAny (model X.prog X.w) X.A (forIn ifs true fun c r=>if r=true then do let ok <- isTrue c X.env (eval c X.env);pure (ForInStep.yield ok) else pure (ForInStep.yield r)) (TP X pins σ Q) X.xe s
def nr:TT:=fun _ H Q=>Q true H
theorem Ju{X:Cx}:PTs X [] nr:=fun pins s σ H Q I h=>wpAny_tests_nil ⟨H,I,h⟩
theorem MT{X:Cx}{c:Expr}{tc:TT}(h:PT X c tc):PTs X [c] tc:=fun pins s σ H Q I hq=>wpAny_tests_one (h pins s σ H Q I hq)
def oX(own:Nat)(fr:List Nat)(g:TG)(tc:TT)(te:TE)(J:It)(σ:St)(H1:Hp)(Q:VK):Prop:=∀D,H1 D=none->∃W:Nat->Nat->List V->St->Hp->Prop,(∃m,W 0 m [] (blk own fr σ) (upd H1 D (.lst [])))/\∀i m ys σ' H',W i m ys σ' H' ->
 (J.stop i H' /\ Q (.ref D) H') \/ (J.go i H' /\ ∀ x H2, J.yld i H' x H2 -> g x σ' H2 fun σ3 H3 => tc σ3 H3 fun b H4 => if b = true then te σ3 H4 fun y H5 => H5 D = some (.lst ys) /\ ys.length < sizeLine /\ ∃ m', m' < m /\ W (i + 1) m' (ys ++ [y]) σ3 (upd H5 D (.lst (ys ++ [y])))
  else ∃m',m'<m/\W (i+1) m' ys σ3 H4)
def tLC(own:Nat)(fr:List Nat)(wi:TI)(g:TG)(tc:TT)(te:TE):TE:=fun σ H Q=>wi σ H fun J H1=>oX own fr g tc te J σ H1 Q
structure Own(X:Cx)(pins:List (Addr×Obj))(C:Addr)(H:Hp)(s:Shared):Prop where
 ns:∃m,s.heap.Ns C m
 hn:H C=none
 ne:C≠X.env.locals
 ab:X.s₀.heap.objs.size<=C
 nc:∀x c,X.env.cells.lookup x=some c->c≠C
 np:∀p∈X.pn++pins,p.1≠C
section
variable {X:Cx} {N':List Str} {own:Nat} {fr:List Nat} {scope:Scope} {elt tg iter:Expr} {ifs:List Expr} {pos:Pos}
theorem Own.go{pins:List (Addr×Obj)}{σ:St}{H:Hp}{s:Shared}{C:Addr}{h':Heap}(O:Own X pins C H s)(I:Inv X pins σ H s)(sb:Heap.SameBut C s.heap h'):Inv X pins σ H { s with heap:=h' } :=
 I.turned (t':=s.toks) (fun b o hb e=>sb.extBut b o hb e) O.hn O.ne (.inr O.ab) O.nc O.np
theorem cD{pins:List (Addr×Obj)}{σ:St}{H2:Hp}{s2:Shared}{J:It}{fp:List Addr}{it:Addr}{tn:Nat->Heap->Prop}{cl:List (Str×Addr)}{Q:VK}{g:TG}{tc:TT}{te:TE}{RR:Value->Addr->Result->Shared->Prop}{E:Value->Shared->Prop}
  (hc:X.calm=true) (ok:iB X N' own fr scope) (I2:Inv X pins σ H2 s2) (T:cK X.prog X.w X.K tg J fp it tn) (st2:tn 0 s2.heap) (f2:∀b∈fp,Sf X pins H2 b)
  (cl1:∀x c,cl.lookup x=some c->X.env.cells.lookup x=some c) (cl2:∀x,(x,NameKind.free)∈scope.names->∃c,cl.lookup x=some c)
  (hg:∀fp s3 H3,PG (cxC X N' scope cl fp s3 H3) tg g) (ht:∀fp s3 H3,PTs (cxC X N' scope cl fp s3 H3) ifs tc) (he:∀fp s3 H3,PE (cxC X N' scope cl fp s3 H3) elt te)
  (h:oX own fr g tc te J σ H2 Q)
  (fin:∀D C s' H',Inv X pins σ H' s'->Own X pins C H' s'->Q (.ref D) H'->RR (.ref D) C (.ok .next) s') :
  wpAny (model X.prog X.w) X.A (newList []) (fun acc s₃ => wpAny (model X.prog X.w) X.A (newFunctionEnv scope X.env.globals cl [] X.env.qual none .none (some X.env)) (fun cenv s₄ =>
   codeAny (model X.prog X.w) X.A (.compStart (.ListComp elt [⟨tg,iter,ifs,0⟩] scope pos) 0 (.ref it) acc { cenv with scope:=relabel scope X.env }) (RR acc cenv.locals) s₄) E s₃) E s2:=by
 obtain⟨W,⟨m0,w0⟩,turn⟩:=h s2.heap.objs.size (I2.hok.fresh (Nat.le_refl _))
 refine wpAny_newObj_type (wpAny_newFunctionEnv ok.cell (by intro y hy;simp at hy) (fun h₁ hns₁ hsb₁=>?_) ok.kind)
 dsimp only at hns₁ hsb₁ ⊢
 have I3:Inv X pins σ (upd H2 s2.heap.objs.size (.lst [])) { s2 with heap:=s2.heap.push { cls:=.type "list",dict:=none,data:=.seq ([]:List Value).toArray } } :=
  I2.laid (t':=s2.toks) (fun b u e=>Heap.get?_push_of_some _ e) (Nat.le_refl _) ⟨Nat.zero_le _,[],0,.nil,Heap.get?_push_size _ rfl⟩
 generalize hH3:upd H2 s2.heap.objs.size (.lst [])=H3 at w0 I3
 generalize hS3:({ s2 with heap:=s2.heap.push { cls:=.type "list",dict:=none,data:=.seq ([]:List Value).toArray } }:Shared)=S3 at I3
 have e3:s2.heap.push { cls:=.type "list",dict:=none,data:=.seq ([]:List Value).toArray }=S3.heap:=by rw[<- hS3]
 have k23:∀b o,s2.heap.get? b=some o->S3.heap.get? b=some o:=fun b o e=>by rw[<- e3];exact Heap.get?_push_of_some _ e
 rw[e3]at hns₁ hsb₁ ⊢
 have st3:tn 0 S3.heap:=T.keep _ _ _ st2 fun b _ o e=>k23 b o e
 have flt:∀b∈fp,b<S3.heap.objs.size:=fun b hb=>by
  obtain⟨o,e,_⟩:=T.obj _ _ st3 b hb
  exact Heap.lt_size e
 have flt2:∀b∈fp,b<s2.heap.objs.size:=fun b hb=>by
  obtain⟨o,e,_⟩:=T.obj _ _ st2 b hb
  exact Heap.lt_size e
 have f3:∀b∈fp,Sf X pins H3 b:=fun b hb=>by
  refine⟨?_,(f2 b hb).2⟩
  rw[<- hH3,Dr (Nat.ne_of_lt (flt2 b hb))]
  exact(f2 b hb).1
 have k34:∀b o,S3.heap.get? b=some o->h₁.get? b=some o:=fun b o e=>hsb₁.extBut b o (Nat.ne_of_lt (Heap.lt_size e)) (Heap.get?_push_of_some _ e)
 have I4:Inv (cxC X N' scope cl fp S3 H3) [] (blk own fr σ) H3 { S3 with heap:=h₁,toks:=s2.toks+([]:List (Str×Value)).length }:=ki ok I3 f3 flt cl1 cl2 _ hns₁ k34
 have st4:tn 0 h₁:=T.keep _ _ _ st3 fun b _ o e=>k34 b o e
 -- back in the def
 have back:∀{σ' H' s'},Inv (cxC X N' scope cl fp S3 H3) [] σ' H' s'->Inv X pins σ H' s'/\Own X pins S3.heap.objs.size H' s':=fun {σ' H' s'} I'=>by
  have J1:Inv X pins σ H' s':=I3.call' I'.os I'.base I'.hok I'.bare fun b hb=>⟨(f3 b hb).2.2.2.1,(f3 b hb).2.1,(f3 b hb).2.2.2.2⟩
  refine⟨J1,⟨let ⟨m,hn,_⟩:=I'.loc;⟨m,hn⟩,I'.free,Nat.ne_of_gt I3.lt,I3.sz,fun x c e z=>?_,fun p hp z=>?_⟩⟩
  ·obtain⟨v,q⟩:=I3.cell x c e
   exact absurd q.lt (by rw[z];exact Nat.lt_irrefl _)
  ·exact absurd (Heap.lt_size (I3.pin p hp).1) (by rw[z];exact Nat.lt_irrefl _)
 have stat:∀{H':Hp},(∀b∈fp,H' b=none)->∀b∈fp,Sf (cxC X N' scope cl fp S3 H3) [] H' b:=fun hn b hb =>
  ⟨hn b hb,(I4.ok.exf b hb).1,I4.ok.exfs b hb,.inl hb,(I4.ok.exf b hb).2,fun p hp=>absurd (show p∈([]:List (Addr×Obj)) from hp) (by simp)⟩
 have loop:codeAny (model X.prog X.w) X.A (.compLoop (.ListComp elt [⟨tg,iter,ifs,0⟩] scope pos) 0 (.ref it) (.ref s2.heap.objs.size) (cxC X N' scope cl fp S3 H3).env) (RR (.ref s2.heap.objs.size) S3.heap.objs.size) { S3 with heap:=h₁,toks:=s2.toks+([]:List (Str×Value)).length }:=by
  refine hE (fun n s'=>∃i ys σ' H',Inv (cxC X N' scope cl fp S3 H3) [] σ' H' s'/\tn i s'.heap/\(∀b∈fp,H' b=none)/\W i n ys σ' H') ?_ m0 ⟨0,[],_,H3,I4,st4,fun b hb=>(f3 b hb).1,w0⟩
  rintro n s5 ⟨i,ys,σ5,H5,I5,st5,fr5,w5⟩
  rcases turn i n ys σ5 H5 w5 with ⟨stop,qn⟩|⟨go,step⟩
  ·refine thn (T.done (cxC X N' scope cl fp S3 H3) rfl rfl rfl hc i [] s5 σ5 H5 (fun _ _=>False) I5 (stat fr5) st5 stop) fun r s6 ⟨hr,I6⟩=>?_
   subst hr
   obtain⟨J1,O⟩:=back I6
   exact fin _ _ s6 H5 J1 O qn
  ·refine thn (T.item (cxC X N' scope cl fp S3 H3) rfl rfl rfl hc i [] s5 σ5 H5 (fun _ _=>False) I5 (stat fr5) st5 go) fun r s6 ⟨u,hr,h6⟩=>?_
   subst hr
   refine thn h6 fun _ s7 ⟨x,H7,I7,r7,y7,st7,fr7⟩=>?_
   have I7':=I7.pinned (stat fr7) (T.obj _ _ st7)
   refine thn (hg fp S3 H3 _ s7 σ5 H7 x u _ I7' r7 (step x H7 y7)) fun _ s8 ⟨σ8,H8,I8,q8⟩=>?_
   refine thn (ht fp S3 H3 _ s8 σ8 H8 _ I8 q8) fun b s9 ⟨H9,I9,q9⟩=>?_
   have again:∀{σ' H' s' m' ys'},m'<n->Inv (cxC X N' scope cl fp S3 H3) ([]++Ug fp s7.heap) σ' H' s'->W (i+1) m' ys' σ' H'->∃m,m<n/\∃i ys σ' H',Inv (cxC X N' scope cl fp S3 H3) [] σ' H' s'/\tn i s'.heap/\(∀b∈fp,H' b=none)/\W i m ys σ' H':=fun {σ' H' s' m' ys'} hm I' w'=>by
    refine⟨m',hm,i+1,ys',σ',H',I'.unpinned,T.keep _ _ _ st7 fun b hb o e=>(I'.pin (b,o) (List.mem_append_right _ (List.mem_append_right _ (MZ hb e)))).1,fun b hb=>?_,w'⟩
    obtain⟨o,e,d⟩:=T.obj _ _ st7 b hb
    exact(I'.pin (b,o) (List.mem_append_right _ (List.mem_append_right _ (MZ hb e)))).2.1
   cases b with
   |false =>
    rw[if_neg Bool.false_ne_true]at q9 ⊢
    obtain⟨m',hm,w9⟩:=q9
    exact again hm I9 w9
   |true =>
    rw[if_pos rfl]at q9 ⊢
    refine thn (he fp S3 H3 _ s9 σ8 H9 _ I9 q9) fun v s10 ⟨y,H10,I10,r10,q10⟩=>?_
    obtain⟨hD,hz,m',hm,w10⟩:=q10
    refine thn (FR (X:=cxC X N' scope cl fp S3 H3) _ s10 σ8 H10 (.ref s2.heap.objs.size) [y] (.ref s2.heap.objs.size) [v] (fun _ H'=>W (i+1) m' (ys++[y]) σ8 H') I10 rfl (.cons r10 .nil) ⟨_,ys,y,rfl,rfl,hD,hz,w10⟩) fun v' s11 ⟨_,H11,I11,_,q11⟩=>?_
    exact again hm I11 q11
 subst hS3
 exact codeAny_compStart_list loop (T.self _ 0 _ _ _ st4 loop)
theorem KQ{wi:TI}{g:TG}{tc:TT}{te:TE}(hc:X.calm=true)(ok:iB X N' own fr scope)(hi:PI X tg iter wi)
  (hg:∀cl fp s3 H3,PG (cxC X N' scope cl fp s3 H3) tg g) (ht:∀cl fp s3 H3,PTs (cxC X N' scope cl fp s3 H3) ifs tc) (he:∀cl fp s3 H3,PE (cxC X N' scope cl fp s3 H3) elt te)
  (hs:∀x,foldedSetIterable iter X.env x=pure x:=by intro _;rfl):PE X (.ListComp elt [⟨tg,iter,ifs,0⟩] scope pos) (tLC own fr wi g tc te):=by
 intro pins s σ H Q I h
 obtain⟨cl,ecl,cl1,cl2⟩:=fZ (env:=X.env) (scope:=scope) fun x hx=>I.ok.has x (ok.free x hx)
 rw[eval_ListComp]
 refine wpAny_comprehension_free (use:=none) rfl hs ecl ok.kind ok.names (thn (hi pins s σ H _ I h) fun v s1 h1=>thn h1 fun itv s2 h2=>?_)
 obtain⟨it,fp,tn,J,H2,rfl,I2,T,st2,f2,h2⟩:=h2
 refine cD (RR:=fun acc C=>compPost (model X.prog X.w) X.A X.xe none (EP X pins σ Q) acc C) hc ok I2 T st2 f2 cl1 cl2 (hg cl) (ht cl) (he cl) h2 ?_
 intro D C s' H' J1 O q
 obtain⟨m,hn⟩:=O.ns
 exact⟨m,hn,fun h'' sb=>⟨.ref D,H',O.go J1 sb,rfl,q⟩⟩
theorem iY{wi:TI}{g:TG}{tc:TT}{te:TE}{i:Nat}{y:Str}{py spos:Pos}(hN:X.N.Nodup)(hiN:X.N[i]?=some y)(hy:X.env.scope.names.lookup y=some .local)(hc:X.calm=true)(ok:iB X N' own fr scope)(hi:PI X tg iter wi)
  (hg:∀cl fp s3 H3,PG (cxC X N' scope cl fp s3 H3) tg g) (ht:∀cl fp s3 H3,PTs (cxC X N' scope cl fp s3 H3) ifs tc) (he:∀cl fp s3 H3,PE (cxC X N' scope cl fp s3 H3) elt te)
  (hsw:swapsWith (.ListComp elt [⟨tg,iter,ifs,0⟩] scope pos) (some (.Name y py)) spos.line X.env=pure true)
  (hs:∀x,foldedSetIterable iter X.env x=pure x:=by intro _;rfl):PS X (.Assign [.Name y py] (.ListComp elt [⟨tg,iter,ifs,0⟩] scope pos) spos) (fun D σ H=>tLC own fr wi g tc te σ H fun v H'=>D.nx (σ.set i (some v)) H'):=by
 intro pins s σ H D I h
 obtain⟨cl,ecl,cl1,cl2⟩:=fZ (env:=X.env) (scope:=scope) fun x hx=>I.ok.has x (ok.free x hx)
 rw[exec_Assign_Name_used _ _ _ _ hsw]
 refine wpAny_bind (wpAny_standAt (wpAny_bind ?_))
 show wpAny _ _ (do let _ <- comprehension (.ListComp elt [⟨tg,iter,ifs,0⟩] scope pos) scope X.env _ (newList []) false (eval iter X.env) (some (assign (.Name y py) X.env))) _ _ s
 refine wpAny_bind (wpAny_mono (wpAny_comprehension_free (use := some (assign (.Name y py) X.env)) (Q := fun _ s' => SP X pins D .next s') rfl hs ecl ok.kind ok.names
  (thn (hi pins s σ H _ I h) fun v s1 h1=>thn h1 fun itv s2 h2=>?_)) (fun _ s' hq=>wpAny_pure (wpAny_pure hq)) fun _ _ e=>e)
 obtain⟨it,fp,tn,J,H2,rfl,I2,T,st2,f2,h2⟩:=h2
 refine cD (RR:=fun acc C=>compPost (model X.prog X.w) X.A X.xe (some (assign (.Name y py) X.env)) (fun _ s'=>SP X pins D .next s') acc C) hc ok I2 T st2 f2 cl1 cl2 (hg cl) (ht cl) (he cl) h2 ?_
 intro D' C s' H' J1 O q
 show wpAny _ _ (assign (.Name y py) X.env (.ref D')) _ _ _
 refine wpAny_assign_Name (Xv J1 hN hiN (.inl hy) (v:=.ref D') rfl (fun s'' J2 sb=>?_) (.inr hy))
 obtain⟨m,hn⟩:=O.ns
 obtain⟨a,sb,ha⟩:=sb
 have nea:C≠a:=by
  rcases ha with ha|ha
  ·rw[ha];exact O.ne
  ·exact fun z=>O.nc y a ha z.symm
 refine⟨m,hn.sameBut sb nea,fun h'' sb'=>?_⟩
 have O2:Own X pins C H' s'':=⟨⟨m,hn.sameBut sb nea⟩,O.hn,O.ne,O.ab,O.nc,O.np⟩
 exact⟨_,H',O2.go J2 sb',q⟩
end
end L2
end
section
namespace DL
open PySem L2 PyProof.Rows
structure KW where
 fr:PySem.W.Frag
 w:World
instance:CoeOut KW PySem.W.Frag:=⟨KW.fr⟩
abbrev QB(X:Cx):KW:=⟨X.K,X.w⟩
def hT(ks:List Int):Int:=reduceHash (Builtin.Tuple.tupleHashOf (ks.map hashInt))
def kC(a:Addr)(ts:List (List Int×Addr×V))(ep:Nat):Heap->Prop:=fun h=>(a==sysModules)=false/\ts.length<=sizeLine/\(ts.map (·.1)).Nodup /\
 ∃xs:List (List Int×Addr×Value),Paired (fun(t:List Int×Addr×V) (x:List Int×Addr×Value)=>t.1=x.1/\t.2.1=x.2.1/\RelV t.2.2 x.2.2) ts xs /\
  ∃(o:Obj) (es:Array DictEntry),h.get? a=some o/\o.ExactDict/\o.data = .dict es ep/\es.toList=xs.map fun x=>⟨hT x.1,.ref x.2.1,x.2.2⟩
def HD(H:Hp)(a:Addr)(ts:List (List Int×Addr×V)):Prop:=∃ep,H a=some (.ext (kC a ts ep))
def txK(ts:List (Str×V)):List (Key×V):=ts.map fun t=>(Sum.inr t.1,t.2)
mutual
def Is(K:KW)(H:Hp):PyData->V->Prop
 |.none,v=>v = .non
 |.bool b,v=>v = .bl b
 |.int i,v=>v = .int i
 |.str x,v=>v = .str x
 |.tuple ds,v=>∃a vs,v = .ref a/\SqT K H a vs/\IsL K H ds vs
 |.list ds,v=>∃a vs,v = .ref a/\H a=some (.lst vs)/\IsL K H ds vs
 |.dict kvs,v=>∃a ts,v = .ref a/\HD H a ts/\IsKV K H kvs ts
def IsL(K:KW)(H:Hp):List PyData->List V->Prop
 |[],vs=>vs=[]
 |d::ds,vs=>∃x xs,vs=x::xs/\Is K H d x/\IsL K H ds xs
def IsKV(K:KW)(H:Hp):List (PyData×PyData)->List (List Int×Addr×V)->Prop
 |[],ts=>ts=[]
 |(k,d)::r,ts=>∃t tr,ts=t::tr/\k = .tuple (t.1.map PyData.int)/\SqT K H t.2.1 (t.1.map V.int)/\Is K H d t.2.2/\IsKV K H r tr
end
theorem Same.tup{K:KW}{H H':Hp}{a:Addr}{xs:List V}(e:Same H H')(h:SqT K H a xs):SqT K H' a xs:=by
 rcases h with (h|⟨o,h⟩)|h
 ·exact .inl (.inl (e _ _ h))
 ·exact .inl (.inr ⟨o,e _ _ h⟩)
 ·exact .inr h
def TSm(H H':Hp):Prop:=∀b o,H b=some o->(∀xs,o≠.lst xs)->(∀φ,o≠.ext φ)->H' b=some o
theorem TSm.tup{K:KW}{H H':Hp}{a:Addr}{xs:List V}(e:TSm H H')(h:SqT K H a xs):SqT K H' a xs:=by
 rcases h with (h|⟨o,h⟩)|h
 ·exact .inl (.inl (e _ _ h (fun _ z=>by cases z) fun _ z=>by cases z))
 ·exact .inl (.inr ⟨o,e _ _ h (fun _ z=>by cases z) fun _ z=>by cases z⟩)
 ·exact .inr h
section
variable {K:KW}
mutual
theorem Is.mono{H H':Hp}(s:Same H H'):∀{d:PyData} {v:V},Is K H d v->Is K H' d v
 |.none,_,h=>h
 |.bool _,_,h=>h
 |.int _,_,h=>h
 |.str _,_,h=>h
 |.tuple _,_,⟨a,vs,e,h,l⟩=>⟨a,vs,e,Same.tup s h,IsL.mono s l⟩
 |.list _,_,⟨a,vs,e,h,l⟩=>⟨a,vs,e,s _ _ h,IsL.mono s l⟩
 |.dict _,_,⟨a,ts,e,⟨ep,h⟩,l⟩=>⟨a,ts,e,⟨ep,s _ _ h⟩,IsKV.mono s l⟩
theorem IsL.mono{H H':Hp}(s:Same H H'):∀{ds:List PyData} {vs:List V},IsL K H ds vs->IsL K H' ds vs
 |[],_,h=>h
 |_::_,_,⟨x,xs,e,h,l⟩=>⟨x,xs,e,Is.mono s h,IsL.mono s l⟩
theorem IsKV.mono{H H':Hp}(s:Same H H'):∀{kvs:List (PyData×PyData)} {ts:List (List Int×Addr×V)},IsKV K H kvs ts->IsKV K H' kvs ts
 |[],_,h=>h
 |(_,_)::_,_,⟨t,tr,e,ek,hk,h,l⟩=>⟨t,tr,e,ek,Same.tup s hk,Is.mono s h,IsKV.mono s l⟩
end
mutual
theorem Is.monoT{H H':Hp}(s:TSm H H'):∀{d:PyData} {v:V},Ib d=true->Is K H d v->Is K H' d v
 |.none,_,_,h=>h
 |.bool _,_,_,h=>h
 |.int _,_,_,h=>h
 |.str _,_,_,h=>h
 |.tuple _,_,f,⟨a,vs,e,h,l⟩=>⟨a,vs,e,s.tup h,IsL.monoT s f l⟩
 |.list _,_,f,_=>absurd f Bool.false_ne_true
 |.dict _,_,f,_=>absurd f Bool.false_ne_true
theorem IsL.monoT{H H':Hp}(s:TSm H H'):∀{ds:List PyData} {vs:List V},fixDs ds=true->IsL K H ds vs->IsL K H' ds vs
 |[],_,_,h=>h
 |d::ds,_,f,⟨x,xs,e,h,l⟩=>⟨x,xs,e,Is.monoT s (by rw[fixDs,Bool.and_eq_true]at f;exact f.1) h,IsL.monoT s (by rw[fixDs,Bool.and_eq_true]at f;exact f.2) l⟩
end
theorem IsL.length{H:Hp}:∀{ds:List PyData} {vs:List V},IsL K H ds vs->vs.length=ds.length
 |[],_,h=>by rw[show _=[] from h];rfl
 |_::_,_,⟨x,xs,e,_,l⟩=>by rw[e,List.length_cons,List.length_cons,IsL.length l]
theorem IsL.get{H:Hp}:∀{ds:List PyData} {vs:List V} {i:Nat} {d:PyData},IsL K H ds vs->ds[i]?=some d->∃v,vs[i]?=some v/\Is K H d v
 |[],_,_,_,_,e=>by simp at e
 |d::ds,_,0,_,⟨x,xs,e,h,l⟩,q=>by
  subst e
  simp at q
  subst q
  exact⟨x,rfl,h⟩
 |d::ds,_,i+1,_,⟨x,xs,e,h,l⟩,q=>by
  subst e
  obtain⟨v,a,b⟩:=IsL.get (i:=i) l (by simpa using q)
  exact⟨v,by simpa using a,b⟩
end
section
variable {X:Cx} {pins:List (Addr×Obj)} {σ:L2.St} {H:Hp} {s:Shared}
mutual
theorem K7(I:Inv X pins σ H s):∀{d:PyData} {v:V} {u:Value},Is (QB X) H d v->RelV v u->∃as,Reads s.heap u d as
 |.none,_,_,h,r=>by subst h;cases r;exact⟨_,.none⟩
 |.bool _,_,_,h,r=>by subst h;cases r;exact⟨_,.bool _⟩
 |.int _,_,_,h,r=>by subst h;obtain⟨t,rfl⟩:=r;exact⟨_,.int _ _⟩
 |.str _,_,_,h,r=>by subst h;obtain⟨t,rfl⟩:=r;exact⟨_,.str _ _⟩
 |.tuple ds,_,_,⟨a,vs,e,h,l⟩,r=>by
  subst e;cases r
  obtain⟨its,rr,⟨o,e,c,n,q⟩,_⟩:=I.tuple h
  obtain⟨as,z⟩:=readsL I l rr
  exact⟨_,.tuple e c q z⟩
 |.list ds,_,_,⟨a,vs,e,h,l⟩,r=>by
  subst e;cases r
  obtain⟨_,its,n,rr,e⟩:=I.hok a _ h
  obtain⟨as,z⟩:=readsL I l rr
  exact⟨_,.list e rfl rfl z⟩
 |.dict kvs,_,_,⟨a,ts,e,⟨ep,h⟩,l⟩,r=>by
  subst e;cases r
  obtain⟨⟨_,_,_,xs,pr,o,es,ho,he,hd,hes⟩,_,_⟩:=(show ObjOk X.prog X.w H s.heap a (.ext (kC a ts ep)) from I.hok a _ h)
  obtain⟨as,bs,z1,z2⟩:=readsK I l pr
  refine⟨_,.dict ho he.1 hd (as:=as) (bs:=bs) ?_ ?_⟩
  ·rw[hes,List.map_map];exact z1
  ·rw[hes,List.map_map];exact z2
theorem readsL(I:Inv X pins σ H s):∀{ds:List PyData} {vs:List V} {us:List Value},IsL (QB X) H ds vs->Vals vs us->∃as,ReadsAll s.heap us ds as
 |[],_,_,h,r=>by subst h;cases r;exact⟨_,.nil⟩
 |d::ds,_,_,⟨x,xs,e,h,l⟩,r=>by
  subst e
  cases r with
  |cons r1 r2 =>
   obtain⟨as,z⟩:=K7 I h r1
   obtain⟨bs,y⟩:=readsL I l r2
   exact⟨_,.cons z y⟩
theorem readsK(I:Inv X pins σ H s):∀{kvs:List (PyData×PyData)} {ts:List (List Int×Addr×V)} {xs:List (List Int×Addr×Value)},IsKV (QB X) H kvs ts->Paired (fun(t:List Int×Addr×V) (x:List Int×Addr×Value)=>t.1=x.1/\t.2.1=x.2.1/\RelV t.2.2 x.2.2) ts xs ->
  ∃as bs,ReadsAll s.heap (xs.map fun x=>Value.ref x.2.1) (kvs.map (·.1)) as/\ReadsAll s.heap (xs.map fun x=>x.2.2) (kvs.map (·.2)) bs
 |[],_,_,h,r=>by subst h;cases r;exact⟨_,_,.nil,.nil⟩
 |(k,d)::kvs,_,_,⟨t,tr,e,ek,hk,h,l⟩,r=>by
  subst e
  cases r with
  |cons r1 r2 =>
   obtain⟨q1,q2,q3⟩:=r1
   obtain⟨as,bs,z1,z2⟩:=readsK I l r2
   obtain⟨cs,z3⟩:=K7 I h q3
   obtain⟨its,rr,⟨o,e,c,n,q⟩,_⟩:=I.tuple hk
   subst ek
   have hz:∃ds,ReadsAll s.heap its.toArray.toList (t.1.map PyData.int) ds:=by
    clear hk e q
    generalize t.1=ks at rr
    induction ks generalizing its with
    |nil=>cases rr;exact⟨_,.nil⟩
    |cons k ks ih =>
     cases rr with
     |cons a b =>
      obtain⟨ds,y⟩:=ih _ b
      obtain⟨tk,rfl⟩:=a
      exact⟨_,.cons (.int _ _) y⟩
   obtain⟨ds,y⟩:=hz
   rw[q2]at e
   exact⟨_,_,.cons (.tuple e c q y) z1,.cons z3 z2⟩
end
def oN(K:KW):R2:=fun x y H Q=>∃d e,Is K H d x/\Is K H e y/\okD d=true/\okD e=true/\Q (.bl (PyData.eqv d e)) H
def oF(K:KW):R2:=fun x y H Q=>∃d e,Is K H d x/\Is K H e y/\okD d=true/\okD e=true/\Q (.bl (!PyData.eqv d e)) H
theorem CF(hu:X.A.units+64<cLine):OpR X (compareOp .Eq) (oN (QB X)):=by
 intro pins s σ H x y v u Q I rx ry h
 obtain⟨d,e,hd,he,od,oe,q⟩:=h
 obtain⟨as,ra⟩:=K7 I hd rx
 obtain⟨bs,rb⟩:=K7 I he ry
 exact eq_dataH ra rb od oe hu ⟨.bl _,H,I,rfl,q⟩
theorem GI(hu:X.A.units+64<cLine):OpR X (compareOp .NotEq) (oF (QB X)):=by
 intro pins s σ H x y v u Q I rx ry h
 obtain⟨d,e,hd,he,od,oe,q⟩:=h
 obtain⟨as,ra⟩:=K7 I hd rx
 obtain⟨bs,rb⟩:=K7 I he ry
 exact ne_dataH ra rb od oe hu ⟨.bl _,H,I,rfl,q⟩
def my(K:KW)(neg:Bool):R2:=fun x y H Q=>∃d es,Is K H d x/\(Is K H (.list es) y\/Is K H (.tuple es) y)/\okD d=true/\okD (.list es)=true/\Q (.bl (if neg then !(es.any fun y=>PyData.eqv y d) else es.any fun y=>PyData.eqv y d)) H
theorem Nt(hu:X.A.units+65<cLine):OpR X (compareOp .In) (my (QB X) false):=by
 intro pins s σ H x y v u Q I rx ry h
 obtain⟨d,es,hd,he,od,oe,q⟩:=h
 obtain⟨as,ra⟩:=K7 I hd rx
 obtain⟨c1,c2⟩:=Nm oe
 have hm:X.A.units+1+min (PyData.depthAll es) d.depth<cLine:=by omega
 rcases he with he|he
 ·obtain⟨bs,rb⟩:=K7 I he ry
  exact SeqAt.in_list_reads rb ra c1 (KP od) hm ⟨.bl _,H,I,rfl,q⟩
 ·obtain⟨bs,rb⟩:=K7 I he ry
  exact SeqAt.in_tuple_reads rb ra c1 (KP od) hm ⟨.bl _,H,I,rfl,q⟩
theorem Lu(hu:X.A.units+65<cLine):OpR X (compareOp .NotIn) (my (QB X) true):=by
 intro pins s σ H x y v u Q I rx ry h
 obtain⟨d,es,hd,he,od,oe,q⟩:=h
 obtain⟨as,ra⟩:=K7 I hd rx
 obtain⟨c1,c2⟩:=Nm oe
 have hm:X.A.units+1+min (PyData.depthAll es) d.depth<cLine:=by omega
 rcases he with he|he
 ·obtain⟨bs,rb⟩:=K7 I he ry
  exact SeqAt.notIn_list_reads rb ra c1 (KP od) hm ⟨.bl _,H,I,rfl,q⟩
 ·obtain⟨bs,rb⟩:=K7 I he ry
  exact SeqAt.notIn_tuple_reads rb ra c1 (KP od) hm ⟨.bl _,H,I,rfl,q⟩
end
end DL
end
section
namespace DL
open PySem L2
inductive L where
 |d (x:PyData)
 |m (xs:List PyData)
 |c (xs:List PyData)
 |k (kvs:List (List Int×PyData))
 |g (x:PyData)
abbrev DS:=List (Option L)
inductive Ow where
 |l (xs:List PyData)
 |t (kvs:List (List Int×PyData))
def Ow.L:Ow->L
 |.l xs=>.m xs
 |.t kvs=>.k kvs
def XT(kvs:List (List Int×PyData)):List (PyData×PyData):=kvs.map fun p=>(.tuple (p.1.map PyData.int),p.2)
def Ow.D:Ow->PyData
 |.l xs=>.list xs
 |.t kvs=>.dict (XT kvs)
def Ow.fl:Ow->Bool
 |.l _=>true
 |.t _=>false
theorem Ow.not_d{o:Ow}{x:PyData}:o.L≠.d x:=by cases o<;>exact fun z=>nomatch z
theorem Ow.not_g{o:Ow}{x:PyData}:o.L≠.g x:=by cases o<;>exact fun z=>nomatch z
theorem Ow.not_c{o:Ow}{x:List PyData}:o.L≠.c x:=by cases o<;>exact fun z=>nomatch z
theorem Ow.inj{o p:Ow}(h:o.L=p.L):o=p:=by
 cases o<;>cases p<;>cases h<;>rfl
def IsO(K:KW)(H:Hp):Ow->Addr->HO->Prop
 |.l xs,_,h=>∃vs,h = .lst vs/\IsL K H xs vs
 |.t kvs,a,h=>∃ts,(∃ep,h = .ext (kC a ts ep))/\IsKV K H (XT kvs) ts
theorem IsO.mono{K:KW}{H H':Hp}(s:Same H H'):∀{o:Ow} {a:Addr} {h:HO},IsO K H o a h->IsO K H' o a h
 |.l _,_,_,⟨vs,e,l⟩=>⟨vs,e,l.mono s⟩
 |.t _,_,_,⟨ts,e,l⟩=>⟨ts,e,l.mono s⟩
theorem IsO.is{K:KW}{H:Hp}:∀{o:Ow} {a:Addr} {h:HO},IsO K H o a h->H a=some h->Is K H o.D (.ref a)
 |.l _,a,_,⟨vs,e,l⟩,z=>⟨a,vs,rfl,e▸z,l⟩
 |.t _,a,_,⟨ts,⟨ep,e⟩,l⟩,z=>⟨a,ts,rfl,⟨ep,e▸z⟩,l⟩
open Classical in
noncomputable def hid(S:Addr->Prop)(H:Hp):Hp:=fun a=>if S a then none else H a
theorem hid_iff{S:Addr->Prop}{H:Hp}{b:Addr}{o:HO}:hid S H b=some o↔¬S b/\H b=some o:=by
 unfold hid
 by_cases h:S b
 ·rw[if_pos h];exact⟨fun z=>(nomatch z),fun z=>absurd h z.1⟩
 ·rw[if_neg h];exact⟨fun z=>⟨h,z⟩,fun z=>z.2⟩
def Keep(S:Addr->Prop)(H:Hp)(S':Addr->Prop)(H':Hp):Prop:=∀b o,¬S b->H b=some o->¬S' b/\H' b=some o
def Chg(M:Addr->Prop)(H H':Hp):Prop:=∀b o,¬M b->H b=some o->H' b=some o
theorem Keep.same{S S':Addr->Prop}{H H':Hp}(k:Keep S H S' H'):Same (hid S H) (hid S' H'):=fun b o e=>hid_iff.mpr (k b o (hid_iff.mp e).1 (hid_iff.mp e).2)
theorem Keep.refl{S:Addr->Prop}{H:Hp}:Keep S H S H:=fun _ _ h e=>⟨h,e⟩
theorem Keep.trans{S S1 S2:Addr->Prop}{H H1 H2:Hp}(a:Keep S H S1 H1)(b:Keep S1 H1 S2 H2):Keep S H S2 H2:=fun c o h e=>b c o (a c o h e).1 (a c o h e).2
theorem Chg.refl{M:Addr->Prop}{H:Hp}:Chg M H H:=fun _ _ _ e=>e
theorem Chg.trans{M:Addr->Prop}{H H1 H2:Hp}(a:Chg M H H1)(b:Chg M H1 H2):Chg M H H2:=fun c o h e=>b c o h (a c o h e)
theorem Chg.of{M:Addr->Prop}{H H':Hp}(s:Same H H'):Chg M H H':=fun b o _ e=>s b o e
theorem Chg.keep{S M:Addr->Prop}{H H':Hp}(c:Chg M H H')(sub:∀a,M a->S a):Keep S H S H':=fun b o h e=>⟨h,c b o (fun z=>h (sub b z)) e⟩
theorem Same.keep{S:Addr->Prop}{H H':Hp}(s:Same H H'):Keep S H S H':=fun b o h e=>⟨h,s b o e⟩
theorem same_hid{S:Addr->Prop}{H:Hp}:Same (hid S H) H:=fun b o e=>(hid_iff.mp e).2
theorem L3{S S':Addr->Prop}{H:Hp}(h:∀a,S' a->S a):Same (hid S H) (hid S' H):=Keep.same fun b o n e=>⟨fun z=>n (h b z),e⟩
theorem tsS{H H':Hp}(s:Same H H'):TSm H H':=fun b o e _ _=>s b o e
theorem TSm.refl{H:Hp}:TSm H H:=fun _ _ e _ _=>e
mutual
def Dp(K:KW)(S:Addr->Prop)(H:Hp):PyData->V->List Addr->Prop
 |.none,v,F=>v = .non/\F=[]
 |.bool b,v,F=>v = .bl b/\F=[]
 |.int i,v,F=>v = .int i/\F=[]
 |.str x,v,F=>v = .str x/\F=[]
 |.tuple ds,v,F=>∃a vs,v = .ref a/\SqT K (hid S H) a vs/\DpL K S H ds vs F
 |.list ds,v,F=>∃a vs G,v = .ref a/\F=a::G/\H a=some (.lst vs)/\DpL K S H ds vs G
 |.dict _,_,_=>False
def DpL(K:KW)(S:Addr->Prop)(H:Hp):List PyData->List V->List Addr->Prop
 |[],vs,F=>vs=[]/\F=[]
 |d::ds,vs,F=>∃x xs F1 F2,vs=x::xs/\F=F1++F2/\Dp K S H d x F1/\DpL K S H ds xs F2
end
section
variable {K:KW} {S S':Addr->Prop} {H H':Hp}
mutual
theorem Dp.mono(s:TSm (hid S H) (hid S' H')):∀{d:PyData} {v:V} {F:List Addr},(∀a∈F,H' a=H a)->Dp K S H d v F->Dp K S' H' d v F
 |.none,_,_,_,h=>h
 |.bool _,_,_,_,h=>h
 |.int _,_,_,_,h=>h
 |.str _,_,_,_,h=>h
 |.tuple _,_,_,f,⟨a,vs,e,h,l⟩=>⟨a,vs,e,s.tup h,DpL.mono s f l⟩
 |.list _,_,_,f,⟨a,vs,G,e,e2,h,l⟩=>⟨a,vs,G,e,e2,(f a (by rw[e2];exact List.mem_cons_self ..)).trans h,DpL.mono s (fun b hb=>f b (by rw[e2];exact List.mem_cons_of_mem _ hb)) l⟩
theorem DpL.mono(s:TSm (hid S H) (hid S' H')):∀{ds:List PyData} {vs:List V} {F:List Addr},(∀a∈F,H' a=H a)->DpL K S H ds vs F->DpL K S' H' ds vs F
 |[],_,_,_,h=>h
 |_::_,_,_,f,⟨x,xs,F1,F2,e,e2,h,l⟩=>⟨x,xs,F1,F2,e,e2,Dp.mono s (fun b hb=>f b (by rw[e2];exact List.mem_append_left _ hb)) h,DpL.mono s (fun b hb=>f b (by rw[e2];exact List.mem_append_right _ hb)) l⟩
end
end
def IsX(K:KW)(H:Hp):List (PyData×PyData)->List (Str×V)->Prop
 |[],ts=>ts=[]
 |(k,d)::r,ts=>∃t tr,ts=t::tr/\k = .str t.1/\Ib d=true/\Is K H d t.2/\IsX K H r tr
theorem IsX.mono{K:KW}{H H':Hp}(s:TSm H H'):∀{kvs:List (PyData×PyData)} {ts:List (Str×V)},IsX K H kvs ts->IsX K H' kvs ts
 |[],_,h=>h
 |(_,_)::_,_,⟨t,tr,e,ek,f,h,l⟩=>⟨t,tr,e,ek,f,Is.monoT s f h,IsX.mono s l⟩
def DpT(K:KW)(S:Addr->Prop)(H:Hp)(d:PyData)(v:V)(F:List Addr):Prop:=match d with
 |.dict kvs=>∃a ts,v = .ref a/\F=[a]/\H a=some (.dK (txK ts))/\IsX K (hid S H) kvs ts
 |d=>Dp K S H d v F
theorem DpT.mono{K:KW}{S S':Addr->Prop}{H H':Hp}{d:PyData}{v:V}{F:List Addr}(s:TSm (hid S H) (hid S' H'))(f:∀a∈F,H' a=H a)(h:DpT K S H d v F):DpT K S' H' d v F:=by
 cases d with
 |dict kvs =>
  obtain⟨a,ts,e,e2,h,l⟩:=(show ∃a ts,v = .ref a/\F=[a]/\H a=some (.dK (txK ts))/\IsX K (hid S H) kvs ts from h)
  exact⟨a,ts,e,e2,(f a (by rw[e2];exact List.mem_singleton_self a)).trans h,l.mono s⟩
 |_=>exact Dp.mono s f h
def GR(K:KW)(S M:Addr->Prop)(τ:DS)(σ:St)(H:Hp):Prop:=∃φ:Nat->List Addr,∀(i:Nat) (d:PyData),τ[i]?=some (some (.g d)) ->
 (∃v,σ[i]?=some (some v)/\DpT K S H d v (φ i))/\(φ i).Nodup/\(∀a∈φ i,M a)/\(∀(j:Nat) (o:Ow) (a:Addr),τ[j]?=some (some o.L)->σ[j]?=some (some (.ref a))->a∉φ i) /\
  ∀(j:Nat) (d':PyData),j≠i->τ[j]?=some (some (.g d'))->∀a∈φ i,a∉φ j
theorem GR.nil{K:KW}{S M:Addr->Prop}{τ:DS}{σ:St}{H:Hp}(h:∀(i:Nat) (d:PyData),τ[i]?≠some (some (.g d))):GR K S M τ σ H:=⟨fun _=>[],fun i d e=>absurd e (h i d)⟩
theorem GR.to{K:KW}{S M S' M':Addr->Prop}{τ τ':DS}{σ σ':St}{H H':Hp}(g:GR K S M τ σ H)(ht:∀(i:Nat) (d:PyData),τ'[i]?=some (some (.g d))->τ[i]?=some (some (.g d))/\σ'[i]?=σ[i]?)
  (ho:∀(j:Nat) (o:Ow) (a:Addr),τ'[j]?=some (some o.L)->σ'[j]?=some (some (.ref a))->(∃o':Ow,τ[j]?=some (some o'.L)/\σ[j]?=some (some (.ref a)))\/¬M a)
  (hm:∀a,M a->(∀(j:Nat) (o:Ow),τ[j]?=some (some o.L)->σ[j]?≠some (some (.ref a)))->M' a/\H' a=H a) (ts:TSm (hid S H) (hid S' H')):GR K S' M' τ' σ' H':=by
 obtain⟨φ,g⟩:=g
 refine⟨φ,fun i d e=>?_⟩
 obtain⟨e1,e2⟩:=ht i d e
 obtain⟨⟨v,g1,g2⟩,g3,g4,g5,g6⟩:=g i d e1
 have hm':∀a∈φ i,M' a/\H' a=H a:=fun a ha=>hm a (g4 a ha) fun j o q q2=>g5 j o a q q2 ha
 refine⟨⟨v,e2.trans g1,g2.mono ts fun a ha=>(hm' a ha).2⟩,g3,fun a ha=>(hm' a ha).1,fun j o a q1 q2 ha=>?_,fun j d' hj q=>g6 j d' hj (ht j d' q).1⟩
 rcases ho j o a q1 q2 with ⟨o',z1,z2⟩|z
 ·exact g5 j o' a z1 z2 ha
 ·exact z (g4 a ha)
structure R(K:KW)(S M:Addr->Prop)(τ:DS)(σ:St)(H:Hp):Prop where
 len:σ.length=τ.length
 dat:∀(i:Nat) (x:PyData),τ[i]?=some (some (.d x))->∃v,σ[i]?=some (some v)/\Is K (hid S H) x v
 mt:∀(i:Nat) (o:Ow),τ[i]?=some (some o.L)->∃(a:Addr) (h:HO),σ[i]?=some (some (.ref a))/\M a/\H a=some h/\IsO K (hid S H) o a h
 cst:∀(i:Nat) (xs:List PyData),τ[i]?=some (some (.c xs))->∃(a:Addr) (vs:List V),σ[i]?=some (some (.ref a))/\SqL K (hid S H) a vs/\IsL K (hid S H) xs vs
 inj:∀(i j:Nat) (o p:Ow) (a:Addr),τ[i]?=some (some o.L)->τ[j]?=some (some p.L)->σ[i]?=some (some (.ref a))->σ[j]?=some (some (.ref a))->i=j
 sub:∀a,M a->S a
 ex:∀a,S a->∃o,H a=some o
 gr:GR K S M τ σ H
def Res(K:KW)(fr:Bool)(S:Addr->Prop)(H H':Hp)(d:PyData)(v:V):Prop:=match fr with
 |false=>Is K (hid S H') d v
 |true=>∃(o:Ow) (a:Addr) (h:HO),d=o.D/\v = .ref a/\H a=none/\H' a=some h/\IsO K (hid (fun b=>S b\/b=a) H') o a h
section
variable {K:KW} {S M:Addr->Prop} {τ:DS} {σ:St} {H H':Hp}
theorem R.fresh(r:R K S M τ σ H){a:Addr}(h:H a=none):¬S a:=fun z=>by
 obtain⟨o,e⟩:=r.ex a z
 rw[h]at e;cases e
theorem R.ml(r:R K S M τ σ H)(i:Nat)(xs:List PyData)(e:τ[i]?=some (some (.m xs))):∃(a:Addr) (vs:List V),σ[i]?=some (some (.ref a))/\M a/\H a=some (.lst vs)/\IsL K (hid S H) xs vs:=by
 obtain⟨a,h,h1,h2,h3,vs,rfl,l⟩:=r.mt i (.l xs) e
 exact⟨a,vs,h1,h2,h3,l⟩
theorem R.same(r:R K S M τ σ H)(s:Same H H'):R K S M τ σ H' where
 len:=r.len
 dat:=fun i x e=>let ⟨v,a,b⟩:=r.dat i x e;⟨v,a,b.mono (Same.keep s).same⟩
 mt:=fun i o e=>let ⟨a,h,h1,h2,h3,h4⟩:=r.mt i o e;⟨a,h,h1,h2,s _ _ h3,h4.mono (Same.keep s).same⟩
 cst:=fun i xs e=>let ⟨a,vs,h1,h2,h3⟩:=r.cst i xs e;⟨a,vs,h1,(Same.keep s).same.seq h2,h3.mono (Same.keep s).same⟩
 inj:=r.inj
 sub:=r.sub
 ex:=fun a h=>let ⟨o,e⟩:=r.ex a h;⟨o,s _ _ e⟩
 gr:=r.gr.to (fun i d e=>⟨e,rfl⟩) (fun j o a e q=>.inl ⟨o,e,q⟩) (fun a h _=>⟨h,by obtain⟨o,e⟩:=r.ex a (r.sub a h);rw[e];exact s _ _ e⟩) (tsS (Same.keep s).same)
theorem Res.is{fr:Bool}{d:PyData}{v:V}(h:Res K fr S H H' d v)(f:∀a,H a=none->¬S a):Is K (hid S H') d v:=by
 cases fr with
 |false=>exact h
 |true =>
  obtain⟨o,a,ho,rfl,rfl,h1,h2,h3⟩:=h
  exact IsO.is (h3.mono (L3 fun b z=>.inl z)) (hid_iff.mpr ⟨f a h1,h2⟩)
theorem Res.imp{fr:Bool}{d:PyData}{v:V}(h:Res K fr S H H' d v)(f:∀a,H a=none->¬S a)(fr':Bool)(hf:fr'=true->fr=true):Res K fr' S H H' d v:=by
 cases fr' with
 |false=>exact h.is f
 |true=>rw[hf rfl]at h;exact h
end
abbrev DX:=DS->Option (PyData×DS)
abbrev DT:=DS->Option (Bool×DS)
inductive Ar where
 |d (x:PyData)
 |s (i:Nat)
abbrev DA:=DS->Option (List Ar×DS)
inductive Out where
 |nx (τ:DS)
 |bk (τ:DS)
 |ct (τ:DS)
 |rt (d:PyData) (τ:DS)
abbrev DB:=DS->Option Out
def Like(τ τ':DS):Prop:=τ'.length=τ.length/\∀j:Nat,((∀x,τ'[j]?=some (some (.d x))↔τ[j]?=some (some (.d x)))/\∀x,τ'[j]?=some (some (.c x))↔τ[j]?=some (some (.c x)))/\∀b:Bool,(∃o:Ow,o.fl=b/\τ'[j]?=some (some o.L))↔∃o:Ow,o.fl=b/\τ[j]?=some (some o.L)
theorem Like.refl{τ:DS}:Like τ τ:=⟨rfl,fun j=>⟨⟨fun x=>Iff.rfl,fun x=>Iff.rfl⟩,fun b=>Iff.rfl⟩⟩
theorem Like.trans{τ τ1 τ2:DS}(a:Like τ τ1)(b:Like τ1 τ2):Like τ τ2:=⟨b.1.trans a.1,fun j=>⟨⟨fun x=>((b.2 j).1.1 x).trans ((a.2 j).1.1 x),fun x=>((b.2 j).1.2 x).trans ((a.2 j).1.2 x)⟩,fun c=>((b.2 j).2 c).trans ((a.2 j).2 c)⟩⟩
theorem Like.own{τ τ':DS}(a:Like τ τ')(j:Nat):(∃o:Ow,τ'[j]?=some (some o.L))↔∃o:Ow,τ[j]?=some (some o.L) :=
 ⟨fun⟨o,h⟩=>let ⟨p,_,q⟩:=((a.2 j).2 o.fl).mp ⟨o,rfl,h⟩;⟨p,q⟩,fun⟨o,h⟩=>let ⟨p,_,q⟩:=((a.2 j).2 o.fl).mpr ⟨o,rfl,h⟩;⟨p,q⟩⟩
theorem Like.ml{τ τ':DS}(a:Like τ τ'){j:Nat}{xs:List PyData}(h:τ'[j]?=some (some (.m xs))):∃ys,τ[j]?=some (some (.m ys)):=by
 obtain⟨o,e,h⟩:=((a.2 j).2 true).mp ⟨.l xs,rfl,h⟩
 cases o with
 |l ys=>exact⟨ys,h⟩
 |t ys=>cases e
structure E K (t:TE) (fr:Bool) (f:DX):Prop where
 like:∀τ d τ',f τ=some (d,τ')->Like τ τ'
 run:∀S M τ σ H (Q:VK) d τ',R K S M τ σ H->f τ=some (d,τ')->(∀v H',R K S M τ' σ H'->Chg M H H'->Res K fr S H H' d v->Q v H')->t σ H Q
structure T K (t:TT) (f:DT):Prop where
 like:∀τ b τ',f τ=some (b,τ')->Like τ τ'
 run:∀S M τ σ H (Q:Bool->Hp->Prop) b τ',R K S M τ σ H->f τ=some (b,τ')->(∀H',R K S M τ' σ H'->Chg M H H'->Q b H')->t σ H Q
def lP(K:KW)(S:Addr->Prop)(σ:St)(H:Hp):List Ar->List V->Prop
 |[],vs=>vs=[]
 |.d x::rs,vs=>∃v us,vs=v::us/\Is K (hid S H) x v/\lP K S σ H rs us
 |.s i::rs,vs=>∃v us,vs=v::us/\σ[i]?=some (some v)/\lP K S σ H rs us
structure A K (t:TA) (f:DA):Prop where
 like:∀τ rs τ',f τ=some (rs,τ')->Like τ τ'
 run:∀S M τ σ H (Q:List V->Hp->Prop) rs τ',R K S M τ σ H->f τ=some (rs,τ')->(∀vs H',R K S M τ' σ H'->Chg M H H'->lP K S σ H' rs vs->Q vs H')->t σ H Q
structure Frm where
 S:Addr->Prop
 M:Addr->Prop
 H:Hp
 ar:List (Option V)
structure RF(K:KW)(F:Frm)(S M:Addr->Prop)(τ:DS)(σ:St)(H:Hp):Prop where
 r:R K S M τ σ H
 sS:∀a,F.S a->S a
 old:∀b o,F.H b=some o->¬F.M b->H b=some o
 new:∀a,M a->F.M a\/F.H a=none
 fm:∀a,F.M a->M a
 fs:∀a,F.S a->∃o,F.H a=some o
 fsub:∀a,F.M a->F.S a
 snew:∀a,S a->F.S a\/F.H a=none
 par:∀(i:Nat) (v:V),F.ar[i]?=some (some v)->σ[i]?=some (some v)
 pm:∀(i:Nat) (v:V),F.ar[i]?=some (some v)->∃o:Ow,τ[i]?=some (some o.L)
 fma:∀a,F.M a->∃i:Nat,F.ar[i]?=some (some (.ref a))
def Gl(K:KW)(F:Frm)(fr:Bool)(S:Addr->Prop)(H:Hp)(D:cL):Out->Prop
 |.nx τ'=>∀S' M' σ' H',RF K F S' M' τ' σ' H'->Keep S H S' H'->D.nx σ' H'
 |.bk τ'=>∀S' M' σ' H',RF K F S' M' τ' σ' H'->Keep S H S' H'->D.bk σ' H'
 |.ct τ'=>∀S' M' σ' H',RF K F S' M' τ' σ' H'->Keep S H S' H'->D.ct σ' H'
 |.rt d τ'=>∀S' M' σ' H' v,RF K F S' M' τ' σ' H'->Res K fr F.S F.H H' d v->D.rt v H'
def B(K:KW)(np:Nat)(t:TS)(fr:Bool)(f:DB):Prop:=∀(F:Frm) S M τ σ H (D:cL) out,F.ar.length<=np->RF K F S M τ σ H->f τ=some out->Gl K F fr S H D out->t D σ H
end DL
end
section
namespace DL
open PySem L2
variable {K:KW}
section
variable {S M:Addr->Prop} {τ τ':DS} {σ:St} {H H' H2:Hp}
theorem R.none(r:R K S M τ σ H')(c:Chg M H H'){a:Addr}(h:H' a=Option.none):H a=Option.none:=by
 cases e:H a with
 |none=>rfl
 |some o =>
  exfalso
  by_cases hm:M a
  ·obtain⟨o',e'⟩:=r.ex a (r.sub a hm)
   rw[h]at e';cases e'
  ·have:=c a o hm e
   rw[h]at this;cases this
theorem Res.back{fr:Bool}{d:PyData}{v:V}(h:Res K fr S H' H2 d v)(r:R K S M τ σ H')(c:Chg M H H'):Res K fr S H H2 d v:=by
 cases fr with
 |false=>exact h
 |true =>
  obtain⟨xs,a,vs,e1,e2,h1,h2,h3⟩:=h
  exact⟨xs,a,vs,e1,e2,r.none c h1,h2,h3⟩
theorem R.isr(r:R K S M τ σ H){fr:Bool}{d:PyData}{v:V}(h:Res K fr S H H' d v):Is K (hid S H') d v:=h.is fun _ z=>r.fresh z
end
theorem E.weak{t:TE}{fr:Bool}{f:DX}(h:E K t fr f):E K t false f:=⟨h.like,fun S M τ σ H Q d τ' r e q=>h.run S M τ σ H Q d τ' r e fun v H' r' c res=>q v H' r' c (r.isr res)⟩
def AE(i:Nat)(τ:DS):Option (PyData×DS):=match τ[i]? with
 |some (some (.d x))=>some (x,τ)
 |_=>none
theorem AH{i:Nat}:E K (Ub i) false (AE i):=by
 refine⟨fun τ d τ' e=>?_,?_⟩
 ·unfold AE at e;split at e
  ·cases e;exact .refl
  ·cases e
 intro S M τ σ H Q d τ' r e q
 unfold AE at e
 split at e
 ·rename_i x hx
  cases e
  obtain⟨v,h1,h2⟩:=r.dat i _ hx
  exact⟨v,h1,q v H r .refl h2⟩
 ·cases e
def dC(d:PyData)(τ:DS):Option (PyData×DS):=some (d,τ)
theorem e_c{d:PyData}{v:V}(h:∀H,Is K H d v):E K (tC v) false (dC d):=by
 refine⟨fun τ d τ' e=>?_,?_⟩
 ·cases e;exact .refl
 intro S M τ σ H Q d' τ' r e q
 cases e
 exact q v H r .refl (h _)
theorem AQ{i:Int}:E K (tC (.int i)) false (dC (.int i)):=e_c fun _=>rfl
theorem K3{b:Bool}:E K (tC (.bl b)) false (dC (.bool b)):=e_c fun _=>rfl
theorem Bo{x:Str}:E K (tC (.str x)) false (dC (.str x)):=e_c fun _=>rfl
theorem bj:E K (tC .non) false (dC .none):=e_c fun _=>rfl
def OR(K:KW)(fr:Bool)(r:R2)(F:PyData->PyData->Option PyData):Prop:=∀(S:Addr->Prop) H x y dx dy d (Q:VK),(∀a,H a=none->¬S a)->Is K (hid S H) dx x->Is K (hid S H) dy y->F dx dy=some d->(∀v H',Same H H'->Res K fr S H H' d v->Q v H')->r x y H Q
def dOp(F:PyData->PyData->Option PyData)(a b:DX)(τ:DS):Option (PyData×DS):=(a τ).bind fun p=>(b p.2).bind fun q=>(F p.1 q.1).map fun d=>(d,q.2)
theorem AX{fr fa fb:Bool}{r:R2}{F:PyData->PyData->Option PyData}{ta tb:TE}{a b:DX}(h:OR K fr r F)(ha:E K ta fa a)(hb:E K tb fb b):E K (tOp r ta tb) fr (dOp F a b):=by
 refine⟨fun τ d τ' e=>?_,?_⟩
 ·unfold dOp at e;obtain⟨⟨x,τ1⟩,e1,e⟩:=oB e;obtain⟨⟨y,τ2⟩,e2,e⟩:=oB e;obtain⟨z,e3,e⟩:=oM e;cases e;exact(ha.like _ _ _ e1).trans (hb.like _ _ _ e2)
 intro S M τ σ H Q d τ' rr e q
 unfold dOp at e
 obtain⟨⟨x,τ1⟩,e1,e⟩:=oB e
 obtain⟨⟨y,τ2⟩,e2,e⟩:=oB e
 obtain⟨z,e3,e⟩:=oM e
 cases e
 refine ha.run S M τ σ H _ x τ1 rr e1 fun v1 H1 r1 c1 i1=>?_
 refine hb.run S M τ1 σ H1 _ y τ2 r1 e2 fun v2 H2 r2 c2 i2=>?_
 refine h S H2 v1 v2 x y d _ (fun _=>r2.fresh) ((rr.isr i1).mono (c2.keep r1.sub).same) (r1.isr i2) e3 fun v H' s res=>?_
 exact q v H' (r2.same s) ((c1.trans c2).trans (.of s)) (res.back r2 (c1.trans c2))
def UR(K:KW)(fr:Bool)(r:V->Hp->VK->Prop)(F:PyData->Option PyData):Prop:=∀(S:Addr->Prop) H x dx d (Q:VK),(∀a,H a=none->¬S a)->Is K (hid S H) dx x->F dx=some d->(∀v H',Same H H'->Res K fr S H H' d v->Q v H')->r x H Q
def dUn(F:PyData->Option PyData)(a:DX)(τ:DS):Option (PyData×DS):=(a τ).bind fun p=>(F p.1).map fun d=>(d,p.2)
theorem gs{fr fa:Bool}{r:V->Hp->VK->Prop}{F:PyData->Option PyData}{ta:TE}{a:DX}(h:UR K fr r F)(ha:E K ta fa a):E K (tUn r ta) fr (dUn F a):=by
 refine⟨fun τ d τ' e=>?_,?_⟩
 ·unfold dUn at e;obtain⟨⟨x,τ1⟩,e1,e⟩:=oB e;obtain⟨z,e3,e⟩:=oM e;cases e;exact ha.like _ _ _ e1
 intro S M τ σ H Q d τ' rr e q
 unfold dUn at e
 obtain⟨⟨x,τ1⟩,e1,e⟩:=oB e
 obtain⟨z,e3,e⟩:=oM e
 cases e
 refine ha.run S M τ σ H _ x _ rr e1 fun v1 H1 r1 c1 i1=>?_
 refine h S H1 v1 x d _ (fun _=>r1.fresh) (rr.isr i1) e3 fun v H' s res=>?_
 exact q v H' (r1.same s) (c1.trans (.of s)) (res.back r1 c1)
def fI(g:Int->Int->PyData):PyData->PyData->Option PyData
 |.int i,.int j=>some (g i j)
 |_,_=>none
def fC(C:Int->Int->Prop)[∀i j,Decidable (C i j)](g:Int->Int->PyData):PyData->PyData->Option PyData
 |.int i,.int j=>if C i j then some (g i j) else none
 |_,_=>none
theorem ku{g:Int->Int->PyData}{x y d:PyData}(h:fI g x y=some d):∃i j,x = .int i/\y = .int j/\d=g i j:=by
 unfold fI at h
 split at h
 ·exact⟨_,_,rfl,rfl,(Option.some.inj h).symm⟩
 ·cases h
theorem kx{C:Int->Int->Prop}[∀i j,Decidable (C i j)]{g:Int->Int->PyData}{x y d:PyData}(h:fC C g x y=some d):∃i j,x = .int i/\y = .int j/\C i j/\d=g i j:=by
 unfold fC at h
 split at h
 ·split at h
  ·rename_i hc;exact⟨_,_,rfl,rfl,hc,(Option.some.inj h).symm⟩
  ·cases h
 ·cases h
theorem gK{g:Int->Int->V}{g':Int->Int->PyData}(h:∀i j H,Is K H (g' i j) (g i j)):OR K false (rI0 g) (fI g'):=by
 intro S H x y dx dy d Q _ ix iy e q
 obtain⟨i,j,rfl,rfl,rfl⟩:=ku e
 exact⟨i,j,ix,iy,q _ H (fun _ _ e=>e) (h _ _ _)⟩
theorem kF{C:Int->Int->Prop}[∀i j,Decidable (C i j)]{g:Int->Int->V}{g':Int->Int->PyData}(h:∀i j H,Is K H (g' i j) (g i j)):OR K false (rI C g) (fC C g'):=by
 intro S H x y dx dy d Q _ ix iy e q
 obtain⟨i,j,rfl,rfl,c,rfl⟩:=kx e
 exact⟨i,j,ix,iy,c,q _ H (fun _ _ e=>e) (h _ _ _)⟩
instance {i j:Int}:Decidable (CMulB i j):=by unfold CMulB CMul Bd;infer_instance
instance {i j:Int}:Decidable (cM i j):=by unfold cM Bd;infer_instance
instance {i j:Int}:Decidable (jy i j):=by unfold jy;infer_instance
def CM:=fI fun i j=>.int (i+j)
def EI:=fI fun i j=>.int (i-j)
def VV:=fC CMulB fun i j=>.int (i*j)
def CT:=fC cM fun i j=>.int (i / j)
def Bn:=fC (fun _ j=>0<j) fun i j=>.int (i % j)
def je:=fC jy fun i j=>.int (i ^ j.toNat)
def fLt:=fI fun i j=>.bool (decide (i<j))
def fLe:=fI fun i j=>.bool (decide (i<=j))
def fGt:=fI fun i j=>.bool (decide (j<i))
def fGe:=fI fun i j=>.bool (decide (j<=i))
theorem HX:OR K false (rI0 fun i j=>.int (i+j)) CM:=gK fun _ _ _=>rfl
theorem Sv:OR K false (rI0 fun i j=>.int (i-j)) EI:=gK fun _ _ _=>rfl
theorem jE:OR K false (rI CMulB fun i j=>.int (i*j)) VV:=kF fun _ _ _=>rfl
theorem Cm:OR K false (rI cM fun i j=>.int (i / j)) CT:=kF fun _ _ _=>rfl
theorem CN:OR K false (rI (fun _ j=>0<j) fun i j=>.int (i % j)) Bn:=kF fun _ _ _=>rfl
theorem mG:OR K false (rI jy fun i j=>.int (i ^ j.toNat)) je:=kF fun _ _ _=>rfl
theorem oR:OR K false (rI0 fun i j=>.bl (decide (i<j))) fLt:=gK fun _ _ _=>rfl
theorem Y6:OR K false (rI0 fun i j=>.bl (decide (i<=j))) fLe:=gK fun _ _ _=>rfl
theorem gR:OR K false (rI0 fun i j=>.bl (decide (j<i))) fGt:=gK fun _ _ _=>rfl
theorem oU:OR K false (rI0 fun i j=>.bl (decide (j<=i))) fGe:=gK fun _ _ _=>rfl
def O0:PyData->Option PyData
 |.int i=>some (.int (-i))
 |_=>none
theorem Xt:UR K false (rU fun i=>.int (-i)) O0:=by
 intro S H x dx d Q _ ix e q
 unfold O0 at e
 split at e
 ·cases e;exact⟨_,ix,q _ H (fun _ _ e=>e) rfl⟩
 ·cases e
def fEq(x y:PyData):Option PyData:=if okD x&&okD y then some (.bool (PyData.eqv x y)) else none
def fNe(x y:PyData):Option PyData:=if okD x&&okD y then some (.bool (!PyData.eqv x y)) else none
theorem FQ:OR K false (oN K) fEq:=by
 intro S H x y dx dy d Q _ ix iy e q
 unfold fEq at e
 split at e
 ·rename_i h
  rw[Bool.and_eq_true]at h
  cases e
  exact⟨dx,dy,ix.mono same_hid,iy.mono same_hid,h.1,h.2,q _ H (fun _ _ e=>e) rfl⟩
 ·cases e
theorem NF:OR K false (oF K) fNe:=by
 intro S H x y dx dy d Q _ ix iy e q
 unfold fNe at e
 split at e
 ·rename_i h
  rw[Bool.and_eq_true]at h
  cases e
  exact⟨dx,dy,ix.mono same_hid,iy.mono same_hid,h.1,h.2,q _ H (fun _ _ e=>e) rfl⟩
 ·cases e
def fIn(neg:Bool)(x:PyData):PyData->Option PyData
 |.list es=>if okD x&&okD (.list es) then some (.bool (if neg then !(es.any fun y=>PyData.eqv y x) else es.any fun y=>PyData.eqv y x)) else none
 |.tuple es=>if okD x&&okD (.list es) then some (.bool (if neg then !(es.any fun y=>PyData.eqv y x) else es.any fun y=>PyData.eqv y x)) else none
 |_=>none
theorem Rm{neg:Bool}:OR K false (my K neg) (fIn neg):=by
 intro S H x y dx dy d Q _ ix iy e q
 unfold fIn at e
 split at e
 ·split at e
  ·rename_i h
   rw[Bool.and_eq_true]at h
   cases e
   exact⟨dx,_,ix.mono same_hid,.inl (iy.mono same_hid),h.1,h.2,q _ H (fun _ _ e=>e) rfl⟩
  ·cases e
 ·split at e
  ·rename_i h
   rw[Bool.and_eq_true]at h
   cases e
   exact⟨dx,_,ix.mono same_hid,.inr (iy.mono same_hid),h.1,h.2,q _ H (fun _ _ e=>e) rfl⟩
  ·cases e
 ·cases e
def XD:PyData->Bool
 |.none=>true
 |_=>false
def VY(x y:PyData):Option PyData:=match y with
 |.none=>some (.bool (XD x))
 |_=>none
def MB(x y:PyData):Option PyData:=match y with
 |.none=>some (.bool (!XD x))
 |_=>none
theorem jT{H:Hp}{x:PyData}{v:V}(h:Is K H x v):decide (v=V.non)=XD x:=by
 cases x with
 |none=>rw[show v = .non from h];rfl
 |bool b=>rw[show v = .bl b from h];rfl
 |int b=>rw[show v = .int b from h];rfl
 |str b=>rw[show v = .str b from h];rfl
 |list b=>obtain⟨a,vs,rfl,_⟩:=h;rfl
 |tuple b=>obtain⟨a,vs,rfl,_⟩:=h;rfl
 |dict b=>obtain⟨a,ts,rfl,_⟩:=h;rfl
theorem mH:OR K false (fun x y H Q=>y = .non/\Q (.bl (decide (x = .non))) H) VY:=by
 intro S H x y dx dy d Q _ ix iy e q
 unfold VY at e
 split at e
 ·cases e
  refine⟨iy,?_⟩
  rw[jT ix]
  exact q _ H (fun _ _ e=>e) rfl
 ·cases e
theorem jD:OR K false (fun x y H Q=>y = .non/\Q (.bl (!decide (x = .non))) H) MB:=by
 intro S H x y dx dy d Q _ ix iy e q
 unfold MB at e
 split at e
 ·cases e
  refine⟨iy,?_⟩
  rw[jT ix]
  exact q _ H (fun _ _ e=>e) rfl
 ·cases e
def JZ:PyData->PyData->Option PyData
 |.list xs,.int i=>atI xs i
 |_,_=>none
def Ag:PyData->PyData->Option PyData
 |.tuple xs,.int i=>atI xs i
 |_,_=>none
theorem dg{H:Hp}{ds:List PyData}{vs:List V}{i:Int}{d:PyData}(h:IsL K H ds vs)(e:atI ds i=some d):∃v,atI vs i=some v/\Is K H d v:=by
 unfold atI at e ⊢
 rw[h.length]
 cases q:ixN ds.length i with
 |none=>rw[q]at e;cases e
 |some j =>
  rw[q]at e
  exact h.get (show ds[j]?=some d from e)
theorem Uo:OR K false (mx K) JZ:=by
 intro S H x y dx dy d Q _ ix iy e q
 unfold JZ at e
 split at e
 ·obtain⟨a,vs,rfl,h,l⟩:=ix
  obtain⟨v,h1,h2⟩:=dg l e
  exact⟨a,vs,_,v,rfl,iy,SqL.of (hid_iff.mp h).2,h1,q _ H (fun _ _ e=>e) h2⟩
 ·cases e
theorem BF:OR K false (oH K) Ag:=by
 intro S H x y dx dy d Q _ ix iy e q
 unfold Ag at e
 split at e
 ·obtain⟨a,vs,rfl,h,l⟩:=ix
  obtain⟨v,h1,h2⟩:=dg l e
  exact⟨a,vs,_,v,rfl,iy,Same.tup same_hid h,h1,q _ H (fun _ _ e=>e) h2⟩
 ·cases e
def SJ:PyData->PyData->Option PyData
 |.list xs,.list ys=>if xs.length+ys.length<=sizeLine then some (.list (xs++ys)) else none
 |_,_=>none
theorem Mc{H:Hp}:∀{xs ys:List PyData} {vs us:List V},IsL K H xs vs->IsL K H ys us->IsL K H (xs++ys) (vs++us)
 |[],_,_,_,h,k=>by rw[show _=[] from h];exact k
 |_::_,_,_,_,⟨x,xs,e,h,l⟩,k=>by subst e;exact⟨x,_,rfl,h,Mc l k⟩
theorem Qo{S:Addr->Prop}{H:Hp}{xs:List PyData}{vs:List V}{p:Addr}(hp:H p=none)(l:IsL K (hid S H) xs vs):Res K true S H (upd H p (.lst vs)) (.list xs) (.ref p):=by
 refine⟨.l xs,p,_,rfl,rfl,hp,DC,vs,rfl,l.mono (Keep.same fun b o hn e=>?_)⟩
 have:b≠p:=Cw e hp
 exact⟨fun z=>z.elim hn this,by rw[Dr this];exact e⟩
theorem Uq:OR K true oO SJ:=by
 intro S H x y dx dy d Q _ ix iy e q
 unfold SJ at e
 split at e
 ·split at e
  ·rename_i hz
   cases e
   obtain⟨a,vs,rfl,h,l⟩:=ix
   obtain⟨b,us,rfl,h',l'⟩:=iy
   refine⟨a,b,vs,us,rfl,rfl,(hid_iff.mp h).2,(hid_iff.mp h').2,by rw[l.length,l'.length];exact hz,fun p hp=>?_⟩
   exact q _ _ (FI hp _) (Qo hp (Mc l l'))
  ·cases e
 ·cases e
def AW(a:DX)(τ:DS):Option (Bool×DS):=(a τ).bind fun p=>match p.1 with
 |.bool b=>some (b,p.2)
 |_=>none
theorem Au{fr:Bool}{t:TE}{a:DX}(h:E K t fr a):T K (iM t) (AW a):=by
 refine⟨fun τ d τ' e=>?_,?_⟩
 ·unfold AW at e;obtain⟨⟨x,τ1⟩,e1,e⟩:=oB e;dsimp only at e;split at e
  ·cases e;exact h.like _ _ _ e1
  ·cases e
 intro S M τ σ H Q b τ' r e q
 unfold AW at e
 obtain⟨⟨x,τ1⟩,e1,e⟩:=oB e
 dsimp only at e
 split at e
 ·cases e
  refine h.run S M τ σ H _ _ _ r e1 fun v H' r' c i=>?_
  exact⟨b,(show v = .bl b from r.isr i),q H' r' c⟩
 ·cases e
theorem Ft{fr:Bool}{t:TE}{a:DX}(h:E K t fr a):T K (tB t) (AW a):=Au h
def El(a b:DT)(τ:DS):Option (Bool×DS):=(a τ).bind fun p=>if p.1=true then b p.2 else some (false,p.2)
def Hu(a b:DT)(τ:DS):Option (Bool×DS):=(a τ).bind fun p=>if p.1=true then some (true,p.2) else b p.2
def Ck(a:DT)(τ:DS):Option (Bool×DS):=(a τ).map fun p=>(!p.1,p.2)
theorem Ua{ta tb:TT}{a b:DT}(ha:T K ta a)(hb:T K tb b):T K (n9 ta tb) (El a b):=by
 refine⟨fun τ d τ' e=>?_,?_⟩
 ·unfold El at e;obtain⟨⟨c,τ1⟩,e1,e⟩:=oB e;cases c with
  |true=>exact(ha.like _ _ _ e1).trans (hb.like _ _ _ e)
  |false=>cases e;exact ha.like _ _ _ e1
 intro S M τ σ H Q k τ' r e q
 unfold El at e
 obtain⟨⟨c,τ1⟩,e1,e⟩:=oB e
 refine ha.run S M τ σ H _ c τ1 r e1 fun H1 r1 c1=>?_
 cases c with
 |true=>exact hb.run S M τ1 σ H1 _ k τ' r1 e fun H2 r2 c2=>q H2 r2 (c1.trans c2)
 |false=>cases e;exact q H1 r1 c1
theorem Nl{ta tb:TT}{a b:DT}(ha:T K ta a)(hb:T K tb b):T K (tOr ta tb) (Hu a b):=by
 refine⟨fun τ d τ' e=>?_,?_⟩
 ·unfold Hu at e;obtain⟨⟨c,τ1⟩,e1,e⟩:=oB e;cases c with
  |false=>exact(ha.like _ _ _ e1).trans (hb.like _ _ _ e)
  |true=>cases e;exact ha.like _ _ _ e1
 intro S M τ σ H Q k τ' r e q
 unfold Hu at e
 obtain⟨⟨c,τ1⟩,e1,e⟩:=oB e
 refine ha.run S M τ σ H _ c τ1 r e1 fun H1 r1 c1=>?_
 cases c with
 |false=>exact hb.run S M τ1 σ H1 _ k τ' r1 e fun H2 r2 c2=>q H2 r2 (c1.trans c2)
 |true=>cases e;exact q H1 r1 c1
theorem Fc{ta:TT}{a:DT}(ha:T K ta a):T K (ny ta) (Ck a):=by
 refine⟨fun τ d τ' e=>?_,?_⟩
 ·unfold Ck at e;obtain⟨⟨c,τ1⟩,e1,e⟩:=oM e;cases e;exact ha.like _ _ _ e1
 intro S M τ σ H Q k τ' r e q
 unfold Ck at e
 obtain⟨⟨c,τ1⟩,e1,e⟩:=oM e
 cases e
 exact ha.run S M τ σ H _ c _ r e1 fun H1 r1 c1=>q H1 r1 c1
def dIf(c:DT)(a b:DX)(τ:DS):Option (PyData×DS):=(c τ).bind fun p=>if p.1=true then a p.2 else b p.2
theorem pF{fr:Bool}{tc:TT}{ta tb:TE}{c:DT}{a b:DX}(hc:T K tc c)(ha:E K ta fr a)(hb:E K tb fr b):E K (tIf tc ta tb) fr (dIf c a b):=by
 refine⟨fun τ d τ' e=>?_,?_⟩
 ·unfold dIf at e;obtain⟨⟨c,τ1⟩,e1,e⟩:=oB e;cases c with
  |true=>exact(hc.like _ _ _ e1).trans (ha.like _ _ _ e)
  |false=>exact(hc.like _ _ _ e1).trans (hb.like _ _ _ e)
 intro S M τ σ H Q d τ' r e q
 unfold dIf at e
 obtain⟨⟨k,τ1⟩,e1,e⟩:=oB e
 refine hc.run S M τ σ H _ k τ1 r e1 fun H1 r1 c1=>?_
 cases k with
 |true=>exact ha.run S M τ1 σ H1 _ d τ' r1 e fun v H2 r2 c2 i=>q v H2 r2 (c1.trans c2) (i.back r1 c1)
 |false=>exact hb.run S M τ1 σ H1 _ d τ' r1 e fun v H2 r2 c2 i=>q v H2 r2 (c1.trans c2) (i.back r1 c1)
def HL(a b:DX)(τ:DS):Option (PyData×DS):=(AW a τ).bind fun p=>if p.1=true then b p.2 else some (.bool false,p.2)
def dOr(a b:DX)(τ:DS):Option (PyData×DS):=(AW a τ).bind fun p=>if p.1=true then some (.bool true,p.2) else b p.2
def SW(a:DX)(τ:DS):Option (PyData×DS):=(AW a τ).map fun p=>(.bool (!p.1),p.2)
theorem Hc{fa fb:Bool}{ta tb:TE}{a b:DX}(ha:E K ta fa a)(hb:E K tb fb b):E K (lZ ta tb) false (HL a b):=by
 refine⟨fun τ d τ' e=>?_,?_⟩
 ·unfold HL at e;obtain⟨⟨c,τ1⟩,e1,e⟩:=oB e;cases c with
  |true=>exact((Au ha).like _ _ _ e1).trans (hb.like _ _ _ e)
  |false=>cases e;exact(Au ha).like _ _ _ e1
 intro S M τ σ H Q d τ' r e q
 unfold HL at e
 obtain⟨⟨k,τ1⟩,e1,e⟩:=oB e
 refine(Au ha).run S M τ σ H (fun c H1=>if c=true then tb σ H1 Q else Q (.bl false) H1) k τ1 r e1 fun H1 r1 c1=>?_
 cases k with
 |true=>exact hb.weak.run S M τ1 σ H1 _ d τ' r1 e fun v H2 r2 c2 i=>q v H2 r2 (c1.trans c2) i
 |false=>cases e;exact q _ H1 r1 c1 rfl
theorem mP{fa:Bool}{ta:TE}{a:DX}(ha:E K ta fa a):E K (lV ta) false (SW a):=by
 refine⟨fun τ d τ' e=>?_,?_⟩
 ·unfold SW at e;obtain⟨⟨c,τ1⟩,e1,e⟩:=oM e;cases e;exact(Au ha).like _ _ _ e1
 intro S M τ σ H Q d τ' r e q
 unfold SW at e
 obtain⟨⟨k,τ1⟩,e1,e⟩:=oM e
 cases e
 exact(Au ha).run S M τ σ H (fun c H1=>Q (.bl (!c)) H1) k _ r e1 fun H1 r1 c1=>q _ H1 r1 c1 rfl
def Fs(F G:PyData->PyData->Option PyData)(a b c:DX)(τ:DS):Option (PyData×DS):=(a τ).bind fun p=>(b p.2).bind fun q=>(F p.1 q.1).bind fun z=>match z with
 |.bool true=>(c q.2).bind fun s=>(G q.1 s.1).map fun d=>(d,s.2)
 |.bool false=>some (.bool false,q.2)
 |_=>none
theorem UE{fa fb fc:Bool}{r r':R2}{F G:PyData->PyData->Option PyData}{ta tb tc:TE}{a b c:DX}(h:OR K false r F)(h':OR K false r' G)(ha:E K ta fa a)(hb:E K tb fb b)(hc:E K tc fc c):E K (cm r r' ta tb tc) false (Fs F G a b c):=by
 refine⟨fun τ d τ' e=>?_,?_⟩
 ·unfold Fs at e;obtain⟨⟨x,τ1⟩,e1,e⟩:=oB e;obtain⟨⟨y,τ2⟩,e2,e⟩:=oB e;obtain⟨z,e3,e⟩:=oB e;split at e
  ·obtain⟨⟨w,τ4⟩,e4,e⟩:=oB e;obtain⟨z,e5,e⟩:=oM e;cases e;exact((ha.like _ _ _ e1).trans (hb.like _ _ _ e2)).trans (hc.like _ _ _ e4)
  ·cases e;exact(ha.like _ _ _ e1).trans (hb.like _ _ _ e2)
  ·cases e
 intro S M τ σ H Q d τ' rr e q
 unfold Fs at e
 obtain⟨⟨x,τ1⟩,e1,e⟩:=oB e
 obtain⟨⟨y,τ2⟩,e2,e⟩:=oB e
 obtain⟨z,e3,e⟩:=oB e
 refine ha.run S M τ σ H _ x τ1 rr e1 fun v1 H1 r1 c1 i1=>?_
 refine hb.run S M τ1 σ H1 _ y τ2 r1 e2 fun v2 H2 r2 c2 i2=>?_
 have j2:=r1.isr i2
 refine h S H2 v1 v2 x y z _ (fun _=>r2.fresh) ((rr.isr i1).mono (c2.keep r1.sub).same) j2 e3 fun v H3 s res=>?_
 have r3:=r2.same s
 have c3:Chg M H H3:=(c1.trans c2).trans (.of s)
 split at e
 ·obtain⟨⟨w,τ4⟩,e4,e⟩:=oB e
  obtain⟨z,e5,e⟩:=oM e
  cases e
  refine⟨true,res,?_⟩
  refine hc.run S M τ2 σ H3 _ w _ r3 e4 fun v4 H4 r4 c4 i4=>?_
  refine h' S H4 v2 v4 y w d _ (fun _=>r4.fresh) ((j2.mono (Same.keep s).same).mono (c4.keep r3.sub).same) (r3.isr i4) e5 fun v5 H5 s5 res5=>?_
  exact q v5 H5 (r4.same s5) ((c3.trans c4).trans (.of s5)) res5
 ·cases e
  exact⟨false,res,q _ H3 r3 c3 rfl⟩
 ·cases e
end DL
end
section
namespace DL
open PySem L2
variable {K:KW}
def AI(τ:DS):Option (List Ar×DS):=some ([],τ)
def AB(a:DX)(r:DA)(τ:DS):Option (List Ar×DS):=(a τ).bind fun p=>(r p.2).map fun q=>(.d p.1::q.1,q.2)
theorem AS:A K Yl AI:=by
 refine⟨fun τ d τ' e=>?_,?_⟩
 ·cases e;exact .refl
 intro S M τ σ H Q rs τ' r e q
 cases e
 exact q [] H r .refl rfl
theorem AF{fr:Bool}{te:TE}{t:TA}{a:DX}{f:DA}(ha:E K te fr a)(hr:A K t f):A K (Sq te t) (AB a f):=by
 refine⟨fun τ d τ' e=>?_,?_⟩
 ·unfold AB at e
  obtain⟨⟨x,τ1⟩,e1,e⟩:=oB e
  obtain⟨⟨y,τ2⟩,e2,e⟩:=oM e
  cases e
  exact(ha.like _ _ _ e1).trans (hr.like _ _ _ e2)
 intro S M τ σ H Q rs τ' r e q
 unfold AB at e
 obtain⟨⟨x,τ1⟩,e1,e⟩:=oB e
 obtain⟨⟨y,τ2⟩,e2,e⟩:=oM e
 cases e
 refine ha.run S M τ σ H _ x τ1 r e1 fun v H1 r1 c1 i1=>?_
 refine hr.run S M τ1 σ H1 _ y _ r1 e2 fun vs H2 r2 c2 i2=>?_
 exact q (v::vs) H2 r2 (c1.trans c2) ⟨v,vs,rfl,(r.isr i1).mono (c2.keep r1.sub).same,i2⟩
def Dl:List Ar->Option (List PyData)
 |[]=>some []
 |.d x::r=>(Dl r).map (x::·)
 |.s _::_=>none
theorem J9{S:Addr->Prop}{σ:St}{H:Hp}:∀{rs:List Ar} {vs:List V} {ds:List PyData},lP K S σ H rs vs->Dl rs=some ds->IsL K (hid S H) ds vs
 |[],_,_,h,e=>by cases e;exact h
 |.d x::r,_,_,⟨v,us,e1,h,l⟩,e=>by
  obtain⟨ds,e2,e⟩:=oM e
  cases e
  exact⟨v,us,e1,h,J9 l e2⟩
 |.s _::_,_,_,_,e=>by cases e
def BI(a:DA)(τ:DS):Option (PyData×DS):=(a τ).bind fun p=>(Dl p.1).bind fun ds=>if ds.length<=sizeLine then some (.tuple ds,p.2) else none
def Kq(a:DA)(τ:DS):Option (PyData×DS):=(a τ).bind fun p=>(Dl p.1).bind fun ds=>if ds.length<=sizeLine then some (.list ds,p.2) else none
theorem Bq{t:TA}{a:DA}(ha:A K t a):E K (nt t) false (BI a):=by
 refine⟨fun τ d τ' e=>?_,?_⟩
 ·unfold BI at e
  obtain⟨⟨x,τ1⟩,e1,e⟩:=oB e
  obtain⟨ds,e2,e⟩:=oB e
  split at e
  ·cases e;exact ha.like _ _ _ e1
  ·cases e
 intro S M τ σ H Q d τ' r e q
 unfold BI at e
 obtain⟨⟨x,τ1⟩,e1,e⟩:=oB e
 obtain⟨ds,e2,e⟩:=oB e
 split at e
 ·rename_i hz
  cases e
  refine ha.run S M τ σ H _ x _ r e1 fun vs H1 r1 c1 i1=>?_
  have l:=J9 i1 e2
  refine⟨by rw[l.length];exact hz,fun p hp=>?_⟩
  have s:=FI hp (HO.tup vs)
  exact q _ _ (r1.same s) (c1.trans (.of s)) ⟨p,vs,rfl,SqT.of (hid_iff.mpr ⟨r1.fresh hp,DC⟩),l.mono (Same.keep s).same⟩
 ·cases e
theorem Va{t:TA}{a:DA}(ha:A K t a):E K (mq t) true (Kq a):=by
 refine⟨fun τ d τ' e=>?_,?_⟩
 ·unfold Kq at e
  obtain⟨⟨x,τ1⟩,e1,e⟩:=oB e
  obtain⟨ds,e2,e⟩:=oB e
  split at e
  ·cases e;exact ha.like _ _ _ e1
  ·cases e
 intro S M τ σ H Q d τ' r e q
 unfold Kq at e
 obtain⟨⟨x,τ1⟩,e1,e⟩:=oB e
 obtain⟨ds,e2,e⟩:=oB e
 split at e
 ·rename_i hz
  cases e
  refine ha.run S M τ σ H _ x _ r e1 fun vs H1 r1 c1 i1=>?_
  have l:=J9 i1 e2
  refine⟨by rw[l.length];exact hz,fun p hp=>?_⟩
  have s:=FI hp (HO.lst vs)
  exact q _ _ (r1.same s) (c1.trans (.of s)) ((Qo hp l).back r1 c1)
 ·cases e
def BR(K:KW)(fr:Bool)(r:List V->Hp->VK->Prop)(F:List PyData->Option PyData):Prop:=∀(S:Addr->Prop) H vs ds d (Q:VK),(∀a,H a=none->¬S a)->IsL K (hid S H) ds vs->F ds=some d->(∀v H',Same H H'->Res K fr S H H' d v->Q v H')->r vs H Q
def Bh(F:List PyData->Option PyData)(a:DA)(τ:DS):Option (PyData×DS):=(a τ).bind fun p=>(Dl p.1).bind fun ds=>(F ds).map fun d=>(d,p.2)
theorem C8{fr:Bool}{r:List V->Hp->VK->Prop}{F:List PyData->Option PyData}{t:TA}{a:DA}(h:BR K fr r F)(ha:A K t a):E K (tCB r t) fr (Bh F a):=by
 refine⟨fun τ d τ' e=>?_,?_⟩
 ·unfold Bh at e
  obtain⟨⟨x,τ1⟩,e1,e⟩:=oB e
  obtain⟨ds,e2,e⟩:=oB e
  obtain⟨z,e3,e⟩:=oM e
  cases e;exact ha.like _ _ _ e1
 intro S M τ σ H Q d τ' rr e q
 unfold Bh at e
 obtain⟨⟨x,τ1⟩,e1,e⟩:=oB e
 obtain⟨ds,e2,e⟩:=oB e
 obtain⟨z,e3,e⟩:=oM e
 cases e
 refine ha.run S M τ σ H _ x _ rr e1 fun vs H1 r1 c1 i1=>?_
 refine h S H1 vs ds d _ (fun _=>r1.fresh) (J9 i1 e2) e3 fun v H' s res=>?_
 exact q v H' (r1.same s) (c1.trans (.of s)) (res.back r1 c1)
def spD(K:KW)(G:List L->Option (PyData×List L))(fr:Bool):Sp:=fun vs H Q _=>∃(S M:Addr->Prop) (ls:List L) (r:PyData) (ls':List L),R K S M (ls.map some) (vs.map some) H/\G ls=some (r,ls') /\
 ∀v H',R K S M (ls'.map some) (vs.map some) H'->Chg M H H'->Res K fr S H H' r v->Q v H'
theorem iU{S M:Addr->Prop}{τ:DS}{σ:St}{H:Hp}(r:R K S M τ σ H){ds:List PyData}{vs:List V}(l:IsL K (hid S H) ds vs):R K S (fun _=>False) ((ds.map L.d).map some) (vs.map some) H where
 len:=by rw[List.length_map,List.length_map,List.length_map,l.length]
 dat:=fun i x e=>by
  rw[List.getElem?_map,List.getElem?_map]at e
  cases q:ds[i]? with
  |none=>rw[q]at e;cases e
  |some d =>
   rw[q]at e
   cases e
   obtain⟨v,h1,h2⟩:=l.get q
   exact⟨v,by rw[List.getElem?_map,h1];rfl,h2⟩
 mt:=fun i o e=>by
  rw[List.getElem?_map,List.getElem?_map]at e
  cases q:ds[i]? with
  |none=>rw[q]at e;cases e
  |some d=>rw[q]at e;cases o<;>cases e
 cst:=fun i xs e=>by
  rw[List.getElem?_map,List.getElem?_map]at e
  cases q:ds[i]? with
  |none=>rw[q]at e;cases e
  |some d=>rw[q]at e;cases e
 inj:=fun i j o p a e=>by
  rw[List.getElem?_map,List.getElem?_map]at e
  cases q:ds[i]? with
  |none=>rw[q]at e;cases e
  |some d=>rw[q]at e;cases o<;>cases e
 sub:=fun a h=>h.elim
 ex:=r.ex
 gr:=GR.nil fun i d e=>by
  rw[List.getElem?_map,List.getElem?_map]at e
  cases q:ds[i]? with
  |none=>rw[q]at e;cases e
  |some d=>rw[q]at e;cases e
def AU(G:List L->Option (PyData×List L))(a:DA)(τ:DS):Option (PyData×DS):=(a τ).bind fun p=>(Dl p.1).bind fun ds=>(G (ds.map L.d)).map fun q=>(q.1,p.2)
theorem AY{fr:Bool}{G:List L->Option (PyData×List L)}{t:TA}{a:DA}{X:XK}(ha:A K t a):E K (Uc (spD K G fr) [] X t) fr (AU G a):=by
 refine⟨fun τ d τ' e=>?_,?_⟩
 ·unfold AU at e
  obtain⟨⟨x,τ1⟩,e1,e⟩:=oB e
  obtain⟨ds,e2,e⟩:=oB e
  obtain⟨z,e3,e⟩:=oM e
  cases e;exact ha.like _ _ _ e1
 intro S M τ σ H Q d τ' rr e q
 unfold AU at e
 obtain⟨⟨x,τ1⟩,e1,e⟩:=oB e
 obtain⟨ds,e2,e⟩:=oB e
 obtain⟨⟨z,ls'⟩,e3,e⟩:=oM e
 cases e
 refine ha.run S M τ σ H _ x _ rr e1 fun vs H1 r1 c1 i1=>?_
 have l:=J9 i1 e2
 show spD K G fr (vs++[]) H1 Q X
 rw[List.append_nil]
 refine⟨S,fun _=>False,ds.map L.d,_,ls',iU r1 l,e3,fun v H' _ c res=>?_⟩
 have s:Same H1 H':=fun b o e=>c b o (fun z=>z) e
 exact q v H' (r1.same s) (c1.trans (.of s)) (res.back r1 c1)
theorem T9{a b:Ow}(h:some (some a.L)=some (some b.L)):a=b:=Ow.inj (Option.some.inj (Option.some.inj h))
theorem R.setO{S M:Addr->Prop}{τ:DS}{σ:St}{H H':Hp}(r:R K S M τ σ H){i:Nat}{a:Addr}{w w':Ow}{h:HO}(hi:τ[i]?=some (some w.L))(ha:σ[i]?=some (some (.ref a)))
  (c:Chg (fun b=>b=a) H H') (h':H' a=some h) (l:IsO K (hid S H') w' a h):R K S M (τ.set i (some w'.L)) σ H':=by
 have hlt:i<τ.length:=(List.getElem?_eq_some_iff.mp hi).1
 have Sa:S a:=by
  obtain⟨b,us,h1,h2,_⟩:=r.mt i w hi
  rw[ha]at h1;cases h1
  exact r.sub _ h2
 have k:Keep S H S H':=c.keep fun b e=>by subst e;exact Sa
 have ne:∀j,j≠i->(τ.set i (some w'.L))[j]?=τ[j]?:=fun j hj=>List.getElem?_set_ne (Ne.symm hj)
 have se:(τ.set i (some w'.L))[i]?=some (some w'.L):=List.getElem?_set_self hlt
 refine⟨by rw[List.length_set];exact r.len,fun j x e=>?_,fun j ys e=>?_,fun j x e=>?_,fun j1 j2 ys zs b e1 e2 f1 f2=>?_,r.sub,fun b hb=>?_,r.gr.to (fun j d e=>?_) (fun j o b e q=>?_) (fun b hb hn=>⟨hb,?_⟩) (tsS k.same)⟩
 ·by_cases hj:j=i
  ·subst hj;rw[se]at e;exact absurd (Option.some.inj (Option.some.inj e)) Ow.not_d
  ·rw[ne j hj]at e
   obtain⟨v,h1,h2⟩:=r.dat j x e
   exact⟨v,h1,h2.mono k.same⟩
 ·by_cases hj:j=i
  ·subst hj
   rw[se]at e
   obtain rfl:=Ow.inj (Option.some.inj (Option.some.inj e))
   obtain⟨b,us,h1,h2,_⟩:=r.mt j w hi
   rw[ha]at h1;cases h1
   exact⟨a,h,ha,h2,h',l⟩
  ·rw[ne j hj]at e
   obtain⟨b,us,h1,h2,h3,h4⟩:=r.mt j ys e
   refine⟨b,us,h1,h2,c b _ (fun z=>?_) h3,h4.mono k.same⟩
   subst z
   exact hj (r.inj j i ys w b e hi h1 ha)
 ·by_cases hj:j=i
  ·subst hj;rw[se]at e;exact absurd (Option.some.inj (Option.some.inj e)) Ow.not_c
  ·rw[ne j hj]at e
   obtain⟨b,us,h1,h2,h3⟩:=r.cst j x e
   exact⟨b,us,h1,k.same.seq h2,h3.mono k.same⟩
 ·have g:∀(j:Nat) (ys:Ow),(τ.set i (some w'.L))[j]?=some (some ys.L)->∃zs:Ow,τ[j]?=some (some zs.L):=fun j ys e=>by
   by_cases hj:j=i
   ·subst hj;exact⟨_,hi⟩
   ·rw[ne j hj]at e;exact⟨_,e⟩
  obtain⟨_,g1⟩:=g j1 ys e1
  obtain⟨_,g2⟩:=g j2 zs e2
  exact r.inj _ _ _ _ b g1 g2 f1 f2
 ·by_cases e:b=a
  ·subst e;exact⟨_,h'⟩
  ·obtain⟨o,q⟩:=r.ex b hb
   exact⟨o,c b o e q⟩
 ·by_cases hj:j=i
  ·subst hj;rw[se]at e;exact absurd (Option.some.inj (Option.some.inj e)) Ow.not_g
  ·rw[ne j hj]at e;exact⟨e,rfl⟩
 ·by_cases hj:j=i
  ·subst hj;exact .inl ⟨w,hi,q⟩
  ·rw[ne j hj]at e;exact .inl ⟨o,e,q⟩
 ·obtain⟨o,e⟩:=r.ex b (r.sub b hb)
  rw[e];exact c b o (fun z=>hn i w hi (by rw[z];exact ha)) e
theorem R.setM{S M:Addr->Prop}{τ:DS}{σ:St}{H H':Hp}(r:R K S M τ σ H){i:Nat}{a:Addr}{xs xs':List PyData}{vs:List V}(hi:τ[i]?=some (some (.m xs)))(ha:σ[i]?=some (some (.ref a)))
  (c:Chg (fun b=>b=a) H H') (h':H' a=some (.lst vs)) (l:IsL K (hid S H') xs' vs):R K S M (τ.set i (some (.m xs'))) σ H':=r.setO (w:=.l xs) (w':=.l xs') hi ha c h' ⟨vs,rfl,l⟩
theorem gf{τ:DS}{i:Nat}{w w':Ow}(hi:τ[i]?=some (some w.L))(hf:w.fl=w'.fl):Like τ (τ.set i (some w'.L)):=by
 have hlt:i<τ.length:=(List.getElem?_eq_some_iff.mp hi).1
 refine⟨by rw[List.length_set],fun j=>?_⟩
 by_cases hj:j=i
 ·subst hj
  rw[List.getElem?_set_self hlt,hi]
  exact⟨⟨fun x=>⟨fun z=>absurd (Option.some.inj (Option.some.inj z)) Ow.not_d,fun z=>absurd (Option.some.inj (Option.some.inj z)) Ow.not_d⟩,fun x=>⟨fun z=>absurd (Option.some.inj (Option.some.inj z)) Ow.not_c,fun z=>absurd (Option.some.inj (Option.some.inj z)) Ow.not_c⟩⟩,fun b=>⟨fun⟨o,h1,h2⟩=>⟨w,by rw[hf,T9 h2];exact h1,rfl⟩,fun⟨o,h1,h2⟩=>⟨w',by rw[<- hf,T9 h2];exact h1,rfl⟩⟩⟩
 ·rw[List.getElem?_set_ne (Ne.symm hj)]
  exact⟨⟨fun x=>Iff.rfl,fun x=>Iff.rfl⟩,fun b=>Iff.rfl⟩
theorem gg{τ:DS}{i:Nat}{xs xs':List PyData}(hi:τ[i]?=some (some (.m xs))):Like τ (τ.set i (some (.m xs'))):=gf (w:=.l xs) (w':=.l xs') hi rfl
def QZ(i:Nat)(G:List L->Option (PyData×List L))(a:DA)(τ:DS):Option (PyData×DS):=(a τ).bind fun p=>(Dl p.1).bind fun ds=>match p.2[i]? with
 |some (some (.m xs))=>(G (.m xs::ds.map L.d)).bind fun q=>match q.2 with
  |.m xs'::_=>some (q.1,p.2.set i (some (.m xs')))
  |_=>none
 |some (some (.k xs))=>(G (.k xs::ds.map L.d)).bind fun q=>match q.2 with
  |.k xs'::_=>some (q.1,p.2.set i (some (.k xs')))
  |_=>none
 |_=>none
def okM:Option L->Bool
 |some (.m xs)=>fixDs xs
 |some (.k kvs)=>fixDs (kvs.map (·.2))
 |_=>true
theorem IsKV.monoT{H H':Hp}(s:TSm H H'):∀{kvs:List (List Int×PyData)} {ts:List (List Int×Addr×V)},fixDs (kvs.map (·.2))=true->IsKV K H (XT kvs) ts->IsKV K H' (XT kvs) ts
 |[],_,_,h=>h
 |(k,d)::kvs,_,f,⟨t,tr,e,ek,hk,h,l⟩=>by
  rw[List.map_cons,fixDs,Bool.and_eq_true]at f
  exact⟨t,tr,e,ek,s.tup hk,Is.monoT s f.1 h,IsKV.monoT s (kvs:=kvs) f.2 l⟩
theorem IsO.monoT{H H':Hp}(s:TSm H H'):∀{o:Ow} {a:Addr} {h:HO},okM (some o.L)=true->IsO K H o a h->IsO K H' o a h
 |.l _,_,_,f,⟨vs,e,l⟩=>⟨vs,e,l.monoT s f⟩
 |.t _,_,_,f,⟨ts,e,l⟩=>⟨ts,e,IsKV.monoT s f l⟩
def OwH(h:HO):Prop:=(∃vs,h = .lst vs)\/∃φ,h = .ext φ
theorem IsO.ho{H:Hp}:∀{o:Ow} {a:Addr} {h:HO},IsO K H o a h->OwH h
 |.l _,_,_,⟨vs,e,_⟩=>.inl ⟨vs,e⟩
 |.t _,_,_,⟨ts,⟨ep,e⟩,_⟩=>.inr ⟨_,e⟩
def J7(i:Nat)(f:DX)(τ:DS):Option (PyData×DS):=match τ[i]? with
 |some (some (.m xs))=>(f (τ.set i (some (.d (.list xs))))).bind fun q=>if Ib q.1&&q.2.all okM then some (q.1,q.2.set i (some (.m xs))) else none
 |some (some (.k xs))=>(f (τ.set i (some (.d (.dict (XT xs)))))).bind fun q=>if Ib q.1&&q.2.all okM then some (q.1,q.2.set i (some (.k xs))) else none
 |_=>none
theorem YK{i:Nat}{f:DX}{τ:DS}{d:PyData}{τ':DS}(e:J7 i f τ=some (d,τ')):∃w τ1,τ[i]?=some (some (Ow.L w))/\f (τ.set i (some (.d w.D)))=some (d,τ1)/\Ib d=true/\τ1.all okM=true/\τ'=τ1.set i (some w.L):=by
 unfold J7 at e
 split at e
 ·rename_i xs hx
  obtain⟨⟨z,τ1⟩,e1,e⟩:=oB e
  dsimp only at e
  split at e
  ·rename_i h
   rw[Bool.and_eq_true]at h
   cases e
   exact⟨.l xs,τ1,hx,e1,h.1,h.2,rfl⟩
  ·cases e
 ·rename_i xs hx
  obtain⟨⟨z,τ1⟩,e1,e⟩:=oB e
  dsimp only at e
  split at e
  ·rename_i h
   rw[Bool.and_eq_true]at h
   cases e
   exact⟨.t xs,τ1,hx,e1,h.1,h.2,rfl⟩
  ·cases e
 ·cases e
theorem Od{S S':Addr->Prop}{H:Hp}(h:∀a,S' a->S a\/∃o,H a=some o/\OwH o):TSm (hid S H) (hid S' H):=fun b o e nl ne=>by
 obtain⟨e1,e2⟩:=hid_iff.mp e
 refine hid_iff.mpr ⟨fun z=>?_,e2⟩
 rcases h b z with z|⟨o',z,⟨vs,rfl⟩|⟨φ,rfl⟩⟩
 ·exact e1 z
 ·rw[e2]at z;cases z;exact nl _ rfl
 ·rw[e2]at z;cases z;exact ne _ rfl
theorem frz{S M:Addr->Prop}{τ:DS}{σ:St}{H:Hp}(r:R K S M τ σ H){i:Nat}{w:Ow}{p:Addr}(hi:τ[i]?=some (some w.L))(hp:σ[i]?=some (some (.ref p))) :
  R K (fun b=>S b/\b≠p) (fun b=>M b/\b≠p) (τ.set i (some (.d w.D))) σ H:=by
 have hlt:i<τ.length:=(List.getElem?_eq_some_iff.mp hi).1
 have ne:∀j,j≠i->(τ.set i (some (.d w.D)))[j]?=τ[j]?:=fun j hj=>List.getElem?_set_ne (Ne.symm hj)
 have se:(τ.set i (some (.d w.D)))[i]?=some (some (.d w.D)):=List.getElem?_set_self hlt
 have k:Same (hid S H) (hid (fun b=>S b/\b≠p) H):=L3 fun a z=>z.1
 have mn:∀(j:Nat) (ys:Ow),(τ.set i (some (.d w.D)))[j]?=some (some ys.L)->j≠i/\τ[j]?=some (some ys.L):=fun j ys e=>by
  by_cases hj:j=i
  ·subst hj;rw[se]at e;exact absurd (Option.some.inj (Option.some.inj e)).symm Ow.not_d
  ·rw[ne j hj]at e;exact⟨hj,e⟩
 have cs:∀(j:Nat) (ys:List PyData),(τ.set i (some (.d w.D)))[j]?=some (some (.c ys))->τ[j]?=some (some (.c ys)):=fun j ys e=>by
  by_cases hj:j=i
  ·subst hj;rw[se]at e;cases e
  ·rw[ne j hj]at e;exact e
 refine⟨by rw[List.length_set];exact r.len,fun j x e=>?_,fun j ys e=>?_,fun j ys e=>let ⟨a,vs,h1,h2,h3⟩:=r.cst j ys (cs j ys e);⟨a,vs,h1,k.seq h2,h3.mono k⟩,fun j1 j2 ys zs b e1 e2 f1 f2=>?_,fun a h=>⟨r.sub a h.1,h.2⟩,fun a h=>r.ex a h.1,r.gr.to (fun j d e=>?_) (fun j o b e q=>.inl ⟨o,(mn j o e).2,q⟩) (fun b hb hn=>⟨⟨hb,fun z=>hn i w hi (by rw[z];exact hp)⟩,rfl⟩) (tsS k)⟩
 ·by_cases hj:j=i
  ·subst hj
   rw[se]at e
   cases e
   obtain⟨b,us,h1,h2,h3,h4⟩:=r.mt j w hi
   rw[hp]at h1;cases h1
   exact⟨_,hp,IsO.is (h4.mono k) (hid_iff.mpr ⟨fun z=>z.2 rfl,h3⟩)⟩
  ·rw[ne j hj]at e
   obtain⟨v,h1,h2⟩:=r.dat j x e
   exact⟨v,h1,h2.mono k⟩
 ·obtain⟨hj,e⟩:=mn j ys e
  obtain⟨b,us,h1,h2,h3,h4⟩:=r.mt j ys e
  refine⟨b,us,h1,⟨h2,fun z=>?_⟩,h3,h4.mono k⟩
  subst z
  exact hj (r.inj j i ys w b e hi h1 hp)
 ·exact r.inj j1 j2 ys zs b (mn _ _ e1).2 (mn _ _ e2).2 f1 f2
 ·by_cases hj:j=i
  ·subst hj;rw[se]at e;cases e
  ·rw[ne j hj]at e;exact⟨e,rfl⟩
theorem iH{S M:Addr->Prop}{τ τ1:DS}{σ:St}{H H':Hp}(r:R K S M τ σ H){i:Nat}{w:Ow}{p:Addr}(hi:τ[i]?=some (some w.L))(hp:σ[i]?=some (some (.ref p)))
  (r1:R K (fun b=>S b/\b≠p) (fun b=>M b/\b≠p) τ1 σ H') (lk:Like (τ.set i (some (.d w.D))) τ1) (c:Chg (fun b=>M b/\b≠p) H H') (ok:τ1.all okM=true):R K S M (τ1.set i (some w.L)) σ H':=by
 have hlt:i<τ.length:=(List.getElem?_eq_some_iff.mp hi).1
 have hl1:τ1.length=τ.length:=by have:=lk.1;rw[List.length_set]at this;exact this
 have hlt1:i<τ1.length:=by omega
 have ne:∀j,j≠i->(τ1.set i (some w.L))[j]?=τ1[j]?:=fun j hj=>List.getElem?_set_ne (Ne.symm hj)
 have se:(τ1.set i (some w.L))[i]?=some (some w.L):=List.getElem?_set_self hlt1
 have ne0:∀j,j≠i->(τ.set i (some (.d w.D)))[j]?=τ[j]?:=fun j hj=>List.getElem?_set_ne (Ne.symm hj)
 obtain⟨b0,us,hb0,h2,h3,h4⟩:=r.mt i w hi
 rw[hp]at hb0;cases hb0
 have h3':H' p=some us:=c p _ (fun z=>z.2 rfl) h3
 have c':Chg M H H':=fun b o hn e=>c b o (fun z=>hn z.1) e
 have k:Keep S H S H':=c'.keep r.sub
 have ts:TSm (hid (fun b=>S b/\b≠p) H') (hid S H'):=Od fun a z=>by
  by_cases e:a=p
  ·subst e;exact .inr ⟨_,h3',h4.ho⟩
  ·exact .inl ⟨z,e⟩
 have mm:∀(j:Nat) (ys:Ow),j≠i->τ1[j]?=some (some ys.L)->∃zs:Ow,τ[j]?=some (some zs.L):=fun j ys hj e=>by
  obtain⟨zs,q⟩:=(lk.own j).mp ⟨_,e⟩
  rw[ne0 j hj]at q
  exact⟨zs,q⟩
 have cs:∀(j:Nat) (ys:List PyData),(τ1.set i (some w.L))[j]?=some (some (.c ys))->τ[j]?=some (some (.c ys)):=fun j ys e=>by
  by_cases hj:j=i
  ·subst hj;rw[se]at e;exact absurd (Option.some.inj (Option.some.inj e)) Ow.not_c
  ·rw[ne j hj]at e
   have:=((lk.2 j).1.2 ys).mp e
   rw[ne0 j hj]at this
   exact this
 refine⟨by rw[List.length_set];exact r1.len,fun j x e=>?_,fun j ys e=>?_,fun j ys e=>let ⟨a,vs,h1,h2,h3⟩:=r.cst j ys (cs j ys e);⟨a,vs,h1,k.same.seq h2,h3.mono k.same⟩,fun j1 j2 ys zs b e1 e2 f1 f2=>?_,r.sub,fun a h=>?_,r1.gr.to (fun j d e=>?_) (fun j o b e q=>?_) (fun b hb hn=>⟨hb.1,rfl⟩) ts⟩
 ·by_cases hj:j=i
  ·subst hj;rw[se]at e;exact absurd (Option.some.inj (Option.some.inj e)) Ow.not_d
  ·rw[ne j hj]at e
   have:=((lk.2 j).1.1 x).mp e
   rw[ne0 j hj]at this
   obtain⟨v,h5,h6⟩:=r.dat j x this
   exact⟨v,h5,h6.mono k.same⟩
 ·by_cases hj:j=i
  ·subst hj
   rw[se]at e
   obtain rfl:=T9 e
   exact⟨p,us,hp,h2,h3',h4.mono k.same⟩
  ·rw[ne j hj]at e
   obtain⟨b,ws,h5,h6,h7,h8⟩:=r1.mt j ys e
   have fx:okM (some ys.L)=true:=List.all_eq_true.mp ok (some ys.L) (List.mem_of_getElem? e)
   exact⟨b,ws,h5,h6.1,h7,h8.monoT ts fx⟩
 ·have g:∀(j:Nat) (ys:Ow),(τ1.set i (some w.L))[j]?=some (some ys.L)->∃zs:Ow,τ[j]?=some (some zs.L):=fun j ys e=>by
   by_cases hj:j=i
   ·subst hj;exact⟨_,hi⟩
   ·rw[ne j hj]at e;exact mm j ys hj e
  obtain⟨_,g1⟩:=g j1 ys e1
  obtain⟨_,g2⟩:=g j2 zs e2
  exact r.inj _ _ _ _ b g1 g2 f1 f2
 ·by_cases e:a=p
  ·subst e;exact⟨_,h3'⟩
  ·exact r1.ex a ⟨h,e⟩
 ·by_cases hj:j=i
  ·subst hj;rw[se]at e;exact absurd (Option.some.inj (Option.some.inj e)) Ow.not_g
  ·rw[ne j hj]at e;exact⟨e,rfl⟩
 ·by_cases hj:j=i
  ·subst hj
   rw[hp]at q;cases q
   exact .inr fun z=>z.2 rfl
  ·rw[ne j hj]at e;exact .inl ⟨o,e,q⟩
theorem VB{τ τ1:DS}{i:Nat}{w:Ow}(hi:τ[i]?=some (some w.L))(lk:Like (τ.set i (some (.d w.D))) τ1):Like τ (τ1.set i (some w.L)):=by
 have hlt:i<τ.length:=(List.getElem?_eq_some_iff.mp hi).1
 have hl1:τ1.length=τ.length:=by have:=lk.1;rw[List.length_set]at this;exact this
 refine⟨by rw[List.length_set];exact hl1,fun j=>?_⟩
 by_cases hj:j=i
 ·subst hj
  rw[List.getElem?_set_self (by omega),hi]
  exact⟨⟨fun x=>Iff.rfl,fun x=>Iff.rfl⟩,fun b=>Iff.rfl⟩
 ·have:=lk.2 j
  rw[List.getElem?_set_ne (Ne.symm hj)]at this ⊢
  exact this
theorem bo{i:Nat}{fr:Bool}{t:TE}{f:DX}(h:E K t fr f):E K t false (J7 i f):=by
 refine⟨fun τ d τ' e=>?_,?_⟩
 ·obtain⟨xs,τ1,e1,e2,_,_,rfl⟩:=YK e
  exact VB e1 (h.like _ _ _ e2)
 intro S M τ σ H Q d τ' r e q
 obtain⟨xs,τ1,e1,e2,fx,ok,rfl⟩:=YK e
 obtain⟨p,us,hp,hM,hl,ll⟩:=r.mt i xs e1
 refine h.weak.run _ _ _ σ H _ d τ1 (frz r e1 hp) e2 fun v H' r' c res=>?_
 have r2:=iH r e1 hp r' (h.like _ _ _ e2) c ok
 refine q v H' r2 (fun b o hn e=>c b o (fun z=>hn z.1) e) ?_
 have h3':H' p=some us:=c p _ (fun z=>z.2 rfl) hl
 exact Is.monoT (Od fun a z => by
  by_cases e:a=p
  ·subst e;exact .inr ⟨_,h3',ll.ho⟩
  ·exact .inl ⟨z,e⟩) fx (show Is K (hid (fun b=>S b/\b≠p) H') d v from res)
def MH(i:Nat)(f:DX)(τ:DS):Option (PyData×DS):=match τ[i]? with
 |some (some (.m xs))=>(f (τ.set i (some (.d (.list xs))))).bind fun q=>match q.1 with
  |.list ys=>if fixDs ys&&q.2.all okM then some (q.1,q.2.set i (some (.m xs))) else none
  |_=>none
 |some (some (.k xs))=>(f (τ.set i (some (.d (.dict (XT xs)))))).bind fun q=>match q.1 with
  |.list ys=>if fixDs ys&&q.2.all okM then some (q.1,q.2.set i (some (.k xs))) else none
  |_=>none
 |_=>none
theorem Vy{i:Nat}{f:DX}{τ:DS}{d:PyData}{τ':DS}(e:MH i f τ=some (d,τ')):∃w τ1 ys,τ[i]?=some (some (Ow.L w))/\f (τ.set i (some (.d w.D)))=some (d,τ1)/\d = .list ys/\fixDs ys=true/\τ1.all okM=true/\τ'=τ1.set i (some w.L):=by
 unfold MH at e
 split at e
 ·rename_i xs hx
  obtain⟨⟨z,τ1⟩,e1,e⟩:=oB e
  dsimp only at e
  split at e
  ·split at e
   ·rename_i h
    rw[Bool.and_eq_true]at h
    cases e
    exact⟨.l xs,τ1,_,hx,e1,rfl,h.1,h.2,rfl⟩
   ·cases e
  ·cases e
 ·rename_i xs hx
  obtain⟨⟨z,τ1⟩,e1,e⟩:=oB e
  dsimp only at e
  split at e
  ·split at e
   ·rename_i h
    rw[Bool.and_eq_true]at h
    cases e
    exact⟨.t xs,τ1,_,hx,e1,rfl,h.1,h.2,rfl⟩
   ·cases e
  ·cases e
 ·cases e
theorem Ow.D_list{o:Ow}{ys:List PyData}(h:PyData.list ys=o.D):o = .l ys:=by
 cases o with
 |l xs=>cases h;rfl
 |t kvs=>cases h
theorem nN{i:Nat}{t:TE}{f:DX}(h:E K t true f):E K t true (MH i f):=by
 refine⟨fun τ d τ' e=>?_,?_⟩
 ·obtain⟨xs,τ1,ys,e1,e2,_,_,_,rfl⟩:=Vy e
  exact VB e1 (h.like _ _ _ e2)
 intro S M τ σ H Q d τ' r e q
 obtain⟨xs,τ1,ys,e1,e2,rfl,fx,ok,rfl⟩:=Vy e
 obtain⟨p,us,hp,hM,hl,ll⟩:=r.mt i xs e1
 refine h.run _ _ _ σ H _ _ τ1 (frz r e1 hp) e2 fun v H' r' c res=>?_
 have r2:=iH r e1 hp r' (h.like _ _ _ e2) c ok
 refine q v H' r2 (fun b o hn e=>c b o (fun z=>hn z.1) e) ?_
 have h3':H' p=some us:=c p _ (fun z=>z.2 rfl) hl
 obtain⟨o,a,vs,e3,rfl,h5,h6,h7⟩:=res
 obtain rfl:=Ow.D_list e3
 refine⟨.l ys,a,vs,rfl,rfl,h5,h6,IsO.monoT (Od fun b z=>?_) fx h7⟩
 rcases z with z|z
 ·by_cases e:b=p
  ·subst e;exact .inr ⟨_,h3',ll.ho⟩
  ·exact .inl (.inl ⟨z,e⟩)
 ·exact .inl (.inr z)
end DL
end
section
namespace DL
open PySem L2
variable {K:KW}
def pZ(K:KW)(S:Addr->Prop)(J:It)(H:Hp)(ds:List PyData):Prop:=∀(S2:Addr->Prop) (H2:Hp),Keep S H S2 H2->(∀(i:Nat) (d:PyData),ds[i]?=some d->J.go i H2/\∀x H3,J.yld i H2 x H3->H3=H2/\Is K (hid S2 H2) d x)/\∀i,ds.length<=i->J.stop i H2
abbrev DI:=DS->Option (List PyData×DS)
structure IT(K:KW)(wi:TI)(f:DI):Prop where
 like:∀τ ds τ',f τ=some (ds,τ')->Like τ τ'
 run:∀S M τ σ H (Q:It->Hp->Prop) ds τ',R K S M τ σ H->f τ=some (ds,τ')->(∀J H',R K S M τ' σ H'->Chg M H H'->pZ K S J H' ds->Q J H')->wi σ H Q
def dIL(f:DX)(τ:DS):Option (List PyData×DS):=(f τ).bind fun p=>match p.1 with
 |.list ds=>some (ds,p.2)
 |_=>none
def dIT(f:DX)(τ:DS):Option (List PyData×DS):=(f τ).bind fun p=>match p.1 with
 |.tuple ds=>some (ds,p.2)
 |_=>none
theorem FG{fr:Bool}{t:TE}{f:DX}(h:E K t fr f):IT K (mK K t) (dIL f):=by
 refine⟨fun τ d τ' e=>?_,?_⟩
 ·unfold dIL at e
  obtain⟨⟨x,τ1⟩,e1,e⟩:=oB e
  dsimp only at e
  split at e
  ·cases e;exact h.like _ _ _ e1
  ·cases e
 intro S M τ σ H Q ds τ' r e q
 unfold dIL at e
 obtain⟨⟨x,τ1⟩,e1,e⟩:=oB e
 dsimp only at e
 split at e
 ·cases e
  refine h.weak.run S M τ σ H _ _ _ r e1 fun v H1 r1 c1 i1=>?_
  have i1':Is K (hid S H1) (.list ds) v:=i1
  obtain⟨a,vs,rfl,hl,ll⟩:=i1'
  refine⟨a,rfl,⟨vs,SqL.of (hid_iff.mp hl).2⟩,q _ H1 r1 c1 fun S2 H2 k=>?_⟩
  have hl2:=k.same _ _ hl
  have ll2:=ll.mono k.same
  refine⟨fun i d e=>?_,fun i hi=>⟨vs,SqL.of (hid_iff.mp hl2).2,by rw[ll.length];exact hi⟩⟩
  obtain⟨u,h1,h2⟩:=ll2.get e
  refine⟨⟨vs,u,SqL.of (hid_iff.mp hl2).2,h1⟩,fun x H3 y=>⟨y.1,?_⟩⟩
  have:=y.2 vs (SqL.of (hid_iff.mp hl2).2)
  rw[h1]at this;cases this
  exact h2
 ·cases e
theorem jR{fr:Bool}{t:TE}{f:DX}(h:E K t fr f):IT K (oo K t) (dIT f):=by
 refine⟨fun τ d τ' e=>?_,?_⟩
 ·unfold dIT at e
  obtain⟨⟨x,τ1⟩,e1,e⟩:=oB e
  dsimp only at e
  split at e
  ·cases e;exact h.like _ _ _ e1
  ·cases e
 intro S M τ σ H Q ds τ' r e q
 unfold dIT at e
 obtain⟨⟨x,τ1⟩,e1,e⟩:=oB e
 dsimp only at e
 split at e
 ·cases e
  refine h.weak.run S M τ σ H _ _ _ r e1 fun v H1 r1 c1 i1=>?_
  have i1':Is K (hid S H1) (.tuple ds) v:=i1
  obtain⟨a,vs,rfl,hl,ll⟩:=i1'
  refine⟨a,rfl,⟨vs,Same.tup same_hid hl⟩,q _ H1 r1 c1 fun S2 H2 k=>?_⟩
  have hl2:=Same.tup same_hid (Same.tup k.same hl)
  have ll2:=ll.mono k.same
  refine⟨fun i d e=>?_,fun i hi=>⟨vs,hl2,by rw[ll.length];exact hi⟩⟩
  obtain⟨u,h1,h2⟩:=ll2.get e
  refine⟨⟨vs,u,hl2,h1⟩,fun x H3 y=>⟨y.1,?_⟩⟩
  have:=y.2 vs hl2
  rw[h1]at this;cases this
  exact h2
 ·cases e
def Nn(lo:Int)(n:Nat):List PyData:=(List.range n).map fun(k:Nat)=>PyData.int (lo+(k:Int))
theorem iS{S:Addr->Prop}{H:Hp}{lo:Int}{n:Nat}:pZ K S (Itr lo n) H (Nn lo n):=by
 intro S2 H2 k
 refine⟨fun i d e=>?_,fun i hi=>?_⟩
 ·unfold Nn at e
  rw[List.getElem?_map]at e
  by_cases hi:i<n
  ·rw[List.getElem?_range hi]at e
   cases e
   exact⟨hi,fun x H3 y=>⟨y.1,y.2⟩⟩
  ·rw[List.getElem?_eq_none (by simpa using hi)]at e
   cases e
 ·unfold Nn at hi
  rw[List.length_map,List.length_range]at hi
  exact hi
def dR1(a:DA)(τ:DS):Option (List PyData×DS):=(a τ).bind fun p=>(Dl p.1).bind fun ds=>match ds with
 |[.int j]=>if -(2 ^ 62)<=j/\j<2 ^ 62 then some (Nn 0 j.toNat,p.2) else none
 |_=>none
def dR2(a:DA)(τ:DS):Option (List PyData×DS):=(a τ).bind fun p=>(Dl p.1).bind fun ds=>match ds with
 |[.int i,.int j]=>if -(2 ^ 62)<=i/\i<2 ^ 62/\-(2 ^ 62)<=j/\j<2 ^ 62 then some (Nn i (j-i).toNat,p.2) else none
 |_=>none
theorem HE{t:TA}{a:DA}(ha:A K t a):IT K (mJ t) (dR1 a):=by
 refine⟨fun τ d τ' e=>?_,?_⟩
 ·unfold dR1 at e
  obtain⟨⟨x,τ1⟩,e1,e⟩:=oB e
  obtain⟨ds,e2,e⟩:=oB e
  split at e
  ·split at e
   ·cases e;exact ha.like _ _ _ e1
   ·cases e
  ·cases e
 intro S M τ σ H Q ds τ' r e q
 unfold dR1 at e
 obtain⟨⟨x,τ1⟩,e1,e⟩:=oB e
 obtain⟨ds',e2,e⟩:=oB e
 split at e
 ·split at e
  ·rename_i j hj
   cases e
   refine ha.run S M τ σ H _ x _ r e1 fun vs H1 r1 c1 i1=>?_
   obtain⟨v,us,rfl,iv,iu⟩:=J9 i1 e2
   cases (show us=[] from iu)
   exact⟨j,by rw[show v = .int j from iv],hj.1,hj.2,q _ H1 r1 c1 iS⟩
  ·cases e
 ·cases e
abbrev DG:=PyData->DS->Option DS
def MSame(τ τ':DS):Prop:=τ'.length=τ.length/\∀(j:Nat) (o:Ow),τ'[j]?=some (some o.L)↔τ[j]?=some (some o.L)
theorem MSame.refl{τ:DS}:MSame τ τ:=⟨rfl,fun _ _=>Iff.rfl⟩
theorem MSame.trans{τ τ1 τ2:DS}(a:MSame τ τ1)(b:MSame τ1 τ2):MSame τ τ2:=⟨b.1.trans a.1,fun j xs=>(b.2 j xs).trans (a.2 j xs)⟩
structure TG1 K (g:TG) (f:DG):Prop where
 ms:∀d τ τ',f d τ=some τ'->MSame τ τ'
 run:∀S M τ σ H v d τ' (Q:St->Hp->Prop),R K S M τ σ H->Is K (hid S H) d v->f d τ=some τ'->(∀σ',R K S M τ' σ' H->(∀(j:Nat) (o:Ow),τ[j]?=some (some o.L)->σ'[j]?=σ[j]?)->Q σ' H)->g v σ H Q
structure TG2 K (g:TGs) (f:List PyData->DS->Option DS):Prop where
 ms:∀d τ τ',f d τ=some τ'->MSame τ τ'
 run:∀S M τ σ H vs ds τ' (Q:St->Hp->Prop),R K S M τ σ H->IsL K (hid S H) ds vs->f ds τ=some τ'->(∀σ',R K S M τ' σ' H->(∀(j:Nat) (o:Ow),τ[j]?=some (some o.L)->σ'[j]?=σ[j]?)->Q σ' H)->g vs σ H Q
def dN(i:Nat)(d:PyData)(τ:DS):Option DS:=match τ[i]? with
 |some (some (.m _))=>none
 |some (some (.k _))=>none
 |some _=>some (τ.set i (some (.d d)))
 |none=>none
theorem fV{i:Nat}{d:PyData}{τ τ':DS}(e:dN i d τ=some τ'):i<τ.length/\(∀o:Ow,τ[i]?≠some (some o.L))/\τ'=τ.set i (some (.d d)):=by
 unfold dN at e
 split at e
 ·cases e
 ·cases e
 ·rename_i o hn hk ho
  cases e
  refine⟨(List.getElem?_eq_some_iff.mp ho).1,fun xs z=>?_,rfl⟩
  rw[ho]at z
  cases xs with
  |l xs=>exact hn xs (Option.some.inj z)
  |t xs=>exact hk xs (Option.some.inj z)
 ·cases e
theorem R.setD{S M:Addr->Prop}{τ:DS}{σ:St}{H:Hp}(r:R K S M τ σ H){i:Nat}{d:PyData}{v:V}(hi:i<τ.length)(hm:∀o:Ow,τ[i]?≠some (some o.L))(iv:Is K (hid S H) d v):R K S M (τ.set i (some (.d d))) (σ.set i (some v)) H:=by
 have hs:i<σ.length:=by rw[r.len];exact hi
 have ne:∀j,j≠i->(τ.set i (some (.d d)))[j]?=τ[j]?:=fun j hj=>List.getElem?_set_ne (Ne.symm hj)
 have ne':∀j,j≠i->(σ.set i (some v))[j]?=σ[j]?:=fun j hj=>List.getElem?_set_ne (Ne.symm hj)
 have mn:∀(j:Nat) (ys:Ow),(τ.set i (some (.d d)))[j]?=some (some ys.L)->j≠i/\τ[j]?=some (some ys.L):=fun j ys e=>by
  by_cases hj:j=i
  ·subst hj;rw[List.getElem?_set_self hi]at e;exact absurd (Option.some.inj (Option.some.inj e)).symm Ow.not_d
  ·rw[ne j hj]at e;exact⟨hj,e⟩
 refine⟨by rw[List.length_set,List.length_set];exact r.len,fun j x e=>?_,fun j xs e=>?_,fun j xs e=>?_,fun j1 j2 ys zs b e1 e2 f1 f2=>?_,r.sub,r.ex,r.gr.to (fun j x e=>?_) (fun j o b e q=>.inl ⟨o,(mn j o e).2,by rw[ne' j (mn j o e).1]at q;exact q⟩) (fun b hb hn=>⟨hb,rfl⟩) .refl⟩
 ·by_cases hj:j=i
  ·subst hj
   rw[List.getElem?_set_self hi]at e
   cases e
   exact⟨v,List.getElem?_set_self hs,iv⟩
  ·rw[ne j hj]at e
   rw[ne' j hj]
   exact r.dat j x e
 ·obtain⟨hj,e⟩:=mn j xs e
  rw[ne' j hj]
  exact r.mt j xs e
 ·by_cases hj:j=i
  ·subst hj;rw[List.getElem?_set_self hi]at e;cases e
  ·rw[ne j hj]at e
   rw[ne' j hj]
   exact r.cst j xs e
 ·obtain⟨h1,e1⟩:=mn j1 ys e1
  obtain⟨h2,e2⟩:=mn j2 zs e2
  rw[ne' _ h1]at f1
  rw[ne' _ h2]at f2
  exact r.inj _ _ _ _ b e1 e2 f1 f2
 ·by_cases hj:j=i
  ·subst hj;rw[List.getElem?_set_self hi]at e;cases e
  ·rw[ne j hj]at e;exact⟨e,ne' j hj⟩
theorem kX{τ:DS}{i:Nat}{d:PyData}(hi:i<τ.length)(hm:∀o:Ow,τ[i]?≠some (some o.L)):MSame τ (τ.set i (some (.d d))):=by
 refine⟨by rw[List.length_set],fun j xs=>?_⟩
 by_cases hj:j=i
 ·subst hj
  rw[List.getElem?_set_self hi]
  exact⟨fun z=>absurd (Option.some.inj (Option.some.inj z)).symm Ow.not_d,fun z=>absurd z (hm xs)⟩
 ·rw[List.getElem?_set_ne (Ne.symm hj)]
theorem Aa{i:Nat}:TG1 K (VS i) (dN i):=by
 refine⟨fun d τ τ' e=>?_,?_⟩
 ·obtain⟨h1,h2,rfl⟩:=fV e
  exact kX h1 h2
 intro S M τ σ H v d τ' Q r iv e q
 obtain⟨h1,h2,rfl⟩:=fV e
 refine q _ (r.setD h1 h2 iv) fun j xs ej=>?_
 have:j≠i:=fun z=>h2 xs (by rw[<- z];exact ej)
 exact List.getElem?_set_ne (Ne.symm this)
def C5:List PyData->DS->Option DS
 |[],τ=>some τ
 |_::_,_=>none
def A6(f:DG)(g:List PyData->DS->Option DS):List PyData->DS->Option DS
 |d::ds,τ=>(f d τ).bind fun τ1=>g ds τ1
 |[],_=>none
theorem FA:TG2 K oz C5:=by
 refine⟨fun d τ τ' e=>?_,?_⟩
 ·cases d with
  |nil=>cases e;exact .refl
  |cons _ _=>cases e
 intro S M τ σ H vs ds τ' Q r iv e q
 cases ds with
 |nil=>cases e;exact⟨iv,q σ r fun _ _ _=>rfl⟩
 |cons _ _=>cases e
theorem Bk{t:TG}{u:TGs}{f:DG}{g:List PyData->DS->Option DS}(h1:TG1 K t f)(h2:TG2 K u g):TG2 K (mM t u) (A6 f g):=by
 refine⟨fun d τ τ' e=>?_,?_⟩
 ·cases d with
  |nil=>cases e
  |cons d ds =>
   obtain⟨τ1,e1,e⟩:=oB e
   exact(h1.ms _ _ _ e1).trans (h2.ms _ _ _ e)
 intro S M τ σ H vs ds τ' Q r iv e q
 cases ds with
 |nil=>cases e
 |cons d ds =>
  obtain⟨τ1,e1,e⟩:=oB e
  obtain⟨v,us,rfl,iv,iu⟩:=iv
  refine⟨v,us,rfl,h1.run S M τ σ H v d τ1 _ r iv e1 fun σ1 r1 k1=>?_⟩
  refine h2.run S M τ1 σ1 H us ds τ' _ r1 iu e fun σ2 r2 k2=>?_
  refine q σ2 r2 fun j xs hj=>?_
  rw[k2 j xs (((h1.ms _ _ _ e1).2 j xs).mpr hj),k1 j xs hj]
def dGT(g:List PyData->DS->Option DS)(d:PyData)(τ:DS):Option DS:=match d with
 |.tuple ds=>g ds τ
 |_=>none
theorem Ha{n:Nat}{u:TGs}{g:List PyData->DS->Option DS}(h:TG2 K u g)(hn:∀ds τ τ',g ds τ=some τ'->ds.length=n):TG1 K (ou K n u) (dGT g):=by
 refine⟨fun d τ τ' e=>?_,?_⟩
 ·unfold dGT at e
  split at e
  ·exact h.ms _ _ _ e
  ·cases e
 intro S M τ σ H v d τ' Q r iv e q
 unfold dGT at e
 split at e
 ·obtain⟨a,vs,rfl,hl,ll⟩:=iv
  exact⟨a,vs,rfl,Same.tup same_hid hl,by rw[ll.length];exact hn _ _ _ e,h.run S M τ σ H vs _ τ' Q r ll e q⟩
 ·cases e
theorem Dh:∀(ds:List PyData) (τ τ':DS),C5 ds τ=some τ'->ds.length=0
 |[],_,_,_=>rfl
 |_::_,_,_,e=>by cases e
theorem BN{n:Nat}{f:DG}{g:List PyData->DS->Option DS}(h:∀ds τ τ',g ds τ=some τ'->ds.length=n):∀(ds:List PyData) (τ τ':DS),A6 f g ds τ=some τ'->ds.length=n+1
 |[],_,_,e=>by cases e
 |d::ds,τ,τ',e=>by
  obtain⟨τ1,e1,e⟩:=oB e
  rw[List.length_cons,h _ _ _ e]
def JC(g:DG)(c:DT)(e:DX):List PyData->List PyData->DS->Option (List PyData×DS)
 |[],acc,τ=>some (acc,τ)
 |d::ds,acc,τ=>(g d τ).bind fun τ1=>(c τ1).bind fun p=>if p.1=true then (e p.2).bind fun q=>JC g c e ds (acc++[q.1]) q.2 else JC g c e ds acc p.2
def noG:Option L->Option L
 |some (.g _)=>none
 |o=>o
def Z7(own:Nat)(fr:List Nat)(τ:DS):DS:=List.replicate own none++fr.map fun j=>noG (τ[j]?).join
theorem av{o:Option L}{l:L}(h:noG o=some l):o=some l/\∀x,l≠.g x:=by
 unfold noG at h
 split at h
 ·cases h
 ·rename_i hn
  exact⟨h,fun x z=>hn x (by rw[h,z])⟩
def isM(τ:DS)(j:Nat):Bool:=match τ[j]? with
 |some (some (.m _))=>true
 |some (some (.k _))=>true
 |_=>false
theorem isM_iff{τ:DS}{j:Nat}:isM τ j=true↔∃o:Ow,τ[j]?=some (some o.L):=by
 unfold isM
 split
 ·rename_i xs h;exact⟨fun _=>⟨.l xs,h⟩,fun _=>rfl⟩
 ·rename_i xs h;exact⟨fun _=>⟨.t xs,h⟩,fun _=>rfl⟩
 ·rename_i h1 h2
  exact ⟨fun z => (nomatch z), fun ⟨o, z⟩ => by
   cases o with
   |l xs=>exact absurd z (h1 xs)
   |t xs=>exact absurd z (h2 xs)⟩
def dLC(own:Nat)(fr:List Nat)(it:DI)(g:DG)(c:DT)(e:DX)(τ:DS):Option (PyData×DS):=(it τ).bind fun p=>if p.1.length<=sizeLine/\(fr.all fun j=>!isM p.2 j)=true then (JC g c e p.1 [] (Z7 own fr p.2)).map fun q=>(.list q.1,p.2) else none
theorem RY{own:Nat}{fr:List Nat}{τ:DS}{i:Nat}{l:L}(h:(Z7 own fr τ)[i]?=some (some l)):∃k j,i=own+k/\fr[k]?=some j/\τ[j]?=some (some l):=by
 unfold Z7 at h
 by_cases hi:i<own
 ·rw[List.getElem?_append_left (by simpa using hi),List.getElem?_replicate,if_pos hi]at h
  cases h
 ·rw[List.getElem?_append_right (by simpa using hi),List.length_replicate,List.getElem?_map]at h
  cases e:fr[i-own]? with
  |none=>rw[e]at h;cases h
  |some j =>
   rw[e]at h
   simp only[Option.map_some,Option.some.injEq]at h
   refine⟨i-own,j,by omega,e,?_⟩
   replace h:=(av h).1
   cases q:τ[j]? with
   |none=>rw[q]at h;cases h
   |some o=>rw[q]at h;cases o with
    |none=>cases h
    |some u=>cases h;rfl
theorem nT{own:Nat}{fr:List Nat}{τ:DS}(i:Nat)(d:PyData):(Z7 own fr τ)[i]?≠some (some (.g d)):=fun h=>by
 unfold Z7 at h
 by_cases hi:i<own
 ·rw[List.getElem?_append_left (by simpa using hi),List.getElem?_replicate,if_pos hi]at h
  cases h
 ·rw[List.getElem?_append_right (by simpa using hi),List.length_replicate,List.getElem?_map]at h
  cases e:fr[i-own]? with
  |none=>rw[e]at h;cases h
  |some j =>
   rw[e]at h
   simp only[Option.map_some,Option.some.injEq]at h
   exact(av h).2 d rfl
theorem jq{own:Nat}{fr:List Nat}{σ:St}{k j:Nat}{v:V}(e:fr[k]?=some j)(h:σ[j]?=some (some v)):(blk own fr σ)[own+k]?=some (some v):=by
 unfold blk
 rw[List.getElem?_append_right (by simp),List.length_replicate,List.getElem?_map,show own+k-own=k by omega,e]
 show some (σ[j]?).join=_
 rw[h];rfl
theorem bU{H:Hp}{xs:List PyData}{vs:List V}{d:PyData}{v:V}(l:IsL K H xs vs)(i:Is K H d v):IsL K H (xs++[d]) (vs++[v]):=Mc l ⟨v,[],rfl,i,rfl⟩
theorem O1{own:Nat}{fr:List Nat}{wi:TI}{it:DI}{tg:TG}{g:DG}{tc:TT}{c:DT}{te:TE}{e:DX}{fe:Bool}(hi:IT K wi it)(hg:TG1 K tg g)(hc:T K tc c)(he:E K te fe e):E K (tLC own fr wi tg tc te) true (dLC own fr it g c e):=by
 refine⟨fun τ d τ' e=>?_,?_⟩
 ·unfold dLC at e
  obtain⟨⟨x,τ1⟩,e1,e⟩:=oB e
  split at e
  ·obtain⟨z,e3,e⟩:=oM e
   cases e;exact hi.like _ _ _ e1
  ·cases e
 intro S M τ σ H Q d τ' r ee q
 unfold dLC at ee
 obtain⟨⟨ds,τ1⟩,e1,ee⟩:=oB ee
 split at ee
 ·rename_i hz
  obtain⟨hz,hnm⟩:=hz
  have hz:ds.length<=sizeLine:=hz
  obtain⟨⟨acc,τb⟩,e3,ee⟩:=oM ee
  obtain⟨rfl,rfl⟩:d = .list acc/\τ'=τ1:=by cases ee;exact⟨rfl,rfl⟩
  refine hi.run S M τ σ H _ ds _ r e1 fun J H1 r1 c1 iJ=>?_
  intro D hD
  -- nothing of the def may be changed in the block
  refine⟨fun i m ys σ' H'=>∃τb' acc',R K (fun b=>S b\/b=D) (fun _=>False) τb' σ' H'/\Keep S H1 (fun b=>S b\/b=D) H'/\Chg (fun b=>b=D) H1 H'/\IsL K (hid (fun b=>S b\/b=D) H') acc' ys/\H' D=some (.lst ys)/\ys.length<=i/\i<=ds.length/\m=ds.length-i/\JC g c e (ds.drop i) acc' τb'=some (acc,τb),?_,?_⟩
  ·have s:=FI hD (HO.lst [])
   have k:Keep S H1 (fun b=>S b\/b=D) (upd H1 D (.lst [])):=fun b o hn e=>by
    have:=Cw e hD
    exact⟨fun z=>z.elim hn this,s b o e⟩
   refine⟨ds.length,Z7 own fr τ',[],⟨?_,?_,?_,?_,?_,fun a h=>h.elim,?_,GR.nil nT⟩,k,.of s,rfl,DC,Nat.le_refl _,Nat.zero_le _,by simp,by simpa using e3⟩
   ·unfold blk Z7;simp
   ·intro i x e
    obtain⟨kk,j,rfl,ej,et⟩:=RY e
    obtain⟨v,h1,h2⟩:=r1.dat j x et
    exact⟨v,jq ej h1,h2.mono k.same⟩
   ·intro i xs e
    obtain⟨kk,j,rfl,ej,et⟩:=RY e
    have:=List.all_eq_true.mp hnm j (List.mem_of_getElem? ej)
    rw[isM_iff.mpr ⟨xs,et⟩]at this
    cases this
   ·intro i x e
    obtain⟨kk,j,rfl,ej,et⟩:=RY e
    obtain⟨a,vs,h1,h2,h3⟩:=r1.cst j x et
    exact⟨a,vs,jq ej h1,k.same.seq h2,h3.mono k.same⟩
   ·intro i j xs ys a e
    obtain⟨kk,j',rfl,ej,et⟩:=RY e
    have:=List.all_eq_true.mp hnm j' (List.mem_of_getElem? ej)
    rw[isM_iff.mpr ⟨xs,et⟩]at this
    cases this
   ·rintro a (h|rfl)
    ·obtain⟨o,e⟩:=r1.ex a h
     exact⟨o,s _ _ e⟩
    ·exact⟨_,DC⟩
  ·rintro i m ys σ' H' ⟨τb',acc',rb,k,ch,la,hHD,hyl,hil,rfl,hl⟩
   obtain⟨I1,I2⟩:=iJ _ _ k
   by_cases hlt:i<ds.length
   ·right
    have ed:ds[i]?=some ds[i]:=List.getElem?_eq_getElem hlt
    obtain⟨go,yl⟩:=I1 i _ ed
    refine⟨go,fun x H2 y=>?_⟩
    obtain⟨rfl,ix⟩:=yl x H2 y
    rw[List.drop_eq_getElem_cons hlt,JC]at hl
    obtain⟨τ2,e2,hl⟩:=oB hl
    obtain⟨⟨b,τ3⟩,e4,hl⟩:=oB hl
    refine hg.run _ _ τb' σ' H2 x _ τ2 _ rb ix e2 fun σ3 r3 k3=>?_
    refine hc.run _ _ τ2 σ3 H2 _ b τ3 r3 e4 fun H4 r4 c4=>?_
    have s4:Same H2 H4:=fun b o e=>c4 b o (fun z=>z) e
    cases b with
    |false =>
     rw[if_neg Bool.false_ne_true]
     exact⟨ds.length-(i+1),by omega,τ3,acc',r4,k.trans (Same.keep s4),ch.trans (.of s4),la.mono (Same.keep s4).same,s4 _ _ hHD,by omega,hlt,rfl,hl⟩
    |true =>
     rw[if_pos rfl]
     rw[if_pos rfl]at hl
     obtain⟨⟨z,τ5⟩,e5,hl⟩:=oB hl
     refine he.weak.run _ _ τ3 σ3 H4 _ z τ5 r4 e5 fun v H5 r5 c5 i5=>?_
     have s5:Same H2 H5:=s4.trans fun b o e=>c5 b o (fun z=>z) e
     have hD5:=s5 _ _ hHD
     refine⟨hD5,by omega,ds.length-(i+1),by omega,τ5,acc'++[z],?_,?_,?_,?_,DC,by rw[List.length_append,List.length_singleton];omega,hlt,rfl,hl⟩
     ·have kk:Keep (fun b=>S b\/b=D) H5 (fun b=>S b\/b=D) (upd H5 D (.lst (ys++[v]))):=fun b o hn e=>⟨hn,by rw[Dr (fun z=>hn (.inr z))];exact e⟩
      refine⟨r5.len,fun j x e=>let ⟨u,a,b⟩:=r5.dat j x e;⟨u,a,b.mono kk.same⟩,fun j xs e=>let ⟨_,_,_,h,_⟩:=r5.mt j xs e;h.elim,fun j xs e=>let ⟨a,vs,h1,h2,h3⟩:=r5.cst j xs e;⟨a,vs,h1,kk.same.seq h2,h3.mono kk.same⟩,r5.inj,fun _ h=>h.elim,fun a h=>?_,r5.gr.to (fun i d e=>⟨e,rfl⟩) (fun j o a e q=>.inl ⟨o,e,q⟩) (fun a h _=>h.elim) (tsS kk.same)⟩
      by_cases e:a=D
      ·subst e;exact⟨_,DC⟩
      ·obtain⟨o,q⟩:=r5.ex a h
       exact⟨o,by rw[Dr e];exact q⟩
     ·refine k.trans fun b o hn e=>⟨hn,?_⟩
      rw[Dr (fun z=>hn (.inr z))]
      exact s5 _ _ e
     ·refine ch.trans fun b o hn e=>?_
      rw[Dr hn]
      exact s5 _ _ e
     ·refine(bU (la.mono (Same.keep s5).same) i5).mono (Keep.same fun b o hn e=>⟨hn,?_⟩)
      rw[Dr (fun z=>hn (.inr z))]
      exact e
   ·left
    have e:i=ds.length:=by omega
    subst e
    rw[List.drop_length,JC]at hl
    cases hl
    refine⟨I2 _ (Nat.le_refl _),?_⟩
    have s:Same H1 H':=fun b o e=>ch b o (Cw e hD) e
    refine q _ H' (r1.same s) (c1.trans (.of s)) ⟨.l acc,D,_,rfl,rfl,r1.none c1 hD,hHD,ys,rfl,la⟩
 ·cases ee
end DL
end
section
namespace DL
open PySem L2
variable {K:KW}
end DL
end
section
namespace DL
open PySem L2
variable {K:KW}
def Fw(i:Nat)(f:DX)(τ:DS):Option (PyData×DS):=(f τ).bind fun p=>match p.2[i]?,p.1 with
 |some (some (.c xs)),.int k=>(atI xs k).map fun d=>(d,p.2)
 |_,_=>none
theorem pC{i:Nat}{fr:Bool}{tb:TE}{f:DX}(h:E K tb fr f):E K (tOp (mx K) (Ub i) tb) false (Fw i f):=by
 refine⟨fun τ d τ' e=>?_,?_⟩
 ·unfold Fw at e
  obtain⟨⟨x,τ1⟩,e1,e⟩:=oB e
  dsimp only at e
  split at e
  ·obtain⟨z,e3,e⟩:=oM e
   cases e;exact h.like _ _ _ e1
  ·cases e
 intro S M τ σ H Q d τ' r e q
 unfold Fw at e
 obtain⟨⟨x,τ1⟩,e1,e⟩:=oB e
 dsimp only at e
 split at e
 ·rename_i xs k hx
  obtain⟨z,e3,e⟩:=oM e
  cases e
  obtain⟨a,vs,ha,_⟩:=r.cst i xs ((((h.like _ _ _ e1).2 i).1.2 xs).mp hx)
  refine⟨.ref a,ha,h.weak.run S M τ σ H _ _ _ r e1 fun v H1 r1 c1 i1=>?_⟩
  obtain⟨a',vs',ha',h2,h3⟩:=r1.cst i xs hx
  rw[ha]at ha';cases ha'
  obtain⟨u,h4,h5⟩:=dg h3 e3
  exact⟨a,vs',k,u,rfl,i1,same_hid.seq h2,h4,q u H1 r1 c1 h5⟩
 ·cases e
def DU(i:Nat)(τ:DS):Option (PyData×DS):=match τ[i]? with
 |some (some (.c xs))=>some (.int xs.length,τ)
 |_=>none
theorem nK{i:Nat}:E K (tCB (fun xs H Q=>∃x n,xs=[x]/\ng K x H n/\Q (.int n) H) (Sq (Ub i) Yl)) false (DU i):=by
 refine⟨fun τ d τ' e=>?_,?_⟩
 ·unfold DU at e
  split at e
  ·cases e;exact .refl
  ·cases e
 intro S M τ σ H Q d τ' r e q
 unfold DU at e
 split at e
 ·rename_i xs hx
  cases e
  obtain⟨a,vs,ha,h2,h3⟩:=r.cst i xs hx
  refine⟨.ref a,ha,.ref a,vs.length,rfl,.inl ⟨vs,same_hid.seq h2,rfl⟩,?_⟩
  exact q _ H r .refl (by rw[h3.length];rfl)
 ·cases e
def Bf(i:Nat)(G:List L->Option (PyData×List L))(a:DA)(τ:DS):Option (PyData×DS):=(a τ).bind fun p=>(Dl p.1).bind fun ds=>match p.2[i]? with
 |some (some (.c xs))=>(G (.c xs::ds.map L.d)).map fun q=>(q.1,p.2)
 |_=>none
theorem J0{i:Nat}{fr:Bool}{G:List L->Option (PyData×List L)}{t:TA}{a:DA}{X:XK}(ha:A K t a):E K (Uc (spD K G fr) [] X (Sq (Ub i) t)) fr (Bf i G a):=by
 refine⟨fun τ d τ' e=>?_,?_⟩
 ·unfold Bf at e
  obtain⟨⟨x,τ1⟩,e1,e⟩:=oB e
  obtain⟨ds,e2,e⟩:=oB e
  dsimp only at e
  split at e
  ·obtain⟨z,e3,e⟩:=oM e
   cases e;exact ha.like _ _ _ e1
  ·cases e
 intro S M τ σ H Q d τ' rr e q
 unfold Bf at e
 obtain⟨⟨x,τ1⟩,e1,e⟩:=oB e
 obtain⟨ds,e2,e⟩:=oB e
 dsimp only at e
 split at e
 ·rename_i xs hx
  obtain⟨⟨z,ls'⟩,e3,e⟩:=oM e
  cases e
  obtain⟨p,us,hp,_⟩:=rr.cst i xs ((((ha.like _ _ _ e1).2 i).1.2 xs).mp hx)
  refine⟨.ref p,hp,ha.run S M τ σ H _ x _ rr e1 fun vs H1 r1 c1 i1=>?_⟩
  have l:=J9 i1 e2
  obtain⟨p',us',hp',h2,h3⟩:=r1.cst i xs hx
  rw[hp]at hp';cases hp'
  show spD K G fr ((.ref p::vs)++[]) H1 Q X
  rw[List.append_nil]
  have ra:=iU r1 l
  refine⟨S,fun _=>False,.c xs::ds.map L.d,_,ls',⟨?_,?_,?_,?_,?_,fun _ h=>h.elim,r1.ex,GR.nil ?_⟩,e3,fun v H' _ c res=>?_⟩
  ·have:=ra.len
   simp only[List.length_map,List.map_cons,List.length_cons]at this ⊢
   omega
  ·intro j x e
   cases j with
   |zero=>cases e
   |succ j=>exact ra.dat j x (by simpa using e)
  ·intro j ys e
   cases j with
   |zero=>exact absurd (Option.some.inj (Option.some.inj e)).symm Ow.not_c
   |succ j=>obtain⟨_,_,_,h,_⟩:=ra.mt j ys (by simpa using e);exact h.elim
  ·intro j ys e
   cases j with
   |zero=>cases e;exact⟨p,us',rfl,h2,h3⟩
   |succ j=>exact ra.cst j ys (by simpa using e)
  ·intro j k ys ws b e1 e2 _ _
   cases j with
   |zero=>exact absurd (Option.some.inj (Option.some.inj e1)).symm Ow.not_c
   |succ j=>obtain⟨_,_,_,h,_⟩:=ra.mt j ys (by simpa using e1);exact h.elim
  ·intro j x e
   cases j with
   |zero=>cases e
   |succ j =>
    rw[List.map_cons,List.getElem?_cons_succ,List.getElem?_map,List.getElem?_map]at e
    cases q:ds[j]? with
    |none=>rw[q]at e;cases e
    |some d=>rw[q]at e;cases e
  ·have s:Same H1 H':=fun b o e=>c b o (fun z=>z) e
   exact q v H' (r1.same s) (c1.trans (.of s)) (res.back r1 c1)
 ·cases e
section
variable {F:Frm} {S M:Addr->Prop} {τ τ':DS} {σ:St} {H H':Hp}
theorem RF.step(f:RF K F S M τ σ H)(r':R K S M τ' σ H')(c:Chg M H H')(lk:Like τ τ'):RF K F S M τ' σ H' where
 r:=r'
 sS:=f.sS
 old:=fun b o e n=>c b o (fun z=>(f.new b z).elim n fun q=>by rw[q]at e;cases e) (f.old b o e n)
 new:=f.new
 fm:=f.fm
 fs:=f.fs
 fsub:=f.fsub
 snew:=f.snew
 par:=f.par
 pm:=fun i v e=>let ⟨xs,h⟩:=f.pm i v e;(lk.own i).mpr ⟨xs,h⟩
 fma:=f.fma
theorem RF.stay(f:RF K F S M τ σ H){σ':St}(r':R K S M τ' σ' H)(ms:MSame τ τ')(k:∀(j:Nat) (o:Ow),τ[j]?=some (some o.L)->σ'[j]?=σ[j]?):RF K F S M τ' σ' H where
 r:=r'
 sS:=f.sS
 old:=f.old
 new:=f.new
 fm:=f.fm
 fs:=f.fs
 fsub:=f.fsub
 snew:=f.snew
 par:=fun i v e=>by
  obtain⟨xs,h⟩:=f.pm i v e
  rw[k i xs h]
  exact f.par i v e
 pm:=fun i v e=>let ⟨xs,h⟩:=f.pm i v e;⟨xs,(ms.2 i xs).mpr h⟩
 fma:=f.fma
theorem RF.hnone(f:RF K F S M τ σ H){a:Addr}(h:H a=none):F.H a=none:=by
 cases e:F.H a with
 |none=>rfl
 |some o =>
  exfalso
  by_cases hm:F.M a
  ·obtain⟨o',e'⟩:=f.r.ex a (f.sS a (f.fsub a hm))
   rw[h]at e';cases e'
  ·have:=f.old a o e hm
   rw[h]at this;cases this
theorem RF.res(f:RF K F S M τ σ H){fr:Bool}{d:PyData}{v:V}(h:Res K fr S H H' d v):Res K fr F.S F.H H' d v:=by
 cases fr with
 |false=>exact Is.mono (L3 f.sS) h
 |true =>
  obtain⟨xs,a,vs,e1,e2,h1,h2,h3⟩:=h
  exact⟨xs,a,vs,e1,e2,f.hnone h1,h2,h3.mono (L3 fun b z=>z.elim (fun z=>.inl (f.sS b z)) .inr)⟩
end
variable {np:Nat}
def Ak(e:DX)(g:DG)(τ:DS):Option Out:=(e τ).bind fun p=>(g p.1 p.2).map .nx
theorem BJ{fr fe:Bool}{te:TE}{tg:TG}{e:DX}{g:DG}(he:E K te fe e)(hg:TG1 K tg g):B K np (cq te tg) fr (Ak e g):=by
 intro F S M τ σ H D out hnp f ee q
 unfold Ak at ee
 obtain⟨⟨x,τ1⟩,e1,ee⟩:=oB ee
 obtain⟨τ2,e2,ee⟩:=oM ee
 cases ee
 refine he.weak.run S M τ σ H _ x τ1 f.r e1 fun v H1 r1 c1 i1=>?_
 refine hg.run S M τ1 σ H1 v x τ2 _ r1 i1 e2 fun σ' r2 k=>?_
 exact q S M σ' H1 ((f.step r1 c1 (he.like _ _ _ e1)).stay r2 (hg.ms _ _ _ e2) k) (c1.keep f.r.sub)
theorem pQ{fr fe:Bool}{te:TE}{i:Nat}{e:DX}(he:E K te fe e):B K np (fun D σ H=>te σ H fun v H'=>D.nx (σ.set i (some v)) H') fr (Ak e (dN i)):=BJ (tg:=VS i) he Aa
def QX(np i:Nat)(τ:DS):Option Out:=if np<=i/\i<τ.length then some (.nx (τ.set i (some (.m [])))) else none
def tkP:List (PyData×PyData)->Option (List (List Int×PyData))
 |[]=>some []
 |(.tuple ks,d)::r=>(tkI ks).bind fun k=>(tkP r).map ((k,d)::·)
 |_=>none
where tkI:List PyData->Option (List Int)
 |[]=>some []
 |.int i::r=>(tkI r).map (i::·)
 |_=>none
theorem eL:∀(k:List Int),tkP.tkI (k.map PyData.int)=some k
 |[]=>rfl
 |i::k=>by rw[List.map_cons,tkP.tkI,eL k];rfl
theorem eK:∀(m:List (List Int×PyData)),tkP (XT m)=some m
 |[]=>rfl
 |(k,d)::m=>by
  have:=eK m
  show(tkP.tkI (k.map PyData.int)).bind _=_
  rw[eL]
  show((tkP (XT m)).map _)=_
  rw[this];rfl
theorem nh{o:Ow}{kvs:List (PyData×PyData)}{m:List (List Int×PyData)}(h:PyData.dict kvs=o.D)(e:tkP kvs=some m):o = .t m:=by
 cases o with
 |l xs=>cases h
 |t m'=>cases h;rw[eK]at e;cases e;rfl
def Oa(np i:Nat)(e:DX)(τ:DS):Option Out:=(e τ).bind fun p=>match p.1 with
 |.list xs=>if np<=i/\i<p.2.length/\p.2.all okM=true then some (.nx (p.2.set i (some (.m xs)))) else none
 |.dict kvs=>(tkP kvs).bind fun m=>if np<=i/\i<p.2.length/\p.2.all okM=true then some (.nx (p.2.set i (some (.k m)))) else none
 |_=>none
theorem RF.newM{F:Frm}{S M:Addr->Prop}{τ:DS}{σ:St}{H:Hp}(f:RF K F S M τ σ H){a:Addr}{i:Nat}{xs:Ow}{vs:HO}(hi:i<τ.length)(hnp:F.ar.length<=i)(hS:S a)(hM:¬M a)(hF:F.H a=none)(h':H a=some vs)
  (l:IsO K (hid S H) xs a vs):RF K F S (fun b=>M b\/b=a) (τ.set i (some xs.L)) (σ.set i (some (.ref a))) H:=by
 have hs:i<σ.length:=by rw[f.r.len];exact hi
 have ne:∀j,j≠i->(τ.set i (some xs.L))[j]?=τ[j]?:=fun j hj=>List.getElem?_set_ne (Ne.symm hj)
 have ne':∀j,j≠i->(σ.set i (some (V.ref a)))[j]?=σ[j]?:=fun j hj=>List.getElem?_set_ne (Ne.symm hj)
 have se:(τ.set i (some xs.L))[i]?=some (some xs.L):=List.getElem?_set_self hi
 have se':(σ.set i (some (V.ref a)))[i]?=some (some (.ref a)):=List.getElem?_set_self hs
 have Ma:∀(j:Nat) (ys:Ow) (b:Addr),j≠i->τ[j]?=some (some ys.L)->σ[j]?=some (some (.ref b))->b≠a:=fun j ys b hj e e' z=>by
  obtain⟨b',us,h1,h2,_⟩:=f.r.mt j ys e
  rw[e']at h1;cases h1
  subst z
  exact hM h2
 refine⟨⟨by rw[List.length_set,List.length_set];exact f.r.len,fun j x e=>?_,fun j ys e=>?_,fun j ys e=>?_,fun j1 j2 ys zs b e1 e2 f1 f2=>?_,fun b h=>h.elim (f.r.sub b) fun z=>by rw[z];exact hS,f.r.ex,f.r.gr.to (fun j x e=>?_) (fun j o b e q=>?_) (fun b hb _=>⟨.inl hb,rfl⟩) .refl⟩,f.sS,f.old,fun b h=>h.elim (f.new b) fun z=>.inr (by rw[z];exact hF),fun b h=>.inl (f.fm b h),f.fs,f.fsub,f.snew,fun j v e=>?_,fun j v e=>?_,f.fma⟩
 ·by_cases hj:j=i
  ·subst hj;rw[se]at e;exact absurd (Option.some.inj (Option.some.inj e)) Ow.not_d
  ·rw[ne j hj]at e
   rw[ne' j hj]
   exact f.r.dat j x e
 ·by_cases hj:j=i
  ·subst hj
   rw[se]at e
   obtain rfl:=T9 e
   exact⟨a,vs,se',.inr rfl,h',l⟩
  ·rw[ne j hj]at e
   rw[ne' j hj]
   obtain⟨b,us,h1,h2,h3,h4⟩:=f.r.mt j ys e
   exact⟨b,us,h1,.inl h2,h3,h4⟩
 ·by_cases hj:j=i
  ·subst hj;rw[se]at e;exact absurd (Option.some.inj (Option.some.inj e)) Ow.not_c
  ·rw[ne j hj]at e
   rw[ne' j hj]
   exact f.r.cst j ys e
 ·by_cases h1:j1=i
  ·by_cases h2:j2=i
   ·rw[h1,h2]
   ·exfalso
    subst h1
    rw[se']at f1;cases f1
    rw[ne j2 h2]at e2
    rw[ne' j2 h2]at f2
    exact Ma j2 zs _ h2 e2 f2 rfl
  ·by_cases h2:j2=i
   ·exfalso
    subst h2
    rw[se']at f2;cases f2
    rw[ne j1 h1]at e1
    rw[ne' j1 h1]at f1
    exact Ma j1 ys _ h1 e1 f1 rfl
   ·rw[ne j1 h1]at e1
    rw[ne' j1 h1]at f1
    rw[ne j2 h2]at e2
    rw[ne' j2 h2]at f2
    exact f.r.inj _ _ _ _ b e1 e2 f1 f2
 ·by_cases hj:j=i
  ·subst hj;rw[se]at e;exact absurd (Option.some.inj (Option.some.inj e)) Ow.not_g
  ·rw[ne j hj]at e;exact⟨e,ne' j hj⟩
 ·by_cases hj:j=i
  ·subst hj;rw[se']at q;cases q;exact .inr hM
  ·rw[ne j hj]at e;rw[ne' j hj]at q;exact .inl ⟨o,e,q⟩
 ·have:j≠i:=fun z=>by
   subst z
   have:=(List.getElem?_eq_some_iff.mp e).1
   omega
  rw[ne' j this]
  exact f.par j v e
 ·have:j≠i:=fun z=>by
   subst z
   have:=(List.getElem?_eq_some_iff.mp e).1
   omega
  rw[ne j this]
  exact f.pm j v e
theorem RF.hide{F:Frm}{S M:Addr->Prop}{τ:DS}{σ:St}{H H':Hp}(f:RF K F S M τ σ H){a:Addr}(s:Same H H')(ha:H a=none)(h':∃o,H' a=some o):RF K F (fun b=>S b\/b=a) M τ σ H':=by
 have k:Keep S H (fun b=>S b\/b=a) H':=fun b o hn e=>⟨fun z=>z.elim hn (Cw e ha),s b o e⟩
 refine ⟨⟨f.r.len, fun j x e => let ⟨v, h1, h2⟩ := f.r.dat j x e; ⟨v, h1, h2.mono k.same⟩, fun j x e => let ⟨b, vs, h1, h2, h3, h4⟩ := f.r.mt j x e; ⟨b, vs, h1, h2, s _ _ h3, h4.mono k.same⟩,
  fun j x e=>let ⟨b,vs,h1,h2,h3⟩:=f.r.cst j x e;⟨b,vs,h1,k.same.seq h2,h3.mono k.same⟩,f.r.inj,fun b h=>.inl (f.r.sub b h),fun b h=>?_,f.r.gr.to (fun i d e=>⟨e,rfl⟩) (fun j o a e q=>.inl ⟨o,e,q⟩) (fun a h _=>⟨h,by obtain⟨o,e⟩:=f.r.ex a (f.r.sub a h);rw[e];exact s _ _ e⟩) (tsS k.same)⟩,fun b h=>.inl (f.sS b h),fun b o e n=>s _ _ (f.old b o e n),f.new,f.fm,f.fs,f.fsub,fun b h=>h.elim (f.snew b) fun z=>.inr (by rw[z];exact f.hnone ha),f.par,f.pm,f.fma⟩
 rcases h with h|h
 ·obtain⟨o,e⟩:=f.r.ex b h
  exact⟨o,s _ _ e⟩
 ·rw[h];exact h'
theorem RF.hideE{F:Frm}{S M:Addr->Prop}{τ τ1:DS}{σ:St}{H H':Hp}(f:RF K F S M τ σ H){a:Addr}(r1:R K S M τ1 σ H')(c:Chg M H H')(lk:Like τ τ1)(ok:τ1.all okM=true)(ha:H a=none)(h':∃o,H' a=some o/\OwH o):RF K F (fun b=>S b\/b=a) M τ1 σ H':=by
 have f1:=f.step r1 c lk
 have k:Keep S H (fun b=>S b\/b=a) H':=fun b o hn e=>⟨fun z=>z.elim hn (Cw e ha),c b o (fun z=>hn (f.r.sub b z)) e⟩
 have ts:TSm (hid S H') (hid (fun b=>S b\/b=a) H'):=Od fun b z=>z.elim .inl fun z=>by subst z;exact .inr h'
 refine⟨⟨r1.len,fun j x e=>?_,fun j x e=>?_,fun j x e=>?_,r1.inj,fun b h=>.inl (f.r.sub b h),fun b h=>?_,r1.gr.to (fun i d e=>⟨e,rfl⟩) (fun j o a e q=>.inl ⟨o,e,q⟩) (fun a h _=>⟨h,rfl⟩) ts⟩,fun b h=>.inl (f.sS b h),f1.old,f.new,f.fm,f.fs,f.fsub,fun b h=>h.elim (f.snew b) fun z=>.inr (by rw[z];exact f.hnone ha),f.par,f1.pm,f.fma⟩
 ·obtain⟨v,h1,h2⟩:=f.r.dat j x (((lk.2 j).1.1 x).mp e)
  exact⟨v,h1,h2.mono k.same⟩
 ·obtain⟨b,vs,h1,h2,h3,h4⟩:=r1.mt j x e
  exact⟨b,vs,h1,h2,h3,h4.monoT ts (List.all_eq_true.mp ok (some x.L) (List.mem_of_getElem? e))⟩
 ·obtain⟨b,vs,h1,h2,h3⟩:=f.r.cst j x (((lk.2 j).1.2 x).mp e)
  exact⟨b,vs,h1,k.same.seq h2,h3.mono k.same⟩
 ·rcases h with h|h
  ·exact r1.ex b h
  ·obtain⟨vs,e,_⟩:=h'
   rw[h];exact⟨_,e⟩
theorem cJ{fr:Bool}{i:Nat}:B K np (cq (mq Yl) (VS i)) fr (QX np i):=by
 intro F S M τ σ H D out hnp f ee q
 unfold QX at ee
 split at ee
 ·rename_i hi
  cases ee
  refine⟨Nat.zero_le _,fun a ha=>?_⟩
  have s:=FI ha (HO.lst [])
  have f1:=f.hide s ha ⟨_,DC⟩
  have hM:¬M a:=fun z=>f.r.fresh ha (f.r.sub a z)
  exact q _ _ _ _ (f1.newM (xs:=.l []) hi.2 (Nat.le_trans hnp hi.1) (.inr rfl) hM (f.hnone ha) DC ⟨[],rfl,rfl⟩) fun b o hn e=>⟨fun z=>z.elim hn (Cw e ha),s b o e⟩
 ·cases ee
theorem jt{fr:Bool}{i:Nat}{te:TE}{e:DX}(he:E K te true e):B K np (cq te (VS i)) fr (Oa np i e):=by
 intro F S M τ σ H D out hnp f ee q
 unfold Oa at ee
 obtain⟨⟨x,τ1⟩,e1,ee⟩:=oB ee
 dsimp only at ee
 split at ee
 ·split at ee
  ·rename_i xs hi
   cases ee
   refine he.run S M τ σ H _ _ τ1 f.r e1 fun v H1 r1 c1 i1=>?_
   obtain⟨ys,a,vs,e2,rfl,h1,h2,h3⟩:=i1
   obtain rfl:=Ow.D_list e2
   have f1:=f.hideE r1 c1 (he.like _ _ _ e1) hi.2.2 h1 ⟨_,h2,h3.ho⟩
   have hM:¬M a:=fun z=>f.r.fresh h1 (f.r.sub a z)
   exact q _ _ _ _ (f1.newM (xs:=.l _) hi.2.1 (Nat.le_trans hnp hi.1) (.inr rfl) hM (f.hnone h1) h2 h3) fun b o hn e=>⟨fun z=>z.elim hn (Cw e h1),c1 b o (fun z=>hn (f.r.sub b z)) e⟩
  ·cases ee
 ·obtain⟨m,em,ee⟩:=oB ee
  split at ee
  ·rename_i hi
   cases ee
   refine he.run S M τ σ H _ _ τ1 f.r e1 fun v H1 r1 c1 i1=>?_
   obtain⟨ys,a,vs,e2,rfl,h1,h2,h3⟩:=i1
   obtain rfl:=nh e2 em
   have f1:=f.hideE r1 c1 (he.like _ _ _ e1) hi.2.2 h1 ⟨_,h2,h3.ho⟩
   have hM:¬M a:=fun z=>f.r.fresh h1 (f.r.sub a z)
   exact q _ _ _ _ (f1.newM (xs:=.t _) hi.2.1 (Nat.le_trans hnp hi.1) (.inr rfl) hM (f.hnone h1) h2 h3) fun b o hn e=>⟨fun z=>z.elim hn (Cw e h1),c1 b o (fun z=>hn (f.r.sub b z)) e⟩
  ·cases ee
 ·cases ee
def Ax(e:DX)(τ:DS):Option Out:=(e τ).map fun p=>.rt p.1 p.2
theorem As{fr fe:Bool}{te:TE}{e:DX}(he:E K te fe e)(hf:fr=true->fe=true):B K np (mj te) fr (Ax e):=by
 intro F S M τ σ H D out hnp f ee q
 unfold Ax at ee
 obtain⟨⟨x,τ1⟩,e1,ee⟩:=oM ee
 cases ee
 refine he.run S M τ σ H _ x τ1 f.r e1 fun v H1 r1 c1 i1=>?_
 exact q S M σ H1 v (f.step r1 c1 (he.like _ _ _ e1)) (f.res (i1.imp (fun _=>f.r.fresh) fr hf))
def LF(np i:Nat)(τ:DS):Option Out:=match τ[i]? with
 |some (some (.m xs))=>if np<=i then some (.rt (.list xs) τ) else none
 |some (some (.k xs))=>if np<=i then some (.rt (.dict (XT xs)) τ) else none
 |_=>none
theorem dw{np i:Nat}{τ:DS}{out:Out}(e:LF np i τ=some out):∃w,τ[i]?=some (some (Ow.L w))/\np<=i/\out = .rt w.D τ:=by
 unfold LF at e
 split at e
 ·rename_i xs hx
  split at e
  ·rename_i h;cases e;exact⟨.l xs,hx,h,rfl⟩
  ·cases e
 ·rename_i xs hx
  split at e
  ·rename_i h;cases e;exact⟨.t xs,hx,h,rfl⟩
  ·cases e
 ·cases e
theorem Z8{fr:Bool}{i:Nat}:B K np (mj (Ub i)) fr (LF np i):=by
 intro F S M τ σ H D out hnp f ee q
 obtain⟨xs,hx,hi,rfl⟩:=dw ee
 obtain⟨a,vs,h1,h2,h3,h4⟩:=f.r.mt i xs hx
 refine⟨_,h1,q S M σ H _ f ?_⟩
 have hF:F.H a=none:=by
  rcases f.new a h2 with z|z
  ·exfalso
   obtain⟨j,hj⟩:=f.fma a z
   obtain⟨ys,hy⟩:=f.pm j _ hj
   have e:=f.r.inj j i ys xs a hy hx (f.par j _ hj) h1
   have:=(List.getElem?_eq_some_iff.mp hj).1
   omega
  ·exact z
 have res:Res K true F.S F.H H xs.D (.ref a):=⟨xs,a,vs,rfl,rfl,hF,h3,h4.mono (L3 fun b z=>z.elim (f.sS b) fun z=>by rw[z];exact f.r.sub a h2)⟩
 refine res.imp (fun b hb=>?_) fr fun _=>rfl
 intro z
 obtain⟨o,e⟩:=f.fs b z
 rw[hb]at e;cases e
def RV(τ:DS):Option Out:=some (.rt .none τ)
theorem nV:B K np lT false RV:=by
 intro F S M τ σ H D out hnp f ee q
 cases ee
 exact q S M σ H _ f rfl
def CU(e:DX)(τ:DS):Option Out:=(e τ).map fun p=>.nx p.2
theorem JF{fr fe:Bool}{te:TE}{e:DX}(he:E K te fe e):B K np (lY te) fr (CU e):=by
 intro F S M τ σ H D out hnp f ee q
 unfold CU at ee
 obtain⟨⟨x,τ1⟩,e1,ee⟩:=oM ee
 cases ee
 refine he.run S M τ σ H _ x τ1 f.r e1 fun v H1 r1 c1 i1=>?_
 exact q S M σ H1 (f.step r1 c1 (he.like _ _ _ e1)) (c1.keep f.r.sub)
def dMt(i:Nat)(G:List PyData->List PyData->Option (PyData×List PyData))(a:DA)(τ:DS):Option (PyData×DS):=(a τ).bind fun p=>(Dl p.1).bind fun ds=>match p.2[i]? with
 |some (some (.m xs))=>(G xs ds).map fun q=>(q.1,p.2.set i (some (.m q.2)))
 |_=>none
def MR(K:KW)(r:V->List V->Hp->VK->Prop)(G:List PyData->List PyData->Option (PyData×List PyData)):Prop:=∀(S:Addr->Prop) H a vs us xs ds d xs' (Q:VK),S a->H a=some (.lst vs)->IsL K (hid S H) xs vs->IsL K (hid S H) ds us->G xs ds=some (d,xs') ->
 (∀v vs',Is K (hid S H) d v->IsL K (hid S H) xs' vs'->Q v (upd H a (.lst vs')))->r (.ref a) us H Q
theorem Zi{S:Addr->Prop}{H:Hp}{a:Addr}{o:HO}(h:S a):hid S (upd H a o)=hid S H:=by
 funext b
 unfold hid
 by_cases z:S b
 ·rw[if_pos z,if_pos z]
 ·rw[if_neg z,if_neg z,Dr (fun e=>z (by rw[e];exact h))]
theorem cC{i:Nat}{G:List PyData->List PyData->Option (PyData×List PyData)}{a:DA}{τ τ':DS}{d:PyData}(e:dMt i G a τ=some (d,τ')):∃rs τ1 ds xs xs',a τ=some (rs,τ1)/\Dl rs=some ds/\τ1[i]?=some (some (.m xs))/\G xs ds=some (d,xs')/\τ'=τ1.set i (some (.m xs')):=by
 unfold dMt at e
 obtain⟨⟨x,τ1⟩,e1,e⟩:=oB e
 obtain⟨ds,e2,e⟩:=oB e
 dsimp only at e
 split at e
 ·rename_i xs hx
  obtain⟨⟨z,zs⟩,e3,e⟩:=oM e
  cases e
  exact⟨x,τ1,ds,xs,zs,e1,e2,hx,e3,rfl⟩
 ·cases e
theorem XS{i:Nat}{r:V->List V->Hp->VK->Prop}{G:List PyData->List PyData->Option (PyData×List PyData)}{t:TA}{a:DA}(h:MR K r G)(ha:A K t a):E K (tBM K "list" r (Ub i) t) false (dMt i G a):=by
 refine⟨fun τ d τ' e=>?_,?_⟩
 ·obtain⟨rs,τ1,ds,xs,xs',e1,e2,e3,e4,rfl⟩:=cC e
  exact(ha.like _ _ _ e1).trans (gg e3)
 intro S M τ σ H Q d τ' rr e q
 obtain⟨rs,τ1,ds,xs,xs',e1,e2,e3,e4,rfl⟩:=cC e
 have lk:=ha.like _ _ _ e1
 obtain⟨zs,hz⟩:=lk.ml e3
 obtain⟨p,us,hp,hM,hl0,_⟩:=rr.ml i zs hz
 refine⟨.ref p,hp,.inl ⟨rfl,us,SqL.of hl0⟩,?_⟩
 refine ha.run S M τ σ H _ rs _ rr e1 fun vs H1 r1 c1 i1=>?_
 have l:=J9 i1 e2
 obtain⟨p',us',hp',hM',hl,ll⟩:=r1.ml i xs e3
 rw[hp]at hp';cases hp'
 have Sp:=r1.sub p hM'
 refine h S H1 p us' vs xs ds d xs' _ Sp hl ll l e4 fun v vs' iv il=>?_
 have c:Chg (fun b=>b=p) H1 (upd H1 p (.lst vs')):=fun b o hn e=>by rw[Dr hn];exact e
 refine q v _ (r1.setM e3 hp c DC (by rw[Zi Sp];exact il)) (c1.trans fun b o hn e=>c b o (fun z=>hn (by subst z;exact hM')) e) ?_
 show Is K (hid S _) d v
 rw[Zi Sp];exact iv
def By:List PyData->List PyData->Option (PyData×List PyData)
 |xs,[d]=>if xs.length<sizeLine then some (.none,xs++[d]) else none
 |_,_=>none
theorem HZ:MR K eS By:=by
 intro S H a vs us xs ds d xs' Q Sa hl ll l e q
 unfold By at e
 split at e
 ·split at e
  ·rename_i d0 hz
   cases e
   obtain⟨v,us',rfl,iv,iu⟩:=l
   cases (show us'=[] from iu)
   exact⟨a,vs,v,rfl,rfl,hl,by rw[ll.length];exact hz,q _ _ rfl (bU ll iv)⟩
  ·cases e
 ·cases e
def Ml:List PyData->List PyData->Option (PyData×List PyData)
 |xs,[.list ys]=>if xs.length+ys.length<=sizeLine then some (.none,xs++ys) else none
 |_,_=>none
def QS:List PyData->List PyData->Option (PyData×List PyData)
 |_,[]=>some (.none,[])
 |_,_=>none
def Vw(i:Nat)(e k:DX)(τ:DS):Option Out:=(e τ).bind fun p=>(k p.2).bind fun q=>match q.2[i]?,q.1 with
 |some (some (.m xs)),.int n=>(ixN xs.length n).map fun j=>.nx (q.2.set i (some (.m (xs.set j p.1))))
 |_,_=>none
theorem Gl.trans{F:Frm}{fr:Bool}{S S1:Addr->Prop}{H H1:Hp}{D:cL}{o:Out}(k:Keep S H S1 H1)(h:Gl K F fr S H D o):Gl K F fr S1 H1 D o:=by
 cases o with
 |nx τ=>exact fun S' M' σ' H' r k'=>h S' M' σ' H' r (k.trans k')
 |bk τ=>exact fun S' M' σ' H' r k'=>h S' M' σ' H' r (k.trans k')
 |ct τ=>exact fun S' M' σ' H' r k'=>h S' M' σ' H' r (k.trans k')
 |rt d τ=>exact fun S' M' σ' H' v r k'=>h S' M' σ' H' v r k'
def BQ(τ:DS):Option Out:=some (.nx τ)
theorem Bw{fr:Bool}:B K np lW fr BQ:=by
 intro F S M τ σ H D out hnp f ee q
 cases ee
 exact q S M σ H f .refl
def Af(a b:DB)(τ:DS):Option Out:=(a τ).bind fun o=>match o with
 |.nx τ'=>b τ'
 |o=>some o
theorem Ab{fr:Bool}{t u:TS}{a b:DB}(ha:B K np t fr a)(hb:B K np u fr b):B K np (nu t u) fr (Af a b):=by
 intro F S M τ σ H D out hnp f ee q
 unfold Af at ee
 obtain⟨o,e1,ee⟩:=oB ee
 refine ha F S M τ σ H _ o hnp f e1 ?_
 cases o with
 |nx τ1=>exact fun S' M' σ' H' r k=>hb F S' M' τ1 σ' H' D out hnp r ee (q.trans k)
 |bk τ1=>cases ee;exact q
 |ct τ1=>cases ee;exact q
 |rt d τ1=>cases ee;exact q
def BK(c:DT)(a b:DB)(τ:DS):Option Out:=(c τ).bind fun p=>if p.1=true then a p.2 else b p.2
theorem Cy{fr:Bool}{tc:TT}{t u:TS}{c:DT}{a b:DB}(hc:T K tc c)(ha:B K np t fr a)(hb:B K np u fr b):B K np (nz tc t u) fr (BK c a b):=by
 intro F S M τ σ H D out hnp f ee q
 unfold BK at ee
 obtain⟨⟨k,τ1⟩,e1,ee⟩:=oB ee
 refine hc.run S M τ σ H _ k τ1 f.r e1 fun H1 r1 c1=>?_
 have f1:=f.step r1 c1 (hc.like _ _ _ e1)
 cases k with
 |true=>exact ha F S M τ1 σ H1 D out hnp f1 ee (q.trans (c1.keep f.r.sub))
 |false=>exact hb F S M τ1 σ H1 D out hnp f1 ee (q.trans (c1.keep f.r.sub))
def eA(τ:DS):Option Out:=some (.bk τ)
def dz(τ:DS):Option Out:=some (.ct τ)
def GJ:DB:=fun _=>none
theorem JJ{fr:Bool}:B K np iN fr GJ:=by
 intro F S M τ σ H D out hnp f ee q
 cases ee
def ER(g:DG)(b:DB):List PyData->DS->Option Out
 |[],τ=>some (.nx τ)
 |d::ds,τ=>(g d τ).bind fun τ1=>(b τ1).bind fun o=>match o with
  |.nx τ2=>ER g b ds τ2
  |.ct τ2=>ER g b ds τ2
  |.bk τ2=>some (.nx τ2)
  |.rt d τ2=>some (.rt d τ2)
def Hv(it:DI)(g:DG)(b:DB)(τ:DS):Option Out:=(it τ).bind fun p=>ER g b p.1 p.2
theorem MJ{fr:Bool}{wi:TI}{tg:TG}{tb:TS}{it:DI}{g:DG}{b:DB}(hi:IT K wi it)(hg:TG1 K tg g)(hb:B K np tb fr b):B K np (mr wi tg tb) fr (Hv it g b):=by
 intro F S M τ σ H D out hnp f ee q
 unfold Hv at ee
 obtain⟨⟨ds,τ1⟩,e1,ee⟩:=oB ee
 refine hi.run S M τ σ H _ ds τ1 f.r e1 fun J H1 r1 c1 iJ=>?_
 have f1:=f.step r1 c1 (hi.like _ _ _ e1)
 have q1:=q.trans (c1.keep f.r.sub)
 refine⟨fun i m σ' H'=>m=ds.length-i/\i<=ds.length/\∃S' M' τ',RF K F S' M' τ' σ' H'/\Keep S H1 S' H'/\ER g b (ds.drop i) τ'=some out,⟨ds.length,by simp,Nat.zero_le _,S,M,τ1,f1,.refl,by simpa using ee⟩,?_⟩
 rintro i m σ' H' ⟨rfl,hil,S',M',τ',f',k',hl⟩
 obtain⟨I1,I2⟩:=iJ _ _ k'
 by_cases hlt:i<ds.length
 ·right
  have ed:ds[i]?=some ds[i]:=List.getElem?_eq_getElem hlt
  obtain⟨go,yl⟩:=I1 i _ ed
  refine⟨go,fun σ2 H2=>∃S2 M2 τ2,RF K F S2 M2 τ2 σ2 H2/\Keep S H1 S2 H2/\ER g b (ds.drop (i+1)) τ2=some out,fun σ2 H2 h=>⟨ds.length-(i+1),by omega,rfl,hlt,h⟩,fun x H2 y=>?_⟩
  obtain⟨rfl,ix⟩:=yl x H2 y
  rw[List.drop_eq_getElem_cons hlt,ER]at hl
  obtain⟨τ2,e2,hl⟩:=oB hl
  obtain⟨o,e3,hl⟩:=oB hl
  refine hg.run S' M' τ' σ' H2 x _ τ2 _ f'.r ix e2 fun σ3 r3 k3=>?_
  have f3:=f'.stay r3 (hg.ms _ _ _ e2) k3
  refine hb F S' M' τ2 σ3 H2 _ o hnp f3 e3 ?_
  cases o with
  |nx τ4=>exact fun S4 M4 σ4 H4 f4 k4=>⟨S4,M4,τ4,f4,k'.trans k4,hl⟩
  |ct τ4=>exact fun S4 M4 σ4 H4 f4 k4=>⟨S4,M4,τ4,f4,k'.trans k4,hl⟩
  |bk τ4=>cases hl;exact fun S4 M4 σ4 H4 f4 k4=>q1 S4 M4 σ4 H4 f4 (k'.trans k4)
  |rt d τ4=>cases hl;exact fun S4 M4 σ4 H4 v f4 k4=>q1 S4 M4 σ4 H4 v f4 k4
 ·left
  have e:i=ds.length:=by omega
  subst e
  rw[List.drop_length,ER]at hl
  cases hl
  exact⟨I2 _ (Nat.le_refl _),q1 S' M' σ' H' f' k'⟩
def dWh(c:DT)(b:DB):Nat->DS->Option Out
 |0,_=>none
 | n + 1, τ => (c τ).bind fun p => if p.1 = true then (b p.2).bind fun o => (match o with
   |.nx τ2=>dWh c b n τ2
   |.ct τ2=>dWh c b n τ2
   |.bk τ2=>some (.nx τ2)
   |.rt d τ2=>some (.rt d τ2)) else some (.nx p.2)
def OZ(n:DS->Nat)(c:DT)(b:DB)(τ:DS):Option Out:=dWh c b (n τ) τ
theorem RZ{fr:Bool}{n:DS->Nat}{tc:TT}{tb:TS}{c:DT}{b:DB}(hc:T K tc c)(hb:B K np tb fr b):B K np (iL tc tb) fr (OZ n c b):=by
 intro F S M τ σ H D out hnp f ee q
 unfold OZ at ee
 refine⟨fun m σ' H'=>∃S' M' τ',RF K F S' M' τ' σ' H'/\Keep S H S' H'/\dWh c b m τ'=some out,⟨n τ,S,M,τ,f,.refl,ee⟩,?_⟩
 rintro m σ' H' ⟨S',M',τ',f',k',hl⟩
 cases m with
 |zero=>cases hl
 |succ m =>
  rw[dWh]at hl
  obtain⟨⟨k,τ1⟩,e1,hl⟩:=oB hl
  refine hc.run S' M' τ' σ' H' _ k τ1 f'.r e1 fun H1 r1 c1=>?_
  have f1:=f'.step r1 c1 (hc.like _ _ _ e1)
  have k1:=k'.trans (c1.keep f'.r.sub)
  cases k with
  |false =>
   rw[if_neg Bool.false_ne_true]at hl ⊢
   cases hl
   exact q S' M' σ' H1 f1 k1
  |true =>
   rw[if_pos rfl]at hl ⊢
   obtain⟨o,e3,hl⟩:=oB hl
   refine⟨fun σ2 H2=>∃S2 M2 τ2,RF K F S2 M2 τ2 σ2 H2/\Keep S H S2 H2/\dWh c b m τ2=some out,fun σ2 H2 h=>⟨m,Nat.lt_succ_self _,h⟩,?_⟩
   refine hb F S' M' τ1 σ' H1 _ o hnp f1 e3 ?_
   cases o with
   |nx τ4=>exact fun S4 M4 σ4 H4 f4 k4=>⟨S4,M4,τ4,f4,k1.trans k4,hl⟩
   |ct τ4=>exact fun S4 M4 σ4 H4 f4 k4=>⟨S4,M4,τ4,f4,k1.trans k4,hl⟩
   |bk τ4=>cases hl;exact fun S4 M4 σ4 H4 f4 k4=>q S4 M4 σ4 H4 f4 (k1.trans k4)
   |rt d τ4=>cases hl;exact fun S4 M4 σ4 H4 v f4 k4=>q S4 M4 σ4 H4 v f4 k4
def fin:List L->DS->Option (List L)
 |[],_=>some []
 |.d x::ls,_::τ=>(fin ls τ).map (.d x::·)
 |.c x::ls,_::τ=>(fin ls τ).map (.c x::·)
 |.m _::ls,some (.m xs)::τ=>(fin ls τ).map (.m xs::·)
 |.k _::ls,some (.k xs)::τ=>(fin ls τ).map (.k xs::·)
 |_,_=>none
def Bc(fr:Bool)(np nl:Nat)(b:DB)(ls:List L):Option (PyData×List L):=if ls.length=np then (b (ls.map some++List.replicate nl none)).bind fun o=>match o with
  |.nx τ=>if fr=true then none else (fin ls τ).map fun ls'=>(.none,ls')
  |.rt d τ=>(fin ls τ).map fun ls'=>(d,ls')
  |_=>none
 else none
theorem Jz:∀{ls:List L} {τ:DS} {ls':List L} {i:Nat} {l:L},fin ls τ=some ls'->ls'[i]?=some l->match l with
  |.d x=>ls[i]?=some (.d x)
  |.c x=>ls[i]?=some (.c x)
  |.m xs=>(∃ys,ls[i]?=some (.m ys))/\τ[i]?=some (some (.m xs))
  |.k xs=>(∃ys,ls[i]?=some (.k ys))/\τ[i]?=some (some (.k xs))
  |.g _=>False
 |[],_,_,_,_,h,e=>by cases h;simp at e
 |.d x::ls,o::τ,_,i,l,h,e=>by
  obtain⟨zs,h1,h⟩:=oM h
  subst h
  cases i with
  |zero=>cases e;rfl
  |succ i =>
   have:=Jz (i:=i) (l:=l) h1 (by simpa using e)
   cases l<;>simpa using this
 |.c x::ls,o::τ,_,i,l,h,e=>by
  obtain⟨zs,h1,h⟩:=oM h
  subst h
  cases i with
  |zero=>cases e;rfl
  |succ i =>
   have:=Jz (i:=i) (l:=l) h1 (by simpa using e)
   cases l<;>simpa using this
 |.m x::ls,some (.m xs)::τ,_,i,l,h,e=>by
  obtain⟨zs,h1,h⟩:=oM h
  subst h
  cases i with
  |zero=>cases e;exact⟨⟨_,rfl⟩,rfl⟩
  |succ i =>
   have:=Jz (i:=i) (l:=l) h1 (by simpa using e)
   cases l<;>simpa using this
 |.k x::ls,some (.k xs)::τ,_,i,l,h,e=>by
  obtain⟨zs,h1,h⟩:=oM h
  subst h
  cases i with
  |zero=>cases e;exact⟨⟨_,rfl⟩,rfl⟩
  |succ i =>
   have:=Jz (i:=i) (l:=l) h1 (by simpa using e)
   cases l<;>simpa using this
theorem RM:∀{ls:List L} {τ:DS} {ls':List L},fin ls τ=some ls'->ls'.length=ls.length
 |[],_,_,h=>by cases h;rfl
 |.d x::ls,o::τ,_,h=>by
  obtain⟨zs,h1,h⟩:=oM h
  subst h
  rw[List.length_cons,List.length_cons,RM h1]
 |.c x::ls,o::τ,_,h=>by
  obtain⟨zs,h1,h⟩:=oM h
  subst h
  rw[List.length_cons,List.length_cons,RM h1]
 |.m x::ls,some (.m xs)::τ,_,h=>by
  obtain⟨zs,h1,h⟩:=oM h
  subst h
  rw[List.length_cons,List.length_cons,RM h1]
 |.k x::ls,some (.k xs)::τ,_,h=>by
  obtain⟨zs,h1,h⟩:=oM h
  subst h
  rw[List.length_cons,List.length_cons,RM h1]
theorem YB:∀{ls:List L} {τ:DS} {ls':List L},fin ls τ=some ls'->∀(i:Nat) (d:PyData),ls[i]?≠some (.g d)
 |[],_,_,_,i,d=>by simp
 |.d x::ls,o::τ,_,h,i,d=>by
  obtain⟨zs,h1,h⟩:=oM h
  cases i with
  |zero=>simp
  |succ i=>simpa using YB h1 i d
 |.c x::ls,o::τ,_,h,i,d=>by
  obtain⟨zs,h1,h⟩:=oM h
  cases i with
  |zero=>simp
  |succ i=>simpa using YB h1 i d
 |.m x::ls,some (.m xs)::τ,_,h,i,d=>by
  obtain⟨zs,h1,h⟩:=oM h
  cases i with
  |zero=>simp
  |succ i=>simpa using YB h1 i d
 |.k x::ls,some (.k xs)::τ,_,h,i,d=>by
  obtain⟨zs,h1,h⟩:=oM h
  cases i with
  |zero=>simp
  |succ i=>simpa using YB h1 i d
theorem Zm{ls:List L}{τ:DS}{ls':List L}{i:Nat}{x:Ow}(h:fin ls τ=some ls')(e:ls'[i]?=some x.L):(∃ys:Ow,ls[i]?=some ys.L)/\τ[i]?=some (some x.L):=by
 cases x with
 |l xs=>obtain⟨⟨ys,h1⟩,h2⟩:=Jz h e;exact⟨⟨.l ys,h1⟩,h2⟩
 |t xs=>obtain⟨⟨ys,h1⟩,h2⟩:=Jz h e;exact⟨⟨.t ys,h1⟩,h2⟩
theorem Gn{α β:Type}{f:α->β}{xs:List α}{i:Nat}{y:β}(h:(xs.map f)[i]?=some y):∃x,xs[i]?=some x/\f x=y:=by
 rw[List.getElem?_map]at h
 cases e:xs[i]? with
 |none=>rw[e]at h;cases h
 |some x=>rw[e]at h;exact⟨x,rfl,Option.some.inj h⟩
theorem A3{G:List L->Option (PyData×List L)}{fr:Bool}{vs:List V}{H:Hp}{Q:VK}{X:XK}{np:Nat}(hG:∀ls r,G ls=some r->ls.length=np)(h:spD K G fr vs H Q X):vs.length=np:=by
 obtain⟨S,M,ls,r,ls',hR,e,_⟩:=h
 have:=hR.len
 rw[List.length_map,List.length_map]at this
 rw[this,hG _ _ e]
theorem Ad{fr:Bool}{np nl:Nat}{b:DB}:∀ls r,Bc fr np nl b ls=some r->ls.length=np:=fun ls r h=>by
 unfold Bc at h
 split at h
 ·assumption
 ·cases h
theorem A2{np nl:Nat}{t:TS}{fr:Bool}{b:DB}{N:List Str}{vs:List V}{H:Hp}{Q:VK}{X:XK}(hb:B K np t fr b)(hN:N.length=np+nl)(h:spD K (Bc fr np nl b) fr vs H Q X):t { nx:=fun _ H'=>Q .non H',rt:=Q } (L2.start N vs) H:=by
 obtain⟨S,M,ls,r,ls',hR,e,q⟩:=h
 have hlen:=Ad _ _ e
 have hvl:vs.length=ls.length:=by have:=hR.len;rw[List.length_map,List.length_map]at this;exact this
 unfold Bc at e
 rw[if_pos hlen]at e
 obtain⟨o,e1,e⟩:=oB e
 have est:L2.start N vs=vs.map some++List.replicate nl none:=by
  unfold L2.start
  rw[hN,hvl,hlen,Nat.add_sub_cancel_left]
 rw[est]
 -- the entry
 have lsm:∀(i:Nat) (l:L),(ls.map some++List.replicate nl none:DS)[i]?=some (some l)->ls[i]?=some l:=fun i l h=>by
  by_cases hi:i<ls.length
  ·rw[List.getElem?_append_left (by rw[List.length_map];exact hi)]at h
   obtain⟨x,h1,h2⟩:=Gn h
   cases h2;exact h1
  ·rw[List.getElem?_append_right (by rw[List.length_map];omega),List.getElem?_replicate]at h
   split at h<;>cases h
 have vsm:∀(i:Nat) (v:V),(vs.map some)[i]?=some (some v)->(vs.map some++List.replicate nl none:St)[i]?=some (some v):=fun i v h=>by
  rw[List.getElem?_append_left (List.getElem?_eq_some_iff.mp h).1];exact h
 have vsb:∀(i:Nat) (v:V),(vs.map some++List.replicate nl none:St)[i]?=some (some v)->(vs.map some)[i]?=some (some v):=fun i v h=>by
  by_cases hi:i<(vs.map some).length
  ·rw[List.getElem?_append_left hi]at h;exact h
  ·rw[List.getElem?_append_right (by omega),List.getElem?_replicate]at h
   split at h<;>cases h
 have lm:∀(i:Nat) (l:L),ls[i]?=some l->(ls.map some)[i]?=some (some l):=fun i l h=>by rw[List.getElem?_map,h];rfl
 let Mx:Addr->Prop:=fun a=>∃(i:Nat) (xs:Ow),ls[i]?=some xs.L/\vs[i]?=some (.ref a)
 let ar:List (Option V):=(ls.zip vs).map fun p=>match p.1 with
  |.m _=>some p.2
  |.k _=>some p.2
  |_=>none
 have arg:∀(i:Nat) (v:V),ar[i]?=some (some v)->∃xs:Ow,ls[i]?=some xs.L/\vs[i]?=some v:=fun i v h=>by
  obtain⟨⟨l,u⟩,h1,h2⟩:=Gn h
  rw[List.getElem?_zip_eq_some]at h1
  cases l with
  |d x=>cases h2
  |c x=>cases h2
  |m xs=>cases h2;exact⟨.l xs,h1.1,h1.2⟩
  |k xs=>cases h2;exact⟨.t xs,h1.1,h1.2⟩
  |g x=>cases h2
 have gar:∀(i:Nat) (xs:Ow) (v:V),ls[i]?=some xs.L->vs[i]?=some v->ar[i]?=some (some v):=fun i xs v h1 h2=>by
  show((ls.zip vs).map _)[i]?=_
  rw[List.getElem?_map,(List.getElem?_zip_eq_some (z:=(xs.L,v))).mpr ⟨h1,h2⟩]
  cases xs<;>rfl
 have Msub:∀a,Mx a->M a:=fun a ⟨i,xs,h1,h2⟩=>by
  obtain⟨b',us,h3,h4,_⟩:=hR.mt i xs (lm i _ h1)
  rw[List.getElem?_map,h2]at h3
  cases h3;exact h4
 have hng:∀(i:Nat) (d:PyData),ls[i]?≠some (.g d):=by
  cases o with
  |nx τ' =>
   cases fr with
   |false=>obtain⟨ls1,e2,_⟩:=oM e;exact YB e2
   |true=>cases e
  |bk τ'=>cases e
  |ct τ'=>cases e
  |rt d τ'=>obtain⟨ls1,e2,_⟩:=oM e;exact YB e2
 have f0:RF K ⟨S,Mx,H,ar⟩ S Mx (ls.map some++List.replicate nl none) (vs.map some++List.replicate nl none) H:=by
  refine ⟨⟨by simp [hvl], fun i x h => ?_, fun i x h => ?_, fun i x h => ?_, fun i j xs ys a h1 h2 h3 h4 => hR.inj i j xs ys a (lm _ _ (lsm _ _ h1)) (lm _ _ (lsm _ _ h2)) (vsb _ _ h3) (vsb _ _ h4), fun a h => hR.sub a (Msub a h), hR.ex, GR.nil fun i d h => hng i d (lsm i _ h)⟩,
   fun a h=>h,fun b o h _=>h,fun a h=>.inl h,fun a h=>h,hR.ex,fun a h=>hR.sub a (Msub a h),fun a h=>.inl h,fun i v h=>?_,fun i v h=>?_,fun a ⟨i,xs,h1,h2⟩=>⟨i,gar i xs _ h1 h2⟩⟩
  ·obtain⟨v,h1,h2⟩:=hR.dat i x (lm _ _ (lsm _ _ h))
   exact⟨v,vsm _ _ h1,h2⟩
  ·obtain⟨a,us,h1,h2,h3,h4⟩:=hR.mt i x (lm _ _ (lsm _ _ h))
   refine⟨a,us,vsm _ _ h1,⟨i,x,lsm _ _ h,?_⟩,h3,h4⟩
   obtain⟨v,h5,h6⟩:=Gn h1
   cases h6;exact h5
  ·obtain⟨a,us,h1,h2⟩:=hR.cst i x (lm _ _ (lsm _ _ h))
   exact⟨a,us,vsm _ _ h1,h2⟩
  ·obtain⟨xs,h1,h2⟩:=arg i v h
   exact vsm _ _ (by rw[List.getElem?_map,h2];rfl)
  ·obtain⟨xs,h1,h2⟩:=arg i v h
   refine⟨xs,?_⟩
   rw[List.getElem?_append_left (by rw[List.length_map];exact(List.getElem?_eq_some_iff.mp h1).1)]
   exact lm _ _ h1
 have hnp:ar.length<=np:=by
  show((ls.zip vs).map _).length<=np
  rw[List.length_map,List.length_zip]
  omega
 -- the end
 have done:∀{S' M' τ' σ' H' d v} {ls1:List L},RF K ⟨S,Mx,H,ar⟩ S' M' τ' σ' H'->fin ls τ'=some ls1->(r,ls')=(d,ls1)->Res K fr S H H' d v->Q v H':=fun {S' M' τ' σ' H' d v ls1} f hf er res=>by
  cases er
  have k:Keep S H S H':=fun b o hn e=>⟨hn,f.old b o e fun z=>hn (hR.sub b (Msub b z))⟩
  refine q v H' ⟨?_,fun i x h=>?_,fun i x h=>?_,fun i x h=>?_,fun i j xs ys a h1 h2 h3 h4=>?_,hR.sub,fun a h=>f.r.ex a (f.sS a h),GR.nil fun i d h=>?_⟩ (fun b o hn e=>f.old b o e fun z=>hn (Msub b z)) res
  ·rw[List.length_map,List.length_map,RM hf,hvl]
  ·obtain⟨l,h1,h2⟩:=Gn h
   cases h2
   have:=Jz hf h1
   obtain⟨v,h3,h4⟩:=hR.dat i x (lm _ _ this)
   exact⟨v,h3,h4.mono k.same⟩
  ·obtain⟨l,h1,h2⟩:=Gn h
   cases h2
   obtain⟨⟨ys,h3⟩,h4⟩:=Zm hf h1
   obtain⟨a,us,h5,h6,h7,h8⟩:=f.r.mt i x h4
   obtain⟨b,ws,g1,g2,_⟩:=hR.mt i ys (lm _ _ h3)
   obtain⟨u,g3,g4⟩:=Gn g1
   cases g4
   have:=f.par i _ (gar i ys _ h3 g3)
   rw[h5]at this;cases this
   exact⟨a,us,g1,g2,h7,h8.mono (L3 f.sS)⟩
  ·obtain⟨l,h1,h2⟩:=Gn h
   cases h2
   have:=Jz hf h1
   obtain⟨a,us,h3,h4,h5⟩:=hR.cst i x (lm _ _ this)
   exact⟨a,us,h3,k.same.seq h4,h5.mono k.same⟩
  ·obtain⟨l1,g1,g2⟩:=Gn h1
   obtain⟨l2,g3,g4⟩:=Gn h2
   cases g2;cases g4
   obtain⟨⟨zs,h5⟩,_⟩:=Zm hf g1
   obtain⟨⟨ws,h6⟩,_⟩:=Zm hf g3
   exact hR.inj i j zs ws a (lm _ _ h5) (lm _ _ h6) h3 h4
  ·obtain⟨l,h1,h2⟩:=Gn h
   cases h2
   exact Jz hf h1
 refine hb ⟨S,Mx,H,ar⟩ S Mx _ _ H _ o hnp f0 e1 ?_
 cases o with
 |nx τ' =>
  cases fr with
  |false =>
   obtain⟨ls1,e2,e⟩:=oM e
   intro S' M' σ' H' f k
   exact done f e2 e.symm rfl
  |true=>cases e
 |bk τ'=>cases e
 |ct τ'=>cases e
 |rt d τ' =>
  obtain⟨ls1,e2,e⟩:=oM e
  intro S' M' σ' H' v f res
  exact done f e2 e.symm res
end DL
end
section
namespace DL
open PySem L2 PyProof.Rows
variable {K:KW}
def Dw:List PyData->Option PyData
 |[.list xs]=>some (.int xs.length)
 |[.tuple xs]=>some (.int xs.length)
 |[.str x]=>if x.length<=sizeLine then some (.int x.length) else none
 |_=>none
theorem GL:BR K false (fun xs H Q=>∃x n,xs=[x]/\ng K x H n/\Q (.int n) H) Dw:=by
 intro S H vs ds d Q _ l e q
 unfold Dw at e
 split at e
 ·cases e
  obtain⟨v,us,rfl,⟨a,ws,rfl,h,lw⟩,iu⟩:=l
  cases (show us=[] from iu)
  exact⟨_,ws.length,rfl,.inl ⟨ws,SqL.of (hid_iff.mp h).2,rfl⟩,q _ H (fun _ _ e=>e) (by rw[lw.length];rfl)⟩
 ·cases e
  obtain⟨v,us,rfl,⟨a,ws,rfl,h,lw⟩,iu⟩:=l
  cases (show us=[] from iu)
  exact⟨_,ws.length,rfl,.inr ⟨ws,Same.tup same_hid h,rfl⟩,q _ H (fun _ _ e=>e) (by rw[lw.length];rfl)⟩
 ·split at e
  ·rename_i hz
   cases e
   obtain⟨v,us,rfl,iv,iu⟩:=l
   cases (show us=[] from iu)
   cases (show v = .str _ from iv)
   exact⟨_,_,rfl,⟨hz,rfl⟩,q _ H (fun _ _ e=>e) rfl⟩
  ·cases e
 ·cases e
def f1(g:Int->Int):List PyData->Option PyData
 |[.int i]=>some (.int (g i))
 |_=>none
def f2(g:Int->Int->Int):List PyData->Option PyData
 |[.int i,.int j]=>some (.int (g i j))
 |_=>none
theorem c_1{g:Int->Int}:BR K false (fun xs H Q=>∃i,xs=[.int i]/\Q (.int (g i)) H) (f1 g):=by
 intro S H vs ds d Q _ l e q
 unfold f1 at e
 split at e
 ·cases e
  obtain⟨v,us,rfl,iv,iu⟩:=l
  cases (show us=[] from iu)
  cases (show v = .int _ from iv)
  exact⟨_,rfl,q _ H (fun _ _ e=>e) rfl⟩
 ·cases e
def VZ:=f1 fun i=>if i<0 then -i else i
def VX:=f2 fun i j=>if j>i then j else i
def VW:=f2 fun i j=>if j<i then j else i
theorem jo:BR K false (fun xs H Q=>∃i,xs=[.int i]/\Q (.int (if i<0 then -i else i)) H) VZ:=c_1
def MC:List PyData->Option PyData
 |[.int i]=>some (.int i)
 |[.bool b]=>some (.int (if b then 1 else 0))
 |_=>none
theorem jm:BR K false (fun xs H Q=>(∃i,xs=[.int i]/\Q (.int i) H)\/∃k,xs=[.bl k]/\Q (.int (if k then 1 else 0)) H) MC:=by
 intro S H vs ds d Q _ l e q
 unfold MC at e
 split at e
 ·cases e
  obtain⟨v,us,rfl,iv,iu⟩:=l
  cases (show us=[] from iu)
  cases (show v = .int _ from iv)
  exact .inl ⟨_,rfl,q _ H (fun _ _ e=>e) rfl⟩
 ·cases e
  obtain⟨v,us,rfl,iv,iu⟩:=l
  cases (show us=[] from iu)
  cases (show v = .bl _ from iv)
  exact .inr ⟨_,rfl,q _ H (fun _ _ e=>e) rfl⟩
 ·cases e
def FH:List PyData->Option PyData
 |[.list xs]=>some (.list xs)
 |[.tuple xs]=>some (.list xs)
 |_=>none
theorem Z5:BR K true (fun xs H Q=>∃p ys,xs=[.ref p]/\(SqL K H p ys\/SqT K H p ys)/\∀l,H l=none->Q (.ref l) (upd H l (.lst ys))) FH:=by
 intro S H vs ds d Q _ l e q
 unfold FH at e
 split at e
 ·cases e
  obtain⟨v,us,rfl,⟨a,ws,rfl,h,lw⟩,iu⟩:=l
  cases (show us=[] from iu)
  exact⟨a,ws,rfl,.inl (SqL.of (hid_iff.mp h).2),fun p hp=>q _ _ (FI hp _) (Qo hp lw)⟩
 ·cases e
  obtain⟨v,us,rfl,⟨a,ws,rfl,h,lw⟩,iu⟩:=l
  cases (show us=[] from iu)
  exact⟨a,ws,rfl,.inr (Same.tup same_hid h),fun p hp=>q _ _ (FI hp _) (Qo hp lw)⟩
 ·cases e
def tyN:PyData->String
 |.none=>"NoneType"
 |.bool _=>"bool"
 |.int _=>"int"
 |.str _=>"str"
 |.list _=>"list"
 |.tuple _=>"tuple"
 |.dict _=>"dict"
def oJ(K:KW):List V->Hp->VK->Prop:=fun xs H Q=>∃x T d b,xs=[x,.ty T]/\Is K H d x/\PySem.W.kitOne K (.type (tyN d)) (.type T)=some b/\Q (.bl b) H
theorem EY{X:Cx}:Oc X (.builtin "isinstance") (oJ (QB X)):=by
 intro pins s σ H xs us Q I r h
 obtain⟨x,T,d,b,rfl,ix,k,q⟩:=h
 obtain⟨u,w',rfl,rx,rT⟩:=nk r
 cases (show w'=Value.type T from rT)
 have fin:∀tk,EP X pins σ Q (.bool b) { s with toks:=tk }:=fun tk=>⟨.bl b,H,I.tok _,rfl,q⟩
 cases d with
 |none=>cases (show x = .non from ix);exact L1 I rx .non k fin
 |bool y=>cases (show x = .bl y from ix);exact L1 I rx (.bl y) k fin
 |int y=>cases (show x = .int y from ix);exact L1 I rx (.int y) k fin
 |str y=>cases (show x = .str y from ix);exact L1 I rx (.str y) k fin
 |list y=>obtain⟨a,vs,rfl,h,_⟩:=ix;exact L1 I rx (.lst h) k fin
 |tuple y =>
  obtain⟨a,vs,rfl,h,_⟩:=ix
  cases (show u=Value.ref a from rx)
  obtain⟨its,_,⟨o,h1,h2,_⟩,_⟩:=I.tuple h
  exact PySem.W.kia_one PySem.W.kitx_tuple I.kIn ⟨o,h1,h2⟩ k (fun z=>nomatch z) fin
 |dict y =>
  obtain⟨a,ts,rfl,⟨ep,h⟩,_⟩:=ix
  cases (show u=Value.ref a from rx)
  obtain⟨⟨_,_,_,xs,pr,o,es,ho,he,hd,hes⟩,_,_⟩:=(show ObjOk X.prog X.w H s.heap a (.ext (kC a ts ep)) from I.hok a _ h)
  exact PySem.W.kia_one PySem.W.kitx_dict I.kIn ⟨o,ho,he.1⟩ k (fun z=>nomatch z) fin
def oh(T t:String):Bool:=t==T||(T=="int"&&t=="bool")
def kg(T:String)(d:PyData):Bool:=oh T (tyN d)
def mf(T:String):Bool:=["int","bool","str","list","tuple"].contains T
theorem gh{T t:String}(hT:T∈["int","bool","str","list","tuple"])(ht:t∈["NoneType","bool","int","str","list","tuple","dict"]):PySem.W.kitOne K (.type t) (.type T)=some (oh T t):=by
 simp only[List.mem_cons,List.not_mem_nil,or_false]at hT ht
 rcases hT with rfl|rfl|rfl|rfl|rfl<;>rcases ht with rfl|rfl|rfl|rfl|rfl|rfl|rfl<;>first
  |exact jO _
  |exact nA (by decide +kernel) (by decide +kernel) (by decide +kernel)
theorem ka{T:String}{d:PyData}(h:mf T=true):PySem.W.kitOne K (.type (tyN d)) (.type T)=some (kg T d) :=
 gh (by simpa[mf] using h) (by cases d<;>simp[tyN])
def Ic(T:String)(a:DX)(τ:DS):Option (PyData×DS):=(a τ).bind fun p=>if mf T then some (.bool (kg T p.1),p.2) else none
theorem ME{T:String}{fr:Bool}{t:TE}{a:DX}(ha:E K t fr a):E K (tCB (oJ K) (Sq t (Sq (tC (.ty T)) Yl))) false (Ic T a):=by
 refine⟨fun τ d τ' e=>?_,?_⟩
 ·unfold Ic at e
  obtain⟨⟨x,τ1⟩,e1,e⟩:=oB e
  split at e
  ·cases e;exact ha.like _ _ _ e1
  ·cases e
 intro S M τ σ H Q d τ' r e q
 unfold Ic at e
 obtain⟨⟨x,τ1⟩,e1,e⟩:=oB e
 split at e
 ·rename_i hT
  cases e
  refine ha.weak.run S M τ σ H _ x _ r e1 fun v H1 r1 c1 i1=>?_
  exact⟨v,T,x,_,rfl,Is.mono same_hid i1,ka hT,q _ H1 r1 c1 rfl⟩
 ·cases e
def E1(i j:Nat)(a:DA)(τ:DS):Option Out:=(a τ).bind fun p=>(Dl p.1).bind fun ds=>match ds with
 |[x,y]=>(dN i x p.2).bind fun τ1=>(dN j y τ1).map .nx
 |_=>none
theorem jv{np:Nat}{fr:Bool}{i j:Nat}{ta:TA}{a:DA}(ha:A K ta a):B K np (nv i j ta) fr (E1 i j a):=by
 intro F S M τ σ H D out hnp f ee q
 unfold E1 at ee
 obtain⟨⟨x,τ1⟩,e1,ee⟩:=oB ee
 obtain⟨ds,e2,ee⟩:=oB ee
 split at ee
 ·rename_i x y
  obtain⟨τ2,e3,ee⟩:=oB ee
  obtain⟨τ3,e4,ee⟩:=oM ee
  cases ee
  refine ha.run S M τ σ H _ _ τ1 f.r e1 fun vs H1 r1 c1 i1=>?_
  obtain⟨v,us,rfl,iv,w,us',rfl,iw,iu⟩:=J9 i1 e2
  cases (show us'=[] from iu)
  refine⟨v,w,rfl,?_⟩
  have f1:=f.step r1 c1 (ha.like _ _ _ e1)
  refine(Aa (K:=K) (i:=i)).run S M τ1 σ H1 v x τ2 (fun σ' H'=>D.nx (σ'.set j (some w)) H') r1 iv e3 fun σ2 r2 k2=>?_
  have f2:=f1.stay r2 ((Aa (K:=K) (i:=i)).ms _ _ _ e3) k2
  refine(Aa (K:=K) (i:=j)).run S M τ2 σ2 H1 w y τ3 (fun σ' H'=>D.nx σ' H') r2 iw e4 fun σ3 r3 k3=>?_
  exact q S M σ3 H1 (f2.stay r3 ((Aa (K:=K) (i:=j)).ms _ _ _ e4) k3) (c1.keep f.r.sub)
 ·cases ee
end DL
end
section
namespace DL
open PySem L2
variable {K:KW}
def Ii(i:Nat)(f:DT)(τ:DS):Option (Bool×DS):=match τ[i]? with
 |some (some (.m xs))=>(f (τ.set i (some (.d (.list xs))))).bind fun q=>if q.2.all okM then some (q.1,q.2.set i (some (.m xs))) else none
 |some (some (.k xs))=>(f (τ.set i (some (.d (.dict (XT xs)))))).bind fun q=>if q.2.all okM then some (q.1,q.2.set i (some (.k xs))) else none
 |_=>none
theorem Vv{i:Nat}{f:DT}{τ:DS}{d:Bool}{τ':DS}(e:Ii i f τ=some (d,τ')):∃w τ1,τ[i]?=some (some (Ow.L w))/\f (τ.set i (some (.d w.D)))=some (d,τ1)/\τ1.all okM=true/\τ'=τ1.set i (some w.L):=by
 unfold Ii at e
 split at e
 ·rename_i xs hx
  obtain⟨⟨z,τ1⟩,e1,e⟩:=oB e
  dsimp only at e
  split at e
  ·rename_i h
   cases e
   exact⟨.l xs,τ1,hx,e1,h,rfl⟩
  ·cases e
 ·rename_i xs hx
  obtain⟨⟨z,τ1⟩,e1,e⟩:=oB e
  dsimp only at e
  split at e
  ·rename_i h
   cases e
   exact⟨.t xs,τ1,hx,e1,h,rfl⟩
  ·cases e
 ·cases e
theorem lS{i:Nat}{t:TT}{f:DT}(h:T K t f):T K t (Ii i f):=by
 refine⟨fun τ d τ' e=>?_,?_⟩
 ·obtain⟨xs,τ1,e1,e2,_,rfl⟩:=Vv e
  exact VB e1 (h.like _ _ _ e2)
 intro S M τ σ H Q d τ' r e q
 obtain⟨xs,τ1,e1,e2,ok,rfl⟩:=Vv e
 obtain⟨p,us,hp,hM,hl,ll⟩:=r.mt i xs e1
 refine h.run _ _ _ σ H _ d τ1 (frz r e1 hp) e2 fun H' r' c=>?_
 exact q H' (iH r e1 hp r' (h.like _ _ _ e2) c ok) (fun b o hn e=>c b o (fun z=>hn z.1) e)
def FD(τ:DS):Option (Bool×DS):=some (true,τ)
theorem Ql:T K nr FD:=by
 refine⟨fun τ d τ' e=>?_,?_⟩
 ·cases e;exact .refl
 intro S M τ σ H Q d τ' r e q
 cases e
 exact q H r .refl
def jK(N':List Str)(own:Nat)(fr:List Nat)(scope:Scope)(N:List Str)(sc:Scope):Bool :=
 (scope.kind==.function)&&decide (N'.length=own+fr.length)&&(scope.names.all fun y=>y.2 != .cell)&&(scope.names.all fun y=>y.2 != .local||scope.names.lookup y.1==some .local) &&
 (scope.names.all fun y=>y.2 != .free||sc.names.lookup y.1==some .cell||sc.names.lookup y.1==some .free) &&
 (fr.zipIdx.all fun p=>match N'[own+p.2]?,N[p.1]? with|some x,some y=>decide (x=y)&&scope.names.lookup x==some .free|_,_=>false)
theorem Ji{X:Cx}{N':List Str}{own:Nat}{fr:List Nat}{scope:Scope}{N:List Str}{sc:Scope}(hN:X.N=N)(hs:X.env.scope=sc)(h:jK N' own fr scope N sc=true):iB X N' own fr scope:=by
 unfold jK at h
 simp only[Bool.and_eq_true]at h
 obtain⟨⟨⟨⟨⟨h1,h2⟩,h3⟩,h4⟩,h5⟩,h6⟩:=h
 subst hN hs
 refine⟨eq_of_beq h1,of_decide_eq_true h2,fun y hy=>?_,fun y hy e=>?_,fun x hx=>?_,fun k j e=>?_⟩
 ·have:=List.all_eq_true.mp h3 y hy
  intro z
  rw[z]at this
  simp at this
 ·have:=List.all_eq_true.mp h4 y hy
  rw[e]at this
  simpa using this
 ·have:=List.all_eq_true.mp h5 _ hx
  simpa using this
 ·have hm:(j,k)∈fr.zipIdx:=by
   rw[List.mem_zipIdx_iff_getElem?]
   exact e
  have:=List.all_eq_true.mp h6 _ hm
  dsimp only at this
  split at this
  ·rename_i x y hx hy
   rw[Bool.and_eq_true]at this
   have e1:x=y:=of_decide_eq_true this.1
   subst e1
   exact⟨x,hx,hy,eq_of_beq this.2⟩
  ·cases this
end DL
end
section
namespace DL
open PySem L2
theorem B6{τ:DS}:fin [] τ=some []:=by cases τ<;>rfl
theorem EA{x:PyData}{ls:List L}{o:Option L}{τ:DS}:fin (.d x::ls) (o::τ)=(fin ls τ).map (.d x::·):=rfl
theorem EB{x:List PyData}{ls:List L}{o:Option L}{τ:DS}:fin (.c x::ls) (o::τ)=(fin ls τ).map (.c x::·):=rfl
theorem D1{x xs:List PyData}{ls:List L}{τ:DS}:fin (.m x::ls) (some (.m xs)::τ)=(fin ls τ).map (.m xs::·):=rfl
theorem A5{fr:Bool}{np nl:Nat}{b:DB}{ls ls':List L}{d:PyData}{τ:DS}(h:b (ls.map some++List.replicate nl none)=some (.rt d τ))(hl:ls.length=np)(hf:fin ls τ=some ls'):Bc fr np nl b ls=some (d,ls'):=by
 unfold Bc
 rw[if_pos hl,h]
 show(fin ls τ).map _=_
 rw[hf]
 rfl
theorem AR{a b:DB}{τ τ1:DS}(h:a τ=some (.nx τ1)):Af a b τ=b τ1:=by
 unfold Af
 rw[h]
 rfl
theorem Fh{a b:DB}{τ τ1:DS}{d:PyData}(h:a τ=some (.rt d τ1)):Af a b τ=some (.rt d τ1):=by
 unfold Af
 rw[h]
 rfl
theorem BX{e:DX}{g:DG}{τ τ1 τ2:DS}{d:PyData}(h:e τ=some (d,τ1))(k:g d τ1=some τ2):Ak e g τ=some (.nx τ2):=by
 unfold Ak
 rw[h]
 show(g d τ1).map _=_
 rw[k]
 rfl
theorem Bs{e:DX}{τ τ1:DS}{d:PyData}(h:e τ=some (d,τ1)):Ax e τ=some (.rt d τ1):=by
 unfold Ax
 rw[h]
 rfl
theorem M8{c:DT}{a b:DB}{τ τ1:DS}(h:c τ=some (true,τ1)):BK c a b τ=a τ1:=by
 unfold BK
 rw[h]
 rfl
theorem Cp{c:DT}{a b:DB}{τ τ1:DS}(h:c τ=some (false,τ1)):BK c a b τ=b τ1:=by
 unfold BK
 rw[h]
 rfl
theorem AZ{G:List L->Option (PyData×List L)}{a:DA}{τ τ1:DS}{rs:List Ar}{ds:List PyData}{r:PyData}{ls:List L}(h:a τ=some (rs,τ1))(k:Dl rs=some ds)(g:G (ds.map L.d)=some (r,ls)):AU G a τ=some (r,τ1):=by
 unfold AU
 rw[h]
 show(Dl rs).bind _=_
 rw[k]
 show(G (ds.map L.d)).map _=_
 rw[g]
 rfl
theorem Kv{i:Nat}{G:List L->Option (PyData×List L)}{a:DA}{τ τ1:DS}{rs:List Ar}{ds:List PyData}{r:PyData}{ls:List L}{xs:List PyData}(h:a τ=some (rs,τ1))(k:Dl rs=some ds)(m:τ1[i]?=some (some (.c xs)))(g:G (.c xs::ds.map L.d)=some (r,ls)):Bf i G a τ=some (r,τ1):=by
 unfold Bf
 rw[h]
 show(Dl rs).bind _=_
 rw[k]
 show(match τ1[i]? with|some (some (.c xs))=>_|_=>_)=_
 rw[m]
 show(G (.c xs::ds.map L.d)).map _=_
 rw[g]
 rfl
theorem Ht{it:DI}{g:DG}{b:DB}{τ τ1:DS}{ds:List PyData}(h:it τ=some (ds,τ1)):Hv it g b τ=ER g b ds τ1:=by
 unfold Hv
 rw[h]
 rfl
theorem X7{α:Type}{enc:α->PyData}{g:DG}{b:DB}(J:List α->DS->Prop):∀{xs pre:List α} {τ:DS},J pre τ->(∀x pre τ,x∈xs->J pre τ->∃τ1 τ2,g (enc x) τ=some τ1/\b τ1=some (.nx τ2)/\J (pre++[x]) τ2)->∃τ',ER g b (xs.map enc) τ=some (.nx τ')/\J (pre++xs) τ'
 |[],pre,τ,h0,_=>⟨τ,rfl,by rw[List.append_nil];exact h0⟩
 |x::xs,pre,τ,h0,h=>by
  obtain⟨τ1,τ2,e1,e2,h1⟩:=h x pre τ List.mem_cons_self h0
  obtain⟨τ',e3,h3⟩:=X7 J (xs:=xs) (pre:=pre++[x]) (τ:=τ2) h1 (fun y p t hy hj=>h y p t (List.mem_cons_of_mem _ hy) hj)
  refine⟨τ',?_,by rw[List.append_assoc]at h3;exact h3⟩
  rw[List.map_cons,ER,e1]
  show(b τ1).bind _=_
  rw[e2]
  exact e3
theorem Zb{α:Type}{enc:α->PyData}{g:DG}{c:DT}{e:DX}(J:DS->Prop)(p:α->Bool)(f:α->PyData):∀{xs:List α} {acc:List PyData} {τ:DS},J τ ->
  (∀x τ,x∈xs->J τ->∃τ1 τ2,g (enc x) τ=some τ1/\c τ1=some (p x,τ2)/\(p x=false->J τ2)/\(p x=true->∃τ3,e τ2=some (f x,τ3)/\J τ3))->∃τ',JC g c e (xs.map enc) acc τ=some (acc++(xs.filter p).map f,τ')
 |[],acc,τ,h0,_=>⟨τ,by simp[JC]⟩
 |x::xs,acc,τ,h0,h=>by
  obtain⟨τ1,τ2,e1,e2,hf,ht⟩:=h x τ List.mem_cons_self h0
  have hr:∀y t,y∈xs->J t->_:=fun y t hy hj=>h y t (List.mem_cons_of_mem _ hy) hj
  cases hp:p x with
  |false =>
   obtain⟨τ',e3⟩:=Zb J p f (xs:=xs) (acc:=acc) (τ:=τ2) (hf hp) hr
   refine⟨τ',?_⟩
   rw[List.map_cons,JC,e1]
   show(c τ1).bind _=_
   rw[e2,hp]
   show JC g c e (xs.map enc) acc τ2=_
   rw[e3,List.filter_cons,hp]
   rfl
  |true =>
   obtain⟨τ3,e4,h4⟩:=ht hp
   obtain⟨τ',e3⟩:=Zb J p f (xs:=xs) (acc:=acc++[f x]) (τ:=τ3) h4 hr
   refine⟨τ',?_⟩
   rw[List.map_cons,JC,e1]
   show(c τ1).bind _=_
   rw[e2,hp]
   show(e τ2).bind _=_
   rw[e4]
   show JC g c e (xs.map enc) (acc++[f x]) τ3=_
   rw[e3,List.filter_cons,hp,List.append_assoc]
   rfl
theorem nO{own:Nat}{fr:List Nat}{it:DI}{g:DG}{c:DT}{e:DX}{τ τ1 τb:DS}{ds acc:List PyData}(h:it τ=some (ds,τ1))(hz:ds.length<=sizeLine)(hm:(fr.all fun j=>!isM τ1 j)=true)(hl:JC g c e ds [] (Z7 own fr τ1)=some (acc,τb)):dLC own fr it g c e τ=some (.list acc,τ1):=by
 unfold dLC
 rw[h]
 show(if ds.length<=sizeLine/\(fr.all fun j=>!isM τ1 j)=true then _ else _)=_
 rw[if_pos ⟨hz,hm⟩,hl]
 rfl
theorem sz{n:Nat}(h:n<=1000):n<=sizeLine:=Nat.le_trans h (by decide)
theorem sz'{n:Nat}(h:n<=1000):(n<=sizeLine)=True:=eq_true (sz h)
theorem jr{m:Int}(h0:0<m)(h1:m<10 ^ 70):Bd 8000 m:=by
 have:Bd 240 m:=Bd.of (m:=10 ^ 70) (by omega) (by omega) (by decide)
 exact this.mono (by decide)
theorem jj{K:KW}{H:Hp}{a:Addr}{xs:List V}(h:SqL K H a xs):SqL K (hid (fun _=>False) H) a xs:=Same.seq (fun b o e=>hid_iff.mpr ⟨fun z=>z,e⟩) h
theorem bV{K:KW}{H:Hp}:∀ns:List Int,IsL K H (ns.map PyData.int) (ns.map V.int)
 |[]=>rfl
 |_::ns=>⟨_,_,rfl,rfl,bV ns⟩
structure Enc{α:Type}[DecidableEq α](enc:α->PyData):Prop where
 eqv:∀a b,PyData.eqv (enc a) (enc b)=decide (a=b)
 can:∀a,(enc a).canLay0=true
 dep:∀a,(enc a).depth<=20
 fix:∀a,Ib (enc a)=true
section
variable {α:Type} [DecidableEq α] {enc:α->PyData}
theorem Enc.ok(h:Enc enc)(a:α):okD (enc a)=true:=by
 unfold okD SeqAt.shaped
 rw[Bool.and_eq_true]
 exact⟨h.can a,decide_eq_true (Nat.le_trans (h.dep a) (by decide))⟩
theorem Enc.canL(h:Enc enc):∀xs:List α,PyData.canLayAll0 (xs.map enc)=true
 |[]=>rfl
 |x::xs=>by
  rw[List.map_cons,PyData.canLayAll0,h.can,Enc.canL h xs];rfl
theorem Enc.depL(h:Enc enc):∀xs:List α,PyData.depthAll (xs.map enc)<=20
 |[]=>Nat.zero_le _
 |x::xs=>by
  rw[List.map_cons,PyData.depthAll]
  have:=h.dep x
  have:=Enc.depL h xs
  omega
theorem Enc.okL(h:Enc enc)(xs:List α):okD (.list (xs.map enc))=true:=by
 unfold okD SeqAt.shaped
 rw[Bool.and_eq_true,PyData.canLay0,PyData.depth]
 exact⟨h.canL xs,decide_eq_true (by have:=h.depL xs;omega)⟩
theorem Enc.eqvL(h:Enc enc):∀xs ys:List α,PyData.eqvAll (xs.map enc) (ys.map enc)=decide (xs=ys)
 |[],[]=>rfl
 |[],_::_=>rfl
 |_::_,[]=>rfl
 |x::xs,y::ys=>by
  rw[List.map_cons,List.map_cons,PyData.eqvAll,h.eqv,Enc.eqvL h xs ys]
  by_cases e:x=y
  ·subst e
   by_cases e':xs=ys
   ·subst e';simp
   ·simp[e']
  ·simp[e]
theorem Enc.eqL(h:Enc enc)(xs ys:List α):PyData.eqv (.list (xs.map enc)) (.list (ys.map enc))=decide (xs=ys):=by
 rw[PyData.eqv];exact h.eqvL xs ys
theorem Enc.any(h:Enc enc)(x:α):∀xs:List α,((xs.map enc).any fun y=>PyData.eqv y (enc x))=decide (x∈xs)
 |[]=>by simp
 |y::ys=>by
  rw[List.map_cons,List.any_cons,h.eqv,Enc.any h x ys]
  by_cases e:y=x
  ·subst e;simp
  ·have:¬x=y:=fun z=>e z.symm
   simp[e,this]
theorem Enc.fixL(h:Enc enc):∀xs:List α,fixDs (xs.map enc)=true
 |[]=>rfl
 |x::xs=>by rw[List.map_cons,fixDs,h.fix,Enc.fixL h xs];rfl
theorem Enc.fEq(h:Enc enc)(a b:α):DL.fEq (enc a) (enc b)=some (.bool (decide (a=b))):=by
 unfold DL.fEq;rw[h.ok,h.ok,h.eqv];rfl
theorem Enc.fNe(h:Enc enc)(a b:α):DL.fNe (enc a) (enc b)=some (.bool (!decide (a=b))):=by
 unfold DL.fNe;rw[h.ok,h.ok,h.eqv];rfl
theorem Enc.fEqL(h:Enc enc)(a b:List α):DL.fEq (.list (a.map enc)) (.list (b.map enc))=some (.bool (decide (a=b))):=by
 unfold DL.fEq;rw[h.okL,h.okL,h.eqL];rfl
theorem Enc.fNeL(h:Enc enc)(a b:List α):DL.fNe (.list (a.map enc)) (.list (b.map enc))=some (.bool (!decide (a=b))):=by
 unfold DL.fNe;rw[h.okL,h.okL,h.eqL];rfl
theorem Enc.fIn(h:Enc enc)(a:α)(xs:List α):DL.fIn false (enc a) (.list (xs.map enc))=some (.bool (decide (a∈xs))):=by
 simp only[DL.fIn,h.ok,h.okL,h.any,Bool.and_self,if_true,Bool.false_eq_true,if_false]
theorem Enc.fNotIn(h:Enc enc)(a:α)(xs:List α):DL.fIn true (enc a) (.list (xs.map enc))=some (.bool (!decide (a∈xs))):=by
 simp only[DL.fIn,h.ok,h.okL,h.any,Bool.and_self,if_true]
end
theorem encI:Enc (α:=Int) PyData.int:=⟨fun a b=>by rw[PyData.eqv];by_cases h:a=b<;>simp[h],fun _=>rfl,fun _=>by rw[PyData.depth];decide,fun _=>rfl⟩
def ec(p:Int×Int):PyData:=.tuple [.int p.1,.int p.2]
theorem encC:Enc ec:=by
 refine⟨fun a b=>?_,fun _=>rfl,fun a=>?_,fun _=>rfl⟩
 ·unfold ec
  simp only[PyData.eqv,PyData.eqvAll,Bool.and_true]
  obtain⟨a1,a2⟩:=a
  obtain⟨b1,b2⟩:=b
  by_cases h1:a1=b1
  ·by_cases h2:a2=b2<;>simp[h1,h2]
  ·simp[h1]
 ·unfold ec;simp[PyData.depth,PyData.depthAll]
structure Bx where
 x:Int
 y:Int
 w:Int
 h:Int
 deriving DecidableEq
def eb(b:Bx):PyData:=.tuple [.int b.x,.int b.y,.int b.w,.int b.h]
end DL
end
section
namespace DL
open PySem L2
def rng(lo:Int)(n:Nat):List Int:=(List.range n).map fun(k:Nat)=>lo+(k:Int)
theorem Xw(lo:Int)(n:Nat):Nn lo n=(rng lo n).map PyData.int:=by
 unfold Nn rng
 rw[List.map_map]
 rfl
theorem mem_rng{lo v n:Int}:v∈rng lo n.toNat↔lo<=v/\v<lo+n:=by
 unfold rng
 rw[List.mem_map]
 constructor
 ·rintro⟨k,hk,rfl⟩
  rw[List.mem_range]at hk
  omega
 ·rintro⟨h1,h2⟩
  exact⟨(v-lo).toNat,by rw[List.mem_range];omega,by omega⟩
abbrev Cl:=Int×Int
def pe(x v:Int)(w:Nat):List Cl:=(rng x w).map fun u=>(u,v)
def cells(b:Bx):List Cl:=(rng b.y b.h.toNat).flatMap fun v=>pe b.x v b.w.toNat
def inB(b:Bx)(p:Cl):Prop:=b.x<=p.1/\p.1<b.x+b.w/\b.y<=p.2/\p.2<b.y+b.h
instance {b:Bx} {p:Cl}:Decidable (inB b p):=by unfold inB;infer_instance
def nM(o:Option L):Prop:=(∀xs,o≠some (.m xs))/\∀xs,o≠some (.k xs)
theorem De:nM none:=⟨fun xs z=>(nomatch z),fun xs z=>(nomatch z)⟩
theorem IP{x:PyData}:nM (some (.d x)):=⟨fun xs z=>(nomatch z),fun xs z=>(nomatch z)⟩
theorem HJ{i:Nat}{d:PyData}{τ:DS}{o:Option L}(h:τ[i]?=some o)(hn:nM o):dN i d τ=some (τ.set i (some (.d d))):=by
 unfold dN
 rw[h]
 cases o with
 |none=>rfl
 |some l=>cases l with
  |m xs=>exact absurd rfl (hn.1 xs)
  |k xs=>exact absurd rfl (hn.2 xs)
  |d x=>rfl
  |c x=>rfl
  |g x=>rfl
end DL
end
section
namespace DL
open PySem L2
variable {K:KW}
def isC(τ:DS)(j:Nat):Bool:=match τ[j]? with
 |some (some (.c _))=>true
 |_=>false
def dAS(i:Nat)(r:DA)(τ:DS):Option (List Ar×DS):=if (isM τ i||isC τ i)=true then (r τ).map fun q=>(.s i::q.1,q.2) else none
def mkL(τ:DS):List Ar->Option (List L)
 |[]=>some []
 |.d x::r=>(mkL τ r).map (.d x::·)
 |.s i::r=>match τ[i]? with
  |some (some (.m xs))=>(mkL τ r).map (.m xs::·)
  |some (some (.c xs))=>(mkL τ r).map (.c xs::·)
  |_=>none
def nMb:L->Bool
 |.m _=>false
 |.k _=>false
 |_=>true
def QY(k i:Nat)(G:List L->Option (PyData×List L))(a:DA)(τ:DS):Option (PyData×DS):=(a τ).bind fun p=>(mkL p.2 p.1).bind fun ls=>match p.1[k]?,ls[k]? with
 |some (.s j),some (.m _)=>if j=i/\(ls.set k (.d .none)).all nMb=true then (G ls).bind fun q=>match q.2[k]? with
   |some (.m xs)=>some (q.1,p.2.set i (some (.m xs)))
   |_=>none
  else none
 |_,_=>none
theorem TF{α:Type}{enc:α->PyData}{g:DG}{b:DB}{all:List α}(J:List α->DS->Prop)(h:∀pre x post τ,all=pre++x::post->J pre τ->∃τ1 τ2,g (enc x) τ=some τ1/\b τ1=some (.nx τ2)/\J (pre++[x]) τ2) :
  ∀{xs pre:List α} {τ:DS},all=pre++xs->J pre τ->∃τ',ER g b (xs.map enc) τ=some (.nx τ')/\J all τ'
 |[],pre,τ,e,h0=>⟨τ,rfl,by rw[e,List.append_nil];exact h0⟩
 |x::xs,pre,τ,e,h0=>by
  obtain⟨τ1,τ2,e1,e2,h1⟩:=h pre x xs τ e h0
  obtain⟨τ',e3,h3⟩:=TF J h (xs:=xs) (pre:=pre++[x]) (τ:=τ2) (by rw[e,List.append_assoc];rfl) h1
  refine⟨τ',?_,h3⟩
  rw[List.map_cons,ER,e1]
  show(b τ1).bind _=_
  rw[e2]
  exact e3
theorem Ge{α:Type}{enc:α->PyData}{g:DG}{b:DB}{xs:List α}{τ:DS}(J:List α->DS->Prop)(h0:J [] τ)(h:∀pre x post τ,xs=pre++x::post->J pre τ->∃τ1 τ2,g (enc x) τ=some τ1/\b τ1=some (.nx τ2)/\J (pre++[x]) τ2) :
  ∃τ',ER g b (xs.map enc) τ=some (.nx τ')/\J xs τ':=TF J h (pre:=[]) rfl h0
theorem Ss{n:Int}{τ τ1:DS}{a:DA}(h:a τ=some ([.d (.int n)],τ1))(h0:-100000<=n)(h1:n<=100000):dR1 a τ=some ((rng 0 n.toNat).map PyData.int,τ1):=by
 unfold dR1
 rw[h]
 show(if -(2 ^ 62)<=n/\n<2 ^ 62 then some (Nn 0 n.toNat,τ1) else none)=_
 rw[if_pos (by omega),Xw]
theorem Il{α:Type}{xs pre post:List α}{x:α}(e:xs=pre++x::post):pre.length<xs.length:=by rw[e,List.length_append,List.length_cons];omega
theorem Oe{α:Type}{xs pre post:List α}{x:α}(e:xs=pre++x::post):x∈xs:=by rw[e];exact List.mem_append_right _ List.mem_cons_self
end DL
end
section
namespace DL
open PySem PySem.Spec L2 PyProof.Rows
section
variable {prog:Program} {w:World} {A:Around} {s:Shared} {R:Result->Shared->Prop}
variable {I:Addr} {fp wr:List Addr} {G:Array GenState->Array GenState->Prop} {n:Nat} {P:Nat->Value->Prop} {St:Nat->Shared->Prop}
end
section
variable {prog:Program} {w:World} {A:Around} {E:Value->Shared->Prop} {s:Shared}
variable {I:Addr} {fp wr:List Addr} {G:Array GenState->Array GenState->Prop} {n:Nat} {P:Nat->Value->Prop} {St:Nat->Shared->Prop}
end
variable {K:KW}
def du(f:DX)(τ:DS):Option (PyData×DS):=(f τ).bind fun p=>match p.1 with
 |.list xs=>some (.list xs.reverse,p.2)
 |_=>none
theorem KR:okM none=true:=rfl
theorem Ul{x:PyData}:okM (some (.d x))=true:=rfl
theorem Um{x:List PyData}:okM (some (.c x))=true:=rfl
theorem Uk{x:List PyData}:okM (some (.m x))=fixDs x:=rfl
theorem Su{o:Option L}(h:nM o):okM o=true:=by
 cases o with
 |none=>rfl
 |some l=>cases l with
  |m xs=>exact absurd rfl (h.1 xs)
  |k xs=>exact absurd rfl (h.2 xs)
  |d x=>rfl
  |c x=>rfl
  |g x=>rfl
end DL
end
section
namespace Srt
open PySem PySem.W PyProof.Rows
variable {n:Nat} {r:Nat->Nat->Bool}
end Srt
end
section
namespace Srt
open PySem PySem.W PyProof.Rows HT
section
variable {prog:Program} {w:World} {A:Around} {E:Value->Shared->Prop} {s:Shared}
end
end Srt
end
section
namespace DL
open PySem L2 PyProof.Rows
variable {K:KW}
end DL
end
section
namespace DL
open PySem L2
variable {K:KW}
abbrev DO:=DS->Option (Option Int×DS)
structure OO(K:KW)(t:TO)(f:DO):Prop where
 like:∀τ b τ',f τ=some (b,τ')->Like τ τ'
 run:∀S M τ σ H (Q:Option Int->Hp->Prop) b τ',R K S M τ σ H->f τ=some (b,τ')->(∀H',R K S M τ' σ H'->Chg M H H'->Q b H')->t σ H Q
def J6:DO:=fun τ=>some (none,τ)
def dPt(f:DX):DO:=fun τ=>(f τ).bind fun p=>match p.1 with
 |.int i=>some (some i,p.2)
 |_=>none
theorem Lv:OO K eN J6:=⟨fun τ b τ' e=>by cases e;exact Like.refl,fun S M τ σ H Q b τ' r e q=>by cases e;exact q H r Chg.refl⟩
theorem Rl{fr:Bool}{t:TE}{f:DX}(h:E K t fr f):OO K (lU t) (dPt f):=by
 refine⟨fun τ b τ' e=>?_,?_⟩
 ·unfold dPt at e
  obtain⟨⟨x,τ1⟩,e1,e⟩:=oB e
  dsimp only at e
  split at e
  ·cases e;exact h.like _ _ _ e1
  ·cases e
 intro S M τ σ H Q b τ' r e q
 unfold dPt at e
 obtain⟨⟨x,τ1⟩,e1,e⟩:=oB e
 dsimp only at e
 split at e
 ·rename_i i
  cases e
  refine h.run S M τ σ H _ _ _ r e1 fun v H' r' c iv=>?_
  exact⟨i,(show v = .int i from r.isr iv),q H' r' c⟩
 ·cases e
def SX(xs:List PyData)(lo hi:Option Int):List PyData:=(xs.drop (HT.sIx xs.length 0 lo)).take (HT.sIx xs.length xs.length hi-HT.sIx xs.length 0 lo)
theorem bW{H:Hp}:∀{xs:List PyData} {vs:List V} (n:Nat),IsL K H xs vs->IsL K H (xs.drop n) (vs.drop n)
 |_,_,0,h=>h
 |[],_,n+1,h=>by rw[show _=[] from h];rfl
 |x::xs,_,n+1,⟨v,us,e,_,l⟩=>by subst e;exact bW n l
theorem bT{H:Hp}:∀{xs:List PyData} {vs:List V} (n:Nat),IsL K H xs vs->IsL K H (xs.take n) (vs.take n)
 |_,_,0,h=>rfl
 |[],_,n+1,h=>by rw[show _=[] from h];rfl
 |x::xs,_,n+1,⟨v,us,e,i,l⟩=>by subst e;exact⟨v,_,rfl,i,bT n l⟩
theorem fM{H:Hp}{xs:List PyData}{vs:List V}{lo hi:Option Int}(h:IsL K H xs vs):IsL K H (SX xs lo hi) (Xg vs lo hi):=by
 unfold SX Xg
 rw[h.length]
 exact bT _ (bW _ h)
def dSl(f:DX)(lo hi:DO)(τ:DS):Option (PyData×DS):=(f τ).bind fun p=>(lo p.2).bind fun l=>(hi l.2).bind fun u=>match p.1 with
 |.list xs=>some (.list (SX xs l.1 u.1),u.2)
 |_=>none
theorem ky{fr:Bool}{te:TE}{tl th:TO}{f:DX}{lo hi:DO}(h:E K te fr f)(hl:OO K tl lo)(hh:OO K th hi):E K (tSl (oE K) te tl th) true (dSl f lo hi):=by
 refine⟨fun τ d τ' e=>?_,?_⟩
 ·unfold dSl at e
  obtain⟨⟨x,τ1⟩,e1,e⟩:=oB e
  obtain⟨⟨l,τ2⟩,e2,e⟩:=oB e
  obtain⟨⟨u,τ3⟩,e3,e⟩:=oB e
  dsimp only at e
  split at e
  ·cases e;exact((h.like _ _ _ e1).trans (hl.like _ _ _ e2)).trans (hh.like _ _ _ e3)
  ·cases e
 intro S M τ σ H Q d τ' r e q
 unfold dSl at e
 obtain⟨⟨x,τ1⟩,e1,e⟩:=oB e
 obtain⟨⟨l,τ2⟩,e2,e⟩:=oB e
 obtain⟨⟨u,τ3⟩,e3,e⟩:=oB e
 dsimp only at e e2 e3
 cases x with
 |list xs =>
  cases e
  refine h.run S M τ σ H _ _ _ r e1 fun v1 H1 r1 c1 i1=>?_
  refine hl.run S M τ1 σ H1 _ _ _ r1 e2 fun H2 r2 c2=>?_
  refine hh.run S M τ2 σ H2 _ _ _ r2 e3 fun H3 r3 c3=>?_
  have i1':Is K (hid S H3) (.list xs) v1:=((r.isr i1).mono (c2.keep r1.sub).same).mono (c3.keep r2.sub).same
  obtain⟨a,vs,rfl,ha,la⟩:=i1'
  refine⟨a,vs,rfl,SqL.of (hid_iff.mp ha).2,fun p hp=>?_⟩
  have s:=FI hp (HO.lst (Xg vs l u))
  exact q _ _ (r3.same s) (((c1.trans c2).trans c3).trans (.of s)) ((Qo hp (fM la)).back r3 ((c1.trans c2).trans c3))
 |_=>cases e
end DL
end
section
namespace L2
open PySem PySem.Spec PyProof.Rows
section
variable {X:Cx} {pins:List (Addr×Obj)} {σ:L2.St} {H:Hp} {s:Shared}
theorem Inv.turned2{t':Nat}{i1 i2:Addr}{h':Heap}(I:Inv X pins σ H s)(k:∀b o,b≠i1->b≠i2->s.heap.get? b=some o->h'.get? b=some o)(f1:Sf X pins H i1)(f2:Sf X pins H i2):Inv X pins σ H { s with heap:=h',toks:=t' }:=by
 obtain⟨a0,a1,a2,a3,a4,a5⟩:=f1
 obtain⟨b0,b1,b2,b3,b4,b5⟩:=f2
 have n1:∀b u,H b=some u->b≠i1:=fun b u e z=>by rw[z,a0]at e;cases e
 have n2:∀b u,H b=some u->b≠i2:=fun b u e z=>by rw[z,b0]at e;cases e
 refine I.step (g':=s.gens) (d':=s.drawn) (ch:=[i1,i2]) (fun b hb=>?_) (fun b o _ _ hc e _=>k b o (fun z=>hc (by simp[z])) (fun z=>hc (by simp[z])) e) (fun b o _ _ hc e _=>⟨o.slots,k b o (fun z=>hc (by simp[z])) (fun z=>hc (by simp[z])) e⟩) (fun _ _ _ _ n=>n)
  (fun b o hc e=>⟨o,k b o (fun z=>hc (by simp[z])) (fun z=>hc (by simp[z])) e⟩) (fun _ _ e=>e) (fun _ _ _ e=>e) (fun b ps e=>⟨#[],by rw[e];simp⟩) (fun m hm=>?_) (fun b u e=>?_) I.bare
 ·have e:b=i1\/b=i2:=by simpa using hb
  rcases e with e|e
  ·subst e;exact⟨a3,a1,a4,a5⟩
  ·subst e;exact⟨b3,b1,b4,b5⟩
 ·obtain⟨o,es,ep,ho,r⟩:=hm
  exact⟨o,es,ep,k _ o (Ne.symm a1) (Ne.symm b1) ho,r⟩
 ·refine(I.hok b u e).stay (fun c v hc q=>k c v ?_ ?_ q) (fun _ q=>q) fun _ _ q=>q
  ·rcases hc with z|z
   ·rw[z];exact n1 b u e
   ·exact n1 c _ z
  ·rcases hc with z|z
   ·rw[z];exact n2 b u e
   ·exact n2 c _ z
end
def Ite(K:PySem.W.Frag)(a:Addr):It :=
 ⟨fun i H=>∃xs x,SqL K H a xs/\xs[i]?=some x,fun i H x H'=>∃(p:Addr) (v:V),H p=none/\x = .ref p/\(∀xs,SqL K H a xs->xs[i]?=some v)/\H'=upd H p (.tup [.int i,v]),fun i H=>∃xs,SqL K H a xs/\xs.length<=i⟩
theorem gB{P:Program}{w:World}{K:PySem.W.Frag}{elts:List Expr}{c1}{pos:Pos}(a e it:Addr)(hei:e≠it):cK P w K (.Tuple elts c1 pos) (Ite K a) [e,it] e (fun i h=>(∃old,IsEnum h e it i old)/\h.IsListIter it a i) where
 mem:=by simp
 obj:=fun i h st b hb=>by
  have q:b=e\/b=it:=by simpa using hb
  obtain⟨⟨old,he⟩,o,ho,c,d⟩:=st
  rcases q with rfl|rfl
  ·exact⟨_,he,fun v z=>by cases z⟩
  ·exact⟨o,ho,fun v z=>by rw[d]at z;cases z⟩
 keep:=fun i h h' st k=>⟨let ⟨old,he⟩:=st.1;⟨old,k e (by simp) _ he⟩,st.2.at fun o q=>k it (by simp) o q⟩
 item:=by
  intro X hP hw hK hc i pins s σ H E I hf st hg
  subst hP hw hK
  obtain⟨xs,x,hq,hx⟩:=hg
  obtain⟨its,rv,p,hz⟩:=I.list hq
  obtain⟨u,hu,ru⟩:=rv.get hx
  obtain⟨⟨old,he⟩,hit⟩:=st
  refine wpAny_pyNext_enum_item he hit p.isList (x:=u) (by simpa using hu) hei fun h1 ho hit1 ht hs1 k1=>?_
  refine⟨_,rfl,wpAny_letOwnedTupleGo_enum (s:={ s with heap:=h1,toks:=s.toks+1 }) ho fun h2 he2 sb=>?_⟩
  have fr:H s.heap.objs.size=none:=I.hok.fresh (Nat.le_refl _)
  have hlt1:e<s.heap.objs.size:=Heap.lt_size he
  have hlt2:it<s.heap.objs.size:=by obtain⟨o,q,_⟩:=hit;exact Heap.lt_size q
  have I1:=I.laid (t':=s.toks+1) (a:=s.heap.objs.size) (o:=.tup [.int i,x]) (h':=s.heap.push { cls:=.type "tuple",data:=.seq #[.int i s.toks,u] }) (fun b o q=>Heap.get?_push_of_some _ q) (Nat.le_refl _)
   ⟨by show 2<=sizeLine;decide,[.int i s.toks,u],.cons ⟨_,rfl⟩ (.cons ru .nil),_,Heap.get?_push_size _ rfl,rfl,_,rfl⟩
  have fp:∀b∈[e,it],Sf X pins (upd H s.heap.objs.size (.tup [.int i,x])) b:=fun b hb=>by
   obtain⟨q0,q⟩:=hf b hb
   refine⟨?_,q⟩
   rw[Dr (fun z=>?_)]
   ·exact q0
   ·have q:b=e\/b=it:=by simpa using hb
    rcases q with rfl|rfl
    ·exact absurd hlt1 (by rw[z];exact Nat.lt_irrefl _)
    ·exact absurd hlt2 (by rw[z];exact Nat.lt_irrefl _)
  have I2 := I1.turned2 (t' := s.toks + 1) (h' := h2) (i1 := e) (i2 := it) (fun b o ne ni q => by
   have e2:h2.get? b=h1.get? b:=sb.2 b ne
   rw[e2]
   by_cases hb:b=s.heap.objs.size
   ·subst hb
    have q':some ({ cls:=.type "tuple",data:=.seq #[.int i s.toks,u] }:Obj)=some o:=(Heap.get?_push_size s.heap (o:={ cls:=.type "tuple",data:=.seq #[.int i s.toks,u] }) rfl).symm.trans q
    rw[ht];exact q'
   ·have q':(s.heap.push { cls:=.type "tuple",data:=.seq #[.int i s.toks,u] }).get? b=some o:=q
    rw[Heap.get?_push_ne _ _ _ hb]at q'
    exact k1 b o ne ni q') (fp e (by simp)) (fp it (by simp))
  refine⟨.ref s.heap.objs.size,_,I2,rfl,⟨s.heap.objs.size,x,fr,rfl,fun ys hy=>by rw[I.list_inj hy hq];exact hx,rfl⟩,⟨⟨u,?_⟩,?_⟩,fun b hb=>(fp b hb).1⟩
  ·have:((i+1:Nat):Int)=(i:Int)+1:=by omega
   rw[this];exact he2
  ·exact hit1.at fun o q=>by
    have e2:h2.get? it=h1.get? it:=sb.2 it (Ne.symm hei)
    rw[e2];exact q
 done:=by
  intro X hP hw hK hc i pins s σ H E I hf st hg
  subst hP hw hK
  obtain⟨xs,hq,hx⟩:=hg
  obtain⟨its,rv,p,hz⟩:=I.list hq
  obtain⟨⟨old,he⟩,hit⟩:=st
  obtain⟨f0,f1,f2,f3,f4,f5⟩:=hf it (by simp)
  have hl:=rv.length
  exact wpAny_pyNext_enum_end (I.ok.hd hc) he hit p.isList (by simp;omega) fun h' eb=>⟨rfl,I.turned (t':=s.toks) (fun b o hb e=>eb b o hb e) f0 f1 f3 f4 f5⟩
 self:=fun _ _ _ _ _ st h=>let ⟨old,he⟩:=st.1;wpAny_pyIter_enum he h
section
variable {X:Cx} {elts:List Expr} {tp:Pos}
def mL(K:PySem.W.Frag)(ta:TA):TI:=fun σ H R=>ta σ H fun vs H1=>∃a,vs=[.ref a]/\(∃xs,SqL K H1 a xs)/\R (Ite K a) H1
theorem kB{a:Expr}{ta:TA}{p pos:Pos}{c1}(hg:Gl X "enumerate")(hm:X.mg "enumerate"=none)(ha:PA X [a] ta)(hn:("enumerate":Str)≠"__name__")(hdb:(("enumerate":Str)==("__debug__":Str))=false)(hs:starEach [a] X.env=[(false,eval a X.env)]:=by rfl) :
  PI X (.Tuple elts c1 tp) (.Call (.Name "enumerate" p) [a] [] pos) (mL X.K ta):=by
 intro pins s σ H R I h
 refine Call_ (VC I hg hm boot_enumerate (PyProof.Rows.callWith_type1 (thn (ha pos pins s σ H _ I h) fun us s1 ⟨vs,H1,I1,r1,q1⟩=>?_) hs rfl) hn hdb)
 obtain⟨l,e,⟨xs,hq⟩,q⟩:=q1
 subst e
 obtain⟨u,rfl,ru⟩:=NW r1
 cases ru
 obtain⟨its,rv,pl,hz⟩:=I1.list hq
 refine call_enumerate_list pl.isList fun h' he hit hsz hk=>?_
 refine wpAny_pyIter_enum (s:={ s1 with heap:=h' }) he ?_
 have I2:Inv X pins σ H1 { s1 with heap:=h' }:=I1.kept (t':=s1.toks) hk
 refine⟨s1.heap.objs.size+1,[s1.heap.objs.size+1,s1.heap.objs.size],_,_,H1,rfl,I2,gB l (s1.heap.objs.size+1) s1.heap.objs.size (Nat.succ_ne_self _),⟨⟨_,he⟩,hit⟩,fun b hb=>?_,q⟩
 have e:b=s1.heap.objs.size+1\/b=s1.heap.objs.size:=by simpa using hb
 rcases e with rfl|rfl
 ·exact I1.fpOk (Nat.le_succ _) (I1.hok.fresh (Nat.le_succ _))
 ·exact I1.fpOk (Nat.le_refl _) (I1.hok.fresh (Nat.le_refl _))
end
end L2
end
section
namespace DL
open PySem L2
variable {K:KW}
def pY(K:KW)(S:Addr->Prop)(J:It)(H:Hp)(ds:List PyData):Prop:=∀(S2:Addr->Prop) (H2:Hp),Keep S H S2 H2->(∀a,H2 a=none->¬S2 a)->(∀(i:Nat) (d:PyData),ds[i]?=some d->J.go i H2/\∀x H3,J.yld i H2 x H3->Same H2 H3/\Is K (hid S2 H3) d x)/\∀i,ds.length<=i->J.stop i H2
structure IT2(K:KW)(wi:TI)(f:DI):Prop where
 like:∀τ ds τ',f τ=some (ds,τ')->Like τ τ'
 run:∀S M τ σ H (Q:It->Hp->Prop) ds τ',R K S M τ σ H->f τ=some (ds,τ')->(∀J H',R K S M τ' σ H'->Chg M H H'->pY K S J H' ds->Q J H')->wi σ H Q
def OP(k:Nat):List PyData->List PyData
 |[]=>[]
 |d::r=>.tuple [.int k,d]::OP (k+1) r
theorem YC:∀(k:Nat) (ds:List PyData),(OP k ds).length=ds.length
 |_,[]=>rfl
 |k,_::r=>by rw[OP,List.length_cons,List.length_cons,YC]
theorem YD:∀{k:Nat} {ds:List PyData} {i:Nat} {x:PyData},(OP k ds)[i]?=some x->∃d,ds[i]?=some d/\x = .tuple [.int ((k+i:Nat):Int),d]
 |_,[],i,_,e=>by simp[OP]at e
 |k,d::r,0,x,e=>by simp[OP]at e;exact⟨d,rfl,e.symm⟩
 |k,d::r,i+1,x,e=>by
  rw[OP,List.getElem?_cons_succ]at e
  obtain⟨d',h1,h2⟩:=YD e
  exact⟨d',by rw[List.getElem?_cons_succ];exact h1,by rw[h2,show k+1+i=k+(i+1) by omega]⟩
def dIE(f:DX)(τ:DS):Option (List PyData×DS):=(f τ).bind fun p=>match p.1 with
 |.list ds=>some (OP 0 ds,p.2)
 |_=>none
theorem ke{fr:Bool}{t:TE}{f:DX}(h:E K t fr f):IT2 K (mL K (Sq t Yl)) (dIE f):=by
 refine⟨fun τ d τ' e=>?_,?_⟩
 ·unfold dIE at e
  obtain⟨⟨x,τ1⟩,e1,e⟩:=oB e
  dsimp only at e
  split at e
  ·cases e;exact h.like _ _ _ e1
  ·cases e
 intro S M τ σ H Q ds τ' r e q
 unfold dIE at e
 obtain⟨⟨x,τ1⟩,e1,e⟩:=oB e
 cases x with
 |list ds =>
  cases e
  refine h.weak.run S M τ σ H _ _ _ r e1 fun v H1 r1 c1 i1=>?_
  have i1':Is K (hid S H1) (.list ds) v:=i1
  obtain⟨a,vs,rfl,hl,ll⟩:=i1'
  refine⟨a,rfl,⟨vs,SqL.of (hid_iff.mp hl).2⟩,q _ H1 r1 c1 fun S2 H2 k nS=>?_⟩
  have hl2:=k.same _ _ hl
  have ll2:=ll.mono k.same
  refine⟨fun i d e=>?_,fun i hi=>⟨vs,SqL.of (hid_iff.mp hl2).2,by rw[ll.length];rw[YC]at hi;exact hi⟩⟩
  obtain⟨d',e',rfl⟩:=YD e
  obtain⟨u,h1,h2⟩:=ll2.get e'
  refine⟨⟨vs,u,SqL.of (hid_iff.mp hl2).2,h1⟩,?_⟩
  rintro x H3 ⟨p,v,hp,rfl,y,rfl⟩
  have:=y vs (SqL.of (hid_iff.mp hl2).2)
  rw[h1]at this;cases this
  have s:=FI hp (HO.tup [.int i,u])
  refine⟨s,⟨p,[.int i,u],rfl,.inl (.inl (hid_iff.mpr ⟨nS p hp,DC⟩)),?_⟩⟩
  rw[Nat.zero_add]
  exact⟨_,_,rfl,rfl,_,_,rfl,h2.mono (Same.keep s).same,rfl⟩
 |_=>cases e
theorem nW{np:Nat}{fr:Bool}{wi:TI}{tg:TG}{tb:TS}{it:DI}{g:DG}{b:DB}(hi:IT2 K wi it)(hg:TG1 K tg g)(hb:B K np tb fr b):B K np (mr wi tg tb) fr (Hv it g b):=by
 intro F S M τ σ H D out hnp f ee q
 unfold Hv at ee
 obtain⟨⟨ds,τ1⟩,e1,ee⟩:=oB ee
 refine hi.run S M τ σ H _ ds τ1 f.r e1 fun J H1 r1 c1 iJ=>?_
 have f1:=f.step r1 c1 (hi.like _ _ _ e1)
 have q1:=q.trans (c1.keep f.r.sub)
 refine⟨fun i m σ' H'=>m=ds.length-i/\i<=ds.length/\∃S' M' τ',RF K F S' M' τ' σ' H'/\Keep S H1 S' H'/\ER g b (ds.drop i) τ'=some out,⟨ds.length,by simp,Nat.zero_le _,S,M,τ1,f1,.refl,by simpa using ee⟩,?_⟩
 rintro i m σ' H' ⟨rfl,hil,S',M',τ',f',k',hl⟩
 obtain⟨I1,I2⟩:=iJ _ _ k' (fun _=>f'.r.fresh)
 by_cases hlt:i<ds.length
 ·right
  have ed:ds[i]?=some ds[i]:=List.getElem?_eq_getElem hlt
  obtain⟨go,yl⟩:=I1 i _ ed
  refine⟨go,fun σ2 H2=>∃S2 M2 τ2,RF K F S2 M2 τ2 σ2 H2/\Keep S H1 S2 H2/\ER g b (ds.drop (i+1)) τ2=some out,fun σ2 H2 h=>⟨ds.length-(i+1),by omega,rfl,hlt,h⟩,fun x H2 y=>?_⟩
  obtain⟨sm,ix⟩:=yl x H2 y
  have f':=f'.step (f'.r.same sm) (.of sm) .refl
  have k':=k'.trans (Same.keep sm)
  rw[List.drop_eq_getElem_cons hlt,ER]at hl
  obtain⟨τ2,e2,hl⟩:=oB hl
  obtain⟨o,e3,hl⟩:=oB hl
  refine hg.run S' M' τ' σ' H2 x _ τ2 _ f'.r ix e2 fun σ3 r3 k3=>?_
  have f3:=f'.stay r3 (hg.ms _ _ _ e2) k3
  refine hb F S' M' τ2 σ3 H2 _ o hnp f3 e3 ?_
  cases o with
  |nx τ4=>exact fun S4 M4 σ4 H4 f4 k4=>⟨S4,M4,τ4,f4,k'.trans k4,hl⟩
  |ct τ4=>exact fun S4 M4 σ4 H4 f4 k4=>⟨S4,M4,τ4,f4,k'.trans k4,hl⟩
  |bk τ4=>cases hl;exact fun S4 M4 σ4 H4 f4 k4=>q1 S4 M4 σ4 H4 f4 (k'.trans k4)
  |rt d τ4=>cases hl;exact fun S4 M4 σ4 H4 v f4 k4=>q1 S4 M4 σ4 H4 v f4 k4
 ·left
  have e:i=ds.length:=by omega
  subst e
  rw[List.drop_length,ER]at hl
  cases hl
  exact⟨I2 _ (Nat.le_refl _),q1 S' M' σ' H' f' k'⟩
end DL
end
section
namespace DL
open PySem L2 PyProof.Rows
variable {K:KW}
end DL
end
section
namespace DL
open PySem L2
variable {K:KW}
end DL
end
section
namespace Stb
open PySem
end Stb
end
section
namespace Stb
open PySem SetTable
end Stb
end
section
namespace Stb
open PySem SetTable
end Stb
end
section
namespace Stb
open PySem SetTable
end Stb
end
section
namespace Stb
open PySem SetTable
end Stb
end
section
namespace Stb
open PySem PyProof.Rows SetTable
section
variable {prog:Program} {w:World} {A:Around} {E:Value->Shared->Prop} {s:Shared}
end
end Stb
end
section
namespace Stb
open PySem PyProof.Rows SetTable
section
variable {prog:Program} {w:World} {A:Around} {E:Value->Shared->Prop} {s:Shared}
end
end Stb
end
section
namespace Stb
open PySem PyProof.Rows SetTable
section
variable {prog:Program} {w:World} {A:Around} {E:Value->Shared->Prop} {s:Shared}
end
end Stb
end
section
namespace Stb
open PySem PyProof.Rows SetTable
section
variable {prog:Program} {w:World} {A:Around} {R:Result->Shared->Prop} {I:Addr} {fp wr:List Addr} {G:Array GenState->Array GenState->Prop} {n:Nat} {P:Nat->Value->Prop} {St:Nat->Shared->Prop}
end
end Stb
end
section
namespace Stb
open PySem PyProof.Rows SetTable
section
variable {prog:Program} {w:World} {A:Around} {E:Value->Shared->Prop} {s:Shared}
end
end Stb
end
section
namespace Stb
open PySem PyProof.Rows SetTable
section
variable {prog:Program} {w:World} {A:Around} {E:Value->Shared->Prop} {s:Shared}
end
end Stb
end
section
namespace Stb
open PySem PyProof.Rows SetTable
section
variable {prog:Program} {w:World} {A:Around} {E:Value->Shared->Prop} {s:Shared}
end
end Stb
end
section
namespace Stb
open PySem PyProof.Rows SetTable
section
variable {prog:Program} {w:World} {A:Around} {E:Value->Shared->Prop} {s:Shared}
end
end Stb
end
section
namespace Stb
open PySem PyProof.Rows SetTable
section
variable {prog:Program} {w:World} {A:Around} {E:Value->Shared->Prop} {s:Shared}
end
end Stb
end
section
namespace DL
open PySem L2 PyProof.Rows
variable {K:PySem.W.Frag}
end DL
end
section
namespace DL
open PySem L2 PyProof.Rows
variable {K:KW}
end DL
end
section
namespace DL
open PySem L2
def mN(i:Nat)(τ:DS):Nat:=match τ[i]? with
 |some (some (.d (.int s)))=>s.toNat+1
 |_=>0
end DL
end
section
namespace Dwk
open PySem
variable {prog:Program} {w:World} {A:Around} {E:Value->Shared->Prop} {s:Shared}
end Dwk
end
section
namespace DL
open PySem L2 PyProof.Rows
variable {K:PySem.W.Frag}
section
variable {X:Cx} {pins:List (Addr×Obj)} {σ:L2.St} {H:Hp} {s:Shared}
end
end DL
end
section
namespace DL
open PySem L2 PyProof.Rows
variable {K:KW}
def MD:PyData->PyData->Option PyData
 |.tuple (x::xs),.tuple (y::ys)=>if xs.length+ys.length+2<=sizeLine then some (.tuple (x::xs++y::ys)) else none
 |_,_=>none
theorem MW:OR K false (lz K) MD:=by
 intro S H x y dx dy d Q hS ix iy e q
 unfold MD at e
 split at e
 ·rename_i x1 xs y1 ys
  split at e
  ·rename_i hz
   cases e
   obtain⟨a,vs,rfl,ha,la⟩:=ix
   obtain⟨b,us,rfl,hb,lb⟩:=iy
   have l1:=la.length
   have l2:=lb.length
   rw[List.length_cons]at l1 l2
   refine⟨a,b,vs,us,rfl,rfl,Same.tup same_hid ha,Same.tup same_hid hb,fun z=>(by subst z;cases l1),by omega,fun z=>(by subst z;cases l2),fun _ p hp=>?_⟩
   have s:=FI hp (HO.tup (vs++us))
   refine q _ _ s ⟨p,vs++us,rfl,.inl (.inl (hid_iff.mpr ⟨hS p hp,DC⟩)),?_⟩
   exact(Mc la lb).mono (Same.keep s).same
  ·cases e
 ·cases e
end DL
end
section
namespace DL
open PySem L2
variable {K:KW}
end DL
end
section
namespace L2
open PySem
end L2
namespace DL
open PySem L2
variable {K:KW}
end DL
end
section
namespace EnG
open PySem PyProof.Rows
section
variable {prog:Program} {w:World} {A:Around} {E:Value->Shared->Prop} {s:Shared}
end
end EnG
namespace EnG
open PySem PyProof.Rows
open Sem (wp)
open AutoSeq1 (wpAny_loadPart')
section
variable {prog:Program} {w:World} {A:Around} {E:Value->Shared->Prop} {s:Shared}
end
end EnG
namespace L2
open PySem PySem.Spec PyProof.Rows EnG
section
variable {X:Cx} {elts:List Expr} {tp:Pos}
end
end L2
end
section
namespace DL
open PySem L2 PyProof.Rows
variable {K:KW}
def Kj:PyData->PyData->Option PyData
 |.str x,.str y=>if x.length+y.length<=sizeLine then some (.str (x++y)) else none
 |_,_=>none
theorem Y7:OR K false (fun x y H Q=>∃i j,x = .str i/\y = .str j/\i.length+j.length<=sizeLine/\Q (.str (i++j)) H) Kj:=by
 intro S H x y dx dy d Q _ ix iy e q
 unfold Kj at e
 split at e
 ·split at e
  ·rename_i hz
   cases e
   cases (show x = .str _ from ix)
   cases (show y = .str _ from iy)
   exact⟨_,_,rfl,rfl,hz,q _ H (fun _ _ e=>e) rfl⟩
  ·cases e
 ·cases e
def XQ:PyData->PyData->Option PyData
 |.str z,.int i=>if z.length<=sizeLine then (atI z.cps.toList i).map fun c=>.str ⟨#[c]⟩ else none
 |_,_=>none
theorem jF:OR K false oI XQ:=by
 intro S H x y dx dy d Q _ ix iy e q
 unfold XQ at e
 split at e
 ·split at e
  ·rename_i hz
   obtain⟨c,e1,rfl⟩:=oM e
   cases (show x = .str _ from ix)
   cases (show y = .int _ from iy)
   exact⟨_,_,c,rfl,rfl,hz,e1,q _ H (fun _ _ e=>e) rfl⟩
  ·cases e
 ·cases e
def Zn:List PyData->Option PyData
 |[.list xs]=>some (.tuple xs)
 |[.tuple xs]=>some (.tuple xs)
 |_=>none
theorem lI:BR K false (fun xs H Q=>∃p ys,xs=[.ref p]/\((SqL K H p ys/\∀l,H l=none->Q (.ref l) (upd H l (.tup ys)))\/(SqT K H p ys/\Q (.ref p) H))) Zn:=by
 intro S H vs ds d Q hS l e q
 unfold Zn at e
 split at e
 ·cases e
  obtain⟨v,us,rfl,⟨a,ws,rfl,h,lw⟩,iu⟩:=l
  cases (show us=[] from iu)
  refine⟨a,ws,rfl,.inl ⟨SqL.of (hid_iff.mp h).2,fun p hp=>?_⟩⟩
  have s:=FI hp (HO.tup ws)
  exact q _ _ s ⟨p,ws,rfl,.inl (.inl (hid_iff.mpr ⟨hS p hp,DC⟩)),lw.mono (Same.keep s).same⟩
 ·cases e
  obtain⟨v,us,rfl,⟨a,ws,rfl,h,lw⟩,iu⟩:=l
  cases (show us=[] from iu)
  exact⟨a,ws,rfl,.inr ⟨Same.tup same_hid h,q _ H (fun _ _ e=>e) ⟨a,ws,rfl,h,lw⟩⟩⟩
 ·cases e
end DL
end
section
namespace L2
open PySem PySem.Spec PyProof.Rows
section
variable {X:Cx} {pos:Pos}
end
end L2
namespace DL
open PySem L2
variable {K:KW}
end DL
end
section
namespace DL
open PySem L2
variable {K:KW}
end DL
end
section
namespace L2
open PySem PySem.Spec PyProof.Rows
section
variable {X:Cx}
def tS(i:Int):Str:=toString i
end
end L2
namespace DL
open PySem L2 PyProof.Rows
variable {K:KW}
def Pf:List PyData->Option PyData
 |[.int i]=>if i.natAbs.log2<1920 then some (.str (tS i)) else none
 |_=>none
theorem nP:BR K false (fun xs H Q=>∃i,xs=[.int i]/\i.natAbs.log2<1920/\Q (.str (toString i)) H) Pf:=by
 intro S H vs ds d Q _ l e q
 unfold Pf at e
 split at e
 ·split at e
  ·rename_i hz
   cases e
   obtain⟨v,us,rfl,iv,iu⟩:=l
   cases (show us=[] from iu)
   cases (show v = .int _ from iv)
   exact⟨_,rfl,hz,q _ H (fun _ _ e=>e) rfl⟩
  ·cases e
 ·cases e
end DL
end
section
namespace L2
open PySem PySem.Spec PyProof.Rows
section
variable {M:Model} {A:Around} {E:Value->Shared->Prop} {s:Shared} {N:Addr->Prop} {base:Heap} {env:Env} {outer:List Env} {L e C:Addr} {Q:Unit->Shared->Prop}
end
end L2
end
section
namespace L2
open PySem PySem.Spec PyProof.Rows
end L2
end
section
namespace L2
open PySem PySem.Spec PyProof.Rows
section
variable {X:Cx} {pins:List (Addr×Obj)} {σ:St} {H H':Hp} {s s3:Shared} {ea C:Addr} {fl:Value}
end
section
variable {X:Cx} {k:Nat} {f C D':Addr} {fd:FuncData} {ps:List Str} {sp:Sp} {x cn:Str} {p pos p1 np hp p2:Pos} {e:Expr} {es:List Expr} {t:TA} {b₀:Stmt} {suite:List Stmt} {ts:Addr->TS}
end
end L2
end
section
namespace L2
open PySem PySem.Spec PyProof.Rows PySem.W
section
variable {prog:Program} {w:World} {A:Around} {E:Value->Shared->Prop} {s:Shared} {K:Frag} {x C:Addr} {ox:Obj}
end
section
variable {X:Cx} {ea C:Addr} {oe:Obj}
end
end L2
end
section
namespace L2
open PySem PySem.Spec PyProof.Rows
section
variable {X:Cx} {k i:Nat} {f C D':Addr} {fd:FuncData} {ps:List Str} {sp:Sp} {x cn n:Str} {p pos p1 np hp p2:Pos} {e:Expr} {es:List Expr} {t:TA} {b₀:Stmt} {suite:List Stmt} {ts:Addr->TS}
end
end L2
end
section
namespace L2
open PySem PySem.Spec PyProof.Rows
end L2
namespace DL
open PySem L2
instance {i j:Int}:Decidable (mU i j):=by unfold mU Bd;infer_instance
end DL
end
section
namespace L2
open PySem PySem.Spec PyProof.Rows
def Its(x:Str):It:=⟨fun i _=>i<x.cps.size,fun i H v H'=>∃c,x.cps[i]?=some c/\H'=H/\v = .str ⟨#[c]⟩,fun i _=>x.cps.size<=i⟩
theorem Xu{P:Program}{w:World}{K:PySem.W.Frag}{tg:Expr}(x:Str)(t:Tok)(it:Addr)(n:String)
  (hn:["enumerate","zip","dict_itemiterator","dict_reverseitemiterator","odict_iterator","itertools.zip_longest","itertools.pairwise"].contains n=false)
  (nx : ∀ {A : Around} {E : Value -> Shared -> Prop} {s : Shared} {i c : Nat} {Q : Option Value -> Shared -> Prop}, s.heap.IsStrIter it n x t i -> x.cps[i]? = some c ->
   (∀h',h'.IsStrIter it n x t (i+1)->Heap.SameBut it s.heap h'->Q (some (.str ⟨#[c]⟩ s.toks)) { s with heap:=h',toks:=s.toks+1 })->wpAny (model P w) A (pyNext (.ref it)) Q E s)
  (en : ∀ {A : Around} {E : Value -> Shared -> Prop} {s : Shared} {i : Nat} {Q : Option Value -> Shared -> Prop}, A.handled = none -> s.heap.IsStrIter it n x t i -> x.cps[i]? = none ->
   (∀h',Heap.ExtBut it s.heap h'->Q none { s with heap:=h' })->wpAny (model P w) A (pyNext (.ref it)) Q E s)
  (sf:∀{A:Around} {E:Value->Shared->Prop} {s:Shared} {i:Nat} {Q:Value->Shared->Prop},s.heap.IsStrIter it n x t i->Q (.ref it) s->wpAny (model P w) A (pyIter (.ref it)) Q E s) :
  cK P w K tg (Its x) [it] it (fun i h=>h.IsStrIter it n x t i) where
 mem:=by simp
 obj:=fun i h st b hb=>by
  have e:b=it:=by simpa using hb
  subst e
  obtain⟨o,e,c,d⟩:=st
  exact⟨o,e,fun v z=>by rw[d]at z;cases z⟩
 keep:=fun i h h' st k=>let ⟨o,e,r⟩:=st;⟨o,k it (by simp) o e,r⟩
 item:=by
  intro X hP hw hK hc i pins s σ H E I hf st hg
  subst hP hw hK
  have hlt:i<x.cps.size:=hg
  have hx:x.cps[i]?=some x.cps[i]:=Array.getElem?_eq_getElem hlt
  obtain⟨f0,f1,f2,f3,f4,f5⟩:=hf it (by simp)
  refine nx st hx fun h' st' sb=>?_
  have I1:Inv X pins σ H { s with heap:=h',toks:=s.toks+1 }:=I.turned (fun b o hb e=>(sb.2 b hb).trans e) f0 f1 f3 f4 f5
  obtain⟨o,e,c,d⟩:=id st'
  exact⟨_,rfl,fP (s:={ s with heap:=h',toks:=s.toks+1 }) e c d hn ⟨.str ⟨#[x.cps[i]]⟩,H,I1,⟨_,rfl⟩,⟨_,hx,rfl,rfl⟩,st',fun b hb=>(hf b hb).1⟩⟩
 done:=by
  intro X hP hw hK hc i pins s σ H E I hf st hg
  subst hP hw hK
  obtain⟨f0,f1,f2,f3,f4,f5⟩:=hf it (by simp)
  exact en (I.ok.hd hc) st (Array.getElem?_eq_none hg) fun h' eb=>⟨rfl,I.turned (t':=s.toks) (fun b o hb e=>eb b o hb e) f0 f1 f3 f4 f5⟩
 self:=fun _ _ _ _ _ st h=>sf st h
theorem iI{P:Program}{w:World}{K:PySem.W.Frag}{tg:Expr}(x:Str)(t:Tok)(it:Addr):cK P w K tg (Its x) [it] it (fun i h=>h.IsStrIter it (strIterType x) x t i):=by
 unfold strIterType
 split
 ·exact Xu x t it _ (by decide) (fun a b c=>wpAny_pyNext_ascii_item a b c) (fun a b c d=>wpAny_pyNext_ascii_end a b c d) (fun a b=>wpAny_pyIter_striter_ascii a b)
 ·exact Xu x t it _ (by decide) (fun a b c=>wpAny_pyNext_wide_item a b c) (fun a b c d=>wpAny_pyNext_wide_end a b c d) (fun a b=>wpAny_pyIter_striter_wide a b)
def ot(tl:TE):TI:=fun σ H R=>tl σ H fun v H1=>∃x,v = .str x/\R (Its x) H1
theorem ie{X:Cx}{tg l:Expr}{tl:TE}(hl:PE X l tl):PI X tg l (ot tl):=by
 intro pins s σ H R I h
 refine thn (hl pins s σ H _ I h) fun v s1 ⟨x,H1,I1,r1,q1⟩=>?_
 obtain⟨z,rfl,q⟩:=q1
 obtain⟨t,rfl⟩:=r1
 refine wpAny_pyIter_strU ?_
 refine⟨s1.heap.objs.size,[s1.heap.objs.size],_,_,H1,rfl,I1.kept (t':=s1.toks) fun b o e=>Heap.get?_push_of_some _ e,iI z t _,⟨_,Heap.get?_push_size _ rfl,rfl,rfl⟩,fun b hb=>?_,q⟩
 have e:b=s1.heap.objs.size:=by simpa using hb
 subst e
 exact I1.fpOk (Nat.le_refl _) (I1.hok.fresh (Nat.le_refl _))
end L2
namespace DL
open PySem L2 PyProof.Rows
variable {K:KW}
def chD(x:Str):List PyData:=x.cps.toList.map fun c=>.str ⟨#[c]⟩
def dIS(f:DX)(τ:DS):Option (List PyData×DS):=(f τ).bind fun p=>match p.1 with
 |.str x=>some (chD x,p.2)
 |_=>none
theorem jS{fr:Bool}{t:TE}{f:DX}(h:E K t fr f):IT K (ot t) (dIS f):=by
 refine⟨fun τ d τ' e=>?_,?_⟩
 ·unfold dIS at e
  obtain⟨⟨x,τ1⟩,e1,e⟩:=oB e
  dsimp only at e
  split at e
  ·cases e;exact h.like _ _ _ e1
  ·cases e
 intro S M τ σ H Q ds τ' r e q
 unfold dIS at e
 obtain⟨⟨x,τ1⟩,e1,e⟩:=oB e
 dsimp only at e
 split at e
 ·rename_i z
  cases e
  refine h.weak.run S M τ σ H _ _ _ r e1 fun v H1 r1 c1 i1=>?_
  cases (show v = .str z from i1)
  refine⟨z,rfl,q _ H1 r1 c1 fun S2 H2 k=>⟨fun i d e=>?_,fun i hi=>?_⟩⟩
  ·unfold chD at e
   rw[List.getElem?_map,Array.getElem?_toList]at e
   obtain⟨c,hc,rfl⟩:=oM e
   refine⟨(Array.getElem?_eq_some_iff.mp hc).1,fun x H3 ⟨c',hc',h1,h2⟩=>⟨h1,?_⟩⟩
   rw[hc]at hc';cases hc'
   exact h2
  ·show z.cps.size<=i
   unfold chD at hi
   simpa using hi
 ·cases e
def dm:PyData->PyData->Option PyData
 |.str i,.str j=>some (.bool (!(Builtin.Str.occurrences j i 0 j.length 1).isEmpty))
 |_,_=>none
theorem oS:OR K false (fun x y H Q=>∃i j,x = .str i/\y = .str j/\Q (.bl (!(Builtin.Str.occurrences j i 0 j.length 1).isEmpty)) H) dm:=by
 intro S H x y dx dy d Q _ ix iy e q
 unfold dm at e
 split at e
 ·rename_i i j
  cases e
  exact⟨i,j,ix,iy,q _ H (fun _ _ e=>e) rfl⟩
 ·cases e
mutual
def EC(K:KW):PyData->Value->Bool
 |.int i,.int j _=>decide (i=j)
 |.str x,.str y _=>decide (x=y)
 |.tuple ds,.ref a=>match K.fr.lookup a with
  |some ⟨.type "tuple",_,.seq its _,_⟩=>decide (its.size<=1000)&&constInL K ds its.toList
  |_=>false
 |_,_=>false
def constInL(K:KW):List PyData->List Value->Bool
 |[],[]=>true
 |d::ds,v::vs=>EC K d v&&constInL K ds vs
 |_,_=>false
end
mutual
theorem Vz:∀{d:PyData} {u:Value},EC K d u=true->∃v,RelV v u/\∀H,Is K H d v
 |.int i,u,h=>by
  cases u<;>first|(unfold EC at h;cases h;done)|(unfold EC at h;cases of_decide_eq_true h;exact⟨.int i,⟨_,rfl⟩,fun _=>rfl⟩)
 |.str x,u,h=>by
  cases u<;>first|(unfold EC at h;cases h;done)|(unfold EC at h;cases of_decide_eq_true h;exact⟨.str x,⟨_,rfl⟩,fun _=>rfl⟩)
 |.tuple ds,.ref a,h=>by
  unfold EC at h
  split at h
  ·rename_i dd its n sl ho
   obtain⟨h1,h2⟩:=Bool.and_eq_true_iff.mp h
   obtain⟨vs,r,hl⟩:=constL_is h2
   exact⟨.ref a,rfl,fun H=>⟨a,vs,rfl,.inr ⟨_,its,n,ho,rfl,rfl,Nat.le_trans (of_decide_eq_true h1) (by decide),r⟩,hl H⟩⟩
  ·cases h
 |.tuple ds,.none,h=>by unfold EC at h;cases h
 |.tuple ds,.bool _,h=>by unfold EC at h;cases h
 |.tuple ds,.int _ _,h=>by unfold EC at h;cases h
 |.tuple ds,.str _ _,h=>by unfold EC at h;cases h
 |.none,u,h=>by cases u<;>(unfold EC at h;cases h)
 |.bool _,u,h=>by cases u<;>(unfold EC at h;cases h)
 |.list _,u,h=>by cases u<;>(unfold EC at h;cases h)
 |.dict _,u,h=>by cases u<;>(unfold EC at h;cases h)
theorem constL_is:∀{ds:List PyData} {us:List Value},constInL K ds us=true->∃vs,Vals vs us/\∀H,IsL K H ds vs
 |[],[],_=>⟨[],.nil,fun _=>rfl⟩
 |d::ds,u::us,h=>by
  unfold constInL at h
  obtain⟨h1,h2⟩:=Bool.and_eq_true_iff.mp h
  obtain⟨v,r,i⟩:=Vz h1
  obtain⟨vs,rs,is⟩:=constL_is h2
  exact⟨v::vs,.cons r rs,fun H=>⟨v,vs,rfl,i H,is H⟩⟩
 |[],_::_,h=>by cases h
 |_::_,[],h=>by cases h
end
def KdL(K:KW)(w:World):List DictEntry->List (Str×PyData)->Prop
 |[],[]=>True
 |e::es,p::tb=>(∃t,e.key = .str p.1 t)/\e.hash=hashStr w p.1/\EC K p.2 e.val=true/\KdL K w es tb
 |_,_=>False
structure KD(K:KW)(w:World)(a:Addr)(tb:List (Str×PyData)):Prop where
 ex:∃es n,K.fr.lookup a=some ⟨.type "dict",none,.dict es n,#[]⟩/\KdL K w es.toList tb
def So:List (Str×PyData)->Str->Option PyData
 |[],_=>none
 |p::r,k=>if p.1=k then some p.2 else So r k
theorem Gf{k x:Str}{t:Tok}:Value.isStrOf k (.str x t)=decide (k=x):=by
 unfold Value.isStrOf
 by_cases h:k=x
 ·subst h
  rw[decide_eq_true rfl]
  first|exact beq_self_eq_true _|simp
 ·rw[decide_eq_false h]
  first|exact beq_eq_false_iff_ne.mpr (Ne.symm h)|(simp;exact Ne.symm h)
theorem fL{w:World}:∀{es:List DictEntry} {tb:List (Str×PyData)},KdL K w es tb->∀e∈es,∃k,Value.isStrOf k e.key=true/\e.hash=hashStr w k
 |[],_,_,e,h=>nomatch h
 |x::es,[],h,_,_=>h.elim
 |x::es,p::tb,⟨⟨t,hk⟩,hh,_,r⟩,e,h=>by
  rcases List.mem_cons.mp h with rfl|h
  ·exact⟨p.1,by rw[hk,Gf];exact decide_eq_true rfl,hh⟩
  ·exact fL r e h
end DL
end
section
namespace DL
open PySem L2
variable {K:KW}
section
variable {S S':Addr->Prop} {H:Hp}
mutual
theorem Dp.is(k:TSm (hid S H) (hid S' H)):∀{d:PyData} {v:V} {F:List Addr},(∀a∈F,¬S' a)->Dp K S H d v F->Is K (hid S' H) d v
 |.none,_,_,_,h=>h.1
 |.bool _,_,_,_,h=>h.1
 |.int _,_,_,_,h=>h.1
 |.str _,_,_,_,h=>h.1
 |.tuple _,_,_,f,⟨a,vs,e,h,l⟩=>⟨a,vs,e,k.tup h,DpL.is k f l⟩
 |.list _,_,_,f,⟨a,vs,G,e,e2,h,l⟩=>⟨a,vs,e,hid_iff.mpr ⟨f a (by rw[e2];exact List.mem_cons_self ..),h⟩,DpL.is k (fun b hb=>f b (by rw[e2];exact List.mem_cons_of_mem _ hb)) l⟩
theorem DpL.is(k:TSm (hid S H) (hid S' H)):∀{ds:List PyData} {vs:List V} {F:List Addr},(∀a∈F,¬S' a)->DpL K S H ds vs F->IsL K (hid S' H) ds vs
 |[],_,_,_,h=>h.1
 |_::_,_,_,f,⟨x,xs,F1,F2,e,e2,h,l⟩=>⟨x,xs,e,Dp.is k (fun b hb=>f b (by rw[e2];exact List.mem_append_left _ hb)) h,DpL.is k (fun b hb=>f b (by rw[e2];exact List.mem_append_right _ hb)) l⟩
end
mutual
theorem Dp.lst:∀{d:PyData} {v:V} {F:List Addr},Dp K S H d v F->∀a∈F,∃vs,H a=some (.lst vs)
 |.none,_,_,h,a,q=>by rw[h.2]at q;cases q
 |.bool _,_,_,h,a,q=>by rw[h.2]at q;cases q
 |.int _,_,_,h,a,q=>by rw[h.2]at q;cases q
 |.str _,_,_,h,a,q=>by rw[h.2]at q;cases q
 |.tuple _,_,_,⟨_,vs,e,h,l⟩,a,q=>DpL.lst l a q
 |.list _,_,_,⟨b,vs,G,e,e2,h,l⟩,a,q=>by
  rw[e2]at q
  rcases List.mem_cons.mp q with rfl|q
  ·exact⟨vs,h⟩
  ·exact DpL.lst l a q
theorem DpL.lst:∀{ds:List PyData} {vs:List V} {F:List Addr},DpL K S H ds vs F->∀a∈F,∃vs,H a=some (.lst vs)
 |[],_,_,h,a,q=>by rw[h.2]at q;cases q
 |_::_,_,_,⟨x,xs,F1,F2,e,e2,h,l⟩,a,q=>by
  rw[e2]at q
  rcases List.mem_append.mp q with q|q
  ·exact Dp.lst h a q
  ·exact DpL.lst l a q
end
mutual
theorem Dp.fix:∀{d:PyData} {v:V},Ib d=true->Is K (hid S H) d v->Dp K S H d v []
 |.none,_,_,h=>⟨h,rfl⟩
 |.bool _,_,_,h=>⟨h,rfl⟩
 |.int _,_,_,h=>⟨h,rfl⟩
 |.str _,_,_,h=>⟨h,rfl⟩
 |.tuple _,_,f,⟨a,vs,e,h,l⟩=>⟨a,vs,e,h,DpL.fix f l⟩
 |.list _,_,f,_=>absurd f Bool.false_ne_true
 |.dict _,_,f,_=>absurd f Bool.false_ne_true
theorem DpL.fix:∀{ds:List PyData} {vs:List V},fixDs ds=true->IsL K (hid S H) ds vs->DpL K S H ds vs []
 |[],_,_,h=>⟨h,rfl⟩
 |_::_,_,f,⟨x,xs,e,h,l⟩=>⟨x,xs,[],[],e,rfl,Dp.fix (by rw[fixDs,Bool.and_eq_true]at f;exact f.1) h,DpL.fix (by rw[fixDs,Bool.and_eq_true]at f;exact f.2) l⟩
end
mutual
theorem Dp.unfix:∀{d:PyData} {v:V} {F:List Addr},Ib d=true->Dp K S H d v F->F=[]/\Is K (hid S H) d v
 |.none,_,_,_,h=>⟨h.2,h.1⟩
 |.bool _,_,_,_,h=>⟨h.2,h.1⟩
 |.int _,_,_,_,h=>⟨h.2,h.1⟩
 |.str _,_,_,_,h=>⟨h.2,h.1⟩
 |.tuple _,_,_,f,⟨a,vs,e,h,l⟩=>let ⟨z,y⟩:=DpL.unfix f l;⟨z,a,vs,e,h,y⟩
 |.list _,_,_,f,_=>absurd f Bool.false_ne_true
 |.dict _,_,_,f,_=>absurd f Bool.false_ne_true
theorem DpL.unfix:∀{ds:List PyData} {vs:List V} {F:List Addr},fixDs ds=true->DpL K S H ds vs F->F=[]/\IsL K (hid S H) ds vs
 |[],_,_,_,h=>⟨h.2,h.1⟩
 |_::_,_,_,f,⟨x,xs,F1,F2,e,e2,h,l⟩=>by
  rw[fixDs,Bool.and_eq_true]at f
  obtain⟨rfl,y1⟩:=Dp.unfix f.1 h
  obtain⟨rfl,y2⟩:=DpL.unfix f.2 l
  exact⟨e2,x,xs,e,y1,y2⟩
end
end
def mem(F:List Addr)(b:Addr):Prop:=b∈F
end DL
end
section
namespace DL
open PySem L2
variable {K:KW}
theorem RF.newG{F:Frm}{S M:Addr->Prop}{τ:DS}{σ:St}{H:Hp}(f:RF K F S M τ σ H){X:List Addr}{i:Nat}{d:PyData}{v:V}(hi:i<τ.length)(hnp:F.ar.length<=i)(hS:∀a∈X,S a)(hM:∀a∈X,¬M a)(hF:∀a∈X,F.H a=none)(hn:X.Nodup)
  (h:DpT K S H d v X):RF K F S (fun b=>M b\/b∈X) (τ.set i (some (.g d))) (σ.set i (some v)) H:=by
 have hs:i<σ.length:=by rw[f.r.len];exact hi
 have ne:∀j,j≠i->(τ.set i (some (.g d)))[j]?=τ[j]?:=fun j hj=>List.getElem?_set_ne (Ne.symm hj)
 have ne':∀j,j≠i->(σ.set i (some v))[j]?=σ[j]?:=fun j hj=>List.getElem?_set_ne (Ne.symm hj)
 have se:(τ.set i (some (.g d)))[i]?=some (some (.g d)):=List.getElem?_set_self hi
 have se':(σ.set i (some v))[i]?=some (some v):=List.getElem?_set_self hs
 have own:∀(j:Nat) (ys:Ow),(τ.set i (some (.g d)))[j]?=some (some ys.L)->j≠i/\τ[j]?=some (some ys.L):=fun j ys e=>by
  by_cases hj:j=i
  ·subst hj;rw[se]at e;exact absurd (Option.some.inj (Option.some.inj e)).symm Ow.not_g
  ·rw[ne j hj]at e;exact⟨hj,e⟩
 have jn:∀{j:Nat} {v:V},F.ar[j]?=some (some v)->j≠i:=fun {j v} e z=>by
  subst z
  have:=(List.getElem?_eq_some_iff.mp e).1
  omega
 refine⟨⟨by rw[List.length_set,List.length_set];exact f.r.len,fun j x e=>?_,fun j ys e=>?_,fun j ys e=>?_,fun j1 j2 ys zs b e1 e2 f1 f2=>?_,fun b h=>h.elim (f.r.sub b) (hS b),f.r.ex,?_⟩,f.sS,f.old,fun b h=>h.elim (f.new b) fun z=>.inr (hF b z),fun b h=>.inl (f.fm b h),f.fs,f.fsub,f.snew,fun j v e=>?_,fun j v e=>?_,f.fma⟩
 ·by_cases hj:j=i
  ·subst hj;rw[se]at e;cases e
  ·rw[ne j hj]at e
   rw[ne' j hj]
   exact f.r.dat j x e
 ·obtain⟨hj,e⟩:=own j ys e
  rw[ne' j hj]
  obtain⟨b,us,h1,h2,h3,h4⟩:=f.r.mt j ys e
  exact⟨b,us,h1,.inl h2,h3,h4⟩
 ·by_cases hj:j=i
  ·subst hj;rw[se]at e;cases e
  ·rw[ne j hj]at e
   rw[ne' j hj]
   exact f.r.cst j ys e
 ·obtain⟨h1,e1⟩:=own _ _ e1
  obtain⟨h2,e2⟩:=own _ _ e2
  rw[ne' j1 h1]at f1
  rw[ne' j2 h2]at f2
  exact f.r.inj _ _ _ _ b e1 e2 f1 f2
 ·obtain⟨φ,g⟩:=f.r.gr
  refine⟨fun j=>if j=i then X else φ j,fun j x e=>?_⟩
  by_cases hj:j=i
  ·subst hj
   rw[se]at e;cases e
   simp only[if_true]
   refine⟨⟨v,se',h⟩,hn,fun a ha=>.inr ha,fun j' o a z1 z2 ha=>?_,fun j' x' hj' z a ha=>?_⟩
   ·obtain⟨q1,q2⟩:=own j' o z1
    rw[ne' j' q1]at z2
    obtain⟨b,us,h1,h2,_⟩:=f.r.mt j' o q2
    rw[z2]at h1;cases h1
    exact hM a ha h2
   ·rw[if_neg hj']
    intro hq
    rw[ne j' hj']at z
    obtain⟨_,_,q4,_,_⟩:=g j' x' z
    exact hM a ha (q4 a hq)
  ·dsimp only
   simp only[if_neg hj]
   rw[ne j hj]at e
   obtain⟨⟨v',q1,q2⟩,q3,q4,q5,q6⟩:=g j x e
   refine⟨⟨v',by rw[ne' j hj];exact q1,q2⟩,q3,fun a ha=>.inl (q4 a ha),fun j' o a z1 z2=>?_,fun j' x' hj' z a ha=>?_⟩
   ·obtain⟨w1,w2⟩:=own j' o z1
    rw[ne' j' w1]at z2
    exact q5 j' o a w2 z2
   ·by_cases hj2:j'=i
    ·rw[if_pos hj2];exact fun hq=>hM a hq (q4 a ha)
    ·rw[if_neg hj2]
     rw[ne j' hj2]at z
     exact q6 j' x' hj' z a ha
 ·rw[ne' j (jn e)]
  exact f.par j v e
 ·rw[ne j (jn e)]
  exact f.pm j v e
variable {np:Nat}
end DL
end
section
namespace DL
open PySem L2
variable {K:KW}
end DL
end
section
namespace DL
open PySem L2
variable {K:KW}
end DL
end
section
namespace DL
open PySem L2
theorem m9{X:Cx}{N:List Str}{scope2:Scope}{cl:List (Str×Addr)}{fp:List Addr}{s3:Shared}{H3:Hp}{N':List Str}{own:Nat}{fr:List Nat}{scope:Scope}(h:(jK N' own fr scope N scope2&&scope2.names.all fun y=>y.2 != .cell)=true):iB (cxC X N scope2 cl fp s3 H3) N' own fr scope:=by
 rw[Bool.and_eq_true]at h
 have o:=Ji (X:={ X with N:=N,env:={ X.env with scope:=scope2 } }) rfl rfl h.1
 refine⟨o.kind,o.len,o.cell,o.names,fun x hx=>?_,o.slot⟩
 show(relabel scope2 X.env).names.lookup x=some .cell\/(relabel scope2 X.env).names.lookup x=some .free
 rcases o.free x hx with z|z
 ·have:=List.all_eq_true.mp h.2 _ (PySem.mem_of_lookup z)
  simp at this
 ·exact Yo z
end DL
end
section
namespace DL
open PySem L2
variable {K:KW}
def NV(f:DX)(lo hi:DO)(τ:DS):Option (PyData×DS):=(f τ).bind fun p=>(lo p.2).bind fun l=>(hi l.2).bind fun u=>match p.1 with
 |.tuple xs=>if HT.sIx xs.length 0 l.1=0/\HT.sIx xs.length xs.length u.1=xs.length then none else some (.tuple (SX xs l.1 u.1),u.2)
 |_=>none
theorem RN{fr:Bool}{te:TE}{tl th:TO}{f:DX}{lo hi:DO}(h:E K te fr f)(hl:OO K tl lo)(hh:OO K th hi):E K (tSl (oD K) te tl th) false (NV f lo hi):=by
 refine⟨fun τ d τ' e=>?_,?_⟩
 ·unfold NV at e
  obtain⟨⟨x,τ1⟩,e1,e⟩:=oB e
  obtain⟨⟨l,τ2⟩,e2,e⟩:=oB e
  obtain⟨⟨u,τ3⟩,e3,e⟩:=oB e
  dsimp only at e
  split at e
  ·split at e
   ·cases e
   ·cases e;exact((h.like _ _ _ e1).trans (hl.like _ _ _ e2)).trans (hh.like _ _ _ e3)
  ·cases e
 intro S M τ σ H Q d τ' r e q
 unfold NV at e
 obtain⟨⟨x,τ1⟩,e1,e⟩:=oB e
 obtain⟨⟨l,τ2⟩,e2,e⟩:=oB e
 obtain⟨⟨u,τ3⟩,e3,e⟩:=oB e
 dsimp only at e e2 e3
 cases x with
 |tuple xs =>
  dsimp only at e
  split at e
  ·cases e
  ·rename_i hw
   cases e
   refine h.run S M τ σ H _ _ _ r e1 fun v1 H1 r1 c1 i1=>?_
   refine hl.run S M τ1 σ H1 _ _ _ r1 e2 fun H2 r2 c2=>?_
   refine hh.run S M τ2 σ H2 _ _ _ r2 e3 fun H3 r3 c3=>?_
   have i1':Is K (hid S H3) (.tuple xs) v1:=((r.isr i1).mono (c2.keep r1.sub).same).mono (c3.keep r2.sub).same
   obtain⟨a,vs,rfl,ha,la⟩:=i1'
   refine⟨a,vs,rfl,Same.tup same_hid ha,by rw[la.length];exact hw,fun p hp=>?_⟩
   have s:=FI hp (HO.tup (Xg vs l u))
   exact q _ _ (r3.same s) (((c1.trans c2).trans c3).trans (.of s)) ⟨p,_,rfl,SqT.of (hid_iff.mpr ⟨r3.fresh hp,DC⟩),(fM la).mono (Same.keep s).same⟩
 |_=>cases e
end DL
end
section
namespace DL
open PySem L2 PyProof.Rows
def Tq:List (Str×V)->Str->Option V
 |[],_=>none
 |t::r,k=>if t.1=k then some t.2 else Tq r k
def Ue(ts:List (Str×V))(k:Str)(v:V):List (Str×V):=if ts.any (fun t=>decide (t.1=k))=true then ts.map (fun t=>if t.1=k then (t.1,v) else t) else ts++[(k,v)]
theorem VH{k:Str}:∀{ts:List (Str×V)} {vs:List (Key×Value)},KV (txK ts) vs->(match Tq ts k with
  |some v=>∃u,valueAt vs (Sum.inr k)=some u/\RelV v u
  |none=>valueAt vs (Sum.inr k)=none)
 |[],vs,h=>by cases (show Paired _ [] vs from h);rfl
 |t::ts,vs,h=>by
  cases (show Paired _ ((Sum.inr t.1,t.2)::txK ts) vs from h) with
  |@cons _ q _ qs h1 h2 =>
   obtain⟨e1,e2⟩:=h1
   have ih:=VH (k:=k) (ts:=ts) h2
   unfold Tq
   by_cases e:t.1=k
   ·rw[if_pos e]
    have e':q.1=Sum.inr k:=by rw[<- e1,e]
    exact⟨q.2,by simp[valueAt,List.find?_cons,e'],e2⟩
   ·rw[if_neg e]
    have e':¬q.1=Sum.inr k:=fun z=>e (by have:=e1.trans z;exact Sum.inr.inj this)
    have:valueAt (q::qs) (Sum.inr k)=valueAt qs (Sum.inr k):=by simp[valueAt,List.find?_cons,e']
    rw[this];exact ih
theorem kh{k:Str}{ts:List (Str×V)}{vs:List (Key×Value)}(h:KV (txK ts) vs):(valueAt vs (Sum.inr k)).isSome=(Tq ts k).isSome:=by
 have g:=VH (k:=k) h
 cases e:Tq ts k with
 |none=>rw[e]at g;rw[show valueAt vs (Sum.inr k)=none from g];rfl
 |some v=>rw[e]at g;obtain⟨u,hu,_⟩:=g;rw[hu];rfl
theorem pU{k:Str}:∀{ts:List (Str×V)} {vs:List (Key×Value)},KV (txK ts) vs->(vs.any fun kv=>decide (kv.1=Sum.inr k))=ts.any fun t=>decide (t.1=k)
 |[],vs,h=>by cases (show Paired _ [] vs from h);rfl
 |t::ts,vs,h=>by
  cases (show Paired _ ((Sum.inr t.1,t.2)::txK ts) vs from h) with
  |@cons _ q _ qs h1 h2 =>
   rw[List.any_cons,List.any_cons,pU (k:=k) (ts:=ts) h2,<- h1.1]
   congr 1
   by_cases e:t.1=k
   ·rw[e];simp
   ·rw[decide_eq_false e,decide_eq_false (fun z=>e (Sum.inr.inj z))]
theorem oV{k:Str}{v:V}{u:Value}(hv:RelV v u):∀{ts:List (Str×V)} {vs:List (Key×Value)},KV (txK ts) vs->KV (txK (ts.map fun t=>if t.1=k then (t.1,v) else t)) (vs.map fun kv=>if kv.1=Sum.inr k then (kv.1,u) else kv)
 |[],vs,h=>by cases (show Paired _ [] vs from h);exact .nil
 |t::ts,vs,h=>by
  cases (show Paired _ ((Sum.inr t.1,t.2)::txK ts) vs from h) with
  |@cons _ q _ qs h1 h2 =>
   refine .cons ?_ (oV hv (ts:=ts) h2)
   obtain⟨e1,e2⟩:=h1
   dsimp only at e1 e2 ⊢
   by_cases e:t.1=k
   ·rw[if_pos e,if_pos (by rw[<- e1,e])];exact⟨e1,hv⟩
   ·rw[if_neg e,if_neg (fun z=>e (Sum.inr.inj (e1.trans z)))];exact⟨e1,e2⟩
theorem pR{k:Str}{v:V}{u:Value}(hv:RelV v u):∀{ts:List (Str×V)} {vs:List (Key×Value)},KV (txK ts) vs->KV (txK (ts++[(k,v)])) (vs++[(Sum.inr k,u)])
 |[],vs,h=>by cases (show Paired _ [] vs from h);exact .cons ⟨rfl,hv⟩ .nil
 |t::ts,vs,h=>by
  cases (show Paired _ ((Sum.inr t.1,t.2)::txK ts) vs from h) with
  |@cons _ q _ qs h1 h2=>exact .cons h1 (pR hv (ts:=ts) h2)
theorem iW{k:Str}{v:V}{u:Value}{ts:List (Str×V)}{vs:List (Key×Value)}(hv:RelV v u)(h:KV (txK ts) vs):KV (txK (Ue ts k v)) (stored vs (Sum.inr k) u):=by
 unfold Ue stored
 rw[pU h]
 split
 ·exact oV hv h
 ·exact pR hv h
theorem pf{ts:List (Str×V)}{vs:List (Key×Value)}(h:KV (txK ts) vs):ts.length=vs.length:=by
 have:=Paired.length h
 unfold txK at this
 rw[List.length_map]at this
 exact this
theorem iX(ts:List (Str×V))(k:Str)(v:V):(Ue ts k v).length<=ts.length+1:=by
 unfold Ue
 split
 ·rw[List.length_map];omega
 ·rw[List.length_append];exact Nat.le_refl _
section
variable {X:Cx} {pins:List (Addr×Obj)} {σ:L2.St} {H:Hp} {s:Shared}
theorem jf(I:Inv X pins σ H s){a:Addr}{ts:List (Str×V)}(h:H a=some (.dK (txK ts))):ts.length<=sizeLine/\(a==sysModules)=false/\∃vs,KV (txK ts) vs/\s.heap.DictOf (Q8 X.prog X.w) a vs:=by
 obtain⟨h1,h2,vs,h3,h4⟩:=(show ObjOk X.prog X.w H s.heap a (.dK (txK ts)) from I.hok a _ h)
 refine⟨?_,h2,vs,h3,h4⟩
 unfold txK at h1
 rw[List.length_map]at h1
 exact h1
end
theorem Zc{P:Program}{w:World}{k:Str}{u:Value}(h:RelV (.str k) u):(Q8 P w).is (Sum.inr k) u=true:=by
 obtain⟨t,rfl⟩:=h
 exact bQ P w k t
def oG:R2:=fun x y H Q=>∃a ts k v,x = .ref a/\y = .str k/\H a=some (.dK (txK ts))/\Tq ts k=some v/\Q v H
theorem og{X:Cx}:IxR X oG:=by
 intro value slice pins s σ H x y v u Q I rx ry h hs
 obtain⟨a,ts,k,z,rfl,rfl,hq,e,q⟩:=h
 cases rx
 obtain⟨h1,h2,vs,pr,dd⟩:=jf I hq
 have g:=VH (k:=k) pr
 rw[e]at g
 obtain⟨p,hp,rp⟩:=g
 exact tail_any dd.mapOf.typeIs PySem.F.slot_dict_getitem.lookup (wpAny_getItem_of (Zc ry) dd.mapOf hp ⟨z,H,I.tok _,rp,q⟩) hs
def oK(neg:Bool):R2:=fun y x H Q=>∃a ts k,x = .ref a/\y = .str k/\H a=some (.dK (txK ts))/\Q (.bl (neg != (Tq ts k).isSome)) H
theorem i3{X:Cx}:OpR X (compareOp .In) (oK false):=by
 intro pins s σ H x y v u Q I rx ry h
 obtain⟨a,ts,k,rfl,rfl,hq,q⟩:=h
 cases ry
 obtain⟨h1,h2,vs,pr,dd⟩:=jf I hq
 refine wpAny_in_of (Zc rx) h2 dd.mapOf ?_
 rw[kh pr]
 exact⟨.bl _,H,I.tok _,rfl,by simpa using q⟩
def lj:V->V->V->Hp->(Hp->Prop)->Prop:=fun o i v H Q=>∃a ts k,o = .ref a/\i = .str k/\H a=some (.dK (txK ts))/\ts.length<sizeLine/\Q (upd H a (.dK (txK (Ue ts k v))))
theorem lh{X:Cx}:pW X lj:=by
 intro pins s σ H o i v ov iv u Q I ro ri rv h
 obtain⟨a,ts,k,rfl,rfl,hq,hl,q⟩:=h
 cases ro
 obtain⟨h1,h2,vs,pr,dd⟩:=jf I hq
 have hz:vs.length<=sizeLine:=by rw[<- pf pr];exact h1
 refine wpAny_setItem_pairs (hsz:=hz) (Zc ri) dd fun h' dd' hs=>⟨_,?_,q⟩
 have he:∃q,h'.get? a=some q:=let ⟨q,_,_,hq,_⟩:=dd';⟨q,hq⟩
 refine I.write (x:=a) (e:=a) (by rw[hq];exact True.intro) (.inl rfl) (fun c z hc e=>(hs.2 c hc).trans e) he ?_
 have hl2:=iX ts k v
 exact⟨by unfold txK;rw[List.length_map];omega,h2,_,iW rv pr,dd'⟩
def lX:TE:=fun _ H Q=>∀p,H p=none->Q (.ref p) (upd H p (.dK (txK [])))
theorem eV{X:Cx}{pos:Pos}:PE X (.Dict [] [] pos) lX:=fun pins s σ H Q I h=>by
 have hb:sysModules<s.heap.objs.size:=Nat.lt_trans (by decide) (show mainGlobals<s.heap.objs.size from(I.mod.glob.keeps I.bk).lt)
 refine wpAny_Dict_empty ⟨.ref s.heap.objs.size,_,I.laid (a:=s.heap.objs.size) (o:=.dK (txK [])) (t':=s.toks) (fun _ _ q=>Heap.get?_push_of_some _ q) (Nat.le_refl _) ?_,rfl,h _ (I.hok.fresh (Nat.le_refl _))⟩
 exact⟨Nat.zero_le _,beq_eq_false_iff_ne.mpr (Ne.symm (Nat.ne_of_lt hb)),[],.nil,Heap.DictOf.new s.heap⟩
end DL
end
section
namespace DL
open PySem L2
variable {K:KW}
theorem WC{S M:Addr->Prop}{τ:DS}{σ:St}{H:Hp}(r:R K S M τ σ H){i:Nat}{d:PyData}(hi:τ[i]?=some (some (.g d))) :
  ∃v F,σ[i]?=some (some v)/\DpT K S H d v F/\(∀a∈F,M a)/\∀(H':Hp) (d':PyData),Chg (fun b=>b∈F) H H'->(∀a∈F,∃o,H' a=some o)->DpT K S H' d' v F->R K S M (τ.set i (some (.g d'))) σ H':=by
 obtain⟨φ,g⟩:=r.gr
 obtain⟨⟨v,g1,g2⟩,g3,g4,g5,g6⟩:=g i d hi
 refine⟨v,φ i,g1,g2,g4,fun H' d' c ho hd=>?_⟩
 have hlt:i<τ.length:=(List.getElem?_eq_some_iff.mp hi).1
 have ne:∀j,j≠i->(τ.set i (some (.g d')))[j]?=τ[j]?:=fun j hj=>List.getElem?_set_ne (Ne.symm hj)
 have se:(τ.set i (some (.g d')))[i]?=some (some (.g d')):=List.getElem?_set_self hlt
 have k:Keep S H S H':=c.keep fun b hb=>r.sub b (g4 b hb)
 have own:∀(j:Nat) (ys:Ow),(τ.set i (some (.g d')))[j]?=some (some ys.L)->j≠i/\τ[j]?=some (some ys.L):=fun j ys e=>by
  by_cases hj:j=i
  ·subst hj;rw[se]at e;exact absurd (Option.some.inj (Option.some.inj e)).symm Ow.not_g
  ·rw[ne j hj]at e;exact⟨hj,e⟩
 refine⟨by rw[List.length_set];exact r.len,fun j x e=>?_,fun j ys e=>?_,fun j ys e=>?_,fun j1 j2 ys zs b e1 e2 f1 f2=>r.inj _ _ _ _ b (own _ _ e1).2 (own _ _ e2).2 f1 f2,r.sub,fun a h=>?_,?_⟩
 ·by_cases hj:j=i
  ·subst hj;rw[se]at e;cases e
  ·rw[ne j hj]at e
   obtain⟨u,h1,h2⟩:=r.dat j x e
   exact⟨u,h1,h2.mono k.same⟩
 ·obtain⟨hj,e⟩:=own j ys e
  obtain⟨b,us,h1,h2,h3,h4⟩:=r.mt j ys e
  exact⟨b,us,h1,h2,c b _ (g5 j ys b e h1) h3,h4.mono k.same⟩
 ·by_cases hj:j=i
  ·subst hj;rw[se]at e;cases e
  ·rw[ne j hj]at e
   obtain⟨b,us,h1,h2,h3⟩:=r.cst j ys e
   exact⟨b,us,h1,k.same.seq h2,h3.mono k.same⟩
 ·by_cases hb:a∈φ i
  ·exact ho a hb
  ·obtain⟨o,e⟩:=r.ex a h
   exact⟨o,c a o hb e⟩
 ·refine⟨φ,fun j x e=>?_⟩
  by_cases hj:j=i
  ·subst hj
   rw[se]at e;cases e
   refine⟨⟨v,g1,hd⟩,g3,g4,fun j' o a z1 z2=>g5 j' o a (own j' o z1).2 z2,fun j' x' hj' z=>?_⟩
   rw[ne j' hj']at z
   exact g6 j' x' hj' z
  ·rw[ne j hj]at e
   obtain⟨⟨v',q1,q2⟩,q3,q4,q5,q6⟩:=g j x e
   have on:∀a∈φ j,H' a=H a:=fun a ha=>by
    obtain⟨o,e'⟩:=r.ex a (r.sub a (q4 a ha))
    rw[e'];exact c a o (fun z=>q6 i d (Ne.symm hj) hi a ha z) e'
   refine⟨⟨v',q1,q2.mono (tsS k.same) on⟩,q3,q4,fun j' o a z1 z2=>q5 j' o a (own j' o z1).2 z2,fun j' x' hj' z=>?_⟩
   by_cases hj2:j'=i
   ·subst hj2;exact q6 j' d hj' hi
   ·rw[ne j' hj2]at z;exact q6 j' x' hj' z
def fU(np i:Nat)(τ:DS):Option Out:=if np<=i/\i<τ.length then some (.nx (τ.set i (some (.g (.dict []))))) else none
theorem jw{np:Nat}{fr:Bool}{i:Nat}:B K np (cq lX (VS i)) fr (fU np i):=by
 intro F S M τ σ H D out hnp f ee q
 unfold fU at ee
 split at ee
 ·rename_i hi
  cases ee
  intro a ha
  have s:=FI ha (HO.dK (txK []))
  have f1:=f.hide s ha ⟨_,DC⟩
  have hM:¬M a:=fun z=>f.r.fresh ha (f.r.sub a z)
  refine q _ _ _ _ (f1.newG (X:=[a]) hi.2 (Nat.le_trans hnp hi.1) (fun b hb=>.inr (List.mem_singleton.mp hb)) (fun b hb=>by rw[List.mem_singleton.mp hb];exact hM) (fun b hb=>by rw[List.mem_singleton.mp hb];exact f.hnone ha) (by simp) ⟨a,[],rfl,rfl,DC,rfl⟩) fun b o hn e=>⟨fun z=>z.elim hn (Cw e ha),s b o e⟩
 ·cases ee
def QC:List (PyData×PyData)->Str->Option PyData
 |[],_=>none
 |(.str x,d)::r,k=>if x=k then some d else QC r k
 |_::r,k=>QC r k
theorem Zk{H:Hp}{k:Str}:∀{kvs:List (PyData×PyData)} {ts:List (Str×V)},IsX K H kvs ts->(match QC kvs k with
  |some d=>∃v,Tq ts k=some v/\Is K H d v/\Ib d=true
  |none=>Tq ts k=none)
 |[],_,h=>by rw[show _=[] from h];rfl
 |(_,d)::r,_,⟨t,tr,e,ek,f,h,l⟩=>by
  subst e ek
  have ih:=Zk (k:=k) l
  unfold QC Tq
  by_cases e:t.1=k
  ·rw[if_pos e,if_pos e];exact⟨t.2,rfl,h,f⟩
  ·rw[if_neg e,if_neg e];exact ih
def Zz(i:Nat)(f:DX)(τ:DS):Option (PyData×DS):=match τ[i]? with
 |some (some (.g (.dict _)))=>(f τ).bind fun p=>match p.1,p.2[i]? with
  |.str k,some (some (.g (.dict kvs)))=>(QC kvs k).map fun d=>(d,p.2)
  |_,_=>none
 |_=>none
theorem mQ{i:Nat}{fr:Bool}{tb:TE}{f:DX}(h:E K tb fr f):E K (tOp oG (Ub i) tb) false (Zz i f):=by
 refine⟨fun τ d τ' e=>?_,?_⟩
 ·unfold Zz at e
  split at e
  ·obtain⟨⟨x,τ1⟩,e1,e⟩:=oB e
   dsimp only at e
   split at e
   ·obtain⟨z,e3,e⟩:=oM e
    cases e;exact h.like _ _ _ e1
   ·cases e
  ·cases e
 intro S M τ σ H Q d τ' r e q
 unfold Zz at e
 split at e
 ·rename_i kv0 h0
  obtain⟨⟨x,τ1⟩,e1,e⟩:=oB e
  dsimp only at e
  split at e
  ·rename_i k kvs hk
   obtain⟨z,e3,e⟩:=oM e
   cases e
   obtain⟨v0,F0,hv0,_⟩:=WC r h0
   refine⟨v0,hv0,h.weak.run S M τ σ H _ _ _ r e1 fun u H1 r1 c1 i1=>?_⟩
   obtain⟨v1,F1,hv1,⟨a,ts,ea,_,hH,l⟩,_⟩:=WC r1 hk
   rw[hv0]at hv1;cases hv1
   subst ea
   have g:=Zk (k:=k) l
   rw[e3]at g
   obtain⟨v,gv,iv,_⟩:=g
   exact⟨a,ts,k,v,rfl,i1,hH,gv,q v H1 r1 c1 iv⟩
  ·cases e
 ·cases e
def Z0(neg:Bool)(f:DX)(i:Nat)(τ:DS):Option (PyData×DS):=(f τ).bind fun p=>match p.1,p.2[i]? with
 |.str k,some (some (.g (.dict kvs)))=>some (.bool (neg != (QC kvs k).isSome),p.2)
 |_,_=>none
theorem mR{neg:Bool}{i:Nat}{fr:Bool}{ta:TE}{f:DX}(h:E K ta fr f):E K (tOp (oK neg) ta (Ub i)) false (Z0 neg f i):=by
 refine⟨fun τ d τ' e=>?_,?_⟩
 ·unfold Z0 at e
  obtain⟨⟨x,τ1⟩,e1,e⟩:=oB e
  dsimp only at e
  split at e
  ·cases e;exact h.like _ _ _ e1
  ·cases e
 intro S M τ σ H Q d τ' r e q
 unfold Z0 at e
 obtain⟨⟨x,τ1⟩,e1,e⟩:=oB e
 dsimp only at e
 split at e
 ·rename_i k kvs hk
  cases e
  refine h.weak.run S M τ σ H _ _ _ r e1 fun u H1 r1 c1 i1=>?_
  obtain⟨v1,F1,hv1,⟨a,ts,ea,_,hH,l⟩,_⟩:=WC r1 hk
  subst ea
  have g:=Zk (k:=k) l
  have eq:(Tq ts k).isSome=(QC kvs k).isSome:=by
   cases z:QC kvs k with
   |none=>rw[z]at g;rw[show Tq ts k=none from g];rfl
   |some y=>rw[z]at g;obtain⟨v,gv,_⟩:=g;rw[gv];rfl
  refine⟨.ref a,hv1,a,ts,k,rfl,i1,hH,?_⟩
  rw[eq]
  exact q _ H1 r1 c1 rfl
 ·cases e
def cw(kvs:List (PyData×PyData))(k:Str)(d:PyData):List (PyData×PyData):=if (QC kvs k).isSome=true then kvs.map (fun p=>match p with
  |(.str x,y)=>if x=k then (.str x,d) else (.str x,y)
  |p=>p) else kvs++[(.str k,d)]
theorem pV{H:Hp}{k:Str}:∀{kvs:List (PyData×PyData)} {ts:List (Str×V)},IsX K H kvs ts->(ts.any fun t=>decide (t.1=k))=(QC kvs k).isSome
 |[],_,h=>by rw[show _=[] from h];rfl
 |(_,d)::r,_,⟨t,tr,e,ek,f,h,l⟩=>by
  subst e ek
  unfold QC
  rw[List.any_cons,pV (k:=k) l]
  by_cases e:t.1=k
  ·rw[if_pos e,decide_eq_true e];rfl
  ·rw[if_neg e,decide_eq_false e,Bool.false_or]
theorem oW{H:Hp}{k:Str}{d:PyData}{v:V}(fd:Ib d=true)(hv:Is K H d v):∀{kvs:List (PyData×PyData)} {ts:List (Str×V)},IsX K H kvs ts->IsX K H (kvs.map fun p=>match p with
  |(.str x,y)=>if x=k then (.str x,d) else (.str x,y)
  |p=>p) (ts.map fun t=>if t.1=k then (t.1,v) else t)
 |[],_,h=>by rw[show _=[] from h];rfl
 |(_,y)::r,_,⟨t,tr,e,ek,f,h,l⟩=>by
  subst e ek
  have ih:=oW (k:=k) fd hv l
  rw[List.map_cons,List.map_cons]
  dsimp only
  by_cases e:t.1=k
  ·rw[if_pos e,if_pos e];exact⟨_,_,rfl,rfl,fd,hv,ih⟩
  ·rw[if_neg e,if_neg e];exact⟨_,_,rfl,rfl,f,h,ih⟩
theorem pS{H:Hp}{k:Str}{d:PyData}{v:V}(fd:Ib d=true)(hv:Is K H d v):∀{kvs:List (PyData×PyData)} {ts:List (Str×V)},IsX K H kvs ts->IsX K H (kvs++[(.str k,d)]) (ts++[(k,v)])
 |[],_,h=>by rw[show _=[] from h];exact⟨_,_,rfl,rfl,fd,hv,rfl⟩
 |(_,y)::r,_,⟨t,tr,e,ek,f,h,l⟩=>by
  subst e ek
  exact⟨_,_,rfl,rfl,f,h,pS fd hv l⟩
theorem j9{H:Hp}{k:Str}{d:PyData}{v:V}{kvs:List (PyData×PyData)}{ts:List (Str×V)}(fd:Ib d=true)(hv:Is K H d v)(h:IsX K H kvs ts):IsX K H (cw kvs k d) (Ue ts k v):=by
 unfold cw Ue
 rw[pV h]
 split
 ·exact oW fd hv h
 ·exact pS fd hv h
theorem fF{H:Hp}:∀{kvs:List (PyData×PyData)} {ts:List (Str×V)},IsX K H kvs ts->ts.length=kvs.length
 |[],_,h=>by rw[show _=[] from h];rfl
 |(_,_)::_,_,⟨t,tr,e,_,_,_,l⟩=>by subst e;rw[List.length_cons,List.length_cons,fF l]
def TR(i:Nat)(e k:DX)(τ:DS):Option Out:=(e τ).bind fun p=>match p.2[i]? with
 |some (some (.g (.dict _)))=>(k p.2).bind fun q=>match q.1,q.2[i]? with
  |.str x,some (some (.g (.dict kvs)))=>if Ib p.1=true/\kvs.length<sizeLine then some (.nx (q.2.set i (some (.g (.dict (cw kvs x p.1)))))) else none
  |_,_=>none
 |_=>none
theorem ju{np:Nat}{fr f1 f2:Bool}{i:Nat}{te tk:TE}{e k:DX}(he:E K te f1 e)(hk:E K tk f2 k):B K np (cq te (oy (Ub i) tk lj)) fr (TR i e k):=by
 intro F S M τ σ H D out hnp f ee q
 unfold TR at ee
 obtain⟨⟨x,τ1⟩,e1,ee⟩:=oB ee
 dsimp only at ee
 split at ee
 ·rename_i kv0 h0
  obtain⟨⟨y,τ2⟩,e2,ee⟩:=oB ee
  dsimp only at ee
  split at ee
  ·rename_i z kvs h2
   split at ee
   ·rename_i hc
    cases ee
    refine he.weak.run S M τ σ H _ x τ1 f.r e1 fun v H1 r1 c1 i1=>?_
    obtain⟨v0,F0,hv0,_⟩:=WC r1 h0
    refine⟨v0,hv0,hk.weak.run S M τ1 σ H1 _ _ τ2 r1 e2 fun u H2 r2 c2 i2=>?_⟩
    obtain⟨v1,F1,hv1,⟨a,ts,ea,eF,hH,l⟩,hM,go⟩:=WC r2 h2
    rw[hv0]at hv1;cases hv1
    subst ea eF
    have Sa:S a:=r2.sub a (hM a (List.mem_singleton_self a))
    refine⟨a,ts,z,rfl,i2,hH,by rw[fF l];exact hc.2,?_⟩
    have iv:Is K (hid S H2) x v:=Is.mono (c2.keep r1.sub).same i1
    have c3:Chg (fun b=>b∈[a]) H2 (upd H2 a (.dK (txK (Ue ts z v)))):=fun b o hn e=>by rw[Dr (fun w=>hn (by rw[w];exact List.mem_singleton_self a))];exact e
    have r3:=go (upd H2 a (.dK (txK (Ue ts z v)))) (.dict (cw kvs z x)) c3 (fun b hb=>by rw[List.mem_singleton.mp hb];exact⟨_,DC⟩) ⟨a,Ue ts z v,rfl,rfl,DC,by rw[Zi Sa];exact j9 hc.1 iv l⟩
    have c4:Chg M H (upd H2 a (.dK (txK (Ue ts z v)))):=(c1.trans c2).trans fun b o hn e=>c3 b o (fun w=>hn (by rw[List.mem_singleton.mp w];exact hM a (List.mem_singleton_self a))) e
    have lk:=(he.like _ _ _ e1).trans (hk.like _ _ _ e2)
    refine q S M σ _ ⟨r3,f.sS,fun b o e n=>c4 b o (fun w=>(f.new b w).elim n fun y=>by rw[y]at e;cases e) (f.old b o e n),f.new,f.fm,f.fs,f.fsub,f.snew,f.par,fun j v' e=>?_,f.fma⟩ (c4.keep f.r.sub)
    obtain⟨o,ho'⟩:=f.pm j v' e
    obtain⟨o2,h2'⟩:=(lk.own j).mpr ⟨o,ho'⟩
    have hj:j≠i:=fun w=>by subst w;rw[h2]at h2';exact Ow.not_g (Option.some.inj (Option.some.inj h2')).symm
    exact⟨o2,by rw[List.getElem?_set_ne (Ne.symm hj)];exact h2'⟩
   ·cases ee
  ·cases ee
 ·cases ee
end DL
namespace L2
open PySem
theorem Xz{X:Cx}{k:Nat}{ps:List Str}{sp:Sp}{x:Str}{p pos:Pos}(C:Cal X.prog X.w X.K X.mg X.base k x ps sp)(hr:Room k X.A)(hg:Gl X x)(hdb:(x==("__debug__":Str))=false:=by decide):PE X (.Call (.Name x p) [] [] pos) (Uc sp [] E0 Yl):=by
 obtain⟨f,fd,F,b,kp,m⟩:=C.ex
 exact ip F hr hg m kp b .nil iq hdb
end L2
end
section
namespace DL
open PySem L2
variable {K:KW}
end DL
end
section
namespace DL
open PySem L2
variable {K:KW} {np:Nat}
end DL
end
section
namespace DL
open PySem L2
variable {K:KW}
end DL
end
section
namespace DL
open PySem L2 PyProof.Rows
variable {K:KW}
def Li:List PyData->Option (List Bool)
 |[]=>some []
 |.bool b::r=>(Li r).map (b::·)
 |_::_=>none
theorem Qb:∀{bs:List Bool} {us:List Value},Vals (bs.map V.bl) us->us=bs.map Value.bool
 |[],_,.nil=>rfl
 |b::bs,_,.cons z zs=>by rw[Qb zs,show _=Value.bool b from z];rfl
theorem WB{H:Hp}:∀{ds:List PyData} {vs:List V} {bs:List Bool},IsL K H ds vs->Li ds=some bs->vs=bs.map V.bl
 |[],_,_,h,e=>by cases e;exact h
 |.bool b::r,_,_,⟨v,us,e1,iv,l⟩,e=>by
  obtain⟨ms,e2,e⟩:=oM e
  subst e
  cases (show v = .bl b from iv)
  rw[e1,WB l e2]
  rfl
 |.none::_,_,_,_,e=>by cases e
 |.int _::_,_,_,_,e=>by cases e
 |.str _::_,_,_,_,e=>by cases e
 |.list _::_,_,_,_,e=>by cases e
 |.tuple _::_,_,_,_,e=>by cases e
 |.dict _::_,_,_,_,e=>by cases e
theorem iT:∀bs:List Bool,(List.range bs.length).map (fun i=>bs.getD i false)=bs:=fun bs=>by
 refine List.ext_getElem (by simp) fun i h1 h2=>?_
 simp[List.getElem_map,h2]
theorem gF(bs:List Bool):(List.range bs.length).all (fun i=>bs.getD i false)=bs.all id:=by
 have h:=congrArg (fun l:List Bool=>l.all id) (iT bs)
 rw[List.all_map]at h
 exact h
theorem gE(bs:List Bool):(List.range bs.length).any (fun i=>bs.getD i false)=bs.any id:=by
 have h:=congrArg (fun l:List Bool=>l.any id) (iT bs)
 rw[List.any_map]at h
 exact h
theorem Sn{P:Program}{w:World}{A:Around}(bs:List Bool):TruthOf P w A (fun i v=>(bs.map Value.bool).toArray[i]?=some v) (fun i=>bs.getD i false):=by
 intro i v s Q E hP hQ
 rw[List.getElem?_toArray,List.getElem?_map]at hP
 obtain⟨b,hb,rfl⟩:=oM hP
 refine wpAny_truthy_bool ?_
 have e:bs.getD i false=b:=by rw[List.getD_eq_getElem?_getD,hb];rfl
 dsimp only at hQ
 rwa [e]at hQ
def mC(K:KW):List V->Hp->VK->Prop:=fun xs H Q=>∃(a:Addr) (bs:List Bool),xs=[.ref a]/\SqL K H a (bs.map V.bl)/\Q (.bl (bs.all id)) H
def mB(K:KW):List V->Hp->VK->Prop:=fun xs H Q=>∃(a:Addr) (bs:List Bool),xs=[.ref a]/\SqL K H a (bs.map V.bl)/\Q (.bl (bs.any id)) H
theorem VD{P:Program}{w:World}{A:Around}{E:Value->Shared->Prop}{s:Shared}{l:Addr}{items:Array Value}{Q:Value->Shared->Prop}(hl:s.heap.IsList l items)
  (h : ∀ s₂ : Shared, s₂ = { s with heap := s.heap.push { cls := .type "list_iterator", data := .fields #[.ref l, .int 0 0] } } ->
   (s₂.heap.IsListIter s.heap.objs.size l 0/\s₂.heap.IsList l items)->l≠s.heap.objs.size->Q (.ref s.heap.objs.size) s₂) :
  wpAny (model P w) A (pyIter (.ref l)) Q E s:=by
 have hlt:l<s.heap.objs.size:=by obtain⟨_,e,_⟩:=hl;exact Heap.lt_size e
 exact wpAny_pyIter_list hl (h _ rfl ⟨⟨_,Heap.get?_push_size _ rfl,rfl,rfl⟩,hl.push _⟩ (Nat.ne_of_lt hlt))
theorem Oj{X:Cx}(hc:X.calm=true):Oc X (.builtin "all") (mC (QB X)):=by
 intro pins s σ H xs us Q I r h
 obtain⟨a,bs,rfl,hs,q⟩:=h
 obtain⟨u,rfl,ru⟩:=NW r
 cases ru
 obtain⟨its,rv,p,hz⟩:=I.list hs
 cases Qb rv
 have hl:=p.isList
 refine call_all_walk (VD hl fun s₂ e st hlI=>?_)
 subst e
 refine⟨_,_,_,_,_,_,fun i=>bs.getD i false,rfl,Walks.list (A:=X.A.in1) (I.ok.hd hc) _ a hlI (bs.map Value.bool).toArray,st,Sn bs,fun h' tk hk=>?_⟩
 have hn:(bs.map Value.bool).toArray.size=bs.length:=by rw[List.size_toArray,List.length_map]
 rw[hn,gF]
 exact⟨.bl (bs.all id),H,I.kept (old_kept hk),rfl,q⟩
theorem iA{X:Cx}(hc:X.calm=true):Oc X (.builtin "any") (mB (QB X)):=by
 intro pins s σ H xs us Q I r h
 obtain⟨a,bs,rfl,hs,q⟩:=h
 obtain⟨u,rfl,ru⟩:=NW r
 cases ru
 obtain⟨its,rv,p,hz⟩:=I.list hs
 cases Qb rv
 have hl:=p.isList
 refine call_any_walk (VD hl fun s₂ e st hlI=>?_)
 subst e
 refine⟨_,_,_,_,_,_,fun i=>bs.getD i false,rfl,Walks.list (A:=X.A.in1) (I.ok.hd hc) _ a hlI (bs.map Value.bool).toArray,st,Sn bs,fun h' tk hk=>?_⟩
 have hn:(bs.map Value.bool).toArray.size=bs.length:=by rw[List.size_toArray,List.length_map]
 rw[hn,gE]
 exact⟨.bl (bs.any id),H,I.kept (old_kept hk),rfl,q⟩
def TH:List PyData->Option PyData
 |[.list ds]=>(Li ds).map fun bs=>.bool (bs.all id)
 |_=>none
def bh:List PyData->Option PyData
 |[.list ds]=>(Li ds).map fun bs=>.bool (bs.any id)
 |_=>none
theorem Z6:BR K false (mC K) TH:=by
 intro S H vs ds d Q _ l e q
 unfold TH at e
 split at e
 ·obtain⟨bs,e1,e⟩:=oM e
  cases e
  obtain⟨v,us,rfl,⟨a,ws,rfl,h,lw⟩,iu⟩:=l
  cases (show us=[] from iu)
  rw[WB lw e1]at h
  exact⟨a,bs,rfl,SqL.of (hid_iff.mp h).2,q _ H (fun _ _ e=>e) rfl⟩
 ·cases e
theorem nQ:BR K false (mB K) bh:=by
 intro S H vs ds d Q _ l e q
 unfold bh at e
 split at e
 ·obtain⟨bs,e1,e⟩:=oM e
  cases e
  obtain⟨v,us,rfl,⟨a,ws,rfl,h,lw⟩,iu⟩:=l
  cases (show us=[] from iu)
  rw[WB lw e1]at h
  exact⟨a,bs,rfl,SqL.of (hid_iff.mp h).2,q _ H (fun _ _ e=>e) rfl⟩
 ·cases e
end DL
end
section
namespace L2
open PySem PySem.Spec PyProof.Rows
section
variable {X:Cx} {a b:Expr} {p pos:Pos} {e:Expr} {es:List Expr} {te:TE} {t:TA}
def pb(X:Cx)(T:Addr->Sp->Prop):Prop:=∀f sp,T f sp->∃k fd ps,FnOk X.prog X.w X.K X.mg X.base CX0 k f fd ps sp/\Room k X.A/\PySem.W.keepIn X.K (.ref f)=true/\Binds X.K fd ps []
def iO(T:Addr->Sp->Prop)(te:TE)(t:TA):TE:=fun σ H Q=>te σ H fun v H1=>∃f sp,v = .ref f/\T f sp/\Uc sp [] E0 t σ H1 Q
theorem ik{T:Addr->Sp->Prop}(hT:pb X T)(hf:PE X (.Subscript a b p) te)(ha:PA X (e::es) t)
  (he:starEach (e::es) X.env=(false,eval e X.env)::starEach es X.env:=by rfl) (hpl:(backTo pos (starEach es X.env)).any (·.1)=false:=by rfl) :
  PE X (.Call (.Subscript a b p) (e::es) [] pos) (iO T te t):=by
 intro pins s σ H Q I h
 have ev:eval (.Call (.Subscript a b p) (e::es) [] pos) X.env=(do callWith pos (<- eval (.Subscript a b p) X.env) [] (backTo pos (starEach (e::es) X.env)) (backToKw pos (keywordEach [] X.env))):=rfl
 rw[ev]
 refine wpAny_bind (thn (hf pins s σ H _ I h) fun u s1 ⟨x,H1,I1,rx,q⟩=>?_)
 obtain⟨f,sp,rfl,ht,q⟩:=q
 cases (show u=Value.ref f from rx)
 obtain⟨k,fd,ps,F,hr,hk,hb⟩:=hT f sp ht
 refine PySem.W.callWith_K (h₀:=X.base) I1.ok.mod.kin hk (thn (ha pos pins s1 σ H1 _ I1 q) fun us s2 ⟨vs,H2,I2,r,q2⟩=>⟨I2.kIn,?_⟩) he hpl
 exact cu F hr hb .nil iq I2 r q2
end
end L2
namespace DL
open PySem L2 PyProof.Rows
variable {K:KW}
def KfL(w:World):List DictEntry->List (Str×Addr)->Prop
 |[],[]=>True
 |e::es,p::tb=>(∃t,e.key = .str p.1 t)/\e.hash=hashStr w p.1/\e.val = .ref p.2/\KfL w es tb
 |_,_=>False
structure KF(K:KW)(w:World)(a:Addr)(tb:List (Str×Addr)):Prop where
 ex:∃es n,K.fr.lookup a=some ⟨.type "dict",none,.dict es n,#[]⟩/\KfL w es.toList tb
def IK{α:Type}:List (Str×α)->Str->Option α
 |[],_=>none
 |p::r,k=>if p.1=k then some p.2 else IK r k
theorem fG{w:World}:∀{es:List DictEntry} {tb:List (Str×Addr)},KfL w es tb->∀e∈es,∃k,Value.isStrOf k e.key=true/\e.hash=hashStr w k
 |[],_,_,e,h=>nomatch h
 |x::es,[],h,_,_=>h.elim
 |x::es,p::tb,⟨⟨t,hk⟩,hh,_,r⟩,e,h=>by
  rcases List.mem_cons.mp h with rfl|h
  ·exact⟨p.1,by rw[hk,Gf];exact decide_eq_true rfl,hh⟩
  ·exact fG r e h
theorem fH{w:World}{k:Str}:∀{es:List DictEntry} {tb:List (Str×Addr)},KfL w es tb->(es.find? fun e=>Value.isStrOf k e.key).map (·.val)=(IK tb k).map Value.ref
 |[],[],_=>rfl
 |[],_::_,h=>h.elim
 |_::_,[],h=>h.elim
 |x::es,p::tb,⟨⟨t,hk⟩,hh,hc,r⟩=>by
  unfold IK
  rw[List.find?_cons,hk,Gf]
  by_cases e:p.1=k
  ·rw[if_pos e,decide_eq_true e.symm]
   show some x.val=_
   rw[hc];rfl
  ·rw[if_neg e,decide_eq_false (Ne.symm e)]
   exact fH r
theorem mI{X:Cx}{pins:List (Addr×Obj)}{σ:L2.St}{H:Hp}{s:Shared}{a:Addr}{tb:List (Str×Addr)}(kf:KF (QB X) X.w a tb)(I:Inv X pins σ H s):∃es:Array DictEntry,s.heap.MapOf (strKind X.prog X.w) a (fun k=>findBy Value.isStrOf es k)/\∀k,findBy Value.isStrOf es k=(IK tb k).map Value.ref:=by
 obtain⟨es,n,lk,hL⟩:=kf.ex
 have ho:=I.kIn _ _ lk
 refine⟨es,⟨_,es,n,ho,⟨rfl,rfl,rfl⟩,rfl,fun e he=>fG hL e (Array.mem_toList_iff.mpr he),fun _=>rfl⟩,fun k=>?_⟩
 unfold findBy
 rw[<- Array.find?_toList]
 exact fH hL
def rKf(a:Addr)(tb:List (Str×Addr)):R2:=fun x y H Q=>x = .ref a/\∃k f,y = .str k/\IK tb k=some f/\Q (.ref f) H
theorem oY{X:Cx}{a:Addr}{tb:List (Str×Addr)}(kf:KF (QB X) X.w a tb):IxR X (rKf a tb):=by
 intro value slice pins s σ H x y v u Q I rx ry h hs
 obtain⟨rfl,k,f,rfl,hg,q⟩:=h
 cases rx
 obtain⟨t,rfl⟩:=ry
 obtain⟨es,hm,hf⟩:=mI kf I
 exact tail_any hm.typeIs PySem.F.slot_dict_getitem.lookup (wpAny_getItem_of (k:=k) (key:=.str k t) (by show Value.isStrOf k (.str k t)=true;rw[Gf];exact decide_eq_true rfl) hm (v:=.ref f) (by rw[hf,hg];rfl) ⟨.ref f,H,I.tok _,rfl,q⟩) hs
def lq(a:Addr)(tb:List (Str×Addr))(neg:Bool):R2:=fun y x H Q=>x = .ref a/\∃k,y = .str k/\Q (.bl (neg != (IK tb k).isSome)) H
theorem kG{X:Cx}{a:Addr}{tb:List (Str×Addr)}(kf:KF (QB X) X.w a tb)(hs:(a==sysModules)=false):OpR X (compareOp .In) (lq a tb false):=by
 intro pins s σ H x y v u Q I rx ry h
 obtain⟨rfl,k,rfl,q⟩:=h
 cases ry
 obtain⟨t,rfl⟩:=rx
 obtain⟨es,hm,hf⟩:=mI kf I
 refine wpAny_in_of (k:=k) (by show Value.isStrOf k (.str k t)=true;rw[Gf];exact decide_eq_true rfl) hs hm ?_
 rw[hf,Option.isSome_map]
 exact⟨.bl _,H,I.tok _,rfl,by simpa using q⟩
theorem fK{w:World}{k:Str}:∀{es:List DictEntry} {tb:List (Str×PyData)},KdL K w es tb->(es.find? fun e=>Value.isStrOf k e.key).isSome=(So tb k).isSome
 |[],[],_=>rfl
 |[],_::_,h=>h.elim
 |_::_,[],h=>h.elim
 |x::es,p::tb,⟨⟨t,hk⟩,hh,hc,r⟩=>by
  unfold So
  rw[List.find?_cons,hk,Gf]
  by_cases e:p.1=k
  ·rw[if_pos e,decide_eq_true e.symm];rfl
  ·rw[if_neg e,decide_eq_false (Ne.symm e)]
   exact fK r
def lx(a:Addr)(tb:List (Str×PyData)):R2:=fun y x H Q=>x = .ref a/\∃k,y = .str k/\Q (.bl (So tb k).isSome) H
theorem kH{X:Cx}{a:Addr}{tb:List (Str×PyData)}(kd:KD (QB X) X.w a tb)(hs:(a==sysModules)=false):OpR X (compareOp .In) (lx a tb):=by
 intro pins s σ H x y v u Q I rx ry h
 obtain⟨rfl,k,rfl,q⟩:=h
 cases ry
 obtain⟨t,rfl⟩:=rx
 obtain⟨es,n,lk,hL⟩:=kd.ex
 have ho:=I.kIn _ _ lk
 have hm:s.heap.MapOf (strKind X.prog X.w) a (fun k=>findBy Value.isStrOf es k):=⟨_,es,n,ho,⟨rfl,rfl,rfl⟩,rfl,fun e he=>fL hL e (Array.mem_toList_iff.mpr he),fun _=>rfl⟩
 refine wpAny_in_of (k:=k) (by show Value.isStrOf k (.str k t)=true;rw[Gf];exact decide_eq_true rfl) hs hm ?_
 have e:(findBy Value.isStrOf es k).isSome=(So tb k).isSome:=by
  unfold findBy
  rw[<- Array.find?_toList,Option.isSome_map]
  exact fK hL
 rw[e]
 exact⟨.bl _,H,I.tok _,rfl,q⟩
def lG(tb:List (Str×PyData))(f:DX)(τ:DS):Option (PyData×DS):=(f τ).bind fun p=>match p.1 with
 |.str k=>some (.bool (So tb k).isSome,p.2)
 |_=>none
theorem pD{fa:Bool}{a:Addr}{tb:List (Str×PyData)}{t:TE}{f:DX}(h:E K t fa f):E K (tOp (lx a tb) t (tC (.ref a))) false (lG tb f):=by
 refine⟨fun τ d τ' e=>?_,?_⟩
 ·unfold lG at e
  obtain⟨⟨x,τ1⟩,e1,e⟩:=oB e
  dsimp only at e
  split at e
  ·cases e;exact h.like _ _ _ e1
  ·cases e
 intro S M τ σ H Q d τ' r e q
 unfold lG at e
 obtain⟨⟨x,τ1⟩,e1,e⟩:=oB e
 dsimp only at e
 split at e
 ·rename_i k
  cases e
  refine h.weak.run S M τ σ H _ _ _ r e1 fun v H1 r1 c1 i1=>?_
  cases (show v = .str k from i1)
  exact⟨rfl,k,rfl,q _ H1 r1 c1 rfl⟩
 ·cases e
abbrev Mir:=List L->Option (PyData×List L)
inductive TMs (T:Addr->Mir->Prop):List (Str×Addr)->List (Str×Mir)->Prop
 |nil:TMs T [] []
 |cons {k:Str} {f:Addr} {G:Mir} {tb:List (Str×Addr)} {tm:List (Str×Mir)} (h:T f G) (r:TMs T tb tm):TMs T ((k,f)::tb) ((k,G)::tm)
theorem TMs.get{T:Addr->Mir->Prop}{k:Str}{G:Mir}:∀{tb:List (Str×Addr)} {tm:List (Str×Mir)},TMs T tb tm->IK tm k=some G->∃f,IK tb k=some f/\T f G
 |_,_,.nil,h=>by cases h
 |_,_,.cons (k:=k') (f:=f) h r,e=>by
  unfold IK at e ⊢
  by_cases z:k'=k
  ·rw[if_pos z]at e ⊢
   cases e
   exact⟨f,rfl,h⟩
  ·rw[if_neg z]at e ⊢
   exact r.get e
theorem TMs.some{T:Addr->Mir->Prop}{k:Str}:∀{tb:List (Str×Addr)} {tm:List (Str×Mir)},TMs T tb tm->(IK tb k).isSome=(IK tm k).isSome
 |_,_,.nil=>rfl
 |_,_,.cons (k:=k') h r=>by
  unfold IK
  by_cases z:k'=k
  ·rw[if_pos z,if_pos z];rfl
  ·rw[if_neg z,if_neg z];exact r.some
def pd(P:Program)(w:World)(K:PySem.W.Frag)(mg:Str->Option Value)(base:Heap)(k:Nat):Addr->Mir->Prop:=fun f G=>∃x ps,Cal P w K mg base k x ps (spD ⟨K,w⟩ G false)/\mg x=some (.ref f)
theorem kn{X:Cx}{k:Nat}(hr:Room k X.A):pb X (fun f sp=>∃G,pd X.prog X.w X.K X.mg X.base k f G/\sp=spD ⟨X.K,X.w⟩ G false):=by
 rintro f sp ⟨G,⟨x,ps,C,hm⟩,rfl⟩
 obtain⟨f',fd,F,b,kp,m⟩:=C.ex
 rw[m]at hm
 cases hm
 exact⟨k,fd,ps,F,hr,kp,b⟩
def jh(tm:List (Str×Mir))(f:DX)(τ:DS):Option (PyData×DS):=(f τ).bind fun p=>match p.1 with
 |.str k=>some (.bool (IK tm k).isSome,p.2)
 |_=>none
theorem pE{T:Addr->Mir->Prop}{fa:Bool}{a:Addr}{tb:List (Str×Addr)}{tm:List (Str×Mir)}{t:TE}{f:DX}(hT:TMs T tb tm)(h:E K t fa f):E K (tOp (lq a tb false) t (tC (.ref a))) false (jh tm f):=by
 refine⟨fun τ d τ' e=>?_,?_⟩
 ·unfold jh at e
  obtain⟨⟨x,τ1⟩,e1,e⟩:=oB e
  dsimp only at e
  split at e
  ·cases e;exact h.like _ _ _ e1
  ·cases e
 intro S M τ σ H Q d τ' r e q
 unfold jh at e
 obtain⟨⟨x,τ1⟩,e1,e⟩:=oB e
 dsimp only at e
 split at e
 ·rename_i k
  cases e
  refine h.weak.run S M τ σ H _ _ _ r e1 fun v H1 r1 c1 i1=>?_
  cases (show v = .str k from i1)
  refine⟨rfl,k,rfl,q _ H1 r1 c1 ?_⟩
  show V.bl _=V.bl _
  rw[Bool.false_bne,hT.some]
 ·cases e
def Vx(tm:List (Str×Mir))(f:DX)(a:DA)(τ:DS):Option (PyData×DS):=(f τ).bind fun p=>match p.1 with
 |.str k=>(IK tm k).bind fun G=>AU G a p.2
 |_=>none
theorem lC{T:Addr->Mir->Prop}{fa:Bool}{ad:Addr}{tb:List (Str×Addr)}{tm:List (Str×Mir)}{t:TE}{f:DX}{ta:TA}{a:DA}(hT:TMs T tb tm)(h:E K t fa f)(ha:A K ta a) :
  E K (iO (fun f sp=>∃G,T f G/\sp=spD K G false) (tOp (rKf ad tb) (tC (.ref ad)) t) ta) false (Vx tm f a):=by
 refine⟨fun τ d τ' e=>?_,?_⟩
 ·unfold Vx at e
  obtain⟨⟨x,τ1⟩,e1,e⟩:=oB e
  dsimp only at e
  split at e
  ·obtain⟨G,e2,e⟩:=oB e
   exact(h.like _ _ _ e1).trans ((AY (fr:=false) (G:=G) (X:=E0) ha).like _ _ _ e)
  ·cases e
 intro S M τ σ H Q d τ' r e q
 unfold Vx at e
 obtain⟨⟨x,τ1⟩,e1,e⟩:=oB e
 dsimp only at e
 split at e
 ·rename_i k
  obtain⟨G,e2,e⟩:=oB e
  obtain⟨fn,hg,hT'⟩:=hT.get e2
  refine h.weak.run S M τ σ H _ _ _ r e1 fun v H1 r1 c1 i1=>?_
  cases (show v = .str k from i1)
  refine⟨rfl,k,fn,rfl,hg,fn,spD K G false,rfl,⟨G,hT',rfl⟩,?_⟩
  exact(AY (fr:=false) (G:=G) (X:=E0) ha).run S M τ1 σ H1 Q d τ' r1 e fun v H' r' c' res=>q v H' r' (c1.trans c') (res.back r1 c1)
 ·cases e
def Zg:List PyData->PyData->Option Nat
 |[],_=>none
 |y::ys,x=>if PyData.eqv y x=true then some 0 else (Zg ys x).map (·+1)
def ly(K:KW):V->List V->Hp->VK->Prop:=fun x xs H Q=>∃y ds d k,xs=[y]/\Is K H (.list ds) x/\Is K H d y/\okD d=true/\okD (.list ds)=true/\Zg ds d=some k/\Q (.int (k:Nat)) H
def bg:PyData->PyData->Option PyData
 |.list ds,d=>if okD d&&okD (.list ds) then (Zg ds d).map fun k=>.int (k:Nat) else none
 |_,_=>none
theorem bZ{d:PyData}:∀{ds:List PyData} {k:Nat},Zg ds d=some k->∃h:k<ds.length,PyData.eqv ds[k] d=true/\∀(m:Nat) (hm:m<ds.length),m<k->PyData.eqv ds[m] d=false
 |[],k,h=>by cases h
 |y::ys,k,h=>by
  unfold Zg at h
  by_cases e:PyData.eqv y d=true
  ·rw[if_pos e]at h
   cases h
   exact⟨Nat.succ_pos _,e,fun m _ hm=>absurd hm (Nat.not_lt_zero _)⟩
  ·rw[if_neg e]at h
   obtain⟨j,hj,rfl⟩:=oM h
   obtain⟨h1,h2,h3⟩:=bZ hj
   refine⟨Nat.succ_lt_succ h1,h2,fun m hm hlt=>?_⟩
   cases m with
   |zero=>exact Bool.eq_false_iff.mpr e
   |succ m=>exact h3 m (Nat.lt_of_succ_lt_succ hm) (Nat.lt_of_succ_lt_succ hlt)
theorem gc{X:Cx}(hu:X.A.units+65<cLine):MtR X "list.index" (ly (QB X)):=by
 intro pins s σ H x xs v us Q I rx rs h
 obtain⟨y,ds,d,k,rfl,hx,hy,od,ol,hk,q⟩:=h
 obtain⟨u,rfl,ru⟩:=NW rs
 obtain⟨as,ra⟩:=K7 I hx rx
 obtain⟨bs,rb⟩:=K7 I hy ru
 obtain⟨c1,c2⟩:=Nm ol
 have hm:X.A.units+1+min (PyData.depthAll ds) d.depth<cLine:=by omega
 obtain⟨a,vs,rfl,ha,hl⟩:=hx
 cases (show v=Value.ref a from rx)
 have hz:ds.length<=sizeLine:=by
  obtain⟨_,_,_,z⟩:=I.list (SqL.of ha)
  rw[<- hl.length];exact z
 obtain⟨k1,k2,k3⟩:=bZ hk
 cases ra with
 |@list _ o vs' n _ _ h1 h2 h3 h4 =>
  obtain⟨oc,od',odt,osl⟩:=o
  cases h2
  cases h3
  have em:=SeqAt.readsAll_map ds _ _ c1 h4
  have hlen:vs'.toList.length=ds.length:=by rw[<- em,List.length_map]
  have at':∀(m:Nat) (h:m<vs'.size) (h':m<ds.length),SeqAt.readOf s.heap vs'[m]=ds[m]:=fun m h h'=>by
   have:(vs'.toList.map (SeqAt.readOf s.heap))[m]?=ds[m]?:=by rw[em]
   rw[List.getElem?_map,List.getElem?_eq_getElem h',Array.getElem?_toList,Array.getElem?_eq_getElem h]at this
   exact Option.some.inj this
  have hsz:vs'.size=ds.length:=by rw[<- hlen,Array.length_toList]
  refine call_meets PySem.F.slot_list_index ⟨_,h1,rfl⟩ PySem.F.entry_list_index (PySem.F.args_list_index_2 _ _)
   (SeqAt.list_indexAt a vs' n od' osl u (fun y=>PyData.eqv (SeqAt.readOf s.heap y) d) k (by omega) ?_ ?_ ?_) ⟨h1,SeqAt.items_eqAt h4 rb c1 (KP od) hm,?_⟩
  ·have:sizeLine=2 ^ 24:=rfl
   omega
  ·show PyData.eqv (SeqAt.readOf s.heap vs'[k]) d=true
   rw[at' k _ k1];exact k2
  ·intro m hm hlt
   show PyData.eqv (SeqAt.readOf s.heap vs'[m]) d=false
   rw[at' m hm (by omega)];exact k3 m _ hlt
  ·exact⟨.int k,H,I.tok _,⟨_,rfl⟩,q⟩
theorem dn{x y d:PyData}(h:bg x y=some d):∃ds k,x = .list ds/\okD y=true/\okD (.list ds)=true/\Zg ds y=some k/\d = .int (k:Nat):=by
 unfold bg at h
 split at h
 ·split at h
  ·rename_i hok
   obtain⟨k,e4,h⟩:=oM h
   rw[Bool.and_eq_true]at hok
   exact⟨_,k,rfl,hok.1,hok.2,e4,h.symm⟩
  ·cases h
 ·cases h
theorem nL{fa fb:Bool}{ta tb:TE}{a b:DX}(ha:E K ta fa a)(hb:E K tb fb b):E K (tBM K "list" (ly K) ta (Sq tb Yl)) false (dOp bg a b):=by
 refine⟨fun τ d τ' e=>?_,?_⟩
 ·unfold dOp at e
  obtain⟨⟨x,τ1⟩,e1,e⟩:=oB e
  obtain⟨⟨y,τ2⟩,e2,e⟩:=oB e
  obtain⟨z,e3,e⟩:=oM e
  cases e
  exact(ha.like _ _ _ e1).trans (hb.like _ _ _ e2)
 intro S M τ σ H Q d τ' r e q
 unfold dOp at e
 obtain⟨⟨x,τ1⟩,e1,e⟩:=oB e
 obtain⟨⟨y,τ2⟩,e2,e⟩:=oB e
 obtain⟨z,e3,e⟩:=oM e
 cases e
 obtain⟨ds,k,rfl,h1,h2,e4,rfl⟩:=dn e3
 refine ha.weak.run S M τ σ H _ _ _ r e1 fun v H1 r1 c1 i1=>?_
 obtain⟨p,vs,rfl,hp,hl⟩:=(show ∃p vs,v = .ref p/\hid S H1 p=some (.lst vs)/\IsL K (hid S H1) ds vs from i1)
 refine⟨Or.inl ⟨rfl,vs,SqL.of (hid_iff.mp hp).2⟩,hb.weak.run S M _ σ H1 _ _ _ r1 e2 fun v2 H2 r2 c2 i2=>?_⟩
 have k12:Keep S H1 S H2:=c2.keep r1.sub
 exact⟨v2,ds,y,k,rfl,(Is.mono k12.same (show Is K (hid S H1) (.list ds) (.ref p) from⟨p,vs,rfl,hp,hl⟩)).mono same_hid,(show Is K (hid S H2) y v2 from i2).mono same_hid,h1,h2,e4,q _ H2 r2 (c1.trans c2) rfl⟩
end DL
end
section
namespace DL
open PySem L2
variable {K:KW} {np:Nat}
end DL
end
section
namespace DL
open PySem L2
variable {K:KW} {np:Nat}
end DL
end
section
namespace DL
open PySem L2
variable {K:KW} {np:Nat}
def gtP:List Nat->PyData->Option PyData
 |[],d=>some d
 |k::π,.list ds=>(ds[k]?).bind (gtP π)
 |k::π,.tuple ds=>(ds[k]?).bind (gtP π)
 |_::_,_=>none
def stP(x:PyData):List Nat->PyData->PyData
 |[],_=>x
 |k::π,.list ds=>.list (ds.set k (stP x π (ds.getD k .none)))
 |k::π,.tuple ds=>.tuple (ds.set k (stP x π (ds.getD k .none)))
 |_::_,d=>d
def pX(K:KW)(S:Addr->Prop)(H:Hp)(F:List Addr)(d:PyData)(v:V)(π:List Nat)(d':PyData)(u:V):Prop:=∃Fy,Dp K S H d' u Fy/\(∀a∈Fy,a∈F)/\Fy.Nodup/\((π=[]->u=v/\d'=d)/\(π≠[]->∀ds,d = .list ds->∀a,v = .ref a->a∉Fy)) /\
 ∀(H':Hp) (x:PyData) (Fx:List Addr),TSm (hid S H) (hid S H')->(∀a∈F,a∉Fy->H' a=H a)->Dp K S H' x u Fx->(∀a∈Fx,a∈Fy)->Fx.Nodup->∃F3,(∀a∈F3,a∈F)/\F3.Nodup/\Dp K S H' (stP x π d) v F3
abbrev DP:=PyData->DS->Option (List Nat×PyData×DS)
structure PT(K:KW)(r:Nat)(t:TE)(g:DP):Prop where
 like:∀d τ π d' τ',g d τ=some (π,d',τ')->Like τ τ'
 gp:∀d τ π d' τ',g d τ=some (π,d',τ')->∀π0 dr,gtP π0 dr=some d->gtP (π0++π) dr=some d'
 run:∀(S M:Addr->Prop) τ σ H (Q:VK) dr v F π0 d0 u0 π d' τ',R K (fun b=>S b/\b∉F) (fun b=>M b/\b∉F) τ σ H->σ[r]?=some (some u0)->(∀a∈F,∃vs,H a=some (.lst vs))->(∀a,M a->S a)->gtP π0 dr=some d0->pX K S H F dr v π0 d0 u0->g d0 τ=some (π,d',τ') ->
  (∀u H',R K (fun b=>S b/\b∉F) (fun b=>M b/\b∉F) τ' σ H'->Chg (fun b=>M b/\b∉F) H H'->pX K S H' F dr v (π0++π) d' u->Q u H')->t σ H Q
end DL
end
section
namespace DL
open PySem L2
variable {K:KW} {np:Nat}
end DL
end
section
namespace L2
open PySem DL
end L2
namespace DL
open PySem L2
variable {K:KW}
end DL
end
section
namespace Duh
open PySem
section
variable {K:Type} [DecidableEq K]
end
section
variable {prog:Program} {w:World} {K:Type} [DecidableEq K] {knd:HeapKind prog w K} {A:Around} {E:Value->Shared->Prop} {s:Shared}
end
end Duh
end
section
namespace DL
open PySem L2 PyProof.Rows
variable {K:KW}
instance (l:List Int):Decidable l.Nodup:=inferInstance
end DL
end
section
namespace DL
open PySem L2
variable {K:KW} {np:Nat}
end DL
end
section
namespace DL
open PySem L2
variable {K:KW} {np:Nat}
end DL
end
set_option maxHeartbeats 2000000
namespace My
open PySem L2 DL
local macro_rules|`(tactic| trivial)=>`(tactic| first|rfl|(intro _;rfl)|exact .inl rfl|exact .inr rfl|with_unfolding_all rfl|decide|assumption)
local macro_rules|`(tactic| walk_at "dk")=>`(tactic| decide +kernel)
local macro_rules|`(⋯)=>`(by trivial)
local macro_rules|`(∅)=>`(by decide +kernel)
abbrev dbP(x:Str):Prop:=(x==("__debug__":Str))=false
abbrev clP(x:Str):Prop:=(x==("__classdict__":Str))=false
abbrev glP(s:Stmt)(x:Str):Prop:=(AA s).names.lookup x=some NameKind.globalImplicit
theorem viL{sc:Scope}{x:Str}(h:L2.Loc sc x):Vis sc x:=h.elim Or.inl fun h=>Or.inr (Or.inl h)
def top(i:Nat):Stmt:=PySem.Challenge.pw_scenemend_k46_there_and_back.main.body.getD i (.Pass ⟨0,0,0,0⟩)
theorem YJ:dbP "FORMS":=∅
theorem cB:dbP "HOLDERS":=∅
theorem SV:dbP "MOST_HOLDERS":=∅
theorem Xf:dbP "MOST_ROWS":=∅
theorem Vt:dbP "NAME_SIGNS":=∅
theorem g9:dbP "SIGNS":=∅
theorem TQ:dbP "_law_at":=∅
theorem TX:clP "_law_at":=∅
theorem Vs:dbP "_law_backs":=∅
theorem J5:dbP "_law_big":=∅
theorem AJ:dbP "_law_big_here":=∅
theorem AK:clP "_law_big_here":=∅
theorem GG:dbP "_law_both":=∅
theorem Fv:dbP "_law_bottom":=∅
theorem Fz:clP "_law_bottom":=∅
theorem cA:dbP "_law_by":=∅
theorem cH:clP "_law_by":=∅
theorem EV:dbP "_law_by_name":=∅
theorem EX:clP "_law_by_name":=∅
theorem Pl:dbP "_law_cell":=∅
theorem Pp:clP "_law_cell":=∅
theorem JE:dbP "_law_cell_at":=∅
theorem Vr:dbP "_law_chain":=∅
theorem Jo:dbP "_law_chain_here":=∅
theorem Jp:clP "_law_chain_here":=∅
theorem Hg:dbP "_law_data":=∅
theorem Hj:clP "_law_data":=∅
theorem MG:dbP "_law_data_of":=∅
theorem Hf:dbP "_law_down":=∅
theorem Hi:clP "_law_down":=∅
theorem Mr:dbP "_law_due":=∅
theorem Mu:clP "_law_due":=∅
theorem Kp:dbP "_law_first":=∅
theorem Ku:clP "_law_first":=∅
theorem Ko:dbP "_law_found":=∅
theorem Kt:clP "_law_found":=∅
theorem Pk:dbP "_law_free":=∅
theorem Po:clP "_law_free":=∅
theorem Xe:dbP "_law_gone":=∅
theorem Xk:clP "_law_gone":=∅
theorem Vq:dbP "_law_h":=∅
theorem V9:clP "_law_h":=∅
theorem Xd:dbP "_law_high":=∅
theorem Xj:clP "_law_high":=∅
theorem NB:dbP "_law_holder":=∅
theorem NC:clP "_law_holder":=∅
theorem EU:dbP "_law_holders":=∅
theorem EW:clP "_law_holders":=∅
theorem Vp:dbP "_law_inner":=∅
theorem Vo:dbP "_law_j":=∅
theorem V8:clP "_law_j":=∅
theorem Eg:dbP "_law_k":=∅
theorem Ei:clP "_law_k":=∅
theorem Cr:dbP "_law_kind":=∅
theorem Cs:clP "_law_kind":=∅
theorem OY:dbP "_law_kinds":=∅
theorem T5:dbP "_law_leaves":=∅
theorem T6:clP "_law_leaves":=∅
theorem Zy:dbP "_law_low":=∅
theorem Xc:dbP "_law_many":=∅
theorem Kn:dbP "_law_many_here":=∅
theorem Ks:clP "_law_many_here":=∅
theorem Xb:dbP "_law_more":=∅
theorem Xi:clP "_law_more":=∅
theorem Lf:dbP "_law_most":=∅
theorem Lh:clP "_law_most":=∅
theorem BA:dbP "_law_name":=∅
theorem BB:clP "_law_name":=∅
theorem SU:dbP "_law_name_of":=∅
theorem Dj:dbP "_law_one":=∅
theorem Dk:clP "_law_one":=∅
theorem Gj:dbP "_law_other":=∅
theorem Gm:clP "_law_other":=∅
theorem RU:dbP "_law_paint_of":=∅
theorem Gi:dbP "_law_pairs":=∅
theorem Gk:clP "_law_pairs":=∅
theorem Vn:dbP "_law_prime":=∅
theorem V7:clP "_law_prime":=∅
theorem Ja:dbP "_law_raised_once":=∅
theorem Jb:clP "_law_raised_once":=∅
theorem A8:dbP "_law_row":=∅
theorem A9:clP "_law_row":=∅
theorem NA:dbP "_law_row_of":=∅
theorem Ao:dbP "_law_rows":=∅
theorem Ap:clP "_law_rows":=∅
theorem Km:dbP "_law_same_rows":=∅
theorem RT:dbP "_law_scene_of":=∅
theorem CO:dbP "_law_script":=∅
theorem CP:clP "_law_script":=∅
theorem FY:dbP "_law_shade":=∅
theorem Fb:clP "_law_shade":=∅
theorem FX:dbP "_law_share":=∅
theorem FZ:clP "_law_share":=∅
theorem LD:dbP "_law_share_of":=∅
theorem Vm:dbP "_law_shown":=∅
theorem V6:clP "_law_shown":=∅
theorem Pj:dbP "_law_size":=∅
theorem Pn:clP "_law_size":=∅
theorem HH:dbP "_law_size_of":=∅
theorem O3:dbP "_law_stencil_of":=∅
theorem ET:dbP "_law_step_of":=∅
theorem Kl:dbP "_law_sunk_once":=∅
theorem Kr:clP "_law_sunk_once":=∅
theorem bz:dbP "_law_sx":=∅
theorem cG:clP "_law_sx":=∅
theorem bx:dbP "_law_sy":=∅
theorem cF:clP "_law_sy":=∅
theorem Le:dbP "_law_text":=∅
theorem Lg:clP "_law_text":=∅
theorem RS:dbP "_law_top":=∅
theorem RX:clP "_law_top":=∅
theorem TN:dbP "_law_up":=∅
theorem C4:dbP "_law_up_here":=∅
theorem C6:clP "_law_up_here":=∅
theorem Vl:dbP "_law_w":=∅
theorem V5:clP "_law_w":=∅
theorem Xa:dbP "_law_wide":=∅
theorem Xh:clP "_law_wide":=∅
theorem Ph:dbP "_law_word":=∅
theorem Pm:clP "_law_word":=∅
theorem SS:dbP "_law_word_of":=∅
theorem OX:dbP "_law_words":=∅
theorem Ob:clP "_law_words":=∅
theorem Vk:dbP "_law_x":=∅
theorem V4:clP "_law_x":=∅
theorem Vj:dbP "_law_y":=∅
theorem V3:clP "_law_y":=∅
theorem Zx:dbP "abs":=∅
theorem ZC:("abs":Str)≠"__name__":=∅
theorem Oh:dbP "ahead":=∅
theorem Oi:clP "ahead":=∅
theorem UH:dbP "all":=∅
theorem UC:("all":Str)≠"__name__":=∅
theorem lF:dbP "any":=∅
theorem kQ:("any":Str)≠"__name__":=∅
theorem OW:dbP "are_stencil_rows":=∅
theorem Vi:dbP "behind":=∅
theorem V2:clP "behind":=∅
theorem fT:dbP "big":=∅
theorem fY:clP "big":=∅
theorem RQ:dbP "bool":=∅
theorem Qw:("bool":Str)≠"__name__":=∅
theorem Mq:dbP "bottom":=∅
theorem Mt:clP "bottom":=∅
theorem TM:dbP "changed":=∅
theorem TV:clP "changed":=∅
theorem QW:dbP "common_divisor":=∅
theorem Ba:dbP "data":=∅
theorem Bb:clP "data":=∅
theorem Dx:dbP "deed":=∅
theorem Dy:clP "deed":=∅
theorem He:dbP "deed_done":=∅
theorem XZ:dbP "enumerate":=∅
theorem Wj:("enumerate":Str)≠"__name__":=∅
theorem pJ:dbP "h":=∅
theorem pO:clP "h":=∅
theorem bw:dbP "high":=∅
theorem cE:clP "high":=∅
theorem Mp:dbP "holder":=∅
theorem Ms:clP "holder":=∅
theorem LB:dbP "holders":=∅
theorem LG:clP "holders":=∅
theorem OV:dbP "holders_of":=∅
theorem Zw:dbP "int":=∅
theorem ZA:("int":Str)≠"__name__":=∅
theorem Gh:dbP "is_bounded_share":=∅
theorem bu:dbP "is_data":=∅
theorem XY:dbP "is_holder":=∅
theorem TL:dbP "is_name":=∅
theorem J4:dbP "is_paint":=∅
theorem J3:dbP "is_place":=∅
theorem Vh:dbP "is_row":=∅
theorem Zv:dbP "is_share":=∅
theorem br:dbP "is_sign":=∅
theorem OU:dbP "is_text_of":=∅
theorem Zu:dbP "is_tiles":=∅
theorem RP:dbP "is_truth":=∅
theorem Mo:dbP "is_whole":=∅
theorem Ce:dbP "is_within":=∅
theorem SR:dbP "is_word_text":=∅
theorem CH:dbP "isinstance":=∅
theorem CG:("isinstance":Str)≠"__name__":=∅
theorem Vg:dbP "kind":=∅
theorem V1:clP "kind":=∅
theorem Cv:dbP "len":=∅
theorem Ct:("len":Str)≠"__name__":=∅
theorem OT:dbP "list":=∅
theorem Nx:("list":Str)≠"__name__":=∅
theorem fS:dbP "low":=∅
theorem fX:clP "low":=∅
theorem Ef:dbP "name":=∅
theorem Eh:clP "name":=∅
theorem YI:dbP "names":=∅
theorem YL:clP "names":=∅
theorem OS:dbP "names_with":=∅
theorem lE:dbP "one":=∅
theorem lH:clP "one":=∅
theorem g8:dbP "other":=∅
theorem hX:clP "other":=∅
theorem Zt:dbP "parts_in":=∅
theorem SQ:dbP "place":=∅
theorem Sb:clP "place":=∅
theorem SO:dbP "place_behind":=∅
theorem Zs:dbP "quarters":=∅
theorem Z2:clP "quarters":=∅
theorem RO:dbP "rest":=∅
theorem RW:clP "rest":=∅
theorem BO:dbP "row":=∅
theorem BP:clP "row":=∅
theorem Mn:dbP "row_data":=∅
theorem Zr:dbP "row_done":=∅
theorem Hd:dbP "row_found":=∅
theorem Cq:dbP "row_holder":=∅
theorem HG:dbP "row_kind":=∅
theorem Ez:dbP "row_name":=∅
theorem Kk:dbP "row_of":=∅
theorem XX:dbP "row_shown":=∅
theorem XW:dbP "row_sized":=∅
theorem Vf:dbP "row_turned":=∅
theorem IY:dbP "row_with_data":=∅
theorem QV:dbP "row_with_place":=∅
theorem QU:dbP "row_with_shown":=∅
theorem g7:dbP "row_x":=∅
theorem gz:dbP "row_y":=∅
theorem Bu:dbP "rows":=∅
theorem Bv:clP "rows":=∅
theorem SN:dbP "rows_changed":=∅
theorem Zq:dbP "rows_put":=∅
theorem T4:dbP "rows_raised":=∅
theorem XU:dbP "rows_sunk":=∅
theorem Pg:dbP "rows_with":=∅
theorem JD:dbP "rows_without":=∅
theorem gy:dbP "shade":=∅
theorem hW:clP "shade":=∅
theorem gx:dbP "share":=∅
theorem hV:clP "share":=∅
theorem gw:dbP "shown":=∅
theorem hU:clP "shown":=∅
theorem Ve:dbP "sign":=∅
theorem V0:clP "sign":=∅
theorem gu:dbP "signs":=∅
theorem hJ:clP "signs":=∅
theorem SM:dbP "small":=∅
theorem SY:clP "small":=∅
theorem UG:dbP "str":=∅
theorem UB:("str":Str)≠"__name__":=∅
theorem BV:dbP "thing":=∅
theorem BW:clP "thing":=∅
theorem Zp:dbP "top":=∅
theorem Z1:clP "top":=∅
theorem MF:dbP "tuple":=∅
theorem Lw:("tuple":Str)≠"__name__":=∅
theorem lD:dbP "vet":=∅
theorem bq:dbP "vet_row":=∅
theorem pI:dbP "w":=∅
theorem pN:clP "w":=∅
theorem IX:dbP "what":=∅
theorem IZ:clP "what":=∅
theorem pH:dbP "x":=∅
theorem pM:clP "x":=∅
theorem pG:dbP "y":=∅
theorem pL:clP "y":=∅
abbrev Dt:Stmt:=top 77
theorem sc_L_cell_at:Aj ["_law_script","_law_k"] ["_law_script","_law_k"] (AA Dt):=⟨rfl,rfl,rfl,∅,rfl,∅,∅⟩
theorem XC:L2.Loc (AA Dt) "_law_script":=by unfold L2.Loc;decide +kernel
theorem PJ:Vis (AA Dt) "_law_script":=viL XC
theorem XB:L2.Loc (AA Dt) "_law_k":=by unfold L2.Loc;decide +kernel
theorem PH:Vis (AA Dt) "_law_k":=viL XB
theorem T3:glP Dt "len":=∅
abbrev C7:Stmt:=top 78
theorem sc_L_big:Aj ["_law_script","_law_at","_law_by","_law_prime","_law_cell","_law_big_here","_law_k","_law_one"] ["_law_script","_law_at"] (AA C7):=⟨rfl,rfl,rfl,∅,rfl,∅,∅⟩
theorem gb:L2.Loc (AA C7) "_law_script":=by unfold L2.Loc;decide +kernel
theorem Xs:Vis (AA C7) "_law_script":=viL gb
theorem gZ:L2.Loc (AA C7) "_law_at":=by unfold L2.Loc;decide +kernel
theorem Xr:Vis (AA C7) "_law_at":=viL gZ
theorem X6:L2.Loc (AA C7) "_law_by":=by unfold L2.Loc;decide +kernel
theorem fy:Vis (AA C7) "_law_by":=viL X6
theorem X5:L2.Loc (AA C7) "_law_prime":=by unfold L2.Loc;decide +kernel
theorem fw:Vis (AA C7) "_law_prime":=viL X5
theorem X4:L2.Loc (AA C7) "_law_cell":=by unfold L2.Loc;decide +kernel
theorem Xq:Vis (AA C7) "_law_cell":=viL X4
theorem R5:L2.Loc (AA C7) "_law_big_here":=by unfold L2.Loc;decide +kernel
theorem Xp:Vis (AA C7) "_law_big_here":=viL R5
theorem X3:L2.Loc (AA C7) "_law_k":=by unfold L2.Loc;decide +kernel
theorem Lq:Vis (AA C7) "_law_k":=viL X3
theorem X2:L2.Loc (AA C7) "_law_one":=by unfold L2.Loc;decide +kernel
theorem fv:Vis (AA C7) "_law_one":=viL X2
theorem JY:glP C7 "_law_cell_at":=∅
theorem XO:glP C7 "range":=∅
abbrev Cj:Stmt:=top 84
theorem sc_L_name_of:Aj ["_law_big_here","_law_name","_law_size","_law_k"] ["_law_big_here"] (AA Cj):=⟨rfl,rfl,rfl,∅,rfl,∅,∅⟩
theorem LO:L2.Loc (AA Cj) "_law_big_here":=by unfold L2.Loc;decide +kernel
theorem HS:Vis (AA Cj) "_law_big_here":=viL LO
theorem LN:L2.Loc (AA Cj) "_law_name":=by unfold L2.Loc;decide +kernel
theorem PB:Vis (AA Cj) "_law_name":=viL LN
theorem PY:L2.Loc (AA Cj) "_law_size":=by unfold L2.Loc;decide +kernel
theorem WT:Vis (AA Cj) "_law_size":=viL PY
theorem W9:L2.Loc (AA Cj) "_law_k":=by unfold L2.Loc;decide +kernel
theorem RL:glP Cj "range":=∅
abbrev Fe:Stmt:=top 85
theorem sc_L_step_of:Aj ["_law_big_here"] ["_law_big_here"] (AA Fe):=⟨rfl,rfl,rfl,∅,rfl,∅,∅⟩
theorem W6:L2.Loc (AA Fe) "_law_big_here":=by unfold L2.Loc;decide +kernel
theorem HQ:Vis (AA Fe) "_law_big_here":=viL W6
abbrev HK:Stmt:=top 92
theorem sc_L_up:Aj ["_law_rows","_law_name","_law_up_here","_law_by_name","_law_row"] ["_law_rows","_law_name"] (AA HK):=⟨rfl,rfl,rfl,∅,rfl,∅,∅⟩
theorem jJ:L2.Loc (AA HK) "_law_rows":=by unfold L2.Loc;decide +kernel
theorem iF:Vis (AA HK) "_law_rows":=viL jJ
theorem bM:L2.Loc (AA HK) "_law_name":=by unfold L2.Loc;decide +kernel
theorem Qj:Vis (AA HK) "_law_name":=viL bM
theorem bL:L2.Loc (AA HK) "_law_up_here":=by unfold L2.Loc;decide +kernel
theorem aG:Vis (AA HK) "_law_up_here":=viL bL
theorem bK:L2.Loc (AA HK) "_law_by_name":=by unfold L2.Loc;decide +kernel
theorem UQ:Vis (AA HK) "_law_by_name":=viL bK
theorem bJ:L2.Loc (AA HK) "_law_row":=by unfold L2.Loc;decide +kernel
theorem aF:Vis (AA HK) "_law_row":=viL bJ
abbrev Es:Stmt:=top 79
theorem sc_L_low:Aj ["_law_top","_law_bottom","_law_one","_law_other"] ["_law_top","_law_bottom"] (AA Es):=⟨rfl,rfl,rfl,∅,rfl,∅,∅⟩
theorem gY:L2.Loc (AA Es) "_law_top":=by unfold L2.Loc;decide +kernel
theorem Xo:Vis (AA Es) "_law_top":=viL gY
theorem gX:L2.Loc (AA Es) "_law_bottom":=by unfold L2.Loc;decide +kernel
theorem Xn:Vis (AA Es) "_law_bottom":=viL gX
theorem gW:L2.Loc (AA Es) "_law_one":=by unfold L2.Loc;decide +kernel
theorem Rh:Vis (AA Es) "_law_one":=viL gW
theorem X9:(AA Es).names.lookup ("_law_one":Str)=some NameKind.local:=∅
theorem gU:L2.Loc (AA Es) "_law_other":=by unfold L2.Loc;decide +kernel
theorem Rg:Vis (AA Es) "_law_other":=viL gU
theorem X8:(AA Es).names.lookup ("_law_other":Str)=some NameKind.local:=∅
theorem bc:glP Es "abs":=∅
abbrev DF:Stmt:=top 83
theorem sc_L_share_of:Aj ["_law_big_here","_law_bottom"] ["_law_big_here"] (AA DF):=⟨rfl,rfl,rfl,∅,rfl,∅,∅⟩
theorem N2:L2.Loc (AA DF) "_law_big_here":=by unfold L2.Loc;decide +kernel
theorem Dm:Vis (AA DF) "_law_big_here":=viL N2
theorem IM:L2.Loc (AA DF) "_law_bottom":=by unfold L2.Loc;decide +kernel
theorem KO:Vis (AA DF) "_law_bottom":=viL IM
theorem NS:glP DF "_law_low":=∅
abbrev Cf:Stmt:=top 88
theorem sc_L_paint_of:Aj ["_law_big_here","_law_shade","_law_share"] ["_law_big_here"] (AA Cf):=⟨rfl,rfl,rfl,∅,rfl,∅,∅⟩
theorem KY:L2.Loc (AA Cf) "_law_big_here":=by unfold L2.Loc;decide +kernel
theorem GP:Vis (AA Cf) "_law_big_here":=viL KY
theorem N7:L2.Loc (AA Cf) "_law_shade":=by unfold L2.Loc;decide +kernel
theorem Ni:Vis (AA Cf) "_law_shade":=viL N7
theorem N6:L2.Loc (AA Cf) "_law_share":=by unfold L2.Loc;decide +kernel
theorem UX:Vis (AA Cf) "_law_share":=viL N6
theorem Gg:glP Cf "_law_share_of":=∅
abbrev BU:Stmt:=top 87
theorem sc_L_stencil_of:Aj ["_law_big_here","_law_wide","_law_high","_law_rows","_law_j","_law_row","_law_i"] ["_law_big_here"] (AA BU):=⟨rfl,rfl,rfl,∅,rfl,∅,∅⟩
theorem Io:L2.Loc (AA BU) "_law_big_here":=by unfold L2.Loc;decide +kernel
theorem ES:Vis (AA BU) "_law_big_here":=viL Io
theorem L0:L2.Loc (AA BU) "_law_wide":=by unfold L2.Loc;decide +kernel
theorem Rf:Vis (AA BU) "_law_wide":=viL L0
theorem Lz:L2.Loc (AA BU) "_law_high":=by unfold L2.Loc;decide +kernel
theorem Rc:Vis (AA BU) "_law_high":=viL Lz
theorem Ly:L2.Loc (AA BU) "_law_rows":=by unfold L2.Loc;decide +kernel
theorem Lp:Vis (AA BU) "_law_rows":=viL Ly
theorem R4:L2.Loc (AA BU) "_law_j":=by unfold L2.Loc;decide +kernel
theorem Im:L2.Loc (AA BU) "_law_row":=by unfold L2.Loc;decide +kernel
theorem Lo:Vis (AA BU) "_law_row":=viL Im
theorem R3:L2.Loc (AA BU) "_law_i":=by unfold L2.Loc;decide +kernel
theorem JX:glP BU "range":=∅
theorem OM:glP BU "tuple":=∅
abbrev EN:Stmt:=top 86
theorem sc_L_size_of:Aj ["_law_big_here","_law_most"] ["_law_big_here","_law_most"] (AA EN):=⟨rfl,rfl,rfl,∅,rfl,∅,∅⟩
theorem W8:L2.Loc (AA EN) "_law_big_here":=by unfold L2.Loc;decide +kernel
theorem HR:Vis (AA EN) "_law_big_here":=viL W8
theorem W7:L2.Loc (AA EN) "_law_most":=by unfold L2.Loc;decide +kernel
theorem O9:Vis (AA EN) "_law_most":=viL W7
abbrev Ci:Stmt:=top 89
theorem sc_L_word_of:Aj ["_law_big_here","_law_text","_law_size","_law_k"] ["_law_big_here"] (AA Ci):=⟨rfl,rfl,rfl,∅,rfl,∅,∅⟩
theorem LM:L2.Loc (AA Ci) "_law_big_here":=by unfold L2.Loc;decide +kernel
theorem HP:Vis (AA Ci) "_law_big_here":=viL LM
theorem LL:L2.Loc (AA Ci) "_law_text":=by unfold L2.Loc;decide +kernel
theorem O8:Vis (AA Ci) "_law_text":=viL LL
theorem PU:L2.Loc (AA Ci) "_law_size":=by unfold L2.Loc;decide +kernel
theorem WQ:Vis (AA Ci) "_law_size":=viL PU
theorem W5:L2.Loc (AA Ci) "_law_k":=by unfold L2.Loc;decide +kernel
theorem RJ:glP Ci "range":=∅
abbrev A4:Stmt:=top 90
theorem sc_L_data_of:Aj ["_law_kind","_law_big_here","_law_data","_law_w","_law_h","_law_sx","_law_sy","_law_shade","_law_share","_law_text","_law_rows"] ["_law_kind","_law_big_here"] (AA A4):=⟨rfl,rfl,rfl,∅,rfl,∅,∅⟩
theorem XA:L2.Loc (AA A4) "_law_kind":=by unfold L2.Loc;decide +kernel
theorem EJ:Vis (AA A4) "_law_kind":=viL XA
theorem C9:L2.Loc (AA A4) "_law_big_here":=by unfold L2.Loc;decide +kernel
theorem A0:Vis (AA A4) "_law_big_here":=viL C9
theorem LR:L2.Loc (AA A4) "_law_data":=by unfold L2.Loc;decide +kernel
theorem JI:Vis (AA A4) "_law_data":=viL LR
theorem LQ:L2.Loc (AA A4) "_law_w":=by unfold L2.Loc;decide +kernel
theorem PF:Vis (AA A4) "_law_w":=viL LQ
theorem LP:L2.Loc (AA A4) "_law_h":=by unfold L2.Loc;decide +kernel
theorem PD:Vis (AA A4) "_law_h":=viL LP
theorem Pd:L2.Loc (AA A4) "_law_sx":=by unfold L2.Loc;decide +kernel
theorem WW:Vis (AA A4) "_law_sx":=viL Pd
theorem Pc:L2.Loc (AA A4) "_law_sy":=by unfold L2.Loc;decide +kernel
theorem WV:Vis (AA A4) "_law_sy":=viL Pc
theorem Pb:L2.Loc (AA A4) "_law_shade":=by unfold L2.Loc;decide +kernel
theorem JH:Vis (AA A4) "_law_shade":=viL Pb
theorem Pa:L2.Loc (AA A4) "_law_share":=by unfold L2.Loc;decide +kernel
theorem HU:Vis (AA A4) "_law_share":=viL Pa
theorem PZ:L2.Loc (AA A4) "_law_text":=by unfold L2.Loc;decide +kernel
theorem WU:Vis (AA A4) "_law_text":=viL PZ
theorem N8:L2.Loc (AA A4) "_law_rows":=by unfold L2.Loc;decide +kernel
theorem UY:Vis (AA A4) "_law_rows":=viL N8
theorem Di:glP A4 "_law_size_of":=∅
theorem Hb:glP A4 "_law_step_of":=∅
theorem K2:glP A4 "_law_paint_of":=∅
theorem Ld:glP A4 "_law_word_of":=∅
theorem Jy:glP A4 "_law_stencil_of":=∅
abbrev Hx:Stmt:=top 91
theorem sc_L_kinds:Aj ["_law_leaves"] [] (AA Hx):=⟨rfl,rfl,rfl,∅,rfl,∅,∅⟩
theorem Sy:L2.Loc (AA Hx) "_law_leaves":=by unfold L2.Loc;decide +kernel
theorem aH:Vis (AA Hx) "_law_leaves":=viL Sy
abbrev BC:Stmt:=top 93
theorem sc_L_row_of:Aj ["_law_rows","_law_big_here","_law_name","_law_holders","_law_row","_law_holder","_law_x","_law_y","_law_kind","_law_up_here","_law_shown","_law_data"] ["_law_rows","_law_big_here"] (AA BC):=⟨rfl,rfl,rfl,∅,rfl,∅,∅⟩
theorem ZX:L2.Loc (AA BC) "_law_rows":=by unfold L2.Loc;decide +kernel
theorem Jt:Vis (AA BC) "_law_rows":=viL ZX
theorem G4:L2.Loc (AA BC) "_law_big_here":=by unfold L2.Loc;decide +kernel
theorem Dc:Vis (AA BC) "_law_big_here":=viL G4
theorem Q7:L2.Loc (AA BC) "_law_name":=by unfold L2.Loc;decide +kernel
theorem Yk:Vis (AA BC) "_law_name":=viL Q7
theorem Q6:L2.Loc (AA BC) "_law_holders":=by unfold L2.Loc;decide +kernel
theorem Gp:Vis (AA BC) "_law_holders":=viL Q6
theorem Q5:L2.Loc (AA BC) "_law_row":=by unfold L2.Loc;decide +kernel
theorem MM:Vis (AA BC) "_law_row":=viL Q5
theorem MY:L2.Loc (AA BC) "_law_holder":=by unfold L2.Loc;decide +kernel
theorem Qk:Vis (AA BC) "_law_holder":=viL MY
theorem Q4:L2.Loc (AA BC) "_law_x":=by unfold L2.Loc;decide +kernel
theorem Yj:Vis (AA BC) "_law_x":=viL Q4
theorem Q3:L2.Loc (AA BC) "_law_y":=by unfold L2.Loc;decide +kernel
theorem Yi:Vis (AA BC) "_law_y":=viL Q3
theorem MX:L2.Loc (AA BC) "_law_kind":=by unfold L2.Loc;decide +kernel
theorem ML:Vis (AA BC) "_law_kind":=viL MX
theorem ZW:L2.Loc (AA BC) "_law_up_here":=by unfold L2.Loc;decide +kernel
theorem PX:L2.Loc (AA BC) "_law_shown":=by unfold L2.Loc;decide +kernel
theorem WS:Vis (AA BC) "_law_shown":=viL PX
theorem PV:L2.Loc (AA BC) "_law_data":=by unfold L2.Loc;decide +kernel
theorem WR:Vis (AA BC) "_law_data":=viL PV
theorem L9:glP BC "_law_name_of":=∅
theorem Kh:glP BC "_law_up":=∅
theorem IU:glP BC "len":=∅
theorem Ih:glP BC "_law_kinds":=∅
theorem IC:glP BC "_law_step_of":=∅
theorem MA:glP BC "_law_data_of":=∅
theorem Y9:List.Nodup (["_law_row","_law_up_here"]:List Str):=∅
abbrev BZ:Stmt:=top 94
theorem sc_L_scene_of:Aj ["_law_script","_law_first","_law_many_here","_law_rows","_law_k","_law_row","_law_big_here"] ["_law_script","_law_first","_law_many_here"] (AA BZ):=⟨rfl,rfl,rfl,∅,rfl,∅,∅⟩
theorem U8:L2.Loc (AA BZ) "_law_script":=by unfold L2.Loc;decide +kernel
theorem UW:Vis (AA BZ) "_law_script":=viL U8
theorem U7:L2.Loc (AA BZ) "_law_first":=by unfold L2.Loc;decide +kernel
theorem UU:Vis (AA BZ) "_law_first":=viL U7
theorem U6:L2.Loc (AA BZ) "_law_many_here":=by unfold L2.Loc;decide +kernel
theorem UT:Vis (AA BZ) "_law_many_here":=viL U6
theorem N5:L2.Loc (AA BZ) "_law_rows":=by unfold L2.Loc;decide +kernel
theorem IJ:Vis (AA BZ) "_law_rows":=viL N5
theorem N4:L2.Loc (AA BZ) "_law_k":=by unfold L2.Loc;decide +kernel
theorem US:Vis (AA BZ) "_law_k":=viL N4
theorem N3:L2.Loc (AA BZ) "_law_row":=by unfold L2.Loc;decide +kernel
theorem Nh:Vis (AA BZ) "_law_row":=viL N3
theorem U5:L2.Loc (AA BZ) "_law_big_here":=by unfold L2.Loc;decide +kernel
theorem QQ:glP BZ "range":=∅
theorem NT:glP BZ "_law_big":=∅
theorem Lc:glP BZ "_law_row_of":=∅
theorem Us:List.Nodup (["_law_one"]:List Str):=∅
abbrev CD:Stmt:=top 100
theorem sc_L_backs:Aj ["_law_row","_law_big_here","_law_name","_law_x","_law_y","_law_words","_law_pairs"] ["_law_row","_law_big_here"] (AA CD):=⟨rfl,rfl,rfl,∅,rfl,∅,∅⟩
theorem bP:L2.Loc (AA CD) "_law_row":=by unfold L2.Loc;decide +kernel
theorem Dq:Vis (AA CD) "_law_row":=viL bP
theorem N9:L2.Loc (AA CD) "_law_big_here":=by unfold L2.Loc;decide +kernel
theorem GQ:Vis (AA CD) "_law_big_here":=viL N9
theorem TC:L2.Loc (AA CD) "_law_name":=by unfold L2.Loc;decide +kernel
theorem EK:Vis (AA CD) "_law_name":=viL TC
theorem TB:L2.Loc (AA CD) "_law_x":=by unfold L2.Loc;decide +kernel
theorem aL:Vis (AA CD) "_law_x":=viL TB
theorem S9:L2.Loc (AA CD) "_law_y":=by unfold L2.Loc;decide +kernel
theorem aK:Vis (AA CD) "_law_y":=viL S9
theorem S8:L2.Loc (AA CD) "_law_words":=by unfold L2.Loc;decide +kernel
theorem Sm:Vis (AA CD) "_law_words":=viL S8
theorem S7:L2.Loc (AA CD) "_law_pairs":=by unfold L2.Loc;decide +kernel
theorem JM:Vis (AA CD) "_law_pairs":=viL S7
theorem IV:glP CD "_law_step_of":=∅
theorem Pe:glP CD "int":=∅
theorem Mj:glP CD "_law_data_of":=∅
abbrev GS:Stmt:=top 20
theorem sc_row_name:Aj ["row"] ["row"] (AA GS):=⟨rfl,rfl,rfl,∅,rfl,∅,∅⟩
theorem ZF:L2.Loc (AA GS) "row":=by unfold L2.Loc;decide +kernel
theorem YX:Vis (AA GS) "row":=viL ZF
abbrev C0:Stmt:=top 55
theorem sc_row_found:Aj ["rows","name","row"] ["rows","name"] (AA C0):=⟨rfl,rfl,rfl,∅,rfl,∅,∅⟩
theorem Wv:L2.Loc (AA C0) "rows":=by unfold L2.Loc;decide +kernel
theorem WL:Vis (AA C0) "rows":=viL Wv
theorem Wu:L2.Loc (AA C0) "name":=by unfold L2.Loc;decide +kernel
theorem WK:Vis (AA C0) "name":=viL Wu
theorem PQ:L2.Loc (AA C0) "row":=by unfold L2.Loc;decide +kernel
theorem O6:Vis (AA C0) "row":=viL PQ
theorem OE:glP C0 "row_name":=∅
abbrev FJ:Stmt:=top 56
theorem sc_row_of:Aj ["rows","name","row"] ["rows","name"] (AA FJ):=⟨rfl,rfl,rfl,∅,rfl,∅,∅⟩
theorem dR:L2.Loc (AA FJ) "rows":=by unfold L2.Loc;decide +kernel
theorem cV:Vis (AA FJ) "rows":=viL dR
theorem dQ:L2.Loc (AA FJ) "name":=by unfold L2.Loc;decide +kernel
theorem cU:Vis (AA FJ) "name":=viL dQ
theorem Uv:L2.Loc (AA FJ) "row":=by unfold L2.Loc;decide +kernel
theorem UJ:Vis (AA FJ) "row":=viL Uv
theorem QG:glP FJ "row_found":=∅
abbrev CS:Stmt:=top 28
theorem sc_row_with_shown:Aj ["row","shown"] ["row","shown"] (AA CS):=⟨rfl,rfl,rfl,∅,rfl,∅,∅⟩
theorem P5:L2.Loc (AA CS) "row":=by unfold L2.Loc;decide +kernel
theorem KG:Vis (AA CS) "row":=viL P5
theorem P4:L2.Loc (AA CS) "shown":=by unfold L2.Loc;decide +kernel
theorem Pr:Vis (AA CS) "shown":=viL P4
abbrev B3:Stmt:=top 27
theorem sc_row_with_place:Aj ["row","x","y"] ["row","x","y"] (AA B3):=⟨rfl,rfl,rfl,∅,rfl,∅,∅⟩
theorem P8:L2.Loc (AA B3) "row":=by unfold L2.Loc;decide +kernel
theorem KI:Vis (AA B3) "row":=viL P8
theorem P7:L2.Loc (AA B3) "x":=by unfold L2.Loc;decide +kernel
theorem Pw:Vis (AA B3) "x":=viL P7
theorem P6:L2.Loc (AA B3) "y":=by unfold L2.Loc;decide +kernel
theorem Pu:Vis (AA B3) "y":=viL P6
abbrev GV:Stmt:=top 26
theorem sc_row_data:Aj ["row"] ["row"] (AA GV):=⟨rfl,rfl,rfl,∅,rfl,∅,∅⟩
theorem ZJ:L2.Loc (AA GV) "row":=by unfold L2.Loc;decide +kernel
theorem YZ:Vis (AA GV) "row":=viL ZJ
abbrev Cd:Stmt:=top 29
theorem sc_row_with_data:Aj ["row","data"] ["row","data"] (AA Cd):=⟨rfl,rfl,rfl,∅,rfl,∅,∅⟩
theorem Qz:L2.Loc (AA Cd) "row":=by unfold L2.Loc;decide +kernel
theorem Qe:Vis (AA Cd) "row":=viL Qz
theorem Qy:L2.Loc (AA Cd) "data":=by unfold L2.Loc;decide +kernel
theorem Qd:Vis (AA Cd) "data":=viL Qy
abbrev GU:Stmt:=top 25
theorem sc_row_kind:Aj ["row"] ["row"] (AA GU):=⟨rfl,rfl,rfl,∅,rfl,∅,∅⟩
theorem ZG:L2.Loc (AA GU) "row":=by unfold L2.Loc;decide +kernel
theorem YY:Vis (AA GU) "row":=viL ZG
abbrev CI:Stmt:=top 70
theorem sc_row_turned:Aj ["row","quarters","data"] ["row","quarters"] (AA CI):=⟨rfl,rfl,rfl,∅,rfl,∅,∅⟩
theorem Uu:L2.Loc (AA CI) "row":=by unfold L2.Loc;decide +kernel
theorem KJ:Vis (AA CI) "row":=viL Uu
theorem Ut:L2.Loc (AA CI) "quarters":=by unfold L2.Loc;decide +kernel
theorem UI:Vis (AA CI) "quarters":=viL Ut
theorem Ny:L2.Loc (AA CI) "data":=by unfold L2.Loc;decide +kernel
theorem NY:Vis (AA CI) "data":=viL Ny
theorem NJ:glP CI "row_kind":=∅
theorem NK:glP CI "row_data":=∅
theorem Kc:glP CI "row_with_data":=∅
abbrev CV:Stmt:=top 71
theorem sc_row_sized:Aj ["row","w","h"] ["row","w","h"] (AA CV):=⟨rfl,rfl,rfl,∅,rfl,∅,∅⟩
theorem Ws:L2.Loc (AA CV) "row":=by unfold L2.Loc;decide +kernel
theorem LK:Vis (AA CV) "row":=viL Ws
theorem Wr:L2.Loc (AA CV) "w":=by unfold L2.Loc;decide +kernel
theorem WI:Vis (AA CV) "w":=viL Wr
theorem Wq:L2.Loc (AA CV) "h":=by unfold L2.Loc;decide +kernel
theorem WH:Vis (AA CV) "h":=viL Wq
theorem OC:glP CV "row_kind":=∅
theorem OD:glP CV "row_data":=∅
theorem Kx:glP CV "row_with_data":=∅
abbrev CW:Stmt:=top 72
theorem sc_row_done:Aj ["row","deed","what"] ["row","deed"] (AA CW):=⟨rfl,rfl,rfl,∅,rfl,∅,∅⟩
theorem ZI:L2.Loc (AA CW) "row":=by unfold L2.Loc;decide +kernel
theorem IF:Vis (AA CW) "row":=viL ZI
theorem ZH:L2.Loc (AA CW) "deed":=by unfold L2.Loc;decide +kernel
theorem Fg:Vis (AA CW) "deed":=viL ZH
theorem Q0:L2.Loc (AA CW) "what":=by unfold L2.Loc;decide +kernel
theorem IE:Vis (AA CW) "what":=viL Q0
theorem Kz:glP CW "row_with_place":=∅
theorem NL:glP CW "row_turned":=∅
theorem OF:glP CW "row_sized":=∅
theorem LY:glP CW "row_with_data":=∅
theorem Ky:glP CW "row_with_shown":=∅
abbrev B5:Stmt:=top 36
theorem sc_is_text_of:Aj ["thing","signs","low","high"] ["thing","signs","low","high"] (AA B5):=⟨rfl,rfl,rfl,∅,rfl,∅,∅⟩
theorem U1:L2.Loc (AA B5) "thing":=by unfold L2.Loc;decide +kernel
theorem KL:Vis (AA B5) "thing":=viL U1
theorem U0:L2.Loc (AA B5) "low":=by unfold L2.Loc;decide +kernel
theorem UN:Vis (AA B5) "low":=viL U0
theorem Uz:L2.Loc (AA B5) "high":=by unfold L2.Loc;decide +kernel
theorem UM:Vis (AA B5) "high":=viL Uz
theorem SE:glP B5 "len":=∅
theorem SD:glP B5 "str":=∅
theorem L6:glP B5 "isinstance":=∅
theorem SF:glP B5 "all":=∅
theorem Ur:List.Nodup (["sign","signs"]:List Str):=∅
abbrev GB:Stmt:=top 37
theorem sc_is_name:Aj ["thing"] ["thing"] (AA GB):=⟨rfl,rfl,rfl,∅,rfl,∅,∅⟩
theorem bF:L2.Loc (AA GB) "thing":=by unfold L2.Loc;decide +kernel
theorem aE:Vis (AA GB) "thing":=viL bF
theorem OJ:glP GB "NAME_SIGNS":=∅
theorem OI:glP GB "is_text_of":=∅
abbrev E4:Stmt:=top 31
theorem sc_is_truth:Aj ["thing"] ["thing"] (AA E4):=⟨rfl,rfl,rfl,∅,rfl,∅,∅⟩
theorem ZM:L2.Loc (AA E4) "thing":=by unfold L2.Loc;decide +kernel
theorem Yb:Vis (AA E4) "thing":=viL ZM
theorem Tw:glP E4 "bool":=∅
theorem NO:glP E4 "isinstance":=∅
abbrev EZ:Stmt:=top 14
theorem sc_is_whole:Aj ["thing"] ["thing"] (AA EZ):=⟨rfl,rfl,rfl,∅,rfl,∅,∅⟩
theorem ZL:L2.Loc (AA EZ) "thing":=by unfold L2.Loc;decide +kernel
theorem Qh:Vis (AA EZ) "thing":=viL ZL
theorem Tv:glP EZ "bool":=∅
theorem Ig:glP EZ "isinstance":=∅
theorem VJ:glP EZ "int":=∅
abbrev C3:Stmt:=top 32
theorem sc_is_within:Aj ["thing","low","high"] ["thing","low","high"] (AA C3):=⟨rfl,rfl,rfl,∅,rfl,∅,∅⟩
theorem Wy:L2.Loc (AA C3) "thing":=by unfold L2.Loc;decide +kernel
theorem O7:Vis (AA C3) "thing":=viL Wy
theorem Wx:L2.Loc (AA C3) "low":=by unfold L2.Loc;decide +kernel
theorem WN:Vis (AA C3) "low":=viL Wx
theorem Ww:L2.Loc (AA C3) "high":=by unfold L2.Loc;decide +kernel
theorem WM:Vis (AA C3) "high":=viL Ww
theorem OG:glP C3 "is_whole":=∅
abbrev BS:Stmt:=top 15
theorem sc_common_divisor:Aj ["one","other","big","small","rest"] ["one","other"] (AA BS):=⟨rfl,rfl,rfl,∅,rfl,∅,∅⟩
theorem QA:L2.Loc (AA BS) "one":=by unfold L2.Loc;decide +kernel
theorem Pz:Vis (AA BS) "one":=viL QA
theorem P9:L2.Loc (AA BS) "other":=by unfold L2.Loc;decide +kernel
theorem Py:Vis (AA BS) "other":=viL P9
theorem Ho:L2.Loc (AA BS) "big":=by unfold L2.Loc;decide +kernel
theorem KN:Vis (AA BS) "big":=viL Ho
theorem Hn:L2.Loc (AA BS) "small":=by unfold L2.Loc;decide +kernel
theorem Hk:Vis (AA BS) "small":=viL Hn
theorem KU:L2.Loc (AA BS) "rest":=by unfold L2.Loc;decide +kernel
theorem Px:Vis (AA BS) "rest":=viL KU
theorem JV:glP BS "abs":=∅
abbrev CZ:Stmt:=top 16
theorem sc_is_share:Aj ["thing","top","bottom"] ["thing"] (AA CZ):=⟨rfl,rfl,rfl,∅,rfl,∅,∅⟩
theorem ZP:L2.Loc (AA CZ) "thing":=by unfold L2.Loc;decide +kernel
theorem Js:Vis (AA CZ) "thing":=viL ZP
theorem Q2:L2.Loc (AA CZ) "top":=by unfold L2.Loc;decide +kernel
theorem MK:Vis (AA CZ) "top":=viL Q2
theorem Q1:L2.Loc (AA CZ) "bottom":=by unfold L2.Loc;decide +kernel
theorem Jr:Vis (AA CZ) "bottom":=viL Q1
theorem VL:glP CZ "len":=∅
theorem SH:glP CZ "tuple":=∅
theorem NQ:glP CZ "isinstance":=∅
theorem Jk:glP CZ "is_whole":=∅
theorem K1:glP CZ "common_divisor":=∅
abbrev CJ:Stmt:=top 34
theorem sc_is_bounded_share:Aj ["thing"] ["thing"] (AA CJ):=⟨rfl,rfl,rfl,∅,rfl,∅,∅⟩
theorem Nz:L2.Loc (AA CJ) "thing":=by unfold L2.Loc;decide +kernel
theorem JK:Vis (AA CJ) "thing":=viL Nz
theorem Jx:glP CJ "is_share":=∅
abbrev Eb:Stmt:=top 35
theorem sc_is_paint:Aj ["shade","share"] ["shade","share"] (AA Eb):=⟨rfl,rfl,rfl,∅,rfl,∅,∅⟩
theorem ZT:L2.Loc (AA Eb) "shade":=by unfold L2.Loc;decide +kernel
theorem Yg:Vis (AA Eb) "shade":=viL ZT
theorem ZS:L2.Loc (AA Eb) "share":=by unfold L2.Loc;decide +kernel
theorem Yf:Vis (AA Eb) "share":=viL ZS
theorem GK:glP Eb "is_bounded_share":=∅
abbrev Ea:Stmt:=top 40
theorem sc_is_plate:Aj ["data"] ["data"] (AA Ea):=⟨rfl,rfl,rfl,∅,rfl,∅,∅⟩
theorem ZQ:L2.Loc (AA Ea) "data":=by unfold L2.Loc;decide +kernel
theorem IH:Vis (AA Ea) "data":=viL ZQ
theorem Oy:glP Ea "is_paint":=∅
theorem VP:glP Ea "len":=∅
theorem JT:glP Ea "is_within":=∅
abbrev FN:Stmt:=top 41
theorem sc_is_band:Aj ["data"] ["data"] (AA FN):=⟨rfl,rfl,rfl,∅,rfl,∅,∅⟩
theorem bI:L2.Loc (AA FN) "data":=by unfold L2.Loc;decide +kernel
theorem JL:Vis (AA FN) "data":=viL bI
theorem QO:glP FN "is_paint":=∅
theorem XM:glP FN "len":=∅
theorem Jm:glP FN "is_within":=∅
abbrev Gq:Stmt:=top 12
theorem sc_is_sign:Aj ["sign"] ["sign"] (AA Gq):=⟨rfl,rfl,rfl,∅,rfl,∅,∅⟩
theorem bE:L2.Loc (AA Gq) "sign":=by unfold L2.Loc;decide +kernel
theorem aD:Vis (AA Gq) "sign":=viL bE
theorem Tz:glP Gq "SIGNS":=∅
abbrev CC:Stmt:=top 38
theorem sc_is_word_text:Aj ["thing"] ["thing"] (AA CC):=⟨rfl,rfl,rfl,∅,rfl,∅,∅⟩
theorem R0:L2.Loc (AA CC) "thing":=by unfold L2.Loc;decide +kernel
theorem Ij:Vis (AA CC) "thing":=viL R0
theorem QJ:glP CC "len":=∅
theorem QI:glP CC "str":=∅
theorem K0:glP CC "isinstance":=∅
theorem QK:glP CC "all":=∅
theorem Rp:List.Nodup (["sign"]:List Str):=∅
abbrev FK:Stmt:=top 42
theorem sc_is_word:Aj ["data"] ["data"] (AA FK):=⟨rfl,rfl,rfl,∅,rfl,∅,∅⟩
theorem bC:L2.Loc (AA FK) "data":=by unfold L2.Loc;decide +kernel
theorem K4:Vis (AA FK) "data":=viL bC
theorem QL:glP FK "is_paint":=∅
theorem Mh:glP FK "is_word_text":=∅
theorem XH:glP FK "len":=∅
abbrev BY:Stmt:=top 39
theorem sc_are_stencil_rows:Aj ["thing"] ["thing"] (AA BY):=⟨rfl,rfl,rfl,∅,rfl,∅,∅⟩
theorem N1:L2.Loc (AA BY) "thing":=by unfold L2.Loc;decide +kernel
theorem Ep:Vis (AA BY) "thing":=viL N1
theorem Mi:glP BY "len":=∅
theorem Lb:glP BY "tuple":=∅
theorem JW:glP BY "isinstance":=∅
theorem IS:glP BY "all":=∅
theorem Nv:List.Nodup (["row"]:List Str):=∅
theorem Nu:List.Nodup (["row","thing"]:List Str):=∅
abbrev DE:Stmt:=top 43
theorem sc_is_stencil:Aj ["data"] ["data"] (AA DE):=⟨rfl,rfl,rfl,∅,rfl,∅,∅⟩
theorem U2:L2.Loc (AA DE) "data":=by unfold L2.Loc;decide +kernel
theorem IG:Vis (AA DE) "data":=viL U2
theorem NP:glP DE "is_paint":=∅
theorem JS:glP DE "are_stencil_rows":=∅
theorem SG:glP DE "len":=∅
abbrev Fl:Stmt:=top 44
theorem sc_is_empty:Aj ["data"] ["data"] (AA Fl):=⟨rfl,rfl,rfl,∅,rfl,∅,∅⟩
theorem ZV:L2.Loc (AA Fl) "data":=by unfold L2.Loc;decide +kernel
theorem Yh:Vis (AA Fl) "data":=viL ZV
theorem VR:glP Fl "len":=∅
abbrev E5:Stmt:=top 45
theorem sc_is_glass:Aj ["data"] ["data"] (AA E5):=⟨rfl,rfl,rfl,∅,rfl,∅,∅⟩
theorem ZU:L2.Loc (AA E5) "data":=by unfold L2.Loc;decide +kernel
theorem Qi:Vis (AA E5) "data":=viL ZU
theorem Jw:glP E5 "is_bounded_share":=∅
theorem VQ:glP E5 "len":=∅
abbrev Fj:Stmt:=top 33
theorem sc_is_place:Aj ["thing"] ["thing"] (AA Fj):=⟨rfl,rfl,rfl,∅,rfl,∅,∅⟩
theorem ZR:L2.Loc (AA Fj) "thing":=by unfold L2.Loc;decide +kernel
theorem Ye:Vis (AA Fj) "thing":=viL ZR
theorem OH:glP Fj "is_within":=∅
abbrev Ds:Stmt:=top 46
theorem sc_is_window:Aj ["data"] ["data"] (AA Ds):=⟨rfl,rfl,rfl,∅,rfl,∅,∅⟩
theorem Wz:L2.Loc (AA Ds) "data":=by unfold L2.Loc;decide +kernel
theorem HM:Vis (AA Ds) "data":=viL Wz
theorem JR:glP Ds "is_place":=∅
theorem Tu:glP Ds "len":=∅
theorem Ie:glP Ds "is_within":=∅
abbrev FL:Stmt:=top 47
theorem sc_is_turn:Aj ["data"] ["data"] (AA FL):=⟨rfl,rfl,rfl,∅,rfl,∅,∅⟩
theorem bD:L2.Loc (AA FL) "data":=by unfold L2.Loc;decide +kernel
theorem Nc:Vis (AA FL) "data":=viL bD
theorem QM:glP FL "is_truth":=∅
theorem Ou:glP FL "is_within":=∅
theorem XI:glP FL "len":=∅
abbrev EM:Stmt:=top 48
theorem sc_are_tiles:Aj ["data"] ["data"] (AA EM):=⟨rfl,rfl,rfl,∅,rfl,∅,∅⟩
theorem W4:L2.Loc (AA EM) "data":=by unfold L2.Loc;decide +kernel
theorem HN:Vis (AA EM) "data":=viL W4
theorem Ek:glP EM "is_within":=∅
theorem T2:glP EM "len":=∅
abbrev D0:Stmt:=top 50
theorem sc_is_data:Aj ["kind","data"] ["kind","data"] (AA D0):=⟨rfl,rfl,rfl,∅,rfl,∅,∅⟩
theorem bH:L2.Loc (AA D0) "kind":=by unfold L2.Loc;decide +kernel
theorem Nd:Vis (AA D0) "kind":=viL bH
theorem bG:L2.Loc (AA D0) "data":=by unfold L2.Loc;decide +kernel
theorem Si:Vis (AA D0) "data":=viL bG
theorem M9:glP D0 "FORMS":=∅
theorem T1:glP D0 "tuple":=∅
theorem JU:glP D0 "isinstance":=∅
theorem XJ:glP D0 "str":=∅
abbrev Er:Stmt:=top 21
theorem sc_row_holder:Aj ["row"] ["row"] (AA Er):=⟨rfl,rfl,rfl,∅,rfl,∅,∅⟩
theorem Uw:L2.Loc (AA Er) "row":=by unfold L2.Loc;decide +kernel
theorem UK:Vis (AA Er) "row":=viL Uw
abbrev Fd:Stmt:=top 24
theorem sc_row_shown:Aj ["row"] ["row"] (AA Fd):=⟨rfl,rfl,rfl,∅,rfl,∅,∅⟩
theorem Wt:L2.Loc (AA Fd) "row":=by unfold L2.Loc;decide +kernel
theorem WJ:Vis (AA Fd) "row":=viL Wt
abbrev K6:Stmt:=top 22
theorem sc_row_x:Aj ["row"] ["row"] (AA K6):=⟨rfl,rfl,rfl,∅,rfl,∅,∅⟩
theorem gT:L2.Loc (AA K6) "row":=by unfold L2.Loc;decide +kernel
theorem fu:Vis (AA K6) "row":=viL gT
abbrev K5:Stmt:=top 23
theorem sc_row_y:Aj ["row"] ["row"] (AA K5):=⟨rfl,rfl,rfl,∅,rfl,∅,∅⟩
theorem gS:L2.Loc (AA K5) "row":=by unfold L2.Loc;decide +kernel
theorem ft:Vis (AA K5) "row":=viL gS
abbrev Cg:Stmt:=top 51
theorem sc_is_row:Aj ["thing"] ["thing"] (AA Cg):=⟨rfl,rfl,rfl,∅,rfl,∅,∅⟩
theorem dS:L2.Loc (AA Cg) "thing":=by unfold L2.Loc;decide +kernel
theorem E2:Vis (AA Cg) "thing":=viL dS
theorem Zl:glP Cg "len":=∅
theorem VM:glP Cg "tuple":=∅
theorem Ox:glP Cg "isinstance":=∅
theorem RE:glP Cg "row_name":=∅
theorem L7:glP Cg "is_name":=∅
theorem Jl:glP Cg "row_holder":=∅
theorem VN:glP Cg "row_y":=∅
theorem LA:glP Cg "is_place":=∅
theorem VO:glP Cg "row_x":=∅
theorem RH:glP Cg "row_data":=∅
theorem RG:glP Cg "row_kind":=∅
theorem SI:glP Cg "is_data":=∅
theorem QN:glP Cg "row_shown":=∅
theorem RI:glP Cg "is_truth":=∅
abbrev Br:Stmt:=top 73
theorem sc_rows_changed:Aj ["rows","deed","changed"] ["rows","deed"] (AA Br):=⟨rfl,rfl,rfl,∅,rfl,∅,∅⟩
theorem Rw:L2.Loc (AA Br) "rows":=by unfold L2.Loc;decide +kernel
theorem Ll:Vis (AA Br) "rows":=viL Rw
theorem Rv:L2.Loc (AA Br) "deed":=by unfold L2.Loc;decide +kernel
theorem Lk:Vis (AA Br) "deed":=viL Rv
theorem Lx:L2.Loc (AA Br) "changed":=by unfold L2.Loc;decide +kernel
theorem Rb:Vis (AA Br) "changed":=viL Lx
theorem NH:glP Br "row_of":=∅
theorem L5:glP Br "row_done":=∅
theorem NI:glP Br "is_row":=∅
theorem Ro:List.Nodup (["row","changed","deed"]:List Str):=∅
abbrev B9:Stmt:=top 57
theorem sc_holders_of:Aj ["rows","name","holders","row"] ["rows","name"] (AA B9):=⟨rfl,rfl,rfl,∅,rfl,∅,∅⟩
theorem U4:L2.Loc (AA B9) "rows":=by unfold L2.Loc;decide +kernel
theorem Ng:Vis (AA B9) "rows":=viL U4
theorem U3:L2.Loc (AA B9) "name":=by unfold L2.Loc;decide +kernel
theorem UO:Vis (AA B9) "name":=viL U3
theorem N0:L2.Loc (AA B9) "holders":=by unfold L2.Loc;decide +kernel
theorem Nf:Vis (AA B9) "holders":=viL N0
theorem KS:L2.Loc (AA B9) "row":=by unfold L2.Loc;decide +kernel
theorem II:Vis (AA B9) "row":=viL KS
theorem IQ:glP B9 "row_found":=∅
theorem FW:glP B9 "row_holder":=∅
abbrev EL:Stmt:=top 30
theorem sc_is_holder:Aj ["row"] ["row"] (AA EL):=⟨rfl,rfl,rfl,∅,rfl,∅,∅⟩
theorem W0:L2.Loc (AA EL) "row":=by unfold L2.Loc;decide +kernel
theorem WO:Vis (AA EL) "row":=viL W0
theorem OK:glP EL "row_kind":=∅
theorem Oz:glP EL "HOLDERS":=∅
abbrev ED:Stmt:=top 59
theorem sc_is_tiles:Aj ["rows","name"] ["rows","name"] (AA ED):=⟨rfl,rfl,rfl,∅,rfl,∅,∅⟩
theorem ZO:L2.Loc (AA ED) "rows":=by unfold L2.Loc;decide +kernel
theorem Yd:Vis (AA ED) "rows":=viL ZO
theorem ZN:L2.Loc (AA ED) "name":=by unfold L2.Loc;decide +kernel
theorem Yc:Vis (AA ED) "name":=viL ZN
theorem RD:glP ED "row_of":=∅
theorem Ov:glP ED "row_kind":=∅
abbrev B0:Stmt:=top 60
theorem sc_vet_row:Aj ["ahead","row","holder","holders"] ["ahead","row"] (AA B0):=⟨rfl,rfl,rfl,∅,rfl,∅,∅⟩
theorem az:L2.Loc (AA B0) "ahead":=by unfold L2.Loc;decide +kernel
theorem NX:Vis (AA B0) "ahead":=viL az
theorem ay:L2.Loc (AA B0) "row":=by unfold L2.Loc;decide +kernel
theorem GO:Vis (AA B0) "row":=viL ay
theorem Sx:L2.Loc (AA B0) "holder":=by unfold L2.Loc;decide +kernel
theorem Sh:Vis (AA B0) "holder":=viL Sx
theorem Sw:L2.Loc (AA B0) "holders":=by unfold L2.Loc;decide +kernel
theorem Sg:Vis (AA B0) "holders":=viL Sw
theorem R8:glP B0 "is_row":=∅
theorem QD:glP B0 "row_name":=∅
theorem Jj:glP B0 "row_found":=∅
theorem Ey:glP B0 "row_holder":=∅
theorem Oq:glP B0 "is_holder":=∅
theorem OB:glP B0 "holders_of":=∅
theorem XF:glP B0 "len":=∅
theorem Me:glP B0 "MOST_HOLDERS":=∅
theorem XG:glP B0 "any":=∅
theorem QE:glP B0 "row_kind":=∅
theorem aw:List.Nodup (["name","ahead"]:List Str):=∅
abbrev Jh:Stmt:=top 61
theorem sc_vet:Aj ["rows","place","row"] ["rows"] (AA Jh):=⟨rfl,rfl,rfl,∅,rfl,∅,∅⟩
theorem kR:L2.Loc (AA Jh) "rows":=by unfold L2.Loc;decide +kernel
theorem YU:Vis (AA Jh) "rows":=viL kR
theorem eo:L2.Loc (AA Jh) "place":=by unfold L2.Loc;decide +kernel
theorem j0:Vis (AA Jh) "place":=viL eo
theorem eh:L2.Loc (AA Jh) "row":=by unfold L2.Loc;decide +kernel
theorem jz:Vis (AA Jh) "row":=viL eh
theorem Tr:glP Jh "enumerate":=∅
theorem XE:glP Jh "vet_row":=∅
theorem gm:glP Jh "len":=∅
theorem Ts:glP Jh "MOST_ROWS":=∅
abbrev DW:Stmt:=top 74
theorem sc_rows_put:Aj ["rows","row","behind"] ["rows","row"] (AA DW):=⟨rfl,rfl,rfl,∅,rfl,∅,∅⟩
theorem ZE:L2.Loc (AA DW) "rows":=by unfold L2.Loc;decide +kernel
theorem YW:Vis (AA DW) "rows":=viL ZE
theorem ZD:L2.Loc (AA DW) "row":=by unfold L2.Loc;decide +kernel
theorem YV:Vis (AA DW) "row":=viL ZD
theorem Qx:L2.Loc (AA DW) "behind":=by unfold L2.Loc;decide +kernel
theorem Qc:Vis (AA DW) "behind":=viL Qx
theorem VI:glP DW "vet":=∅
abbrev Fi:Stmt:=top 58
theorem sc_parts_in:Aj ["rows","name"] ["rows","name"] (AA Fi):=⟨rfl,rfl,rfl,∅,rfl,∅,∅⟩
theorem ZK:L2.Loc (AA Fi) "rows":=by unfold L2.Loc;decide +kernel
theorem Ya:Vis (AA Fi) "rows":=viL ZK
theorem Y8:List.Nodup (["row","name","rows"]:List Str):=∅
abbrev DD:Stmt:=top 63
theorem sc_names_with:Aj ["rows","name"] ["rows","name"] (AA DD):=⟨rfl,rfl,rfl,∅,rfl,∅,∅⟩
theorem Uy:L2.Loc (AA DD) "rows":=by unfold L2.Loc;decide +kernel
theorem UL:Vis (AA DD) "rows":=viL Uy
theorem Ux:L2.Loc (AA DD) "name":=by unfold L2.Loc;decide +kernel
theorem NZ:Vis (AA DD) "name":=viL Ux
theorem NN:glP DD "parts_in":=∅
abbrev CA:Stmt:=top 65
theorem sc_rows_without:Aj ["rows","name","names"] ["rows","name"] (AA CA):=⟨rfl,rfl,rfl,∅,rfl,∅,∅⟩
theorem Ru:L2.Loc (AA CA) "rows":=by unfold L2.Loc;decide +kernel
theorem Lj:Vis (AA CA) "rows":=viL Ru
theorem Rr:L2.Loc (AA CA) "name":=by unfold L2.Loc;decide +kernel
theorem Ra:Vis (AA CA) "name":=viL Rr
theorem Rq:L2.Loc (AA CA) "names":=by unfold L2.Loc;decide +kernel
theorem Kw:glP CA "names_with":=∅
theorem Rn:List.Nodup (["row","names"]:List Str):=∅
abbrev Cz:Stmt:=top 64
theorem sc_rows_with:Aj ["rows","name","names"] ["rows","name"] (AA Cz):=⟨rfl,rfl,rfl,∅,rfl,∅,∅⟩
theorem Wm:L2.Loc (AA Cz) "rows":=by unfold L2.Loc;decide +kernel
theorem O4:Vis (AA Cz) "rows":=viL Wm
theorem Wl:L2.Loc (AA Cz) "name":=by unfold L2.Loc;decide +kernel
theorem WG:Vis (AA Cz) "name":=viL Wl
theorem Wk:L2.Loc (AA Cz) "names":=by unfold L2.Loc;decide +kernel
theorem Mf:glP Cz "names_with":=∅
theorem Wi:List.Nodup (["row","names"]:List Str):=∅
abbrev Cc:Stmt:=top 66
theorem sc_rows_raised:Aj ["rows","name"] ["rows","name"] (AA Cc):=⟨rfl,rfl,rfl,∅,rfl,∅,∅⟩
theorem Ti:L2.Loc (AA Cc) "rows":=by unfold L2.Loc;decide +kernel
theorem M0:Vis (AA Cc) "rows":=viL Ti
theorem Th:L2.Loc (AA Cc) "name":=by unfold L2.Loc;decide +kernel
theorem Mz:Vis (AA Cc) "name":=viL Th
theorem Kb:glP Cc "rows_without":=∅
theorem L4:glP Cc "rows_with":=∅
abbrev CY:Stmt:=top 67
theorem sc_place_behind:Aj ["rows","holder"] ["rows","holder"] (AA CY):=⟨rfl,rfl,rfl,∅,rfl,∅,∅⟩
theorem Ry:L2.Loc (AA CY) "rows":=by unfold L2.Loc;decide +kernel
theorem Ln:Vis (AA CY) "rows":=viL Ry
theorem Rx:L2.Loc (AA CY) "holder":=by unfold L2.Loc;decide +kernel
theorem Lm:Vis (AA CY) "holder":=viL Rx
theorem NM:glP CY "row_of":=∅
abbrev B4:Stmt:=top 68
theorem sc_rows_sunk:Aj ["rows","name","rest","place"] ["rows","name"] (AA B4):=⟨rfl,rfl,rfl,∅,rfl,∅,∅⟩
theorem Wo:L2.Loc (AA B4) "rows":=by unfold L2.Loc;decide +kernel
theorem LJ:Vis (AA B4) "rows":=viL Wo
theorem Wn:L2.Loc (AA B4) "name":=by unfold L2.Loc;decide +kernel
theorem LI:Vis (AA B4) "name":=viL Wn
theorem PN:L2.Loc (AA B4) "rest":=by unfold L2.Loc;decide +kernel
theorem LH:Vis (AA B4) "rest":=viL PN
theorem PM:L2.Loc (AA B4) "place":=by unfold L2.Loc;decide +kernel
theorem O5:Vis (AA B4) "place":=viL PM
theorem LW:glP B4 "rows_without":=∅
theorem QF:glP B4 "row_of":=∅
theorem Mg:glP B4 "row_holder":=∅
theorem LX:glP B4 "place_behind":=∅
theorem NG:glP B4 "rows_with":=∅
abbrev B7:Stmt:=top 75
theorem sc_deed_done:Aj ["rows","deed","what"] ["rows","deed"] (AA B7):=⟨rfl,rfl,rfl,∅,rfl,∅,∅⟩
theorem W3:L2.Loc (AA B7) "rows":=by unfold L2.Loc;decide +kernel
theorem GA:Vis (AA B7) "rows":=viL W3
theorem W2:L2.Loc (AA B7) "deed":=by unfold L2.Loc;decide +kernel
theorem E3:Vis (AA B7) "deed":=viL W2
theorem PR:L2.Loc (AA B7) "what":=by unfold L2.Loc;decide +kernel
theorem JG:Vis (AA B7) "what":=viL PR
theorem OL:glP B7 "rows_put":=∅
theorem QP:glP B7 "row_of":=∅
theorem LZ:glP B7 "rows_without":=∅
theorem L8:glP B7 "rows_raised":=∅
theorem NR:glP B7 "rows_sunk":=∅
theorem La:glP B7 "rows_changed":=∅
abbrev FO:Stmt:=top 101
theorem sc_L_many:Aj ["_law_script","_law_many_here","_law_most"] ["_law_script","_law_many_here","_law_most"] (AA FO):=⟨rfl,rfl,rfl,∅,rfl,∅,∅⟩
theorem dX:L2.Loc (AA FO) "_law_script":=by unfold L2.Loc;decide +kernel
theorem cY:Vis (AA FO) "_law_script":=viL dX
theorem dW:L2.Loc (AA FO) "_law_many_here":=by unfold L2.Loc;decide +kernel
theorem cX:Vis (AA FO) "_law_many_here":=viL dW
theorem dU:L2.Loc (AA FO) "_law_most":=by unfold L2.Loc;decide +kernel
theorem cW:Vis (AA FO) "_law_most":=viL dU
theorem NU:glP FO "_law_cell_at":=∅
abbrev Bj:Stmt:=top 98
theorem sc_L_same_rows:Aj ["_law_found","_law_due","_law_k","_law_j"] ["_law_found","_law_due"] (AA Bj):=⟨rfl,rfl,rfl,∅,rfl,∅,∅⟩
theorem Tn:L2.Loc (AA Bj) "_law_found":=by unfold L2.Loc;decide +kernel
theorem Jd:Vis (AA Bj) "_law_found":=viL Tn
theorem Tj:L2.Loc (AA Bj) "_law_due":=by unfold L2.Loc;decide +kernel
theorem Jc:Vis (AA Bj) "_law_due":=viL Tj
theorem M6:L2.Loc (AA Bj) "_law_k":=by unfold L2.Loc;decide +kernel
theorem M3:Vis (AA Bj) "_law_k":=viL M6
theorem M5:L2.Loc (AA Bj) "_law_j":=by unfold L2.Loc;decide +kernel
theorem M1:Vis (AA Bj) "_law_j":=viL M5
theorem QR:glP Bj "list":=∅
theorem FC:glP Bj "isinstance":=∅
theorem RK:glP Bj "len":=∅
theorem Jn:glP Bj "range":=∅
theorem Kg:glP Bj "bool":=∅
abbrev DQ:Stmt:=top 96
theorem sc_L_chain:Aj ["_law_rows","_law_name","_law_by_name","_law_row","_law_chain_here"] ["_law_rows","_law_name"] (AA DQ):=⟨rfl,rfl,rfl,∅,rfl,∅,∅⟩
theorem bO:L2.Loc (AA DQ) "_law_rows":=by unfold L2.Loc;decide +kernel
theorem aJ:Vis (AA DQ) "_law_rows":=viL bO
theorem S6:L2.Loc (AA DQ) "_law_name":=by unfold L2.Loc;decide +kernel
theorem Nk:Vis (AA DQ) "_law_name":=viL S6
theorem S5:L2.Loc (AA DQ) "_law_by_name":=by unfold L2.Loc;decide +kernel
theorem Nj:Vis (AA DQ) "_law_by_name":=viL S5
theorem S0:L2.Loc (AA DQ) "_law_row":=by unfold L2.Loc;decide +kernel
theorem Sk:Vis (AA DQ) "_law_row":=viL S0
theorem Sz:L2.Loc (AA DQ) "_law_chain_here":=by unfold L2.Loc;decide +kernel
theorem Sj:Vis (AA DQ) "_law_chain_here":=viL Sz
abbrev Gr:Stmt:=top 97
theorem sc_L_inner:Aj ["_law_rows","_law_name"] ["_law_rows","_law_name"] (AA Gr):=⟨rfl,rfl,rfl,∅,rfl,∅,∅⟩
theorem bN:L2.Loc (AA Gr) "_law_rows":=by unfold L2.Loc;decide +kernel
theorem aI:Vis (AA Gr) "_law_rows":=viL bN
theorem ax:List.Nodup (["_law_row","_law_name","_law_rows"]:List Str):=∅
abbrev Et:Stmt:=top 99
theorem sc_L_both:Aj ["_law_rows","_law_one","_law_other"] ["_law_rows","_law_one","_law_other"] (AA Et):=⟨rfl,rfl,rfl,∅,rfl,∅,∅⟩
theorem de:L2.Loc (AA Et) "_law_rows":=by unfold L2.Loc;decide +kernel
theorem cc:Vis (AA Et) "_law_rows":=viL de
theorem dZ:L2.Loc (AA Et) "_law_one":=by unfold L2.Loc;decide +kernel
theorem cb:Vis (AA Et) "_law_one":=viL dZ
theorem dY:L2.Loc (AA Et) "_law_other":=by unfold L2.Loc;decide +kernel
theorem cZ:Vis (AA Et) "_law_other":=viL dY
theorem XN:glP Et "list":=∅
theorem Ki:glP Et "deed_done":=∅
abbrev CB:Stmt:=top 102
theorem sc_law:Aj ["_law_script","_law_first","_law_rows","_law_row","_law_name","_law_one","_law_other","_law_more","_law_big_here","_law_free","_law_up_here","_law_down","_law_raised_once","_law_sunk_once","_law_gone"] ["_law_script"] (AA CB):=⟨rfl,rfl,rfl,∅,rfl,∅,∅⟩
theorem kW:L2.Loc (AA CB) "_law_script":=by unfold L2.Loc;decide +kernel
theorem Qg:Vis (AA CB) "_law_script":=viL kW
theorem fE:L2.Loc (AA CB) "_law_first":=by unfold L2.Loc;decide +kernel
theorem eJ:Vis (AA CB) "_law_first":=viL fE
theorem fD:L2.Loc (AA CB) "_law_rows":=by unfold L2.Loc;decide +kernel
theorem FE:Vis (AA CB) "_law_rows":=viL fD
theorem fB:L2.Loc (AA CB) "_law_row":=by unfold L2.Loc;decide +kernel
theorem eI:Vis (AA CB) "_law_row":=viL fB
theorem fA:L2.Loc (AA CB) "_law_name":=by unfold L2.Loc;decide +kernel
theorem Qf:Vis (AA CB) "_law_name":=viL fA
theorem e9:L2.Loc (AA CB) "_law_one":=by unfold L2.Loc;decide +kernel
theorem j5:Vis (AA CB) "_law_one":=viL e9
theorem e8:L2.Loc (AA CB) "_law_other":=by unfold L2.Loc;decide +kernel
theorem j4:Vis (AA CB) "_law_other":=viL e8
theorem ey:L2.Loc (AA CB) "_law_more":=by unfold L2.Loc;decide +kernel
theorem j3:Vis (AA CB) "_law_more":=viL ey
theorem kU:L2.Loc (AA CB) "_law_big_here":=by unfold L2.Loc;decide +kernel
theorem kT:L2.Loc (AA CB) "_law_free":=by unfold L2.Loc;decide +kernel
theorem eH:Vis (AA CB) "_law_free":=viL kT
theorem kZ:(AA CB).names.lookup ("_law_free":Str)=some NameKind.local:=∅
theorem jI:L2.Loc (AA CB) "_law_up_here":=by unfold L2.Loc;decide +kernel
theorem Nb:Vis (AA CB) "_law_up_here":=viL jI
theorem jN:(AA CB).names.lookup ("_law_up_here":Str)=some NameKind.local:=∅
theorem jH:L2.Loc (AA CB) "_law_down":=by unfold L2.Loc;decide +kernel
theorem Na:Vis (AA CB) "_law_down":=viL jH
theorem jM:(AA CB).names.lookup ("_law_down":Str)=some NameKind.local:=∅
theorem bB:L2.Loc (AA CB) "_law_raised_once":=by unfold L2.Loc;decide +kernel
theorem aC:Vis (AA CB) "_law_raised_once":=viL bB
theorem bA:L2.Loc (AA CB) "_law_sunk_once":=by unfold L2.Loc;decide +kernel
theorem aB:Vis (AA CB) "_law_sunk_once":=viL bA
theorem jG:L2.Loc (AA CB) "_law_gone":=by unfold L2.Loc;decide +kernel
theorem Ke:glP CB "_law_big":=∅
theorem Tt:glP CB "_law_many":=∅
theorem Ot:glP CB "_law_scene_of":=∅
theorem gn:glP CB "len":=∅
theorem SA:glP CB "_law_backs":=∅
theorem En:glP CB "_law_both":=∅
theorem JQ:glP CB "_law_same_rows":=∅
theorem RC:glP CB "_law_row_of":=∅
theorem bb:glP CB "range":=∅
theorem QH:glP CB "list":=∅
theorem Jg:glP CB "deed_done":=∅
theorem R9:glP CB "_law_inner":=∅
theorem kP:List.Nodup (["_law_k"]:List Str):=∅
theorem kO:List.Nodup (["_law_word","_law_rows"]:List Str):=∅
theorem kN:List.Nodup (["_law_one"]:List Str):=∅
theorem kM:List.Nodup (["_law_one","_law_gone"]:List Str):=∅
def Lr:List (Str×PyData):=[("0",(.str "tolrks")),("1",(.str "rs")),("2",(.str "tmork")),("3",(.str "tmors")),("4",(.str "mlrs")),("5",(.str "tmols")),("6",(.str "tmolks")),("7",(.str "trs")),("8",(.str "tmolrks")),("9",(.str "tmolrs")),("a",(.str "tmlrks")),("b",(.str "molks")),("c",(.str "tolk")),("d",(.str "morks")),("e",(.str "tmolk")),("f",(.str "tmlk")),("-",(.str "m")),("_",(.str ""))]
def Dv:List L->Option (PyData×List L):=Bc false 2 0 (Af (BK (AW (dOp fLt (AE 1) (DU 0))) (Ax (Fw 0 (AE 1))) BQ) (Ax (dC (.int 0))))
def Fq:List L->Option (PyData×List L):=Bc false 2 6 (Af (Ak (BI (AB (dC (.int 48271)) (AB (dC (.int 69621)) (AB (dC (.int 16807)) (AB (dC (.int 39373)) (AB (dC (.int 21401)) (AB (dC (.int 60493)) (AB (dC (.int 87721)) (AB (dC (.int 31337)) AI))))))))) (dN 2)) (Af (Ak (BI (AB (dC (.int 99991)) (AB (dC (.int 99989)) (AB (dC (.int 99971)) (AB (dC (.int 99961)) (AB (dC (.int 99929)) (AB (dC (.int 99923)) (AB (dC (.int 99907)) (AB (dC (.int 99901)) AI))))))))) (dN 3)) (Af (Ak (Bf 0 Dv (AB (AE 1) AI)) (dN 4)) (Af (BK (AW (dOp fGe (AE 4) (dOp je (dC (.int 10)) (dC (.int 18))))) (Ax (AE 4)) BQ) (Af (Ak (dC (.int 0)) (dN 5)) (Af (Hv (dR1 (AB (dC (.int 60)) AI)) (dN 6) (Af (Ak (dOp CM (dOp CM (dOp Bn (Bf 0 Dv (AB (dOp CM (AE 1) (dOp Bn (AE 6) (dC (.int 9)))) AI)) (dOp je (dC (.int 10)) (dC (.int 18)))) (dC (.int 1))) (dOp VV (AE 6) (AE 6))) (dN 7)) (Ak (dOp CM (dOp VV (AE 5) (dC (.int 7919))) (dOp Bn (dOp Bn (dOp VV (AE 7) (dOp Ag (AE 2) (dOp Bn (AE 6) (dC (.int 8))))) (dOp Ag (AE 3) (dOp Bn (AE 6) (dC (.int 8))))) (dC (.int 7919)))) (dN 5)))) (Ax (AE 5))))))))
def IB:List L->Option (PyData×List L):=Bc false 1 3 (Af (Ak (dC (.str "")) (dN 1)) (Af (Ak (dOp CM (dC (.int 1)) (dOp Bn (AE 0) (dC (.int 8)))) (dN 2)) (Af (Ak (dOp CT (AE 0) (dC (.int 8))) (dN 0)) (Af (Hv (dR1 (AB (AE 2) AI)) (dN 3) (Af (Ak (dOp Kj (AE 1) (dOp XQ (dC (.str "abcdefghijklmnopqrstuvwxyz0123456789")) (dOp Bn (AE 0) (dC (.int 36))))) (dN 1)) (Ak (dOp CT (AE 0) (dC (.int 36))) (dN 0)))) (Ax (BI (AB (AE 1) (AB (AE 0) AI))))))))
def B8:List L->Option (PyData×List L):=Bc false 1 0 (Af (BK (AW (dOp fEq (dOp Bn (AE 0) (dC (.int 6))) (dC (.int 0)))) (Ax (BI (AB (dOp EI (dOp Bn (dOp CT (AE 0) (dC (.int 6))) (dC (.int 121))) (dC (.int 60))) (AB (dOp CT (AE 0) (dC (.int 726))) AI)))) BQ) (Ax (BI (AB (dOp EI (dOp Bn (dOp CT (AE 0) (dC (.int 6))) (dC (.int 12))) (dC (.int 3))) (AB (dOp CT (AE 0) (dC (.int 72))) AI)))))
def LU:List L->Option (PyData×List L):=Bc true 2 3 (Af (QX 2 2) (Af (fU 2 3) (Af (Hv (dIL (AE 0)) (dN 4) (TR 3 (AE 4) (dOp Ag (AE 4) (dC (.int 0))))) (Af (OZ (fun _=>100) (El (AW (dOp fNe (AE 1) (dC (.str "")))) (AW (Z0 false (AE 1) 3))) (Af (CU (dMt 2 By (AB (AE 1) AI))) (Ak (dOp Ag (Zz 3 (AE 1)) (dC (.int 1))) (dN 1)))) (LF 2 2)))))
def Mb:List L->Option (PyData×List L):=Bc false 2 2 (Af (E1 2 3 (AB (Bh VZ (AB (AE 0) AI)) (AB (AE 1) AI))) (Af (OZ (mN 3) (AW (dOp fGt (AE 3) (dC (.int 0)))) (E1 2 3 (AB (AE 3) (AB (dOp Bn (AE 2) (AE 3)) AI)))) (Ax (BI (AB (dOp CT (AE 0) (AE 2)) (AB (dOp CT (AE 1) (AE 2)) AI))))))
def Fo:List L->Option (PyData×List L):=Bc false 1 1 (Af (Ak (dOp Ag (BI (AB (dC (.int 1)) (AB (dC (.int 1)) (AB (dC (.int 2)) (AB (dC (.int 3)) AI))))) (dOp Bn (AE 0) (dC (.int 4)))) (dN 1)) (Af (BK (AW (dOp fEq (dOp Bn (dOp CT (AE 0) (dC (.int 4))) (dC (.int 4))) (dC (.int 0)))) (Ak (dOp CM (dC (.int 1)) (dOp Bn (dOp CT (AE 0) (dC (.int 16))) (dC (.int 12)))) (dN 1)) BQ) (Af (BK (AW (dOp fEq (dOp Bn (dOp CT (AE 0) (dC (.int 4))) (dC (.int 16))) (dC (.int 1)))) (Ak (dOp CM (dC (.int 1)) (dOp Bn (dOp CT (AE 0) (dC (.int 16))) (dC (.int 1000)))) (dN 1)) BQ) (Af (Ak (dOp CT (AE 0) (dC (.int 16000))) (dN 0)) (Ax (BI (AB (AU Mb (AB (dOp Bn (AE 0) (dOp CM (AE 1) (dC (.int 1)))) (AB (AE 1) AI))) (AB (dOp CT (AE 0) (dOp CM (AE 1) (dC (.int 1)))) AI))))))))
def Ew:List L->Option (PyData×List L):=Bc false 1 2 (Af (Ak (AU Fo (AB (AE 0) AI)) (dGT (A6 (dN 1) (A6 (dN 0) C5)))) (Af (BK (AW (dOp fEq (dOp Bn (AE 0) (dC (.int 3))) (dC (.int 0)))) (Ax (BI (AB (AE 1) (AB (BI (AB (dC (.int 1)) (AB (dC (.int 1)) AI))) (AB (dOp CT (AE 0) (dC (.int 3))) AI))))) BQ) (Af (Ak (AU Fo (AB (dOp CT (AE 0) (dC (.int 3))) AI)) (dGT (A6 (dN 2) (A6 (dN 0) C5)))) (Ax (BI (AB (AE 1) (AB (AE 2) (AB (AE 0) AI))))))))
def FV:List L->Option (PyData×List L):=Bc false 1 6 (Af (Ak (dOp CM (dC (.int 1)) (dOp Bn (AE 0) (dC (.int 8)))) (dN 1)) (Af (Ak (dOp CM (dC (.int 1)) (dOp Bn (dOp CT (AE 0) (dC (.int 8))) (dC (.int 8)))) (dN 2)) (Af (Ak (dOp CT (AE 0) (dC (.int 64))) (dN 0)) (Af (QX 1 3) (Af (Hv (dR1 (AB (AE 2) AI)) (dN 4) (Af (Ak (dC (.str "")) (dN 5)) (Af (Hv (dR1 (AB (AE 1) AI)) (dN 6) (Af (Ak (dOp Kj (AE 5) (dOp XQ (dC (.str "#.")) (dOp Bn (AE 0) (dC (.int 2))))) (dN 5)) (Ak (dOp CT (AE 0) (dC (.int 2))) (dN 0)))) (CU (dMt 3 By (AB (AE 5) AI)))))) (Ax (J7 3 (BI (AB (Bh Zn (AB (AE 3) AI)) (AB (AE 0) AI))))))))))
def EO:List L->Option (PyData×List L):=Bc false 2 0 (Af (BK (AW (dOp fEq (dOp Bn (AE 0) (dC (.int 8))) (dC (.int 0)))) (Ax (BI (AB (dOp CM (dC (.int 1)) (dOp Bn (dOp CT (AE 0) (dC (.int 8))) (AE 1))) (AB (dOp CT (dOp CT (AE 0) (dC (.int 8))) (AE 1)) AI)))) BQ) (Ax (BI (AB (dOp CM (dC (.int 1)) (dOp Bn (dOp CT (AE 0) (dC (.int 8))) (dC (.int 5)))) (AB (dOp CT (AE 0) (dC (.int 40))) AI)))))
def IA:List L->Option (PyData×List L):=Bc false 1 3 (Af (Ak (dC (.str "")) (dN 1)) (Af (Ak (dOp Bn (AE 0) (dC (.int 7))) (dN 2)) (Af (Ak (dOp CT (AE 0) (dC (.int 7))) (dN 0)) (Af (Hv (dR1 (AB (AE 2) AI)) (dN 3) (Af (Ak (dOp Kj (AE 1) (dOp XQ (dC (.str "0123456789abcdef-_")) (dOp Bn (AE 0) (dC (.int 18))))) (dN 1)) (Ak (dOp CT (AE 0) (dC (.int 18))) (dN 0)))) (Ax (BI (AB (AE 1) (AB (AE 0) AI))))))))
def Bm:List L->Option (PyData×List L):=Bc false 2 9 (Af (BK (AW (dOp (fIn false) (AE 0) (BI (AB (dC (.str "group")) (AB (dC (.str "mask")) AI))))) (Ax (BI (AB (BI AI) (AB (AE 1) AI)))) BQ) (Af (BK (AW (dOp fEq (AE 0) (dC (.str "turn")))) (Ax (BI (AB (BI (AB (dOp Bn (AE 1) (dC (.int 4))) (AB (dOp fEq (dOp Bn (dOp CT (AE 1) (dC (.int 4))) (dC (.int 2))) (dC (.int 1))) AI))) (AB (dOp CT (AE 1) (dC (.int 8))) AI)))) BQ) (Af (BK (AW (dOp fEq (AE 0) (dC (.str "tiles")))) (Af (Ak (BI (AB (dOp CM (dC (.int 1)) (dOp Bn (AE 1) (dC (.int 3)))) (AB (dOp CM (dC (.int 1)) (dOp Bn (dOp CT (AE 1) (dC (.int 3))) (dC (.int 3)))) (AB (dOp EI (dOp Bn (dOp CT (AE 1) (dC (.int 9))) (dC (.int 41))) (dC (.int 20))) (AB (dOp EI (dOp Bn (dOp CT (AE 1) (dC (.int 369))) (dC (.int 41))) (dC (.int 20))) AI))))) (dN 2)) (Af (BK (AW (dOp fGt (dOp Bn (dOp CT (AE 1) (dC (.int 15129))) (dC (.int 4))) (dC (.int 0)))) (Ak (dOp MD (NV (AE 2) J6 (dPt (dC (.int 2)))) (BI (AB (dOp Bn (dOp Ag (AE 2) (dC (.int 2))) (dC (.int 7))) (AB (dOp Bn (dOp Ag (AE 2) (dC (.int 3))) (dC (.int 7))) AI)))) (dN 2)) BQ) (Ax (BI (AB (AE 2) (AB (dOp CT (AE 1) (dC (.int 60516))) AI)))))) BQ) (Af (BK (AW (dOp fEq (AE 0) (dC (.str "window")))) (Af (Ak (AU EO (AB (AE 1) (AB (dC (.int 16)) AI))) (dGT (A6 (dN 3) (A6 (dN 1) C5)))) (Af (Ak (AU EO (AB (AE 1) (AB (dC (.int 16)) AI))) (dGT (A6 (dN 4) (A6 (dN 1) C5)))) (Af (Ak (AU B8 (AB (AE 1) AI)) (dGT (A6 (dN 5) (A6 (dN 1) C5)))) (Af (Ak (AU B8 (AB (AE 1) AI)) (dGT (A6 (dN 6) (A6 (dN 1) C5)))) (Ax (BI (AB (BI (AB (AE 3) (AB (AE 4) (AB (AE 5) (AB (AE 6) AI))))) (AB (AE 1) AI)))))))) BQ) (Af (Ak (AU Ew (AB (AE 1) AI)) (dGT (A6 (dN 7) (A6 (dN 8) (A6 (dN 1) C5))))) (Af (BK (AW (dOp fEq (AE 0) (dC (.str "glass")))) (Ax (BI (AB (BI (AB (AE 8) AI)) (AB (AE 1) AI)))) BQ) (Af (BK (AW (dOp fEq (AE 0) (dC (.str "plate")))) (Af (Ak (AU EO (AB (AE 1) (AB (dC (.int 12)) AI))) (dGT (A6 (dN 3) (A6 (dN 1) C5)))) (Af (Ak (AU EO (AB (AE 1) (AB (dC (.int 12)) AI))) (dGT (A6 (dN 4) (A6 (dN 1) C5)))) (Ax (BI (AB (BI (AB (AE 3) (AB (AE 4) (AB (AE 7) (AB (AE 8) AI))))) (AB (AE 1) AI)))))) BQ) (Af (BK (AW (dOp fEq (AE 0) (dC (.str "band")))) (Ax (BI (AB (BI (AB (dOp EI (dOp Bn (AE 1) (dC (.int 25))) (dC (.int 12))) (AB (dOp EI (dOp Bn (dOp CT (AE 1) (dC (.int 25))) (dC (.int 25))) (dC (.int 12))) (AB (AE 7) (AB (AE 8) AI))))) (AB (dOp CT (AE 1) (dC (.int 625))) AI)))) BQ) (Af (BK (AW (dOp fEq (AE 0) (dC (.str "word")))) (Af (Ak (AU IA (AB (AE 1) AI)) (dGT (A6 (dN 9) (A6 (dN 1) C5)))) (Ax (BI (AB (BI (AB (AE 9) (AB (AE 7) (AB (AE 8) AI)))) (AB (AE 1) AI))))) BQ) (Af (Ak (AU FV (AB (AE 1) AI)) (dGT (A6 (dN 10) (A6 (dN 1) C5)))) (Ax (BI (AB (BI (AB (AE 10) (AB (AE 7) (AB (AE 8) AI)))) (AB (AE 1) AI))))))))))))))
def HC:List L->Option (PyData×List L):=Bc false 0 1 (Af (Ak (BI (AB (dC (.str "plate")) (AB (dC (.str "band")) (AB (dC (.str "word")) (AB (dC (.str "stencil")) (AB (dC (.str "plate")) (AB (dC (.str "stencil")) AI))))))) (dN 0)) (Ax (dOp MD (AE 0) (BI (AB (dC (.str "group")) (AB (dC (.str "glass")) (AB (dC (.str "window")) (AB (dC (.str "turn")) (AB (dC (.str "tiles")) (AB (dC (.str "mask")) AI))))))))))
def Ee:List L->Option (PyData×List L):=Bc false 2 10 (Af (Ak (AU IB (AB (AE 1) AI)) (dGT (A6 (dN 2) (A6 (dN 1) C5)))) (Af (Oa 2 3 (Kq (AB (dC (.str "")) AI))) (Af (Hv (dIL (AE 0)) (dN 4) (BK (El (AW (dOp (fIn false) (dOp Ag (AE 4) (dC (.int 5))) (NV (AU HC AI) (dPt (dC (.int 6))) J6))) (AW (dOp fLt (Bh Dw (AB (AU LU (AB (AE 0) (AB (dOp Ag (AE 4) (dC (.int 0))) AI))) AI)) (dC (.int 7))))) (CU (dMt 3 By (AB (dOp Ag (AE 4) (dC (.int 0))) AI))) BQ)) (Af (Ak (J7 3 (dOp JZ (AE 3) (dOp Bn (AE 1) (Bh Dw (AB (AE 3) AI))))) (dN 5)) (Af (BK (Ii 3 (AW (dOp fEq (dOp Bn (dOp CT (AE 1) (Bh Dw (AB (AE 3) AI))) (dC (.int 2))) (dC (.int 0))))) (Ak (J7 3 (dOp JZ (AE 3) (dUn O0 (dC (.int 1))))) (dN 5)) BQ) (Af (Ak (J7 3 (dOp CT (dOp CT (AE 1) (Bh Dw (AB (AE 3) AI))) (dC (.int 2)))) (dN 1)) (Af (Ak (AU B8 (AB (AE 1) AI)) (dGT (A6 (dN 6) (A6 (dN 1) C5)))) (Af (Ak (AU B8 (AB (AE 1) AI)) (dGT (A6 (dN 7) (A6 (dN 1) C5)))) (Af (Ak (dOp Ag (AU HC AI) (dOp Bn (AE 1) (dC (.int 12)))) (dN 8)) (Af (Ak (AU LU (AB (AE 0) (AB (AE 5) AI))) (dN 9)) (Af (BK (El (AW (dOp fEq (AE 8) (dC (.str "tiles")))) (AW (dOp fNe (dLC 1 [9] (dIL (AE 0)) (dN 0) (El (AW (dOp (fIn false) (dOp Ag (AE 0) (dC (.int 0))) (AE 1))) (AW (dOp fEq (dOp Ag (AE 0) (dC (.int 5))) (dC (.str "tiles"))))) (AE 0)) (Kq AI)))) (Ak (dC (.str "group")) (dN 8)) BQ) (Af (Ak (dOp fGt (dOp Bn (dOp CT (AE 1) (dC (.int 12))) (dC (.int 8))) (dC (.int 0))) (dN 10)) (Af (Ak (AU Bm (AB (AE 8) (AB (dOp CT (AE 1) (dC (.int 96))) AI))) (dGT (A6 (dN 11) (A6 (dN 1) C5)))) (Ax (BI (AB (BI (AB (AE 2) (AB (AE 5) (AB (AE 6) (AB (AE 7) (AB (AE 10) (AB (AE 8) (AB (AE 11) AI)))))))) (AB (AE 1) AI)))))))))))))))))
def Fp:List L->Option (PyData×List L):=Bc true 3 4 (Af (QX 3 3) (Af (Hv (dR1 (AB (AE 2) AI)) (dN 4) (Af (Ak (J7 3 (AU Ee (AB (AE 3) (AB (Bf 0 Fq (AB (dOp CM (AE 1) (AE 4)) AI)) AI)))) (dGT (A6 (dN 5) (A6 (dN 6) C5)))) (BK (Ii 3 (AW (dOp (fIn true) (dOp Ag (AE 5) (dC (.int 0))) (dLC 1 [] (dIL (AE 3)) (dN 0) FD (dOp Ag (AE 0) (dC (.int 0))))))) (CU (dMt 3 By (AB (AE 5) AI))) BQ))) (LF 3 3)))
def JB:List L->Option (PyData×List L):=Bc true 2 5 (Af (Ak (dOp Ag (AE 0) (dC (.int 0))) (dN 2)) (Af (Ak (AU B8 (AB (AE 1) AI)) (dGT (A6 (dN 3) (A6 (dN 1) C5)))) (Af (Ak (AU B8 (AB (AE 1) AI)) (dGT (A6 (dN 4) (A6 (dN 1) C5)))) (Af (Ak (BI (AB (dC (.str "hide")) (AB (dC (.str "show")) AI))) (dN 5)) (Af (Oa 2 6 (Kq (AB (BI (AB (BI (AB (dC (.str "move")) (AB (AE 2) (AB (AE 3) (AB (AE 4) AI))))) (AB (BI (AB (dC (.str "move")) (AB (AE 2) (AB (dOp Ag (AE 0) (dC (.int 2))) (AB (dOp Ag (AE 0) (dC (.int 3))) AI))))) AI))) AI))) (Af (CU (dMt 6 By (AB (BI (AB (BI (AB (dOp Ag (AE 5) (Bh MC (AB (SW (dOp Ag (AE 0) (dC (.int 4)))) AI))) (AB (AE 2) AI))) (AB (BI (AB (dOp Ag (AE 5) (Bh MC (AB (dOp Ag (AE 0) (dC (.int 4))) AI))) (AB (AE 2) AI))) AI))) AI))) (Af (CU (dMt 6 By (AB (BI (AB (BI (AB (dC (.str "change")) (AB (AE 2) (AB (dOp Ag (AU Bm (AB (dOp Ag (AE 0) (dC (.int 5))) (AB (dOp CT (AE 1) (dC (.int 64))) AI))) (dC (.int 0))) AI)))) (AB (BI (AB (dC (.str "change")) (AB (AE 2) (AB (dOp Ag (AE 0) (dC (.int 6))) AI)))) AI))) AI))) (Af (BK (AW (dOp fEq (dOp Ag (AE 0) (dC (.int 5))) (dC (.str "turn")))) (CU (dMt 6 By (AB (BI (AB (BI (AB (dC (.str "turn")) (AB (AE 2) (AB (dOp EI (dOp Bn (AE 1) (dC (.int 23))) (dC (.int 11))) AI)))) (AB (BI (AB (dC (.str "turn")) (AB (AE 2) (AB (dOp EI (dC (.int 11)) (dOp Bn (AE 1) (dC (.int 23)))) AI)))) AI))) AI))) BQ) (Af (BK (AW (dOp (fIn false) (dOp Ag (AE 0) (dC (.int 5))) (BI (AB (dC (.str "plate")) (AB (dC (.str "window")) AI))))) (CU (dMt 6 By (AB (BI (AB (BI (AB (dC (.str "size")) (AB (AE 2) (AB (dOp CM (dC (.int 1)) (dOp Bn (AE 1) (dC (.int 12)))) (AB (dOp CM (dC (.int 1)) (dOp Bn (dOp CT (AE 1) (dC (.int 12))) (dC (.int 12)))) AI))))) (AB (BI (AB (dC (.str "size")) (AB (AE 2) (AB (dOp Ag (dOp Ag (AE 0) (dC (.int 6))) (dC (.int 0))) (AB (dOp Ag (dOp Ag (AE 0) (dC (.int 6))) (dC (.int 1))) AI))))) AI))) AI))) BQ) (LF 2 6))))))))))
def Be:List L->Option (PyData×List L):=Bc false 1 0 (Ax (dOp Ag (AE 0) (dC (.int 0))))
def Cb:List L->Option (PyData×List L):=Bc false 2 1 (Af (Hv (dIL (AE 0)) (dN 2) (BK (AW (dOp fEq (AU Be (AB (AE 2) AI)) (AE 1))) (Ax (AE 2)) BQ)) (Ax (dC .none)))
def Cn:List L->Option (PyData×List L):=Bc false 2 1 (Af (Ak (AU Cb (AB (AE 0) (AB (AE 1) AI))) (dN 2)) (Af (BK (AW (dOp VY (AE 2) (dC .none))) GJ BQ) (Ax (AE 2))))
def G9:List L->Option (PyData×List L):=Bc false 2 0 (Ax (dOp MD (dOp MD (NV (AE 0) J6 (dPt (dC (.int 4)))) (BI (AB (AE 1) AI))) (NV (AE 0) (dPt (dC (.int 5))) J6)))
def HA:List L->Option (PyData×List L):=Bc false 3 0 (Ax (dOp MD (dOp MD (NV (AE 0) J6 (dPt (dC (.int 2)))) (BI (AB (AE 1) (AB (AE 2) AI)))) (NV (AE 0) (dPt (dC (.int 4))) J6)))
def GX:List L->Option (PyData×List L):=Bc false 1 0 (Ax (dOp Ag (AE 0) (dC (.int 6))))
def Cu:List L->Option (PyData×List L):=Bc false 2 0 (Ax (dOp MD (NV (AE 0) J6 (dPt (dC (.int 6)))) (BI (AB (AE 1) AI))))
def CK:List L->Option (PyData×List L):=Bc false 1 0 (Ax (dOp Ag (AE 0) (dC (.int 5))))
def HB:List L->Option (PyData×List L):=Bc false 2 1 (Af (BK (AW (dOp fNe (AU CK (AB (AE 0) AI)) (dC (.str "turn")))) GJ BQ) (Af (Ak (AU GX (AB (AE 0) AI)) (dN 2)) (Ax (AU Cu (AB (AE 0) (AB (BI (AB (dOp Bn (dOp CM (dOp Ag (AE 2) (dC (.int 0))) (AE 1)) (dC (.int 4))) (AB (dOp Ag (AE 2) (dC (.int 1))) AI))) AI))))))
def GW:List L->Option (PyData×List L):=Bc false 3 0 (Af (BK (AW (dOp (fIn true) (AU CK (AB (AE 0) AI)) (BI (AB (dC (.str "plate")) (AB (dC (.str "window")) AI))))) GJ BQ) (Ax (AU Cu (AB (AE 0) (AB (dOp MD (BI (AB (AE 1) (AB (AE 2) AI))) (NV (AU GX (AB (AE 0) AI)) (dPt (dC (.int 2))) J6)) AI)))))
def Ec:List L->Option (PyData×List L):=Bc false 2 1 (Af (Ak (dOp Ag (AE 1) (dC (.int 0))) (dN 2)) (Af (BK (AW (dOp fEq (AE 2) (dC (.str "move")))) (Ax (AU HA (AB (AE 0) (AB (dOp Ag (AE 1) (dC (.int 2))) (AB (dOp Ag (AE 1) (dC (.int 3))) AI))))) BQ) (Af (BK (AW (dOp fEq (AE 2) (dC (.str "turn")))) (Ax (AU HB (AB (AE 0) (AB (dOp Ag (AE 1) (dC (.int 2))) AI)))) BQ) (Af (BK (AW (dOp fEq (AE 2) (dC (.str "size")))) (Ax (AU GW (AB (AE 0) (AB (dOp Ag (AE 1) (dC (.int 2))) (AB (dOp Ag (AE 1) (dC (.int 3))) AI))))) BQ) (Af (BK (AW (dOp fEq (AE 2) (dC (.str "change")))) (Ax (AU Cu (AB (AE 0) (AB (dOp Ag (AE 1) (dC (.int 2))) AI)))) BQ) (Ax (AU G9 (AB (AE 0) (AB (dOp fEq (AE 2) (dC (.str "show"))) AI)))))))))
def DH:List L->Option (PyData×List L):=Bc false 4 0 (Af (BK (Hu (Ck (AW (Ic "str" (AE 0)))) (Ck (AW (Fs fLe fLe (AE 2) (Bh Dw (AB (AE 0) AI)) (AE 3))))) (Ax (dC (.bool false))) BQ) (Ax (Bh TH (AB (dLC 1 [1] (dIS (AE 0)) (dN 0) FD (dOp dm (AE 0) (AE 1))) AI))))
def GD:List L->Option (PyData×List L):=Bc false 1 0 (Ax (AU DH (AB (AE 0) (AB (dC (.str "abcdefghijklmnopqrstuvwxyz0123456789")) (AB (dC (.int 1)) (AB (dC (.int 8)) AI))))))
def Iw:List L->Option (PyData×List L):=Bc false 1 0 (Ax (Ic "bool" (AE 0)))
def GZ:List L->Option (PyData×List L):=Bc false 1 0 (Ax (HL (Ic "int" (AE 0)) (SW (Ic "bool" (AE 0)))))
def Bg:List L->Option (PyData×List L):=Bc false 3 0 (Ax (HL (AU GZ (AB (AE 0) AI)) (Fs fLe fLe (AE 1) (AE 0) (AE 2))))
def DY:List L->Option (PyData×List L):=Bc false 2 3 (Af (Ak (Bh VZ (AB (AE 0) AI)) (dN 2)) (Af (Ak (Bh VZ (AB (AE 1) AI)) (dN 3)) (Af (OZ (mN 3) (AW (dOp fNe (AE 3) (dC (.int 0)))) (Af (Ak (dOp Bn (AE 2) (AE 3)) (dN 4)) (Af (Ak (AE 3) (dN 2)) (Ak (AE 4) (dN 3))))) (Ax (AE 2)))))
def Iy:List L->Option (PyData×List L):=Bc false 1 2 (Af (BK (Hu (Ck (AW (Ic "tuple" (AE 0)))) (AW (dOp fNe (Bh Dw (AB (AE 0) AI)) (dC (.int 2))))) (Ax (dC (.bool false))) BQ) (Af (Ak (dOp Ag (AE 0) (dC (.int 0))) (dN 1)) (Af (Ak (dOp Ag (AE 0) (dC (.int 1))) (dN 2)) (Af (BK (Hu (Ck (AW (AU GZ (AB (AE 1) AI)))) (Ck (AW (AU GZ (AB (AE 2) AI))))) (Ax (dC (.bool false))) BQ) (Ax (HL (dOp fGe (AE 2) (dC (.int 1))) (HL (Fs fLe fLe (dC (.int 0)) (AE 1) (AE 2)) (dOp fEq (AU DY (AB (AE 1) (AB (AE 2) AI))) (dC (.int 1))))))))))
def CL:List L->Option (PyData×List L):=Bc false 1 0 (Ax (HL (AU Iy (AB (AE 0) AI)) (dOp fLe (dOp Ag (AE 0) (dC (.int 1))) (dC (.int 1000)))))
def DK:List L->Option (PyData×List L):=Bc false 2 0 (Ax (HL (AU CL (AB (AE 0) AI)) (AU CL (AB (AE 1) AI))))
def Hq:List L->Option (PyData×List L):=Bc false 1 0 (Af (BK (Hu (AW (dOp fNe (Bh Dw (AB (AE 0) AI)) (dC (.int 4)))) (Ck (AW (AU DK (AB (dOp Ag (AE 0) (dC (.int 2))) (AB (dOp Ag (AE 0) (dC (.int 3))) AI)))))) (Ax (dC (.bool false))) BQ) (Ax (HL (AU Bg (AB (dOp Ag (AE 0) (dC (.int 0))) (AB (dC (.int 1)) (AB (dC (.int 12)) AI)))) (AU Bg (AB (dOp Ag (AE 0) (dC (.int 1))) (AB (dC (.int 1)) (AB (dC (.int 12)) AI)))))))
def Iz:List L->Option (PyData×List L):=Bc false 1 0 (Af (BK (Hu (AW (dOp fNe (Bh Dw (AB (AE 0) AI)) (dC (.int 4)))) (Ck (AW (AU DK (AB (dOp Ag (AE 0) (dC (.int 2))) (AB (dOp Ag (AE 0) (dC (.int 3))) AI)))))) (Ax (dC (.bool false))) BQ) (Ax (HL (AU Bg (AB (dOp Ag (AE 0) (dC (.int 0))) (AB (dUn O0 (dC (.int 12))) (AB (dC (.int 12)) AI)))) (AU Bg (AB (dOp Ag (AE 0) (dC (.int 1))) (AB (dUn O0 (dC (.int 12))) (AB (dC (.int 12)) AI)))))))
def H0:List L->Option (PyData×List L):=Bc false 1 0 (Ax (lG Lr (AE 0)))
def FU:List L->Option (PyData×List L):=Bc false 1 0 (Af (BK (Hu (Ck (AW (Ic "str" (AE 0)))) (AW (dOp fGt (Bh Dw (AB (AE 0) AI)) (dC (.int 6))))) (Ax (dC (.bool false))) BQ) (Ax (Bh TH (AB (dLC 1 [] (dIS (AE 0)) (dN 0) FD (AU H0 (AB (AE 0) AI))) AI))))
def Iu:List L->Option (PyData×List L):=Bc false 1 0 (Ax (HL (dOp fEq (Bh Dw (AB (AE 0) AI)) (dC (.int 3))) (HL (AU FU (AB (dOp Ag (AE 0) (dC (.int 0))) AI)) (AU DK (AB (dOp Ag (AE 0) (dC (.int 1))) (AB (dOp Ag (AE 0) (dC (.int 2))) AI))))))
def DZ:List L->Option (PyData×List L):=Bc false 1 0 (Af (BK (Hu (Ck (AW (Ic "tuple" (AE 0)))) (Ck (AW (Fs fLe fLe (dC (.int 1)) (Bh Dw (AB (AE 0) AI)) (dC (.int 8)))))) (Ax (dC (.bool false))) BQ) (Af (BK (Ck (AW (Bh TH (AB (dLC 1 [] (dIT (AE 0)) (dN 0) FD (AU DH (AB (AE 0) (AB (dC (.str "#.")) (AB (dC (.int 1)) (AB (dC (.int 8)) AI)))))) AI)))) (Ax (dC (.bool false))) BQ) (Ax (Bh TH (AB (dLC 1 [0] (dIT (AE 0)) (dN 0) FD (dOp fEq (Bh Dw (AB (AE 0) AI)) (Bh Dw (AB (dOp Ag (AE 1) (dC (.int 0))) AI)))) AI)))))
def Fn:List L->Option (PyData×List L):=Bc false 1 0 (Ax (HL (dOp fEq (Bh Dw (AB (AE 0) AI)) (dC (.int 3))) (HL (AU DZ (AB (dOp Ag (AE 0) (dC (.int 0))) AI)) (AU DK (AB (dOp Ag (AE 0) (dC (.int 1))) (AB (dOp Ag (AE 0) (dC (.int 2))) AI))))))
def Hs:List L->Option (PyData×List L):=Bc false 1 0 (Ax (dOp fEq (Bh Dw (AB (AE 0) AI)) (dC (.int 0))))
def Hr:List L->Option (PyData×List L):=Bc false 1 0 (Ax (HL (dOp fEq (Bh Dw (AB (AE 0) AI)) (dC (.int 1))) (AU CL (AB (dOp Ag (AE 0) (dC (.int 0))) AI))))
def DJ:List L->Option (PyData×List L):=Bc false 1 0 (Ax (AU Bg (AB (AE 0) (AB (dUn O0 (dC (.int 60))) (AB (dC (.int 60)) AI)))))
def GY:List L->Option (PyData×List L):=Bc false 1 0 (Af (BK (Hu (AW (dOp fNe (Bh Dw (AB (AE 0) AI)) (dC (.int 4)))) (Hu (Ck (AW (AU DJ (AB (dOp Ag (AE 0) (dC (.int 2))) AI)))) (Ck (AW (AU DJ (AB (dOp Ag (AE 0) (dC (.int 3))) AI)))))) (Ax (dC (.bool false))) BQ) (Ax (HL (AU Bg (AB (dOp Ag (AE 0) (dC (.int 0))) (AB (dC (.int 1)) (AB (dC (.int 16)) AI)))) (AU Bg (AB (dOp Ag (AE 0) (dC (.int 1))) (AB (dC (.int 1)) (AB (dC (.int 16)) AI)))))))
def Iv:List L->Option (PyData×List L):=Bc false 1 0 (Ax (HL (dOp fEq (Bh Dw (AB (AE 0) AI)) (dC (.int 2))) (HL (AU Bg (AB (dOp Ag (AE 0) (dC (.int 0))) (AB (dC (.int 0)) (AB (dC (.int 3)) AI)))) (AU Iw (AB (dOp Ag (AE 0) (dC (.int 1))) AI)))))
def Gb:List L->Option (PyData×List L):=Bc false 1 0 (Af (BK (Hu (AW (dOp fNe (Bh Dw (AB (AE 0) AI)) (dC (.int 4)))) (Hu (Ck (AW (AU Bg (AB (dOp Ag (AE 0) (dC (.int 0))) (AB (dC (.int 1)) (AB (dC (.int 3)) AI)))))) (Ck (AW (AU Bg (AB (dOp Ag (AE 0) (dC (.int 1))) (AB (dC (.int 1)) (AB (dC (.int 3)) AI)))))))) (Ax (dC (.bool false))) BQ) (Ax (HL (AU Bg (AB (dOp Ag (AE 0) (dC (.int 2))) (AB (dUn O0 (dC (.int 20))) (AB (dC (.int 20)) AI)))) (AU Bg (AB (dOp Ag (AE 0) (dC (.int 3))) (AB (dUn O0 (dC (.int 20))) (AB (dC (.int 20)) AI)))))))
def Hw:List (Str×Mir):=[("plate",Hq),("band",Iz),("word",Iu),("stencil",Fn),("group",Hs),("glass",Hr),("window",GY),("turn",Iv),("tiles",Gb),("mask",Hs)]
def KC:List L->Option (PyData×List L):=Bc false 2 0 (Ax (HL (Ic "str" (AE 0)) (HL (jh Hw (AE 0)) (HL (Ic "tuple" (AE 1)) (Vx Hw (AE 0) (AB (AE 1) AI))))))
def Av:List L->Option (PyData×List L):=Bc false 1 0 (Ax (dOp Ag (AE 0) (dC (.int 1))))
def K8:List L->Option (PyData×List L):=Bc false 1 0 (Ax (dOp Ag (AE 0) (dC (.int 4))))
def RA:List L->Option (PyData×List L):=Bc false 1 0 (Ax (dOp Ag (AE 0) (dC (.int 2))))
def Q9:List L->Option (PyData×List L):=Bc false 1 0 (Ax (dOp Ag (AE 0) (dC (.int 3))))
def HY:List L->Option (PyData×List L):=Bc false 1 0 (Af (BK (Hu (Ck (AW (Ic "tuple" (AE 0)))) (AW (dOp fNe (Bh Dw (AB (AE 0) AI)) (dC (.int 7))))) (Ax (dC (.bool false))) BQ) (Af (BK (Ck (AW (AU GD (AB (AU Be (AB (AE 0) AI)) AI)))) (Ax (dC (.bool false))) BQ) (Af (BK (El (AW (dOp fNe (AU Av (AB (AE 0) AI)) (dC (.str "")))) (Ck (AW (AU GD (AB (AU Av (AB (AE 0) AI)) AI))))) (Ax (dC (.bool false))) BQ) (Af (BK (Hu (Ck (AW (AU DJ (AB (AU RA (AB (AE 0) AI)) AI)))) (Ck (AW (AU DJ (AB (AU Q9 (AB (AE 0) AI)) AI))))) (Ax (dC (.bool false))) BQ) (Ax (HL (AU Iw (AB (AU K8 (AB (AE 0) AI)) AI)) (AU KC (AB (AU CK (AB (AE 0) AI)) (AB (AU GX (AB (AE 0) AI)) AI)))))))))
def FT:List L->Option (PyData×List L):=Bc true 2 1 (Af (Ak (AU Ec (AB (AU Cn (AB (AE 0) (AB (dOp Ag (AE 1) (dC (.int 1))) AI))) (AB (AE 1) AI))) (dN 2)) (Af (BK (Ck (AW (AU HY (AB (AE 2) AI)))) GJ BQ) (Ax (dLC 1 [2,1] (dIL (AE 0)) (dN 0) FD (dIf (AW (dOp fEq (AU Be (AB (AE 0) AI)) (dOp Ag (AE 2) (dC (.int 1))))) (AE 1) (AE 0))))))
def Df:List L->Option (PyData×List L):=Bc true 2 2 (Af (QX 2 2) (Af (Ak (AU Cb (AB (AE 0) (AB (AE 1) AI))) (dN 3)) (Af (OZ (fun _=>100) (El (AW (dOp MB (AE 3) (dC .none))) (AW (dOp fNe (AU Av (AB (AE 3) AI)) (dC (.str ""))))) (Af (CU (dMt 2 By (AB (AU Av (AB (AE 3) AI)) AI))) (Ak (AU Cb (AB (AE 0) (AB (AU Av (AB (AE 3) AI)) AI))) (dN 3)))) (LF 2 2))))
def Ga:List L->Option (PyData×List L):=Bc false 1 0 (Ax (dOp (fIn false) (AU CK (AB (AE 0) AI)) (dC (.tuple [(.str "group"),(.str "glass"),(.str "window"),(.str "turn"),(.str "tiles"),(.str "mask")]))))
def Fm:List L->Option (PyData×List L):=Bc false 2 0 (Ax (dOp fEq (AU CK (AB (AU Cn (AB (AE 0) (AB (AE 1) AI))) AI)) (dC (.str "tiles"))))
def Ip:List L->Option (PyData×List L):=Bc false 2 2 (Af (BK (Ck (AW (AU HY (AB (AE 1) AI)))) GJ BQ) (Af (BK (AW (dOp MB (AU Cb (AB (AE 0) (AB (AU Be (AB (AE 1) AI)) AI))) (dC .none))) GJ BQ) (Af (BK (AW (dOp fEq (AU Av (AB (AE 1) AI)) (dC (.str "")))) RV BQ) (Af (Ak (AU Cb (AB (AE 0) (AB (AU Av (AB (AE 1) AI)) AI))) (dN 2)) (Af (BK (Hu (AW (dOp VY (AE 2) (dC .none))) (Ck (AW (AU Ga (AB (AE 2) AI))))) GJ BQ) (Af (Ak (dOp SJ (Kq (AB (AU Av (AB (AE 1) AI)) AI)) (AU Df (AB (AE 0) (AB (AU Av (AB (AE 1) AI)) AI)))) (dN 3)) (Af (BK (AW (dOp fGt (Bh Dw (AB (AE 3) AI)) (dC (.int 6)))) GJ BQ) (BK (El (AW (dOp fEq (AU CK (AB (AE 1) AI)) (dC (.str "tiles")))) (AW (Bh bh (AB (dLC 1 [0] (dIL (AE 3)) (dN 0) FD (AU Fm (AB (AE 1) (AB (AE 0) AI)))) AI)))) GJ BQ))))))))
def U9:List L->Option (PyData×List L):=Bc false 1 2 (Af (Hv (dIE (AE 0)) (dGT (A6 (dN 1) (A6 (dN 2) C5))) (CU (AU Ip (AB (dSl (AE 0) J6 (dPt (AE 1))) (AB (AE 2) AI))))) (Af (BK (AW (dOp fGt (Bh Dw (AB (AE 0) AI)) (dC (.int 24)))) GJ BQ) (Ax (dC (.bool true)))))
def Iq:List L->Option (PyData×List L):=Bc false 2 1 (Af (Ak (dOp SJ (AE 0) (Kq (AB (AE 1) AI))) (dN 2)) (Af (CU (AU U9 (AB (AE 2) AI))) (Ax (AE 2))))
def Ir:List L->Option (PyData×List L):=Bc true 2 0 (Ax (dLC 1 [1,0] (dIL (AE 0)) (dN 0) (AW (dOp (fIn false) (AE 1) (AU Df (AB (AE 2) (AB (AU Be (AB (AE 0) AI)) AI))))) (AU Be (AB (AE 0) AI))))
def Eu:List L->Option (PyData×List L):=Bc true 2 0 (Ax (dOp SJ (Kq (AB (AE 1) AI)) (AU Ir (AB (AE 0) (AB (AE 1) AI)))))
def Ca:List L->Option (PyData×List L):=Bc true 2 1 (Af (Ak (AU Eu (AB (AE 0) (AB (AE 1) AI))) (dN 2)) (Ax (dLC 1 [2] (dIL (AE 0)) (dN 0) (AW (dOp (fIn true) (AU Be (AB (AE 0) AI)) (AE 1))) (AE 0))))
def Ff:List L->Option (PyData×List L):=Bc true 2 1 (Af (Ak (AU Eu (AB (AE 0) (AB (AE 1) AI))) (dN 2)) (Ax (dLC 1 [2] (dIL (AE 0)) (dN 0) (AW (dOp (fIn false) (AU Be (AB (AE 0) AI)) (AE 1))) (AE 0))))
def GC:List L->Option (PyData×List L):=Bc true 2 0 (Ax (dOp SJ (AU Ca (AB (AE 0) (AB (AE 1) AI))) (AU Ff (AB (AE 0) (AB (AE 1) AI)))))
def Ed:List L->Option (PyData×List L):=Bc false 2 0 (Ax (dIf (AW (dOp fEq (AE 1) (dC (.str "")))) (dC (.int 0)) (dOp CM (dOp bg (AE 0) (AU Cn (AB (AE 0) (AB (AE 1) AI)))) (dC (.int 1)))))
def Hz:List L->Option (PyData×List L):=Bc true 2 2 (Af (Ak (AU Ca (AB (AE 0) (AB (AE 1) AI))) (dN 2)) (Af (Ak (AU Ed (AB (AE 2) (AB (AU Av (AB (AU Cn (AB (AE 0) (AB (AE 1) AI))) AI)) AI))) (dN 3)) (Ax (dOp SJ (dOp SJ (dSl (AE 2) J6 (dPt (AE 3))) (AU Ff (AB (AE 0) (AB (AE 1) AI)))) (dSl (AE 2) (dPt (AE 3)) J6)))))
def Bl:List L->Option (PyData×List L):=Bc false 2 1 (Af (Ak (dOp Ag (AE 1) (dC (.int 0))) (dN 2)) (Af (BK (AW (dOp fEq (AE 2) (dC (.str "put")))) (Ax (AU Iq (AB (AE 0) (AB (dOp Ag (AE 1) (dC (.int 1))) AI)))) BQ) (Af (CU (AU Cn (AB (AE 0) (AB (dOp Ag (AE 1) (dC (.int 1))) AI)))) (Af (BK (AW (dOp fEq (AE 2) (dC (.str "take")))) (Ax (AU Ca (AB (AE 0) (AB (dOp Ag (AE 1) (dC (.int 1))) AI)))) BQ) (Af (BK (AW (dOp fEq (AE 2) (dC (.str "raise")))) (Ax (AU GC (AB (AE 0) (AB (dOp Ag (AE 1) (dC (.int 1))) AI)))) BQ) (Af (BK (AW (dOp fEq (AE 2) (dC (.str "sink")))) (Ax (AU Hz (AB (AE 0) (AB (dOp Ag (AE 1) (dC (.int 1))) AI)))) BQ) (Ax (AU FT (AB (AE 0) (AB (AE 1) AI))))))))))
def JP:List L->Option (PyData×List L):=Bc false 3 0 (Af (BK (AW (dOp fEq (dOp Bn (dOp Bn (Bf 0 Dv (AB (dC (.int 1)) AI)) (dC (.int 1000003))) (dC (.int 8))) (dC (.int 3)))) (Ax (AE 2)) BQ) (Ax (AE 1)))
def Dg:List L->Option (PyData×List L):=Bc false 2 2 (Af (BK (Hu (Ck (AW (Ic "list" (AE 0)))) (AW (dOp fNe (AE 0) (AE 1)))) (Ax (dC (.bool false))) BQ) (Af (Hv (dR1 (AB (Bh Dw (AB (AE 1) AI)) AI)) (dN 2) (Hv (dR1 (AB (dC (.int 7)) AI)) (dN 3) (BK (AW (dOp fNe (Ic "bool" (dOp Ag (dOp JZ (AE 0) (AE 2)) (AE 3))) (Ic "bool" (dOp Ag (dOp JZ (AE 1) (AE 2)) (AE 3))))) (Ax (dC (.bool false))) BQ))) (Ax (dC (.bool true)))))
def JA:List L->Option (PyData×List L):=Bc false 2 3 (Af (fU 2 2) (Af (Hv (dIL (AE 0)) (dN 3) (TR 2 (AE 3) (dOp Ag (AE 3) (dC (.int 0))))) (Af (QX 2 4) (Af (OZ (fun _=>100) (AW (Z0 false (AE 1) 2)) (Af (CU (dMt 4 By (AB (AE 1) AI))) (Ak (dOp Ag (Zz 2 (AE 1)) (dC (.int 1))) (dN 1)))) (Ax (MH 4 (dSl (AE 4) (dPt (dC (.int 1))) J6)))))))
def I0:List L->Option (PyData×List L):=Bc true 2 0 (Ax (dLC 1 [1,0] (dIL (AE 0)) (dN 0) (AW (dOp (fIn false) (AE 1) (AU JA (AB (AE 2) (AB (dOp Ag (AE 0) (dC (.int 0))) AI))))) (dOp Ag (AE 0) (dC (.int 0)))))
def Co:List L->Option (PyData×List L):=Bc false 3 0 (Ax (AU Bl (AB (AU Bl (AB (Bh FH (AB (AE 0) AI)) (AB (AE 1) AI))) (AB (AE 2) AI))))
def VA:List L->Option (PyData×List L):=Bc false 1 14 (Af (Ak (Bf 0 Fq (AB (dC (.int 0)) AI)) (dN 1)) (Af (Ak (Bf 0 Fp (AB (dC (.int 1)) (AB (Bf 0 JP (AB (dOp CM (dC (.int 1)) (dOp Bn (AE 1) (dC (.int 12)))) (AB (dC (.int 23)) AI))) AI))) (dN 2)) (Af (Ak (dOp JZ (AE 2) (dOp Bn (dOp CT (AE 1) (dC (.int 12))) (Bh Dw (AB (AE 2) AI)))) (dN 3)) (Af (Ak (dOp Ag (AE 3) (dC (.int 0))) (dN 4)) (Af (Hv (dIL (AU JB (AB (AE 3) (AB (Bf 0 Fq (AB (dC (.int 13)) AI)) AI)))) (dGT (A6 (dN 5) (A6 (dN 6) C5))) (BK (Ck (AW (AU Dg (AB (AU Co (AB (AE 2) (AB (AE 5) (AB (AE 6) AI)))) (AB (AE 2) AI))))) (Ax (dC (.bool false))) BQ)) (Af (Ak (AU Ee (AB (AE 2) (AB (Bf 0 Fq (AB (dC (.int 14)) AI)) AI))) (dGT (A6 (dN 7) (A6 (dN 8) C5)))) (Af (Ak (dLC 1 [2] (dIL (dLC 1 [] (dR1 (AB (dC (.int 30)) AI)) (dN 0) FD (dOp Kj (dC (.str "w")) (Bh Pf (AB (AE 0) AI))))) (dN 0) (AW (dOp (fIn true) (AE 0) (dLC 1 [] (dIL (AE 1)) (dN 0) FD (dOp Ag (AE 0) (dC (.int 0)))))) (AE 0)) (dN 9)) (Af (BK (Ck (AW (AU Dg (AB (AU Co (AB (AE 2) (AB (BI (AB (dC (.str "put")) (AB (dOp MD (BI (AB (dOp JZ (AE 9) (dC (.int 0))) AI)) (NV (AE 7) (dPt (dC (.int 1))) J6)) AI))) (AB (BI (AB (dC (.str "take")) (AB (dOp JZ (AE 9) (dC (.int 0))) AI))) AI)))) (AB (AE 2) AI))))) (Ax (dC (.bool false))) BQ) (Af (E1 10 11 (AB (BI (AB (dC (.str "raise")) (AB (AE 4) AI))) (AB (BI (AB (dC (.str "sink")) (AB (AE 4) AI))) AI))) (Af (Ak (AU Bl (AB (Bh FH (AB (AE 2) AI)) (AB (AE 10) AI))) (dN 12)) (Af (Ak (AU Bl (AB (Bh FH (AB (AE 2) AI)) (AB (AE 11) AI))) (dN 13)) (Af (BK (Hu (AW (dOp fNe (AU Co (AB (AE 2) (AB (AE 10) (AB (AE 10) AI)))) (AE 12))) (AW (dOp fNe (AU Co (AB (AE 2) (AB (AE 11) (AB (AE 11) AI)))) (AE 13)))) (Ax (dC (.bool false))) BQ) (Af (BK (Hu (AW (dOp fNe (AU Co (AB (AE 2) (AB (AE 10) (AB (AE 11) AI)))) (AE 13))) (AW (dOp fNe (AU Co (AB (AE 2) (AB (AE 11) (AB (AE 10) AI)))) (AE 12)))) (Ax (dC (.bool false))) BQ) (Af (Ak (dOp SJ (Kq (AB (AE 4) AI)) (AU I0 (AB (AE 2) (AB (AE 4) AI)))) (dN 14)) (Ax (dOp fEq (AU Bl (AB (Bh FH (AB (AE 2) AI)) (AB (BI (AB (dC (.str "take")) (AB (AE 4) AI))) AI))) (dLC 1 [14] (dIL (AE 2)) (dN 0) (AW (dOp (fIn true) (dOp Ag (AE 0) (dC (.int 0))) (AE 1))) (AE 0))))))))))))))))))
theorem DM{k:Nat}{A:Around}(hr:Room k A):A.units+64<cLine:=hr.units
theorem RB{k:Nat}{A:Around}(hr:Room k A):A.units+65<cLine:=by have:=hr.un;omega
section
variable {P:Program} {w:World} {K:PySem.W.Frag} {mg:Str->Option Value} {base:Heap} {f:Addr} {fd:FuncData}
theorem Y5(F:Fun K "_law_cell_at" "_law_cell_at" Dt f fd)(z_len:mg "len"=none):FnOk P w K mg base CX0 1 f fd ["_law_script","_law_k"] (spD ⟨K,w⟩ Dv false):=by
 have nd:=sc_L_cell_at.nd
 refine F.ok sc_L_cell_at (fun vs H Q E h=>A3 Ad h) (fun cdv A outer s H vs Q E hr h=>?_)
 exact⟨_,(@AN _ _ _ _ _ (@Bt _ _ _ _ _ _ _ _ (@An _ _ _ _ _ _ _ _ mE (pv 1 rfl PH Eg Ei) (@BE _ _ _ _ _ _ _ _ _ CQ T3 z_len PySem.boot_len (@AD _ _ _ _ _ (pv 0 rfl PJ CO CP) AL ⋯) Ct Cv ⋯ ⋯) (A7 _)) (@AV _ _ _ (@Ac _ _ _ _ (@Aw _ _ _ _ _ _ _ K9 (pv 0 rfl PJ CO CP) (pv 1 rfl PH Eg Ei) (fun _ _=>rfl)))) Ay) (@AV _ _ _ (@Ac _ _ _ _ AM))),A2 (N:=["_law_script","_law_k"]) (np:=2) (nl:=0) (Ab (Cy (Au (AX oR AH (nK (i:=0)))) (As (pC (i:=0) AH) (by decide)) Bw) (As AQ (by decide))) rfl h⟩
theorem jA(F:Fun K "_law_big" "_law_big" C7 f fd)(c87:Cal P w K mg base 1 "_law_cell_at" ["_law_script","_law_k"] (spD ⟨K,w⟩ Dv false))(z_range:mg "range"=none):FnOk P w K mg base CX0 2 f fd ["_law_script","_law_at"] (spD ⟨K,w⟩ Fq false):=by
 have nd:=sc_L_big.nd
 refine F.ok sc_L_big (fun vs H Q E h=>A3 Ad h) (fun cdv A outer s H vs Q E hr h=>?_)
 exact⟨_,(@AN _ _ _ _ _ (@Az _ _ 2 _ _ _ _ nd rfl X6 (@BH _ _ _ _ _ (@AD _ _ _ _ _ AM (@AD _ _ _ _ _ AM (@AD _ _ _ _ _ AM (@AD _ _ _ _ _ AM (@AD _ _ _ _ _ AM (@AD _ _ _ _ _ AM (@AD _ _ _ _ _ AM (@AD _ _ _ _ _ AM AL ⋯) ⋯) ⋯) ⋯) ⋯) ⋯) ⋯) ⋯)) ⋯ ⋯) (@AN _ _ _ _ _ (@Az _ _ 3 _ _ _ _ nd rfl X5 (@BH _ _ _ _ _ (@AD _ _ _ _ _ AM (@AD _ _ _ _ _ AM (@AD _ _ _ _ _ AM (@AD _ _ _ _ _ AM (@AD _ _ _ _ _ AM (@AD _ _ _ _ _ AM (@AD _ _ _ _ _ AM (@AD _ _ _ _ _ AM AL ⋯) ⋯) ⋯) ⋯) ⋯) ⋯) ⋯) ⋯)) ⋯ ⋯) (@AN _ _ _ _ _ (@Az _ _ 4 _ _ _ _ nd rfl X4 (@AO _ _ _ _ _ _ _ _ _ _ c87 hr JY (@AD _ _ _ _ _ (pv 0 rfl Xs CO CP) (@AD _ _ _ _ _ (pv 1 rfl Xr TQ TX) AL ⋯) ⋯) JE ⋯ ⋯) ⋯ ⋯) (@AN _ _ _ _ _ (@Bt _ _ _ _ _ _ _ _ (@An _ _ _ _ _ _ _ _ mF (pv 4 rfl Xq Pl Pp) (@Ae _ _ _ _ _ _ _ _ iz AM AM) (A7 _)) (@AV _ _ _ (@Ac _ _ _ _ (pv 4 rfl Xq Pl Pp))) Ay) (@AN _ _ _ _ _ (@Az _ _ 5 _ _ _ _ nd rfl R5 AM ⋯ ⋯) (@AN _ _ _ _ _ (@IL _ _ _ _ _ _ _ _ PassesOwn.never rfl (@Gy _ _ _ _ _ _ XO z_range (@AD _ _ _ _ _ AM AL ⋯) ⋯) (@Aq _ _ 6 _ nd rfl X3 ⋯) (@AN _ _ _ _ _ (@Az _ _ 7 _ _ _ _ nd rfl X2 (@Ae _ _ _ _ _ _ _ _ E9 (@Ae _ _ _ _ _ _ _ _ E9 (@Ae _ _ _ _ _ _ _ _ Bp (@AO _ _ _ _ _ _ _ _ _ _ c87 hr JY (@AD _ _ _ _ _ (pv 0 rfl Xs CO CP) (@AD _ _ _ _ _ (@Ae _ _ _ _ _ _ _ _ E9 (pv 1 rfl Xr TQ TX) (@Ae _ _ _ _ _ _ _ _ Bp (pv 6 rfl Lq Eg Ei) AM)) AL ⋯) ⋯) JE ⋯ ⋯) (@Ae _ _ _ _ _ _ _ _ iz AM AM)) AM) (@Ae _ _ _ _ _ _ _ _ Yp (pv 6 rfl Lq Eg Ei) (pv 6 rfl Lq Eg Ei))) ⋯ ⋯) (@AV _ _ _ (@Az _ _ 5 _ _ _ _ nd rfl R5 (@Ae _ _ _ _ _ _ _ _ E9 (@Ae _ _ _ _ _ _ _ _ Yp (pv 5 rfl Xp AJ AK) AM) (@Ae _ _ _ _ _ _ _ _ Bp (@Ae _ _ _ _ _ _ _ _ Bp (@Ae _ _ _ _ _ _ _ _ Yp (pv 7 rfl fv Dj Dk) (@Aw _ _ _ _ _ _ _ Am (pv 2 rfl fy cA cH) (@Ae _ _ _ _ _ _ _ _ Bp (pv 6 rfl Lq Eg Ei) AM) (fun _ _=>rfl))) (@Aw _ _ _ _ _ _ _ Am (pv 3 rfl fw Vn V7) (@Ae _ _ _ _ _ _ _ _ Bp (pv 6 rfl Lq Eg Ei) AM) (fun _ _=>rfl))) AM)) ⋯ ⋯))) ⋯) (@AV _ _ _ (@Ac _ _ _ _ (pv 5 rfl Xp AJ AK))))))))),A2 (N:=["_law_script","_law_at","_law_by","_law_prime","_law_cell","_law_big_here","_law_k","_law_one"]) (np:=2) (nl:=6) (Ab (BJ (Bq (AF AQ (AF AQ (AF AQ (AF AQ (AF AQ (AF AQ (AF AQ (AF AQ AS))))))))) Aa) (Ab (BJ (Bq (AF AQ (AF AQ (AF AQ (AF AQ (AF AQ (AF AQ (AF AQ (AF AQ AS))))))))) Aa) (Ab (BJ (J0 (i:=0) (AF AH AS)) Aa) (Ab (Cy (Au (AX oU AH (AX mG AQ AQ))) (As AH (by decide)) Bw) (Ab (BJ AQ Aa) (Ab (MJ (HE (AF AQ AS)) Aa (Ab (BJ (AX HX (AX HX (AX CN (J0 (i:=0) (AF (AX HX AH (AX CN AH AQ)) AS)) (AX mG AQ AQ)) AQ) (AX jE AH AH)) Aa) (BJ (AX HX (AX jE AH AQ) (AX CN (AX CN (AX jE AH (AX BF AH (AX CN AH AQ))) (AX BF AH (AX CN AH AQ))) AQ)) Aa))) (As AH (by decide)))))))) rfl h⟩
theorem Y3(F:Fun K "_law_name_of" "_law_name_of" Cj f fd)(z_range:mg "range"=none):FnOk P w K mg base CX0 1 f fd ["_law_big_here"] (spD ⟨K,w⟩ IB false):=by
 have nd:=sc_L_name_of.nd
 refine F.ok sc_L_name_of (fun vs H Q E h=>A3 Ad h) (fun cdv A outer s H vs Q E hr h=>?_)
 exact⟨_,(@AN _ _ _ _ _ (@Az _ _ 1 _ _ _ _ nd rfl LN BD ⋯ ⋯) (@AN _ _ _ _ _ (@Az _ _ 2 _ _ _ _ nd rfl PY (@Ae _ _ _ _ _ _ _ _ E9 AM (@Ae _ _ _ _ _ _ _ _ Bp (pv 0 rfl HS AJ AK) AM)) ⋯ ⋯) (@AN _ _ _ _ _ (@Az _ _ 0 _ _ _ _ nd rfl LO (@Ae _ _ _ _ _ _ _ _ BM (pv 0 rfl HS AJ AK) AM) ⋯ ⋯) (@AN _ _ _ _ _ (@IL _ _ _ _ _ _ _ _ PassesOwn.never rfl (@Gy _ _ _ _ _ _ RL z_range (@AD _ _ _ _ _ (pv 2 rfl WT Pj Pn) AL ⋯) ⋯) (@Aq _ _ 3 _ nd rfl W9 ⋯) (@AN _ _ _ _ _ (@Az _ _ 1 _ _ _ _ nd rfl LN (@Ae _ _ _ _ _ _ _ _ MV (pv 1 rfl PB BA BB) (@Aw _ _ _ _ _ _ _ df BD (@Ae _ _ _ _ _ _ _ _ Bp (pv 0 rfl HS AJ AK) AM) (fun _ _=>rfl))) ⋯ ⋯) (@AV _ _ _ (@Az _ _ 0 _ _ _ _ nd rfl LO (@Ae _ _ _ _ _ _ _ _ BM (pv 0 rfl HS AJ AK) AM) ⋯ ⋯))) ⋯) (@AV _ _ _ (@Ac _ _ _ _ (@BH _ _ _ _ _ (@AD _ _ _ _ _ (pv 1 rfl PB BA BB) (@AD _ _ _ _ _ (pv 0 rfl HS AJ AK) AL ⋯) ⋯)))))))),A2 (N:=["_law_big_here","_law_name","_law_size","_law_k"]) (np:=1) (nl:=3) (Ab (BJ Bo Aa) (Ab (BJ (AX HX AQ (AX CN AH AQ)) Aa) (Ab (BJ (AX Cm AH AQ) Aa) (Ab (MJ (HE (AF AH AS)) Aa (Ab (BJ (AX Y7 AH (AX jF Bo (AX CN AH AQ))) Aa) (BJ (AX Cm AH AQ) Aa))) (As (Bq (AF AH (AF AH AS))) (by decide)))))) rfl h⟩
theorem Y1(F:Fun K "_law_step_of" "_law_step_of" Fe f fd):FnOk P w K mg base CX0 1 f fd ["_law_big_here"] (spD ⟨K,w⟩ B8 false):=by
 have nd:=sc_L_step_of.nd
 refine F.ok sc_L_step_of (fun vs H Q E h=>A3 Ad h) (fun cdv A outer s H vs Q E hr h=>?_)
 exact⟨_,(@AN _ _ _ _ _ (@Bt _ _ _ _ _ _ _ _ (@An _ _ _ _ _ _ _ _ (@CF _ (DM hr)) (@Ae _ _ _ _ _ _ _ _ Bp (pv 0 rfl HQ AJ AK) AM) AM (A7 _)) (@AV _ _ _ (@Ac _ _ _ _ (@BH _ _ _ _ _ (@AD _ _ _ _ _ (@Ae _ _ _ _ _ _ _ _ Nr (@Ae _ _ _ _ _ _ _ _ Bp (@Ae _ _ _ _ _ _ _ _ BM (pv 0 rfl HQ AJ AK) AM) AM) AM) (@AD _ _ _ _ _ (@Ae _ _ _ _ _ _ _ _ BM (pv 0 rfl HQ AJ AK) AM) AL ⋯) ⋯)))) Ay) (@AV _ _ _ (@Ac _ _ _ _ (@BH _ _ _ _ _ (@AD _ _ _ _ _ (@Ae _ _ _ _ _ _ _ _ Nr (@Ae _ _ _ _ _ _ _ _ Bp (@Ae _ _ _ _ _ _ _ _ BM (pv 0 rfl HQ AJ AK) AM) AM) AM) (@AD _ _ _ _ _ (@Ae _ _ _ _ _ _ _ _ BM (pv 0 rfl HQ AJ AK) AM) AL ⋯) ⋯))))),A2 (N:=["_law_big_here"]) (np:=1) (nl:=0) (Ab (Cy (Au (AX FQ (AX CN AH AQ) AQ)) (As (Bq (AF (AX Sv (AX CN (AX Cm AH AQ) AQ) AQ) (AF (AX Cm AH AQ) AS))) (by decide)) Bw) (As (Bq (AF (AX Sv (AX CN (AX Cm AH AQ) AQ) AQ) (AF (AX Cm AH AQ) AS))) (by decide))) rfl h⟩
theorem kJ(F:Fun K "_law_up" "_law_up" HK f fd):FnOk P w K mg base CX0 1 f fd ["_law_rows","_law_name"] (spD ⟨K,w⟩ LU true):=by
 have nd:=sc_L_up.nd
 refine F.ok sc_L_up (fun vs H Q E h=>A3 Ad h) (fun cdv A outer s H vs Q E hr h=>?_)
 exact⟨_,(@AN _ _ _ _ _ (@Az _ _ 2 _ _ _ _ nd rfl bL (@Jf _ _ _ _ AL) ⋯ ⋯) (@AN _ _ _ _ _ (@Az _ _ 3 _ _ _ _ nd rfl bK eV ⋯ ⋯) (@AN _ _ _ _ _ (@IL _ _ _ _ _ _ _ _ PassesOwn.never rfl (@FF _ _ _ _ (pv 0 rfl iF Ao Ap)) (@Aq _ _ 4 _ nd rfl bJ ⋯) (@AV _ _ _ (@E6 _ _ _ _ _ _ (pv 4 rfl aF A8 A9) (@ig _ _ _ _ _ _ _ (pv 3 rfl UQ EV EX) (@Aw _ _ _ _ _ _ _ Am (pv 4 rfl aF A8 A9) AM (fun _ _=>rfl)) lh ⋯) ⋯ ⋯ ⋯)) ⋯) (@AN _ _ _ _ _ (@Np _ _ _ _ _ _ PassesOwn.never (@PW.pt _ _ _ (@P1 _ _ _ _ _ _ _ (@An _ _ _ _ _ _ _ _ (@GI _ (DM hr)) (pv 1 rfl Qj BA BB) BD (A7 _)) (@MS _ _ _ _ (@An _ _ _ _ _ _ _ _ i3 (pv 1 rfl Qj BA BB) (pv 3 rfl UQ EV EX) (by with_unfolding_all rfl))))) (@AN _ _ _ _ _ (@Gv _ _ _ _ (@Nq _ _ _ _ _ _ _ _ _ _ _ _ PySem.F.plainAttrs_list PySem.F.slot_list_append PySem.F.type_list_append FR (pv 2 rfl aG C4 C6) (@AD _ _ _ _ _ (pv 1 rfl Qj BA BB) AL ⋯) ⋯ ⋯ ⋯ ⋯ ⋯) ⋯) (@AV _ _ _ (@Az _ _ 1 _ _ _ _ nd rfl bM (@Aw _ _ _ _ _ _ _ Am (@Aw _ _ _ _ _ _ _ og (pv 3 rfl UQ EV EX) (pv 1 rfl Qj BA BB) (fun _ _=>rfl)) AM (fun _ _=>rfl)) ⋯ ⋯)))) (@AV _ _ _ (@Ac _ _ _ _ (pv 2 rfl aG C4 C6))))))),A2 (N:=["_law_rows","_law_name","_law_up_here","_law_by_name","_law_row"]) (np:=2) (nl:=3) (Ab cJ (Ab jw (Ab (MJ (FG AH) Aa (ju (i:=3) AH (AX BF AH AQ))) (Ab (RZ (Ua (Au (AX NF AH Bo)) (Au (mR (i:=3) AH))) (Ab (JF (XS (i:=2) HZ (AF AH AS))) (BJ (AX BF (mQ (i:=3) AH) AQ) Aa))) (Z8 (i:=2)))))) rfl h⟩
theorem i8(F:Fun K "_law_low" "_law_low" Es f fd)(z_abs:mg "abs"=none):FnOk P w K mg base CX0 1 f fd ["_law_top","_law_bottom"] (spD ⟨K,w⟩ Mb false):=by
 have nd:=sc_L_low.nd
 refine F.ok sc_L_low (fun vs H Q E h=>A3 Ad h) (fun cdv A outer s H vs Q E hr h=>?_)
 exact⟨_,(@AN _ _ _ _ _ (@cx _ _ 2 3 _ _ _ _ _ _ _ _ _ _ _ rfl nd rfl rfl (by decide) X9 X8 (@AD _ _ _ _ _ (@BE _ _ _ _ _ _ _ _ _ WA bc z_abs PyProof.Rows.boot_abs (@AD _ _ _ _ _ (pv 0 rfl Xo RS RX) AL ⋯) ZC Zx ⋯ ⋯) (@AD _ _ _ _ _ (pv 1 rfl Xn Fv Fz) AL ⋯) ⋯) (by kernel_rfl) ⋯) (@AN _ _ _ _ _ (@Np _ _ _ _ _ _ PassesOwn.never (@An _ _ _ _ _ _ _ _ X1 (pv 3 rfl Rg Gj Gm) AM (A7 _)) (@AV _ _ _ (@cx _ _ 2 3 _ _ _ _ _ _ _ _ _ _ _ rfl nd rfl rfl (by decide) X9 X8 (@AD _ _ _ _ _ (pv 3 rfl Rg Gj Gm) (@AD _ _ _ _ _ (@Ae _ _ _ _ _ _ _ _ Bp (pv 2 rfl Rh Dj Dk) (pv 3 rfl Rg Gj Gm)) AL ⋯) ⋯) (by kernel_rfl) ⋯))) (@AV _ _ _ (@Ac _ _ _ _ (@BH _ _ _ _ _ (@AD _ _ _ _ _ (@Ae _ _ _ _ _ _ _ _ BM (pv 0 rfl Xo RS RX) (pv 2 rfl Rh Dj Dk)) (@AD _ _ _ _ _ (@Ae _ _ _ _ _ _ _ _ BM (pv 1 rfl Xn Fv Fz) (pv 2 rfl Rh Dj Dk)) AL ⋯) ⋯)))))),A2 (N:=["_law_top","_law_bottom","_law_one","_law_other"]) (np:=2) (nl:=2) (Ab (jv (i:=2) (j:=3) (AF (C8 jo (AF AH AS)) (AF AH AS))) (Ab (RZ (Au (AX gR AH AQ)) (jv (i:=2) (j:=3) (AF AH (AF (AX CN AH AH) AS)))) (As (Bq (AF (AX Cm AH AH) (AF (AX Cm AH AH) AS))) (by decide)))) rfl h⟩
theorem Wf(F:Fun K "_law_share_of" "_law_share_of" DF f fd)(e67:Cal P w K mg base 1 "_law_low" ["_law_top","_law_bottom"] (spD ⟨K,w⟩ Mb false)):FnOk P w K mg base CX0 2 f fd ["_law_big_here"] (spD ⟨K,w⟩ Fo false):=by
 have nd:=sc_L_share_of.nd
 refine F.ok sc_L_share_of (fun vs H Q E h=>A3 Ad h) (fun cdv A outer s H vs Q E hr h=>?_)
 exact⟨_,(@AN _ _ _ _ _ (@Az _ _ 1 _ _ _ _ nd rfl IM (@Aw _ _ _ _ _ _ _ Am (@BH _ _ _ _ _ (@AD _ _ _ _ _ AM (@AD _ _ _ _ _ AM (@AD _ _ _ _ _ AM (@AD _ _ _ _ _ AM AL ⋯) ⋯) ⋯) ⋯)) (@Ae _ _ _ _ _ _ _ _ Bp (pv 0 rfl Dm AJ AK) AM) (fun _ _=>rfl)) ⋯ ⋯) (@AN _ _ _ _ _ (@Bt _ _ _ _ _ _ _ _ (@An _ _ _ _ _ _ _ _ (@CF _ (DM hr)) (@Ae _ _ _ _ _ _ _ _ Bp (@Ae _ _ _ _ _ _ _ _ BM (pv 0 rfl Dm AJ AK) AM) AM) AM (A7 _)) (@AV _ _ _ (@Az _ _ 1 _ _ _ _ nd rfl IM (@Ae _ _ _ _ _ _ _ _ E9 AM (@Ae _ _ _ _ _ _ _ _ Bp (@Ae _ _ _ _ _ _ _ _ BM (pv 0 rfl Dm AJ AK) AM) AM)) ⋯ ⋯)) Ay) (@AN _ _ _ _ _ (@Bt _ _ _ _ _ _ _ _ (@An _ _ _ _ _ _ _ _ (@CF _ (DM hr)) (@Ae _ _ _ _ _ _ _ _ Bp (@Ae _ _ _ _ _ _ _ _ BM (pv 0 rfl Dm AJ AK) AM) AM) AM (A7 _)) (@AV _ _ _ (@Az _ _ 1 _ _ _ _ nd rfl IM (@Ae _ _ _ _ _ _ _ _ E9 AM (@Ae _ _ _ _ _ _ _ _ Bp (@Ae _ _ _ _ _ _ _ _ BM (pv 0 rfl Dm AJ AK) AM) AM)) ⋯ ⋯)) Ay) (@AN _ _ _ _ _ (@Az _ _ 0 _ _ _ _ nd rfl N2 (@Ae _ _ _ _ _ _ _ _ BM (pv 0 rfl Dm AJ AK) AM) ⋯ ⋯) (@AV _ _ _ (@Ac _ _ _ _ (@BH _ _ _ _ _ (@AD _ _ _ _ _ (@AO _ _ _ _ _ _ _ _ _ _ e67 hr NS (@AD _ _ _ _ _ (@Ae _ _ _ _ _ _ _ _ Bp (pv 0 rfl Dm AJ AK) (@Ae _ _ _ _ _ _ _ _ E9 (pv 1 rfl KO Fv Fz) AM)) (@AD _ _ _ _ _ (pv 1 rfl KO Fv Fz) AL ⋯) ⋯) Zy ⋯ ⋯) (@AD _ _ _ _ _ (@Ae _ _ _ _ _ _ _ _ BM (pv 0 rfl Dm AJ AK) (@Ae _ _ _ _ _ _ _ _ E9 (pv 1 rfl KO Fv Fz) AM)) AL ⋯) ⋯)))))))),A2 (N:=["_law_big_here","_law_bottom"]) (np:=1) (nl:=1) (Ab (BJ (AX BF (Bq (AF AQ (AF AQ (AF AQ (AF AQ AS))))) (AX CN AH AQ)) Aa) (Ab (Cy (Au (AX FQ (AX CN (AX Cm AH AQ) AQ) AQ)) (BJ (AX HX AQ (AX CN (AX Cm AH AQ) AQ)) Aa) Bw) (Ab (Cy (Au (AX FQ (AX CN (AX Cm AH AQ) AQ) AQ)) (BJ (AX HX AQ (AX CN (AX Cm AH AQ) AQ)) Aa) Bw) (Ab (BJ (AX Cm AH AQ) Aa) (As (Bq (AF (AY (AF (AX CN AH (AX HX AH AQ)) (AF AH AS))) (AF (AX Cm AH (AX HX AH AQ)) AS))) (by decide)))))) rfl h⟩
theorem Wh(F:Fun K "_law_paint_of" "_law_paint_of" Cf f fd)(d06:Cal P w K mg base 2 "_law_share_of" ["_law_big_here"] (spD ⟨K,w⟩ Fo false)):FnOk P w K mg base CX0 3 f fd ["_law_big_here"] (spD ⟨K,w⟩ Ew false):=by
 have nd:=sc_L_paint_of.nd
 refine F.ok sc_L_paint_of (fun vs H Q E h=>A3 Ad h) (fun cdv A outer s H vs Q E hr h=>?_)
 exact⟨_,(@AN _ _ _ _ _ (@E6 _ _ _ _ _ _ (@AO _ _ _ _ _ _ _ _ _ _ d06 hr Gg (@AD _ _ _ _ _ (pv 0 rfl GP AJ AK) AL ⋯) LD ⋯ ⋯) (@E7 _ _ _ _ _ _ rfl (@BL _ _ _ _ _ (@Aq _ _ 1 _ nd rfl N7 ⋯) (@BL _ _ _ _ _ (@Aq _ _ 0 _ nd rfl KY ⋯) Dd ⋯) ⋯) ⋯ ⋯) ⋯ ⋯ ⋯) (@AN _ _ _ _ _ (@Bt _ _ _ _ _ _ _ _ (@An _ _ _ _ _ _ _ _ (@CF _ (DM hr)) (@Ae _ _ _ _ _ _ _ _ Bp (pv 0 rfl GP AJ AK) AM) AM (A7 _)) (@AV _ _ _ (@Ac _ _ _ _ (@BH _ _ _ _ _ (@AD _ _ _ _ _ (pv 1 rfl Ni FY Fb) (@AD _ _ _ _ _ (@BH _ _ _ _ _ (@AD _ _ _ _ _ AM (@AD _ _ _ _ _ AM AL ⋯) ⋯)) (@AD _ _ _ _ _ (@Ae _ _ _ _ _ _ _ _ BM (pv 0 rfl GP AJ AK) AM) AL ⋯) ⋯) ⋯)))) Ay) (@AN _ _ _ _ _ (@E6 _ _ _ _ _ _ (@AO _ _ _ _ _ _ _ _ _ _ d06 hr Gg (@AD _ _ _ _ _ (@Ae _ _ _ _ _ _ _ _ BM (pv 0 rfl GP AJ AK) AM) AL ⋯) LD ⋯ ⋯) (@E7 _ _ _ _ _ _ rfl (@BL _ _ _ _ _ (@Aq _ _ 2 _ nd rfl N6 ⋯) (@BL _ _ _ _ _ (@Aq _ _ 0 _ nd rfl KY ⋯) Dd ⋯) ⋯) ⋯ ⋯) ⋯ ⋯ ⋯) (@AV _ _ _ (@Ac _ _ _ _ (@BH _ _ _ _ _ (@AD _ _ _ _ _ (pv 1 rfl Ni FY Fb) (@AD _ _ _ _ _ (pv 2 rfl UX FX FZ) (@AD _ _ _ _ _ (pv 0 rfl GP AJ AK) AL ⋯) ⋯) ⋯))))))),A2 (N:=["_law_big_here","_law_shade","_law_share"]) (np:=1) (nl:=2) (Ab (BJ (AY (AF AH AS)) (Ha (Bk Aa (Bk Aa FA)) (BN (BN Dh)))) (Ab (Cy (Au (AX FQ (AX CN AH AQ) AQ)) (As (Bq (AF AH (AF (Bq (AF AQ (AF AQ AS))) (AF (AX Cm AH AQ) AS)))) (by decide)) Bw) (Ab (BJ (AY (AF (AX Cm AH AQ) AS)) (Ha (Bk Aa (Bk Aa FA)) (BN (BN Dh)))) (As (Bq (AF AH (AF AH (AF AH AS)))) (by decide))))) rfl h⟩
theorem Tg(F:Fun K "_law_stencil_of" "_law_stencil_of" BU f fd)(z_range:mg "range"=none)(z_tuple:mg "tuple"=none):FnOk P w K mg base CX0 1 f fd ["_law_big_here"] (spD ⟨K,w⟩ FV false):=by
 have nd:=sc_L_stencil_of.nd
 refine F.ok sc_L_stencil_of (fun vs H Q E h=>A3 Ad h) (fun cdv A outer s H vs Q E hr h=>?_)
 exact⟨_,(@AN _ _ _ _ _ (@Az _ _ 1 _ _ _ _ nd rfl L0 (@Ae _ _ _ _ _ _ _ _ E9 AM (@Ae _ _ _ _ _ _ _ _ Bp (pv 0 rfl ES AJ AK) AM)) ⋯ ⋯) (@AN _ _ _ _ _ (@Az _ _ 2 _ _ _ _ nd rfl Lz (@Ae _ _ _ _ _ _ _ _ E9 AM (@Ae _ _ _ _ _ _ _ _ Bp (@Ae _ _ _ _ _ _ _ _ BM (pv 0 rfl ES AJ AK) AM) AM)) ⋯ ⋯) (@AN _ _ _ _ _ (@Az _ _ 0 _ _ _ _ nd rfl Io (@Ae _ _ _ _ _ _ _ _ BM (pv 0 rfl ES AJ AK) AM) ⋯ ⋯) (@AN _ _ _ _ _ (@Az _ _ 3 _ _ _ _ nd rfl Ly (@Jf _ _ _ _ AL) ⋯ ⋯) (@AN _ _ _ _ _ (@IL _ _ _ _ _ _ _ _ PassesOwn.never rfl (@Gy _ _ _ _ _ _ JX z_range (@AD _ _ _ _ _ (pv 2 rfl Rc Xd Xj) AL ⋯) ⋯) (@Aq _ _ 4 _ nd rfl R4 ⋯) (@AN _ _ _ _ _ (@Az _ _ 5 _ _ _ _ nd rfl Im BD ⋯ ⋯) (@AN _ _ _ _ _ (@IL _ _ _ _ _ _ _ _ PassesOwn.never rfl (@Gy _ _ _ _ _ _ JX z_range (@AD _ _ _ _ _ (pv 1 rfl Rf Xa Xh) AL ⋯) ⋯) (@Aq _ _ 6 _ nd rfl R3 ⋯) (@AN _ _ _ _ _ (@Az _ _ 5 _ _ _ _ nd rfl Im (@Ae _ _ _ _ _ _ _ _ MV (pv 5 rfl Lo A8 A9) (@Aw _ _ _ _ _ _ _ df BD (@Ae _ _ _ _ _ _ _ _ Bp (pv 0 rfl ES AJ AK) AM) (fun _ _=>rfl))) ⋯ ⋯) (@AV _ _ _ (@Az _ _ 0 _ _ _ _ nd rfl Io (@Ae _ _ _ _ _ _ _ _ BM (pv 0 rfl ES AJ AK) AM) ⋯ ⋯))) ⋯) (@AV _ _ _ (@Gv _ _ _ _ (@Nq _ _ _ _ _ _ _ _ _ _ _ _ PySem.F.plainAttrs_list PySem.F.slot_list_append PySem.F.type_list_append FR (pv 3 rfl Lp Ao Ap) (@AD _ _ _ _ _ (pv 5 rfl Lo A8 A9) AL ⋯) ⋯ ⋯ ⋯ ⋯ ⋯) ⋯)))) ⋯) (@AV _ _ _ (@Ac _ _ _ _ (@BH _ _ _ _ _ (@AD _ _ _ _ _ (@Hy _ _ _ _ _ _ _ _ _ Xl OM z_tuple PySem.Pv.boot_tuple (@AD _ _ _ _ _ (pv 3 rfl Lp Ao Ap) AL ⋯) Lw MF ⋯ ⋯) (@AD _ _ _ _ _ (pv 0 rfl ES AJ AK) AL ⋯) ⋯))))))))),A2 (N:=["_law_big_here","_law_wide","_law_high","_law_rows","_law_j","_law_row","_law_i"]) (np:=1) (nl:=6) (Ab (BJ (AX HX AQ (AX CN AH AQ)) Aa) (Ab (BJ (AX HX AQ (AX CN (AX Cm AH AQ) AQ)) Aa) (Ab (BJ (AX Cm AH AQ) Aa) (Ab cJ (Ab (MJ (HE (AF AH AS)) Aa (Ab (BJ Bo Aa) (Ab (MJ (HE (AF AH AS)) Aa (Ab (BJ (AX Y7 AH (AX jF Bo (AX CN AH AQ))) Aa) (BJ (AX Cm AH AQ) Aa))) (JF (XS (i:=3) HZ (AF AH AS)))))) (As (bo (i:=3) (Bq (AF (C8 lI (AF AH AS)) (AF AH AS)))) (by decide))))))) rfl h⟩
theorem Y2(F:Fun K "_law_size_of" "_law_size_of" EN f fd):FnOk P w K mg base CX0 1 f fd ["_law_big_here","_law_most"] (spD ⟨K,w⟩ EO false):=by
 have nd:=sc_L_size_of.nd
 refine F.ok sc_L_size_of (fun vs H Q E h=>A3 Ad h) (fun cdv A outer s H vs Q E hr h=>?_)
 exact⟨_,(@AN _ _ _ _ _ (@Bt _ _ _ _ _ _ _ _ (@An _ _ _ _ _ _ _ _ (@CF _ (DM hr)) (@Ae _ _ _ _ _ _ _ _ Bp (pv 0 rfl HR AJ AK) AM) AM (A7 _)) (@AV _ _ _ (@Ac _ _ _ _ (@BH _ _ _ _ _ (@AD _ _ _ _ _ (@Ae _ _ _ _ _ _ _ _ E9 AM (@Ae _ _ _ _ _ _ _ _ Bp (@Ae _ _ _ _ _ _ _ _ BM (pv 0 rfl HR AJ AK) AM) (pv 1 rfl O9 Lf Lh))) (@AD _ _ _ _ _ (@Ae _ _ _ _ _ _ _ _ BM (@Ae _ _ _ _ _ _ _ _ BM (pv 0 rfl HR AJ AK) AM) (pv 1 rfl O9 Lf Lh)) AL ⋯) ⋯)))) Ay) (@AV _ _ _ (@Ac _ _ _ _ (@BH _ _ _ _ _ (@AD _ _ _ _ _ (@Ae _ _ _ _ _ _ _ _ E9 AM (@Ae _ _ _ _ _ _ _ _ Bp (@Ae _ _ _ _ _ _ _ _ BM (pv 0 rfl HR AJ AK) AM) AM)) (@AD _ _ _ _ _ (@Ae _ _ _ _ _ _ _ _ BM (pv 0 rfl HR AJ AK) AM) AL ⋯) ⋯))))),A2 (N:=["_law_big_here","_law_most"]) (np:=2) (nl:=0) (Ab (Cy (Au (AX FQ (AX CN AH AQ) AQ)) (As (Bq (AF (AX HX AQ (AX CN (AX Cm AH AQ) AH)) (AF (AX Cm (AX Cm AH AQ) AH) AS))) (by decide)) Bw) (As (Bq (AF (AX HX AQ (AX CN (AX Cm AH AQ) AQ)) (AF (AX Cm AH AQ) AS))) (by decide))) rfl h⟩
theorem Y0(F:Fun K "_law_word_of" "_law_word_of" Ci f fd)(z_range:mg "range"=none):FnOk P w K mg base CX0 1 f fd ["_law_big_here"] (spD ⟨K,w⟩ IA false):=by
 have nd:=sc_L_word_of.nd
 refine F.ok sc_L_word_of (fun vs H Q E h=>A3 Ad h) (fun cdv A outer s H vs Q E hr h=>?_)
 exact⟨_,(@AN _ _ _ _ _ (@Az _ _ 1 _ _ _ _ nd rfl LL BD ⋯ ⋯) (@AN _ _ _ _ _ (@Az _ _ 2 _ _ _ _ nd rfl PU (@Ae _ _ _ _ _ _ _ _ Bp (pv 0 rfl HP AJ AK) AM) ⋯ ⋯) (@AN _ _ _ _ _ (@Az _ _ 0 _ _ _ _ nd rfl LM (@Ae _ _ _ _ _ _ _ _ BM (pv 0 rfl HP AJ AK) AM) ⋯ ⋯) (@AN _ _ _ _ _ (@IL _ _ _ _ _ _ _ _ PassesOwn.never rfl (@Gy _ _ _ _ _ _ RJ z_range (@AD _ _ _ _ _ (pv 2 rfl WQ Pj Pn) AL ⋯) ⋯) (@Aq _ _ 3 _ nd rfl W5 ⋯) (@AN _ _ _ _ _ (@Az _ _ 1 _ _ _ _ nd rfl LL (@Ae _ _ _ _ _ _ _ _ MV (pv 1 rfl O8 Le Lg) (@Aw _ _ _ _ _ _ _ df BD (@Ae _ _ _ _ _ _ _ _ Bp (pv 0 rfl HP AJ AK) AM) (fun _ _=>rfl))) ⋯ ⋯) (@AV _ _ _ (@Az _ _ 0 _ _ _ _ nd rfl LM (@Ae _ _ _ _ _ _ _ _ BM (pv 0 rfl HP AJ AK) AM) ⋯ ⋯))) ⋯) (@AV _ _ _ (@Ac _ _ _ _ (@BH _ _ _ _ _ (@AD _ _ _ _ _ (pv 1 rfl O8 Le Lg) (@AD _ _ _ _ _ (pv 0 rfl HP AJ AK) AL ⋯) ⋯)))))))),A2 (N:=["_law_big_here","_law_text","_law_size","_law_k"]) (np:=1) (nl:=3) (Ab (BJ Bo Aa) (Ab (BJ (AX CN AH AQ) Aa) (Ab (BJ (AX Cm AH AQ) Aa) (Ab (MJ (HE (AF AH AS)) Aa (Ab (BJ (AX Y7 AH (AX jF Bo (AX CN AH AQ))) Aa) (BJ (AX Cm AH AQ) Aa))) (As (Bq (AF AH (AF AH AS))) (by decide)))))) rfl h⟩
theorem Y4(F:Fun K "_law_data_of" "_law_data_of" A4 f fd)(c88:Cal P w K mg base 3 "_law_size_of" ["_law_big_here","_law_most"] (spD ⟨K,w⟩ EO false))(c04:Cal P w K mg base 3 "_law_step_of" ["_law_big_here"] (spD ⟨K,w⟩ B8 false))(e16:Cal P w K mg base 3 "_law_paint_of" ["_law_big_here"] (spD ⟨K,w⟩ Ew false))(e24:Cal P w K mg base 3 "_law_word_of" ["_law_big_here"] (spD ⟨K,w⟩ IA false))(d98:Cal P w K mg base 3 "_law_stencil_of" ["_law_big_here"] (spD ⟨K,w⟩ FV false)):FnOk P w K mg base CX0 4 f fd ["_law_kind","_law_big_here"] (spD ⟨K,w⟩ Bm false):=by
 have nd:=sc_L_data_of.nd
 refine F.ok sc_L_data_of (fun vs H Q E h=>A3 Ad h) (fun cdv A outer s H vs Q E hr h=>?_)
 exact⟨_,(@AN _ _ _ _ _ (@Bt _ _ _ _ _ _ _ _ (@An _ _ _ _ _ _ _ _ (@Nt _ (RB hr)) (pv 0 rfl EJ Cr Cs) (@BH _ _ _ _ _ (@AD _ _ _ _ _ BD (@AD _ _ _ _ _ BD AL ⋯) ⋯)) (by with_unfolding_all rfl)) (@AV _ _ _ (@Ac _ _ _ _ (@BH _ _ _ _ _ (@AD _ _ _ _ _ (@BH _ _ _ _ _ AL) (@AD _ _ _ _ _ (pv 1 rfl A0 AJ AK) AL ⋯) ⋯)))) Ay) (@AN _ _ _ _ _ (@Bt _ _ _ _ _ _ _ _ (@An _ _ _ _ _ _ _ _ (@CF _ (DM hr)) (pv 0 rfl EJ Cr Cs) BD (A7 _)) (@AV _ _ _ (@Ac _ _ _ _ (@BH _ _ _ _ _ (@AD _ _ _ _ _ (@BH _ _ _ _ _ (@AD _ _ _ _ _ (@Ae _ _ _ _ _ _ _ _ Bp (pv 1 rfl A0 AJ AK) AM) (@AD _ _ _ _ _ (@Ej _ _ _ _ _ _ _ _ (@CF _ (DM hr)) (@Ae _ _ _ _ _ _ _ _ Bp (@Ae _ _ _ _ _ _ _ _ BM (pv 1 rfl A0 AJ AK) AM) AM) AM (A7 _)) AL ⋯) ⋯)) (@AD _ _ _ _ _ (@Ae _ _ _ _ _ _ _ _ BM (pv 1 rfl A0 AJ AK) AM) AL ⋯) ⋯)))) Ay) (@AN _ _ _ _ _ (@Bt _ _ _ _ _ _ _ _ (@An _ _ _ _ _ _ _ _ (@CF _ (DM hr)) (pv 0 rfl EJ Cr Cs) BD (A7 _)) (@AN _ _ _ _ _ (@Az _ _ 2 _ _ _ _ nd rfl LR (@BH _ _ _ _ _ (@AD _ _ _ _ _ (@Ae _ _ _ _ _ _ _ _ E9 AM (@Ae _ _ _ _ _ _ _ _ Bp (pv 1 rfl A0 AJ AK) AM)) (@AD _ _ _ _ _ (@Ae _ _ _ _ _ _ _ _ E9 AM (@Ae _ _ _ _ _ _ _ _ Bp (@Ae _ _ _ _ _ _ _ _ BM (pv 1 rfl A0 AJ AK) AM) AM)) (@AD _ _ _ _ _ (@Ae _ _ _ _ _ _ _ _ Nr (@Ae _ _ _ _ _ _ _ _ Bp (@Ae _ _ _ _ _ _ _ _ BM (pv 1 rfl A0 AJ AK) AM) AM) AM) (@AD _ _ _ _ _ (@Ae _ _ _ _ _ _ _ _ Nr (@Ae _ _ _ _ _ _ _ _ Bp (@Ae _ _ _ _ _ _ _ _ BM (pv 1 rfl A0 AJ AK) AM) AM) AM) AL ⋯) ⋯) ⋯) ⋯)) ⋯ ⋯) (@AN _ _ _ _ _ (@Bt _ _ _ _ _ _ _ _ (@An _ _ _ _ _ _ _ _ X1 (@Ae _ _ _ _ _ _ _ _ Bp (@Ae _ _ _ _ _ _ _ _ BM (pv 1 rfl A0 AJ AK) AM) AM) AM (A7 _)) (@AV _ _ _ (@Az _ _ 2 _ _ _ _ nd rfl LR (@Ae _ _ _ _ _ _ _ _ Jv (@FP _ _ _ _ _ _ _ _ _ _ MN (pv 2 rfl JI Hg Hj) Gx (@Gw _ _ _ AM)) (@BH _ _ _ _ _ (@AD _ _ _ _ _ (@Ae _ _ _ _ _ _ _ _ Bp (@Aw _ _ _ _ _ _ _ Am (pv 2 rfl JI Hg Hj) AM (fun _ _=>rfl)) AM) (@AD _ _ _ _ _ (@Ae _ _ _ _ _ _ _ _ Bp (@Aw _ _ _ _ _ _ _ Am (pv 2 rfl JI Hg Hj) AM (fun _ _=>rfl)) AM) AL ⋯) ⋯))) ⋯ ⋯)) Ay) (@AV _ _ _ (@Ac _ _ _ _ (@BH _ _ _ _ _ (@AD _ _ _ _ _ (pv 2 rfl JI Hg Hj) (@AD _ _ _ _ _ (@Ae _ _ _ _ _ _ _ _ BM (pv 1 rfl A0 AJ AK) AM) AL ⋯) ⋯)))))) Ay) (@AN _ _ _ _ _ (@Bt _ _ _ _ _ _ _ _ (@An _ _ _ _ _ _ _ _ (@CF _ (DM hr)) (pv 0 rfl EJ Cr Cs) BD (A7 _)) (@AN _ _ _ _ _ (@E6 _ _ _ _ _ _ (@AO _ _ _ _ _ _ _ _ _ _ c88 hr Di (@AD _ _ _ _ _ (pv 1 rfl A0 AJ AK) (@AD _ _ _ _ _ AM AL ⋯) ⋯) HH ⋯ ⋯) (@E7 _ _ _ _ _ _ rfl (@BL _ _ _ _ _ (@Aq _ _ 3 _ nd rfl LQ ⋯) (@BL _ _ _ _ _ (@Aq _ _ 1 _ nd rfl C9 ⋯) Dd ⋯) ⋯) ⋯ ⋯) ⋯ ⋯ ⋯) (@AN _ _ _ _ _ (@E6 _ _ _ _ _ _ (@AO _ _ _ _ _ _ _ _ _ _ c88 hr Di (@AD _ _ _ _ _ (pv 1 rfl A0 AJ AK) (@AD _ _ _ _ _ AM AL ⋯) ⋯) HH ⋯ ⋯) (@E7 _ _ _ _ _ _ rfl (@BL _ _ _ _ _ (@Aq _ _ 4 _ nd rfl LP ⋯) (@BL _ _ _ _ _ (@Aq _ _ 1 _ nd rfl C9 ⋯) Dd ⋯) ⋯) ⋯ ⋯) ⋯ ⋯ ⋯) (@AN _ _ _ _ _ (@E6 _ _ _ _ _ _ (@AO _ _ _ _ _ _ _ _ _ _ c04 hr Hb (@AD _ _ _ _ _ (pv 1 rfl A0 AJ AK) AL ⋯) ET ⋯ ⋯) (@E7 _ _ _ _ _ _ rfl (@BL _ _ _ _ _ (@Aq _ _ 5 _ nd rfl Pd ⋯) (@BL _ _ _ _ _ (@Aq _ _ 1 _ nd rfl C9 ⋯) Dd ⋯) ⋯) ⋯ ⋯) ⋯ ⋯ ⋯) (@AN _ _ _ _ _ (@E6 _ _ _ _ _ _ (@AO _ _ _ _ _ _ _ _ _ _ c04 hr Hb (@AD _ _ _ _ _ (pv 1 rfl A0 AJ AK) AL ⋯) ET ⋯ ⋯) (@E7 _ _ _ _ _ _ rfl (@BL _ _ _ _ _ (@Aq _ _ 6 _ nd rfl Pc ⋯) (@BL _ _ _ _ _ (@Aq _ _ 1 _ nd rfl C9 ⋯) Dd ⋯) ⋯) ⋯ ⋯) ⋯ ⋯ ⋯) (@AV _ _ _ (@Ac _ _ _ _ (@BH _ _ _ _ _ (@AD _ _ _ _ _ (@BH _ _ _ _ _ (@AD _ _ _ _ _ (pv 3 rfl PF Vl V5) (@AD _ _ _ _ _ (pv 4 rfl PD Vq V9) (@AD _ _ _ _ _ (pv 5 rfl WW bz cG) (@AD _ _ _ _ _ (pv 6 rfl WV bx cF) AL ⋯) ⋯) ⋯) ⋯)) (@AD _ _ _ _ _ (pv 1 rfl A0 AJ AK) AL ⋯) ⋯)))))))) Ay) (@AN _ _ _ _ _ (@E6 _ _ _ _ _ _ (@AO _ _ _ _ _ _ _ _ _ _ e16 hr K2 (@AD _ _ _ _ _ (pv 1 rfl A0 AJ AK) AL ⋯) RU ⋯ ⋯) (@E7 _ _ _ _ _ _ rfl (@BL _ _ _ _ _ (@Aq _ _ 7 _ nd rfl Pb ⋯) (@BL _ _ _ _ _ (@Aq _ _ 8 _ nd rfl Pa ⋯) (@BL _ _ _ _ _ (@Aq _ _ 1 _ nd rfl C9 ⋯) Dd ⋯) ⋯) ⋯) ⋯ ⋯) ⋯ ⋯ ⋯) (@AN _ _ _ _ _ (@Bt _ _ _ _ _ _ _ _ (@An _ _ _ _ _ _ _ _ (@CF _ (DM hr)) (pv 0 rfl EJ Cr Cs) BD (A7 _)) (@AV _ _ _ (@Ac _ _ _ _ (@BH _ _ _ _ _ (@AD _ _ _ _ _ (@BH _ _ _ _ _ (@AD _ _ _ _ _ (pv 8 rfl HU FX FZ) AL ⋯)) (@AD _ _ _ _ _ (pv 1 rfl A0 AJ AK) AL ⋯) ⋯)))) Ay) (@AN _ _ _ _ _ (@Bt _ _ _ _ _ _ _ _ (@An _ _ _ _ _ _ _ _ (@CF _ (DM hr)) (pv 0 rfl EJ Cr Cs) BD (A7 _)) (@AN _ _ _ _ _ (@E6 _ _ _ _ _ _ (@AO _ _ _ _ _ _ _ _ _ _ c88 hr Di (@AD _ _ _ _ _ (pv 1 rfl A0 AJ AK) (@AD _ _ _ _ _ AM AL ⋯) ⋯) HH ⋯ ⋯) (@E7 _ _ _ _ _ _ rfl (@BL _ _ _ _ _ (@Aq _ _ 3 _ nd rfl LQ ⋯) (@BL _ _ _ _ _ (@Aq _ _ 1 _ nd rfl C9 ⋯) Dd ⋯) ⋯) ⋯ ⋯) ⋯ ⋯ ⋯) (@AN _ _ _ _ _ (@E6 _ _ _ _ _ _ (@AO _ _ _ _ _ _ _ _ _ _ c88 hr Di (@AD _ _ _ _ _ (pv 1 rfl A0 AJ AK) (@AD _ _ _ _ _ AM AL ⋯) ⋯) HH ⋯ ⋯) (@E7 _ _ _ _ _ _ rfl (@BL _ _ _ _ _ (@Aq _ _ 4 _ nd rfl LP ⋯) (@BL _ _ _ _ _ (@Aq _ _ 1 _ nd rfl C9 ⋯) Dd ⋯) ⋯) ⋯ ⋯) ⋯ ⋯ ⋯) (@AV _ _ _ (@Ac _ _ _ _ (@BH _ _ _ _ _ (@AD _ _ _ _ _ (@BH _ _ _ _ _ (@AD _ _ _ _ _ (pv 3 rfl PF Vl V5) (@AD _ _ _ _ _ (pv 4 rfl PD Vq V9) (@AD _ _ _ _ _ (pv 7 rfl JH FY Fb) (@AD _ _ _ _ _ (pv 8 rfl HU FX FZ) AL ⋯) ⋯) ⋯) ⋯)) (@AD _ _ _ _ _ (pv 1 rfl A0 AJ AK) AL ⋯) ⋯)))))) Ay) (@AN _ _ _ _ _ (@Bt _ _ _ _ _ _ _ _ (@An _ _ _ _ _ _ _ _ (@CF _ (DM hr)) (pv 0 rfl EJ Cr Cs) BD (A7 _)) (@AV _ _ _ (@Ac _ _ _ _ (@BH _ _ _ _ _ (@AD _ _ _ _ _ (@BH _ _ _ _ _ (@AD _ _ _ _ _ (@Ae _ _ _ _ _ _ _ _ Nr (@Ae _ _ _ _ _ _ _ _ Bp (pv 1 rfl A0 AJ AK) AM) AM) (@AD _ _ _ _ _ (@Ae _ _ _ _ _ _ _ _ Nr (@Ae _ _ _ _ _ _ _ _ Bp (@Ae _ _ _ _ _ _ _ _ BM (pv 1 rfl A0 AJ AK) AM) AM) AM) (@AD _ _ _ _ _ (pv 7 rfl JH FY Fb) (@AD _ _ _ _ _ (pv 8 rfl HU FX FZ) AL ⋯) ⋯) ⋯) ⋯)) (@AD _ _ _ _ _ (@Ae _ _ _ _ _ _ _ _ BM (pv 1 rfl A0 AJ AK) AM) AL ⋯) ⋯)))) Ay) (@AN _ _ _ _ _ (@Bt _ _ _ _ _ _ _ _ (@An _ _ _ _ _ _ _ _ (@CF _ (DM hr)) (pv 0 rfl EJ Cr Cs) BD (A7 _)) (@AN _ _ _ _ _ (@E6 _ _ _ _ _ _ (@AO _ _ _ _ _ _ _ _ _ _ e24 hr Ld (@AD _ _ _ _ _ (pv 1 rfl A0 AJ AK) AL ⋯) SS ⋯ ⋯) (@E7 _ _ _ _ _ _ rfl (@BL _ _ _ _ _ (@Aq _ _ 9 _ nd rfl PZ ⋯) (@BL _ _ _ _ _ (@Aq _ _ 1 _ nd rfl C9 ⋯) Dd ⋯) ⋯) ⋯ ⋯) ⋯ ⋯ ⋯) (@AV _ _ _ (@Ac _ _ _ _ (@BH _ _ _ _ _ (@AD _ _ _ _ _ (@BH _ _ _ _ _ (@AD _ _ _ _ _ (pv 9 rfl WU Le Lg) (@AD _ _ _ _ _ (pv 7 rfl JH FY Fb) (@AD _ _ _ _ _ (pv 8 rfl HU FX FZ) AL ⋯) ⋯) ⋯)) (@AD _ _ _ _ _ (pv 1 rfl A0 AJ AK) AL ⋯) ⋯))))) Ay) (@AN _ _ _ _ _ (@E6 _ _ _ _ _ _ (@AO _ _ _ _ _ _ _ _ _ _ d98 hr Jy (@AD _ _ _ _ _ (pv 1 rfl A0 AJ AK) AL ⋯) O3 ⋯ ⋯) (@E7 _ _ _ _ _ _ rfl (@BL _ _ _ _ _ (@Aq _ _ 10 _ nd rfl N8 ⋯) (@BL _ _ _ _ _ (@Aq _ _ 1 _ nd rfl C9 ⋯) Dd ⋯) ⋯) ⋯ ⋯) ⋯ ⋯ ⋯) (@AV _ _ _ (@Ac _ _ _ _ (@BH _ _ _ _ _ (@AD _ _ _ _ _ (@BH _ _ _ _ _ (@AD _ _ _ _ _ (pv 10 rfl UY Ao Ap) (@AD _ _ _ _ _ (pv 7 rfl JH FY Fb) (@AD _ _ _ _ _ (pv 8 rfl HU FX FZ) AL ⋯) ⋯) ⋯)) (@AD _ _ _ _ _ (pv 1 rfl A0 AJ AK) AL ⋯) ⋯)))))))))))))),A2 (N:=["_law_kind","_law_big_here","_law_data","_law_w","_law_h","_law_sx","_law_sy","_law_shade","_law_share","_law_text","_law_rows"]) (np:=2) (nl:=9) (Ab (Cy (Au (AX Rm AH (Bq (AF Bo (AF Bo AS))))) (As (Bq (AF (Bq AS) (AF AH AS))) (by decide)) Bw) (Ab (Cy (Au (AX FQ AH Bo)) (As (Bq (AF (Bq (AF (AX CN AH AQ) (AF (AX FQ (AX CN (AX Cm AH AQ) AQ) AQ) AS))) (AF (AX Cm AH AQ) AS))) (by decide)) Bw) (Ab (Cy (Au (AX FQ AH Bo)) (Ab (BJ (Bq (AF (AX HX AQ (AX CN AH AQ)) (AF (AX HX AQ (AX CN (AX Cm AH AQ) AQ)) (AF (AX Sv (AX CN (AX Cm AH AQ) AQ) AQ) (AF (AX Sv (AX CN (AX Cm AH AQ) AQ) AQ) AS))))) Aa) (Ab (Cy (Au (AX gR (AX CN (AX Cm AH AQ) AQ) AQ)) (BJ (AX MW (RN AH Lv (Rl AQ)) (Bq (AF (AX CN (AX BF AH AQ) AQ) (AF (AX CN (AX BF AH AQ) AQ) AS)))) Aa) Bw) (As (Bq (AF AH (AF (AX Cm AH AQ) AS))) (by decide)))) Bw) (Ab (Cy (Au (AX FQ AH Bo)) (Ab (BJ (AY (AF AH (AF AQ AS))) (Ha (Bk Aa (Bk Aa FA)) (BN (BN Dh)))) (Ab (BJ (AY (AF AH (AF AQ AS))) (Ha (Bk Aa (Bk Aa FA)) (BN (BN Dh)))) (Ab (BJ (AY (AF AH AS)) (Ha (Bk Aa (Bk Aa FA)) (BN (BN Dh)))) (Ab (BJ (AY (AF AH AS)) (Ha (Bk Aa (Bk Aa FA)) (BN (BN Dh)))) (As (Bq (AF (Bq (AF AH (AF AH (AF AH (AF AH AS))))) (AF AH AS))) (by decide)))))) Bw) (Ab (BJ (AY (AF AH AS)) (Ha (Bk Aa (Bk Aa (Bk Aa FA))) (BN (BN (BN Dh))))) (Ab (Cy (Au (AX FQ AH Bo)) (As (Bq (AF (Bq (AF AH AS)) (AF AH AS))) (by decide)) Bw) (Ab (Cy (Au (AX FQ AH Bo)) (Ab (BJ (AY (AF AH (AF AQ AS))) (Ha (Bk Aa (Bk Aa FA)) (BN (BN Dh)))) (Ab (BJ (AY (AF AH (AF AQ AS))) (Ha (Bk Aa (Bk Aa FA)) (BN (BN Dh)))) (As (Bq (AF (Bq (AF AH (AF AH (AF AH (AF AH AS))))) (AF AH AS))) (by decide)))) Bw) (Ab (Cy (Au (AX FQ AH Bo)) (As (Bq (AF (Bq (AF (AX Sv (AX CN AH AQ) AQ) (AF (AX Sv (AX CN (AX Cm AH AQ) AQ) AQ) (AF AH (AF AH AS))))) (AF (AX Cm AH AQ) AS))) (by decide)) Bw) (Ab (Cy (Au (AX FQ AH Bo)) (Ab (BJ (AY (AF AH AS)) (Ha (Bk Aa (Bk Aa FA)) (BN (BN Dh)))) (As (Bq (AF (Bq (AF AH (AF AH (AF AH AS)))) (AF AH AS))) (by decide))) Bw) (Ab (BJ (AY (AF AH AS)) (Ha (Bk Aa (Bk Aa FA)) (BN (BN Dh)))) (As (Bq (AF (Bq (AF AH (AF AH (AF AH AS)))) (AF AH AS))) (by decide)))))))))))) rfl h⟩
theorem dH(F:Fun K "_law_kinds" "_law_kinds" Hx f fd):FnOk P w K mg base CX0 1 f fd [] (spD ⟨K,w⟩ HC false):=by
 have nd:=sc_L_kinds.nd
 refine F.ok sc_L_kinds (fun vs H Q E h=>A3 Ad h) (fun cdv A outer s H vs Q E hr h=>?_)
 exact⟨_,(@AN _ _ _ _ _ (@Az _ _ 0 _ _ _ _ nd rfl Sy (@BH _ _ _ _ _ (@AD _ _ _ _ _ BD (@AD _ _ _ _ _ BD (@AD _ _ _ _ _ BD (@AD _ _ _ _ _ BD (@AD _ _ _ _ _ BD (@AD _ _ _ _ _ BD AL ⋯) ⋯) ⋯) ⋯) ⋯) ⋯)) ⋯ ⋯) (@AV _ _ _ (@Ac _ _ _ _ (@Ae _ _ _ _ _ _ _ _ Jv (pv 0 rfl aH T5 T6) (@BH _ _ _ _ _ (@AD _ _ _ _ _ BD (@AD _ _ _ _ _ BD (@AD _ _ _ _ _ BD (@AD _ _ _ _ _ BD (@AD _ _ _ _ _ BD (@AD _ _ _ _ _ BD AL ⋯) ⋯) ⋯) ⋯) ⋯) ⋯)))))),A2 (N:=["_law_leaves"]) (np:=0) (nl:=1) (Ab (BJ (Bq (AF Bo (AF Bo (AF Bo (AF Bo (AF Bo (AF Bo AS))))))) Aa) (As (AX MW AH (Bq (AF Bo (AF Bo (AF Bo (AF Bo (AF Bo (AF Bo AS)))))))) (by decide))) rfl h⟩
theorem aq(F:Fun K "_law_row_of" "_law_row_of" BC f fd)(e25:Cal P w K mg base 4 "_law_name_of" ["_law_big_here"] (spD ⟨K,w⟩ IB false))(e48:Cal P w K mg base 4 "_law_up" ["_law_rows","_law_name"] (spD ⟨K,w⟩ LU true))(e06:Cal P w K mg base 4 "_law_kinds" [] (spD ⟨K,w⟩ HC false))(c04:Cal P w K mg base 4 "_law_step_of" ["_law_big_here"] (spD ⟨K,w⟩ B8 false))(c96:Cal P w K mg base 4 "_law_data_of" ["_law_kind","_law_big_here"] (spD ⟨K,w⟩ Bm false))(z_len:mg "len"=none):FnOk P w K mg base CX0 5 f fd ["_law_rows","_law_big_here"] (spD ⟨K,w⟩ Ee false):=by
 have nd:=sc_L_row_of.nd
 refine F.ok sc_L_row_of (fun vs H Q E h=>A3 Ad h) (fun cdv A outer s H vs Q E hr h=>?_)
 exact⟨_,(@AN _ _ _ _ _ (@E6 _ _ _ _ _ _ (@AO _ _ _ _ _ _ _ _ _ _ e25 hr L9 (@AD _ _ _ _ _ (pv 1 rfl Dc AJ AK) AL ⋯) SU ⋯ ⋯) (@E7 _ _ _ _ _ _ rfl (@BL _ _ _ _ _ (@Aq _ _ 2 _ nd rfl Q7 ⋯) (@BL _ _ _ _ _ (@Aq _ _ 1 _ nd rfl G4 ⋯) Dd ⋯) ⋯) ⋯ ⋯) ⋯ ⋯ ⋯) (@AN _ _ _ _ _ (@Az _ _ 3 _ _ _ _ nd rfl Q6 (@Jf _ _ _ _ (@AD _ _ _ _ _ BD AL ⋯)) ⋯ ⋯) (@AN _ _ _ _ _ (@IL _ _ _ _ _ _ _ _ PassesOwn.never rfl (@FF _ _ _ _ (pv 0 rfl Jt Ao Ap)) (@Aq _ _ 4 _ nd rfl Q5 ⋯) (@AV _ _ _ (@Bt _ _ _ _ _ _ _ _ (@PW.pt _ _ _ (@P1 _ _ _ _ _ _ _ (@An _ _ _ _ _ _ _ _ (@Nt _ (RB hr)) (@Aw _ _ _ _ _ _ _ Am (pv 4 rfl MM A8 A9) AM (fun _ _=>rfl)) (@FP _ _ _ _ _ _ _ _ _ _ MN (@Xz _ _ _ _ _ _ _ e06 hr Ih OY) (@Gw _ _ _ AM) Gx) (by with_unfolding_all rfl)) (@MS _ _ _ _ (@An _ _ _ _ _ _ _ _ mE (@BE _ _ _ _ _ _ _ _ _ CQ IU z_len PySem.boot_len (@AD _ _ _ _ _ (@AO _ _ _ _ _ _ _ _ _ _ e48 hr Kh (@AD _ _ _ _ _ (pv 0 rfl Jt Ao Ap) (@AD _ _ _ _ _ (@Aw _ _ _ _ _ _ _ Am (pv 4 rfl MM A8 A9) AM (fun _ _=>rfl)) AL ⋯) ⋯) TN ⋯ ⋯) AL ⋯) Ct Cv ⋯ ⋯) AM (A7 _))))) (@AV _ _ _ (@Gv _ _ _ _ (@Nq _ _ _ _ _ _ _ _ _ _ _ _ PySem.F.plainAttrs_list PySem.F.slot_list_append PySem.F.type_list_append FR (pv 3 rfl Gp EU EW) (@AD _ _ _ _ _ (@Aw _ _ _ _ _ _ _ Am (pv 4 rfl MM A8 A9) AM (fun _ _=>rfl)) AL ⋯) ⋯ ⋯ ⋯ ⋯ ⋯) ⋯)) Ay)) ⋯) (@AN _ _ _ _ _ (@Az _ _ 5 _ _ _ _ nd rfl MY (@Aw _ _ _ _ _ _ _ K9 (pv 3 rfl Gp EU EW) (@Ae _ _ _ _ _ _ _ _ Bp (pv 1 rfl Dc AJ AK) (@BE _ _ _ _ _ _ _ _ _ CQ IU z_len PySem.boot_len (@AD _ _ _ _ _ (pv 3 rfl Gp EU EW) AL ⋯) Ct Cv ⋯ ⋯)) (fun _ _=>rfl)) ⋯ ⋯) (@AN _ _ _ _ _ (@Bt _ _ _ _ _ _ _ _ (@An _ _ _ _ _ _ _ _ (@CF _ (DM hr)) (@Ae _ _ _ _ _ _ _ _ Bp (@Ae _ _ _ _ _ _ _ _ BM (pv 1 rfl Dc AJ AK) (@BE _ _ _ _ _ _ _ _ _ CQ IU z_len PySem.boot_len (@AD _ _ _ _ _ (pv 3 rfl Gp EU EW) AL ⋯) Ct Cv ⋯ ⋯)) AM) AM (A7 _)) (@AV _ _ _ (@Az _ _ 5 _ _ _ _ nd rfl MY (@Aw _ _ _ _ _ _ _ K9 (pv 3 rfl Gp EU EW) (@Xy _ _ _ _ _ _ Ri AM) (fun _ _=>rfl)) ⋯ ⋯)) Ay) (@AN _ _ _ _ _ (@Az _ _ 1 _ _ _ _ nd rfl G4 (@Ae _ _ _ _ _ _ _ _ BM (@Ae _ _ _ _ _ _ _ _ BM (pv 1 rfl Dc AJ AK) (@BE _ _ _ _ _ _ _ _ _ CQ IU z_len PySem.boot_len (@AD _ _ _ _ _ (pv 3 rfl Gp EU EW) AL ⋯) Ct Cv ⋯ ⋯)) AM) ⋯ ⋯) (@AN _ _ _ _ _ (@E6 _ _ _ _ _ _ (@AO _ _ _ _ _ _ _ _ _ _ c04 hr IC (@AD _ _ _ _ _ (pv 1 rfl Dc AJ AK) AL ⋯) ET ⋯ ⋯) (@E7 _ _ _ _ _ _ rfl (@BL _ _ _ _ _ (@Aq _ _ 6 _ nd rfl Q4 ⋯) (@BL _ _ _ _ _ (@Aq _ _ 1 _ nd rfl G4 ⋯) Dd ⋯) ⋯) ⋯ ⋯) ⋯ ⋯ ⋯) (@AN _ _ _ _ _ (@E6 _ _ _ _ _ _ (@AO _ _ _ _ _ _ _ _ _ _ c04 hr IC (@AD _ _ _ _ _ (pv 1 rfl Dc AJ AK) AL ⋯) ET ⋯ ⋯) (@E7 _ _ _ _ _ _ rfl (@BL _ _ _ _ _ (@Aq _ _ 7 _ nd rfl Q3 ⋯) (@BL _ _ _ _ _ (@Aq _ _ 1 _ nd rfl G4 ⋯) Dd ⋯) ⋯) ⋯ ⋯) ⋯ ⋯ ⋯) (@AN _ _ _ _ _ (@Az _ _ 8 _ _ _ _ nd rfl MX (@Aw _ _ _ _ _ _ _ Am (@Xz _ _ _ _ _ _ _ e06 hr Ih OY) (@Ae _ _ _ _ _ _ _ _ Bp (pv 1 rfl Dc AJ AK) AM) (fun _ _=>rfl)) ⋯ ⋯) (@AN _ _ _ _ _ (@Az _ _ 9 _ _ _ _ nd rfl ZW (@AO _ _ _ _ _ _ _ _ _ _ e48 hr Kh (@AD _ _ _ _ _ (pv 0 rfl Jt Ao Ap) (@AD _ _ _ _ _ (pv 5 rfl Qk NB NC) AL ⋯) ⋯) TN ⋯ ⋯) ⋯ ⋯) (@AN _ _ _ _ _ (@Bt _ _ _ _ _ _ _ _ (@PW.pt _ _ _ (@P1 _ _ _ _ _ _ _ (@An _ _ _ _ _ _ _ _ (@CF _ (DM hr)) (pv 8 rfl ML Cr Cs) BD (A7 _)) (@MS _ _ _ _ (@An _ _ _ _ _ _ _ _ (@GI _ (DM hr)) (@KQ _ ["_law_row","_law_up_here"] 1 [9] _ _ _ _ _ _ _ _ _ _ rfl (@Ji _ ["_law_row","_law_up_here"] 1 [9] _ ["_law_rows","_law_big_here","_law_name","_law_holders","_law_row","_law_holder","_law_x","_law_y","_law_kind","_law_up_here","_law_shown","_law_data"] (AA BC) rfl rfl ∅) (@FF _ _ _ _ (pv 0 rfl Jt Ao Ap)) (fun cl fp s3 H3=>(@Aq _ _ 0 _ Y9 rfl (DR ∅) (Or.inr (DV ∅)))) (fun cl fp s3 H3=>(@MT _ _ _ (@PW.pt _ _ _ (@P1 _ _ _ _ _ _ _ (@An _ _ _ _ _ _ _ _ (@Nt _ (RB hr)) (@Aw _ _ _ _ _ _ _ Am (pv 0 rfl (Bz ∅) A8 A9) AM (fun _ _=>rfl)) (pv 1 rfl (Eo ∅) C4 C6) (by with_unfolding_all rfl)) (@MS _ _ _ _ (@An _ _ _ _ _ _ _ _ (@CF _ (DM hr)) (@Aw _ _ _ _ _ _ _ Am (pv 0 rfl (Bz ∅) A8 A9) AM (fun _ _=>rfl)) BD (A7 _))))))) (fun cl fp s3 H3=>(pv 0 rfl (Bz ∅) A8 A9)) ⋯) (@Jf _ _ _ _ AL) (A7 _))))) (@AV _ _ _ (@Az _ _ 8 _ _ _ _ nd rfl MX BD ⋯ ⋯)) Ay) (@AN _ _ _ _ _ (@Az _ _ 10 _ _ _ _ nd rfl PX (@Ej _ _ _ _ _ _ _ _ X1 (@Ae _ _ _ _ _ _ _ _ Bp (@Ae _ _ _ _ _ _ _ _ BM (pv 1 rfl Dc AJ AK) AM) AM) AM (A7 _)) ⋯ ⋯) (@AN _ _ _ _ _ (@E6 _ _ _ _ _ _ (@AO _ _ _ _ _ _ _ _ _ _ c96 hr MA (@AD _ _ _ _ _ (pv 8 rfl ML Cr Cs) (@AD _ _ _ _ _ (@Ae _ _ _ _ _ _ _ _ BM (pv 1 rfl Dc AJ AK) AM) AL ⋯) ⋯) MG ⋯ ⋯) (@E7 _ _ _ _ _ _ rfl (@BL _ _ _ _ _ (@Aq _ _ 11 _ nd rfl PV ⋯) (@BL _ _ _ _ _ (@Aq _ _ 1 _ nd rfl G4 ⋯) Dd ⋯) ⋯) ⋯ ⋯) ⋯ ⋯ ⋯) (@AV _ _ _ (@Ac _ _ _ _ (@BH _ _ _ _ _ (@AD _ _ _ _ _ (@BH _ _ _ _ _ (@AD _ _ _ _ _ (pv 2 rfl Yk BA BB) (@AD _ _ _ _ _ (pv 5 rfl Qk NB NC) (@AD _ _ _ _ _ (pv 6 rfl Yj Vk V4) (@AD _ _ _ _ _ (pv 7 rfl Yi Vj V3) (@AD _ _ _ _ _ (pv 10 rfl WS Vm V6) (@AD _ _ _ _ _ (pv 8 rfl ML Cr Cs) (@AD _ _ _ _ _ (pv 11 rfl WR Hg Hj) AL ⋯) ⋯) ⋯) ⋯) ⋯) ⋯) ⋯)) (@AD _ _ _ _ _ (pv 1 rfl Dc AJ AK) AL ⋯) ⋯))))))))))))))))),A2 (N:=["_law_rows","_law_big_here","_law_name","_law_holders","_law_row","_law_holder","_law_x","_law_y","_law_kind","_law_up_here","_law_shown","_law_data"]) (np:=2) (nl:=10) (Ab (BJ (AY (AF AH AS)) (Ha (Bk Aa (Bk Aa FA)) (BN (BN Dh)))) (Ab (jt (Va (AF Bo AS))) (Ab (MJ (FG AH) Aa (Cy (Ua (Au (AX Rm (AX BF AH AQ) (RN (AY AS) (Rl AQ) Lv))) (Au (AX oR (C8 GL (AF (AY (AF AH (AF (AX BF AH AQ) AS))) AS)) AQ))) (JF (XS (i:=3) HZ (AF (AX BF AH AQ) AS))) Bw)) (Ab (BJ (bo (i:=3) (AX Uo AH (AX CN AH (C8 GL (AF AH AS))))) Aa) (Ab (Cy (lS (i:=3) (Au (AX FQ (AX CN (AX Cm AH (C8 GL (AF AH AS))) AQ) AQ))) (BJ (bo (i:=3) (AX Uo AH (gs Xt AQ))) Aa) Bw) (Ab (BJ (bo (i:=3) (AX Cm (AX Cm AH (C8 GL (AF AH AS))) AQ)) Aa) (Ab (BJ (AY (AF AH AS)) (Ha (Bk Aa (Bk Aa FA)) (BN (BN Dh)))) (Ab (BJ (AY (AF AH AS)) (Ha (Bk Aa (Bk Aa FA)) (BN (BN Dh)))) (Ab (BJ (AX BF (AY AS) (AX CN AH AQ)) Aa) (Ab (BJ (AY (AF AH (AF AH AS))) Aa) (Ab (Cy (Ua (Au (AX FQ AH Bo)) (Au (AX NF (O1 (FG AH) Aa (Ua (Au (AX Rm (AX BF AH AQ) AH)) (Au (AX FQ (AX BF AH AQ) Bo))) AH) (Va AS)))) (BJ Bo Aa) Bw) (Ab (BJ (AX gR (AX CN (AX Cm AH AQ) AQ) AQ) Aa) (Ab (BJ (AY (AF AH (AF (AX Cm AH AQ) AS))) (Ha (Bk Aa (Bk Aa FA)) (BN (BN Dh)))) (As (Bq (AF (Bq (AF AH (AF AH (AF AH (AF AH (AF AH (AF AH (AF AH AS)))))))) (AF AH AS))) (by decide))))))))))))))) rfl h⟩
theorem Wg(F:Fun K "_law_scene_of" "_law_scene_of" BZ f fd)(d01:Cal P w K mg base 5 "_law_row_of" ["_law_rows","_law_big_here"] (spD ⟨K,w⟩ Ee false))(d00:Cal P w K mg base 5 "_law_big" ["_law_script","_law_at"] (spD ⟨K,w⟩ Fq false))(z_range:mg "range"=none):FnOk P w K mg base CX0 6 f fd ["_law_script","_law_first","_law_many_here"] (spD ⟨K,w⟩ Fp true):=by
 have nd:=sc_L_scene_of.nd
 refine F.ok sc_L_scene_of (fun vs H Q E h=>A3 Ad h) (fun cdv A outer s H vs Q E hr h=>?_)
 exact⟨_,(@AN _ _ _ _ _ (@Az _ _ 3 _ _ _ _ nd rfl N5 (@Jf _ _ _ _ AL) ⋯ ⋯) (@AN _ _ _ _ _ (@IL _ _ _ _ _ _ _ _ PassesOwn.never rfl (@Gy _ _ _ _ _ _ QQ z_range (@AD _ _ _ _ _ (pv 2 rfl UT Kn Ks) AL ⋯) ⋯) (@Aq _ _ 4 _ nd rfl N4 ⋯) (@AN _ _ _ _ _ (@E6 _ _ _ _ _ _ (@AO _ _ _ _ _ _ _ _ _ _ d01 hr Lc (@AD _ _ _ _ _ (pv 3 rfl IJ Ao Ap) (@AD _ _ _ _ _ (@AO _ _ _ _ _ _ _ _ _ _ d00 hr NT (@AD _ _ _ _ _ (pv 0 rfl UW CO CP) (@AD _ _ _ _ _ (@Ae _ _ _ _ _ _ _ _ E9 (pv 1 rfl UU Kp Ku) (pv 4 rfl US Eg Ei)) AL ⋯) ⋯) J5 ⋯ ⋯) AL ⋯) ⋯) NA ⋯ ⋯) (@E7 _ _ _ _ _ _ rfl (@BL _ _ _ _ _ (@Aq _ _ 5 _ nd rfl N3 ⋯) (@BL _ _ _ _ _ (@Aq _ _ 6 _ nd rfl U5 ⋯) Dd ⋯) ⋯) ⋯ ⋯) ⋯ ⋯ ⋯) (@AV _ _ _ (@Bt _ _ _ _ _ _ _ _ (@An _ _ _ _ _ _ _ _ (@Lu _ (RB hr)) (@Aw _ _ _ _ _ _ _ Am (pv 5 rfl Nh A8 A9) AM (fun _ _=>rfl)) (@KQ _ ["_law_one"] 1 [] _ _ _ _ _ _ _ _ _ _ rfl (@Ji _ ["_law_one"] 1 [] _ ["_law_script","_law_first","_law_many_here","_law_rows","_law_k","_law_row","_law_big_here"] (AA BZ) rfl rfl ∅) (@FF _ _ _ _ (pv 3 rfl IJ Ao Ap)) (fun cl fp s3 H3=>(@Aq _ _ 0 _ Us rfl (DR ∅) (Or.inr (DV ∅)))) (fun cl fp s3 H3=>Ju) (fun cl fp s3 H3=>(@Aw _ _ _ _ _ _ _ Am (pv 0 rfl (Bz ∅) Dj Dk) AM (fun _ _=>rfl))) ⋯) (by with_unfolding_all rfl)) (@AV _ _ _ (@Gv _ _ _ _ (@Nq _ _ _ _ _ _ _ _ _ _ _ _ PySem.F.plainAttrs_list PySem.F.slot_list_append PySem.F.type_list_append FR (pv 3 rfl IJ Ao Ap) (@AD _ _ _ _ _ (pv 5 rfl Nh A8 A9) AL ⋯) ⋯ ⋯ ⋯ ⋯ ⋯) ⋯)) Ay))) ⋯) (@AV _ _ _ (@Ac _ _ _ _ (pv 3 rfl IJ Ao Ap))))),A2 (N:=["_law_script","_law_first","_law_many_here","_law_rows","_law_k","_law_row","_law_big_here"]) (np:=3) (nl:=4) (Ab cJ (Ab (MJ (HE (AF AH AS)) Aa (Ab (BJ (bo (i:=3) (AY (AF AH (AF (J0 (i:=0) (AF (AX HX AH AH) AS)) AS)))) (Ha (Bk Aa (Bk Aa FA)) (BN (BN Dh)))) (Cy (lS (i:=3) (Au (AX Rm (AX BF AH AQ) (O1 (FG AH) Aa Ql (AX BF AH AQ))))) (JF (XS (i:=3) HZ (AF AH AS))) Bw))) (Z8 (i:=3)))) rfl h⟩
theorem dM(F:Fun K "_law_backs" "_law_backs" CD f fd)(c04:Cal P w K mg base 4 "_law_step_of" ["_law_big_here"] (spD ⟨K,w⟩ B8 false))(c96:Cal P w K mg base 4 "_law_data_of" ["_law_kind","_law_big_here"] (spD ⟨K,w⟩ Bm false))(z_int:mg "int"=none):FnOk P w K mg base CX0 5 f fd ["_law_row","_law_big_here"] (spD ⟨K,w⟩ JB true):=by
 have nd:=sc_L_backs.nd
 refine F.ok sc_L_backs (fun vs H Q E h=>A3 Ad h) (fun cdv A outer s H vs Q E hr h=>?_)
 exact⟨_,(@AN _ _ _ _ _ (@Az _ _ 2 _ _ _ _ nd rfl TC (@Aw _ _ _ _ _ _ _ Am (pv 0 rfl Dq A8 A9) AM (fun _ _=>rfl)) ⋯ ⋯) (@AN _ _ _ _ _ (@E6 _ _ _ _ _ _ (@AO _ _ _ _ _ _ _ _ _ _ c04 hr IV (@AD _ _ _ _ _ (pv 1 rfl GQ AJ AK) AL ⋯) ET ⋯ ⋯) (@E7 _ _ _ _ _ _ rfl (@BL _ _ _ _ _ (@Aq _ _ 3 _ nd rfl TB ⋯) (@BL _ _ _ _ _ (@Aq _ _ 1 _ nd rfl N9 ⋯) Dd ⋯) ⋯) ⋯ ⋯) ⋯ ⋯ ⋯) (@AN _ _ _ _ _ (@E6 _ _ _ _ _ _ (@AO _ _ _ _ _ _ _ _ _ _ c04 hr IV (@AD _ _ _ _ _ (pv 1 rfl GQ AJ AK) AL ⋯) ET ⋯ ⋯) (@E7 _ _ _ _ _ _ rfl (@BL _ _ _ _ _ (@Aq _ _ 4 _ nd rfl S9 ⋯) (@BL _ _ _ _ _ (@Aq _ _ 1 _ nd rfl N9 ⋯) Dd ⋯) ⋯) ⋯ ⋯) ⋯ ⋯ ⋯) (@AN _ _ _ _ _ (@Az _ _ 5 _ _ _ _ nd rfl S8 (@BH _ _ _ _ _ (@AD _ _ _ _ _ BD (@AD _ _ _ _ _ BD AL ⋯) ⋯)) ⋯ ⋯) (@AN _ _ _ _ _ (@Az _ _ 6 _ _ _ _ nd rfl S7 (@Jf _ _ _ _ (@AD _ _ _ _ _ (@BH _ _ _ _ _ (@AD _ _ _ _ _ (@BH _ _ _ _ _ (@AD _ _ _ _ _ BD (@AD _ _ _ _ _ (pv 2 rfl EK BA BB) (@AD _ _ _ _ _ (pv 3 rfl aL Vk V4) (@AD _ _ _ _ _ (pv 4 rfl aK Vj V3) AL ⋯) ⋯) ⋯) ⋯)) (@AD _ _ _ _ _ (@BH _ _ _ _ _ (@AD _ _ _ _ _ BD (@AD _ _ _ _ _ (pv 2 rfl EK BA BB) (@AD _ _ _ _ _ (@Aw _ _ _ _ _ _ _ Am (pv 0 rfl Dq A8 A9) AM (fun _ _=>rfl)) (@AD _ _ _ _ _ (@Aw _ _ _ _ _ _ _ Am (pv 0 rfl Dq A8 A9) AM (fun _ _=>rfl)) AL ⋯) ⋯) ⋯) ⋯)) AL ⋯) ⋯)) AL ⋯)) ⋯ ⋯) (@AN _ _ _ _ _ (@Gv _ _ _ _ (@Nq _ _ _ _ _ _ _ _ _ _ _ _ PySem.F.plainAttrs_list PySem.F.slot_list_append PySem.F.type_list_append FR (pv 6 rfl JM Gi Gk) (@AD _ _ _ _ _ (@BH _ _ _ _ _ (@AD _ _ _ _ _ (@BH _ _ _ _ _ (@AD _ _ _ _ _ (@Aw _ _ _ _ _ _ _ Am (pv 5 rfl Sm OX Ob) (@Hy _ _ _ _ _ _ _ _ _ YM Pe z_int PySem.Pv.boot_int (@AD _ _ _ _ _ (@ij _ _ _ _ (@Aw _ _ _ _ _ _ _ Am (pv 0 rfl Dq A8 A9) AM (fun _ _=>rfl))) AL ⋯) ZA Zw ⋯ ⋯) (fun _ _=>rfl)) (@AD _ _ _ _ _ (pv 2 rfl EK BA BB) AL ⋯) ⋯)) (@AD _ _ _ _ _ (@BH _ _ _ _ _ (@AD _ _ _ _ _ (@Aw _ _ _ _ _ _ _ Am (pv 5 rfl Sm OX Ob) (@Hy _ _ _ _ _ _ _ _ _ YM Pe z_int PySem.Pv.boot_int (@AD _ _ _ _ _ (@Aw _ _ _ _ _ _ _ Am (pv 0 rfl Dq A8 A9) AM (fun _ _=>rfl)) AL ⋯) ZA Zw ⋯ ⋯) (fun _ _=>rfl)) (@AD _ _ _ _ _ (pv 2 rfl EK BA BB) AL ⋯) ⋯)) AL ⋯) ⋯)) AL ⋯) ⋯ ⋯ ⋯ ⋯ ⋯) ⋯) (@AN _ _ _ _ _ (@Gv _ _ _ _ (@Nq _ _ _ _ _ _ _ _ _ _ _ _ PySem.F.plainAttrs_list PySem.F.slot_list_append PySem.F.type_list_append FR (pv 6 rfl JM Gi Gk) (@AD _ _ _ _ _ (@BH _ _ _ _ _ (@AD _ _ _ _ _ (@BH _ _ _ _ _ (@AD _ _ _ _ _ BD (@AD _ _ _ _ _ (pv 2 rfl EK BA BB) (@AD _ _ _ _ _ (@Aw _ _ _ _ _ _ _ Am (@AO _ _ _ _ _ _ _ _ _ _ c96 hr Mj (@AD _ _ _ _ _ (@Aw _ _ _ _ _ _ _ Am (pv 0 rfl Dq A8 A9) AM (fun _ _=>rfl)) (@AD _ _ _ _ _ (@Ae _ _ _ _ _ _ _ _ BM (pv 1 rfl GQ AJ AK) AM) AL ⋯) ⋯) MG ⋯ ⋯) AM (fun _ _=>rfl)) AL ⋯) ⋯) ⋯)) (@AD _ _ _ _ _ (@BH _ _ _ _ _ (@AD _ _ _ _ _ BD (@AD _ _ _ _ _ (pv 2 rfl EK BA BB) (@AD _ _ _ _ _ (@Aw _ _ _ _ _ _ _ Am (pv 0 rfl Dq A8 A9) AM (fun _ _=>rfl)) AL ⋯) ⋯) ⋯)) AL ⋯) ⋯)) AL ⋯) ⋯ ⋯ ⋯ ⋯ ⋯) ⋯) (@AN _ _ _ _ _ (@Bt _ _ _ _ _ _ _ _ (@An _ _ _ _ _ _ _ _ (@CF _ (DM hr)) (@Aw _ _ _ _ _ _ _ Am (pv 0 rfl Dq A8 A9) AM (fun _ _=>rfl)) BD (A7 _)) (@AV _ _ _ (@Gv _ _ _ _ (@Nq _ _ _ _ _ _ _ _ _ _ _ _ PySem.F.plainAttrs_list PySem.F.slot_list_append PySem.F.type_list_append FR (pv 6 rfl JM Gi Gk) (@AD _ _ _ _ _ (@BH _ _ _ _ _ (@AD _ _ _ _ _ (@BH _ _ _ _ _ (@AD _ _ _ _ _ BD (@AD _ _ _ _ _ (pv 2 rfl EK BA BB) (@AD _ _ _ _ _ (@Ae _ _ _ _ _ _ _ _ Nr (@Ae _ _ _ _ _ _ _ _ Bp (pv 1 rfl GQ AJ AK) AM) AM) AL ⋯) ⋯) ⋯)) (@AD _ _ _ _ _ (@BH _ _ _ _ _ (@AD _ _ _ _ _ BD (@AD _ _ _ _ _ (pv 2 rfl EK BA BB) (@AD _ _ _ _ _ (@Ae _ _ _ _ _ _ _ _ Nr AM (@Ae _ _ _ _ _ _ _ _ Bp (pv 1 rfl GQ AJ AK) AM)) AL ⋯) ⋯) ⋯)) AL ⋯) ⋯)) AL ⋯) ⋯ ⋯ ⋯ ⋯ ⋯) ⋯)) Ay) (@AN _ _ _ _ _ (@Bt _ _ _ _ _ _ _ _ (@An _ _ _ _ _ _ _ _ (@Nt _ (RB hr)) (@Aw _ _ _ _ _ _ _ Am (pv 0 rfl Dq A8 A9) AM (fun _ _=>rfl)) (@BH _ _ _ _ _ (@AD _ _ _ _ _ BD (@AD _ _ _ _ _ BD AL ⋯) ⋯)) (by with_unfolding_all rfl)) (@AV _ _ _ (@Gv _ _ _ _ (@Nq _ _ _ _ _ _ _ _ _ _ _ _ PySem.F.plainAttrs_list PySem.F.slot_list_append PySem.F.type_list_append FR (pv 6 rfl JM Gi Gk) (@AD _ _ _ _ _ (@BH _ _ _ _ _ (@AD _ _ _ _ _ (@BH _ _ _ _ _ (@AD _ _ _ _ _ BD (@AD _ _ _ _ _ (pv 2 rfl EK BA BB) (@AD _ _ _ _ _ (@Ae _ _ _ _ _ _ _ _ E9 AM (@Ae _ _ _ _ _ _ _ _ Bp (pv 1 rfl GQ AJ AK) AM)) (@AD _ _ _ _ _ (@Ae _ _ _ _ _ _ _ _ E9 AM (@Ae _ _ _ _ _ _ _ _ Bp (@Ae _ _ _ _ _ _ _ _ BM (pv 1 rfl GQ AJ AK) AM) AM)) AL ⋯) ⋯) ⋯) ⋯)) (@AD _ _ _ _ _ (@BH _ _ _ _ _ (@AD _ _ _ _ _ BD (@AD _ _ _ _ _ (pv 2 rfl EK BA BB) (@AD _ _ _ _ _ (@Aw _ _ _ _ _ _ _ Am (@Aw _ _ _ _ _ _ _ Am (pv 0 rfl Dq A8 A9) AM (fun _ _=>rfl)) AM (fun _ _=>rfl)) (@AD _ _ _ _ _ (@Aw _ _ _ _ _ _ _ Am (@Aw _ _ _ _ _ _ _ Am (pv 0 rfl Dq A8 A9) AM (fun _ _=>rfl)) AM (fun _ _=>rfl)) AL ⋯) ⋯) ⋯) ⋯)) AL ⋯) ⋯)) AL ⋯) ⋯ ⋯ ⋯ ⋯ ⋯) ⋯)) Ay) (@AV _ _ _ (@Ac _ _ _ _ (pv 6 rfl JM Gi Gk)))))))))))),A2 (N:=["_law_row","_law_big_here","_law_name","_law_x","_law_y","_law_words","_law_pairs"]) (np:=2) (nl:=5) (Ab (BJ (AX BF AH AQ) Aa) (Ab (BJ (AY (AF AH AS)) (Ha (Bk Aa (Bk Aa FA)) (BN (BN Dh)))) (Ab (BJ (AY (AF AH AS)) (Ha (Bk Aa (Bk Aa FA)) (BN (BN Dh)))) (Ab (BJ (Bq (AF Bo (AF Bo AS))) Aa) (Ab (jt (Va (AF (Bq (AF (Bq (AF Bo (AF AH (AF AH (AF AH AS))))) (AF (Bq (AF Bo (AF AH (AF (AX BF AH AQ) (AF (AX BF AH AQ) AS))))) AS))) AS))) (Ab (JF (XS (i:=6) HZ (AF (Bq (AF (Bq (AF (AX BF AH (C8 jm (AF (mP (AX BF AH AQ)) AS))) (AF AH AS))) (AF (Bq (AF (AX BF AH (C8 jm (AF (AX BF AH AQ) AS))) (AF AH AS))) AS))) AS))) (Ab (JF (XS (i:=6) HZ (AF (Bq (AF (Bq (AF Bo (AF AH (AF (AX BF (AY (AF (AX BF AH AQ) (AF (AX Cm AH AQ) AS))) AQ) AS)))) (AF (Bq (AF Bo (AF AH (AF (AX BF AH AQ) AS)))) AS))) AS))) (Ab (Cy (Au (AX FQ (AX BF AH AQ) Bo)) (JF (XS (i:=6) HZ (AF (Bq (AF (Bq (AF Bo (AF AH (AF (AX Sv (AX CN AH AQ) AQ) AS)))) (AF (Bq (AF Bo (AF AH (AF (AX Sv AQ (AX CN AH AQ)) AS)))) AS))) AS))) Bw) (Ab (Cy (Au (AX Rm (AX BF AH AQ) (Bq (AF Bo (AF Bo AS))))) (JF (XS (i:=6) HZ (AF (Bq (AF (Bq (AF Bo (AF AH (AF (AX HX AQ (AX CN AH AQ)) (AF (AX HX AQ (AX CN (AX Cm AH AQ) AQ)) AS))))) (AF (Bq (AF Bo (AF AH (AF (AX BF (AX BF AH AQ) AQ) (AF (AX BF (AX BF AH AQ) AQ) AS))))) AS))) AS))) Bw) (Z8 (i:=6))))))))))) rfl h⟩
theorem aU(F:Fun K "row_name" "row_name" GS f fd):FnOk P w K mg base CX0 1 f fd ["row"] (spD ⟨K,w⟩ Be false):=by
 have nd:=sc_row_name.nd
 refine F.ok sc_row_name (fun vs H Q E h=>A3 Ad h) (fun cdv A outer s H vs Q E hr h=>?_)
 exact⟨_,(@AV _ _ _ (@Ac _ _ _ _ (@Aw _ _ _ _ _ _ _ Am (pv 0 rfl YX BO BP) AM (fun _ _=>rfl)))),A2 (N:=["row"]) (np:=1) (nl:=0) (As (AX BF AH AQ) (by decide)) rfl h⟩
theorem Yu(F:Fun K "row_found" "row_found" C0 f fd)(c02:Cal P w K mg base 1 "row_name" ["row"] (spD ⟨K,w⟩ Be false)):FnOk P w K mg base CX0 2 f fd ["rows","name"] (spD ⟨K,w⟩ Cb false):=by
 have nd:=sc_row_found.nd
 refine F.ok sc_row_found (fun vs H Q E h=>A3 Ad h) (fun cdv A outer s H vs Q E hr h=>?_)
 exact⟨_,(@AN _ _ _ _ _ (@IL _ _ _ _ _ _ _ _ PassesOwn.never rfl (@FF _ _ _ _ (pv 0 rfl WL Bu Bv)) (@Aq _ _ 2 _ nd rfl PQ ⋯) (@AV _ _ _ (@Bt _ _ _ _ _ _ _ _ (@An _ _ _ _ _ _ _ _ (@CF _ (DM hr)) (@AO _ _ _ _ _ _ _ _ _ _ c02 hr OE (@AD _ _ _ _ _ (pv 2 rfl O6 BO BP) AL ⋯) Ez ⋯ ⋯) (pv 1 rfl WK Ef Eh) (A7 _)) (@AV _ _ _ (@Ac _ _ _ _ (pv 2 rfl O6 BO BP))) Ay)) ⋯) (@AV _ _ _ (@Ac _ _ _ _ Uh))),A2 (N:=["rows","name","row"]) (np:=2) (nl:=1) (Ab (MJ (FG AH) Aa (Cy (Au (AX FQ (AY (AF AH AS)) AH)) (As AH (by decide)) Bw)) (As bj (by decide))) rfl h⟩
theorem gM(F:Fun K "row_of" "row_of" FJ f fd)(c07:Cal P w K mg base 2 "row_found" ["rows","name"] (spD ⟨K,w⟩ Cb false)):FnOk P w K mg base CX0 3 f fd ["rows","name"] (spD ⟨K,w⟩ Cn false):=by
 have nd:=sc_row_of.nd
 refine F.ok sc_row_of (fun vs H Q E h=>A3 Ad h) (fun cdv A outer s H vs Q E hr h=>?_)
 exact⟨_,(@AN _ _ _ _ _ (@Az _ _ 2 _ _ _ _ nd rfl Uv (@AO _ _ _ _ _ _ _ _ _ _ c07 hr QG (@AD _ _ _ _ _ (pv 0 rfl cV Bu Bv) (@AD _ _ _ _ _ (pv 1 rfl cU Ef Eh) AL ⋯) ⋯) Hd ⋯ ⋯) ⋯ ⋯) (@AN _ _ _ _ _ (@Bt _ _ _ _ _ _ _ _ (@An _ _ _ _ _ _ _ _ i0 (pv 2 rfl UJ BO BP) Uh (A7 _)) (@AV _ _ _ HW) Ay) (@AV _ _ _ (@Ac _ _ _ _ (pv 2 rfl UJ BO BP))))),A2 (N:=["rows","name","row"]) (np:=2) (nl:=1) (Ab (BJ (AY (AF AH (AF AH AS))) Aa) (Ab (Cy (Au (AX mH AH bj)) JJ Bw) (As AH (by decide)))) rfl h⟩
theorem Qt(F:Fun K "row_with_shown" "row_with_shown" CS f fd):FnOk P w K mg base CX0 1 f fd ["row","shown"] (spD ⟨K,w⟩ G9 false):=by
 have nd:=sc_row_with_shown.nd
 refine F.ok sc_row_with_shown (fun vs H Q E h=>A3 Ad h) (fun cdv A outer s H vs Q E hr h=>?_)
 exact⟨_,(@AV _ _ _ (@Ac _ _ _ _ (@Ae _ _ _ _ _ _ _ _ Jv (@Ae _ _ _ _ _ _ _ _ Jv (@FP _ _ _ _ _ _ _ _ _ _ MN (pv 0 rfl KG BO BP) Gx (@Gw _ _ _ AM)) (@BH _ _ _ _ _ (@AD _ _ _ _ _ (pv 1 rfl Pr gw hU) AL ⋯))) (@FP _ _ _ _ _ _ _ _ _ _ MN (pv 0 rfl KG BO BP) (@Gw _ _ _ AM) Gx)))),A2 (N:=["row","shown"]) (np:=2) (nl:=0) (As (AX MW (AX MW (RN AH Lv (Rl AQ)) (Bq (AF AH AS))) (RN AH (Rl AQ) Lv)) (by decide)) rfl h⟩
theorem Qu(F:Fun K "row_with_place" "row_with_place" B3 f fd):FnOk P w K mg base CX0 1 f fd ["row","x","y"] (spD ⟨K,w⟩ HA false):=by
 have nd:=sc_row_with_place.nd
 refine F.ok sc_row_with_place (fun vs H Q E h=>A3 Ad h) (fun cdv A outer s H vs Q E hr h=>?_)
 exact⟨_,(@AV _ _ _ (@Ac _ _ _ _ (@Ae _ _ _ _ _ _ _ _ Jv (@Ae _ _ _ _ _ _ _ _ Jv (@FP _ _ _ _ _ _ _ _ _ _ MN (pv 0 rfl KI BO BP) Gx (@Gw _ _ _ AM)) (@BH _ _ _ _ _ (@AD _ _ _ _ _ (pv 1 rfl Pw pH pM) (@AD _ _ _ _ _ (pv 2 rfl Pu pG pL) AL ⋯) ⋯))) (@FP _ _ _ _ _ _ _ _ _ _ MN (pv 0 rfl KI BO BP) (@Gw _ _ _ AM) Gx)))),A2 (N:=["row","x","y"]) (np:=3) (nl:=0) (As (AX MW (AX MW (RN AH Lv (Rl AQ)) (Bq (AF AH (AF AH AS)))) (RN AH (Rl AQ) Lv)) (by decide)) rfl h⟩
theorem aX(F:Fun K "row_data" "row_data" GV f fd):FnOk P w K mg base CX0 1 f fd ["row"] (spD ⟨K,w⟩ GX false):=by
 have nd:=sc_row_data.nd
 refine F.ok sc_row_data (fun vs H Q E h=>A3 Ad h) (fun cdv A outer s H vs Q E hr h=>?_)
 exact⟨_,(@AV _ _ _ (@Ac _ _ _ _ (@Aw _ _ _ _ _ _ _ Am (pv 0 rfl YZ BO BP) AM (fun _ _=>rfl)))),A2 (N:=["row"]) (np:=1) (nl:=0) (As (AX BF AH AQ) (by decide)) rfl h⟩
theorem Rk(F:Fun K "row_with_data" "row_with_data" Cd f fd):FnOk P w K mg base CX0 1 f fd ["row","data"] (spD ⟨K,w⟩ Cu false):=by
 have nd:=sc_row_with_data.nd
 refine F.ok sc_row_with_data (fun vs H Q E h=>A3 Ad h) (fun cdv A outer s H vs Q E hr h=>?_)
 exact⟨_,(@AV _ _ _ (@Ac _ _ _ _ (@Ae _ _ _ _ _ _ _ _ Jv (@FP _ _ _ _ _ _ _ _ _ _ MN (pv 0 rfl Qe BO BP) Gx (@Gw _ _ _ AM)) (@BH _ _ _ _ _ (@AD _ _ _ _ _ (pv 1 rfl Qd Ba Bb) AL ⋯))))),A2 (N:=["row","data"]) (np:=2) (nl:=0) (As (AX MW (RN AH Lv (Rl AQ)) (Bq (AF AH AS))) (by decide)) rfl h⟩
theorem aV(F:Fun K "row_kind" "row_kind" GU f fd):FnOk P w K mg base CX0 1 f fd ["row"] (spD ⟨K,w⟩ CK false):=by
 have nd:=sc_row_kind.nd
 refine F.ok sc_row_kind (fun vs H Q E h=>A3 Ad h) (fun cdv A outer s H vs Q E hr h=>?_)
 exact⟨_,(@AV _ _ _ (@Ac _ _ _ _ (@Aw _ _ _ _ _ _ _ Am (pv 0 rfl YY BO BP) AM (fun _ _=>rfl)))),A2 (N:=["row"]) (np:=1) (nl:=0) (As (AX BF AH AQ) (by decide)) rfl h⟩
theorem WZ(F:Fun K "row_turned" "row_turned" CI f fd)(c03:Cal P w K mg base 1 "row_kind" ["row"] (spD ⟨K,w⟩ CK false))(c81:Cal P w K mg base 1 "row_data" ["row"] (spD ⟨K,w⟩ GX false))(c05:Cal P w K mg base 1 "row_with_data" ["row","data"] (spD ⟨K,w⟩ Cu false)):FnOk P w K mg base CX0 2 f fd ["row","quarters"] (spD ⟨K,w⟩ HB false):=by
 have nd:=sc_row_turned.nd
 refine F.ok sc_row_turned (fun vs H Q E h=>A3 Ad h) (fun cdv A outer s H vs Q E hr h=>?_)
 exact⟨_,(@AN _ _ _ _ _ (@Bt _ _ _ _ _ _ _ _ (@An _ _ _ _ _ _ _ _ (@GI _ (DM hr)) (@AO _ _ _ _ _ _ _ _ _ _ c03 hr NJ (@AD _ _ _ _ _ (pv 0 rfl KJ BO BP) AL ⋯) HG ⋯ ⋯) BD (A7 _)) (@AV _ _ _ HW) Ay) (@AN _ _ _ _ _ (@Az _ _ 2 _ _ _ _ nd rfl Ny (@AO _ _ _ _ _ _ _ _ _ _ c81 hr NK (@AD _ _ _ _ _ (pv 0 rfl KJ BO BP) AL ⋯) Mn ⋯ ⋯) ⋯ ⋯) (@AV _ _ _ (@Ac _ _ _ _ (@AO _ _ _ _ _ _ _ _ _ _ c05 hr Kc (@AD _ _ _ _ _ (pv 0 rfl KJ BO BP) (@AD _ _ _ _ _ (@BH _ _ _ _ _ (@AD _ _ _ _ _ (@Ae _ _ _ _ _ _ _ _ Bp (@Ae _ _ _ _ _ _ _ _ E9 (@Aw _ _ _ _ _ _ _ Am (pv 2 rfl NY Ba Bb) AM (fun _ _=>rfl)) (pv 1 rfl UI Zs Z2)) AM) (@AD _ _ _ _ _ (@Aw _ _ _ _ _ _ _ Am (pv 2 rfl NY Ba Bb) AM (fun _ _=>rfl)) AL ⋯) ⋯)) AL ⋯) ⋯) IY ⋯ ⋯))))),A2 (N:=["row","quarters","data"]) (np:=2) (nl:=1) (Ab (Cy (Au (AX NF (AY (AF AH AS)) Bo)) JJ Bw) (Ab (BJ (AY (AF AH AS)) Aa) (As (AY (AF AH (AF (Bq (AF (AX CN (AX HX (AX BF AH AQ) AH) AQ) (AF (AX BF AH AQ) AS))) AS))) (by decide)))) rfl h⟩
theorem Ys(F:Fun K "row_sized" "row_sized" CV f fd)(c03:Cal P w K mg base 1 "row_kind" ["row"] (spD ⟨K,w⟩ CK false))(c05:Cal P w K mg base 1 "row_with_data" ["row","data"] (spD ⟨K,w⟩ Cu false))(c81:Cal P w K mg base 1 "row_data" ["row"] (spD ⟨K,w⟩ GX false)):FnOk P w K mg base CX0 2 f fd ["row","w","h"] (spD ⟨K,w⟩ GW false):=by
 have nd:=sc_row_sized.nd
 refine F.ok sc_row_sized (fun vs H Q E h=>A3 Ad h) (fun cdv A outer s H vs Q E hr h=>?_)
 exact⟨_,(@AN _ _ _ _ _ (@Bt _ _ _ _ _ _ _ _ (@An _ _ _ _ _ _ _ _ (@Lu _ (RB hr)) (@AO _ _ _ _ _ _ _ _ _ _ c03 hr OC (@AD _ _ _ _ _ (pv 0 rfl LK BO BP) AL ⋯) HG ⋯ ⋯) (@BH _ _ _ _ _ (@AD _ _ _ _ _ BD (@AD _ _ _ _ _ BD AL ⋯) ⋯)) (by with_unfolding_all rfl)) (@AV _ _ _ HW) Ay) (@AV _ _ _ (@Ac _ _ _ _ (@AO _ _ _ _ _ _ _ _ _ _ c05 hr Kx (@AD _ _ _ _ _ (pv 0 rfl LK BO BP) (@AD _ _ _ _ _ (@Ae _ _ _ _ _ _ _ _ Jv (@BH _ _ _ _ _ (@AD _ _ _ _ _ (pv 1 rfl WI pI pN) (@AD _ _ _ _ _ (pv 2 rfl WH pJ pO) AL ⋯) ⋯)) (@FP _ _ _ _ _ _ _ _ _ _ MN (@AO _ _ _ _ _ _ _ _ _ _ c81 hr OD (@AD _ _ _ _ _ (pv 0 rfl LK BO BP) AL ⋯) Mn ⋯ ⋯) (@Gw _ _ _ AM) Gx)) AL ⋯) ⋯) IY ⋯ ⋯)))),A2 (N:=["row","w","h"]) (np:=3) (nl:=0) (Ab (Cy (Au (AX Rm (AY (AF AH AS)) (Bq (AF Bo (AF Bo AS))))) JJ Bw) (As (AY (AF AH (AF (AX MW (Bq (AF AH (AF AH AS))) (RN (AY (AF AH AS)) (Rl AQ) Lv)) AS))) (by decide))) rfl h⟩
theorem aW(F:Fun K "row_done" "row_done" CW f fd)(d85:Cal P w K mg base 2 "row_with_place" ["row","x","y"] (spD ⟨K,w⟩ HA false))(e17:Cal P w K mg base 2 "row_turned" ["row","quarters"] (spD ⟨K,w⟩ HB false))(e26:Cal P w K mg base 2 "row_sized" ["row","w","h"] (spD ⟨K,w⟩ GW false))(c05:Cal P w K mg base 2 "row_with_data" ["row","data"] (spD ⟨K,w⟩ Cu false))(d86:Cal P w K mg base 2 "row_with_shown" ["row","shown"] (spD ⟨K,w⟩ G9 false)):FnOk P w K mg base CX0 3 f fd ["row","deed"] (spD ⟨K,w⟩ Ec false):=by
 have nd:=sc_row_done.nd
 refine F.ok sc_row_done (fun vs H Q E h=>A3 Ad h) (fun cdv A outer s H vs Q E hr h=>?_)
 exact⟨_,(@AN _ _ _ _ _ (@Az _ _ 2 _ _ _ _ nd rfl Q0 (@Aw _ _ _ _ _ _ _ Am (pv 1 rfl Fg Dx Dy) AM (fun _ _=>rfl)) ⋯ ⋯) (@AN _ _ _ _ _ (@Bt _ _ _ _ _ _ _ _ (@An _ _ _ _ _ _ _ _ (@CF _ (DM hr)) (pv 2 rfl IE IX IZ) BD (A7 _)) (@AV _ _ _ (@Ac _ _ _ _ (@AO _ _ _ _ _ _ _ _ _ _ d85 hr Kz (@AD _ _ _ _ _ (pv 0 rfl IF BO BP) (@AD _ _ _ _ _ (@Aw _ _ _ _ _ _ _ Am (pv 1 rfl Fg Dx Dy) AM (fun _ _=>rfl)) (@AD _ _ _ _ _ (@Aw _ _ _ _ _ _ _ Am (pv 1 rfl Fg Dx Dy) AM (fun _ _=>rfl)) AL ⋯) ⋯) ⋯) QV ⋯ ⋯))) Ay) (@AN _ _ _ _ _ (@Bt _ _ _ _ _ _ _ _ (@An _ _ _ _ _ _ _ _ (@CF _ (DM hr)) (pv 2 rfl IE IX IZ) BD (A7 _)) (@AV _ _ _ (@Ac _ _ _ _ (@AO _ _ _ _ _ _ _ _ _ _ e17 hr NL (@AD _ _ _ _ _ (pv 0 rfl IF BO BP) (@AD _ _ _ _ _ (@Aw _ _ _ _ _ _ _ Am (pv 1 rfl Fg Dx Dy) AM (fun _ _=>rfl)) AL ⋯) ⋯) Vf ⋯ ⋯))) Ay) (@AN _ _ _ _ _ (@Bt _ _ _ _ _ _ _ _ (@An _ _ _ _ _ _ _ _ (@CF _ (DM hr)) (pv 2 rfl IE IX IZ) BD (A7 _)) (@AV _ _ _ (@Ac _ _ _ _ (@AO _ _ _ _ _ _ _ _ _ _ e26 hr OF (@AD _ _ _ _ _ (pv 0 rfl IF BO BP) (@AD _ _ _ _ _ (@Aw _ _ _ _ _ _ _ Am (pv 1 rfl Fg Dx Dy) AM (fun _ _=>rfl)) (@AD _ _ _ _ _ (@Aw _ _ _ _ _ _ _ Am (pv 1 rfl Fg Dx Dy) AM (fun _ _=>rfl)) AL ⋯) ⋯) ⋯) XW ⋯ ⋯))) Ay) (@AN _ _ _ _ _ (@Bt _ _ _ _ _ _ _ _ (@An _ _ _ _ _ _ _ _ (@CF _ (DM hr)) (pv 2 rfl IE IX IZ) BD (A7 _)) (@AV _ _ _ (@Ac _ _ _ _ (@AO _ _ _ _ _ _ _ _ _ _ c05 hr LY (@AD _ _ _ _ _ (pv 0 rfl IF BO BP) (@AD _ _ _ _ _ (@Aw _ _ _ _ _ _ _ Am (pv 1 rfl Fg Dx Dy) AM (fun _ _=>rfl)) AL ⋯) ⋯) IY ⋯ ⋯))) Ay) (@AV _ _ _ (@Ac _ _ _ _ (@AO _ _ _ _ _ _ _ _ _ _ d86 hr Ky (@AD _ _ _ _ _ (pv 0 rfl IF BO BP) (@AD _ _ _ _ _ (@Ej _ _ _ _ _ _ _ _ (@CF _ (DM hr)) (pv 2 rfl IE IX IZ) BD (A7 _)) AL ⋯) ⋯) QU ⋯ ⋯)))))))),A2 (N:=["row","deed","what"]) (np:=2) (nl:=1) (Ab (BJ (AX BF AH AQ) Aa) (Ab (Cy (Au (AX FQ AH Bo)) (As (AY (AF AH (AF (AX BF AH AQ) (AF (AX BF AH AQ) AS)))) (by decide)) Bw) (Ab (Cy (Au (AX FQ AH Bo)) (As (AY (AF AH (AF (AX BF AH AQ) AS))) (by decide)) Bw) (Ab (Cy (Au (AX FQ AH Bo)) (As (AY (AF AH (AF (AX BF AH AQ) (AF (AX BF AH AQ) AS)))) (by decide)) Bw) (Ab (Cy (Au (AX FQ AH Bo)) (As (AY (AF AH (AF (AX BF AH AQ) AS))) (by decide)) Bw) (As (AY (AF AH (AF (AX FQ AH Bo) AS))) (by decide))))))) rfl h⟩
theorem Wc(F:Fun K "is_text_of" "is_text_of" B5 f fd)(z_len:mg "len"=none)(z_str:mg "str"=none)(z_isinstance:mg "isinstance"=none)(z_all:mg "all"=none):FnOk P w K mg base CX0 1 f fd ["thing","signs","low","high"] (spD ⟨K,w⟩ DH false):=by
 have nd:=sc_is_text_of.nd
 refine F.ok sc_is_text_of (fun vs H Q E h=>A3 Ad h) (fun cdv A outer s H vs Q E hr h=>?_)
 exact⟨_,(@AN _ _ _ _ _ (@Bt _ _ _ _ _ _ _ _ (@PW.pt _ _ _ (@JO _ _ _ _ _ _ _ (@Du _ _ _ _ (@EE _ _ _ (@BE _ _ _ _ _ _ _ _ _ EY L6 z_isinstance PyProof.Rows.boot_isinstance (@AD _ _ _ _ _ (pv 0 rfl KL BV BW) (@AD _ _ _ _ _ (Ls SD z_str PySem.Pv.boot_str UB UG) AL ⋯) ⋯) CG CH ⋯ ⋯) ⋯)) (@Hl _ _ _ _ (@Du _ _ _ _ (@aP _ _ _ _ _ _ _ _ _ _ _ _ Qs Qs (pv 2 rfl UN fS fX) (@BE _ _ _ _ _ _ _ _ _ CQ SE z_len PySem.boot_len (@AD _ _ _ _ _ (pv 0 rfl KL BV BW) AL ⋯) Ct Cv ⋯ ⋯) (pv 3 rfl UM bw cE) ⋯))))) (@AV _ _ _ (@Ac _ _ _ _ HI)) Ay) (@AV _ _ _ (@Ac _ _ _ _ (@BE _ _ _ _ _ _ _ _ _ (@Oj _ rfl) SF z_all PyProof.Rows.boot_all (@AD _ _ _ _ _ (@KQ _ ["sign","signs"] 1 [1] _ _ _ _ _ _ _ _ _ _ rfl (@Ji _ ["sign","signs"] 1 [1] _ ["thing","signs","low","high"] (AA B5) rfl rfl ∅) (@ie _ _ _ _ (pv 0 rfl KL BV BW)) (fun cl fp s3 H3=>(@Aq _ _ 0 _ Ur rfl (DR ∅) (Or.inr (DV ∅)))) (fun cl fp s3 H3=>Ju) (fun cl fp s3 H3=>(@Ej _ _ _ _ _ _ _ _ (@gL _) (pv 0 rfl (Bz ∅) Ve V0) (pv 1 rfl (Eo ∅) gu hJ) (by with_unfolding_all rfl))) ⋯) AL ⋯) UC UH ⋯ ⋯)))),A2 (N:=["thing","signs","low","high"]) (np:=4) (nl:=0) (Ab (Cy (Nl (Fc (Ft (ME (T:="str") AH))) (Fc (Au (UE Y6 Y6 AH (C8 GL (AF AH AS)) AH)))) (As K3 (by decide)) Bw) (As (C8 Z6 (AF (O1 (jS AH) Aa Ql (AX oS AH AH)) AS)) (by decide))) rfl h⟩
theorem dE(F:Fun K "is_name" "is_name" GB f fd)(c92:Cal P w K mg base 1 "is_text_of" ["thing","signs","low","high"] (spD ⟨K,w⟩ DH false)){uv_NAME_SIGNS:Value}(kc_NAME_SIGNS:mg "NAME_SIGNS"=some uv_NAME_SIGNS)(kt_NAME_SIGNS:EC ⟨K,w⟩ (.str "abcdefghijklmnopqrstuvwxyz0123456789") uv_NAME_SIGNS=true):FnOk P w K mg base CX0 2 f fd ["thing"] (spD ⟨K,w⟩ GD false):=by
 have nd:=sc_is_name.nd
 obtain⟨cv_NAME_SIGNS,rv_NAME_SIGNS,iv_NAME_SIGNS⟩:=Vz kt_NAME_SIGNS
 refine F.ok sc_is_name (fun vs H Q E h=>A3 Ad h) (fun cdv A outer s H vs Q E hr h=>?_)
 exact⟨_,(@AV _ _ _ (@Ac _ _ _ _ (@AO _ _ _ _ _ _ _ _ _ _ c92 hr OI (@AD _ _ _ _ _ (pv 0 rfl aE BV BW) (@AD _ _ _ _ _ (@MU _ _ cv_NAME_SIGNS _ _ OJ kc_NAME_SIGNS rv_NAME_SIGNS Vt) (@AD _ _ _ _ _ AM (@AD _ _ _ _ _ AM AL ⋯) ⋯) ⋯) ⋯) OU ⋯ ⋯))),A2 (N:=["thing"]) (np:=1) (nl:=0) (As (AY (AF AH (AF (e_c iv_NAME_SIGNS) (AF AQ (AF AQ AS))))) (by decide)) rfl h⟩
theorem aa(F:Fun K "is_truth" "is_truth" E4 f fd)(z_bool:mg "bool"=none)(z_isinstance:mg "isinstance"=none):FnOk P w K mg base CX0 1 f fd ["thing"] (spD ⟨K,w⟩ Iw false):=by
 have nd:=sc_is_truth.nd
 refine F.ok sc_is_truth (fun vs H Q E h=>A3 Ad h) (fun cdv A outer s H vs Q E hr h=>?_)
 exact⟨_,(@AV _ _ _ (@Ac _ _ _ _ (@BE _ _ _ _ _ _ _ _ _ EY NO z_isinstance PyProof.Rows.boot_isinstance (@AD _ _ _ _ _ (pv 0 rfl Yb BV BW) (@AD _ _ _ _ _ (Ls Tw z_bool PySem.Pv.boot_bool Qw RQ) AL ⋯) ⋯) CG CH ⋯ ⋯))),A2 (N:=["thing"]) (np:=1) (nl:=0) (As (ME (T:="bool") AH) (by decide)) rfl h⟩
theorem aZ(F:Fun K "is_whole" "is_whole" EZ f fd)(z_bool:mg "bool"=none)(z_isinstance:mg "isinstance"=none)(z_int:mg "int"=none):FnOk P w K mg base CX0 1 f fd ["thing"] (spD ⟨K,w⟩ GZ false):=by
 have nd:=sc_is_whole.nd
 refine F.ok sc_is_whole (fun vs H Q E h=>A3 Ad h) (fun cdv A outer s H vs Q E hr h=>?_)
 exact⟨_,(@AV _ _ _ (@Ac _ _ _ _ (@E8 _ _ _ _ _ _ _ (@BE _ _ _ _ _ _ _ _ _ EY Ig z_isinstance PyProof.Rows.boot_isinstance (@AD _ _ _ _ _ (pv 0 rfl Qh BV BW) (@AD _ _ _ _ _ (Ls VJ z_int PySem.Pv.boot_int ZA Zw) AL ⋯) ⋯) CG CH ⋯ ⋯) (@Hm _ _ _ _ _ (@ij _ _ _ _ (@BE _ _ _ _ _ _ _ _ _ EY Ig z_isinstance PyProof.Rows.boot_isinstance (@AD _ _ _ _ _ (pv 0 rfl Qh BV BW) (@AD _ _ _ _ _ (Ls Tv z_bool PySem.Pv.boot_bool Qw RQ) AL ⋯) ⋯) CG CH ⋯ ⋯)))))),A2 (N:=["thing"]) (np:=1) (nl:=0) (As (Hc (ME (T:="int") AH) (mP (ME (T:="bool") AH))) (by decide)) rfl h⟩
theorem Yv(F:Fun K "is_within" "is_within" C3 f fd)(c90:Cal P w K mg base 1 "is_whole" ["thing"] (spD ⟨K,w⟩ GZ false)):FnOk P w K mg base CX0 2 f fd ["thing","low","high"] (spD ⟨K,w⟩ Bg false):=by
 have nd:=sc_is_within.nd
 refine F.ok sc_is_within (fun vs H Q E h=>A3 Ad h) (fun cdv A outer s H vs Q E hr h=>?_)
 exact⟨_,(@AV _ _ _ (@Ac _ _ _ _ (@E8 _ _ _ _ _ _ _ (@AO _ _ _ _ _ _ _ _ _ _ c90 hr OG (@AD _ _ _ _ _ (pv 0 rfl O7 BV BW) AL ⋯) Mo ⋯ ⋯) (@Hm _ _ _ _ _ (@aR _ _ _ _ _ _ _ _ _ _ _ _ Qs Qs (pv 1 rfl WN fS fX) (pv 0 rfl O7 BV BW) (pv 2 rfl WM bw cE) ⋯))))),A2 (N:=["thing","low","high"]) (np:=3) (nl:=0) (As (Hc (AY (AF AH AS)) (UE Y6 Y6 AH AH AH)) (by decide)) rfl h⟩
theorem Qv(F:Fun K "common_divisor" "common_divisor" BS f fd)(z_abs:mg "abs"=none):FnOk P w K mg base CX0 1 f fd ["one","other"] (spD ⟨K,w⟩ DY false):=by
 have nd:=sc_common_divisor.nd
 refine F.ok sc_common_divisor (fun vs H Q E h=>A3 Ad h) (fun cdv A outer s H vs Q E hr h=>?_)
 exact⟨_,(@AN _ _ _ _ _ (@Az _ _ 2 _ _ _ _ nd rfl Ho (@BE _ _ _ _ _ _ _ _ _ WA JV z_abs PyProof.Rows.boot_abs (@AD _ _ _ _ _ (pv 0 rfl Pz lE lH) AL ⋯) ZC Zx ⋯ ⋯) ⋯ ⋯) (@AN _ _ _ _ _ (@Az _ _ 3 _ _ _ _ nd rfl Hn (@BE _ _ _ _ _ _ _ _ _ WA JV z_abs PyProof.Rows.boot_abs (@AD _ _ _ _ _ (pv 1 rfl Py g8 hX) AL ⋯) ZC Zx ⋯ ⋯) ⋯ ⋯) (@AN _ _ _ _ _ (@Np _ _ _ _ _ _ PassesOwn.never (@An _ _ _ _ _ _ _ _ (@GI _ (DM hr)) (pv 3 rfl Hk SM SY) AM (A7 _)) (@AN _ _ _ _ _ (@Az _ _ 4 _ _ _ _ nd rfl KU (@Ae _ _ _ _ _ _ _ _ Bp (pv 2 rfl KN fT fY) (pv 3 rfl Hk SM SY)) ⋯ ⋯) (@AN _ _ _ _ _ (@Az _ _ 2 _ _ _ _ nd rfl Ho (pv 3 rfl Hk SM SY) ⋯ ⋯) (@AV _ _ _ (@Az _ _ 3 _ _ _ _ nd rfl Hn (pv 4 rfl Px RO RW) ⋯ ⋯))))) (@AV _ _ _ (@Ac _ _ _ _ (pv 2 rfl KN fT fY)))))),A2 (N:=["one","other","big","small","rest"]) (np:=2) (nl:=3) (Ab (BJ (C8 jo (AF AH AS)) Aa) (Ab (BJ (C8 jo (AF AH AS)) Aa) (Ab (RZ (Au (AX NF AH AQ)) (Ab (BJ (AX CN AH AH) Aa) (Ab (BJ AH Aa) (BJ AH Aa)))) (As AH (by decide))))) rfl h⟩
theorem af(F:Fun K "is_share" "is_share" CZ f fd)(c90:Cal P w K mg base 1 "is_whole" ["thing"] (spD ⟨K,w⟩ GZ false))(d87:Cal P w K mg base 1 "common_divisor" ["one","other"] (spD ⟨K,w⟩ DY false))(z_len:mg "len"=none)(z_tuple:mg "tuple"=none)(z_isinstance:mg "isinstance"=none):FnOk P w K mg base CX0 2 f fd ["thing"] (spD ⟨K,w⟩ Iy false):=by
 have nd:=sc_is_share.nd
 refine F.ok sc_is_share (fun vs H Q E h=>A3 Ad h) (fun cdv A outer s H vs Q E hr h=>?_)
 exact⟨_,(@AN _ _ _ _ _ (@Bt _ _ _ _ _ _ _ _ (@PW.pt _ _ _ (@JO _ _ _ _ _ _ _ (@Du _ _ _ _ (@EE _ _ _ (@BE _ _ _ _ _ _ _ _ _ EY NQ z_isinstance PyProof.Rows.boot_isinstance (@AD _ _ _ _ _ (pv 0 rfl Js BV BW) (@AD _ _ _ _ _ (Ls SH z_tuple PySem.Pv.boot_tuple Lw MF) AL ⋯) ⋯) CG CH ⋯ ⋯) ⋯)) (@Hl _ _ _ _ (@An _ _ _ _ _ _ _ _ (@GI _ (DM hr)) (@BE _ _ _ _ _ _ _ _ _ CQ VL z_len PySem.boot_len (@AD _ _ _ _ _ (pv 0 rfl Js BV BW) AL ⋯) Ct Cv ⋯ ⋯) AM (A7 _))))) (@AV _ _ _ (@Ac _ _ _ _ HI)) Ay) (@AN _ _ _ _ _ (@Az _ _ 1 _ _ _ _ nd rfl Q2 (@Aw _ _ _ _ _ _ _ Am (pv 0 rfl Js BV BW) AM (fun _ _=>rfl)) ⋯ ⋯) (@AN _ _ _ _ _ (@Az _ _ 2 _ _ _ _ nd rfl Q1 (@Aw _ _ _ _ _ _ _ Am (pv 0 rfl Js BV BW) AM (fun _ _=>rfl)) ⋯ ⋯) (@AN _ _ _ _ _ (@Bt _ _ _ _ _ _ _ _ (@PW.pt _ _ _ (@JO _ _ _ _ _ _ _ (@Du _ _ _ _ (@EE _ _ _ (@AO _ _ _ _ _ _ _ _ _ _ c90 hr Jk (@AD _ _ _ _ _ (pv 1 rfl MK Zp Z1) AL ⋯) Mo ⋯ ⋯) ⋯)) (@Hl _ _ _ _ (@Du _ _ _ _ (@EE _ _ _ (@AO _ _ _ _ _ _ _ _ _ _ c90 hr Jk (@AD _ _ _ _ _ (pv 2 rfl Jr Mq Mt) AL ⋯) Mo ⋯ ⋯) ⋯))))) (@AV _ _ _ (@Ac _ _ _ _ HI)) Ay) (@AV _ _ _ (@Ac _ _ _ _ (@E8 _ _ _ _ _ _ _ (@Ej _ _ _ _ _ _ _ _ mF (pv 2 rfl Jr Mq Mt) AM (A7 _)) (@E8 _ _ _ _ _ _ _ (@aR _ _ _ _ _ _ _ _ _ _ _ _ Qs Qs AM (pv 1 rfl MK Zp Z1) (pv 2 rfl Jr Mq Mt) ⋯) (@Hm _ _ _ _ _ (@Ej _ _ _ _ _ _ _ _ (@CF _ (DM hr)) (@AO _ _ _ _ _ _ _ _ _ _ d87 hr K1 (@AD _ _ _ _ _ (pv 1 rfl MK Zp Z1) (@AD _ _ _ _ _ (pv 2 rfl Jr Mq Mt) AL ⋯) ⋯) QW ⋯ ⋯) AM (A7 _))))))))))),A2 (N:=["thing","top","bottom"]) (np:=1) (nl:=2) (Ab (Cy (Nl (Fc (Ft (ME (T:="tuple") AH))) (Au (AX NF (C8 GL (AF AH AS)) AQ))) (As K3 (by decide)) Bw) (Ab (BJ (AX BF AH AQ) Aa) (Ab (BJ (AX BF AH AQ) Aa) (Ab (Cy (Nl (Fc (Ft (AY (AF AH AS)))) (Fc (Ft (AY (AF AH AS))))) (As K3 (by decide)) Bw) (As (Hc (AX oU AH AQ) (Hc (UE Y6 Y6 AQ AH AH) (AX FQ (AY (AF AH (AF AH AS))) AQ))) (by decide)))))) rfl h⟩
theorem Om(F:Fun K "is_bounded_share" "is_bounded_share" CJ f fd)(e38:Cal P w K mg base 2 "is_share" ["thing"] (spD ⟨K,w⟩ Iy false)):FnOk P w K mg base CX0 3 f fd ["thing"] (spD ⟨K,w⟩ CL false):=by
 have nd:=sc_is_bounded_share.nd
 refine F.ok sc_is_bounded_share (fun vs H Q E h=>A3 Ad h) (fun cdv A outer s H vs Q E hr h=>?_)
 exact⟨_,(@AV _ _ _ (@Ac _ _ _ _ (@E8 _ _ _ _ _ _ _ (@AO _ _ _ _ _ _ _ _ _ _ e38 hr Jx (@AD _ _ _ _ _ (pv 0 rfl JK BV BW) AL ⋯) Zv ⋯ ⋯) (@Hm _ _ _ _ _ (@Ej _ _ _ _ _ _ _ _ Qs (@Aw _ _ _ _ _ _ _ Am (pv 0 rfl JK BV BW) AM (fun _ _=>rfl)) AM (A7 _)))))),A2 (N:=["thing"]) (np:=1) (nl:=0) (As (Hc (AY (AF AH AS)) (AX Y6 (AX BF AH AQ) AQ)) (by decide)) rfl h⟩
theorem aj(F:Fun K "is_paint" "is_paint" Eb f fd)(c06:Cal P w K mg base 3 "is_bounded_share" ["thing"] (spD ⟨K,w⟩ CL false)):FnOk P w K mg base CX0 4 f fd ["shade","share"] (spD ⟨K,w⟩ DK false):=by
 have nd:=sc_is_paint.nd
 refine F.ok sc_is_paint (fun vs H Q E h=>A3 Ad h) (fun cdv A outer s H vs Q E hr h=>?_)
 exact⟨_,(@AV _ _ _ (@Ac _ _ _ _ (@E8 _ _ _ _ _ _ _ (@AO _ _ _ _ _ _ _ _ _ _ c06 hr GK (@AD _ _ _ _ _ (pv 0 rfl Yg gy hW) AL ⋯) Gh ⋯ ⋯) (@Hm _ _ _ _ _ (@AO _ _ _ _ _ _ _ _ _ _ c06 hr GK (@AD _ _ _ _ _ (pv 1 rfl Yf gx hV) AL ⋯) Gh ⋯ ⋯))))),A2 (N:=["shade","share"]) (np:=2) (nl:=0) (As (Hc (AY (AF AH AS)) (AY (AF AH AS))) (by decide)) rfl h⟩
theorem ag(F:Fun K "is_plate" "is_plate" Ea f fd)(c09:Cal P w K mg base 4 "is_paint" ["shade","share"] (spD ⟨K,w⟩ DK false))(c00:Cal P w K mg base 4 "is_within" ["thing","low","high"] (spD ⟨K,w⟩ Bg false))(z_len:mg "len"=none):FnOk P w K mg base CX0 5 f fd ["data"] (spD ⟨K,w⟩ Hq false):=by
 have nd:=sc_is_plate.nd
 refine F.ok sc_is_plate (fun vs H Q E h=>A3 Ad h) (fun cdv A outer s H vs Q E hr h=>?_)
 exact⟨_,(@AN _ _ _ _ _ (@Bt _ _ _ _ _ _ _ _ (@PW.pt _ _ _ (@JO _ _ _ _ _ _ _ (@An _ _ _ _ _ _ _ _ (@GI _ (DM hr)) (@BE _ _ _ _ _ _ _ _ _ CQ VP z_len PySem.boot_len (@AD _ _ _ _ _ (pv 0 rfl IH Ba Bb) AL ⋯) Ct Cv ⋯ ⋯) AM (A7 _)) (@Hl _ _ _ _ (@Du _ _ _ _ (@EE _ _ _ (@AO _ _ _ _ _ _ _ _ _ _ c09 hr Oy (@AD _ _ _ _ _ (@Aw _ _ _ _ _ _ _ Am (pv 0 rfl IH Ba Bb) AM (fun _ _=>rfl)) (@AD _ _ _ _ _ (@Aw _ _ _ _ _ _ _ Am (pv 0 rfl IH Ba Bb) AM (fun _ _=>rfl)) AL ⋯) ⋯) J4 ⋯ ⋯) ⋯))))) (@AV _ _ _ (@Ac _ _ _ _ HI)) Ay) (@AV _ _ _ (@Ac _ _ _ _ (@E8 _ _ _ _ _ _ _ (@AO _ _ _ _ _ _ _ _ _ _ c00 hr JT (@AD _ _ _ _ _ (@Aw _ _ _ _ _ _ _ Am (pv 0 rfl IH Ba Bb) AM (fun _ _=>rfl)) (@AD _ _ _ _ _ AM (@AD _ _ _ _ _ AM AL ⋯) ⋯) ⋯) Ce ⋯ ⋯) (@Hm _ _ _ _ _ (@AO _ _ _ _ _ _ _ _ _ _ c00 hr JT (@AD _ _ _ _ _ (@Aw _ _ _ _ _ _ _ Am (pv 0 rfl IH Ba Bb) AM (fun _ _=>rfl)) (@AD _ _ _ _ _ AM (@AD _ _ _ _ _ AM AL ⋯) ⋯) ⋯) Ce ⋯ ⋯)))))),A2 (N:=["data"]) (np:=1) (nl:=0) (Ab (Cy (Nl (Au (AX NF (C8 GL (AF AH AS)) AQ)) (Fc (Ft (AY (AF (AX BF AH AQ) (AF (AX BF AH AQ) AS)))))) (As K3 (by decide)) Bw) (As (Hc (AY (AF (AX BF AH AQ) (AF AQ (AF AQ AS)))) (AY (AF (AX BF AH AQ) (AF AQ (AF AQ AS))))) (by decide))) rfl h⟩
theorem dG(F:Fun K "is_band" "is_band" FN f fd)(c09:Cal P w K mg base 4 "is_paint" ["shade","share"] (spD ⟨K,w⟩ DK false))(c00:Cal P w K mg base 4 "is_within" ["thing","low","high"] (spD ⟨K,w⟩ Bg false))(z_len:mg "len"=none):FnOk P w K mg base CX0 5 f fd ["data"] (spD ⟨K,w⟩ Iz false):=by
 have nd:=sc_is_band.nd
 refine F.ok sc_is_band (fun vs H Q E h=>A3 Ad h) (fun cdv A outer s H vs Q E hr h=>?_)
 exact⟨_,(@AN _ _ _ _ _ (@Bt _ _ _ _ _ _ _ _ (@PW.pt _ _ _ (@JO _ _ _ _ _ _ _ (@An _ _ _ _ _ _ _ _ (@GI _ (DM hr)) (@BE _ _ _ _ _ _ _ _ _ CQ XM z_len PySem.boot_len (@AD _ _ _ _ _ (pv 0 rfl JL Ba Bb) AL ⋯) Ct Cv ⋯ ⋯) AM (A7 _)) (@Hl _ _ _ _ (@Du _ _ _ _ (@EE _ _ _ (@AO _ _ _ _ _ _ _ _ _ _ c09 hr QO (@AD _ _ _ _ _ (@Aw _ _ _ _ _ _ _ Am (pv 0 rfl JL Ba Bb) AM (fun _ _=>rfl)) (@AD _ _ _ _ _ (@Aw _ _ _ _ _ _ _ Am (pv 0 rfl JL Ba Bb) AM (fun _ _=>rfl)) AL ⋯) ⋯) J4 ⋯ ⋯) ⋯))))) (@AV _ _ _ (@Ac _ _ _ _ HI)) Ay) (@AV _ _ _ (@Ac _ _ _ _ (@E8 _ _ _ _ _ _ _ (@AO _ _ _ _ _ _ _ _ _ _ c00 hr Jm (@AD _ _ _ _ _ (@Aw _ _ _ _ _ _ _ Am (pv 0 rfl JL Ba Bb) AM (fun _ _=>rfl)) (@AD _ _ _ _ _ (@Xy _ _ _ _ _ _ Ri AM) (@AD _ _ _ _ _ AM AL ⋯) ⋯) ⋯) Ce ⋯ ⋯) (@Hm _ _ _ _ _ (@AO _ _ _ _ _ _ _ _ _ _ c00 hr Jm (@AD _ _ _ _ _ (@Aw _ _ _ _ _ _ _ Am (pv 0 rfl JL Ba Bb) AM (fun _ _=>rfl)) (@AD _ _ _ _ _ (@Xy _ _ _ _ _ _ Ri AM) (@AD _ _ _ _ _ AM AL ⋯) ⋯) ⋯) Ce ⋯ ⋯)))))),A2 (N:=["data"]) (np:=1) (nl:=0) (Ab (Cy (Nl (Au (AX NF (C8 GL (AF AH AS)) AQ)) (Fc (Ft (AY (AF (AX BF AH AQ) (AF (AX BF AH AQ) AS)))))) (As K3 (by decide)) Bw) (As (Hc (AY (AF (AX BF AH AQ) (AF (gs Xt AQ) (AF AQ AS)))) (AY (AF (AX BF AH AQ) (AF (gs Xt AQ) (AF AQ AS))))) (by decide))) rfl h⟩
theorem dD(F:Fun K "is_sign" "is_sign" Gq f fd){ad_SIGNS:Addr}(kc_SIGNS:mg "SIGNS"=some (.ref ad_SIGNS))(kd_SIGNS:KD ⟨K,w⟩ w ad_SIGNS Lr)(hs_SIGNS:(ad_SIGNS==sysModules)=false):FnOk P w K mg base CX0 1 f fd ["sign"] (spD ⟨K,w⟩ H0 false):=by
 have nd:=sc_is_sign.nd
 refine F.ok sc_is_sign (fun vs H Q E h=>A3 Ad h) (fun cdv A outer s H vs Q E hr h=>?_)
 exact⟨_,(@AV _ _ _ (@Ac _ _ _ _ (@Ej _ _ _ _ _ _ _ _ (kH kd_SIGNS hs_SIGNS) (pv 0 rfl aD Ve V0) (@MU _ _ (.ref ad_SIGNS) _ _ Tz kc_SIGNS rfl g9) (by with_unfolding_all rfl)))),A2 (N:=["sign"]) (np:=1) (nl:=0) (As (pD AH) (by decide)) rfl h⟩
theorem Tf(F:Fun K "is_word_text" "is_word_text" CC f fd)(e49:Cal P w K mg base 1 "is_sign" ["sign"] (spD ⟨K,w⟩ H0 false))(z_len:mg "len"=none)(z_str:mg "str"=none)(z_isinstance:mg "isinstance"=none)(z_all:mg "all"=none):FnOk P w K mg base CX0 2 f fd ["thing"] (spD ⟨K,w⟩ FU false):=by
 have nd:=sc_is_word_text.nd
 refine F.ok sc_is_word_text (fun vs H Q E h=>A3 Ad h) (fun cdv A outer s H vs Q E hr h=>?_)
 exact⟨_,(@AN _ _ _ _ _ (@Bt _ _ _ _ _ _ _ _ (@PW.pt _ _ _ (@JO _ _ _ _ _ _ _ (@Du _ _ _ _ (@EE _ _ _ (@BE _ _ _ _ _ _ _ _ _ EY K0 z_isinstance PyProof.Rows.boot_isinstance (@AD _ _ _ _ _ (pv 0 rfl Ij BV BW) (@AD _ _ _ _ _ (Ls QI z_str PySem.Pv.boot_str UB UG) AL ⋯) ⋯) CG CH ⋯ ⋯) ⋯)) (@Hl _ _ _ _ (@An _ _ _ _ _ _ _ _ X1 (@BE _ _ _ _ _ _ _ _ _ CQ QJ z_len PySem.boot_len (@AD _ _ _ _ _ (pv 0 rfl Ij BV BW) AL ⋯) Ct Cv ⋯ ⋯) AM (A7 _))))) (@AV _ _ _ (@Ac _ _ _ _ HI)) Ay) (@AV _ _ _ (@Ac _ _ _ _ (@BE _ _ _ _ _ _ _ _ _ (@Oj _ rfl) QK z_all PyProof.Rows.boot_all (@AD _ _ _ _ _ (@KQ _ ["sign"] 1 [] _ _ _ _ _ _ _ _ _ _ rfl (@Ji _ ["sign"] 1 [] _ ["thing"] (AA CC) rfl rfl ∅) (@ie _ _ _ _ (pv 0 rfl Ij BV BW)) (fun cl fp s3 H3=>(@Aq _ _ 0 _ Rp rfl (DR ∅) (Or.inr (DV ∅)))) (fun cl fp s3 H3=>Ju) (fun cl fp s3 H3=>(@AO _ _ _ _ _ _ _ _ _ _ e49 hr (Gu ∅) (@AD _ _ _ _ _ (pv 0 rfl (Bz ∅) Ve V0) AL ⋯) br ⋯ ⋯)) ⋯) AL ⋯) UC UH ⋯ ⋯)))),A2 (N:=["thing"]) (np:=1) (nl:=0) (Ab (Cy (Nl (Fc (Ft (ME (T:="str") AH))) (Au (AX gR (C8 GL (AF AH AS)) AQ))) (As K3 (by decide)) Bw) (As (C8 Z6 (AF (O1 (jS AH) Aa Ql (AY (AF AH AS))) AS)) (by decide))) rfl h⟩
theorem dA(F:Fun K "is_word" "is_word" FK f fd)(c09:Cal P w K mg base 4 "is_paint" ["shade","share"] (spD ⟨K,w⟩ DK false))(d99:Cal P w K mg base 4 "is_word_text" ["thing"] (spD ⟨K,w⟩ FU false))(z_len:mg "len"=none):FnOk P w K mg base CX0 5 f fd ["data"] (spD ⟨K,w⟩ Iu false):=by
 have nd:=sc_is_word.nd
 refine F.ok sc_is_word (fun vs H Q E h=>A3 Ad h) (fun cdv A outer s H vs Q E hr h=>?_)
 exact⟨_,(@AV _ _ _ (@Ac _ _ _ _ (@E8 _ _ _ _ _ _ _ (@Ej _ _ _ _ _ _ _ _ (@CF _ (DM hr)) (@BE _ _ _ _ _ _ _ _ _ CQ XH z_len PySem.boot_len (@AD _ _ _ _ _ (pv 0 rfl K4 Ba Bb) AL ⋯) Ct Cv ⋯ ⋯) AM (A7 _)) (@E8 _ _ _ _ _ _ _ (@AO _ _ _ _ _ _ _ _ _ _ d99 hr Mh (@AD _ _ _ _ _ (@Aw _ _ _ _ _ _ _ Am (pv 0 rfl K4 Ba Bb) AM (fun _ _=>rfl)) AL ⋯) SR ⋯ ⋯) (@Hm _ _ _ _ _ (@AO _ _ _ _ _ _ _ _ _ _ c09 hr QL (@AD _ _ _ _ _ (@Aw _ _ _ _ _ _ _ Am (pv 0 rfl K4 Ba Bb) AM (fun _ _=>rfl)) (@AD _ _ _ _ _ (@Aw _ _ _ _ _ _ _ Am (pv 0 rfl K4 Ba Bb) AM (fun _ _=>rfl)) AL ⋯) ⋯) J4 ⋯ ⋯)))))),A2 (N:=["data"]) (np:=1) (nl:=0) (As (Hc (AX FQ (C8 GL (AF AH AS)) AQ) (Hc (AY (AF (AX BF AH AQ) AS)) (AY (AF (AX BF AH AQ) (AF (AX BF AH AQ) AS))))) (by decide)) rfl h⟩
theorem Oo(F:Fun K "are_stencil_rows" "are_stencil_rows" BY f fd)(c92:Cal P w K mg base 1 "is_text_of" ["thing","signs","low","high"] (spD ⟨K,w⟩ DH false))(z_len:mg "len"=none)(z_tuple:mg "tuple"=none)(z_isinstance:mg "isinstance"=none)(z_all:mg "all"=none):FnOk P w K mg base CX0 2 f fd ["thing"] (spD ⟨K,w⟩ DZ false):=by
 have nd:=sc_are_stencil_rows.nd
 refine F.ok sc_are_stencil_rows (fun vs H Q E h=>A3 Ad h) (fun cdv A outer s H vs Q E hr h=>?_)
 exact⟨_,(@AN _ _ _ _ _ (@Bt _ _ _ _ _ _ _ _ (@PW.pt _ _ _ (@JO _ _ _ _ _ _ _ (@Du _ _ _ _ (@EE _ _ _ (@BE _ _ _ _ _ _ _ _ _ EY JW z_isinstance PyProof.Rows.boot_isinstance (@AD _ _ _ _ _ (pv 0 rfl Ep BV BW) (@AD _ _ _ _ _ (Ls Lb z_tuple PySem.Pv.boot_tuple Lw MF) AL ⋯) ⋯) CG CH ⋯ ⋯) ⋯)) (@Hl _ _ _ _ (@Du _ _ _ _ (@aP _ _ _ _ _ _ _ _ _ _ _ _ Qs Qs AM (@BE _ _ _ _ _ _ _ _ _ CQ Mi z_len PySem.boot_len (@AD _ _ _ _ _ (pv 0 rfl Ep BV BW) AL ⋯) Ct Cv ⋯ ⋯) AM ⋯))))) (@AV _ _ _ (@Ac _ _ _ _ HI)) Ay) (@AN _ _ _ _ _ (@Bt _ _ _ _ _ _ _ _ (@Du _ _ _ _ (@EE _ _ _ (@BE _ _ _ _ _ _ _ _ _ (@Oj _ rfl) IS z_all PyProof.Rows.boot_all (@AD _ _ _ _ _ (@KQ _ ["row"] 1 [] _ _ _ _ _ _ _ _ _ _ rfl (@Ji _ ["row"] 1 [] _ ["thing"] (AA BY) rfl rfl ∅) (@ic _ _ _ _ (pv 0 rfl Ep BV BW)) (fun cl fp s3 H3=>(@Aq _ _ 0 _ Nv rfl (DR ∅) (Or.inr (DV ∅)))) (fun cl fp s3 H3=>Ju) (fun cl fp s3 H3=>(@AO _ _ _ _ _ _ _ _ _ _ c92 hr (Gu ∅) (@AD _ _ _ _ _ (pv 0 rfl (Bz ∅) BO BP) (@AD _ _ _ _ _ BD (@AD _ _ _ _ _ AM (@AD _ _ _ _ _ AM AL ⋯) ⋯) ⋯) ⋯) OU ⋯ ⋯)) ⋯) AL ⋯) UC UH ⋯ ⋯) ⋯)) (@AV _ _ _ (@Ac _ _ _ _ HI)) Ay) (@AV _ _ _ (@Ac _ _ _ _ (@BE _ _ _ _ _ _ _ _ _ (@Oj _ rfl) IS z_all PyProof.Rows.boot_all (@AD _ _ _ _ _ (@KQ _ ["row","thing"] 1 [0] _ _ _ _ _ _ _ _ _ _ rfl (@Ji _ ["row","thing"] 1 [0] _ ["thing"] (AA BY) rfl rfl ∅) (@ic _ _ _ _ (pv 0 rfl Ep BV BW)) (fun cl fp s3 H3=>(@Aq _ _ 0 _ Nu rfl (DR ∅) (Or.inr (DV ∅)))) (fun cl fp s3 H3=>Ju) (fun cl fp s3 H3=>(@Ej _ _ _ _ _ _ _ _ (@CF _ (DM hr)) (@BE _ _ _ _ _ _ _ _ _ CQ (Gu ∅) z_len PySem.boot_len (@AD _ _ _ _ _ (pv 0 rfl (Bz ∅) BO BP) AL ⋯) Ct Cv ⋯ ⋯) (@BE _ _ _ _ _ _ _ _ _ CQ (Gu ∅) z_len PySem.boot_len (@AD _ _ _ _ _ (@Aw _ _ _ _ _ _ _ Am (pv 1 rfl (Eo ∅) BV BW) AM (fun _ _=>rfl)) AL ⋯) Ct Cv ⋯ ⋯) (A7 _))) ⋯) AL ⋯) UC UH ⋯ ⋯))))),A2 (N:=["thing"]) (np:=1) (nl:=0) (Ab (Cy (Nl (Fc (Ft (ME (T:="tuple") AH))) (Fc (Au (UE Y6 Y6 AQ (C8 GL (AF AH AS)) AQ)))) (As K3 (by decide)) Bw) (Ab (Cy (Fc (Ft (C8 Z6 (AF (O1 (jR AH) Aa Ql (AY (AF AH (AF Bo (AF AQ (AF AQ AS)))))) AS)))) (As K3 (by decide)) Bw) (As (C8 Z6 (AF (O1 (jR AH) Aa Ql (AX FQ (C8 GL (AF AH AS)) (C8 GL (AF (AX BF AH AQ) AS)))) AS)) (by decide)))) rfl h⟩
theorem Wd(F:Fun K "is_stencil" "is_stencil" DE f fd)(c09:Cal P w K mg base 4 "is_paint" ["shade","share"] (spD ⟨K,w⟩ DK false))(d07:Cal P w K mg base 4 "are_stencil_rows" ["thing"] (spD ⟨K,w⟩ DZ false))(z_len:mg "len"=none):FnOk P w K mg base CX0 5 f fd ["data"] (spD ⟨K,w⟩ Fn false):=by
 have nd:=sc_is_stencil.nd
 refine F.ok sc_is_stencil (fun vs H Q E h=>A3 Ad h) (fun cdv A outer s H vs Q E hr h=>?_)
 exact⟨_,(@AV _ _ _ (@Ac _ _ _ _ (@E8 _ _ _ _ _ _ _ (@Ej _ _ _ _ _ _ _ _ (@CF _ (DM hr)) (@BE _ _ _ _ _ _ _ _ _ CQ SG z_len PySem.boot_len (@AD _ _ _ _ _ (pv 0 rfl IG Ba Bb) AL ⋯) Ct Cv ⋯ ⋯) AM (A7 _)) (@E8 _ _ _ _ _ _ _ (@AO _ _ _ _ _ _ _ _ _ _ d07 hr JS (@AD _ _ _ _ _ (@Aw _ _ _ _ _ _ _ Am (pv 0 rfl IG Ba Bb) AM (fun _ _=>rfl)) AL ⋯) OW ⋯ ⋯) (@Hm _ _ _ _ _ (@AO _ _ _ _ _ _ _ _ _ _ c09 hr NP (@AD _ _ _ _ _ (@Aw _ _ _ _ _ _ _ Am (pv 0 rfl IG Ba Bb) AM (fun _ _=>rfl)) (@AD _ _ _ _ _ (@Aw _ _ _ _ _ _ _ Am (pv 0 rfl IG Ba Bb) AM (fun _ _=>rfl)) AL ⋯) ⋯) J4 ⋯ ⋯)))))),A2 (N:=["data"]) (np:=1) (nl:=0) (As (Hc (AX FQ (C8 GL (AF AH AS)) AQ) (Hc (AY (AF (AX BF AH AQ) AS)) (AY (AF (AX BF AH AQ) (AF (AX BF AH AQ) AS))))) (by decide)) rfl h⟩
theorem ao(F:Fun K "is_empty" "is_empty" Fl f fd)(z_len:mg "len"=none):FnOk P w K mg base CX0 1 f fd ["data"] (spD ⟨K,w⟩ Hs false):=by
 have nd:=sc_is_empty.nd
 refine F.ok sc_is_empty (fun vs H Q E h=>A3 Ad h) (fun cdv A outer s H vs Q E hr h=>?_)
 exact⟨_,(@AV _ _ _ (@Ac _ _ _ _ (@Ej _ _ _ _ _ _ _ _ (@CF _ (DM hr)) (@BE _ _ _ _ _ _ _ _ _ CQ VR z_len PySem.boot_len (@AD _ _ _ _ _ (pv 0 rfl Yh Ba Bb) AL ⋯) Ct Cv ⋯ ⋯) AM (A7 _)))),A2 (N:=["data"]) (np:=1) (nl:=0) (As (AX FQ (C8 GL (AF AH AS)) AQ) (by decide)) rfl h⟩
theorem ak(F:Fun K "is_glass" "is_glass" E5 f fd)(c06:Cal P w K mg base 3 "is_bounded_share" ["thing"] (spD ⟨K,w⟩ CL false))(z_len:mg "len"=none):FnOk P w K mg base CX0 4 f fd ["data"] (spD ⟨K,w⟩ Hr false):=by
 have nd:=sc_is_glass.nd
 refine F.ok sc_is_glass (fun vs H Q E h=>A3 Ad h) (fun cdv A outer s H vs Q E hr h=>?_)
 exact⟨_,(@AV _ _ _ (@Ac _ _ _ _ (@E8 _ _ _ _ _ _ _ (@Ej _ _ _ _ _ _ _ _ (@CF _ (DM hr)) (@BE _ _ _ _ _ _ _ _ _ CQ VQ z_len PySem.boot_len (@AD _ _ _ _ _ (pv 0 rfl Qi Ba Bb) AL ⋯) Ct Cv ⋯ ⋯) AM (A7 _)) (@Hm _ _ _ _ _ (@AO _ _ _ _ _ _ _ _ _ _ c06 hr Jw (@AD _ _ _ _ _ (@Aw _ _ _ _ _ _ _ Am (pv 0 rfl Qi Ba Bb) AM (fun _ _=>rfl)) AL ⋯) Gh ⋯ ⋯))))),A2 (N:=["data"]) (np:=1) (nl:=0) (As (Hc (AX FQ (C8 GL (AF AH AS)) AQ) (AY (AF (AX BF AH AQ) AS))) (by decide)) rfl h⟩
theorem ai(F:Fun K "is_place" "is_place" Fj f fd)(c00:Cal P w K mg base 2 "is_within" ["thing","low","high"] (spD ⟨K,w⟩ Bg false)):FnOk P w K mg base CX0 3 f fd ["thing"] (spD ⟨K,w⟩ DJ false):=by
 have nd:=sc_is_place.nd
 refine F.ok sc_is_place (fun vs H Q E h=>A3 Ad h) (fun cdv A outer s H vs Q E hr h=>?_)
 exact⟨_,(@AV _ _ _ (@Ac _ _ _ _ (@AO _ _ _ _ _ _ _ _ _ _ c00 hr OH (@AD _ _ _ _ _ (pv 0 rfl Ye BV BW) (@AD _ _ _ _ _ (@Xy _ _ _ _ _ _ Ri AM) (@AD _ _ _ _ _ AM AL ⋯) ⋯) ⋯) Ce ⋯ ⋯))),A2 (N:=["thing"]) (np:=1) (nl:=0) (As (AY (AF AH (AF (gs Xt AQ) (AF AQ AS)))) (by decide)) rfl h⟩
theorem Yw(F:Fun K "is_window" "is_window" Ds f fd)(c82:Cal P w K mg base 3 "is_place" ["thing"] (spD ⟨K,w⟩ DJ false))(c00:Cal P w K mg base 3 "is_within" ["thing","low","high"] (spD ⟨K,w⟩ Bg false))(z_len:mg "len"=none):FnOk P w K mg base CX0 4 f fd ["data"] (spD ⟨K,w⟩ GY false):=by
 have nd:=sc_is_window.nd
 refine F.ok sc_is_window (fun vs H Q E h=>A3 Ad h) (fun cdv A outer s H vs Q E hr h=>?_)
 exact⟨_,(@AN _ _ _ _ _ (@Bt _ _ _ _ _ _ _ _ (@PW.pt _ _ _ (@JO _ _ _ _ _ _ _ (@An _ _ _ _ _ _ _ _ (@GI _ (DM hr)) (@BE _ _ _ _ _ _ _ _ _ CQ Tu z_len PySem.boot_len (@AD _ _ _ _ _ (pv 0 rfl HM Ba Bb) AL ⋯) Ct Cv ⋯ ⋯) AM (A7 _)) (@JO _ _ _ _ _ _ _ (@Du _ _ _ _ (@EE _ _ _ (@AO _ _ _ _ _ _ _ _ _ _ c82 hr JR (@AD _ _ _ _ _ (@Aw _ _ _ _ _ _ _ Am (pv 0 rfl HM Ba Bb) AM (fun _ _=>rfl)) AL ⋯) J3 ⋯ ⋯) ⋯)) (@Hl _ _ _ _ (@Du _ _ _ _ (@EE _ _ _ (@AO _ _ _ _ _ _ _ _ _ _ c82 hr JR (@AD _ _ _ _ _ (@Aw _ _ _ _ _ _ _ Am (pv 0 rfl HM Ba Bb) AM (fun _ _=>rfl)) AL ⋯) J3 ⋯ ⋯) ⋯)))))) (@AV _ _ _ (@Ac _ _ _ _ HI)) Ay) (@AV _ _ _ (@Ac _ _ _ _ (@E8 _ _ _ _ _ _ _ (@AO _ _ _ _ _ _ _ _ _ _ c00 hr Ie (@AD _ _ _ _ _ (@Aw _ _ _ _ _ _ _ Am (pv 0 rfl HM Ba Bb) AM (fun _ _=>rfl)) (@AD _ _ _ _ _ AM (@AD _ _ _ _ _ AM AL ⋯) ⋯) ⋯) Ce ⋯ ⋯) (@Hm _ _ _ _ _ (@AO _ _ _ _ _ _ _ _ _ _ c00 hr Ie (@AD _ _ _ _ _ (@Aw _ _ _ _ _ _ _ Am (pv 0 rfl HM Ba Bb) AM (fun _ _=>rfl)) (@AD _ _ _ _ _ AM (@AD _ _ _ _ _ AM AL ⋯) ⋯) ⋯) Ce ⋯ ⋯)))))),A2 (N:=["data"]) (np:=1) (nl:=0) (Ab (Cy (Nl (Au (AX NF (C8 GL (AF AH AS)) AQ)) (Nl (Fc (Ft (AY (AF (AX BF AH AQ) AS)))) (Fc (Ft (AY (AF (AX BF AH AQ) AS)))))) (As K3 (by decide)) Bw) (As (Hc (AY (AF (AX BF AH AQ) (AF AQ (AF AQ AS)))) (AY (AF (AX BF AH AQ) (AF AQ (AF AQ AS))))) (by decide))) rfl h⟩
theorem dB(F:Fun K "is_turn" "is_turn" FL f fd)(d02:Cal P w K mg base 2 "is_truth" ["thing"] (spD ⟨K,w⟩ Iw false))(c00:Cal P w K mg base 2 "is_within" ["thing","low","high"] (spD ⟨K,w⟩ Bg false))(z_len:mg "len"=none):FnOk P w K mg base CX0 3 f fd ["data"] (spD ⟨K,w⟩ Iv false):=by
 have nd:=sc_is_turn.nd
 refine F.ok sc_is_turn (fun vs H Q E h=>A3 Ad h) (fun cdv A outer s H vs Q E hr h=>?_)
 exact⟨_,(@AV _ _ _ (@Ac _ _ _ _ (@E8 _ _ _ _ _ _ _ (@Ej _ _ _ _ _ _ _ _ (@CF _ (DM hr)) (@BE _ _ _ _ _ _ _ _ _ CQ XI z_len PySem.boot_len (@AD _ _ _ _ _ (pv 0 rfl Nc Ba Bb) AL ⋯) Ct Cv ⋯ ⋯) AM (A7 _)) (@E8 _ _ _ _ _ _ _ (@AO _ _ _ _ _ _ _ _ _ _ c00 hr Ou (@AD _ _ _ _ _ (@Aw _ _ _ _ _ _ _ Am (pv 0 rfl Nc Ba Bb) AM (fun _ _=>rfl)) (@AD _ _ _ _ _ AM (@AD _ _ _ _ _ AM AL ⋯) ⋯) ⋯) Ce ⋯ ⋯) (@Hm _ _ _ _ _ (@AO _ _ _ _ _ _ _ _ _ _ d02 hr QM (@AD _ _ _ _ _ (@Aw _ _ _ _ _ _ _ Am (pv 0 rfl Nc Ba Bb) AM (fun _ _=>rfl)) AL ⋯) RP ⋯ ⋯)))))),A2 (N:=["data"]) (np:=1) (nl:=0) (As (Hc (AX FQ (C8 GL (AF AH AS)) AQ) (Hc (AY (AF (AX BF AH AQ) (AF AQ (AF AQ AS)))) (AY (AF (AX BF AH AQ) AS)))) (by decide)) rfl h⟩
theorem Yz(F:Fun K "are_tiles" "are_tiles" EM f fd)(c00:Cal P w K mg base 2 "is_within" ["thing","low","high"] (spD ⟨K,w⟩ Bg false))(z_len:mg "len"=none):FnOk P w K mg base CX0 3 f fd ["data"] (spD ⟨K,w⟩ Gb false):=by
 have nd:=sc_are_tiles.nd
 refine F.ok sc_are_tiles (fun vs H Q E h=>A3 Ad h) (fun cdv A outer s H vs Q E hr h=>?_)
 exact⟨_,(@AN _ _ _ _ _ (@Bt _ _ _ _ _ _ _ _ (@PW.pt _ _ _ (@JO _ _ _ _ _ _ _ (@An _ _ _ _ _ _ _ _ (@GI _ (DM hr)) (@BE _ _ _ _ _ _ _ _ _ CQ T2 z_len PySem.boot_len (@AD _ _ _ _ _ (pv 0 rfl HN Ba Bb) AL ⋯) Ct Cv ⋯ ⋯) AM (A7 _)) (@JO _ _ _ _ _ _ _ (@Du _ _ _ _ (@EE _ _ _ (@AO _ _ _ _ _ _ _ _ _ _ c00 hr Ek (@AD _ _ _ _ _ (@Aw _ _ _ _ _ _ _ Am (pv 0 rfl HN Ba Bb) AM (fun _ _=>rfl)) (@AD _ _ _ _ _ AM (@AD _ _ _ _ _ AM AL ⋯) ⋯) ⋯) Ce ⋯ ⋯) ⋯)) (@Hl _ _ _ _ (@Du _ _ _ _ (@EE _ _ _ (@AO _ _ _ _ _ _ _ _ _ _ c00 hr Ek (@AD _ _ _ _ _ (@Aw _ _ _ _ _ _ _ Am (pv 0 rfl HN Ba Bb) AM (fun _ _=>rfl)) (@AD _ _ _ _ _ AM (@AD _ _ _ _ _ AM AL ⋯) ⋯) ⋯) Ce ⋯ ⋯) ⋯)))))) (@AV _ _ _ (@Ac _ _ _ _ HI)) Ay) (@AV _ _ _ (@Ac _ _ _ _ (@E8 _ _ _ _ _ _ _ (@AO _ _ _ _ _ _ _ _ _ _ c00 hr Ek (@AD _ _ _ _ _ (@Aw _ _ _ _ _ _ _ Am (pv 0 rfl HN Ba Bb) AM (fun _ _=>rfl)) (@AD _ _ _ _ _ (@Xy _ _ _ _ _ _ Ri AM) (@AD _ _ _ _ _ AM AL ⋯) ⋯) ⋯) Ce ⋯ ⋯) (@Hm _ _ _ _ _ (@AO _ _ _ _ _ _ _ _ _ _ c00 hr Ek (@AD _ _ _ _ _ (@Aw _ _ _ _ _ _ _ Am (pv 0 rfl HN Ba Bb) AM (fun _ _=>rfl)) (@AD _ _ _ _ _ (@Xy _ _ _ _ _ _ Ri AM) (@AD _ _ _ _ _ AM AL ⋯) ⋯) ⋯) Ce ⋯ ⋯)))))),A2 (N:=["data"]) (np:=1) (nl:=0) (Ab (Cy (Nl (Au (AX NF (C8 GL (AF AH AS)) AQ)) (Nl (Fc (Ft (AY (AF (AX BF AH AQ) (AF AQ (AF AQ AS)))))) (Fc (Ft (AY (AF (AX BF AH AQ) (AF AQ (AF AQ AS)))))))) (As K3 (by decide)) Bw) (As (Hc (AY (AF (AX BF AH AQ) (AF (gs Xt AQ) (AF AQ AS)))) (AY (AF (AX BF AH AQ) (AF (gs Xt AQ) (AF AQ AS))))) (by decide))) rfl h⟩
theorem dF(F:Fun K "is_data" "is_data" D0 f fd)(e77:Cal P w K mg base 5 "is_plate" ["data"] (spD ⟨K,w⟩ Hq false))(e82:Cal P w K mg base 5 "is_band" ["data"] (spD ⟨K,w⟩ Iz false))(e83:Cal P w K mg base 5 "is_word" ["data"] (spD ⟨K,w⟩ Iu false))(e73:Cal P w K mg base 5 "is_stencil" ["data"] (spD ⟨K,w⟩ Fn false))(e78:Cal P w K mg base 5 "is_empty" ["data"] (spD ⟨K,w⟩ Hs false))(e79:Cal P w K mg base 5 "is_glass" ["data"] (spD ⟨K,w⟩ Hr false))(e75:Cal P w K mg base 5 "is_window" ["data"] (spD ⟨K,w⟩ GY false))(e84:Cal P w K mg base 5 "is_turn" ["data"] (spD ⟨K,w⟩ Iv false))(e76:Cal P w K mg base 5 "are_tiles" ["data"] (spD ⟨K,w⟩ Gb false))(z_tuple:mg "tuple"=none)(z_isinstance:mg "isinstance"=none)(z_str:mg "str"=none){ad_FORMS:Addr}{ta_FORMS:List (Str×Addr)}(kc_FORMS:mg "FORMS"=some (.ref ad_FORMS))(kf_FORMS:KF ⟨K,w⟩ w ad_FORMS ta_FORMS)(hs_FORMS:(ad_FORMS==sysModules)=false)(tm_FORMS:TMs (pd P w K mg base 5) ta_FORMS Hw):FnOk P w K mg base CX0 6 f fd ["kind","data"] (spD ⟨K,w⟩ KC false):=by
 have nd:=sc_is_data.nd
 refine F.ok sc_is_data (fun vs H Q E h=>A3 Ad h) (fun cdv A outer s H vs Q E hr h=>?_)
 exact⟨_,(@AV _ _ _ (@Ac _ _ _ _ (@E8 _ _ _ _ _ _ _ (@BE _ _ _ _ _ _ _ _ _ EY JU z_isinstance PyProof.Rows.boot_isinstance (@AD _ _ _ _ _ (pv 0 rfl Nd Vg V1) (@AD _ _ _ _ _ (Ls XJ z_str PySem.Pv.boot_str UB UG) AL ⋯) ⋯) CG CH ⋯ ⋯) (@E8 _ _ _ _ _ _ _ (@Ej _ _ _ _ _ _ _ _ (kG kf_FORMS hs_FORMS) (pv 0 rfl Nd Vg V1) (@MU _ _ (.ref ad_FORMS) _ _ M9 kc_FORMS rfl YJ) (by with_unfolding_all rfl)) (@E8 _ _ _ _ _ _ _ (@BE _ _ _ _ _ _ _ _ _ EY JU z_isinstance PyProof.Rows.boot_isinstance (@AD _ _ _ _ _ (pv 1 rfl Si Ba Bb) (@AD _ _ _ _ _ (Ls T1 z_tuple PySem.Pv.boot_tuple Lw MF) AL ⋯) ⋯) CG CH ⋯ ⋯) (@Hm _ _ _ _ _ (@ik _ _ _ _ _ _ _ _ _ _ (kn hr) (@Aw _ _ _ _ _ _ _ (oY kf_FORMS) (@MU _ _ (.ref ad_FORMS) _ _ M9 kc_FORMS rfl YJ) (pv 0 rfl Nd Vg V1) (fun _ _=>rfl)) (@AD _ _ _ _ _ (pv 1 rfl Si Ba Bb) AL ⋯) ⋯ ⋯))))))),A2 (N:=["kind","data"]) (np:=2) (nl:=0) (As (Hc (ME (T:="str") AH) (Hc (pE tm_FORMS AH) (Hc (ME (T:="tuple") AH) (lC tm_FORMS AH (AF AH AS))))) (by decide)) rfl h⟩
theorem Wa(F:Fun K "row_holder" "row_holder" Er f fd):FnOk P w K mg base CX0 1 f fd ["row"] (spD ⟨K,w⟩ Av false):=by
 have nd:=sc_row_holder.nd
 refine F.ok sc_row_holder (fun vs H Q E h=>A3 Ad h) (fun cdv A outer s H vs Q E hr h=>?_)
 exact⟨_,(@AV _ _ _ (@Ac _ _ _ _ (@Aw _ _ _ _ _ _ _ Am (pv 0 rfl UK BO BP) AM (fun _ _=>rfl)))),A2 (N:=["row"]) (np:=1) (nl:=0) (As (AX BF AH AQ) (by decide)) rfl h⟩
theorem Yt(F:Fun K "row_shown" "row_shown" Fd f fd):FnOk P w K mg base CX0 1 f fd ["row"] (spD ⟨K,w⟩ K8 false):=by
 have nd:=sc_row_shown.nd
 refine F.ok sc_row_shown (fun vs H Q E h=>A3 Ad h) (fun cdv A outer s H vs Q E hr h=>?_)
 exact⟨_,(@AV _ _ _ (@Ac _ _ _ _ (@Aw _ _ _ _ _ _ _ Am (pv 0 rfl WJ BO BP) AM (fun _ _=>rfl)))),A2 (N:=["row"]) (np:=1) (nl:=0) (As (AX BF AH AQ) (by decide)) rfl h⟩
theorem i7(F:Fun K "row_x" "row_x" K6 f fd):FnOk P w K mg base CX0 1 f fd ["row"] (spD ⟨K,w⟩ RA false):=by
 have nd:=sc_row_x.nd
 refine F.ok sc_row_x (fun vs H Q E h=>A3 Ad h) (fun cdv A outer s H vs Q E hr h=>?_)
 exact⟨_,(@AV _ _ _ (@Ac _ _ _ _ (@Aw _ _ _ _ _ _ _ Am (pv 0 rfl fu BO BP) AM (fun _ _=>rfl)))),A2 (N:=["row"]) (np:=1) (nl:=0) (As (AX BF AH AQ) (by decide)) rfl h⟩
theorem i6(F:Fun K "row_y" "row_y" K5 f fd):FnOk P w K mg base CX0 1 f fd ["row"] (spD ⟨K,w⟩ Q9 false):=by
 have nd:=sc_row_y.nd
 refine F.ok sc_row_y (fun vs H Q E h=>A3 Ad h) (fun cdv A outer s H vs Q E hr h=>?_)
 exact⟨_,(@AV _ _ _ (@Ac _ _ _ _ (@Aw _ _ _ _ _ _ _ Am (pv 0 rfl ft BO BP) AM (fun _ _=>rfl)))),A2 (N:=["row"]) (np:=1) (nl:=0) (As (AX BF AH AQ) (by decide)) rfl h⟩
theorem gN(F:Fun K "is_row" "is_row" Cg f fd)(e07:Cal P w K mg base 6 "is_name" ["thing"] (spD ⟨K,w⟩ GD false))(c02:Cal P w K mg base 6 "row_name" ["row"] (spD ⟨K,w⟩ Be false))(c01:Cal P w K mg base 6 "row_holder" ["row"] (spD ⟨K,w⟩ Av false))(c82:Cal P w K mg base 6 "is_place" ["thing"] (spD ⟨K,w⟩ DJ false))(e68:Cal P w K mg base 6 "row_y" ["row"] (spD ⟨K,w⟩ Q9 false))(e69:Cal P w K mg base 6 "row_x" ["row"] (spD ⟨K,w⟩ RA false))(e50:Cal P w K mg base 6 "is_data" ["kind","data"] (spD ⟨K,w⟩ KC false))(c81:Cal P w K mg base 6 "row_data" ["row"] (spD ⟨K,w⟩ GX false))(c03:Cal P w K mg base 6 "row_kind" ["row"] (spD ⟨K,w⟩ CK false))(d02:Cal P w K mg base 6 "is_truth" ["thing"] (spD ⟨K,w⟩ Iw false))(e27:Cal P w K mg base 6 "row_shown" ["row"] (spD ⟨K,w⟩ K8 false))(z_len:mg "len"=none)(z_tuple:mg "tuple"=none)(z_isinstance:mg "isinstance"=none):FnOk P w K mg base CX0 7 f fd ["thing"] (spD ⟨K,w⟩ HY false):=by
 have nd:=sc_is_row.nd
 refine F.ok sc_is_row (fun vs H Q E h=>A3 Ad h) (fun cdv A outer s H vs Q E hr h=>?_)
 exact⟨_,(@AN _ _ _ _ _ (@Bt _ _ _ _ _ _ _ _ (@PW.pt _ _ _ (@JO _ _ _ _ _ _ _ (@Du _ _ _ _ (@EE _ _ _ (@BE _ _ _ _ _ _ _ _ _ EY Ox z_isinstance PyProof.Rows.boot_isinstance (@AD _ _ _ _ _ (pv 0 rfl E2 BV BW) (@AD _ _ _ _ _ (Ls VM z_tuple PySem.Pv.boot_tuple Lw MF) AL ⋯) ⋯) CG CH ⋯ ⋯) ⋯)) (@Hl _ _ _ _ (@An _ _ _ _ _ _ _ _ (@GI _ (DM hr)) (@BE _ _ _ _ _ _ _ _ _ CQ Zl z_len PySem.boot_len (@AD _ _ _ _ _ (pv 0 rfl E2 BV BW) AL ⋯) Ct Cv ⋯ ⋯) AM (A7 _))))) (@AV _ _ _ (@Ac _ _ _ _ HI)) Ay) (@AN _ _ _ _ _ (@Bt _ _ _ _ _ _ _ _ (@Du _ _ _ _ (@EE _ _ _ (@AO _ _ _ _ _ _ _ _ _ _ e07 hr L7 (@AD _ _ _ _ _ (@AO _ _ _ _ _ _ _ _ _ _ c02 hr RE (@AD _ _ _ _ _ (pv 0 rfl E2 BV BW) AL ⋯) Ez ⋯ ⋯) AL ⋯) TL ⋯ ⋯) ⋯)) (@AV _ _ _ (@Ac _ _ _ _ HI)) Ay) (@AN _ _ _ _ _ (@Bt _ _ _ _ _ _ _ _ (@PW.pt _ _ _ (@P1 _ _ _ _ _ _ _ (@An _ _ _ _ _ _ _ _ (@GI _ (DM hr)) (@AO _ _ _ _ _ _ _ _ _ _ c01 hr Jl (@AD _ _ _ _ _ (pv 0 rfl E2 BV BW) AL ⋯) Cq ⋯ ⋯) BD (A7 _)) (@MS _ _ _ _ (@Du _ _ _ _ (@EE _ _ _ (@AO _ _ _ _ _ _ _ _ _ _ e07 hr L7 (@AD _ _ _ _ _ (@AO _ _ _ _ _ _ _ _ _ _ c01 hr Jl (@AD _ _ _ _ _ (pv 0 rfl E2 BV BW) AL ⋯) Cq ⋯ ⋯) AL ⋯) TL ⋯ ⋯) ⋯))))) (@AV _ _ _ (@Ac _ _ _ _ HI)) Ay) (@AN _ _ _ _ _ (@Bt _ _ _ _ _ _ _ _ (@PW.pt _ _ _ (@JO _ _ _ _ _ _ _ (@Du _ _ _ _ (@EE _ _ _ (@AO _ _ _ _ _ _ _ _ _ _ c82 hr LA (@AD _ _ _ _ _ (@AO _ _ _ _ _ _ _ _ _ _ e69 hr VO (@AD _ _ _ _ _ (pv 0 rfl E2 BV BW) AL ⋯) g7 ⋯ ⋯) AL ⋯) J3 ⋯ ⋯) ⋯)) (@Hl _ _ _ _ (@Du _ _ _ _ (@EE _ _ _ (@AO _ _ _ _ _ _ _ _ _ _ c82 hr LA (@AD _ _ _ _ _ (@AO _ _ _ _ _ _ _ _ _ _ e68 hr VN (@AD _ _ _ _ _ (pv 0 rfl E2 BV BW) AL ⋯) gz ⋯ ⋯) AL ⋯) J3 ⋯ ⋯) ⋯))))) (@AV _ _ _ (@Ac _ _ _ _ HI)) Ay) (@AV _ _ _ (@Ac _ _ _ _ (@E8 _ _ _ _ _ _ _ (@AO _ _ _ _ _ _ _ _ _ _ d02 hr RI (@AD _ _ _ _ _ (@AO _ _ _ _ _ _ _ _ _ _ e27 hr QN (@AD _ _ _ _ _ (pv 0 rfl E2 BV BW) AL ⋯) XX ⋯ ⋯) AL ⋯) RP ⋯ ⋯) (@Hm _ _ _ _ _ (@AO _ _ _ _ _ _ _ _ _ _ e50 hr SI (@AD _ _ _ _ _ (@AO _ _ _ _ _ _ _ _ _ _ c03 hr RG (@AD _ _ _ _ _ (pv 0 rfl E2 BV BW) AL ⋯) HG ⋯ ⋯) (@AD _ _ _ _ _ (@AO _ _ _ _ _ _ _ _ _ _ c81 hr RH (@AD _ _ _ _ _ (pv 0 rfl E2 BV BW) AL ⋯) Mn ⋯ ⋯) AL ⋯) ⋯) bu ⋯ ⋯))))))))),A2 (N:=["thing"]) (np:=1) (nl:=0) (Ab (Cy (Nl (Fc (Ft (ME (T:="tuple") AH))) (Au (AX NF (C8 GL (AF AH AS)) AQ))) (As K3 (by decide)) Bw) (Ab (Cy (Fc (Ft (AY (AF (AY (AF AH AS)) AS)))) (As K3 (by decide)) Bw) (Ab (Cy (Ua (Au (AX NF (AY (AF AH AS)) Bo)) (Fc (Ft (AY (AF (AY (AF AH AS)) AS))))) (As K3 (by decide)) Bw) (Ab (Cy (Nl (Fc (Ft (AY (AF (AY (AF AH AS)) AS)))) (Fc (Ft (AY (AF (AY (AF AH AS)) AS))))) (As K3 (by decide)) Bw) (As (Hc (AY (AF (AY (AF AH AS)) AS)) (AY (AF (AY (AF AH AS)) (AF (AY (AF AH AS)) AS)))) (by decide)))))) rfl h⟩
theorem Td(F:Fun K "rows_changed" "rows_changed" Br f fd)(e39:Cal P w K mg base 7 "row_done" ["row","deed"] (spD ⟨K,w⟩ Ec false))(c76:Cal P w K mg base 7 "row_of" ["rows","name"] (spD ⟨K,w⟩ Cn false))(d88:Cal P w K mg base 7 "is_row" ["thing"] (spD ⟨K,w⟩ HY false))(c02:Cal P w K mg base 7 "row_name" ["row"] (spD ⟨K,w⟩ Be false)):FnOk P w K mg base CX0 8 f fd ["rows","deed"] (spD ⟨K,w⟩ FT true):=by
 have nd:=sc_rows_changed.nd
 refine F.ok sc_rows_changed (fun vs H Q E h=>A3 Ad h) (fun cdv A outer s H vs Q E hr h=>?_)
 exact⟨_,(@AN _ _ _ _ _ (@Az _ _ 2 _ _ _ _ nd rfl Lx (@AO _ _ _ _ _ _ _ _ _ _ e39 hr L5 (@AD _ _ _ _ _ (@AO _ _ _ _ _ _ _ _ _ _ c76 hr NH (@AD _ _ _ _ _ (pv 0 rfl Ll Bu Bv) (@AD _ _ _ _ _ (@Aw _ _ _ _ _ _ _ Am (pv 1 rfl Lk Dx Dy) AM (fun _ _=>rfl)) AL ⋯) ⋯) Kk ⋯ ⋯) (@AD _ _ _ _ _ (pv 1 rfl Lk Dx Dy) AL ⋯) ⋯) Zr ⋯ ⋯) ⋯ ⋯) (@AN _ _ _ _ _ (@Bt _ _ _ _ _ _ _ _ (@Du _ _ _ _ (@EE _ _ _ (@AO _ _ _ _ _ _ _ _ _ _ d88 hr NI (@AD _ _ _ _ _ (pv 2 rfl Rb TM TV) AL ⋯) Vh ⋯ ⋯) ⋯)) (@AV _ _ _ HW) Ay) (@AV _ _ _ (@Ac _ _ _ _ (@KQ _ ["row","changed","deed"] 1 [2,1] _ _ _ _ _ _ _ _ _ _ rfl (@Ji _ ["row","changed","deed"] 1 [2,1] _ ["rows","deed","changed"] (AA Br) rfl rfl ∅) (@FF _ _ _ _ (pv 0 rfl Ll Bu Bv)) (fun cl fp s3 H3=>(@Aq _ _ 0 _ Ro rfl (DR ∅) (Or.inr (DV ∅)))) (fun cl fp s3 H3=>Ju) (fun cl fp s3 H3=>(@aQ _ _ _ _ _ _ _ _ (@An _ _ _ _ _ _ _ _ (@CF _ (DM hr)) (@AO _ _ _ _ _ _ _ _ _ _ c02 hr (Gu ∅) (@AD _ _ _ _ _ (pv 0 rfl (Bz ∅) BO BP) AL ⋯) Ez ⋯ ⋯) (@Aw _ _ _ _ _ _ _ Am (pv 2 rfl (Eo ∅) Dx Dy) AM (fun _ _=>rfl)) (A7 _)) (pv 1 rfl (Eo ∅) TM TV) (pv 0 rfl (Bz ∅) BO BP))) ⋯))))),A2 (N:=["rows","deed","changed"]) (np:=2) (nl:=1) (Ab (BJ (AY (AF (AY (AF AH (AF (AX BF AH AQ) AS))) (AF AH AS))) Aa) (Ab (Cy (Fc (Ft (AY (AF AH AS)))) JJ Bw) (As (O1 (FG AH) Aa Ql (pF (Au (AX FQ (AY (AF AH AS)) (AX BF AH AQ))) AH AH)) (by decide)))) rfl h⟩
theorem We(F:Fun K "holders_of" "holders_of" B9 f fd)(c07:Cal P w K mg base 2 "row_found" ["rows","name"] (spD ⟨K,w⟩ Cb false))(c01:Cal P w K mg base 2 "row_holder" ["row"] (spD ⟨K,w⟩ Av false)):FnOk P w K mg base CX0 3 f fd ["rows","name"] (spD ⟨K,w⟩ Df true):=by
 have nd:=sc_holders_of.nd
 refine F.ok sc_holders_of (fun vs H Q E h=>A3 Ad h) (fun cdv A outer s H vs Q E hr h=>?_)
 exact⟨_,(@AN _ _ _ _ _ (@Az _ _ 2 _ _ _ _ nd rfl N0 (@Jf _ _ _ _ AL) ⋯ ⋯) (@AN _ _ _ _ _ (@Az _ _ 3 _ _ _ _ nd rfl KS (@AO _ _ _ _ _ _ _ _ _ _ c07 hr IQ (@AD _ _ _ _ _ (pv 0 rfl Ng Bu Bv) (@AD _ _ _ _ _ (pv 1 rfl UO Ef Eh) AL ⋯) ⋯) Hd ⋯ ⋯) ⋯ ⋯) (@AN _ _ _ _ _ (@Np _ _ _ _ _ _ PassesOwn.never (@PW.pt _ _ _ (@P1 _ _ _ _ _ _ _ (@An _ _ _ _ _ _ _ _ eW (pv 3 rfl II BO BP) Uh (A7 _)) (@MS _ _ _ _ (@An _ _ _ _ _ _ _ _ (@GI _ (DM hr)) (@AO _ _ _ _ _ _ _ _ _ _ c01 hr FW (@AD _ _ _ _ _ (pv 3 rfl II BO BP) AL ⋯) Cq ⋯ ⋯) BD (A7 _))))) (@AN _ _ _ _ _ (@Gv _ _ _ _ (@Nq _ _ _ _ _ _ _ _ _ _ _ _ PySem.F.plainAttrs_list PySem.F.slot_list_append PySem.F.type_list_append FR (pv 2 rfl Nf LB LG) (@AD _ _ _ _ _ (@AO _ _ _ _ _ _ _ _ _ _ c01 hr FW (@AD _ _ _ _ _ (pv 3 rfl II BO BP) AL ⋯) Cq ⋯ ⋯) AL ⋯) ⋯ ⋯ ⋯ ⋯ ⋯) ⋯) (@AV _ _ _ (@Az _ _ 3 _ _ _ _ nd rfl KS (@AO _ _ _ _ _ _ _ _ _ _ c07 hr IQ (@AD _ _ _ _ _ (pv 0 rfl Ng Bu Bv) (@AD _ _ _ _ _ (@AO _ _ _ _ _ _ _ _ _ _ c01 hr FW (@AD _ _ _ _ _ (pv 3 rfl II BO BP) AL ⋯) Cq ⋯ ⋯) AL ⋯) ⋯) Hd ⋯ ⋯) ⋯ ⋯)))) (@AV _ _ _ (@Ac _ _ _ _ (pv 2 rfl Nf LB LG)))))),A2 (N:=["rows","name","holders","row"]) (np:=2) (nl:=2) (Ab cJ (Ab (BJ (AY (AF AH (AF AH AS))) Aa) (Ab (RZ (Ua (Au (AX jD AH bj)) (Au (AX NF (AY (AF AH AS)) Bo))) (Ab (JF (XS (i:=2) HZ (AF (AY (AF AH AS)) AS))) (BJ (AY (AF AH (AF (AY (AF AH AS)) AS))) Aa))) (Z8 (i:=2))))) rfl h⟩
theorem Yx(F:Fun K "is_holder" "is_holder" EL f fd)(c03:Cal P w K mg base 1 "row_kind" ["row"] (spD ⟨K,w⟩ CK false)){uv_HOLDERS:Value}(kc_HOLDERS:mg "HOLDERS"=some uv_HOLDERS)(kt_HOLDERS:EC ⟨K,w⟩ (.tuple [(.str "group"),(.str "glass"),(.str "window"),(.str "turn"),(.str "tiles"),(.str "mask")]) uv_HOLDERS=true):FnOk P w K mg base CX0 2 f fd ["row"] (spD ⟨K,w⟩ Ga false):=by
 have nd:=sc_is_holder.nd
 obtain⟨cv_HOLDERS,rv_HOLDERS,iv_HOLDERS⟩:=Vz kt_HOLDERS
 refine F.ok sc_is_holder (fun vs H Q E h=>A3 Ad h) (fun cdv A outer s H vs Q E hr h=>?_)
 exact⟨_,(@AV _ _ _ (@Ac _ _ _ _ (@Ej _ _ _ _ _ _ _ _ (@Nt _ (RB hr)) (@AO _ _ _ _ _ _ _ _ _ _ c03 hr OK (@AD _ _ _ _ _ (pv 0 rfl WO BO BP) AL ⋯) HG ⋯ ⋯) (@MU _ _ cv_HOLDERS _ _ Oz kc_HOLDERS rv_HOLDERS cB) (by with_unfolding_all rfl)))),A2 (N:=["row"]) (np:=1) (nl:=0) (As (AX Rm (AY (AF AH AS)) (e_c iv_HOLDERS)) (by decide)) rfl h⟩
theorem ae(F:Fun K "is_tiles" "is_tiles" ED f fd)(c03:Cal P w K mg base 3 "row_kind" ["row"] (spD ⟨K,w⟩ CK false))(c76:Cal P w K mg base 3 "row_of" ["rows","name"] (spD ⟨K,w⟩ Cn false)):FnOk P w K mg base CX0 4 f fd ["rows","name"] (spD ⟨K,w⟩ Fm false):=by
 have nd:=sc_is_tiles.nd
 refine F.ok sc_is_tiles (fun vs H Q E h=>A3 Ad h) (fun cdv A outer s H vs Q E hr h=>?_)
 exact⟨_,(@AV _ _ _ (@Ac _ _ _ _ (@Ej _ _ _ _ _ _ _ _ (@CF _ (DM hr)) (@AO _ _ _ _ _ _ _ _ _ _ c03 hr Ov (@AD _ _ _ _ _ (@AO _ _ _ _ _ _ _ _ _ _ c76 hr RD (@AD _ _ _ _ _ (pv 0 rfl Yd Bu Bv) (@AD _ _ _ _ _ (pv 1 rfl Yc Ef Eh) AL ⋯) ⋯) Kk ⋯ ⋯) AL ⋯) HG ⋯ ⋯) BD (A7 _)))),A2 (N:=["rows","name"]) (np:=2) (nl:=0) (As (AX FQ (AY (AF (AY (AF AH (AF AH AS))) AS)) Bo) (by decide)) rfl h⟩
theorem cz(F:Fun K "vet_row" "vet_row" B0 f fd)(d88:Cal P w K mg base 7 "is_row" ["thing"] (spD ⟨K,w⟩ HY false))(c07:Cal P w K mg base 7 "row_found" ["rows","name"] (spD ⟨K,w⟩ Cb false))(c02:Cal P w K mg base 7 "row_name" ["row"] (spD ⟨K,w⟩ Be false))(c01:Cal P w K mg base 7 "row_holder" ["row"] (spD ⟨K,w⟩ Av false))(e28:Cal P w K mg base 7 "is_holder" ["row"] (spD ⟨K,w⟩ Ga false))(c93:Cal P w K mg base 7 "holders_of" ["rows","name"] (spD ⟨K,w⟩ Df true))(e40:Cal P w K mg base 7 "is_tiles" ["rows","name"] (spD ⟨K,w⟩ Fm false))(c03:Cal P w K mg base 7 "row_kind" ["row"] (spD ⟨K,w⟩ CK false))(z_len:mg "len"=none)(z_any:mg "any"=none){tk_MOST_HOLDERS:Tok}(kc_MOST_HOLDERS:mg "MOST_HOLDERS"=some (.int 6 tk_MOST_HOLDERS)):FnOk P w K mg base CX0 8 f fd ["ahead","row"] (spD ⟨K,w⟩ Ip false):=by
 have nd:=sc_vet_row.nd
 refine F.ok sc_vet_row (fun vs H Q E h=>A3 Ad h) (fun cdv A outer s H vs Q E hr h=>?_)
 exact⟨_,(@AN _ _ _ _ _ (@Bt _ _ _ _ _ _ _ _ (@Du _ _ _ _ (@EE _ _ _ (@AO _ _ _ _ _ _ _ _ _ _ d88 hr R8 (@AD _ _ _ _ _ (pv 1 rfl GO BO BP) AL ⋯) Vh ⋯ ⋯) ⋯)) (@AV _ _ _ HW) Ay) (@AN _ _ _ _ _ (@Bt _ _ _ _ _ _ _ _ (@An _ _ _ _ _ _ _ _ eW (@AO _ _ _ _ _ _ _ _ _ _ c07 hr Jj (@AD _ _ _ _ _ (pv 0 rfl NX Oh Oi) (@AD _ _ _ _ _ (@AO _ _ _ _ _ _ _ _ _ _ c02 hr QD (@AD _ _ _ _ _ (pv 1 rfl GO BO BP) AL ⋯) Ez ⋯ ⋯) AL ⋯) ⋯) Hd ⋯ ⋯) Uh (A7 _)) (@AV _ _ _ HW) Ay) (@AN _ _ _ _ _ (@Bt _ _ _ _ _ _ _ _ (@An _ _ _ _ _ _ _ _ (@CF _ (DM hr)) (@AO _ _ _ _ _ _ _ _ _ _ c01 hr Ey (@AD _ _ _ _ _ (pv 1 rfl GO BO BP) AL ⋯) Cq ⋯ ⋯) BD (A7 _)) (@AV _ _ _ kA) Ay) (@AN _ _ _ _ _ (@Az _ _ 2 _ _ _ _ nd rfl Sx (@AO _ _ _ _ _ _ _ _ _ _ c07 hr Jj (@AD _ _ _ _ _ (pv 0 rfl NX Oh Oi) (@AD _ _ _ _ _ (@AO _ _ _ _ _ _ _ _ _ _ c01 hr Ey (@AD _ _ _ _ _ (pv 1 rfl GO BO BP) AL ⋯) Cq ⋯ ⋯) AL ⋯) ⋯) Hd ⋯ ⋯) ⋯ ⋯) (@AN _ _ _ _ _ (@Bt _ _ _ _ _ _ _ _ (@PW.pt _ _ _ (@JO _ _ _ _ _ _ _ (@An _ _ _ _ _ _ _ _ i0 (pv 2 rfl Sh Mp Ms) Uh (A7 _)) (@Hl _ _ _ _ (@Du _ _ _ _ (@EE _ _ _ (@AO _ _ _ _ _ _ _ _ _ _ e28 hr Oq (@AD _ _ _ _ _ (pv 2 rfl Sh Mp Ms) AL ⋯) XY ⋯ ⋯) ⋯))))) (@AV _ _ _ HW) Ay) (@AN _ _ _ _ _ (@Az _ _ 3 _ _ _ _ nd rfl Sw (@Ae _ _ _ _ _ _ _ _ P2 (@Jf _ _ _ _ (@AD _ _ _ _ _ (@AO _ _ _ _ _ _ _ _ _ _ c01 hr Ey (@AD _ _ _ _ _ (pv 1 rfl GO BO BP) AL ⋯) Cq ⋯ ⋯) AL ⋯)) (@AO _ _ _ _ _ _ _ _ _ _ c93 hr OB (@AD _ _ _ _ _ (pv 0 rfl NX Oh Oi) (@AD _ _ _ _ _ (@AO _ _ _ _ _ _ _ _ _ _ c01 hr Ey (@AD _ _ _ _ _ (pv 1 rfl GO BO BP) AL ⋯) Cq ⋯ ⋯) AL ⋯) ⋯) OV ⋯ ⋯)) ⋯ ⋯) (@AN _ _ _ _ _ (@Bt _ _ _ _ _ _ _ _ (@An _ _ _ _ _ _ _ _ X1 (@BE _ _ _ _ _ _ _ _ _ CQ XF z_len PySem.boot_len (@AD _ _ _ _ _ (pv 3 rfl Sg LB LG) AL ⋯) Ct Cv ⋯ ⋯) (@MU _ _ (.int 6) _ _ Me kc_MOST_HOLDERS ⟨_,rfl⟩ SV) (A7 _)) (@AV _ _ _ HW) Ay) (@AV _ _ _ (@Bt _ _ _ _ _ _ _ _ (@PW.pt _ _ _ (@P1 _ _ _ _ _ _ _ (@An _ _ _ _ _ _ _ _ (@CF _ (DM hr)) (@AO _ _ _ _ _ _ _ _ _ _ c03 hr QE (@AD _ _ _ _ _ (pv 1 rfl GO BO BP) AL ⋯) HG ⋯ ⋯) BD (A7 _)) (@MS _ _ _ _ (@EE _ _ _ (@BE _ _ _ _ _ _ _ _ _ (@iA _ rfl) XG z_any PyProof.Rows.boot_any (@AD _ _ _ _ _ (@KQ _ ["name","ahead"] 1 [0] _ _ _ _ _ _ _ _ _ _ rfl (@Ji _ ["name","ahead"] 1 [0] _ ["ahead","row","holder","holders"] (AA B0) rfl rfl ∅) (@FF _ _ _ _ (pv 3 rfl Sg LB LG)) (fun cl fp s3 H3=>(@Aq _ _ 0 _ aw rfl (DR ∅) (Or.inr (DV ∅)))) (fun cl fp s3 H3=>Ju) (fun cl fp s3 H3=>(@AO _ _ _ _ _ _ _ _ _ _ e40 hr (Gu ∅) (@AD _ _ _ _ _ (pv 1 rfl (Eo ∅) Oh Oi) (@AD _ _ _ _ _ (pv 0 rfl (Bz ∅) Ef Eh) AL ⋯) ⋯) Zu ⋯ ⋯)) ⋯) AL ⋯) kQ lF ⋯ ⋯) ⋯)))) (@AV _ _ _ HW) Ay))))))))),A2 (N:=["ahead","row","holder","holders"]) (np:=2) (nl:=2) (Ab (Cy (Fc (Ft (AY (AF AH AS)))) JJ Bw) (Ab (Cy (Au (AX jD (AY (AF AH (AF (AY (AF AH AS)) AS))) bj)) JJ Bw) (Ab (Cy (Au (AX FQ (AY (AF AH AS)) Bo)) nV Bw) (Ab (BJ (AY (AF AH (AF (AY (AF AH AS)) AS))) Aa) (Ab (Cy (Nl (Au (AX mH AH bj)) (Fc (Ft (AY (AF AH AS))))) JJ Bw) (Ab (BJ (AX Uq (Va (AF (AY (AF AH AS)) AS)) (AY (AF AH (AF (AY (AF AH AS)) AS)))) Aa) (Ab (Cy (Au (AX gR (C8 GL (AF AH AS)) AQ)) JJ Bw) (Cy (Ua (Au (AX FQ (AY (AF AH AS)) Bo)) (Ft (C8 nQ (AF (O1 (FG AH) Aa Ql (AY (AF AH (AF AH AS)))) AS)))) JJ Bw)))))))) rfl h⟩
theorem m5(F:Fun K "vet" "vet" Jh f fd)(e51:Cal P w K mg base 8 "vet_row" ["ahead","row"] (spD ⟨K,w⟩ Ip false))(z_enumerate:mg "enumerate"=none)(z_len:mg "len"=none){tk_MOST_ROWS:Tok}(kc_MOST_ROWS:mg "MOST_ROWS"=some (.int 24 tk_MOST_ROWS)):FnOk P w K mg base CX0 9 f fd ["rows"] (spD ⟨K,w⟩ U9 false):=by
 have nd:=sc_vet.nd
 refine F.ok sc_vet (fun vs H Q E h=>A3 Ad h) (fun cdv A outer s H vs Q E hr h=>?_)
 exact⟨_,(@AN _ _ _ _ _ (@IL _ _ _ _ _ _ _ _ PassesOwn.never rfl (@kB _ _ _ _ _ _ _ _ Tr z_enumerate (@AD _ _ _ _ _ (pv 0 rfl YU Bu Bv) AL ⋯) Wj XZ ⋯) (@E7 _ _ _ _ _ _ rfl (@BL _ _ _ _ _ (@Aq _ _ 1 _ nd rfl eo ⋯) (@BL _ _ _ _ _ (@Aq _ _ 2 _ nd rfl eh ⋯) Dd ⋯) ⋯) ⋯ ⋯) (@AV _ _ _ (@Gv _ _ _ _ (@AO _ _ _ _ _ _ _ _ _ _ e51 hr XE (@AD _ _ _ _ _ (@FP _ _ _ _ _ _ _ _ _ _ T8 (pv 0 rfl YU Bu Bv) Gx (@Gw _ _ _ (pv 1 rfl j0 SQ Sb))) (@AD _ _ _ _ _ (pv 2 rfl jz BO BP) AL ⋯) ⋯) bq ⋯ ⋯) ⋯)) ⋯) (@AN _ _ _ _ _ (@Bt _ _ _ _ _ _ _ _ (@An _ _ _ _ _ _ _ _ X1 (@BE _ _ _ _ _ _ _ _ _ CQ gm z_len PySem.boot_len (@AD _ _ _ _ _ (pv 0 rfl YU Bu Bv) AL ⋯) Ct Cv ⋯ ⋯) (@MU _ _ (.int 24) _ _ Ts kc_MOST_ROWS ⟨_,rfl⟩ Xf) (A7 _)) (@AV _ _ _ HW) Ay) (@AV _ _ _ (@Ac _ _ _ _ HI)))),A2 (N:=["rows","place","row"]) (np:=1) (nl:=2) (Ab (nW (ke AH) (Ha (Bk Aa (Bk Aa FA)) (BN (BN Dh))) (JF (AY (AF (ky AH Lv (Rl AH)) (AF AH AS))))) (Ab (Cy (Au (AX gR (C8 GL (AF AH AS)) AQ)) JJ Bw) (As K3 (by decide)))) rfl h⟩
theorem aT(F:Fun K "rows_put" "rows_put" DW f fd)(e80:Cal P w K mg base 9 "vet" ["rows"] (spD ⟨K,w⟩ U9 false)):FnOk P w K mg base CX0 10 f fd ["rows","row"] (spD ⟨K,w⟩ Iq false):=by
 have nd:=sc_rows_put.nd
 refine F.ok sc_rows_put (fun vs H Q E h=>A3 Ad h) (fun cdv A outer s H vs Q E hr h=>?_)
 exact⟨_,(@AN _ _ _ _ _ (@Az _ _ 2 _ _ _ _ nd rfl Qx (@Ae _ _ _ _ _ _ _ _ P2 (pv 0 rfl YW Bu Bv) (@Jf _ _ _ _ (@AD _ _ _ _ _ (pv 1 rfl YV BO BP) AL ⋯))) ⋯ ⋯) (@AN _ _ _ _ _ (@Gv _ _ _ _ (@AO _ _ _ _ _ _ _ _ _ _ e80 hr VI (@AD _ _ _ _ _ (pv 2 rfl Qc Vi V2) AL ⋯) lD ⋯ ⋯) ⋯) (@AV _ _ _ (@Ac _ _ _ _ (pv 2 rfl Qc Vi V2))))),A2 (N:=["rows","row","behind"]) (np:=2) (nl:=1) (Ab (BJ (AX Uq AH (Va (AF AH AS))) Aa) (Ab (JF (AY (AF AH AS))) (As AH (by decide)))) rfl h⟩
theorem aY(F:Fun K "parts_in" "parts_in" Fi f fd)(c93:Cal P w K mg base 3 "holders_of" ["rows","name"] (spD ⟨K,w⟩ Df true))(c02:Cal P w K mg base 3 "row_name" ["row"] (spD ⟨K,w⟩ Be false)):FnOk P w K mg base CX0 4 f fd ["rows","name"] (spD ⟨K,w⟩ Ir true):=by
 have nd:=sc_parts_in.nd
 refine F.ok sc_parts_in (fun vs H Q E h=>A3 Ad h) (fun cdv A outer s H vs Q E hr h=>?_)
 exact⟨_,(@AV _ _ _ (@Ac _ _ _ _ (@KQ _ ["row","name","rows"] 1 [1,0] _ _ _ _ _ _ _ _ _ _ rfl (@Ji _ ["row","name","rows"] 1 [1,0] _ ["rows","name"] (AA Fi) rfl rfl ∅) (@FF _ _ _ _ (pv 0 rfl Ya Bu Bv)) (fun cl fp s3 H3=>(@Aq _ _ 0 _ Y8 rfl (DR ∅) (Or.inr (DV ∅)))) (fun cl fp s3 H3=>(@MT _ _ _ (@An _ _ _ _ _ _ _ _ (@Nt _ (RB hr)) (pv 1 rfl (Eo ∅) Ef Eh) (@AO _ _ _ _ _ _ _ _ _ _ c93 hr (Gu ∅) (@AD _ _ _ _ _ (pv 2 rfl (Eo ∅) Bu Bv) (@AD _ _ _ _ _ (@AO _ _ _ _ _ _ _ _ _ _ c02 hr (Gu ∅) (@AD _ _ _ _ _ (pv 0 rfl (Bz ∅) BO BP) AL ⋯) Ez ⋯ ⋯) AL ⋯) ⋯) OV ⋯ ⋯) (by with_unfolding_all rfl)))) (fun cl fp s3 H3=>(@AO _ _ _ _ _ _ _ _ _ _ c02 hr (Gu ∅) (@AD _ _ _ _ _ (pv 0 rfl (Bz ∅) BO BP) AL ⋯) Ez ⋯ ⋯)) ⋯))),A2 (N:=["rows","name"]) (np:=2) (nl:=0) (As (O1 (FG AH) Aa (Au (AX Rm AH (AY (AF AH (AF (AY (AF AH AS)) AS))))) (AY (AF AH AS))) (by decide)) rfl h⟩
theorem Wb(F:Fun K "names_with" "names_with" DD f fd)(e41:Cal P w K mg base 4 "parts_in" ["rows","name"] (spD ⟨K,w⟩ Ir true)):FnOk P w K mg base CX0 5 f fd ["rows","name"] (spD ⟨K,w⟩ Eu true):=by
 have nd:=sc_names_with.nd
 refine F.ok sc_names_with (fun vs H Q E h=>A3 Ad h) (fun cdv A outer s H vs Q E hr h=>?_)
 exact⟨_,(@AV _ _ _ (@Ac _ _ _ _ (@Ae _ _ _ _ _ _ _ _ P2 (@Jf _ _ _ _ (@AD _ _ _ _ _ (pv 1 rfl NZ Ef Eh) AL ⋯)) (@AO _ _ _ _ _ _ _ _ _ _ e41 hr NN (@AD _ _ _ _ _ (pv 0 rfl UL Bu Bv) (@AD _ _ _ _ _ (pv 1 rfl NZ Ef Eh) AL ⋯) ⋯) Zt ⋯ ⋯)))),A2 (N:=["rows","name"]) (np:=2) (nl:=0) (As (AX Uq (Va (AF AH AS)) (AY (AF AH (AF AH AS)))) (by decide)) rfl h⟩
theorem Tc(F:Fun K "rows_without" "rows_without" CA f fd)(c94:Cal P w K mg base 5 "names_with" ["rows","name"] (spD ⟨K,w⟩ Eu true))(c02:Cal P w K mg base 5 "row_name" ["row"] (spD ⟨K,w⟩ Be false)):FnOk P w K mg base CX0 6 f fd ["rows","name"] (spD ⟨K,w⟩ Ca true):=by
 have nd:=sc_rows_without.nd
 refine F.ok sc_rows_without (fun vs H Q E h=>A3 Ad h) (fun cdv A outer s H vs Q E hr h=>?_)
 exact⟨_,(@AN _ _ _ _ _ (@Az _ _ 2 _ _ _ _ nd rfl Rq (@AO _ _ _ _ _ _ _ _ _ _ c94 hr Kw (@AD _ _ _ _ _ (pv 0 rfl Lj Bu Bv) (@AD _ _ _ _ _ (pv 1 rfl Ra Ef Eh) AL ⋯) ⋯) OS ⋯ ⋯) ⋯ ⋯) (@AV _ _ _ (@Ac _ _ _ _ (@KQ _ ["row","names"] 1 [2] _ _ _ _ _ _ _ _ _ _ rfl (@Ji _ ["row","names"] 1 [2] _ ["rows","name","names"] (AA CA) rfl rfl ∅) (@FF _ _ _ _ (pv 0 rfl Lj Bu Bv)) (fun cl fp s3 H3=>(@Aq _ _ 0 _ Rn rfl (DR ∅) (Or.inr (DV ∅)))) (fun cl fp s3 H3=>(@MT _ _ _ (@An _ _ _ _ _ _ _ _ (@Lu _ (RB hr)) (@AO _ _ _ _ _ _ _ _ _ _ c02 hr (Gu ∅) (@AD _ _ _ _ _ (pv 0 rfl (Bz ∅) BO BP) AL ⋯) Ez ⋯ ⋯) (pv 1 rfl (Eo ∅) YI YL) (by with_unfolding_all rfl)))) (fun cl fp s3 H3=>(pv 0 rfl (Bz ∅) BO BP)) ⋯)))),A2 (N:=["rows","name","names"]) (np:=2) (nl:=1) (Ab (BJ (AY (AF AH (AF AH AS))) Aa) (As (O1 (FG AH) Aa (Au (AX Rm (AY (AF AH AS)) AH)) AH) (by decide))) rfl h⟩
theorem Yq(F:Fun K "rows_with" "rows_with" Cz f fd)(c94:Cal P w K mg base 5 "names_with" ["rows","name"] (spD ⟨K,w⟩ Eu true))(c02:Cal P w K mg base 5 "row_name" ["row"] (spD ⟨K,w⟩ Be false)):FnOk P w K mg base CX0 6 f fd ["rows","name"] (spD ⟨K,w⟩ Ff true):=by
 have nd:=sc_rows_with.nd
 refine F.ok sc_rows_with (fun vs H Q E h=>A3 Ad h) (fun cdv A outer s H vs Q E hr h=>?_)
 exact⟨_,(@AN _ _ _ _ _ (@Az _ _ 2 _ _ _ _ nd rfl Wk (@AO _ _ _ _ _ _ _ _ _ _ c94 hr Mf (@AD _ _ _ _ _ (pv 0 rfl O4 Bu Bv) (@AD _ _ _ _ _ (pv 1 rfl WG Ef Eh) AL ⋯) ⋯) OS ⋯ ⋯) ⋯ ⋯) (@AV _ _ _ (@Ac _ _ _ _ (@KQ _ ["row","names"] 1 [2] _ _ _ _ _ _ _ _ _ _ rfl (@Ji _ ["row","names"] 1 [2] _ ["rows","name","names"] (AA Cz) rfl rfl ∅) (@FF _ _ _ _ (pv 0 rfl O4 Bu Bv)) (fun cl fp s3 H3=>(@Aq _ _ 0 _ Wi rfl (DR ∅) (Or.inr (DV ∅)))) (fun cl fp s3 H3=>(@MT _ _ _ (@An _ _ _ _ _ _ _ _ (@Nt _ (RB hr)) (@AO _ _ _ _ _ _ _ _ _ _ c02 hr (Gu ∅) (@AD _ _ _ _ _ (pv 0 rfl (Bz ∅) BO BP) AL ⋯) Ez ⋯ ⋯) (pv 1 rfl (Eo ∅) YI YL) (by with_unfolding_all rfl)))) (fun cl fp s3 H3=>(pv 0 rfl (Bz ∅) BO BP)) ⋯)))),A2 (N:=["rows","name","names"]) (np:=2) (nl:=1) (Ab (BJ (AY (AF AH (AF AH AS))) Aa) (As (O1 (FG AH) Aa (Au (AX Rm (AY (AF AH AS)) AH)) AH) (by decide))) rfl h⟩
theorem Ui(F:Fun K "rows_raised" "rows_raised" Cc f fd)(c08:Cal P w K mg base 6 "rows_without" ["rows","name"] (spD ⟨K,w⟩ Ca true))(c97:Cal P w K mg base 6 "rows_with" ["rows","name"] (spD ⟨K,w⟩ Ff true)):FnOk P w K mg base CX0 7 f fd ["rows","name"] (spD ⟨K,w⟩ GC true):=by
 have nd:=sc_rows_raised.nd
 refine F.ok sc_rows_raised (fun vs H Q E h=>A3 Ad h) (fun cdv A outer s H vs Q E hr h=>?_)
 exact⟨_,(@AV _ _ _ (@Ac _ _ _ _ (@Ae _ _ _ _ _ _ _ _ P2 (@AO _ _ _ _ _ _ _ _ _ _ c08 hr Kb (@AD _ _ _ _ _ (pv 0 rfl M0 Bu Bv) (@AD _ _ _ _ _ (pv 1 rfl Mz Ef Eh) AL ⋯) ⋯) JD ⋯ ⋯) (@AO _ _ _ _ _ _ _ _ _ _ c97 hr L4 (@AD _ _ _ _ _ (pv 0 rfl M0 Bu Bv) (@AD _ _ _ _ _ (pv 1 rfl Mz Ef Eh) AL ⋯) ⋯) Pg ⋯ ⋯)))),A2 (N:=["rows","name"]) (np:=2) (nl:=0) (As (AX Uq (AY (AF AH (AF AH AS))) (AY (AF AH (AF AH AS)))) (by decide)) rfl h⟩
theorem Te(F:Fun K "place_behind" "place_behind" CY f fd)(c76:Cal P w K mg base 3 "row_of" ["rows","name"] (spD ⟨K,w⟩ Cn false)):FnOk P w K mg base CX0 4 f fd ["rows","holder"] (spD ⟨K,w⟩ Ed false):=by
 have nd:=sc_place_behind.nd
 refine F.ok sc_place_behind (fun vs H Q E h=>A3 Ad h) (fun cdv A outer s H vs Q E hr h=>?_)
 exact⟨_,(@AV _ _ _ (@Ac _ _ _ _ (@aQ _ _ _ _ _ _ _ _ (@An _ _ _ _ _ _ _ _ (@CF _ (DM hr)) (pv 1 rfl Lm Mp Ms) BD (A7 _)) AM (@Ae _ _ _ _ _ _ _ _ E9 (@Nq _ _ _ _ _ _ _ _ _ _ _ _ PySem.F.plainAttrs_list PySem.F.slot_list_index PySem.F.type_list_index (gc (RB hr)) (pv 0 rfl Ln Bu Bv) (@AD _ _ _ _ _ (@AO _ _ _ _ _ _ _ _ _ _ c76 hr NM (@AD _ _ _ _ _ (pv 0 rfl Ln Bu Bv) (@AD _ _ _ _ _ (pv 1 rfl Lm Mp Ms) AL ⋯) ⋯) Kk ⋯ ⋯) AL ⋯) ⋯ ⋯ ⋯ ⋯ ⋯) AM)))),A2 (N:=["rows","holder"]) (np:=2) (nl:=0) (As (pF (Au (AX FQ AH Bo)) AQ (AX HX (nL AH (AY (AF AH (AF AH AS)))) AQ)) (by decide)) rfl h⟩
theorem Yr(F:Fun K "rows_sunk" "rows_sunk" B4 f fd)(c08:Cal P w K mg base 6 "rows_without" ["rows","name"] (spD ⟨K,w⟩ Ca true))(e00:Cal P w K mg base 6 "place_behind" ["rows","holder"] (spD ⟨K,w⟩ Ed false))(c01:Cal P w K mg base 6 "row_holder" ["row"] (spD ⟨K,w⟩ Av false))(c76:Cal P w K mg base 6 "row_of" ["rows","name"] (spD ⟨K,w⟩ Cn false))(c97:Cal P w K mg base 6 "rows_with" ["rows","name"] (spD ⟨K,w⟩ Ff true)):FnOk P w K mg base CX0 7 f fd ["rows","name"] (spD ⟨K,w⟩ Hz true):=by
 have nd:=sc_rows_sunk.nd
 refine F.ok sc_rows_sunk (fun vs H Q E h=>A3 Ad h) (fun cdv A outer s H vs Q E hr h=>?_)
 exact⟨_,(@AN _ _ _ _ _ (@Az _ _ 2 _ _ _ _ nd rfl PN (@AO _ _ _ _ _ _ _ _ _ _ c08 hr LW (@AD _ _ _ _ _ (pv 0 rfl LJ Bu Bv) (@AD _ _ _ _ _ (pv 1 rfl LI Ef Eh) AL ⋯) ⋯) JD ⋯ ⋯) ⋯ ⋯) (@AN _ _ _ _ _ (@Az _ _ 3 _ _ _ _ nd rfl PM (@AO _ _ _ _ _ _ _ _ _ _ e00 hr LX (@AD _ _ _ _ _ (pv 2 rfl LH RO RW) (@AD _ _ _ _ _ (@AO _ _ _ _ _ _ _ _ _ _ c01 hr Mg (@AD _ _ _ _ _ (@AO _ _ _ _ _ _ _ _ _ _ c76 hr QF (@AD _ _ _ _ _ (pv 0 rfl LJ Bu Bv) (@AD _ _ _ _ _ (pv 1 rfl LI Ef Eh) AL ⋯) ⋯) Kk ⋯ ⋯) AL ⋯) Cq ⋯ ⋯) AL ⋯) ⋯) SO ⋯ ⋯) ⋯ ⋯) (@AV _ _ _ (@Ac _ _ _ _ (@Ae _ _ _ _ _ _ _ _ P2 (@Ae _ _ _ _ _ _ _ _ P2 (@FP _ _ _ _ _ _ _ _ _ _ T8 (pv 2 rfl LH RO RW) Gx (@Gw _ _ _ (pv 3 rfl O5 SQ Sb))) (@AO _ _ _ _ _ _ _ _ _ _ c97 hr NG (@AD _ _ _ _ _ (pv 0 rfl LJ Bu Bv) (@AD _ _ _ _ _ (pv 1 rfl LI Ef Eh) AL ⋯) ⋯) Pg ⋯ ⋯)) (@FP _ _ _ _ _ _ _ _ _ _ T8 (pv 2 rfl LH RO RW) (@Gw _ _ _ (pv 3 rfl O5 SQ Sb)) Gx)))))),A2 (N:=["rows","name","rest","place"]) (np:=2) (nl:=2) (Ab (BJ (AY (AF AH (AF AH AS))) Aa) (Ab (BJ (AY (AF AH (AF (AY (AF (AY (AF AH (AF AH AS))) AS)) AS))) Aa) (As (AX Uq (AX Uq (ky AH Lv (Rl AH)) (AY (AF AH (AF AH AS)))) (ky AH (Rl AH) Lv)) (by decide)))) rfl h⟩
theorem Yy(F:Fun K "deed_done" "deed_done" B7 f fd)(e42:Cal P w K mg base 10 "rows_put" ["rows","row"] (spD ⟨K,w⟩ Iq false))(c76:Cal P w K mg base 10 "row_of" ["rows","name"] (spD ⟨K,w⟩ Cn false))(c08:Cal P w K mg base 10 "rows_without" ["rows","name"] (spD ⟨K,w⟩ Ca true))(e11:Cal P w K mg base 10 "rows_raised" ["rows","name"] (spD ⟨K,w⟩ GC true))(e29:Cal P w K mg base 10 "rows_sunk" ["rows","name"] (spD ⟨K,w⟩ Hz true))(e01:Cal P w K mg base 10 "rows_changed" ["rows","deed"] (spD ⟨K,w⟩ FT true)):FnOk P w K mg base CX0 11 f fd ["rows","deed"] (spD ⟨K,w⟩ Bl false):=by
 have nd:=sc_deed_done.nd
 refine F.ok sc_deed_done (fun vs H Q E h=>A3 Ad h) (fun cdv A outer s H vs Q E hr h=>?_)
 exact⟨_,(@AN _ _ _ _ _ (@Az _ _ 2 _ _ _ _ nd rfl PR (@Aw _ _ _ _ _ _ _ Am (pv 1 rfl E3 Dx Dy) AM (fun _ _=>rfl)) ⋯ ⋯) (@AN _ _ _ _ _ (@Bt _ _ _ _ _ _ _ _ (@An _ _ _ _ _ _ _ _ (@CF _ (DM hr)) (pv 2 rfl JG IX IZ) BD (A7 _)) (@AV _ _ _ (@Ac _ _ _ _ (@AO _ _ _ _ _ _ _ _ _ _ e42 hr OL (@AD _ _ _ _ _ (pv 0 rfl GA Bu Bv) (@AD _ _ _ _ _ (@Aw _ _ _ _ _ _ _ Am (pv 1 rfl E3 Dx Dy) AM (fun _ _=>rfl)) AL ⋯) ⋯) Zq ⋯ ⋯))) Ay) (@AN _ _ _ _ _ (@Gv _ _ _ _ (@AO _ _ _ _ _ _ _ _ _ _ c76 hr QP (@AD _ _ _ _ _ (pv 0 rfl GA Bu Bv) (@AD _ _ _ _ _ (@Aw _ _ _ _ _ _ _ Am (pv 1 rfl E3 Dx Dy) AM (fun _ _=>rfl)) AL ⋯) ⋯) Kk ⋯ ⋯) ⋯) (@AN _ _ _ _ _ (@Bt _ _ _ _ _ _ _ _ (@An _ _ _ _ _ _ _ _ (@CF _ (DM hr)) (pv 2 rfl JG IX IZ) BD (A7 _)) (@AV _ _ _ (@Ac _ _ _ _ (@AO _ _ _ _ _ _ _ _ _ _ c08 hr LZ (@AD _ _ _ _ _ (pv 0 rfl GA Bu Bv) (@AD _ _ _ _ _ (@Aw _ _ _ _ _ _ _ Am (pv 1 rfl E3 Dx Dy) AM (fun _ _=>rfl)) AL ⋯) ⋯) JD ⋯ ⋯))) Ay) (@AN _ _ _ _ _ (@Bt _ _ _ _ _ _ _ _ (@An _ _ _ _ _ _ _ _ (@CF _ (DM hr)) (pv 2 rfl JG IX IZ) BD (A7 _)) (@AV _ _ _ (@Ac _ _ _ _ (@AO _ _ _ _ _ _ _ _ _ _ e11 hr L8 (@AD _ _ _ _ _ (pv 0 rfl GA Bu Bv) (@AD _ _ _ _ _ (@Aw _ _ _ _ _ _ _ Am (pv 1 rfl E3 Dx Dy) AM (fun _ _=>rfl)) AL ⋯) ⋯) T4 ⋯ ⋯))) Ay) (@AN _ _ _ _ _ (@Bt _ _ _ _ _ _ _ _ (@An _ _ _ _ _ _ _ _ (@CF _ (DM hr)) (pv 2 rfl JG IX IZ) BD (A7 _)) (@AV _ _ _ (@Ac _ _ _ _ (@AO _ _ _ _ _ _ _ _ _ _ e29 hr NR (@AD _ _ _ _ _ (pv 0 rfl GA Bu Bv) (@AD _ _ _ _ _ (@Aw _ _ _ _ _ _ _ Am (pv 1 rfl E3 Dx Dy) AM (fun _ _=>rfl)) AL ⋯) ⋯) XU ⋯ ⋯))) Ay) (@AV _ _ _ (@Ac _ _ _ _ (@AO _ _ _ _ _ _ _ _ _ _ e01 hr La (@AD _ _ _ _ _ (pv 0 rfl GA Bu Bv) (@AD _ _ _ _ _ (pv 1 rfl E3 Dx Dy) AL ⋯) ⋯) SN ⋯ ⋯))))))))),A2 (N:=["rows","deed","what"]) (np:=2) (nl:=1) (Ab (BJ (AX BF AH AQ) Aa) (Ab (Cy (Au (AX FQ AH Bo)) (As (AY (AF AH (AF (AX BF AH AQ) AS))) (by decide)) Bw) (Ab (JF (AY (AF AH (AF (AX BF AH AQ) AS)))) (Ab (Cy (Au (AX FQ AH Bo)) (As (AY (AF AH (AF (AX BF AH AQ) AS))) (by decide)) Bw) (Ab (Cy (Au (AX FQ AH Bo)) (As (AY (AF AH (AF (AX BF AH AQ) AS))) (by decide)) Bw) (Ab (Cy (Au (AX FQ AH Bo)) (As (AY (AF AH (AF (AX BF AH AQ) AS))) (by decide)) Bw) (As (AY (AF AH (AF AH AS))) (by decide)))))))) rfl h⟩
theorem gO(F:Fun K "_law_many" "_law_many" FO f fd)(c87:Cal P w K mg base 1 "_law_cell_at" ["_law_script","_law_k"] (spD ⟨K,w⟩ Dv false)):FnOk P w K mg base CX0 2 f fd ["_law_script","_law_many_here","_law_most"] (spD ⟨K,w⟩ JP false):=by
 have nd:=sc_L_many.nd
 refine F.ok sc_L_many (fun vs H Q E h=>A3 Ad h) (fun cdv A outer s H vs Q E hr h=>?_)
 exact⟨_,(@AN _ _ _ _ _ (@Bt _ _ _ _ _ _ _ _ (@An _ _ _ _ _ _ _ _ (@CF _ (DM hr)) (@Ae _ _ _ _ _ _ _ _ Bp (@Ae _ _ _ _ _ _ _ _ Bp (@AO _ _ _ _ _ _ _ _ _ _ c87 hr NU (@AD _ _ _ _ _ (pv 0 rfl cY CO CP) (@AD _ _ _ _ _ AM AL ⋯) ⋯) JE ⋯ ⋯) AM) AM) AM (A7 _)) (@AV _ _ _ (@Ac _ _ _ _ (pv 2 rfl cW Lf Lh))) Ay) (@AV _ _ _ (@Ac _ _ _ _ (pv 1 rfl cX Kn Ks)))),A2 (N:=["_law_script","_law_many_here","_law_most"]) (np:=3) (nl:=0) (Ab (Cy (Au (AX FQ (AX CN (AX CN (J0 (i:=0) (AF AQ AS)) AQ) AQ) AQ)) (As AH (by decide)) Bw) (As AH (by decide))) rfl h⟩
theorem Uj(F:Fun K "_law_same_rows" "_law_same_rows" Bj f fd)(z_list:mg "list"=none)(z_isinstance:mg "isinstance"=none)(z_len:mg "len"=none)(z_range:mg "range"=none)(z_bool:mg "bool"=none):FnOk P w K mg base CX0 1 f fd ["_law_found","_law_due"] (spD ⟨K,w⟩ Dg false):=by
 have nd:=sc_L_same_rows.nd
 refine F.ok sc_L_same_rows (fun vs H Q E h=>A3 Ad h) (fun cdv A outer s H vs Q E hr h=>?_)
 exact⟨_,(@AN _ _ _ _ _ (@Bt _ _ _ _ _ _ _ _ (@PW.pt _ _ _ (@JO _ _ _ _ _ _ _ (@Du _ _ _ _ (@EE _ _ _ (@BE _ _ _ _ _ _ _ _ _ EY FC z_isinstance PyProof.Rows.boot_isinstance (@AD _ _ _ _ _ (pv 0 rfl Jd Ko Kt) (@AD _ _ _ _ _ (Ls QR z_list PySem.Pv.boot_list Nx OT) AL ⋯) ⋯) CG CH ⋯ ⋯) ⋯)) (@Hl _ _ _ _ (@An _ _ _ _ _ _ _ _ (@GI _ (DM hr)) (pv 0 rfl Jd Ko Kt) (pv 1 rfl Jc Mr Mu) (A7 _))))) (@AV _ _ _ (@Ac _ _ _ _ HI)) Ay) (@AN _ _ _ _ _ (@IL _ _ _ _ _ _ _ _ PassesOwn.never rfl (@Gy _ _ _ _ _ _ Jn z_range (@AD _ _ _ _ _ (@BE _ _ _ _ _ _ _ _ _ CQ RK z_len PySem.boot_len (@AD _ _ _ _ _ (pv 1 rfl Jc Mr Mu) AL ⋯) Ct Cv ⋯ ⋯) AL ⋯) ⋯) (@Aq _ _ 2 _ nd rfl M6 ⋯) (@AV _ _ _ (@IL _ _ _ _ _ _ _ _ PassesOwn.never rfl (@Gy _ _ _ _ _ _ Jn z_range (@AD _ _ _ _ _ AM AL ⋯) ⋯) (@Aq _ _ 3 _ nd rfl M5 ⋯) (@AV _ _ _ (@Bt _ _ _ _ _ _ _ _ (@An _ _ _ _ _ _ _ _ (@GI _ (DM hr)) (@BE _ _ _ _ _ _ _ _ _ EY FC z_isinstance PyProof.Rows.boot_isinstance (@AD _ _ _ _ _ (@Aw _ _ _ _ _ _ _ Am (@Aw _ _ _ _ _ _ _ K9 (pv 0 rfl Jd Ko Kt) (pv 2 rfl M3 Eg Ei) (fun _ _=>rfl)) (pv 3 rfl M1 Vo V8) (fun _ _=>rfl)) (@AD _ _ _ _ _ (Ls Kg z_bool PySem.Pv.boot_bool Qw RQ) AL ⋯) ⋯) CG CH ⋯ ⋯) (@BE _ _ _ _ _ _ _ _ _ EY FC z_isinstance PyProof.Rows.boot_isinstance (@AD _ _ _ _ _ (@Aw _ _ _ _ _ _ _ Am (@Aw _ _ _ _ _ _ _ K9 (pv 1 rfl Jc Mr Mu) (pv 2 rfl M3 Eg Ei) (fun _ _=>rfl)) (pv 3 rfl M1 Vo V8) (fun _ _=>rfl)) (@AD _ _ _ _ _ (Ls Kg z_bool PySem.Pv.boot_bool Qw RQ) AL ⋯) ⋯) CG CH ⋯ ⋯) (A7 _)) (@AV _ _ _ (@Ac _ _ _ _ HI)) Ay)) ⋯)) ⋯) (@AV _ _ _ (@Ac _ _ _ _ HI)))),A2 (N:=["_law_found","_law_due","_law_k","_law_j"]) (np:=2) (nl:=2) (Ab (Cy (Nl (Fc (Ft (ME (T:="list") AH))) (Au (AX NF AH AH))) (As K3 (by decide)) Bw) (Ab (MJ (HE (AF (C8 GL (AF AH AS)) AS)) Aa (MJ (HE (AF AQ AS)) Aa (Cy (Au (AX NF (ME (T:="bool") (AX BF (AX Uo AH AH) AH)) (ME (T:="bool") (AX BF (AX Uo AH AH) AH)))) (As K3 (by decide)) Bw))) (As K3 (by decide)))) rfl h⟩
theorem dJ(F:Fun K "_law_chain" "_law_chain" DQ f fd):FnOk P w K mg base CX0 1 f fd ["_law_rows","_law_name"] (spD ⟨K,w⟩ JA false):=by
 have nd:=sc_L_chain.nd
 refine F.ok sc_L_chain (fun vs H Q E h=>A3 Ad h) (fun cdv A outer s H vs Q E hr h=>?_)
 exact⟨_,(@AN _ _ _ _ _ (@Az _ _ 2 _ _ _ _ nd rfl S5 eV ⋯ ⋯) (@AN _ _ _ _ _ (@IL _ _ _ _ _ _ _ _ PassesOwn.never rfl (@FF _ _ _ _ (pv 0 rfl aJ Ao Ap)) (@Aq _ _ 3 _ nd rfl S0 ⋯) (@AV _ _ _ (@E6 _ _ _ _ _ _ (pv 3 rfl Sk A8 A9) (@ig _ _ _ _ _ _ _ (pv 2 rfl Nj EV EX) (@Aw _ _ _ _ _ _ _ Am (pv 3 rfl Sk A8 A9) AM (fun _ _=>rfl)) lh ⋯) ⋯ ⋯ ⋯)) ⋯) (@AN _ _ _ _ _ (@Az _ _ 4 _ _ _ _ nd rfl Sz (@Jf _ _ _ _ AL) ⋯ ⋯) (@AN _ _ _ _ _ (@Np _ _ _ _ _ _ PassesOwn.never (@An _ _ _ _ _ _ _ _ i3 (pv 1 rfl Nk BA BB) (pv 2 rfl Nj EV EX) (by with_unfolding_all rfl)) (@AN _ _ _ _ _ (@Gv _ _ _ _ (@Nq _ _ _ _ _ _ _ _ _ _ _ _ PySem.F.plainAttrs_list PySem.F.slot_list_append PySem.F.type_list_append FR (pv 4 rfl Sj Jo Jp) (@AD _ _ _ _ _ (pv 1 rfl Nk BA BB) AL ⋯) ⋯ ⋯ ⋯ ⋯ ⋯) ⋯) (@AV _ _ _ (@Az _ _ 1 _ _ _ _ nd rfl S6 (@Aw _ _ _ _ _ _ _ Am (@Aw _ _ _ _ _ _ _ og (pv 2 rfl Nj EV EX) (pv 1 rfl Nk BA BB) (fun _ _=>rfl)) AM (fun _ _=>rfl)) ⋯ ⋯)))) (@AV _ _ _ (@Ac _ _ _ _ (@FP _ _ _ _ _ _ _ _ _ _ T8 (pv 4 rfl Sj Jo Jp) (@Gw _ _ _ AM) Gx))))))),A2 (N:=["_law_rows","_law_name","_law_by_name","_law_row","_law_chain_here"]) (np:=2) (nl:=3) (Ab jw (Ab (MJ (FG AH) Aa (ju (i:=2) AH (AX BF AH AQ))) (Ab cJ (Ab (RZ (Au (mR (i:=2) AH)) (Ab (JF (XS (i:=4) HZ (AF AH AS))) (BJ (AX BF (mQ (i:=2) AH) AQ) Aa))) (As (nN (i:=4) (ky AH (Rl AQ) Lv)) (by decide)))))) rfl h⟩
theorem dI(F:Fun K "_law_inner" "_law_inner" Gr f fd)(e52:Cal P w K mg base 1 "_law_chain" ["_law_rows","_law_name"] (spD ⟨K,w⟩ JA false)):FnOk P w K mg base CX0 2 f fd ["_law_rows","_law_name"] (spD ⟨K,w⟩ I0 true):=by
 have nd:=sc_L_inner.nd
 refine F.ok sc_L_inner (fun vs H Q E h=>A3 Ad h) (fun cdv A outer s H vs Q E hr h=>?_)
 exact⟨_,(@AV _ _ _ (@Ac _ _ _ _ (@KQ _ ["_law_row","_law_name","_law_rows"] 1 [1,0] _ _ _ _ _ _ _ _ _ _ rfl (@Ji _ ["_law_row","_law_name","_law_rows"] 1 [1,0] _ ["_law_rows","_law_name"] (AA Gr) rfl rfl ∅) (@FF _ _ _ _ (pv 0 rfl aI Ao Ap)) (fun cl fp s3 H3=>(@Aq _ _ 0 _ ax rfl (DR ∅) (Or.inr (DV ∅)))) (fun cl fp s3 H3=>(@MT _ _ _ (@An _ _ _ _ _ _ _ _ (@Nt _ (RB hr)) (pv 1 rfl (Eo ∅) BA BB) (@AO _ _ _ _ _ _ _ _ _ _ e52 hr (Gu ∅) (@AD _ _ _ _ _ (pv 2 rfl (Eo ∅) Ao Ap) (@AD _ _ _ _ _ (@Aw _ _ _ _ _ _ _ Am (pv 0 rfl (Bz ∅) A8 A9) AM (fun _ _=>rfl)) AL ⋯) ⋯) Vr ⋯ ⋯) (by with_unfolding_all rfl)))) (fun cl fp s3 H3=>(@Aw _ _ _ _ _ _ _ Am (pv 0 rfl (Bz ∅) A8 A9) AM (fun _ _=>rfl))) ⋯))),A2 (N:=["_law_rows","_law_name"]) (np:=2) (nl:=0) (As (O1 (FG AH) Aa (Au (AX Rm AH (AY (AF AH (AF (AX BF AH AQ) AS))))) (AX BF AH AQ)) (by decide)) rfl h⟩
theorem gP(F:Fun K "_law_both" "_law_both" Et f fd)(c78:Cal P w K mg base 11 "deed_done" ["rows","deed"] (spD ⟨K,w⟩ Bl false))(z_list:mg "list"=none):FnOk P w K mg base CX0 12 f fd ["_law_rows","_law_one","_law_other"] (spD ⟨K,w⟩ Co false):=by
 have nd:=sc_L_both.nd
 refine F.ok sc_L_both (fun vs H Q E h=>A3 Ad h) (fun cdv A outer s H vs Q E hr h=>?_)
 exact⟨_,(@AV _ _ _ (@Ac _ _ _ _ (@AO _ _ _ _ _ _ _ _ _ _ c78 hr Ki (@AD _ _ _ _ _ (@AO _ _ _ _ _ _ _ _ _ _ c78 hr Ki (@AD _ _ _ _ _ (@Hy _ _ _ _ _ _ _ _ _ J8 XN z_list PySem.Pv.boot_list (@AD _ _ _ _ _ (pv 0 rfl cc Ao Ap) AL ⋯) Nx OT ⋯ ⋯) (@AD _ _ _ _ _ (pv 1 rfl cb Dj Dk) AL ⋯) ⋯) He ⋯ ⋯) (@AD _ _ _ _ _ (pv 2 rfl cZ Gj Gm) AL ⋯) ⋯) He ⋯ ⋯))),A2 (N:=["_law_rows","_law_one","_law_other"]) (np:=3) (nl:=0) (As (AY (AF (AY (AF (C8 Z5 (AF AH AS)) (AF AH AS))) (AF AH AS))) (by decide)) rfl h⟩
theorem m6(F:Fun K "law" "law" CB f fd)(d00:Cal P w K mg base 12 "_law_big" ["_law_script","_law_at"] (spD ⟨K,w⟩ Fq false))(e18:Cal P w K mg base 12 "_law_scene_of" ["_law_script","_law_first","_law_many_here"] (spD ⟨K,w⟩ Fp true))(e64:Cal P w K mg base 12 "_law_many" ["_law_script","_law_many_here","_law_most"] (spD ⟨K,w⟩ JP false))(e53:Cal P w K mg base 12 "_law_backs" ["_law_row","_law_big_here"] (spD ⟨K,w⟩ JB true))(d05:Cal P w K mg base 12 "_law_same_rows" ["_law_found","_law_due"] (spD ⟨K,w⟩ Dg false))(c85:Cal P w K mg base 12 "_law_both" ["_law_rows","_law_one","_law_other"] (spD ⟨K,w⟩ Co false))(d01:Cal P w K mg base 12 "_law_row_of" ["_law_rows","_law_big_here"] (spD ⟨K,w⟩ Ee false))(c78:Cal P w K mg base 12 "deed_done" ["rows","deed"] (spD ⟨K,w⟩ Bl false))(e54:Cal P w K mg base 12 "_law_inner" ["_law_rows","_law_name"] (spD ⟨K,w⟩ I0 true))(z_len:mg "len"=none)(z_range:mg "range"=none)(z_str:mg "str"=none)(z_list:mg "list"=none):FnOk P w K mg base CX0 13 f fd ["_law_script"] (spD ⟨K,w⟩ VA false):=by
 have nd:=sc_law.nd
 refine F.ok sc_law (fun vs H Q E h=>A3 Ad h) (fun cdv A outer s H vs Q E hr h=>?_)
 exact⟨_,(@AN _ _ _ _ _ (@Az _ _ 1 _ _ _ _ nd rfl fE (@AO _ _ _ _ _ _ _ _ _ _ d00 hr Ke (@AD _ _ _ _ _ (pv 0 rfl Qg CO CP) (@AD _ _ _ _ _ AM AL ⋯) ⋯) J5 ⋯ ⋯) ⋯ ⋯) (@AN _ _ _ _ _ (@Az _ _ 2 _ _ _ _ nd rfl fD (@AO _ _ _ _ _ _ _ _ _ _ e18 hr Ot (@AD _ _ _ _ _ (pv 0 rfl Qg CO CP) (@AD _ _ _ _ _ AM (@AD _ _ _ _ _ (@AO _ _ _ _ _ _ _ _ _ _ e64 hr Tt (@AD _ _ _ _ _ (pv 0 rfl Qg CO CP) (@AD _ _ _ _ _ (@Ae _ _ _ _ _ _ _ _ E9 AM (@Ae _ _ _ _ _ _ _ _ Bp (pv 1 rfl eJ Kp Ku) AM)) (@AD _ _ _ _ _ AM AL ⋯) ⋯) ⋯) Xc ⋯ ⋯) AL ⋯) ⋯) ⋯) RT ⋯ ⋯) ⋯ ⋯) (@AN _ _ _ _ _ (@Az _ _ 3 _ _ _ _ nd rfl fB (@Aw _ _ _ _ _ _ _ K9 (pv 2 rfl FE Ao Ap) (@Ae _ _ _ _ _ _ _ _ Bp (@Ae _ _ _ _ _ _ _ _ BM (pv 1 rfl eJ Kp Ku) AM) (@BE _ _ _ _ _ _ _ _ _ CQ gn z_len PySem.boot_len (@AD _ _ _ _ _ (pv 2 rfl FE Ao Ap) AL ⋯) Ct Cv ⋯ ⋯)) (fun _ _=>rfl)) ⋯ ⋯) (@AN _ _ _ _ _ (@Az _ _ 4 _ _ _ _ nd rfl fA (@Aw _ _ _ _ _ _ _ Am (pv 3 rfl eI A8 A9) AM (fun _ _=>rfl)) ⋯ ⋯) (@AN _ _ _ _ _ (@IL _ _ _ _ _ _ _ _ PassesOwn.never rfl (@FF _ _ _ _ (@AO _ _ _ _ _ _ _ _ _ _ e53 hr SA (@AD _ _ _ _ _ (pv 3 rfl eI A8 A9) (@AD _ _ _ _ _ (@AO _ _ _ _ _ _ _ _ _ _ d00 hr Ke (@AD _ _ _ _ _ (pv 0 rfl Qg CO CP) (@AD _ _ _ _ _ AM AL ⋯) ⋯) J5 ⋯ ⋯) AL ⋯) ⋯) Vs ⋯ ⋯)) (@E7 _ _ _ _ _ _ rfl (@BL _ _ _ _ _ (@Aq _ _ 5 _ nd rfl e9 ⋯) (@BL _ _ _ _ _ (@Aq _ _ 6 _ nd rfl e8 ⋯) Dd ⋯) ⋯) ⋯ ⋯) (@AV _ _ _ (@Bt _ _ _ _ _ _ _ _ (@Du _ _ _ _ (@EE _ _ _ (@AO _ _ _ _ _ _ _ _ _ _ d05 hr JQ (@AD _ _ _ _ _ (@AO _ _ _ _ _ _ _ _ _ _ c85 hr En (@AD _ _ _ _ _ (pv 2 rfl FE Ao Ap) (@AD _ _ _ _ _ (pv 5 rfl j5 Dj Dk) (@AD _ _ _ _ _ (pv 6 rfl j4 Gj Gm) AL ⋯) ⋯) ⋯) GG ⋯ ⋯) (@AD _ _ _ _ _ (pv 2 rfl FE Ao Ap) AL ⋯) ⋯) Km ⋯ ⋯) ⋯)) (@AV _ _ _ (@Ac _ _ _ _ HI)) Ay)) ⋯) (@AN _ _ _ _ _ (@E6 _ _ _ _ _ _ (@AO _ _ _ _ _ _ _ _ _ _ d01 hr RC (@AD _ _ _ _ _ (pv 2 rfl FE Ao Ap) (@AD _ _ _ _ _ (@AO _ _ _ _ _ _ _ _ _ _ d00 hr Ke (@AD _ _ _ _ _ (pv 0 rfl Qg CO CP) (@AD _ _ _ _ _ AM AL ⋯) ⋯) J5 ⋯ ⋯) AL ⋯) ⋯) NA ⋯ ⋯) (@E7 _ _ _ _ _ _ rfl (@BL _ _ _ _ _ (@Aq _ _ 7 _ nd rfl ey ⋯) (@BL _ _ _ _ _ (@Aq _ _ 8 _ nd rfl kU ⋯) Dd ⋯) ⋯) ⋯ ⋯) ⋯ ⋯ ⋯) (@AN _ _ _ _ _ (@iY _ ["_law_word","_law_rows"] 1 [2] _ _ _ _ _ _ _ _ _ _ 9 _ _ _ nd rfl kZ rfl (@Ji _ ["_law_word","_law_rows"] 1 [2] _ ["_law_script","_law_first","_law_rows","_law_row","_law_name","_law_one","_law_other","_law_more","_law_big_here","_law_free","_law_up_here","_law_down","_law_raised_once","_law_sunk_once","_law_gone"] (AA CB) rfl rfl ∅) (@FF _ _ _ _ (@KQ _ ["_law_k"] 1 [] _ _ _ _ _ _ _ _ _ _ rfl (@Ji _ ["_law_k"] 1 [] _ ["_law_script","_law_first","_law_rows","_law_row","_law_name","_law_one","_law_other","_law_more","_law_big_here","_law_free","_law_up_here","_law_down","_law_raised_once","_law_sunk_once","_law_gone"] (AA CB) rfl rfl ∅) (@Gy _ _ _ _ _ _ bb z_range (@AD _ _ _ _ _ AM AL ⋯) ⋯) (fun cl fp s3 H3=>(@Aq _ _ 0 _ kP rfl (DR ∅) (Or.inr (DV ∅)))) (fun cl fp s3 H3=>Ju) (fun cl fp s3 H3=>(@Ae _ _ _ _ _ _ _ _ MV BD (@Hy _ _ _ _ _ _ _ _ _ Z4 (Gu ∅) z_str PySem.Pv.boot_str (@AD _ _ _ _ _ (pv 0 rfl (Bz ∅) Eg Ei) AL ⋯) UB UG ⋯ ⋯))) ⋯)) (fun cl fp s3 H3=>(@Aq _ _ 0 _ kO rfl (DR ∅) (Or.inr (DV ∅)))) (fun cl fp s3 H3=>(@MT _ _ _ (@An _ _ _ _ _ _ _ _ (@Lu _ (RB hr)) (pv 0 rfl (Bz ∅) Ph Pm) (@KQ _ ["_law_one"] 1 [] _ _ _ _ _ _ _ _ _ _ rfl (m9 (N':=["_law_one"]) (own:=1) (fr:=[]) (N:=["_law_word","_law_rows"]) ∅) (@FF _ _ _ _ (pv 1 rfl (Eo ∅) Ao Ap)) (fun cl fp s3 H3=>(@Aq _ _ 0 _ kN rfl (DR ∅) (Or.inr (DV ∅)))) (fun cl fp s3 H3=>Ju) (fun cl fp s3 H3=>(@Aw _ _ _ _ _ _ _ Am (pv 0 rfl (Bz ∅) Dj Dk) AM (fun _ _=>rfl))) ⋯) (by with_unfolding_all rfl)))) (fun cl fp s3 H3=>(pv 0 rfl (Bz ∅) Ph Pm)) ⋯ ⋯) (@AN _ _ _ _ _ (@Bt _ _ _ _ _ _ _ _ (@Du _ _ _ _ (@EE _ _ _ (@AO _ _ _ _ _ _ _ _ _ _ d05 hr JQ (@AD _ _ _ _ _ (@AO _ _ _ _ _ _ _ _ _ _ c85 hr En (@AD _ _ _ _ _ (pv 2 rfl FE Ao Ap) (@AD _ _ _ _ _ (@BH _ _ _ _ _ (@AD _ _ _ _ _ BD (@AD _ _ _ _ _ (@Ae _ _ _ _ _ _ _ _ Jv (@BH _ _ _ _ _ (@AD _ _ _ _ _ (@Aw _ _ _ _ _ _ _ K9 (pv 9 rfl eH Pk Po) AM (fun _ _=>rfl)) AL ⋯)) (@FP _ _ _ _ _ _ _ _ _ _ MN (pv 7 rfl j3 Xb Xi) (@Gw _ _ _ AM) Gx)) AL ⋯) ⋯)) (@AD _ _ _ _ _ (@BH _ _ _ _ _ (@AD _ _ _ _ _ BD (@AD _ _ _ _ _ (@Aw _ _ _ _ _ _ _ K9 (pv 9 rfl eH Pk Po) AM (fun _ _=>rfl)) AL ⋯) ⋯)) AL ⋯) ⋯) ⋯) GG ⋯ ⋯) (@AD _ _ _ _ _ (pv 2 rfl FE Ao Ap) AL ⋯) ⋯) Km ⋯ ⋯) ⋯)) (@AV _ _ _ (@Ac _ _ _ _ HI)) Ay) (@AN _ _ _ _ _ (@cx _ _ 10 11 _ _ _ _ _ _ _ _ _ _ _ rfl nd rfl rfl (by decide) jN jM (@AD _ _ _ _ _ (@BH _ _ _ _ _ (@AD _ _ _ _ _ BD (@AD _ _ _ _ _ (pv 4 rfl Qf BA BB) AL ⋯) ⋯)) (@AD _ _ _ _ _ (@BH _ _ _ _ _ (@AD _ _ _ _ _ BD (@AD _ _ _ _ _ (pv 4 rfl Qf BA BB) AL ⋯) ⋯)) AL ⋯) ⋯) (by kernel_rfl) ⋯) (@AN _ _ _ _ _ (@Az _ _ 12 _ _ _ _ nd rfl bB (@AO _ _ _ _ _ _ _ _ _ _ c78 hr Jg (@AD _ _ _ _ _ (@Hy _ _ _ _ _ _ _ _ _ J8 QH z_list PySem.Pv.boot_list (@AD _ _ _ _ _ (pv 2 rfl FE Ao Ap) AL ⋯) Nx OT ⋯ ⋯) (@AD _ _ _ _ _ (pv 10 rfl Nb C4 C6) AL ⋯) ⋯) He ⋯ ⋯) ⋯ ⋯) (@AN _ _ _ _ _ (@Az _ _ 13 _ _ _ _ nd rfl bA (@AO _ _ _ _ _ _ _ _ _ _ c78 hr Jg (@AD _ _ _ _ _ (@Hy _ _ _ _ _ _ _ _ _ J8 QH z_list PySem.Pv.boot_list (@AD _ _ _ _ _ (pv 2 rfl FE Ao Ap) AL ⋯) Nx OT ⋯ ⋯) (@AD _ _ _ _ _ (pv 11 rfl Na Hf Hi) AL ⋯) ⋯) He ⋯ ⋯) ⋯ ⋯) (@AN _ _ _ _ _ (@Bt _ _ _ _ _ _ _ _ (@PW.pt _ _ _ (@JO _ _ _ _ _ _ _ (@An _ _ _ _ _ _ _ _ (@GI _ (DM hr)) (@AO _ _ _ _ _ _ _ _ _ _ c85 hr En (@AD _ _ _ _ _ (pv 2 rfl FE Ao Ap) (@AD _ _ _ _ _ (pv 10 rfl Nb C4 C6) (@AD _ _ _ _ _ (pv 10 rfl Nb C4 C6) AL ⋯) ⋯) ⋯) GG ⋯ ⋯) (pv 12 rfl aC Ja Jb) (A7 _)) (@Hl _ _ _ _ (@An _ _ _ _ _ _ _ _ (@GI _ (DM hr)) (@AO _ _ _ _ _ _ _ _ _ _ c85 hr En (@AD _ _ _ _ _ (pv 2 rfl FE Ao Ap) (@AD _ _ _ _ _ (pv 11 rfl Na Hf Hi) (@AD _ _ _ _ _ (pv 11 rfl Na Hf Hi) AL ⋯) ⋯) ⋯) GG ⋯ ⋯) (pv 13 rfl aB Kl Kr) (A7 _))))) (@AV _ _ _ (@Ac _ _ _ _ HI)) Ay) (@AN _ _ _ _ _ (@Bt _ _ _ _ _ _ _ _ (@PW.pt _ _ _ (@JO _ _ _ _ _ _ _ (@An _ _ _ _ _ _ _ _ (@GI _ (DM hr)) (@AO _ _ _ _ _ _ _ _ _ _ c85 hr En (@AD _ _ _ _ _ (pv 2 rfl FE Ao Ap) (@AD _ _ _ _ _ (pv 10 rfl Nb C4 C6) (@AD _ _ _ _ _ (pv 11 rfl Na Hf Hi) AL ⋯) ⋯) ⋯) GG ⋯ ⋯) (pv 13 rfl aB Kl Kr) (A7 _)) (@Hl _ _ _ _ (@An _ _ _ _ _ _ _ _ (@GI _ (DM hr)) (@AO _ _ _ _ _ _ _ _ _ _ c85 hr En (@AD _ _ _ _ _ (pv 2 rfl FE Ao Ap) (@AD _ _ _ _ _ (pv 11 rfl Na Hf Hi) (@AD _ _ _ _ _ (pv 10 rfl Nb C4 C6) AL ⋯) ⋯) ⋯) GG ⋯ ⋯) (pv 12 rfl aC Ja Jb) (A7 _))))) (@AV _ _ _ (@Ac _ _ _ _ HI)) Ay) (@AN _ _ _ _ _ (@Az _ _ 14 _ _ _ _ nd rfl jG (@Ae _ _ _ _ _ _ _ _ P2 (@Jf _ _ _ _ (@AD _ _ _ _ _ (pv 4 rfl Qf BA BB) AL ⋯)) (@AO _ _ _ _ _ _ _ _ _ _ e54 hr R9 (@AD _ _ _ _ _ (pv 2 rfl FE Ao Ap) (@AD _ _ _ _ _ (pv 4 rfl Qf BA BB) AL ⋯) ⋯) Vp ⋯ ⋯)) ⋯ ⋯) (@AV _ _ _ (@Ac _ _ _ _ (@Ej _ _ _ _ _ _ _ _ (@CF _ (DM hr)) (@AO _ _ _ _ _ _ _ _ _ _ c78 hr Jg (@AD _ _ _ _ _ (@Hy _ _ _ _ _ _ _ _ _ J8 QH z_list PySem.Pv.boot_list (@AD _ _ _ _ _ (pv 2 rfl FE Ao Ap) AL ⋯) Nx OT ⋯ ⋯) (@AD _ _ _ _ _ (@BH _ _ _ _ _ (@AD _ _ _ _ _ BD (@AD _ _ _ _ _ (pv 4 rfl Qf BA BB) AL ⋯) ⋯)) AL ⋯) ⋯) He ⋯ ⋯) (@KQ _ ["_law_one","_law_gone"] 1 [14] _ _ _ _ _ _ _ _ _ _ rfl (@Ji _ ["_law_one","_law_gone"] 1 [14] _ ["_law_script","_law_first","_law_rows","_law_row","_law_name","_law_one","_law_other","_law_more","_law_big_here","_law_free","_law_up_here","_law_down","_law_raised_once","_law_sunk_once","_law_gone"] (AA CB) rfl rfl ∅) (@FF _ _ _ _ (pv 2 rfl FE Ao Ap)) (fun cl fp s3 H3=>(@Aq _ _ 0 _ kM rfl (DR ∅) (Or.inr (DV ∅)))) (fun cl fp s3 H3=>(@MT _ _ _ (@An _ _ _ _ _ _ _ _ (@Lu _ (RB hr)) (@Aw _ _ _ _ _ _ _ Am (pv 0 rfl (Bz ∅) Dj Dk) AM (fun _ _=>rfl)) (pv 1 rfl (Eo ∅) Xe Xk) (by with_unfolding_all rfl)))) (fun cl fp s3 H3=>(pv 0 rfl (Bz ∅) Dj Dk)) ⋯) (A7 _)))))))))))))))))),A2 (N:=["_law_script","_law_first","_law_rows","_law_row","_law_name","_law_one","_law_other","_law_more","_law_big_here","_law_free","_law_up_here","_law_down","_law_raised_once","_law_sunk_once","_law_gone"]) (np:=1) (nl:=14) (Ab (BJ (J0 (i:=0) (AF AQ AS)) Aa) (Ab (BJ (J0 (i:=0) (AF AQ (AF (J0 (i:=0) (AF (AX HX AQ (AX CN AH AQ)) (AF AQ AS))) AS))) Aa) (Ab (BJ (AX Uo AH (AX CN (AX Cm AH AQ) (C8 GL (AF AH AS)))) Aa) (Ab (BJ (AX BF AH AQ) Aa) (Ab (MJ (FG (AY (AF AH (AF (J0 (i:=0) (AF AQ AS)) AS)))) (Ha (Bk Aa (Bk Aa FA)) (BN (BN Dh))) (Cy (Fc (Ft (AY (AF (AY (AF AH (AF AH (AF AH AS)))) (AF AH AS))))) (As K3 (by decide)) Bw)) (Ab (BJ (AY (AF AH (AF (J0 (i:=0) (AF AQ AS)) AS))) (Ha (Bk Aa (Bk Aa FA)) (BN (BN Dh)))) (Ab (pQ (O1 (FG (O1 (HE (AF AQ AS)) Aa Ql (AX Y7 Bo (C8 nP (AF AH AS))))) Aa (Au (AX Rm AH (O1 (FG AH) Aa Ql (AX BF AH AQ)))) AH)) (Ab (Cy (Fc (Ft (AY (AF (AY (AF AH (AF (Bq (AF Bo (AF (AX MW (Bq (AF (AX Uo AH AQ) AS)) (RN AH (Rl AQ) Lv)) AS))) (AF (Bq (AF Bo (AF (AX Uo AH AQ) AS))) AS)))) (AF AH AS))))) (As K3 (by decide)) Bw) (Ab (jv (i:=10) (j:=11) (AF (Bq (AF Bo (AF AH AS))) (AF (Bq (AF Bo (AF AH AS))) AS))) (Ab (BJ (AY (AF (C8 Z5 (AF AH AS)) (AF AH AS))) Aa) (Ab (BJ (AY (AF (C8 Z5 (AF AH AS)) (AF AH AS))) Aa) (Ab (Cy (Nl (Au (AX NF (AY (AF AH (AF AH (AF AH AS)))) AH)) (Au (AX NF (AY (AF AH (AF AH (AF AH AS)))) AH))) (As K3 (by decide)) Bw) (Ab (Cy (Nl (Au (AX NF (AY (AF AH (AF AH (AF AH AS)))) AH)) (Au (AX NF (AY (AF AH (AF AH (AF AH AS)))) AH))) (As K3 (by decide)) Bw) (Ab (BJ (AX Uq (Va (AF AH AS)) (AY (AF AH (AF AH AS)))) Aa) (As (AX FQ (AY (AF (C8 Z5 (AF AH AS)) (AF (Bq (AF Bo (AF AH AS))) AS))) (O1 (FG AH) Aa (Au (AX Rm (AX BF AH AQ) AH)) AH)) (by decide)))))))))))))))) rfl h⟩
end
theorem EF{i j:Int}(h:0<j):Bn (.int i) (.int j)=some (.int (i % j)):=if_pos h
theorem Fu{i j:Int}(h:0<j)(h1:j<10 ^ 70):CT (.int i) (.int j)=some (.int (i / j)):=if_pos ⟨h,jr h h1⟩
theorem m7{i j:Int}(h:CMulB i j):VV (.int i) (.int j)=some (.int (i*j)):=if_pos h
theorem iZ:je (.int 10) (.int 18)=some (.int 1000000000000000000):=rfl
theorem Se{ns:List Int}{k:Int}(h0:0<=k):∃v:Int,Dv [.c (ns.map .int),.d (.int k)]=some (.int v,[.c (ns.map .int),.d (.int k)]):=by
 by_cases h:k<(ns.length:Int)
 ·have hk:k.toNat<ns.length:=by omega
  have e:(ns.map PyData.int)[k.toNat]?=some (.int ns[k.toNat]):=by simp[hk]
  exact⟨ns[k.toNat],by simp only[Dv,List.length_map,h0,h,decide_true,e,Bc,Af,Ak,dN,Ax,BQ,BK,E1,AE,dC,dOp,fI,CM,EI,fLt,fLe,fGt,fGe,Ag,AW,AI,AB,Dl,BI,Bh,AU,Bf,B6,EA,EB,D1,Fw,DU,atI,ixN,sz',Option.bind_some,Option.map_some,List.map_cons,List.map_nil,List.cons_append,List.nil_append,List.length_cons,List.length_nil,List.getElem?_cons_zero,List.getElem?_cons_succ,List.set_cons_zero,List.set_cons_succ,List.replicate_succ,List.replicate_zero,if_true,if_false,reduceIte,Bool.false_eq_true,Nat.reduceAdd,Nat.reduceLT,Int.reduceAdd,Int.reduceLT,Int.reduceLE,Int.reduceToNat,Nat.reduceLeDiff,and_self,Int.toNat_zero,Int.le_refl,Int.natCast_add,Int.cast_ofNat_Int,Nat.zero_add]⟩
 ·exact⟨0,by simp only[Dv,List.length_map,h0,h,decide_false,Bc,Af,Ak,dN,Ax,BQ,BK,E1,AE,dC,dOp,fI,CM,EI,fLt,fLe,fGt,fGe,Ag,AW,AI,AB,Dl,BI,Bh,AU,Bf,B6,EA,EB,D1,Fw,DU,atI,ixN,sz',Option.bind_some,Option.map_some,List.map_cons,List.map_nil,List.cons_append,List.nil_append,List.length_cons,List.length_nil,List.getElem?_cons_zero,List.getElem?_cons_succ,List.set_cons_zero,List.set_cons_succ,List.replicate_succ,List.replicate_zero,if_true,if_false,reduceIte,Bool.false_eq_true,Nat.reduceAdd,Nat.reduceLT,Int.reduceAdd,Int.reduceLT,Int.reduceLE,Int.reduceToNat,Nat.reduceLeDiff,and_self,Int.toNat_zero,Int.le_refl,Int.natCast_add,Int.cast_ofNat_Int,Nat.zero_add]⟩
theorem mi{xs:List Int}{k:Int}(h0:0<=k)(h:k<(xs.length:Int)):∃v:Int,atI (xs.map PyData.int) k=some (.int v)/\v∈xs:=by
 have hk:k.toNat<xs.length:=by omega
 refine⟨xs[k.toNat],?_,List.getElem_mem hk⟩
 unfold atI ixN
 rw[List.length_map,if_pos h0,if_pos h]
 simp[hk]
def by8:PyData:=.tuple ([48271,69621,16807,39373,21401,60493,87721,31337].map .int)
def pr8:PyData:=.tuple ([99991,99989,99971,99961,99929,99923,99907,99901].map .int)
theorem fo{ns:List Int}{k:Int}(h0:0<=k):∃(v:Int) (ls:List L),Fq [.c (ns.map .int),.d (.int k)]=some (.int v,ls):=by
 obtain⟨cell,hc⟩:=Se (ns:=ns) h0
 by_cases hb:(1000000000000000000:Int)<=cell
 ·exact⟨cell,_,by simp only[Fq,hc,iZ,hb,decide_true,Bc,Af,Ak,dN,Ax,BQ,BK,E1,AE,dC,dOp,fI,CM,EI,fLt,fLe,fGt,fGe,Ag,AW,AI,AB,Dl,BI,Bh,AU,Bf,B6,EA,EB,D1,Fw,DU,atI,ixN,sz',Option.bind_some,Option.map_some,List.map_cons,List.map_nil,List.cons_append,List.nil_append,List.length_cons,List.length_nil,List.getElem?_cons_zero,List.getElem?_cons_succ,List.set_cons_zero,List.set_cons_succ,List.replicate_succ,List.replicate_zero,if_true,if_false,reduceIte,Bool.false_eq_true,Nat.reduceAdd,Nat.reduceLT,Int.reduceAdd,Int.reduceLT,Int.reduceLE,Int.reduceToNat,Nat.reduceLeDiff,and_self,Int.toNat_zero,Int.le_refl,Int.natCast_add,Int.cast_ofNat_Int,Nat.zero_add];rfl⟩
 ·have lp:∃τ',ER (dN 6) (Af (Ak (dOp CM (dOp CM (dOp Bn (Bf 0 Dv (AB (dOp CM (AE 1) (dOp Bn (AE 6) (dC (.int 9)))) AI)) (dOp je (dC (.int 10)) (dC (.int 18)))) (dC (.int 1))) (dOp VV (AE 6) (AE 6))) (dN 7)) (Ak (dOp CM (dOp VV (AE 5) (dC (.int 7919))) (dOp Bn (dOp Bn (dOp VV (AE 7) (dOp Ag (AE 2) (dOp Bn (AE 6) (dC (.int 8))))) (dOp Ag (AE 3) (dOp Bn (AE 6) (dC (.int 8))))) (dC (.int 7919)))) (dN 5)))
    ((rng 0 60).map PyData.int) [some (.c (ns.map .int)),some (.d (.int k)),some (.d by8),some (.d pr8),some (.d (.int cell)),some (.d (.int 0)),none,none]=some (.nx τ') /\
    ∃(b:Int) (o1 o2:Option L),nM o1/\nM o2/\τ'=[some (.c (ns.map .int)),some (.d (.int k)),some (.d by8),some (.d pr8),some (.d (.int cell)),some (.d (.int b)),o1,o2]:=by
   refine X7 (enc:=PyData.int) (pre:=[]) (fun _ τ=>∃(b:Int) (o1 o2:Option L),nM o1/\nM o2/\τ=[some (.c (ns.map .int)),some (.d (.int k)),some (.d by8),some (.d pr8),some (.d (.int cell)),some (.d (.int b)),o1,o2]) ⟨0,none,none,De,De,rfl⟩ ?_
   rintro j _ τ hj ⟨b,o1,o2,n1,n2,rfl⟩
   have hj':=(mem_rng (n:=60)).mp hj
   have h9:0<=j % 9:=Int.emod_nonneg _ (by decide)
   obtain⟨c,hc⟩:=Se (ns:=ns) (k:=k+j % 9) (by omega)
   obtain⟨u1,hu1,m1⟩:=mi (xs:=[48271,69621,16807,39373,21401,60493,87721,31337]) (k:=j % 8) (Int.emod_nonneg _ (by decide)) (Int.emod_lt_of_pos _ (by decide))
   obtain⟨u2,hu2,m2⟩:=mi (xs:=[99991,99989,99971,99961,99929,99923,99907,99901]) (k:=j % 8) (Int.emod_nonneg _ (by decide)) (Int.emod_lt_of_pos _ (by decide))
   have hu1':Ag by8 (.int (j % 8))=some (.int u1):=hu1
   have hu2':Ag pr8 (.int (j % 8))=some (.int u2):=hu2
   have m1':-(2 ^ 64)<u1/\u1<2 ^ 64:=by
    simp only[List.mem_cons,List.not_mem_nil,or_false]at m1
    omega
   have m2':0<u2:=by
    simp only[List.mem_cons,List.not_mem_nil,or_false]at m2
    omega
   have x1:VV (.int j) (.int j)=some (.int (j*j)):=m7 (.inl (.inl ⟨by omega,by omega⟩))
   have x2:VV (.int b) (.int 7919)=some (.int (b*7919)):=m7 (.inl (.inr ⟨by decide,by decide⟩))
   have x3:∀z:Int,VV (.int z) (.int u1)=some (.int (z*u1)):=fun z=>m7 (.inl (.inr m1'))
   have x4:∀z:Int,Bn (.int z) (.int u2)=some (.int (z % u2)):=fun z=>EF m2'
   have x5:∀z:Int,Bn (.int z) (.int 7919)=some (.int (z % 7919)):=fun z=>EF (by decide)
   have x6:∀z:Int,Bn (.int z) (.int 9)=some (.int (z % 9)):=fun z=>EF (by decide)
   have x7:∀z:Int,Bn (.int z) (.int 8)=some (.int (z % 8)):=fun z=>EF (by decide)
   have x8:∀z:Int,Bn (.int z) (.int 1000000000000000000)=some (.int (z % 1000000000000000000)):=fun z=>EF (by decide)
   refine⟨_,[some (.c (ns.map .int)),some (.d (.int k)),some (.d by8),some (.d pr8),some (.d (.int cell)),some (.d (.int (b*7919+(c % 1000000000000000000+1+j*j)*u1 % u2 % 7919))),some (.d (.int j)),some (.d (.int (c % 1000000000000000000+1+j*j)))],HJ rfl n1,?_,_,_,_,IP,IP,rfl⟩
   refine(AR (τ1:=[some (.c (ns.map .int)),some (.d (.int k)),some (.d by8),some (.d pr8),some (.d (.int cell)),some (.d (.int b)),some (.d (.int j)),some (.d (.int (c % 1000000000000000000+1+j*j)))]) (BX (d:=.int (c % 1000000000000000000+1+j*j)) (τ1:=[some (.c (ns.map .int)),some (.d (.int k)),some (.d by8),some (.d pr8),some (.d (.int cell)),some (.d (.int b)),some (.d (.int j)),o2]) ?_ (HJ rfl n2))).trans ?_
   ·simp only[dOp,AE,dC,Bf,AB,AI,Dl,CM,fI,iZ,hc,x1,x6,x8,List.getElem?_cons_zero,List.getElem?_cons_succ,List.set_cons_zero,List.set_cons_succ,Option.bind_some,Option.map_some,List.map_cons,List.map_nil]
   ·simp only[Ak,dN,dOp,AE,dC,CM,fI,hu1',hu2',x2,x3,x4,x5,x7,List.getElem?_cons_zero,List.getElem?_cons_succ,List.set_cons_zero,List.set_cons_succ,Option.bind_some,Option.map_some]
  obtain⟨τ',e,b,o1,o2,n1,n2,rfl⟩:=lp
  refine⟨b,[.c (ns.map .int),.d (.int k)],?_⟩
  have hr:dR1 (AB (dC (.int 60)) AI) [some (.c (ns.map .int)),some (.d (.int k)),some (.d by8),some (.d pr8),some (.d (.int cell)),some (.d (.int 0)),none,none]=some ((rng 0 60).map PyData.int,[some (.c (ns.map .int)),some (.d (.int k)),some (.d by8),some (.d pr8),some (.d (.int cell)),some (.d (.int 0)),none,none]):=by
   rw[<- Xw];rfl
  refine A5 (τ:=[some (.c (ns.map .int)),some (.d (.int k)),some (.d by8),some (.d pr8),some (.d (.int cell)),some (.d (.int b)),o1,o2]) ?_ rfl rfl
  refine(AR rfl).trans ((AR rfl).trans ((AR (τ1:=[some (.c (ns.map .int)),some (.d (.int k)),some (.d by8),some (.d pr8),some (.d (.int cell)),none,none,none]) (BX (Kv (xs:=ns.map .int) rfl rfl rfl hc) rfl)).trans ?_))
  refine(AR (τ1:=[some (.c (ns.map .int)),some (.d (.int k)),some (.d by8),some (.d pr8),some (.d (.int cell)),none,none,none]) ?_).trans ((AR (τ1:=[some (.c (ns.map .int)),some (.d (.int k)),some (.d by8),some (.d pr8),some (.d (.int cell)),some (.d (.int 0)),none,none]) rfl).trans ((AR ((Ht hr).trans e)).trans rfl))
  simp only[iZ,hb,decide_false,Bc,Af,Ak,dN,Ax,BQ,BK,E1,AE,dC,dOp,fI,CM,EI,fLt,fLe,fGt,fGe,Ag,AW,AI,AB,Dl,BI,Bh,AU,Bf,B6,EA,EB,D1,Fw,DU,atI,ixN,sz',Option.bind_some,Option.map_some,List.map_cons,List.map_nil,List.cons_append,List.nil_append,List.length_cons,List.length_nil,List.getElem?_cons_zero,List.getElem?_cons_succ,List.set_cons_zero,List.set_cons_succ,List.replicate_succ,List.replicate_zero,if_true,if_false,reduceIte,Bool.false_eq_true,Nat.reduceAdd,Nat.reduceLT,Int.reduceAdd,Int.reduceLT,Int.reduceLE,Int.reduceToNat,Nat.reduceLeDiff,and_self,Int.toNat_zero,Int.le_refl,Int.natCast_add,Int.cast_ofNat_Int,Nat.zero_add]
def gI(a b:Int):Int:=(Int.gcd a b:Nat)
theorem jb{a b:Int}(ha:0<=a)(hb:0<b):gI b (a % b)=gI a b:=by
 unfold gI
 rw[Int.gcd_eq_natAbs_gcd_natAbs,Int.gcd_eq_natAbs_gcd_natAbs]
 have e:(a % b).natAbs=a.natAbs % b.natAbs:=by
  rw[Int.natAbs_emod_of_nonneg ha]
 rw[e,Nat.gcd_comm,<- Nat.gcd_rec,Nat.gcd_comm]
theorem fQ{a:Int}(ha:0<=a):gI a 0=a:=by
 unfold gI
 rw[Int.gcd_zero_right]
 omega
theorem ja{a b:Int}(hb:0<b):0<gI a b:=by
 unfold gI
 have:0<Int.gcd a b:=Int.gcd_pos_of_ne_zero_right _ (by omega)
 omega
theorem pA{a b:Int}(hb:0<b):gI a b<=b:=by
 exact Int.gcd_le_right a hb
def frm(t b:Int):Cl:=(t / gI t b,b / gI t b)
def Sd(i:Int):Int:=if i<0 then -i else i
theorem jx{i:Int}(h:0<=i):Sd i=i:=by unfold Sd;rw[if_neg (by omega)]
theorem fk(i:Int):0<=Sd i:=by unfold Sd;split<;>omega
theorem jc(a b:Int):gI (Sd a) b=gI a b:=by
 unfold gI Sd
 split
 ·rw[Int.neg_gcd]
 ·rfl
structure OkF(s:Cl):Prop where
 lo:0<=s.1
 hi:s.1<=s.2
 b1:1<=s.2
 b2:s.2<=1000
 zero:s.1=0->s=(0,1)
 red:∃t b:Int,0<b/\s=frm t b
theorem bS{d1 d2:PyData}:∀(n:Nat) (a b:Int),0<=a->0<=b->b.toNat<n ->
  dWh (AW (dOp fGt (AE 3) (dC (.int 0)))) (E1 2 3 (AB (AE 3) (AB (dOp Bn (AE 2) (AE 3)) AI))) n [some (.d d1),some (.d d2),some (.d (.int a)),some (.d (.int b))]=some (.nx [some (.d d1),some (.d d2),some (.d (.int (gI a b))),some (.d (.int 0))])
 |0,a,b,_,_,h=>absurd h (Nat.not_lt_zero _)
 |n+1,a,b,ha,hb,h=>by
  let st:Int->Int->DS:=fun x y=>[some (.d d1),some (.d d2),some (.d (.int x)),some (.d (.int y))]
  have t:AW (dOp fGt (AE 3) (dC (.int 0))) (st a b)=some (decide (0<b),st a b):=rfl
  unfold dWh
  rw[show AW (dOp fGt (AE 3) (dC (.int 0))) [some (.d d1),some (.d d2),some (.d (.int a)),some (.d (.int b))]=some (decide (0<b),st a b) from t]
  by_cases hz:b=0
  ·subst hz
   rw[fQ ha];rfl
  ·have hp:0<b:=by omega
   have md:=Int.emod_lt_of_pos a hp
   have mn:=Int.emod_nonneg a (show b≠0 by omega)
   have e:=bS (d1:=d1) (d2:=d2) n b (a % b) hb mn (by omega)
   rw[decide_eq_true hp]
   have bd:E1 2 3 (AB (AE 3) (AB (dOp Bn (AE 2) (AE 3)) AI)) (st a b)=some (.nx (st b (a % b))):=by
    have:AB (AE 3) (AB (dOp Bn (AE 2) (AE 3)) AI) (st a b)=some ([.d (.int b),.d (.int (a % b))],st a b):=by
     show(((((Bn (.int a) (.int b)).map fun d=>(d,st a b)).bind fun p=>_).map _))=_
     rw[EF hp];rfl
    unfold E1
    rw[this];rfl
   show((E1 _ _ _ (st a b)).bind _)=_
   rw[bd]
   show dWh _ _ n (st b (a % b))=_
   rw[<- jb ha hp]
   exact e
theorem m8{t b:Int}(hb:0<b)(hb2:b<10 ^ 70):Mb [.d (.int t),.d (.int b)]=some (ec (frm t b),[.d (.int t),.d (.int b)]):=by
 have gp:=ja (a:=t) hb
 have gl:=pA (a:=t) hb
 have e:=bS (d1:=.int t) (d2:=.int b) (b.toNat+1) (Sd t) b (fk t) (by omega) (Nat.lt_succ_self _)
 rw[jc]at e
 let st:Option L->Option L->DS:=fun o p=>[some (.d (.int t)),some (.d (.int b)),o,p]
 unfold Mb
 refine A5 (τ:=st (some (.d (.int (gI t b)))) (some (.d (.int 0)))) ?_ rfl rfl
 refine(AR (τ1:=st (some (.d (.int (Sd t)))) (some (.d (.int b)))) rfl).trans ?_
 refine(AR e).trans ?_
 refine Bs (τ1:=st (some (.d (.int (gI t b)))) (some (.d (.int 0)))) ?_
 have d1:=Fu (i:=t) gp (by omega)
 have d2:=Fu (i:=b) gp (by omega)
 simp only[st,d1,d2,ec,frm,Bc,Af,Ak,dN,Ax,BQ,BK,E1,AE,dC,dOp,fI,CM,EI,fLt,fLe,fGt,fGe,Ag,AW,AI,AB,Dl,BI,Bh,AU,Bf,B6,EA,EB,D1,Fw,DU,atI,ixN,sz',Option.bind_some,Option.map_some,List.map_cons,List.map_nil,List.cons_append,List.nil_append,List.length_cons,List.length_nil,List.getElem?_cons_zero,List.getElem?_cons_succ,List.set_cons_zero,List.set_cons_succ,List.replicate_succ,List.replicate_zero,if_true,if_false,reduceIte,Bool.false_eq_true,Nat.reduceAdd,Nat.reduceLT,Int.reduceAdd,Int.reduceLT,Int.reduceLE,Int.reduceToNat,Nat.reduceLeDiff,and_self,Int.toNat_zero,Int.le_refl,Int.natCast_add,Int.cast_ofNat_Int,Nat.zero_add]
theorem jd{t b:Int}(h0:0<=t)(h1:t<=b)(h2:1<=b)(h3:b<=1000):OkF (frm t b):=by
 have gp:=ja (a:=t) (show 0<b by omega)
 have db:gI t b ∣ b:=by unfold gI;exact Int.gcd_dvd_right ..
 obtain⟨q,hq⟩:=db
 have eb:b / gI t b=q:=Int.ediv_eq_of_eq_mul_right (by omega) hq
 have q1:1<=q:=by
  rcases Int.lt_or_le q 1 with z|z
  ·have:gI t b*q<=0:=Int.mul_nonpos_of_nonneg_of_nonpos (by omega) (by omega)
   omega
  ·exact z
 have tl:t / gI t b<=b / gI t b:=Int.ediv_le_ediv gp h1
 have bl:b / gI t b<=b:=Int.ediv_le_self _ (by omega)
 refine⟨Int.ediv_nonneg h0 (by omega),tl,by show 1<=b / gI t b;omega,by show b / gI t b<=1000;omega,fun z=>?_,t,b,by omega,rfl⟩
 have z:t / gI t b=0:=z
 have dt:gI t b ∣ t:=by unfold gI;exact Int.gcd_dvd_left ..
 obtain⟨r,hr⟩:=dt
 have er:t / gI t b=r:=Int.ediv_eq_of_eq_mul_right (by omega) hr
 have r0:r=0:=by omega
 have t0:t=0:=by rw[hr,r0,Int.mul_zero]
 have g0:gI t b=b:=by
  rw[t0];unfold gI
  rw[Int.gcd_zero_left];omega
 unfold frm
 rw[g0,t0,Int.zero_ediv,Int.ediv_self (by omega)]
theorem Sr(v:Int):∃(s:Cl) (w:Int) (ls:List L),Fo [.d (.int v)]=some (.tuple [ec s,.int w],ls)/\OkF s:=by
 obtain⟨b0,e0,hb0⟩:=mi (xs:=[1,1,2,3]) (k:=v % 4) (by omega) (by show v % 4<4;omega)
 have hb0:1<=b0/\b0<=1000:=by
  rcases List.mem_cons.mp hb0 with rfl|hb0
  ·decide
  ·rcases List.mem_cons.mp hb0 with rfl|hb0
   ·decide
   ·rcases List.mem_cons.mp hb0 with rfl|hb0
    ·decide
    ·rw[List.mem_singleton.mp hb0];decide
 let st:Int->Option L->DS:=fun x o=>[some (.d (.int x)),o]
 have fin:∀b:Int,1<=b->b<=1000->∃(s:Cl) (w:Int),Af (Ak (dOp CT (AE 0) (dC (.int 16000))) (dN 0)) (Ax (BI (AB (AU Mb (AB (dOp Bn (AE 0) (dOp CM (AE 1) (dC (.int 1)))) (AB (AE 1) AI))) (AB (dOp CT (AE 0) (dOp CM (AE 1) (dC (.int 1)))) AI)))) (st v (some (.d (.int b))))=some (.rt (.tuple [ec s,.int w]) (st (v / 16000) (some (.d (.int b)))))/\OkF s:=fun b h1 h2=>by
  have m0:=Int.emod_nonneg (v / 16000) (show b+1≠0 by omega)
  have m1:=Int.emod_lt_of_pos (v / 16000) (show 0<b+1 by omega)
  refine⟨frm (v / 16000 % (b+1)) b,v / 16000 / (b+1),?_,jd m0 (by omega) h1 h2⟩
  have l:=m8 (t:=v / 16000 % (b+1)) (b:=b) (by omega) (by omega)
  have d1:=Fu (i:=v) (j:=16000) (by decide) (by decide)
  have d2:=EF (i:=v / 16000) (j:=b+1) (by omega)
  have d3:=Fu (i:=v / 16000) (j:=b+1) (by omega) (by omega)
  simp only[st,l,d1,d2,d3,Bc,Af,Ak,dN,Ax,BQ,BK,E1,AE,dC,dOp,fI,CM,EI,fLt,fLe,fGt,fGe,Ag,AW,AI,AB,Dl,BI,Bh,AU,Bf,B6,EA,EB,D1,Fw,DU,atI,ixN,sz',Option.bind_some,Option.map_some,List.map_cons,List.map_nil,List.cons_append,List.nil_append,List.length_cons,List.length_nil,List.getElem?_cons_zero,List.getElem?_cons_succ,List.set_cons_zero,List.set_cons_succ,List.replicate_succ,List.replicate_zero,if_true,if_false,reduceIte,Bool.false_eq_true,Nat.reduceAdd,Nat.reduceLT,Int.reduceAdd,Int.reduceLT,Int.reduceLE,Int.reduceToNat,Nat.reduceLeDiff,and_self,Int.toNat_zero,Int.le_refl,Int.natCast_add,Int.cast_ofNat_Int,Nat.zero_add]
 have c2:∀b:Int,1<=b->b<=1000->∃b',1<=b'/\b'<=1000/\BK (AW (dOp fEq (dOp Bn (dOp CT (AE 0) (dC (.int 4))) (dC (.int 16))) (dC (.int 1)))) (Ak (dOp CM (dC (.int 1)) (dOp Bn (dOp CT (AE 0) (dC (.int 16))) (dC (.int 1000)))) (dN 1)) BQ (st v (some (.d (.int b))))=some (.nx (st v (some (.d (.int b'))))):=fun b h1 h2=>by
  have d1:=Fu (i:=v) (j:=4) (by decide) (by decide)
  have d2:=EF (i:=v / 4) (j:=16) (by decide)
  have d3:=Fu (i:=v) (j:=16) (by decide) (by decide)
  have d4:=EF (i:=v / 16) (j:=1000) (by decide)
  by_cases h:v / 4 % 16=1
  ·refine⟨1+v / 16 % 1000,by omega,by omega,?_⟩
   have q:fEq (.int (v / 4 % 16)) (.int 1)=some (.bool true):=by rw[encI.fEq,decide_eq_true h]
   simp only[st,d1,d2,q,d3,d4,Bc,Af,Ak,dN,Ax,BQ,BK,E1,AE,dC,dOp,fI,CM,EI,fLt,fLe,fGt,fGe,Ag,AW,AI,AB,Dl,BI,Bh,AU,Bf,B6,EA,EB,D1,Fw,DU,atI,ixN,sz',Option.bind_some,Option.map_some,List.map_cons,List.map_nil,List.cons_append,List.nil_append,List.length_cons,List.length_nil,List.getElem?_cons_zero,List.getElem?_cons_succ,List.set_cons_zero,List.set_cons_succ,List.replicate_succ,List.replicate_zero,if_true,if_false,reduceIte,Bool.false_eq_true,Nat.reduceAdd,Nat.reduceLT,Int.reduceAdd,Int.reduceLT,Int.reduceLE,Int.reduceToNat,Nat.reduceLeDiff,and_self,Int.toNat_zero,Int.le_refl,Int.natCast_add,Int.cast_ofNat_Int,Nat.zero_add]
  ·refine⟨b,h1,h2,?_⟩
   have q:fEq (.int (v / 4 % 16)) (.int 1)=some (.bool false):=by rw[encI.fEq,decide_eq_false h]
   simp only[st,d1,d2,q,Bc,Af,Ak,dN,Ax,BQ,BK,E1,AE,dC,dOp,fI,CM,EI,fLt,fLe,fGt,fGe,Ag,AW,AI,AB,Dl,BI,Bh,AU,Bf,B6,EA,EB,D1,Fw,DU,atI,ixN,sz',Option.bind_some,Option.map_some,List.map_cons,List.map_nil,List.cons_append,List.nil_append,List.length_cons,List.length_nil,List.getElem?_cons_zero,List.getElem?_cons_succ,List.set_cons_zero,List.set_cons_succ,List.replicate_succ,List.replicate_zero,if_true,if_false,reduceIte,Bool.false_eq_true,Nat.reduceAdd,Nat.reduceLT,Int.reduceAdd,Int.reduceLT,Int.reduceLE,Int.reduceToNat,Nat.reduceLeDiff,and_self,Int.toNat_zero,Int.le_refl,Int.natCast_add,Int.cast_ofNat_Int,Nat.zero_add]
 have c1:∀b:Int,1<=b->b<=1000->∃b',1<=b'/\b'<=1000/\BK (AW (dOp fEq (dOp Bn (dOp CT (AE 0) (dC (.int 4))) (dC (.int 4))) (dC (.int 0)))) (Ak (dOp CM (dC (.int 1)) (dOp Bn (dOp CT (AE 0) (dC (.int 16))) (dC (.int 12)))) (dN 1)) BQ (st v (some (.d (.int b))))=some (.nx (st v (some (.d (.int b'))))):=fun b h1 h2=>by
  have d1:=Fu (i:=v) (j:=4) (by decide) (by decide)
  have d2:=EF (i:=v / 4) (j:=4) (by decide)
  have d3:=Fu (i:=v) (j:=16) (by decide) (by decide)
  have d4:=EF (i:=v / 16) (j:=12) (by decide)
  by_cases h:v / 4 % 4=0
  ·refine⟨1+v / 16 % 12,by omega,by omega,?_⟩
   have q:fEq (.int (v / 4 % 4)) (.int 0)=some (.bool true):=by rw[encI.fEq,decide_eq_true h]
   simp only[st,d1,d2,q,d3,d4,Bc,Af,Ak,dN,Ax,BQ,BK,E1,AE,dC,dOp,fI,CM,EI,fLt,fLe,fGt,fGe,Ag,AW,AI,AB,Dl,BI,Bh,AU,Bf,B6,EA,EB,D1,Fw,DU,atI,ixN,sz',Option.bind_some,Option.map_some,List.map_cons,List.map_nil,List.cons_append,List.nil_append,List.length_cons,List.length_nil,List.getElem?_cons_zero,List.getElem?_cons_succ,List.set_cons_zero,List.set_cons_succ,List.replicate_succ,List.replicate_zero,if_true,if_false,reduceIte,Bool.false_eq_true,Nat.reduceAdd,Nat.reduceLT,Int.reduceAdd,Int.reduceLT,Int.reduceLE,Int.reduceToNat,Nat.reduceLeDiff,and_self,Int.toNat_zero,Int.le_refl,Int.natCast_add,Int.cast_ofNat_Int,Nat.zero_add]
  ·refine⟨b,h1,h2,?_⟩
   have q:fEq (.int (v / 4 % 4)) (.int 0)=some (.bool false):=by rw[encI.fEq,decide_eq_false h]
   simp only[st,d1,d2,q,Bc,Af,Ak,dN,Ax,BQ,BK,E1,AE,dC,dOp,fI,CM,EI,fLt,fLe,fGt,fGe,Ag,AW,AI,AB,Dl,BI,Bh,AU,Bf,B6,EA,EB,D1,Fw,DU,atI,ixN,sz',Option.bind_some,Option.map_some,List.map_cons,List.map_nil,List.cons_append,List.nil_append,List.length_cons,List.length_nil,List.getElem?_cons_zero,List.getElem?_cons_succ,List.set_cons_zero,List.set_cons_succ,List.replicate_succ,List.replicate_zero,if_true,if_false,reduceIte,Bool.false_eq_true,Nat.reduceAdd,Nat.reduceLT,Int.reduceAdd,Int.reduceLT,Int.reduceLE,Int.reduceToNat,Nat.reduceLeDiff,and_self,Int.toNat_zero,Int.le_refl,Int.natCast_add,Int.cast_ofNat_Int,Nat.zero_add]
 obtain⟨b1,g1,g2,e1⟩:=c1 b0 hb0.1 hb0.2
 obtain⟨b2,g3,g4,e2⟩:=c2 b1 g1 g2
 obtain⟨s,w,e3,hs⟩:=fin b2 g3 g4
 refine⟨s,w,[.d (.int v)],?_,hs⟩
 unfold Fo
 refine A5 (τ:=st (v / 16000) (some (.d (.int b2)))) ?_ rfl rfl
 refine(AR (τ1:=st v (some (.d (.int b0)))) (BX (d:=.int b0) (τ1:=st v none) ?_ rfl)).trans ((AR e1).trans ((AR e2).trans e3))
 have m:=EF (i:=v) (j:=4) (by decide)
 show(((Bn (.int v) (.int 4)).map fun d=>(d,st v none)).bind fun q=>(Ag (.tuple ([1,1,2,3].map PyData.int)) q.1).map fun d=>(d,q.2))=_
 rw[m]
 show((atI ([1,1,2,3].map PyData.int) (v % 4)).map fun d=>(d,st v none))=_
 rw[e0];rfl
theorem acc{f:DX}{a:DA}{τ τ1 τ2:DS}{d:PyData}{rs:List Ar}(h:f τ=some (d,τ1))(k:a τ1=some (rs,τ2)):AB f a τ=some (.d d::rs,τ2):=by
 unfold AB
 rw[h]
 show((a τ1).map _)=_
 rw[k];rfl
theorem tst{f:DX}{τ τ1:DS}{b:Bool}(h:f τ=some (.bool b,τ1)):AW f τ=some (b,τ1):=by
 unfold AW
 rw[h];rfl
theorem ND{t:DT}{τ τ1:DS}{b:Bool}(h:t τ=some (b,τ1)):Ck t τ=some (!b,τ1):=by
 unfold Ck
 rw[h];rfl
theorem op2{F:PyData->PyData->Option PyData}{f g:DX}{τ τ1 τ2:DS}{x y r:PyData}(h:f τ=some (x,τ1))(k:g τ1=some (y,τ2))(e:F x y=some r):dOp F f g τ=some (r,τ2):=by
 unfold dOp
 rw[h]
 show((g τ1).bind _)=_
 rw[k]
 show((F x y).map _)=_
 rw[e];rfl
theorem eM{i:Nat}{f:DT}{τ τ1:DS}{b:Bool}{xs:List PyData}(hi:τ[i]?=some (some (.m xs)))(hf:f (τ.set i (some (.d (.list xs))))=some (b,τ1))(hx:τ1.all okM=true):Ii i f τ=some (b,τ1.set i (some (.m xs))):=by
 unfold Ii
 rw[hi]
 dsimp only
 rw[hf]
 dsimp only[Option.bind]
 rw[if_pos hx]
theorem Qr{x y:DT}{τ τ1 τ2:DS}(h1:x τ=some (false,τ1))(h2:y τ1=some (false,τ2)):Hu x y τ=some (false,τ2):=by
 unfold Hu
 rw[h1];exact h2
theorem ck{a b:DT}{τ:DS}{p q:Bool}(h1:a τ=some (p,τ))(h2:b τ=some (q,τ)):El a b τ=some (p&&q,τ):=by
 unfold El
 rw[h1]
 cases p with
 |true=>exact h2
 |false=>rfl
theorem Mw{a b:DX}{τ τ1:DS}(h:a τ=some (.bool true,τ1)):HL a b τ=b τ1:=by
 unfold HL
 rw[tst h];rfl
abbrev Tx:={ s:Str // PyData.strOk s=true }
def eT(t:Tx):PyData:=.str t.1
theorem encT:Enc eT:=by
 refine⟨fun a b=>?_,fun a=>?_,fun a=>?_,fun _=>rfl⟩
 ·unfold eT
  rw[PyData.eqv]
  by_cases h:a=b
  ·subst h;simp
  ·rw[decide_eq_false h]
   exact beq_eq_false_iff_ne.mpr fun z=>h (Subtype.ext z)
 ·show PyData.canLay0 (.str a.1)=true
  rw[PyData.canLay0];exact a.2
 ·show PyData.depth (.str a.1)<=20
  rw[PyData.depth];decide
def t0:Tx:=⟨"",∅⟩
inductive Dz where
 |plate (w h:Int) (a b:Cl)
 |band (w h:Int) (a b:Cl)
 |word (t:Tx) (a b:Cl)
 |stencil (rs:List Tx) (a b:Cl)
 |group
 |glass (a:Cl)
 |window (w h x y:Int)
 |turn (q:Int) (f:Bool)
 |tiles (a b x y:Int)
 |mask
 deriving DecidableEq
def kz:Dz->Nat
 |.plate ..=>0
 |.band ..=>1
 |.word ..=>2
 |.stencil ..=>3
 |.group=>4
 |.glass _=>5
 |.window ..=>6
 |.turn ..=>7
 |.tiles ..=>8
 |.mask=>9
def kS:Nat->Tx
 |0=>⟨"plate",∅⟩
 |1=>⟨"band",∅⟩
 |2=>⟨"word",∅⟩
 |3=>⟨"stencil",∅⟩
 |4=>⟨"group",∅⟩
 |5=>⟨"glass",∅⟩
 |6=>⟨"window",∅⟩
 |7=>⟨"turn",∅⟩
 |8=>⟨"tiles",∅⟩
 |_=>⟨"mask",∅⟩
theorem nF:∀i j:Fin 10,kS i=kS j->i=j:=∅
theorem M7(d:Dz):kz d<10:=by cases d<;>simp[kz]
theorem LV{i j:Nat}(hi:i<10)(hj:j<10)(h:kS i=kS j):i=j:=Fin.mk.inj (nF ⟨i,hi⟩ ⟨j,hj⟩ h)
def eD:Dz->PyData
 |.plate w h a b=>.tuple [.int w,.int h,ec a,ec b]
 |.band w h a b=>.tuple [.int w,.int h,ec a,ec b]
 |.word t a b=>.tuple [eT t,ec a,ec b]
 |.stencil rs a b=>.tuple [.tuple (rs.map eT),ec a,ec b]
 |.group=>.tuple []
 |.glass a=>.tuple [ec a]
 |.window w h x y=>.tuple [.int w,.int h,.int x,.int y]
 |.turn q f=>.tuple [.int q,.bool f]
 |.tiles a b x y=>.tuple [.int a,.int b,.int x,.int y]
 |.mask=>.tuple []
structure Rz where
 n:Tx
 h:Tx
 x:Int
 y:Int
 s:Bool
 d:Dz
 deriving DecidableEq
def eZ(r:Rz):PyData:=.tuple [eT r.n,eT r.h,.int r.x,.int r.y,.bool r.s,eT (kS (kz r.d)),eD r.d]
theorem ecq(a b:Cl):PyData.eqv (ec a) (ec b)=decide (a=b):=encC.eqv a b
theorem oi(a b:Int):PyData.eqv (.int a) (.int b)=decide (a=b):=encI.eqv a b
theorem mT(a b:Bool):PyData.eqv (.bool a) (.bool b)=decide (a=b):=by rw[PyData.eqv];cases a<;>cases b<;>rfl
theorem pw(a b:Int):(a==b)=decide (a=b):=rfl
theorem pz(a b:Bool):(a==b)=decide (a=b):=by cases a<;>cases b<;>rfl
theorem eDq:∀a b:Dz,kz a=kz b->PyData.eqv (eD a) (eD b)=decide (a=b):=by
 intro a b h
 cases a<;>cases b<;>first
  |(exfalso;simp[kz]at h;done)
  |(simp only[eD,PyData.eqv,PyData.eqvAll,ecq,oi,mT,pw,pz,encT.eqv,encT.eqvL,Bool.and_true,Dz.plate.injEq,Dz.band.injEq,Dz.word.injEq,Dz.stencil.injEq,Dz.glass.injEq,Dz.window.injEq,Dz.turn.injEq,Dz.tiles.injEq,Bool.decide_and,decide_true])
theorem mS:∀rs:List Tx,PyData.depthAll (rs.map eT)<=1
 |[]=>by rw[List.map_nil,PyData.depthAll];decide
 |r::rs=>by
  have:=mS rs
  rw[List.map_cons,PyData.depthAll]
  unfold eT at *
  simp only[PyData.depth]
  omega
theorem encZ:Enc eZ:=by
 refine⟨fun a b=>?_,fun a=>?_,fun a=>?_,fun a=>?_⟩
 ·unfold eZ
  simp only[PyData.eqv,PyData.eqvAll,oi,mT,encT.eqv,Bool.and_true]
  obtain⟨a1,a2,a3,a4,a5,a6⟩:=a
  obtain⟨b1,b2,b3,b4,b5,b6⟩:=b
  simp only[Rz.mk.injEq,Bool.decide_and]
  by_cases h:kz a6=kz b6
  ·rw[eDq a6 b6 h,h,decide_eq_true rfl,Bool.true_and]
   simp[Bool.beq_eq_decide_eq]
  ·have h1:kS (kz a6)≠kS (kz b6):=fun z=>h (LV (M7 _) (M7 _) z)
   have h2:a6≠b6:=fun z=>h (by rw[z])
   rw[decide_eq_false h1,decide_eq_false h2]
   simp
 ·show PyData.canLay0 (.tuple _)=true
  simp only[PyData.canLay0,PyData.canLayAll0,encT.can,Bool.true_and,Bool.and_true]
  cases a.d<;>simp only[eD,PyData.canLay0,PyData.canLayAll0,encT.can,encC.can,encT.canL,Bool.true_and,Bool.and_true]
 ·have hc:=encC.dep
  have key:PyData.depth (eD a.d)<=10:=by
   cases a.d with
   |stencil rs x y =>
    have:=mS rs
    simp only[eD,ec,PyData.depth,PyData.depthAll]
    omega
   |word t x y=>simp[eD,eT,ec,PyData.depth,PyData.depthAll]
   |_=>simp[eD,ec,PyData.depth,PyData.depthAll]
  show PyData.depth (.tuple _)<=20
  simp only[PyData.depth,PyData.depthAll,eT]
  omega
 ·show Ib (.tuple _)=true
  simp only[Ib,fixDs,encT.fix,Bool.true_and,Bool.and_true]
  cases a.d<;>simp only[eD,Ib,fixDs,encT.fix,encC.fix,encT.fixL,Bool.true_and,Bool.and_true]
theorem Qn(n:Nat):(rng 0 n).map PyData.int=(List.range n).map fun(k:Nat)=>PyData.int (k:Int):=by
 unfold rng
 rw[List.map_map]
 refine List.map_congr_left fun k _=>?_
 show PyData.int (0+(k:Int))=_
 rw[Int.zero_add]
theorem nR{i:Nat}{f:DX}{τ τ1:DS}{d:PyData}{xs:List PyData}(hi:τ[i]?=some (some (.m xs)))(hf:f (τ.set i (some (.d (.list xs))))=some (d,τ1))(hx:(Ib d&&τ1.all okM)=true):J7 i f τ=some (d,τ1.set i (some (.m xs))):=by
 unfold J7
 rw[hi]
 show(f _).bind _=_
 rw[hf]
 show(if _ then _ else _)=_
 rw[if_pos hx]
theorem Mv{F:List PyData->Option PyData}{f:DX}{τ τ1:DS}{d r:PyData}(h:f τ=some (d,τ1))(e:F [d]=some r):Bh F (AB f AI) τ=some (r,τ1):=by
 unfold Bh
 rw[acc h rfl]
 show((F [d]).map _)=_
 rw[e];rfl
theorem eB{i:Nat}{a:DA}{τ τ1:DS}{d:PyData}{xs:List PyData}(h:a τ=some ([.d d],τ1))(m:τ1[i]?=some (some (.m xs)))(hz:xs.length<900):CU (dMt i By a) τ=some (.nx (τ1.set i (some (.m (xs++[d]))))):=by
 have hs:xs.length<sizeLine:=Nat.lt_of_lt_of_le hz (by decide)
 unfold CU dMt
 rw[h]
 show((match τ1[i]? with|some (some (.m xs))=>_|_=>_):Option (PyData×DS)).map _=_
 rw[m]
 show((if xs.length<sizeLine then some (PyData.none,xs++[d]) else none).map _).map _=_
 rw[if_pos hs]
 rfl
theorem Je{a:DA}{τ τ1:DS}{rs:List Ar}{ds:List PyData}(h:a τ=some (rs,τ1))(k:Dl rs=some ds)(hz:ds.length<=1000):BI a τ=some (.tuple ds,τ1):=by
 unfold BI
 rw[h]
 show(Dl rs).bind _=_
 rw[k]
 show(if ds.length<=sizeLine then _ else _)=_
 rw[if_pos (sz hz)]
theorem mX{c:DT}{b:DB}{n:Nat}{τ τ1:DS}(h:c τ=some (false,τ1)):dWh c b (n+1) τ=some (.nx τ1):=by
 rw[dWh,h];rfl
theorem mW{c:DT}{b:DB}{n:Nat}{τ τ1 τ2:DS}(h:c τ=some (true,τ1))(k:b τ1=some (.nx τ2)):dWh c b (n+1) τ=dWh c b n τ2:=by
 rw[dWh,h]
 show(b τ1).bind _=_
 rw[k];rfl
theorem lJ{i:Nat}{f:DX}{τ:DS}{xs:List PyData}{d:PyData}(hi:τ[i]?=some (some (.m xs)))(hf:f (τ.set i (some (.d (.list xs))))=some (d,τ.set i (some (.d (.list xs)))))(hd:Ib d=true)(hok:(τ.set i (some (.d (.list xs)))).all okM=true):J7 i f τ=some (d,τ):=by
 unfold J7
 rw[hi]
 dsimp only
 rw[hf]
 dsimp only[Option.bind]
 rw[hd,hok,Bool.and_self,if_pos rfl,List.set_set]
 congr 2
 obtain⟨hlt,he⟩:=List.getElem?_eq_some_iff.mp hi
 rw[<- he,List.set_getElem_self]
theorem pq{i:Nat}{f:DX}{τ:DS}{xs ys:List PyData}(hi:τ[i]?=some (some (.m xs)))(hf:f (τ.set i (some (.d (.list xs))))=some (.list ys,τ.set i (some (.d (.list xs)))))(hd:fixDs ys=true)(hok:(τ.set i (some (.d (.list xs)))).all okM=true):MH i f τ=some (.list ys,τ):=by
 unfold MH
 rw[hi]
 dsimp only
 rw[hf]
 dsimp only[Option.bind]
 rw[hd,hok,Bool.and_self,if_pos rfl,List.set_set]
 congr 2
 obtain⟨hlt,he⟩:=List.getElem?_eq_some_iff.mp hi
 rw[<- he,List.set_getElem_self]
def KZ(al s:Str):Prop:=∀c∈s.cps.toList,c∈al.cps.toList
def alN:Str:="abcdefghijklmnopqrstuvwxyz0123456789"
def alW:Str:="0123456789abcdef-_"
def alS:Str:="#."
theorem Zf{al s:Str}(ha:PyData.strOk al=true)(h:KZ al s):PyData.strOk s=true:=by
 unfold PyData.strOk at *
 rw[Array.all_eq_true_iff_forall_mem]at *
 exact fun c hc=>ha c (Array.mem_toList_iff.mp (h c (Array.mem_toList_iff.mpr hc)))
theorem ixA{al:Str}{m:Int}(h0:0<m)(hl:(al.length:Int)=m)(hz:m<=100)(v:Int):∃c,c∈al.cps.toList/\XQ (.str al) (.int (v % m))=some (.str ⟨#[c]⟩):=by
 have hk0:=Int.emod_nonneg v (show m≠0 by omega)
 have hk1:=Int.emod_lt_of_pos v h0
 have e:al.cps.toList.length=al.length:=rfl
 have hk:(v % m).toNat<al.cps.toList.length:=by omega
 refine⟨al.cps.toList[(v % m).toNat],List.getElem_mem hk,?_⟩
 show(if al.length<=sizeLine then _ else _)=_
 rw[if_pos (sz (by omega))]
 unfold atI ixN
 rw[if_pos hk0,if_pos (by omega)]
 show(al.cps.toList[(v % m).toNat]?).map _=_
 rw[List.getElem?_eq_getElem hk];rfl
theorem pP{s:Str}{c:Nat}(h:s.length<=100):Kj (.str s) (.str ⟨#[c]⟩)=some (.str (s++(⟨#[c]⟩:Str))):=by
 show(if s.length+1<=sizeLine then _ else _)=_
 rw[if_pos (sz (by omega))]
theorem fg(s:Str)(c:Nat):(s++(⟨#[c]⟩:Str)).length=s.length+1:=by
 show(s.cps++#[c]).size=_
 rw[Array.size_append];rfl
theorem jl{al s:Str}{c:Nat}(h:KZ al s)(hc:c∈al.cps.toList):KZ al (s++(⟨#[c]⟩:Str)):=by
 intro x hx
 have:x∈(s.cps++#[c]).toList:=hx
 rw[Array.toList_append]at this
 rcases List.mem_append.mp this with z|z
 ·exact h x z
 ·rw[List.mem_singleton.mp z];exact hc
theorem jV(al:Str):KZ al "":=by
 intro c hc
 have:(Str.cps "").toList=[]:=∅
 rw[this]at hc;cases hc
def sgB(al:Str)(m:Int):DB:=Af (Ak (dOp Kj (AE 1) (dOp XQ (dC (.str al)) (dOp Bn (AE 0) (dC (.int m))))) (dN 1)) (Ak (dOp CT (AE 0) (dC (.int m))) (dN 0))
theorem eO{al:Str}{m:Int}(h0:0<m)(hl:(al.length:Int)=m)(hz:m<=100)(n:Int)(n0:0<=n)(n1:n<=50)(v:Int):∃(u:Int) (s:Str) (o:Option L),nM o/\(s.length:Int)=n/\KZ al s /\
  ER (dN 3) (sgB al m) ((rng 0 n.toNat).map PyData.int) [some (.d (.int v)),some (.d (.str "")),some (.d (.int n)),none]=some (.nx [some (.d (.int u)),some (.d (.str s)),some (.d (.int n)),o]):=by
 let st:Int->Str->Option L->DS:=fun u s o=>[some (.d (.int u)),some (.d (.str s)),some (.d (.int n)),o]
 have lp:∃τ',ER (dN 3) (sgB al m) ((List.range n.toNat).map fun(k:Nat)=>PyData.int (k:Int)) (st v "" none)=some (.nx τ')/\∃u s o,nM o/\s.length=(List.range n.toNat).length/\KZ al s/\τ'=st u s o:=by
  refine Ge (fun(pre:List Nat) τ=>∃u s o,nM o/\s.length=pre.length/\KZ al s/\τ=st u s o) ⟨v,"",none,De,∅,jV al,rfl⟩ ?_
  rintro pre k post τ hp ⟨u,s,o,ho,hr,hall,rfl⟩
  have hl':=Il hp
  rw[List.length_range]at hl'
  let K:Option L:=some (.d (.int (k:Int)))
  obtain⟨c,hc,ej⟩:=ixA h0 hl hz u
  let s':=s++(⟨#[c]⟩:Str)
  have s1:Ak (dOp Kj (AE 1) (dOp XQ (dC (.str al)) (dOp Bn (AE 0) (dC (.int m))))) (dN 1) (st u s K)=some (.nx (st u s' K)) :=
   BX (d:=.str s') (τ1:=st u s K) (op2 (x:=.str s) (y:=.str ⟨#[c]⟩) (τ1:=st u s K) rfl (op2 (x:=.str al) (y:=.int (u % m)) (τ1:=st u s K) rfl (op2 (x:=.int u) (y:=.int m) (τ1:=st u s K) rfl rfl (EF h0)) ej) (pP (by omega))) rfl
  have s2:Ak (dOp CT (AE 0) (dC (.int m))) (dN 0) (st u s' K)=some (.nx (st (u / m) s' K)) :=
   BX (d:=.int (u / m)) (τ1:=st u s' K) (op2 (x:=.int u) (y:=.int m) (τ1:=st u s' K) rfl rfl (Fu h0 (by omega))) rfl
  exact⟨st u s K,_,HJ (o:=o) rfl ho,(AR s1).trans s2,u / m,s',K,IP,by rw[fg,List.length_append,hr];rfl,jl hall hc,rfl⟩
 obtain⟨τ',e,u,s,o,ho,hl,hall,rfl⟩:=lp
 rw[<- Qn]at e
 rw[List.length_range]at hl
 exact⟨u,s,o,ho,by omega,hall,e⟩
theorem dP(v:Int):∃(t:Tx) (w:Int) (ls:List L),IB [.d (.int v)]=some (.tuple [eT t,.int w],ls)/\1<=t.1.length/\t.1.length<=8/\KZ alN t.1:=by
 obtain⟨u,s,o,ho,hl,ha,e⟩:=eO (al:=alN) (m:=36) (by decide) ∅ (by decide) (1+v % 8) (by omega) (by omega) (v / 8)
 refine⟨⟨s,Zf ∅ ha⟩,u,[.d (.int v)],?_,by show 1<=s.length;omega,by show s.length<=8;omega,ha⟩
 unfold IB
 let I:Int->Option L:=fun i=>some (.d (.int i))
 let T:Option L:=some (.d (.str ""))
 refine A5 (τ:=[I u,some (.d (.str s)),I (1+v % 8),o]) ?_ rfl rfl
 have z2:Ak (dOp CM (dC (.int 1)) (dOp Bn (AE 0) (dC (.int 8)))) (dN 2) [I v,T,none,none]=some (.nx [I v,T,I (1+v % 8),none]):=by
  have d:=EF (i:=v) (j:=8) (by decide)
  simp only[I,T,d,Bc,Af,Ak,dN,Ax,BQ,BK,E1,AE,dC,dOp,fI,CM,EI,fLt,fLe,fGt,fGe,Ag,AW,AI,AB,Dl,BI,Bh,AU,Bf,B6,EA,EB,D1,Fw,DU,atI,ixN,sz',Option.bind_some,Option.map_some,List.map_cons,List.map_nil,List.cons_append,List.nil_append,List.length_cons,List.length_nil,List.getElem?_cons_zero,List.getElem?_cons_succ,List.set_cons_zero,List.set_cons_succ,List.replicate_succ,List.replicate_zero,if_true,if_false,reduceIte,Bool.false_eq_true,Nat.reduceAdd,Nat.reduceLT,Int.reduceAdd,Int.reduceLT,Int.reduceLE,Int.reduceToNat,Nat.reduceLeDiff,and_self,Int.toNat_zero,Int.le_refl,Int.natCast_add,Int.cast_ofNat_Int,Nat.zero_add]
 have z3:Ak (dOp CT (AE 0) (dC (.int 8))) (dN 0) [I v,T,I (1+v % 8),none]=some (.nx [I (v / 8),T,I (1+v % 8),none]):=by
  have d:=Fu (i:=v) (j:=8) (by decide) (by decide)
  simp only[I,T,d,Bc,Af,Ak,dN,Ax,BQ,BK,E1,AE,dC,dOp,fI,CM,EI,fLt,fLe,fGt,fGe,Ag,AW,AI,AB,Dl,BI,Bh,AU,Bf,B6,EA,EB,D1,Fw,DU,atI,ixN,sz',Option.bind_some,Option.map_some,List.map_cons,List.map_nil,List.cons_append,List.nil_append,List.length_cons,List.length_nil,List.getElem?_cons_zero,List.getElem?_cons_succ,List.set_cons_zero,List.set_cons_succ,List.replicate_succ,List.replicate_zero,if_true,if_false,reduceIte,Bool.false_eq_true,Nat.reduceAdd,Nat.reduceLT,Int.reduceAdd,Int.reduceLT,Int.reduceLE,Int.reduceToNat,Nat.reduceLeDiff,and_self,Int.toNat_zero,Int.le_refl,Int.natCast_add,Int.cast_ofNat_Int,Nat.zero_add]
 refine(AR rfl).trans ((AR z2).trans ((AR z3).trans ?_))
 exact(AR ((Ht (Ss (n:=1+v % 8) (τ1:=[I (v / 8),T,I (1+v % 8),none]) rfl (by omega) (by omega))).trans e)).trans rfl
theorem cO(v:Int):∃(t:Tx) (w:Int) (ls:List L),IA [.d (.int v)]=some (.tuple [eT t,.int w],ls)/\t.1.length<=6/\KZ alW t.1:=by
 obtain⟨u,s,o,ho,hl,ha,e⟩:=eO (al:=alW) (m:=18) (by decide) ∅ (by decide) (v % 7) (by omega) (by omega) (v / 7)
 refine⟨⟨s,Zf ∅ ha⟩,u,[.d (.int v)],?_,by show s.length<=6;omega,ha⟩
 unfold IA
 let I:Int->Option L:=fun i=>some (.d (.int i))
 let T:Option L:=some (.d (.str ""))
 refine A5 (τ:=[I u,some (.d (.str s)),I (v % 7),o]) ?_ rfl rfl
 have z2:Ak (dOp Bn (AE 0) (dC (.int 7))) (dN 2) [I v,T,none,none]=some (.nx [I v,T,I (v % 7),none]):=by
  have d:=EF (i:=v) (j:=7) (by decide)
  simp only[I,T,d,Bc,Af,Ak,dN,Ax,BQ,BK,E1,AE,dC,dOp,fI,CM,EI,fLt,fLe,fGt,fGe,Ag,AW,AI,AB,Dl,BI,Bh,AU,Bf,B6,EA,EB,D1,Fw,DU,atI,ixN,sz',Option.bind_some,Option.map_some,List.map_cons,List.map_nil,List.cons_append,List.nil_append,List.length_cons,List.length_nil,List.getElem?_cons_zero,List.getElem?_cons_succ,List.set_cons_zero,List.set_cons_succ,List.replicate_succ,List.replicate_zero,if_true,if_false,reduceIte,Bool.false_eq_true,Nat.reduceAdd,Nat.reduceLT,Int.reduceAdd,Int.reduceLT,Int.reduceLE,Int.reduceToNat,Nat.reduceLeDiff,and_self,Int.toNat_zero,Int.le_refl,Int.natCast_add,Int.cast_ofNat_Int,Nat.zero_add]
 have z3:Ak (dOp CT (AE 0) (dC (.int 7))) (dN 0) [I v,T,I (v % 7),none]=some (.nx [I (v / 7),T,I (v % 7),none]):=by
  have d:=Fu (i:=v) (j:=7) (by decide) (by decide)
  simp only[I,T,d,Bc,Af,Ak,dN,Ax,BQ,BK,E1,AE,dC,dOp,fI,CM,EI,fLt,fLe,fGt,fGe,Ag,AW,AI,AB,Dl,BI,Bh,AU,Bf,B6,EA,EB,D1,Fw,DU,atI,ixN,sz',Option.bind_some,Option.map_some,List.map_cons,List.map_nil,List.cons_append,List.nil_append,List.length_cons,List.length_nil,List.getElem?_cons_zero,List.getElem?_cons_succ,List.set_cons_zero,List.set_cons_succ,List.replicate_succ,List.replicate_zero,if_true,if_false,reduceIte,Bool.false_eq_true,Nat.reduceAdd,Nat.reduceLT,Int.reduceAdd,Int.reduceLT,Int.reduceLE,Int.reduceToNat,Nat.reduceLeDiff,and_self,Int.toNat_zero,Int.le_refl,Int.natCast_add,Int.cast_ofNat_Int,Nat.zero_add]
 refine(AR rfl).trans ((AR z2).trans ((AR z3).trans ?_))
 exact(AR ((Ht (Ss (n:=v % 7) (τ1:=[I (v / 7),T,I (v % 7),none]) rfl (by omega) (by omega))).trans e)).trans rfl
theorem Ik(v:Int):∃(x w:Int) (ls:List L),B8 [.d (.int v)]=some (.tuple [.int x,.int w],ls)/\-60<=x/\x<=60:=by
 have d1:=EF (i:=v) (j:=6) (by decide)
 have d2:=Fu (i:=v) (j:=6) (by decide) (by decide)
 have d3:=EF (i:=v / 6) (j:=121) (by decide)
 have d4:=EF (i:=v / 6) (j:=12) (by decide)
 have d5:=Fu (i:=v) (j:=726) (by decide) (by decide)
 have d6:=Fu (i:=v) (j:=72) (by decide) (by decide)
 by_cases h:v % 6=0
 ·refine⟨v / 6 % 121-60,v / 726,[.d (.int v)],?_,by omega,by omega⟩
  have q:fEq (.int (v % 6)) (.int 0)=some (.bool true):=by rw[encI.fEq,decide_eq_true h]
  simp only[B8,d1,d2,d3,d5,q,Bc,Af,Ak,dN,Ax,BQ,BK,E1,AE,dC,dOp,fI,CM,EI,fLt,fLe,fGt,fGe,Ag,AW,AI,AB,Dl,BI,Bh,AU,Bf,B6,EA,EB,D1,Fw,DU,atI,ixN,sz',Option.bind_some,Option.map_some,List.map_cons,List.map_nil,List.cons_append,List.nil_append,List.length_cons,List.length_nil,List.getElem?_cons_zero,List.getElem?_cons_succ,List.set_cons_zero,List.set_cons_succ,List.replicate_succ,List.replicate_zero,if_true,if_false,reduceIte,Bool.false_eq_true,Nat.reduceAdd,Nat.reduceLT,Int.reduceAdd,Int.reduceLT,Int.reduceLE,Int.reduceToNat,Nat.reduceLeDiff,and_self,Int.toNat_zero,Int.le_refl,Int.natCast_add,Int.cast_ofNat_Int,Nat.zero_add]
 ·refine⟨v / 6 % 12-3,v / 72,[.d (.int v)],?_,by omega,by omega⟩
  have q:fEq (.int (v % 6)) (.int 0)=some (.bool false):=by rw[encI.fEq,decide_eq_false h]
  simp only[B8,d1,d2,d4,d6,q,Bc,Af,Ak,dN,Ax,BQ,BK,E1,AE,dC,dOp,fI,CM,EI,fLt,fLe,fGt,fGe,Ag,AW,AI,AB,Dl,BI,Bh,AU,Bf,B6,EA,EB,D1,Fw,DU,atI,ixN,sz',Option.bind_some,Option.map_some,List.map_cons,List.map_nil,List.cons_append,List.nil_append,List.length_cons,List.length_nil,List.getElem?_cons_zero,List.getElem?_cons_succ,List.set_cons_zero,List.set_cons_succ,List.replicate_succ,List.replicate_zero,if_true,if_false,reduceIte,Bool.false_eq_true,Nat.reduceAdd,Nat.reduceLT,Int.reduceAdd,Int.reduceLT,Int.reduceLE,Int.reduceToNat,Nat.reduceLeDiff,and_self,Int.toNat_zero,Int.le_refl,Int.natCast_add,Int.cast_ofNat_Int,Nat.zero_add]
theorem MP(v m:Int)(m0:5<=m)(m1:m<=100):∃(x w:Int) (ls:List L),EO [.d (.int v),.d (.int m)]=some (.tuple [.int x,.int w],ls)/\1<=x/\x<=m:=by
 have d1:=EF (i:=v) (j:=8) (by decide)
 have d2:=Fu (i:=v) (j:=8) (by decide) (by decide)
 have d3:=EF (i:=v / 8) (j:=m) (by omega)
 have d4:=Fu (i:=v / 8) (j:=m) (by omega) (by omega)
 have d5:=EF (i:=v / 8) (j:=5) (by decide)
 have d6:=Fu (i:=v) (j:=40) (by decide) (by decide)
 have g0:=Int.emod_nonneg (v / 8) (show m≠0 by omega)
 have g1:=Int.emod_lt_of_pos (v / 8) (show 0<m by omega)
 by_cases h:v % 8=0
 ·refine⟨1+v / 8 % m,v / 8 / m,[.d (.int v),.d (.int m)],?_,by omega,by omega⟩
  have q:fEq (.int (v % 8)) (.int 0)=some (.bool true):=by rw[encI.fEq,decide_eq_true h]
  simp only[EO,d1,d2,d3,d4,q,Bc,Af,Ak,dN,Ax,BQ,BK,E1,AE,dC,dOp,fI,CM,EI,fLt,fLe,fGt,fGe,Ag,AW,AI,AB,Dl,BI,Bh,AU,Bf,B6,EA,EB,D1,Fw,DU,atI,ixN,sz',Option.bind_some,Option.map_some,List.map_cons,List.map_nil,List.cons_append,List.nil_append,List.length_cons,List.length_nil,List.getElem?_cons_zero,List.getElem?_cons_succ,List.set_cons_zero,List.set_cons_succ,List.replicate_succ,List.replicate_zero,if_true,if_false,reduceIte,Bool.false_eq_true,Nat.reduceAdd,Nat.reduceLT,Int.reduceAdd,Int.reduceLT,Int.reduceLE,Int.reduceToNat,Nat.reduceLeDiff,and_self,Int.toNat_zero,Int.le_refl,Int.natCast_add,Int.cast_ofNat_Int,Nat.zero_add]
 ·refine⟨1+v / 8 % 5,v / 40,[.d (.int v),.d (.int m)],?_,by omega,by omega⟩
  have q:fEq (.int (v % 8)) (.int 0)=some (.bool false):=by rw[encI.fEq,decide_eq_false h]
  simp only[EO,d1,d2,d5,d6,q,Bc,Af,Ak,dN,Ax,BQ,BK,E1,AE,dC,dOp,fI,CM,EI,fLt,fLe,fGt,fGe,Ag,AW,AI,AB,Dl,BI,Bh,AU,Bf,B6,EA,EB,D1,Fw,DU,atI,ixN,sz',Option.bind_some,Option.map_some,List.map_cons,List.map_nil,List.cons_append,List.nil_append,List.length_cons,List.length_nil,List.getElem?_cons_zero,List.getElem?_cons_succ,List.set_cons_zero,List.set_cons_succ,List.replicate_succ,List.replicate_zero,if_true,if_false,reduceIte,Bool.false_eq_true,Nat.reduceAdd,Nat.reduceLT,Int.reduceAdd,Int.reduceLT,Int.reduceLE,Int.reduceToNat,Nat.reduceLeDiff,and_self,Int.toNat_zero,Int.le_refl,Int.natCast_add,Int.cast_ofNat_Int,Nat.zero_add]
theorem aS(v:Int):∃(a b:Cl) (w:Int) (ls:List L),Ew [.d (.int v)]=some (.tuple [ec a,ec b,.int w],ls)/\OkF a/\OkF b:=by
 obtain⟨a,u,l1,e1,oa⟩:=Sr v
 obtain⟨b,w,l2,e2,ob⟩:=Sr (u / 3)
 have d1:=EF (i:=u) (j:=3) (by decide)
 have d2:=Fu (i:=u) (j:=3) (by decide) (by decide)
 by_cases h:u % 3=0
 ·refine⟨a,(1,1),u / 3,[.d (.int v)],?_,oa,?_⟩
  ·have q:fEq (.int (u % 3)) (.int 0)=some (.bool true):=by rw[encI.fEq,decide_eq_true h]
   simp only[Ew,e1,q,d1,d2,Bc,Af,Ak,dN,QX,Oa,Ax,LF,RV,CU,dMt,By,Ml,QS,Vw,BQ,BK,eA,dz,GJ,Hv,E1,AE,dC,dOp,dUn,fI,CM,EI,fLt,fLe,fGt,fGe,O0,XD,VY,MB,JZ,Ag,AW,El,Hu,Ck,dIf,HL,dOr,SW,Fs,AI,AB,Dl,BI,Kq,Bh,AU,QZ,Bf,QY,dAS,mkL,nMb,isM,isC,J7,MH,Ii,FD,dIL,dIT,dR1,dR2,C5,A6,dGT,B6,EA,EB,D1,Dw,f1,f2,VZ,VX,VW,MC,FH,du,Ic,Fw,DU,atI,ixN,KR,Ul,Um,Uk,Ib,fixDs,sz',Option.bind_some,Option.bind_none,Option.map_some,Option.map_none,List.map_cons,List.map_nil,List.cons_append,List.nil_append,List.length_cons,List.length_nil,List.getElem?_cons_zero,List.getElem?_cons_succ,List.set_cons_zero,List.set_cons_succ,List.replicate_succ,List.replicate_zero,List.all_cons,List.all_nil,Bool.and_self,Bool.and_true,Bool.true_and,Bool.false_and,Bool.and_false,Bool.or_true,Bool.true_or,Bool.false_or,Bool.or_false,Bool.not_true,Bool.not_false,if_true,if_false,reduceIte,Bool.false_eq_true,Nat.reduceAdd,Nat.reduceLT,Nat.reduceSub,Nat.reduceMul,Int.reduceEq,Int.reduceSub,Int.reduceMul,Int.reducePow,Int.reduceDiv,Int.reduceMod,Nat.reduceLeDiff,Nat.reduceEqDiff,and_self,and_true,true_and,Int.natCast_add,Int.reduceAdd,Int.reduceLT,Int.reduceLE,Int.reduceToNat,Int.reduceNeg,Int.toNat_zero,Int.toNat_one,Int.zero_lt_one,Int.le_refl,Int.reduceNegSucc,Int.cast_ofNat_Int,Nat.zero_add,Nat.add_zero]
   rfl
  ·have:=jd (t:=1) (b:=1) (by decide) (by decide) (by decide) (by decide)
   rwa [show frm 1 1=(1,1) by decide]at this
 ·refine⟨a,b,w,[.d (.int v)],?_,oa,ob⟩
  have q:fEq (.int (u % 3)) (.int 0)=some (.bool false):=by rw[encI.fEq,decide_eq_false h]
  simp only[Ew,e1,e2,q,d1,d2,Bc,Af,Ak,dN,QX,Oa,Ax,LF,RV,CU,dMt,By,Ml,QS,Vw,BQ,BK,eA,dz,GJ,Hv,E1,AE,dC,dOp,dUn,fI,CM,EI,fLt,fLe,fGt,fGe,O0,XD,VY,MB,JZ,Ag,AW,El,Hu,Ck,dIf,HL,dOr,SW,Fs,AI,AB,Dl,BI,Kq,Bh,AU,QZ,Bf,QY,dAS,mkL,nMb,isM,isC,J7,MH,Ii,FD,dIL,dIT,dR1,dR2,C5,A6,dGT,B6,EA,EB,D1,Dw,f1,f2,VZ,VX,VW,MC,FH,du,Ic,Fw,DU,atI,ixN,KR,Ul,Um,Uk,Ib,fixDs,sz',Option.bind_some,Option.bind_none,Option.map_some,Option.map_none,List.map_cons,List.map_nil,List.cons_append,List.nil_append,List.length_cons,List.length_nil,List.getElem?_cons_zero,List.getElem?_cons_succ,List.set_cons_zero,List.set_cons_succ,List.replicate_succ,List.replicate_zero,List.all_cons,List.all_nil,Bool.and_self,Bool.and_true,Bool.true_and,Bool.false_and,Bool.and_false,Bool.or_true,Bool.true_or,Bool.false_or,Bool.or_false,Bool.not_true,Bool.not_false,if_true,if_false,reduceIte,Bool.false_eq_true,Nat.reduceAdd,Nat.reduceLT,Nat.reduceSub,Nat.reduceMul,Int.reduceEq,Int.reduceSub,Int.reduceMul,Int.reducePow,Int.reduceDiv,Int.reduceMod,Nat.reduceLeDiff,Nat.reduceEqDiff,and_self,and_true,true_and,Int.natCast_add,Int.reduceAdd,Int.reduceLT,Int.reduceLE,Int.reduceToNat,Int.reduceNeg,Int.toNat_zero,Int.toNat_one,Int.zero_lt_one,Int.le_refl,Int.reduceNegSucc,Int.cast_ofNat_Int,Nat.zero_add,Nat.add_zero]
theorem pj:∀rs:List Tx,fixDs (rs.map eT)=true:=encT.fixL
theorem WX(v:Int):∃(R:List Tx) (w:Nat) (v':Int) (ls:List L),FV [.d (.int v)]=some (.tuple [.tuple (R.map eT),.int v'],ls)/\1<=R.length/\R.length<=8/\1<=w/\w<=8/\∀r∈R,r.1.length=w/\KZ alS r.1:=by
 generalize hw:(1+v % 8:Int)=W
 generalize hh:(1+v / 8 % 8:Int)=Hh
 have w1:1<=W:=by omega
 have w2:W<=8:=by omega
 have h1:1<=Hh:=by omega
 have h2:Hh<=8:=by omega
 let I:Int->Option L:=fun i=>some (.d (.int i))
 let st:Int->List Tx->Option L->Option L->Option L->DS:=fun u R o4 o5 o6=>[I u,I W,I Hh,some (.m (R.map eT)),o4,o5,o6]
 let S:Str->Option L:=fun r=>some (.d (.str r))
 let Bi:DB:=Af (Ak (dOp Kj (AE 5) (dOp XQ (dC (.str "#.")) (dOp Bn (AE 0) (dC (.int 2))))) (dN 5)) (Ak (dOp CT (AE 0) (dC (.int 2))) (dN 0))
 have inner:∀(u:Int) (R:List Tx) (o4 o6:Option L),nM o6->∃τ',ER (dN 6) Bi ((List.range W.toNat).map fun(k:Nat)=>PyData.int (k:Int)) (st u R o4 (S "") o6)=some (.nx τ')/\∃u' r o,nM o/\r.length=(List.range W.toNat).length/\KZ alS r/\τ'=st u' R o4 (S r) o:=by
  intro u R o4 o6 n6
  refine Ge (fun(pre:List Nat) τ=>∃u' r o,nM o/\r.length=pre.length/\KZ alS r/\τ=st u' R o4 (S r) o) ⟨u,"",o6,n6,∅,jV _,rfl⟩ ?_
  rintro pre k post τ hp ⟨u',r,o,ho,hr,hall,rfl⟩
  have hl:=Il hp
  rw[List.length_range]at hl
  let K:Option L:=I (k:Int)
  let τ1:=st u' R o4 (S r) K
  obtain⟨c,hc,ej⟩:=ixA (al:=alS) (m:=2) (by decide) ∅ (by decide) u'
  let r':=r++(⟨#[c]⟩:Str)
  have s1:Ak (dOp Kj (AE 5) (dOp XQ (dC (.str "#.")) (dOp Bn (AE 0) (dC (.int 2))))) (dN 5) τ1=some (.nx (st u' R o4 (S r') K)) :=
   BX (d:=.str r') (τ1:=τ1) (op2 (x:=.str r) (y:=.str ⟨#[c]⟩) (τ1:=τ1) rfl (op2 (x:=.str "#.") (y:=.int (u' % 2)) (τ1:=τ1) rfl (op2 (x:=.int u') (y:=.int 2) (τ1:=τ1) rfl rfl (EF (by decide))) ej) (pP (by omega))) rfl
  have s2:Ak (dOp CT (AE 0) (dC (.int 2))) (dN 0) (st u' R o4 (S r') K)=some (.nx (st (u' / 2) R o4 (S r') K)) :=
   BX (d:=.int (u' / 2)) (τ1:=st u' R o4 (S r') K) (op2 (x:=.int u') (y:=.int 2) (τ1:=st u' R o4 (S r') K) rfl rfl (Fu (by decide) (by decide))) rfl
  exact⟨τ1,_,HJ (o:=o) rfl ho,(AR s1).trans s2,u' / 2,r',K,IP,by rw[fg,List.length_append,hr];rfl,jl hall hc,rfl⟩
 have outer:∃τ',ER (dN 4) (Af (Ak (dC (.str "")) (dN 5)) (Af (Hv (dR1 (AB (AE 1) AI)) (dN 6) Bi) (CU (dMt 3 By (AB (AE 5) AI))))) ((List.range Hh.toNat).map fun(k:Nat)=>PyData.int (k:Int)) (st (v / 64) [] none none none)=some (.nx τ')/\∃u R o4 o5 o6,nM o4/\nM o5/\nM o6/\R.length=(List.range Hh.toNat).length/\(∀r∈R,r.1.length=W.toNat/\KZ alS r.1)/\τ'=st u R o4 o5 o6:=by
  refine Ge (fun(pre:List Nat) τ=>∃u R o4 o5 o6,nM o4/\nM o5/\nM o6/\R.length=pre.length/\(∀r∈R,r.1.length=W.toNat/\KZ alS r.1)/\τ=st u R o4 o5 o6) ⟨v / 64,[],none,none,none,De,De,De,rfl,(fun r hr=>by cases hr),rfl⟩ ?_
  rintro pre k post τ hp ⟨u,R,o4,o5,o6,n4,n5,n6,hR,hall,rfl⟩
  have hl:=Il hp
  rw[List.length_range]at hl
  let K:Option L:=I (k:Int)
  have s1:Ak (dC (.str "")) (dN 5) (st u R K o5 o6)=some (.nx (st u R K (S "") o6)):=BX (d:=.str "") (τ1:=st u R K o5 o6) rfl (HJ (o:=o5) rfl n5)
  obtain⟨τ',e,u',r,o,ho,hr,hal,rfl⟩:=inner u R K o6 n6
  rw[<- Qn]at e
  let rt:Tx:=⟨r,Zf ∅ hal⟩
  have s2:Hv (dR1 (AB (AE 1) AI)) (dN 6) Bi (st u R K (S "") o6)=some (.nx (st u' R K (S r) o)):=(Ht (Ss (n:=W) (τ1:=st u R K (S "") o6) rfl (by omega) (by omega))).trans e
  have s3:CU (dMt 3 By (AB (AE 5) AI)) (st u' R K (S r) o)=some (.nx (st u' (R++[rt]) K (S r) o)):=by
   refine(eB (i:=3) (d:=eT rt) (xs:=R.map eT) (τ1:=st u' R K (S r) o) rfl rfl (by rw[List.length_map];omega)).trans ?_
   show some (Out.nx [_,_,_,some (.m (R.map eT++[eT rt])),_,_,_])=_
   rw[show R.map eT++[eT rt]=(R++[rt]).map eT by rw[List.map_append];rfl]
  refine⟨st u R K o5 o6,st u' (R++[rt]) K (S r) o,HJ (o:=o4) rfl n4,(AR s1).trans ((AR s2).trans s3),u',R++[rt],K,S r,o,IP,IP,ho,by rw[List.length_append,List.length_append,hR];rfl,fun x hx=>?_,rfl⟩
  rcases List.mem_append.mp hx with z|z
  ·exact hall x z
  ·rw[List.mem_singleton.mp z]
   rw[List.length_range]at hr
   exact⟨hr,hal⟩
 obtain⟨τ',e,u,R,o4,o5,o6,n4,n5,n6,hR,hall,rfl⟩:=outer
 rw[<- Qn]at e
 rw[List.length_range]at hR
 unfold FV
 let s0:DS:=[I v,none,none,none,none,none,none]
 let s1:DS:=[I v,I W,none,none,none,none,none]
 let s2:DS:=[I v,I W,I Hh,none,none,none,none]
 let s3:DS:=[I (v / 64),I W,I Hh,none,none,none,none]
 have z1:Ak (dOp CM (dC (.int 1)) (dOp Bn (AE 0) (dC (.int 8)))) (dN 1) s0=some (.nx s1) :=
  BX (d:=.int W) (τ1:=s0) (op2 (x:=.int 1) (y:=.int (v % 8)) (τ1:=s0) rfl (op2 (x:=.int v) (y:=.int 8) (τ1:=s0) rfl rfl (EF (by decide))) (by rw[<- hw];rfl)) rfl
 have z2:Ak (dOp CM (dC (.int 1)) (dOp Bn (dOp CT (AE 0) (dC (.int 8))) (dC (.int 8)))) (dN 2) s1=some (.nx s2) :=
  BX (d:=.int Hh) (τ1:=s1) (op2 (x:=.int 1) (y:=.int (v / 8 % 8)) (τ1:=s1) rfl (op2 (x:=.int (v / 8)) (y:=.int 8) (τ1:=s1) (op2 (x:=.int v) (y:=.int 8) (τ1:=s1) rfl rfl (Fu (by decide) (by decide))) rfl (EF (by decide))) (by rw[<- hh];rfl)) rfl
 have z3:Ak (dOp CT (AE 0) (dC (.int 64))) (dN 0) s2=some (.nx s3) :=
  BX (d:=.int (v / 64)) (τ1:=s2) (op2 (x:=.int v) (y:=.int 64) (τ1:=s2) rfl rfl (Fu (by decide) (by decide))) rfl
 have z4:QX 1 3 s3=some (.nx (st (v / 64) [] none none none)):=rfl
 refine⟨R,W.toNat,u,_,A5 (τ:=st u R o4 o5 o6) ?_ rfl rfl,by omega,by omega,by omega,by omega,hall⟩
 refine(AR z1).trans ((AR z2).trans ((AR z3).trans ((AR z4).trans ?_)))
 refine(AR ((Ht (Ss (n:=Hh) (τ1:=st (v / 64) [] none none none) rfl (by omega) (by omega))).trans e)).trans (Bs (τ1:=st u R o4 o5 o6) ?_)
 let τd:DS:=[I u,I W,I Hh,some (.d (.list (R.map eT))),o4,o5,o6]
 refine nR (i:=3) (xs:=R.map eT) (τ1:=τd) rfl ?_ ?_
 ·unfold BI
  show((AB (Bh Zn (AB (AE 3) AI)) (AB (AE 0) AI) τd).bind _)=_
  rw[acc (Mv (d:=.list (R.map eT)) (r:=.tuple (R.map eT)) rfl rfl) (acc (τ1:=τd) (d:=.int u) rfl rfl)]
  rfl
 ·show((fixDs (R.map eT)&&(true&&true))&&(true&&(true&&(true&&(true&&(okM o4&&(okM o5&&(okM o6&&true))))))))=true
  rw[pj,Su n4,Su n5,Su n6];rfl
def WE:Dz->Prop
 |.plate w h a b=>1<=w/\w<=12/\1<=h/\h<=12/\OkF a/\OkF b
 |.band w h a b=>-12<=w/\w<=12/\-12<=h/\h<=12/\OkF a/\OkF b
 |.word t a b=>t.1.length<=6/\KZ alW t.1/\OkF a/\OkF b
 |.stencil R a b=>1<=R.length/\R.length<=8/\(∃w,1<=w/\w<=8/\∀r∈R,r.1.length=w/\KZ alS r.1)/\OkF a/\OkF b
 |.group=>True
 |.glass a=>OkF a
 |.window w h x y=>1<=w/\w<=16/\1<=h/\h<=16/\-60<=x/\x<=60/\-60<=y/\y<=60
 |.turn q _=>0<=q/\q<=3
 |.tiles a b x y=>1<=a/\a<=3/\1<=b/\b<=3/\-20<=x/\x<=20/\-20<=y/\y<=20
 |.mask=>True
theorem inT(t:Tx)(ts:List Tx):fIn false (eT t) (.tuple (ts.map eT))=some (.bool (decide (t∈ts))):=by
 simp only[DL.fIn,encT.ok,encT.okL,encT.any,Bool.and_self,if_true,Bool.false_eq_true,if_false]
 exact congrArg (fun b=>some (PyData.bool b)) (decide_eq_decide.mpr Iff.rfl)
theorem sk{i j:Nat}(hi:i<10)(hj:j<10)(h:i≠j){a:DB}{τ:DS}(e:τ[0]?=some (some (.d (eT (kS i))))):BK (AW (dOp fEq (AE 0) (dC (eT (kS j))))) a BQ τ=some (.nx τ):=by
 refine(Cp (τ1:=τ) (tst (op2 (x:=eT (kS i)) (y:=eT (kS j)) (τ1:=τ) (by unfold AE;rw[e]) rfl ?_))).trans rfl
 rw[encT.fEq,decide_eq_false fun z=>h (LV hi hj z)]
theorem tk{i:Nat}{a:DB}{τ:DS}(e:τ[0]?=some (some (.d (eT (kS i))))):BK (AW (dOp fEq (AE 0) (dC (eT (kS i))))) a BQ τ=a τ:=by
 refine M8 (τ1:=τ) (tst (op2 (x:=eT (kS i)) (y:=eT (kS i)) (τ1:=τ) (by unfold AE;rw[e]) rfl ?_))
 rw[encT.fEq,decide_eq_true rfl]
theorem Vu{i:Nat}(hi:i<10)(v:Int):∃(d:Dz) (w:Int) (ls:List L),Bm [.d (eT (kS i)),.d (.int v)]=some (.tuple [eD d,.int w],ls)/\kz d=i/\WE d:=by
 let I:Int->Option L:=fun i=>some (.d (.int i))
 let K:Option L:=some (.d (eT (kS i)))
 let N:Option L:=none
 let LS:List L:=[.d (eT (kS i)),.d (.int v)]
 let τ0:DS:=[K,I v,N,N,N,N,N,N,N,N,N]
 have g1:AW (dOp (fIn false) (AE 0) (BI (AB (dC (.str "group")) (AB (dC (.str "mask")) AI)))) τ0=some (decide (kS i∈[kS 4,kS 9]),τ0) :=
  tst (op2 (x:=eT (kS i)) (y:=.tuple ([kS 4,kS 9].map eT)) (τ1:=τ0) rfl rfl (inT _ _))
 have g0:i≠4->i≠9->∀a:DB,BK (AW (dOp (fIn false) (AE 0) (BI (AB (dC (.str "group")) (AB (dC (.str "mask")) AI))))) a BQ τ0=some (.nx τ0):=fun h4 h9 a=>by
  refine(Cp (τ1:=τ0) (g1.trans ?_)).trans rfl
  rw[decide_eq_false]
  intro z
  rcases List.mem_cons.mp z with z|z
  ·exact h4 (LV hi (by decide) z)
  ·exact h9 (LV hi (by decide) (List.mem_singleton.mp z))
 have g2:i=4\/i=9->Bm [.d (eT (kS i)),.d (.int v)]=some (.tuple [.tuple [],.int v],[.d (eT (kS i)),.d (.int v)]):=fun h=>by
  unfold Bm
  refine A5 (τ:=τ0) ((Fh ((M8 (τ1:=τ0) (g1.trans ?_)).trans rfl))) rfl rfl
  rw[decide_eq_true]
  rcases h with rfl|rfl
  ·exact List.mem_cons_self
  ·exact List.mem_cons_of_mem _ List.mem_cons_self
 have q1:i=4->∃(d:Dz) (w:Int) (ls:List L),Bm [.d (eT (kS i)),.d (.int v)]=some (.tuple [eD d,.int w],ls)/\kz d=i/\WE d:=fun h=>⟨.group,v,_,g2 (.inl h),by rw[h];rfl,trivial⟩
 have q2:i=9->∃(d:Dz) (w:Int) (ls:List L),Bm [.d (eT (kS i)),.d (.int v)]=some (.tuple [eD d,.int w],ls)/\kz d=i/\WE d:=fun h=>⟨.mask,v,_,g2 (.inr h),by rw[h];rfl,trivial⟩
 by_cases h4:i=4
 ·exact q1 h4
 by_cases h9:i=9
 ·exact q2 h9
 have G0:=g0 h4 h9
 by_cases h7:i=7
 ·subst h7
  have d1:=EF (i:=v) (j:=4) (by decide)
  have d2:=Fu (i:=v) (j:=4) (by decide) (by decide)
  have d3:=EF (i:=v / 4) (j:=2) (by decide)
  have d4:=Fu (i:=v) (j:=8) (by decide) (by decide)
  have d5:fEq (.int (v / 4 % 2)) (.int 1)=some (.bool (decide (v / 4 % 2=1))):=encI.fEq _ _
  refine⟨.turn (v % 4) (decide (v / 4 % 2=1)),v / 8,LS,?_,rfl,by show 0<=v % 4;omega,by show v % 4<=3;omega⟩
  unfold Bm
  refine A5 (τ:=τ0) ((AR (G0 _)).trans (Fh ((tk (i:=7) (τ:=τ0) rfl).trans (Bs (τ1:=τ0) ?_)))) rfl rfl
  simp only[τ0,K,I,N,d1,d2,d3,d4,d5,eD,Bc,Af,Ak,dN,Ax,BQ,BK,E1,AE,dC,dOp,fI,CM,EI,fLt,fLe,fGt,fGe,Ag,AW,AI,AB,Dl,BI,Bh,AU,Bf,B6,EA,EB,D1,Fw,DU,atI,ixN,sz',Option.bind_some,Option.map_some,List.map_cons,List.map_nil,List.cons_append,List.nil_append,List.length_cons,List.length_nil,List.getElem?_cons_zero,List.getElem?_cons_succ,List.set_cons_zero,List.set_cons_succ,List.replicate_succ,List.replicate_zero,if_true,if_false,reduceIte,Bool.false_eq_true,Nat.reduceAdd,Nat.reduceLT,Int.reduceAdd,Int.reduceLT,Int.reduceLE,Int.reduceToNat,Nat.reduceLeDiff,and_self,Int.toNat_zero,Int.le_refl,Int.natCast_add,Int.cast_ofNat_Int,Nat.zero_add]
 have G1:∀a:DB,BK (AW (dOp fEq (AE 0) (dC (.str "turn")))) a BQ τ0=some (.nx τ0):=fun a=>sk hi (j:=7) (by decide) h7 rfl
 by_cases h8:i=8
 ·subst h8
  have d1:=EF (i:=v) (j:=3) (by decide)
  have d2:=Fu (i:=v) (j:=3) (by decide) (by decide)
  have d3:=EF (i:=v / 3) (j:=3) (by decide)
  have d4:=Fu (i:=v) (j:=9) (by decide) (by decide)
  have d5:=EF (i:=v / 9) (j:=41) (by decide)
  have d6:=Fu (i:=v) (j:=369) (by decide) (by decide)
  have d7:=EF (i:=v / 369) (j:=41) (by decide)
  have d8:=Fu (i:=v) (j:=15129) (by decide) (by decide)
  have d9:=EF (i:=v / 15129) (j:=4) (by decide)
  have da:=Fu (i:=v) (j:=60516) (by decide) (by decide)
  generalize ha:1+v % 3=a
  generalize hb:1+v / 3 % 3=b
  generalize hx:v / 9 % 41-20=x
  generalize hy:v / 369 % 41-20=y
  have db:=EF (i:=x) (j:=7) (by decide)
  have dc:=EF (i:=y) (j:=7) (by decide)
  let T:Int->Int->Option L:=fun x y=>some (.d (.tuple [.int a,.int b,.int x,.int y]))
  let τ1:Int->Int->DS:=fun x y=>[K,I v,T x y,N,N,N,N,N,N,N,N]
  have s1:Ak (BI (AB (dOp CM (dC (.int 1)) (dOp Bn (AE 1) (dC (.int 3)))) (AB (dOp CM (dC (.int 1)) (dOp Bn (dOp CT (AE 1) (dC (.int 3))) (dC (.int 3)))) (AB (dOp EI (dOp Bn (dOp CT (AE 1) (dC (.int 9))) (dC (.int 41))) (dC (.int 20))) (AB (dOp EI (dOp Bn (dOp CT (AE 1) (dC (.int 369))) (dC (.int 41))) (dC (.int 20))) AI))))) (dN 2) τ0=some (.nx (τ1 x y)):=by
   simp only[τ0,τ1,T,K,I,N,d1,d2,d3,d4,d5,d6,d7,ha,hb,hx,hy,Bc,Af,Ak,dN,Ax,BQ,BK,E1,AE,dC,dOp,fI,CM,EI,fLt,fLe,fGt,fGe,Ag,AW,AI,AB,Dl,BI,Bh,AU,Bf,B6,EA,EB,D1,Fw,DU,atI,ixN,sz',Option.bind_some,Option.map_some,List.map_cons,List.map_nil,List.cons_append,List.nil_append,List.length_cons,List.length_nil,List.getElem?_cons_zero,List.getElem?_cons_succ,List.set_cons_zero,List.set_cons_succ,List.replicate_succ,List.replicate_zero,if_true,if_false,reduceIte,Bool.false_eq_true,Nat.reduceAdd,Nat.reduceLT,Int.reduceAdd,Int.reduceLT,Int.reduceLE,Int.reduceToNat,Nat.reduceLeDiff,and_self,Int.toNat_zero,Int.le_refl,Int.natCast_add,Int.cast_ofNat_Int,Nat.zero_add]
  have fin:∀x y:Int,Ax (BI (AB (AE 2) (AB (dOp CT (AE 1) (dC (.int 60516))) AI))) (τ1 x y)=some (.rt (.tuple [.tuple [.int a,.int b,.int x,.int y],.int (v / 60516)]) (τ1 x y)):=fun x y=>by
   simp only[τ0,τ1,T,K,I,N,da,Bc,Af,Ak,dN,Ax,BQ,BK,E1,AE,dC,dOp,fI,CM,EI,fLt,fLe,fGt,fGe,Ag,AW,AI,AB,Dl,BI,Bh,AU,Bf,B6,EA,EB,D1,Fw,DU,atI,ixN,sz',Option.bind_some,Option.map_some,List.map_cons,List.map_nil,List.cons_append,List.nil_append,List.length_cons,List.length_nil,List.getElem?_cons_zero,List.getElem?_cons_succ,List.set_cons_zero,List.set_cons_succ,List.replicate_succ,List.replicate_zero,if_true,if_false,reduceIte,Bool.false_eq_true,Nat.reduceAdd,Nat.reduceLT,Int.reduceAdd,Int.reduceLT,Int.reduceLE,Int.reduceToNat,Nat.reduceLeDiff,and_self,Int.toNat_zero,Int.le_refl,Int.natCast_add,Int.cast_ofNat_Int,Nat.zero_add]
  by_cases hp:v / 15129 % 4>0
  ·refine⟨.tiles a b (x % 7) (y % 7),v / 60516,LS,?_,rfl,?_⟩
   ·unfold Bm
    refine A5 (τ:=τ1 (x % 7) (y % 7)) ((AR (G0 _)).trans ((AR (G1 _)).trans (Fh ((tk (i:=8) (τ:=τ0) rfl).trans ((AR s1).trans ((AR (τ1:=τ1 (x % 7) (y % 7)) ?_).trans (fin _ _))))))) rfl rfl
    refine(M8 (τ1:=τ1 x y) ?_).trans ?_
    ·simp only[τ1,T,K,I,N,d8,d9,hp,decide_true,Bc,Af,Ak,dN,Ax,BQ,BK,E1,AE,dC,dOp,fI,CM,EI,fLt,fLe,fGt,fGe,Ag,AW,AI,AB,Dl,BI,Bh,AU,Bf,B6,EA,EB,D1,Fw,DU,atI,ixN,sz',Option.bind_some,Option.map_some,List.map_cons,List.map_nil,List.cons_append,List.nil_append,List.length_cons,List.length_nil,List.getElem?_cons_zero,List.getElem?_cons_succ,List.set_cons_zero,List.set_cons_succ,List.replicate_succ,List.replicate_zero,if_true,if_false,reduceIte,Bool.false_eq_true,Nat.reduceAdd,Nat.reduceLT,Int.reduceAdd,Int.reduceLT,Int.reduceLE,Int.reduceToNat,Nat.reduceLeDiff,and_self,Int.toNat_zero,Int.le_refl,Int.natCast_add,Int.cast_ofNat_Int,Nat.zero_add]
    ·have e1:NV (AE 2) J6 (dPt (dC (.int 2))) (τ1 x y)=some (.tuple [.int a,.int b],τ1 x y):=rfl
     refine BX (d:=.tuple [.int a,.int b,.int (x % 7),.int (y % 7)]) (τ1:=τ1 x y) (op2 e1 (y:=.tuple [.int (x % 7),.int (y % 7)]) (τ2:=τ1 x y) ?_ rfl) rfl
     simp only[τ1,T,K,I,N,db,dc,Bc,Af,Ak,dN,Ax,BQ,BK,E1,AE,dC,dOp,fI,CM,EI,fLt,fLe,fGt,fGe,Ag,AW,AI,AB,Dl,BI,Bh,AU,Bf,B6,EA,EB,D1,Fw,DU,atI,ixN,sz',Option.bind_some,Option.map_some,List.map_cons,List.map_nil,List.cons_append,List.nil_append,List.length_cons,List.length_nil,List.getElem?_cons_zero,List.getElem?_cons_succ,List.set_cons_zero,List.set_cons_succ,List.replicate_succ,List.replicate_zero,if_true,if_false,reduceIte,Bool.false_eq_true,Nat.reduceAdd,Nat.reduceLT,Int.reduceAdd,Int.reduceLT,Int.reduceLE,Int.reduceToNat,Nat.reduceLeDiff,and_self,Int.toNat_zero,Int.le_refl,Int.natCast_add,Int.cast_ofNat_Int,Nat.zero_add]
   ·exact⟨by omega,by omega,by omega,by omega,by omega,by omega,by omega,by omega⟩
  ·refine⟨.tiles a b x y,v / 60516,LS,?_,rfl,?_⟩
   ·unfold Bm
    refine A5 (τ:=τ1 x y) ((AR (G0 _)).trans ((AR (G1 _)).trans (Fh ((tk (i:=8) (τ:=τ0) rfl).trans ((AR s1).trans ((AR (τ1:=τ1 x y) ?_).trans (fin _ _))))))) rfl rfl
    refine(Cp (τ1:=τ1 x y) ?_).trans rfl
    simp only[τ1,T,K,I,N,d8,d9,hp,decide_false,Bc,Af,Ak,dN,Ax,BQ,BK,E1,AE,dC,dOp,fI,CM,EI,fLt,fLe,fGt,fGe,Ag,AW,AI,AB,Dl,BI,Bh,AU,Bf,B6,EA,EB,D1,Fw,DU,atI,ixN,sz',Option.bind_some,Option.map_some,List.map_cons,List.map_nil,List.cons_append,List.nil_append,List.length_cons,List.length_nil,List.getElem?_cons_zero,List.getElem?_cons_succ,List.set_cons_zero,List.set_cons_succ,List.replicate_succ,List.replicate_zero,if_true,if_false,reduceIte,Bool.false_eq_true,Nat.reduceAdd,Nat.reduceLT,Int.reduceAdd,Int.reduceLT,Int.reduceLE,Int.reduceToNat,Nat.reduceLeDiff,and_self,Int.toNat_zero,Int.le_refl,Int.natCast_add,Int.cast_ofNat_Int,Nat.zero_add]
   ·exact⟨by omega,by omega,by omega,by omega,by omega,by omega,by omega,by omega⟩
 have G2:∀a:DB,BK (AW (dOp fEq (AE 0) (dC (.str "tiles")))) a BQ τ0=some (.nx τ0):=fun a=>sk hi (j:=8) (by decide) h8 rfl
 by_cases h6:i=6
 ·subst h6
  obtain⟨w,v1,l1,e1,w0,w1⟩:=MP v 16 (by decide) (by decide)
  obtain⟨h,v2,l2,e2,h0,h1⟩:=MP v1 16 (by decide) (by decide)
  obtain⟨x,v3,l3,e3,x0,x1⟩:=Ik v2
  obtain⟨y,v4,l4,e4,y0,y1⟩:=Ik v3
  refine⟨.window w h x y,v4,LS,?_,rfl,w0,w1,h0,h1,x0,x1,y0,y1⟩
  unfold Bm
  let st:Int->Option L->Option L->Option L->Option L->DS:=fun v a b c d=>[K,I v,N,a,b,c,d,N,N,N,N]
  refine A5 (τ:=st v4 (I w) (I h) (I x) (I y)) ((AR (G0 _)).trans ((AR (G1 _)).trans ((AR (G2 _)).trans (Fh ((tk (i:=6) (τ:=τ0) rfl).trans ?_))))) rfl rfl
  refine(AR (τ1:=st v1 (I w) N N N) (BX (AZ (τ1:=τ0) (rs:=[.d (.int v),.d (.int 16)]) (ds:=[.int v,.int 16]) rfl rfl e1) rfl)).trans ?_
  refine(AR (τ1:=st v2 (I w) (I h) N N) (BX (AZ (τ1:=st v1 (I w) N N N) (rs:=[.d (.int v1),.d (.int 16)]) (ds:=[.int v1,.int 16]) rfl rfl e2) rfl)).trans ?_
  refine(AR (τ1:=st v3 (I w) (I h) (I x) N) (BX (AZ (τ1:=st v2 (I w) (I h) N N) (rs:=[.d (.int v2)]) (ds:=[.int v2]) rfl rfl e3) rfl)).trans ?_
  exact(AR (τ1:=st v4 (I w) (I h) (I x) (I y)) (BX (AZ (τ1:=st v3 (I w) (I h) (I x) N) (rs:=[.d (.int v3)]) (ds:=[.int v3]) rfl rfl e4) rfl)).trans rfl
 have G3:∀a:DB,BK (AW (dOp fEq (AE 0) (dC (.str "window")))) a BQ τ0=some (.nx τ0):=fun a=>sk hi (j:=6) (by decide) h6 rfl
 obtain⟨p,q,v',lp,ep,op,oq⟩:=aS v
 let A:Option L:=some (.d (ec p))
 let B:Option L:=some (.d (ec q))
 let st:Int->Option L->Option L->Option L->Option L->DS:=fun v a b c d=>[K,I v,N,a,b,N,N,A,B,c,d]
 let τ1:=st v' N N N N
 have P:Ak (AU Ew (AB (AE 1) AI)) (dGT (A6 (dN 7) (A6 (dN 8) (A6 (dN 1) C5)))) τ0=some (.nx τ1):=BX (AZ (τ1:=τ0) (rs:=[.d (.int v)]) (ds:=[.int v]) rfl rfl ep) rfl
 by_cases h5:i=5
 ·subst h5
  refine⟨.glass q,v',LS,?_,rfl,oq⟩
  unfold Bm
  exact A5 (τ:=τ1) ((AR (G0 _)).trans ((AR (G1 _)).trans ((AR (G2 _)).trans ((AR (G3 _)).trans ((AR P).trans (Fh ((tk (i:=5) (τ:=τ1) rfl).trans rfl))))))) rfl rfl
 have G5:∀a:DB,BK (AW (dOp fEq (AE 0) (dC (.str "glass")))) a BQ τ1=some (.nx τ1):=fun a=>sk hi (j:=5) (by decide) h5 rfl
 by_cases hh:i=0
 ·subst hh
  obtain⟨w,v1,l1,e1,w0,w1⟩:=MP v' 12 (by decide) (by decide)
  obtain⟨h,v2,l2,e2,h0,h1⟩:=MP v1 12 (by decide) (by decide)
  refine⟨.plate w h p q,v2,LS,?_,rfl,w0,w1,h0,h1,op,oq⟩
  unfold Bm
  refine A5 (τ:=st v2 (I w) (I h) N N) ((AR (G0 _)).trans ((AR (G1 _)).trans ((AR (G2 _)).trans ((AR (G3 _)).trans ((AR P).trans ((AR (G5 _)).trans (Fh ((tk (i:=0) (τ:=τ1) rfl).trans ?_)))))))) rfl rfl
  refine(AR (τ1:=st v1 (I w) N N N) (BX (AZ (τ1:=τ1) (rs:=[.d (.int v'),.d (.int 12)]) (ds:=[.int v',.int 12]) rfl rfl e1) rfl)).trans ?_
  exact(AR (τ1:=st v2 (I w) (I h) N N) (BX (AZ (τ1:=st v1 (I w) N N N) (rs:=[.d (.int v1),.d (.int 12)]) (ds:=[.int v1,.int 12]) rfl rfl e2) rfl)).trans rfl
 have G6:∀a:DB,BK (AW (dOp fEq (AE 0) (dC (.str "plate")))) a BQ τ1=some (.nx τ1):=fun a=>sk hi (j:=0) (by decide) hh rfl
 by_cases h1:i=1
 ·subst h1
  have d1:=EF (i:=v') (j:=25) (by decide)
  have d2:=Fu (i:=v') (j:=25) (by decide) (by decide)
  have d3:=EF (i:=v' / 25) (j:=25) (by decide)
  have d4:=Fu (i:=v') (j:=625) (by decide) (by decide)
  refine⟨.band (v' % 25-12) (v' / 25 % 25-12) p q,v' / 625,LS,?_,rfl,by omega,by omega,by omega,by omega,op,oq⟩
  unfold Bm
  refine A5 (τ:=τ1) ((AR (G0 _)).trans ((AR (G1 _)).trans ((AR (G2 _)).trans ((AR (G3 _)).trans ((AR P).trans ((AR (G5 _)).trans ((AR (G6 _)).trans (Fh ((tk (i:=1) (τ:=τ1) rfl).trans (Bs (τ1:=τ1) ?_)))))))))) rfl rfl
  simp only[τ1,st,K,I,N,A,B,d1,d2,d3,d4,eD,Bc,Af,Ak,dN,Ax,BQ,BK,E1,AE,dC,dOp,fI,CM,EI,fLt,fLe,fGt,fGe,Ag,AW,AI,AB,Dl,BI,Bh,AU,Bf,B6,EA,EB,D1,Fw,DU,atI,ixN,sz',Option.bind_some,Option.map_some,List.map_cons,List.map_nil,List.cons_append,List.nil_append,List.length_cons,List.length_nil,List.getElem?_cons_zero,List.getElem?_cons_succ,List.set_cons_zero,List.set_cons_succ,List.replicate_succ,List.replicate_zero,if_true,if_false,reduceIte,Bool.false_eq_true,Nat.reduceAdd,Nat.reduceLT,Int.reduceAdd,Int.reduceLT,Int.reduceLE,Int.reduceToNat,Nat.reduceLeDiff,and_self,Int.toNat_zero,Int.le_refl,Int.natCast_add,Int.cast_ofNat_Int,Nat.zero_add]
 have G7:∀a:DB,BK (AW (dOp fEq (AE 0) (dC (.str "band")))) a BQ τ1=some (.nx τ1):=fun a=>sk hi (j:=1) (by decide) h1 rfl
 by_cases h2:i=2
 ·subst h2
  obtain⟨t,v1,l1,e1,t6,ta⟩:=cO v'
  refine⟨.word t p q,v1,LS,?_,rfl,t6,ta,op,oq⟩
  unfold Bm
  refine A5 (τ:=st v1 N N (some (.d (eT t))) N) ((AR (G0 _)).trans ((AR (G1 _)).trans ((AR (G2 _)).trans ((AR (G3 _)).trans ((AR P).trans ((AR (G5 _)).trans ((AR (G6 _)).trans ((AR (G7 _)).trans (Fh ((tk (i:=2) (τ:=τ1) rfl).trans ?_)))))))))) rfl rfl
  exact(AR (τ1:=st v1 N N (some (.d (eT t))) N) (BX (AZ (τ1:=τ1) (rs:=[.d (.int v')]) (ds:=[.int v']) rfl rfl e1) rfl)).trans rfl
 have G8:∀a:DB,BK (AW (dOp fEq (AE 0) (dC (.str "word")))) a BQ τ1=some (.nx τ1):=fun a=>sk hi (j:=2) (by decide) h2 rfl
 have h3:i=3:=by omega
 subst h3
 obtain⟨R,w,v1,l1,e1,r1,r2,w1,w2,hr⟩:=WX v'
 refine⟨.stencil R p q,v1,LS,?_,rfl,r1,r2,⟨w,w1,w2,hr⟩,op,oq⟩
 unfold Bm
 refine A5 (τ:=st v1 N N N (some (.d (.tuple (R.map eT))))) ((AR (G0 _)).trans ((AR (G1 _)).trans ((AR (G2 _)).trans ((AR (G3 _)).trans ((AR P).trans ((AR (G5 _)).trans ((AR (G6 _)).trans ((AR (G7 _)).trans ((AR (G8 _)).trans ?_))))))))) rfl rfl
 exact(AR (τ1:=st v1 N N N (some (.d (.tuple (R.map eT))))) (BX (AZ (τ1:=τ1) (rs:=[.d (.int v')]) (ds:=[.int v']) rfl rfl e1) rfl)).trans rfl
theorem lcg{α:Type}{enc:α->PyData}{rs:List α}{τ:DS}{fr:List Nat}{it:DI}{ex:DS}{c:DT}{e:DX}(p:α->Bool)(f:α->PyData)(h:it τ=some (rs.map enc,τ))(hz:rs.length<=1000)(hm:(fr.all fun j=>!isM τ j)=true)(hb:Z7 1 fr τ=none::ex)
  (hc:∀r∈rs,c (some (.d (enc r))::ex)=some (p r,some (.d (enc r))::ex)) (he:∀r∈rs,p r=true->e (some (.d (enc r))::ex)=some (f r,some (.d (enc r))::ex)):dLC 1 fr it (dN 0) c e τ=some (.list ((rs.filter p).map f),τ):=by
 obtain ⟨τb, el⟩ := Zb (enc := enc) (g := dN 0) (c := c) (e := e) (fun τ => ∃ o1, nM o1 /\ τ = o1 :: ex) p f (xs := rs) (acc := []) (τ := none :: ex) ⟨none, De, rfl⟩ (by
  rintro x τ hx ⟨o1,n1,rfl⟩
  exact⟨some (.d (enc x))::ex,some (.d (enc x))::ex,HJ (o:=o1) rfl n1,hc x hx,fun _=>⟨_,IP,rfl⟩,fun hp=>⟨some (.d (enc x))::ex,he x hx hp,_,IP,rfl⟩⟩)
 rw[List.nil_append]at el
 exact nO (ds:=rs.map enc) (τ1:=τ) (τb:=τb) h (by rw[List.length_map];exact sz hz) hm (by rw[hb];exact el)
theorem HF{α:Type}(l:List α):l.filter (fun _=>true)=l:=List.filter_eq_self.mpr fun _ _=>rfl
structure OkRow(r:Rz):Prop where
 n1:1<=r.n.1.length
 n8:r.n.1.length<=8
 na:KZ alN r.n.1
 x0:-60<=r.x
 x1:r.x<=60
 y0:-60<=r.y
 y1:r.y<=60
 d:WE r.d
def OkR:List Rz->Prop
 |[]=>True
 |r::a=>OkR a/\OkRow r/\(∀q∈a,q.n≠r.n)/\(r.h=t0\/∃q∈a,q.n=r.h)
def hsR:List Rz->Tx->List Tx
 |[],_=>[]
 |r::a,n=>if r.n=n then n::hsR a r.h else hsR a n
def IW(rs:List Rz)(t:Tx):Option Rz:=rs.find? fun r=>decide (r.n=t)
theorem OkRow.ne{r:Rz}(h:OkRow r):r.n≠t0:=fun z=>by
 have:=h.n1
 rw[z]at this
 exact absurd this ∅
theorem OkR.all{a:List Rz}(ok:OkR a):∀r∈a,OkRow r:=by
 induction a with
 |nil=>intro r hr;cases hr
 |cons q a ih =>
  intro r hr
  rcases List.mem_cons.mp hr with h|h
  ·rw[h];exact ok.2.1
  ·exact ih ok.1 r h
theorem OkR.suf{p q:List Rz}(ok:OkR (p++q)):OkR q:=by
 induction p with
 |nil=>exact ok
 |cons x p ih=>exact ih ok.1
theorem OkR.inj{a:List Rz}(ok:OkR a):∀r∈a,∀q∈a,r.n=q.n->r=q:=by
 induction a with
 |nil=>intro r hr;cases hr
 |cons x a ih =>
  intro r hr q hq e
  rcases List.mem_cons.mp hr with h1|h1<;>rcases List.mem_cons.mp hq with h2|h2
  ·rw[h1,h2]
  ·rw[h1]at e;exact absurd e.symm (ok.2.2.1 q h2)
  ·rw[h2]at e;exact absurd e (ok.2.2.1 r h1)
  ·exact ih ok.1 r h1 q h2 e
theorem Ka:∀{a:List Rz},OkR a->hsR a t0=[]
 |[],_=>rfl
 |r::a,⟨h,o,_⟩=>by
  unfold hsR
  rw[if_neg o.ne];exact Ka h
theorem Zh:∀{a:List Rz} {n:Tx},(∃q∈a,q.n=n)->∃l,hsR a n=n::l
 |[],_,⟨_,h,_⟩=>by cases h
 |r::a,n,⟨q,hq,e⟩=>by
  unfold hsR
  by_cases h:r.n=n
  ·rw[if_pos h];exact⟨_,rfl⟩
  ·rw[if_neg h]
   rcases List.mem_cons.mp hq with rfl|hq
   ·exact absurd e h
   ·exact Zh ⟨q,hq,e⟩
theorem UD:∀(a:List Rz) (n:Tx),(hsR a n).length<=a.length
 |[],_=>Nat.le_refl _
 |r::a,n=>by
  unfold hsR
  split
  ·have:=UD a r.h
   simp only[List.length_cons];omega
  ·have:=UD a n
   simp only[List.length_cons];omega
abbrev OkZ(rs:List Rz):Prop:=OkR rs.reverse
theorem ON{rs:List Rz}(ok:OkZ rs){r:Rz}(hr:r∈rs):IW rs r.n=some r:=by
 unfold IW
 cases e:rs.find? fun q=>decide (q.n=r.n) with
 |none=>exact absurd (List.find?_eq_none.mp e r hr) (by simp)
 |some q =>
  have h1:=List.find?_some e
  have h2:=List.mem_of_find?_eq_some e
  rw[OkR.inj ok q (List.mem_reverse.mpr h2) r (List.mem_reverse.mpr hr) (of_decide_eq_true h1)]
theorem VT{rs:List Rz}{n:Tx}(h:∀q∈rs,q.n≠n):IW rs n=none:=List.find?_eq_none.mpr fun q hq=>by simpa using h q hq
theorem di{rs:List Rz}(ok:OkZ rs):IW rs t0=none:=VT fun q hq=>(OkR.all ok q (List.mem_reverse.mpr hq)).ne
def kvZ(rs:List Rz):List (PyData×PyData):=rs.map fun r=>(eT r.n,eZ r)
theorem R7(t:Tx):∀rs:List Rz,QC (kvZ rs) t.1=(IW rs t).map eZ
 |[]=>rfl
 |r::rs=>by
  show(if r.n.1=t.1 then some (eZ r) else QC (kvZ rs) t.1)=_
  unfold IW
  rw[List.find?_cons]
  by_cases h:r.n=t
  ·rw[if_pos (by rw[h]),decide_eq_true h];rfl
  ·rw[if_neg (fun z=>h (Subtype.ext z)),decide_eq_false h];exact R7 t rs
theorem iV{rs:List Rz}{r:Rz}(h:∀q∈rs,q.n≠r.n):cw (kvZ rs) r.n.1 (eZ r)=kvZ (rs++[r]):=by
 unfold cw
 rw[R7,VT h]
 show(if (none:Option PyData).isSome=true then _ else _)=_
 rw[if_neg (by decide)]
 unfold kvZ
 rw[List.map_append];rfl
theorem aN{rs pre post:List Rz}{r:Rz}(ok:OkZ rs)(e:rs=pre++r::post):∀q∈pre,q.n≠r.n:=by
 have:OkR (post.reverse++(r::pre.reverse)):=by
  have:=ok
  unfold OkZ at this
  rw[e]at this
  simpa using this
 exact fun q hq=>this.suf.2.2.1 q (List.mem_reverse.mpr hq)
theorem kr(a b:Tx):fNe (eT a) (eT b)=some (.bool (!decide (a=b))):=encT.fNe a b
theorem XR(a b:Tx):fEq (eT a) (eT b)=some (.bool (decide (a=b))):=encT.fEq a b
theorem eU{i:Nat}{e k:DX}{τ τ1 τ2:DS}{d:PyData}{x:Str}{kv0 kvs:List (PyData×PyData)}(he:e τ=some (d,τ1))(h1:τ1[i]?=some (some (.g (.dict kv0))))(hk:k τ1=some (.str x,τ2))(h2:τ2[i]?=some (some (.g (.dict kvs))))(hf:Ib d=true)(hz:kvs.length<=1000) :
  TR i e k τ=some (.nx (τ2.set i (some (.g (.dict (cw kvs x d)))))):=by
 unfold TR
 rw[he]
 dsimp only[Option.bind]
 rw[h1]
 dsimp only
 rw[hk]
 dsimp only
 rw[h2]
 dsimp only
 rw[if_pos ⟨hf,Nat.lt_of_le_of_lt hz (by decide)⟩]
theorem jW{i:Nat}{f:DX}{τ τ1:DS}{x:Str}{kvs:List (PyData×PyData)}(hf:f τ=some (.str x,τ1))(h:τ1[i]?=some (some (.g (.dict kvs)))):Z0 false f i τ=some (.bool (QC kvs x).isSome,τ1):=by
 unfold Z0
 rw[hf]
 dsimp only[Option.bind]
 rw[h]
 dsimp only
 rw[Bool.false_bne]
theorem jQ{i:Nat}{f:DX}{τ τ1:DS}{x:Str}{kv0 kvs:List (PyData×PyData)}{d:PyData}(h0:τ[i]?=some (some (.g (.dict kv0))))(hf:f τ=some (.str x,τ1))(h:τ1[i]?=some (some (.g (.dict kvs))))(hd:QC kvs x=some d):Zz i f τ=some (d,τ1):=by
 unfold Zz
 rw[h0]
 dsimp only
 rw[hf]
 dsimp only[Option.bind]
 rw[h]
 dsimp only
 rw[hd];rfl
theorem iD{c:DT}{b:DB}{n:Nat}{τ:DS}{o:Option Out}(h:dWh c b n τ=o):OZ (fun _=>n) c b τ=o:=h
theorem lR{rs:List Rz}(ok:OkZ rs)(hl:rs.length<=30){a:Tx}(ha:a=t0\/∃q∈rs,q.n=a):∃ls,LU [.d (.list (rs.map eZ)),.d (eT a)]=some (.list ((hsR rs.reverse a).map eT),ls):=by
 let R:Option L:=some (.d (.list (rs.map eZ)))
 let T:Tx->Option L:=fun a=>some (.d (eT a))
 let M:List Tx->Option L:=fun l=>some (.m (l.map eT))
 let G:List Rz->Option L:=fun l=>some (.g (.dict (kvZ l)))
 let st:List Rz->Option L->DS:=fun l o=>[R,T a,M [],G l,o]
 have lp:∃τ',ER (dN 4) (TR 3 (AE 4) (dOp Ag (AE 4) (dC (.int 0)))) (rs.map eZ) (st [] none)=some (.nx τ')/\∃o,nM o/\τ'=st rs o:=by
  refine Ge (fun pre τ=>∃o,nM o/\τ=st pre o) ⟨none,De,rfl⟩ ?_
  rintro pre r post τ e ⟨o,ho,rfl⟩
  have hz:=Il e
  refine⟨st pre (some (.d (eZ r))),st (pre++[r]) (some (.d (eZ r))),HJ (o:=o) rfl ho,?_,_,IP,rfl⟩
  refine(eU (d:=eZ r) (x:=r.n.1) (kv0:=kvZ pre) (kvs:=kvZ pre) (τ1:=st pre (some (.d (eZ r)))) (τ2:=st pre (some (.d (eZ r)))) rfl rfl (op2 (x:=eZ r) (y:=.int 0) (τ1:=st pre (some (.d (eZ r)))) rfl rfl rfl) rfl (encZ.fix r) ?_).trans ?_
  ·rw[show(kvZ pre).length=pre.length from List.length_map ..];omega
  ·rw[iV (aN ok e)];rfl
 obtain⟨τ',e1,o,ho,rfl⟩:=lp
 let C:DT:=El (AW (dOp fNe (AE 1) (dC (.str "")))) (AW (Z0 false (AE 1) 3))
 let B:DB:=Af (CU (dMt 2 By (AB (AE 1) AI))) (Ak (dOp Ag (Zz 3 (AE 1)) (dC (.int 1))) (dN 1))
 let sw:Tx->List Tx->DS:=fun a l=>[R,T a,M l,G rs,o]
 have cT:∀b l,C (sw b l)=some (!decide (b=t0)&&(IW rs b).isSome,sw b l):=fun b l=>by
  refine ck (tst (op2 (x:=eT b) (y:=eT t0) (τ1:=sw b l) rfl rfl (kr b t0))) (tst ?_)
  rw[jW (x:=b.1) (kvs:=kvZ rs) (τ1:=sw b l) rfl rfl,R7,Option.isSome_map]
 have wl:∀(ah post:List Rz) (b:Tx) (l:List Tx) (n:Nat),rs.reverse=post++ah->(b=t0\/∃q∈ah,q.n=b)->ah.length<n->l.length+ah.length<=60->∃b',dWh C B n (sw b l)=some (.nx (sw b' (l++hsR ah b))):=by
  have stop:∀(ah:List Rz) (l:List Tx) (n:Nat),OkR ah->0<n->∃b',dWh C B n (sw t0 l)=some (.nx (sw b' (l++hsR ah t0))):=fun ah l n oa hn=>by
   obtain⟨n,rfl⟩:∃m,n=m+1:=⟨n-1,by omega⟩
   refine⟨t0,?_⟩
   rw[Ka oa,List.append_nil]
   refine mX (τ1:=sw t0 l) ?_
   rw[cT,decide_eq_true rfl];rfl
  intro ah
  induction ah with
  |nil =>
   intro post b l n e hb hn _
   rcases hb with rfl|⟨q,hq,_⟩
   ·exact stop [] l n trivial (by omega)
   ·cases hq
  |cons r ah ih =>
   intro post b l n e hb hn hz
   have okr:OkR (r::ah):=(show OkR (post++r::ah) from e▸ok).suf
   rcases hb with rfl|⟨q,hq,hqb⟩
   ·exact stop (r::ah) l n okr (by omega)
   simp only[List.length_cons]at hn hz
   by_cases h:r.n=b
   ·obtain⟨n,rfl⟩:∃m,n=m+1:=⟨n-1,by omega⟩
    have hr:r∈rs:=List.mem_reverse.mp (e▸List.mem_append_right _ List.mem_cons_self)
    have hf:IW rs b=some r:=h▸ON ok hr
    obtain⟨b',e2⟩:=ih (post++[r]) r.h (l++[b]) n (by rw[e];simp) okr.2.2.2 (by omega) (by rw[List.length_append];simp only[List.length_cons,List.length_nil];omega)
    refine⟨b',(mW (τ1:=sw b l) (τ2:=sw r.h (l++[b])) ?_ ?_).trans (e2.trans ?_)⟩
    ·rw[cT,hf,decide_eq_false (h▸okr.2.1.ne)];rfl
    ·have s1:CU (dMt 2 By (AB (AE 1) AI)) (sw b l)=some (.nx (sw b (l++[b]))):=by
      refine(eB (i:=2) (d:=eT b) (xs:=l.map eT) (τ1:=sw b l) rfl rfl (by rw[List.length_map];omega)).trans ?_
      show some (Out.nx [R,T b,some (.m (l.map eT++[eT b])),G rs,o])=_
      rw[show l.map eT++[eT b]=(l++[b]).map eT by rw[List.map_append];rfl]
     refine(AR s1).trans (BX (d:=eT r.h) (τ1:=sw b (l++[b])) (op2 (x:=eZ r) (y:=.int 1) (τ1:=sw b (l++[b])) (jQ (x:=b.1) (kv0:=kvZ rs) (kvs:=kvZ rs) (τ1:=sw b (l++[b])) rfl rfl rfl (by rw[R7,hf];rfl)) rfl rfl) rfl)
    ·rw[show hsR (r::ah) b=b::hsR ah r.h from by rw[hsR,if_pos h],List.append_assoc]
     rfl
   ·have:∃q∈ah,q.n=b:=by
     rcases List.mem_cons.mp hq with rfl|hq
     ·exact absurd hqb h
     ·exact⟨q,hq,hqb⟩
    obtain⟨b',e2⟩:=ih (post++[r]) b l n (by rw[e];simp) (.inr this) (by omega) (by omega)
    refine⟨b',e2.trans ?_⟩
    rw[show hsR (r::ah) b=hsR ah b from by rw[hsR,if_neg h]]
 obtain⟨b',e2⟩:=wl rs.reverse [] a [] 100 rfl (ha.imp id fun⟨q,hq,e⟩=>⟨q,List.mem_reverse.mpr hq,e⟩) (by rw[List.length_reverse];omega) (by rw[List.length_reverse,List.length_nil];omega)
 rw[List.nil_append]at e2
 refine⟨[.d (.list (rs.map eZ)),.d (eT a)],?_⟩
 unfold LU
 refine A5 (τ:=sw b' (hsR rs.reverse a)) ?_ rfl rfl
 exact(AR (τ1:=[R,T a,M [],none,none]) rfl).trans ((AR (τ1:=st [] none) rfl).trans ((AR ((Ht (ds:=rs.map eZ) (τ1:=st [] none) rfl).trans e1)).trans ((AR (τ1:=sw b' (hsR rs.reverse a)) (iD e2)).trans rfl)))
theorem pK(xs:List PyData):SX xs (some 1) none=xs.tail:=by
 unfold SX
 have e:HT.sIx xs.length 0 (some 1)=min 1 xs.length:=by
  show(if (1:Int)<0 then (1+(xs.length:Int)).toNat else min (1:Int).toNat xs.length)=_
  rw[if_neg (by decide)];rfl
 rw[e]
 show(xs.drop (min 1 xs.length)).take (xs.length-min 1 xs.length)=_
 cases xs with
 |nil=>rfl
 |cons x xs =>
  rw[show min 1 (x::xs).length=1 by simp only[List.length_cons];omega]
  show xs.take (xs.length+1-1)=xs
  rw[Nat.add_sub_cancel,List.take_length]
theorem jk{rs:List Rz}(ok:OkZ rs)(hl:rs.length<=30){a:Tx}(ha:∃q∈rs,q.n=a):∃ls,JA [.d (.list (rs.map eZ)),.d (eT a)]=some (.list ((hsR rs.reverse a).tail.map eT),ls):=by
 let R:Option L:=some (.d (.list (rs.map eZ)))
 let T:Tx->Option L:=fun a=>some (.d (eT a))
 let M:List Tx->Option L:=fun l=>some (.m (l.map eT))
 let G:List Rz->Option L:=fun l=>some (.g (.dict (kvZ l)))
 let st:List Rz->Option L->DS:=fun l o=>[R,T a,G l,o,none]
 have lp:∃τ',ER (dN 3) (TR 2 (AE 3) (dOp Ag (AE 3) (dC (.int 0)))) (rs.map eZ) (st [] none)=some (.nx τ')/\∃o,nM o/\τ'=st rs o:=by
  refine Ge (fun pre τ=>∃o,nM o/\τ=st pre o) ⟨none,De,rfl⟩ ?_
  rintro pre r post τ e ⟨o,ho,rfl⟩
  have hz:=Il e
  refine⟨st pre (some (.d (eZ r))),st (pre++[r]) (some (.d (eZ r))),HJ (o:=o) rfl ho,?_,_,IP,rfl⟩
  refine(eU (d:=eZ r) (x:=r.n.1) (kv0:=kvZ pre) (kvs:=kvZ pre) (τ1:=st pre (some (.d (eZ r)))) (τ2:=st pre (some (.d (eZ r)))) rfl rfl (op2 (x:=eZ r) (y:=.int 0) (τ1:=st pre (some (.d (eZ r)))) rfl rfl rfl) rfl (encZ.fix r) ?_).trans ?_
  ·rw[show(kvZ pre).length=pre.length from List.length_map ..];omega
  ·rw[iV (aN ok e)];rfl
 obtain⟨τ',e1,o,ho,rfl⟩:=lp
 let C:DT:=AW (Z0 false (AE 1) 2)
 let B:DB:=Af (CU (dMt 4 By (AB (AE 1) AI))) (Ak (dOp Ag (Zz 2 (AE 1)) (dC (.int 1))) (dN 1))
 let sw:Tx->List Tx->DS:=fun a l=>[R,T a,G rs,o,M l]
 have cT:∀b l,C (sw b l)=some ((IW rs b).isSome,sw b l):=fun b l=>by
  refine tst ?_
  rw[jW (x:=b.1) (kvs:=kvZ rs) (τ1:=sw b l) rfl rfl,R7,Option.isSome_map]
 have wl:∀(ah post:List Rz) (b:Tx) (l:List Tx) (n:Nat),rs.reverse=post++ah->(b=t0\/∃q∈ah,q.n=b)->ah.length<n->l.length+ah.length<=60->∃b',dWh C B n (sw b l)=some (.nx (sw b' (l++hsR ah b))):=by
  have stop:∀(ah:List Rz) (l:List Tx) (n:Nat),OkR ah->0<n->∃b',dWh C B n (sw t0 l)=some (.nx (sw b' (l++hsR ah t0))):=fun ah l n oa hn=>by
   obtain⟨n,rfl⟩:∃m,n=m+1:=⟨n-1,by omega⟩
   refine⟨t0,?_⟩
   rw[Ka oa,List.append_nil]
   refine mX (τ1:=sw t0 l) ?_
   rw[cT,di ok];rfl
  intro ah
  induction ah with
  |nil =>
   intro post b l n e hb hn _
   rcases hb with rfl|⟨q,hq,_⟩
   ·exact stop [] l n trivial (by omega)
   ·cases hq
  |cons r ah ih =>
   intro post b l n e hb hn hz
   have okr:OkR (r::ah):=(show OkR (post++r::ah) from e▸ok).suf
   rcases hb with rfl|⟨q,hq,hqb⟩
   ·exact stop (r::ah) l n okr (by omega)
   simp only[List.length_cons]at hn hz
   by_cases h:r.n=b
   ·obtain⟨n,rfl⟩:∃m,n=m+1:=⟨n-1,by omega⟩
    have hr:r∈rs:=List.mem_reverse.mp (e▸List.mem_append_right _ List.mem_cons_self)
    have hf:IW rs b=some r:=h▸ON ok hr
    obtain⟨b',e2⟩:=ih (post++[r]) r.h (l++[b]) n (by rw[e];simp) okr.2.2.2 (by omega) (by rw[List.length_append];simp only[List.length_cons,List.length_nil];omega)
    refine⟨b',(mW (τ1:=sw b l) (τ2:=sw r.h (l++[b])) ?_ ?_).trans (e2.trans ?_)⟩
    ·rw[cT,hf];rfl
    ·have s1:CU (dMt 4 By (AB (AE 1) AI)) (sw b l)=some (.nx (sw b (l++[b]))):=by
      refine(eB (i:=4) (d:=eT b) (xs:=l.map eT) (τ1:=sw b l) rfl rfl (by rw[List.length_map];omega)).trans ?_
      show some (Out.nx [R,T b,G rs,o,some (.m (l.map eT++[eT b]))])=_
      rw[show l.map eT++[eT b]=(l++[b]).map eT by rw[List.map_append];rfl]
     exact(AR s1).trans (BX (d:=eT r.h) (τ1:=sw b (l++[b])) (op2 (x:=eZ r) (y:=.int 1) (τ1:=sw b (l++[b])) (jQ (x:=b.1) (kv0:=kvZ rs) (kvs:=kvZ rs) (τ1:=sw b (l++[b])) rfl rfl rfl (by rw[R7,hf];rfl)) rfl rfl) rfl)
    ·rw[show hsR (r::ah) b=b::hsR ah r.h from by rw[hsR,if_pos h],List.append_assoc]
     rfl
   ·have:∃q∈ah,q.n=b:=by
     rcases List.mem_cons.mp hq with rfl|hq
     ·exact absurd hqb h
     ·exact⟨q,hq,hqb⟩
    obtain⟨b',e2⟩:=ih (post++[r]) b l n (by rw[e];simp) (.inr this) (by omega) (by omega)
    refine⟨b',e2.trans ?_⟩
    rw[show hsR (r::ah) b=hsR ah b from by rw[hsR,if_neg h]]
 obtain⟨b',e2⟩:=wl rs.reverse [] a [] 100 rfl (.inr (let ⟨q,hq,e⟩:=ha;⟨q,List.mem_reverse.mpr hq,e⟩)) (by rw[List.length_reverse];omega) (by rw[List.length_reverse,List.length_nil];omega)
 rw[List.nil_append]at e2
 refine⟨[.d (.list (rs.map eZ)),.d (eT a)],?_⟩
 unfold JA
 let xs:=(hsR rs.reverse a).map eT
 refine A5 (τ:=sw b' (hsR rs.reverse a)) ?_ rfl rfl
 refine(AR (τ1:=st [] none) rfl).trans ((AR ((Ht (ds:=rs.map eZ) (τ1:=st [] none) rfl).trans e1)).trans ((AR (τ1:=sw a []) rfl).trans ((AR (τ1:=sw b' (hsR rs.reverse a)) (iD e2)).trans (Bs ?_))))
 rw[List.map_tail,<- pK]
 have hok:okM o=true:=Su ho
 refine pq (i:=4) (xs:=xs) rfl rfl ?_ ?_
 ·rw[pK,<- List.map_tail];exact encT.fixL _
 ·show(true&&(true&&(true&&(okM o&&(true&&true)))))=true
  rw[hok];rfl
def oZ:Option Rz->PyData
 |none=>.none
 |some r=>eZ r
theorem JN(r:Rz):Be [.d (eZ r)]=some (eT r.n,[.d (eZ r)]):=rfl
theorem HV(r:Rz):Av [.d (eZ r)]=some (eT r.h,[.d (eZ r)]):=rfl
theorem Gs(rs:List Rz)(a:Tx):∃ls,Cb [.d (.list (rs.map eZ)),.d (eT a)]=some (oZ (IW rs a),ls):=by
 let R:Option L:=some (.d (.list (rs.map eZ)))
 let A:Option L:=some (.d (eT a))
 let B:DB:=BK (AW (dOp fEq (AU Be (AB (AE 2) AI)) (AE 1))) (Ax (AE 2)) BQ
 have tt:∀r:Rz,AW (dOp fEq (AU Be (AB (AE 2) AI)) (AE 1)) [R,A,some (.d (eZ r))]=some (decide (r.n=a),[R,A,some (.d (eZ r))]):=fun r =>
  tst (op2 (x:=eT r.n) (y:=eT a) (τ1:=[R,A,some (.d (eZ r))]) (AZ (τ1:=[R,A,some (.d (eZ r))]) (ds:=[eZ r]) rfl rfl (JN r)) rfl (XR _ _))
 have lp:∀(xs:List Rz) (o:Option L),nM o->(∀r,IW xs a=some r->ER (dN 2) B (xs.map eZ) [R,A,o]=some (.rt (eZ r) [R,A,some (.d (eZ r))]))/\(IW xs a=none->∃o',ER (dN 2) B (xs.map eZ) [R,A,o]=some (.nx [R,A,o'])):=by
  intro xs
  induction xs with
  |nil=>exact fun o ho=>⟨fun r h=>(by cases h),fun _=>⟨o,rfl⟩⟩
  |cons x xs ih =>
   intro o ho
   have e0:dN 2 (eZ x) [R,A,o]=some [R,A,some (.d (eZ x))]:=HJ (o:=o) rfl ho
   have un:ER (dN 2) B ((x::xs).map eZ) [R,A,o]=(B [R,A,some (.d (eZ x))]).bind fun o=>match o with
     |.nx τ2=>ER (dN 2) B (xs.map eZ) τ2
     |.ct τ2=>ER (dN 2) B (xs.map eZ) τ2
     |.bk τ2=>some (.nx τ2)
     |.rt d τ2=>some (.rt d τ2):=by
    rw[List.map_cons,ER,e0];rfl
   by_cases h:x.n=a
   ·have eb:B [R,A,some (.d (eZ x))]=some (.rt (eZ x) [R,A,some (.d (eZ x))]):=(M8 (τ1:=[R,A,some (.d (eZ x))]) (by rw[tt,decide_eq_true h])).trans rfl
    have ef:IW (x::xs) a=some x:=by unfold IW;rw[List.find?_cons,decide_eq_true h]
    refine⟨fun r hr=>?_,fun hn=>?_⟩
    ·rw[ef]at hr;cases hr
     rw[un,eb];rfl
    ·rw[ef]at hn;cases hn
   ·have eb:B [R,A,some (.d (eZ x))]=some (.nx [R,A,some (.d (eZ x))]):=(Cp (τ1:=[R,A,some (.d (eZ x))]) (by rw[tt,decide_eq_false h])).trans rfl
    have ef:IW (x::xs) a=IW xs a:=by unfold IW;rw[List.find?_cons,decide_eq_false h]
    obtain⟨i1,i2⟩:=ih (some (.d (eZ x))) IP
    rw[un,eb,ef]
    exact⟨i1,i2⟩
 obtain⟨l1,l2⟩:=lp rs none De
 refine⟨[.d (.list (rs.map eZ)),.d (eT a)],?_⟩
 unfold Cb
 cases h:IW rs a with
 |some r=>exact A5 (τ:=[R,A,some (.d (eZ r))]) (Fh ((Ht (ds:=rs.map eZ) (τ1:=[R,A,none]) rfl).trans (l1 r h))) rfl rfl
 |none =>
  obtain⟨o',e⟩:=l2 h
  exact A5 (τ:=[R,A,o']) ((AR ((Ht (ds:=rs.map eZ) (τ1:=[R,A,none]) rfl).trans e)).trans rfl) rfl rfl
theorem Of{rs:List Rz}(ok:OkZ rs){r:Rz}(hr:r∈rs):∃ls,Cn [.d (.list (rs.map eZ)),.d (eT r.n)]=some (eZ r,ls):=by
 obtain⟨ls,e⟩:=Gs rs r.n
 rw[ON ok hr]at e
 let τ:DS:=[some (.d (.list (rs.map eZ))),some (.d (eT r.n)),some (.d (eZ r))]
 refine⟨[.d (.list (rs.map eZ)),.d (eT r.n)],?_⟩
 unfold Cn
 exact A5 (τ:=τ) ((AR (τ1:=τ) (BX (AZ (τ1:=[some (.d (.list (rs.map eZ))),some (.d (eT r.n)),none]) (ds:=[.list (rs.map eZ),eT r.n]) rfl rfl e) rfl)).trans ((AR (τ1:=τ) ((Cp (τ1:=τ) (tst (op2 (x:=eZ r) (y:=.none) (τ1:=τ) rfl rfl rfl))).trans rfl)).trans rfl)) rfl rfl
theorem VG{rs:List Rz}(ok:OkZ rs)(hl:rs.length<=30){a:Tx}(ha:a=t0\/∃q∈rs,q.n=a):∃ls,Df [.d (.list (rs.map eZ)),.d (eT a)]=some (.list ((hsR rs.reverse a).tail.map eT),ls):=by
 let R:Option L:=some (.d (.list (rs.map eZ)))
 let A:Option L:=some (.d (eT a))
 let M:List Tx->Option L:=fun l=>some (.m (l.map eT))
 let sw:Tx->List Tx->DS:=fun b l=>[R,A,M l,some (.d (oZ (IW rs b)))]
 let C:DT:=El (AW (dOp MB (AE 3) (dC .none))) (AW (dOp fNe (AU Av (AB (AE 3) AI)) (dC (.str ""))))
 let B:DB:=Af (CU (dMt 2 By (AB (AU Av (AB (AE 3) AI)) AI))) (Ak (AU Cb (AB (AE 0) (AB (AU Av (AB (AE 3) AI)) AI))) (dN 3))
 have cN:∀b l,IW rs b=none->C (sw b l)=some (false,sw b l):=fun b l h=>by
  have e:sw b l=[R,A,M l,some (.d .none)]:=by show[R,A,M l,some (.d (oZ (IW rs b)))]=_;rw[h];rfl
  rw[e];rfl
 have cS:∀b l r,IW rs b=some r->C (sw b l)=some (!decide (r.h=t0),sw b l):=fun b l r h=>by
  have e:sw b l=[R,A,M l,some (.d (eZ r))]:=by show[R,A,M l,some (.d (oZ (IW rs b)))]=_;rw[h];rfl
  rw[e]
  exact(ck (p:=true) (τ:=[R,A,M l,some (.d (eZ r))]) rfl (tst (op2 (x:=eT r.h) (y:=eT t0) (τ1:=[R,A,M l,some (.d (eZ r))]) (AZ (τ1:=[R,A,M l,some (.d (eZ r))]) (ds:=[eZ r]) rfl rfl (HV r)) rfl (kr _ _)))).trans (by rw[Bool.true_and])
 have stop:∀(b:Tx) (l:List Tx) (n:Nat),0<n->(C (sw b l)=some (false,sw b l))->dWh C B n (sw b l)=some (.nx (sw b l)):=fun b l n hn h=>by
  obtain⟨n,rfl⟩:∃m,n=m+1:=⟨n-1,by omega⟩
  exact mX h
 have wl:∀(ah post:List Rz) (b:Tx) (l:List Tx) (n:Nat),rs.reverse=post++ah->(b=t0\/∃q∈ah,q.n=b)->ah.length<n->l.length+ah.length<=60->∃b',dWh C B n (sw b l)=some (.nx (sw b' (l++(hsR ah b).tail))):=by
  intro ah
  induction ah with
  |nil =>
   intro post b l n e hb hn _
   rcases hb with rfl|⟨q,hq,_⟩
   ·exact⟨t0,by rw[show(hsR [] t0).tail=[] from rfl,List.append_nil];exact stop _ _ _ (by omega) (cN _ _ (di ok))⟩
   ·cases hq
  |cons r ah ih =>
   intro post b l n e hb hn hz
   have okr:OkR (r::ah):=(show OkR (post++r::ah) from e▸ok).suf
   rcases hb with rfl|⟨q,hq,hqb⟩
   ·exact⟨t0,by rw[Ka okr,List.tail_nil,List.append_nil];exact stop _ _ _ (by omega) (cN _ _ (di ok))⟩
   simp only[List.length_cons]at hn hz
   by_cases h:r.n=b
   ·have hr:r∈rs:=List.mem_reverse.mp (e▸List.mem_append_right _ List.mem_cons_self)
    have hf:IW rs b=some r:=h▸ON ok hr
    rw[show(hsR (r::ah) b).tail=hsR ah r.h from by rw[hsR,if_pos h,List.tail_cons]]
    rcases okr.2.2.2 with hh|hh
    ·refine⟨b,?_⟩
     rw[hh,Ka okr.1,List.append_nil]
     exact stop _ _ _ (by omega) (by rw[cS b l r hf,hh,decide_eq_true rfl];rfl)
    ·have hne:r.h≠t0:=fun z=>by
      obtain⟨q,hq,hz⟩:=hh
      exact(OkR.all okr.1 q hq).ne (hz.trans z)
     obtain⟨tl,htl⟩:=Zh hh
     obtain⟨n,rfl⟩:∃m,n=m+1:=⟨n-1,by omega⟩
     obtain⟨b',e2⟩:=ih (post++[r]) r.h (l++[r.h]) n (by rw[e];simp) (.inr hh) (by omega) (by rw[List.length_append];simp only[List.length_cons,List.length_nil];omega)
     refine⟨b',(mW (τ1:=sw b l) (τ2:=sw r.h (l++[r.h])) ?_ ?_).trans (e2.trans ?_)⟩
     ·rw[cS b l r hf,decide_eq_false hne];rfl
     ·obtain⟨lf,ef⟩:=Gs rs r.h
      let s2:List Tx->DS:=fun l=>[R,A,M l,some (.d (eZ r))]
      have es:sw b l=s2 l:=by show[R,A,M l,some (.d (oZ (IW rs b)))]=_;rw[hf];rfl
      rw[es]
      have hx:∀l,AU Av (AB (AE 3) AI) (s2 l)=some (eT r.h,s2 l):=fun l=>AZ (τ1:=s2 l) (ds:=[eZ r]) rfl rfl (HV r)
      have s1:CU (dMt 2 By (AB (AU Av (AB (AE 3) AI)) AI)) (s2 l)=some (.nx (s2 (l++[r.h]))):=by
       refine(eB (i:=2) (d:=eT r.h) (xs:=l.map eT) (τ1:=s2 l) (acc (hx l) rfl) rfl (by rw[List.length_map];omega)).trans ?_
       show some (Out.nx [R,A,some (.m (l.map eT++[eT r.h])),some (.d (eZ r))])=_
       rw[show l.map eT++[eT r.h]=(l++[r.h]).map eT by rw[List.map_append];rfl]
      exact(AR s1).trans (BX (d:=oZ (IW rs r.h)) (τ1:=s2 (l++[r.h])) (AZ (τ1:=s2 (l++[r.h])) (rs:=[.d (.list (rs.map eZ)),.d (eT r.h)]) (ds:=[.list (rs.map eZ),eT r.h]) (acc (τ1:=s2 (l++[r.h])) rfl (acc (hx _) rfl)) rfl ef) rfl)
     ·rw[htl,List.tail_cons,List.append_assoc]
      rfl
   ·have:∃q∈ah,q.n=b:=by
     rcases List.mem_cons.mp hq with rfl|hq
     ·exact absurd hqb h
     ·exact⟨q,hq,hqb⟩
    obtain⟨b',e2⟩:=ih (post++[r]) b l n (by rw[e];simp) (.inr this) (by omega) (by omega)
    refine⟨b',e2.trans ?_⟩
    rw[show hsR (r::ah) b=hsR ah b from by rw[hsR,if_neg h]]
 obtain⟨b',e2⟩:=wl rs.reverse [] a [] 100 rfl (ha.imp id fun⟨q,hq,e⟩=>⟨q,List.mem_reverse.mpr hq,e⟩) (by rw[List.length_reverse];omega) (by rw[List.length_reverse,List.length_nil];omega)
 rw[List.nil_append]at e2
 obtain⟨lf,ef⟩:=Gs rs a
 refine⟨[.d (.list (rs.map eZ)),.d (eT a)],?_⟩
 unfold Df
 refine A5 (τ:=sw b' (hsR rs.reverse a).tail) ?_ rfl rfl
 exact(AR (τ1:=[R,A,M [],none]) rfl).trans ((AR (τ1:=sw a []) (BX (AZ (τ1:=[R,A,M [],none]) (rs:=[.d (.list (rs.map eZ)),.d (eT a)]) (ds:=[.list (rs.map eZ),eT a]) rfl rfl ef) rfl)).trans ((AR (τ1:=sw b' (hsR rs.reverse a).tail) (iD e2)).trans rfl))
theorem Gn{α:Type}{enc:α->PyData}{xs:List α}{k:Int}(h0:0<=k)(h1:k<(xs.length:Int)):∃a,atI (xs.map enc) k=some (enc a)/\xs[k.toNat]?=some a:=by
 have hk:k.toNat<xs.length:=by omega
 refine⟨xs[k.toNat],?_,List.getElem?_eq_getElem hk⟩
 unfold atI ixN
 rw[List.length_map,if_pos h0,if_pos h1]
 simp[hk]
theorem lL{α:Type}{enc:α->PyData}{xs:List α}(h:0<xs.length):∃a∈xs,atI (xs.map enc) (-1)=some (enc a):=by
 have hk:xs.length-1<xs.length:=by omega
 refine⟨xs[xs.length-1],List.getElem_mem hk,?_⟩
 unfold atI ixN
 rw[List.length_map,if_neg (by decide),if_pos (by omega)]
 show(xs.map enc)[((-1:Int)+(xs.length:Int)).toNat]?=_
 rw[show((-1:Int)+(xs.length:Int)).toNat=xs.length-1 by omega]
 simp[hk]
def KH:List Tx:=[kS 4,kS 5,kS 6,kS 7,kS 8,kS 9]
def KA:List Nat:=[0,1,2,3,0,3,4,5,6,7,8,9]
theorem kb{τ:DS}:NV (AU HC AI) (dPt (dC (.int 6))) J6 τ=some (.tuple (KH.map eT),τ):=rfl
theorem jP{i:Nat}(hi:i<10):kS i∈KH↔4<=i:=by
 have:∀i:Fin 10,decide (kS i∈KH)=decide (4<=i.1):=∅
 have:=this ⟨i,hi⟩
 rwa [decide_eq_decide]at this
theorem inL(t:Tx)(ts:List Tx):fIn false (eT t) (.list (ts.map eT))=some (.bool (decide (t∈ts))) :=
 (encT.fIn t ts).trans (congrArg (fun b=>some (PyData.bool b)) (decide_eq_decide.mpr Iff.rfl))
theorem km(t:Tx)(ts:List Tx):fIn true (eT t) (.list (ts.map eT))=some (.bool (!decide (t∈ts))) :=
 (encT.fNotIn t ts).trans (congrArg (fun b=>some (PyData.bool (!b))) (decide_eq_decide.mpr Iff.rfl))
theorem TY{rs:List Rz}(ok:OkZ rs)(hl:rs.length<=30)(v:Int):∃(r:Rz) (w:Int) (ls:List L),Ee [.d (.list (rs.map eZ)),.d (.int v)]=some (.tuple [eZ r,.int w],ls)/\OkRow r /\
  (r.h=t0\/∃q∈rs,q.n=r.h/\4<=kz q.d/\(hsR rs.reverse q.n).length<7)/\(kz r.d=8->∀q∈rs,q.n∈hsR rs.reverse r.h->kz q.d≠8):=by
 let D:PyData:=.list (rs.map eZ)
 let R:Option L:=some (.d D)
 let I:Int->Option L:=fun i=>some (.d (.int i))
 let T:Tx->Option L:=fun a=>some (.d (eT a))
 let M:List Tx->Option L:=fun l=>some (.m (l.map eT))
 obtain⟨nm,u,l1,e1,n1,n8,na⟩:=dP v
 let p:Rz->Bool:=fun r=>decide (kS (kz r.d)∈KH)&&decide (((hsR rs.reverse r.n).length:Int)<7)
 let hsO:List Rz->List Tx:=fun l=>t0::(l.filter p).map (·.n)
 let ex:DS:=[none,none,none,none,none,none]
 let s3:List Tx->Option L->DS:=fun hs o4=>R::I u::T nm::M hs::o4::none::ex
 have lp:∃τ',ER (dN 4) (BK (El (AW (dOp (fIn false) (dOp Ag (AE 4) (dC (.int 5))) (NV (AU HC AI) (dPt (dC (.int 6))) J6))) (AW (dOp fLt (Bh Dw (AB (AU LU (AB (AE 0) (AB (dOp Ag (AE 4) (dC (.int 0))) AI))) AI)) (dC (.int 7))))) (CU (dMt 3 By (AB (dOp Ag (AE 4) (dC (.int 0))) AI))) BQ) (rs.map eZ) (s3 (hsO []) none)=some (.nx τ')/\∃o,nM o/\τ'=s3 (hsO rs) o:=by
  refine Ge (fun pre τ=>∃o,nM o/\τ=s3 (hsO pre) o) ⟨none,De,rfl⟩ ?_
  rintro pre r post τ e ⟨o,ho,rfl⟩
  have hz:=Il e
  have hr:r∈rs:=Oe e
  let τ1:=s3 (hsO pre) (some (.d (eZ r)))
  obtain⟨lu,eu⟩:=lR ok hl (a:=r.n) (.inr ⟨r,hr,rfl⟩)
  have c1:AW (dOp (fIn false) (dOp Ag (AE 4) (dC (.int 5))) (NV (AU HC AI) (dPt (dC (.int 6))) J6)) τ1=some (decide (kS (kz r.d)∈KH),τ1) :=
   tst (op2 (x:=eT (kS (kz r.d))) (y:=.tuple (KH.map eT)) (τ1:=τ1) (op2 (x:=eZ r) (y:=.int 5) (τ1:=τ1) rfl rfl rfl) kb (inT _ _))
  have c2:AW (dOp fLt (Bh Dw (AB (AU LU (AB (AE 0) (AB (dOp Ag (AE 4) (dC (.int 0))) AI))) AI)) (dC (.int 7))) τ1=some (decide (((hsR rs.reverse r.n).length:Int)<7),τ1):=by
   refine tst (op2 (x:=.int ((hsR rs.reverse r.n).length:Int)) (y:=.int 7) (τ1:=τ1) (Mv (d:=.list ((hsR rs.reverse r.n).map eT)) (AZ (τ1:=τ1) (rs:=[.d D,.d (eT r.n)]) (ds:=[D,eT r.n]) (acc (τ1:=τ1) rfl (acc (τ1:=τ1) (op2 (x:=eZ r) (y:=.int 0) (τ1:=τ1) rfl rfl rfl) rfl)) rfl eu) ?_) rfl rfl)
   show some (PyData.int (((hsR rs.reverse r.n).map eT).length:Int))=_
   rw[List.length_map]
  have c:=ck c1 c2
  refine⟨τ1,s3 (hsO (pre++[r])) (some (.d (eZ r))),HJ (o:=o) rfl ho,?_,_,IP,rfl⟩
  cases hp:p r with
  |true =>
   refine(M8 (τ1:=τ1) (c.trans (by rw[show(_&&_)=true from hp]))).trans ?_
   have hpl:(pre.filter p).length<=pre.length:=List.length_filter_le ..
   refine(eB (i:=3) (d:=eT r.n) (xs:=(hsO pre).map eT) (τ1:=τ1) (acc (τ1:=τ1) (op2 (x:=eZ r) (y:=.int 0) (τ1:=τ1) rfl rfl rfl) rfl) rfl ?_).trans ?_
   ·rw[List.length_map]
    show((pre.filter p).map (·.n)).length+1<900
    rw[List.length_map];omega
   ·have:(hsO pre).map eT++[eT r.n]=(hsO (pre++[r])).map eT:=by
     show eT t0::((pre.filter p).map (·.n)).map eT++[eT r.n]=eT t0::(((pre++[r]).filter p).map (·.n)).map eT
     rw[List.filter_append,List.filter_cons,hp]
     simp
    show some (Out.nx (R::I u::T nm::some (.m ((hsO pre).map eT++[eT r.n]))::some (.d (eZ r))::none::ex))=_
    rw[this]
  |false =>
   refine(Cp (τ1:=τ1) (c.trans (by rw[show(_&&_)=false from hp]))).trans ?_
   have:hsO (pre++[r])=hsO pre:=by
    show t0::((pre++[r]).filter p).map (·.n)=t0::(pre.filter p).map (·.n)
    rw[List.filter_append,List.filter_cons,hp]
    simp
   rw[this];rfl
 obtain⟨τ',e3,o4,ho4,rfl⟩:=lp
 generalize hhs:hsO rs=hs at e3
 have hs0:0<hs.length:=by rw[<- hhs];exact Nat.succ_pos _
 have hs1:hs.length<=31:=by
  rw[<- hhs]
  show((rs.filter p).map (·.n)).length+1<=31
  have hpl:(rs.filter p).length<=rs.length:=List.length_filter_le ..
  rw[List.length_map];omega
 have hsm:∀h∈hs,h=t0\/∃q∈rs,q.n=h/\4<=kz q.d/\(hsR rs.reverse q.n).length<7:=fun h hh=>by
  rw[<- hhs]at hh
  rcases List.mem_cons.mp hh with rfl|hh
  ·exact .inl rfl
  ·obtain⟨q,hq,rfl⟩:=List.mem_map.mp hh
   obtain⟨hq1,hq2⟩:=List.mem_filter.mp hq
   have hq2:(decide (kS (kz q.d)∈KH)&&decide (((hsR rs.reverse q.n).length:Int)<7))=true:=hq2
   rw[Bool.and_eq_true,decide_eq_true_eq,decide_eq_true_eq,jP (M7 _)]at hq2
   exact .inr ⟨q,hq1,rfl,hq2.1,by omega⟩
 have okm4:okM o4=true:=Su ho4
 let s5:Int->Option L->DS:=fun u o5=>R::I u::T nm::M hs::o4::o5::ex
 let b5:Int->Option L->DS:=fun u o5=>R::I u::T nm::some (.d (.list (hs.map eT)))::o4::o5::ex
 have hok:∀u o5,okM o5=true->(b5 u o5).all okM=true:=fun u o5 h=>by
  show(true&&(true&&(true&&(true&&(okM o4&&(okM o5&&true))))))=true
  rw[okm4,h];rfl
 have ln:∀u o5,Bh Dw (AB (AE 3) AI) (b5 u o5)=some (.int (hs.length:Int),b5 u o5):=fun u o5=>by
  refine Mv (d:=.list (hs.map eT)) (τ1:=b5 u o5) rfl ?_
  show some (PyData.int ((hs.map eT).length:Int))=_
  rw[List.length_map]
 have n0:(0:Int)<(hs.length:Int):=by omega
 have k0:=Int.emod_nonneg u (show(hs.length:Int)≠0 by omega)
 have k1:=Int.emod_lt_of_pos u n0
 obtain⟨ha,ea,ha2⟩:=Gn (enc:=eT) (xs:=hs) k0 k1
 have ha3:ha∈hs:=List.mem_of_getElem? ha2
 have z4:Ak (J7 3 (dOp JZ (AE 3) (dOp Bn (AE 1) (Bh Dw (AB (AE 3) AI))))) (dN 5) (s5 u none)=some (.nx (s5 u (T ha))):=by
  refine BX (d:=eT ha) (τ1:=s5 u none) (lJ (i:=3) (xs:=hs.map eT) rfl ?_ rfl (hok u none rfl)) rfl
  exact op2 (x:=.list (hs.map eT)) (y:=.int (u % (hs.length:Int))) (τ1:=b5 u none) rfl (op2 (x:=.int u) (y:=.int (hs.length:Int)) (τ1:=b5 u none) rfl (ln u none) (EF n0)) ea
 have z5:∃h∈hs,BK (Ii 3 (AW (dOp fEq (dOp Bn (dOp CT (AE 1) (Bh Dw (AB (AE 3) AI))) (dC (.int 2))) (dC (.int 0))))) (Ak (J7 3 (dOp JZ (AE 3) (dUn O0 (dC (.int 1))))) (dN 5)) BQ (s5 u (T ha))=some (.nx (s5 u (T h))):=by
  have c:Ii 3 (AW (dOp fEq (dOp Bn (dOp CT (AE 1) (Bh Dw (AB (AE 3) AI))) (dC (.int 2))) (dC (.int 0)))) (s5 u (T ha))=some (decide (u / (hs.length:Int) % 2=0),s5 u (T ha)):=by
   refine eM (i:=3) (xs:=hs.map eT) (τ1:=b5 u (T ha)) rfl (tst (op2 (x:=.int (u / (hs.length:Int) % 2)) (y:=.int 0) (τ1:=b5 u (T ha)) (op2 (x:=.int (u / (hs.length:Int))) (y:=.int 2) (τ1:=b5 u (T ha)) (op2 (x:=.int u) (y:=.int (hs.length:Int)) (τ1:=b5 u (T ha)) rfl (ln u _) (Fu n0 (by omega))) rfl (EF (by decide))) rfl (encI.fEq _ _))) (hok u _ rfl)
  by_cases h:u / (hs.length:Int) % 2=0
  ·obtain⟨hb,hb1,eb⟩:=lL (enc:=eT) hs0
   refine⟨hb,hb1,(M8 (τ1:=s5 u (T ha)) (by rw[c,decide_eq_true h])).trans ?_⟩
   refine BX (d:=eT hb) (τ1:=s5 u (T ha)) (lJ (i:=3) (xs:=hs.map eT) rfl ?_ rfl (hok u _ rfl)) rfl
   exact op2 (x:=.list (hs.map eT)) (y:=.int (-1)) (τ1:=b5 u (T ha)) rfl rfl eb
  ·exact⟨ha,ha3,(Cp (τ1:=s5 u (T ha)) (by rw[c,decide_eq_false h])).trans rfl⟩
 obtain⟨h,hh,z5⟩:=z5
 generalize hu2:u / (hs.length:Int) / 2=u2
 have z6:Ak (J7 3 (dOp CT (dOp CT (AE 1) (Bh Dw (AB (AE 3) AI))) (dC (.int 2)))) (dN 1) (s5 u (T h))=some (.nx (s5 u2 (T h))):=by
  refine BX (d:=.int u2) (τ1:=s5 u (T h)) (lJ (i:=3) (xs:=hs.map eT) rfl ?_ rfl (hok u _ rfl)) rfl
  rw[<- hu2]
  exact op2 (x:=.int (u / (hs.length:Int))) (y:=.int 2) (τ1:=b5 u (T h)) (op2 (x:=.int u) (y:=.int (hs.length:Int)) (τ1:=b5 u (T h)) rfl (ln u _) (Fu n0 (by omega))) rfl (Fu (by decide) (by decide))
 obtain⟨x,u3,l3,ex3,x0,x1⟩:=Ik u2
 obtain⟨y,u4,l4,ey4,y0,y1⟩:=Ik u3
 let s9:Int->Option L->Option L->Option L->Option L->Option L->Option L->DS:=fun u o6 o7 o8 o9 o10 o11=>[R,I u,T nm,M hs,o4,T h,o6,o7,o8,o9,o10,o11]
 have z7:Ak (AU B8 (AB (AE 1) AI)) (dGT (A6 (dN 6) (A6 (dN 1) C5))) (s9 u2 none none none none none none)=some (.nx (s9 u3 (I x) none none none none none)) :=
  BX (AZ (τ1:=s9 u2 none none none none none none) (rs:=[.d (.int u2)]) (ds:=[.int u2]) rfl rfl ex3) rfl
 have z8:Ak (AU B8 (AB (AE 1) AI)) (dGT (A6 (dN 7) (A6 (dN 1) C5))) (s9 u3 (I x) none none none none none)=some (.nx (s9 u4 (I x) (I y) none none none none)) :=
  BX (AZ (τ1:=s9 u3 (I x) none none none none none) (rs:=[.d (.int u3)]) (ds:=[.int u3]) rfl rfl ey4) rfl
 have m12:Bn (.int u4) (.int 12)=some (.int (u4 % 12)):=EF (by decide)
 obtain⟨j,ej,ej2⟩:=Gn (enc:=fun i=>eT (kS i)) (xs:=KA) (k:=u4 % 12) (by omega) (by show u4 % 12<12;omega)
 have hj:j<10:=by
  have:=List.mem_of_getElem? ej2
  have q:∀i∈KA,i<10:=by decide
  exact q j this
 let t8:Nat->DS:=fun j=>s9 u4 (I x) (I y) (T (kS j)) none none none
 have z9:Ak (dOp Ag (AU HC AI) (dOp Bn (AE 1) (dC (.int 12)))) (dN 8) (s9 u4 (I x) (I y) none none none none)=some (.nx (t8 j)) :=
  BX (d:=eT (kS j)) (τ1:=s9 u4 (I x) (I y) none none none none) (op2 (x:=.tuple (KA.map fun i=>eT (kS i))) (y:=.int (u4 % 12)) (τ1:=s9 u4 (I x) (I y) none none none none) rfl (op2 (x:=.int u4) (y:=.int 12) (τ1:=s9 u4 (I x) (I y) none none none none) rfl rfl m12) ej) rfl
 have hup:h=t0\/∃q∈rs,q.n=h:=(hsm h hh).imp id fun⟨q,a,b,_⟩=>⟨q,a,b⟩
 obtain⟨lu,eu⟩:=lR ok hl hup
 let up:=hsR rs.reverse h
 let U:Option L:=some (.d (.list (up.map eT)))
 let ta:Nat->DS:=fun j=>s9 u4 (I x) (I y) (T (kS j)) U none none
 have za:Ak (AU LU (AB (AE 0) (AB (AE 5) AI))) (dN 9) (t8 j)=some (.nx (ta j)) :=
  BX (AZ (τ1:=t8 j) (rs:=[.d D,.d (eT h)]) (ds:=[D,eT h]) rfl rfl eu) rfl
 let pt:Rz->Bool:=fun r=>decide (r.n∈up)&&decide (kS (kz r.d)=kS 8)
 have zb:∃j',j'<10/\(j'=8->rs.filter pt=[])/\BK (El (AW (dOp fEq (AE 8) (dC (.str "tiles")))) (AW (dOp fNe (dLC 1 [9] (dIL (AE 0)) (dN 0) (El (AW (dOp (fIn false) (dOp Ag (AE 0) (dC (.int 0))) (AE 1))) (AW (dOp fEq (dOp Ag (AE 0) (dC (.int 5))) (dC (.str "tiles"))))) (AE 0)) (Kq AI)))) (Ak (dC (.str "group")) (dN 8)) BQ (ta j)=some (.nx (ta j')):=by
  have c1:AW (dOp fEq (AE 8) (dC (.str "tiles"))) (ta j)=some (decide (kS j=kS 8),ta j):=tst (op2 (x:=eT (kS j)) (y:=eT (kS 8)) (τ1:=ta j) rfl rfl (XR _ _))
  have lc:dLC 1 [9] (dIL (AE 0)) (dN 0) (El (AW (dOp (fIn false) (dOp Ag (AE 0) (dC (.int 0))) (AE 1))) (AW (dOp fEq (dOp Ag (AE 0) (dC (.int 5))) (dC (.str "tiles"))))) (AE 0) (ta j)=some (.list ((rs.filter pt).map eZ),ta j):=by
   refine lcg (enc:=eZ) (rs:=rs) (ex:=[U]) pt eZ rfl (by omega) rfl rfl (fun r hr=>?_) (fun r hr _=>rfl)
   let τ:DS:=[some (.d (eZ r)),U]
   exact ck (τ:=τ) (tst (op2 (x:=eT r.n) (y:=.list (up.map eT)) (τ1:=τ) (op2 (x:=eZ r) (y:=.int 0) (τ1:=τ) rfl rfl rfl) rfl (inL _ _))) (tst (op2 (x:=eT (kS (kz r.d))) (y:=eT (kS 8)) (τ1:=τ) (op2 (x:=eZ r) (y:=.int 5) (τ1:=τ) rfl rfl rfl) rfl (XR _ _)))
  have c2:AW (dOp fNe (dLC 1 [9] (dIL (AE 0)) (dN 0) (El (AW (dOp (fIn false) (dOp Ag (AE 0) (dC (.int 0))) (AE 1))) (AW (dOp fEq (dOp Ag (AE 0) (dC (.int 5))) (dC (.str "tiles"))))) (AE 0)) (Kq AI)) (ta j)=some (!decide (rs.filter pt=[]),ta j) :=
   tst (op2 (x:=.list ((rs.filter pt).map eZ)) (y:=.list (([]:List Rz).map eZ)) (τ1:=ta j) lc rfl (encZ.fNeL _ _))
  have c:=ck c1 c2
  by_cases hc:(decide (kS j=kS 8)&&!decide (rs.filter pt=[]))=true
  ·exact⟨4,by decide,fun z=>absurd z (by decide),(M8 (τ1:=ta j) (by rw[c,hc])).trans rfl⟩
  ·have hc:=Bool.eq_false_iff.mpr hc
   refine⟨j,hj,fun z=>?_,(Cp (τ1:=ta j) (by rw[c,hc])).trans rfl⟩
   rw[z,decide_eq_true rfl,Bool.true_and,Bool.not_eq_false',decide_eq_true_eq]at hc
   exact hc
 obtain⟨k,hk,hk8,zb⟩:=zb
 generalize hsh:decide (u4 / 12 % 8>0)=sh
 let S:Option L:=some (.d (.bool sh))
 have zc:Ak (dOp fGt (dOp Bn (dOp CT (AE 1) (dC (.int 12))) (dC (.int 8))) (dC (.int 0))) (dN 10) (ta k)=some (.nx (s9 u4 (I x) (I y) (T (kS k)) U S none)):=by
  refine BX (d:=.bool sh) (τ1:=ta k) (op2 (x:=.int (u4 / 12 % 8)) (y:=.int 0) (τ1:=ta k) (op2 (x:=.int (u4 / 12)) (y:=.int 8) (τ1:=ta k) (op2 (x:=.int u4) (y:=.int 12) (τ1:=ta k) rfl rfl (Fu (by decide) (by decide))) rfl (EF (by decide))) rfl ?_) rfl
  rw[<- hsh];rfl
 obtain⟨d,w,ld,ed,kd,okd⟩:=Vu hk (u4 / 96)
 let tz:DS:=s9 w (I x) (I y) (T (kS k)) U S (some (.d (eD d)))
 have zd:Ak (AU Bm (AB (AE 8) (AB (dOp CT (AE 1) (dC (.int 96))) AI))) (dGT (A6 (dN 11) (A6 (dN 1) C5))) (s9 u4 (I x) (I y) (T (kS k)) U S none)=some (.nx tz) :=
  BX (AZ (τ1:=s9 u4 (I x) (I y) (T (kS k)) U S none) (rs:=[.d (eT (kS k)),.d (.int (u4 / 96))]) (ds:=[eT (kS k),.int (u4 / 96)]) (acc (τ1:=s9 u4 (I x) (I y) (T (kS k)) U S none) rfl (acc (op2 (x:=.int u4) (y:=.int 96) (τ1:=s9 u4 (I x) (I y) (T (kS k)) U S none) rfl rfl (Fu (by decide) (by decide))) rfl)) rfl ed) rfl
 refine⟨⟨nm,h,x,y,sh,d⟩,w,[.d D,.d (.int v)],?_,⟨n1,n8,na,x0,x1,y0,y1,okd⟩,hsm h hh,fun hd8 q hq hqu z=>?_⟩
 ·unfold Ee
  refine A5 (τ:=tz) ?_ rfl rfl
  refine(AR (τ1:=R::I u::T nm::none::none::none::ex) (BX (AZ (τ1:=R::I v::none::none::none::none::ex) (rs:=[.d (.int v)]) (ds:=[.int v]) rfl rfl e1) rfl)).trans ?_
  refine(AR (τ1:=s3 (hsO []) none) rfl).trans ((AR ((Ht (ds:=rs.map eZ) (τ1:=s3 (hsO []) none) rfl).trans e3)).trans ?_)
  refine(AR z4).trans ((AR z5).trans ((AR z6).trans ((AR z7).trans ((AR z8).trans ((AR z9).trans ((AR za).trans ((AR zb).trans ((AR zc).trans ((AR zd).trans (Bs ?_))))))))))
  have ez:eZ ⟨nm,h,x,y,sh,d⟩ = .tuple [eT nm,eT h,.int x,.int y,.bool sh,eT (kS k),eD d]:=by rw[<- kd];rfl
  rw[ez];rfl
 ·have f:=hk8 (kd▸hd8)
  have : q ∈ rs.filter pt := List.mem_filter.mpr ⟨hq, by
   show(decide (q.n∈up)&&decide (kS (kz q.d)=kS 8))=true
   rw[decide_eq_true hqu,z,decide_eq_true rfl];rfl⟩
  rw[f]at this;cases this
def VtR:List Rz->Prop
 |[]=>True
 |r::a=>VtR a/\(r.h=t0\/∃q∈a,q.n=r.h/\4<=kz q.d/\(hsR a q.n).length<7)/\(kz r.d=8->∀q∈a,q.n∈hsR a r.h->kz q.d≠8)
theorem aO{ns:List Int}{f m:Int}(f0:0<=f)(m0:0<=m)(m1:m<=24):∃(rs:List Rz) (ls:List L),Fp [.c (ns.map .int),.d (.int f),.d (.int m)]=some (.list (rs.map eZ),ls)/\OkZ rs/\VtR rs.reverse/\(rs.length:Int)<=m/\(1<=m->1<=rs.length):=by
 let C:Option L:=some (.c (ns.map .int))
 let I:Int->Option L:=fun i=>some (.d (.int i))
 let st:List Rz->Option L->Option L->Option L->DS:=fun rs o4 o5 o6=>[C,I f,I m,some (.m (rs.map eZ)),o4,o5,o6]
 let bt:List Rz->Option L->Option L->Option L->DS:=fun rs o4 o5 o6=>[C,I f,I m,some (.d (.list (rs.map eZ))),o4,o5,o6]
 have hok:∀rs o4 o5 o6,nM o4->nM o5->nM o6->(bt rs o4 o5 o6).all okM=true:=fun rs o4 o5 o6 h4 h5 h6=>by
  show(true&&(true&&(true&&(true&&(okM o4&&(okM o5&&(okM o6&&true)))))))=true
  rw[Su h4,Su h5,Su h6];rfl
 have lp:∃τ',ER (dN 4) (Af (Ak (J7 3 (AU Ee (AB (AE 3) (AB (Bf 0 Fq (AB (dOp CM (AE 1) (AE 4)) AI)) AI)))) (dGT (A6 (dN 5) (A6 (dN 6) C5)))) (BK (Ii 3 (AW (dOp (fIn true) (dOp Ag (AE 5) (dC (.int 0))) (dLC 1 [] (dIL (AE 3)) (dN 0) FD (dOp Ag (AE 0) (dC (.int 0))))))) (CU (dMt 3 By (AB (AE 5) AI))) BQ)) ((List.range m.toNat).map fun(k:Nat)=>PyData.int (k:Int)) (st [] none none none)=some (.nx τ')/\∃rs o4 o5 o6,nM o4/\nM o5/\nM o6/\OkZ rs/\VtR rs.reverse/\rs.length<=(List.range m.toNat).length/\(0<(List.range m.toNat).length->0<rs.length)/\τ'=st rs o4 o5 o6:=by
  refine Ge (fun(pre:List Nat) τ=>∃rs o4 o5 o6,nM o4/\nM o5/\nM o6/\OkZ rs/\VtR rs.reverse/\rs.length<=pre.length/\(0<pre.length->0<rs.length)/\τ=st rs o4 o5 o6) ⟨[],none,none,none,De,De,De,trivial,trivial,Nat.le_refl _,fun h=>h,rfl⟩ ?_
  rintro pre k post τ e ⟨rs,o4,o5,o6,n4,n5,n6,ok,vt,hle,hpos,rfl⟩
  have hz:=Il e
  rw[List.length_range]at hz
  have hl:rs.length<=30:=by omega
  let K:Option L:=I (k:Int)
  obtain⟨v,l1,e1⟩:=fo (ns:=ns) (k:=f+(k:Int)) (by omega)
  obtain⟨r,w,l2,e2,okr,hh,ht⟩:=TY ok hl v
  let X:Option L:=some (.d (eZ r))
  have z1:Ak (J7 3 (AU Ee (AB (AE 3) (AB (Bf 0 Fq (AB (dOp CM (AE 1) (AE 4)) AI)) AI)))) (dGT (A6 (dN 5) (A6 (dN 6) C5))) (st rs K o5 o6)=some (.nx (st rs K X (I w))):=by
   refine BX (d:=.tuple [eZ r,.int w]) (τ1:=st rs K o5 o6) (lJ (i:=3) (xs:=rs.map eZ) rfl ?_ ?_ (hok rs K o5 o6 IP n5 n6)) ?_
   ·refine AZ (τ1:=bt rs K o5 o6) (rs:=[.d (.list (rs.map eZ)),.d (.int v)]) (ds:=[.list (rs.map eZ),.int v]) (acc (τ1:=bt rs K o5 o6) rfl (acc (τ1:=bt rs K o5 o6) (Kv (xs:=ns.map .int) (τ1:=bt rs K o5 o6) (rs:=[.d (.int (f+(k:Int)))]) (ds:=[.int (f+(k:Int))]) rfl rfl rfl e1) rfl)) rfl e2
   ·show(Ib (eZ r)&&(true&&true))=true
    rw[encZ.fix];rfl
   ·show(dN 5 (eZ r) (st rs K o5 o6)).bind _=_
    rw[HJ (o:=o5) rfl n5]
    show(dN 6 (.int w) (st rs K X o6)).bind _=_
    rw[HJ (o:=o6) rfl n6];rfl
  have z2:Ii 3 (AW (dOp (fIn true) (dOp Ag (AE 5) (dC (.int 0))) (dLC 1 [] (dIL (AE 3)) (dN 0) FD (dOp Ag (AE 0) (dC (.int 0)))))) (st rs K X (I w))=some (!decide (r.n∈rs.map (·.n)),st rs K X (I w)):=by
   let τd:=bt rs K X (I w)
   have lc:dLC 1 [] (dIL (AE 3)) (dN 0) FD (dOp Ag (AE 0) (dC (.int 0))) τd=some (.list ((rs.map (·.n)).map eT),τd):=by
    have:=lcg (enc:=eZ) (rs:=rs) (τ:=τd) (fr:=[]) (it:=dIL (AE 3)) (ex:=[]) (c:=FD) (e:=dOp Ag (AE 0) (dC (.int 0))) (fun _=>true) (fun r=>eT r.n) rfl (by omega) rfl rfl (fun r _=>rfl) (fun r _ _=>rfl)
    rw[this,HF,List.map_map];rfl
   exact eM (i:=3) (xs:=rs.map eZ) (τ1:=τd) rfl (tst (op2 (x:=eT r.n) (y:=.list ((rs.map (·.n)).map eT)) (τ1:=τd) (op2 (x:=eZ r) (y:=.int 0) (τ1:=τd) rfl rfl rfl) lc (km _ _))) (hok rs K X (I w) IP IP IP)
  by_cases hn:r.n∈rs.map (·.n)
  ·refine⟨st rs K o5 o6,st rs K X (I w),HJ (o:=o4) rfl n4,(AR z1).trans ((Cp (τ1:=st rs K X (I w)) (by rw[z2,decide_eq_true hn];rfl)).trans rfl),rs,K,X,I w,IP,IP,IP,ok,vt,by rw[List.length_append];omega,fun _=>by obtain⟨q,hq,_⟩:=List.mem_map.mp hn;exact List.length_pos_of_mem hq,rfl⟩
  ·have z3:CU (dMt 3 By (AB (AE 5) AI)) (st rs K X (I w))=some (.nx (st (rs++[r]) K X (I w))):=by
    refine(eB (i:=3) (d:=eZ r) (xs:=rs.map eZ) (τ1:=st rs K X (I w)) rfl rfl (by rw[List.length_map];omega)).trans ?_
    show some (Out.nx [C,I f,I m,some (.m (rs.map eZ++[eZ r])),K,X,I w])=_
    rw[show rs.map eZ++[eZ r]=(rs++[r]).map eZ by rw[List.map_append];rfl]
   have er:(rs++[r]).reverse=r::rs.reverse:=by simp
   refine⟨st rs K o5 o6,st (rs++[r]) K X (I w),HJ (o:=o4) rfl n4,(AR z1).trans ((M8 (τ1:=st rs K X (I w)) (by rw[z2,decide_eq_false hn];rfl)).trans z3),rs++[r],K,X,I w,IP,IP,IP,?_,?_,by rw[List.length_append,List.length_append];simp only[List.length_cons,List.length_nil];omega,fun _=>by rw[List.length_append];exact Nat.succ_pos _,rfl⟩
   ·show OkR (rs++[r]).reverse
    rw[er]
    exact⟨ok,okr,fun q hq z=>hn (List.mem_map.mpr ⟨q,List.mem_reverse.mp hq,z⟩),hh.imp id fun⟨q,hq,e,_⟩=>⟨q,List.mem_reverse.mpr hq,e⟩⟩
   ·rw[er]
    exact⟨vt,hh.imp id fun⟨q,hq,e,h4,h7⟩=>⟨q,List.mem_reverse.mpr hq,e,h4,h7⟩,fun h8 q hq=>ht h8 q (List.mem_reverse.mp hq)⟩
 obtain⟨τ',e,rs,o4,o5,o6,n4,n5,n6,ok,vt,hle,hpos,rfl⟩:=lp
 rw[<- Qn]at e
 rw[List.length_range]at hle hpos
 refine⟨rs,[.c (ns.map .int),.d (.int f),.d (.int m)],?_,ok,vt,by omega,fun h=>hpos (by omega)⟩
 unfold Fp
 refine A5 (τ:=st rs o4 o5 o6) ?_ rfl rfl
 exact(AR (τ1:=st [] none none none) rfl).trans ((AR ((Ht (Ss (n:=m) (τ1:=st [] none none none) rfl (by omega) (by omega))).trans e)).trans rfl)
theorem kY{ns:List Int}{a b:Int}:∃(c:Int) (ls:List L),JP [.c (ns.map .int),.d (.int a),.d (.int b)]=some (.int c,ls)/\(c=a\/c=b):=by
 obtain⟨v,e⟩:=Se (ns:=ns) (k:=1) (by decide)
 have d1:=EF (i:=v) (j:=1000003) (by decide)
 have d2:=EF (i:=v % 1000003) (j:=8) (by decide)
 by_cases h:v % 1000003 % 8=3
 ·have q:fEq (.int (v % 1000003 % 8)) (.int 3)=some (.bool true):=by rw[encI.fEq,decide_eq_true h]
  exact⟨b,[.c (ns.map .int),.d (.int a),.d (.int b)],by simp only[JP,e,d1,d2,q,Bc,Af,Ak,dN,Ax,BQ,BK,E1,AE,dC,dOp,fI,CM,EI,fLt,fLe,fGt,fGe,Ag,AW,AI,AB,Dl,BI,Bh,AU,Bf,B6,EA,EB,D1,Fw,DU,atI,ixN,sz',Option.bind_some,Option.map_some,List.map_cons,List.map_nil,List.cons_append,List.nil_append,List.length_cons,List.length_nil,List.getElem?_cons_zero,List.getElem?_cons_succ,List.set_cons_zero,List.set_cons_succ,List.replicate_succ,List.replicate_zero,if_true,if_false,reduceIte,Bool.false_eq_true,Nat.reduceAdd,Nat.reduceLT,Int.reduceAdd,Int.reduceLT,Int.reduceLE,Int.reduceToNat,Nat.reduceLeDiff,and_self,Int.toNat_zero,Int.le_refl,Int.natCast_add,Int.cast_ofNat_Int,Nat.zero_add],.inr rfl⟩
 ·have q:fEq (.int (v % 1000003 % 8)) (.int 3)=some (.bool false):=by rw[encI.fEq,decide_eq_false h]
  exact⟨a,[.c (ns.map .int),.d (.int a),.d (.int b)],by simp only[JP,e,d1,d2,q,Bc,Af,Ak,dN,Ax,BQ,BK,E1,AE,dC,dOp,fI,CM,EI,fLt,fLe,fGt,fGe,Ag,AW,AI,AB,Dl,BI,Bh,AU,Bf,B6,EA,EB,D1,Fw,DU,atI,ixN,sz',Option.bind_some,Option.map_some,List.map_cons,List.map_nil,List.cons_append,List.nil_append,List.length_cons,List.length_nil,List.getElem?_cons_zero,List.getElem?_cons_succ,List.set_cons_zero,List.set_cons_succ,List.replicate_succ,List.replicate_zero,if_true,if_false,reduceIte,Bool.false_eq_true,Nat.reduceAdd,Nat.reduceLT,Int.reduceAdd,Int.reduceLT,Int.reduceLE,Int.reduceToNat,Nat.reduceLeDiff,and_self,Int.toNat_zero,Int.le_refl,Int.natCast_add,Int.cast_ofNat_Int,Nat.zero_add],.inl rfl⟩
theorem ba{d1 d2:PyData}:∀(n:Nat) (a b:Int) (o:Option L),nM o->0<=a->0<=b->b.toNat<n->∃o',nM o' /\
  dWh (AW (dOp fNe (AE 3) (dC (.int 0)))) (Af (Ak (dOp Bn (AE 2) (AE 3)) (dN 4)) (Af (Ak (AE 3) (dN 2)) (Ak (AE 4) (dN 3)))) n [some (.d d1),some (.d d2),some (.d (.int a)),some (.d (.int b)),o]=some (.nx [some (.d d1),some (.d d2),some (.d (.int (gI a b))),some (.d (.int 0)),o'])
 |0,a,b,o,_,_,_,h=>absurd h (Nat.not_lt_zero _)
 |n+1,a,b,o,ho,ha,hb,h=>by
  let st:Int->Int->Option L->DS:=fun x y z=>[some (.d d1),some (.d d2),some (.d (.int x)),some (.d (.int y)),z]
  have t:AW (dOp fNe (AE 3) (dC (.int 0))) (st a b o)=some (!decide (b=0),st a b o):=by
   show(((fNe (.int b) (.int 0)).map fun d=>(d,st a b o)).bind _)=_
   rw[encI.fNe];rfl
  unfold dWh
  rw[show AW (dOp fNe (AE 3) (dC (.int 0))) [some (.d d1),some (.d d2),some (.d (.int a)),some (.d (.int b)),o]=some (!decide (b=0),st a b o) from t]
  by_cases hz:b=0
  ·subst hz
   exact⟨o,ho,by rw[fQ ha];rfl⟩
  ·have hp:0<b:=by omega
   have md:=Int.emod_lt_of_pos a hp
   have mn:=Int.emod_nonneg a (show b≠0 by omega)
   obtain⟨o',ho',e⟩:=ba (d1:=d1) (d2:=d2) n b (a % b) (some (.d (.int (a % b)))) IP hb mn (by omega)
   refine⟨o',ho',?_⟩
   rw[decide_eq_false hz]
   have bd:Af (Ak (dOp Bn (AE 2) (AE 3)) (dN 4)) (Af (Ak (AE 3) (dN 2)) (Ak (AE 4) (dN 3))) (st a b o)=some (.nx (st b (a % b) (some (.d (.int (a % b)))))):=by
    refine(AR (τ1:=st a b (some (.d (.int (a % b))))) (BX (d:=.int (a % b)) (τ1:=st a b o) ?_ (HJ rfl ho))).trans rfl
    show((Bn (.int a) (.int b)).map fun d=>(d,st a b o))=_
    rw[EF hp];rfl
   show((Af _ _ (st a b o)).bind _)=_
   rw[bd]
   show dWh _ _ n (st b (a % b) _)=_
   rw[<- jb ha hp]
   exact e
theorem dq{t b:Int}(hb:0<b):DY [.d (.int t),.d (.int b)]=some (.int (gI t b),[.d (.int t),.d (.int b)]):=by
 obtain⟨o,ho,e⟩:=ba (d1:=.int t) (d2:=.int b) (b.toNat+1) (Sd t) b none De (fk t) (by omega) (Nat.lt_succ_self _)
 rw[jc]at e
 unfold DY
 refine A5 (τ:=[some (.d (.int t)),some (.d (.int b)),some (.d (.int (gI t b))),some (.d (.int 0)),o]) ?_ rfl rfl
 refine(AR (τ1:=[some (.d (.int t)),some (.d (.int b)),some (.d (.int (Sd t))),none,none]) rfl).trans ?_
 refine(AR (τ1:=[some (.d (.int t)),some (.d (.int b)),some (.d (.int (Sd t))),some (.d (.int b)),none]) ?_).trans ?_
 ·have:Sd b=b:=jx (by omega)
  show some (Out.nx [_,_,_,some (.d (.int (Sd b))),_])=_
  rw[this]
 ·exact(AR e).trans rfl
theorem nI{s:Cl}(h:OkF s):gI s.1 s.2=1:=by
 obtain⟨t,b,hb,rfl⟩:=h.red
 have hg:0<Int.gcd t b:=Int.gcd_pos_of_ne_zero_right _ (by omega)
 show((Int.gcd (t / (Int.gcd t b:Nat)) (b / (Int.gcd t b:Nat)):Nat):Int)=1
 rw[Int.gcd_ediv_gcd_ediv_gcd hg];rfl
theorem iC(x:Int):GZ [.d (.int x)]=some (.bool true,[.d (.int x)]):=rfl
theorem Em{x a b:Int}(h1:a<=x)(h2:x<=b):Bg [.d (.int x),.d (.int a),.d (.int b)]=some (.bool true,[.d (.int x),.d (.int a),.d (.int b)]):=by
 simp only[Bg,iC,h1,h2,decide_true,Bc,Af,Ak,dN,QX,Oa,Ax,LF,RV,CU,dMt,By,Ml,QS,Vw,BQ,BK,eA,dz,GJ,Hv,E1,AE,dC,dOp,dUn,fI,CM,EI,fLt,fLe,fGt,fGe,O0,XD,VY,MB,JZ,Ag,AW,El,Hu,Ck,dIf,HL,dOr,SW,Fs,AI,AB,Dl,BI,Kq,Bh,AU,QZ,Bf,QY,dAS,mkL,nMb,isM,isC,J7,MH,Ii,FD,dIL,dIT,dR1,dR2,C5,A6,dGT,B6,EA,EB,D1,Dw,f1,f2,VZ,VX,VW,MC,FH,du,Ic,Fw,DU,atI,ixN,KR,Ul,Um,Uk,Ib,fixDs,sz',Option.bind_some,Option.bind_none,Option.map_some,Option.map_none,List.map_cons,List.map_nil,List.cons_append,List.nil_append,List.length_cons,List.length_nil,List.getElem?_cons_zero,List.getElem?_cons_succ,List.set_cons_zero,List.set_cons_succ,List.replicate_succ,List.replicate_zero,List.all_cons,List.all_nil,Bool.and_self,Bool.and_true,Bool.true_and,Bool.false_and,Bool.and_false,Bool.or_true,Bool.true_or,Bool.false_or,Bool.or_false,Bool.not_true,Bool.not_false,if_true,if_false,reduceIte,Bool.false_eq_true,Nat.reduceAdd,Nat.reduceLT,Nat.reduceSub,Nat.reduceMul,Int.reduceEq,Int.reduceSub,Int.reduceMul,Int.reducePow,Int.reduceDiv,Int.reduceMod,Nat.reduceLeDiff,Nat.reduceEqDiff,and_self,and_true,true_and,Int.natCast_add,Int.reduceAdd,Int.reduceLT,Int.reduceLE,Int.reduceToNat,Int.reduceNeg,Int.toNat_zero,Int.toNat_one,Int.zero_lt_one,Int.le_refl,Int.reduceNegSucc,Int.cast_ofNat_Int,Nat.zero_add,Nat.add_zero]
theorem Qp{x:Int}(h1:-60<=x)(h2:x<=60):DJ [.d (.int x)]=some (.bool true,[.d (.int x)]):=by
 have w:=Em h1 h2
 simp only[DJ,w,Bc,Af,Ak,dN,QX,Oa,Ax,LF,RV,CU,dMt,By,Ml,QS,Vw,BQ,BK,eA,dz,GJ,Hv,E1,AE,dC,dOp,dUn,fI,CM,EI,fLt,fLe,fGt,fGe,O0,XD,VY,MB,JZ,Ag,AW,El,Hu,Ck,dIf,HL,dOr,SW,Fs,AI,AB,Dl,BI,Kq,Bh,AU,QZ,Bf,QY,dAS,mkL,nMb,isM,isC,J7,MH,Ii,FD,dIL,dIT,dR1,dR2,C5,A6,dGT,B6,EA,EB,D1,Dw,f1,f2,VZ,VX,VW,MC,FH,du,Ic,Fw,DU,atI,ixN,KR,Ul,Um,Uk,Ib,fixDs,sz',Option.bind_some,Option.bind_none,Option.map_some,Option.map_none,List.map_cons,List.map_nil,List.cons_append,List.nil_append,List.length_cons,List.length_nil,List.getElem?_cons_zero,List.getElem?_cons_succ,List.set_cons_zero,List.set_cons_succ,List.replicate_succ,List.replicate_zero,List.all_cons,List.all_nil,Bool.and_self,Bool.and_true,Bool.true_and,Bool.false_and,Bool.and_false,Bool.or_true,Bool.true_or,Bool.false_or,Bool.or_false,Bool.not_true,Bool.not_false,if_true,if_false,reduceIte,Bool.false_eq_true,Nat.reduceAdd,Nat.reduceLT,Nat.reduceSub,Nat.reduceMul,Int.reduceEq,Int.reduceSub,Int.reduceMul,Int.reducePow,Int.reduceDiv,Int.reduceMod,Nat.reduceLeDiff,Nat.reduceEqDiff,and_self,and_true,true_and,Int.natCast_add,Int.reduceAdd,Int.reduceLT,Int.reduceLE,Int.reduceToNat,Int.reduceNeg,Int.toNat_zero,Int.toNat_one,Int.zero_lt_one,Int.le_refl,Int.reduceNegSucc,Int.cast_ofNat_Int,Nat.zero_add,Nat.add_zero]
theorem iQ{s:Cl}(h:OkF s):∃ls,Iy [.d (ec s)]=some (.bool true,ls):=by
 have b1:=h.b1
 have lo:=h.lo
 have hi:=h.hi
 have dv:=dq (t:=s.1) (b:=s.2) (by omega)
 rw[nI h]at dv
 let I:Int->Option L:=fun i=>some (.d (.int i))
 let τ:DS:=[some (.d (ec s)),I s.1,I s.2]
 refine⟨[.d (ec s)],?_⟩
 unfold Iy
 refine A5 (τ:=τ) ?_ rfl rfl
 refine(AR (τ1:=[some (.d (ec s)),none,none]) rfl).trans ((AR (τ1:=[some (.d (ec s)),I s.1,none]) rfl).trans ((AR (τ1:=τ) rfl).trans ((AR (τ1:=τ) rfl).trans (Bs ?_))))
 have c1:dOp fGe (AE 2) (dC (.int 1)) τ=some (.bool true,τ):=op2 (x:=.int s.2) (y:=.int 1) (τ1:=τ) rfl rfl (by show some (PyData.bool (decide (s.2≥1)))=_;rw[decide_eq_true (by omega)])
 have c2:Fs fLe fLe (dC (.int 0)) (AE 1) (AE 2) τ=some (.bool true,τ):=by
  simp only[τ,I,lo,hi,decide_true,Bc,Af,Ak,dN,QX,Oa,Ax,LF,RV,CU,dMt,By,Ml,QS,Vw,BQ,BK,eA,dz,GJ,Hv,E1,AE,dC,dOp,dUn,fI,CM,EI,fLt,fLe,fGt,fGe,O0,XD,VY,MB,JZ,Ag,AW,El,Hu,Ck,dIf,HL,dOr,SW,Fs,AI,AB,Dl,BI,Kq,Bh,AU,QZ,Bf,QY,dAS,mkL,nMb,isM,isC,J7,MH,Ii,FD,dIL,dIT,dR1,dR2,C5,A6,dGT,B6,EA,EB,D1,Dw,f1,f2,VZ,VX,VW,MC,FH,du,Ic,Fw,DU,atI,ixN,KR,Ul,Um,Uk,Ib,fixDs,sz',Option.bind_some,Option.bind_none,Option.map_some,Option.map_none,List.map_cons,List.map_nil,List.cons_append,List.nil_append,List.length_cons,List.length_nil,List.getElem?_cons_zero,List.getElem?_cons_succ,List.set_cons_zero,List.set_cons_succ,List.replicate_succ,List.replicate_zero,List.all_cons,List.all_nil,Bool.and_self,Bool.and_true,Bool.true_and,Bool.false_and,Bool.and_false,Bool.or_true,Bool.true_or,Bool.false_or,Bool.or_false,Bool.not_true,Bool.not_false,if_true,if_false,reduceIte,Bool.false_eq_true,Nat.reduceAdd,Nat.reduceLT,Nat.reduceSub,Nat.reduceMul,Int.reduceEq,Int.reduceSub,Int.reduceMul,Int.reducePow,Int.reduceDiv,Int.reduceMod,Nat.reduceLeDiff,Nat.reduceEqDiff,and_self,and_true,true_and,Int.natCast_add,Int.reduceAdd,Int.reduceLT,Int.reduceLE,Int.reduceToNat,Int.reduceNeg,Int.toNat_zero,Int.toNat_one,Int.zero_lt_one,Int.le_refl,Int.reduceNegSucc,Int.cast_ofNat_Int,Nat.zero_add,Nat.add_zero]
 have c3:dOp fEq (AU DY (AB (AE 1) (AB (AE 2) AI))) (dC (.int 1)) τ=some (.bool true,τ):=op2 (x:=.int 1) (y:=.int 1) (τ1:=τ) (AZ (τ1:=τ) (rs:=[.d (.int s.1),.d (.int s.2)]) (ds:=[.int s.1,.int s.2]) rfl rfl dv) rfl (by rw[encI.fEq,decide_eq_true rfl])
 exact(Mw c1).trans ((Mw c2).trans c3)
theorem Qa{s:Cl}(h:OkF s):∃ls,CL [.d (ec s)]=some (.bool true,ls):=by
 obtain⟨l1,e1⟩:=iQ h
 have b2:=h.b2
 let τ:DS:=[some (.d (ec s))]
 refine⟨[.d (ec s)],?_⟩
 unfold CL
 refine A5 (τ:=τ) (Bs ((Mw (AZ (τ1:=τ) (ds:=[ec s]) rfl rfl e1)).trans (op2 (x:=.int s.2) (y:=.int 1000) (τ1:=τ) rfl rfl ?_))) rfl rfl
 show some (PyData.bool (decide (s.2<=1000)))=_
 rw[decide_eq_true b2]
theorem Qq{a b:Cl}(ha:OkF a)(hb:OkF b):∃ls,DK [.d (ec a),.d (ec b)]=some (.bool true,ls):=by
 obtain⟨l1,e1⟩:=Qa ha
 obtain⟨l2,e2⟩:=Qa hb
 let τ:DS:=[some (.d (ec a)),some (.d (ec b))]
 refine⟨[.d (ec a),.d (ec b)],?_⟩
 unfold DK
 exact A5 (τ:=τ) (Bs ((Mw (AZ (τ1:=τ) (ds:=[ec a]) rfl rfl e1)).trans (AZ (τ1:=τ) (ds:=[ec b]) rfl rfl e2))) rfl rfl
def inB(al:Str)(c:Nat):Bool:=match dm (.str ⟨#[c]⟩) (.str al) with
 |some (.bool b)=>b
 |_=>false
theorem nH{al:Str}{c:Nat}(h:inB al c=true):dm (.str ⟨#[c]⟩) (.str al)=some (.bool true):=by
 unfold inB at h
 split at h
 ·rename_i b e;rw[e,h]
 ·cases h
theorem om:∀c∈alN.cps.toList,inB alN c=true:=∅
theorem oj:∀c∈alS.cps.toList,inB alS c=true:=∅
theorem oC:∀c∈alW.cps.toList,(So Lr ⟨#[c]⟩).isSome=true:=∅
theorem fh{α:Type}:∀l:List α,Li (l.map fun _=>PyData.bool true)=some (l.map fun _=>true)
 |[]=>rfl
 |a::l=>by
  rw[List.map_cons,Li,fh l];rfl
theorem fj{α:Type}(l:List α):TH [.list (l.map fun _=>PyData.bool true)]=some (.bool true):=by
 show(Li (l.map fun _=>PyData.bool true)).map _=_
 rw[fh]
 show some (PyData.bool ((l.map fun _=>true).all id))=_
 rw[show((l.map fun _=>true).all id)=true by simp]
def eC(c:Nat):PyData:=.str ⟨#[c]⟩
theorem ZZ{t:Tx}(h:t.1.length<=100):Dw [eT t]=some (.int (t.1.length:Nat)):=by
 show(if t.1.length<=sizeLine then _ else _)=_
 rw[if_pos (sz (by omega))]
theorem UZ{al:Str}{t:Tx}{lo hi:Int}(ha:KZ al t.1)(hal:∀c∈al.cps.toList,inB al c=true)(h1:lo<=(t.1.length:Nat))(h2:((t.1.length:Nat):Int)<=hi)(hz:t.1.length<=100) :
  ∃ls,DH [.d (eT t),.d (.str al),.d (.int lo),.d (.int hi)]=some (.bool true,ls):=by
 let A:Option L:=some (.d (.str al))
 let τ:DS:=[some (.d (eT t)),A,some (.d (.int lo)),some (.d (.int hi))]
 refine⟨[.d (eT t),.d (.str al),.d (.int lo),.d (.int hi)],?_⟩
 unfold DH
 refine A5 (τ:=τ) ?_ rfl rfl
 have ln:Bh Dw (AB (AE 0) AI) τ=some (.int (t.1.length:Nat),τ):=Mv (d:=eT t) (τ1:=τ) rfl (ZZ hz)
 have c1:Ck (AW (Fs fLe fLe (AE 2) (Bh Dw (AB (AE 0) AI)) (AE 3))) τ=some (false,τ):=by
  refine ND (b:=true) (tst ?_)
  unfold Fs
  show((Bh Dw (AB (AE 0) AI) τ).bind _)=_
  rw[ln]
  simp only[τ,A,h1,h2,decide_true,Bc,Af,Ak,dN,QX,Oa,Ax,LF,RV,CU,dMt,By,Ml,QS,Vw,BQ,BK,eA,dz,GJ,Hv,E1,AE,dC,dOp,dUn,fI,CM,EI,fLt,fLe,fGt,fGe,O0,XD,VY,MB,JZ,Ag,AW,El,Hu,Ck,dIf,HL,dOr,SW,Fs,AI,AB,Dl,BI,Kq,Bh,AU,QZ,Bf,QY,dAS,mkL,nMb,isM,isC,J7,MH,Ii,FD,dIL,dIT,dR1,dR2,C5,A6,dGT,B6,EA,EB,D1,Dw,f1,f2,VZ,VX,VW,MC,FH,du,Ic,Fw,DU,atI,ixN,KR,Ul,Um,Uk,Ib,fixDs,sz',Option.bind_some,Option.bind_none,Option.map_some,Option.map_none,List.map_cons,List.map_nil,List.cons_append,List.nil_append,List.length_cons,List.length_nil,List.getElem?_cons_zero,List.getElem?_cons_succ,List.set_cons_zero,List.set_cons_succ,List.replicate_succ,List.replicate_zero,List.all_cons,List.all_nil,Bool.and_self,Bool.and_true,Bool.true_and,Bool.false_and,Bool.and_false,Bool.or_true,Bool.true_or,Bool.false_or,Bool.or_false,Bool.not_true,Bool.not_false,if_true,if_false,reduceIte,Bool.false_eq_true,Nat.reduceAdd,Nat.reduceLT,Nat.reduceSub,Nat.reduceMul,Int.reduceEq,Int.reduceSub,Int.reduceMul,Int.reducePow,Int.reduceDiv,Int.reduceMod,Nat.reduceLeDiff,Nat.reduceEqDiff,and_self,and_true,true_and,Int.natCast_add,Int.reduceAdd,Int.reduceLT,Int.reduceLE,Int.reduceToNat,Int.reduceNeg,Int.toNat_zero,Int.toNat_one,Int.zero_lt_one,Int.le_refl,Int.reduceNegSucc,Int.cast_ofNat_Int,Nat.zero_add,Nat.add_zero]
 refine(AR (τ1:=τ) ((Cp (τ1:=τ) (Qr (τ1:=τ) rfl c1)).trans rfl)).trans (Bs ?_)
 have lc:dLC 1 [1] (dIS (AE 0)) (dN 0) FD (dOp dm (AE 0) (AE 1)) τ=some (.list (t.1.cps.toList.map fun _=>PyData.bool true),τ):=by
  have := lcg (enc := eC) (rs := t.1.cps.toList) (τ := τ) (fr := [1]) (it := dIS (AE 0)) (ex := [A]) (c := FD) (e := dOp dm (AE 0) (AE 1)) (fun _ => true) (fun _ => .bool true) rfl (by show t.1.length <= 1000; omega) rfl rfl (fun r _ => rfl) (fun c hc _ =>
   op2 (x:=eC c) (y:=.str al) (τ1:=[some (.d (eC c)),A]) rfl rfl (nH (hal c (ha c hc))))
  rw[this,HF]
 exact Mv lc (fj _)
theorem VE{t:Tx}(ha:KZ alN t.1)(h1:1<=t.1.length)(h2:t.1.length<=8):∃ls,GD [.d (eT t)]=some (.bool true,ls):=by
 obtain⟨l1,e1⟩:=UZ (lo:=1) (hi:=8) ha om (by omega) (by omega) (by omega)
 refine⟨[.d (eT t)],?_⟩
 unfold GD
 exact A5 (τ:=[some (.d (eT t))]) (Bs (AZ (τ1:=[some (.d (eT t))]) (rs:=[.d (eT t),.d (.str alN),.d (.int 1),.d (.int 8)]) (ds:=[eT t,.str alN,.int 1,.int 8]) rfl rfl e1)) rfl rfl
theorem YS{t:Tx}(ha:KZ alW t.1)(h2:t.1.length<=6):∃ls,FU [.d (eT t)]=some (.bool true,ls):=by
 let τ:DS:=[some (.d (eT t))]
 refine⟨[.d (eT t)],?_⟩
 unfold FU
 refine A5 (τ:=τ) ?_ rfl rfl
 have c1:AW (dOp fGt (Bh Dw (AB (AE 0) AI)) (dC (.int 6))) τ=some (false,τ):=by
  refine tst (op2 (x:=.int (t.1.length:Nat)) (y:=.int 6) (τ1:=τ) (Mv (d:=eT t) (τ1:=τ) rfl (ZZ (by omega))) rfl ?_)
  show some (PyData.bool (decide (((t.1.length:Nat):Int)>6)))=_
  rw[decide_eq_false (by omega)]
 refine(AR (τ1:=τ) ((Cp (τ1:=τ) (Qr (τ1:=τ) rfl c1)).trans rfl)).trans (Bs ?_)
 have sg:∀c∈t.1.cps.toList,H0 [.d (eC c)]=some (.bool true,[.d (eC c)]):=fun c hc=>by
  unfold H0
  refine A5 (τ:=[some (.d (eC c))]) (Bs ?_) rfl rfl
  show some (PyData.bool (So Lr ⟨#[c]⟩).isSome,_)=_
  rw[oC c (ha c hc)];rfl
 have lc:dLC 1 [] (dIS (AE 0)) (dN 0) FD (AU H0 (AB (AE 0) AI)) τ=some (.list (t.1.cps.toList.map fun _=>PyData.bool true),τ):=by
  have := lcg (enc := eC) (rs := t.1.cps.toList) (τ := τ) (fr := []) (it := dIS (AE 0)) (ex := []) (c := FD) (e := AU H0 (AB (AE 0) AI)) (fun _ => true) (fun _ => .bool true) rfl (by show t.1.length <= 1000; omega) rfl rfl (fun r _ => rfl) (fun c hc _ =>
   AZ (τ1:=[some (.d (eC c))]) (ds:=[eC c]) rfl rfl (sg c hc))
  rw[this,HF]
 exact Mv lc (fj _)
theorem Ta{R:List Tx}{w:Nat}(r1:1<=R.length)(r8:R.length<=8)(w1:1<=w)(w8:w<=8)(h:∀r∈R,r.1.length=w/\KZ alS r.1):∃ls,DZ [.d (.tuple (R.map eT))]=some (.bool true,ls):=by
 let D:Option L:=some (.d (.tuple (R.map eT)))
 let τ:DS:=[D]
 refine⟨[.d (.tuple (R.map eT))],?_⟩
 unfold DZ
 refine A5 (τ:=τ) ?_ rfl rfl
 have hn:(1:Int)<=(R.length:Nat):=by omega
 have hn8:((R.length:Nat):Int)<=8:=by omega
 have ln:Bh Dw (AB (AE 0) AI) τ=some (.int (R.length:Nat),τ):=Mv (d:=.tuple (R.map eT)) (τ1:=τ) rfl (by show some (PyData.int ((R.map eT).length:Nat))=_;rw[List.length_map])
 have c1:Ck (AW (Fs fLe fLe (dC (.int 1)) (Bh Dw (AB (AE 0) AI)) (dC (.int 8)))) τ=some (false,τ):=by
  refine ND (b:=true) (tst ?_)
  unfold Fs
  rw[show dC (.int 1) τ=some (.int 1,τ) from rfl]
  dsimp only[Option.bind]
  rw[ln]
  simp only[hn,hn8,decide_true,Bc,Af,Ak,dN,QX,Oa,Ax,LF,RV,CU,dMt,By,Ml,QS,Vw,BQ,BK,eA,dz,GJ,Hv,E1,AE,dC,dOp,dUn,fI,CM,EI,fLt,fLe,fGt,fGe,O0,XD,VY,MB,JZ,Ag,AW,El,Hu,Ck,dIf,HL,dOr,SW,Fs,AI,AB,Dl,BI,Kq,Bh,AU,QZ,Bf,QY,dAS,mkL,nMb,isM,isC,J7,MH,Ii,FD,dIL,dIT,dR1,dR2,C5,A6,dGT,B6,EA,EB,D1,Dw,f1,f2,VZ,VX,VW,MC,FH,du,Ic,Fw,DU,atI,ixN,KR,Ul,Um,Uk,Ib,fixDs,sz',Option.bind_some,Option.bind_none,Option.map_some,Option.map_none,List.map_cons,List.map_nil,List.cons_append,List.nil_append,List.length_cons,List.length_nil,List.getElem?_cons_zero,List.getElem?_cons_succ,List.set_cons_zero,List.set_cons_succ,List.replicate_succ,List.replicate_zero,List.all_cons,List.all_nil,Bool.and_self,Bool.and_true,Bool.true_and,Bool.false_and,Bool.and_false,Bool.or_true,Bool.true_or,Bool.false_or,Bool.or_false,Bool.not_true,Bool.not_false,if_true,if_false,reduceIte,Bool.false_eq_true,Nat.reduceAdd,Nat.reduceLT,Nat.reduceSub,Nat.reduceMul,Int.reduceEq,Int.reduceSub,Int.reduceMul,Int.reducePow,Int.reduceDiv,Int.reduceMod,Nat.reduceLeDiff,Nat.reduceEqDiff,and_self,and_true,true_and,Int.natCast_add,Int.reduceAdd,Int.reduceLT,Int.reduceLE,Int.reduceToNat,Int.reduceNeg,Int.toNat_zero,Int.toNat_one,Int.zero_lt_one,Int.le_refl,Int.reduceNegSucc,Int.cast_ofNat_Int,Nat.zero_add,Nat.add_zero]
 have lc:dLC 1 [] (dIT (AE 0)) (dN 0) FD (AU DH (AB (AE 0) (AB (dC (.str "#.")) (AB (dC (.int 1)) (AB (dC (.int 8)) AI))))) τ=some (.list (R.map fun _=>PyData.bool true),τ):=by
  have := lcg (enc := eT) (rs := R) (τ := τ) (fr := []) (it := dIT (AE 0)) (ex := []) (c := FD) (e := AU DH (AB (AE 0) (AB (dC (.str "#.")) (AB (dC (.int 1)) (AB (dC (.int 8)) AI))))) (fun _ => true) (fun _ => .bool true) rfl (by omega) rfl rfl (fun r _ => rfl) (fun r hr _ => by
   obtain⟨h1,h2⟩:=h r hr
   obtain⟨l1,e1⟩:=UZ (lo:=1) (hi:=8) h2 oj (by omega) (by omega) (by omega)
   exact AZ (τ1:=[some (.d (eT r))]) (rs:=[.d (eT r),.d (.str alS),.d (.int 1),.d (.int 8)]) (ds:=[eT r,.str alS,.int 1,.int 8]) rfl rfl e1)
  rw[this,HF]
 have lc2:dLC 1 [0] (dIT (AE 0)) (dN 0) FD (dOp fEq (Bh Dw (AB (AE 0) AI)) (Bh Dw (AB (dOp Ag (AE 1) (dC (.int 0))) AI))) τ=some (.list (R.map fun _=>PyData.bool true),τ):=by
  obtain⟨z,zs,rfl⟩:∃z zs,R=z::zs:=by
   cases R with
   |nil=>simp at r1
   |cons z zs=>exact⟨z,zs,rfl⟩
  have := lcg (enc := eT) (rs := z :: zs) (τ := τ) (fr := [0]) (it := dIT (AE 0)) (ex := [D]) (c := FD) (e := dOp fEq (Bh Dw (AB (AE 0) AI)) (Bh Dw (AB (dOp Ag (AE 1) (dC (.int 0))) AI))) (fun _ => true) (fun _ => .bool true) rfl (by omega) rfl rfl (fun r _ => rfl) (fun r hr _ => by
   have h1:=(h r hr).1
   have h2:=(h z List.mem_cons_self).1
   let t:DS:=[some (.d (eT r)),D]
   obtain⟨a,ea,ha2⟩:=Gn (enc:=eT) (xs:=z::zs) (k:=0) (by decide) (by simp only[List.length_cons];omega)
   cases (Option.some.inj ha2)
   refine op2 (x:=.int (r.1.length:Nat)) (y:=.int (z.1.length:Nat)) (τ1:=t) (Mv (d:=eT r) (τ1:=t) rfl (ZZ (by omega))) (Mv (d:=eT z) (τ1:=t) (op2 (x:=.tuple ((z::zs).map eT)) (y:=.int 0) (τ1:=t) rfl rfl ea) (ZZ (by omega))) ?_
   rw[encI.fEq,h1,h2,decide_eq_true rfl])
  rw[this,HF]
 have c2:Ck (AW (Bh TH (AB (dLC 1 [] (dIT (AE 0)) (dN 0) FD (AU DH (AB (AE 0) (AB (dC (.str "#.")) (AB (dC (.int 1)) (AB (dC (.int 8)) AI)))))) AI))) τ=some (false,τ):=ND (b:=true) (tst (Mv lc (fj _)))
 exact(AR (τ1:=τ) ((Cp (τ1:=τ) (Qr (τ1:=τ) rfl c1)).trans rfl)).trans ((AR (τ1:=τ) ((Cp (τ1:=τ) c2).trans rfl)).trans (Bs (Mv lc2 (fj _))))
def GF:Nat->Mir
 |0=>Hq
 |1=>Iz
 |2=>Iu
 |3=>Fn
 |4=>Hs
 |5=>Hr
 |6=>GY
 |7=>Iv
 |8=>Gb
 |_=>Hs
theorem iK{i:Nat}(hi:i<10):∀{l:List Nat},i∈l->(∀j∈l,j<10)->IK (l.map fun j=>((kS j).1,GF j)) (kS i).1=some (GF i)
 |[],h,_=>by cases h
 |j::l,h,hl=>by
  rw[List.map_cons,IK]
  by_cases e:j=i
  ·subst e;rw[if_pos rfl]
  ·rw[if_neg fun z=>e (LV (hl j List.mem_cons_self) hi (Subtype.ext z))]
   rcases List.mem_cons.mp h with z|z
   ·exact absurd z.symm e
   ·exact iK hi z fun k hk=>hl k (List.mem_cons_of_mem _ hk)
theorem ten{i:Nat}(hi:i<10):i∈[0,1,2,3,4,5,6,7,8,9]:=by
 have:∀i:Fin 10,i.1∈[0,1,2,3,4,5,6,7,8,9]:=by decide
 exact this ⟨i,hi⟩
theorem aM{i:Nat}(hi:i<10):IK Hw (kS i).1=some (GF i):=iK (l:=[0,1,2,3,4,5,6,7,8,9]) hi (ten hi) (by decide)
theorem kq(d:Dz)(ok:WE d):∃ls,GF (kz d) [.d (eD d)]=some (.bool true,ls):=by
 cases d with
 |plate w h a b =>
  obtain⟨w0,w1,h0,h1,oa,ob⟩:=ok
  obtain⟨lp,ep⟩:=Qq oa ob
  have e1:=Em w0 w1
  have e2:=Em h0 h1
  let τ:DS:=[some (.d (eD (.plate w h a b)))]
  refine⟨[.d (eD (.plate w h a b))],?_⟩
  show Hq _=_
  unfold Hq
  refine A5 (τ:=τ) ?_ rfl rfl
  have c:=ND (tst (AZ (G:=DK) (a:=AB (dOp Ag (AE 0) (dC (.int 2))) (AB (dOp Ag (AE 0) (dC (.int 3))) AI)) (τ:=τ) (τ1:=τ) (rs:=[.d (ec a),.d (ec b)]) (ds:=[ec a,ec b]) rfl rfl ep))
  refine(AR (τ1:=τ) ((Cp (τ1:=τ) (Qr (τ1:=τ) rfl c)).trans rfl)).trans (Bs ?_)
  exact(Mw (AZ (τ1:=τ) (rs:=[.d (.int w),.d (.int 1),.d (.int 12)]) (ds:=[.int w,.int 1,.int 12]) rfl rfl e1)).trans (AZ (τ1:=τ) (rs:=[.d (.int h),.d (.int 1),.d (.int 12)]) (ds:=[.int h,.int 1,.int 12]) rfl rfl e2)
 |band w h a b =>
  obtain⟨w0,w1,h0,h1,oa,ob⟩:=ok
  obtain⟨lp,ep⟩:=Qq oa ob
  have e1:=Em w0 w1
  have e2:=Em h0 h1
  let τ:DS:=[some (.d (eD (.band w h a b)))]
  refine⟨[.d (eD (.band w h a b))],?_⟩
  show Iz _=_
  unfold Iz
  refine A5 (τ:=τ) ?_ rfl rfl
  have c:=ND (tst (AZ (G:=DK) (a:=AB (dOp Ag (AE 0) (dC (.int 2))) (AB (dOp Ag (AE 0) (dC (.int 3))) AI)) (τ:=τ) (τ1:=τ) (rs:=[.d (ec a),.d (ec b)]) (ds:=[ec a,ec b]) rfl rfl ep))
  refine(AR (τ1:=τ) ((Cp (τ1:=τ) (Qr (τ1:=τ) rfl c)).trans rfl)).trans (Bs ?_)
  exact(Mw (AZ (τ1:=τ) (rs:=[.d (.int w),.d (.int (-12)),.d (.int 12)]) (ds:=[.int w,.int (-12),.int 12]) rfl rfl e1)).trans (AZ (τ1:=τ) (rs:=[.d (.int h),.d (.int (-12)),.d (.int 12)]) (ds:=[.int h,.int (-12),.int 12]) rfl rfl e2)
 |word t a b =>
  obtain⟨h6,ha,oa,ob⟩:=ok
  obtain⟨lp,ep⟩:=Qq oa ob
  obtain⟨lt,et⟩:=YS ha h6
  let τ:DS:=[some (.d (eD (.word t a b)))]
  refine⟨[.d (eD (.word t a b))],?_⟩
  show Iu _=_
  unfold Iu
  refine A5 (τ:=τ) (Bs ?_) rfl rfl
  exact(Mw (τ1:=τ) rfl).trans ((Mw (AZ (τ1:=τ) (rs:=[.d (eT t)]) (ds:=[eT t]) rfl rfl et)).trans (AZ (τ1:=τ) (rs:=[.d (ec a),.d (ec b)]) (ds:=[ec a,ec b]) rfl rfl ep))
 |stencil R a b =>
  obtain⟨r1,r8,⟨w,w1,w8,hr⟩,oa,ob⟩:=ok
  obtain⟨lp,ep⟩:=Qq oa ob
  obtain⟨lt,et⟩:=Ta r1 r8 w1 w8 hr
  let τ:DS:=[some (.d (eD (.stencil R a b)))]
  refine⟨[.d (eD (.stencil R a b))],?_⟩
  show Fn _=_
  unfold Fn
  refine A5 (τ:=τ) (Bs ?_) rfl rfl
  exact(Mw (τ1:=τ) rfl).trans ((Mw (AZ (τ1:=τ) (rs:=[.d (.tuple (R.map eT))]) (ds:=[.tuple (R.map eT)]) rfl rfl et)).trans (AZ (τ1:=τ) (rs:=[.d (ec a),.d (ec b)]) (ds:=[ec a,ec b]) rfl rfl ep))
 |group=>exact⟨_,rfl⟩
 |mask=>exact⟨_,rfl⟩
 |glass a =>
  obtain⟨lb,eb⟩:=Qa (show OkF a from ok)
  let τ:DS:=[some (.d (eD (.glass a)))]
  refine⟨[.d (eD (.glass a))],?_⟩
  show Hr _=_
  unfold Hr
  exact A5 (τ:=τ) (Bs ((Mw (τ1:=τ) rfl).trans (AZ (τ1:=τ) (rs:=[.d (ec a)]) (ds:=[ec a]) rfl rfl eb))) rfl rfl
 |window w h x y =>
  obtain⟨w0,w1,h0,h1,x0,x1,y0,y1⟩:=ok
  have e1:=Em w0 w1
  have e2:=Em h0 h1
  have e3:=Qp x0 x1
  have e4:=Qp y0 y1
  let τ:DS:=[some (.d (eD (.window w h x y)))]
  refine⟨[.d (eD (.window w h x y))],?_⟩
  show GY _=_
  unfold GY
  refine A5 (τ:=τ) ?_ rfl rfl
  have c1:=ND (tst (AZ (G:=DJ) (a:=AB (dOp Ag (AE 0) (dC (.int 2))) AI) (τ:=τ) (τ1:=τ) (rs:=[.d (.int x)]) (ds:=[.int x]) rfl rfl e3))
  have c2:=ND (tst (AZ (G:=DJ) (a:=AB (dOp Ag (AE 0) (dC (.int 3))) AI) (τ:=τ) (τ1:=τ) (rs:=[.d (.int y)]) (ds:=[.int y]) rfl rfl e4))
  refine(AR (τ1:=τ) ((Cp (τ1:=τ) (Qr (τ1:=τ) rfl (Qr c1 c2))).trans rfl)).trans (Bs ?_)
  exact(Mw (AZ (τ1:=τ) (rs:=[.d (.int w),.d (.int 1),.d (.int 16)]) (ds:=[.int w,.int 1,.int 16]) rfl rfl e1)).trans (AZ (τ1:=τ) (rs:=[.d (.int h),.d (.int 1),.d (.int 16)]) (ds:=[.int h,.int 1,.int 16]) rfl rfl e2)
 |turn q f =>
  obtain⟨q0,q1⟩:=ok
  have e1:=Em q0 q1
  let τ:DS:=[some (.d (eD (.turn q f)))]
  refine⟨[.d (eD (.turn q f))],?_⟩
  show Iv _=_
  unfold Iv
  exact A5 (τ:=τ) (Bs ((Mw (τ1:=τ) rfl).trans ((Mw (AZ (τ1:=τ) (rs:=[.d (.int q),.d (.int 0),.d (.int 3)]) (ds:=[.int q,.int 0,.int 3]) rfl rfl e1)).trans rfl))) rfl rfl
 |tiles a b x y =>
  obtain⟨a0,a1,b0,b1,x0,x1,y0,y1⟩:=ok
  have e1:=Em a0 a1
  have e2:=Em b0 b1
  have e3:=Em x0 x1
  have e4:=Em y0 y1
  let τ:DS:=[some (.d (eD (.tiles a b x y)))]
  refine⟨[.d (eD (.tiles a b x y))],?_⟩
  show Gb _=_
  unfold Gb
  refine A5 (τ:=τ) ?_ rfl rfl
  have c1:=ND (tst (AZ (G:=Bg) (a:=AB (dOp Ag (AE 0) (dC (.int 0))) (AB (dC (.int 1)) (AB (dC (.int 3)) AI))) (τ:=τ) (τ1:=τ) (rs:=[.d (.int a),.d (.int 1),.d (.int 3)]) (ds:=[.int a,.int 1,.int 3]) rfl rfl e1))
  have c2:=ND (tst (AZ (G:=Bg) (a:=AB (dOp Ag (AE 0) (dC (.int 1))) (AB (dC (.int 1)) (AB (dC (.int 3)) AI))) (τ:=τ) (τ1:=τ) (rs:=[.d (.int b),.d (.int 1),.d (.int 3)]) (ds:=[.int b,.int 1,.int 3]) rfl rfl e2))
  refine(AR (τ1:=τ) ((Cp (τ1:=τ) (Qr (τ1:=τ) rfl (Qr c1 c2))).trans rfl)).trans (Bs ?_)
  exact(Mw (AZ (τ1:=τ) (rs:=[.d (.int x),.d (.int (-20)),.d (.int 20)]) (ds:=[.int x,.int (-20),.int 20]) rfl rfl e3)).trans (AZ (τ1:=τ) (rs:=[.d (.int y),.d (.int (-20)),.d (.int 20)]) (ds:=[.int y,.int (-20),.int 20]) rfl rfl e4)
theorem dh(d:Dz)(ok:WE d):∃ls,KC [.d (eT (kS (kz d))),.d (eD d)]=some (.bool true,ls):=by
 obtain⟨lf,ef⟩:=kq d ok
 let τ:DS:=[some (.d (eT (kS (kz d)))),some (.d (eD d))]
 refine⟨[.d (eT (kS (kz d))),.d (eD d)],?_⟩
 unfold KC
 refine A5 (τ:=τ) (Bs ?_) rfl rfl
 have c2:jh Hw (AE 0) τ=some (.bool true,τ):=by
  show some (PyData.bool (IK Hw (kS (kz d)).1).isSome,τ)=_
  rw[aM (M7 d)];rfl
 have c3:Ic "tuple" (AE 1) τ=some (.bool true,τ):=by cases d<;>rfl
 have c4:Vx Hw (AE 0) (AB (AE 1) AI) τ=some (.bool true,τ):=by
  show((IK Hw (kS (kz d)).1).bind fun G=>AU G (AB (AE 1) AI) τ)=_
  rw[aM (M7 d)]
  exact AZ (G:=GF (kz d)) (a:=AB (AE 1) AI) (τ:=τ) (τ1:=τ) (rs:=[.d (eD d)]) (ds:=[eD d]) rfl rfl ef
 exact(Mw (τ1:=τ) rfl).trans ((Mw c2).trans ((Mw c3).trans c4))
structure OkN(t:Tx):Prop where
 n1:1<=t.1.length
 n8:t.1.length<=8
 na:KZ alN t.1
theorem YA{r:Rz}(ok:OkRow r)(hh:r.h=t0\/OkN r.h):∃ls,HY [.d (eZ r)]=some (.bool true,ls):=by
 obtain⟨l1,e1⟩:=VE ok.na ok.n1 ok.n8
 obtain⟨l2,e2⟩:=dh r.d ok.d
 have e3:=Qp ok.x0 ok.x1
 have e4:=Qp ok.y0 ok.y1
 let τ:DS:=[some (.d (eZ r))]
 refine⟨[.d (eZ r)],?_⟩
 unfold HY
 refine A5 (τ:=τ) ?_ rfl rfl
 have c1:=ND (tst (AZ (G:=GD) (a:=AB (AU Be (AB (AE 0) AI)) AI) (τ:=τ) (τ1:=τ) (rs:=[.d (eT r.n)]) (ds:=[eT r.n]) rfl rfl e1))
 have c2:El (AW (dOp fNe (AU Av (AB (AE 0) AI)) (dC (.str "")))) (Ck (AW (AU GD (AB (AU Av (AB (AE 0) AI)) AI)))) τ=some (false,τ):=by
  have t1:AW (dOp fNe (AU Av (AB (AE 0) AI)) (dC (.str ""))) τ=some (!decide (r.h=t0),τ):=tst (op2 (x:=eT r.h) (y:=eT t0) (τ1:=τ) rfl rfl (kr _ _))
  by_cases h:r.h=t0
  ·rw[decide_eq_true h]at t1
   unfold El
   rw[t1];rfl
  ·have hn:=hh.resolve_left h
   obtain⟨l3,e5⟩:=VE hn.na hn.n1 hn.n8
   rw[decide_eq_false h]at t1
   exact(ck t1 (ND (tst (AZ (G:=GD) (a:=AB (AU Av (AB (AE 0) AI)) AI) (τ:=τ) (τ1:=τ) (rs:=[.d (eT r.h)]) (ds:=[eT r.h]) rfl rfl e5)))).trans rfl
 have c3:=ND (tst (AZ (G:=DJ) (a:=AB (AU RA (AB (AE 0) AI)) AI) (τ:=τ) (τ1:=τ) (rs:=[.d (.int r.x)]) (ds:=[.int r.x]) rfl rfl e3))
 have c4:=ND (tst (AZ (G:=DJ) (a:=AB (AU Q9 (AB (AE 0) AI)) AI) (τ:=τ) (τ1:=τ) (rs:=[.d (.int r.y)]) (ds:=[.int r.y]) rfl rfl e4))
 refine(AR (τ1:=τ) rfl).trans ((AR (τ1:=τ) ((Cp (τ1:=τ) c1).trans rfl)).trans ((AR (τ1:=τ) ((Cp (τ1:=τ) c2).trans rfl)).trans ((AR (τ1:=τ) ((Cp (τ1:=τ) (Qr c3 c4)).trans rfl)).trans (Bs ?_))))
 exact(Mw (τ1:=τ) rfl).trans (AZ (τ1:=τ) (rs:=[.d (eT (kS (kz r.d))),.d (eD r.d)]) (ds:=[eT (kS (kz r.d)),eD r.d]) rfl rfl e2)
def U(rs:List Rz):Prop:=∀r∈rs,∀q∈rs,r.n=q.n->r=q
theorem OkZ.u{rs:List Rz}(ok:OkZ rs):U rs:=fun r hr q hq e=>OkR.inj ok r (List.mem_reverse.mpr hr) q (List.mem_reverse.mpr hq) e
theorem gq{rs:List Rz}(ok:U rs){r:Rz}(hr:r∈rs):IW rs r.n=some r:=by
 unfold IW
 cases e:rs.find? fun q=>decide (q.n=r.n) with
 |none=>exact absurd (List.find?_eq_none.mp e r hr) (by simp)
 |some q =>
  have h1:=List.find?_some e
  have h2:=List.mem_of_find?_eq_some e
  rw[ok q h2 r hr (of_decide_eq_true h1)]
theorem cv{rs:List Rz}(ok:U rs){r:Rz}(hr:r∈rs):∃ls,Cn [.d (.list (rs.map eZ)),.d (eT r.n)]=some (eZ r,ls):=by
 obtain⟨ls,e⟩:=Gs rs r.n
 rw[gq ok hr]at e
 let τ:DS:=[some (.d (.list (rs.map eZ))),some (.d (eT r.n)),some (.d (eZ r))]
 refine⟨[.d (.list (rs.map eZ)),.d (eT r.n)],?_⟩
 unfold Cn
 exact A5 (τ:=τ) ((AR (τ1:=τ) (BX (AZ (τ1:=[some (.d (.list (rs.map eZ))),some (.d (eT r.n)),none]) (ds:=[.list (rs.map eZ),eT r.n]) rfl rfl e) rfl)).trans ((AR (τ1:=τ) ((Cp (τ1:=τ) (tst (op2 (x:=eZ r) (y:=.none) (τ1:=τ) rfl rfl rfl))).trans rfl)).trans rfl)) rfl rfl
def wS:Nat->Tx
 |0=>⟨"put",∅⟩
 |1=>⟨"take",∅⟩
 |2=>⟨"raise",∅⟩
 |3=>⟨"sink",∅⟩
 |4=>⟨"move",∅⟩
 |5=>⟨"turn",∅⟩
 |6=>⟨"size",∅⟩
 |7=>⟨"change",∅⟩
 |8=>⟨"hide",∅⟩
 |_=>⟨"show",∅⟩
theorem mZ:∀i j:Fin 10,wS i=wS j->i=j:=∅
theorem mY{i j:Nat}(hi:i<10)(hj:j<10)(h:wS i=wS j):i=j:=Fin.mk.inj (mZ ⟨i,hi⟩ ⟨j,hj⟩ h)
theorem skw{v i j:Nat}(hi:i<10)(hj:j<10)(h:i≠j){a:DB}{τ:DS}(e:τ[v]?=some (some (.d (eT (wS i))))):BK (AW (dOp fEq (AE v) (dC (eT (wS j))))) a BQ τ=some (.nx τ):=by
 refine(Cp (τ1:=τ) (tst (op2 (x:=eT (wS i)) (y:=eT (wS j)) (τ1:=τ) (by unfold AE;rw[e]) rfl ?_))).trans rfl
 rw[encT.fEq,decide_eq_false fun z=>h (mY hi hj z)]
theorem tkw{v i:Nat}{a:DB}{τ:DS}(e:τ[v]?=some (some (.d (eT (wS i))))):BK (AW (dOp fEq (AE v) (dC (eT (wS i))))) a BQ τ=a τ:=by
 refine M8 (τ1:=τ) (tst (op2 (x:=eT (wS i)) (y:=eT (wS i)) (τ1:=τ) (by unfold AE;rw[e]) rfl ?_))
 rw[encT.fEq,decide_eq_true rfl]
def dd(i:Nat)(n:Tx)(GH:List PyData):PyData:=.tuple (eT (wS i)::eT n::GH)
structure Dn(r:Rz)(i:Nat)(GH:List PyData)(r':Rz):Prop where
 done:∃ls,Ec [.d (eZ r),.d (dd i r.n GH)]=some (eZ r',ls)
 row:OkRow r'
 nn:r'.n=r.n
 hh:r'.h=r.h
 i4:4<=i
 i9:i<10
theorem at0{x:PyData}{xs:List PyData}:atI (x::xs) 0=some x:=by
 unfold atI ixN
 rw[if_pos (by decide),if_pos (by simp only[List.length_cons];omega)];rfl
theorem at1{x y:PyData}{xs:List PyData}:atI (x::y::xs) 1=some y:=by
 unfold atI ixN
 rw[if_pos (by decide),if_pos (by simp only[List.length_cons];omega)];rfl
theorem dd0{i:Nat}{n:Tx}{GH:List PyData}:Ag (dd i n GH) (.int 0)=some (eT (wS i)):=at0
theorem dd1{i:Nat}{n:Tx}{GH:List PyData}:Ag (dd i n GH) (.int 1)=some (eT n):=at1
def TZ(rs:List Rz)(n:Tx)(c:Rz):List Rz:=rs.map fun q=>if q.n=n then c else q
theorem nq{rs:List Rz}(u:U rs){n:Tx}{c:Rz}(hc:c.n=n):U (TZ rs n c):=by
 have key:∀r∈TZ rs n c,(r=c)\/(r∈rs/\r.n≠n):=fun r hr=>by
  obtain⟨q,hq,rfl⟩:=List.mem_map.mp hr
  by_cases h:q.n=n
  ·rw[if_pos h];exact .inl rfl
  ·rw[if_neg h];exact .inr ⟨hq,h⟩
 intro r hr q hq e
 rcases key r hr with rfl|⟨h1,h2⟩<;>rcases key q hq with h|⟨h3,h4⟩
 ·exact h.symm
 ·exact absurd (e.symm.trans hc) h4
 ·rw[h]at e;exact absurd (e.trans hc) h2
 ·exact u r h1 q h3 e
theorem j6{rs:List Rz}{r c:Rz}(hr:r∈rs):c∈TZ rs r.n c:=List.mem_map.mpr ⟨r,hr,if_pos rfl⟩
theorem iG{rs:List Rz}(u:U rs){r c:Rz}(hr:r∈rs)(hc:c.n=r.n):TZ (TZ rs r.n c) r.n r=rs:=by
 unfold TZ
 rw[List.map_map]
 refine(List.map_congr_left (g:=id) fun q hq=>?_).trans (List.map_id _)
 show(if (if q.n=r.n then c else q).n=r.n then r else (if q.n=r.n then c else q))=q
 by_cases h:q.n=r.n
 ·rw[if_pos h,if_pos hc,u q hq r hr h]
 ·rw[if_neg h,if_neg h]
theorem bp{rs:List Rz}(u:U rs)(hl:rs.length<=30){r r':Rz}(hr:r∈rs){i:Nat}{GH:List PyData}(d:Dn r i GH r')(hh:r.h=t0\/OkN r.h) :
  ∃ls,Bl [.d (.list (rs.map eZ)),.d (dd i r.n GH)]=some (.list ((TZ rs r.n r').map eZ),ls):=by
 obtain⟨l1,e1⟩:=cv u hr
 obtain⟨l2,e2⟩:=d.done
 obtain⟨l3,e3⟩:=YA d.row (by rw[d.hh];exact hh)
 let D:PyData:=.list (rs.map eZ)
 let W:PyData:=dd i r.n GH
 have i4:=d.i4
 -- rows_changed
 have rc:∃ls,FT [.d D,.d W]=some (.list ((TZ rs r.n r').map eZ),ls):=by
  let t0':DS:=[some (.d D),some (.d W),none]
  let τ:DS:=[some (.d D),some (.d W),some (.d (eZ r'))]
  refine⟨[.d D,.d W],?_⟩
  unfold FT
  refine A5 (τ:=τ) ?_ rfl rfl
  have a1:dOp Ag (AE 1) (dC (.int 1)) t0'=some (eT r.n,t0'):=op2 (x:=W) (y:=.int 1) (τ1:=t0') rfl rfl dd1
  have z1:Ak (AU Ec (AB (AU Cn (AB (AE 0) (AB (dOp Ag (AE 1) (dC (.int 1))) AI))) (AB (AE 1) AI))) (dN 2) t0'=some (.nx τ) :=
   BX (AZ (τ1:=t0') (rs:=[.d (eZ r),.d W]) (ds:=[eZ r,W]) (acc (τ1:=t0') (AZ (τ1:=t0') (rs:=[.d D,.d (eT r.n)]) (ds:=[D,eT r.n]) (acc (τ1:=t0') rfl (acc a1 rfl)) rfl e1) rfl) rfl e2) rfl
  have z2:=ND (tst (AZ (G:=HY) (a:=AB (AE 2) AI) (τ:=τ) (τ1:=τ) (rs:=[.d (eZ r')]) (ds:=[eZ r']) rfl rfl e3))
  refine(AR z1).trans ((AR (τ1:=τ) ((Cp (τ1:=τ) z2).trans rfl)).trans (Bs ?_))
  have := lcg (enc := eZ) (rs := rs) (τ := τ) (fr := [2, 1]) (it := dIL (AE 0)) (ex := [some (.d (eZ r')), some (.d W)]) (c := FD) (e := dIf (AW (dOp fEq (AU Be (AB (AE 0) AI)) (dOp Ag (AE 2) (dC (.int 1))))) (AE 1) (AE 0)) (fun _ => true) (fun q => eZ (if q.n = r.n then r' else q)) rfl (by omega) rfl rfl (fun _ _ => rfl) (fun q _ _ => by
   let t:DS:=[some (.d (eZ q)),some (.d (eZ r')),some (.d W)]
   have c:AW (dOp fEq (AU Be (AB (AE 0) AI)) (dOp Ag (AE 2) (dC (.int 1)))) t=some (decide (q.n=r.n),t):=tst (op2 (x:=eT q.n) (y:=eT r.n) (τ1:=t) (AZ (τ1:=t) (ds:=[eZ q]) rfl rfl (JN q)) (op2 (x:=W) (y:=.int 1) (τ1:=t) rfl rfl dd1) (XR _ _))
   show dIf _ (AE 1) (AE 0) t=_
   unfold dIf
   rw[c]
   by_cases h:q.n=r.n
   ·rw[decide_eq_true h,if_pos h];rfl
   ·rw[decide_eq_false h,if_neg h];rfl)
  refine this.trans ?_
  rw[HF]
  unfold TZ
  rw[List.map_map];rfl
 obtain⟨l4,e4⟩:=rc
 let t0':DS:=[some (.d D),some (.d W),none]
 let τ:DS:=[some (.d D),some (.d W),some (.d (eT (wS i)))]
 refine⟨[.d D,.d W],?_⟩
 unfold Bl
 refine A5 (τ:=τ) ?_ rfl rfl
 have z0:Ak (dOp Ag (AE 1) (dC (.int 0))) (dN 2) t0'=some (.nx τ):=BX (d:=eT (wS i)) (τ1:=t0') (op2 (x:=W) (y:=.int 0) (τ1:=t0') rfl rfl dd0) rfl
 have z1:CU (AU Cn (AB (AE 0) (AB (dOp Ag (AE 1) (dC (.int 1))) AI))) τ=some (.nx τ):=by
  unfold CU
  rw[AZ (τ1:=τ) (rs:=[.d D,.d (eT r.n)]) (ds:=[D,eT r.n]) (acc (τ1:=τ) rfl (acc (op2 (x:=W) (y:=.int 1) (τ1:=τ) rfl rfl dd1) rfl)) rfl e1];rfl
 have sk:∀j,j<4->∀a:DB,BK (AW (dOp fEq (AE 2) (dC (eT (wS j))))) a BQ τ=some (.nx τ):=fun j hj a=>skw (v:=2) d.i9 (by omega) (by omega) rfl
 exact(AR z0).trans ((AR (sk 0 (by decide) _)).trans ((AR z1).trans ((AR (sk 1 (by decide) _)).trans ((AR (sk 2 (by decide) _)).trans ((AR (sk 3 (by decide) _)).trans (Bs (AZ (τ1:=τ) (rs:=[.d D,.d W]) (ds:=[D,W]) rfl rfl e4)))))))
theorem Ol{D X Y R1 R2:PyData}{l1 l2:List L}{xs:List PyData}(hD:D = .list xs)(h1:Bl [.d D,.d X]=some (R1,l1))(h2:Bl [.d R1,.d Y]=some (R2,l2)):∃ls,Co [.d D,.d X,.d Y]=some (R2,ls):=by
 subst hD
 let τ:DS:=[some (.d (.list xs)),some (.d X),some (.d Y)]
 refine⟨[.d (.list xs),.d X,.d Y],?_⟩
 unfold Co
 exact A5 (τ:=τ) (Bs (AZ (τ1:=τ) (rs:=[.d R1,.d Y]) (ds:=[R1,Y]) (acc (τ1:=τ) (AZ (τ1:=τ) (rs:=[.d (.list xs),.d X]) (ds:=[.list xs,X]) (acc (τ1:=τ) (Mv (d:=.list xs) (τ1:=τ) rfl rfl) rfl) rfl h1) rfl) rfl h2)) rfl rfl
theorem MI{rs:List Rz}(u:U rs)(hl:rs.length<=30){r r':Rz}(hr:r∈rs)(hh:r.h=t0\/OkN r.h){i j:Nat}{GH rest':List PyData}(d1:Dn r i GH r')(d2:Dn r' j rest' r) :
  ∃ls,Co [.d (.list (rs.map eZ)),.d (dd i r.n GH),.d (dd j r.n rest')]=some (.list (rs.map eZ),ls):=by
 obtain⟨l1,e1⟩:=bp u hl hr d1 hh
 have hr':r'∈TZ rs r.n r':=j6 hr
 have hl':(TZ rs r.n r').length<=30:=by unfold TZ;rw[List.length_map];exact hl
 obtain⟨l2,e2⟩:=bp (nq u d1.nn) hl' hr' d2 (by rw[d1.hh];exact hh)
 rw[d1.nn,iG u hr d1.nn]at e2
 exact Ol rfl e1 e2
theorem OQ{r:Rz}{i:Nat}{n:Tx}{GH:List PyData}:Ak (dOp Ag (AE 1) (dC (.int 0))) (dN 2) [some (.d (eZ r)),some (.d (dd i n GH)),none]=some (.nx [some (.d (eZ r)),some (.d (dd i n GH)),some (.d (eT (wS i)))]) :=
 BX (d:=eT (wS i)) (τ1:=[some (.d (eZ r)),some (.d (dd i n GH)),none]) (op2 (x:=dd i n GH) (y:=.int 0) (τ1:=[some (.d (eZ r)),some (.d (dd i n GH)),none]) rfl rfl dd0) rfl
theorem YG{r:Rz}(ok:OkRow r){x y:Int}(x0:-60<=x)(x1:x<=60)(y0:-60<=y)(y1:y<=60):Dn r 4 [.int x,.int y] { r with x:=x,y:=y }:=by
 refine⟨⟨[.d (eZ r),.d (dd 4 r.n [.int x,.int y])],?_⟩,⟨ok.n1,ok.n8,ok.na,x0,x1,y0,y1,ok.d⟩,rfl,rfl,by decide,by decide⟩
 let τ:DS:=[some (.d (eZ r)),some (.d (dd 4 r.n [.int x,.int y])),some (.d (eT (wS 4)))]
 unfold Ec
 exact A5 (τ:=τ) ((AR OQ).trans (Fh ((tkw (v:=2) (i:=4) (τ:=τ) rfl).trans (Bs (AZ (τ1:=τ) (rs:=[.d (eZ r),.d (.int x),.d (.int y)]) (ds:=[eZ r,.int x,.int y]) (ls:=[.d (eZ r),.d (.int x),.d (.int y)]) rfl rfl rfl))))) rfl rfl
theorem Vb{r:Rz}(ok:OkRow r)(b:Bool):Dn r (if b then 9 else 8) [] { r with s:=b }:=by
 generalize hi:(if b=true then 9 else 8)=i
 have h9:i<10:=by cases b<;>simp at hi<;>omega
 have h8:8<=i:=by cases b<;>simp at hi<;>omega
 refine⟨⟨[.d (eZ r),.d (dd i r.n [])],?_⟩,⟨ok.n1,ok.n8,ok.na,ok.x0,ok.x1,ok.y0,ok.y1,ok.d⟩,rfl,rfl,by omega,h9⟩
 let τ:DS:=[some (.d (eZ r)),some (.d (dd i r.n [])),some (.d (eT (wS i)))]
 have hb:decide (wS i=wS 9)=b:=by cases b<;>simp at hi<;>subst hi<;>decide +kernel
 unfold Ec
 have sk:∀j,j<8->∀a:DB,BK (AW (dOp fEq (AE 2) (dC (eT (wS j))))) a BQ τ=some (.nx τ):=fun j hj a=>skw (v:=2) h9 (by omega) (by omega) rfl
 refine A5 (τ:=τ) ((AR OQ).trans ((AR (sk 4 (by decide) _)).trans ((AR (sk 5 (by decide) _)).trans ((AR (sk 6 (by decide) _)).trans ((AR (sk 7 (by decide) _)).trans (Bs (AZ (τ1:=τ) (rs:=[.d (eZ r),.d (.bool b)]) (ds:=[eZ r,.bool b]) (ls:=[.d (eZ r),.d (.bool b)]) (acc (τ1:=τ) rfl (acc (τ1:=τ) (op2 (x:=eT (wS i)) (y:=eT (wS 9)) (τ1:=τ) rfl rfl ?_) rfl)) rfl rfl))))))) rfl rfl
 rw[XR,hb]
theorem pk{r:Rz}{d:Dz}(hk:kz d=kz r.d):eZ { r with d:=d } = .tuple [eT r.n,eT r.h,.int r.x,.int r.y,.bool r.s,eT (kS (kz r.d)),eD d]:=by
 show PyData.tuple [_,_,_,_,_,eT (kS (kz d)),eD d]=_
 rw[hk]
theorem Jq{r:Rz}{d:Dz}(hk:kz d=kz r.d):Cu [.d (eZ r),.d (eD d)]=some (eZ { r with d:=d },[.d (eZ r),.d (eD d)]):=by
 rw[pk hk];rfl
theorem TJ{r:Rz}(ok:OkRow r){d:Dz}(hk:kz d=kz r.d)(hd:WE d):Dn r 7 [eD d] { r with d:=d }:=by
 refine⟨⟨[.d (eZ r),.d (dd 7 r.n [eD d])],?_⟩,⟨ok.n1,ok.n8,ok.na,ok.x0,ok.x1,ok.y0,ok.y1,hd⟩,rfl,rfl,by decide,by decide⟩
 let τ:DS:=[some (.d (eZ r)),some (.d (dd 7 r.n [eD d])),some (.d (eT (wS 7)))]
 unfold Ec
 have sk:∀j,j<7->∀a:DB,BK (AW (dOp fEq (AE 2) (dC (eT (wS j))))) a BQ τ=some (.nx τ):=fun j hj a=>skw (v:=2) (by decide) (by omega) (by omega) rfl
 exact A5 (τ:=τ) ((AR OQ).trans ((AR (sk 4 (by decide) _)).trans ((AR (sk 5 (by decide) _)).trans ((AR (sk 6 (by decide) _)).trans (Fh ((tkw (v:=2) (i:=7) (τ:=τ) rfl).trans (Bs (AZ (τ1:=τ) (rs:=[.d (eZ r),.d (eD d)]) (ds:=[eZ r,eD d]) rfl rfl (Jq hk))))))))) rfl rfl
theorem fz{r:Rz}{q k:Int}{f:Bool}(hd:r.d = .turn q f):∃ls,HB [.d (eZ r),.d (.int k)]=some (eZ { r with d:=.turn ((q+k) % 4) f },ls):=by
 obtain⟨n,h,x,y,s,d⟩:=r
 cases hd
 let Z:=eZ ⟨n,h,x,y,s,.turn q f⟩
 let τ0:DS:=[some (.d Z),some (.d (.int k)),none]
 let τ:DS:=[some (.d Z),some (.d (.int k)),some (.d (.tuple [.int q,.bool f]))]
 refine⟨[.d Z,.d (.int k)],?_⟩
 unfold HB
 have m:=EF (i:=q+k) (j:=4) (by decide)
 have c:AW (dOp fNe (AU CK (AB (AE 0) AI)) (dC (.str "turn"))) τ0=some (false,τ0):=tst (op2 (x:=eT (kS 7)) (y:=eT (kS 7)) (τ1:=τ0) rfl rfl (by rw[kr,decide_eq_true rfl];rfl))
 refine A5 (τ:=τ) ((AR (τ1:=τ0) ((Cp (τ1:=τ0) c).trans rfl)).trans ((AR (τ1:=τ) rfl).trans (Bs (AZ (τ1:=τ) (rs:=[.d Z,.d (eD (.turn ((q+k) % 4) f))]) (ds:=[Z,eD (.turn ((q+k) % 4) f)]) (acc (τ1:=τ) rfl (acc (τ1:=τ) (Je (τ1:=τ) (rs:=[.d (.int ((q+k) % 4)),.d (.bool f)]) (ds:=[.int ((q+k) % 4),.bool f]) (acc (τ1:=τ) (op2 (x:=.int (q+k)) (y:=.int 4) (τ1:=τ) rfl rfl m) rfl) rfl (by simp)) rfl)) rfl (Jq (r:=⟨n,h,x,y,s,.turn q f⟩) rfl))))) rfl rfl
theorem YE{r:Rz}(ok:OkRow r){q k:Int}{f:Bool}(hd:r.d = .turn q f):Dn r 5 [.int k] { r with d:=.turn ((q+k) % 4) f }:=by
 obtain⟨l1,e1⟩:=fz (k:=k) hd
 refine⟨⟨[.d (eZ r),.d (dd 5 r.n [.int k])],?_⟩,⟨ok.n1,ok.n8,ok.na,ok.x0,ok.x1,ok.y0,ok.y1,by show 0<=(q+k) % 4;omega,by show(q+k) % 4<=3;omega⟩,rfl,rfl,by decide,by decide⟩
 let τ:DS:=[some (.d (eZ r)),some (.d (dd 5 r.n [.int k])),some (.d (eT (wS 5)))]
 unfold Ec
 exact A5 (τ:=τ) ((AR OQ).trans ((AR (skw (v:=2) (i:=5) (j:=4) (by decide) (by decide) (by decide) rfl)).trans (Fh ((tkw (v:=2) (i:=5) (τ:=τ) rfl).trans (Bs (AZ (τ1:=τ) (rs:=[.d (eZ r),.d (.int k)]) (ds:=[eZ r,.int k]) rfl rfl e1)))))) rfl rfl
theorem iP{r:Rz}{w h w' h':Int}{d':Dz}(hd:(∃a b,r.d = .plate w h a b/\d' = .plate w' h' a b)\/∃x y,r.d = .window w h x y/\d' = .window w' h' x y):∃ls,GW [.d (eZ r),.d (.int w'),.d (.int h')]=some (eZ { r with d:=d' },ls):=by
 obtain⟨n,hld,x,y,s,d⟩:=r
 rcases hd with ⟨a,b,hd,rfl⟩|⟨a,b,hd,rfl⟩
 ·cases hd
  let Z:=eZ ⟨n,hld,x,y,s,.plate w h a b⟩
  let τ:DS:=[some (.d Z),some (.d (.int w')),some (.d (.int h'))]
  refine⟨[.d Z,.d (.int w'),.d (.int h')],?_⟩
  unfold GW
  have c:AW (dOp (fIn true) (AU CK (AB (AE 0) AI)) (BI (AB (dC (.str "plate")) (AB (dC (.str "window")) AI)))) τ=some (false,τ):=by
   refine tst (op2 (x:=eT (kS 0)) (y:=.tuple ([kS 0,kS 6].map eT)) (τ1:=τ) rfl rfl ?_)
   simp only[DL.fIn,encT.ok,encT.okL,encT.any,Bool.and_self,if_true]
   simp
  exact A5 (τ:=τ) ((AR (τ1:=τ) ((Cp (τ1:=τ) c).trans rfl)).trans (Bs (AZ (τ1:=τ) (rs:=[.d Z,.d (eD (.plate w' h' a b))]) (ds:=[Z,eD (.plate w' h' a b)]) rfl rfl (Jq (r:=⟨n,hld,x,y,s,.plate w h a b⟩) rfl)))) rfl rfl
 ·cases hd
  let Z:=eZ ⟨n,hld,x,y,s,.window w h a b⟩
  let τ:DS:=[some (.d Z),some (.d (.int w')),some (.d (.int h'))]
  refine⟨[.d Z,.d (.int w'),.d (.int h')],?_⟩
  unfold GW
  have c:AW (dOp (fIn true) (AU CK (AB (AE 0) AI)) (BI (AB (dC (.str "plate")) (AB (dC (.str "window")) AI)))) τ=some (false,τ):=by
   refine tst (op2 (x:=eT (kS 6)) (y:=.tuple ([kS 0,kS 6].map eT)) (τ1:=τ) rfl rfl ?_)
   simp only[DL.fIn,encT.ok,encT.okL,encT.any,Bool.and_self,if_true]
   simp
  exact A5 (τ:=τ) ((AR (τ1:=τ) ((Cp (τ1:=τ) c).trans rfl)).trans (Bs (AZ (τ1:=τ) (rs:=[.d Z,.d (eD (.window w' h' a b))]) (ds:=[Z,eD (.window w' h' a b)]) rfl rfl (Jq (r:=⟨n,hld,x,y,s,.window w h a b⟩) rfl)))) rfl rfl
theorem YF{r:Rz}(ok:OkRow r){w h w' h':Int}{d':Dz}(hd:(∃a b,r.d = .plate w h a b/\d' = .plate w' h' a b)\/∃x y,r.d = .window w h x y/\d' = .window w' h' x y)(od:WE d'):Dn r 6 [.int w',.int h'] { r with d:=d' }:=by
 obtain⟨l1,e1⟩:=iP hd
 refine⟨⟨[.d (eZ r),.d (dd 6 r.n [.int w',.int h'])],?_⟩,⟨ok.n1,ok.n8,ok.na,ok.x0,ok.x1,ok.y0,ok.y1,od⟩,rfl,rfl,by decide,by decide⟩
 let τ:DS:=[some (.d (eZ r)),some (.d (dd 6 r.n [.int w',.int h'])),some (.d (eT (wS 6)))]
 unfold Ec
 exact A5 (τ:=τ) ((AR OQ).trans ((AR (skw (v:=2) (i:=6) (j:=4) (by decide) (by decide) (by decide) rfl)).trans ((AR (skw (v:=2) (i:=6) (j:=5) (by decide) (by decide) (by decide) rfl)).trans (Fh ((tkw (v:=2) (i:=6) (τ:=τ) rfl).trans (Bs (AZ (τ1:=τ) (rs:=[.d (eZ r),.d (.int w'),.d (.int h')]) (ds:=[eZ r,.int w',.int h']) rfl rfl e1))))))) rfl rfl
theorem mw(r:Rz){j:Int}(h0:0<=j)(h1:j<7):∃d,Ag (eZ r) (.int j)=some d:=by
 obtain⟨a,ea,_⟩:=Gn (enc:=fun x=>x) (xs:=[eT r.n,eT r.h,.int r.x,.int r.y,.bool r.s,eT (kS (kz r.d)),eD r.d]) (k:=j) h0 (by show j<7;exact h1)
 rw[List.map_id']at ea
 exact⟨a,ea⟩
theorem Yn{rs:List Rz}(hl:rs.length<=900):∃ls,Dg [.d (.list (rs.map eZ)),.d (.list (rs.map eZ))]=some (.bool true,ls):=by
 let D:Option L:=some (.d (.list (rs.map eZ)))
 let I:Int->Option L:=fun i=>some (.d (.int i))
 let st:Option L->Option L->DS:=fun a b=>[D,D,a,b]
 refine⟨[.d (.list (rs.map eZ)),.d (.list (rs.map eZ))],?_⟩
 let Bi:DB:=BK (AW (dOp fNe (Ic "bool" (dOp Ag (dOp JZ (AE 0) (AE 2)) (AE 3))) (Ic "bool" (dOp Ag (dOp JZ (AE 1) (AE 2)) (AE 3))))) (Ax (dC (.bool false))) BQ
 have inn:∀(k:Int) (o:Option L),0<=k->k<(rs.length:Int)->nM o->∃o',nM o'/\Hv (dR1 (AB (dC (.int 7)) AI)) (dN 3) Bi (st (I k) o)=some (.nx (st (I k) o')):=by
  intro k o k0 k1 ho
  obtain⟨r,er,_⟩:=Gn (enc:=eZ) k0 k1
  have lp := Ge (enc := PyData.int) (xs := rng 0 7) (τ := st (I k) o) (g := dN 3) (b := Bi) (fun (pre : List Int) τ => ∃ o', nM o' /\ τ = st (I k) o') ⟨o, ho, rfl⟩ (by
   rintro pre j post τ e ⟨o',ho',rfl⟩
   have hj:=(mem_rng (n:=7)).mp (Oe e)
   obtain⟨d,ed⟩:=mw r (j:=j) (by omega) (by omega)
   let t:=st (I k) (I j)
   refine⟨t,t,HJ (o:=o') rfl ho',?_,_,IP,rfl⟩
   have y1:∀v:Nat,t[v]?=some D->Ic "bool" (dOp Ag (dOp JZ (AE v) (AE 2)) (AE 3)) t=some (.bool (kg "bool" d),t):=fun v hv=>by
    unfold Ic
    rw[op2 (x:=eZ r) (y:=.int j) (τ1:=t) (op2 (x:=.list (rs.map eZ)) (y:=.int k) (τ1:=t) (by unfold AE;rw[hv]) rfl er) rfl ed]
    rfl
   refine(Cp (τ1:=t) (tst (op2 (y1 0 rfl) (y1 1 rfl) ?_))).trans rfl
   cases kg "bool" d<;>rfl)
  obtain⟨τ',e,o',ho',rfl⟩:=lp
  exact⟨o',ho',(Ht (Ss (n:=7) (τ1:=st (I k) o) rfl (by decide) (by decide))).trans e⟩
 have lp := Ge (enc := PyData.int) (xs := rng 0 (rs.length : Int).toNat) (τ := st none none) (g := dN 2) (b := Hv (dR1 (AB (dC (.int 7)) AI)) (dN 3) Bi) (fun (pre : List Int) τ => ∃ a b, nM a /\ nM b /\ τ = st a b) ⟨none, none, De, De, rfl⟩ (by
  rintro pre k post τ e ⟨a,b,ha,hb,rfl⟩
  have hk:=mem_rng.mp (Oe e)
  obtain⟨o',ho',ei⟩:=inn k b (by omega) (by omega) hb
  exact⟨_,_,HJ (o:=a) rfl ha,ei,_,_,IP,ho',rfl⟩)
 obtain⟨τ',e,a,b,ha,hb,rfl⟩:=lp
 unfold Dg
 refine A5 (τ:=st a b) ?_ rfl rfl
 have c1:AW (dOp fNe (AE 0) (AE 1)) (st none none)=some (false,st none none):=tst (op2 (x:=.list (rs.map eZ)) (y:=.list (rs.map eZ)) (τ1:=st none none) rfl rfl (by rw[encZ.fNeL,decide_eq_true rfl];rfl))
 refine(AR (τ1:=st none none) ((Cp (τ1:=st none none) (Qr (τ1:=st none none) rfl c1)).trans rfl)).trans ((AR (τ1:=st a b) ((Ht (Ss (n:=(rs.length:Int)) (τ1:=st none none) ?_ (by omega) (by omega))).trans ?_)).trans rfl)
 ·show some ([Ar.d (.int ((rs.map eZ).length:Int))],_)=_
  rw[List.length_map]
 ·exact e
def OA(rs:List Rz)(a:Tx):List Tx:=(rs.filter fun r=>decide (a∈(hsR rs.reverse r.n).tail)).map (·.n)
theorem fN(rs:List Rz)(a:Tx):(OA rs a).length<=rs.length:=by
 unfold OA;rw[List.length_map];exact List.length_filter_le ..
theorem ir{rs:List Rz}(ok:OkZ rs)(hl:rs.length<=30)(a:Tx):∃ls,Ir [.d (.list (rs.map eZ)),.d (eT a)]=some (.list ((OA rs a).map eT),ls):=by
 let D:Option L:=some (.d (.list (rs.map eZ)))
 let τ:DS:=[D,some (.d (eT a))]
 refine⟨[.d (.list (rs.map eZ)),.d (eT a)],?_⟩
 unfold Ir
 refine A5 (τ:=τ) (Bs ?_) rfl rfl
 have := lcg (enc := eZ) (rs := rs) (τ := τ) (fr := [1, 0]) (it := dIL (AE 0)) (ex := [some (.d (eT a)), D]) (c := AW (dOp (fIn false) (AE 1) (AU Df (AB (AE 2) (AB (AU Be (AB (AE 0) AI)) AI))))) (e := AU Be (AB (AE 0) AI)) (fun r => decide (a ∈ (hsR rs.reverse r.n).tail)) (fun r => eT r.n) rfl (by omega) rfl rfl (fun r hr => by
  obtain⟨l1,e1⟩:=VG ok hl (a:=r.n) (.inr ⟨r,hr,rfl⟩)
  let t:DS:=[some (.d (eZ r)),some (.d (eT a)),D]
  exact tst (op2 (x:=eT a) (y:=.list ((hsR rs.reverse r.n).tail.map eT)) (τ1:=t) rfl (AZ (τ1:=t) (rs:=[.d (.list (rs.map eZ)),.d (eT r.n)]) (ds:=[.list (rs.map eZ),eT r.n]) (acc (τ1:=t) rfl (acc (τ1:=t) (AZ (τ1:=t) (ds:=[eZ r]) rfl rfl (JN r)) rfl)) rfl e1) (inL _ _))) (fun r _ _=>rfl)
 refine this.trans ?_
 unfold OA
 rw[List.map_map];rfl
theorem jU{rs:List Rz}(ok:OkZ rs)(hl:rs.length<=30)(a:Tx):∃ls,I0 [.d (.list (rs.map eZ)),.d (eT a)]=some (.list ((OA rs a).map eT),ls):=by
 let D:Option L:=some (.d (.list (rs.map eZ)))
 let τ:DS:=[D,some (.d (eT a))]
 refine⟨[.d (.list (rs.map eZ)),.d (eT a)],?_⟩
 unfold I0
 refine A5 (τ:=τ) (Bs ?_) rfl rfl
 have := lcg (enc := eZ) (rs := rs) (τ := τ) (fr := [1, 0]) (it := dIL (AE 0)) (ex := [some (.d (eT a)), D]) (c := AW (dOp (fIn false) (AE 1) (AU JA (AB (AE 2) (AB (dOp Ag (AE 0) (dC (.int 0))) AI))))) (e := dOp Ag (AE 0) (dC (.int 0))) (fun r => decide (a ∈ (hsR rs.reverse r.n).tail)) (fun r => eT r.n) rfl (by omega) rfl rfl (fun r hr => by
  obtain⟨l1,e1⟩:=jk ok hl (a:=r.n) ⟨r,hr,rfl⟩
  let t:DS:=[some (.d (eZ r)),some (.d (eT a)),D]
  exact tst (op2 (x:=eT a) (y:=.list ((hsR rs.reverse r.n).tail.map eT)) (τ1:=t) rfl (AZ (τ1:=t) (rs:=[.d (.list (rs.map eZ)),.d (eT r.n)]) (ds:=[.list (rs.map eZ),eT r.n]) (acc (τ1:=t) rfl (acc (τ1:=t) (op2 (x:=eZ r) (y:=.int 0) (τ1:=t) rfl rfl rfl) rfl)) rfl e1) (inL _ _))) (fun r _ _=>rfl)
 refine this.trans ?_
 unfold OA
 rw[List.map_map];rfl
theorem nJ{np nl:Nat}{b:DB}{ls ls':List L}{τ:DS}(h:b (ls.map some++List.replicate nl none)=some (.nx τ))(hl:ls.length=np)(hf:fin ls τ=some ls'):Bc false np nl b ls=some (.none,ls'):=by
 unfold Bc
 rw[if_pos hl,h]
 show(if false=true then none else (fin ls τ).map _)=_
 rw[if_neg (by decide),hf];rfl
theorem VtR.suf:∀{p q:List Rz},VtR (p++q)->VtR q
 |[],_,h=>h
 |_::p,_,h=>VtR.suf (p:=p) h.1
theorem Og{m:Tx}:∀{a:List Rz} {n:Tx},m∈hsR a n->∃q∈a,q.n=m
 |[],_,h=>by cases h
 |r::a,n,h=>by
  rw[hsR]at h
  by_cases e:r.n=n
  ·rw[if_pos e]at h
   rcases List.mem_cons.mp h with z|z
   ·exact⟨r,List.mem_cons_self,e.trans z.symm⟩
   ·obtain⟨q,hq,hm⟩:=Og z
    exact⟨q,List.mem_cons_of_mem _ hq,hm⟩
  ·rw[if_neg e]at h
   obtain⟨q,hq,hm⟩:=Og h
   exact⟨q,List.mem_cons_of_mem _ hq,hm⟩
theorem OkRow.nm{r:Rz}(h:OkRow r):OkN r.n:=⟨h.n1,h.n8,h.na⟩
theorem fi{α:Type}:∀l:List α,Li (l.map fun _=>PyData.bool false)=some (l.map fun _=>false)
 |[]=>rfl
 |a::l=>by
  rw[List.map_cons,Li,fi l];rfl
theorem pT{α:Type}(l:List α):bh [.list (l.map fun _=>PyData.bool false)]=some (.bool false):=by
 show(Li (l.map fun _=>PyData.bool false)).map _=_
 rw[fi]
 show some (PyData.bool ((l.map fun _=>false).any id))=_
 rw[show((l.map fun _=>false).any id)=false by simp]
theorem Zd{q:Rz}(h:4<=kz q.d):∃ls,Ga [.d (eZ q)]=some (.bool true,ls):=by
 let τ:DS:=[some (.d (eZ q))]
 refine⟨[.d (eZ q)],?_⟩
 unfold Ga
 refine A5 (τ:=τ) (Bs (op2 (x:=eT (kS (kz q.d))) (y:=.tuple (KH.map eT)) (τ1:=τ) rfl rfl ?_)) rfl rfl
 rw[inT,decide_eq_true ((jP (M7 _)).mpr h)]
theorem bX{rs:List Rz}(ok:OkZ rs){q:Rz}(hq:q∈rs)(h:kz q.d≠8):∃ls,Fm [.d (.list (rs.map eZ)),.d (eT q.n)]=some (.bool false,ls):=by
 obtain⟨l1,e1⟩:=Of ok hq
 let τ:DS:=[some (.d (.list (rs.map eZ))),some (.d (eT q.n))]
 refine⟨[.d (.list (rs.map eZ)),.d (eT q.n)],?_⟩
 unfold Fm
 refine A5 (τ:=τ) (Bs (op2 (x:=eT (kS (kz q.d))) (y:=eT (kS 8)) (τ1:=τ) (AZ (τ1:=τ) (rs:=[.d (eZ q)]) (ds:=[eZ q]) (ls:=[.d (eZ q)]) (acc (τ1:=τ) (AZ (τ1:=τ) (rs:=[.d (.list (rs.map eZ)),.d (eT q.n)]) (ds:=[.list (rs.map eZ),eT q.n]) rfl rfl e1) rfl) rfl rfl) rfl ?_)) rfl rfl
 rw[XR,decide_eq_false fun z=>h (LV (M7 _) (by decide) z)]
theorem cR{ah:List Rz}{r:Rz}(okr:OkR (r::ah.reverse))(vt:VtR (r::ah.reverse))(hl:ah.length<=30):∃ls,Ip [.d (.list (ah.map eZ)),.d (eZ r)]=some (.none,ls):=by
 obtain⟨ok,or',hne,hhold⟩:=okr
 obtain⟨_,vh,v8⟩:=vt
 have ok:OkZ ah:=ok
 let D:PyData:=.list (ah.map eZ)
 let st:Option L->Option L->DS:=fun a b=>[some (.d D),some (.d (eZ r)),a,b]
 have hN:r.h=t0\/OkN r.h:=hhold.imp id fun⟨q,hq,e⟩=>e▸(OkR.all ok q hq).nm
 obtain⟨l1,e1⟩:=YA or' hN
 obtain⟨l2,e2⟩:=Gs ah r.n
 rw[VT fun q hq=>hne q (List.mem_reverse.mpr hq)]at e2
 refine⟨[.d D,.d (eZ r)],?_⟩
 let τ0:=st none none
 have c1:=ND (tst (AZ (G:=HY) (a:=AB (AE 1) AI) (τ:=τ0) (τ1:=τ0) (rs:=[.d (eZ r)]) (ds:=[eZ r]) rfl rfl e1))
 have c2:AW (dOp MB (AU Cb (AB (AE 0) (AB (AU Be (AB (AE 1) AI)) AI))) (dC .none)) τ0=some (false,τ0) :=
  tst (op2 (x:=.none) (y:=.none) (τ1:=τ0) (AZ (τ1:=τ0) (rs:=[.d D,.d (eT r.n)]) (ds:=[D,eT r.n]) rfl rfl e2) rfl rfl)
 have c3:AW (dOp fEq (AU Av (AB (AE 1) AI)) (dC (.str ""))) τ0=some (decide (r.h=t0),τ0):=tst (op2 (x:=eT r.h) (y:=eT t0) (τ1:=τ0) (AZ (τ1:=τ0) (ds:=[eZ r]) rfl rfl (HV r)) rfl (XR _ _))
 unfold Ip
 by_cases h:r.h=t0
 ·rw[decide_eq_true h]at c3
  exact A5 (τ:=τ0) ((AR (τ1:=τ0) ((Cp (τ1:=τ0) c1).trans rfl)).trans ((AR (τ1:=τ0) ((Cp (τ1:=τ0) c2).trans rfl)).trans (Fh ((M8 (τ1:=τ0) c3).trans rfl)))) rfl rfl
 ·rw[decide_eq_false h]at c3
  obtain⟨q,hq,hqn,hq4,hq7⟩:=vh.resolve_left h
  have hqa:q∈ah:=List.mem_reverse.mp hq
  obtain⟨l3,e3⟩:=Gs ah r.h
  rw[<- hqn,ON ok hqa]at e3
  obtain⟨l4,e4⟩:=Zd hq4
  obtain⟨l5,e5⟩:=VG ok hl (a:=r.h) (.inr ⟨q,hqa,hqn⟩)
  obtain⟨tl,htl⟩:=Zh (a:=ah.reverse) (n:=r.h) ⟨q,hq,hqn⟩
  let τ1:=st (some (.d (eZ q))) none
  let H:PyData:=.list ((hsR ah.reverse r.h).map eT)
  let τ2:=st (some (.d (eZ q))) (some (.d H))
  have hx:∀a b,AU Av (AB (AE 1) AI) (st a b)=some (eT r.h,st a b):=fun a b=>AZ (τ1:=st a b) (ds:=[eZ r]) rfl rfl (HV r)
  have z4:Ak (AU Cb (AB (AE 0) (AB (AU Av (AB (AE 1) AI)) AI))) (dN 2) τ0=some (.nx τ1):=by
   refine BX (d:=eZ q) (τ1:=τ0) (AZ (τ1:=τ0) (rs:=[.d D,.d (eT r.h)]) (ds:=[D,eT r.h]) (ls:=l3) (acc (τ1:=τ0) rfl (acc (hx _ _) rfl)) rfl ?_) rfl
   rw[<- hqn];exact e3
  have c5:=ND (tst (AZ (G:=Ga) (a:=AB (AE 2) AI) (τ:=τ1) (τ1:=τ1) (rs:=[.d (eZ q)]) (ds:=[eZ q]) rfl rfl e4))
  have z6:Ak (dOp SJ (Kq (AB (AU Av (AB (AE 1) AI)) AI)) (AU Df (AB (AE 0) (AB (AU Av (AB (AE 1) AI)) AI)))) (dN 3) τ1=some (.nx τ2):=by
   have hlen:=UD ah.reverse r.h
   rw[List.length_reverse]at hlen
   refine BX (d:=H) (τ1:=τ1) (op2 (x:=.list [eT r.h]) (y:=.list ((hsR ah.reverse r.h).tail.map eT)) (τ1:=τ1) ?_ (AZ (τ1:=τ1) (rs:=[.d D,.d (eT r.h)]) (ds:=[D,eT r.h]) (acc (τ1:=τ1) rfl (acc (hx _ _) rfl)) rfl e5) ?_) rfl
   ·unfold Kq
    rw[acc (hx _ _) rfl];rfl
   ·show(if [eT r.h].length+((hsR ah.reverse r.h).tail.map eT).length<=sizeLine then some (PyData.list ([eT r.h]++(hsR ah.reverse r.h).tail.map eT)) else none)=_
    rw[if_pos (sz (by rw[List.length_map,List.length_tail];simp only[List.length_cons,List.length_nil];omega))]
    show some (PyData.list _)=some (PyData.list _)
    rw[htl];rfl
  have c7:AW (dOp fGt (Bh Dw (AB (AE 3) AI)) (dC (.int 6))) τ2=some (false,τ2):=by
   refine tst (op2 (x:=.int ((hsR ah.reverse r.h).length:Nat)) (y:=.int 6) (τ1:=τ2) (Mv (d:=H) (τ1:=τ2) rfl (by show some (PyData.int (((hsR ah.reverse r.h).map eT).length:Nat))=_;rw[List.length_map])) rfl ?_)
   show some (PyData.bool (decide ((((hsR ah.reverse r.h).length:Nat):Int)>6)))=_
   rw[hqn]at hq7
   rw[decide_eq_false (by omega)]
  have c8:El (AW (dOp fEq (AU CK (AB (AE 1) AI)) (dC (.str "tiles")))) (AW (Bh bh (AB (dLC 1 [0] (dIL (AE 3)) (dN 0) FD (AU Fm (AB (AE 1) (AB (AE 0) AI)))) AI))) τ2=some (false,τ2):=by
   have t1:AW (dOp fEq (AU CK (AB (AE 1) AI)) (dC (.str "tiles"))) τ2=some (decide (kS (kz r.d)=kS 8),τ2):=tst (op2 (x:=eT (kS (kz r.d))) (y:=eT (kS 8)) (τ1:=τ2) rfl rfl (XR _ _))
   by_cases h8:kz r.d=8
   ·have lc:dLC 1 [0] (dIL (AE 3)) (dN 0) FD (AU Fm (AB (AE 1) (AB (AE 0) AI))) τ2=some (.list ((hsR ah.reverse r.h).map fun _=>PyData.bool false),τ2):=by
     have hlen:=UD ah.reverse r.h
     rw[List.length_reverse]at hlen
     have := lcg (enc := eT) (rs := hsR ah.reverse r.h) (τ := τ2) (fr := [0]) (it := dIL (AE 3)) (ex := [some (.d D)]) (c := FD) (e := AU Fm (AB (AE 1) (AB (AE 0) AI))) (fun _ => true) (fun _ => .bool false) rfl (by omega) rfl rfl (fun _ _ => rfl) (fun m hm _ => by
      obtain⟨p,hp,rfl⟩:=Og hm
      obtain⟨lt,et⟩:=bX ok (List.mem_reverse.mp hp) (v8 h8 p hp hm)
      exact AZ (τ1:=[some (.d (eT p.n)),some (.d D)]) (rs:=[.d D,.d (eT p.n)]) (ds:=[D,eT p.n]) rfl rfl et)
     rw[this,HF]
    exact(ck t1 (tst (Mv lc (pT _)))).trans (by rw[Bool.and_false])
   ·rw[decide_eq_false fun z=>h8 (LV (M7 _) (by decide) z)]at t1
    unfold El
    rw[t1];rfl
  refine nJ (τ:=τ2) ?_ rfl rfl
  refine(AR (τ1:=τ0) ((Cp (τ1:=τ0) c1).trans rfl)).trans ((AR (τ1:=τ0) ((Cp (τ1:=τ0) c2).trans rfl)).trans ((AR (τ1:=τ0) ((Cp (τ1:=τ0) c3).trans rfl)).trans ((AR z4).trans ?_)))
  exact(AR (τ1:=τ1) ((Cp (τ1:=τ1) (Qr (τ1:=τ1) rfl c5)).trans rfl)).trans ((AR z6).trans ((AR (τ1:=τ2) ((Cp (τ1:=τ2) c7).trans rfl)).trans ((Cp (τ1:=τ2) c8).trans rfl)))
theorem mO:∀(k:Nat) (rs:List Rz),OP k (rs.map eZ)=(rs.zipIdx k).map fun p=>PyData.tuple [.int (p.2:Nat),eZ p.1]
 |_,[]=>rfl
 |k,r::rs=>by
  rw[List.map_cons,OP,mO (k+1) rs,List.zipIdx_cons,List.map_cons]
theorem fW(xs:List PyData)(k:Nat):SX xs none (some (k:Int))=xs.take k:=by
 unfold SX
 have e:HT.sIx xs.length xs.length (some (k:Int))=min k xs.length:=by
  show(if (k:Int)<0 then ((k:Int)+(xs.length:Int)).toNat else min (k:Int).toNat xs.length)=_
  rw[if_neg (by omega),Int.toNat_natCast]
 rw[e]
 show(xs.drop 0).take (min k xs.length-0)=_
 rw[List.drop_zero,Nat.sub_zero,List.take_eq_take_iff]
 omega
theorem fq{rs:List Rz}{pre post:List (Rz×Nat)}{x:Rz×Nat}(e:rs.zipIdx=pre++x::post):rs=rs.take x.2++x.1::rs.drop (x.2+1)/\x.2<rs.length:=by
 have hx:x∈rs.zipIdx:=by rw[e];exact List.mem_append_right _ List.mem_cons_self
 have h1:=List.mem_zipIdx hx
 have h2:x.2<rs.length:=by have:=h1.2.1;omega
 have h3:x.1=rs[x.2]:=by simpa using h1.2.2
 refine⟨?_,h2⟩
 rw[h3,<- List.drop_eq_getElem_cons h2,List.take_append_drop]
theorem ma{rs:List Rz}(ok:OkZ rs)(vt:VtR rs.reverse)(hl:rs.length<=24):∃ls,U9 [.d (.list (rs.map eZ))]=some (.bool true,ls):=by
 let D:PyData:=.list (rs.map eZ)
 let st:Option L->Option L->DS:=fun a b=>[some (.d D),a,b]
 have lp := Ge (enc := fun p : Rz × Nat => PyData.tuple [.int (p.2 : Nat), eZ p.1]) (xs := rs.zipIdx) (τ := st none none) (g := dGT (A6 (dN 1) (A6 (dN 2) C5))) (b := CU (AU Ip (AB (dSl (AE 0) J6 (dPt (AE 1))) (AB (AE 2) AI)))) (fun (pre : List (Rz × Nat)) τ => ∃ a b, nM a /\ nM b /\ τ = st a b) ⟨none, none, De, De, rfl⟩ (by
  rintro pre x post τ e ⟨a,b,ha,hb,rfl⟩
  obtain⟨es,hx⟩:=fq e
  let t:=st (some (.d (.int (x.2:Nat)))) (some (.d (eZ x.1)))
  have er:rs.reverse=(rs.drop (x.2+1)).reverse++(x.1::(rs.take x.2).reverse):=by
   conv=>lhs;rw[es]
   simp
  obtain⟨lv,ev⟩:=cR (ah:=rs.take x.2) (r:=x.1) ((show OkR (_++_) from er▸(show OkR rs.reverse from ok)).suf) ((show VtR (_++_) from er▸vt).suf) (by rw[List.length_take];omega)
  refine⟨t,t,?_,?_,_,_,IP,IP,rfl⟩
  ·show(dN 1 (.int (x.2:Nat)) (st a b)).bind _=_
   rw[HJ (o:=a) rfl ha]
   show(dN 2 (eZ x.1) (st (some (.d (.int (x.2:Nat)))) b)).bind _=_
   rw[HJ (o:=b) rfl hb];rfl
  ·have sl:dSl (AE 0) J6 (dPt (AE 1)) t=some (.list ((rs.take x.2).map eZ),t):=by
    show some (PyData.list (SX (rs.map eZ) none (some ((x.2:Nat):Int))),t)=_
    rw[fW,List.map_take]
   unfold CU
   rw[AZ (τ1:=t) (rs:=[.d (.list ((rs.take x.2).map eZ)),.d (eZ x.1)]) (ds:=[.list ((rs.take x.2).map eZ),eZ x.1]) (acc sl rfl) rfl ev];rfl)
 obtain⟨τ',e,a,b,ha,hb,rfl⟩:=lp
 rw[<- mO]at e
 refine⟨[.d D],?_⟩
 unfold U9
 refine A5 (τ:=st a b) ?_ rfl rfl
 refine(AR ((Ht (ds:=OP 0 (rs.map eZ)) (τ1:=st none none) rfl).trans e)).trans ((AR (τ1:=st a b) ((Cp (τ1:=st a b) (tst (op2 (x:=.int (rs.length:Nat)) (y:=.int 24) (τ1:=st a b) (Mv (d:=D) (τ1:=st a b) rfl (by show some (PyData.int ((rs.map eZ).length:Nat))=_;rw[List.length_map])) rfl ?_))).trans rfl)).trans rfl)
 show some (PyData.bool (decide (((rs.length:Nat):Int)>24)))=_
 rw[decide_eq_false (by omega)]
theorem VF{m:Tx}:∀{p a:List Rz},(∀q∈p,q.n≠m)->hsR (p++a) m=hsR a m
 |[],_,_=>rfl
 |r::p,a,h=>by
  rw[List.cons_append,hsR,if_neg (h r List.mem_cons_self)]
  exact VF fun q hq=>h q (List.mem_cons_of_mem _ hq)
theorem Gz{rs R1 R2:List Rz}{r:Rz}(ok:OkZ rs)(e:rs=R1++r::R2):OkZ R1/\OkRow r/\(∀q∈R1,q.n≠r.n)/\(r.h=t0\/∃q∈R1,q.n=r.h):=by
 have:OkR (R2.reverse++(r::R1.reverse)):=by
  have:=ok
  unfold OkZ at this
  rw[e]at this
  simpa using this
 obtain⟨h1,h2,h3,h4⟩:=this.suf
 exact⟨h1,h2,fun q hq=>h3 q (List.mem_reverse.mpr hq),h4.imp id fun⟨q,hq,e⟩=>⟨q,List.mem_reverse.mp hq,e⟩⟩
theorem kK{A B:List Rz}(ok:OkZ (A++B)):OkZ A:=by
 have:OkR (B.reverse++A.reverse):=by
  have:=ok
  unfold OkZ at this
  rwa [List.reverse_append]at this
 exact this.suf
theorem UA:∀{B A:List Rz},OkZ A->(∀B1 r B2,B=B1++r::B2->OkRow r/\(∀q∈A++B1,q.n≠r.n)/\(r.h=t0\/∃q∈A++B1,q.n=r.h))->OkZ (A++B)
 |[],A,ok,_=>by rw[List.append_nil];exact ok
 |r::B,A,ok,h=>by
  obtain⟨h1,h2,h3⟩:=h [] r B rfl
  rw[List.append_nil]at h2 h3
  have ok1:OkZ (A++[r]):=by
   show OkR (A++[r]).reverse
   rw[List.reverse_append]
   exact⟨ok,h1,fun q hq=>h2 q (List.mem_reverse.mp hq),h3.imp id fun⟨q,hq,e⟩=>⟨q,List.mem_reverse.mpr hq,e⟩⟩
  have:=UA (B:=B) ok1 fun B1 x B2 e=>by
   have:=h (r::B1) x B2 (by rw[e];rfl)
   rw[show A++r::B1=A++[r]++B1 by simp]at this
   exact this
  rwa [show A++[r]++B=A++r::B by simp]at this
theorem Mm{α:Type}{p:α->Bool}:∀{l B1 B2:List α} {r:α},l.filter p=B1++r::B2->∃R1 R2,l=R1++r::R2/\R1.filter p=B1/\p r=true
 |[],B1,B2,r,h=>by rw[List.filter_nil]at h;exact absurd h.symm (by simp)
 |x::l,B1,B2,r,h=>by
  rw[List.filter_cons]at h
  by_cases hp:p x=true
  ·rw[if_pos hp]at h
   cases B1 with
   |nil =>
    obtain⟨e1,e2⟩:=List.cons.inj (show x::l.filter p=r::B2 from h)
    subst e1
    exact⟨[],l,rfl,rfl,hp⟩
   |cons b B1 =>
    obtain⟨e1,e2⟩:=List.cons.inj (show x::l.filter p=b::(B1++r::B2) from h)
    subst e1
    obtain⟨R1,R2,e3,e4,e5⟩:=Mm e2
    exact⟨x::R1,R2,by rw[e3];rfl,by rw[List.filter_cons,if_pos hp,e4],e5⟩
  ·rw[if_neg hp]at h
   obtain⟨R1,R2,e3,e4,e5⟩:=Mm h
   exact⟨x::R1,R2,by rw[e3];rfl,by rw[List.filter_cons,if_neg hp,e4],e5⟩
theorem Md{rs:List Rz}(ok:OkZ rs){r:Rz}(hr:r∈rs):hsR rs.reverse r.n=r.n::hsR rs.reverse r.h:=by
 obtain⟨R1,R2,e⟩:=List.append_of_mem hr
 obtain⟨o1,o2,o3,o4⟩:=Gz ok e
 have er:rs.reverse=R2.reverse++(r::R1.reverse):=by rw[e];simp
 have u:=OkZ.u ok
 have h2:∀q∈R2.reverse,q.n≠r.n:=fun q hq z=>by
  have hq:=List.mem_reverse.mp hq
  obtain⟨S1,S2,e2⟩:=List.append_of_mem hq
  have:=(Gz ok (R1:=R1++r::S1) (r:=q) (R2:=S2) (by rw[e,e2];simp)).2.2.1 r (List.mem_append_right _ List.mem_cons_self)
  exact this z.symm
 rw[er,VF h2,hsR,if_pos rfl]
 congr 1
 rcases o4 with hh|⟨q,hq,hqn⟩
 ·have ok':OkR (R2.reverse++(r::R1.reverse)):=er▸(show OkR rs.reverse from ok)
  rw[hh,Ka o1,Ka ok']
 ·have hq':q∈rs:=by rw[e];exact List.mem_append_left _ hq
  have h3:∀x∈R2.reverse++[r],x.n≠r.h:=fun x hx z=>by
   have hxq:x.n=q.n:=z.trans hqn.symm
   rcases List.mem_append.mp hx with hx|hx
   ·have hx:=List.mem_reverse.mp hx
    obtain⟨S1,S2,e2⟩:=List.append_of_mem hx
    exact(Gz ok (R1:=R1++r::S1) (r:=x) (R2:=S2) (by rw[e,e2];simp)).2.2.1 q (List.mem_append_left _ hq) hxq.symm
   ·rw[List.mem_singleton.mp hx]at hxq
    exact o3 q hq hxq.symm
  rw[show R2.reverse++r::R1.reverse=(R2.reverse++[r])++R1.reverse by simp,VF h3]
theorem fO{rs xs:List Rz}(ok:OkZ rs)(ox:OkZ xs)(h:∀q∈rs,q∈xs):∀{m:Tx},(m=t0\/∃q∈rs,q.n=m)->hsR xs.reverse m=hsR rs.reverse m:=by
 have key:∀(ah post:List Rz),rs.reverse=post++ah->∀m,(m=t0\/∃q∈ah,q.n=m)->hsR xs.reverse m=hsR rs.reverse m:=by
  intro ah
  induction ah with
  |nil =>
   intro post e m hm
   rcases hm with rfl|⟨q,hq,_⟩
   ·rw[Ka ok,Ka ox]
   ·cases hq
  |cons r ah ih =>
   intro post e m hm
   rcases hm with rfl|⟨q,hq,hqm⟩
   ·rw[Ka ok,Ka ox]
   rcases List.mem_cons.mp hq with rfl|hq
   ·have hr:q∈rs:=List.mem_reverse.mp (e▸List.mem_append_right _ List.mem_cons_self)
    have okr:OkR (q::ah):=(show OkR (post++q::ah) from e▸(show OkR rs.reverse from ok)).suf
    rw[<- hqm,Md ok hr,Md ox (h q hr),ih (post++[q]) (by rw[e];simp) q.h okr.2.2.2]
   ·exact ih (post++[r]) (by rw[e];simp) m (.inr ⟨q,hq,hqm⟩)
 exact fun {m} hm=>key rs.reverse [] rfl m (hm.imp id fun⟨q,hq,e⟩=>⟨q,List.mem_reverse.mpr hq,e⟩)
def inW(rs:List Rz)(n:Tx)(r:Rz):Bool:=decide (n∈hsR rs.reverse r.n)
def wiZ(rs:List Rz)(n:Tx):List Rz:=rs.filter (inW rs n)
def woZ(rs:List Rz)(n:Tx):List Rz:=rs.filter fun r=>!inW rs n r
theorem Ze{rs:List Rz}(ok:OkZ rs){n:Tx}{r:Rz}(hr:r∈rs):decide (r.n∈n::OA rs n)=inW rs n r:=by
 unfold inW
 rw[decide_eq_decide,Md ok hr]
 have tl:∀q∈rs,(hsR rs.reverse q.n).tail=hsR rs.reverse q.h:=fun q hq=>by rw[Md ok hq,List.tail_cons]
 constructor
 ·intro h
  rcases List.mem_cons.mp h with h|h
  ·rw[h];exact List.mem_cons_self
  ·unfold OA at h
   obtain⟨q,hq,e⟩:=List.mem_map.mp h
   obtain⟨hq1,hq2⟩:=List.mem_filter.mp hq
   have:=OkZ.u ok q hq1 r hr e
   subst this
   rw[tl q hq1]at hq2
   exact List.mem_cons_of_mem _ (of_decide_eq_true hq2)
 ·intro h
  rcases List.mem_cons.mp h with h|h
  ·rw[h];exact List.mem_cons_self
  ·refine List.mem_cons_of_mem _ (List.mem_map.mpr ⟨r,List.mem_filter.mpr ⟨hr,?_⟩,rfl⟩)
   rw[tl r hr];exact decide_eq_true h
theorem nG{rs:List Rz}(ok:OkZ rs){n:Tx}{r q:Rz}(hr:r∈rs)(hq:q∈rs)(e:q.n=r.h)(h:inW rs n q=true):inW rs n r=true:=by
 unfold inW at *
 rw[decide_eq_true_eq]at *
 rw[Md ok hr,<- e]
 exact List.mem_cons_of_mem _ h
theorem jX{rs:List Rz}(ok:OkZ rs){n:Tx}{r q:Rz}(hr:r∈rs)(e:q.n=r.h)(hn:r.n≠n)(h:inW rs n r=true):inW rs n q=true:=by
 unfold inW at *
 rw[decide_eq_true_eq]at *
 rw[Md ok hr]at h
 rcases List.mem_cons.mp h with z|z
 ·exact absurd z.symm hn
 ·rw[e];exact z
theorem bY{rs:List Rz}(ok:OkZ rs){R1 R2:List Rz}{r q:Rz}(e:rs=R1++r::R2)(hq:q∈R1):inW rs r.n q=false:=by
 obtain⟨o1,_,o3,_⟩:=Gz ok e
 unfold inW
 rw[decide_eq_false]
 intro h
 have hR:∀x∈R1,x∈rs:=fun x hx=>by rw[e];exact List.mem_append_left _ hx
 rw[fO (rs:=R1) (xs:=rs) o1 ok hR (.inr ⟨q,hq,rfl⟩)]at h
 obtain⟨x,hx,hxn⟩:=Og h
 exact o3 x (List.mem_reverse.mp hx) hxn
theorem wo_mem{rs:List Rz}{n:Tx}{q:Rz}:q∈woZ rs n↔q∈rs/\inW rs n q=false:=by
 unfold woZ;rw[List.mem_filter];simp
theorem wi_mem{rs:List Rz}{n:Tx}{q:Rz}:q∈wiZ rs n↔q∈rs/\inW rs n q=true:=by
 unfold wiZ;rw[List.mem_filter]
theorem dO{rs:List Rz}(ok:OkZ rs)(n:Tx):OkZ (woZ rs n):=by
 have:=UA (A:=[]) (B:=woZ rs n) trivial fun B1 r B2 e=>by
  obtain⟨R1,R2,e1,e2,e3⟩:=Mm e
  obtain⟨o1,o2,o3,o4⟩:=Gz ok e1
  have hr:r∈rs:=by rw[e1];exact List.mem_append_right _ List.mem_cons_self
  refine⟨o2,fun q hq=>o3 q ?_,o4.imp id fun⟨q,hq,hqn⟩=>⟨q,?_,hqn⟩⟩
  ·rw[List.nil_append,<- e2]at hq
   exact(List.mem_filter.mp hq).1
  ·rw[List.nil_append,<- e2,List.mem_filter]
   refine⟨hq,?_⟩
   have hq':q∈rs:=by rw[e1];exact List.mem_append_left _ hq
   rw[Bool.not_eq_true',Bool.eq_false_iff]
   intro z
   rw[nG ok hr hq' hqn z]at e3
   cases e3
 rwa [List.nil_append]at this
theorem jB{rs A:List Rz}(ok:OkZ rs){r0:Rz}(h0:r0∈rs)(oA:OkZ A)(hA:∀q∈A,q∈woZ rs r0.n)(hh:r0.h=t0\/∃q∈A,q.n=r0.h):OkZ (A++wiZ rs r0.n):=by
 refine UA oA fun B1 r B2 e=>?_
 obtain⟨R1,R2,e1,e2,e3⟩:=Mm e
 obtain⟨o1,o2,o3,o4⟩:=Gz ok e1
 have hr:r∈rs:=by rw[e1];exact List.mem_append_right _ List.mem_cons_self
 have u:=OkZ.u ok
 refine⟨o2,fun q hq z=>?_,?_⟩
 ·rcases List.mem_append.mp hq with hq|hq
  ·obtain⟨h1,h2⟩:=wo_mem.mp (hA q hq)
   rw[u q h1 r hr z]at h2
   rw[h2]at e3;cases e3
  ·rw[<- e2]at hq
   exact o3 q (List.mem_filter.mp hq).1 z
 ·by_cases hn:r.n=r0.n
  ·have:=u r hr r0 h0 hn
   subst this
   exact hh.imp id fun⟨q,hq,e⟩=>⟨q,List.mem_append_left _ hq,e⟩
  ·refine o4.imp id fun⟨q,hq,hqn⟩=>⟨q,List.mem_append_right _ ?_,hqn⟩
   rw[<- e2,List.mem_filter]
   exact⟨hq,jX ok hr hqn hn e3⟩
theorem R6{rs:List Rz}(ok:OkZ rs){r0:Rz}(h0:r0∈rs):r0.h=t0\/∃q∈woZ rs r0.n,q.n=r0.h:=by
 obtain⟨R1,R2,e⟩:=List.append_of_mem h0
 obtain⟨o1,o2,o3,o4⟩:=Gz ok e
 exact o4.imp id fun⟨q,hq,hqn⟩=>⟨q,wo_mem.mpr ⟨by rw[e];exact List.mem_append_left _ hq,bY ok e hq⟩,hqn⟩
def ID(rs:List Rz)(n:Tx):List Rz:=woZ rs n++wiZ rs n
def plc(ws:List Rz)(h:Tx):Nat:=if h=t0 then 0 else (ws.takeWhile fun q=>!decide (q.n=h)).length+1
def Ia(rs:List Rz)(n h:Tx):List Rz:=(woZ rs n).take (plc (woZ rs n) h)++wiZ rs n++(woZ rs n).drop (plc (woZ rs n) h)
theorem Xx{ws:List Rz}{h:Tx}(hn:h≠t0)(hq:∃q∈ws,q.n=h):∃P q S,ws=P++q::S/\q.n=h/\(∀x∈P,x.n≠h)/\plc ws h=P.length+1:=by
 induction ws with
 |nil=>obtain⟨q,hq,_⟩:=hq;cases hq
 |cons x ws ih =>
  by_cases hx:x.n=h
  ·refine⟨[],x,ws,rfl,hx,fun y hy=>(by cases hy),?_⟩
   unfold plc
   rw[if_neg hn,List.takeWhile_cons,decide_eq_true hx];rfl
  ·have hq':∃q∈ws,q.n=h:=by
    obtain⟨q,hq,e⟩:=hq
    rcases List.mem_cons.mp hq with rfl|hq
    ·exact absurd e hx
    ·exact⟨q,hq,e⟩
   obtain⟨P,q,S,e1,e2,e3,e4⟩:=ih hq'
   refine⟨x::P,q,S,by rw[e1];rfl,e2,fun y hy=>?_,?_⟩
   ·rcases List.mem_cons.mp hy with rfl|hy
    ·exact hx
    ·exact e3 y hy
   ·unfold plc at e4 ⊢
    rw[if_neg hn]at e4 ⊢
    rw[List.takeWhile_cons,decide_eq_false hx]
    show(x::ws.takeWhile _).length+1=_
    rw[List.length_cons,List.length_cons];omega
theorem eY{rs:List Rz}(ok:OkZ rs){r0:Rz}(h0:r0∈rs):OkZ (ID rs r0.n):=jB ok h0 (dO ok _) (fun q hq=>hq) (R6 ok h0)
theorem eX{rs:List Rz}(ok:OkZ rs){r0:Rz}(h0:r0∈rs):OkZ (Ia rs r0.n r0.h):=by
 let wo:=woZ rs r0.n
 let k:=plc wo r0.h
 have owo:=dO ok r0.n
 have oT:OkZ (wo.take k):=kK (B:=wo.drop k) (by rw[List.take_append_drop];exact owo)
 have hT:∀q∈wo.take k,q∈wo:=fun q hq=>List.mem_of_mem_take hq
 have hh:r0.h=t0\/∃q∈wo.take k,q.n=r0.h:=by
  by_cases hz:r0.h=t0
  ·exact .inl hz
  ·obtain⟨P,q,S,e1,e2,e3,e4⟩:=Xx hz ((R6 ok h0).resolve_left hz)
   refine .inr ⟨q,?_,e2⟩
   show q∈wo.take (plc wo r0.h)
   rw[show plc wo r0.h=P.length+1 from e4,show wo=P++q::S from e1,show P++q::S=(P++[q])++S by simp,List.take_left' (by simp)]
   simp
 have o2:=jB ok h0 oT hT hh
 refine UA o2 fun C1 r C2 e=>?_
 have ew:wo=(wo.take k++C1)++r::C2:=by
  conv=>lhs;rw[<- List.take_append_drop k wo]
  rw[show wo.drop k=C1++r::C2 from e];simp
 obtain⟨p1,p2,p3,p4⟩:=Gz owo ew
 have u:=OkZ.u ok
 have hrw:r∈wo:=by rw[ew];simp
 refine⟨p2,fun q hq z=>?_,p4.imp id fun⟨q,hq,hqn⟩=>⟨q,?_,hqn⟩⟩
 ·rcases List.mem_append.mp hq with hq|hq
  ·rcases List.mem_append.mp hq with hq|hq
   ·exact p3 q (List.mem_append_left _ hq) z
   ·obtain⟨h1,h2⟩:=wi_mem.mp hq
    obtain⟨h3,h4⟩:=wo_mem.mp hrw
    rw[u q h1 r h3 z,h4]at h2;cases h2
  ·exact p3 q (List.mem_append_right _ hq) z
 ·rcases List.mem_append.mp hq with hq|hq
  ·exact List.mem_append_left _ (List.mem_append_left _ hq)
  ·exact List.mem_append_right _ hq
theorem X0{rs xs:List Rz}(ok:OkZ rs)(ox:OkZ xs)(n:Tx)(h1:∀q∈rs,q∈xs)(h2:∀q∈xs,q∈rs):wiZ xs n=xs.filter (inW rs n)/\woZ xs n=xs.filter fun r=>!inW rs n r:=by
 have key:∀q∈xs,inW xs n q=inW rs n q:=fun q hq=>by
  unfold inW
  rw[fO ok ox h1 (.inr ⟨q,h2 q hq,rfl⟩)]
 constructor
 ·exact List.filter_congr fun q hq=>key q hq
 ·exact List.filter_congr fun q hq=>by rw[key q hq]
theorem fR{rs:List Rz}{n:Tx}:(wiZ rs n).filter (inW rs n)=wiZ rs n/\(wiZ rs n).filter (fun r=>!inW rs n r)=[]:=by
 constructor
 ·exact List.filter_eq_self.mpr fun q hq=>(wi_mem.mp hq).2
 ·exact List.filter_eq_nil_iff.mpr fun q hq=>by rw[(wi_mem.mp hq).2];decide
theorem VU{rs ws:List Rz}{n:Tx}(h:∀q∈ws,inW rs n q=false):ws.filter (inW rs n)=[]/\ws.filter (fun r=>!inW rs n r)=ws:=by
 constructor
 ·exact List.filter_eq_nil_iff.mpr fun q hq=>by rw[h q hq];decide
 ·exact List.filter_eq_self.mpr fun q hq=>by rw[h q hq];rfl
theorem mem_rai{rs:List Rz}{n:Tx}{q:Rz}:q∈ID rs n↔q∈rs:=by
 unfold ID
 rw[List.mem_append,wo_mem,wi_mem]
 cases inW rs n q<;>simp
theorem mem_snk{rs:List Rz}{n h:Tx}{q:Rz}:q∈Ia rs n h↔q∈rs:=by
 unfold Ia
 rw[List.mem_append,List.mem_append]
 rw[<- mem_rai (rs:=rs) (n:=n)]
 unfold ID
 rw[List.mem_append]
 constructor
 ·rintro((z|z)|z)
  ·exact .inl (List.mem_of_mem_take z)
  ·exact .inr z
  ·exact .inl (List.mem_of_mem_drop z)
 ·rintro(z|z)
  ·rw[<- List.take_append_drop (plc (woZ rs n) h) (woZ rs n)]at z
   rcases List.mem_append.mp z with z|z
   ·exact .inl (.inl z)
   ·exact .inr z
  ·exact .inl (.inr z)
theorem gH{rs:List Rz}(ok:OkZ rs){r0:Rz}(h0:r0∈rs):wiZ (ID rs r0.n) r0.n=wiZ rs r0.n/\woZ (ID rs r0.n) r0.n=woZ rs r0.n:=by
 obtain⟨e1,e2⟩:=X0 ok (eY ok h0) r0.n (fun q hq=>mem_rai.mpr hq) fun q hq=>mem_rai.mp hq
 obtain⟨a1,a2⟩:=fR (rs:=rs) (n:=r0.n)
 obtain⟨b1,b2⟩:=VU (rs:=rs) (ws:=woZ rs r0.n) (n:=r0.n) fun q hq=>(wo_mem.mp hq).2
 constructor
 ·rw[e1];unfold ID;rw[List.filter_append,a1,b1,List.nil_append]
 ·rw[e2];unfold ID;rw[List.filter_append,a2,b2,List.append_nil]
theorem gC{rs:List Rz}(ok:OkZ rs){r0:Rz}(h0:r0∈rs):wiZ (Ia rs r0.n r0.h) r0.n=wiZ rs r0.n/\woZ (Ia rs r0.n r0.h) r0.n=woZ rs r0.n:=by
 obtain⟨e1,e2⟩:=X0 ok (eX ok h0) r0.n (fun q hq=>mem_snk.mpr hq) fun q hq=>mem_snk.mp hq
 obtain⟨a1,a2⟩:=fR (rs:=rs) (n:=r0.n)
 obtain⟨b1,b2⟩:=VU (rs:=rs) (ws:=(woZ rs r0.n).take (plc (woZ rs r0.n) r0.h)) (n:=r0.n) fun q hq=>(wo_mem.mp (List.mem_of_mem_take hq)).2
 obtain⟨c1,c2⟩:=VU (rs:=rs) (ws:=(woZ rs r0.n).drop (plc (woZ rs r0.n) r0.h)) (n:=r0.n) fun q hq=>(wo_mem.mp (List.mem_of_mem_drop hq)).2
 constructor
 ·rw[e1];unfold Ia;rw[List.filter_append,List.filter_append,a1,b1,c1,List.nil_append,List.append_nil]
 ·rw[e2];unfold Ia;rw[List.filter_append,List.filter_append,a2,b2,c2,List.append_nil,List.take_append_drop]
theorem hZ{xs ys:List PyData}(h:xs.length+ys.length<=1000):SJ (.list xs) (.list ys)=some (.list (xs++ys)):=by
 show(if xs.length+ys.length<=sizeLine then _ else _)=_
 rw[if_pos (sz h)]
theorem PL{rs:List Rz}(ok:OkZ rs)(hl:rs.length<=30)(n:Tx):∃ls,Eu [.d (.list (rs.map eZ)),.d (eT n)]=some (.list ((n::OA rs n).map eT),ls):=by
 obtain⟨l1,e1⟩:=ir ok hl n
 have hi:=fN rs n
 let τ:DS:=[some (.d (.list (rs.map eZ))),some (.d (eT n))]
 refine⟨[.d (.list (rs.map eZ)),.d (eT n)],?_⟩
 unfold Eu
 exact A5 (τ:=τ) (Bs (op2 (x:=.list [eT n]) (y:=.list ((OA rs n).map eT)) (τ1:=τ) rfl (AZ (τ1:=τ) (rs:=[.d (.list (rs.map eZ)),.d (eT n)]) (ds:=[.list (rs.map eZ),eT n]) rfl rfl e1) (hZ (by rw[List.length_map];simp only[List.length_cons,List.length_nil];omega)))) rfl rfl
theorem Pq{rs:List Rz}(ok:OkZ rs)(hl:rs.length<=30)(n:Tx):∃ls,Ca [.d (.list (rs.map eZ)),.d (eT n)]=some (.list ((woZ rs n).map eZ),ls):=by
 obtain⟨l1,e1⟩:=PL ok hl n
 let N:Option L:=some (.d (.list ((n::OA rs n).map eT)))
 let τ0:DS:=[some (.d (.list (rs.map eZ))),some (.d (eT n)),none]
 let τ:DS:=[some (.d (.list (rs.map eZ))),some (.d (eT n)),N]
 refine⟨[.d (.list (rs.map eZ)),.d (eT n)],?_⟩
 unfold Ca
 refine A5 (τ:=τ) ((AR (τ1:=τ) (BX (AZ (τ1:=τ0) (rs:=[.d (.list (rs.map eZ)),.d (eT n)]) (ds:=[.list (rs.map eZ),eT n]) rfl rfl e1) rfl)).trans (Bs ?_)) rfl rfl
 have := lcg (enc := eZ) (rs := rs) (τ := τ) (fr := [2]) (it := dIL (AE 0)) (ex := [N]) (c := AW (dOp (fIn true) (AU Be (AB (AE 0) AI)) (AE 1))) (e := AE 0) (fun r => !inW rs n r) eZ rfl (by omega) rfl rfl (fun r hr => by
  let t:DS:=[some (.d (eZ r)),N]
  refine tst (op2 (x:=eT r.n) (y:=.list ((n::OA rs n).map eT)) (τ1:=t) (AZ (τ1:=t) (ds:=[eZ r]) rfl rfl (JN r)) rfl ?_)
  rw[km,Ze ok hr]) (fun r _ _=>rfl)
 exact this
theorem eG{rs:List Rz}(ok:OkZ rs)(hl:rs.length<=30)(n:Tx):∃ls,Ff [.d (.list (rs.map eZ)),.d (eT n)]=some (.list ((wiZ rs n).map eZ),ls):=by
 obtain⟨l1,e1⟩:=PL ok hl n
 let N:Option L:=some (.d (.list ((n::OA rs n).map eT)))
 let τ0:DS:=[some (.d (.list (rs.map eZ))),some (.d (eT n)),none]
 let τ:DS:=[some (.d (.list (rs.map eZ))),some (.d (eT n)),N]
 refine⟨[.d (.list (rs.map eZ)),.d (eT n)],?_⟩
 unfold Ff
 refine A5 (τ:=τ) ((AR (τ1:=τ) (BX (AZ (τ1:=τ0) (rs:=[.d (.list (rs.map eZ)),.d (eT n)]) (ds:=[.list (rs.map eZ),eT n]) rfl rfl e1) rfl)).trans (Bs ?_)) rfl rfl
 have := lcg (enc := eZ) (rs := rs) (τ := τ) (fr := [2]) (it := dIL (AE 0)) (ex := [N]) (c := AW (dOp (fIn false) (AU Be (AB (AE 0) AI)) (AE 1))) (e := AE 0) (inW rs n) eZ rfl (by omega) rfl rfl (fun r hr => by
  let t:DS:=[some (.d (eZ r)),N]
  refine tst (op2 (x:=eT r.n) (y:=.list ((n::OA rs n).map eT)) (τ1:=t) (AZ (τ1:=t) (ds:=[eZ r]) rfl rfl (JN r)) rfl ?_)
  rw[inL,Ze ok hr]) (fun r _ _=>rfl)
 exact this
theorem cP(rs:List Rz)(n:Tx):(woZ rs n).length<=rs.length:=List.length_filter_le ..
theorem cQ(rs:List Rz)(n:Tx):(wiZ rs n).length<=rs.length:=List.length_filter_le ..
theorem bf{α:Type}(p:α->Bool):∀l:List α,(l.filter fun x=>!p x).length+(l.filter p).length=l.length
 |[]=>rfl
 |x::l=>by
  have ih:=bf p l
  rw[List.filter_cons,List.filter_cons]
  cases h:p x
  ·rw[if_pos (by rfl),if_neg (by decide),List.length_cons,List.length_cons];omega
  ·rw[if_neg (by decide),if_pos rfl,List.length_cons,List.length_cons];omega
theorem eQ(rs:List Rz)(n:Tx):(ID rs n).length=rs.length:=by
 unfold ID
 rw[List.length_append]
 exact bf (inW rs n) rs
theorem j8(rs:List Rz)(n h:Tx):(Ia rs n h).length=rs.length:=by
 rw[<- eQ rs n]
 unfold Ia ID
 rw[List.length_append,List.length_append,List.length_append,List.length_take,List.length_drop]
 omega
theorem gG{rs:List Rz}(ok:OkZ rs)(hl:rs.length<=30)(n:Tx):∃ls,GC [.d (.list (rs.map eZ)),.d (eT n)]=some (.list ((ID rs n).map eZ),ls):=by
 obtain⟨l1,e1⟩:=Pq ok hl n
 obtain⟨l2,e2⟩:=eG ok hl n
 have h1:=cP rs n
 have h2:=cQ rs n
 let τ:DS:=[some (.d (.list (rs.map eZ))),some (.d (eT n))]
 refine⟨[.d (.list (rs.map eZ)),.d (eT n)],?_⟩
 unfold GC
 refine A5 (τ:=τ) (Bs (op2 (x:=.list ((woZ rs n).map eZ)) (y:=.list ((wiZ rs n).map eZ)) (τ1:=τ) (AZ (τ1:=τ) (rs:=[.d (.list (rs.map eZ)),.d (eT n)]) (ds:=[.list (rs.map eZ),eT n]) rfl rfl e1) (AZ (τ1:=τ) (rs:=[.d (.list (rs.map eZ)),.d (eT n)]) (ds:=[.list (rs.map eZ),eT n]) rfl rfl e2) ?_)) rfl rfl
 rw[hZ (by rw[List.length_map,List.length_map];omega)]
 unfold ID
 rw[List.map_append]
theorem jY{q:Rz}{S:List Rz}:∀{P:List Rz},(∀x∈P,x.n≠q.n)->Zg ((P++q::S).map eZ) (eZ q)=some P.length
 |[],_=>by
  show(if PyData.eqv (eZ q) (eZ q)=true then some 0 else _)=_
  rw[encZ.eqv,decide_eq_true rfl,if_pos rfl];rfl
 |x::P,h=>by
  show(if PyData.eqv (eZ x) (eZ q)=true then some 0 else (Zg ((P++q::S).map eZ) (eZ q)).map (·+1))=_
  have hx:=h x List.mem_cons_self
  rw[encZ.eqv,decide_eq_false (fun z=>hx (by rw[z])),if_neg (by decide),jY fun y hy=>h y (List.mem_cons_of_mem _ hy)]
  rfl
theorem Tb{ws:List Rz}(ow:OkZ ws){h:Tx}(hh:h=t0\/∃q∈ws,q.n=h):∃ls,Ed [.d (.list (ws.map eZ)),.d (eT h)]=some (.int (plc ws h:Nat),ls):=by
 let τ:DS:=[some (.d (.list (ws.map eZ))),some (.d (eT h))]
 refine⟨[.d (.list (ws.map eZ)),.d (eT h)],?_⟩
 unfold Ed
 refine A5 (τ:=τ) (Bs ?_) rfl rfl
 have c:AW (dOp fEq (AE 1) (dC (.str ""))) τ=some (decide (h=t0),τ):=tst (op2 (x:=eT h) (y:=eT t0) (τ1:=τ) rfl rfl (XR _ _))
 show dIf _ _ _ τ=_
 unfold dIf
 rw[c]
 by_cases hz:h=t0
 ·rw[decide_eq_true hz]
  show some (PyData.int 0,τ)=_
  unfold plc
  rw[if_pos hz];rfl
 ·rw[decide_eq_false hz]
  obtain⟨P,q,S,e1,e2,e3,e4⟩:=Xx hz (hh.resolve_left hz)
  have hq:q∈ws:=by rw[e1];simp
  obtain⟨l1,er⟩:=Of ow hq
  rw[e2]at er
  show dOp CM (dOp bg (AE 0) (AU Cn (AB (AE 0) (AB (AE 1) AI)))) (dC (.int 1)) τ=_
  refine(op2 (x:=.int (P.length:Nat)) (y:=.int 1) (τ1:=τ) (op2 (x:=.list (ws.map eZ)) (y:=eZ q) (τ1:=τ) rfl (AZ (τ1:=τ) (rs:=[.d (.list (ws.map eZ)),.d (eT h)]) (ds:=[.list (ws.map eZ),eT h]) rfl rfl er) ?_) rfl (r:=.int ((plc ws h:Nat):Int)) ?_)
  ·show(if okD (eZ q)&&okD (.list (ws.map eZ)) then (Zg (ws.map eZ) (eZ q)).map fun k=>PyData.int (k:Nat) else none)=_
   rw[encZ.ok,encZ.okL,e1,jY fun x hx=>by rw[e2];exact e3 x hx];rfl
  ·rw[e4]
   show some (PyData.int ((P.length:Int)+1))=some (PyData.int ((P.length+1:Nat):Int))
   rw[Int.natCast_add];rfl
theorem ji(xs:List PyData)(k:Nat):SX xs (some (k:Int)) none=xs.drop k:=by
 unfold SX
 have e:HT.sIx xs.length 0 (some (k:Int))=min k xs.length:=by
  show(if (k:Int)<0 then ((k:Int)+(xs.length:Int)).toNat else min (k:Int).toNat xs.length)=_
  rw[if_neg (by omega),Int.toNat_natCast]
 rw[e]
 show(xs.drop (min k xs.length)).take (xs.length-min k xs.length)=_
 rw[List.take_of_length_le (by rw[List.length_drop];omega)]
 by_cases h:k<=xs.length
 ·rw[Nat.min_eq_left h]
 ·rw[Nat.min_eq_right (by omega),List.drop_length,List.drop_of_length_le (by omega)]
theorem j7{rs:List Rz}(ok:OkZ rs)(hl:rs.length<=30){r0:Rz}(h0:r0∈rs):∃ls,Hz [.d (.list (rs.map eZ)),.d (eT r0.n)]=some (.list ((Ia rs r0.n r0.h).map eZ),ls):=by
 obtain⟨l1,e1⟩:=Pq ok hl r0.n
 obtain⟨l2,e2⟩:=eG ok hl r0.n
 obtain⟨l3,e3⟩:=Of ok h0
 obtain⟨l4,e4⟩:=Tb (dO ok r0.n) (R6 ok h0)
 have h1:=cP rs r0.n
 have h2:=cQ rs r0.n
 let D:PyData:=.list (rs.map eZ)
 let W:PyData:=.list ((woZ rs r0.n).map eZ)
 let k:=plc (woZ rs r0.n) r0.h
 let st:Option L->Option L->DS:=fun a b=>[some (.d D),some (.d (eT r0.n)),a,b]
 let τ1:=st (some (.d W)) none
 let τ:=st (some (.d W)) (some (.d (.int (k:Nat))))
 refine⟨[.d D,.d (eT r0.n)],?_⟩
 unfold Hz
 have z1:Ak (AU Ca (AB (AE 0) (AB (AE 1) AI))) (dN 2) (st none none)=some (.nx τ1):=BX (AZ (τ1:=st none none) (rs:=[.d D,.d (eT r0.n)]) (ds:=[D,eT r0.n]) rfl rfl e1) rfl
 have z2:Ak (AU Ed (AB (AE 2) (AB (AU Av (AB (AU Cn (AB (AE 0) (AB (AE 1) AI))) AI)) AI))) (dN 3) τ1=some (.nx τ) :=
  BX (AZ (τ1:=τ1) (rs:=[.d W,.d (eT r0.h)]) (ds:=[W,eT r0.h]) (acc (τ1:=τ1) rfl (acc (τ1:=τ1) (AZ (τ1:=τ1) (rs:=[.d (eZ r0)]) (ds:=[eZ r0]) (acc (τ1:=τ1) (AZ (τ1:=τ1) (rs:=[.d D,.d (eT r0.n)]) (ds:=[D,eT r0.n]) rfl rfl e3) rfl) rfl (HV r0)) rfl)) rfl e4) rfl
 refine A5 (τ:=τ) ((AR z1).trans ((AR z2).trans (Bs ?_))) rfl rfl
 have s1:dSl (AE 2) J6 (dPt (AE 3)) τ=some (.list (((woZ rs r0.n).take k).map eZ),τ):=by
  show some (PyData.list (SX ((woZ rs r0.n).map eZ) none (some ((k:Nat):Int))),τ)=_
  rw[fW,List.map_take]
 have s2:dSl (AE 2) (dPt (AE 3)) J6 τ=some (.list (((woZ rs r0.n).drop k).map eZ),τ):=by
  show some (PyData.list (SX ((woZ rs r0.n).map eZ) (some ((k:Nat):Int)) none),τ)=_
  rw[ji,List.map_drop]
 have t1:((woZ rs r0.n).take k).length<=(woZ rs r0.n).length:=by rw[List.length_take];omega
 have t2:((woZ rs r0.n).drop k).length<=(woZ rs r0.n).length:=by rw[List.length_drop];omega
 refine op2 (op2 s1 (AZ (τ1:=τ) (rs:=[.d D,.d (eT r0.n)]) (ds:=[D,eT r0.n]) rfl rfl e2) (hZ (by rw[List.length_map,List.length_map];omega))) s2 ?_
 rw[hZ (by rw[List.length_append,List.length_map,List.length_map,List.length_map];omega)]
 unfold Ia
 rw[List.map_append,List.map_append]
section
variable {rs:List Rz} {r0:Rz}
theorem Zo{i:Nat}{R:PyData}{l:List L}{G:List L->Option (PyData×List L)}(ok:OkZ rs)(h0:r0∈rs)(g:G [.d (.list (rs.map eZ)),.d (eT r0.n)]=some (R,l)):Ax (AU G (AB (AE 0) (AB (dOp Ag (AE 1) (dC (.int 1))) AI))) [some (.d (.list (rs.map eZ))),some (.d (dd i r0.n [])),some (.d (eT (wS i)))]=some (.rt R [some (.d (.list (rs.map eZ))),some (.d (dd i r0.n [])),some (.d (eT (wS i)))]) :=
 let τ:DS:=[some (.d (.list (rs.map eZ))),some (.d (dd i r0.n [])),some (.d (eT (wS i)))]
 Bs (AZ (τ1:=τ) (rs:=[.d (.list (rs.map eZ)),.d (eT r0.n)]) (ds:=[.list (rs.map eZ),eT r0.n]) (acc (τ1:=τ) rfl (acc (op2 (x:=dd i r0.n []) (y:=.int 1) (τ1:=τ) rfl rfl dd1) rfl)) rfl g)
theorem Vc{i:Nat}(ok:OkZ rs)(h0:r0∈rs):CU (AU Cn (AB (AE 0) (AB (dOp Ag (AE 1) (dC (.int 1))) AI))) [some (.d (.list (rs.map eZ))),some (.d (dd i r0.n [])),some (.d (eT (wS i)))]=some (.nx [some (.d (.list (rs.map eZ))),some (.d (dd i r0.n [])),some (.d (eT (wS i)))]):=by
 obtain⟨l1,e1⟩:=Of ok h0
 let τ:DS:=[some (.d (.list (rs.map eZ))),some (.d (dd i r0.n [])),some (.d (eT (wS i)))]
 unfold CU
 rw[AZ (τ1:=τ) (rs:=[.d (.list (rs.map eZ)),.d (eT r0.n)]) (ds:=[.list (rs.map eZ),eT r0.n]) (acc (τ1:=τ) rfl (acc (op2 (x:=dd i r0.n []) (y:=.int 1) (τ1:=τ) rfl rfl dd1) rfl)) rfl e1];rfl
theorem Vd{i:Nat}{X:PyData}{n:Tx}{GH:List PyData}:Ak (dOp Ag (AE 1) (dC (.int 0))) (dN 2) [some (.d X),some (.d (dd i n GH)),none]=some (.nx [some (.d X),some (.d (dd i n GH)),some (.d (eT (wS i)))]) :=
 BX (d:=eT (wS i)) (τ1:=[some (.d X),some (.d (dd i n GH)),none]) (op2 (x:=dd i n GH) (y:=.int 0) (τ1:=[some (.d X),some (.d (dd i n GH)),none]) rfl rfl dd0) rfl
theorem YH(ok:OkZ rs)(hl:rs.length<=30)(h0:r0∈rs):∃ls,Bl [.d (.list (rs.map eZ)),.d (dd 1 r0.n [])]=some (.list ((woZ rs r0.n).map eZ),ls):=by
 obtain⟨l1,e1⟩:=Pq ok hl r0.n
 let τ:DS:=[some (.d (.list (rs.map eZ))),some (.d (dd 1 r0.n [])),some (.d (eT (wS 1)))]
 refine⟨[.d (.list (rs.map eZ)),.d (dd 1 r0.n [])],?_⟩
 unfold Bl
 exact A5 (τ:=τ) ((AR Vd).trans ((AR (skw (v:=2) (i:=1) (j:=0) (τ:=τ) (by decide) (by decide) (by decide) rfl)).trans ((AR (Vc ok h0)).trans (Fh ((tkw (v:=2) (i:=1) (τ:=τ) rfl).trans (Zo ok h0 e1)))))) rfl rfl
theorem QT(ok:OkZ rs)(hl:rs.length<=30)(h0:r0∈rs):∃ls,Bl [.d (.list (rs.map eZ)),.d (dd 2 r0.n [])]=some (.list ((ID rs r0.n).map eZ),ls):=by
 obtain⟨l1,e1⟩:=gG ok hl r0.n
 let τ:DS:=[some (.d (.list (rs.map eZ))),some (.d (dd 2 r0.n [])),some (.d (eT (wS 2)))]
 refine⟨[.d (.list (rs.map eZ)),.d (dd 2 r0.n [])],?_⟩
 unfold Bl
 exact A5 (τ:=τ) ((AR Vd).trans ((AR (skw (v:=2) (i:=2) (j:=0) (τ:=τ) (by decide) (by decide) (by decide) rfl)).trans ((AR (Vc ok h0)).trans ((AR (skw (v:=2) (i:=2) (j:=1) (τ:=τ) (by decide) (by decide) (by decide) rfl)).trans (Fh ((tkw (v:=2) (i:=2) (τ:=τ) rfl).trans (Zo ok h0 e1))))))) rfl rfl
theorem SK(ok:OkZ rs)(hl:rs.length<=30)(h0:r0∈rs):∃ls,Bl [.d (.list (rs.map eZ)),.d (dd 3 r0.n [])]=some (.list ((Ia rs r0.n r0.h).map eZ),ls):=by
 obtain⟨l1,e1⟩:=j7 ok hl h0
 let τ:DS:=[some (.d (.list (rs.map eZ))),some (.d (dd 3 r0.n [])),some (.d (eT (wS 3)))]
 refine⟨[.d (.list (rs.map eZ)),.d (dd 3 r0.n [])],?_⟩
 unfold Bl
 exact A5 (τ:=τ) ((AR Vd).trans ((AR (skw (v:=2) (i:=3) (j:=0) (τ:=τ) (by decide) (by decide) (by decide) rfl)).trans ((AR (Vc ok h0)).trans ((AR (skw (v:=2) (i:=3) (j:=1) (τ:=τ) (by decide) (by decide) (by decide) rfl)).trans ((AR (skw (v:=2) (i:=3) (j:=2) (τ:=τ) (by decide) (by decide) (by decide) rfl)).trans (Fh ((tkw (v:=2) (i:=3) (τ:=τ) rfl).trans (Zo ok h0 e1)))))))) rfl rfl
theorem jg{r:Rz}(ok:OkZ (rs++[r]))(vt:VtR (rs++[r]).reverse)(hl:rs.length<=23):∃ls,Bl [.d (.list (rs.map eZ)),.d (.tuple [eT (wS 0),eZ r])]=some (.list ((rs++[r]).map eZ),ls):=by
 obtain⟨lv,ev⟩:=ma ok vt (by rw[List.length_append];simp only[List.length_cons,List.length_nil];omega)
 let D:PyData:=.list (rs.map eZ)
 let B:PyData:=.list ((rs++[r]).map eZ)
 have ep:∃ls,Iq [.d D,.d (eZ r)]=some (B,ls):=by
  let τ0:DS:=[some (.d D),some (.d (eZ r)),none]
  let τ:DS:=[some (.d D),some (.d (eZ r)),some (.d B)]
  refine⟨[.d D,.d (eZ r)],?_⟩
  unfold Iq
  have z1:Ak (dOp SJ (AE 0) (Kq (AB (AE 1) AI))) (dN 2) τ0=some (.nx τ):=by
   refine BX (d:=B) (τ1:=τ0) (op2 (x:=D) (y:=.list [eZ r]) (τ1:=τ0) rfl rfl ?_) rfl
   rw[show D = .list (rs.map eZ) from rfl,hZ (by rw[List.length_map];simp only[List.length_cons,List.length_nil];omega)]
   show some (PyData.list (rs.map eZ++[eZ r]))=some (PyData.list ((rs++[r]).map eZ))
   rw[List.map_append];rfl
  have z2:CU (AU U9 (AB (AE 2) AI)) τ=some (.nx τ):=by
   unfold CU
   rw[AZ (τ1:=τ) (rs:=[.d B]) (ds:=[B]) rfl rfl ev];rfl
  exact A5 (τ:=τ) ((AR z1).trans ((AR z2).trans rfl)) rfl rfl
 obtain⟨lp,ep⟩:=ep
 let W:PyData:=.tuple [eT (wS 0),eZ r]
 let τ:DS:=[some (.d D),some (.d W),some (.d (eT (wS 0)))]
 refine⟨[.d D,.d W],?_⟩
 unfold Bl
 exact A5 (τ:=τ) ((AR (τ1:=τ) rfl).trans (Fh ((tkw (v:=2) (i:=0) (τ:=τ) rfl).trans (Bs (AZ (τ1:=τ) (rs:=[.d D,.d (eZ r)]) (ds:=[D,eZ r]) rfl rfl ep))))) rfl rfl
end
def eP(p:PyData×PyData):PyData:=.tuple [p.1,p.2]
def Gd(rs:List Rz)(p:PyData×PyData):Prop:=∃ls,Co [.d (.list (rs.map eZ)),.d p.1,.d p.2]=some (.list (rs.map eZ),ls)
theorem js{rs:List Rz}(u:U rs)(hl:rs.length<=30){r:Rz}(hr:r∈rs)(ok:OkRow r)(hh:r.h=t0\/OkN r.h)(v:Int):∃(ps:List (PyData×PyData)) (ls:List L),JB [.d (eZ r),.d (.int v)]=some (.list (ps.map eP),ls)/\(∀p∈ps,Gd rs p)/\ps.length<=10:=by
 obtain⟨x,v1,l1,e1,x0,x1⟩:=Ik v
 obtain⟨y,v2,l2,e2,y0,y1⟩:=Ik v1
 obtain⟨d,w,l3,e3,kd,od⟩:=Vu (M7 r.d) (v2 / 64)
 let Z:Option L:=some (.d (eZ r))
 let I:Int->Option L:=fun i=>some (.d (.int i))
 let N:Option L:=none
 let WD:Option L:=some (.d (.tuple [eT (wS 8),eT (wS 9)]))
 let st:List (PyData×PyData)->DS:=fun ps=>[Z,I v2,some (.d (eT r.n)),I x,I y,WD,some (.m (ps.map eP))]
 let p1:PyData×PyData:=(dd 4 r.n [.int x,.int y],dd 4 r.n [.int r.x,.int r.y])
 let p2:PyData×PyData:=(dd (if !r.s then 9 else 8) r.n [],dd (if r.s then 9 else 8) r.n [])
 let p3:PyData×PyData:=(dd 7 r.n [eD d],dd 7 r.n [eD r.d])
 have g1 : Gd rs p1 := MI u hl hr hh (YG ok x0 x1 y0 y1) (by
  have:=YG (r:={ r with x:=x,y:=y }) ⟨ok.n1,ok.n8,ok.na,x0,x1,y0,y1,ok.d⟩ ok.x0 ok.x1 ok.y0 ok.y1
  exact this)
 have g2 : Gd rs p2 := MI u hl hr hh (Vb ok (!r.s)) (by
  have:=Vb (r:={ r with s:=!r.s }) ⟨ok.n1,ok.n8,ok.na,ok.x0,ok.x1,ok.y0,ok.y1,ok.d⟩ r.s
  exact this)
 have g3 : Gd rs p3 := MI u hl hr hh (TJ ok kd od) (by
  have:=TJ (r:={ r with d:=d }) ⟨ok.n1,ok.n8,ok.na,ok.x0,ok.x1,ok.y0,ok.y1,od⟩ (d:=r.d) kd.symm ok.d
  exact this)
 have ap:∀(ps:List (PyData×PyData)) (p:PyData×PyData) (a:DA),ps.length<=8->a (st ps)=some ([.d (eP p)],st ps)->CU (dMt 6 By a) (st ps)=some (.nx (st (ps++[p]))):=fun ps p a hz ha=>by
  refine(eB (i:=6) (d:=eP p) (xs:=ps.map eP) (τ1:=st ps) ha rfl (by rw[List.length_map];omega)).trans ?_
  show some (Out.nx [Z,I v2,some (.d (eT r.n)),I x,I y,WD,some (.m (ps.map eP++[eP p]))])=_
  rw[show ps.map eP++[eP p]=(ps++[p]).map eP by rw[List.map_append];rfl]
 have z1:Ak (dOp Ag (AE 0) (dC (.int 0))) (dN 2) [Z,I v,N,N,N,N,N]=some (.nx [Z,I v,some (.d (eT r.n)),N,N,N,N]):=rfl
 have z2:Ak (AU B8 (AB (AE 1) AI)) (dGT (A6 (dN 3) (A6 (dN 1) C5))) [Z,I v,some (.d (eT r.n)),N,N,N,N]=some (.nx [Z,I v1,some (.d (eT r.n)),I x,N,N,N]) :=
  BX (AZ (τ1:=[Z,I v,some (.d (eT r.n)),N,N,N,N]) (rs:=[.d (.int v)]) (ds:=[.int v]) rfl rfl e1) rfl
 have z3:Ak (AU B8 (AB (AE 1) AI)) (dGT (A6 (dN 4) (A6 (dN 1) C5))) [Z,I v1,some (.d (eT r.n)),I x,N,N,N]=some (.nx [Z,I v2,some (.d (eT r.n)),I x,I y,N,N]) :=
  BX (AZ (τ1:=[Z,I v1,some (.d (eT r.n)),I x,N,N,N]) (rs:=[.d (.int v1)]) (ds:=[.int v1]) rfl rfl e2) rfl
 have z6:CU (dMt 6 By (AB (BI (AB (BI (AB (dOp Ag (AE 5) (Bh MC (AB (SW (dOp Ag (AE 0) (dC (.int 4)))) AI))) (AB (AE 2) AI))) (AB (BI (AB (dOp Ag (AE 5) (Bh MC (AB (dOp Ag (AE 0) (dC (.int 4))) AI))) (AB (AE 2) AI))) AI))) AI)) (st [p1])=some (.nx (st [p1,p2])):=by
  refine ap [p1] p2 _ (by simp) ?_
  show _=some ([Ar.d (.tuple [dd (if !r.s then 9 else 8) r.n [],dd (if r.s then 9 else 8) r.n []])],st [p1])
  obtain⟨rn,rh,rx,ry,rb,rd⟩:=r
  cases rb<;>rfl
 have mD:CT (.int v2) (.int 64)=some (.int (v2 / 64)):=Fu (by decide) (by decide)
 have z7:CU (dMt 6 By (AB (BI (AB (BI (AB (dC (.str "change")) (AB (AE 2) (AB (dOp Ag (AU Bm (AB (dOp Ag (AE 0) (dC (.int 5))) (AB (dOp CT (AE 1) (dC (.int 64))) AI))) (dC (.int 0))) AI)))) (AB (BI (AB (dC (.str "change")) (AB (AE 2) (AB (dOp Ag (AE 0) (dC (.int 6))) AI)))) AI))) AI)) (st [p1,p2])=some (.nx (st [p1,p2,p3])):=by
  refine ap [p1,p2] p3 _ (by simp) ?_
  let t:=st [p1,p2]
  have da:dOp Ag (AU Bm (AB (dOp Ag (AE 0) (dC (.int 5))) (AB (dOp CT (AE 1) (dC (.int 64))) AI))) (dC (.int 0)) t=some (eD d,t) :=
   op2 (x:=.tuple [eD d,.int w]) (y:=.int 0) (τ1:=t) (AZ (τ1:=t) (rs:=[.d (eT (kS (kz r.d))),.d (.int (v2 / 64))]) (ds:=[eT (kS (kz r.d)),.int (v2 / 64)]) (acc (τ1:=t) (op2 (x:=eZ r) (y:=.int 5) (τ1:=t) rfl rfl rfl) (acc (τ1:=t) (op2 (x:=.int v2) (y:=.int 64) (τ1:=t) rfl rfl mD) rfl)) rfl e3) rfl rfl
  refine acc (τ1:=t) (Je (τ1:=t) (rs:=[.d (dd 7 r.n [eD d]),.d (dd 7 r.n [eD r.d])]) (ds:=[dd 7 r.n [eD d],dd 7 r.n [eD r.d]]) (acc (τ1:=t) (Je (τ1:=t) (rs:=[.d (eT (wS 7)),.d (eT r.n),.d (eD d)]) (ds:=[eT (wS 7),eT r.n,eD d]) (acc (τ1:=t) rfl (acc (τ1:=t) rfl (acc (τ1:=t) da rfl))) rfl (by simp)) rfl) rfl (by simp)) rfl
 let P3:=[p1,p2,p3]
 -- the turn
 have z8:∃ps,(∀p∈ps,Gd rs p)/\ps.length<=4/\BK (AW (dOp fEq (dOp Ag (AE 0) (dC (.int 5))) (dC (.str "turn")))) (CU (dMt 6 By (AB (BI (AB (BI (AB (dC (.str "turn")) (AB (AE 2) (AB (dOp EI (dOp Bn (AE 1) (dC (.int 23))) (dC (.int 11))) AI)))) (AB (BI (AB (dC (.str "turn")) (AB (AE 2) (AB (dOp EI (dC (.int 11)) (dOp Bn (AE 1) (dC (.int 23)))) AI)))) AI))) AI))) BQ (st P3)=some (.nx (st ps)):=by
  have g123:∀p∈P3,Gd rs p:=fun p hp=>by
   rcases List.mem_cons.mp hp with rfl|hp
   ·exact g1
   ·rcases List.mem_cons.mp hp with rfl|hp
    ·exact g2
    ·rw[List.mem_singleton.mp hp];exact g3
  have c:AW (dOp fEq (dOp Ag (AE 0) (dC (.int 5))) (dC (.str "turn"))) (st P3)=some (decide (kS (kz r.d)=kS 7),st P3):=tst (op2 (x:=eT (kS (kz r.d))) (y:=eT (kS 7)) (τ1:=st P3) (op2 (x:=eZ r) (y:=.int 5) (τ1:=st P3) rfl rfl rfl) rfl (XR _ _))
  by_cases h:kS (kz r.d)=kS 7
  ·have hk:=LV (M7 _) (by decide) h
   obtain⟨q,f,hd⟩:∃q f,r.d = .turn q f:=by
    cases hrd:r.d<;>rw[hrd]at hk<;>simp[kz]at hk
    exact⟨_,_,rfl⟩
   let k:=v2 % 23-11
   let p4:PyData×PyData:=(dd 5 r.n [.int k],dd 5 r.n [.int (11-v2 % 23)])
   have oq:WE r.d:=ok.d
   rw[hd]at oq
   obtain⟨q0,q1⟩:=oq
   have g4 : Gd rs p4 := MI u hl hr hh (YE ok (k := k) hd) (by
    have:=YE (r:={ r with d:=.turn ((q+k) % 4) f }) ⟨ok.n1,ok.n8,ok.na,ok.x0,ok.x1,ok.y0,ok.y1,by show 0<=(q+k) % 4;omega,by show(q+k) % 4<=3;omega⟩ (q:=(q+k) % 4) (f:=f) (k:=11-v2 % 23) rfl
    have e:((q+k) % 4+(11-v2 % 23)) % 4=q:=by show((q+(v2 % 23-11)) % 4+(11-v2 % 23)) % 4=q;omega
    rw[e]at this
    have er:({ ({ r with d:=.turn ((q+k) % 4) f }:Rz)with d:=.turn q f }:Rz)=r:=by obtain⟨a1,a2,a3,a4,a5,a6⟩:=r;cases hd;rfl
    rw[er]at this
    exact this)
   refine⟨P3++[p4],fun p hp=>?_,by simp[P3],(M8 (τ1:=st P3) (by rw[c,decide_eq_true h])).trans (ap P3 p4 _ (by simp[P3]) ?_)⟩
   ·rcases List.mem_append.mp hp with z|z
    ·exact g123 p z
    ·rw[List.mem_singleton.mp z];exact g4
   ·have m:=EF (i:=v2) (j:=23) (by decide)
    let t:=st P3
    have a1:dOp EI (dOp Bn (AE 1) (dC (.int 23))) (dC (.int 11)) t=some (.int k,t):=op2 (x:=.int (v2 % 23)) (y:=.int 11) (τ1:=t) (op2 (x:=.int v2) (y:=.int 23) (τ1:=t) rfl rfl m) rfl rfl
    have a2:dOp EI (dC (.int 11)) (dOp Bn (AE 1) (dC (.int 23))) t=some (.int (11-v2 % 23),t):=op2 (x:=.int 11) (y:=.int (v2 % 23)) (τ1:=t) rfl (op2 (x:=.int v2) (y:=.int 23) (τ1:=t) rfl rfl m) rfl
    exact acc (τ1:=t) (Je (τ1:=t) (rs:=[.d p4.1,.d p4.2]) (ds:=[p4.1,p4.2]) (acc (τ1:=t) (Je (τ1:=t) (rs:=[.d (eT (wS 5)),.d (eT r.n),.d (.int k)]) (ds:=[eT (wS 5),eT r.n,.int k]) (acc (τ1:=t) rfl (acc (τ1:=t) rfl (acc (τ1:=t) a1 rfl))) rfl (by simp)) (acc (τ1:=t) (Je (τ1:=t) (rs:=[.d (eT (wS 5)),.d (eT r.n),.d (.int (11-v2 % 23))]) (ds:=[eT (wS 5),eT r.n,.int (11-v2 % 23)]) (acc (τ1:=t) rfl (acc (τ1:=t) rfl (acc (τ1:=t) a2 rfl))) rfl (by simp)) rfl)) rfl (by simp)) rfl
  ·exact⟨P3,g123,by simp[P3],(Cp (τ1:=st P3) (by rw[c,decide_eq_false h])).trans rfl⟩
 obtain⟨ps,gps,lps,z8⟩:=z8
 have z9:∃qs,(∀p∈qs,Gd rs p)/\qs.length<=5/\BK (AW (dOp (fIn false) (dOp Ag (AE 0) (dC (.int 5))) (BI (AB (dC (.str "plate")) (AB (dC (.str "window")) AI))))) (CU (dMt 6 By (AB (BI (AB (BI (AB (dC (.str "size")) (AB (AE 2) (AB (dOp CM (dC (.int 1)) (dOp Bn (AE 1) (dC (.int 12)))) (AB (dOp CM (dC (.int 1)) (dOp Bn (dOp CT (AE 1) (dC (.int 12))) (dC (.int 12)))) AI))))) (AB (BI (AB (dC (.str "size")) (AB (AE 2) (AB (dOp Ag (dOp Ag (AE 0) (dC (.int 6))) (dC (.int 0))) (AB (dOp Ag (dOp Ag (AE 0) (dC (.int 6))) (dC (.int 1))) AI))))) AI))) AI))) BQ (st ps)=some (.nx (st qs)):=by
  let t:=st ps
  have c:AW (dOp (fIn false) (dOp Ag (AE 0) (dC (.int 5))) (BI (AB (dC (.str "plate")) (AB (dC (.str "window")) AI)))) t=some (decide (kS (kz r.d)∈[kS 0,kS 6]),t):=tst (op2 (x:=eT (kS (kz r.d))) (y:=.tuple ([kS 0,kS 6].map eT)) (τ1:=t) (op2 (x:=eZ r) (y:=.int 5) (τ1:=t) rfl rfl rfl) rfl (inT _ _))
  by_cases h:kS (kz r.d)∈[kS 0,kS 6]
  ·have hk:kz r.d=0\/kz r.d=6:=by
    rcases List.mem_cons.mp h with z|z
    ·exact .inl (LV (M7 _) (by decide) z)
    ·exact .inr (LV (M7 _) (by decide) (List.mem_singleton.mp z))
   let w':=1+v2 % 12
   let h':=1+v2 / 12 % 12
   have b1:1<=w'/\w'<=12:=by constructor<;>(show _<=_;omega)
   have b2:1<=h'/\h'<=12:=by constructor<;>(show _<=_;omega)
   obtain⟨w0,h0,d',fd,fb,od',ob,kd',e6,e7⟩:∃(w0 h0:Int) (d':Dz),((∃a b,r.d = .plate w0 h0 a b/\d' = .plate w' h' a b)\/∃x y,r.d = .window w0 h0 x y/\d' = .window w' h' x y)/\((∃a b,d' = .plate w' h' a b/\r.d = .plate w0 h0 a b)\/∃x y,d' = .window w' h' x y/\r.d = .window w0 h0 x y)/\WE d'/\WE r.d/\kz d'=kz r.d/\Ag (eD r.d) (.int 0)=some (.int w0)/\Ag (eD r.d) (.int 1)=some (.int h0):=by
    have od:=ok.d
    cases hrd:r.d with
    |plate w0 h0 a b =>
     rw[hrd]at od
     obtain⟨_,_,_,_,oa,ob⟩:=od
     exact⟨w0,h0,.plate w' h' a b,.inl ⟨a,b,rfl,rfl⟩,.inl ⟨a,b,rfl,rfl⟩,⟨b1.1,b1.2,b2.1,b2.2,oa,ob⟩,(by have:=ok.d;rw[hrd]at this;exact this),rfl,rfl,rfl⟩
    |window w0 h0 a b =>
     rw[hrd]at od
     obtain⟨_,_,_,_,q1,q2,q3,q4⟩:=od
     exact⟨w0,h0,.window w' h' a b,.inr ⟨a,b,rfl,rfl⟩,.inr ⟨a,b,rfl,rfl⟩,⟨b1.1,by have:=b1.2;show w'<=16;omega,b2.1,by have:=b2.2;show h'<=16;omega,q1,q2,q3,q4⟩,(by have:=ok.d;rw[hrd]at this;exact this),rfl,rfl,rfl⟩
    |_=>rw[hrd]at hk;simp[kz]at hk
   let p5:PyData×PyData:=(dd 6 r.n [.int w',.int h'],dd 6 r.n [.int w0,.int h0])
   have g5 : Gd rs p5 := MI u hl hr hh (YF ok fd od') (by
    have:=YF (r:={ r with d:=d' }) ⟨ok.n1,ok.n8,ok.na,ok.x0,ok.x1,ok.y0,ok.y1,od'⟩ (w:=w') (h:=h') (w':=w0) (h':=h0) (d':=r.d) fb ob
    exact this)
   refine⟨ps++[p5],fun p hp=>?_,by rw[List.length_append];simp only[List.length_cons,List.length_nil];omega,(M8 (τ1:=t) (by rw[c,decide_eq_true h])).trans (ap ps p5 _ (by omega) ?_)⟩
   ·rcases List.mem_append.mp hp with z|z
    ·exact gps p z
    ·rw[List.mem_singleton.mp z];exact g5
   ·have m1:=EF (i:=v2) (j:=12) (by decide)
    have m2:=Fu (i:=v2) (j:=12) (by decide) (by decide)
    have m3:=EF (i:=v2 / 12) (j:=12) (by decide)
    have a1:dOp CM (dC (.int 1)) (dOp Bn (AE 1) (dC (.int 12))) t=some (.int w',t):=op2 (x:=.int 1) (y:=.int (v2 % 12)) (τ1:=t) rfl (op2 (x:=.int v2) (y:=.int 12) (τ1:=t) rfl rfl m1) rfl
    have a2:dOp CM (dC (.int 1)) (dOp Bn (dOp CT (AE 1) (dC (.int 12))) (dC (.int 12))) t=some (.int h',t):=op2 (x:=.int 1) (y:=.int (v2 / 12 % 12)) (τ1:=t) rfl (op2 (x:=.int (v2 / 12)) (y:=.int 12) (τ1:=t) (op2 (x:=.int v2) (y:=.int 12) (τ1:=t) rfl rfl m2) rfl m3) rfl
    have a3:dOp Ag (dOp Ag (AE 0) (dC (.int 6))) (dC (.int 0)) t=some (.int w0,t):=op2 (x:=eD r.d) (y:=.int 0) (τ1:=t) (op2 (x:=eZ r) (y:=.int 6) (τ1:=t) rfl rfl rfl) rfl e6
    have a4:dOp Ag (dOp Ag (AE 0) (dC (.int 6))) (dC (.int 1)) t=some (.int h0,t):=op2 (x:=eD r.d) (y:=.int 1) (τ1:=t) (op2 (x:=eZ r) (y:=.int 6) (τ1:=t) rfl rfl rfl) rfl e7
    exact acc (τ1:=t) (Je (τ1:=t) (rs:=[.d p5.1,.d p5.2]) (ds:=[p5.1,p5.2]) (acc (τ1:=t) (Je (τ1:=t) (rs:=[.d (eT (wS 6)),.d (eT r.n),.d (.int w'),.d (.int h')]) (ds:=[eT (wS 6),eT r.n,.int w',.int h']) (acc (τ1:=t) rfl (acc (τ1:=t) rfl (acc (τ1:=t) a1 (acc (τ1:=t) a2 rfl)))) rfl (by simp)) (acc (τ1:=t) (Je (τ1:=t) (rs:=[.d (eT (wS 6)),.d (eT r.n),.d (.int w0),.d (.int h0)]) (ds:=[eT (wS 6),eT r.n,.int w0,.int h0]) (acc (τ1:=t) rfl (acc (τ1:=t) rfl (acc (τ1:=t) a3 (acc (τ1:=t) a4 rfl)))) rfl (by simp)) rfl)) rfl (by simp)) rfl
  ·exact⟨ps,gps,by omega,(Cp (τ1:=t) (by rw[c,decide_eq_false h])).trans rfl⟩
 obtain⟨qs,gqs,lqs,z9⟩:=z9
 refine⟨qs,[.d (eZ r),.d (.int v)],?_,gqs,by omega⟩
 unfold JB
 refine A5 (τ:=st qs) ?_ rfl rfl
 exact(AR z1).trans ((AR z2).trans ((AR z3).trans ((AR (τ1:=[Z,I v2,some (.d (eT r.n)),I x,I y,WD,N]) rfl).trans ((AR (τ1:=st [p1]) rfl).trans ((AR z6).trans ((AR z7).trans ((AR z8).trans ((AR z9).trans rfl))))))))
def wD(k:Nat):Str:=match Pf [.int (k:Int)] with
 |some (.str s)=>("w":Str)++s
 |_=>""
def oQ(k:Nat):Bool:=(match Pf [.int (k:Int)] with
 |some (.str s)=>decide (s.length<=7)
 |_=>false)&&PyData.strOk (wD k)&&decide (1<=(wD k).length)&&decide ((wD k).length<=8)&&(wD k).cps.toList.all fun c=>alN.cps.toList.contains c
theorem jC:∀k:Fin 30,oQ k.1=true:=∅
theorem YT{k:Nat}(hk:k<30):PyData.strOk (wD k)=true/\1<=(wD k).length/\(wD k).length<=8/\KZ alN (wD k)/\∃s,Pf [.int (k:Int)]=some (.str s)/\s.length<=7/\wD k=("w":Str)++s:=by
 have h:=jC ⟨k,hk⟩
 unfold oQ at h
 simp only[Bool.and_eq_true,decide_eq_true_eq,List.all_eq_true]at h
 obtain⟨⟨⟨⟨h1,h2⟩,h3⟩,h4⟩,h5⟩:=h
 refine⟨h2,h3,h4,fun c hc=>by simpa using h5 c hc,?_⟩
 unfold wD
 split at h1
 ·rename_i s e
  rw[e]
  exact⟨s,rfl,of_decide_eq_true h1,rfl⟩
 ·cases h1
def wT(k:Nat):Tx:=if h:k<30 then ⟨wD k,(YT h).1⟩ else t0
theorem lQ{k:Nat}(h:k<30):(wT k).1=wD k:=by unfold wT;rw[dif_pos h]
theorem ia{α:Type}[DecidableEq α]:∀{xs ys:List α},xs.Nodup->(∀x∈xs,x∈ys)->xs.length<=ys.length
 |[],_,_,_=>Nat.zero_le _
 |x::xs,ys,nd,h=>by
  obtain⟨n1,n2⟩:=List.nodup_cons.mp nd
  have hx:=h x List.mem_cons_self
  have ih:=ia (xs:=xs) (ys:=ys.erase x) n2 fun y hy=>(List.mem_erase_of_ne (fun(z:y=x)=>n1 (by rw[<- z];exact hy))).mpr (h y (List.mem_cons_of_mem _ hy))
  rw[List.length_erase_of_mem hx]at ih
  have:=List.length_pos_of_mem hx
  rw[List.length_cons];omega
theorem iE:((List.range 30).map wT).Nodup:=∅
theorem nj{k:Nat}(h:k<30):OkN (wT k):=by
 obtain⟨_,h1,h8,ha,_⟩:=YT h
 refine⟨?_,?_,?_⟩<;>rw[lQ h]<;>assumption
theorem ko{rs:List Rz}(hl:rs.length<=23):∃(f:Tx) (fs:List Tx),((List.range 30).map wT).filter (fun t=>!decide (t∈rs.map (·.n)))=f::fs/\OkN f/\(∀q∈rs,q.n≠f)/\fs.length<=30:=by
 cases e:((List.range 30).map wT).filter (fun t=>!decide (t∈rs.map (·.n))) with
 |nil =>
  have h:∀t∈(List.range 30).map wT,t∈rs.map (·.n):=fun t ht=>by
   have:=List.filter_eq_nil_iff.mp e t ht
   simpa using this
  have:=ia iE h
  rw[List.length_map,List.length_map,List.length_range]at this
  omega
 |cons f fs =>
  have hf:f∈((List.range 30).map wT).filter (fun t=>!decide (t∈rs.map (·.n))):=by rw[e];exact List.mem_cons_self
  obtain⟨h1,h2⟩:=List.mem_filter.mp hf
  obtain⟨k,hk,rfl⟩:=List.mem_map.mp h1
  refine⟨_,fs,rfl,nj (List.mem_range.mp hk),fun q hq z=>?_,?_⟩
  ·rw[decide_eq_true (List.mem_map.mpr ⟨q,hq,z⟩)]at h2;cases h2
  ·have:=List.length_filter_le (fun t=>!decide (t∈rs.map (·.n))) ((List.range 30).map wT)
   rw[e,List.length_map,List.length_range,List.length_cons]at this
   omega
theorem mV{rs:List Rz}{r:Rz}(ok:OkZ (rs++[r])):woZ (rs++[r]) r.n=rs:=by
 unfold woZ
 have h1:rs.filter (fun q=>!inW (rs++[r]) r.n q)=rs:=List.filter_eq_self.mpr fun q hq=>by rw[bY ok (R1:=rs) (R2:=[]) rfl hq];rfl
 have h2:inW (rs++[r]) r.n r=true:=by
  unfold inW
  rw[Md ok (List.mem_append_right _ List.mem_cons_self)]
  exact decide_eq_true List.mem_cons_self
 rw[List.filter_append,h1,List.filter_cons,h2]
 simp
theorem bR(ns:List Int)(hns:ns.length<=63):∃ls,VA [.c (ns.map .int)]=some (.bool true,ls):=by
  obtain⟨v,lb,eb⟩:=fo (ns:=ns) (k:=0) (by decide)
  have d12:=EF (i:=v) (j:=12) (by decide)
  obtain⟨c,lc,ec',hc⟩:=kY (ns:=ns) (a:=1+v % 12) (b:=23)
  have c1:1<=c:=by rcases hc with rfl|rfl<;>omega
  have c23:c<=23:=by rcases hc with rfl|rfl<;>omega
  obtain⟨rs,lr,er,ok,vt,hle,hpos⟩:=aO (ns:=ns) (f:=1) (m:=c) (by decide) (by omega) (by omega)
  have hpos:=hpos c1
  have hl:rs.length<=23:=by omega
  have u:=OkZ.u ok
  let D:PyData:=.list (rs.map eZ)
  let C:Option L:=some (.c (ns.map .int))
  let R:Option L:=some (.d D)
  let I:Int->Option L:=fun i=>some (.d (.int i))
  let N:Option L:=none
  -- the row
  have hn0:(0:Int)<(rs.length:Int):=by omega
  have k0:=Int.emod_nonneg (v / 12) (show(rs.length:Int)≠0 by omega)
  have k1:=Int.emod_lt_of_pos (v / 12) hn0
  obtain⟨r,ea,ha2⟩:=Gn (enc:=eZ) (xs:=rs) k0 k1
  have hr:r∈rs:=List.mem_of_getElem? ha2
  have okr:=OkR.all ok r (List.mem_reverse.mpr hr)
  obtain⟨R1,R2,eR⟩:=List.append_of_mem hr
  have hh:r.h=t0\/OkN r.h:=(Gz ok eR).2.2.2.imp id fun⟨q,hq,e⟩=>e▸(OkR.all ok q (List.mem_reverse.mpr (by rw[eR];exact List.mem_append_left _ hq))).nm
  let Z:Option L:=some (.d (eZ r))
  let T:Option L:=some (.d (eT r.n))
  let st:Option L->Option L->Option L->Option L->Option L->Option L->Option L->Option L->Option L->Option L->DS:=fun o5 o6 o7 o8 o9 o10 o11 o12 o13 o14=>[C,I v,R,Z,T,o5,o6,o7,o8,o9,o10,o11,o12,o13,o14]
  let s0:DS:=[C,N,N,N,N,N,N,N,N,N,N,N,N,N,N]
  let s1:DS:=[C,I v,N,N,N,N,N,N,N,N,N,N,N,N,N]
  let s2:DS:=[C,I v,R,N,N,N,N,N,N,N,N,N,N,N,N]
  let s3:DS:=[C,I v,R,Z,N,N,N,N,N,N,N,N,N,N,N]
  have z1:Ak (Bf 0 Fq (AB (dC (.int 0)) AI)) (dN 1) s0=some (.nx s1):=BX (Kv (xs:=ns.map .int) (τ1:=s0) (rs:=[.d (.int 0)]) (ds:=[.int 0]) rfl rfl rfl eb) rfl
  have z2:Ak (Bf 0 Fp (AB (dC (.int 1)) (AB (Bf 0 JP (AB (dOp CM (dC (.int 1)) (dOp Bn (AE 1) (dC (.int 12)))) (AB (dC (.int 23)) AI))) AI))) (dN 2) s1=some (.nx s2):=by
    refine BX (d:=D) (τ1:=s1) (Kv (xs:=ns.map .int) (τ1:=s1) (rs:=[.d (.int 1),.d (.int c)]) (ds:=[.int 1,.int c]) (acc (τ1:=s1) rfl (acc (τ1:=s1) ?_ rfl)) rfl rfl er) rfl
    exact Kv (xs:=ns.map .int) (τ1:=s1) (rs:=[.d (.int (1+v % 12)),.d (.int 23)]) (ds:=[.int (1+v % 12),.int 23]) (acc (τ1:=s1) (op2 (x:=.int 1) (y:=.int (v % 12)) (τ1:=s1) rfl (op2 (x:=.int v) (y:=.int 12) (τ1:=s1) rfl rfl d12) rfl) rfl) rfl rfl ec'
  have z3:Ak (dOp JZ (AE 2) (dOp Bn (dOp CT (AE 1) (dC (.int 12))) (Bh Dw (AB (AE 2) AI)))) (dN 3) s2=some (.nx s3):=by
    refine BX (d:=eZ r) (τ1:=s2) (op2 (x:=D) (y:=.int (v / 12 % (rs.length:Int))) (τ1:=s2) rfl (op2 (x:=.int (v / 12)) (y:=.int (rs.length:Int)) (τ1:=s2) (op2 (x:=.int v) (y:=.int 12) (τ1:=s2) rfl rfl (Fu (by decide) (by decide))) (Mv (d:=D) (τ1:=s2) rfl ?_) (EF hn0)) ea) rfl
    show some (PyData.int ((rs.map eZ).length:Int))=_
    rw[List.length_map]
  have z4:Ak (dOp Ag (AE 3) (dC (.int 0))) (dN 4) s3=some (.nx (st N N N N N N N N N N)):=rfl
  -- there and back
  obtain⟨v13,l13,e13⟩:=fo (ns:=ns) (k:=13) (by decide)
  obtain⟨ps,lps,eps,gps,hps⟩:=js u (by omega) hr okr hh v13
  obtain⟨lsr,esr⟩:=Yn (rs:=rs) (by omega)
  have it5:dIL (AU JB (AB (AE 3) (AB (Bf 0 Fq (AB (dC (.int 13)) AI)) AI))) (st N N N N N N N N N N)=some (ps.map eP,st N N N N N N N N N N):=by
    unfold dIL
    rw[AZ (τ1:=st N N N N N N N N N N) (rs:=[.d (eZ r),.d (.int v13)]) (ds:=[eZ r,.int v13]) (acc (τ1:=st N N N N N N N N N N) rfl (acc (τ1:=st N N N N N N N N N N) (Kv (xs:=ns.map .int) (τ1:=st N N N N N N N N N N) (rs:=[.d (.int 13)]) (ds:=[.int 13]) rfl rfl rfl e13) rfl)) rfl eps]
    rfl
  have lp := Ge (enc := eP) (xs := ps) (τ := st N N N N N N N N N N) (g := dGT (A6 (dN 5) (A6 (dN 6) C5))) (b := BK (Ck (AW (AU Dg (AB (AU Co (AB (AE 2) (AB (AE 5) (AB (AE 6) AI)))) (AB (AE 2) AI))))) (Ax (dC (.bool false))) BQ) (fun (pre : List (PyData × PyData)) τ => ∃ o5 o6, nM o5 /\ nM o6 /\ τ = st o5 o6 N N N N N N N N) ⟨N, N, De, De, rfl⟩ (by
    rintro pre p post τ e ⟨o5,o6,n5,n6,rfl⟩
    obtain⟨lg,eg⟩:=gps p (Oe e)
    let t:=st (some (.d p.1)) (some (.d p.2)) N N N N N N N N
    refine⟨t,t,?_,?_,_,_,IP,IP,rfl⟩
    · show(dN 5 p.1 (st o5 o6 N N N N N N N N)).bind _=_
      rw[HJ (o:=o5) rfl n5]
      show(dN 6 p.2 (st (some (.d p.1)) o6 N N N N N N N N)).bind _=_
      rw[HJ (o:=o6) rfl n6];rfl
    · exact(Cp (τ1:=t) (ND (b:=true) (tst (AZ (τ1:=t) (rs:=[.d D,.d D]) (ds:=[D,D]) (acc (τ1:=t) (AZ (τ1:=t) (rs:=[.d D,.d p.1,.d p.2]) (ds:=[D,p.1,p.2]) rfl rfl eg) rfl) rfl esr)))).trans rfl)
  obtain⟨τ',e5,o5,o6,n5,n6,rfl⟩:=lp
  -- put and take
  obtain⟨v14,l14,e14⟩:=fo (ns:=ns) (k:=14) (by decide)
  obtain⟨mo,w,lm,em,okm,mh,mt⟩:=TY ok (by omega) v14
  let MO:Option L:=some (.d (eZ mo))
  let t6:=st o5 o6 N N N N N N N N
  let t7:=st o5 o6 MO (I w) N N N N N N
  have z6:Ak (AU Ee (AB (AE 2) (AB (Bf 0 Fq (AB (dC (.int 14)) AI)) AI))) (dGT (A6 (dN 7) (A6 (dN 8) C5))) t6=some (.nx t7) :=
    BX (AZ (τ1:=t6) (rs:=[.d D,.d (.int v14)]) (ds:=[D,.int v14]) (acc (τ1:=t6) rfl (acc (τ1:=t6) (Kv (xs:=ns.map .int) (τ1:=t6) (rs:=[.d (.int 14)]) (ds:=[.int 14]) rfl rfl rfl e14) rfl)) rfl em) rfl
  obtain⟨f,fs,efs,okf,hnf,hfs⟩:=ko hl
  let FS:Option L:=some (.d (.list ((f::fs).map eT)))
  let t9:=st o5 o6 MO (I w) FS N N N N N
  have z7:Ak (dLC 1 [2] (dIL (dLC 1 [] (dR1 (AB (dC (.int 30)) AI)) (dN 0) FD (dOp Kj (dC (.str "w")) (Bh Pf (AB (AE 0) AI))))) (dN 0) (AW (dOp (fIn true) (AE 0) (dLC 1 [] (dIL (AE 1)) (dN 0) FD (dOp Ag (AE 0) (dC (.int 0)))))) (AE 0)) (dN 9) t7=some (.nx t9):=by
    have l1:dLC 1 [] (dR1 (AB (dC (.int 30)) AI)) (dN 0) FD (dOp Kj (dC (.str "w")) (Bh Pf (AB (AE 0) AI))) t7=some (.list (((List.range 30).map wT).map eT),t7):=by
      have hit:dR1 (AB (dC (.int 30)) AI) t7=some ((List.range 30).map (fun(k:Nat)=>PyData.int (k:Int)),t7):=by
        rw[Ss (n:=30) (τ1:=t7) rfl (by decide) (by decide),show((30:Int).toNat)=30 from rfl,Qn]
      have := lcg (enc := fun (k : Nat) => PyData.int (k : Int)) (rs := List.range 30) (τ := t7) (fr := []) (ex := []) (c := FD) (e := dOp Kj (dC (.str "w")) (Bh Pf (AB (AE 0) AI))) (fun _ => true) (fun k => eT (wT k)) hit (by rw [List.length_range]; decide) rfl rfl (fun _ _ => rfl) (fun k hk _ => by
        have hk:=List.mem_range.mp hk
        obtain⟨_,_,_,_,s,e1,e2,e3⟩:=YT hk
        let t:DS:=[some (.d (.int (k:Int)))]
        refine op2 (x:=.str "w") (y:=.str s) (τ1:=t) rfl (Mv (d:=.int (k:Int)) (τ1:=t) rfl e1) ?_
        show(if (("w":Str)).length+s.length<=sizeLine then some (PyData.str (("w":Str)++s)) else none)=_
        rw [if_pos (sz (by have : (("w" : Str)).length = 1 := by decide +kernel
                           omega)),<- e3]
        unfold eT
        rw[lQ hk])
      rw[this,HF,List.map_map];rfl
    have hit:dIL (dLC 1 [] (dR1 (AB (dC (.int 30)) AI)) (dN 0) FD (dOp Kj (dC (.str "w")) (Bh Pf (AB (AE 0) AI)))) t7=some (((List.range 30).map wT).map eT,t7):=by
      unfold dIL
      rw[l1];rfl
    have := lcg (enc := eT) (rs := (List.range 30).map wT) (τ := t7) (fr := [2]) (ex := [R]) (c := AW (dOp (fIn true) (AE 0) (dLC 1 [] (dIL (AE 1)) (dN 0) FD (dOp Ag (AE 0) (dC (.int 0)))))) (e := AE 0) (fun t => !decide (t ∈ rs.map (·.n))) eT hit (by rw [List.length_map, List.length_range]; decide) rfl rfl (fun t _ => by
      let s:DS:=[some (.d (eT t)),R]
      have l2:dLC 1 [] (dIL (AE 1)) (dN 0) FD (dOp Ag (AE 0) (dC (.int 0))) s=some (.list ((rs.map (·.n)).map eT),s):=by
        have:=lcg (enc:=eZ) (rs:=rs) (τ:=s) (fr:=[]) (it:=dIL (AE 1)) (ex:=[]) (c:=FD) (e:=dOp Ag (AE 0) (dC (.int 0))) (fun _=>true) (fun r=>eT r.n) rfl (by omega) rfl rfl (fun _ _=>rfl) (fun _ _ _=>rfl)
        rw[this,HF,List.map_map];rfl
      exact tst (op2 (x:=eT t) (y:=.list ((rs.map (·.n)).map eT)) (τ1:=s) rfl l2 (km _ _))) (fun _ _ _=>rfl)
    rw[efs]at this
    exact BX this rfl
  let r':Rz:={ mo with n:=f }
  have er':(rs++[r']).reverse=r'::rs.reverse:=by simp
  have okp:OkZ (rs++[r']):=by
    show OkR (rs++[r']).reverse
    rw[er']
    exact⟨ok,⟨okf.n1,okf.n8,okf.na,okm.x0,okm.x1,okm.y0,okm.y1,okm.d⟩,fun q hq=>hnf q (List.mem_reverse.mp hq),mh.imp id fun⟨q,hq,e,_⟩=>⟨q,List.mem_reverse.mpr hq,e⟩⟩
  have vtp:VtR (rs++[r']).reverse:=by
    rw[er']
    exact⟨vt,mh.imp id fun⟨q,hq,e,h4,h7⟩=>⟨q,List.mem_reverse.mpr hq,e,h4,h7⟩,fun h8 q hq=>mt h8 q (List.mem_reverse.mp hq)⟩
  obtain⟨lpu,epu⟩:=jg okp vtp hl
  obtain⟨ltk,etk⟩:=YH okp (by rw[List.length_append];simp only[List.length_cons,List.length_nil];omega) (List.mem_append_right rs (List.mem_cons_self (a:=r') (l:=[])))
  rw[mV okp]at etk
  obtain⟨lpt,ept⟩:=Ol rfl epu etk
  have f0:∀t:DS,t[9]?=some FS->dOp JZ (AE 9) (dC (.int 0)) t=some (eT f,t):=fun t ht=>op2 (x:=.list ((f::fs).map eT)) (y:=.int 0) (τ1:=t) (by unfold AE;rw[ht]) rfl at0
  have z8:BK (Ck (AW (AU Dg (AB (AU Co (AB (AE 2) (AB (BI (AB (dC (.str "put")) (AB (dOp MD (BI (AB (dOp JZ (AE 9) (dC (.int 0))) AI)) (NV (AE 7) (dPt (dC (.int 1))) J6)) AI))) (AB (BI (AB (dC (.str "take")) (AB (dOp JZ (AE 9) (dC (.int 0))) AI))) AI)))) (AB (AE 2) AI))))) (Ax (dC (.bool false))) BQ t9=some (.nx t9):=by
    have hp:dOp MD (BI (AB (dOp JZ (AE 9) (dC (.int 0))) AI)) (NV (AE 7) (dPt (dC (.int 1))) J6) t9=some (eZ r',t9) :=
      op2 (x:=.tuple [eT f]) (y:=.tuple [eT mo.h,.int mo.x,.int mo.y,.bool mo.s,eT (kS (kz mo.d)),eD mo.d]) (τ1:=t9) (Je (τ1:=t9) (rs:=[.d (eT f)]) (ds:=[eT f]) (acc (f0 t9 rfl) rfl) rfl (by simp)) rfl rfl
    refine(Cp (τ1:=t9) (ND (b:=true) (tst (AZ (τ1:=t9) (rs:=[.d D,.d D]) (ds:=[D,D]) (acc (τ1:=t9) (AZ (τ1:=t9) (rs:=[.d D,.d (.tuple [eT (wS 0),eZ r']),.d (dd 1 f [])]) (ds:=[D,.tuple [eT (wS 0),eZ r'],dd 1 f []]) (acc (τ1:=t9) rfl (acc (τ1:=t9) (Je (τ1:=t9) (rs:=[.d (eT (wS 0)),.d (eZ r')]) (ds:=[eT (wS 0),eZ r']) (acc (τ1:=t9) rfl (acc hp rfl)) rfl (by simp)) (acc (τ1:=t9) (Je (τ1:=t9) (rs:=[.d (eT (wS 1)),.d (eT f)]) (ds:=[eT (wS 1),eT f]) (acc (τ1:=t9) rfl (acc (f0 t9 rfl) rfl)) rfl (by simp)) rfl))) rfl ept) rfl) rfl esr)))).trans rfl
  -- raise and sink
  have okA:=eY ok hr
  have okB:=eX ok hr
  have hA:r∈ID rs r.n:=mem_rai.mpr hr
  have hB:r∈Ia rs r.n r.h:=mem_snk.mpr hr
  have w1:=cP rs r.n
  have w2:=cQ rs r.n
  have lA:(ID rs r.n).length=rs.length:=eQ rs r.n
  have lB:(Ia rs r.n r.h).length=rs.length:=j8 rs r.n r.h
  obtain⟨pA1,pA2⟩:=gH ok hr
  obtain⟨pB1,pB2⟩:=gC ok hr
  have rA:ID (ID rs r.n) r.n=ID rs r.n:=by
    show woZ (ID rs r.n) r.n++wiZ (ID rs r.n) r.n=_
    rw[pA1,pA2];rfl
  have rB:ID (Ia rs r.n r.h) r.n=ID rs r.n:=by
    show woZ (Ia rs r.n r.h) r.n++wiZ (Ia rs r.n r.h) r.n=_
    rw[pB1,pB2];rfl
  have sA:Ia (ID rs r.n) r.n r.h=Ia rs r.n r.h:=by
    show(woZ (ID rs r.n) r.n).take (plc (woZ (ID rs r.n) r.n) r.h)++wiZ (ID rs r.n) r.n++(woZ (ID rs r.n) r.n).drop (plc (woZ (ID rs r.n) r.n) r.h)=_
    rw[pA1,pA2];rfl
  have sB:Ia (Ia rs r.n r.h) r.n r.h=Ia rs r.n r.h:=by
    show(woZ (Ia rs r.n r.h) r.n).take (plc (woZ (Ia rs r.n r.h) r.n) r.h)++wiZ (Ia rs r.n r.h) r.n++(woZ (Ia rs r.n r.h) r.n).drop (plc (woZ (Ia rs r.n r.h) r.n) r.h)=_
    rw[pB1,pB2];rfl
  let DA:PyData:=.list ((ID rs r.n).map eZ)
  let DB':PyData:=.list ((Ia rs r.n r.h).map eZ)
  obtain⟨lu,eu⟩:=QT ok (by omega) hr
  obtain⟨ld,ed⟩:=SK ok (by omega) hr
  obtain⟨luu,euu⟩:=QT okA (by omega) hA
  obtain⟨lud,eud⟩:=SK okA (by omega) hA
  obtain⟨ldu,edu⟩:=QT okB (by omega) hB
  obtain⟨ldd,edd⟩:=SK okB (by omega) hB
  rw[rA]at euu
  rw[rB]at edu
  rw[sA]at eud
  rw[sB]at edd
  obtain⟨_,buu⟩:=Ol rfl eu euu
  obtain⟨_,bud⟩:=Ol rfl eu eud
  obtain⟨_,bdu⟩:=Ol rfl ed edu
  obtain⟨_,bdd⟩:=Ol rfl ed edd
  let UP:PyData:=dd 2 r.n []
  let DN:PyData:=dd 3 r.n []
  let sx:Option L->Option L->Option L->DS:=fun o12 o13 o14=>st o5 o6 MO (I w) FS (some (.d UP)) (some (.d DN)) o12 o13 o14
  have z9:E1 10 11 (AB (BI (AB (dC (.str "raise")) (AB (AE 4) AI))) (AB (BI (AB (dC (.str "sink")) (AB (AE 4) AI))) AI)) t9=some (.nx (sx N N N)):=rfl
  have lo:∀t:DS,t[2]?=some R->Bh FH (AB (AE 2) AI) t=some (D,t):=fun t ht=>Mv (d:=D) (τ1:=t) (by unfold AE;rw[ht]) rfl
  have za:Ak (AU Bl (AB (Bh FH (AB (AE 2) AI)) (AB (AE 10) AI))) (dN 12) (sx N N N)=some (.nx (sx (some (.d DA)) N N)) :=
    BX (AZ (τ1:=sx N N N) (rs:=[.d D,.d UP]) (ds:=[D,UP]) (acc (lo _ rfl) rfl) rfl eu) rfl
  have zb:Ak (AU Bl (AB (Bh FH (AB (AE 2) AI)) (AB (AE 11) AI))) (dN 13) (sx (some (.d DA)) N N)=some (.nx (sx (some (.d DA)) (some (.d DB')) N)) :=
    BX (AZ (τ1:=sx (some (.d DA)) N N) (rs:=[.d D,.d DN]) (ds:=[D,DN]) (acc (lo _ rfl) rfl) rfl ed) rfl
  let tc:=sx (some (.d DA)) (some (.d DB')) N
  have ne:∀{X Y W:PyData} {i j k:Nat} {xs:List Rz} {l:List L},tc[i]?=some (some (.d X))->tc[j]?=some (some (.d Y))->tc[k]?=some (some (.d (.list (xs.map eZ))))->Co [.d D,.d X,.d Y]=some (.list (xs.map eZ),l)->AW (dOp fNe (AU Co (AB (AE 2) (AB (AE i) (AB (AE j) AI)))) (AE k)) tc=some (false,tc):=fun {X Y W i j k xs l} hi hj hk hb =>
    tst (op2 (x:=.list (xs.map eZ)) (y:=.list (xs.map eZ)) (τ1:=tc) (AZ (τ1:=tc) (rs:=[.d D,.d X,.d Y]) (ds:=[D,X,Y]) (acc (τ1:=tc) rfl (acc (τ1:=tc) (by unfold AE;rw[hi]) (acc (τ1:=tc) (by unfold AE;rw[hj]) rfl))) rfl hb) (by unfold AE;rw[hk]) (by rw[encZ.fNeL,decide_eq_true rfl];rfl))
  have zc:BK (Hu (AW (dOp fNe (AU Co (AB (AE 2) (AB (AE 10) (AB (AE 10) AI)))) (AE 12))) (AW (dOp fNe (AU Co (AB (AE 2) (AB (AE 11) (AB (AE 11) AI)))) (AE 13)))) (Ax (dC (.bool false))) BQ tc=some (.nx tc) :=
    (Cp (τ1:=tc) (Qr (ne (W:=.none) rfl rfl rfl buu) (ne (W:=.none) rfl rfl rfl bdd))).trans rfl
  have zd:BK (Hu (AW (dOp fNe (AU Co (AB (AE 2) (AB (AE 10) (AB (AE 11) AI)))) (AE 13))) (AW (dOp fNe (AU Co (AB (AE 2) (AB (AE 11) (AB (AE 10) AI)))) (AE 12)))) (Ax (dC (.bool false))) BQ tc=some (.nx tc) :=
    (Cp (τ1:=tc) (Qr (ne (W:=.none) rfl rfl rfl bud) (ne (W:=.none) rfl rfl rfl bdu))).trans rfl
  -- gone
  obtain⟨li,ei⟩:=jU ok (by omega) r.n
  have hil:=fN rs r.n
  let GN:Option L:=some (.d (.list ((r.n::OA rs r.n).map eT)))
  let te:=sx (some (.d DA)) (some (.d DB')) GN
  have ze:Ak (dOp SJ (Kq (AB (AE 4) AI)) (AU I0 (AB (AE 2) (AB (AE 4) AI)))) (dN 14) tc=some (.nx te) :=
    BX (op2 (x:=.list [eT r.n]) (y:=.list ((OA rs r.n).map eT)) (τ1:=tc) rfl (AZ (τ1:=tc) (rs:=[.d D,.d (eT r.n)]) (ds:=[D,eT r.n]) rfl rfl ei) (hZ (by rw[List.length_map];simp only[List.length_cons,List.length_nil];omega))) rfl
  obtain⟨lt,et⟩:=YH ok (by omega) hr
  have lcz:dLC 1 [14] (dIL (AE 2)) (dN 0) (AW (dOp (fIn true) (dOp Ag (AE 0) (dC (.int 0))) (AE 1))) (AE 0) te=some (.list ((woZ rs r.n).map eZ),te) :=
    lcg (enc := eZ) (rs := rs) (τ := te) (fr := [14]) (it := dIL (AE 2)) (ex := [GN]) (fun q => !inW rs r.n q) eZ rfl (by omega) rfl rfl (fun q hq => by
      let t:DS:=[some (.d (eZ q)),GN]
      refine tst (op2 (x:=eT q.n) (y:=.list ((r.n::OA rs r.n).map eT)) (τ1:=t) (op2 (x:=eZ q) (y:=.int 0) (τ1:=t) rfl rfl rfl) rfl ?_)
      rw[km,Ze ok hq]) (fun _ _ _=>rfl)
  refine⟨[.c (ns.map .int)],?_⟩
  unfold VA
  refine A5 (τ:=te) ?_ rfl rfl
  refine(AR z1).trans ((AR z2).trans ((AR z3).trans ((AR z4).trans ((AR ((Ht it5).trans e5)).trans ((AR z6).trans ((AR z7).trans ((AR z8).trans ((AR z9).trans ((AR za).trans ((AR zb).trans ((AR zc).trans ((AR zd).trans ((AR ze).trans (Bs ?_))))))))))))))
  exact op2 (x:=.list ((woZ rs r.n).map eZ)) (y:=.list ((woZ rs r.n).map eZ)) (τ1:=te) (AZ (τ1:=te) (rs:=[.d D,.d (dd 1 r.n [])]) (ds:=[D,dd 1 r.n []]) (acc (lo _ rfl) rfl) rfl et) lcz (by rw[encZ.fEqL,decide_eq_true rfl])
theorem all_mk{l:PySem.W.OpenLaw}{w:World}{K:PySem.W.Frag}{h:Heap}{mg:Str->Option Value}{fa:Addr}(X:K.In h)(G:h.Ns mainGlobals mg)(hfa:mg "law"=some (.ref fa))
  (a0:PySem.W.nsIn K mainGlobals "_law_cell_at"=some (some (.ref f0))) (l0:K.lookup f0=some ⟨oc0,od0,.func (PySem.W.fnOf "_law_cell_at" "_law_cell_at" (Ai Dt) (Ah Dt) (AA Dt) .none kV0 dc0 pm0 an0 cd0 ct0),sl0⟩) (c0:PySem.W.codeIn K cd0 "_law_cell_at"=true) (k0:PySem.W.keepIn K (.ref f0)=true)
  {f1:Addr}
  (a1:PySem.W.nsIn K mainGlobals "_law_big"=some (some (.ref f1))) (l1:K.lookup f1=some ⟨oc1,od1,.func (PySem.W.fnOf "_law_big" "_law_big" (Ai C7) (Ah C7) (AA C7) .none kV1 dc1 pm1 an1 cd1 ct1),sl1⟩) (c1:PySem.W.codeIn K cd1 "_law_big"=true) (k1:PySem.W.keepIn K (.ref f1)=true)
  {f2:Addr}
  (a2:PySem.W.nsIn K mainGlobals "_law_name_of"=some (some (.ref f2))) (l2:K.lookup f2=some ⟨oc2,od2,.func (PySem.W.fnOf "_law_name_of" "_law_name_of" (Ai Cj) (Ah Cj) (AA Cj) .none kV2 dc2 pm2 an2 cd2 ct2),sl2⟩) (c2:PySem.W.codeIn K cd2 "_law_name_of"=true) (k2:PySem.W.keepIn K (.ref f2)=true)
  (a3:PySem.W.nsIn K mainGlobals "_law_step_of"=some (some (.ref f3))) (l3:K.lookup f3=some ⟨oc3,od3,.func (PySem.W.fnOf "_law_step_of" "_law_step_of" (Ai Fe) (Ah Fe) (AA Fe) .none kV3 dc3 pm3 an3 cd3 ct3),sl3⟩) (c3:PySem.W.codeIn K cd3 "_law_step_of"=true) (k3:PySem.W.keepIn K (.ref f3)=true)
  (a4:PySem.W.nsIn K mainGlobals "_law_up"=some (some (.ref f4))) (l4:K.lookup f4=some ⟨oc4,od4,.func (PySem.W.fnOf "_law_up" "_law_up" (Ai HK) (Ah HK) (AA HK) .none kV4 dc4 pm4 an4 cd4 ct4),sl4⟩) (c4:PySem.W.codeIn K cd4 "_law_up"=true) (k4:PySem.W.keepIn K (.ref f4)=true)
  (a5:PySem.W.nsIn K mainGlobals "_law_low"=some (some (.ref f5))) (l5:K.lookup f5=some ⟨oc5,od5,.func (PySem.W.fnOf "_law_low" "_law_low" (Ai Es) (Ah Es) (AA Es) .none kV5 dc5 pm5 an5 cd5 ct5),sl5⟩) (c5:PySem.W.codeIn K cd5 "_law_low"=true) (k5:PySem.W.keepIn K (.ref f5)=true)
  (a6:PySem.W.nsIn K mainGlobals "_law_share_of"=some (some (.ref f6))) (l6:K.lookup f6=some ⟨oc6,od6,.func (PySem.W.fnOf "_law_share_of" "_law_share_of" (Ai DF) (Ah DF) (AA DF) .none kV6 dc6 pm6 an6 cd6 ct6),sl6⟩) (c6:PySem.W.codeIn K cd6 "_law_share_of"=true) (k6:PySem.W.keepIn K (.ref f6)=true)
  (a7:PySem.W.nsIn K mainGlobals "_law_paint_of"=some (some (.ref f7))) (l7:K.lookup f7=some ⟨oc7,od7,.func (PySem.W.fnOf "_law_paint_of" "_law_paint_of" (Ai Cf) (Ah Cf) (AA Cf) .none kV7 dc7 pm7 an7 cd7 ct7),sl7⟩) (c7:PySem.W.codeIn K cd7 "_law_paint_of"=true) (k7:PySem.W.keepIn K (.ref f7)=true)
  (a8:PySem.W.nsIn K mainGlobals "_law_stencil_of"=some (some (.ref f8))) (l8:K.lookup f8=some ⟨oc8,od8,.func (PySem.W.fnOf "_law_stencil_of" "_law_stencil_of" (Ai BU) (Ah BU) (AA BU) .none kV8 dc8 pm8 an8 cd8 ct8),sl8⟩) (c8:PySem.W.codeIn K cd8 "_law_stencil_of"=true) (k8:PySem.W.keepIn K (.ref f8)=true)
  (a9:PySem.W.nsIn K mainGlobals "_law_size_of"=some (some (.ref f9))) (l9:K.lookup f9=some ⟨oc9,od9,.func (PySem.W.fnOf "_law_size_of" "_law_size_of" (Ai EN) (Ah EN) (AA EN) .none kV9 dc9 pm9 an9 cd9 ct9),sl9⟩) (c9:PySem.W.codeIn K cd9 "_law_size_of"=true) (k9:PySem.W.keepIn K (.ref f9)=true)
  (a10:PySem.W.nsIn K mainGlobals "_law_word_of"=some (some (.ref f10))) (l10:K.lookup f10=some ⟨oc10,od10,.func (PySem.W.fnOf "_law_word_of" "_law_word_of" (Ai Ci) (Ah Ci) (AA Ci) .none kV10 dc10 pm10 an10 cd10 ct10),sl10⟩) (c10:PySem.W.codeIn K cd10 "_law_word_of"=true) (k10:PySem.W.keepIn K (.ref f10)=true)
  (a11:PySem.W.nsIn K mainGlobals "_law_data_of"=some (some (.ref f11))) (l11:K.lookup f11=some ⟨oc11,od11,.func (PySem.W.fnOf "_law_data_of" "_law_data_of" (Ai A4) (Ah A4) (AA A4) .none kV11 dc11 pm11 an11 cd11 ct11),sl11⟩) (c11:PySem.W.codeIn K cd11 "_law_data_of"=true) (k11:PySem.W.keepIn K (.ref f11)=true)
  (a12:PySem.W.nsIn K mainGlobals "_law_kinds"=some (some (.ref f12))) (l12:K.lookup f12=some ⟨oc12,od12,.func (PySem.W.fnOf "_law_kinds" "_law_kinds" (Ai Hx) (Ah Hx) (AA Hx) .none kV12 dc12 pm12 an12 cd12 ct12),sl12⟩) (c12:PySem.W.codeIn K cd12 "_law_kinds"=true) (k12:PySem.W.keepIn K (.ref f12)=true)
  (a13:PySem.W.nsIn K mainGlobals "_law_row_of"=some (some (.ref f13))) (l13:K.lookup f13=some ⟨oc13,od13,.func (PySem.W.fnOf "_law_row_of" "_law_row_of" (Ai BC) (Ah BC) (AA BC) .none kV13 dc13 pm13 an13 cd13 ct13),sl13⟩) (c13:PySem.W.codeIn K cd13 "_law_row_of"=true) (k13:PySem.W.keepIn K (.ref f13)=true)
  (a14:PySem.W.nsIn K mainGlobals "_law_scene_of"=some (some (.ref f14))) (l14:K.lookup f14=some ⟨oc14,od14,.func (PySem.W.fnOf "_law_scene_of" "_law_scene_of" (Ai BZ) (Ah BZ) (AA BZ) .none kV14 dc14 pm14 an14 cd14 ct14),sl14⟩) (c14:PySem.W.codeIn K cd14 "_law_scene_of"=true) (k14:PySem.W.keepIn K (.ref f14)=true)
  (a15:PySem.W.nsIn K mainGlobals "_law_backs"=some (some (.ref f15))) (l15:K.lookup f15=some ⟨oc15,od15,.func (PySem.W.fnOf "_law_backs" "_law_backs" (Ai CD) (Ah CD) (AA CD) .none kV15 dc15 pm15 an15 cd15 ct15),sl15⟩) (c15:PySem.W.codeIn K cd15 "_law_backs"=true) (k15:PySem.W.keepIn K (.ref f15)=true)
  (a16:PySem.W.nsIn K mainGlobals "row_name"=some (some (.ref f16))) (l16:K.lookup f16=some ⟨oc16,od16,.func (PySem.W.fnOf "row_name" "row_name" (Ai GS) (Ah GS) (AA GS) .none kV16 dc16 pm16 an16 cd16 ct16),sl16⟩) (c16:PySem.W.codeIn K cd16 "row_name"=true) (k16:PySem.W.keepIn K (.ref f16)=true)
  (a17:PySem.W.nsIn K mainGlobals "row_found"=some (some (.ref f17))) (l17:K.lookup f17=some ⟨oc17,od17,.func (PySem.W.fnOf "row_found" "row_found" (Ai C0) (Ah C0) (AA C0) .none kV17 dc17 pm17 an17 cd17 ct17),sl17⟩) (c17:PySem.W.codeIn K cd17 "row_found"=true) (k17:PySem.W.keepIn K (.ref f17)=true)
  (a18:PySem.W.nsIn K mainGlobals "row_of"=some (some (.ref f18))) (l18:K.lookup f18=some ⟨oc18,od18,.func (PySem.W.fnOf "row_of" "row_of" (Ai FJ) (Ah FJ) (AA FJ) .none kV18 dc18 pm18 an18 cd18 ct18),sl18⟩) (c18:PySem.W.codeIn K cd18 "row_of"=true) (k18:PySem.W.keepIn K (.ref f18)=true)
  (a19:PySem.W.nsIn K mainGlobals "row_with_shown"=some (some (.ref f19))) (l19:K.lookup f19=some ⟨oc19,od19,.func (PySem.W.fnOf "row_with_shown" "row_with_shown" (Ai CS) (Ah CS) (AA CS) .none kV19 dc19 pm19 an19 cd19 ct19),sl19⟩) (c19:PySem.W.codeIn K cd19 "row_with_shown"=true) (k19:PySem.W.keepIn K (.ref f19)=true)
  (a20:PySem.W.nsIn K mainGlobals "row_with_place"=some (some (.ref f20))) (l20:K.lookup f20=some ⟨oc20,od20,.func (PySem.W.fnOf "row_with_place" "row_with_place" (Ai B3) (Ah B3) (AA B3) .none kV20 dc20 pm20 an20 cd20 ct20),sl20⟩) (c20:PySem.W.codeIn K cd20 "row_with_place"=true) (k20:PySem.W.keepIn K (.ref f20)=true)
  (a21:PySem.W.nsIn K mainGlobals "row_data"=some (some (.ref f21))) (l21:K.lookup f21=some ⟨oc21,od21,.func (PySem.W.fnOf "row_data" "row_data" (Ai GV) (Ah GV) (AA GV) .none kV21 dc21 pm21 an21 cd21 ct21),sl21⟩) (c21:PySem.W.codeIn K cd21 "row_data"=true) (k21:PySem.W.keepIn K (.ref f21)=true)
  (a22:PySem.W.nsIn K mainGlobals "row_with_data"=some (some (.ref f22))) (l22:K.lookup f22=some ⟨oc22,od22,.func (PySem.W.fnOf "row_with_data" "row_with_data" (Ai Cd) (Ah Cd) (AA Cd) .none kV22 dc22 pm22 an22 cd22 ct22),sl22⟩) (c22:PySem.W.codeIn K cd22 "row_with_data"=true) (k22:PySem.W.keepIn K (.ref f22)=true)
  (a23:PySem.W.nsIn K mainGlobals "row_kind"=some (some (.ref f23))) (l23:K.lookup f23=some ⟨oc23,od23,.func (PySem.W.fnOf "row_kind" "row_kind" (Ai GU) (Ah GU) (AA GU) .none kV23 dc23 pm23 an23 cd23 ct23),sl23⟩) (c23:PySem.W.codeIn K cd23 "row_kind"=true) (k23:PySem.W.keepIn K (.ref f23)=true)
  (a24:PySem.W.nsIn K mainGlobals "row_turned"=some (some (.ref f24))) (l24:K.lookup f24=some ⟨oc24,od24,.func (PySem.W.fnOf "row_turned" "row_turned" (Ai CI) (Ah CI) (AA CI) .none kV24 dc24 pm24 an24 cd24 ct24),sl24⟩) (c24:PySem.W.codeIn K cd24 "row_turned"=true) (k24:PySem.W.keepIn K (.ref f24)=true)
  (a25:PySem.W.nsIn K mainGlobals "row_sized"=some (some (.ref f25))) (l25:K.lookup f25=some ⟨oc25,od25,.func (PySem.W.fnOf "row_sized" "row_sized" (Ai CV) (Ah CV) (AA CV) .none kV25 dc25 pm25 an25 cd25 ct25),sl25⟩) (c25:PySem.W.codeIn K cd25 "row_sized"=true) (k25:PySem.W.keepIn K (.ref f25)=true)
  (a26:PySem.W.nsIn K mainGlobals "row_done"=some (some (.ref f26))) (l26:K.lookup f26=some ⟨oc26,od26,.func (PySem.W.fnOf "row_done" "row_done" (Ai CW) (Ah CW) (AA CW) .none kV26 dc26 pm26 an26 cd26 ct26),sl26⟩) (c26:PySem.W.codeIn K cd26 "row_done"=true) (k26:PySem.W.keepIn K (.ref f26)=true)
  (a27:PySem.W.nsIn K mainGlobals "is_text_of"=some (some (.ref f27))) (l27:K.lookup f27=some ⟨oc27,od27,.func (PySem.W.fnOf "is_text_of" "is_text_of" (Ai B5) (Ah B5) (AA B5) .none kV27 dc27 pm27 an27 cd27 ct27),sl27⟩) (c27:PySem.W.codeIn K cd27 "is_text_of"=true) (k27:PySem.W.keepIn K (.ref f27)=true)
  (a28:PySem.W.nsIn K mainGlobals "is_name"=some (some (.ref f28))) (l28:K.lookup f28=some ⟨oc28,od28,.func (PySem.W.fnOf "is_name" "is_name" (Ai GB) (Ah GB) (AA GB) .none kV28 dc28 pm28 an28 cd28 ct28),sl28⟩) (c28:PySem.W.codeIn K cd28 "is_name"=true) (k28:PySem.W.keepIn K (.ref f28)=true)
  (a29:PySem.W.nsIn K mainGlobals "is_truth"=some (some (.ref f29))) (l29:K.lookup f29=some ⟨oc29,od29,.func (PySem.W.fnOf "is_truth" "is_truth" (Ai E4) (Ah E4) (AA E4) .none kV29 dc29 pm29 an29 cd29 ct29),sl29⟩) (c29:PySem.W.codeIn K cd29 "is_truth"=true) (k29:PySem.W.keepIn K (.ref f29)=true)
  (a30:PySem.W.nsIn K mainGlobals "is_whole"=some (some (.ref f30))) (l30:K.lookup f30=some ⟨oc30,od30,.func (PySem.W.fnOf "is_whole" "is_whole" (Ai EZ) (Ah EZ) (AA EZ) .none kV30 dc30 pm30 an30 cd30 ct30),sl30⟩) (c30:PySem.W.codeIn K cd30 "is_whole"=true) (k30:PySem.W.keepIn K (.ref f30)=true)
  (a31:PySem.W.nsIn K mainGlobals "is_within"=some (some (.ref f31))) (l31:K.lookup f31=some ⟨oc31,od31,.func (PySem.W.fnOf "is_within" "is_within" (Ai C3) (Ah C3) (AA C3) .none kV31 dc31 pm31 an31 cd31 ct31),sl31⟩) (c31:PySem.W.codeIn K cd31 "is_within"=true) (k31:PySem.W.keepIn K (.ref f31)=true)
  (a32:PySem.W.nsIn K mainGlobals "common_divisor"=some (some (.ref f32))) (l32:K.lookup f32=some ⟨oc32,od32,.func (PySem.W.fnOf "common_divisor" "common_divisor" (Ai BS) (Ah BS) (AA BS) .none kV32 dc32 pm32 an32 cd32 ct32),sl32⟩) (c32:PySem.W.codeIn K cd32 "common_divisor"=true) (k32:PySem.W.keepIn K (.ref f32)=true)
  (a33:PySem.W.nsIn K mainGlobals "is_share"=some (some (.ref f33))) (l33:K.lookup f33=some ⟨oc33,od33,.func (PySem.W.fnOf "is_share" "is_share" (Ai CZ) (Ah CZ) (AA CZ) .none kV33 dc33 pm33 an33 cd33 ct33),sl33⟩) (c33:PySem.W.codeIn K cd33 "is_share"=true) (k33:PySem.W.keepIn K (.ref f33)=true)
  (a34:PySem.W.nsIn K mainGlobals "is_bounded_share"=some (some (.ref f34))) (l34:K.lookup f34=some ⟨oc34,od34,.func (PySem.W.fnOf "is_bounded_share" "is_bounded_share" (Ai CJ) (Ah CJ) (AA CJ) .none kV34 dc34 pm34 an34 cd34 ct34),sl34⟩) (c34:PySem.W.codeIn K cd34 "is_bounded_share"=true) (k34:PySem.W.keepIn K (.ref f34)=true)
  (a35:PySem.W.nsIn K mainGlobals "is_paint"=some (some (.ref f35))) (l35:K.lookup f35=some ⟨oc35,od35,.func (PySem.W.fnOf "is_paint" "is_paint" (Ai Eb) (Ah Eb) (AA Eb) .none kV35 dc35 pm35 an35 cd35 ct35),sl35⟩) (c35:PySem.W.codeIn K cd35 "is_paint"=true) (k35:PySem.W.keepIn K (.ref f35)=true)
  (a36:PySem.W.nsIn K mainGlobals "is_plate"=some (some (.ref f36))) (l36:K.lookup f36=some ⟨oc36,od36,.func (PySem.W.fnOf "is_plate" "is_plate" (Ai Ea) (Ah Ea) (AA Ea) .none kV36 dc36 pm36 an36 cd36 ct36),sl36⟩) (c36:PySem.W.codeIn K cd36 "is_plate"=true) (k36:PySem.W.keepIn K (.ref f36)=true)
  (a37:PySem.W.nsIn K mainGlobals "is_band"=some (some (.ref f37))) (l37:K.lookup f37=some ⟨oc37,od37,.func (PySem.W.fnOf "is_band" "is_band" (Ai FN) (Ah FN) (AA FN) .none kV37 dc37 pm37 an37 cd37 ct37),sl37⟩) (c37:PySem.W.codeIn K cd37 "is_band"=true) (k37:PySem.W.keepIn K (.ref f37)=true)
  (a38:PySem.W.nsIn K mainGlobals "is_sign"=some (some (.ref f38))) (l38:K.lookup f38=some ⟨oc38,od38,.func (PySem.W.fnOf "is_sign" "is_sign" (Ai Gq) (Ah Gq) (AA Gq) .none kV38 dc38 pm38 an38 cd38 ct38),sl38⟩) (c38:PySem.W.codeIn K cd38 "is_sign"=true) (k38:PySem.W.keepIn K (.ref f38)=true)
  (a39:PySem.W.nsIn K mainGlobals "is_word_text"=some (some (.ref f39))) (l39:K.lookup f39=some ⟨oc39,od39,.func (PySem.W.fnOf "is_word_text" "is_word_text" (Ai CC) (Ah CC) (AA CC) .none kV39 dc39 pm39 an39 cd39 ct39),sl39⟩) (c39:PySem.W.codeIn K cd39 "is_word_text"=true) (k39:PySem.W.keepIn K (.ref f39)=true)
  (a40:PySem.W.nsIn K mainGlobals "is_word"=some (some (.ref f40))) (l40:K.lookup f40=some ⟨oc40,od40,.func (PySem.W.fnOf "is_word" "is_word" (Ai FK) (Ah FK) (AA FK) .none kV40 dc40 pm40 an40 cd40 ct40),sl40⟩) (c40:PySem.W.codeIn K cd40 "is_word"=true) (k40:PySem.W.keepIn K (.ref f40)=true)
  (a41:PySem.W.nsIn K mainGlobals "are_stencil_rows"=some (some (.ref f41))) (l41:K.lookup f41=some ⟨oc41,od41,.func (PySem.W.fnOf "are_stencil_rows" "are_stencil_rows" (Ai BY) (Ah BY) (AA BY) .none kV41 dc41 pm41 an41 cd41 ct41),sl41⟩) (c41:PySem.W.codeIn K cd41 "are_stencil_rows"=true) (k41:PySem.W.keepIn K (.ref f41)=true)
  (a42:PySem.W.nsIn K mainGlobals "is_stencil"=some (some (.ref f42))) (l42:K.lookup f42=some ⟨oc42,od42,.func (PySem.W.fnOf "is_stencil" "is_stencil" (Ai DE) (Ah DE) (AA DE) .none kV42 dc42 pm42 an42 cd42 ct42),sl42⟩) (c42:PySem.W.codeIn K cd42 "is_stencil"=true) (k42:PySem.W.keepIn K (.ref f42)=true)
  (a43:PySem.W.nsIn K mainGlobals "is_empty"=some (some (.ref f43))) (l43:K.lookup f43=some ⟨oc43,od43,.func (PySem.W.fnOf "is_empty" "is_empty" (Ai Fl) (Ah Fl) (AA Fl) .none kV43 dc43 pm43 an43 cd43 ct43),sl43⟩) (c43:PySem.W.codeIn K cd43 "is_empty"=true) (k43:PySem.W.keepIn K (.ref f43)=true)
  (a44:PySem.W.nsIn K mainGlobals "is_glass"=some (some (.ref f44))) (l44:K.lookup f44=some ⟨oc44,od44,.func (PySem.W.fnOf "is_glass" "is_glass" (Ai E5) (Ah E5) (AA E5) .none kV44 dc44 pm44 an44 cd44 ct44),sl44⟩) (c44:PySem.W.codeIn K cd44 "is_glass"=true) (k44:PySem.W.keepIn K (.ref f44)=true)
  (a45:PySem.W.nsIn K mainGlobals "is_place"=some (some (.ref f45))) (l45:K.lookup f45=some ⟨oc45,od45,.func (PySem.W.fnOf "is_place" "is_place" (Ai Fj) (Ah Fj) (AA Fj) .none kV45 dc45 pm45 an45 cd45 ct45),sl45⟩) (c45:PySem.W.codeIn K cd45 "is_place"=true) (k45:PySem.W.keepIn K (.ref f45)=true)
  (a46:PySem.W.nsIn K mainGlobals "is_window"=some (some (.ref f46))) (l46:K.lookup f46=some ⟨oc46,od46,.func (PySem.W.fnOf "is_window" "is_window" (Ai Ds) (Ah Ds) (AA Ds) .none kV46 dc46 pm46 an46 cd46 ct46),sl46⟩) (c46:PySem.W.codeIn K cd46 "is_window"=true) (k46:PySem.W.keepIn K (.ref f46)=true)
  (a47:PySem.W.nsIn K mainGlobals "is_turn"=some (some (.ref f47))) (l47:K.lookup f47=some ⟨oc47,od47,.func (PySem.W.fnOf "is_turn" "is_turn" (Ai FL) (Ah FL) (AA FL) .none kV47 dc47 pm47 an47 cd47 ct47),sl47⟩) (c47:PySem.W.codeIn K cd47 "is_turn"=true) (k47:PySem.W.keepIn K (.ref f47)=true)
  (a48:PySem.W.nsIn K mainGlobals "are_tiles"=some (some (.ref f48))) (l48:K.lookup f48=some ⟨oc48,od48,.func (PySem.W.fnOf "are_tiles" "are_tiles" (Ai EM) (Ah EM) (AA EM) .none kV48 dc48 pm48 an48 cd48 ct48),sl48⟩) (c48:PySem.W.codeIn K cd48 "are_tiles"=true) (k48:PySem.W.keepIn K (.ref f48)=true)
  (a49:PySem.W.nsIn K mainGlobals "is_data"=some (some (.ref f49))) (l49:K.lookup f49=some ⟨oc49,od49,.func (PySem.W.fnOf "is_data" "is_data" (Ai D0) (Ah D0) (AA D0) .none kV49 dc49 pm49 an49 cd49 ct49),sl49⟩) (c49:PySem.W.codeIn K cd49 "is_data"=true) (k49:PySem.W.keepIn K (.ref f49)=true)
  (a50:PySem.W.nsIn K mainGlobals "row_holder"=some (some (.ref f50))) (l50:K.lookup f50=some ⟨oc50,od50,.func (PySem.W.fnOf "row_holder" "row_holder" (Ai Er) (Ah Er) (AA Er) .none kV50 dc50 pm50 an50 cd50 ct50),sl50⟩) (c50:PySem.W.codeIn K cd50 "row_holder"=true) (k50:PySem.W.keepIn K (.ref f50)=true)
  (a51:PySem.W.nsIn K mainGlobals "row_shown"=some (some (.ref f51))) (l51:K.lookup f51=some ⟨oc51,od51,.func (PySem.W.fnOf "row_shown" "row_shown" (Ai Fd) (Ah Fd) (AA Fd) .none kV51 dc51 pm51 an51 cd51 ct51),sl51⟩) (c51:PySem.W.codeIn K cd51 "row_shown"=true) (k51:PySem.W.keepIn K (.ref f51)=true)
  (a52:PySem.W.nsIn K mainGlobals "row_x"=some (some (.ref f52))) (l52:K.lookup f52=some ⟨oc52,od52,.func (PySem.W.fnOf "row_x" "row_x" (Ai K6) (Ah K6) (AA K6) .none kV52 dc52 pm52 an52 cd52 ct52),sl52⟩) (c52:PySem.W.codeIn K cd52 "row_x"=true) (k52:PySem.W.keepIn K (.ref f52)=true)
  (a53:PySem.W.nsIn K mainGlobals "row_y"=some (some (.ref f53))) (l53:K.lookup f53=some ⟨oc53,od53,.func (PySem.W.fnOf "row_y" "row_y" (Ai K5) (Ah K5) (AA K5) .none kV53 dc53 pm53 an53 cd53 ct53),sl53⟩) (c53:PySem.W.codeIn K cd53 "row_y"=true) (k53:PySem.W.keepIn K (.ref f53)=true)
  (a54:PySem.W.nsIn K mainGlobals "is_row"=some (some (.ref f54))) (l54:K.lookup f54=some ⟨oc54,od54,.func (PySem.W.fnOf "is_row" "is_row" (Ai Cg) (Ah Cg) (AA Cg) .none kV54 dc54 pm54 an54 cd54 ct54),sl54⟩) (c54:PySem.W.codeIn K cd54 "is_row"=true) (k54:PySem.W.keepIn K (.ref f54)=true)
  (a55:PySem.W.nsIn K mainGlobals "rows_changed"=some (some (.ref f55))) (l55:K.lookup f55=some ⟨oc55,od55,.func (PySem.W.fnOf "rows_changed" "rows_changed" (Ai Br) (Ah Br) (AA Br) .none kV55 dc55 pm55 an55 cd55 ct55),sl55⟩) (c55:PySem.W.codeIn K cd55 "rows_changed"=true) (k55:PySem.W.keepIn K (.ref f55)=true)
  (a56:PySem.W.nsIn K mainGlobals "holders_of"=some (some (.ref f56))) (l56:K.lookup f56=some ⟨oc56,od56,.func (PySem.W.fnOf "holders_of" "holders_of" (Ai B9) (Ah B9) (AA B9) .none kV56 dc56 pm56 an56 cd56 ct56),sl56⟩) (c56:PySem.W.codeIn K cd56 "holders_of"=true) (k56:PySem.W.keepIn K (.ref f56)=true)
  (a57:PySem.W.nsIn K mainGlobals "is_holder"=some (some (.ref f57))) (l57:K.lookup f57=some ⟨oc57,od57,.func (PySem.W.fnOf "is_holder" "is_holder" (Ai EL) (Ah EL) (AA EL) .none kV57 dc57 pm57 an57 cd57 ct57),sl57⟩) (c57:PySem.W.codeIn K cd57 "is_holder"=true) (k57:PySem.W.keepIn K (.ref f57)=true)
  (a58:PySem.W.nsIn K mainGlobals "is_tiles"=some (some (.ref f58))) (l58:K.lookup f58=some ⟨oc58,od58,.func (PySem.W.fnOf "is_tiles" "is_tiles" (Ai ED) (Ah ED) (AA ED) .none kV58 dc58 pm58 an58 cd58 ct58),sl58⟩) (c58:PySem.W.codeIn K cd58 "is_tiles"=true) (k58:PySem.W.keepIn K (.ref f58)=true)
  (a59:PySem.W.nsIn K mainGlobals "vet_row"=some (some (.ref f59))) (l59:K.lookup f59=some ⟨oc59,od59,.func (PySem.W.fnOf "vet_row" "vet_row" (Ai B0) (Ah B0) (AA B0) .none kV59 dc59 pm59 an59 cd59 ct59),sl59⟩) (c59:PySem.W.codeIn K cd59 "vet_row"=true) (k59:PySem.W.keepIn K (.ref f59)=true)
  (a60:PySem.W.nsIn K mainGlobals "vet"=some (some (.ref f60))) (l60:K.lookup f60=some ⟨oc60,od60,.func (PySem.W.fnOf "vet" "vet" (Ai Jh) (Ah Jh) (AA Jh) .none kV60 dc60 pm60 an60 cd60 ct60),sl60⟩) (c60:PySem.W.codeIn K cd60 "vet"=true) (k60:PySem.W.keepIn K (.ref f60)=true)
  (a61:PySem.W.nsIn K mainGlobals "rows_put"=some (some (.ref f61))) (l61:K.lookup f61=some ⟨oc61,od61,.func (PySem.W.fnOf "rows_put" "rows_put" (Ai DW) (Ah DW) (AA DW) .none kV61 dc61 pm61 an61 cd61 ct61),sl61⟩) (c61:PySem.W.codeIn K cd61 "rows_put"=true) (k61:PySem.W.keepIn K (.ref f61)=true)
  (a62:PySem.W.nsIn K mainGlobals "parts_in"=some (some (.ref f62))) (l62:K.lookup f62=some ⟨oc62,od62,.func (PySem.W.fnOf "parts_in" "parts_in" (Ai Fi) (Ah Fi) (AA Fi) .none kV62 dc62 pm62 an62 cd62 ct62),sl62⟩) (c62:PySem.W.codeIn K cd62 "parts_in"=true) (k62:PySem.W.keepIn K (.ref f62)=true)
  (a63:PySem.W.nsIn K mainGlobals "names_with"=some (some (.ref f63))) (l63:K.lookup f63=some ⟨oc63,od63,.func (PySem.W.fnOf "names_with" "names_with" (Ai DD) (Ah DD) (AA DD) .none kV63 dc63 pm63 an63 cd63 ct63),sl63⟩) (c63:PySem.W.codeIn K cd63 "names_with"=true) (k63:PySem.W.keepIn K (.ref f63)=true)
  (a64:PySem.W.nsIn K mainGlobals "rows_without"=some (some (.ref f64))) (l64:K.lookup f64=some ⟨oc64,od64,.func (PySem.W.fnOf "rows_without" "rows_without" (Ai CA) (Ah CA) (AA CA) .none kV64 dc64 pm64 an64 cd64 ct64),sl64⟩) (c64:PySem.W.codeIn K cd64 "rows_without"=true) (k64:PySem.W.keepIn K (.ref f64)=true)
  (a65:PySem.W.nsIn K mainGlobals "rows_with"=some (some (.ref f65))) (l65:K.lookup f65=some ⟨oc65,od65,.func (PySem.W.fnOf "rows_with" "rows_with" (Ai Cz) (Ah Cz) (AA Cz) .none kV65 dc65 pm65 an65 cd65 ct65),sl65⟩) (c65:PySem.W.codeIn K cd65 "rows_with"=true) (k65:PySem.W.keepIn K (.ref f65)=true)
  (a66:PySem.W.nsIn K mainGlobals "rows_raised"=some (some (.ref f66))) (l66:K.lookup f66=some ⟨oc66,od66,.func (PySem.W.fnOf "rows_raised" "rows_raised" (Ai Cc) (Ah Cc) (AA Cc) .none kV66 dc66 pm66 an66 cd66 ct66),sl66⟩) (c66:PySem.W.codeIn K cd66 "rows_raised"=true) (k66:PySem.W.keepIn K (.ref f66)=true)
  (a67:PySem.W.nsIn K mainGlobals "place_behind"=some (some (.ref f67))) (l67:K.lookup f67=some ⟨oc67,od67,.func (PySem.W.fnOf "place_behind" "place_behind" (Ai CY) (Ah CY) (AA CY) .none kV67 dc67 pm67 an67 cd67 ct67),sl67⟩) (c67:PySem.W.codeIn K cd67 "place_behind"=true) (k67:PySem.W.keepIn K (.ref f67)=true)
  (a68:PySem.W.nsIn K mainGlobals "rows_sunk"=some (some (.ref f68))) (l68:K.lookup f68=some ⟨oc68,od68,.func (PySem.W.fnOf "rows_sunk" "rows_sunk" (Ai B4) (Ah B4) (AA B4) .none kV68 dc68 pm68 an68 cd68 ct68),sl68⟩) (c68:PySem.W.codeIn K cd68 "rows_sunk"=true) (k68:PySem.W.keepIn K (.ref f68)=true)
  (a69:PySem.W.nsIn K mainGlobals "deed_done"=some (some (.ref f69))) (l69:K.lookup f69=some ⟨oc69,od69,.func (PySem.W.fnOf "deed_done" "deed_done" (Ai B7) (Ah B7) (AA B7) .none kV69 dc69 pm69 an69 cd69 ct69),sl69⟩) (c69:PySem.W.codeIn K cd69 "deed_done"=true) (k69:PySem.W.keepIn K (.ref f69)=true)
  (a70:PySem.W.nsIn K mainGlobals "_law_many"=some (some (.ref f70))) (l70:K.lookup f70=some ⟨oc70,od70,.func (PySem.W.fnOf "_law_many" "_law_many" (Ai FO) (Ah FO) (AA FO) .none kV70 dc70 pm70 an70 cd70 ct70),sl70⟩) (c70:PySem.W.codeIn K cd70 "_law_many"=true) (k70:PySem.W.keepIn K (.ref f70)=true)
  (a71:PySem.W.nsIn K mainGlobals "_law_same_rows"=some (some (.ref f71))) (l71:K.lookup f71=some ⟨oc71,od71,.func (PySem.W.fnOf "_law_same_rows" "_law_same_rows" (Ai Bj) (Ah Bj) (AA Bj) .none kV71 dc71 pm71 an71 cd71 ct71),sl71⟩) (c71:PySem.W.codeIn K cd71 "_law_same_rows"=true) (k71:PySem.W.keepIn K (.ref f71)=true)
  (a72:PySem.W.nsIn K mainGlobals "_law_chain"=some (some (.ref f72))) (l72:K.lookup f72=some ⟨oc72,od72,.func (PySem.W.fnOf "_law_chain" "_law_chain" (Ai DQ) (Ah DQ) (AA DQ) .none kV72 dc72 pm72 an72 cd72 ct72),sl72⟩) (c72:PySem.W.codeIn K cd72 "_law_chain"=true) (k72:PySem.W.keepIn K (.ref f72)=true)
  (a73:PySem.W.nsIn K mainGlobals "_law_inner"=some (some (.ref f73))) (l73:K.lookup f73=some ⟨oc73,od73,.func (PySem.W.fnOf "_law_inner" "_law_inner" (Ai Gr) (Ah Gr) (AA Gr) .none kV73 dc73 pm73 an73 cd73 ct73),sl73⟩) (c73:PySem.W.codeIn K cd73 "_law_inner"=true) (k73:PySem.W.keepIn K (.ref f73)=true)
  (a74:PySem.W.nsIn K mainGlobals "_law_both"=some (some (.ref f74))) (l74:K.lookup f74=some ⟨oc74,od74,.func (PySem.W.fnOf "_law_both" "_law_both" (Ai Et) (Ah Et) (AA Et) .none kV74 dc74 pm74 an74 cd74 ct74),sl74⟩) (c74:PySem.W.codeIn K cd74 "_law_both"=true) (k74:PySem.W.keepIn K (.ref f74)=true)
  (a75:PySem.W.nsIn K mainGlobals "law"=some (some (.ref f75))) (l75:K.lookup f75=some ⟨oc75,od75,.func (PySem.W.fnOf "law" "law" (Ai CB) (Ah CB) (AA CB) .none kV75 dc75 pm75 an75 cd75 ct75),sl75⟩) (c75:PySem.W.codeIn K cd75 "law"=true) (k75:PySem.W.keepIn K (.ref f75)=true)
  (z_abs:PySem.W.nsIn K mainGlobals "abs"=some none)
  (z_all:PySem.W.nsIn K mainGlobals "all"=some none)
  (z_any:PySem.W.nsIn K mainGlobals "any"=some none)
  (z_bool:PySem.W.nsIn K mainGlobals "bool"=some none)
  (z_enumerate:PySem.W.nsIn K mainGlobals "enumerate"=some none)
  (z_int:PySem.W.nsIn K mainGlobals "int"=some none)
  (z_isinstance:PySem.W.nsIn K mainGlobals "isinstance"=some none)
  (z_len:PySem.W.nsIn K mainGlobals "len"=some none)
  (z_list:PySem.W.nsIn K mainGlobals "list"=some none)
  (z_range:PySem.W.nsIn K mainGlobals "range"=some none)
  (z_str:PySem.W.nsIn K mainGlobals "str"=some none)
  (z_tuple:PySem.W.nsIn K mainGlobals "tuple"=some none)
  {ad_FORMS:Addr} {es_FORMS:Array DictEntry} {nn_FORMS:Nat} (kn_FORMS:PySem.W.nsIn K mainGlobals "FORMS"=some (some (.ref ad_FORMS))) (kl_FORMS:K.lookup ad_FORMS=some ⟨.type "dict",none,.dict es_FORMS nn_FORMS,#[]⟩) (kq_FORMS:KfL w es_FORMS.toList [("plate",f36),("band",f37),("word",f40),("stencil",f42),("group",f43),("glass",f44),("window",f46),("turn",f47),("tiles",f48),("mask",f43)]) (hs_FORMS:(ad_FORMS==sysModules)=false)
  {uv_HOLDERS:Value} (kn_HOLDERS:PySem.W.nsIn K mainGlobals "HOLDERS"=some (some uv_HOLDERS)) (kt_HOLDERS:EC ⟨K,w⟩ (.tuple [(.str "group"),(.str "glass"),(.str "window"),(.str "turn"),(.str "tiles"),(.str "mask")]) uv_HOLDERS=true)
  {tk_MOST_HOLDERS:Tok} (kn_MOST_HOLDERS:PySem.W.nsIn K mainGlobals "MOST_HOLDERS"=some (some (.int 6 tk_MOST_HOLDERS)))
  {tk_MOST_ROWS:Tok} (kn_MOST_ROWS:PySem.W.nsIn K mainGlobals "MOST_ROWS"=some (some (.int 24 tk_MOST_ROWS)))
  {uv_NAME_SIGNS:Value} (kn_NAME_SIGNS:PySem.W.nsIn K mainGlobals "NAME_SIGNS"=some (some uv_NAME_SIGNS)) (kt_NAME_SIGNS:EC ⟨K,w⟩ (.str "abcdefghijklmnopqrstuvwxyz0123456789") uv_NAME_SIGNS=true)
  {ad_SIGNS:Addr} {es_SIGNS:Array DictEntry} {nn_SIGNS:Nat} (kn_SIGNS:PySem.W.nsIn K mainGlobals "SIGNS"=some (some (.ref ad_SIGNS))) (kl_SIGNS:K.lookup ad_SIGNS=some ⟨.type "dict",none,.dict es_SIGNS nn_SIGNS,#[]⟩) (kq_SIGNS:KdL ⟨K,w⟩ w es_SIGNS.toList Lr) (hs_SIGNS:(ad_SIGNS==sysModules)=false)
  : ∃fd:FuncData,(∀(s:Shared) (v:Value),BindsTo s fd ⟨[v],[]⟩ [("_law_script",v)])/\∀base:Heap,K.In base->base.Ns mainGlobals mg->FnOk l.prog w K mg base CX0 13 fa fd ["_law_script"] (spD ⟨K,w⟩ VA false):=by
 have e:=hfa.symm.trans (PySem.W.mg_of X G a75)
 cases e
 have F0:=A1 (st:=Dt) l0 c0 k0
 have F1:=A1 (st:=C7) l1 c1 k1
 have F2:=A1 (st:=Cj) l2 c2 k2
 have F3:=A1 (st:=Fe) l3 c3 k3
 have F4:=A1 (st:=HK) l4 c4 k4
 have F5:=A1 (st:=Es) l5 c5 k5
 have F6:=A1 (st:=DF) l6 c6 k6
 have F7:=A1 (st:=Cf) l7 c7 k7
 have F8:=A1 (st:=BU) l8 c8 k8
 have F9:=A1 (st:=EN) l9 c9 k9
 have F10:=A1 (st:=Ci) l10 c10 k10
 have F11:=A1 (st:=A4) l11 c11 k11
 have F12:=A1 (st:=Hx) l12 c12 k12
 have F13:=A1 (st:=BC) l13 c13 k13
 have F14:=A1 (st:=BZ) l14 c14 k14
 have F15:=A1 (st:=CD) l15 c15 k15
 have F16:=A1 (st:=GS) l16 c16 k16
 have F17:=A1 (st:=C0) l17 c17 k17
 have F18:=A1 (st:=FJ) l18 c18 k18
 have F19:=A1 (st:=CS) l19 c19 k19
 have F20:=A1 (st:=B3) l20 c20 k20
 have F21:=A1 (st:=GV) l21 c21 k21
 have F22:=A1 (st:=Cd) l22 c22 k22
 have F23:=A1 (st:=GU) l23 c23 k23
 have F24:=A1 (st:=CI) l24 c24 k24
 have F25:=A1 (st:=CV) l25 c25 k25
 have F26:=A1 (st:=CW) l26 c26 k26
 have F27:=A1 (st:=B5) l27 c27 k27
 have F28:=A1 (st:=GB) l28 c28 k28
 have F29:=A1 (st:=E4) l29 c29 k29
 have F30:=A1 (st:=EZ) l30 c30 k30
 have F31:=A1 (st:=C3) l31 c31 k31
 have F32:=A1 (st:=BS) l32 c32 k32
 have F33:=A1 (st:=CZ) l33 c33 k33
 have F34:=A1 (st:=CJ) l34 c34 k34
 have F35:=A1 (st:=Eb) l35 c35 k35
 have F36:=A1 (st:=Ea) l36 c36 k36
 have F37:=A1 (st:=FN) l37 c37 k37
 have F38:=A1 (st:=Gq) l38 c38 k38
 have F39:=A1 (st:=CC) l39 c39 k39
 have F40:=A1 (st:=FK) l40 c40 k40
 have F41:=A1 (st:=BY) l41 c41 k41
 have F42:=A1 (st:=DE) l42 c42 k42
 have F43:=A1 (st:=Fl) l43 c43 k43
 have F44:=A1 (st:=E5) l44 c44 k44
 have F45:=A1 (st:=Fj) l45 c45 k45
 have F46:=A1 (st:=Ds) l46 c46 k46
 have F47:=A1 (st:=FL) l47 c47 k47
 have F48:=A1 (st:=EM) l48 c48 k48
 have F49:=A1 (st:=D0) l49 c49 k49
 have F50:=A1 (st:=Er) l50 c50 k50
 have F51:=A1 (st:=Fd) l51 c51 k51
 have F52:=A1 (st:=K6) l52 c52 k52
 have F53:=A1 (st:=K5) l53 c53 k53
 have F54:=A1 (st:=Cg) l54 c54 k54
 have F55:=A1 (st:=Br) l55 c55 k55
 have F56:=A1 (st:=B9) l56 c56 k56
 have F57:=A1 (st:=EL) l57 c57 k57
 have F58:=A1 (st:=ED) l58 c58 k58
 have F59:=A1 (st:=B0) l59 c59 k59
 have F60:=A1 (st:=Jh) l60 c60 k60
 have F61:=A1 (st:=DW) l61 c61 k61
 have F62:=A1 (st:=Fi) l62 c62 k62
 have F63:=A1 (st:=DD) l63 c63 k63
 have F64:=A1 (st:=CA) l64 c64 k64
 have F65:=A1 (st:=Cz) l65 c65 k65
 have F66:=A1 (st:=Cc) l66 c66 k66
 have F67:=A1 (st:=CY) l67 c67 k67
 have F68:=A1 (st:=B4) l68 c68 k68
 have F69:=A1 (st:=B7) l69 c69 k69
 have F70:=A1 (st:=FO) l70 c70 k70
 have F71:=A1 (st:=Bj) l71 c71 k71
 have F72:=A1 (st:=DQ) l72 c72 k72
 have F73:=A1 (st:=Gr) l73 c73 k73
 have F74:=A1 (st:=Et) l74 c74 k74
 have F75:=A1 (st:=CB) l75 c75 k75
 have b0:=F0.binds (ps:=["_law_script","_law_k"]) fun _ _ _ _ _ _ us hl=>match us,hl with|[_,_],_=>rfl
 have b1:=F1.binds (ps:=["_law_script","_law_at"]) fun _ _ _ _ _ _ us hl=>match us,hl with|[_,_],_=>rfl
 have b2:=F2.binds (ps:=["_law_big_here"]) fun _ _ _ _ _ _ us hl=>match us,hl with|[_],_=>rfl
 have b3:=F3.binds (ps:=["_law_big_here"]) fun _ _ _ _ _ _ us hl=>match us,hl with|[_],_=>rfl
 have b4:=F4.binds (ps:=["_law_rows","_law_name"]) fun _ _ _ _ _ _ us hl=>match us,hl with|[_,_],_=>rfl
 have b5:=F5.binds (ps:=["_law_top","_law_bottom"]) fun _ _ _ _ _ _ us hl=>match us,hl with|[_,_],_=>rfl
 have b6:=F6.binds (ps:=["_law_big_here"]) fun _ _ _ _ _ _ us hl=>match us,hl with|[_],_=>rfl
 have b7:=F7.binds (ps:=["_law_big_here"]) fun _ _ _ _ _ _ us hl=>match us,hl with|[_],_=>rfl
 have b8:=F8.binds (ps:=["_law_big_here"]) fun _ _ _ _ _ _ us hl=>match us,hl with|[_],_=>rfl
 have b9:=F9.binds (ps:=["_law_big_here","_law_most"]) fun _ _ _ _ _ _ us hl=>match us,hl with|[_,_],_=>rfl
 have b10:=F10.binds (ps:=["_law_big_here"]) fun _ _ _ _ _ _ us hl=>match us,hl with|[_],_=>rfl
 have b11:=F11.binds (ps:=["_law_kind","_law_big_here"]) fun _ _ _ _ _ _ us hl=>match us,hl with|[_,_],_=>rfl
 have b12:=F12.binds (ps:=[]) fun _ _ _ _ _ _ us hl=>match us,hl with|[],_=>rfl
 have b13:=F13.binds (ps:=["_law_rows","_law_big_here"]) fun _ _ _ _ _ _ us hl=>match us,hl with|[_,_],_=>rfl
 have b14:=F14.binds (ps:=["_law_script","_law_first","_law_many_here"]) fun _ _ _ _ _ _ us hl=>match us,hl with|[_,_,_],_=>rfl
 have b15:=F15.binds (ps:=["_law_row","_law_big_here"]) fun _ _ _ _ _ _ us hl=>match us,hl with|[_,_],_=>rfl
 have b16:=F16.binds (ps:=["row"]) fun _ _ _ _ _ _ us hl=>match us,hl with|[_],_=>rfl
 have b17:=F17.binds (ps:=["rows","name"]) fun _ _ _ _ _ _ us hl=>match us,hl with|[_,_],_=>rfl
 have b18:=F18.binds (ps:=["rows","name"]) fun _ _ _ _ _ _ us hl=>match us,hl with|[_,_],_=>rfl
 have b19:=F19.binds (ps:=["row","shown"]) fun _ _ _ _ _ _ us hl=>match us,hl with|[_,_],_=>rfl
 have b20:=F20.binds (ps:=["row","x","y"]) fun _ _ _ _ _ _ us hl=>match us,hl with|[_,_,_],_=>rfl
 have b21:=F21.binds (ps:=["row"]) fun _ _ _ _ _ _ us hl=>match us,hl with|[_],_=>rfl
 have b22:=F22.binds (ps:=["row","data"]) fun _ _ _ _ _ _ us hl=>match us,hl with|[_,_],_=>rfl
 have b23:=F23.binds (ps:=["row"]) fun _ _ _ _ _ _ us hl=>match us,hl with|[_],_=>rfl
 have b24:=F24.binds (ps:=["row","quarters"]) fun _ _ _ _ _ _ us hl=>match us,hl with|[_,_],_=>rfl
 have b25:=F25.binds (ps:=["row","w","h"]) fun _ _ _ _ _ _ us hl=>match us,hl with|[_,_,_],_=>rfl
 have b26:=F26.binds (ps:=["row","deed"]) fun _ _ _ _ _ _ us hl=>match us,hl with|[_,_],_=>rfl
 have b27:=F27.binds (ps:=["thing","signs","low","high"]) fun _ _ _ _ _ _ us hl=>match us,hl with|[_,_,_,_],_=>rfl
 have b28:=F28.binds (ps:=["thing"]) fun _ _ _ _ _ _ us hl=>match us,hl with|[_],_=>rfl
 have b29:=F29.binds (ps:=["thing"]) fun _ _ _ _ _ _ us hl=>match us,hl with|[_],_=>rfl
 have b30:=F30.binds (ps:=["thing"]) fun _ _ _ _ _ _ us hl=>match us,hl with|[_],_=>rfl
 have b31:=F31.binds (ps:=["thing","low","high"]) fun _ _ _ _ _ _ us hl=>match us,hl with|[_,_,_],_=>rfl
 have b32:=F32.binds (ps:=["one","other"]) fun _ _ _ _ _ _ us hl=>match us,hl with|[_,_],_=>rfl
 have b33:=F33.binds (ps:=["thing"]) fun _ _ _ _ _ _ us hl=>match us,hl with|[_],_=>rfl
 have b34:=F34.binds (ps:=["thing"]) fun _ _ _ _ _ _ us hl=>match us,hl with|[_],_=>rfl
 have b35:=F35.binds (ps:=["shade","share"]) fun _ _ _ _ _ _ us hl=>match us,hl with|[_,_],_=>rfl
 have b36:=F36.binds (ps:=["data"]) fun _ _ _ _ _ _ us hl=>match us,hl with|[_],_=>rfl
 have b37:=F37.binds (ps:=["data"]) fun _ _ _ _ _ _ us hl=>match us,hl with|[_],_=>rfl
 have b38:=F38.binds (ps:=["sign"]) fun _ _ _ _ _ _ us hl=>match us,hl with|[_],_=>rfl
 have b39:=F39.binds (ps:=["thing"]) fun _ _ _ _ _ _ us hl=>match us,hl with|[_],_=>rfl
 have b40:=F40.binds (ps:=["data"]) fun _ _ _ _ _ _ us hl=>match us,hl with|[_],_=>rfl
 have b41:=F41.binds (ps:=["thing"]) fun _ _ _ _ _ _ us hl=>match us,hl with|[_],_=>rfl
 have b42:=F42.binds (ps:=["data"]) fun _ _ _ _ _ _ us hl=>match us,hl with|[_],_=>rfl
 have b43:=F43.binds (ps:=["data"]) fun _ _ _ _ _ _ us hl=>match us,hl with|[_],_=>rfl
 have b44:=F44.binds (ps:=["data"]) fun _ _ _ _ _ _ us hl=>match us,hl with|[_],_=>rfl
 have b45:=F45.binds (ps:=["thing"]) fun _ _ _ _ _ _ us hl=>match us,hl with|[_],_=>rfl
 have b46:=F46.binds (ps:=["data"]) fun _ _ _ _ _ _ us hl=>match us,hl with|[_],_=>rfl
 have b47:=F47.binds (ps:=["data"]) fun _ _ _ _ _ _ us hl=>match us,hl with|[_],_=>rfl
 have b48:=F48.binds (ps:=["data"]) fun _ _ _ _ _ _ us hl=>match us,hl with|[_],_=>rfl
 have b49:=F49.binds (ps:=["kind","data"]) fun _ _ _ _ _ _ us hl=>match us,hl with|[_,_],_=>rfl
 have b50:=F50.binds (ps:=["row"]) fun _ _ _ _ _ _ us hl=>match us,hl with|[_],_=>rfl
 have b51:=F51.binds (ps:=["row"]) fun _ _ _ _ _ _ us hl=>match us,hl with|[_],_=>rfl
 have b52:=F52.binds (ps:=["row"]) fun _ _ _ _ _ _ us hl=>match us,hl with|[_],_=>rfl
 have b53:=F53.binds (ps:=["row"]) fun _ _ _ _ _ _ us hl=>match us,hl with|[_],_=>rfl
 have b54:=F54.binds (ps:=["thing"]) fun _ _ _ _ _ _ us hl=>match us,hl with|[_],_=>rfl
 have b55:=F55.binds (ps:=["rows","deed"]) fun _ _ _ _ _ _ us hl=>match us,hl with|[_,_],_=>rfl
 have b56:=F56.binds (ps:=["rows","name"]) fun _ _ _ _ _ _ us hl=>match us,hl with|[_,_],_=>rfl
 have b57:=F57.binds (ps:=["row"]) fun _ _ _ _ _ _ us hl=>match us,hl with|[_],_=>rfl
 have b58:=F58.binds (ps:=["rows","name"]) fun _ _ _ _ _ _ us hl=>match us,hl with|[_,_],_=>rfl
 have b59:=F59.binds (ps:=["ahead","row"]) fun _ _ _ _ _ _ us hl=>match us,hl with|[_,_],_=>rfl
 have b60:=F60.binds (ps:=["rows"]) fun _ _ _ _ _ _ us hl=>match us,hl with|[_],_=>rfl
 have b61:=F61.binds (ps:=["rows","row"]) fun _ _ _ _ _ _ us hl=>match us,hl with|[_,_],_=>rfl
 have b62:=F62.binds (ps:=["rows","name"]) fun _ _ _ _ _ _ us hl=>match us,hl with|[_,_],_=>rfl
 have b63:=F63.binds (ps:=["rows","name"]) fun _ _ _ _ _ _ us hl=>match us,hl with|[_,_],_=>rfl
 have b64:=F64.binds (ps:=["rows","name"]) fun _ _ _ _ _ _ us hl=>match us,hl with|[_,_],_=>rfl
 have b65:=F65.binds (ps:=["rows","name"]) fun _ _ _ _ _ _ us hl=>match us,hl with|[_,_],_=>rfl
 have b66:=F66.binds (ps:=["rows","name"]) fun _ _ _ _ _ _ us hl=>match us,hl with|[_,_],_=>rfl
 have b67:=F67.binds (ps:=["rows","holder"]) fun _ _ _ _ _ _ us hl=>match us,hl with|[_,_],_=>rfl
 have b68:=F68.binds (ps:=["rows","name"]) fun _ _ _ _ _ _ us hl=>match us,hl with|[_,_],_=>rfl
 have b69:=F69.binds (ps:=["rows","deed"]) fun _ _ _ _ _ _ us hl=>match us,hl with|[_,_],_=>rfl
 have b70:=F70.binds (ps:=["_law_script","_law_many_here","_law_most"]) fun _ _ _ _ _ _ us hl=>match us,hl with|[_,_,_],_=>rfl
 have b71:=F71.binds (ps:=["_law_found","_law_due"]) fun _ _ _ _ _ _ us hl=>match us,hl with|[_,_],_=>rfl
 have b72:=F72.binds (ps:=["_law_rows","_law_name"]) fun _ _ _ _ _ _ us hl=>match us,hl with|[_,_],_=>rfl
 have b73:=F73.binds (ps:=["_law_rows","_law_name"]) fun _ _ _ _ _ _ us hl=>match us,hl with|[_,_],_=>rfl
 have b74:=F74.binds (ps:=["_law_rows","_law_one","_law_other"]) fun _ _ _ _ _ _ us hl=>match us,hl with|[_,_,_],_=>rfl
 have y_abs:=PySem.W.mg_none_of X G z_abs
 have y_all:=PySem.W.mg_none_of X G z_all
 have y_any:=PySem.W.mg_none_of X G z_any
 have y_bool:=PySem.W.mg_none_of X G z_bool
 have y_enumerate:=PySem.W.mg_none_of X G z_enumerate
 have y_int:=PySem.W.mg_none_of X G z_int
 have y_isinstance:=PySem.W.mg_none_of X G z_isinstance
 have y_len:=PySem.W.mg_none_of X G z_len
 have y_list:=PySem.W.mg_none_of X G z_list
 have y_range:=PySem.W.mg_none_of X G z_range
 have y_str:=PySem.W.mg_none_of X G z_str
 have y_tuple:=PySem.W.mg_none_of X G z_tuple
 have kc_FORMS:=PySem.W.mg_of X G kn_FORMS
 have kf_FORMS:KF ⟨K,w⟩ w ad_FORMS [("plate",f36),("band",f37),("word",f40),("stencil",f42),("group",f43),("glass",f44),("window",f46),("turn",f47),("tiles",f48),("mask",f43)]:=⟨⟨es_FORMS,nn_FORMS,kl_FORMS,kq_FORMS⟩⟩
 have kc_HOLDERS:=PySem.W.mg_of X G kn_HOLDERS
 have kc_MOST_HOLDERS:=PySem.W.mg_of X G kn_MOST_HOLDERS
 have kc_MOST_ROWS:=PySem.W.mg_of X G kn_MOST_ROWS
 have kc_NAME_SIGNS:=PySem.W.mg_of X G kn_NAME_SIGNS
 have kc_SIGNS:=PySem.W.mg_of X G kn_SIGNS
 have kd_SIGNS:KD ⟨K,w⟩ w ad_SIGNS Lr:=⟨⟨es_SIGNS,nn_SIGNS,kl_SIGNS,kq_SIGNS⟩⟩
 refine⟨PySem.W.fnOf "law" "law" (Ai CB) (Ah CB) (AA CB) .none kV75 dc75 pm75 an75 cd75 ct75,fun s v=>.of_eq rfl,fun base _ _=>?_⟩
 have d79:Cal l.prog w K mg base 1 "_law_cell_at" ["_law_script","_law_k"] (spD ⟨K,w⟩ Dv false):=Cal.of F0 (Y5 F0 y_len) b0 (PySem.W.mg_of X G a0)
 have e30:Cal l.prog w K mg base 1 "_law_name_of" ["_law_big_here"] (spD ⟨K,w⟩ IB false):=Cal.of F2 (Y3 F2 y_range) b2 (PySem.W.mg_of X G a2)
 have c98:Cal l.prog w K mg base 1 "_law_step_of" ["_law_big_here"] (spD ⟨K,w⟩ B8 false):=Cal.of F3 (Y1 F3) b3 (PySem.W.mg_of X G a3)
 have e74:Cal l.prog w K mg base 1 "_law_up" ["_law_rows","_law_name"] (spD ⟨K,w⟩ LU true):=Cal.of F4 (kJ F4) b4 (PySem.W.mg_of X G a4)
 have e70:Cal l.prog w K mg base 1 "_law_low" ["_law_top","_law_bottom"] (spD ⟨K,w⟩ Mb false):=Cal.of F5 (i8 F5 y_abs) b5 (PySem.W.mg_of X G a5)
 have e02:Cal l.prog w K mg base 1 "_law_stencil_of" ["_law_big_here"] (spD ⟨K,w⟩ FV false):=Cal.of F8 (Tg F8 y_range y_tuple) b8 (PySem.W.mg_of X G a8)
 have e31:Cal l.prog w K mg base 1 "_law_size_of" ["_law_big_here","_law_most"] (spD ⟨K,w⟩ EO false):=Cal.of F9 (Y2 F9) b9 (PySem.W.mg_of X G a9)
 have e32:Cal l.prog w K mg base 1 "_law_word_of" ["_law_big_here"] (spD ⟨K,w⟩ IA false):=Cal.of F10 (Y0 F10 y_range) b10 (PySem.W.mg_of X G a10)
 have e55:Cal l.prog w K mg base 1 "_law_kinds" [] (spD ⟨K,w⟩ HC false):=Cal.of F12 (dH F12) b12 (PySem.W.mg_of X G a12)
 have c77:Cal l.prog w K mg base 1 "row_name" ["row"] (spD ⟨K,w⟩ Be false):=Cal.of F16 (aU F16) b16 (PySem.W.mg_of X G a16)
 have d89:Cal l.prog w K mg base 1 "row_with_shown" ["row","shown"] (spD ⟨K,w⟩ G9 false):=Cal.of F19 (Qt F19) b19 (PySem.W.mg_of X G a19)
 have d90:Cal l.prog w K mg base 1 "row_with_place" ["row","x","y"] (spD ⟨K,w⟩ HA false):=Cal.of F20 (Qu F20) b20 (PySem.W.mg_of X G a20)
 have d03:Cal l.prog w K mg base 1 "row_data" ["row"] (spD ⟨K,w⟩ GX false):=Cal.of F21 (aX F21) b21 (PySem.W.mg_of X G a21)
 have c83:Cal l.prog w K mg base 1 "row_with_data" ["row","data"] (spD ⟨K,w⟩ Cu false):=Cal.of F22 (Rk F22) b22 (PySem.W.mg_of X G a22)
 have c80:Cal l.prog w K mg base 1 "row_kind" ["row"] (spD ⟨K,w⟩ CK false):=Cal.of F23 (aV F23) b23 (PySem.W.mg_of X G a23)
 have d08:Cal l.prog w K mg base 1 "is_text_of" ["thing","signs","low","high"] (spD ⟨K,w⟩ DH false):=Cal.of F27 (Wc F27 y_len y_str y_isinstance y_all) b27 (PySem.W.mg_of X G a27)
 have d92:Cal l.prog w K mg base 1 "is_truth" ["thing"] (spD ⟨K,w⟩ Iw false):=Cal.of F29 (aa F29 y_bool y_isinstance) b29 (PySem.W.mg_of X G a29)
 have d93:Cal l.prog w K mg base 1 "is_whole" ["thing"] (spD ⟨K,w⟩ GZ false):=Cal.of F30 (aZ F30 y_bool y_isinstance y_int) b30 (PySem.W.mg_of X G a30)
 have d91:Cal l.prog w K mg base 1 "common_divisor" ["one","other"] (spD ⟨K,w⟩ DY false):=Cal.of F32 (Qv F32 y_abs) b32 (PySem.W.mg_of X G a32)
 have e56:Cal l.prog w K mg base 1 "is_sign" ["sign"] (spD ⟨K,w⟩ H0 false):=Cal.of F38 (dD F38 kc_SIGNS kd_SIGNS hs_SIGNS) b38 (PySem.W.mg_of X G a38)
 have d04:Cal l.prog w K mg base 1 "is_empty" ["data"] (spD ⟨K,w⟩ Hs false):=Cal.of F43 (ao F43 y_len) b43 (PySem.W.mg_of X G a43)
 have c84:Cal l.prog w K mg base 1 "row_holder" ["row"] (spD ⟨K,w⟩ Av false):=Cal.of F50 (Wa F50) b50 (PySem.W.mg_of X G a50)
 have e33:Cal l.prog w K mg base 1 "row_shown" ["row"] (spD ⟨K,w⟩ K8 false):=Cal.of F51 (Yt F51) b51 (PySem.W.mg_of X G a51)
 have e71:Cal l.prog w K mg base 1 "row_x" ["row"] (spD ⟨K,w⟩ RA false):=Cal.of F52 (i7 F52) b52 (PySem.W.mg_of X G a52)
 have e72:Cal l.prog w K mg base 1 "row_y" ["row"] (spD ⟨K,w⟩ Q9 false):=Cal.of F53 (i6 F53) b53 (PySem.W.mg_of X G a53)
 have e12:Cal l.prog w K mg base 1 "_law_same_rows" ["_law_found","_law_due"] (spD ⟨K,w⟩ Dg false):=Cal.of F71 (Uj F71 y_list y_isinstance y_len y_range y_bool) b71 (PySem.W.mg_of X G a71)
 have e57:Cal l.prog w K mg base 1 "_law_chain" ["_law_rows","_law_name"] (spD ⟨K,w⟩ JA false):=Cal.of F72 (dJ F72) b72 (PySem.W.mg_of X G a72)
 have e37:Cal l.prog w K mg base 2 "_law_big" ["_law_script","_law_at"] (spD ⟨K,w⟩ Fq false):=Cal.of F1 (jA F1 (d79.mono (by decide)) y_range) b1 (PySem.W.mg_of X G a1)
 have e19:Cal l.prog w K mg base 2 "_law_share_of" ["_law_big_here"] (spD ⟨K,w⟩ Fo false):=Cal.of F6 (Wf F6 (e70.mono (by decide))) b6 (PySem.W.mg_of X G a6)
 have c99:Cal l.prog w K mg base 2 "row_found" ["rows","name"] (spD ⟨K,w⟩ Cb false):=Cal.of F17 (Yu F17 (c77.mono (by decide))) b17 (PySem.W.mg_of X G a17)
 have e20:Cal l.prog w K mg base 2 "row_turned" ["row","quarters"] (spD ⟨K,w⟩ HB false):=Cal.of F24 (WZ F24 (c80.mono (by decide)) (d03.mono (by decide)) (c83.mono (by decide))) b24 (PySem.W.mg_of X G a24)
 have e34:Cal l.prog w K mg base 2 "row_sized" ["row","w","h"] (spD ⟨K,w⟩ GW false):=Cal.of F25 (Ys F25 (c80.mono (by decide)) (c83.mono (by decide)) (d03.mono (by decide))) b25 (PySem.W.mg_of X G a25)
 have e58:Cal l.prog w K mg base 2 "is_name" ["thing"] (spD ⟨K,w⟩ GD false):=Cal.of F28 (dE F28 (d08.mono (by decide)) kc_NAME_SIGNS kt_NAME_SIGNS) b28 (PySem.W.mg_of X G a28)
 have c79:Cal l.prog w K mg base 2 "is_within" ["thing","low","high"] (spD ⟨K,w⟩ Bg false):=Cal.of F31 (Yv F31 (d93.mono (by decide))) b31 (PySem.W.mg_of X G a31)
 have e43:Cal l.prog w K mg base 2 "is_share" ["thing"] (spD ⟨K,w⟩ Iy false):=Cal.of F33 (af F33 (d93.mono (by decide)) (d91.mono (by decide)) y_len y_tuple y_isinstance) b33 (PySem.W.mg_of X G a33)
 have e03:Cal l.prog w K mg base 2 "is_word_text" ["thing"] (spD ⟨K,w⟩ FU false):=Cal.of F39 (Tf F39 (e56.mono (by decide)) y_len y_str y_isinstance y_all) b39 (PySem.W.mg_of X G a39)
 have d09:Cal l.prog w K mg base 2 "are_stencil_rows" ["thing"] (spD ⟨K,w⟩ DZ false):=Cal.of F41 (Oo F41 (d08.mono (by decide)) y_len y_tuple y_isinstance y_all) b41 (PySem.W.mg_of X G a41)
 have e35:Cal l.prog w K mg base 2 "is_holder" ["row"] (spD ⟨K,w⟩ Ga false):=Cal.of F57 (Yx F57 (c80.mono (by decide)) kc_HOLDERS kt_HOLDERS) b57 (PySem.W.mg_of X G a57)
 have e65:Cal l.prog w K mg base 2 "_law_many" ["_law_script","_law_many_here","_law_most"] (spD ⟨K,w⟩ JP false):=Cal.of F70 (gO F70 (d79.mono (by decide))) b70 (PySem.W.mg_of X G a70)
 have e59:Cal l.prog w K mg base 2 "_law_inner" ["_law_rows","_law_name"] (spD ⟨K,w⟩ I0 true):=Cal.of F73 (dI F73 (e57.mono (by decide))) b73 (PySem.W.mg_of X G a73)
 have e21:Cal l.prog w K mg base 3 "_law_paint_of" ["_law_big_here"] (spD ⟨K,w⟩ Ew false):=Cal.of F7 (Wh F7 (e19.mono (by decide))) b7 (PySem.W.mg_of X G a7)
 have c95:Cal l.prog w K mg base 3 "row_of" ["rows","name"] (spD ⟨K,w⟩ Cn false):=Cal.of F18 (gM F18 (c99.mono (by decide))) b18 (PySem.W.mg_of X G a18)
 have e44:Cal l.prog w K mg base 3 "row_done" ["row","deed"] (spD ⟨K,w⟩ Ec false):=Cal.of F26 (aW F26 (d90.mono (by decide)) (e20.mono (by decide)) (e34.mono (by decide)) (c83.mono (by decide)) (d89.mono (by decide))) b26 (PySem.W.mg_of X G a26)
 have c89:Cal l.prog w K mg base 3 "is_bounded_share" ["thing"] (spD ⟨K,w⟩ CL false):=Cal.of F34 (Om F34 (e43.mono (by decide))) b34 (PySem.W.mg_of X G a34)
 have d94:Cal l.prog w K mg base 3 "is_place" ["thing"] (spD ⟨K,w⟩ DJ false):=Cal.of F45 (ai F45 (c79.mono (by decide))) b45 (PySem.W.mg_of X G a45)
 have e08:Cal l.prog w K mg base 3 "is_turn" ["data"] (spD ⟨K,w⟩ Iv false):=Cal.of F47 (dB F47 (d92.mono (by decide)) (c79.mono (by decide)) y_len) b47 (PySem.W.mg_of X G a47)
 have d80:Cal l.prog w K mg base 3 "are_tiles" ["data"] (spD ⟨K,w⟩ Gb false):=Cal.of F48 (Yz F48 (c79.mono (by decide)) y_len) b48 (PySem.W.mg_of X G a48)
 have d76:Cal l.prog w K mg base 3 "holders_of" ["rows","name"] (spD ⟨K,w⟩ Df true):=Cal.of F56 (We F56 (c99.mono (by decide)) (c84.mono (by decide))) b56 (PySem.W.mg_of X G a56)
 have d81:Cal l.prog w K mg base 4 "_law_data_of" ["_law_kind","_law_big_here"] (spD ⟨K,w⟩ Bm false):=Cal.of F11 (Y4 F11 (e31.mono (by decide)) (c98.mono (by decide)) (e21.mono (by decide)) (e32.mono (by decide)) (e02.mono (by decide))) b11 (PySem.W.mg_of X G a11)
 have c91:Cal l.prog w K mg base 4 "is_paint" ["shade","share"] (spD ⟨K,w⟩ DK false):=Cal.of F35 (aj F35 (c89.mono (by decide))) b35 (PySem.W.mg_of X G a35)
 have d95:Cal l.prog w K mg base 4 "is_glass" ["data"] (spD ⟨K,w⟩ Hr false):=Cal.of F44 (ak F44 (c89.mono (by decide)) y_len) b44 (PySem.W.mg_of X G a44)
 have d82:Cal l.prog w K mg base 4 "is_window" ["data"] (spD ⟨K,w⟩ GY false):=Cal.of F46 (Yw F46 (d94.mono (by decide)) (c79.mono (by decide)) y_len) b46 (PySem.W.mg_of X G a46)
 have e45:Cal l.prog w K mg base 4 "is_tiles" ["rows","name"] (spD ⟨K,w⟩ Fm false):=Cal.of F58 (ae F58 (c80.mono (by decide)) (c95.mono (by decide))) b58 (PySem.W.mg_of X G a58)
 have e46:Cal l.prog w K mg base 4 "parts_in" ["rows","name"] (spD ⟨K,w⟩ Ir true):=Cal.of F62 (aY F62 (d76.mono (by decide)) (c77.mono (by decide))) b62 (PySem.W.mg_of X G a62)
 have e04:Cal l.prog w K mg base 4 "place_behind" ["rows","holder"] (spD ⟨K,w⟩ Ed false):=Cal.of F67 (Te F67 (c95.mono (by decide))) b67 (PySem.W.mg_of X G a67)
 have d96:Cal l.prog w K mg base 5 "_law_row_of" ["_law_rows","_law_big_here"] (spD ⟨K,w⟩ Ee false):=Cal.of F13 (aq F13 (e30.mono (by decide)) (e74.mono (by decide)) (e55.mono (by decide)) (c98.mono (by decide)) (d81.mono (by decide)) y_len) b13 (PySem.W.mg_of X G a13)
 have e60:Cal l.prog w K mg base 5 "_law_backs" ["_law_row","_law_big_here"] (spD ⟨K,w⟩ JB true):=Cal.of F15 (dM F15 (c98.mono (by decide)) (d81.mono (by decide)) y_int) b15 (PySem.W.mg_of X G a15)
 have d97:Cal l.prog w K mg base 5 "is_plate" ["data"] (spD ⟨K,w⟩ Hq false):=Cal.of F36 (ag F36 (c91.mono (by decide)) (c79.mono (by decide)) y_len) b36 (PySem.W.mg_of X G a36)
 have e09:Cal l.prog w K mg base 5 "is_band" ["data"] (spD ⟨K,w⟩ Iz false):=Cal.of F37 (dG F37 (c91.mono (by decide)) (c79.mono (by decide)) y_len) b37 (PySem.W.mg_of X G a37)
 have e10:Cal l.prog w K mg base 5 "is_word" ["data"] (spD ⟨K,w⟩ Iu false):=Cal.of F40 (dA F40 (c91.mono (by decide)) (e03.mono (by decide)) y_len) b40 (PySem.W.mg_of X G a40)
 have d77:Cal l.prog w K mg base 5 "is_stencil" ["data"] (spD ⟨K,w⟩ Fn false):=Cal.of F42 (Wd F42 (c91.mono (by decide)) (d09.mono (by decide)) y_len) b42 (PySem.W.mg_of X G a42)
 have d78:Cal l.prog w K mg base 5 "names_with" ["rows","name"] (spD ⟨K,w⟩ Eu true):=Cal.of F63 (Wb F63 (e46.mono (by decide))) b63 (PySem.W.mg_of X G a63)
 have e22:Cal l.prog w K mg base 6 "_law_scene_of" ["_law_script","_law_first","_law_many_here"] (spD ⟨K,w⟩ Fp true):=Cal.of F14 (Wg F14 (d96.mono (by decide)) (e37.mono (by decide)) y_range) b14 (PySem.W.mg_of X G a14)
 have e61:Cal l.prog w K mg base 6 "is_data" ["kind","data"] (spD ⟨K,w⟩ KC false):=Cal.of F49 (dF F49 (d97.mono (by decide)) (e09.mono (by decide)) (e10.mono (by decide)) (d77.mono (by decide)) (d04.mono (by decide)) (d95.mono (by decide)) (d82.mono (by decide)) (e08.mono (by decide)) (d80.mono (by decide)) y_tuple y_isinstance y_str kc_FORMS kf_FORMS hs_FORMS (.cons ⟨_,_,d97.mono (by decide),PySem.W.mg_of X G a36⟩ (.cons ⟨_,_,e09.mono (by decide),PySem.W.mg_of X G a37⟩ (.cons ⟨_,_,e10.mono (by decide),PySem.W.mg_of X G a40⟩ (.cons ⟨_,_,d77.mono (by decide),PySem.W.mg_of X G a42⟩ (.cons ⟨_,_,d04.mono (by decide),PySem.W.mg_of X G a43⟩ (.cons ⟨_,_,d95.mono (by decide),PySem.W.mg_of X G a44⟩ (.cons ⟨_,_,d82.mono (by decide),PySem.W.mg_of X G a46⟩ (.cons ⟨_,_,e08.mono (by decide),PySem.W.mg_of X G a47⟩ (.cons ⟨_,_,d80.mono (by decide),PySem.W.mg_of X G a48⟩ (.cons ⟨_,_,d04.mono (by decide),PySem.W.mg_of X G a43⟩ .nil))))))))))) b49 (PySem.W.mg_of X G a49)
 have c86:Cal l.prog w K mg base 6 "rows_without" ["rows","name"] (spD ⟨K,w⟩ Ca true):=Cal.of F64 (Tc F64 (d78.mono (by decide)) (c77.mono (by decide))) b64 (PySem.W.mg_of X G a64)
 have d83:Cal l.prog w K mg base 6 "rows_with" ["rows","name"] (spD ⟨K,w⟩ Ff true):=Cal.of F65 (Yq F65 (d78.mono (by decide)) (c77.mono (by decide))) b65 (PySem.W.mg_of X G a65)
 have e23:Cal l.prog w K mg base 7 "is_row" ["thing"] (spD ⟨K,w⟩ HY false):=Cal.of F54 (gN F54 (e58.mono (by decide)) (c77.mono (by decide)) (c84.mono (by decide)) (d94.mono (by decide)) (e72.mono (by decide)) (e71.mono (by decide)) (e61.mono (by decide)) (d03.mono (by decide)) (c80.mono (by decide)) (d92.mono (by decide)) (e33.mono (by decide)) y_len y_tuple y_isinstance) b54 (PySem.W.mg_of X G a54)
 have e15:Cal l.prog w K mg base 7 "rows_raised" ["rows","name"] (spD ⟨K,w⟩ GC true):=Cal.of F66 (Ui F66 (c86.mono (by decide)) (d83.mono (by decide))) b66 (PySem.W.mg_of X G a66)
 have e36:Cal l.prog w K mg base 7 "rows_sunk" ["rows","name"] (spD ⟨K,w⟩ Hz true):=Cal.of F68 (Yr F68 (c86.mono (by decide)) (e04.mono (by decide)) (c84.mono (by decide)) (c95.mono (by decide)) (d83.mono (by decide))) b68 (PySem.W.mg_of X G a68)
 have e05:Cal l.prog w K mg base 8 "rows_changed" ["rows","deed"] (spD ⟨K,w⟩ FT true):=Cal.of F55 (Td F55 (e44.mono (by decide)) (c95.mono (by decide)) (e23.mono (by decide)) (c77.mono (by decide))) b55 (PySem.W.mg_of X G a55)
 have e62:Cal l.prog w K mg base 8 "vet_row" ["ahead","row"] (spD ⟨K,w⟩ Ip false):=Cal.of F59 (cz F59 (e23.mono (by decide)) (c99.mono (by decide)) (c77.mono (by decide)) (c84.mono (by decide)) (e35.mono (by decide)) (d76.mono (by decide)) (e45.mono (by decide)) (c80.mono (by decide)) y_len y_any kc_MOST_HOLDERS) b59 (PySem.W.mg_of X G a59)
 have e81:Cal l.prog w K mg base 9 "vet" ["rows"] (spD ⟨K,w⟩ U9 false):=Cal.of F60 (m5 F60 (e62.mono (by decide)) y_enumerate y_len kc_MOST_ROWS) b60 (PySem.W.mg_of X G a60)
 have e47:Cal l.prog w K mg base 10 "rows_put" ["rows","row"] (spD ⟨K,w⟩ Iq false):=Cal.of F61 (aT F61 (e81.mono (by decide))) b61 (PySem.W.mg_of X G a61)
 have d84:Cal l.prog w K mg base 11 "deed_done" ["rows","deed"] (spD ⟨K,w⟩ Bl false):=Cal.of F69 (Yy F69 (e47.mono (by decide)) (c95.mono (by decide)) (c86.mono (by decide)) (e15.mono (by decide)) (e36.mono (by decide)) (e05.mono (by decide))) b69 (PySem.W.mg_of X G a69)
 have e66:Cal l.prog w K mg base 12 "_law_both" ["_law_rows","_law_one","_law_other"] (spD ⟨K,w⟩ Co false):=Cal.of F74 (gP F74 (d84.mono (by decide)) y_list) b74 (PySem.W.mg_of X G a74)
 exact m6 F75 (e37.mono (by decide)) (e22.mono (by decide)) (e65.mono (by decide)) (e60.mono (by decide)) (e12.mono (by decide)) (e66.mono (by decide)) (d96.mono (by decide)) (d84.mono (by decide)) (e59.mono (by decide)) y_len y_range y_str y_list
theorem entry{K:KW}{H:Hp}{a:Addr}{ns:List Int}{Q:VK}{X:XK}(hS:SqL K H a (ns.map V.int))(h63:ns.length<=63)(q:∀H',Q (.bl true) H'):spD K VA false [.ref a] H Q X:=by
 obtain⟨ls,e⟩:=bR ns h63
 refine⟨fun _=>False,fun _=>False,[.c (ns.map PyData.int)],.bool true,ls,⟨rfl,fun i x e=>?_,fun i x e=>?_,fun i x e=>?_,fun i j xs ys b e=>?_,fun _ h=>h.elim,fun _ h=>h.elim,GR.nil fun i x e=>?_⟩,e,fun v H' _ _ res=>?_⟩
 ·match i,e with
  |0,e=>cases e
  |i+1,e=>cases e
 ·match i,e with
  |0,e=>exact absurd (Option.some.inj (Option.some.inj e)).symm Ow.not_c
  |i+1,e=>cases e
 ·match i,e with
  |0,e =>
   cases e
   exact⟨a,ns.map V.int,rfl,jj hS,bV ns⟩
  |i+1,e=>cases e
 ·match i,e with
  |0,e=>exact absurd (Option.some.inj (Option.some.inj e)).symm Ow.not_c
  |i+1,e=>cases e
 ·match i,e with
  |0,e=>cases e
  |i+1,e=>cases e
 ·cases (show v = .bl true from res)
  exact q H'
theorem walk{l:PySem.W.OpenLaw}{q:Program}{loose:List Str}{XP:(Str->Option Value)->Heap->Prop}{YP:World->Heap->Prop}{d:DefRec}{K:Params->PySem.W.Frag}(hn:l.most=some 63)(hdf:d.params.defaults=[])
  (hY:∀(w:World) (h:Heap),YP w h->(K w.params).In h)
  (F : ∀ (w : World) (mg : Str -> Option Value) (fa : Addr) (h : Heap), (K w.params).In h -> h.Ns mainGlobals mg -> mg d.name = some (.ref fa) ->
   ∃fd:FuncData,(∀(s:Shared) (u:Value),BindsTo s fd ⟨[u],[]⟩ [("_law_script",u)])/\∀base:Heap,(K w.params).In base->base.Ns mainGlobals mg->FnOk l.prog w (K w.params) mg base CX0 13 fa fd ["_law_script"] (spD ⟨K w.params,w⟩ VA false)) :
  PySem.W.WalkO q loose XP YP l.row.toRowW d [] (fun f vs=>PySem.call f vs) :=
 L2.walk_of (n:=63) (k:=13) (x:="_law_script") (CX:=fun _=>CX0) (sp:=fun w=>spD ⟨K w.params,w⟩ VA false) hn (by decide) hdf ⟨rfl,by decide,by decide⟩ hY F (fun _ _ a ns hl _ hS=>entry hS hl fun _=>rfl) fun _ _ _ _ _ z=>z
end My
namespace PySem.W.Fast
def tw95815808677652628:=0
def tw9050588220678078176:=0
def tw12971783809155596308:=0
def tw13723695476692031561:=0
def tw10631875313576753170:=0
def tw214561352497409642:=0
def tw17783427190405332792:=0
def tw10931142820008196414:=0
def tw1628303498830705989:=0
def tw7350625417644600790:=0
def tw16633585226968652354:=0
def tw15601762928473565592:=0
def tw433183115427833365:=0
def tw1664996708929373718:=0
def tw12317932712698600775:=0
def tw13572240090591543963:=0
def tw10508563457164270108:=0
def tw5103256205560644462:=0
def tw16555173626951034045:=0
def tw12053937978014441418:=0
def tw10699981379489429025:=0
def tw14575483450967490989:=0
def tw13185252759218997040:=0
def tw10373655883516036337:=0
def tw12571486800277857804:=0
def tw4232372607488780712:=0
def tw7145485238330975061:=0
def tw8282531859947769928:=0
def tw1583767159554094027:=0
def tw11398590339428499233:=0
def tw637912764250232674:=0
def tw8063402237595261780:=0
def tw2690437370214667224:=0
def tw445242984682473259:=0
def tw9579461044001340854:=0
def tw7309461213159488893:=0
def tw8546443851929690731:=0
def tw15101755174082724375:=0
def tw1143904262758903521:=0
def tw5955563277980328976:=0
def tw14265817515994471956:=0
def tw15722154375741714823:=0
def tw15356833978252643631:=0
def tw5529595324399568046:=0
def tw4481199367830411375:=0
def tw15388049472292562105:=0
def tw1010552078520967814:=0
def tw8236189083894164020:=0
def tw5325585956513941488:=0
def tw11648170623371458967:=0
def tw4561648499267071906:=0
def tw6357391727045169289:=0
def tw14340780826383359609:=0
def tw15145399450760572529:=0
def tw2514399600486425104:=0
def tw8149704917190954575:=0
def tw6300150745632566045:=0
def tw5517033791512626052:=0
def tw4061906572930434976:=0
def tw771073443384914108:=0
def tw7174632410918648825:=0
def tw10362319972453321782:=0
def tw16032695010546394112:=0
def tw6284006588521634895:=0
def tw5454269676043717719:=0
def tw5127734362382599480:=0
def tw826906641558085565:=0
def tw4740999662647317030:=0
def tw16081974077854204808:=0
def tw18048361068020927598:=0
def tw7390228396454146322:=0
def tw1910484716201835625:=0
def tw4538754862760091993:=0
def tw9230373080701497478:=0
def tw1077190488228186828:=0
def tw7994673784704969703:=0
def tw13973554271224695911:=0
def tw251126885285781407:=0
def tw671623403588202556:=0
def tw1926229401736733583:=0
def tw8433495973033144320:=0
def tw2169464606607071219:=0
def tw7338101897152517451:=0
def tw11133221386325797956:=0
def tw12802859793471339351:=0
def tw17789724841019693917:=0
def tw432907916056226131:=0
def tw7581629173478042506:=0
def tw7928817739345823670:=0
def tw11274665479569460153:=0
def tw6462677386626298803:=0
def tw16084753384177188139:=0
def tw2259612469434567610:=0
def tw9663199745634196665:=0
def tw15845371255905329691:=0
def tw5734314595037178504:=0
def tw6638434742293608162:=0
def tw7013504708796688902:=0
def tw4878892848402749599:=0
def tw17049747375073544281:=0
def tw3695835572907920155:=0
def tw16588678015000668842:=0
def tw15159974634361390433:=0
def tw7062109857967514126:=0
def tw7795042961150218090:=0
def tw17258117659708758997:=0
def tw1135690186460672550:=0
def tw3294318163950077698:=0
def tw15252682607831462574:=0
def tw1948709850983971162:=0
def tw4478932851751989108:=0
def tw2765987037903354212:=0
def tw15692044945110835146:=0
def tw13366209564943236065:=0
end PySem.W.Fast
open PySem PySem.W PyProof.Rows
set_option maxRecDepth 100000 in
set_option maxHeartbeats 0 in
theorem PySem.Challenge.cw_scenemend_k46_there_and_back_holds : PySem.Challenge.rw_scenemend_k46_there_and_back.Holds := by
 w_on;o_law;k_head;(case hw=>w_witness2)
 k_fill
 refine My.walk (l:=PySem.Challenge.rw_scenemend_k46_there_and_back) rfl rfl (fun w h Y=>PySem.W.kIn_of Y) ?F
 case F =>
  intro w mg fa h KX G hmg
  refine' My.all_mk KX G hmg ?a0 ?l0 ?c0 ?k0 ?a1 ?l1 ?c1 ?k1 ?a2 ?l2 ?c2 ?k2 ?a3 ?l3 ?c3 ?k3 ?a4 ?l4 ?c4 ?k4 ?a5 ?l5 ?c5 ?k5 ?a6 ?l6 ?c6 ?k6 ?a7 ?l7 ?c7 ?k7 ?a8 ?l8 ?c8 ?k8 ?a9 ?l9 ?c9 ?k9 ?a10 ?l10 ?c10 ?k10 ?a11 ?l11 ?c11 ?k11 ?a12 ?l12 ?c12 ?k12 ?a13 ?l13 ?c13 ?k13 ?a14 ?l14 ?c14 ?k14 ?a15 ?l15 ?c15 ?k15 ?a16 ?l16 ?c16 ?k16 ?a17 ?l17 ?c17 ?k17 ?a18 ?l18 ?c18 ?k18 ?a19 ?l19 ?c19 ?k19 ?a20 ?l20 ?c20 ?k20 ?a21 ?l21 ?c21 ?k21 ?a22 ?l22 ?c22 ?k22 ?a23 ?l23 ?c23 ?k23 ?a24 ?l24 ?c24 ?k24 ?a25 ?l25 ?c25 ?k25 ?a26 ?l26 ?c26 ?k26 ?a27 ?l27 ?c27 ?k27 ?a28 ?l28 ?c28 ?k28 ?a29 ?l29 ?c29 ?k29 ?a30 ?l30 ?c30 ?k30 ?a31 ?l31 ?c31 ?k31 ?a32 ?l32 ?c32 ?k32 ?a33 ?l33 ?c33 ?k33 ?a34 ?l34 ?c34 ?k34 ?a35 ?l35 ?c35 ?k35 ?a36 ?l36 ?c36 ?k36 ?a37 ?l37 ?c37 ?k37 ?a38 ?l38 ?c38 ?k38 ?a39 ?l39 ?c39 ?k39 ?a40 ?l40 ?c40 ?k40 ?a41 ?l41 ?c41 ?k41 ?a42 ?l42 ?c42 ?k42 ?a43 ?l43 ?c43 ?k43 ?a44 ?l44 ?c44 ?k44 ?a45 ?l45 ?c45 ?k45 ?a46 ?l46 ?c46 ?k46 ?a47 ?l47 ?c47 ?k47 ?a48 ?l48 ?c48 ?k48 ?a49 ?l49 ?c49 ?k49 ?a50 ?l50 ?c50 ?k50 ?a51 ?l51 ?c51 ?k51 ?a52 ?l52 ?c52 ?k52 ?a53 ?l53 ?c53 ?k53 ?a54 ?l54 ?c54 ?k54 ?a55 ?l55 ?c55 ?k55 ?a56 ?l56 ?c56 ?k56 ?a57 ?l57 ?c57 ?k57 ?a58 ?l58 ?c58 ?k58 ?a59 ?l59 ?c59 ?k59 ?a60 ?l60 ?c60 ?k60 ?a61 ?l61 ?c61 ?k61 ?a62 ?l62 ?c62 ?k62 ?a63 ?l63 ?c63 ?k63 ?a64 ?l64 ?c64 ?k64 ?a65 ?l65 ?c65 ?k65 ?a66 ?l66 ?c66 ?k66 ?a67 ?l67 ?c67 ?k67 ?a68 ?l68 ?c68 ?k68 ?a69 ?l69 ?c69 ?k69 ?a70 ?l70 ?c70 ?k70 ?a71 ?l71 ?c71 ?k71 ?a72 ?l72 ?c72 ?k72 ?a73 ?l73 ?c73 ?k73 ?a74 ?l74 ?c74 ?k74 ?a75 ?l75 ?c75 ?k75 ?z_abs ?z_all ?z_any ?z_bool ?z_enumerate ?z_int ?z_isinstance ?z_len ?z_list ?z_range ?z_str ?z_tuple ?kn_FORMS ?kl_FORMS ?kq_FORMS ?hs_FORMS ?kn_HOLDERS ?kt_HOLDERS ?kn_MOST_HOLDERS ?kn_MOST_ROWS ?kn_NAME_SIGNS ?kt_NAME_SIGNS ?kn_SIGNS ?kl_SIGNS ?kq_SIGNS ?hs_SIGNS
  (case a0|l0|c0|k0|a1|l1|c1|k1|a2|l2|c2|k2|a3|l3|c3|k3|a4|l4|c4|k4|a5|l5|c5|k5|a6|l6|c6|k6|a7|l7|c7|k7|a8|l8|c8|k8|a9|l9|c9|k9|a10|l10|c10|k10|a11|l11|c11|k11|a12|l12|c12|k12|a13|l13|c13|k13|a14|l14|c14|k14|a15|l15|c15|k15|a16|l16|c16|k16|a17|l17|c17|k17|a18|l18|c18|k18|a19|l19|c19|k19|a20|l20|c20|k20|a21|l21|c21|k21|a22|l22|c22|k22|a23|l23|c23|k23|a24|l24|c24|k24|a25|l25|c25|k25|a26|l26|c26|k26|a27|l27|c27|k27|a28|l28|c28|k28|a29|l29|c29|k29|a30|l30|c30|k30|a31|l31|c31|k31|a32|l32|c32|k32|a33|l33|c33|k33|a34|l34|c34|k34|a35|l35|c35|k35|a36|l36|c36|k36|a37|l37|c37|k37|a38|l38|c38|k38|a39|l39|c39|k39|a40|l40|c40|k40|a41|l41|c41|k41|a42|l42|c42|k42|a43|l43|c43|k43|a44|l44|c44|k44|a45|l45|c45|k45|a46|l46|c46|k46|a47|l47|c47|k47|a48|l48|c48|k48|a49|l49|c49|k49|a50|l50|c50|k50|a51|l51|c51|k51|a52|l52|c52|k52|a53|l53|c53|k53|a54|l54|c54|k54|a55|l55|c55|k55|a56|l56|c56|k56|a57|l57|c57|k57|a58|l58|c58|k58|a59|l59|c59|k59|a60|l60|c60|k60|a61|l61|c61|k61|a62|l62|c62|k62|a63|l63|c63|k63|a64|l64|c64|k64|a65|l65|c65|k65|a66|l66|c66|k66|a67|l67|c67|k67|a68|l68|c68|k68|a69|l69|c69|k69|a70|l70|c70|k70|a71|l71|c71|k71|a72|l72|c72|k72|a73|l73|c73|k73|a74|l74|c74|k74|a75|l75|c75|k75|z_abs|z_all|z_any|z_bool|z_enumerate|z_int|z_isinstance|z_len|z_list|z_range|z_str|z_tuple|kn_FORMS|kl_FORMS=>k_is)
  (case kq_FORMS=>(repeat' (first|exact trivial|(refine And.intro ⟨_,rfl⟩ (And.intro rfl (And.intro rfl ?_))))))
  (case hs_FORMS=>kernel_rfl)
  (case kn_HOLDERS=>k_is)
  (case kt_HOLDERS=>kernel_rfl)
  (case kn_MOST_HOLDERS|kn_MOST_ROWS|kn_NAME_SIGNS=>k_is)
  (case kt_NAME_SIGNS=>kernel_rfl)
  (case kn_SIGNS|kl_SIGNS=>k_is)
  (case kq_SIGNS=>(repeat' (first|exact trivial|(refine And.intro ⟨_,rfl⟩ (And.intro rfl (And.intro ?_ ?_)))|kernel_rfl)))
  (case hs_SIGNS=>kernel_rfl)
